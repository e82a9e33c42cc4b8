import PyProof.Rows.All
import Wide.All
import OpenK.AllK
import Wide.FinOn
import Lean
import PyProof.EqAt
import PyProof.EqKinds
import PyProof.TupleCall
import KE.KSortTup
import PyProof.ZipIter
import PyProof.TupleIter
import PyProof.WalksMore
import PyProof.Rows.TupIter
import PyProof.EnumIter
import PyProof.EnumFor
import PyProof.EnumStmt
import PyProof.ReprRoads
import PyProof.Rows.SeqMore
import PyProof.ListMulRoad
import PyProof.FactsAll.tuple_2
import PyProof.FactsAll.tuple_3
import PyProof.Rows.Tup
import PyProof.ListRange
import PyProof.TupleOfSeq
import PyProof.SumAny
import PyProof.ConsumeS
import PyProof.Rows.CallKwBuiltin
import KE.KLam
import KE.KSortKey
import PyProof.AutoSeq1
import KE.KListMore
import PyProof.FactsAll.subtypes_4
import PyProof.SetRoads
import PyProof.Rows.SetFrom
import PyProof.WalkInts
import PyProof.DictDisplay
import PyProof.ReprBulk
import PyProof.DictWalks
import PyProof.RaisesMany
import PyProof.RulesAs
import PyProof.ExcClass3
import KE.KIsAll
import KE.KTryMore
import PyProof.ExcArgsOwn
import PyProof.ExcBaseAll.ValueError
import PySem.Challenge.RW_thinways_k30_times_refused
set_option Elab.async false
set_option linter.all false
set_option maxRecDepth 100000
def uf9:=@decide_eq_true
def uga:=@of_decide_eq_true
def ugb:=@decide_eq_false
def ugc:=@if_pos
def ugd:=@if_neg
open PySem.Challenge renaming pw_thinways_k30_times_refused→a7, rw_thinways_k30_times_refused→u6
open PySem.W renaming Frag→a8, nsIn→o9, mg_none_of→r8, kla_obj→uah, tabIn→uam, mg_of→uau, kia_one→uay, fnOf→ua3, keepIn→ua6, emptyDict→ubo, codeIn→ub4, instObj→ucb, tabObj→ucz, kitOne→uc0, kla_fn→udt, cellsFrom_some→ud6, findIn→uel, CodeHd→uem, callWith_K→uex, methodObj→uez, envX→ue2, tab_of→ufl, noTabs→ufm, lookIn→ufn, kitAny→ufo, kla_codeExpr→uf4, kla_callFunE→uf5
open PySem renaming wpAny_bind→a9, Value→d7, Shared→d8, Addr→j7, wpAny_pure→j9, mainGlobals→l6, Program→m9, wpAny→p8, sizeLine→p9, Around→v7, PyData→v9, model→z9, starEach→uaa, mem_of_lookup→uae, World→uaf, wpAny_field→uai, wpAny_holding→uav, wpAny_setField_rec→uaz, wpAny_mono→ua1, wpAny_callSpecial?_slot→ua5, Expr→ua9, wpAny_call_entry→ubf, wpAny_newObj_type→ubj, sizeLine_eq→ubk, FuncData→ubm, wpAny_truthy_bool→ubu, Stmt→ubv, wpAny_Call_Name_kw→ub2, Scope→ucd, wpAny_seqItems→uce, wpAny_passesOwn→ucm, codeAny_mono→ucy, wpAny_execs_nil→uc5, wpAny_attempt→uc6, wpAny_pyIter_list→udg, wpAny_setField→udn, wpAny_newList→udy, wpAny_loadPart'→ud4, wpAny_onRaise→ueu, wpAny_rule→ue0, wpAny_call→ue1, wpAny_updateSeq_pair→ue8, wpAny_newFunctionEnv→ue9, wpAny_newTuple→ufb, wpAny_letGo→ufc, wpAny_standAt→ufk, wpAny_typeOf→ufv, wpAny_execs_cons→uf1, noFill_tuple_add→uf2
open PySem.Heap renaming get?_push_of_some→b9, lt_size→j8, get?_push_size→l4, get?_update_other→p6, size_push→ua0, size_after_update→ua7, get?_update_self→ucf, get?_none_of_le→udh, ExtBut→ueb
open List renaming getElem?_eq_getElem→d6, getD_eq_getElem?_getD→f8, length_map→g9, mem_cons_self→i0, range→i6, getElem?_eq_some_iff→i8, mem_cons_of_mem→i9, length_append→j3, mem_singleton→j6, size_toArray→k9, mem_cons→l7, mem_append_right→l8, mem_of_getElem?→m3, mem_append→m5, replicate→o3, mem_range→o6, getElem?_map→o7, getElem?_append_right→p5, length_singleton→p7, getElem?_append_left→r6, nodup_cons→r9, mem_append_left→u4, getElem?_eq_none→u5, mem_map→v4, length_replicate→v5, length_range→v6, map_append→uab, all_eq_true→uad, not_mem_nil→uag, mem_filter→uak, length_set→ual, pairwise_iff_getElem→uan, map_cons→uaq, lookup_cons→uar, length_cons→uas, pairwise_map→ua2, pairwise_append→ua4, getD→ua8, nodup_append→uba, map_map→ubb, append_assoc→ubg, append_nil→ubi, ext_getElem?→ubp, getElem?_range→ubs, find?_cons→ubt, length_drop→ubx, Nodup→uby, eq_nil_or_concat→ubz, replicate_succ→ub6, getElem?_set_self→uca, reverse_cons→ucl, nodup_nil→uco, drop_eq_getElem_cons→ucp, append_inj'→ucs, map_congr_left→uct, getElem?_replicate→ucu, getElem?_cons_succ→ucv, flatten_cons→uc4, take_append_drop→uc8, mem_iff_getElem?→uc9, take_length→udc, nodup_range→udd, filter_cons→ude, ext_getElem→udf, perm_cons_erase→udk, mem_of_mem_take→udl, getElem?_set_ne→udm, reverse_append→udp, of_mem_zip→udq, filter_sublist→udr, filterMap_cons→uds, perm_ext_iff_of_nodup→udw, zip_cons_cons→ud0, pairwise_singleton→uec, mem_reverse→ued, mem_flatMap→uee, length_take→uef, countP_cons→ueg, take_of_length_le→uei, pairwise_lt_range→uej, toArray→uen, range_succ→ueo, mem_of_mem_erase→uep, length_nil→ueq, countP_mono_left→uer, concat_eq_append→ues, all_map→uet, pairwise_cons→ue4, find?_eq_none→ue5, append_of_mem→ue6, map_snd_zip→uff, getElem_mem→ufg, any_eq_true→ufh, forIn_cons→ufr, mem_of_find?_eq_some→ufx, getElem?_zip_eq_some→ufy, any_cons→uf7
open Nat renaming le_refl→i7, ne_of_lt→o0, lt_of_lt_of_le→o8, le_trans→w6, zero_le→uac, lt_of_le_of_lt→ubc, lt_irrefl→ubh, le_of_eq→ubl, lt_trichotomy→ubr, lt_or_ge→uch, le_succ→uci, strongRecOn→ucx, ne_of_gt→uda, lt_trans→udb, le_add_right→udj, not_lt_zero→udu, sub_self→ud1, le_of_lt→ud2, add_comm→ud3, lt_succ_of_lt→ud8, lt_succ_self→ueh, succ_le_succ→ufq
open Bool renaming false_ne_true→m7, and_eq_true→w8, false_eq_true→uaw, eq_false_iff→ubq, eq_iff_iff→ucg, or_eq_true→ufs, and_false→ufz, and_true→uf8
open Option.some renaming inj→t6
open PySem.Str renaming ofString→u7
open Or renaming inl→v8, inr→ufp
open Int renaming le_refl→uaj, toNat_of_nonneg→uao, natCast_nonneg→uat, emod_lt_of_pos→ucc, le_of_lt→ucj, emod_nonneg→uck, toNat_natCast→uc7, lt_trans→uev, add_right_comm→ufa, ne_of_lt→ufi, le_trans→ufj
open PySem.PyData renaming depthAll→uap, canLayAll0→ube, leavesShortAll→ubw, canLay0→ub7, showableAll→ub9, tuple→ucq, int→ucr, hasDictAll→uc1, bulkAll→uc2, depth→uc3, list→udo, eqv→ue3, strOk→uf6
open PyProof.Rows renaming slot_tuple_getitem→uax, callWith_type1→ub5
open Array renaming getElem?_eq_some_iff→ubd, length_toList→ub3, find?_toList→udx, mk→ud9, getElem?_toList→uek, mem_toList_iff→uew, getElem?_eq_getElem→ufu, getD→uf0
open PySem.F renaming plainAttrs_list→ubn, type_list_append→ub0, slot_list_append→ub1, slot_tuple_iterator_next→ucn, slot_enumerate_next→udi, args_tuple_add_2→udz, entry_tuple_add→ud5, slot_tuple_add→ud7, slot_zip_next→uey, excAttr_ValueError→ufe, plain_list_iadd→uft, args_tuple_iterator_next_1→ufw, entry_tuple_iterator_next→uf3
open List.Pairwise renaming nil→ub8
open Option renaming map_eq_some_iff→ucw
open List.Perm renaming eq_of_pairwise→udv, refl→ufd
open PySem.Heap.SameBut renaming update→uea
open Array.Perm renaming refl→ue7
local macro_rules | `(tactic| ac_rfl) => `(tactic| first | exact (fun _ _ _ _ _ _ us hl => match us, hl with | [_], _ => rfl) | exact (fun _ _ _ _ _ _ us hl => match us, hl with | [_, _], _ => rfl) | exact (fun _ _ _ _ _ _ us hl => match us, hl with | [_, _, _], _ => rfl) | exact (fun _ _ _ _ _ _ us hl => match us, hl with | [_, _, _, _], _ => rfl) | exact (fun _ _ _ _ _ _ us hl => match us, hl with | [_, _, _, _, _], _ => rfl) | exact (fun _ _ _ _ _ _ us hl => match us, hl with | [_, _, _, _, _, _], _ => rfl) | exact (fun _ _ _ _ _ _ us hl => match us, hl with | [_, _, _, _, _, _, _], _ => rfl))
local macro_rules | `(tactic| left) => `(tactic| first | lia | omega)
local macro_rules | `(tactic| symm) => `(tactic| decide +kernel)
local macro_rules | `(tactic| right) => `(tactic| exact ⟨rfl, rfl, rfl, by decide +kernel, rfl, by decide +kernel, by decide +kernel⟩)
namespace L2
open PySem PySem.Spec PyProof.Rows
abbrev Key:=Sum Int Str
def keyIs:Key->d7->Bool
 | .inl k,v=>Value.isInt k v
 | .inr x,v=>Value.isStrOf x v
def keyH (w:uaf):Key->Int
 | .inl k=>hashInt k
 | .inr x=>hashStr w x
theorem cF:∀ {k:Key}{v:d7},keyIs k v=true->(∃ i t,k=Sum.inl i/\v=Value.int i t)\/(∃ x t,k=Sum.inr x/\v=Value.str x t)
 | .inl i,v,h=>by
  obtain⟨t,e⟩:=Value.isInt_shape (k:=i) (v:=v) h
  exact .inl ⟨i,t,rfl,e⟩
 | .inr x,v,h=>by
  obtain⟨t,e⟩:=Value.isStrOf_shape (x:=x) (v:=v) h
  exact .inr ⟨x,t,rfl,e⟩
theorem zbc (a b:Int):decide ((Sum.inl a:Key)=Sum.inl b)=(a==b):=by
 by_cases e:a=b
 ·subst e;simp
 ·have h:¬ (Sum.inl a:Key)=Sum.inl b:=λ q=>e (Sum.inl.inj q)
  rw[ugb h]
  exact (beq_eq_false_iff_ne.mpr e).symm
theorem za9 (a b:Str):decide ((Sum.inr a:Key)=Sum.inr b)=decide (a=b):=by
 by_cases e:a=b
 ·subst e;simp
 ·have h:¬ (Sum.inr a:Key)=Sum.inr b:=λ q=>e (Sum.inr.inj q)
  rw[ugb h,ugb e]
theorem zbb (a:Int)(b:Str):decide ((Sum.inl a:Key)=Sum.inr b)=false:=ugb (λ q=>nomatch q)
theorem zba (a:Str)(b:Int):decide ((Sum.inr a:Key)=Sum.inl b)=false:=ugb (λ q=>nomatch q)
def mixKind (prog:m9)(w:uaf):PySem.KeyKind prog w Key where
 is:=keyIs
 hash:=keyH w
 inj:=λ v a b ha hb=>by
  rcases cF ha with ⟨i,t,rfl,rfl⟩ | ⟨x,t,rfl,rfl⟩
  ·rcases cF hb with ⟨j,u,rfl,e⟩ | ⟨y,u,rfl,e⟩
   ·injection e with e1 _;rw[e1]
   ·exact nomatch e
  ·rcases cF hb with ⟨j,u,rfl,e⟩ | ⟨y,u,rfl,e⟩
   ·exact nomatch e
   ·injection e with e1 _;rw[e1]
 byValue:=λ k v h=>by
  rcases cF h with ⟨i,t,rfl,rfl⟩ | ⟨x,t,rfl,rfl⟩ <;> rfl
 pyHash:=λ hv h=>by
  rcases cF hv with ⟨i,t,rfl,rfl⟩ | ⟨x,t,rfl,rfl⟩
  ·exact wpAny_pyHash_int h
  ·exact wpAny_pyHash_str h
 eqBool:=λ hu hv h=>by
  rcases cF hu with ⟨i,t,rfl,rfl⟩ | ⟨x,t,rfl,rfl⟩
  ·rcases cF hv with ⟨j,u,rfl,rfl⟩ | ⟨y,u,rfl,rfl⟩
   ·rw[zbc] at h;exact wpAny_eqBool_int h
   ·rw[zbb] at h;exact SeqAt.EqAt.int_str i t y u _ _ _ _ h
  ·rcases cF hv with ⟨j,u,rfl,rfl⟩ | ⟨y,u,rfl,rfl⟩
   ·rw[zba] at h;exact SeqAt.EqAt.str_int x t j u _ _ _ _ h
   ·rw[za9] at h;exact wpAny_eqBool_str h
 «strs»:=λ k x t v h=>by
  rcases cF h with ⟨i,u,rfl,e⟩ | ⟨y,u,rfl,e⟩
  ·exact nomatch e
  ·injection e with e1 _
   subst e1
   cases v <;> rfl
end L2
namespace L2
open PySem PySem.Spec PyProof.Rows
inductive V where
 | non | bl (b:Bool) | int (i:Int) | str (x:Str) | byt (b:Array UInt8) | flt (b:UInt64) | ref (a:j7) | ty (n:String)
 deriving DecidableEq
def RelV:V->d7->Prop
 | .non,u=>u=Value.none
 | .bl b,u=>u=Value.bool b
 | .int i,u=>∃ t,u=Value.int i t
 | .str x,u=>∃ t,u=Value.str x t
 | .byt b,u=>∃ t,u=Value.bytes b t
 | .flt b,u=>∃ t,u=Value.float b t
 | .ref a,u=>u=Value.ref a
 | .ty n,u=>u=Value.type n
abbrev Vals:List V->List d7->Prop:=Paired RelV
theorem Vals.length {xs:List V}{us:List d7}(r:Vals xs us):xs.length=us.length:=Paired.length r
theorem Vals.get:∀ {xs:List V}{us:List d7}{i:Nat}{x:V},Vals xs us->xs[i]?=some x->∃ u,us[i]?=some u/\RelV x u
 | _,_,_,_,.nil,e=>by simp at e
 | _,_,0,_,.cons r _,e=>by simp at e;subst e;exact⟨_,rfl,r⟩
 | _,_,i+1,x,.cons _ t,e=>by
  obtain⟨u,h1,h2⟩:=Vals.get (i:=i) (x:=x) t (by simpa using e)
  exact⟨u,by simpa using h1,h2⟩
theorem Vals.set {x:V}{u:d7}(r:RelV x u):∀ {xs:List V}{us:List d7}(i:Nat),Vals xs us->Vals (xs.set i x) (us.set i u)
 | _,_,_,.nil=>.nil
 | _,_,0,.cons _ t=>.cons r t
 | _,_,i+1,.cons q t=>.cons q (Vals.set r i t)
theorem Vals.append:∀ {xs ys:List V}{us ws:List d7},Vals xs us->Vals ys ws->Vals (xs++ys) (us++ws)
 | _,_,_,_,.nil,s=>s
 | _,_,_,_,.cons r t,s=>.cons r (Vals.append t s)
theorem Vals.take:∀ {xs:List V}{us:List d7}(n:Nat),Vals xs us->Vals (xs.take n) (us.take n)
 | _,_,0,_=>.nil
 | _,_,_+1,.nil=>.nil
 | _,_,n+1,.cons r t=>.cons r (Vals.take n t)
theorem Vals.drop:∀ {xs:List V}{us:List d7}(n:Nat),Vals xs us->Vals (xs.drop n) (us.drop n)
 | _,_,0,r=>r
 | _,_,_+1,.nil=>.nil
 | _,_,n+1,.cons _ t=>Vals.drop n t
def RelO:Option V->Option d7->Prop
 | some v,some u=>RelV v u
 | none,none=>True
 | _,_=>False
def KV {κ:Type}:List (κ × V)->List (κ × d7)->Prop:=Paired λ (p:κ × V) (q:κ × d7)=>p.1=q.1/\RelV p.2 q.2
def kV:Key->V
 | .inl i=>.int i
 | .inr x=>.str x
inductive HO where
  | lst (xs:List V)
  | tup (xs:List V)
  | dK (kvs:List (Key × V)) | dT (kvs:List (List Key × V))
  | set (S:Int->Bool) (n:Nat)
  | ins (C dx:j7) (fs:List (Str × V))
  | own (x:j7)
  | xd (fs:List (Str × V))
  | met (f x:j7)
  | rng (lo hi:Int)
  | frz (o:Obj) (u:HO)
  | tbl (ps:Array d7)
  | ext (φ:Heap->Prop)
abbrev Hp:=j7->Option HO
def upd (H:Hp)(a:j7)(o:HO):Hp:=λ b=>if b=a then some o else H b
theorem aH {H:Hp}{a:j7}{o:HO}:upd H a o a=some o:=by unfold upd;rw[ugc rfl]
theorem aD {H:Hp}{a b:j7}{o:HO}(h:b≠a):upd H a o b=H b:=by unfold upd;rw[ugd h]
theorem nB {H:Hp}{a:j7}{o u:HO}:upd (upd H a o) a u=upd H a u:=by
 funext b;unfold upd;split <;> rfl
theorem aT {H:Hp}{a b:j7}{o:HO}(h:H a=some o)(h':H b=none):a≠b:=by
 intro e;subst e;rw[h] at h';cases h'
section
variable (P:m9)(w:uaf)
def TupN (h:Heap)(a:j7)(items:Array d7):Prop:=∃ o,h.get? a=some o/\o.cls=.type "tuple"/\(∃ n,o.data=.seq items n)/\o.dict=none
theorem TupN.tup {h:Heap}{a:j7}{items:Array d7}(x:TupN h a items):IsTup h a items:=let ⟨o,e,c,d,_⟩:=x;⟨o,e,c,d⟩
theorem TupN.new (h:Heap)(items:Array d7):TupN (h.push { cls:=.type "tuple",data:=.seq items }) h.objs.size items:=⟨_,l4 _ rfl,rfl,⟨_,rfl⟩,rfl⟩
def ObjOk (H:Hp)(h:Heap)(a:j7):HO->Prop
 | .lst xs=>xs.length<=p9/\∃ (its:List d7)(n:Nat),Vals xs its/\h.get? a=some { cls:=.type "list",data:=.seq its.toArray n }
 | .tup xs=>xs.length<=p9/\∃ its:List d7,Vals xs its/\TupN h a its.toArray
 | .dK kvs=>kvs.length<=p9/\(a==sysModules)=false/\∃ vs,KV kvs vs/\h.DictOf (mixKind P w) a vs
 | .dT kvs => kvs.length <= p9 /\ (a==sysModules) = false /\ ∃ xs : List (List Key × j7 × d7),
     Paired (λ (p:List Key × V) (q:List Key × j7 × d7)=>p.1=q.1/\H q.2.1=some (.tup (p.1.map kV))/\RelV p.2 q.2.2) kvs xs /\
     ∃ o es ep,h.get? a=some o/\o.ExactDict/\o.data=.dict es ep/\es.toList=xs.map (entryOfKey (tupleKind (mixKind P w)))/\(xs.map (·.1)).Nodup
 | .set S n=>h.SetOf (intKind P w) a S n
 | .ins C dx fs => H dx = some (.own a) /\ fs.length <= 1000 /\ dx ≠ a /\ h.get? a = some (ucb C dx) /\
     ∃ mA,h.Ns1 dx mA/\(∀ f,RelO (fs.lookup f) (mA f))/\PySem.Within mA (fs.map (·.1))
 | .own _=>∃ o,h.get? a=some o
 | .xd fs=>∃ mA,h.Ns1 a mA/\∀ f,RelO (fs.lookup f) (mA f)
 | .rng lo hi=>∃ t u v,h.get? a=some { cls:=.type "range",data:=.fields #[.int lo t,.int hi u,.int 1 v] }
 | .frz o u=>h.get? a=some o/\ObjOk H h a u
 | .tbl ps=>h.get? a=some { cls:=.none,data:=.fields ps }
 | .met f x=>h.get? a=some (uez (.ref f) (.ref x))
 | .ext φ=>φ h/\(∃ o,h.get? a=some o)/\∀ h1 h2:Heap,φ h1->(∀ o,h1.get? a=some o->h2.get? a=some o)->φ h2
def HOk (H:Hp)(h:Heap):Prop:=∀ a o,H a=some o->ObjOk P w H h a o
end
section
variable {P:m9}{w:uaf}{H H':Hp}{h h':Heap}{a:j7}{o:HO}
theorem ObjOk.lt (x:ObjOk P w H h a o):a<h.objs.size:=by
 cases o with
 | lst xs=>obtain⟨_,_,_,_,e⟩:=x;exact j8 e
 | tup xs=>obtain⟨_,_,_,p⟩:=x;exact p.tup.lt
 | dK kvs=>obtain⟨_,_,_,_,o,_,_,e,_⟩:=x;exact j8 e
 | dT kvs=>obtain⟨_,_,_,_,o,_,_,e,_⟩:=x;exact j8 e
 | set S n=>obtain⟨o,_,_,_,e,_⟩:=x;exact j8 e
 | ins C dx fs=>obtain⟨_,_,_,e,_⟩:=x;exact j8 e
 | own y=>obtain⟨_,e⟩:=x;exact j8 e
 | xd fs=>obtain⟨_,⟨_,_,_,e,_⟩,_⟩:=x;exact j8 e
 | rng lo hi=>obtain⟨_,_,_,e⟩:=x;exact j8 e
 | frz ob u=>obtain⟨e,_⟩:=x;exact j8 e
 | tbl ps=>exact j8 (show h.get? a=some _ from x)
 | met f y=>exact j8 (show h.get? a=some _ from x)
 | ext φ=>obtain⟨_,⟨_,e⟩,_⟩:=x;exact j8 e
theorem Paired.mapP {α β:Type}{F G:α->β->Prop}:∀ {l₁:List α}{l₂:List β},Paired F l₁ l₂->(∀ a b,F a b->G a b)->Paired G l₁ l₂
 | _,_,.nil,_=>.nil
 | _,_,.cons r t,f=>.cons (f _ _ r) (Paired.mapP t f)
theorem ObjOk.stay (x:ObjOk P w H h a o)(k:∀ b u,(b=a\/H b=some (.own a))->h.get? b=some u->h'.get? b=some u)
  (ho:∀ b,H b=some (.own a)->H' b=some (.own a)) (ht:∀ b xs,H b=some (.tup xs)->H' b=some (.tup xs)):ObjOk P w H' h' a o:=by
 induction o with
 | lst xs=>obtain⟨z,its,n,r,e⟩:=x;exact⟨z,its,n,r,k _ _ (.inl rfl) e⟩
 | tup xs=>obtain⟨z,its,r,ob,e,c⟩:=x;exact⟨z,its,r,ob,k _ _ (.inl rfl) e,c⟩
 | dK kvs=>obtain⟨z,y,vs,r,ob,es,ep,e,c⟩:=x;exact⟨z,y,vs,r,ob,es,ep,k _ _ (.inl rfl) e,c⟩
 | dT kvs =>
  obtain⟨z,y,xs,r,ob,es,ep,e,c⟩:=x
  exact⟨z,y,xs,Paired.mapP r λ p q z=>⟨z.1,ht _ _ z.2.1,z.2.2⟩,ob,es,ep,k _ _ (.inl rfl) e,c⟩
 | set S n=>obtain⟨ob,es,ep,t,e,c⟩:=x;exact⟨ob,es,ep,t,k _ _ (.inl rfl) e,c⟩
 | ins C dx fs =>
  obtain⟨d,z,ne,e,mA,⟨od,es,ep,e2,c⟩,r⟩:=x
  exact⟨ho _ d,z,ne,k _ _ (.inl rfl) e,mA,⟨od,es,ep,k _ _ (.inr d) e2,c⟩,r⟩
 | own y=>obtain⟨ob,e⟩:=x;exact⟨ob,k _ _ (.inl rfl) e⟩
 | xd fs=>obtain⟨mA,⟨od,es,ep,e,c⟩,r⟩:=x;exact⟨mA,⟨od,es,ep,k _ _ (.inl rfl) e,c⟩,r⟩
 | rng lo hi=>obtain⟨t,u,v,e⟩:=x;exact⟨t,u,v,k _ _ (.inl rfl) e⟩
 | frz ob u ih=>obtain⟨e,q⟩:=x;exact⟨k _ _ (.inl rfl) e,ih q⟩
 | tbl ps =>
  have e:h.get? a=some { cls:=.none,data:=.fields ps }:=x
  show h'.get? a=some { cls:=.none,data:=.fields ps }
  exact k a _ (.inl rfl) e
 | met f y =>
  have e:h.get? a=some (uez (.ref f) (.ref y)):=x
  show h'.get? a=some (uez (.ref f) (.ref y))
  exact k a _ (.inl rfl) e
 | ext φ=>obtain⟨p,⟨o,e⟩,st⟩:=x;exact⟨st _ _ p λ o q=>k _ _ (.inl rfl) q,⟨o,k _ _ (.inl rfl) e⟩,st⟩
theorem HOk.lt (x:HOk P w H h)(e:H a=some o):a<h.objs.size:=(x a o e).lt
theorem HOk.fresh (x:HOk P w H h)(e:h.objs.size<=a):H a=none:=by
 cases q:H a with
 | none=>rfl
 | some u=>exact absurd (o8 (x.lt q) e) (ubh _)
theorem HOk.kept (x:HOk P w H h)(k:∀ b u,h.get? b=some u->h'.get? b=some u):HOk P w H h':=λ a o e =>
 (x a o e).stay (λ b u _ q=>k b u q) (λ _ q=>q) λ _ _ q=>q
theorem HOk.laid (x:HOk P w H h)(k:∀ b u,h.get? b=some u->h'.get? b=some u)(hp:h.objs.size<=a)(new:ObjOk P w (upd H a o) h' a o):HOk P w (upd H a o) h':=λ b u e=>by
 have hn:=x.fresh hp
 by_cases hb:b=a
 ·subst hb;rw[aH] at e;cases e;exact new
 ·rw[aD hb] at e
  exact (x b u e).stay (λ c v _ q=>k c v q) (λ c q=>by rw[aD (aT q hn)];exact q) λ c xs q=>by rw[aD (aT q hn)];exact q
end
def Rd (H:Hp)(a:j7)(u:HO):Prop:=H a=some u\/∃ o,H a=some (.frz o u)
theorem Rd.of {H:Hp}{a:j7}{u:HO}(h:H a=some u):Rd H a u:=.inl h
theorem Rd.ok {P:m9}{w:uaf}{H:Hp}{h:Heap}{a:j7}{u:HO}(r:Rd H a u)(x:HOk P w H h):ObjOk P w H h a u:=by
 rcases r with r | ⟨o,r⟩
 ·exact x a u r
 ·obtain⟨_,q⟩:=x a _ r
  exact q
def Mut:Option HO->Prop
 | some (.lst _)=>True
 | some (.dK _)=>True
 | some (.dT _)=>True
 | some (.set _ _)=>True
 | some (.ins _ _ _)=>True
 | some (.ext _)=>True
 | _=>False
section
variable {P:m9}{w:uaf}{H:Hp}{h h':Heap}{x e:j7}{o':HO}
theorem HOk.write (ok:HOk P w H h)(mu:Mut (H x))(he:e=x\/H e=some (.own x))(k:∀ b u,b≠e->h.get? b=some u->h'.get? b=some u)(heo:∃ u,h'.get? e=some u)
  (new:ObjOk P w (upd H x o') h' x o'):HOk P w (upd H x o') h':=λ b u q=>by
 have nown:∀ c y,H c=some (.own y)->c≠x:=λ c y r z=>by subst z;rw[r] at mu;exact mu
 have ntup:∀ c xs,H c=some (.tup xs)->c≠x:=λ c xs r z=>by subst z;rw[r] at mu;exact mu
 by_cases hb:b=x
 ·subst hb;rw[aH] at q;cases q;exact new
 ·rw[aD hb] at q
  by_cases hbe:b=e
  ·have q':H b=some (.own x):=by
    rcases he with z | z
    ·exact absurd (hbe.trans z) hb
    ·rw[hbe];exact z
   rw[q] at q';cases q'
   obtain⟨v,hv⟩:=heo
   exact⟨v,by rw[hbe];exact hv⟩
  ·refine (ok b u q).stay (λ c v hc r=>k c v ?_ r) (λ c r=>by rw[aD (nown c b r)];exact r) λ c xs r=>by rw[aD (ntup c xs r)];exact r
   rcases hc with rfl | hc
   ·exact hbe
   ·rintro rfl
    rcases he with z | z
    ·exact nown c b hc z
    ·rw[hc] at z;cases z;exact hb rfl
end
structure Un (fs ex:List j7)(H H':Hp)(h h':Heap):Prop where
 keep:∀ b o,h.get? b=some o->H b=none->b∉fs->b∉ex->h'.get? b=some o
 slot:∀ b o,h.get? b=some o->H b=none->b∈fs->b∉ex->∃ sl,h'.get? b=some { o with slots:=sl }
 free:∀ b o,h.get? b=some o->H b=none->b∉ex->H' b=none
 there:∀ b o,h.get? b=some o->b∉ex->∃ o',h'.get? b=some o'
 tups:∀ b xs,H b=some (.tup xs)->H' b=some (.tup xs)
 frzs:∀ b o u,H b=some (.frz o u)->H' b=some (.frz o u)
 tbls:∀ b ps,H b=some (.tbl ps)->∃ more,H' b=some (.tbl (ps++more))
section
variable {fs fs' ex ex':List j7}{H H1 H2:Hp}{h h1 h2 h':Heap}{a x e:j7}{o:HO}
theorem Un.any (u:Un fs ex H H1 h h1){b:j7}{ob:Obj}(q:h.get? b=some ob)(n:H b=none)(hx:b∉ex):∃ sl,h1.get? b=some { ob with slots:=sl }:=by
 by_cases hb:b∈fs
 ·exact u.slot b ob q n hb hx
 ·exact⟨ob.slots,u.keep b ob q n hb hx⟩
theorem Un.trans (a:Un fs ex H H1 h h1)(b:Un fs ex H1 H2 h1 h2):Un fs ex H H2 h h2 where
 keep:=λ c ob q n hc hx=>b.keep c ob (a.keep c ob q n hc hx) (a.free c ob q n hx) hc hx
 slot:=λ c ob q n hc hx=>by
  obtain⟨sl,e1⟩:=a.slot c ob q n hc hx
  obtain⟨sl',e2⟩:=b.slot c _ e1 (a.free c ob q n hx) hc hx
  exact⟨sl',e2⟩
 free:=λ c ob q n hx=>by
  obtain⟨o',e1⟩:=a.there c ob q hx
  exact b.free c o' e1 (a.free c ob q n hx) hx
 there:=λ c ob q hx=>by
  obtain⟨o',e1⟩:=a.there c ob q hx
  exact b.there c o' e1 hx
 tups:=λ c xs q=>b.tups c xs (a.tups c xs q)
 frzs:=λ c ob xs q=>b.frzs c ob xs (a.frzs c ob xs q)
 tbls:=λ c ps q=>by
  obtain⟨m1,e1⟩:=a.tbls c ps q
  obtain⟨m2,e2⟩:=b.tbls c _ e1
  exact⟨m1++m2,by rw[e2,Array.append_assoc]⟩
theorem Un.kept (k:∀ b u,h.get? b=some u->h'.get? b=some u):Un fs ex H H h h' :=
 ⟨λ b ob q _ _ _=>k b ob q,λ b ob q _ _ _=>⟨ob.slots,k b ob q⟩,λ _ _ _ n _=>n,λ b ob q _=>⟨ob,k b ob q⟩,λ _ _ q=>q,λ _ _ _ q=>q,λ _ ps q=>⟨#[],by rw[q];simp⟩⟩
theorem Un.refl:Un fs ex H H h h:=Un.kept λ _ _ q=>q
theorem Un.laid (k:∀ b u,h.get? b=some u->h'.get? b=some u)(hp:h.objs.size<=a)(hn:H a=none):Un fs ex H (upd H a o) h h' where
 keep:=λ b u q _ _ _=>k b u q
 slot:=λ b u q _ _ _=>⟨u.slots,k b u q⟩
 free:=λ b u q n _=>by rw[aD (o0 (o8 (j8 q) hp))];exact n
 there:=λ b u q _=>⟨u,k b u q⟩
 tups:=λ b xs q=>by rw[aD (aT q hn)];exact q
 frzs:=λ b u xs q=>by rw[aD (aT q hn)];exact q
 tbls:=λ b ps q=>⟨#[],by rw[aD (aT q hn),q];simp⟩
theorem Un.write (mu:Mut (H x))(he:e=x\/H e=some (.own x))(k:∀ b u,b≠e->h.get? b=some u->h'.get? b=some u)(heo:∃ u,h'.get? e=some u):Un fs ex H (upd H x o) h h':=by
 have hx:∀ b,H b=none->b≠x:=λ b n z=>by subst z;rw[n] at mu;exact mu
 have hb:∀ b,H b=none->b≠e:=λ b n z=>by
  subst z
  rcases he with r | r
  ·exact hx b n r
  ·rw[n] at r;cases r
 have hm:∀ b u,H b=some u->¬ Mut (some u)->b≠x:=λ b u q nm z=>by subst z;rw[q] at mu;exact nm mu
 refine⟨λ b u q n _ _=>k b u (hb b n) q,λ b u q n _ _=>⟨u.slots,k b u (hb b n) q⟩,λ b u q n _=>by rw[aD (hx b n)];exact n,λ b u q _=>?_,
  λ b xs q=>by rw[aD (hm b _ q λ z=>z)];exact q,λ b u xs q=>by rw[aD (hm b _ q λ z=>z)];exact q,λ b ps q=>⟨#[],by rw[aD (hm b _ q λ z=>z),q];simp⟩⟩
 by_cases hbe:b=e
 ·subst hbe;exact heo
 ·exact⟨u,k b u hbe q⟩
theorem Un.mono (u:Un fs ex H H1 h h1)(hs:∀ b∈fs,b∈fs')(hx:∀ b∈ex,b∈ex'):Un fs' ex' H H1 h h1 :=
 ⟨λ b ob q n hb he=>u.keep b ob q n (λ z=>hb (hs b z)) λ z=>he (hx b z),λ _ _ q n _ he=>u.any q n λ z=>he (hx _ z),λ b ob q n he=>u.free b ob q n λ z=>he (hx b z),λ b ob q he=>u.there b ob q λ z=>he (hx b z),u.tups,u.frzs,u.tbls⟩
end
def trk (h:Heap)(H:Hp):List j7:=(i6 h.objs.size).filter λ a=>(H a).isSome
def hidT (h:Heap)(H:Hp):Heap:=PySem.W.hideAll h (trk h H)
theorem vU (h:Heap)(H:Hp):(hidT h H).objs.size=h.objs.size:=PySem.W.hideAll_size _ _
theorem fR {h:Heap}{H:Hp}{b:j7}{o:Obj}(e:h.get? b=some o)(n:H b=none):(hidT h H).get? b=some o :=
 PySem.W.hideAll_get _ e λ hm=>by
  have q:(H b).isSome=true:=(uak.mp hm).2
  rw[n] at q;simp at q
theorem zU {h:Heap}{H:Hp}{b:j7}{o:Obj}(e:(hidT h H).get? b=some o):h.get? b=some o/\H b=none:=by
 have e':h.get? b=some o:=PySem.W.of_hideAll (trk h H) e
 refine⟨e',?_⟩
 cases q:H b with
 | none=>rfl
 | some x =>
  have hm:b∈trk h H:=uak.mpr ⟨o6.mpr (j8 e'),by simp [q]⟩
  have z:(hidT h H).get? b=none:=PySem.W.hideAll_none (trk h H) hm
  rw[z] at e;cases e
def allNews (g h:Heap)(L:j7):List (j7 × Obj):=(i6 h.objs.size).filterMap λ a=>if a=L\/(g.get? a).isSome=true then none else (h.get? a).map λ o=>(a,o)
def rest (g h:Heap)(L d:j7):List (j7 × Obj):=(allNews g h L).filter λ p=>decide (p.1≠d)
end L2
namespace L2
open PySem PySem.Spec PyProof.Rows
structure Mod (K:a8)(mg:Str->Option d7)(base:Heap):Prop where
 kin:K.In base
 glob:base.Ns l6 mg
 blt:∃ mb,base.Ns builtinsNs mb/\∀ x:Str,x≠"__name__"->mb x=bootBuiltins x
 nolimit:base.NoLimit
structure Cx where
 prog:m9
 w:uaf
 K:a8
 mg:Str->Option d7
 base:Heap
 A:v7
 N:List Str
 s₀:d8
 H₀:Hp
 env:Env
 outer:List Env
 stack:List Env
 ex:List j7
 fn:Str->Bool
 calm:Bool
 pn:List (j7 × Obj)
 xe:d7->d8->Prop
def frs (l:List Env):List j7:=l.filterMap (·.frame)
abbrev Cx.fs (X:Cx):List j7:=frs X.outer
def Vis (sc:ucd)(x:Str):Prop:=sc.names.lookup x=some .local\/sc.names.lookup x=some .cell\/sc.names.lookup x=some .free
def Loc (sc:ucd)(x:Str):Prop:=sc.names.lookup x=some .local\/sc.names.lookup x=some .cell
def Look (env:Env)(h:Heap)(m:Str->Option d7)(x:Str)(u:d7):Prop :=
 (env.kindOf x=some .local/\m x=some u)\/((env.kindOf x=some .cell\/env.kindOf x=some .free)/\∃ c,env.cells.lookup x=some c/\h.IsCell c (some u))
structure Cx.Ok (X:Cx):Prop where
 mod:Mod X.K X.mg X.base
 kind:X.env.scope.kind=.function
 glob:X.env.globals=l6
 blt:X.env.builtins=builtinsNs
 above:X.s₀.heap.objs.size<=X.env.locals
 inj:∀ x y c,X.env.cells.lookup x=some c->X.env.cells.lookup y=some c->x=y
 has:∀ x,(X.env.kindOf x=some .cell\/X.env.kindOf x=some .free)->∃ c,X.env.cells.lookup x=some c
 cab:∀ x c,X.fn x=true->X.env.cells.lookup x=some c->X.s₀.heap.objs.size<=c
 hd:X.calm=true->X.A.handled=none
 frames:X.A.frames=some X.stack
 stk:X.stack=X.outer\/(X.stack=X.env::X.outer/\X.env.frame=some X.env.locals)
 exf:∀ b∈X.ex,b≠X.env.locals/\∀ x c,X.env.cells.lookup x=some c->c≠b
 bs:∀ b o,X.base.get? b=some o->X.s₀.heap.get? b=some o/\X.H₀ b=none
 bsz:X.base.objs.size<=X.s₀.heap.objs.size
 noex:∀ b o,X.base.get? b=some o->b∉X.ex
 exfs:∀ b∈X.ex,b∉X.fs
 funs:X.s₀.heap.FunFrames X.base X.outer
 frf:∀ b∈X.fs,X.H₀ b=none
structure Inv (X:Cx)(pins:List (j7 × Obj))(σ:List (Option V))(H:Hp)(s:d8):Prop where
 ok:X.Ok
 os:s.os=X.s₀.os
 bare:AllBare s.gens
 base:Un X.fs X.ex X.H₀ H X.s₀.heap s.heap
 loc:∃ m,s.heap.Ns X.env.locals m/\∀ (i:Nat)(x:Str)(v:V),X.N[i]?=some x->σ[i]?=some (some v)->Vis X.env.scope x->∃ u,RelV v u/\Look X.env s.heap m x u
 cell:∀ x c,X.env.cells.lookup x=some c->∃ v,s.heap.IsCell c v
 free:H X.env.locals=none
 freeC:∀ x c,X.env.cells.lookup x=some c->H c=none
 pin:∀ p∈X.pn++pins,s.heap.get? p.1=some p.2/\H p.1=none/\p.1≠X.env.locals/\p.1∉X.fs/\∀ v,p.2.data≠.cell v
 hok:HOk X.prog X.w H s.heap
 len:σ.length=X.N.length
section
variable {X:Cx}{pins:List (j7 × Obj)}{σ:List (Option V)}{H H':Hp}{s:d8}{h':Heap}
theorem Cx.Ok.nofr (ok:X.Ok){b:j7}{o:Obj}(e:X.base.get? b=some o):b∉X.fs:=λ hb=>by
 have:=(ok.funs.mem hb).1
 rw[e] at this;cases this
theorem Inv.bs (I:Inv X pins σ H s):∀ b o,X.base.get? b=some o->s.heap.get? b=some o/\H b=none:=λ b o e =>
 ⟨I.base.keep b o (I.ok.bs b o e).1 (I.ok.bs b o e).2 (I.ok.nofr e) (I.ok.noex b o e),I.base.free b o (I.ok.bs b o e).1 (I.ok.bs b o e).2 (I.ok.noex b o e)⟩
theorem Inv.bk (I:Inv X pins σ H s):∀ b o,X.base.get? b=some o->s.heap.get? b=some o:=λ b o e=>(I.bs b o e).1
theorem Inv.mod (I:Inv X pins σ H s):Mod X.K X.mg X.base:=I.ok.mod
theorem Inv.kIn (I:Inv X pins σ H s):X.K.In s.heap:=I.ok.mod.kin.keeps I.bk
theorem Inv.nolimit (I:Inv X pins σ H s):s.heap.NoLimit:=I.ok.mod.nolimit.keeps I.bk
theorem Inv.fr (I:Inv X pins σ H s):∃ m,Fr X.base X.env.locals s.heap m :=
 let ⟨m,hn,_⟩:=I.loc
 ⟨m,hn,I.bk,w6 I.ok.bsz I.ok.above⟩
theorem Inv.lt (I:Inv X pins σ H s):X.env.locals<s.heap.objs.size:=let ⟨_,hn,_⟩:=I.loc;hn.lt
theorem Inv.sz (I:Inv X pins σ H s):X.s₀.heap.objs.size<=s.heap.objs.size:=w6 I.ok.above (ud2 I.lt)
theorem Inv.nofs (I:Inv X pins σ H s){a:j7}(h:s.heap.objs.size<=a):a∉X.fs:=λ hb=>by
 obtain⟨_,o,ho,_⟩:=I.ok.funs.mem hb
 exact absurd (o8 (j8 ho) (w6 I.sz h)) (ubh _)
theorem Inv.cne (I:Inv X pins σ H s):∀ x c,X.env.cells.lookup x=some c->c≠X.env.locals:=λ x c e z=>by
 obtain⟨v,o,ho,hd⟩:=I.cell x c e
 obtain⟨m,⟨o',es,ep,ho',hd',_⟩,_⟩:=I.loc
 rw[z,ho'] at ho;cases ho;rw[hd'] at hd;cases hd
theorem Inv.funs (I:Inv X pins σ H s):s.heap.FunFrames X.base X.outer:=by
 have all:∀ (l:List Env),(∀ b∈frs l,b∈X.fs)->X.s₀.heap.FunFrames X.base l->s.heap.FunFrames X.base l:=by
  intro l
  induction l with
  | nil=>intro _ _;trivial
  | cons env r ih =>
   intro hs hl
   obtain⟨hk,⟨L,o,hf,hn,ho,hd⟩,hr⟩:=hl
   have hL:L∈X.fs:=hs L (by unfold frs;rw[uds,hf];exact i0)
   obtain⟨sl,e⟩:=I.base.slot L o ho (I.ok.frf L hL) hL λ z=>I.ok.exfs L z hL
   exact⟨hk,⟨L,_,hf,hn,e,hd⟩,ih (λ b hb=>hs b (by unfold frs;rw[uds,hf];exact i9 _ hb)) hr⟩
 exact all X.outer (λ _ hb=>hb) I.ok.funs
theorem Inv.stack (I:Inv X pins σ H s):s.heap.FunFrames X.base X.stack:=by
 rcases I.ok.stk with e | ⟨e,hf⟩
 ·rw[e];exact I.funs
 ·rw[e]
  obtain⟨m,hn,_⟩:=I.loc
  refine .cons (by rw[I.ok.kind];decide) hf hn ?_ I.funs
  exact udh (w6 I.ok.bsz I.ok.above)
theorem Inv.stkSub (I:Inv X pins σ H s):∀ b∈frs X.stack,b∈X.env.locals::X.fs:=λ b hb=>by
 rcases I.ok.stk with e | ⟨e,hf⟩
 ·rw[e] at hb;exact i9 _ hb
 ·rw[e] at hb
  unfold frs at hb
  rw[uds,hf] at hb
  exact hb
theorem Inv.stkFree (I:Inv X pins σ H s):∀ b∈frs X.stack,H b=none:=λ b hb=>by
 rcases l7.mp (I.stkSub b hb) with e | hb
 ·rw[e];exact I.free
 ·obtain⟨_,o,ho,_⟩:=I.ok.funs.mem hb
  exact I.base.free b o ho (I.ok.frf b hb) λ z=>I.ok.exfs b z hb
theorem Inv.step {g':Array GenState}{t':Nat}{d':Drawn}{ch:List j7}(I:Inv X pins σ H s)
  (hch:∀ b∈ch,(b∈X.ex\/X.s₀.heap.objs.size<=b)/\b≠X.env.locals/\(∀ x c,X.env.cells.lookup x=some c->c≠b)/\∀ p∈X.pn++pins,p.1≠b)
  (keep:∀ b o,b≠X.env.locals->b∉X.fs->b∉ch->s.heap.get? b=some o->H b=none->h'.get? b=some o)
  (slot:∀ b o,b≠X.env.locals->b∈X.fs->b∉ch->s.heap.get? b=some o->H b=none->∃ sl,h'.get? b=some { o with slots:=sl }) (free:∀ b o,b∉ch->s.heap.get? b=some o->H b=none->H' b=none)
  (there:∀ b o,b∉ch->s.heap.get? b=some o->∃ o',h'.get? b=some o')
  (tups:∀ b xs,H b=some (.tup xs)->H' b=some (.tup xs)) (frzs:∀ b o u,H b=some (.frz o u)->H' b=some (.frz o u)) (tbls:∀ b ps,H b=some (.tbl ps)->∃ more,H' b=some (.tbl (ps++more)))
  (ns:∀ m,s.heap.Ns X.env.locals m->h'.Ns X.env.locals m) (hok:HOk X.prog X.w H' h') (hg:AllBare g') :
  Inv X pins σ H' { s with heap:=h',gens:=g',drawn:=d',toks:=t' }:=by
 have neL:∀ b o,X.s₀.heap.get? b=some o->b≠X.env.locals:=λ b o e=>o0 (o8 (j8 e) I.ok.above)
 have neC:∀ b o,X.s₀.heap.get? b=some o->b∉X.ex->b∉ch:=λ b o e hx hb=>by
  rcases (hch b hb).1 with z | z
  ·exact hx z
  ·exact absurd (o8 (j8 e) z) (ubh _)
 have cellK:∀ x c,X.env.cells.lookup x=some c->∀ v,s.heap.IsCell c v->h'.IsCell c v:=λ x c e v ⟨o,ho,hd⟩=>by
  have nch:c∉ch:=λ z=>(hch c z).2.2.1 x c e rfl
  by_cases hc:c∈X.fs
  ·obtain⟨sl,q⟩:=slot c o (I.cne x c e) hc nch ho (I.freeC x c e)
   exact⟨_,q,hd⟩
  ·exact⟨o,keep c o (I.cne x c e) hc nch ho (I.freeC x c e),hd⟩
 refine⟨I.ok,I.os,hg,⟨λ b o e n hb hx=>?_,λ b o e n hb hx=>?_,λ b o e n hx=>?_,λ b o e hx=>?_,λ b xs e=>tups b xs (I.base.tups b xs e),λ b o xs e=>frzs b o xs (I.base.frzs b o xs e),λ b ps e=>?_⟩,?_,λ x c e=>?_,?_,λ x c e=>?_,λ p hp=>?_,hok,I.len⟩
 ·exact keep b o (neL b o e) hb (neC b o e hx) (I.base.keep b o e n hb hx) (I.base.free b o e n hx)
 ·obtain⟨sl,e1⟩:=I.base.slot b o e n hb hx
  obtain⟨sl',e2⟩:=slot b _ (neL b o e) hb (neC b o e hx) e1 (I.base.free b o e n hx)
  exact⟨sl',e2⟩
 ·obtain⟨o',e1⟩:=I.base.there b o e hx
  exact free b o' (neC b o e hx) e1 (I.base.free b o e n hx)
 ·obtain⟨o',e1⟩:=I.base.there b o e hx
  exact there b o' (neC b o e hx) e1
 ·obtain⟨m1,e1⟩:=I.base.tbls b ps e
  obtain⟨m2,e2⟩:=tbls b _ e1
  exact⟨m1++m2,by rw[e2,Array.append_assoc]⟩
 ·obtain⟨m,hn,hl⟩:=I.loc
  refine⟨m,ns m hn,λ i x v e1 e2 e3=>?_⟩
  obtain⟨u,r,l⟩:=hl i x v e1 e2 e3
  refine⟨u,r,?_⟩
  rcases l with l | ⟨k,c,e,z⟩
  ·exact .inl l
  ·exact .inr ⟨k,c,e,cellK x c e _ z⟩
 ·obtain⟨v,z⟩:=I.cell x c e
  exact⟨v,cellK x c e v z⟩
 ·obtain⟨m,⟨o,_,_,ho,_⟩,_⟩:=I.loc
  exact free _ o (λ z=>(hch _ z).2.1 rfl) ho I.free
 ·obtain⟨v,o,ho,hd⟩:=I.cell x c e
  exact free c o (λ z=>(hch c z).2.2.1 x c e rfl) ho (I.freeC x c e)
 ·obtain⟨e,n,ne,nf,d⟩:=I.pin p hp
  have nch:p.1∉ch:=λ z=>(hch p.1 z).2.2.2 p hp rfl
  exact⟨keep p.1 p.2 ne nf nch e n,free p.1 p.2 nch e n,ne,nf,d⟩
theorem Inv.un {t':Nat}(I:Inv X pins σ H s)(u:Un X.fs [] H H' s.heap h')(hok:HOk X.prog X.w H' h'):Inv X pins σ H' { s with heap:=h',toks:=t' }:=by
 obtain⟨m,⟨o,es,ep,ho,r⟩,_⟩:=id I.loc
 obtain⟨sl,hL⟩:=u.any ho I.free (by simp)
 exact I.step (g':=s.gens) (d':=s.drawn) (ch:=[]) (λ _ z=>nomatch z) (λ b o _ hb _ e n=>u.keep b o e n hb (by simp)) (λ b o _ hb _ e n=>u.slot b o e n hb (by simp)) (λ b o _ e n=>u.free b o e n (by simp)) (λ b o _ e=>u.there b o e (by simp)) u.tups u.frzs u.tbls (λ m' hm=>by
  obtain⟨o',es',ep',ho',r'⟩:=hm
  rw[ho] at ho';cases ho'
  exact⟨_,es',ep',hL,r'⟩) hok I.bare
theorem Inv.call {g':Array GenState}{t':Nat}{d':Drawn}{ch:List j7}(I:Inv X pins σ H s)(u:Un (frs X.stack) ch H H' s.heap h')(hok:HOk X.prog X.w H' h')(hg:AllBare g')
  (hch:∀ b∈ch,(b∈X.ex\/X.s₀.heap.objs.size<=b)/\b≠X.env.locals/\(∀ x c,X.env.cells.lookup x=some c->c≠b)/\∀ p∈X.pn++pins,p.1≠b) :
  Inv X pins σ H' { s with heap:=h',gens:=g',drawn:=d',toks:=t' }:=by
 obtain⟨m,⟨o,es,ep,ho,r⟩,_⟩:=id I.loc
 obtain⟨sl,hL⟩:=u.any ho I.free λ z=>(hch _ z).2.1 rfl
 exact I.step (ch:=ch) hch (λ b o hL hb hc e n=>u.keep b o e n (λ z=>(l7.mp (I.stkSub b z)).elim hL hb) hc) (λ b o _ _ hc e n=>u.any e n hc) (λ b o hc e n=>u.free b o e n hc) (λ b o hc e=>u.there b o e hc) u.tups u.frzs u.tbls (λ m' hm=>by
  obtain⟨o',es',ep',ho',r'⟩:=hm
  rw[ho] at ho';cases ho'
  exact⟨_,es',ep',hL,r'⟩) hok hg
theorem Inv.turned {t':Nat}{it:j7}(I:Inv X pins σ H s)(k:∀ b o,b≠it->s.heap.get? b=some o->h'.get? b=some o)(hn:H it=none)(hL:it≠X.env.locals)
  (h1:it∈X.ex\/X.s₀.heap.objs.size<=it) (h2:∀ x c,X.env.cells.lookup x=some c->c≠it) (h3:∀ p∈X.pn++pins,p.1≠it):Inv X pins σ H { s with heap:=h',toks:=t' }:=by
 have nit:∀ b u,H b=some u->b≠it:=λ b u e z=>by rw[z,hn] at e;cases e
 refine I.step (g':=s.gens) (d':=s.drawn) (ch:=[it]) (λ b hb=>?_) (λ b o _ _ hc e _=>k b o (λ z=>hc (by simp [z])) e) (λ b o _ _ hc e _=>⟨o.slots,k b o (λ z=>hc (by simp [z])) e⟩) (λ _ _ _ _ n=>n)
  (λ b o hc e=>⟨o,k b o (λ z=>hc (by simp [z])) e⟩) (λ _ _ e=>e) (λ _ _ _ e=>e) (λ b ps e=>⟨#[],by rw[e];simp⟩) (λ m hm=>?_) (λ b u e=>?_) I.bare
 ·have e:b=it:=by simpa using hb
  subst e
  exact⟨h1,hL,h2,h3⟩
 ·obtain⟨o,es,ep,ho,r⟩:=hm
  exact⟨o,es,ep,k _ o (Ne.symm hL) ho,r⟩
 ·refine (I.hok b u e).stay (λ c v hc q=>k c v ?_ q) (λ _ q=>q) λ _ _ q=>q
  rcases hc with z | z
  ·rw[z];exact nit b u e
  ·exact nit c _ z
theorem Inv.tok (I:Inv X pins σ H s)(t:Nat):Inv X pins σ H { s with toks:=t }:=I.un (h':=s.heap) (t':=t) Un.refl I.hok
theorem Inv.kept {t':Nat}(I:Inv X pins σ H s)(k:∀ b u,s.heap.get? b=some u->h'.get? b=some u):Inv X pins σ H { s with heap:=h',toks:=t' }:=I.un (Un.kept k) (I.hok.kept k)
theorem Inv.laid {a:j7}{o:HO}{t':Nat}(I:Inv X pins σ H s)(k:∀ b u,s.heap.get? b=some u->h'.get? b=some u)(hp:s.heap.objs.size<=a)(new:ObjOk X.prog X.w (upd H a o) h' a o) :
  Inv X pins σ (upd H a o) { s with heap:=h',toks:=t' }:=I.un (Un.laid k hp (I.hok.fresh hp)) (I.hok.laid k hp new)
theorem Inv.write {x e:j7}{o:HO}{t':Nat}(I:Inv X pins σ H s)(mu:Mut (H x))(he:e=x\/H e=some (.own x))(k:∀ b u,b≠e->s.heap.get? b=some u->h'.get? b=some u)(heo:∃ u,h'.get? e=some u)
  (new:ObjOk X.prog X.w (upd H x o) h' x o):Inv X pins σ (upd H x o) { s with heap:=h',toks:=t' }:=I.un (Un.write mu he k heo) (I.hok.write mu he k heo new)
theorem Inv.pins_of {pins':List (j7 × Obj)}(I:Inv X pins σ H s)(h:∀ p∈pins',s.heap.get? p.1=some p.2/\H p.1=none/\p.1≠X.env.locals/\p.1∉X.fs/\∀ v,p.2.data≠.cell v):Inv X pins' σ H s :=
 ⟨I.ok,I.os,I.bare,I.base,I.loc,I.cell,I.free,I.freeC,λ p hp=>(m5.mp hp).elim (λ z=>I.pin p (u4 _ z)) (h p),I.hok,I.len⟩
theorem iB {N:List Str}(hN:N.Nodup){i j:Nat}{x:Str}(a:N[i]?=some x)(b:N[j]?=some x):i=j:=by
 obtain⟨h1,e1⟩:=i8.mp a
 obtain⟨h2,e2⟩:=i8.mp b
 exact (List.getElem_inj hN).mp (e1.trans e2.symm)
theorem kE {M:Model}{A:v7}{E:d7->d8->Prop}{i:Nat}{x:Str}{v:V}{u:d7}{Q:Unit->d8->Prop}(I:Inv X pins σ H s)(hN:X.N.Nodup)(hi:X.N[i]?=some x)(hx:Loc X.env.scope x)(r:RelV v u)
  (h:∀ s',Inv X pins (σ.set i (some v)) H s'->(∃ a,Heap.SameBut a s.heap s'.heap/\(a=X.env.locals\/X.env.cells.lookup x=some a))->Q () s') (hf:X.fn x=true\/X.env.scope.names.lookup x=some .local:=by first | exact .inl rfl | exact .inr rfl | assumption):p8 M A (storeName X.env x u) Q E s:=by
 obtain⟨m,hn,hl⟩:=id I.loc
 have hcls:(X.env.scope.kind==.class||(X.env.scope.kind==.module&&X.env.locals != X.env.globals))=false:=by rw[I.ok.kind];rfl
 have hiσ:i<σ.length:=by rw[I.len];exact (i8.mp hi).1
 have cne:=I.cne
 have tracked:∀ {a:j7}{h':Heap},(∃ o,s.heap.get? a=some o/\H a=none)->Heap.SameBut a s.heap h'->HOk X.prog X.w H h':=λ {a h'} ha hs b ob e=>by
  obtain⟨_,_,hfree⟩:=ha
  refine (I.hok b ob e).stay (λ c w' hc q=>(hs.2 c ?_).trans q) (λ _ q=>q) λ _ _ q=>q
  rintro rfl
  rcases hc with rfl | hc
  ·rw[hfree] at e;cases e
  ·rw[hfree] at hc;cases hc
 rcases hx with hk | hk
 ·refine wpAny_storeName_local hk hn (λ h' hn' hs=>?_) hcls
  obtain⟨oL,_,_,hoL,_⟩:=id hn
  refine h _ ⟨I.ok,I.os,I.bare,⟨λ b o e n hb hx=>?_,λ b o e n hb hx=>?_,I.base.free,λ b o e hx=>?_,I.base.tups,I.base.frzs,I.base.tbls⟩,⟨_,hn',λ j y v' e1 e2 e3=>?_⟩,λ y c e=>?_,I.free,I.freeC,λ p hp=>?_,tracked ⟨oL,hoL,I.free⟩ hs,by simpa using I.len⟩ ⟨_,hs,.inl rfl⟩
  ·exact (hs.2 b (o0 (o8 (j8 e) I.ok.above))).trans (I.base.keep b o e n hb hx)
  ·obtain⟨sl,e1⟩:=I.base.slot b o e n hb hx
   exact⟨sl,(hs.2 b (o0 (o8 (j8 e) I.ok.above))).trans e1⟩
  ·obtain⟨o',e1⟩:=I.base.there b o e hx
   exact⟨o',(hs.2 b (o0 (o8 (j8 e) I.ok.above))).trans e1⟩
  ·by_cases hj:j=i
   ·subst hj
    rw[hi] at e1;cases e1
    rw[uca hiσ] at e2
    cases e2
    exact⟨u,r,.inl ⟨hk,by simp⟩⟩
   ·rw[udm (Ne.symm hj)] at e2
    obtain⟨u',r',q⟩:=hl j y v' e1 e2 e3
    refine⟨u',r',?_⟩
    rcases q with ⟨k,e⟩ | ⟨k,c,e,z⟩
    ·refine .inl ⟨k,?_⟩
     have:y≠x:=λ e=>hj (iB hN e1 (e ▸ hi))
     simp [this,e]
    ·exact .inr ⟨k,c,e,z.sameBut hs (cne y c e)⟩
  ·obtain⟨w',z⟩:=I.cell y c e
   exact⟨w',z.sameBut hs (cne y c e)⟩
  ·obtain⟨e,n,ne,nf,d⟩:=I.pin p hp
   exact⟨(hs.2 p.1 ne).trans e,n,ne,nf,d⟩
 ·have hfn:X.fn x=true:=by
   rcases hf with z | z
   ·exact z
   ·rw[z] at hk;cases hk
  obtain⟨c,hc⟩:=I.ok.has x (.inl hk)
  obtain⟨w',z⟩:=I.cell x c hc
  refine wpAny_storeName_cell I.ok.kind hk hc z (λ h' hc' hs=>?_)
  obtain⟨oc,hoc,hocd⟩:=id z
  refine h { s with heap:=h' } ⟨I.ok,I.os,I.bare,⟨λ b o e n hb hx=>?_,λ b o e n hb hx=>?_,I.base.free,λ b o e hx=>?_,I.base.tups,I.base.frzs,I.base.tbls⟩,⟨m,hn.sameBut hs (Ne.symm (cne x c hc)),λ j y v' e1 e2 e3=>?_⟩,λ y c' e=>?_,I.free,I.freeC,λ p hp=>?_,tracked ⟨oc,hoc,I.freeC x c hc⟩ hs,by simpa using I.len⟩ ⟨c,hs,.inr hc⟩
  ·exact (hs.2 b (o0 (o8 (j8 e) (I.ok.cab x c hfn hc)))).trans (I.base.keep b o e n hb hx)
  ·obtain⟨sl,e1⟩:=I.base.slot b o e n hb hx
   exact⟨sl,(hs.2 b (o0 (o8 (j8 e) (I.ok.cab x c hfn hc)))).trans e1⟩
  ·obtain⟨o',e1⟩:=I.base.there b o e hx
   exact⟨o',(hs.2 b (o0 (o8 (j8 e) (I.ok.cab x c hfn hc)))).trans e1⟩
  ·by_cases hj:j=i
   ·subst hj
    rw[hi] at e1;cases e1
    rw[uca hiσ] at e2
    cases e2
    exact⟨u,r,.inr ⟨.inl hk,c,hc,hc'⟩⟩
   ·rw[udm (Ne.symm hj)] at e2
    obtain⟨u',r',q⟩:=hl j y v' e1 e2 e3
    refine⟨u',r',?_⟩
    rcases q with q | ⟨k,c',e,z'⟩
    ·exact .inl q
    ·refine .inr ⟨k,c',e,z'.sameBut hs ?_⟩
     rintro rfl
     exact hj (iB hN e1 (I.ok.inj _ _ _ e hc ▸ hi))
  ·by_cases hcc:c'=c
   ·subst hcc;exact⟨_,hc'⟩
   ·obtain⟨w2,z2⟩:=I.cell y c' e
    exact⟨w2,z2.sameBut hs hcc⟩
  ·obtain⟨e,n,ne,nf,d⟩:=I.pin p hp
   refine⟨(hs.2 p.1 ?_).trans e,n,ne,nf,d⟩
   intro q
   rw[q,hoc] at e
   have q':oc=p.2:=t6 e
   exact d w' (by rw[← q'];exact hocd)
theorem hW {M:Model}{A:v7}{E:d7->d8->Prop}{i:Nat}{x:Str}{v:V}{u:d7}{Q:Unit->d8->Prop}(I:Inv X pins σ H s)(hN:X.N.Nodup)(hi:X.N[i]?=some x)(hx:Loc X.env.scope x)(r:RelV v u)
  (h:∀ s',Inv X pins (σ.set i (some v)) H s'->Q () s') (hf:X.fn x=true\/X.env.scope.names.lookup x=some .local:=by first | exact .inl rfl | exact .inr rfl | assumption):p8 M A (storeName X.env x u) Q E s :=
 kE I hN hi hx r (λ s' I' _=>h s' I') hf
theorem Inv.call' {s':d8}{ch:List j7}(I:Inv X pins σ H s)(ho:s'.os=s.os)(u:Un (frs X.stack) ch H H' s.heap s'.heap)(hok:HOk X.prog X.w H' s'.heap)(hg:AllBare s'.gens)
  (hch:∀ b∈ch,(b∈X.ex\/X.s₀.heap.objs.size<=b)/\b≠X.env.locals/\(∀ x c,X.env.cells.lookup x=some c->c≠b)/\∀ p∈X.pn++pins,p.1≠b):Inv X pins σ H' s':=by
 obtain⟨h',g',d',t',o'⟩:=s'
 have e:o'=s.os:=ho
 subst e
 exact I.call (g':=g') (t':=t') (d':=d') u hok hg hch
end
abbrev XK:=d7->Option j7->Hp->Prop
abbrev St:=List (Option V)
abbrev VK:=V->Hp->Prop
abbrev TE:=St->Hp->VK->Prop
abbrev TT:=St->Hp->(Bool->Hp->Prop)->Prop
abbrev TA:=St->Hp->(List V->Hp->Prop)->Prop
structure Ends where
 nx:St->Hp->Prop
 rt:VK
 bk:St->Hp->Prop:=λ _ _=>False
 ct:St->Hp->Prop:=λ _ _=>False
abbrev TS:=Ends->St->Hp->Prop
def EP (X:Cx)(pins:List (j7 × Obj))(σ:St)(Q:VK)(u:d7)(s':d8):Prop:=∃ v H',Inv X pins σ H' s'/\RelV v u/\Q v H'
def TP (X:Cx)(pins:List (j7 × Obj))(σ:St)(Q:Bool->Hp->Prop)(b:Bool)(s':d8):Prop:=∃ H',Inv X pins σ H' s'/\Q b H'
def AP (X:Cx)(pins:List (j7 × Obj))(σ:St)(Q:List V->Hp->Prop)(us:List d7)(s':d8):Prop:=∃ vs H',Inv X pins σ H' s'/\Vals vs us/\Q vs H'
def SP (X:Cx)(pins:List (j7 × Obj))(D:Ends)(f:Flow)(s':d8):Prop :=
 match f with
 | .next=>∃ σ' H',Inv X pins σ' H' s'/\D.nx σ' H'
 | .brk=>∃ σ' H',Inv X pins σ' H' s'/\D.bk σ' H'
 | .cont=>∃ σ' H',Inv X pins σ' H' s'/\D.ct σ' H'
 | .ret u=>∃ v σ' H',Inv X pins σ' H' s'/\RelV v u/\D.rt v H'
def PE (X:Cx)(e:ua9)(t:TE):Prop :=
 ∀ (pins:List (j7 × Obj))(s:d8)(σ:St)(H:Hp)(Q:VK),Inv X pins σ H s->t σ H Q->p8 (z9 X.prog X.w) X.A (eval e X.env) (EP X pins σ Q) X.xe s
def PT (X:Cx)(e:ua9)(t:TT):Prop :=
 ∀ (pins:List (j7 × Obj))(s:d8)(σ:St)(H:Hp)(Q:Bool->Hp->Prop),Inv X pins σ H s->t σ H Q->p8 (z9 X.prog X.w) X.A (isTrue e X.env (eval e X.env)) (TP X pins σ Q) X.xe s
def PW (X:Cx)(e:ua9)(t:TT):Prop :=
 ∀ (whole:Sem d7)(pins:List (j7 × Obj))(s:d8)(σ:St)(H:Hp)(Q:Bool->Hp->Prop),Inv X pins σ H s->t σ H Q->p8 (z9 X.prog X.w) X.A (isTrue e X.env whole) (TP X pins σ Q) X.xe s
theorem PW.pt {X:Cx}{e:ua9}{t:TT}(h:PW X e t):PT X e t:=h _
def PA (X:Cx)(es:List ua9)(t:TA):Prop :=
 ∀ (pos:Pos)(pins:List (j7 × Obj))(s:d8)(σ:St)(H:Hp)(Q:List V->Hp->Prop),Inv X pins σ H s->t σ H Q->p8 (z9 X.prog X.w) X.A (spliced (backTo pos (uaa es X.env))) (AP X pins σ Q) X.xe s
def PS (X:Cx)(st:ubv)(t:TS):Prop :=
 ∀ (pins:List (j7 × Obj))(s:d8)(σ:St)(H:Hp)(D:Ends),Inv X pins σ H s->t D σ H->p8 (z9 X.prog X.w) X.A (exec st X.env) (SP X pins D) X.xe s
def PSs (X:Cx)(st:List ubv)(t:TS):Prop :=
 ∀ (pins:List (j7 × Obj))(s:d8)(σ:St)(H:Hp)(D:Ends),Inv X pins σ H s->t D σ H->p8 (z9 X.prog X.w) X.A (execs st X.env) (SP X pins D) X.xe s
theorem thn {α:Type}{t:Sem α}{Q Q':α->d8->Prop}{M:Model}{A:v7}{E:d7->d8->Prop}{s:d8}(h:p8 M A t Q E s)(hQ:∀ a s,Q a s->Q' a s):p8 M A t Q' E s:=ua1 h hQ λ _ _ x=>x
end L2
namespace L2
open PySem PySem.Spec PyProof.Rows
section
variable {X:Cx}
inductive EVar (σ:L2.St)(i:Nat)(Q:V->Prop):Prop
 | mk:∀ v,(σ[i]?=some (some v))->Q v->EVar σ i Q
inductive EBl (x:V)(Q:Bool->Prop):Prop
 | mk:∀ c,(x=.bl c)->Q c->EBl x Q
inductive EInt (x:V)(Q:Int->Prop):Prop
 | mk:∀ i,(x=.int i)->Q i->EInt x Q
inductive ERef (x:V)(Q:j7->Prop):Prop
 | mk:∀ a,(x=.ref a)->Q a->ERef x Q
inductive EOne (vs:List V)(Q:Int->Prop):Prop
 | mk:∀ j,(vs=[.int j])->Q j->EOne vs Q
inductive ETwo (vs:List V)(Q:V->V->Prop):Prop
 | mk:∀ v w,(vs=[v,w])->Q v w->ETwo vs Q
def tVar (i:Nat):TE:=λ σ H Q=>EVar σ i λ v=>Q v H
def tC (v:V):TE:=λ _ H Q=>Q v H
theorem iS {i:Nat}{x:Str}{pos:Pos}(hN:X.N[i]?=some x)(hv:Vis X.env.scope x)(hd:(x==("__debug__":Str))=false:=by decide)(hcd:(x==("__classdict__":Str))=false:=by decide):PE X (.Name x pos) (tVar i):=by
 intro pins s σ H Q I h
 obtain⟨v,e,h⟩:=h
 obtain⟨m,hn,hl⟩:=I.loc
 obtain⟨u,r,l⟩:=hl i x v hN e hv
 have fin:EP X pins σ Q u s:=⟨v,H,I,r,h⟩
 rcases l with ⟨hk,hm⟩ | ⟨hk,c,hc,hcell⟩
 ·exact wpAny_Name (wpAny_loadName_local I.ok.kind hk hn hm fin) hd
 ·rcases hk with hk | hk
  ·exact wpAny_Name (wpAny_loadName_cell I.ok.kind hk hc hcell fin) hd
  ·exact wpAny_Name (wpAny_loadName_free I.ok.kind hk hc hcell fin hcd) hd
theorem aC {i j pos}:PE X (.Constant (.int i) j pos) (tC (.int i)):=λ _ _ _ H _ I h=>wpAny_Constant_int ⟨.int i,H,I.tok _,⟨_,rfl⟩,h⟩
theorem bU {b j pos}:PE X (.Constant (.bool b) j pos) (tC (.bl b)):=λ _ _ _ H _ I h=>Constant_bool ⟨.bl b,H,I,rfl,h⟩
theorem bM {j pos}:PE X (.Constant .none j pos) (tC .non):=λ _ _ _ H _ I h=>Constant_none ⟨.non,H,I,rfl,h⟩
theorem dP {x j pos}:PE X (.Constant (.str x) j pos) (tC (.str x)):=λ _ _ _ H _ I h=>Calls.Constant_str ⟨.str x,H,I.tok _,⟨_,rfl⟩,h⟩
def Gl (X:Cx)(x:Str):Prop:=X.env.kindOf x=some .globalImplicit
theorem dM {E:d7->d8->Prop}{pins:List (j7 × Obj)}{s:d8}{σ:St}{H:Hp}{x:Str}{u:d7}{pos:Pos}{Q:d7->d8->Prop}(I:Inv X pins σ H s)(hg:Gl X x)(hm:X.mg x=some u)(h:Q u s)
  (hd:(x==("__debug__":Str))=false:=by decide):p8 (z9 X.prog X.w) X.A (eval (.Name x pos) X.env) Q E s :=
 Calls.Name_function_global I.ok.kind hg (Calls.loadGlobal_global (by rw[I.ok.glob];exact I.mod.glob.keeps I.bk) hm h) hd
theorem dC {E:d7->d8->Prop}{pins:List (j7 × Obj)}{s:d8}{σ:St}{H:Hp}{x:Str}{u:d7}{pos:Pos}{Q:d7->d8->Prop}(I:Inv X pins σ H s)(hg:Gl X x)(hm:X.mg x=none)(hv:bootBuiltins x=some u)(h:Q u s)
  (hn:x≠"__name__":=by decide) (hd:(x==("__debug__":Str))=false:=by decide):p8 (z9 X.prog X.w) X.A (eval (.Name x pos) X.env) Q E s:=by
 obtain⟨mb,h1,h2⟩:=I.mod.blt
 exact Calls.Name_function_global I.ok.kind hg (Calls.loadGlobal_builtin (by rw[I.ok.glob];exact I.mod.glob.keeps I.bk) hm (by rw[I.ok.blt];exact h1.keeps I.bk) ((h2 x hn).trans hv) h) hd
theorem bL {x:Str}{v:V}{u:d7}{pos:Pos}(hg:Gl X x)(hm:X.mg x=some u)(r:RelV v u)(hd:(x==("__debug__":Str))=false:=by decide):PE X (.Name x pos) (tC v) :=
 λ _ _ _ H _ I h=>dM I hg hm ⟨v,H,I,r,h⟩ hd
theorem cX {x:Str}{v:V}{u:d7}{pos:Pos}(hg:Gl X x)(hm:X.mg x=none)(hv:bootBuiltins x=some u)(r:RelV v u)(hn:x≠"__name__":=by decide)(hd:(x==("__debug__":Str))=false:=by decide):PE X (.Name x pos) (tC v) :=
 λ _ _ _ H _ I h=>dC I hg hm hv ⟨v,H,I,r,h⟩ hn hd
variable {a b:ua9}{ta tb:TE}{pos:Pos}
def tB (t:TE):TT:=λ σ H Q=>t σ H λ x H1=>EBl x λ c=>Q c H1
theorem bP {e:ua9}{t:TE}(h:PE X e t)(he:∀ whole,isTrue e X.env whole=(do let v ← whole;standAt e.pos;holding [v] (truthy v)):=by intro _;rfl):PT X e (tB t):=by
 intro pins s σ H Q I hw
 refine isTrue_plain (thn (h pins s σ H _ I hw) λ v s1 ⟨x,H1,I1,r1,q1⟩=>?_) (he _)
 obtain⟨d,rfl,q⟩:=q1
 cases r1
 exact ubu ⟨H1,I1,q⟩
variable {tA tB':TT}{rest:List ua9}
def tAnd (t u:TT):TT:=λ σ H Q=>t σ H λ c H1=>if c=true then u σ H1 Q else Q false H1
def tOr (t u:TT):TT:=λ σ H Q=>t σ H λ c H1=>if c=true then Q true H1 else u σ H1 Q
def tNot (t:TT):TT:=λ σ H Q=>t σ H λ c H1=>Q (!c) H1
theorem nK (ha:PT X a tA):PW X (.BoolOp .And [a] pos) tA:=by
 intro wh pins s σ H Q I h
 refine isTrue_and (thn (ha pins s σ H Q I h) λ c s1 e=>?_)
 cases c with
 | true=>exact isTrue_and_nil e
 | false=>exact e
theorem cY (ha:PT X a tA):PW X (.BoolOp .Or [a] pos) tA:=by
 intro wh pins s σ H Q I h
 refine isTrue_or (thn (ha pins s σ H Q I h) λ c s1 e=>?_)
 cases c with
 | false=>exact isTrue_or_nil e
 | true=>exact e
theorem oO (ha:PT X a tA)(hb:PW X (.BoolOp .And (b::rest) pos) tB'):PW X (.BoolOp .And (a::b::rest) pos) (tAnd tA tB'):=by
 intro wh pins s σ H Q I h
 refine isTrue_and (thn (ha pins s σ H _ I h) λ c s1 ⟨H1,I1,q1⟩=>?_)
 cases c with
 | true=>exact hb wh pins s1 σ H1 Q I1 q1
 | false=>exact⟨H1,I1,q1⟩
theorem dF (ha:PT X a tA)(hb:PW X (.BoolOp .Or (b::rest) pos) tB'):PW X (.BoolOp .Or (a::b::rest) pos) (tOr tA tB'):=by
 intro wh pins s σ H Q I h
 refine isTrue_or (thn (ha pins s σ H _ I h) λ c s1 ⟨H1,I1,q1⟩=>?_)
 cases c with
 | true=>exact⟨H1,I1,q1⟩
 | false=>exact hb wh pins s1 σ H1 Q I1 q1
theorem cB (ha:PT X a tA):PT X (.UnaryOp .Not a pos) (tNot tA):=by
 intro pins s σ H Q I h
 exact isTrue_not (ha pins s σ H (λ c H1=>Q (!c) H1) I h)
def tAndV (ta tb:TE):TE:=λ σ H Q=>ta σ H λ x H1=>EBl x λ c=>if c=true then tb σ H1 Q else Q (.bl false) H1
def tOrV (ta tb:TE):TE:=λ σ H Q=>ta σ H λ x H1=>EBl x λ c=>if c=true then Q (.bl true) H1 else tb σ H1 Q
def tNotV (ta:TE):TE:=λ σ H Q=>ta σ H λ x H1=>EBl x λ c=>Q (.bl (!c)) H1
theorem bR {op} {t:TE} (h:PE X a t):PE X (.BoolOp op [a] pos) t:=λ pins s σ H Q I hw=>BoolOp_one (h pins s σ H Q I hw)
theorem cD (ha:PE X a ta)(hb:PE X (.BoolOp .And (b::rest) pos) tb):PE X (.BoolOp .And (a::b::rest) pos) (tAndV ta tb):=by
 intro pins s σ H Q I h
 refine BoolOp_and (thn (ha pins s σ H _ I h) λ v s1 ⟨x,H1,I1,r1,q1⟩=>?_)
 obtain⟨c,rfl,q1⟩:=q1
 cases r1
 refine ubu ?_
 cases c with
 | true=>exact hb pins s1 σ H1 Q I1 q1
 | false=>exact⟨.bl false,H1,I1,rfl,q1⟩
theorem jE (ha:PE X a ta)(hb:PE X (.BoolOp .Or (b::rest) pos) tb):PE X (.BoolOp .Or (a::b::rest) pos) (tOrV ta tb):=by
 intro pins s σ H Q I h
 refine BoolOp_or (thn (ha pins s σ H _ I h) λ v s1 ⟨x,H1,I1,r1,q1⟩=>?_)
 obtain⟨c,rfl,q1⟩:=q1
 cases r1
 refine ubu ?_
 cases c with
 | false=>exact hb pins s1 σ H1 Q I1 q1
 | true=>exact⟨.bl true,H1,I1,rfl,q1⟩
theorem iT (ha:PE X a ta):PE X (.UnaryOp .Not a pos) (tNotV ta):=by
 intro pins s σ H Q I h
 refine UnaryOp_ (thn (ha pins s σ H _ I h) λ v s1 ⟨x,H1,I1,r1,q1⟩=>?_)
 obtain⟨c,rfl,q1⟩:=q1
 cases r1
 exact not_of (ubu ⟨.bl (!c),H1,I1,rfl,q1⟩)
def tIf (t:TT)(ta tb:TE):TE:=λ σ H Q=>t σ H λ c H1=>if c=true then ta σ H1 Q else tb σ H1 Q
theorem lX {c:ua9}(hc:PT X c tA)(ha:PE X a ta)(hb:PE X b tb):PE X (.IfExp c a b pos) (tIf tA ta tb):=by
 intro pins s σ H Q I h
 refine wpAny_IfExp (thn (hc pins s σ H _ I h) λ d s1 ⟨H1,I1,q1⟩=>?_)
 cases d with
 | true=>exact ha pins s1 σ H1 Q I1 q1
 | false=>exact hb pins s1 σ H1 Q I1 q1
end
end L2
namespace L2
open PySem PySem.Spec PyProof.Rows
def SqL (K:a8)(H:Hp)(a:j7)(xs:List V):Prop :=
 Rd H a (.lst xs) \/
  ∃ (o:Obj)(its:Array d7)(n:Nat),K.lookup a=some o/\o.cls=.type "list"/\o.dict=none/\o.data=.seq its n/\its.size<=p9/\Vals xs its.toList
def SqT (K:a8)(H:Hp)(a:j7)(xs:List V):Prop :=
 Rd H a (.tup xs) \/
  ∃ (o:Obj)(its:Array d7)(n:Nat),K.lookup a=some o/\o.cls=.type "tuple"/\o.data=.seq its n/\its.size<=p9/\Vals xs its.toList
def absV:d7->Option V
 | .none=>some .non
 | .bool b=>some (.bl b)
 | .int i _=>some (.int i)
 | .str x _=>some (.str x)
 | .bytes b _=>some (.byt b)
 | .float b _=>some (.flt b)
 | .ref a=>some (.ref a)
 | .type n=>some (.ty n)
 | _=>none
theorem RelV.abs {x:V}{u:d7}(r:RelV x u):absV u=some x:=by
 cases x with
 | non=>cases r;rfl
 | bl _=>cases r;rfl
 | int _=>obtain⟨t,rfl⟩:=r;rfl
 | str _=>obtain⟨t,rfl⟩:=r;rfl
 | byt _=>obtain⟨t,rfl⟩:=r;rfl
 | flt _=>obtain⟨t,rfl⟩:=r;rfl
 | ref _=>cases r;rfl
 | ty _=>cases r;rfl
theorem RelV.inj {x y:V}{u:d7}(r:RelV x u)(q:RelV y u):x=y:=t6 (r.abs.symm.trans q.abs)
theorem Vals.inj:∀ {xs ys:List V}{us:List d7},Vals xs us->Vals ys us->xs=ys
 | _,_,_,.nil,.nil=>rfl
 | _,_,_,.cons r t,.cons r' t'=>by rw[r.inj r',Vals.inj t t']
section
variable {X:Cx}{pins:List (j7 × Obj)}{σ:St}{H:Hp}{s:d8}{a:j7}{xs ys:List V}
theorem SqL.of {K:a8}(h:H a=some (.lst xs)):SqL K H a xs:=.inl (.inl h)
theorem SqT.of {K:a8}(h:H a=some (.tup xs)):SqT K H a xs:=.inl (.inl h)
theorem Inv.list (I:Inv X pins σ H s)(h:SqL X.K H a xs):∃ its:List d7,Vals xs its/\PlainL s.heap a its.toArray/\xs.length<=p9:=by
 rcases h with h | ⟨o,its,n,hk,hc,hd,hs,hz,r⟩
 ·obtain⟨z,its,n,r,e⟩:=h.ok I.hok
  exact⟨its,r,⟨_,n,e,rfl,rfl,rfl⟩,z⟩
 ·refine⟨its.toList,r,⟨o,n,I.kIn a o hk,hc,hd,by simpa using hs⟩,?_⟩
  have e:=r.length
  simp only [ub3] at e
  left
theorem Inv.tuple (I:Inv X pins σ H s)(h:SqT X.K H a xs):∃ its:List d7,Vals xs its/\IsTup s.heap a its.toArray/\xs.length<=p9:=by
 rcases h with h | ⟨o,its,n,hk,hc,hs,hz,r⟩
 ·obtain⟨z,its,r,p⟩:=h.ok I.hok
  exact⟨its,r,p.tup,z⟩
 ·refine⟨its.toList,r,⟨o,I.kIn a o hk,hc,n,by simpa using hs⟩,?_⟩
  have e:=r.length
  simp only [ub3] at e
  left
theorem Inv.list_inj (I:Inv X pins σ H s)(h:SqL X.K H a xs)(h':SqL X.K H a ys):xs=ys:=by
 obtain⟨its,r,⟨o,n,e,_,_,d⟩,_⟩:=I.list h
 obtain⟨its',r',⟨o',n',e',_,_,d'⟩,_⟩:=I.list h'
 rw[e] at e';cases e'
 rw[d] at d'
 injection d' with d1 _
 have:its=its':=by simpa using congrArg Array.toList d1
 subst this
 exact r.inj r'
theorem Inv.tuple_inj (I:Inv X pins σ H s)(h:SqT X.K H a xs)(h':SqT X.K H a ys):xs=ys:=by
 obtain⟨its,r,⟨o,e,_,n,d⟩,_⟩:=I.tuple h
 obtain⟨its',r',⟨o',e',_,n',d'⟩,_⟩:=I.tuple h'
 rw[e] at e';cases e'
 rw[d] at d'
 injection d' with d1 _
 have:its=its':=by simpa using congrArg Array.toList d1
 subst this
 exact r.inj r'
end
abbrev Cx.wish (X:Cx)(E:d7->d8->Prop):Cx:={ X with xe:=E }
abbrev Cx.nox (X:Cx):Cx:=X.wish λ _ _=>False
theorem Cx.Ok.wish {X:Cx}(ok:X.Ok)(E:d7->d8->Prop):(X.wish E).Ok :=
 ⟨ok.mod,ok.kind,ok.glob,ok.blt,ok.above,ok.inj,ok.has,ok.cab,ok.hd,ok.frames,ok.stk,ok.exf,ok.bs,ok.bsz,ok.noex,ok.exfs,ok.funs,ok.frf⟩
theorem Cx.Ok.unwish {X:Cx}{E:d7->d8->Prop}(ok:(X.wish E).Ok):X.Ok :=
 ⟨ok.mod,ok.kind,ok.glob,ok.blt,ok.above,ok.inj,ok.has,ok.cab,ok.hd,ok.frames,ok.stk,ok.exf,ok.bs,ok.bsz,ok.noex,ok.exfs,ok.funs,ok.frf⟩
section
variable {X:Cx}{pins:List (j7 × Obj)}{σ:St}{H:Hp}{s:d8}{E:d7->d8->Prop}
theorem Inv.wish (I:Inv X pins σ H s)(E:d7->d8->Prop):Inv (X.wish E) pins σ H s:=⟨I.ok.wish E,I.os,I.bare,I.base,I.loc,I.cell,I.free,I.freeC,I.pin,I.hok,I.len⟩
theorem Inv.unwish (I:Inv (X.wish E) pins σ H s):Inv X pins σ H s:=⟨I.ok.unwish,I.os,I.bare,I.base,I.loc,I.cell,I.free,I.freeC,I.pin,I.hok,I.len⟩
theorem SP.unwish {D:Ends}{f:Flow}{s':d8}(h:SP (X.wish E) pins D f s'):SP X pins D f s':=by
 cases f with
 | next=>obtain⟨σ',H',I,q⟩:=h;exact⟨σ',H',I.unwish,q⟩
 | brk=>obtain⟨σ',H',I,q⟩:=h;exact⟨σ',H',I.unwish,q⟩
 | cont=>obtain⟨σ',H',I,q⟩:=h;exact⟨σ',H',I.unwish,q⟩
 | ret u=>obtain⟨v,σ',H',I,r,q⟩:=h;exact⟨v,σ',H',I.unwish,r,q⟩
theorem PE.nox {e:ua9}{t:TE}(h:PE X.nox e t):PE X e t:=λ pins s σ H Q I hw =>
 ua1 (h pins s σ H Q (I.wish _) hw) (λ _ _ ⟨v,H',I',r,q⟩=>⟨v,H',I'.unwish,r,q⟩) λ _ _ z=>False.elim z
theorem PT.nox {e:ua9}{t:TT}(h:PT X.nox e t):PT X e t:=λ pins s σ H Q I hw =>
 ua1 (h pins s σ H Q (I.wish _) hw) (λ _ _ ⟨H',I',q⟩=>⟨H',I'.unwish,q⟩) λ _ _ z=>False.elim z
theorem PSs.nox {st:List ubv}{t:TS}(h:PSs X.nox st t):PSs X st t:=λ pins s σ H D I hw =>
 ua1 (h pins s σ H D (I.wish _) hw) (λ _ _ q=>q.unwish) λ _ _ z=>False.elim z
end
section
variable {X:Cx}{st:ubv}{rest:List ubv}{t u:TS}{e:ua9}{te:TE}{pos:Pos}
def tNext:TS:=λ D σ H=>D.nx σ H
def tSeq (t u:TS):TS:=λ D σ H=>t { D with nx:=u D } σ H
theorem aU:PSs X [] tNext:=λ _ _ σ H _ I h=>uc5 ⟨σ,H,I,h⟩
theorem aE (h1:PS X st t)(h2:PSs X rest u):PSs X (st::rest) (tSeq t u):=by
 intro pins s σ H D I h
 refine uf1 (thn (h1 pins s σ H { D with nx:=u D } I h) λ f s1 q=>?_)
 cases f with
 | next =>
  obtain⟨σ',H',I',q⟩:=q
  exact h2 pins s1 σ' H' D I' q
 | ret v=>exact q
 | brk=>exact q
 | cont=>exact q
theorem aF (h1:PS X st t):PSs X [st] t:=by
 intro pins s σ H D I h
 refine uf1 (thn (h1 pins s σ H D I h) λ f s1 q=>?_)
 cases f with
 | next=>exact uc5 q
 | ret v=>exact q
 | brk=>exact q
 | cont=>exact q
def tCont:TS:=λ D σ H=>D.ct σ H
theorem sV:PS X (.Continue pos) tCont:=λ _ _ σ H _ I h=>wpAny_Continue ⟨σ,H,I,h⟩
theorem Inv.quiet {pins:List (j7 × Obj)}{σ:St}{H:Hp}{s:d8}(I:Inv X pins σ H s):interactive X.env=false:=by simp [interactive,I.ok.kind]
def tDrop (te:TE):TS:=λ D σ H=>te σ H λ _ H1=>D.nx σ H1
theorem bI (he:PE X e te)(hs:swapsWith e none pos.line X.env=pure false:=by rfl):PS X (.Expr e pos) (tDrop te):=by
 intro pins s σ H D I h
 exact wpAny_Expr_any (thn (he pins s σ H _ I h) λ v s1 ⟨x,H1,I1,r1,q1⟩=>⟨σ,H1,I1,q1⟩) I.quiet hs
def tRet (te:TE):TS:=λ D σ H=>te σ H D.rt
theorem aI (he:PE X e te):PS X (.Return (some e) pos) (tRet te):=by
 intro pins s σ H D I h
 exact wpAny_Return_some (thn (he pins s σ H _ I h) λ v s1 ⟨x,H1,I1,r1,q1⟩=>⟨x,σ,H1,I1,r1,q1⟩)
def tIfS (c:TT)(t u:TS):TS:=λ D σ H=>c σ H λ b H1=>if b=true then t D σ H1 else u D σ H1
theorem aV {c:ua9}{a b:List ubv}{tc:TT}(hc:PT X c tc)(ha:PSs X a t)(hb:PSs X b u):PS X (.If c a b pos) (tIfS tc t u):=by
 intro pins s σ H D I h
 refine wpAny_If (thn (hc pins s σ H _ I h) λ d s1 ⟨H1,I1,q1⟩=>?_)
 cases d with
 | true=>exact ha pins s1 σ H1 D I1 q1
 | false=>exact hb pins s1 σ H1 D I1 q1
def tNever:TS:=λ _ _ _=>False
theorem lV:PS X st tNever:=λ _ _ _ _ _ _ h=>h.elim
theorem dY {sts:List ubv}:PSs X sts tNever:=λ _ _ _ _ _ _ h=>h.elim
end
abbrev TG:=V->St->Hp->(St->Hp->Prop)->Prop
abbrev TGs:=List V->St->Hp->(St->Hp->Prop)->Prop
def PG (X:Cx)(target:ua9)(t:TG):Prop :=
 ∀ (pins:List (j7 × Obj))(s:d8)(σ:St)(H:Hp)(v:V)(u:d7)(Q:St->Hp->Prop),Inv X pins σ H s->RelV v u->t v σ H Q ->
  p8 (z9 X.prog X.w) X.A (assign target X.env u) (λ _ s'=>∃ σ' H',Inv X pins σ' H' s'/\Q σ' H') X.xe s
def PGs (X:Cx)(ts:List ua9)(t:TGs):Prop :=
 ∀ (pins:List (j7 × Obj))(s:d8)(σ:St)(H:Hp)(vs:List V)(us:List d7)(Q:St->Hp->Prop),Inv X pins σ H s->Vals vs us->t vs σ H Q ->
  p8 (z9 X.prog X.w) X.A (assignInOrder ((assignEach ts X.env).map (·.2)) us) (λ _ s'=>∃ σ' H',Inv X pins σ' H' s'/\Q σ' H') X.xe s
abbrev TSet:=V->V->V->Hp->(Hp->Prop)->Prop
def PSet (X:Cx)(t:TSet):Prop :=
 ∀ (pins:List (j7 × Obj))(s:d8)(σ:St)(H:Hp)(o i v:V)(ov iv u:d7)(Q:Hp->Prop),Inv X pins σ H s->RelV o ov->RelV i iv->RelV v u->t o i v H Q ->
  p8 (z9 X.prog X.w) X.A (setItem ov iv u) (λ _ s'=>∃ H',Inv X pins σ H' s'/\Q H') X.xe s
section
variable {X:Cx}{pos:Pos}
def gName (i:Nat):TG:=λ v σ H Q=>Q (σ.set i (some v)) H
theorem aL {i:Nat}{x:Str}(hN:X.N.Nodup)(hi:X.N[i]?=some x)(hx:Loc X.env.scope x)(hf:X.fn x=true\/X.env.scope.names.lookup x=some .local:=by first | exact .inl rfl | exact .inr rfl | assumption):PG X (.Name x pos) (gName i):=by
 intro pins s σ H v u Q I r h
 exact wpAny_assign_Name (hW I hN hi hx r (λ s' I'=>⟨_,H,I',h⟩) hf)
def gNil:TGs:=λ vs σ H Q=>vs=[]/\Q σ H
inductive gCons_i (t:TG)(u:TGs)(vs:List V)(σ:L2.St)(H:Hp)(Q:L2.St->Hp->Prop):Prop
 | mk:∀ v r,(vs=v::r)->(t v σ H λ σ' H'=>u r σ' H' Q)->gCons_i t u vs σ H Q
def gCons (t:TG)(u:TGs):TGs:=λ vs σ H Q=>gCons_i t u vs σ H Q
theorem bK:PGs X [] gNil:=by
 intro pins s σ H vs us Q I r h
 obtain⟨e,h⟩:=h
 subst e
 cases r
 exact assignInOrder_nil ⟨σ,H,I,h⟩
theorem aS {e:ua9}{es:List ua9}{t:TG}{u:TGs}(h1:PG X e t)(h2:PGs X es u)
  (hs:(assignEach (e::es) X.env).map (·.2)=assign e X.env::(assignEach es X.env).map (·.2):=by rfl):PGs X (e::es) (gCons t u):=by
 intro pins s σ H vs us Q I r h
 obtain⟨v,vr,e1,h⟩:=h
 subst e1
 cases r with
 | cons r rr =>
  rw[hs]
  refine assignInOrder_cons (thn (h1 pins s σ H _ _ _ I r h) λ _ s1 ⟨σ1,H1,I1,q1⟩=>?_)
  exact h2 pins s1 σ1 H1 _ _ Q I1 rr q1
inductive gTup_i (K:a8)(n:Nat)(t:TGs)(v:V)(σ:L2.St)(H:Hp)(Q:L2.St->Hp->Prop):Prop
 | mk:∀ a xs,(v=.ref a)->(SqT K H a xs)->(xs.length=n)->(t xs σ H Q)->gTup_i K n t v σ H Q
def gTup (K:a8)(n:Nat)(t:TGs):TG:=λ v σ H Q=>gTup_i K n t v σ H Q
theorem bQ {es:List ua9}{k:Nat}{t:TGs}{n:Nat}(hc:X.calm=true)(h:PGs X es t)
  (hn:(assignEach es X.env).length=n:=by rfl) (hst:(assignEach es X.env).findIdx? (·.1)=none:=by rfl):PG X (.Tuple es k pos) (gTup X.K n t):=by
 intro pins s σ H v u Q I r hw
 obtain⟨a,xs,e1,hq,hl,hw⟩:=hw
 subst e1
 cases r
 obtain⟨its,rv,ht,hz⟩:=I.tuple hq
 refine assign_Tuple_tuple (I.ok.hd hc) ht (by simp [hn,← hl,rv.length]) hst λ h' hx=>?_
 have I1:Inv X pins σ H { s with heap:=h' }:=I.kept (t':=s.toks) λ b o e=>hx b o (o0 (j8 e)) e
 exact h pins _ σ H xs _ Q I1 (by simpa using rv) hw
def gSub (to ti:TE)(t:TSet):TG:=λ v σ H Q=>to σ H λ o H1=>ti σ H1 λ i H2=>t o i v H2 λ H3=>Q σ H3
theorem eS {o i:ua9}{to ti:TE}{t:TSet}(ho:PE X o to)(hi:PE X i ti)(hs:PSet X t)
  (ha:∀ v,assign (.Subscript o i pos) X.env v=(do
   let ov ← holding [v] (eval o X.env)
   let iv ← holding [v,ov] (eval i X.env)
   standAt pos
   holding [v,ov,iv] (setItem ov iv v)
   release [v,ov,iv] []):=by intro _;rfl):PG X (.Subscript o i pos) (gSub to ti t):=by
 intro pins s σ H v u Q I r h
 rw[ha]
 refine a9 (uav (thn (ho pins s σ H _ I h) λ ov s1 ⟨x,H1,I1,r1,q1⟩=>?_))
 refine a9 (uav (thn (hi pins s1 σ H1 _ I1 q1) λ iv s2 ⟨y,H2,I2,r2,q2⟩=>?_))
 refine a9 (ufk (a9 (uav (thn (hs pins s2 σ H2 x y v ov iv u _ I2 r1 r2 r q2) λ _ s3 ⟨H3,I3,q3⟩=>?_))))
 exact wpAny_release ⟨σ,H3,I3,q3⟩
def tAsg (te:TE)(g:TG):TS:=λ D σ H=>te σ H λ x H1=>g x σ H1 D.nx
theorem bE {tg e:ua9}{te:TE}{g:TG}(he:PE X e te)(hg:PG X tg g)(hs:swapsWithSole [tg] e pos.line X.env=pure false:=by rfl)(hw:swappedStores [tg] e X.env=pure none:=by rfl)
  (h1:(assignEach [tg] X.env).map (·.2)=[assign tg X.env]:=by rfl):PS X (.Assign [tg] e pos) (tAsg te g):=by
 intro pins s σ H D I h
 refine wpAny_Assign_stores (thn (he pins s σ H _ I h) λ v s1 ⟨x,H1,I1,r1,q1⟩=>?_) hs hw
 rw[h1]
 exact thn (hg pins s1 σ H1 x v _ I1 r1 q1) λ _ s2 q=>q
theorem aO {i:Nat}{x:Str}{e:ua9}{te:TE}{pos':Pos}(hN:X.N.Nodup)(hi:X.N[i]?=some x)(hx:Loc X.env.scope x)(he:PE X e te)(hs:swapsWith e (some (.Name x pos')) pos.line X.env=pure false:=by rfl)(hf:X.fn x=true\/X.env.scope.names.lookup x=some .local:=by first | exact .inl rfl | exact .inr rfl | assumption) :
  PS X (.Assign [.Name x pos'] e pos) (tAsg te (gName i)):=by
 intro pins s σ H D I h
 refine wpAny_Assign_Name (thn (he pins s σ H _ I h) λ v s1 ⟨y,H1,I1,r1,q1⟩=>?_) hs
 exact hW I1 hN hi hx r1 (λ s2 I2=>⟨_,H1,I2,q1⟩) hf
end
section
variable {X:Cx}{pos:Pos}
def tWhile (c:TT)(tb:TS):TS:=λ D σ H=>∃ W:Nat->St->Hp->Prop,(∃ m,W m σ H)/\∀ m σ H,W m σ H ->
 c σ H λ b H1=>if b=true then ∃ N:St->Hp->Prop,(∀ σ' H',N σ' H'->∃ m',m'<m/\W m' σ' H')/\tb { D with nx:=N,ct:=N,bk:=D.nx } σ H1 else D.nx σ H1
theorem lU {c:ua9}{body:List ubv}{tc:TT}{tb:TS}(hp:PassesOwn (z9 X.prog X.w) X.A X.env X.xe)(hc:PT X c tc)(hb:PSs X body tb):PS X (.While c body [] pos) (tWhile tc tb):=by
 intro pins s σ H D I h
 obtain⟨W,⟨m0,w0⟩,turn⟩:=h
 refine wpAny_While (codeAny_whileLoop (λ n s'=>∃ σ' H',Inv X pins σ' H' s'/\W n σ' H') ?_ m0 ⟨σ,H,I,w0⟩)
 rintro n s1 ⟨σ1,H1,I1,w1⟩
 refine ucm hp (thn (hc pins s1 σ1 H1 _ I1 (turn n σ1 H1 w1)) λ b s2 ⟨H2,I2,q2⟩=>?_)
 cases b with
 | true =>
  obtain⟨N,hN,q2⟩:=q2
  rw[ugc rfl]
  refine ucm hp (thn (hb pins s2 σ1 H2 _ I2 q2) λ f s3 q3=>?_)
  cases f with
  | next =>
   obtain⟨σ3,H3,I3,n3⟩:=q3
   obtain⟨m',hm,w3⟩:=hN σ3 H3 n3
   exact⟨m',hm,σ3,H3,I3,w3⟩
  | cont =>
   obtain⟨σ3,H3,I3,n3⟩:=q3
   obtain⟨m',hm,w3⟩:=hN σ3 H3 n3
   exact⟨m',hm,σ3,H3,I3,w3⟩
  | brk=>exact q3
  | ret v=>exact q3
 | false =>
  rw[ugd m7]
  exact uc5 ⟨σ1,H2,I2,q2⟩
end
structure It where
 go:Nat->Hp->Prop
 yld:Nat->Hp->V->Hp->Prop
 stop:Nat->Hp->Prop
def FpOk (X:Cx)(pins:List (j7 × Obj))(H:Hp)(b:j7):Prop :=
 H b=none/\b≠X.env.locals/\b∉X.fs/\(b∈X.ex\/X.s₀.heap.objs.size<=b)/\(∀ x c,X.env.cells.lookup x=some c->c≠b)/\∀ p∈X.pn++pins,p.1≠b
theorem Inv.fpOk {X:Cx}{pins:List (j7 × Obj)}{σ:St}{H H':Hp}{s:d8}{b:j7}(I:Inv X pins σ H s)(hb:s.heap.objs.size<=b)(hn:H' b=none):FpOk X pins H' b:=by
 refine⟨hn,uda (o8 I.lt hb),I.nofs hb,.inr (w6 I.sz hb),λ x c e z=>?_,λ p hp z=>?_⟩
 ·obtain⟨v,q⟩:=I.cell x c e
  exact absurd (o8 q.lt (by rw[z];exact hb)) (ubh _)
 ·exact absurd (o8 (j8 (I.pin p hp).1) (by rw[z];exact hb)) (ubh _)
structure Turn (P:m9)(w:uaf)(K:a8)(tg:ua9)(J:It)(fp:List j7)(it:j7)(tn:Nat->Heap->Prop):Prop where
 mem:it∈fp
 obj:∀ i h,tn i h->∀ b∈fp,∃ o,h.get? b=some o/\∀ v,o.data≠.cell v
 keep:∀ i h h',tn i h->(∀ b∈fp,∀ o,h.get? b=some o->h'.get? b=some o)->tn i h'
 item:∀ (X:Cx),X.prog=P->X.w=w->X.K=K->X.calm=true->∀ (i:Nat)(pins:List (j7 × Obj))(s:d8)(σ:St)(H:Hp)(E:d7->d8->Prop),Inv X pins σ H s->(∀ b∈fp,FpOk X pins H b)->tn i s.heap->J.go i H ->
  p8 (z9 P w) X.A (pyNext (.ref it)) (λ r s1=>∃ u,r=some u /\
   p8 (z9 P w) X.A (letOwnedTupleGo tg (.ref it) u) (λ _ s2=>∃ x H',Inv X pins σ H' s2/\RelV x u/\J.yld i H x H'/\tn (i+1) s2.heap/\∀ b∈fp,H' b=none) E s1) E s
 done:∀ (X:Cx),X.prog=P->X.w=w->X.K=K->X.calm=true->∀ (i:Nat)(pins:List (j7 × Obj))(s:d8)(σ:St)(H:Hp)(E:d7->d8->Prop),Inv X pins σ H s->(∀ b∈fp,FpOk X pins H b)->tn i s.heap->J.stop i H ->
  p8 (z9 P w) X.A (pyNext (.ref it)) (λ r s1=>r=none/\Inv X pins σ H s1) E s
 self:∀ (A:v7)(i:Nat)(s:d8)(Q:d7->d8->Prop)(E:d7->d8->Prop),tn i s.heap->Q (.ref it) s->p8 (z9 P w) A (pyIter (.ref it)) Q E s
abbrev TI:=St->Hp->(It->Hp->Prop)->Prop
def PIE (X:Cx)(pins:List (j7 × Obj))(σ:St)(tg:ua9)(R:It->Hp->Prop)(itv:d7)(s2:d8):Prop :=
 ∃ (it:j7)(fp:List j7)(tn:Nat->Heap->Prop)(J:It)(H':Hp),itv=.ref it/\Inv X pins σ H' s2/\Turn X.prog X.w X.K tg J fp it tn/\tn 0 s2.heap/\(∀ b∈fp,FpOk X pins H' b)/\R J H'
def PI (X:Cx)(tg iter:ua9)(wi:TI):Prop :=
 ∀ (pins:List (j7 × Obj))(s:d8)(σ:St)(H:Hp)(R:It->Hp->Prop),Inv X pins σ H s->wi σ H R ->
  p8 (z9 X.prog X.w) X.A (eval iter X.env) (λ v s1=>p8 (z9 X.prog X.w) X.A (pyIter v) (PIE X pins σ tg R) X.xe s1) X.xe s
theorem jH {M:Model}{A:v7}{E:d7->d8->Prop}{s:d8}{tg:ua9}{it:j7}{u:d7}{o:Obj}{n:String}{vs:Array d7}{Q:Unit->d8->Prop}(ho:s.heap.get? it=some o)(hc:o.cls=.type n)(hd:o.data=.fields vs)
  (hn:["enumerate","zip","dict_itemiterator","dict_reverseitemiterator","odict_iterator","itertools.zip_longest","itertools.pairwise"].contains n=false) (hQ:Q () s):p8 M A (letOwnedTupleGo tg (.ref it) u) Q E s:=by
 unfold letOwnedTupleGo
 cases tg <;> first
  | exact j9 hQ
  | (cases u <;> first
      | exact j9 hQ
      | (refine a9 (wpAny_load ho ?_)
         rw[hc,hd]
         show p8 M A (if (["enumerate","zip","dict_itemiterator","dict_reverseitemiterator","odict_iterator","itertools.zip_longest","itertools.pairwise"].contains n&&vs[0]?==some (rawInt _))=true then _ else _) Q E s
         rw[ugd (by intro h;rw[hn,Bool.false_and] at h;cases h)]
         exact j9 hQ))
def Itl (K:a8)(a:j7):It :=
 ⟨λ i H=>∃ xs x,SqL K H a xs/\xs[i]?=some x,λ i H x H'=>H'=H/\∀ xs,SqL K H a xs->xs[i]?=some x,λ i H=>∃ xs,SqL K H a xs/\xs.length<=i⟩
def Itt (K:a8)(a:j7):It :=
 ⟨λ i H=>∃ xs x,SqT K H a xs/\xs[i]?=some x,λ i H x H'=>H'=H/\∀ xs,SqT K H a xs->xs[i]?=some x,λ i H=>∃ xs,SqT K H a xs/\xs.length<=i⟩
def Itr (lo:Int)(n:Nat):It:=⟨λ i _=>i<n,λ i H x H'=>H'=H/\x=.int (lo+i),λ i _=>n<=i⟩
theorem uY {P:m9}{w:uaf}{K:a8}{tg:ua9}(a it:j7):Turn P w K tg (Itl K a) [it] it (λ i h=>h.IsListIter it a i) where
 mem:=by simp
 obj:=λ i h st b hb=>by
  have e:b=it:=by simpa using hb
  subst e
  obtain⟨o,e,c,d⟩:=st
  exact⟨o,e,λ v z=>by rw[d] at z;cases z⟩
 keep:=λ i h h' st k=>st.at λ o e=>k it (by simp) o e
 item:=by
  intro X hP hw hK hc i pins s σ H E I hf st hg
  subst hP hw hK
  obtain⟨xs,x,hq,hx⟩:=hg
  obtain⟨its,rv,p,hz⟩:=I.list hq
  obtain⟨u,hu,ru⟩:=rv.get hx
  obtain⟨f0,f1,f2,f3,f4,f5⟩:=hf it (by simp)
  refine wpAny_pyNext_list_item st p.isList (x:=u) (by simpa using hu) λ h' st' sb=>?_
  have I1:Inv X pins σ H { s with heap:=h' }:=I.turned (t':=s.toks) (λ b o hb e=>(sb.2 b hb).trans e) f0 f1 f3 f4 f5
  obtain⟨o,e,c,d⟩:=id st'
  exact⟨u,rfl,jH (s:={ s with heap:=h' }) e c d (by decide) ⟨x,H,I1,ru,⟨rfl,λ ys hy=>by rw[I.list_inj hy hq];exact hx⟩,st',λ b hb=>(hf b hb).1⟩⟩
 done:=by
  intro X hP hw hK hc i pins s σ H E I hf st hg
  subst hP hw hK
  obtain⟨xs,hq,hx⟩:=hg
  obtain⟨its,rv,p,hz⟩:=I.list hq
  obtain⟨f0,f1,f2,f3,f4,f5⟩:=hf it (by simp)
  have hl:=rv.length
  exact wpAny_pyNext_list_end (I.ok.hd hc) st p.isList (by simp;left) λ h' eb=>⟨rfl,I.turned (t':=s.toks) (λ b o hb e=>eb b o hb e) f0 f1 f3 f4 f5⟩
 self:=λ _ _ _ _ _ st h=>wpAny_pyIter_listiter st h
theorem tS {P:m9}{w:uaf}{K:a8}{tg:ua9}(a it:j7):Turn P w K tg (Itt K a) [it] it (λ i h=>h.IsTupleIter it a i) where
 mem:=by simp
 obj:=λ i h st b hb=>by
  have e:b=it:=by simpa using hb
  subst e
  obtain⟨o,e,c,d⟩:=st
  exact⟨o,e,λ v z=>by rw[d] at z;cases z⟩
 keep:=λ i h h' st k=>st.at λ o e=>k it (by simp) o e
 item:=by
  intro X hP hw hK hc i pins s σ H E I hf st hg
  subst hP hw hK
  obtain⟨xs,x,hq,hx⟩:=hg
  obtain⟨its,rv,p,hz⟩:=I.tuple hq
  obtain⟨u,hu,ru⟩:=rv.get hx
  obtain⟨f0,f1,f2,f3,f4,f5⟩:=hf it (by simp)
  refine wpAny_pyNext_tuple_item st (show s.heap.IsTuple a its.toArray from p) (x:=u) (by simpa using hu) λ h' st' sb=>?_
  have I1:Inv X pins σ H { s with heap:=h' }:=I.turned (t':=s.toks) (λ b o hb e=>(sb.2 b hb).trans e) f0 f1 f3 f4 f5
  obtain⟨o,e,c,d⟩:=id st'
  exact⟨u,rfl,jH (s:={ s with heap:=h' }) e c d (by decide) ⟨x,H,I1,ru,⟨rfl,λ ys hy=>by rw[I.tuple_inj hy hq];exact hx⟩,st',λ b hb=>(hf b hb).1⟩⟩
 done:=by
  intro X hP hw hK hc i pins s σ H E I hf st hg
  subst hP hw hK
  obtain⟨xs,hq,hx⟩:=hg
  obtain⟨its,rv,p,hz⟩:=I.tuple hq
  obtain⟨f0,f1,f2,f3,f4,f5⟩:=hf it (by simp)
  have hl:=rv.length
  exact wpAny_pyNext_tuple_end (I.ok.hd hc) st (show s.heap.IsTuple a its.toArray from p) (by simp;left) λ h' eb=>⟨rfl,I.turned (t':=s.toks) (λ b o hb e=>eb b o hb e) f0 f1 f3 f4 f5⟩
 self:=λ _ _ _ _ _ st h=>wpAny_pyIter_tupleiter st h
theorem tT {P:m9}{w:uaf}{K:a8}{tg:ua9}(it:j7)(lo:Int)(n:Nat):Turn P w K tg (Itr lo n) [it] it (λ i h=>IsRangeIter h it (lo+(i:Nat)*1) ((n:Int)-(i:Nat)) 1) where
 mem:=by simp
 obj:=λ i h st b hb=>by
  have e:b=it:=by simpa using hb
  subst e
  exact⟨_,st,λ v z=>by
   have z':Data.fields _=Data.cell v:=z
   cases z'⟩
 keep:=λ i h h' st k=>k it (by simp) _ st
 item:=by
  intro X hP hw hK hc i pins s σ H E I hf st hg
  subst hP hw hK
  obtain⟨f0,f1,f2,f3,f4,f5⟩:=hf it (by simp)
  have W:=Walks.range (prog:=X.prog) (w:=X.w) (I.ok.hd hc) it lo 1 n
  refine W.item i s _ _ hg st λ v h' tk hv st' kk=>?_
  obtain⟨t,rfl⟩:=hv
  have I1:Inv X pins σ H { s with heap:=h',toks:=tk }:=I.turned (λ b o hb e=>kk b o (by simpa using hb) e) f0 f1 f3 f4 f5
  refine⟨_,rfl,jH (s:={ s with heap:=h',toks:=tk }) (n:="range_iterator") st' rfl rfl (by decide) ⟨.int (lo+i),H,I1,⟨t,?_⟩,⟨rfl,rfl⟩,st',λ b hb=>(hf b hb).1⟩⟩
  rw[Int.mul_one]
 done:=by
  intro X hP hw hK hc i pins s σ H E I hf st hg
  subst hP hw hK
  obtain⟨f0,f1,f2,f3,f4,f5⟩:=hf it (by simp)
  exact wpAny_pyNext_range_end (I.ok.hd hc) st (by have:n<=i:=hg;left) λ h' eb=>⟨rfl,I.turned (t':=s.toks) (λ b o hb e=>eb b o hb e) f0 f1 f3 f4 f5⟩
 self:=λ _ _ _ _ _ st h=>wpAny_pyIter_rangeiter st h
end L2
namespace L2
open PySem PySem.Spec PyProof.Rows
section
variable {X:Cx}{tg:ua9}
def iList (K:a8)(tl:TE):TI:=λ σ H R=>tl σ H λ x H1=>ERef x λ a=>(∃ xs,SqL K H1 a xs)/\R (Itl K a) H1
def iTup (K:a8)(tl:TE):TI:=λ σ H R=>tl σ H λ x H1=>ERef x λ a=>(∃ xs,SqT K H1 a xs)/\R (Itt K a) H1
theorem eM {l:ua9}{tl:TE}(hl:PE X l tl):PI X tg l (iList X.K tl):=by
 intro pins s σ H R I h
 refine thn (hl pins s σ H _ I h) λ v s1 ⟨x,H1,I1,r1,q1⟩=>?_
 obtain⟨a,e,⟨xs,hq⟩,q⟩:=q1
 subst e
 cases r1
 obtain⟨its,rv,p,hz⟩:=I1.list hq
 refine udg p.isList ?_
 refine⟨s1.heap.objs.size,[s1.heap.objs.size],_,_,H1,rfl,I1.kept (t':=s1.toks) λ b o e=>b9 _ e,uY a _,⟨_,l4 _ rfl,rfl,rfl⟩,λ b hb=>?_,q⟩
 have e:b=s1.heap.objs.size:=by simpa using hb
 subst e
 exact I1.fpOk (i7 _) (I1.hok.fresh (i7 _))
theorem cZ {l:ua9}{tl:TE}(hl:PE X l tl):PI X tg l (iTup X.K tl):=by
 intro pins s σ H R I h
 refine thn (hl pins s σ H _ I h) λ v s1 ⟨x,H1,I1,r1,q1⟩=>?_
 obtain⟨a,e,⟨xs,hq⟩,q⟩:=q1
 subst e
 cases r1
 obtain⟨its,rv,p,hz⟩:=I1.tuple hq
 refine wpAny_pyIter_tuple (show s1.heap.IsTuple a its.toArray from p) ?_
 refine⟨s1.heap.objs.size,[s1.heap.objs.size],_,_,H1,rfl,I1.kept (t':=s1.toks) λ b o e=>b9 _ e,tS a _,⟨_,l4 _ rfl,rfl,rfl⟩,λ b hb=>?_,q⟩
 have e:b=s1.heap.objs.size:=by simpa using hb
 subst e
 exact I1.fpOk (i7 _) (I1.hok.fresh (i7 _))
theorem wU {pins:List (j7 × Obj)}{σ:St}{H:Hp}{s:d8}{R:It->Hp->Prop}{E:d7->d8->Prop}{lo hi:Int}{t u v:Tok}{tk:Nat}(I:Inv X pins σ H s)(h1:-(2^62)<=lo)(h2:lo<2^62)(h3:-(2^62)<=hi)(h4:hi<2^62)
  (q:R (Itr lo (hi-lo).toNat) H):p8 (z9 X.prog X.w) X.A (pyIter (.ref s.heap.objs.size)) (PIE X pins σ tg R) E { s with heap:=s.heap.push { cls:=.type "range",data:=.fields #[.int lo t,.int hi u,.int 1 v] },toks:=tk }:=by
 refine wpAny_pyIter_range (IsRange.new ..) (small_one h1 h2 h3 h4) ?_
 have I1:Inv X pins σ H { s with heap:=s.heap.push { cls:=.type "range",data:=.fields #[.int lo t,.int hi u,.int 1 v] },toks:=tk }:=I.kept λ b o e=>b9 _ e
 refine⟨(s.heap.push { cls:=.type "range",data:=.fields #[.int lo t,.int hi u,.int 1 v] }).objs.size,[(s.heap.push { cls:=.type "range",data:=.fields #[.int lo t,.int hi u,.int 1 v] }).objs.size],_,_,H,rfl,
  I1.kept (t':=tk) λ b o e=>b9 _ e,tT _ lo (hi-lo).toNat,?_,λ b hb=>?_,q⟩
 ·have e1:lo+((0:Nat):Int)*1=lo:=by simp
  have e2:(((hi-lo).toNat:Nat):Int)-((0:Nat):Int)=Builtin.Range.rangeSize lo hi 1:=by rw[rangeSize_one];split <;> left
  show IsRangeIter _ _ (lo+((0:Nat):Int)*1) ((((hi-lo).toNat:Nat):Int)-((0:Nat):Int)) 1
  rw[e1,e2]
  exact l4 _ rfl
 ·have e:b=(s.heap.push { cls:=.type "range",data:=.fields #[.int lo t,.int hi u,.int 1 v] }).objs.size:=by simpa using hb
  subst e
  exact I1.fpOk (i7 _) (I1.hok.fresh (i7 _))
def iRng1 (ta:TA):TI:=λ σ H R=>ta σ H λ vs H1=>EOne vs λ j=>-(2^62)<=j/\j<2^62/\R (Itr 0 j.toNat) H1
theorem dH {a:ua9}{ta:TA}{p pos:Pos}(hg:Gl X "range")(hm:X.mg "range"=none)(ha:PA X [a] ta)(hs:uaa [a] X.env=[(false,eval a X.env)]:=by rfl):PI X tg (.Call (.Name "range" p) [a] [] pos) (iRng1 ta):=by
 intro pins s σ H R I h
 refine Call_ (dC I hg hm boot_range (ub5 (thn (ha pos pins s σ H _ I h) λ us s1 ⟨vs,H1,I1,r1,q1⟩=>?_) hs rfl))
 obtain⟨j,e,q1,q2,q⟩:=q1
 subst e
 cases r1 with
 | cons r rr =>
  cases rr
  obtain⟨t,rfl⟩:=r
  exact call_range_1 (wU I1 (by left) (by left) q1 q2 (by simpa using q))
def tFor (wi:TI)(g:TG)(tb:TS):TS:=λ D σ H=>wi σ H λ J H1=>∃ W:Nat->Nat->St->Hp->Prop,(∃ m,W 0 m σ H1)/\∀ i m σ H,W i m σ H ->
 (J.stop i H/\D.nx σ H)\/(J.go i H/\∃ N:St->Hp->Prop,(∀ σ' H',N σ' H'->∃ m',m'<m/\W (i+1) m' σ' H')/\∀ x H',J.yld i H x H'->g x σ H' λ σ2 H2=>tb { D with nx:=N,ct:=N,bk:=D.nx } σ2 H2)
def pinsAt (fp:List j7)(h:Heap):List (j7 × Obj):=fp.filterMap λ b=>(h.get? b).map λ o=>(b,o)
theorem eZ {fp:List j7}{h:Heap}{b:j7}{o:Obj}(hb:b∈fp)(e:h.get? b=some o):(b,o)∈pinsAt fp h:=List.mem_filterMap.mpr ⟨b,hb,by rw[e];rfl⟩
theorem vK {fp:List j7}{h:Heap}{p:j7 × Obj}(hp:p∈pinsAt fp h):p.1∈fp/\h.get? p.1=some p.2:=by
 obtain⟨b,hb,e⟩:=List.mem_filterMap.mp hp
 cases q:h.get? b with
 | none=>rw[q] at e;cases e
 | some o =>
  rw[q] at e
  have e':(b,o)=p:=t6 e
  subst e'
  exact⟨hb,q⟩
theorem Inv.pinned {pins:List (j7 × Obj)}{σ:St}{H:Hp}{s:d8}{fp:List j7}(I:Inv X pins σ H s)(hf:∀ b∈fp,FpOk X pins H b)(ho:∀ b∈fp,∃ o,s.heap.get? b=some o/\∀ v,o.data≠.cell v):Inv X (pins++pinsAt fp s.heap) σ H s :=
 I.pins_of λ p hp=>(m5.mp hp).elim (λ z=>I.pin p (l8 _ z)) λ z=>by
  obtain⟨hb,e⟩:=vK z
  obtain⟨f0,f1,f2,_⟩:=hf p.1 hb
  obtain⟨o,e',d⟩:=ho p.1 hb
  rw[e] at e';cases e'
  exact⟨e,f0,f1,f2,d⟩
theorem Inv.unpinned {pins pl:List (j7 × Obj)}{σ:St}{H:Hp}{s:d8}(I:Inv X (pins++pl) σ H s):Inv X pins σ H s:=I.pins_of λ p hp=>I.pin p (l8 _ (u4 _ hp))
theorem cC {iter:ua9}{body:List ubv}{wi:TI}{g:TG}{tb:TS}{pos:Pos}(hp:PassesOwn (z9 X.prog X.w) X.A X.env X.xe)(hc:X.calm=true)(hi:PI X tg iter wi)(hg:PG X tg g)(hb:PSs X body tb)
  (hs:∀ x,foldedSetIterable iter X.env x=pure x:=by intro _;rfl):PS X (.For tg iter body [] pos) (tFor wi g tb):=by
 intro pins s σ H D I h
 refine wpAny_For (thn (hi pins s σ H _ I h) λ v s1 h1=>thn h1 λ itv s2 h2=>?_) hs
 obtain⟨it,fp,tn,J,H2,e,I2,T,st2,f2,W,⟨m0,w0⟩,turn⟩:=h2
 subst e
  -- what stays true of the iterator's objects through the loop
 have stat:∀ {H':Hp},(∀ b∈fp,H' b=none)->∀ b∈fp,FpOk X pins H' b:=λ hn b hb=>⟨hn b hb,(f2 b hb).2⟩
 refine codeAny_forLoop_any (λ n s'=>∃ i σ' H',Inv X pins σ' H' s'/\tn i s'.heap/\(∀ b∈fp,H' b=none)/\W i n σ' H') ?_ m0 ⟨0,σ,H2,I2,st2,λ b hb=>(f2 b hb).1,w0⟩
 rintro n s3 ⟨i,σ3,H3,I3,st3,fr3,w3⟩
 rcases turn i n σ3 H3 w3 with ⟨stop,qn⟩ | ⟨go,N,hN,step⟩
 ·refine ucm hp (thn (T.done X rfl rfl rfl hc i pins s3 σ3 H3 X.xe I3 (stat fr3) st3 stop) λ r s4 ⟨hr,I4⟩=>?_)
  subst hr
  exact uc5 ⟨σ3,H3,I4,qn⟩
 ·refine ucm hp (thn (T.item X rfl rfl rfl hc i pins s3 σ3 H3 X.xe I3 (stat fr3) st3 go) λ r s4 ⟨u,hr,h4⟩=>?_)
  subst hr
  refine ucm hp (thn h4 λ _ s5 ⟨x,H5,I5,r5,y5,st5,fr5⟩=>?_)
  have I5':=I5.pinned (stat fr5) (T.obj _ _ st5)
  refine ucm hp (thn (hg _ s5 σ3 H5 x u _ I5' r5 (step x H5 y5)) λ _ s6 ⟨σ6,H6,I6,q6⟩=>?_)
  refine ucm hp (thn (hb _ s6 σ6 H6 _ I6 q6) λ f s7 q7=>?_)
  have again:∀ {σ7:St}{H7:Hp},Inv X (pins++pinsAt fp s5.heap) σ7 H7 s7->N σ7 H7->∃ m,m<n/\∃ i σ' H',Inv X pins σ' H' s7/\tn i s7.heap/\(∀ b∈fp,H' b=none)/\W i m σ' H':=λ {σ7 H7} I7 n7=>by
   obtain⟨m',hm,w7⟩:=hN σ7 H7 n7
   refine⟨m',hm,i+1,σ7,H7,I7.unpinned,T.keep _ _ _ st5 λ b hb o e=>(I7.pin (b,o) (l8 _ (l8 _ (eZ hb e)))).1,λ b hb=>?_,w7⟩
   obtain⟨o,e,d⟩:=T.obj _ _ st5 b hb
   exact (I7.pin (b,o) (l8 _ (l8 _ (eZ hb e)))).2.1
  cases f with
  | next=>obtain⟨σ7,H7,I7,n7⟩:=q7;exact again I7 n7
  | cont=>obtain⟨σ7,H7,I7,n7⟩:=q7;exact again I7 n7
  | brk=>obtain⟨σ7,H7,I7,q7⟩:=q7;exact⟨σ7,H7,I7.unpinned,q7⟩
  | ret v=>obtain⟨x7,σ7,H7,I7,r7,q7⟩:=q7;exact⟨x7,σ7,H7,I7.unpinned,r7,q7⟩
end
theorem gA {K:a8}{a:j7}{xs:List V}{g:TG}{tb:TS}{D:Ends}{σ:St}{H:Hp}(Pv:Nat->St->Hp->Prop)(h0:Pv 0 σ H)(hl:∀ i σ H,i<=xs.length->Pv i σ H->SqT K H a xs)
  (hs:∀ i x σ H,xs[i]?=some x->Pv i σ H->g x σ H λ σ2 H2=>tb { D with nx:=Pv (i+1),ct:=Pv (i+1),bk:=D.nx } σ2 H2) (hd:∀ σ H,Pv xs.length σ H->D.nx σ H) :
  ∃ W:Nat->Nat->St->Hp->Prop,(∃ m,W 0 m σ H)/\∀ i m σ H,W i m σ H ->
   ((Itt K a).stop i H/\D.nx σ H)\/((Itt K a).go i H/\∃ N:St->Hp->Prop,(∀ σ' H',N σ' H'->∃ m',m'<m/\W (i+1) m' σ' H')/\∀ x H',(Itt K a).yld i H x H'->g x σ H' λ σ2 H2=>tb { D with nx:=N,ct:=N,bk:=D.nx } σ2 H2):=by
 refine⟨λ i m σ H=>m=xs.length-i/\i<=xs.length/\Pv i σ H,⟨xs.length,by simp,uac _,h0⟩,?_⟩
 rintro i m σ H ⟨rfl,hi,p⟩
 have q:=hl i σ H hi p
 by_cases hlt:i<xs.length
 ·refine .inr ⟨⟨xs,xs[i],q,by simp [hlt]⟩,Pv (i+1),λ σ' H' p'=>⟨xs.length-(i+1),by left,rfl,hlt,p'⟩,λ x H' y=>?_⟩
  obtain⟨e,y⟩:=y
  subst e
  exact hs i x σ _ (y xs q) p
 ·have e:i=xs.length:=by left
  subst e
  exact .inl ⟨⟨xs,q,i7 _⟩,hd σ H p⟩
theorem eB {lo:Int}{n:Nat}{g:TG}{tb:TS}{D:Ends}{σ:St}{H:Hp}(Pv:Nat->St->Hp->Prop)(h0:Pv 0 σ H)
  (hs:∀ i σ H,i<n->Pv i σ H->g (.int (lo+i)) σ H λ σ2 H2=>tb { D with nx:=Pv (i+1),ct:=Pv (i+1),bk:=D.nx } σ2 H2) (hd:∀ σ H,Pv n σ H->D.nx σ H) :
  ∃ W:Nat->Nat->St->Hp->Prop,(∃ m,W 0 m σ H)/\∀ i m σ H,W i m σ H ->
   ((Itr lo n).stop i H/\D.nx σ H)\/((Itr lo n).go i H/\∃ N:St->Hp->Prop,(∀ σ' H',N σ' H'->∃ m',m'<m/\W (i+1) m' σ' H')/\∀ x H',(Itr lo n).yld i H x H'->g x σ H' λ σ2 H2=>tb { D with nx:=N,ct:=N,bk:=D.nx } σ2 H2):=by
 refine⟨λ i m σ H=>m=n-i/\i<=n/\Pv i σ H,⟨n,by simp,uac _,h0⟩,?_⟩
 rintro i m σ H ⟨rfl,hi,p⟩
 by_cases hlt:i<n
 ·refine .inr ⟨hlt,Pv (i+1),λ σ' H' p'=>⟨n-(i+1),by left,rfl,hlt,p'⟩,λ x H' y=>?_⟩
  obtain⟨e,y⟩:=y
  subst e y
  exact hs i σ _ hlt p
 ·have e:i=n:=by left
  subst e
  exact .inl ⟨i7 _,hd σ H p⟩
end L2
namespace L2
open PySem PySem.Spec PyProof.Rows
abbrev R2:=V->V->Hp->VK->Prop
def OpR (X:Cx)(f:d7->d7->Sem d7)(r:R2):Prop :=
 ∀ (pins:List (j7 × Obj))(s:d8)(σ:St)(H:Hp)(x y:V)(v u:d7)(Q:VK),Inv X pins σ H s->RelV x v->RelV y u->r x y H Q ->
  p8 (z9 X.prog X.w) X.A (f v u) (EP X pins σ Q) X.xe s
def UnR (X:Cx)(f:d7->Sem d7)(r:V->Hp->VK->Prop):Prop :=
 ∀ (pins:List (j7 × Obj))(s:d8)(σ:St)(H:Hp)(x:V)(v:d7)(Q:VK),Inv X pins σ H s->RelV x v->r x H Q ->
  p8 (z9 X.prog X.w) X.A (f v) (EP X pins σ Q) X.xe s
def CallR (X:Cx)(f:d7)(r:List V->Hp->VK->Prop):Prop :=
 ∀ (pins:List (j7 × Obj))(s:d8)(σ:St)(H:Hp)(xs:List V)(us:List d7)(Q:VK),Inv X pins σ H s->Vals xs us->r xs H Q ->
  p8 (z9 X.prog X.w) X.A (call f us) (EP X pins σ Q) X.xe s
def tOp (r:R2)(ta tb:TE):TE:=λ σ H Q=>ta σ H λ x H1=>tb σ H1 λ y H2=>r x y H2 Q
def tUn (r:V->Hp->VK->Prop)(ta:TE):TE:=λ σ H Q=>ta σ H λ x H1=>r x H1 Q
inductive rI_i (C:Int->Int->Prop)(g:Int->Int->V)(x:V)(y:V)(H:Hp)(Q:VK):Prop
 | mk:∀ i j,(x=.int i)->(y=.int j)->(C i j)->(Q (g i j) H)->rI_i C g x y H Q
def rI (C:Int->Int->Prop)(g:Int->Int->V):R2:=λ x y H Q=>rI_i C g x y H Q
inductive rI0_i (g:Int->Int->V)(x:V)(y:V)(H:Hp)(Q:VK):Prop
 | mk:∀ i j,(x=.int i)->(y=.int j)->(Q (g i j) H)->rI0_i g x y H Q
def rI0 (g:Int->Int->V):R2:=λ x y H Q=>rI0_i g x y H Q
inductive rU_i (g:Int->V)(x:V)(H:Hp)(Q:VK):Prop
 | mk:∀ i,(x=.int i)->(Q (g i) H)->rU_i g x H Q
def rU (g:Int->V):V->Hp->VK->Prop:=λ x H Q=>rU_i g x H Q
section
variable {X:Cx}{a b c:ua9}{ta tb tc:TE}{pos:Pos}
theorem binT (ha:PE X a ta)(hb:PE X b tb){pins:List (j7 × Obj)}{s:d8}{σ:St}{H:Hp}{R:V->V->Hp->Prop}(I:Inv X pins σ H s)
  (h:ta σ H λ x H1=>tb σ H1 λ y H2=>R x y H2) {Q:d7->d8->Prop} {f:d7->d7->Sem d7}
  (hf:∀ v u s2 x y H2,Inv X pins σ H2 s2->RelV x v->RelV y u->R x y H2->p8 (z9 X.prog X.w) X.A (f v u) Q X.xe s2) :
  p8 (z9 X.prog X.w) X.A (eval a X.env) (λ v s₁=>p8 (z9 X.prog X.w) X.A (eval b X.env) (λ u s₂=>p8 (z9 X.prog X.w) X.A (f v u) Q X.xe s₂) X.xe s₁) X.xe s:=by
 refine thn (ha pins s σ H _ I h) λ v s1 ⟨x,H1,I1,r1,q1⟩=>?_
 refine thn (hb pins s1 σ H1 _ I1 q1) λ u s2 ⟨y,H2,I2,r2,q2⟩=>?_
 exact hf v u s2 x y H2 I2 r1 r2 q2
theorem aJ {op:Operator}{r:R2}(ho:OpR X (binaryOp op) r)(ha:PE X a ta)(hb:PE X b tb):PE X (.BinOp a op b pos) (tOp r ta tb):=by
 intro pins s σ H Q I h
 exact wpAny_BinOp (binT ha hb I h λ v u s2 x y H2 I2 rx ry q=>ho pins s2 σ H2 x y v u Q I2 rx ry q)
theorem gI {op:UnaryOp}{r:V->Hp->VK->Prop}(ho:UnR X (unaryOp op) r)(ha:PE X a ta):PE X (.UnaryOp op a pos) (tUn r ta):=by
 intro pins s σ H Q I h
 exact UnaryOp_ (thn (ha pins s σ H _ I h) λ v s1 ⟨x,H1,I1,r1,q1⟩=>ho pins s1 σ H1 x v Q I1 r1 q1)
theorem opI {f:d7->d7->Sem d7}{C:Int->Int->Prop}{g:Int->Int->Int}
  (rule:∀ (i j:Int)(t u:Tok)(s:d8)(Q:d7->d8->Prop)(E:d7->d8->Prop),C i j->Q (.int (g i j) s.toks) { s with toks:=s.toks+1 }->p8 (z9 X.prog X.w) X.A (f (.int i t) (.int j u)) Q E s) :
  OpR X f (rI C λ i j=>.int (g i j)):=by
 intro pins s σ H x y v u Q I rx ry h
 obtain⟨i,j,rfl,rfl,hc,q⟩:=h
 obtain⟨t,rfl⟩:=rx
 obtain⟨t',rfl⟩:=ry
 exact rule i j t t' s _ _ hc ⟨.int (g i j),H,I.tok _,⟨_,rfl⟩,q⟩
theorem opI0 {f:d7->d7->Sem d7}{g:Int->Int->Int}
  (rule:∀ (i j:Int)(t u:Tok)(s:d8)(Q:d7->d8->Prop)(E:d7->d8->Prop),Q (.int (g i j) s.toks) { s with toks:=s.toks+1 }->p8 (z9 X.prog X.w) X.A (f (.int i t) (.int j u)) Q E s) :
  OpR X f (rI0 λ i j=>.int (g i j)):=by
 intro pins s σ H x y v u Q I rx ry h
 obtain⟨i,j,rfl,rfl,q⟩:=h
 obtain⟨t,rfl⟩:=rx
 obtain⟨t',rfl⟩:=ry
 exact rule i j t t' s _ _ ⟨.int (g i j),H,I.tok _,⟨_,rfl⟩,q⟩
theorem opB0 {f:d7->d7->Sem d7}{g:Int->Int->Bool}
  (rule:∀ (i j:Int)(t u:Tok)(s:d8)(Q:d7->d8->Prop)(E:d7->d8->Prop),Q (.bool (g i j)) s->p8 (z9 X.prog X.w) X.A (f (.int i t) (.int j u)) Q E s) :
  OpR X f (rI0 λ i j=>.bl (g i j)):=by
 intro pins s σ H x y v u Q I rx ry h
 obtain⟨i,j,rfl,rfl,q⟩:=h
 obtain⟨t,rfl⟩:=rx
 obtain⟨t',rfl⟩:=ry
 exact rule i j t t' s _ _ ⟨.bl (g i j),H,I,rfl,q⟩
def CDiv (i j:Int):Prop:=0<j/\j<1073741824
def CPow (i j:Int):Prop:=0<=j/\j<=1000000/\i.natAbs<2^64
def CMul (i j:Int):Prop:=(-(2^64)<i/\i<2^64)\/(-(2^64)<j/\j<2^64)
theorem CMul.ok {i j:Int}(h:CMul i j):IntMulOk i j:=by
 rcases h with ⟨h1,h2⟩ | ⟨h1,h2⟩
 ·exact .of_left (intBits_le_64 h1 h2)
 ·exact .of_right (intBits_le_64 h1 h2)
theorem bT:OpR X (binaryOp .Add) (rI0 λ i j=>.int (i+j)):=opI0 λ _ _ _ _ _ _ _ q=>add_int q
theorem cS:OpR X (binaryOp .Sub) (rI0 λ i j=>.int (i-j)):=opI0 λ _ _ _ _ _ _ _ q=>sub_int q
theorem dQ:OpR X (binaryOp .Mult) (rI CMul λ i j=>.int (i*j)):=opI λ _ _ _ _ _ _ _ hc q=>mul_int q hc.ok
theorem nU:OpR X (binaryOp .FloorDiv) (rI CDiv λ i j=>.int (i / j)):=opI λ i j _ _ _ _ _ hc q=>by
 have h1:(0:Int)<j:=hc.1
 have h2:j<1073741824:=hc.2
 exact floordiv_int (by left) (by rw[Int.fdiv_eq_ediv_of_nonneg i (by left)];exact q) (.inl (PyProof.noPylong_small (by left)))
theorem bS:OpR X (binaryOp .Mod) (rI (λ _ j=>0<j) λ i j=>.int (i%j)):=opI λ i j _ _ _ _ _ hc q=>by
 have h1:(0:Int)<j:=hc
 exact mod_int' (by left) (by rw[Int.fmod_eq_emod_of_nonneg i (by left)];exact q)
theorem bN:OpR X (binaryOp .Pow) (rI CPow λ i j=>.int (i^j.toNat)):=opI λ _ _ _ _ _ _ _ hc q=>pow_int_small hc.1 hc.2.1 hc.2.2 q
theorem unI {f:d7->Sem d7}{g:Int->Int}
  (rule:∀ (i:Int)(t:Tok)(s:d8)(Q:d7->d8->Prop)(E:d7->d8->Prop),Q (.int (g i) s.toks) { s with toks:=s.toks+1 }->p8 (z9 X.prog X.w) X.A (f (.int i t)) Q E s) :
  UnR X f (rU λ i=>.int (g i)):=by
 intro pins s σ H x v Q I rx h
 obtain⟨i,rfl,q⟩:=h
 obtain⟨t,rfl⟩:=rx
 exact rule i t s _ _ ⟨.int (g i),H,I.tok _,⟨_,rfl⟩,q⟩
theorem gE:UnR X (unaryOp .USub) (rU λ i=>.int (-i)):=unI λ _ _ _ _ _ q=>neg_int q
end
def scal:V->V->Bool
 | .non,.non=>true | .non,.int _=>true | .int _,.non=>true | .non,.bl _=>true | .bl _,.non=>true | .non,.str _=>true | .str _,.non=>true
 | .int _,.int _=>true | .bl _,.bl _=>true | .str _,.str _=>true | .byt _,.byt _=>true
 | .int _,.str _=>true | .str _,.int _=>true | .bl _,.str _=>true | .str _,.bl _=>true
 | _,_=>false
def rEq:R2:=λ x y H Q=>scal x y=true/\Q (.bl (decide (x=y))) H
def rNe:R2:=λ x y H Q=>scal x y=true/\Q (.bl (!decide (x=y))) H
theorem iQ {i j:Int}:decide (V.int i=V.int j)=(i==j):=by
 rw[ucg]
 simp
theorem oX {i j:Bool}:decide (V.bl i=V.bl j)=(i==j):=by
 rw[ucg]
 simp
theorem oB {i j:Str}:decide (V.str i=V.str j)=(i==j):=by
 rw[ucg]
 simp
theorem oC {i j:Array UInt8}:decide (V.byt i=V.byt j)=(i.toList==j.toList):=by
 rw[ucg]
 cases i
 cases j
 simp
section
variable {X:Cx}{a b c:ua9}{ta tb tc:TE}{pos:Pos}
theorem aP {pins:List (j7 × Obj)}{σ:St}{H:Hp}{s:d8}{Q:VK}{k k':Bool}(I:Inv X pins σ H s)(q:Q (.bl k) H)(e:k=k'):EP X pins σ Q (.bool k') s:=by
 subst e
 exact⟨.bl k,H,I,rfl,q⟩
theorem aX:OpR X (compareOp .Eq) rEq:=by
 intro pins s σ H x y v u Q I rx ry h
 obtain⟨hs,q⟩:=h
 cases x with
 | non =>
  cases rx
  cases y with
  | non=>cases ry;exact PySem.EqNone.eq_none_none (aP I q (by simp))
  | bl j=>cases ry;exact PySem.EqNone.eq_none_bool (aP I q (by simp))
  | int j=>obtain⟨t',rfl⟩:=ry;exact PySem.EqNone.eq_none_int (aP I q (by simp))
  | str j=>obtain⟨t',rfl⟩:=ry;exact PySem.EqNone.eq_none_str (aP I q (by simp))
  | _=>exact absurd (show false=true from hs) m7
 | bl i =>
  cases rx
  cases y with
  | non=>cases ry;exact PySem.EqNone.eq_bool_none (aP I q (by simp))
  | bl j=>cases ry;exact eq_bool (aP I q oX)
  | str j=>obtain⟨t',rfl⟩:=ry;exact PySem.EqMixed.eq_bool_str (aP I q (by simp))
  | _=>exact absurd (show false=true from hs) m7
 | int i =>
  obtain⟨t,rfl⟩:=rx
  cases y with
  | non=>cases ry;exact PySem.EqNone.eq_int_none (aP I q (by simp))
  | int j=>obtain⟨t',rfl⟩:=ry;exact eq_int (aP I q iQ)
  | str j=>obtain⟨t',rfl⟩:=ry;exact PySem.EqMixed.eq_int_str (aP I q (by simp))
  | _=>exact absurd (show false=true from hs) m7
 | str i =>
  obtain⟨t,rfl⟩:=rx
  cases y with
  | non=>cases ry;exact PySem.EqNone.eq_str_none (aP I q (by simp))
  | bl j=>cases ry;exact PySem.EqMixed.eq_str_bool (aP I q (by simp))
  | int j=>obtain⟨t',rfl⟩:=ry;exact PySem.EqMixed.eq_str_int (aP I q (by simp))
  | str j=>obtain⟨t',rfl⟩:=ry;exact eq_str (aP I q oB)
  | _=>exact absurd (show false=true from hs) m7
 | byt i =>
  obtain⟨t,rfl⟩:=rx
  cases y with
  | byt j=>obtain⟨t',rfl⟩:=ry;exact PySem.W.eq_bytes (aP I q oC)
  | _=>exact absurd (show false=true from hs) m7
 | _=>cases y <;> exact absurd (show false=true from hs) m7
theorem jG:OpR X (compareOp .NotEq) rNe:=by
 intro pins s σ H x y v u Q I rx ry h
 obtain⟨hs,q⟩:=h
 cases x with
 | non =>
  cases rx
  cases y with
  | non=>cases ry;exact PySem.EqNone.ne_none_none (aP I q (by simp))
  | bl j=>cases ry;exact PySem.EqNone.ne_none_bool (aP I q (by simp))
  | int j=>obtain⟨t',rfl⟩:=ry;exact PySem.EqNone.ne_none_int (aP I q (by simp))
  | str j=>obtain⟨t',rfl⟩:=ry;exact PySem.EqNone.ne_none_str (aP I q (by simp))
  | _=>exact absurd (show false=true from hs) m7
 | bl i =>
  cases rx
  cases y with
  | non=>cases ry;exact PySem.EqNone.ne_bool_none (aP I q (by simp))
  | bl j=>cases ry;exact ne_bool (aP I q (congrArg not oX))
  | str j=>obtain⟨t',rfl⟩:=ry;exact PySem.EqMixed.ne_bool_str (aP I q (by simp))
  | _=>exact absurd (show false=true from hs) m7
 | int i =>
  obtain⟨t,rfl⟩:=rx
  cases y with
  | non=>cases ry;exact PySem.EqNone.ne_int_none (aP I q (by simp))
  | int j=>obtain⟨t',rfl⟩:=ry;exact ne_int (aP I q (congrArg not iQ))
  | str j=>obtain⟨t',rfl⟩:=ry;exact PySem.EqMixed.ne_int_str (aP I q (by simp))
  | _=>exact absurd (show false=true from hs) m7
 | str i =>
  obtain⟨t,rfl⟩:=rx
  cases y with
  | non=>cases ry;exact PySem.EqNone.ne_str_none (aP I q (by simp))
  | bl j=>cases ry;exact PySem.EqMixed.ne_str_bool (aP I q (by simp))
  | int j=>obtain⟨t',rfl⟩:=ry;exact PySem.EqMixed.ne_str_int (aP I q (by simp))
  | str j=>obtain⟨t',rfl⟩:=ry;exact ne_str (aP I q (congrArg not oB))
  | _=>exact absurd (show false=true from hs) m7
 | byt i =>
  obtain⟨t,rfl⟩:=rx
  cases y with
  | byt j=>obtain⟨t',rfl⟩:=ry;exact PySem.W.ne_bytes (aP I q (congrArg not oC))
  | _=>exact absurd (show false=true from hs) m7
 | _=>cases y <;> exact absurd (show false=true from hs) m7
theorem dU:OpR X (compareOp .Lt) (rI0 λ i j=>.bl (decide (i<j))):=opB0 λ _ _ _ _ _ _ _ q=>lt_int q
theorem eU:OpR X (compareOp .LtE) (rI0 λ i j=>.bl (decide (i<=j))):=opB0 λ _ _ _ _ _ _ _ q=>le_int q
theorem eV:OpR X (compareOp .Gt) (rI0 λ i j=>.bl (decide (j<i))):=opB0 λ _ _ _ _ _ _ _ q=>gt_int q
theorem eT:OpR X (compareOp .Is) (λ x y H Q=>y=.non/\Q (.bl (decide (x=.non))) H):=by
 intro pins s σ H x y v u Q I rx ry h
 obtain⟨rfl,q⟩:=h
 cases ry
 refine is_none_gen (aP I q ?_)
 cases x <;> first
  | (cases rx;rfl)
  | (obtain⟨t,rfl⟩:=rx;rfl)
theorem zR:OpR X (compareOp .IsNot) (λ x y H Q=>y=.non/\Q (.bl (!decide (x=.non))) H):=by
 intro pins s σ H x y v u Q I rx ry h
 obtain⟨rfl,q⟩:=h
 cases ry
 refine isnot_none_gen (aP I q ?_)
 cases x <;> first
  | (cases rx;rfl)
  | (obtain⟨t,rfl⟩:=rx;rfl)
def isObj:HO->Bool
 | .lst _=>true
 | .ins _ _ _=>true
 | _=>false
theorem kJ {pins:List (j7 × Obj)}{s:d8}{σ:St}{H:Hp}{a:j7}{o:HO}(I:Inv X pins σ H s)(h:H a=some o)(p:isObj o=true):∃ ob,s.heap.get? a=some ob/\ob.cls≠.type "tuple":=by
 cases o with
 | lst xs =>
  obtain⟨_,its,n,_,e⟩:xs.length<=p9/\∃ (its:List d7)(n:Nat),Vals xs its/\s.heap.get? a=some { cls:=.type "list",data:=.seq its.toArray n }:=I.hok a _ h
  exact⟨_,e,(by show Value.type "list"≠.type "tuple";decide +kernel)⟩
 | ins C dx fs =>
  have x:=I.hok a _ h
  obtain⟨_,_,_,e,_⟩:=x
  exact⟨_,e,(by show Value.ref C≠.type "tuple";exact λ z=>by cases z)⟩
 | _=>exact absurd (show false=true from p) m7
theorem OpR.or {f:d7->d7->Sem d7}{r r':R2}(h:OpR X f r)(h':OpR X f r'):OpR X f (λ x y H Q=>r x y H Q\/r' x y H Q):=by
 intro pins s σ H x y v u Q I rx ry q
 rcases q with q | q
 ·exact h pins s σ H x y v u Q I rx ry q
 ·exact h' pins s σ H x y v u Q I rx ry q
theorem nomark (b:ua9){op:CmpOp}(h:op≠.In:=by decide)(h2:op≠.NotIn:=by decide):behindInMarks op b=false:=by
 have e1:(op==CmpOp.In)=false:=by cases op <;> first | rfl | exact absurd rfl h
 have e2:(op==CmpOp.NotIn)=false:=by cases op <;> first | rfl | exact absurd rfl h2
 cases b <;> simp [behindInMarks,e1,e2]
theorem bB {op:CmpOp}{r:R2}(ho:OpR X (compareOp op) r)(ha:PE X a ta)(hb:PE X b tb)(hm:behindInMarks op b=false):PE X (.Compare a [op] [b] pos) (tOp r ta tb):=by
 intro pins s σ H Q I h
 exact wpAny_Compare1 (binT ha hb I h λ v u s2 x y H2 I2 rx ry q=>ho pins s2 σ H2 x y v u Q I2 rx ry q) hm
def tTest (t:TE):TT:=λ σ H Q=>t σ H λ x H'=>EBl x λ k=>Q k H'
theorem aR {op:CmpOp}{r:R2}(ho:OpR X (compareOp op) r)(ha:PE X a ta)(hb:PE X b tb)(hm:behindInMarks op b=false):PT X (.Compare a [op] [b] pos) (tTest (tOp r ta tb)):=by
 intro pins s σ H Q I h
 refine wpAny_isTrue_Compare1 (thn (ha pins s σ H _ I h) λ v s1 ⟨x,H1,I1,r1,q1⟩=>thn (hb pins s1 σ H1 _ I1 q1) λ u s2 ⟨y,H2,I2,r2,q2⟩ =>
  thn (ho pins s2 σ H2 x y v u _ I2 r1 r2 q2) λ c s3 ⟨z,H3,I3,r3,k,e,q3⟩=>?_) hm
 subst e
 cases r3
 exact ubu ⟨H3,I3,q3⟩
def tChain (r r':R2)(ta tb tc:TE):TE:=λ σ H Q=>ta σ H λ x H1=>tb σ H1 λ y H2=>r x y H2 λ z H3=>EBl z λ k=>(if k=true then tc σ H3 λ w' H4=>r' y w' H4 Q else Q (.bl false) H3)
theorem lS {op op':CmpOp}{r r':R2}(ho:OpR X (compareOp op) r)(ho':OpR X (compareOp op') r')(ha:PE X a ta)(hb:PE X b tb)(hc:PE X c tc)
  (hm:lastMarks [op,op'] [b,c]=false:=by with_unfolding_all rfl):PT X (.Compare a [op,op'] [b,c] pos) (tTest (tChain r r' ta tb tc)):=by
 intro pins s σ H Q I h
 refine isTrue_chain (thn (ha pins s σ H _ I h) λ v s1 ⟨x,H1,I1,r1,q1⟩=>test_link (thn (hb pins s1 σ H1 _ I1 q1) λ u s2 ⟨y,H2,I2,r2,q2⟩ =>
  thn (ho pins s2 σ H2 x y v u _ I2 r1 r2 q2) λ d s3 ⟨z,H3,I3,r3,k,e,q3⟩=>?_)) hm
 subst e
 cases r3
 refine ubu ?_
 cases k with
 | false =>
  obtain⟨k',e',q'⟩:=q3
  cases e'
  exact ite_ff ⟨H3,I3,q'⟩
 | true =>
  refine ite_tt (test_last (thn (hc pins s3 σ H3 _ I3 q3) λ w' s4 ⟨z',H4,I4,r4,q4⟩=>thn (ho' pins s4 σ H4 y z' u w' _ I4 r2 r4 q4) λ d' s5 ⟨z2,H5,I5,r5,k2,e2,q5⟩=>?_))
  subst e2
  cases r5
  exact ubu ⟨H5,I5,q5⟩
theorem line63:(p9:Nat)<2^63:=by rw[ubk];decide
theorem vals1 {x:V}{us:List d7}(r:Vals [x] us):∃ u,us=[u]/\RelV x u:=by
 cases r with
 | cons r1 r2=>cases r2;exact⟨_,rfl,r1⟩
theorem vals2 {x y:V}{us:List d7}(r:Vals [x,y] us):∃ u w',us=[u,w']/\RelV x u/\RelV y w':=by
 cases r with
 | cons r1 r2 =>
  cases r2 with
  | cons r3 r4=>cases r4;exact⟨_,_,rfl,r1,r3⟩
theorem gY (hc:X.calm=true):CallR X (.builtin "max") (λ xs H Q=>∃ i j,xs=[.int i,.int j]/\Q (.int (if j>i then j else i)) H):=by
 intro pins s σ H xs us Q I r h
 obtain⟨i,j,rfl,q⟩:=h
 obtain⟨u,w',rfl,⟨t,rfl⟩,⟨t',rfl⟩⟩:=vals2 r
 refine max_two_ints (I.ok.hd hc) λ h' tk k=>⟨_,H,I.kept k,?_,q⟩
 by_cases hj:j>i
 ·rw[ugc hj,ugc hj];exact⟨_,rfl⟩
 ·rw[ugd hj,ugd hj];exact⟨_,rfl⟩
inductive call_min2_i  (xs:List V) (H:Hp) (Q:VK):Prop
 | mk:∀ i j,(xs=[.int i,.int j])->(Q (.int (if j<i then j else i)) H)->call_min2_i xs H Q
theorem gX (hc:X.calm=true):CallR X (.builtin "min") (call_min2_i):=by
 intro pins s σ H xs us Q I r h
 obtain⟨i,j,rfl,q⟩:=h
 obtain⟨u,w',rfl,⟨t,rfl⟩,⟨t',rfl⟩⟩:=vals2 r
 refine min_two_ints (I.ok.hd hc) λ h' tk k=>⟨_,H,I.kept k,?_,q⟩
 by_cases hj:j<i
 ·rw[ugc hj,ugc hj];exact⟨_,rfl⟩
 ·rw[ugd hj,ugd hj];exact⟨_,rfl⟩
end
end L2
namespace L2
open PySem PySem.Spec PyProof.Rows
structure ObjM (h:Heap)(x dx C:j7)(mA:Str->Option d7):Prop where
 obj:h.get? x=some (ucb C dx)
 ns:h.Ns1 dx mA
 ne:dx≠x
theorem vN {h:Heap}{dx:j7}{mA:Str->Option d7}(n:h.Ns1 dx mA):∃ od,h.get? dx=some od/\∀ name,ufn name od=some (mA name):=by
 obtain⟨o,es,ep,ho,hd,hk,_,hm⟩:=n
 refine⟨o,ho,λ name=>?_⟩
 have e:=hm name
 unfold nsFind findBy at e
 rw[← udx] at e
 unfold ufn
 rw[hd]
 dsimp only
 split
 ·rename_i y q
  rw[q] at e
  exact congrArg some e
 ·rename_i q
  rw[q] at e
  have a:es.toList.any (·.refKey)=false:=by
   rw[List.any_eq_false]
   intro y hy
   obtain⟨z,t,hkey⟩:=hk y (uew.mp hy)
   simp [DictEntry.refKey,hkey]
  have a':¬ es.toList.any (·.refKey)=true:=by rw[a];exact m7
  rw[ugd a']
  exact congrArg some e
theorem ObjM.look {h:Heap}{x dx C:j7}{mA:Str->Option d7}(I:ObjM h x dx C mA):∃ od,PySem.W.InstAt h x (ucb C dx) C (some od)/\∀ name,ufn name od=some (mA name) :=
 let ⟨od,ho,hl⟩:=vN I.ns
 ⟨od,⟨I.obj,rfl,rfl,ho⟩,hl⟩
section
variable {prog:m9}{w:uaf}{A:v7}{E:d7->d8->Prop}{s:d8}{K:a8}{x dx C f:j7}{mA:Str->Option d7}{name:Str}{v:d7}
end
section
variable {P:m9}{w:uaf}{H H':Hp}{h h':Heap}{a C dx:j7}{fs fs':List (Str × V)}
theorem zad (hok:HOk P w H h)(e:H a=some (.ins C dx fs)):∃ mA,ObjM h a dx C mA/\(∀ f,RelO (fs.lookup f) (mA f))/\PySem.Within mA (fs.map (·.1))/\fs.length<=1000/\H dx=some (.own a):=by
 obtain⟨d,z,ne,ob,mA,n,r,q⟩:=(show ObjOk P w H h a (.ins C dx fs) from hok a _ e)
 exact⟨mA,⟨ob,n,ne⟩,r,q,z,d⟩
end
structure Cls (K:a8)(C:j7):Prop where
 pg:PySem.W.plainGet K C Str.empty=true
 hd:PySem.W.hasDictIn K C=true
 po:PySem.W.plainOver K C=true
 sa:uel K (.ref C) "__setattr__"=some (some (.builtin "object.__setattr__"))
theorem Cls.get {K:a8}{C:j7}(c:Cls K C)(f:Str):PySem.W.plainGet K C f=true:=c.pg
structure Con (K:a8)(C:j7)(f:Str)(v:V)(u:d7):Prop where
 at_:uel K (.ref C) f=some (some u)
 rel:RelV v u
 get:PySem.W.specialIn K u "__get__"=some none
 cp:PySem.W.copiedNames.contains f=false
section
variable {X:Cx}{pins:List (j7 × Obj)}{σ:St}{H:Hp}{s:d8}{a C dx:j7}{fs:List (Str × V)}{f:Str}{v:V}{A:v7}{E:d7->d8->Prop}
theorem Inv.made (I:Inv X pins σ H s):Inv X pins σ (upd (upd H s.heap.objs.size (.own (s.heap.objs.size+1))) (s.heap.objs.size+1) (.ins C s.heap.objs.size []))
  { s with heap:=(s.heap.push ubo).push (ucb C s.heap.objs.size) }:=by
 have e1:(s.heap.push ubo).get? s.heap.objs.size=some ubo:=l4 s.heap rfl
 have e2:((s.heap.push ubo).push (ucb C s.heap.objs.size)).get? (s.heap.objs.size+1)=some (ucb C s.heap.objs.size):=by
  have:=l4 (s.heap.push ubo) (o:=ucb C s.heap.objs.size) rfl
  rwa [ua0] at this
 have e3:(s.heap.push ubo).Ns s.heap.objs.size (λ _=>none):=⟨ubo,#[],_,e1,rfl,(λ e he=>absurd he (by simp)),λ _=>rfl⟩
 have I1:=I.laid (a:=s.heap.objs.size) (o:=.own (s.heap.objs.size+1)) (h':=s.heap.push ubo) (t':=s.toks) (λ b u q=>b9 _ q) (i7 _) ⟨_,e1⟩
 refine I1.laid (a:=s.heap.objs.size+1) (o:=.ins C s.heap.objs.size []) (t':=s.toks) (λ b u q=>b9 _ q) (ubl (ua0 _ _)) ?_
 have ne:s.heap.objs.size≠s.heap.objs.size+1:=o0 (ueh _)
 refine⟨by rw[aD ne,aH],uac _,ne,e2,λ _=>none,(Heap.Ns1.of_empty e3).at λ o q=>b9 _ q,λ _=>True.intro,λ y hy=>absurd rfl hy⟩
end
section
variable {X:Cx}{o e value:ua9}{f:Str}{pos pos' tpos:Pos}{ta tv:TE}
end
section
variable {X:Cx}{pins:List (j7 × Obj)}{σ:St}{H:Hp}{s:d8}{A:v7}{E:d7->d8->Prop}{Q:d7->d8->Prop}{c:d7}{b:Bool}
inductive TyOf (K:a8)(H:Hp):V->d7->Prop where
 | non:TyOf K H .non (.type "NoneType")
 | bl (x:Bool):TyOf K H (.bl x) (.type "bool")
 | int (i:Int):TyOf K H (.int i) (.type "int")
 | str (x:Str):TyOf K H (.str x) (.type "str")
 | flt (x:UInt64):TyOf K H (.flt x) (.type "float")
 | lst {a:j7} {xs:List V} (e:H a=some (.lst xs)):TyOf K H (.ref a) (.type "list")
 | frz {a:j7} {o:Obj} {xs:List V} (e:H a=some (.frz o (.lst xs))):TyOf K H (.ref a) (.type "list")
 | tup {a:j7} {xs:List V} (e:H a=some (.tup xs)):TyOf K H (.ref a) (.type "tuple")
 | dK {a:j7} {kvs:List (Key × V)} (e:H a=some (.dK kvs)):TyOf K H (.ref a) (.type "dict")
 | dT {a:j7} {kvs:List (List Key × V)} (e:H a=some (.dT kvs)):TyOf K H (.ref a) (.type "dict")
 | ins {a C dx : j7} {fs : List (Str × V)} (e : H a = some (.ins C dx fs)) (cl : Cls K C) (ha : uel K (.ref C) "__class__" = some (some (.builtin "object.__class__")))
     (hn:PySem.W.specialIn K (.builtin "object.__class__") "__get__"=some (some (.builtin "getset_descriptor.__get__"))) (htk:PySem.W.takesIn K (.builtin "object.__class__")=some true)
     (hm:PySem.W.mroIn K C (.type "object")=some true):TyOf K H (.ref a) (.ref C)
theorem vS {x:V}{u t:d7}(I:Inv X pins σ H s)(rx:RelV x u)(ty:TyOf X.K H x t)(e:uc0 X.K t c=some b)(h:∀ tk,Q (.bool b) { s with toks:=tk }) :
  p8 (z9 X.prog X.w) A (call (.builtin "isinstance") [u,c]) Q E s:=by
 cases ty with
 | non=>cases (show u=Value.none from rx);exact uay PySem.W.kitx_none I.kIn True.intro e (λ z=>nomatch z) h
 | bl y=>cases (show u=Value.bool y from rx);exact uay PySem.W.kitx_bool I.kIn True.intro e (λ z=>nomatch z) h
 | int i=>obtain⟨t,q⟩:=(show ∃ t,u=Value.int i t from rx);cases q;exact uay PySem.W.kitx_int I.kIn True.intro e (λ z=>nomatch z) h
 | str y=>obtain⟨t,q⟩:=(show ∃ t,u=Value.str y t from rx);cases q;exact uay PySem.W.kitx_str I.kIn True.intro e (λ z=>nomatch z) h
 | flt y=>obtain⟨t,q⟩:=(show ∃ t,u=Value.float y t from rx);cases q;exact uay PySem.W.kitx_float I.kIn True.intro e (λ z=>nomatch z) h
 | @lst a xs ea =>
  cases (show u=Value.ref a from rx)
  obtain⟨_,_,n,_,h1⟩:=(show ObjOk X.prog X.w H s.heap a (.lst xs) from I.hok a _ ea)
  exact uay PySem.W.kitx_list I.kIn ⟨_,h1,rfl⟩ e (λ z=>nomatch z) h
 | @frz a ob xs ea =>
  cases (show u=Value.ref a from rx)
  obtain⟨_,_,_,n,_,h1⟩:=(show ObjOk X.prog X.w H s.heap a (.frz ob (.lst xs)) from I.hok a _ ea)
  exact uay PySem.W.kitx_list I.kIn ⟨_,h1,rfl⟩ e (λ z=>nomatch z) h
 | @tup a xs ea =>
  cases (show u=Value.ref a from rx)
  obtain⟨_,_,_,p⟩:=(show ObjOk X.prog X.w H s.heap a (.tup xs) from I.hok a _ ea)
  obtain⟨o,h1,h2,_⟩:=p
  exact uay PySem.W.kitx_tuple I.kIn ⟨o,h1,h2⟩ e (λ z=>nomatch z) h
 | @dK a kvs ea =>
  cases (show u=Value.ref a from rx)
  obtain⟨_,_,vs,_,p⟩:=(show ObjOk X.prog X.w H s.heap a (.dK kvs) from I.hok a _ ea)
  obtain⟨o,es,ep,h1,h2,_⟩:=p
  exact uay PySem.W.kitx_dict I.kIn ⟨o,h1,h2.1⟩ e (λ z=>nomatch z) h
 | @dT a kvs ea =>
  cases (show u=Value.ref a from rx)
  obtain⟨_,_,xs,_,o,es,ep,h1,h2,_⟩:=(show ObjOk X.prog X.w H s.heap a (.dT kvs) from I.hok a _ ea)
  exact uay PySem.W.kitx_dict I.kIn ⟨o,h1,h2.1⟩ e (λ z=>nomatch z) h
 | @ins a C dx fs ea cl ha hn htk hm =>
  cases (show u=Value.ref a from rx)
  obtain⟨mA,O,_⟩:=zad I.hok ea
  obtain⟨od,J,_⟩:=O.look
  exact uay (PySem.W.kitx_own (cl.get _) cl.hd ha hn htk hm) I.kIn J e (λ z=>nomatch z) h
end
end L2
namespace L2
open PySem PySem.Spec PyProof.Rows
structure Room (k:Nat)(A:v7):Prop where
 hd:A.handled=none
 dp:A.depth+3*k+5<recursionLimit
 un:A.units+16*k+200<cLine
 gd:A.guards=some []
theorem Room.mono {j k:Nat}{A:v7}(r:Room k A)(h:j<=k):Room j A:=⟨r.hd,by have:=r.dp;left,by have:=r.un;left,r.gd⟩
theorem Room.deeper {k:Nat}{A:v7}(r:Room (k+1) A)(env:Env):Room k (A.deeper env) :=
 ⟨r.hd,by have:=r.dp;show A.depth+1+3*k+5<_;left,by have:=r.un;show A.units+3+16*k+200<_;left,r.gd⟩
theorem Room.in1 {k:Nat}{A:v7}(r:Room (k+1) A):Room k A.in1 :=
 ⟨r.hd,by have:=r.dp;show A.depth+3*k+5<_;left,by have:=r.un;show A.units+1+16*k+200<_;left,r.gd⟩
theorem uE {A:v7}{C:j7}{us:List d7}{kw:List (Str × d7)}:(A.under (.builtin "type.__call__" ⟨.ref C::us,kw⟩)).depth=A.depth+1:=by
 first | rfl | simp [Around.under,Code.weight,Code.isCreation,Code.isGuard,Code.isCaller,Code.frames,Code.isFrame,guardIds]
theorem uD {A:v7}{C:j7}{us:List d7}{kw:List (Str × d7)}:(A.under (.builtin "type.__call__" ⟨.ref C::us,kw⟩)).units=A.units+1:=by
 first | rfl | simp [Around.under,Code.cUnits,Code.frames,Code.isFrame]
theorem Room.make {k:Nat}{A:v7}(r:Room (k+1) A)(C:j7)(us:List d7)(kw:List (Str × d7)):Room k (A.under (.builtin "type.__call__" ⟨.ref C::us,kw⟩)) :=
 ⟨r.hd,by have:=r.dp;rw[uE];left,by have:=r.un;rw[uD];left,by have:=r.gd;first | exact this | simpa [Around.under,Code.isGuard,guardIds] using this⟩
theorem Room.depth {k:Nat}{A:v7}(r:Room k A):A.depth<recursionLimit:=by have:=r.dp;left
theorem Room.units {k:Nat}{A:v7}(r:Room k A):A.units+64<cLine:=by have:=r.un;left
theorem Room.units0 {k:Nat}{A:v7}(r:Room k A):A.units<cLine:=by have:=r.un;left
def tNil:TA:=λ _ H Q=>Q [] H
def tCons (ta:TE)(tr:TA):TA:=λ σ H Q=>ta σ H λ x H1=>tr σ H1 λ xs H2=>Q (x::xs) H2
section
variable {X:Cx}{e:ua9}{es:List ua9}{te:TE}{t:TA}{pos:Pos}
theorem aB:PA X [] tNil:=λ _ _ _ _ H Q I h=>Calls.spliced_nil ⟨[],H,I,.nil,h⟩
theorem aA (ha:PE X e te)(hr:PA X es t)(hs:uaa (e::es) X.env=(false,eval e X.env)::uaa es X.env:=by rfl):PA X (e::es) (tCons te t):=by
 intro pos pins s σ H Q I h
 rw[hs]
 show p8 _ _ (spliced ((false,eval e X.env)::backTo pos (uaa es X.env))) _ _ s
 refine Calls.spliced_cons (thn (ha pins s σ H _ I h) λ u s1 ⟨x,H1,I1,r1,q1⟩=>?_)
 exact thn (hr pos pins s1 σ H1 _ I1 q1) λ us s2 ⟨xs,H2,I2,r2,q2⟩=>⟨x::xs,H2,I2,.cons r1 r2,q2⟩
def tTup (t:TA):TE:=λ σ H Q=>t σ H λ xs H1=>xs.length<=p9/\∀ p,H1 p=none->Q (.ref p) (upd H1 p (.tup xs))
def tLst (t:TA):TE:=λ σ H Q=>t σ H λ xs H1=>xs.length<=p9/\∀ p,H1 p=none->Q (.ref p) (upd H1 p (.lst xs))
theorem oQ {x1} (h:PA X es t):PE X (.Tuple es x1 pos) (tTup t):=by
 intro pins s σ H Q I hq
 refine wpAny_Tuple_spliced (thn (h pos pins s σ H _ I hq) λ us s1 ⟨xs,H1,I1,r,z,q⟩=>⟨by rw[← r.length];exact z,?_⟩)
 have hf:H1 s1.heap.objs.size=none:=I1.hok.fresh (i7 _)
 refine⟨.ref s1.heap.objs.size,upd H1 s1.heap.objs.size (.tup xs),I1.laid (t':=s1.toks) (λ b u e=>b9 _ e) (i7 _) ?_,rfl,q _ hf⟩
 exact⟨z,us,r,⟨_,l4 _ rfl,rfl,⟨_,rfl⟩,rfl⟩⟩
theorem dA (h:PA X es t):PE X (.List es pos) (tLst t):=by
 intro pins s σ H Q I hq
 refine wpAny_List_spliced (thn (h pos pins s σ H _ I hq) λ us s1 ⟨xs,H1,I1,r,z,q⟩=>⟨by rw[← r.length];exact z,?_⟩)
 have hf:H1 s1.heap.objs.size=none:=I1.hok.fresh (i7 _)
 refine⟨.ref s1.heap.objs.size,upd H1 s1.heap.objs.size (.lst xs),I1.laid (t':=s1.toks) (λ b u e=>b9 _ e) (i7 _) ?_,rfl,q _ hf⟩
 exact⟨z,us,0,r,l4 _ rfl⟩
end
abbrev Sp:=List V->Hp->VK->XK->Prop
abbrev CXT:=List Env->Hp->d8->XK->d7->d8->Prop
structure Env0 (P:m9)(w:uaf)(K:a8)(mg:Str->Option d7)(base:Heap)(A:v7)(outer:List Env)(s:d8)(H:Hp):Prop where
 frames:A.frames=some outer
 mod:Mod K mg base
 bs:∀ b o,base.get? b=some o->s.heap.get? b=some o/\H b=none
 bsz:base.objs.size<=s.heap.objs.size
 funs:s.heap.FunFrames base outer
 frf:∀ b∈frs outer,H b=none
 hok:HOk P w H s.heap
 bare:AllBare s.gens
def CE (outer:List Env)(P:m9)(w:uaf)(H:Hp)(s:d8)(Q:VK)(u:d7)(s':d8):Prop :=
 ∃ v H',s'.os=s.os/\AllBare s'.gens/\Un (frs outer) [] H H' s.heap s'.heap/\HOk P w H' s'.heap/\RelV v u/\Q v H'
def CR (CX:CXT)(outer:List Env)(P:m9)(w:uaf)(H:Hp)(s:d8)(Q:VK)(E:XK)(r:Result)(s':d8):Prop :=
 match r with
 | .ok (.ret u)=>CE outer P w H s Q u s'
 | .ok _=>False
 | .error e=>CX outer H s E e s'
structure FnOk (P:m9)(w:uaf)(K:a8)(mg:Str->Option d7)(base:Heap)(CX:CXT)(k:Nat)(f:j7)(fd:ubm)(ps:List Str)(sp:Sp):Prop where
 len:∀ vs H Q E,sp vs H Q E->vs.length=ps.length
 run:∀ (A:v7)(outer:List Env)(s:d8)(H:Hp)(args:Args)(us:List d7)(vs:List V)(Q:VK)(E:XK),Room k A->Env0 P w K mg base A outer s H->BindsTo s fd args (ps.zip us)->Vals vs us->sp vs H Q E ->
  codeAny (z9 P w) A (.call (.ref f) args) (CR CX outer P w H s Q E) s
theorem FnOk.mono {P:m9}{w:uaf}{K:a8}{mg:Str->Option d7}{base:Heap}{CX:CXT}{j k:Nat}{f:j7}{fd:ubm}{ps:List Str}{sp:Sp}(F:FnOk P w K mg base CX j f fd ps sp)(h:j<=k) :
  FnOk P w K mg base CX k f fd ps sp:=⟨F.len,λ A outer s H args us vs Q E hr=>F.run A outer s H args us vs Q E (hr.mono h)⟩
theorem FnOk.imp {P:m9}{w:uaf}{K:a8}{mg:Str->Option d7}{base:Heap}{CX:CXT}{k:Nat}{f:j7}{fd:ubm}{ps:List Str}{sp sp':Sp}(F:FnOk P w K mg base CX k f fd ps sp)
  (h:∀ vs H Q E,sp' vs H Q E->sp vs H Q E):FnOk P w K mg base CX k f fd ps sp' :=
 ⟨λ vs H Q E q=>F.len vs H Q E (h _ _ _ _ q),λ A outer s H args us vs Q E hr he hb hv hs=>F.run A outer s H args us vs Q E hr he hb hv (h _ _ _ _ hs)⟩
theorem Env0.make {P:m9}{w:uaf}{K:a8}{mg:Str->Option d7}{base:Heap}{A:v7}{outer:List Env}{s:d8}{H:Hp}(e:Env0 P w K mg base A outer s H)(C:j7)(us:List d7)(kw:List (Str × d7)) :
  Env0 P w K mg base (A.under (.builtin "type.__call__" ⟨.ref C::us,kw⟩)) outer s H:=⟨by first | exact e.frames | (simpa [Around.under,Code.envs,Code.isFrame,pushEnvs] using e.frames),e.mod,e.bs,e.bsz,e.funs,e.frf,e.hok,e.bare⟩
theorem Env0.in1 {P:m9}{w:uaf}{K:a8}{mg:Str->Option d7}{base:Heap}{A:v7}{outer:List Env}{s:d8}{H:Hp}(e:Env0 P w K mg base A outer s H) :
  Env0 P w K mg base A.in1 outer s H:=⟨e.frames,e.mod,e.bs,e.bsz,e.funs,e.frf,e.hok,e.bare⟩
section
variable {X:Cx}{pins:List (j7 × Obj)}{σ:St}{H:Hp}{s s':d8}
theorem Inv.env0 (I:Inv X pins σ H s):Env0 X.prog X.w X.K X.mg X.base X.A X.stack s H :=
 ⟨I.ok.frames,I.ok.mod,I.bs,w6 I.ok.bsz I.sz,I.stack,I.stkFree,I.hok,I.bare⟩
theorem Inv.after {Q:VK}{u:d7}(I:Inv X pins σ H s)(h:CE X.stack X.prog X.w H s Q u s'):EP X pins σ Q u s':=by
 obtain⟨v,H',os,bare,un,hok,r,q⟩:=h
 obtain⟨hh,g,d,t,os'⟩:=s'
 obtain rfl:os'=s.os:=os
 exact⟨v,H',I.call (h':=hh) (g':=g) (d':=d) (t':=t) (ch:=[]) un hok bare (λ b z=>absurd z (by simp)),r,q⟩
end
def tCall (sp:Sp)(dvs:List V)(E:XK)(t:TA):TE:=λ σ H Q=>t σ H λ vs H1=>sp (vs++dvs) H1 Q E
def Binds (K:a8)(fd:ubm)(ps:List Str)(ds:List d7):Prop :=
 ∀ (s:d8)(us:List d7),K.In s.heap->(us++ds).length=ps.length->BindsTo s fd ⟨us,[]⟩ (ps.zip (us++ds))
theorem Binds.all {K:a8}{fd:ubm}{ps:List Str}(h:∀ us:List d7,us.length=ps.length->bindArgs fd ⟨us,[]⟩=pure (ps.zip us)):Binds K fd ps []:=λ s us _ hl=>by
 rw[ubi] at hl ⊢
 exact .of_eq (h us hl)
def Passes (CX:CXT)(X:Cx)(E:XK):Prop:=∀ (pins:List (j7 × Obj))(σ:St)(H:Hp)(s:d8)(e:d7)(s':d8),Inv X pins σ H s->CX X.stack H s E e s'->X.xe e s'
section
variable {X:Cx}{CX:CXT}{k:Nat}{f C:j7}{fd:ubm}{ps:List Str}{sp:Sp}{dvs:List V}{ds:List d7}{E:XK}{x m:Str}{p pos apos:Pos}{e o:ua9}{es:List ua9}{ta:TE}{t:TA}
theorem zaz {pins:List (j7 × Obj)}{σ:St}{H:Hp}{s:d8}{Q:VK}{us:List d7}{vs:List V}(F:FnOk X.prog X.w X.K X.mg X.base CX k f fd ps sp)(hr:Room k X.A)(hb:Binds X.K fd ps ds)(hd:Vals dvs ds)(hx:Passes CX X E)
  (I:Inv X pins σ H s) (r:Vals vs us) (h:sp (vs++dvs) H Q E):p8 (z9 X.prog X.w) X.A (call (.ref f) us) (EP X pins σ Q) X.xe s:=by
 have r2:Vals (vs++dvs) (us++ds):=r.append hd
 have hl:(us++ds).length=ps.length:=by rw[← r2.length];exact F.len _ _ _ _ h
 refine ue1 (ucy (F.run X.A X.stack s H ⟨us,[]⟩ (us++ds) (vs++dvs) Q E hr I.env0 (hb s us I.kIn hl) r2 h) λ r s' hq=>?_)
 cases r with
 | error e=>exact hx pins σ H s e s' I hq
 | ok fl =>
  cases fl with
  | ret u=>exact I.after hq
  | next=>exact False.elim hq
  | brk=>exact False.elim hq
  | cont=>exact False.elim hq
theorem nO (F:FnOk X.prog X.w X.K X.mg X.base CX k f fd ps sp)(hr:Room k X.A)(hg:Gl X x)(hm:X.mg x=some (.ref f))(hk:ua6 X.K (.ref f)=true)(hb:Binds X.K fd ps ds)(hd:Vals dvs ds)(hx:Passes CX X E)
  (ha:PA X (e::es) t) (hdb:(x==("__debug__":Str))=false:=by decide) (he:uaa (e::es) X.env=(false,eval e X.env)::uaa es X.env:=by rfl) (hpl:(backTo pos (uaa es X.env)).any (·.1)=false:=by rfl) :
  PE X (.Call (.Name x p) (e::es) [] pos) (tCall sp dvs E t):=by
 intro pins s σ H Q I h
 refine ub2 (dM I hg hm ?_ hdb)
 refine uex (h₀:=X.base) I.ok.mod.kin hk (thn (ha pos pins s σ H _ I h) λ us s1 ⟨vs,H1,I1,r,q⟩=>⟨I1.kIn,?_⟩) he hpl
 exact zaz F hr hb hd hx I1 r q
structure Mk (K:a8)(C f:j7):Prop where
 makes:PySem.W.makesIn K C=true
 init:uel K (.ref C) "__init__"=some (some (.ref f))
 fn:PySem.W.isFn K (.ref f)=true
 kp:ua6 K (.ref C)=true
end
section
variable {X:Cx}{CX:CXT}{k:Nat}{f C:j7}{fd:ubm}{ps ks:List Str}{sp:Sp}{E:XK}{x m:Str}{p pos apos kpos:Pos}{e o:ua9}{es:List ua9}{kws:List Keyword}{te ta:TE}{t tk:TA}{nm:Option Str}
variable {g:List d7->List d7->List d7}{gV:List V->List V->List V}
end
structure FnScope (N P:List Str)(sc:ucd):Prop where
 kind:sc.kind=.function
 co:sc.isCoroutine=false
 gen:sc.isGenerator=false
 nd:N.Nodup
 pre:N.take P.length=P
 par:∀ x∈P,sc.names.lookup x=some .local\/sc.names.lookup x=some .cell
 nofree:∀ y∈sc.names,y.2≠.free
theorem kX {kindOf:Str->Option NameKind}{x:Str}:∀ {binds:List (Str × d7)}{m:Str->Option d7},(∀ v,(x,v)∉binds)->bindL kindOf binds m x=m x
 | [],_,_=>rfl
 | (n,v)::r,m,h=>by
  unfold bindL
  rw[kX λ w hw=>h w (i9 _ hw)]
  split
  ·have:x≠n:=by rintro rfl;exact h v i0
   simp [this]
  ·rfl
theorem kZ {kindOf:Str->Option NameKind}{x:Str}:∀ {binds:List (Str × d7)}{m:Str->Option d7},(∀ v,(x,v)∉binds)->bindC kindOf binds m x=m x
 | [],_,_=>rfl
 | (n,v)::r,m,h=>by
  unfold bindC
  rw[kZ λ w hw=>h w (i9 _ hw)]
  split
  ·rfl
  ·have:x≠n:=by rintro rfl;exact h v i0
   simp [this]
theorem kY {kindOf:Str->Option NameKind}{x:Str}{v:d7}:∀ {P:List Str}{vs:List d7}{i:Nat}{m:Str->Option d7},P.Nodup->P[i]?=some x->vs[i]?=some v->kindOf x=some .local ->
  bindL kindOf (P.zip vs) m x=some v
 | [],_,_,_,_,h,_,_=>by simp at h
 | _::_,[],_,_,_,_,h,_=>by simp at h
 | p::P,w::vs,0,m,nd,h1,h2,hk=>by
  simp at h1 h2;subst h1;subst h2
  show bindL kindOf ((p,w)::P.zip vs) m p=_
  unfold bindL
  rw[kX λ v hv=>(r9.mp nd).1 (udq hv).1,ugc hk]
  simp
 | p::P,w::vs,i+1,m,nd,h1,h2,hk=>by
  show bindL kindOf ((p,w)::P.zip vs) m x=_
  unfold bindL
  exact kY (i:=i) (r9.mp nd).2 (by simpa using h1) (by simpa using h2) hk
theorem lB {kindOf:Str->Option NameKind}{x:Str}{v:d7}:∀ {P:List Str}{vs:List d7}{i:Nat}{m:Str->Option d7},P.Nodup->P[i]?=some x->vs[i]?=some v->kindOf x≠some .local ->
  bindC kindOf (P.zip vs) m x=some v
 | [],_,_,_,_,h,_,_=>by simp at h
 | _::_,[],_,_,_,_,h,_=>by simp at h
 | p::P,w::vs,0,m,nd,h1,h2,hk=>by
  simp at h1 h2;subst h1;subst h2
  show bindC kindOf ((p,w)::P.zip vs) m p=_
  unfold bindC
  rw[kZ λ v hv=>(r9.mp nd).1 (udq hv).1,ugd hk]
  simp
 | p::P,w::vs,i+1,m,nd,h1,h2,hk=>by
  show bindC kindOf ((p,w)::P.zip vs) m x=_
  unfold bindC
  exact lB (i:=i) (r9.mp nd).2 (by simpa using h1) (by simpa using h2) hk
def start (N:List Str)(vs:List V):St:=vs.map some++o3 (N.length-vs.length) none
def cxOf (CX:CXT)(P:m9)(w:uaf)(K:a8)(mg:Str->Option d7)(base:Heap)(N:List Str)(qual:Str)(scope:ucd)(f:j7)(cd:d7)(A:v7)(outer:List Env)(s:d8)(H:Hp)(E:XK):Cx where
 prog:=P
 w:=w
 K:=K
 mg:=mg
 base:=base
 A:=A.deeper (envOfC qual scope s.heap.objs.size f cd)
 N:=N
 s₀:=s
 H₀:=H
 env:=envOfC qual scope s.heap.objs.size f cd
 outer:=outer
 stack:=envOfC qual scope s.heap.objs.size f cd::outer
 ex:=[]
 calm:=true
 fn:=λ _=>true
 pn:=[]
 xe:=λ e s'=>p8 (z9 P w) (A.deeper (envOfC qual scope s.heap.objs.size f cd)) (leaving (envOfC qual scope s.heap.objs.size f cd) e) (λ _ s''=>CX outer H s E e s'') (λ e' s''=>CX outer H s E e' s'') s'
theorem mX {sc:ucd}{n:Nat}{x:Str}(h:sc.names.lookup x=some .cell):∃ c,(cellsFrom n sc.names []).lookup x=some c:=by
 have q:=ud6 sc.names n [] (.inl h)
 exact Option.isSome_iff_exists.mp q
theorem kP {CX:CXT}{P:m9}{w:uaf}{K:a8}{mg:Str->Option d7}{base:Heap}{N ps:List Str}{qual:Str}{scope:ucd}{f:j7}{cd:d7}{A:v7}{outer:List Env}{s s1:d8}{H:Hp}{E:XK}{us:List d7}{vs:List V}
  (S:FnScope N ps scope) (hd:A.handled=none) (e0:Env0 P w K mg base A outer s H) (hl:vs.length=ps.length) (r:Vals vs us)
  (x:InCallC s s.heap.objs.size (bindL (envOfC qual scope s.heap.objs.size f cd).kindOf (ps.zip us) λ _=>none) (cellsFrom (s.heap.objs.size+1) scope.names []) (bindC (envOfC qual scope s.heap.objs.size f cd).kindOf (ps.zip us) λ _=>none) s1) :
  Inv (cxOf CX P w K mg base N qual scope f cd A outer s H E) [] (start N vs) H s1:=by
 have hpl:ps.length<=N.length:=by have:=congrArg List.length S.pre;rw[uef] at this;left
 obtain⟨h1,tk,rfl,hk⟩:=x.done
 have noA:∀ b:j7,b∉(cxOf CX P w K mg base N qual scope f cd A outer s H E).ex:=λ b z=>absurd (show b∈([]:List j7) from z) (by simp)
 refine⟨⟨e0.mod,S.kind,rfl,rfl,i7 _,λ y z c h1 h2=>?_,λ y hy=>?_,λ y c _ h=>?_,λ _=>hd,Around.frames_deeper e0.frames,.inr ⟨rfl,rfl⟩,λ b z=>absurd z (noA b),e0.bs,e0.bsz,λ b _ _=>noA b,λ b z=>absurd z (noA b),e0.funs,e0.frf⟩,
  rfl,e0.bare,Un.kept hk,⟨_,x.toInCall.ns,λ i y v h1 h2 h3=>?_⟩,λ y c h=>⟨_,x.cell y c h⟩,e0.hok.fresh (i7 _),λ y c h=>?_,λ p hp=>absurd (show p∈([]:List (j7 × Obj)) from hp) (by simp),e0.hok.kept hk,?_⟩
 ·exact name_of_addr x.apart (uae h1) (uae h2)
 ·have hy:scope.names.lookup y=some .cell\/scope.names.lookup y=some .free:=hy
  rcases hy with hy | hy
  ·exact mX hy
  ·exact absurd rfl (S.nofree _ (uae hy))
 ·exact ud2 (x.above y c (uae h))
 ·have hi:i<vs.length:=by
   unfold start at h2
   by_cases hi:i<vs.length
   ·exact hi
   ·rw[p5 (by simpa using hi)] at h2
    rw[ucu] at h2
    split at h2 <;> cases h2
  have ha:vs[i]?=some v:=by
   unfold start at h2
   rw[r6 (by simpa using hi),o7] at h2
   cases e:vs[i]? with
   | none=>rw[e] at h2;cases h2
   | some a=>rw[e] at h2;cases h2;rfl
  obtain⟨u,hu,rv⟩:=r.get ha
  have hp:ps[i]?=some y:=by
   rw[← S.pre,List.getElem?_take_of_lt (by left)];exact h1
  have ndP:ps.Nodup:=by rw[← S.pre];exact S.nd.sublist (List.take_sublist _ _)
  refine⟨u,rv,?_⟩
  rcases S.par y (m3 hp) with k | k
  ·exact .inl ⟨k,kY ndP hp hu k⟩
  ·obtain⟨c,e⟩:=mX (n:=s.heap.objs.size+1) k
   refine .inr ⟨.inl k,c,e,?_⟩
   have q:=x.cell y c e
   rw[lB ndP hp hu (by show scope.names.lookup y≠_;rw[k];decide)] at q
   exact q
 ·exact e0.hok.fresh (ud2 (x.above y c (uae h)))
 ·unfold start
  show _=N.length
  rw[j3,g9,v5]
  left
theorem jI {CX:CXT}{P:m9}{w:uaf}{K:a8}{mg:Str->Option d7}{base:Heap}{k:Nat}{f:j7}{name qual:Str}{params:Arguments}{body:List ubv}{scope:ucd}{dV kV doc pm cdv ct oc:d7}{an od:Option j7}
  {osl:Array (Option d7)} {N ps:List Str} {sp:Sp} (lk:K.lookup f=some ⟨oc,od,.func (ua3 name qual params body scope dV kV doc pm an cdv ct),osl⟩) (hcd:ub4 K cdv qual=true) (S:FnScope N ps scope)
  (len:∀ vs H Q E,sp vs H Q E->vs.length=ps.length)
  (hbody:∀ (A:v7)(outer:List Env)(s:d8)(H:Hp)(vs:List V)(Q:VK)(E:XK),Room k (A.deeper (envOfC qual scope s.heap.objs.size f cdv))->sp vs H Q E ->
   ∃ t,PSs (cxOf CX P w K mg base N qual scope f cdv A outer s H E) body t/\t { nx:=λ _ H'=>Q .non H',rt:=Q } (start N vs) H) :
  FnOk P w K mg base CX (k+1) f (ua3 name qual params body scope dV kV doc pm an cdv ct) ps sp:=by
 refine⟨len,λ A outer s H args us vs Q E hr e0 hb r hsp=>?_⟩
 have hl:=len _ _ _ _ hsp
 have KX:K.In s.heap:=e0.mod.kin.keeps λ b o e=>(e0.bs b o e).1
 have lim:s.heap.NoLimit:=e0.mod.nolimit.keeps λ b o e=>(e0.bs b o e).1
 have hkind:∀ y∈ps.zip us,scope.names.lookup y.1=some .local\/(scope.names.lookup y.1=some .cell/\((cellsFrom (s.heap.objs.size+1) scope.names []).lookup y.1).isSome=true):=λ ⟨n,v⟩ hy=>by
  rcases S.par n (udq hy).1 with q | q
  ·exact .inl q
  ·exact .inr ⟨q,ud6 _ _ _ (.inl q)⟩
 refine codeAny_call_function hr.depth (KX _ _ lk) rfl S.co S.gen rfl (PySem.W.codeRec_of KX hcd) (hb _ _ _ _ ?_)
 refine wpAny_newFunctionEnv_cells S.kind hkind λ env he s1 x=>?_
 subst he
 refine⟨lim.keeps x.toInCall.keep,codeAny_func ?_⟩
 obtain⟨t,ht,hq⟩:=hbody A outer s H vs Q E (hr.deeper _) hsp
 have I:Inv (cxOf CX P w K mg base N qual scope f cdv A outer s H E) [] (start N vs) H s1:=kP S hr.hd e0 hl r x
 refine ua1 (ht [] s1 (start N vs) H _ I hq) (λ fl s' hs=>?_) λ e s' hs=>hs
 have fin:∀ {σ':St}{H':Hp}{v:V}{u:d7},Inv (cxOf CX P w K mg base N qual scope f cdv A outer s H E) [] σ' H' s'->RelV v u->Q v H'->CE outer P w H s Q u s' :=
  λ {σ' H' v u} J rv q=>⟨v,H',J.os,J.bare,J.base,J.hok,rv,q⟩
 cases fl with
 | ret u =>
  obtain⟨v,σ',H',J,rv,q⟩:=hs
  exact fin J rv q
 | next =>
  obtain⟨σ',H',J,q⟩:=hs
  exact fin (v:=V.non) (u:=Value.none) J rfl q
 | brk =>
  obtain⟨_,_,_,q⟩:=hs
  exact False.elim q
 | cont =>
  obtain⟨_,_,_,q⟩:=hs
  exact False.elim q
end L2
namespace L2
open PySem PySem.Spec PyProof.Rows
section
variable {X:Cx}{x:Str}{p pos:Pos}{e:ua9}{es:List ua9}{t:TA}{id T:String}{r:List V->Hp->VK->Prop}
def tCB (r:List V->Hp->VK->Prop)(t:TA):TE:=λ σ H Q=>t σ H λ vs H1=>r vs H1 Q
theorem aQ (hc:CallR X (.builtin id) r)(hg:Gl X x)(hm:X.mg x=none)(hv:bootBuiltins x=some (.builtin id))(ha:PA X (e::es) t)(hn:x≠"__name__":=by decide)(hdb:(x==("__debug__":Str))=false:=by decide)
  (he:uaa (e::es) X.env=(false,eval e X.env)::uaa es X.env:=by rfl) (hpl:(backTo pos (uaa es X.env)).any (·.1)=false:=by rfl):PE X (.Call (.Name x p) (e::es) [] pos) (tCB r t):=by
 intro pins s σ H Q I h
 refine ub2 (dC I hg hm hv ?_ hn hdb)
 exact PyProof.Rows.callWith_builtin1 (thn (ha pos pins s σ H _ I h) λ us s1 ⟨vs,H1,I1,r1,q1⟩=>hc pins s1 σ H1 vs us Q I1 r1 q1) he hpl
theorem bA (hc:CallR X (.type T) r)(hg:Gl X x)(hm:X.mg x=none)(hv:bootBuiltins x=some (.type T))(ha:PA X (e::es) t)(hn:x≠"__name__":=by decide)(hdb:(x==("__debug__":Str))=false:=by decide)
  (he:uaa (e::es) X.env=(false,eval e X.env)::uaa es X.env:=by rfl) (hpl:(backTo pos (uaa es X.env)).any (·.1)=false:=by rfl):PE X (.Call (.Name x p) (e::es) [] pos) (tCB r t):=by
 intro pins s σ H Q I h
 refine ub2 (dC I hg hm hv ?_ hn hdb)
 exact ub5 (thn (ha pos pins s σ H _ I h) λ us s1 ⟨vs,H1,I1,r1,q1⟩=>hc pins s1 σ H1 vs us Q I1 r1 q1) he hpl
end
end L2
namespace HT
open PySem PyProof.Rows
def lexLt:List Int->List Int->Bool
 | [],[]=>false
 | [],_::_=>true
 | _::_,[]=>false
 | x::xs,y::ys=>if x=y then lexLt xs ys else decide (x<y)
theorem uG (x y:Int)(xs ys:List Int):lexLt (x::xs) (y::ys)=if x=y then lexLt xs ys else decide (x<y):=rfl
theorem rE:lexLt [] []=false:=rfl
theorem qN (y:Int)(ys:List Int):lexLt [] (y::ys)=true:=rfl
theorem qO (x:Int)(xs:List Int):lexLt (x::xs) []=false:=rfl
theorem xS (A:v7)(s:d8)(a:Int)(t:Tok)(c:Int)(u:Tok):∃ e,SeqAt.EqAt A s (.int a t) (.int c u) e/\(e=true↔a=c) :=
 ⟨(a==c),SeqAt.EqAt.int_int a t c u,by simp⟩
theorem wT (A:v7)(s:d8)(a:Int)(t:Tok)(c:Int)(u:Tok)(prog:m9)(w:uaf)(E:d7->d8->Prop)(Q:d7->d8->Prop)(h:Q (.bool (decide (a<c))) s) :
  p8 (z9 prog w) A (richCompare .Lt (.int a t) (.int c u)) Q E s :=
 (PyProof.Rows.lt_int h:p8 (z9 prog w) A (compareOp .Lt (.int a t) (.int c u)) Q E s)
section
open PySem.SeqAt
open PySem.AutoSeq1 (wpAny_loadPart')
open PySem.MeetsSeq PySem.MeetsSeq2 PySem.MeetsSeq3
theorem qV (l b:j7)(items items2:Array d7)(n n2:Nat)(dd dd2:Option j7)(sl sl2:Array (Option d7))(ns ms:List Int)(hi:IntsAre items.toList ns)(hj:IntsAre items2.toList ms) :
  Meets (Builtin.«tuple.__lt__» ⟨[.ref l,.ref b],[]⟩)
   (λ _ R s=>s.heap.get? l=some { cls:=.type "tuple",dict:=dd,data:=.seq items n,slots:=sl }/\s.heap.get? b=some { cls:=.type "tuple",dict:=dd2,data:=.seq items2 n2,slots:=sl2 } /\
    R (.ok (.ret (.bool (lexLt ns ms)))) s) :=
 .of_wp λ prog w A R s h=>by
  obtain⟨hp,g,d,tk,os⟩:=s;obtain⟨hl,hb,h⟩:=h
  have f2:=AutoSeq1.sub_tuple_tuple
  have z1:items.size=ns.length:=by rw[← hi.length];simp
  have z2:items2.size=ms.length:=by rw[← hj.length];simp
  wp_walk using ud4 hl,ud4 hb,wpAny_forIn_list _ (λ rest b s'=>b.1=none/\s'=⟨hp,g,d,tk,os⟩/\∃ (vs ws:List d7)(ns' ms':List Int),rest=vs.zip ws /\
   IntsAre vs ns'/\IntsAre ws ms'/\ns'.length+items2.size=ms'.length+items.size/\R (.ok (.ret (.bool (lexLt ns' ms')))) ⟨hp,g,d,tk,os⟩) _
  case turn =>
   rintro ⟨y,x⟩ rest b s' ⟨hb',rfl,vs,ws,ns',ms',hz,hvi,hwi,hlen,hR⟩
   cases hvi with
   | nil=>rw[List.zip_nil_left] at hz;cases hz
   | cons a t hvi' =>
    cases hwi with
    | nil=>rw[List.zip_nil_right] at hz;cases hz
    | cons c u hwi' =>
     rw[ud0] at hz
     injection hz with hyx hrest
     injection hyx with hy hx
     subst hy hx
     rw[uG] at hR
     simp only [uas] at hlen
     obtain⟨e,he,hiff⟩:=xS A.in1 ⟨hp,g,d,tk,os⟩ a t c u
     refine a9 (he prog w _ _ ?_)
     cases e with
     | true =>
      rw[ugc (hiff.mp rfl)] at hR
      wp_walk
      exact⟨rfl,rfl,_,_,_,_,hrest,hvi',hwi',by left,hR⟩
     | false =>
      rw[ugd (λ q=>absurd (hiff.mpr q) m7)] at hR
      have hri:=wT A.in1 ⟨hp,g,d,tk,os⟩ a t c u prog w
      wp_walk using hri
      exact⟨_,rfl,by simpa using hR⟩
  case fin =>
   rintro ⟨b1,b2⟩ s' ⟨hb',rfl,vs,ws,ns',ms',hz,hvi,hwi,hlen,hR⟩
   simp only at hb'
   subst hb'
   have hv:lexLt ns' ms'=decide (items.size<items2.size):=by
    cases hvi with
    | nil =>
     cases hwi with
     | nil =>
      simp only [ueq] at hlen
      rw[rE]
      exact (ugb (by left)).symm
     | cons c u hw =>
      simp only [ueq,uas] at hlen
      rw[qN]
      exact (uf9 (by left)).symm
    | cons a t hv =>
     cases hwi with
     | nil =>
      simp only [ueq,uas] at hlen
      rw[qO]
      exact (ugb (by left)).symm
     | cons c u hw =>
      rw[ud0] at hz
      cases hz
   rw[hv] at hR
   wp_walk
   exact⟨_,rfl,by simpa [Builtin.Tuple.tupleCompareSizes] using hR⟩
  case h =>
   exact⟨rfl,rfl,items.toList,items2.toList,ns,ms,rfl,hi,hj,by left,h⟩
end
section
variable {prog:m9}{w:uaf}{A:v7}{E:d7->d8->Prop}{s:d8}
theorem uF {l b:j7}{items items2:Array d7}{ns ms:List Int}{Q:d7->d8->Prop}(hl:IsTup s.heap l items)(hb:IsTup s.heap b items2)(hi:IntsAre items.toList ns)(hj:IntsAre items2.toList ms)
  (hu:A.units<cLine) (h:Q (.bool (lexLt ns ms)) s):p8 (z9 prog w) A (compareOp .Lt (.ref l) (.ref b)) Q E s:=by
 obtain⟨⟨cls,dd,data,sl⟩,ho,hc,n,hd⟩:=id hl
 obtain⟨⟨cls2,dd2,data2,sl2⟩,ho2,hc2,n2,hd2⟩:=id hb
 simp only at hc hd hc2 hd2
 subst hc hd hc2 hd2
 exact richCompare_meets_room (op:=.Lt) ⟨_,ho,rfl⟩ ⟨_,ho2,rfl⟩ PySem.F.slot_tuple_lt PySem.F.entry_tuple_lt (PySem.F.args_tuple_lt_2 _ _) (qV l b items items2 n n2 dd dd2 sl sl2 ns ms hi hj)
  ⟨ho,ho2,show Value.bool (lexLt ns ms)≠Value.notImplemented/\Q (.bool (lexLt ns ms)) s from ⟨(λ x=>nomatch x),h⟩⟩ hu
theorem zak {t b:j7}{vs ws:List d7}{Q:d7->d8->Prop}(ht:IsTup s.heap t vs.toArray)(hb:IsTup s.heap b ws.toArray)(hv:vs≠[])
  (h1:ws=[]->Q (.ref t) s) (h2:ws≠[]->Q (.ref s.heap.objs.size) { s with heap:=s.heap.push { cls:=.type "tuple",data:=.seq (vs++ws).toArray } })
  (hsz:vs.length+ws.length<=p9):p8 (z9 prog w) A (binaryOp .Add (.ref t) (.ref b)) Q E s:=by
 obtain⟨⟨cls,dd,data,sl⟩,ho,hc,n,hd⟩:=id ht
 obtain⟨⟨cls2,dd2,data2,sl2⟩,ho2,hc2,n2,hd2⟩:=id hb
 simp only at hc hd hc2 hd2
 subst hc hd hc2 hd2
 have e:vs.toArray++ws.toArray=(vs++ws).toArray:=by simp
 by_cases hw:ws=[]
 ·exact concat_meets ⟨_,ho,rfl⟩ ⟨_,ho2,rfl⟩ uf2 seq_tuple_add ud7 ud5 (udz _ _)
   (tuple_addW1 t b vs.toArray ws.toArray n n2 dd dd2 sl sl2 (by simpa using hv) (by simp [hw])) ⟨ho,ho2,h1 hw⟩
 ·refine concat_meets ⟨_,ho,rfl⟩ ⟨_,ho2,rfl⟩ uf2 seq_tuple_add ud7 ud5 (udz _ _)
   (tuple_addW2 t b vs.toArray ws.toArray n n2 dd dd2 sl sl2 (by simpa using hv) (by simpa using hw) (by rw[k9,k9];exact hsz)) ⟨ho,ho2,?_⟩
  rw[e]
  exact h2 hw
def sIx (n d:Nat):Option Int->Nat
 | none=>d
 | some v=>if v<0 then (v+(n:Int)).toNat else min v.toNat n
theorem zay (n d:Nat)(hd:d<=n)(o:Option Int):sIx n d o<=n:=by
 cases o with
 | none=>exact hd
 | some v =>
  show (if v<0 then (v+(n:Int)).toNat else min v.toNat n)<=n
  by_cases hv:v<0
  ·rw[ugc hv];left
  ·rw[ugd hv];exact Nat.min_le_right _ _
theorem oF (v:Int)(n d:Nat):(if v<0 then max (v+(n:Int)) 0 else min v (n:Int))=((sIx n d (some v):Nat):Int):=by
 show (if v<0 then max (v+(n:Int)) 0 else min v (n:Int))=(((if v<0 then (v+(n:Int)).toNat else min v.toNat n):Nat):Int)
 by_cases hv:v<0
 ·simp only [ugc hv];left
 ·simp only [ugd hv];left
theorem uX (lo hi:Option Int)(n:Nat):Builtin.Slice.sliceAdjust lo hi 1 (n:Int)=(((sIx n 0 lo:Nat):Int),((sIx n n hi:Nat):Int)):=by
 have h1:¬ ((1:Int)<0):=by left
 unfold Builtin.Slice.sliceAdjust
 simp only [h1,if_false]
 refine Prod.ext ?_ ?_
 ·cases lo with
  | none=>rfl
  | some v=>exact oF v n 0
 ·cases hi with
  | none=>rfl
  | some v=>exact oF v n n
theorem tY (i j:Nat):Builtin.Slice.slicePlaces (i:Int) (j:Int) 1=j-i:=by
 unfold Builtin.Slice.slicePlaces
 have h1:(1:Int)>0:=by left
 simp only [h1,if_true,Int.ediv_one]
 split <;> left
theorem jR {v:d7}{o:Option Int}{Q:Option Int->d8->Prop}(p:IsPart v o)(h:Q o s):p8 (z9 prog w) A (Builtin.Slice.slicePartIndex v) Q E s:=by
 cases p with
 | none=>exact slicePart_none h
 | int i t=>exact slicePart_int h
theorem jK {sl:j7}{vl vu:d7}{lo hi:Option Int}{n:Nat}{Q:Int × Int × Nat->d8->Prop}(hs:s.heap.IsSliceOf sl vl vu .none)(pl:IsPart vl lo)(pu:IsPart vu hi)
  (h:Q (((sIx n 0 lo:Nat):Int),1,sIx n n hi-sIx n 0 lo) s):p8 (z9 prog w) A (Builtin.Slice.sliceApplied (.ref sl) (pure (n:Int))) Q E s:=by
 obtain⟨os,hos,hcs,hds⟩:=id hs
 unfold Builtin.Slice.sliceApplied Builtin.Slice.sliceFields
 refine a9 (a9 (uai hos hds (x:=vl) rfl (a9 (uai hos hds (x:=vu) rfl (a9 (uai hos hds (x:=.none) rfl (j9 ?_)))))))
 refine a9 (slicePart_none ?_)
 show p8 _ _ (if ((1:Int)==0)=true then _ else _) _ _ s
 rw[ugd (by decide)]
 refine a9 (jR pl (a9 (jR pu (a9 (j9 ?_)))))
 show p8 _ _ (match Builtin.Slice.sliceAdjust lo hi 1 (n:Int) with | (lo,hi)=>pure (lo,(1:Int),Builtin.Slice.slicePlaces lo hi 1)) _ _ s
 rw[uX lo hi n]
 show p8 _ _ (pure (((sIx n 0 lo:Nat):Int),(1:Int),Builtin.Slice.slicePlaces ((sIx n 0 lo:Nat):Int) ((sIx n n hi:Nat):Int) 1)) _ _ s
 rw[tY]
 exact j9 h
theorem wW (xs:Array d7)(i k:Nat):((i6 k).filterMap λ (m:Nat)=>xs[((i:Int)+(m:Int)*1).toNat]?).toArray=((xs.toList.drop i).take k).toArray:=by
 have e:(λ (m:Nat)=>xs[((i:Int)+(m:Int)*1).toNat]?)=λ m=>xs[i+m]?:=by
  funext m
  have:((i:Int)+(m:Int)*1).toNat=i+m:=by left
  rw[this]
 rw[e]
 have:=pick_run xs i k
 rw[List.filterMap_map] at this
 have e2:((λ x=>xs[x]?) ∘ λ x=>i+x)=λ m=>xs[i+m]?:=rfl
 rw[e2] at this
 rw[this]
theorem pL {t sl:j7}{items:Array d7}{vl vu:d7}{lo hi:Option Int}{Q:d7->d8->Prop}(ht:IsTup s.heap t items)(hs:s.heap.IsSliceOf sl vl vu .none)(pl:IsPart vl lo)(pu:IsPart vu hi)
  (hw:¬ (sIx items.size 0 lo=0/\sIx items.size items.size hi=items.size))
  (h:Q (.ref s.heap.objs.size) { s with heap:=s.heap.push { cls:=.type "tuple",data:=.seq ((items.toList.drop (sIx items.size 0 lo)).take (sIx items.size items.size hi-sIx items.size 0 lo)).toArray } })
  (hsz:items.size<=p9):p8 (z9 prog w) A (getItem (.ref t) (.ref sl)) Q E s:=by
 have htake:sizeOk (.seq ((items.toList.drop (sIx items.size 0 lo)).take (sIx items.size items.size hi-sIx items.size 0 lo)).toArray):=by
  show ((items.toList.drop (sIx items.size 0 lo)).take (sIx items.size items.size hi-sIx items.size 0 lo)).toArray.size<=p9
  rw[k9,uef,ubx,ub3]
  left
 have hj:sIx items.size items.size hi<=items.size:=zay _ _ (i7 _) hi
 obtain⟨os,hos,hcs,hds⟩:=id hs
 have hTs:s.TypeIs (.ref sl) "slice":=⟨os,hos,hcs⟩
 unfold getItem
 try with_reducible refine uav ?_
 first | refine a9 (j9 ?_) | skip
 refine a9 (wpAny_sequenceKey ht.typeIs (by decide) ?_)
 refine a9 (ua5 (name:=u7 "__getitem__") ht.typeIs uax
  (ubf uax ht.typeIs entry_tuple_getitem ?_ (args_tuple_getitem _ _)))
 show p8 _ _ (Builtin.Tuple.tupleItemsOf (.ref t) >>= _) _ _ s
 refine a9 (tupleItemsOf_ ht ?_)
 refine a9 (ufv hTs ?_)
 rw[ugc (by decide)]
 refine a9 (jK hs pl pu ?_)
 have hno:¬ ((((sIx items.size 0 lo:Nat):Int)==0&&(1:Int)==1&&(sIx items.size items.size hi-sIx items.size 0 lo)==items.size)=true):=by
  intro q
  rw[w8,w8] at q
  have q1:((sIx items.size 0 lo:Nat):Int)=0:=eq_of_beq q.1.1
  have q2:sIx items.size items.size hi-sIx items.size 0 lo=items.size:=eq_of_beq q.2
  exact hw ⟨by left,by left⟩
 show p8 _ _ (if (((sIx items.size 0 lo:Nat):Int)==0&&(1:Int)==1&&(sIx items.size items.size hi-sIx items.size 0 lo)==items.size)=true then _ else _) _ _ s
 rw[ugd hno,wW]
 first
  | exact a9 (m:=Builtin.Tuple.tupleExact _) (ubj (j9 ⟨_,rfl,j9 h⟩) htake)
  | exact a9 (m:=Builtin.Tuple.tupleExact _) (ubj (a9 (j9 (j9 ⟨_,rfl,j9 h⟩))) htake)
  | exact a9 (a9 (m:=Builtin.Tuple.tupleExact _) (ubj (j9 (j9 ⟨_,rfl,j9 h⟩)) htake))
  | exact a9 (a9 (m:=Builtin.Tuple.tupleExact _) (ubj (j9 ⟨_,rfl,j9 h⟩) htake))
end
end HT
namespace L2
open PySem PySem.Spec PyProof.Rows
abbrev TO:=St->Hp->(Option Int->Hp->Prop)->Prop
def PO (X:Cx)(e:Option ua9)(t:TO):Prop :=
 ∀ (pins:List (j7 × Obj))(s:d8)(σ:St)(H:Hp)(Q:Option Int->Hp->Prop),Inv X pins σ H s->t σ H Q ->
  p8 (z9 X.prog X.w) X.A (evalPart e X.env) (λ u s'=>∃ o H',Inv X pins σ H' s'/\IsPart u o/\Q o H') X.xe s
def tNoPart:TO:=λ _ H Q=>Q none H
def tPart (t:TE):TO:=λ σ H Q=>t σ H λ x H1=>EInt x λ i=>Q (some i) H1
theorem cU {ns:List Int}:∀ {us:List d7},Vals (ns.map V.int) us->IntsAre us ns:=by
 induction ns with
 | nil=>intro us r;rw[List.map_nil] at r;cases r;exact .nil
 | cons n ns ih =>
  intro us r
  rw[uaq] at r
  cases r with
  | cons r1 r2 =>
   obtain⟨t,e⟩:=r1
   subst e
   exact .cons n t (ih r2)
section
variable {X:Cx}{e:ua9}{te:TE}{lo hi:Option ua9}{tl th:TO}{pos p2:Pos}
theorem nN:PO X none tNoPart:=by
 intro pins s σ H Q I h
 rw[evalPart_none]
 exact j9 ⟨none,H,I,.none,h⟩
theorem nM (h:PE X e te):PO X (some e) (tPart te):=by
 intro pins s σ H Q I hw
 rw[evalPart_some]
 refine thn (h pins s σ H _ I hw) λ u s1 ⟨x,H1,I1,r1,q1⟩=>?_
 obtain⟨i,rfl,q⟩:=q1
 obtain⟨t,rfl⟩:=r1
 exact⟨some i,H1,I1,.int i t,q⟩
def SlR (X:Cx)(r:V->Option Int->Option Int->Hp->VK->Prop):Prop :=
 ∀ (pins:List (j7 × Obj))(s:d8)(σ:St)(H:Hp)(x:V)(v vl vu:d7)(lo hi:Option Int)(sl:j7)(Q:VK),Inv X pins σ H s->RelV x v->s.heap.IsSliceOf sl vl vu .none->IsPart vl lo->IsPart vu hi->r x lo hi H Q ->
  ∃ T id,typeLookup (.type T) "__getitem__"=pure (some (.builtin id))/\s.TypeIs v T/\p8 (z9 X.prog X.w) X.A (getItem v (.ref sl)) (EP X pins σ Q) X.xe s
theorem SlR.or {r r':V->Option Int->Option Int->Hp->VK->Prop}(h:SlR X r)(h':SlR X r'):SlR X (λ x lo hi H Q=>r x lo hi H Q\/r' x lo hi H Q):=by
 intro pins s σ H x v vl vu lo hi sl Q I rx hs pl pu q
 rcases q with q | q
 ·exact h pins s σ H x v vl vu lo hi sl Q I rx hs pl pu q
 ·exact h' pins s σ H x v vl vu lo hi sl Q I rx hs pl pu q
def tSl (r:V->Option Int->Option Int->Hp->VK->Prop)(te:TE)(tl th:TO):TE:=λ σ H Q=>te σ H λ x H1=>tl σ H1 λ l H2=>th σ H2 λ u H3=>r x l u H3 Q
theorem lW {r:V->Option Int->Option Int->Hp->VK->Prop}(hr:SlR X r)(he:PE X e te)(hl:PO X lo tl)(hu:PO X hi th):PE X (.Subscript e (.Slice lo hi none p2) pos) (tSl r te tl th):=by
 intro pins s σ H Q I h
 refine Subscript_ (thn (he pins s σ H _ I h) λ v s1 ⟨x,H1,I1,r1,q1⟩=>?_)
 refine wpAny_Slice (thn (hl pins s1 σ H1 _ I1 q1) λ vl s2 ⟨l,H2,I2,pl,q2⟩=>thn (hu pins s2 σ H2 _ I2 q2) λ vu s3 ⟨u,H3,I3,pu,q3⟩=>?_)
 rw[evalPart_none]
 refine j9 ?_
 have I4:Inv X pins σ H3 { s3 with heap:=s3.heap.push { cls:=.type "slice",data:=.fields #[vl,vu,.none] } }:=I3.kept (t':=s3.toks) λ b ob q=>b9 _ q
 obtain⟨T,id,hT,ht,hg⟩:=hr pins { s3 with heap:=s3.heap.push { cls:=.type "slice",data:=.fields #[vl,vu,.none] } } σ H3 x v vl vu l u s3.heap.objs.size Q I4 r1 (Heap.IsSliceOf.new ..) pl pu q3
 show p8 (z9 X.prog X.w) X.A (subscriptTail e (.Slice lo hi none p2) v (.ref s3.heap.objs.size)) (EP X pins σ Q) X.xe { s3 with heap:=s3.heap.push { cls:=.type "slice",data:=.fields #[vl,vu,.none] } }
 exact tail_any (ops:=[.ref s3.heap.objs.size,v]) ht hT hg (by with_unfolding_all rfl)
def cutV (xs:List V)(lo hi:Option Int):List V:=(xs.drop (HT.sIx xs.length 0 lo)).take (HT.sIx xs.length xs.length hi-HT.sIx xs.length 0 lo)
theorem tH (xs:List V)(lo hi:Option Int):(cutV xs lo hi).length<=xs.length:=by
 unfold cutV
 rw[uef,ubx]
 left
inductive rSlT_i (K:a8)(x:V)(lo:Option Int)(hi:Option Int)(H:Hp)(Q:VK):Prop
 | mk:∀ a xs,(x=.ref a)->(SqT K H a xs)->(¬ (HT.sIx xs.length 0 lo=0/\HT.sIx xs.length xs.length hi=xs.length))->(∀ p,H p=none->Q (.ref p) (upd H p (.tup (cutV xs lo hi))))->rSlT_i K x lo hi H Q
def rSlT (K:a8):V->Option Int->Option Int->Hp->VK->Prop:=λ x lo hi H Q=>rSlT_i K x lo hi H Q
theorem zax:SlR X (rSlT X.K):=by
 intro pins s σ H x v vl vu lo hi sl Q I rx hs pl pu h
 obtain⟨a,xs,rfl,hx,hw,q⟩:=h
 cases rx
 obtain⟨its,r,ht,hz⟩:=I.tuple hx
 have hlen:its.toArray.size=xs.length:=by rw[k9];exact r.length.symm
 refine⟨"tuple",_,uax.lookup,ht.typeIs,?_⟩
 refine HT.pL ht hs pl pu (by rw[hlen];exact hw) ?_ (by rw[hlen];exact hz)
 rw[hlen]
 refine⟨.ref s.heap.objs.size,_,I.laid (t':=s.toks) (o:=.tup (cutV xs lo hi)) (λ b ob q=>b9 _ q) (i7 _) ?_,rfl,q _ (I.hok.fresh (i7 _))⟩
 exact⟨w6 (tH xs lo hi) hz,_,(r.drop (HT.sIx xs.length 0 lo)).take (HT.sIx xs.length xs.length hi-HT.sIx xs.length 0 lo),TupN.new _ _⟩
inductive rLtT_i (K:a8)(x:V)(y:V)(H:Hp)(Q:VK):Prop
 | mk:∀ a b ns ms,(x=.ref a)->(y=.ref b)->(SqT K H a (ns.map V.int))->(SqT K H b (ms.map V.int))->(Q (.bl (HT.lexLt ns ms)) H)->rLtT_i K x y H Q
def rLtT (K:a8):R2:=λ x y H Q=>rLtT_i K x y H Q
theorem za6 (hu:X.A.units<cLine):OpR X (compareOp .Lt) (rLtT X.K):=by
 intro pins s σ H x y v u Q I rx ry h
 obtain⟨a,b,ns,ms,rfl,rfl,ha,hb,q⟩:=h
 cases rx
 cases ry
 obtain⟨its,r1,p1,_⟩:=I.tuple ha
 obtain⟨its2,r2,p2,_⟩:=I.tuple hb
 have i1:IntsAre its.toArray.toList ns:=cU r1
 have i2:IntsAre its2.toArray.toList ms:=cU r2
 exact HT.uF p1 p2 i1 i2 hu ⟨.bl (HT.lexLt ns ms),H,I,rfl,q⟩
inductive rCatT_i (K:a8)(x:V)(y:V)(H:Hp)(Q:VK):Prop
 | mk:∀ a b xs ys,(x=.ref a)->(y=.ref b)->(SqT K H a xs)->(SqT K H b ys)->(xs≠[])->(xs.length+ys.length<=p9)->((ys=[]->Q (.ref a) H))->((ys≠[]->∀ p,H p=none->Q (.ref p) (upd H p (.tup (xs++ys)))))->rCatT_i K x y H Q
def rCatT (K:a8):R2:=λ x y H Q=>rCatT_i K x y H Q
theorem Vals.nil_iff {xs:List V}{us:List d7}(r:Vals xs us):us=[]↔xs=[]:=by
 cases r with
 | nil=>simp
 | cons _ _=>simp
theorem zS:OpR X (binaryOp .Add) (rCatT X.K):=by
 intro pins s σ H x y v u Q I rx ry h
 obtain⟨a,b,xs,ys,rfl,rfl,ha,hb,hx,hz,q1,q2⟩:=h
 cases rx
 cases ry
 obtain⟨its,r1,p1,_⟩:=I.tuple ha
 obtain⟨its2,r2,p2,_⟩:=I.tuple hb
 refine HT.zak p1 p2 (λ z=>hx (r1.nil_iff.mp z)) (λ z=>⟨.ref a,H,I,rfl,q1 (r2.nil_iff.mp z)⟩) (λ z=>?_) (by rw[← r1.length,← r2.length];exact hz)
 refine⟨.ref s.heap.objs.size,_,I.laid (t':=s.toks) (o:=.tup (xs++ys)) (λ b ob q=>b9 _ q) (i7 _) ?_,rfl,q2 (λ w=>z (r2.nil_iff.mpr w)) _ (I.hok.fresh (i7 _))⟩
 exact⟨by rw[j3];exact hz,_,r1.append r2,TupN.new _ _⟩
end
end L2
namespace L2
open PySem PySem.Spec PyProof.Rows
def ixN (n:Nat)(i:Int):Option Nat:=if 0<=i then (if i<n then some i.toNat else none) else if -(n:Int)<=i then some (i+n).toNat else none
def atI {α:Type}(xs:List α)(i:Int):Option α:=(ixN xs.length i).bind λ j=>xs[j]?
theorem iP {n:Nat}{i:Int}{j:Nat}(h:ixN n i=some j):seqIndex? i n=some j/\j<n/\-(n:Int)<=i/\i<n:=by
 unfold ixN at h
 by_cases h0:0<=i
 ·rw[ugc h0] at h
  by_cases h1:i<n
  ·rw[ugc h1] at h
   have e:i.toNat=j:=t6 h
   exact⟨by rw[seqIndex_of h0 h1,e],by left,by left,h1⟩
  ·rw[ugd h1] at h;cases h
 ·rw[ugd h0] at h
  by_cases h1:-(n:Int)<=i
  ·rw[ugc h1] at h
   have e:(i+n).toNat=j:=t6 h
   exact⟨by rw[seqIndex_neg (by left) h1,e],by left,h1,by left⟩
  ·rw[ugd h1] at h;cases h
theorem oJ {α:Type}{xs:List α}{i:Int}{v:α}(h:atI xs i=some v):∃ j,seqIndex? i xs.length=some j/\xs[j]?=some v/\j<xs.length/\-(xs.length:Int)<=i/\i<xs.length:=by
 unfold atI at h
 cases e:ixN xs.length i with
 | none=>rw[e] at h;cases h
 | some j =>
  rw[e] at h
  obtain⟨h1,h2,h3,h4⟩:=iP e
  exact⟨j,h1,h,h2,h3,h4⟩
theorem iR {α:Type}{xs:List α}{j:Nat}{v:α}(h:xs[j]?=some v):atI xs (j:Int)=some v:=by
 have hj:j<xs.length:=(i8.mp h).1
 have e:ixN xs.length (j:Int)=some j:=by
  unfold ixN
  rw[ugc (by left),ugc (by left)];simp
 unfold atI;rw[e];exact h
theorem mZ {α:Type}(xs:List α)(v:α):atI (xs++[v]) (-1)=some v:=by
 have hl:(xs++[v]).length=xs.length+1:=by simp
 have e:ixN (xs++[v]).length (-1)=some xs.length:=by
  unfold ixN
  rw[hl,ugd (by decide),ugc (by left)]
  congr 1
  left
 unfold atI
 rw[e]
 show (xs++[v])[xs.length]?=some v
 simp
def PlainIx (b:ua9):Prop:=∀ o i,subscripted b false o i=operate [o,i] (getItem o i)
def IxR (X:Cx)(r:R2):Prop :=
 ∀ (value slice:ua9)(pins:List (j7 × Obj))(s:d8)(σ:St)(H:Hp)(x y:V)(v u:d7)(Q:VK),Inv X pins σ H s->RelV x v->RelV y u->r x y H Q ->
  subscripted slice false v u=operate [v,u] (getItem v u)->p8 (z9 X.prog X.w) X.A (subscriptTail value slice v u) (EP X pins σ Q) X.xe s
def MtR (X:Cx)(id:String)(r:V->List V->Hp->VK->Prop):Prop :=
 ∀ (pins:List (j7 × Obj))(s:d8)(σ:St)(H:Hp)(x:V)(xs:List V)(v:d7)(us:List d7)(Q:VK),Inv X pins σ H s->RelV x v->Vals xs us->r x xs H Q ->
  p8 (z9 X.prog X.w) X.A (call (.builtin id) (v::us)) (EP X pins σ Q) X.xe s
section
variable {X:Cx}{a b:ua9}{ta tb:TE}{pos:Pos}
theorem IxR.or {r r':R2}(h:IxR X r)(h':IxR X r'):IxR X (λ x y H Q=>r x y H Q\/r' x y H Q):=by
 intro value slice pins s σ H x y v u Q I rx ry q hs
 rcases q with q | q
 ·exact h value slice pins s σ H x y v u Q I rx ry q hs
 ·exact h' value slice pins s σ H x y v u Q I rx ry q hs
theorem MtR.or {id:String}{r r':V->List V->Hp->VK->Prop}(h:MtR X id r)(h':MtR X id r'):MtR X id (λ x xs H Q=>r x xs H Q\/r' x xs H Q):=by
 intro pins s σ H x xs v us Q I rx rs q
 rcases q with q | q
 ·exact h pins s σ H x xs v us Q I rx rs q
 ·exact h' pins s σ H x xs v us Q I rx rs q
theorem aK {r:R2}(hr:IxR X r)(ha:PE X a ta)(hb:PE X b tb)(hs:PlainIx b):PE X (.Subscript a b pos) (tOp r ta tb):=by
 intro pins s σ H Q I h
 exact Subscript_ (binT ha hb I h λ v u s2 x y H2 I2 rx ry q=>hr a b pins s2 σ H2 x y v u Q I2 rx ry q (hs _ _))
inductive rIxL_i (K:a8)(x:V)(y:V)(H:Hp)(Q:VK):Prop
 | mk:∀ p xs i v,(x=.ref p)->(y=.int i)->(SqL K H p xs)->(atI xs i=some v)->(Q v H)->rIxL_i K x y H Q
def rIxL (K:a8):R2:=λ x y H Q=>rIxL_i K x y H Q
inductive rIxT_i (K:a8)(x:V)(y:V)(H:Hp)(Q:VK):Prop
 | mk:∀ p xs i v,(x=.ref p)->(y=.int i)->(SqT K H p xs)->(atI xs i=some v)->(Q v H)->rIxT_i K x y H Q
def rIxT (K:a8):R2:=λ x y H Q=>rIxT_i K x y H Q
theorem bC:IxR X (rIxL X.K):=by
 intro value slice pins s σ H x y v u Q I rx ry h hs
 obtain⟨p,xs,i,z,rfl,rfl,hq,he,q⟩:=h
 cases rx
 obtain⟨t,rfl⟩:=ry
 obtain⟨its,r,pl,hz⟩:=I.list hq
 obtain⟨j,h1,h2,h3,h4,h5⟩:=oJ he
 obtain⟨w,ew,rw'⟩:=r.get h2
 have hl:=r.length
 have hn:=line63
 have fin:EP X pins σ Q w s:=⟨z,H,I,rw',q⟩
 by_cases h0:0<=i
 ·have hj:i.toNat=j:=by
   rw[seqIndex_of h0 h5] at h1
   exact t6 h1
  exact item_listR pl.isList h0 (by left) (by rw[hj];simpa using ew) fin hs
 ·have hj:(i+(its.toArray.size:Int)).toNat=j:=by
   rw[seqIndex_neg (by left) h4] at h1
   rw[k9,← hl]
   exact t6 h1
  exact subscriptTail_builtinR (x:=w) pl.isList.typeIs slot_list_getitem.lookup
   (wpAny_getItem_list_neg (Q:=λ r s'=>r=w/\EP X pins σ Q r s') pl.isList (by left) (by rw[k9] <;> left) (by left) (by rw[hj];simpa using ew) ⟨rfl,fin⟩) hs
theorem aW:IxR X (rIxT X.K):=by
 intro value slice pins s σ H x y v u Q I rx ry h hs
 obtain⟨p,xs,i,z,rfl,rfl,hq,he,q⟩:=h
 cases rx
 obtain⟨t,rfl⟩:=ry
 obtain⟨its,r,pl,hz⟩:=I.tuple hq
 obtain⟨j,h1,h2,h3,h4,h5⟩:=oJ he
 obtain⟨w,ew,rw'⟩:=r.get h2
 have hl:=r.length
 have hn:=line63
 have fin:EP X pins σ Q w s:=⟨z,H,I,rw',q⟩
 exact subscriptTail_builtinR (x:=w) pl.typeIs slot_tuple_getitem.lookup
  (getItem_tuple (j:=j) (Q:=λ r s'=>r=w/\EP X pins σ Q r s') pl (by left) (by left) (by rw[k9,← hl];exact h1) (by simpa using ew) ⟨rfl,fin⟩) hs
theorem uC (its:List d7)(n j:Nat)(u:d7):Obj.mapSeq (·.setIfInBounds j u) { cls:=.type "list",data:=.seq its.toArray n }={ cls:=.type "list",data:=.seq (its.set j u).toArray n }:=by
 simp [Obj.mapSeq]
theorem Inv.lst {pins:List (j7 × Obj)}{σ:St}{H:Hp}{s:d8}{p:j7}{xs:List V}(I:Inv X pins σ H s)(h:H p=some (.lst xs)) :
  ∃ (its:List d7)(n:Nat),Vals xs its/\s.heap.get? p=some { cls:=.type "list",data:=.seq its.toArray n }/\xs.length<=p9:=by
 obtain⟨z,its,n,r,e⟩:=I.hok p _ h
 exact⟨its,n,r,e,z⟩
theorem Inv.lstUpd {pins:List (j7 × Obj)}{σ:St}{H:Hp}{s:d8}{p:j7}{xs ys:List V}{its its':List d7}{n n':Nat}{f:Obj->Obj}(I:Inv X pins σ H s)(h:H p=some (.lst xs))
  (ho:s.heap.get? p=some { cls:=.type "list",data:=.seq its.toArray n }) (hf:f { cls:=.type "list",data:=.seq its.toArray n }={ cls:=.type "list",data:=.seq its'.toArray n' }) (r:Vals ys its') (hz:ys.length<=p9) (t:Nat) :
  Inv X pins σ (upd H p (.lst ys)) { s with heap:=s.heap.update p f,toks:=t }:=by
 have e:(s.heap.update p f).get? p=some { cls:=.type "list",data:=.seq its'.toArray n' }:=by
  rw[ucf f ho (by rw[hf] <;> rfl),hf]
 refine I.write (x:=p) (e:=p) (by rw[h];trivial) (.inl rfl) (λ b u hb q=>(p6 _ _ (Ne.symm hb)).trans q) ⟨_,e⟩ ?_
 exact⟨hz,its',n',r,e⟩
inductive rSetL_i  (o:V) (i:V) (v:V) (H:Hp) (Q:Hp->Prop):Prop
 | mk:∀ p xs k j,(o=.ref p)->(i=.int k)->(H p=some (.lst xs))->(ixN xs.length k=some j)->(Q (upd H p (.lst (xs.set j v))))->rSetL_i o i v H Q
def rSetL :V->V->V->Hp->(Hp->Prop)->Prop:=λ o i v H Q=>rSetL_i o i v H Q
theorem eF:PSet X rSetL:=by
 intro pins s σ H o i v ov iv u Q I ro ri rv h
 obtain⟨p,xs,k,j,rfl,rfl,hp,hj,q⟩:=h
 cases ro
 obtain⟨t,rfl⟩:=ri
 obtain⟨its,n,r,ho,hz⟩:=I.lst hp
 obtain⟨h1,h2,h3,h4⟩:=iP hj
 have hl:=r.length
 have hn:=line63
 have I':Inv X pins σ (upd H p (.lst (xs.set j v))) { s with heap:=s.heap.update p (Obj.mapSeq (·.setIfInBounds j u)) } :=
  I.lstUpd hp ho (uC its n j u) (r.set rv j) (by rw[ual];exact hz) s.toks
 by_cases h0:0<=k
 ·have hk:k.toNat=j:=by
   rw[seqIndex_of h0 h4] at h1
   exact t6 h1
  exact PySem.W.ki_setAt ho h0 (by left) (by rw[k9,← hl];exact h4) (by rw[hk];exact⟨_,I',q⟩)
 ·have hk:(k+(its.toArray.size:Int)).toNat=j:=by
   rw[seqIndex_neg (by left) h3] at h1
   rw[k9,← hl]
   exact t6 h1
  exact PySem.W.ki_setBack ho (by left) (by rw[k9,← hl];exact h3) (by left) (by rw[hk];exact⟨_,I',q⟩)
inductive call_len_seq_i (K:a8)(xs:List V)(H:Hp)(Q:VK):Prop
 | mk:∀ p ys,(xs=[.ref p])->((SqL K H p ys\/SqT K H p ys))->(Q (.int ys.length) H)->call_len_seq_i K xs H Q
theorem bW:CallR X (.builtin "len") (call_len_seq_i X.K):=by
 intro pins s σ H xs us Q I r h
 obtain⟨p,ys,rfl,hq,q⟩:=h
 obtain⟨u,rfl,rx⟩:=vals1 r
 cases rx
 have hn:=line63
 rcases hq with hq | hq
 ·obtain⟨its,r',pl,hz⟩:=I.list hq
  have hlen:=r'.length
  exact Calls.call_len_list pl.isList (by simp only [k9] <;> left) ⟨.int ys.length,H,I.tok _,⟨s.toks+1,by rw[k9,hlen]⟩,q⟩
 ·obtain⟨its,r',pl,hz⟩:=I.tuple hq
  have hlen:=r'.length
  exact len_tuple pl (by simp only [k9] <;> left) ⟨.int ys.length,H,I.tok _,⟨s.toks+1,by rw[k9,hlen]⟩,q⟩
theorem CallR.or {f:d7}{r r':List V->Hp->VK->Prop}(h:CallR X f r)(h':CallR X f r'):CallR X f (λ xs H Q=>r xs H Q\/r' xs H Q):=by
 intro pins s σ H xs us Q I rs q
 rcases q with q | q
 ·exact h pins s σ H xs us Q I rs q
 ·exact h' pins s σ H xs us Q I rs q
inductive call_tuple_of_i (K:a8)(xs:List V)(H:Hp)(Q:VK):Prop
 | mk:∀ p ys,(xs=[.ref p])->(((SqL K H p ys/\∀ l,H l=none->Q (.ref l) (upd H l (.tup ys)))\/(SqT K H p ys/\Q (.ref p) H)))->call_tuple_of_i K xs H Q
theorem gL:CallR X (.type "tuple") (call_tuple_of_i X.K):=by
 intro pins s σ H xs us Q I r h
 obtain⟨p,ys,rfl,h⟩:=h
 obtain⟨u,rfl,rx⟩:=vals1 r
 cases rx
 rcases h with ⟨hq,q⟩ | ⟨hq,q⟩
 ·obtain⟨its,r',pl,hz⟩:=I.list hq
  have hlen:=r'.length
  refine call_tuple_list pl.isList (λ h' kp=>?_) (by simp only [k9] <;> left)
  have I1:Inv X pins σ H { s with heap:=h' }:=I.kept (t':=s.toks) kp
  have I2:Inv X pins σ (upd H h'.objs.size (.tup ys)) { s with heap:=h'.push { cls:=.type "tuple",data:=.seq its.toArray } } :=
   I1.laid (t':=s.toks) (λ b o e=>b9 _ e) (i7 _) (show ObjOk X.prog X.w _ _ _ (.tup ys) from ⟨hz,its,r',TupN.new _ _⟩)
  exact⟨.ref h'.objs.size,_,I2,rfl,q _ (I1.hok.fresh (i7 _))⟩
 ·obtain⟨its,r',pl,hz⟩:=I.tuple hq
  exact call_tuple_same pl ⟨.ref p,H,I,rfl,q⟩
def tyV (K:a8)(T:String)(x:V)(H:Hp):Prop:=match x with
 | .str _=>T="str"
 | .int _=>T="int"
 | .ref p => (T = "list" /\ ∃ xs, SqL K H p xs) \/ (T = "tuple" /\ ∃ o, K.lookup p = some o /\ o.cls = .type "tuple" /\ o.dict = none) \/
     (T="dict"/\((∃ kvs,H p=some (.dK kvs))\/∃ kvs,H p=some (.dT kvs)))\/(T="set"/\∃ S n,H p=some (.set S n))
 | _=>False
theorem zar {pins:List (j7 × Obj)}{σ:St}{H:Hp}{s:d8}{T:String}{x:V}{v:d7}(I:Inv X pins σ H s)(r:RelV x v)(ty:tyV X.K T x H) :
  s.TypeIs v T/\∀ a,v=.ref a->∃ ob,s.heap.get? a=some ob/\ob.dict=none:=by
 cases x with
 | str z =>
  obtain⟨t,rfl⟩:=r
  cases (show T="str" from ty)
  exact⟨typeIs_str s z t,λ _ e=>nomatch e⟩
 | int i =>
  obtain⟨t,rfl⟩:=r
  cases (show T="int" from ty)
  exact⟨typeIs_int s i t,λ _ e=>nomatch e⟩
 | ref p =>
  cases r
  rcases ty with ⟨rfl,xs,hq⟩ | ⟨rfl,o,hk,hc,hd⟩ | ⟨rfl,hk⟩ | ⟨rfl,S,n,hk⟩
  ·obtain⟨its,_,pl,_⟩:=I.list hq
   refine⟨pl.isList.typeIs,λ a e=>?_⟩
   cases e
   obtain⟨o,n,e,c,hd,_⟩:=pl
   exact⟨o,e,hd⟩
  ·refine⟨⟨o,I.kIn p o hk,hc⟩,λ a e=>?_⟩
   cases e
   exact⟨o,I.kIn _ o hk,hd⟩
  ·have z:∃ o,s.heap.get? p=some o/\o.ExactDict:=by
    rcases hk with ⟨kvs,hk⟩ | ⟨kvs,hk⟩
    ·obtain⟨_,_,_,_,o,_,_,e,ex,_⟩:=I.hok p _ hk
     exact⟨o,e,ex⟩
    ·obtain⟨_,_,_,_,o,_,_,e,ex,_⟩:=I.hok p _ hk
     exact⟨o,e,ex⟩
   obtain⟨o,e,ex⟩:=z
   refine⟨⟨o,e,ex.1⟩,λ a e2=>?_⟩
   cases e2
   exact⟨o,e,ex.2.1⟩
  ·obtain⟨o,_,_,_,e,ex,_⟩:=I.hok p _ hk
   refine⟨⟨o,e,ex.1⟩,λ a e2=>?_⟩
   cases e2
   exact⟨o,e,ex.2.1⟩
 | _=>exact False.elim ty
def tBM (K:a8)(T:String)(r:V->List V->Hp->VK->Prop)(to:TE)(t:TA):TE:=λ σ H Q=>to σ H λ x H1=>tyV K T x H1/\t σ H1 λ xs H2=>r x xs H2 Q
variable {o e:ua9}{es:List ua9}{to:TE}{t:TA}{name:Str}{apos cpos:Pos}{T id:String}{r:V->List V->Hp->VK->Prop}
theorem dS (pa:PlainAttrs T)(slot:Slot T name id)(hty:typeOf (.builtin id)=pure (.type "method_descriptor"))(hm:MtR X id r)(ho:PE X o to)(ha:PA X (e::es) t)
  (hbase:attributeBase o name X.env (eval o X.env)=eval o X.env:=by rfl)
  (hfew:((backTo cpos (uaa (e::es) X.env)).all (λ x=>!x.1)&&(backToKw cpos (keywordEach [] X.env)).all (λ x=>x.1.isSome)
  &&decide ((e::es).length+([]:List Keyword).length+(if ([]:List Keyword).isEmpty then 0 else 1)<30))=true:=by rfl)
  (hline:(apos.endLine==cpos.line)=true:=by rfl) (hs:uaa (e::es) X.env=(false,eval e X.env)::uaa es X.env:=by rfl) (hplain:(backTo cpos (uaa es X.env)).any (·.1)=false:=by rfl) :
  PE X (.Call (.Attribute o name apos) (e::es) [] cpos) (tBM X.K T r to t):=by
 intro pins s σ H Q I h
 refine wpAny_Call_method_late hbase hfew hline rfl (thn (ho pins s σ H _ I h) λ v s1 ⟨x,H1,I1,r1,ty,q1⟩=>?_)
 obtain⟨h1,h2⟩:=zar I1 r1 ty
 refine⟨T,id,pa,slot,hty,h1,h2,?_⟩
 have hA:=ha cpos pins s1 σ H1 _ I1 q1
 rw[hs] at hA ⊢
 refine Calls.callWith_builtin (by show (false||(backTo cpos (uaa es X.env)).any (·.1))=false;rw[hplain] <;> rfl) (Calls.evalArgs_plain ?_)
 exact thn hA λ us s2 ⟨vs,H2,I2,r2,q2⟩=>hm pins s2 σ H2 x vs v us Q I2 r1 r2 q2
end
end L2
namespace L2
open PySem PySem.Spec PyProof.Rows
def MtM (X:Cx)(id:String)(r:V->List V->Hp->VK->Prop):Prop :=
 ∀ (pins:List (j7 × Obj))(s:d8)(σ:St)(H:Hp)(x:V)(xs:List V)(v:d7)(us:List d7)(Q:VK),Inv X pins σ H s->RelV x v->Vals xs us->r x xs H Q ->
  p8 (z9 X.prog X.w) X.A (call (.builtin id) (v::us)) (EP X pins σ Q) X.xe s
theorem Vals.one:∀ {x:V}{us:List d7},Vals [x] us->∃ u,us=[u]/\RelV x u
 | _,_,.cons r .nil=>⟨_,rfl,r⟩
theorem Vals.two:∀ {x y:V}{us:List d7},Vals [x,y] us->∃ u v,us=[u,v]/\RelV x u/\RelV y v
 | _,_,_,.cons r (.cons q .nil)=>⟨_,_,rfl,r,q⟩
theorem Vals.zero:∀ {us:List d7},Vals [] us->us=[]
 | _,.nil=>rfl
theorem Vals.eraseIdx:∀ {xs:List V}{us:List d7}(i:Nat),Vals xs us->Vals (xs.eraseIdx i) (us.eraseIdx i)
 | _,_,_,.nil=>.nil
 | _,_,0,.cons _ t=>t
 | _,_,i+1,.cons r t=>.cons r (Vals.eraseIdx i t)
theorem Vals.reverse {xs:List V}{us:List d7}(h:Vals xs us):Vals xs.reverse us.reverse:=by
 induction h with
 | nil=>exact .nil
 | cons r t ih=>rw[ucl,ucl];exact Vals.append ih (.cons r .nil)
theorem Vals.rep {xs:List V}{us:List d7}(h:Vals xs us):∀ k:Nat,Vals (o3 k xs).flatten (o3 k us).flatten
 | 0=>.nil
 | k+1=>by
  rw[ub6,ub6,uc4,uc4]
  exact Vals.append h (Vals.rep h k)
theorem kN {α:Type}:∀ (l:List α)(i:Nat),(l.eraseIdx i).length<=l.length
 | [],_=>i7 _
 | _::_,0=>uci _
 | _::r,i+1=>ufq (kN r i)
theorem kQ (its:List d7):∀ (k:Nat)(acc:List d7),
  List.foldl (λ x1 x2=>x1++x2) acc.toArray (o3 k its.toArray)=(acc++(o3 k its).flatten).toArray
 | 0,acc=>by simp
 | k+1,acc=>by
  have e:acc.toArray++its.toArray=(acc++its).toArray:=by simp
  have e2:(acc++its)++(o3 k its).flatten=acc++(o3 (k+1) its).flatten:=by
   rw[ub6,uc4,ubg]
  rw[← e2,← kQ its k (acc++its),← e,ub6,List.foldl_cons]
section
variable {X:Cx}{pins:List (j7 × Obj)}{σ:St}{H:Hp}{s:d8}{l b:j7}{xs ys zs:List V}
theorem Inv.lset {its its':List d7}{n:Nat}{f:Array d7->Array d7}{t':Nat}(I:Inv X pins σ H s)(hH:H l=some (.lst xs))
  (e:s.heap.get? l=some { cls:=.type "list",data:=.seq its.toArray n }) (hf:f its.toArray=its'.toArray) (hv:Vals ys its') (hz:ys.length<=p9) :
  Inv X pins σ (upd H l (.lst ys)) { s with heap:=s.heap.update l (Obj.mapSeq f),toks:=t' }:=by
 have q:=PySem.IsL.update e f
 rw[hf] at q
 refine I.write (x:=l) (e:=l) (by rw[hH];exact trivial) (.inl rfl) (λ b' u hb hu=>(p6 s.heap (Obj.mapSeq f) (Ne.symm hb)).trans hu) ⟨_,q⟩ ?_
 exact⟨hz,its',_,hv,q⟩
theorem Inv.lnew {its:List d7}{t':Nat}(I:Inv X pins σ H s)(hv:Vals ys its)(hz:ys.length<=p9) :
  Inv X pins σ (upd H s.heap.objs.size (.lst ys)) { s with heap:=s.heap.push { cls:=.type "list",data:=.seq its.toArray },toks:=t' } :=
 I.laid (λ _ _ q=>b9 _ q) (i7 _) ⟨hz,its,0,hv,l4 _ rfl⟩
theorem Inv.fresh (I:Inv X pins σ H s):H s.heap.objs.size=none:=I.hok.fresh (i7 _)
theorem Inv.lstM (I:Inv X pins σ H s)(hH:H l=some (.lst xs)):xs.length<=p9/\∃ (its:List d7)(n:Nat),Vals xs its/\xs.length=its.length/\s.heap.get? l=some { cls:=.type "list",data:=.seq its.toArray n }:=by
 obtain⟨z,its,n,r,e⟩:=I.hok l _ hH
 exact⟨z,its,n,r,r.length,e⟩
theorem notLongL {n:Nat}(h:n<=p9):Builtin.List.listTooLong n=false:=by
 unfold Builtin.List.listTooLong
 exact ugb (by left)
end
section
variable {X:Cx}
inductive rAppend_i  (x:V) (vs:List V) (H:Hp) (Q:VK):Prop
 | mk:∀ l xs y,(x=.ref l)->(vs=[y])->(H l=some (.lst xs))->(xs.length<p9)->(Q .non (upd H l (.lst (xs++[y]))))->rAppend_i x vs H Q
def rAppend :V->List V->Hp->VK->Prop:=λ x vs H Q=>rAppend_i x vs H Q
theorem fI:MtM X "list.append" rAppend:=by
 intro pins s σ H x vs v us Q I rx rv h
 obtain⟨l,xs,y,rfl,rfl,hH,hz,q⟩:=h
 cases rx
 obtain⟨u,rfl,ru⟩:=rv.one
 obtain⟨z,its,n,r,hl,e⟩:=I.lstM hH
 refine call_meets F.slot_list_append ⟨_,e,rfl⟩ F.entry_list_append (F.args_list_append_2 _ _) (PySem.list_append l its.toArray n u (by rw[k9];left)) ⟨e,?_⟩
 refine⟨.non,_,I.lset (its':=its++[u]) hH e (by simp) (r.append (.cons ru .nil)) ?_,rfl,q⟩
 rw[j3,p7]
 left
inductive rPopAt_i  (x:V) (vs:List V) (H:Hp) (Q:VK):Prop
 | mk:∀ l xs i k y,(x=.ref l)->(vs=[.int i])->(H l=some (.lst xs))->(-(2^63)<=i)->(i<2^63)->(seqIndex? i xs.length=some k)->(xs[k]?=some y)->(Q y (upd H l (.lst (xs.eraseIdx k))))->rPopAt_i x vs H Q
def rPopAt :V->List V->Hp->VK->Prop:=λ x vs H Q=>rPopAt_i x vs H Q
theorem xG:MtM X "list.pop" rPopAt:=by
 intro pins s σ H x vs v us Q I rx rv h
 obtain⟨l,xs,i,k,y,rfl,rfl,hH,h1,h2,hk,hy,q⟩:=h
 cases rx
 obtain⟨u,rfl,ru⟩:=rv.one
 obtain⟨t,rfl⟩:=ru
 obtain⟨z,its,n,r,hl,e⟩:=I.lstM hH
 obtain⟨w,hw,rw'⟩:=r.get hy
 refine call_meets F.slot_list_pop ⟨_,e,rfl⟩ F.entry_list_pop (F.args_list_pop_2 _ _)
  (MeetsSeq.list_pop_at l its.toArray n i t k w (fitsIndex_both h1 h2) (by rw[k9,← hl];exact hk) (by rw[← uek];exact hw) (by rw[k9];left)) ⟨e,?_⟩
 refine⟨y,_,I.lset (its':=its.eraseIdx k) hH e ?_ (r.eraseIdx k) ?_,rw',q⟩
 ·show its.toArray.eraseIdxIfInBounds k=(its.eraseIdx k).toArray
  rw[List.eraseIdxIfInBounds_toArray]
 ·have:=kN xs k
  left
inductive rRep_i  (x:V) (y:V) (H:Hp) (Q:VK):Prop
 | mk:∀ l k xs,(x=.ref l)->(y=.int k)->(H l=some (.lst xs))->(-(2^63)<=k)->(k<2^63)->(xs.length*k.toNat<=p9)->(∀ p,H p=none->Q (.ref p) (upd H p (.lst (o3 k.toNat xs).flatten)))->rRep_i x y H Q
def rRep :R2:=λ x y H Q=>rRep_i x y H Q
theorem zX {α:Type}(xs:List α)(k:Nat):(o3 k xs).flatten.length=k*xs.length:=by
 induction k with
 | zero=>simp
 | succ k ih=>rw[ub6,uc4,j3,ih,Nat.succ_mul,ud3]
theorem za5:OpR X (binaryOp .Mult) rRep:=by
 intro pins s σ H x y v u Q I rx ry h
 obtain⟨l,k,xs,rfl,rfl,hH,h1,h2,hz,q⟩:=h
 cases rx
 obtain⟨t,rfl⟩:=ry
 obtain⟨z,its,n,r,hl,e⟩:=I.lstM hH
 have hlen:its.toArray.size*k.toNat<=p9:=by rw[k9,← hl];exact hz
 have hcap:¬ its.toArray.size*k.toNat>(2^63-1) / 8:=by
  have:(p9:Nat)<=(2^63-1) / 8:=by decide
  left
 have hfit:¬ (!Builtin.List.listFitsIndex k)=true:=by
  rw[fitsIndex_both h1 h2]
  exact m7
 have hlong:¬ Builtin.List.listTooLong (its.toArray.size*k.toNat)=true:=by
  rw[notLongL hlen]
  exact m7
 have hnew:List.foldl (λ x1 x2=>x1++x2) #[] (o3 (if its.toArray.isEmpty=true then 0 else k.toNat) its.toArray)=(o3 k.toNat its).flatten.toArray:=by
  have f0:∀ m:Nat,List.foldl (λ x1 x2=>x1++x2) #[] (o3 m its.toArray)=(o3 m its).flatten.toArray:=λ m=>by
   have:=kQ its m []
   rw[List.nil_append] at this
   exact this
  rw[f0]
  cases its with
  | nil=>simp
  | cons a r'=>rw[ugd (by simp)]
 refine wpAny_binaryOp_repeat_ref (T:="list") (U:="int") (by decide) ⟨_,e,rfl⟩ (λ s'=>typeIs_int s' k t) noFill_list_mul F.fills_int_mul F.slot_int_rmul repeat_list F.slot_int_index.lookup
  (call_meets F.slot_int_rmul (typeIs_int s k t) F.entry_int_rmul (F.args_int_rmul_2 _ _) (int___rmul___int_list k t l its.toArray n)
   ⟨e,rfl,⟨_,e,rfl⟩,call_meets F.slot_list_mul ⟨_,e,rfl⟩ F.entry_list_mul (F.args_list_mul_2 _ _) (AutoListH.list___mul___list_int_3 l its.toArray n k t hfit hcap hlong) ⟨e,?_⟩⟩)
 rw[hnew]
 exact⟨.ref _,_,I.lnew (t':=s.toks) (r.rep k.toNat) (by rw[zX,Nat.mul_comm];exact hz),rfl,q _ I.fresh⟩
end
section
variable {prog:m9}{w:uaf}{A:v7}{E:d7->d8->Prop}{s:d8}
end
section
variable {X:Cx}
end
end L2
namespace Att
open PySem PySem.W PySem.Calls PyProof.Rows
theorem qC {P:Params}{h:Heap}:∀ (ns:List Int)(vs:List d7),WellAll P h vs (ns.map WData.int)->IntsAre vs ns:=by
 intro ns
 induction ns with
 | nil =>
  intro vs w
  rw[List.map_nil] at w
  cases w
  exact .nil
 | cons n ns ih =>
  intro vs w
  rw[uaq] at w
  cases w with
  | cons a b =>
   cases a
   exact .cons _ _ (ih _ b)
theorem vB {l:OpenLaw}{n:Nat}(hn:l.most=some n){P:Params}{h:Heap}{args:List WData}{vals:List d7}
  (hpre:l.row.toRowW.claim.pre args=true) (hwl:WellAll P h vals args) :
  ∃ a vs ns,vals=[Value.ref a]/\args=[WData.list (ns.map WData.int)]/\h.get? a=some { cls:=.type "list",data:=.seq vs.toArray }/\IntsAre vs ns/\ns.length<=n:=by
 have hsh:WShape.hasAll [] args [.list .int]=true:=(pre_splitW hpre).1
 have hc:l.pre.holds [] { args:=args }=true:=(pre_splitW hpre).2
 obtain⟨d,r,rfl,h1,h2⟩:=hasAllW_cons hsh
 obtain rfl:=hasAllW_nil h2
 obtain⟨xs,rfl,h3⟩:=hasW_list h1
 obtain⟨ns,rfl⟩:=items_int h3
 have hlen:ns.length<=n:=by
  unfold OpenLaw.pre at hc
  have h4:(WTm.not (.lt (.lit (.int (n:Int))) (.len (.arg 0)))).holds [] { args:=[.list (ns.map .int)] }=true:=by
   have h4:=(holds_andW hc).1
   rw[hn] at h4
   exact h4
  have h5:=condW_of h4 (w_not (w_lt w_lit (w_len_list (w_arg rfl))))
  rw[g9] at h5
  refine Nat.le_of_not_lt λ q=>?_
  have q':(n:Int)<((ns.length:Nat):Int):=by left
  first
   | (rw[uf9 q'] at h5;exact absurd h5 (by decide))
   | (simp at h5;left)
 cases hwl with
 | cons w1 w2 =>
  cases w2
  cases w1 with
  | list ho hall=>exact⟨_,_,ns,rfl,rfl,ho,qC ns _ hall,hlen⟩
theorem vH (l:OpenLaw)(args:List WData):l.row.toRowW.claim.post args (.bool true) args=true :=
 postW_of (r:=l.row.toRowW) (X:=(true==true))
  (show WShape.has [] (.bool true) .bool=true by first | rfl | decide | simp [WShape.has,WShape.arms,WShape.armsAll])
  (show (WTm.eq .res (.lit (.bool true))).value [] { args:=args,res:=some (.bool true),after:=args }=some (.bool (true==true)) from w_eq_bool (w_res rfl) w_lit) rfl
theorem attach_call {l:OpenLaw}{n:Nat}{q:m9}{loose:List Str}{XP:(Str->Option d7)->Heap->Prop}{YP:uaf->Heap->Prop}{d:DefRec}
  (hn:l.most=some n) (hdf:d.params.defaults=[])
  (call:∀ (w:uaf)(s₀ s₁:d8)(mg mb:Str->Option d7)(fa:j7)(o:Obj)(pm cd doc:d7)(a:j7)(vs:List d7)(ns:List Int),
   Ground q loose [] XP w s₀ mg mb s₁.heap->YP w s₁.heap ->
   s₁.heap.get? fa=some o->o.data=.func (docDef d.name d.params d.body d.scope pm cd doc)->s₁.heap.CodeRec cd d.name->mg d.name=some (.ref fa) ->
   s₁.heap.get? a=some { cls:=.type "list",data:=.seq vs.toArray }->IntsAre vs ns->ns.length<=n->s₁.gens=#[] ->
   codeAny (z9 l.prog w) callerA (.call (.ref fa) ⟨[.ref a],[]⟩) (λ r s'=>r=.ok (.ret (.bool true))/\OldK s₁.heap s'.heap/\s'.os=s₁.os/\AllBare s'.gens) s₁) :
  WalkO q loose XP YP l.row.toRowW d [] (λ f vs=>PySem.call f vs):=by
 intro w s₀ s₁ mg mb G Y fa o pm cd doc dV kV ho hd hcd hD hmg hg args vals as hpre hlay hrd hwl hlo
 obtain rfl:dV=.none:=Dflts.none hD hdf
 obtain rfl:kV=.none:=Dflts.noKw hD
 obtain⟨a,vs,ns,rfl,rfl,hobj,hints,hlen⟩:=vB hn hpre hwl
 refine enter_call (ucy (call w s₀ s₁ mg mb fa o pm cd doc a vs ns G Y ho (fd_plain hd) hcd hmg hobj hints hlen hg) λ r s' hq=>?_)
 obtain⟨rfl,h2,h3,h4⟩:=hq
 exact⟨.inl ⟨.bool true,.bool true,[],rfl,λ _=>rfl,.bool true,vH l _,λ _=>⟨ub8,λ _ hm=>(nomatch hm)⟩⟩,h2,h3,h4⟩
section
variable {prog:m9}{w:uaf}{A:v7}{E:d7->d8->Prop}{s:d8}{K:Frag}
end
end Att
namespace L2
open PySem PySem.Spec PyProof.Rows
theorem kD:∀ {vs:List d7}{ns:List Int},IntsAre vs ns->Vals (ns.map V.int) vs
 | _,_,.nil=>.nil
 | _,_,.cons n t h=>.cons ⟨t,rfl⟩ (kD h)
end L2
namespace L2
open PySem PySem.Spec PyProof.Rows
end L2
namespace L2
open PySem PySem.Spec PyProof.Rows
def defArgs (s:ubv):Arguments:=match s with
 | .FunctionDef _ a _ _ _ _ _ _ _ _=>a
 | _=>{ posonlyargs:=[],args:=[],vararg:=none,kwonlyargs:=[],kw_defaults:=[],kwarg:=none,defaults:=[] }
def defBody (s:ubv):List ubv:=match s with
 | .FunctionDef _ _ b _ _ _ _ _ _ _=>b
 | _=>[]
def defScope (s:ubv):ucd:=match s with
 | .FunctionDef _ _ _ _ _ _ sc _ _ _=>sc
 | _=>{ kind:=.function,names:=[],isGenerator:=false,isCoroutine:=false }
abbrev CX0:CXT:=λ _ _ _ _ _ _=>False
abbrev E0:XK:=λ _ _ _=>False
theorem pass0 {X:Cx}:Passes CX0 X E0:=λ _ _ _ _ _ _ _ h=>h.elim
structure Fun (K:a8)(x qual:Str)(st:ubv)(f:j7)(fd:ubm):Prop where
 ex:∃ (oc:d7)(od:Option j7)(kV doc pm:d7)(an:Option j7)(cdv ct:d7)(osl:Array (Option d7)),
  fd=ua3 x qual (defArgs st) (defBody st) (defScope st) .none kV doc pm an cdv ct/\K.lookup f=some ⟨oc,od,.func fd,osl⟩/\ub4 K cdv qual=true
 kp:ua6 K (.ref f)=true
section
variable {P:m9}{w:uaf}{K:a8}{mg:Str->Option d7}{base:Heap}
theorem Fun.ok {x qual:Str}{st:ubv}{f:j7}{fd:ubm}{N ps:List Str}{k:Nat}{sp:Sp}(F:Fun K x qual st f fd)(S:FnScope N ps (defScope st))(len:∀ vs H Q E,sp vs H Q E->vs.length=ps.length)
  (hbody:∀ (cdv:d7)(A:v7)(outer:List Env)(s:d8)(H:Hp)(vs:List V)(Q:VK)(E:XK),Room k (A.deeper (envOfC qual (defScope st) s.heap.objs.size f cdv))->sp vs H Q E ->
   ∃ t,PSs (cxOf CX0 P w K mg base N qual (defScope st) f cdv A outer s H E).nox (defBody st) t/\t { nx:=λ _ H'=>Q .non H',rt:=Q } (start N vs) H):FnOk P w K mg base CX0 (k+1) f fd ps sp:=by
 obtain⟨oc,od,kV,doc,pm,an,cdv,ct,osl,rfl,lk,hcd⟩:=F.ex
 refine jI lk hcd S len λ A outer s H vs Q E hr hsp=>?_
 obtain⟨t,h,q⟩:=hbody cdv A outer s H vs Q E hr hsp
 exact⟨t,h.nox,q⟩
theorem Fun.binds {x qual:Str}{st:ubv}{f:j7}{fd:ubm}{ps:List Str}(F:Fun K x qual st f fd)
  (h:∀ (kV doc pm:d7)(an:Option j7)(cdv ct:d7)(us:List d7),us.length=ps.length->bindArgs (ua3 x qual (defArgs st) (defBody st) (defScope st) .none kV doc pm an cdv ct) ⟨us,[]⟩=pure (ps.zip us)):Binds K fd ps []:=by
 obtain⟨oc,od,kV,doc,pm,an,cdv,ct,osl,rfl,lk,hcd⟩:=F.ex
 exact .all (h kV doc pm an cdv ct)
theorem gF {x qual:Str}{st:ubv}{f:j7}{oc:d7}{od an:Option j7}{osl:Array (Option d7)}{kV doc pm cdv ct:d7}(l:K.lookup f=some ⟨oc,od,.func (ua3 x qual (defArgs st) (defBody st) (defScope st) .none kV doc pm an cdv ct),osl⟩)
  (c:ub4 K cdv qual=true) (k:ua6 K (.ref f)=true):Fun K x qual st f (ua3 x qual (defArgs st) (defBody st) (defScope st) .none kV doc pm an cdv ct):=⟨⟨oc,od,kV,doc,pm,an,cdv,ct,osl,rfl,l,c⟩,k⟩
end
section
variable {X:Cx}
theorem pv (i:Nat){x:Str}{pos:Pos}(hN:X.N[i]?=some x:=by rfl)(hv:Vis X.env.scope x:=by first | exact v8 rfl | exact ufp (v8 rfl) | exact ufp (ufp rfl))(hd:(x==("__debug__":Str))=false:=by decide)
  (hcd:(x==("__classdict__":Str))=false:=by decide):PE X (.Name x pos) (tVar i):=iS hN hv hd hcd
end
theorem iteF {A B:Prop}(h:B):if false=true then A else B:=by
 rw[ugd m7]
 exact h
theorem iteT {A B:Prop}(h:A):if true=true then A else B:=by
 rw[ugc rfl]
 exact h
theorem ite2 {c A B:Prop}[Decidable c](h1:c->A)(h2:¬ c->B):if c then A else B:=by
 by_cases h:c
 ·rw[ugc h]
  exact h1 h
 ·rw[ugd h]
  exact h2 h
theorem iteNS {c A B:Prop}[Decidable c](hc:c)(h:B):if (!decide c)=true then A else B:=by
 rw[uf9 hc]
 exact iteF h
def Same (H H':Hp):Prop:=∀ b o,H b=some o->H' b=some o
theorem Same.refl (H:Hp):Same H H:=λ _ _ h=>h
theorem Same.trans {H H1 H2:Hp}(a:Same H H1)(b:Same H1 H2):Same H H2:=λ c o h=>b c o (a c o h)
theorem Same.free {H H':Hp}(e:Same H H'){l:j7}(h:H' l=Option.none):H l=Option.none:=by
 cases q:H l with
 | none=>rfl
 | some o =>
  rw[e l o q] at h
  cases h
theorem Same.seq {K:a8}{H H':Hp}{a:j7}{xs:List V}(e:Same H H')(h:SqL K H a xs):SqL K H' a xs:=by
 rcases h with (h | ⟨o,h⟩) | h
 ·exact .inl (.inl (e _ _ h))
 ·exact .inl (.inr ⟨o,e _ _ h⟩)
 ·exact .inr h
end L2
namespace L2
open PySem PySem.Spec PyProof.Rows
section
variable {κ:Type}[DecidableEq κ]
def valV (kvs:List (κ × V))(k:κ):Option V:=(kvs.find? λ kv=>decide (kv.1=k)).map (·.2)
def putK (kvs:List (κ × V))(k:κ)(v:V):List (κ × V) :=
 if (kvs.any λ kv=>decide (kv.1=k))=true then kvs.map (λ kv=>if kv.1=k then (kv.1,v) else kv) else kvs++[(k,v)]
def dropK (kvs:List (κ × V))(k:κ):List (κ × V):=kvs.filter λ kv=>decide (kv.1≠k)
theorem hJ {p:κ × V}{r:List (κ × V)}{k:κ}(e:p.1=k):valV (p::r) k=some p.2:=by simp [valV,ubt,e]
theorem hO {p:κ × V}{r:List (κ × V)}{k:κ}(e:¬ p.1=k):valV (p::r) k=valV r k:=by simp [valV,ubt,e]
theorem lG (k:κ):∀ kvs:List (κ × V),(kvs.any λ kv=>decide (kv.1=k))=(valV kvs k).isSome
 | []=>rfl
 | p::r=>by
  rw[uf7]
  by_cases e:p.1=k
  ·simp only [hJ e,uf9 e,Bool.true_or,Option.isSome_some]
  ·rw[hO e,ugb e,Bool.false_or];exact lG k r
theorem RelO.isSome_eq {o:Option V}{u:Option d7}(r:RelO o u):o.isSome=u.isSome:=by
 cases o with
 | none=>cases u with
  | none=>rfl
  | some _=>exact (show False from r).elim
 | some _=>cases u with
  | none=>exact (show False from r).elim
  | some _=>rfl
theorem RelO.getD {o:Option V}{u:Option d7}{d:V}{d':d7}(r:RelO o u)(rd:RelV d d'):RelV (o.getD d) (u.getD d'):=by
 cases o with
 | none=>cases u with
  | none=>exact rd
  | some _=>exact (show False from r).elim
 | some _=>cases u with
  | none=>exact (show False from r).elim
  | some _=>exact r
theorem KV.val {kvs:List (κ × V)}{vs:List (κ × d7)}(r:KV kvs vs)(k:κ):RelO (valV kvs k) (valueAt vs k):=by
 unfold KV at r
 induction r with
 | nil=>exact True.intro
 | @cons p q ps qs h t ih =>
  obtain⟨h1,h2⟩:=h
  by_cases e:p.1=k
  ·have e':q.1=k:=h1.symm.trans e
   have b:valueAt (q::qs) k=some q.2:=by simp [valueAt,ubt,e']
   rw[hJ e,b];exact h2
  ·have e':¬ q.1=k:=λ z=>e (h1.trans z)
   have b:valueAt (q::qs) k=valueAt qs k:=by simp [valueAt,ubt,e']
   rw[hO e,b];exact ih
theorem KV.any {kvs:List (κ × V)}{vs:List (κ × d7)}(r:KV kvs vs)(k:κ):(kvs.any λ kv=>decide (kv.1=k))=vs.any λ kv=>decide (kv.1=k):=by
 unfold KV at r
 induction r with
 | nil=>rfl
 | cons h t ih=>rw[uf7,uf7,ih,h.1]
theorem KV.repl {kvs:List (κ × V)}{vs:List (κ × d7)}(r:KV kvs vs)(k:κ){y:V}{u:d7}(ry:RelV y u) :
  KV (kvs.map λ kv=>if kv.1=k then (kv.1,y) else kv) (vs.map λ kv=>if kv.1=k then (kv.1,u) else kv):=by
 unfold KV at r ⊢
 induction r with
 | nil=>exact .nil
 | @cons p q ps qs h t ih =>
  rw[uaq,uaq]
  refine .cons ?_ ih
  obtain⟨h1,h2⟩:=h
  by_cases e:p.1=k
  ·rw[ugc e,ugc (h1.symm.trans e)];exact⟨h1,ry⟩
  ·rw[ugd e,ugd (λ z=>e (h1.trans z))];exact⟨h1,h2⟩
theorem KV.put {kvs:List (κ × V)}{vs:List (κ × d7)}(r:KV kvs vs)(k:κ){y:V}{u:d7}(ry:RelV y u):KV (putK kvs k y) (stored vs k u):=by
 unfold putK stored
 rw[r.any k]
 by_cases e:(vs.any λ kv=>decide (kv.1=k))=true
 ·rw[ugc e,ugc e];exact r.repl k ry
 ·rw[ugd e,ugd e];exact Paired.snoc r ⟨rfl,ry⟩
theorem KV.drop {kvs:List (κ × V)}{vs:List (κ × d7)}(r:KV kvs vs)(k:κ):KV (dropK kvs k) (without vs k):=by
 unfold KV at r ⊢
 unfold dropK without
 induction r with
 | nil=>exact .nil
 | @cons p q ps qs h t ih =>
  obtain⟨h1,h2⟩:=h
  rw[ude,ude]
  by_cases e:p.1=k
  ·have a:¬ decide (p.1≠k)=true:=by simp [e]
   have b:¬ decide (q.1≠k)=true:=by simp [h1.symm.trans e]
   rw[ugd a,ugd b];exact ih
  ·have e':¬ q.1=k:=λ z=>e (h1.trans z)
   have a:decide (p.1≠k)=true:=by simp [e]
   have b:decide (q.1≠k)=true:=by simp [e']
   rw[ugc a,ugc b];exact .cons ⟨h1,h2⟩ ih
theorem KV.keys {kvs:List (κ × V)}{vs:List (κ × d7)}(r:KV kvs vs):kvs.map (·.1)=vs.map (·.1):=by
 unfold KV at r
 induction r with
 | nil=>rfl
 | cons h t ih=>rw[uaq,uaq,ih,h.1]
theorem KV.length {kvs:List (κ × V)}{vs:List (κ × d7)}(r:KV kvs vs):kvs.length=vs.length:=Paired.length r
end
abbrev KT (H:Hp):List (List Key × V)->List (List Key × j7 × d7)->Prop:=Paired λ p q=>p.1=q.1/\H q.2.1=some (.tup (p.1.map kV))/\RelV p.2 q.2.2
theorem KT.val {H:Hp}{kvs:List (List Key × V)}{xs:List (List Key × j7 × d7)}(r:KT H kvs xs)(k:List Key):RelO (valV kvs k) ((atKey xs k).map (·.2)):=by
 induction r with
 | nil=>exact True.intro
 | @cons p q ps qs h t ih =>
  obtain⟨h1,_,h2⟩:=h
  by_cases e:p.1=k
  ·have e':q.1=k:=h1.symm.trans e
   have b:atKey (q::qs) k=some q.2:=by simp [atKey,ubt,e']
   rw[hJ e,b];exact h2
  ·have e':¬ q.1=k:=λ z=>e (h1.trans z)
   have b:atKey (q::qs) k=atKey qs k:=by simp [atKey,ubt,e']
   rw[hO e,b];exact ih
theorem KT.repl {H:Hp}{kvs:List (List Key × V)}{xs:List (List Key × j7 × d7)}(r:KT H kvs xs)(k:List Key){y:V}{u:d7}(ry:RelV y u) :
  KT H (kvs.map λ kv=>if kv.1=k then (kv.1,y) else kv) (xs.map (putAt k u)):=by
 induction r with
 | nil=>exact .nil
 | @cons p q ps qs h t ih =>
  rw[uaq,uaq]
  refine .cons ?_ ih
  obtain⟨h1,h2,h3⟩:=h
  unfold putAt
  by_cases e:p.1=k
  ·rw[ugc e,ugc (h1.symm.trans e)];exact⟨h1,h2,ry⟩
  ·rw[ugd e,ugd (λ z=>e (h1.trans z))];exact⟨h1,h2,h3⟩
theorem KT.put {H:Hp}{kvs:List (List Key × V)}{xs:List (List Key × j7 × d7)}(r:KT H kvs xs)(k:List Key){b:j7}{y:V}{u:d7}(hb:H b=some (.tup (k.map kV)))(ry:RelV y u) :
  KT H (putK kvs k y) (storedH xs k b u):=by
 have e:(kvs.any λ kv=>decide (kv.1=k))=(atKey xs k).isSome:=by
  rw[lG,(r.val k).isSome_eq,Option.isSome_map]
 unfold putK storedH
 rw[e]
 by_cases q:(atKey xs k).isSome=true
 ·rw[ugc q,ugc q];exact r.repl k ry
 ·rw[ugd q,ugd q];exact Paired.snoc r ⟨rfl,hb,ry⟩
theorem KT.keeps {H H':Hp}{kvs:List (List Key × V)}{xs:List (List Key × j7 × d7)}(r:KT H kvs xs)(ht:∀ b ys,H b=some (.tup ys)->H' b=some (.tup ys)):KT H' kvs xs :=
 Paired.mapP r λ _ _ z=>⟨z.1,ht _ _ z.2.1,z.2.2⟩
section
variable {P:m9}{w:uaf}{H:Hp}{h:Heap}{a:j7}
end
def DGet (H:Hp)(a:j7)(y:V)(r:Option V):Prop :=
 (∃ kvs k,Rd H a (.dK kvs)/\y=kV k/\r=valV kvs k)\/∃ kvs k b,Rd H a (.dT kvs)/\y=.ref b/\H b=some (.tup (k.map kV))/\r=valV kvs k
def DPut (H:Hp)(a:j7)(y v:V)(H':Hp):Prop :=
 (∃ kvs k,H a=some (.dK kvs)/\y=kV k/\kvs.length<p9/\H'=upd H a (.dK (putK kvs k v))) \/
 ∃ kvs k b,H a=some (.dT kvs)/\y=.ref b/\H b=some (.tup (k.map kV))/\kvs.length<p9/\H'=upd H a (.dT (putK kvs k v))
theorem DGet.k {H:Hp}{a:j7}{kvs:List (Key × V)}{k:Key}(e:H a=some (.dK kvs)):DGet H a (kV k) (valV kvs k):=.inl ⟨kvs,k,.inl e,rfl,rfl⟩
theorem DGet.t {H:Hp}{a b:j7}{kvs:List (List Key × V)}{k:List Key}(e:H a=some (.dT kvs))(eb:H b=some (.tup (k.map kV))):DGet H a (.ref b) (valV kvs k):=.inr ⟨kvs,k,b,.inl e,rfl,eb,rfl⟩
theorem DPut.k {H:Hp}{a:j7}{kvs:List (Key × V)}{k:Key}{v:V}(e:H a=some (.dK kvs))(hl:kvs.length<p9):DPut H a (kV k) v (upd H a (.dK (putK kvs k v))):=.inl ⟨kvs,k,e,rfl,hl,rfl⟩
theorem DPut.t {H:Hp}{a b:j7}{kvs:List (List Key × V)}{k:List Key}{v:V}(e:H a=some (.dT kvs))(eb:H b=some (.tup (k.map kV)))(hl:kvs.length<p9) :
  DPut H a (.ref b) v (upd H a (.dT (putK kvs k v))):=.inr ⟨kvs,k,b,e,rfl,eb,hl,rfl⟩
section
variable {X:Cx}{pins:List (j7 × Obj)}{σ:St}{H:Hp}{s:d8}{a:j7}{y v:V}{u r:d7}{o:Option V}{A:v7}{E:d7->d8->Prop}
theorem Inv.big (I:Inv X pins σ H s):sysModules<s.heap.objs.size:=by
 have h:l6<s.heap.objs.size:=(I.mod.glob.keeps I.bk).lt
 exact udb (by decide) h
end
section
variable {X:Cx}{pins:List (j7 × Obj)}{σ:St}{H:Hp}{s:d8}{a:j7}{kvs:List (Key × V)}{k:Key}{u:d7}{A:v7}{E:d7->d8->Prop}
end
section
variable {X:Cx}{o i e value:ua9}{pos pos' tpos:Pos}{td ty tv:TE}
end
section
variable {X:Cx}{pos:Pos}
end
end L2
set_option maxHeartbeats 4000000
namespace Srt
open PySem PySem.W PyProof.Rows
section
variable {N:Nat}{r:Nat->Int}{cmp:Nat->Nat->(Bool->d8->Prop)->d8->Prop}{s:d8}
def ky (r:Nat->Int)(p:Array Nat)(m:Nat):Int:=r (p.getD m 0)
def Up (r:Nat->Int)(p:Array Nat)(n:Nat):Prop:=∀ i j,i<=j->j<n->ky r p i<=ky r p j
def Dn (r:Nat->Int)(p:Array Nat)(n:Nat):Prop:=∀ i j,i<=j->j<n->ky r p j<=ky r p i
def Ask (N:Nat)(r:Nat->Int)(cmp:Nat->Nat->(Bool->d8->Prop)->d8->Prop)(s:d8):Prop :=
 ∀ i j C,i<N->j<N->C (decide (r i<r j)) s->cmp i j C s
def Gd (N:Nat)(p:Array Nat):Prop:=p.Perm (uen (i6 N))
theorem Gd.sz {p:Array Nat}(g:Gd N p):p.size=N:=by
 have:=g.size_eq
 simpa using this
theorem Gd.lt {p:Array Nat}(g:Gd N p)(h:0<N)(m:Nat):p.getD m 0<N:=by
 by_cases hm:m<p.size
 ·have e:p.getD m 0=p[m]:=by simp [uf0,hm]
  rw[e]
  have h1:p[m]∈p:=Array.getElem_mem hm
  have h2:p[m]∈uen (i6 N):=g.mem_iff.mp h1
  simpa using h2
 ·have e:p.getD m 0=0:=by simp [uf0,hm]
  left
theorem eW {p q:Array Nat}{i j:Nat}(h:p[i]?=q[j]?):ky r p i=ky r q j:=by
 have e:∀ (a:Array Nat)(k:Nat),a.getD k 0=(a[k]?).getD 0:=λ a k=>by
  by_cases hk:k<a.size <;> simp [uf0,hk]
 unfold ky
 rw[e,e,h]
theorem iW {p:Array Nat}{i j:Nat}(hj:j<=p.size)(k:Nat):ky r (kas_rev p i j) k=if i<=k/\k<j then ky r p (i+j-1-k) else ky r p k:=by
 have e:=getElem?_mirror_all (i:=i) hj k
 by_cases h:i<=k/\k<j
 ·rw[ugc h] at e ⊢
  exact eW e
 ·rw[ugd h] at e ⊢
  exact eW e
theorem za8 {p:Array Nat}{k d:Nat}(hs:k<p.size)(hd:d<=k)(m:Nat) :
  ky r (bubble p k d) m=if m=k-d then ky r p k else if k-d<m/\m<=k then ky r p (m-1) else ky r p m:=by
 have e:=getElem?_bubble hs d hd m
 by_cases h1:m=k-d
 ·rw[ugc h1] at e ⊢
  exact eW e
 ·rw[ugd h1] at e ⊢
  by_cases h2:k-d<m/\m<=k
  ·rw[ugc h2] at e ⊢
   exact eW e
  ·rw[ugd h2] at e ⊢
   exact eW e
theorem Gd.rev {p:Array Nat}(g:Gd N p)(i j:Nat):Gd N (kas_rev p i j):=(mirror_perm p i j _).trans g
theorem Gd.bub {p:Array Nat}(g:Gd N p)(i j:Nat):Gd N (bubble p i j):=(bubble_perm p i j).trans g
theorem jA (h:Ask N r cmp s)(hN:0<N){p:Array Nat}(g:Gd N p){Q:Nat->d8->Prop}:∀ f n,1<=n->Up r p n ->
  (∀ m,n<=m->m<=n+f->Up r p m->(m<n+f->ky r p m<ky r p (m-1))->Q m s)->(kas_asc p f n).kasWp cmp Q s
 | 0,n,_,hu,q=>q n (i7 _) (i7 _) hu (λ z=>absurd z (ubh _))
 | f+1,n,h1,hu,q=>by
  refine h _ _ _ (g.lt hN _) (g.lt hN _) ?_
  by_cases c:r (p.getD n 0)<r (p.getD (n-1) 0)
  ·rw[uf9 c]
   exact q n (i7 _) (by left) hu (λ _=>c)
  ·rw[ugb c]
   refine jA h hN g f (n+1) (by left) (λ i j hij hj=>?_) (λ m a b u d=>q m (by left) (by left) u (λ z=>d (by left)))
   have c':ky r p (n-1)<=ky r p n:=by unfold ky;left
   by_cases e:j=n
   ·subst e
    by_cases e2:i=j
    ·subst e2;exact uaj _
    ·exact ufj (hu i (j-1) (by left) (by left)) c'
   ·exact hu i j hij (by left)
theorem gW {p:Array Nat}{i j:Nat}(hj:j<=p.size)(v:Int)(he:∀ k,i<=k->k<j->ky r p k=v)(k:Nat):ky r (kas_rev p i j) k=ky r p k:=by
 rw[iW hj]
 split
 ·rename_i c
  rw[he _ (by left) (by left),he k c.1 c.2]
 ·rfl
theorem gC (h:Ask N r cmp s)(hN:0<N){Q:Array Nat × Nat × Nat->d8->Prop}:∀ f p n q,Gd N p->1<=n->n+f<=N->Dn r p n->q+1<=n->(∀ i,n-(q+1)<=i->i<n->ky r p i=ky r p (n-1)) ->
  (∀ p' n' q',Gd N p'->n<=n'->n'<=n+f->Dn r p' n'->q'+1<=n'->(∀ i,n'-(q'+1)<=i->i<n'->ky r p' i=ky r p' (n'-1))->Q (p',n',q') s)->(kas_desc f p n q).kasWp cmp Q s
 | 0,p,n,q,g,_,_,hd,hq,he,z=>z p n q g (i7 _) (i7 _) hd hq he
 | f+1,p,n,q,g,h1,hf,hd,hq,he,z=>by
  refine h _ _ _ (g.lt hN _) (g.lt hN _) ?_
  by_cases c:r (p.getD n 0)<r (p.getD (n-1) 0)
  ·rw[uf9 c]
   have c':ky r p n<ky r p (n-1):=c
   have dn:∀ {p':Array Nat},(∀ k,ky r p' k=ky r p k)->Dn r p' (n+1):=λ e i j hij hj=>by
    rw[e,e]
    by_cases ej:j=n
    ·subst ej
     by_cases ei:i=j
     ·subst ei;exact uaj _
     ·exact ufj (ucj c') (hd i (j-1) (by left) (by left))
    ·exact hd i j hij (by left)
   show KasT.kasWp cmp (if q>0 then kas_desc f (kas_rev p (n-(q+1)) n) (n+1) 0 else kas_desc f p (n+1) 0) Q s
   by_cases hq0:q>0
   ·rw[ugc hq0]
    have e:=gW (r:=r) (p:=p) (i:=n-(q+1)) (j:=n) (by rw[g.sz];left) (ky r p (n-1)) he
    exact gC h hN f _ (n+1) 0 (g.rev _ _) (by left) (by left) (dn e) (by left) (λ i a b=>by congr 1;left)
     (λ p' n' q' g' a b d e1 e2=>z p' n' q' g' (by left) (by left) d e1 e2)
   ·rw[ugd hq0]
    exact gC h hN f _ (n+1) 0 g (by left) (by left) (dn λ _=>rfl) (by left) (λ i a b=>by congr 1;left)
     (λ p' n' q' g' a b d e1 e2=>z p' n' q' g' (by left) (by left) d e1 e2)
  ·rw[ugb c]
   refine h _ _ _ (g.lt hN _) (g.lt hN _) ?_
   by_cases d:r (p.getD (n-1) 0)<r (p.getD n 0)
   ·rw[uf9 d]
    exact z p n q g (i7 _) (by left) hd hq he
   ·rw[ugb d]
    have e:ky r p n=ky r p (n-1):=by unfold ky;left
    refine gC h hN f p (n+1) (q+1) g (by left) (by left) (λ i j hij hj=>?_) (by left) (λ i a b=>?_)
     (λ p' n' q' g' a b d e1 e2=>z p' n' q' g' (by left) (by left) d e1 e2)
    ·by_cases ej:j=n
     ·subst ej
      by_cases ei:i=j
      ·subst ei;exact uaj _
      ·rw[e];exact hd i (j-1) (by left) (by left)
     ·exact hd i j hij (by left)
    ·rw[show n+1-1=n by left]
     by_cases ei:i=n
     ·rw[ei]
     ·rw[e];exact he i (by left) (by left)
theorem lK (h:Ask N r cmp s)(hN:0<N){Q:Nat × Array Nat->d8->Prop}{p:Array Nat}{n:Nat}(g:Gd N p)(h1:1<=n)(hn:n<=N)(hd:Dn r p n)
  (z:∀ m p',Gd N p'->1<=m->m<=N->Up r p' m->Q (m,p') s):(kas_tail3 n N p).kasWp cmp Q s:=by
 unfold kas_tail3
 rw[KasT.kasWp_bind]
 refine jA h hN (g.rev 0 n) _ n h1 (λ i j hij hj=>?_) (λ m a b u _=>z m _ (g.rev 0 n) (by left) (by left) u)
 rw[iW (by rw[g.sz];left),iW (by rw[g.sz];left),ugc (by left),ugc (by left)]
 exact hd _ _ (by left) (by left)
theorem jQ (h:Ask N r cmp s)(hN:0<N){Q:Nat × Array Nat->d8->Prop}{p:Array Nat}{n:Nat}(g:Gd N p)(h1:1<=n)(hn:n+1<=N)(hd:Dn r p (n+1))
  (z:∀ m p',Gd N p'->1<=m->m<=N->Up r p' m->Q (m,p') s):(kas_descPart n N p).kasWp cmp Q s:=by
 unfold kas_descPart
 rw[KasT.kasWp_bind]
 refine gC h hN _ p (n+1) 0 g (by left) (by left) hd (by left) (λ i a b=>by congr 1;left) (λ p' n' q' g' a b d e1 e2=>?_)
 show KasT.kasWp cmp (if q'>0 then kas_tail3 n' N (kas_rev p' (n'-(q'+1)) n') else kas_tail3 n' N p') Q s
 by_cases hq:q'>0
 ·rw[ugc hq]
  have e:=gW (r:=r) (p:=p') (i:=n'-(q'+1)) (j:=n') (by rw[g'.sz];left) (ky r p' (n'-1)) e2
  exact lK h hN (g'.rev _ _) (by left) (by left) (λ i j hij hj=>by rw[e,e];exact d i j hij hj) z
 ·rw[ugd hq]
  exact lK h hN g' (by left) (by left) d z
theorem yA (h:Ask N r cmp s)(hN:0<N){Q:Nat × Array Nat->d8->Prop}{p:Array Nat}(g:Gd N p)
  (z:∀ m p',Gd N p'->1<=m->m<=N->Up r p' m->Q (m,p') s):(kas_count N p).kasWp cmp Q s:=by
 unfold kas_count
 rw[KasT.kasWp_bind]
 refine jA h hN g _ 1 (i7 _) (λ i j hij hj=>?_) (λ m a b u d=>?_)
 ·have:i=j:=by left
  subst this;exact uaj _
 show KasT.kasWp cmp (if (m==N)=true then .ret (m,p) else if m>1 then .ask (p.getD 0 0) (p.getD (m-1) 0) λ c=>if c=true then .ret (m,p) else kas_descPart m N (kas_rev p 0 m) else kas_descPart m N p) Q s
 by_cases hm:m=N
 ·rw[ugc (by simpa using hm)]
  exact z m p g a (by left) u
 ·rw[ugd (by simpa using hm)]
  have d':=d (by left)
  by_cases h1:m>1
  ·rw[ugc h1]
   refine h _ _ _ (g.lt hN _) (g.lt hN _) ?_
   by_cases c:r (p.getD 0 0)<r (p.getD (m-1) 0)
   ·rw[uf9 c]
    exact z m p g a (by left) u
   ·rw[ugb c]
    have c':ky r p (m-1)<=ky r p 0:=by unfold ky;left
    have eq:∀ k,0<=k->k<m->ky r p k=ky r p 0:=λ k _ hk=>by
     have a1:=u 0 k (by left) hk
     have a2:=u k (m-1) (by left) (by left)
     left
    have e:=gW (r:=r) (p:=p) (i:=0) (j:=m) (by rw[g.sz];left) (ky r p 0) eq
    refine jQ h hN (g.rev 0 m) (by left) (by left) (λ i j hij hj=>?_) z
    rw[e,e]
    by_cases ej:j=m
    ·subst ej
     by_cases ei:i=j
     ·subst ei;exact uaj _
     ·rw[eq i (by left) (by left)]
      have:=eq (j-1) (by left) (by left)
      left
    ·rw[eq i (by left) (by left),eq j (by left) (by left)]
     exact uaj _
  ·rw[ugd h1]
   have e1:m=1:=by left
   subst e1
   refine jQ h hN g (by left) (by left) (λ i j hij hj=>?_) z
   by_cases ej:j=1
   ·subst ej
    by_cases ei:i=1
    ·subst ei;exact uaj _
    ·have:i=0:=by left
     subst this
     exact ucj d'
   ·have:i=j:=by left
    subst this;exact uaj _
theorem iA (h:Ask N r cmp s)(hN:0<N){Q:Nat->d8->Prop}{p:Array Nat}{k:Nat}(g:Gd N p)(hu:Up r p k):∀ f l rr,l<=rr->rr<=k->rr-l<=f->(∀ i,i<l->ky r p i<=ky r p k)->(∀ i,rr<=i->i<k->ky r p k<ky r p i) ->
  (∀ l',l'<=k->(∀ i,i<l'->ky r p i<=ky r p k)->(∀ i,l'<=i->i<k->ky r p k<ky r p i)->Q l' s)->(kas_place p k f l rr).kasWp cmp Q s
 | 0,l,rr,h1,h2,h3,a,b,z=>z l (by left) a (λ i x y=>b i (by left) y)
 | f+1,l,rr,h1,h2,h3,a,b,z=>by
  unfold kas_place
  by_cases hl:l ≥ rr
  ·rw[ugc hl]
   exact z l (by left) a (λ i x y=>b i (by left) y)
  ·rw[ugd hl]
   refine h _ _ _ (g.lt hN _) (g.lt hN _) ?_
   by_cases c:r (p.getD k 0)<r (p.getD ((l+rr) / 2) 0)
   ·rw[uf9 c]
    have c':ky r p k<ky r p ((l+rr) / 2):=c
    exact iA h hN g hu f l ((l+rr) / 2) (by left) (by left) (by left) a (λ i x y=>Int.lt_of_lt_of_le c' (hu _ _ x y)) z
   ·rw[ugb c]
    have c':ky r p ((l+rr) / 2)<=ky r p k:=by unfold ky;left
    exact iA h hN g hu f ((l+rr) / 2+1) rr (by left) (by left) (by left) (λ i x=>ufj (hu i ((l+rr) / 2) (by left) (by left)) c') b z
theorem pB (h:Ask N r cmp s)(hN:0<N){Q:Array Nat->d8->Prop}:∀ f p k,Gd N p->k+f<=N->Up r p k->(∀ p',Gd N p'->Up r p' (k+f)->Q p' s)->(kas_bin f p k).kasWp cmp Q s
 | 0,p,k,g,_,hu,z=>z p g hu
 | f+1,p,k,g,hk,hu,z=>by
  unfold kas_bin
  rw[KasT.kasWp_bind]
  refine iA h hN g hu k 0 k (by left) (i7 _) (by left) (λ i x=>absurd x (udu _)) (λ i x y=>absurd (ubc x y) (ubh _)) (λ l hl a b=>?_)
  have e:=λ m=>za8 (r:=r) (p:=p) (k:=k) (d:=k-l) (by rw[g.sz];left) (by left) m
  refine pB h hN f _ (k+1) (g.bub _ _) (by left) (λ i j hij hj=>?_) (λ p' g' u'=>z p' g' (by rw[show k+(f+1)=k+1+f by left];exact u'))
  rw[e,e]
  have ekl:k-(k-l)=l:=by left
  rw[ekl]
  by_cases i1:i=l
  ·rw[ugc i1]
   by_cases j1:j=l
   ·rw[ugc j1];exact uaj _
   ·rw[ugd j1,ugc (by left)]
    exact ucj (b _ (by left) (by left))
  ·rw[ugd i1]
   by_cases i2:l<i/\i<=k
   ·rw[ugc i2,ugd (by left),ugc (by left)]
    exact hu _ _ (by left) (by left)
   ·rw[ugd i2]
    by_cases j1:j=l
    ·rw[ugc j1];exact a _ (by left)
    ·rw[ugd j1]
     by_cases j2:l<j/\j<=k
     ·rw[ugc j2];exact hu _ _ (by left) (by left)
     ·rw[ugd j2];exact hu _ _ hij (by left)
theorem nH (h:Ask N r cmp s)(hN:0<N){Q:Array Nat->d8->Prop}(z:∀ p,Gd N p->Up r p N->Q p s):(kas_sort N).kasWp cmp Q s:=by
 unfold kas_sort
 rw[KasT.kasWp_bind]
 refine yA h hN (ue7 _) (λ m p g h1 hm u=>?_)
 show KasT.kasWp cmp (if m<N then kas_bin (N-max m 1) p (max m 1) else .ret p) Q s
 by_cases c:m<N
 ·rw[ugc c,Nat.max_eq_left h1]
  exact pB h hN _ p m g (by left) u (λ p' g' u'=>z p' g' (by rw[show m+(N-m)=N by left] at u';exact u'))
 ·rw[ugd c]
  have:m=N:=by left
  subst this
  exact z p g u
end
end Srt
namespace Srt
open PySem PySem.W PyProof.Rows
section
variable {n:Nat}{lt:Nat->Nat->Bool}
def rank (n:Nat)(lt:Nat->Nat->Bool)(i:Nat):Int:=(((i6 n).countP λ k=>lt k i:Nat):Int)
theorem dI {α:Type}{p q:α->Bool}:∀ {l:List α}{x:α},(∀ y∈l,p y=true->q y=true)->x∈l->p x=false->q x=true->l.countP p<l.countP q
 | [],_,_,hx,_,_=>by cases hx
 | a::r,x,h,hx,hp,hq=>by
  have hr:∀ y∈r,p y=true->q y=true:=λ y hy=>h y (i9 _ hy)
  have mono:r.countP p<=r.countP q:=uer hr
  rw[ueg,ueg]
  rcases l7.mp hx with e | hx
  ·subst e
   simp only [hp,hq,uaw,if_false,if_true]
   left
  ·have ih:=dI hr hx hp hq
   cases hpa:p a with
   | false=>simp only [uaw,if_false];split <;> left
   | true =>
    have:=h a i0 hpa
    simp only [this,if_true]
    left
theorem fW (hi:∀ i,lt i i=false)(ht:∀ i j k,i<n->j<n->k<n->lt i j=true->lt j k=true->lt i k=true)(hn:∀ i j k,i<n->j<n->k<n->lt i k=true->lt i j=true\/lt j k=true)
  {i j:Nat} (h1:i<n) (h2:j<n):decide (rank n lt i<rank n lt j)=lt i j:=by
 unfold rank
 cases e:lt i j with
 | true =>
  refine uf9 ?_
  have:=dI (p:=λ k=>lt k i) (q:=λ k=>lt k j) (l:=i6 n) (x:=i) (λ k hk q=>ht k i j (o6.mp hk) h1 h2 q e) (o6.mpr h1) (hi i) e
  left
 | false =>
  refine ugb ?_
  have:(i6 n).countP (λ k=>lt k j)<=(i6 n).countP (λ k=>lt k i):=uer λ k hk q=>by
   rcases hn k i j (o6.mp hk) h1 h2 q with z | z
   ·exact z
   ·rw[e] at z;cases z
  left
end
section
variable {prog:m9}{w:uaf}{A:v7}{E:d7->d8->Prop}{s:d8}
abbrev Stay (a:j7)(h h':Heap):Prop:=∀ b o,b≠a->h.get? b=some o->h'.get? b=some o
def outOf (vs:List d7)(p:Array Nat):List d7:=p.toList.map λ i=>vs.getD i Value.none
theorem kI (vs:List d7):outOf vs (uen (i6 vs.length))=vs:=by
 unfold outOf
 refine udf (by simp) λ i h1 h2=>?_
 simp
 rw[d6 h2]
 rfl
theorem iX {vs:List d7}{p:Array Nat}(g:Gd vs.length p):(outOf vs p).length=vs.length:=by
 unfold outOf
 rw[g9,ub3,g.sz]
theorem lsort {a:j7}{vs:List d7}{n:Nat}{P:PySem.Fin->d8->Prop}{r:Nat->Int}{κ:SortKind}(ho:s.heap.get? a=some (seqObj "list" vs.toArray n))(h64:vs.length<64)
  (hk:2<=vs.length->∀ (s':d8)(Q:SortKind->d8->Prop),Stay a s.heap s'.heap->Q κ s'->p8 (z9 prog w) A (keyKind' vs.toArray) Q (λ _ _=>False) s')
  (hc:∀ (s':d8)(i j:Nat)(C:Bool->d8->Prop),Stay a s.heap s'.heap->i<vs.length->j<vs.length->C (decide (r i<r j)) s'->kas_ask prog w A κ vs i j C s')
  (h:∀ (p:Array Nat)(h':Heap)(c:Nat),Gd vs.length p->Up r p vs.length->Stay a s.heap h'->h'.get? a=some (seqObj "list" (outOf vs p).toArray c)->P (.done (.ret .none)) { s with heap:=h' }) :
  p8 (z9 prog w) A (Builtin.«list.sort» ⟨[.ref a],[]⟩) P E s:=by
 rw[list_sort_plain]
 have ha:a<s.heap.objs.size:=j8 ho
 have line:(64:Nat)<=p9:=by rw[ubk];decide
 refine a9 (listItems_at ho rfl (a9 (listUpdate_at ho rfl ?_ (by rw[k9];left) (uac _))))
 have e1:=get?_update_seq ho λ _=>(#[]:Array d7)
 generalize (if ((λ _=>(#[]:Array d7)) vs.toArray).size==vs.toArray.size then n else n+1)=n1 at e1
 have k1:Stay a s.heap (s.heap.update a (Obj.mapSeq λ _=>(#[]:Array d7))):=λ b o hb q=>(p6 s.heap _ (Ne.symm hb)).trans q
 refine a9 (seqEpoch_at e1 rfl (a9 (ufb ?_ (by show vs.length<=_;left))))
 refine a9 (udy ?_ (uac _))
 refine uav ?_
 show p8 (z9 prog w) A _ P E { s with heap:=(((s.heap.update a (Obj.mapSeq λ _=>(#[]:Array d7))).push (seqObj "tuple" vs.toArray 0)).push (seqObj "list" #[] 0):Heap) }
 generalize hg:((s.heap.update a (Obj.mapSeq λ _=>(#[]:Array d7))).push (seqObj "tuple" vs.toArray 0)).push (seqObj "list" #[] 0)=g
 have e2:g.get? a=some (seqObj "list" #[] n1):=by rw[← hg];exact b9 _ (b9 _ e1)
 have k2:Stay a s.heap g:=λ b o hb q=>by rw[← hg];exact b9 _ (b9 _ (k1 b o hb q))
 have fin:∀ (p:Array Nat),Gd vs.length p->Up r p vs.length->P (.done (.ret .none)) { s with heap:=g.update a (Obj.mapSeq λ _=>(outOf vs p).toArray) }:=λ p g1 u1 =>
  h p _ _ g1 u1 (λ b o hb q=>(p6 g _ (Ne.symm hb)).trans (k2 b o hb q)) (get?_update_seq e2 λ _=>(outOf vs p).toArray)
 by_cases h2:vs.length<2
 ·have h2':vs.toArray.size<2:=by rw[k9];exact h2
  simp only [ugc h2']
  refine a9 (j9 ?_)
  rw[StateT.run_pure]
  refine a9 (j9 ?_)
  have eo:((arrOf (SortSt.mk' general' (vs.toArray.zip vs.toArray) #[] 7 none)).map (·.2))=vs.toArray:=by
   apply Array.toList_inj.mp
   show ((vs.toArray.zip vs.toArray).map (·.2)).toList=_
   rw[Array.toList_map]
   simp only [Array.toList_zip,List.toList_toArray]
   exact uff (i7 _)
  dsimp only
  refine a9 (seqEpoch_at e2 rfl ?_)
  rw[eo]
  refine a9 (listUpdate_at e2 rfl ?_ (uac _) (by rw[k9];left))
  simp only [bne_self_eq_false,uaw,if_false]
  have f:=fin (uen (i6 vs.length)) (ue7 _) (λ i j hij hj=>by
   have:i=j:=by left
   subst this;exact uaj _)
  rw[kI] at f
  exact j9 f
 ·have h2':¬ vs.toArray.size<2:=by rw[k9];exact h2
  simp only [ugd h2']
  refine a9 (ua1 (hk (by left) { s with heap:=g } (λ κ' s'=>κ'=κ/\s'={ s with heap:=g }) k2 ⟨rfl,rfl⟩) (λ κ' s' hq=>?_) λ _ _ x=>x.elim)
  obtain⟨rfl,rfl⟩:=hq
  refine a9 (ua1 (kat_run (ks:=vs) (Q:=λ st' s'=>∃ p:Array Nat,arrOf st'=p.map (kas_item (vs.toArray.zip vs.toArray))/\failedOf st'=none/\s'={ s with heap:=g }/\Gd vs.length p/\Up r p vs.length)
   (G:=λ p s'=>s'={ s with heap:=g }/\Gd vs.length p/\Up r p vs.length) rfl (by left) h64 (λ p st' s' _ b2 b3 b4=>⟨p,b2,b3,b4.1,b4.2.1,b4.2.2⟩)
   (nH (r:=r) (λ i j C hi hj q=>hc _ i j C k2 hi hj q) (by left) λ p g1 u1=>⟨rfl,g1,u1⟩)) ?_ λ _ _ e=>e)
  rintro ⟨⟨⟩,st'⟩ s' ⟨p,har,hf,rfl,g1,u1⟩
  have hout:=kat_snds (ks:=vs) (vs:=vs) rfl har
  have ol:(outOf vs p).length=vs.length:=iX g1
  dsimp only
  rw[hout]
  refine a9 (seqEpoch_at e2 rfl ?_)
  refine a9 (listUpdate_at e2 rfl ?_ (uac _) (by show (outOf vs p).toArray.size<=_;rw[k9];left))
  rw[hf]
  simp only [bne_self_eq_false,uaw,if_false]
  exact j9 (fin p g1 u1)
theorem kF {l:j7}{vs:List d7}{Q:d7->d8->Prop}{r:Nat->Int}{κ:SortKind}(hl:s.heap.IsList l vs.toArray)(h64:vs.length<64)
  (hk:2<=vs.length->∀ (A':v7)(s':d8)(Q:SortKind->d8->Prop),(∀ b o,s.heap.get? b=some o->s'.heap.get? b=some o)->Q κ s'->p8 (z9 prog w) A' (keyKind' vs.toArray) Q (λ _ _=>False) s')
  (hc:∀ (A':v7)(s':d8)(i j:Nat)(C:Bool->d8->Prop),(∀ b o,s.heap.get? b=some o->s'.heap.get? b=some o)->i<vs.length->j<vs.length->C (decide (r i<r j)) s'->kas_ask prog w A' κ vs i j C s')
  (h:∀ (p:Array Nat)(h':Heap)(c:Nat),Gd vs.length p->Up r p vs.length->(∀ b o,s.heap.get? b=some o->h'.get? b=some o)->h'.get? (s.heap.objs.size+1)=some (seqObj "list" (outOf vs p).toArray c)->Q (.ref (s.heap.objs.size+1)) { s with heap:=h' }) :
  p8 (z9 prog w) A (call (.builtin "sorted") [.ref l]) Q E s:=by
 have line:(64:Nat)<=p9:=by rw[ubk];decide
 refine Calls.call_function_entry kind_sorted plain_sorted entry_sorted (args_sorted1 _) ?_
 unfold Builtin.«sorted»
 refine a9 (m:=checkCount "sorted" 1 1 _) (j9 (a9 (collect_list hl (a9 (udy ?_ (by left))) (by left))))
 generalize hg:(s.heap.push (seqObj "list" #[] 0)).update s.heap.objs.size (Obj.mapSeq (·++vs.toArray))=g
 have sz:g.objs.size=s.heap.objs.size+1:=by rw[← hg,Heap.size_update,size_push']
 have k1:∀ b o,s.heap.get? b=some o->g.get? b=some o:=λ b o q=>by
  rw[← hg]
  exact (p6 _ _ (Ne.symm (o0 (j8 q)))).trans (b9 _ q)
 have hoL:(g.push { cls:=.type "list",data:=.seq vs.toArray }).get? (s.heap.objs.size+1)=some (seqObj "list" vs.toArray 0):=by rw[← sz];exact l4 _ rfl
 have k2:∀ b o,s.heap.get? b=some o->(g.push { cls:=.type "list",data:=.seq vs.toArray }).get? b=some o:=λ b o q=>b9 _ (k1 b o q)
 have ne:∀ b o,s.heap.get? b=some o->b≠s.heap.objs.size+1:=λ b o q=>o0 (ud8 (j8 q))
 show p8 _ _ _ _ _ { s with heap:=g.push { cls:=.type "list",data:=.seq vs.toArray } }
 rw[sz]
 refine a9 (uav (ubf slot_list_sort ⟨_,hoL,rfl⟩ entry_list_sort ?_ (args_list_sort _)))
 refine lsort (s:={ s with heap:=g.push { cls:=.type "list",data:=.seq vs.toArray } }) (r:=r) (κ:=κ) hoL h64 (λ h2 s' Q' st q=>hk h2 _ s' Q' (λ b o e=>st b o (ne b o e) (k2 b o e)) q)
  (λ s' i j C st hi hj q=>hc _ s' i j C (λ b o e=>st b o (ne b o e) (k2 b o e)) hi hj q) λ p h' c g1 u1 st e=>⟨_,rfl,?_⟩
 exact j9 ⟨_,rfl,h p h' c g1 u1 (λ b o e=>st b o (ne b o e) (k2 b o e)) e⟩
def lexI:List Int->List Int->Bool
 | [],[]=>false
 | [],_::_=>true
 | _::_,[]=>false
 | x::xs,y::ys=>if x=y then lexI xs ys else decide (x<y)
theorem eI:∀ xs,lexI xs xs=false
 | []=>rfl
 | x::xs=>by show (if x=x then lexI xs xs else _)=false;rw[ugc rfl];exact eI xs
theorem dX:∀ xs ys zs,lexI xs ys=true->lexI ys zs=true->lexI xs zs=true
 | [],[],_,h,_=>by cases h
 | [],_::_,[],_,h=>by cases h
 | [],_::_,_::_,_,_=>rfl
 | _::_,[],_,h,_=>by cases h
 | _::_,_::_,[],_,h=>by cases h
 | x::xs,y::ys,z::zs,h1,h2=>by
  simp only [lexI] at h1 h2 ⊢
  by_cases e1:x=y
  ·subst e1
   rw[ugc rfl] at h1
   by_cases e2:x=z
   ·rw[ugc e2] at h2 ⊢;exact dX xs ys zs h1 h2
   ·rw[ugd e2] at h2 ⊢;exact h2
  ·rw[ugd e1] at h1
   have l1:x<y:=uga h1
   by_cases e2:y=z
   ·subst e2
    rw[ugd e1];exact h1
   ·rw[ugd e2] at h2
    have l2:y<z:=uga h2
    rw[ugd (by left)]
    exact uf9 (by left)
theorem eG:∀ xs ys zs,lexI xs zs=true->lexI xs ys=true\/lexI ys zs=true
 | [],[],_,h=>.inr h
 | [],_::_,_,_=>.inl rfl
 | _::_,_,[],h=>by cases h
 | _::_,[],_::_,_=>.inr rfl
 | x::xs,y::ys,z::zs,h=>by
  simp only [lexI] at h ⊢
  by_cases e:x=z
  ·subst e
   rw[ugc rfl] at h
   by_cases e1:x=y
   ·subst e1
    rw[ugc rfl,ugc rfl];exact eG xs ys zs h
   ·rw[ugd e1,ugd (Ne.symm e1)]
    by_cases l:x<y
    ·exact .inl (uf9 l)
    ·exact .inr (uf9 (by left))
  ·rw[ugd e] at h
   have l:x<z:=uga h
   by_cases e1:x=y
   ·subst e1
    rw[ugd e];exact .inr h
   ·by_cases e2:y=z
    ·subst e2
     rw[ugd e1];exact .inl h
    ·rw[ugd e1,ugd e2]
     by_cases l1:x<y
     ·exact .inl (uf9 l1)
     ·exact .inr (uf9 (by left))
theorem mD:∀ xs ys,lexI xs ys=false->lexI ys xs=false->xs=ys
 | [],[],_,_=>rfl
 | [],_::_,h,_=>by cases h
 | _::_,[],_,h=>by cases h
 | x::xs,y::ys,h1,h2=>by
  simp only [lexI] at h1 h2
  by_cases e:x=y
  ·subst e
   rw[ugc rfl] at h1 h2
   rw[mD xs ys h1 h2]
  ·rw[ugd e] at h1
   rw[ugd (Ne.symm e)] at h2
   have:=of_decide_eq_false h1
   have:=of_decide_eq_false h2
   exact absurd (by left) e
def TupI (h:Heap)(v:d7)(k:List Int):Prop:=∃ a o its n,v=.ref a/\h.get? a=some o/\o.cls=.type "tuple"/\o.data=.seq its n/\IntsAre its.toList k
theorem TupI.to {h h':Heap}{v:d7}{k:List Int}(t:TupI h v k)(e:∀ b o,h.get? b=some o->h'.get? b=some o):TupI h' v k :=
 let ⟨a,o,its,n,q1,q2,q3⟩:=t
 ⟨a,o,its,n,q1,e _ _ q2,q3⟩
theorem katI {C:Bool->d8->Prop}:∀ {xs ys:List d7}{k k':List Int}(i:Nat),IntsAre xs k->IntsAre ys k'->C (lexI k k') s->KatLex prog w A true (decide (k.length<k'.length)) C (xs.zip ys) i s
 | _,_,_,_,i,.nil,.nil,h=>h
 | _,_,_,_,i,.nil,.cons c u h',h=>by
  rw[List.zip_nil_left]
  refine kat_nil ?_
  rw[uf9 (by simp)]
  exact h
 | _,_,_,_,i,.cons a t h',.nil,h=>by
  rw[List.zip_nil_right]
  refine kat_nil ?_
  rw[ugb (by simp)]
  exact h
 | _,_,_,_,i,.cons a t (vs:=xs) (ns:=k) h1,.cons c u (vs:=ys) (ns:=k') h2,h=>by
  rw[ud0]
  refine kat_cons (wpAny_eqBool_int ?_)
  have ef:decide ((a::k).length<(c::k').length)=decide (k.length<k'.length):=by simp
  have hh:C (if a=c then lexI k k' else decide (a<c)) s:=h
  rw[ef]
  by_cases e:a=c
  ·rw[ugc e] at hh
   rw[show (a==c)=true by simpa using e]
   exact kat_yes (katI (i+1) h1 h2 hh)
  ·rw[ugd e] at hh
   rw[show (a==c)=false by simpa using e]
   refine kat_no ?_
   cases hi:(true&&i==0) with
   | true=>exact oneLt_int hh
   | false=>exact kat_one _ _ (lt_int hh)
theorem nF {vs:List d7}{ks:List (List Int)}(hk:Paired (TupI s.heap) vs ks){i j:Nat}{C:Bool->d8->Prop}(hi:i<vs.length)(hj:j<vs.length)(h:C (lexI (ks.getD i []) (ks.getD j [])) s):kas_ask prog w A (tuples' true) vs i j C s:=by
 have at_:∀ {vs:List d7}{ks:List (List Int)}(i:Nat),Paired (TupI s.heap) vs ks->i<vs.length->TupI s.heap (vs.getD i Value.none) (ks.getD i []):=by
  intro vs ks i p
  induction p generalizing i with
  | nil=>intro h;exact absurd h (by simp)
  | cons r t ih =>
   intro h
   cases i with
   | zero=>exact r
   | succ i=>exact ih i (by simpa using h)
 obtain⟨a,o,its,n,e1,q1,q2,q3,q4⟩:=at_ i hk hi
 obtain⟨a',o',its',n',e1',q1',q2',q3',q4'⟩:=at_ j hk hj
 unfold kas_ask
 rw[e1,e1']
 refine kat_lt q1 q3 q1' q3' ?_
 have l1:its.size=(ks.getD i []).length:=by have:=q4.length;simpa using this
 have l2:its'.size=(ks.getD j []).length:=by have:=q4'.length;simpa using this
 rw[l1,l2]
 exact katI 0 q4 q4' h
theorem lI {vs:List d7}{ks:List (List Int)}(hk:Paired (TupI s.heap) vs ks)(hne:∀ k∈ks,k≠[])(h2:2<=vs.length){Q:SortKind->d8->Prop}(h:Q (tuples' true) s):p8 (z9 prog w) A (keyKind' vs.toArray) Q E s:=by
 have mk:∀ {vs:List d7}{ks:List (List Int)},Paired (TupI s.heap) vs ks->(∀ k∈ks,k≠[])->∃ fs:List d7,KatTups s.heap vs fs/\fs.length=vs.length/\∀ f∈fs,∃ n t,f=.int n t:=by
  intro vs ks p
  induction p with
  | nil=>exact λ _=>⟨[],.nil,rfl,λ f hf=>nomatch hf⟩
  | cons r t ih =>
   intro hn
   obtain⟨fs,g1,g2,g3⟩:=ih λ k hk=>hn k (i9 _ hk)
   obtain⟨a,o,its,n,e1,q1,q2,q3,q4⟩:=r
   have hne:=hn _ i0
   subst e1
   cases hz:its.toList with
   | nil=>rw[hz] at q4;cases q4;exact absurd rfl hne
   | cons v r =>
    rw[hz] at q4
    obtain⟨m,tk,ev⟩:=q4.all v i0
    refine⟨v::fs,.cons q1 q2 q3 ?_ g1,by simp [g2],λ f hf=>?_⟩
    ·rw[← uek,hz];rfl
    ·rcases l7.mp hf with e | hf
     ·exact⟨m,tk,e.trans ev⟩
     ·exact g3 f hf
 obtain⟨fs,g1,g2,g3⟩:=mk hk hne
 refine kat_kind (T:=.type "int") g1 (by left) (λ v hv=>?_) (by symm) h
 obtain⟨m,tk,rfl⟩:=g3 v hv
 exact Looks.of_pure rfl
theorem oA {vs:List d7}{ns:List Int}(hk:IntsAre vs ns){i j:Nat}{C:Bool->d8->Prop}(hi:i<vs.length)(hj:j<vs.length)(h:C (decide (ns.getD i 0<ns.getD j 0)) s):kas_ask prog w A oneType' vs i j C s:=by
 have at_:∀ {vs:List d7}{ns:List Int}(i:Nat),IntsAre vs ns->i<vs.length->∃ t,vs.getD i Value.none=.int (ns.getD i 0) t:=by
  intro vs ns i p
  induction p generalizing i with
  | nil=>intro h;exact absurd h (by simp)
  | cons n t r ih =>
   intro h
   cases i with
   | zero=>exact⟨t,rfl⟩
   | succ i=>exact ih i (by simpa using h)
 obtain⟨t,e1⟩:=at_ i hk hi
 obtain⟨u,e2⟩:=at_ j hk hj
 unfold kas_ask
 rw[e1,e2]
 exact kat_lt_int h
theorem mK {vs:List d7}{ns:List Int}(hk:IntsAre vs ns)(h2:2<=vs.length){Q:SortKind->d8->Prop}(h:Q oneType' s):p8 (z9 prog w) A (keyKind' vs.toArray) Q E s:=by
 refine kas_kind (T:=.type "int") h2 (λ v hv=>?_) (by symm) (by symm) h
 obtain⟨m,tk,rfl⟩:=hk.all v hv
 exact Looks.of_pure rfl
end
end Srt
namespace Z3
open PySem
section
variable {prog:m9}{w:uaf}{A:v7}{E:d7->d8->Prop}{s:d8}
def SqAt (t:Bool)(h:Heap)(l:j7)(xs:Array d7):Prop:=if t=true then h.IsTuple l xs else h.IsList l xs
def ItAt (t:Bool)(h:Heap)(it l:j7)(i:Nat):Prop:=if t=true then h.IsTupleIter it l i else h.IsListIter it l i
def itObj (t:Bool)(l:j7):Obj:=if t=true then { cls:=.type "tuple_iterator",data:=.fields #[.ref l,.int 0 0] } else { cls:=.type "list_iterator",data:=.fields #[.ref l,.int 0 0] }
theorem SqAt.to {t:Bool}{h h':Heap}{l:j7}{xs:Array d7}(x:SqAt t h l xs)(e:∀ o,h.get? l=some o->h'.get? l=some o):SqAt t h' l xs:=by
 cases t with
 | true=>exact Heap.IsTuple.at (show h.IsTuple l xs from x) e
 | false=>exact Heap.IsList.at (show h.IsList l xs from x) e
theorem ItAt.to {t:Bool}{h h':Heap}{it l:j7}{i:Nat}(x:ItAt t h it l i)(e:∀ o,h.get? it=some o->h'.get? it=some o):ItAt t h' it l i:=by
 cases t with
 | true=>exact Heap.IsTupleIter.at (show h.IsTupleIter it l i from x) e
 | false=>exact Heap.IsListIter.at (show h.IsListIter it l i from x) e
theorem ItAt.obj {t:Bool}{h:Heap}{it l:j7}{i:Nat}(x:ItAt t h it l i):∃ o n,h.get? it=some o/\o.cls=.type n/\o.data=.fields #[.ref l,.int i 0]:=by
 cases t with
 | true=>obtain⟨o,a,b,c⟩:=(show h.IsTupleIter it l i from x);exact⟨o,_,a,b,c⟩
 | false=>obtain⟨o,a,b,c⟩:=(show h.IsListIter it l i from x);exact⟨o,_,a,b,c⟩
theorem ItAt.new {t:Bool}{h:Heap}{l:j7}:ItAt t (h.push (itObj t l)) h.objs.size l 0:=by
 cases t with
 | true=>exact⟨_,l4 _ rfl,rfl,rfl⟩
 | false=>exact⟨_,l4 _ rfl,rfl,rfl⟩
theorem eO {t:Bool}{l:j7}{xs:Array d7}{Q:d7->d8->Prop}(hl:SqAt t s.heap l xs)(h:Q (.ref s.heap.objs.size) { s with heap:=s.heap.push (itObj t l) }):p8 (z9 prog w) A (pyIter (.ref l)) Q E s:=by
 cases t with
 | true=>exact wpAny_pyIter_tuple hl h
 | false=>exact udg hl h
theorem xX {it l:j7}{i:Nat}{xs:Array d7}{x:d7}{Q:d7->d8->Prop}(hi:s.heap.IsTupleIter it l i)(hl:s.heap.IsTuple l xs)(hx:xs[i]?=some x)
  (h:∀ h',h'.IsTupleIter it l (i+1)->Heap.SameBut it s.heap h'->Q x { s with heap:=h' }):p8 (z9 prog w) A (Builtin.SmallTypes.nextOf (.ref it)) Q E s:=by
 obtain⟨o1,q1,q2,q3⟩:=id hi
 obtain⟨o2,q4,_,n2,q5⟩:=hl
 unfold Builtin.SmallTypes.nextOf
 refine a9 (ua5 (name:=u7 "__next__") hi.typeIs ucn (ubf ucn hi.typeIs uf3 ?_ (ufw _)))
 show p8 _ _ (field (.ref it) 0 >>= _) _ _ s
 refine a9 (uai q1 q3 (x:=.ref l) rfl ?_)
 show p8 _ _ (if (Value.ref l==Value.none)=true then _ else _) _ _ s
 rw[ugd (show ¬ ((Value.ref l==Value.none)=true) from m7)]
 show p8 _ _ (field (.ref it) 1 >>= _) _ _ s
 refine a9 (uai q1 q3 (x:=.int i 0) rfl ?_)
 show p8 _ _ (seqItems? (.ref l) >>= _) _ _ s
 refine a9 (uce q4 q5 ?_)
 simp only [uc7,hx]
 refine a9 (udn q1 q3 (by simp) (j9 ⟨x,rfl,j9 (h _ ?_ (uea ..))⟩))
 exact⟨_,ucf _ q1 (Obj.isFreed_of_fields (Obj.data_mapFields q3 _)),(Obj.cls_mapFields ..).trans q2,by rw[Obj.data_mapFields q3];simp [rawInt]⟩
theorem wS {it l:j7}{i:Nat}{xs:Array d7}{Q:d7->d8->Prop}(hh:A.handled=none)(hi:s.heap.IsTupleIter it l i)(hl:s.heap.IsTuple l xs)(hx:xs[i]?=none)
  (h:∀ h' e,ueb it s.heap h'->(∃ o,h'.get? e=some o/\o.cls=.type "StopIteration")->E (.ref e) { s with heap:=h' }):p8 (z9 prog w) A (Builtin.SmallTypes.nextOf (.ref it)) Q E s:=by
 obtain⟨o1,q1,q2,q3⟩:=id hi
 obtain⟨o2,q4,_,n2,q5⟩:=hl
 unfold Builtin.SmallTypes.nextOf
 refine a9 (ua5 (name:=u7 "__next__") hi.typeIs ucn (ubf ucn hi.typeIs uf3 ?_ (ufw _)))
 show p8 _ _ (field (.ref it) 0 >>= _) _ _ s
 refine a9 (uai q1 q3 (x:=.ref l) rfl ?_)
 show p8 _ _ (if (Value.ref l==Value.none)=true then _ else _) _ _ s
 rw[ugd (show ¬ ((Value.ref l==Value.none)=true) from m7)]
 show p8 _ _ (field (.ref it) 1 >>= _) _ _ s
 refine a9 (uai q1 q3 (x:=.int i 0) rfl ?_)
 show p8 _ _ (seqItems? (.ref l) >>= _) _ _ s
 refine a9 (uce q4 q5 ?_)
 simp only [uc7,hx]
 refine a9 (ue0 (a9 (udn q1 q3 (by simp) ?_)))
 show p8 _ _ (newExc (.type "StopIteration") [] >>= _) _ _ { s with heap:=_ }
 refine a9 (by
  simp only [newExc,newTuple]
  refine a9 (ubj ?_ (by size_fits))
  refine a9 (m:=firstArgMember _ _) (wpAny_of_eq (a:=Value.none) (by first | rfl | (simp only [firstArgMember];rfl)) ?_)
  refine ubj ?_ (by size_fits)
  simp only [raiseNew]
  refine a9 (wpAny_handled ?_)
  first | rw[show A.in1.handled=none from hh] | rw[hh]
  exact a9 (j9 (wpAny_throw (h _ _ (((uea ..).extBut.push _).push _) ⟨_,l4 _ rfl,rfl⟩))))
theorem gB {t:Bool}{it l:j7}{i:Nat}{xs:Array d7}{x:d7}{Q:d7->d8->Prop}(hi:ItAt t s.heap it l i)(hl:SqAt t s.heap l xs)(hx:xs[i]?=some x)
  (h:∀ h',ItAt t h' it l (i+1)->Heap.SameBut it s.heap h'->Q x { s with heap:=h' }):p8 (z9 prog w) A (Builtin.SmallTypes.nextOf (.ref it)) Q E s:=by
 cases t with
 | true=>exact xX hi hl hx h
 | false=>exact wpAny_nextOf_list_item hi hl hx h
theorem iL {t:Bool}{it l:j7}{i:Nat}{xs:Array d7}{Q:d7->d8->Prop}(hh:A.handled=none)(hi:ItAt t s.heap it l i)(hl:SqAt t s.heap l xs)(hx:xs[i]?=none)
  (h:∀ h' e,ueb it s.heap h'->(∃ o,h'.get? e=some o/\o.cls=.type "StopIteration")->E (.ref e) { s with heap:=h' }):p8 (z9 prog w) A (Builtin.SmallTypes.nextOf (.ref it)) Q E s:=by
 cases t with
 | true=>exact wS hh hi hl hx h
 | false=>exact wpAny_nextOf_list_end hh hi hl hx h
structure Zd (t1 t2:Bool)(h:Heap)(z TI TO i1 i2 l1 l2:j7)(f0:d7)(k:Nat):Prop where
 z:IsZip h z TI TO f0
 ti:IsPair h TI (.ref i1) (.ref i2)
 to:∃ a b,IsPair h TO a b
 a1:ItAt t1 h i1 l1 k
 a2:ItAt t2 h i2 l2 k
structure Ap (z TI TO i1 i2:j7):Prop where
 n1:TI≠z
 n2:TO≠z
 n3:i1≠z
 n4:i2≠z
 n5:TI≠TO
 n6:TI≠i1
 n7:TI≠i2
 n8:TO≠i1
 n9:TO≠i2
 n10:i1≠i2
def Out (z TI TO i1 i2 l:j7):Prop:=l≠z/\l≠TI/\l≠TO/\l≠i1/\l≠i2
theorem wL {t1 t2:Bool}{z TI TO i1 i2 l1 l2:j7}{k:Nat}{xs ys:Array d7}{x y:d7}{Q:d7->d8->Prop}(D:Ap z TI TO i1 i2)(o1:Out z TI TO i1 i2 l1)(o2:Out z TI TO i1 i2 l2)
  (Z:Zd t1 t2 s.heap z TI TO i1 i2 l1 l2 .none k) (hl1:SqAt t1 s.heap l1 xs) (hl2:SqAt t2 s.heap l2 ys) (hx:xs[k]?=some x) (hy:ys[k]?=some y)
  (hQ:∀ h',Zd t1 t2 h' z TI TO i1 i2 l1 l2 (rawInt s.heap.objs.size) (k+1)->IsPair h' s.heap.objs.size x y->h'.objs.size=s.heap.objs.size+1 ->
   (∀ c o,c≠z->c≠TO->c≠i1->c≠i2->s.heap.get? c=some o->h'.get? c=some o)->Q (.ref s.heap.objs.size) { s with heap:=h' }) :
  p8 (z9 prog w) A (Builtin.«zip.__next__» ⟨[.ref z],[]⟩) (λ fin s'=>∃ v,fin=.done (.ret v)/\Q v s') E s:=by
 obtain⟨hz,hti,⟨a,b,hto⟩,h1,h2⟩:=Z
 show p8 _ _ (field (.ref z) 2 >>= _) _ _ s
 refine a9 (uai hz rfl (x:=.bool false) rfl ?_)
 show p8 _ _ (field (.ref z) 3 >>= _) _ _ s
 refine a9 (uai hz rfl (x:=.ref TI) rfl ?_)
 refine a9 (uce hti rfl ?_)
 show p8 _ _ (Builtin.SmallTypes.ownedTupleIsFree (.ref z) >>= _) _ _ s
 refine a9 ?_
 unfold Builtin.SmallTypes.ownedTupleIsFree
 refine a9 (uai hz rfl (x:=.none) rfl (j9 ?_))
 simp only [if_true]
 refine a9 (ue0 ?_)
 refine a9 (uai hz rfl (x:=.ref TO) rfl ?_)
 refine a9 (uaz hz (by simp) λ g1 z1 e1=>?_)
 replace z1:IsZip g1 z TI TO .ellipsis:=z1
 refine a9 ?_
 simp only [List.zipIdx_cons,List.zipIdx_nil,ufr,List.forIn_nil]
 refine a9 (a9 (ueu ?_))
 show p8 _ _ (Builtin.SmallTypes.nextOf (.ref i1) >>= _) _ _ { s with heap:=g1 }
 refine a9 (gB (h1.to λ o e=>e1.extBut _ _ D.n3 e) (hl1.to λ o e=>e1.extBut _ _ o1.1 e) hx λ g2 a2 e2=>j9 ?_)
 have b2:IsPair g2 TO a b:=e2.extBut _ _ D.n8 (e1.extBut _ _ D.n2 hto)
 refine a9 (uce b2 rfl ?_)
 refine a9 (ue8 b2 λ g3 b3 e3=>?_)
 replace b3:IsPair g3 TO x b:=b3
 refine a9 (ufc (j9 ?_))
 refine a9 (a9 (ueu ?_))
 show p8 _ _ (Builtin.SmallTypes.nextOf (.ref i2) >>= _) _ _ { s with heap:=g3 }
 refine a9 (gB (h2.to λ o e=>e3.extBut _ _ D.n9.symm (e2.extBut _ _ D.n10.symm (e1.extBut _ _ D.n4 e))) (hl2.to λ o e=>e3.extBut _ _ o2.2.2.1 (e2.extBut _ _ o2.2.2.2.1 (e1.extBut _ _ o2.1 e))) hy λ g4 a4 e4=>j9 ?_)
 have b4:IsPair g4 TO x b:=e4.extBut _ _ D.n9 b3
 refine a9 (uce b4 rfl ?_)
 refine a9 (ue8 b4 λ g5 b5 e5=>?_)
 replace b5:IsPair g5 TO x y:=b5
 refine a9 (ufc (j9 (j9 ?_)))
 refine a9 (uce b5 rfl ?_)
 refine a9 (ufb ?_)
 have sz:g5.objs.size=s.heap.objs.size:=by rw[e5.1,e4.1,e3.1,e2.1,e1.1]
 have z5:IsZip g5 z TI TO .ellipsis:=e5.extBut _ _ D.n2.symm (e4.extBut _ _ D.n4.symm (e3.extBut _ _ D.n2.symm (e2.extBut _ _ D.n3.symm z1)))
 have k5:∀ c o,c≠z->c≠TO->c≠i1->c≠i2->s.heap.get? c=some o->g5.get? c=some o:=λ c o c1 c2 c3 c4 e =>
  e5.extBut _ _ c2 (e4.extBut _ _ c4 (e3.extBut _ _ c2 (e2.extBut _ _ c3 (e1.extBut _ _ c1 e))))
 have a15:ItAt t1 g5 i1 l1 (k+1):=a2.to λ o e=>e5.extBut _ _ D.n8.symm (e4.extBut _ _ D.n10 (e3.extBut _ _ D.n8.symm e))
 have a25:ItAt t2 g5 i2 l2 (k+1):=a4.to λ o e=>e5.extBut _ _ D.n9.symm e
 have zlt:z<g5.objs.size:=j8 z5
 show p8 _ _ (Builtin.SmallTypes.ownedTupleHandOut (.ref z) (.ref g5.objs.size) >>= _) _ _ { s with heap:=_ }
 refine a9 ?_
 unfold Builtin.SmallTypes.ownedTupleHandOut
 have z6:IsZip (g5.push { cls:=.type "tuple",data:=.seq #[x,y] }) z TI TO .ellipsis:=b9 _ z5
 refine a9 (uaz z6 (by simp) λ g7 z7 e7=>?_)
 replace z7:IsZip g7 z TI TO (rawInt g5.objs.size):=z7
 refine uaz z7 (by simp) λ g8 z8 e8=>?_
 replace z8:IsZip g8 z TI TO (rawInt g5.objs.size):=z8
 have up:∀ c o,c≠z->g5.get? c=some o->g8.get? c=some o:=λ c o c1 e=>e8.extBut _ _ c1 (e7.extBut _ _ c1 (b9 _ e))
 have t8:IsPair g8 g5.objs.size x y:=e8.extBut _ _ (uda zlt) (e7.extBut _ _ (uda zlt) (l4 _ rfl))
 have sz8:g8.objs.size=g5.objs.size+1:=by rw[e8.1,e7.1,ua0]
 rw[sz] at z8 t8 sz8
 refine j9 ⟨_,rfl,?_⟩
 show Q (.ref g5.objs.size) { s with heap:=g8 }
 rw[sz]
 exact hQ g8 ⟨z8,up _ _ D.n1 (k5 _ _ D.n1 D.n5 D.n6 D.n7 hti),⟨x,y,up _ _ D.n2 b5⟩,a15.to λ o e=>up _ o D.n3 e,a25.to λ o e=>up _ o D.n4 e⟩ t8 sz8 λ c o c1 c2 c3 c4 e=>up c o c1 (k5 c o c1 c2 c3 c4 e)
theorem wK {t1 t2:Bool}{z TI TO i1 i2 l1 l2:j7}{k:Nat}{xs ys:Array d7}{Q:Fin->d8->Prop}(hh:A.handled=none)(D:Ap z TI TO i1 i2)(o1:Out z TI TO i1 i2 l1)(o2:Out z TI TO i1 i2 l2)
  (Z:Zd t1 t2 s.heap z TI TO i1 i2 l1 l2 .none k) (hl1:SqAt t1 s.heap l1 xs) (hl2:SqAt t2 s.heap l2 ys) (hend:xs[k]?=none\/ys[k]?=none)
  (hE:∀ h' e,(∀ c o,c≠z->c≠TO->c≠i1->c≠i2->s.heap.get? c=some o->h'.get? c=some o)->(∃ o,h'.get? e=some o/\o.cls=.type "StopIteration")->E (.ref e) { s with heap:=h' }) :
  p8 (z9 prog w) A (Builtin.«zip.__next__» ⟨[.ref z],[]⟩) Q E s:=by
 obtain⟨hz,hti,⟨a,b,hto⟩,h1,h2⟩:=Z
 show p8 _ _ (field (.ref z) 2 >>= _) _ _ s
 refine a9 (uai hz rfl (x:=.bool false) rfl ?_)
 show p8 _ _ (field (.ref z) 3 >>= _) _ _ s
 refine a9 (uai hz rfl (x:=.ref TI) rfl ?_)
 refine a9 (uce hti rfl ?_)
 show p8 _ _ (Builtin.SmallTypes.ownedTupleIsFree (.ref z) >>= _) _ _ s
 refine a9 ?_
 unfold Builtin.SmallTypes.ownedTupleIsFree
 refine a9 (uai hz rfl (x:=.none) rfl (j9 ?_))
 simp only [if_true]
 refine a9 (ue0 ?_)
 refine a9 (uai hz rfl (x:=.ref TO) rfl ?_)
 refine a9 (uaz hz (by simp) λ g1 z1 e1=>?_)
 replace z1:IsZip g1 z TI TO .ellipsis:=z1
 refine a9 ?_
 simp only [List.zipIdx_cons,List.zipIdx_nil,ufr,List.forIn_nil]
 refine a9 (a9 (ueu ?_))
 show p8 _ _ (Builtin.SmallTypes.nextOf (.ref i1) >>= _) _ _ { s with heap:=g1 }
 cases hx:xs[k]? with
 | none =>
  refine a9 (iL hh (h1.to λ o e=>e1.extBut _ _ D.n3 e) (hl1.to λ o e=>e1.extBut _ _ o1.1 e) hx λ g2 e e2 he=>?_)
  obtain⟨oe,p1,p2⟩:=he
  have z2:IsZip g2 z TI TO .ellipsis:=e2 _ _ D.n3.symm z1
  have ez:e≠z:=λ q=>by subst q;rw[z2] at p1;cases p1;simp at p2
  exact uaz z2 (by simp) λ g3 _ e3=>hE g3 e (λ c o c1 _ c3 _ q=>e3.extBut _ _ c1 (e2 _ _ c3 (e1.extBut _ _ c1 q))) ⟨oe,e3.extBut _ _ ez p1,p2⟩
 | some x =>
  have hy:ys[k]?=none:=by
   rcases hend with q | q
   ·rw[hx] at q;cases q
   ·exact q
  refine a9 (gB (h1.to λ o e=>e1.extBut _ _ D.n3 e) (hl1.to λ o e=>e1.extBut _ _ o1.1 e) hx λ g2 a2 e2=>j9 ?_)
  have b2:IsPair g2 TO a b:=e2.extBut _ _ D.n8 (e1.extBut _ _ D.n2 hto)
  refine a9 (uce b2 rfl ?_)
  refine a9 (ue8 b2 λ g3 b3 e3=>?_)
  refine a9 (ufc (j9 ?_))
  refine a9 (a9 (ueu ?_))
  show p8 _ _ (Builtin.SmallTypes.nextOf (.ref i2) >>= _) _ _ { s with heap:=g3 }
  refine a9 (iL hh (h2.to λ o e=>e3.extBut _ _ D.n9.symm (e2.extBut _ _ D.n10.symm (e1.extBut _ _ D.n4 e))) (hl2.to λ o e=>e3.extBut _ _ o2.2.2.1 (e2.extBut _ _ o2.2.2.2.1 (e1.extBut _ _ o2.1 e))) hy λ g4 e e4 he=>?_)
  obtain⟨oe,p1,p2⟩:=he
  have z4:IsZip g4 z TI TO .ellipsis:=e4 _ _ D.n4.symm (e3.extBut _ _ D.n2.symm (e2.extBut _ _ D.n3.symm z1))
  have ez:e≠z:=λ q=>by subst q;rw[z4] at p1;cases p1;simp at p2
  exact uaz z4 (by simp) λ g5 _ e5=>hE g5 e (λ c o c1 c2 c3 c4 q=>e5.extBut _ _ c1 (e4 _ _ c4 (e3.extBut _ _ c2 (e2.extBut _ _ c3 (e1.extBut _ _ c1 q))))) ⟨oe,e5.extBut _ _ ez p1,p2⟩
theorem vM {t1 t2:Bool}{z TI TO i1 i2 l1 l2:j7}{k:Nat}{xs ys:Array d7}{x y:d7}{Q:Option d7->d8->Prop}(D:Ap z TI TO i1 i2)(o1:Out z TI TO i1 i2 l1)(o2:Out z TI TO i1 i2 l2)
  (Z:Zd t1 t2 s.heap z TI TO i1 i2 l1 l2 .none k) (hl1:SqAt t1 s.heap l1 xs) (hl2:SqAt t2 s.heap l2 ys) (hx:xs[k]?=some x) (hy:ys[k]?=some y)
  (hQ:∀ h',Zd t1 t2 h' z TI TO i1 i2 l1 l2 (rawInt s.heap.objs.size) (k+1)->IsPair h' s.heap.objs.size x y->h'.objs.size=s.heap.objs.size+1 ->
   (∀ c o,c≠z->c≠TO->c≠i1->c≠i2->s.heap.get? c=some o->h'.get? c=some o)->Q (some (.ref s.heap.objs.size)) { s with heap:=h' }) :
  p8 (z9 prog w) A (pyNext (.ref z)) Q E s:=by
 have hT:s.TypeIs (.ref z) "zip":=⟨_,Z.z,rfl⟩
 unfold pyNext
 exact a9 (uc6 (ua5 (name := u7 "__next__") hT uey (ubf uey hT F.entry_zip_next
     (wL D o1 o2 Z hl1 hl2 hx hy λ h' b1 b2 b3 b4=>j9 (hQ h' b1 b2 b3 b4)) (F.args_zip_next_1 _))))
theorem vL {t1 t2:Bool}{z TI TO i1 i2 l1 l2:j7}{k:Nat}{xs ys:Array d7}{Q:Option d7->d8->Prop}(hh:A.handled=none)(D:Ap z TI TO i1 i2)(o1:Out z TI TO i1 i2 l1)(o2:Out z TI TO i1 i2 l2)
  (Z:Zd t1 t2 s.heap z TI TO i1 i2 l1 l2 .none k) (hl1:SqAt t1 s.heap l1 xs) (hl2:SqAt t2 s.heap l2 ys) (hend:xs[k]?=none\/ys[k]?=none)
  (hQ:∀ h',(∀ c o,c≠z->c≠TO->c≠i1->c≠i2->s.heap.get? c=some o->h'.get? c=some o)->Q none { s with heap:=h' }):p8 (z9 prog w) A (pyNext (.ref z)) Q E s:=by
 have hT:s.TypeIs (.ref z) "zip":=⟨_,Z.z,rfl⟩
 unfold pyNext
 refine a9 (uc6 (ua5 (name := u7 "__next__") hT uey (ubf uey hT F.entry_zip_next
     (wK hh D o1 o2 Z hl1 hl2 hend λ h' e hk he=>?_) (F.args_zip_next_1 _))))
 obtain⟨o,p1,p2⟩:=he
 exact a9 (wpAny_isInstance (T:="StopIteration") (b:=true) ⟨o,p1,p2⟩ isSubtype_stop (j9 (hQ _ hk)))
abbrev zh1 (h:Heap)(t1:Bool)(l1:j7):Heap:=h.push (itObj t1 l1)
abbrev zh2 (h:Heap)(t1 t2:Bool)(l1 l2:j7):Heap:=(zh1 h t1 l1).push (itObj t2 l2)
abbrev zh3 (h:Heap)(t1 t2:Bool)(l1 l2:j7):Heap:=(zh2 h t1 t2 l1 l2).push { cls:=.type "tuple",data:=.seq #[.ref h.objs.size,.ref (zh1 h t1 l1).objs.size] }
abbrev zh4 (h:Heap)(t1 t2:Bool)(l1 l2:j7):Heap:=(zh3 h t1 t2 l1 l2).push { cls:=.type "tuple",data:=.seq #[.none,.none] }
abbrev zh5 (h:Heap)(t1 t2:Bool)(l1 l2:j7):Heap:=(zh4 h t1 t2 l1 l2).push { cls:=.type "zip",data:=.fields #[.none,.bool false,.bool false,.ref (zh2 h t1 t2 l1 l2).objs.size,.ref (zh3 h t1 t2 l1 l2).objs.size] }
theorem yY (t1 t2:Bool)(l1 l2:j7)(xs ys:Array d7) :
  Meets (Builtin.«zip.__new__» ⟨[.type "zip",.ref l1,.ref l2],[]⟩) (λ _ R s=>SqAt t1 s.heap l1 xs/\SqAt t2 s.heap l2 ys/\R (.ok (.ret (.ref (zh4 s.heap t1 t2 l1 l2).objs.size))) { s with heap:=zh5 s.heap t1 t2 l1 l2 }) :=
 .of_wp λ prog w A R s h=>by
  obtain⟨hp,g,d,tk,os⟩:=s;obtain⟨hl1,hl2,h⟩:=h
  have hsub:=sub_zip
  have b1:SqAt t1 (Shared.heap ⟨hp,g,d,tk,os⟩) l1 xs:=hl1
  have b2:SqAt t2 (Shared.heap ⟨hp.push (itObj t1 l1),g,d,tk,os⟩) l2 ys:=SqAt.to hl2 λ o e=>b9 _ e
  wp_walk using eO b1,eO b2
  exact⟨_,rfl,h⟩
theorem yI {t1 t2:Bool}{l1 l2:j7}{xs ys:Array d7}{Q:d7->d8->Prop}(hl1:SqAt t1 s.heap l1 xs)(hl2:SqAt t2 s.heap l2 ys)
  (h:∀ h',Zd t1 t2 h' (s.heap.objs.size+4) (s.heap.objs.size+2) (s.heap.objs.size+3) s.heap.objs.size (s.heap.objs.size+1) l1 l2 .none 0->h'.objs.size=s.heap.objs.size+5 ->
   (∀ c o,s.heap.get? c=some o->h'.get? c=some o)->Q (.ref (s.heap.objs.size+4)) { s with heap:=h' }) :
  p8 (z9 prog w) A (call (.type "zip") [.ref l1,.ref l2]) Q E s:=by
 refine callType_new F.called_zip (by decide) (F.typeCall_zip_2 _ _) (F.newCall_zip_2 _ _) (λ obj=>F.args_object_init_3 obj _ _) F.entry_zip_new (yY t1 t2 l1 l2 xs ys) ⟨hl1,hl2,?_⟩
 have z1:(zh1 s.heap t1 l1).objs.size=s.heap.objs.size+1:=ua0 ..
 have z2:(zh2 s.heap t1 t2 l1 l2).objs.size=s.heap.objs.size+2:=by rw[ua0,z1]
 have z3:(zh3 s.heap t1 t2 l1 l2).objs.size=s.heap.objs.size+3:=by rw[ua0,z2]
 have z4:(zh4 s.heap t1 t2 l1 l2).objs.size=s.heap.objs.size+4:=by rw[ua0,z3]
 have z5:(zh5 s.heap t1 t2 l1 l2).objs.size=s.heap.objs.size+5:=by rw[ua0,z4]
 have g5:(zh5 s.heap t1 t2 l1 l2).get? (zh4 s.heap t1 t2 l1 l2).objs.size=some _:=l4 _ rfl
 have g4:(zh5 s.heap t1 t2 l1 l2).get? (zh3 s.heap t1 t2 l1 l2).objs.size=some _:=b9 _ (l4 _ rfl)
 have g3:(zh5 s.heap t1 t2 l1 l2).get? (zh2 s.heap t1 t2 l1 l2).objs.size=some _:=b9 _ (b9 _ (l4 _ rfl))
 have g2:ItAt t2 (zh5 s.heap t1 t2 l1 l2) (zh1 s.heap t1 l1).objs.size l2 0:=(ItAt.new (t:=t2) (h:=zh1 s.heap t1 l1) (l:=l2)).to λ o e=>b9 _ (b9 _ (b9 _ e))
 have g1:ItAt t1 (zh5 s.heap t1 t2 l1 l2) s.heap.objs.size l1 0:=(ItAt.new (t:=t1) (h:=s.heap) (l:=l1)).to λ o e=>b9 _ (b9 _ (b9 _ (b9 _ e)))
 show _/\_
 rw[z2,z3,z4] at g5
 rw[z1,z2] at g3
 rw[z3] at g4
 rw[z1] at g2
 rw[z4]
 exact⟨⟨_,g5,rfl⟩,h _ ⟨g5,g3,⟨_,_,g4⟩,g1,g2⟩ z5 λ c o q=>b9 _ (b9 _ (b9 _ (b9 _ (b9 _ q))))⟩
theorem zbh (n:Nat):Ap (n+4) (n+2) (n+3) n (n+1):=by
 constructor <;> (show (_:Nat)≠(_:Nat)) <;> left
theorem nP {n l:Nat}(h:l<n):Out (n+4) (n+2) (n+3) n (n+1) l:=by
 refine⟨?_,?_,?_,?_,?_⟩ <;> (show (_:Nat)≠(_:Nat)) <;> left
end
end Z3
namespace U3
open PySem PyProof.Rows
section
variable {prog:m9}{w:uaf}{A:v7}{E:d7->d8->Prop}{s:d8}
theorem mO {it l:j7}{xs:Array d7}(hne:l≠it):∀ (n i:Nat)(s:d8)(Q:List d7->d8->Prop),s.heap.IsListIter it l i->s.heap.IsList l xs->i+n<=xs.size ->
  (∀ h',h'.IsListIter it l (i+n)->Heap.SameBut it s.heap h'->Q ((xs.toList.drop i).take n) { s with heap:=h' })->p8 (z9 prog w) A (draw (.ref it) n) Q E s
 | 0,i,s,Q,hi,_,_,h=>by
  show p8 _ _ (pure []) Q E s
  exact j9 (by simpa using h s.heap hi (Heap.SameBut.refl ..))
 | n+1,i,s,Q,hi,hl,hle,h=>by
  have lt:i<xs.size:=by left
  show p8 _ _ (pyNext (.ref it) >>= _) Q E s
  refine a9 (wpAny_pyNext_list_item hi hl (x:=xs[i]) (by simp [lt]) λ g1 i1 e1=>?_)
  refine a9 (uav (mO hne n (i+1) _ _ i1 (hl.extBut e1.extBut hne) (by left) λ g2 i2 e2=>j9 ?_))
  have hd:xs.toList.drop i=xs[i]::xs.toList.drop (i+1):=by simp [ucp,lt]
  have q:=h g2 (by rw[show i+(n+1)=i+1+n by left];exact i2) (e1.trans e2)
  rw[hd,List.take_succ_cons] at q
  exact q
theorem tQ {l:j7}{xs:Array d7}{targets:List (Bool × (d7->Sem Unit))}{Q:Unit->d8->Prop}(hh:A.handled=none)(hl:s.heap.IsList l xs)
  (hn:targets.length=xs.size) (hs:targets.findIdx? (·.1)=none)
  (h:∀ h',ueb s.heap.objs.size s.heap h'->p8 (z9 prog w) A (assignInOrder (targets.map (·.2)) xs.toList) Q E { s with heap:=h' }) :
  p8 (z9 prog w) A (unpack (.ref l) targets) Q E s:=by
 have ne:l≠s.heap.objs.size:=by obtain⟨o,ho,_⟩:=hl;exact o0 (j8 ho)
 unfold unpack
 rw[hn,hs]
 refine a9 (uav ?_)
 unfold unpackItems
 refine a9 ?_
 unfold notIterableAtAll
 refine a9 (wpAny_specialOf hl.typeIs slot_list_iter.lookup ?_)
 refine j9 ?_
 simp only [uaw,if_false]
 refine a9 (uav (udg hl ?_))
 refine a9 (uav (mO ne xs.size 0 _ _ ⟨_,l4 _ rfl,rfl,rfl⟩ (hl.push _) (by left) λ g1 i1 e1=>?_))
 have all:List.take xs.size (List.drop 0 xs.toList)=xs.toList:=by
  rw[List.drop_zero];exact uei (by simp)
 rw[all,ugd (by simp)]
 have l1:g1.IsList l xs:=(hl.push _).extBut e1.extBut ne
 refine a9 (uav (wpAny_pyNext_list_end hh i1 l1 (by simp) λ g2 e2=>?_))
 simp only [Option.isSome_none,uaw,if_false]
 exact j9 (h g2 λ b o hb e=>e2 b o hb (e1.extBut b o hb (b9 _ e)))
theorem assign_tuple_lst {env:Env}{elts:List ua9} {x1} {pos:Pos} {l:j7} {xs:Array d7} {Q:Unit->d8->Prop} (hh:A.handled=none) (hl:s.heap.IsList l xs)
  (hn:(assignEach elts env).length=xs.size) (hs:(assignEach elts env).findIdx? (·.1)=none)
  (h:∀ h',ueb s.heap.objs.size s.heap h'->p8 (z9 prog w) A (assignInOrder ((assignEach elts env).map (·.2)) xs.toList) Q E { s with heap:=h' }) :
  p8 (z9 prog w) A (assign (.Tuple elts x1 pos) env (.ref l)) Q E s:=by
 rw[assign_Tuple]
 exact a9 (ufk (tQ hh hl hn hs h))
end
end U3
namespace L3
open PySem PySem.Spec PyProof.Rows L2
abbrev Fls:d7->d8->Prop:=λ _ _=>False
abbrev testsOf (ifs:List ua9)(env:Env):Sem Bool :=
 forIn ifs true λ c r=>if r=true then do let ok ← isTrue c env (eval c env);pure (ForInStep.yield ok) else pure (ForInStep.yield r)
section
variable {prog:m9}{w:uaf}{A:v7}{R:Result->d8->Prop}{s:d8}
theorem uL {elt tg iter:ua9}{ifs:List ua9}{scope:ucd}{pos:Pos}{it acc:d7}{env:Env}(W:Nat->d8->Prop)
  (step:∀ n s,W n s->p8 (z9 prog w) A (pyNext it) (λ r s1=>(r=none/\R (.ok .next) s1)\/∃ v,r=some v /\
   p8 (z9 prog w) A (letOwnedTupleGo tg it v) (λ _ s2=>p8 (z9 prog w) A (assign tg env v) (λ _ s3 =>
    p8 (z9 prog w) A (testsOf ifs env) (λ ok s4=>if ok=true then p8 (z9 prog w) A (eval elt env) (λ x s5 =>
     p8 (z9 prog w) A (call (.builtin "list.append") [acc,x]) (λ _ s6=>∃ m,m<n/\W m s6) Fls s5) Fls s4 else ∃ m,m<n/\W m s4) Fls s3) Fls s2) Fls s1) Fls s)
  (n:Nat) (h:W n s):codeAny (z9 prog w) A (.compLoop (.ListComp elt [⟨tg,iter,ifs,0⟩] scope pos) 0 it acc env) R s:=by
 refine codeAny_loop rfl W (λ k s1 hk=>?_) n h
 show p8 _ A ((compTurn (.ListComp elt [⟨tg,iter,ifs,0⟩] scope pos) 0 it acc env).onRaise (λ x=>do noteFrame x env;theTreesLotGoes x)) _ _ s1
 refine wpAny_noted ?_
 rw[compTurn_list]
 refine a9 (ufk (a9 (ua1 (step k s1 hk) (λ r s2 h2=>?_) λ _ _ z=>z.elim)))
 rcases h2 with ⟨rfl,h2⟩ | ⟨v,rfl,h2⟩
 ·exact j9 h2
 ·refine a9 (ua1 h2 (λ _ s3 h3=>?_) λ _ _ z=>z.elim)
  refine a9 (ua1 h3 (λ _ s4 h4=>?_) λ _ _ z=>z.elim)
  refine a9 (ua1 h4 (λ ok s5 h5=>?_) λ _ _ z=>z.elim)
  cases ok with
  | false=>exact j9 ⟨rfl,h5⟩
  | true =>
   refine a9 (a9 (ua1 h5 (λ x s6 h6=>?_) λ _ _ z=>z.elim))
   refine a9 (ua1 h6 (λ _ s7 h7=>?_) λ _ _ z=>z.elim)
   exact j9 (j9 ⟨rfl,h7⟩)
end
def clOf (cells:List (Str × j7)):List (Str × NameKind)->List (Str × j7)->List (Str × j7)
 | [],cs=>cs
 | (n,k)::r,cs=>clOf cells r (if k=.free then (n,(cells.lookup n).getD 0)::cs else cs)
theorem mS {cells:List (Str × j7)}:∀ {names:List (Str × NameKind)}{cs:List (Str × j7)}{p:Str × j7},p∈clOf cells names cs->p∈cs\/((p.1,NameKind.free)∈names/\p.2=(cells.lookup p.1).getD 0)
 | [],_,_,h=>.inl h
 | (n,k)::r,cs,p,h=>by
  rcases mS (names:=r) h with q | ⟨q1,q2⟩
  ·by_cases hk:k=.free
   ·rw[ugc hk] at q
    rcases l7.mp q with e | q
    ·subst e;subst hk;exact .inr ⟨i0,rfl⟩
    ·exact .inl q
   ·rw[ugd hk] at q;exact .inl q
  ·exact .inr ⟨i9 _ q1,q2⟩
theorem mT {cells:List (Str × j7)}:∀ {names:List (Str × NameKind)}{cs:List (Str × j7)}{x:Str},((x,NameKind.free)∈names\/∃ c,(x,c)∈cs)->∃ c,(x,c)∈clOf cells names cs
 | [],_,_,h=>h.elim (λ z=>nomatch z) id
 | (n,k)::r,cs,x,h=>by
  refine mT (names:=r) ?_
  rcases h with h | ⟨c,h⟩
  ·rcases l7.mp h with e | h
   ·cases e
    exact .inr ⟨_,by rw[ugc rfl];exact i0⟩
   ·exact .inl h
  ·refine .inr ⟨c,?_⟩
   split
   ·exact i9 _ h
   ·exact h
theorem gQ {env:Env}:∀ (names:List (Str × NameKind))(cs:List (Str × j7)),(∀ y∈names,y.2=.free->∃ c,env.cells.lookup y.1=some c) ->
  (forIn names cs λ x r=>(match x with | (n,k)=>if (k==NameKind.free)=true then do let c ← cellOf env n;pure (ForInStep.yield ((n,c)::r)) else pure (ForInStep.yield r):Sem (ForInStep (List (Str × j7)))))=pure (clOf env.cells names cs)
 | [],cs,_=>rfl
 | (n,k)::r,cs,h=>by
  rw[ufr]
  by_cases hk:k=.free
  ·subst hk
   obtain⟨c,hc⟩:=h (n,.free) i0 rfl
   have e1:cellOf env n=pure c:=by unfold cellOf;rw[hc]
   have e2:clOf env.cells ((n,NameKind.free)::r) cs=clOf env.cells r ((n,c)::cs):=by
    show clOf env.cells r (if NameKind.free=NameKind.free then (n,(env.cells.lookup n).getD 0)::cs else cs)=_
    rw[ugc rfl,hc]
    rfl
   rw[e2,← gQ r ((n,c)::cs) λ y hy=>h y (i9 _ hy)]
   simp only [beq_self_eq_true,if_true,e1,pure_bind]
  ·have e2:clOf env.cells ((n,k)::r) cs=clOf env.cells r cs:=by
    show clOf env.cells r (if k=NameKind.free then _ else cs)=_
    rw[ugd hk]
   have hb:(k==NameKind.free)=false:=by simpa using hk
   rw[e2,← gQ r cs λ y hy=>h y (i9 _ hy)]
   simp only [hb,uaw,if_false,pure_bind]
theorem uM {scope:ucd}{env:Env}(h:∀ y∈scope.names,y.2=.free->∃ c,env.cells.lookup y.1=some c):closureFor scope env=pure (clOf env.cells scope.names []):=by
 have q:=gQ (env:=env) scope.names [] h
 unfold closureFor
 refine Eq.trans ?_ q
 first | rfl | simp
theorem jJ {env:Env}:∀ {names:List (Str × NameKind)}{x:Str},names.lookup x=some .free ->
  (names.map λ (n,k)=>if (k==NameKind.free&&env.scope.kind==.function&&env.kindOf n==some .cell) then (n,NameKind.cell) else (n,k)).lookup x=some .cell \/
  (names.map λ (n,k)=>if (k==NameKind.free&&env.scope.kind==.function&&env.kindOf n==some .cell) then (n,NameKind.cell) else (n,k)).lookup x=some .free
 | [],_,h=>by simp at h
 | (n,k)::r,x,h=>by
  have ih:=@jJ env r x
  rw[uaq]
  by_cases hx:(x==n)=true
  ·rw[uar,hx] at h
   have h':k=.free:=by simpa using h
   subst h'
   dsimp only
   split
   ·apply v8;rw[uar,hx]
   ·apply ufp;rw[uar,hx]
  ·have hx':(x==n)=false:=by simpa using hx
   rw[uar,hx'] at h
   dsimp only
   split
   ·rw[uar,hx'];exact ih h
   ·rw[uar,hx'];exact ih h
theorem jV {env:Env}:∀ {names:List (Str × NameKind)}{x:Str},(∀ y∈names,y.2≠.cell) ->
  ((names.map λ (n,k)=>if (k==NameKind.free&&env.scope.kind==.function&&env.kindOf n==some .cell) then (n,NameKind.cell) else (n,k)).lookup x=some .cell \/
  (names.map λ (n,k)=>if (k==NameKind.free&&env.scope.kind==.function&&env.kindOf n==some .cell) then (n,NameKind.cell) else (n,k)).lookup x=some .free)->(x,NameKind.free)∈names
 | [],_,_,h=>by simp at h
 | (n,k)::r,x,hc,h=>by
  rw[uaq] at h
  by_cases hx:(x==n)=true
  ·have e:x=n:=by simpa using hx
   subst e
   dsimp only at h
   by_cases hk:(k==NameKind.free&&env.scope.kind==.function&&env.kindOf x==some .cell)=true
   ·rw[ugc hk] at h
    have:k=.free:=by
     simp only [w8] at hk
     simpa using hk.1.1
    subst this
    exact i0
   ·rw[ugd hk,uar,hx] at h
    rcases h with h | h
    ·exact absurd (by simpa using h) (hc (x,k) i0)
    ·have:k=.free:=by simpa using h
     subst this
     exact i0
  ·have hx':(x==n)=false:=by simpa using hx
   refine i9 _ (jV (env:=env) (λ y hy=>hc y (i9 _ hy)) ?_)
   dsimp only at h
   split at h
   ·rw[uar,hx'] at h;exact h
   ·rw[uar,hx'] at h;exact h
def compOk (N:List Str)(sc0 scope:ucd)(fr:List Str)(js:List Nat):Bool :=
 decide (scope.kind=.function)&&(scope.names.all λ y=>decide (y.2≠.cell)&&(decide (y.2≠.free)||decide (sc0.names.lookup y.1=some .cell)||decide (sc0.names.lookup y.1=some .free)) &&
  (decide (y.2≠.local)||decide (scope.names.lookup y.1=some .local)))&&decide (fr.length=js.length) &&
 ((fr.zip js).all λ p=>decide (N[p.2]?=some p.1)&&decide (scope.names.lookup p.1=some .free)&&(decide (sc0.names.lookup p.1=some .cell)||decide (sc0.names.lookup p.1=some .free)))
def cxComp (X:Cx)(own fr:List Str)(scope:ucd)(fp:List j7)(pins:List (j7 × Obj))(s3:d8)(H3:Hp):Cx :=
 { X with N:=own++fr,s₀:=s3,H₀:=H3,env:=compEnvC scope (clOf X.env.cells scope.names []) s3.heap.objs.size X.env,outer:=X.stack,stack:=X.stack,ex:=fp,fn:=λ _=>false,pn:=X.pn++pins,xe:=Fls }
def PTs (X:Cx)(ifs:List ua9)(t:TT):Prop :=
 ∀ (pins:List (j7 × Obj))(s:d8)(σ:L2.St)(H:Hp)(Q:Bool->Hp->Prop),Inv X pins σ H s->t σ H Q->p8 (z9 X.prog X.w) X.A (testsOf ifs X.env) (TP X pins σ Q) X.xe s
def tTrue:TT:=λ _ H Q=>Q true H
theorem cV {X:Cx}:PTs X [] tTrue:=λ _ _ _ H _ I h=>wpAny_tests_nil ⟨H,I,h⟩
theorem iM {X:Cx}{c:ua9}{t:TT}(h:PT X c t):PTs X [c] t:=λ pins s σ H Q I q=>wpAny_tests_one (h pins s σ H Q I q)
def start3 (own:List Str)(js:List Nat)(σ:L2.St):L2.St:=o3 own.length none++js.map λ j=>(σ[j]?).join
def CompGo (own:List Str)(js:List Nat)(g:TG)(tt:TT)(te:TE)(σ:L2.St)(Q:VK)(J:It)(H1:Hp):Prop:=∀ D,H1 D=none->∃ W:Nat->Nat->List V->L2.St->Hp->Prop,
 (∃ m,W 0 m [] (start3 own js σ) (upd H1 D (.lst [])))/\∀ i m ys σ' H',W i m ys σ' H'->H' D=some (.lst ys) ->
  (J.stop i H'/\Q (.ref D) H')\/(J.go i H'/\∀ x H2,J.yld i H' x H2->g x σ' H2 λ σ3 H3=>tt σ3 H3 λ b H4 =>
   if b=true then te σ3 H4 λ v H5=>H5 D=some (.lst ys)/\ys.length<p9/\∃ m',m'<m/\W (i+1) m' (ys++[v]) σ3 (upd H5 D (.lst (ys++[v])))
   else H4 D=some (.lst ys)/\∃ m',m'<m/\W (i+1) m' ys σ3 H4)
def tComp (own:List Str)(js:List Nat)(wi:TI)(g:TG)(tt:TT)(te:TE):TE:=λ σ H Q=>wi σ H λ J H1=>CompGo own js g tt te σ Q J H1
section
variable {X:Cx}{elt tg iter:ua9}{ifs:List ua9}{scope sc0:ucd}{pos:Pos}{own fr N:List Str}{js:List Nat}{wi:TI}{g:TG}{tt:TT}{te:TE}
theorem vR {σ:L2.St}{js:List Nat}{k:Nat}{v:V}(e:(js.map λ j=>(σ[j]?).join)[k]?=some (some v)):∃ j,js[k]?=some j/\σ[j]?=some (some v):=by
 rw[o7] at e
 cases hj:js[k]? with
 | none=>rw[hj] at e;cases e
 | some j =>
  rw[hj] at e
  refine⟨j,rfl,?_⟩
  have e':(σ[j]?).join=some v:=by simpa using e
  cases hs:σ[j]? with
  | none=>rw[hs] at e';cases e'
  | some o=>rw[hs] at e';exact congrArg some e'
theorem xN {pins:List (j7 × Obj)}{σ:L2.St}{H3:Hp}{s3:d8}{fp:List j7}{h4:Heap}{t4:Nat}{m4:Str->Option d7}
  (hN:X.N=N) (hsc:X.env.scope=sc0) (hok:compOk N sc0 scope fr js=true) (I:Inv X pins σ H3 s3) (hf:∀ b∈fp,FpOk X pins H3 b) (hlt:∀ b∈fp,b<s3.heap.objs.size)
  (k:∀ b o,s3.heap.get? b=some o->h4.get? b=some o) (hns:h4.Ns s3.heap.objs.size m4):Inv (cxComp X own fr scope fp pins s3 H3) [] (start3 own js σ) H3 { s3 with heap:=h4,toks:=t4 }:=by
 subst hN hsc
 unfold compOk at hok
 simp only [w8,decide_eq_true_eq,uad] at hok
 obtain⟨⟨⟨hk,hall⟩,hlen⟩,hfr⟩:=hok
 have hfree:∀ y∈scope.names,y.2=.free->∃ c,X.env.cells.lookup y.1=some c:=λ y hy e=>by
  have q:=(hall y hy).1.2
  simp only [ufs,decide_eq_true_eq] at q
  rcases q with (q | q) | q
  ·exact absurd e q
  ·exact I.ok.has y.1 (.inl q)
  ·exact I.ok.has y.1 (.inr q)
 have hcl:∀ x c,(clOf X.env.cells scope.names []).lookup x=some c->X.env.cells.lookup x=some c:=λ x c e=>by
  rcases mS (uae e) with z | ⟨z1,z2⟩
  ·exact absurd z (by simp)
  ·obtain⟨c',hc'⟩:=hfree _ z1 rfl
   have hc'':X.env.cells.lookup x=some c':=hc'
   have z2':c=(X.env.cells.lookup x).getD 0:=z2
   rw[hc''] at z2' ⊢
   simp at z2'
   rw[z2']
 have hasC:∀ x,(x,NameKind.free)∈scope.names->∃ c,(clOf X.env.cells scope.names []).lookup x=some c:=λ x hx=>by
  obtain⟨c,hc⟩:=mT (cells:=X.env.cells) (cs:=[]) (.inl hx)
  cases q:(clOf X.env.cells scope.names []).lookup x with
  | some c'=>exact⟨c',rfl⟩
  | none =>
   have:∀ (l:List (Str × j7)),(x,c)∈l->l.lookup x≠none:=λ l=>by
    induction l with
    | nil=>intro z;cases z
    | cons p r ih =>
     intro z
     obtain⟨p1,p2⟩:=p
     rw[uar]
     rcases l7.mp z with z | z
     ·cases z
      simp
     ·split
      ·simp
      ·exact ih z
   exact absurd q (this _ hc)
 have hcell:∀ y∈scope.names,y.2≠.cell:=λ y hy=>(hall y hy).1.1
 have sz:X.base.objs.size<=s3.heap.objs.size:=w6 I.ok.bsz I.sz
 refine⟨⟨I.ok.mod,hk,I.ok.glob,I.ok.blt,i7 _,λ x y c e1 e2=>I.ok.inj x y c (hcl x c e1) (hcl y c e2),λ x hx=>hasC x (jV hcell hx),λ x c z=>absurd z (by simp [cxComp]),
  I.ok.hd,I.ok.frames,.inl rfl,λ b hb=>⟨o0 (hlt b hb),λ x c e=>(hf b hb).2.2.2.2.1 x c (hcl x c e)⟩,I.bs,sz,λ b o e hb=>?_,λ b hb z=>?_,I.stack,I.stkFree⟩,
  rfl,I.bare,Un.kept k,⟨m4,hns,λ i x v e1 e2 e3=>?_⟩,λ x c e=>?_,I.hok.fresh (i7 _),λ x c e=>I.freeC x c (hcl x c e),λ p hp=>?_,I.hok.kept k,?_⟩
 ·obtain⟨_,_,_,f3,_⟩:=hf b hb
  rcases f3 with f3 | f3
  ·exact I.ok.noex b o e f3
  ·exact absurd (o8 (j8 e) (w6 I.ok.bsz f3)) (ubh _)
 ·obtain⟨_,f1,f2,_⟩:=hf b hb
  rcases l7.mp (I.stkSub b z) with z | z
  ·exact f1 z
  ·exact f2 z
 ·have e2':(o3 own.length (none:Option V)++js.map λ j=>(σ[j]?).join)[i]?=some (some v):=e2
  have e1':(own++fr)[i]?=some x:=e1
  by_cases hi:i<own.length
  ·rw[r6 (by simpa using hi),ucu,ugc hi] at e2'
   cases e2'
  ·rw[p5 (by simpa using hi),v5] at e2'
   rw[p5 (by left)] at e1'
   obtain⟨j,hj,hv⟩:=vR e2'
   have hz:(fr.zip js)[i-own.length]?=some (x,j):=by
    rw[ufy]
    exact⟨e1',hj⟩
   have q:=hfr _ (m3 hz)
   obtain⟨⟨q1,q2⟩,q3⟩:=q
   have q3'':X.env.scope.names.lookup x=some .cell\/X.env.scope.names.lookup x=some .free:=by simpa using q3
   have q3':X.env.kindOf x=some .cell\/X.env.kindOf x=some .free:=q3''
   obtain⟨m,hn,hl⟩:=I.loc
   obtain⟨u,r,l⟩:=hl j x v q1 hv (q3'.elim (λ z=>.inr (.inl z)) λ z=>.inr (.inr z))
   refine⟨u,r,.inr ⟨jJ q2,?_⟩⟩
   rcases l with ⟨z,_⟩ | ⟨_,c,hc,hcellv⟩
   ·rcases q3' with w | w <;> (rw[z] at w;cases w)
   ·obtain⟨c',hc'⟩:=hasC x (uae q2)
    have e:=hcl x c' hc'
    rw[hc] at e
    cases e
    obtain⟨o,ho,hd⟩:=hcellv
    exact⟨c,hc',o,k c o ho,hd⟩
 ·obtain⟨v,o,ho,hd⟩:=I.cell x c (hcl x c e)
  exact⟨v,o,k c o ho,hd⟩
 ·have hp':p∈X.pn++pins:=by
   have:p∈(X.pn++pins)++([]:List (j7 × Obj)):=hp
   simpa using this
  obtain⟨a,b,c,d,f⟩:=I.pin p hp'
  refine⟨k _ _ a,b,o0 (j8 a),λ z=>?_,f⟩
  rcases l7.mp (I.stkSub p.1 z) with z | z
  ·exact c z
  ·exact d z
 ·show (o3 own.length (none:Option V)++js.map λ j=>(σ[j]?).join).length=(own++fr).length
  simp [hlen]
theorem kU {pins:List (j7 × Obj)}{s:d8}{σ:L2.St}{H:Hp}{Q:VK}{use:Option (d7->Sem Unit)}{Qo:d7->d8->Prop}{cpos:Pos}
  (hc:X.calm=true) (hi:PI X tg iter wi) (hg:∀ fp pins s3 H3,PG (cxComp X own fr scope fp pins s3 H3) tg g) (ht:∀ fp pins s3 H3,PTs (cxComp X own fr scope fp pins s3 H3) ifs tt)
  (he:∀ fp pins s3 H3,PE (cxComp X own fr scope fp pins s3 H3) elt te) (hok:compOk N sc0 scope fr js=true) (hN:X.N=N) (hsc:X.env.scope=sc0)
  (hs:∀ x,foldedSetIterable iter X.env x=pure x) (I:Inv X pins σ H s) (h:tComp own js wi g tt te σ H Q)
  (fin:∀ (C D:j7)(s6:d8)(H6:Hp)(m6:Str->Option d7),Inv X pins σ H6 s6->FpOk X pins H6 C->s6.heap.Ns C m6->Q (.ref D) H6->compPost (z9 X.prog X.w) X.A X.xe use Qo (.ref D) C (.ok .next) s6) :
  p8 (z9 X.prog X.w) X.A (comprehension (.ListComp elt [⟨tg,iter,ifs,0⟩] scope pos) scope X.env cpos (newList []) false (eval iter X.env) use) Qo X.xe s:=by
 have hok':=hok
 unfold compOk at hok'
 simp only [w8,decide_eq_true_eq,uad] at hok'
 obtain⟨⟨⟨hk,hall⟩,hlen⟩,hfr⟩:=hok'
 have hcell:∀ y∈scope.names,y.2≠.cell:=λ y hy=>(hall y hy).1.1
 have hloc:∀ y∈scope.names,y.2=.local->scope.names.lookup y.1=some .local:=λ y hy e=>by
  have q:=(hall y hy).2
  simp only [ufs,decide_eq_true_eq] at q
  rcases q with q | q
  ·exact absurd e q
  ·exact q
 have hfree:∀ y∈scope.names,y.2=.free->∃ c,X.env.cells.lookup y.1=some c:=λ y hy e=>by
  have q:=(hall y hy).1.2
  simp only [ufs,decide_eq_true_eq] at q
  rw[← hsc] at q
  rcases q with (q | q) | q
  ·exact absurd e q
  ·exact I.ok.has y.1 (.inl q)
  ·exact I.ok.has y.1 (.inr q)
 refine wpAny_comprehension_free (use:=use) rfl hs (uM hfree) hk hloc (thn (hi pins s σ H _ I h) λ v s1 h1=>thn h1 λ itv s2 h2=>?_)
 obtain⟨it,fp,tn,J,H2,e,I2,T,st2,f2,rd⟩:=h2
 subst e
 have hD2:H2 s2.heap.objs.size=none:=I2.fresh
 obtain⟨W,⟨m0,w0⟩,turn⟩:=rd s2.heap.objs.size hD2
  -- the new list
 refine udy ?_ (uac _)
 have I3:Inv X pins σ (upd H2 s2.heap.objs.size (.lst [])) { s2 with heap:=s2.heap.push { cls:=.type "list",data:=.seq ([]:List d7).toArray } }:=I2.lnew (t':=s2.toks) .nil (uac _)
 generalize hs3:({ s2 with heap:=s2.heap.push { cls:=.type "list",data:=.seq ([]:List d7).toArray } }:d8)=s3 at I3
 generalize hD:s2.heap.objs.size=D at *
 have fpl:∀ b∈fp,b<D:=λ b hb=>by
  obtain⟨o,ho,_⟩:=T.obj _ _ st2 b hb
  rw[← hD];exact j8 ho
 have k23:∀ b o,s2.heap.get? b=some o->s3.heap.get? b=some o:=λ b o e=>by rw[← hs3];exact b9 _ e
 have hD3:s3.heap.objs.size=D+1:=by rw[← hs3,← hD];exact ua0 ..
 have f3:∀ b∈fp,FpOk X pins (upd H2 D (.lst [])) b:=λ b hb=>by
  obtain⟨f0,f⟩:=f2 b hb
  exact⟨by rw[aD (o0 (fpl b hb))];exact f0,f⟩
 refine ue9 hcell (by intro y hy;simp at hy) (λ h4 hns4 hsb4=>?_) hk
 have k34:∀ b o,s3.heap.get? b=some o->h4.get? b=some o:=λ b o e=>hsb4.extBut b o (o0 (j8 e)) (b9 _ e)
 have I4:=xN (own:=own) (t4:=s3.toks+([]:List (Str × d7)).length) hN hsc hok I3 f3 (λ b hb=>o8 (fpl b hb) (by rw[hD3];exact uci _)) k34 hns4
 have tn4:tn 0 h4:=T.keep 0 s2.heap h4 st2 λ b hb o e=>k34 b o (k23 b o e)
 have I4o:=I4.ok
 have fpS:∀ {H'':Hp},(∀ b∈fp,H'' b=none)->∀ b∈fp,FpOk (cxComp X own fr scope fp pins s3 (upd H2 D (.lst []))) [] H'' b:=λ hn b hb =>
  ⟨hn b hb,(I4o.exf b hb).1,I4o.exfs b hb,.inl hb,(I4o.exf b hb).2,λ p hp=>(f2 b hb).2.2.2.2.2 p (by
   have:p∈(X.pn++pins)++([]:List (j7 × Obj)):=hp
   simpa using this)⟩
 have loop : codeAny (z9 X.prog X.w) X.A (.compLoop (.ListComp elt [⟨tg, iter, ifs, 0⟩] scope pos) 0 (.ref it) (.ref D) (compEnvC scope (clOf X.env.cells scope.names []) s3.heap.objs.size X.env))
     (compPost (z9 X.prog X.w) X.A X.xe use Qo (.ref D) s3.heap.objs.size) { s3 with heap:=h4,toks:=s3.toks+([]:List (Str × d7)).length }:=by
  refine uL (λ n s'=>∃ i ys σ' H',Inv (cxComp X own fr scope fp pins s3 (upd H2 D (.lst []))) [] σ' H' s'/\tn i s'.heap/\(∀ b∈fp,H' b=none)/\H' D=some (.lst ys)/\W i n ys σ' H')
   ?step m0 ⟨0,[],_,_,I4,tn4,λ b hb=>(f3 b hb).1,aH,w0⟩
  rintro n s5 ⟨i,ys,σ5,H5,I5,tn5,fr5,d5,w5⟩
  rcases turn i n ys σ5 H5 w5 d5 with ⟨stop,q⟩ | ⟨go,stp⟩
  ·refine thn (T.done (cxComp X own fr scope fp pins s3 (upd H2 D (.lst []))) rfl rfl rfl hc i [] s5 σ5 H5 Fls I5 (fpS fr5) tn5 stop) λ r s6 ⟨hr,I6⟩=>.inl ⟨hr,?_⟩
   obtain⟨m6,hn6,_⟩:=id I6.loc
   have u1:Un (frs X.stack) fp H2 H5 s2.heap s6.heap:=(Un.laid k23 (ubl hD) hD2).trans I6.base
   have fC:H5 s3.heap.objs.size=none:=I6.free
   have IX:Inv X pins σ H5 s6:=I2.call' (s':=s6) (ch:=fp) (by
    have:=I6.os
    rw[← hs3] at this
    exact this) u1 I6.hok I6.bare λ b hb=>by
     obtain⟨_,g1,_,g3,g4,g5⟩:=f2 b hb
     exact⟨g3,g1,g4,g5⟩
   exact fin s3.heap.objs.size D s6 H5 m6 IX (I2.fpOk (by rw[hD3,hD];exact uci _) fC) hn6 q
  ·refine thn (T.item (cxComp X own fr scope fp pins s3 (upd H2 D (.lst []))) rfl rfl rfl hc i [] s5 σ5 H5 Fls I5 (fpS fr5) tn5 go) λ r s6 ⟨u,hr,h6⟩=>.inr ⟨u,hr,thn h6 λ _ s7 ⟨x,H7,I7,r7,y7,tn7,fr7⟩=>?_⟩
   have I7':=I7.pinned (fpS fr7) (T.obj _ _ tn7)
   refine thn (hg fp pins s3 (upd H2 D (.lst [])) _ s7 σ5 H7 x u _ I7' r7 (stp x H7 y7)) λ _ s8 ⟨σ8,H8,I8,q8⟩=>?_
   refine thn (ht fp pins s3 (upd H2 D (.lst [])) _ s8 σ8 H8 _ I8 q8) λ ok s9 ⟨H9,I9,q9⟩=>?_
   have back:∀ {σ':L2.St}{H':Hp}{s':d8},Inv (cxComp X own fr scope fp pins s3 (upd H2 D (.lst []))) ([]++pinsAt fp s7.heap) σ' H' s'->tn (i+1) s'.heap/\∀ b∈fp,H' b=none:=λ {σ' H' s'} J=>by
    refine⟨T.keep _ _ _ tn7 λ b hb o e=>(J.pin (b,o) (l8 _ (l8 _ (eZ hb e)))).1,λ b hb=>?_⟩
    obtain⟨o,e,_⟩:=T.obj _ _ tn7 b hb
    exact (J.pin (b,o) (l8 _ (l8 _ (eZ hb e)))).2.1
   cases ok with
   | false =>
    rw[ugd m7] at q9
    obtain⟨d9,m',hm,w9⟩:=q9
    rw[ugd m7]
    exact⟨m',hm,i+1,ys,σ8,H9,I9.unpinned,(back I9).1,(back I9).2,d9,w9⟩
   | true =>
    rw[ugc rfl] at q9 ⊢
    refine thn (he fp pins s3 (upd H2 D (.lst [])) _ s9 σ8 H9 _ I9 q9) λ xv s10 ⟨v,H10,I10,r10,d10,len,m',hm,w10⟩=>?_
    refine thn (fI (X:=cxComp X own fr scope fp pins s3 (upd H2 D (.lst []))) _ s10 σ8 H10 (.ref D) [v] (.ref D) [xv] (λ _ H'=>H'=upd H10 D (.lst (ys++[v]))) I10 rfl (.cons r10 .nil) ⟨D,ys,v,rfl,rfl,d10,len,rfl⟩) λ _ s11 ⟨_,H11,I11,_,e11⟩=>?_
    subst e11
    exact⟨m',hm,i+1,ys++[v],σ8,_,I11.unpinned,(back I11).1,(back I11).2,aH,w10⟩
 exact codeAny_compStart_list loop (T.self X.A 0 _ _ _ tn4 loop)
theorem cK (hc:X.calm=true)(hi:PI X tg iter wi)(hg:∀ fp pins s3 H3,PG (cxComp X own fr scope fp pins s3 H3) tg g)(ht:∀ fp pins s3 H3,PTs (cxComp X own fr scope fp pins s3 H3) ifs tt)
  (he:∀ fp pins s3 H3,PE (cxComp X own fr scope fp pins s3 H3) elt te) (hok:compOk N sc0 scope fr js=true:=by symm) (hN:X.N=N:=by rfl) (hsc:X.env.scope=sc0:=by rfl)
  (hs:∀ x,foldedSetIterable iter X.env x=pure x:=by intro _;rfl):PE X (.ListComp elt [⟨tg,iter,ifs,0⟩] scope pos) (tComp own js wi g tt te):=by
 intro pins s σ H Q I h
 rw[eval_ListComp]
 refine kU hc hi hg ht he hok hN hsc hs I h λ C D s6 H6 m6 I6 f6 n6 q6=>⟨m6,n6,λ h7 sb=>⟨.ref D,H6,?_,rfl,q6⟩⟩
 obtain⟨f0,f1,_,f3,f4,f5⟩:=f6
 exact I6.turned (it:=C) (t':=s6.toks) (λ b o hb e=>sb.extBut b o hb e) f0 f1 f3 f4 f5
theorem tX {i:Nat}{y:Str}{py spos:Pos}(hc:X.calm=true)(hi:PI X tg iter wi)(hg:∀ fp pins s3 H3,PG (cxComp X own fr scope fp pins s3 H3) tg g)(ht:∀ fp pins s3 H3,PTs (cxComp X own fr scope fp pins s3 H3) ifs tt)
  (he:∀ fp pins s3 H3,PE (cxComp X own fr scope fp pins s3 H3) elt te) (hNd:X.N.Nodup) (hy:X.N[i]?=some y) (hx:Loc X.env.scope y) (hok:compOk N sc0 scope fr js=true:=by symm) (hN:X.N=N:=by rfl) (hsc:X.env.scope=sc0:=by rfl)
  (hsw:swapsWith (.ListComp elt [⟨tg,iter,ifs,0⟩] scope pos) (some (.Name y py)) spos.line X.env=pure true:=by rfl) (hf:X.fn y=true\/X.env.scope.names.lookup y=some .local:=by first | exact .inl rfl | exact .inr rfl | assumption)
  (hs:∀ x,foldedSetIterable iter X.env x=pure x:=by intro _;rfl):PS X (.Assign [.Name y py] (.ListComp elt [⟨tg,iter,ifs,0⟩] scope pos) spos) (tAsg (tComp own js wi g tt te) (gName i)):=by
 intro pins s σ H D I h
 rw[exec_Assign_Name_used _ _ _ _ hsw]
 refine a9 (ufk (a9 ?_))
 show p8 _ _ (do let _ ← comprehension (.ListComp elt [⟨tg,iter,ifs,0⟩] scope pos) scope X.env _ (newList []) false (eval iter X.env) (some (assign (.Name y py) X.env))) _ _ s
 refine a9 (ua1 (kU (use:=some (assign (.Name y py) X.env)) (Qo:=λ _ s'=>SP X pins D .next s') hc hi hg ht he hok hN hsc hs I h λ C L s6 H6 m6 I6 f6 n6 q6=>?_) (λ _ s' q=>j9 (j9 q)) λ _ _ z=>z)
 obtain⟨f0,f1,f2,f3,f4,f5⟩:=f6
 show p8 _ _ (assign (.Name y py) X.env (.ref L)) _ _ s6
 refine wpAny_assign_Name (kE I6 hNd hy hx (v:=.ref L) rfl (λ s7 I7 ⟨a,sb,ha⟩=>?_) hf)
 have ne:C≠a:=by
  rcases ha with e | e
  ·rw[e];exact f1
  ·exact λ z=>f4 y a e z.symm
 refine⟨m6,n6.sameBut sb ne,λ h8 sb8=>⟨σ.set i (some (.ref L)),H6,?_,q6⟩⟩
 exact I7.turned (it:=C) (t':=s7.toks) (λ b o hb e=>sb8.extBut b o hb e) f0 f1 f3 f4 f5
end
section
variable {X:Cx}{pins:List (j7 × Obj)}{σ:L2.St}{H H':Hp}{s:d8}{h':Heap}{ch:List j7}{t':Nat}
theorem turnsTo (I:Inv X pins σ H s)(hf:∀ b∈ch,FpOk X pins H b)(k:∀ b o,b∉ch->s.heap.get? b=some o->h'.get? b=some o)(hH:∀ b u,H b=some u->H' b=some u)
  (hfree:∀ b o,s.heap.get? b=some o->H b=none->H' b=none) (hok:HOk X.prog X.w H' h'):Inv X pins σ H' { s with heap:=h',toks:=t' }:=by
 refine I.step (g':=s.gens) (d':=s.drawn) (ch:=ch) (λ b hb=>?_) (λ b o _ _ hc e _=>k b o hc e) (λ b o _ _ hc e _=>⟨o.slots,k b o hc e⟩) (λ b o _ e n=>hfree b o e n) (λ b o hc e=>⟨o,k b o hc e⟩)
  (λ b xs e=>hH _ _ e) (λ b o u e=>hH _ _ e) (λ b ps e=>⟨#[],by rw[hH _ _ e];simp⟩) (λ m hm=>?_) hok I.bare
 ·obtain⟨_,f1,_,f3,f4,f5⟩:=hf b hb
  exact⟨f3,f1,f4,f5⟩
 ·obtain⟨o,es,ep,ho,r⟩:=hm
  exact⟨o,es,ep,k _ o (λ z=>(hf _ z).2.1 rfl) ho,r⟩
theorem turns (I:Inv X pins σ H s)(hf:∀ b∈ch,FpOk X pins H b)(k:∀ b o,b∉ch->s.heap.get? b=some o->h'.get? b=some o):Inv X pins σ H { s with heap:=h',toks:=t' }:=by
 refine turnsTo I hf k (λ _ _ e=>e) (λ _ _ _ n=>n) λ b u e=>?_
 refine (I.hok b u e).stay (λ c v hc q=>k c v (λ z=>?_) q) (λ _ q=>q) λ _ _ q=>q
 have n:=(hf c z).1
 rcases hc with rfl | hc
 ·rw[n] at e;cases e
 ·rw[n] at hc;cases hc
theorem turnsTup {xs:List V}{its:List d7}{T:j7}(I:Inv X pins σ H s)(hf:∀ b∈ch,FpOk X pins H b)(k:∀ b o,b∉ch->s.heap.get? b=some o->h'.get? b=some o)(hT:s.heap.objs.size<=T)
  (hz:xs.length<=p9) (hv:Vals xs its) (ht:TupN h' T its.toArray):Inv X pins σ (upd H T (.tup xs)) { s with heap:=h',toks:=t' }:=by
 have fr:H T=none:=I.hok.fresh hT
 have ne:∀ b u,H b=some u->b≠T:=λ b u e=>aT e fr
 refine turnsTo I hf k (λ b u e=>by rw[aD (ne b u e)];exact e) (λ b o e n=>by rw[aD (o0 (o8 (j8 e) hT))];exact n) λ b u e=>?_
 by_cases hb:b=T
 ·subst hb
  rw[aH] at e
  cases e
  exact⟨hz,its,hv,ht⟩
 ·rw[aD hb] at e
  refine (I.hok b u e).stay (λ c v hc q=>k c v (λ z=>?_) q) (λ c q=>by rw[aD (ne c _ q)];exact q) λ c ys q=>by rw[aD (ne c _ q)];exact q
  have n:=(hf c z).1
  rcases hc with rfl | hc
  ·rw[n] at e;cases e
  ·rw[n] at hc;cases hc
end
def SqX (t:Bool)(K:a8)(H:Hp)(a:j7)(xs:List V):Prop:=if t=true then SqT K H a xs else SqL K H a xs
section
variable {X:Cx}{pins:List (j7 × Obj)}{σ:L2.St}{H:Hp}{s:d8}{a:j7}{xs ys:List V}{t:Bool}
theorem seqX (I:Inv X pins σ H s)(h:SqX t X.K H a xs):∃ its:List d7,Vals xs its/\Z3.SqAt t s.heap a its.toArray/\xs.length<=p9:=by
 cases t with
 | true=>obtain⟨its,r,p,z⟩:=I.tuple (show SqT X.K H a xs from h);exact⟨its,r,p,z⟩
 | false=>obtain⟨its,r,p,z⟩:=I.list (show SqL X.K H a xs from h);exact⟨its,r,p.isList,z⟩
theorem hX (I:Inv X pins σ H s)(h:SqX t X.K H a xs)(h':SqX t X.K H a ys):xs=ys:=by
 cases t with
 | true=>exact I.tuple_inj h h'
 | false=>exact I.list_inj h h'
end
def Itz (t1 t2:Bool)(K:a8)(l1 l2:j7):It :=
 ⟨λ i H=>∃ xs ys x y,SqX t1 K H l1 xs/\SqX t2 K H l2 ys/\xs[i]?=some x/\ys[i]?=some y,
  λ i H v H'=>∃ T x y,H T=none/\v=.ref T/\H'=upd H T (.tup [x,y])/\(∀ xs,SqX t1 K H l1 xs->xs[i]?=some x)/\(∀ ys,SqX t2 K H l2 ys->ys[i]?=some y),
  λ i H=>∃ xs ys,SqX t1 K H l1 xs/\SqX t2 K H l2 ys/\(xs.length<=i\/ys.length<=i)⟩
theorem wN {P:m9}{w:uaf}{K:a8}{elts:List ua9}{kk:Nat}{pos:Pos}{t1 t2:Bool}{z TI TO i1 i2 l1 l2:j7}(D:Z3.Ap z TI TO i1 i2)(o1:Z3.Out z TI TO i1 i2 l1)(o2:Z3.Out z TI TO i1 i2 l2) :
  Turn P w K (.Tuple elts kk pos) (Itz t1 t2 K l1 l2) [z,TI,TO,i1,i2] z (λ i h=>Z3.Zd t1 t2 h z TI TO i1 i2 l1 l2 .none i) where
 mem:=by simp
 obj:=λ i h st b hb=>by
  obtain⟨q1,q2,⟨_,_,q3⟩,q4,q5⟩:=st
  obtain⟨o4,n4,e4,_,d4⟩:=q4.obj
  obtain⟨o5,n5,e5,_,d5⟩:=q5.obj
  simp only [l7,uag,or_false] at hb
  rcases hb with rfl | rfl | rfl | rfl | rfl
  ·exact⟨_,q1,λ v q=>by cases q⟩
  ·exact⟨_,q2,λ v q=>by cases q⟩
  ·exact⟨_,q3,λ v q=>by cases q⟩
  ·exact⟨_,e4,λ v q=>by rw[d4] at q;cases q⟩
  ·exact⟨_,e5,λ v q=>by rw[d5] at q;cases q⟩
 keep:=λ i h h' st k=>by
  obtain⟨q1,q2,⟨a,b,q3⟩,q4,q5⟩:=st
  exact⟨k z (by simp) _ q1,k TI (by simp) _ q2,⟨a,b,k TO (by simp) _ q3⟩,q4.to λ o e=>k i1 (by simp) o e,q5.to λ o e=>k i2 (by simp) o e⟩
 item:=by
  intro X hP hw hK hc i pins s σ H E I hf st hg
  subst hP hw hK
  obtain⟨xs,ys,x,y,q1,q2,hx,hy⟩:=hg
  obtain⟨its1,r1,p1,z1⟩:=seqX I q1
  obtain⟨its2,r2,p2,z2⟩:=seqX I q2
  obtain⟨u1,hu1,ru1⟩:=r1.get hx
  obtain⟨u2,hu2,ru2⟩:=r2.get hy
  have hf4:∀ b∈[z,TO,i1,i2],FpOk X pins H b:=λ b hb=>hf b (by
   simp only [l7,uag,or_false] at hb ⊢
   rcases hb with rfl | rfl | rfl | rfl <;> simp)
  refine Z3.vM D o1 o2 st p1 p2 (x:=u1) (y:=u2) (by simpa using hu1) (by simpa using hu2) λ h' zd tp sz kp=>?_
  have I1 : Inv X pins σ (upd H s.heap.objs.size (.tup [x, y])) { s with heap := h', toks := s.toks } := turnsTup (ch := [z, TO, i1, i2]) (its := [u1, u2]) I hf4 (λ b o hb e => by
      simp only [l7,uag,or_false,not_or] at hb
      exact kp b o hb.1 hb.2.1 hb.2.2.1 hb.2.2.2 e) (i7 _) (by show 2<=p9;rw[ubk];decide) (.cons ru1 (.cons ru2 .nil)) ⟨_,tp,rfl,⟨_,rfl⟩,rfl⟩
  have fr:H s.heap.objs.size=none:=I.fresh
  have zne:∀ b∈[z,TI,TO,i1,i2],b≠s.heap.objs.size:=λ b hb e=>by
   have key:∃ o,s.heap.get? b=some o:=by
    obtain⟨q1,q2,⟨_,_,q3⟩,q4,q5⟩:=st
    obtain⟨o4,n4,e4,_,d4⟩:=q4.obj
    obtain⟨o5,n5,e5,_,d5⟩:=q5.obj
    simp only [l7,uag,or_false] at hb
    rcases hb with rfl | rfl | rfl | rfl | rfl
    ·exact⟨_,q1⟩
    ·exact⟨_,q2⟩
    ·exact⟨_,q3⟩
    ·exact⟨_,e4⟩
    ·exact⟨_,e5⟩
   obtain⟨o,ho⟩:=key
   exact absurd (j8 ho) (by rw[e];exact ubh _)
  refine⟨_,rfl,wpAny_letOwnedTupleGo_zip zd.z λ h2 zd2 sb=>?_⟩
  obtain⟨f0,f1,f2,f3,f4,f5⟩:=hf z (by simp)
  have I2:Inv X pins σ (upd H s.heap.objs.size (.tup [x,y])) { s with heap:=h2,toks:=s.toks }:=Inv.turned (s:={ s with heap:=h',toks:=s.toks }) (it:=z) (t':=s.toks) I1 (λ b o hb e=>sb.extBut b o hb e) (by rw[aD (zne z (by simp))];exact f0) f1 f3 f4 f5
  refine⟨.ref s.heap.objs.size,_,I2,rfl,⟨_,x,y,fr,rfl,rfl,λ zs hz=>by rw[hX I hz q1];exact hx,λ zs hz=>by rw[hX I hz q2];exact hy⟩,?_,λ b hb=>by rw[aD (zne b hb)];exact (hf b hb).1⟩
  obtain⟨_,w2,⟨a3,b3,w3⟩,w4,w5⟩:=zd
  exact⟨zd2,sb.extBut _ _ D.n1 w2,⟨a3,b3,sb.extBut _ _ D.n2 w3⟩,w4.to λ o e=>sb.extBut _ _ D.n3 e,w5.to λ o e=>sb.extBut _ _ D.n4 e⟩
 done:=by
  intro X hP hw hK hc i pins s σ H E I hf st hg
  subst hP hw hK
  obtain⟨xs,ys,q1,q2,hx⟩:=hg
  obtain⟨its1,r1,p1,z1⟩:=seqX I q1
  obtain⟨its2,r2,p2,z2⟩:=seqX I q2
  have l1:=r1.length
  have l2:=r2.length
  have hf4:∀ b∈[z,TO,i1,i2],FpOk X pins H b:=λ b hb=>hf b (by
   simp only [l7,uag,or_false] at hb ⊢
   rcases hb with rfl | rfl | rfl | rfl <;> simp)
  refine Z3.vL (I.ok.hd hc) D o1 o2 st p1 p2 (hx.elim (λ q=>.inl (by simp;left)) λ q=>.inr (by simp;left)) λ h' kp=>⟨rfl,?_⟩
  exact turns (ch:=[z,TO,i1,i2]) (t':=s.toks) I hf4 λ b o hb e=>by
   simp only [l7,uag,or_false,not_or] at hb
   exact kp b o hb.1 hb.2.1 hb.2.2.1 hb.2.2.2 e
 self:=λ _ _ _ _ _ st h=>wpAny_pyIter_zip st.z h
def iZip (t1 t2:Bool)(K:a8)(ta:TA):TI:=λ σ H R=>ta σ H λ vs H1=>∃ l1 l2,vs=[.ref l1,.ref l2]/\(∃ xs,SqX t1 K H1 l1 xs)/\(∃ ys,SqX t2 K H1 l2 ys)/\R (Itz t1 t2 K l1 l2) H1
theorem oP {X:Cx}{elts:List ua9}{kk:Nat}{pos':Pos}(t1 t2:Bool){a b:ua9}{ta:TA}{p pos:Pos}(hg:Gl X "zip")(hm:X.mg "zip"=none)(ha:PA X [a,b] ta)
  (hs:uaa [a,b] X.env=[(false,eval a X.env),(false,eval b X.env)]:=by rfl) (hs2:uaa [b] X.env=[(false,eval b X.env)]:=by rfl) :
  PI X (.Tuple elts kk pos') (.Call (.Name "zip" p) [a,b] [] pos) (iZip t1 t2 X.K ta):=by
 intro pins s σ H R I h
 refine Call_ (dC I hg hm boot_zip (ub5 (thn (ha pos pins s σ H _ I h) λ us s1 ⟨vs,H1,I1,r1,q1⟩=>?_) (by rw[hs,hs2]) (by rw[hs2];rfl)))
 obtain⟨l1,l2,e,⟨xs,qx⟩,⟨ys,qy⟩,q⟩:=q1
 subst e
 cases r1 with
 | cons r rr =>
  cases rr with
  | cons r' rr =>
   cases rr
   cases r
   cases r'
   obtain⟨its1,r1,p1,z1⟩:=seqX I1 qx
   obtain⟨its2,r2,p2,z2⟩:=seqX I1 qy
   have lt:∀ {t:Bool}{l:j7}{xs:Array d7},Z3.SqAt t s1.heap l xs->l<s1.heap.objs.size:=λ {t l xs} q=>by
    cases t with
    | true=>obtain⟨o,e,_⟩:=(show s1.heap.IsTuple l xs from q);exact j8 e
    | false=>obtain⟨o,e,_⟩:=(show s1.heap.IsList l xs from q);exact j8 e
   refine Z3.yI p1 p2 λ h' zd sz kp=>wpAny_pyIter_zip zd.z ?_
   have I2:Inv X pins σ H1 { s1 with heap:=h',toks:=s1.toks }:=I1.kept (t':=s1.toks) kp
   refine⟨s1.heap.objs.size+4,[s1.heap.objs.size+4,s1.heap.objs.size+2,s1.heap.objs.size+3,s1.heap.objs.size,s1.heap.objs.size+1],_,_,H1,rfl,I2,wN (Z3.zbh _) (Z3.nP (lt p1)) (Z3.nP (lt p2)),zd,λ b hb=>?_,q⟩
   have hb':s1.heap.objs.size<=b:=by
    simp only [l7,uag,or_false] at hb
    rcases hb with rfl | rfl | rfl | rfl | rfl
    ·exact udj _ _
    ·exact udj _ _
    ·exact udj _ _
    ·exact i7 _
    ·exact udj _ _
   exact I1.fpOk hb' (I1.hok.fresh hb')
section
variable {X:Cx}{pos:Pos}
inductive gLst_i (K:a8)(n:Nat)(t:TGs)(v:V)(σ:L2.St)(H:Hp)(Q:L2.St->Hp->Prop):Prop
 | mk:∀ a xs,(v=.ref a)->(SqL K H a xs)->(xs.length=n)->(t xs σ H Q)->gLst_i K n t v σ H Q
def gLst (K:a8)(n:Nat)(t:TGs):TG:=λ v σ H Q=>gLst_i K n t v σ H Q
theorem za3 {es:List ua9}{k:Nat}{t:TGs}{n:Nat}(hc:X.calm=true)(h:PGs X es t)(hn:(assignEach es X.env).length=n:=by rfl)(hst:(assignEach es X.env).findIdx? (·.1)=none:=by rfl):PG X (.Tuple es k pos) (gLst X.K n t):=by
 intro pins s σ H v u Q I r hw
 obtain⟨a,xs,e1,hq,hl,hw⟩:=hw
 subst e1
 cases r
 obtain⟨its,rv,ht,hz⟩:=I.list hq
 refine U3.assign_tuple_lst (I.ok.hd hc) ht.isList (by simp [hn,← hl,rv.length]) hst λ h' hx=>?_
 have I1:Inv X pins σ H { s with heap:=h' }:=I.kept (t':=s.toks) λ b o e=>hx b o (o0 (j8 e)) e
 exact h pins _ σ H xs _ Q I1 (by simpa using rv) hw
theorem wO {prog:m9}{w:uaf}{A:v7}{bs:List Bool}{its:List d7}(r:Vals (bs.map V.bl) its):TruthOf prog w A (λ i v=>its.toArray[i]?=some v) (λ i=>bs.getD i true):=by
 intro i v s Q E hP hq
 have hP':its[i]?=some v:=by simpa using hP
 have hl:=r.length
 have hi:i<its.length:=(i8.mp hP').1
 have hb:i<bs.length:=by rw[g9] at hl;left
 obtain⟨u,hu,ru⟩:=r.get (i:=i) (x:=V.bl bs[i]) (by rw[o7,d6 hb];rfl)
 rw[hP'] at hu
 cases hu
 have e:v=Value.bool bs[i]:=ru
 subst e
 have e2:bs.getD i true=bs[i]:=by simp [ua8,hb]
 have hq':Q (bs.getD i true) s:=hq
 rw[e2] at hq'
 exact ubu hq'
theorem wJ (bs:List Bool):((i6 bs.length).all λ i=>bs.getD i true)=bs.all id:=by
 rw[ucg,uad,uad]
 constructor
 ·intro h b hb
  obtain⟨i,hi,e⟩:=List.getElem_of_mem hb
  have:=h i (o6.mpr hi)
  rw[← e]
  simpa [ua8,hi] using this
 ·intro h i hi
  have hi':=o6.mp hi
  have:=h bs[i] (ufg hi')
  simpa [ua8,hi'] using this
inductive call_all_i (K:a8)(xs:List V)(H:Hp)(Q:VK):Prop
 | mk:∀ (p:j7)(bs:List Bool),(xs=[.ref p])->(SqL K H p (bs.map V.bl))->(Q (.bl (bs.all id)) H)->call_all_i K xs H Q
theorem yK (hh:X.calm=true):CallR X (.builtin "all") (call_all_i X.K):=by
 intro pins s σ H xs us Q I r h
 obtain⟨p,bs,rfl,hq,q⟩:=h
 obtain⟨u,rfl,rx⟩:=vals1 r
 cases rx
 obtain⟨its,rv,pl,hz⟩:=I.list hq
 have hl:=rv.length
 have lt:p≠s.heap.objs.size:=by obtain⟨o,e,_⟩:=pl.isList;exact o0 (j8 e)
 refine call_all_walk (udg pl.isList ?_)
 have W:=Walks.list (prog:=X.prog) (w:=X.w) (A:=X.A.in1) (show X.A.in1.handled=none from I.ok.hd hh) s.heap.objs.size p lt its.toArray
 refine⟨s.heap.objs.size,_,_,_,_,_,_,rfl,W,⟨⟨_,l4 _ rfl,rfl,rfl⟩,pl.isList.push _⟩,wO rv,λ h' tk hk=>?_⟩
 refine⟨.bl (bs.all id),H,I.kept (t':=tk) λ b o e=>hk b o (λ z=>?_) (b9 _ e),?_,q⟩
 ·have:b=s.heap.objs.size:=by simpa using z
  exact absurd (j8 e) (by rw[this];exact ubh _)
 ·show Value.bool _=Value.bool _
  have e1:its.toArray.size=bs.length:=by rw[k9,← hl,g9]
  rw[e1,wJ]
inductive call_isi_i (K:a8)(n:String)(xs:List V)(H:Hp)(Q:VK):Prop
 | mk:∀ x t b,(xs=[x,.ty n])->(TyOf K H x t)->(uc0 K t (.type n)=some b)->(Q (.bl b) H)->call_isi_i K n xs H Q
theorem dL {n:String}:CallR X (.builtin "isinstance") (call_isi_i X.K n):=by
 intro pins s σ H xs us Q I r h
 obtain⟨x,t,b,rfl,ty,e,q⟩:=h
 obtain⟨u,c,rfl,ru,rc⟩:=r.two
 cases rc
 exact vS I ru ty e λ tk=>⟨.bl b,H,I.tok tk,rfl,q⟩
variable {a b c d:ua9}{ta tb tc td:TE}
end
mutual
def Is (K:a8)(H:Hp):v9->V->Prop
 | .none,v=>v=.non
 | .bool b,v=>v=.bl b
 | .int i,v=>v=.int i
 | .str x,v=>v=.str x
 | .tuple ds,v=>∃ p vs,v=.ref p/\H p=some (.tup vs)/\IsAll K H ds vs
 | .list ds,v=>∃ p vs,v=.ref p/\H p=some (.lst vs)/\IsAll K H ds vs
 | .dict kvs,v=>kvs=[]/\∃ p,v=.ref p/\H p=some (.dK [])
def IsAll (K:a8)(H:Hp):List v9->List V->Prop
 | [],vs=>vs=[]
 | d::ds,vs=>∃ v r,vs=v::r/\Is K H d v/\IsAll K H ds r
end
section
variable {K:a8}{H H':Hp}
mutual
theorem Is.same (e:Same H H'):∀ (d:v9){v:V},Is K H d v->Is K H' d v
 | .none,_,h=>h
 | .bool _,_,h=>h
 | .int _,_,h=>h
 | .str _,_,h=>h
 | .tuple ds,_,h=>let ⟨p,vs,q1,q2,q3⟩:=h;⟨p,vs,q1,e _ _ q2,IsAll.same e ds q3⟩
 | .list ds,_,h=>let ⟨p,vs,q1,q2,q3⟩:=h;⟨p,vs,q1,e _ _ q2,IsAll.same e ds q3⟩
 | .dict kvs,_,h=>let ⟨q0,p,q1,q2⟩:=h;⟨q0,p,q1,e _ _ q2⟩
theorem IsAll.same (e:Same H H'):∀ (ds:List v9){vs:List V},IsAll K H ds vs->IsAll K H' ds vs
 | [],_,h=>h
 | d::ds,_,h=>let ⟨v,r,q1,q2,q3⟩:=h;⟨v,r,q1,Is.same e d q2,IsAll.same e ds q3⟩
end
theorem IsAll.length:∀ {ds:List v9}{vs:List V},IsAll K H ds vs->vs.length=ds.length
 | [],_,h=>by rw[show _=[] from h];rfl
 | d::ds,_,⟨v,r,q1,q2,q3⟩=>by rw[q1,uas,uas,IsAll.length q3]
theorem IsAll.get:∀ {ds:List v9}{vs:List V}{i:Nat}{d:v9},IsAll K H ds vs->ds[i]?=some d->∃ v,vs[i]?=some v/\Is K H d v
 | [],_,_,_,_,e=>by simp at e
 | d::ds,_,0,d',⟨v,r,q1,q2,q3⟩,e=>by
  have e':d=d':=by simpa using e
  subst e';subst q1;exact⟨v,rfl,q2⟩
 | d::ds,_,i+1,_,⟨v,r,q1,q2,q3⟩,e=>by
  subst q1
  obtain⟨u,h1,h2⟩:=IsAll.get (i:=i) q3 (by simpa using e)
  exact⟨u,by simpa using h1,h2⟩
theorem IsAll.get':∀ {ds:List v9}{vs:List V}{i:Nat}{v:V},IsAll K H ds vs->vs[i]?=some v->∃ d,ds[i]?=some d/\Is K H d v
 | [],_,i,v,h,e=>by rw[show _=[] from h] at e;simp at e
 | d::ds,_,0,v,⟨u,r,q1,q2,q3⟩,e=>by
  subst q1
  have e':u=v:=by simpa using e
  subst e';exact⟨d,rfl,q2⟩
 | d::ds,_,i+1,v,⟨u,r,q1,q2,q3⟩,e=>by
  subst q1
  obtain⟨d',h1,h2⟩:=IsAll.get' (i:=i) q3 (by simpa using e)
  exact⟨d',by simpa using h1,h2⟩
theorem IsAll.of:∀ {ds:List v9}{vs:List V},vs.length=ds.length->(∀ (i:Nat)(d:v9)(v:V),ds[i]?=some d->vs[i]?=some v->Is K H d v)->IsAll K H ds vs
 | [],[],_,_=>rfl
 | [],_::_,h,_=>by simp at h
 | _::_,[],h,_=>by simp at h
 | d::ds,v::vs,h,q=>⟨v,vs,rfl,q 0 d v rfl rfl,IsAll.of (by simpa using h) λ i d' v' h1 h2=>q (i+1) d' v' (by simpa using h1) (by simpa using h2)⟩
theorem IsAll.append:∀ {ds es:List v9}{vs us:List V},IsAll K H ds vs->IsAll K H es us->IsAll K H (ds++es) (vs++us)
 | [],_,_,_,h,q=>by rw[show _=[] from h];exact q
 | d::ds,_,_,_,⟨v,r,q1,q2,q3⟩,q=>⟨v,r++_,by rw[q1];rfl,q2,IsAll.append q3 q⟩
theorem IsAll.ints (ns:List Int):IsAll K H (ns.map .int) (ns.map V.int):=by
 refine IsAll.of (by simp) λ i d v h1 h2=>?_
 rw[o7] at h1 h2
 cases e:ns[i]? with
 | none=>rw[e] at h1;cases h1
 | some n=>rw[e] at h1 h2;cases h1;cases h2;exact rfl
theorem IsAll.of_ints:∀ {ns:List Int}{vs:List V},IsAll K H (ns.map .int) vs->vs=ns.map V.int
 | [],_,h=>h
 | n::ns,_,⟨v,r,q1,q2,q3⟩=>by
  have e:v=.int n:=q2
  rw[q1,e,IsAll.of_ints q3];rfl
end
section
variable {X:Cx}{pins:List (j7 × Obj)}{σ:L2.St}{H:Hp}{s:d8}
mutual
theorem dJ (I:Inv X pins σ H s):∀ (d:v9){v:V}{u:d7},Is X.K H d v->RelV v u->∃ as,Reads s.heap u d as
 | .none,_,_,h,r=>by
  have e:_=V.non:=h
  subst e;cases r;exact⟨_,.none⟩
 | .bool b,_,_,h,r=>by
  have e:_=V.bl b:=h
  subst e;cases r;exact⟨_,.bool b⟩
 | .int i,_,_,h,r=>by
  have e:_=V.int i:=h
  subst e;obtain⟨t,rfl⟩:=r;exact⟨_,.int i t⟩
 | .str x,_,_,h,r=>by
  have e:_=V.str x:=h
  subst e;obtain⟨t,rfl⟩:=r;exact⟨_,.str x t⟩
 | .tuple ds,_,_,h,r=>by
  obtain⟨p,vs,rfl,q2,q3⟩:=(show ∃ p vs,_=V.ref p/\H p=some (.tup vs)/\IsAll X.K H ds vs from h)
  cases r
  obtain⟨its,rv,⟨o,e1,e2,n,e3⟩,_⟩:=I.tuple (SqT.of q2)
  obtain⟨as,ra⟩:=gM I ds q3 rv
  exact⟨_,.tuple e1 e2 e3 (by simpa using ra)⟩
 | .list ds,_,_,h,r=>by
  obtain⟨p,vs,rfl,q2,q3⟩:=(show ∃ p vs,_=V.ref p/\H p=some (.lst vs)/\IsAll X.K H ds vs from h)
  cases r
  obtain⟨its,rv,⟨o,n,e1,e2,_,e3⟩,_⟩:=I.list (SqL.of q2)
  obtain⟨as,ra⟩:=gM I ds q3 rv
  exact⟨_,.list e1 e2 e3 (by simpa using ra)⟩
 | .dict kvs,_,_,h,r=>by
  obtain⟨e0,p,rfl,q2⟩:=(show kvs=[]/\∃ p,_=V.ref p/\H p=some (.dK []) from h)
  subst e0
  cases r
  obtain⟨_,_,vs,kv,o,es,ep,g1,g2,g3,_,g4,_⟩:=(show ObjOk X.prog X.w H s.heap p (.dK []) from I.hok p _ q2)
  cases kv
  have e1:es.toList=[]:=by cases h:es.toList with
   | nil=>rfl
   | cons x r=>rw[h] at g4;cases g4
  exact⟨_,.dict g1 g2.1 g3 (by rw[e1];exact .nil) (by rw[e1];exact .nil)⟩
theorem gM (I:Inv X pins σ H s):∀ (ds:List v9){vs:List V}{us:List d7},IsAll X.K H ds vs->Vals vs us->∃ as,ReadsAll s.heap us ds as
 | [],_,_,h,r=>by
  have e:_=[]:=h
  subst e;cases r;exact⟨_,.nil⟩
 | d::ds,_,_,h,r=>by
  obtain⟨v,vr,rfl,q2,q3⟩:=(show ∃ v r,_=v::r/\Is X.K H d v/\IsAll X.K H ds r from h)
  cases r with
  | cons r1 r2 =>
   obtain⟨as,a1⟩:=dJ I d q2 r1
   obtain⟨bs,a2⟩:=gM I ds q3 r2
   exact⟨_,.cons a1 a2⟩
end
inductive op_eqD_i (K:a8)(uu:Nat)(x:V)(y:V)(H:Hp)(Q:VK):Prop
 | mk:∀ da db,(Is K H da x)->(Is K H db y)->(da.canLay0=true)->(db.canLay0=true)->(uu+min da.depth db.depth<cLine)->(Q (.bl (ue3 da db)) H)->op_eqD_i K uu x y H Q
theorem oU:OpR X (compareOp .Eq) (op_eqD_i X.K X.A.units):=by
 intro pins s σ H x y v u Q I rx ry h
 obtain⟨da,db,h1,h2,c1,c2,hu,q⟩:=h
 obtain⟨as,ra⟩:=dJ I da h1 rx
 obtain⟨bs,rb⟩:=dJ I db h2 ry
 exact SeqAt.compareEq_reads ra rb c1 c2 hu (aP I q rfl)
inductive op_neD_i (K:a8)(uu:Nat)(x:V)(y:V)(H:Hp)(Q:VK):Prop
 | mk:∀ da db,(Is K H da x)->(Is K H db y)->(da.canLay0=true)->(db.canLay0=true)->(uu+min da.depth db.depth<cLine)->(Q (.bl (!PyData.eqv da db)) H)->op_neD_i K uu x y H Q
theorem oS:OpR X (compareOp .NotEq) (op_neD_i X.K X.A.units):=by
 intro pins s σ H x y v u Q I rx ry h
 obtain⟨da,db,h1,h2,c1,c2,hu,q⟩:=h
 obtain⟨as,ra⟩:=dJ I da h1 rx
 obtain⟨bs,rb⟩:=dJ I db h2 ry
 exact SeqAt.compareNe_reads ra rb c1 c2 hu (aP I q rfl)
theorem xP {ys:List V}{its:List d7}(r:Vals ys its){i:Nat}(hi:i<ys.length):RelV (ys.getD i .non) (its.getD i .none):=by
 have hl:=r.length
 obtain⟨u,hu,ru⟩:=r.get (i:=i) (x:=ys[i]) (d6 hi)
 have e1:ys.getD i .non=ys[i]:=by simp [ua8,hi]
 have e2:its.getD i .none=u:=by simp [ua8,hu]
 rw[e1,e2];exact ru
theorem eE {ys:List V}{its:List d7}(r:Vals ys its):∀ (l:List Nat),(∀ i∈l,i<ys.length)->Vals (l.map λ i=>ys.getD i .non) (l.map λ i=>its.getD i Value.none)
 | [],_=>.nil
 | i::l,h=>.cons (xP r (h i i0)) (eE r l λ j hj=>h j (i9 _ hj))
theorem dD {n:Nat}{p:Array Nat}(g:Srt.Gd n p):∀ i∈p.toList,i<n:=λ i hi=>by
 have:=g.mem_iff.mp (uew.mp hi)
 simpa using this
theorem fZ {α:Type}{n:Nat}{p:Array Nat}(g:Srt.Gd n p)(f:Nat->α):(p.toList.map f).Perm ((i6 n).map f):=by
 have h:=Array.perm_iff_toList_perm.mp g
 exact (by simpa using h:p.toList.Perm (i6 n)).map f
theorem fT {n:Nat}{p:Array Nat}{r:Nat->Int}{R:Nat->Nat->Prop}(g:Srt.Gd n p)(u:Srt.Up r p n)(h:∀ i j,i<n->j<n->r i<=r j->R i j):p.toList.Pairwise R:=by
 rw[uan]
 intro i j hi hj hij
 have sz:=g.sz
 have hi':i<p.size:=by simpa using hi
 have hj':j<p.size:=by simpa using hj
 have q:=u i j (ud2 hij) (by left)
 have e:∀ k (hk:k<p.size),p.getD k 0=p[k]:=λ k hk=>by simp [uf0,hk]
 unfold Srt.ky at q
 rw[e i hi',e j hj'] at q
 have m:∀ k (hk:k<p.size),p[k]<n:=λ k hk=>dD g _ (by simp)
 have:=h p[i] p[j] (m i hi') (m j hj') q
 simpa using this
theorem dW {α:Type}(l:List α)(d:α):(i6 l.length).map (λ i=>l.getD i d)=l:=by
 refine udf (by simp) λ i h1 h2=>?_
 simp [ua8,h2]
inductive call_sortedI_i (K:a8)(xs:List V)(H:Hp)(Q:VK):Prop
 | mk:∀ p ns,(xs=[.ref p])->(SqL K H p (ns.map V.int))->(ns.length<64)->(∀ ms:List Int,ms.Perm ns->ms.Pairwise (·<=·)->∀ l,H l=none->Q (.ref l) (upd H l (.lst (ms.map V.int))))->call_sortedI_i K xs H Q
theorem sD:CallR X (.builtin "sorted") (call_sortedI_i X.K):=by
 intro pins s σ H xs us Q I r h
 obtain⟨p,ns,rfl,hq,h64,q⟩:=h
 obtain⟨u,rfl,rx⟩:=vals1 r
 cases rx
 obtain⟨its,rv,pl,hz⟩:=I.list hq
 have hl:=rv.length
 rw[g9] at hl
 have hI:IntsAre its ns:=cU rv
 have line:(64:Nat)<=p9:=by rw[ubk];decide
 refine Srt.kF (r:=λ i=>ns.getD i 0) (κ:=oneType') pl.isList (by left) (λ h2 A' s' Q' _ q'=>Srt.mK hI h2 q') (λ A' s' i j C _ hi hj q'=>Srt.oA hI hi hj q') λ pp h' c g u kp e=>?_
 have g':Srt.Gd ns.length pp:=by rw[hl];exact g
 have u':Srt.Up (λ i=>ns.getD i 0) pp ns.length:=by rw[hl];exact u
 have pm:(pp.toList.map λ i=>ns.getD i 0).Perm ns:=by
  have:=fZ g' λ i=>ns.getD i 0
  rw[dW] at this
  exact this
 have pw:(pp.toList.map λ i=>ns.getD i 0).Pairwise (·<=·):=by
  rw[ua2]
  exact fT g' u' λ i j _ _ z=>z
 have fr:H (s.heap.objs.size+1)=none:=I.hok.fresh (uci _)
 have ev:((pp.toList.map λ i=>ns.getD i 0).map V.int)=pp.toList.map λ i=>(ns.map V.int).getD i .non:=by
  rw[ubb]
  refine uct λ i hi=>?_
  have:=dD g' i hi
  simp [ua8,this]
 refine⟨.ref (s.heap.objs.size+1),_,I.laid (a:=s.heap.objs.size+1) (o:=.lst ((pp.toList.map λ i=>ns.getD i 0).map V.int)) (t':=s.toks) kp (uci _) ⟨?_,Srt.outOf its pp,c,?_,e⟩,rfl,q _ pm pw _ fr⟩
 ·have:=pm.length_eq
  rw[g9,this];left
 ·rw[ev]
  exact eE rv pp.toList λ i hi=>by rw[g9];exact dD g' i hi
inductive call_sortedT_i (K:a8)(xs:List V)(H:Hp)(Q:VK):Prop
 | mk:∀ p ys ks,(xs=[.ref p])->(SqL K H p ys)->(ys.length<64)->(Paired (λ (y:V) (k:List Int)=>∃ a,y=.ref a/\SqT K H a (k.map V.int)) ys ks)->((∀ k∈ks,k≠[]))->(∀ qs:List (V × List Int),qs.Perm (ys.zip ks)->qs.Pairwise (λ a b=>Srt.lexI b.2 a.2=false)->∀ l,H l=none->Q (.ref l) (upd H l (.lst (qs.map (·.1)))))->call_sortedT_i K xs H Q
theorem sC:CallR X (.builtin "sorted") (call_sortedT_i X.K):=by
 intro pins s σ H xs us Q I r h
 obtain⟨p,ys,ks,rfl,hq,h64,hp,hne,q⟩:=h
 obtain⟨u,rfl,rx⟩:=vals1 r
 cases rx
 obtain⟨its,rv,pl,hz⟩:=I.list hq
 have hl:=rv.length
 have hlk:ys.length=ks.length:=Paired.length hp
 have line:(64:Nat)<=p9:=by rw[ubk];decide
 have hT:∀ {ys:List V}{ks:List (List Int)}{its:List d7},Paired (λ (y:V) (k:List Int)=>∃ a,y=.ref a/\SqT X.K H a (k.map V.int)) ys ks->Vals ys its->Paired (Srt.TupI s.heap) its ks:=by
  intro ys ks its hp
  induction hp generalizing its with
  | nil=>intro rv;cases rv;exact .nil
  | cons r t ih =>
   intro rv
   cases rv with
   | cons r1 r2 =>
    refine .cons ?_ (ih r2)
    obtain⟨a,rfl,qa⟩:=r
    cases r1
    obtain⟨its',rv',⟨o,e1,e2,n,e3⟩,_⟩:=I.tuple qa
    exact⟨a,o,its'.toArray,n,rfl,e1,e2,e3,by simpa using cU rv'⟩
 have tp:=hT hp rv
 have mono:∀ {h':Heap},(∀ b o,s.heap.get? b=some o->h'.get? b=some o)->Paired (Srt.TupI h') its ks:=λ k=>Paired.mapP tp λ v k' z=>z.to k
 refine Srt.kF (r:=Srt.rank its.length λ i j=>Srt.lexI (ks.getD i []) (ks.getD j [])) (κ:=tuples' true) pl.isList (by left) (λ h2 A' s' Q' k q'=>Srt.lI (mono k) hne h2 q')
  (λ A' s' i j C k hi hj q'=>Srt.nF (mono k) hi hj (by rw[Srt.fW (lt:=λ i j=>Srt.lexI (ks.getD i []) (ks.getD j [])) (λ i=>Srt.eI _) (λ _ _ _ _ _ _=>Srt.dX _ _ _) (λ _ _ _ _ _ _=>Srt.eG _ _ _) hi hj] at q';exact q')) λ pp h' c g u kp e=>?_
 have fr:H (s.heap.objs.size+1)=none:=I.hok.fresh (uci _)
 have pm:(pp.toList.map λ i=>(ys.getD i .non,ks.getD i [])).Perm (ys.zip ks):=by
  have h1:=fZ g λ i=>(ys.getD i V.non,ks.getD i [])
  have e1:(i6 its.length).map (λ i=>(ys.getD i V.non,ks.getD i []))=ys.zip ks:=by
   refine udf (by simp;left) λ i h1 h2=>?_
   have hi:i<its.length:=by simpa using h1
   have a1:i<ys.length:=by left
   have a2:i<ks.length:=by left
   simp [ua8,a1,a2]
  rw[e1] at h1
  exact h1
 have pw:(pp.toList.map λ i=>(ys.getD i V.non,ks.getD i [])).Pairwise (λ a b=>Srt.lexI b.2 a.2=false):=by
  rw[ua2]
  refine fT g u λ i j hi hj z=>?_
  have w:=Srt.fW (n:=its.length) (lt:=λ i j=>Srt.lexI (ks.getD i []) (ks.getD j [])) (λ i=>Srt.eI _) (λ _ _ _ _ _ _=>Srt.dX _ _ _) (λ _ _ _ _ _ _=>Srt.eG _ _ _) hj hi
  rw[ugb (by left)] at w
  exact w.symm
 have ev:(pp.toList.map λ i=>(ys.getD i V.non,ks.getD i [])).map (·.1)=pp.toList.map λ i=>ys.getD i V.non:=by
  rw[ubb];rfl
 refine⟨.ref (s.heap.objs.size+1),_,I.laid (a:=s.heap.objs.size+1) (o:=.lst ((pp.toList.map λ i=>(ys.getD i V.non,ks.getD i [])).map (·.1))) (t':=s.toks) kp (uci _) ⟨?_,Srt.outOf its pp,c,?_,e⟩,rfl,q _ pm pw _ fr⟩
 ·have:=pm.length_eq
  rw[g9,this,List.length_zip];left
 ·rw[ev]
  exact eE rv pp.toList λ i hi=>by have:=dD g i hi;left
end
def Ok (P:m9)(w:uaf)(K:a8)(mg:Str->Option d7)(base:Heap)(k:Nat)(x:Str)(ps:List Str)(sp:Sp):Prop :=
 ∃ (f:j7)(fd:ubm),FnOk P w K mg base CX0 k f fd ps sp/\Binds K fd ps []/\ua6 K (.ref f)=true/\mg x=some (.ref f)
def DefOk (K:a8)(mg:Str->Option d7)(x:Str)(st:ubv)(ps:List Str):Prop :=
 ∃ (f:j7)(fd:ubm),Fun K x x st f fd/\Binds K fd ps []/\mg x=some (.ref f)
section
variable {P:m9}{w:uaf}{K:a8}{mg:Str->Option d7}{base:Heap}{x:Str}{ps N:List Str}{sp sp':Sp}{k:Nat}{st:ubv}
theorem Ok.mono {j:Nat}(O:Ok P w K mg base j x ps sp)(h:j<=k):Ok P w K mg base k x ps sp:=let ⟨f,fd,F,r⟩:=O;⟨f,fd,F.mono h,r⟩
theorem Ok.imp (O:Ok P w K mg base k x ps sp)(h:∀ vs H Q E,sp' vs H Q E->sp vs H Q E):Ok P w K mg base k x ps sp':=let ⟨f,fd,F,r⟩:=O;⟨f,fd,F.imp h,r⟩
theorem pE (D:DefOk K mg x st ps)(S:FnScope N ps (defScope st))(len:∀ vs H Q E,sp vs H Q E->vs.length=ps.length)
  (hbody:∀ (f:j7)(cdv:d7)(A:v7)(outer:List Env)(s:d8)(H:Hp)(vs:List V)(Q:VK)(E:XK),Room k (A.deeper (envOfC x (defScope st) s.heap.objs.size f cdv))->sp vs H Q E ->
   ∃ t,PSs (cxOf CX0 P w K mg base N x (defScope st) f cdv A outer s H E).nox (defBody st) t/\t { nx:=λ _ H'=>Q .non H',rt:=Q } (start N vs) H):Ok P w K mg base (k+1) x ps sp:=by
 obtain⟨f,fd,F,b,m⟩:=D
 exact⟨f,fd,F.ok S len (λ cdv A outer s H vs Q E hr h=>hbody f cdv A outer s H vs Q E hr h),b,F.kp,m⟩
theorem aG {X:Cx}{p pos:Pos}{e:ua9}{es:List ua9}{t:TA}(O:Ok X.prog X.w X.K X.mg X.base k x ps sp)(hr:Room k X.A)(hg:Gl X x)(ha:PA X (e::es) t)
  (hdb:(x==("__debug__":Str))=false:=by decide) (he:uaa (e::es) X.env=(false,eval e X.env)::uaa es X.env:=by rfl) (hpl:(backTo pos (uaa es X.env)).any (·.1)=false:=by rfl) :
  PE X (.Call (.Name x p) (e::es) [] pos) (tCall sp [] E0 t):=by
 obtain⟨f,fd,F,b,kp,m⟩:=O
 exact nO F hr hg m kp b .nil pass0 ha hdb he hpl
end
structure Bi (mg:Str->Option d7):Prop where
 z_len:mg "len"=none
 z_range:mg "range"=none
 z_zip:mg "zip"=none
 z_all:mg "all"=none
 z_sorted:mg "sorted"=none
 z_isinstance:mg "isinstance"=none
 z_min:mg "min"=none
 z_max:mg "max"=none
 z_tuple:mg "tuple"=none
 z_list:mg "list"=none
 z_int:mg "int"=none
 z_bool:mg "bool"=none
 z_str:mg "str"=none
 z_enumerate:mg "enumerate"=none
 z_sum:mg "sum"=none
 z_abs:mg "abs"=none
 z_set:mg "set"=none
 z_reversed:mg "reversed"=none
 z_any:mg "any"=none
 z_repr:mg "repr"=none
 z_dict:mg "dict"=none
def But (p:j7)(H H':Hp):Prop:=∀ b o,b≠p->H b=some o->H' b=some o
section
variable {K:a8}{H H1 H2:Hp}{p a:j7}{o:HO}{xs ys:List V}
theorem But.refl:But p H H:=λ _ _ _ h=>h
theorem But.trans (a:But p H H1)(b:But p H1 H2):But p H H2:=λ c o n h=>b c o n (a c o n h)
theorem But.upd:But p H (upd H p o):=λ b u n h=>by rw[aD n];exact h
theorem Same.but (h:Same H H1):But p H H1:=λ b o _ q=>h b o q
theorem But.new (h:H a=none):But p H (L2.upd H a o):=λ b u _ q=>by rw[aD (aT q h)];exact q
theorem aN (h:H a=none):Same H (upd H a o):=λ b u q=>by rw[aD (aT q h)];exact q
theorem But.free (h:But p H H1)(q:H1 a=none)(hp:H p=some o)(hp1:H1 p=some (.lst xs)):H a=none:=by
 cases e:H a with
 | none=>rfl
 | some u =>
  by_cases z:a=p
  ·subst z;rw[hp1] at q;cases q
  ·rw[h a u z e] at q;cases q
theorem But.tup (h:But p H H1)(hp:H p=some (.lst xs))(q:SqT K H a ys):SqT K H1 a ys:=by
 rcases q with (q | ⟨o,q⟩) | q
 ·exact .inl (.inl (h _ _ (λ z=>by subst z;rw[hp] at q;cases q) q))
 ·exact .inl (.inr ⟨o,h _ _ (λ z=>by subst z;rw[hp] at q;cases q) q⟩)
 ·exact .inr q
end
mutual
def tupD:v9->Bool
 | .none | .bool _ | .int _ | .str _=>true
 | .tuple ds=>tupAll ds
 | .list _ | .dict _=>false
def tupAll:List v9->Bool
 | []=>true
 | d::ds=>tupD d&&tupAll ds
end
mutual
theorem Is.but {K:a8}{H H':Hp}{p:j7}{xs:List V}(e:But p H H')(hp:H p=some (.lst xs)):∀ (d:v9){v:V},tupD d=true->Is K H d v->Is K H' d v
 | .none,_,_,h=>h
 | .bool _,_,_,h=>h
 | .int _,_,_,h=>h
 | .str _,_,_,h=>h
 | .tuple ds,_,t,h=>let ⟨q,vs,q1,q2,q3⟩:=h;⟨q,vs,q1,e _ _ (λ z=>by subst z;rw[hp] at q2;cases q2) q2,IsAll.but e hp ds t q3⟩
 | .list ds,_,t,h=>by cases t
 | .dict _,_,t,h=>by cases t
theorem IsAll.but {K:a8}{H H':Hp}{p:j7}{xs:List V}(e:But p H H')(hp:H p=some (.lst xs)):∀ (ds:List v9){vs:List V},tupAll ds=true->IsAll K H ds vs->IsAll K H' ds vs
 | [],_,_,h=>h
 | d::ds,_,t,h=>by
  have t':(tupD d&&tupAll ds)=true:=t
  rw[w8] at t'
  obtain⟨v,r,q1,q2,q3⟩:=h
  exact⟨v,r,q1,Is.but e hp d t'.1 q2,IsAll.but e hp ds t'.2 q3⟩
end
def Pot (H:Hp)(p:j7):Prop:=∃ a b:Int,H p=some (.lst [.int a,.int b])/\0<=a/\0<=b/\b<2147483647
theorem Pot.lst {H:Hp}{p:j7}(h:Pot H p):∃ xs,H p=some (.lst xs):=let ⟨a,b,e,_⟩:=h;⟨_,e⟩
def spPot (K:a8):Sp:=λ vs H Q _=>∃ a k,∃ ns:List Int,vs=[.ref a,.int k]/\SqL K H a (ns.map V.int)/\0<=k/\k<=100/\∀ l H',Same H H'->H l=none->Pot H' l->Q (.ref l) H'
def spTake:Sp:=λ vs H Q _=>∃ p m,vs=[.ref p,.int m]/\Pot H p/\0<m/\m<1073741824/\∀ r H',0<=r->r<m->But p H H'->Pot H' p->Q (.int r) H'
def spLength:Sp:=λ vs H Q _=>∃ p y,vs=[.ref p,.int y]/\Pot H p/\0<=y/\y<5/\∀ r H',1<=r->r<=10^18->But p H H'->Pot H' p->Q (.int r) H'
def spTied:Sp:=λ vs H Q _=>∃ p n y a b,vs=[.ref p,.int n,.int y,.int a,.int b]/\Pot H p/\∀ k H',But p H H'->Pot H' p->Q (.bl k) H'
def spOrder:Sp:=λ vs H Q _=>∃ p m,vs=[.ref p,.int m]/\Pot H p/\0<=m/\m<=1000/\∀ l H' (ms:List Int),But p H H'->Pot H' p->H l=none->l≠p->H' l=some (.lst (ms.map V.int))->ms.Perm ((i6 m.toNat).map λ i:Nat=>(i:Int))->Q (.ref l) H'
abbrev Tie:=Int × Int × Int
def tieI (t:Tie):List Int:=[t.1,t.2.1,t.2.2]
def tieD (t:Tie):v9:=.tuple ((tieI t).map .int)
def webD (n:Int)(ties:List Tie):v9:=.tuple [.int n,.tuple (ties.map tieD)]
def endLt (s t:Tie):Prop:=s.1<t.1\/(s.1=t.1/\s.2.1<t.2.1)
structure WebOk (n:Int)(ties:List Tie):Prop where
 n1:1<=n
 n24:n<=24
 rise:ties.Pairwise endLt
 few:ties.length<=60
 tie:∀ t∈ties,0<=t.1/\t.1<t.2.1/\t.2.1<n/\1<=t.2.2/\t.2.2<=10^18
def spWeb (K:a8):Sp:=λ vs H Q _=>∃ p m,vs=[.ref p,.int m]/\Pot H p/\1<=m/\m<=24/\∀ v H' n ties,But p H H'->Pot H' p->WebOk n ties->n<=m->Is K H' (webD n ties) v->Q v H'
end L3
namespace L3
structure Grown (n:Nat)(ms:List Int)(b a:Nat)(ties:List Tie):Prop where
 few:ties.length<=60
 ok:∀ t∈ties,0<=t.1/\t.1<t.2.1/\t.2.1<(n:Int)/\1<=t.2.2/\t.2.2<=10^18
 of:∀ t∈ties,∃ a' b':Nat,a'<b'/\b'<n/\(b'<b\/(b'=b/\a'<a))/\((t.1=ms.getD a' 0/\t.2.1=ms.getD b' 0)\/(t.1=ms.getD b' 0/\t.2.1=ms.getD a' 0))
 nd:ties.Pairwise λ s t=>¬ (s.1=t.1/\s.2.1=t.2.1)
theorem Grown.start {n:Nat}{ms:List Int}:Grown n ms 0 0 []:=⟨uac _,(λ t h=>by cases h),(λ t h=>by cases h),ub8⟩
theorem Grown.down {n:Nat}{ms:List Int}{b:Nat}{ties:List Tie}(g:Grown n ms b b ties):Grown n ms (b+1) 0 ties :=
 ⟨g.few,g.ok,λ t h=>by
  obtain⟨a',b',h1,h2,h3,h4⟩:=g.of t h
  exact⟨a',b',h1,h2,.inl (by left),h4⟩,g.nd⟩
theorem Grown.skip {n:Nat}{ms:List Int}{b a:Nat}{ties:List Tie}(g:Grown n ms b a ties):Grown n ms b (a+1) ties :=
 ⟨g.few,g.ok,λ t h=>by
  obtain⟨a',b',h1,h2,h3,h4⟩:=g.of t h
  exact⟨a',b',h1,h2,by left,h4⟩,g.nd⟩
structure Perm0 (n:Nat)(ms:List Int):Prop where
 len:ms.length=n
 lo:∀ i,i<n->0<=ms.getD i 0/\ms.getD i 0<(n:Int)
 inj:∀ i j,i<n->j<n->ms.getD i 0=ms.getD j 0->i=j
theorem Perm0.of {n:Nat}{ms:List Int}(h:ms.Perm ((i6 n).map λ i:Nat=>(i:Int))):Perm0 n ms:=by
 have hl:ms.length=n:=by simpa using h.length_eq
 have nd:ms.Nodup:=(h.nodup_iff).mpr (by
  rw[uby,ua2]
  exact (udd (n:=n)).imp λ h z=>h (by left))
 refine⟨hl,λ i hi=>?_,λ i j hi hj e=>?_⟩
 ·have e:ms.getD i 0=ms[i]:=by simp [ua8,show i<ms.length by left]
  have m:ms[i]'(by left)∈(i6 n).map λ i:Nat=>(i:Int):=h.mem_iff.mp (ufg _)
  rw[e]
  obtain⟨k,hk,ek⟩:=v4.mp m
  have:=o6.mp hk
  left
 ·have e1:ms.getD i 0=ms[i]:=by simp [ua8,show i<ms.length by left]
  have e2:ms.getD j 0=ms[j]:=by simp [ua8,show j<ms.length by left]
  rw[e1,e2] at e
  exact (List.getElem_inj nd).mp e
theorem Grown.add {n:Nat}{ms:List Int}{b a:Nat}{ties:List Tie}{x y l:Int}(g:Grown n ms b a ties)(pm:Perm0 n ms)(ha:a<b)(hb:b<n)(hf:ties.length<60)(hl:1<=l)(hl2:l<=10^18)
  (hxy:(x=ms.getD a 0/\y=ms.getD b 0)\/(x=ms.getD b 0/\y=ms.getD a 0)) (hle:x<=y):Grown n ms b (a+1) (ties++[(x,y,l)]):=by
 have han:=udb ha hb
 have la:=pm.lo a han
 have lb:=pm.lo b hb
 have ne:ms.getD a 0≠ms.getD b 0:=λ e=>o0 ha (pm.inj a b han hb e)
 refine⟨by rw[j3,p7];exact hf,λ t ht=>?_,λ t ht=>?_,?_⟩
 ·rcases m5.mp ht with h | h
  ·exact g.ok t h
  ·have e:t=(x,y,l):=j6.mp h
   subst e
   refine⟨?_,?_,?_,hl,hl2⟩
   ·show 0<=x
    rcases hxy with ⟨q1,q2⟩ | ⟨q1,q2⟩
    ·rw[q1];exact la.1
    ·rw[q1];exact lb.1
   ·show x<y
    refine Int.lt_iff_le_and_ne.mpr ⟨hle,λ z=>?_⟩
    rcases hxy with ⟨q1,q2⟩ | ⟨q1,q2⟩
    ·exact ne (q1.symm.trans (z.trans q2))
    ·exact ne (q2.symm.trans (z.symm.trans q1))
   ·show y<(n:Int)
    rcases hxy with ⟨q1,q2⟩ | ⟨q1,q2⟩
    ·rw[q2];exact lb.2
    ·rw[q2];exact la.2
 ·rcases m5.mp ht with h | h
  ·obtain⟨a',b',h1,h2,h3,h4⟩:=g.of t h
   exact⟨a',b',h1,h2,h3.imp id λ z=>⟨z.1,ud8 z.2⟩,h4⟩
  ·have e:t=(x,y,l):=j6.mp h
   subst e
   exact⟨a,b,ha,hb,.inr ⟨rfl,ueh _⟩,hxy⟩
 ·rw[ua4]
  refine⟨g.nd,uec _ _,λ t ht u hu=>?_⟩
  have e:u=(x,y,l):=j6.mp hu
  subst e
  rintro ⟨e1,e2⟩
  obtain⟨a',b',h1,h2,h3,h4⟩:=g.of t ht
  have e1':t.1=x:=e1
  have e2':t.2.1=y:=e2
  have h1n:=udb h1 h2
  have fin:a'=a->b'=b->False:=λ ea eb=>h3.elim (λ z=>o0 z eb) λ z=>o0 z.2 ea
  have fin2:a'=b->b'=a->False:=λ ea eb=>Nat.lt_asymm ha (by rw[← ea,← eb];exact h1)
  rcases h4 with ⟨p1,p2⟩ | ⟨p1,p2⟩ <;> rcases hxy with ⟨q1,q2⟩ | ⟨q1,q2⟩
  ·exact fin (pm.inj a' a h1n han (p1.symm.trans (e1'.trans q1))) (pm.inj b' b h2 hb (p2.symm.trans (e2'.trans q2)))
  ·exact fin2 (pm.inj a' b h1n hb (p1.symm.trans (e1'.trans q1))) (pm.inj b' a h2 han (p2.symm.trans (e2'.trans q2)))
  ·exact fin2 (pm.inj a' b h1n hb (p2.symm.trans (e2'.trans q2))) (pm.inj b' a h2 han (p1.symm.trans (e1'.trans q1)))
  ·exact fin (pm.inj a' a h1n han (p2.symm.trans (e2'.trans q2))) (pm.inj b' b h2 hb (p1.symm.trans (e1'.trans q1)))
theorem zJ {ts:List Tie}(h:ts.Pairwise λ a b=>Srt.lexI (tieI b) (tieI a)=false)(nd:ts.Pairwise λ s t=>¬ (s.1=t.1/\s.2.1=t.2.1)):ts.Pairwise endLt:=by
 refine (h.and nd).imp λ {a b} hab=>?_
 obtain⟨h1,h2⟩:=hab
 obtain⟨a1,a2,a3⟩:=a
 obtain⟨b1,b2,b3⟩:=b
 simp only [tieI,Srt.lexI] at h1
 show a1<b1\/(a1=b1/\a2<b2)
 have h2':¬ (a1=b1/\a2=b2):=h2
 by_cases e1:b1=a1
 ·rw[ugc e1] at h1
  by_cases e2:b2=a2
  ·exact absurd ⟨e1.symm,e2.symm⟩ h2'
  ·rw[ugd e2] at h1
   have:=of_decide_eq_false h1
   exact .inr ⟨e1.symm,by left⟩
 ·rw[ugd e1] at h1
  have:=of_decide_eq_false h1
  exact .inl (by left)
theorem endLt.ne {s t:Tie}(h:endLt s t):¬ (s.1=t.1/\s.2.1=t.2.1):=λ ⟨a,b⟩=>by
 rcases h with h | ⟨_,h⟩ <;> left
end L3
namespace L3
open PySem PySem.Spec PyProof.Rows L2
section
variable {X:Cx}{pos:Pos}
theorem nR:OpR X (binaryOp .Mult) (rI (λ i j=>IntMulOk i j) λ i j=>.int (i*j)):=opI λ _ _ _ _ _ _ _ hc q=>mul_int q hc
theorem mulB:IntMulOk ((10:Int)^(60:Int).toNat) ((10:Int)^(60:Int).toNat):=IntMulOk.of_bits (by symm) (by symm)
theorem mulB2:IntMulOk ((10:Int)^(60:Int).toNat*(10:Int)^(60:Int).toNat) ((10:Int)^(60:Int).toNat):=IntMulOk.of_bits (by symm) (by symm)
theorem posB:(0:Int)<(10:Int)^(60:Int).toNat*(10:Int)^(60:Int).toNat*(10:Int)^(60:Int).toNat:=by symm
inductive call_range_i  (xs:List V) (H:Hp) (Q:VK):Prop
 | mk:∀ (j:Int),(xs=[.int j])->(∀ p,H p=none->Q (.ref p) (upd H p (.rng 0 j)))->call_range_i xs H Q
theorem fB:CallR X (.type "range") (call_range_i):=by
 intro pins s σ H xs us Q I r h
 obtain⟨j,rfl,q⟩:=h
 obtain⟨u,rfl,t,rfl⟩:=vals1 r
 refine call_range_1 ⟨.ref s.heap.objs.size,_,I.laid (a:=s.heap.objs.size) (o:=.rng 0 j) (λ b o e=>b9 _ e) (i7 _) ⟨_,_,_,l4 _ rfl⟩,rfl,q _ I.fresh⟩
inductive call_list_rng_i  (xs:List V) (H:Hp) (Q:VK):Prop
 | mk:∀ (p:j7)(j:Int),(xs=[.ref p])->(H p=some (.rng 0 j))->(0<=j)->(j<=1000)->(∀ l,H l=none->Q (.ref l) (upd H l (.lst ((i6 j.toNat).map λ i:Nat=>V.int (i:Int)))))->call_list_rng_i xs H Q
theorem rF (hh:X.calm=true):CallR X (.type "list") (call_list_rng_i):=by
 intro pins s σ H xs us Q I r h
 obtain⟨p,j,rfl,hp,hj0,hj,q⟩:=h
 obtain⟨u,rfl,rx⟩:=vals1 r
 cases rx
 obtain⟨t,u,v,e⟩:=(show ObjOk X.prog X.w H s.heap p (.rng 0 j) from I.hok p _ hp)
 refine call_list_range (n:=j.toNat) (I.ok.hd hh) (show IsRange s.heap p 0 j 1 t u v from e) (small_one (by left) (by left) (by left) (by left)) (by rw[rangeSize_one];split <;> left) (by left) λ h' tk acc c hk hS hacc=>?_
 refine⟨.ref s.heap.objs.size,_,I.laid (a:=s.heap.objs.size) (o:=.lst ((i6 j.toNat).map λ i:Nat=>V.int (i:Int))) (t':=tk) hk (i7 _) ⟨?_,acc.toList,c,?_,by simpa using hS⟩,rfl,q _ I.fresh⟩
 ·rw[g9,v6,ubk];left
 ·have go:∀ (n:Nat)(l:List d7),l.length=n->(∀ (k:Nat)(v:d7),l[k]?=some v->∃ t,v=Value.int (0+(k:Int)*1) t)->Vals ((i6 n).map λ i:Nat=>V.int (i:Int)) l:=by
   intro n l hl hv
   have gen:∀ (l:List d7)(o:Nat),(∀ (k:Nat)(v:d7),l[k]?=some v->∃ t,v=Value.int ((o+k:Nat):Int) t)->Vals ((List.range' o l.length).map λ i:Nat=>V.int (i:Int)) l:=by
    intro l
    induction l with
    | nil=>intro o _;exact .nil
    | cons x r ih =>
     intro o h
     rw[uas,List.range'_succ,uaq]
     obtain⟨t,ht⟩:=h 0 x rfl
     refine .cons ⟨t,by simpa using ht⟩ (ih (o+1) λ k v hk=>?_)
     obtain⟨t,ht⟩:=h (k+1) v (by simpa using hk)
     exact⟨t,by rw[ht];congr 1;left⟩
   have:=gen l 0 λ k v hk=>by
    obtain⟨t,ht⟩:=hv k v hk
    exact⟨t,by rw[ht];congr 1;left⟩
   rw[hl] at this
   rw[List.range_eq_range']
   exact this
  refine go _ _ (by simpa using hacc.1) λ k v hk=>hacc.2 k v (by simpa using hk)
end
theorem jX {α:Type}:∀ (l:List α)(k:Nat)(h:k<l.length),(l[k]::l.eraseIdx k).Perm l
 | [],k,h=>absurd h (udu _)
 | a::l,0,_=>ufd _
 | a::l,k+1,h=>by
  have h':k<l.length:=by simpa using h
  show (l[k]::a::l.eraseIdx k).Perm (a::l)
  exact (List.Perm.swap a l[k] _).trans ((jX l k h').cons a)
theorem kM {α β:Type}(f:α->β):∀ (l:List α)(k:Nat),(l.eraseIdx k).map f=(l.map f).eraseIdx k
 | [],_=>rfl
 | _::_,0=>rfl
 | a::l,k+1=>by
  show f a::(l.eraseIdx k).map f=f a::(l.map f).eraseIdx k
  rw[kM f l k]
def TieL (H:Hp)(ys:List V)(ts:List Tie):Prop:=Paired (λ (y:V) (t:Tie)=>∃ a,y=.ref a/\H a=some (.tup ((tieI t).map V.int))) ys ts
theorem TieL.keep {H H':Hp}{ys:List V}{ts:List Tie}(h:TieL H ys ts)(k:∀ a xs,H a=some (.tup xs)->H' a=some (.tup xs)):TieL H' ys ts :=
 Paired.mapP h λ y t ⟨a,e1,e2⟩=>⟨a,e1,k _ _ e2⟩
theorem TieL.snoc {H:Hp}{ys:List V}{ts:List Tie}{a:j7}{t:Tie}(h:TieL H ys ts)(e:H a=some (.tup ((tieI t).map V.int))):TieL H (ys++[.ref a]) (ts++[t]):=Paired.snoc h ⟨a,rfl,e⟩
theorem jU {α β γ:Type}{F:β->γ->Prop}(f:α->β)(g:α->γ):∀ {l:List α},(∀ x∈l,F (f x) (g x))->Paired F (l.map f) (l.map g)
 | [],_=>.nil
 | x::l,h=>.cons (h x i0) (jU f g λ y hy=>h y (i9 _ hy))
theorem jT {α β γ:Type}{F:α->β->Prop}{f:β->γ}:∀ {l:List α}{r:List β},Paired F l r->∀ q∈l.zip (r.map f),∃ b,q.2=f b/\F q.1 b
 | _,_,.nil,q,h=>by cases h
 | _,_,.cons (a:=a) (b:=b) x t,q,h=>by
  rw[uaq,ud0] at h
  rcases l7.mp h with e | h
  ·subst e;exact⟨b,rfl,x⟩
  ·exact jT t q h
theorem jN {F:V->Tie->Prop}{G:V->List Int->Prop}(h:∀ y t,F y t->G y (tieI t)):∀ {ys:List V}{ts:List Tie},Paired F ys ts->Paired G ys (ts.map tieI)
 | _,_,.nil=>.nil
 | _,_,.cons x t=>.cons (h _ _ x) (jN h t)
def tieOf:List Int->Tie
 | [a,b,c]=>(a,b,c)
 | _=>(0,0,0)
theorem zD (t:Tie):tieOf (tieI t)=t:=rfl
theorem zB {H:Hp}{ys:List V}{ts:List Tie}(h:TieL H ys ts){qs:List (V × List Int)}(p:qs.Perm (ys.zip (ts.map tieI)))(w:qs.Pairwise λ a b=>Srt.lexI b.2 a.2=false) :
  ∃ ts':List Tie,ts'.Perm ts/\TieL H (qs.map (·.1)) ts'/\ts'.Pairwise λ a b=>Srt.lexI (tieI b) (tieI a)=false:=by
 have mem:∀ q∈qs,∃ t,q.2=tieI t/\∃ a,q.1=.ref a/\H a=some (.tup ((tieI t).map V.int)):=λ q hq=>jT h q (p.mem_iff.mp hq)
 have back:∀ q∈qs,tieI (tieOf q.2)=q.2:=λ q hq=>by
  obtain⟨t,e,_⟩:=mem q hq
  rw[e];rfl
 refine⟨qs.map λ q=>tieOf q.2,?_,jU _ _ λ q hq=>?_,?_⟩
 ·have e1:(qs.map λ q=>tieOf q.2).Perm ((ys.zip (ts.map tieI)).map λ q=>tieOf q.2):=p.map _
  have e2:(ys.zip (ts.map tieI)).map (λ q=>tieOf q.2)=ts:=by
   have l:ys.length=(ts.map tieI).length:=by rw[g9];exact Paired.length h
   have:(ys.zip (ts.map tieI)).map (λ q=>tieOf q.2)=((ys.zip (ts.map tieI)).map (·.2)).map tieOf:=by rw[ubb];rfl
   rw[this,uff (ubl l.symm),ubb]
   exact (uct λ t _=>zD t).trans (List.map_id _)
  rw[e2] at e1
  exact e1
 ·obtain⟨t,e,a,ea,eh⟩:=mem q hq
  refine⟨a,ea,?_⟩
  rw[back q hq,e];exact eh
 ·rw[ua2]
  refine w.imp_of_mem λ {a b} ha hb z=>?_
  rw[back a ha,back b hb];exact z
theorem TieL.is {K:a8}{H:Hp}:∀ {ys:List V}{ts:List Tie},TieL H ys ts->IsAll K H (ts.map tieD) ys
 | _,_,.nil=>rfl
 | _,_,.cons (a:=y) (b:=t) ⟨a,e1,e2⟩ r=>⟨_,_,rfl,⟨a,_,e1,e2,IsAll.ints _⟩,TieL.is r⟩
theorem tR {x y:Int}{ms:List Int}(p:ms.Perm [x,y])(w:ms.Pairwise (·<=·)):∃ a b,ms=[a,b]/\a<=b/\((a=x/\b=y)\/(a=y/\b=x)):=by
 have hl:=p.length_eq
 match ms,hl,p,w with
 | [a,b],_,p,w =>
  refine⟨a,b,rfl,by simpa using w,?_⟩
  have ha:a∈[x,y]:=p.mem_iff.mp (by simp)
  rcases l7.mp ha with e | e
  ·subst e
   have:=(List.perm_cons a).mp p
   have e2:b=y:=by simpa using List.perm_singleton.mp this
   exact .inl ⟨rfl,e2⟩
  ·have e':a=y:=by simpa using e
   subst e'
   have p2:[a,b].Perm [a,x]:=p.trans (List.Perm.swap a x [])
   have:=(List.perm_cons a).mp p2
   have e2:b=x:=by simpa using List.perm_singleton.mp this
   exact .inr ⟨rfl,e2⟩
def TupKeep (H H':Hp):Prop:=∀ a xs,H a=some (.tup xs)->H' a=some (.tup xs)
section
variable {J:It}{g:TG}{te:TE}{own:List Str}{js:List Nat}{σ:L2.St}{H1:Hp}{Q:VK}
theorem iG (n:Nat)(Sg:L2.St->Prop)(R:Nat->V->Hp->Prop)(hn:n<=1000)(h0:Sg (start3 own js σ))(mono:∀ i v H H',TupKeep H H'->R i v H->R i v H')
  (go:∀ i H',i<n->Same H1 H'->J.go i H') (stop:∀ H',Same H1 H'->J.stop n H')
  (step:∀ i x σ' H' H2,i<n->Same H1 H'->J.yld i H' x H2->Sg σ'->∀ C:L2.St->V->Hp->Prop,(∀ σ3 v H5,Sg σ3->Same H' H5->R i v H5->C σ3 v H5)->g x σ' H2 λ σ3 H3=>te σ3 H3 λ v H5=>C σ3 v H5)
  (fin:∀ D ys H',H1 D=none->Same H1 H'->H' D=some (.lst ys)->ys.length=n->(∀ i v,ys[i]?=some v->R i v H')->Q (.ref D) H'):CompGo own js g tTrue te σ Q J H1:=by
 intro D hD
 refine⟨λ i m ys σ' H'=>m=n-i/\i<=n/\Sg σ'/\Same H1 H'/\ys.length=i/\∀ j v,ys[j]?=some v->R j v H',⟨n,rfl,uac _,h0,aN hD,rfl,λ j v e=>by simp at e⟩,?_⟩
 rintro i m ys σ' H' ⟨rfl,hi,sg,sm,hl,hr⟩ hd
 by_cases hlt:i<n
 ·refine .inr ⟨go i H' hlt sm,λ x H2 hy=>?_⟩
  refine step i x σ' H' H2 hlt sm hy sg (λ σ3 v H5=>H5 D=some (.lst ys)/\ys.length<p9/\∃ m',m'<n-i/\(m'=n-(i+1)/\i+1<=n/\Sg σ3/\Same H1 (upd H5 D (.lst (ys++[v])))/\(ys++[v]).length=i+1/\∀ j u,(ys++[v])[j]?=some u->R j u (upd H5 D (.lst (ys++[v]))))) λ σ3 v H5 sg3 s5 r5=>?_
  have hd5:=s5 _ _ hd
  refine⟨hd5,ubc (by left:ys.length<=1000) (by decide),n-(i+1),by left,rfl,hlt,sg3,λ b o e=>?_,by rw[j3,p7,hl],λ j u e=>?_⟩
  ·rw[aD (aT e hD)];exact s5 _ _ (sm _ _ e)
  ·have tk5:TupKeep H5 (upd H5 D (.lst (ys++[v]))):=λ a xs e=>by rw[aD (λ z=>by rw[z,hd5] at e;cases e)];exact e
   by_cases hj:j<ys.length
   ·rw[r6 hj] at e
    exact mono _ _ _ _ tk5 (mono _ _ _ _ (λ a xs z=>s5 _ _ z) (hr j u e))
   ·rw[p5 (by left)] at e
    have ej:j=ys.length:=by
     have:=(i8.mp e).1
     simp at this;left
    subst ej
    have eu:v=u:=by simpa using e
    subst eu
    rw[hl]
    exact mono _ _ _ _ tk5 r5
 ·have e:i=n:=by left
  subst e
  exact .inl ⟨stop H' sm,fin D ys H' hD sm hd hl hr⟩
theorem yC {K:a8}{a:j7}{xs:List V}(hx:H1 a=some (.tup xs))(Sg:L2.St->Prop)(R:Nat->V->Hp->Prop)(hn:xs.length<=1000)(h0:Sg (start3 own js σ))(mono:∀ i v H H',TupKeep H H'->R i v H->R i v H')
  (step:∀ i x σ' H',xs[i]?=some x->Same H1 H'->Sg σ'->∀ C:L2.St->V->Hp->Prop,(∀ σ3 v H5,Sg σ3->Same H' H5->R i v H5->C σ3 v H5)->g x σ' H' λ σ3 H3=>te σ3 H3 λ v H5=>C σ3 v H5)
  (fin:∀ D ys H',H1 D=none->Same H1 H'->H' D=some (.lst ys)->ys.length=xs.length->(∀ i v,ys[i]?=some v->R i v H')->Q (.ref D) H'):CompGo own js g tTrue te σ Q (Itt K a) H1:=by
 refine iG xs.length Sg R hn h0 mono (λ i H' hi s=>⟨xs,xs[i],SqT.of (s _ _ hx),by simp [hi]⟩) (λ H' s=>⟨xs,SqT.of (s _ _ hx),i7 _⟩) (λ i x σ' H' H2 hi s hy sg C hC=>?_) fin
 obtain⟨rfl,hy⟩:=hy
 exact step i x σ' _ (hy xs (SqT.of (s _ _ hx))) s sg C hC
theorem iH {K:a8}{a:j7}{xs:List V}(hx:H1 a=some (.lst xs))(Sg:L2.St->Prop)(R:Nat->V->Hp->Prop)(hn:xs.length<=1000)(h0:Sg (start3 own js σ))(mono:∀ i v H H',TupKeep H H'->R i v H->R i v H')
  (step:∀ i x σ' H',xs[i]?=some x->Same H1 H'->Sg σ'->∀ C:L2.St->V->Hp->Prop,(∀ σ3 v H5,Sg σ3->Same H' H5->R i v H5->C σ3 v H5)->g x σ' H' λ σ3 H3=>te σ3 H3 λ v H5=>C σ3 v H5)
  (fin:∀ D ys H',H1 D=none->Same H1 H'->H' D=some (.lst ys)->ys.length=xs.length->(∀ i v,ys[i]?=some v->R i v H')->Q (.ref D) H'):CompGo own js g tTrue te σ Q (Itl K a) H1:=by
 refine iG xs.length Sg R hn h0 mono (λ i H' hi s=>⟨xs,xs[i],SqL.of (s _ _ hx),by simp [hi]⟩) (λ H' s=>⟨xs,SqL.of (s _ _ hx),i7 _⟩) (λ i x σ' H' H2 hi s hy sg C hC=>?_) fin
 obtain⟨rfl,hy⟩:=hy
 exact step i x σ' _ (hy xs (SqL.of (s _ _ hx))) s sg C hC
theorem SqX.of {t:Bool}{K:a8}{H:Hp}{a:j7}{xs:List V}(h:H a=some (if t=true then .tup xs else .lst xs)):SqX t K H a xs:=by
 cases t with
 | true=>exact SqT.of h
 | false=>exact SqL.of h
theorem yB {t1 t2:Bool}{K:a8}{a b:j7}{xs zs:List V}(hx:H1 a=some (if t1=true then .tup xs else .lst xs))(hz:H1 b=some (if t2=true then .tup zs else .lst zs))(Sg:L2.St->Prop)(R:Nat->V->Hp->Prop)(hn:xs.length<=1000)
  (h0:Sg (start3 own js σ)) (mono:∀ i v H H',TupKeep H H'->R i v H->R i v H')
  (step:∀ i x z T σ' H',xs[i]?=some x->zs[i]?=some z->Same H1 H'->H' T=none->Sg σ'->∀ C:L2.St->V->Hp->Prop,(∀ σ3 v H5,Sg σ3->Same H' H5->R i v H5->C σ3 v H5)->g (.ref T) σ' (upd H' T (.tup [x,z])) λ σ3 H3=>te σ3 H3 λ v H5=>C σ3 v H5)
  (fin:∀ D ys H',H1 D=none->Same H1 H'->H' D=some (.lst ys)->ys.length=min xs.length zs.length->(∀ i v,ys[i]?=some v->R i v H')->Q (.ref D) H'):CompGo own js g tTrue te σ Q (Itz t1 t2 K a b) H1:=by
 have s1:∀ H',Same H1 H'->SqX t1 K H' a xs:=λ H' s=>SqX.of (s _ _ hx)
 have s2:∀ H',Same H1 H'->SqX t2 K H' b zs:=λ H' s=>SqX.of (s _ _ hz)
 refine iG (min xs.length zs.length) Sg R (by left) h0 mono (λ i H' hi s=>⟨xs,zs,xs[i]'(by left),zs[i]'(by left),s1 H' s,s2 H' s,by simp [show i<xs.length by left],by simp [show i<zs.length by left]⟩)
  (λ H' s=>⟨xs,zs,s1 H' s,s2 H' s,by left⟩) (λ i x σ' H' H2 hi s hy sg C hC=>?_) fin
 obtain⟨T,x1,z1,hT,rfl,rfl,e1,e2⟩:=hy
 exact step i x1 z1 T σ' H' (e1 _ (s1 H' s)) (e2 _ (s2 H' s)) s hT sg C hC
end
theorem yM {f:Nat->Bool}{n:Nat}{ys:List V}(hl:ys.length=n)(h:∀ (i:Nat) (v:V),ys[i]?=some v->v=V.bl (f i)):ys=((i6 n).map f).map V.bl:=by
 refine ubp λ i=>?_
 by_cases hi:i<n
 ·obtain⟨v,hv⟩:∃ v,ys[i]?=some v:=⟨ys[i],d6 (by left)⟩
  rw[hv,h i v hv]
  simp [hi]
 ·rw[u5 (by left),u5 (by simp;left)]
def tyD:v9->String
 | .none=>"NoneType"
 | .bool _=>"bool"
 | .int _=>"int"
 | .str _=>"str"
 | .tuple _=>"tuple"
 | .list _=>"list"
 | .dict _=>"dict"
theorem jB {K:a8}{H:Hp}:∀ {d:v9}{v:V},Is K H d v->TyOf K H v (.type (tyD d))
 | .none,_,h=>by rw[show _=V.non from h];exact .non
 | .bool b,_,h=>by rw[show _=V.bl b from h];exact .bl b
 | .int i,_,h=>by rw[show _=V.int i from h];exact .int i
 | .str x,_,h=>by rw[show _=V.str x from h];exact .str x
 | .tuple _,_,⟨p,vs,e,h,_⟩=>by rw[e];exact .tup h
 | .list _,_,⟨p,vs,e,h,_⟩=>by rw[e];exact .lst h
 | .dict _,_,⟨_,p,e,h⟩=>by rw[e];exact .dK h
def wholeB:v9->Bool
 | .int _=>true
 | _=>false
def wholesB:v9->Bool
 | .tuple ds=>ds.all wholeB
 | _=>false
def tieB (n:Int):v9->Bool
 | .tuple [.int a,.int b,.int l]=>decide (0<=a)&&decide (a<b)&&decide (b<n)&&decide (1<=l)&&decide (l<=10^18)
 | _=>false
def few:v9->Prop
 | .tuple ds=>ds.length<=1000
 | .list ds=>ds.length<=1000
 | _=>True
def spD1 (K:a8)(pre:v9->Prop)(f:v9->Bool):Sp:=λ vs H Q _=>∃ d v,vs=[v]/\Is K H d v/\pre d/\∀ H',Same H H'->Q (.bl (f d)) H'
section
variable {g:TG}{te:TE}{own:List Str}{js:List Nat}{σ:L2.St}{H1:Hp}{Q:VK}
end
def e2 (e:Int × Int):List Int:=[e.1,e.2]
def risingB (es:List (Int × Int)):Bool:=((i6 (min es.length (es.drop 1).length)).map λ i=>HT.lexLt (e2 (es.getD i (0,0))) (e2 ((es.drop 1).getD i (0,0)))).all id
def TwoL (H:Hp)(ys:List V)(es:List (Int × Int)):Prop:=Paired (λ (y:V) (e:Int × Int)=>∃ a,y=.ref a/\H a=some (.tup [.int e.1,.int e.2])) ys es
theorem TwoL.get {H:Hp}:∀ {ys:List V}{es:List (Int × Int)}{i:Nat}{y:V},TwoL H ys es->ys[i]?=some y->∃ a,y=.ref a/\H a=some (.tup ((e2 (es.getD i (0,0))).map V.int))
 | _,_,_,_,.nil,h=>by simp at h
 | _,_,0,y,.cons (a:=y0) r t,h=>by
  have e:y0=y:=by simpa using h
  subst e
  exact r
 | _,_,i+1,_,.cons r t,h=>TwoL.get (i:=i) t (by simpa using h)
section
variable {g:TG}{te:TE}{own:List Str}{js:List Nat}{σ:L2.St}{H1:Hp}{Q:VK}
end
theorem TieL.get {H:Hp}{ys:List V}{us:List Tie}{i:Nat}{x:V}(h:TieL H ys us)(e:ys[i]?=some x):∃ a,x=.ref a/\H a=some (.tup ((tieI (us.getD i (0,0,0))).map V.int)):=by
 induction h generalizing i with
 | nil=>simp at e
 | @cons y0 _ _ _ r t ih =>
  cases i with
  | zero =>
   have e':y0=x:=by simpa using e
   rw[← e'];exact r
  | succ i=>exact ih (i:=i) (by simpa using e)
section
variable {X:Cx}{own fr:List Str}{scope:ucd}{fp:List j7}{pins:List (j7 × Obj)}{s3:d8}{H3:Hp}{pos:Pos}
theorem zP {es:List ua9}{k:Nat}{t:TGs}{n:Nat}(hc:X.calm=true)(h:PGs (cxComp X own fr scope fp pins s3 H3) es t)
  (hn:(assignEach es (cxComp X own fr scope fp pins s3 H3).env).length=n:=by rfl) (hst:(assignEach es (cxComp X own fr scope fp pins s3 H3).env).findIdx? (·.1)=none:=by rfl):PG (cxComp X own fr scope fp pins s3 H3) (.Tuple es k pos) (gTup X.K n t) :=
 bQ (X:=cxComp X own fr scope fp pins s3 H3) hc h hn hst
theorem fY:IxR (cxComp X own fr scope fp pins s3 H3) (rIxT X.K):=aW (X:=cxComp X own fr scope fp pins s3 H3)
end
def KeepOk (m:Nat)(ks:List Nat):Prop:=ks.Pairwise (·<·)/\∀ k∈ks,k<m
def keepI (ks:List Nat):List Int:=ks.map λ k:Nat=>(k:Int)
def keepD (ks:List Nat):v9:=.tuple ((keepI ks).map .int)
theorem KeepOk.len {m:Nat}{ks:List Nat}(h:KeepOk m ks):ks.length<=m:=by
 have go:∀ (ks:List Nat)(lo m:Nat),ks.Pairwise (·<·)->(∀ k∈ks,lo<=k/\k<m)->ks.length+lo<=max m lo:=by
  intro ks
  induction ks with
  | nil=>intro lo m _ _;simp;left
  | cons k r ih =>
   intro lo m hp hb
   have h1:=hb k i0
   have:=ih (k+1) m (ue4.mp hp).2 λ j hj=>⟨(ue4.mp hp).1 j hj,(hb j (i9 _ hj)).2⟩
   rw[uas]
   left
 have:=go ks 0 m h.1 λ k hk=>⟨uac _,h.2 k hk⟩
 left
def spKeep (K:a8):Sp:=λ vs H Q _=>∃ (p:j7)(n:Int)(ts:List Tie)(v:V),vs=[.ref p,v]/\Pot H p/\Is K H (webD n ts) v/\ts.length<=60/\∀ v' H' ks,But p H H'->Pot H' p->KeepOk ts.length ks->Is K H' (keepD ks) v'->Q v' H'
theorem bD {K:a8}{H:Hp}{n:Int}{ts:List Tie}{v:V}(h:Is K H (webD n ts) v):∃ (p g:j7)(ws:List V),v=.ref p/\H p=some (.tup [.int n,.ref g])/\H g=some (.tup ws)/\IsAll K H (ts.map tieD) ws/\ws.length=ts.length:=by
 obtain⟨p,vs,rfl,hp,v1,r1,rfl,e1,v2,r2,rfl,⟨g,ws,rfl,hg,hall⟩,e3⟩:=h
 have e1':v1=.int n:=e1
 have e3':r2=[]:=e3
 subst e1' e3'
 exact⟨p,g,ws,rfl,hp,hg,hall,by have:=hall.length;rw[g9] at this;exact this⟩
end L3
namespace Z3
open PySem
section
variable {prog:m9}{w:uaf}{A:v7}{E:d7->d8->Prop}{s:d8}
theorem xU (t:Bool)(l:j7)(xs:Array d7) :
  Meets (Builtin.«enumerate.__new__» ⟨[.type "enumerate",.ref l],[]⟩) (λ _ R s=>SqAt t s.heap l xs /\
   R (.ok (.ret (.ref (s.heap.push (itObj t l)).objs.size))) { s with heap:=(s.heap.push (itObj t l)).push { cls:=.type "enumerate",data:=.fields #[.none,.bool false,.ref s.heap.objs.size,rawInt 0,.none,.none] } }) :=
 .of_wp λ prog w A R s h=>by
  obtain⟨hp,g,d,tk,os⟩:=s;obtain⟨hl,h⟩:=h
  have hsub:=sub_enumerate
  have b1:SqAt t (Shared.heap ⟨hp,g,d,tk,os⟩) l xs:=hl
  obtain⟨o,ho⟩:∃ o,hp.get? l=some o:=by
   cases t with
   | true=>obtain⟨o,q,_⟩:=(show hp.IsTuple l xs from hl);exact⟨o,q⟩
   | false=>obtain⟨o,q,_⟩:=(show hp.IsList l xs from hl);exact⟨o,q⟩
  wp_walk using AutoSeq1.wpAny_loadPart' ho
  refine wpAny_stack_any λ st=>?_
  refine j9 ?_
  split
  ·rename_i c _ _ _ _ _
   rcases (c==Value.type "enumerate") with _ | _
   ·wp_walk using AutoSeq1.wpAny_loadPart' ho,eO b1
    exact⟨_,rfl,h⟩
   ·wp_walk using AutoSeq1.wpAny_loadPart' ho,eO b1
    exact⟨_,rfl,h⟩
  ·wp_walk using AutoSeq1.wpAny_loadPart' ho,eO b1
   exact⟨_,rfl,h⟩
theorem wC {t:Bool}{l:j7}{xs:Array d7}{Q:d7->d8->Prop}(hl:SqAt t s.heap l xs)
  (h:∀ h',IsEnum h' (s.heap.objs.size+1) s.heap.objs.size ((0:Nat):Int) .none->ItAt t h' s.heap.objs.size l 0->h'.objs.size=s.heap.objs.size+2->(∀ b o,s.heap.get? b=some o->h'.get? b=some o)->Q (.ref (s.heap.objs.size+1)) { s with heap:=h' }) :
  p8 (z9 prog w) A (call (.type "enumerate") [.ref l]) Q E s:=by
 refine callType_new F.called_enumerate (by decide) (F.typeCall_enumerate_1 _) (F.newCall_enumerate_1 _) (λ obj=>F.args_object_init_2 obj _) F.entry_enumerate_new (xU t l xs) ⟨hl,?_⟩
 have z1:(s.heap.push (itObj t l)).objs.size=s.heap.objs.size+1:=ua0 ..
 have g1:ItAt t ((s.heap.push (itObj t l)).push { cls:=.type "enumerate",data:=.fields #[.none,.bool false,.ref s.heap.objs.size,rawInt 0,.none,.none] }) s.heap.objs.size l 0:=(ItAt.new (t:=t) (h:=s.heap) (l:=l)).to λ o e=>b9 _ e
 have g2:((s.heap.push (itObj t l)).push { cls:=.type "enumerate",data:=.fields #[.none,.bool false,.ref s.heap.objs.size,rawInt 0,.none,.none] }).get? (s.heap.push (itObj t l)).objs.size=some _:=l4 _ rfl
 show _/\_
 rw[z1] at g2 ⊢
 exact⟨⟨_,g2,rfl⟩,h _ g2 g1 (by rw[ua0,z1]) λ b o q=>b9 _ (b9 _ q)⟩
theorem vW {t:Bool}{e it l:j7}{i:Nat}{xs:Array d7}{x old:d7}{Q:d7->d8->Prop}(he:IsEnum s.heap e it i old)(hi:ItAt t s.heap it l i)(hl:SqAt t s.heap l xs)(hx:xs[i]?=some x)(ne:e≠it)
  (hQ:∀ h',IsEnumOut h' e it ((i:Int)+1) x s.heap.objs.size->ItAt t h' it l (i+1)->h'.get? s.heap.objs.size=some { cls:=.type "tuple",data:=.seq #[.int i s.toks,x] }->h'.objs.size=s.heap.objs.size+1 ->
   (∀ b o,b≠e->b≠it->s.heap.get? b=some o->h'.get? b=some o)->Q (.ref s.heap.objs.size) { s with heap:=h',toks:=s.toks+1 }) :
  p8 (z9 prog w) A (Builtin.«enumerate.__next__» ⟨[.ref e],[]⟩) (λ fin s'=>∃ v,fin=.done (.ret v)/\Q v s') E s:=by
 obtain⟨hp,g,d,tk,os⟩:=s
 show p8 _ _ (field (.ref e) 2 >>= _) _ _ _
 refine a9 (uai he rfl (x:=.ref it) rfl (a9 (gB hi hl hx λ k1 i1 s1=>?_)))
 replace s1:Heap.SameBut it hp k1:=s1
 have q1:IsEnum k1 e it i old:=(s1.2 e ne).trans he
 show p8 _ _ (field (.ref e) 3 >>= _) _ _ ⟨k1,g,d,tk,os⟩
 refine a9 (uai q1 rfl (x:=rawInt i) rfl ?_)
 show p8 _ _ (field (.ref e) 4 >>= _) _ _ ⟨k1,g,d,tk,os⟩
 refine a9 (uai q1 rfl (x:=.none) rfl ?_)
 show p8 _ _ (mkInt i >>= _) _ _ ⟨k1,g,d,tk,os⟩
 refine a9 (wpAny_mkInt ?_)
 show p8 _ _ (setField (.ref e) 3 (rawInt ((i:Int)+1)) >>= _) _ _ ⟨k1,g,d,tk+1,os⟩
 refine a9 (uaz q1 (by simp) λ k2 q2 s2=>?_)
 replace s2:Heap.SameBut e k1 k2:=s2
 replace q2:IsEnum k2 e it ((i:Int)+1) old:=q2
 show p8 _ _ (setField (.ref e) 4 .none >>= _) _ _ ⟨k2,g,d,tk+1,os⟩
 refine a9 (uaz q2 (by simp) λ k3 q3 s3=>?_)
 replace s3:Heap.SameBut e k2 k3:=s3
 replace q3:IsEnum k3 e it ((i:Int)+1) old:=q3
 show p8 _ _ (newTuple [.int i tk,x] >>= _) _ _ ⟨k3,g,d,tk+1,os⟩
 refine a9 (ufb ?_)
 have q4:IsEnum (k3.push { cls:=.type "tuple",data:=.seq #[.int i tk,x] }) e it ((i:Int)+1) old:=b9 _ q3
 generalize hk4:k3.push { cls:=.type "tuple",data:=.seq #[.int i tk,x] }=k4 at q4
 have sz:k3.objs.size=hp.objs.size:=by rw[s3.1,s2.1,s1.1]
 have lt:e<hp.objs.size:=j8 he
 have t4:k4.get? hp.objs.size=some { cls:=.type "tuple",data:=.seq #[.int i tk,x] }:=by rw[← hk4,← sz];exact l4 _ rfl
 have z4:k4.objs.size=hp.objs.size+1:=by rw[← hk4,ua0,sz]
 have up4:∀ b o,b≠e->b≠it->hp.get? b=some o->k4.get? b=some o:=λ b o n1 n2 q=>by
  rw[← hk4];exact b9 _ (s3.extBut b o n1 (s2.extBut b o n1 (s1.extBut b o n2 q)))
 have i4:ItAt t k4 it l (i+1):=i1.to λ o q=>by
  rw[← hk4];exact b9 _ (s3.extBut _ _ ne.symm (s2.extBut _ _ ne.symm q))
 show p8 _ _ (Builtin.SmallTypes.ownedTupleIsFree (.ref e) >>= _) _ _ ⟨k4,g,d,tk+1,os⟩
 rw[sz]
 clear hk4 q3 s3 q2 s2 q1 s1 i1 sz k3 k2 k1
 refine a9 ?_
 unfold Builtin.SmallTypes.ownedTupleIsFree
 refine a9 (uai q4 rfl (x:=.none) rfl (j9 ?_))
 simp only [if_true]
 refine a9 (ue0 (a9 (uai q4 rfl (x:=old) rfl (a9 (uaz q4 (by simp) λ k5 q5 s5=>?_)))))
 replace s5:Heap.SameBut e k4 k5:=s5
 replace q5:IsEnum k5 e it ((i:Int)+1) x:=q5
 show p8 _ _ (Builtin.SmallTypes.ownedTupleHandOut (.ref e) (.ref hp.objs.size) >>= _) _ _ ⟨k5,g,d,tk+1,os⟩
 refine a9 ?_
 unfold Builtin.SmallTypes.ownedTupleHandOut
 refine a9 (uaz q5 (by simp) λ k6 q6 s6=>?_)
 replace s6:Heap.SameBut e k5 k6:=s6
 replace q6:IsEnumOut k6 e it ((i:Int)+1) x hp.objs.size:=q6
 refine uaz q6 (by simp) λ k7 q7 s7=>?_
 replace s7:Heap.SameBut e k6 k7:=s7
 replace q7:IsEnumOut k7 e it ((i:Int)+1) x hp.objs.size:=q7
 have up:∀ b o,b≠e->k4.get? b=some o->k7.get? b=some o:=λ b o n q=>s7.extBut b o n (s6.extBut b o n (s5.extBut b o n q))
 exact a9 (ufc (j9 ⟨_,rfl,hQ k7 q7 (i4.to λ o q=>up _ o ne.symm q) (up _ _ (uda lt) t4) (by rw[s7.1,s6.1,s5.1,z4]) λ b o n1 n2 q=>up b o n1 (up4 b o n1 n2 q)⟩))
theorem qQ {t:Bool}{e it l:j7}{i:Nat}{xs:Array d7}{x old:d7}{Q:Option d7->d8->Prop}(he:IsEnum s.heap e it i old)(hi:ItAt t s.heap it l i)(hl:SqAt t s.heap l xs)(hx:xs[i]?=some x)(ne:e≠it)
  (hQ:∀ h',IsEnumOut h' e it ((i:Int)+1) x s.heap.objs.size->ItAt t h' it l (i+1)->h'.get? s.heap.objs.size=some { cls:=.type "tuple",data:=.seq #[.int i s.toks,x] }->h'.objs.size=s.heap.objs.size+1 ->
   (∀ b o,b≠e->b≠it->s.heap.get? b=some o->h'.get? b=some o)->Q (some (.ref s.heap.objs.size)) { s with heap:=h',toks:=s.toks+1 }) :
  p8 (z9 prog w) A (pyNext (.ref e)) Q E s:=by
 have ty:s.TypeIs (.ref e) "enumerate":=⟨_,he,rfl⟩
 unfold pyNext
 exact a9 (uc6 (ua5 (name := u7 "__next__") ty udi (ubf udi ty F.entry_enumerate_next
     (vW he hi hl hx ne λ h' a b c d k=>j9 (hQ h' a b c d k)) (F.args_enumerate_next_1 _))))
theorem qP {t:Bool}{e it l:j7}{i:Nat}{xs:Array d7}{old:d7}{Q:Option d7->d8->Prop}(hh:A.handled=none)(he:IsEnum s.heap e it i old)(hi:ItAt t s.heap it l i)(hl:SqAt t s.heap l xs)(hx:xs[i]?=none)
  (hQ:∀ h',ueb it s.heap h'->Q none { s with heap:=h' }):p8 (z9 prog w) A (pyNext (.ref e)) Q E s:=by
 have ty:s.TypeIs (.ref e) "enumerate":=⟨_,he,rfl⟩
 unfold pyNext
 refine a9 (uc6 (ua5 (name:=u7 "__next__") ty udi (ubf udi ty F.entry_enumerate_next ?_ (F.args_enumerate_next_1 _))))
 show p8 _ _ (field (.ref e) 2 >>= _) _ _ _
 refine a9 (uai he rfl (x:=.ref it) rfl (a9 (iL hh hi hl hx λ h' x k ⟨o,p1,p2⟩=>?_)))
 exact a9 (wpAny_isInstance (T:="StopIteration") (b:=true) ⟨o,p1,p2⟩ isSubtype_stop (j9 (hQ _ k)))
end
end Z3
namespace L3
open PySem PySem.Spec PyProof.Rows L2
def Itn (t:Bool)(K:a8)(l:j7):It :=
 ⟨λ i H=>∃ xs x,SqX t K H l xs/\xs[i]?=some x,
  λ i H v H'=>∃ T x,H T=none/\v=.ref T/\H'=upd H T (.tup [.int (i:Nat),x])/\(∀ xs,SqX t K H l xs->xs[i]?=some x),
  λ i H=>∃ xs,SqX t K H l xs/\xs.length<=i⟩
theorem uZ {P:m9}{w:uaf}{K:a8}{elts:List ua9}{kk:Nat}{pos:Pos}{t:Bool}{e it l:j7}(n1:e≠it)(n2:l≠e)(n3:l≠it) :
  Turn P w K (.Tuple elts kk pos) (Itn t K l) [e,it] e (λ i h=>(∃ old,IsEnum h e it (i:Int) old)/\Z3.ItAt t h it l i) where
 mem:=by simp
 obj:=λ i h st b hb=>by
  obtain⟨⟨old,q1⟩,q2⟩:=st
  obtain⟨o2,m2,e2,_,d2⟩:=q2.obj
  simp only [l7,uag,or_false] at hb
  rcases hb with rfl | rfl
  ·exact⟨_,q1,λ v q=>by cases q⟩
  ·exact⟨_,e2,λ v q=>by rw[d2] at q;cases q⟩
 keep:=λ i h h' st k=>by
  obtain⟨⟨old,q1⟩,q2⟩:=st
  exact⟨⟨old,k e (by simp) _ q1⟩,q2.to λ o z=>k it (by simp) o z⟩
 item:=by
  intro X hP hw hK hc i pins s σ H E I hf st hg
  subst hP hw hK
  obtain⟨xs,x,q1,hx⟩:=hg
  obtain⟨⟨old,en⟩,ia⟩:=st
  obtain⟨its1,r1,p1,z1⟩:=seqX I q1
  obtain⟨u1,hu1,ru1⟩:=r1.get hx
  refine Z3.qQ en ia p1 (x:=u1) (by simpa using hu1) n1 λ h' eo ia' tp sz kp=>?_
  have I1 : Inv X pins σ (upd H s.heap.objs.size (.tup [.int (i : Nat), x])) { s with heap := h', toks := s.toks+1 } := turnsTup (ch := [e, it]) (its := [.int i s.toks, u1]) I hf (λ b o hb z => by
      simp only [l7,uag,or_false,not_or] at hb
      exact kp b o hb.1 hb.2 z) (i7 _) (by show 2<=p9;rw[ubk];decide) (.cons ⟨_,rfl⟩ (.cons ru1 .nil)) ⟨_,tp,rfl,⟨_,rfl⟩,rfl⟩
  have fr:H s.heap.objs.size=none:=I.fresh
  have elt:e<s.heap.objs.size:=j8 en
  have ilt:it<s.heap.objs.size:=by obtain⟨o2,m2,e2,_⟩:=ia.obj;exact j8 e2
  have zne:∀ b∈[e,it],b≠s.heap.objs.size:=λ b hb=>by
   simp only [l7,uag,or_false] at hb
   rcases hb with rfl | rfl
   ·exact o0 elt
   ·exact o0 ilt
  refine⟨_,rfl,wpAny_letOwnedTupleGo_enum eo λ h2 en2 sb=>?_⟩
  obtain⟨f0,f1,f2,f3,f4,f5⟩:=hf e (by simp)
  have I2:Inv X pins σ (upd H s.heap.objs.size (.tup [.int (i:Nat),x])) { s with heap:=h2,toks:=s.toks+1 }:=Inv.turned (s:={ s with heap:=h',toks:=s.toks+1 }) (it:=e) (t':=s.toks+1) I1 (λ b o hb z=>sb.extBut b o hb z) (by rw[aD (zne e (by simp))];exact f0) f1 f3 f4 f5
  refine⟨.ref s.heap.objs.size,_,I2,rfl,⟨_,x,fr,rfl,rfl,λ zs hz=>by rw[hX I hz q1];exact hx⟩,?_,λ b hb=>by rw[aD (zne b hb)];exact (hf b hb).1⟩
  exact⟨⟨_,by simpa using en2⟩,ia'.to λ o z=>sb.extBut _ _ n1.symm z⟩
 done:=by
  intro X hP hw hK hc i pins s σ H E I hf st hg
  subst hP hw hK
  obtain⟨xs,q1,hx⟩:=hg
  obtain⟨⟨old,en⟩,ia⟩:=st
  obtain⟨its1,r1,p1,z1⟩:=seqX I q1
  have l1:=r1.length
  refine Z3.qP (I.ok.hd hc) en ia p1 (by simp;left) λ h' kp=>⟨rfl,?_⟩
  exact turns (ch:=[e,it]) (t':=s.toks) I hf λ b o hb z=>by
   simp only [l7,uag,or_false,not_or] at hb
   exact kp b o hb.2 z
 self:=λ _ _ _ _ _ st h=>by
  obtain⟨⟨old,en⟩,_⟩:=st
  exact wpAny_pyIter_enum en h
def iEnum (t:Bool)(K:a8)(ta:TA):TI:=λ σ H R=>ta σ H λ vs H1=>∃ l,vs=[.ref l]/\(∃ xs,SqX t K H1 l xs)/\R (Itn t K l) H1
theorem zO {X:Cx}{elts:List ua9}{kk:Nat}{pos':Pos}(t:Bool){a:ua9}{ta:TA}{p pos:Pos}(hg:Gl X "enumerate")(hm:X.mg "enumerate"=none)(ha:PA X [a] ta)
  (hs:uaa [a] X.env=[(false,eval a X.env)]:=by rfl) (hs2:uaa [] X.env=[]:=by rfl) :
  PI X (.Tuple elts kk pos') (.Call (.Name "enumerate" p) [a] [] pos) (iEnum t X.K ta):=by
 intro pins s σ H R I h
 refine Call_ (dC I hg hm boot_enumerate (ub5 (thn (ha pos pins s σ H _ I h) λ us s1 ⟨vs,H1,I1,r1,q1⟩=>?_) (by rw[hs,hs2]) (by rw[hs2];rfl)))
 obtain⟨l,e,⟨xs,qx⟩,q⟩:=q1
 subst e
 obtain⟨u,rfl,rx⟩:=vals1 r1
 cases rx
 obtain⟨its1,r1,p1,z1⟩:=seqX I1 qx
 have lt:l<s1.heap.objs.size:=by
  cases t with
  | true=>obtain⟨o,e,_⟩:=(show s1.heap.IsTuple l _ from p1);exact j8 e
  | false=>obtain⟨o,e,_⟩:=(show s1.heap.IsList l _ from p1);exact j8 e
 refine Z3.wC p1 λ h' en ia sz kp=>wpAny_pyIter_enum en ?_
 have I2:Inv X pins σ H1 { s1 with heap:=h',toks:=s1.toks }:=I1.kept (t':=s1.toks) kp
 refine⟨s1.heap.objs.size+1,[s1.heap.objs.size+1,s1.heap.objs.size],_,_,H1,rfl,I2,uZ (Nat.succ_ne_self _) (o0 (ud8 lt)) (o0 lt),⟨⟨_,en⟩,ia⟩,λ b hb=>?_,q⟩
 have hb':s1.heap.objs.size<=b:=by
  simp only [l7,uag,or_false] at hb
  rcases hb with rfl | rfl
  ·exact uci _
  ·exact i7 _
 exact I1.fpOk hb' (I1.hok.fresh hb')
end L3
namespace HT
open PySem PyProof.Rows
section
variable {prog:m9}{w:uaf}{A:v7}{E:d7->d8->Prop}{s:d8}
theorem sR {t:j7}{items:Array d7}{Q:Bool->d8->Prop}(ht:IsTup s.heap t items)(h:Q true s):p8 (z9 prog w) A (Builtin.Tuple.tupleIsExact (.ref t)) Q E s:=by
 unfold Builtin.Tuple.tupleIsExact
 exact a9 (ufv ht.typeIs (j9 h))
theorem pI {t sl:j7}{items:Array d7}{vl vu:d7}{lo hi:Option Int}{Q:d7->d8->Prop}(ht:IsTup s.heap t items)(hs:s.heap.IsSliceOf sl vl vu .none)(pl:IsPart vl lo)(pu:IsPart vu hi)
  (hw:sIx items.size 0 lo=0/\sIx items.size items.size hi=items.size) (h:Q (.ref t) s):p8 (z9 prog w) A (getItem (.ref t) (.ref sl)) Q E s:=by
 obtain⟨os,hos,hcs,hds⟩:=id hs
 have ty:s.TypeIs (.ref sl) "slice":=⟨os,hos,hcs⟩
 unfold getItem
 try with_reducible refine uav ?_
 first | refine a9 (j9 ?_) | skip
 refine a9 (wpAny_sequenceKey ht.typeIs (by decide) (a9 (ua5 (name:=u7 "__getitem__") ht.typeIs uax
  (ubf uax ht.typeIs entry_tuple_getitem ?_ (args_tuple_getitem _ _)))))
 show p8 _ _ (Builtin.Tuple.tupleItemsOf (.ref t) >>= _) _ _ s
 refine a9 (tupleItemsOf_ ht (a9 (ufv ty ?_)))
 rw[ugc (by decide)]
 refine a9 (jK hs pl pu ?_)
 have yes:(((sIx items.size 0 lo:Nat):Int)==0&&(1:Int)==1&&(sIx items.size items.size hi-sIx items.size 0 lo)==items.size)=true:=by
  rw[hw.1,hw.2];simp
 show p8 _ _ (if (((sIx items.size 0 lo:Nat):Int)==0&&(1:Int)==1&&(sIx items.size items.size hi-sIx items.size 0 lo)==items.size)=true then _ else _) _ _ s
 rw[ugc yes]
 refine a9 (sR ht ?_)
 rw[ugc rfl]
 exact a9 (ue0 (a9 (j9 (j9 ⟨_,rfl,j9 h⟩))))
theorem zal {t b:j7}{ws:List d7}{Q:d7->d8->Prop}(ht:IsTup s.heap t ([]:List d7).toArray)(hb:IsTup s.heap b ws.toArray)(h:Q (.ref b) s):p8 (z9 prog w) A (binaryOp .Add (.ref t) (.ref b)) Q E s:=by
 obtain⟨⟨cls,dd,data,sl⟩,ho,hc,n,hd⟩:=id ht
 obtain⟨⟨cls2,dd2,data2,sl2⟩,ho2,hc2,n2,hd2⟩:=id hb
 simp only at hc hd hc2 hd2
 subst hc hd hc2 hd2
 exact concat_meets ⟨_,ho,rfl⟩ ⟨_,ho2,rfl⟩ uf2 seq_tuple_add ud7 ud5 (udz _ _) (tuple_addW0 t b _ ws.toArray n n2 dd dd2 sl sl2 rfl) ⟨ho,ho2,h⟩
end
end HT
namespace L3
open PySem PySem.Spec PyProof.Rows L2
section
variable {X:Cx}{pins:List (j7 × Obj)}{σ:L2.St}{H:Hp}{s:d8}{e:ua9}{te:TE}{pos p2:Pos}
theorem xZ {xs:List V}{lo hi:Option Int}(h:HT.sIx xs.length 0 lo=0/\HT.sIx xs.length xs.length hi=xs.length):cutV xs lo hi=xs:=by
 unfold cutV
 rw[h.1,h.2]
 simp
inductive rSlA_i  (x:V) (lo:Option Int) (hi:Option Int) (H:Hp) (Q:VK):Prop
 | mk:∀ a xs,(x=.ref a)->(H a=some (.tup xs))->(∀ p H',Same H H'->H' p=some (.tup (cutV xs lo hi))->Q (.ref p) H')->rSlA_i x lo hi H Q
def rSlA :V->Option Int->Option Int->Hp->VK->Prop:=λ x lo hi H Q=>rSlA_i x lo hi H Q
theorem nI:SlR X rSlA:=by
 intro pins s σ H x v vl vu lo hi sl Q I rx hs pl pu h
 obtain⟨a,xs,rfl,hx,q⟩:=h
 by_cases c:HT.sIx xs.length 0 lo=0/\HT.sIx xs.length xs.length hi=xs.length
 ·cases rx
  obtain⟨its,r,ht,hz⟩:=I.tuple (SqT.of hx)
  have hlen:its.toArray.size=xs.length:=by rw[k9];exact r.length.symm
  refine⟨"tuple",_,uax.lookup,ht.typeIs,HT.pI ht hs pl pu (by rw[hlen];exact c) ⟨.ref a,H,I,rfl,q _ _ (Same.refl H) (by rw[xZ c];exact hx)⟩⟩
 ·exact zax (X:=X) pins s σ H (.ref a) v vl vu lo hi sl Q I rx hs pl pu ⟨a,xs,rfl,SqT.of hx,c,λ p hp=>q p _ (aN hp) aH⟩
inductive rCatA_i  (x:V) (y:V) (H:Hp) (Q:VK):Prop
 | mk:∀ a b xs ys,(x=.ref a)->(y=.ref b)->(H a=some (.tup xs))->(H b=some (.tup ys))->(xs.length+ys.length<=p9)->(∀ p H',Same H H'->H' p=some (.tup (xs++ys))->Q (.ref p) H')->rCatA_i x y H Q
def rCatA :R2:=λ x y H Q=>rCatA_i x y H Q
theorem zT:OpR X (binaryOp .Add) rCatA:=by
 intro pins s σ H x y v u Q I rx ry h
 obtain⟨a,b,xs,ys,rfl,rfl,ha,hb,hz,q⟩:=h
 by_cases c:xs=[]
 ·subst c
  cases rx
  cases ry
  obtain⟨its,r1,p1,_⟩:=I.tuple (SqT.of ha)
  obtain⟨its2,r2,p2,_⟩:=I.tuple (SqT.of hb)
  cases r1
  exact HT.zal p1 p2 ⟨.ref b,H,I,rfl,q _ _ (Same.refl H) hb⟩
 ·refine zS (X:=X) pins s σ H _ _ v u Q I rx ry ⟨a,b,xs,ys,rfl,rfl,SqT.of ha,SqT.of hb,c,hz,λ e=>q _ _ (Same.refl H) (by rw[e,ubi];exact ha),λ _ p hp=>q p _ (aN hp) aH⟩
theorem wY:PE X (.Dict [] [] pos) (λ _ H Q=>∀ p,H p=none->Q (.ref p) (upd H p (.dK []))):=λ pins s σ H Q I h=>by
 have big:sysModules<s.heap.objs.size:=udb (by decide) (I.mod.glob.keeps I.bk).lt
 exact wpAny_Dict_empty ⟨.ref s.heap.objs.size,_,I.laid (a:=s.heap.objs.size) (o:=.dK []) (t':=s.toks) (λ _ _ q=>b9 _ q) (i7 _) ⟨uac _,beq_eq_false_iff_ne.mpr (Ne.symm (o0 big)),[],.nil,Heap.DictOf.new _⟩,rfl,h _ (I.hok.fresh (i7 _))⟩
end
theorem iteNB {b:Bool}{A B:Prop}(hb:b=true)(h:B):if (!b)=true then A else B:=by
 subst hb;exact h
theorem iteB2 {b:Bool}{A B:Prop}(h1:b=true->B)(h2:b=false->A):if (!b)=true then A else B:=by
 cases b with
 | true=>exact h1 rfl
 | false=>exact h2 rfl
def numB (m:Nat):v9->Bool
 | .int i=>decide (0<=i)&&decide (i<(m:Int))
 | _=>false
def intOf:v9->Int
 | .int i=>i
 | _=>0
def risI (ns:List Int):Bool:=((i6 (min ns.length (ns.drop 1).length)).map λ i=>decide (ns.getD i 0<(ns.drop 1).getD i 0)).all id
def keepB (m:Nat):v9->Bool
 | .tuple ds=>ds.all (numB m)&&risI (ds.map intOf)
 | _=>false
theorem lR (ns:List Int):risI ns=true↔ns.Pairwise (·<·):=by
 have step:risI ns=true↔∀ i (h:i+1<ns.length),ns[i]<ns[i+1]:=by
  unfold risI
  rw[uet,uad]
  constructor
  ·intro h i hi
   have:=h i (o6.mpr (by rw[ubx];left))
   have e1:ns.getD i 0=ns[i]:=by simp [ua8,show i<ns.length by left]
   have e2:(ns.drop 1).getD i 0=ns[i+1]:=by simp [ua8,hi,ud3 1 i]
   have q:decide (ns.getD i 0<(ns.drop 1).getD i 0)=true:=this
   rw[e1,e2] at q
   exact uga q
  ·intro h i hi
   have hi':=o6.mp hi
   rw[ubx] at hi'
   have h1:i+1<ns.length:=by left
   have e1:ns.getD i 0=ns[i]:=by simp [ua8,show i<ns.length by left]
   have e2:(ns.drop 1).getD i 0=ns[i+1]:=by simp [ua8,h1,ud3 1 i]
   show decide (ns.getD i 0<(ns.drop 1).getD i 0)=true
   rw[e1,e2]
   exact uf9 (h i h1)
 rw[step,uan]
 constructor
 ·intro h i j hi hj hij
  have:∀ k (hk:i+1+k<ns.length),ns[i]<ns[i+1+k]:=by
   intro k
   induction k with
   | zero=>intro hk;exact h i hk
   | succ k ih=>intro hk;exact uev (ih (by left)) (h (i+1+k) hk)
  have:=this (j-i-1) (by left)
  have e:i+1+(j-i-1)=j:=by left
  simpa only [e] using this
 ·intro h i hi
  exact h i (i+1) (by left) hi (by left)
theorem zV {m:Nat}{d:v9}(h:numB m d=true):∃ i,d=.int i/\0<=i/\i<m:=by
 cases d with
 | int i =>
  have h':(decide (0<=i)&&decide (i<(m:Int)))=true:=h
  rw[w8] at h'
  exact⟨i,rfl,uga h'.1,uga h'.2⟩
 | _=>cases h
structure Pre (m:Nat)(ds:List v9)(i:Nat)(a:Int):Prop where
 num:∀ d∈ds.take i,numB m d=true
 up:((ds.take i).map intOf).Pairwise (·<·)
 top:∀ x∈(ds.take i).map intOf,x<=a
 at_:a=-1\/a∈(ds.take i).map intOf
theorem Pre.zero {m:Nat}{ds:List v9}:Pre m ds 0 (-1):=⟨λ d h=>(by simp at h),(by simp),λ x h=>(by simp at h),.inl rfl⟩
theorem Pre.lo {m:Nat}{ds:List v9}{i:Nat}{a:Int}(h:Pre m ds i a):-1<=a:=by
 rcases h.at_ with e | e
 ·left
 ·obtain⟨d,hd,rfl⟩:=v4.mp e
  obtain⟨x,rfl,h0,_⟩:=zV (h.num d hd)
  show -1<=x
  left
theorem dG {α:Type}{ds:List α}{i:Nat}{d:α}(e:ds[i]?=some d):ds.take (i+1)=ds.take i++[d]:=by
 rw[List.take_add_one,e];rfl
theorem Pre.next {m:Nat}{ds:List v9}{i:Nat}{a x:Int}(h:Pre m ds i a)(e:ds[i]?=some (.int x))(h1:a<x)(h2:x<m):Pre m ds (i+1) x:=by
 have lo:=h.lo
 have t:=dG e
 refine⟨λ d hd=>?_,?_,λ y hy=>?_,.inr ?_⟩
 ·rw[t] at hd
  rcases m5.mp hd with hd | hd
  ·exact h.num d hd
  ·have ed:d=.int x:=by simpa using hd
   subst ed
   show (decide (0<=x)&&decide (x<(m:Int)))=true
   rw[uf9 (by left:0<=x),uf9 h2];rfl
 ·rw[t,uab,ua4]
  refine⟨h.up,(by simp),λ y hy z hz=>?_⟩
  have ez:z=x:=by simpa [intOf] using hz
  subst ez
  have:=h.top y hy
  left
 ·rw[t,uab] at hy
  rcases m5.mp hy with hy | hy
  ·have:=h.top y hy;left
  ·have ey:y=x:=by simpa [intOf] using hy
   left
 ·rw[t,uab]
  exact l8 _ (by simp [intOf])
theorem Pre.full {m:Nat}{ds:List v9}{a:Int}(h:Pre m ds ds.length a):keepB m (.tuple ds)=true:=by
 have e:ds.take ds.length=ds:=udc
 have h1:=h.num
 have h2:=h.up
 rw[e] at h1 h2
 show (ds.all (numB m)&&risI (ds.map intOf))=true
 rw[(lR _).mpr h2,uad.mpr h1];rfl
theorem Pre.bad {m:Nat}{ds:List v9}{i:Nat}{a:Int}{d:v9}(h:Pre m ds i a)(e:ds[i]?=some d)(hb:wholeB d=false\/∃ x,d=.int x/\(x<=a\/(m:Int)<=x)):keepB m (.tuple ds)=false:=by
 have mem:d∈ds:=m3 e
 have noall:numB m d=false->keepB m (.tuple ds)=false:=λ z=>by
  show (ds.all (numB m)&&risI (ds.map intOf))=false
  have:ds.all (numB m)=false:=by
   rw[ubq]
   intro q
   have:=uad.mp q d mem
   rw[z] at this;cases this
  rw[this];rfl
 rcases hb with hb | ⟨x,rfl,hx⟩
 ·exact noall (by cases d <;> first | rfl | cases hb)
 ·by_cases h0:0<=x/\x<m
  ·rcases hx with hx | hx
   ·rcases h.at_ with ea | ea
    ·left
    ·show (ds.all (numB m)&&risI (ds.map intOf))=false
     have:risI (ds.map intOf)=false:=by
      rw[ubq]
      intro q
      have pw:=(lR _).mp q
      have split:ds.map intOf=(ds.take i).map intOf++((ds.drop i).map intOf):=by rw[← uab,uc8]
      rw[split,ua4] at pw
      have:a<x:=pw.2.2 a ea x (v4.mpr ⟨.int x,by
       have hi:i<ds.length:=(i8.mp e).1
       rw[ucp hi]
       have:ds[i]=.int x:=by rw[d6 hi] at e;exact t6 e
       rw[this]
       exact i0,rfl⟩)
      left
     rw[this,ufz]
   ·left
  ·refine noall ?_
   show (decide (0<=x)&&decide (x<(m:Int)))=false
   by_cases h1:0<=x
   ·rw[uf9 h1,ugb (by left)];rfl
   ·rw[ugb h1];rfl
def flatD:V->Bool
 | .non | .bl _ | .int _ | .str _=>true
 | _=>false
theorem zbg {α:Type}{xs:List α}{r:Int}(h0:0<=r)(h1:r<(xs.length:Int)):∃ x,x∈xs/\atI xs r=some x:=by
 have hk:r.toNat<xs.length:=by left
 refine⟨xs[r.toNat],ufg hk,?_⟩
 have z:=iR (d6 hk)
 have e:((r.toNat:Nat):Int)=r:=by left
 rw[e] at z;exact z
theorem zaj {xs:List V}{lo hi:Option Int}{x:V}(h:x∈cutV xs lo hi):x∈xs:=List.mem_of_mem_drop (udl h)
theorem Pot.same {H H':Hp}{p:j7}(h:Pot H p)(s:Same H H'):Pot H' p:=let ⟨a,b,e,z⟩:=h;⟨a,b,s _ _ e,z⟩
theorem fM:∀ ns:List Int,tupAll (ns.map .int)=true
 | []=>rfl
 | n::ns=>by show (tupD (.int n)&&tupAll (ns.map .int))=true;rw[fM ns];rfl
theorem lH:∀ ts:List Tie,tupAll (ts.map tieD)=true
 | []=>rfl
 | t::r=>by show (tupD (tieD t)&&tupAll (r.map tieD))=true;rw[lH r];rfl
theorem cI (n:Int)(ts:List Tie):tupD (webD n ts)=true:=by
 show (true&&(tupAll (ts.map tieD)&&true))=true
 rw[lH ts];rfl
theorem cN (ks:List Nat):tupD (keepD ks)=true:=fM _
end L3
namespace L3
end L3
namespace L3
open PySem PySem.Spec PyProof.Rows L2
end L3
namespace HT
open PySem PyProof.Rows
section
open PySem.SeqAt
open PySem.AutoSeq1 (wpAny_loadPart')
open PySem.MeetsSeq PySem.MeetsSeq2 PySem.MeetsSeq3
end
section
variable {prog:m9}{w:uaf}{A:v7}{E:d7->d8->Prop}{s:d8}
end
end HT
namespace L3
open PySem PySem.Spec PyProof.Rows L2
section
variable {X:Cx}
end
def wide:Nat->v9->Prop
 | 0,_=>True
 | k+1,.tuple ds=>ds.length<=1000/\∀ d∈ds,wide k d
 | k+1,.list ds=>ds.length<=1000/\∀ d∈ds,wide k d
 | _+1,_=>True
theorem wide.few {k:Nat}{d:v9}(h:wide (k+1) d):few d:=by
 cases d with
 | tuple ds=>exact (show ds.length<=1000/\_ from h).1
 | list ds=>exact (show ds.length<=1000/\_ from h).1
 | _=>trivial
theorem wide.mem {k:Nat}{ds:List v9}{d:v9}(h:wide (k+1) (.tuple ds))(m:d∈ds):wide k d:=(show _/\∀ d∈ds,wide k d from h).2 d m
def endsD:v9->Int × Int
 | .tuple [.int a,.int b,.int _]=>(a,b)
 | _=>(0,0)
def tiesB (n:Int):v9->Bool
 | .tuple ds=>decide (ds.length<=60)&&ds.all (tieB n)&&risingB (ds.map endsD)
 | _=>false
theorem zat {n:Int}{d:v9}(h:tieB n d=true):∃ a b l,d=.tuple [.int a,.int b,.int l]/\0<=a/\a<b/\b<n:=by
 unfold tieB at h
 split at h
 ·rename_i a b l
  simp only [w8,decide_eq_true_eq] at h
  obtain⟨⟨⟨⟨h1,h2⟩,h3⟩,h4⟩,h5⟩:=h
  exact⟨a,b,l,rfl,h1,h2,h3⟩
 ·cases h
def Gd (H:Hp):Nat->V->Prop
 | 0,v=>flatD v=true
 | k+1,v=>flatD v=true\/(∃ p vs,v=.ref p/\(H p=some (.tup vs)\/H p=some (.lst vs))/\vs.length<=1000/\∀ u∈vs,Gd H k u)\/(∃ p,v=.ref p/\H p=some (.dK []))
theorem Gd.same {H H':Hp}(s:Same H H'):∀ {k:Nat}{v:V},Gd H k v->Gd H' k v
 | 0,_,h=>h
 | k+1,_,h=>by
  rcases h with h | ⟨p,vs,e,h1,h2,h3⟩ | ⟨p,e,h⟩
  ·exact .inl h
  ·exact .inr (.inl ⟨p,vs,e,h1.elim (λ z=>.inl (s _ _ z)) (λ z=>.inr (s _ _ z)),h2,λ u hu=>Gd.same s (h3 u hu)⟩)
  ·exact .inr (.inr ⟨p,e,s _ _ h⟩)
theorem Gd.flat {H:Hp}{k:Nat}{v:V}(h:flatD v=true):Gd H k v:=by
 cases k with
 | zero=>exact h
 | succ k=>exact .inl h
theorem Gd.up {H:Hp}:∀ {k:Nat}{v:V},Gd H k v->Gd H (k+1) v
 | 0,_,h=>.inl h
 | k+1,_,h=>by
  rcases h with h | ⟨p,vs,e,h1,h2,h3⟩ | h
  ·exact .inl h
  ·exact .inr (.inl ⟨p,vs,e,h1,h2,λ u hu=>Gd.up (h3 u hu)⟩)
  ·exact .inr (.inr h)
theorem Gd.tup {H:Hp}{k:Nat}{p:j7}{vs:List V}(h:H p=some (.tup vs))(hl:vs.length<=1000)(ha:∀ u∈vs,Gd H k u):Gd H (k+1) (.ref p):=.inr (.inl ⟨p,vs,rfl,.inl h,hl,ha⟩)
theorem Gd.lst {H:Hp}{k:Nat}{p:j7}{vs:List V}(h:H p=some (.lst vs))(hl:vs.length<=1000)(ha:∀ u∈vs,Gd H k u):Gd H (k+1) (.ref p):=.inr (.inl ⟨p,vs,rfl,.inr h,hl,ha⟩)
theorem kB {K:a8}{H:Hp}{k:Nat}{v:V}(h:flatD v=true):∃ d,Is K H d v/\wide k d:=by
 cases v with
 | non=>exact⟨.none,rfl,by cases k <;> trivial⟩
 | bl b=>exact⟨.bool b,rfl,by cases k <;> trivial⟩
 | int i=>exact⟨.int i,rfl,by cases k <;> trivial⟩
 | str x=>exact⟨.str x,rfl,by cases k <;> trivial⟩
 | _=>cases h
theorem mL {K:a8}{H:Hp}{k:Nat}:∀ {vs:List V},(∀ u∈vs,∃ d,Is K H d u/\wide k d)->∃ ds:List v9,IsAll K H ds vs/\∀ d∈ds,wide k d
 | [],_=>⟨[],rfl,λ d h=>by cases h⟩
 | v::vs,h=>by
  obtain⟨d,hd,hw⟩:=h v i0
  obtain⟨ds,hds,hws⟩:=mL λ u hu=>h u (i9 _ hu)
  exact⟨d::ds,⟨v,vs,rfl,hd,hds⟩,λ e he=>(l7.mp he).elim (λ z=>z ▸ hw) (hws e)⟩
theorem Gd.is {K:a8}{H:Hp}:∀ {k:Nat}{v:V},Gd H k v->∃ d,Is K H d v/\wide k d
 | 0,_,h=>kB h
 | k+1,_,h=>by
  rcases h with h | ⟨p,vs,rfl,h1,h2,h3⟩ | ⟨p,rfl,h⟩
  ·exact kB h
  ·obtain⟨ds,hds,hws⟩:=mL (K:=K) λ u hu=>Gd.is (h3 u hu)
   have hl:ds.length<=1000:=by rw[← hds.length];exact h2
   rcases h1 with h1 | h1
   ·exact⟨.tuple ds,⟨p,vs,rfl,h1,hds⟩,hl,hws⟩
   ·exact⟨.list ds,⟨p,vs,rfl,h1,hds⟩,hl,hws⟩
  ·exact⟨.dict [],⟨rfl,p,rfl,h⟩,trivial⟩
def lt2 (e f:Int × Int):Prop:=e.1<f.1\/(e.1=f.1/\e.2<f.2)
theorem fN (e f:Int × Int):HT.lexLt (e2 e) (e2 f)=true↔lt2 e f:=by
 show (if e.1=f.1 then (if e.2=f.2 then false else decide (e.2<f.2)) else decide (e.1<f.1))=true↔_
 unfold lt2
 by_cases h:e.1=f.1
 ·rw[ugc h]
  by_cases h2:e.2=f.2
  ·rw[ugc h2];simp;left
  ·rw[ugd h2,decide_eq_true_eq];left
 ·rw[ugd h,decide_eq_true_eq];left
theorem lt2.trans {e f g:Int × Int}(h:lt2 e f)(k:lt2 f g):lt2 e g:=by unfold lt2 at *;left
theorem jS (es:List (Int × Int)):risingB es=true↔es.Pairwise lt2:=by
 have step:risingB es=true↔∀ i (h:i+1<es.length),lt2 es[i] es[i+1]:=by
  unfold risingB
  rw[uet,uad]
  constructor
  ·intro h i hi
   have:=h i (o6.mpr (by rw[ubx];left))
   have e1:es.getD i (0,0)=es[i]:=by simp [ua8,show i<es.length by left]
   have e3:(es.drop 1).getD i (0,0)=es[i+1]:=by simp [ua8,hi,ud3 1 i]
   have q:HT.lexLt (e2 (es.getD i (0,0))) (e2 ((es.drop 1).getD i (0,0)))=true:=this
   rw[e1,e3] at q
   exact (fN _ _).mp q
  ·intro h i hi
   have hi':=o6.mp hi
   rw[ubx] at hi'
   have h1:i+1<es.length:=by left
   have e1:es.getD i (0,0)=es[i]:=by simp [ua8,show i<es.length by left]
   have e3:(es.drop 1).getD i (0,0)=es[i+1]:=by simp [ua8,h1,ud3 1 i]
   show HT.lexLt (e2 (es.getD i (0,0))) (e2 ((es.drop 1).getD i (0,0)))=true
   rw[e1,e3]
   exact (fN _ _).mpr (h i h1)
 rw[step,uan]
 constructor
 ·intro h i j hi hj hij
  have go:∀ k (hk:i+1+k<es.length),lt2 es[i] es[i+1+k]:=by
   intro k
   induction k with
   | zero=>intro hk;exact h i hk
   | succ k ih=>intro hk;exact (ih (by left)).trans (h (i+1+k) hk)
  have:=go (j-i-1) (by left)
  have e:i+1+(j-i-1)=j:=by left
  simpa only [e] using this
 ·intro h i hi
  exact h i (i+1) (by left) hi (by left)
structure PreT (n:Int)(ds:List v9)(i:Nat)(a:Int × Int):Prop where
 tie:∀ d∈ds.take i,tieB n d=true
 up:((ds.take i).map endsD).Pairwise lt2
 top:∀ x∈(ds.take i).map endsD,x=a\/lt2 x a
 at_:a=(-1,-1)\/a∈(ds.take i).map endsD
theorem PreT.zero {n:Int}{ds:List v9}:PreT n ds 0 (-1,-1):=⟨λ d h=>(by simp at h),(by simp),λ x h=>(by simp at h),.inl rfl⟩
theorem PreT.next {n:Int}{ds:List v9}{i:Nat}{a:Int × Int}{d:v9}(h:PreT n ds i a)(e:ds[i]?=some d)(ht:tieB n d=true)(hl:lt2 a (endsD d)):PreT n ds (i+1) (endsD d):=by
 have t:=dG e
 refine⟨λ d' hd=>?_,?_,λ y hy=>?_,.inr ?_⟩
 ·rw[t] at hd
  rcases m5.mp hd with hd | hd
  ·exact h.tie d' hd
  ·rw[j6.mp hd];exact ht
 ·rw[t,uab,ua4]
  refine⟨h.up,(by simp),λ y hy z hz=>?_⟩
  have ez:z=endsD d:=by simpa using hz
  subst ez
  rcases h.top y hy with e1 | e1
  ·rw[e1];exact hl
  ·exact e1.trans hl
 ·rw[t,uab] at hy
  rcases m5.mp hy with hy | hy
  ·apply ufp
   rcases h.top y hy with e1 | e1
   ·rw[e1];exact hl
   ·exact e1.trans hl
  ·apply v8;simpa using hy
 ·rw[t,uab]
  exact l8 _ (by simp)
theorem PreT.full {n:Int}{ds:List v9}{a:Int × Int}(h:PreT n ds ds.length a)(h60:ds.length<=60):tiesB n (.tuple ds)=true:=by
 have e:ds.take ds.length=ds:=udc
 have h1:=h.tie
 have h2:=h.up
 rw[e] at h1 h2
 show (decide (ds.length<=60)&&ds.all (tieB n)&&risingB (ds.map endsD))=true
 rw[(jS _).mpr h2,uad.mpr h1,uf9 h60];rfl
theorem PreT.bad {n:Int}{ds:List v9}{i:Nat}{a:Int × Int}{d:v9}(h:PreT n ds i a)(e:ds[i]?=some d)(hb:tieB n d=false\/(tieB n d=true/\¬ lt2 a (endsD d))):tiesB n (.tuple ds)=false:=by
 have mem:d∈ds:=m3 e
 show (decide (ds.length<=60)&&ds.all (tieB n)&&risingB (ds.map endsD))=false
 rcases hb with hb | ⟨hb,hn⟩
 ·have:ds.all (tieB n)=false:=by
   rw[ubq]
   intro q
   have:=uad.mp q d mem
   rw[hb] at this;cases this
  rw[this,ufz,Bool.false_and]
 ·have:risingB (ds.map endsD)=false:=by
   rw[ubq]
   intro q
   have pw:=(jS _).mp q
   rcases h.at_ with ea | ea
   ·obtain⟨x,y,l,rfl,h0,h1,_⟩:=zat hb
    refine hn ?_
    rw[ea]
    show (-1:Int)<x\/_
    left
   ·have split:ds.map endsD=(ds.take i).map endsD++((ds.drop i).map endsD):=by rw[← uab,uc8]
    rw[split,ua4] at pw
    refine hn (pw.2.2 a ea _ (v4.mpr ⟨d,?_,rfl⟩))
    have hi:i<ds.length:=(i8.mp e).1
    rw[ucp hi]
    have:ds[i]=d:=by rw[d6 hi] at e;exact t6 e
    rw[this]
    exact i0
  rw[this,ufz]
section
variable {X:Cx}{es:List ua9}{t:TA}{pos:Pos}
def tTupG (t:TA):TE:=λ σ H Q=>t σ H λ xs H1=>xs.length<=1000/\∀ p H',Same H1 H'->H1 p=none->H' p=some (.tup xs)->Q (.ref p) H'
def tLstG (t:TA):TE:=λ σ H Q=>t σ H λ xs H1=>xs.length<=1000/\∀ p H',Same H1 H'->H1 p=none->H' p=some (.lst xs)->Q (.ref p) H'
theorem aZ {x1} (h:PA X es t):PE X (.Tuple es x1 pos) (tTupG t):=by
 intro pins s σ H Q I hq
 refine wpAny_Tuple_spliced (thn (h pos pins s σ H _ I hq) λ us s1 ⟨xs,J,I1,r,z,q⟩=>?_)
 have z':xs.length<=p9:=w6 z (by decide)
 have fr:J s1.heap.objs.size=none:=I1.hok.fresh (i7 _)
 refine⟨by rw[← r.length];exact z',.ref s1.heap.objs.size,upd J s1.heap.objs.size (.tup xs),I1.laid (t':=s1.toks) (λ b u e=>b9 _ e) (i7 _) ⟨z',us,r,⟨_,l4 _ rfl,rfl,⟨_,rfl⟩,rfl⟩⟩,rfl,q _ _ (aN fr) fr aH⟩
theorem bZ (h:PA X es t):PE X (.List es pos) (tLstG t):=by
 intro pins s σ H Q I hq
 refine wpAny_List_spliced (thn (h pos pins s σ H _ I hq) λ us s1 ⟨xs,J,I1,r,z,q⟩=>?_)
 have z':xs.length<=p9:=w6 z (by decide)
 have fr:J s1.heap.objs.size=none:=I1.hok.fresh (i7 _)
 refine⟨by rw[← r.length];exact z',.ref s1.heap.objs.size,upd J s1.heap.objs.size (.lst xs),I1.laid (t':=s1.toks) (λ b u e=>b9 _ e) (i7 _) ⟨z',us,0,r,l4 _ rfl⟩,rfl,q _ _ (aN fr) fr aH⟩
inductive rAppendG_i  (x:V) (vs:List V) (H:Hp) (Q:VK):Prop
 | mk:∀ l xs y,(x=.ref l)->(vs=[y])->(H l=some (.lst xs))->(xs.length<1000)->(∀ H',But l H H'->H' l=some (.lst (xs++[y]))->Q .non H')->rAppendG_i x vs H Q
def rAppendG :V->List V->Hp->VK->Prop:=λ x vs H Q=>rAppendG_i x vs H Q
theorem gN:MtM X "list.append" rAppendG:=by
 intro pins s σ H x vs v us Q I rx rv h
 obtain⟨l,xs,y,rfl,rfl,hH,hz,q⟩:=h
 exact fI (X:=X) pins s σ H _ _ v us Q I rx rv ⟨l,xs,y,rfl,rfl,hH,o8 hz (by decide),q _ But.upd aH⟩
end
def Sm (H:Hp)(t:j7):Prop:=∃ vs:List V,(H t=some (.tup vs)\/H t=some (.lst vs))/\vs.length<=1000/\vs.all flatD=true
theorem Sm.same {H H':Hp}{t:j7}(h:Sm H t)(s:Same H H'):Sm H' t:=let ⟨vs,h1,h2⟩:=h;⟨vs,h1.elim (λ e=>.inl (s _ _ e)) (λ e=>.inr (s _ _ e)),h2⟩
theorem Sm.some {H:Hp}{t:j7}(h:Sm H t):H t≠none:=λ z=>by
 obtain⟨vs,h1,_⟩:=h
 rcases h1 with e | e <;> (rw[z] at e;cases e)
theorem Sm.good {H:Hp}{t:j7}(h:Sm H t):Gd H 1 (.ref t):=by
 obtain⟨vs,h1,h2,h3⟩:=h
 exact .inr (.inl ⟨t,vs,rfl,h1,h2,λ u hu=>uad.mp h3 u hu⟩)
def GdF (H:Hp)(xs:List V):Prop:=∀ u∈xs,∃ t,u=.ref t/\Sm H t
def GdL (l:j7)(H:Hp)(xs:List V):Prop:=∀ u∈xs,∃ t,u=.ref t/\t≠l/\Sm H t
theorem GdF.nil {H:Hp}:GdF H []:=λ u h=>by cases h
theorem GdF.snoc {H H':Hp}{xs:List V}{t:j7}(h:GdF H xs)(s:Same H H')(ht:Sm H' t):GdF H' (xs++[.ref t]):=λ u hu=>by
 rcases m5.mp hu with hu | hu
 ·obtain⟨t',e,h'⟩:=h u hu;exact⟨t',e,h'.same s⟩
 ·exact⟨t,j6.mp hu,ht⟩
theorem GdL.same {l:j7}{H H':Hp}{xs:List V}(h:GdL l H xs)(s:Same H H'):GdL l H' xs:=λ u hu=>let ⟨t,e,n,h'⟩:=h u hu;⟨t,e,n,h'.same s⟩
theorem GdL.but {l:j7}{H H':Hp}{xs:List V}(h:GdL l H xs)(b:But l H H'):GdL l H' xs:=λ u hu=>by
 obtain⟨t,e,n,vs,h1,h2⟩:=h u hu
 exact⟨t,e,n,vs,h1.elim (λ z=>.inl (b _ _ n z)) (λ z=>.inr (b _ _ n z)),h2⟩
theorem GdL.append {l:j7}{H:Hp}{xs ys:List V}(h:GdL l H xs)(k:GdL l H ys):GdL l H (xs++ys):=λ u hu=>(m5.mp hu).elim (h u) (k u)
theorem GdL.nil {l:j7}{H:Hp}:GdL l H []:=λ u h=>by cases h
theorem GdL.snoc {l:j7}{H H':Hp}{xs:List V}{t:j7}(h:GdL l H xs)(s:Same H H')(f:H t=none)(hl:H l≠none)(ht:Sm H' t):GdL l H' (xs++[.ref t]):=λ u hu=>by
 rcases m5.mp hu with hu | hu
 ·exact h.same s u hu
 ·exact⟨t,j6.mp hu,λ z=>hl (z ▸ f),ht⟩
section
variable {g:TG}{te:TE}{own:List Str}{js:List Nat}{σ:L2.St}{H1:Hp}{Q:VK}
end
inductive call_tupleG_i  (xs:List V) (H:Hp) (Q:VK):Prop
 | mk:∀ p ys,(xs=[.ref p])->(H p=some (.lst ys))->(∀ l H',Same H H'->H l=none->H' l=some (.tup ys)->Q (.ref l) H')->call_tupleG_i xs H Q
theorem cG {X:Cx}:CallR X (.type "tuple") (call_tupleG_i):=by
 intro pins s σ H xs us Q I r h
 obtain⟨p,ys,rfl,hp,q⟩:=h
 exact gL (X:=X) pins s σ H _ us Q I r ⟨p,ys,rfl,.inl ⟨SqL.of hp,λ l hl=>q l _ (aN hl) hl aH⟩⟩
theorem vI {X:Cx}{pos:Pos}:PE X (.Dict [] [] pos) (λ _ H Q=>∀ p H',Same H H'->H p=none->H' p=some (.dK [])->Q (.ref p) H'):=λ pins s σ H Q I h=>wY (X:=X) pins s σ H Q I λ p hp=>h p _ (aN hp) hp aH
def Row3 (H:Hp)(v:V):Prop:=∃ (t:j7)(x y z:Int),v=.ref t/\H t=some (.tup [.int x,.int y,.int z])
theorem Row3.keep {H H':Hp}{v:V}(k:TupKeep H H')(h:Row3 H v):Row3 H' v:=let ⟨t,x,y,z,e,h⟩:=h;⟨t,x,y,z,e,k _ _ h⟩
theorem Row3.good {H:Hp}{v:V}(h:Row3 H v):Gd H 1 v:=by
 obtain⟨t,x,y,z,rfl,e⟩:=h
 exact Gd.tup e (by show 3<=1000;decide) λ u hu=>uad.mp (show [V.int x,V.int y,V.int z].all flatD=true from rfl) u hu
structure BE (X:Cx)(e:ua9)(t:TE):Prop where
 h:PE X e t
structure BA (X:Cx)(es:List ua9)(t:TA):Prop where
 h:PA X es t
structure BS (X:Cx)(st:ubv)(t:TS):Prop where
 h:PS X st t
structure BSs (X:Cx)(ss:List ubv)(t:TS):Prop where
 h:PSs X ss t
section
variable {X:Cx}
theorem bY {st:ubv}{rest:List ubv}{t u:TS}(a:BS X st t)(b:BSs X rest u):BSs X (st::rest) (tSeq t u):=⟨aE a.h b.h⟩
theorem eR {st:ubv}{t:TS}(a:BS X st t):BSs X [st] t:=⟨aF a.h⟩
theorem dE {pos:Pos}{i:Nat}{x:Str}{e:ua9}{te:TE}{pos':Pos}(hN:X.N.Nodup)(hi:X.N[i]?=some x)(hx:L2.Loc X.env.scope x)(he:BE X e te)(hs:swapsWith e (some (.Name x pos')) pos.line X.env=pure false:=by rfl)
  (hf:X.fn x=true\/X.env.scope.names.lookup x=some .local:=by first | exact .inl rfl | exact .inr rfl | assumption):BS X (.Assign [.Name x pos'] e pos) (tAsg te (gName i)):=⟨aO hN hi hx he.h hs hf⟩
theorem zao {es:List ua9}{t:TA}{pos:Pos}(a:BA X es t):BE X (.List es pos) (tLstG t):=⟨bZ a.h⟩
theorem zan {es:List ua9}{t:TA}{pos:Pos}{x1:Nat}(a:BA X es t):BE X (.Tuple es x1 pos) (tTupG t):=⟨aZ a.h⟩
theorem pC:BA X [] tNil:=⟨aB⟩
end
end L3
namespace Far
inductive Walk (A:List (Nat × Nat × Int))(s:Nat):Nat->Int->Prop
 | nil:Walk A s s 0
 | snoc {u v:Nat} {l x:Int}:Walk A s u x->(u,v,l)∈A->Walk A s v (x+l)
variable {A:List (Nat × Nat × Int)}{s:Nat}
def Pos (A:List (Nat × Nat × Int)):Prop:=∀ u v l,(u,v,l)∈A->1<=l
theorem Walk.nonneg (P:Pos A){v:Nat}{x:Int}(h:Walk A s v x):0<=x:=by
 induction h with
 | nil=>exact uaj 0
 | snoc _ m ih=>have:=P _ _ _ m;left
def Dst (A:List (Nat × Nat × Int))(s v:Nat)(o:Option Int):Prop:=(∀ y,o=some y->Walk A s v y)/\∀ L,Walk A s v L->∃ y,o=some y/\y<=L
theorem Dst.unique {v:Nat}{o p:Option Int}(h:Dst A s v o)(k:Dst A s v p):o=p:=by
 cases o with
 | none =>
  cases p with
  | none=>rfl
  | some y=>obtain⟨_,e,_⟩:=h.2 y (k.1 y rfl);cases e
 | some x =>
  obtain⟨y,rfl,hy⟩:=k.2 x (h.1 x rfl)
  obtain⟨z,e,hz⟩:=h.2 y (k.1 y rfl)
  cases e
  rw[show x=y by left]
theorem least {P:Nat->Prop}:∀ n,P n->∃ m,P m/\∀ k,P k->m<=k:=by
 intro n
 induction n using ucx with
 | ind n ih =>
  intro h
  by_cases c:∃ k,k<n/\P k
  ·obtain⟨k,hk,pk⟩:=c;exact ih k hk pk
  ·exact⟨n,h,λ k pk=>by
    by_cases z:k<n
    ·exact absurd ⟨k,z,pk⟩ c
    ·left⟩
theorem uK (P:Pos A)(s v:Nat):∃ o,Dst A s v o:=by
 by_cases c:∃ x,Walk A s v x
 ·obtain⟨x,hx⟩:=c
  have nn:=hx.nonneg P
  obtain⟨m,hm,mn⟩:=least (P:=λ k=>Walk A s v (k:Int)) x.toNat (by rw[uao nn];exact hx)
  refine⟨some m,λ y e=>by cases e;exact hm,λ L hL=>⟨m,rfl,?_⟩⟩
  have n2:=hL.nonneg P
  have:=mn L.toNat (by rw[uao n2];exact hL)
  left
 ·exact⟨none,⟨λ y e=>(by cases e),λ L hL=>absurd ⟨L,hL⟩ c⟩⟩
theorem Walk.cons {u v:Nat}{l:Int}(m:(u,v,l)∈A){w:Nat}{x:Int}(h:Walk A v w x):Walk A u w (x+l):=by
 induction h with
 | nil=>exact .snoc .nil m
 | snoc _ m' ih=>rw[ufa];exact .snoc ih m'
def Sym (A:List (Nat × Nat × Int)):Prop:=∀ u v l,(u,v,l)∈A->(v,u,l)∈A
theorem Walk.back (S:Sym A){v:Nat}{x:Int}(h:Walk A s v x):Walk A v s x:=by
 induction h with
 | nil=>exact .nil
 | snoc _ m ih=>exact ih.cons (S _ _ _ m)
theorem Dst.back (S:Sym A){v:Nat}{o:Option Int}(h:Dst A s v o):Dst A v s o:=⟨λ y e=>(h.1 y e).back S,λ L hL=>h.2 L (hL.back S)⟩
def lt2 (e f:Int × Int):Prop:=e.1<f.1\/(e.1=f.1/\e.2<f.2)
def get {α:Type}(cs:List (Option α))(v:Nat):Option α:=cs.getD v none
theorem aM {α:Type}{cs:List (Option α)}{v i:Nat}{x:Option α}(h:v<cs.length):get (cs.set v x) i=if i=v then x else get cs i:=by
 unfold get
 rw[f8,List.getElem?_set,f8]
 by_cases c:v=i
 ·subst c;simp [h]
 ·simp [c,Ne.symm c]
def ct {α:Type}:List (Option α)->Nat
 | []=>0
 | none::r=>ct r
 | some _::r=>ct r+1
theorem eX {α:Type}:∀ cs:List (Option α),ct cs<=cs.length
 | []=>i7 0
 | none::r=>Nat.le_succ_of_le (eX r)
 | some _::r=>ufq (eX r)
theorem gG {α:Type}{c:α}:∀ {cs:List (Option α)}{v:Nat},v<cs.length->ct (cs.set v (some c))=ct cs+(if (get cs v).isSome then 0 else 1)
 | none::r,0,_=>rfl
 | some _::r,0,_=>rfl
 | none::r,v+1,h=>gG (cs:=r) (v:=v) (by simpa using h)
 | some _::r,v+1,h=>by
  have:=gG (c:=c) (cs:=r) (v:=v) (by simpa using h)
  show ct (r.set v (some c))+1=ct r+1+_
  rw[this]
  show _=ct r+1+(if (get r v).isSome then 0 else 1)
  left
theorem oZ {α:Type}:∀ {cs:List (Option α)}{v:Nat}{c:α},get cs v=some c->1<=ct cs
 | [],v,c,h=>by cases h
 | some _::r,_,_,_=>ufq (uac _)
 | none::r,0,c,h=>by cases h
 | none::r,v+1,c,h=>oZ (cs:=r) (v:=v) (c:=c) h
def WM:Int:=2^130
def mW:Option (Int × Int)->Nat
 | none=>(2^250)
 | some c=>(c.1*WM+c.2).toNat
def mu:List (Option (Int × Int))->Nat
 | []=>0
 | c::r=>mW c+mu r
theorem oV {x:Option (Int × Int)}:∀ {cs:List (Option (Int × Int))}{v:Nat},v<cs.length->mW x<mW (get cs v)->mu (cs.set v x)<mu cs
 | c::r,0,_,h=>Nat.add_lt_add_right (k:=mu r) h
 | c::r,v+1,hl,h=>Nat.add_lt_add_left (k:=mW c) (oV (cs:=r) (v:=v) (by simpa using hl) h)
structure Good (A:List (Nat × Nat × Int))(n s:Nat)(cs:List (Option (Int × Int))):Prop where
 len:cs.length=n
 walk:∀ v c,get cs v=some c->Walk A s v c.1
 w0:∀ v c,get cs v=some c->0<=c.2/\c.2<=c.1*2^60
 top:∀ v c,get cs v=some c->c.1<=((ct cs:Nat)-1:Int)*10^18
 start:∃ c,get cs s=some c/\c.1<=0
theorem Good.step {n u v:Nat}{l w:Int}{cs:List (Option (Int × Int))}{c:Int × Int}(P:Pos A)(n24:n<=24)(g:Good A n s cs)(arc:(u,v,l)∈A)(l1:l<=10^18)(w0:0<=w)(w1:w<=2^60)(hv:v<n)(hu:get cs u=some c)
  (h:get cs v=none\/∃ c',get cs v=some c'/\lt2 (c.1+l,c.2+w) c'):Good A n s (cs.set v (some (c.1+l,c.2+w)))/\mu (cs.set v (some (c.1+l,c.2+w)))<mu cs:=by
 have hv':v<cs.length:=by rw[g.len];exact hv
 have l0:=P _ _ _ arc
 have wk:=Walk.snoc (g.walk _ _ hu) arc
 have c0:=(g.walk _ _ hu).nonneg P
 obtain⟨cw0,cw1⟩:=g.w0 _ _ hu
 have ct24:ct cs<=24:=by have:=eX cs;rw[g.len] at this;left
 have ctp:=oZ hu
 have es:=gG (c:=(c.1+l,c.2+w)) hv'
 have topc:=g.top _ _ hu
 have wbound:c.2+w<=(c.1+l)*2^60:=by rw[Int.add_mul];left
 have big:c.1+l<=((ct (cs.set v (some (c.1+l,c.2+w))):Nat)-1:Int)*10^18:=by
  rw[es]
  rcases h with h | ⟨c',h,hlt⟩
  ·rw[h]
   show _<=(((ct cs+1:Nat):Int)-1)*10^18
   left
  ·rw[h]
   show _<=(((ct cs+0:Nat):Int)-1)*10^18
   have:=g.top _ _ h
   unfold lt2 at hlt
   simp only at hlt
   left
 have ctm:ct cs<=ct (cs.set v (some (c.1+l,c.2+w))):=by rw[es];exact udj _ _
 refine⟨⟨by rw[ual];exact g.len,λ v' d e=>?_,λ v' d e=>?_,λ v' d e=>?_,?_⟩,?_⟩
 ·rw[aM hv'] at e
  split at e
  ·rename_i z;subst z;cases e;exact wk
  ·exact g.walk _ _ e
 ·rw[aM hv'] at e
  split at e
  ·cases e;exact⟨by show 0<=c.2+w;left,wbound⟩
  ·exact g.w0 _ _ e
 ·rw[aM hv'] at e
  split at e
  ·cases e;exact big
  ·have:=g.top _ _ e
   left
 ·obtain⟨d,hd,hd0⟩:=g.start
  rw[aM hv']
  split
  ·rename_i z;subst z
   refine⟨_,rfl,?_⟩
   rcases h with h | ⟨c',h,hlt⟩
   ·rw[h] at hd;cases hd
   ·rw[h] at hd;cases hd
    unfold lt2 at hlt
    simp only at hlt
    show c.1+l<=0
    left
  ·exact⟨d,hd,hd0⟩
 ·refine oV hv' ?_
  have ctb:ct (cs.set v (some (c.1+l,c.2+w)))<=24:=by have:=eX (cs.set v (some (c.1+l,c.2+w)));rw[ual,g.len] at this;left
  have x23:c.1+l<=23*10^18:=by left
  have y23:c.2+w<=23*10^18*2^60:=by left
  have WMe:WM=1361129467683753853853498429727072845824:=by decide
  rcases h with h | ⟨c',h,hlt⟩
  ·rw[h]
   show ((c.1+l)*WM+(c.2+w)).toNat<2^250
   have:(c.1+l)*WM+(c.2+w)<2^250:=by rw[WMe];left
   left
  ·rw[h]
   obtain⟨d0,d1⟩:=g.w0 _ _ h
   have t0:=(g.walk _ _ h).nonneg P
   have tt:=g.top _ _ h
   show ((c.1+l)*WM+(c.2+w)).toNat<(c'.1*WM+c'.2).toNat
   unfold lt2 at hlt
   simp only at hlt
   have:(c.1+l)*WM+(c.2+w)<c'.1*WM+c'.2:=by
    rw[WMe]
    rcases hlt with z | ⟨z,z'⟩
    ·left
    ·rw[z];left
   have p0:0<=(c.1+l)*WM+(c.2+w):=by rw[WMe];left
   left
def Stab (A:List (Nat × Nat × Int))(cs:List (Option (Int × Int))):Prop:=∀ u v l c,(u,v,l)∈A->get cs u=some c->∃ c',get cs v=some c'/\c'.1<=c.1+l
theorem Good.dst {n:Nat}{cs:List (Option (Int × Int))}(g:Good A n s cs)(st:Stab A cs)(v:Nat):Dst A s v ((get cs v).map (·.1)):=by
 refine⟨λ y e=>?_,λ L hL=>?_⟩
 ·cases h:get cs v with
  | none=>rw[h] at e;cases e
  | some c=>rw[h] at e;cases e;exact g.walk _ _ h
 ·have:∃ c,get cs v=some c/\c.1<=L:=by
   induction hL with
   | nil=>exact g.start
   | snoc _ m ih =>
    obtain⟨c,hc,hle⟩:=ih
    obtain⟨c',hc',hle'⟩:=st _ _ _ _ m hc
    exact⟨c',hc',by left⟩
  obtain⟨c,hc,hle⟩:=this
  exact⟨c.1,by rw[hc];rfl,hle⟩
structure Snd (A:List (Nat × Nat × Int))(n s:Nat)(D:List (Option Int)):Prop where
 len:D.length=n
 walk:∀ v x,get D v=some x->Walk A s v x
 start:∃ x,get D s=some x/\x<=0
structure Rnd (A:List (Nat × Nat × Int))(n s:Nat)(δ:Nat->Option Int)(D0:List (Option Int))(B:(Nat × Nat × Int)->Prop)(D:List (Option Int)):Prop where
 snd:Snd A n s D
 keep:∀ v,get D0 v=δ v->get D v=δ v
 arc:∀ u v l x,B (u,v,l)->get D0 u=δ u->δ u=some x->∃ y,get D v=some y/\y<=x+l
section
variable {n:Nat}{δ:Nat->Option Int}{D0 D:List (Option Int)}{B:(Nat × Nat × Int)->Prop}{u v:Nat}{l:Int}
def plus (B:(Nat × Nat × Int)->Prop)(a:Nat × Nat × Int):(Nat × Nat × Int)->Prop:=λ b=>B b\/b=a
theorem Rnd.no (r:Rnd A n s δ D0 B D)(hu:get D u=none):Rnd A n s δ D0 (plus B (u,v,l)) D:=by
 refine⟨r.snd,r.keep,λ u' v' l' x b e1 e2=>?_⟩
 rcases b with b | b
 ·exact r.arc _ _ _ _ b e1 e2
 ·cases b
  have:=r.keep _ e1
  rw[hu,e2] at this;cases this
theorem Rnd.old (r:Rnd A n s δ D0 B D){x' y:Int}(hu:get D u=some x')(hv:get D v=some y)(hy:y<=x'+l):Rnd A n s δ D0 (plus B (u,v,l)) D:=by
 refine⟨r.snd,r.keep,λ u' v' l' x b e1 e2=>?_⟩
 rcases b with b | b
 ·exact r.arc _ _ _ _ b e1 e2
 ·cases b
  have:=r.keep _ e1
  rw[hu,e2] at this;cases this
  exact⟨y,hv,hy⟩
theorem Rnd.put (dd:∀ v,Dst A s v (δ v))(m:(u,v,l)∈A)(hn:v<n)(r:Rnd A n s δ D0 B D){x':Int}(hu:get D u=some x')(hv:get D v=none\/∃ y,get D v=some y/\x'+l<y)(P:Pos A):Rnd A n s δ D0 (plus B (u,v,l)) (D.set v (some (x'+l))):=by
 have hl:v<D.length:=by rw[r.snd.len];exact hn
 have wk:=Walk.snoc (r.snd.walk _ _ hu) m
 obtain⟨d,hd,hdl⟩:=(dd v).2 _ wk
 have bad:get D0 v=δ v->False:=λ e=>by
  have e':=r.keep _ e
  rcases hv with hv | ⟨y,hv,hy⟩
  ·rw[hv,hd] at e';cases e'
  ·rw[hv,hd] at e';cases e';left
 refine⟨⟨by rw[ual];exact r.snd.len,λ i x e=>?_,?_⟩,λ i e=>?_,λ u' v' l' x b e1 e2=>?_⟩
 ·rw[aM hl] at e
  split at e
  ·rename_i z;subst z;cases e;exact wk
  ·exact r.snd.walk _ _ e
 ·rw[aM hl]
  split
  ·rename_i z;subst z
   obtain⟨x,hx,hx0⟩:=r.snd.start
   rcases hv with hv | ⟨y,hv,hy⟩
   ·rw[hv] at hx;cases hx
   ·rw[hv] at hx;cases hx
    exact⟨_,rfl,by left⟩
  ·exact r.snd.start
 ·rw[aM hl]
  split
  ·rename_i z;subst z;exact absurd e bad
  ·exact r.keep _ e
 ·rw[aM hl]
  rcases b with b | b
  ·obtain⟨y',hy',hle⟩:=r.arc _ _ _ _ b e1 e2
   split
   ·rename_i z;subst z
    refine⟨_,rfl,?_⟩
    rcases hv with hv | ⟨y,hv,hy⟩
    ·rw[hv] at hy';cases hy'
    ·rw[hv] at hy';cases hy';left
   ·exact⟨y',hy',hle⟩
  ·cases b
   have:=r.keep _ e1
   rw[hu,e2] at this;cases this
   rw[ugc rfl]
   exact⟨_,rfl,uaj _⟩
theorem Rnd.next (dd:∀ v,Dst A s v (δ v))(P:Pos A)(inn:∀ u v l,(u,v,l)∈A->u<n/\v<n)(s0:Snd A n s D0)(r:Rnd A n s δ D0 B D)(all:∀ a∈A,B a):∀ (k:Nat)(v:Nat),v<n->get D0 v≠δ v->(∀ d,δ v=some d->d.toNat<=k)->∃ v,v<n/\get D0 v≠δ v/\get D v=δ v:=by
 intro k
 induction k using ucx with
 | ind k ih =>
  intro v hv hne hk
  cases e:δ v with
  | none =>
   cases e2:get D0 v with
   | none=>exact absurd (e2.trans e.symm) hne
   | some x =>
    obtain⟨y,hy,_⟩:=(dd v).2 _ (s0.walk _ _ e2)
    rw[e] at hy;cases hy
  | some d =>
   have wk:=(dd v).1 _ e
   have hkd:=hk _ e
   cases hw:wk with
   | nil =>
    obtain⟨x,hx,hx0⟩:=s0.start
    have:=(s0.walk _ _ hx).nonneg P
    have:x=0:=by left
    subst this
    exact absurd (hx.trans e.symm) hne
   | @snoc u _ l x w m =>
    obtain⟨y,hy,hyx⟩:=(dd u).2 _ w
    obtain⟨d',hd',hle⟩:=(dd v).2 _ (Walk.snoc ((dd u).1 _ hy) m)
    rw[e] at hd';cases hd'
    have yx:y=x:=by left
    subst yx
    by_cases c:get D0 u=δ u
    ·obtain⟨y',hy',hle'⟩:=r.arc _ _ _ _ (all _ m) c hy
     obtain⟨d',hd',hle2⟩:=(dd v).2 _ (r.snd.walk _ _ hy')
     rw[e] at hd';cases hd'
     have:y'=y+l:=by left
     subst this
     exact⟨v,hv,hne,hy'.trans e.symm⟩
    ·have l1:=P _ _ _ m
     have y0:=((dd u).1 _ hy).nonneg P
     refine ih (k-1) (by left) u (inn _ _ _ m).1 c λ d hd=>?_
     rw[hy] at hd;cases hd;left
end
theorem dI {α:Type}{p q:α->Bool}:∀ {xs:List α},(∀ x∈xs,p x=true->q x=true)->(∃ x∈xs,q x=true/\p x=false)->xs.countP p<xs.countP q
 | [],_,⟨x,h,_⟩=>by cases h
 | a::r,h,⟨x,hx,e1,e2⟩=>by
  rw[ueg,ueg]
  have le:r.countP p<=r.countP q:=uer λ x hx=>h x (i9 _ hx)
  rcases l7.mp hx with rfl | hx
  ·rw[e1,e2];simp;left
  ·have:=dI (xs:=r) (λ x hx=>h x (i9 _ hx)) ⟨x,hx,e1,e2⟩
   have:=h a i0
   cases e:p a <;> cases e':q a <;> simp_all <;> left
def cnt (n:Nat)(δ:Nat->Option Int)(D:List (Option Int)):Nat:=(i6 n).countP λ v=>decide (get D v=δ v)
def Done (n:Nat)(δ:Nat->Option Int)(D:List (Option Int))(k:Nat):Prop:=(∀ v,v<n->get D v=δ v)\/k+1<=cnt n δ D
theorem Done.round {n:Nat}{δ:Nat->Option Int}{D0 D:List (Option Int)}{B:(Nat × Nat × Int)->Prop}{k:Nat}(dd:∀ v,Dst A s v (δ v))(P:Pos A)(inn:∀ u v l,(u,v,l)∈A->u<n/\v<n)(s0:Snd A n s D0)(r:Rnd A n s δ D0 B D)(all:∀ a∈A,B a)(h:Done n δ D0 k):Done n δ D (k+1):=by
 by_cases c:∀ v,v<n->get D0 v=δ v
 ·exact .inl λ v hv=>r.keep v (c v hv)
 ·rcases h with h | h
  ·exact absurd h c
  ·have ⟨v,z⟩:=Classical.not_forall.mp c
   have ⟨hv,hne⟩:=Classical.not_imp.mp z
   obtain⟨v',hv',n0,n1⟩:=r.next dd P inn s0 all ((δ v).getD 0).toNat v hv hne λ d e=>by rw[e];exact i7 _
   refine .inr (ubc h (dI (λ x _ e=>?_) ⟨v',o6.mpr hv',uf9 n1,ugb n0⟩))
   exact uf9 (r.keep x (uga e))
theorem Done.first {n:Nat}{δ:Nat->Option Int}{D:List (Option Int)}{v:Nat}(hv:v<n)(h:get D v=δ v):Done n δ D 0:=by
 refine .inr ?_
 exact List.countP_pos_iff.mpr ⟨v,o6.mpr hv,uf9 h⟩
theorem Done.all {n:Nat}{δ:Nat->Option Int}{D:List (Option Int)}(h:Done n δ D n):∀ v,v<n->get D v=δ v:=by
 rcases h with h | h
 ·exact h
 ·have:cnt n δ D<=n:=by
   have:=List.countP_le_length (p:=λ v=>decide (get D v=δ v)) (l:=i6 n)
   rw[v6] at this;exact this
  left
def PSt (c0:List (Option (Int × Int)))(B:(Nat × Nat × Int)->Prop)(cs:List (Option (Int × Int)))(ag:Bool):Prop :=
 (ag=false/\cs=c0/\∀ u v l c,B (u,v,l)->get c0 u=some c->∃ c',get c0 v=some c'/\c'.1<=c.1+l)\/(ag=true/\mu cs<mu c0)
section
variable {c0 cs:List (Option (Int × Int))}{B B':(Nat × Nat × Int)->Prop}{ag:Bool}{u v:Nat}{l w:Int}
theorem PSt.less (h:PSt c0 B cs ag)(k:∀ a,B' a->B a):PSt c0 B' cs ag:=h.elim (λ ⟨a,b,c⟩=>.inl ⟨a,b,λ u v l c' z=>c u v l c' (k _ z)⟩) .inr
theorem PSt.no (h:PSt c0 B cs ag)(hu:get cs u=none):PSt c0 (plus B (u,v,l)) cs ag:=by
 rcases h with ⟨a,b,c⟩ | h
 ·refine .inl ⟨a,b,λ u' v' l' c' z e=>?_⟩
  rcases z with z | z
  ·exact c _ _ _ _ z e
  ·cases z;rw[← b,hu] at e;cases e
 ·exact .inr h
theorem PSt.old (h:PSt c0 B cs ag){c d:Int × Int}(hu:get cs u=some c)(hv:get cs v=some d)(hn:¬ lt2 (c.1+l,c.2+w) d):PSt c0 (plus B (u,v,l)) cs ag:=by
 rcases h with ⟨a,b,z⟩ | h
 ·refine .inl ⟨a,b,λ u' v' l' c' y e=>?_⟩
  rcases y with y | y
  ·exact z _ _ _ _ y e
  ·cases y
   subst b
   rw[hu] at e;cases e
   refine⟨d,hv,?_⟩
   unfold lt2 at hn
   simp only at hn
   left
 ·exact .inr h
theorem PSt.put (h:PSt c0 B cs ag){cs':List (Option (Int × Int))}(hm:mu cs'<mu cs):PSt c0 (plus B (u,v,l)) cs' true:=by
 rcases h with ⟨a,b,c⟩ | h
 ·exact .inr ⟨rfl,by rw[← b];exact hm⟩
 ·exact .inr ⟨rfl,udb hm h.2⟩
end
theorem cA {α:Type}(n v:Nat):get (o3 n (none:Option α)) v=none:=by
 unfold get
 rw[f8,ucu]
 split <;> rfl
theorem oY {α:Type}:∀ n:Nat,ct (o3 n (none:Option α))=0
 | 0=>rfl
 | n+1=>oY n
theorem Good.first {n:Nat}(hs:s<n):Good A n s ((o3 n none).set s (some (0,0))):=by
 have hl:s<(o3 n (none:Option (Int × Int))).length:=by rw[v5];exact hs
 have cases':∀ v c,get ((o3 n (none:Option (Int × Int))).set s (some (0,0))) v=some c->v=s/\c=(0,0):=λ v c e=>by
  rw[aM hl,cA] at e
  split at e
  ·rename_i z;cases e;exact⟨z,rfl⟩
  ·cases e
 refine⟨by rw[ual,v5],λ v c e=>?_,λ v c e=>?_,λ v c e=>?_,⟨(0,0),?_,uaj _⟩⟩
 ·obtain⟨rfl,rfl⟩:=cases' _ _ e;exact .nil
 ·obtain⟨rfl,rfl⟩:=cases' _ _ e;exact⟨uaj _,by decide⟩
 ·obtain⟨rfl,rfl⟩:=cases' _ _ e
  rw[gG hl,oY,cA];decide
 ·rw[aM hl,ugc rfl]
theorem Snd.first {n:Nat}(hs:s<n):Snd A n s ((o3 n none).set s (some 0)):=by
 have hl:s<(o3 n (none:Option Int)).length:=by rw[v5];exact hs
 refine⟨by rw[ual,v5],λ v c e=>?_,⟨0,?_,uaj _⟩⟩
 ·rw[aM hl,cA] at e
  split at e
  ·rename_i z;subst z;cases e;exact .nil
  ·cases e
 ·rw[aM hl,ugc rfl]
theorem Rnd.start {n:Nat}{δ:Nat->Option Int}{D:List (Option Int)}(h:Snd A n s D):Rnd A n s δ D (λ _=>False) D:=⟨h,λ _ e=>e,λ _ _ _ _ z=>z.elim⟩
theorem Rnd.less {n:Nat}{δ:Nat->Option Int}{D0 D:List (Option Int)}{B B':(Nat × Nat × Int)->Prop}(h:Rnd A n s δ D0 B D)(k:∀ a,B' a->B a):Rnd A n s δ D0 B' D:=⟨h.snd,h.keep,λ u v l x z=>h.arc u v l x (k _ z)⟩
end Far
namespace L3
open PySem PySem.Spec PyProof.Rows L2
def tieAt (ts:List Tie)(k:Nat):Tie:=ts.getD k (0,0,0)
def arcs2 (t:Tie):List (Nat × Nat × Int):=[(t.1.toNat,t.2.1.toNat,t.2.2),(t.2.1.toNat,t.1.toNat,t.2.2)]
def arcs (ts:List Tie)(ks:List Nat):List (Nat × Nat × Int):=ks.flatMap λ k=>arcs2 (tieAt ts k)
theorem arcs_mem {ts:List Tie}{ks:List Nat}{a:Nat × Nat × Int}:a∈arcs ts ks↔∃ k,k∈ks/\a∈arcs2 (tieAt ts k):=by
 unfold arcs;rw[uee]
theorem arcs2_mem {t:Tie}{a:Nat × Nat × Int}:a∈arcs2 t↔a=(t.1.toNat,t.2.1.toNat,t.2.2)\/a=(t.2.1.toNat,t.1.toNat,t.2.2):=by
 unfold arcs2;simp
theorem aY {ts:List Tie}{k:Nat}(h:k<ts.length):ts[k]?=some (tieAt ts k)/\tieAt ts k∈ts:=by
 have e:ts[k]?=some (tieAt ts k):=by unfold tieAt;rw[f8,d6 h];rfl
 exact⟨e,m3 e⟩
theorem zah {a b c d:Int}(h1:0<=a)(h2:a<b)(h3:0<=c)(h4:c<d)(h:a.toNat=c.toNat/\b.toNat=d.toNat\/a.toNat=d.toNat/\b.toNat=c.toNat):a=c/\b=d:=by left
theorem mM {s t:Tie}(h:endLt s t)(e1:s.1=t.1)(e2:s.2.1=t.2.1):False:=by
 rcases h with h | h
 ·exact Int.lt_irrefl _ (e1 ▸ h)
 ·exact Int.lt_irrefl _ (e2 ▸ h.2)
theorem lJ {n:Int}{ts:List Tie}(ok:WebOk n ts){k k':Nat}(hk:k<ts.length)(hk':k'<ts.length)(e1:(tieAt ts k).1=(tieAt ts k').1)(e2:(tieAt ts k).2.1=(tieAt ts k').2.1):k=k':=by
 have pw:∀ i j (hi:i<ts.length) (hj:j<ts.length),i<j->endLt (tieAt ts i) (tieAt ts j):=λ i j hi hj z=>by
  have q:=uan.mp ok.rise i j hi hj z
  have g:∀ {i:Nat}(hi:i<ts.length),ts[i]=tieAt ts i:=λ {i} hi=>t6 ((d6 hi).symm.trans (aY hi).1)
  rwa [g hi,g hj] at q
 rcases ubr k k' with z | z | z
 ·exact (mM (pw k k' hk hk' z) e1 e2).elim
 ·exact z
 ·exact (mM (pw k' k hk' hk z) e1.symm e2.symm).elim
section
variable {n:Int}{ts:List Tie}{ks:List Nat}
theorem fS (ok:WebOk n ts)(ko:KeepOk ts.length ks):Far.Pos (arcs ts ks):=λ u v l h=>by
 obtain⟨k,hk,h⟩:=arcs_mem.mp h
 have:=ok.tie _ (aY (ko.2 k hk)).2
 rcases arcs2_mem.mp h with h | h <;> cases h <;> left
theorem oK (ok:WebOk n ts)(ko:KeepOk ts.length ks):∀ u v l,(u,v,l)∈arcs ts ks->u<n.toNat/\v<n.toNat:=λ u v l h=>by
 obtain⟨k,hk,h⟩:=arcs_mem.mp h
 have:=ok.tie _ (aY (ko.2 k hk)).2
 rcases arcs2_mem.mp h with h | h <;> cases h <;> left
end
def CV (H:Hp)(v:V):Option (Int × Int)->Prop
 | none=>v=.non
 | some e=>∃ t,v=.ref t/\H t=some (.tup [.int e.1,.int e.2])
theorem CV.keep {H H':Hp}(k:TupKeep H H'){v:V}:∀ {o:Option (Int × Int)},CV H v o->CV H' v o
 | none,h=>h
 | some e,⟨t,h1,h2⟩=>⟨t,h1,k _ _ h2⟩
def CostL (H:Hp)(vs:List V)(cs:List (Option (Int × Int))):Prop:=vs.length=cs.length/\∀ i v,vs[i]?=some v->CV H v (Far.get cs i)
section
variable {H H' J J':Hp}{vs cvs avs ws:List V}{cs:List (Option (Int × Int))}{lw lc la t:j7}{n k:Nat}{x y:Int}
theorem CostL.keep (h:CostL H vs cs)(k:TupKeep H H'):CostL H' vs cs:=⟨h.1,λ i v e=>(h.2 i v e).keep k⟩
theorem CostL.set {v:V}{c:Int × Int}(h:CostL H vs cs)(hk:k<vs.length)(hv:CV H v (some c)):CostL H (vs.set k v) (cs.set k (some c)):=by
 refine⟨by rw[ual,ual];exact h.1,λ i u e=>?_⟩
 rw[Far.aM (by rw[← h.1];exact hk)]
 rw[List.getElem?_set] at e
 by_cases z:k=i
 ·subst z;rw[ugc rfl,ugc hk] at e;cases e;rw[ugc rfl];exact hv
 ·rw[ugd z] at e;rw[ugd (Ne.symm z)];exact h.2 i u e
theorem CostL.first (n:Nat):CostL H (o3 n .non) (o3 n none):=by
 refine⟨by rw[v5,v5],λ i v e=>?_⟩
 rw[Far.cA]
 rw[ucu] at e
 split at e
 ·cases e;rfl
 ·cases e
theorem cR {p:j7}{xs:List V}{o:HO}(h:J p=some (.lst xs)):TupKeep J (upd J p o):=λ a ys e=>by
 rw[aD (λ z=>by rw[z,h] at e;cases e)];exact e
theorem iK (s:Same J J'):TupKeep J J':=λ a xs e=>s _ _ e
structure RH (H J:Hp)(lw lc la:j7)(ws:List V)(n:Nat)(cs:List (Option (Int × Int))):Prop where
 same:Same H J
 fc:H lc=none
 fa:H la=none
 nwc:lw≠lc
 nwa:lw≠la
 nca:lc≠la
 wl:J lw=some (.lst ws)
 co:∃ cvs,J lc=some (.lst cvs)/\CostL J cvs cs
 ah:∃ avs,J la=some (.lst avs)/\avs.length=n
theorem RH.step (h:RH H J lw lc la ws n cs)(s:Same J J'):RH H J' lw lc la ws n cs :=
 ⟨h.same.trans s,h.fc,h.fa,h.nwc,h.nwa,h.nca,s _ _ h.wl,let ⟨c,e,z⟩:=h.co;⟨c,s _ _ e,z.keep (iK s)⟩,let ⟨c,e,z⟩:=h.ah;⟨c,s _ _ e,z⟩⟩
theorem RH.put (h:RH H J lw lc la ws n cs)(hc:J lc=some (.lst cvs))(hk:k<cvs.length)(ht:J t=some (.tup [.int x,.int y])):RH H (upd J lc (.lst (cvs.set k (.ref t)))) lw lc la ws n (cs.set k (some (x,y))):=by
 obtain⟨c,e,z⟩:=h.co
 rw[hc] at e;cases e
 obtain⟨av,ea,la'⟩:=h.ah
 refine⟨λ b o eb=>?_,h.fc,h.fa,h.nwc,h.nwa,h.nca,?_,⟨_,aH,CostL.set (z.keep (cR hc)) hk ⟨t,rfl,cR hc _ _ ht⟩⟩,⟨av,?_,la'⟩⟩
 ·rw[aD (aT eb h.fc)];exact h.same _ _ eb
 ·rw[aD h.nwc];exact h.wl
 ·rw[aD h.nca.symm];exact ea
theorem RH.mark {v:V}(h:RH H J lw lc la ws n cs)(ha:J la=some (.lst avs)):RH H (upd J la (.lst (avs.set k v))) lw lc la ws n cs:=by
 obtain⟨c,e,z⟩:=h.co
 obtain⟨av,ea,la'⟩:=h.ah
 rw[ha] at ea;cases ea
 refine⟨λ b o eb=>?_,h.fc,h.fa,h.nwc,h.nwa,h.nca,?_,⟨c,?_,z.keep (cR ha)⟩,⟨_,aH,by rw[ual];exact la'⟩⟩
 ·rw[aD (aT eb h.fa)];exact h.same _ _ eb
 ·rw[aD h.nwa];exact h.wl
 ·rw[aD h.nca];exact e
end
theorem nJ {α:Type}(x:α):∀ k:Nat,(o3 k [x]).flatten=o3 k x
 | 0=>rfl
 | k+1=>by rw[ub6,uc4,nJ x k];rfl
def ov:Option Int->V
 | none=>.non
 | some x=>.int x
theorem jF {D:List (Option Int)}{i:Nat}(h:i<D.length):(D.map ov)[i]?=some (ov (Far.get D i)):=by
 rw[o7,d6 h]
 unfold Far.get
 rw[f8,d6 h];rfl
theorem bO {α:Type}{xs:List α}{i:Int}{x:α}(h0:0<=i)(h:xs[i.toNat]?=some x):atI xs i=some x:=by
 have hl:=(i8.mp h).1
 unfold atI ixN
 rw[ugc h0,ugc (by left)]
 exact h
theorem eN {n:Nat}{i:Int}(h0:0<=i)(h:i<n):ixN n i=some i.toNat:=by
 unfold ixN;rw[ugc h0,ugc h]
inductive rRep1_i  (x:V) (y:V) (H:Hp) (Q:VK):Prop
 | mk:∀ l k z,(x=.ref l)->(y=.int k)->(H l=some (.lst [z]))->(0<=k)->(k<=1000)->(∀ p H',Same H H'->H p=none->H' p=some (.lst (o3 k.toNat z))->Q (.ref p) H')->rRep1_i x y H Q
def rRep1 :R2:=λ x y H Q=>rRep1_i x y H Q
theorem nQ {X:Cx}:OpR X (binaryOp .Mult) rRep1:=by
 intro pins s σ H x y v u Q I rx ry h
 obtain⟨l,k,z,rfl,rfl,hH,h1,h2,q⟩:=h
 refine za5 (X:=X) pins s σ H _ _ v u Q I rx ry ⟨l,k,_,rfl,rfl,hH,by left,by left,?_,λ p hp=>q p _ (aN hp) hp (by rw[aH,nJ])⟩
 exact w6 (by show 1*k.toNat<=1000;left) (by decide:1000<=p9)
theorem cJ {K:a8}{H:Hp}:∀ {ts:List Tie}{ws:List V}{k:Nat},IsAll K H (ts.map tieD) ws->k<ts.length->∃ a,ws[k]?=some (.ref a)/\H a=some (.tup [.int (tieAt ts k).1,.int (tieAt ts k).2.1,.int (tieAt ts k).2.2])
 | t::r,ws,0,h,_=>by
  obtain⟨v,vs,rfl,h1,_⟩:=h
  obtain⟨a,xs,rfl,ha,hx⟩:=h1
  have e:xs=(tieI t).map V.int:=IsAll.of_ints (ns:=tieI t) hx
  subst e
  exact⟨a,rfl,ha⟩
 | t::r,ws,k+1,h,hk=>by
  obtain⟨v,vs,rfl,_,h2⟩:=h
  obtain⟨a,e,ha⟩:=cJ (ts:=r) (ws:=vs) (k:=k) h2 (by simpa using hk)
  exact⟨a,e,ha⟩
theorem fA {K:a8}{H:Hp}{ks:List Nat}{v:V}(h:Is K H (keepD ks) v):∃ p,v=.ref p/\H p=some (.tup ((keepI ks).map V.int)):=by
 obtain⟨p,vs,rfl,hp,hx⟩:=h
 have e:=IsAll.of_ints hx
 subst e
 exact⟨p,rfl,hp⟩
theorem nY {ks:List Nat}{i:Nat}{x:V}(h:((keepI ks).map V.int)[i]?=some x):∃ k,ks[i]?=some k/\x=.int (k:Int):=by
 unfold keepI at h
 rw[ubb,o7] at h
 cases e:ks[i]? with
 | none=>rw[e] at h;cases h
 | some k=>rw[e] at h;cases h;exact⟨k,rfl,rfl⟩
theorem oD {H:Hp}{vs:List V}{cs:List (Option (Int × Int))}{i:Int}(h:CostL H vs cs)(h0:0<=i)(hi:i.toNat<cs.length):∃ v,atI vs i=some v/\CV H v (Far.get cs i.toNat):=by
 have hl:i.toNat<vs.length:=by rw[h.1];exact hi
 have e:vs[i.toNat]?=some vs[i.toNat]:=d6 hl
 exact⟨_,bO h0 e,h.2 _ _ e⟩
def pows (m:Nat):List V:=(i6 m).map λ i=>V.int (2^i)
theorem zL {m i:Nat}(h:i<m):(pows m)[i]?=some (.int (2^i)):=by unfold pows;rw[o7,ubs h];rfl
theorem vG (m:Nat):pows (m+1)=pows m++[.int (2^m)]:=by unfold pows;rw[ueo,uab];rfl
theorem za2 {i:Nat}(h:i<60):(0:Int)<=2^i/\(2:Int)^i<=2^60:=by
 have e:((2^i:Nat):Int)=(2:Int)^i:=by norm_cast
 have:2^i<=2^60:=Nat.pow_le_pow_right (by decide) (by left)
 constructor
 ·rw[← e];exact uat _
 ·rw[← e];exact_mod_cast this
def spWeights (K:a8):Sp:=λ vs H Q _=>∃ n ts v,vs=[v]/\Is K H (webD n ts) v/\ts.length<=60/\∀ l H',Same H H'->H l=none->H' l=some (.lst (pows ts.length))->Q (.ref l) H'
def spCost (K:a8):Sp:=λ vs H Q _=>∃ c x y l w,vs=[.ref c,.int l,.int w]/\H c=some (.tup [.int x,.int y])/\∀ t H',Same H H'->H' t=some (.tup [.int (x+l),.int (y+w)])->Q (.ref t) H'
def WK (K:a8)(H:Hp)(n:Int)(ts:List Tie)(ks:List Nat)(wv kv:V):Prop:=Is K H (webD n ts) wv/\WebOk n ts/\Is K H (keepD ks) kv/\KeepOk ts.length ks
theorem WK.same {K:a8}{H H':Hp}{n:Int}{ts:List Tie}{ks:List Nat}{wv kv:V}(h:WK K H n ts ks wv kv)(s:Same H H'):WK K H' n ts ks wv kv:=⟨Is.same s _ h.1,h.2.1,Is.same s _ h.2.2.1,h.2.2.2⟩
def spReached (K:a8):Sp:=λ vs H Q _=>∃ n ts ks wv kv r,vs=[wv,kv,.int r]/\WK K H n ts ks wv kv/\0<=r/\r<n /\
 ∀ p lc la cvs avs cs H',Same H H'->H' p=some (.tup [.ref lc,.ref la])->H' lc=some (.lst cvs)->H' la=some (.lst avs)->CostL H' cvs cs->Far.Good (arcs ts ks) n.toNat r.toNat cs->Far.Stab (arcs ts ks) cs->Q (.ref p) H'
def spFars (K:a8):Sp:=λ vs H Q _=>∃ n ts ks wv kv r,vs=[wv,kv,.int r]/\WK K H n ts ks wv kv/\0<=r/\r<n /\
 ∀ l D H',Same H H'->H l=none->H' l=some (.lst (D.map ov))->D.length=n.toNat->(∀ v,v<n.toNat->Far.Dst (arcs ts ks) r.toNat v (Far.get D v))->Q (.ref l) H'
end L3
namespace HT
open PySem PyProof.Rows
open Sem (wp)
section
variable {prog:m9}{w:uaf}{A:v7}{E:d7->d8->Prop}{s:d8}
end
end HT
namespace L3
open PySem PySem.Spec PyProof.Rows L2
def hAt (hs:List Int)(a:Int):Int:=hs.getD a.toNat 0
def absI (i:Int):Int:=if i<0 then -i else i
def acrossI (ts:List Tie)(hs:List Int)(k:Nat):Int:=absI (hAt hs (tieAt ts k).1-hAt hs (tieAt ts k).2.1)
def holdB (n:Int)(ts:List Tie)(ks:List Nat)(hs:List Int):Bool:=decide (hs.length=n.toNat)&&ks.all λ k=>decide (acrossI ts hs k<=(tieAt ts k).2.2)
def capO (roof:Int):Option Int->Int
 | none=>roof
 | some x=>if roof<x then roof else x
theorem sQ:∀ hs:List Int,wholesB (.tuple (hs.map .int))=true:=λ hs=>by
 show (hs.map ucr).all wholeB=true
 rw[uet]
 exact uad.mpr λ _ _=>rfl
def IntT (H:Hp)(p:j7)(hs:List Int):Prop:=H p=some (.tup (hs.map V.int))/\hs.length<=1000
theorem IntT.same {H H':Hp}{p:j7}{hs:List Int}(h:IntT H p hs)(s:Same H H'):IntT H' p hs:=⟨s _ _ h.1,h.2⟩
theorem IntT.is {K:a8}{H:Hp}{p:j7}{hs:List Int}(h:IntT H p hs):Is K H (.tuple (hs.map .int)) (.ref p):=⟨p,_,rfl,h.1,IsAll.ints _⟩
def AllI (xs:List V):Prop:=∃ ns:List Int,xs=ns.map V.int
theorem AllI.of {xs:List V}(h:∀ x∈xs,∃ i,x=V.int i):AllI xs:=by
 induction xs with
 | nil=>exact⟨[],rfl⟩
 | cons x r ih =>
  obtain⟨i,rfl⟩:=h x i0
  obtain⟨ns,rfl⟩:=ih λ y hy=>h y (i9 _ hy)
  exact⟨i::ns,rfl⟩
theorem AllI.mem {xs:List V}(h:AllI xs):∀ x∈xs,∃ i,x=V.int i:=by
 obtain⟨ns,rfl⟩:=h
 intro x hx
 obtain⟨i,_,rfl⟩:=v4.mp hx
 exact⟨i,rfl⟩
theorem AllI.ints (ns:List Int):AllI (ns.map V.int):=⟨ns,rfl⟩
theorem AllI.app {xs ys:List V}(h:AllI xs)(k:AllI ys):AllI (xs++ys):=by
 obtain⟨ns,rfl⟩:=h;obtain⟨ms,rfl⟩:=k
 exact⟨ns++ms,by rw[uab]⟩
theorem AllI.cut {xs:List V}{lo hi:Option Int}(h:AllI xs):AllI (cutV xs lo hi):=.of λ x hx=>h.mem x (zaj hx)
theorem AllI.one (i:Int):AllI [V.int i]:=⟨[i],rfl⟩
theorem AllI.rep {xs:List V}(h:AllI xs)(k:Nat):AllI (o3 k xs).flatten:=.of λ x hx=>by
 obtain⟨l,hl,hx⟩:=List.mem_flatten.mp hx
 rw[(List.mem_replicate.mp hl).2] at hx
 exact h.mem x hx
theorem bV:∀ hs:List Int,ube (hs.map .int)=true
 | []=>rfl
 | t::r=>by
  show (ub7 (.int t)&&ube (r.map .int))=true
  rw[bV r]
  rfl
theorem eC:∀ hs:List Int,uap (hs.map .int)<=1
 | []=>uac _
 | t::r=>by
  show max (uc3 (.int t)) (uap (r.map .int))<=1
  have h1:=eC r
  have h2:uc3 (.int t)<=1:=w6 (ubl (by rfl:uc3 (.int t)=0)) (by decide)
  left
def spHFrom (K:a8):Sp:=λ vs H Q _=>∃ n ts ks wv kv a roof,vs=[wv,kv,.int a,.int roof]/\WK K H n ts ks wv kv/\0<=a/\a<n /\
 ∀ (p:j7)(D:List (Option Int))(H':Hp),Same H H'->H' p=some (.tup ((D.map (capO roof)).map V.int))->D.length=n.toNat->(∀ v,v<n.toNat->Far.Dst (arcs ts ks) a.toNat v (Far.get D v))->Q (.ref p) H'
section
variable {g:TG}{te:TE}{own:List Str}{js:List Nat}{σ:L2.St}{H1:Hp}{Q:VK}
end
section
variable {J:It}{g:TG}{tt:TT}{te:TE}{own:List Str}{js:List Nat}{σ:L2.St}{H1:Hp}{Q:VK}
theorem yE (n:Nat)(Sg:L2.St->Prop)(sel:Nat->Option V)(hn:n<=1000)(h0:Sg (start3 own js σ))
  (go:∀ i H',i<n->Same H1 H'->J.go i H') (stop:∀ H',Same H1 H'->J.stop n H')
  (step:∀ i x σ' H' H2,i<n->Same H1 H'->J.yld i H' x H2->Sg σ'->∀ (C:L2.St->V->Hp->Prop)(L:L2.St->Hp->Prop),(∀ σ3 v H5,Sg σ3->Same H' H5->sel i=some v->C σ3 v H5)->(∀ σ3 H5,Sg σ3->Same H' H5->sel i=none->L σ3 H5) ->
   g x σ' H2 λ σ3 H3=>tt σ3 H3 λ b H4=>if b=true then te σ3 H4 λ v H5=>C σ3 v H5 else L σ3 H4)
  (fin:∀ D H',H1 D=none->Same H1 H'->H' D=some (.lst ((i6 n).filterMap sel))->Q (.ref D) H'):CompGo own js g tt te σ Q J H1:=by
 intro D hD
 refine⟨λ i m ys σ' H'=>m=n-i/\i<=n/\Sg σ'/\Same H1 H'/\ys=(i6 i).filterMap sel,⟨n,rfl,uac _,h0,aN hD,rfl⟩,?_⟩
 rintro i m ys σ' H' ⟨rfl,hi,sg,sm,rfl⟩ hd
 have len:((i6 i).filterMap sel).length<=i:=by have:=List.length_filterMap_le sel (i6 i);rw[v6] at this;exact this
 by_cases hlt:i<n
 ·refine .inr ⟨go i H' hlt sm,λ x H2 hy=>?_⟩
  refine step i x σ' H' H2 hlt sm hy sg
   (λ σ3 v H5=>H5 D=some (.lst ((i6 i).filterMap sel))/\((i6 i).filterMap sel).length<p9/\∃ m',m'<n-i/\(m'=n-(i+1)/\i+1<=n/\Sg σ3/\Same H1 (upd H5 D (.lst ((i6 i).filterMap sel++[v])))/\(i6 i).filterMap sel++[v]=(i6 (i+1)).filterMap sel))
   (λ σ3 H5=>H5 D=some (.lst ((i6 i).filterMap sel))/\∃ m',m'<n-i/\(m'=n-(i+1)/\i+1<=n/\Sg σ3/\Same H1 H5/\(i6 i).filterMap sel=(i6 (i+1)).filterMap sel)) (λ σ3 v H5 sg3 s5 e=>?_) (λ σ3 H5 sg3 s5 e=>?_)
  ·refine⟨s5 _ _ hd,ubc (by left:((i6 i).filterMap sel).length<=1000) (by decide),n-(i+1),by left,rfl,hlt,sg3,λ b o z=>?_,?_⟩
   ·rw[aD (aT z hD)];exact s5 _ _ (sm _ _ z)
   ·rw[ueo,List.filterMap_append];simp [e]
  ·refine⟨s5 _ _ hd,n-(i+1),by left,rfl,hlt,sg3,sm.trans s5,?_⟩
   rw[ueo,List.filterMap_append];simp [e]
 ·have e:i=n:=by left
  subst e
  exact .inl ⟨stop H' sm,fin D H' hD sm hd⟩
end
end L3
namespace Far
variable {A:List (Nat × Nat × Int)}{s:Nat}
theorem Walk.trans {u v:Nat}{x y:Int}(h:Walk A s u x)(k:Walk A u v y):Walk A s v (x+y):=by
 induction k with
 | nil=>rw[Int.add_zero];exact h
 | snoc _ m ih=>rw[← Int.add_assoc];exact .snoc ih m
def Con (A:List (Nat × Nat × Int))(s v:Nat):Prop:=∃ x,Walk A s v x
noncomputable def rB (A:List (Nat × Nat × Int))(s v:Nat):Bool:=@decide (Con A s v) (Classical.propDecidable _)
theorem rB_iff {v:Nat}:rB A s v=true↔Con A s v:=by unfold rB;exact @decide_eq_true_iff _ (Classical.propDecidable _)
theorem Dst.isSome {v:Nat}{o:Option Int}(h:Dst A s v o):o.isSome=rB A s v:=by
 cases o with
 | none =>
  have:¬ Con A s v:=λ ⟨x,w⟩=>by obtain⟨y,e,_⟩:=h.2 x w;cases e
  have:rB A s v=false:=ubq.mpr λ z=>this (rB_iff.mp z)
  rw[this];rfl
 | some x=>rw[rB_iff.mpr ⟨x,h.1 x rfl⟩];rfl
theorem Con.refl:Con A s s:=⟨0,.nil⟩
theorem Con.symm (S:Sym A){v:Nat}(h:Con A s v):Con A v s:=let ⟨x,w⟩:=h;⟨x,w.back S⟩
theorem Con.trans {u v:Nat}(h:Con A s u)(k:Con A u v):Con A s v:=let ⟨_,w⟩:=h;let ⟨_,z⟩:=k;⟨_,w.trans z⟩
noncomputable def rN (A:List (Nat × Nat × Int))(n s:Nat):List Nat:=(i6 n).filter (rB A s)
noncomputable def isHd (A:List (Nat × Nat × Int))(n p:Nat):Bool:=decide ((rN A n p).head?=some p)
noncomputable def pcs (A:List (Nat × Nat × Int))(n:Nat):List (List Nat):=((i6 n).filter (isHd A n)).map (rN A n)
theorem rN_mem {n v:Nat}:v∈rN A n s↔v<n/\Con A s v:=by
 unfold rN;rw[uak,o6,rB_iff]
theorem zbk (S:Sym A){n u:Nat}(h:Con A s u):rN A n u=rN A n s:=by
 unfold rN
 refine List.filter_congr λ v _=>?_
 rw[ucg,rB_iff,rB_iff]
 exact⟨λ k=>h.trans k,λ k=>(h.symm S).trans k⟩
theorem together (S:Sym A){n a b:Nat}(ha:a<n)(hb:b<n):((pcs A n).any λ ns=>decide (a∈ns)&&decide (b∈ns))=rB A a b:=by
 rw[ucg,ufh,rB_iff]
 constructor
 ·rintro ⟨ns,hns,h⟩
  obtain⟨p,hp,rfl⟩:=v4.mp hns
  rw[w8] at h
  have h1:=(rN_mem.mp (uga h.1)).2
  have h2:=(rN_mem.mp (uga h.2)).2
  exact (h1.symm S).trans h2
 ·intro h
  have am:a∈rN A n a:=rN_mem.mpr ⟨ha,.refl⟩
  have bm:b∈rN A n a:=rN_mem.mpr ⟨hb,h⟩
  cases e:rN A n a with
  | nil=>rw[e] at am;cases am
  | cons p r =>
   have pm:p∈rN A n a:=by rw[e];exact i0
   obtain⟨hp,cp⟩:=rN_mem.mp pm
   have ep:=zbk S (n:=n) cp
   refine⟨rN A n a,v4.mpr ⟨p,uak.mpr ⟨o6.mpr hp,?_⟩,ep⟩,?_⟩
   ·unfold isHd;rw[ep,e];exact uf9 rfl
   ·rw[uf9 am,uf9 bm];rfl
end Far
namespace L3
open PySem PySem.Spec PyProof.Rows L2
def natV (ns:List Nat):List V:=ns.map λ v:Nat=>V.int (v:Int)
theorem bH (ns:List Nat):natV ns=(keepI ns).map V.int:=by unfold natV keepI;rw[ubb];rfl
theorem hZ (p:Nat->Bool):∀ is:List Nat,is.filterMap (λ i=>if p i=true then some (V.int (i:Int)) else none)=natV (is.filter p)
 | []=>rfl
 | i::r=>by
  rw[uds,ude]
  cases e:p i with
  | true=>rw[ugc rfl,ugc rfl,hZ p r];rfl
  | false=>rw[ugd m7,ugd m7,hZ p r]
theorem IsAll.snoc {K:a8}{H:Hp}{d:v9}{v:V}(hv:Is K H d v):∀ {ds:List v9}{vs:List V},IsAll K H ds vs->IsAll K H (ds++[d]) (vs++[v])
 | [],_,h=>by
  have e:_=[]:=h
  subst e
  exact⟨v,[],rfl,hv,rfl⟩
 | _::_,_,⟨u,r,e,h1,h2⟩=>by
  subst e
  exact⟨u,r++[v],rfl,h1,IsAll.snoc hv h2⟩
end L3
namespace Srt
open PySem PySem.Spec PyProof.Rows PySem.W
section
variable {prog:m9}{w:uaf}{A:v7}{E:d7->d8->Prop}{s:d8}
theorem tV {x:d7}{vs:List d7}{Q:d7->d8->Prop}{r:Nat->Int}{κ:SortKind}(h64:vs.length<64)
  (hcol:∀ (A':v7)(E':d7->d8->Prop)(Q':List d7->d8->Prop),(∀ h',(∀ b o,s.heap.get? b=some o->h'.get? b=some o)->Q' vs { s with heap:=h' })->p8 (z9 prog w) A' (collect x) Q' E' s)
  (hk:2<=vs.length->∀ (A':v7)(s':d8)(Q:SortKind->d8->Prop),(∀ b o,s.heap.get? b=some o->s'.heap.get? b=some o)->Q κ s'->p8 (z9 prog w) A' (keyKind' vs.toArray) Q (λ _ _=>False) s')
  (hc:∀ (A':v7)(s':d8)(i j:Nat)(C:Bool->d8->Prop),(∀ b o,s.heap.get? b=some o->s'.heap.get? b=some o)->i<vs.length->j<vs.length->C (decide (r i<r j)) s'->kas_ask prog w A' κ vs i j C s')
  (h:∀ (p:Array Nat)(h':Heap)(c:Nat)(g:Heap),Gd vs.length p->Up r p vs.length->(∀ b o,s.heap.get? b=some o->g.get? b=some o)->(∀ b o,g.get? b=some o->h'.get? b=some o)->h'.get? g.objs.size=some (seqObj "list" (outOf vs p).toArray c)->Q (.ref g.objs.size) { s with heap:=h' }) :
  p8 (z9 prog w) A (call (.builtin "sorted") [x]) Q E s:=by
 have line:(64:Nat)<=p9:=by rw[ubk];decide
 refine Calls.call_function_entry kind_sorted plain_sorted entry_sorted (args_sorted1 _) ?_
 unfold Builtin.«sorted»
 refine a9 (m:=checkCount "sorted" 1 1 _) (j9 (a9 (hcol _ _ _ λ g k1=>a9 (udy ?_ (by left)))))
 have hoL:(g.push { cls:=.type "list",data:=.seq vs.toArray }).get? g.objs.size=some (seqObj "list" vs.toArray 0):=l4 _ rfl
 have k2:∀ b o,s.heap.get? b=some o->(g.push { cls:=.type "list",data:=.seq vs.toArray }).get? b=some o:=λ b o q=>b9 _ (k1 b o q)
 have ne:∀ b o,s.heap.get? b=some o->b≠g.objs.size:=λ b o q=>o0 (j8 (k1 b o q))
 have ne2:∀ b o,g.get? b=some o->b≠g.objs.size:=λ b o q=>o0 (j8 q)
 show p8 _ _ _ _ _ { s with heap:=g.push { cls:=.type "list",data:=.seq vs.toArray } }
 refine a9 (uav (ubf slot_list_sort ⟨_,hoL,rfl⟩ entry_list_sort ?_ (args_list_sort _)))
 refine lsort (s:={ s with heap:=g.push { cls:=.type "list",data:=.seq vs.toArray } }) (r:=r) (κ:=κ) hoL h64 (λ h2 s' Q' st q=>hk h2 _ s' Q' (λ b o e=>st b o (ne b o e) (k2 b o e)) q)
  (λ s' i j C st hi hj q=>hc _ s' i j C (λ b o e=>st b o (ne b o e) (k2 b o e)) hi hj q) λ p h' c g1 u1 st e=>⟨_,rfl,?_⟩
 exact j9 ⟨_,rfl,h p h' c g g1 u1 k1 (λ b o q=>st b o (ne2 b o q) (b9 _ q)) e⟩
end
end Srt
namespace HT
open PySem PyProof.Rows
section
variable {prog:m9}{w:uaf}{A:v7}{E:d7->d8->Prop}{s:d8}
theorem tI {Q:List d7->d8->Prop}{r:j7}{a b c:Int}{t u v:Tok}{n:Nat}(hh:A.handled=none)(hr:IsRange s.heap r a b c t u v)(hsmall:Builtin.Range.small a b c=true)
  (hn:Builtin.Range.rangeSize a b c=n) (hlen:n<=2^24)
  (hQ:∀ h' tk acc',(∀ b o,s.heap.get? b=some o->h'.get? b=some o)->ItemsOf (λ i v=>∃ t,v=.int (a+i*c) t) acc' n->Q acc'.toList { s with heap:=h',toks:=tk }) :
  p8 (z9 prog w) A (collect (.ref r)) Q E s:=by
 unfold collect
 refine a9 (wpAny_runValue (codeAny_builtin PySem.F.entry_proto_collect ?_))
 rw[Around.under_plainId PySem.F.plain_proto_collect _]
 show p8 _ A.in1 (newList [] >>= λ l=>again (.builtin "list.__iadd__" ⟨[l,.ref r],[]⟩)) _ _ s
 refine a9 (ubj ?_)
 refine j9 ⟨plainId_quiet uft _,codeAny_builtin PySem.F.entry_list_iadd ?_⟩
 rw[Around.under_plainId uft _]
 show p8 _ A.in1 (Builtin.List.listExtendWith (.ref s.heap.objs.size) (.ref r) (.ref s.heap.objs.size)) _ _ _
 have hS:(s.heap.push { cls:=.type "list",data:=.seq ([]:List d7).toArray }).get? s.heap.objs.size=some { cls:=.type "list",data:=.seq #[] }:=l4 _ rfl
 have fin' : ∀ (h' : Heap)(tk : Nat)(acc' : Array d7)(c' : Nat), (∀ b o, s.heap.get? b = some o → h'.get? b = some o) → h'.get? s.heap.objs.size = some { cls := .type "list", dict := none, data := .seq acc' c', slots := #[] } → ItemsOf (λ i v => ∃ t, v = .int (a+i*c) t) acc' n →
     p8 (z9 prog w) A (load s.heap.objs.size >>= λ o=>match o.data with | .seq xs _=>pure xs.toList | _=>unsupported "internal:collect") Q E { s with heap:=h',toks:=tk }:=λ h' tk acc' c' hk hS' hacc=>a9 (wpAny_load hS' (j9 (hQ h' tk acc' hk hacc)))
 refine ua1 (wpAny_extend_range (A:=A) (R:=λ r s'=>r=.ok (.ret (.ref s.heap.objs.size))/\∃ (h':Heap)(tk:Nat)(acc':Array d7)(c':Nat),s'={ s with heap:=h',toks:=tk }/\(∀ b o,s.heap.get? b=some o->h'.get? b=some o)/\h'.get? s.heap.objs.size=some { cls:=.type "list",dict:=none,data:=.seq acc' c',slots:=#[] }/\ItemsOf (λ i v=>∃ t,v=.int (a+i*c) t) acc' n)
  (s:={ s with heap:=s.heap.push { cls:=.type "list",data:=.seq ([]:List d7).toArray } }) hh (b9 _ hr) hsmall hn hlen s.heap.objs.size (.ref s.heap.objs.size) 0 hS λ h' tk acc' c' hk hS' hacc=>⟨rfl,h',tk,acc',c',rfl,λ b o e=>hk b o (o0 (j8 e)) (b9 _ e),hS',hacc⟩) (λ fin s' h=>?_) (λ e s' h=>?_)
 ·cases fin with
  | done f =>
   obtain⟨e,h',tk,acc',c',rfl,h1,h2,h3⟩:=h
   cases e
   exact fin' h' tk acc' c' h1 h2 h3
  | again c'=>exact⟨h.1,ucy h.2 λ r s'' hr=>by obtain⟨rfl,h',tk,acc',c',rfl,h1,h2,h3⟩:=hr;exact fin' h' tk acc' c' h1 h2 h3⟩
 ·exact absurd h.1 (by simp)
end
theorem pH (r:j7)(a b c:Int)(t u v:Tok)(n:Nat)(hsmall:Builtin.Range.small a b c=true)(hn:Builtin.Range.rangeSize a b c=n)(hlen:n<=1000) :
  Meets (Builtin.«tuple.__new__» ⟨[.type "tuple",.ref r],[]⟩)
   (λ A R s=>A.handled=none/\IsRange s.heap r a b c t u v/\∀ (h':Heap)(tk:Nat)(acc':Array d7),(∀ b o',s.heap.get? b=some o'->h'.get? b=some o')->ItemsOf (λ i v=>∃ t,v=.int (a+i*c) t) acc' n->R (.ok (.ret (.ref h'.objs.size))) { s with heap:=h'.push { cls:=.type "tuple",data:=.seq acc' },toks:=tk }) :=
 .of_wp λ prog w A R s h=>by
  obtain⟨hp,g,d,tk,os⟩:=s;obtain⟨hh,hr,h⟩:=h
  have hsub:=sub_tuple_self
  have hinit:=init_tuple_lookup
  have hmh:=madeHere_tuple
  have hT:Shared.TypeIs ⟨hp,g,d,tk,os⟩ (.ref r) "range":=⟨_,hr,rfl⟩
  wp_walk using ufv hT,tI (A:=A.in1) hh hr hsmall hn (w6 hlen (by decide))
  intro h' tk' acc' hk hacc
  show p8 _ _ (Builtin.Tuple.tupleExact acc'.toList.toArray >>= λ v=>ret v) _ _ _
  unfold Builtin.Tuple.tupleExact
  have sz:acc'.size=n:=hacc.1
  refine a9 (ubj ?_ (by show acc'.toList.toArray.size<=p9;rw[show acc'.toList.toArray=acc' by simp,sz,ubk];left))
  refine j9 ⟨_,rfl,?_⟩
  have e:acc'.toList.toArray=acc':=by simp
  rw[e]
  exact h h' tk' acc' hk hacc
section
variable {prog:m9}{w:uaf}{A:v7}{E:d7->d8->Prop}{s:d8}
theorem pQ {Q:d7->d8->Prop}{r:j7}{a b c:Int}{t u v:Tok}{n:Nat}(hh:A.handled=none)(hr:IsRange s.heap r a b c t u v)(hsmall:Builtin.Range.small a b c=true)
  (hn:Builtin.Range.rangeSize a b c=n) (hlen:n<=1000)
  (hQ:∀ (h':Heap)(tk:Nat)(acc':Array d7),(∀ b o,s.heap.get? b=some o->h'.get? b=some o)->ItemsOf (λ i v=>∃ t,v=.int (a+i*c) t) acc' n->Q (.ref h'.objs.size) { s with heap:=h'.push { cls:=.type "tuple",data:=.seq acc' },toks:=tk }) :
  p8 (z9 prog w) A (call (.type "tuple") [.ref r]) Q E s :=
 callType_new PySem.F.called_tuple (by decide) (PySem.F.typeCall_tuple_1 _) (PySem.F.newCall_tuple_1 _) (λ obj=>PySem.F.args_object_init_2 obj _) PySem.F.entry_tuple_new
  (pH r a b c t u v n hsmall hn hlen) ⟨hh,hr,λ h' tk acc' hk hacc=>⟨⟨_,l4 _ rfl,rfl⟩,hQ h' tk acc' hk hacc⟩⟩
end
end HT
namespace L3
open PySem PySem.Spec PyProof.Rows L2
section
variable {X:Cx}
inductive call_tuple_rng_i  (xs:List V) (H:Hp) (Q:VK):Prop
 | mk:∀ (p:j7)(j:Int),(xs=[.ref p])->(H p=some (.rng 0 j))->(0<=j)->(j<=1000)->(∀ l H',Same H H'->H l=none->H' l=some (.tup (natV (i6 j.toNat)))->Q (.ref l) H')->call_tuple_rng_i xs H Q
theorem gK (hh:X.calm=true):CallR X (.type "tuple") (call_tuple_rng_i):=by
 intro pins s σ H xs us Q I r h
 obtain⟨p,j,rfl,hp,hj0,hj,q⟩:=h
 obtain⟨u,rfl,rx⟩:=vals1 r
 cases rx
 obtain⟨t,u,v,e⟩:=(show ObjOk X.prog X.w H s.heap p (.rng 0 j) from I.hok p _ hp)
 refine HT.pQ (n:=j.toNat) (I.ok.hd hh) (show IsRange s.heap p 0 j 1 t u v from e) (small_one (by left) (by left) (by left) (by left)) (by rw[rangeSize_one];split <;> left) (by left) λ h' tk acc hk hacc=>?_
 have I1:Inv X pins σ H { s with heap:=h',toks:=tk }:=I.kept (t':=tk) hk
 have fr:H h'.objs.size=none:=I1.hok.fresh (i7 _)
 refine⟨.ref h'.objs.size,upd H h'.objs.size (.tup (natV (i6 j.toNat))),I1.laid (t':=tk) (o:=.tup (natV (i6 j.toNat))) (λ b o e=>b9 _ e) (i7 _) ⟨?_,acc.toList,?_,(by rw[show acc.toList.toArray=acc by simp];exact⟨_,l4 _ rfl,rfl,⟨_,rfl⟩,rfl⟩)⟩,rfl,q _ _ (aN fr) fr aH⟩
 ·unfold natV;rw[g9,v6,ubk];left
 ·have go:∀ (n:Nat)(l:List d7),l.length=n->(∀ (k:Nat)(v:d7),l[k]?=some v->∃ t,v=Value.int (0+(k:Int)*1) t)->Vals ((i6 n).map λ i:Nat=>V.int (i:Int)) l:=by
   intro n l hl hv
   have gen:∀ (l:List d7)(o:Nat),(∀ (k:Nat)(v:d7),l[k]?=some v->∃ t,v=Value.int ((o+k:Nat):Int) t)->Vals ((List.range' o l.length).map λ i:Nat=>V.int (i:Int)) l:=by
    intro l
    induction l with
    | nil=>intro o _;exact .nil
    | cons x r ih =>
     intro o h
     rw[uas,List.range'_succ,uaq]
     obtain⟨t,ht⟩:=h 0 x rfl
     refine .cons ⟨t,by simpa using ht⟩ (ih (o+1) λ k v hk=>?_)
     obtain⟨t,ht⟩:=h (k+1) v (by simpa using hk)
     exact⟨t,by rw[ht];congr 1;left⟩
   have:=gen l 0 λ k v hk=>by
    obtain⟨t,ht⟩:=hv k v hk
    exact⟨t,by rw[ht];congr 1;left⟩
   rw[hl,← List.range_eq_range'] at this
   exact this
  exact go j.toNat acc.toList (by rw[ub3];exact hacc.1) λ k v hv=>hacc.2 k v (by simpa using hv)
inductive call_sortedIT_i  (xs:List V) (H:Hp) (Q:VK):Prop
 | mk:∀ p ns,(xs=[.ref p])->(H p=some (.tup (ns.map V.int)))->(ns.length<64)->(∀ ms:List Int,ms.Perm ns->ms.Pairwise (·<=·)->∀ l H',Same H H'->H l=none->H' l=some (.lst (ms.map V.int))->Q (.ref l) H')->call_sortedIT_i xs H Q
theorem jM:CallR X (.builtin "sorted") (call_sortedIT_i):=by
 intro pins s σ H xs us Q I r h
 obtain⟨p,ns,rfl,hq,h64,q⟩:=h
 obtain⟨u,rfl,rx⟩:=vals1 r
 cases rx
 obtain⟨its,rv,pl,hz⟩:=I.tuple (SqT.of hq)
 have hl:=rv.length
 rw[g9] at hl
 have hI:IntsAre its ns:=cU rv
 have line:(64:Nat)<=p9:=by rw[ubk];decide
 obtain⟨o,ho,hc,n,hd⟩:=id pl
 refine Srt.tV (vs:=its) (r:=λ i=>ns.getD i 0) (κ:=oneType') (by left) (λ A' E' Q' hQ=>?_) (λ h2 A' s' Q' _ q'=>Srt.mK hI h2 q') (λ A' s' i j C _ hi hj q'=>Srt.oA hI hi hj q') λ pp h' c gg g u kg kp e=>?_
 ·refine wpAny_collect_seq p (.inr rfl) ho hc hd (λ h' hk=>?_) (by rw[k9];left)
  exact hQ h' hk
 have g':Srt.Gd ns.length pp:=by rw[hl];exact g
 have u':Srt.Up (λ i=>ns.getD i 0) pp ns.length:=by rw[hl];exact u
 have pm:(pp.toList.map λ i=>ns.getD i 0).Perm ns:=by
  have:=fZ g' λ i=>ns.getD i 0
  rw[dW] at this
  exact this
 have pw:(pp.toList.map λ i=>ns.getD i 0).Pairwise (·<=·):=by
  rw[ua2]
  exact fT g' u' λ i j _ _ z=>z
 have I1:Inv X pins σ H { s with heap:=gg,toks:=s.toks }:=I.kept (t':=s.toks) kg
 have fr:H gg.objs.size=none:=I1.hok.fresh (i7 _)
 have ev:((pp.toList.map λ i=>ns.getD i 0).map V.int)=pp.toList.map λ i=>(ns.map V.int).getD i .non:=by
  rw[ubb]
  refine uct λ i hi=>?_
  have:=dD g' i hi
  simp [ua8,this]
 refine⟨.ref gg.objs.size,_,I1.laid (a:=gg.objs.size) (o:=.lst ((pp.toList.map λ i=>ns.getD i 0).map V.int)) (t':=s.toks) kp (i7 _) ⟨?_,Srt.outOf its pp,c,?_,e⟩,rfl,q _ pm pw _ _ (aN fr) fr aH⟩
 ·have:=pm.length_eq
  rw[g9,this];left
 ·rw[ev]
  exact eE rv pp.toList λ i hi=>by rw[g9];exact dD g' i hi
end
section
variable {g:TG}{tt:TT}{te:TE}{own:List Str}{js:List Nat}{σ:L2.St}{H1:Hp}{Q:VK}
theorem kR {K:a8}{a:j7}{xs:List V}(hx:H1 a=some (.tup xs))(Sg:L2.St->Prop)(sel:Nat->Option V)(hn:xs.length<=1000)(h0:Sg (start3 own js σ))
  (step:∀ i x σ' H',xs[i]?=some x->Same H1 H'->Sg σ'->∀ (C:L2.St->V->Hp->Prop)(L:L2.St->Hp->Prop),(∀ σ3 v H5,Sg σ3->Same H' H5->sel i=some v->C σ3 v H5)->(∀ σ3 H5,Sg σ3->Same H' H5->sel i=none->L σ3 H5) ->
   g x σ' H' λ σ3 H3=>tt σ3 H3 λ b H4=>if b=true then te σ3 H4 λ v H5=>C σ3 v H5 else L σ3 H4)
  (fin:∀ D H',H1 D=none->Same H1 H'->H' D=some (.lst ((i6 xs.length).filterMap sel))->Q (.ref D) H'):CompGo own js g tt te σ Q (Itt K a) H1:=by
 refine yE xs.length Sg sel hn h0 (λ i H' hi s=>⟨xs,xs[i],SqT.of (s _ _ hx),by simp [hi]⟩) (λ H' s=>⟨xs,SqT.of (s _ _ hx),i7 _⟩) (λ i x σ' H' H2 hi s hy sg C L hC hL=>?_) fin
 obtain⟨rfl,hy⟩:=hy
 exact step i x σ' _ (hy xs (SqT.of (s _ _ hx))) s sg C L hC hL
end
def outs (m:Nat)(ks:List Nat):List Nat:=(i6 m).filter λ k=>decide (k∉ks)
theorem outs_mem {m k:Nat}{ks:List Nat}:k∈outs m ks↔k<m/\k∉ks:=by unfold outs;rw[uak,o6,decide_eq_true_iff]
noncomputable def gO (ts:List Tie)(ks:List Nat)(k:Nat):Option Int :=
 @dite (Option Int) (∃ o,Far.Dst (arcs ts ks) (tieAt ts k).1.toNat (tieAt ts k).2.1.toNat o) (Classical.propDecidable _) (λ h=>Classical.choose h) λ _=>none
theorem gJ {ts:List Tie}{ks:List Nat}{k:Nat}{o:Option Int}(h:Far.Dst (arcs ts ks) (tieAt ts k).1.toNat (tieAt ts k).2.1.toNat o):gO ts ks k=o:=by
 unfold gO
 have ex:∃ o,Far.Dst (arcs ts ks) (tieAt ts k).1.toNat (tieAt ts k).2.1.toNat o:=⟨o,h⟩
 rw[dif_pos ex]
 exact Far.Dst.unique (Classical.choose_spec ex) h
def spWhole (K:a8):Sp:=λ vs H Q _=>∃ n ts v,vs=[v]/\Is K H (webD n ts) v/\ts.length<=60/\∀ l H',Same H H'->H l=none->H' l=some (.tup (natV (i6 ts.length)))->Q (.ref l) H'
theorem dB {ns:List Nat}{i:Nat}{x:V}(h:(natV ns)[i]?=some x):∃ k,ns[i]?=some k/\x=.int (k:Int):=by
 rw[bH] at h;exact nY h
end L3
namespace Far
variable {A:List (Nat × Nat × Int)}{s:Nat}
structure Ahd (A:List (Nat × Nat × Int))(s:Nat)(cs:List (Option (Int × Int)))(as:List (Option Nat)):Prop where
 len:as.length=cs.length
 root:get as s=none
 has:∀ v c,get cs v=some c->v≠s->get as v≠none
 arc:∀ v u,get as v=some u->∃ l cu cv,(u,v,l)∈A/\get cs u=some cu/\get cs v=some cv/\cu.1+l<=cv.1
theorem Ahd.step {n u v:Nat}{l w:Int}{cs:List (Option (Int × Int))}{as:List (Option Nat)}{c:Int × Int}(P:Pos A)(g:Good A n s cs)(a:Ahd A s cs as)(m:(u,v,l)∈A)(hv:v<n)(hu:get cs u=some c)
  (h:get cs v=none\/∃ c',get cs v=some c'/\lt2 (c.1+l,c.2+w) c'):Ahd A s (cs.set v (some (c.1+l,c.2+w))) (as.set v (some u)):=by
 have hc:v<cs.length:=by rw[g.len];exact hv
 have ha:v<as.length:=by rw[a.len];exact hc
 have l1:=P _ _ _ m
 have c0:=(g.walk _ _ hu).nonneg P
 have vs:v≠s:=λ z=>by
  obtain⟨d,hd,hd0⟩:=g.start
  rw[← z] at hd
  rcases h with h | ⟨c',h,hl⟩
  ·rw[h] at hd;cases hd
  ·rw[h] at hd;cases hd
   unfold lt2 at hl;simp only at hl;left
 have uv:u≠v:=λ z=>by
  rcases h with h | ⟨c',h,hl⟩
  ·rw[← z,hu] at h;cases h
  ·rw[← z,hu] at h;cases h
   unfold lt2 at hl;simp only at hl;left
 refine⟨by rw[ual,ual];exact a.len,?_,λ x d e hx=>?_,λ x y e=>?_⟩
 ·rw[aM ha,ugd (Ne.symm vs)];exact a.root
 ·rw[aM ha]
  split
  ·exact λ z=>by cases z
  ·rename_i xv
   rw[aM hc,ugd xv] at e
   exact a.has x d e hx
 ·rw[aM ha] at e
  split at e
  ·rename_i z;subst z;cases e
   exact⟨l,c,_,m,by rw[aM hc,ugd uv];exact hu,by rw[aM hc,ugc rfl],uaj _⟩
  ·rename_i xv
   obtain⟨l',cu,cv,m',e1,e2,hle⟩:=a.arc x y e
   by_cases yv:y=v
   ·subst yv
    refine⟨l',_,cv,m',by rw[aM hc,ugc rfl],by rw[aM hc,ugd xv];exact e2,?_⟩
    rcases h with h | ⟨c',h,hl⟩
    ·rw[h] at e1;cases e1
    ·rw[h] at e1;cases e1
     unfold lt2 at hl;simp only at hl
     show c.1+l+l'<=cv.1
     left
   ·exact⟨l',cu,cv,m',by rw[aM hc,ugd yv];exact e1,by rw[aM hc,ugd xv];exact e2,hle⟩
theorem Ahd.first {n:Nat}(hs:s<n):Ahd A s ((o3 n none).set s (some (0,0))) (o3 n none):=by
 have hl:s<(o3 n (none:Option (Int × Int))).length:=by rw[v5];exact hs
 refine⟨by rw[ual,v5,v5],cA _ _,λ v c e hv=>?_,λ v u e=>?_⟩
 ·rw[aM hl,ugd hv,cA] at e;cases e
 ·rw[cA] at e;cases e
theorem Ahd.next {n:Nat}{cs:List (Option (Int × Int))}{as:List (Option Nat)}{v u:Nat}(a:Ahd A s cs as)(st:Stab A cs)(e:get as v=some u):∃ l cu cv,(u,v,l)∈A/\get cs u=some cu/\get cs v=some cv/\cu.1+l=cv.1:=by
 obtain⟨l,cu,cv,m,e1,e2,hle⟩:=a.arc v u e
 obtain⟨c',e3,h3⟩:=st u v l cu m e1
 rw[e2] at e3;cases e3
 exact⟨l,cu,cv,m,e1,e2,by left⟩
inductive Tr (A:List (Nat × Nat × Int))(a:Nat):List Nat->Nat->Int->Prop
 | one:Tr A a [a] a 0
 | snoc {ws:List Nat} {u v:Nat} {x l:Int}:Tr A a ws u x->(u,v,l)∈A->Tr A a (ws++[v]) v (x+l)
def beyond (n:Nat)(cs:List (Option (Int × Int)))(d:Int):Nat:=(i6 n).countP λ v=>match get cs v with | none=>false | some c=>decide (d<=c.1)
theorem wD {n u:Nat}{cs:List (Option (Int × Int))}{cu:Int × Int}{d:Int}(hu:u<n)(e:get cs u=some cu)(h:cu.1<d):beyond n cs d<beyond n cs cu.1:=by
 refine dI (λ v _ hv=>?_) ⟨u,o6.mpr hu,?_,?_⟩
 ·cases e2:get cs v with
  | none=>rw[e2] at hv;cases hv
  | some c=>rw[e2] at hv;have:=uga hv;exact uf9 (by left)
 ·rw[e];exact uf9 (uaj _)
 ·rw[e];exact ugb (by left)
theorem lC (n:Nat)(cs:List (Option (Int × Int)))(d:Int):beyond n cs d<=n:=by
 have:=List.countP_le_length (p:=λ v=>match get cs v with | none=>false | some c=>decide (d<=c.1)) (l:=i6 n)
 rw[v6] at this;exact this
theorem uQ {n u:Nat}{cs:List (Option (Int × Int))}{cu:Int × Int}(hu:u<n)(e:get cs u=some cu):1<=beyond n cs cu.1 :=
 List.countP_pos_iff.mpr ⟨u,o6.mpr hu,by rw[e];exact uf9 (uaj _)⟩
end Far
namespace L3
open PySem PySem.Spec PyProof.Rows L2
theorem kH (ns:List Int):∀ i,i<=ns.length->preSum (λ i=>ns.getD i 0) i=(ns.take i).sum
 | 0,_=>rfl
 | i+1,h=>by
  have e:ns[i]?=some ns[i]:=d6 (by left)
  show preSum _ i+ns.getD i 0=_
  rw[kH ns i (by left),dG e,List.sum_append,f8,e]
  simp
inductive call_sumA_i  (xs:List V) (H:Hp) (Q:VK):Prop
 | mk:∀ (p:j7)(ns:List Int),(xs=[.ref p])->(H p=some (.lst (ns.map V.int)))->(Q (.int ns.sum) H)->call_sumA_i xs H Q
theorem wA {X:Cx}(hh:X.calm=true):CallR X (.builtin "sum") (call_sumA_i):=by
 intro pins s σ H xs us Q I r h
 obtain⟨p,ns,rfl,hq,q⟩:=h
 obtain⟨u,rfl,rx⟩:=vals1 r
 cases rx
 obtain⟨its,rv,pl,hz⟩:=I.list (SqL.of hq)
 have hl:=rv.length
 rw[g9] at hl
 have hI:IntsAre its ns:=cU rv
 have lt:p≠s.heap.objs.size:=by obtain⟨o,e,_⟩:=pl.isList;exact o0 (j8 e)
 refine call_sum_walkAnyS (udg pl.isList ?_)
 have W:=(Walks.list (prog:=X.prog) (w:=X.w) (A:=X.A.in1) (show X.A.in1.handled=none from I.ok.hd hh) s.heap.objs.size p lt its.toArray).toS
 refine⟨s.heap.objs.size,_,_,_,_,_,_,(λ i=>ns.getD i 0),rfl,W,⟨⟨_,l4 _ rfl,rfl,rfl⟩,pl.isList.push _⟩,λ b hb=>?_,λ i v hv=>?_,λ s' t' hm=>?_⟩
 ·obtain⟨o,e,_⟩:=pl.isList
  have hlt:p<s.heap.objs.size:=j8 e
  show b<(s.heap.push _).objs.size
  rw[ua0]
  simp only [l7,uag,or_false] at hb
  rcases hb with z | z
  ·rw[z];exact ueh _
  ·rw[z];exact ud8 hlt
 ·exact IntsAre.int_at hI i v (by simpa using hv)
 ·rw[Moved.eq_with hm]
  refine⟨.int ns.sum,H,I.kept (t':=s'.toks) λ b o e=>hm.heap b o (λ z=>?_) (b9 _ e),⟨t',?_⟩,q⟩
  ·have:b=s.heap.objs.size:=by simpa using z
   exact absurd (j8 e) (by rw[this];exact ubh _)
  ·rw[show its.toArray.size=ns.length by rw[k9,← hl],kH ns _ (i7 _),udc]
def oa:Option Nat->V
 | none=>.non
 | some u=>.int (u:Int)
structure RA (H J:Hp)(lw lc la:j7)(ws:List V)(cs:List (Option (Int × Int)))(as:List (Option Nat)):Prop where
 same:Same H J
 fc:H lc=none
 fa:H la=none
 nwc:lw≠lc
 nwa:lw≠la
 nca:lc≠la
 wl:J lw=some (.lst ws)
 co:∃ cvs,J lc=some (.lst cvs)/\CostL J cvs cs
 ah:J la=some (.lst (as.map oa))
section
variable {H H' J J':Hp}{vs cvs ws:List V}{cs:List (Option (Int × Int))}{as:List (Option Nat)}{lw lc la t:j7}{k:Nat}{x y:Int}
theorem RA.step (h:RA H J lw lc la ws cs as)(s:Same J J'):RA H J' lw lc la ws cs as :=
 ⟨h.same.trans s,h.fc,h.fa,h.nwc,h.nwa,h.nca,s _ _ h.wl,let ⟨c,e,z⟩:=h.co;⟨c,s _ _ e,z.keep (iK s)⟩,s _ _ h.ah⟩
theorem RA.put (h:RA H J lw lc la ws cs as)(hc:J lc=some (.lst cvs))(hk:k<cvs.length)(ht:J t=some (.tup [.int x,.int y])):RA H (upd J lc (.lst (cvs.set k (.ref t)))) lw lc la ws (cs.set k (some (x,y))) as:=by
 obtain⟨c,e,z⟩:=h.co
 rw[hc] at e;cases e
 refine⟨λ b o eb=>?_,h.fc,h.fa,h.nwc,h.nwa,h.nca,?_,⟨_,aH,CostL.set (z.keep (cR hc)) hk ⟨t,rfl,cR hc _ _ ht⟩⟩,?_⟩
 ·rw[aD (aT eb h.fc)];exact h.same _ _ eb
 ·rw[aD h.nwc];exact h.wl
 ·rw[aD h.nca.symm];exact h.ah
theorem RA.mark {u:Nat}(h:RA H J lw lc la ws cs as):RA H (upd J la (.lst ((as.map oa).set k (.int (u:Int))))) lw lc la ws cs (as.set k (some u)):=by
 obtain⟨c,e,z⟩:=h.co
 refine⟨λ b o eb=>?_,h.fc,h.fa,h.nwc,h.nwa,h.nca,?_,⟨c,?_,z.keep (cR h.ah)⟩,?_⟩
 ·rw[aD (aT eb h.fa)];exact h.same _ _ eb
 ·rw[aD h.nwa];exact h.wl
 ·rw[aD h.nca];exact e
 ·rw[aH,List.map_set];rfl
end
theorem zbl {D:List (Option Nat)}{i:Nat}(h:i<D.length):(D.map oa)[i]?=some (oa (Far.get D i)):=by
 rw[o7,d6 h]
 unfold Far.get
 rw[f8,d6 h];rfl
def WayV (H:Hp)(A:List (Nat × Nat × Int))(a b:Nat)(v:V):Prop:=(v=.non/\Far.Dst A a b none)\/∃ t ws x,v=.ref t/\H t=some (.tup (natV ws))/\ws.length<=24/\Far.Tr A a ws b x/\Far.Dst A a b (some x)
def spWay (K:a8):Sp:=λ vs H Q _=>∃ n ts ks wv kv a b,vs=[wv,kv,.int a,.int b]/\WK K H n ts ks wv kv/\0<=a/\a<n/\0<=b/\b<n/\∀ v H',Same H H'->WayV H' (arcs ts ks) a.toNat b.toNat v->Q v H'
def isTB (ts:List Tie)(u v:Nat)(k:Nat):Bool:=decide ((tieAt ts k).1=min (u:Int) v)&&decide ((tieAt ts k).2.1=max (u:Int) v)
def tbN (ts:List Tie)(u v:Nat):Option Nat:=(i6 ts.length).find? (isTB ts u v)
theorem zav {n:Int}{ts:List Tie}{ks:List Nat}(ok:WebOk n ts)(ko:KeepOk ts.length ks){u v:Nat}{l:Int}(h:(u,v,l)∈arcs ts ks):∃ k,tbN ts u v=some k/\k<ts.length/\(tieAt ts k).2.2=l:=by
 obtain⟨k,hk,m⟩:=arcs_mem.mp h
 have hkl:=ko.2 k hk
 have tk:=ok.tie _ (aY hkl).2
 have isk:isTB ts u v k=true/\(tieAt ts k).2.2=l:=by
  unfold isTB
  rcases arcs2_mem.mp m with e | e
  ·have e1:u=(tieAt ts k).1.toNat:=congrArg (·.1) e
   have e2:v=(tieAt ts k).2.1.toNat:=congrArg (·.2.1) e
   have e3:l=(tieAt ts k).2.2:=congrArg (·.2.2) e
   have eu:(u:Int)=(tieAt ts k).1:=by rw[e1];exact uao tk.1
   have ev:(v:Int)=(tieAt ts k).2.1:=by rw[e2];exact uao (ucj (Int.lt_of_le_of_lt tk.1 tk.2.1))
   rw[eu,ev,Int.min_eq_left (ucj tk.2.1),Int.max_eq_right (ucj tk.2.1)]
   exact⟨by rw[uf9 rfl,uf9 rfl];rfl,e3.symm⟩
  ·have e1:u=(tieAt ts k).2.1.toNat:=congrArg (·.1) e
   have e2:v=(tieAt ts k).1.toNat:=congrArg (·.2.1) e
   have e3:l=(tieAt ts k).2.2:=congrArg (·.2.2) e
   have eu:(u:Int)=(tieAt ts k).2.1:=by rw[e1];exact uao (ucj (Int.lt_of_le_of_lt tk.1 tk.2.1))
   have ev:(v:Int)=(tieAt ts k).1:=by rw[e2];exact uao tk.1
   rw[eu,ev,Int.min_eq_right (ucj tk.2.1),Int.max_eq_left (ucj tk.2.1)]
   exact⟨by rw[uf9 rfl,uf9 rfl];rfl,e3.symm⟩
 cases e:tbN ts u v with
 | none =>
  have:=ue5.mp e k (o6.mpr hkl)
  exact absurd isk.1 this
 | some k' =>
  have p:=List.find?_some e
  have hk':k'<ts.length:=o6.mp (ufx e)
  refine⟨k',rfl,hk',?_⟩
  have same:k'=k:=by
   have q1:=p
   have q2:=isk.1
   unfold isTB at q1 q2
   rw[w8] at q1 q2
   have a1:=uga q1.1
   have a2:=uga q1.2
   have b1:=uga q2.1
   have b2:=uga q2.2
   have ri:=uan.mp ok.rise
   have g:∀ j (hj:j<ts.length),ts[j]=tieAt ts j:=λ j hj=>by
    have:=(aY hj).1
    rw[d6 hj] at this
    exact t6 this
   rcases ubr k' k with z | z | z
   ·have:=ri k' k hk' hkl z
    rw[g k' hk',g k hkl] at this
    exact (this.elim (λ z=>ufi z (a1.trans b1.symm)) λ z=>ufi z.2 (a2.trans b2.symm)).elim
   ·exact z
   ·have:=ri k k' hkl hk' z
    rw[g k' hk',g k hkl] at this
    exact (this.elim (λ z=>ufi z (b1.trans a1.symm)) λ z=>ufi z.2 (b2.trans a2.symm)).elim
  rw[same];exact isk.2
def tlen (ts:List Tie)(u v:Nat):Int:=(tieAt ts ((tbN ts u v).getD 0)).2.2
def wl (ts:List Tie):List Nat->Int
 | u::v::r=>tlen ts u v+wl ts (v::r)
 | _=>0
def linked (ts:List Tie):List Nat->Prop
 | u::v::r=>(∃ k,tbN ts u v=some k/\k<ts.length)/\linked ts (v::r)
 | _=>True
theorem iI {A:List (Nat × Nat × Int)}{a v:Nat}{ws:List Nat}{x:Int}(h:Far.Tr A a ws v x):∃ r,ws=r++[v]:=by
 cases h with
 | one=>exact⟨[],rfl⟩
 | snoc _ _=>exact⟨_,rfl⟩
theorem nA (ts:List Tie)(u v:Nat):∀ r:List Nat,wl ts (r++[u]++[v])=wl ts (r++[u])+tlen ts u v
 | []=>by show tlen ts u v+0=0+tlen ts u v;left
 | [a]=>by show tlen ts a u+(tlen ts u v+0)=tlen ts a u+0+tlen ts u v;left
 | a::b::r=>by
  have:=nA ts u v (b::r)
  show tlen ts a b+wl ts ((b::r)++[u]++[v])=tlen ts a b+wl ts ((b::r)++[u])+tlen ts u v
  rw[this];left
theorem jO (ts:List Tie)(u v:Nat)(h:∃ k,tbN ts u v=some k/\k<ts.length):∀ r:List Nat,linked ts (r++[u])->linked ts (r++[u]++[v])
 | [],_=>⟨h,trivial⟩
 | [a],hl=>⟨hl.1,h,trivial⟩
 | a::b::r,hl=>⟨hl.1,jO ts u v h (b::r) hl.2⟩
theorem jC {n:Int}{ts:List Tie}{ks:List Nat}(ok:WebOk n ts)(ko:KeepOk ts.length ks){a v:Nat}{ws:List Nat}{x:Int}(h:Far.Tr (arcs ts ks) a ws v x):wl ts ws=x/\linked ts ws:=by
 induction h with
 | one=>exact⟨rfl,trivial⟩
 | @snoc ws u v x l t m ih =>
  obtain⟨r,rfl⟩:=iI t
  obtain⟨k,e1,e2,e3⟩:=zav ok ko m
  refine⟨?_,jO ts u v ⟨k,e1,e2⟩ r ih.2⟩
  rw[nA,ih.1]
  unfold tlen
  rw[e1]
  show x+(tieAt ts k).2.2=x+l
  rw[e3]
theorem gS {ts:List Tie}:∀ {ws:List Nat}{i u v:Nat},linked ts ws->ws[i]?=some u->ws[i+1]?=some v->∃ k,tbN ts u v=some k/\k<ts.length
 | a::b::r,0,u,v,h,e1,e2=>by cases e1;cases e2;exact h.1
 | a::b::r,i+1,u,v,h,e1,e2=>gS (ws:=b::r) (i:=i) h.2 (by simpa using e1) (by simpa using e2)
 | [a],0,u,v,_,_,e2=>by cases e2
 | [a],i+1,u,v,_,e1,_=>by cases e1
 | [],i,u,v,_,e1,_=>by cases e1
def alongN (ts:List Tie)(ws:List Nat):List Nat:=(i6 (ws.length-1)).map λ i=>(tbN ts (ws.getD i 0) (ws.getD (i+1) 0)).getD 0
theorem uW (ts:List Tie)(u v:Nat)(r:List Nat):alongN ts (u::v::r)=(tbN ts u v).getD 0::alongN ts (v::r):=by
 unfold alongN
 show (i6 (r.length+1)).map _=_
 rw[List.range_succ_eq_map,uaq,ubb]
 rfl
theorem lE (ts:List Tie):∀ ws:List Nat,((alongN ts ws).map λ k=>(tieAt ts k).2.2).sum=wl ts ws
 | []=>rfl
 | [_]=>rfl
 | u::v::r=>by
  rw[uW,uaq,List.sum_cons,lE ts (v::r)];rfl
def spTB (K:a8):Sp:=λ vs H Q _=>∃ (n:Int)(ts:List Tie)(wv:V)(u v:Nat),vs=[wv,.int (u:Int),.int (v:Int)]/\Is K H (webD n ts) wv/\ts.length<=60/\∀ H',Same H H'->Q (oa (tbN ts u v)) H'
def spAlong (K:a8):Sp:=λ vs H Q _=>∃ (n:Int)(ts:List Tie)(wv:V)(t:j7)(ws:List Nat),vs=[wv,.ref t]/\Is K H (webD n ts) wv/\ts.length<=60/\H t=some (.tup (natV ws))/\ws.length<=24/\linked ts ws/\∀ l H',Same H H'->H' l=some (.lst (natV (alongN ts ws)))->Q (.ref l) H'
def spWLen (K:a8):Sp:=λ vs H Q _=>∃ (n:Int)(ts:List Tie)(wv:V)(t:j7)(ws:List Nat),vs=[wv,.ref t]/\Is K H (webD n ts) wv/\ts.length<=60/\H t=some (.tup (natV ws))/\ws.length<=24/\linked ts ws/\∀ H',Same H H'->Q (.int (wl ts ws)) H'
theorem yW {ts:List Tie}{ws:List Nat}(h:linked ts ws):∀ k∈alongN ts ws,k<ts.length:=λ k hk=>by
 unfold alongN at hk
 obtain⟨i,hi,rfl⟩:=v4.mp hk
 have hi':=o6.mp hi
 have e1:ws[i]?=some (ws.getD i 0):=by rw[f8,d6 (by left)];rfl
 have e2:ws[i+1]?=some (ws.getD (i+1) 0):=by rw[f8,d6 (by left)];rfl
 obtain⟨k,e,hk⟩:=gS h e1 e2
 rw[e];exact hk
theorem xA (a b x y:Int):ue3 (.tuple (([a,b]:List Int).map .int)) (.tuple (([x,y]:List Int).map .int))=(decide (a=x)&&decide (b=y)):=by
 show (_&&(_&&true))=_
 rw[uf8]
 rfl
def but (ks:List Nat)(k:Nat):List Nat:=ks.filter λ j=>decide (j≠k)
theorem pA {m:Nat}{ks:List Nat}{k:Nat}(h:KeepOk m ks):KeepOk m (but ks k):=⟨h.1.sublist udr,λ j hj=>h.2 j (uak.mp hj).1⟩
theorem lM (p:Nat->Bool)(ks:List Nat):(i6 ks.length).filterMap (λ i=>if p (ks.getD i 0)=true then some (V.int ((ks.getD i 0:Nat):Int)) else none)=natV (ks.filter p):=by
 have e:=congrArg (List.filterMap λ j:Nat=>if p j=true then some (V.int (j:Int)) else none) (dW ks 0)
 rw[List.filterMap_map] at e
 exact e.trans (hZ p ks)
def withinB (t l:Int):Option Int->Bool
 | none=>false
 | some x=>decide (x<=t*l)
noncomputable def neededN (ts:List Tie)(ks:List Nat)(t:Int):List Nat:=ks.filter λ k=>!withinB t (tieAt ts k).2.2 (gO ts (but ks k) k)
def spWithout (K:a8):Sp:=λ vs H Q _=>∃ (m:Nat)(ks:List Nat)(kv:V)(k:Nat),vs=[kv,.int (k:Int)]/\Is K H (keepD ks) kv/\KeepOk m ks/\m<=60/\∀ p H',Same H H'->H' p=some (.tup (natV (but ks k)))->Q (.ref p) H'
def spSpare (K:a8):Sp:=λ vs H Q _=>∃ (n:Int)(ts:List Tie)(ks:List Nat)(wv kv:V)(k:Nat),vs=[wv,kv,.int (k:Int)]/\WK K H n ts ks wv kv/\k<ts.length/\∀ v H',Same H H'->WayV H' (arcs ts (but ks k)) (tieAt ts k).1.toNat (tieAt ts k).2.1.toNat v->Q v H'
def spNeed (K:a8):Sp:=λ vs H Q _=>∃ t:Int,vs=[.int t]/\1<=t/\t<=99/\∀ H',Same H H'->Q .non H'
def spWithin (K:a8):Sp:=λ vs H Q _=>∃ (n:Int)(ts:List Tie)(ks:List Nat)(wv:V)(k:Nat)(t:Int)(v:V),vs=[wv,.int (k:Int),.int t,v]/\Is K H (webD n ts) wv/\WebOk n ts/\KeepOk ts.length ks/\k<ts.length/\1<=t/\t<=99 /\
 WayV H (arcs ts ks) (tieAt ts k).1.toNat (tieAt ts k).2.1.toNat v/\∀ H',Same H H'->Q (.bl (withinB t (tieAt ts k).2.2 (gO ts ks k))) H'
def spNeeded (K:a8):Sp:=λ vs H Q _=>∃ n ts ks wv kv t,vs=[wv,kv,.int t]/\WK K H n ts ks wv kv/\1<=t/\t<=99/\∀ p H',Same H H'->H' p=some (.tup (natV (neededN ts ks t)))->Q (.ref p) H'
end L3
namespace Far
section
variable {A B:List (Nat × Nat × Int)}{s u v:Nat}{x y:Int}
theorem Walk.app (h:Walk B s u x)(k:Walk B u v y):Walk B s v (x+y):=by
 induction k with
 | nil=>rw[Int.add_zero];exact h
 | @snoc w v l y k m ih =>
  have:=Walk.snoc ih m
  rw[Int.add_assoc] at this
  exact this
theorem grow {p q:Int}(h:∀ u v l,(u,v,l)∈A->∃ y,Walk B u v y/\y*q<=p*l)(w:Walk A s v x):∃ y,Walk B s v y/\y*q<=p*x:=by
 induction w with
 | nil=>exact⟨0,.nil,by simp⟩
 | @snoc u v l x w m ih =>
  obtain⟨y1,w1,e1⟩:=ih
  obtain⟨y2,w2,e2⟩:=h _ _ _ m
  refine⟨y1+y2,w1.app w2,?_⟩
  rw[Int.add_mul,Int.mul_add];left
theorem xO {p q:Int}(q0:0<=q)(h:∀ u v l,(u,v,l)∈A->∃ y,Walk B u v y/\y*q<=p*l){d:Int}{o:Option Int}(a:Dst A s v (some d))(b:Dst B s v o):∃ y,o=some y/\y*q<=p*d:=by
 obtain⟨y,w,e⟩:=grow h (a.1 d rfl)
 obtain⟨z,ez,le⟩:=b.2 y w
 exact⟨z,ez,ufj (Int.mul_le_mul_of_nonneg_right le q0) e⟩
end
end Far
namespace Far
section
variable {G:Nat->Option Int}{len:Nat->Int}
end
end Far
namespace Far
section
variable {A:List (Nat × Nat × Int)}{s:Nat}
theorem settle {n:Nat}(P:Pos A)(n24:n<=24)(inn:∀ u v l,(u,v,l)∈A->u<n/\v<n)(top:∀ u v l,(u,v,l)∈A->l<=10^18):∀ (m:Nat)(cs:List (Option (Int × Int))),mu cs=m->Good A n s cs->∃ cs',Good A n s cs'/\Stab A cs':=by
 intro m
 induction m using ucx with
 | ind m ih =>
  intro cs em g
  by_cases c:∃ u v l e,(u,v,l)∈A/\get cs u=some e/\(get cs v=none\/∃ c',get cs v=some c'/\lt2 (e.1+l,e.2+0) c')
  ·obtain⟨u,v,l,e,m1,h1,h2⟩:=c
   obtain⟨g2,lt⟩:=Good.step P n24 g m1 (top _ _ _ m1) (by decide) (by decide) (inn _ _ _ m1).2 h1 h2
   exact ih _ (by left) _ rfl g2
  ·refine⟨cs,g,λ u v l e m1 h1=>?_⟩
   cases h:get cs v with
   | none=>exact absurd ⟨u,v,l,e,m1,h1,.inl h⟩ c
   | some c' =>
    refine⟨c',rfl,?_⟩
    rcases Int.lt_or_le (e.1+l) c'.1 with z | z
    ·exact absurd ⟨u,v,l,e,m1,h1,.inr ⟨c',h,.inl z⟩⟩ c
    ·left
theorem Dst.top {n:Nat}(P:Pos A)(n24:n<=24)(hs:s<n)(inn:∀ u v l,(u,v,l)∈A->u<n/\v<n)(top:∀ u v l,(u,v,l)∈A->l<=10^18){v:Nat}{x:Int}(h:Dst A s v (some x)):x<=((n:Int)-1)*10^18:=by
 obtain⟨cs,g,st⟩:=settle P n24 inn top _ _ rfl (Good.first (A:=A) hs)
 have e:=(g.dst st v).unique h
 obtain⟨c,hc,e⟩:=ucw.mp e
 have t:=g.top v c hc
 have l:=eX cs
 rw[g.len] at l
 left
end
end Far
namespace L3
open PySem PySem.Spec PyProof.Rows L2
def allIn (ts:List Tie)(ks:List Nat)(t:Int):Prop:=∀ k,k∈outs ts.length ks->withinB t (tieAt ts k).2.2 (gO ts ks k)=true
section
variable {n:Int}{ts:List Tie}{ks:List Nat}{prs:List (Option Int × Int)}
theorem iY (ok:WebOk n ts)(ko:KeepOk ts.length ks)(k:Nat):Far.Dst (arcs ts ks) (tieAt ts k).1.toNat (tieAt ts k).2.1.toNat (gO ts ks k):=by
 obtain⟨o,h⟩:=Far.uK (fS ok ko) (tieAt ts k).1.toNat (tieAt ts k).2.1.toNat
 rw[gJ h];exact h
theorem within_iff {t l:Int}{o:Option Int}:withinB t l o=true↔∃ x,o=some x/\x<=t*l:=by
 cases o with
 | none=>exact⟨λ h=>(by cases h),λ ⟨x,e,_⟩=>(by cases e)⟩
 | some x=>exact⟨λ h=>⟨x,rfl,uga h⟩,λ ⟨y,e,le⟩=>by cases e;exact uf9 le⟩
end
section
variable {P:m9}{w:uaf}{K:a8}{mg:Str->Option d7}{base:Heap}
def cxL (P:m9)(w:uaf)(K:a8)(mg:Str->Option d7)(base:Heap)(N:List Str)(qual:Str)(scope:ucd)(f:j7)(cd:d7)(cl:List (Str × j7))(A:v7)(outer:List Env)(s:d8)(H:Hp):Cx where
 prog:=P
 w:=w
 K:=K
 mg:=mg
 base:=base
 A:=A.deeper (ue2 qual scope s.heap.objs.size f cd cl)
 N:=N
 s₀:=s
 H₀:=H
 env:=ue2 qual scope s.heap.objs.size f cd cl
 outer:=outer
 stack:=ue2 qual scope s.heap.objs.size f cd cl::outer
 ex:=[]
 fn:=λ _=>false
 calm:=true
 pn:=[]
 xe:=λ _ _=>False
structure LamScope (x y:Str)(sc:ucd):Prop where
 kind:sc.kind=.function
 co:sc.isCoroutine=false
 gen:sc.isGenerator=false
 px:sc.names.lookup x=some .local
 py:sc.names.lookup y=some .free
 nocell:∀ z∈sc.names,z.2≠.cell
 only:∀ z,sc.names.lookup z=some .free->z=y
 ne:x≠y
theorem zab {x y:Str}{qual:Str}{scope:ucd}{f c:j7}{cd:d7}{A:v7}{outer:List Env}{s:d8}{H:Hp}{h1:Heap}{u uy:d7}{vx vy:V}{tk:Nat}(S:LamScope x y scope)(hd:A.handled=none)(e0:Env0 P w K mg base A outer s H)
  (hns:h1.Ns s.heap.objs.size (λ z=>[(x,u)].reverse.lookup z)) (hk:∀ b o,s.heap.get? b=some o->h1.get? b=some o) (hc:s.heap.IsCell c (some uy)) (hH:H c=none) (rx:RelV vx u) (ry:RelV vy uy) :
  Inv (cxL P w K mg base [x,y] qual scope f cd [(y,c)] A outer s H) [] [some vx,some vy] H { s with heap:=h1,toks:=tk }:=by
 have look:∀ z c',[(y,c)].lookup z=some c'->z=y/\c'=c:=λ z c' h=>by
  rw[uar] at h
  cases e:z==y with
  | true=>rw[e] at h;cases h;exact⟨eq_of_beq e,rfl⟩
  | false=>rw[e] at h;cases h
 have hcy:[(y,c)].lookup y=some c:=by rw[uar];simp
 have hc1:h1.IsCell c (some uy):=let ⟨o,e,r⟩:=hc;⟨o,hk _ _ e,r⟩
 have lc:c<s.heap.objs.size:=by obtain⟨o,e,r⟩:=hc;exact j8 e
 have noA:∀ b:j7,b∉(cxL P w K mg base [x,y] qual scope f cd [(y,c)] A outer s H).ex:=λ b z=>absurd (show b∈([]:List j7) from z) (by simp)
 refine⟨⟨e0.mod,S.kind,rfl,rfl,i7 _,λ z z' c' a b=>(look z c' a).1.trans (look z' c' b).1.symm,λ z hz=>?_,λ z c' hf=>?_,λ _=>hd,Around.frames_deeper e0.frames,.inr ⟨rfl,rfl⟩,λ b z=>absurd z (noA b),e0.bs,e0.bsz,λ b _ _=>noA b,λ b z=>absurd z (noA b),e0.funs,e0.frf⟩,
  rfl,e0.bare,Un.kept hk,⟨_,hns,λ i z v a b hv=>?_⟩,λ z c' a=>?_,e0.hok.fresh (i7 _),λ z c' a=>?_,λ p hp=>absurd (show p∈([]:List (j7 × Obj)) from hp) (by simp),e0.hok.kept hk,rfl⟩
 ·have hz:scope.names.lookup z=some .cell\/scope.names.lookup z=some .free:=hz
  rcases hz with hz | hz
  ·exact absurd rfl (S.nocell _ (uae hz))
  ·rw[S.only z hz];exact⟨c,hcy⟩
 ·exact absurd (show false=true from hf) m7
 ·match i,a,b with
  | 0,a,b =>
   have ez:x=z:=t6 a
   have ev:vx=v:=t6 (t6 b)
   subst ez ev
   exact⟨u,rx,.inl ⟨S.px,by show [(x,u)].reverse.lookup x=some u;simp⟩⟩
  | 1,a,b =>
   have ez:y=z:=t6 a
   have ev:vy=v:=t6 (t6 b)
   subst ez ev
   exact⟨uy,ry,.inr ⟨.inr S.py,c,hcy,hc1⟩⟩
  | i+2,a,b=>exact absurd (show ([]:List Str)[i]?=some z from a) (by simp)
 ·rw[(look z c' a).2];exact⟨_,hc1⟩
 ·rw[(look z c' a).2];exact hH
theorem zaa {x y:Str}{name qual:Str}{params:Arguments}{body:ua9}{scope:ucd}{f c c':j7}{pm ctv:d7}{A:v7}{outer:List Env}{s:d8}{H:Hp}{u uy:d7}{vx vy:V}{t:TE}{Q:VK}{k:Nat}(S:LamScope x y scope)(hr:Room (k+1) A)(e0:Env0 P w K mg base A outer s H)
  (ho:s.heap.get? f=some (uah name qual params body scope [(y,c)] pm c' ctv)) (hcd:s.heap.CodeRec (.ref c') qual) (hb:bindArgs (udt name qual params body scope [(y,c)] pm (.ref c') ctv) ⟨[u],[]⟩=pure [(x,u)])
  (hc:s.heap.IsCell c (some uy)) (hH:H c=none) (rx:RelV vx u) (ry:RelV vy uy) (ht:PE (cxL P w K mg base [x,y] qual scope f (.ref c') [(y,c)] A outer s H) body t) (hq:t [some vx,some vy] H Q) :
  codeAny (z9 P w) A (.call (.ref f) ⟨[u],[]⟩) (CR CX0 outer P w H s Q E0) s:=by
 have lim:s.heap.NoLimit:=e0.mod.nolimit.keeps λ b o e=>(e0.bs b o e).1
 refine uf5 hr.depth ho rfl S.co S.gen rfl hcd ?_
 rw[hb]
 refine j9 (ue9 S.nocell (λ z hz=>?_) (λ h1 hns hsb=>⟨lim.fresh _ hsb,?_⟩) S.kind)
 ·rw[j6.mp hz];exact S.px
 have hk:∀ b o,s.heap.get? b=some o->h1.get? b=some o:=λ b o e=>hsb.extBut b o (o0 (j8 e)) (b9 _ e)
 have I:=zab (P:=P) (w:=w) (K:=K) (mg:=mg) (base:=base) (qual:=qual) (f:=f) (cd:=.ref c') (tk:=s.toks+1) S hr.hd e0 hns hk hc hH rx ry
 refine uf4 (ua1 (ht [] _ _ H Q I hq) (λ v s' h=>?_) λ _ _ h=>h.elim)
 obtain⟨v',H',J,rv,q⟩:=h
 exact⟨v',H',J.os,J.bare,J.base,J.hok,rv,q⟩
end
section
variable {X:Cx}{pins:List (j7 × Obj)}{σ:L2.St}{A:v7}{E:d7->d8->Prop}
def KeyV (H:Hp)(v:V)(k:List Int):Prop:=∃ t,v=.ref t/\H t=some (.tup (k.map V.int))
theorem KeyV.same {H H':Hp}{v:V}{k:List Int}(h:KeyV H v k)(S:Same H H'):KeyV H' v k:=let ⟨t,e,q⟩:=h;⟨t,e,S _ _ q⟩
theorem KeyV.but {H H':Hp}{v:V}{k:List Int}{p:j7}{xs:List V}(h:KeyV H v k)(S:But p H H')(hp:H p=some (.lst xs)):KeyV H' v k:=let ⟨t,e,q⟩:=h;⟨t,e,S _ _ (λ z=>by rw[z,hp] at q;cases q) q⟩
abbrev still (a:j7)(e1:Nat):HO:=.ext λ h=>h.get? a=some (seqObj "list" #[] e1)
theorem vQ {a kS f:j7}{vs:List d7}{xs:List V}{ks:List (List Int)}{e1:Nat}{Hs H0:Hp}{s0:d8}{Pf:PySem.Fin->d8->Prop}(I0:Inv X pins σ H0 s0)(S0:Same Hs H0)(fk:Hs kS=none)(hk0:H0 kS=some (.lst []))(rv:Vals xs vs)(hl:ks.length=vs.length)(h64:vs.length<64)
  (turn:∀ (i:Nat)(x:V)(u:d7)(k:List Int)(H':Hp)(s':d8),xs[i]?=some x->RelV x u->ks[i]?=some k->Inv X pins σ H' s'->Same Hs H'->p8 (z9 X.prog X.w) A (call (.ref f) [u]) (λ r s''=>∃ H'' v,Inv X pins σ H'' s''/\Same H' H''/\RelV v r/\KeyV H'' v k) (λ _ _=>False) s')
  (fin:∀ kvs kA H' s',Inv X pins σ H' s'->Same Hs H'->H' kS=some (.lst kvs)->Vals kvs kA->Paired (KeyV H') kvs ks->p8 (z9 X.prog X.w) A (ksk_end a false vs.toArray e1 (.ref kS) kA.toArray) Pf E s') :
  p8 (z9 X.prog X.w) A (ksk_rest a (.ref f) false vs.toArray e1 (.ref kS)) Pf E s0:=by
 unfold ksk_rest
 refine a9 (ue0 ?_);rw[List.forIn_toArray]
 have lxv:=rv.length
 refine a9 (ksk_fold (λ i s'=>∃ H' kvs,Inv X pins σ H' s'/\Same Hs H'/\H' kS=some (.lst kvs)/\Paired (KeyV H') kvs (ks.take i)) vs 0 s0 ⟨H0,[],I0,S0,hk0,by simpa using Paired.nil⟩ ?step ?done)
 case step =>
  rintro j u s' hu ⟨H',kvs,I,S,hk,hp⟩
  simp only [Nat.zero_add] at hp ⊢
  have hj:j<vs.length:=(i8.mp hu).1
  have hx:xs[j]?=some xs[j]:=d6 (by left)
  obtain⟨u',hu',ru⟩:=rv.get hx
  rw[hu] at hu';cases hu'
  have hkj:ks[j]?=some ks[j]:=d6 (by left)
  refine a9 (uc6 (ua1 (turn j _ u _ H' s' hx ru hkj I S) (λ r s2 h=>?_) λ _ _ h=>h.elim))
  obtain⟨H2,v,I2,S2,rr,kv⟩:=h
  have hk2:=S2 _ _ hk
  obtain⟨z,its,n,r2,hl2,e2⟩:=I2.lstM hk2
  have lk:kvs.length<=j:=by have:=hp.length;rw[uef] at this;left
  have fits:kvs.length+1<=p9:=by rw[ubk];left
  dsimp only
  refine a9 (listUpdate_at e2 rfl ?_ (by rw[k9,← hl2];exact z) (by rw[Array.size_push,k9,← hl2];exact w6 fits (uci _)))
  have J:=I2.lset (t':=s2.toks) (f:=(·.push r)) (its':=its++[r]) (ys:=kvs++[v]) hk2 e2 (by simp) (r2.append (.cons rr .nil)) (by rw[j3];exact fits)
  refine j9 ⟨rfl,_,kvs++[v],J,λ b o e=>?_,aH,?_⟩
  ·rw[aD (aT e fk)];exact S2 _ _ (S _ _ e)
  ·rw[dG hkj]
   have bb:But kS H2 (upd H2 kS (.lst (kvs++[v]))):=But.upd
   exact Paired.snoc (Paired.mapP hp λ y k h=>(h.same S2).but bb hk2) (kv.but bb hk2)
 case done =>
  rintro s' ⟨H',kvs,I,S,hk,hp⟩
  rw[show ks.take (0+vs.length)=ks from uei (by left)] at hp
  obtain⟨z,its,n,r2,hl2,e2⟩:=I.lstM hk
  refine a9 (listItems_at e2 rfl ?_)
  exact fin kvs its H' s' I S hk r2 hp
abbrev rk (ks:List (List Int)):Nat->Int:=Srt.rank ks.length λ i j=>Srt.lexI (ks.getD i []) (ks.getD j [])
theorem tF {a kS:j7}{vs:List d7}{kvs:List V}{kA:List d7}{ks:List (List Int)}{e1:Nat}{H:Hp}{s:d8}{Pf:PySem.Fin->d8->Prop}(I:Inv X pins σ H s)(ha:H a=some (still a e1))(hk:H kS=some (.lst kvs))(rk:Vals kvs kA)(hp:Paired (KeyV H) kvs ks)(hne:∀ k∈ks,k≠[])(hl:ks.length=vs.length)(h64:vs.length<64)
  (fin:∀ (p:Array Nat)(H':Hp)(s':d8)(c:Nat),Srt.Gd vs.length p->Srt.Up (L3.rk ks) p vs.length->Inv X pins σ H' s'->But kS H H'->s'.heap.get? a=some (seqObj "list" #[] e1) ->
   Pf (.done (.ret .none)) { s' with heap:=s'.heap.update a (Obj.mapSeq λ _=>(Srt.outOf vs p).toArray) }) :
  p8 (z9 X.prog X.w) A (ksk_end a false vs.toArray e1 (.ref kS) kA.toArray) Pf E s:=by
 obtain⟨ga,_,_⟩:=(show ObjOk X.prog X.w H s.heap a (still a e1) from I.hok a _ ha)
 obtain⟨z,its,n,r2,hl2,e2⟩:=I.lstM hk
 have lkv:kvs.length=ks.length:=hp.length
 have lkA:kA.length=vs.length:=by rw[← rk.length,lkv,hl]
 have hT:∀ {ys:List V}{ks:List (List Int)}{us:List d7},Paired (KeyV H) ys ks->Vals ys us->Paired (Srt.TupI s.heap) us ks:=by
  intro ys ks us hp
  induction hp generalizing us with
  | nil=>intro rv;cases rv;exact .nil
  | cons r t ih =>
   intro rv
   cases rv with
   | cons r1 r2 =>
    obtain⟨a,rfl,qa⟩:=r
    cases r1
    obtain⟨its',rv',⟨o,e1,e2,n,e3⟩,_⟩:=I.tuple (SqT.of qa)
    exact .cons ⟨a,o,its'.toArray,n,rfl,e1,e2,e3,by simpa using cU rv'⟩ (ih r2)
 have tp:=hT hp rk
 have ne:kS≠a:=λ z=>by rw[z,ha] at hk;cases hk
 have line:(64:Nat)<=p9:=by rw[ubk];decide
 have tail:∀ (st:SortSt)(p:Array Nat),(arrOf st).map (·.2)=(Srt.outOf vs p).toArray->failedOf st=none->Srt.Gd vs.length p->Srt.Up (L3.rk ks) p vs.length->p8 (z9 X.prog X.w) A (ksk_tail a false e1 (.ref kS) st) Pf E s:=by
  intro st p ho hf g u
  unfold ksk_tail
  dsimp only
  refine a9 (listUpdate_at e2 rfl ?_ (by rw[k9,← hl2];exact z) (uac _))
  have J:=I.lset (t':=s.toks) (f:=λ _=>(#[]:Array d7)) (its':=[]) (ys:=[]) hk e2 rfl .nil (uac _)
  have ga2:(s.heap.update kS (Obj.mapSeq λ _=>(#[]:Array d7))).get? a=some (seqObj "list" #[] e1):=(p6 s.heap _ ne).trans ga
  refine a9 (ufc (a9 (seqEpoch_at ga2 rfl ?_)))
  rw[ho]
  have lo:(Srt.outOf vs p).length=vs.length:=Srt.iX g
  refine a9 (listUpdate_at ga2 rfl ?_ (uac _) (by simp only [uaw,if_false];rw[k9,lo];left))
  rw[hf]
  simp only [bne_self_eq_false,uaw,if_false]
  exact j9 (fin p _ _ 0 g u J But.upd ga2)
 unfold ksk_end
 simp only [uaw,if_false]
 by_cases h2:vs.length<2
 ·have h2':vs.toArray.size<2:=by rw[k9];exact h2
  simp only [ugc h2']
  refine a9 (j9 ?_)
  rw[StateT.run_pure]
  refine a9 (j9 ?_)
  refine tail (SortSt.mk' general' (kA.toArray.zip vs.toArray) #[] 7 none) (uen (i6 vs.length)) ?_ rfl (ue7 _) (λ i j hij hj=>?_)
  ·rw[Srt.kI]
   apply Array.toList_inj.mp
   show ((kA.toArray.zip vs.toArray).map (·.2)).toList=_
   rw[Array.toList_map]
   simp only [Array.toList_zip,List.toList_toArray]
   exact uff (by left)
  ·have:i=j:=by left
   subst this;exact uaj _
 ·have h2':¬ vs.toArray.size<2:=by rw[k9];exact h2
  simp only [ugd h2']
  refine a9 (Srt.lI tp hne (by left) ?_)
  have ask:∀ (i j:Nat)(C:Bool->d8->Prop),i<vs.length->j<vs.length->C (decide (L3.rk ks i<L3.rk ks j)) s->PySem.W.kas_ask X.prog X.w A (tuples' true) kA i j C s:=λ i j C hi hj q=>Srt.nF tp (by left) (by left) (by
   rw[Srt.fW (lt:=λ i j=>Srt.lexI (ks.getD i []) (ks.getD j [])) (λ i=>Srt.eI _) (λ _ _ _ _ _ _=>Srt.dX _ _ _) (λ _ _ _ _ _ _=>Srt.eG _ _ _) (by left) (by left)] at q;exact q)
  refine a9 (ua1 (PySem.W.kat_run (ks:=kA) (vs:=vs) (Q:=λ st' s'=>∃ p:Array Nat,arrOf st'=p.map (PySem.W.kas_item (kA.toArray.zip vs.toArray))/\failedOf st'=none/\s'=s/\Srt.Gd vs.length p/\Srt.Up (L3.rk ks) p vs.length)
   (G:=λ p s'=>s'=s/\Srt.Gd vs.length p/\Srt.Up (L3.rk ks) p vs.length) lkA (by left) h64 (λ p st' s' _ b2 b3 b4=>⟨p,b2,b3,b4.1,b4.2.1,b4.2.2⟩)
   (Srt.nH (r:=L3.rk ks) (λ i j C hi hj q=>ask i j C hi hj q) (by left) λ p g1 u1=>⟨rfl,g1,u1⟩)) ?_ λ _ _ e=>e)
  rintro ⟨⟨⟩,st'⟩ s' ⟨p,har,hf,rfl,g1,u1⟩
  exact tail st' p (PySem.W.kat_snds lkA har) hf g1 u1
theorem yU {H:Hp}{s:d8}{a:j7}{e1:Nat}{xs:List V}(I:Inv X pins σ H s)(ha:H a=some (.lst xs))(e:s.heap.get? a=some (seqObj "list" #[] e1)):Inv X pins σ (upd H a (still a e1)) s :=
 I.write (x:=a) (e:=a) (h':=s.heap) (t':=s.toks) (by rw[ha];exact trivial) (.inl rfl) (λ b u _ q=>q) ⟨_,e⟩ ⟨e,⟨_,e⟩,λ h1 h2 q k=>k _ q⟩
theorem uN {H:Hp}{s:d8}{p f:j7}{xs:List V}{ks:List (List Int)}{Q:VK}(I:Inv X pins σ H s)(hp:H p=some (.tup xs))(h64:xs.length<64)(hl:ks.length=xs.length)(hne:∀ k∈ks,k≠[])
  (turn:∀ (i:Nat)(x:V)(u:d7)(k:List Int)(H':Hp)(s':d8),xs[i]?=some x->RelV x u->ks[i]?=some k->Inv X pins σ H' s'->Same H H'->p8 (z9 X.prog X.w) X.A.in1.in1 (call (.ref f) [u]) (λ r s''=>∃ H'' v,Inv X pins σ H'' s''/\Same H' H''/\RelV v r/\KeyV H'' v k) (λ _ _=>False) s')
  (q:∀ qs:List (V × List Int),qs.Perm (xs.zip ks)->qs.Pairwise (λ a b=>Srt.lexI b.2 a.2=false)->∀ l H',Same H H'->H l=none->H' l=some (.lst (qs.map (·.1)))->Q (.ref l) H') :
  p8 (z9 X.prog X.w) X.A (call (.builtin "sorted") [.ref p] [(u7 "key",.ref f)]) (EP X pins σ Q) E s:=by
 have line:(64:Nat)<=p9:=by rw[ubk];decide
 obtain⟨vs,rv,pl,hz⟩:=I.tuple (SqT.of hp)
 have lv:=rv.length
 obtain⟨o,ho,hc,n,hd⟩:=id pl
 refine call_function_entry_kw kind_sorted plain_sorted entry_sorted (ksk_s1 _ _) ?_
 unfold Builtin.«sorted»
 refine a9 (m:=checkCount "sorted" 1 1 _) (j9 (a9 (wpAny_collect_seq p (.inr rfl) ho hc hd (λ g kg=>?_) (by rw[k9];left))))
 refine a9 (udy ?_ (by rw[ub3,k9];left))
 have I1:Inv X pins σ H { s with heap:=g }:=I.kept (t':=s.toks) kg
 have fa:H g.objs.size=none:=I1.hok.fresh (i7 _)
 have eo:(g.push { cls:=.type "list",data:=.seq vs.toArray }).get? g.objs.size=some (seqObj "list" vs.toArray 0):=l4 _ rfl
 have I2:Inv X pins σ (upd H g.objs.size (.lst xs)) { s with heap:=g.push { cls:=.type "list",data:=.seq vs.toArray } }:=I1.laid (t':=s.toks) (λ b u e=>b9 _ e) (i7 _) ⟨by left,vs,0,rv,eo⟩
 have ta:vs.toArray.toList.toArray=vs.toArray:=by simp
 rw[ta]
 show p8 _ _ _ _ _ { s with heap:=g.push { cls:=.type "list",data:=.seq vs.toArray } }
 generalize hg2:g.push { cls:=Value.type "list",data:=Data.seq vs.toArray }=g2 at eo I2
 generalize hga:g.objs.size=a at eo I2 fa
 refine a9 (uav (wpAny_call_entry_kw slot_list_sort ⟨_,eo,rfl⟩ entry_list_sort ?body (ksk_l1 _ _)))
 case body =>
  show p8 (z9 X.prog X.w) X.A.in1.in1 _ _ _ _
  rw[ksk_t1]
  unfold ksk_tree
  refine a9 (listItems_at eo rfl (a9 (listUpdate_at eo rfl ?_ (by rw[k9];left) (uac _))))
  have J3:=I2.lset (t':=s.toks) (f:=λ _=>(#[]:Array d7)) (its':=[]) (ys:=[]) aH eo rfl .nil (uac _)
  obtain⟨e1,e3⟩:∃ e1,(g2.update a (Obj.mapSeq λ _=>(#[]:Array d7))).get? a=some (seqObj "list" #[] e1):=⟨_,get?_update_seq eo λ _=>#[]⟩
  have J4:=yU J3 aH e3
  have E4:upd (upd (upd H a (.lst xs)) a (.lst [])) a (still a e1)=upd H a (still a e1):=by rw[nB,nB]
  rw[E4] at J4
  refine a9 (seqEpoch_at e3 rfl (a9 (ufb ?_ (by show vs.length<=_;left))))
  refine a9 (udy ?_ (uac _))
  refine uav ?_
  have J5:Inv X pins σ (upd H a (still a e1)) { s with heap:=(g2.update a (Obj.mapSeq λ _=>(#[]:Array d7))).push (seqObj "tuple" vs.toArray 0) }:=J4.kept (t':=s.toks) λ b u e=>b9 _ e
  generalize hg5:(g2.update a (Obj.mapSeq λ _=>(#[]:Array d7))).push (seqObj "tuple" vs.toArray 0)=g5 at J5
  have f5:(upd H a (still a e1)) g5.objs.size=none:=J5.hok.fresh (i7 _)
  have J6:Inv X pins σ (upd (upd H a (still a e1)) g5.objs.size (.lst [])) { s with heap:=g5.push { cls:=.type "list",data:=.seq #[] } }:=J5.laid (t':=s.toks) (λ b u e=>b9 _ e) (i7 _) ⟨uac _,[],0,.nil,l4 _ rfl⟩
  have sa:Same H (upd H a (still a e1)):=aN fa
  refine vQ (f:=f) (ks:=ks) J6 (aN f5) f5 aH rv (by left) (by left) (λ i x u k H' s' h1 h2 h3 h4 h5=>turn i x u k H' s' h1 h2 h3 h4 (sa.trans h5)) λ kvs kA H' s' I7 S7 hk7 rk7 hp7=>?_
  refine tF I7 (S7 _ _ aH) hk7 rk7 hp7 hne (by left) (by left) λ pp H8 s8 c g1 u1 I8 b8 e8=>⟨_,rfl,?_⟩
  have na:a≠g5.objs.size:=λ z=>by rw[← z,aH] at f5;cases f5
  have ha8:H8 a=some (still a e1):=b8 _ _ na (S7 _ _ aH)
  have out:=get?_update_seq e8 λ _=>(Srt.outOf vs pp).toArray
  have lo:(Srt.outOf vs pp).length=vs.length:=Srt.iX g1
  have pm:(pp.toList.map λ i=>(xs.getD i .non,ks.getD i [])).Perm (xs.zip ks):=by
   have h1:=fZ g1 λ i=>(xs.getD i V.non,ks.getD i [])
   have e1:(i6 vs.length).map (λ i=>(xs.getD i V.non,ks.getD i []))=xs.zip ks:=by
    refine udf (by simp;left) λ i h1 h2=>?_
    have hi:i<vs.length:=by simpa using h1
    have a1:i<xs.length:=by left
    have a2:i<ks.length:=by left
    simp [ua8,a1,a2]
   rw[e1] at h1
   exact h1
  have pw:(pp.toList.map λ i=>(xs.getD i V.non,ks.getD i [])).Pairwise (λ a b=>Srt.lexI b.2 a.2=false):=by
   rw[ua2]
   refine fT g1 u1 λ i j hi hj z=>?_
   have w:=Srt.fW (n:=ks.length) (lt:=λ i j=>Srt.lexI (ks.getD i []) (ks.getD j [])) (λ i=>Srt.eI _) (λ _ _ _ _ _ _=>Srt.dX _ _ _) (λ _ _ _ _ _ _=>Srt.eG _ _ _) (show j<ks.length by left) (show i<ks.length by left)
   rw[ugb (Int.not_lt.mpr z)] at w
   exact w.symm
  have ev:(pp.toList.map λ i=>(xs.getD i V.non,ks.getD i [])).map (·.1)=pp.toList.map λ i=>xs.getD i V.non:=by rw[ubb];rfl
  have I9:Inv X pins σ (upd H8 a (.lst ((pp.toList.map λ i=>(xs.getD i V.non,ks.getD i [])).map (·.1)))) { s8 with heap:=s8.heap.update a (Obj.mapSeq λ _=>(Srt.outOf vs pp).toArray) }:=by
   refine I8.write (x:=a) (e:=a) (t':=s8.toks) (by rw[ha8];exact trivial) (.inl rfl) (λ b u hb hu=>(p6 s8.heap _ (Ne.symm hb)).trans hu) ⟨_,out⟩ ⟨?_,Srt.outOf vs pp,_,?_,out⟩
   ·have:=pm.length_eq
    rw[g9,this,List.length_zip];left
   ·rw[ev]
    exact eE rv pp.toList λ i hi=>by have:=dD g1 i hi;left
  refine j9 ⟨_,rfl,.ref a,_,I9,rfl,q _ pm pw a _ (λ b o e=>?_) fa aH⟩
  have nb:b≠a:=aT e fa
  have e5:=sa _ _ e
  have nb5:b≠g5.objs.size:=aT e5 f5
  rw[aD nb]
  exact b8 _ _ nb5 (S7 _ _ e5)
end
section
variable {X:Cx}{pins:List (j7 × Obj)}{σ:L2.St}{H:Hp}{s:d8}
theorem sS {Pt:j7}{ps more:Array d7}{h':Heap}{t':Nat}{H':Hp}(I:Inv X pins σ H s)(hP:H Pt=some (.tbl ps))(hx:ueb Pt s.heap h')(hn:h'.get? Pt=some (ucz (ps++more)))(hP':H' Pt=some (.tbl (ps++more)))
  (low:∀ b,b<s.heap.objs.size->b≠Pt->H' b=H b) (new:∀ b u,s.heap.objs.size<=b->H' b=some u->ObjOk X.prog X.w H' h' b u):Inv X pins σ H' { s with heap:=h',toks:=t' }:=by
 have ne:∀ {b:j7}{o:HO},H b=some o->(∀ qs,o≠.tbl qs)->b≠Pt:=λ e n z=>by rw[z,hP] at e;cases e;exact n _ rfl
 have nn:∀ {b:j7},H b=none->b≠Pt:=λ e z=>by rw[z,hP] at e;cases e
 have stays:∀ {b:j7}{o:HO},H b=some o->(∀ qs,o≠.tbl qs)->H' b=some o:=λ e n=>by rw[low _ (I.hok.lt e) (ne e n)];exact e
 refine I.un ⟨λ b o e n _ _=>hx b o (nn n) e,λ b o e n _ _=>⟨o.slots,hx b o (nn n) e⟩,λ b o e n _=>by rw[low b (j8 e) (nn n)];exact n,λ b o e _=>?_,λ b xs e=>stays e λ _ z=>(by cases z),λ b o u e=>stays e λ _ z=>(by cases z),λ b qs e=>?_⟩ λ b u e=>?_
 ·by_cases z:b=Pt
  ·subst z;exact⟨_,hn⟩
  ·exact⟨o,hx b o z e⟩
 ·by_cases z:b=Pt
  ·subst z;rw[hP] at e;cases e;exact⟨more,hP'⟩
  ·exact⟨#[],by rw[low b (I.hok.lt e) z,e];simp⟩
 ·by_cases z:b=Pt
  ·subst z;rw[hP'] at e;cases e;exact hn
  ·rcases uch b s.heap.objs.size with l | l
   ·rw[low b l z] at e
    refine (I.hok b u e).stay (λ c v hc q=>hx c v (λ y=>?_) q) (λ c q=>stays q λ _ z=>(by cases z)) λ c xs q=>stays q λ _ z=>(by cases z)
    rcases hc with hc | hc
    ·exact z (hc.symm.trans y)
    ·exact ne hc (λ _ z=>by cases z) y
   ·exact new b u l e
structure LamHd (mg:Str->Option d7)(base:Heap)(c Pt:j7):Prop where
 code:uem base c Pt
 bm:∃ bm ob,mg "__builtins__"=some (.ref bm)/\bm≠builtinsNs/\base.get? bm=some ob/\ob.cls=.type "module"/\ob.dict=some builtinsNs/\ob.data=.plain
def Tb (Pt:j7)(lpos:Pos)(qual:Str)(H:Hp):Prop:=∃ ps,H Pt=some (.tbl ps)/\(ps=#[]\/∃ c',ps=#[rawInt lpos.line,rawInt lpos.col,.ref c']/\H c'=some (.ext λ h=>h.CodeRec (.ref c') qual))
def Tf (Pt:j7)(lpos:Pos)(qual:Str)(H:Hp):Prop:=∃ c',H Pt=some (.tbl #[rawInt lpos.line,rawInt lpos.col,.ref c'])/\H c'=some (.ext λ h=>h.CodeRec (.ref c') qual)
theorem Tf.tb {Pt:j7}{lpos:Pos}{qual:Str}(h:Tf Pt lpos qual H):Tb Pt lpos qual H:=let ⟨c',e,r⟩:=h;⟨_,e,.inr ⟨c',rfl,r⟩⟩
theorem Tf.same {Pt:j7}{lpos:Pos}{qual:Str}{H':Hp}(h:Tf Pt lpos qual H)(S:Same H H'):Tf Pt lpos qual H':=let ⟨c',e,r⟩:=h;⟨c',S _ _ e,S _ _ r⟩
theorem Tf.but {Pt p:j7}{lpos:Pos}{qual:Str}{H':Hp}{xs:List V}(h:Tf Pt lpos qual H)(S:But p H H')(hp:H p=some (.lst xs)):Tf Pt lpos qual H' :=
 let ⟨c',e,r⟩:=h;⟨c',S _ _ (λ z=>by rw[z,hp] at e;cases e) e,S _ _ (λ z=>by rw[z,hp] at r;cases r) r⟩
theorem Tb.same {Pt:j7}{lpos:Pos}{qual:Str}{H':Hp}(h:Tb Pt lpos qual H)(S:Same H H'):Tb Pt lpos qual H' :=
 let ⟨ps,e,r⟩:=h;⟨ps,S _ _ e,r.imp id λ ⟨c',e1,e2⟩=>⟨c',e1,S _ _ e2⟩⟩
theorem Tb.but {Pt p:j7}{lpos:Pos}{qual:Str}{H':Hp}{xs:List V}(h:Tb Pt lpos qual H)(S:But p H H')(hp:H p=some (.lst xs)):Tb Pt lpos qual H' :=
 let ⟨ps,e,r⟩:=h;⟨ps,S _ _ (λ z=>by rw[z,hp] at e;cases e) e,r.imp id λ ⟨c',e1,e2⟩=>⟨c',e1,S _ _ (λ z=>by rw[z,hp] at e2;cases e2) e2⟩⟩
theorem mG {c Pt:j7}{params:Arguments}{body:ua9}{scope:ucd}{lpos:Pos}{clos:List (Str × j7)}{E:d7->d8->Prop}{Q:d7->d8->Prop}(I:Inv X pins σ H s)(L:LamHd X.mg X.base c Pt)(hcode:X.env.code=.ref c)(hdef:defaultsOf params X.env=([],[]))(hcl:closureFor scope X.env=pure clos)
  (T:Tb Pt lpos (X.env.qual++"<lambda>") H)
  (h:∀ f c' pm ctv H' s',Inv X pins σ H' s'->But Pt H H'->Tf Pt lpos (X.env.qual++"<lambda>") H'->(Tf Pt lpos (X.env.qual++"<lambda>") H->Same H H')->H f=none->H' f=some (.ext λ g=>g.get? f=some (uah "<lambda>" (X.env.qual++"<lambda>") params body scope clos pm c' ctv)) ->
   H' c'=some (.ext λ g=>g.CodeRec (.ref c') (X.env.qual++"<lambda>"))->Q (.ref f) s'):p8 (z9 X.prog X.w) X.A (eval (.Lambda params body scope lpos) X.env) Q E s:=by
 obtain⟨ps,hP,hps⟩:=T
 have gP:s.heap.get? Pt=some (ucz ps):=I.hok Pt _ hP
 have hg:s.heap.Ns l6 X.mg:=I.ok.mod.glob.keeps I.bk
 have C:uem s.heap c Pt:=L.code.keeps I.bk
 have hgP:l6≠Pt:=λ z=>by
  obtain⟨o,es,ep,e,hd,_⟩:=hg
  rw[z,gP] at e;cases e;cases hd
 obtain⟨bm,ob,b1,b2,b3,b4,b5,b6⟩:=L.bm
 have hbP:bm≠Pt:=λ z=>by
  have e:=I.bk _ _ b3
  rw[z,gP] at e;cases e;cases b4
 have hbG:bm≠l6:=λ z=>by
  obtain⟨o,es,ep,e,hd,_⟩:=hg
  have e':=I.bk _ _ b3
  rw[z,e] at e';cases e';rw[hd] at b6;cases b6
 have B:s.heap.BuiltinsAt X.mg Pt:=⟨bm,ob,b1,b2,hbG,hbP,I.bk _ _ b3,b4,b5,b6⟩
 refine PySem.W.kla_eval hdef ?_
 rcases hps with rfl | ⟨c',rfl,hc'⟩
 ·refine PySem.W.kla_makeFunction (mg:=X.mg) hcl I.ok.glob hg hcode C gP trivial rfl hgP B λ c' ctv h' tk hx hge hlt hrec htb=>?_
  have fc:H c'=none:=I.hok.fresh hge
  have lP:Pt<s.heap.objs.size:=j8 gP
  have hsz:s.heap.objs.size<=h'.objs.size:=ud2 (ubc hge hlt)
  have ff:H h'.objs.size=none:=I.hok.fresh hsz
  have nfc:c'≠h'.objs.size:=o0 hlt
  have nPc:Pt≠c':=o0 (o8 lP hge)
  have nPf:Pt≠h'.objs.size:=o0 (o8 lP hsz)
  have hrec':∀ o:Obj,(h'.push o).CodeRec (.ref c') (X.env.qual++"<lambda>"):=λ o=>let ⟨c2,oc,vs,t,e1,e2,r⟩:=hrec;⟨c2,oc,vs,t,e1,b9 _ e2,r⟩
  have eP:upd (upd (upd H Pt (.tbl #[rawInt lpos.line,rawInt lpos.col,.ref c'])) c' (.ext λ g=>g.CodeRec (.ref c') (X.env.qual++"<lambda>"))) h'.objs.size (.ext λ g=>g.get? h'.objs.size=some (uah "<lambda>" (X.env.qual++"<lambda>") params body scope clos ((X.mg "__name__").getD .none) c' ctv)) Pt=some (.tbl #[rawInt lpos.line,rawInt lpos.col,.ref c']):=by rw[aD nPf,aD nPc,aH]
  have ec:upd (upd (upd H Pt (.tbl #[rawInt lpos.line,rawInt lpos.col,.ref c'])) c' (.ext λ g=>g.CodeRec (.ref c') (X.env.qual++"<lambda>"))) h'.objs.size (.ext λ g=>g.get? h'.objs.size=some (uah "<lambda>" (X.env.qual++"<lambda>") params body scope clos ((X.mg "__name__").getD .none) c' ctv)) c'=some (.ext λ g=>g.CodeRec (.ref c') (X.env.qual++"<lambda>")):=by rw[aD nfc,aH]
  refine h h'.objs.size c' _ ctv _ _ (sS (ps:=#[]) (more:=#[rawInt lpos.line,rawInt lpos.col,.ref c']) (t':=tk) I hP (hx.push _) (b9 _ htb) (by rw[eP];simp) (λ b l nb=>?_) (λ b u l e=>?_)) (λ b o nb e=>?_) ⟨c',eP,ec⟩ (λ z=>?_) ff aH ec
  ·rw[aD (o0 (o8 l hsz)),aD (o0 (o8 l hge)),aD nb]
  ·by_cases z:b=h'.objs.size
   ·subst z
    rw[aH] at e;cases e
    have g:(h'.push (uah "<lambda>" (X.env.qual++"<lambda>") params body scope clos ((X.mg "__name__").getD .none) c' ctv)).get? h'.objs.size=some (uah "<lambda>" (X.env.qual++"<lambda>") params body scope clos ((X.mg "__name__").getD .none) c' ctv):=l4 _ rfl
    exact⟨g,⟨_,g⟩,λ h1 h2 q k=>k _ q⟩
   ·rw[aD z] at e
    by_cases z2:b=c'
    ·subst z2
     rw[aH] at e;cases e
     obtain⟨c2,oc,vs,t,e1,e2,r⟩:=hrec' (uah "<lambda>" (X.env.qual++"<lambda>") params body scope clos ((X.mg "__name__").getD .none) b ctv)
     cases e1
     refine⟨⟨_,oc,vs,t,rfl,e2,r⟩,⟨oc,e2⟩,λ h1 h2 q k=>?_⟩
     obtain⟨c2,oc,vs,t,e1,e2,r⟩:=q
     cases e1
     exact⟨_,oc,vs,t,rfl,k _ e2,r⟩
    ·rw[aD z2,aD (λ y=>absurd l (by rw[y];exact Nat.not_le.mpr lP))] at e
     rw[I.hok.fresh l] at e;cases e
  ·rw[aD (aT e ff),aD (aT e fc),aD nb];exact e
  ·obtain⟨c2,z,_⟩:=z
   rw[hP] at z;cases z
 ·refine PySem.W.kla_makeFunctionHit (mg:=X.mg) (cv:=.ref c') hcl I.ok.glob hg hcode C gP (by simp [TriplesOk,rawInt]) (by simp [codeAmong,rawInt]) B λ ctv h' tk hk hsz=>?_
  have J0:Inv X pins σ H { s with heap:=h',toks:=tk }:=I.kept hk
  have ff:H h'.objs.size=none:=J0.hok.fresh (i7 _)
  have g:(h'.push (uah "<lambda>" (X.env.qual++"<lambda>") params body scope clos ((X.mg "__name__").getD .none) c' ctv)).get? h'.objs.size=some (uah "<lambda>" (X.env.qual++"<lambda>") params body scope clos ((X.mg "__name__").getD .none) c' ctv):=l4 _ rfl
  have J:=J0.laid (t':=tk) (a:=h'.objs.size) (h':=h'.push (uah "<lambda>" (X.env.qual++"<lambda>") params body scope clos ((X.mg "__name__").getD .none) c' ctv)) (o:=.ext λ g=>g.get? h'.objs.size=some (uah "<lambda>" (X.env.qual++"<lambda>") params body scope clos ((X.mg "__name__").getD .none) c' ctv)) (λ b u e=>b9 _ e) (i7 _) ⟨g,⟨_,g⟩,λ h1 h2 q k=>k _ q⟩
  have S:Same H _:=aN (o:=.ext λ g=>g.get? h'.objs.size=some (uah "<lambda>" (X.env.qual++"<lambda>") params body scope clos ((X.mg "__name__").getD .none) c' ctv)) ff
  exact h h'.objs.size c' _ ctv _ _ J (Same.but S) ⟨c',S _ _ hP,S _ _ hc'⟩ (λ _=>S) ff aH (S _ _ hc')
def tSortK (Pt:j7)(lpos:Pos)(qual:Str)(i:Nat)(t:TA)(tb:TE):TE:=λ σ H Q=>t σ H λ vs H1=>∃ (p:j7)(xs:List V)(ks:List (List Int))(vy:V),vs=[.ref p]/\H1 p=some (.tup xs)/\xs.length<64/\ks.length=xs.length/\(∀ k∈ks,k≠[])/\σ[i]?=some (some vy)/\Tb Pt lpos qual H1 /\
 (∀ (j:Nat)(x:V)(k:List Int),xs[j]?=some x->ks[j]?=some k->∀ H2,But Pt H1 H2->tb [some x,some vy] H2 λ v H3=>Same H2 H3/\KeyV H3 v k) /\
 ∀ qs:List (V × List Int),qs.Perm (xs.zip ks)->qs.Pairwise (λ a b=>Srt.lexI b.2 a.2=false)->∀ l H',But Pt H1 H'->Tf Pt lpos qual H'->(Tf Pt lpos qual H1->Same H1 H')->H1 l=none->H' l=some (.lst (qs.map (·.1)))->Q (.ref l) H'
theorem wX {c Pt cy:j7}{x y:Str}{i:Nat}{e body:ua9}{params:Arguments}{scope:ucd}{lpos p pos kpos:Pos}{t:TA}{tb:TE}(L:LamHd X.mg X.base c Pt)(hcode:X.env.code=.ref c)(hr:Room 3 X.A)(hg:Gl X "sorted")(hm:X.mg "sorted"=none)(ha:PA X [e] t)
  (S:LamScope x y scope) (hN:X.N[i]?=some y) (hcy:X.env.cells.lookup y=some cy) (hky:X.env.scope.names.lookup y=some .cell) (hcl:closureFor scope X.env=pure [(y,cy)])
  (hb:∀ (pm ctv:d7)(c':j7)(u:d7),bindArgs (udt "<lambda>" (X.env.qual++"<lambda>") params body scope [(y,cy)] pm (.ref c') ctv) ⟨[u],[]⟩=pure [(x,u)])
  (hbody:∀ (A:v7)(s:d8)(H:Hp)(f c':j7),PE (cxL X.prog X.w X.K X.mg X.base [x,y] (X.env.qual++"<lambda>") scope f (.ref c') [(y,cy)] A X.stack s H) body tb)
  (hdef:defaultsOf params X.env=([],[]):=by rfl) (hs:uaa [e] X.env=[(false,eval e X.env)]:=by rfl)
  (hall:(backToKw pos (keywordEach [⟨some (u7 "key"),.Lambda params body scope lpos,kpos⟩] X.env)).filterMap (·.1)=[u7 "key"]:=by rfl) :
  PE X (.Call (.Name "sorted" p) [e] [⟨some (u7 "key"),.Lambda params body scope lpos,kpos⟩] pos) (tSortK Pt lpos (X.env.qual++"<lambda>") i t tb):=by
 intro pins s σ H Q I h
 refine ub2 (dC I hg hm (u:=.builtin "sorted") (by symm) ?_)
 refine callWith_kw (e:=e) (rest:=[]) (thn (ha pos pins s σ H _ I h) λ us s1 ⟨vs,H1,I1,r1,q1⟩=>?_) ?a ?b ?c ?d
 case a=>rw[hs];rfl
 case b=>rw[hs];rfl
 case c=>rfl
 case d=>rfl
 obtain⟨pp,xs,ks,vy,rfl,hp,h64,hl,hne,hσ,T,rd,q⟩:=q1
 obtain⟨u,rfl,ru⟩:=r1.one
 cases ru
 refine kws_cons (mG I1 L hcode hdef hcl T λ f c' pm ctv H2 s2 I2 b2 T2 sm2 ff hf hc'=>kws_nil ?_)
 rw[hall]
 have npp:pp≠Pt:=λ z=>by
  obtain⟨ps,e,_⟩:=T
  rw[z,e] at hp;cases hp
 have hp2:=b2 _ _ npp hp
 have T1:=T
 refine uN (ks:=ks) I2 hp2 h64 hl hne (λ j x' u k H' s' hx rx hk I' S'=>?_) λ qs pq wq l H' S' fl el=>q qs pq wq l H' (b2.trans (Same.but S')) (T2.same S') (λ z=>(sm2 z).trans S') ?_ el
 ·have gf:s'.heap.get? f=some _:=(show ObjOk X.prog X.w H' s'.heap f _ from I'.hok f _ (S' _ _ hf)).1
  have gc:s'.heap.CodeRec (.ref c') _:=(show ObjOk X.prog X.w H' s'.heap c' _ from I'.hok c' _ (S' _ _ hc')).1
  obtain⟨m,hns,lk⟩:=I'.loc
  obtain⟨uy,ry,ly⟩:=lk i y vy hN hσ (.inr (.inl hky))
  have cell:s'.heap.IsCell cy (some uy):=by
   rcases ly with ⟨z,_⟩ | ⟨_,c2,e2,ic⟩
   ·have z':X.env.scope.names.lookup y=some .local:=z
    rw[hky] at z';cases z'
   ·rw[hcy] at e2;cases e2;exact ic
  refine ue1 (ucy (zaa (k:=0) S (hr.in1).in1 I'.env0.in1.in1 gf gc (hb _ _ _ _) cell (I'.freeC y cy hcy) rx ry (hbody _ _ _ _ _) (rd j x' k hx hk H' (b2.trans (Same.but S')))) λ r s3 hq=>?_)
  cases r with
  | error e=>exact hq.elim
  | ok fl =>
   cases fl with
   | ret u3 =>
    obtain⟨v,H3,J3,rv,qv⟩:=I'.after hq
    exact⟨H3,v,J3,qv.1,rv,qv.2⟩
   | next=>exact False.elim hq
   | brk=>exact False.elim hq
   | cont=>exact False.elim hq
 ·cases e:H1 l with
  | none=>rfl
  | some o =>
   by_cases z:l=Pt
   ·subst z
    obtain⟨c2,e',_⟩:=T2
    rw[fl] at e';cases e'
   ·rw[b2 _ _ z e] at fl;cases fl
end
def lamOf:ubv->Option (ucd × Pos)
 | .Return (some (.Call _ [.Call _ _ [⟨_,.Lambda _ _ sc p,_⟩] _] _ _)) _=>some (sc,p)
 | _=>none
def lamScopeOf (st:ubv):ucd:=match defBody st with
 | [r]=>((lamOf r).map (·.1)).getD (defScope st)
 | _=>defScope st
def lamPosOf (st:ubv):Pos:=match defBody st with
 | [r]=>((lamOf r).map (·.2)).getD ⟨0,0,0,0⟩
 | _=>⟨0,0,0,0⟩
def DefOkC (K:a8)(mg:Str->Option d7)(x:Str)(st:ubv)(ps:List Str)(c:j7):Prop :=
 ∃ (f:j7)(fd:ubm)(oc:d7)(od:Option j7)(kV doc pm:d7)(an:Option j7)(ct:d7)(osl:Array (Option d7)),fd=ua3 x x (defArgs st) (defBody st) (defScope st) .none kV doc pm an (.ref c) ct/\K.lookup f=some ⟨oc,od,.func fd,osl⟩/\ub4 K (.ref c) x=true/\ua6 K (.ref f)=true/\Binds K fd ps []/\mg x=some (.ref f)
section
variable {P:m9}{w:uaf}{K:a8}{mg:Str->Option d7}{base:Heap}{x:Str}{ps N:List Str}{sp:Sp}{k:Nat}{st:ubv}{c:j7}
theorem iV (D:DefOkC K mg x st ps c)(S:FnScope N ps (defScope st))(len:∀ vs H Q E,sp vs H Q E->vs.length=ps.length)
  (hbody:∀ (f:j7)(A:v7)(outer:List Env)(s:d8)(H:Hp)(vs:List V)(Q:VK)(E:XK),Room k (A.deeper (envOfC x (defScope st) s.heap.objs.size f (.ref c)))->sp vs H Q E ->
   ∃ t,PSs (cxOf CX0 P w K mg base N x (defScope st) f (.ref c) A outer s H E).nox (defBody st) t/\t { nx:=λ _ H'=>Q .non H',rt:=Q } (start N vs) H):Ok P w K mg base (k+1) x ps sp:=by
 obtain⟨f,fd,oc,od,kV,doc,pm,an,ct,osl,rfl,lk,hcd,kp,b,m⟩:=D
 refine⟨f,_,jI lk hcd S len λ A outer s H vs Q E hr hsp=>?_,b,kp,m⟩
 obtain⟨t,h,q⟩:=hbody f A outer s H vs Q E hr hsp
 exact⟨t,h.nox,q⟩
end
theorem iO {X:Cx}{K:a8}(h:X.K=K):IxR X (rIxT K):=by subst h;exact aW
def okey (ts:List Tie)(k:Nat):List Int:=[(tieAt ts k).2.2,(k:Int)]
def OrdOk (ts:List Tie)(os:List Nat):Prop:=os.Perm (i6 ts.length)/\os.Pairwise λ a b=>Srt.lexI (okey ts b) (okey ts a)=false
def outK (q:V × List Int):Nat:=match q.2 with
 | [_,k]=>k.toNat
 | _=>0
theorem za4 {ts:List Tie}{qs:List (V × List Int)}(p:qs.Perm ((natV (i6 ts.length)).zip ((i6 ts.length).map (okey ts))))(w:qs.Pairwise λ a b=>Srt.lexI b.2 a.2=false):OrdOk ts (qs.map outK):=by
 have ez:(natV (i6 ts.length)).zip ((i6 ts.length).map (okey ts))=(i6 ts.length).map λ k:Nat=>(V.int (k:Int),okey ts k):=by unfold natV;rw[List.zip_map']
 rw[ez] at p
 have mem:∀ q∈qs,q=(V.int ((outK q:Nat):Int),okey ts (outK q)):=λ q hq=>by
  obtain⟨k,_,rfl⟩:=v4.mp (p.mem_iff.mp hq)
  have:outK (V.int (k:Int),okey ts k)=k:=by show ((k:Int)).toNat=k;left
  rw[this]
 refine⟨?_,?_⟩
 ·have:=p.map outK
  rw[ubb] at this
  have e:(i6 ts.length).map (outK ∘ λ k:Nat=>(V.int (k:Int),okey ts k))=i6 ts.length:=by
   rw[show (outK ∘ λ k:Nat=>(V.int (k:Int),okey ts k))=id from funext λ k=>by show ((k:Int)).toNat=k;left]
   exact List.map_id _
  rw[e] at this
  exact this
 ·rw[ua2]
  refine w.imp_of_mem λ {a b} ha hb z=>?_
  rw[mem a ha,mem b hb] at z
  exact z
theorem xC {ts:List Tie}{qs:List (V × List Int)}(p:qs.Perm ((natV (i6 ts.length)).zip ((i6 ts.length).map (okey ts)))):qs.map (·.1)=natV (qs.map outK):=by
 have ez:(natV (i6 ts.length)).zip ((i6 ts.length).map (okey ts))=(i6 ts.length).map λ k:Nat=>(V.int (k:Int),okey ts k):=by unfold natV;rw[List.zip_map']
 rw[ez] at p
 unfold natV
 rw[ubb]
 refine uct λ q hq=>?_
 obtain⟨k,_,rfl⟩:=v4.mp (p.mem_iff.mp hq)
 show V.int (k:Int)=V.int (((k:Int).toNat:Nat):Int)
 rfl
theorem OrdOk.one {ts:List Tie}{os os':List Nat}(a:OrdOk ts os)(b:OrdOk ts os'):os=os':=by
 refine udv (le:=λ x y=>Srt.lexI (okey ts y) (okey ts x)=false) (λ x y _ _ h1 h2=>?_) a.2 b.2 (a.1.trans b.1.symm)
 have:=Srt.mD _ _ h2 h1
 unfold okey at this
 injection this with _ h
 injection h with h
 left
abbrev lamQ:Str:=("order_of"++".<locals>.")++"<lambda>"
def spOrd (K:a8)(Pt:j7)(lp:Pos):Sp:=λ vs H Q _=>∃ n ts v,vs=[v]/\Is K H (webD n ts) v/\WebOk n ts/\Tb Pt lp lamQ H/\∀ l os H',OrdOk ts os->But Pt H H'->Tf Pt lp lamQ H'->(Tf Pt lp lamQ H->Same H H')->H l=none->H' l=some (.tup (natV os))->Q (.ref l) H'
end L3
namespace Frs
abbrev T2:=Nat × Nat
inductive Cn (E:List T2)(u:Nat):Nat->Prop
 | nil:Cn E u u
 | snoc {v w:Nat}:Cn E u v->((v,w)∈E\/(w,v)∈E)->Cn E u w
section
variable {E F:List T2}{u v w a b:Nat}
theorem Cn.app (h:Cn E u v)(k:Cn E v w):Cn E u w:=by
 induction k with
 | nil=>exact h
 | snoc _ m ih=>exact .snoc ih m
theorem Cn.back (h:Cn E u v):Cn E v u:=by
 induction h with
 | nil=>exact .nil
 | snoc _ m ih=>exact (Cn.snoc .nil m.symm).app ih
theorem Cn.more (h:Cn E u v)(k:∀ t∈E,t∈F):Cn F u v:=by
 induction h with
 | nil=>exact .nil
 | snoc _ m ih=>exact .snoc ih (m.imp (k _) (k _))
theorem Cn.one (m:(a,b)∈E):Cn E a b:=.snoc .nil (.inl m)
theorem oE:Cn (E++[(a,b)]) u v↔Cn E u v\/(Cn E u a/\Cn E b v)\/(Cn E u b/\Cn E a v):=by
 have up:∀ {x y},Cn E x y->Cn (E++[(a,b)]) x y:=λ h=>h.more λ t m=>u4 _ m
 have ab:Cn (E++[(a,b)]) a b:=.one (l8 _ i0)
 constructor
 ·intro h
  induction h with
  | nil=>exact .inl .nil
  | @snoc v w _ m ih =>
   have split:((v,w)∈E\/(w,v)∈E)\/(v=a/\w=b)\/(v=b/\w=a):=by
    rcases m with m | m
    ·rcases m5.mp m with m | m
     ·exact .inl (.inl m)
     ·have:=j6.mp m;cases this;exact .inr (.inl ⟨rfl,rfl⟩)
    ·rcases m5.mp m with m | m
     ·exact .inl (.inr m)
     ·have:=j6.mp m;cases this;exact .inr (.inr ⟨rfl,rfl⟩)
   rcases split with m | ⟨rfl,rfl⟩ | ⟨rfl,rfl⟩
   ·rcases ih with h | ⟨h1,h2⟩ | ⟨h1,h2⟩
    ·exact .inl (.snoc h m)
    ·exact .inr (.inl ⟨h1,.snoc h2 m⟩)
    ·exact .inr (.inr ⟨h1,.snoc h2 m⟩)
   ·rcases ih with h | ⟨h1,h2⟩ | ⟨h1,h2⟩
    ·exact .inr (.inl ⟨h,.nil⟩)
    ·exact .inr (.inl ⟨h1,.nil⟩)
    ·exact .inl h1
   ·rcases ih with h | ⟨h1,h2⟩ | ⟨h1,h2⟩
    ·exact .inr (.inr ⟨h,.nil⟩)
    ·exact .inl h1
    ·exact .inr (.inr ⟨h1,.nil⟩)
 ·rintro (h | ⟨h1,h2⟩ | ⟨h1,h2⟩)
  ·exact up h
  ·exact (up h1).app (ab.app (up h2))
  ·exact (up h1).app (ab.back.app (up h2))
end
def Mk (n:Nat)(E:List T2)(M:List Nat):Prop:=M.length=n/\∀ u v,u<n->v<n->(M.getD u 0=M.getD v 0↔Cn E u v)
def join (M:List Nat)(p q:Nat):List Nat:=M.map λ m=>if m=q then p else m
theorem nZ {M:List Nat}{p q u:Nat}(h:u<M.length):(join M p q).getD u 0=if M.getD u 0=q then p else M.getD u 0:=by
 unfold join
 rw[f8,o7,f8,d6 h];rfl
section
variable {n:Nat}{E:List T2}{M:List Nat}{a b:Nat}
theorem Mk.first:Mk n [] (i6 n):=by
 refine⟨v6,λ u v hu hv=>?_⟩
 have e:∀ {x},x<n->(i6 n).getD x 0=x:=λ h=>by rw[f8,ubs h];rfl
 rw[e hu,e hv]
 constructor
 ·rintro rfl;exact .nil
 ·intro h
  cases h with
  | nil=>rfl
  | snoc _ m=>rcases m with m | m <;> cases m
theorem Mk.same (h:Mk n E M)(ha:a<n)(hb:b<n)(e:M.getD a 0=M.getD b 0):Mk n (E++[(a,b)]) M:=by
 refine⟨h.1,λ u v hu hv=>(h.2 u v hu hv).trans ?_⟩
 rw[oE]
 have ab:=(h.2 a b ha hb).mp e
 exact⟨.inl,λ z=>z.elim id λ z=>z.elim (λ z=>z.1.app (ab.app z.2)) λ z=>z.1.app (ab.back.app z.2)⟩
theorem Mk.join (h:Mk n E M)(ha:a<n)(hb:b<n)(ne:M.getD a 0≠M.getD b 0):Mk n (E++[(a,b)]) (join M (M.getD a 0) (M.getD b 0)):=by
 refine⟨by unfold Frs.join;rw[g9];exact h.1,λ u v hu hv=>?_⟩
 rw[nZ (by rw[h.1];exact hu),nZ (by rw[h.1];exact hv),oE,← h.2 u v hu hv,← h.2 u a hu ha,← h.2 b v hb hv,← h.2 u b hu hb,← h.2 a v ha hv]
 by_cases c1:M.getD u 0=M.getD b 0 <;> by_cases c2:M.getD v 0=M.getD b 0
 ·rw[ugc c1,ugc c2]
  exact⟨λ _=>.inl (c1.trans c2.symm),λ _=>rfl⟩
 ·rw[ugc c1,ugd c2]
  constructor
  ·intro z;exact .inr (.inr ⟨c1,z⟩)
  ·rintro (z | ⟨_,z⟩ | ⟨_,z⟩)
   ·exact absurd (z.symm.trans c1) c2
   ·exact absurd z.symm c2
   ·exact z
 ·rw[ugd c1,ugc c2]
  constructor
  ·intro z;exact .inr (.inl ⟨z,c2.symm⟩)
  ·rintro (z | ⟨z,_⟩ | ⟨z,_⟩)
   ·exact absurd (z.trans c2) c1
   ·exact z
   ·exact absurd z c1
 ·rw[ugd c1,ugd c2]
  constructor
  ·exact .inl
  ·rintro (z | ⟨_,z⟩ | ⟨z,_⟩)
   ·exact z
   ·exact absurd z.symm c2
   ·exact absurd z c1
end
end Frs
namespace Peel
abbrev T2:=Nat × Nat
def hit (gone:List Nat)(p:Nat)(t:T2):Bool:=(t.1==p&&!gone.contains t.2)||(t.2==p&&!gone.contains t.1)
def deg (ts:List T2)(gone:List Nat)(p:Nat):Nat:=ts.countP (hit gone p)
def may (ts:List T2)(d:Int)(gone:List Nat)(p:Nat):Bool:=!gone.contains p&&decide ((deg ts gone p:Int)<=d)
def next (n:Nat)(ts:List T2)(d:Int)(gone:List Nat):Option Nat:=(i6 n).find? (may ts d gone)
def run (n:Nat)(ts:List T2)(d:Int):Nat->List Nat->List Nat
 | 0,g=>g
 | f+1,g=>match next n ts d g with
  | none=>g
  | some p=>run n ts d f (g++[p])
section
variable {n:Nat}{ts:List T2}{d:Int}{g:List Nat}{p:Nat}
def Good (n:Nat)(g:List Nat):Prop:=g.Nodup/\∀ p∈g,p<n
theorem gT:∀ (n:Nat)(g:List Nat),g.Nodup->(∀ p∈g,p<n)->g.length<=n
 | 0,[],_,_=>i7 _
 | 0,p::_,_,h=>absurd (h p i0) (udu _)
 | n+1,g,nd,h=>by
  have h1:=gT n (g.filter λ p=>p != n) (nd.filter _) λ p hp=>by
   have:=uak.mp hp
   have a:=h p this.1
   have b:p≠n:=by simpa using this.2
   left
  have e:g.length=(g.filter λ p=>p != n).length+g.countP (λ p=>p==n):=by
   rw[← List.countP_eq_length_filter]
   have:=List.length_eq_countP_add_countP (λ p=>p==n) (l:=g)
   have e2:g.countP (λ p=>decide ¬(p==n)=true)=g.countP λ p=>p != n:=List.countP_congr λ x _=>by simp
   rw[e2] at this
   left
  have c:g.countP (λ p=>p==n)<=1:=by
   have:=List.nodup_iff_count.mp nd n
   exact this
  left
theorem Good.len (h:Good n g):g.length<=n:=gT n g h.1 h.2
theorem Good.nil:Good n []:=⟨uco,λ p h=>by cases h⟩
theorem Good.snoc (h:Good n g)(hp:p<n)(np:p∉g):Good n (g++[p]):=by
 refine⟨uba.mpr ⟨h.1,by simp,λ a ha b hb e=>np ?_⟩,λ q hq=>?_⟩
 ·have:b=p:=by simpa using hb
  subst this;subst e;exact ha
 ·rcases m5.mp hq with hq | hq
  ·exact h.2 q hq
  ·have:q=p:=by simpa using hq
   subst this;exact hp
def gone (n:Nat)(ts:List T2)(d:Int):List Nat:=run n ts d n []
end
end Peel
namespace L3
open PySem PySem.Spec PyProof.Rows L2
section
variable {g:TG}{tt:TT}{te:TE}{own:List Str}{js:List Nat}{σ:L2.St}{H1:Hp}{Q:VK}
end
def t2 (ts:List Tie)(k:Nat):Frs.T2:=((tieAt ts k).1.toNat,(tieAt ts k).2.1.toNat)
theorem OrdOk.nodup {ts:List Tie}{os:List Nat}(h:OrdOk ts os):os.Nodup:=h.1.nodup_iff.mpr udd
mutual
theorem Is.tbl {K:a8}{H H':Hp}{p:j7}{ps:Array d7}(e:But p H H')(hp:H p=some (.tbl ps)):∀ (d:v9){v:V},tupD d=true->Is K H d v->Is K H' d v
 | .none,_,_,h=>h
 | .bool _,_,_,h=>h
 | .int _,_,_,h=>h
 | .str _,_,_,h=>h
 | .tuple ds,_,t,h=>let ⟨q,vs,q1,q2,q3⟩:=h;⟨q,vs,q1,e _ _ (λ z=>by subst z;rw[hp] at q2;cases q2) q2,IsAll.tbl e hp ds t q3⟩
 | .list ds,_,t,h=>by cases t
 | .dict _,_,t,h=>by cases t
theorem IsAll.tbl {K:a8}{H H':Hp}{p:j7}{ps:Array d7}(e:But p H H')(hp:H p=some (.tbl ps)):∀ (ds:List v9){vs:List V},tupAll ds=true->IsAll K H ds vs->IsAll K H' ds vs
 | [],_,_,h=>h
 | d::ds,_,t,h=>by
  have t':(tupD d&&tupAll ds)=true:=t
  rw[w8] at t'
  obtain⟨v,r,q1,q2,q3⟩:=h
  exact⟨v,r,q1,Is.tbl e hp d t'.1 q2,IsAll.tbl e hp ds t'.2 q3⟩
end
theorem mI {K:a8}{H H':Hp}{Pt:j7}{lp:Pos}{qn:Str}(b:But Pt H H')(t:Tb Pt lp qn H)(d:v9){v:V}(td:tupD d=true)(h:Is K H d v):Is K H' d v:=let ⟨_,e,_⟩:=t;Is.tbl b e d td h
def insN (ks:List Nat)(k:Nat):List Nat:=(ks.filter λ j=>decide (j<k))++k::ks.filter λ j=>decide (k<j)
theorem ins_mem {ks:List Nat}{k j:Nat}:j∈insN ks k↔j∈ks\/j=k:=by
 unfold insN
 rw[m5,l7,uak,uak]
 simp only [decide_eq_true_eq]
 constructor
 ·rintro (⟨h,_⟩ | h | ⟨h,_⟩)
  ·exact .inl h
  ·exact .inr h
  ·exact .inl h
 ·rintro (h | h)
  ·rcases ubr j k with z | z | z
   ·exact .inl ⟨h,z⟩
   ·exact .inr (.inl z)
   ·exact .inr (.inr ⟨h,z⟩)
  ·exact .inr (.inl h)
theorem iF {ks:List Nat}{k:Nat}(h:ks.Pairwise (·<·)):(insN ks k).Pairwise (·<·):=by
 unfold insN
 rw[ua4,ue4]
 refine⟨h.sublist udr,⟨λ j hj=>uga (uak.mp hj).2,h.sublist udr⟩,λ a ha b hb=>?_⟩
 have:=uga (uak.mp ha).2
 rcases l7.mp hb with rfl | hb
 ·exact this
 ·have:=uga (uak.mp hb).2;left
theorem oW {m:Nat}{ks:List Nat}{k:Nat}(h:KeepOk m ks)(hk:k<m):KeepOk m (insN ks k):=⟨iF h.1,λ j hj=>(ins_mem.mp hj).elim (h.2 j) λ e=>by left⟩
theorem uJ {ks:List Nat}{k:Nat}(h:ks.Pairwise (·<·))(hk:k∉ks){ms:List Int}(p:ms.Perm (keepI ks++[(k:Int)]))(w:ms.Pairwise (·<=·)):ms=keepI (insN ks k):=by
 have nd:(ks++[k]).Nodup:=uba.mpr ⟨h.imp λ h=>o0 h,(by simp),λ a ha b hb e=>by
  have:b=k:=by simpa using hb
  subst this;subst e;exact hk ha⟩
 have pf:(ks++[k]).Perm (insN ks k):=(udw nd ((iF h).imp λ h=>o0 h)).mpr λ j=>by rw[ins_mem,m5,j6]
 have e:keepI ks++[(k:Int)]=keepI (ks++[k]):=by unfold keepI;rw[uab];rfl
 rw[e] at p
 refine udv (le:=(·<=·)) (λ a b _ _ h1 h2=>Int.le_antisymm h1 h2) w ?_ (p.trans (by unfold keepI;exact pf.map _))
 unfold keepI
 rw[ua2]
 exact (iF h).imp λ h=>by left
noncomputable def wiB (ts:List Tie)(t:Int)(ks:List Nat)(k:Nat):Bool:=withinB t (tieAt ts k).2.2 (gO ts ks k)
noncomputable def ruleN (ts:List Tie)(t:Int)(ks:List Nat):List Nat->List Nat
 | []=>ks
 | k::r=>ruleN ts t (if wiB ts t ks k=true then ks else insN ks k) r
theorem kG {ts:List Tie}{t:Int}{k:Nat}:∀ {os ks:List Nat},ruleN ts t ks (os++[k])=(if wiB ts t (ruleN ts t ks os) k=true then ruleN ts t ks os else insN (ruleN ts t ks os) k)
 | [],ks=>rfl
 | j::r,ks=>kG (os:=r)
theorem lN {ts:List Tie}{t:Int}:∀ {os ks:List Nat}{j:Nat},j∈ruleN ts t ks os->j∈ks\/j∈os
 | [],ks,j,h=>.inl h
 | k::r,ks,j,h=>by
  rcases lN (os:=r) h with z | z
  ·by_cases c:wiB ts t ks k=true
   ·rw[ugc c] at z;exact .inl z
   ·rw[ugd c] at z
    exact (ins_mem.mp z).imp id λ e=>by rw[e];exact i0
  ·exact .inr (i9 _ z)
theorem eK {ts:List Tie}{t:Int}:∀ {os ks:List Nat},KeepOk ts.length ks->(∀ k∈os,k<ts.length)->KeepOk ts.length (ruleN ts t ks os)
 | [],ks,h,_=>h
 | k::r,ks,h,ho=>by
  refine eK (os:=r) ?_ λ j hj=>ho j (i9 _ hj)
  split
  ·exact h
  ·exact oW h (ho k i0)
theorem gR {ts:List Tie}{t:Int}:∀ {os ks:List Nat}{j:Nat},j∈ks->j∈ruleN ts t ks os
 | [],ks,j,h=>h
 | k::r,ks,j,h=>by
  refine gR (os:=r) ?_
  split
  ·exact h
  ·exact ins_mem.mpr (.inl h)
theorem yZ {n:Int}{ts:List Tie}{t:Int}{ks ks':List Nat}{k:Nat}(ok:WebOk n ts)(a:KeepOk ts.length ks)(b:KeepOk ts.length ks')(s:∀ j∈ks,j∈ks')(h:wiB ts t ks k=true):wiB ts t ks' k=true:=by
 obtain⟨x,e,le⟩:=within_iff.mp h
 have d1:=iY ok a k
 have d2:=iY ok b k
 rw[e] at d1
 obtain⟨y,e2,le2⟩:=Far.xO (p:=1) (q:=1) (by decide) (λ u v l m=>by
  obtain⟨j,hj,m⟩:=arcs_mem.mp m
  refine⟨l,?_,by left⟩
  have:=Far.Walk.snoc (Far.Walk.nil (A:=arcs ts ks') (s:=u)) (arcs_mem.mpr ⟨j,s j hj,m⟩)
  rw[Int.zero_add] at this
  exact this) d1 d2
 exact within_iff.mpr ⟨y,e2,by left⟩
theorem lO {n:Int}{ts:List Tie}{t:Int}(ok:WebOk n ts):∀ {os ks:List Nat}{k:Nat},KeepOk ts.length ks->(∀ k∈os,k<ts.length)->k∈os->k∈ruleN ts t ks os\/wiB ts t (ruleN ts t ks os) k=true
 | [],ks,k,_,_,h=>by cases h
 | j::r,ks,k,ko,ho,h=>by
  have ho':∀ i∈r,i<ts.length:=λ i hi=>ho i (i9 _ hi)
  have ko':KeepOk ts.length (if wiB ts t ks j=true then ks else insN ks j):=by
   split
   ·exact ko
   ·exact oW ko (ho j i0)
  show k∈ruleN ts t (if wiB ts t ks j=true then ks else insN ks j) r\/wiB ts t (ruleN ts t (if wiB ts t ks j=true then ks else insN ks j) r) k=true
  rcases l7.mp h with rfl | h
  ·by_cases c:wiB ts t ks k=true
   ·refine .inr (yZ ok ko (eK ko' ho') (λ i hi=>gR ?_) c)
    rw[ugc c];exact hi
   ·refine .inl (gR ?_)
    rw[ugd c];exact ins_mem.mpr (.inr rfl)
  ·exact lO ok ko' ho' h
theorem rule_in {n:Int}{ts:List Tie}{t:Int}{os:List Nat}(ok:WebOk n ts)(p:os.Perm (i6 ts.length)):allIn ts (ruleN ts t [] os) t:=λ k hk=>by
 have ho:∀ k∈os,k<ts.length:=λ k hk=>o6.mp (p.mem_iff.mp hk)
 obtain⟨h1,h2⟩:=outs_mem.mp hk
 exact (lO ok ⟨ub8,λ _ h=>(by cases h)⟩ ho (p.mem_iff.mpr (o6.mpr h1))).resolve_left h2
end L3
namespace Far
def sumP:List Nat->Nat
 | []=>0
 | k::r=>2^k+sumP r
theorem fH {S S':List Nat}(h:S.Perm S'):sumP S=sumP S':=by
 induction h with
 | nil=>rfl
 | cons x _ ih=>show _+_=_+_;rw[ih]
 | swap x y l=>show 2^y+(2^x+sumP l)=2^x+(2^y+sumP l);left
 | trans _ _ h1 h2=>exact h1.trans h2
theorem sU (S:List Nat):∀ T:List Nat,sumP (S++T)=sumP S+sumP T:=by
 intro T
 induction S with
 | nil=>show sumP T=0+sumP T;left
 | cons k r ih=>show 2^k+sumP (r++T)=2^k+sumP r+sumP T;rw[ih];left
theorem fV:∀ (m:Nat){S:List Nat},S.Nodup->(∀ k∈S,k<m)->sumP S<2^m
 | 0,S,_,h=>by
  cases S with
  | nil=>exact Nat.zero_lt_one
  | cons k r=>exact absurd (h k i0) (udu _)
 | m+1,S,nd,h=>by
  have e:2^(m+1)=2^m+2^m:=by rw[Nat.pow_succ];left
  by_cases c:m∈S
  ·have p:=udk c
   have nd':(m::S.erase m).Nodup:=p.nodup_iff.mp nd
   have:=fV m (S:=S.erase m) (r9.mp nd').2 λ k hk=>by
    have h1:=h k (uep hk)
    have h2:k≠m:=λ z=>(r9.mp nd').1 (z ▸ hk)
    left
   rw[fH p,e]
   show 2^m+sumP (S.erase m)<_
   left
  ·have:=fV m nd λ k hk=>by
    have h1:=h k hk
    have h2:k≠m:=λ z=>c (z ▸ hk)
    left
   left
theorem hV:∀ (m:Nat){S S':List Nat},S.Nodup->S'.Nodup->(∀ k∈S,k<m)->(∀ k∈S',k<m)->sumP S=sumP S'->∀ k,k∈S->k∈S'
 | 0,S,S',_,_,h,_,_,k,hk=>absurd (h k hk) (udu _)
 | m+1,S,S',nd,nd',h,h',e,k,hk=>by
  have lower:∀ {T:List Nat},T.Nodup->(∀ k∈T,k<m+1)->m∉T->sumP T<2^m:=λ {T} n1 n2 n3=>fV m n1 λ j hj=>by
   have h1:=n2 j hj
   have h2:j≠m:=λ z=>n3 (z ▸ hj)
   left
  by_cases c:m∈S
  ·have p:=udk c
   have ndp:(m::S.erase m).Nodup:=p.nodup_iff.mp nd
   have e1:sumP S=2^m+sumP (S.erase m):=fH p
   by_cases c':m∈S'
   ·have p':=udk c'
    have ndp':(m::S'.erase m).Nodup:=p'.nodup_iff.mp nd'
    have e2:sumP S'=2^m+sumP (S'.erase m):=fH p'
    by_cases z:k=m
    ·rw[z];exact c'
    ·have lt:∀ {T:List Nat},(m::T.erase m).Nodup->(∀ k∈T,k<m+1)->∀ j∈T.erase m,j<m:=λ {T} n1 n2 j hj=>by
      have h1:=n2 j (uep hj)
      have h2:j≠m:=λ y=>(r9.mp n1).1 (y ▸ hj)
      left
     have:=hV m (r9.mp ndp).2 (r9.mp ndp').2 (lt ndp h) (lt ndp' h') (by left) k ((List.mem_erase_of_ne z).mpr hk)
     exact uep this
   ·have:=lower nd' h' c'
    left
  ·by_cases c':m∈S'
   ·have e2:sumP S'=2^m+sumP (S'.erase m):=fH (udk c')
    have:=lower nd h c
    left
   ·have lt:∀ {T:List Nat},(∀ k∈T,k<m+1)->m∉T->∀ j∈T,j<m:=λ {T} n1 n2 j hj=>by
     have h1:=n1 j hj
     have h2:j≠m:=λ y=>n2 (y ▸ hj)
     left
    exact hV m nd nd' (lt h c) (lt h' c') e k hk
abbrev Arc:=Nat × Nat × Int × Nat
inductive Rt (B:List Arc)(a:Nat):List Nat->List Nat->Nat->Int->Int->Prop
 | one:Rt B a [a] [] a 0 0
 | snoc {ws S:List Nat} {u v:Nat} {x y l:Int} {k:Nat}:Rt B a ws S u x y->(u,v,l,k)∈B->v∉ws->Rt B a (ws++[v]) (S++[k]) v (x+l) (y+2^k)
structure Keys (B:List Arc):Prop where
 sym:∀ u v l k,(u,v,l,k)∈B->(v,u,l,k)∈B
 key:∀ u v l u' v' l' k,(u,v,l,k)∈B->(u',v',l',k)∈B->l'=l/\((u'=u/\v'=v)\/(u'=v/\v'=u))
 ne:∀ u v l k,(u,v,l,k)∈B->u≠v
 pos:∀ u v l k,(u,v,l,k)∈B->1<=l
 few:∀ u v l k,(u,v,l,k)∈B->k<60
variable {B:List Arc}{a b:Nat}{ws S:List Nat}{x y:Int}
theorem Rt.last (h:Rt B a ws S b x y):b∈ws:=by
 cases h with
 | one=>exact j6.mpr rfl
 | snoc _ _ _=>exact l8 _ (j6.mpr rfl)
theorem Rt.ends (K:Keys B)(h:Rt B a ws S b x y):∀ k∈S,∃ u v l,(u,v,l,k)∈B/\u∈ws/\v∈ws:=by
 induction h with
 | one=>intro k hk;cases hk
 | @snoc ws S u v x y l k r m nv ih =>
  intro j hj
  rcases m5.mp hj with hj | hj
  ·obtain⟨p,q,l',h1,h2,h3⟩:=ih j hj
   exact⟨p,q,l',h1,u4 _ h2,u4 _ h3⟩
  ·rw[j6.mp hj]
   exact⟨u,v,l,m,u4 _ r.last,l8 _ (j6.mpr rfl)⟩
theorem Rt.fresh (K:Keys B)(h:Rt B a ws S b x y){u v:Nat}{l:Int}{k:Nat}(m:(u,v,l,k)∈B)(nv:v∉ws):k∉S:=λ hk=>by
 obtain⟨p,q,l',m',hp,hq⟩:=h.ends K k hk
 rcases (K.key _ _ _ _ _ _ _ m m').2 with ⟨e1,e2⟩ | ⟨e1,e2⟩
 ·exact nv (e2 ▸ hq)
 ·exact nv (e1 ▸ hp)
theorem Rt.nodup (K:Keys B)(h:Rt B a ws S b x y):S.Nodup:=by
 induction h with
 | one=>exact uco
 | @snoc ws S u v x y l k r m nv ih =>
  refine uba.mpr ⟨ih,by simp,λ p hp q hq z=>?_⟩
  rw[j6.mp hq] at z
  exact r.fresh K m nv (z ▸ hp)
theorem Rt.small (K:Keys B)(h:Rt B a ws S b x y):∀ k∈S,k<60:=λ k hk=>let ⟨u,v,l,m,_⟩:=h.ends K k hk;K.few u v l k m
theorem Rt.sum (h:Rt B a ws S b x y):y=(sumP S:Nat):=by
 induction h with
 | one=>rfl
 | @snoc ws S u v x y l k r m nv ih =>
  rw[sU,ih]
  show ((sumP S:Nat):Int)+2^k=((sumP S+(2^k+0):Nat):Int)
  have:((2^k:Nat):Int)=(2:Int)^k:=by norm_cast
  left
theorem Rt.lt (K:Keys B)(h:Rt B a ws S b x y):0<=y/\y<2^60:=by
 have e:=h.sum
 have:=fV 60 (h.nodup K) (h.small K)
 have e2:((2^60:Nat):Int)=(2:Int)^60:=by norm_cast
 left
theorem Rt.unique (K:Keys B)(h:Rt B a ws S b x y):∀ {ws' S':List Nat}{x':Int},Rt B a ws' S' b x' y->ws'=ws/\x'=x:=by
 induction h with
 | one =>
  intro ws' S' x' r
  generalize ey:(0:Int)=yy at r
  cases r with
  | one=>exact⟨rfl,rfl⟩
  | @snoc ws0 S0 u _ x0 y0 l k r m nv =>
   have p:=r.lt K
   have:(0:Int)<2^k:=Int.pow_pos (by decide)
   left
 | @snoc ws0 S0 u v x0 y0 l k r m nv ih =>
  intro ws' S' x' r'
  have full:Rt B a (ws0++[v]) (S0++[k]) v (x0+l) (y0+2^k):=.snoc r m nv
  have se:sumP S'=sumP (S0++[k]):=by
   have e1:=r'.sum
   have e2:=full.sum
   left
  have sub:=hV 60 (r'.nodup K) (full.nodup K) (r'.small K) (full.small K) se
  generalize ey:y0+2^k=yy at r'
  cases r' with
  | one =>
   have p:=r.lt K
   have:(0:Int)<2^k:=Int.pow_pos (by decide)
   left
  | @snoc ws1 S1 u1 _ x1 y1 l1 k1 r1 m1 nv1 =>
   have in1:=sub k1 (l8 _ (j6.mpr rfl))
   have k1k:k1=k:=by
    rcases m5.mp in1 with z | z
    ·exact absurd z (r.fresh K m1 nv)
    ·exact j6.mp z
   subst k1k
   obtain⟨el,eu⟩:=K.key _ _ _ _ _ _ _ m m1
   have uu:u1=u:=by
    rcases eu with ⟨e,_⟩ | ⟨e,e'⟩
    ·exact e
    ·exact absurd e' (K.ne _ _ _ _ m).symm
   subst uu
   have yy1:y1=y0:=by left
   subst yy1
   obtain⟨e1,e2⟩:=ih r1
   exact⟨by rw[e1],by rw[e2,el]⟩
theorem Rt.cons (K:Keys B){u:Nat}{l:Int}{k:Nat}(m:(u,a,l,k)∈B)(h:Rt B a ws S b x y):u∉ws->Rt B u (u::ws) (k::S) b (x+l) (y+2^k):=by
 induction h with
 | one =>
  intro nu
  have:Rt B u ([u]++[a]) ([]++[k]) a (0+l) (0+2^k):=.snoc .one m (λ z=>nu (by rw[j6] at z ⊢;exact z.symm))
  exact this
 | @snoc ws S w v x y l' k' r m' nv ih =>
  intro nu
  have r2:=ih λ z=>nu (u4 _ z)
  have:Rt B u ((u::ws)++[v]) ((k::S)++[k']) v (x+l+l') (y+2^k+2^k'):=.snoc r2 m' λ z=>by
   rcases l7.mp z with z | z
   ·exact nu (l8 _ (j6.mpr z.symm))
   ·exact nv z
  rw[ufa x l l',ufa y] at this
  exact this
theorem Rt.back (K:Keys B)(h:Rt B a ws S b x y):Rt B b ws.reverse S.reverse a x y:=by
 induction h with
 | one=>exact .one
 | @snoc ws S u v x y l k r m nv ih =>
  rw[udp,udp]
  exact ih.cons K (K.sym _ _ _ _ m) (λ z=>nv (ued.mp z))
end Far
namespace Far
structure Best (B:List Arc)(n s:Nat)(cs:List (Option (Int × Int)))(as:List (Option Nat)):Prop where
 len:cs.length=n
 alen:as.length=n
 start:get cs s=some (0,0)
 root:get as s=none
 has:∀ v c,get cs v=some c->v≠s->get as v≠none
 nn:∀ v c,get cs v=some c->0<=c.1
 stab:∀ u v l k c,(u,v,l,k)∈B->get cs u=some c->∃ c',get cs v=some c'/\¬ lt2 (c.1+l,c.2+2^k) c'
 arc:∀ v u,get as v=some u->∃ l k cu,(u,v,l,k)∈B/\get cs u=some cu/\get cs v=some (cu.1+l,cu.2+2^k)
inductive TPw (as:List (Option Nat))(s:Nat):List Nat->Nat->Prop
 | root:TPw as s [s] s
 | step {ws:List Nat} {u v:Nat}:get as v=some u->TPw as s ws u->TPw as s (ws++[v]) v
section
variable {B:List Arc}{n s:Nat}{cs:List (Option (Int × Int))}{as:List (Option Nat)}
theorem Best.route (K:Keys B)(h:Best B n s cs as):∀ (m:Nat)(v:Nat)(c:Int × Int),get cs v=some c->c.1.toNat<=m->∃ ws S,Rt B s ws S v c.1 c.2/\TPw as s ws v/\∀ w∈ws,∃ cw,get cs w=some cw/\cw.1<=c.1:=by
 intro m
 induction m using ucx with
 | ind m ih =>
  intro v c e hm
  by_cases vs:v=s
  ·subst vs
   rw[h.start] at e;cases e
   exact⟨[v],[],.one,.root,λ w hw=>by rw[j6.mp hw];exact⟨_,h.start,uaj _⟩⟩
  ·cases ea:get as v with
   | none=>exact absurd ea (h.has v c e vs)
   | some u =>
    obtain⟨l,k,cu,ma,eu,ev⟩:=h.arc v u ea
    rw[e] at ev;cases ev
    have l1:=K.pos _ _ _ _ ma
    have c0:=h.nn _ _ eu
    simp only at hm
    obtain⟨ws,S,r,tp,all⟩:=ih cu.1.toNat (by left) u cu eu (i7 _)
    have nv:v∉ws:=λ z=>by
     obtain⟨cw,e1,h1⟩:=all v z
     rw[e] at e1;cases e1
     simp only at h1;left
    refine⟨ws++[v],S++[k],.snoc r ma nv,.step ea tp,λ w hw=>?_⟩
    rcases m5.mp hw with hw | hw
    ·obtain⟨cw,e1,h1⟩:=all w hw
     exact⟨cw,e1,by show cw.1<=cu.1+l;left⟩
    ·rw[j6.mp hw]
     exact⟨_,e,uaj _⟩
theorem Best.small (K:Keys B)(h:Best B n s cs as){v:Nat}{c:Int × Int}(e:get cs v=some c):0<=c.2/\c.2<2^60:=by
 obtain⟨ws,S,r,_⟩:=h.route K _ v c e (i7 _)
 exact r.lt K
theorem Best.least (h:Best B n s cs as){ws S:List Nat}{v:Nat}{x y:Int}(r:Rt B s ws S v x y):∃ c,get cs v=some c/\¬ lt2 (x,y) c:=by
 induction r with
 | one=>exact⟨_,h.start,λ z=>by unfold lt2 at z;simp only at z;left⟩
 | @snoc ws S u v x y l k r m nv ih =>
  obtain⟨c,e,hc⟩:=ih
  obtain⟨c',e',hc'⟩:=h.stab _ _ _ _ _ m e
  refine⟨c',e',λ z=>?_⟩
  unfold lt2 at *
  simp only at *
  left
theorem Best.both (K:Keys B){s':Nat}{cs':List (Option (Int × Int))}{as':List (Option Nat)}(h:Best B n s cs as)(h':Best B n s' cs' as'):get cs s'=get cs' s:=by
 have one:∀ {a b:Nat}{c1 c2:List (Option (Int × Int))}{a1 a2:List (Option Nat)}{d:Int × Int},Best B n a c1 a1->Best B n b c2 a2->get c1 b=some d->∃ d',get c2 a=some d'/\¬ lt2 d d':=λ {a b c1 c2 a1 a2 d} g1 g2 e=>by
  obtain⟨ws,S,r,_⟩:=g1.route K _ b d e (i7 _)
  exact g2.least (r.back K)
 cases e:get cs s' with
 | none =>
  cases e':get cs' s with
  | none=>rfl
  | some d=>obtain⟨d',e2,_⟩:=one h' h e';rw[e] at e2;cases e2
 | some d =>
  obtain⟨d',e2,n1⟩:=one h h' e
  obtain⟨d2,e3,n2⟩:=one h' h e2
  rw[e] at e3;cases e3
  rw[e2]
  congr 1
  unfold lt2 at n1 n2
  exact Prod.ext (by left) (by left)
theorem Best.turned (K:Keys B){s':Nat}{cs':List (Option (Int × Int))}{as':List (Option Nat)}(h:Best B n s cs as)(h':Best B n s' cs' as'){ws ws':List Nat}(t:TPw as s ws s')(t':TPw as' s' ws' s){c:Int × Int}(e:get cs s'=some c):ws'=ws.reverse:=by
 have fG:∀ {as:List (Option Nat)}{s v:Nat}{ws ws':List Nat},get as s=none->TPw as s ws v->TPw as s ws' v->ws'=ws:=by
  intro as s v ws ws' hr t
  induction t generalizing ws' with
  | root =>
   intro t'
   cases t' with
   | root=>rfl
   | step e _=>rw[hr] at e;cases e
  | step e t ih =>
   intro t'
   cases t' with
   | root=>rw[hr] at e;cases e
   | step e' t'=>rw[e] at e';cases e';rw[ih t']
 obtain⟨w1,S1,r1,p1,_⟩:=h.route K _ s' c e (i7 _)
 have e':get cs' s=some c:=by rw[← h.both K h'];exact e
 obtain⟨w2,S2,r2,p2,_⟩:=h'.route K _ s c e' (i7 _)
 rw[fG h.root p1 t,fG h'.root p2 t']
 have:=(r2.unique K (r1.back K)).1
 exact this.symm
theorem Best.tree (K:Keys B)(h:Best B n s cs as){u v:Nat}{l:Int}{k:Nat}{cu:Int × Int}(m:(u,v,l,k)∈B)(eu:get cs u=some cu)(ev:get cs v=some (cu.1+l,cu.2+2^k)):get as v=some u:=by
 have l1:=K.pos _ _ _ _ m
 have c0:=h.nn _ _ eu
 have vs:v≠s:=λ z=>by
  rw[z,h.start] at ev
  have:(0:Int)=cu.1+l:=congrArg (λ o:Option (Int × Int)=>(o.getD (0,0)).1) ev
  left
 cases ea:get as v with
 | none=>exact absurd ea (h.has v _ ev vs)
 | some u0 =>
  obtain⟨l0,k0,c0',m0,e0,ev0⟩:=h.arc v u0 ea
  have mk:∀ {u:Nat}{l:Int}{k:Nat}{cu:Int × Int},(u,v,l,k)∈B->get cs u=some cu->get cs v=some (cu.1+l,cu.2+2^k)->∃ r S,Rt B s (r++[u]++[v]) S v (cu.1+l) (cu.2+2^k):=λ {u l k cu} m eu ev=>by
   obtain⟨ws,S,r,tp,all⟩:=h.route K _ u cu eu (i7 _)
   have nv:v∉ws:=λ z=>by
    obtain⟨cw,e1,h1⟩:=all v z
    rw[ev] at e1;cases e1
    have:=K.pos _ _ _ _ m
    simp only at h1;left
   obtain⟨q,rfl⟩:∃ q,ws=q++[u]:=by
    cases tp with
    | root=>exact⟨[],rfl⟩
    | step _ _=>exact⟨_,rfl⟩
   exact⟨q,_,.snoc r m nv⟩
  obtain⟨r1,S1,t1⟩:=mk m eu ev
  obtain⟨r2,S2,t2⟩:=mk m0 e0 ev0
  have e2:c0'.2+2^k0=cu.2+2^k:=congrArg (λ o:Option (Int × Int)=>(o.getD (0,0)).2) (ev0.symm.trans ev)
  rw[e2] at t2
  have:=(t1.unique K t2).1
  have z1:(r2++[u0])=(r1++[u]):=List.append_cancel_right this
  have z2:=congrArg List.getLast? z1
  simp at z2
  rw[z2]
end
def comb (c:Int × Int):Int:=c.1*2^61+c.2
def arcsC (B:List Arc):List (Nat × Nat × Int):=B.map λ b=>(b.1,b.2.1,b.2.2.1*2^61+2^b.2.2.2)
theorem arcsC_mem {B:List Arc}{u v:Nat}{L:Int}:(u,v,L)∈arcsC B↔∃ l k,(u,v,l,k)∈B/\L=l*2^61+2^k:=by
 unfold arcsC
 rw[v4]
 constructor
 ·rintro ⟨⟨a,b,l,k⟩,h,e⟩
  cases e
  exact⟨l,k,h,rfl⟩
 ·rintro ⟨l,k,h,rfl⟩
  exact⟨(u,v,l,k),h,rfl⟩
section
variable {B:List Arc}{n s:Nat}{cs:List (Option (Int × Int))}{as:List (Option Nat)}
theorem nC (k:Nat):(1:Int)<=2^k:=Int.pow_pos (by decide)
theorem wH (K:Keys B):Sym (arcsC B):=λ u v L h=>by
 obtain⟨l,k,m,rfl⟩:=arcsC_mem.mp h
 exact arcsC_mem.mpr ⟨l,k,K.sym _ _ _ _ m,rfl⟩
theorem Best.dst (K:Keys B)(h:Best B n s cs as)(v:Nat):Dst (arcsC B) s v ((get cs v).map comb):=by
 refine⟨λ y e=>?_,λ L w=>?_⟩
 ·cases ec:get cs v with
  | none=>rw[ec] at e;cases e
  | some c =>
   rw[ec] at e;cases e
   obtain⟨ws,S,r,_⟩:=h.route K _ v c ec (i7 _)
   have go:∀ {ws S:List Nat}{v:Nat}{x y:Int},Rt B s ws S v x y->Walk (arcsC B) s v (comb (x,y)):=by
    intro ws S v x y r
    induction r with
    | one=>exact .nil
    | @snoc ws S u v x y l k r m nv ih =>
     have:=Walk.snoc ih (arcsC_mem.mpr ⟨l,k,m,rfl⟩)
     have e:comb (x+l,y+2^k)=comb (x,y)+(l*2^61+2^k):=by unfold comb;simp only;left
     rw[e];exact this
   exact go r
 ·have:∃ c,get cs v=some c/\comb c<=L:=by
   induction w with
   | nil=>exact⟨_,h.start,by decide⟩
   | @snoc u v l x w m ih =>
    obtain⟨c,e,hc⟩:=ih
    obtain⟨l',k,m',rfl⟩:=arcsC_mem.mp m
    obtain⟨c',e',hc'⟩:=h.stab _ _ _ _ _ m' e
    refine⟨c',e',?_⟩
    have s1:=h.small K e
    have s2:=h.small K e'
    have:=nC k
    unfold comb at *
    unfold lt2 at hc'
    simp only at hc'
    left
  obtain⟨c,e,hc⟩:=this
  exact⟨comb c,by rw[e];rfl,hc⟩
theorem mQ {c d:Int × Int}(hc:0<=c.2/\c.2<2^61)(hd:0<=d.2/\d.2<2^61)(e:comb c=comb d):c=d:=by
 unfold comb at e
 exact Prod.ext (by left) (by left)
end
end Far
namespace Far
def arcsF (B:List Arc):List (Nat × Nat × Int):=B.map λ b=>(b.1,b.2.1,b.2.2.1)
theorem arcsF_mem {B:List Arc}{u v:Nat}{l:Int}:(u,v,l)∈arcsF B↔∃ k,(u,v,l,k)∈B:=by
 unfold arcsF
 rw[v4]
 constructor
 ·rintro ⟨⟨a,b,l',k⟩,h,e⟩
  cases e
  exact⟨k,h⟩
 ·rintro ⟨k,h⟩
  exact⟨(u,v,l,k),h,rfl⟩
section
variable {B:List Arc}{n s:Nat}{cs:List (Option (Int × Int))}{as:List (Option Nat)}{a b:Nat}{ws S:List Nat}{x y:Int}
theorem fG {v:Nat}{ws ws':List Nat}(hr:get as s=none)(t:TPw as s ws v):TPw as s ws' v->ws'=ws:=by
 induction t generalizing ws' with
 | root =>
  intro t'
  cases t' with
  | root=>rfl
  | step e _=>rw[hr] at e;cases e
 | step e t ih =>
  intro t'
  cases t' with
  | root=>rw[hr] at e;cases e
  | step e' t'=>rw[e] at e';cases e';rw[ih t']
theorem Best.rt (K:Keys B)(h:Best B n s cs as){v:Nat}{c:Int × Int}(t:TPw as s ws v)(e:get cs v=some c):∃ S,Rt B s ws S v c.1 c.2:=by
 obtain⟨w1,S1,r1,p1,_⟩:=h.route K _ v c e (i7 _)
 rw[fG h.root p1 t]
 exact⟨S1,r1⟩
theorem Rt.walk (r:Rt B a ws S b x y):Walk (arcsF B) a b x:=by
 induction r with
 | one=>exact .nil
 | snoc r m nv ih=>exact .snoc ih (arcsF_mem.mpr ⟨_,m⟩)
theorem Rt.tr (r:Rt B a ws S b x y):Tr (arcsF B) a ws b x:=by
 induction r with
 | one=>exact .one
 | snoc r m nv ih=>exact .snoc ih (arcsF_mem.mpr ⟨_,m⟩)
theorem Best.dst1 (K:Keys B)(h:Best B n s cs as)(v:Nat):Dst (arcsF B) s v ((get cs v).map (·.1)):=by
 refine⟨λ y e=>?_,λ L w=>?_⟩
 ·cases ec:get cs v with
  | none=>rw[ec] at e;cases e
  | some c =>
   rw[ec] at e;cases e
   obtain⟨ws,S,r,_⟩:=h.route K _ v c ec (i7 _)
   exact r.walk
 ·have:∃ c,get cs v=some c/\c.1<=L:=by
   induction w with
   | nil=>exact⟨_,h.start,uaj _⟩
   | @snoc u v l x w m ih =>
    obtain⟨c,e,hc⟩:=ih
    obtain⟨k,m'⟩:=arcsF_mem.mp m
    obtain⟨c',e',hc'⟩:=h.stab _ _ _ _ _ m' e
    refine⟨c',e',?_⟩
    unfold lt2 at hc'
    simp only at hc'
    left
  obtain⟨c,e,hc⟩:=this
  exact⟨c.1,by rw[e];rfl,hc⟩
theorem Rt.len (r:Rt B a ws S b x y):ws.length=S.length+1:=by
 induction r with
 | one=>rfl
 | snoc r m nv ih=>rw[j3,j3,ih];rfl
theorem Rt.unlike (r:Rt B a ws S b x y):ws.Nodup:=by
 induction r with
 | one=>simp
 | snoc r m nv ih =>
  refine uba.mpr ⟨ih,by simp,λ p hp q hq z=>?_⟩
  rw[j6.mp hq] at z
  exact nv (z ▸ hp)
theorem Rt.head (r:Rt B a ws S b x y):∃ q,ws=a::q:=by
 induction r with
 | one=>exact⟨[],rfl⟩
 | snoc r m nv ih=>obtain⟨q,rfl⟩:=ih;exact⟨q++[_],rfl⟩
theorem Rt.foot (r:Rt B a ws S b x y):∃ q,ws=q++[b]:=by
 cases r with
 | one=>exact⟨[],rfl⟩
 | snoc r m nv=>exact⟨_,rfl⟩
theorem Rt.step (r:Rt B a ws S b x y):∀ {i k:Nat},S[i]?=some k->∃ u v l,ws[i]?=some u/\ws[i+1]?=some v/\(u,v,l,k)∈B:=by
 induction r with
 | one=>intro i k h;cases h
 | @snoc ws S u v x y l k r m nv ih =>
  intro i j h
  have len:=r.len
  by_cases c:i<S.length
  ·rw[r6 c] at h
   obtain⟨p,q,l',h1,h2,h3⟩:=ih h
   exact⟨p,q,l',by rw[r6 (by left)];exact h1,by rw[r6 (by left)];exact h2,h3⟩
  ·have hi:i<(S++[k]).length:=(i8.mp h).1
   rw[j3,p7] at hi
   have e:i=S.length:=by left
   subst e
   rw[p5 (i7 _),ud1] at h
   cases h
   obtain⟨q,rfl⟩:=r.foot
   rw[j3,p7] at len
   refine⟨u,v,l,?_,?_,m⟩
   ·rw[r6 (by rw[j3,p7];left),p5 (by left)]
    rw[show S.length-q.length=0 by left];rfl
   ·rw[p5 (by rw[j3,p7];left),j3,p7]
    rw[show S.length+1-(q.length+1)=0 by left];rfl
theorem Rt.places (r:Rt B a ws S b x y){N:Nat}(ha:a<N)(inn:∀ u v l k,(u,v,l,k)∈B->u<N/\v<N):∀ p∈ws,p<N:=by
 induction r with
 | one=>intro p hp;rw[j6.mp hp];exact ha
 | snoc r m nv ih =>
  intro p hp
  rcases m5.mp hp with hp | hp
  ·exact ih p hp
  ·rw[j6.mp hp];exact (inn _ _ _ _ m).2
structure Uni (B:List Arc)(a b:Nat)(ws S:List Nat)(x y:Int):Prop where
 rt:Rt B a ws S b x y
 least:∀ ws' S' x' y',Rt B a ws' S' b x' y'->¬ lt2 (x',y') (x,y)
theorem Uni.unique (K:Keys B){ws' S':List Nat}{x' y':Int}(h:Uni B a b ws S x y)(h':Uni B a b ws' S' x' y'):ws'=ws/\x'=x:=by
 have n1:=h.least _ _ _ _ h'.rt
 have n2:=h'.least _ _ _ _ h.rt
 have e:y'=y:=by unfold lt2 at n1 n2;simp only at n1 n2;left
 have r':=h'.rt
 rw[e] at r'
 exact h.rt.unique K r'
theorem Best.uni (K:Keys B)(h:Best B n s cs as){v:Nat}{c:Int × Int}(t:TPw as s ws.reverse v)(e:get cs v=some c):∃ S,Uni B v s ws S c.1 c.2:=by
 obtain⟨S,r⟩:=h.rt K t e
 have rb:=r.back K
 rw[List.reverse_reverse] at rb
 refine⟨_,rb,λ ws' S' x' y' r' z=>?_⟩
 obtain⟨c',e',n'⟩:=h.least (r'.back K)
 rw[e] at e';cases e'
 exact n' z
end
end Far
namespace Far
section
variable {B:List Arc}{n s a b:Nat}{ws S:List Nat}{x y:Int}{cs:List (Option (Int × Int))}{as:List (Option Nat)}
theorem Rt.walkC (r:Rt B a ws S b x y):Walk (arcsC B) a b (comb (x,y)):=by
 induction r with
 | one=>exact .nil
 | @snoc ws S u v x y l k r m nv ih =>
  have:=Walk.snoc ih (arcsC_mem.mpr ⟨l,k,m,rfl⟩)
  have e:comb (x+l,y+2^k)=comb (x,y)+(l*2^61+2^k):=by unfold comb;simp only;left
  rw[e];exact this
theorem Rt.split (r:Rt B a ws S b x y):∀ {p q:List Nat}{u:Nat},ws=p++u::q->∃ S1 S2 x1 x2 y1 y2,Rt B a (p++[u]) S1 u x1 y1/\Rt B u (u::q) S2 b x2 y2/\x=x1+x2/\y=y1+y2:=by
 induction r with
 | one =>
  intro p q u e
  cases p with
  | nil =>
   injection e with e1 e2
   subst e1 e2
   exact⟨[],[],0,0,0,0,.one,.one,rfl,rfl⟩
  | cons z p=>injection e with e1 e2;cases p <;> cases e2
 | @snoc ws S u0 v x y l k r m nv ih =>
  intro p q u e
  rcases ubz q with rfl | ⟨q',v',rfl⟩
  ·have e':ws++[v]=p++[u]:=e
   obtain⟨e1,e2⟩:=ucs e' rfl
   cases e2
   subst e1
   exact⟨S++[k],[],x+l,0,y+2^k,0,r.snoc m nv,.one,by left,by left⟩
  ·have e':ws++[v]=(p++u::q')++[v']:=by rw[e,ubg];simp
   obtain⟨e1,e2⟩:=ucs e' rfl
   cases e2
   obtain⟨S1,S2,x1,x2,y1,y2,r1,r2,ex,ey⟩:=ih e1
   have nv2:v∉u::q':=λ h=>nv (by rw[e1];exact l8 _ h)
   have r3:=r2.snoc m nv2
   refine⟨S1,S2++[k],x1,x2+l,y1,y2+2^k,r1,?_,by left,by left⟩
   simpa using r3
def MinW (B:List Arc)(a b:Nat)(ws:List Nat):Prop:=∃ S x y,Rt B a ws S b x y/\∀ L,Walk (arcsC B) a b L->comb (x,y)<=L
theorem MinW.unique (K:Keys B){ws':List Nat}(h:MinW B a b ws)(h':MinW B a b ws'):ws'=ws:=by
 obtain⟨S,x,y,r,l⟩:=h
 obtain⟨S',x',y',r',l'⟩:=h'
 have e1:=l _ r'.walkC
 have e2:=l' _ r.walkC
 have b1:=r.lt K
 have b2:=r'.lt K
 have e:=mQ (c:=(x,y)) (d:=(x',y')) ⟨b1.1,uev b1.2 (by decide)⟩ ⟨b2.1,uev b2.2 (by decide)⟩ (by left)
 injection e with ex ey
 subst ey
 exact (r.unique K r').1
theorem mR (x1 x2 y1 y2:Int):comb (x1+x2,y1+y2)=comb (x1,y1)+comb (x2,y2):=by unfold comb;simp only;left
theorem MinW.sub (h:MinW B a b ws){p m q:List Nat}{u v:Nat}{m1 m2:List Nat}(e:ws=p++m++q)(e1:m=u::m1)(e2:m=m2++[v]):MinW B u v m:=by
 obtain⟨S,x,y,r,l⟩:=h
 obtain⟨S1,S2,x1,x2,y1,y2,r1,r2,ex,ey⟩:=r.split (p:=p) (u:=u) (q:=m1++q) (by rw[e,e1,ubg];rfl)
 obtain⟨S3,S4,x3,x4,y3,y4,r3,r4,ex2,ey2⟩:=r2.split (p:=m2) (u:=v) (q:=q) (by
  have:u::(m1++q)=m++q:=by rw[e1];rfl
  rw[this,e2,ubg];rfl)
 rw[← e2] at r3
 refine⟨S3,x3,y3,r3,λ L w=>?_⟩
 have:=l _ ((r1.walkC.trans w).trans r4.walkC)
 subst ex ey ex2 ey2
 rw[mR,mR] at this
 left
theorem MinW.back (K:Keys B)(h:MinW B a b ws):MinW B b a ws.reverse:=by
 obtain⟨S,x,y,r,l⟩:=h
 exact⟨S.reverse,x,y,r.back K,λ L w=>l L (w.back (wH K))⟩
theorem MinW.nodup (h:MinW B a b ws):ws.Nodup:=by
 obtain⟨S,x,y,r,l⟩:=h
 exact r.unlike
end
end Far
namespace Far
inductive W2 (B:List Arc)(s:Nat):Nat->Int->Int->Prop
 | nil:W2 B s s 0 0
 | snoc {u v:Nat} {x y l:Int} {k:Nat}:W2 B s u x y->(u,v,l,k)∈B->W2 B s v (x+l) (y+2^k)
theorem W2.nonneg {B:List Arc}(K:Keys B){s v:Nat}{x y:Int}(h:W2 B s v x y):0<=x/\0<=y:=by
 induction h with
 | nil=>exact⟨uaj _,uaj _⟩
 | @snoc u v x y l k h m ih =>
  have h1:=K.pos _ _ _ _ m
  have h2:=nC k
  left
end Far
namespace Stb
open PySem
def Asc (xs:Array Nat):Prop:=∀ i j,i<j->j<xs.size->xs.getD i 0<xs.getD j 0
theorem Asc.list {xs:Array Nat}:Asc xs↔xs.toList.Pairwise (·<·):=by
 rw[uan]
 have g:∀ i (h:i<xs.toList.length),xs.getD i 0=xs.toList[i]:=λ i h=>by
  have h':i<xs.size:=by simpa using h
  rw[Array.getD_eq_getD_getElem?,ufu h'];simp
 constructor
 ·intro a i j hi hj ij
  have:=a i j ij (by simpa using hj)
  rw[g i hi,g j hj] at this
  exact this
 ·intro a i j ij hj
  have hj':j<xs.toList.length:=by simpa using hj
  have:=a i j (by left) hj' ij
  rw[g i (by left),g j hj']
  exact this
def TI (b:Bool)(t:SetTable):Prop:=Asc t.place/\t.led=b
end Stb
namespace Stb
open PySem PyProof.Rows
def ledOf (w:uaf):Bool:=!w.params.followText "set-order"
def TIat (w:uaf)(h:Heap)(a:j7):Prop:=∃ o es ep t,h.get? a=some o/\o.data=.set es ep t/\TI (ledOf w) t
abbrev SetT (P:m9)(w:uaf)(h:Heap)(a:j7)(S:Int->Bool)(n:Nat):Prop:=h.SetOf (intKind P w) a S n/\TIat w h a
section
variable {prog:m9}{w:uaf}{A:v7}{E:d7->d8->Prop}{s:d8}
theorem SetT.keep {h h':Heap}{a:j7}{S:Int->Bool}{n:Nat}(x:SetT prog w h a S n)(k:∀ o,h.get? a=some o->h'.get? a=some o):SetT prog w h' a S n:=by
 obtain⟨⟨o,es,ep,t,ho,r⟩,o',es',ep',t',ho',r'⟩:=x
 exact⟨⟨o,es,ep,t,k _ ho,r⟩,o',es',ep',t',k _ ho',r'⟩
end
end Stb
namespace HT
open PySem PyProof.Rows
section
variable {prog:m9}{w:uaf}{A:v7}{E:d7->d8->Prop}{s:d8}
abbrev setN (ns:List Int)(m:Nat):Nat:=(firstMet (λ i=>ns.getD i 0) m).length
end
end HT
namespace Stb
open PySem PyProof.Rows
section
variable {prog:m9}{w:uaf}{A:v7}{E:d7->d8->Prop}{s:d8}
end
end Stb
namespace Stb
open PySem PyProof.Rows
section
variable {prog:m9}{w:uaf}{A:v7}{E:d7->d8->Prop}{s:d8}
end
end Stb
namespace Stb
open PySem PyProof.Rows
section
variable {prog:m9}{w:uaf}{A:v7}{E:d7->d8->Prop}{s:d8}{a I:j7}{es:Array (Int × d7)}{ep:Nat}{t:SetTable}
section
variable {Q:Option d7->d8->Prop}{i:Nat}
end
end
end Stb
namespace Stb
open PySem PyProof.Rows
section
variable {prog:m9}{w:uaf}{A:v7}{E:d7->d8->Prop}{s:d8}{a I:j7}{es:Array (Int × d7)}{ep:Nat}{t:SetTable}
end
end Stb
namespace Stb
open PySem PyProof.Rows
section
variable {prog:m9}{w:uaf}{A:v7}{E:d7->d8->Prop}{s:d8}{a:j7}{es:Array (Int × d7)}{ep:Nat}{t:SetTable}
end
end Stb
namespace Far
variable {B:List Arc}{A:List (Nat × Nat × Int)}{n s:Nat}
structure Run (B:List Arc)(s:Nat)(cs:List (Option (Int × Int)))(as:List (Option Nat)):Prop where
 len:as.length=cs.length
 start:get cs s=some (0,0)
 root:get as s=none
 has:∀ v c,get cs v=some c->v≠s->get as v≠none
 arc:∀ v u,get as v=some u->∃ l k cu cv,(u,v,l,k)∈B/\get cs u=some cu/\get cs v=some cv/\¬ lt2 cv (cu.1+l,cu.2+2^k)
theorem Run.step {u v:Nat}{l:Int}{k:Nat}{cs:List (Option (Int × Int))}{as:List (Option Nat)}{c:Int × Int}(P:Pos A)(g:Good A n s cs)(a:Run B s cs as)(m:(u,v,l)∈A)(mB:(u,v,l,k)∈B)(hv:v<n)(hu:get cs u=some c)
  (h:get cs v=none\/∃ c',get cs v=some c'/\lt2 (c.1+l,c.2+2^k) c'):Run B s (cs.set v (some (c.1+l,c.2+2^k))) (as.set v (some u)):=by
 have hc:v<cs.length:=by rw[g.len];exact hv
 have ha:v<as.length:=by rw[a.len];exact hc
 have l1:=P _ _ _ m
 have c0:=(g.walk _ _ hu).nonneg P
 have vs:v≠s:=λ z=>by
  rw[z] at h
  rcases h with h | ⟨c',h,hl⟩
  ·rw[a.start] at h;cases h
  ·rw[a.start] at h;cases h
   unfold lt2 at hl;simp only at hl;left
 have uv:u≠v:=λ z=>by
  rcases h with h | ⟨c',h,hl⟩
  ·rw[← z,hu] at h;cases h
  ·rw[← z,hu] at h;cases h
   unfold lt2 at hl;simp only at hl;left
 refine⟨by rw[ual,ual];exact a.len,by rw[aM hc,ugd (Ne.symm vs)];exact a.start,?_,λ x d e hx=>?_,λ x y e=>?_⟩
 ·rw[aM ha,ugd (Ne.symm vs)];exact a.root
 ·rw[aM ha]
  split
  ·exact λ z=>by cases z
  ·rename_i xv
   rw[aM hc,ugd xv] at e
   exact a.has x d e hx
 ·rw[aM ha] at e
  split at e
  ·rename_i z;subst z;cases e
   refine⟨l,k,c,_,mB,by rw[aM hc,ugd uv];exact hu,by rw[aM hc,ugc rfl],λ z=>?_⟩
   unfold lt2 at z;left
  ·rename_i xv
   obtain⟨l',k',cu,cv,m',e1,e2,hle⟩:=a.arc x y e
   by_cases yv:y=v
   ·subst yv
    refine⟨l',k',_,cv,m',by rw[aM hc,ugc rfl],by rw[aM hc,ugd xv];exact e2,λ z=>?_⟩
    rcases h with h | ⟨c',h,hl⟩
    ·rw[h] at e1;cases e1
    ·rw[h] at e1;cases e1
     unfold lt2 at hl hle z
     simp only at hl hle z
     left
   ·exact⟨l',k',cu,cv,m',by rw[aM hc,ugd yv];exact e1,by rw[aM hc,ugd xv];exact e2,hle⟩
theorem Run.first (hs:s<n):Run B s ((o3 n none).set s (some (0,0))) (o3 n none):=by
 have hl:s<(o3 n (none:Option (Int × Int))).length:=by rw[v5];exact hs
 refine⟨by rw[ual,v5,v5],by rw[aM hl,ugc rfl],cA _ _,λ v c e hv=>?_,λ v u e=>?_⟩
 ·rw[aM hl,ugd hv,cA] at e;cases e
 ·rw[cA] at e;cases e
def Stab2 (B:List Arc)(cs:List (Option (Int × Int))):Prop:=∀ u v l k c,(u,v,l,k)∈B->get cs u=some c->∃ c',get cs v=some c'/\¬ lt2 (c.1+l,c.2+2^k) c'
def PS2 (c0:List (Option (Int × Int)))(R:Arc->Prop)(cs:List (Option (Int × Int)))(ag:Bool):Prop :=
 (ag=false/\cs=c0/\∀ u v l k c,R (u,v,l,k)->get c0 u=some c->∃ c',get c0 v=some c'/\¬ lt2 (c.1+l,c.2+2^k) c')\/(ag=true/\mu cs<mu c0)
def plusA (R:Arc->Prop)(a:Arc):Arc->Prop:=λ b=>R b\/b=a
section
variable {c0 cs:List (Option (Int × Int))}{R R':Arc->Prop}{ag:Bool}{u v k:Nat}{l:Int}
theorem PS2.less (h:PS2 c0 R cs ag)(z:∀ a,R' a->R a):PS2 c0 R' cs ag:=h.elim (λ ⟨a,b,c⟩=>.inl ⟨a,b,λ u v l k c' y=>c u v l k c' (z _ y)⟩) .inr
theorem PS2.no (h:PS2 c0 R cs ag)(hu:get cs u=none):PS2 c0 (plusA R (u,v,l,k)) cs ag:=by
 rcases h with ⟨a,b,c⟩ | h
 ·refine .inl ⟨a,b,λ u' v' l' k' c' z e=>?_⟩
  rcases z with z | z
  ·exact c _ _ _ _ _ z e
  ·cases z;rw[← b,hu] at e;cases e
 ·exact .inr h
theorem PS2.old (h:PS2 c0 R cs ag){c d:Int × Int}(hu:get cs u=some c)(hv:get cs v=some d)(hn:¬ lt2 (c.1+l,c.2+2^k) d):PS2 c0 (plusA R (u,v,l,k)) cs ag:=by
 rcases h with ⟨a,b,z⟩ | h
 ·refine .inl ⟨a,b,λ u' v' l' k' c' y e=>?_⟩
  rcases y with y | y
  ·exact z _ _ _ _ _ y e
  ·cases y
   subst b
   rw[hu] at e;cases e
   exact⟨d,hv,hn⟩
 ·exact .inr h
theorem PS2.put (h:PS2 c0 R cs ag){cs':List (Option (Int × Int))}(hm:mu cs'<mu cs):PS2 c0 (plusA R (u,v,l,k)) cs' true:=by
 rcases h with ⟨a,b,c⟩ | h
 ·exact .inr ⟨rfl,by rw[← b];exact hm⟩
 ·exact .inr ⟨rfl,udb hm h.2⟩
end
theorem Run.best {cs:List (Option (Int × Int))}{as:List (Option Nat)}(P:Pos A)(g:Good A n s cs)(r:Run B s cs as)(st:Stab2 B cs):Best B n s cs as:=by
 refine⟨g.len,by rw[r.len];exact g.len,r.start,r.root,r.has,λ v c e=>(g.walk v c e).nonneg P,st,λ v u e=>?_⟩
 obtain⟨l,k,cu,cv,m,e1,e2,n1⟩:=r.arc v u e
 obtain⟨c',e3,n2⟩:=st _ _ _ _ _ m e1
 rw[e2] at e3;cases e3
 refine⟨l,k,cu,m,e1,?_⟩
 rw[e2]
 congr 1
 unfold lt2 at n1 n2
 simp only at n1 n2
 exact Prod.ext (by show cv.1=cu.1+l;left) (by show cv.2=cu.2+2^k;left)
end Far
namespace L3
open PySem PySem.Spec PyProof.Rows L2
def arcs2B (t:Tie)(k:Nat):List Far.Arc:=[(t.1.toNat,t.2.1.toNat,t.2.2,k),(t.2.1.toNat,t.1.toNat,t.2.2,k)]
def arcsB (ts:List Tie)(ks:List Nat):List Far.Arc:=ks.flatMap λ k=>arcs2B (tieAt ts k) k
theorem arcsB_mem {ts:List Tie}{ks:List Nat}{a:Far.Arc}:a∈arcsB ts ks↔∃ k,k∈ks/\a∈arcs2B (tieAt ts k) k:=by
 unfold arcsB;rw[uee]
theorem arcs2B_mem {t:Tie}{k:Nat}{a:Far.Arc}:a∈arcs2B t k↔a=(t.1.toNat,t.2.1.toNat,t.2.2,k)\/a=(t.2.1.toNat,t.1.toNat,t.2.2,k):=by
 unfold arcs2B;simp
theorem uV {ts:List Tie}{ks:List Nat}{i k:Nat}(h:ks[i]?=some k){a:Far.Arc}(m:a∈arcsB ts (ks.take (i+1))):a∈arcsB ts (ks.take i)\/a∈arcs2B (tieAt ts k) k:=by
 obtain⟨j,hj,m⟩:=arcsB_mem.mp m
 rw[dG h] at hj
 rcases m5.mp hj with hj | hj
 ·exact .inl (arcsB_mem.mpr ⟨j,hj,m⟩)
 ·rw[j6.mp hj] at m;exact .inr m
theorem fF {n:Int}{ts:List Tie}{ks:List Nat}(ok:WebOk n ts)(ko:KeepOk ts.length ks):Far.Keys (arcsB ts ks):=by
 have at_:∀ {u v l k},(u,v,l,k)∈arcsB ts ks->k<ts.length/\((u=(tieAt ts k).1.toNat/\v=(tieAt ts k).2.1.toNat)\/(u=(tieAt ts k).2.1.toNat/\v=(tieAt ts k).1.toNat))/\l=(tieAt ts k).2.2/\k∈ks:=λ {u v l k} h=>by
  obtain⟨j,hj,m⟩:=arcsB_mem.mp h
  rcases arcs2B_mem.mp m with e | e <;> cases e
  ·exact⟨ko.2 _ hj,.inl ⟨rfl,rfl⟩,rfl,hj⟩
  ·exact⟨ko.2 _ hj,.inr ⟨rfl,rfl⟩,rfl,hj⟩
 refine⟨λ u v l k h=>?_,λ u v l u' v' l' k h h'=>?_,λ u v l k h=>?_,λ u v l k h=>?_,λ u v l k h=>?_⟩
 ·obtain⟨_,e,rfl,hk⟩:=at_ h
  refine arcsB_mem.mpr ⟨k,hk,arcs2B_mem.mpr ?_⟩
  rcases e with ⟨rfl,rfl⟩ | ⟨rfl,rfl⟩
  ·exact .inr rfl
  ·exact .inl rfl
 ·obtain⟨_,e,rfl,_⟩:=at_ h
  obtain⟨_,e',rfl,_⟩:=at_ h'
  refine⟨rfl,?_⟩
  rcases e with ⟨rfl,rfl⟩ | ⟨rfl,rfl⟩ <;> rcases e' with ⟨rfl,rfl⟩ | ⟨rfl,rfl⟩
  ·exact .inl ⟨rfl,rfl⟩
  ·exact .inr ⟨rfl,rfl⟩
  ·exact .inr ⟨rfl,rfl⟩
  ·exact .inl ⟨rfl,rfl⟩
 ·obtain⟨hk,e,_,_⟩:=at_ h
  have:=ok.tie _ (aY hk).2
  rcases e with ⟨rfl,rfl⟩ | ⟨rfl,rfl⟩ <;> left
 ·obtain⟨hk,_,e,_⟩:=at_ h
  have:=ok.tie _ (aY hk).2
  left
 ·obtain⟨hk,_⟩:=at_ h
  have:=ok.few
  left
theorem yV {n:Int}{ts:List Tie}{ks:List Nat}(ok:WebOk n ts)(ko:KeepOk ts.length ks){u v k:Nat}{l:Int}(h:(u,v,l,k)∈arcsB ts ks):u<n.toNat/\v<n.toNat:=by
 obtain⟨j,hj,m⟩:=arcsB_mem.mp h
 have:=ok.tie _ (aY (ko.2 j hj)).2
 rcases arcs2B_mem.mp m with e | e <;> cases e <;> left
def spReachedB (K:a8):Sp:=λ vs H Q _=>∃ n ts ks wv kv r,vs=[wv,kv,.int r]/\WK K H n ts ks wv kv/\0<=r/\r<n /\
 ∀ (p lc la:j7)(cvs:List V)(as:List (Option Nat))(cs:List (Option (Int × Int)))(H':Hp),Same H H'->H' p=some (.tup [.ref lc,.ref la])->H' lc=some (.lst cvs)->H' la=some (.lst (as.map oa))->CostL H' cvs cs->Far.Best (arcsB ts ks) n.toNat r.toNat cs as->Q (.ref p) H'
def spTreeB (K:a8):Sp:=λ vs H Q _=>∃ n ts ks wv kv r,vs=[wv,kv,.int r]/\WK K H n ts ks wv kv/\0<=r/\r<n /\
 ∀ (p:j7)(as:List (Option Nat))(cs:List (Option (Int × Int)))(H':Hp),Same H H'->H' p=some (.tup (as.map oa))->Far.Best (arcsB ts ks) n.toNat r.toNat cs as->Q (.ref p) H'
def WayB (H:Hp)(B:List Far.Arc)(n a b:Nat)(v:V):Prop:=∃ cs as,Far.Best B n b cs as/\((v=.non/\Far.get cs a=none)\/∃ t ws c,v=.ref t/\H t=some (.tup (natV ws))/\ws.length<=24/\Far.get cs a=some c/\Far.TPw as b ws.reverse a)
def spWayB (K:a8):Sp:=λ vs H Q _=>∃ n ts ks wv kv a b,vs=[wv,kv,.int a,.int b]/\WK K H n ts ks wv kv/\0<=a/\a<n/\0<=b/\b<n/\∀ v H',Same H H'->WayB H' (arcsB ts ks) n.toNat a.toNat b.toNat v->Q v H'
section
variable {X:Cx}
end
end L3
namespace Srt
open PySem PySem.Spec PyProof.Rows PySem.W
section
variable {prog:m9}{w:uaf}{A:v7}{E:d7->d8->Prop}{s:d8}
end
end Srt
namespace L3
open PySem PySem.Spec PyProof.Rows L2
def SetO (P:m9)(w:uaf)(a:j7)(S:Int->Bool)(n:Nat):HO:=.ext λ h=>Stb.SetT P w h a S n
section
variable {X:Cx}
end
theorem eJ (ts:List Tie)(ks:List Nat):Far.arcsF (arcsB ts ks)=arcs ts ks:=by
 unfold arcs Far.arcsF arcsB
 rw[List.map_flatMap]
 rfl
def WayU (H:Hp)(ts:List Tie)(ks:List Nat)(a b:Nat)(v:V):Prop:=(v=.non/\Far.Dst (arcs ts ks) a b none)\/∃ t ws S x y,v=.ref t/\H t=some (.tup (natV ws))/\ws.length<=24/\Far.Uni (arcsB ts ks) a b ws S x y/\Far.Dst (arcs ts ks) a b (some x)
theorem fJ {n:Int}{ts:List Tie}{ks:List Nat}(ok:WebOk n ts)(ko:KeepOk ts.length ks):Far.Sym (arcs ts ks):=λ u v l h=>by
 rw[← eJ] at h ⊢
 obtain⟨k,m⟩:=Far.arcsF_mem.mp h
 exact Far.arcsF_mem.mpr ⟨k,(fF ok ko).sym _ _ _ _ m⟩
theorem zaq {H:Hp}{n:Int}{m:Nat}{ts:List Tie}{ks:List Nat}{a b:Nat}{v:V}(ok:WebOk n ts)(ko:KeepOk ts.length ks)(h:WayB H (arcsB ts ks) m a b v):WayU H ts ks a b v:=by
 obtain⟨cs,as,B,h⟩:=h
 have KB:=fF ok ko
 have d:=B.dst1 KB a
 rw[eJ] at d
 rcases h with ⟨rfl,e⟩ | ⟨t,ws,c,rfl,ht,l24,e,tp⟩
 ·rw[e] at d
  exact .inl ⟨rfl,d.back (fJ ok ko)⟩
 ·rw[e] at d
  obtain⟨S,u⟩:=B.uni KB tp e
  exact .inr ⟨t,ws,S,c.1,c.2,rfl,ht,l24,u,d.back (fJ ok ko)⟩
def spWayU (K:a8):Sp:=λ vs H Q _=>∃ n ts ks wv kv a b,vs=[wv,kv,.int a,.int b]/\WK K H n ts ks wv kv/\0<=a/\a<n/\0<=b/\b<n/\∀ v H',Same H H'->WayU H' ts ks a.toNat b.toNat v->Q v H'
theorem zbj {K:a8}(vs:List V)(H:Hp)(Q:VK)(E:XK)(h:spWayU K vs H Q E):spWayB K vs H Q E:=by
 obtain⟨n,ts,ks,wv,kv,a,b,e,wk,a0,a1,b0,b1,q⟩:=h
 exact⟨n,ts,ks,wv,kv,a,b,e,wk,a0,a1,b0,b1,λ v H' S h=>q v H' S (zaq wk.2.1 wk.2.2.2 h)⟩
def spReachedC (K:a8):Sp:=λ vs H Q _=>∃ n ts ks wv kv r,vs=[wv,kv,.int r]/\WK K H n ts ks wv kv/\0<=r/\r<n /\
 ∀ (p lc la:j7)(cvs:List V)(as:List (Option Nat))(cs:List (Option (Int × Int)))(H':Hp),Same H H'->H' p=some (.tup [.ref lc,.ref la])->H' lc=some (.lst cvs)->H' la=some (.lst (as.map oa))->CostL H' cvs cs->Far.Best (arcsB ts ks) n.toNat r.toNat cs as->Far.Good (arcs ts ks) n.toNat r.toNat cs->Far.Stab (arcs ts ks) cs->Q (.ref p) H'
theorem vF {K:a8}(vs:List V)(H:Hp)(Q:VK)(E:XK)(h:spReachedB K vs H Q E):spReachedC K vs H Q E:=by
 obtain⟨n,ts,ks,wv,kv,r,e,wk,r0,r1,q⟩:=h
 exact⟨n,ts,ks,wv,kv,r,e,wk,r0,r1,λ p lc la cvs as cs H' S h1 h2 h3 cl B _ _=>q p lc la cvs as cs H' S h1 h2 h3 cl B⟩
theorem vE {K:a8}(vs:List V)(H:Hp)(Q:VK)(E:XK)(h:spReached K vs H Q E):spReachedC K vs H Q E:=by
 obtain⟨n,ts,ks,wv,kv,r,e,wk,r0,r1,q⟩:=h
 exact⟨n,ts,ks,wv,kv,r,e,wk,r0,r1,λ p lc la cvs as cs H' S h1 h2 h3 cl _ g st=>q p lc la cvs _ cs H' S h1 h2 h3 cl g st⟩
theorem zG {ts:List Tie}{ks:List Nat}{cs:List (Option (Int × Int))}(h:Far.Stab2 (arcsB ts ks) cs):Far.Stab (arcs ts ks) cs:=λ u v l c m e=>by
 rw[← eJ] at m
 obtain⟨k,m⟩:=Far.arcsF_mem.mp m
 obtain⟨c',e',n'⟩:=h _ _ _ _ _ m e
 refine⟨c',e',?_⟩
 unfold Far.lt2 at n'
 simp only at n'
 left
theorem zC {n:Int}{ts:List Tie}{ks:List Nat}(ok:WebOk n ts)(ko:KeepOk ts.length ks){u v k:Nat}{l:Int}(h:(u,v,l,k)∈arcsB ts ks):ks.filter (isTB ts u v)=[k]:=by
 have hk:k∈ks/\isTB ts u v k=true:=by
  obtain⟨j,hj,m⟩:=arcsB_mem.mp h
  have tk:=ok.tie _ (aY (ko.2 j hj)).2
  unfold isTB
  rcases arcs2B_mem.mp m with e | e <;> cases e
  ·exact⟨hj,by rw[uf9 (by left),uf9 (by left)];rfl⟩
  ·exact⟨hj,by rw[uf9 (by left),uf9 (by left)];rfl⟩
 have one:∀ j∈ks,isTB ts u v j=true->j=k:=λ j hj p=>by
  have q:=hk.2
  have hjl:=ko.2 j hj
  have hkl:=ko.2 k hk.1
  unfold isTB at p q
  rw[w8] at p q
  have a1:=uga p.1
  have a2:=uga p.2
  have b1:=uga q.1
  have b2:=uga q.2
  exact lJ ok hjl hkl (a1.trans b1.symm) (a2.trans b2.symm)
 have nd:ks.Nodup:=ko.1.imp λ h=>o0 h
 have nf:(ks.filter (isTB ts u v)).Nodup:=nd.sublist udr
 have mk:k∈ks.filter (isTB ts u v):=uak.mpr hk
 have all:∀ j∈ks.filter (isTB ts u v),j=k:=λ j hj=>one j (uak.mp hj).1 (uak.mp hj).2
 match e:ks.filter (isTB ts u v) with
 | []=>rw[e] at mk;cases mk
 | [j]=>rw[all j (by rw[e];exact i0)]
 | i::j::r =>
  rw[e] at nf all
  have h1:=all i i0
  have h2:=all j (i9 _ i0)
  exact absurd (h1.trans h2.symm) (λ z=>(r9.mp nf).1 (by rw[z];exact i0))
theorem wI {ts:List Tie}{ks:List Nat}{u v k:Nat}{l:Int}(h:(u,v,l,k)∈arcsB ts ks):(tieAt ts k).2.2=l/\k∈ks:=by
 obtain⟨j,hj,m⟩:=arcsB_mem.mp h
 rcases arcs2B_mem.mp m with e | e <;> cases e
 ·exact⟨rfl,hj⟩
 ·exact⟨rfl,hj⟩
section
variable {own:List Str}{js:List Nat}{g:TG}{te:TE}{σ:L2.St}{Q:VK}{H1:Hp}
end
end L3
namespace HT
open PySem PyProof.Rows
section
variable {prog:m9}{w:uaf}{A:v7}{R:Result->d8->Prop}{I:j7}{fp wr:List j7}{G:Array GenState->Array GenState->Prop}{St:Nat->d8->Prop}{its:List d7}{ns:List Int}
end
section
variable {prog:m9}{w:uaf}{A:v7}{E:d7->d8->Prop}{s:d8}
end
end HT
namespace L3
open PySem PySem.Spec PyProof.Rows L2
theorem IsAll.at_ {K:a8}{H:Hp}:∀ {ds:List v9}{vs:List V}{i:Nat}{d:v9},IsAll K H ds vs->ds[i]?=some d->∃ v,vs[i]?=some v/\Is K H d v
 | [],vs,i,d,_,h=>by cases h
 | d0::ds,vs,0,d,⟨v,r,e,h1,_⟩,h=>by
  cases h
  exact⟨v,by rw[e];rfl,h1⟩
 | d0::ds,vs,i+1,d,⟨v,r,e,_,h2⟩,h=>by
  obtain⟨u,e1,e2⟩:=IsAll.at_ (i:=i) h2 h
  exact⟨u,by rw[e];exact e1,e2⟩
section
variable {own:List Str}{js:List Nat}{g:TG}{tt:TT}{te:TE}{σ:L2.St}{Q:VK}{H1:Hp}
end
def lvl (ls:List (List Nat))(i:Nat):List Nat:=ls.getD i []
structure LevOk (n:Nat)(ls:List (List Nat)):Prop where
 one:1<=ls.length
 six:ls.length<=6
 first:lvl ls 0=i6 n
 rise:∀ i,(lvl ls i).Pairwise (·<·)
 inn:∀ i,∀ p∈lvl ls i,p<n
 down:∀ i,∀ p∈lvl ls (i+1),p∈lvl ls i
theorem iN {ls:List (List Nat)}{i:Nat}(h:ls.length<=i):lvl ls i=[]:=by unfold lvl;rw[f8,u5 h];rfl
theorem LevOk.len {n:Nat}{ls:List (List Nat)}(h:LevOk n ls)(i:Nat):(lvl ls i).length<=n:=KeepOk.len (m:=n) (ks:=lvl ls i) ⟨h.rise i,h.inn i⟩
def IsTop (ls:List (List Nat))(w b:Nat):Prop:=b<ls.length/\w∈lvl ls b/\∀ i,i<ls.length->w∈lvl ls i->i<=b
theorem IsTop.unique {ls:List (List Nat)}{w b b':Nat}(h:IsTop ls w b)(h':IsTop ls w b'):b'=b:=by
 have:=h.2.2 b' h'.1 h'.2.1
 have:=h'.2.2 b h.1 h.2.1
 left
def Bun (ls:List (List Nat))(D:List (Option Int))(w:Nat):Prop:=∃ x,Far.get D w=some x/\∀ b p y,IsTop ls w b->p∈lvl ls (b+1)->Far.get D p=some y->x<y
noncomputable def bunB (ls:List (List Nat))(D:List (Option Int))(w:Nat):Bool:=@decide (Bun ls D w) (Classical.propDecidable _)
theorem bunB_iff {ls:List (List Nat)}{D:List (Option Int)}{w:Nat}:bunB ls D w=true↔Bun ls D w:=by unfold bunB;exact @decide_eq_true_iff _ (Classical.propDecidable _)
def FarsOf (ts:List Tie)(n s:Nat)(D:List (Option Int)):Prop:=D.length=n/\∀ u,u<n->Far.Dst (arcs ts (i6 ts.length)) s u (Far.get D u)
theorem FarsOf.unique {ts:List Tie}{n s:Nat}{D D':List (Option Int)}(h:FarsOf ts n s D)(h':FarsOf ts n s D'):D'=D:=ubp λ i=>by
 by_cases hi:i<n
 ·have z:=(h'.2 i hi).unique (h.2 i hi)
  have l1:=h.1
  have l2:=h'.1
  unfold Far.get at z
  rw[f8,d6 (by left),f8,d6 (by left)] at z
  rw[d6 (by left),d6 (by left)]
  exact congrArg some z
 ·have l1:=h.1
  have l2:=h'.1
  rw[u5 (by left),u5 (by left)]
def FarsT (H:Hp)(p lf:j7)(n:Nat)(ts:List Tie):Prop:=∃ ys,H lf=some (.lst ys)/\lf≠p/\ys.length=n/\∀ i v,ys[i]?=some v->∃ l D,v=.ref l/\l≠p/\H l=some (.lst (D.map ov))/\FarsOf ts n i D
theorem FarsT.same {H H':Hp}{p lf:j7}{n:Nat}{ts:List Tie}(S:Same H H')(h:FarsT H p lf n ts):FarsT H' p lf n ts:=by
 obtain⟨ys,e,ne,ly,hy⟩:=h
 exact⟨ys,S _ _ e,ne,ly,λ i v ev=>let ⟨l,D,e1,e2,e3,e4⟩:=hy i v ev;⟨l,D,e1,e2,S _ _ e3,e4⟩⟩
theorem FarsT.but {H H':Hp}{p lf:j7}{n:Nat}{ts:List Tie}(S:But p H H')(h:FarsT H p lf n ts):FarsT H' p lf n ts:=by
 obtain⟨ys,e,ne,ly,hy⟩:=h
 exact⟨ys,S _ _ ne e,ne,ly,λ i v ev=>let ⟨l,D,e1,e2,e3,e4⟩:=hy i v ev;⟨l,D,e1,e2,S _ _ e2 e3,e4⟩⟩
theorem yL {n:Int}{ts:List Tie}{ls:List (List Nat)}{D:List (Option Int)}{s:Nat}(ok:WebOk n ts)(hs:s<n.toNat)(F:FarsOf ts n.toNat s D)(lo:LevOk n.toNat ls):bunB ls D s=true/\Far.get D s=some 0:=by
 have P:=fS ok (⟨uej,λ k hk=>o6.mp hk⟩:KeepOk ts.length (i6 ts.length))
 have e0:Far.get D s=some 0:=by
  obtain⟨y,e,le⟩:=(F.2 s hs).2 0 .nil
  have:=((F.2 s hs).1 y e).nonneg P
  rw[e,show y=0 by left]
 refine⟨bunB_iff.mpr ⟨0,e0,λ b p y t hp ep=>?_⟩,e0⟩
 have hpn:=lo.inn _ p hp
 have w:=(F.2 p hpn).1 y ep
 cases hw:w with
 | nil =>
  have bl:b+1<ls.length:=by
   rcases uch (b+1) ls.length with z | z
   ·exact z
   ·rw[iN z] at hp;cases hp
  have:=t.2.2 (b+1) bl hp
  left
 | @snoc u _ l x w' m =>
  have:=P _ _ _ m
  have:=w'.nonneg P
  left
end L3
namespace HT
open PySem PyProof.Rows
section
variable {prog:m9}{w:uaf}{A:v7}{R:Result->d8->Prop}{I:j7}{fp wr:List j7}{G:Array GenState->Array GenState->Prop}{St:Nat->d8->Prop}{its:List d7}{ks:List (List Int)}
end
section
variable {prog:m9}{w:uaf}{A:v7}{E:d7->d8->Prop}{s:d8}
end
end HT
namespace L3
open PySem PySem.Spec PyProof.Rows L2
noncomputable def topN (ls:List (List Nat))(w:Nat):Nat:=@dite _ (∃ b,IsTop ls w b) (Classical.propDecidable _) (λ h=>Classical.choose h) (λ _=>0)
theorem iJ {ls:List (List Nat)}{w b:Nat}(h:IsTop ls w b):topN ls w=b:=by
 unfold topN
 rw[dif_pos ⟨b,h⟩]
 exact h.unique (Classical.choose_spec (⟨b,h⟩:∃ b,IsTop ls w b))
theorem eY {n:Nat}{ls:List (List Nat)}(lo:LevOk n ls){w:Nat}(hw:w<n):IsTop ls w (topN ls w):=by
 have ex:∃ b,IsTop ls w b:=by
  have go:∀ m,m<ls.length->∃ b,b<=m/\w∈lvl ls b/\∀ i,i<=m->w∈lvl ls i->i<=b:=λ m=>by
   induction m with
   | zero=>intro _;exact⟨0,i7 _,by rw[lo.first];exact o6.mpr hw,λ i hi _=>hi⟩
   | succ m ih =>
    intro hm
    obtain⟨b,h1,h2,h3⟩:=ih (by left)
    by_cases c:w∈lvl ls (m+1)
    ·exact⟨m+1,i7 _,c,λ i hi _=>hi⟩
    ·refine⟨b,by left,h2,λ i hi hm=>?_⟩
     rcases uch i (m+1) with z | z
     ·exact h3 i (by left) hm
     ·rw[show i=m+1 by left] at hm;exact absurd hm c
  have one:=lo.one
  obtain⟨b,h1,h2,h3⟩:=go (ls.length-1) (by left)
  exact⟨b,by left,h2,λ i hi hm=>h3 i (by left) hm⟩
 obtain⟨b,hb⟩:=ex
 rw[iJ hb];exact hb
structure IsPiv (ls:List (List Nat))(m:Nat)(D:List (Option Int))(o:Option Nat):Prop where
 no:o=none->∀ q∈lvl ls m,Far.get D q=none
 yes:∀ p,o=some p->p∈lvl ls m/\∃ x,Far.get D p=some x/\∀ q∈lvl ls m,∀ y,Far.get D q=some y->x<=y/\(y=x->topN ls q<=topN ls p/\(topN ls q=topN ls p->p<=q))
theorem IsPiv.unique {ls:List (List Nat)}{m:Nat}{D:List (Option Int)}{o o':Option Nat}(h:IsPiv ls m D o)(h':IsPiv ls m D o'):o'=o:=by
 cases o with
 | none =>
  cases o' with
  | none=>rfl
  | some p =>
   obtain⟨hp,x,ex,_⟩:=h'.yes p rfl
   rw[h.no rfl p hp] at ex;cases ex
 | some p =>
  obtain⟨hp,x,ex,a⟩:=h.yes p rfl
  cases o' with
  | none=>rw[h'.no rfl p hp] at ex;cases ex
  | some p' =>
   obtain⟨hp',x',ex',a'⟩:=h'.yes p' rfl
   have h1:=a p' hp' x' ex'
   have h2:=a' p hp x ex
   have e:x'=x:=by left
   obtain⟨t1,l1⟩:=h1.2 e
   obtain⟨t2,l2⟩:=h2.2 e.symm
   have e2:topN ls p'=topN ls p:=by left
   have:=l1 e2
   have:=l2 e2.symm
   rw[show p'=p by left]
theorem mE {n:Nat}{ls:List (List Nat)}(lo:LevOk n ls):∀ {j m:Nat},m<=j->∀ p∈lvl ls j,p∈lvl ls m
 | 0,m,h,p,hp=>by rw[show m=0 by left];exact hp
 | j+1,m,h,p,hp=>by
  rcases uch m (j+1) with z | z
  ·exact mE lo (j:=j) (by left) p (lo.down j p hp)
  ·rw[show m=j+1 by left];exact hp
theorem zM {n:Nat}{ls:List (List Nat)}{m p:Nat}{D:List (Option Int)}(lo:LevOk n ls)(hm:m<ls.length)(h:IsPiv ls m D (some p)):bunB ls D p=true:=by
 obtain⟨hp,x,ex,a⟩:=h.yes p rfl
 have tp:=eY lo (lo.inn m p hp)
 refine bunB_iff.mpr ⟨x,ex,λ b q y t hq ey=>?_⟩
 have eb:=iJ t
 have mb:m<=b:=t.2.2 m hm hp
 have hqm:=mE lo (show m<=b+1 by left) q hq
 obtain⟨h1,h2⟩:=a q hqm y ey
 have tq:=eY lo (lo.inn _ q hq)
 have bl:b+1<ls.length:=by
  rcases uch (b+1) ls.length with z | z
  ·exact z
  ·rw[iN z] at hq;cases hq
 have:=tq.2.2 (b+1) bl hq
 by_cases c:y=x
 ·have:=(h2 c).1;left
 ·left
def tupI (k:List Int):v9:=.tuple (k.map .int)
section
variable {own:List Str}{js:List Nat}{g:TG}{tt:TT}{te:TE}{σ:L2.St}{Q:VK}{H1:Hp}
end
noncomputable def pivN (ls:List (List Nat))(m:Nat)(D:List (Option Int)):Nat:=@dite _ (∃ p,IsPiv ls m D (some p)) (Classical.propDecidable _) (λ h=>Classical.choose h) (λ _=>0)
theorem zN {ls:List (List Nat)}{m p:Nat}{D:List (Option Int)}(h:IsPiv ls m D (some p)):pivN ls m D=p:=by
 unfold pivN
 rw[dif_pos ⟨p,h⟩]
 exact t6 (h.unique (Classical.choose_spec (⟨p,h⟩:∃ p,IsPiv ls m D (some p))))
noncomputable def clN (ls:List (List Nat)):Nat->Nat->Nat->Nat->List (Option Int)->List (Option Int)->Int->List (List Int)
 | 0,w,a,b,_,_,x=>[[(w:Int),(a:Int),(b:Int),x]]
 | f+1,w,a,b,Da,Db,x=>[(w:Int),(a:Int),(b:Int),x]::(if bunB ls Db w=true then [] else clN ls f (pivN ls (topN ls w+1) Db) b a Db Da ((Far.get Db (pivN ls (topN ls w+1) Db)).getD 0))
theorem yH {ls:List (List Nat)}{f w a b:Nat}{Da Db:List (Option Int)}{x:Int}(h:bunB ls Db w=true):clN ls (f+1) w a b Da Db x=[[(w:Int),(a:Int),(b:Int),x]]:=by
 rw[clN,ugc h]
theorem yG {ls:List (List Nat)}{f w a b p:Nat}{Da Db:List (Option Int)}{x x':Int}(h:bunB ls Db w=false)(pv:IsPiv ls (topN ls w+1) Db (some p))(e:Far.get Db p=some x'):clN ls (f+1) w a b Da Db x=[(w:Int),(a:Int),(b:Int),x]::clN ls f p b a Db Da x':=by
 rw[clN,ugd (by rw[h];decide),zN pv,e];rfl
structure Cs (ts:List Tie)(n:Nat)(ls:List (List Nat))(d:Int)(j w a b:Nat)(Da Db:List (Option Int))(x:Int):Prop where
 fa:FarsOf ts n a Da
 fb:FarsOf ts n b Db
 wn:w<n
 an:a<n
 bn:b<n
 xa:Far.get Da w=some x
 lim:x<=j*d
 ab:Far.get Da b=some d
 ba:Far.get Db a=some d
 yb:∃ y,Far.get Db w=some y
 tp:j<=topN ls w
 bu:bunB ls Da w=true
section
variable {n:Int}{ts:List Tie}{ls:List (List Nat)}{d x:Int}{j w a b:Nat}{Da Db:List (Option Int)}
theorem allOk (ts:List Tie):KeepOk ts.length (i6 ts.length):=⟨uej,λ k hk=>o6.mp hk⟩
theorem Cs.start (ok:WebOk n ts)(lo:LevOk n.toNat ls)(fa:FarsOf ts n.toNat a Da)(fb:FarsOf ts n.toNat b Db)(an:a<n.toNat)(bn:b<n.toNat)(ab:Far.get Da b=some d):Cs ts n.toNat ls d 0 a a b Da Db 0:=by
 obtain⟨bs,e0⟩:=yL ok an fa lo
 have ba:Far.get Db a=some d:=by
  have h1:=(fa.2 b bn).back (fJ ok (allOk ts))
  rw[ab] at h1
  exact (fb.2 a an).unique h1
 exact⟨fa,fb,an,an,bn,e0,by simp,ab,ba,⟨d,ba⟩,uac _,bs⟩
theorem Cs.more (lo:LevOk n.toNat ls)(h:Cs ts n.toNat ls d j w a b Da Db x)(nb:bunB ls Db w=false):topN ls w+1<ls.length/\∃ q y y',q∈lvl ls (topN ls w+1)/\Far.get Db w=some y/\Far.get Db q=some y'/\y'<=y:=by
 obtain⟨y,ey⟩:=h.yb
 have ex:∃ b' p z,IsTop ls w b'/\p∈lvl ls (b'+1)/\Far.get Db p=some z/\z<=y:=by
  apply Classical.byContradiction
  intro c
  have:bunB ls Db w=true:=bunB_iff.mpr ⟨y,ey,λ b' p z t hp ez=>by
   rcases Int.lt_or_le y z with l | l
   ·exact l
   ·exact absurd ⟨b',p,z,t,hp,ez,l⟩ c⟩
  rw[nb] at this;cases this
 obtain⟨b',p,z,t,hp,ez,le⟩:=ex
 rw[← iJ t] at hp
 refine⟨?_,p,y,z,hp,ey,ez,le⟩
 rcases uch (topN ls w+1) ls.length with z | z
 ·exact z
 ·rw[iN z] at hp;cases hp
theorem Cs.step (ok:WebOk n ts)(lo:LevOk n.toNat ls)(h:Cs ts n.toNat ls d j w a b Da Db x)(nb:bunB ls Db w=false){o:Option Nat}(pv:IsPiv ls (topN ls w+1) Db o):∃ p x',o=some p/\Far.get Db p=some x'/\Cs ts n.toNat ls d (j+1) p b a Db Da x':=by
 obtain⟨ml,q,y,y',hq,ey,ez,le⟩:=h.more lo nb
 cases o with
 | none=>rw[pv.no rfl q hq] at ez;cases ez
 | some p =>
  obtain⟨hp,x',ex',al⟩:=pv.yes p rfl
  have pn:=lo.inn _ p hp
  have sy:=fJ ok (allOk ts)
  have P:=fS ok (allOk ts)
  have w1:=(h.fa.2 w h.wn).1 x h.xa
  have w2:=(h.fb.2 a h.an).1 d h.ba
  obtain⟨y2,e2,l2⟩:=(h.fb.2 w h.wn).2 _ (w2.trans w1)
  rw[ey] at e2;cases e2
  have l1:=(al q hq y' ez).1
  have w3:=(h.fb.2 p pn).1 x' ex'
  have w4:=(h.fa.2 b h.bn).1 d h.ab
  obtain⟨z,ez',_⟩:=(h.fa.2 p pn).2 _ (w4.trans w3)
  have tp:=eY lo pn
  have t1:=tp.2.2 _ ml hp
  have:=h.tp
  have lim:=h.lim
  refine⟨p,x',rfl,ex',h.fb,h.fa,pn,h.bn,h.an,ex',?_,h.ba,h.ab,⟨z,ez'⟩,by left,zM lo ml pv⟩
  have e:((j+1:Nat):Int)*d=j*d+d:=by rw[Int.natCast_add,Int.add_mul];simp
  left
end
structure RowsOk (ls:List (List Nat))(n:Nat)(d:Int)(Du Dv:List (Option Int))(rows:List (List Int)):Prop where
 few:rows.length<=ls.length
 lim:∀ (i:Nat)(r:List Int),rows[i]?=some r->∃ p a b x:Int,r=[p,a,b,x]/\x<=i*d
 last:∃ (pre:List (List Int))(w:Nat)(a b x:Int),rows=pre++[[(w:Int),a,b,x]]/\w<n/\bunB ls Du w=true/\bunB ls Dv w=true
def ClimbV (K:a8)(H:Hp)(ls:List (List Nat))(n u v:Nat)(Du Dv:List (Option Int))(r:V):Prop:=(r=.non/\Far.get Du v=none)\/∃ t ys d,r=.ref t/\Far.get Du v=some d/\H t=some (.tup ys)/\IsAll K H ((clN ls ls.length u u v Du Dv 0).map tupI) ys/\RowsOk ls n d Du Dv (clN ls ls.length u u v Du Dv 0)
def FarsM (H:Hp)(lf:j7)(n:Nat)(ts:List Tie):Prop:=∃ ys,H lf=some (.lst ys)/\ys.length=n/\∀ i v,ys[i]?=some v->∃ l D,v=.ref l/\H l=some (.lst (D.map ov))/\FarsOf ts n i D
theorem FarsM.same {H H':Hp}{lf:j7}{n:Nat}{ts:List Tie}(S:Same H H')(h:FarsM H lf n ts):FarsM H' lf n ts:=by
 obtain⟨ys,e,ly,hy⟩:=h
 exact⟨ys,S _ _ e,ly,λ i v ev=>let ⟨l,D,e1,e3,e4⟩:=hy i v ev;⟨l,D,e1,S _ _ e3,e4⟩⟩
theorem FarsT.m {H:Hp}{p lf:j7}{n:Nat}{ts:List Tie}(h:FarsT H p lf n ts):FarsM H lf n ts:=by
 obtain⟨ys,e,ne,ly,hy⟩:=h
 exact⟨ys,e,ly,λ i v ev=>let ⟨l,D,e1,e2,e3,e4⟩:=hy i v ev;⟨l,D,e1,e3,e4⟩⟩
theorem FarsM.at {H:Hp}{lf:j7}{n:Nat}{ts:List Tie}(h:FarsM H lf n ts):∃ ys,H lf=some (.lst ys)/\∀ i,i<n->∃ l D,atI ys (i:Int)=some (.ref l)/\H l=some (.lst (D.map ov))/\FarsOf ts n i D/\∀ k,k<n->atI (D.map ov) (k:Int)=some (ov (Far.get D k)):=by
 obtain⟨ys,e,ly,hy⟩:=h
 refine⟨ys,e,λ i hi=>?_⟩
 obtain⟨l,D,e1,e2,F⟩:=hy i ys[i] (d6 (by left))
 refine⟨l,D,bO (uat _) (by rw[uc7,d6 (by left),e1]),e2,F,λ k hk=>bO (uat _) (by rw[uc7];exact jF (by have:=F.1;left))⟩
structure Clb (ts:List Tie)(n:Int)(ls:List (List Nat))(d:Int)(u v:Nat)(Du Dv:List (Option Int))(pre:List (List Int))(w a b:Nat)(Da Db:List (Option Int))(x:Int):Prop where
 cs:Cs ts n.toNat ls d pre.length w a b Da Db x
 sides:(Da=Du/\Db=Dv)\/(Da=Dv/\Db=Du)
 lim:∀ (i:Nat)(r:List Int),(pre++[[(w:Int),(a:Int),(b:Int),x]])[i]?=some r->∃ p a b x:Int,r=[p,a,b,x]/\x<=i*d
 rest:pre++clN ls (ls.length-pre.length) w a b Da Db x=clN ls ls.length u u v Du Dv 0
section
variable {n:Int}{ts:List Tie}{ls:List (List Nat)}{d x:Int}{u v w a b:Nat}{Du Dv Da Db:List (Option Int)}{pre:List (List Int)}
theorem Clb.first (ok:WebOk n ts)(lo:LevOk n.toNat ls)(fa:FarsOf ts n.toNat u Du)(fb:FarsOf ts n.toNat v Dv)(an:u<n.toNat)(bn:v<n.toNat)(ab:Far.get Du v=some d):Clb ts n ls d u v Du Dv [] u u v Du Dv 0:=by
 refine⟨Cs.start ok lo fa fb an bn ab,.inl ⟨rfl,rfl⟩,λ i r e=>?_,rfl⟩
 cases i with
 | zero=>cases e;exact⟨_,_,_,_,rfl,by simp⟩
 | succ i=>cases e
theorem Clb.lt (lo:LevOk n.toNat ls)(h:Clb ts n ls d u v Du Dv pre w a b Da Db x):pre.length<ls.length:=by
 have t:=(eY lo h.cs.wn).1
 have:=h.cs.tp
 left
theorem Clb.next (ok:WebOk n ts)(lo:LevOk n.toNat ls)(h:Clb ts n ls d u v Du Dv pre w a b Da Db x)(nb:bunB ls Db w=false){o:Option Nat}(pv:IsPiv ls (topN ls w+1) Db o):∃ p x',o=some p/\p<n.toNat/\Far.get Db p=some x'/\Clb ts n ls d u v Du Dv (pre++[[(w:Int),(a:Int),(b:Int),x]]) p b a Db Da x':=by
 obtain⟨p,x',rfl,ex,c'⟩:=h.cs.step ok lo nb pv
 have lt:=h.lt lo
 have le:(pre++[[(w:Int),(a:Int),(b:Int),x]]).length=pre.length+1:=by rw[j3,p7]
 refine⟨p,x',rfl,c'.wn,ex,by rw[le];exact c',h.sides.elim (λ ⟨e1,e2⟩=>.inr ⟨e2,e1⟩) (λ ⟨e1,e2⟩=>.inl ⟨e2,e1⟩),λ i r e=>?_,?_⟩
 ·by_cases hi:i<pre.length+1
  ·rw[r6 (by left)] at e
   exact h.lim i r e
  ·rw[p5 (by left)] at e
   have hi2:=(i8.mp e).1
   rw[p7] at hi2
   have ei:i=pre.length+1:=by left
   subst ei
   rw[le,ud1] at e
   cases e
   exact⟨_,_,_,_,rfl,c'.lim⟩
 ·rw[le,← h.rest]
  rw[show ls.length-pre.length=(ls.length-(pre.length+1))+1 by left,yG nb pv ex,ubg]
  rfl
theorem Clb.done (lo:LevOk n.toNat ls)(h:Clb ts n ls d u v Du Dv pre w a b Da Db x)(bd:bunB ls Db w=true):pre++[[(w:Int),(a:Int),(b:Int),x]]=clN ls ls.length u u v Du Dv 0/\RowsOk ls n.toNat d Du Dv (clN ls ls.length u u v Du Dv 0):=by
 have lt:=h.lt lo
 have e:pre++[[(w:Int),(a:Int),(b:Int),x]]=clN ls ls.length u u v Du Dv 0:=by
  rw[← h.rest,show ls.length-pre.length=(ls.length-(pre.length+1))+1 by left,yH bd]
 refine⟨e,?_⟩
 rw[← e]
 refine⟨by rw[j3,p7];left,h.lim,pre,w,_,_,_,rfl,h.cs.wn,?_⟩
 rcases h.sides with ⟨e1,e2⟩ | ⟨e1,e2⟩
 ·rw[← e1,← e2];exact⟨h.cs.bu,bd⟩
 ·rw[← e1,← e2];exact⟨bd,h.cs.bu⟩
end
theorem seqB {t u:TS}{D:Ends}{σ:L2.St}{H:Hp}(h:∀ N C M:L2.St->Hp->Prop,(∀ σ' H',D.nx σ' H'->N σ' H')->(∀ σ' H',D.ct σ' H'->C σ' H')->(∀ σ' H',u { D with nx:=N,ct:=C } σ' H'->M σ' H')->t { D with nx:=M,ct:=C } σ H):tSeq t u D σ H:=h D.nx D.ct (u D) (λ _ _ h=>h) (λ _ _ h=>h) λ _ _ h=>h
section
variable {K:a8}{J J':Hp}{ls:List (List Nat)}{n u v:Nat}{Du Dv:List (Option Int)}{r r1 r2:V}
theorem ClimbV.same (S:Same J J')(h:ClimbV K J ls n u v Du Dv r):ClimbV K J' ls n u v Du Dv r:=by
 rcases h with h | ⟨t,ys,d,e,ed,ht,ia,ro⟩
 ·exact .inl h
 ·exact .inr ⟨t,ys,d,e,ed,S _ _ ht,IsAll.same S _ ia,ro⟩
end
end L3
namespace PySem.SeqAt
open PySem.Spec PySem.MeetsSeq PySem.MeetsSeq2 PySem.MeetsSeq3 PySem.SeqRoads2
open AutoSeq1 (wpAny_loadPart')
end PySem.SeqAt
namespace L3
open PySem PySem.Spec PyProof.Rows L2
section
variable {X:Cx}{o e:ua9}{es:List ua9}{to:TE}{t:TA}{name:Str}{apos cpos:Pos}{id:String}{r:V->List V->Hp->VK->Prop}
end
def bk (hi:Option Int)(n j:Nat):Prop:=(hi=none/\j=0)\/(hi=some 0/\j=1/\1<=n)
section
variable {prog:m9}{w:uaf}{A:v7}{E:d7->d8->Prop}{s:d8}
end
section
variable {X:Cx}{e st:ua9}{te ts:TE}{lo hi:Option ua9}{th:TO}{pos p2:Pos}
end
def WayM (H:Hp)(ts:List Tie)(ks:List Nat)(a b:Nat)(v:V):Prop:=(v=.non/\Far.Dst (arcs ts ks) a b none)\/∃ t ws x,v=.ref t/\H t=some (.tup (natV ws))/\ws.length<=24/\Far.MinW (arcsB ts ks) a b ws/\Far.Tr (arcs ts ks) a ws b x/\Far.Dst (arcs ts ks) a b (some x)
theorem fU {n:Int}{ts:List Tie}{ks:List Nat}(ok:WebOk n ts)(ko:KeepOk ts.length ks){u v k:Nat}{l:Int}(h:(u,v,l,k)∈arcsB ts ks):tbN ts u v=some k:=by
 have h2:(u,v,l,k)∈arcsB ts (i6 ts.length):=by
  obtain⟨k',hk',m⟩:=arcsB_mem.mp h
  exact arcsB_mem.mpr ⟨k',o6.mpr (ko.2 k' hk'),m⟩
 have e:=zC ok (allOk ts) h2
 unfold tbN
 rw[← List.head?_filter,e];rfl
theorem yX {n:Int}{ts:List Tie}{ks:List Nat}(ok:WebOk n ts)(ko:KeepOk ts.length ks){a b:Nat}{ws S:List Nat}{x y:Int}(r:Far.Rt (arcsB ts ks) a ws S b x y):∀ k∈alongN ts ws,k∈ks:=λ k hk=>by
 unfold alongN at hk
 obtain⟨i,hi,rfl⟩:=v4.mp hk
 have hi:=o6.mp hi
 have hl:=r.len
 obtain⟨u,v,l,eu,ev,m⟩:=r.step (i:=i) (k:=S[i]'(by left)) (d6 _)
 rw[f8,eu,f8,ev]
 show (tbN ts u v).getD 0∈ks
 rw[fU ok ko m]
 exact (wI m).2
theorem WK.but {K:a8}{J J':Hp}{l:j7}{n:Int}{ts:List Tie}{ks:List Nat}{wv kv:V}{xs:List V}(wk:WK K J n ts ks wv kv)(b:But l J J')(e:J l=some (.lst xs)):WK K J' n ts ks wv kv :=
 ⟨Is.but b e _ (cI n ts) wk.1,wk.2.1,Is.but b e _ (cN ks) wk.2.2.1,wk.2.2.2⟩
def WaysL (J:Hp)(ts:List Tie)(ks:List Nat)(ys:List V):Prop:=∀ v∈ys,∃ t W a b,v=.ref t/\J t=some (.tup (natV W))/\W.length<=24/\Far.MinW (arcsB ts ks) a b W
theorem WaysL.but {J J':Hp}{l:j7}{ts:List Tie}{ks:List Nat}{ys xs:List V}(h:WaysL J ts ks ys)(b:But l J J')(e:J l=some (.lst xs)):WaysL J' ts ks ys:=λ v hv=>by
 obtain⟨t,W,a,b',e1,e2,r⟩:=h v hv
 exact⟨t,W,a,b',e1,b _ _ (λ z=>by rw[z,e] at e2;cases e2) e2,r⟩
theorem WaysL.same {J J':Hp}{ts:List Tie}{ks:List Nat}{ys:List V}(h:WaysL J ts ks ys)(s:Same J J'):WaysL J' ts ks ys:=λ v hv=>by
 obtain⟨t,W,a,b',e1,e2,r⟩:=h v hv
 exact⟨t,W,a,b',e1,s _ _ e2,r⟩
theorem WaysL.snoc {J:Hp}{ts:List Tie}{ks:List Nat}{ys:List V}{t:j7}{W:List Nat}{a b:Nat}(h:WaysL J ts ks ys)(e:J t=some (.tup (natV W)))(l:W.length<=24)(m:Far.MinW (arcsB ts ks) a b W):WaysL J ts ks (ys++[.ref t]):=λ v hv=>by
 rcases m5.mp hv with z | z
 ·exact h v z
 ·rw[j6.mp z];exact⟨t,W,a,b,rfl,e,l,m⟩
def WKL (K:a8)(H:Hp)(n:Int)(ts:List Tie)(ks:List Nat)(wv:V)(kp:j7):Prop:=Is K H (webD n ts) wv/\WebOk n ts/\H kp=some (.lst ((keepI ks).map V.int))/\KeepOk ts.length ks
theorem WKL.same {K:a8}{H H':Hp}{n:Int}{ts:List Tie}{ks:List Nat}{wv:V}{kp:j7}(h:WKL K H n ts ks wv kp)(s:Same H H'):WKL K H' n ts ks wv kp:=⟨Is.same s _ h.1,h.2.1,s _ _ h.2.2.1,h.2.2.2⟩
end L3
namespace Far
def chn (R:Nat->Nat->Prop):List Nat->Prop
 | []=>True
 | [_]=>True
 | a::b::r=>R a b/\chn R (b::r)
section
variable {R:Nat->Nat->Prop}
theorem cH:∀ {l m:List Nat}{x y:Nat},chn R (l++[x])->R x y->chn R (y::m)->chn R (l++[x]++y::m)
 | [],m,x,y,_,r,h=>⟨r,h⟩
 | [a],m,x,y,h1,r,h=>⟨h1.1,cH (l:=[]) (x:=x) (y:=y) h1.2 r h⟩
 | a::b::l,m,x,y,h1,r,h=>⟨h1.1,cH (l:=b::l) (x:=x) (y:=y) h1.2 r h⟩
theorem bX:∀ {l m:List Nat}{x:Nat},chn R (l++x::m)->chn R (l++[x])/\chn R (x::m)
 | [],m,x,h=>⟨trivial,h⟩
 | [a],m,x,h=>⟨⟨h.1,trivial⟩,h.2⟩
 | a::b::l,m,x,h=>⟨⟨h.1,(bX (l:=b::l) (x:=x) h.2).1⟩,(bX (l:=b::l) (x:=x) h.2).2⟩
theorem eQ (sy:∀ u v,R u v->R v u):∀ {l:List Nat},chn R l->chn R l.reverse
 | [],_=>trivial
 | [_],_=>trivial
 | a::b::r,h=>by
  have ih:=eQ sy h.2
  rw[ucl] at ih
  rw[ucl,ucl]
  exact cH (l:=r.reverse) (m:=[]) ih (sy _ _ h.1) trivial
theorem gH:∀ {l:List Nat}{i u v:Nat},chn R l->l[i]?=some u->l[i+1]?=some v->R u v
 | [],i,u,v,_,e,_=>by cases e
 | [a],i,u,v,_,_,e=>by cases e
 | a::b::r,0,u,v,h,e1,e2=>by cases e1;cases e2;exact h.1
 | a::b::r,i+1,u,v,h,e1,e2=>gH (l:=b::r) h.2 e1 e2
theorem Rt.chn {B:List Arc}{a b:Nat}{ws S:List Nat}{x y:Int}(hR:∀ u v l k,(u,v,l,k)∈B->R u v)(r:Rt B a ws S b x y):chn R ws:=by
 induction r with
 | one=>exact trivial
 | @snoc ws S u v x y l k r m nv ih =>
  obtain⟨q,e⟩:=r.foot
  rw[e] at ih ⊢
  exact cH (m:=[]) ih (hR _ _ _ _ m) trivial
def RingOf (ws:List Nat)(h:Nat)(tl:List Nat):Prop:=∃ p q,ws=p++h::q/\(tl=q++p\/tl=(q++p).reverse)
theorem RingOf.mem {ws tl:List Nat}{h:Nat}(r:RingOf ws h tl){x:Nat}:x∈h::tl↔x∈ws:=by
 obtain⟨p,q,e,t⟩:=r
 rw[e]
 rcases t with t | t
 ·rw[t];simp only [l7,m5];constructor
  ·rintro (z | z | z)
   ·exact .inr (.inl z)
   ·exact .inr (.inr z)
   ·exact .inl z
  ·rintro (z | z | z)
   ·exact .inr (.inr z)
   ·exact .inl z
   ·exact .inr (.inl z)
 ·rw[t];simp only [l7,m5,ued];constructor
  ·rintro (z | z | z)
   ·exact .inr (.inl z)
   ·exact .inr (.inr z)
   ·exact .inl z
  ·rintro (z | z | z)
   ·exact .inr (.inr z)
   ·exact .inl z
   ·exact .inr (.inl z)
theorem RingOf.len {ws tl:List Nat}{h:Nat}(r:RingOf ws h tl):tl.length+1=ws.length:=by
 obtain⟨p,q,e,t⟩:=r
 rw[e]
 rcases t with t | t
 ·rw[t];simp only [j3,uas];left
 ·rw[t];simp only [j3,uas,List.length_reverse];left
theorem RingOf.nodup {ws tl:List Nat}{h:Nat}(r:RingOf ws h tl)(nd:ws.Nodup):(h::tl).Nodup:=by
 obtain⟨p,q,e,t⟩:=r
 rw[e] at nd
 have n1:(h::(q++p)).Nodup:=by
  have:(h::q++p).Nodup:=(List.perm_append_comm.nodup_iff).mp nd
  simpa using this
 rcases t with t | t
 ·rw[t];exact n1
 ·rw[t]
  rw[r9] at n1 ⊢
  exact⟨λ z=>n1.1 (ued.mp z),(List.reverse_perm _).nodup_iff.mpr n1.2⟩
theorem RingOf.chn (sy:∀ u v,R u v->R v u){ws tl:List Nat}{h a b:Nat}{w1 w2:List Nat}(r:RingOf ws h tl)(c:chn R ws)(e1:ws=a::w1)(e2:ws=w2++[b])(l:R b a):Far.chn R (h::tl++[h]):=by
 obtain⟨p,q,e,t⟩:=r
 have key:Far.chn R (h::(q++p)++[h]):=by
  obtain⟨c1,c2⟩:=bX (l:=p) (x:=h) (m:=q) (by rw[← e];exact c)
  obtain⟨q2,eq⟩:∃ q2,h::q=q2++[b]:=by
   rcases ubz q with rfl | ⟨q',z,rfl⟩
   ·have:w2++[b]=p++[h]:=by rw[← e2,e]
    obtain⟨_,z⟩:=ucs this rfl
    cases z
    exact⟨[],rfl⟩
   ·have:w2++[b]=(p++h::q')++[z]:=by rw[← e2,e];simp
    obtain⟨_,y⟩:=ucs this rfl
    cases y
    exact⟨h::q',by simp⟩
  cases p with
  | nil =>
   have:a=h:=by rw[e] at e1;injection e1 with z _;exact z.symm
   subst this
   rw[ubi,eq]
   rw[eq] at c2
   exact cH (m:=[]) c2 l trivial
  | cons a' p' =>
   have:a=a':=by rw[e] at e1;injection e1 with z _;exact z.symm
   subst this
   have e3:h::(q++a::p')++[h]=(h::q)++(a::(p'++[h])):=by simp
   rw[e3,eq]
   rw[eq] at c2
   exact cH c2 l c1
 rcases t with t | t
 ·rw[t];exact key
 ·have e4:h::tl++[h]=(h::(q++p)++[h]).reverse:=by rw[t];simp
  rw[e4]
  exact eQ sy key
end
end Far
namespace L3
open PySem PySem.Spec PyProof.Rows L2
def adjK (ts:List Tie)(ks:List Nat)(u v:Nat):Prop:=∃ k,k∈ks/\tbN ts u v=some k
theorem zE (ts:List Tie)(u v:Nat):tbN ts u v=tbN ts v u:=by
 unfold tbN
 congr 1
 funext k
 unfold isTB
 rw[Int.min_comm,Int.max_comm]
theorem adjK.sym {ts:List Tie}{ks:List Nat}(u v:Nat)(h:adjK ts ks u v):adjK ts ks v u:=by
 obtain⟨k,hk,e⟩:=h
 exact⟨k,hk,by rw[zE];exact e⟩
def Turn (h:Nat)(tl:List Nat):Prop:=(∀ x∈tl,h<=x)/\∀ u v p q,tl=u::p->tl=q++[v]->u<=v
theorem jL (val:Nat->Int):∀ i,(firstMet val i).Nodup/\∀ k,k∈firstMet val i↔k∈(i6 i).map val
 | 0=>⟨by rw[firstMet_zero];exact uco,λ k=>by rw[firstMet_zero];simp⟩
 | i+1=>by
  obtain⟨h1,h2⟩:=jL val i
  rw[firstMet_succ,ueo,uab]
  unfold step_dedup
  by_cases c:(firstMet val i).any (λ y=>y==val i)=true
  ·rw[ugc c]
   obtain⟨y,hy,e⟩:=ufh.mp c
   have e':y=val i:=by simpa using e
   refine⟨h1,λ k=>?_⟩
   rw[h2 k,m5]
   refine⟨.inl,λ z=>z.elim id λ z=>?_⟩
   have:k=val i:=by simpa using z
   rw[this,← e',← h2 y];exact hy
  ·rw[ugd c]
   refine⟨uba.mpr ⟨h1,by simp,λ a ha b hb e=>c (ufh.mpr ⟨a,ha,?_⟩)⟩,λ k=>by rw[m5,m5,h2 k];simp⟩
   have:b=val i:=by simpa using hb
   simp [e,this]
def inB (n:Int)(ns:List Int):Bool:=ns.all λ i=>decide (0<=i)&&decide (i<n)
theorem zau {n:Int}{ts:List Tie}(ok:WebOk n ts){u v j k:Nat}(hj:j<ts.length)(hk:k<ts.length)(h1:isTB ts u v j=true)(h2:isTB ts u v k=true):j=k:=by
 unfold isTB at h1 h2
 obtain⟨a1,b1⟩:=(w8 _ _).mp h1
 obtain⟨a2,b2⟩:=(w8 _ _).mp h2
 have ea:(tieAt ts j).1=(tieAt ts k).1:=(uga a1).trans (uga a2).symm
 have eb:(tieAt ts j).2.1=(tieAt ts k).2.1:=(uga b1).trans (uga b2).symm
 clear a1 a2 b1 b2 h1 h2
 have pw:=uan.mp ok.rise
 have g:∀ {i:Nat}(hi:i<ts.length),ts[i]=tieAt ts i:=λ {i} hi=>by
  have:=(aY hi).1
  rw[d6 hi] at this
  exact t6 this
 rcases ubr j k with z | z | z
 ·have q:=pw j k hj hk z
  rw[g hj,g hk] at q
  unfold endLt at q
  left
 ·exact z
 ·have q:=pw k j hk hj z
  rw[g hj,g hk] at q
  unfold endLt at q
  left
section
variable {g:TG}{tt:TT}{te:TE}{own:List Str}{js:List Nat}{σ:L2.St}{H1:Hp}{Q:VK}
end
def RowV (lo hi:Nat)(J:Hp)(v:V):Prop:=∃ (p:j7)(ns:List Int),v=.ref p/\J p=some (.tup (ns.map V.int))/\lo<=ns.length/\ns.length<=hi
theorem RowV.tk {lo hi:Nat}{J J':Hp}{v:V}(k:TupKeep J J')(h:RowV lo hi J v):RowV lo hi J' v:=let ⟨p,ns,e,e1,r⟩:=h;⟨p,ns,e,k _ _ e1,r⟩
mutual
theorem Is.tk {K:a8}{H H':Hp}(e:TupKeep H H'):∀ (d:v9){v:V},tupD d=true->Is K H d v->Is K H' d v
 | .none,_,_,h=>h
 | .bool _,_,_,h=>h
 | .int _,_,_,h=>h
 | .str _,_,_,h=>h
 | .tuple ds,_,t,h=>let ⟨q,vs,q1,q2,q3⟩:=h;⟨q,vs,q1,e _ _ q2,IsAll.tk e ds t q3⟩
 | .list ds,_,t,h=>by cases t
 | .dict _,_,t,h=>by cases t
theorem IsAll.tk {K:a8}{H H':Hp}(e:TupKeep H H'):∀ (ds:List v9){vs:List V},tupAll ds=true->IsAll K H ds vs->IsAll K H' ds vs
 | [],_,_,h=>h
 | d::ds,_,t,h=>by
  have t':(tupD d&&tupAll ds)=true:=t
  rw[w8] at t'
  obtain⟨v,r,q1,q2,q3⟩:=h
  exact⟨v,r,q1,Is.tk e d t'.1 q2,IsAll.tk e ds t'.2 q3⟩
end
end L3
namespace Stb
open PySem PyProof.Rows
section
variable {prog:m9}{w:uaf}{A:v7}{E:d7->d8->Prop}{s:d8}
end
end Stb
namespace L3
open PySem PySem.Spec PyProof.Rows L2
section
variable {X:Cx}
end
end L3
namespace Far
variable {A:List (Nat × Nat × Int)}{s:Nat}
def Unit1 (A:List (Nat × Nat × Int)):Prop:=∀ u v l,(u,v,l)∈A->l=1
def AtK (A:List (Nat × Nat × Int))(s k v:Nat):Prop:=Walk A s v (k:Int)/\∀ x,Walk A s v x->(k:Int)<=x
theorem Unit1.pos (U:Unit1 A):Pos A:=λ u v l h=>by rw[U u v l h];exact uaj 1
theorem Walk.nat (U:Unit1 A){v:Nat}{x:Int}(h:Walk A s v x):∃ k:Nat,x=k:=⟨x.toNat,(uao (h.nonneg U.pos)).symm⟩
theorem AtK.one {j k v:Nat}(h:AtK A s j v)(h':AtK A s k v):j=k:=by
 have a:=h.2 _ h'.1
 have b:=h'.2 _ h.1
 left
theorem AtK.ex (U:Unit1 A){v:Nat}:∀ (k:Nat),Walk A s v (k:Int)->∃ j,j<=k/\AtK A s j v:=λ k=>by
 induction k using ucx with
 | _ k ih =>
  intro h
  by_cases c:∃ x,Walk A s v x/\x<(k:Int)
  ·obtain⟨x,hx,lt⟩:=c
   obtain⟨j,rfl⟩:=hx.nat U
   obtain⟨i,hi,a⟩:=ih j (by left) hx
   exact⟨i,by left,a⟩
  ·exact⟨k,i7 _,h,λ x hx=>by
    rcases Int.lt_or_le x k with z | z
    ·exact absurd ⟨x,hx,z⟩ c
    ·exact z⟩
theorem Walk.last (U:Unit1 A){v:Nat}{x:Int}(h:Walk A s v x):(v=s/\x=0)\/∃ u,Walk A s u (x-1)/\(u,v,1)∈A:=by
 cases h with
 | nil=>exact .inl ⟨rfl,rfl⟩
 | @snoc u v l x h m =>
  have e:=U _ _ _ m
  subst e
  exact .inr ⟨u,by rw[Int.add_sub_cancel];exact h,m⟩
theorem AtK.zero (U:Unit1 A){v:Nat}:AtK A s 0 v↔v=s:=by
 constructor
 ·intro h
  rcases h.1.last U with ⟨e,_⟩ | ⟨u,h',_⟩
  ·exact e
  ·have:=h'.nonneg U.pos
   have:((0:Nat):Int)=0:=rfl
   left
 ·rintro rfl
  exact⟨Walk.nil,λ x hx=>hx.nonneg U.pos⟩
theorem AtK.next (U:Unit1 A){k v:Nat}:AtK A s (k+1) v↔(∃ u,AtK A s k u/\(u,v,1)∈A)/\∀ j,j<=k->¬ AtK A s j v:=by
 constructor
 ·intro h
  refine⟨?_,λ j hj a=>by have:=a.one h;left⟩
  rcases h.1.last U with ⟨_,e⟩ | ⟨u,h',m⟩
  ·exfalso
   have:((k+1:Nat):Int)=0:=e
   left
  ·have e:((k+1:Nat):Int)-1=(k:Int):=by left
   rw[e] at h'
   refine⟨u,⟨h',λ x hx=>?_⟩,m⟩
   have:=h.2 _ (hx.snoc m)
   left
 ·rintro ⟨⟨u,a,m⟩,no⟩
  have h:=a.1.snoc m
  have e:(k:Int)+1=((k+1:Nat):Int):=by left
  rw[e] at h
  refine⟨h,λ x hx=>?_⟩
  obtain⟨y,rfl⟩:=hx.nat U
  obtain⟨j,hj,aj⟩:=AtK.ex U y hx
  rcases uch j (k+1) with z | z
  ·exact absurd aj (no j (by left))
  ·left
theorem AtK.dst {k v:Nat}(h:AtK A s k v):Dst A s v (some (k:Int)):=⟨λ y e=>(by cases e;exact h.1),λ L hL=>⟨_,rfl,h.2 L hL⟩⟩
theorem AtK.none (U:Unit1 A){v:Nat}(h:∀ k,¬ AtK A s k v):Dst A s v Option.none:=by
 refine⟨λ y e=>(by cases e),λ L hL=>?_⟩
 obtain⟨k,rfl⟩:=hL.nat U
 obtain⟨j,_,a⟩:=AtK.ex U k hL
 exact absurd a (h j)
theorem AtK.chain (U:Unit1 A):∀ {k v:Nat},AtK A s k v->∃ us:List Nat,us.length=k+1/\us.Nodup/\∀ u∈us,∃ j,j<=k/\AtK A s j u
 | 0,v,h=>⟨[v],rfl,by simp,λ u hu=>by rw[j6.mp hu];exact⟨0,i7 _,h⟩⟩
 | k+1,v,h=>by
  obtain⟨⟨u,a,_⟩,_⟩:=(AtK.next U).mp h
  obtain⟨us,h1,h2,h3⟩:=AtK.chain U a
  refine⟨v::us,by simp [h1],r9.mpr ⟨λ m=>?_,h2⟩,λ w hw=>?_⟩
  ·obtain⟨j,hj,aj⟩:=h3 v m
   have:=aj.one h
   left
  ·rcases l7.mp hw with rfl | hw
   ·exact⟨k+1,i7 _,h⟩
   ·obtain⟨j,hj,aj⟩:=h3 w hw
    exact⟨j,by left,aj⟩
structure Bfs (A:List (Nat × Nat × Int))(s i:Nat)(D:Nat->Option Nat)(ring:List Nat):Prop where
 found:∀ v d,D v=some d↔AtK A s d v/\d<i
 ring:∀ v,v∈ring↔AtK A s i v
theorem Bfs.start (U:Unit1 A):Bfs A s 0 (λ _=>none) [s]:=⟨λ v d=>by simp,λ v=>by rw[AtK.zero U];simp⟩
theorem Bfs.step (U:Unit1 A){i:Nat}{D D':Nat->Option Nat}{ring ring':List Nat}(b:Bfs A s i D ring)(hD:∀ v,D' v=if v∈ring then some i else D v)(hr:∀ c,c∈ring'↔(∃ u,u∈ring/\(u,c,1)∈A)/\D' c=none):Bfs A s (i+1) D' ring':=by
 have fd:∀ v d,D' v=some d↔AtK A s d v/\d<i+1:=λ v d=>by
  rw[hD v]
  by_cases m:v∈ring
  ·rw[ugc m]
   have a:=(b.ring v).mp m
   constructor
   ·intro e;cases e;exact⟨a,ueh _⟩
   ·rintro ⟨a',_⟩;rw[a'.one a]
  ·rw[ugd m,b.found v d]
   constructor
   ·rintro ⟨a,lt⟩;exact⟨a,by left⟩
   ·rintro ⟨a,lt⟩
    refine⟨a,?_⟩
    rcases uch d i with z | z
    ·exact z
    ·have e:d=i:=by left
     subst e
     exact absurd ((b.ring v).mpr a) m
 refine⟨fd,λ c=>?_⟩
 rw[hr c,AtK.next U]
 have e1:(∃ u,u∈ring/\(u,c,1)∈A)↔∃ u,AtK A s i u/\(u,c,1)∈A:=⟨λ ⟨u,m,e⟩=>⟨u,(b.ring u).mp m,e⟩,λ ⟨u,m,e⟩=>⟨u,(b.ring u).mpr m,e⟩⟩
 have e2:D' c=none↔∀ j,j<=i->¬ AtK A s j c:=by
  constructor
  ·intro e j hj a
   have:=(fd c j).mpr ⟨a,by left⟩
   rw[e] at this;cases this
  ·intro h
   cases e:D' c with
   | none=>rfl
   | some d =>
    have:=(fd c d).mp e
    exact absurd this.1 (h d (by left))
 rw[e1,e2]
end Far
namespace Lr
open Far (chn cH bX eQ gH RingOf)
section
variable {R:Nat->Nat->Prop}
theorem mU {R':Nat->Nat->Prop}(h:∀ u v,R u v->R' u v):∀ {l:List Nat},chn R l->chn R' l
 | [],_=>trivial
 | [_],_=>trivial
 | _::_::_,c=>⟨h _ _ c.1,mU h c.2⟩
structure Rg (R:Nat->Nat->Prop)(h:Nat)(tl:List Nat):Prop where
 len:2<=tl.length
 nd:(h::tl).Nodup
 ch:chn R (h::tl++[h])
def Cano (h:Nat)(tl:List Nat):Prop:=(∀ v∈tl,h<v)/\∃ x m y,tl=x::(m++[y])/\x<y
theorem fK {tl:List Nat}(h:2<=tl.length):∃ x m y,tl=x::(m++[y]):=by
 match tl,h with
 | x::y::r,_ =>
  rcases ubz (y::r) with e | ⟨m,z,e⟩
  ·cases e
  ·exact⟨x,m,z,by rw[e,ues]⟩
theorem mF:∀ {l:List Nat},l≠[]->∃ m∈l,∀ v∈l,m<=v
 | [],h=>absurd rfl h
 | [a],_=>⟨a,i0,λ v hv=>by rw[j6.mp hv];exact i7 _⟩
 | a::b::r,_=>by
  obtain⟨m,hm,h⟩:=mF (l:=b::r) (by simp)
  by_cases c:a<=m
  ·refine⟨a,i0,λ v hv=>?_⟩
   rcases l7.mp hv with z | z
   ·rw[z];exact i7 _
   ·exact w6 c (h v z)
  ·refine⟨m,i9 _ hm,λ v hv=>?_⟩
   rcases l7.mp hv with z | z
   ·rw[z];left
   ·exact h v z
theorem Rg.turn (sy:∀ u v,R u v->R v u){a:Nat}{w:List Nat}(r:Rg R a w){h:Nat}{tl:List Nat}(o:RingOf (a::w) h tl):Rg R h tl:=by
 obtain⟨x,m,y,e⟩:=fK r.len
 have c:=r.ch
 have c0:chn R (a::w):=(bX (l:=a::w) (m:=[]) (x:=a) c |>.1 |> λ _=>by
  rcases ubz w with z | ⟨w',z,ez⟩
  ·rw[z];trivial
  ·rw[ez,ues] at c ⊢
   have:=(bX (l:=a::w') (x:=z) (m:=[a]) (by simpa using c)).1
   simpa using this)
 have cl:R y a:=by
  rw[e] at c
  have:=(bX (l:=a::x::m) (x:=y) (m:=[a]) (by simpa using c)).2
  exact this.1
 refine⟨?_,o.nodup r.nd,o.chn sy c0 (a:=a) (b:=y) (w1:=w) (w2:=a::x::m) rfl (by rw[e];simp) cl⟩
 have:=o.len
 have:=r.len
 simp at *
 left
theorem Rg.cano (sy:∀ u v,R u v->R v u){a:Nat}{w:List Nat}(r:Rg R a w):∃ h tl,Rg R h tl/\Cano h tl/\tl.length=w.length/\∀ v,v∈h::tl↔v∈a::w:=by
 obtain⟨h,hm,hl⟩:=mF (l:=a::w) (by simp)
 obtain⟨p,q,e⟩:=ue6 hm
 have fin:∀ tl,RingOf (a::w) h tl->(∀ v∈tl,h<v)/\tl.length=w.length/\∀ v,v∈h::tl↔v∈a::w:=λ tl o=>by
  have nd:=o.nodup r.nd
  refine⟨λ v hv=>?_,?_,λ v=>o.mem⟩
  ·have:=hl v (o.mem.mp (i9 _ hv))
   have ne:h≠v:=λ z=>(r9.mp nd).1 (z ▸ hv)
   left
  ·have:=o.len
   simp at this;left
 have o1:RingOf (a::w) h (q++p):=⟨p,q,e,.inl rfl⟩
 have o2:RingOf (a::w) h (q++p).reverse:=⟨p,q,e,.inr rfl⟩
 have r1:=r.turn sy o1
 obtain⟨x,m,y,e1⟩:=fK r1.len
 have ne:x≠y:=λ z=>by
  have nd:=(r9.mp r1.nd).2
  rw[e1] at nd
  exact (r9.mp nd).1 (by rw[z];simp)
 obtain⟨f1,f2,f3⟩:=fin _ o1
 obtain⟨g1,g2,g3⟩:=fin _ o2
 by_cases lt:x<y
 ·exact⟨h,_,r1,⟨f1,x,m,y,e1,lt⟩,f2,f3⟩
 ·refine⟨h,_,r.turn sy o2,⟨g1,y,m.reverse,x,?_,by left⟩,g2,g3⟩
  rw[e1];simp
theorem mV:∀ {l m:List Nat},chn R (l++m)->chn R l
 | [],_,_=>trivial
 | [_],_,_=>trivial
 | a::b::l,m,h=>⟨h.1,mV (l:=b::l) h.2⟩
def stepW (rows:Nat->List Nat)(w:List Nat):List (List Nat):=((rows (w.getLast?.getD 0)).filter λ o=>decide (w.headD 0<o)&&!decide (o∈w)).map λ o=>w++[o]
def ways (rows:Nat->List Nat)(n:Nat):Nat->List (List Nat)
 | 0=>(i6 n).map λ v=>[v]
 | s+1=>(ways rows n s).flatMap (stepW rows)
structure PW (R:Nat->Nat->Prop)(n:Nat)(w:List Nat):Prop where
 ne:w≠[]
 nd:w.Nodup
 ch:chn R w
 lt:∀ v∈w,v<n
 up:∀ h t,w=h::t->∀ v∈t,h<v
theorem tW {w:List Nat}(h:w≠[]):∃ p x,w=p++[x]:=by
 rcases ubz w with z | ⟨p,x,e⟩
 ·exact absurd z h
 ·exact⟨p,x,by rw[e,ues]⟩
section
variable {rows:Nat->List Nat}{n:Nat}
theorem PW.init {w:List Nat}{o:Nat}(hw:w≠[])(h:PW R n (w++[o])):PW R n w :=
 ⟨hw,(uba.mp h.nd).1,mV h.ch,λ v hv=>h.lt v (u4 _ hv),λ a b e v hv=>h.up a (b++[o]) (by rw[e];rfl) v (u4 _ hv)⟩
end
end
end Lr
namespace Lr
open Far (chn cH bX eQ gH RingOf)
def lle:List Nat->List Nat->Prop
 | [],_=>True
 | _::_,[]=>False
 | a::l,b::m=>a<b\/(a=b/\lle l m)
theorem lZ:∀ {l m:List Nat}{x y:Nat},l.length=m.length->lle (l++[x]) (m++[y])->lle l m
 | [],_,_,_,_,_=>trivial
 | a::l,[],_,_,e,_=>by cases e
 | a::l,b::m,x,y,e,h=>h.imp id λ z=>⟨z.1,lZ (by simpa using e) z.2⟩
section
variable {R:Nat->Nat->Prop}
structure Sh (R:Nat->Nat->Prop)(z v:Nat)(l:List Nat):Prop where
 ch:chn R (v::l)
 last:(v::l).getLast?=some z
 min:∀ l',chn R (v::l')->(v::l').getLast?=some z->l.length<=l'.length
theorem gU {u v:Nat}{l:List Nat}:(v::u::l).getLast?=(u::l).getLast?:=by simp
theorem Sh.tail {z v u:Nat}{l:List Nat}(h:Sh R z v (u::l)):Sh R z u l :=
 ⟨h.ch.2,by rw[← gU (v:=v)];exact h.last,λ l' c e=>by
  have:=h.min (u::l') ⟨h.ch.1,c⟩ (by rw[gU];exact e)
  simpa using this⟩
theorem Sh.nodup {z:Nat}:∀ {l:List Nat}{v:Nat},Sh R z v l->(v::l).Nodup
 | [],v,_=>by simp
 | u::l,v,h=>by
  refine r9.mpr ⟨λ m=>?_,h.tail.nodup⟩
  obtain⟨p,q,e⟩:=ue6 m
  have c:=h.ch
  have la:=h.last
  rw[e] at c la
  have c2:chn R (v::q):=(bX (l:=v::p) (x:=v) (m:=q) (by simpa using c)).2
  have l2:(v::q).getLast?=some z:=by
   rw[← la,← List.cons_append,List.getLast?_append]
   have:(v::q).getLast?=some ((v::q).getLast (by simp)):=List.getLast?_eq_some_getLast (by simp)
   rw[this];rfl
  have:=h.min q c2 l2
  have le:=congrArg List.length e
  simp only [j3,uas] at this le
  left
def Ds (R:Nat->Nat->Prop)(z:Nat)(D:Nat->Option Nat):Prop:=∀ v,(∀ m,D v=some m->∃ l,chn R (v::l)/\(v::l).getLast?=some z/\l.length=m)/\∀ l,chn R (v::l)->(v::l).getLast?=some z->∃ m,D v=some m/\m<=l.length
theorem Ds.sh {z:Nat}{D:Nat->Option Nat}(d:Ds R z D){v m:Nat}{l:List Nat}(e:D v=some m)(c:chn R (v::l))(la:(v::l).getLast?=some z):Sh R z v l↔l.length=m:=by
 constructor
 ·intro h
  obtain⟨l',c',e',len⟩:=(d v).1 m e
  have h1:=h.min l' c' e'
  obtain⟨m',em,le⟩:=(d v).2 l c la
  rw[e] at em
  cases em
  left
 ·intro h
  refine⟨c,la,λ l' c' e'=>?_⟩
  obtain⟨m',em,le⟩:=(d v).2 l' c' e'
  rw[e] at em
  cases em
  left
def Rm (R:Nat->Nat->Prop)(a b u v:Nat):Prop:=R u v/\¬ (u=a/\v=b)/\¬ (u=b/\v=a)
theorem Rm.sy (sy:∀ u v,R u v->R v u){a b:Nat}(u v:Nat)(h:Rm R a b u v):Rm R a b v u:=⟨sy _ _ h.1,λ z=>h.2.2 ⟨z.2,z.1⟩,λ z=>h.2.1 ⟨z.2,z.1⟩⟩
theorem oG {R':Nat->Nat->Prop}{z:Nat}:∀ {l:List Nat},(∀ u v,u∈l->R u v->R' u v)->chn R (l++[z])->chn R' (l++[z])
 | [],_,_=>trivial
 | [a],h,c=>⟨h _ _ i0 c.1,trivial⟩
 | a::b::l,h,c=>⟨h _ _ i0 c.1,oG (l:=b::l) (λ u v hu=>h u v (i9 _ hu)) c.2⟩
theorem Rg.round {h x:Nat}{t:List Nat}(r:Rg R h (x::t)):chn (Rm R h x) (x::(t++[h]))/\(x::(t++[h])).getLast?=some h/\R h x:=by
 have nd:=r.nd
 have c:=r.ch
 have hx:h∉x::t:=(r9.mp nd).1
 have xt:x∉t:=(r9.mp (r9.mp nd).2).1
 refine⟨?_,by rw[← List.cons_append,List.getLast?_append];simp,c.1⟩
 have len:=r.len
 match t,len with
 | y::t',_ =>
  have c2:chn R (x::y::t'++[h]):=c.2
  refine⟨⟨c2.1,λ z=>hx (by rw[← z.1];simp),λ z=>hx (by rw[← z.2];simp)⟩,?_⟩
  refine oG (l:=y::t') (λ u v hu ruv=>⟨ruv,λ z=>hx (by rw[← z.1];exact i9 _ hu),λ z=>xt (by rw[← z.1];exact hu)⟩) c2.2
theorem Sh.ring {a b:Nat}{l:List Nat}(ab:R a b)(ne:a≠b)(s:Sh (Rm R a b) a b l):∃ m,l=m++[a]/\Rg R a (b::m):=by
 have la:=s.last
 cases l with
 | nil=>exact absurd (by simpa using la.symm) ne
 | cons y t =>
  obtain⟨m,x,e⟩:=tW (w:=y::t) (by simp)
  have ex:x=a:=by
   rw[gU,e] at la
   simpa using la
  subst ex
  refine⟨m,e,?_⟩
  have c:=s.ch
  rw[e] at c
  have nd:=s.nodup
  rw[e] at nd
  refine⟨?_,?_,?_⟩
  ·cases m with
   | nil=>exact absurd ⟨rfl,rfl⟩ c.1.2.2
   | cons _ _=>simp
  ·have p:(x::b::m).Perm (b::(m++[x])):=(List.perm_append_singleton x (b::m)).symm.trans (by simp)
   exact p.nodup_iff.mpr nd
  ·exact⟨ab,mU (λ u v h=>h.1) c⟩
end
end Lr
namespace Lr
open Far (chn cH bX eQ gH RingOf)
structure Ties (R:Nat->Nat->Prop)(ks:List Nat)(ends:Nat->Nat × Nat):Prop where
 sy:∀ u v,R u v->R v u
 of:∀ k∈ks,(ends k).1<(ends k).2/\R (ends k).1 (ends k).2
 to:∀ u v,R u v->u<v->∃ k∈ks,ends k=(u,v)
 up:∀ k∈ks,∀ j∈ks,k<=j->(ends k).1<(ends j).1\/((ends k).1=(ends j).1/\(ends k).2<=(ends j).2)
section
variable {R:Nat->Nat->Prop}{ks:List Nat}{ends:Nat->Nat × Nat}
theorem Ties.first (T:Ties R ks ends){h:Nat}{tl:List Nat}(r:Rg R h tl)(up:∀ v∈tl,h<v):∃ k∈ks,∃ x t,tl=x::t/\ends k=(h,x)/\chn (Rm R (ends k).1 (ends k).2) ((ends k).2::(t++[h]))/\((ends k).2::(t++[h])).getLast?=some (ends k).1/\(t++[h]).length=tl.length:=by
 obtain⟨x,m,y,e⟩:=fK r.len
 rw[e] at r
 obtain⟨c,la,rx⟩:=r.round
 obtain⟨k,hk,ek⟩:=T.to h x rx (up x (by rw[e];exact i0))
 refine⟨k,hk,x,m++[y],e,ek,?_,?_,?_⟩
 ·rw[ek];exact c
 ·rw[ek];exact la
 ·rw[e];simp
theorem Ties.none (T:Ties R ks ends)(hno:∀ k∈ks,∀ l,chn (Rm R (ends k).1 (ends k).2) ((ends k).2::l)->((ends k).2::l).getLast?=some (ends k).1->False)(h:Nat)(tl:List Nat):¬ Rg R h tl:=λ r=>by
 obtain⟨h',tl',r',cn,_⟩:=r.cano T.sy
 obtain⟨k,hk,x,t,_,_,c,la,_⟩:=T.first r' cn.1
 exact hno k hk _ c la
theorem Ties.least (T:Ties R ks ends){k0:Nat}(hk0:k0∈ks){l:List Nat}(sh:Sh (Rm R (ends k0).1 (ends k0).2) (ends k0).1 (ends k0).2 l)(lx:∀ l',Sh (Rm R (ends k0).1 (ends k0).2) (ends k0).1 (ends k0).2 l'->lle l l')
  (hm:∀ k∈ks,∀ l',chn (Rm R (ends k).1 (ends k).2) ((ends k).2::l')->((ends k).2::l').getLast?=some (ends k).1->l.length<=l'.length/\(k<k0->l.length<l'.length)) :
  ∃ m,l=m++[(ends k0).1]/\Rg R (ends k0).1 ((ends k0).2::m)/\Cano (ends k0).1 ((ends k0).2::m)/\(∀ h tl,Rg R h tl->((ends k0).2::m).length<=tl.length)/\∀ h tl,Rg R h tl->Cano h tl->tl.length=((ends k0).2::m).length->lle ((ends k0).1::(ends k0).2::m) (h::tl):=by
 obtain⟨ab,rab⟩:=T.of k0 hk0
 obtain⟨m,em,rg⟩:=sh.ring rab (o0 ab)
 have ll:l.length=((ends k0).2::m).length:=by rw[em];simp
 have low:∀ h tl,Rg R h tl->(∀ v∈tl,h<v)->l.length<=tl.length/\(tl.length=l.length->∃ x t,tl=x::t/\((ends k0).1<h\/((ends k0).1=h/\(ends k0).2<=x))/\(x=(ends k0).2->h=(ends k0).1->Sh (Rm R (ends k0).1 (ends k0).2) (ends k0).1 (ends k0).2 (t++[h]))):=λ h tl r up=>by
  obtain⟨k,hk,x,t,e,ek,c,la,len⟩:=T.first r up
  have q:=hm k hk _ c la
  rw[len] at q
  refine⟨q.1,λ el=>⟨x,t,e,?_,λ ex eh=>?_⟩⟩
  ·have le:k0<=k:=Nat.le_of_not_lt λ z=>by have:=q.2 z;left
   have:=T.up k0 hk0 k hk le
   rw[ek] at this
   exact this
  ·rw[ek] at c la
   simp only at c la
   rw[ex,eh] at c la
   refine⟨?_,?_,λ l' c' e'=>?_⟩
   ·rw[eh];exact c
   ·rw[eh];exact la
   ·have:=(hm k0 hk0 l' c' e').1
    rw[len,el];exact this
 have least:∀ v∈(ends k0).2::m,(ends k0).1<v:=by
  obtain⟨h',tl',r',cn,len,mem⟩:=rg.cano T.sy
  obtain⟨_,q⟩:=low h' tl' r' cn.1
  obtain⟨x,t,e,o,_⟩:=q (by rw[len,ll])
  have ha:(ends k0).1∈h'::tl':=(mem _).mpr i0
  have hle:h'<=(ends k0).1:=by
   rcases l7.mp ha with z | z
   ·rw[z];exact i7 _
   ·exact ud2 (cn.1 _ z)
  have eh:h'=(ends k0).1:=by left
  intro v hv
  have hv':v∈h'::tl':=(mem v).mpr (i9 _ hv)
  rcases l7.mp hv' with z | z
  ·exfalso
   rw[eh] at z
   exact (r9.mp rg.nd).1 (z ▸ hv)
  ·rw[← eh];exact cn.1 v z
 obtain⟨x,m',y,e⟩:=fK rg.len
 have ex:x=(ends k0).2:=by injection e with e _;exact e.symm
 have r2:Rg R (ends k0).1 ((ends k0).2::m).reverse:=rg.turn T.sy ⟨[],(ends k0).2::m,rfl,.inr (by simp)⟩
 have cano:Cano (ends k0).1 ((ends k0).2::m):=by
  refine⟨least,x,m',y,e,?_⟩
  obtain⟨_,q⟩:=low _ _ r2 λ v hv=>least v (ued.mp hv)
  obtain⟨x2,t,e2,o,_⟩:=q (by rw[List.length_reverse,ll])
  have ey:x2=y:=by
   rw[e] at e2
   simp at e2
   exact e2.1.symm
  have nd:=(r9.mp rg.nd).2
  rw[e] at nd
  have ne:x≠y:=λ z=>(r9.mp nd).1 (by rw[z];simp)
  left
 refine⟨m,em,rg,cano,λ h tl r=>?_,λ h tl r cn el=>?_⟩
 ·obtain⟨h',tl',r',cn,len,_⟩:=r.cano T.sy
  have:=(low h' tl' r' cn.1).1
  left
 ·obtain⟨_,q⟩:=low h tl r cn.1
  obtain⟨x,t,e,o,s2⟩:=q (by left)
  rcases o with o | ⟨o1,o2⟩
  ·exact .inl o
  ·refine .inr ⟨o1,?_⟩
   rw[e]
   rcases Nat.lt_or_eq_of_le o2 with z | z
   ·exact .inl z
   ·refine .inr ⟨z,?_⟩
    have:=lx _ (s2 z.symm o1.symm)
    rw[em] at this
    refine lZ ?_ this
    rw[e] at el
    simpa using el.symm
end
section
variable {R:Nat->Nat->Prop}{rows:Nat->List Nat}{n:Nat}
end
end Lr
namespace L3
open PySem PySem.Spec PyProof.Rows L2
section
variable {own:List Str}{js:List Nat}{g:TG}{te:TE}{σ:L2.St}{Q:VK}{H1:Hp}
end
structure Bes (H:Hp)(l:j7)(as:List j7)(rows:Nat->List V):Prop where
 top:H l=some (.lst (as.map V.ref))
 nd:as.Nodup
 own:l∉as
 row:∀ i a,as[i]?=some a->H a=some (.lst (rows i))
theorem Bes.new {H:Hp}{l:j7}{as:List j7}(h:H l=some (.lst (as.map V.ref)))(nd:as.Nodup)(no:l∉as)(r:∀ a∈as,H a=some (.lst [])):Bes H l as λ _=>[]:=⟨h,nd,no,λ _ a e=>r a (m3 e)⟩
theorem Bes.same {H H':Hp}{l:j7}{as:List j7}{rows:Nat->List V}(b:Bes H l as rows)(S:Same H H'):Bes H' l as rows:=⟨S _ _ b.top,b.nd,b.own,λ i a e=>S _ _ (b.row i a e)⟩
theorem Bes.ix {H:Hp}{l:j7}{as:List j7}{rows:Nat->List V}(b:Bes H l as rows){i:Nat}(h:i<as.length):∃ a,as[i]?=some a/\(as.map V.ref)[i]?=some (.ref a)/\H a=some (.lst (rows i)):=by
 refine⟨as[i],d6 h,by rw[o7,d6 h];rfl,b.row i _ (d6 h)⟩
theorem Bes.put {H H':Hp}{l:j7}{as:List j7}{rows:Nat->List V}(b:Bes H l as rows){i:Nat}{a:j7}{xs:List V}(ha:as[i]?=some a)(B:But a H H')(e:H' a=some (.lst xs)):Bes H' l as λ j=>if j=i then xs else rows j:=by
 have nl:l≠a:=λ z=>b.own (z ▸ m3 ha)
 refine⟨B _ _ nl b.top,b.nd,b.own,λ j c hc=>?_⟩
 by_cases z:j=i
 ·subst z
  rw[hc] at ha;cases ha
  rw[ugc rfl];exact e
 ·rw[ugd z]
  refine B _ _ (λ x=>z ?_) (b.row j c hc)
  subst x
  obtain⟨h1,e1⟩:=i8.mp hc
  obtain⟨h2,e2⟩:=i8.mp ha
  have pw:=uan.mp b.nd
  rcases ubr j i with z | z | z
  ·exact absurd (e1.trans e2.symm) (pw j i h1 h2 z)
  ·exact z
  ·exact absurd (e2.trans e1.symm) (pw i j h2 h1 z)
theorem wQ {n:Int}{ts:List Tie}(ok:WebOk n ts){k k' a b:Nat}{l l':Int}(hk:k<ts.length)(hk':k'<ts.length)(h:(a,b,l)∈arcs2 (tieAt ts k))(h':(a,b,l')∈arcs2 (tieAt ts k')):k=k':=by
 have t1:=ok.tie _ (aY hk).2
 have t2:=ok.tie _ (aY hk').2
 have E:=λ z=>zah t1.1 t1.2.1 t2.1 t2.2.1 z
 have e:(tieAt ts k).1=(tieAt ts k').1/\(tieAt ts k).2.1=(tieAt ts k').2.1:=by
  rcases arcs2_mem.mp h with e | e <;> rcases arcs2_mem.mp h' with e' | e' <;> injection e with e1 e2 <;> injection e2 with e2 _ <;> injection e' with e3 e4 <;> injection e4 with e4 _
  ·exact E (.inl ⟨e1.symm.trans e3,e2.symm.trans e4⟩)
  ·exact E (.inr ⟨e1.symm.trans e3,e2.symm.trans e4⟩)
  ·exact E (.inr ⟨e2.symm.trans e4,e1.symm.trans e3⟩)
  ·exact E (.inl ⟨e2.symm.trans e4,e1.symm.trans e3⟩)
 exact lJ ok hk hk' e.1 e.2
def Uniq (ts:List Tie)(ks:List Nat)(j m:Nat):Prop:=∃ cs:List Nat,cs.Nodup/\cs.length=m/\∀ c∈cs,∃ k∈ks,∃ l,(j,c,l)∈arcs2 (tieAt ts k)
theorem Uniq.nil {ts:List Tie}{ks:List Nat}{j:Nat}:Uniq ts ks j 0:=⟨[],uco,rfl,λ c h=>by cases h⟩
theorem Uniq.same {ts:List Tie}{ks ks':List Nat}{j m:Nat}(h:Uniq ts ks j m)(s:∀ k∈ks,k∈ks'):Uniq ts ks' j m:=let ⟨cs,h1,h2,h3⟩:=h;⟨cs,h1,h2,λ c hc=>let ⟨k,hk,r⟩:=h3 c hc;⟨k,s k hk,r⟩⟩
theorem Uniq.more {n:Int}{ts:List Tie}{ks:List Nat}{j m c k:Nat}{l:Int}(ok:WebOk n ts)(ko:∀ k∈ks,k<ts.length)(hk:k<ts.length)(nk:k∉ks)(h:Uniq ts ks j m)(e:(j,c,l)∈arcs2 (tieAt ts k)):Uniq ts (ks++[k]) j (m+1):=by
 obtain⟨cs,h1,h2,h3⟩:=h
 have nc:c∉cs:=λ z=>by
  obtain⟨k',hk',l',e'⟩:=h3 c z
  exact nk (wQ ok hk (ko k' hk') e e' ▸ hk')
 refine⟨cs++[c],uba.mpr ⟨h1,(by simp),λ a ha b hb x=>?_⟩,by rw[j3,h2];rfl,λ d hd=>?_⟩
 ·have:b=c:=by simpa using hb
  subst this;subst x;exact nc ha
 ·rcases m5.mp hd with z | z
  ·obtain⟨k',hk',r⟩:=h3 d z
   exact⟨k',u4 _ hk',r⟩
  ·rw[j6.mp z]
   exact⟨k,l8 _ i0,l,e⟩
theorem Uniq.few {n:Int}{ts:List Tie}{ks:List Nat}{j m:Nat}(ok:WebOk n ts)(ko:KeepOk ts.length ks)(h:Uniq ts ks j m):m<=n.toNat:=by
 obtain⟨cs,h1,h2,h3⟩:=h
 rw[← h2]
 exact Peel.gT _ cs h1 λ c hc=>by
  obtain⟨k,hk,l,e⟩:=h3 c hc
  exact (oK ok ko _ _ _ (arcs_mem.mpr ⟨k,hk,e⟩)).2
section
variable {X:Cx}
end
def Adj (ts:List Tie)(ks:List Nat)(u v:Nat):Prop:=∃ k∈ks,(u,v,(tieAt ts k).2.2)∈arcs2 (tieAt ts k)
def en (ts:List Tie)(k:Nat):Nat × Nat:=((tieAt ts k).1.toNat,(tieAt ts k).2.1.toNat)
section
variable {n:Int}{ts:List Tie}{ks:List Nat}{u v k:Nat}
end
theorem dZ {K:a8}{H:Hp}{p:j7}{ks:List Nat}(h:H p=some (.tup (natV ks))):Is K H (keepD ks) (.ref p):=⟨p,_,rfl,h,by rw[bH];exact IsAll.ints _⟩
def IsLR (ts:List Tie)(ks:List Nat)(h:Nat)(tl:List Nat):Prop:=Lr.Rg (Adj ts ks) h tl/\Lr.Cano h tl/\(∀ h' tl',Lr.Rg (Adj ts ks) h' tl'->tl.length<=tl'.length)/\∀ h' tl',Lr.Rg (Adj ts ks) h' tl'->Lr.Cano h' tl'->tl'.length=tl.length->Lr.lle (h::tl) (h'::tl')
theorem mC:∀ {l m:List Nat},l.length=m.length->Lr.lle l m->Lr.lle m l->l=m
 | [],[],_,_,_=>rfl
 | [],_::_,e,_,_=>by cases e
 | _::_,[],e,_,_=>by cases e
 | a::l,b::m,e,h1,h2=>by
  rcases h1 with z | ⟨z,h1⟩
  ·rcases h2 with y | ⟨y,_⟩ <;> left
  ·subst z
   rcases h2 with y | ⟨_,h2⟩
   ·left
   ·rw[mC (by simpa using e) h1 h2]
theorem IsLR.one {ts:List Tie}{ks:List Nat}{h h':Nat}{tl tl':List Nat}(a:IsLR ts ks h tl)(b:IsLR ts ks h' tl'):h::tl=h'::tl':=by
 have l1:=a.2.2.1 _ _ b.1
 have l2:=b.2.2.1 _ _ a.1
 have e:tl.length=tl'.length:=Nat.le_antisymm l1 l2
 exact mC (by simp [e]) (a.2.2.2 _ _ b.1 b.2.1 e.symm) (b.2.2.2 _ _ a.1 a.2.1 e)
section
variable {J:It}{g:TG}{tt:TT}{te:TE}{own:List Str}{js:List Nat}{σ:L2.St}{H1:Hp}{Q:VK}
end
end L3
namespace L3
end L3
namespace L3
open PySem PySem.Spec PyProof.Rows L2
theorem Bes.but {H H':Hp}{l c:j7}{as:List j7}{rows:Nat->List V}(b:Bes H l as rows)(nl:l≠c)(na:c∉as)(B:But c H H'):Bes H' l as rows:=⟨B _ _ nl b.top,b.nd,b.own,λ i a e=>B _ _ (λ z=>na (z ▸ m3 e)) (b.row i a e)⟩
theorem aM (E:List (Option Nat)){i v:Nat}(x:Nat)(h:i<E.length):Far.get (E.set i (some x)) v=if v=i then some x else Far.get E v:=by
 unfold Far.get
 rw[f8,f8]
 by_cases z:v=i
 ·subst z
  rw[ugc rfl,uca h];rfl
 ·rw[ugd z,udm (Ne.symm z)]
theorem xQ {K:a8}{t1 t2:Bool}{l1 l2:j7}{xs zs:List V}{g:TG}{tb:TS}{D:Ends}{σ:L2.St}{H:Hp}(Pv:Nat->L2.St->Hp->Prop)(h0:Pv 0 σ H)(hl:∀ i σ H,Pv i σ H->SqX t1 K H l1 xs/\SqX t2 K H l2 zs)
  (hs:∀ i x z T σ H,xs[i]?=some x->zs[i]?=some z->H T=none->Pv i σ H->g (.ref T) σ (upd H T (.tup [x,z])) λ σ2 H2=>tb { D with nx:=Pv (i+1),ct:=Pv (i+1),bk:=D.nx } σ2 H2) (hd:∀ σ H,Pv (min xs.length zs.length) σ H->D.nx σ H) :
  ∃ W:Nat->Nat->L2.St->Hp->Prop,(∃ m,W 0 m σ H)/\∀ i m σ H,W i m σ H ->
   ((Itz t1 t2 K l1 l2).stop i H/\D.nx σ H)\/((Itz t1 t2 K l1 l2).go i H/\∃ N:L2.St->Hp->Prop,(∀ σ' H',N σ' H'->∃ m',m'<m/\W (i+1) m' σ' H')/\∀ x H',(Itz t1 t2 K l1 l2).yld i H x H'->g x σ H' λ σ2 H2=>tb { D with nx:=N,ct:=N,bk:=D.nx } σ2 H2):=by
 refine⟨λ i m σ H=>m=xs.length-i/\i<=min xs.length zs.length/\Pv i σ H,⟨xs.length,by simp,uac _,h0⟩,?_⟩
 rintro i m σ H ⟨rfl,hi,p⟩
 obtain⟨q1,q2⟩:=hl i σ H p
 by_cases hlt:i<xs.length/\i<zs.length
 ·have e1:xs[i]?=some xs[i]:=d6 hlt.1
  have e2:zs[i]?=some zs[i]:=d6 hlt.2
  refine .inr ⟨⟨xs,zs,_,_,q1,q2,e1,e2⟩,Pv (i+1),λ σ' H' p'=>⟨xs.length-(i+1),by left,rfl,by left,p'⟩,λ x H' y=>?_⟩
  obtain⟨T,x',y',hT,rfl,rfl,a1,a2⟩:=y
  have b1:=a1 _ q1
  have b2:=a2 _ q2
  exact hs i x' y' T σ H b1 b2 hT p
 ·have e:i=min xs.length zs.length:=by left
  exact .inl ⟨⟨xs,zs,q1,q2,by left⟩,hd σ H (e ▸ p)⟩
section
variable {n g:Int}{ts:List Tie}{ks:List Nat}{k:Nat}
end
def tupH (hs:List Int):v9:=.tuple (hs.map .int)
end L3
namespace Far
theorem Best.one {B:List Arc}(K:Keys B){n s:Nat}{cs cs':List (Option (Int × Int))}{as as':List (Option Nat)}(h:Best B n s cs as)(h':Best B n s cs' as'):as=as':=by
 have ec:∀ v,get cs v=get cs' v:=λ v=>by
  have e:=(h.dst K v).unique (h'.dst K v)
  cases e1:get cs v with
  | none =>
   cases e2:get cs' v with
   | none=>rfl
   | some c=>rw[e1,e2] at e;cases e
  | some c =>
   cases e2:get cs' v with
   | none=>rw[e1,e2] at e;cases e
   | some d =>
    rw[e1,e2] at e
    have a:=h.small K e1
    have b:=h'.small K e2
    rw[mQ ⟨a.1,uev a.2 (by decide)⟩ ⟨b.1,uev b.2 (by decide)⟩ (t6 e)]
 have ea:∀ {cs cs':List (Option (Int × Int))}{as as':List (Option Nat)},Best B n s cs as->Best B n s cs' as'->(∀ v,get cs v=get cs' v)->∀ v u,get as v=some u->get as' v=some u:=λ h h' ec v u e=>by
  obtain⟨l,k,cu,m,e1,e2⟩:=h.arc v u e
  exact h'.tree K m (by rw[← ec];exact e1) (by rw[← ec];exact e2)
 refine ubp λ v=>?_
 by_cases hv:v<n
 ·have g:get as v=get as' v:=by
   cases e1:get as v with
   | some u=>exact (ea h h' ec v u e1).symm
   | none =>
    cases e2:get as' v with
    | none=>rfl
    | some u=>rw[ea h' h (λ v=>(ec v).symm) v u e2] at e1;cases e1
  have l1:=h.alen
  have l2:=h'.alen
  unfold get at g
  rw[f8,f8,d6 (by left),d6 (by left)] at g
  rw[d6 (by left),d6 (by left)]
  exact congrArg some g
 ·rw[u5 (by have:=h.alen;left),u5 (by have:=h'.alen;left)]
end Far
namespace L3
open PySem PySem.Spec PyProof.Rows L2
section
variable {n:Int}{ts:List Tie}
end
end L3
namespace L2
open PySem PySem.Spec PyProof.Rows
section
variable {X:Cx}{k v:ua9}{pos:Pos}{tk tv:TE}
end
end L2
namespace HT
open PySem PyProof.Rows
open Sem (wp)
section
variable {prog:m9}{w:uaf}{A:v7}{E:d7->d8->Prop}{s:d8}
end
end HT
namespace L3
open PySem PySem.Spec PyProof.Rows L2
def PapV (H:Hp)(lo hi m:Nat)(v:V):Prop:=∃ p xs,v=.ref p/\H p=some (.tup xs)/\xs.length<=m/\∀ u∈xs,RowV lo hi H u
theorem PapV.tk {H H':Hp}{lo hi m:Nat}{v:V}(k:TupKeep H H')(h:PapV H lo hi m v):PapV H' lo hi m v:=let ⟨p,xs,e,e1,l,r⟩:=h;⟨p,xs,e,k _ _ e1,l,λ u hu=>(r u hu).tk k⟩
theorem Same.tk {H H':Hp}(s:Same H H'):TupKeep H H':=λ a xs e=>s _ _ e
section
variable {near kept:Nat->Nat->Option Int}{u v:Nat}{r:List (Nat × Nat)}{m:Int × Int × Int}{x y:Int}
end
def WKE (K:a8)(H:Hp)(n:Int)(ts:List Tie)(ks:List Nat)(wv:V)(kp:j7)(tp:Bool):Prop:=Is K H (webD n ts) wv/\WebOk n ts/\H kp=some (if tp=true then .tup (natV ks) else .lst (natV ks))/\KeepOk ts.length ks
theorem WKE.same {K:a8}{H H':Hp}{n:Int}{ts:List Tie}{ks:List Nat}{wv:V}{kp:j7}{tp:Bool}(h:WKE K H n ts ks wv kp tp)(s:Same H H'):WKE K H' n ts ks wv kp tp:=⟨Is.same s _ h.1,h.2.1,s _ _ h.2.2.1,h.2.2.2⟩
section
variable {g:TG}{tt:TT}{te:TE}{own:List Str}{js:List Nat}{σ:L2.St}{H1:Hp}{Q:VK}
end
section
variable {n:Int}{ts:List Tie}{ks:List Nat}
end
section
variable {own:List Str}{js:List Nat}{g:TG}{te:TE}{σ:L2.St}{Q:VK}{H1:Hp}
end
section
variable {n:Int}{ts:List Tie}
def hN (hs:List Int)(v:Nat):Int:=hs.getD v 0
end
theorem iteTe {b:Bool}{A B:Prop}(e:b=true)(h:A):if b=true then A else B:=by rw[ugc e];exact h
theorem iteFe {b:Bool}{A B:Prop}(e:b=false)(h:B):if b=true then A else B:=by rw[e];exact h
end L3
namespace Srt
open PySem PyProof.Rows
section
variable {prog:m9}{w:uaf}{A:v7}{E:d7->d8->Prop}{s:d8}{a:j7}
end
end Srt
namespace L3
open PySem PySem.Spec PyProof.Rows L2
section
variable {X:Cx}
end
section
variable {n:Int}{ts:List Tie}
def WyV (H:Hp)(ts:List Tie)(o:Option (List Nat))(v:V):Prop:=(o=none/\v=.non)\/∃ t ws,o=some ws/\v=.ref t/\H t=some (.tup (natV ws))/\ws.length<=24/\linked ts ws
theorem WyV.tk {H H':Hp}{o:Option (List Nat)}{v:V}(k:TupKeep H H')(h:WyV H ts o v):WyV H' ts o v:=by
 rcases h with h | ⟨t,ws,e,e1,e2,z⟩
 ·exact .inl h
 ·exact .inr ⟨t,ws,e,e1,k _ _ e2,z⟩
theorem WyV.same {H H':Hp}{o:Option (List Nat)}{v:V}(k:Same H H')(h:WyV H ts o v):WyV H' ts o v:=h.tk λ _ _ e=>k _ _ e
def wyD:Option (List Nat)->v9
 | none=>.none
 | some ws=>tupH (keepI ws)
theorem WyV.is {K:a8}{H:Hp}{o:Option (List Nat)}{v:V}(h:WyV H ts o v):Is K H (wyD o) v:=by
 rcases h with ⟨rfl,rfl⟩ | ⟨t,ws,rfl,rfl,e2,z⟩
 ·exact rfl
 ·exact⟨t,_,rfl,e2,by rw[bH];exact IsAll.ints _⟩
end
theorem kO {n:Int}{ts:List Tie}(ok:WebOk n ts){k:Nat}(hk:k<ts.length):isTB ts (tieAt ts k).1.toNat (tieAt ts k).2.1.toNat k=true:=by
 have tk:=ok.tie _ (aY hk).2
 unfold isTB
 rw[uf9 (show (tieAt ts k).1=min (((tieAt ts k).1.toNat:Nat):Int) ((tieAt ts k).2.1.toNat:Nat) by left),uf9 (show (tieAt ts k).2.1=max (((tieAt ts k).1.toNat:Nat):Int) ((tieAt ts k).2.1.toNat:Nat) by left)]
 rfl
theorem xV {n:Int}{ts:List Tie}(ok:WebOk n ts){j k:Nat}(hj:j<ts.length)(hk:k<ts.length)(h1:(tieAt ts j).1=(tieAt ts k).1)(h2:(tieAt ts j).2.1=(tieAt ts k).2.1):j=k:=by
 refine zau ok hj hk (kO ok hj) ?_
 have:=kO ok hk
 rw[h1,h2];exact this
end L3
namespace Z3
open PySem
section
variable {prog:m9}{w:uaf}{A:v7}{E:d7->d8->Prop}{s:d8}
end
end Z3
namespace L3
open PySem PySem.Spec PyProof.Rows L2
def isE (ts:List Tie)(u v:Int)(k:Nat):Bool:=decide ((tieAt ts k).1=min u v)&&decide ((tieAt ts k).2.1=max u v)
def lenI (ts:List Tie)(ks:List Nat)(u v:Int):Option Int:=(ks.find? (isE ts u v)).map λ k=>(tieAt ts k).2.2
section
variable {n:Int}{ts:List Tie}{ks:List Nat}
theorem isE_iff {u v:Int}{k:Nat}:isE ts u v k=true↔(tieAt ts k).1=min u v/\(tieAt ts k).2.1=max u v:=by
 unfold isE
 rw[w8,decide_eq_true_iff,decide_eq_true_iff]
theorem zac (ok:WebOk n ts){u v:Int}{j k:Nat}(hj:j<ts.length)(hk:k<ts.length)(h1:isE ts u v j=true)(h2:isE ts u v k=true):j=k:=by
 obtain⟨a1,a2⟩:=isE_iff.mp h1
 obtain⟨b1,b2⟩:=isE_iff.mp h2
 exact xV ok hj hk (a1.trans b1.symm) (a2.trans b2.symm)
theorem zap (ok:WebOk n ts)(ko:KeepOk ts.length ks){u v:Nat}{l:Int}(m:(u,v,l)∈arcs ts ks):lenI ts ks (u:Int) (v:Int)=some l:=by
 obtain⟨k,hk,m2⟩:=arcs_mem.mp m
 have hkl:=ko.2 k hk
 have tk:=ok.tie _ (aY hkl).2
 have c:isE ts (u:Int) (v:Int) k=true/\(tieAt ts k).2.2=l:=by
  rw[isE_iff]
  rcases arcs2_mem.mp m2 with e | e
  ·have e1:u=(tieAt ts k).1.toNat:=congrArg (·.1) e
   have e2:v=(tieAt ts k).2.1.toNat:=congrArg (·.2.1) e
   have e3:l=(tieAt ts k).2.2:=congrArg (·.2.2) e
   left
  ·have e1:u=(tieAt ts k).2.1.toNat:=congrArg (·.1) e
   have e2:v=(tieAt ts k).1.toNat:=congrArg (·.2.1) e
   have e3:l=(tieAt ts k).2.2:=congrArg (·.2.2) e
   left
 unfold lenI
 cases e:ks.find? (isE ts (u:Int) (v:Int)) with
 | none=>exact absurd c.1 (ue5.mp e k hk)
 | some j =>
  have:=zac ok (ko.2 j (ufx e)) hkl (List.find?_some e) c.1
  rw[this]
  exact congrArg some c.2
def stepY (ts:List Tie)(ks:List Nat)(ws:List Int)(j:Nat):Option Int:=lenI ts ks (ws.getD j 0) (ws.getD (j+1) 0)
def sumY (ts:List Tie)(ks:List Nat)(ws:List Int):Nat->Option Int
 | 0=>some 0
 | j+1=>(sumY ts ks ws j).bind λ x=>(stepY ts ks ws j).map λ l=>x+l
def rightI (n:Int)(ts:List Tie)(ks:List Nat)(ws:List Int):Option Int:=if (ws≠[]/\ws.Nodup)/\ws.all (λ i=>decide (0<=i)&&decide (i<n))=true then sumY ts ks ws (ws.length-1) else none
theorem lL {ws ws':List Int}:∀ {j:Nat},(∀ i,i<=j->ws.getD i 0=ws'.getD i 0)->sumY ts ks ws j=sumY ts ks ws' j
 | 0,_=>rfl
 | j+1,h=>by
  have e:stepY ts ks ws j=stepY ts ks ws' j:=by unfold stepY;rw[h j (by left),h (j+1) (i7 _)]
  rw[sumY,sumY,lL λ i hi=>h i (by left),e]
theorem zas (ok:WebOk n ts)(ko:KeepOk ts.length ks){a b:Nat}{ws:List Nat}{x:Int}(h:Far.Tr (arcs ts ks) a ws b x):sumY ts ks (keepI ws) (ws.length-1)=some x:=by
 induction h with
 | one=>rfl
 | @snoc ws u v x l t m ih =>
  obtain⟨r,er⟩:=iI t
  have lw:ws.length=r.length+1:=by rw[er,j3];rfl
  have ek:keepI (ws++[v])=keepI ws++[(v:Int)]:=by unfold keepI;rw[uab];rfl
  have lk:(keepI ws).length=ws.length:=by unfold keepI;rw[g9]
  have e1:sumY ts ks (keepI (ws++[v])) r.length=some x:=by
   rw[← ih,show ws.length-1=r.length by left]
   refine lL λ i hi=>?_
   rw[ek,f8,f8,r6 (by left)]
  have e2:stepY ts ks (keepI (ws++[v])) r.length=some l:=by
   unfold stepY
   have g1:(keepI (ws++[v])).getD r.length 0=(u:Int):=by
    rw[ek,f8,r6 (by left),er]
    unfold keepI
    rw[uab,p5 (by rw[g9];exact i7 _),g9,ud1];rfl
   have g2:(keepI (ws++[v])).getD (r.length+1) 0=(v:Int):=by
    rw[ek,f8,p5 (by left),lk,lw,ud1];rfl
   rw[g1,g2]
   exact zap ok ko m
  rw[j3,p7,Nat.add_sub_cancel,lw,sumY,e1,Option.bind_some,e2];rfl
theorem vD (ok:WebOk n ts)(ko:KeepOk ts.length ks){a b:Nat}{ws:List Nat}{x:Int}(ha:a<n.toNat)(m:Far.MinW (arcsB ts ks) a b ws)(t:Far.Tr (arcs ts ks) a ws b x):rightI n ts ks (keepI ws)=some x:=by
 unfold rightI
 have nd:=m.nodup
 have ins:∀ u∈ws,u<n.toNat:=by
  clear m nd
  induction t with
  | one=>intro u hu;rw[j6.mp hu];exact ha
  | @snoc ws u v x l t m ih =>
   intro y hy
   rcases m5.mp hy with z | z
   ·exact ih y z
   ·rw[j6.mp z]
    exact (oK ok ko u v l m).2
 have ne:keepI ws≠[]:=by
  intro e
  unfold keepI at e
  have:ws=[]:=List.map_eq_nil_iff.mp e
  obtain⟨r,er⟩:=iI t
  rw[this] at er
  simp at er
 have nd2:(keepI ws).Nodup:=by
  unfold keepI
  rw[uby,ua2]
  exact nd.imp λ z y=>z (by left)
 have al:(keepI ws).all (λ i=>decide (0<=i)&&decide (i<n))=true:=by
  rw[uad]
  intro i hi
  unfold keepI at hi
  obtain⟨u,hu,rfl⟩:=v4.mp hi
  have:=ins u hu
  rw[w8,decide_eq_true_iff,decide_eq_true_iff]
  left
 have lk:(keepI ws).length=ws.length:=by unfold keepI;rw[g9]
 rw[ugc ⟨⟨ne,nd2⟩,al⟩,lk]
 exact zas ok ko t
noncomputable def wyK (ts:List Tie)(ks:List Nat)(a b:Nat):Option (List Nat):=@dite _ (∃ ws,Far.MinW (arcsB ts ks) a b ws) (Classical.propDecidable _) (λ h=>some (Classical.choose h)) (λ _=>none)
theorem WayM.v {H:Hp}{a b:Nat}{v:V}(h:WayM H ts ks a b v):WayV H (arcs ts ks) a b v:=by
 rcases h with h | ⟨t,ws,x,e,e1,l,m,tr,d⟩
 ·exact .inl h
 ·exact .inr ⟨t,ws,x,e,e1,l,tr,d⟩
noncomputable def dK (ts:List Tie)(ks:List Nat)(u v:Nat):Option Int:=Classical.epsilon λ o=>Far.Dst (arcs ts ks) u v o
noncomputable def dKL (n:Int)(ts:List Tie)(ks:List Nat)(u:Nat):List (Option Int):=(i6 n.toNat).map λ v=>dK ts ks u v
noncomputable def htK (n:Int)(ts:List Tie)(ks:List Nat)(t:Int)(k:Nat):List Int:=(dKL n ts ks (tieAt ts k).1.toNat).map (capO (t*(tieAt ts k).2.2+1))
end
def winK (ts:List Tie)(ks:List Nat)(t:Int)(k:Nat):Prop:=withinB t (tieAt ts k).2.2 (gO ts ks k)=true
noncomputable def wyT (ts:List Tie)(ks:List Nat)(k:Nat):Option (List Nat):=wyK ts ks (tieAt ts k).1.toNat (tieAt ts k).2.1.toNat
def FirstOut (ts:List Tie)(ks:List Nat)(t:Int)(i k:Nat):Prop:=(outs ts.length ks)[i]?=some k/\¬ winK ts ks t k/\∀ j k',j<i->(outs ts.length ks)[j]?=some k'->winK ts ks t k'
theorem FirstOut.one {ts:List Tie}{ks:List Nat}{t:Int}{i k i' k':Nat}(h:FirstOut ts ks t i k)(h':FirstOut ts ks t i' k'):k=k':=by
 rcases ubr i i' with z | z | z
 ·exact absurd (h'.2.2 i k z h.1) h.2.1
 ·subst z
  exact t6 (h.1.symm.trans h'.1)
 ·exact absurd (h.2.2 i' k' z h'.1) h'.2.1
inductive TdD (n:Int)(ts:List Tie)(ks:List Nat)(t:Int):v9->Prop
 | keeps:allIn ts ks t->TdD n ts ks t (.tuple [.str "keeps",.tuple ((outs ts.length ks).map λ k=>wyD (wyT ts ks k))])
 | far {i k:Nat}:FirstOut ts ks t i k->TdD n ts ks t (.tuple [.str "far",.int (k:Int),tupH (htK n ts ks t k)])
theorem FirstOut.not {ts:List Tie}{ks:List Nat}{t:Int}{i k:Nat}(h:FirstOut ts ks t i k):¬ allIn ts ks t:=λ a=>h.2.1 (a k (m3 h.1))
theorem TdD.one {n:Int}{ts:List Tie}{ks:List Nat}{t:Int}{d d':v9}(h:TdD n ts ks t d)(h':TdD n ts ks t d'):d=d':=by
 cases h with
 | keeps a =>
  cases h' with
  | keeps _=>rfl
  | far f=>exact absurd a f.not
 | far f =>
  cases h' with
  | keeps a=>exact absurd a f.not
  | far f'=>rw[f.one f']
def PairsL (H:Hp)(xs ys zs:List V)(m:Nat):Prop:=zs.length=m/\∀ (j:Nat)(z:V),zs[j]?=some z->∃ (T:j7)(x y:V),z=V.ref T/\xs[j]?=some x/\ys[j]?=some y/\H T=some (.tup [x,y])
theorem PairsL.tk {H H':Hp}{xs ys zs:List V}{m:Nat}(k:TupKeep H H')(h:PairsL H xs ys zs m):PairsL H' xs ys zs m:=⟨h.1,λ j z e=>let ⟨T,x,y,a,b,c,d⟩:=h.2 j z e;⟨T,x,y,a,b,c,k _ _ d⟩⟩
section
variable {X:Cx}{pins:List (j7 × Obj)}{σ:L2.St}
end
section
variable {n:Int}{ts:List Tie}{ks:List Nat}
end
section
variable {X:Cx}
end
theorem zam {n:Int}(h:n.natAbs<10^60):n.natAbs.log2<1920:=by
 by_cases c:n.natAbs=0
 ·rw[c];decide
 ·exact (Nat.log2_lt c).mpr (udb h (by symm))
theorem yN {n:Int}(h:n.natAbs<10^60):(PyData.shown (.int n)).length<=61:=by
 have e:=int_text_length_le10 (k:=60) (by decide) h
 show (u7 (toString n)).length<=61
 rw[PySem.ofString_length];exact e
theorem fQ:∀ (ns:List Int),(∀ n∈ns,n.natAbs<10^60)->ub9 (ns.map .int)=true/\uc1 (ns.map .int)=false/\uap (ns.map .int)=0/\ubw 61 (ns.map .int)=true/\uc2 (ns.map .int)=ns.length
 | [],_=>⟨rfl,rfl,rfl,rfl,rfl⟩
 | n::ns,h=>by
  obtain⟨h1,h2,h3,h4,h5⟩:=fQ ns λ m hm=>h m (i9 _ hm)
  have hn:=h n i0
  refine⟨?_,h2,?_,?_,?_⟩
  ·show (decide (n.natAbs.log2<1920)&&ub9 (ns.map .int))=true
   rw[uf9 (zam hn),h1];rfl
  ·show max 0 (uap (ns.map .int))=0
   rw[h3];rfl
  ·show (decide ((PyData.shown (.int n)).length<=61)&&ubw 61 (ns.map .int))=true
   rw[uf9 (yN hn),h4];rfl
  ·show 0+1+uc2 (ns.map .int)=ns.length+1
   rw[h5];left
theorem lQ:∀ (W:List (List Int)),(∀ ws∈W,ws.length<=40/\∀ n∈ws,n.natAbs<10^60)->ub9 (W.map λ ws=>ucq (ws.map .int))=true/\uc1 (W.map λ ws=>ucq (ws.map .int))=false/\uap (W.map λ ws=>ucq (ws.map .int))<=1/\ubw 61 (W.map λ ws=>ucq (ws.map .int))=true/\uc2 (W.map λ ws=>ucq (ws.map .int))<=41*W.length
 | [],_=>⟨rfl,rfl,uac _,rfl,uac _⟩
 | ws::W,h=>by
  obtain⟨h1,h2,h3,h4,h5⟩:=lQ W λ m hm=>h m (i9 _ hm)
  obtain⟨l40,hb⟩:=h ws i0
  obtain⟨i1,i2,i3,i4,i5⟩:=fQ ws hb
  refine⟨?_,?_,?_,?_,?_⟩
  ·show (ub9 (ws.map .int)&&_)=true
   rw[i1];exact h1
  ·show (uc1 (ws.map .int)||_)=false
   rw[i2];exact h2
  ·show max (uap (ws.map .int)+1) _<=1
   rw[i3];left
  ·show (ubw 61 (ws.map .int)&&_)=true
   rw[i4];exact h4
  ·show uc2 (ws.map .int)+1+_<=41*(W.length+1)
   rw[i5];left
theorem fits61 {d:v9}(hl:d.leavesShort 61=true)(hw:d.bulk<=10000):d.shown.length<=p9:=by
 have h:=PyData.shown_le_bulk 61 (by decide) d hl
 have:(63*10000+61:Nat)<=p9:=by decide
 left
def leadsI (n:Int)(ts:List Tie)(ks:List Nat)(a b:Int)(ws:List Int):Bool:=(rightI n ts ks ws).isSome&&(decide (ws.getD 0 0=a)&&decide (ws.getD (ws.length-1) 0=b))
def goodW (n:Int)(ts:List Tie)(ks:List Nat)(t:Int)(k:Nat)(ws:List Int):Bool:=leadsI n ts ks (tieAt ts k).1 (tieAt ts k).2.1 ws&&decide ((rightI n ts ks ws).getD 0<=t*(tieAt ts k).2.2)
def beyondI (n:Int)(ts:List Tie)(ks:List Nat)(t:Int)(k:Nat)(hs:List Int):Bool:=holdB n ts ks hs&&decide (acrossI ts hs k>t*(tieAt ts k).2.2)
def waysB (n:Int)(ts:List Tie)(ks:List Nat)(t:Int)(W:List (List Int)):Bool:=decide (W.length=(outs ts.length ks).length)&&(i6 (outs ts.length ks).length).all λ i=>goodW n ts ks t ((outs ts.length ks).getD i 0) (W.getD i [])
def farB (n:Int)(ts:List Tie)(ks:List Nat)(t:Int)(k:Int)(hs:List Int):Bool:=(decide (0<=k)&&decide (k<(ts.length:Int)))&&(!decide (k.toNat∈ks)&&beyondI n ts ks t k.toNat hs)
inductive Ppr where
 | keeps (W:List (List Int)):Ppr
 | far (k:Int) (hs:List Int):Ppr
def Ppr.d:Ppr->v9
 | .keeps W=>.tuple [.str "keeps",.tuple (W.map tupH)]
 | .far k hs=>.tuple [.str "far",.int k,tupH hs]
def Ppr.ok:Ppr->Prop
 | .keeps W=>W.length<=1000/\∀ ws∈W,ws.length<=40
 | .far _ hs=>hs.length<=1000
def Ppr.right (n:Int)(ts:List Tie)(ks:List Nat)(t:Int):Ppr->Bool
 | .keeps W=>waysB n ts ks t W
 | .far k hs=>farB n ts ks t k hs
def Cnt (M:List Nat)(m:Nat):Prop:=∃ ms:List Nat,ms.Nodup/\(∀ x,x∈ms↔x∈M)/\ms.length=m
theorem Cnt.one {M:List Nat}{m m':Nat}(h:Cnt M m)(k:Cnt M m'):m=m':=by
 obtain⟨ms,n1,e1,rfl⟩:=h
 obtain⟨ms',n2,e2,rfl⟩:=k
 exact ((udw n1 n2).mpr λ x=>(e1 x).trans (e2 x).symm).length_eq
theorem Cnt.range (n:Nat):Cnt (i6 n) n:=⟨i6 n,udd,λ _=>Iff.rfl,v6⟩
theorem Cnt.join {M:List Nat}{m p q:Nat}(h:Cnt M m)(hp:p∈M)(hq:q∈M)(ne:p≠q):1<=m/\Cnt (Frs.join M p q) (m-1):=by
 obtain⟨ms,n1,e1,rfl⟩:=h
 have hqs:=(e1 q).mpr hq
 refine⟨List.length_pos_iff.mpr (List.ne_nil_of_mem hqs),ms.erase q,n1.erase q,λ x=>?_,List.length_erase_of_mem hqs⟩
 rw[n1.mem_erase_iff,e1]
 unfold Frs.join
 rw[v4]
 constructor
 ·rintro ⟨h1,h2⟩
  exact⟨x,h2,ugd h1⟩
 ·rintro ⟨y,h1,h2⟩
  by_cases c:y=q
  ·rw[ugc c] at h2;subst h2;exact⟨ne,hp⟩
  ·rw[ugd c] at h2;subst h2;exact⟨c,h1⟩
theorem Cnt.set {M:List Nat}{m:Nat}(h:Cnt M m):HT.setN (keepI M) (keepI M).length=m:=by
 obtain⟨ms,n1,e1,rfl⟩:=h
 obtain⟨h1,h2⟩:=jL (λ i=>(keepI M).getD i 0) (keepI M).length
 rw[L3.dW (keepI M) 0] at h2
 have nd:(keepI ms).Nodup:=by
  unfold keepI
  rw[uby,ua2]
  exact n1.imp λ ne z=>ne (by left)
 have e:((firstMet (λ i=>(keepI M).getD i 0) (keepI M).length)).Perm (keepI ms):=(udw h1 nd).mpr λ x=>by
  rw[h2]
  unfold keepI
  rw[v4,v4]
  exact⟨λ ⟨y,a,b⟩=>⟨y,(e1 y).mpr a,b⟩,λ ⟨y,a,b⟩=>⟨y,(e1 y).mp a,b⟩⟩
 have:=e.length_eq
 show (firstMet (λ i=>(keepI M).getD i 0) (keepI M).length).length=ms.length
 rw[this];unfold keepI;rw[g9]
theorem zK {P:List Nat->Prop}(h0:P [])(h1:∀ l k,P l->P (l++[k]))(l:List Nat):P l:=by
 have:∀ l,P (List.reverse l):=λ l=>by
  induction l with
  | nil=>exact h0
  | cons k r ih=>rw[ucl];exact h1 _ _ ih
 have:=this l.reverse
 rwa [List.reverse_reverse] at this
def TD:Nat->v9->Prop
 | 0,d=>(∃ i,d=.int i)\/∃ x,d=.str x/\uf6 x=true
 | m+1,d=>(∃ i,d=.int i)\/(∃ x,d=.str x/\uf6 x=true)\/∃ ds,d=.tuple ds/\ds.length<=100/\∀ x∈ds,TD m x
theorem TD.int (m:Nat)(i:Int):TD m (.int i):=by cases m <;> exact .inl ⟨i,rfl⟩
theorem TD.str (m:Nat){x:Str}(h:uf6 x=true):TD m (.str x):=by
 cases m with
 | zero=>exact .inr ⟨x,rfl,h⟩
 | succ m=>exact .inr (.inl ⟨x,rfl,h⟩)
theorem TD.up:∀ {m:Nat}{d:v9},TD m d->TD (m+1) d
 | 0,d,h=>h.elim (λ ⟨i,e⟩=>.inl ⟨i,e⟩) λ ⟨x,e⟩=>.inr (.inl ⟨x,e⟩)
 | m+1,d,h=>h.elim .inl λ h=>.inr (h.elim .inl λ ⟨ds,e,l,a⟩=>.inr ⟨ds,e,l,λ x hx=>TD.up (a x hx)⟩)
theorem TD.mono {m m':Nat}{d:v9}(h:TD m d)(le:m<=m'):TD m' d:=by
 obtain⟨j,rfl⟩:=Nat.exists_eq_add_of_le le
 clear le
 induction j with
 | zero=>exact h
 | succ j ih=>exact ih.up
theorem TD.ints (m:Nat){hs:List Int}(h:hs.length<=100):TD (m+1) (.tuple (hs.map .int)):=.inr (.inr ⟨_,rfl,by rw[g9];exact h,λ x hx=>by
 obtain⟨i,_,rfl⟩:=v4.mp hx
 exact TD.int _ _⟩)
theorem TD.all {m:Nat}{ds:List v9}(h:TD (m+1) (.tuple ds)):ds.length<=100/\∀ x∈ds,TD m x:=by
 rcases h with ⟨i,e⟩ | ⟨x,e,_⟩ | ⟨ds',e,l,a⟩
 ·cases e
 ·cases e
 ·cases e;exact⟨l,a⟩
theorem TD.none {m:Nat}:¬ TD m .none:=by
 cases m with
 | zero=>rintro (⟨i,e⟩ | ⟨x,e,_⟩) <;> cases e
 | succ m=>rintro (⟨i,e⟩ | ⟨x,e,_⟩ | ⟨ds,e,_⟩) <;> cases e
theorem TD.bool {m:Nat}{b:Bool}:¬ TD m (.bool b):=by
 cases m with
 | zero=>rintro (⟨i,e⟩ | ⟨x,e,_⟩) <;> cases e
 | succ m=>rintro (⟨i,e⟩ | ⟨x,e,_⟩ | ⟨ds,e,_⟩) <;> cases e
theorem TD.list {m:Nat}{ds:List v9}:¬ TD m (.list ds):=by
 cases m with
 | zero=>rintro (⟨i,e⟩ | ⟨x,e,_⟩) <;> cases e
 | succ m=>rintro (⟨i,e⟩ | ⟨x,e,_⟩ | ⟨ds,e,_⟩) <;> cases e
theorem TD.dict {m:Nat}{ds:List (v9 × v9)}:¬ TD m (.dict ds):=by
 cases m with
 | zero=>rintro (⟨i,e⟩ | ⟨x,e,_⟩) <;> cases e
 | succ m=>rintro (⟨i,e⟩ | ⟨x,e,_⟩ | ⟨ds,e,_⟩) <;> cases e
theorem nW:∀ {ds:List v9},(∀ x∈ds,x.canLay0=true)->ube ds=true
 | [],_=>rfl
 | d::r,h=>by
  show (ub7 d&&ube r)=true
  rw[h d i0,nW λ x hx=>h x (i9 _ hx)];rfl
theorem TD.lay:∀ {m:Nat}{d:v9},TD m d->d.canLay0=true
 | 0,d,h=>by
  rcases h with ⟨i,rfl⟩ | ⟨x,rfl,e⟩
  ·rfl
  ·exact e
 | m+1,d,h=>by
  rcases h with ⟨i,rfl⟩ | ⟨x,rfl,e⟩ | ⟨ds,rfl,_,a⟩
  ·rfl
  ·exact e
  ·show ube ds=true
   exact nW λ x hx=>(a x hx).lay
theorem nG:∀ {ds:List v9},(∀ x∈ds,tupD x=true)->tupAll ds=true
 | [],_=>rfl
 | d::r,h=>by
  show (tupD d&&tupAll r)=true
  rw[h d i0,nG λ x hx=>h x (i9 _ hx)];rfl
theorem TD.tup:∀ {m:Nat}{d:v9},TD m d->tupD d=true
 | 0,d,h=>by rcases h with ⟨i,rfl⟩ | ⟨x,rfl,e⟩ <;> rfl
 | m+1,d,h=>by
  rcases h with ⟨i,rfl⟩ | ⟨x,rfl,e⟩ | ⟨ds,rfl,_,a⟩
  ·rfl
  ·rfl
  ·exact nG λ x hx=>(a x hx).tup
def both:Option Int->Option Int->Option Int
 | some x,some y=>some (if y<x then y else x)
 | _,_=>none
section
variable {n:Int}{ts:List Tie}{ks ks':List Nat}{t:Int}
end
def behB (ks:List Nat)(k:Nat):Bool:=ks.all λ j=>decide (j<k)
def szN (m:Nat):Nat->List (List Nat)
 | 0=>[[]]
 | r+1=>(szN m r).flatMap λ ks=>((i6 m).filter (behB ks)).map λ k=>ks++[k]
theorem jD {m:Nat}:∀ {r:Nat}{ks:List Nat},ks∈szN m r->KeepOk m ks/\ks.length=r
 | 0,ks,h=>by
  rw[j6.mp h];exact⟨⟨.nil,λ k h=>by cases h⟩,rfl⟩
 | r+1,ks,h=>by
  obtain⟨ls,hl,h⟩:=uee.mp h
  obtain⟨k,hk,rfl⟩:=v4.mp h
  obtain⟨h1,h2⟩:=uak.mp hk
  obtain⟨ko,e⟩:=jD hl
  have hb:∀ j∈ls,j<k:=λ j hj=>uga (uad.mp h2 j hj)
  refine⟨⟨ua4.mpr ⟨ko.1,uec _ _,λ a ha b hb'=>by rw[j6.mp hb'];exact hb a ha⟩,λ j hj=>?_⟩,by rw[j3,e];rfl⟩
  rcases m5.mp hj with z | z
  ·exact ko.2 j z
  ·rw[j6.mp z];exact o6.mp h1
theorem zaw {m:Nat}(ks:List Nat):KeepOk m ks->ks∈szN m ks.length:=by
 refine zK (P:=λ ks=>KeepOk m ks->ks∈szN m ks.length) (λ _=>j6.mpr rfl) (λ l k ih h=>?_) ks
 have pw:=ua4.mp h.1
 have kl:KeepOk m l:=⟨pw.1,λ j hj=>h.2 j (u4 _ hj)⟩
 rw[j3]
 refine uee.mpr ⟨l,ih kl,v4.mpr ⟨k,uak.mpr ⟨o6.mpr (h.2 k (l8 _ i0)),?_⟩,rfl⟩⟩
 exact uad.mpr λ j hj=>uf9 (pw.2.2 j hj k i0)
def IsFst (ts:List Tie)(t:Int)(ks:List Nat):Prop:=∃ r i:Nat,(szN ts.length r)[i]?=some ks/\allIn ts ks t/\(∀ (j:Nat)(ks':List Nat),j<i->(szN ts.length r)[j]?=some ks'->¬ allIn ts ks' t)/\∀ (r':Nat)(ks':List Nat),r'<r->ks'∈szN ts.length r'->¬ allIn ts ks' t
section
variable {n:Int}{ts:List Tie}{t:Int}{ks ks':List Nat}
theorem IsFst.one (h:IsFst ts t ks)(h':IsFst ts t ks'):ks=ks':=by
 obtain⟨r,i,e,a,b,c⟩:=h
 obtain⟨r',i',e',a',b',c'⟩:=h'
 rcases ubr r r' with z | z | z
 ·exact absurd a (c' r ks z (m3 e))
 ·subst z
  rcases ubr i i' with y | y | y
  ·exact absurd a (b' i ks y e)
  ·subst y;exact t6 (e.symm.trans e')
  ·exact absurd a' (b i' ks' y e')
 ·exact absurd a' (c r' ks' z (m3 e'))
theorem IsFst.ok (h:IsFst ts t ks):KeepOk ts.length ks/\allIn ts ks t:=let ⟨_,_,e,a,_⟩:=h;⟨(jD (m3 e)).1,a⟩
theorem IsFst.least (h:IsFst ts t ks)(ko:KeepOk ts.length ks')(a:allIn ts ks' t):ks.length<=ks'.length:=by
 obtain⟨r,i,e,_,_,c⟩:=h
 have l:=(jD (m3 e)).2
 rcases uch ks'.length ks.length with z | z
 ·exact absurd a (c ks'.length ks' (by left) (zaw ks' ko))
 ·exact z
end
section
variable {n:Int}{ts:List Tie}{t:Int}{ks:List Nat}
theorem lF (ok:WebOk n ts)(ko:KeepOk ts.length ks){a b:Nat}{ws S:List Nat}{x y:Int}(r:Far.Rt (arcsB ts ks) a ws S b x y):alongN ts ws=S:=by
 have hl:=r.len
 refine ubp λ i=>?_
 unfold alongN
 rw[o7]
 by_cases hi:i<S.length
 ·obtain⟨u,v,l,eu,ev,m⟩:=r.step (i:=i) (k:=S[i]) (d6 hi)
  rw[ubs (by left),d6 hi]
  show some ((tbN ts (ws.getD i 0) (ws.getD (i+1) 0)).getD 0)=some S[i]
  rw[f8,eu,f8,ev]
  show some ((tbN ts u v).getD 0)=some S[i]
  rw[fU ok ko m];rfl
 ·rw[u5 (l:=i6 (ws.length-1)) (by rw[v6];left),u5 (by left)];rfl
theorem zI {ks':List Nat}{a b:Nat}{ws S:List Nat}{x y:Int}(r:Far.Rt (arcsB ts ks) a ws S b x y):(∀ k∈S,k∈ks')->Far.Walk (arcs ts ks') a b x:=by
 induction r with
 | one=>exact λ _=>.nil
 | snoc _ m _ ih =>
  intro h
  obtain⟨j,hj,m'⟩:=arcsB_mem.mp m
  refine .snoc (ih λ k hk=>h k (u4 _ hk)) (arcs_mem.mpr ⟨j,?_,?_⟩)
  ·have:=h _ (l8 _ i0)
   rcases arcs2B_mem.mp m' with e | e <;> cases e <;> exact this
  ·rcases arcs2B_mem.mp m' with e | e <;> cases e
   ·exact arcs2_mem.mpr (.inl rfl)
   ·exact arcs2_mem.mpr (.inr rfl)
structure WayIn (n:Int)(ts:List Tie)(ks:List Nat)(t:Int)(k:Nat)(ws:List Nat):Prop where
 way:wyT ts ks k=some ws
 few:ws.length<=24
 min:Far.MinW (arcsB ts ks) (tieAt ts k).1.toNat (tieAt ts k).2.1.toNat ws
 tr:∃ y,Far.Tr (arcs ts ks) (tieAt ts k).1.toNat ws (tieAt ts k).2.1.toNat y/\y<=t*(tieAt ts k).2.2
theorem WayIn.sub {k:Nat}{ws:List Nat}(ok:WebOk n ts)(ko:KeepOk ts.length ks)(h:WayIn n ts ks t k ws):∀ e∈alongN ts ws,e∈ks:=by
 obtain⟨S,x,y,r,_⟩:=h.min
 exact yX ok ko r
theorem WayIn.stands {k:Nat}{ws:List Nat}{ks':List Nat}(ok:WebOk n ts)(ko:KeepOk ts.length ks)(ko':KeepOk ts.length ks')(h:WayIn n ts ks t k ws)(s:∀ e∈alongN ts ws,e∈ks'):winK ts ks' t k:=by
 obtain⟨S,x,y,r,_⟩:=h.min
 rw[lF ok ko r] at s
 have wk:=zI r s
 obtain⟨z,tr,le⟩:=h.tr
 have tr':=r.tr
 rw[eJ] at tr'
 have e1:=(jC ok ko tr).1
 have e2:=(jC ok ko tr').1
 have d:=iY ok ko' k
 obtain⟨u,eu,lu⟩:=d.2 _ wk
 unfold winK
 rw[eu]
 exact uf9 (show u<=t*(tieAt ts k).2.2 by left)
end
section
variable {n:Int}{ts:List Tie}{t:Int}{ks:List Nat}{k:Nat}
mutual
theorem bF {K:a8}{H H':Hp}(e:TupKeep H H'):∀ (d:v9){v:V},tupD d=true->Is K H d v->Is K H' d v
 | .none,_,_,h=>h
 | .bool _,_,_,h=>h
 | .int _,_,_,h=>h
 | .str _,_,_,h=>h
 | .tuple ds,_,t,h=>let ⟨q,vs,q1,q2,q3⟩:=h;⟨q,vs,q1,e _ _ q2,mH e ds t q3⟩
 | .list ds,_,t,h=>by cases t
 | .dict _,_,t,h=>by cases t
theorem mH {K:a8}{H H':Hp}(e:TupKeep H H'):∀ (ds:List v9){vs:List V},tupAll ds=true->IsAll K H ds vs->IsAll K H' ds vs
 | [],_,_,h=>h
 | d::ds,_,t,h=>by
  have t':(tupD d&&tupAll ds)=true:=t
  rw[w8] at t'
  obtain⟨v,r,q1,q2,q3⟩:=h
  exact⟨v,r,q1,bF e d t'.1 q2,mH e ds t'.2 q3⟩
end
end
theorem wP {A:List Far.Arc}{a b:Nat}{ws:List Nat}(m:Far.MinW A a b ws):(keepI ws).getD 0 0=(a:Int)/\(keepI ws).getD ((keepI ws).length-1) 0=(b:Int):=by
 obtain⟨S0,x0,y0,rt,_⟩:=m
 obtain⟨q0,eq0⟩:=rt.head
 obtain⟨q9,eq9⟩:=rt.foot
 constructor
 ·rw[eq0];rfl
 ·have l9:(keepI ws).length=q9.length+1:=by unfold keepI;rw[g9,eq9,j3,p7]
  rw[l9,Nat.add_sub_cancel,f8]
  unfold keepI
  rw[o7,eq9,p5 (i7 _),ud1];rfl
section
variable {n:Int}{ts:List Tie}{t:Int}{ks:List Nat}{k:Nat}
theorem WayIn.good {ws:List Nat}(ok:WebOk n ts)(ko:KeepOk ts.length ks)(kl:k<ts.length)(h:WayIn n ts ks t k ws):∃ y,rightI n ts ks (keepI ws)=some y/\y<=t*(tieAt ts k).2.2/\leadsI n ts ks (tieAt ts k).1 (tieAt ts k).2.1 (keepI ws)=true:=by
 have tk:=ok.tie _ (aY kl).2
 obtain⟨y,tr,le⟩:=h.tr
 have er:=vD ok ko (by left) h.min tr
 refine⟨y,er,le,?_⟩
 obtain⟨h1,h2⟩:=wP h.min
 unfold leadsI
 rw[er,h1,h2,uao (by left),uao (by left)]
 simp
theorem xR {ts:List Tie}{f:Nat->Bool}{l:List Nat}{x:Nat}(nd:l.Nodup)(hx:x∈l)(fx:f x=true)(u:∀ y∈l,f y=true->y=x):l.filter f=[x]:=by
 induction l with
 | nil=>cases hx
 | cons a r ih =>
  obtain⟨na,nr⟩:=r9.mp nd
  by_cases c:f a=true
  ·have e:=u a i0 c
   subst e
   rw[ude,ugc c,List.filter_eq_nil_iff.mpr λ y hy fy=>na (by rw[← u y (i9 _ hy) fy];exact hy)]
  ·rw[ude,ugd c]
   refine ih nr ?_ λ y hy=>u y (i9 _ hy)
   rcases l7.mp hx with rfl | z
   ·exact absurd fx c
   ·exact z
theorem WayIn.step {ws:List Nat}(ok:WebOk n ts)(ko:KeepOk ts.length ks)(h:WayIn n ts ks t k ws){j e:Nat}(he:(alongN ts ws)[j]?=some e):ks.filter (isE ts ((keepI ws).getD j 0) ((keepI ws).getD (j+1) 0))=[e]:=by
 obtain⟨S,x,y,r,_⟩:=h.min
 rw[lF ok ko r] at he
 obtain⟨u,v,l,eu,ev,m⟩:=r.step he
 have gu:(keepI ws).getD j 0=(u:Int):=by rw[f8];unfold keepI;rw[o7,eu];rfl
 have gv:(keepI ws).getD (j+1) 0=(v:Int):=by rw[f8];unfold keepI;rw[o7,ev];rfl
 rw[gu,gv]
 have nd:ks.Nodup:=ko.1.imp λ h=>o0 h
 have isE_arc:∀ {i:Nat},i∈ks->(isE ts (u:Int) (v:Int) i=true↔(u,v,(tieAt ts i).2.2,i)∈arcs2B (tieAt ts i) i):=λ {i} hi=>by
  have ti:=ok.tie _ (aY (ko.2 i hi)).2
  unfold isE
  rw[w8,decide_eq_true_iff,decide_eq_true_iff,arcs2B_mem]
  constructor
  ·rintro ⟨h1,h2⟩
   by_cases c:(u:Int)<=v
   ·apply v8
    have e1:(tieAt ts i).1.toNat=u:=by left
    have e2:(tieAt ts i).2.1.toNat=v:=by left
    rw[e1,e2]
   ·apply ufp
    have e1:(tieAt ts i).1.toNat=v:=by left
    have e2:(tieAt ts i).2.1.toNat=u:=by left
    rw[e1,e2]
  ·rintro (h | h)
   ·injection h with h1 h;injection h with h2 h
    constructor <;> left
   ·injection h with h1 h;injection h with h2 h
    constructor <;> left
 obtain⟨i,hi,mi⟩:=arcsB_mem.mp m
 have ei:i=e/\l=(tieAt ts i).2.2:=by rcases arcs2B_mem.mp mi with z | z <;> cases z <;> exact⟨rfl,rfl⟩
 obtain⟨rfl,rfl⟩:=ei
 refine xR (ts:=ts) nd hi ((isE_arc hi).mpr mi) λ y hy fy=>?_
 have m2:(u,v,(tieAt ts y).2.2,y)∈arcsB ts ks:=arcsB_mem.mpr ⟨y,hy,(isE_arc hy).mp fy⟩
 have q1:=fU ok ko m
 have q2:=fU ok ko m2
 rw[q1] at q2
 exact (t6 q2).symm
end
end L3
namespace X9
open PySem PySem.Spec PyProof.Rows
structure Chg (S:List j7)(a:j7)(X:List j7)(h h':Heap):Prop where
 keep:∀ b o,b∉S->b≠a->b∉X->h.get? b=some o->h'.get? b=some o
 slot:∀ b o,b≠a->b∉X->h.get? b=some o->∃ sl,h'.get? b=some { o with slots:=sl }
 sz:h.objs.size<=h'.objs.size
structure Fly (h:Heap)(a:j7)(C:d7)(T:j7):Prop where
 ex:∃ oe vs,h.get? a=some oe/\oe.cls=C/\oe.data=.fields vs/\vs[1]?=some (.ref T)/\oe.dict=none
 tr:∃ oT ts,h.get? T=some oT/\oT.data=.fields ts/\ts[3]?=some .none
 ne:T≠a
theorem xY {o:Obj}{vs:Array d7}{f:Array d7->Array d7}(dv:o.data=.fields vs)(dn:o.dict=none):(o.mapFields f).dict=none:=by
 obtain⟨c,d,dt,sl⟩:=o
 cases dv
 exact dn
section
variable {M:Model}{A:v7}{E:d7->d8->Prop}{s:d8}
theorem newEntryS {base:Heap}{env:Env}{outer:List Env}{L a:j7}{oe:Obj}{vs:Array d7}{hd0:d7}{nx:Bool}{Q:Unit->d8->Prop}
  (fr:A.frames=some (env::outer)) (ff:s.heap.FunFrames base (env::outer)) (fL:env.frame=some L)
  (ha:s.heap.get? a=some oe) (dv:oe.data=.fields vs) (dn:oe.dict=none) (l1:1<vs.size)
  (q:∀ h' T,s.heap.objs.size<=T->Chg ((env::outer).filterMap (·.frame)) a [] s.heap h'->Fly h' a oe.cls T->Q () { s with heap:=h' }) :
  p8 M A (do let x ← frameOf env;let pl ← entryPlaceOf L nx;let b ← EntryCells.newEntry hd0 x .none (rawInt L) .none pl;setField (.ref a) 1 b)
   (λ _ s'=>p8 M A (setFlight (.ref a) none) Q E s') E s:=by
 have nS:a∉(env::outer).filterMap (·.frame):=λ m=>by
  obtain⟨_,o,h1,h2⟩:=ff.mem m
  rw[ha] at h1;cases h1;exact h2 vs dv
 refine a9 (wpAny_frameOf_fun fr ff fL λ h1 so=>a9 (wpAny_entryPlaceOf λ pl hp=>?_))
 unfold EntryCells.newEntry newFields
 refine a9 (ubj ?_ (hp.sizeOk5 _ _ _ _ _))
 have a1:h1.get? a=some oe:=(so.2.1 a nS).trans ha
 have n1:h1.objs.size≠a:=uda (j8 a1)
 generalize eo:({ cls:=.type "traceback",dict:=none,data:=.fields ([hd0,.ref L,.none,rawInt L,.none]++(if pl.isEmpty then o3 6 Value.none else pl)).toArray }:Obj)=tb
 have dtb:∃ ws:Array d7,tb.data=.fields ws/\3<ws.size:=by
  rw[← eo]
  exact⟨_,rfl,by simp only [k9,j3,uas,ueq];left⟩
 obtain⟨ws,dws,l3⟩:=dtb
 have nf:tb.isFreed=false:=Obj.isFreed_of_fields dws
 have a2:(h1.push tb).get? a=some oe:=b9 tb a1
 refine udn a2 dv l1 ?_
 have d3:=Obj.data_mapFields dv (·.setIfInBounds 1 (Value.ref h1.objs.size))
 have a3:=ucf (Obj.mapFields (·.setIfInBounds 1 (Value.ref h1.objs.size))) a2 (Obj.isFreed_of_fields d3)
 have t3:((h1.push tb).update a (Obj.mapFields (·.setIfInBounds 1 (Value.ref h1.objs.size)))).get? h1.objs.size=some tb :=
  (p6 _ _ n1.symm).trans (l4 h1 nf)
 unfold setFlight
 refine a9 (uai a3 d3 (x:=.ref h1.objs.size) (by simp [l1]) ?_)
 rw[ugc (show (Value.ref h1.objs.size != Value.none)=true by simp)]
 refine udn t3 dws l3 (q _ h1.objs.size (ubl so.1.symm) ⟨λ b o hb ne _ e=>?_,λ b o ne _ e=>?_,?_⟩ ?_)
 ·have e1:h1.get? b=some o:=(so.2.1 b hb).trans e
  rw[p6 _ _ (uda (j8 e1)),p6 _ _ ne.symm]
  exact b9 tb e1
 ·obtain⟨sl,e1⟩:=so.2.2 b o e
  refine⟨sl,?_⟩
  rw[p6 _ _ (uda (j8 e1)),p6 _ _ ne.symm]
  exact b9 tb e1
 ·show s.heap.objs.size<=_
  rw[ua7,ua7,ua0,so.1];exact uci _
 ·refine⟨⟨_,_,(p6 _ _ n1).trans a3,Obj.cls_mapFields _ _,d3,by simp [l1],xY dv dn⟩,⟨_,_,ucf _ t3 (Obj.isFreed_of_fields (Obj.data_mapFields dws _)),Obj.data_mapFields dws _,by simp [l3]⟩,n1⟩
theorem vO {base:Heap}{env:Env}{outer:List Env}{L a:j7}{oe:Obj}{vs:Array d7}{Q:Unit->d8->Prop}
  (fr:A.frames=some (env::outer)) (ff:s.heap.FunFrames base (env::outer)) (fL:env.frame=some L) (ha:s.heap.get? a=some oe) (dv:oe.data=.fields vs) (dn:oe.dict=none) (v1:vs[1]?=some .none)
  (q:∀ h' T,s.heap.objs.size<=T->Chg ((env::outer).filterMap (·.frame)) a [] s.heap h'->Fly h' a oe.cls T->Q () { s with heap:=h' }):p8 M A (leaving env (.ref a)) Q E s:=by
 unfold leaving noteFrame
 simp only [fL]
 refine a9 (a9 (uai ha dv v1 ?_))
 rw[ugd (by decide)]
 exact newEntryS fr ff fL ha dv dn (ubd.mp v1).1 q
theorem xI {base:Heap}{env:Env}{outer:List Env}{L a T0:j7}{C:d7}{Q:Unit->d8->Prop}
  (fr:A.frames=some (env::outer)) (ff:s.heap.FunFrames base (env::outer)) (fL:env.frame=some L) (fl:Fly s.heap a C T0)
  (q:∀ h' T,s.heap.objs.size<=T->Chg ((env::outer).filterMap (·.frame)) a [T0] s.heap h'->Fly h' a C T->Q () { s with heap:=h' }):p8 M A (leaving env (.ref a)) Q E s:=by
 obtain⟨⟨oe,vs,ha,hc,dv,v1,dn⟩,⟨oT,ts,hT,dT,t3⟩,ne⟩:=fl
 subst hc
 unfold leaving noteFrame
 simp only [fL]
 refine a9 (a9 (uai ha dv v1 ?_))
 rw[ugc (show (Value.ref T0 != Value.none)=true by simp)]
 refine a9 (uai hT dT t3 ?_)
 rw[ugd (show ¬ ((Value.none==rawInt L)=true) by simp [rawInt])]
 refine a9 (udn hT dT (ubd.mp t3).1 ?_)
 have oth:∀ b,b≠T0->(s.heap.update T0 (Obj.mapFields (·.setIfInBounds 3 Value.none))).get? b=s.heap.get? b:=λ b hb=>p6 _ _ hb.symm
 have rec_:∀ b o,s.heap.get? b=some o->(∀ ws,o.data≠.fields ws)->b≠T0:=λ b o e n z=>by
  rw[z,hT] at e;cases e;exact n ts dT
 refine newEntryS (base:=base) fr (ff.of_keeps λ b o e n=>⟨o,(oth b (rec_ b o e n)).trans e,rfl⟩) fL ((oth a ne.symm).trans ha) dv dn (ubd.mp v1).1 λ h' T lt cg fl'=>?_
 refine q h' T (w6 (ubl (ua7 ..).symm) lt) ⟨λ b o hb n1 n2 e=>?_,λ b o n1 n2 e=>?_,w6 (ubl (ua7 ..).symm) cg.sz⟩ fl'
 ·exact cg.keep b o hb n1 (by simp) ((oth b (by simpa using n2)).trans e)
 ·exact cg.slot b o n1 (by simp) ((oth b (by simpa using n2)).trans e)
theorem zW {base:Heap}{env:Env}{outer:List Env}{L a T0:j7}{C:d7}{Q:Unit->d8->Prop}
  (fr:A.frames=some (env::outer)) (ff:s.heap.FunFrames base (env::outer)) (fL:env.frame=some L) (fl:Fly s.heap a C T0)
  (q:∀ h' T,s.heap.objs.size<=T->Chg ((env::outer).filterMap (·.frame)) a [T0] s.heap h'->Fly h' a C T->Q () { s with heap:=h' }):p8 M A (noteFrame (.ref a) env) (λ _ s'=>p8 M A (setFlight (.ref a) none) Q E s') E s:=by
 obtain⟨⟨oe,vs,ha,hc,dv,v1,dn⟩,⟨oT,ts,hT,dT,t3⟩,ne⟩:=fl
 subst hc
 unfold noteFrame
 simp only [fL]
 refine a9 (uai ha dv v1 ?_)
 rw[ugc (show (Value.ref T0 != Value.none)=true by simp)]
 refine a9 (uai hT dT t3 ?_)
 rw[ugd (show ¬ ((Value.none==rawInt L)=true) by simp [rawInt])]
 refine a9 (udn hT dT (ubd.mp t3).1 ?_)
 have oth:∀ b,b≠T0->(s.heap.update T0 (Obj.mapFields (·.setIfInBounds 3 Value.none))).get? b=s.heap.get? b:=λ b hb=>p6 _ _ hb.symm
 have rec_:∀ b o,s.heap.get? b=some o->(∀ ws,o.data≠.fields ws)->b≠T0:=λ b o e n z=>by
  rw[z,hT] at e;cases e;exact n ts dT
 refine newEntryS (base:=base) fr (ff.of_keeps λ b o e n=>⟨o,(oth b (rec_ b o e n)).trans e,rfl⟩) fL ((oth a ne.symm).trans ha) dv dn (ubd.mp v1).1 λ h' T lt cg fl'=>?_
 refine q h' T (w6 (ubl (ua7 ..).symm) lt) ⟨λ b o hb n1 n2 e=>?_,λ b o n1 n2 e=>?_,w6 (ubl (ua7 ..).symm) cg.sz⟩ fl'
 ·exact cg.keep b o hb n1 (by simp) ((oth b (by simpa using n2)).trans e)
 ·exact cg.slot b o n1 (by simp) ((oth b (by simpa using n2)).trans e)
end
end X9
namespace X9
open PySem PySem.Spec PyProof.Rows PySem.W
structure XC (K:Frag)(C:j7):Prop where
 ga:findIn K (.ref C) "__getattribute__"=some (some (.builtin "BaseException.__getattribute__"))
 gt:findIn K (.ref C) "__getattr__"=some none
 cl:findIn K (.ref C) "__class__"=some (some (.builtin "object.__class__"))
 ob:mroIn K C (.type "object")=some true
 be:subIn K (.ref C) (.type "BaseException")=some true
 is:(clsIn K C).isSome=true
section
variable {prog:m9}{w:uaf}{A:v7}{E:d7->d8->Prop}{K:Frag}{h:Heap}{g:Array GenState}{d:Drawn}{t:Nat}{os:OsState}{a C:j7}{o:Obj}
theorem vX {tk:Tok}{Q:Fin->d8->Prop}(c:XC K C)(X:K.In h)(hx:h.get? a=some o)(hc:o.cls=.ref C)(hd:∃ vs,o.data=.fields vs)(hdn:o.dict=none)(hq:Q (.done (.ret (.ref C))) ⟨h,g,d,t,os⟩) :
  p8 (z9 prog w) A (Builtin.«object.__getattribute__» ⟨[.ref a,.str "__class__" tk],[]⟩) Q E ⟨h,g,d,t,os⟩:=by
 have I:InstAt h a o C none:=⟨hx,hc,by obtain⟨vs,e⟩:=hd;unfold notCls;rw[e],by rw[hdn];trivial⟩
 have L0:=I.type (M:=z9 prog w)
 have L1:=looks_findIn (M:=z9 prog w) X c.cl
 have hT5:(⟨h,g,d,t,os⟩:d8).TypeIs (.builtin "object.__class__") "getset_descriptor":=F.typeOf_object_class
 have f5:=F.typeOf_object_class
 have f6:=F.slot_gs_get.lookup
 have f7:=F.slot_gs_set.lookup
 repeat (any_goals (first | assumption | (with_reducible refine wpAny_loadPart_at hx ?_;rw[hc]) | (with_reducible refine L1.at ?_) | wp_step))
 refine class_get X I c.ob ?_
 exact j9 hq
theorem vY {M:Model}{nv:d7}{Q:Unit->d8->Prop}(c:XC K C)(X:K.In h)(hx:h.get? a=some o)(hc:o.cls=.ref C)(hd:∃ vs,o.data=.fields vs)(hdn:o.dict=none)(hq:Q () ⟨h,g,d,t,os⟩) :
  p8 M A (checkBuiltinCall "BaseException.__getattribute__" ⟨[.ref a,nv],[]⟩) Q E ⟨h,g,d,t,os⟩:=by
 have hk:builtinKind "BaseException.__getattribute__"=some .slot:=by symm
 have hs:splitId "BaseException.__getattribute__"=some ("BaseException","__getattribute__"):=by symm
 have ha:=F.args_bexc_ga (.ref a) nv
 have I:InstAt h a o C none:=⟨hx,hc,by obtain⟨vs,e⟩:=hd;unfold notCls;rw[e],by rw[hdn];trivial⟩
 have L0:=I.type (M:=M)
 have L1:=looks_subIn (M:=M) X c.be
 simp only [checkBuiltinCall,hk,hs]
 refine a9 ?_
 unfold isInstance
 refine a9 (L0.at (L1.at ?_))
 repeat (any_goals (first | assumption | wp_step))
theorem zbe {tk:Tok}{Q:d7->d8->Prop}(c:XC K C)(X:K.In h)(hx:h.get? a=some o)(hc:o.cls=.ref C)(hd:∃ vs,o.data=.fields vs)(hdn:o.dict=none)(hq:Q (.ref C) ⟨h,g,d,t,os⟩) :
  p8 (z9 prog w) A (getAttrBy (.ref a) (.str "__class__" tk) false) Q E ⟨h,g,d,t,os⟩:=by
 have I:InstAt h a o C none:=⟨hx,hc,by obtain⟨vs,e⟩:=hd;unfold notCls;rw[e],by rw[hdn];trivial⟩
 have L0:=I.type (M:=z9 prog w)
 have L1:=looks_findIn (M:=z9 prog w) X c.ga
 have L2:=looks_findIn (M:=z9 prog w) X c.gt
 have f3:=ufe.ga.bind (.ref a)
 have hx2:(Value.builtin "BaseException.__getattribute__"==Value.builtin "object.__getattribute__")=false:=by symm
 have hx1:(onTheHeap (Value.ref C)&&Value.builtin "BaseException.__getattribute__"==Value.builtin "object.__getattribute__")=false:=by rw[hx2];rfl
 unfold getAttrBy
 refine uav (a9 (L0.at (a9 (L1.at ?_))))
 simp only [hx1]
 rw[ugd (by decide)]
 unfold getAttrByItsOwn hookBefore
 rw[ugc (show onTheHeap (Value.ref C)=true from rfl)]
 refine a9 (L2.at (a9 (uc6 (uav ?_))))
 unfold callGetattribute
 rw[ugd (by decide)]
 unfold boundAndCalled
 rw[f3]
 refine a9 (j9 ?_)
 refine ue1 (codeAny_call_builtin ufe.ga.plain F.entry_bexc_ga (vY c X hx hc hd hdn (vX c X hx hc hd hdn ?_)))
 repeat (any_goals (first | assumption | wp_step))
theorem yF {Q:Option d7->d8->Prop}(c:XC K C)(X:K.In h)(hx:h.get? a=some o)(hc:o.cls=.ref C)(hd:∃ vs,o.data=.fields vs)(hdn:o.dict=none)(hq:Q (some (.ref C)) ⟨h,g,d,t+1,os⟩) :
  p8 (z9 prog w) A (getAttr? (.ref a) "__class__") Q E ⟨h,g,d,t,os⟩:=by
 unfold getAttr? getAttrBy?
 refine a9 (wpAny_mkText (a9 (uc6 (zbe c X hx hc hd hdn ?_))))
 exact j9 hq
end
def IsX (a C:j7)(h:Heap):Prop:=∃ o,h.get? a=some o/\o.cls=.ref C/\(∃ vs,o.data=.fields vs)/\o.dict=none
theorem IsX.no {a C:j7}{h:Heap}(x:IsX a C h):∃ o,InstAt h a o C none:=by
 obtain⟨o,hx,hc,hd,hdn⟩:=x
 exact⟨o,hx,hc,by obtain⟨vs,e⟩:=hd;unfold notCls;rw[e],by rw[hdn];trivial⟩
theorem iD {K:Frag}{a C:j7}(c:XC K C):KitX K (.ref a) (.ref C) (IsX a C) where
 ty:=λ _ _ _ x=>let ⟨_,I⟩:=x.no;I.type
 it:=λ _ _ X _=>by
  have z:=c.is
  unfold clsIn at z
  split at z
  ·rename_i e
   intro A' Q' E' s' k q
   unfold isType loadHead
   exact a9 (wpAny_loadPart (k _ _ (X _ _ e)) (j9 q))
  ·cases z
 ne:=λ h tp dd its n sl X e=>by
  refine ubq.mpr λ q=>?_
  have z:=c.is
  cases Value.ref.inj (beq_iff_eq.mp q)
  unfold clsIn at z
  split at z
  ·rename_i e2
   cases (X _ _ e2).symm.trans e
  ·cases z
 ca:=λ {_ _ _ _ _ s} X x k=>by
  obtain⟨h,g,d,t,os⟩:=s
  obtain⟨o,hx,hc,hd,hdn⟩:=x
  exact yF c X hx hc hd hdn k
end X9
namespace X9
open PySem PySem.Spec PyProof.Rows
theorem jW {α:Type}{p:α->Bool}:∀ {l:List α}{i:Nat},(∀ x,l[i]?=some x->p x=false)->(l.eraseIdx i).find? p=l.find? p
 | [],i,_=>by simp
 | a::l,0,h=>by
  have:=h a rfl
  simp [ubt,this]
 | a::l,i+1,h=>by
  rw[List.eraseIdx_cons_succ,ubt,ubt,jW (l:=l) (i:=i) λ x e=>h x (by simpa using e)]
theorem zF {v:d7}{x y:Str}(h:v.isStr x=true)(n:y≠x):v.isStr y=false:=by
 cases v with
 | str s t =>
  have e:s=x:=by simpa [Value.isStr] using h
  subst e
  simpa [Value.isStr] using λ z=>n z.symm
 | _=>cases h
section
variable {M:Model}{A:v7}{E:d7->d8->Prop}{s:d8}
theorem nsDelS {a:j7}{m:Str->Option d7}{name:Str}{Q:Bool->d8->Prop}(hn:s.heap.Ns a m)(hs:(m name).isSome=true)
  (hQ:∀ h' m',h'.Ns a m'->(∀ x,x≠name->m' x=m x)->Heap.SameBut a s.heap h'->Q true { s with heap:=h' }):p8 M A (nsDel a name) Q E s:=by
 obtain⟨o,es,ep,ho,hd,hk,hm⟩:=id hn
 have has:es.any (·.key.isStr name)=true:=by
  rw[← hm name] at hs
  unfold nsFind findBy at hs
  rw[Option.isSome_map,Array.find?_isSome] at hs
  obtain⟨x,hx,hp⟩:=hs
  rw[Array.any_eq_true]
  obtain⟨i,hi,rfl⟩:=Array.mem_iff_getElem.mp hx
  exact⟨i,hi,hp⟩
 have hh:nsHas name o=pure true:=by
  rw[nsHas_eq];unfold nsHasByArray;rw[hd]
  show (if (es.any λ x=>x.key.isStr name)=true then _ else _)=_
  rw[has];rfl
 unfold nsDel
 refine a9 (wpAny_loadPart ho ?_)
 rw[hh]
 refine a9 (j9 ?_)
 rw[ugc rfl]
 refine a9 (wpAny_updatePart ho (j9 ?_))
 obtain⟨cl,d,dt,sl⟩:=o
 subst hd
 cases hi:es.findIdx? (·.key.isStr name) with
 | none =>
  rw[Array.findIdx?_eq_none_iff] at hi
  rw[Array.any_eq_true] at has
  obtain⟨i,h1,h2⟩:=has
  have:=hi _ (Array.getElem_mem h1)
  rw[h2] at this;cases this
 | some i =>
  have e1:(Obj.dropName name ⟨cl,d,.dict es ep,sl⟩)=⟨cl,d,.dict (es.eraseIdxIfInBounds i) (ep+1),sl⟩:=by
   simp only [Obj.dropName_eq,Obj.dropNameByArray,hi] <;> rfl
  have g:=ucf (Obj.dropName name) ho (by rw[e1];rfl)
  rw[e1] at g
  refine hQ _ (nsFind (es.eraseIdxIfInBounds i)) ⟨_,_,_,g,rfl,hk.erase i,λ _=>rfl⟩ (λ x nx=>?_) (uea ..)
  rw[← hm x]
  unfold nsFind findBy
  rw[← udx,← udx,Array.toList_eraseIdxIfInBounds]
  rw[jW]
  intro y hy
  obtain⟨h1,h2,_⟩:=Array.findIdx?_eq_some_iff_getElem.mp hi
  rw[uek,ufu h1] at hy
  cases hy
  exact zF h2 nx
theorem nameGoesS {env:Env}{n:Str}{pos:Pos}{m:Str->Option d7}{Q:Unit->d8->Prop}(hl:env.kindOf n=some .local)(hn:s.heap.Ns env.locals m)
  (hp:(env.scope.kind==.class||(env.scope.kind==.module&&env.locals != env.globals))=false)
  (h:∀ h' m',h'.Ns env.locals m'->(∀ x,x≠n->m' x=m x)->Heap.SameBut env.locals s.heap h'->Q () { s with heap:=h',toks:=s.toks+1 }) :
  p8 M A (do bindName env n .none;unbindBehindTheSuite env n pos) Q E s:=by
 refine a9 (wpAny_bindName (wpAny_storeName_local hl hn (λ h1 n1 s1=>?_) hp))
 unfold unbindBehindTheSuite
 refine ueu ?_
 unfold unbindName
 refine a9 (wpAny_point (a9 ?_))
 unfold deleteName
 simp only [hl,hp]
 rw[ugd (by decide)]
 refine a9 (nsDelS n1 (by simp) λ h2 m2 n2 k2 s2=>?_)
 simp only [if_true,Bool.not_true,uaw,if_false]
 exact j9 (wpAny_point (h h2 m2 n2 (λ x nx=>by rw[k2 x nx];simp [nx]) (s1.trans s2)))
end
end X9
namespace L3
open PySem PySem.Spec PyProof.Rows L2 X9
def CX1 (P:m9)(w:uaf):CXT:=λ outer H s E e s'=>∃ a C T H',e=.ref a/\s'.os=s.os/\AllBare s'.gens/\Un (frs outer) [] H H' s.heap s'.heap/\HOk P w H' s'.heap/\Fly s'.heap a (.ref C) T /\
 s.heap.get? a=none/\s.heap.get? T=none/\H' a=none/\H' T=none/\E (.ref C) none H'
section
variable {X:Cx}{pins:List (j7 × Obj)}{σ:L2.St}{H:Hp}{s:d8}
theorem iE (I:Inv X pins σ H s)(hex:X.ex=[]){h2:Heap}{a:j7}{Xs:List j7}(cg:Chg (frs X.stack) a Xs s.heap h2)(ha:X.s₀.heap.get? a=none/\H a=none)(hx:∀ b∈Xs,X.s₀.heap.get? b=none/\H b=none) :
  Un X.fs [] X.H₀ H X.s₀.heap h2/\HOk X.prog X.w H h2:=by
 have old:∀ b o,X.s₀.heap.get? b=some o->b≠a/\b∉Xs:=λ b o e=>by
  exact⟨λ z=>(by rw[z,ha.1] at e;cases e),λ z=>(by rw[(hx b z).1] at e;cases e)⟩
 have nL:∀ b o,X.s₀.heap.get? b=some o->b≠X.env.locals:=λ b o e z=>by
  have l:=j8 e
  exact ubh _ (o8 l (z ▸ I.ok.above))
 have ub:Un X.fs [] X.H₀ H X.s₀.heap s.heap:=by have:=I.base;rw[hex] at this;exact this
 refine⟨⟨λ b o e n nf _=>?_,λ b o e n mf _=>?_,ub.free,λ b o e _=>?_,ub.tups,ub.frzs,ub.tbls⟩,λ b u e=>?_⟩
 ·have e1:=ub.keep b o e n nf (by simp)
  refine cg.keep b o (λ z=>?_) (old b o e).1 (old b o e).2 e1
  rcases l7.mp (I.stkSub b z) with q | q
  ·exact nL b o e q
  ·exact nf q
 ·obtain⟨sl,e1⟩:=ub.slot b o e n mf (by simp)
  obtain⟨sl',e2⟩:=cg.slot b _ (old b o e).1 (old b o e).2 e1
  exact⟨sl',e2⟩
 ·obtain⟨o',e1⟩:=ub.there b o e (by simp)
  obtain⟨sl,e2⟩:=cg.slot b _ (old b o e).1 (old b o e).2 e1
  exact⟨_,e2⟩
 ·refine (I.hok b u e).stay (λ c v hc q=>?_) (λ _ q=>q) λ _ _ q=>q
  have hc':H c≠none:=by
   rcases hc with z | z
   ·rw[z,e];simp
   ·rw[z];simp
  exact cg.keep c v (λ z=>hc' (I.stkFree c z)) (λ z=>hc' (z ▸ ha.2)) (λ z=>hc' (hx c z).2) q
end
theorem cQ {X:Cx}{pins:List (j7 × Obj)}{σ:L2.St}{H:Hp}{s:d8}(I:Inv X pins σ H s)(hex:X.ex=[]){a:j7}(h:s.heap.get? a=none):X.s₀.heap.get? a=none:=by
 cases e:X.s₀.heap.get? a with
 | none=>rfl
 | some o =>
  obtain⟨o',e'⟩:=I.base.there a o e (by rw[hex];simp)
  rw[h] at e';cases e'
theorem kJ {P:m9}{w:uaf}{H:Hp}{h:Heap}{a:j7}:∀ {u:HO},ObjOk P w H h a u->∃ o,h.get? a=some o:=by
 intro u x
 induction u with
 | lst xs=>obtain⟨_,_,_,_,e⟩:=x;exact⟨_,e⟩
 | tup xs=>obtain⟨_,_,_,o,e,_⟩:=x;exact⟨o,e⟩
 | dK kvs=>obtain⟨_,_,_,_,o,_,_,e,_⟩:=x;exact⟨o,e⟩
 | dT kvs=>obtain⟨_,_,_,_,o,_,_,e,_⟩:=x;exact⟨o,e⟩
 | set S n=>obtain⟨o,_,_,_,e,_⟩:=x;exact⟨o,e⟩
 | ins C dx fs=>obtain⟨_,_,_,e,_⟩:=x;exact⟨_,e⟩
 | own _=>exact x
 | xd fs=>obtain⟨_,⟨o,_,_,e,_⟩,_⟩:=x;exact⟨o,e⟩
 | rng lo hi=>obtain⟨_,_,_,e⟩:=x;exact⟨_,e⟩
 | frz o u _=>exact⟨_,x.1⟩
 | tbl ps=>exact⟨_,x⟩
 | met f y=>exact⟨_,x⟩
 | ext φ=>exact x.2.1
theorem zae {P:m9}{w:uaf}{H:Hp}{h:Heap}(x:HOk P w H h){a:j7}(e:h.get? a=none):H a=none:=by
 cases q:H a with
 | none=>rfl
 | some u=>obtain⟨o,z⟩:=kJ (x a u q);rw[e] at z;cases z
theorem passes1 {P:m9}{w:uaf}{K:a8}{mg:Str->Option d7}{base:Heap}{N:List Str}{qual:Str}{scope:ucd}{f:j7}{cd:d7}{A:v7}{outer:List Env}{s:d8}{H:Hp}{E:XK} :
  Passes (CX1 P w) (cxOf (CX1 P w) P w K mg base N qual scope f cd A outer s H E) E:=by
 intro pins σ H1 s1 e s2 I h
 obtain⟨a,C,T,H2,rfl,os,bare,un,hok,fl,la,lT,na,nT,q⟩:=h
 have I2:Inv (cxOf (CX1 P w) P w K mg base N qual scope f cd A outer s H E) pins σ H2 s2:=I.call' os un hok bare (λ b z=>absurd z (by simp))
 have sz:=I.sz
 show p8 _ _ (leaving _ _) _ _ _
 refine xI (base:=base) I2.ok.frames I2.stack rfl fl λ h' T' lt cg fl'=>?_
 obtain⟨u,ho⟩:=iE I2 rfl cg ⟨cQ I rfl la,na⟩ (λ b hb=>by rw[j6.mp hb];exact⟨cQ I rfl lT,nT⟩)
 refine⟨a,C,T',H2,rfl,I2.os,I2.bare,u,ho,fl',cQ I rfl la,cQ I2 rfl (udh lt),na,I2.hok.fresh lt,q⟩
def nsB (K:a8)(N:j7)(x:Str):Bool:=match K.lookup N with
 | some ⟨_,_,.dict es _,_⟩=>(es.toList.all λ e=>match e.key with | .str _ _=>true | _=>false)&&(es.toList.find? (·.key.isStr x)).isNone
 | _=>false
theorem pD {K:a8}{N:j7}{x:Str}(e:nsB K N x=true):∃ m:Str->Option d7,m x=none/\∀ h:Heap,K.In h->h.Ns N m:=by
 unfold nsB at e
 split at e
 ·rename_i c d es n sl ho
  obtain⟨e1,e2⟩:=(w8 _ _).mp e
  refine⟨nsFind es,?_,λ h X=>⟨_,es,n,X _ _ ho,rfl,λ en hen=>?_,λ _=>rfl⟩⟩
  rotate_left
  ·have:=uad.mp e1 en (uew.mpr hen)
   cases k:en.key with
   | str y t=>exact⟨y,t,rfl⟩
   | _=>rw[k] at this;cases this
  ·unfold nsFind findBy
   rw[← udx]
   cases z:es.toList.find? (·.key.isStr x) with
   | none=>rfl
   | some y=>rw[z] at e2;cases e2
 ·cases e
inductive TailK (K:a8):List d7->Prop
 | base:TailK K [.type "ValueError",.type "Exception",.type "BaseException",.type "object"]
 | own {A:j7} {c0:d7} {dd:Option j7} {cd:ClassData} {sl:Array (Option d7)} {tl:List d7}:K.lookup A=some ⟨c0,dd,.cls cd,sl⟩->nsB K cd.ns "__init__"=true->TailK K tl->TailK K (.ref A::tl)
theorem TailK.tail {K:a8}{h:Heap}{l:List d7}(X:K.In h)(t:TailK K l):OwnTail h [.type "ValueError",.type "Exception",.type "BaseException",.type "object"] l:=by
 induction t with
 | base=>exact .base
 | own a b _ ih=>obtain⟨m,h1,h2⟩:=pD b;exact .own (X _ _ a) (h2 h X) h1 ih
def XM (K:a8)(C:j7):Prop:=∃ nm q N bs bm hdct sn sub ab col dd k0 k1 k2 k3 k5,K.lookup C=some (excClassObj nm q C N bs bm hdct sn sub ab col dd k0 k1 k2 k3 k5 "ValueError.__new__")/\nsB K N "__init__"=true/\TailK K bm/\bm.contains (.type "BaseException")=true
theorem wV {P:m9}{w:uaf}{K:a8}{mg:Str->Option d7}{base:Heap}{N:List Str}{qual:Str}{scope:ucd}{f:j7}{cd:d7}{A:v7}{outer:List Env}{s:d8}{H:Hp}{E:XK}{x:Str}{C:j7}{np cpos pos:Pos}{m:Str}{j:Nat}{p2:Pos}
  (hh:A.handled=none) (hg:Gl (cxOf (CX1 P w) P w K mg base N qual scope f cd A outer s H E) x) (hm:mg x=some (.ref C)) (c:XM K C) (hdb:(x==("__debug__":Str))=false:=by decide) :
  PS (cxOf (CX1 P w) P w K mg base N qual scope f cd A outer s H E) (.Raise (some (.Call (.Name x np) [.Constant (.str m) j p2] [] cpos)) none pos) (λ _ _ H1=>E (.ref C) none H1):=by
 intro pins s1 σ H1 D I h
 obtain⟨nm,q,NN,bs,bm,hdct,sn,sub,ab,col,dd,k0,k1,k2,k3,k5,hC,hN,hT,hb⟩:=c
 have B:=F.excBase_ValueError
 obtain⟨mN,hni,hns⟩:=pD hN
 refine wpAny_Raise_call_subU (nm:=nm) (q:=q) (N:=NN) (bs:=bs) (bm:=bm) (hdct:=hdct) (sn:=sn) (sub:=sub) (ab:=ab) (col:=col) (dd:=dd) (k0:=k0) (k1:=k1) (k2:=k2) (k3:=k3) (k5:=k5) B (by decide) B (mN:=mN) hb hh rfl hni (dM I hg hm ⟨rfl,?_⟩ hdb)
 refine PySem.Calls.evalArgs_plain (x:=eval (.Constant (.str m) j p2) _) (rest:=[]) ?_
 have pa:=aA (X:=cxOf (CX1 P w) P w K mg base N qual scope f cd A outer s H E) (dP (x:=m) (j:=j) (pos:=p2)) aB
 refine thn (pa cpos pins s1 σ H1 (λ vs J=>vs.length<=1000/\E (.ref C) none J) I ⟨(by show 1<=1000;decide),h⟩) λ us s2 ⟨vs,H2,I2,r,l1,q2⟩=>?_
 have X2:=I2.kIn
 refine⟨rfl,?_,X2 _ _ hC,hns _ X2,hT.tail X2,λ h' e mx=>?_⟩
 ·show us.length<=p9
  rw[← r.length];exact w6 l1 (by decide)
 obtain⟨tt,he,hnt,htt⟩:=mx.there
 have I3:Inv (cxOf (CX1 P w) P w K mg base N qual scope f cd A outer s H E) pins σ H2 { s2 with heap:=h' }:=I2.kept mx.keeps
 show p8 _ _ (leaving _ _) _ _ _
 refine vO (base:=base) I3.ok.frames I3.stack rfl he rfl rfl rfl λ h2 T lt cg fl=>?_
 have fe:=zae I2.hok mx.new
 obtain⟨u,ho⟩:=iE I3 rfl cg ⟨cQ I2 rfl mx.new,fe⟩ (λ b hb=>by cases hb)
 exact⟨e,C,T,H2,rfl,I3.os,I3.bare,u,ho,fl,cQ I2 rfl mx.new,cQ I3 rfl (udh lt),fe,I3.hok.fresh lt,q2⟩
def OkX (P:m9)(w:uaf)(K:a8)(mg:Str->Option d7)(base:Heap)(k:Nat)(x:Str)(ps:List Str)(sp:Sp):Prop :=
 ∃ (f:j7)(fd:ubm),FnOk P w K mg base (CX1 P w) k f fd ps sp/\Binds K fd ps []/\ua6 K (.ref f)=true/\mg x=some (.ref f)
section
variable {P:m9}{w:uaf}{K:a8}{mg:Str->Option d7}{base:Heap}{x:Str}{ps N:List Str}{sp:Sp}{k:Nat}{st:ubv}
theorem OkX.mono {j:Nat}(O:OkX P w K mg base j x ps sp)(h:j<=k):OkX P w K mg base k x ps sp:=let ⟨f,fd,F,r⟩:=O;⟨f,fd,F.mono h,r⟩
theorem dR (D:DefOk K mg x st ps)(S:FnScope N ps (defScope st))(len:∀ vs H Q E,sp vs H Q E->vs.length=ps.length)
  (hbody:∀ (f:j7)(cdv:d7)(A:v7)(outer:List Env)(s:d8)(H:Hp)(vs:List V)(Q:VK)(E:XK),Room k (A.deeper (envOfC x (defScope st) s.heap.objs.size f cdv))->sp vs H Q E ->
   ∃ t,PSs (cxOf (CX1 P w) P w K mg base N x (defScope st) f cdv A outer s H E) (defBody st) t/\t { nx:=λ _ H'=>Q .non H',rt:=Q } (start N vs) H):OkX P w K mg base (k+1) x ps sp:=by
 obtain⟨f,fd,F,b,m⟩:=D
 have kp:=F.kp
 obtain⟨oc,od,kV,doc,pm,an,cdv,ct,osl,rfl,lk,hcd⟩:=F.ex
 exact⟨f,_,jI lk hcd S len λ A outer s H vs Q E hr h=>hbody f cdv A outer s H vs Q E hr h,b,kp,m⟩
theorem cO {qual:Str}{scope:ucd}{f:j7}{cd:d7}{A:v7}{outer:List Env}{s:d8}{H:Hp}{E:XK}{p pos:Pos}{e:ua9}{es:List ua9}{t:TA}(O:OkX P w K mg base k x ps sp)
  (hr:Room k (cxOf (CX1 P w) P w K mg base N qual scope f cd A outer s H E).A) (hg:Gl (cxOf (CX1 P w) P w K mg base N qual scope f cd A outer s H E) x) (ha:PA (cxOf (CX1 P w) P w K mg base N qual scope f cd A outer s H E) (e::es) t)
  (hdb:(x==("__debug__":Str))=false:=by decide) (he:uaa (e::es) (cxOf (CX1 P w) P w K mg base N qual scope f cd A outer s H E).env=(false,eval e (cxOf (CX1 P w) P w K mg base N qual scope f cd A outer s H E).env)::uaa es (cxOf (CX1 P w) P w K mg base N qual scope f cd A outer s H E).env:=by rfl) (hpl:(backTo pos (uaa es (cxOf (CX1 P w) P w K mg base N qual scope f cd A outer s H E).env)).any (·.1)=false:=by rfl) :
  PE (cxOf (CX1 P w) P w K mg base N qual scope f cd A outer s H E) (.Call (.Name x p) (e::es) [] pos) (tCall sp [] E t):=by
 obtain⟨g,fd,F,b,kp,m⟩:=O
 exact nO F hr hg m kp b .nil passes1 ha hdb he hpl
end
theorem PA.nox {X:Cx}{es:List ua9}{t:TA}(h:PA X.nox es t):PA X es t:=λ pos pins s σ H Q I hw =>
 ua1 (h pos pins s σ H Q (I.wish _) hw) (λ _ _ ⟨v,H',I',r,q⟩=>⟨v,H',I'.unwish,r,q⟩) λ _ _ z=>False.elim z
theorem yJ {X:Cx}{k:Nat}{x:Str}{ps:List Str}{sp:Sp}{E:XK}{p pos:Pos}{e:ua9}{es:List ua9}{t:TA}(O:OkX X.prog X.w X.K X.mg X.base k x ps sp)(hr:Room k X.A)(hg:Gl X x)(ha:PA X.nox (e::es) t)
  {pins:List (j7 × Obj)} {s:d8} {σ:L2.St} {H:Hp} {Q:VK} {Z:d7->d8->Prop} (I:Inv X pins σ H s) (h:t σ H λ vs H1=>sp vs H1 Q E)
  (hz:∀ H1 s1 ev s',Inv X pins σ H1 s1->CX1 X.prog X.w X.stack H1 s1 E ev s'->Z ev s')
  (hdb:(x==("__debug__":Str))=false:=by decide) (he:uaa (e::es) X.env=(false,eval e X.env)::uaa es X.env:=by rfl) (hpl:(backTo pos (uaa es X.env)).any (·.1)=false:=by rfl) :
  p8 (z9 X.prog X.w) X.A (eval (.Call (.Name x p) (e::es) [] pos) X.env) (EP X pins σ Q) Z s:=by
 obtain⟨f,fd,F,hb,hk,hm⟩:=O
 have ha':PA (X.wish Z) (e::es) t:=PA.nox (X:=X.wish Z) ha
 have I':Inv (X.wish Z) pins σ H s:=I.wish Z
 refine ub2 (dM I hg hm ?_ hdb)
 refine uex (h₀:=X.base) I.ok.mod.kin hk (thn (ha' pos pins s σ H _ I' h) λ us s1 ⟨vs,H1,I1,r,q⟩=>⟨I1.kIn,?_⟩) he hpl
 have J:=I1.unwish
 have hl:us.length=ps.length:=by rw[← r.length];exact F.len _ _ _ _ q
 have bd:=hb s1 us J.kIn (by rw[ubi];exact hl)
 rw[ubi] at bd
 refine ue1 (ucy (F.run X.A X.stack s1 H1 ⟨us,[]⟩ us vs Q E hr J.env0 bd r q) λ rr s2 hq=>?_)
 cases rr with
 | error ev=>exact hz H1 s1 ev s2 J hq
 | ok fl =>
  cases fl with
  | ret u=>exact J.after hq
  | next=>exact False.elim hq
  | brk=>exact False.elim hq
  | cont=>exact False.elim hq
section
variable {X:Cx}{pins:List (j7 × Obj)}{σ:L2.St}{H:Hp}{s:d8}
structure Off (X:Cx)(pins:List (j7 × Obj))(H:Hp)(a:j7):Prop where
 s0:X.s₀.heap.get? a=none
 no:H a=none
 lc:a≠X.env.locals
 cl:∀ x c,X.env.cells.lookup x=some c->c≠a
 pn:∀ p∈X.pn++pins,p.1≠a
theorem iU (I:Inv X pins σ H s)(hex:X.ex=[]){a:j7}(h:s.heap.get? a=none){H':Hp}(n:H' a=none):Off X pins H' a:=by
 refine⟨cQ I hex h,n,λ z=>?_,λ x c e z=>?_,λ p hp z=>?_⟩
 ·obtain⟨m,⟨o,_,_,ho,_⟩,_⟩:=I.loc
  rw[← z,h] at ho;cases ho
 ·obtain⟨v,o,ho,_⟩:=I.cell x c e
  rw[z,h] at ho;cases ho
 ·have:=(I.pin p hp).1
  rw[z,h] at this;cases this
theorem mJ (I:Inv X pins σ H s)(hex:X.ex=[]){h2:Heap}{a:j7}{Xs:List j7}{tk:Nat}(cg:Chg (frs X.stack) a Xs s.heap h2)(oa:Off X pins H a)(ox:∀ b∈Xs,Off X pins H b) :
  Inv X pins σ H { s with heap:=h2,toks:=tk }:=by
 obtain⟨u,ho⟩:=iE I hex cg ⟨oa.s0,oa.no⟩ λ b hb=>⟨(ox b hb).s0,(ox b hb).no⟩
 have nx:∀ b,(∀ z∈Xs,b≠z)->b∉Xs:=λ b h z=>h b z rfl
 have cellK:∀ x c,X.env.cells.lookup x=some c->∀ v,s.heap.IsCell c v->h2.IsCell c v:=λ x c e v ⟨o,e1,e2⟩=>by
  obtain⟨sl,q⟩:=cg.slot c o (oa.cl x c e) (nx c λ z hz=>(ox z hz).cl x c e) e1
  exact⟨_,q,e2⟩
 refine⟨I.ok,I.os,I.bare,by rw[hex];exact u,?_,λ x c e=>?_,I.free,I.freeC,λ p hp=>?_,ho,I.len⟩
 ·obtain⟨m,⟨o,es,ep,e1,e2,r⟩,hl⟩:=I.loc
  obtain⟨sl,q⟩:=cg.slot _ o oa.lc.symm (nx _ λ z hz=>(ox z hz).lc.symm) e1
  refine⟨m,⟨_,es,ep,q,e2,r⟩,λ i x v h1 h2' h3=>?_⟩
  obtain⟨uu,rr,l⟩:=hl i x v h1 h2' h3
  refine⟨uu,rr,?_⟩
  rcases l with l | ⟨k,c,e,z⟩
  ·exact .inl l
  ·exact .inr ⟨k,c,e,cellK x c e _ z⟩
 ·obtain⟨v,z⟩:=I.cell x c e
  exact⟨v,cellK x c e v z⟩
 ·obtain⟨e,n,ne,nf,d⟩:=I.pin p hp
  refine⟨cg.keep p.1 p.2 (λ z=>?_) (oa.pn p hp) (nx _ λ z hz=>(ox z hz).pn p hp) e,n,ne,nf,d⟩
  rcases l7.mp (I.stkSub p.1 z) with q | q
  ·exact ne q
  ·exact nf q
theorem vT (I:Inv X pins σ H s){a:j7}{φ:Heap->Prop}(oa:Off X pins H a)(hφ:φ s.heap)(he:∃ o,s.heap.get? a=some o)(st:∀ h1 h2:Heap,φ h1->(∀ o,h1.get? a=some o->h2.get? a=some o)->φ h2):Inv X pins σ (upd H a (.ext φ)) s:=by
 have neK:∀ b u,H b=some u->b≠a:=λ b u e z=>by rw[z,oa.no] at e;cases e
 refine⟨I.ok,I.os,I.bare,⟨I.base.keep,I.base.slot,λ b o e n hx=>?_,I.base.there,λ b xs e=>?_,λ b o u e=>?_,λ b ps e=>?_⟩,I.loc,I.cell,?_,λ x c e=>?_,λ p hp=>?_,λ b u e=>?_,I.len⟩
 ·rw[aD (λ z=>by rw[z,oa.s0] at e;cases e)];exact I.base.free b o e n hx
 ·have:=I.base.tups b xs e
  rw[aD (neK b _ this)];exact this
 ·have:=I.base.frzs b o u e
  rw[aD (neK b _ this)];exact this
 ·obtain⟨more,this⟩:=I.base.tbls b ps e
  exact⟨more,by rw[aD (neK b _ this)];exact this⟩
 ·rw[aD oa.lc.symm];exact I.free
 ·rw[aD (oa.cl x c e)];exact I.freeC x c e
 ·obtain⟨e,n,ne,nf,d⟩:=I.pin p hp
  exact⟨e,by rw[aD (oa.pn p hp)];exact n,ne,nf,d⟩
 ·by_cases z:b=a
  ·subst z
   rw[aH] at e
   cases e
   exact⟨hφ,he,st⟩
  ·rw[aD z] at e
   refine (I.hok b u e).stay (λ _ _ _ q=>q) (λ c q=>?_) λ c xs q=>?_
   ·rw[aD (neK c _ q)];exact q
   ·rw[aD (neK c _ q)];exact q
abbrev Cx.within (X:Cx)(v:d7):Cx:={ X with A:=X.A.mark (some v),calm:=false,xe:=λ _ _=>False }
theorem Inv.within (I:Inv X pins σ H s)(v:d7):Inv (Cx.within X v) pins σ H s :=
 ⟨⟨I.ok.mod,I.ok.kind,I.ok.glob,I.ok.blt,I.ok.above,I.ok.inj,I.ok.has,I.ok.cab,λ z=>(by cases z),I.ok.frames,I.ok.stk,I.ok.exf,I.ok.bs,I.ok.bsz,I.ok.noex,I.ok.exfs,I.ok.funs,I.ok.frf⟩,I.os,I.bare,I.base,I.loc,I.cell,I.free,I.freeC,I.pin,I.hok,I.len⟩
theorem Inv.without (hd:X.calm=true->X.A.handled=none){v:d7}(I:Inv (Cx.within X v) pins σ H s):Inv X pins σ H s :=
 ⟨⟨I.ok.mod,I.ok.kind,I.ok.glob,I.ok.blt,I.ok.above,I.ok.inj,I.ok.has,I.ok.cab,hd,I.ok.frames,I.ok.stk,I.ok.exf,I.ok.bs,I.ok.bsz,I.ok.noex,I.ok.exfs,I.ok.funs,I.ok.frf⟩,I.os,I.bare,I.base,I.loc,I.cell,I.free,I.freeC,I.pin,I.hok,I.len⟩
end
def caughtE (K:a8)(B:j7)(i j:Nat)(nx:L2.St->Hp->Prop)(σ:L2.St):XK:=λ C _ H=>∃ c,C=.ref c/\PySem.W.exmOne K (.ref c) (.ref B)=some true /\
 ∀ a,H a=none->nx (((σ.set j (some (.ref a))).set i (some (.ref a))).set j none) (upd H a (.ext (IsX a c)))
theorem xL {a c:j7}(h1 h2:Heap)(x:IsX a c h1)(k:∀ o,h1.get? a=some o->h2.get? a=some o):IsX a c h2:=let ⟨o,e,r⟩:=x;⟨o,k o e,r⟩
theorem zaf {h:Heap}{a c T:j7}(f:Fly h a (.ref c) T):IsX a c h:=let ⟨⟨o,vs,e,ec,ed,_,en⟩,_,_⟩:=f;⟨o,e,ec,⟨vs,ed⟩,en⟩
theorem vV {X:Cx}{pins:List (j7 × Obj)}{σ:L2.St}{H1:Hp}{s1 s2:d8}{ev:d7}{D:Ends}{Z:d7->d8->Prop}{B:j7}{i j:Nat}{tn en cn:Str}{tp cp ep apos hpos:Pos}
  (hex:X.ex=[]) (hst:X.stack=X.env::X.outer) (hfr:X.env.frame=some X.env.locals) (hcm:X.A.handled=none) (hN:X.N.Nodup) (hi:X.N[i]?=some cn) (hj:X.N[j]?=some en) (hij:i≠j)
  (li:X.env.scope.names.lookup cn=some .local) (lj:X.env.scope.names.lookup en=some .local) (hg:Gl X tn) (hm:X.mg tn=some (.ref B)) (hdb:(tn==("__debug__":Str))=false) (hdc:(en==("__debug__":Str))=false) (hcc:(en==("__classdict__":Str))=false)
  (hsw:swapsWith (.Name en ep) (some (.Name cn cp)) apos.line X.env=pure false)
  (I:Inv X pins σ H1 s1) (h:CX1 X.prog X.w X.stack H1 s1 (caughtE X.K B i j D.nx σ) ev s2) :
  p8 (z9 X.prog X.w) X.A (noteFrame ev X.env) (λ _ s3=>p8 (z9 X.prog X.w) X.A (setFlight ev none) (λ _ s4=>p8 (z9 X.prog X.w) X.A (handleBy ev X.env [.ExceptHandler (some (.Name tn tp)) (some en) [.Assign [.Name cn cp] (.Name en ep) apos] hpos]) (SP X pins D) Z s4) Z s3) Z s2:=by
 obtain⟨a,C0,T,H2,rfl,os,bare,un,hok,fl,la,lT,na,nT,c,ec,ex,nx⟩:=h
 have e0:c=C0:=by injection ec with z;exact z.symm
 subst e0
 have I2:Inv X pins σ H2 s2:=I.call' os un hok bare (λ b z=>absurd z (by simp))
 have oa:Off X pins H2 a:=iU I hex la na
 have oT:Off X pins H2 T:=iU I hex lT nT
 have ff:=I2.stack
 have fr:=I2.ok.frames
 rw[hst] at ff fr
 refine zW (base:=X.base) fr ff hfr fl λ h3 T3 lt cg fl3=>?_
 rw[show (X.env::X.outer).filterMap (·.frame)=frs X.stack by rw[hst];rfl] at cg
 have I3:Inv X pins σ H2 { s2 with heap:=h3 }:=mJ I2 hex cg oa λ b hb=>by rw[j6.mp hb];exact oT
 have oT3:Off X pins H2 T3:=iU I2 hex (udh lt) (I2.hok.fresh lt)
 have W3:=Inv.within I3 (.ref a)
 refine wpAny_handleBy_cons (codeAny_handlers_test ?_) (by intro q;cases q)
 refine dM (X:=Cx.within X (.ref a)) W3 hg hm ?_ hdb
 have LT:PySem.W.Looks (z9 X.prog X.w) h3 (typeOf (.ref a)) (.ref c):=let ⟨_,J⟩:=(zaf fl3).no;J.type
 refine (PySem.W.exm_one I3.kIn LT ex).at ?_
 show codeAny _ _ _ _ _
 refine codeAny_handlers_suite_as ?_
 obtain⟨⟨oe,vs,ha,hc,dv,v1,dn⟩,⟨oT',ts,hT,dT,t3⟩,ne⟩:=fl3
 refine wpAny_setFlight_none ha dv v1 hT dT (ubd.mp t3).1 ?_
 have cg4:Chg (frs X.stack) a [T3] h3 (h3.update T3 (Obj.mapFields (·.setIfInBounds 3 .none))):=by
  refine⟨λ b o _ _ n e=>?_,λ b o _ n e=>⟨o.slots,?_⟩,ubl (ua7 ..).symm⟩
  ·rw[p6 _ _ (λ z=>n (by simp [z]))];exact e
  ·rw[p6 _ _ (λ z=>n (by simp [z]))];exact e
 have I4:Inv X pins σ H2 { s2 with heap:=h3.update T3 (Obj.mapFields (·.setIfInBounds 3 .none)) }:=mJ I3 hex cg4 oa λ b hb=>by rw[j6.mp hb];exact oT3
 have x4:IsX a c (h3.update T3 (Obj.mapFields (·.setIfInBounds 3 .none))):=⟨oe,(p6 _ _ ne).trans ha,hc,⟨vs,dv⟩,dn⟩
 have I5:Inv X pins σ (upd H2 a (.ext (IsX a c))) _:=vT I4 oa x4 (let ⟨o,e,_⟩:=x4;⟨o,e⟩) xL
 have W5:=Inv.within I5 (.ref a)
 refine hW (X:=Cx.within X (.ref a)) (v:=.ref a) W5 hN hj (.inl lj) rfl (λ s6 W6=>?_) (.inr lj)
 have as_:=aF (aO (X:=Cx.within X (.ref a)) (i:=i) (pos:=apos) (pos':=cp) hN hi (.inl li) (iS (X:=Cx.within X (.ref a)) (i:=j) (pos:=ep) hj (.inl lj) hdc hcc) hsw (.inr li))
 refine ua1 (as_ pins s6 _ _ { nx:=λ τ J=>τ=(σ.set j (some (.ref a))).set i (some (.ref a))/\J=upd H2 a (.ext (IsX a c)),rt:=λ _ _=>False } W6 ⟨_,?_,rfl,rfl⟩) (λ fl s7 q=>?_) λ _ _ z=>z.elim
 ·have jl:j<σ.length:=by rw[I2.len];exact (i8.mp hj).1
  rw[uca jl]
 cases fl with
 | next =>
  obtain⟨τ,J,W7,rfl,rfl⟩:=q
  have I7:=Inv.without (X:=X) (λ _=>hcm) W7
  obtain⟨m,hn,hl⟩:=I7.loc
  have hcls:(X.env.scope.kind==.class||(X.env.scope.kind==.module&&X.env.locals != X.env.globals))=false:=by rw[I7.ok.kind];rfl
  show p8 _ _ _ _ _ _
  refine nameGoesS lj hn hcls λ h8 m8 n8 k8 sb=>?_
  refine⟨((σ.set j (some (.ref a))).set i (some (.ref a))).set j none,_,?_,nx a na⟩
  have trk:HOk X.prog X.w (upd H2 a (.ext (IsX a c))) h8:=λ b ob e=>(I7.hok b ob e).stay (λ cc w' hc' q=>(sb.2 cc (λ z=>by
   subst z
   rcases hc' with z | z
   ·rw[← z,I7.free] at e;cases e
   ·rw[I7.free] at z;cases z)).trans q) (λ _ q=>q) λ _ _ q=>q
  obtain⟨oL,_,_,hoL,_⟩:=id hn
  refine⟨I7.ok,I7.os,I7.bare,⟨λ b o e n hb hx=>?_,λ b o e n hb hx=>?_,I7.base.free,λ b o e hx=>?_,I7.base.tups,I7.base.frzs,I7.base.tbls⟩,⟨m8,n8,λ k y v e1 e2 e3=>?_⟩,λ y cc e=>?_,I7.free,I7.freeC,λ p hp=>?_,trk,by simpa using I7.len⟩
  ·exact (sb.2 b (o0 (o8 (j8 e) I7.ok.above))).trans (I7.base.keep b o e n hb hx)
  ·obtain⟨sl,e1⟩:=I7.base.slot b o e n hb hx
   exact⟨sl,(sb.2 b (o0 (o8 (j8 e) I7.ok.above))).trans e1⟩
  ·obtain⟨o',e1⟩:=I7.base.there b o e hx
   exact⟨o',(sb.2 b (o0 (o8 (j8 e) I7.ok.above))).trans e1⟩
  ·by_cases hk:k=j
   ·subst hk
    have jl:k<((σ.set k (some (.ref a))).set i (some (.ref a))).length:=by rw[ual,ual,I2.len];exact (i8.mp hj).1
    rw[uca jl] at e2;cases e2
   ·rw[udm (Ne.symm hk)] at e2
    obtain⟨u',r',q⟩:=hl k y v e1 e2 e3
    refine⟨u',r',?_⟩
    rcases q with ⟨kk,e⟩ | ⟨kk,cc,e,z⟩
    ·exact .inl ⟨kk,by rw[k8 y (λ e=>hk (iB hN e1 (e ▸ hj)))];exact e⟩
    ·exact .inr ⟨kk,cc,e,z.sameBut sb (I7.cne y cc e)⟩
  ·obtain⟨w',z⟩:=I7.cell y cc e
   exact⟨w',z.sameBut sb (I7.cne y cc e)⟩
  ·obtain⟨e,n,ne',nf,d⟩:=I7.pin p hp
   exact⟨(sb.2 p.1 ne').trans e,n,ne',nf,d⟩
 | ret v=>obtain⟨_,_,_,_,_,z⟩:=q;exact z.elim
 | brk=>obtain⟨_,_,_,z⟩:=q;exact z.elim
 | cont=>obtain⟨_,_,_,z⟩:=q;exact z.elim
def tTry (K:a8)(sp:Sp)(B:j7)(i j:Nat)(t:TA):TS:=λ D σ H=>t σ H λ vs H1=>sp vs H1 (λ _ H2=>D.nx σ H2) (caughtE K B i j D.nx σ)
theorem za1 {X:Cx}{k:Nat}{x:Str}{ps:List Str}{sp:Sp}{p pos:Pos}{e:ua9}{es:List ua9}{t:TA}{B:j7}{i j:Nat}{tn en cn:Str}{tp cp ep apos hpos xpos tpos:Pos}
  (O:OkX X.prog X.w X.K X.mg X.base k x ps sp) (hr:Room k X.A) (hg:Gl X x) (ha:PA X.nox (e::es) t) (hN:X.N.Nodup) (hm:X.mg tn=some (.ref B)) (hi:X.N[i]?=some cn:=by rfl) (hj:X.N[j]?=some en:=by rfl) (hij:i≠j:=by decide)
  (li:X.env.scope.names.lookup cn=some .local:=by rfl) (lj:X.env.scope.names.lookup en=some .local:=by rfl) (hgt:Gl X tn:=by rfl)
  (hex:X.ex=[]:=by rfl) (hst:X.stack=X.env::X.outer:=by rfl) (hfr:X.env.frame=some X.env.locals:=by rfl)
  (hdb:(x==("__debug__":Str))=false:=by decide) (hdt:(tn==("__debug__":Str))=false:=by decide) (hdc:(en==("__debug__":Str))=false:=by decide) (hcc:(en==("__classdict__":Str))=false:=by decide)
  (hsw:swapsWith (.Name en ep) (some (.Name cn cp)) apos.line X.env=pure false:=by rfl) (hs:swapsWith (.Call (.Name x p) (e::es) [] pos) none xpos.line X.env=pure false:=by rfl)
  (he:uaa (e::es) X.env=(false,eval e X.env)::uaa es X.env:=by rfl) (hpl:(backTo pos (uaa es X.env)).any (·.1)=false:=by rfl) :
  PS X (.Try [.Expr (.Call (.Name x p) (e::es) [] pos) xpos] [.ExceptHandler (some (.Name tn tp)) (some en) [.Assign [.Name cn cp] (.Name en ep) apos] hpos] [] [] tpos) (tTry X.K sp B i j t):=by
 intro pins s σ H D I h
 refine wpAny_Try_except (uf1 (wpAny_Expr_any (thn (yJ O hr hg ha I h (λ H1 s1 ev s2 J q=>vV hex hst hfr hr.hd hN hi hj hij li lj hgt hm hdt hdc hcc hsw J q) hdb he hpl) λ v s1 ⟨y,H1,I1,r1,q1⟩=>?_) I.quiet hs))
 exact uc5 (uc5 ⟨σ,H1,I1,q1⟩)
section
variable {X:Cx}
inductive call_isiX_i (K:a8)(xs:List V)(H:Hp)(Q:VK):Prop
 | mk:∀ a c C b,(xs=[.ref a,.ref C])->(H a=some (.ext (IsX a c)))->(XC K c)->(uc0 K (.ref c) (.ref C)=some b)->(Q (.bl b) H)->call_isiX_i K xs H Q
theorem wB:CallR X (.builtin "isinstance") (call_isiX_i X.K):=by
 intro pins s σ H xs us Q I r h
 obtain⟨a,c,C,b,rfl,ha,xc,e,q⟩:=h
 obtain⟨u,v,rfl,ru,rv⟩:=r.two
 cases ru;cases rv
 exact uay (iD xc) I.kIn (I.hok _ _ ha).1 e (by intro z;cases z) λ tk=>⟨.bl b,H,I.tok tk,rfl,q⟩
inductive call_isiXB_i (K:a8)(n:String)(xs:List V)(H:Hp)(Q:VK):Prop
 | mk:∀ a c b,(xs=[.ref a,.ty n])->(H a=some (.ext (IsX a c)))->(XC K c)->(uc0 K (.ref c) (.type n)=some b)->(Q (.bl b) H)->call_isiXB_i K n xs H Q
theorem uO {n:String}:CallR X (.builtin "isinstance") (call_isiXB_i X.K n):=by
 intro pins s σ H xs us Q I r h
 obtain⟨a,c,b,rfl,ha,xc,e,q⟩:=h
 obtain⟨u,v,rfl,ru,rv⟩:=r.two
 cases ru;cases rv
 exact uay (iD xc) I.kIn (I.hok _ _ ha).1 e (by intro z;cases z) λ tk=>⟨.bl b,H,I.tok tk,rfl,q⟩
theorem kC:∀ {cs:List j7}{us:List d7},Vals (cs.map V.ref) us->us=cs.map Value.ref
 | [],_,.nil=>rfl
 | c::cs,_,.cons r t=>by cases r;rw[kC t];rfl
inductive call_isiXT_i (K:a8)(xs:List V)(H:Hp)(Q:VK):Prop
 | mk:∀ (a c p:j7)(cs:List j7)(b:Bool),(xs=[.ref a,.ref p])->(H a=some (.ext (IsX a c)))->(H p=some (.tup (cs.map V.ref)))->(XC K c)->(ufo K (.ref c) (cs.map Value.ref)=some b)->(Q (.bl b) H)->call_isiXT_i K xs H Q
theorem jZ:CallR X (.builtin "isinstance") (call_isiXT_i X.K):=by
 intro pins s σ H xs us Q I r h
 obtain⟨a,c,p,cs,b,rfl,ha,hp,xc,e,q⟩:=h
 obtain⟨u,v,rfl,ru,rv⟩:=r.two
 cases ru;cases rv
 obtain⟨_,its,rr,o,e1,e2,⟨n,e3⟩,e4⟩:=(show ObjOk X.prog X.w H s.heap p (.tup (cs.map V.ref)) from I.hok _ _ hp)
 have:=kC rr
 subst this
 obtain⟨oc,od,dt,sl⟩:=o
 cases e2;cases e3;cases e4
 exact PySem.W.kia_tup (iD xc) I.kIn (I.hok _ _ ha).1 e1 e (by intro z;cases z) λ tk=>⟨.bl b,H,I.tok tk,rfl,q⟩
end
end L3
namespace L3
open PySem PySem.Spec PyProof.Rows L2 X9
section
variable {X:Cx}{p pos:Pos}{e:ua9}{es:List ua9}
end
end L3
namespace X9
open PySem PySem.Spec PyProof.Rows
structure FlyA (h:Heap)(a:j7)(C:d7)(T:j7):Prop where
 ex:∃ oe vs,h.get? a=some oe/\oe.cls=C/\oe.data=.fields vs/\vs[1]?=some (.ref T)/\oe.dict=none
 tr:∃ oT ts v,h.get? T=some oT/\oT.data=.fields ts/\ts[3]?=some v
 ne:T≠a
theorem Fly.any {h:Heap}{a:j7}{C:d7}{T:j7}(f:Fly h a C T):FlyA h a C T:=⟨f.ex,let ⟨o,t,h1,h2,h3⟩:=f.tr;⟨o,t,_,h1,h2,h3⟩,f.ne⟩
theorem Chg.refl {S:List j7}{a:j7}{X:List j7}{h:Heap}:Chg S a X h h:=⟨λ _ _ _ _ _ e=>e,λ b o _ _ e=>⟨o.slots,by rw[e]⟩,i7 _⟩
theorem Chg.trans {S:List j7}{a:j7}{X Y:List j7}{h h1 h2:Heap}(c:Chg S a X h h1)(d:Chg S a Y h1 h2):Chg S a (X++Y) h h2 :=
 ⟨λ b o nS na nX e=>d.keep b o nS na (λ z=>nX (l8 _ z)) (c.keep b o nS na (λ z=>nX (u4 _ z)) e),λ b o na nX e=>by
  obtain⟨sl,e1⟩:=c.slot b o na (λ z=>nX (u4 _ z)) e
  obtain⟨sl2,e2⟩:=d.slot b _ na (λ z=>nX (l8 _ z)) e1
  exact⟨sl2,e2⟩,w6 c.sz d.sz⟩
theorem Chg.at (S:List j7)(a T:j7)(h:Heap)(f:Obj->Obj):Chg S a [T] h (h.update T f):=by
 have oth:∀ b,b∉[T]->(h.update T f).get? b=h.get? b:=λ b hb=>p6 _ _ (λ z=>hb (by rw[z];exact j6.mpr rfl))
 exact⟨λ b o _ _ n e=>(oth b n).trans e,λ b o _ n e=>⟨o.slots,(oth b n).trans e⟩,ubl (ua7 ..).symm⟩
section
variable {M:Model}{A:v7}{E:d7->d8->Prop}{s:d8}
end
end X9
namespace L3
open PySem PySem.Spec PyProof.Rows L2
section
variable {X:Cx}
theorem tU {elts es:List ua9}{c:Nat}{p:Pos}{env:Env}:uaa (.Tuple elts c p::es) env=(false,eval (.Tuple elts c p) env)::uaa es env:=by rfl
theorem xB {elts es:List ua9}{c:Nat}{p:Pos}{te:TE}{t:TA}(ha:PE X (.Tuple elts c p) te)(hr:PA X es t):PA X (.Tuple elts c p::es) (tCons te t):=aA ha hr tU
theorem yS {elts es:List ua9}{c:Nat}{p:Pos}{te:TE}{t:TA}(a:BE X (.Tuple elts c p) te)(b:BA X es t):BA X (.Tuple elts c p::es) (tCons te t):=⟨xB a.h b.h⟩
theorem cP {cv:Const}{c:Nat}{p:Pos}{es:List ua9}{te:TE}{t:TA}(a:BE X (.Constant cv c p) te)(b:BA X es t):BA X (.Constant cv c p::es) (tCons te t):=⟨aA a.h b.h (by rfl)⟩
theorem mY {l r:ua9}{op:Operator}{p:Pos}{es:List ua9}{te:TE}{t:TA}(a:BE X (.BinOp l op r p) te)(b:BA X es t):BA X (.BinOp l op r p::es) (tCons te t):=⟨aA a.h b.h (by rfl)⟩
theorem yR {op:UnaryOp}{r:ua9}{p:Pos}{es:List ua9}{te:TE}{t:TA}(a:BE X (.UnaryOp op r p) te)(b:BA X es t):BA X (.UnaryOp op r p::es) (tCons te t):=⟨aA a.h b.h (by rfl)⟩
theorem yT {ks:List (Option ua9)}{vs:List ua9}{p:Pos}{es:List ua9}{te:TE}{t:TA}(a:BE X (.Dict ks vs p) te)(b:BA X es t):BA X (.Dict ks vs p::es) (tCons te t):=⟨aA a.h b.h (by rfl)⟩
theorem pF {c:ua9}{a b:List ubv}{tc:TT}{t u:TS}{pos:Pos}(hc:PT X c tc)(ha:BSs X a t)(hb:BSs X b u):BS X (.If c a b pos) (tIfS tc t u):=⟨aV hc ha.h hb.h⟩
theorem oH:BSs X [] tNext:=⟨aU⟩
theorem iZ {e:ua9}{te:TE}{pos:Pos}(he:BE X e te):BS X (.Return (some e) pos) (tRet te):=⟨aI he.h⟩
theorem zbm {a b:ua9}{ta tb:TE}{pos:Pos}{r:R2}(hr:IxR X r)(ha:BE X a ta)(hb:BE X b tb)(hs:PlainIx b):BE X (.Subscript a b pos) (tOp r ta tb):=⟨aK hr ha.h hb.h hs⟩
theorem oI {tg iter:ua9}{body:List ubv}{wi:TI}{g:TG}{tb:TS}{pos:Pos}(hp:PassesOwn (z9 X.prog X.w) X.A X.env X.xe)(hc:X.calm=true)(hi:PI X tg iter wi)(hg:PG X tg g)(hb:BSs X body tb)
  (hs:∀ x,foldedSetIterable iter X.env x=pure x:=by intro _;rfl):BS X (.For tg iter body [] pos) (tFor wi g tb):=⟨cC hp hc hi hg hb.h hs⟩
end
end L3
namespace X9
open PySem PySem.Spec PyProof.Rows
theorem FlyA.but {h h':Heap}{a T:j7}{C:d7}(f:FlyA h a C T)(ka:h'.get? a=h.get? a)(kT:h'.get? T=h.get? T):FlyA h' a C T:=by
 obtain⟨⟨oe,vs,ha,r⟩,⟨oT,ts,v,hT,r'⟩,ne⟩:=f
 exact⟨⟨oe,vs,ka.trans ha,r⟩,⟨oT,ts,v,kT.trans hT,r'⟩,ne⟩
theorem Chg.but {S:List j7}{a c:j7}{h h':Heap}(sb:Heap.SameBut c h h'):Chg S a [c] h h' :=
 ⟨λ b o _ _ n e=>(sb.2 b (by simpa using n)).trans e,λ b o _ n e=>⟨o.slots,(sb.2 b (by simpa using n)).trans e⟩,ubl sb.1.symm⟩
end X9
namespace L3
open PySem PySem.Spec PyProof.Rows L2 X9
section
variable {prog:m9}{w:uaf}{A:v7}{R:Result->d8->Prop}{s:d8}
end
section
variable {X:Cx}{elt tg iter:ua9}{ifs:List ua9}{scope sc0:ucd}{pos:Pos}{own fr N:List Str}{js:List Nat}{wi:TI}{g:TG}{tt:TT}{te:TE}
end
end L3
namespace L3
open PySem PySem.Spec PyProof.Rows L2
theorem fX {β:Type}:∀ {l:List (Str × β)}{i:Nat}{k:Str}{v:β},(l.map (·.1)).Nodup->l[i]?=some (k,v)->l.lookup k=some v
 | (k',v')::l,0,k,v,_,h=>by
  rw[List.getElem?_cons_zero] at h
  cases h
  rw[uar];simp
 | (k',v')::l,i+1,k,v,nd,h=>by
  rw[ucv] at h
  rw[uaq,r9] at nd
  have hm:k∈l.map (·.1):=v4.mpr ⟨_,m3 h,rfl⟩
  have ne:(k==k')=false:=by
   rw[beq_eq_false_iff_ne]
   intro e
   exact nd.1 (e ▸ hm)
  rw[uar,ne]
  exact fX nd.2 h
theorem xH {β:Type}{l:List (Str × β)}{i:Nat}{k:Str}{v:β}(nd:(l.map (·.1)).Nodup)(h:l[i]?=some (k,v)):l.reverse.lookup k=some v:=by
 have hi:=(i8.mp h).1
 refine fX (i:=l.length-1-i) ?_ ?_
 ·rw[List.map_reverse];exact List.pairwise_reverse.mpr (nd.imp λ h=>Ne.symm h)
 ·rw[List.getElem?_reverse (by left)]
  have:l.length-1-(l.length-1-i)=i:=by left
  rw[this];exact h
section
variable {P:m9}{w:uaf}{K:a8}{mg:Str->Option d7}{base:Heap}
structure LamScG (xs ys:List Str)(sc:ucd):Prop where
 kind:sc.kind=.function
 co:sc.isCoroutine=false
 gen:sc.isGenerator=false
 px:∀ x∈xs,sc.names.lookup x=some .local
 py:∀ y∈ys,sc.names.lookup y=some .free
 nocell:∀ z∈sc.names,z.2≠.cell
 only:∀ z,sc.names.lookup z=some .free->z∈ys
 ndx:xs.Nodup
 ndy:ys.Nodup
structure Clo (H:Hp)(h:Heap)(ys:List Str)(cl:List (Str × j7))(uys:List d7):Prop where
 names:cl.map (·.1)=ys
 unlike:(cl.map (·.2)).Nodup
 len:uys.length=cl.length
 cell:∀ (i:Nat)(y:Str)(c:j7)(u:d7),cl[i]?=some (y,c)->uys[i]?=some u->h.IsCell c (some u)
 free:∀ y c,(y,c)∈cl->H c=none
theorem kL:∀ {l:List (Str × j7)}{x y:Str}{c:j7},(l.map (·.2)).Nodup->(x,c)∈l->(y,c)∈l->x=y
 | (k,v)::l,x,y,c,nd,hx,hy=>by
  rw[uaq,r9] at nd
  rcases l7.mp hx with e | e <;> rcases l7.mp hy with e' | e'
  ·cases e;cases e';rfl
  ·cases e;exact absurd (v4.mpr ⟨_,e',rfl⟩) nd.1
  ·cases e';exact absurd (v4.mpr ⟨_,e,rfl⟩) nd.1
  ·exact kL nd.2 e e'
theorem xK {xs ys:List Str}{qual:Str}{scope:ucd}{f:j7}{cd:d7}{cl:List (Str × j7)}{A:v7}{outer:List Env}{s:d8}{H:Hp}{h1:Heap}{us uys:List d7}{vs vys:List V}{tk:Nat}(S:LamScG xs ys scope)(hd:A.handled=none)(e0:Env0 P w K mg base A outer s H)
  (hns:h1.Ns s.heap.objs.size (λ z=>(xs.zip us).reverse.lookup z)) (hk:∀ b o,s.heap.get? b=some o->h1.get? b=some o) (hc:Clo H s.heap ys cl uys) (lx:vs.length=xs.length) (rx:Vals vs us) (ry:Vals vys uys) :
  Inv (cxL P w K mg base (xs++ys) qual scope f cd cl A outer s H) [] (vs.map some++vys.map some) H { s with heap:=h1,toks:=tk }:=by
 have ndc:(cl.map (·.1)).Nodup:=by rw[hc.names];exact S.ndy
 have ly:cl.length=ys.length:=by rw[← hc.names,g9]
 have lu:us.length=xs.length:=rx.length ▸ lx
 have lvy:vys.length=ys.length:=by rw[ry.length,hc.len,ly]
 have cellAt:∀ z c',cl.lookup z=some c'->∃ v,h1.IsCell c' v:=λ z c' h=>by
  obtain⟨i,hi⟩:=uc9.mp (uae h)
  have il:=(i8.mp hi).1
  have iu:i<uys.length:=by rw[hc.len];exact il
  obtain⟨o,e,r⟩:=hc.cell i z c' uys[i] hi (d6 iu)
  exact⟨_,o,hk _ _ e,r⟩
 have noA:∀ b:j7,b∉(cxL P w K mg base (xs++ys) qual scope f cd cl A outer s H).ex:=λ b z=>absurd (show b∈([]:List j7) from z) (by simp)
 refine⟨⟨e0.mod,S.kind,rfl,rfl,i7 _,λ z z' c' a b=>kL hc.unlike (uae a) (uae b),λ z hz=>?_,λ z c' hf=>?_,λ _=>hd,Around.frames_deeper e0.frames,.inr ⟨rfl,rfl⟩,λ b z=>absurd z (noA b),e0.bs,e0.bsz,λ b _ _=>noA b,λ b z=>absurd z (noA b),e0.funs,e0.frf⟩,
  rfl,e0.bare,Un.kept hk,⟨_,hns,λ i z v a b hv=>?_⟩,cellAt,e0.hok.fresh (i7 _),λ z c' a=>hc.free z c' (uae a),λ p hp=>absurd (show p∈([]:List (j7 × Obj)) from hp) (by simp),e0.hok.kept hk,?_⟩
 ·have hz:scope.names.lookup z=some .cell\/scope.names.lookup z=some .free:=hz
  rcases hz with hz | hz
  ·exact absurd rfl (S.nocell _ (uae hz))
  ·have hm:=S.only z hz
   rw[← hc.names] at hm
   obtain⟨⟨z',c⟩,hm2,e⟩:=v4.mp hm
   obtain rfl:z'=z:=e
   obtain⟨i,hi⟩:=uc9.mp hm2
   exact⟨c,fX ndc hi⟩
 ·exact absurd (show false=true from hf) m7
 ·have a:(xs++ys)[i]?=some z:=a
  by_cases il:i<xs.length
  ·rw[r6 il] at a
   rw[r6 (by rw[g9];left),o7] at b
   obtain⟨v',hv',e⟩:=ucw.mp b
   cases e
   obtain⟨u,hu,ru⟩:=rx.get hv'
   refine⟨u,ru,.inl ⟨S.px z (m3 a),?_⟩⟩
   show (xs.zip us).reverse.lookup z=some u
   refine xH (i:=i) ?_ ?_
   ·rw[List.map_fst_zip (by left)];exact S.ndx
   ·rw[ufy];exact⟨a,hu⟩
  ·rw[p5 (by left)] at a
   rw[p5 (by rw[g9];left),g9,o7,lx] at b
   obtain⟨v',hv',e⟩:=ucw.mp b
   cases e
   obtain⟨u,hu,ru⟩:=ry.get hv'
   have hm:=a
   rw[← hc.names,o7] at hm
   obtain⟨⟨z',c⟩,hcl,e⟩:=ucw.mp hm
   obtain rfl:z'=z:=e
   obtain⟨o,e1,r1⟩:=hc.cell _ _ _ _ hcl hu
   exact⟨u,ru,.inr ⟨.inr (S.py z' (m3 a)),c,fX ndc hcl,o,hk _ _ e1,r1⟩⟩
 ·show (vs.map some++vys.map some).length=(xs++ys).length
  rw[j3,j3,g9,g9,lx,lvy]
theorem xJ {xs ys:List Str}{name qual:Str}{params:Arguments}{body:ua9}{scope:ucd}{f c':j7}{cl:List (Str × j7)}{pm ctv:d7}{A:v7}{outer:List Env}{s:d8}{H:Hp}{us uys:List d7}{vs vys:List V}{t:TE}{Q:VK}{k:Nat}(S:LamScG xs ys scope)(hr:Room (k+1) A)(e0:Env0 P w K mg base A outer s H)
  (ho:s.heap.get? f=some (uah name qual params body scope cl pm c' ctv)) (hcd:s.heap.CodeRec (.ref c') qual) (hb:bindArgs (udt name qual params body scope cl pm (.ref c') ctv) ⟨us,[]⟩=pure (xs.zip us))
  (hc:Clo H s.heap ys cl uys) (lx:vs.length=xs.length) (rx:Vals vs us) (ry:Vals vys uys) (ht:PE (cxL P w K mg base (xs++ys) qual scope f (.ref c') cl A outer s H) body t) (hq:t (vs.map some++vys.map some) H Q) :
  codeAny (z9 P w) A (.call (.ref f) ⟨us,[]⟩) (CR CX0 outer P w H s Q E0) s:=by
 have lim:s.heap.NoLimit:=e0.mod.nolimit.keeps λ b o e=>(e0.bs b o e).1
 refine uf5 hr.depth ho rfl S.co S.gen rfl hcd ?_
 rw[hb]
 refine j9 (ue9 S.nocell (λ z hz=>?_) (λ h1 hns hsb=>⟨lim.fresh _ hsb,?_⟩) S.kind)
 ·exact S.px _ (udq hz).1
 have hk:∀ b o,s.heap.get? b=some o->h1.get? b=some o:=λ b o e=>hsb.extBut b o (o0 (j8 e)) (b9 _ e)
 have I:=xK (P:=P) (w:=w) (K:=K) (mg:=mg) (base:=base) (qual:=qual) (f:=f) (cd:=.ref c') (tk:=s.toks+(xs.zip us).length) S hr.hd e0 hns hk hc lx rx ry
 refine uf4 (ua1 (ht [] _ _ H Q I hq) (λ v s' h=>?_) λ _ _ h=>h.elim)
 obtain⟨v',H',J,rv,q⟩:=h
 exact⟨v',H',J.os,J.bare,J.base,J.hok,rv,q⟩
theorem Clo.un {fs ex:List j7}{H H':Hp}{h h':Heap}{ys:List Str}{cl:List (Str × j7)}{uys:List d7}(c:Clo H h ys cl uys)(u:Un fs ex H H' h h')(hx:∀ y a,(y,a)∈cl->a∉ex):Clo H' h' ys cl uys:=by
 refine⟨c.names,c.unlike,c.len,λ i y a v h1 h2=>?_,λ y a hm=>?_⟩
 ·have hm:=m3 h1
  obtain⟨o,e,d⟩:=c.cell i y a v h1 h2
  obtain⟨sl,e'⟩:=u.any e (c.free y a hm) (hx y a hm)
  exact⟨_,e',d⟩
 ·obtain⟨i,hi⟩:=uc9.mp hm
  have il:=(i8.mp hi).1
  have iu:i<uys.length:=by rw[c.len];exact il
  obtain⟨o,e,_⟩:=c.cell i y a uys[i] hi (d6 iu)
  exact u.free a o e (c.free y a hm) (hx y a hm)
theorem za0 {k:Nat}{f:j7}{x:Str}{st:ubv}{fd:ubm}{N ps:List Str}{A:v7}{outer:List Env}{s:d8}{H:Hp}{us:List d7}{vs:List V}{Q:VK}(F:Fun K x x st f fd)(S:FnScope N ps (defScope st))(hr:Room (k+1) A)(e0:Env0 P w K mg base A outer s H)
  (hb:BindsTo s fd ⟨us,[]⟩ (ps.zip us)) (r:Vals vs us) (hl:vs.length=ps.length)
  (hbody:∀ cdv:d7,Room k (A.deeper (envOfC x (defScope st) s.heap.objs.size f cdv))->∃ t,PSs (cxOf CX0 P w K mg base N x (defScope st) f cdv A outer s H E0).nox (defBody st) t/\t { nx:=λ _ H'=>Q .non H',rt:=Q } (start N vs) H) :
  codeAny (z9 P w) A (.call (.ref f) ⟨us,[]⟩) (CR CX0 outer P w H s Q E0) s:=by
 obtain⟨oc,od,kV,doc,pm,an,cdv,ct,osl,rfl,lk,hcd⟩:=F.ex
 have inB:∀ b o,base.get? b=some o->s.heap.get? b=some o:=λ b o e=>(e0.bs b o e).1
 have kS:K.In s.heap:=e0.mod.kin.keeps inB
 refine codeAny_call_function hr.depth (kS _ _ lk) rfl S.co S.gen rfl (PySem.W.codeRec_of kS hcd) (hb _ _ _ _ (wpAny_newFunctionEnv_cells S.kind (λ y hy=>?_) λ env he s1 z=>?_))
 ·exact (S.par y.1 (udq (show (y.1,y.2)∈_ from hy)).1).imp id λ q=>⟨q,ud6 _ _ _ (.inl q)⟩
 subst he
 obtain⟨t,ht,hq⟩:=hbody cdv (hr.deeper _)
 refine⟨(e0.mod.nolimit.keeps inB).keeps z.toInCall.keep,codeAny_func (ua1 (ht.nox [] s1 (start N vs) H _ (kP S hr.hd e0 hl r z) hq) (λ fl s' hs=>?_) λ _ _ hs=>hs)⟩
 match fl,hs with
 | .ret u,⟨v,σ',H',J,rv,q⟩=>exact⟨v,H',J.os,J.bare,J.base,J.hok,rv,q⟩
 | .next,⟨σ',H',J,q⟩=>exact⟨V.non,H',J.os,J.bare,J.base,J.hok,rfl,q⟩
 | .brk,⟨_,_,_,q⟩=>exact False.elim q
 | .cont,⟨_,_,_,q⟩=>exact False.elim q
end
section
variable {X:Cx}
def tLam (Pt:j7)(lpos:Pos)(qual:Str)(params:Arguments)(body:ua9)(scope:ucd)(cl:List (Str × j7)):TE:=λ _ H Q=>Tb Pt lpos qual H/\∀ f c' pm ctv H',But Pt H H'->Tf Pt lpos qual H'->(Tf Pt lpos qual H->Same H H')->H f=none ->
 H' f=some (.ext λ g=>g.get? f=some (uah "<lambda>" qual params body scope cl pm c' ctv))->H' c'=some (.ext λ g=>g.CodeRec (.ref c') qual)->Q (.ref f) H'
theorem oR {c Pt:j7}{params:Arguments}{body:ua9}{scope:ucd}{lpos:Pos}{cl:List (Str × j7)}(L:LamHd X.mg X.base c Pt)(hcode:X.env.code=.ref c)(hcl:closureFor scope X.env=pure cl)(hdef:defaultsOf params X.env=([],[]):=by rfl) :
  PE X (.Lambda params body scope lpos) (tLam Pt lpos (X.env.qual++"<lambda>") params body scope cl):=λ pins s σ H Q I h =>
 mG I L hcode hdef hcl h.1 λ f c' pm ctv H' s' I' b1 T1 sm ff hf hc'=>⟨.ref f,H',I',rfl,h.2 f c' pm ctv H' b1 T1 sm ff hf hc'⟩
theorem uP {M:Model}{A:v7}{E:d7->d8->Prop}{s:d8}{env:Env}{pos:Pos}{first:List d7}{Q:d7->d8->Prop}{f c':j7}{e:ua9}{rest:List ua9}{name qual:Str}{params:Arguments}{body:ua9}{scope:ucd}{cl:List (Str × j7)}{pm ctv:d7}
  (h:p8 M A (spliced (backTo pos (uaa (e::rest) env))) (λ vs s₁=>s₁.heap.get? f=some (uah name qual params body scope cl pm c' ctv)/\p8 M A (call (.ref f) (first++vs)) Q E s₁) E s)
  (he:uaa (e::rest) env=(false,eval e env)::uaa rest env) (hpl:(backTo pos (uaa rest env)).any (·.1)=false) :
  p8 M A (callWith pos (.ref f) first (backTo pos (uaa (e::rest) env)) []) Q E s:=by
 rw[he] at h ⊢
 refine PySem.W.callWith_of (P:=λ g=>g.get? f=some (uah name qual params body scope cl pm c' ctv)) ?_ (λ g hg=>⟨.frame,.inl rfl,(PySem.W.Looks.ld (part:=none) hg).andThen .now⟩) (Calls.evalArgs_plain h)
 show ((false||(backTo pos (uaa rest env)).any (·.1))||false)=false
 rw[hpl];rfl
def tLamC (i:Nat)(f c':j7)(qual:Str)(ob:Obj)(n:Nat)(vys:List V)(t:TA)(tb:TE):TE:=λ σ H Q=>σ[i]?=some (some (.ref f))/\t σ H λ vs H1=>vs.length=n/\H1 f=some (.ext λ g=>g.get? f=some ob)/\H1 c'=some (.ext λ g=>g.CodeRec (.ref c') qual)/\tb (vs.map some++vys.map some) H1 Q
theorem zQ {k i:Nat}{x:Str}{p pos:Pos}{e:ua9}{es:List ua9}{t:TA}{tb:TE}{xs ys:List Str}{qual:Str}{params:Arguments}{body:ua9}{scope:ucd}{cl:List (Str × j7)}{uys:List d7}{vys:List V}{f c':j7}{pm ctv:d7}(S:LamScG xs ys scope)(hr:Room (k+1) X.A)(hex:X.ex=[])
  (hc:Clo X.H₀ X.s₀.heap ys cl uys) (ry:Vals vys uys) (hN:X.N[i]?=some x) (hv:Vis X.env.scope x) (ha:PA X (e::es) t) (hb:∀ us:List d7,us.length=xs.length->bindArgs (udt "<lambda>" qual params body scope cl pm (.ref c') ctv) ⟨us,[]⟩=pure (xs.zip us))
  (hbody:∀ (s:d8)(H:Hp),PE (cxL X.prog X.w X.K X.mg X.base (xs++ys) qual scope f (.ref c') cl X.A X.stack s H) body tb)
  (hdb:(x==("__debug__":Str))=false:=by decide) (hcd:(x==("__classdict__":Str))=false:=by decide) (he:uaa (e::es) X.env=(false,eval e X.env)::uaa es X.env:=by rfl) (hpl:(backTo pos (uaa es X.env)).any (·.1)=false:=by rfl) :
  PE X (.Call (.Name x p) (e::es) [] pos) (tLamC i f c' qual (uah "<lambda>" qual params body scope cl pm c' ctv) xs.length vys t tb):=by
 intro pins s σ H Q I h
 refine ub2 (thn (iS (pos:=p) hN hv hdb hcd pins s σ H (λ v H'=>v=.ref f/\H'=H) I ⟨.ref f,h.1,rfl,rfl⟩) λ u s1 ⟨v,H1,I1,rv,ev,eH⟩=>?_)
 subst ev eH
 obtain rfl:u=Value.ref f:=rv
 refine uP (name:="<lambda>") (qual:=qual) (params:=params) (body:=body) (scope:=scope) (cl:=cl) (pm:=pm) (c':=c') (ctv:=ctv) (thn (ha pos pins s1 σ H1 _ I1 h.2) λ us s2 ⟨vs,H2,I2,r2,ln,hf,hc2,q⟩=>?_) he hpl
 have gf:=(show ObjOk X.prog X.w H2 s2.heap f _ from I2.hok f _ hf).1
 have gc:=(show ObjOk X.prog X.w H2 s2.heap c' _ from I2.hok c' _ hc2).1
 refine⟨gf,ue1 (ucy (xJ (k:=k) S hr I2.env0 gf gc (hb us (by rw[← r2.length];exact ln)) (hc.un I2.base λ y a _=>by rw[hex];simp) ln r2 ry (hbody _ _) q) λ r s3 hq=>?_)⟩
 match r,hq with
 | .error _,hq=>exact hq.elim
 | .ok (.ret u3),hq=>exact I2.after hq
 | .ok .next,hq=>exact False.elim hq
 | .ok .brk,hq=>exact False.elim hq
 | .ok .cont,hq=>exact False.elim hq
theorem chosen:∀ {R:Nat->V->d7->Prop}(vys:List V),(∀ j v,vys[j]?=some v->∃ u,RelV v u/\R j v u)->∃ us:List d7,Vals vys us/\∀ j v u,vys[j]?=some v->us[j]?=some u->R j v u
 | R,[],_=>⟨[],.nil,λ j v u h=>by simp at h⟩
 | R,v::vys,h=>by
  obtain⟨u,ru,r0⟩:=h 0 v rfl
  obtain⟨us,rs,r1⟩:=chosen (R:=λ j=>R (j+1)) vys λ j v' e=>h (j+1) v' (by rw[ucv];exact e)
  refine⟨u::us,.cons ru rs,λ j v' u' e1 e2=>?_⟩
  match j,e1,e2 with
  | 0,e1,e2=>cases e1;cases e2;exact r0
  | j+1,e1,e2=>exact r1 j v' u' (by rw[ucv] at e1;exact e1) (by rw[ucv] at e2;exact e2)
theorem zbf {ys:List Str}{cl:List (Str × j7)}{ix:List Nat}{vys:List V}{pins:List (j7 × Obj)}{σ:L2.St}{H:Hp}{s:d8}(I:Inv X pins σ H s)(hn:cl.map (·.1)=ys)(hu:(cl.map (·.2)).Nodup)(lv:vys.length=ys.length)
  (hy:∀ (j:Nat)(y:Str)(c:j7),cl[j]?=some (y,c)->X.env.cells.lookup y=some c/\X.env.scope.names.lookup y=some .cell/\∃ i,ix[j]?=some i/\X.N[i]?=some y) (hσ:∀ (j i:Nat)(v:V),ix[j]?=some i->vys[j]?=some v->σ[i]?=some (some v)) :
  ∃ uys,Clo H s.heap ys cl uys/\Vals vys uys:=by
 have lc:cl.length=ys.length:=by rw[← hn,g9]
 obtain⟨m,hns,lk⟩:=I.loc
 obtain⟨uys,rv,hR⟩:=chosen (R:=λ j v u=>∀ y c,cl[j]?=some (y,c)->s.heap.IsCell c (some u)) vys λ j v e=>by
  have jl:=(i8.mp e).1
  have jc:j<cl.length:=by left
  obtain⟨⟨y,c⟩,hyc⟩:∃ p,cl[j]?=some p:=⟨_,d6 jc⟩
  obtain⟨h1,h2,i,h3,h4⟩:=hy j y c hyc
  obtain⟨u,ru,ly⟩:=lk i y v h4 (hσ j i v h3 e) (.inr (.inl h2))
  refine⟨u,ru,λ y' c' e'=>?_⟩
  rw[hyc] at e'
  cases e'
  rcases ly with ⟨z,_⟩ | ⟨_,c2,e2,ic⟩
  ·have z':X.env.scope.names.lookup y=some .local:=z
   rw[h2] at z';cases z'
  ·rw[h1] at e2;cases e2;exact ic
 refine⟨uys,⟨hn,hu,by rw[← rv.length];left,λ j y c u e1 e2=>?_,λ y c hm=>?_⟩,rv⟩
 ·have jl:=(i8.mp e1).1
  have jv:j<vys.length:=by left
  exact hR j vys[j] u (d6 jv) e2 y c e1
 ·obtain⟨j,hj⟩:=uc9.mp hm
  exact I.freeC y c (hy j y c hj).1
def tCallL (ix:List Nat)(sp:List V->List V->Hp->VK->Prop)(t:TA):TE:=λ σ H Q=>t σ H λ vs H1=>∃ vys,vys.length=ix.length/\(∀ (j i:Nat)(v:V),ix[j]?=some i->vys[j]?=some v->σ[i]?=some (some v))/\sp vys vs H1 Q
theorem wZ {x:Str}{p pos:Pos}{e:ua9}{es:List ua9}{t:TA}{ys:List Str}{cl:List (Str × j7)}{ix:List Nat}{f:j7}{sp:List V->List V->Hp->VK->Prop}(hg:Gl X x)(hm:X.mg x=some (.ref f))(hk:ua6 X.K (.ref f)=true)(ha:PA X (e::es) t)
  (run:∀ (s:d8)(H:Hp)(us uys:List d7)(vs vys:List V)(Q:VK),Env0 X.prog X.w X.K X.mg X.base X.A X.stack s H->Vals vs us->Clo H s.heap ys cl uys->Vals vys uys->sp vys vs H Q->codeAny (z9 X.prog X.w) X.A (.call (.ref f) ⟨us,[]⟩) (CR CX0 X.stack X.prog X.w H s Q E0) s)
  (hn:cl.map (·.1)=ys) (hu:(cl.map (·.2)).Nodup) (hi:ix.length=ys.length) (hy:∀ (j:Nat)(y:Str)(c:j7),cl[j]?=some (y,c)->X.env.cells.lookup y=some c/\X.env.scope.names.lookup y=some .cell/\∃ i,ix[j]?=some i/\X.N[i]?=some y)
  (hdb:(x==("__debug__":Str))=false:=by decide) (he:uaa (e::es) X.env=(false,eval e X.env)::uaa es X.env:=by rfl) (hpl:(backTo pos (uaa es X.env)).any (·.1)=false:=by rfl) :
  PE X (.Call (.Name x p) (e::es) [] pos) (tCallL ix sp t):=by
 intro pins s σ H Q I h
 refine ub2 (dM I hg hm ?_ hdb)
 refine uex (h₀:=X.base) I.ok.mod.kin hk (thn (ha pos pins s σ H _ I h) λ us s1 ⟨vs,H1,I1,r,vys,lv,hσ,q⟩=>⟨I1.kIn,?_⟩) he hpl
 obtain⟨uys,hc,ry⟩:=zbf I1 hn hu (lv.trans hi) hy hσ
 refine ue1 (ucy (run s1 H1 us uys vs vys Q I1.env0 r hc ry q) λ r s3 hq=>?_)
 match r,hq with
 | .error _,hq=>exact hq.elim
 | .ok (.ret u3),hq=>exact I1.after hq
 | .ok .next,hq=>exact False.elim hq
 | .ok .brk,hq=>exact False.elim hq
 | .ok .cont,hq=>exact False.elim hq
end
section
variable {K:a8}{h:Heap}{mg:Str->Option d7}{x:Str}{st:ubv}{ps:List Str}{f c Pt:j7}{od an odc:Option j7}{sl slc:Array (Option d7)}{oc occ kV dc pm cd ct:d7}{us:Array d7}{fd:ubm}
theorem wR (a:o9 K l6 x=some (some (.ref f)))(l:K.lookup f=some ⟨oc,od,.func fd,sl⟩)(t:uam K x=some (c,Pt)):fd.code=.ref c:=by
 unfold uam at t
 rw[a] at t;simp only [l] at t
 split at t
 ·rename_i c2 hc
  split at t
  ·split at t
   ·cases t;exact hc
   ·cases t
  ·cases t
 ·cases t
theorem zai (X:K.In h)(G:h.Ns l6 mg)
  (b:∀ (kV doc pm:d7)(an:Option j7)(cdv ct:d7)(us:List d7),us.length=ps.length->bindArgs (ua3 x x (defArgs st) (defBody st) (defScope st) .none kV doc pm an cdv ct) ⟨us,[]⟩=pure (ps.zip us))
  (a:o9 K l6 x=some (some (.ref f))) (l:K.lookup f=some ⟨oc,od,.func (ua3 x x (defArgs st) (defBody st) (defScope st) .none kV dc pm an cd ct),sl⟩) (cc:ub4 K cd x=true) (k:ua6 K (.ref f)=true) (t:uam K x=some (c,Pt)):DefOkC K mg x st ps c:=by
 have e:cd=.ref c:=wR a l t
 subst e
 exact⟨f,_,oc,od,kV,dc,pm,an,ct,sl,rfl,l,cc,k,(gF (st:=st) l cc k).binds b,uau X G a⟩
end
def LamHds (mg:Str->Option d7)(base:Heap)(ts:List (j7 × j7)):Prop:=∀ q∈ts,LamHd mg base q.1 q.2
theorem uH {P:m9}{w:uaf}{K:a8}{mg mb:Str->Option d7}{k:Nat}{fa a:j7}{ts:List (j7 × j7)}{fd:ubm}{x:Str}{sp:Sp}{s₁:d8}{vs:List d7}{ns:List Int}
  (KX:K.In s₁.heap) (hns:s₁.heap.Ns l6 mg) (hb:s₁.heap.Ns builtinsNs mb) (hbb:∀ x:Str,x≠"__name__"->mb x=bootBuiltins x) (hlim:s₁.heap.NoLimit) (hg:s₁.gens=#[])
  (ha:s₁.heap.get? a=some { cls:=.type "list",data:=.seq vs.toArray }) (hi:IntsAre vs ns) (hl:ns.length<=p9) (hr:Room k callerA)
  (hT:∀ q∈ts,uem s₁.heap q.1 q.2/\s₁.heap.get? q.2=some (ucz #[])) (hbm:∃ bm ob,mg "__builtins__"=some (.ref bm)/\bm≠builtinsNs/\s₁.heap.get? bm=some ob/\ob.cls=.type "module"/\ob.dict=some builtinsNs/\ob.data=.plain) (hnt:ufm K=true)
  (F:∀ base:Heap,K.In base->base.Ns l6 mg->LamHds mg base ts->FnOk P w K mg base CX0 k fa fd [x] sp) (hbind:∀ (s:d8)(u:d7),BindsTo s fd ⟨[u],[]⟩ [(x,u)])
  (hsp:∀ H:Hp,SqL K H a (ns.map V.int)->(∀ q∈ts,H q.2=some (.tbl #[]))->sp [.ref a] H (λ v _=>v=.bl true) λ _ _ _=>False) :
  codeAny (z9 P w) callerA (.call (.ref fa) ⟨[.ref a],[]⟩) (λ r s'=>r=.ok (.ret (.bool true))/\OldK s₁.heap s'.heap/\s'.os=s₁.os/\AllBare s'.gens) s₁:=by
 have rv:=kD hi
 have lenV:=hi.length
 have tabs:∀ b,b∈ts.map (·.2)->s₁.heap.get? b=some (ucz #[]):=λ b hm=>by
  obtain⟨q,hq,rfl⟩:=v4.mp hm
  exact (hT q hq).2
 have nap:a∉ts.map (·.2):=λ z=>by rw[tabs a z] at ha;cases ha
 have core : ∀ H : Hp, SqL K H a (ns.map V.int) → HOk P w H s₁.heap → (∀ q∈ts, H q.2 = some (.tbl #[])) → (∀ b, H b ≠ none → b = a \/ b∈ts.map (·.2)) → (H a = none \/ (∃ o xs, H a = some (.frz o (.lst xs))) /\ K.lookup a = none) →
     codeAny (z9 P w) callerA (.call (.ref fa) ⟨[.ref a],[]⟩) (λ r s'=>r=.ok (.ret (.bool true))/\OldK s₁.heap s'.heap/\s'.os=s₁.os/\AllBare s'.gens) s₁:=by
  intro H hS hok hPt hA hK
  have base_of:∀ {b:j7}{o:Obj},s₁.heap.get? b=some o->(∀ ys n,o.data≠.seq ys n)->o.cls≠.none->(hidT s₁.heap H).get? b=some o:=λ {b o} e n1 n2=>fR e (by
   cases q:H b with
   | none=>rfl
   | some u =>
    rcases hA b (by rw[q];simp) with z | z
    ·rw[z,ha] at e;cases e;exact absurd rfl (n1 _ _)
    ·rw[tabs b z] at e;cases e;exact absurd rfl n2)
  have nsK:∀ {b:j7}{m:Str->Option d7},s₁.heap.Ns b m->(hidT s₁.heap H).Ns b m:=λ {b m} ⟨o,es,ep,e,d,r⟩=>⟨o,es,ep,fR e (by
   cases q:H b with
   | none=>rfl
   | some u =>
    rcases hA b (by rw[q];simp) with z | z
    ·rw[z,ha] at e;cases e;cases d
    ·rw[tabs b z] at e;cases e;cases d),d,r⟩
  have hKb:K.In (hidT s₁.heap H):=λ b o e=>fR (KX b o e) (by
   cases q:H b with
   | none=>rfl
   | some u =>
    rcases hA b (by rw[q];simp) with z | z
    ·subst z
     rcases hK with hK | hK
     ·rw[hK] at q;cases q
     ·rw[hK.2] at e;cases e
    ·have h2:=uad.mp hnt (b,o) (PySem.W.mem_of_lookupK e)
     have e2:=KX b o e
     rw[tabs b z] at e2;cases e2
     exact absurd (show false=true from h2) m7)
  have hM:Mod K mg (hidT s₁.heap H):=⟨hKb,nsK hns,⟨mb,nsK hb,hbb⟩,let ⟨mc,h1,h2⟩:=hlim;⟨mc,nsK h1,h2⟩⟩
  have hL:LamHds mg (hidT s₁.heap H) ts:=λ q hq=>by
   refine⟨?_,let ⟨bm,ob,b1,b2,b3,b4,b5,b6⟩:=hbm;⟨bm,ob,b1,b2,base_of b3 (λ ys n z=>by rw[b6] at z;cases z) (λ z=>by rw[b4] at z;cases z),b4,b5,b6⟩⟩
   obtain⟨o,us,file,tf,flags,tg,inF,text,tt,e1,e2,e3,r⟩:=(hT q hq).1
   refine⟨o,us,file,tf,flags,tg,inF,text,tt,fR e1 ?_,e2,e3,r⟩
   cases q':H q.1 with
   | none=>rfl
   | some u =>
    rcases hA q.1 (by rw[q'];simp) with z | z
    ·rw[z,ha] at e1;cases e1;cases e3
    ·rw[tabs _ z] at e1;cases e1;cases e2
  have e0:Env0 P w K mg (hidT s₁.heap H) callerA [] s₁ H:=⟨rfl,hM,λ b o e=>zU e,ubl (vU _ _),trivial,λ b hb=>absurd (show b∈([]:List j7) from hb) (by simp),hok,.of_eq hg⟩
  refine ucy ((F _ hKb (nsK hns) hL).run callerA [] s₁ H ⟨[.ref a],[]⟩ [.ref a] [.ref a] _ _ hr e0 (hbind s₁ (.ref a)) (.cons rfl .nil) (hsp H hS hPt)) λ r s' h=>?_
  cases r with
  | error e=>exact h.elim
  | ok fl =>
   cases fl with
   | next=>exact False.elim h
   | brk=>exact False.elim h
   | cont=>exact False.elim h
   | ret u =>
    obtain⟨v,H',os,bare,un,hok',r',q⟩:=h
    have q':v=.bl true:=q
    subst q'
    obtain rfl:u=Value.bool true:=r'
    have kept:∀ b o,b∉ts.map (·.2)->s₁.heap.get? b=some o->s'.heap.get? b=some o:=λ b o nb e=>by
     cases q:H b with
     | none=>exact un.keep b o e q (by intro z;exact absurd (show b∈([]:List j7) from z) (by simp)) (by simp)
     | some u =>
      rcases hA b (by rw[q];simp) with z | z
      ·subst z
       rcases hK with hK | ⟨⟨ob,xs,hK⟩,_⟩
       ·rw[hK] at q;cases q
       ·have z2:=un.frzs b ob _ hK
        obtain⟨e1,_⟩:=hok b _ hK
        obtain⟨e2,_⟩:=hok' b _ z2
        rw[e] at e1;cases e1
        exact e2
      ·exact absurd z nb
    have grown:∀ q∈ts,∃ more,s'.heap.get? q.2=some (ucz (#[]++more)):=λ q hq=>by
     obtain⟨more,hPt'⟩:=un.tbls q.2 _ (hPt q hq)
     exact⟨more,hok' q.2 _ hPt'⟩
    refine⟨rfl,⟨λ b o e=>?_,λ b o e=>?_⟩,os,bare⟩
    ·by_cases nb:b∈ts.map (·.2)
     ·obtain⟨q,hq,rfl⟩:=v4.mp nb
      obtain⟨more,gP⟩:=grown q hq
      rw[(hT q hq).2] at e;cases e
      exact .inr (.inl ⟨((hT q hq).1.tab (hT q hq).2).isCodeTable,rfl,#[],more,rfl,gP⟩)
     ·exact .inl (kept b o nb e)
    ·by_cases nb:b∈ts.map (·.2)
     ·obtain⟨q,hq,rfl⟩:=v4.mp nb
      obtain⟨more,gP⟩:=grown q hq
      exact⟨_,gP⟩
     ·exact⟨o,kept b o nb e⟩
 have memT:∀ q∈ts,q.2∈ts.map (·.2):=λ q hq=>v4.mpr ⟨q,hq,rfl⟩
 cases hk:K.lookup a with
 | some o =>
  have e:=KX a o hk
  rw[ha] at e
  cases e
  refine core (λ b=>if b∈ts.map (·.2) then some (.tbl #[]) else none) (.inr ⟨_,vs.toArray,_,hk,rfl,rfl,rfl,by rw[k9,lenV];exact hl,by simpa using rv⟩) (λ b u z=>?_) (λ q hq=>ugc (memT q hq)) (λ b z=>?_) (.inl (ugd nap))
  ·by_cases hb:b∈ts.map (·.2)
   ·have z':=(ugc hb).symm.trans z
    cases z'
    exact tabs b hb
   ·have z':=(ugd hb).symm.trans z
    cases z'
  ·by_cases hb:b∈ts.map (·.2)
   ·exact .inr hb
   ·exact absurd (ugd hb) z
 | none =>
  have eA:(λ b=>if b=a then some (HO.frz { cls:=.type "list",data:=.seq vs.toArray } (.lst (ns.map V.int))) else if b∈ts.map (·.2) then some (.tbl #[]) else none) a=some (.frz { cls:=.type "list",data:=.seq vs.toArray } (.lst (ns.map V.int))):=ugc rfl
  refine core (λ b=>if b=a then some (.frz { cls:=.type "list",data:=.seq vs.toArray } (.lst (ns.map V.int))) else if b∈ts.map (·.2) then some (.tbl #[]) else none) (.inl (.inr ⟨_,eA⟩)) (λ b u z=>?_) (λ q hq=>?_) (λ b z=>?_) (.inr ⟨⟨_,_,eA⟩,hk⟩)
  ·by_cases hb:b=a
   ·have z':=(ugc hb).symm.trans z
    cases z'
    subst hb
    exact⟨ha,by rw[g9];exact hl,vs,_,rv,ha⟩
   ·have z1:(if b∈ts.map (·.2) then some (HO.tbl #[]) else none)=some u:=by rw[← z];exact (ugd hb).symm
    by_cases hb2:b∈ts.map (·.2)
    ·rw[ugc hb2] at z1;cases z1;exact tabs b hb2
    ·rw[ugd hb2] at z1;cases z1
  ·have ne:q.2≠a:=λ z=>nap (z ▸ memT q hq)
   show (if q.2=a then _ else _)=_
   rw[ugd ne,ugc (memT q hq)]
  ·by_cases hb:b=a
   ·exact .inl hb
   ·by_cases hb2:b∈ts.map (·.2)
    ·exact .inr hb2
    ·exact absurd ((ugd hb).trans (ugd hb2)) z
theorem wM {l:PySem.W.OpenLaw}{n k:Nat}{q:m9}{loose:List Str}{XP:(Str->Option d7)->Heap->Prop}{YP:uaf->Heap->Prop}{d d1 d2 d3:DefRec}{K:Params->a8}{sp:uaf->j7->j7->j7->Sp}{x x1 x2 x3:Str}
  (hn:l.most=some n) (hn2:n<=p9) (hdf:d.params.defaults=[]) (hr:Room k callerA) (hY:∀ (w:uaf)(h:Heap),YP w h->(K w.params).In h)
  (hrec1:(recsOf q).find? (λ e=>e.name==x1)=some d1) (hrec2:(recsOf q).find? (λ e=>e.name==x2)=some d2) (hrec3:(recsOf q).find? (λ e=>e.name==x3)=some d3) (htab:∀ w:uaf,∃ c1 p1 c2 p2 c3 p3,uam (K w.params) x1=some (c1,p1)/\uam (K w.params) x2=some (c2,p2)/\uam (K w.params) x3=some (c3,p3)/\[p1,p2,p3].Nodup) (hnt:∀ w:uaf,ufm (K w.params)=true)
  (F:∀ (w:uaf)(mg:Str->Option d7)(fa:j7)(h:Heap)(c1 p1 c2 p2 c3 p3:j7),(K w.params).In h->h.Ns l6 mg->mg d.name=some (.ref fa)->uam (K w.params) x1=some (c1,p1)->uam (K w.params) x2=some (c2,p2)->uam (K w.params) x3=some (c3,p3) ->
   ∃ fd:ubm,(∀ (s:d8)(u:d7),BindsTo s fd ⟨[u],[]⟩ [(x,u)])/\∀ base:Heap,(K w.params).In base->base.Ns l6 mg->LamHd mg base c1 p1->LamHd mg base c2 p2->LamHd mg base c3 p3->FnOk l.prog w (K w.params) mg base CX0 k fa fd [x] (sp w p1 p2 p3))
  (hsp:∀ (w:uaf)(p1 p2 p3:j7)(H:Hp)(a:j7)(ns:List Int),[p1,p2,p3].Nodup->ns.length<=n->SqL (K w.params) H a (ns.map V.int)->H p1=some (.tbl #[])->H p2=some (.tbl #[])->H p3=some (.tbl #[])->sp w p1 p2 p3 [.ref a] H (λ v _=>v=.bl true) λ _ _ _=>False) :
  PySem.W.WalkO q loose XP YP l.row.toRowW d [] (λ f vs=>PySem.call f vs):=by
 refine Att.attach_call hn hdf λ w s₀ s₁ mg mb fa o pm cd doc a vs ns G Y ho hd hcd hmg hobj hints hlen hg=>?_
 have KX:=hY w _ Y
 obtain⟨c1,p1,c2,p2,c3,p3,t1,t2,t3,ne⟩:=htab w
 have hT:∀ q∈([(c1,p1),(c2,p2),(c3,p3)]:List (j7 × j7)),uem s₁.heap q.1 q.2/\s₁.heap.get? q.2=some (ucz #[]):=λ q' hq=>by
  simp only [l7,uag,or_false] at hq
  rcases hq with rfl | rfl | rfl
  ·exact ufl G.T KX hrec1 t1
  ·exact ufl G.T KX hrec2 t2
  ·exact ufl G.T KX hrec3 t3
 obtain⟨fd,hb,hF⟩:=F w mg fa _ c1 p1 c2 p2 c3 p3 KX G.T.g hmg t1 t2 t3
 exact uH KX G.T.g G.T.b G.T.builtins G.T.nolimit hg hobj hints (w6 hlen hn2) hr hT G.T.bmain (hnt w) (λ base h1 h2 h3=>hF base h1 h2 (h3 (c1,p1) i0) (h3 (c2,p2) (i9 _ i0)) (h3 (c3,p3) (i9 _ (i9 _ i0)))) hb λ H hS hP=>hsp w p1 p2 p3 H a ns ne hlen hS (hP (c1,p1) i0) (hP (c2,p2) (i9 _ i0)) (hP (c3,p3) (i9 _ (i9 _ i0)))
inductive Trl (ts:List Tie)(u:Nat):Nat->List Nat->Prop
 | nil:Trl ts u u []
 | snoc {v w k:Nat} {es:List Nat}:Trl ts u v es->(v,w,(tieAt ts k).2.2)∈arcs2 (tieAt ts k)->Trl ts u w (es++[k])
def lenE (ts:List Tie)(es:List Nat):Int:=(es.map λ k=>(tieAt ts k).2.2).sum
theorem cL {ts:List Tie}{a b:List Nat}:lenE ts (a++b)=lenE ts a+lenE ts b:=by unfold lenE;rw[uab,List.sum_append]
theorem iC {ts:List Tie}{k:Nat}:lenE ts [k]=(tieAt ts k).2.2:=by unfold lenE;simp
theorem Trl.append {ts:List Tie}{u v w:Nat}{a b:List Nat}(h:Trl ts u v a)(k:Trl ts v w b):Trl ts u w (a++b):=by
 induction k with
 | nil=>rw[ubi];exact h
 | snoc _ m ih=>rw[← ubg];exact .snoc ih m
theorem Trl.walk {ts:List Tie}{ks:List Nat}{u v:Nat}{es:List Nat}(h:Trl ts u v es)(hs:∀ e∈es,e∈ks):Far.Walk (arcs ts ks) u v (lenE ts es):=by
 induction h with
 | nil=>exact .nil
 | @snoc v w k es _ m ih =>
  rw[cL,iC]
  exact .snoc (ih λ e he=>hs e (u4 _ he)) (arcs_mem.mpr ⟨k,hs k (l8 _ i0),m⟩)
theorem Trl.split {ts:List Tie}{u v k:Nat}:∀ {es l2 l1:List Nat},Trl ts u v es->es=l1++k::l2->∃ a b,Trl ts u a l1/\(a,b,(tieAt ts k).2.2)∈arcs2 (tieAt ts k)/\Trl ts b v l2:=by
 intro es l2 l1 h
 induction h generalizing l1 l2 with
 | nil=>intro e;cases l1 <;> cases e
 | @snoc v w k' es h m ih =>
  intro e
  rcases ubz l2 with rfl | ⟨l2',x,rfl⟩
  ·have e':es++[k']=l1++[k]:=e
   obtain⟨e1,e2⟩:=ucs e' rfl
   cases e2
   subst e1
   exact⟨v,w,h,m,.nil⟩
  ·have e':es++[k']=(l1++k::l2')++[x]:=by rw[e];simp
   obtain⟨e1,e2⟩:=ucs e' rfl
   cases e2
   obtain⟨a,b,h1,h2,h3⟩:=ih e1
   exact⟨a,b,h1,h2,by simpa using Trl.snoc h3 m⟩
structure Pth (ts:List Tie)(ks:List Nat)(s v:Nat)(way es:List Nat):Prop where
 trl:Trl ts s v es
 head:way[0]?=some s
 last:way[way.length-1]?=some v
 nd:way.Nodup
 len:way.length=es.length+1
 ends:∀ e∈es,∀ a b l,(a,b,l)∈arcs2 (tieAt ts e)->a∈way/\b∈way
 nde:es.Nodup
 sub:∀ e∈es,e∈ks
 one:∀ e∈es,∀ b l,(s,b,l)∈arcs2 (tieAt ts e)->way[1]?=some b
theorem Pth.start {ts:List Tie}{ks:List Nat}{s:Nat}:Pth ts ks s s [s] [] :=
 ⟨.nil,rfl,rfl,(by simp),rfl,λ e h=>(by cases h),uco,λ e h=>(by cases h),λ e h=>(by cases h)⟩
theorem gZ {t:Tie}{a b c d:Nat}{l m:Int}(h:(a,b,l)∈arcs2 t)(k:(c,d,m)∈arcs2 t):(c=a/\d=b)\/(c=b/\d=a):=by
 rcases arcs2_mem.mp h with e | e <;> rcases arcs2_mem.mp k with e' | e' <;> cases e <;> cases e'
 ·exact .inl ⟨rfl,rfl⟩
 ·exact .inr ⟨rfl,rfl⟩
 ·exact .inr ⟨rfl,rfl⟩
 ·exact .inl ⟨rfl,rfl⟩
theorem Pth.step {ts:List Tie}{ks:List Nat}{s v w k:Nat}{way es:List Nat}(p:Pth ts ks s v way es)(hk:k∈ks)(m:(v,w,(tieAt ts k).2.2)∈arcs2 (tieAt ts k))(new:w∉way):Pth ts ks s w (way++[w]) (es++[k]):=by
 have vin:v∈way:=m3 p.last
 have sin:s∈way:=m3 p.head
 have l0:0<way.length:=by have:=p.len;left
 have kn:k∉es:=λ z=>new (p.ends k z _ _ _ m).2
 refine⟨.snoc p.trl m,by rw[r6 l0];exact p.head,?_,?_,by rw[j3,j3,p.len];rfl,λ e he a b l h=>?_,?_,λ e he=>?_,λ e he b l h=>?_⟩
 ·rw[j3];show (way++[w])[way.length]?=some w
  rw[p5 (i7 _)];simp
 ·exact uba.mpr ⟨p.nd,(by simp),λ a ha b hb e=>by
   have:b=w:=by simpa using hb
   subst this;subst e;exact new ha⟩
 ·rcases m5.mp he with z | z
  ·exact⟨u4 _ (p.ends e z a b l h).1,u4 _ (p.ends e z a b l h).2⟩
  ·have:e=k:=j6.mp z
   subst this
   rcases gZ m h with ⟨rfl,rfl⟩ | ⟨rfl,rfl⟩
   ·exact⟨u4 _ vin,l8 _ i0⟩
   ·exact⟨l8 _ i0,u4 _ vin⟩
 ·exact uba.mpr ⟨p.nde,(by simp),λ a ha b hb e=>by
   have:b=k:=by simpa using hb
   subst this;subst e;exact kn ha⟩
 ·rcases m5.mp he with z | z
  ·exact p.sub e z
  ·rw[j6.mp z];exact hk
 ·rcases m5.mp he with z | z
  ·have q:=p.one e z b l h
   rw[r6 (i8.mp q).1];exact q
  ·have:e=k:=j6.mp z
   subst this
   rcases gZ m h with ⟨e1,rfl⟩ | ⟨e1,_⟩
   ·subst e1
    have l1:way.length=1:=by
     have pw:=uan.mp p.nd
     by_cases c:way.length=1
     ·exact c
     ·obtain⟨h0,e0⟩:=i8.mp p.head
      obtain⟨h9,e9⟩:=i8.mp p.last
      exact absurd (e0.trans e9.symm) (pw 0 (way.length-1) h0 h9 (by left))
    rw[p5 (by left),l1];rfl
   ·exact absurd (e1 ▸ sin) new
theorem jP {n:Int}{ts:List Tie}(ok:WebOk n ts):∀ {es:List Nat},(∀ e∈es,e<ts.length)->0<=lenE ts es
 | [],_=>by unfold lenE;simp
 | e::es,h=>by
  have i:=jP ok (es:=es) λ e he=>h e (i9 _ he)
  have t:=(ok.tie _ (aY (h e i0)).2).2.2.2.1
  have e1:lenE ts (e::es)=(tieAt ts e).2.2+lenE ts es:=by unfold lenE;rw[uaq,List.sum_cons]
  left
theorem kK:∀ {es:List Nat},¬ es.Nodup->∃ k l1 l2 l3,es=l1++k::(l2++k::l3)
 | [],h=>absurd uco h
 | e::es,h=>by
  by_cases c:e∈es
  ·obtain⟨a,b,rfl⟩:=ue6 c
   exact⟨e,[],a,b,rfl⟩
  ·by_cases d:es.Nodup
   ·exact absurd (r9.mpr ⟨c,d⟩) h
   ·obtain⟨k,l1,l2,l3,rfl⟩:=kK d
    exact⟨k,e::l1,l2,l3,rfl⟩
theorem Trl.plain {n:Int}{ts:List Tie}(ok:WebOk n ts):∀ (m:Nat){u v:Nat}{es:List Nat},es.length=m->(∀ e∈es,e<ts.length)->Trl ts u v es->∃ fs,Trl ts u v fs/\fs.Nodup/\(∀ e∈fs,e∈es)/\lenE ts fs<=lenE ts es:=by
 intro m
 induction m using ucx with
 | ind m ih =>
  intro u v es hm hl h
  by_cases c:es.Nodup
  ·exact⟨es,h,c,λ e he=>he,uaj _⟩
  obtain⟨k,l1,l2,l3,rfl⟩:=kK c
  obtain⟨a,b,h1,mk,h2⟩:=h.split rfl
  obtain⟨c',d,h3,mk',h4⟩:=h2.split rfl
  have big:lenE ts (l1++k::(l2++k::l3))=lenE ts l1+((tieAt ts k).2.2+(lenE ts l2+((tieAt ts k).2.2+lenE ts l3))):=by
   rw[show l1++k::(l2++k::l3)=l1++([k]++(l2++([k]++l3))) by simp,cL,cL,cL,cL,iC]
  have tk:=(ok.tie _ (aY (hl k (by simp))).2).2.2.2.1
  have p2:=jP ok (es:=l2) λ e he=>hl e (by simp [he])
  have sub1:∀ e∈l1++k::l3,e∈l1++k::(l2++k::l3):=λ e he=>by
   simp only [m5,l7] at he ⊢
   rcases he with z | z | z
   ·exact .inl z
   ·exact .inr (.inl z)
   ·exact .inr (.inr (.inr (.inr z)))
  have sub2:∀ e∈l1++l3,e∈l1++k::(l2++k::l3):=λ e he=>by
   simp only [m5,l7] at he ⊢
   rcases he with z | z
   ·exact .inl z
   ·exact .inr (.inr (.inr (.inr z)))
  rcases gZ mk mk' with ⟨rfl,rfl⟩ | ⟨rfl,rfl⟩
  ·have T:Trl ts u v (l1++k::l3):=by
    have:=(Trl.snoc h1 mk).append h4
    rwa [ubg] at this
   have len:lenE ts (l1++k::l3)=lenE ts l1+((tieAt ts k).2.2+lenE ts l3):=by
    rw[show l1++k::l3=l1++([k]++l3) by simp,cL,cL,iC]
   obtain⟨fs,f1,f2,f3,f4⟩:=ih _ (by rw[← hm];simp only [j3,uas];left) (es:=l1++k::l3) rfl (λ e he=>hl e (sub1 e he)) T
   exact⟨fs,f1,f2,λ e he=>sub1 e (f3 e he),by left⟩
  ·have T:Trl ts u v (l1++l3):=h1.append h4
   have len:lenE ts (l1++l3)=lenE ts l1+lenE ts l3:=cL
   obtain⟨fs,f1,f2,f3,f4⟩:=ih _ (by rw[← hm];simp only [j3,uas];left) (es:=l1++l3) rfl (λ e he=>hl e (sub2 e he)) T
   exact⟨fs,f1,f2,λ e he=>sub2 e (f3 e he),by left⟩
section
variable {X:Cx}
end
section
variable {X:Cx}
inductive call_strE_i (K:a8)(xs:List V)(H:Hp)(Q:VK):Prop
 | mk:∀ (a:j7)(d:v9),(xs=[.ref a])->(Is K H d (.ref a))->(d.showable=true)->(d.hasDict=false)->(d.depth<=60)->(d.shown.length<=p9)->(Q (.str d.shown) H)->call_strE_i K xs H Q
theorem kW {k:Nat}(hr:Room k X.A):CallR X (.type "str") (call_strE_i X.K):=by
 intro pins s σ H xs us Q I r h
 obtain⟨a,d,rfl,hd,h1,h2,h3,h4,q⟩:=h
 obtain⟨u,rfl,rx⟩:=vals1 r
 obtain⟨as,ra⟩:=dJ I d hd rx
 cases rx
 have hu:=hr.units
 exact str_of_reads ra h1 (λ z=>by rw[h2] at z;cases z) hr.gd (by left) (λ _ _ e=>e) (λ h' u tk hk=>⟨.str d.shown,H,I.kept (t':=tk) hk,⟨_,rfl⟩,q⟩) h4
end
section
variable {g:TG}{te:TE}{own:List Str}{js:List Nat}{σ:L2.St}{H1:Hp}{Q:VK}
theorem yD {K:a8}{a:j7}{xs:List V}(Z:j7->Prop)(hx:H1 a=some (.lst xs))(hz:∀ b,Z b->∃ ps,H1 b=some (.tbl ps))(J:Hp->Prop)(j0:∀ D,H1 D=none->J (upd H1 D (.lst [])))
  (stab:∀ H D ys zs,H D=some (.lst ys)->J H->J (upd H D (.lst zs))) (Sg:L2.St->Prop) (R:Nat->V->Hp->Prop) (hn:xs.length<=1000) (h0:Sg (start3 own js σ)) (mono:∀ i v H H',TupKeep H H'->R i v H->R i v H')
  (step:∀ i x σ' H',xs[i]?=some x->(∀ b o,¬ Z b->H1 b=some o->H' b=some o)->(∀ b zs,H1 b=some (.tup zs)->H' b=some (.tup zs))->J H'->Sg σ'->∀ C:L2.St->V->Hp->Prop,(∀ σ3 v H5,Sg σ3->(∀ b o,¬ Z b->H' b=some o->H5 b=some o)->TupKeep H' H5->J H5->R i v H5->C σ3 v H5)->g x σ' H' λ σ3 H3=>te σ3 H3 λ v H5=>C σ3 v H5)
  (fin:∀ D ys H',H1 D=none->(∀ b o,¬ Z b->H1 b=some o->H' b=some o)->J H'->H' D=some (.lst ys)->ys.length=xs.length->(∀ i v,ys[i]?=some v->R i v H')->Q (.ref D) H'):CompGo own js g tTrue te σ Q (Itl K a) H1:=by
 intro D hD
 have nD:¬ Z D:=λ z=>by obtain⟨ps,e⟩:=hz D z;rw[e] at hD;cases hD
 have na:¬ Z a:=λ z=>by obtain⟨ps,e⟩:=hz a z;rw[e] at hx;cases hx
 have tup1:∀ {H':Hp},(∀ b o,¬ Z b->H1 b=some o->H' b=some o)->∀ b zs,H1 b=some (.tup zs)->H' b=some (.tup zs):=λ {H'} h b zs e=>h b _ (λ z=>by obtain⟨ps,e'⟩:=hz b z;rw[e'] at e;cases e) e
 refine⟨λ i m ys σ' H'=>m=xs.length-i/\i<=xs.length/\Sg σ'/\(∀ b o,¬ Z b->H1 b=some o->H' b=some o)/\J H'/\ys.length=i/\∀ j v,ys[j]?=some v->R j v H',⟨xs.length,rfl,uac _,h0,λ b o _ e=>by rw[aD (aT e hD)];exact e,j0 D hD,rfl,λ j v e=>by simp at e⟩,?_⟩
 rintro i m ys σ' H' ⟨rfl,hi,sg,bt,jt,hl,hr⟩ hd
 have sq:SqL K H' a xs:=SqL.of (bt _ _ na hx)
 by_cases hlt:i<xs.length
 ·refine .inr ⟨⟨xs,xs[i],sq,by simp [hlt]⟩,λ x H2 hy=>?_⟩
  obtain⟨rfl,hy⟩:=hy
  refine step i x σ' _ (hy xs sq) bt (tup1 bt) jt sg (λ σ3 v H5=>H5 D=some (.lst ys)/\ys.length<p9/\∃ m',m'<xs.length-i/\(m'=xs.length-(i+1)/\i+1<=xs.length/\Sg σ3/\(∀ b o,¬ Z b->H1 b=some o->(upd H5 D (.lst (ys++[v]))) b=some o)/\J (upd H5 D (.lst (ys++[v])))/\(ys++[v]).length=i+1/\∀ j u,(ys++[v])[j]?=some u->R j u (upd H5 D (.lst (ys++[v]))))) λ σ3 v H5 sg3 b5 tk4 j5 r5=>?_
  have hd5:=b5 _ _ nD hd
  refine⟨hd5,ubc (by left:ys.length<=1000) (by decide),xs.length-(i+1),by left,rfl,hlt,sg3,λ b o hb e=>?_,stab _ _ _ _ hd5 j5,by rw[j3,p7,hl],λ j u e=>?_⟩
  ·rw[aD (aT e hD)];exact b5 _ _ hb (bt _ _ hb e)
  ·have tk5:TupKeep H5 (upd H5 D (.lst (ys++[v]))):=λ a xs e=>by rw[aD (λ z=>by rw[z,hd5] at e;cases e)];exact e
   by_cases hj:j<ys.length
   ·rw[r6 hj] at e
    exact mono _ _ _ _ tk5 (mono _ _ _ _ tk4 (hr j u e))
   ·rw[p5 (by left)] at e
    have ej:j=ys.length:=by
     have:=(i8.mp e).1
     simp at this;left
    subst ej
    have eu:v=u:=by simpa using e
    subst eu
    rw[hl]
    exact mono _ _ _ _ tk5 r5
 ·have e:i=xs.length:=by left
  subst e
  exact .inl ⟨⟨xs,sq,i7 _⟩,fin D ys H' hD bt jt hd hl hr⟩
end
end L3
namespace Hx
open PySem PySem.W
structure Ch where
 i:Nat
 a:Nat
 t:Nat
 j:Nat
 u:Nat
 b:Nat:=0
def stt (p:m9)(i:Nat):ubv:=p.main.body.getD i (.Pass ⟨0,0,0,0⟩)
def fileS:Str:=u7 "/claim/cut.py"
def mdV (p:m9)(c:Ch):d7:=match stt p c.j with
 | .Assign _ (.Constant (.str x) _ _) _=>.str x c.u
 | _=>.str (u7 "__main__") c.u
def sT (xs:List d7):Obj:=⟨.type "tuple",none,.seq xs.toArray 0,#[]⟩
def fE (xs:List d7):Obj:=⟨.none,none,.fields xs.toArray,#[]⟩
def tks:List Str->Nat->List d7
 | [],_=>[]
 | v::r,t=>.str v t::tks r (t+1)
def z:d7:=.int 0 0
def cdO (nm q:Str)(t:Nat)(l:Int)(na fl:Int)(k:d7)(fn:Bool)(tb vs cs tp:d7)(u:Nat):Obj :=
 ⟨.type "code",none,.fields #[.str nm t,.str q (t+1),.str fileS (t+2),.int l 0,.int na 0,z,z,.int fl 0,k,.bool fn,.int 181 0,tb,.none,vs,cs,tp,.int u 0,.int l 0,.str fileS (u+1)],#[]⟩
def ent (P:Params)(s:Str)(t:Nat)(v:d7):DictEntry:=⟨PyData.keyHash P s,.str s t,v⟩
def dO (es:List DictEntry)(n:Nat):Obj:=⟨.type "dict",none,.dict es.toArray n,#[]⟩
structure Got where
 os:List Obj
 en:List DictEntry
 tb:List d7
def fO (P:Params)(md:d7)(a t:Nat)(name:Str)(args:Arguments)(body:List ubv)(scope:ucd)(bind:Str)(pos:Pos):Got :=
 let fd:ubm:=⟨name,bind,args,.stmts body,scope,0,[],.none,.none,.none,.none,none,.none,.none,0⟩
 let k (vs cs:d7) (b u:Nat) (h:List Obj):Got :=
  ⟨h++[⟨.none,none,.func fd,#[]⟩,cdO name bind t pos.line args.args.length 3 (.ref a) true (.ref (a+1)) vs cs (.ref b) u,
   ⟨.type "function",none,.func ⟨name,bind,args,.stmts body,scope,3,[],.none,.none,.none,md,none,.ref (b+1),.none,0⟩,#[]⟩],
   [ent P name (u+2) (.ref (b+2))],[.int pos.line 0,.int pos.col 0,.ref (b+1)]⟩
 match localNames args scope (.stmts body) with
 | none=>k .none .none (a+2) (t+3) [sT [],fE []]
 | some (vs,cs)=>k (.ref (a+2)) (.ref (a+3)) (a+4) (t+3+vs.length+cs.length) [sT [],fE [],sT (tks vs (t+3)),sT (tks cs (t+3+vs.length))]
def mro0:List d7:=[.type "ValueError",.type "Exception",.type "BaseException",.type "object"]
def clO (P:Params)(md:d7)(a t:Nat)(base:Option Nat)(sub:List d7)(name bind:Str)(pos:Pos):Got :=
 let l:Int:=pos.line
 let w:=base.isNone
 let C:=a+9-(if w then 0 else 0)
 let bs:d7:=match base with | none=>.type "ValueError" | some b=>.ref b
 let e1:=ent P (u7 "__module__") (t+7) md
 let e2:=ent P (u7 "__firstlineno__") (t+11) (.int l (t+10))
 let e3:=ent P (u7 "__static_attributes__") (t+12) (.ref (a+7))
 ⟨[sT [bs],⟨.type "builtin_function_or_method",none,.fields #[.builtin "type.__prepare__",.type "type"],#[]⟩,
  dO [e1,ent P (u7 "__qualname__") (t+9) (.str bind (t+8)),e2,e3] 4,sT [],fE [],
  cdO name bind (t+2) l 0 0 (.ref (a+3)) false (.ref (a+4)) .none .none .none (t+5),
  ⟨.type "frame",none,.plain,#[some (.ref (a+5)),some (.ref 3),some (.ref (a+2)),none,some md,none,some (.ref 0)]⟩,sT [],
  dO (e1::e2::e3::(if w then [ent P (u7 "__weakref__") (t+14) (.ref (a+10)),ent P (u7 "__doc__") (t+15) .none] else [ent P (u7 "__doc__") (t+13) .none])) (if w then 3 else 2),
  ⟨.type "type",none,.cls ⟨name,[bs],.ref C::(match base with | none=>mro0 | some b=>.ref b::mro0),a+8,bind,true,[],sub,false,none,false⟩,
   #[some (.ref a),none,some (.str name t),some (.str bind (t+8)),some (.builtin "ValueError.__new__"),some (.bool true)]⟩] ++
  (if w then [⟨.type "getset_descriptor",none,.fields #[.str (u7 "__weakref__") (t+13),.ref C,.builtin "ExceptionGroup.__weakref__",.none],#[]⟩] else []) ++
  [⟨.type "super",none,.fields #[.ref C,.ref C,.ref C],#[]⟩,⟨.type "builtin_function_or_method",none,.fields #[.builtin "object.__init_subclass__",.ref C],#[]⟩],
  [ent P name (t+(if w then 17 else 15)) (.ref C)],[.int l 0,.int pos.col 0,.ref (a+5)]⟩
def got (p:m9)(P:Params)(cs:List Ch)(c:Ch):Got:=match stt p c.i with
 | .FunctionDef name args body _ _ _ scope _ bind pos=>fO P (mdV p c) c.a c.t name args body scope bind pos
 | .ClassDef name _ _ _ _ _ _ _ bind _ pos=>clO P (mdV p c) c.a c.t (if c.b==0 then none else some c.b) (cs.filterMap λ d=>if d.b==c.a+9 then some (.ref (d.a+9)) else none) name bind pos
 | _=>⟨[],[],[]⟩
def nameNow (p:m9)(cs:List Ch):Option d7:=match cs.getLast? with
 | some c=>some (mdV p { c with j:=c.j,u:=c.u })
 | none=>none
def setName (P:Params)(v:Option d7):List DictEntry->List DictEntry
 | e::r=>(match v with | some v=>{ e with val:=v } | none=>e)::r
 | []=>[]
def globO (p:m9)(P:Params)(cs:List Ch)(en:List DictEntry):Obj->Obj
 | ⟨c,d,.dict es n,s⟩=>⟨c,d,.dict (setName P (nameNow p cs) es.toList++en).toArray (n+en.length),s⟩
 | o=>o
def objs (p:m9)(P:Params)(B:List Obj)(cs:List Ch):List Obj :=
 let gs:=cs.map (got p P cs)
 match B with
 | b0::b1::b2::b3::r=>b0::b1::b2::globO p P cs (gs.flatMap (·.en)) b3::(r++(sT []::fE (gs.flatMap (·.tb)) ::
  cdO (u7 "<module>") (u7 "<module>") 182 1 0 0 (.ref 11) false (.ref 12) .none .none .none 185 ::
  ⟨.type "frame",none,.plain,#[some (.ref 13),some (.ref 3),some (.ref 3),none,some (.str (u7 "__main__") 164),none,some (.ref 0)]⟩::gs.flatMap (·.os)))
 | _=>[]
def spl:List Obj->List Obj × List Obj
 | []=>([],[])
 | x::r=>(x::(spl r).2,(spl r).1)
def braun:Nat->List Obj->BT
 | 0,_=>.nil
 | _+1,[]=>.nil
 | f+1,o::r=>.node o (braun f (spl r).1) (braun f (spl r).2)
structure Cut where
 k:Nat
 n:Nat
 t:Nat
def hpT (p:m9)(B:Params->List Obj)(cs:List Ch)(c:Cut)(P:Params):Heap:=absHeap (braun 12 (objs p P (B P) (cs.take c.k))) c.n {}
def stT (p:m9)(B:Params->List Obj)(D:Drawn)(cs:List Ch)(c:Cut)(w:uaf)(os:OsState):SharedT :=
 ⟨braun 12 (objs p w.params (B w.params) (cs.take c.k)),c.n,{},ud9 [],D,c.t,os⟩
def env (p:m9):Env:={ scope:=p.main.scope,locals:=mainNs,globals:=mainNs,cells:=[],code:=.ref 13,frame:=some 14 }
def cE (p:m9):Code:=.body p.main.body (env p)
def pos0:Pos:=⟨0,0,0,0⟩
def posOf (p:m9):Nat->Pos
 | 0=>pos0
 | k+1=>match stt p k with
  | .Assign [.Name _ q] _ _=>q
  | .FunctionDef _ _ _ _ _ _ _ _ _ q=>q
  | .ClassDef _ _ _ _ _ _ _ _ _ _ q=>q
  | _=>pos0
def ann0:Option d7:=some (.ref 6)
def PieceT (p:m9)(B:Params->List Obj)(D:Drawn)(cs:List Ch)(a b:Cut)(N:Nat):Prop:=∀ w:uaf,
 (λ os=>segRunT treeTable p w 11 ann0 1 N (stT p B D cs a w os) (piecesOf ((p.main.body.drop a.k).take (b.k-a.k)) (env p) (cE p) (posOf p a.k) [topFrame pos0]))=λ os=>some (Flow.next,stT p B D cs b w os,cE p,posOf p b.k)
def PreT (p:m9)(B:Params->List Obj)(D:Drawn)(h:Params->Heap)(t:Nat)(cs:List Ch)(a:Cut):Prop:=∀ w:uaf,
 (λ os=>topGo treeTable p w 11 ann0 12 ⟨h w.params,ud9 [],D,t,os⟩ (topStub p))=λ os=>some ((stT p B D cs a w os).abs,⟨denote treeTable (cE p),cE p,pos0,[topFrame pos0]⟩)
def BlockT (p:m9):Prop:=∀ (w:uaf)(s:d8),segRun treeTable p w 11 ann0 1 1 s (blockOf p.main.body (env p) (cE p) pos0 [topFrame pos0])=some (.next,s,cE p,pos0)
noncomputable def boots (P:Params):List Obj:=[boot_o_0 P,boot_o_1 P,boot_o_2 P,boot_o_3 P,boot_o_4 P,boot_o_5 P,boot_o_6 P,boot_o_7 P,boot_o_8 P,boot_o_9 P,boot_o_10 P]
def qv (p:m9)(is:List Nat):m9:={ p with main:={ p.main with body:=is.map (stt p) } }
def nmO:ubv->Option Str
 | .FunctionDef n ..=>some n
 | .ClassDef n ..=>some n
 | _=>none
def lz (p:m9)(is:List Nat)(n:Nat):List Str:=(i6 n).filterMap λ i=>if is.contains i then none else nmO (stt p i)
def kk (a:Nat)(g:Got):List (Nat × Obj):=match g.os with
 | [_,_,_,c,f]=>[(a+3,c),(a+4,f)]
 | [_,_,_,_,_,c,f]=>[(a+5,c),(a+6,f)]
 | _::_::_::_::_::_::_::_::d::C::_=>[(a+8,d),(a+9,C)]
 | _=>[]
def Kf (p:m9)(B:Params->List Obj)(cs:List Ch)(P:Params):Frag :=
 let gs:=cs.map (got p P cs)
 (3,globO p P cs (gs.flatMap (·.en)) ((B P).getD 3 (sT [])))::(cs.zip gs).flatMap λ c=>kk c.1.a c.2
def LookA (p:m9)(B:Params->List Obj)(D:Drawn)(h:Params->Heap)(cs:List Ch)(c:Cut):Prop:=∀ w:uaf,(λ os =>
  (staticsOk (importedModules p.main.body) (h w.params) (hpT p B cs c w.params)&&namesBound p (hpT p B cs c w.params)&&gensDone ⟨hpT p B cs c w.params,ud9 [],D,c.t,os⟩&&laidKept (h w.params) (hpT p B cs c w.params)))=λ _:OsState=>true
def LookB (p:m9)(B:Params->List Obj)(D:Drawn)(cs:List Ch)(c:Cut)(is:List Nat)(rc:WRecords):Prop:=∀ w:uaf,(λ os =>
  openSeen (qv p is) (lz p is c.k) (importedModules p.main.body) (λ s=>xlAt (qv p is) [] s&&recOk rc s) true ⟨hpT p B cs c w.params,ud9 [],D,c.t,os⟩)=λ _:OsState=>openGood (qv p is) (lz p is c.k)
def LookC (p:m9)(B:Params->List Obj)(cs:List Ch)(c:Cut)(as:List Nat):Prop:=∀ w:uaf,as.map (hpT p B cs c w.params).get?=(Kf p B cs w.params).map λ p=>some p.2
section
variable {p:m9}{D:Drawn}{cs:List Ch}
theorem zag {w:uaf}{s:d8}{c:Code}{q:Pos}:topRun treeTable p w 11 ann0 2 s ⟨doneF .next,c,q,[topFrame pos0]⟩=some s:=rfl
theorem vZ {w:uaf}{os:OsState}{c:Cut}(h:p.main.body.drop c.k=[]) :
  topRun treeTable p w 11 ann0 2 (stT p boots boot_drawn cs c w os).abs (restOf (p.main.body.drop c.k) (env p) (cE p) (posOf p c.k) [topFrame pos0])=some (stT p boots boot_drawn cs c w os).abs:=by
 rw[h];exact piece_nil zag
theorem chain {w:uaf}{os:OsState}{a b:Cut}{N M:Nat}{r:d8}(h:PieceT p boots boot_drawn cs a b N)(le:a.k<=b.k)
  (k:topRun treeTable p w 11 ann0 M (stT p boots boot_drawn cs b w os).abs (restOf (p.main.body.drop b.k) (env p) (cE p) (posOf p b.k) [topFrame pos0])=some r) :
  topRun treeTable p w 11 ann0 (N+M) (stT p boots boot_drawn cs a w os).abs (restOf (p.main.body.drop a.k) (env p) (cE p) (posOf p a.k) [topFrame pos0])=some r:=by
 have e:p.main.body.drop a.k=(p.main.body.drop a.k).take (b.k-a.k)++p.main.body.drop b.k:=by
  have x:=(uc8 (b.k-a.k) (p.main.body.drop a.k)).symm
  rw[List.drop_drop,Nat.add_sub_cancel' le] at x;exact x
 rw[e];exact piece_app (segRun_of (congrFun (h w) os)) k
theorem zH {w:uaf}{os:OsState}{M:Nat}{r:d8}(pre:PreT p boots boot_drawn boot_heap boot_toks cs ⟨0,15,187⟩)(bl:BlockT p)
  (k:topRun treeTable p w 11 ann0 M (stT p boots boot_drawn cs ⟨0,15,187⟩ w os).abs (restOf (p.main.body.drop 0) (env p) (cE p) (posOf p 0) [topFrame pos0])=some r) :
  topRun treeTable p w 11 ann0 (12+(1+M)) ⟨boot_heap w.params,ud9 [],boot_drawn,boot_toks,os⟩ (topStub p)=some r :=
 go_top (congrFun (pre w) os) (piece_block (bl w _) k)
theorem zY {is as:List Nat}{rc:WRecords}{c:Cut}{M N:Nat}{e:∀ P,as=(Kf p boots cs P).map (·.1)}
  (op:opening p=plainProg p.main.scope.names) (hN:Nat.ble 600 N=true) (fe:∀ s,fenceModules? p s=some s)
  (size:∀ w:uaf,((boot_heap w.params).isNs l6&&(ud9 []:Array GenState).size==0,(boot_heap w.params).objs.size,(boot_heap w.params).nsMap l6 "__annotations__")=(true,11,ann0))
  (run:∀ (w:uaf)(os:OsState),topRun treeTable p w 11 ann0 M ⟨boot_heap w.params,ud9 [],boot_drawn,boot_toks,os⟩ (topStub p)=some (stT p boots boot_drawn cs c w os).abs) (le:Nat.ble M N=true)
  (hA:LookA p boots boot_drawn boot_heap cs c) (hB:LookB p boots boot_drawn cs c is rc) (hC:LookC p boots cs c as) :
  LeftO p (qv p is) (lz p is c.k) (λ s=>xlAt (qv p is) [] s&&recOk rc s) (Hook.obs (kHook (Kf p boots cs) as e)) (Hook.val (kHook (Kf p boots cs) as e)) N :=
 LeftO.of_pieces (H₀:=boot_heap) (H₁:=hpT p boots cs c) (boot_open op hN fe) size run le λ w=>funext λ os=>by
  have a:=congrFun (hA w) os
  have b:=congrFun (hB w) os
  have c:=hC w
  exact looks_pair a (looks_pair b c)
end
end Hx
set_option hygiene false
local macro_rules | `(tactic| exists $k, $s) => `(tactic| (refine pE (k := $k) D $s (fun vs H Q E h => by first | (obtain ⟨_, rfl, _⟩ := h; rfl) | (obtain ⟨_, _, rfl, _⟩ := h; rfl) | (obtain ⟨_, _, _, rfl, _⟩ := h; rfl) | (obtain ⟨_, _, _, _, rfl, _⟩ := h; rfl) | (obtain ⟨_, _, _, _, _, rfl, _⟩ := h; rfl) | (obtain ⟨_, _, _, _, _, _, rfl, _⟩ := h; rfl) | (obtain ⟨_, _, _, _, _, _, _, rfl, _⟩ := h; rfl) | (obtain ⟨_, _, _, _, _, _, _, _, rfl, _⟩ := h; rfl) | (obtain ⟨_, _, _, _, _, _, _, _, _, rfl, _⟩ := h; rfl) | (obtain ⟨_, _, _, _, _, _, _, _, _, _, rfl, _⟩ := h; rfl) | (obtain ⟨_, _, _, _, _, _, _, _, _, _, _, rfl, _⟩ := h; rfl) | (obtain ⟨_, _, _, _, _, _, _, _, _, _, _, _, rfl, _⟩ := h; rfl) | (obtain ⟨_, _, _, _, _, _, _, _, _, _, _, _, _, rfl, _⟩ := h; rfl) | (obtain ⟨_, _, _, _, _, _, _, _, _, _, _, _, _, _, rfl, _⟩ := h; rfl) | (obtain ⟨_, _, _, _, _, _, _, _, _, _, _, _, _, _, _, rfl, _⟩ := h; rfl)) (fun f cdv A outer s H vs Q E hr h => ?_); have nd := ($s).nd))
local macro_rules | `(tactic| exists $k, $s, $s2) => `(tactic| refine pE (k := $k) D $s (fun vs H Q E h => ?_) (fun f cdv A outer s H vs Q E hr h => ?_))
local macro_rules | `(‹$n:num›) => `(Ok P w K mg base $n)
set_option hygiene true
namespace Me
open PySem PySem.Spec PyProof.Rows L2 L3
def top (i:Nat):ubv:=a7.main.body.getD i (.Pass ⟨0,0,0,0⟩)
abbrev s_is_whole:ubv:=top 16
theorem sc_is_whole:FnScope ["thing"] ["thing"] (defScope s_is_whole):=by right
abbrev s_is_wholes:ubv:=top 17
theorem sc_is_wholes:FnScope ["thing"] ["thing"] (defScope s_is_wholes):=by right
abbrev s_is_tuple_of:ubv:=top 18
theorem sc_is_tuple_of:FnScope ["thing","many"] ["thing","many"] (defScope s_is_tuple_of):=by right
abbrev s_is_told:ubv:=top 19
abbrev s_is_place:ubv:=top 21
abbrev s_whole:ubv:=top 22
theorem sc_whole:FnScope ["web"] ["web"] (defScope s_whole):=by right
abbrev s_tie_between:ubv:=top 23
theorem sc_tie_between:FnScope ["web","a","b","ends","number","tie"] ["web","a","b"] (defScope s_tie_between):=by right
abbrev s_order_of:ubv:=top 24
theorem sc_order_of:FnScope ["web"] ["web"] (defScope s_order_of):=by right
abbrev s_are_unlike_places:ubv:=top 26
abbrev s_ties_along:ubv:=top 27
theorem sc_ties_along:FnScope ["web","places"] ["web","places"] (defScope s_ties_along):=by right
abbrev s_way_right:ubv:=top 28
abbrev s_leads_between:ubv:=top 29
abbrev s_way_length:ubv:=top 30
theorem sc_way_length:FnScope ["web","way"] ["web","way"] (defScope s_way_length):=by right
abbrev s_tie_weights:ubv:=top 31
theorem sc_tie_weights:FnScope ["web","weights","weight","tie"] ["web"] (defScope s_tie_weights):=by right
abbrev s_cost_with:ubv:=top 32
theorem sc_cost_with:FnScope ["cost","length","weight"] ["cost","length","weight"] (defScope s_cost_with):=by right
abbrev s_reached_from:ubv:=top 33
theorem sc_reached_from:FnScope ["web","keep","root","weights","costs","ahead","again","tie","a","b","length","one","other","cost"] ["web","keep","root"] (defScope s_reached_from):=by right
abbrev s_fars_from:ubv:=top 34
theorem sc_fars_from:FnScope ["web","keep","root","costs","ahead"] ["web","keep","root"] (defScope s_fars_from):=by right
abbrev s_tree_from:ubv:=top 35
theorem sc_tree_from:FnScope ["web","keep","root","costs","ahead"] ["web","keep","root"] (defScope s_tree_from):=by right
abbrev s_the_way:ubv:=top 36
theorem sc_the_way:FnScope ["web","keep","a","b","tree","way"] ["web","keep","a","b"] (defScope s_the_way):=by right
abbrev s_across:ubv:=top 38
abbrev s_heights_hold:ubv:=top 39
abbrev s_heights_from:ubv:=top 40
theorem sc_heights_from:FnScope ["web","keep","a","roof"] ["web","keep","a","roof"] (defScope s_heights_from):=by right
abbrev s_without:ubv:=top 42
theorem sc_without:FnScope ["keep","tie"] ["keep","tie"] (defScope s_without):=by right
abbrev s_spare:ubv:=top 43
theorem sc_spare:FnScope ["web","keep","tie","a","b","length"] ["web","keep","tie"] (defScope s_spare):=by right
abbrev s_need_times:ubv:=top 45
theorem sc_need_times:FnScope ["t"] ["t"] (defScope s_need_times):=by right
abbrev s_way_of:ubv:=top 46
theorem sc_way_of:FnScope ["web","keep","tie","a","b","length"] ["web","keep","tie"] (defScope s_way_of):=by right
abbrev s_is_within:ubv:=top 47
theorem sc_is_within:FnScope ["web","tie","t","way"] ["web","tie","t","way"] (defScope s_is_within):=by right
abbrev s_heights_of:ubv:=top 48
theorem sc_heights_of:FnScope ["web","keep","tie","t","a","b","length"] ["web","keep","tie","t"] (defScope s_heights_of):=by right
abbrev s_way_within:ubv:=top 49
abbrev s_heights_beyond:ubv:=top 50
abbrev s_with_tie:ubv:=top 52
theorem sc_with_tie:FnScope ["keep","tie"] ["keep","tie"] (defScope s_with_tie):=by right
abbrev s_reason_of:ubv:=top 53
theorem sc_reason_of:FnScope ["web","keep","tie","t","way"] ["web","keep","tie","t"] (defScope s_reason_of):=by right
abbrev s_ruled:ubv:=top 54
theorem sc_ruled:FnScope ["keep","ties","word","reason_for","reasons","tie","reason"] ["keep","ties","word","reason_for"] (defScope s_ruled):=by right
abbrev s_ruled_behind:ubv:=top 55
theorem sc_ruled_behind:FnScope ["web","keep","ties","t"] ["web","keep","ties","t"] (defScope s_ruled_behind):=by right
abbrev s_ring_rule:ubv:=top 56
theorem sc_ring_rule:FnScope ["web","t"] ["web","t"] (defScope s_ring_rule):=by right
abbrev s_rule_in:ubv:=top 57
theorem sc_rule_in:FnScope ["web","order","t","keep","reasons"] ["web","order","t"] (defScope s_rule_in):=by right
abbrev s_shown_keep:ubv:=top 58
theorem sc_shown_keep:FnScope ["web","reasons","verdict","keep","tie","reason","kept"] ["web","reasons","verdict"] (defScope s_shown_keep):=by right
abbrev s_reasons_right:ubv:=top 59
theorem sc_reasons_right:FnScope ["web","told","verdict","keep","reasons"] ["web","told","verdict"] (defScope s_reasons_right):=by right
abbrev s_ring_verdict:ubv:=top 60
abbrev s_rule_right:ubv:=top 61
theorem sc_rule_right:FnScope ["web","t","told"] ["web","t","told"] (defScope s_rule_right):=by right
abbrev s_needed:ubv:=top 62
theorem sc_needed:FnScope ["web","keep","t"] ["web","keep","t"] (defScope s_needed):=by right
abbrev s__law_pot:ubv:=top 64
theorem sc__law_pot:FnScope ["script","k","cell","prime"] ["script","k"] (defScope s__law_pot):=by right
abbrev s__law_take:ubv:=top 65
theorem sc__law_take:FnScope ["pot","many","found"] ["pot","many"] (defScope s__law_take):=by right
abbrev s__law_length:ubv:=top 66
theorem sc__law_length:FnScope ["pot","way"] ["pot","way"] (defScope s__law_length):=by right
abbrev s__law_tied:ubv:=top 67
theorem sc__law_tied:FnScope ["pot","n","style","a","b","beside"] ["pot","n","style","a","b"] (defScope s__law_tied):=by right
abbrev s__law_order:ubv:=top 68
theorem sc__law_order:FnScope ["pot","many","left","found","turn"] ["pot","many"] (defScope s__law_order):=by right
abbrev s__law_web:ubv:=top 69
theorem sc__law_web:FnScope ["pot","most","n","style","way","names","ties","b","a","one","other"] ["pot","most"] (defScope s__law_web):=by right
abbrev s__law_keep:ubv:=top 70
theorem sc__law_keep:FnScope ["pot","web","way"] ["pot","web"] (defScope s__law_keep):=by right
abbrev s__law_asked:ubv:=top 71
theorem sc__law_asked:FnScope ["which","web","keep","t"] ["which","web","keep","t"] (defScope s__law_asked):=by right
abbrev s__law_refused:ubv:=top 72
theorem sc__law_refused:FnScope ["which","web","keep","t","caught","e"] ["which","web","keep","t"] (defScope s__law_refused):=by right
abbrev s_law:ubv:=top 73
theorem sc_law:FnScope ["script","k","pot","none","first","web","keep","kept","turn","which","ahead"] ["script"] (defScope s_law):=by right
section
variable {P:m9}{w:uaf}{K:a8}{mg:Str->Option d7}{base:Heap}
theorem sA (T:Bi mg)(D:DefOk K mg "_law_take" s__law_take ["pot","many"]):‹1› "_law_take" ["pot","many"] spTake:=by
 exists 0,sc__law_take
 obtain⟨p,m,rfl,⟨a,b,hp,ha,hb,hb2⟩,hm,hm2,q⟩:=h
 refine⟨_,(aE (aV (aR eV (aK bC (pv 0) aC (λ _ _=>rfl)) aC (nomark _)) (aE (aO (i:=2) nd rfl (v8 rfl) (aJ bS (aK bC (pv 0) aC (λ _ _=>rfl)) (pv 1))) (aE (bE (aJ nU (aK bC (pv 0) aC (λ _ _=>rfl)) (pv 1)) (eS (pv 0) aC eF)) (aF (aI (pv 2))))) aU) (aE (bE (aJ bS (aJ bT (aJ dQ (aK bC (pv 0) aC (λ _ _=>rfl)) aC) aC) aC) (eS (pv 0) aC eF)) (aF (aI (aJ bS (aJ nU (aJ bS (aJ bN (aK bC (pv 0) aC (λ _ _=>rfl)) aC) aC) aC) (pv 1)))))),?_⟩
 refine⟨_,rfl,p,_,_,_,rfl,rfl,SqL.of hp,rfl,_,_,rfl,rfl,_,rfl,?_⟩
 refine ite2 (λ c=>?_) (λ c=>?_)
 ·refine⟨_,rfl,p,_,_,_,rfl,rfl,SqL.of hp,rfl,_,rfl,_,_,rfl,rfl,hm,?_⟩
  refine⟨_,rfl,p,_,_,_,rfl,rfl,SqL.of hp,rfl,_,rfl,_,_,rfl,rfl,⟨hm,hm2⟩,?_⟩
  refine⟨_,rfl,p,_,0,0,rfl,rfl,hp,rfl,_,rfl,?_⟩
  refine q _ _ (uck _ (by left)) (ucc _ hm) But.upd ⟨a / m,b,aH,Int.ediv_nonneg ha (by left),hb,hb2⟩
 ·refine⟨_,rfl,p,_,_,_,rfl,rfl,SqL.of hp,rfl,_,_,rfl,rfl,.inr ⟨by decide,by decide⟩,_,_,rfl,rfl,_,_,rfl,rfl,(by show (0:Int)<2147483647;decide),?_⟩
  refine⟨_,rfl,p,_,1,1,rfl,rfl,hp,rfl,?_⟩
  have n1:0<=(b*48271+12820163)%2147483647:=uck _ (by decide)
  have n2:(b*48271+12820163)%2147483647<2147483647:=ucc _ (by decide)
  refine⟨_,rfl,p,_,_,_,rfl,rfl,SqL.of aH,rfl,_,_,rfl,rfl,⟨by decide,by decide,by left⟩,_,_,rfl,rfl,(by show (0:Int)<2147483629;decide),_,_,rfl,rfl,⟨by decide,by decide⟩,_,rfl,_,_,rfl,rfl,hm,?_⟩
  exact q _ _ (uck _ (by left)) (ucc _ hm) But.upd ⟨a,_,aH,ha,n1,n2⟩
theorem tE (T:Bi mg)(D:DefOk K mg "_law_pot" s__law_pot ["script","k"]):‹1› "_law_pot" ["script","k"] (spPot K):=by
 exists 0,sc__law_pot
 obtain⟨a,k,ns,rfl,hS,hk0,hk1,q⟩:=h
 have hl:(ns.map V.int).length=ns.length:=g9 _
 refine⟨_,(aE (aO (i:=2) nd rfl (v8 rfl) aC) (aE (aV (aR dU (pv 1) (aQ bW rfl T.z_len (by symm) (aA (pv 0) aB)) (nomark _)) (aF (aO (i:=2) nd rfl (v8 rfl) (aJ bS (aK bC (pv 0) (pv 1) (λ _ _=>rfl)) (aJ nR (aJ nR (aJ bN aC aC) (aJ bN aC aC)) (aJ bN aC aC))))) aU) (aE (aO (i:=3) nd rfl (v8 rfl) (aK bC (dA (aA aC (aA aC (aA aC (aA aC (aA aC aB)))))) (aJ bS (pv 1) aC) (λ _ _=>rfl))) (aF (aI (dA (aA (aQ (gY rfl) rfl T.z_max (by symm) (aA aC (aA (aJ cS (pv 2) (aJ bN aC aC)) aB))) (aA (aJ bS (aJ bN (aJ bT (aJ bT (aJ bS (pv 2) (pv 3)) (aJ dQ aC (pv 1))) aC) aC) aC) aB)))))))),?_⟩
  -- behind the test: cell is some number that is not below nought
 have rest : ∀ (cell : Int), 0 <= cell → ∀ (σ : L2.St), σ = [some (.ref a), some (.int k), some (.int cell), none] →
     (tSeq (tAsg (tOp (rIxL K) (tLst (tCons (tC (.int 2147483629)) (tCons (tC (.int 2147483587)) (tCons (tC (.int 2147483579)) (tCons (tC (.int 2147483563)) (tCons (tC (.int 2147483549)) tNil)))))) (tOp (rI (λ _ j=>0<j) λ i j=>.int (i%j)) (tVar 1) (tC (.int 5)))) (gName 3))
       (tRet (tLst (tCons (tCB (λ xs H Q=>∃ i j,xs=[.int i,.int j]/\Q (.int (if j>i then j else i)) H) (tCons (tC (.int 0)) (tCons (tOp (rI0 λ i j=>.int (i-j)) (tVar 2) (tOp (rI CPow λ i j=>.int (i^j.toNat)) (tC (.int 10)) (tC (.int 18)))) tNil)))
         (tCons (tOp (rI (λ _ j=>0<j) λ i j=>.int (i%j)) (tOp (rI CPow λ i j=>.int (i^j.toNat)) (tOp (rI0 λ i j=>.int (i+j)) (tOp (rI0 λ i j=>.int (i+j)) (tOp (rI (λ _ j=>0<j) λ i j=>.int (i%j)) (tVar 2) (tVar 3)) (tOp (rI CMul λ i j=>.int (i*j)) (tC (.int 7919)) (tVar 1))) (tC (.int 11))) (tC (.int 3))) (tC (.int 2147483647))) tNil)))))
       { nx:=λ _ H'=>Q .non H',rt:=Q } σ H:=by
  intro cell hc σ hσ
  subst hσ
  refine⟨(by show 5<=p9;decide),λ l hl=>?_⟩
  refine⟨_,rfl,_,_,rfl,rfl,(by show (0:Int)<5;decide),?_⟩
  have m0:0<=k%5:=uck _ (by decide)
  have m1:k%5<5:=ucc _ (by decide)
  have pr:∃ v:Int,atI [V.int 2147483629,V.int 2147483587,V.int 2147483579,V.int 2147483563,V.int 2147483549] (k%5)=some (.int v)/\2147483549<=v/\v<=2147483629:=by
   have:k%5=0\/k%5=1\/k%5=2\/k%5=3\/k%5=4:=by left
   rcases this with e | e | e | e | e <;> rw[e] <;> exact⟨_,rfl,by decide,by decide⟩
  obtain⟨v,hv,v1,v2⟩:=pr
  refine⟨l,_,_,_,rfl,rfl,SqL.of aH,hv,?_⟩
  have S1:Same H (upd H l (.lst [V.int 2147483629,V.int 2147483587,V.int 2147483579,V.int 2147483563,V.int 2147483549])):=aN hl
  refine⟨_,rfl,_,_,rfl,rfl,⟨by decide,by decide,by decide⟩,_,_,rfl,rfl,_,_,rfl,?_⟩
  refine⟨_,rfl,_,rfl,_,_,rfl,rfl,(by show (0:Int)<v;left),_,rfl,_,_,rfl,rfl,.inl ⟨by decide,by decide⟩,_,_,rfl,rfl,_,_,rfl,rfl,_,_,rfl,rfl,⟨by decide,by decide,?_⟩,_,_,rfl,rfl,(by show (0:Int)<2147483647;decide),?_⟩
  ·have c0:0<=cell%v:=uck _ (by left)
   have c1:cell%v<v:=ucc _ (by left)
   left
  refine⟨(by show 2<=p9;decide),λ l2 hl2=>?_⟩
  refine q l2 _ (S1.trans (aN hl2)) (S1.free hl2) ⟨_,_,aH,?_,uck _ (by decide),ucc _ (by decide)⟩
  split <;> left
 refine⟨_,rfl,_,rfl,a,_,rfl,.inl hS,_,_,rfl,rfl,_,rfl,?_⟩
 refine ite2 (λ c=>?_) (λ c=>?_)
 ·have c':k<(((ns.map V.int).length:Nat):Int):=uga c
  rw[hl] at c'
  obtain⟨v,hv⟩:∃ v:Int,atI (ns.map V.int) k=some (.int v):=by
   have hk:k.toNat<ns.length:=by left
   have ek:k=((k.toNat:Nat):Int):=by left
   have z:atI (ns.map V.int) ((k.toNat:Nat):Int)=some (.int ns[k.toNat]):=iR (by rw[o7,d6 hk] <;> rfl)
   rw[← ek] at z
   exact⟨_,z⟩
  refine⟨_,rfl,_,rfl,a,_,_,_,rfl,rfl,hS,hv,?_⟩
  refine⟨_,_,rfl,rfl,⟨by decide,by decide,by decide⟩,_,_,rfl,rfl,⟨by decide,by decide,by decide⟩,_,_,rfl,rfl,mulB,_,_,rfl,rfl,⟨by decide,by decide,by decide⟩,_,_,rfl,rfl,mulB2,_,_,rfl,rfl,posB,?_⟩
  exact rest _ (uck _ (by have:=posB;left)) _ rfl
 ·exact rest 5 (by decide) _ rfl
theorem qM (T:Bi mg)(D:DefOk K mg "_law_length" s__law_length ["pot","way"])(O__law_take:‹1› "_law_take" ["pot","many"] spTake):‹2› "_law_length" ["pot","way"] spLength:=by
 exists 1,sc__law_length
 obtain⟨p,y,rfl,hp,hy0,hy5,q⟩:=h
 refine⟨_,(aE (aV (aR dU (pv 1) aC (nomark _)) (aF (aI (aK bC (dA (aA aC (aA (aJ bT aC (aG O__law_take hr rfl (aA (pv 0) (aA aC aB)))) aB))) (pv 1) (λ _ _=>rfl)))) aU) (aE (aV (aR aX (pv 1) aC (nomark _)) (aF (aI (aJ bT aC (aG O__law_take hr rfl (aA (pv 0) (aA aC aB)))))) aU) (aE (aV (aR aX (pv 1) aC (nomark _)) (aF (aI (aK bC (dA (aA aC (aA aC (aA aC (aA (aJ bN aC aC) (aA (aJ cS (aJ bN aC aC) aC) (aA (aJ bN aC aC) aB))))))) (aG O__law_take hr rfl (aA (pv 0) (aA aC aB))) (λ _ _=>rfl)))) aU) (aF (aI (aJ bT aC (aJ dQ (aG O__law_take hr rfl (aA (pv 0) (aA (aJ bN aC aC) aB))) (aG O__law_take hr rfl (aA (pv 0) (aA (aJ bT (aJ bN aC aC) aC) aB)))))))))),?_⟩
 refine⟨_,rfl,_,_,rfl,rfl,_,rfl,?_⟩
 refine ite2 (λ c=>?_) (λ c=>?_)
 ·have c':y<2:=uga c
  refine⟨_,rfl,p,3,rfl,hp,by decide,by decide,λ r H1 r0 r1 b1 p1=>?_⟩
  refine⟨_,_,rfl,rfl,(by show 2<=p9;decide),λ l hl=>?_⟩
  have at_:∃ v:Int,atI [V.int 1,V.int (1+r)] y=some (.int v)/\1<=v/\v<=10^18:=by
   have:y=0\/y=1:=by left
   rcases this with e | e <;> rw[e]
   ·exact⟨1,rfl,by symm,by symm⟩
   ·exact⟨1+r,rfl,by left,by left⟩
  obtain⟨v,hv,v0,v1⟩:=at_
  refine⟨_,rfl,l,_,_,_,rfl,rfl,SqL.of aH,hv,?_⟩
  obtain⟨a',b',e',z⟩:=p1
  exact q v _ v0 v1 (b1.trans (But.new hl)) ⟨a',b',(aN hl) _ _ e',z⟩
 refine⟨_,rfl,rfl,_,rfl,?_⟩
 refine ite2 (λ c2=>?_) (λ c2=>?_)
 ·refine⟨_,rfl,p,50,rfl,hp,by decide,by decide,λ r H1 r0 r1 b1 p1=>?_⟩
  exact⟨_,_,rfl,rfl,q _ _ (by left) (by left) b1 p1⟩
 refine⟨_,rfl,rfl,_,rfl,?_⟩
 refine ite2 (λ c3=>?_) (λ c3=>?_)
 ·refine⟨_,_,rfl,rfl,⟨by decide,by decide,by decide⟩,_,_,rfl,rfl,⟨by decide,by decide,by decide⟩,_,_,rfl,rfl,_,_,rfl,rfl,⟨by decide,by decide,by decide⟩,(by show 6<=p9;decide),λ l hl=>?_⟩
  have hp':Pot (upd H l (.lst [V.int 1,V.int 2,V.int 3,V.int ((10:Int)^(18:Int).toNat),V.int ((10:Int)^(18:Int).toNat-1),V.int ((10:Int)^(17:Int).toNat)])) p:=by
   obtain⟨a',b',e',z⟩:=hp
   exact⟨a',b',(aN hl) _ _ e',z⟩
  have lp:l≠p:=by
   obtain⟨a',b',e',z⟩:=hp
   exact λ e=>by rw[e,e'] at hl;cases hl
  refine⟨_,rfl,p,6,rfl,hp',by decide,by decide,λ r H1 r0 r1 b1 p1=>?_⟩
  have at_:∃ v:Int,atI [V.int 1,V.int 2,V.int 3,V.int ((10:Int)^(18:Int).toNat),V.int ((10:Int)^(18:Int).toNat-1),V.int ((10:Int)^(17:Int).toNat)] r=some (.int v)/\1<=v/\v<=10^18:=by
   have:r=0\/r=1\/r=2\/r=3\/r=4\/r=5:=by left
   rcases this with e | e | e | e | e | e <;> rw[e] <;> exact⟨_,rfl,by symm,by symm⟩
  obtain⟨v,hv,v0,v1⟩:=at_
  refine⟨l,_,_,_,rfl,rfl,SqL.of (b1 _ _ lp aH),hv,?_⟩
  exact q v _ v0 v1 ((But.new hl).trans b1) p1
 ·refine⟨_,rfl,_,_,rfl,rfl,⟨by decide,by decide,by decide⟩,p,_,rfl,hp,by decide,by decide,λ r H1 r0 r1 b1 p1=>?_⟩
  refine⟨_,rfl,_,_,rfl,rfl,⟨by decide,by decide,by decide⟩,_,_,rfl,rfl,p,_,rfl,p1,by decide,by decide,λ r2 H2 r20 r21 b2 p2=>?_⟩
  have e9:((10:Int)^(9:Int).toNat)=1000000000:=by decide
  rw[e9] at r1 r21
  refine⟨_,_,rfl,rfl,.inl ⟨by left,by left⟩,_,_,rfl,rfl,?_⟩
  have m0:0<=r*r2:=Int.mul_nonneg r0 r20
  have m1:r*r2<=999999999*1000000000:=Int.mul_le_mul (by left) (by left) r20 (by decide)
  exact q _ _ (by left) (by left) (b1.trans b2) p2
theorem rZ (T:Bi mg)(D:DefOk K mg "_law_tied" s__law_tied ["pot","n","style","a","b"])(O__law_take:‹1› "_law_take" ["pot","many"] spTake):‹2› "_law_tied" ["pot","n","style","a","b"] spTied:=by
 exists 1,sc__law_tied
 obtain⟨p,n,y,a,b,rfl,hp,q⟩:=h
 have q0:∀ k,Q (.bl k) H:=λ k=>q k H But.refl hp
 refine⟨_,(aE (aO (i:=5) nd rfl (v8 rfl) (jE (bB aX (aJ cS (pv 4) (pv 3)) aC (nomark _)) (bR (bB aX (aJ cS (pv 4) (pv 3)) (aJ cS (pv 1) aC) (nomark _))))) (aE (aV (aR dU (pv 2) aC (nomark _)) (aF (aI (jE (pv 5) (bR (cD (bB aX (pv 2) aC (nomark _)) (bR (bB aX (aG O__law_take hr rfl (aA (pv 0) (aA aC aB))) aC (nomark _)))))))) aU) (aE (aV (aR dU (pv 2) aC (nomark _)) (aF (aI (bB aX (bB eV (aG O__law_take hr rfl (aA (pv 0) (aA aC aB))) aC (nomark _)) (bB aX (pv 2) aC (nomark _)) (nomark _)))) aU) (aE (aV (aR aX (pv 2) aC (nomark _)) (aF (aI (jE (bB aX (aJ cS (pv 4) (pv 3)) aC (nomark _)) (bR (cD (bB aX (aJ cS (pv 4) (pv 3)) aC (nomark _)) (bR (bB eV (aJ bS (pv 4) aC) aC (nomark _)))))))) aU) (aE (aV (aR dU (pv 2) aC (nomark _)) (aF (aI (cD (bB aX (bB aX (aJ bS (pv 3) aC) (aJ bS (pv 4) aC) (nomark _)) (bB aX (pv 2) aC (nomark _)) (nomark _)) (bR (bB eV (aG O__law_take hr rfl (aA (pv 0) (aA aC aB))) aC (nomark _)))))) aU) (aF (aI bU))))))),?_⟩
 refine⟨_,rfl,_,rfl,_,_,rfl,rfl,rfl,_,rfl,?_⟩
 refine ite2 (λ c=>?_) (λ c=>?_)
 all_goals (try refine⟨_,rfl,_,rfl,_,_,rfl,rfl,_,rfl,_,_,rfl,rfl,rfl,?_⟩)
 all_goals
  refine⟨_,rfl,_,_,rfl,rfl,_,rfl,?_⟩
  refine ite2 (λ c1=>?_) (λ c1=>?_)
  ·refine⟨_,rfl,_,rfl,?_⟩
   refine ite2 (λ d=>?_) (λ d=>?_)
   ·exact q0 _
   ·refine⟨_,rfl,rfl,_,rfl,?_⟩
    refine ite2 (λ d=>?_) (λ d=>?_)
    ·exact⟨_,rfl,p,_,rfl,hp,by decide,by decide,λ r H' _ _ b1 p1=>⟨rfl,q _ _ b1 p1⟩⟩
    ·exact q0 _
  refine⟨_,rfl,_,_,rfl,rfl,_,rfl,?_⟩
  refine ite2 (λ c2=>?_) (λ c2=>?_)
  ·exact⟨_,rfl,p,_,rfl,hp,by decide,by decide,λ r H' _ _ b1 p1=>⟨_,_,rfl,rfl,_,rfl,rfl,rfl,q _ _ b1 p1⟩⟩
  refine⟨_,rfl,rfl,_,rfl,?_⟩
  refine ite2 (λ c3=>?_) (λ c3=>?_)
  ·refine⟨_,rfl,_,rfl,_,_,rfl,rfl,rfl,_,rfl,?_⟩
   refine ite2 (λ d=>?_) (λ d=>?_)
   ·exact q0 _
   ·refine⟨_,rfl,_,rfl,_,_,rfl,rfl,rfl,_,rfl,?_⟩
    refine ite2 (λ d=>?_) (λ d=>?_)
    ·exact⟨_,rfl,_,_,rfl,rfl,(by show (0:Int)<3;decide),_,_,rfl,rfl,q0 _⟩
    ·exact q0 _
  refine⟨_,rfl,_,_,rfl,rfl,_,rfl,?_⟩
  refine ite2 (λ c4=>?_) (λ c4=>?_)
  ·refine⟨_,rfl,_,_,rfl,rfl,(by show (0:Int)<2;decide),_,rfl,_,_,rfl,rfl,(by show (0:Int)<2;decide),rfl,_,rfl,rfl,rfl,_,rfl,?_⟩
   refine ite2 (λ d=>?_) (λ d=>?_)
   ·exact⟨_,rfl,p,_,rfl,hp,by decide,by decide,λ r H' _ _ b1 p1=>⟨_,_,rfl,rfl,q _ _ b1 p1⟩⟩
   ·exact q0 _
  ·exact q0 _
theorem rD (T:Bi mg)(D:DefOk K mg "_law_order" s__law_order ["pot","many"])(O__law_take:‹1› "_law_take" ["pot","many"] spTake):‹2› "_law_order" ["pot","many"] spOrder:=by
 exists 1,sc__law_order
 obtain⟨p,m,rfl,hp,hm0,hm1,q⟩:=h
 refine⟨_,(aE (aO (i:=2) nd rfl (v8 rfl) (bA (rF rfl) rfl T.z_list (by symm) (aA (bA fB rfl T.z_range (by symm) (aA (pv 1) aB)) aB))) (aE (aO (i:=3) nd rfl (v8 rfl) (dA aB)) (aE (cC PassesOwn.never rfl (dH rfl T.z_range (aA (pv 1) aB)) (aL (i:=4) nd rfl (v8 rfl)) (aF (bI (dS ubn ub1 ub0 fI (pv 3) (aA (dS ubn PySem.F.slot_list_pop PySem.F.type_list_pop xG (pv 2) (aA (aG O__law_take hr rfl (aA (pv 0) (aA (aQ bW rfl T.z_len (by symm) (aA (pv 2) aB)) aB))) aB)) aB))))) (aF (aI (pv 3)))))),?_⟩
 refine⟨_,rfl,m,rfl,λ g hg=>?_⟩
 refine⟨g,m,rfl,aH,hm0,hm1,λ l hl=>?_⟩
 refine⟨(by show 0<=p9;decide),λ l2 hl2=>?_⟩
 obtain⟨H0,eH0⟩:∃ H0,H0=upd (upd (upd H g (.rng 0 m)) l (.lst ((i6 m.toNat).map λ i:Nat=>V.int (i:Int)))) l2 (.lst []):=⟨_,rfl⟩
 rw[← eH0]
 have S1:Same H (upd H g (.rng 0 m)):=aN hg
 have S2:=S1.trans (aN (o:=.lst ((i6 m.toNat).map λ i:Nat=>V.int (i:Int))) hl)
 have S3:Same H H0:=by rw[eH0];exact S2.trans (aN hl2)
 have fl:H l=none:=S1.free hl
 have fl2:H l2=none:=S2.free hl2
 have ll2:l≠l2:=λ e=>by rw[← e,aH] at hl2;cases hl2
 have el:H0 l=some (.lst ((i6 m.toNat).map λ i:Nat=>V.int (i:Int))):=by rw[eH0,aD ll2,aH]
 have el2:H0 l2=some (.lst []):=by rw[eH0,aH]
 have hp0:Pot H0 p:=by
  obtain⟨a,b,e,z⟩:=hp
  exact⟨a,b,S3 _ _ e,z⟩
 have nlp:l≠p:=by
  obtain⟨a,b,e,z⟩:=hp
  exact λ x=>by rw[x,e] at fl;cases fl
 have nl2p:l2≠p:=by
  obtain⟨a,b,e,z⟩:=hp
  exact λ x=>by rw[x,e] at fl2;cases fl2
 refine⟨_,rfl,m,rfl,by left,by left,?_⟩
 refine eB (n:=m.toNat) (λ i σ H'=>∃ (t:Option V)(ls ms:List Int),σ=[some (.ref p),some (.int m),some (.ref l),some (.ref l2),t]/\H' l=some (.lst (ls.map V.int))/\H' l2=some (.lst (ms.map V.int))/\Pot H' p /\
  (∀ b o,b≠p->H b=some o->H' b=some o)/\(ms++ls).Perm ((i6 m.toNat).map λ i:Nat=>(i:Int))/\ms.length=i) ?start ?turn ?fin
 case start=>exact⟨none,(i6 m.toNat).map λ i:Nat=>(i:Int),[],rfl,by rw[el,ubb];rfl,el2,hp0,λ b o _ e=>S3 b o e,ufd _,rfl⟩
 case turn =>
  rintro i σ H' hi ⟨t,ls,ms,rfl,e1,e2,hp',kp,pm,hl'⟩
  have hlen:ls.length=m.toNat-i:=by
   have:=pm.length_eq
   rw[j3,g9,v6] at this
   left
  refine⟨_,rfl,.inl ⟨rfl,_,SqL.of e2⟩,_,rfl,.inl ⟨rfl,_,SqL.of e1⟩,_,rfl,_,rfl,l,_,rfl,.inl (SqL.of e1),?_⟩
  refine⟨p,_,rfl,hp',(by rw[g9];left),(by rw[g9];left),λ r H1 r0 r1 b1 p1=>?_⟩
  rw[g9] at r1
  have hr1:r.toNat<ls.length:=by left
  have er:r=((r.toNat:Nat):Int):=by left
  have six:seqIndex? r (ls.map V.int).length=some r.toNat:=(iP (by unfold ixN;rw[ugc r0,ugc (by rw[g9];left)])).1
  refine⟨l,_,r,r.toNat,.int ls[r.toNat],rfl,rfl,b1 _ _ nlp e1,by left,by left,six,by rw[o7,d6 hr1];rfl,?_⟩
  refine⟨l2,_,_,rfl,rfl,by rw[aD ll2.symm];exact b1 _ _ nl2p e2,?_,?_⟩
  ·rw[g9]
   exact ubc (by left:ms.length<=1000) (by decide)
  ·refine⟨_,ls.eraseIdx r.toNat,ms++[ls[r.toNat]],rfl,?_,?_,?_,?_,?_,by rw[j3,p7];left⟩
   ·rw[aD ll2,aH,kM]
   ·rw[aH,uab];rfl
   ·obtain⟨a,b,e,z⟩:=p1
    exact⟨a,b,by rw[aD nl2p.symm,aD nlp.symm];exact e,z⟩
   ·intro b o hb e
    have n1:b≠l:=λ x=>by rw[x,fl] at e;cases e
    have n2:b≠l2:=λ x=>by rw[x,fl2] at e;cases e
    rw[aD n2,aD n1]
    exact b1 _ _ hb (kp _ _ hb e)
   ·refine List.Perm.trans ?_ pm
    rw[ubg]
    refine List.Perm.append_left _ ?_
    show (ls[r.toNat]::ls.eraseIdx r.toNat).Perm ls
    exact jX ls r.toNat hr1
 case fin =>
  rintro σ H' ⟨t,ls,ms,rfl,e1,e2,hp',kp,pm,hl'⟩
  have hlen:ls=[]:=by
   have:=pm.length_eq
   rw[j3,g9,v6] at this
   exact List.eq_nil_of_length_eq_zero (by left)
  subst hlen
  rw[ubi] at pm
  exact⟨_,rfl,q l2 H' ms kp hp' fl2 nl2p e2 pm⟩
def WInv (H:Hp)(p ln lt:j7)(m n st wy:Int)(ms:List Int)(b a:Nat)(σ:L2.St)(H':Hp):Prop :=
 ∃ (t7 t8 t9 t10:Option V)(ys:List V)(ties:List Tie),σ=[some (.ref p),some (.int m),some (.int n),some (.int st),some (.int wy),some (.ref ln),some (.ref lt),t7,t8,t9,t10] /\
  H' ln=some (.lst (ms.map V.int))/\H' lt=some (.lst ys)/\TieL H' ys ties/\Pot H' p/\(∀ b o,b≠p->H b=some o->H' b=some o)/\Grown n.toNat ms b a ties
theorem tD (T:Bi mg)(D:DefOk K mg "_law_web" s__law_web ["pot","most"])(O__law_take:‹2› "_law_take" ["pot","many"] spTake)(O__law_order:‹2› "_law_order" ["pot","many"] spOrder)
  (O__law_tied:‹2› "_law_tied" ["pot","n","style","a","b"] spTied) (O__law_length:‹2› "_law_length" ["pot","way"] spLength):‹3› "_law_web" ["pot","most"] (spWeb K):=by
 exists 2,sc__law_web
 obtain⟨p,m,rfl,hp,hm0,hm1,q⟩:=h
 refine⟨_,(aE (aO (i:=2) nd rfl (v8 rfl) (aJ bT aC (aG O__law_take hr rfl (aA (pv 0) (aA (pv 1) aB))))) (aE (aO (i:=3) nd rfl (v8 rfl) (aG O__law_take hr rfl (aA (pv 0) (aA aC aB)))) (aE (aO (i:=4) nd rfl (v8 rfl) (aG O__law_take hr rfl (aA (pv 0) (aA aC aB)))) (aE (aO (i:=5) nd rfl (v8 rfl) (aG O__law_order hr rfl (aA (pv 0) (aA (pv 2) aB)))) (aE (aO (i:=6) nd rfl (v8 rfl) (dA aB)) (aE (cC PassesOwn.never rfl (dH rfl T.z_range (aA (pv 2) aB)) (aL (i:=7) nd rfl (v8 rfl)) (aF (cC PassesOwn.never rfl (dH rfl T.z_range (aA (pv 7) aB)) (aL (i:=8) nd rfl (v8 rfl)) (aF (aV (PW.pt (oO (bP (aG O__law_tied hr rfl (aA (pv 0) (aA (pv 2) (aA (pv 3) (aA (pv 8) (aA (pv 7) aB))))))) (nK (aR dU (aQ bW rfl T.z_len (by symm) (aA (pv 6) aB)) aC (nomark _))))) (aE (bE (aQ sD rfl T.z_sorted (by symm) (aA (dA (aA (aK bC (pv 5) (pv 8) (λ _ _=>rfl)) (aA (aK bC (pv 5) (pv 7) (λ _ _=>rfl)) aB))) aB)) (za3 (n:=2) rfl (aS (aL (i:=9) nd rfl (v8 rfl)) (aS (aL (i:=10) nd rfl (v8 rfl)) bK)))) (aF (bI (dS ubn ub1 ub0 fI (pv 6) (aA (oQ (aA (pv 9) (aA (pv 10) (aA (aG O__law_length hr rfl (aA (pv 0) (aA (pv 4) aB))) aB)))) aB))))) aU))))) (aF (aI (oQ (aA (pv 2) (aA (bA gL rfl T.z_tuple (by symm) (aA (aQ sC rfl T.z_sorted (by symm) (aA (pv 6) aB)) aB)) aB))))))))))),?_⟩
 refine⟨_,rfl,_,rfl,p,m,rfl,hp,by left,by left,λ r1 H1 r10 r11 b1 p1=>?_⟩
 refine⟨_,_,rfl,rfl,?_⟩
 refine⟨_,rfl,p,8,rfl,p1,by decide,by decide,λ st H2 _ _ b2 p2=>?_⟩
 refine⟨_,rfl,p,5,rfl,p2,by decide,by decide,λ wy H3 wy0 wy1 b3 p3=>?_⟩
 refine⟨_,rfl,_,rfl,p,_,rfl,p3,by left,by left,λ ln H4 ms b4 p4 f4 n4 e4 pm=>?_⟩
 obtain⟨n,en⟩:∃ n:Int,n=1+r1:=⟨_,rfl⟩
 rw[← en] at pm
 have bt4:But p H H4:=b1.trans (b2.trans (b3.trans b4))
 have fln:H ln=none:=by
  cases e:H ln with
  | none=>rfl
  | some u=>rw[(b1.trans (b2.trans b3)) _ _ n4 e] at f4;cases f4
 refine⟨(by show 0<=p9;decide),λ lt hlt=>?_⟩
 have flt:H lt=none:=by
  by_cases z:lt=p
  ·obtain⟨a',b',e',_⟩:=p4;rw[z,e'] at hlt;cases hlt
  ·cases e:H lt with
   | none=>rfl
   | some u=>rw[bt4 _ _ z e] at hlt;cases hlt
 have nlt:lt≠p:=by
  obtain⟨a',b',e',_⟩:=p4
  exact λ x=>by rw[x,e'] at hlt;cases hlt
 have nln:ln≠lt:=λ x=>by rw[← x,e4] at hlt;cases hlt
 have pm0:Perm0 n.toNat ms:=Perm0.of pm
 refine⟨_,rfl,n,by rw[en],by left,by left,?_⟩
 refine eB (n:=n.toNat) (λ i σ H'=>WInv H p ln lt m n st wy ms i 0 σ H') ?start ?turn ?fin
 case start =>
  refine⟨none,none,none,none,[],[],by rw[en];rfl,by rw[aD nln];exact e4,aH,.nil,?_,λ b o hb e=>?_,Grown.start⟩
  ·obtain⟨a',b',e',z⟩:=p4
   exact⟨a',b',by rw[aD nlt.symm];exact e',z⟩
  ·rw[aD (λ x=>by rw[x,flt] at e;cases e)]
   exact bt4 _ _ hb e
 case turn =>
  rintro i σ H' hi ⟨t7,t8,t9,t10,ys,ties,rfl,g1,g2,g3,g4,g5,g6⟩
  refine⟨_,rfl,_,rfl,by left,by left,?_⟩
  have ei:((0+(i:Int)):Int).toNat=i:=by left
  rw[ei]
  refine eB (n:=i) (λ k σ H''=>(∃ t7,σ[7]?=some (some (.int (0+(i:Int))))/\t7=())/\WInv H p ln lt m n st wy ms i k σ H'') ?start2 ?turn2 ?fin2
  case start2=>exact⟨⟨(),rfl,rfl⟩,some (.int (0+(i:Int))),t8,t9,t10,ys,ties,rfl,g1,g2,g3,g4,g5,g6⟩
  case fin2 =>
   rintro σ H'' ⟨_,t7,t8,t9,t10,ys,ties,rfl,g1,g2,g3,g4,g5,g6⟩
   exact⟨t7,t8,t9,t10,ys,ties,rfl,g1,g2,g3,g4,g5,g6.down⟩
  case turn2 =>
   rintro k σ K1 hk ⟨⟨_,h7,_⟩,t7,t8,t9,t10,ys,ties,rfl,g1,g2,g3,g4,g5,g6⟩
   have e7:t7=some (.int (0+(i:Int))):=by simpa using h7
   subst e7
   have again : ∀ {u8 u9 u10 : Option V}{ys' : List V}{ts : List Tie}{J : Hp}, J ln = some (.lst (ms.map V.int)) → J lt = some (.lst ys') → TieL J ys' ts → Pot J p → (∀ b o, b ≠ p → H b = some o → J b = some o) → Grown n.toNat ms i (k+1) ts →
       (∃ t7,([some (.ref p),some (.int m),some (.int n),some (.int st),some (.int wy),some (.ref ln),some (.ref lt),some (.int (0+(i:Int))),u8,u9,u10]:L2.St)[7]?=some (some (.int (0+(i:Int))))/\t7=())/\WInv H p ln lt m n st wy ms i (k+1) [some (.ref p),some (.int m),some (.int n),some (.int st),some (.int wy),some (.ref ln),some (.ref lt),some (.int (0+(i:Int))),u8,u9,u10] J :=
    λ a1 a2 a3 a4 a5 a6=>⟨⟨(),rfl,rfl⟩,_,_,_,_,_,_,rfl,a1,a2,a3,a4,a5,a6⟩
   refine⟨_,rfl,_,rfl,_,rfl,_,rfl,_,rfl,p,_,_,_,_,rfl,g4,λ kk K2 c2 d2=>⟨kk,rfl,?_⟩⟩
   have nlnp:ln≠p:=n4
   have l1:K2 ln=some (.lst (ms.map V.int)):=c2 _ _ nlnp g1
   have l2:K2 lt=some (.lst ys):=c2 _ _ nlt g2
   have tup2:∀ a xs,K1 a=some (.tup xs)->K2 a=some (.tup xs):=λ a xs e=>c2 _ _ (λ x=>by
    obtain⟨a',b',e',_⟩:=g4
    rw[x,e'] at e;cases e) e
   have l3:TieL K2 ys ties:=g3.keep tup2
   have l5:∀ b o,b≠p->H b=some o->K2 b=some o:=λ b o hb e=>c2 _ _ hb (g5 _ _ hb e)
   have ylen:ys.length=ties.length:=Paired.length g3
   cases kk with
   | false =>
    refine iteF (iteF ?_)
    exact again l1 l2 l3 d2 l5 g6.skip
   | true =>
    refine iteT ?_
    refine⟨_,rfl,lt,_,rfl,.inl (SqL.of l2),_,_,rfl,rfl,_,rfl,?_⟩
    refine ite2 (λ c=>?_) (λ c=>?_)
    case refine_2=>exact again l1 l2 l3 d2 l5 g6.skip
    have c':((ys.length:Nat):Int)<60:=uga c
    have hkn:k<n.toNat:=by left
    have at_:∀ j:Nat,j<n.toNat->atI (ms.map V.int) (j:Int)=some (.int (ms.getD j 0)):=λ j hj=>by
     have hj':j<ms.length:=by rw[pm0.len];exact hj
     refine iR ?_
     rw[o7,d6 hj']
     simp [ua8,hj']
    have ak:atI (ms.map V.int) (0+(k:Int))=some (.int (ms.getD k 0)):=by rw[Int.zero_add];exact at_ k hkn
    have ai:atI (ms.map V.int) (0+(i:Int))=some (.int (ms.getD i 0)):=by rw[Int.zero_add];exact at_ i hi
    refine⟨_,rfl,_,rfl,ln,_,_,_,rfl,rfl,SqL.of l1,ak,_,rfl,_,rfl,ln,_,_,_,rfl,rfl,SqL.of l1,ai,(by show 2<=p9;decide),λ s1 hs1=>?_⟩
    refine⟨s1,[ms.getD k 0,ms.getD i 0],rfl,SqL.of aH,(by show 2<64;decide),λ zs pz wz s2 hs2=>?_⟩
    obtain⟨x,y,rfl,hxy,hor⟩:=tR pz wz
    refine⟨s2,_,rfl,SqL.of aH,rfl,?_⟩
    refine⟨_,_,rfl,_,_,rfl,rfl,?_⟩
    have n1:∀ b o,K2 b=some o->b≠s1:=λ b o e=>aT e hs1
    have n2:∀ b o,K2 b=some o->b≠s2:=λ b o e=>aT (aN hs1 b o e) hs2
    have up:∀ b o,K2 b=some o->upd (upd K2 s1 (.lst [.int (ms.getD k 0),.int (ms.getD i 0)])) s2 (.lst [.int x,.int y]) b=some o:=λ b o e=>by rw[aD (n2 b o e),aD (n1 b o e)];exact e
    refine⟨_,rfl,.inl ⟨rfl,_,SqL.of (up _ _ l2)⟩,_,rfl,_,rfl,_,rfl,_,rfl,?_⟩
    refine⟨p,wy,rfl,?_,wy0,wy1,λ len K5 ln0 ln1 c5 d5=>?_⟩
    ·obtain⟨a',b',e',z⟩:=d2
     exact⟨a',b',up _ _ e',z⟩
    refine⟨(by show 3<=p9;decide),λ tp htp=>?_⟩
    have pl:∃ xs,K2 p=some (.lst xs):=d2.lst
    have up5:∀ b o,b≠p->K2 b=some o->upd K5 tp (.tup [.int x,.int y,.int len]) b=some o:=λ b o hb e=>by
     have e5:=c5 b o hb (up b o e)
     rw[aD (aT e5 htp)];exact e5
    refine⟨lt,_,_,rfl,rfl,up5 _ _ nlt l2,?_,?_⟩
    ·exact ubc (by left:ys.length<=1000) (by decide)
    have k5:∀ b o,b≠p->b≠lt->K2 b=some o->upd (upd K5 tp (.tup [.int x,.int y,.int len])) lt (.lst (ys++[.ref tp])) b=some o:=λ b o hb hb2 e=>by rw[aD hb2];exact up5 b o hb e
    have ntp:tp≠lt:=λ z=>by
     have:=c5 _ _ nlt (up _ _ l2)
     rw[← z,htp] at this;cases this
    refine again (k5 _ _ nlnp nln l1) aH (TieL.snoc (TieL.keep l3 λ a xs e=>k5 _ _ ?_ ?_ e) ?_) ?_ (λ b o hb e=>k5 _ _ hb (λ z=>by rw[z,flt] at e;cases e) (l5 _ _ hb e))
     (g6.add (x:=x) (y:=y) (l:=len) pm0 hk hi (by left) ln0 ln1 hor hxy)
    ·intro z
     obtain⟨xs',e'⟩:=pl
     rw[z,e'] at e;cases e
    ·intro z
     rw[z,l2] at e;cases e
    ·rw[aD ntp,aH];rfl
    ·obtain⟨a',b',e',z⟩:=d5
     exact⟨a',b',by rw[aD nlt.symm,aD (aT e' htp)];exact e',z⟩
 case fin =>
  rintro σ H' ⟨t7,t8,t9,t10,ys,ties,rfl,g1,g2,g3,g4,g5,g6⟩
  have ylen:ys.length=ties.length:=Paired.length g3
  have few:=g6.few
  refine⟨_,rfl,_,rfl,lt,ys,ties.map tieI,rfl,SqL.of g2,by left,jN (λ y t ⟨a,e1,e2⟩=>⟨a,e1,SqT.of e2⟩) g3,λ k hk=>?_,λ qs pq wq l hl=>?_⟩
  ·obtain⟨t,_,rfl⟩:=v4.mp hk
   exact λ z=>by cases z
  obtain⟨ts,pt,tl,wt⟩:=zB g3 pq wq
  refine⟨l,_,rfl,.inl ⟨SqL.of aH,λ l' hl'=>?_⟩⟩
  refine⟨(by show 2<=p9;decide),λ v hv=>?_⟩
  have S1:Same H' (upd H' l (.lst (qs.map (·.1)))):=aN hl
  have S2:=S1.trans (aN (o:=.tup (qs.map (·.1))) hl')
  have S3:=S2.trans (aN (o:=.tup [.int n,.ref l']) hv)
  refine q (.ref v) _ n ts (λ b o hb e=>S3 _ _ (g5 _ _ hb e)) ?_ ⟨by left,by left,zJ wt ((pt.pairwise_iff (λ {a b} h z=>h ⟨z.1.symm,z.2.symm⟩)).mpr g6.nd),by have:=pt.length_eq;left,λ t ht=>?_⟩ (by left) ?_
  ·obtain⟨a',b',e',z⟩:=g4
   exact⟨a',b',S3 _ _ e',z⟩
  ·have:=g6.ok t (pt.mem_iff.mp ht)
   have e:((n.toNat:Nat):Int)=n:=by left
   rw[e] at this
   exact this
  ·refine⟨v,_,rfl,aH,_,_,rfl,rfl,_,_,rfl,⟨l',qs.map (·.1),rfl,?_,?_⟩,rfl⟩
   ·exact (aN hv) _ _ aH
   ·exact TieL.is (tl.keep λ a xs e=>S3 _ _ e)
theorem sB (T:Bi mg)(D:DefOk K mg "_law_keep" s__law_keep ["pot","web"])(O__law_take:‹1› "_law_take" ["pot","many"] spTake):‹2› "_law_keep" ["pot","web"] (spKeep K):=by
 exists 1,sc__law_keep
 obtain⟨p,n,ts,v,rfl,hp,hw,few60,q⟩:=h
 refine⟨_,(aE (aO (i:=2) nd rfl (ufp rfl) (aG O__law_take hr rfl (aA (pv 0) (aA aC aB)))) (aF (aI (bA gL rfl T.z_tuple (by symm) (aA (cK (N:=["pot","web","way"]) (sc0:=defScope s__law_keep) (own:=["number"]) (fr:=["way","pot"]) (js:=[2,0]) rfl (dH rfl T.z_range (aA (aQ bW rfl T.z_len (by symm) (aA (aK aW (pv 1) aC (λ _ _=>rfl)) aB)) aB)) (λ _ _ _ _=>(aL (i:=0) (by show uby [("number":Str),("way":Str),("pot":Str)];decide +kernel) rfl (v8 rfl))) (λ _ _ _ _=>(iM (PW.pt (dF (aR aX (pv 1) aC (nomark _)) (cY (PW.pt (oO (aR eV (pv 1) aC (nomark _)) (nK (aR aX (bB aX (aG O__law_take hr rfl (aA (pv 2) (aA aC aB))) aC (nomark _)) (bB aX (pv 1) aC (nomark _)) (nomark _)))))))))) (λ _ _ _ _=>(pv 0))) aB))))),?_⟩
 refine⟨_,rfl,p,4,rfl,hp,by decide,by decide,λ way H1 w0 w1 b1 p1=>?_⟩
 obtain⟨g0,g,ws,rfl,hg0,hg,hall,hlw⟩:=bD hw
 obtain⟨xs0,e0⟩:=hp.lst
 have tup1:∀ c zs,H c=some (.tup zs)->H1 c=some (.tup zs):=λ c zs e=>b1 _ _ (λ x=>by rw[x,e0] at e;cases e) e
 refine⟨_,rfl,g0,_,_,_,rfl,rfl,SqT.of (tup1 _ _ hg0),rfl,g,_,rfl,.inr (SqT.of (tup1 _ _ hg)),_,rfl,by left,by left,λ L hL=>?_⟩
 have nLp:L≠p:=by
  obtain⟨a',b',e',_⟩:=p1
  exact λ z=>by rw[z,e'] at hL;cases hL
 have en:(((ws.length:Nat):Int)).toNat=ts.length:=by left
 rw[en]
 refine⟨λ i m ys σ' H'=>m=ts.length-i/\i<=ts.length/\(∃ o,σ'=[o,some (.int way),some (.ref p)])/\But p H1 H'/\Pot H' p/\∃ ks:List Nat,ys=(keepI ks).map V.int/\KeepOk i ks,⟨ts.length,rfl,uac _,⟨none,rfl⟩,But.new hL,?_,[],rfl,.nil,λ k hk=>by cases hk⟩,?_⟩
 ·obtain⟨a',b',e',z⟩:=p1
  exact⟨a',b',by rw[aD nLp.symm];exact e',z⟩
 rintro i m ys σ' H' ⟨rfl,hi,⟨o,rfl⟩,bt,pt,ks,rfl,ko⟩ hd
 by_cases hlt:i<ts.length
 ·refine .inr ⟨hlt,λ x H2 hy=>?_⟩
  obtain⟨rfl,rfl⟩:=hy
  have lenk:ks.length<=i:=ko.len
  have takeIt : ∀ {J : Hp}, But p H2 J → Pot J p → J L = some (.lst ((keepI ks).map V.int)) /\ ((keepI ks).map V.int).length<p9 /\ ∃ m', m'<ts.length-i /\ (m' = ts.length-(i+1) /\ i+1 <= ts.length /\ (∃ o, ([some (V.int (0+(i : Int))), some (.int way), some (.ref p)] : L2.St) = [o, some (.int way), some (.ref p)]) /\
      But p H1 (upd J L (.lst ((keepI ks).map V.int++[.int (0+(i:Int))])))/\Pot (upd J L (.lst ((keepI ks).map V.int++[.int (0+(i:Int))]))) p/\∃ ks':List Nat,(keepI ks).map V.int++[.int (0+(i:Int))]=(keepI ks').map V.int/\KeepOk (i+1) ks'):=λ {J} bj pj=>by
   refine⟨bj _ _ nLp hd,?_,ts.length-(i+1),by left,rfl,hlt,⟨_,rfl⟩,λ b o hb e=>?_,?_,ks++[i],?_,?_⟩
   ·rw[g9];unfold keepI;rw[g9]
    exact ubc (by left:ks.length<=1000) (by decide)
   ·rw[aD (aT e hL)];exact bj _ _ hb (bt _ _ hb e)
   ·obtain⟨a',b',e',z⟩:=pj
    exact⟨a',b',by rw[aD nLp.symm];exact e',z⟩
   ·unfold keepI
    rw[uab,uab]
    simp
   ·refine⟨ua4.mpr ⟨ko.1,uec _ _,λ x hx y hy=>?_⟩,λ k hk=>?_⟩
    ·have:y=i:=by simpa using hy
     rw[this];exact ko.2 x hx
    ·rcases m5.mp hk with hk | hk
     ·have:=ko.2 k hk;left
     ·have:k=i:=by simpa using hk
      left
  have leaveIt:∀ {J:Hp},But p H2 J->Pot J p->J L=some (.lst ((keepI ks).map V.int))/\∃ m',m'<ts.length-i/\(m'=ts.length-(i+1)/\i+1<=ts.length/\(∃ o,([some (V.int (0+(i:Int))),some (.int way),some (.ref p)]:L2.St)=[o,some (.int way),some (.ref p)])/\But p H1 J/\Pot J p/\∃ ks':List Nat,(keepI ks).map V.int=(keepI ks').map V.int/\KeepOk (i+1) ks'):=λ {J} bj pj =>
   ⟨bj _ _ nLp hd,ts.length-(i+1),by left,rfl,hlt,⟨_,rfl⟩,bt.trans bj,pj,ks,rfl,ko.1,λ k hk=>by have:=ko.2 k hk;left⟩
  refine⟨_,rfl,rfl,_,rfl,ite2 (λ c=>?_) (λ c=>?_)⟩
  ·exact iteT ⟨_,rfl,takeIt But.refl pt⟩
  ·refine⟨_,rfl,_,_,rfl,rfl,_,rfl,ite2 (λ c2=>?_) (λ c2=>?_)⟩
   ·refine⟨_,rfl,p,4,rfl,pt,by decide,by decide,λ r J _ _ bj pj=>⟨rfl,_,rfl,rfl,rfl,_,rfl,ite2 (λ c3=>?_) (λ c3=>?_)⟩⟩
    ·exact⟨_,rfl,takeIt bj pj⟩
    ·exact leaveIt bj pj
   ·exact iteF (leaveIt But.refl pt)
 ·have e:i=ts.length:=by left
  subst e
  refine .inl ⟨i7 _,L,_,rfl,.inl ⟨SqL.of hd,λ l hl=>?_⟩⟩
  refine q _ _ ks (b1.trans (bt.trans (But.new hl))) ?_ ko ⟨l,_,rfl,aH,IsAll.ints _⟩
  obtain⟨a',b',e',z⟩:=pt
  exact⟨a',b',(aN hl) _ _ e',z⟩
theorem sZ (T:Bi mg)(D:DefOk K mg "is_whole" s_is_whole ["thing"]):‹1› "is_whole" ["thing"] (spD1 K (λ _=>True) wholeB):=by
 exists 0,sc_is_whole
 obtain⟨d,v,rfl,hd,_,q⟩:=h
 have q0:=q H (Same.refl H)
 have ty:=jB hd
 refine⟨_,(aF (aI (cD (aQ (dL (n:="int")) rfl T.z_isinstance (by symm) (aA (pv 0) (aA (cX (v:=.ty "int") rfl T.z_int (by symm) rfl) aB))) (bR (iT (aQ (dL (n:="bool")) rfl T.z_isinstance (by symm) (aA (pv 0) (aA (cX (v:=.ty "bool") rfl T.z_bool (by symm) rfl) aB)))))))),?_⟩
 cases d with
 | int i=>exact⟨_,rfl,_,_,_,rfl,ty,rfl,_,rfl,iteT ⟨_,rfl,_,_,_,rfl,ty,rfl,_,rfl,q0⟩⟩
 | bool b=>exact⟨_,rfl,_,_,_,rfl,ty,rfl,_,rfl,iteT ⟨_,rfl,_,_,_,rfl,ty,rfl,_,rfl,q0⟩⟩
 | none=>exact⟨_,rfl,_,_,_,rfl,ty,rfl,_,rfl,iteF q0⟩
 | str x=>exact⟨_,rfl,_,_,_,rfl,ty,rfl,_,rfl,iteF q0⟩
 | tuple ds=>exact⟨_,rfl,_,_,_,rfl,ty,rfl,_,rfl,iteF q0⟩
 | list ds=>exact⟨_,rfl,_,_,_,rfl,ty,rfl,_,rfl,iteF q0⟩
 | dict ds=>exact⟨_,rfl,_,_,_,rfl,ty,rfl,_,rfl,iteF q0⟩
theorem rW (T:Bi mg)(D:DefOk K mg "is_wholes" s_is_wholes ["thing"])(O_is_whole:‹1› "is_whole" ["thing"] (spD1 K (λ _=>True) wholeB)):‹2› "is_wholes" ["thing"] (spD1 K few wholesB):=by
 exists 1,sc_is_wholes
 obtain⟨d,v,rfl,hd,hfew,q⟩:=h
 have q0:=q H (Same.refl H)
 have ty:=jB hd
 refine⟨_,(aF (aI (cD (aQ (dL (n:="tuple")) rfl T.z_isinstance (by symm) (aA (pv 0) (aA (cX (v:=.ty "tuple") rfl T.z_tuple (by symm) rfl) aB))) (bR (aQ (yK rfl) rfl T.z_all (by symm) (aA (cK (N:=["thing"]) (sc0:=defScope s_is_wholes) (own:=["part"]) (fr:=[]) (js:=[]) rfl (cZ (pv 0)) (λ _ _ _ _=>(aL (i:=0) (by show uby [("part":Str)];decide +kernel) rfl (v8 rfl))) (λ _ _ _ _=>cV) (λ _ _ _ _=>(aG O_is_whole hr rfl (aA (pv 0) aB)))) aB)))))),?_⟩
 cases d with
 | int i=>exact⟨_,rfl,_,_,_,rfl,ty,rfl,_,rfl,iteF q0⟩
 | bool b=>exact⟨_,rfl,_,_,_,rfl,ty,rfl,_,rfl,iteF q0⟩
 | none=>exact⟨_,rfl,_,_,_,rfl,ty,rfl,_,rfl,iteF q0⟩
 | str x=>exact⟨_,rfl,_,_,_,rfl,ty,rfl,_,rfl,iteF q0⟩
 | list ds=>exact⟨_,rfl,_,_,_,rfl,ty,rfl,_,rfl,iteF q0⟩
 | dict ds=>exact⟨_,rfl,_,_,_,rfl,ty,rfl,_,rfl,iteF q0⟩
 | tuple ds =>
  refine⟨_,rfl,_,_,_,rfl,ty,rfl,_,rfl,iteT ?_⟩
  obtain⟨p,vs,rfl,hp,hall⟩:=hd
  have hl:=hall.length
  have hf:ds.length<=1000:=hfew
  refine⟨_,rfl,p,rfl,⟨_,SqT.of hp⟩,?_⟩
  refine yC hp (λ σ'=>σ'.length=1) (λ i v _=>v=.bl (wholeB (ds.getD i .none))) (by left) (by rfl) (λ _ _ _ _ _ h=>h) (λ i x σ' H' hx s sg C hC=>?_) (λ L ys H' hL s hH hly hys=>?_)
  ·obtain⟨d,hdi,hdx⟩:=hall.get' hx
   match σ',sg with
   | [o],_ =>
    refine⟨_,rfl,d,x,rfl,Is.same s d hdx,trivial,λ H5 s5=>hC _ _ _ rfl s5 ?_⟩
    simp [ua8,hdi]
  ·refine⟨L,_,rfl,SqL.of (by rw[hH,yM (hly.trans hl) hys]),?_⟩
   have e:((i6 ds.length).map λ i=>wholeB (ds.getD i .none)).all id=ds.all wholeB:=by
    have:((i6 ds.length).map λ i=>wholeB (ds.getD i .none))=ds.map wholeB:=by
     have:=congrArg (List.map wholeB) (L3.dW ds .none)
     rw[ubb] at this
     exact this
    rw[this,uet]
    rfl
   rw[e]
   exact q H' s
theorem qJ (T:Bi mg)(D:DefOk K mg "tie_weights" s_tie_weights ["web"]):‹1› "tie_weights" ["web"] (spWeights K):=by
 exists 0,sc_tie_weights
 obtain⟨n,ts,v,rfl,hw,few60,q⟩:=h
 obtain⟨g0,g,ws,rfl,hg0,hg,hall,hlw⟩:=bD hw
 refine⟨_,(aE (aO (i:=1) nd rfl (v8 rfl) (bZ aB)) (aE (aO (i:=2) nd rfl (v8 rfl) aC) (aE (cC PassesOwn.never rfl (cZ (aK aW (pv 0) aC (λ _ _=>rfl))) (aL (i:=3) nd rfl (v8 rfl)) (aE (bI (dS ubn ub1 ub0 gN (pv 1) (aA (pv 2) aB))) (aF (aO (i:=2) nd rfl (v8 rfl) (aJ dQ aC (pv 2)))))) (aF (aI (pv 1)))))),?_⟩
 refine⟨(by show 0<=1000;decide),λ l J0 S0 f0 e0=>?_⟩
 refine⟨_,rfl,g0,_,_,_,rfl,rfl,SqT.of (S0 _ _ hg0),rfl,g,rfl,⟨_,SqT.of (S0 _ _ hg)⟩,?_⟩
 refine gA (xs:=ws) (λ i σ J=>∃ y3:Option V,σ=[some (.ref g0),some (.ref l),some (.int (2^i)),y3]/\Same H J/\J l=some (.lst (pows i))) ⟨none,rfl,S0,e0⟩ (λ i σ J _ h=>by obtain⟨_,_,s,_⟩:=h;exact SqT.of (s _ _ hg)) (λ i x σ J hx h=>?_) (λ σ J h=>?_)
 ·obtain⟨y3,rfl,s1,e1⟩:=h
  have hi:i<ws.length:=(i8.mp hx).1
  refine⟨_,rfl,.inl ⟨rfl,_,SqL.of e1⟩,_,rfl,l,_,_,rfl,rfl,e1,(by unfold pows;rw[g9,v6];left),λ J1 b1 e2=>?_⟩
  refine⟨_,rfl,_,_,rfl,rfl,.inl ⟨by decide,by decide⟩,?_⟩
  refine⟨some x,?_,λ b o e=>b1 _ _ (aT e f0) (s1 _ _ e),by rw[e2,vG]⟩
  have ep:(2:Int)*2^i=2^(i+1):=by rw[Int.pow_succ,Int.mul_comm]
  show [some (V.ref g0),some (V.ref l),some (V.int (2*2^i)),some x]=_
  rw[ep]
 ·obtain⟨y3,rfl,s1,e1⟩:=h
  exact⟨_,rfl,q l J s1 f0 (by rw[e1,hlw])⟩
theorem rY (T:Bi mg)(D:DefOk K mg "cost_with" s_cost_with ["cost","length","weight"]):‹1› "cost_with" ["cost","length","weight"] (spCost K):=by
 exists 0,sc_cost_with
 obtain⟨c,x,y,l,ww,rfl,hc,q⟩:=h
 refine⟨_,(aF (aI (aZ (aA (aJ bT (aK aW (pv 0) aC (λ _ _=>rfl)) (pv 1)) (aA (aJ bT (aK aW (pv 0) aC (λ _ _=>rfl)) (pv 2)) aB))))),?_⟩
 exact⟨_,rfl,c,_,_,_,rfl,rfl,SqT.of hc,rfl,_,rfl,_,_,rfl,rfl,_,rfl,c,_,_,_,rfl,rfl,SqT.of hc,rfl,_,rfl,_,_,rfl,rfl,(by show 2<=1000;decide),λ t J S f e=>q t J S e⟩
def rWB (H:Hp)(wv kv:V)(n r:Int)(ts:List Tie)(ks:List Nat)(lw lc la:j7)(m:Nat)(σ:L2.St)(J:Hp):Prop:=∃ (cs:List (Option (Int × Int)))(as:List (Option Nat))(ag:Bool)(y7 y8 y9 y10 y11 y12 y13:Option V),σ=[some wv,some kv,some (.int r),some (.ref lw),some (.ref lc),some (.ref la),some (.bl ag),y7,y8,y9,y10,y11,y12,y13] /\
 RA H J lw lc la (pows ts.length) cs as/\Far.Good (arcs ts ks) n.toNat r.toNat cs/\Far.Run (arcsB ts ks) r.toNat cs as/\(ag=false->Far.Stab2 (arcsB ts ks) cs)/\m=Far.mu cs+(if ag=true then 1 else 0)
theorem pO (T:Bi mg)(D:DefOk K mg "reached_from" s_reached_from ["web","keep","root"])(O_tie_weights:‹1› "tie_weights" ["web"] (spWeights K))(O_cost_with:‹1› "cost_with" ["cost","length","weight"] (spCost K)):‹2› "reached_from" ["web","keep","root"] (spReachedC K):=by
 exists 1,sc_reached_from
 obtain⟨n,ts,ks,wv,kv,r,rfl,⟨isw,ok,isk,ko⟩,r0,r1,q⟩:=h
 have few60:=ok.few
 have n1:=ok.n1
 have n24:=ok.n24
 obtain⟨g0,g,ws,rfl,hg0,hg,hall,hlw⟩:=bD isw
 obtain⟨kp,rfl,hkp⟩:=fA isk
 have P:=fS ok ko
 refine⟨_,(aE (aO (i:=3) nd rfl (v8 rfl) (aG O_tie_weights hr rfl (aA (pv 0) aB))) (aE (aO (i:=4) nd rfl (v8 rfl) (aJ nQ (bZ (aA bM aB)) (aK aW (pv 0) aC (λ _ _=>rfl)))) (aE (aO (i:=5) nd rfl (v8 rfl) (aJ nQ (bZ (aA bM aB)) (aK aW (pv 0) aC (λ _ _=>rfl)))) (aE (bE (aZ (aA aC (aA aC aB))) (eS (pv 4) (pv 2) eF)) (aE (aO (i:=6) nd rfl (v8 rfl) bU) (aE (lU PassesOwn.never (bP (pv 6)) (aE (aO (i:=6) nd rfl (v8 rfl) bU) (aF (cC PassesOwn.never rfl (cZ (pv 1)) (aL (i:=7) nd rfl (v8 rfl)) (aE (bE (aK aW (aK aW (pv 0) aC (λ _ _=>rfl)) (pv 7) (λ _ _=>rfl)) (bQ (n:=3) rfl (aS (aL (i:=8) nd rfl (v8 rfl)) (aS (aL (i:=9) nd rfl (v8 rfl)) (aS (aL (i:=10) nd rfl (v8 rfl)) bK))))) (aF (cC PassesOwn.never rfl (cZ (aZ (aA (aZ (aA (pv 8) (aA (pv 9) aB))) (aA (aZ (aA (pv 9) (aA (pv 8) aB))) aB)))) (bQ (n:=2) rfl (aS (aL (i:=11) nd rfl (v8 rfl)) (aS (aL (i:=12) nd rfl (v8 rfl)) bK))) (aE (aV (aR eT (aK bC (pv 4) (pv 11) (λ _ _=>rfl)) bM (nomark _)) (aF sV) aU) (aE (aO (i:=13) nd rfl (v8 rfl) (aG O_cost_with hr rfl (aA (aK bC (pv 4) (pv 11) (λ _ _=>rfl)) (aA (pv 10) (aA (aK bC (pv 3) (pv 7) (λ _ _=>rfl)) aB))))) (aF (aV (PW.pt (dF (aR eT (aK bC (pv 4) (pv 12) (λ _ _=>rfl)) bM (nomark _)) (cY (aR (za6 hr.units0) (pv 13) (aK bC (pv 4) (pv 12) (λ _ _=>rfl)) (nomark _))))) (aE (bE (pv 13) (eS (pv 4) (pv 12) eF)) (aE (bE (pv 11) (eS (pv 5) (pv 12) eF)) (aF (aO (i:=6) nd rfl (v8 rfl) bU)))) aU))))))))))) (aF (aI (aZ (aA (pv 4) (aA (pv 5) aB))))))))))),?_⟩
 refine⟨_,rfl,n,ts,_,rfl,isw,few60,λ lw J1 S1 f1 e1=>?_⟩
 refine⟨(by show 1<=1000;decide),λ t0 J2 S2 f2 e2=>⟨_,rfl,g0,_,_,_,rfl,rfl,SqT.of (S2 _ _ (S1 _ _ hg0)),rfl,t0,n,_,rfl,rfl,e2,by left,by left,λ lc J3 S3 f3 e3=>?_⟩⟩
 have S13:=S1.trans (S2.trans S3)
 refine⟨(by show 1<=1000;decide),λ t1 J4 S4 f4 e4=>⟨_,rfl,g0,_,_,_,rfl,rfl,SqT.of (S4 _ _ (S13 _ _ hg0)),rfl,t1,n,_,rfl,rfl,e4,by left,by left,λ la J5 S5 f5 e5=>?_⟩⟩
 refine⟨(by show 2<=1000;decide),λ t2 J6 S6 f6 e6=>?_⟩
 have S36:=S4.trans (S5.trans S6)
 have elc:=S36 _ _ e3
 refine⟨_,rfl,_,rfl,lc,_,r,r.toNat,rfl,rfl,elc,eN r0 (by rw[v5];left),?_⟩
 have Sall:Same H J6:=S13.trans S36
 have fc:H lc=none:=(S1.trans S2).free f3
 have fa:H la=none:=(S13.trans S4).free f5
 have nwc:lw≠lc:=λ z=>by rw[← z,S2 _ _ e1] at f3;cases f3
 have nwa:lw≠la:=λ z=>by rw[← z,S4 _ _ (S3 _ _ (S2 _ _ e1))] at f5;cases f5
 have nca:lc≠la:=λ z=>by rw[← z,S4 _ _ e3] at f5;cases f5
 have R0:RA H J6 lw lc la (pows ts.length) (o3 n.toNat none) (o3 n.toNat none):=⟨Sall,fc,fa,nwc,nwa,nca,S36 _ _ (S3 _ _ (S2 _ _ e1)),⟨_,elc,CostL.first _⟩,by rw[S6 _ _ e5,List.map_replicate];rfl⟩
 have R1:=R0.put (k:=r.toNat) elc (by rw[v5];left) e6
  -- the passes
 refine⟨rWB H (.ref g0) (.ref kp) n r ts ks lw lc la,⟨_,_,_,true,none,none,none,none,none,none,none,rfl,R1,Far.Good.first (by left),Far.Run.first (by left),λ z=>(by cases z),rfl⟩,?_⟩
 rintro m σ J ⟨c0,as0,ag,y7,y8,y9,y10,y11,y12,y13,rfl,R,G,AH,St,rfl⟩
 refine⟨_,rfl,ag,rfl,?_⟩
 cases ag with
 | false =>
  refine iteF ?_
  obtain⟨cvs,hc,cl⟩:=R.co
  exact⟨_,rfl,_,rfl,(by show 2<=1000;decide),λ p J' S' f' e'=>q p lc la cvs as0 c0 J' (R.same.trans S') e' (S' _ _ hc) (S' _ _ R.ah) (cl.keep (iK S')) (AH.best P G (St rfl)) G (zG (St rfl))⟩
 | true =>
  refine iteT ⟨λ σ' J'=>∃ m',m'<Far.mu c0+1/\rWB H (.ref g0) (.ref kp) n r ts ks lw lc la m' σ' J',λ _ _ h=>h,?_⟩
  refine⟨_,rfl,kp,rfl,⟨_,SqT.of (R.same _ _ hkp)⟩,?_⟩
  refine gA (xs:=(keepI ks).map V.int) (λ i σ J=>∃ (cs:List (Option (Int × Int)))(as:List (Option Nat))(ag:Bool)(y7 y8 y9 y10 y11 y12 y13:Option V),σ=[some (.ref g0),some (.ref kp),some (.int r),some (.ref lw),some (.ref lc),some (.ref la),some (.bl ag),y7,y8,y9,y10,y11,y12,y13] /\
   RA H J lw lc la (pows ts.length) cs as/\Far.Good (arcs ts ks) n.toNat r.toNat cs/\Far.Run (arcsB ts ks) r.toNat cs as/\Far.PS2 c0 (λ z=>z∈arcsB ts (ks.take i)) cs ag) ⟨c0,as0,false,_,_,_,_,_,_,_,rfl,R,G,AH,.inl ⟨rfl,rfl,λ u v l k c z=>by cases z⟩⟩ (λ i σ J _ h=>?_) (λ i x σ J hx h=>?_) (λ σ J h=>?_)
  ·obtain⟨cs,as,ag,y7,y8,y9,y10,y11,y12,y13,rfl,R,_⟩:=h
   exact SqT.of (R.same _ _ hkp)
  ·obtain⟨cs,as,ag,y7,y8,y9,y10,y11,y12,y13,rfl,R,G,AH,Pt⟩:=h
   obtain⟨k,hk,rfl⟩:=nY hx
   have hkl:k<ts.length:=ko.2 k (m3 hk)
   obtain⟨ta,hta,htie⟩:=cJ hall hkl
   obtain⟨t,et⟩:∃ t,t=tieAt ts k:=⟨_,rfl⟩
   rw[← et] at htie
   have tk:=ok.tie _ (aY hkl).2
   rw[← et] at tk
   refine⟨_,rfl,g0,_,_,_,rfl,rfl,SqT.of (R.same _ _ hg0),rfl,_,rfl,g,_,_,_,rfl,rfl,SqT.of (R.same _ _ hg),bO (uat _) hta,ta,_,rfl,SqT.of (R.same _ _ htie),rfl,_,_,rfl,_,_,rfl,_,_,rfl,rfl,?_⟩
   refine⟨_,rfl,_,rfl,(by show 2<=1000;decide),λ t1 K1 T1 u1 v1=>⟨_,rfl,_,rfl,(by show 2<=1000;decide),λ t2 K2 T2 u2 v2=>⟨(by show 2<=1000;decide),λ t3 K3 T3 u3 v3=>⟨t3,rfl,⟨_,SqT.of v3⟩,?_⟩⟩⟩⟩
   have R3:=R.step (T1.trans (T2.trans T3))
   have v1':=T3 _ _ (T2 _ _ v1)
   have v2':=T3 _ _ v2
   refine gA (xs:=[V.ref t1,.ref t2]) (λ j σ J=>∃ (cs:List (Option (Int × Int)))(as:List (Option Nat))(ag:Bool)(y11 y12 y13:Option V),σ=[some (.ref g0),some (.ref kp),some (.int r),some (.ref lw),some (.ref lc),some (.ref la),some (.bl ag),some (.int (k:Int)),some (.int t.1),some (.int t.2.1),some (.int t.2.2),y11,y12,y13] /\
    RA H J lw lc la (pows ts.length) cs as/\Far.Good (arcs ts ks) n.toNat r.toNat cs/\Far.Run (arcsB ts ks) r.toNat cs as/\Far.PS2 c0 (λ z=>z∈arcsB ts (ks.take i)\/z∈(arcs2B t k).take j) cs ag/\TupKeep K3 J) ⟨cs,as,ag,_,_,_,rfl,R3,G,AH,Pt.less λ a z=>z.elim id λ z=>(by cases z),λ _ _ e=>e⟩ (λ j σ J _ h=>?_) (λ j x σ J hx h=>?_) (λ σ J h=>?_)
   ·obtain⟨cs,as,ag,y11,y12,y13,rfl,R,G,AH,Pt,tk⟩:=h
    exact SqT.of (tk _ _ v3)
   ·obtain⟨cs,as,ag,y11,y12,y13,rfl,R,G,AH,Pt,tkp⟩:=h
    obtain⟨p,u,v,rfl,hp,u0,un,v0,vn,arc,arcB,more⟩:∃ p u v,x=.ref p/\J p=some (.tup [.int u,.int v])/\0<=u/\u<n/\0<=v/\v<n/\(u.toNat,v.toNat,t.2.2)∈arcs ts ks/\(u.toNat,v.toNat,t.2.2,k)∈arcsB ts ks/\∀ z,z∈(arcs2B t k).take (j+1)->z∈(arcs2B t k).take j\/z=(u.toNat,v.toNat,t.2.2,k):=by
     have memB:∀ z,z∈arcs2B t k->z∈arcsB ts ks:=λ z hz=>arcsB_mem.mpr ⟨k,m3 hk,by rw[← et];exact hz⟩
     have mem:∀ z,z∈arcs2 t->z∈arcs ts ks:=λ z hz=>arcs_mem.mpr ⟨k,m3 hk,by rw[← et];exact hz⟩
     match j,hx with
     | 0,hx=>cases hx;exact⟨t1,t.1,t.2.1,rfl,tkp _ _ v1',by left,by left,by left,by left,mem _ (arcs2_mem.mpr (.inl rfl)),memB _ (arcs2B_mem.mpr (.inl rfl)),λ z hz=>by unfold arcs2B at *;simpa using hz⟩
     | 1,hx=>cases hx;exact⟨t2,t.2.1,t.1,rfl,tkp _ _ v2',by left,by left,by left,by left,mem _ (arcs2_mem.mpr (.inr rfl)),memB _ (arcs2B_mem.mpr (.inr rfl)),λ z hz=>by unfold arcs2B at *;simpa using hz⟩
    refine⟨p,_,rfl,SqT.of hp,rfl,_,_,rfl,_,_,rfl,rfl,?_⟩
    obtain⟨cvs,hc,cl⟩:=R.co
    have lenC:cvs.length=n.toNat:=by rw[cl.1];exact G.len
    obtain⟨x1,at1,cv1⟩:=oD cl u0 (by rw[G.len];left)
    obtain⟨x2,at2,cv2⟩:=oD cl v0 (by rw[G.len];left)
    have next:∀ {cs':List (Option (Int × Int))}{ag':Bool},Far.PS2 c0 (Far.plusA (λ z=>z∈arcsB ts (ks.take i)\/z∈(arcs2B t k).take j) (u.toNat,v.toNat,t.2.2,k)) cs' ag'->Far.PS2 c0 (λ z=>z∈arcsB ts (ks.take i)\/z∈(arcs2B t k).take (j+1)) cs' ag':=λ h=>h.less λ z hz=>by
     rcases hz with hz | hz
     ·exact .inl (.inl hz)
     ·exact (more z hz).elim (λ y=>.inl (.inr y)) .inr
    refine⟨_,rfl,_,rfl,lc,_,_,_,rfl,rfl,SqL.of hc,at1,rfl,_,rfl,ite2 (λ c1=>?_) (λ c1=>?_)⟩
    ·-- not reached
     have gu:Far.get cs u.toNat=none:=by
      cases e:Far.get cs u.toNat with
      | none=>rfl
      | some d =>
       rw[e] at cv1
       obtain⟨tt,rfl,_⟩:=cv1
       cases uga c1
     exact⟨cs,as,ag,_,_,_,rfl,R,G,AH,next (Pt.no gu),tkp⟩
    ·obtain⟨d,gu⟩:∃ d,Far.get cs u.toNat=some d:=by
      cases e:Far.get cs u.toNat with
      | none=>rw[e] at cv1;exact absurd (uf9 (show x1=V.non from cv1)) c1
      | some d=>exact⟨d,rfl⟩
     rw[gu] at cv1
     obtain⟨td,rfl,htd⟩:=cv1
     have pw:=za2 (i:=k) (by left)
     refine⟨_,rfl,_,rfl,lc,_,_,_,rfl,rfl,SqL.of hc,at1,_,rfl,_,rfl,_,rfl,lw,_,_,_,rfl,rfl,SqL.of R.wl,bO (uat _) (zL hkl),td,_,_,_,_,rfl,htd,λ tn L1 Z1 en=>?_⟩
     have R':=R.step Z1
     have hc':=Z1 _ _ hc
     have tkp':TupKeep K3 L1:=λ a xs e=>Z1 _ _ (tkp a xs e)
     have done : ∀ (hlt : Far.get cs v.toNat = none \/ ∃ c', Far.get cs v.toNat = some c' /\ Far.lt2 (d.1+t.2.2, d.2+2^k) c') , ∀ L, L = upd (upd L1 lc (.lst (cvs.set v.toNat (.ref tn)))) la (.lst ((as.map oa).set v.toNat (.int u))) →
         RA H L lw lc la (pows ts.length) (cs.set v.toNat (some (d.1+t.2.2,d.2+2^k))) (as.set v.toNat (some u.toNat))/\Far.Good (arcs ts ks) n.toNat r.toNat (cs.set v.toNat (some (d.1+t.2.2,d.2+2^k)))/\Far.Run (arcsB ts ks) r.toNat (cs.set v.toNat (some (d.1+t.2.2,d.2+2^k))) (as.set v.toNat (some u.toNat))/\Far.PS2 c0 (λ z=>z∈arcsB ts (ks.take i)\/z∈(arcs2B t k).take (j+1)) (cs.set v.toNat (some (d.1+t.2.2,d.2+2^k))) true/\TupKeep K3 L:=λ hlt L eL=>by
      subst eL
      obtain⟨G',mm⟩:=G.step P (by left) arc (by left) pw.1 pw.2 (by left) gu hlt
      have Rp:=R'.put hc' (k:=v.toNat) (by left) en
      have Rm:=Rp.mark (k:=v.toNat) (u:=u.toNat)
      rw[uao u0] at Rm
      exact⟨Rm,G',Far.Run.step P G AH arc arcB (by left) gu hlt,next (Pt.put mm),λ a xs e=>cR Rp.ah _ _ (cR hc' _ _ (tkp' a xs e))⟩
     have ha:=R'.ah
     have hal:(as.map oa).length=n.toNat:=by rw[g9,AH.len];exact G.len
     refine⟨_,rfl,_,rfl,lc,_,_,_,rfl,rfl,SqL.of hc',at2,rfl,_,rfl,ite2 (λ c2=>iteT ?_) (λ c2=>?_)⟩
     ·have gv:Far.get cs v.toNat=none:=by
       cases e:Far.get cs v.toNat with
       | none=>rfl
       | some d =>
        rw[e] at cv2
        obtain⟨tt,rfl,_⟩:=cv2
        cases uga c2
      obtain⟨R2,G2,A2,P2,k2⟩:=done (.inl gv) _ rfl
      exact⟨_,rfl,_,rfl,_,rfl,lc,_,_,_,rfl,rfl,hc',eN v0 (by left),_,rfl,_,rfl,_,rfl,la,_,_,_,rfl,rfl,(by rw[aD R.nca.symm];exact ha),eN v0 (by left),_,_,true,_,_,_,rfl,R2,G2,A2,P2,k2⟩
     ·obtain⟨d2,gv⟩:∃ d,Far.get cs v.toNat=some d:=by
       cases e:Far.get cs v.toNat with
       | none=>rw[e] at cv2;exact absurd (uf9 (show x2=V.non from cv2)) c2
       | some d=>exact⟨d,rfl⟩
      rw[gv] at cv2
      obtain⟨te,rfl,hte⟩:=cv2
      refine⟨_,rfl,_,rfl,_,rfl,lc,_,_,_,rfl,rfl,SqL.of hc',at2,tn,te,L3.e2 (d.1+t.2.2,d.2+2^k),L3.e2 d2,rfl,rfl,SqT.of en,SqT.of (Z1 _ _ hte),_,rfl,ite2 (λ c3=>?_) (λ c3=>?_)⟩
      ·have hl:=(fN _ _).mp c3
       obtain⟨R2,G2,A2,P2,k2⟩:=done (.inr ⟨d2,gv,hl⟩) _ rfl
       exact⟨_,rfl,_,rfl,_,rfl,lc,_,_,_,rfl,rfl,hc',eN v0 (by left),_,rfl,_,rfl,_,rfl,la,_,_,_,rfl,rfl,(by rw[aD R.nca.symm];exact ha),eN v0 (by left),_,_,true,_,_,_,rfl,R2,G2,A2,P2,k2⟩
      ·have hn:¬ Far.lt2 (d.1+t.2.2,d.2+2^k) d2:=λ z=>c3 ((fN _ _).mpr z)
       exact⟨cs,as,ag,_,_,_,rfl,R',G,AH,next (Pt.old gu gv hn),tkp'⟩
   ·obtain⟨cs,as,ag,y11,y12,y13,rfl,R,G,AH,Pt,tkp⟩:=h
    refine⟨cs,as,ag,_,_,_,_,_,_,_,rfl,R,G,AH,Pt.less λ z hz=>?_⟩
    exact (uV hk hz).elim .inl λ y=>.inr (by rw[← et] at y;exact y)
  ·obtain⟨cs,as,ag,y7,y8,y9,y10,y11,y12,y13,rfl,R2,G2,A2,Pt⟩:=h
   have lk:((keepI ks).map V.int).length=ks.length:=by unfold keepI;rw[g9,g9]
   rw[lk,udc] at Pt
   rcases Pt with ⟨ea,ec,st⟩ | ⟨ea,lt⟩
   ·subst ea
    rw[← ec] at st
    exact⟨Far.mu cs+0,by rw[ec];left,cs,as,false,_,_,_,_,_,_,_,rfl,R2,G2,A2,λ _=>st,rfl⟩
   ·subst ea
    exact⟨Far.mu cs+1,by left,cs,as,true,_,_,_,_,_,_,_,rfl,R2,G2,A2,λ z=>(by cases z),rfl⟩
theorem rX (T:Bi mg)(D:DefOk K mg "fars_from" s_fars_from ["web","keep","root"])(O_reached_from:‹2› "reached_from" ["web","keep","root"] (spReached K)):‹3› "fars_from" ["web","keep","root"] (spFars K):=by
 exists 2,sc_fars_from
 obtain⟨n,ts,ks,wv,kv,r,rfl,wk,r0,r1,q⟩:=h
 have n24:=wk.2.1.n24
 refine⟨_,(aE (bE (aG O_reached_from hr rfl (aA (pv 0) (aA (pv 1) (aA (pv 2) aB)))) (bQ (n:=2) rfl (aS (aL (i:=3) nd rfl (v8 rfl)) (aS (aL (i:=4) nd rfl (v8 rfl)) bK)))) (aF (aI (cK (N:=["web","keep","root","costs","ahead"]) (sc0:=defScope s_fars_from) (own:=["cost"]) (fr:=[]) (js:=[]) rfl (eM (pv 3)) (λ _ _ _ _=>(aL (i:=0) (by show uby [("cost":Str)];decide +kernel) rfl (v8 rfl))) (λ _ _ _ _=>cV) (λ _ _ _ _=>(lX (aR eT (pv 0) bM (nomark _)) bM (aK fY (pv 0) aC (λ _ _=>rfl)))))))),?_⟩
 refine⟨_,rfl,_,rfl,_,rfl,n,ts,ks,wv,kv,r,rfl,wk,r0,r1,λ p lc la cvs avs cs J S ep ec ea cl G St=>?_⟩
 refine⟨p,_,rfl,SqT.of ep,rfl,_,_,rfl,_,_,rfl,rfl,?_⟩
 have lenC:cvs.length=n.toNat:=by rw[cl.1];exact G.len
 refine⟨_,rfl,lc,rfl,⟨_,SqL.of ec⟩,?_⟩
 refine iH ec (λ σ'=>σ'.length=1) (λ i v _=>v=ov ((Far.get cs i).map (·.1))) (by left) (by rfl) (λ _ _ _ _ _ h=>h) (λ i x σ' H' hx s2 sg C hC=>?_) (λ L ys H2 hL s2 hH hly hys=>?_)
 ·match σ',sg with
  | [o],_ =>
   have cv:=cl.2 i x hx
   refine⟨_,rfl,rfl,_,rfl,ite2 (λ c=>?_) (λ c=>?_)⟩
   ·have e:Far.get cs i=none:=by
     cases e:Far.get cs i with
     | none=>rfl
     | some d =>
      rw[e] at cv
      obtain⟨tt,rfl,_⟩:=cv
      cases uga c
    exact hC _ _ _ rfl (Same.refl _) (by rw[e];rfl)
   ·obtain⟨d,gu⟩:∃ d,Far.get cs i=some d:=by
     cases e:Far.get cs i with
     | none=>rw[e] at cv;exact absurd (uf9 (show x=V.non from cv)) c
     | some d=>exact⟨d,rfl⟩
    rw[gu] at cv
    obtain⟨td,rfl,htd⟩:=cv
    exact⟨_,rfl,td,_,_,_,rfl,rfl,SqT.of (s2 _ _ htd),rfl,hC _ _ _ rfl (Same.refl _) (by rw[gu];rfl)⟩
 ·obtain⟨DD,eD⟩:∃ DD,DD=cs.map λ o=>o.map (·.1):=⟨_,rfl⟩
  have gD:∀ v,Far.get DD v=(Far.get cs v).map (·.1):=λ v=>by
   rw[eD];unfold Far.get
   rw[f8,o7,f8]
   cases cs[v]? <;> rfl
  refine q L DD H2 (S.trans s2) (S.free hL) ?_ (by rw[eD,g9];exact G.len) λ v hv=>by rw[gD];exact G.dst St v
  rw[hH]
  refine congrArg (λ z=>some (HO.lst z)) (ubp λ i=>?_)
  have lD:DD.length=n.toNat:=by rw[eD,g9];exact G.len
  by_cases hi:i<n.toNat
  ·rw[jF (by left),gD]
   have e:ys[i]?=some ys[i]:=d6 (by left)
   rw[e,hys i _ e]
  ·rw[u5 (by left),u5 (by rw[g9];left)]
theorem qA (T:Bi mg)(D:DefOk K mg "heights_from" s_heights_from ["web","keep","a","roof"])(O_fars_from:‹3› "fars_from" ["web","keep","root"] (spFars K)):‹4› "heights_from" ["web","keep","a","roof"] (spHFrom K):=by
 exists 3,sc_heights_from
 obtain⟨n,ts,ks,wv,kv,a,roof,rfl,wk,a0,a1,q⟩:=h
 have n24:=wk.2.1.n24
 refine⟨_,(aF (aI (bA cG rfl T.z_tuple (by symm) (aA (cK (N:=["web","keep","a","roof"]) (sc0:=defScope s_heights_from) (own:=["length"]) (fr:=["roof"]) (js:=[3]) rfl (eM (aG O_fars_from hr rfl (aA (pv 0) (aA (pv 1) (aA (pv 2) aB))))) (λ _ _ _ _=>(aL (i:=0) (by show uby [("length":Str),("roof":Str)];decide +kernel) rfl (v8 rfl))) (λ _ _ _ _=>cV) (λ _ _ _ _=>(lX (aR eT (pv 0) bM (nomark _)) (pv 1) (aQ (gX rfl) rfl T.z_min (by symm) (aA (pv 0) (aA (pv 1) aB)))))) aB)))),?_⟩
 refine⟨_,rfl,_,rfl,_,rfl,n,ts,ks,wv,kv,a,rfl,wk,a0,a1,λ l DD J S f1 e1 lD hD=>?_⟩
 refine⟨l,rfl,⟨_,SqL.of e1⟩,?_⟩
 refine iH e1 (λ σ'=>∃ o,σ'=[o,some (.int roof)]) (λ i v _=>v=.int (capO roof (Far.get DD i))) (by rw[g9];left) (by exact⟨none,rfl⟩) (λ _ _ _ _ _ h=>h) (λ i x σ' H' hx s2 sg C hC=>?_) (λ L ys H2 hL s2 hH hly hys=>?_)
 ·obtain⟨o,rfl⟩:=sg
  have hi:i<DD.length:=by have:=(i8.mp hx).1;rw[g9] at this;exact this
  rw[jF hi] at hx
  cases hx
  refine⟨_,rfl,rfl,_,rfl,?_⟩
  cases e:Far.get DD i with
  | none=>exact iteT ⟨_,rfl,hC _ _ _ ⟨_,rfl⟩ (Same.refl _) (by rw[e];rfl)⟩
  | some x=>exact iteF ⟨_,rfl,_,rfl,_,_,rfl,hC _ _ _ ⟨_,rfl⟩ (Same.refl _) (by rw[e];rfl)⟩
 ·have lY:ys.length=DD.length:=by rw[hly,g9]
  refine⟨L,_,rfl,hH,λ t J2 S2 f2 e2=>q t DD J2 (S.trans (s2.trans S2)) ?_ lD hD⟩
  rw[e2]
  refine congrArg (λ z=>some (HO.tup z)) (ubp λ i=>?_)
  by_cases hi:i<DD.length
  ·have e:ys[i]?=some ys[i]:=d6 (by left)
   rw[e,hys i _ e,o7,o7,d6 hi]
   unfold Far.get
   rw[f8,d6 hi];rfl
  ·rw[u5 (by left),u5 (by rw[g9,g9];left)]
theorem qX (T:Bi mg)(D:DefOk K mg "tree_from" s_tree_from ["web","keep","root"])(O_reached_from:‹2› "reached_from" ["web","keep","root"] (spReachedB K)):‹3› "tree_from" ["web","keep","root"] (spTreeB K):=by
 exists 2,sc_tree_from
 obtain⟨n,ts,ks,wv,kv,r,rfl,wk,r0,r1,q⟩:=h
 refine⟨_,(aE (bE (aG O_reached_from hr rfl (aA (pv 0) (aA (pv 1) (aA (pv 2) aB)))) (bQ (n:=2) rfl (aS (aL (i:=3) nd rfl (v8 rfl)) (aS (aL (i:=4) nd rfl (v8 rfl)) bK)))) (aF (aI (bA cG rfl T.z_tuple (by symm) (aA (pv 4) aB))))),?_⟩
 refine⟨_,rfl,_,rfl,_,rfl,n,ts,ks,wv,kv,r,rfl,wk,r0,r1,λ p lc la cvs as cs J S ep ec ea cl G=>?_⟩
 refine⟨p,_,rfl,SqT.of ep,rfl,_,_,rfl,_,_,rfl,rfl,?_⟩
 exact⟨_,rfl,la,_,rfl,ea,λ t J2 S2 f2 e2=>q t as cs J2 (S.trans S2) e2 G⟩
theorem mZ {ws:List V}{x:V}:atI (ws++[x]) (-1)=some x:=by
 unfold atI ixN
 rw[ugd (by decide),ugc (by rw[j3,p7];left)]
 show (ws++[x])[(-1+((ws++[x]).length:Int)).toNat]?=some x
 rw[j3,p7,show (-1+((ws.length+1:Nat):Int)).toNat=ws.length by left]
 simp
theorem sX (T:Bi mg)(D:DefOk K mg "the_way" s_the_way ["web","keep","a","b"])(O_tree_from:‹3› "tree_from" ["web","keep","root"] (spTreeB K)):‹4› "the_way" ["web","keep","a","b"] (spWayB K):=by
 exists 3,sc_the_way
 obtain⟨n,ts,ks,wv,kv,a,b,rfl,wk,a0,a1,b0,b1,q⟩:=h
 have n24:=wk.2.1.n24
 have KB:=fF wk.2.1 wk.2.2.2
 refine⟨_,(aE (aO (i:=4) nd rfl (v8 rfl) (aG O_tree_from hr rfl (aA (pv 0) (aA (pv 1) (aA (pv 3) aB))))) (aE (aO (i:=5) nd rfl (v8 rfl) (bZ (aA (pv 2) aB))) (aE (lU PassesOwn.never (aR jG (aK bC (pv 5) (gI gE aC) (λ _ _=>rfl)) (pv 3) (nomark _)) (aE (aV (aR eT (aK aW (pv 4) (aK bC (pv 5) (gI gE aC) (λ _ _=>rfl)) (λ _ _=>rfl)) bM (nomark _)) (aF (aI bM)) aU) (aF (bI (dS ubn ub1 ub0 gN (pv 5) (aA (aK aW (pv 4) (aK bC (pv 5) (gI gE aC) (λ _ _=>rfl)) (λ _ _=>rfl)) aB)))))) (aF (aI (bA cG rfl T.z_tuple (by symm) (aA (pv 5) aB))))))),?_⟩
 refine⟨_,rfl,_,rfl,_,rfl,n,ts,ks,wv,kv,b,rfl,wk,b0,b1,λ p as cs J S ep G=>?_⟩
 refine⟨_,rfl,(by show 1<=1000;decide),λ lw J1 S1 f1 e1=>?_⟩
 have lA:=G.alen
 have ep1:=S1 _ _ ep
 have fw:H lw=none:=S.free f1
 have nlp:p≠lw:=λ z=>by rw[z,f1] at ep;cases ep
 refine⟨λ m σ J2=>∃ (pre:List Nat)(c:Nat),σ=[some wv,some kv,some (.int a),some (.int b),some (.ref p),some (.ref lw)]/\Same H J2/\J2 p=some (.tup (as.map oa))/\J2 lw=some (.lst (natV (pre++[c])))/\c<n.toNat /\
  ((pre=[]/\c=a.toNat/\Far.get cs c=none/\m=0)\/∃ ca cc,Far.get cs a.toNat=some ca/\Far.get cs c=some cc/\(∀ P,Far.TPw as b.toNat P c->Far.TPw as b.toNat (P++pre.reverse) a.toNat)/\pre.length+1<=Far.beyond n.toNat cs cc.1/\m=cc.1.toNat),?_,?_⟩
 ·have e1':J1 lw=some (.lst (natV ([]++[a.toNat]))):=by rw[e1];show some (HO.lst [V.int a])=some (HO.lst [V.int ((a.toNat:Nat):Int)]);rw[uao a0]
  cases e:Far.get cs a.toNat with
  | none=>exact⟨0,[],a.toNat,rfl,S.trans S1,ep1,e1',by left,.inl ⟨rfl,rfl,e,rfl⟩⟩
  | some ca=>exact⟨_,[],a.toNat,rfl,S.trans S1,ep1,e1',by left,.inr ⟨ca,ca,rfl,e,λ P t=>by rw[List.reverse_nil,ubi];exact t,Far.uQ (by left) e,rfl⟩⟩
 rintro m σ J2 ⟨pre,c,rfl,sm,hp,hw,hc,inv⟩
 have lastV:atI (natV (pre++[c])) (-1)=some (.int (c:Int)):=by
  unfold natV;rw[uab];exact mZ
 have hat:atI (as.map oa) (c:Int)=some (oa (Far.get as c)):=bO (uat _) (by rw[uc7];exact zbl (by left))
 refine⟨_,rfl,_,rfl,lw,_,_,_,rfl,rfl,SqL.of hw,lastV,_,rfl,rfl,_,rfl,?_⟩
 by_cases cb:c=b.toNat
 ·refine iteNS (by rw[cb,uao b0]) ?_
  refine⟨_,rfl,lw,_,rfl,hw,λ t J3 S3 f3 e3=>q _ J3 (sm.trans S3) ⟨cs,as,G,.inr ?_⟩⟩
  rcases inv with ⟨_,_,ec,_⟩ | ⟨ca,cc,e1',e2',tp,hl,_⟩
  ·rw[cb,G.start] at ec;cases ec
  ·have:=Far.lC n.toNat cs cc.1
   refine⟨t,pre++[c],ca,rfl,e3,by rw[j3,p7];left,e1',?_⟩
   rw[udp]
   have:=tp [b.toNat] (by rw[cb];exact .root)
   rw[cb];exact this
 ·have ne:decide (V.int (c:Int)=V.int b)=false:=ugb λ z=>cb (by injection z with z;left)
  rw[ne]
  refine iteT ⟨λ σ' J'=>∃ m',m'<m/\∃ (pre:List Nat)(c:Nat),σ'=[some wv,some kv,some (.int a),some (.int b),some (.ref p),some (.ref lw)]/\Same H J'/\J' p=some (.tup (as.map oa))/\J' lw=some (.lst (natV (pre++[c])))/\c<n.toNat /\
   ((pre=[]/\c=a.toNat/\Far.get cs c=none/\m'=0)\/∃ ca cc,Far.get cs a.toNat=some ca/\Far.get cs c=some cc/\(∀ P,Far.TPw as b.toNat P c->Far.TPw as b.toNat (P++pre.reverse) a.toNat)/\pre.length+1<=Far.beyond n.toNat cs cc.1/\m'=cc.1.toNat),λ _ _ h=>h,?_⟩
  refine⟨_,rfl,_,rfl,_,rfl,lw,_,_,_,rfl,rfl,SqL.of hw,lastV,p,_,_,_,rfl,rfl,SqT.of hp,hat,rfl,_,rfl,?_⟩
  cases ea:Far.get as c with
  | none =>
   refine iteT (q _ _ sm ⟨cs,as,G,.inl ⟨rfl,?_⟩⟩)
   rcases inv with ⟨_,ec,e2',_⟩ | ⟨ca,cc,_,e2',_⟩
   ·rw[← ec];exact e2'
   ·exact absurd ea (G.has c cc e2' cb)
  | some u =>
   obtain⟨l,k,cu,mm,e1',e2'⟩:=G.arc _ _ ea
   rw[ea] at hat
   rcases inv with ⟨_,_,ec,_⟩ | ⟨ca,cc,e3',e4',tp,hl,rfl⟩
   ·rw[ec] at e2';cases e2'
   ·have ecc:cc=(cu.1+l,cu.2+2^k):=t6 (e4'.symm.trans e2')
    have l1:=KB.pos _ _ _ _ mm
    have cu0:=G.nn _ _ e1'
    have hu:=(yV wk.2.1 wk.2.2.2 mm).1
    have c1:cc.1=cu.1+l:=by rw[ecc]
    have bl:=Far.wD hu e1' (show cu.1<cc.1 by left)
    have ble:=Far.lC n.toNat cs cu.1
    have lenW:(natV (pre++[c])).length=pre.length+1:=by unfold natV;rw[g9,j3,p7]
    refine iteF ⟨_,rfl,.inl ⟨rfl,_,SqL.of hw⟩,_,rfl,_,rfl,_,rfl,lw,_,_,_,rfl,rfl,SqL.of hw,lastV,p,_,_,_,rfl,rfl,SqT.of hp,hat,lw,_,_,rfl,rfl,hw,by left,λ J3 b3 e3=>?_⟩
    refine⟨cu.1.toNat,by left,pre++[c],u,rfl,λ c o z=>b3 _ _ (aT z fw) (sm _ _ z),b3 _ _ nlp hp,?_,hu,.inr ⟨ca,cu,e3',e1',λ P t=>?_,by rw[j3,p7];left,rfl⟩⟩
    ·rw[e3];unfold natV;rw[uab (l₂:=[u])];rfl
    ·have:=tp (P++[c]) (.step ea t)
     rw[udp]
     rw[ubg] at this
     exact this
theorem qK (T:Bi mg)(D:DefOk K mg "tie_between" s_tie_between ["web","a","b"]):‹1› "tie_between" ["web","a","b"] (spTB K):=by
 exists 0,sc_tie_between
 obtain⟨n,ts,wv,u,v,rfl,isw,few60,q⟩:=h
 have units:∀ {x:Nat},x<=3->(A.deeper (envOfC "tie_between" (defScope s_tie_between) s.heap.objs.size f cdv)).units+x<cLine:=λ {x} hu=>by have:=hr.units;left
 obtain⟨g0,g,ws,rfl,hg0,hg,hall,hlw⟩:=bD isw
 refine⟨_,(aE (aO (i:=3) nd rfl (v8 rfl) (aZ (aA (aQ (gX rfl) rfl T.z_min (by symm) (aA (pv 1) (aA (pv 2) aB))) (aA (aQ (gY rfl) rfl T.z_max (by symm) (aA (pv 1) (aA (pv 2) aB))) aB)))) (aE (cC PassesOwn.never rfl (zO true rfl T.z_enumerate (aA (aK aW (pv 0) aC (λ _ _=>rfl)) aB)) (bQ (n:=2) rfl (aS (aL (i:=4) nd rfl (v8 rfl)) (aS (aL (i:=5) nd rfl (v8 rfl)) bK))) (aF (aV (aR oU (lW nI (pv 5) nN (nM aC)) (pv 3) (nomark _)) (aF (aI (pv 4))) aU))) (aF (aI bM)))),?_⟩
 refine⟨_,rfl,_,rfl,_,_,rfl,_,rfl,_,rfl,_,_,rfl,(by show 2<=1000;decide),λ te J1 S1 f1 e1=>?_⟩
 have eMin:(if (v:Int)<(u:Int) then (v:Int) else u)=min (u:Int) v:=by split <;> left
 have eMax:(if (v:Int)>(u:Int) then (v:Int) else u)=max (u:Int) v:=by split <;> left
 rw[eMin,eMax] at e1
 refine⟨_,rfl,g0,_,_,_,rfl,rfl,SqT.of (S1 _ _ hg0),rfl,g,rfl,⟨ws,SqX.of (S1 _ _ hg)⟩,?_⟩
 refine⟨λ i m σ J=>m=ts.length-i/\i<=ts.length/\(∃ y4 y5:Option V,σ=[some (.ref g0),some (.int (u:Int)),some (.int (v:Int)),some (.ref te),y4,y5])/\Same J1 J/\∀ k,k<i->isTB ts u v k=false,⟨_,rfl,uac _,⟨none,none,rfl⟩,Same.refl _,λ k hk=>(by left)⟩,?_⟩
 rintro i m σ J ⟨rfl,hi,⟨y4,y5,rfl⟩,sm,pre⟩
 have sH:=S1.trans sm
 have sq:SqX true K J g ws:=SqX.of (sH _ _ hg)
 by_cases hlt:i<ts.length
 ·refine .inr ⟨⟨ws,ws[i]'(by left),sq,by simp [show i<ws.length by left]⟩,λ σ' J'=>∃ m',m'<ts.length-i/\(m'=ts.length-(i+1)/\i+1<=ts.length/\(∃ y4 y5:Option V,σ'=[some (.ref g0),some (.int (u:Int)),some (.int (v:Int)),some (.ref te),y4,y5])/\Same J1 J'/\∀ k,k<i+1->isTB ts u v k=false),λ _ _ h=>h,λ x J' hy=>?_⟩
  obtain⟨T',y,hT,rfl,rfl,ey⟩:=hy
  have hyi:=ey ws sq
  obtain⟨ta,hta,htie⟩:=cJ hall hlt
  rw[hta] at hyi
  cases hyi
  have S2:=aN (o:=.tup [.int (i:Nat),.ref ta]) hT
  have htie':=S2 _ _ (sH _ _ htie)
  refine⟨T',_,rfl,SqT.of aH,rfl,_,_,rfl,_,_,rfl,rfl,?_⟩
  refine⟨_,rfl,_,rfl,ta,_,rfl,htie',λ tc J3 S3 e3=>?_⟩
  have e3':J3 tc=some (.tup (([(tieAt ts i).1,(tieAt ts i).2.1]:List Int).map V.int)):=e3
  have e1':J3 te=some (.tup (([min (u:Int) v,max (u:Int) v]:List Int).map V.int)):=S3 _ _ (S2 _ _ (sm _ _ e1))
  refine⟨_,rfl,.tuple (([(tieAt ts i).1,(tieAt ts i).2.1]:List Int).map .int),.tuple (([min (u:Int) v,max (u:Int) v]:List Int).map .int),⟨tc,_,rfl,e3',IsAll.ints _⟩,⟨te,_,rfl,e1',IsAll.ints _⟩,bV _,bV _,?_,_,rfl,?_⟩
  ·have d1:=eC [(tieAt ts i).1,(tieAt ts i).2.1]
   have d2:uc3 (.tuple (([(tieAt ts i).1,(tieAt ts i).2.1]:List Int).map .int))=uap (([(tieAt ts i).1,(tieAt ts i).2.1]:List Int).map .int)+1:=rfl
   exact units (w6 (Nat.min_le_left _ _) (by rw[d2];left))
  have eq:ue3 (.tuple (([(tieAt ts i).1,(tieAt ts i).2.1]:List Int).map .int)) (.tuple (([min (u:Int) v,max (u:Int) v]:List Int).map .int))=isTB ts u v i:=xA _ _ _ _
  rw[eq]
  have SS:=S2.trans S3
  refine ite2 (λ c=>?_) (λ c=>?_)
  ·have et:tbN ts u v=some i:=by
    unfold tbN
    refine List.find?_range_eq_some.mpr ⟨c,o6.mpr hlt,λ j hj=>?_⟩
    rw[pre j hj];rfl
   have q1:=q J3 (sH.trans SS)
   rw[et] at q1
   exact⟨_,rfl,q1⟩
  ·refine⟨ts.length-(i+1),by left,rfl,hlt,⟨_,_,rfl⟩,sm.trans SS,λ k hk=>?_⟩
   by_cases z:k=i
   ·rw[z];exact ubq.mpr c
   ·exact pre k (by left)
 ·have e:i=ts.length:=by left
  subst e
  refine .inl ⟨⟨ws,sq,by left⟩,?_⟩
  have et:tbN ts u v=none:=by
   unfold tbN
   refine ue5.mpr λ k hk=>?_
   rw[pre k (o6.mp hk)];exact m7
  have q1:=q J sH
  rw[et] at q1
  exact q1
theorem qY (T:Bi mg)(D:DefOk K mg "ties_along" s_ties_along ["web","places"])(O_tie_between:‹1› "tie_between" ["web","a","b"] (spTB K)):‹2› "ties_along" ["web","places"] (spAlong K):=by
 exists 1,sc_ties_along
 obtain⟨n,ts,wv,t,ws,rfl,isw,few60,ht,l24,lk,q⟩:=h
 have lenW:(natV ws).length=ws.length:=by unfold natV;rw[g9]
 have ecut:cutV (natV ws) (some 1) none=natV (ws.drop 1):=by
  unfold cutV
  have h1:HT.sIx (natV ws).length (natV ws).length none=(natV ws).length:=rfl
  rw[h1]
  by_cases z:ws=[]
  ·subst z;rfl
  ·have pos:=List.length_pos_iff.mpr z
   have h0:HT.sIx (natV ws).length 0 (some 1)=1:=by
    unfold HT.sIx
    simp
    left
   rw[h0,uei (by rw[ubx];exact i7 _)]
   unfold natV
   rw[List.map_drop]
 refine⟨_,(aF (aI (cK (N:=["web","places"]) (sc0:=defScope s_ties_along) (own:=["one","other"]) (fr:=["web"]) (js:=[0]) rfl (oP true true rfl T.z_zip (aA (pv 1) (aA (lW nI (pv 1) (nM aC) nN) aB))) (λ _ _ _ _=>(zP (n:=2) rfl (aS (aL (i:=0) (by show uby [("one":Str),("other":Str),("web":Str)];decide +kernel) rfl (v8 rfl)) (aS (aL (i:=1) (by show uby [("one":Str),("other":Str),("web":Str)];decide +kernel) rfl (v8 rfl)) bK)))) (λ _ _ _ _=>cV) (λ _ _ _ _=>(aG O_tie_between hr rfl (aA (pv 2) (aA (pv 0) (aA (pv 1) aB)))))))),?_⟩
 refine⟨_,rfl,_,rfl,_,rfl,t,_,rfl,ht,λ t2 J1 S1 e1=>?_⟩
 rw[ecut] at e1
 refine⟨t,t2,rfl,⟨_,SqX.of (t:=true) (S1 _ _ ht)⟩,⟨_,SqX.of (t:=true) e1⟩,?_⟩
 have lenD:(natV (ws.drop 1)).length=ws.length-1:=by unfold natV;rw[g9,ubx]
 refine yB (t1:=true) (t2:=true) (xs:=natV ws) (zs:=natV (ws.drop 1)) (S1 _ _ ht) e1 (λ σ'=>∃ o1 o2,σ'=[o1,o2,some wv]) (λ i x _=>x=V.int (((tbN ts (ws.getD i 0) (ws.getD (i+1) 0)).getD 0:Nat):Int)) (by left) (by exact⟨none,none,rfl⟩) (λ _ _ _ _ _ h=>h) (λ i x z U σ' H' hxi hzi s2 hU sg C hC=>?_) (λ L ys H2 hL s2 hH hly hys=>?_)
 ·obtain⟨o1,o2,rfl⟩:=sg
  obtain⟨u,hu,rfl⟩:=dB hxi
  obtain⟨v,hv,rfl⟩:=dB hzi
  rw[List.getElem?_drop,ud3] at hv
  obtain⟨k,ek,hk⟩:=gS lk hu hv
  have eu:ws.getD i 0=u:=by rw[f8,hu];rfl
  have ev:ws.getD (i+1) 0=v:=by rw[f8,hv];rfl
  refine⟨U,_,rfl,SqT.of aH,rfl,_,_,rfl,_,_,rfl,rfl,?_⟩
  have SU:=aN (o:=.tup [V.int (u:Int),.int (v:Int)]) hU
  refine⟨_,rfl,_,rfl,_,rfl,n,ts,wv,u,v,rfl,Is.same (S1.trans (s2.trans SU)) _ isw,few60,λ H5 s5=>hC _ _ _ ⟨_,_,rfl⟩ (SU.trans s5) ?_⟩
  rw[eu,ev,ek];rfl
 ·refine q L H2 (S1.trans s2) ?_
  rw[hH]
  refine congrArg (λ z=>some (HO.lst z)) (ubp λ i=>?_)
  have hl2:ys.length=ws.length-1:=by rw[hly,lenW,lenD];left
  unfold alongN natV
  rw[ubb,o7]
  by_cases hi:i<ws.length-1
  ·have e:ys[i]?=some ys[i]:=d6 (by left)
   rw[e,hys i _ e,ubs hi];rfl
  ·rw[u5 (by left),u5 (by rw[v6];left)];rfl
theorem qW (T:Bi mg)(D:DefOk K mg "way_length" s_way_length ["web","way"])(O_ties_along:‹2› "ties_along" ["web","places"] (spAlong K)):‹3› "way_length" ["web","way"] (spWLen K):=by
 exists 2,sc_way_length
 obtain⟨n,ts,wv,t,ws,rfl,isw,few60,ht,l24,lk,q⟩:=h
 obtain⟨g0,g,tws,rfl,hg0,hg,hall,hlw⟩:=bD isw
 refine⟨_,(aF (aI (aQ (wA rfl) rfl T.z_sum (by symm) (aA (cK (N:=["web","way"]) (sc0:=defScope s_way_length) (own:=["tie"]) (fr:=["web"]) (js:=[0]) rfl (eM (aG O_ties_along hr rfl (aA (pv 0) (aA (pv 1) aB)))) (λ _ _ _ _=>(aL (i:=0) (by show uby [("tie":Str),("web":Str)];decide +kernel) rfl (v8 rfl))) (λ _ _ _ _=>cV) (λ _ _ _ _=>(aK fY (aK fY (aK fY (pv 1) aC (λ _ _=>rfl)) (pv 0) (λ _ _=>rfl)) aC (λ _ _=>rfl)))) aB)))),?_⟩
 refine⟨_,rfl,_,rfl,n,ts,_,t,ws,rfl,isw,few60,ht,l24,lk,λ l J1 S1 e1=>?_⟩
 refine⟨l,rfl,⟨_,SqL.of e1⟩,?_⟩
 have lenA:(natV (alongN ts ws)).length=ws.length-1:=by unfold natV alongN;rw[g9,g9,v6]
 refine iH e1 (λ σ'=>∃ o,σ'=[o,some (.ref g0)]) (λ i x _=>x=V.int (tieAt ts ((alongN ts ws).getD i 0)).2.2) (by left) (by exact⟨none,rfl⟩) (λ _ _ _ _ _ h=>h) (λ i x σ' H' hx s2 sg C hC=>?_) (λ L ys H2 hL s2 hH hly hys=>?_)
 ·obtain⟨o,rfl⟩:=sg
  obtain⟨k,hk,rfl⟩:=dB hx
  have hkl:=yW lk k (m3 hk)
  obtain⟨ta,hta,htie⟩:=cJ hall hkl
  have s12:=S1.trans s2
  have ek:(alongN ts ws).getD i 0=k:=by rw[f8,hk];rfl
  exact⟨_,rfl,g0,_,_,_,rfl,rfl,SqT.of (s12 _ _ hg0),rfl,_,rfl,g,_,_,_,rfl,rfl,SqT.of (s12 _ _ hg),bO (uat _) hta,ta,_,_,_,rfl,rfl,SqT.of (s12 _ _ htie),rfl,hC _ _ _ ⟨_,rfl⟩ (Same.refl _) (by rw[ek])⟩
 ·refine⟨L,(alongN ts ws).map λ k=>(tieAt ts k).2.2,rfl,?_,?_⟩
  ·rw[hH]
   refine congrArg (λ z=>some (HO.lst z)) (ubp λ i=>?_)
   have hl2:ys.length=ws.length-1:=by rw[hly,lenA]
   have la:(alongN ts ws).length=ws.length-1:=by unfold alongN;rw[g9,v6]
   rw[o7,o7]
   by_cases hi:i<ws.length-1
   ·have e:ys[i]?=some ys[i]:=d6 (by left)
    have e2:(alongN ts ws)[i]?=some ((alongN ts ws).getD i 0):=by rw[f8,d6 (by left)];rfl
    rw[e,hys i _ e,e2];rfl
   ·rw[u5 (by left),u5 (by left)];rfl
  ·rw[lE]
   exact q H2 (S1.trans s2)
theorem tZ (T:Bi mg)(D:DefOk K mg "without" s_without ["keep","tie"]):‹1› "without" ["keep","tie"] (spWithout K):=by
 exists 0,sc_without
 obtain⟨m,ks,kv,k,rfl,isk,ko,m60,q⟩:=h
 obtain⟨kp,rfl,hkp⟩:=fA isk
 rw[← bH] at hkp
 have lks:=ko.len
 have len:(natV ks).length=ks.length:=by unfold natV;rw[g9]
 refine⟨_,(aF (aI (bA cG rfl T.z_tuple (by symm) (aA (cK (N:=["keep","tie"]) (sc0:=defScope s_without) (own:=["other"]) (fr:=["tie"]) (js:=[1]) rfl (cZ (pv 0)) (λ _ _ _ _=>(aL (i:=0) (by show uby [("other":Str),("tie":Str)];decide +kernel) rfl (v8 rfl))) (λ _ _ _ _=>(iM (aR jG (pv 0) (pv 1) (nomark _)))) (λ _ _ _ _=>(pv 0))) aB)))),?_⟩
 refine⟨_,rfl,kp,rfl,⟨_,SqT.of hkp⟩,?_⟩
 refine kR hkp (λ σ'=>∃ o,σ'=[o,some (.int (k:Int))]) (λ i=>if decide (ks.getD i 0≠k)=true then some (V.int ((ks.getD i 0:Nat):Int)) else none) (by left) (by exact⟨none,rfl⟩) (λ i x σ' H' hx s2 sg C L hC hL=>?_) (λ L H2 hL s2 hH=>?_)
 ·obtain⟨o,rfl⟩:=sg
  obtain⟨j,hj,rfl⟩:=dB hx
  have ej:ks.getD i 0=j:=by rw[f8,hj];rfl
  refine⟨_,rfl,_,rfl,rfl,_,rfl,?_⟩
  by_cases z:j=k
  ·refine iteNS (by rw[z]) (hL _ _ ⟨_,rfl⟩ (Same.refl _) ?_)
   rw[ej,ugd]
   exact λ y=>uga y z
  ·have ne:decide (V.int (j:Int)=V.int (k:Int))=false:=ugb λ y=>z (by injection y with y;left)
   rw[ne]
   refine iteT ⟨_,rfl,hC _ _ _ ⟨_,rfl⟩ (Same.refl _) ?_⟩
   rw[ej,ugc (uf9 z)]
 ·refine⟨L,_,rfl,hH,λ t J S f e=>q t J (s2.trans S) ?_⟩
  rw[e,len]
  exact congrArg (λ z=>some (HO.tup z)) (lM (λ j=>decide (j≠k)) ks)
theorem xF (T:Bi mg)(D:DefOk K mg "spare" s_spare ["web","keep","tie"])(O_without:‹4› "without" ["keep","tie"] (spWithout K))(O_the_way:‹4› "the_way" ["web","keep","a","b"] (spWay K)):‹5› "spare" ["web","keep","tie"] (spSpare K):=by
 exists 4,sc_spare
 obtain⟨n,ts,ks,wv,kv,k,rfl,wk,hkl,q⟩:=h
 have ok:=wk.2.1
 obtain⟨g0,g,ws,rfl,hg0,hg,hall,hlw⟩:=bD wk.1
 obtain⟨ta,hta,htie⟩:=cJ hall hkl
 have tk:=ok.tie _ (aY hkl).2
 refine⟨_,(aE (bE (aK aW (aK aW (pv 0) aC (λ _ _=>rfl)) (pv 2) (λ _ _=>rfl)) (bQ (n:=3) rfl (aS (aL (i:=3) nd rfl (v8 rfl)) (aS (aL (i:=4) nd rfl (v8 rfl)) (aS (aL (i:=5) nd rfl (v8 rfl)) bK))))) (aF (aI (aG O_the_way hr rfl (aA (pv 0) (aA (aG O_without hr rfl (aA (pv 1) (aA (pv 2) aB))) (aA (pv 3) (aA (pv 4) aB)))))))),?_⟩
 refine⟨_,rfl,g0,_,_,_,rfl,rfl,SqT.of hg0,rfl,_,rfl,g,_,_,_,rfl,rfl,SqT.of hg,bO (uat _) hta,ta,_,rfl,SqT.of htie,rfl,_,_,rfl,_,_,rfl,_,_,rfl,rfl,?_⟩
 refine⟨_,rfl,_,rfl,_,rfl,_,ks,kv,k,rfl,wk.2.2.1,wk.2.2.2,ok.few,λ p J S e=>?_⟩
 refine⟨_,rfl,_,rfl,n,ts,but ks k,_,_,_,_,rfl,⟨Is.same S _ wk.1,ok,⟨p,_,rfl,e,by rw[bH];exact IsAll.ints _⟩,pA wk.2.2.2⟩,by left,by left,by left,by left,λ v J2 S2 hv=>q v J2 (S.trans S2) hv⟩
theorem rA (T:Bi mg)(D:DefOk K mg "need_times" s_need_times ["t"])(O_is_whole:‹1› "is_whole" ["thing"] (spD1 K (λ _=>True) wholeB)):‹2› "need_times" ["t"] (spNeed K):=by
 exists 1,sc_need_times
 obtain⟨t,rfl,t1,t99,q⟩:=h
 refine⟨_,(aF (aV (PW.pt (dF (cB (bP (aG O_is_whole hr rfl (aA (pv 0) aB)))) (cY (cB (lS eU eU aC (pv 0) aC))))) (aF lV) aU)),?_⟩
 refine⟨_,rfl,.int t,.int t,rfl,rfl,trivial,λ H1 s1=>⟨_,rfl,iteF ?_⟩⟩
 refine⟨_,rfl,_,_,rfl,rfl,_,rfl,?_⟩
 have e1:decide ((1:Int)<=t)=true:=uf9 t1
 have e2:decide (t<=99)=true:=uf9 t99
 rw[e1]
 refine iteT ⟨_,_,rfl,rfl,_,rfl,?_⟩
 rw[e2]
 exact iteF (q H1 s1)
theorem rV (T:Bi mg)(D:DefOk K mg "is_within" s_is_within ["web","tie","t","way"])(O_way_length:‹3› "way_length" ["web","way"] (spWLen K)):‹4› "is_within" ["web","tie","t","way"] (spWithin K):=by
 exists 3,sc_is_within
 obtain⟨n,ts,ks,wv,k,t,v,rfl,isw,ok,ko,hkl,t1,t99,hv,q⟩:=h
 have tk:=ok.tie _ (aY hkl).2
 obtain⟨g0,g,ws',rfl,hg0,hg,hall,hlw⟩:=bD isw
 obtain⟨ta,hta,htie⟩:=cJ hall hkl
 refine⟨_,(aF (aI (cD (bB zR (pv 3) bM (nomark _)) (bR (bB eU (aG O_way_length hr rfl (aA (pv 0) (aA (pv 3) aB))) (aJ dQ (pv 2) (aK aW (aK aW (aK aW (pv 0) aC (λ _ _=>rfl)) (pv 1) (λ _ _=>rfl)) aC (λ _ _=>rfl))) (nomark _)))))),?_⟩
 rcases hv with ⟨rfl,hd⟩ | ⟨tw,ws,x,rfl,htw,l24,tr,hd⟩
 ·refine⟨_,rfl,rfl,_,rfl,iteF ?_⟩
  have q0:=q H (Same.refl H)
  rw[gJ hd] at q0
  exact q0
 ·obtain⟨ew,lk⟩:=jC ok ko tr
  refine⟨_,rfl,rfl,_,rfl,iteT ?_⟩
  refine⟨_,rfl,_,rfl,n,ts,_,tw,ws,rfl,isw,ok.few,htw,l24,lk,λ J S=>?_⟩
  have q0:=q J S
  rw[gJ hd] at q0
  rw[ew]
  exact⟨_,rfl,_,rfl,g0,_,_,_,rfl,rfl,SqT.of (S _ _ hg0),rfl,_,rfl,g,_,_,_,rfl,rfl,SqT.of (S _ _ hg),bO (uat _) hta,ta,_,_,_,rfl,rfl,SqT.of (S _ _ htie),rfl,_,_,rfl,rfl,.inl ⟨by left,by left⟩,_,_,rfl,rfl,q0⟩
theorem vJ (T:Bi mg)(D:DefOk K mg "needed" s_needed ["web","keep","t"])(O_need_times:‹5› "need_times" ["t"] (spNeed K))(O_is_within:‹5› "is_within" ["web","tie","t","way"] (spWithin K))(O_spare:‹5› "spare" ["web","keep","tie"] (spSpare K)):‹6› "needed" ["web","keep","t"] (spNeeded K):=by
 exists 5,sc_needed
 obtain⟨n,ts,ks,wv,kv,t,rfl,wk,t1,t99,q⟩:=h
 refine⟨_,(aE (bI (aG O_need_times hr rfl (aA (pv 2) aB))) (aF (aI (bA cG rfl T.z_tuple (by symm) (aA (cK (N:=["web","keep","t"]) (sc0:=defScope s_needed) (own:=["tie"]) (fr:=["web","t","keep"]) (js:=[0,2,1]) rfl (cZ (pv 1)) (λ _ _ _ _=>(aL (i:=0) (by show uby [("tie":Str),("web":Str),("t":Str),("keep":Str)];decide +kernel) rfl (v8 rfl))) (λ _ _ _ _=>(iM (cB (bP (aG O_is_within hr rfl (aA (pv 1) (aA (pv 0) (aA (pv 2) (aA (aG O_spare hr rfl (aA (pv 1) (aA (pv 3) (aA (pv 0) aB)))) aB))))))))) (λ _ _ _ _=>(pv 0))) aB))))),?_⟩
 refine⟨_,rfl,t,rfl,t1,t99,λ H1 s1=>?_⟩
 have wk1:=wk.same s1
 have ok:=wk.2.1
 have ko:=wk.2.2.2
 have few60:=ok.few
 obtain⟨kp,rfl,hkp⟩:=fA wk1.2.2.1
 rw[← bH] at hkp
 have lks:=ko.len
 have len:(natV ks).length=ks.length:=by unfold natV;rw[g9]
 refine⟨_,rfl,kp,rfl,⟨_,SqT.of hkp⟩,?_⟩
 refine kR hkp (λ σ'=>∃ o,σ'=[o,some wv,some (.int t),some (.ref kp)]) (λ i=>if (!withinB t (tieAt ts (ks.getD i 0)).2.2 (gO ts (but ks (ks.getD i 0)) (ks.getD i 0)))=true then some (V.int ((ks.getD i 0:Nat):Int)) else none) (by left) (by exact⟨none,rfl⟩) (λ i x σ' H' hx s2 sg C L hC hL=>?_) (λ L H2 hL s2 hH=>?_)
 ·obtain⟨o,rfl⟩:=sg
  obtain⟨k,hk,rfl⟩:=dB hx
  have hkl:k<ts.length:=ko.2 k (m3 hk)
  have ej:ks.getD i 0=k:=by rw[f8,hk];rfl
  have wk2:=wk1.same s2
  refine⟨_,rfl,_,rfl,_,rfl,_,rfl,_,rfl,_,rfl,n,ts,ks,wv,_,k,rfl,wk2,hkl,λ v J S hv=>?_⟩
  refine⟨n,ts,but ks k,wv,k,t,v,rfl,Is.same S _ wk2.1,ok,pA ko,hkl,t1,t99,hv,λ J2 S2=>⟨_,rfl,?_⟩⟩
  refine iteB2 (λ c=>hL _ _ ⟨_,rfl⟩ (S.trans S2) ?_) (λ c=>⟨_,rfl,hC _ _ _ ⟨_,rfl⟩ (S.trans S2) ?_⟩)
  ·rw[ej,c];rfl
  ·rw[ej,c];rfl
 ·refine⟨L,_,rfl,hH,λ tt J S f e=>q tt J (s1.trans (s2.trans S)) ?_⟩
  rw[e,len]
  exact congrArg (λ z=>some (HO.tup z)) (lM (λ k=>!withinB t (tieAt ts k).2.2 (gO ts (but ks k) k)) ks)
theorem iQ (x y:Nat):decide (V.int (x:Int)=V.int (y:Int))=decide (x=y):=by
 by_cases e:x=y
 ·rw[uf9 e,uf9 (by rw[e])]
 ·rw[ugb e,ugb λ h=>e (by injection h with h;exact_mod_cast h)]
theorem xD (T:Bi mg)(D:DefOk K mg "whole" s_whole ["web"]):‹1› "whole" ["web"] (spWhole K):=by
 exists 0,sc_whole
 obtain⟨n,ts,v,rfl,hw,few60,q⟩:=h
 obtain⟨g0,g,ws,rfl,hg0,hg,hall,hlw⟩:=bD hw
 refine⟨_,(aF (aI (bA (gK rfl) rfl T.z_tuple (by symm) (aA (bA fB rfl T.z_range (by symm) (aA (aQ bW rfl T.z_len (by symm) (aA (aK aW (pv 0) aC (λ _ _=>rfl)) aB)) aB)) aB)))),?_⟩
 refine⟨_,rfl,g0,_,_,_,rfl,rfl,SqT.of hg0,rfl,g,_,rfl,.inr (SqT.of hg),_,rfl,λ r hr'=>?_⟩
 refine⟨r,_,rfl,aH,by left,by left,λ l H' S f e=>q l H' ((aN hr').trans S) ((aN (o:=.rng 0 _) hr').free f) ?_⟩
 rw[e,show ((ws.length:Nat):Int).toNat=ts.length by left]
theorem vP:LamScope "tie" "web" (lamScopeOf s_order_of):=⟨rfl,rfl,rfl,rfl,rfl,by symm,λ z h=>(show ∀ z∈(lamScopeOf s_order_of).names,z.2=NameKind.free->z.1=u7 "web" by symm) _ (uae h) rfl,by decide⟩
theorem sY {c Pt:j7}(T:Bi mg)(D:DefOkC K mg "order_of" s_order_of ["web"] c)(L:LamHd mg base c Pt)(O_whole:‹3› "whole" ["web"] (spWhole K)):‹4› "order_of" ["web"] (spOrd K Pt (lamPosOf s_order_of)):=by
 refine iV (k:=3) D sc_order_of (λ vs H Q E h=>?_) (λ f A outer s H vs Q E hr h=>?_)
 ·obtain⟨n,ts,v,rfl,_⟩:=h
  rfl
 obtain⟨n,ts,v,rfl,hw,ok,tb,q⟩:=h
 have nd:=sc_order_of.nd
 refine⟨_,(aF (aI (bA cG rfl T.z_tuple (by symm) (aA (wX (cy:=s.heap.objs.size+1) (x:="tie") (y:="web") (i:=0) L rfl hr rfl T.z_sorted (aA (aG O_whole hr rfl (aA (pv 0) aB)) aB) vP rfl rfl rfl rfl (λ _ _ _ _=>rfl) (λ _ _ _ _ _=>aZ (aA (aK (iO (K:=K) rfl) (aK (iO (K:=K) rfl) (aK (iO (K:=K) rfl) (pv 1) aC (λ _ _=>rfl)) (pv 0) (λ _ _=>rfl)) aC (λ _ _=>rfl)) (aA (pv 0) aB)))) aB)))),?_⟩
 have few60:=ok.few
 refine⟨_,rfl,n,ts,v,rfl,hw,few60,λ l J S fr e=>?_⟩
 obtain⟨g0,g,ws,rfl,hg0,hg,hall,hlw⟩:=bD hw
 have len:(natV (i6 ts.length)).length=ts.length:=by unfold natV;rw[g9,v6]
 refine⟨l,_,(i6 ts.length).map (okey ts),.ref g0,rfl,e,by left,by rw[g9,v6,len],λ k hk=>?_,rfl,tb.same S,λ j x k hx hk H2 b2=>?_,λ qs pq wq l2 J2 b2 tb2 sm2 f2 e2=>?_⟩
 ·obtain⟨i,_,rfl⟩:=v4.mp hk
  exact λ z=>by cases z
 ·obtain⟨i,hi,rfl⟩:=dB hx
  have hj:j<ts.length:=by have:=(i8.mp hi).1;rw[v6] at this;exact this
  rw[ubs hj] at hi;cases hi
  rw[o7,ubs hj] at hk;cases hk
  obtain⟨ta,hta,htie⟩:=cJ hall hj
  have nt:∀ {b:j7}{xs:List V},J b=some (.tup xs)->H2 b=some (.tup xs):=λ e=>b2 _ _ (λ z=>by
   obtain⟨ps,e',_⟩:=tb.same S
   rw[z,e'] at e;cases e) e
  refine⟨_,rfl,g0,_,_,_,rfl,rfl,SqT.of (nt (S _ _ hg0)),rfl,_,rfl,g,_,_,_,rfl,rfl,SqT.of (nt (S _ _ hg)),bO (uat _) hta,ta,_,_,_,rfl,rfl,SqT.of (nt (S _ _ htie)),rfl,_,rfl,(by show 2<=1000;decide),λ t J3 S3 f3 e3=>⟨S3,t,rfl,e3⟩⟩
 ·refine⟨l2,_,rfl,e2,λ l3 J3 S3 f3 e3=>q l3 _ J3 (za4 pq wq) ((Same.but S).trans (b2.trans (Same.but S3))) (tb2.same S3) (λ z=>S.trans ((sm2 (z.same S)).trans S3)) (S.free ?_) ?_⟩
  ·cases e4:J l3 with
   | none=>rfl
   | some o =>
    by_cases z:l3=Pt
    ·obtain⟨ps,e5,_⟩:=tb2
     rw[z,e5] at f3;cases f3
    ·rw[b2 _ _ z e4] at f3;cases f3
  ·rw[e3];exact congrArg (λ z=>some (HO.tup z)) (xC pq)
def spWithT (K:a8):Sp:=λ vs H Q _=>∃ (m:Nat)(ks:List Nat)(kp:j7)(k:Nat),vs=[.ref kp,.int (k:Int)]/\H kp=some (.tup (natV ks))/\KeepOk m ks/\m<=60/\k∉ks/\∀ p H',Same H H'->H' p=some (.tup (natV (insN ks k)))->Q (.ref p) H'
def RsnI (n:Int)(ts:List Tie)(t:Int)(ks:List Nat)(k:Nat)(is:List Int):Prop :=
 (wiB ts t ks k=true/\∃ ws S x y,is=keepI ws/\ws.length<=24/\Far.Uni (arcsB ts ks) (tieAt ts k).1.toNat (tieAt ts k).2.1.toNat ws S x y/\Far.Dst (arcs ts ks) (tieAt ts k).1.toNat (tieAt ts k).2.1.toNat (some x)) \/
 (wiB ts t ks k=false/\∃ D:List (Option Int),is=D.map (capO (t*(tieAt ts k).2.2+1))/\D.length=n.toNat/\∀ v,v<n.toNat->Far.Dst (arcs ts ks) (tieAt ts k).1.toNat v (Far.get D v))
theorem RsnI.unique {n:Int}{ts:List Tie}{t:Int}{ks:List Nat}{k:Nat}{is js:List Int}(ok:WebOk n ts)(ko:KeepOk ts.length ks)(h:RsnI n ts t ks k is)(g:RsnI n ts t ks k js):is=js:=by
 rcases h with ⟨e,ws,S,x,y,rfl,_,u,_⟩ | ⟨e,D,rfl,lD,hD⟩
 ·rcases g with ⟨_,ws',S',x',y',rfl,_,u',_⟩ | ⟨e',_⟩
  ·rw[(u.unique (fF ok ko) u').1]
  ·rw[e] at e';cases e'
 ·rcases g with ⟨e',_⟩ | ⟨_,D',rfl,lD',hD'⟩
  ·rw[e] at e';cases e'
  ·have:D=D':=by
    refine udf (lD.trans lD'.symm) λ i h1 h2=>?_
    have a:=(hD i (by left)).unique (hD' i (by left))
    unfold Far.get at a
    rw[f8,f8,d6 h1,d6 h2] at a
    exact a
   rw[this]
def RsnV (H:Hp)(n:Int)(ts:List Tie)(t:Int)(ks:List Nat)(k:Nat)(v:V):Prop:=∃ p x u,v=.ref p/\H p=some (.tup [.str x,u])/\x=(if wiB ts t ks k=true then "way" else "heights")/\∃ q is,u=.ref q/\H q=some (.tup (is.map V.int))/\RsnI n ts t ks k is
theorem oM {H:Hp}{ts:List Tie}{ks:List Nat}{a b:Nat}{v:V}(h:WayU H ts ks a b v):WayV H (arcs ts ks) a b v:=by
 rcases h with h | ⟨t,ws,S,x,y,e,ht,l,u,d⟩
 ·exact .inl h
 ·have tr:=u.rt.tr
  rw[eJ] at tr
  exact .inr ⟨t,ws,x,e,ht,l,tr,d⟩
def spWayOfU (K:a8):Sp:=λ vs H Q _=>∃ n ts ks wv kv,∃ k:Nat,vs=[wv,kv,.int (k:Int)]/\WK K H n ts ks wv kv/\k<ts.length/\∀ v H',Same H H'->WayU H' ts ks (tieAt ts k).1.toNat (tieAt ts k).2.1.toNat v->Q v H'
def spHOfD (K:a8):Sp:=λ vs H Q _=>∃ n ts ks wv kv,∃ (k:Nat)(t:Int),vs=[wv,kv,.int (k:Int),.int t]/\WK K H n ts ks wv kv/\k<ts.length/\1<=t/\t<=99/\∀ (p:j7)(D:List (Option Int))(H':Hp),Same H H'->H' p=some (.tup ((D.map (capO (t*(tieAt ts k).2.2+1))).map V.int))->D.length=n.toNat->(∀ v,v<n.toNat->Far.Dst (arcs ts ks) (tieAt ts k).1.toNat v (Far.get D v))->Q (.ref p) H'
def spReason (K:a8):Sp:=λ vs H Q _=>∃ n ts ks wv kv,∃ (k:Nat)(t:Int),vs=[wv,kv,.int (k:Int),.int t]/\WK K H n ts ks wv kv/\k<ts.length/\1<=t/\t<=99/\∀ v H',Same H H'->RsnV H' n ts t ks k v->Q v H'
theorem sW (T:Bi mg)(D:DefOk K mg "with_tie" s_with_tie ["keep","tie"]):‹1› "with_tie" ["keep","tie"] (spWithT K):=by
 exists 0,sc_with_tie
 obtain⟨m,ks,kp,k,rfl,hkp,ko,m60,hk,q⟩:=h
 have lk:=ko.len
 refine⟨_,(aF (aI (bA cG rfl T.z_tuple (by symm) (aA (aQ jM rfl T.z_sorted (by symm) (aA (aJ zT (pv 0) (aZ (aA (pv 1) aB))) aB)) aB)))),?_⟩
 refine⟨_,rfl,_,rfl,(by show 1<=1000;decide),λ t1 J1 S1 f1 e1=>?_⟩
 have lv:(natV ks).length=ks.length:=by unfold natV;rw[g9]
 refine⟨kp,t1,_,_,rfl,rfl,S1 _ _ hkp,e1,w6 (show (natV ks).length+1<=61 by left) (by decide),λ t2 J2 S2 e2=>?_⟩
 have e2':J2 t2=some (.tup ((keepI ks++[(k:Int)]).map V.int)):=by rw[e2,uab,← bH];rfl
 refine⟨t2,_,rfl,e2',by rw[j3];unfold keepI;rw[g9];show ks.length+1<64;left,λ ms pm pw ls J3 S3 f3 e3=>?_⟩
 rw[uJ ko.1 hk pm pw,← bH] at e3
 exact⟨ls,_,rfl,e3,λ t4 J4 S4 f4 e4=>q t4 J4 (S1.trans (S2.trans (S3.trans S4))) e4⟩
theorem uA (T:Bi mg)(D:DefOk K mg "way_of" s_way_of ["web","keep","tie"])(O_the_way:‹4› "the_way" ["web","keep","a","b"] (spWayU K)):‹5› "way_of" ["web","keep","tie"] (spWayOfU K):=by
 exists 4,sc_way_of
 obtain⟨n,ts,ks,wv,kv,k,rfl,wk,hkl,q⟩:=h
 have ok:=wk.2.1
 obtain⟨g0,g,ws,rfl,hg0,hg,hall,hlw⟩:=bD wk.1
 obtain⟨ta,hta,htie⟩:=cJ hall hkl
 have tk:=ok.tie _ (aY hkl).2
 refine⟨_,(aE (bE (aK aW (aK aW (pv 0) aC (λ _ _=>rfl)) (pv 2) (λ _ _=>rfl)) (bQ (n:=3) rfl (aS (aL (i:=3) nd rfl (v8 rfl)) (aS (aL (i:=4) nd rfl (v8 rfl)) (aS (aL (i:=5) nd rfl (v8 rfl)) bK))))) (aF (aI (aG O_the_way hr rfl (aA (pv 0) (aA (pv 1) (aA (pv 3) (aA (pv 4) aB)))))))),?_⟩
 refine⟨_,rfl,g0,_,_,_,rfl,rfl,SqT.of hg0,rfl,_,rfl,g,_,_,_,rfl,rfl,SqT.of hg,bO (uat _) hta,ta,_,rfl,SqT.of htie,rfl,_,_,rfl,_,_,rfl,_,_,rfl,rfl,?_⟩
 exact⟨_,rfl,_,rfl,_,rfl,_,rfl,n,ts,ks,_,kv,_,_,rfl,wk,by left,by left,by left,by left,λ v J S hv=>q v J S hv⟩
theorem qL (T:Bi mg)(D:DefOk K mg "heights_of" s_heights_of ["web","keep","tie","t"])(O_heights_from:‹4› "heights_from" ["web","keep","a","roof"] (spHFrom K)):‹5› "heights_of" ["web","keep","tie","t"] (spHOfD K):=by
 exists 4,sc_heights_of
 obtain⟨n,ts,ks,wv,kv,k,t,rfl,wk,hkl,t1,t99,q⟩:=h
 have ok:=wk.2.1
 obtain⟨g0,g,ws,rfl,hg0,hg,hall,hlw⟩:=bD wk.1
 obtain⟨ta,hta,htie⟩:=cJ hall hkl
 have tk:=ok.tie _ (aY hkl).2
 refine⟨_,(aE (bE (aK aW (aK aW (pv 0) aC (λ _ _=>rfl)) (pv 2) (λ _ _=>rfl)) (bQ (n:=3) rfl (aS (aL (i:=4) nd rfl (v8 rfl)) (aS (aL (i:=5) nd rfl (v8 rfl)) (aS (aL (i:=6) nd rfl (v8 rfl)) bK))))) (aF (aI (aG O_heights_from hr rfl (aA (pv 0) (aA (pv 1) (aA (pv 4) (aA (aJ bT (aJ dQ (pv 3) (pv 6)) aC) aB)))))))),?_⟩
 refine⟨_,rfl,g0,_,_,_,rfl,rfl,SqT.of hg0,rfl,_,rfl,g,_,_,_,rfl,rfl,SqT.of hg,bO (uat _) hta,ta,_,rfl,SqT.of htie,rfl,_,_,rfl,_,_,rfl,_,_,rfl,rfl,?_⟩
 refine⟨_,rfl,_,rfl,_,rfl,_,rfl,_,rfl,_,_,rfl,rfl,.inl ⟨by left,by left⟩,_,_,rfl,rfl,n,ts,ks,_,kv,_,_,rfl,wk,by left,by left,λ p DD J S e lD hD=>q p DD J S e lD hD⟩
theorem rS (T:Bi mg)(D:DefOk K mg "reason_of" s_reason_of ["web","keep","tie","t"])(O_way_of:‹5› "way_of" ["web","keep","tie"] (spWayOfU K))(O_is_within:‹5› "is_within" ["web","tie","t","way"] (spWithin K))(O_heights_of:‹5› "heights_of" ["web","keep","tie","t"] (spHOfD K)):‹6› "reason_of" ["web","keep","tie","t"] (spReason K):=by
 exists 5,sc_reason_of
 obtain⟨n,ts,ks,wv,kv,k,t,rfl,wk,hkl,t1,t99,q⟩:=h
 have ok:=wk.2.1
 have ko:=wk.2.2.2
 refine⟨_,(aE (aO (i:=4) nd rfl (v8 rfl) (aG O_way_of hr rfl (aA (pv 0) (aA (pv 1) (aA (pv 2) aB))))) (aE (aV (bP (aG O_is_within hr rfl (aA (pv 0) (aA (pv 2) (aA (pv 3) (aA (pv 4) aB)))))) (aF (aI (aZ (aA dP (aA (pv 4) aB))))) aU) (aF (aI (aZ (aA dP (aA (aG O_heights_of hr rfl (aA (pv 0) (aA (pv 1) (aA (pv 2) (aA (pv 3) aB))))) aB))))))),?_⟩
 refine⟨_,rfl,_,rfl,_,rfl,n,ts,ks,wv,kv,k,rfl,wk,hkl,λ v J4 S4 hv=>?_⟩
 have wk4:=wk.same S4
 refine⟨_,rfl,_,rfl,_,rfl,_,rfl,n,ts,ks,wv,k,t,v,rfl,wk4.1,ok,ko,hkl,t1,t99,oM hv,λ J5 S5=>⟨_,rfl,ite2 (λ c=>?_) (λ c=>?_)⟩⟩
 ·refine⟨_,rfl,(by show 2<=1000;decide),λ p J6 S6 f6 e6=>q _ J6 (S4.trans (S5.trans S6)) ⟨p,_,_,rfl,e6,?_,?_⟩⟩
  ·rw[ugc (show wiB ts t ks k=true from c)]
  ·rcases hv with ⟨_,hd⟩ | ⟨tt,ws,S,x,y,rfl,ht,l24,u,d⟩
   ·have c':withinB t (tieAt ts k).2.2 (gO ts ks k)=true:=c
    rw[gJ hd] at c';cases c'
   ·exact⟨tt,keepI ws,rfl,by rw[← bH];exact S6 _ _ (S5 _ _ ht),.inl ⟨c,ws,S,x,y,rfl,l24,u,d⟩⟩
 ·refine⟨_,rfl,_,rfl,_,rfl,_,rfl,n,ts,ks,wv,kv,k,t,rfl,wk4.same S5,hkl,t1,t99,λ p DD J6 S6 e6 lD hD=>?_⟩
  refine⟨(by show 2<=1000;decide),λ pp J7 S7 f7 e7=>q _ J7 (S4.trans (S5.trans (S6.trans S7))) ⟨pp,_,_,rfl,e7,?_,p,_,rfl,S7 _ _ e6,.inr ⟨ubq.mpr c,DD,rfl,lD,hD⟩⟩⟩
  rw[ugd (show ¬ wiB ts t ks k=true from c)]
theorem RsnV.same {H H':Hp}{n:Int}{ts:List Tie}{t:Int}{ks:List Nat}{k:Nat}{v:V}(h:RsnV H n ts t ks k v)(S:Same H H'):RsnV H' n ts t ks k v:=let ⟨p,x,u,e,h1,h2,q,is,e3,h3,h4⟩:=h;⟨p,x,u,e,S _ _ h1,h2,q,is,e3,S _ _ h3,h4⟩
theorem RsnV.but {H H':Hp}{l:j7}{xs:List V}{n:Int}{ts:List Tie}{t:Int}{ks:List Nat}{k:Nat}{v:V}(h:RsnV H n ts t ks k v)(S:But l H H')(hl:H l=some (.lst xs)):RsnV H' n ts t ks k v:=let ⟨p,x,u,e,h1,h2,q,is,e3,h3,h4⟩:=h;⟨p,x,u,e,S _ _ (λ z=>by rw[z,hl] at h1;cases h1) h1,h2,q,is,e3,S _ _ (λ z=>by rw[z,hl] at h3;cases h3) h3,h4⟩
theorem fP {H:Hp}{p:j7}{ks:List Nat}(h:H p=some (.tup (natV ks))):Is K H (keepD ks) (.ref p):=by
 rw[bH] at h
 exact⟨p,_,rfl,h,IsAll.ints _⟩
def spRuledL (n:Int)(ts:List Tie)(t:Int)(qual:Str)(L:Arguments × ua9 × ucd × Pos)(cl:List (Str × j7))(tb:TE):List V->List V->Hp->VK->Prop:=λ vys vs H Q=>∃ (kp o f c':j7)(pm ctv:d7)(ks os:List Nat),vs=[.ref kp,.ref o,.str "heights",.ref f]/\H kp=some (.tup (natV ks))/\KeepOk ts.length ks/\ts.length<=60/\H o=some (.tup (natV os))/\os.Nodup/\os.length<=60/\(∀ k∈os,k<ts.length/\k∉ks) /\
 H f=some (.ext λ g=>g.get? f=some (uah "<lambda>" qual L.1 L.2.1 L.2.2.1 cl pm c' ctv))/\H c'=some (.ext λ g=>g.CodeRec (.ref c') qual) /\
 (∀ (i k:Nat)(kq:j7)(H':Hp)(Q':VK),os[i]?=some k->Same H H'->H' kq=some (.tup (natV (ruleN ts t ks (os.take i))))->(∀ v H'',Same H' H''->RsnV H'' n ts t (ruleN ts t ks (os.take i)) k v->Q' v H'')->tb ([some (.ref kq),some (.int (k:Int))]++vys.map some) H' Q') /\
 ∀ p kp' rp xs H',Same H H'->H p=none->H' p=some (.tup [.ref kp',.ref rp])->H' kp'=some (.tup (natV (ruleN ts t ks os)))->H' rp=some (.tup xs)->xs.length=os.length->(∀ i k x,os[i]?=some k->xs[i]?=some x->RsnV H' n ts t (ruleN ts t ks (os.take i)) k x)->Q (.ref p) H'
theorem vC {n:Int}{ts:List Tie}{t:Int}{qual:Str}{L:Arguments × ua9 × ucd × Pos}{cl:List (Str × j7)}{tb:TE}{ys:List Str}(T:Bi mg)(D:DefOk K mg "ruled" s_ruled ["keep","ties","word","reason_for"])(O_with_tie:‹7› "with_tie" ["keep","tie"] (spWithT K))(LS:LamScG ["ahead","tie"] ys L.2.2.1)
  (hBind0:∀ (pm ctv:d7)(c':j7)(us:List d7),us.length=(["ahead","tie"]:List Str).length->bindArgs (udt "<lambda>" qual L.1 L.2.1 L.2.2.1 cl pm (.ref c') ctv) ⟨us,[]⟩=pure ((["ahead","tie"]:List Str).zip us))
  (hBody0:∀ (A:v7)(outer:List Env)(s:d8)(H:Hp)(f c':j7),Room 6 (A.deeper (ue2 qual L.2.2.1 s.heap.objs.size f (.ref c') cl))->PE (cxL P w K mg base ((["ahead","tie"]:List Str)++ys) qual L.2.2.1 f (.ref c') cl A outer s H) L.2.1 tb) :
  ∃ F:j7,mg "ruled"=some (.ref F)/\ua6 K (.ref F)=true/\∀ (A:v7)(outer:List Env)(s:d8)(H:Hp)(us uys:List d7)(vs vys:List V)(Q:VK),Room 8 A->Env0 P w K mg base A outer s H->Vals vs us->Clo H s.heap ys cl uys->Vals vys uys->spRuledL n ts t qual L cl tb vys vs H Q ->
   codeAny (z9 P w) A (.call (.ref F) ⟨us,[]⟩) (CR CX0 outer P w H s Q E0) s:=by
 obtain⟨f0,fd,F,b,m⟩:=D
 refine⟨f0,m,F.kp,λ A outer s H us uys vs vys Q hrA e0 rv hClo hVys h=>?_⟩
 obtain⟨kp,o,f,c',pm,ctv,ks,os,rfl,hkp0,kok0,m60,ho,ndo,lo60,hos,hf,hc',rd,q⟩:=h
 have lus:us.length=4:=rv.length.symm
 have bnd:=b s us (e0.mod.kin.keeps λ b o e=>(e0.bs b o e).1) (by rw[ubi];exact lus)
 rw[ubi] at bnd
 refine za0 (k:=7) F sc_ruled hrA e0 bnd rv rfl λ cdv hr=>?_
 have nd:=sc_ruled.nd
 have hBind:=hBind0 pm ctv c'
 have hBody:=λ (s':d8) (H':Hp)=>hBody0 (A.deeper (envOfC "ruled" (defScope s_ruled) s.heap.objs.size f0 cdv)) (envOfC "ruled" (defScope s_ruled) s.heap.objs.size f0 cdv::outer) s' H' f c' (hr.deeper _)
 have lv:(natV os).length=os.length:=by unfold natV;rw[g9]
 refine⟨_,(aE (aO (i:=4) nd rfl (v8 rfl) (bZ aB)) (aE (cC PassesOwn.never rfl (cZ (pv 1)) (aL (i:=5) nd rfl (v8 rfl)) (aE (aO (i:=6) nd rfl (v8 rfl) (zQ (i:=3) LS hr rfl hClo hVys rfl (v8 rfl) (aA (pv 0) (aA (pv 5) aB)) hBind hBody)) (aE (aV (aR aX (aK aW (pv 6) aC (λ _ _=>rfl)) (pv 2) (nomark _)) (aF (aO (i:=0) nd rfl (v8 rfl) (aG O_with_tie hr rfl (aA (pv 0) (aA (pv 5) aB))))) aU) (aF (bI (dS ubn ub1 ub0 gN (pv 4) (aA (pv 6) aB))))))) (aF (aI (aZ (aA (pv 0) (aA (bA cG rfl T.z_tuple (by symm) (aA (pv 4) aB)) aB))))))),?_⟩
 refine⟨(by show 0<=1000;decide),λ lr J1 S1 f1 e1=>?_⟩
 have fr:H lr=none:=f1
 refine⟨_,rfl,o,rfl,⟨_,SqT.of (S1 _ _ ho)⟩,?_⟩
 refine gA (xs:=natV os) (λ i σ J=>∃ (kp':j7)(xs:List V)(y5 y6:Option V),σ=[some (.ref kp'),some (.ref o),some (.str "heights"),some (.ref f),some (.ref lr),y5,y6]/\Same H J/\J kp'=some (.tup (natV (ruleN ts t ks (os.take i))))/\J lr=some (.lst xs)/\xs.length=i/\∀ j k x,j<i->os[j]?=some k->xs[j]?=some x->RsnV J n ts t (ruleN ts t ks (os.take j)) k x) ⟨kp,[],none,none,rfl,S1,S1 _ _ hkp0,e1,rfl,λ j k x h=>by left⟩ (λ i σ J _ h=>?_) (λ i x σ J hx h=>?_) (λ σ J h=>?_)
 ·obtain⟨kp',xs,y5,y6,rfl,sm,_⟩:=h
  exact SqT.of (sm _ _ ho)
 ·obtain⟨kp',xs,y5,y6,rfl,sm,hkp,hlr,lx,rs⟩:=h
  obtain⟨k,hk,rfl⟩:=dB hx
  have hkm:=m3 hk
  have ih:=i8.mp hk
  have hkl:=(hos k hkm).1
  have kok:KeepOk ts.length (ruleN ts t ks (os.take i)):=eK kok0 λ j hj=>(hos j (udl hj)).1
  have hkn:k∉ruleN ts t ks (os.take i):=λ z=>by
   rcases lN z with z | z
   ·exact (hos k hkm).2 z
   ·have e:os=os.take i++k::os.drop (i+1):=by
     have:=(uc8 i os).symm
     rw[ucp ih.1,ih.2] at this
     exact this
    rw[e] at ndo
    exact (uba.mp ndo).2.2 k z k i0 rfl
  refine⟨rfl,_,rfl,_,rfl,rfl,sm _ _ hf,sm _ _ hc',?_⟩
  refine rd i k kp' J _ hk sm hkp λ v J4 S4 hv=>?_
  obtain⟨pr,xr,ur,rfl,hpr,exr,_⟩:=id hv
  have tn:ruleN ts t ks (os.take (i+1))=(if wiB ts t (ruleN ts t ks (os.take i)) k=true then ruleN ts t ks (os.take i) else insN (ruleN ts t ks (os.take i)) k):=by rw[dG hk];exact kG
  have hlr4:=S4 _ _ hlr
  have il:i<os.length:=ih.1
  have fin:∀ (kp':j7)(J5 J6:Hp),Same J4 J5->J5 kp'=some (.tup (natV (ruleN ts t ks (os.take (i+1)))))->But lr J5 J6->J6 lr=some (.lst (xs++[.ref pr]))->Same H J6/\J6 kp'=some (.tup (natV (ruleN ts t ks (os.take (i+1)))))/\J6 lr=some (.lst (xs++[.ref pr]))/\(xs++[V.ref pr]).length=i+1/\∀ j k x,j<i+1->os[j]?=some k->(xs++[V.ref pr])[j]?=some x->RsnV J6 n ts t (ruleN ts t ks (os.take j)) k x:=by
   intro kp' J5 J6 S5 e5 b6 e6
   have hlr5:=S5 _ _ hlr4
   refine⟨λ b o' e=>b6 _ _ (aT e fr) ((sm.trans (S4.trans S5)) _ _ e),b6 _ _ (λ z=>by rw[z,hlr5] at e5;cases e5) e5,e6,by rw[j3,lx];rfl,λ j k' x hj h1 h2=>?_⟩
   by_cases z:j<i
   ·rw[r6 (by left)] at h2
    exact ((rs j k' x z h1 h2).same (S4.trans S5)).but b6 hlr5
   ·have:j=i:=by left
    subst this
    rw[hk] at h1
    cases h1
    rw[p5 (by left),lx,ud1] at h2
    cases h2
    exact (hv.same S5).but b6 hlr5
  refine⟨_,rfl,pr,_,_,_,rfl,rfl,SqT.of hpr,rfl,_,rfl,rfl,_,rfl,?_⟩
  by_cases c:wiB ts t (ruleN ts t ks (os.take i)) k=true
  ·rw[ugc c] at exr tn
   subst exr
   rw[ugb (λ z=>by cases z)]
   refine iteF ?_
   refine⟨_,rfl,.inl ⟨rfl,_,SqL.of hlr4⟩,_,rfl,lr,_,_,rfl,rfl,hlr4,by left,λ J6 b6 e6=>?_⟩
   obtain⟨h1,h2,h3,h4,h5⟩:=fin kp' J4 J6 (Same.refl _) (by rw[tn];exact S4 _ _ hkp) b6 e6
   exact⟨kp',_,_,_,rfl,h1,h2,h3,h4,h5⟩
  ·rw[ugd c] at exr tn
   subst exr
   rw[uf9 rfl]
   refine iteT ?_
   refine⟨_,rfl,_,rfl,ts.length,_,kp',k,rfl,S4 _ _ hkp,kok,m60,hkn,λ kq J5 S5 e5=>?_⟩
   have hlr5:=S5 _ _ hlr4
   refine⟨_,rfl,.inl ⟨rfl,_,SqL.of hlr5⟩,_,rfl,lr,_,_,rfl,rfl,hlr5,by left,λ J6 b6 e6=>?_⟩
   obtain⟨h1,h2,h3,h4,h5⟩:=fin kq J5 J6 S5 (by rw[tn];exact e5) b6 e6
   exact⟨kq,_,_,_,rfl,h1,h2,h3,h4,h5⟩
 ·obtain⟨kp',xs,y5,y6,rfl,sm,hkp,hlr,lx,rs⟩:=h
  rw[lv,udc] at hkp
  refine⟨_,rfl,_,rfl,lr,_,rfl,hlr,λ rp J4 S4 f4 e4=>⟨(by show 2<=1000;decide),λ p J5 S5 f5 e5=>q p kp' rp xs J5 (sm.trans (S4.trans S5)) ((sm.trans S4).free f5) e5 ((S4.trans S5) _ _ hkp) (S5 _ _ e4) (by left) λ i k x h1 h2=>(rs i k x ?_ h1 h2).same (S4.trans S5)⟩⟩
  have:=(i8.mp h1).1
  left
def lam4:ubv->Option (Arguments × ua9 × ucd × Pos)
 | .Return (some (.Call _ [_,_,_,.Lambda a b sc p] _ _)) _=>some (a,b,sc,p)
 | _=>none
def lam4Of (st:ubv):Arguments × ua9 × ucd × Pos:=match defBody st with
 | [r]=>(lam4 r).getD (defArgs st,.Name "" ⟨0,0,0,0⟩,defScope st,⟨0,0,0,0⟩)
 | _=>(defArgs st,.Name "" ⟨0,0,0,0⟩,defScope st,⟨0,0,0,0⟩)
abbrev lamQB:Str:=("ruled_behind"++".<locals>.")++"<lambda>"
theorem uI:LamScG ["ahead","tie"] ["web","t"] (lam4Of s_ruled_behind).2.2.1:=⟨rfl,rfl,rfl,by symm,by symm,by symm,λ z h=>(show ∀ z∈(lam4Of s_ruled_behind).2.2.1.names,z.2=NameKind.free->z.1∈([u7 "web",u7 "t"]:List Str) by symm) _ (uae h) rfl,by symm,by symm⟩
def spRuledB (K:a8)(Pt:j7)(lp:Pos):Sp:=λ vs H Q _=>∃ (n:Int)(ts:List Tie)(ks os:List Nat)(wv:V)(kp o:j7)(t:Int),vs=[wv,.ref kp,.ref o,.int t]/\Is K H (webD n ts) wv/\WebOk n ts/\H kp=some (.tup (natV ks))/\KeepOk ts.length ks/\H o=some (.tup (natV os))/\os.Nodup/\os.length<=60/\(∀ k∈os,k<ts.length/\k∉ks)/\1<=t/\t<=99/\Tb Pt lp lamQB H /\
 ∀ p kp' rp xs H',But Pt H H'->Tf Pt lp lamQB H'->(Tf Pt lp lamQB H->Same H H')->H' p=some (.tup [.ref kp',.ref rp])->H' kp'=some (.tup (natV (ruleN ts t ks os)))->H' rp=some (.tup xs)->xs.length=os.length->(∀ i k x,os[i]?=some k->xs[i]?=some x->RsnV H' n ts t (ruleN ts t ks (os.take i)) k x)->Q (.ref p) H'
theorem pV {c Pt:j7}(T:Bi mg)(D:DefOkC K mg "ruled_behind" s_ruled_behind ["web","keep","ties","t"] c)(hL:LamHd mg base c Pt)(D_ruled:DefOk K mg "ruled" s_ruled ["keep","ties","word","reason_for"])(O_with_tie:‹7› "with_tie" ["keep","tie"] (spWithT K))(O_reason_of:‹6› "reason_of" ["web","keep","tie","t"] (spReason K)):‹9› "ruled_behind" ["web","keep","ties","t"] (spRuledB K Pt (lam4Of s_ruled_behind).2.2.2):=by
 refine iV (k:=8) D sc_ruled_behind (λ vs H Q E h=>?_) (λ f A outer s H vs Q E hr h=>?_)
 ·obtain⟨n,ts,ks,os,wv,kp,o,t,rfl,_⟩:=h
  rfl
 obtain⟨n,ts,ks,os,wv,kp,o,t,rfl,hw,ok,hkp,kok,ho,ndo,lo,hos,t1,t99,tb,q⟩:=h
 have nd:=sc_ruled_behind.nd
 obtain⟨F,hMg,hKp,run⟩:=vC (P:=P) (w:=w) (K:=K) (mg:=mg) (base:=base) (n:=n) (ts:=ts) (t:=t) (qual:=lamQB) (L:=lam4Of s_ruled_behind) (cl:=[("web",s.heap.objs.size+1),("t",s.heap.objs.size+2)]) (ys:=["web","t"]) T D_ruled O_with_tie uI (λ pm ctv c' us hl=>match us,hl with | [_,_],_=>rfl)
  (λ A' outer' s' H' f' c' hr'=>aG O_reason_of hr' rfl (aA (pv 2) (aA (pv 0) (aA (pv 1) (aA (pv 3) aB)))))
 have hRun:=λ (s':d8) (H':Hp) (us uys:List d7) (vs vys:List V) (Q:VK)=>run (A.deeper (envOfC "ruled_behind" (defScope s_ruled_behind) s.heap.objs.size f (.ref c))) (envOfC "ruled_behind" (defScope s_ruled_behind) s.heap.objs.size f (.ref c)::outer) s' H' us uys vs vys Q hr
 have hUn:(([("web",s.heap.objs.size+1),("t",s.heap.objs.size+2)]:List (Str × j7)).map (·.2)).Nodup:=by
  show [s.heap.objs.size+1,s.heap.objs.size+2].Nodup
  simp
 refine⟨_,(aF (aI (wZ (ix:=[0,3]) rfl hMg hKp (aA (pv 1) (aA (pv 2) (aA dP (aA (oR hL rfl rfl) aB)))) hRun rfl hUn rfl (λ j y c h=>match j,h with
  | 0,h=>by cases h;exact⟨rfl,rfl,0,rfl,rfl⟩
  | 1,h=>by cases h;exact⟨rfl,rfl,3,rfl,rfl⟩
  | j+2,h=>by cases h)))),?_⟩
 refine⟨_,rfl,_,rfl,tb,λ f1 c' pm ctv J1 b1 T1 sm1 ff hf hc'=>?_⟩
 have nt:∀ {b:j7}{xs:List V},H b=some (.tup xs)->J1 b=some (.tup xs):=λ e=>b1 _ _ (λ z=>by
  obtain⟨ps,e',_⟩:=tb
  rw[z,e'] at e;cases e) e
 refine⟨[wv,.int t],rfl,λ j i v h1 h2=>?_,kp,o,f1,c',pm,ctv,ks,os,rfl,nt hkp,kok,ok.few,nt ho,ndo,lo,hos,hf,hc',λ i k kq H' Q' hk S' hkq q'=>?_,λ p kp' rp xs H' S' fp hp hkp' hrp lx rs=>?_⟩
 ·match j,h1,h2 with
  | 0,h1,h2=>cases h1;cases h2;rfl
  | 1,h1,h2=>cases h1;cases h2;rfl
  | j+2,h1,h2=>cases h2
 ·refine⟨_,rfl,_,rfl,_,rfl,_,rfl,n,ts,_,wv,.ref kq,k,t,rfl,⟨Is.same S' _ (mI b1 tb _ (cI n ts) hw),ok,fP hkq,eK kok λ j hj=>(hos j (udl hj)).1⟩,(hos k (m3 hk)).1,t1,t99,λ v H'' S'' hv=>q' v H'' S'' hv⟩
 ·exact q p kp' rp xs H' (b1.trans (Same.but S')) (T1.same S') (λ z=>(sm1 z).trans S') hp hkp' hrp lx rs
abbrev Bt2 (p q:j7)(H H':Hp):Prop:=∀ b o,b≠p->b≠q->H b=some o->H' b=some o
theorem dN {p q:j7}{H H':Hp}{lp:Pos}{qn:Str}{lp':Pos}{qn':Str}(h:Tb q lp qn H)(b:But p H H')(t:Tb p lp' qn' H)(ne:q≠p):Tb q lp qn H':=by
 obtain⟨ps,e,r⟩:=h
 obtain⟨ps',e',_⟩:=t
 refine⟨ps,b _ _ ne e,r.imp id λ ⟨c',e1,e2⟩=>⟨c',e1,b _ _ (λ z=>by rw[z,e'] at e2;cases e2) e2⟩⟩
def spRing (K:a8)(p q:j7)(lp lq:Pos):Sp:=λ vs H Q _=>∃ n ts wv,∃ t:Int,vs=[wv,.int t]/\Is K H (webD n ts) wv/\WebOk n ts/\1<=t/\t<=99/\q≠p/\Tb p lp lamQ H/\Tb q lq lamQB H /\
 ∀ r kp rp xs os H',OrdOk ts os->Bt2 p q H H'->Tb p lp lamQ H'->Tb q lq lamQB H'->H' r=some (.tup [.ref kp,.ref rp])->H' kp=some (.tup (natV (ruleN ts t [] os)))->H' rp=some (.tup xs)->xs.length=os.length->(∀ i k x,os[i]?=some k->xs[i]?=some x->RsnV H' n ts t (ruleN ts t [] (os.take i)) k x)->Q (.ref r) H'
theorem rR {Pt Pq:j7}(T:Bi mg)(D:DefOk K mg "ring_rule" s_ring_rule ["web","t"])(O_need_times:‹9› "need_times" ["t"] (spNeed K))(O_order_of:‹9› "order_of" ["web"] (spOrd K Pt (lamPosOf s_order_of)))(O_ruled_behind:‹9› "ruled_behind" ["web","keep","ties","t"] (spRuledB K Pq (lam4Of s_ruled_behind).2.2.2)):‹10› "ring_rule" ["web","t"] (spRing K Pt Pq (lamPosOf s_order_of) (lam4Of s_ruled_behind).2.2.2):=by
 exists 9,sc_ring_rule
 obtain⟨n,ts,wv,t,rfl,hw,ok,t1,t99,npq,tp,tq,q⟩:=h
 have few60:=ok.few
 refine⟨_,(aE (bI (aG O_need_times hr rfl (aA (pv 1) aB))) (aF (aI (aG O_ruled_behind hr rfl (aA (pv 0) (aA (aZ aB) (aA (aG O_order_of hr rfl (aA (pv 0) aB)) (aA (pv 1) aB)))))))),?_⟩
 refine⟨_,rfl,t,rfl,t1,t99,λ H1 S1=>?_⟩
 refine⟨_,rfl,(by show 0<=1000;decide),λ k0 J0 S0 f0 e0=>?_⟩
 have S10:=S1.trans S0
 have tp0:=tp.same S10
 have tq0:=tq.same S10
 have hw0:=Is.same S10 _ hw
 refine⟨_,rfl,n,ts,wv,rfl,hw0,ok,tp0,λ lo os J1 ord b1 tf1 sm1 f1 e1=>?_⟩
 have lo60:os.length<=60:=by rw[ord.1.length_eq,v6];exact few60
 have e0':J1 k0=some (.tup (natV [])):=b1 _ _ (λ z=>by obtain⟨_,e,_⟩:=tp0;rw[z,e] at e0;cases e0) e0
 have tq1:=dN tq0 b1 tp0 npq
 refine⟨_,rfl,n,ts,[],os,wv,k0,lo,t,rfl,mI b1 tp0 _ (cI n ts) hw0,ok,e0',⟨ub8,λ _ h=>(by cases h)⟩,e1,ord.1.nodup_iff.mpr udd,lo60,λ k hk=>⟨o6.mp (ord.1.mem_iff.mp hk),λ z=>by cases z⟩,t1,t99,tq1,λ r kp rp xs J2 b2 tf2 sm2 hp hkp hrp lx rs=>?_⟩
 exact q r kp rp xs os J2 ord (λ b o z1 z2 e=>b2 _ _ z2 (b1 _ _ z1 (S10 _ _ e))) (dN tf1.tb b2 tq1 (Ne.symm npq)) tf2.tb hp hkp hrp lx rs
def timesN:v9->Bool
 | .int t=>decide (1<=t)&&decide (t<=99)
 | _=>false
def OddV (K:a8)(H:Hp)(v:V):Prop:=(∃ d,Is K H d v/\timesN d=false)\/∃ p kvs,v=.ref p/\H p=some (.dK kvs)
theorem OddV.same {H H':Hp}{v:V}(h:OddV K H v)(s:Same H H'):OddV K H' v:=by
 rcases h with ⟨d,h,e⟩ | ⟨p,kvs,e,h⟩
 ·exact .inl ⟨d,Is.same s _ h,e⟩
 ·exact .inr ⟨p,kvs,e,s _ _ h⟩
def spWhO (K:a8):Sp:=λ vs H Q _=>∃ v,vs=[v]/\((∃ d,Is K H d v/\Q (.bl (wholeB d)) H)\/∃ p kvs,v=.ref p/\H p=some (.dK kvs)/\Q (.bl false) H)
theorem rC (T:Bi mg)(D:DefOk K mg "is_whole" s_is_whole ["thing"]):‹1› "is_whole" ["thing"] (spWhO K):=by
 exists 0,sc_is_whole
 obtain⟨v,rfl,h⟩:=h
 refine⟨_,(aF (aI (cD (aQ (dL (n:="int")) rfl T.z_isinstance (by symm) (aA (pv 0) (aA (cX (v:=.ty "int") rfl T.z_int (by symm) rfl) aB))) (bR (iT (aQ (dL (n:="bool")) rfl T.z_isinstance (by symm) (aA (pv 0) (aA (cX (v:=.ty "bool") rfl T.z_bool (by symm) rfl) aB)))))))),?_⟩
 rcases h with ⟨d,hd,q0⟩ | ⟨p,kvs,rfl,hp,q0⟩
 ·have ty:=jB hd
  cases d with
  | int i=>exact⟨_,rfl,_,_,_,rfl,ty,rfl,_,rfl,iteT ⟨_,rfl,_,_,_,rfl,ty,rfl,_,rfl,q0⟩⟩
  | bool b=>exact⟨_,rfl,_,_,_,rfl,ty,rfl,_,rfl,iteT ⟨_,rfl,_,_,_,rfl,ty,rfl,_,rfl,q0⟩⟩
  | none=>exact⟨_,rfl,_,_,_,rfl,ty,rfl,_,rfl,iteF q0⟩
  | str x=>exact⟨_,rfl,_,_,_,rfl,ty,rfl,_,rfl,iteF q0⟩
  | tuple ds=>exact⟨_,rfl,_,_,_,rfl,ty,rfl,_,rfl,iteF q0⟩
  | list ds=>exact⟨_,rfl,_,_,_,rfl,ty,rfl,_,rfl,iteF q0⟩
  | dict ds=>exact⟨_,rfl,_,_,_,rfl,ty,rfl,_,rfl,iteF q0⟩
 ·exact⟨_,rfl,_,_,_,rfl,TyOf.dK hp,rfl,_,rfl,iteF q0⟩
def spNoT (K:a8)(cT:j7):Sp:=λ vs H _ E=>∃ v,vs=[v]/\OddV K H v/\E (.ref cT) none H
theorem pY {cT:j7}(T:Bi mg)(D:DefOk K mg "need_times" s_need_times ["t"])(m_NoTimes:mg "NoTimes"=some (.ref cT))(xm_NoTimes:XM K cT)(O_is_whole:‹1› "is_whole" ["thing"] (spWhO K)):OkX P w K mg base 2 "need_times" ["t"] (spNoT K cT):=by
 refine dR (k:=1) D sc_need_times (λ vs H Q E h=>?_) (λ f cdv A outer s H vs Q E hr h=>?_)
 ·obtain⟨v,rfl,_⟩:=h
  rfl
 obtain⟨v,rfl,hd,q⟩:=h
 have nd:=sc_need_times.nd
 refine⟨_,(aF (aV (PW.pt (dF (cB (bP (aG O_is_whole hr rfl (aA (pv 0) aB)))) (cY (cB (lS eU eU aC (pv 0) aC))))) (aF (wV hr.hd rfl m_NoTimes xm_NoTimes)) aU)),?_⟩
 rcases hd with ⟨d,hd,e⟩ | ⟨p,kvs,rfl,hp⟩
 ·refine⟨_,rfl,_,rfl,.inl ⟨d,hd,_,rfl,?_⟩⟩
  cases d with
  | int t =>
   refine iteF ?_
   cases hd
   refine⟨_,rfl,_,_,rfl,rfl,_,rfl,?_⟩
   by_cases c1:(1:Int)<=t
   ·rw[uf9 c1]
    refine iteT ⟨_,_,rfl,rfl,_,rfl,?_⟩
    by_cases c2:t<=99
    ·have:(decide (1<=t)&&decide (t<=99))=false:=e
     rw[uf9 c1,uf9 c2] at this
     cases this
    ·rw[ugb c2]
     exact iteT q
   ·rw[ugb c1]
    exact iteF ⟨_,rfl,iteT q⟩
  | _=>exact iteT q
 ·exact⟨_,rfl,_,rfl,.inr ⟨p,kvs,rfl,hp,_,rfl,iteT q⟩⟩
def spNoT2 (K:a8)(cT:j7):Sp:=λ vs H _ E=>∃ a v,vs=[a,v]/\OddV K H v/\E (.ref cT) none H
def spNoTm (K:a8)(cT:j7):Sp:=λ vs H _ E=>∃ a v c,vs=[a,v,c]/\OddV K H v/\E (.ref cT) none H
def spNoT3 (K:a8)(cT:j7):Sp:=λ vs H _ E=>∃ a b v,vs=[a,b,v]/\OddV K H v/\E (.ref cT) none H
theorem DefOkC.ok30 {x:Str}{st:ubv}{ps:List Str}{c:j7}(D:DefOkC K mg x st ps c):DefOk K mg x st ps:=let ⟨f,_,_,_,_,_,_,_,_,_,rfl,lk,hcd,kp,b,m⟩:=D;⟨f,_,gF lk hcd kp,b,m⟩
theorem pX {cT:j7}(T:Bi mg)(D:DefOk K mg "ring_rule" s_ring_rule ["web","t"])(O_need_times:OkX P w K mg base 2 "need_times" ["t"] (spNoT K cT)):OkX P w K mg base 3 "ring_rule" ["web","t"] (spNoT2 K cT):=by
 refine dR (k:=2) D sc_ring_rule (λ vs H Q E h=>?_) (λ f cdv A outer s H vs Q E hr h=>?_)
 ·obtain⟨a,v,rfl,_⟩:=h
  rfl
 obtain⟨a,v,rfl,hd,q⟩:=h
 have nd:=sc_ring_rule.nd
 refine⟨_,(aE (bI (cO O_need_times hr rfl (aA (pv 1) aB))) dY),?_⟩
 exact⟨_,rfl,_,rfl,hd,q⟩
theorem pN {cT:j7}(T:Bi mg)(D:DefOk K mg "rule_right" s_rule_right ["web","t","told"])(O_need_times:OkX P w K mg base 2 "need_times" ["t"] (spNoT K cT)):OkX P w K mg base 3 "rule_right" ["web","t","told"] (spNoTm K cT):=by
 refine dR (k:=2) D sc_rule_right (λ vs H Q E h=>?_) (λ f cdv A outer s H vs Q E hr h=>?_)
 ·obtain⟨a,v,c,rfl,_⟩:=h
  rfl
 obtain⟨a,v,c,rfl,hd,q⟩:=h
 have nd:=sc_rule_right.nd
 refine⟨_,(aE (bI (cO O_need_times hr rfl (aA (pv 1) aB))) dY),?_⟩
 exact⟨_,rfl,_,rfl,hd,q⟩
theorem qZ {cT:j7}(T:Bi mg)(D:DefOk K mg "rule_in" s_rule_in ["web","order","t"])(O_need_times:OkX P w K mg base 2 "need_times" ["t"] (spNoT K cT)):OkX P w K mg base 3 "rule_in" ["web","order","t"] (spNoT3 K cT):=by
 refine dR (k:=2) D sc_rule_in (λ vs H Q E h=>?_) (λ f cdv A outer s H vs Q E hr h=>?_)
 ·obtain⟨a,b,v,rfl,_⟩:=h
  rfl
 obtain⟨a,b,v,rfl,hd,q⟩:=h
 have nd:=sc_rule_in.nd
 refine⟨_,(aE (bI (cO O_need_times hr rfl (aA (pv 2) aB))) dY),?_⟩
 exact⟨_,rfl,_,rfl,hd,q⟩
theorem rT {cT:j7}(T:Bi mg)(D:DefOk K mg "needed" s_needed ["web","keep","t"])(O_need_times:OkX P w K mg base 2 "need_times" ["t"] (spNoT K cT)):OkX P w K mg base 3 "needed" ["web","keep","t"] (spNoT3 K cT):=by
 refine dR (k:=2) D sc_needed (λ vs H Q E h=>?_) (λ f cdv A outer s H vs Q E hr h=>?_)
 ·obtain⟨a,b,v,rfl,_⟩:=h
  rfl
 obtain⟨a,b,v,rfl,hd,q⟩:=h
 have nd:=sc_needed.nd
 refine⟨_,(aE (bI (cO O_need_times hr rfl (aA (pv 2) aB))) dY),?_⟩
 exact⟨_,rfl,_,rfl,hd,q⟩
def spTupN:Sp:=λ vs H Q _=>∃ (t:j7)(xs:List V)(m:Nat),vs=[.ref t,.int (m:Int)]/\H t=some (.tup xs)/\Q (.bl (decide (xs.length=m))) H
theorem pZ (T:Bi mg)(D:DefOk K mg "is_tuple_of" s_is_tuple_of ["thing","many"]):‹1› "is_tuple_of" ["thing","many"] spTupN:=by
 exists 0,sc_is_tuple_of
 obtain⟨t,xs,m,rfl,ht,q⟩:=h
 refine⟨_,(aF (aI (cD (aQ (dL (n:="tuple")) rfl T.z_isinstance (by symm) (aA (pv 0) (aA (cX (v:=.ty "tuple") rfl T.z_tuple (by symm) rfl) aB))) (bR (bB aX (aQ bW rfl T.z_len (by symm) (aA (pv 0) aB)) (pv 1) (nomark _)))))),?_⟩
 refine⟨_,rfl,_,_,_,rfl,TyOf.tup ht,rfl,_,rfl,iteT ?_⟩
 refine⟨_,rfl,t,_,rfl,.inr (SqT.of ht),_,rfl,rfl,?_⟩
 have e:decide (V.int ((xs.length:Nat):Int)=V.int (m:Int))=decide (xs.length=m):=by
  by_cases z:xs.length=m
  ·rw[uf9 z,uf9 (by rw[z])]
  ·rw[ugb z,ugb λ y=>z (by injection y with y;left)]
 rw[e]
 exact q
def spShk30 (K:a8)(Pt:j7):Sp:=λ vs H Q _=>∃ (n:Int)(ts:List Tie)(wv vf:V)(rp:j7),vs=[wv,.ref rp,vf]/\Is K H (webD n ts) wv/\WebOk n ts/\H rp=some (.tup [])/\Tb Pt (lamPosOf s_order_of) lamQ H/\∀ kp H',But Pt H H'->Tb Pt (lamPosOf s_order_of) lamQ H'->H' kp=some (.tup [])->Q (.ref kp) H'
theorem pU {Pt:j7}(T:Bi mg)(D:DefOk K mg "shown_keep" s_shown_keep ["web","reasons","verdict"])(O_order_of:‹4› "order_of" ["web"] (spOrd K Pt (lamPosOf s_order_of))):‹5› "shown_keep" ["web","reasons","verdict"] (spShk30 K Pt):=by
 exists 4,sc_shown_keep
 obtain⟨n,ts,wv,vf,rp,rfl,isw,ok,hrp,tb,q⟩:=h
 refine⟨_,(aE (aO (i:=3) nd rfl (v8 rfl) (aZ aB)) (aE (cC PassesOwn.never rfl (oP true true rfl T.z_zip (aA (aG O_order_of hr rfl (aA (pv 0) aB)) (aA (pv 1) aB))) (bQ (n:=2) rfl (aS (aL (i:=4) nd rfl (v8 rfl)) (aS (aL (i:=5) nd rfl (v8 rfl)) bK))) dY) (aF (aI (pv 3))))),?_⟩
 refine⟨(by show 0<=1000;decide),λ kp J1 S1 f1 e1=>?_⟩
 have t1:=tb.same S1
 refine⟨_,rfl,n,ts,wv,rfl,Is.same S1 _ isw,ok,t1,λ lo os J2 ord b2 tf2 sm2 fr2 e2=>?_⟩
 have nt:∀ {b:j7}{xs:List V},J1 b=some (.tup xs)->J2 b=some (.tup xs):=λ e=>b2 _ _ (λ z=>by obtain⟨_,e',_⟩:=t1;rw[z,e'] at e;cases e) e
 have hr2:=nt (S1 _ _ hrp)
 have hk2:=nt e1
 refine⟨_,rfl,lo,rp,rfl,⟨_,SqX.of (t:=true) e2⟩,⟨_,SqX.of (t:=true) hr2⟩,?_⟩
 refine xQ (t1:=true) (t2:=true) (xs:=natV os) (zs:=[]) (λ i σ J=>σ=[some wv,some (.ref rp),some vf,some (.ref kp),none,none,none]/\J=J2) ⟨rfl,rfl⟩ (λ i σ J h=>?_) (λ i x z U σ J hxi hzi hU h=>?_) (λ σ J h=>?_)
 ·obtain⟨rfl,rfl⟩:=h
  exact⟨SqX.of (t:=true) e2,SqX.of (t:=true) hr2⟩
 ·cases hzi
 ·obtain⟨rfl,rfl⟩:=h
  exact⟨_,rfl,q kp J ((Same.but S1).trans b2) tf2.tb hk2⟩
def rrB (ts:List Tie)(ks:List Nat):Bool:=decide (0=ts.length)&&ue3 (keepD ks) (keepD [])
def spRrr30 (K:a8)(Pt:j7):Sp:=λ vs H Q _=>∃ (n:Int)(ts:List Tie)(ks:List Nat)(wv kv vf:V)(p e:j7),vs=[wv,.ref p,vf]/\WK K H n ts ks wv kv/\H p=some (.tup [kv,.ref e])/\H e=some (.tup [])/\Tb Pt (lamPosOf s_order_of) lamQ H/\∀ H',But Pt H H'->Tb Pt (lamPosOf s_order_of) lamQ H'->Q (.bl (rrB ts ks)) H'
theorem pJ {Pt:j7}(T:Bi mg)(D:DefOk K mg "reasons_right" s_reasons_right ["web","told","verdict"])(O_is_tuple_of:‹5› "is_tuple_of" ["thing","many"] spTupN)(O_is_wholes:‹5› "is_wholes" ["thing"] (spD1 K few wholesB))(O_shown_keep:‹5› "shown_keep" ["web","reasons","verdict"] (spShk30 K Pt)):‹6› "reasons_right" ["web","told","verdict"] (spRrr30 K Pt):=by
 exists 5,sc_reasons_right
 obtain⟨n,ts,ks,wv,kv,vf,p,e,rfl,wk,hp,he,tb,q⟩:=h
 have units:∀ {x:Nat},x<=3->(A.deeper (envOfC "reasons_right" (defScope s_reasons_right) s.heap.objs.size f cdv)).units+x<cLine:=λ {x} hu=>by have:=hr.units;left
 have ok:=wk.2.1
 have ko:=wk.2.2.2
 have lks:=ko.len
 have few60:=ok.few
 obtain⟨g0,g,gs,rfl,hg0,hg,hall,hlw⟩:=bD wk.1
 obtain⟨kp,rfl,hkp⟩:=fA wk.2.2.1
 rw[← bH] at hkp
 refine⟨_,(aE (aV (cB (bP (aG O_is_tuple_of hr rfl (aA (pv 1) (aA aC aB))))) (aF (aI bU)) aU) (aE (bE (pv 1) (bQ (n:=2) rfl (aS (aL (i:=3) nd rfl (v8 rfl)) (aS (aL (i:=4) nd rfl (v8 rfl)) bK)))) (aE (aV (PW.pt (dF (cB (bP (aG O_is_wholes hr rfl (aA (pv 3) aB)))) (cY (cB (bP (aG O_is_tuple_of hr rfl (aA (pv 4) (aA (aQ bW rfl T.z_len (by symm) (aA (aK aW (pv 0) aC (λ _ _=>rfl)) aB)) aB)))))))) (aF (aI bU)) aU) (aF (aI (bB oU (pv 3) (aG O_shown_keep hr rfl (aA (pv 0) (aA (pv 4) (aA (pv 2) aB)))) (nomark _))))))),?_⟩
 refine⟨_,rfl,p,_,2,rfl,hp,_,rfl,iteF ?_⟩
 refine⟨_,rfl,p,_,rfl,SqT.of hp,rfl,_,_,rfl,_,_,rfl,rfl,?_⟩
 have ew:wholesB (keepD ks)=true:=by
  show ((keepI ks).map ucr).all wholeB=true
  rw[uet]
  exact uad.mpr λ _ _=>rfl
 have fk:few (keepD ks):=by
  show ((keepI ks).map ucr).length<=1000
  unfold keepI
  rw[g9,g9];left
 refine⟨_,rfl,keepD ks,_,rfl,wk.2.2.1,fk,λ J1 S1=>?_⟩
 rw[ew]
 refine⟨_,rfl,iteF ?_⟩
 refine⟨_,rfl,_,rfl,g0,_,_,_,rfl,rfl,SqT.of (S1 _ _ hg0),rfl,g,_,rfl,.inr (SqT.of (S1 _ _ hg)),e,[],gs.length,rfl,S1 _ _ he,_,rfl,?_⟩
 have lg:gs.length=ts.length:=hlw
 by_cases z:([]:List V).length=gs.length
 ·rw[uf9 z]
  refine iteF ?_
  refine⟨_,rfl,_,rfl,_,rfl,_,rfl,n,ts,.ref g0,vf,e,rfl,Is.same S1 _ wk.1,ok,S1 _ _ he,tb.same S1,λ kp2 J2 b2 t2 h2=>?_⟩
  have k2:J2 kp=some (.tup (natV ks)):=b2 _ _ (λ z=>by obtain⟨_,e',_⟩:=(tb.same S1);rw[← z,S1 _ _ hkp] at e';cases e') (S1 _ _ hkp)
  exact⟨keepD ks,keepD [],dZ k2,dZ h2,bV _,rfl,units (w6 (Nat.min_le_right _ _) (by decide)),(by have z':0=ts.length:=z.trans lg;have q2:=q J2 ((Same.but S1).trans b2) t2;rw[show rrB ts ks=ue3 (keepD ks) (keepD []) by unfold rrB;rw[uf9 z'];rfl] at q2;exact q2)⟩
 ·rw[ugb z]
  have z':¬ 0=ts.length:=λ y=>z (y.trans lg.symm)
  have q2:=q J1 (Same.but S1) (tb.same S1)
  rw[show rrB ts ks=false by unfold rrB;rw[ugb z'];rfl] at q2
  exact iteT q2
def lam3:ubv->Option (Arguments × ua9 × ucd × Pos)
 | .Return (some (.Call _ [_,_,.Lambda a b sc p] _ _)) _=>some (a,b,sc,p)
 | _=>none
def lam3Of (st:ubv):Arguments × ua9 × ucd × Pos:=match defBody st with
 | [_,r]=>(lam3 r).getD (defArgs st,.Name "" ⟨0,0,0,0⟩,defScope st,⟨0,0,0,0⟩)
 | _=>(defArgs st,.Name "" ⟨0,0,0,0⟩,defScope st,⟨0,0,0,0⟩)
abbrev lamQV:Str:=("rule_right"++".<locals>.")++"<lambda>"
def spRgt30 (K:a8)(p q:j7)(lq:Pos):Sp:=λ vs H Q _=>∃ (n:Int)(ts:List Tie)(ks:List Nat)(wv kv:V)(t:Int)(r e:j7),vs=[wv,.int t,.ref r]/\WK K H n ts ks wv kv/\1<=t/\t<=99/\H r=some (.tup [kv,.ref e])/\H e=some (.tup [])/\q≠p/\Tb p (lamPosOf s_order_of) lamQ H/\Tb q lq lamQV H/\∀ H',Bt2 p q H H'->Tb p (lamPosOf s_order_of) lamQ H'->Tb q lq lamQV H'->Q (.bl (rrB ts ks)) H'
theorem pW {c0 Pt Pv:j7}(T:Bi mg)(D:DefOkC K mg "rule_right" s_rule_right ["web","t","told"] c0)(hL:LamHd mg base c0 Pv)(O_need_times:‹6› "need_times" ["t"] (spNeed K))(O_reasons_right:‹6› "reasons_right" ["web","told","verdict"] (spRrr30 K Pt)):‹7› "rule_right" ["web","t","told"] (spRgt30 K Pt Pv (lam3Of s_rule_right).2.2.2):=by
 refine iV (k:=6) D sc_rule_right (λ vs H Q E h=>?_) (λ f A outer s H vs Q E hr h=>?_)
 ·obtain⟨n,ts,ks,wv,kv,t,r,e,rfl,_⟩:=h
  rfl
 obtain⟨n,ts,ks,wv,kv,t,r,e,rfl,wk,t1,t99,hr2,he,npq,tp,tq,q⟩:=h
 have nd:=sc_rule_right.nd
 refine⟨_,(aE (bI (aG O_need_times hr rfl (aA (pv 1) aB))) (aF (aI (aG O_reasons_right hr rfl (aA (pv 0) (aA (pv 2) (aA (oR hL rfl rfl) aB))))))),?_⟩
 refine⟨_,rfl,t,rfl,t1,t99,λ J1 S1=>?_⟩
 have tq1:=tq.same S1
 have tp1:=tp.same S1
 refine⟨_,rfl,_,rfl,tq1,λ fl c' pm ctv J2 b2 T2 sm2 ff hf hc'=>?_⟩
 have tp2:Tb Pt (lamPosOf s_order_of) lamQ J2:=dN tp1 b2 tq1 (Ne.symm npq)
 have nt:∀ {b:j7}{xs:List V},H b=some (.tup xs)->J2 b=some (.tup xs):=λ e=>b2 _ _ (λ z=>by obtain⟨_,e',_⟩:=tq;rw[z,e'] at e;cases e) (S1 _ _ e)
 have tk:TupKeep H J2:=λ b zs e=>nt e
 refine⟨n,ts,ks,wv,kv,.ref fl,r,e,rfl,⟨bF tk _ (cI n ts) wk.1,wk.2.1,bF tk _ (fM _) wk.2.2.1,wk.2.2.2⟩,nt hr2,nt he,tp2,λ J3 b3 tp3=>q J3 (λ x o z1 z2 e=>b3 _ _ z1 (b2 _ _ z2 (S1 _ _ e))) tp3 ?_⟩
 exact dN T2.tb b3 tp2 npq
theorem zA {K:a8}(vs:List V)(H:Hp)(Q:VK)(E:XK)(h:spWay K vs H Q E):spWayU K vs H Q E:=by
 obtain⟨n,ts,ks,wv,kv,a,b,e,wk,a0,a1,b0,b1,q⟩:=h
 exact⟨n,ts,ks,wv,kv,a,b,e,wk,a0,a1,b0,b1,λ v H' S h=>q v H' S (oM h)⟩
def spRuleIn (K:a8)(Pt:j7)(lp:Pos):Sp:=λ vs H Q _=>∃ n ts os wv,∃ (o:j7)(t:Int),vs=[wv,.ref o,.int t]/\Is K H (webD n ts) wv/\WebOk n ts/\H o=some (.tup (natV os))/\os.Perm (i6 ts.length)/\1<=t/\t<=99/\Tb Pt lp lamQB H /\
 ∀ kp H',But Pt H H'->Tf Pt lp lamQB H'->H' kp=some (.tup (natV (ruleN ts t [] os)))->Q (.ref kp) H'
theorem uB {Pt:j7}(T:Bi mg)(D:DefOk K mg "rule_in" s_rule_in ["web","order","t"])(O_need_times:‹9› "need_times" ["t"] (spNeed K))(O_is_wholes:‹9› "is_wholes" ["thing"] (spD1 K few wholesB))(O_whole:‹9› "whole" ["web"] (spWhole K))(O_ruled_behind:‹9› "ruled_behind" ["web","keep","ties","t"] (spRuledB K Pt (lam4Of s_ruled_behind).2.2.2)):‹10› "rule_in" ["web","order","t"] (spRuleIn K Pt (lam4Of s_ruled_behind).2.2.2):=by
 exists 9,sc_rule_in
 obtain⟨n,ts,os,wv,o,t,rfl,hw,ok,ho,pm,t1,t99,tb,q⟩:=h
 have units:∀ {x:Nat},x<=3->(A.deeper (envOfC "rule_in" (defScope s_rule_in) s.heap.objs.size f cdv)).units+x<cLine:=λ {x} hu=>by have:=hr.units;left
 have few60:=ok.few
 have lo:os.length=ts.length:=by rw[pm.length_eq,v6]
 refine⟨_,(aE (bI (aG O_need_times hr rfl (aA (pv 2) aB))) (aE (aV (PW.pt (dF (cB (bP (aG O_is_wholes hr rfl (aA (pv 1) aB)))) (cY (aR oS (bA cG rfl T.z_tuple (by symm) (aA (aQ jM rfl T.z_sorted (by symm) (aA (pv 1) aB)) aB)) (aG O_whole hr rfl (aA (pv 0) aB)) (nomark _))))) (aF lV) aU) (aE (bE (aG O_ruled_behind hr rfl (aA (pv 0) (aA (aZ aB) (aA (pv 1) (aA (pv 2) aB))))) (bQ (n:=2) rfl (aS (aL (i:=3) nd rfl (v8 rfl)) (aS (aL (i:=4) nd rfl (v8 rfl)) bK)))) (aF (aI (pv 3)))))),?_⟩
 refine⟨_,rfl,t,rfl,t1,t99,λ H1 S1=>?_⟩
 have fw:few (keepD os):=by
  show ((keepI os).map ucr).length<=1000
  unfold keepI;rw[g9,g9];left
 refine⟨_,rfl,keepD os,_,rfl,fP (S1 _ _ ho),fw,λ H2 S2=>⟨_,rfl,?_⟩⟩
 rw[show wholesB (keepD os)=true from sQ _]
 refine iteF ?_
 have S12:=S1.trans S2
 have ho2:H2 o=some (.tup ((keepI os).map V.int)):=by rw[← bH];exact S12 _ _ ho
 refine⟨_,rfl,o,keepI os,rfl,ho2,by unfold keepI;rw[g9];left,λ ms pms pw ls J2 S3 f2 e2=>?_⟩
 have em:ms=keepI (i6 ts.length):=by
  refine udv (le:=(·<=·)) (λ a b _ _ h1 h2=>Int.le_antisymm h1 h2) pw ?_ (pms.trans (by unfold keepI;exact pm.map _))
  unfold keepI
  rw[ua2]
  exact uej.imp λ h=>by left
 rw[em,← bH] at e2
 refine⟨ls,_,rfl,e2,λ lt J3 S4 f3 e3=>?_⟩
 have S14:=S12.trans (S3.trans S4)
 refine⟨_,rfl,n,ts,wv,rfl,Is.same S14 _ hw,few60,λ lw J4 S5 f4 e4=>?_⟩
 have dp:(keepD (i6 ts.length)).depth<=2:=by
  have a:=eC (keepI (i6 ts.length))
  show uap ((keepI (i6 ts.length)).map .int)+1<=2
  left
 refine⟨_,_,fP (S5 _ _ e3),fP e4,bV _,bV _,units (by left),_,rfl,iteNB (SeqAt.eqv_refl _ (bV _)) ?_⟩
 have S15:=S14.trans S5
 refine⟨_,rfl,(by show 0<=1000;decide),λ k0 J6 S6 f6 e6=>?_⟩
 have S16:=S15.trans S6
 refine⟨_,rfl,_,rfl,n,ts,[],os,wv,k0,o,t,rfl,Is.same S16 _ hw,ok,e6,⟨ub8,λ _ h=>(by cases h)⟩,S16 _ _ ho,pm.nodup_iff.mpr udd,by left,λ k hk=>⟨o6.mp (pm.mem_iff.mp hk),λ z=>by cases z⟩,t1,t99,tb.same S16,λ p kp rp xs J7 b7 tf7 sm7 hp hkp hrp _ _=>?_⟩
 exact⟨p,_,rfl,SqT.of hp,rfl,_,_,rfl,_,_,rfl,rfl,_,rfl,q kp J7 (λ b o z e=>b7 _ _ z (S16 _ _ e)) tf7 hkp⟩
def rsnD (w:Nat->Str)(g:Nat->List Int)(i:Nat):v9:=.tuple [.str (w i),.tuple ((g i).map .int)]
theorem nV (w:Nat->Str)(hw:∀ i,ub7 (.str (w i))=true)(g:Nat->List Int):∀ l:List Nat,ube (l.map (rsnD w g))=true
 | []=>rfl
 | i::r=>by
  show (ub7 (rsnD w g i)&&ube (r.map (rsnD w g)))=true
  rw[nV w hw g r]
  show ((ub7 (.str (w i))&&(ube ((g i).map .int)&&true))&&true)=true
  rw[bV,hw];rfl
theorem nE (w:Nat->Str)(g:Nat->List Int):∀ l:List Nat,tupAll (l.map (rsnD w g))=true
 | []=>rfl
 | i::r=>by
  show (tupD (rsnD w g i)&&tupAll (r.map (rsnD w g)))=true
  rw[nE w g r]
  show ((true&&(tupAll ((g i).map .int)&&true))&&true)=true
  rw[fM];rfl
theorem mP (w:Nat->Str)(g:Nat->List Int):∀ l:List Nat,uap (l.map (rsnD w g))<=3
 | []=>uac _
 | i::r=>by
  show max (uc3 (rsnD w g i)) (uap (r.map (rsnD w g)))<=3
  have h1:=mP w g r
  have h2:=eC (g i)
  have h3:uc3 (rsnD w g i)<=3:=by
   show max 0 (max (uap ((g i).map .int)+1) 0)+1<=3
   left
  left
noncomputable def wdN (ts:List Tie)(t:Int)(os:List Nat)(i:Nat):Str:=u7 (if wiB ts t (ruleN ts t [] (os.take i)) (os.getD i 0)=true then "way" else "heights")
theorem zbi (ts:List Tie)(t:Int)(os:List Nat)(i:Nat):ub7 (.str (wdN ts t os i))=true:=by
 unfold wdN
 split <;> decide +kernel
theorem vA {J:Hp}{n:Int}{ts:List Tie}{t:Int}{os:List Nat}{xs:List V}(lx:xs.length=os.length)(rs:∀ i k x,os[i]?=some k->xs[i]?=some x->RsnV J n ts t (ruleN ts t [] (os.take i)) k x) :
  ∃ g:Nat->List Int,(∀ i k,os[i]?=some k->RsnI n ts t (ruleN ts t [] (os.take i)) k (g i))/\IsAll K J ((i6 os.length).map (rsnD (wdN ts t os) g)) xs:=by
 have ex:∀ i,∃ is:List Int,∀ k x,os[i]?=some k->xs[i]?=some x->RsnI n ts t (ruleN ts t [] (os.take i)) k is/\Is K J (.tuple [.str (wdN ts t os i),.tuple (is.map .int)]) x:=λ i=>by
  by_cases hi:i<os.length
  ·have e1:=d6 hi
   have e2:=d6 (show i<xs.length by left)
   obtain⟨p,x,u,ev,hp,ew,q,is,rfl,hq,hI⟩:=rs i _ _ e1 e2
   refine⟨is,λ k v h1 h2=>?_⟩
   rw[e1] at h1;cases h1
   rw[e2] at h2;cases h2
   have ed:wdN ts t os i=x:=by unfold wdN;rw[f8,e1,ew];rfl
   rw[ed,ev]
   exact⟨hI,p,_,rfl,hp,_,_,rfl,rfl,_,_,rfl,⟨q,_,rfl,hq,IsAll.ints _⟩,rfl⟩
  ·exact⟨[],λ k x h1=>by rw[u5 (by left)] at h1;cases h1⟩
 refine⟨λ i=>Classical.choose (ex i),λ i k hk=>?_,IsAll.of (by rw[lx,g9,v6]) λ i d v h1 h2=>?_⟩
 ·have hi:=(i8.mp hk).1
  exact (Classical.choose_spec (ex i) k _ hk (d6 (show i<xs.length by left))).1
 ·have hi:i<os.length:=by have:=(i8.mp h2).1;left
  rw[o7,ubs hi] at h1
  cases h1
  exact (Classical.choose_spec (ex i) _ v (d6 hi) h2).2
structure XF30 (K:a8)(cE cT cM c1 c2 c3 c4 c5 c6 c7 c8 c9 c10 cW:j7):Prop where
 xc:X9.XC K cT
 mm:PySem.W.exmOne K (.ref cT) (.ref cE)=some true
 vv:uc0 K (.ref cT) (.type "ValueError")=some true
 tt:uc0 K (.ref cT) (.ref cT)=some true
 na:ufo K (.ref cT) (([c1,c2,c3,c4,c5,c6,c7,c8,c9,c10]:List j7).map Value.ref)=some false
 nb:ufo K (.ref cT) (([cW,cM]:List j7).map Value.ref)=some false
def AskD (n:Int)(ts:List Tie)(ks:List Nat)(t:Int)(i:Nat)(d:v9):Prop :=
 (i=0/\∃ (os:List Nat)(g:Nat->List Int),OrdOk ts os/\(∀ j k,os[j]?=some k->RsnI n ts t (ruleN ts t [] (os.take j)) k (g j))/\d=.tuple [keepD (ruleN ts t [] os),.tuple ((i6 os.length).map (rsnD (wdN ts t os) g))]) \/
 (i=1/\d=.bool (rrB ts ks))\/(i=2/\d=keepD (ruleN ts t [] (i6 ts.length)))\/(i=3/\d=keepD (neededN ts ks t))
theorem AskD.one {n:Int}{ts:List Tie}{ks:List Nat}{t:Int}{i:Nat}{d d':v9}(ok:WebOk n ts)(h:AskD n ts ks t i d)(g:AskD n ts ks t i d'):d=d':=by
 rcases h with ⟨rfl,os,g1,ord,hg,rfl⟩ | ⟨rfl,rfl⟩ | ⟨rfl,rfl⟩ | ⟨rfl,rfl⟩
 ·rcases g with ⟨_,os',g2,ord',hg',rfl⟩ | ⟨e,_⟩ | ⟨e,_⟩ | ⟨e,_⟩
  ·have eo:os'=os:=ord'.one ord
   subst eo
   have kok:∀ j,KeepOk ts.length (ruleN ts t [] (os'.take j)):=λ j=>eK ⟨ub8,λ _ h=>(by cases h)⟩ λ k hk=>o6.mp (ord.1.mem_iff.mp (udl hk))
   have:(i6 os'.length).map (rsnD (wdN ts t os') g1)=(i6 os'.length).map (rsnD (wdN ts t os') g2):=uct λ j hj=>by
    have hj':=o6.mp hj
    have e1:=d6 hj'
    show ucq [_,.tuple ((g1 j).map .int)]=ucq [_,.tuple ((g2 j).map .int)]
    rw[RsnI.unique ok (kok j) (hg j _ e1) (hg' j _ e1)]
   rw[this]
  ·cases e
  ·cases e
  ·cases e
 ·rcases g with ⟨e,_⟩ | ⟨_,rfl⟩ | ⟨e,_⟩ | ⟨e,_⟩
  ·cases e
  ·rfl
  ·cases e
  ·cases e
 ·rcases g with ⟨e,_⟩ | ⟨e,_⟩ | ⟨_,rfl⟩ | ⟨e,_⟩
  ·cases e
  ·cases e
  ·rfl
  ·cases e
 ·rcases g with ⟨e,_⟩ | ⟨e,_⟩ | ⟨e,_⟩ | ⟨_,rfl⟩
  ·cases e
  ·cases e
  ·cases e
  ·rfl
theorem AskD.lay {n:Int}{ts:List Tie}{ks:List Nat}{t:Int}{i:Nat}{d:v9}(h:AskD n ts ks t i d):d.canLay0=true/\tupD d=true/\d.depth<=5:=by
 have kd:∀ l:List Nat,(keepD l).depth<=2:=λ l=>by
  have a:=eC (keepI l)
  show uap ((keepI l).map .int)+1<=2
  left
 rcases h with ⟨rfl,os,g1,ord,hg,rfl⟩ | ⟨rfl,rfl⟩ | ⟨rfl,rfl⟩ | ⟨rfl,rfl⟩
 ·refine⟨?_,?_,?_⟩
  ·show (ub7 (keepD _)&&(ube ((i6 os.length).map (rsnD (wdN ts t os) g1))&&true))=true
   rw[show ub7 (keepD (ruleN ts t [] os))=true from bV _,nV _ (zbi ts t os) g1];rfl
  ·show (tupD (keepD _)&&(tupAll ((i6 os.length).map (rsnD (wdN ts t os) g1))&&true))=true
   rw[show tupD (keepD (ruleN ts t [] os))=true from cN _,nE _ g1];rfl
  ·have a:=kd (ruleN ts t [] os)
   have b:=mP (wdN ts t os) g1 (i6 os.length)
   show max (uc3 (keepD _)) (max (uap ((i6 os.length).map (rsnD (wdN ts t os) g1))+1) 0)+1<=5
   left
 ·exact⟨rfl,rfl,by show 0<=5;decide⟩
 ·exact⟨bV _,cN _,w6 (kd _) (by decide)⟩
 ·exact⟨bV _,cN _,w6 (kd _) (by decide)⟩
theorem dI30 {i:Nat}{k:Int}(h:(i:Int)≠k):decide (V.int (i:Int)=V.int k)=false:=ugb λ z=>h (by injection z)
theorem dE30 {i:Nat}{k:Int}(h:(i:Int)=k):decide (V.int (i:Int)=V.int k)=true:=uf9 (by rw[h])
theorem oN {p q r:j7}{H H':Hp}{lp lq lr:Pos}{qn qm qo:Str}(h:Tb p lp qn H)(b:Bt2 q r H H')(tq:Tb q lq qm H)(tr:Tb r lr qo H)(n1:p≠q)(n2:p≠r):Tb p lp qn H':=by
 obtain⟨ps,e,rr⟩:=h
 obtain⟨_,e2,_⟩:=tq
 obtain⟨_,e3,_⟩:=tr
 exact⟨ps,b _ _ n1 n2 e,rr.imp id λ ⟨c',e1,e4⟩=>⟨c',e1,b _ _ (λ z=>by rw[z,e2] at e4;cases e4) (λ z=>by rw[z,e3] at e4;cases e4) e4⟩⟩
abbrev Bt3 (p0 p1 p2:j7)(H H':Hp):Prop:=∀ b o,b≠p0->b≠p1->b≠p2->H b=some o->H' b=some o
structure T3 (p0 p1 p2:j7)(H:Hp):Prop where
 t0:Tb p0 (lamPosOf s_order_of) lamQ H
 t1:Tb p1 (lam4Of s_ruled_behind).2.2.2 lamQB H
 t2:Tb p2 (lam3Of s_rule_right).2.2.2 lamQV H
theorem T3.same {p0 p1 p2:j7}{H H':Hp}(h:T3 p0 p1 p2 H)(s:Same H H'):T3 p0 p1 p2 H':=⟨h.t0.same s,h.t1.same s,h.t2.same s⟩
theorem T3.but {p0 p1 p2 l:j7}{H H':Hp}{xs:List V}(h:T3 p0 p1 p2 H)(b:But l H H')(e:H l=some (.lst xs)):T3 p0 p1 p2 H':=⟨h.t0.but b e,h.t1.but b e,h.t2.but b e⟩
theorem T3.tk {p0 p1 p2:j7}{H H':Hp}(h:T3 p0 p1 p2 H)(b:Bt3 p0 p1 p2 H H'):TupKeep H H':=λ a zs e=>b _ _ (λ z=>by obtain⟨_,e',_⟩:=h.t0;rw[z,e'] at e;cases e) (λ z=>by obtain⟨_,e',_⟩:=h.t1;rw[z,e'] at e;cases e) (λ z=>by obtain⟨_,e',_⟩:=h.t2;rw[z,e'] at e;cases e) e
def spAsk30 (K:a8)(p0 p1 p2:j7):Sp:=λ vs H Q _=>∃ (i:Nat)(n:Int)(ts:List Tie)(ks:List Nat)(wv kv:V)(t:Int),vs=[.int (i:Int),wv,kv,.int t]/\i<4/\WK K H n ts ks wv kv/\1<=t/\t<=99/\p0≠p1/\p0≠p2/\p1≠p2/\T3 p0 p1 p2 H/\∀ v d H',Bt3 p0 p1 p2 H H'->T3 p0 p1 p2 H'->AskD n ts ks t i d->Is K H' d v->Q v H'
theorem qB {p0 p1 p2:j7}(T:Bi mg)(D:DefOk K mg "_law_asked" s__law_asked ["which","web","keep","t"])(O_ring_rule:‹10› "ring_rule" ["web","t"] (spRing K p0 p1 (lamPosOf s_order_of) (lam4Of s_ruled_behind).2.2.2))(O_rule_right:‹10› "rule_right" ["web","t","told"] (spRgt30 K p0 p2 (lam3Of s_rule_right).2.2.2))(O_rule_in:‹10› "rule_in" ["web","order","t"] (spRuleIn K p1 (lam4Of s_ruled_behind).2.2.2))(O_needed:‹10› "needed" ["web","keep","t"] (spNeeded K)):‹11› "_law_asked" ["which","web","keep","t"] (spAsk30 K p0 p1 p2):=by
 exists 10,sc__law_asked
 obtain⟨i,n,ts,ks,wv,kv,t,rfl,i4,wk,t1,t99,n01,n02,n12',tt,q⟩:=h
 have ok:=wk.2.1
 have few60:=ok.few
 have same3:∀ {J:Hp},Same H J->Bt3 p0 p1 p2 H J:=λ s b o _ _ _ e=>s b o e
 refine⟨_,(aE (aV (aR aX (pv 0) aC (nomark _)) (aF (aI (aG O_ring_rule hr rfl (aA (pv 1) (aA (pv 3) aB))))) aU) (aE (aV (aR aX (pv 0) aC (nomark _)) (aF (aI (aG O_rule_right hr rfl (aA (pv 1) (aA (pv 3) (aA (aZ (aA (pv 2) (aA (aZ aB) aB))) aB)))))) aU) (aE (aV (aR aX (pv 0) aC (nomark _)) (aF (aI (aG O_rule_in hr rfl (aA (pv 1) (aA (bA (gK rfl) rfl T.z_tuple (by symm) (aA (bA fB rfl T.z_range (by symm) (aA (aQ bW rfl T.z_len (by symm) (aA (aK aW (pv 1) aC (λ _ _=>rfl)) aB)) aB)) aB)) (aA (pv 3) aB)))))) aU) (aF (aI (aG O_needed hr rfl (aA (pv 1) (aA (pv 2) (aA (pv 3) aB))))))))),?_⟩
 refine⟨_,rfl,rfl,_,rfl,?_⟩
 by_cases e0:i=0
 ·subst e0
  refine iteTe (dE30 (by left)) ⟨_,rfl,_,rfl,n,ts,wv,t,rfl,wk.1,ok,t1,t99,Ne.symm n01,tt.t0,tt.t1,λ r kp rp xs os J1 ord b1 u0 u1 hrr hkp hrp lx rs=>?_⟩
  obtain⟨gg,hgI,hgA⟩:=vA (K:=K) lx rs
  exact q _ _ J1 (λ b o z0 z1 _ e=>b1 _ _ z0 z1 e) ⟨u0,u1,oN tt.t2 b1 tt.t0 tt.t1 (Ne.symm n02) (Ne.symm n12')⟩ (.inl ⟨rfl,os,gg,ord,hgI,rfl⟩) ⟨r,_,rfl,hrr,_,_,rfl,dZ hkp,_,_,rfl,⟨rp,_,rfl,hrp,hgA⟩,rfl⟩
 refine iteFe (dI30 (by left)) ⟨_,rfl,rfl,_,rfl,?_⟩
 by_cases e1:i=1
 ·subst e1
  refine iteTe (dE30 (by left)) ⟨_,rfl,_,rfl,_,rfl,(by show 0<=1000;decide),λ a1 J1 S1 f1 k1=>⟨(by show 2<=1000;decide),λ a2 J2 S2 f2 k2=>?_⟩⟩
  have S12:=S1.trans S2
  have t2:=tt.same S12
  refine⟨n,ts,ks,wv,kv,t,a2,a1,rfl,wk.same S12,t1,t99,k2,S2 _ _ k1,Ne.symm n02,t2.t0,t2.t2,λ J3 b3 u0 u2=>?_⟩
  exact q _ _ J3 (λ b o z0 _ z2 e=>b3 _ _ z0 z2 (S12 _ _ e)) ⟨u0,oN t2.t1 b3 t2.t0 t2.t2 (Ne.symm n01) n12',u2⟩ (.inr (.inl ⟨rfl,rfl⟩)) rfl
 refine iteFe (dI30 (by left)) ⟨_,rfl,rfl,_,rfl,?_⟩
 by_cases e2:i=2
 ·subst e2
  obtain⟨g0,g,gs,rfl,hg0,hg,hall,hlw⟩:=bD wk.1
  refine iteTe (dE30 (by left)) ⟨_,rfl,_,rfl,g0,_,_,_,rfl,rfl,SqT.of hg0,rfl,g,_,rfl,.inr (SqT.of hg),_,rfl,λ r hr'=>?_⟩
  refine⟨r,_,rfl,aH,by left,by left,λ l J1 S f e=>?_⟩
  have S1:Same H J1:=(aN hr').trans S
  have t1':=tt.same S1
  rw[show ((gs.length:Nat):Int).toNat=ts.length by left] at e
  refine⟨_,rfl,n,ts,i6 ts.length,.ref g0,l,t,rfl,Is.same S1 _ wk.1,ok,e,ufd _,t1,t99,t1'.t1,λ kp J2 b2 u1 hkp=>?_⟩
  refine q _ _ J2 (λ b o _ z1 _ e=>b2 _ _ z1 (S1 _ _ e)) ⟨dN t1'.t0 b2 t1'.t1 n01,u1.tb,dN t1'.t2 b2 t1'.t1 (Ne.symm n12')⟩ (.inr (.inr (.inl ⟨rfl,rfl⟩))) (dZ hkp)
 ·have e3:i=3:=by left
  subst e3
  refine iteFe (dI30 (by left)) ⟨_,rfl,_,rfl,_,rfl,n,ts,ks,wv,kv,t,rfl,wk,t1,t99,λ p J1 S1 e=>?_⟩
  exact q _ _ J1 (same3 S1) (tt.same S1) (.inr (.inr (.inr ⟨rfl,rfl⟩))) (dZ e)
def spAskX30 (K:a8)(cT:j7):Sp:=λ vs H _ E=>∃ (i:Nat)(n:Int)(ts:List Tie)(wv kv tv:V),vs=[.int (i:Int),wv,kv,tv]/\i<4/\Is K H (webD n ts) wv/\ts.length<=60/\OddV K H tv/\∀ H',Same H H'->E (.ref cT) none H'
theorem pP {cT:j7}(T:Bi mg)(D:DefOk K mg "_law_asked" s__law_asked ["which","web","keep","t"])(O_ring_rule:OkX P w K mg base 3 "ring_rule" ["web","t"] (spNoT2 K cT))(O_rule_right:OkX P w K mg base 3 "rule_right" ["web","t","told"] (spNoTm K cT))(O_rule_in:OkX P w K mg base 3 "rule_in" ["web","order","t"] (spNoT3 K cT))(O_needed:OkX P w K mg base 3 "needed" ["web","keep","t"] (spNoT3 K cT)):OkX P w K mg base 4 "_law_asked" ["which","web","keep","t"] (spAskX30 K cT):=by
 refine dR (k:=3) D sc__law_asked (λ vs H Q E h=>?_) (λ f cdv A outer s H vs Q E hr h=>?_)
 ·obtain⟨i,n,ts,wv,kv,tv,rfl,_⟩:=h
  rfl
 obtain⟨i,n,ts,wv,kv,tv,rfl,i4,isw,few60,od,q⟩:=h
 have nd:=sc__law_asked.nd
 refine⟨_,(aE (aV (aR aX (pv 0) aC (nomark _)) (aF (aI (cO O_ring_rule hr rfl (aA (pv 1) (aA (pv 3) aB))))) aU) (aE (aV (aR aX (pv 0) aC (nomark _)) (aF (aI (cO O_rule_right hr rfl (aA (pv 1) (aA (pv 3) (aA (aZ (aA (pv 2) (aA (aZ aB) aB))) aB)))))) aU) (aE (aV (aR aX (pv 0) aC (nomark _)) (aF (aI (cO O_rule_in hr rfl (aA (pv 1) (aA (bA (gK rfl) rfl T.z_tuple (by symm) (aA (bA fB rfl T.z_range (by symm) (aA (aQ bW rfl T.z_len (by symm) (aA (aK aW (pv 1) aC (λ _ _=>rfl)) aB)) aB)) aB)) (aA (pv 3) aB)))))) aU) (aF (aI (cO O_needed hr rfl (aA (pv 1) (aA (pv 2) (aA (pv 3) aB))))))))),?_⟩
 refine⟨_,rfl,rfl,_,rfl,?_⟩
 by_cases e0:i=0
 ·exact iteTe (dE30 (by left)) ⟨_,rfl,_,rfl,_,_,rfl,od,q H (Same.refl H)⟩
 refine iteFe (dI30 (by left)) ⟨_,rfl,rfl,_,rfl,?_⟩
 by_cases e1:i=1
 ·exact iteTe (dE30 (by left)) ⟨_,rfl,_,rfl,_,rfl,(by show 0<=1000;decide),λ a1 J1 S1 f1 k1=>⟨(by show 2<=1000;decide),λ a2 J2 S2 f2 k2=>⟨_,_,_,rfl,od.same (S1.trans S2),q J2 (S1.trans S2)⟩⟩⟩
 refine iteFe (dI30 (by left)) ⟨_,rfl,rfl,_,rfl,?_⟩
 by_cases e2:i=2
 ·obtain⟨g0,g,gs,rfl,hg0,hg,hall,hlw⟩:=bD isw
  refine iteTe (dE30 (by left)) ⟨_,rfl,_,rfl,g0,_,_,_,rfl,rfl,SqT.of hg0,rfl,g,_,rfl,.inr (SqT.of hg),_,rfl,λ r hr'=>?_⟩
  refine⟨r,_,rfl,aH,by left,by left,λ l J1 S f e=>?_⟩
  have S1:Same H J1:=(aN hr').trans S
  exact⟨_,rfl,_,_,_,rfl,od.same S1,q J1 S1⟩
 ·exact iteFe (dI30 (by left)) ⟨_,rfl,_,rfl,_,rfl,_,_,_,rfl,od,q H (Same.refl H)⟩
def spRef30 (K:a8):Sp:=λ vs H Q _=>∃ (i:Nat)(n:Int)(ts:List Tie)(wv kv tv:V),vs=[.int (i:Int),wv,kv,tv]/\i<4/\Is K H (webD n ts) wv/\ts.length<=60/\OddV K H tv/\∀ H',Same H H'->Q (.bl true) H'
theorem pK {cE cT cM c1 c2 c3 c4 c5 c6 c7 c8 c9 c10 cW:j7}(T:Bi mg)(D:DefOk K mg "_law_refused" s__law_refused ["which","web","keep","t"])(m_ThinError:mg "ThinError"=some (.ref cE))(m_NoTimes:mg "NoTimes"=some (.ref cT))(m_TooMany:mg "TooMany"=some (.ref cM))(m_NoBack:mg "NoBack"=some (.ref c1))(m_NoFalls:mg "NoFalls"=some (.ref c2))(m_NoLength:mg "NoLength"=some (.ref c3))(m_NoLevels:mg "NoLevels"=some (.ref c4))(m_NoLine:mg "NoLine"=some (.ref c5))(m_NoOrder:mg "NoOrder"=some (.ref c6))(m_NoPlain:mg "NoPlain"=some (.ref c7))(m_NoShare:mg "NoShare"=some (.ref c8))(m_NoText:mg "NoText"=some (.ref c9))(m_NoTie:mg "NoTie"=some (.ref c10))(m_NoWeb:mg "NoWeb"=some (.ref cW))(z_ValueError:mg "ValueError"=none)(X:XF30 K cE cT cM c1 c2 c3 c4 c5 c6 c7 c8 c9 c10 cW)(O__law_asked:OkX P w K mg base 4 "_law_asked" ["which","web","keep","t"] (spAskX30 K cT)):‹5› "_law_refused" ["which","web","keep","t"] (spRef30 K):=by
 exists 4,sc__law_refused
 obtain⟨i,n,ts,wv,kv,tv,rfl,i4,isw,few60,od,q⟩:=h
 refine⟨_,(aE (aO (i:=4) nd rfl (v8 rfl) bM) (aE (za1 (i:=4) (j:=5) O__law_asked hr rfl (aA (pv 0) (aA (pv 1) (aA (pv 2) (aA (pv 3) aB)))) nd m_ThinError) (aE (aV (bP (aQ jZ rfl T.z_isinstance (by symm) (aA (pv 4) (aA (aZ (aA (bL (v:=V.ref _) rfl m_NoBack rfl) (aA (bL (v:=V.ref _) rfl m_NoFalls rfl) (aA (bL (v:=V.ref _) rfl m_NoLength rfl) (aA (bL (v:=V.ref _) rfl m_NoLevels rfl) (aA (bL (v:=V.ref _) rfl m_NoLine rfl) (aA (bL (v:=V.ref _) rfl m_NoOrder rfl) (aA (bL (v:=V.ref _) rfl m_NoPlain rfl) (aA (bL (v:=V.ref _) rfl m_NoShare rfl) (aA (bL (v:=V.ref _) rfl m_NoText rfl) (aA (bL (v:=V.ref _) rfl m_NoTie rfl) aB))))))))))) aB)))) (aF (aI bU)) aU) (aF (aI (cD (aQ wB rfl T.z_isinstance (by symm) (aA (pv 4) (aA (bL (v:=V.ref _) rfl m_NoTimes rfl) aB))) (cD (aQ (uO (n:="ValueError")) rfl T.z_isinstance (by symm) (aA (pv 4) (aA (cX (v:=.ty "ValueError") rfl z_ValueError (by symm) rfl) aB))) (bR (iT (aQ jZ rfl T.z_isinstance (by symm) (aA (pv 4) (aA (aZ (aA (bL (v:=V.ref _) rfl m_NoWeb rfl) (aA (bL (v:=V.ref _) rfl m_TooMany rfl) aB))) aB)))))))))))),?_⟩
 refine⟨_,rfl,_,rfl,_,rfl,_,rfl,i,n,ts,wv,kv,tv,rfl,i4,isw,few60,od,λ J S=>?_⟩
 refine⟨cT,rfl,X.mm,λ a ha=>?_⟩
 have Sa:Same H (upd J a (.ext (X9.IsX a cT))):=S.trans (aN ha)
 refine⟨_,rfl,(by show 10<=1000;decide),λ p1 J3 S3 f3 e3=>⟨a,cT,p1,[c1,c2,c3,c4,c5,c6,c7,c8,c9,c10],false,rfl,S3 _ _ aH,e3,X.xc,X.na,?_⟩⟩
 have ea:=S3 _ _ (aH (H:=J) (a:=a) (o:=.ext (X9.IsX a cT)))
 refine⟨_,rfl,iteF ?_⟩
 refine⟨_,rfl,a,cT,cT,_,rfl,ea,X.xc,X.tt,_,rfl,iteT ⟨_,rfl,a,cT,_,rfl,ea,X.xc,X.vv,_,rfl,iteT ⟨_,rfl,(by show 2<=1000;decide),λ p2 J4 S4 f4 e4=>⟨a,cT,p2,[cW,cM],false,rfl,S4 _ _ ea,e4,X.xc,X.nb,?_⟩⟩⟩⟩
 exact⟨_,rfl,q J4 (Sa.trans (S3.trans S4))⟩
theorem show30 {n:Int}{ts:List Tie}{ks:List Nat}(ok:WebOk n ts)(ko:KeepOk ts.length ks):(udo [webD n ts,keepD ks]).showable=true/\(udo [webD n ts,keepD ks]).hasDict=false/\(udo [webD n ts,keepD ks]).depth<=60/\(udo [webD n ts,keepD ks]).shown.length<=p9:=by
 have few60:=ok.few
 have n1:=ok.n1
 have n24:=ok.n24
 obtain⟨r1,r2,r3,r4,r5⟩:=lQ (ts.map λ t=>[t.1,t.2.1,t.2.2]) λ ws h=>by
  obtain⟨t,ht,rfl⟩:=v4.mp h
  have tk:=ok.tie t ht
  refine⟨by show 3<=40;decide,λ m hm=>?_⟩
  have e60:(10:Nat)^18<10^60:=by symm
  simp only [l7,uag,or_false] at hm
  rcases hm with rfl | rfl | rfl <;> left
 rw[ubb,g9] at *
 have er:ts.map ((λ ws:List Int=>ucq (ws.map .int)) ∘ λ t:Tie=>[t.1,t.2.1,t.2.2])=ts.map tieD:=rfl
 rw[er] at r1 r2 r3 r4 r5
 obtain⟨i1,i2,i3,i4,i5⟩:=fQ (keepI ks) λ m hm=>by
  obtain⟨k,hk,rfl⟩:=v4.mp hm
  have:=ko.2 k hk
  have e60:(10:Nat)^18<10^60:=by symm
  left
 obtain⟨a1,a2,a3,a4,a5⟩:=fQ [n] λ m hm=>by
  rw[j6.mp hm]
  have e60:(10:Nat)^18<10^60:=by symm
  left
 have lk:(keepI ks).length=ks.length:=by unfold keepI;rw[g9]
 have lks:=ko.len
 have n1':(ucr n).showable=true:=by
  have:((ucr n).showable&&true)=true:=a1
  rw[uf8] at this;exact this
 have n4':(ucr n).leavesShort 61=true:=by
  have:((ucr n).leavesShort 61&&true)=true:=a4
  rw[uf8] at this;exact this
 refine⟨?_,?_,?_,fits61 ?_ ?_⟩
 ·show (((ucr n).showable&&(ub9 (ts.map tieD)&&true))&&(ub9 ((keepI ks).map .int)&&true))=true
  rw[n1',r1,i1];rfl
 ·show ((false||(uc1 (ts.map tieD)||false))||(uc1 ((keepI ks).map .int)||false))=false
  rw[r2,i2];rfl
 ·show max (max 0 (max (uap (ts.map tieD)+1) 0)+1) (max (uap ((keepI ks).map .int)+1) 0)+1<=60
  rw[i3];left
 ·show (((ucr n).leavesShort 61&&(ubw 61 (ts.map tieD)&&true))&&(ubw 61 ((keepI ks).map .int)&&true))=true
  rw[n4',r4,i4];rfl
 ·show (0+1+(uc2 (ts.map tieD)+1+0))+1+(uc2 ((keepI ks).map .int)+1+0)<=10000
  rw[i5,lk];left
def spLaw (K:a8)(p0 p1 p2:j7):Sp:=λ vs H Q _=>∃ (a:j7)(ns:List Int),vs=[.ref a]/\SqL K H a (ns.map V.int)/\ns.length<=63/\[p0,p1,p2].Nodup/\Tb p0 (lamPosOf s_order_of) lamQ H/\Tb p1 (lam4Of s_ruled_behind).2.2.2 lamQB H/\Tb p2 (lam3Of s_rule_right).2.2.2 lamQV H/\∀ H',Q (.bl true) H'
theorem jY {K:a8}{own:List Str}{js:List Nat}{σ:L2.St}{H1:Hp}{Q:VK}{p0 p1 p2 a:j7}{n:Int}{ts:List Tie}{ks:List Nat}{wv kv:V}{m:Nat}(m4:m<4)(n01:p0≠p1)(n02:p0≠p2)(n12:p1≠p2)(e1:H1 a=some (.lst [.int 1,.int 99]))(t1:T3 p0 p1 p2 H1)(wk:WK K H1 n ts ks wv kv)(h0:∃ o,start3 own js σ=[o,some (.int (m:Int)),some wv,some kv])
  (fin:∀ D d1 d2 H',H1 D=none->Bt3 p0 p1 p2 H1 H'->T3 p0 p1 p2 H'->AskD n ts ks 1 m d1->AskD n ts ks 99 m d2->Is K H' (.list [d1,d2]) (.ref D)->Q (.ref D) H'):CompGo own js (gName 0) tTrue (tCall (spAsk30 K p0 p1 p2) [] E0 (tCons (tVar 1) (tCons (tVar 2) (tCons (tVar 3) (tCons (tVar 0) tNil))))) σ Q (Itl K a) H1:=by
 refine yD (λ b=>b=p0\/b=p1\/b=p2) e1 (λ b hb=>?_) (λ J=>T3 p0 p1 p2 J) (λ D hD=>t1.same (aN hD)) (λ H D ys zs e h=>h.but But.upd e) (λ σ'=>∃ o,σ'=[o,some (.int (m:Int)),some wv,some kv]) (λ k v J=>∃ d,AskD n ts ks (if k=0 then 1 else 99) m d/\Is K J d v) (by show 2<=1000;decide) h0 (λ k v G G' tk ⟨d,hd,is⟩=>⟨d,hd,bF tk _ hd.lay.2.1 is⟩) (λ k x σ' G hx bG tupG tG sg C hC=>?_) (λ D ys G hD bG tG hG ly hy=>?_)
 ·rcases hb with rfl | rfl | rfl
  ·exact let ⟨ps,e,_⟩:=t1.t0;⟨ps,e⟩
  ·exact let ⟨ps,e,_⟩:=t1.t1;⟨ps,e⟩
  ·exact let ⟨ps,e,_⟩:=t1.t2;⟨ps,e⟩
 ·obtain⟨o,rfl⟩:=sg
  have wkG:WK K G n ts ks wv kv:=⟨bF tupG _ (cI n ts) wk.1,wk.2.1,bF tupG _ (cN ks) wk.2.2.1,wk.2.2.2⟩
  have ex:∃ t:Int,x=.int t/\t=(if k=0 then 1 else 99):=by
   rcases k with _ | _ | k
   ·cases hx;exact⟨1,rfl,rfl⟩
   ·cases hx;exact⟨99,rfl,rfl⟩
   ·cases hx
  obtain⟨t,rfl,et⟩:=ex
  have tb:1<=t/\t<=99:=by
   rw[et];split <;> decide
  refine⟨_,rfl,_,rfl,_,rfl,_,rfl,m,n,ts,ks,wv,kv,t,rfl,m4,wkG,tb.1,tb.2,n01,n02,n12,tG,λ v d G5 b5 t5 ad isd=>?_⟩
  exact hC _ _ _ ⟨_,rfl⟩ (λ b o hb e=>b5 _ _ (λ z=>hb (.inl z)) (λ z=>hb (.inr (.inl z))) (λ z=>hb (.inr (.inr z))) e) (tG.tk b5) t5 ⟨d,by rw[← et];exact ad,isd⟩
 ·match ys,ly,hG,hy with
  | [v1,v2],_,hG,hy =>
   obtain⟨d1,a1,i1⟩:=hy 0 v1 rfl
   obtain⟨d2,a2,i2⟩:=hy 1 v2 rfl
   exact fin D d1 d2 G hD (λ b o z0 z1 z2 e=>bG b o (λ z=>z.elim z0 λ z=>z.elim z1 z2) e) tG a1 a2 ⟨D,_,rfl,hG,_,_,rfl,i1,_,_,rfl,i2,rfl⟩
theorem za7 {f p0 p1 p2:j7}{fd:ubm}(T:Bi mg)(F:Fun K "law" "law" s_law f fd)(O__law_pot:‹12› "_law_pot" ["script","k"] (spPot K))(O__law_take:‹12› "_law_take" ["pot","many"] spTake)(O__law_web:‹12› "_law_web" ["pot","most"] (spWeb K))(O__law_keep:‹12› "_law_keep" ["pot","web"] (spKeep K))(O__law_asked:‹12› "_law_asked" ["which","web","keep","t"] (spAsk30 K p0 p1 p2))(O__law_refused:‹12› "_law_refused" ["which","web","keep","t"] (spRef30 K)):FnOk P w K mg base CX0 13 f fd ["script"] (spLaw K p0 p1 p2):=by
 refine F.ok (k:=12) sc_law (λ vs H Q E h=>?_) (λ cdv A outer s H vs Q E hr h=>?_)
 ·obtain⟨a,ns,rfl,_⟩:=h
  rfl
 obtain⟨a,ns,rfl,hS,h63,ndp,tt0,tt1,tt2,q⟩:=h
 have nd:=sc_law.nd
 have units:∀ {x:Nat},x<=6->(A.deeper (envOfC "law" (defScope s_law) s.heap.objs.size f cdv)).units+x<cLine:=λ {x} hu=>by have:=hr.units;left
 refine⟨_,(BSs.h (bY (oI PassesOwn.never rfl (dH rfl T.z_range (aA (aQ (gY rfl) rfl T.z_max (by symm) (aA aC (aA (aQ (gX rfl) rfl T.z_min (by symm) (aA aC (aA (aQ bW rfl T.z_len (by symm) (aA (pv 0) aB)) aB))) aB))) aB)) (aL (i:=1) nd rfl (v8 rfl)) (bY (dE (i:=2) nd rfl (v8 rfl) (BE.mk (aG O__law_pot hr rfl (aA (pv 0) (aA (pv 1) aB))))) (bY (dE (i:=3) nd rfl (v8 rfl) (zbm bC (zao (cP (BE.mk aC) (cP (BE.mk aC) (yR (BE.mk (gI gE aC)) (cP (BE.mk bU) (cP (BE.mk dP) (cP (BE.mk bM) (mY (BE.mk (aJ bN aC aC)) (yS (zan (cP (BE.mk aC) pC)) (cP (BE.mk bU) (mY (BE.mk (aJ cS aC (aJ bN aC aC))) (cP (BE.mk dP) (yT (BE.mk vI) pC))))))))))))) (BE.mk (aG O__law_take hr rfl (aA (pv 2) (aA aC aB)))) (λ _ _=>rfl))) (bY (dE (i:=4) nd rfl (v8 rfl) (BE.mk (aG O__law_take hr rfl (aA (pv 2) (aA aC aB))))) (bY (dE (i:=5) nd rfl (ufp rfl) (BE.mk (aG O__law_web hr rfl (aA (pv 2) (aA aC aB))))) (bY (dE (i:=6) nd rfl (ufp rfl) (BE.mk (aG O__law_keep hr rfl (aA (pv 2) (aA (pv 5) aB))))) (bY (dE (i:=7) nd rfl (v8 rfl) (BE.mk (bA (kW hr) rfl T.z_str (by symm) (aA (bZ (aA (pv 5) (aA (pv 6) aB))) aB)))) (eR (oI PassesOwn.never rfl (dH rfl T.z_range (aA aC aB)) (aL (i:=8) nd rfl (v8 rfl)) (bY (dE (i:=9) nd rfl (ufp rfl) (BE.mk (aJ bS (aJ bT (pv 4) (pv 8)) aC))) (bY (BS.mk (tX (i:=10) (N:=["script","k","pot","none","first","web","keep","kept","turn","which","ahead"]) (sc0:=defScope s_law) (own:=["t"]) (fr:=["which","web","keep"]) (js:=[9,5,6]) rfl (eM (bZ (aA aC (aA aC aB)))) (λ _ _ _ _=>(aL (i:=0) (by show uby [("t":Str),("which":Str),("web":Str),("keep":Str)];decide +kernel) rfl (v8 rfl))) (λ _ _ _ _=>cV) (λ _ _ _ _=>(aG O__law_asked hr rfl (aA (pv 1) (aA (pv 2) (aA (pv 3) (aA (pv 0) aB)))))) nd rfl (v8 rfl))) (bY (pF (cB (bP (aG O__law_refused hr rfl (aA (pv 9) (aA (pv 5) (aA (pv 6) (aA (pv 3) aB))))))) (eR (iZ (BE.mk bU))) oH) (eR (pF (PW.pt (dF (aR oS (cK (N:=["script","k","pot","none","first","web","keep","kept","turn","which","ahead"]) (sc0:=defScope s_law) (own:=["t"]) (fr:=["which","web","keep"]) (js:=[9,5,6]) rfl (eM (bZ (aA aC (aA aC aB)))) (λ _ _ _ _=>(aL (i:=0) (by show uby [("t":Str),("which":Str),("web":Str),("keep":Str)];decide +kernel) rfl (v8 rfl))) (λ _ _ _ _=>cV) (λ _ _ _ _=>(aG O__law_asked hr rfl (aA (pv 1) (aA (pv 2) (aA (pv 3) (aA (pv 0) aB))))))) (pv 10) (nomark _)) (cY (aR jG (bA (kW hr) rfl T.z_str (by symm) (aA (bZ (aA (pv 5) (aA (pv 6) aB))) aB)) (pv 7) (nomark _))))) (eR (iZ (BE.mk bU))) oH)))))))))))))) (eR (iZ (BE.mk bU))))),?_⟩
 simp only [r9,l7,uag,or_false,not_or,not_false_eq_true,uco,and_true] at ndp
 obtain⟨⟨n01,n02⟩,n12'⟩:=ndp
 have tt:T3 p0 p1 p2 H:=⟨tt0,tt1,tt2⟩
 have hl:(ns.map V.int).length=ns.length:=g9 _
 refine⟨_,rfl,a,_,rfl,.inl hS,_,_,rfl,_,_,rfl,_,rfl,?_,?_,?_⟩
 ·split <;> split <;> left
 ·rw[hl];split <;> split <;> left
 generalize hj:(if (if (((ns.map V.int).length:Nat):Int)<4 then (((ns.map V.int).length:Nat):Int) else 4)>2 then (if (((ns.map V.int).length:Nat):Int)<4 then (((ns.map V.int).length:Nat):Int) else 4) else 2)=j
 have j4:j<=4:=by rw[← hj];split <;> split <;> left
 have seqB:∀ {J:Hp},Bt3 p0 p1 p2 H J->SqL K J a (ns.map V.int):=λ {J} b=>by
  have nt:∀ {b':j7}{o:HO},H b'=some o->(∀ qs,o≠.tbl qs)->J b'=some o:=λ {b' o} e n=>b _ _ (λ z=>by obtain⟨_,e',_⟩:=tt0;rw[z,e'] at e;cases e;exact n _ rfl) (λ z=>by obtain⟨_,e',_⟩:=tt1;rw[z,e'] at e;cases e;exact n _ rfl) (λ z=>by obtain⟨_,e',_⟩:=tt2;rw[z,e'] at e;cases e;exact n _ rfl) e
  rcases hS with (h | ⟨o,h⟩) | h
  ·exact .inl (.inl (nt h λ _ z=>by cases z))
  ·exact .inl (.inr ⟨o,nt h λ _ z=>by cases z⟩)
  ·exact .inr h
 refine eB (n:=j.toNat) (λ i σ J=>∃ x1 x2 x3 x4 x5 x6 x7 x8 x9 x10:Option V,σ=[some (.ref a),x1,x2,x3,x4,x5,x6,x7,x8,x9,x10]/\Bt3 p0 p1 p2 H J/\T3 p0 p1 p2 J) ⟨none,none,none,none,none,none,none,none,none,none,rfl,λ _ _ _ _ _ e=>e,tt⟩ ?turn (λ σ H' _=>q H')
 rintro i σ J hi ⟨x1,x2,x3,x4,x5,x6,x7,x8,x9,x10,rfl,b0,tJ⟩
 refine⟨_,rfl,_,rfl,a,_,ns,rfl,seqB b0,by left,by left,λ l H1 s1 fl pt1=>?_⟩
 have fl0:H l=none:=by
  cases e4:H l with
  | none=>rfl
  | some o =>
   have e5:=b0 l o (λ z=>by obtain⟨_,e,_⟩:=tJ.t0;rw[z,e] at fl;cases fl) (λ z=>by obtain⟨_,e,_⟩:=tJ.t1;rw[z,e] at fl;cases fl) (λ z=>by obtain⟨_,e,_⟩:=tJ.t2;rw[z,e] at fl;cases fl) e4
   rw[fl] at e5;cases e5
 obtain⟨ys1,ep1⟩:=pt1.lst
 refine⟨_,rfl,_,_,rfl,rfl,⟨by decide,by decide,by decide⟩,(by show 1<=1000;decide),λ ta H2 S2 f2 e2=>?_⟩
 refine⟨_,_,rfl,rfl,⟨by decide,by decide,by decide⟩,_,_,rfl,rfl,λ dd H3 S3 f3 e3=>⟨(by show 12<=1000;decide),λ ls H4 S4 f4 e4=>?_⟩⟩
 have pt4:=pt1.same (S2.trans (S3.trans S4))
 refine⟨_,rfl,l,12,rfl,pt4,by decide,by decide,λ r0 H5 r00 r01 b5 pt5=>?_⟩
 have npot:∀ {J:Hp}{b:j7},Pot J l->J b=none->b≠l:=λ pp hb z=>by
  obtain⟨xs,e⟩:=pp.lst
  rw[z,e] at hb;cases hb
 obtain⟨tv,htv,hat⟩:=zbg (xs:=[V.int 0,V.int 100,V.int (-1),V.bl true,V.str "3",V.non,V.int (10^59),V.ref ta,V.bl false,V.int (1-10^59),V.str "",V.ref dd]) r00 r01
 refine⟨ls,_,_,_,rfl,rfl,SqL.of (b5 _ _ (npot (pt1.same (S2.trans S3)) f4) e4),hat,?_⟩
 refine⟨_,rfl,l,4,rfl,pt5,by decide,by decide,λ r1 H6 r10 r11 b6 pt6=>?_⟩
 refine⟨_,rfl,l,8,rfl,pt6,by decide,by decide,λ wv H7 n ts b7 pt7 ok n8 isw=>?_⟩
 have few60:=ok.few
 refine⟨_,rfl,_,rfl,l,n,ts,wv,rfl,pt7,isw,few60,λ kv H8 ks b8 pt8 ko isk=>?_⟩
 obtain⟨sh1,sh2,sh3,sh4⟩:=show30 ok ko
 have b14:But l H1 H8:=(Same.but (S2.trans (S3.trans S4))).trans (b5.trans (b6.trans (b7.trans b8)))
 have isw8:Is K H8 (webD n ts) wv:=by
  obtain⟨_,ep7⟩:=pt7.lst
  exact Is.but b8 ep7 _ (cI n ts) isw
 have wk8:WK K H8 n ts ks wv kv:=⟨isw8,ok,isk,ko⟩
 have t8:T3 p0 p1 p2 H8:=(tJ.same s1).but b14 ep1
 have bH8:Bt3 p0 p1 p2 H H8:=λ b o z0 z1 z2 e=>b14 _ _ (λ x=>by rw[x,fl0] at e;cases e) (s1 _ _ (b0 _ _ z0 z1 z2 e))
 have b58:But l H4 H8:=b5.trans (b6.trans (b7.trans b8))
 have ta8:H8 ta=some (.tup [.int 3]):=b58 _ _ (npot pt1 f2) (S4 _ _ (S3 _ _ e2))
 have dd8:H8 dd=some (.dK []):=b58 _ _ (npot (pt1.same S2) f3) (S4 _ _ e3)
 have odd8:∀ J,Bt3 p0 p1 p2 H8 J->OddV K J tv:=λ J bJ=>by
  simp only [l7,uag,or_false] at htv
  rcases htv with rfl | rfl | rfl | rfl | rfl | rfl | rfl | rfl | rfl | rfl | rfl | rfl
  ·exact .inl ⟨.int _,rfl,rfl⟩
  ·exact .inl ⟨.int _,rfl,rfl⟩
  ·exact .inl ⟨.int _,rfl,rfl⟩
  ·exact .inl ⟨.bool _,rfl,rfl⟩
  ·exact .inl ⟨.str _,rfl,rfl⟩
  ·exact .inl ⟨.none,rfl,rfl⟩
  ·exact .inl ⟨.int _,rfl,by symm⟩
  ·exact .inl ⟨.tuple [.int 3],⟨ta,_,rfl,t8.tk bJ _ _ ta8,_,_,rfl,rfl,rfl⟩,rfl⟩
  ·exact .inl ⟨.bool _,rfl,rfl⟩
  ·exact .inl ⟨.int _,rfl,by symm⟩
  ·exact .inl ⟨.str _,rfl,rfl⟩
  ·exact .inr ⟨dd,_,rfl,bJ _ _ (λ z=>by obtain⟨_,e',_⟩:=t8.t0;rw[z,e'] at dd8;cases dd8) (λ z=>by obtain⟨_,e',_⟩:=t8.t1;rw[z,e'] at dd8;cases dd8) (λ z=>by obtain⟨_,e',_⟩:=t8.t2;rw[z,e'] at dd8;cases dd8) dd8⟩
 refine⟨_,rfl,_,rfl,(by show 2<=1000;decide),λ lw H9 S9 f9 e9=>?_⟩
 have wk9:=wk8.same S9
 refine⟨lw,.list [webD n ts,keepD ks],rfl,⟨lw,_,rfl,e9,_,_,rfl,wk9.1,_,_,rfl,wk9.2.2.1,rfl⟩,sh1,sh2,sh3,sh4,?_⟩
 obtain⟨SS,eSS⟩:∃ SS,SS=(udo [webD n ts,keepD ks]).shown:=⟨_,rfl⟩
 rw[← eSS]
 obtain⟨c,rfl⟩:∃ c:Nat,r1=(c:Int):=⟨r1.toNat,by left⟩
 have t9:=t8.same S9
 refine⟨4,rfl,by decide,by decide,?_⟩
 refine eB (n:=4) (λ i' σ J=>∃ y8 y9 y10:Option V,σ=[some (.ref a),some (.int (0+(i:Int))),some (.ref l),some tv,some (.int (c:Int)),some wv,some kv,some (.str SS),y8,y9,y10]/\Bt3 p0 p1 p2 H8 J/\T3 p0 p1 p2 J) ⟨_,_,_,rfl,λ b o _ _ _ e=>S9 _ _ e,t9⟩ (λ i' σ J hi' h=>?_) (λ σ J h=>?_)
 ·obtain⟨y8,y9,y10,rfl,bJ,tJ'⟩:=h
  have wkJ:WK K J n ts ks wv kv:=⟨bF (t8.tk bJ) _ (cI n ts) isw8,ok,bF (t8.tk bJ) _ (cN ks) isk,ko⟩
  obtain⟨m,em,m4⟩:∃ m:Nat,((c:Int)+(0+(i':Int)))%4=(m:Int)/\m<4:=⟨(((c:Int)+(0+(i':Int)))%4).toNat,by left,by left⟩
  refine⟨_,rfl,_,rfl,_,_,rfl,rfl,_,_,rfl,rfl,(by show (0:Int)<4;decide),?_⟩
  dsimp only
  rw[em]
  refine⟨(by show 2<=1000;decide),λ lt J1 S1 f1 e1=>⟨lt,rfl,⟨_,SqL.of e1⟩,?_⟩⟩
  refine jY m4 n01 n02 n12' e1 (tJ'.same S1) (wkJ.same S1) ⟨_,rfl⟩ λ D d1 d2 G1 fD bG1 tG1 ad1 ad2 isD=>?_
  have bJG1:Bt3 p0 p1 p2 J G1:=λ b o z0 z1 z2 e=>bG1 _ _ z0 z1 z2 (S1 _ _ e)
  have wkG1:WK K G1 n ts ks wv kv:=⟨bF (tJ'.tk bJG1) _ (cI n ts) wkJ.1,ok,bF (tJ'.tk bJG1) _ (cN ks) wkJ.2.2.1,ko⟩
  refine⟨_,rfl,_,rfl,_,rfl,_,rfl,m,n,ts,wv,kv,tv,rfl,m4,wkG1.1,few60,odd8 _ (λ b o z0 z1 z2 e=>bJG1 _ _ z0 z1 z2 (bJ _ _ z0 z1 z2 e)),λ G2 S2'=>⟨_,rfl,iteF ?_⟩⟩
  refine⟨(by show 2<=1000;decide),λ lt2 J3 S3' f3' e3'=>⟨lt2,rfl,⟨_,SqL.of e3'⟩,?_⟩⟩
  have S13:=S2'.trans S3'
  have tG3:=tG1.same S13
  refine jY m4 n01 n02 n12' e3' tG3 (wkG1.same S13) ⟨_,rfl⟩ λ D2 d1' d2' G4 fD2 bG4 tG4 ad1' ad2' isD2=>?_
  have ed1:d1'=d1:=ad1'.one ok ad1
  have ed2:d2'=d2:=ad2'.one ok ad2
  subst ed1;subst ed2
  have b14':Bt3 p0 p1 p2 G1 G4:=λ b o z0 z1 z2 e=>bG4 _ _ z0 z1 z2 (S13 _ _ e)
  have tk14:=tG1.tk b14'
  obtain⟨_,_,eD,hD,v1,w1,ew1,i1,v2,w2,ew2,i2,ew3⟩:=isD
  cases eD;subst ew1;subst ew2;subst ew3
  have hD4:G4 D=some (.lst [v1,v2]):=b14' _ _ (λ z=>by obtain⟨_,e',_⟩:=tG1.t0;rw[z,e'] at hD;cases hD) (λ z=>by obtain⟨_,e',_⟩:=tG1.t1;rw[z,e'] at hD;cases hD) (λ z=>by obtain⟨_,e',_⟩:=tG1.t2;rw[z,e'] at hD;cases hD) hD
  have isD4:Is K G4 (.list [d1',d2']) (.ref D):=⟨D,_,rfl,hD4,_,_,rfl,bF tk14 _ ad1.lay.2.1 i1,_,_,rfl,bF tk14 _ ad2.lay.2.1 i2,rfl⟩
  have lay:(udo [d1',d2']).canLay0=true:=by
   show (d1'.canLay0&&(d2'.canLay0&&true))=true
   rw[ad1.lay.1,ad2.lay.1];rfl
  have dp:(udo [d1',d2']).depth<=6:=by
   have x1:=ad1.lay.2.2
   have x2:=ad2.lay.2.2
   show max d1'.depth (max d2'.depth 0)+1<=6
   left
  refine⟨_,rfl,.list [d1',d2'],.list [d1',d2'],isD2,isD4,lay,lay,units (w6 (Nat.min_le_left _ _) dp),_,rfl,iteNB (SeqAt.eqv_refl _ lay) ?_⟩
  have bJ4:Bt3 p0 p1 p2 J G4:=λ b o z0 z1 z2 e=>b14' _ _ z0 z1 z2 (bJG1 _ _ z0 z1 z2 e)
  have wkG4:WK K G4 n ts ks wv kv:=⟨bF (tJ'.tk bJ4) _ (cI n ts) wkJ.1,ok,bF (tJ'.tk bJ4) _ (cN ks) wkJ.2.2.1,ko⟩
  refine⟨_,rfl,_,rfl,(by show 2<=1000;decide),λ lw2 G5 S5' f5' e5'=>?_⟩
  have wkG5:=wkG4.same S5'
  refine⟨lw2,.list [webD n ts,keepD ks],rfl,⟨lw2,_,rfl,e5',_,_,rfl,wkG5.1,_,_,rfl,wkG5.2.2.1,rfl⟩,sh1,sh2,sh3,sh4,?_⟩
  rw[← eSS]
  refine⟨_,rfl,rfl,_,rfl,iteFe (by rw[uf9 rfl];rfl) ?_⟩
  exact⟨_,_,_,rfl,λ b o z0 z1 z2 e=>S5' _ _ (bJ4 _ _ z0 z1 z2 (bJ _ _ z0 z1 z2 e)),tG4.same S5'⟩
 ·obtain⟨y8,y9,y10,rfl,bJ,tJ'⟩:=h
  exact⟨_,_,_,_,_,_,_,_,_,_,rfl,λ b o z0 z1 z2 e=>bJ _ _ z0 z1 z2 (bH8 _ _ z0 z1 z2 e),tJ'⟩
end
end Me
namespace Me
open PySem PySem.Spec PyProof.Rows L2 L3
abbrev Bdq (x:Str)(st:ubv)(ps:List Str):Prop:=∀ (kV doc pm:d7)(an:Option j7)(cdv ct:d7)(us:List d7),us.length=ps.length->bindArgs (ua3 x x (defArgs st) (defBody st) (defScope st) .none kV doc pm an cdv ct) ⟨us,[]⟩=pure (ps.zip us)
theorem zbd {K:a8}{h:Heap}{mg:Str->Option d7}{x:Str}{st:ubv}{ps:List Str}{f:j7}{od an:Option j7}{sl:Array (Option d7)}{oc kV dc pm cd ct:d7}(X:K.In h)(G:h.Ns l6 mg)
  (b:∀ (kV doc pm:d7)(an:Option j7)(cdv ct:d7)(us:List d7),us.length=ps.length->bindArgs (ua3 x x (defArgs st) (defBody st) (defScope st) .none kV doc pm an cdv ct) ⟨us,[]⟩=pure (ps.zip us))
  (a:o9 K l6 x=some (some (.ref f))) (l:K.lookup f=some ⟨oc,od,.func (ua3 x x (defArgs st) (defBody st) (defScope st) .none kV dc pm an cd ct),sl⟩) (c:ub4 K cd x=true) (k:ua6 K (.ref f)=true):DefOk K mg x st ps:=by
 have F:=gF (st:=st) l c k
 exact⟨f,_,F,F.binds b,uau X G a⟩
theorem dq {p:m9}{K:a8}{h:Heap}{mg:Str->Option d7}{x:Str}{st:ubv}{ps:List Str}(f c j u:Nat)(X:K.In h)(G:h.Ns l6 mg)
  (b:∀ (kV doc pm:d7)(an:Option j7)(cdv ct:d7)(us:List d7),us.length=ps.length->bindArgs (ua3 x x (defArgs st) (defBody st) (defScope st) .none kV doc pm an cdv ct) ⟨us,[]⟩=pure (ps.zip us))
  (a:o9 K l6 x=some (some (.ref f)):=by kernel_rfl) (l:K.lookup f=some ⟨.type "function",none,.func (ua3 x x (defArgs st) (defBody st) (defScope st) .none .none .none (Hx.mdV p ⟨0,0,0,j,u,0⟩) none (.ref c) .none),#[]⟩:=by kernel_rfl) (cc:ub4 K (.ref c) x=true:=by kernel_rfl) (k:ua6 K (.ref f)=true:=by kernel_rfl):DefOk K mg x st ps:=zbd X G b a l cc k
theorem tM:Bdq "is_whole" s_is_whole ["thing"]:=by ac_rfl
theorem sK:Bdq "is_wholes" s_is_wholes ["thing"]:=by ac_rfl
theorem qT:Bdq "is_tuple_of" s_is_tuple_of ["thing","many"]:=by ac_rfl
theorem uU:Bdq "is_told" s_is_told ["thing","word","many"]:=by ac_rfl
theorem tN:Bdq "is_place" s_is_place ["web","thing"]:=by ac_rfl
theorem yO:Bdq "whole" s_whole ["web"]:=by ac_rfl
theorem qS:Bdq "tie_between" s_tie_between ["web","a","b"]:=by ac_rfl
theorem tL:Bdq "order_of" s_order_of ["web"]:=by ac_rfl
theorem pG:Bdq "are_unlike_places" s_are_unlike_places ["web","thing"]:=by ac_rfl
theorem rJ:Bdq "ties_along" s_ties_along ["web","places"]:=by ac_rfl
theorem sE:Bdq "way_right" s_way_right ["web","keep","way"]:=by ac_rfl
theorem pS:Bdq "leads_between" s_leads_between ["web","keep","a","b","way"]:=by ac_rfl
theorem rH:Bdq "way_length" s_way_length ["web","way"]:=by ac_rfl
theorem qR:Bdq "tie_weights" s_tie_weights ["web"]:=by ac_rfl
theorem sM:Bdq "cost_with" s_cost_with ["cost","length","weight"]:=by ac_rfl
theorem qF:Bdq "reached_from" s_reached_from ["web","keep","root"]:=by ac_rfl
theorem sL:Bdq "fars_from" s_fars_from ["web","keep","root"]:=by ac_rfl
theorem sF:Bdq "tree_from" s_tree_from ["web","keep","root"]:=by ac_rfl
theorem uS:Bdq "the_way" s_the_way ["web","keep","a","b"]:=by ac_rfl
theorem wG:Bdq "across" s_across ["web","tie","heights"]:=by ac_rfl
theorem qG:Bdq "heights_hold" s_heights_hold ["web","keep","heights"]:=by ac_rfl
theorem qH:Bdq "heights_from" s_heights_from ["web","keep","a","roof"]:=by ac_rfl
theorem uR:Bdq "without" s_without ["keep","tie"]:=by ac_rfl
theorem yP:Bdq "spare" s_spare ["web","keep","tie"]:=by ac_rfl
theorem rM:Bdq "need_times" s_need_times ["t"]:=by ac_rfl
theorem wE:Bdq "way_of" s_way_of ["web","keep","tie"]:=by ac_rfl
theorem sJ:Bdq "is_within" s_is_within ["web","tie","t","way"]:=by ac_rfl
theorem rO:Bdq "heights_of" s_heights_of ["web","keep","tie","t"]:=by ac_rfl
theorem rG:Bdq "way_within" s_way_within ["web","keep","tie","t","way"]:=by ac_rfl
theorem pM:Bdq "heights_beyond" s_heights_beyond ["web","keep","tie","t","heights"]:=by ac_rfl
theorem tK:Bdq "with_tie" s_with_tie ["keep","tie"]:=by ac_rfl
theorem sI:Bdq "reason_of" s_reason_of ["web","keep","tie","t"]:=by ac_rfl
theorem yQ:Bdq "ruled" s_ruled ["keep","ties","word","reason_for"]:=by ac_rfl
theorem qD:Bdq "ruled_behind" s_ruled_behind ["web","keep","ties","t"]:=by ac_rfl
theorem sG:Bdq "ring_rule" s_ring_rule ["web","t"]:=by ac_rfl
theorem uT:Bdq "rule_in" s_rule_in ["web","order","t"]:=by ac_rfl
theorem rK:Bdq "shown_keep" s_shown_keep ["web","reasons","verdict"]:=by ac_rfl
theorem pR:Bdq "reasons_right" s_reasons_right ["web","told","verdict"]:=by ac_rfl
theorem qE:Bdq "ring_verdict" s_ring_verdict ["web","keep","tie","t","reason"]:=by ac_rfl
theorem rL:Bdq "rule_right" s_rule_right ["web","t","told"]:=by ac_rfl
theorem wF:Bdq "needed" s_needed ["web","keep","t"]:=by ac_rfl
theorem tP:Bdq "_law_pot" s__law_pot ["script","k"]:=by ac_rfl
theorem sO:Bdq "_law_take" s__law_take ["pot","many"]:=by ac_rfl
theorem qU:Bdq "_law_length" s__law_length ["pot","way"]:=by ac_rfl
theorem sN:Bdq "_law_tied" s__law_tied ["pot","n","style","a","b"]:=by ac_rfl
theorem rP:Bdq "_law_order" s__law_order ["pot","many"]:=by ac_rfl
theorem tO:Bdq "_law_web" s__law_web ["pot","most"]:=by ac_rfl
theorem sP:Bdq "_law_keep" s__law_keep ["pot","web"]:=by ac_rfl
theorem rQ:Bdq "_law_asked" s__law_asked ["which","web","keep","t"]:=by ac_rfl
theorem qI:Bdq "_law_refused" s__law_refused ["which","web","keep","t"]:=by ac_rfl
theorem zZ {P:m9}{w:uaf}{K:a8}{mg:Str->Option d7}{base:Heap}{f:j7}{fd:ubm}{c0 p0 c1 p1 c2 p2:j7}(T:Bi mg){xE xT xM x1 x2 x3 x4 x5 x6 x7 x8 x9 x10 xW:j7}(m_ThinError:mg "ThinError"=some (.ref xE))(m_NoTimes:mg "NoTimes"=some (.ref xT))(m_TooMany:mg "TooMany"=some (.ref xM))(m_NoBack:mg "NoBack"=some (.ref x1))(m_NoFalls:mg "NoFalls"=some (.ref x2))(m_NoLength:mg "NoLength"=some (.ref x3))(m_NoLevels:mg "NoLevels"=some (.ref x4))(m_NoLine:mg "NoLine"=some (.ref x5))(m_NoOrder:mg "NoOrder"=some (.ref x6))(m_NoPlain:mg "NoPlain"=some (.ref x7))(m_NoShare:mg "NoShare"=some (.ref x8))(m_NoText:mg "NoText"=some (.ref x9))(m_NoTie:mg "NoTie"=some (.ref x10))(m_NoWeb:mg "NoWeb"=some (.ref xW))(z_ValueError:mg "ValueError"=none)(xm_NoTimes:XM K xT)(XF:XF30 K xE xT xM x1 x2 x3 x4 x5 x6 x7 x8 x9 x10 xW)(D_order_of:DefOkC K mg "order_of" s_order_of ["web"] c0)(l_order_of:LamHd mg base c0 p0)(D_ruled_behind:DefOkC K mg "ruled_behind" s_ruled_behind ["web","keep","ties","t"] c1)(l_ruled_behind:LamHd mg base c1 p1)(D_rule_right:DefOkC K mg "rule_right" s_rule_right ["web","t","told"] c2)(l_rule_right:LamHd mg base c2 p2)
  (D_is_whole:DefOk K mg "is_whole" s_is_whole ["thing"])
  (D_is_wholes:DefOk K mg "is_wholes" s_is_wholes ["thing"])
  (D_is_tuple_of:DefOk K mg "is_tuple_of" s_is_tuple_of ["thing","many"])
  (D_is_told:DefOk K mg "is_told" s_is_told ["thing","word","many"])
  (D_is_place:DefOk K mg "is_place" s_is_place ["web","thing"])
  (D_whole:DefOk K mg "whole" s_whole ["web"])
  (D_tie_between:DefOk K mg "tie_between" s_tie_between ["web","a","b"])
  (D_are_unlike_places:DefOk K mg "are_unlike_places" s_are_unlike_places ["web","thing"])
  (D_ties_along:DefOk K mg "ties_along" s_ties_along ["web","places"])
  (D_way_right:DefOk K mg "way_right" s_way_right ["web","keep","way"])
  (D_leads_between:DefOk K mg "leads_between" s_leads_between ["web","keep","a","b","way"])
  (D_way_length:DefOk K mg "way_length" s_way_length ["web","way"])
  (D_tie_weights:DefOk K mg "tie_weights" s_tie_weights ["web"])
  (D_cost_with:DefOk K mg "cost_with" s_cost_with ["cost","length","weight"])
  (D_reached_from:DefOk K mg "reached_from" s_reached_from ["web","keep","root"])
  (D_fars_from:DefOk K mg "fars_from" s_fars_from ["web","keep","root"])
  (D_tree_from:DefOk K mg "tree_from" s_tree_from ["web","keep","root"])
  (D_the_way:DefOk K mg "the_way" s_the_way ["web","keep","a","b"])
  (D_across:DefOk K mg "across" s_across ["web","tie","heights"])
  (D_heights_hold:DefOk K mg "heights_hold" s_heights_hold ["web","keep","heights"])
  (D_heights_from:DefOk K mg "heights_from" s_heights_from ["web","keep","a","roof"])
  (D_without:DefOk K mg "without" s_without ["keep","tie"])
  (D_spare:DefOk K mg "spare" s_spare ["web","keep","tie"])
  (D_need_times:DefOk K mg "need_times" s_need_times ["t"])
  (D_way_of:DefOk K mg "way_of" s_way_of ["web","keep","tie"])
  (D_is_within:DefOk K mg "is_within" s_is_within ["web","tie","t","way"])
  (D_heights_of:DefOk K mg "heights_of" s_heights_of ["web","keep","tie","t"])
  (D_way_within:DefOk K mg "way_within" s_way_within ["web","keep","tie","t","way"])
  (D_heights_beyond:DefOk K mg "heights_beyond" s_heights_beyond ["web","keep","tie","t","heights"])
  (D_with_tie:DefOk K mg "with_tie" s_with_tie ["keep","tie"])
  (D_reason_of:DefOk K mg "reason_of" s_reason_of ["web","keep","tie","t"])
  (D_ruled:DefOk K mg "ruled" s_ruled ["keep","ties","word","reason_for"])
  (D_ring_rule:DefOk K mg "ring_rule" s_ring_rule ["web","t"])
  (D_rule_in:DefOk K mg "rule_in" s_rule_in ["web","order","t"])
  (D_shown_keep:DefOk K mg "shown_keep" s_shown_keep ["web","reasons","verdict"])
  (D_reasons_right:DefOk K mg "reasons_right" s_reasons_right ["web","told","verdict"])
  (D_ring_verdict:DefOk K mg "ring_verdict" s_ring_verdict ["web","keep","tie","t","reason"])
  (D_needed:DefOk K mg "needed" s_needed ["web","keep","t"])
  (D__law_pot:DefOk K mg "_law_pot" s__law_pot ["script","k"])
  (D__law_take:DefOk K mg "_law_take" s__law_take ["pot","many"])
  (D__law_length:DefOk K mg "_law_length" s__law_length ["pot","way"])
  (D__law_tied:DefOk K mg "_law_tied" s__law_tied ["pot","n","style","a","b"])
  (D__law_order:DefOk K mg "_law_order" s__law_order ["pot","many"])
  (D__law_web:DefOk K mg "_law_web" s__law_web ["pot","most"])
  (D__law_keep:DefOk K mg "_law_keep" s__law_keep ["pot","web"])
  (D__law_asked:DefOk K mg "_law_asked" s__law_asked ["which","web","keep","t"])
  (D__law_refused:DefOk K mg "_law_refused" s__law_refused ["which","web","keep","t"])
  (F:Fun K "law" "law" s_law f fd):FnOk P w K mg base CX0 13 f fd ["script"] (spLaw K p0 p1 p2):=by
 have O__law_take:=sA (P:=P) (w:=w) (base:=base) T D__law_take
 have O__law_pot:=tE (P:=P) (w:=w) (base:=base) T D__law_pot
 have O__law_length:=qM T D__law_length O__law_take
 have O__law_tied:=rZ T D__law_tied O__law_take
 have O__law_order:=rD T D__law_order O__law_take
 have O__law_web:=tD T D__law_web (O__law_take.mono (by decide)) O__law_order O__law_tied O__law_length
 have O__law_keep:=sB T D__law_keep O__law_take
 have O_tie_weights:=qJ (P:=P) (w:=w) (base:=base) T D_tie_weights
 have O_cost_with:=rY (P:=P) (w:=w) (base:=base) T D_cost_with
 have O_reached_fromC:=pO T D_reached_from O_tie_weights O_cost_with
 have O_reached_from:‹2› "reached_from" ["web","keep","root"] (spReached K):=O_reached_fromC.imp vE
 have O_reached_fromB:‹2› "reached_from" ["web","keep","root"] (spReachedB K):=O_reached_fromC.imp vF
 have O_fars_from:=rX T D_fars_from O_reached_from
 have O_heights_from:=qA T D_heights_from O_fars_from
 have O_tree_from:=qX T D_tree_from O_reached_fromB
 have O_the_wayB:=sX T D_the_way O_tree_from
 have O_the_way:‹4› "the_way" ["web","keep","a","b"] (spWayU K):=O_the_wayB.imp zbj
 have O_tie_between:=qK (P:=P) (w:=w) (base:=base) T D_tie_between
 have O_ties_along:=qY T D_ties_along O_tie_between
 have O_way_length:=qW T D_way_length O_ties_along
 have O_is_whole:=sZ (P:=P) (w:=w) (base:=base) T D_is_whole
 have O_need_times:=rA T D_need_times O_is_whole
 have O_is_within:=rV T D_is_within O_way_length
 have O_whole:=xD (P:=P) (w:=w) (base:=base) T D_whole
 have O_way_of:=uA T D_way_of O_the_way
 have O_heights_of:=qL T D_heights_of O_heights_from
 have O_order_of:=sY T D_order_of l_order_of (O_whole.mono (by decide))
 have O_with_tie:=sW (P:=P) (w:=w) (base:=base) T D_with_tie
 have O_reason_of:=rS T D_reason_of O_way_of (O_is_within.mono (by decide)) O_heights_of
 have O_ruled_behind:=pV T D_ruled_behind l_ruled_behind D_ruled (O_with_tie.mono (by decide)) O_reason_of
 have O_ring_rule:=rR T D_ring_rule (O_need_times.mono (by decide)) (O_order_of.mono (by decide)) O_ruled_behind
 have O_without:=tZ (P:=P) (w:=w) (base:=base) T D_without
 have O_spare:=xF T D_spare (O_without.mono (by decide)) (O_the_way.imp zA)
 have O_needed:=vJ T D_needed (O_need_times.mono (by decide)) (O_is_within.mono (by decide)) O_spare
 have O_is_wholes:=rW T D_is_wholes O_is_whole
 have O_is_tuple_of:=pZ (P:=P) (w:=w) (K:=K) (base:=base) T D_is_tuple_of
 have O_rule_in:=uB T D_rule_in (O_need_times.mono (by decide)) (O_is_wholes.mono (by decide)) (O_whole.mono (by decide)) O_ruled_behind
 have O_shown_keep:=pU T D_shown_keep (O_order_of.mono (by decide))
 have O_reasons_right:=pJ T D_reasons_right (O_is_tuple_of.mono (by decide)) (O_is_wholes.mono (by decide)) O_shown_keep
 have O_rule_right:=pW T D_rule_right l_rule_right (O_need_times.mono (by decide)) O_reasons_right
 have O_is_wholeO:=rC (P:=P) (w:=w) (K:=K) (base:=base) T D_is_whole
 have O_need_timesX:=pY T D_need_times m_NoTimes xm_NoTimes O_is_wholeO
 have XO1:=pX T D_ring_rule O_need_timesX
 have XO2:=pN T (DefOkC.ok30 D_rule_right) O_need_timesX
 have XO3:=qZ T D_rule_in O_need_timesX
 have XO4:=rT T D_needed O_need_timesX
 have O__law_asked:=qB T D__law_asked (O_ring_rule.mono (by decide)) (O_rule_right.mono (by decide)) (O_rule_in.mono (by decide)) (O_needed.mono (by decide))
 have O__law_askedX:=pP T D__law_asked XO1 XO2 XO3 XO4
 have O__law_refused:=pK T D__law_refused m_ThinError m_NoTimes m_TooMany m_NoBack m_NoFalls m_NoLength m_NoLevels m_NoLine m_NoOrder m_NoPlain m_NoShare m_NoText m_NoTie m_NoWeb z_ValueError XF O__law_askedX
 exact za7 T F (O__law_pot.mono (by decide)) (O__law_take.mono (by decide)) (O__law_web.mono (by decide)) (O__law_keep.mono (by decide)) (O__law_asked.mono (by decide)) (O__law_refused.mono (by decide))
theorem dqC {p:m9}{K:a8}{h:Heap}{mg:Str->Option d7}{x:Str}{st:ubv}{ps:List Str}{cT pT:j7}(f c j u:Nat)(X:K.In h)(G:h.Ns l6 mg)
  (b:∀ (kV doc pm:d7)(an:Option j7)(cdv ct:d7)(us:List d7),us.length=ps.length->bindArgs (ua3 x x (defArgs st) (defBody st) (defScope st) .none kV doc pm an cdv ct) ⟨us,[]⟩=pure (ps.zip us))
  (a:o9 K l6 x=some (some (.ref f))) (l:K.lookup f=some ⟨.type "function",none,.func (ua3 x x (defArgs st) (defBody st) (defScope st) .none .none .none (Hx.mdV p ⟨0,0,0,j,u,0⟩) none (.ref c) .none),#[]⟩) (cc:ub4 K (.ref c) x=true) (k:ua6 K (.ref f)=true) (t:uam K x=some (cT,pT)):DefOkC K mg x st ps cT:=zai X G b a l cc k t
theorem walk {l:PySem.W.OpenLaw}{q:m9}{loose:List Str}{XP:(Str->Option d7)->Heap->Prop}{YP:uaf->Heap->Prop}{d d0 d1 d2:DefRec}{K:Params->a8}(hn:l.most=some 63)(hdf:d.params.defaults=[])
  (hY:∀ (w:uaf)(h:Heap),YP w h->(K w.params).In h) (hrec0:(recsOf q).find? (λ e=>e.name==u7 "order_of")=some d0) (hrec1:(recsOf q).find? (λ e=>e.name==u7 "ruled_behind")=some d1) (hrec2:(recsOf q).find? (λ e=>e.name==u7 "rule_right")=some d2)
  (htab:∀ w:uaf,∃ c0 p0 c1 p1 c2 p2,uam (K w.params) "order_of"=some (c0,p0)/\uam (K w.params) "ruled_behind"=some (c1,p1)/\uam (K w.params) "rule_right"=some (c2,p2)/\[p0,p1,p2].Nodup) (hnt:∀ w:uaf,ufm (K w.params)=true)
  (F:∀ (w:uaf)(mg:Str->Option d7)(fa:j7)(h:Heap)(c0 p0 c1 p1 c2 p2:j7),(K w.params).In h->h.Ns l6 mg->mg d.name=some (.ref fa)->uam (K w.params) "order_of"=some (c0,p0)->uam (K w.params) "ruled_behind"=some (c1,p1)->uam (K w.params) "rule_right"=some (c2,p2) ->
   ∃ fd:ubm,(∀ (s:d8)(u:d7),BindsTo s fd ⟨[u],[]⟩ [("script",u)])/\∀ base:Heap,(K w.params).In base->base.Ns l6 mg->LamHd mg base c0 p0->LamHd mg base c1 p1->LamHd mg base c2 p2->FnOk l.prog w (K w.params) mg base CX0 13 fa fd ["script"] (spLaw (K w.params) p0 p1 p2)) :
  PySem.W.WalkO q loose XP YP l.row.toRowW d [] (λ f vs=>PySem.call f vs) :=
 wM (n:=63) (k:=13) (x:="script") (x1:="order_of") (x2:="ruled_behind") (x3:="rule_right") (sp:=λ w p0 p1 p2=>spLaw (K w.params) p0 p1 p2) hn (by decide) hdf ⟨rfl,by decide,by decide,rfl⟩ hY hrec0 hrec1 hrec2 htab hnt F λ _ _ _ _ _ a ns ne hl hS hP0 hP1 hP2=>⟨a,ns,rfl,hS,hl,ne,⟨#[],hP0,.inl rfl⟩,⟨#[],hP1,.inl rfl⟩,⟨#[],hP2,.inl rfl⟩,λ _=>rfl⟩
end Me
namespace Hy
open PySem PySem.W Hx
def cs:List Ch:=[⟨0,15,187,0,187,0⟩,⟨1,15,189,0,187,0⟩,⟨2,28,207,0,187,24⟩,⟨3,40,223,0,187,24⟩,⟨4,52,239,0,187,24⟩,⟨5,64,255,0,187,24⟩,⟨6,76,271,0,187,24⟩,⟨7,88,287,0,187,24⟩,⟨8,100,303,0,187,24⟩,⟨9,112,319,0,187,24⟩,⟨10,124,335,0,187,24⟩,⟨11,136,351,0,187,24⟩,⟨12,148,367,0,187,24⟩,⟨13,160,383,0,187,24⟩,⟨14,172,399,0,187,24⟩,⟨15,184,415,15,415,0⟩,⟨16,184,417,15,415,0⟩,⟨17,191,424,15,415,0⟩,⟨18,196,430,15,415,0⟩,⟨19,203,438,15,415,0⟩,⟨20,210,447,20,447,0⟩,⟨21,210,449,20,447,0⟩,⟨22,217,457,20,447,0⟩,⟨23,224,464,20,447,0⟩,⟨24,231,476,20,447,0⟩,⟨25,238,484,25,484,0⟩,⟨26,238,486,25,484,0⟩,⟨27,243,492,25,484,0⟩,⟨28,248,498,25,484,0⟩,⟨29,253,504,25,484,0⟩,⟨30,260,515,25,484,0⟩,⟨31,265,521,25,484,0⟩,⟨32,272,531,25,484,0⟩,⟨33,279,540,25,484,0⟩,⟨34,286,560,25,484,0⟩,⟨35,291,566,25,484,0⟩,⟨36,298,577,25,484,0⟩,⟨37,305,589,37,589,0⟩,⟨38,305,591,37,589,0⟩,⟨39,312,603,37,589,0⟩,⟨40,317,609,37,589,0⟩,⟨41,322,615,41,615,0⟩,⟨42,322,617,41,615,0⟩,⟨43,327,623,41,615,0⟩,⟨44,334,635,44,635,0⟩,⟨45,334,637,44,635,0⟩,⟨46,341,644,44,635,0⟩,⟨47,348,656,44,635,0⟩,⟨48,355,666,44,635,0⟩,⟨49,362,679,44,635,0⟩,⟨50,369,693,44,635,0⟩,⟨51,376,704,51,704,0⟩,⟨52,376,706,51,704,0⟩,⟨53,383,714,51,704,0⟩,⟨54,390,725,51,704,0⟩,⟨55,397,738,51,704,0⟩,⟨56,404,750,51,704,0⟩,⟨57,411,758,51,704,0⟩,⟨58,418,769,51,704,0⟩,⟨59,425,782,51,704,0⟩,⟨60,432,793,51,704,0⟩,⟨61,439,804,51,704,0⟩,⟨62,446,815,51,704,0⟩,⟨63,451,821,63,821,0⟩,⟨64,451,823,63,821,0⟩,⟨65,458,833,63,821,0⟩,⟨66,465,842,63,821,0⟩,⟨67,472,850,63,821,0⟩,⟨68,479,862,63,821,0⟩,⟨69,486,873,63,821,0⟩,⟨70,493,890,63,821,0⟩,⟨71,498,896,63,821,0⟩,⟨72,505,906,63,821,0⟩,⟨73,512,918,63,821,0⟩]
end Hy
lay_quick Hx.PieceT Hx.PreT Hx.BlockT Hx.LookA Hx.LookB Hx.LookC PySem.Challenge.pw_thinways_k30_times_refused
namespace Hy
open PySem PySem.W Hx
theorem pre:PreT a7 boots boot_drawn boot_heap boot_toks cs ⟨0,15,187⟩:=by
 rw[PySem.W.Fast.te16428918119715843241,PySem.W.Fast.te166190893183899345];delta PySem.W.Fast.tw16428918119715843241;intro w;kernel_rfl
theorem pc0:PieceT a7 boots boot_drawn cs ⟨0,15,187⟩ ⟨2,28,207⟩ 196:=by
 rw[PySem.W.Fast.te4643275101561185336,PySem.W.Fast.te166190893183899345];delta PySem.W.Fast.tw4643275101561185336;intro w;kernel_rfl
theorem pc1:PieceT a7 boots boot_drawn cs ⟨2,28,207⟩ ⟨3,40,223⟩ 214:=by
 rw[PySem.W.Fast.te4643275101561185336,PySem.W.Fast.te166190893183899345];delta PySem.W.Fast.tw4643275101561185336;intro w;kernel_rfl
theorem pc2:PieceT a7 boots boot_drawn cs ⟨3,40,223⟩ ⟨4,52,239⟩ 214:=by
 rw[PySem.W.Fast.te4643275101561185336,PySem.W.Fast.te166190893183899345];delta PySem.W.Fast.tw4643275101561185336;intro w;kernel_rfl
theorem pc3:PieceT a7 boots boot_drawn cs ⟨4,52,239⟩ ⟨5,64,255⟩ 214:=by
 rw[PySem.W.Fast.te4643275101561185336,PySem.W.Fast.te166190893183899345];delta PySem.W.Fast.tw4643275101561185336;intro w;kernel_rfl
theorem pc4:PieceT a7 boots boot_drawn cs ⟨5,64,255⟩ ⟨6,76,271⟩ 214:=by
 rw[PySem.W.Fast.te4643275101561185336,PySem.W.Fast.te166190893183899345];delta PySem.W.Fast.tw4643275101561185336;intro w;kernel_rfl
theorem pc5:PieceT a7 boots boot_drawn cs ⟨6,76,271⟩ ⟨7,88,287⟩ 214:=by
 rw[PySem.W.Fast.te4643275101561185336,PySem.W.Fast.te166190893183899345];delta PySem.W.Fast.tw4643275101561185336;intro w;kernel_rfl
theorem pc6:PieceT a7 boots boot_drawn cs ⟨7,88,287⟩ ⟨8,100,303⟩ 214:=by
 rw[PySem.W.Fast.te4643275101561185336,PySem.W.Fast.te166190893183899345];delta PySem.W.Fast.tw4643275101561185336;intro w;kernel_rfl
theorem pc7:PieceT a7 boots boot_drawn cs ⟨8,100,303⟩ ⟨9,112,319⟩ 214:=by
 rw[PySem.W.Fast.te4643275101561185336,PySem.W.Fast.te166190893183899345];delta PySem.W.Fast.tw4643275101561185336;intro w;kernel_rfl
theorem pc8:PieceT a7 boots boot_drawn cs ⟨9,112,319⟩ ⟨10,124,335⟩ 214:=by
 rw[PySem.W.Fast.te4643275101561185336,PySem.W.Fast.te166190893183899345];delta PySem.W.Fast.tw4643275101561185336;intro w;kernel_rfl
theorem pc9:PieceT a7 boots boot_drawn cs ⟨10,124,335⟩ ⟨11,136,351⟩ 214:=by
 rw[PySem.W.Fast.te4643275101561185336,PySem.W.Fast.te166190893183899345];delta PySem.W.Fast.tw4643275101561185336;intro w;kernel_rfl
theorem pc10:PieceT a7 boots boot_drawn cs ⟨11,136,351⟩ ⟨12,148,367⟩ 214:=by
 rw[PySem.W.Fast.te4643275101561185336,PySem.W.Fast.te166190893183899345];delta PySem.W.Fast.tw4643275101561185336;intro w;kernel_rfl
theorem pc11:PieceT a7 boots boot_drawn cs ⟨12,148,367⟩ ⟨13,160,383⟩ 214:=by
 rw[PySem.W.Fast.te4643275101561185336,PySem.W.Fast.te166190893183899345];delta PySem.W.Fast.tw4643275101561185336;intro w;kernel_rfl
theorem pc12:PieceT a7 boots boot_drawn cs ⟨13,160,383⟩ ⟨14,172,399⟩ 214:=by
 rw[PySem.W.Fast.te4643275101561185336,PySem.W.Fast.te166190893183899345];delta PySem.W.Fast.tw4643275101561185336;intro w;kernel_rfl
theorem pc13:PieceT a7 boots boot_drawn cs ⟨14,172,399⟩ ⟨22,217,457⟩ 378:=by
 rw[PySem.W.Fast.te4643275101561185336,PySem.W.Fast.te166190893183899345];delta PySem.W.Fast.tw4643275101561185336;intro w;kernel_rfl
theorem pc14:PieceT a7 boots boot_drawn cs ⟨22,217,457⟩ ⟨35,291,566⟩ 371:=by
 rw[PySem.W.Fast.te4643275101561185336,PySem.W.Fast.te166190893183899345];delta PySem.W.Fast.tw4643275101561185336;intro w;kernel_rfl
theorem pc15:PieceT a7 boots boot_drawn cs ⟨35,291,566⟩ ⟨49,362,679⟩ 371:=by
 rw[PySem.W.Fast.te4643275101561185336,PySem.W.Fast.te166190893183899345];delta PySem.W.Fast.tw4643275101561185336;intro w;kernel_rfl
theorem pc16:PieceT a7 boots boot_drawn cs ⟨49,362,679⟩ ⟨61,439,804⟩ 375:=by
 rw[PySem.W.Fast.te4643275101561185336,PySem.W.Fast.te166190893183899345];delta PySem.W.Fast.tw4643275101561185336;intro w;kernel_rfl
theorem pc17:PieceT a7 boots boot_drawn cs ⟨61,439,804⟩ ⟨74,517,924⟩ 386:=by
 rw[PySem.W.Fast.te4643275101561185336,PySem.W.Fast.te166190893183899345];delta PySem.W.Fast.tw4643275101561185336;intro w;kernel_rfl
theorem blk:BlockT a7 :=by
 rw[PySem.W.Fast.te421534021395069552,PySem.W.Fast.te166190893183899345];delta PySem.W.Fast.tw421534021395069552;intro w s;kernel_rfl
theorem run (w:uaf)(os:OsState):topRun treeTable a7 w 11 ann0 (12+(1+(196+(214+(214+(214+(214+(214+(214+(214+(214+(214+(214+(214+(214+(378+(371+(371+(375+(386+2)))))))))))))))))))) ⟨boot_heap w.params,ud9 [],boot_drawn,boot_toks,os⟩ (topStub a7)=some (stT a7 boots boot_drawn cs ⟨74,517,924⟩ w os).abs:=zH pre blk (chain pc0 (by decide) (chain pc1 (by decide) (chain pc2 (by decide) (chain pc3 (by decide) (chain pc4 (by decide) (chain pc5 (by decide) (chain pc6 (by decide) (chain pc7 (by decide) (chain pc8 (by decide) (chain pc9 (by decide) (chain pc10 (by decide) (chain pc11 (by decide) (chain pc12 (by decide) (chain pc13 (by decide) (chain pc14 (by decide) (chain pc15 (by decide) (chain pc16 (by decide) (chain pc17 (by decide) (vZ (by kernel_rfl))))))))))))))))))))
theorem size (w:uaf):((boot_heap w.params).isNs l6&&(ud9 []:Array GenState).size==0,(boot_heap w.params).objs.size,(boot_heap w.params).nsMap l6 "__annotations__")=(true,11,ann0):=by kernel_rfl
theorem lkA:LookA a7 boots boot_drawn boot_heap cs ⟨74,517,924⟩:=by
 rw[PySem.W.Fast.te7818774390570169022,PySem.W.Fast.te166190893183899345];delta PySem.W.Fast.tw7818774390570169022;intro w;kernel_rfl
theorem lkB:LookB a7 boots boot_drawn cs ⟨74,517,924⟩ [24,55,61,73] (OpenRow.toRowW (u6).row).records:=by
 rw[PySem.W.Fast.te13889730532244352606,PySem.W.Fast.te166190893183899345];delta PySem.W.Fast.tw13889730532244352606;intro w;kernel_rfl
theorem lkC:LookC a7 boots cs ⟨74,517,924⟩ [3,23,24,36,37,48,49,60,61,72,73,84,85,96,97,108,109,120,121,132,133,144,145,156,157,168,169,180,181,189,190,194,195,201,202,208,209,215,216,222,223,229,230,236,237,241,242,246,247,251,252,258,259,263,264,270,271,277,278,284,285,289,290,296,297,303,304,310,311,315,316,320,321,325,326,332,333,339,340,346,347,353,354,360,361,367,368,374,375,381,382,388,389,395,396,402,403,409,410,416,417,423,424,430,431,437,438,444,445,449,450,456,457,463,464,470,471,477,478,484,485,491,492,496,497,503,504,510,511,515,516]:=by
 rw[PySem.W.Fast.te6241646928739474683,PySem.W.Fast.te166190893183899345];delta PySem.W.Fast.tw6241646928739474683;intro w;kernel_rfl
noncomputable abbrev K:=Kf a7 boots cs
theorem Kas (P:Params):[3,23,24,36,37,48,49,60,61,72,73,84,85,96,97,108,109,120,121,132,133,144,145,156,157,168,169,180,181,189,190,194,195,201,202,208,209,215,216,222,223,229,230,236,237,241,242,246,247,251,252,258,259,263,264,270,271,277,278,284,285,289,290,296,297,303,304,310,311,315,316,320,321,325,326,332,333,339,340,346,347,353,354,360,361,367,368,374,375,381,382,388,389,395,396,402,403,409,410,416,417,423,424,430,431,437,438,444,445,449,450,456,457,463,464,470,471,477,478,484,485,491,492,496,497,503,504,510,511,515,516]=(K P).map (·.1):=by kernel_rfl
noncomputable abbrev H:Hook:=kHook K [3,23,24,36,37,48,49,60,61,72,73,84,85,96,97,108,109,120,121,132,133,144,145,156,157,168,169,180,181,189,190,194,195,201,202,208,209,215,216,222,223,229,230,236,237,241,242,246,247,251,252,258,259,263,264,270,271,277,278,284,285,289,290,296,297,303,304,310,311,315,316,320,321,325,326,332,333,339,340,346,347,353,354,360,361,367,368,374,375,381,382,388,389,395,396,402,403,409,410,416,417,423,424,430,431,437,438,444,445,449,450,456,457,463,464,470,471,477,478,484,485,491,492,496,497,503,504,510,511,515,516] Kas
theorem opn:opening a7=plainProg (a7).main.scope.names:=by kernel_rfl
theorem fnc (s:d8):fenceModules? a7 s=some s:=by kernel_rfl
theorem left:LeftO a7 (qv a7 [24,55,61,73]) (lz a7 [24,55,61,73] 74) (λ s=>xlAt (qv a7 [24,55,61,73]) [] s&&recOk (OpenRow.toRowW (u6).row).records s) (Hook.obs H) (Hook.val H) 9920 :=
 zY (p:=a7) (cs:=cs) (is:=[24,55,61,73]) (as:=[3,23,24,36,37,48,49,60,61,72,73,84,85,96,97,108,109,120,121,132,133,144,145,156,157,168,169,180,181,189,190,194,195,201,202,208,209,215,216,222,223,229,230,236,237,241,242,246,247,251,252,258,259,263,264,270,271,277,278,284,285,289,290,296,297,303,304,310,311,315,316,320,321,325,326,332,333,339,340,346,347,353,354,360,361,367,368,374,375,381,382,388,389,395,396,402,403,409,410,416,417,423,424,430,431,437,438,444,445,449,450,456,457,463,464,470,471,477,478,484,485,491,492,496,497,503,504,510,511,515,516]) (rc:=(OpenRow.toRowW (u6).row).records) (c:=⟨74,517,924⟩) (M:=12+(1+(196+(214+(214+(214+(214+(214+(214+(214+(214+(214+(214+(214+(214+(378+(371+(371+(375+(386+2)))))))))))))))))))) (N:=9920) (e:=Kas) opn (by decide) fnc size run (by decide) lkA lkB lkC
end Hy
namespace Hy
open PySem PySem.W PyProof.Rows L2 L3 Hx Me
theorem all {w:uaf}{h:Heap}{mg:Str->Option d7}{fa:j7}{c0 p0:j7}{c1 p1:j7}{c2 p2:j7}(X:(K w.params).In h)(G:h.Ns l6 mg)(hfa:mg "law"=some (.ref fa))(t0:uam (K w.params) "order_of"=some (c0,p0))(t1:uam (K w.params) "ruled_behind"=some (c1,p1))(t2:uam (K w.params) "rule_right"=some (c2,p2)) :
  ∃ fd:ubm,(∀ (s:d8)(v:d7),BindsTo s fd ⟨[v],[]⟩ [("script",v)])/\∀ base:Heap,(K w.params).In base->base.Ns l6 mg->LamHd mg base c0 p0->LamHd mg base c1 p1->LamHd mg base c2 p2->FnOk (u6).prog w (K w.params) mg base CX0 13 fa fd ["script"] (spLaw (K w.params) p0 p1 p2):=by
 have T:Bi mg:=⟨r8 X G (show o9 (K w.params) l6 "len"=some none by kernel_rfl),r8 X G (show o9 (K w.params) l6 "range"=some none by kernel_rfl),r8 X G (show o9 (K w.params) l6 "zip"=some none by kernel_rfl),r8 X G (show o9 (K w.params) l6 "all"=some none by kernel_rfl),r8 X G (show o9 (K w.params) l6 "sorted"=some none by kernel_rfl),r8 X G (show o9 (K w.params) l6 "isinstance"=some none by kernel_rfl),r8 X G (show o9 (K w.params) l6 "min"=some none by kernel_rfl),r8 X G (show o9 (K w.params) l6 "max"=some none by kernel_rfl),r8 X G (show o9 (K w.params) l6 "tuple"=some none by kernel_rfl),r8 X G (show o9 (K w.params) l6 "list"=some none by kernel_rfl),r8 X G (show o9 (K w.params) l6 "int"=some none by kernel_rfl),r8 X G (show o9 (K w.params) l6 "bool"=some none by kernel_rfl),r8 X G (show o9 (K w.params) l6 "str"=some none by kernel_rfl),r8 X G (show o9 (K w.params) l6 "enumerate"=some none by kernel_rfl),r8 X G (show o9 (K w.params) l6 "sum"=some none by kernel_rfl),r8 X G (show o9 (K w.params) l6 "abs"=some none by kernel_rfl),r8 X G (show o9 (K w.params) l6 "set"=some none by kernel_rfl),r8 X G (show o9 (K w.params) l6 "reversed"=some none by kernel_rfl),r8 X G (show o9 (K w.params) l6 "any"=some none by kernel_rfl),r8 X G (show o9 (K w.params) l6 "repr"=some none by kernel_rfl),r8 X G (show o9 (K w.params) l6 "dict"=some none by kernel_rfl)⟩
 have D_is_whole:=dq (p:=a7) (ps:=["thing"]) 190 189 15 415 X G tM
 have D_is_wholes:=dq (p:=a7) (ps:=["thing"]) 195 194 15 415 X G sK
 have D_is_tuple_of:=dq (p:=a7) (ps:=["thing","many"]) 202 201 15 415 X G qT
 have D_is_told:=dq (p:=a7) (ps:=["thing","word","many"]) 209 208 15 415 X G uU
 have D_is_place:=dq (p:=a7) (ps:=["web","thing"]) 216 215 20 447 X G tN
 have D_whole:=dq (p:=a7) (ps:=["web"]) 223 222 20 447 X G yO
 have D_tie_between:=dq (p:=a7) (ps:=["web","a","b"]) 230 229 20 447 X G qS
 have D_order_of:=dqC (p:=a7) (ps:=["web"]) 237 236 20 447 X G tL (by kernel_rfl) (by kernel_rfl) (by kernel_rfl) (by kernel_rfl) t0
 have D_are_unlike_places:=dq (p:=a7) (ps:=["web","thing"]) 242 241 25 484 X G pG
 have D_ties_along:=dq (p:=a7) (ps:=["web","places"]) 247 246 25 484 X G rJ
 have D_way_right:=dq (p:=a7) (ps:=["web","keep","way"]) 252 251 25 484 X G sE
 have D_leads_between:=dq (p:=a7) (ps:=["web","keep","a","b","way"]) 259 258 25 484 X G pS
 have D_way_length:=dq (p:=a7) (ps:=["web","way"]) 264 263 25 484 X G rH
 have D_tie_weights:=dq (p:=a7) (ps:=["web"]) 271 270 25 484 X G qR
 have D_cost_with:=dq (p:=a7) (ps:=["cost","length","weight"]) 278 277 25 484 X G sM
 have D_reached_from:=dq (p:=a7) (ps:=["web","keep","root"]) 285 284 25 484 X G qF
 have D_fars_from:=dq (p:=a7) (ps:=["web","keep","root"]) 290 289 25 484 X G sL
 have D_tree_from:=dq (p:=a7) (ps:=["web","keep","root"]) 297 296 25 484 X G sF
 have D_the_way:=dq (p:=a7) (ps:=["web","keep","a","b"]) 304 303 25 484 X G uS
 have D_across:=dq (p:=a7) (ps:=["web","tie","heights"]) 311 310 37 589 X G wG
 have D_heights_hold:=dq (p:=a7) (ps:=["web","keep","heights"]) 316 315 37 589 X G qG
 have D_heights_from:=dq (p:=a7) (ps:=["web","keep","a","roof"]) 321 320 37 589 X G qH
 have D_without:=dq (p:=a7) (ps:=["keep","tie"]) 326 325 41 615 X G uR
 have D_spare:=dq (p:=a7) (ps:=["web","keep","tie"]) 333 332 41 615 X G yP
 have D_need_times:=dq (p:=a7) (ps:=["t"]) 340 339 44 635 X G rM
 have D_way_of:=dq (p:=a7) (ps:=["web","keep","tie"]) 347 346 44 635 X G wE
 have D_is_within:=dq (p:=a7) (ps:=["web","tie","t","way"]) 354 353 44 635 X G sJ
 have D_heights_of:=dq (p:=a7) (ps:=["web","keep","tie","t"]) 361 360 44 635 X G rO
 have D_way_within:=dq (p:=a7) (ps:=["web","keep","tie","t","way"]) 368 367 44 635 X G rG
 have D_heights_beyond:=dq (p:=a7) (ps:=["web","keep","tie","t","heights"]) 375 374 44 635 X G pM
 have D_with_tie:=dq (p:=a7) (ps:=["keep","tie"]) 382 381 51 704 X G tK
 have D_reason_of:=dq (p:=a7) (ps:=["web","keep","tie","t"]) 389 388 51 704 X G sI
 have D_ruled:=dq (p:=a7) (ps:=["keep","ties","word","reason_for"]) 396 395 51 704 X G yQ
 have D_ruled_behind:=dqC (p:=a7) (ps:=["web","keep","ties","t"]) 403 402 51 704 X G qD (by kernel_rfl) (by kernel_rfl) (by kernel_rfl) (by kernel_rfl) t1
 have D_ring_rule:=dq (p:=a7) (ps:=["web","t"]) 410 409 51 704 X G sG
 have D_rule_in:=dq (p:=a7) (ps:=["web","order","t"]) 417 416 51 704 X G uT
 have D_shown_keep:=dq (p:=a7) (ps:=["web","reasons","verdict"]) 424 423 51 704 X G rK
 have D_reasons_right:=dq (p:=a7) (ps:=["web","told","verdict"]) 431 430 51 704 X G pR
 have D_ring_verdict:=dq (p:=a7) (ps:=["web","keep","tie","t","reason"]) 438 437 51 704 X G qE
 have D_rule_right:=dqC (p:=a7) (ps:=["web","t","told"]) 445 444 51 704 X G rL (by kernel_rfl) (by kernel_rfl) (by kernel_rfl) (by kernel_rfl) t2
 have D_needed:=dq (p:=a7) (ps:=["web","keep","t"]) 450 449 51 704 X G wF
 have D__law_pot:=dq (p:=a7) (ps:=["script","k"]) 457 456 63 821 X G tP
 have D__law_take:=dq (p:=a7) (ps:=["pot","many"]) 464 463 63 821 X G sO
 have D__law_length:=dq (p:=a7) (ps:=["pot","way"]) 471 470 63 821 X G qU
 have D__law_tied:=dq (p:=a7) (ps:=["pot","n","style","a","b"]) 478 477 63 821 X G sN
 have D__law_order:=dq (p:=a7) (ps:=["pot","many"]) 485 484 63 821 X G rP
 have D__law_web:=dq (p:=a7) (ps:=["pot","most"]) 492 491 63 821 X G tO
 have D__law_keep:=dq (p:=a7) (ps:=["pot","web"]) 497 496 63 821 X G sP
 have D__law_asked:=dq (p:=a7) (ps:=["which","web","keep","t"]) 504 503 63 821 X G rQ
 have D__law_refused:=dq (p:=a7) (ps:=["which","web","keep","t"]) 511 510 63 821 X G qI
 have m_ThinError:=uau X G (show o9 (K w.params) l6 "ThinError"=some (some (.ref 24)) by kernel_rfl)
 have m_NoTimes:=uau X G (show o9 (K w.params) l6 "NoTimes"=some (some (.ref 49)) by kernel_rfl)
 have m_TooMany:=uau X G (show o9 (K w.params) l6 "TooMany"=some (some (.ref 181)) by kernel_rfl)
 have m_NoBack:=uau X G (show o9 (K w.params) l6 "NoBack"=some (some (.ref 169)) by kernel_rfl)
 have m_NoFalls:=uau X G (show o9 (K w.params) l6 "NoFalls"=some (some (.ref 109)) by kernel_rfl)
 have m_NoLength:=uau X G (show o9 (K w.params) l6 "NoLength"=some (some (.ref 133)) by kernel_rfl)
 have m_NoLevels:=uau X G (show o9 (K w.params) l6 "NoLevels"=some (some (.ref 97)) by kernel_rfl)
 have m_NoLine:=uau X G (show o9 (K w.params) l6 "NoLine"=some (some (.ref 157)) by kernel_rfl)
 have m_NoOrder:=uau X G (show o9 (K w.params) l6 "NoOrder"=some (some (.ref 61)) by kernel_rfl)
 have m_NoPlain:=uau X G (show o9 (K w.params) l6 "NoPlain"=some (some (.ref 73)) by kernel_rfl)
 have m_NoShare:=uau X G (show o9 (K w.params) l6 "NoShare"=some (some (.ref 85)) by kernel_rfl)
 have m_NoText:=uau X G (show o9 (K w.params) l6 "NoText"=some (some (.ref 145)) by kernel_rfl)
 have m_NoTie:=uau X G (show o9 (K w.params) l6 "NoTie"=some (some (.ref 121)) by kernel_rfl)
 have m_NoWeb:=uau X G (show o9 (K w.params) l6 "NoWeb"=some (some (.ref 37)) by kernel_rfl)
 have z_ValueError:=r8 X G (show o9 (K w.params) l6 "ValueError"=some none by kernel_rfl)
 have xm_NoTimes:XM (K w.params) 49:=⟨"NoTimes","NoTimes",48,[.ref 24],.ref 24::Hx.mro0,true,[],[],false,none,none,some (.ref 40),none,some (.str "NoTimes" 223),some (.str "NoTimes" 231),some (.bool true),(by kernel_rfl),(by kernel_rfl),(.own (c0:=.type "type") (dd:=none) (cd:=⟨"ThinError",[.type "ValueError"],.ref 24::Hx.mro0,23,"ThinError",true,[],[.ref 37,.ref 49,.ref 61,.ref 73,.ref 85,.ref 97,.ref 109,.ref 121,.ref 133,.ref 145,.ref 157,.ref 169,.ref 181],false,none,false⟩) (sl:=#[some (.ref 15),none,some (.str "ThinError" 189),some (.str "ThinError" 197),some (.builtin "ValueError.__new__"),some (.bool true)]) (by kernel_rfl) (by kernel_rfl) .base),by symm⟩
 have XF:XF30 (K w.params) 24 49 181 169 109 133 97 157 61 73 85 145 121 37:=⟨⟨(by kernel_rfl),(by kernel_rfl),(by kernel_rfl),(by kernel_rfl),(by kernel_rfl),(by kernel_rfl)⟩,(by kernel_rfl),(by kernel_rfl),(by kernel_rfl),(by kernel_rfl),(by kernel_rfl)⟩
 have e:=hfa.symm.trans (uau X G (show o9 (K w.params) l6 "law"=some (some (.ref 516)) by kernel_rfl))
 cases e
 have F:=gF (x:="law") (qual:="law") (st:=s_law) (K:=K w.params) (f:=516) (oc:=.type "function") (od:=none) (an:=none) (osl:=#[]) (kV:=.none) (doc:=.none) (pm:=Hx.mdV a7 ⟨0,0,0,63,821,0⟩) (cdv:=.ref 515) (ct:=.none) (by kernel_rfl) (by kernel_rfl) (by kernel_rfl)
 exact⟨_,λ s v=>.of_eq rfl,λ base _ _ l0 l1 l2=>zZ (P:=(u6).prog) (w:=w) (base:=base) T m_ThinError m_NoTimes m_TooMany m_NoBack m_NoFalls m_NoLength m_NoLevels m_NoLine m_NoOrder m_NoPlain m_NoShare m_NoText m_NoTie m_NoWeb z_ValueError xm_NoTimes XF D_order_of l0 D_ruled_behind l1 D_rule_right l2 D_is_whole D_is_wholes D_is_tuple_of D_is_told D_is_place D_whole D_tie_between D_are_unlike_places D_ties_along D_way_right D_leads_between D_way_length D_tie_weights D_cost_with D_reached_from D_fars_from D_tree_from D_the_way D_across D_heights_hold D_heights_from D_without D_spare D_need_times D_way_of D_is_within D_heights_of D_way_within D_heights_beyond D_with_tie D_reason_of D_ruled D_ring_rule D_rule_in D_shown_keep D_reasons_right D_ring_verdict D_needed D__law_pot D__law_take D__law_length D__law_tied D__law_order D__law_web D__law_keep D__law_asked D__law_refused F⟩
end Hy
open PySem PySem.W PyProof.Rows
set_option maxRecDepth 100000 in
set_option maxHeartbeats 0 in
theorem PySem.Challenge.cw_thinways_k30_times_refused_holds : PySem.Challenge.rw_thinways_k30_times_refused.Holds := by
 w_on;o_law
 refine holds_open (q:=(Hx.qv PySem.Challenge.pw_thinways_k30_times_refused [24,55,61,73])) (loose:=Hx.lz PySem.Challenge.pw_thinways_k30_times_refused [24,55,61,73] 74) (Xt:=λ s=>xlAt (Hx.qv PySem.Challenge.pw_thinways_k30_times_refused [24,55,61,73]) [] s&&recOk (OpenRow.toRowW (PySem.Challenge.rw_thinways_k30_times_refused).row).records s) (XP:=XL (Hx.qv PySem.Challenge.pw_thinways_k30_times_refused [24,55,61,73]) []) (Yf:=Hook.obs Hy.H) (Ya:=Hook.val Hy.H) (YP:=Hook.says Hy.H) (N:=9920) Hy.left (Hook.of Hy.H) (Hook.keeps Hy.H) (λ s e=>xl_of s (Bool.and_eq_true_iff.mp e).1) XL.keeps (by rfl) (by rfl) (by rfl) (λ s e=>recFacts_of (Bool.and_eq_true_iff.mp e).2) (by rfl) (by first | assumption | decide +kernel) (by symm) ⟨rfl,rfl,rfl,rfl,rfl,by symm⟩ ?hw ?hc
 case hw=>w_witness2
 case hc =>
  refine' Me.walk (l:=PySem.Challenge.rw_thinways_k30_times_refused) (d0:=?dd0) (d1:=?dd1) (d2:=?dd2) rfl rfl (λ w h Y=>PySem.W.kIn_of Y) ?rc0 ?rc1 ?rc2 (λ w=>⟨236,232,402,398,444,440,by kernel_rfl,by kernel_rfl,by kernel_rfl,by decide⟩) (λ w=>by kernel_rfl) λ w mg fa h c0 p0 c1 p1 c2 p2 KX G hmg t0 t1 t2=>Hy.all KX G hmg t0 t1 t2
  case rc0=>exact rfl
  case rc1=>exact rfl
  case rc2=>exact rfl
