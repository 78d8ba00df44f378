import PyProof.Rows.All
import Wide.All
import OpenK.AllK
import Wide.FinOn
import Lean
import PyProof.EqAt
import PyProof.EqKinds
import PyProof.TupleCall
import PyProof.NeKinds
import PyProof.ZipIter
import PyProof.Draws
import PyProof.ConsumeWalk
import PyProof.StrCaseBound
import PyProof.StrLawsIn
import PyProof.StrLawsJoin
import PyProof.Rows.StrSplitAre
import PyProof.WalkInts
import PyProof.EnumMake
import KE.KRevSl
import PyProof.Rows.SumAny
import PyProof.Rows.SortRuns
import PyProof.Rows.SortKey
import KE.KSortTup
import KE.KDictList
import PyProof.DictValues
import PyProof.StrLawsFirst
import PyProof.AutoListH
import PyProof.AttrMissSeq
import KE.KIntText
import PyProof.Rows.CountFlat
import KE.KLam
import KE.KSortKey
import KE.KPairComp
import PySem.Str
import PyProof.Rows.StrNews2
import PyProof.StrLawsIdx
import PyProof.StrBlockI
import PySem.Challenge.RW_heirbook_k35_whole_table_row_by_row
set_option compiler.extract_closed false
local macro_rules|`(tactic|omega)=>`(tactic|first|lia|omega (config:={}))
local macro_rules|`(tactic|trivial)=>`(tactic|decide +kernel)
noncomputable abbrev Qa:=@if_neg
noncomputable abbrev Qb:=@if_pos
noncomputable abbrev Qc:=@List.length_map
noncomputable abbrev Qd:=@PySem.wpAny_bind
noncomputable abbrev Qe:=@Nat.le_refl
noncomputable abbrev Qf:=@List.mem_map
noncomputable abbrev Qg:=@PySem.wpAny_pure
noncomputable abbrev Qh:=@List.map_append
noncomputable abbrev Qi:=@List.getElem?_map
noncomputable abbrev Qj:=@Nat.le_trans
noncomputable abbrev Qk:=@congrArg
noncomputable abbrev Ql:=@Option.some.inj
noncomputable abbrev Qm:=@List.mem_append
noncomputable abbrev Qn:=@decide_eq_false
noncomputable abbrev Qo:=@List.mem_cons
noncomputable abbrev Qp:=@PySem.Heap.lt_size
noncomputable abbrev Qq:=@PySem.Heap.get?_push_of_some
noncomputable abbrev Qr:=@decide_eq_true
noncomputable abbrev Qs:=@List.map_cons
noncomputable abbrev Qt:=@List.mem_of_getElem?
noncomputable abbrev Qu:=@List.getElem?_eq_getElem
noncomputable abbrev Qv:=@List.mem_cons_of_mem
noncomputable abbrev Qw:=@PySem.Heap.get?_push_size
noncomputable abbrev Qx:=@List.length_append
noncomputable abbrev Qy:=@List.size_toArray
noncomputable abbrev Qz:=@Nat.ne_of_lt
noncomputable abbrev QA:=@List.mem_cons_self
noncomputable abbrev QB:=@List.getElem?_eq_some_iff
noncomputable abbrev QC:=@List.append_nil
noncomputable abbrev QD:=@PySem.PassesOwn.leaving
noncomputable abbrev QE:=@Option.map_eq_some_iff
noncomputable abbrev QF:=@Array.length_toList
noncomputable abbrev QG:=@of_decide_eq_true
noncomputable abbrev QH:=@List.length_cons
noncomputable abbrev QI:=@Bool.false_ne_true
noncomputable abbrev QJ:=@List.map_map
noncomputable abbrev QK:=@Nat.lt_of_lt_of_le
noncomputable abbrev QL:=@List.mem_append_left
noncomputable abbrev QM:=@Nat.zero_le
noncomputable abbrev QN:=@List.take_length
noncomputable abbrev QO:=@List.nodup_cons
noncomputable abbrev QP:=@Bool.eq_false_iff
noncomputable abbrev QQ:=@List.mem_singleton
noncomputable abbrev QR:=@PySem.wpAny_field
noncomputable abbrev QS:=@Nat.le_of_lt
noncomputable abbrev QT:=@List.mem_append_right
noncomputable abbrev QU:=@List.length_take
noncomputable abbrev QV:=@List.nodup_append
noncomputable abbrev QW:=@Int.fmod_nonneg_of_pos
noncomputable abbrev QX:=@List.mem_filter
noncomputable abbrev QY:=@Ne.symm
noncomputable abbrev QZ:=@PySem.W.kia_one
noncomputable abbrev Q0:=@List.mem_of_mem_take
noncomputable abbrev Q1:=@List.take_succ
noncomputable abbrev Q2:=@List.filterMap_cons
noncomputable abbrev Q3:=@PySem.wpAny_holding
noncomputable abbrev Q4:=@if_false
noncomputable abbrev Q5:=@List.not_mem_nil
noncomputable abbrev Q6:=@or_false
noncomputable abbrev Q7:=@Int.fmod_lt_of_pos
noncomputable abbrev Q8:=@Nat.lt_of_le_of_lt
noncomputable abbrev Q9:=@PySem.Str.length_append
noncomputable abbrev Ra:=@Nat.le_of_ble_eq_true
noncomputable abbrev Rb:=@PySem.wpAny_mono
noncomputable abbrev Rc:=@PySem.wpAny_newObj_type
noncomputable abbrev Re:=@Nat.le_succ
noncomputable abbrev Rg:=@of_decide_eq_false
noncomputable abbrev Rh:=@PySem.F.plainAttrs_list
noncomputable abbrev Ri:=@Sum.inr.inj
noncomputable abbrev Rj:=@List.mem_filterMap
noncomputable abbrev Rk:=@PySem.Heap.size_push
noncomputable abbrev Rl:=@Bool.and_eq_true
noncomputable abbrev Rm:=@List.any_cons
noncomputable abbrev Rn:=@PySem.F.slot_list_append
noncomputable abbrev Ro:=@PySem.F.type_list_append
noncomputable abbrev Rp:=@Bool.eq_iff_iff
noncomputable abbrev Rq:=@Nat.lt_succ_self
noncomputable abbrev Rr:=@if_true
noncomputable abbrev Rs:=@PySem.wpAny_call_entry
noncomputable abbrev Rt:=@PySem.wpAny_setField_rec
noncomputable abbrev Ru:=@List.all_eq_true
noncomputable abbrev Rv:=@List.filterMap_append
noncomputable abbrev Rx:=@Nat.lt_irrefl
noncomputable abbrev Ry:=@PySem.call_meets
noncomputable abbrev Rz:=@List.find?_cons
noncomputable abbrev RA:=@Array.toList_inj
noncomputable abbrev RB:=@PySem.F.slot_str_split
noncomputable abbrev RC:=@List.foldl_cons
noncomputable abbrev RD:=@List.mem_map_of_mem
noncomputable abbrev RE:=@PySem.F.plainAttrs_str
noncomputable abbrev RF:=@beq_eq_false_iff_ne
noncomputable abbrev RG:=@Nat.ne_of_gt
noncomputable abbrev RH:=@beq_iff_eq
noncomputable abbrev RI:=@List.getElem?_append_left
noncomputable abbrev RJ:=@List.take_sublist
noncomputable abbrev RK:=@PySem.wpAny_callSpecial?_slot
noncomputable abbrev RL:=@List.take_add_one
noncomputable abbrev RM:=@Bool.or_eq_true
noncomputable abbrev RN:=@List.length_range
noncomputable abbrev RO:=@false_and
noncomputable abbrev RP:=@true_and
noncomputable abbrev RQ:=@ite_self
noncomputable abbrev RS:=@Prod.ext
noncomputable abbrev RT:=@PySem.wpAny_truthy_bool
noncomputable abbrev RU:=@PySem.Calls.spliced_cons
noncomputable abbrev RV:=@PySem.mem_of_lookup
noncomputable abbrev RW:=@List.getElem?_append_right
noncomputable abbrev RX:=@PySem.wpAny_Call_Name_kw
noncomputable abbrev RY:=@PySem.W.callWith_K
noncomputable abbrev RZ:=@PySem.wpAny_seqItems
noncomputable abbrev R0:=@PySem.Str.ext'
noncomputable abbrev R1:=@PySem.StrLaws.strSub_toList
noncomputable abbrev R3:=@List.getElem?_cons_succ
noncomputable abbrev R4:=@List.filter_cons
noncomputable abbrev R5:=@List.map_congr_left
noncomputable abbrev R6:=@PySem.wpAny_rule
noncomputable abbrev R7:=@PySem.typeIs_str
noncomputable abbrev R8:=@List.map_nil
noncomputable abbrev R9:=@PySem.tupleKind_room_in1
noncomputable abbrev Ga:=@PySem.call_meetsIn
noncomputable abbrev Gb:=@PySem.Heap.SameBut.update
noncomputable abbrev Gc:=@List.forIn_cons
noncomputable abbrev Gd:=@List.mem_iff_getElem?
noncomputable abbrev Ge:=@Nat.sub_self
noncomputable abbrev Gf:=@PySem.F.entry_str_split
noncomputable abbrev Gg:=@PySem.F.args_str_split_2
noncomputable abbrev Gh:=@List.getElem_mem
noncomputable abbrev Gi:=@List.getElem_of_mem
noncomputable abbrev Gj:=@List.cons.inj
noncomputable abbrev Gk:=@decide_eq_true_eq
noncomputable abbrev Gm:=@or_assoc
noncomputable abbrev Gn:=@List.any_eq_true
noncomputable abbrev Go:=@List.dropLast_concat_getLast
noncomputable abbrev Gp:=@List.getElem_map
noncomputable abbrev Gq:=@List.getElem?_of_mem
noncomputable abbrev Gr:=@List.map_take
noncomputable abbrev Gs:=@PySem.wpAny_standAt
noncomputable abbrev Gu:=@PySem.wpAny_pyIter_tuple
noncomputable abbrev Gv:=@PySem.wpAny_passesOwn
noncomputable abbrev Gw:=@PySem.sizeLine_eq
noncomputable abbrev Gx:=@PySem.codeAny_mono
noncomputable abbrev Gy:=@Int.toNat_natCast
noncomputable abbrev Gz:=@PySem.Calls.callWith_builtin
noncomputable abbrev GA:=@List.length_singleton
noncomputable abbrev GB:=@List.cons_append
noncomputable abbrev GC:=@PySem.wpAny_loadPart_at
noncomputable abbrev GD:=@PySem.codeAny_builtin
noncomputable abbrev GE:=@Nat.lt_succ_of_lt
noncomputable abbrev GF:=@List.length_filterMap_le
noncomputable abbrev GG:=@List.nil_append
noncomputable abbrev GH:=@List.drop_zero
noncomputable abbrev GI:=@PySem.Str.cps_append
noncomputable abbrev GJ:=@Array.toList_append
noncomputable abbrev GK:=@PySem.wpAny_dictEntries
noncomputable abbrev GL:=@PySem.F.slot_dict_itemiterator_next
noncomputable abbrev GM:=@Bool.true_and
noncomputable abbrev GN:=@List.pairwise_map
noncomputable abbrev GO:=@List.getElem?_range
noncomputable abbrev GP:=@PySem.Paired.length
noncomputable abbrev GQ:=@List.getElem_inj
noncomputable abbrev GR:=@Bool.false_and
noncomputable abbrev GS:=@PyProof.Rows.callWith_type1
noncomputable abbrev GT:=@PySem.W.looks_findIn
noncomputable abbrev GU:=@Nat.le_of_eq
noncomputable abbrev GV:=@PySem.W.kitx_list
noncomputable abbrev GW:=@PySem.Calls.spliced_nil
noncomputable abbrev GX:=@List.filterMap_map
noncomputable abbrev GY:=@List.length_drop
noncomputable abbrev GZ:=@List.all_cons
noncomputable abbrev G0:=@PySem.Calls.evalArgs_plain
noncomputable abbrev G1:=@Array.getElem?_toList
noncomputable abbrev G2:=@Option.isSome_map
noncomputable abbrev G3:=@PySem.F.plainAttrs_dict
noncomputable abbrev G4:=@PySem.F.slot_tuple_iterator_next
noncomputable abbrev G5:=@PySem.wpAny_letGo
noncomputable abbrev G6:=@PySem.wpAny_attempt
noncomputable abbrev G7:=@PySem.F.slot_zip_next
noncomputable abbrev G8:=@Nat.le_add_right
noncomputable abbrev G9:=@List.drop_eq_nil_of_le
noncomputable abbrev Na:=@List.range'_succ
noncomputable abbrev Nb:=@PySem.wpAny_newList
noncomputable abbrev Nc:=@PySem.atKey_none_of_get
noncomputable abbrev Nd:=@PySem.F.slot_dict_setdefault
noncomputable abbrev Nf:=@List.getElem?_cons_zero
noncomputable abbrev Ng:=@Int.le_refl
noncomputable abbrev Nh:=@Nat.succ_pos
noncomputable abbrev Ni:=@PySem.StrLaws.subAt_eq
noncomputable abbrev Nj:=@Nat.lt_or_ge
noncomputable abbrev Nk:=@List.find?_eq_none
noncomputable abbrev Nl:=@Int.mul_fdiv_add_fmod
noncomputable abbrev Nn:=@List.foldl_append
noncomputable abbrev No:=@List.mem_range
noncomputable abbrev Np:=@PySem.wpAny_pyIter_list
noncomputable abbrev Nq:=@List.any_eq_false
noncomputable abbrev Nr:=@List.of_mem_zip
noncomputable abbrev Nt:=@Option.isSome_iff_exists
noncomputable abbrev Nu:=@List.getElem?_take_of_lt
noncomputable abbrev Nv:=@Nat.min_le_right
noncomputable abbrev Nw:=@PyProof.Rows.slot_tuple_getitem
noncomputable abbrev Ny:=@PySem.Heap.get?_update_self
noncomputable abbrev Nz:=@List.length_nil
noncomputable abbrev NA:=@PySem.F.slot_dict_get
noncomputable abbrev NB:=@PySem.wpAny_Call_method
noncomputable abbrev NC:=@PySem.F.typeOf_object_class
noncomputable abbrev ND:=@PySem.Code.quiet_builtin
noncomputable abbrev NE:=@List.drop_eq_getElem_cons
noncomputable abbrev NF:=@List.getElem?_drop
noncomputable abbrev NG:=@List.eq_nil_of_length_eq_zero
noncomputable abbrev NH:=@List.take_of_length_le
noncomputable abbrev NI:=@PySem.Calls.call_function_entry
noncomputable abbrev NJ:=@decide_eq_true_iff
noncomputable abbrev NK:=@PySem.wpAny_isOneOf_itemiter
noncomputable abbrev NL:=@List.append_assoc
noncomputable abbrev NM:=@List.getElem?_inj
noncomputable abbrev NN:=@List.lt_asymm
noncomputable abbrev NO:=@List.rel_of_pairwise_cons
noncomputable abbrev NP:=@List.map_filterMap
noncomputable abbrev NQ:=@List.length_filter_le
noncomputable abbrev NR:=@List.flatMap_cons
noncomputable abbrev NS:=@Int.fmod_eq_emod_of_nonneg
noncomputable abbrev NT:=@Nat.succ_le_succ
noncomputable abbrev NU:=@Nat.le_succ_of_le
noncomputable abbrev NV:=@List.mem_flatMap
noncomputable abbrev NW:=@PySem.F.type_str_split
noncomputable abbrev NX:=@PySem.F.slot_str_join
noncomputable abbrev NY:=@PySem.F.type_str_join
noncomputable abbrev NZ:=@PySem.F.entry_tuple_add
noncomputable abbrev N0:=@PySem.F.args_tuple_add_2
noncomputable abbrev N1:=@PySem.F.args_dict_get_3
noncomputable abbrev N2:=@Option.bind_eq_some_iff
noncomputable abbrev N3:=@PySem.F.entry_dict_setdefault
noncomputable abbrev N4:=@PySem.F.args_dict_setdefault_3
noncomputable abbrev N5:=@PySem.F.type_dict_setdefault
noncomputable abbrev N6:=@PySem.F.slot_str_partition
noncomputable abbrev N7:=@PySem.F.entry_dict_itemiterator_next
noncomputable abbrev N8:=@PySem.F.args_dict_itemiterator_next_1
noncomputable abbrev N9:=@List.exists_cons_of_ne_nil
noncomputable abbrev Ma:=@Option.isSome_iff_ne_none
noncomputable abbrev Mb:=@Int.mul_le_mul_of_nonneg_left
noncomputable abbrev Mc:=@List.mem_of_find?_eq_some
noncomputable abbrev Md:=@List.getD_eq_getElem?_getD
set_option Elab.async false
set_option linter.all false
namespace LR
open PySem PySem.W PyProof.Rows
variable {N m:Nat} {ann:Option Value} {p:Program}
noncomputable abbrev _bV:=@Fast.tw14082659384304107361
noncomputable abbrev Jq:=Fast.tw14364793385576792824
noncomputable abbrev VA:=@Fast.tw4187177175401517315
noncomputable def allIn (p:Program) (P:Params) (s:Shared):Bool :=
 staticsOk (importedModules p.main.body) (boot_heap P) s.heap&&namesBound p s.heap&&gensDone s&&laidKept (boot_heap P) s.heap
noncomputable abbrev sA (q:Program) (loose mods:List Str) (Xt:Shared->Bool) (g0:Bool) (s:Shared) :=
 ((VA q loose mods Xt g0 s).1,(VA q loose mods Xt g0 s).2.1,(VA q loose mods Xt g0 s).2.2.1,(VA q loose mods Xt g0 s).2.2.2.1)
noncomputable abbrev sB (q:Program) (loose mods:List Str) (Xt:Shared->Bool) (g0:Bool) (s:Shared):=(VA q loose mods Xt g0 s).2.2.2.2
noncomputable abbrev gA (q:Program) (loose:List Str):=((openGood q loose).1,(openGood q loose).2.1,(openGood q loose).2.2.1,(openGood q loose).2.2.2.1)
noncomputable abbrev gB (q:Program) (loose:List Str):=(openGood q loose).2.2.2.2
noncomputable abbrev ran (p:Program) (m:Nat) (ann:Option Value) (N:Nat) (w:World) (os:OsState):Option Shared :=
 _bV Jq p w m ann N ⟨boot_heap w.params,Array.mk [],boot_drawn,boot_toks,os⟩ (topStub p)
theorem left_run {q:Program} {loose:List Str} {Xt:Shared->Bool} {α:Type} {Yf:Shared->α} {Ya:World->α} {g0:Bool} 
 (e:opening p=plainProg p.main.scope.names) (f:∀s,fenceModules? p s=some s) (hN:Nat.ble 600 N=true)
 (h1:∀w:World,(boot_heap w.params).isNs mainGlobals=true) (h2:∀w:World,(boot_heap w.params).objs.size=m) (h3:∀w:World,(boot_heap w.params).nsMap mainGlobals "__annotations__"=ann)
 (r1:∀(w:World) (os:OsState),(ran p m ann N w os).map (allIn p w.params)=some true)
 (r2:∀(w:World) (os:OsState),(ran p m ann N w os).map (sA q loose (importedModules p.main.body) Xt g0)=some (gA q loose))
 (r2':∀(w:World) (os:OsState),(ran p m ann N w os).map (sB q loose (importedModules p.main.body) Xt g0)=some (gB q loose))
 (r3:∀(w:World) (os:OsState),(ran p m ann N w os).map Yf=some (Ya w)):LeftO p q loose Xt Yf Ya N g0:=by
 intro w;cases hb:fencedOpening treeTable p w N with
 |none=>have z:=boot_open e hN f w;rw [hb] at z;cases z
 |some s0 =>
  have z:=boot_open e hN f w;rw [hb] at z;obtain ⟨h,gs,d,k,os⟩:=s0;injection z with z;injection z with z4 z;injection z with z5 z;injection z with z6 z7;dsimp only at z4 z5 z6 z7;subst z4 z5 z6 z7;have a:=r1 w os;have b:=r2 w os;have b':=r2' w os;have c:=r3 w os;unfold ran _bV Jq at a b b' c;unfold sA gA VA at b;unfold sB gB VA at b';rw [←Fast.te14082659384304107361,←Fast.te14364793385576792824] at a b b' c;rw [←Fast.te4187177175401517315] at b b';cases hs:topRun treeTable p w m ann N ⟨boot_heap w.params,Array.mk [],boot_drawn,boot_toks,os⟩ (topStub p) with
  |none=>rw [hs] at a;cases a
  |some s =>
   rw [hs] at a b b' c;injection a with a;injection b with b;injection b' with b';injection b with x1 b;injection b with x2 b;injection b with x3 x4;injection c with c;have b:openSeen q loose (importedModules p.main.body) Xt g0 s=openGood q loose:=RS x1 (RS x2 (RS x3 (RS x4 b')))
   have t:topFrom treeTable p w N ⟨boot_heap w.params,Array.mk [],boot_drawn,boot_toks,os⟩=some s:=by
    unfold topFrom;simp only [h1 w,h2 w,h3 w,hs];unfold allIn at a;show (Option.bind (some s) fun x=>_)=_;rw [Option.bind_some,a]
   show Option.map _ (Option.bind (fencedOpening treeTable p w N) _)=_;rw [hb,Option.bind_some,t,Option.map_some,b,c]
noncomputable def _bu (st:SharedT->Thread->Option (SharedT×Thread)) (ok:Thread->Bool):Nat->SharedT->Thread->Option SharedT:=fun n =>
 Nat.rec (motive:=fun _=>SharedT->Thread->Option SharedT) (fun _ _=>none) (fun _ ih s t=>match through t with
  |true=>some s
  |false=>match ok t with
   |false=>none
   |true=>match st s t with
    |some (s',t')=>ih s' t'
    |none=>none) n
theorem _gn {tb:String->Option Builtin} {p:Program} {w:World} {n₀:Nat} {ann:Option Value}:∀(n:Nat) (s:SharedT) (t:Thread) (s':SharedT),_bu (stepT (denote tb) p w) (stepOk n₀ ann) n s t=some s'->topRun tb p w n₀ ann n s.abs t=some s'.abs
 |0,_,_,_,h=>by cases h
 |n+1,s,t,s',h=>by
  have h2:(match through t with
   |true=>some s
   |false=>match stepOk n₀ ann t with
    |false=>none
    |true=>match stepT (denote tb) p w s t with
     |some (s',t')=>_bu (stepT (denote tb) p w) (stepOk n₀ ann) n s' t'
     |none=>none)=some s':=h
  unfold topRun;cases ht:through t with
  |true=>rw [ht] at h2;cases h2;rfl
  |false =>
   rw [ht] at h2;cases hk:stepOk n₀ ann t with
   |false=>rw [hk] at h2;cases h2
   |true =>
    rw [hk] at h2;cases hs:stepT (denote tb) p w s t with
    |none=>rw [hs] at h2;cases h2
    |some r =>
     obtain ⟨s₂,t₂⟩:=r;rw [hs] at h2;rw [stepT_spec hs];exact _gn n s₂ t₂ s' h2
noncomputable def _p8 (P:Params) (m:Nat):BT:=Nat.rec (motive:=fun _=>BT) .nil (fun i T=>T.ins i (((boot_heap P).objs[i]?).getD default)) m
noncomputable abbrev _hd:=@Fast.tw10156331382660048174
noncomputable abbrev _gj:=@Fast.tw11892475500146522536
noncomputable abbrev fOk:=@Fast.tw6613529449190102663
noncomputable abbrev s0T (P:Params) (m:Nat) (os:OsState):SharedT:=⟨_p8 P m,m,(boot_heap P).life,Array.mk [],boot_drawn,boot_toks,os⟩
noncomputable abbrev ranT (p:Program) (m:Nat) (ann:Option Value) (N:Nat) (w:World) (os:OsState):Option SharedT :=
 _bu (_hd (_gj Jq) p w) (fOk m ann) N (s0T w.params m os) (topStub p)
theorem _l7 {w:World} {os:OsState} (hb:(s0T w.params m os).abs=⟨boot_heap w.params,Array.mk [],boot_drawn,boot_toks,os⟩) {s:SharedT} (h:ranT p m ann N w os=some s):ran p m ann N w os=some s.abs:=by
 unfold ranT _hd _gj fOk Jq at h;rw [←Fast.te10156331382660048174,←Fast.te11892475500146522536,←Fast.te6613529449190102663,←Fast.te14364793385576792824] at h;have:=_gn _ _ _ _ h;rw [hb] at this;unfold ran _bV Jq;rw [←Fast.te14082659384304107361,←Fast.te14364793385576792824];exact this
theorem mapT {α:Type} {w:World} {os:OsState} (hb:(s0T w.params m os).abs=⟨boot_heap w.params,Array.mk [],boot_drawn,boot_toks,os⟩) {f:Shared->α} {a:α} (h:(ranT p m ann N w os).map (fun s=>f s.abs)=some a):(ran p m ann N w os).map f=some a:=by
 cases e:ranT p m ann N w os with
 |none=>rw [e] at h;cases h
 |some s =>
  rw [e] at h;rw [_l7 hb e];exact h
end LR
namespace K35
open PySem PySem.W PyProof.Rows
noncomputable abbrev rwOf:OpenLaw:=PySem.Challenge.rw_heirbook_k35_whole_table_row_by_row
noncomputable abbrev pwOf:Program:=PySem.Challenge.pw_heirbook_k35_whole_table_row_by_row
noncomputable def vw:Program:=view pwOf [0,2,3,4,5,6,7,8,9,10,12,14,15,16,17,18,19,20,21,22,23,24,25,26,27,29,30,31,32,34,36,37,38,39,41,42,43,44,45,46,47,48,49,50,52,53,54,55,57,58,59,60,61,62,63,64,65,66,67,68,69,70,71,72]
noncomputable abbrev lo:List Str:=["FORMS"]
noncomputable abbrev xt (s:Shared):Bool:=xlAt vw [] s&&recOk (RowW.records (OpenRow.toRowW (OpenLaw.row rwOf))) s
noncomputable abbrev rn:=LR.ranT pwOf 11 (some (.ref 6)) 5800
set_option maxRecDepth 100000
set_option maxHeartbeats 0
theorem said:OpenLaw.wellSaid rwOf=true:=by kernel_rfl
theorem hb (w:World) (os:OsState):(LR.s0T w.params 11 os).abs=⟨boot_heap w.params,Array.mk [],boot_drawn,boot_toks,os⟩:=by kernel_rfl
theorem r1T (w:World) (os:OsState):(rn w os).map (fun s=>(LR.allIn pwOf w.params) s.abs)=some (true):=by kernel_rfl
theorem r1 (w:World) (os:OsState):(LR.ran pwOf 11 (some (.ref 6)) 5800 w os).map (LR.allIn pwOf w.params)=some (true):=LR.mapT (hb w os) (r1T w os)
theorem r2T (w:World) (os:OsState):(rn w os).map (fun s=>(LR.sA vw lo (importedModules pwOf.main.body) xt true) s.abs)=some (LR.gA vw lo):=by kernel_rfl
theorem r2 (w:World) (os:OsState):(LR.ran pwOf 11 (some (.ref 6)) 5800 w os).map (LR.sA vw lo (importedModules pwOf.main.body) xt true)=some (LR.gA vw lo):=LR.mapT (hb w os) (r2T w os)
theorem r3T (w:World) (os:OsState):(rn w os).map (fun s=>(LR.sB vw lo (importedModules pwOf.main.body) xt true) s.abs)=some (LR.gB vw lo):=by kernel_rfl
theorem r3 (w:World) (os:OsState):(LR.ran pwOf 11 (some (.ref 6)) 5800 w os).map (LR.sB vw lo (importedModules pwOf.main.body) xt true)=some (LR.gB vw lo):=LR.mapT (hb w os) (r3T w os)
end K35
local macro_rules
 | `(tactic| o_law)=>`(tactic| refine PySem.W.holds_law K35.said fun sd=>?_)
local macro_rules
 | `(tactic| o_head $H)=>do
  let hw:=Lean.mkIdent `hw
  let hc:=Lean.mkIdent `hc
  `(tactic| (
   refine PySem.W.holds_open (q:=K35.vw) (loose:=K35.lo) (N:=5800) (Xt:=K35.xt) (XP:=PySem.W.XL K35.vw []) (Yf:=PySem.W.Hook.obs $H)
    (Ya:=PySem.W.Hook.val $H) (YP:=PySem.W.Hook.says $H)
    (LR.left_run (p:=K35.pwOf) (m:=11) (ann:=(some (.ref 6))) ?e1 ?e2 (by decide) ?e3 ?e4 ?e5 K35.r1 K35.r2 K35.r3 ?e6)
    (PySem.W.Hook.of $H) (PySem.W.Hook.keeps $H) ?f1
    PySem.W.XL.keeps (by rfl) (by rfl) (by rfl) ?f2 ?g4 ?g5 ?g6 ?g7 ?$hw ?$hc
   case e1=>kernel_rfl
   case e2=>intro s;kernel_rfl
   case e3=>intro w;kernel_rfl
   case e4=>intro w;kernel_rfl
   case e5=>intro w;kernel_rfl
   case e6=>(intro w os;refine LR.mapT (K35.hb w os) ?_;kernel_rfl)
   case f1=>intro s e;exact PySem.W.xl_of s (Bool.and_eq_true_iff.mp e).1
   case f2=>intro s e;exact PySem.W.recFacts_of (Bool.and_eq_true_iff.mp e).2
   case g4=>rfl
   case g5=>assumption
   case g6=>trivial
   case g7=>exact ⟨rfl,rfl,rfl,rfl,rfl,by trivial⟩))
set_option maxRecDepth 100000 in
set_option maxHeartbeats 0 in
open_top K35.hd for PySem.Challenge.rw_heirbook_k35_whole_table_row_by_row
set_option maxRecDepth 100000
namespace L2
open PySem PySem.Spec PyProof.Rows
variable {C a b dx:Addr} {A:Around} {op:CmpOp} {X:Cx} {D:Ends} {c e tg:Expr} {fd:FuncData} {o:HO} {base h h':Heap} {H H':Hp} {pins:List (Addr×Obj)} {kw:List (Str×Value)} {ch fp:List Addr} {es:List Expr} {N ps:List Str} {xs:List V} {us:List Value} {M:Model} {i j n t':Nat} {p pos:Pos} {P:Program} {s:Shared} {σ:St} {m:Str} {mA:Str->Option Value} {ta te:TE} {tb:TS} {v y:V} {u:Value} {E Q:Value->Shared->Prop} {f:Value->Value->Sem Value} {K:W.Frag} {CX:YA}
noncomputable abbrev _k:=Sum Int Str
noncomputable def Ve:_k->Value->Bool
 |.inl k,v=>Value.isInt k v
 |.inr x,v=>Value.isStrOf x v
noncomputable def _i6 (w:World):_k->Int
 |.inl k=>hashInt k
 |.inr x=>hashStr w x
theorem X6:∀{k:_k} {v:Value},Ve k v=true->(∃i t,k=Sum.inl i∧v=Value.int i t)∨(∃x t,k=Sum.inr x∧v=Value.str x t)
 |.inl i,v,h=>by
  obtain ⟨t,e⟩:=Value.isInt_shape (k:=i) (v:=v) h;exact .inl ⟨i,t,rfl,e⟩
 |.inr x,v,h=>by
  obtain ⟨t,e⟩:=Value.isStrOf_shape (x:=x) (v:=v) h;exact .inr ⟨x,t,rfl,e⟩
theorem _m0 (i:Int) (t:Tok):Ve (.inl i) (.int i t)=true:=by simp [Ve,Value.isInt]
theorem _oM (x:Str) (t:Tok):Ve (.inr x) (.str x t)=true:=by simp [Ve,Value.isStrOf]
theorem _jf (a b:Int):decide ((Sum.inl a:_k)=Sum.inl b)=(a==b):=by
 by_cases e:a=b
 ·subst e;simp
 ·have h:¬(Sum.inl a:_k)=Sum.inl b:=fun q=>e (Sum.inl.inj q);rw [Qn h];exact (RF.mpr e).symm
theorem _j6 (a b:Str):decide ((Sum.inr a:_k)=Sum.inr b)=decide (a=b):=by
 by_cases e:a=b
 ·subst e;simp
 ·have h:¬(Sum.inr a:_k)=Sum.inr b:=fun q=>e (Ri q);rw [Qn h,Qn e]
theorem _kP (a:Int) (b:Str):decide ((Sum.inl a:_k)=Sum.inr b)=false:=Qn (fun q=>nomatch q)
theorem _ml (a:Str) (b:Int):decide ((Sum.inr a:_k)=Sum.inl b)=false:=Qn (fun q=>nomatch q)
noncomputable def Yt (prog:Program) (w:World):PySem.KeyKind prog w _k where
 is:=Ve
 hash:=_i6 w
 inj:=fun v a b ha hb=>by
  rcases X6 ha with ⟨i,t,rfl,rfl⟩|⟨x,t,rfl,rfl⟩
  ·rcases X6 hb with ⟨j,u,rfl,e⟩|⟨y,u,rfl,e⟩
   ·injection e with e1 _;rw [e1]
   ·exact nomatch e
  ·rcases X6 hb with ⟨j,u,rfl,e⟩|⟨y,u,rfl,e⟩
   ·exact nomatch e
   ·injection e with e1 _;rw [e1]
 byValue:=fun k v h=>by
  rcases X6 h with ⟨i,t,rfl,rfl⟩|⟨x,t,rfl,rfl⟩<;>rfl
 pyHash:=fun hv h=>by
  rcases X6 hv with ⟨i,t,rfl,rfl⟩|⟨x,t,rfl,rfl⟩
  ·exact wpAny_pyHash_int h
  ·exact wpAny_pyHash_str h
 eqBool:=fun hu hv h=>by
  rcases X6 hu with ⟨i,t,rfl,rfl⟩|⟨x,t,rfl,rfl⟩
  ·rcases X6 hv with ⟨j,u,rfl,rfl⟩|⟨y,u,rfl,rfl⟩
   ·rw [_jf] at h;exact wpAny_eqBool_int h
   ·rw [_kP] at h;exact SeqAt.EqAt.int_str i t y u _ _ _ _ h
  ·rcases X6 hv with ⟨j,u,rfl,rfl⟩|⟨y,u,rfl,rfl⟩
   ·rw [_ml] at h;exact SeqAt.EqAt.str_int x t j u _ _ _ _ h
   ·rw [_j6] at h;exact wpAny_eqBool_str h
 «strs»:=fun k x t v h=>by
  rcases X6 h with ⟨i,u,rfl,e⟩|⟨y,u,rfl,e⟩
  ·exact nomatch e
  ·injection e with e1 _;subst e1;cases v<;>rfl
theorem _j7 (prog:Program) (w:World) (i:Int) (t:Tok):(Yt prog w).is (.inl i) (.int i t)=true:=_m0 i t
theorem _kY (prog:Program) (w:World) (x:Str) (t:Tok):(Yt prog w).is (.inr x) (.str x t)=true:=_oM x t
inductive V where
 |non|bl (b:Bool)|int (i:Int)|str (x:Str)|byt (b:Array UInt8)|flt (b:UInt64)|ref (a:Addr)|ty (n:String)
 deriving DecidableEq
noncomputable def RelV:V->Value->Prop
 |.non,u=>u=Value.none
 |.bl b,u=>u=Value.bool b
 |.int i,u=>∃t,u=Value.int i t
 |.str x,u=>∃t,u=Value.str x t
 |.byt b,u=>∃t,u=Value.bytes b t
 |.flt b,u=>∃t,u=Value.float b t
 |.ref a,u=>u=Value.ref a
 |.ty n,u=>u=Value.type n
noncomputable abbrev Vals:List V->List Value->Prop:=Paired RelV
theorem Vals.length (r:Vals xs us):xs.length=us.length:=GP r
theorem Vals.get:∀{xs:List V} {us:List Value} {i:Nat} {x:V},Vals xs us->xs[i]?=some x->∃u,us[i]?=some u∧RelV x u
 |_,_,_,_,.nil,e=>by simp at e
 |_,_,0,_,.cons r _,e=>by simp at e;subst e;exact ⟨_,rfl,r⟩
 |_,_,i+1,x,.cons _ t,e=>by
  obtain ⟨u,h1,h2⟩:=Vals.get (i:=i) (x:=x) t (by simpa using e);exact ⟨u,by simpa using h1,h2⟩
theorem Vals.set {x:V} {u:Value} (r:RelV x u):∀{xs:List V} {us:List Value} (i:Nat),Vals xs us->Vals (xs.set i x) (us.set i u)
 |_,_,_,.nil=>.nil
 |_,_,0,.cons _ t=>.cons r t
 |_,_,i+1,.cons q t=>.cons q (Vals.set r i t)
theorem Vals.append:∀{xs ys:List V} {us ws:List Value},Vals xs us->Vals ys ws->Vals (xs++ys) (us++ws)
 |_,_,_,_,.nil,s=>s
 |_,_,_,_,.cons r t,s=>.cons r (Vals.append t s)
theorem Vals.take:∀{xs:List V} {us:List Value} (n:Nat),Vals xs us->Vals (xs.take n) (us.take n)
 |_,_,0,_=>.nil
 |_,_,_+1,.nil=>.nil
 |_,_,n+1,.cons r t=>.cons r (Vals.take n t)
theorem Vals.drop:∀{xs:List V} {us:List Value} (n:Nat),Vals xs us->Vals (xs.drop n) (us.drop n)
 |_,_,0,r=>r
 |_,_,_+1,.nil=>.nil
 |_,_,n+1,.cons _ t=>Vals.drop n t
noncomputable def RelO:Option V->Option Value->Prop
 |some v,some u=>RelV v u
 |none,none=>True
 |_,_=>False
noncomputable def KV {κ:Type}:List (κ×V)->List (κ×Value)->Prop:=Paired fun (p:κ×V) (q:κ×Value)=>p.1=q.1∧RelV p.2 q.2
noncomputable def kV:_k->V
 |.inl i=>.int i
 |.inr x=>.str x
inductive HO where
 |lst (xs:List V)
 |tup (xs:List V)
 |dK (kvs:List (_k×V))|dT (kvs:List (List _k×V))
 |set (S:Int->Bool) (n:Nat)
 |ins (C dx:Addr) (fs:List (Str×V))
 |own (x:Addr)
 |xd (fs:List (Str×V))
 |met (f x:Addr)
 |rng (lo hi:Int)
 |frz (o:Obj) (u:HO)
 |tbl (ps:Array Value)
 |ext (φ:Heap->Prop)
noncomputable abbrev Hp:=Addr->Option HO
noncomputable def _b (H:Hp) (a:Addr) (o:HO):Hp:=fun b=>if b=a then some o else H b
theorem _f:_b H a o a=some o:=by unfold _b;rw [Qb rfl]
theorem _g (h:b≠a):_b H a o b=H b:=by unfold _b;rw [Qa h]
theorem _b9 {u:HO} (h:H a=some o) (h':H b=some u) (d:o≠u):a≠b:=by
 intro e;subst e;rw [h] at h';exact d (Ql h')
theorem _R (h:H a=some o) (h':H b=none):a≠b:=by
 intro e;subst e;rw [h] at h';cases h'
section
variable (P:Program) (w:World)
noncomputable def ObjOk (H:Hp) (h:Heap) (a:Addr):HO->Prop
 |.lst xs=>xs.length≤sizeLine∧∃(its:List Value) (n:Nat),Vals xs its∧h.get? a=some { cls:=.type "list",data:=.seq its.toArray n }
 |.tup xs=>xs.length≤sizeLine∧∃its:List Value,Vals xs its∧IsTup h a its.toArray
 |.dK kvs=>kvs.length≤sizeLine∧(a==sysModules)=false∧∃vs,KV kvs vs∧h.DictOf (Yt P w) a vs
 |.dT kvs => kvs.length ≤ sizeLine ∧ (a==sysModules)=false ∧ ∃xs : List (List _k×Addr×Value),
   Paired (fun (p:List _k×V) (q:List _k×Addr×Value)=>p.1=q.1∧H q.2.1=some (.tup (p.1.map kV))∧RelV p.2 q.2.2) kvs xs ∧
   ∃o es ep,h.get? a=some o∧o.ExactDict∧o.data=.dict es ep∧es.toList=xs.map (entryOfKey (tupleKind (Yt P w)))∧(xs.map (·.1)).Nodup
 |.set S n=>h.SetOf (intKind P w) a S n
 |.ins C dx fs => H dx=some (.own a) ∧ fs.length ≤ 1000 ∧ dx ≠ a ∧ h.get? a=some (W.instObj C dx) ∧
   ∃mA,h.Ns1 dx mA∧(∀f,RelO (fs.lookup f) (mA f))∧PySem.Within mA (fs.map (·.1))
 |.own _=>∃o,h.get? a=some o
 |.xd fs=>∃mA,h.Ns1 a mA∧∀f,RelO (fs.lookup f) (mA f)
 |.rng lo hi=>∃t u v,h.get? a=some { cls:=.type "range",data:=.fields #[.int lo t,.int hi u,.int 1 v] }
 |.frz o u=>h.get? a=some o∧ObjOk H h a u
 |.tbl ps=>h.get? a=some { cls:=.none,data:=.fields ps }
 |.met f x=>h.get? a=some (W.methodObj (.ref f) (.ref x))
 |.ext φ=>φ h∧(∃o,h.get? a=some o)∧∀h1 h2:Heap,φ h1->(∀o,h1.get? a=some o->h2.get? a=some o)->φ h2
noncomputable def HOk (H:Hp) (h:Heap):Prop:=∀a o,H a=some o->ObjOk P w H h a o
end
section
variable {w:World}
theorem ObjOk.lt (x:ObjOk P w H h a o):a<h.objs.size:=by
 cases o with
 |lst xs=>obtain ⟨_,_,_,_,e⟩:=x;exact Qp e
 |tup xs=>obtain ⟨_,_,_,p⟩:=x;exact p.lt
 |dK kvs=>obtain ⟨_,_,_,_,o,_,_,e,_⟩:=x;exact Qp e
 |dT kvs=>obtain ⟨_,_,_,_,o,_,_,e,_⟩:=x;exact Qp e
 |set S n=>obtain ⟨o,_,_,_,e,_⟩:=x;exact Qp e
 |ins C dx fs=>obtain ⟨_,_,_,e,_⟩:=x;exact Qp e
 |own y=>obtain ⟨_,e⟩:=x;exact Qp e
 |xd fs=>obtain ⟨_,⟨_,_,_,e,_⟩,_⟩:=x;exact Qp e
 |rng lo hi=>obtain ⟨_,_,_,e⟩:=x;exact Qp e
 |frz ob u=>obtain ⟨e,_⟩:=x;exact Qp e
 |tbl ps=>exact Qp (show h.get? a=some _ from x)
 |met f y=>exact Qp (show h.get? a=some _ from x)
 |ext φ=>obtain ⟨_,⟨_,e⟩,_⟩:=x;exact Qp e
theorem Paired.mapP {α β:Type} {F G:α->β->Prop}:∀{l₁:List α} {l₂:List β},Paired F l₁ l₂->(∀a b,F a b->G a b)->Paired G l₁ l₂
 |_,_,.nil,_=>.nil
 |_,_,.cons r t,f=>.cons (f _ _ r) (Paired.mapP t f)
theorem ObjOk.stay (x:ObjOk P w H h a o) (k:∀b u,(b=a∨H b=some (.own a))->h.get? b=some u->h'.get? b=some u)
 (ho:∀b,H b=some (.own a)->H' b=some (.own a)) (ht:∀b xs,H b=some (.tup xs)->H' b=some (.tup xs)):ObjOk P w H' h' a o:=by
 induction o with
 |lst xs=>obtain ⟨z,its,n,r,e⟩:=x;exact ⟨z,its,n,r,k _ _ (.inl rfl) e⟩
 |tup xs=>obtain ⟨z,its,r,ob,e,c⟩:=x;exact ⟨z,its,r,ob,k _ _ (.inl rfl) e,c⟩
 |dK kvs=>obtain ⟨z,y,vs,r,ob,es,ep,e,c⟩:=x;exact ⟨z,y,vs,r,ob,es,ep,k _ _ (.inl rfl) e,c⟩
 |dT kvs =>
  obtain ⟨z,y,xs,r,ob,es,ep,e,c⟩:=x;exact ⟨z,y,xs,Paired.mapP r fun p q z=>⟨z.1,ht _ _ z.2.1,z.2.2⟩,ob,es,ep,k _ _ (.inl rfl) e,c⟩
 |set S n=>obtain ⟨ob,es,ep,t,e,c⟩:=x;exact ⟨ob,es,ep,t,k _ _ (.inl rfl) e,c⟩
 |ins C dx fs =>
  obtain ⟨d,z,ne,e,mA,⟨od,es,ep,e2,c⟩,r⟩:=x;exact ⟨ho _ d,z,ne,k _ _ (.inl rfl) e,mA,⟨od,es,ep,k _ _ (.inr d) e2,c⟩,r⟩
 |own y=>obtain ⟨ob,e⟩:=x;exact ⟨ob,k _ _ (.inl rfl) e⟩
 |xd fs=>obtain ⟨mA,⟨od,es,ep,e,c⟩,r⟩:=x;exact ⟨mA,⟨od,es,ep,k _ _ (.inl rfl) e,c⟩,r⟩
 |rng lo hi=>obtain ⟨t,u,v,e⟩:=x;exact ⟨t,u,v,k _ _ (.inl rfl) e⟩
 |frz ob u ih=>obtain ⟨e,q⟩:=x;exact ⟨k _ _ (.inl rfl) e,ih q⟩
 |tbl ps =>
  have e:h.get? a=some { cls:=.none,data:=.fields ps }:=x;show h'.get? a=some { cls:=.none,data:=.fields ps };exact k a _ (.inl rfl) e
 |met f y =>
  have e:h.get? a=some (W.methodObj (.ref f) (.ref y)):=x;show h'.get? a=some (W.methodObj (.ref f) (.ref y));exact k a _ (.inl rfl) e
 |ext φ=>obtain ⟨p,⟨o,e⟩,st⟩:=x;exact ⟨st _ _ p fun o q=>k _ _ (.inl rfl) q,⟨o,k _ _ (.inl rfl) e⟩,st⟩
theorem HOk.lt (x:HOk P w H h) (e:H a=some o):a<h.objs.size:=(x a o e).lt
theorem HOk.fresh (x:HOk P w H h) (e:h.objs.size≤a):H a=none:=by
 cases q:H a with
 |none=>rfl
 |some u=>exact absurd (QK (x.lt q) e) (Rx _)
theorem HOk.kept (x:HOk P w H h) (k:∀b u,h.get? b=some u->h'.get? b=some u):HOk P w H h':=fun a o e =>
 (x a o e).stay (fun b u _ q=>k b u q) (fun _ q=>q) fun _ _ q=>q
theorem HOk.laid (x:HOk P w H h) (k:∀b u,h.get? b=some u->h'.get? b=some u) (hp:h.objs.size≤a) (new:ObjOk P w (_b H a o) h' a o):HOk P w (_b H a o) h':=fun b u e=>by
 have hn:=x.fresh hp;by_cases hb:b=a
 ·subst hb;rw [_f] at e;cases e;exact new
 ·rw [_g hb] at e;exact (x b u e).stay (fun c v _ q=>k c v q) (fun c q=>by rw [_g (_R q hn)];exact q) fun c xs q=>by rw [_g (_R q hn)];exact q
end
noncomputable def Rd (H:Hp) (a:Addr) (u:HO):Prop:=H a=some u∨∃o,H a=some (.frz o u)
theorem Rd.ok {w:World} {u:HO} (r:Rd H a u) (x:HOk P w H h):ObjOk P w H h a u:=by
 rcases r with r|⟨o,r⟩
 ·exact x a u r
 ·obtain ⟨_,q⟩:=x a _ r;exact q
noncomputable def UF:Option HO->Prop
 |some (.lst _)=>True
 |some (.dK _)=>True
 |some (.dT _)=>True
 |some (.set _ _)=>True
 |some (.ins _ _ _)=>True
 |some (.ext _)=>True
 |_=>False
section
variable {w:World} {x e:Addr} {o':HO}
theorem HOk.write (ok:HOk P w H h) (mu:UF (H x)) (he:e=x∨H e=some (.own x)) (k:∀b u,b≠e->h.get? b=some u->h'.get? b=some u) (heo:∃u,h'.get? e=some u)
 (new:ObjOk P w (_b H x o') h' x o'):HOk P w (_b H x o') h':=fun b u q=>by
 have nown:∀c y,H c=some (.own y)->c≠x:=fun c y r z=>by subst z;rw [r] at mu;exact mu
 have ntup:∀c xs,H c=some (.tup xs)->c≠x:=fun c xs r z=>by subst z;rw [r] at mu;exact mu
 by_cases hb:b=x
 ·subst hb;rw [_f] at q;cases q;exact new
 ·rw [_g hb] at q;by_cases hbe:b=e
  ·have q':H b=some (.own x):=by
    rcases he with z|z
    ·exact absurd (hbe.trans z) hb
    ·rw [hbe];exact z
   rw [q] at q';cases q';obtain ⟨v,hv⟩:=heo;exact ⟨v,by rw [hbe];exact hv⟩
  ·refine (ok b u q).stay (fun c v hc r=>k c v ?_ r) (fun c r=>by rw [_g (nown c b r)];exact r) fun c xs r=>by rw [_g (ntup c xs r)];exact r
   rcases hc with rfl|hc
   ·exact hbe
   ·rintro rfl;rcases he with z|z
    ·exact nown c b hc z
    ·rw [hc] at z;cases z;exact hb rfl
end
structure Un (fs ex:List Addr) (H H':Hp) (h h':Heap):Prop where
 keep:∀b o,h.get? b=some o->H b=none->b∉fs->b∉ex->h'.get? b=some o
 slot:∀b o,h.get? b=some o->H b=none->b∈fs->b∉ex->∃sl,h'.get? b=some { o with slots:=sl }
 free:∀b o,h.get? b=some o->H b=none->b∉ex->H' b=none
 there:∀b o,h.get? b=some o->b∉ex->∃o',h'.get? b=some o'
 tups:∀b xs,H b=some (.tup xs)->H' b=some (.tup xs)
 frzs:∀b o u,H b=some (.frz o u)->H' b=some (.frz o u)
 tbls:∀b ps,H b=some (.tbl ps)->∃more,H' b=some (.tbl (ps++more))
section
variable {fs fs' ex ex':List Addr} {H1 H2:Hp} {h1 h2:Heap} {x e:Addr}
theorem Un.any (u:Un fs ex H H1 h h1) {ob:Obj} (q:h.get? b=some ob) (n:H b=none) (hx:b∉ex):∃sl,h1.get? b=some { ob with slots:=sl }:=by
 by_cases hb:b∈fs
 ·exact u.slot b ob q n hb hx
 ·exact ⟨ob.slots,u.keep b ob q n hb hx⟩
theorem Un.kept (k:∀b u,h.get? b=some u->h'.get? b=some u):Un fs ex H H h h' :=
 ⟨fun b ob q _ _ _=>k b ob q,fun b ob q _ _ _=>⟨ob.slots,k b ob q⟩,fun _ _ _ n _=>n,fun b ob q _=>⟨ob,k b ob q⟩,fun _ _ q=>q,fun _ _ _ q=>q,fun _ ps q=>⟨#[],by rw [q];simp⟩⟩
theorem Un.refl:Un fs ex H H h h:=Un.kept fun _ _ q=>q
theorem Un.laid (k:∀b u,h.get? b=some u->h'.get? b=some u) (hp:h.objs.size≤a) (hn:H a=none):Un fs ex H (_b H a o) h h' where
 keep:=fun b u q _ _ _=>k b u q
 slot:=fun b u q _ _ _=>⟨u.slots,k b u q⟩
 free:=fun b u q n _=>by rw [_g (Qz (QK (Qp q) hp))];exact n
 there:=fun b u q _=>⟨u,k b u q⟩
 tups:=fun b xs q=>by rw [_g (_R q hn)];exact q
 frzs:=fun b u xs q=>by rw [_g (_R q hn)];exact q
 tbls:=fun b ps q=>⟨#[],by rw [_g (_R q hn),q];simp⟩
theorem Un.write (mu:UF (H x)) (he:e=x∨H e=some (.own x)) (k:∀b u,b≠e->h.get? b=some u->h'.get? b=some u) (heo:∃u,h'.get? e=some u):Un fs ex H (_b H x o) h h':=by
 have hx:∀b,H b=none->b≠x:=fun b n z=>by subst z;rw [n] at mu;exact mu
 have hb:∀b,H b=none->b≠e:=fun b n z=>by
  subst z;rcases he with r|r
  ·exact hx b n r
  ·rw [n] at r;cases r
 have hm:∀b u,H b=some u->¬UF (some u)->b≠x:=fun b u q nm z=>by subst z;rw [q] at mu;exact nm mu
 refine ⟨fun b u q n _ _=>k b u (hb b n) q,fun b u q n _ _=>⟨u.slots,k b u (hb b n) q⟩,fun b u q n _=>by rw [_g (hx b n)];exact n,fun b u q _=>?_,
  fun b xs q=>by rw [_g (hm b _ q fun z=>z)];exact q,fun b u xs q=>by rw [_g (hm b _ q fun z=>z)];exact q,fun b ps q=>⟨#[],by rw [_g (hm b _ q fun z=>z),q];simp⟩⟩
 by_cases hbe:b=e
 ·subst hbe;exact heo
 ·exact ⟨u,k b u hbe q⟩
end
noncomputable def J4 (h:Heap) (H:Hp):List Addr:=(List.range h.objs.size).filter fun a=>(H a).isSome
noncomputable def WJ (h:Heap) (H:Hp):Heap:=W.hideAll h (J4 h H)
theorem _ot (h:Heap) (H:Hp):(WJ h H).objs.size=h.objs.size:=W.hideAll_size _ _
theorem _kN {o:Obj} (e:h.get? b=some o) (n:H b=none):(WJ h H).get? b=some o :=
 W.hideAll_get _ e fun hm=>by
  have q:(H b).isSome=true:=(QX.mp hm).2;rw [n] at q;simp at q
theorem _pO {o:Obj} (e:(WJ h H).get? b=some o):h.get? b=some o∧H b=none:=by
 have e':h.get? b=some o:=W.of_hideAll (J4 h H) e;refine ⟨e',?_⟩;cases q:H b with
 |none=>rfl
 |some x =>
  have hm:b∈J4 h H:=QX.mpr ⟨No.mpr (Qp e'),by simp [q]⟩;have z:(WJ h H).get? b=none:=W.hideAll_none (J4 h H) hm;rw [z] at e;cases e
structure Mod (K:W.Frag) (mg:Str->Option Value) (base:Heap):Prop where
 kin:K.In base
 glob:base.Ns mainGlobals mg
 blt:∃mb,base.Ns builtinsNs mb∧∀x:Str,x≠"__name__"->mb x=bootBuiltins x
 nolimit:base.NoLimit
structure Cx where
 prog:Program
 w:World
 K:W.Frag
 mg:Str->Option Value
 base:Heap
 A:Around
 N:List Str
 s₀:Shared
 H₀:Hp
 env:Env
 outer:List Env
 stack:List Env
 ex:List Addr
 fn:Str->Bool
 calm:Bool
 pn:List (Addr×Obj)
 xe:Value->Shared->Prop
noncomputable def Xy (l:List Env):List Addr:=l.filterMap (·.frame)
noncomputable abbrev Cx.fs (X:Cx):List Addr:=Xy X.outer
noncomputable def Vis (sc:Scope) (x:Str):Prop:=sc.names.lookup x=some .local∨sc.names.lookup x=some .cell∨sc.names.lookup x=some .free
noncomputable def Uz (sc:Scope) (x:Str):Prop:=sc.names.lookup x=some .local∨sc.names.lookup x=some .cell
noncomputable def _oR (env:Env) (h:Heap) (m:Str->Option Value) (x:Str) (u:Value):Prop :=
 (env.kindOf x=some .local∧m x=some u)∨((env.kindOf x=some .cell∨env.kindOf x=some .free)∧∃c,env.cells.lookup x=some c∧h.IsCell c (some u))
structure Cx.Ok (X:Cx):Prop where
 mod:Mod X.K X.mg X.base
 kind:X.env.scope.kind=.function
 glob:X.env.globals=mainGlobals
 blt:X.env.builtins=builtinsNs
 above:X.s₀.heap.objs.size≤X.env.locals
 inj:∀x y c,X.env.cells.lookup x=some c->X.env.cells.lookup y=some c->x=y
 has:∀x,(X.env.kindOf x=some .cell∨X.env.kindOf x=some .free)->∃c,X.env.cells.lookup x=some c
 cab:∀x c,X.fn x=true->X.env.cells.lookup x=some c->X.s₀.heap.objs.size≤c
 hd:X.calm=true->X.A.handled=none
 frames:X.A.frames=some X.stack
 stk:X.stack=X.outer∨(X.stack=X.env::X.outer∧X.env.frame=some X.env.locals)
 exf:∀b∈X.ex,b≠X.env.locals∧∀x c,X.env.cells.lookup x=some c->c≠b
 bs:∀b o,X.base.get? b=some o->X.s₀.heap.get? b=some o∧X.H₀ b=none
 bsz:X.base.objs.size≤X.s₀.heap.objs.size
 noex:∀b o,X.base.get? b=some o->b∉X.ex
 exfs:∀b∈X.ex,b∉X.fs
 funs:X.s₀.heap.FunFrames X.base X.outer
 frf:∀b∈X.fs,X.H₀ b=none
structure Inv (X:Cx) (pins:List (Addr×Obj)) (σ:List (Option V)) (H:Hp) (s:Shared):Prop where
 ok:X.Ok
 os:s.os=X.s₀.os
 bare:AllBare s.gens
 base:Un X.fs X.ex X.H₀ H X.s₀.heap s.heap
 loc:∃m,s.heap.Ns X.env.locals m∧∀(i:Nat) (x:Str) (v:V),X.N[i]?=some x->σ[i]?=some (some v)->Vis X.env.scope x->∃u,RelV v u∧_oR X.env s.heap m x u
 cell:∀x c,X.env.cells.lookup x=some c->∃v,s.heap.IsCell c v
 free:H X.env.locals=none
 freeC:∀x c,X.env.cells.lookup x=some c->H c=none
 pin:∀p∈X.pn++pins,s.heap.get? p.1=some p.2∧H p.1=none∧p.1≠X.env.locals∧p.1∉X.fs∧∀v,p.2.data≠.cell v
 hok:HOk X.prog X.w H s.heap
 len:σ.length=X.N.length
section
variable {σ:List (Option V)}
theorem Cx.Ok.nofr (ok:X.Ok) {o:Obj} (e:X.base.get? b=some o):b∉X.fs:=fun hb=>by
 have:=(ok.funs.mem hb).1;rw [e] at this;cases this
theorem Inv.bs (I:Inv X pins σ H s):∀b o,X.base.get? b=some o->s.heap.get? b=some o∧H b=none:=fun b o e =>
 ⟨I.base.keep b o (I.ok.bs b o e).1 (I.ok.bs b o e).2 (I.ok.nofr e) (I.ok.noex b o e),I.base.free b o (I.ok.bs b o e).1 (I.ok.bs b o e).2 (I.ok.noex b o e)⟩
theorem Inv.bk (I:Inv X pins σ H s):∀b o,X.base.get? b=some o->s.heap.get? b=some o:=fun b o e=>(I.bs b o e).1
theorem Inv.mod (I:Inv X pins σ H s):Mod X.K X.mg X.base:=I.ok.mod
theorem Inv.kIn (I:Inv X pins σ H s):X.K.In s.heap:=I.ok.mod.kin.keeps I.bk
theorem Inv.lt (I:Inv X pins σ H s):X.env.locals<s.heap.objs.size:=let ⟨_,hn,_⟩:=I.loc;hn.lt
theorem Inv.sz (I:Inv X pins σ H s):X.s₀.heap.objs.size≤s.heap.objs.size:=Qj I.ok.above (QS I.lt)
theorem Inv.nofs (I:Inv X pins σ H s) (h:s.heap.objs.size≤a):a∉X.fs:=fun hb=>by
 obtain ⟨_,o,ho,_⟩:=I.ok.funs.mem hb;exact absurd (QK (Qp ho) (Qj I.sz h)) (Rx _)
theorem Inv.cne (I:Inv X pins σ H s):∀x c,X.env.cells.lookup x=some c->c≠X.env.locals:=fun x c e z=>by
 obtain ⟨v,o,ho,hd⟩:=I.cell x c e;obtain ⟨m,⟨o',es,ep,ho',hd',_⟩,_⟩:=I.loc;rw [z,ho'] at ho;cases ho;rw [hd'] at hd;cases hd
theorem Inv.funs (I:Inv X pins σ H s):s.heap.FunFrames X.base X.outer:=by
 have all:∀(l:List Env),(∀b∈Xy l,b∈X.fs)->X.s₀.heap.FunFrames X.base l->s.heap.FunFrames X.base l:=by
  intro l
  induction l with
  |nil=>intro _ _;trivial
  |cons env r ih =>
   intro hs hl;obtain ⟨hk,⟨L,o,hf,hn,ho,hd⟩,hr⟩:=hl;have hL:L∈X.fs:=hs L (by unfold Xy;rw [Q2,hf];exact QA);obtain ⟨sl,e⟩:=I.base.slot L o ho (I.ok.frf L hL) hL fun z=>I.ok.exfs L z hL;exact ⟨hk,⟨L,_,hf,hn,e,hd⟩,ih (fun b hb=>hs b (by unfold Xy;rw [Q2,hf];exact Qv _ hb)) hr⟩
 exact all X.outer (fun _ hb=>hb) I.ok.funs
theorem Inv.stack (I:Inv X pins σ H s):s.heap.FunFrames X.base X.stack:=by
 rcases I.ok.stk with e|⟨e,hf⟩
 ·rw [e];exact I.funs
 ·rw [e];obtain ⟨m,hn,_⟩:=I.loc;refine .cons (by rw [I.ok.kind];decide) hf hn ?_ I.funs;exact Heap.get?_none_of_le (Qj I.ok.bsz I.ok.above)
theorem Inv.stkSub (I:Inv X pins σ H s):∀b∈Xy X.stack,b∈X.env.locals::X.fs:=fun b hb=>by
 rcases I.ok.stk with e|⟨e,hf⟩
 ·rw [e] at hb;exact Qv _ hb
 ·rw [e] at hb;unfold Xy at hb;rw [Q2,hf] at hb;exact hb
theorem Inv.stkFree (I:Inv X pins σ H s):∀b∈Xy X.stack,H b=none:=fun b hb=>by
 rcases Qo.mp (I.stkSub b hb) with e|hb
 ·rw [e];exact I.free
 ·obtain ⟨_,o,ho,_⟩:=I.ok.funs.mem hb;exact I.base.free b o ho (I.ok.frf b hb) fun z=>I.ok.exfs b z hb
theorem Inv.step {g':Array GenState} {d':Drawn} (I:Inv X pins σ H s)
 (hch:∀b∈ch,(b∈X.ex∨X.s₀.heap.objs.size≤b)∧b≠X.env.locals∧(∀x c,X.env.cells.lookup x=some c->c≠b)∧∀p∈X.pn++pins,p.1≠b)
 (keep:∀b o,b≠X.env.locals->b∉X.fs->b∉ch->s.heap.get? b=some o->H b=none->h'.get? b=some o)
 (slot:∀b o,b≠X.env.locals->b∈X.fs->b∉ch->s.heap.get? b=some o->H b=none->∃sl,h'.get? b=some { o with slots:=sl }) (free:∀b o,b∉ch->s.heap.get? b=some o->H b=none->H' b=none)
 (there:∀b o,b∉ch->s.heap.get? b=some o->∃o',h'.get? b=some o')
 (tups:∀b xs,H b=some (.tup xs)->H' b=some (.tup xs)) (frzs:∀b o u,H b=some (.frz o u)->H' b=some (.frz o u)) (tbls:∀b ps,H b=some (.tbl ps)->∃more,H' b=some (.tbl (ps++more)))
 (ns:∀m,s.heap.Ns X.env.locals m->h'.Ns X.env.locals m) (hok:HOk X.prog X.w H' h') (hg:AllBare g') :
  Inv X pins σ H' { s with heap:=h',gens:=g',drawn:=d',toks:=t' }:=by
 have neL:∀b o,X.s₀.heap.get? b=some o->b≠X.env.locals:=fun b o e=>Qz (QK (Qp e) I.ok.above)
 have neC:∀b o,X.s₀.heap.get? b=some o->b∉X.ex->b∉ch:=fun b o e hx hb=>by
  rcases (hch b hb).1 with z|z
  ·exact hx z
  ·exact absurd (QK (Qp e) z) (Rx _)
 have cellK:∀x c,X.env.cells.lookup x=some c->∀v,s.heap.IsCell c v->h'.IsCell c v:=fun x c e v ⟨o,ho,hd⟩=>by
  have nch:c∉ch:=fun z=>(hch c z).2.2.1 x c e rfl;by_cases hc:c∈X.fs
  ·obtain ⟨sl,q⟩:=slot c o (I.cne x c e) hc nch ho (I.freeC x c e);exact ⟨_,q,hd⟩
  ·exact ⟨o,keep c o (I.cne x c e) hc nch ho (I.freeC x c e),hd⟩
 refine ⟨I.ok,I.os,hg,⟨fun b o e n hb hx=>?_,fun b o e n hb hx=>?_,fun b o e n hx=>?_,fun b o e hx=>?_,fun b xs e=>tups b xs (I.base.tups b xs e),fun b o xs e=>frzs b o xs (I.base.frzs b o xs e),fun b ps e=>?_⟩,?_,fun x c e=>?_,?_,fun x c e=>?_,fun p hp=>?_,hok,I.len⟩
 ·exact keep b o (neL b o e) hb (neC b o e hx) (I.base.keep b o e n hb hx) (I.base.free b o e n hx)
 ·obtain ⟨sl,e1⟩:=I.base.slot b o e n hb hx;obtain ⟨sl',e2⟩:=slot b _ (neL b o e) hb (neC b o e hx) e1 (I.base.free b o e n hx);exact ⟨sl',e2⟩
 ·obtain ⟨o',e1⟩:=I.base.there b o e hx;exact free b o' (neC b o e hx) e1 (I.base.free b o e n hx)
 ·obtain ⟨o',e1⟩:=I.base.there b o e hx;exact there b o' (neC b o e hx) e1
 ·obtain ⟨m1,e1⟩:=I.base.tbls b ps e;obtain ⟨m2,e2⟩:=tbls b _ e1;exact ⟨m1++m2,by rw [e2,Array.append_assoc]⟩
 ·obtain ⟨m,hn,hl⟩:=I.loc;refine ⟨m,ns m hn,fun i x v e1 e2 e3=>?_⟩;obtain ⟨u,r,l⟩:=hl i x v e1 e2 e3;refine ⟨u,r,?_⟩;rcases l with l|⟨k,c,e,z⟩
  ·exact .inl l
  ·exact .inr ⟨k,c,e,cellK x c e _ z⟩
 ·obtain ⟨v,z⟩:=I.cell x c e;exact ⟨v,cellK x c e v z⟩
 ·obtain ⟨m,⟨o,_,_,ho,_⟩,_⟩:=I.loc;exact free _ o (fun z=>(hch _ z).2.1 rfl) ho I.free
 ·obtain ⟨v,o,ho,hd⟩:=I.cell x c e;exact free c o (fun z=>(hch c z).2.2.1 x c e rfl) ho (I.freeC x c e)
 ·obtain ⟨e,n,ne,nf,d⟩:=I.pin p hp;have nch:p.1∉ch:=fun z=>(hch p.1 z).2.2.2 p hp rfl;exact ⟨keep p.1 p.2 ne nf nch e n,free p.1 p.2 nch e n,ne,nf,d⟩
theorem Inv.un (I:Inv X pins σ H s) (u:Un X.fs [] H H' s.heap h') (hok:HOk X.prog X.w H' h'):Inv X pins σ H' { s with heap:=h',toks:=t' }:=by
 obtain ⟨m,⟨o,es,ep,ho,r⟩,_⟩:=id I.loc;obtain ⟨sl,hL⟩:=u.any ho I.free (by simp)
 exact I.step (g':=s.gens) (d':=s.drawn) (ch:=[]) (fun _ z=>nomatch z) (fun b o _ hb _ e n=>u.keep b o e n hb (by simp)) (fun b o _ hb _ e n=>u.slot b o e n hb (by simp)) (fun b o _ e n=>u.free b o e n (by simp)) (fun b o _ e=>u.there b o e (by simp)) u.tups u.frzs u.tbls (fun m' hm=>by
  obtain ⟨o',es',ep',ho',r'⟩:=hm;rw [ho] at ho';cases ho';exact ⟨_,es',ep',hL,r'⟩) hok I.bare
theorem Inv.call {g':Array GenState} {d':Drawn} (I:Inv X pins σ H s) (u:Un (Xy X.stack) ch H H' s.heap h') (hok:HOk X.prog X.w H' h') (hg:AllBare g')
 (hch:∀b∈ch,(b∈X.ex∨X.s₀.heap.objs.size≤b)∧b≠X.env.locals∧(∀x c,X.env.cells.lookup x=some c->c≠b)∧∀p∈X.pn++pins,p.1≠b) :
  Inv X pins σ H' { s with heap:=h',gens:=g',drawn:=d',toks:=t' }:=by
 obtain ⟨m,⟨o,es,ep,ho,r⟩,_⟩:=id I.loc;obtain ⟨sl,hL⟩:=u.any ho I.free fun z=>(hch _ z).2.1 rfl
 exact I.step (ch:=ch) hch (fun b o hL hb hc e n=>u.keep b o e n (fun z=>(Qo.mp (I.stkSub b z)).elim hL hb) hc) (fun b o _ _ hc e n=>u.any e n hc) (fun b o hc e n=>u.free b o e n hc) (fun b o hc e=>u.there b o e hc) u.tups u.frzs u.tbls (fun m' hm=>by
  obtain ⟨o',es',ep',ho',r'⟩:=hm;rw [ho] at ho';cases ho';exact ⟨_,es',ep',hL,r'⟩) hok hg
theorem Inv.turned {it:Addr} (I:Inv X pins σ H s) (k:∀b o,b≠it->s.heap.get? b=some o->h'.get? b=some o) (hn:H it=none) (hL:it≠X.env.locals)
 (h1:it∈X.ex∨X.s₀.heap.objs.size≤it) (h2:∀x c,X.env.cells.lookup x=some c->c≠it) (h3:∀p∈X.pn++pins,p.1≠it):Inv X pins σ H { s with heap:=h',toks:=t' }:=by
 have nit:∀b u,H b=some u->b≠it:=fun b u e z=>by rw [z,hn] at e;cases e
 refine I.step (g':=s.gens) (d':=s.drawn) (ch:=[it]) (fun b hb=>?_) (fun b o _ _ hc e _=>k b o (fun z=>hc (by simp [z])) e) (fun b o _ _ hc e _=>⟨o.slots,k b o (fun z=>hc (by simp [z])) e⟩) (fun _ _ _ _ n=>n)
  (fun b o hc e=>⟨o,k b o (fun z=>hc (by simp [z])) e⟩) (fun _ _ e=>e) (fun _ _ _ e=>e) (fun b ps e=>⟨#[],by rw [e];simp⟩) (fun m hm=>?_) (fun b u e=>?_) I.bare
 ·have e:b=it:=by simpa using hb
  subst e;exact ⟨h1,hL,h2,h3⟩
 ·obtain ⟨o,es,ep,ho,r⟩:=hm;exact ⟨o,es,ep,k _ o (QY hL) ho,r⟩
 ·refine (I.hok b u e).stay (fun c v hc q=>k c v ?_ q) (fun _ q=>q) fun _ _ q=>q;rcases hc with z|z
  ·rw [z];exact nit b u e
  ·exact nit c _ z
theorem Inv.tok (I:Inv X pins σ H s) (t:Nat):Inv X pins σ H { s with toks:=t }:=I.un (h':=s.heap) (t':=t) Un.refl I.hok
theorem Inv.kept (I:Inv X pins σ H s) (k:∀b u,s.heap.get? b=some u->h'.get? b=some u):Inv X pins σ H { s with heap:=h',toks:=t' }:=I.un (Un.kept k) (I.hok.kept k)
theorem Inv.laid (I:Inv X pins σ H s) (k:∀b u,s.heap.get? b=some u->h'.get? b=some u) (hp:s.heap.objs.size≤a) (new:ObjOk X.prog X.w (_b H a o) h' a o) :
  Inv X pins σ (_b H a o) { s with heap:=h',toks:=t' }:=I.un (Un.laid k hp (I.hok.fresh hp)) (I.hok.laid k hp new)
theorem Inv.write {x e:Addr} (I:Inv X pins σ H s) (mu:UF (H x)) (he:e=x∨H e=some (.own x)) (k:∀b u,b≠e->s.heap.get? b=some u->h'.get? b=some u) (heo:∃u,h'.get? e=some u)
 (new:ObjOk X.prog X.w (_b H x o) h' x o):Inv X pins σ (_b H x o) { s with heap:=h',toks:=t' }:=I.un (Un.write mu he k heo) (I.hok.write mu he k heo new)
theorem Inv.pins_of {pins':List (Addr×Obj)} (I:Inv X pins σ H s) (h:∀p∈pins',s.heap.get? p.1=some p.2∧H p.1=none∧p.1≠X.env.locals∧p.1∉X.fs∧∀v,p.2.data≠.cell v):Inv X pins' σ H s :=
 ⟨I.ok,I.os,I.bare,I.base,I.loc,I.cell,I.free,I.freeC,fun p hp=>(Qm.mp hp).elim (fun z=>I.pin p (QL _ z)) (h p),I.hok,I.len⟩
theorem _gD (hN:N.Nodup) {x:Str} (a:N[i]?=some x) (b:N[j]?=some x):i=j:=by
 obtain ⟨h1,e1⟩:=QB.mp a;obtain ⟨h2,e2⟩:=QB.mp b;exact (GQ hN).mp (e1.trans e2.symm)
theorem _cE {x:Str} {Q:Unit->Shared->Prop} (I:Inv X pins σ H s) (hN:X.N.Nodup) (hi:X.N[i]?=some x) (hx:Uz X.env.scope x) (r:RelV v u)
 (h:∀s',Inv X pins (σ.set i (some v)) H s'->(∃a,Heap.SameBut a s.heap s'.heap∧(a=X.env.locals∨X.env.cells.lookup x=some a))->Q () s') (hf:X.fn x=true∨X.env.scope.names.lookup x=some .local:=by first|exact .inl rfl|exact .inr rfl|assumption):wpAny M A (storeName X.env x u) Q E s:=by
 obtain ⟨m,hn,hl⟩:=id I.loc;have hcls:(X.env.scope.kind==.class||(X.env.scope.kind==.module&&X.env.locals != X.env.globals))=false:=by rw [I.ok.kind];rfl
 have hiσ:i<σ.length:=by rw [I.len];exact (QB.mp hi).1
 have cne:=I.cne
 have tracked:∀{a:Addr} {h':Heap},(∃o,s.heap.get? a=some o∧H a=none)->Heap.SameBut a s.heap h'->HOk X.prog X.w H h':=fun {a h'} ha hs b ob e=>by
  obtain ⟨_,_,hfree⟩:=ha;refine (I.hok b ob e).stay (fun c w' hc q=>(hs.2 c ?_).trans q) (fun _ q=>q) fun _ _ q=>q;rintro rfl;rcases hc with rfl|hc
  ·rw [hfree] at e;cases e
  ·rw [hfree] at hc;cases hc
 rcases hx with hk|hk
 ·refine wpAny_storeName_local hk hn (fun h' hn' hs=>?_) hcls;obtain ⟨oL,_,_,hoL,_⟩:=id hn;refine h _ ⟨I.ok,I.os,I.bare,⟨fun b o e n hb hx=>?_,fun b o e n hb hx=>?_,I.base.free,fun b o e hx=>?_,I.base.tups,I.base.frzs,I.base.tbls⟩,⟨_,hn',fun j y v' e1 e2 e3=>?_⟩,fun y c e=>?_,I.free,I.freeC,fun p hp=>?_,tracked ⟨oL,hoL,I.free⟩ hs,by simpa using I.len⟩ ⟨_,hs,.inl rfl⟩
  ·exact (hs.2 b (Qz (QK (Qp e) I.ok.above))).trans (I.base.keep b o e n hb hx)
  ·obtain ⟨sl,e1⟩:=I.base.slot b o e n hb hx;exact ⟨sl,(hs.2 b (Qz (QK (Qp e) I.ok.above))).trans e1⟩
  ·obtain ⟨o',e1⟩:=I.base.there b o e hx;exact ⟨o',(hs.2 b (Qz (QK (Qp e) I.ok.above))).trans e1⟩
  ·by_cases hj:j=i
   ·subst hj;rw [hi] at e1;cases e1;rw [List.getElem?_set_self hiσ] at e2;cases e2;exact ⟨u,r,.inl ⟨hk,by simp⟩⟩
   ·rw [List.getElem?_set_ne (QY hj)] at e2;obtain ⟨u',r',q⟩:=hl j y v' e1 e2 e3;refine ⟨u',r',?_⟩;rcases q with ⟨k,e⟩|⟨k,c,e,z⟩
    ·refine .inl ⟨k,?_⟩;have:y≠x:=fun e=>hj (_gD hN e1 (e▸hi));simp [this,e]
    ·exact .inr ⟨k,c,e,z.sameBut hs (cne y c e)⟩
  ·obtain ⟨w',z⟩:=I.cell y c e;exact ⟨w',z.sameBut hs (cne y c e)⟩
  ·obtain ⟨e,n,ne,nf,d⟩:=I.pin p hp;exact ⟨(hs.2 p.1 ne).trans e,n,ne,nf,d⟩
 ·have hfn:X.fn x=true:=by
   rcases hf with z|z
   ·exact z
   ·rw [z] at hk;cases hk
  obtain ⟨c,hc⟩:=I.ok.has x (.inl hk);obtain ⟨w',z⟩:=I.cell x c hc;refine wpAny_storeName_cell I.ok.kind hk hc z (fun h' hc' hs=>?_);obtain ⟨oc,hoc,hocd⟩:=id z;refine h { s with heap:=h' } ⟨I.ok,I.os,I.bare,⟨fun b o e n hb hx=>?_,fun b o e n hb hx=>?_,I.base.free,fun b o e hx=>?_,I.base.tups,I.base.frzs,I.base.tbls⟩,⟨m,hn.sameBut hs (QY (cne x c hc)),fun j y v' e1 e2 e3=>?_⟩,fun y c' e=>?_,I.free,I.freeC,fun p hp=>?_,tracked ⟨oc,hoc,I.freeC x c hc⟩ hs,by simpa using I.len⟩ ⟨c,hs,.inr hc⟩
  ·exact (hs.2 b (Qz (QK (Qp e) (I.ok.cab x c hfn hc)))).trans (I.base.keep b o e n hb hx)
  ·obtain ⟨sl,e1⟩:=I.base.slot b o e n hb hx;exact ⟨sl,(hs.2 b (Qz (QK (Qp e) (I.ok.cab x c hfn hc)))).trans e1⟩
  ·obtain ⟨o',e1⟩:=I.base.there b o e hx;exact ⟨o',(hs.2 b (Qz (QK (Qp e) (I.ok.cab x c hfn hc)))).trans e1⟩
  ·by_cases hj:j=i
   ·subst hj;rw [hi] at e1;cases e1;rw [List.getElem?_set_self hiσ] at e2;cases e2;exact ⟨u,r,.inr ⟨.inl hk,c,hc,hc'⟩⟩
   ·rw [List.getElem?_set_ne (QY hj)] at e2;obtain ⟨u',r',q⟩:=hl j y v' e1 e2 e3;refine ⟨u',r',?_⟩;rcases q with q|⟨k,c',e,z'⟩
    ·exact .inl q
    ·refine .inr ⟨k,c',e,z'.sameBut hs ?_⟩;rintro rfl;exact hj (_gD hN e1 (I.ok.inj _ _ _ e hc▸hi))
  ·by_cases hcc:c'=c
   ·subst hcc;exact ⟨_,hc'⟩
   ·obtain ⟨w2,z2⟩:=I.cell y c' e;exact ⟨w2,z2.sameBut hs hcc⟩
  ·obtain ⟨e,n,ne,nf,d⟩:=I.pin p hp;refine ⟨(hs.2 p.1 ?_).trans e,n,ne,nf,d⟩;intro q;rw [q,hoc] at e;have q':oc=p.2:=Ql e;exact d w' (by rw [←q'];exact hocd)
theorem _aw {x:Str} {Q:Unit->Shared->Prop} (I:Inv X pins σ H s) (hN:X.N.Nodup) (hi:X.N[i]?=some x) (hx:Uz X.env.scope x) (r:RelV v u)
 (h:∀s',Inv X pins (σ.set i (some v)) H s'->Q () s') (hf:X.fn x=true∨X.env.scope.names.lookup x=some .local:=by first|exact .inl rfl|exact .inr rfl|assumption):wpAny M A (storeName X.env x u) Q E s :=
 _cE I hN hi hx r (fun s' I' _=>h s' I') hf
theorem Inv.call' {s':Shared} (I:Inv X pins σ H s) (ho:s'.os=s.os) (u:Un (Xy X.stack) ch H H' s.heap s'.heap) (hok:HOk X.prog X.w H' s'.heap) (hg:AllBare s'.gens)
 (hch:∀b∈ch,(b∈X.ex∨X.s₀.heap.objs.size≤b)∧b≠X.env.locals∧(∀x c,X.env.cells.lookup x=some c->c≠b)∧∀p∈X.pn++pins,p.1≠b):Inv X pins σ H' s':=by
 obtain ⟨h',g',d',t',o'⟩:=s';have e:o'=s.os:=ho;subst e;exact I.call (g':=g') (t':=t') (d':=d') u hok hg hch
end
noncomputable abbrev XK:=Value->Option Addr->Hp->Prop
noncomputable abbrev St:=List (Option V)
noncomputable abbrev VK:=V->Hp->Prop
noncomputable abbrev TE:=St->Hp->VK->Prop
noncomputable abbrev TT:=St->Hp->(Bool->Hp->Prop)->Prop
noncomputable abbrev TA:=St->Hp->(List V->Hp->Prop)->Prop
structure Ends where
 nx:St->Hp->Prop
 rt:VK
 bk:St->Hp->Prop:=fun _ _=>False
 ct:St->Hp->Prop:=fun _ _=>False
noncomputable abbrev TS:=Ends->St->Hp->Prop
noncomputable def EP (X:Cx) (pins:List (Addr×Obj)) (σ:St) (Q:VK) (u:Value) (s':Shared):Prop:=∃v H',Inv X pins σ H' s'∧RelV v u∧Q v H'
noncomputable def TP (X:Cx) (pins:List (Addr×Obj)) (σ:St) (Q:Bool->Hp->Prop) (b:Bool) (s':Shared):Prop:=∃H',Inv X pins σ H' s'∧Q b H'
noncomputable def AP (X:Cx) (pins:List (Addr×Obj)) (σ:St) (Q:List V->Hp->Prop) (us:List Value) (s':Shared):Prop:=∃vs H',Inv X pins σ H' s'∧Vals vs us∧Q vs H'
noncomputable def SP (X:Cx) (pins:List (Addr×Obj)) (D:Ends) (f:Flow) (s':Shared):Prop :=
 match f with
 |.next=>∃σ' H',Inv X pins σ' H' s'∧D.nx σ' H'
 |.brk=>∃σ' H',Inv X pins σ' H' s'∧D.bk σ' H'
 |.cont=>∃σ' H',Inv X pins σ' H' s'∧D.ct σ' H'
 |.ret u=>∃v σ' H',Inv X pins σ' H' s'∧RelV v u∧D.rt v H'
noncomputable def PE (X:Cx) (e:Expr) (t:TE):Prop :=
 ∀(pins:List (Addr×Obj)) (s:Shared) (σ:St) (H:Hp) (Q:VK),Inv X pins σ H s->t σ H Q->wpAny (model X.prog X.w) X.A (eval e X.env) (EP X pins σ Q) X.xe s
noncomputable def PT (X:Cx) (e:Expr) (t:TT):Prop :=
 ∀(pins:List (Addr×Obj)) (s:Shared) (σ:St) (H:Hp) (Q:Bool->Hp->Prop),Inv X pins σ H s->t σ H Q->wpAny (model X.prog X.w) X.A (isTrue e X.env (eval e X.env)) (TP X pins σ Q) X.xe s
noncomputable def PW (X:Cx) (e:Expr) (t:TT):Prop :=
 ∀(whole:Sem Value) (pins:List (Addr×Obj)) (s:Shared) (σ:St) (H:Hp) (Q:Bool->Hp->Prop),Inv X pins σ H s->t σ H Q->wpAny (model X.prog X.w) X.A (isTrue e X.env whole) (TP X pins σ Q) X.xe s
theorem PW.pt {t:TT} (h:PW X e t):PT X e t:=h _
noncomputable def PA (X:Cx) (es:List Expr) (t:TA):Prop :=
 ∀(pos:Pos) (pins:List (Addr×Obj)) (s:Shared) (σ:St) (H:Hp) (Q:List V->Hp->Prop),Inv X pins σ H s->t σ H Q->wpAny (model X.prog X.w) X.A (spliced (backTo pos (starEach es X.env))) (AP X pins σ Q) X.xe s
noncomputable def PS (X:Cx) (st:Stmt) (t:TS):Prop :=
 ∀(pins:List (Addr×Obj)) (s:Shared) (σ:St) (H:Hp) (D:Ends),Inv X pins σ H s->t D σ H->wpAny (model X.prog X.w) X.A (exec st X.env) (SP X pins D) X.xe s
noncomputable def PSs (X:Cx) (st:List Stmt) (t:TS):Prop :=
 ∀(pins:List (Addr×Obj)) (s:Shared) (σ:St) (H:Hp) (D:Ends),Inv X pins σ H s->t D σ H->wpAny (model X.prog X.w) X.A (execs st X.env) (SP X pins D) X.xe s
theorem _p {α:Type} {t:Sem α} {Q Q':α->Shared->Prop} (h:wpAny M A t Q E s) (hQ:∀a s,Q a s->Q' a s):wpAny M A t Q' E s:=Rb h hQ fun _ _ x=>x
section
noncomputable def XJ (i:Nat):TE:=fun σ H Q=>∃v,σ[i]?=some (some v)∧Q v H
noncomputable def tC (v:V):TE:=fun _ H Q=>Q v H
theorem _cn {x:Str} (hN:X.N[i]?=some x) (hv:Vis X.env.scope x) (hd:(x==("__debug__": Str))=false:=by decide) (hcd:(x==("__classdict__": Str))=false:=by decide):PE X (.Name x pos) (XJ i):=by
 intro pins s σ H Q I h;obtain ⟨v,e,h⟩:=h;obtain ⟨m,hn,hl⟩:=I.loc;obtain ⟨u,r,l⟩:=hl i x v hN e hv;have fin:EP X pins σ Q u s:=⟨v,H,I,r,h⟩;rcases l with ⟨hk,hm⟩|⟨hk,c,hc,hcell⟩
 ·exact wpAny_Name (wpAny_loadName_local I.ok.kind hk hn hm fin) hd
 ·rcases hk with hk|hk
  ·exact wpAny_Name (wpAny_loadName_cell I.ok.kind hk hc hcell fin) hd
  ·exact wpAny_Name (wpAny_loadName_free I.ok.kind hk hc hcell fin hcd) hd
theorem _d {i j pos}:PE X (.Constant (.int i) j pos) (tC (.int i)):=fun _ _ _ H _ I h=>wpAny_Constant_int ⟨.int i,H,I.tok _,⟨_,rfl⟩,h⟩
theorem YT {b j pos}:PE X (.Constant (.bool b) j pos) (tC (.bl b)):=fun _ _ _ H _ I h=>Constant_bool ⟨.bl b,H,I,rfl,h⟩
theorem JQ {j pos}:PE X (.Constant .none j pos) (tC .non):=fun _ _ _ H _ I h=>Constant_none ⟨.non,H,I,rfl,h⟩
theorem _q {x j pos}:PE X (.Constant (.str x) j pos) (tC (.str x)):=fun _ _ _ H _ I h=>Calls.Constant_str ⟨.str x,H,I.tok _,⟨_,rfl⟩,h⟩
noncomputable def Gl (X:Cx) (x:Str):Prop:=X.env.kindOf x=some .globalImplicit
theorem _ae {x:Str} (I:Inv X pins σ H s) (hg:Gl X x) (hm:X.mg x=some u) (h:Q u s)
 (hd:(x==("__debug__": Str))=false:=by decide):wpAny (model X.prog X.w) X.A (eval (.Name x pos) X.env) Q E s :=
 Calls.Name_function_global I.ok.kind hg (Calls.loadGlobal_global (by rw [I.ok.glob];exact I.mod.glob.keeps I.bk) hm h) hd
theorem Up {x:Str} (I:Inv X pins σ H s) (hg:Gl X x) (hm:X.mg x=none) (hv:bootBuiltins x=some u) (h:Q u s)
 (hn:x≠"__name__":=by decide) (hd:(x==("__debug__": Str))=false:=by decide):wpAny (model X.prog X.w) X.A (eval (.Name x pos) X.env) Q E s:=by
 obtain ⟨mb,h1,h2⟩:=I.mod.blt;exact Calls.Name_function_global I.ok.kind hg (Calls.loadGlobal_builtin (by rw [I.ok.glob];exact I.mod.glob.keeps I.bk) hm (by rw [I.ok.blt];exact h1.keeps I.bk) ((h2 x hn).trans hv) h) hd
theorem We {x:Str} (hg:Gl X x) (hm:X.mg x=some u) (r:RelV v u) (hd:(x==("__debug__": Str))=false:=by decide):PE X (.Name x pos) (tC v) :=
 fun _ _ _ H _ I h=>_ae I hg hm ⟨v,H,I,r,h⟩ hd
theorem Xq {x:Str} (hg:Gl X x) (hm:X.mg x=none) (hv:bootBuiltins x=some u) (r:RelV v u) (hn:x≠"__name__":=by decide) (hd:(x==("__debug__": Str))=false:=by decide):PE X (.Name x pos) (tC v) :=
 fun _ _ _ H _ I h=>Up I hg hm hv ⟨v,H,I,r,h⟩ hn hd
variable {a b:Expr} {tb:TE}
noncomputable def PC (X:Cx) (op:CmpOp) (a b:Expr) (t:TE):Prop :=
 ∀(pins:List (Addr×Obj)) (s:Shared) (σ:St) (H:Hp) (Q:VK),Inv X pins σ H s->t σ H Q →
  wpAny (model X.prog X.w) X.A (eval a X.env) (fun v s₁=>wpAny (model X.prog X.w) X.A (eval b X.env) (fun u s₂=>wpAny (model X.prog X.w) X.A (compareOp op v u) (EP X pins σ Q) X.xe s₂) X.xe s₁) X.xe s
noncomputable def tB (t:TE):TT:=fun σ H Q=>t σ H fun x H1=>∃c,x=.bl c∧Q c H1
theorem Vo {t:TE} (h:PC X op a b t) (h1:behindInMarks op b=false:=by first|exact nobehind _ (by decide) (by decide)|rfl):PT X (.Compare a [op] [b] pos) (tB t):=by
 intro pins s σ H Q I hw;refine wpAny_isTrue_Compare1 (_p (h pins s σ H _ I hw) fun v s1 h1=>_p h1 fun u s2 h2=>_p h2 fun c s3 ⟨x,H1,I1,r1,q1⟩=>?_) h1;obtain ⟨d,rfl,q⟩:=q1;cases r1;exact RT ⟨H1,I1,q⟩
theorem YG {t:TE} (h:PE X e t) (he:∀whole,isTrue e X.env whole=(do let v ←whole;standAt e.pos;holding [v] (truthy v)):=by intro _;rfl):PT X e (tB t):=by
 intro pins s σ H Q I hw;refine isTrue_plain (_p (h pins s σ H _ I hw) fun v s1 ⟨x,H1,I1,r1,q1⟩=>?_) (he _);obtain ⟨d,rfl,q⟩:=q1;cases r1;exact RT ⟨H1,I1,q⟩
variable {tA tB':TT} {rest:List Expr}
noncomputable def _mf (t u:TT):TT:=fun σ H Q=>t σ H fun c H1=>if c=true then u σ H1 Q else Q false H1
noncomputable def tOr (t u:TT):TT:=fun σ H Q=>t σ H fun c H1=>if c=true then Q true H1 else u σ H1 Q
noncomputable def _kF (t:TT):TT:=fun σ H Q=>t σ H fun c H1=>Q (!c) H1
theorem Wv (ha:PT X a tA):PW X (.BoolOp .And [a] pos) tA:=by
 intro wh pins s σ H Q I h;refine isTrue_and (_p (ha pins s σ H Q I h) fun c s1 e=>?_);cases c with
 |true=>exact isTrue_and_nil e
 |false=>exact e
theorem Xk (ha:PT X a tA):PW X (.BoolOp .Or [a] pos) tA:=by
 intro wh pins s σ H Q I h;refine isTrue_or (_p (ha pins s σ H Q I h) fun c s1 e=>?_);cases c with
 |false=>exact isTrue_or_nil e
 |true=>exact e
theorem Wn (ha:PT X a tA) (hb:PW X (.BoolOp .And (b::rest) pos) tB'):PW X (.BoolOp .And (a::b::rest) pos) (_mf tA tB'):=by
 intro wh pins s σ H Q I h;refine isTrue_and (_p (ha pins s σ H _ I h) fun c s1 ⟨H1,I1,q1⟩=>?_);cases c with
 |true=>exact hb wh pins s1 σ H1 Q I1 q1
 |false=>exact ⟨H1,I1,q1⟩
theorem Xb (ha:PT X a tA) (hb:PW X (.BoolOp .Or (b::rest) pos) tB'):PW X (.BoolOp .Or (a::b::rest) pos) (tOr tA tB'):=by
 intro wh pins s σ H Q I h;refine isTrue_or (_p (ha pins s σ H _ I h) fun c s1 ⟨H1,I1,q1⟩=>?_);cases c with
 |true=>exact ⟨H1,I1,q1⟩
 |false=>exact hb wh pins s1 σ H1 Q I1 q1
theorem Xo (ha:PT X a tA):PT X (.UnaryOp .Not a pos) (_kF tA):=by
 intro pins s σ H Q I h;exact isTrue_not (ha pins s σ H (fun c H1=>Q (!c) H1) I h)
noncomputable def _jj (ta tb:TE):TE:=fun σ H Q=>ta σ H fun x H1=>∃c,x=.bl c∧if c=true then tb σ H1 Q else Q (.bl false) H1
noncomputable def _nv (ta tb:TE):TE:=fun σ H Q=>ta σ H fun x H1=>∃c,x=.bl c∧if c=true then Q (.bl true) H1 else tb σ H1 Q
noncomputable def _pD (ta:TE):TE:=fun σ H Q=>ta σ H fun x H1=>∃c,x=.bl c∧Q (.bl (!c)) H1
theorem XU {op} {t:TE} (h:PE X a t):PE X (.BoolOp op [a] pos) t:=fun pins s σ H Q I hw=>BoolOp_one (h pins s σ H Q I hw)
theorem Wb (ha:PE X a ta) (hb:PE X (.BoolOp .And (b::rest) pos) tb):PE X (.BoolOp .And (a::b::rest) pos) (_jj ta tb):=by
 intro pins s σ H Q I h;refine BoolOp_and (_p (ha pins s σ H _ I h) fun v s1 ⟨x,H1,I1,r1,q1⟩=>?_);obtain ⟨c,rfl,q1⟩:=q1;cases r1;refine RT ?_;cases c with
 |true=>exact hb pins s1 σ H1 Q I1 q1
 |false=>exact ⟨.bl false,H1,I1,rfl,q1⟩
theorem _eW (ha:PE X a ta) (hb:PE X (.BoolOp .Or (b::rest) pos) tb):PE X (.BoolOp .Or (a::b::rest) pos) (_nv ta tb):=by
 intro pins s σ H Q I h;refine BoolOp_or (_p (ha pins s σ H _ I h) fun v s1 ⟨x,H1,I1,r1,q1⟩=>?_);obtain ⟨c,rfl,q1⟩:=q1;cases r1;refine RT ?_;cases c with
 |false=>exact hb pins s1 σ H1 Q I1 q1
 |true=>exact ⟨.bl true,H1,I1,rfl,q1⟩
theorem _np (ha:PE X a ta):PE X (.UnaryOp .Not a pos) (_pD ta):=by
 intro pins s σ H Q I h;refine UnaryOp_ (_p (ha pins s σ H _ I h) fun v s1 ⟨x,H1,I1,r1,q1⟩=>?_);obtain ⟨c,rfl,q1⟩:=q1;cases r1;exact not_of (RT ⟨.bl (!c),H1,I1,rfl,q1⟩)
noncomputable def tIf (t:TT) (ta tb:TE):TE:=fun σ H Q=>t σ H fun c H1=>if c=true then ta σ H1 Q else tb σ H1 Q
theorem _m1 (hc:PT X c tA) (ha:PE X a ta) (hb:PE X b tb):PE X (.IfExp c a b pos) (tIf tA ta tb):=by
 intro pins s σ H Q I h;refine wpAny_IfExp (_p (hc pins s σ H _ I h) fun d s1 ⟨H1,I1,q1⟩=>?_);cases d with
 |true=>exact ha pins s1 σ H1 Q I1 q1
 |false=>exact hb pins s1 σ H1 Q I1 q1
end
noncomputable def SqL (K:W.Frag) (H:Hp) (a:Addr) (xs:List V):Prop :=
 Rd H a (.lst xs) ∨
  ∃(o:Obj) (its:Array Value) (n:Nat),K.lookup a=some o∧o.cls=.type "list"∧o.dict=none∧o.data=.seq its n∧its.size≤sizeLine∧Vals xs its.toList
noncomputable def SqT (K:W.Frag) (H:Hp) (a:Addr) (xs:List V):Prop :=
 Rd H a (.tup xs) ∨
  ∃(o:Obj) (its:Array Value) (n:Nat),K.lookup a=some o∧o.cls=.type "tuple"∧o.data=.seq its n∧its.size≤sizeLine∧Vals xs its.toList
noncomputable def _m3:Value->Option V
 |.none=>some .non
 |.bool b=>some (.bl b)
 |.int i _=>some (.int i)
 |.str x _=>some (.str x)
 |.bytes b _=>some (.byt b)
 |.float b _=>some (.flt b)
 |.ref a=>some (.ref a)
 |.type n=>some (.ty n)
 |_=>none
theorem RelV.abs {x:V} (r:RelV x u):_m3 u=some x:=by
 cases x with
 |non=>cases r;rfl
 |bl _=>cases r;rfl
 |int _=>obtain ⟨t,rfl⟩:=r;rfl
 |str _=>obtain ⟨t,rfl⟩:=r;rfl
 |byt _=>obtain ⟨t,rfl⟩:=r;rfl
 |flt _=>obtain ⟨t,rfl⟩:=r;rfl
 |ref _=>cases r;rfl
 |ty _=>cases r;rfl
theorem RelV.inj {x:V} (r:RelV x u) (q:RelV y u):x=y:=Ql (r.abs.symm.trans q.abs)
theorem Vals.inj:∀{xs ys:List V} {us:List Value},Vals xs us->Vals ys us->xs=ys
 |_,_,_,.nil,.nil=>rfl
 |_,_,_,.cons r t,.cons r' t'=>by rw [r.inj r',Vals.inj t t']
section
variable {ys:List V}
theorem SqL.of (h:H a=some (.lst xs)):SqL K H a xs:=.inl (.inl h)
theorem SqT.of (h:H a=some (.tup xs)):SqT K H a xs:=.inl (.inl h)
theorem Inv.list (I:Inv X pins σ H s) (h:SqL X.K H a xs):∃its:List Value,Vals xs its∧PlainL s.heap a its.toArray∧xs.length≤sizeLine:=by
 rcases h with h|⟨o,its,n,hk,hc,hd,hs,hz,r⟩
 ·obtain ⟨z,its,n,r,e⟩:=h.ok I.hok;exact ⟨its,r,⟨_,n,e,rfl,rfl,rfl⟩,z⟩
 ·refine ⟨its.toList,r,⟨o,n,I.kIn a o hk,hc,hd,by simpa using hs⟩,?_⟩;have e:=r.length;simp only [QF] at e;omega
theorem Inv.tuple (I:Inv X pins σ H s) (h:SqT X.K H a xs):∃its:List Value,Vals xs its∧IsTup s.heap a its.toArray∧xs.length≤sizeLine:=by
 rcases h with h|⟨o,its,n,hk,hc,hs,hz,r⟩
 ·obtain ⟨z,its,r,p⟩:=h.ok I.hok;exact ⟨its,r,p,z⟩
 ·refine ⟨its.toList,r,⟨o,I.kIn a o hk,hc,n,by simpa using hs⟩,?_⟩;have e:=r.length;simp only [QF] at e;omega
theorem Inv.list_inj (I:Inv X pins σ H s) (h:SqL X.K H a xs) (h':SqL X.K H a ys):xs=ys:=by
 obtain ⟨its,r,⟨o,n,e,_,_,d⟩,_⟩:=I.list h;obtain ⟨its',r',⟨o',n',e',_,_,d'⟩,_⟩:=I.list h';rw [e] at e';cases e';rw [d] at d';injection d' with d1 _;have:its=its':=by simpa using Qk Array.toList d1
 subst this;exact r.inj r'
theorem Inv.tuple_inj (I:Inv X pins σ H s) (h:SqT X.K H a xs) (h':SqT X.K H a ys):xs=ys:=by
 obtain ⟨its,r,⟨o,e,_,n,d⟩,_⟩:=I.tuple h;obtain ⟨its',r',⟨o',e',_,n',d'⟩,_⟩:=I.tuple h';rw [e] at e';cases e';rw [d] at d';injection d' with d1 _;have:its=its':=by simpa using Qk Array.toList d1
 subst this;exact r.inj r'
end
section
variable {st:Stmt} {rest:List Stmt} {t u:TS}
noncomputable def _aM:TS:=fun D σ H=>D.nx σ H
noncomputable def _a8 (t u:TS):TS:=fun D σ H=>t { D with nx:=u D } σ H
theorem _A:PSs X [] _aM:=fun _ _ σ H _ I h=>wpAny_execs_nil ⟨σ,H,I,h⟩
theorem _i (h1:PS X st t) (h2:PSs X rest u):PSs X (st::rest) (_a8 t u):=by
 intro pins s σ H D I h;refine wpAny_execs_cons (_p (h1 pins s σ H { D with nx:=u D } I h) fun f s1 q=>?_);cases f with
 |next =>
  obtain ⟨σ',H',I',q⟩:=q;exact h2 pins s1 σ' H' D I' q
 |ret v=>exact q
 |brk=>exact q
 |cont=>exact q
theorem _h (h1:PS X st t):PSs X [st] t:=by
 intro pins s σ H D I h;refine wpAny_execs_cons (_p (h1 pins s σ H D I h) fun f s1 q=>?_);cases f with
 |next=>exact wpAny_execs_nil q
 |ret v=>exact q
 |brk=>exact q
 |cont=>exact q
theorem Inv.quiet (I:Inv X pins σ H s):interactive X.env=false:=by simp [interactive,I.ok.kind]
noncomputable def _lM (te:TE):TS:=fun D σ H=>te σ H fun _ H1=>D.nx σ H1
theorem Yh (he:PE X e te) (hs:swapsWith e none pos.line X.env=pure false:=by rfl):PS X (.Expr e pos) (_lM te):=by
 intro pins s σ H D I h;exact wpAny_Expr_any (_p (he pins s σ H _ I h) fun v s1 ⟨x,H1,I1,r1,q1⟩=>⟨σ,H1,I1,q1⟩) I.quiet hs
noncomputable def _hC (te:TE):TS:=fun D σ H=>te σ H D.rt
theorem _s (he:PE X e te):PS X (.Return (some e) pos) (_hC te):=by
 intro pins s σ H D I h;exact wpAny_Return_some (_p (he pins s σ H _ I h) fun v s1 ⟨x,H1,I1,r1,q1⟩=>⟨x,σ,H1,I1,r1,q1⟩)
noncomputable def _kh (c:TT) (t u:TS):TS:=fun D σ H=>c σ H fun b H1=>if b=true then t D σ H1 else u D σ H1
theorem _z {a b:List Stmt} {tc:TT} (hc:PT X c tc) (ha:PSs X a t) (hb:PSs X b u):PS X (.If c a b pos) (_kh tc t u):=by
 intro pins s σ H D I h;refine wpAny_If (_p (hc pins s σ H _ I h) fun d s1 ⟨H1,I1,q1⟩=>?_);cases d with
 |true=>exact ha pins s1 σ H1 D I1 q1
 |false=>exact hb pins s1 σ H1 D I1 q1
end
noncomputable abbrev TG:=V->St->Hp->(St->Hp->Prop)->Prop
noncomputable abbrev Wg:=List V->St->Hp->(St->Hp->Prop)->Prop
noncomputable def PG (X:Cx) (target:Expr) (t:TG):Prop :=
 ∀(pins:List (Addr×Obj)) (s:Shared) (σ:St) (H:Hp) (v:V) (u:Value) (Q:St->Hp->Prop),Inv X pins σ H s->RelV v u->t v σ H Q →
  wpAny (model X.prog X.w) X.A (assign target X.env u) (fun _ s'=>∃σ' H',Inv X pins σ' H' s'∧Q σ' H') X.xe s
noncomputable def Uq (X:Cx) (ts:List Expr) (t:Wg):Prop :=
 ∀(pins:List (Addr×Obj)) (s:Shared) (σ:St) (H:Hp) (vs:List V) (us:List Value) (Q:St->Hp->Prop),Inv X pins σ H s->Vals vs us->t vs σ H Q →
  wpAny (model X.prog X.w) X.A (assignInOrder ((assignEach ts X.env).map (·.2)) us) (fun _ s'=>∃σ' H',Inv X pins σ' H' s'∧Q σ' H') X.xe s
noncomputable abbrev _bm:=V->V->V->Hp->(Hp->Prop)->Prop
noncomputable def _gr (X:Cx) (t:_bm):Prop :=
 ∀(pins:List (Addr×Obj)) (s:Shared) (σ:St) (H:Hp) (o i v:V) (ov iv u:Value) (Q:Hp->Prop),Inv X pins σ H s->RelV o ov->RelV i iv->RelV v u->t o i v H Q →
  wpAny (model X.prog X.w) X.A (setItem ov iv u) (fun _ s'=>∃H',Inv X pins σ H' s'∧Q H') X.xe s
noncomputable def _V (i:Nat):TG:=fun v σ H Q=>Q (σ.set i (some v)) H
theorem _I {x:Str} (hN:X.N.Nodup) (hi:X.N[i]?=some x) (hx:Uz X.env.scope x) (hf:X.fn x=true∨X.env.scope.names.lookup x=some .local:=by first|exact .inl rfl|exact .inr rfl|assumption):PG X (.Name x pos) (_V i):=by
 intro pins s σ H v u Q I r h;exact wpAny_assign_Name (_aw I hN hi hx r (fun s' I'=>⟨_,H,I',h⟩) hf)
noncomputable def _oN:Wg:=fun vs σ H Q=>vs=[]∧Q σ H
noncomputable def _nu (t:TG) (u:Wg):Wg:=fun vs σ H Q=>∃v r,vs=v::r∧t v σ H fun σ' H'=>u r σ' H' Q
theorem Wi:Uq X [] _oN:=by
 intro pins s σ H vs us Q I r h;obtain ⟨e,h⟩:=h;subst e;cases r;exact assignInOrder_nil ⟨σ,H,I,h⟩
theorem YN {t:TG} {u:Wg} (h1:PG X e t) (h2:Uq X es u)
 (hs:(assignEach (e::es) X.env).map (·.2)=assign e X.env::(assignEach es X.env).map (·.2):=by rfl):Uq X (e::es) (_nu t u):=by
 intro pins s σ H vs us Q I r h;obtain ⟨v,vr,e1,h⟩:=h;subst e1;cases r with
 |cons r rr =>
  rw [hs];refine assignInOrder_cons (_p (h1 pins s σ H _ _ _ I r h) fun _ s1 ⟨σ1,H1,I1,q1⟩=>?_);exact h2 pins s1 σ1 H1 _ _ Q I1 rr q1
noncomputable def _co (K:W.Frag) (n:Nat) (t:Wg):TG:=fun v σ H Q=>∃a xs,v=.ref a∧SqT K H a xs∧xs.length=n∧t xs σ H Q
theorem VR {k:Nat} {t:Wg} (hc:X.calm=true) (h:Uq X es t)
 (hn:(assignEach es X.env).length=n:=by rfl) (hst:(assignEach es X.env).findIdx? (·.1)=none:=by rfl):PG X (.Tuple es k pos) (_co X.K n t):=by
 intro pins s σ H v u Q I r hw;obtain ⟨a,xs,e1,hq,hl,hw⟩:=hw;subst e1;cases r;obtain ⟨its,rv,ht,hz⟩:=I.tuple hq;refine assign_Tuple_tuple (I.ok.hd hc) ht (by simp [hn,←hl,rv.length]) hst fun h' hx=>?_;have I1:Inv X pins σ H { s with heap:=h' }:=I.kept (t':=s.toks) fun b o e=>hx b o (Qz (Qp e)) e;exact h pins _ σ H xs _ Q I1 (by simpa using rv) hw
noncomputable def _iO (to ti:TE) (t:_bm):TG:=fun v σ H Q=>to σ H fun o H1=>ti σ H1 fun i H2=>t o i v H2 fun H3=>Q σ H3
theorem _jk {o i:Expr} {to ti:TE} {t:_bm} (ho:PE X o to) (hi:PE X i ti) (hs:_gr X t)
 (ha:∀v,assign (.Subscript o i pos) X.env v=(do
 let ov ←holding [v] (eval o X.env)
 let iv ←holding [v,ov] (eval i X.env)
 standAt pos
 holding [v,ov,iv] (setItem ov iv v)
 release [v,ov,iv] []):=by intro _;rfl):PG X (.Subscript o i pos) (_iO to ti t):=by
 intro pins s σ H v u Q I r h;rw [ha];refine Qd (Q3 (_p (ho pins s σ H _ I h) fun ov s1 ⟨x,H1,I1,r1,q1⟩=>?_));refine Qd (Q3 (_p (hi pins s1 σ H1 _ I1 q1) fun iv s2 ⟨y,H2,I2,r2,q2⟩=>?_));refine Qd (Gs (Qd (Q3 (_p (hs pins s2 σ H2 x y v ov iv u _ I2 r1 r2 r q2) fun _ s3 ⟨H3,I3,q3⟩=>?_))));exact wpAny_release ⟨σ,H3,I3,q3⟩
noncomputable def JL (te:TE) (g:TG):TS:=fun D σ H=>te σ H fun x H1=>g x σ H1 D.nx
theorem _h1 {g:TG} (he:PE X e te) (hg:PG X tg g) (hs:swapsWithSole [tg] e pos.line X.env=pure false:=by rfl) (hw:swappedStores [tg] e X.env=pure none:=by rfl)
 (h1:(assignEach [tg] X.env).map (·.2)=[assign tg X.env]:=by rfl):PS X (.Assign [tg] e pos) (JL te g):=by
 intro pins s σ H D I h;refine wpAny_Assign_stores (_p (he pins s σ H _ I h) fun v s1 ⟨x,H1,I1,r1,q1⟩=>?_) hs hw;rw [h1];exact _p (hg pins s1 σ H1 x v _ I1 r1 q1) fun _ s2 q=>q
theorem _B {x:Str} {pos':Pos} (hN:X.N.Nodup) (hi:X.N[i]?=some x) (hx:Uz X.env.scope x) (he:PE X e te) (hs:swapsWith e (some (.Name x pos')) pos.line X.env=pure false:=by rfl) (hf:X.fn x=true∨X.env.scope.names.lookup x=some .local:=by first|exact .inl rfl|exact .inr rfl|assumption) :
  PS X (.Assign [.Name x pos'] e pos) (JL te (_V i)):=by
 intro pins s σ H D I h;refine wpAny_Assign_Name (_p (he pins s σ H _ I h) fun v s1 ⟨y,H1,I1,r1,q1⟩=>?_) hs;exact _aw I1 hN hi hx r1 (fun s2 I2=>⟨_,H1,I2,q1⟩) hf
noncomputable def _jF (i j:Nat) (ta:TA):TS:=fun D σ H=>ta σ H fun vs H1=>∃v w,vs=[v,w]∧D.nx ((σ.set i (some v)).set j (some w)) H1
theorem _nm {x y:Str} {a b:Expr} {ta:TA} {px py pt:Pos} {kt k2 pt2} (hc:X.calm=true) (hN:X.N.Nodup) (hi:X.N[i]?=some x) (hj:X.N[j]?=some y) (hij:i≠j)
 (hx:X.env.scope.names.lookup x=some .local) (hy:X.env.scope.names.lookup y=some .local) (ha:PA X [a,b] ta)
 (hw:swappedStores [.Tuple [.Name x px,.Name y py] kt pt] (.Tuple [a,b] k2 pt2) X.env=pure (some [x,y]))
 (hs:swapsWithSole [.Tuple [.Name x px,.Name y py] kt pt] (.Tuple [a,b] k2 pt2) pos.line X.env=pure false:=by rfl) :
  PS X (.Assign [.Tuple [.Name x px,.Name y py] kt pt] (.Tuple [a,b] k2 pt2) pos) (_jF i j ta):=by
 intro pins s σ H D I h;rw [exec_Assign_arm];refine Qd (Gs ?_);rw [hs];refine Qd (Qg ?_);rw [Qa (by decide)];refine Qd (Tuple_ (_p (ha _ pins s σ H _ I h) fun us s1 ⟨vs,H1,I1,r1,q1⟩=>?_));obtain ⟨v,w,e1,q1⟩:=q1;subst e1
 obtain ⟨u1,u2,rfl,rv,rw'⟩:∃u1 u2,us=[u1,u2]∧RelV v u1∧RelV w u2:=by
  cases r1 with
  |cons p q =>
   cases q with
   |cons p' q' =>
    cases q';exact ⟨_,_,rfl,p,p'⟩
 refine Rc ?_ (by show 2≤sizeLine;decide);have I2:Inv X pins σ H1 { s1 with heap:=s1.heap.push { cls:=.type "tuple",data:=.seq [u1,u2].toArray } }:=I1.kept (t':=s1.toks) fun b o e=>Qq _ e;rw [hw];refine Qd (Qg ?_);show wpAny (model X.prog X.w) X.A (do rule "assign.swapped-stores";let items ←unpackItems (.ref s1.heap.objs.size) 2 none;assignInOrder [fun v=>bindName X.env y v,fun v=>bindName X.env x v] items.reverse;pure Flow.next) _ _ _;refine Qd (R6 (Qd (unpackItems_tuple (items:=#[u1,u2]) (I.ok.hd hc) (IsTup.new s1.heap _) fun h' hx'=>?_)));have I3:=I2.kept (h':=h') (t':=s1.toks) fun b o e=>hx' b o (Qz (Qp e)) e;show wpAny _ _ (assignInOrder [fun v=>bindName X.env y v,fun v=>bindName X.env x v] [u2,u1] >>= fun _=>pure Flow.next) _ _ _;refine Qd (assignInOrder_cons (wpAny_bindName (_aw I3 hN hj (.inl hy) rw' (fun s2 I4=>?_) (.inr hy))));refine assignInOrder_cons (wpAny_bindName (_aw I4 hN hi (.inl hx) rv (fun s3 I5=>assignInOrder_nil (Qg ?_)) (.inr hx)));rw [List.set_comm _ _ (QY hij)] at I5;exact ⟨_,H1,I5,q1⟩
structure It where
 go:Nat->Hp->Prop
 yld:Nat->Hp->V->Hp->Prop
 stop:Nat->Hp->Prop
noncomputable def XT (X:Cx) (pins:List (Addr×Obj)) (H:Hp) (b:Addr):Prop :=
 H b=none∧b≠X.env.locals∧b∉X.fs∧(b∈X.ex∨X.s₀.heap.objs.size≤b)∧(∀x c,X.env.cells.lookup x=some c->c≠b)∧∀p∈X.pn++pins,p.1≠b
theorem Inv.fpOk (I:Inv X pins σ H s) (hb:s.heap.objs.size≤b) (hn:H' b=none):XT X pins H' b:=by
 refine ⟨hn,RG (QK I.lt hb),I.nofs hb,.inr (Qj I.sz hb),fun x c e z=>?_,fun p hp z=>?_⟩
 ·obtain ⟨v,q⟩:=I.cell x c e;exact absurd (QK q.lt (by rw [z];exact hb)) (Rx _)
 ·exact absurd (QK (Qp (I.pin p hp).1) (by rw [z];exact hb)) (Rx _)
structure Turn (P:Program) (w:World) (K:W.Frag) (tg:Expr) (J:It) (fp:List Addr) (it:Addr) (tn:Nat->Heap->Prop):Prop where
 mem:it∈fp
 obj:∀i h,tn i h->∀b∈fp,∃o,h.get? b=some o∧∀v,o.data≠.cell v
 keep:∀i h h',tn i h->(∀b∈fp,∀o,h.get? b=some o->h'.get? b=some o)->tn i h'
 item:∀(X:Cx),X.prog=P->X.w=w->X.K=K->X.calm=true->∀(i:Nat) (pins:List (Addr×Obj)) (s:Shared) (σ:St) (H:Hp) (E:Value->Shared->Prop),Inv X pins σ H s->(∀b∈fp,XT X pins H b)->tn i s.heap->J.go i H →
  wpAny (model P w) X.A (pyNext (.ref it)) (fun r s1=>∃u,r=some u ∧
   wpAny (model P w) X.A (letOwnedTupleGo tg (.ref it) u) (fun _ s2=>∃x H',Inv X pins σ H' s2∧RelV x u∧J.yld i H x H'∧tn (i+1) s2.heap∧∀b∈fp,H' b=none) E s1) E s
 done:∀(X:Cx),X.prog=P->X.w=w->X.K=K->X.calm=true->∀(i:Nat) (pins:List (Addr×Obj)) (s:Shared) (σ:St) (H:Hp) (E:Value->Shared->Prop),Inv X pins σ H s->(∀b∈fp,XT X pins H b)->tn i s.heap->J.stop i H →
  wpAny (model P w) X.A (pyNext (.ref it)) (fun r s1=>r=none∧Inv X pins σ H s1) E s
 self:∀(A:Around) (i:Nat) (s:Shared) (Q:Value->Shared->Prop) (E:Value->Shared->Prop),tn i s.heap->Q (.ref it) s->wpAny (model P w) A (pyIter (.ref it)) Q E s
noncomputable abbrev TI:=St->Hp->(It->Hp->Prop)->Prop
noncomputable def PIE (X:Cx) (pins:List (Addr×Obj)) (σ:St) (tg:Expr) (R:It->Hp->Prop) (itv:Value) (s2:Shared):Prop :=
 ∃(it:Addr) (fp:List Addr) (tn:Nat->Heap->Prop) (J:It) (H':Hp),itv=.ref it∧Inv X pins σ H' s2∧Turn X.prog X.w X.K tg J fp it tn∧tn 0 s2.heap∧(∀b∈fp,XT X pins H' b)∧R J H'
noncomputable def PI (X:Cx) (tg iter:Expr) (wi:TI):Prop :=
 ∀(pins:List (Addr×Obj)) (s:Shared) (σ:St) (H:Hp) (R:It->Hp->Prop),Inv X pins σ H s->wi σ H R →
  wpAny (model X.prog X.w) X.A (eval iter X.env) (fun v s1=>wpAny (model X.prog X.w) X.A (pyIter v) (PIE X pins σ tg R) X.xe s1) X.xe s
theorem U6 {it:Addr} {o:Obj} {n:String} {vs:Array Value} {Q:Unit->Shared->Prop} (ho:s.heap.get? it=some o) (hc:o.cls=.type n) (hd:o.data=.fields vs)
 (hn:["enumerate","zip","dict_itemiterator","dict_reverseitemiterator","odict_iterator","itertools.zip_longest","itertools.pairwise"].contains n=false) (hQ:Q () s):wpAny M A (letOwnedTupleGo tg (.ref it) u) Q E s:=by
 unfold letOwnedTupleGo
 cases tg<;>first
  |exact Qg hQ
  | (cases u<;>first
    |exact Qg hQ
    | (refine Qd (wpAny_load ho ?_)
       rw [hc,hd];show wpAny M A (if (["enumerate","zip","dict_itemiterator","dict_reverseitemiterator","odict_iterator","itertools.zip_longest","itertools.pairwise"].contains n&&vs[0]?==some (rawInt _))=true then _ else _) Q E s;rw [Qa (by intro h;rw [hn,GR] at h;cases h)];exact Qg hQ))
noncomputable def UN (K:W.Frag) (a:Addr):It :=
 ⟨fun i H=>∃xs x,SqL K H a xs∧xs[i]?=some x,fun i H x H'=>H'=H∧∀xs,SqL K H a xs->xs[i]?=some x,fun i H=>∃xs,SqL K H a xs∧xs.length≤i⟩
noncomputable def Jw (K:W.Frag) (a:Addr):It :=
 ⟨fun i H=>∃xs x,SqT K H a xs∧xs[i]?=some x,fun i H x H'=>H'=H∧∀xs,SqT K H a xs->xs[i]?=some x,fun i H=>∃xs,SqT K H a xs∧xs.length≤i⟩
noncomputable def V3 (lo:Int) (n:Nat):It:=⟨fun i _=>i<n,fun i H x H'=>H'=H∧x=.int (lo+i),fun i _=>n≤i⟩
theorem _mT {w:World} (a it:Addr):Turn P w K tg (UN K a) [it] it (fun i h=>h.IsListIter it a i) where
 mem:=by simp
 obj:=fun i h st b hb=>by
  have e:b=it:=by simpa using hb
  subst e;obtain ⟨o,e,c,d⟩:=st;exact ⟨o,e,fun v z=>by rw [d] at z;cases z⟩
 keep:=fun i h h' st k=>st.at fun o e=>k it (by simp) o e
 item:=by
  intro X hP hw hK hc i pins s σ H E I hf st hg;subst hP hw hK;obtain ⟨xs,x,hq,hx⟩:=hg;obtain ⟨its,rv,p,hz⟩:=I.list hq;obtain ⟨u,hu,ru⟩:=rv.get hx;obtain ⟨f0,f1,f2,f3,f4,f5⟩:=hf it (by simp);refine wpAny_pyNext_list_item st p.isList (x:=u) (by simpa using hu) fun h' st' sb=>?_;have I1:Inv X pins σ H { s with heap:=h' }:=I.turned (t':=s.toks) (fun b o hb e=>(sb.2 b hb).trans e) f0 f1 f3 f4 f5;obtain ⟨o,e,c,d⟩:=id st';exact ⟨u,rfl,U6 (s:={ s with heap:=h' }) e c d (by decide) ⟨x,H,I1,ru,⟨rfl,fun ys hy=>by rw [I.list_inj hy hq];exact hx⟩,st',fun b hb=>(hf b hb).1⟩⟩
 done:=by
  intro X hP hw hK hc i pins s σ H E I hf st hg;subst hP hw hK;obtain ⟨xs,hq,hx⟩:=hg;obtain ⟨its,rv,p,hz⟩:=I.list hq;obtain ⟨f0,f1,f2,f3,f4,f5⟩:=hf it (by simp);have hl:=rv.length;exact wpAny_pyNext_list_end (I.ok.hd hc) st p.isList (by simp;omega) fun h' eb=>⟨rfl,I.turned (t':=s.toks) (fun b o hb e=>eb b o hb e) f0 f1 f3 f4 f5⟩
 self:=fun _ _ _ _ _ st h=>wpAny_pyIter_listiter st h
theorem _jK {w:World} (a it:Addr):Turn P w K tg (Jw K a) [it] it (fun i h=>h.IsTupleIter it a i) where
 mem:=by simp
 obj:=fun i h st b hb=>by
  have e:b=it:=by simpa using hb
  subst e;obtain ⟨o,e,c,d⟩:=st;exact ⟨o,e,fun v z=>by rw [d] at z;cases z⟩
 keep:=fun i h h' st k=>st.at fun o e=>k it (by simp) o e
 item:=by
  intro X hP hw hK hc i pins s σ H E I hf st hg;subst hP hw hK;obtain ⟨xs,x,hq,hx⟩:=hg;obtain ⟨its,rv,p,hz⟩:=I.tuple hq;obtain ⟨u,hu,ru⟩:=rv.get hx;obtain ⟨f0,f1,f2,f3,f4,f5⟩:=hf it (by simp);refine wpAny_pyNext_tuple_item st (show s.heap.IsTuple a its.toArray from p) (x:=u) (by simpa using hu) fun h' st' sb=>?_;have I1:Inv X pins σ H { s with heap:=h' }:=I.turned (t':=s.toks) (fun b o hb e=>(sb.2 b hb).trans e) f0 f1 f3 f4 f5;obtain ⟨o,e,c,d⟩:=id st';exact ⟨u,rfl,U6 (s:={ s with heap:=h' }) e c d (by decide) ⟨x,H,I1,ru,⟨rfl,fun ys hy=>by rw [I.tuple_inj hy hq];exact hx⟩,st',fun b hb=>(hf b hb).1⟩⟩
 done:=by
  intro X hP hw hK hc i pins s σ H E I hf st hg;subst hP hw hK;obtain ⟨xs,hq,hx⟩:=hg;obtain ⟨its,rv,p,hz⟩:=I.tuple hq;obtain ⟨f0,f1,f2,f3,f4,f5⟩:=hf it (by simp);have hl:=rv.length;exact wpAny_pyNext_tuple_end (I.ok.hd hc) st (show s.heap.IsTuple a its.toArray from p) (by simp;omega) fun h' eb=>⟨rfl,I.turned (t':=s.toks) (fun b o hb e=>eb b o hb e) f0 f1 f3 f4 f5⟩
 self:=fun _ _ _ _ _ st h=>wpAny_pyIter_tupleiter st h
theorem _jT {w:World} {K:PySem.W.Frag} (it:Addr) (lo:Int) (n:Nat):Turn P w K tg (V3 lo n) [it] it (fun i h=>IsRangeIter h it (lo+(i:Nat)*1) ((n:Int)-(i:Nat)) 1) where
 mem:=by simp
 obj:=fun i h st b hb=>by
  have e:b=it:=by simpa using hb
  subst e
  exact ⟨_,st,fun v z=>by
   have z':Data.fields _=Data.cell v:=z;cases z'⟩
 keep:=fun i h h' st k=>k it (by simp) _ st
 item:=by
  intro X hP hw hK hc i pins s σ H E I hf st hg;subst hP hw hK;obtain ⟨f0,f1,f2,f3,f4,f5⟩:=hf it (by simp);have W:=Walks.range (prog:=X.prog) (w:=X.w) (I.ok.hd hc) it lo 1 n;refine W.item i s _ _ hg st fun v h' tk hv st' kk=>?_;obtain ⟨t,rfl⟩:=hv;have I1:Inv X pins σ H { s with heap:=h',toks:=tk }:=I.turned (fun b o hb e=>kk b o (by simpa using hb) e) f0 f1 f3 f4 f5;refine ⟨_,rfl,U6 (s:={ s with heap:=h',toks:=tk }) (n:="range_iterator") st' rfl rfl (by decide) ⟨.int (lo+i),H,I1,⟨t,?_⟩,⟨rfl,rfl⟩,st',fun b hb=>(hf b hb).1⟩⟩;rw [Int.mul_one]
 done:=by
  intro X hP hw hK hc i pins s σ H E I hf st hg;subst hP hw hK;obtain ⟨f0,f1,f2,f3,f4,f5⟩:=hf it (by simp);exact wpAny_pyNext_range_end (I.ok.hd hc) st (by have:n≤i:=hg;omega) fun h' eb=>⟨rfl,I.turned (t':=s.toks) (fun b o hb e=>eb b o hb e) f0 f1 f3 f4 f5⟩
 self:=fun _ _ _ _ _ st h=>wpAny_pyIter_rangeiter st h
noncomputable def _iv (K:W.Frag) (tl:TE):TI:=fun σ H R=>tl σ H fun x H1=>∃a,x=.ref a∧(∃xs,SqL K H1 a xs)∧R (UN K a) H1
noncomputable def _kV (K:W.Frag) (tl:TE):TI:=fun σ H R=>tl σ H fun x H1=>∃a,x=.ref a∧(∃xs,SqT K H1 a xs)∧R (Jw K a) H1
theorem _5 {l:Expr} {tl:TE} (hl:PE X l tl):PI X tg l (_iv X.K tl):=by
 intro pins s σ H R I h;refine _p (hl pins s σ H _ I h) fun v s1 ⟨x,H1,I1,r1,q1⟩=>?_;obtain ⟨a,e,⟨xs,hq⟩,q⟩:=q1;subst e;cases r1;obtain ⟨its,rv,p,hz⟩:=I1.list hq;refine Np p.isList ?_;refine ⟨s1.heap.objs.size,[s1.heap.objs.size],_,_,H1,rfl,I1.kept (t':=s1.toks) fun b o e=>Qq _ e,_mT a _,⟨_,Qw _ rfl,rfl,rfl⟩,fun b hb=>?_,q⟩;have e:b=s1.heap.objs.size:=by simpa using hb
 subst e;exact I1.fpOk (Qe _) (I1.hok.fresh (Qe _))
theorem _al {l:Expr} {tl:TE} (hl:PE X l tl):PI X tg l (_kV X.K tl):=by
 intro pins s σ H R I h;refine _p (hl pins s σ H _ I h) fun v s1 ⟨x,H1,I1,r1,q1⟩=>?_;obtain ⟨a,e,⟨xs,hq⟩,q⟩:=q1;subst e;cases r1;obtain ⟨its,rv,p,hz⟩:=I1.tuple hq;refine Gu (show s1.heap.IsTuple a its.toArray from p) ?_;refine ⟨s1.heap.objs.size,[s1.heap.objs.size],_,_,H1,rfl,I1.kept (t':=s1.toks) fun b o e=>Qq _ e,_jK a _,⟨_,Qw _ rfl,rfl,rfl⟩,fun b hb=>?_,q⟩;have e:b=s1.heap.objs.size:=by simpa using hb
 subst e;exact I1.fpOk (Qe _) (I1.hok.fresh (Qe _))
theorem _qc {R:It->Hp->Prop} {lo hi:Int} {t u v:Tok} {tk:Nat} (I:Inv X pins σ H s) (h1:-(2 ^ 62)≤lo) (h2:lo<2 ^ 62) (h3:-(2 ^ 62)≤hi) (h4:hi<2 ^ 62)
 (q:R (V3 lo (hi-lo).toNat) H):wpAny (model X.prog X.w) X.A (pyIter (.ref s.heap.objs.size)) (PIE X pins σ tg R) E { s with heap:=s.heap.push { cls:=.type "range",data:=.fields #[.int lo t,.int hi u,.int 1 v] },toks:=tk }:=by
 refine wpAny_pyIter_range (IsRange.new ..) (small_one h1 h2 h3 h4) ?_;have I1:Inv X pins σ H { s with heap:=s.heap.push { cls:=.type "range",data:=.fields #[.int lo t,.int hi u,.int 1 v] },toks:=tk }:=I.kept fun b o e=>Qq _ e
 refine ⟨(s.heap.push { cls:=.type "range",data:=.fields #[.int lo t,.int hi u,.int 1 v] }).objs.size,[(s.heap.push { cls:=.type "range",data:=.fields #[.int lo t,.int hi u,.int 1 v] }).objs.size],_,_,H,rfl,
  I1.kept (t':=tk) fun b o e=>Qq _ e,_jT _ lo (hi-lo).toNat,?_,fun b hb=>?_,q⟩
 ·have e1:lo+((0:Nat):Int)*1=lo:=by simp
  have e2:(((hi-lo).toNat:Nat):Int)-((0:Nat):Int)=Builtin.Range.rangeSize lo hi 1:=by rw [rangeSize_one];split<;>omega
  show IsRangeIter _ _ (lo+((0:Nat):Int)*1) ((((hi-lo).toNat:Nat):Int)-((0:Nat):Int)) 1;rw [e1,e2];exact Qw _ rfl
 ·have e:b=(s.heap.push { cls:=.type "range",data:=.fields #[.int lo t,.int hi u,.int 1 v] }).objs.size:=by simpa using hb
  subst e;exact I1.fpOk (Qe _) (I1.hok.fresh (Qe _))
noncomputable def _jJ (ta:TA):TI:=fun σ H R=>ta σ H fun vs H1=>∃j:Int,vs=[.int j]∧-(2 ^ 62)≤j∧j<2 ^ 62∧R (V3 0 j.toNat) H1
theorem JF {a:Expr} {ta:TA} (hg:Gl X "range") (hm:X.mg "range"=none) (ha:PA X [a] ta) (hs:starEach [a] X.env=[(false,eval a X.env)]:=by rfl):PI X tg (.Call (.Name "range" p) [a] [] pos) (_jJ ta):=by
 intro pins s σ H R I h;refine Call_ (Up I hg hm boot_range (GS (_p (ha pos pins s σ H _ I h) fun us s1 ⟨vs,H1,I1,r1,q1⟩=>?_) hs rfl));obtain ⟨j,e,q1,q2,q⟩:=q1;subst e;cases r1 with
 |cons r rr =>
  cases rr;obtain ⟨t,rfl⟩:=r;exact call_range_1 (_qc I1 (by omega) (by omega) q1 q2 (by simpa using q))
noncomputable def _oi (wi:TI) (g:TG) (tb:TS):TS:=fun D σ H=>wi σ H fun J H1=>∃W:Nat->Nat->St->Hp->Prop,(∃m,W 0 m σ H1)∧∀i m σ H,W i m σ H →
 (J.stop i H∧D.nx σ H)∨(J.go i H∧∃N:St->Hp->Prop,(∀σ' H',N σ' H'->∃m',m'<m∧W (i+1) m' σ' H')∧∀x H',J.yld i H x H'->g x σ H' fun σ2 H2=>tb { D with nx:=N,ct:=N,bk:=D.nx } σ2 H2)
noncomputable def UG (fp:List Addr) (h:Heap):List (Addr×Obj):=fp.filterMap fun b=>(h.get? b).map fun o=>(b,o)
theorem _ab {o:Obj} (hb:b∈fp) (e:h.get? b=some o):(b,o)∈UG fp h:=Rj.mpr ⟨b,hb,by rw [e];rfl⟩
theorem _nV {p:Addr×Obj} (hp:p∈UG fp h):p.1∈fp∧h.get? p.1=some p.2:=by
 obtain ⟨b,hb,e⟩:=Rj.mp hp;cases q:h.get? b with
 |none=>rw [q] at e;cases e
 |some o =>
  rw [q] at e;have e':(b,o)=p:=Ql e;subst e';exact ⟨hb,q⟩
theorem Inv.pinned (I:Inv X pins σ H s) (hf:∀b∈fp,XT X pins H b) (ho:∀b∈fp,∃o,s.heap.get? b=some o∧∀v,o.data≠.cell v):Inv X (pins++UG fp s.heap) σ H s :=
 I.pins_of fun p hp=>(Qm.mp hp).elim (fun z=>I.pin p (QT _ z)) fun z=>by
  obtain ⟨hb,e⟩:=_nV z;obtain ⟨f0,f1,f2,_⟩:=hf p.1 hb;obtain ⟨o,e',d⟩:=ho p.1 hb;rw [e] at e';cases e';exact ⟨e,f0,f1,f2,d⟩
theorem Inv.unpinned {pl:List (Addr×Obj)} (I:Inv X (pins++pl) σ H s):Inv X pins σ H s:=I.pins_of fun p hp=>I.pin p (QT _ (QL _ hp))
theorem _9 {iter:Expr} {body:List Stmt} {wi:TI} {g:TG} (hp:PassesOwn (model X.prog X.w) X.A X.env X.xe) (hc:X.calm=true) (hi:PI X tg iter wi) (hg:PG X tg g) (hb:PSs X body tb)
 (hs:∀x,foldedSetIterable iter X.env x=pure x:=by intro _;rfl):PS X (.For tg iter body [] pos) (_oi wi g tb):=by
 intro pins s σ H D I h;refine wpAny_For (_p (hi pins s σ H _ I h) fun v s1 h1=>_p h1 fun itv s2 h2=>?_) hs;obtain ⟨it,fp,tn,J,H2,e,I2,T,st2,f2,W,⟨m0,w0⟩,turn⟩:=h2;subst e;have stat:∀{H':Hp},(∀b∈fp,H' b=none)->∀b∈fp,XT X pins H' b:=fun hn b hb=>⟨hn b hb,(f2 b hb).2⟩;refine codeAny_forLoop_any (fun n s'=>∃i σ' H',Inv X pins σ' H' s'∧tn i s'.heap∧(∀b∈fp,H' b=none)∧W i n σ' H') ?_ m0 ⟨0,σ,H2,I2,st2,fun b hb=>(f2 b hb).1,w0⟩;rintro n s3 ⟨i,σ3,H3,I3,st3,fr3,w3⟩;rcases turn i n σ3 H3 w3 with ⟨stop,qn⟩|⟨go,N,hN,step⟩
 ·refine Gv hp (_p (T.done X rfl rfl rfl hc i pins s3 σ3 H3 X.xe I3 (stat fr3) st3 stop) fun r s4 ⟨hr,I4⟩=>?_);subst hr;exact wpAny_execs_nil ⟨σ3,H3,I4,qn⟩
 ·refine Gv hp (_p (T.item X rfl rfl rfl hc i pins s3 σ3 H3 X.xe I3 (stat fr3) st3 go) fun r s4 ⟨u,hr,h4⟩=>?_);subst hr;refine Gv hp (_p h4 fun _ s5 ⟨x,H5,I5,r5,y5,st5,fr5⟩=>?_);have I5':=I5.pinned (stat fr5) (T.obj _ _ st5);refine Gv hp (_p (hg _ s5 σ3 H5 x u _ I5' r5 (step x H5 y5)) fun _ s6 ⟨σ6,H6,I6,q6⟩=>?_);refine Gv hp (_p (hb _ s6 σ6 H6 _ I6 q6) fun f s7 q7=>?_)
  have again:∀{σ7:St} {H7:Hp},Inv X (pins++UG fp s5.heap) σ7 H7 s7->N σ7 H7->∃m,m<n∧∃i σ' H',Inv X pins σ' H' s7∧tn i s7.heap∧(∀b∈fp,H' b=none)∧W i m σ' H':=fun {σ7 H7} I7 n7=>by
   obtain ⟨m',hm,w7⟩:=hN σ7 H7 n7;refine ⟨m',hm,i+1,σ7,H7,I7.unpinned,T.keep _ _ _ st5 fun b hb o e=>(I7.pin (b,o) (QT _ (QT _ (_ab hb e)))).1,fun b hb=>?_,w7⟩;obtain ⟨o,e,d⟩:=T.obj _ _ st5 b hb;exact (I7.pin (b,o) (QT _ (QT _ (_ab hb e)))).2.1
  cases f with
  |next=>obtain ⟨σ7,H7,I7,n7⟩:=q7;exact again I7 n7
  |cont=>obtain ⟨σ7,H7,I7,n7⟩:=q7;exact again I7 n7
  |brk=>obtain ⟨σ7,H7,I7,q7⟩:=q7;exact ⟨σ7,H7,I7.unpinned,q7⟩
  |ret v=>obtain ⟨x7,σ7,H7,I7,r7,q7⟩:=q7;exact ⟨x7,σ7,H7,I7.unpinned,r7,q7⟩
theorem YL {K:PySem.W.Frag} {g:TG} (Pv:Nat->St->Hp->Prop) (h0:Pv 0 σ H) (hl:∀i σ H,i≤xs.length->Pv i σ H->SqL K H a xs)
 (hs:∀i x σ H,xs[i]?=some x->Pv i σ H->g x σ H fun σ2 H2=>tb { D with nx:=Pv (i+1),ct:=Pv (i+1),bk:=D.nx } σ2 H2) (hd:∀σ H,Pv xs.length σ H->D.nx σ H) :
  ∃W:Nat->Nat->St->Hp->Prop,(∃m,W 0 m σ H)∧∀i m σ H,W i m σ H →
   ((UN K a).stop i H∧D.nx σ H)∨((UN K a).go i H∧∃N:St->Hp->Prop,(∀σ' H',N σ' H'->∃m',m'<m∧W (i+1) m' σ' H')∧∀x H',(UN K a).yld i H x H'->g x σ H' fun σ2 H2=>tb { D with nx:=N,ct:=N,bk:=D.nx } σ2 H2):=by
 refine ⟨fun i m σ H=>m=xs.length-i∧i≤xs.length∧Pv i σ H,⟨xs.length,by simp,QM _,h0⟩,?_⟩;rintro i m σ H ⟨rfl,hi,p⟩;have q:=hl i σ H hi p;by_cases hlt:i<xs.length
 ·refine .inr ⟨⟨xs,xs[i],q,by simp [hlt]⟩,Pv (i+1),fun σ' H' p'=>⟨xs.length-(i+1),by omega,rfl,hlt,p'⟩,fun x H' y=>?_⟩;obtain ⟨e,y⟩:=y;subst e;exact hs i x σ _ (y xs q) p
 ·have e:i=xs.length:=by omega
  subst e;exact .inl ⟨⟨xs,q,Qe _⟩,hd σ H p⟩
theorem _bS {K:PySem.W.Frag} {g:TG} (Pv:Nat->St->Hp->Prop) (h0:Pv 0 σ H) (hl:∀i σ H,i≤xs.length->Pv i σ H->SqT K H a xs)
 (hs:∀i x σ H,xs[i]?=some x->Pv i σ H->g x σ H fun σ2 H2=>tb { D with nx:=Pv (i+1),ct:=Pv (i+1),bk:=D.nx } σ2 H2) (hd:∀σ H,Pv xs.length σ H->D.nx σ H) :
  ∃W:Nat->Nat->St->Hp->Prop,(∃m,W 0 m σ H)∧∀i m σ H,W i m σ H →
   ((Jw K a).stop i H∧D.nx σ H)∨((Jw K a).go i H∧∃N:St->Hp->Prop,(∀σ' H',N σ' H'->∃m',m'<m∧W (i+1) m' σ' H')∧∀x H',(Jw K a).yld i H x H'->g x σ H' fun σ2 H2=>tb { D with nx:=N,ct:=N,bk:=D.nx } σ2 H2):=by
 refine ⟨fun i m σ H=>m=xs.length-i∧i≤xs.length∧Pv i σ H,⟨xs.length,by simp,QM _,h0⟩,?_⟩;rintro i m σ H ⟨rfl,hi,p⟩;have q:=hl i σ H hi p;by_cases hlt:i<xs.length
 ·refine .inr ⟨⟨xs,xs[i],q,by simp [hlt]⟩,Pv (i+1),fun σ' H' p'=>⟨xs.length-(i+1),by omega,rfl,hlt,p'⟩,fun x H' y=>?_⟩;obtain ⟨e,y⟩:=y;subst e;exact hs i x σ _ (y xs q) p
 ·have e:i=xs.length:=by omega
  subst e;exact .inl ⟨⟨xs,q,Qe _⟩,hd σ H p⟩
theorem _d0 {lo:Int} {g:TG} (Pv:Nat->St->Hp->Prop) (h0:Pv 0 σ H)
 (hs:∀i σ H,i<n->Pv i σ H->g (.int (lo+i)) σ H fun σ2 H2=>tb { D with nx:=Pv (i+1),ct:=Pv (i+1),bk:=D.nx } σ2 H2) (hd:∀σ H,Pv n σ H->D.nx σ H) :
  ∃W:Nat->Nat->St->Hp->Prop,(∃m,W 0 m σ H)∧∀i m σ H,W i m σ H →
   ((V3 lo n).stop i H∧D.nx σ H)∨((V3 lo n).go i H∧∃N:St->Hp->Prop,(∀σ' H',N σ' H'->∃m',m'<m∧W (i+1) m' σ' H')∧∀x H',(V3 lo n).yld i H x H'->g x σ H' fun σ2 H2=>tb { D with nx:=N,ct:=N,bk:=D.nx } σ2 H2):=by
 refine ⟨fun i m σ H=>m=n-i∧i≤n∧Pv i σ H,⟨n,by simp,QM _,h0⟩,?_⟩;rintro i m σ H ⟨rfl,hi,p⟩;by_cases hlt:i<n
 ·refine .inr ⟨hlt,Pv (i+1),fun σ' H' p'=>⟨n-(i+1),by omega,rfl,hlt,p'⟩,fun x H' y=>?_⟩;obtain ⟨e,y⟩:=y;subst e y;exact hs i σ _ hlt p
 ·have e:i=n:=by omega
  subst e;exact .inl ⟨Qe _,hd σ H p⟩
noncomputable abbrev R2:=V->V->Hp->VK->Prop
noncomputable def Yi (X:Cx) (f:Value->Value->Sem Value) (r:R2):Prop :=
 ∀(pins:List (Addr×Obj)) (s:Shared) (σ:St) (H:Hp) (x y:V) (v u:Value) (Q:VK),Inv X pins σ H s->RelV x v->RelV y u->r x y H Q →
  wpAny (model X.prog X.w) X.A (f v u) (EP X pins σ Q) X.xe s
noncomputable def UnR (X:Cx) (f:Value->Sem Value) (r:V->Hp->VK->Prop):Prop :=
 ∀(pins:List (Addr×Obj)) (s:Shared) (σ:St) (H:Hp) (x:V) (v:Value) (Q:VK),Inv X pins σ H s->RelV x v->r x H Q →
  wpAny (model X.prog X.w) X.A (f v) (EP X pins σ Q) X.xe s
noncomputable def YJ (X:Cx) (f:Value) (r:List V->Hp->VK->Prop):Prop :=
 ∀(pins:List (Addr×Obj)) (s:Shared) (σ:St) (H:Hp) (xs:List V) (us:List Value) (Q:VK),Inv X pins σ H s->Vals xs us->r xs H Q →
  wpAny (model X.prog X.w) X.A (call f us) (EP X pins σ Q) X.xe s
noncomputable def tOp (r:R2) (ta tb:TE):TE:=fun σ H Q=>ta σ H fun x H1=>tb σ H1 fun y H2=>r x y H2 Q
noncomputable def tUn (r:V->Hp->VK->Prop) (ta:TE):TE:=fun σ H Q=>ta σ H fun x H1=>r x H1 Q
noncomputable def rI (C:Int->Int->Prop) (g:Int->Int->V):R2:=fun x y H Q=>∃i j,x=.int i∧y=.int j∧C i j∧Q (g i j) H
noncomputable def W0 (g:Int->Int->V):R2:=fun x y H Q=>∃i j,x=.int i∧y=.int j∧Q (g i j) H
noncomputable def rU (g:Int->V):V->Hp->VK->Prop:=fun x H Q=>∃i,x=.int i∧Q (g i) H
section
variable {a b:Expr} {tb tc:TE}
theorem _a1 (ha:PE X a ta) (hb:PE X b tb) {R:V->V->Hp->Prop} (I:Inv X pins σ H s)
 (h:ta σ H fun x H1=>tb σ H1 fun y H2=>R x y H2) 
 (hf:∀v u s2 x y H2,Inv X pins σ H2 s2->RelV x v->RelV y u->R x y H2->wpAny (model X.prog X.w) X.A (f v u) Q X.xe s2) :
  wpAny (model X.prog X.w) X.A (eval a X.env) (fun v s₁=>wpAny (model X.prog X.w) X.A (eval b X.env) (fun u s₂=>wpAny (model X.prog X.w) X.A (f v u) Q X.xe s₂) X.xe s₁) X.xe s:=by
 refine _p (ha pins s σ H _ I h) fun v s1 ⟨x,H1,I1,r1,q1⟩=>?_;refine _p (hb pins s1 σ H1 _ I1 q1) fun u s2 ⟨y,H2,I2,r2,q2⟩=>?_;exact hf v u s2 x y H2 I2 r1 r2 q2
theorem _v {op:Operator} {r:R2} (ho:Yi X (binaryOp op) r) (ha:PE X a ta) (hb:PE X b tb):PE X (.BinOp a op b pos) (tOp r ta tb):=by
 intro pins s σ H Q I h;exact wpAny_BinOp (_a1 ha hb I h fun v u s2 x y H2 I2 rx ry q=>ho pins s2 σ H2 x y v u Q I2 rx ry q)
theorem W5 {op:UnaryOp} {r:V->Hp->VK->Prop} (ho:UnR X (unaryOp op) r) (ha:PE X a ta):PE X (.UnaryOp op a pos) (tUn r ta):=by
 intro pins s σ H Q I h;exact UnaryOp_ (_p (ha pins s σ H _ I h) fun v s1 ⟨x,H1,I1,r1,q1⟩=>ho pins s1 σ H1 x v Q I1 r1 q1)
theorem Je {C:Int->Int->Prop} {g:Int->Int->Int}
 (rule:∀(i j:Int) (t u:Tok) (s:Shared) (Q:Value->Shared->Prop) (E:Value->Shared->Prop),C i j->Q (.int (g i j) s.toks) { s with toks:=s.toks+1 }->wpAny (model X.prog X.w) X.A (f (.int i t) (.int j u)) Q E s) :
  Yi X f (rI C fun i j=>.int (g i j)):=by
 intro pins s σ H x y v u Q I rx ry h;obtain ⟨i,j,rfl,rfl,hc,q⟩:=h;obtain ⟨t,rfl⟩:=rx;obtain ⟨t',rfl⟩:=ry;exact rule i j t t' s _ _ hc ⟨.int (g i j),H,I.tok _,⟨_,rfl⟩,q⟩
theorem _dZ {g:Int->Int->Int}
 (rule:∀(i j:Int) (t u:Tok) (s:Shared) (Q:Value->Shared->Prop) (E:Value->Shared->Prop),Q (.int (g i j) s.toks) { s with toks:=s.toks+1 }->wpAny (model X.prog X.w) X.A (f (.int i t) (.int j u)) Q E s) :
  Yi X f (W0 fun i j=>.int (g i j)):=by
 intro pins s σ H x y v u Q I rx ry h;obtain ⟨i,j,rfl,rfl,q⟩:=h;obtain ⟨t,rfl⟩:=rx;obtain ⟨t',rfl⟩:=ry;exact rule i j t t' s _ _ ⟨.int (g i j),H,I.tok _,⟨_,rfl⟩,q⟩
theorem _aK {g:Int->Int->Bool}
 (rule:∀(i j:Int) (t u:Tok) (s:Shared) (Q:Value->Shared->Prop) (E:Value->Shared->Prop),Q (.bool (g i j)) s->wpAny (model X.prog X.w) X.A (f (.int i t) (.int j u)) Q E s) :
  Yi X f (W0 fun i j=>.bl (g i j)):=by
 intro pins s σ H x y v u Q I rx ry h;obtain ⟨i,j,rfl,rfl,q⟩:=h;obtain ⟨t,rfl⟩:=rx;obtain ⟨t',rfl⟩:=ry;exact rule i j t t' s _ _ ⟨.bl (g i j),H,I,rfl,q⟩
noncomputable def Vx (i j:Int):Prop:=0≤j∧j≤1000000∧i.natAbs<2 ^ 64
noncomputable def CMul (i j:Int):Prop:=(-(2 ^ 64)<i∧i<2 ^ 64)∨(-(2 ^ 64)<j∧j<2 ^ 64)
theorem CMul.ok {i j:Int} (h:CMul i j):IntMulOk i j:=by
 rcases h with ⟨h1,h2⟩|⟨h1,h2⟩
 ·exact .of_left (intBits_le_64 h1 h2)
 ·exact .of_right (intBits_le_64 h1 h2)
theorem XW:Yi X (binaryOp .Add) (W0 fun i j=>.int (i+j)):=_dZ fun _ _ _ _ _ _ _ q=>add_int q
theorem Jo:Yi X (binaryOp .Sub) (W0 fun i j=>.int (i-j)):=_dZ fun _ _ _ _ _ _ _ q=>sub_int q
theorem Uk:Yi X (binaryOp .Mult) (rI CMul fun i j=>.int (i*j)):=Je fun _ _ _ _ _ _ _ hc q=>mul_int q hc.ok
theorem Yn:Yi X (binaryOp .Mod) (rI (fun _ j=>j≠0) fun i j=>.int (i.fmod j)):=Je fun _ _ _ _ _ _ _ hc q=>mod_int' hc q
theorem WB:Yi X (binaryOp .Pow) (rI Vx fun i j=>.int (i ^ j.toNat)):=Je fun _ _ _ _ _ _ _ hc q=>pow_int_small hc.1 hc.2.1 hc.2.2 q
theorem unI {f:Value->Sem Value} {g:Int->Int}
 (rule:∀(i:Int) (t:Tok) (s:Shared) (Q:Value->Shared->Prop) (E:Value->Shared->Prop),Q (.int (g i) s.toks) { s with toks:=s.toks+1 }->wpAny (model X.prog X.w) X.A (f (.int i t)) Q E s) :
  UnR X f (rU fun i=>.int (g i)):=by
 intro pins s σ H x v Q I rx h;obtain ⟨i,rfl,q⟩:=h;obtain ⟨t,rfl⟩:=rx;exact rule i t s _ _ ⟨.int (g i),H,I.tok _,⟨_,rfl⟩,q⟩
theorem Vd:UnR X (unaryOp .USub) (rU fun i=>.int (-i)):=unI fun _ _ _ _ _ q=>neg_int q
end
noncomputable def _fR:V->V->Bool
 |.non,.non=>true|.non,.int _=>true|.int _,.non=>true|.non,.bl _=>true|.bl _,.non=>true|.non,.str _=>true|.str _,.non=>true
 |.int _,.int _=>true|.bl _,.bl _=>true|.str _,.str _=>true|.byt _,.byt _=>true
 |.int _,.str _=>true|.str _,.int _=>true|.bl _,.str _=>true|.str _,.bl _=>true
 |_,_=>false
noncomputable def rEq:R2:=fun x y H Q=>_fR x y=true∧Q (.bl (decide (x=y))) H
noncomputable def rNe:R2:=fun x y H Q=>_fR x y=true∧Q (.bl (!decide (x=y))) H
theorem _dz {i j:Int}:decide (V.int i=V.int j)=(i==j):=by
 rw [Rp];simp
theorem _hg {i j:Bool}:decide (V.bl i=V.bl j)=(i==j):=by
 rw [Rp];simp
theorem _fI {i j:Str}:decide (V.str i=V.str j)=(i==j):=by
 rw [Rp];simp
theorem _he {i j:Array UInt8}:decide (V.byt i=V.byt j)=(i.toList==j.toList):=by
 rw [Rp];cases i;cases j;simp
section
variable {a b:Expr} {tb tc:TE}
theorem _7 {Q:VK} {k k':Bool} (I:Inv X pins σ H s) (q:Q (.bl k) H) (e:k=k'):EP X pins σ Q (.bool k') s:=by
 subst e;exact ⟨.bl k,H,I,rfl,q⟩
theorem _U:Yi X (compareOp .Eq) rEq:=by
 intro pins s σ H x y v u Q I rx ry h;obtain ⟨hs,q⟩:=h;cases x with
 |non =>
  cases rx;cases y with
  |non=>cases ry;exact PySem.EqNone.eq_none_none (_7 I q (by simp))
  |bl j=>cases ry;exact PySem.EqNone.eq_none_bool (_7 I q (by simp))
  |int j=>obtain ⟨t',rfl⟩:=ry;exact PySem.EqNone.eq_none_int (_7 I q (by simp))
  |str j=>obtain ⟨t',rfl⟩:=ry;exact PySem.EqNone.eq_none_str (_7 I q (by simp))
  |_=>exact absurd (show false=true from hs) QI
 |bl i =>
  cases rx;cases y with
  |non=>cases ry;exact PySem.EqNone.eq_bool_none (_7 I q (by simp))
  |bl j=>cases ry;exact eq_bool (_7 I q _hg)
  |str j=>obtain ⟨t',rfl⟩:=ry;exact PySem.EqMixed.eq_bool_str (_7 I q (by simp))
  |_=>exact absurd (show false=true from hs) QI
 |int i =>
  obtain ⟨t,rfl⟩:=rx;cases y with
  |non=>cases ry;exact PySem.EqNone.eq_int_none (_7 I q (by simp))
  |int j=>obtain ⟨t',rfl⟩:=ry;exact eq_int (_7 I q _dz)
  |str j=>obtain ⟨t',rfl⟩:=ry;exact PySem.EqMixed.eq_int_str (_7 I q (by simp))
  |_=>exact absurd (show false=true from hs) QI
 |str i =>
  obtain ⟨t,rfl⟩:=rx;cases y with
  |non=>cases ry;exact PySem.EqNone.eq_str_none (_7 I q (by simp))
  |bl j=>cases ry;exact PySem.EqMixed.eq_str_bool (_7 I q (by simp))
  |int j=>obtain ⟨t',rfl⟩:=ry;exact PySem.EqMixed.eq_str_int (_7 I q (by simp))
  |str j=>obtain ⟨t',rfl⟩:=ry;exact eq_str (_7 I q _fI)
  |_=>exact absurd (show false=true from hs) QI
 |byt i =>
  obtain ⟨t,rfl⟩:=rx;cases y with
  |byt j=>obtain ⟨t',rfl⟩:=ry;exact W.eq_bytes (_7 I q _he)
  |_=>exact absurd (show false=true from hs) QI
 |_=>cases y<;>exact absurd (show false=true from hs) QI
theorem Wt:Yi X (compareOp .NotEq) rNe:=by
 intro pins s σ H x y v u Q I rx ry h;obtain ⟨hs,q⟩:=h;cases x with
 |non =>
  cases rx;cases y with
  |non=>cases ry;exact PySem.EqNone.ne_none_none (_7 I q (by simp))
  |bl j=>cases ry;exact PySem.EqNone.ne_none_bool (_7 I q (by simp))
  |int j=>obtain ⟨t',rfl⟩:=ry;exact PySem.EqNone.ne_none_int (_7 I q (by simp))
  |str j=>obtain ⟨t',rfl⟩:=ry;exact PySem.EqNone.ne_none_str (_7 I q (by simp))
  |_=>exact absurd (show false=true from hs) QI
 |bl i =>
  cases rx;cases y with
  |non=>cases ry;exact PySem.EqNone.ne_bool_none (_7 I q (by simp))
  |bl j=>cases ry;exact ne_bool (_7 I q (Qk not _hg))
  |str j=>obtain ⟨t',rfl⟩:=ry;exact PySem.EqMixed.ne_bool_str (_7 I q (by simp))
  |_=>exact absurd (show false=true from hs) QI
 |int i =>
  obtain ⟨t,rfl⟩:=rx;cases y with
  |non=>cases ry;exact PySem.EqNone.ne_int_none (_7 I q (by simp))
  |int j=>obtain ⟨t',rfl⟩:=ry;exact ne_int (_7 I q (Qk not _dz))
  |str j=>obtain ⟨t',rfl⟩:=ry;exact PySem.EqMixed.ne_int_str (_7 I q (by simp))
  |_=>exact absurd (show false=true from hs) QI
 |str i =>
  obtain ⟨t,rfl⟩:=rx;cases y with
  |non=>cases ry;exact PySem.EqNone.ne_str_none (_7 I q (by simp))
  |bl j=>cases ry;exact PySem.EqMixed.ne_str_bool (_7 I q (by simp))
  |int j=>obtain ⟨t',rfl⟩:=ry;exact PySem.EqMixed.ne_str_int (_7 I q (by simp))
  |str j=>obtain ⟨t',rfl⟩:=ry;exact ne_str (_7 I q (Qk not _fI))
  |_=>exact absurd (show false=true from hs) QI
 |byt i =>
  obtain ⟨t,rfl⟩:=rx;cases y with
  |byt j=>obtain ⟨t',rfl⟩:=ry;exact W.ne_bytes (_7 I q (Qk not _he))
  |_=>exact absurd (show false=true from hs) QI
 |_=>cases y<;>exact absurd (show false=true from hs) QI
theorem Xs:Yi X (compareOp .Lt) (W0 fun i j=>.bl (decide (i<j))):=_aK fun _ _ _ _ _ _ _ q=>lt_int q
theorem _bD:Yi X (compareOp .LtE) (W0 fun i j=>.bl (decide (i≤j))):=_aK fun _ _ _ _ _ _ _ q=>le_int q
theorem Xm:Yi X (compareOp .Gt) (W0 fun i j=>.bl (decide (j<i))):=_aK fun _ _ _ _ _ _ _ q=>gt_int q
theorem Jk:Yi X (compareOp .GtE) (W0 fun i j=>.bl (decide (j≤i))):=_aK fun _ _ _ _ _ _ _ q=>ge_int q
theorem _jg:Yi X (compareOp .In) (fun x y H Q=>∃i j,x=.str i∧y=.str j∧Q (.bl (!(Builtin.Str.occurrences j i 0 j.length 1).isEmpty)) H):=by
 intro pins s σ H x y v u Q I rx ry h;obtain ⟨i,j,rfl,rfl,q⟩:=h;obtain ⟨t,rfl⟩:=rx;obtain ⟨t',rfl⟩:=ry;exact in_str (_7 I q rfl)
theorem _lE:Yi X (compareOp .Is) (fun x y H Q=>y=.non∧Q (.bl (decide (x=.non))) H):=by
 intro pins s σ H x y v u Q I rx ry h;obtain ⟨rfl,q⟩:=h;cases ry;refine is_none_gen (_7 I q ?_)
 cases x<;>first
  | (cases rx;rfl)
  | (obtain ⟨t,rfl⟩:=rx;rfl)
theorem _n8:Yi X (compareOp .IsNot) (fun x y H Q=>y=.non∧Q (.bl (!decide (x=.non))) H):=by
 intro pins s σ H x y v u Q I rx ry h;obtain ⟨rfl,q⟩:=h;cases ry;refine isnot_none_gen (_7 I q ?_)
 cases x<;>first
  | (cases rx;rfl)
  | (obtain ⟨t,rfl⟩:=rx;rfl)
theorem _r (b:Expr) (h:op≠.In:=by decide) (h2:op≠.NotIn:=by decide):behindInMarks op b=false:=by
 have e1:(op==CmpOp.In)=false:=by cases op<;>first|rfl|exact absurd rfl h
 have e2:(op==CmpOp.NotIn)=false:=by cases op<;>first|rfl|exact absurd rfl h2
 cases b<;>simp [behindInMarks,e1,e2]
theorem YR {r:R2} (ho:Yi X (compareOp op) r) (ha:PE X a ta) (hb:PE X b tb) (hm:behindInMarks op b=false):PE X (.Compare a [op] [b] pos) (tOp r ta tb):=by
 intro pins s σ H Q I h;exact wpAny_Compare1 (_a1 ha hb I h fun v u s2 x y H2 I2 rx ry q=>ho pins s2 σ H2 x y v u Q I2 rx ry q) hm
noncomputable def _mw (t:TE):TT:=fun σ H Q=>t σ H fun x H'=>∃k,x=.bl k∧Q k H'
theorem _t {r:R2} (ho:Yi X (compareOp op) r) (ha:PE X a ta) (hb:PE X b tb) (hm:behindInMarks op b=false):PT X (.Compare a [op] [b] pos) (_mw (tOp r ta tb)):=by
 intro pins s σ H Q I h
 refine wpAny_isTrue_Compare1 (_p (ha pins s σ H _ I h) fun v s1 ⟨x,H1,I1,r1,q1⟩=>_p (hb pins s1 σ H1 _ I1 q1) fun u s2 ⟨y,H2,I2,r2,q2⟩ =>
  _p (ho pins s2 σ H2 x y v u _ I2 r1 r2 q2) fun c s3 ⟨z,H3,I3,r3,k,e,q3⟩=>?_) hm
 subst e;cases r3;exact RT ⟨H3,I3,q3⟩
theorem Uf:(sizeLine:Nat)<2 ^ 63:=by rw [Gw];decide
theorem Vf:Yi X (binaryOp .Add) (fun x y H Q=>∃i j,x=.str i∧y=.str j∧i.length+j.length≤sizeLine∧Q (.str (i++j)) H):=by
 intro pins s σ H x y v u Q I rx ry h;obtain ⟨i,j,rfl,rfl,hz,q⟩:=h;obtain ⟨t,rfl⟩:=rx;obtain ⟨t',rfl⟩:=ry;exact add_str (fun t' tk=>⟨.str (i++j),H,I.tok _,⟨_,rfl⟩,q⟩) hz
theorem YX {x:V} (r:Vals [x] us):∃u,us=[u]∧RelV x u:=by
 cases r with
 |cons r1 r2=>cases r2;exact ⟨_,rfl,r1⟩
theorem V5 {x:V} (r:Vals [x,y] us):∃u w',us=[u,w']∧RelV x u∧RelV y w':=by
 cases r with
 |cons r1 r2 =>
  cases r2 with
  |cons r3 r4=>cases r4;exact ⟨_,_,rfl,r1,r3⟩
theorem _pZ:YJ X (.builtin "abs") (fun xs H Q=>∃i,xs=[.int i]∧Q (.int (if i<0 then -i else i)) H):=by
 intro pins s σ H xs us Q I r h;obtain ⟨i,rfl,q⟩:=h;obtain ⟨u,rfl,t,rfl⟩:=YX r;exact call_abs_int fun u tk=>⟨.int (if i<0 then -i else i),H,I.tok _,⟨_,rfl⟩,q⟩
theorem _jZ (hc:X.calm=true):YJ X (.builtin "max") (fun xs H Q=>∃i j,xs=[.int i,.int j]∧Q (.int (if j > i then j else i)) H):=by
 intro pins s σ H xs us Q I r h;obtain ⟨i,j,rfl,q⟩:=h;obtain ⟨u,w',rfl,⟨t,rfl⟩,⟨t',rfl⟩⟩:=V5 r;refine max_two_ints (I.ok.hd hc) fun h' tk k=>⟨_,H,I.kept k,?_,q⟩;by_cases hj:j > i
 ·rw [Qb hj,Qb hj];exact ⟨_,rfl⟩
 ·rw [Qa hj,Qa hj];exact ⟨_,rfl⟩
theorem _bP (hc:X.calm=true):YJ X (.builtin "min") (fun xs H Q=>∃i j,xs=[.int i,.int j]∧Q (.int (if j<i then j else i)) H):=by
 intro pins s σ H xs us Q I r h;obtain ⟨i,j,rfl,q⟩:=h;obtain ⟨u,w',rfl,⟨t,rfl⟩,⟨t',rfl⟩⟩:=V5 r;refine min_two_ints (I.ok.hd hc) fun h' tk k=>⟨_,H,I.kept k,?_,q⟩;by_cases hj:j<i
 ·rw [Qb hj,Qb hj];exact ⟨_,rfl⟩
 ·rw [Qa hj,Qa hj];exact ⟨_,rfl⟩
theorem _c4:YJ X (.type "int") (fun xs H Q=>(∃i,xs=[.int i]∧Q (.int i) H)∨∃k,xs=[.bl k]∧Q (.int (if k then 1 else 0)) H):=by
 intro pins s σ H xs us Q I r h;rcases h with ⟨i,rfl,q⟩|⟨k,rfl,q⟩
 ·obtain ⟨u,rfl,t,rfl⟩:=YX r;exact call_int_int ⟨.int i,H,I,⟨_,rfl⟩,q⟩
 ·obtain ⟨u,rfl,r1⟩:=YX r;cases r1;exact call_int_bool ⟨.int (if k then 1 else 0),H,I.tok _,⟨_,rfl⟩,q⟩
end
structure ObjM (h:Heap) (x dx C:Addr) (mA:Str->Option Value):Prop where
 obj:h.get? x=some (W.instObj C dx)
 ns:h.Ns1 dx mA
 ne:dx≠x
theorem _ju (n:h.Ns1 dx mA):∃od,h.get? dx=some od∧∀name,W.lookIn name od=some (mA name):=by
 obtain ⟨o,es,ep,ho,hd,hk,_,hm⟩:=n;refine ⟨o,ho,fun name=>?_⟩;have e:=hm name;unfold nsFind findBy at e;rw [←Array.find?_toList] at e;unfold W.lookIn;rw [hd];dsimp only;split
 ·rename_i y q;rw [q] at e;exact Qk some e
 ·rename_i q;rw [q] at e
  have a:es.toList.any (·.refKey)=false:=by
   rw [Nq];intro y hy;obtain ⟨z,t,hkey⟩:=hk y (Array.mem_toList_iff.mp hy);simp [DictEntry.refKey,hkey]
  have a':¬es.toList.any (·.refKey)=true:=by rw [a];exact QI
  rw [Qa a'];exact Qk some e
theorem ObjM.look {x:Addr} (I:ObjM h x dx C mA):∃od,W.InstAt h x (W.instObj C dx) C (some od)∧∀name,W.lookIn name od=some (mA name) :=
 let ⟨od,ho,hl⟩:=_ju I.ns
 ⟨od,⟨I.obj,rfl,rfl,ho⟩,hl⟩
section
variable {prog:Program} {w:World} {x f:Addr} {name:Str} {v:Value}
theorem _n7 {expr:Bool} (X:K.In s.heap) (I:ObjM s.heap x dx C mA) (hg:W.plainGet K C name=true) (hh:W.hasDictIn K C=true)
 (ha:W.findIn K (.ref C) name=some none) (hv:mA name=some v) (hv':W.handedIn v=true) (h:Q v { s with toks:=s.toks+1 }) :
  wpAny (model prog w) A (getAttr (.ref x) name expr) Q E s:=by
 obtain ⟨od,J,hl⟩:=I.look;exact W.get_value X J (W.plainGet_of hg).1 (W.findObj_own hh ha rfl (by rw [hl,hv])) hv' h
theorem _mx {pl:Sem Bool} {Q:Value×List Value->Shared->Prop} (X:K.In s.heap) (I:ObjM s.heap x dx C mA) (hg:W.plainGet K C name=true)
 (hf:W.findIn K (.ref C) name=some (some (.ref f))) (ht:W.isFn K (.ref f)=true) (hv:mA name=none) (h:Q (.ref f,[.ref x]) s) :
  wpAny (model prog w) A (getMethod (.ref x) name pl) Q E s:=by
 obtain ⟨od,J,hl⟩:=I.look;exact W.method_fn X J (W.plainGet_of hg).1 (W.plainGet_of hg).2 hf (RH.mp ht) (by show (W.lookIn name od).map (·.isSome)=some false;rw [hl,hv];rfl) h
theorem _oF {ns:List Str} {Q:Unit->Shared->Prop} (X:K.In s.heap) (I:ObjM s.heap x dx C mA)
 (hs:W.findIn K (.ref C) "__setattr__"=some (some (.builtin "object.__setattr__"))) (hp:W.plainOver K C=true) (ht:W.takerIn K C name=some none) (hh:W.hasDictIn K C=true)
 (hw:PySem.Within mA ns) (hsz:ns.length≤sizeLine)
 (h:∀h',ObjM h' x dx C (fun y=>if y=name then some v else mA y)->Heap.SameBut dx s.heap h'->Q () { s with heap:=h',toks:=s.toks+2 }) :
  wpAny (model prog w) A (setAttr (.ref x) name v) Q E s:=by
 obtain ⟨od,J,hl⟩:=I.look;refine W.set_plain X J hs (W.osa_open (s:={ s with toks:=s.toks+1 }) (r:=none) X J hp ht fun b=>?_);obtain ⟨cd,hc,hd'⟩:=W.any_some hh;have hx:s.heap.get? x=some ⟨.ref C,some dx,.plain,#[]⟩:=I.obj;refine Qd (Qg (Qd (Qd (wpAny_loadPart hx (Qd (W.Looks.here (s:={ s with toks:=s.toks+1 }) (W.looks_clsIn X hc) ?_))))));rw [hd'];refine Qg (a:=some dx) (Qd (Qg (Qd ?_)));refine wpAny_nsSet1 (s:={ s with toks:=s.toks+1 }) I.ns fun h' hn2 hs2=>?_;obtain ⟨oD,esD,epD,hoD,hdD,hcD⟩:=hn2.count (PySem.Within.cons name v hw);refine Qd (wpAny_lookBehind hoD (by rw [hdD];exact pastItsLine_dict (Qj hcD (by rw [QH];omega))) ?_);exact Qg (h _ ⟨(hs2.2 _ (QY I.ne)).trans I.obj,hn2,I.ne⟩ hs2)
theorem _iu {R:Result->Shared->Prop} {vs:List Value} (X:K.In s.heap) (hm:W.makesIn K C=true)
 (hi:W.findIn K (.ref C) "__init__"=some (some (.ref f))) (hf:W.typeIn K (.ref f)=some (.type "function"))
 (h:codeAny (model prog w) (A.under (.builtin "type.__call__" ⟨.ref C::vs,kw⟩)) (.call (.ref f) ⟨.ref (s.heap.objs.size+1)::vs,kw⟩) (W.InitBack (s.heap.objs.size+1) R)
 { s with heap:=(s.heap.push W.emptyDict).push (W.instObj C s.heap.objs.size) }) :
  codeAny (model prog w) A (.call (.ref C) ⟨vs,kw⟩) R s:=by
 obtain ⟨hh,g,d,t,os⟩:=s;exact W.make_core (W.makes_of X hm) (GT X hi) (fun self=>W.bind_fn X self hf) (.inl rfl) h
end
noncomputable def _H (f:Str) (v:V):List (Str×V)->List (Str×V)
 |[]=>[(f,v)]
 | (g,x)::r=>if g=f then (g,v)::r else (g,x)::_H f v r
theorem _eM (f g:Str) (v:V):∀fs:List (Str×V),(_H f v fs).lookup g=if g=f then some v else fs.lookup g
 |[]=>by
  show List.lookup g [(f,v)]=_;by_cases h:g=f
  ·have hb:(g==f)=true:=RH.mpr h;simp only [List.lookup,hb,Qb h]
  ·have hb:(g==f)=false:=RF.mpr h;simp only [List.lookup,hb,Qa h]
 | (k,x)::r=>by
  have ih:=_eM f g v r;rw [show _H f v ((k,x)::r)=(if k=f then (k,v)::r else (k,x)::_H f v r) from rfl];by_cases hk:k=f
  ·rw [Qb hk];by_cases h:g=k
   ·have hb:(g==k)=true:=RH.mpr h;simp only [List.lookup,hb,Qb (h.trans hk)]
   ·have hb:(g==k)=false:=RF.mpr h;simp only [List.lookup,hb,Qa (fun e:g=f=>h (e.trans hk.symm))]
  ·rw [Qa hk];by_cases h:g=k
   ·have hb:(g==k)=true:=RH.mpr h;simp only [List.lookup,hb,Qa (fun e:g=f=>hk (h.symm.trans e))]
   ·have hb:(g==k)=false:=RF.mpr h;simp only [List.lookup,hb];exact ih
theorem _bc (f:Str) (v:V):∀fs:List (Str×V),f∈(_H f v fs).map (·.1)∧∀g,g∈fs.map (·.1)->g∈(_H f v fs).map (·.1)
 |[]=>⟨by simp [_H],fun g h=>by simp at h⟩
 | (k,x)::r=>by
  obtain ⟨i1,i2⟩:=_bc f v r;rw [show _H f v ((k,x)::r)=(if k=f then (k,v)::r else (k,x)::_H f v r) from rfl];by_cases hk:k=f
  ·rw [Qb hk];subst hk;exact ⟨by simp,fun g h=>by simpa using h⟩
  ·rw [Qa hk];refine ⟨?_,fun g h=>?_⟩
   ·rw [Qs];exact Qv _ i1
   ·rw [Qs] at h ⊢;rcases Qo.mp h with e|e
    ·exact Qo.mpr (.inl e)
    ·exact Qv _ (i2 g e)
theorem _hj (f:Str) (v:V):∀fs:List (Str×V),(_H f v fs).length≤fs.length+1
 |[]=>by simp [_H]
 | (k,x)::r=>by
  have ih:=_hj f v r;rw [show _H f v ((k,x)::r)=(if k=f then (k,v)::r else (k,x)::_H f v r) from rfl];by_cases hk:k=f
  ·rw [Qb hk,QH,QH];omega
  ·rw [Qa hk,QH,QH];omega
theorem RelO.some_of {o:Option Value} (r:RelO (some v) o):∃u,o=some u∧RelV v u:=by
 cases o with
 |none=>exact (show False from r).elim
 |some u=>exact ⟨u,rfl,r⟩
theorem RelO.none_of {o:Option Value} (r:RelO none o):o=none:=by
 cases o with
 |none=>rfl
 |some u=>exact (show False from r).elim
theorem _pR (r:RelV v u):W.handedIn u=true:=by
 cases v with
 |non=>cases (show u=Value.none from r);rfl
 |bl b=>cases (show u=Value.bool b from r);rfl
 |int i=>obtain ⟨t,e⟩:=(show ∃t,u=Value.int i t from r);cases e;rfl
 |str x=>obtain ⟨t,e⟩:=(show ∃t,u=Value.str x t from r);cases e;rfl
 |byt b=>obtain ⟨t,e⟩:=(show ∃t,u=Value.bytes b t from r);cases e;rfl
 |flt b=>obtain ⟨t,e⟩:=(show ∃t,u=Value.float b t from r);cases e;rfl
 |ref a=>cases (show u=Value.ref a from r);rfl
 |ty n=>cases (show u=Value.type n from r);rfl
section
variable {w:World} {fs fs':List (Str×V)}
theorem JB (hok:HOk P w H h) (e:H a=some (.ins C dx fs)):∃mA,ObjM h a dx C mA∧(∀f,RelO (fs.lookup f) (mA f))∧PySem.Within mA (fs.map (·.1))∧fs.length≤1000∧H dx=some (.own a):=by
 obtain ⟨d,z,ne,ob,mA,n,r,q⟩:=(show ObjOk P w H h a (.ins C dx fs) from hok a _ e);exact ⟨mA,⟨ob,n,ne⟩,r,q,z,d⟩
end
structure Cls (K:W.Frag) (C:Addr):Prop where
 pg:W.plainGet K C Str.empty=true
 hd:W.hasDictIn K C=true
 po:W.plainOver K C=true
 sa:W.findIn K (.ref C) "__setattr__"=some (some (.builtin "object.__setattr__"))
theorem Cls.get (c:Cls K C) (f:Str):W.plainGet K C f=true:=c.pg
noncomputable def NoAttr (K:W.Frag) (C:Addr) (f:Str):Prop:=W.findIn K (.ref C) f=some none
theorem NoAttr.taker {f:Str} (n:NoAttr K C f):W.takerIn K C f=some none:=by
 unfold W.takerIn;rw [show W.findIn K (.ref C) f=some none from n];rfl
structure Meth (K:W.Frag) (C:Addr) (m:Str) (f:Addr):Prop where
 at_:W.findIn K (.ref C) m=some (some (.ref f))
 fn:W.isFn K (.ref f)=true
 kp:W.keepIn K (.ref f)=true
section
variable {fs:List (Str×V)} {f:Str}
theorem _m9 {b:Bool} (I:Inv X pins σ H s) (e:H a=some (.ins C dx fs)) (c:Cls X.K C) (n:NoAttr X.K C f) (l:fs.lookup f=some v)
 (h:∀u s',Inv X pins σ H s'->RelV v u->Q u s'):wpAny (model X.prog X.w) A (getAttr (.ref a) f b) Q E s:=by
 obtain ⟨mA,O,r,_,_,_⟩:=JB I.hok e;obtain ⟨u,hu,ru⟩:=RelO.some_of (v:=v) (o:=mA f) (by rw [←l];exact r f);exact _n7 I.kIn O (c.get f) c.hd n hu (_pR ru) (h u _ (I.tok _) ru)
theorem UZ {g:Addr} {pl:Sem Bool} {Q:Value×List Value->Shared->Prop} (I:Inv X pins σ H s) (e:H a=some (.ins C dx fs)) (c:Cls X.K C) (k:Meth X.K C m g) (l:fs.lookup m=none)
 (h:Q (.ref g,[.ref a]) s):wpAny (model X.prog X.w) A (getMethod (.ref a) m pl) Q E s:=by
 obtain ⟨mA,O,r,_,_,_⟩:=JB I.hok e;have hn:mA m=none:=RelO.none_of (by rw [←l];exact r m);exact _mx I.kIn O (c.get m) k.at_ k.fn hn h
theorem _o0 {Q:Unit->Shared->Prop} (I:Inv X pins σ H s) (e:H a=some (.ins C dx fs)) (c:Cls X.K C) (n:NoAttr X.K C f) (hl:fs.length<1000) (ry:RelV y u)
 (h:∀s',Inv X pins σ (_b H a (.ins C dx (_H f y fs))) s'->Q () s'):wpAny (model X.prog X.w) A (setAttr (.ref a) f u) Q E s:=by
 obtain ⟨mA,O,r,wi,_,ho⟩:=JB I.hok e;have hz:(fs.map (·.1)).length≤sizeLine:=by rw [Qc,Gw];omega
 refine _oF I.kIn O c.sa c.po n.taker c.hd wi hz fun h' O' sb=>h _ ?_;have hd:∃o,h'.get? dx=some o:=let ⟨o,_,_,e',_⟩:=O'.ns;⟨o,e'⟩;refine I.write (x:=a) (e:=dx) (by rw [e];exact True.intro) (.inr ho) (fun b q hb z=>(sb.2 b hb).trans z) hd ?_;refine ⟨by rw [_g O.ne];exact ho,?_,O.ne,O'.obj,_,O'.ns,fun g=>?_,fun g hg=>?_⟩
 ·have:=_hj f y fs;omega
 ·show RelO ((_H f y fs).lookup g) (if g=f then some u else mA g);rw [_eM];by_cases q:g=f
  ·rw [Qb q,Qb q];exact ry
  ·rw [Qa q,Qa q];exact r g
 ·by_cases q:g=f
  ·rw [q];exact (_bc f y fs).1
  ·refine (_bc f y fs).2 g (wi g fun z=>hg ?_);show (if g=f then some u else mA g)=none;rw [Qa q];exact z
theorem Inv.made (I:Inv X pins σ H s):Inv X pins σ (_b (_b H s.heap.objs.size (.own (s.heap.objs.size+1))) (s.heap.objs.size+1) (.ins C s.heap.objs.size []))
  { s with heap:=(s.heap.push W.emptyDict).push (W.instObj C s.heap.objs.size) }:=by
 have e1:(s.heap.push W.emptyDict).get? s.heap.objs.size=some W.emptyDict:=Qw s.heap rfl
 have e2:((s.heap.push W.emptyDict).push (W.instObj C s.heap.objs.size)).get? (s.heap.objs.size+1)=some (W.instObj C s.heap.objs.size):=by
  have:=Qw (s.heap.push W.emptyDict) (o:=W.instObj C s.heap.objs.size) rfl
  rwa [Rk] at this
 have e3:(s.heap.push W.emptyDict).Ns s.heap.objs.size (fun _=>none):=⟨W.emptyDict,#[],_,e1,rfl,(fun e he=>absurd he (by simp)),fun _=>rfl⟩;have I1:=I.laid (a:=s.heap.objs.size) (o:=.own (s.heap.objs.size+1)) (h':=s.heap.push W.emptyDict) (t':=s.toks) (fun b u q=>Qq _ q) (Qe _) ⟨_,e1⟩;refine I1.laid (a:=s.heap.objs.size+1) (o:=.ins C s.heap.objs.size []) (t':=s.toks) (fun b u q=>Qq _ q) (GU (Rk _ _)) ?_;have ne:s.heap.objs.size≠s.heap.objs.size+1:=Qz (Rq _);refine ⟨by rw [_g ne,_f],QM _,ne,e2,fun _=>none,(Heap.Ns1.of_empty e3).at fun o q=>Qq _ q,fun _=>True.intro,fun y hy=>absurd rfl hy⟩
theorem _jb {prog:Program} {w:World} {env:Env} {f:Str} (hb:attributeBase e f env (eval e env)=eval e env)
 (h:wpAny (model prog w) A (eval e env) (fun o s₁=>wpAny (model prog w) A (getAttr o f true) Q E s₁) E s):wpAny (model prog w) A (eval (.Attribute e f pos) env) Q E s :=
 Attribute_any_ h (by rw [arm_eval_Attribute,hb])
end
noncomputable def _c3 (K:W.Frag) (ta:TE) (f:Str):TE:=fun σ H Q=>ta σ H fun x H1=>∃a C dx fs v,x=.ref a∧H1 a=some (.ins C dx fs)∧Cls K C∧NoAttr K C f∧fs.lookup f=some v∧Q v H1
noncomputable def _py (K:W.Frag) (ta tv:TE) (f:Str):TS:=fun D σ H=>tv σ H fun y H1=>ta σ H1 fun x H2=>∃a C dx fs,x=.ref a∧H2 a=some (.ins C dx fs)∧Cls K C∧NoAttr K C f∧fs.length<1000 ∧
 D.nx σ (_b H2 a (.ins C dx (_H f y fs)))
section
variable {o value:Expr} {f:Str} {pos' tpos:Pos} {tv:TE}
theorem YD (he:PE X e ta) (hb:attributeBase e f X.env (eval e X.env)=eval e X.env):PE X (.Attribute e f pos) (_c3 X.K ta f):=by
 intro pins s σ H Q I h;refine _jb hb (_p (he pins s σ H _ I h) fun u s1 ⟨x,H1,I1,rx,a,C,dx,fs,v,ex,ea,c,n,l,q⟩=>?_);subst ex;obtain rfl:u=Value.ref a:=rx;exact _m9 I1 ea c n l fun u' s2 I2 ru=>⟨v,H1,I2,ru,q⟩
theorem Wu (ha:PE X o ta) (hv:PE X value tv) (hs:swapsWith value (some (.Attribute o f pos')) pos.line X.env=pure false):PS X (.Assign [.Attribute o f pos'] value pos) (_py X.K ta tv f):=by
 intro pins s σ H D I h;refine plainObj_wpAny_Assign_Attribute (_p (hv pins s σ H _ I h) fun u s1 ⟨y,H1,I1,ry,q⟩=>_p (ha pins s1 σ H1 _ I1 q) fun ov s2 ⟨x,H2,I2,rx,a,C,dx,fs,ex,ea,c,n,l,q2⟩=>?_) hs;subst ex;obtain rfl:ov=Value.ref a:=rx;exact _o0 I2 ea c n l ry fun s3 I3=>⟨σ,_,I3,q2⟩
end
section
variable {c:Value} {b:Bool}
inductive TyOf (K:W.Frag) (H:Hp):V->Value->Prop where
 |non:TyOf K H .non (.type "NoneType")
 |bl (x:Bool):TyOf K H (.bl x) (.type "bool")
 |int (i:Int):TyOf K H (.int i) (.type "int")
 |str (x:Str):TyOf K H (.str x) (.type "str")
 |flt (x:UInt64):TyOf K H (.flt x) (.type "float")
 |lst {a:Addr} {xs:List V} (e:H a=some (.lst xs)):TyOf K H (.ref a) (.type "list")
 |frz {a:Addr} {o:Obj} {xs:List V} (e:H a=some (.frz o (.lst xs))):TyOf K H (.ref a) (.type "list")
 |tup {a:Addr} {xs:List V} (e:H a=some (.tup xs)):TyOf K H (.ref a) (.type "tuple")
 |dK {a:Addr} {kvs:List (_k×V)} (e:H a=some (.dK kvs)):TyOf K H (.ref a) (.type "dict")
 |dT {a:Addr} {kvs:List (List _k×V)} (e:H a=some (.dT kvs)):TyOf K H (.ref a) (.type "dict")
 |ins {a C dx : Addr} {fs : List (Str×V)} (e : H a=some (.ins C dx fs)) (cl : Cls K C) (ha : W.findIn K (.ref C) "__class__"=some (some (.builtin "object.__class__")))
   (hn:W.specialIn K (.builtin "object.__class__") "__get__"=some (some (.builtin "getset_descriptor.__get__"))) (htk:W.takesIn K (.builtin "object.__class__")=some true)
   (hm:W.mroIn K C (.type "object")=some true):TyOf K H (.ref a) (.ref C)
theorem _mu {x:V} {t:Value} (I:Inv X pins σ H s) (rx:RelV x u) (ty:TyOf X.K H x t) (e:W.kitOne X.K t c=some b) (h:∀tk,Q (.bool b) { s with toks:=tk }) :
  wpAny (model X.prog X.w) A (call (.builtin "isinstance") [u,c]) Q E s:=by
 cases ty with
 |non=>cases (show u=Value.none from rx);exact QZ W.kitx_none I.kIn True.intro e (fun z=>nomatch z) h
 |bl y=>cases (show u=Value.bool y from rx);exact QZ W.kitx_bool I.kIn True.intro e (fun z=>nomatch z) h
 |int i=>obtain ⟨t,q⟩:=(show ∃t,u=Value.int i t from rx);cases q;exact QZ W.kitx_int I.kIn True.intro e (fun z=>nomatch z) h
 |str y=>obtain ⟨t,q⟩:=(show ∃t,u=Value.str y t from rx);cases q;exact QZ W.kitx_str I.kIn True.intro e (fun z=>nomatch z) h
 |flt y=>obtain ⟨t,q⟩:=(show ∃t,u=Value.float y t from rx);cases q;exact QZ W.kitx_float I.kIn True.intro e (fun z=>nomatch z) h
 |@lst a xs ea =>
  cases (show u=Value.ref a from rx);obtain ⟨_,_,n,_,h1⟩:=(show ObjOk X.prog X.w H s.heap a (.lst xs) from I.hok a _ ea);exact QZ GV I.kIn ⟨_,h1,rfl⟩ e (fun z=>nomatch z) h
 |@frz a ob xs ea =>
  cases (show u=Value.ref a from rx);obtain ⟨_,_,_,n,_,h1⟩:=(show ObjOk X.prog X.w H s.heap a (.frz ob (.lst xs)) from I.hok a _ ea);exact QZ GV I.kIn ⟨_,h1,rfl⟩ e (fun z=>nomatch z) h
 |@tup a xs ea =>
  cases (show u=Value.ref a from rx);obtain ⟨_,_,_,p⟩:=(show ObjOk X.prog X.w H s.heap a (.tup xs) from I.hok a _ ea);obtain ⟨o,h1,h2,_⟩:=p;exact QZ W.kitx_tuple I.kIn ⟨o,h1,h2⟩ e (fun z=>nomatch z) h
 |@dK a kvs ea =>
  cases (show u=Value.ref a from rx);obtain ⟨_,_,vs,_,p⟩:=(show ObjOk X.prog X.w H s.heap a (.dK kvs) from I.hok a _ ea);obtain ⟨o,es,ep,h1,h2,_⟩:=p;exact QZ W.kitx_dict I.kIn ⟨o,h1,h2.1⟩ e (fun z=>nomatch z) h
 |@dT a kvs ea =>
  cases (show u=Value.ref a from rx);obtain ⟨_,_,xs,_,o,es,ep,h1,h2,_⟩:=(show ObjOk X.prog X.w H s.heap a (.dT kvs) from I.hok a _ ea);exact QZ W.kitx_dict I.kIn ⟨o,h1,h2.1⟩ e (fun z=>nomatch z) h
 |@ins a C dx fs ea cl ha hn htk hm =>
  cases (show u=Value.ref a from rx);obtain ⟨mA,O,_⟩:=JB I.hok ea;obtain ⟨od,J,_⟩:=O.look;exact QZ (W.kitx_own (cl.get _) cl.hd ha hn htk hm) I.kIn J e (fun z=>nomatch z) h
end
structure Room (k:Nat) (A:Around):Prop where
 hd:A.handled=none
 dp:A.depth+3*k+5<recursionLimit
 un:A.units+16*k+200<cLine
theorem Room.mono {k:Nat} (r:Room k A) (h:j≤k):Room j A:=⟨r.hd,by have:=r.dp;omega,by have:=r.un;omega⟩
theorem Room.deeper {k:Nat} (r:Room (k+1) A) (env:Env):Room k (A.deeper env) :=
 ⟨r.hd,by have:=r.dp;show A.depth+1+3*k+5<_;omega,by have:=r.un;show A.units+3+16*k+200<_;omega⟩
theorem _nE:(A.under (.builtin "type.__call__" ⟨.ref C::us,kw⟩)).depth=A.depth+1:=by
 first|rfl|simp [Around.under,Code.weight,Code.isCreation,Code.isGuard,Code.isCaller,Code.frames,Code.isFrame,guardIds]
theorem _i0:(A.under (.builtin "type.__call__" ⟨.ref C::us,kw⟩)).units=A.units+1:=by
 first|rfl|simp [Around.under,Code.cUnits,Code.frames,Code.isFrame]
theorem Room.make {k:Nat} (r:Room (k+1) A) (C:Addr) (us:List Value) (kw:List (Str×Value)):Room k (A.under (.builtin "type.__call__" ⟨.ref C::us,kw⟩)) :=
 ⟨r.hd,by have:=r.dp;rw [_nE];omega,by have:=r.un;rw [_i0];omega⟩
theorem Room.depth {k:Nat} (r:Room k A):A.depth<recursionLimit:=by have:=r.dp;omega
theorem Room.units {k:Nat} (r:Room k A):A.units+64<cLine:=by have:=r.un;omega
noncomputable def Uv:TA:=fun _ H Q=>Q [] H
noncomputable def WI (ta:TE) (tr:TA):TA:=fun σ H Q=>ta σ H fun x H1=>tr σ H1 fun xs H2=>Q (x::xs) H2
section
variable {t:TA}
theorem _c:PA X [] Uv:=fun _ _ _ _ H Q I h=>GW ⟨[],H,I,.nil,h⟩
theorem _a (ha:PE X e te) (hr:PA X es t) (hs:starEach (e::es) X.env=(false,eval e X.env)::starEach es X.env:=by rfl):PA X (e::es) (WI te t):=by
 intro pos pins s σ H Q I h;rw [hs];show wpAny _ _ (spliced ((false,eval e X.env)::backTo pos (starEach es X.env))) _ _ s;refine RU (_p (ha pins s σ H _ I h) fun u s1 ⟨x,H1,I1,r1,q1⟩=>?_);exact _p (hr pos pins s1 σ H1 _ I1 q1) fun us s2 ⟨xs,H2,I2,r2,q2⟩=>⟨x::xs,H2,I2,.cons r1 r2,q2⟩
noncomputable def _cV (t:TA):TE:=fun σ H Q=>t σ H fun xs H1=>xs.length≤sizeLine∧∀p,H1 p=none->Q (.ref p) (_b H1 p (.tup xs))
noncomputable def _jm (t:TA):TE:=fun σ H Q=>t σ H fun xs H1=>xs.length≤sizeLine∧∀p,H1 p=none->Q (.ref p) (_b H1 p (.lst xs))
theorem _3 {x1} (h:PA X es t):PE X (.Tuple es x1 pos) (_cV t):=by
 intro pins s σ H Q I hq;refine wpAny_Tuple_spliced (_p (h pos pins s σ H _ I hq) fun us s1 ⟨xs,H1,I1,r,z,q⟩=>⟨by rw [←r.length];exact z,?_⟩);have hf:H1 s1.heap.objs.size=none:=I1.hok.fresh (Qe _);refine ⟨.ref s1.heap.objs.size,_b H1 s1.heap.objs.size (.tup xs),I1.laid (t':=s1.toks) (fun b u e=>Qq _ e) (Qe _) ?_,rfl,q _ hf⟩;exact ⟨z,us,r,⟨_,Qw _ rfl,rfl,_,rfl⟩⟩
theorem Yb (h:PA X es t):PE X (.List es pos) (_jm t):=by
 intro pins s σ H Q I hq;refine wpAny_List_spliced (_p (h pos pins s σ H _ I hq) fun us s1 ⟨xs,H1,I1,r,z,q⟩=>⟨by rw [←r.length];exact z,?_⟩);have hf:H1 s1.heap.objs.size=none:=I1.hok.fresh (Qe _);refine ⟨.ref s1.heap.objs.size,_b H1 s1.heap.objs.size (.lst xs),I1.laid (t':=s1.toks) (fun b u e=>Qq _ e) (Qe _) ?_,rfl,q _ hf⟩;exact ⟨z,us,0,r,Qw _ rfl⟩
end
noncomputable abbrev Sp:=List V->Hp->VK->XK->Prop
noncomputable abbrev YA:=List Env->Hp->Shared->XK->Value->Shared->Prop
structure Env0 (P:Program) (w:World) (K:W.Frag) (mg:Str->Option Value) (base:Heap) (A:Around) (outer:List Env) (s:Shared) (H:Hp):Prop where
 frames:A.frames=some outer
 mod:Mod K mg base
 bs:∀b o,base.get? b=some o->s.heap.get? b=some o∧H b=none
 bsz:base.objs.size≤s.heap.objs.size
 funs:s.heap.FunFrames base outer
 frf:∀b∈Xy outer,H b=none
 hok:HOk P w H s.heap
 bare:AllBare s.gens
noncomputable def CE (outer:List Env) (P:Program) (w:World) (H:Hp) (s:Shared) (Q:VK) (u:Value) (s':Shared):Prop :=
 ∃v H',s'.os=s.os∧AllBare s'.gens∧Un (Xy outer) [] H H' s.heap s'.heap∧HOk P w H' s'.heap∧RelV v u∧Q v H'
noncomputable def CR (CX:YA) (outer:List Env) (P:Program) (w:World) (H:Hp) (s:Shared) (Q:VK) (E:XK) (r:Result) (s':Shared):Prop :=
 match r with
 |.ok (.ret u)=>CE outer P w H s Q u s'
 |.ok _=>False
 |.error e=>CX outer H s E e s'
structure FnOk (P:Program) (w:World) (K:W.Frag) (mg:Str->Option Value) (base:Heap) (CX:YA) (k:Nat) (f:Addr) (fd:FuncData) (ps:List Str) (sp:Sp):Prop where
 len:∀vs H Q E,sp vs H Q E->vs.length=ps.length
 run:∀(A:Around) (outer:List Env) (s:Shared) (H:Hp) (args:Args) (us:List Value) (vs:List V) (Q:VK) (E:XK),Room k A->Env0 P w K mg base A outer s H->BindsTo s fd args (ps.zip us)->Vals vs us->sp vs H Q E →
  codeAny (model P w) A (.call (.ref f) args) (CR CX outer P w H s Q E) s
theorem FnOk.imp {w:World} {mg:Str->Option Value} {k:Nat} {f:Addr} {sp sp':Sp} (F:FnOk P w K mg base CX k f fd ps sp)
 (h:∀vs H Q E,sp' vs H Q E->sp vs H Q E):FnOk P w K mg base CX k f fd ps sp' :=
 ⟨fun vs H Q E q=>F.len vs H Q E (h _ _ _ _ q),fun A outer s H args us vs Q E hr he hb hv hs=>F.run A outer s H args us vs Q E hr he hb hv (h _ _ _ _ hs)⟩
theorem Env0.make {w:World} {mg:Str->Option Value} {outer:List Env} (e:Env0 P w K mg base A outer s H) (C:Addr) (us:List Value) (kw:List (Str×Value)) :
  Env0 P w K mg base (A.under (.builtin "type.__call__" ⟨.ref C::us,kw⟩)) outer s H:=⟨by first|exact e.frames|(simpa [Around.under,Code.envs,Code.isFrame,pushEnvs] using e.frames),e.mod,e.bs,e.bsz,e.funs,e.frf,e.hok,e.bare⟩
section
variable {s':Shared}
theorem Inv.env0 (I:Inv X pins σ H s):Env0 X.prog X.w X.K X.mg X.base X.A X.stack s H :=
 ⟨I.ok.frames,I.ok.mod,I.bs,Qj I.ok.bsz I.sz,I.stack,I.stkFree,I.hok,I.bare⟩
theorem Inv.after {Q:VK} (I:Inv X pins σ H s) (h:CE X.stack X.prog X.w H s Q u s'):EP X pins σ Q u s':=by
 obtain ⟨v,H',os,bare,un,hok,r,q⟩:=h;obtain ⟨hh,g,d,t,os'⟩:=s';obtain rfl:os'=s.os:=os;exact ⟨v,H',I.call (h':=hh) (g':=g) (d':=d) (t':=t) (ch:=[]) un hok bare (fun b z=>absurd z (by simp)),r,q⟩
end
noncomputable def Binds (K:W.Frag) (fd:FuncData) (ps:List Str) (ds:List Value):Prop :=
 ∀(s:Shared) (us:List Value),K.In s.heap->(us++ds).length=ps.length->BindsTo s fd ⟨us,[]⟩ (ps.zip (us++ds))
theorem Binds.all (h:∀us:List Value,us.length=ps.length->bindArgs fd ⟨us,[]⟩=pure (ps.zip us)):Binds K fd ps []:=fun s us _ hl=>by
 rw [QC] at hl ⊢;exact .of_eq (h us hl)
noncomputable def _do (CX:YA) (X:Cx) (E:XK):Prop:=∀(pins:List (Addr×Obj)) (σ:St) (H:Hp) (s:Shared) (e:Value) (s':Shared),Inv X pins σ H s->CX X.stack H s E e s'->X.xe e s'
section
variable {k:Nat} {f:Addr} {sp:Sp} {dvs:List V} {ds:List Value} {E:XK} {x:Str} {apos:Pos} {o:Expr} {t:TA}
theorem _pj {Q:VK} {vs:List V} (F:FnOk X.prog X.w X.K X.mg X.base CX k f fd ps sp) (hr:Room k X.A) (hb:Binds X.K fd ps ds) (hd:Vals dvs ds) (hx:_do CX X E)
 (I:Inv X pins σ H s) (r:Vals vs us) (h:sp (vs++dvs) H Q E):wpAny (model X.prog X.w) X.A (call (.ref f) us) (EP X pins σ Q) X.xe s:=by
 have r2:Vals (vs++dvs) (us++ds):=r.append hd;have hl:(us++ds).length=ps.length:=by rw [←r2.length];exact F.len _ _ _ _ h
 refine wpAny_call (Gx (F.run X.A X.stack s H ⟨us,[]⟩ (us++ds) (vs++dvs) Q E hr I.env0 (hb s us I.kIn hl) r2 h) fun r s' hq=>?_);cases r with
 |error e=>exact hx pins σ H s e s' I hq
 |ok fl =>
  cases fl with
  |ret u=>exact I.after hq
  |next=>exact False.elim hq
  |brk=>exact False.elim hq
  |cont=>exact False.elim hq
structure Mk (K:W.Frag) (C f:Addr):Prop where
 makes:W.makesIn K C=true
 init:W.findIn K (.ref C) "__init__"=some (some (.ref f))
 fn:W.isFn K (.ref f)=true
 kp:W.keepIn K (.ref C)=true
end
section
variable {k:Nat} {f:Addr} {ks:List Str} {sp:Sp} {E:XK} {x:Str} {apos kpos:Pos} {o:Expr} {kws:List Keyword} {t tk:TA} {nm:Option Str}
variable {g:List Value->List Value->List Value} {gV:List V->List V->List V}
end
structure FnScope (N P:List Str) (sc:Scope):Prop where
 kind:sc.kind=.function
 co:sc.isCoroutine=false
 gen:sc.isGenerator=false
 nd:N.Nodup
 pre:N.take P.length=P
 par:∀x∈P,sc.names.lookup x=some .local∨sc.names.lookup x=some .cell
 nofree:∀y∈sc.names,y.2≠.free
theorem _fw {kindOf:Str->Option NameKind} {x:Str}:∀{binds:List (Str×Value)} {m:Str->Option Value},(∀v,(x,v)∉binds)->bindL kindOf binds m x=m x
 |[],_,_=>rfl
 | (n,v)::r,m,h=>by
  unfold bindL;rw [_fw fun w hw=>h w (Qv _ hw)];split
  ·have:x≠n:=by rintro rfl;exact h v QA
   simp [this]
  ·rfl
theorem _fM {kindOf:Str->Option NameKind} {x:Str}:∀{binds:List (Str×Value)} {m:Str->Option Value},(∀v,(x,v)∉binds)->bindC kindOf binds m x=m x
 |[],_,_=>rfl
 | (n,v)::r,m,h=>by
  unfold bindC;rw [_fM fun w hw=>h w (Qv _ hw)];split
  ·rfl
  ·have:x≠n:=by rintro rfl;exact h v QA
   simp [this]
theorem _eE {kindOf:Str->Option NameKind} {x:Str} {v:Value}:∀{P:List Str} {vs:List Value} {i:Nat} {m:Str->Option Value},P.Nodup->P[i]?=some x->vs[i]?=some v->kindOf x=some .local →
  bindL kindOf (P.zip vs) m x=some v
 |[],_,_,_,_,h,_,_=>by simp at h
 |_::_,[],_,_,_,_,h,_=>by simp at h
 |p::P,w::vs,0,m,nd,h1,h2,hk=>by
  simp at h1 h2;subst h1;subst h2;show bindL kindOf ((p,w)::P.zip vs) m p=_;unfold bindL;rw [_fw fun v hv=>(QO.mp nd).1 (Nr hv).1,Qb hk];simp
 |p::P,w::vs,i+1,m,nd,h1,h2,hk=>by
  show bindL kindOf ((p,w)::P.zip vs) m x=_;unfold bindL;exact _eE (i:=i) (QO.mp nd).2 (by simpa using h1) (by simpa using h2) hk
theorem _f5 {kindOf:Str->Option NameKind} {x:Str} {v:Value}:∀{P:List Str} {vs:List Value} {i:Nat} {m:Str->Option Value},P.Nodup->P[i]?=some x->vs[i]?=some v->kindOf x≠some .local →
  bindC kindOf (P.zip vs) m x=some v
 |[],_,_,_,_,h,_,_=>by simp at h
 |_::_,[],_,_,_,_,h,_=>by simp at h
 |p::P,w::vs,0,m,nd,h1,h2,hk=>by
  simp at h1 h2;subst h1;subst h2;show bindC kindOf ((p,w)::P.zip vs) m p=_;unfold bindC;rw [_fM fun v hv=>(QO.mp nd).1 (Nr hv).1,Qa hk];simp
 |p::P,w::vs,i+1,m,nd,h1,h2,hk=>by
  show bindC kindOf ((p,w)::P.zip vs) m x=_;unfold bindC;exact _f5 (i:=i) (QO.mp nd).2 (by simpa using h1) (by simpa using h2) hk
noncomputable def start (N:List Str) (vs:List V):St:=vs.map some++List.replicate (N.length-vs.length) none
noncomputable def Vh (CX:YA) (P:Program) (w:World) (K:W.Frag) (mg:Str->Option Value) (base:Heap) (N:List Str) (qual:Str) (scope:Scope) (f:Addr) (cd:Value) (A:Around) (outer:List Env) (s:Shared) (H:Hp) (E:XK):Cx where
 prog:=P
 w:=w
 K:=K
 mg:=mg
 base:=base
 A:=A.deeper (envOfC qual scope s.heap.objs.size f cd)
 N:=N
 s₀:=s
 H₀:=H
 env:=envOfC qual scope s.heap.objs.size f cd
 outer:=outer
 stack:=envOfC qual scope s.heap.objs.size f cd::outer
 ex:=[]
 calm:=true
 fn:=fun _=>true
 pn:=[]
 xe:=fun e s'=>wpAny (model P w) (A.deeper (envOfC qual scope s.heap.objs.size f cd)) (leaving (envOfC qual scope s.heap.objs.size f cd) e) (fun _ s''=>CX outer H s E e s'') (fun e' s''=>CX outer H s E e' s'') s'
theorem _c2 {sc:Scope} {x:Str} (h:sc.names.lookup x=some .cell):∃c,(cellsFrom n sc.names []).lookup x=some c:=by
 have q:=W.cellsFrom_some sc.names n [] (.inl h);exact Nt.mp q
theorem _pk {w:World} {mg:Str->Option Value} {qual:Str} {scope:Scope} {f:Addr} {cd:Value} {outer:List Env} {s1:Shared} {E:XK} {vs:List V}
 (S:FnScope N ps scope) (hd:A.handled=none) (e0:Env0 P w K mg base A outer s H) (hl:vs.length=ps.length) (r:Vals vs us)
 (x:InCallC s s.heap.objs.size (bindL (envOfC qual scope s.heap.objs.size f cd).kindOf (ps.zip us) fun _=>none) (cellsFrom (s.heap.objs.size+1) scope.names []) (bindC (envOfC qual scope s.heap.objs.size f cd).kindOf (ps.zip us) fun _=>none) s1) :
  Inv (Vh CX P w K mg base N qual scope f cd A outer s H E) [] (start N vs) H s1:=by
 have hpl:ps.length≤N.length:=by have:=Qk List.length S.pre;rw [QU] at this;omega
 obtain ⟨h1,tk,rfl,hk⟩:=x.done;have noA:∀b:Addr,b∉(Vh CX P w K mg base N qual scope f cd A outer s H E).ex:=fun b z=>absurd (show b∈([]:List Addr) from z) (by simp)
 refine ⟨⟨e0.mod,S.kind,rfl,rfl,Qe _,fun y z c h1 h2=>?_,fun y hy=>?_,fun y c _ h=>?_,fun _=>hd,Around.frames_deeper e0.frames,.inr ⟨rfl,rfl⟩,fun b z=>absurd z (noA b),e0.bs,e0.bsz,fun b _ _=>noA b,fun b z=>absurd z (noA b),e0.funs,e0.frf⟩,
  rfl,e0.bare,Un.kept hk,⟨_,x.toInCall.ns,fun i y v h1 h2 h3=>?_⟩,fun y c h=>⟨_,x.cell y c h⟩,e0.hok.fresh (Qe _),fun y c h=>?_,fun p hp=>absurd (show p∈([]:List (Addr×Obj)) from hp) (by simp),e0.hok.kept hk,?_⟩
 ·exact name_of_addr x.apart (RV h1) (RV h2)
 ·have hy:scope.names.lookup y=some .cell∨scope.names.lookup y=some .free:=hy;rcases hy with hy|hy
  ·exact _c2 hy
  ·exact absurd rfl (S.nofree _ (RV hy))
 ·exact QS (x.above y c (RV h))
 ·have hi:i<vs.length:=by
   unfold start at h2;by_cases hi:i<vs.length
   ·exact hi
   ·rw [RW (by simpa using hi)] at h2;rw [List.getElem?_replicate] at h2;split at h2<;>cases h2
  have ha:vs[i]?=some v:=by
   unfold start at h2;rw [RI (by simpa using hi),Qi] at h2;cases e:vs[i]? with
   |none=>rw [e] at h2;cases h2
   |some a=>rw [e] at h2;cases h2;rfl
  obtain ⟨u,hu,rv⟩:=r.get ha
  have hp:ps[i]?=some y:=by
   rw [←S.pre,Nu (by omega)];exact h1
  have ndP:ps.Nodup:=by rw [←S.pre];exact S.nd.sublist (RJ _ _)
  refine ⟨u,rv,?_⟩;rcases S.par y (Qt hp) with k|k
  ·exact .inl ⟨k,_eE ndP hp hu k⟩
  ·obtain ⟨c,e⟩:=_c2 (n:=s.heap.objs.size+1) k;refine .inr ⟨.inl k,c,e,?_⟩;have q:=x.cell y c e;rw [_f5 ndP hp hu (by show scope.names.lookup y≠_;rw [k];decide)] at q;exact q
 ·exact e0.hok.fresh (QS (x.above y c (RV h)))
 ·unfold start;show _=N.length;rw [Qx,Qc,List.length_replicate];omega
theorem _gK {w:World} {mg:Str->Option Value} {k:Nat} {f:Addr} {name qual:Str} {params:Arguments} {body:List Stmt} {scope:Scope} {dV kV doc pm cdv ct oc:Value} {an od:Option Addr}
 {osl:Array (Option Value)} {sp:Sp} (lk:K.lookup f=some ⟨oc,od,.func (W.fnOf name qual params body scope dV kV doc pm an cdv ct),osl⟩) (hcd:W.codeIn K cdv qual=true) (S:FnScope N ps scope)
 (len:∀vs H Q E,sp vs H Q E->vs.length=ps.length)
 (hbody:∀(A:Around) (outer:List Env) (s:Shared) (H:Hp) (vs:List V) (Q:VK) (E:XK),Room k (A.deeper (envOfC qual scope s.heap.objs.size f cdv))->sp vs H Q E →
 ∃t,PSs (Vh CX P w K mg base N qual scope f cdv A outer s H E) body t∧t { nx:=fun _ H'=>Q .non H',rt:=Q } (start N vs) H) :
  FnOk P w K mg base CX (k+1) f (W.fnOf name qual params body scope dV kV doc pm an cdv ct) ps sp:=by
 refine ⟨len,fun A outer s H args us vs Q E hr e0 hb r hsp=>?_⟩;have hl:=len _ _ _ _ hsp;have KX:K.In s.heap:=e0.mod.kin.keeps fun b o e=>(e0.bs b o e).1;have lim:s.heap.NoLimit:=e0.mod.nolimit.keeps fun b o e=>(e0.bs b o e).1
 have hkind:∀y∈ps.zip us,scope.names.lookup y.1=some .local∨(scope.names.lookup y.1=some .cell∧((cellsFrom (s.heap.objs.size+1) scope.names []).lookup y.1).isSome=true):=fun ⟨n,v⟩ hy=>by
  rcases S.par n (Nr hy).1 with q|q
  ·exact .inl q
  ·exact .inr ⟨q,W.cellsFrom_some _ _ _ (.inl q)⟩
 refine codeAny_call_function hr.depth (KX _ _ lk) rfl S.co S.gen rfl (W.codeRec_of KX hcd) (hb _ _ _ _ ?_);refine wpAny_newFunctionEnv_cells S.kind hkind fun env he s1 x=>?_;subst he;refine ⟨lim.keeps x.toInCall.keep,codeAny_func ?_⟩;obtain ⟨t,ht,hq⟩:=hbody A outer s H vs Q E (hr.deeper _) hsp;have I:Inv (Vh CX P w K mg base N qual scope f cdv A outer s H E) [] (start N vs) H s1:=_pk S hr.hd e0 hl r x;refine Rb (ht [] s1 (start N vs) H _ I hq) (fun fl s' hs=>?_) fun e s' hs=>hs
 have fin:∀{σ':St} {H':Hp} {v:V} {u:Value},Inv (Vh CX P w K mg base N qual scope f cdv A outer s H E) [] σ' H' s'->RelV v u->Q v H'->CE outer P w H s Q u s' :=
  fun {σ' H' v u} J rv q=>⟨v,H',J.os,J.bare,J.base,J.hok,rv,q⟩
 cases fl with
 |ret u =>
  obtain ⟨v,σ',H',J,rv,q⟩:=hs;exact fin J rv q
 |next =>
  obtain ⟨σ',H',J,q⟩:=hs;exact fin (v:=V.non) (u:=Value.none) J rfl q
 |brk =>
  obtain ⟨_,_,_,q⟩:=hs;exact False.elim q
 |cont =>
  obtain ⟨_,_,_,q⟩:=hs;exact False.elim q
section
variable {x:Str} {t:TA} {id T:String} {r:List V->Hp->VK->Prop}
noncomputable def tCB (r:List V->Hp->VK->Prop) (t:TA):TE:=fun σ H Q=>t σ H fun vs H1=>r vs H1 Q
theorem _J (hc:YJ X (.builtin id) r) (hg:Gl X x) (hm:X.mg x=none) (hv:bootBuiltins x=some (.builtin id)) (ha:PA X (e::es) t) (hn:x≠"__name__":=by decide) (hdb:(x==("__debug__": Str))=false:=by decide)
 (he:starEach (e::es) X.env=(false,eval e X.env)::starEach es X.env:=by rfl) (hpl:(backTo pos (starEach es X.env)).any (·.1)=false:=by rfl):PE X (.Call (.Name x p) (e::es) [] pos) (tCB r t):=by
 intro pins s σ H Q I h;refine RX (Up I hg hm hv ?_ hn hdb);exact PyProof.Rows.callWith_builtin1 (_p (ha pos pins s σ H _ I h) fun us s1 ⟨vs,H1,I1,r1,q1⟩=>hc pins s1 σ H1 vs us Q I1 r1 q1) he hpl
theorem WV (hc:YJ X (.type T) r) (hg:Gl X x) (hm:X.mg x=none) (hv:bootBuiltins x=some (.type T)) (ha:PA X (e::es) t) (hn:x≠"__name__":=by decide) (hdb:(x==("__debug__": Str))=false:=by decide)
 (he:starEach (e::es) X.env=(false,eval e X.env)::starEach es X.env:=by rfl) (hpl:(backTo pos (starEach es X.env)).any (·.1)=false:=by rfl):PE X (.Call (.Name x p) (e::es) [] pos) (tCB r t):=by
 intro pins s σ H Q I h;refine RX (Up I hg hm hv ?_ hn hdb);exact GS (_p (ha pos pins s σ H _ I h) fun us s1 ⟨vs,H1,I1,r1,q1⟩=>hc pins s1 σ H1 vs us Q I1 r1 q1) he hpl
end
end L2
namespace HT
open PySem PyProof.Rows
section
open PySem.SeqAt
open PySem.AutoSeq1 (wpAny_loadPart')
open PySem.MeetsSeq PySem.MeetsSeq2 PySem.MeetsSeq3
end
section
variable {prog:Program} {w:World} {A:Around} {E:Value->Shared->Prop} {s:Shared}
theorem cat_tup {t b:Addr} {vs ws:List Value} {Q:Value->Shared->Prop} (ht:IsTup s.heap t vs.toArray) (hb:IsTup s.heap b ws.toArray) (hv:vs≠[])
  (h1:ws=[]->Q (.ref t) s) (h2:ws≠[]->Q (.ref s.heap.objs.size) { s with heap:=s.heap.push { cls:=.type "tuple",data:=.seq (vs++ws).toArray } })
  (hsz:vs.length+ws.length≤sizeLine):wpAny (model prog w) A (binaryOp .Add (.ref t) (.ref b)) Q E s:=by
 obtain ⟨⟨cls,dd,data,sl⟩,ho,hc,n,hd⟩:=id ht;obtain ⟨⟨cls2,dd2,data2,sl2⟩,ho2,hc2,n2,hd2⟩:=id hb;simp only at hc hd hc2 hd2;subst hc hd hc2 hd2;have e:vs.toArray++ws.toArray=(vs++ws).toArray:=by simp
 by_cases hw:ws=[]
 ·exact concat_meets ⟨_,ho,rfl⟩ ⟨_,ho2,rfl⟩ noFill_tuple_add seq_tuple_add PySem.F.slot_tuple_add NZ (N0 _ _)
   (tuple_addW1 t b vs.toArray ws.toArray n n2 dd dd2 sl sl2 (by simpa using hv) (by simp [hw])) ⟨ho,ho2,h1 hw⟩
 ·refine concat_meets ⟨_,ho,rfl⟩ ⟨_,ho2,rfl⟩ noFill_tuple_add seq_tuple_add PySem.F.slot_tuple_add NZ (N0 _ _)
   (tuple_addW2 t b vs.toArray ws.toArray n n2 dd dd2 sl sl2 (by simpa using hv) (by simpa using hw) (by rw [Qy,Qy];exact hsz)) ⟨ho,ho2,?_⟩
  rw [e];exact h2 hw
noncomputable def sIx (n d:Nat):Option Int->Nat
 |none=>d
 |some v=>if v<0 then (v+(n:Int)).toNat else min v.toNat n
theorem sIx_nat (n d k:Nat):sIx n d (some (k:Int))=min k n:=by
 show (if (k:Int)<0 then ((k:Int)+(n:Int)).toNat else min (k:Int).toNat n)=min k n;rw [Qa (by omega),Gy]
theorem _iY (n d:Nat) (hd:d≤n) (o:Option Int):sIx n d o≤n:=by
 cases o with
 |none=>exact hd
 |some v =>
  show (if v<0 then (v+(n:Int)).toNat else min v.toNat n)≤n;by_cases hv:v<0
  ·rw [Qb hv];omega
  ·rw [Qa hv];exact Nv _ _
theorem _gs (v:Int) (n d:Nat):(if v<0 then max (v+(n:Int)) 0 else min v (n:Int))=((sIx n d (some v):Nat):Int):=by
 show (if v<0 then max (v+(n:Int)) 0 else min v (n:Int))=(((if v<0 then (v+(n:Int)).toNat else min v.toNat n):Nat):Int);by_cases hv:v<0
 ·simp only [Qb hv];omega
 ·simp only [Qa hv];omega
theorem _oA (lo hi:Option Int) (n:Nat):Builtin.Slice.sliceAdjust lo hi 1 (n:Int)=(((sIx n 0 lo:Nat):Int),((sIx n n hi:Nat):Int)):=by
 have h1:¬((1:Int)<0):=by omega
 unfold Builtin.Slice.sliceAdjust;simp only [h1,Q4];refine RS ?_ ?_
 ·cases lo with
  |none=>rfl
  |some v=>exact _gs v n 0
 ·cases hi with
  |none=>rfl
  |some v=>exact _gs v n n
theorem _jO (i j:Nat):Builtin.Slice.slicePlaces (i:Int) (j:Int) 1=j-i:=by
 unfold Builtin.Slice.slicePlaces;have h1:(1:Int) > 0:=by omega
 simp only [h1,Rr,Int.ediv_one];split<;>omega
theorem _fU {v:Value} {o:Option Int} {Q:Option Int->Shared->Prop} (p:IsPart v o) (h:Q o s):wpAny (model prog w) A (Builtin.Slice.slicePartIndex v) Q E s:=by
 cases p with
 |none=>exact slicePart_none h
 |int i t=>exact slicePart_int h
theorem _lX {sl:Addr} {vl vu:Value} {lo hi:Option Int} {n:Nat} {Q:Int×Int×Nat->Shared->Prop} (hs:s.heap.IsSliceOf sl vl vu .none) (pl:IsPart vl lo) (pu:IsPart vu hi)
  (h:Q (((sIx n 0 lo:Nat):Int),1,sIx n n hi-sIx n 0 lo) s):wpAny (model prog w) A (Builtin.Slice.sliceApplied (.ref sl) (pure (n:Int))) Q E s:=by
 obtain ⟨os,hos,hcs,hds⟩:=id hs;unfold Builtin.Slice.sliceApplied Builtin.Slice.sliceFields;refine Qd (Qd (QR hos hds (x:=vl) rfl (Qd (QR hos hds (x:=vu) rfl (Qd (QR hos hds (x:=.none) rfl (Qg ?_)))))));refine Qd (slicePart_none ?_);show wpAny _ _ (if ((1:Int)==0)=true then _ else _) _ _ s;rw [Qa (by decide)];refine Qd (_fU pl (Qd (_fU pu (Qd (Qg ?_)))));show wpAny _ _ (match Builtin.Slice.sliceAdjust lo hi 1 (n:Int) with|(lo,hi)=>pure (lo,(1:Int),Builtin.Slice.slicePlaces lo hi 1)) _ _ s;rw [_oA lo hi n];show wpAny _ _ (pure (((sIx n 0 lo:Nat):Int),(1:Int),Builtin.Slice.slicePlaces ((sIx n 0 lo:Nat):Int) ((sIx n n hi:Nat):Int) 1)) _ _ s;rw [_jO];exact Qg h
theorem _jd (xs:Array Value) (i k:Nat):((List.range k).filterMap fun (m:Nat)=>xs[((i:Int)+(m:Int)*1).toNat]?).toArray=((xs.toList.drop i).take k).toArray:=by
 have e:(fun (m:Nat)=>xs[((i:Int)+(m:Int)*1).toNat]?)=fun m=>xs[i+m]?:=by
  funext m
  have:((i:Int)+(m:Int)*1).toNat=i+m:=by omega
  rw [this]
 rw [e];have:=pick_run xs i k;rw [GX] at this;have e2:((fun x=>xs[x]?)∘fun x=>i+x)=fun m=>xs[i+m]?:=rfl;rw [e2] at this;rw [this]
theorem getItem_tuple_cut {t sl:Addr} {items:Array Value} {vl vu:Value} {lo hi:Option Int} {Q:Value->Shared->Prop} (ht:IsTup s.heap t items) (hs:s.heap.IsSliceOf sl vl vu .none) (pl:IsPart vl lo) (pu:IsPart vu hi)
  (hw:¬(sIx items.size 0 lo=0∧sIx items.size items.size hi=items.size))
  (h:Q (.ref s.heap.objs.size) { s with heap:=s.heap.push { cls:=.type "tuple",data:=.seq ((items.toList.drop (sIx items.size 0 lo)).take (sIx items.size items.size hi-sIx items.size 0 lo)).toArray } })
  (hsz:items.size≤sizeLine):wpAny (model prog w) A (getItem (.ref t) (.ref sl)) Q E s:=by
 have htake:sizeOk (.seq ((items.toList.drop (sIx items.size 0 lo)).take (sIx items.size items.size hi-sIx items.size 0 lo)).toArray):=by
  show ((items.toList.drop (sIx items.size 0 lo)).take (sIx items.size items.size hi-sIx items.size 0 lo)).toArray.size≤sizeLine;rw [Qy,QU,GY,QF];omega
 have hj:sIx items.size items.size hi≤items.size:=_iY _ _ (Qe _) hi;obtain ⟨os,hos,hcs,hds⟩:=id hs;have hTs:s.TypeIs (.ref sl) "slice":=⟨os,hos,hcs⟩;unfold getItem
 try with_reducible refine Q3 ?_
 first|refine Qd (Qg ?_)|skip
 refine Qd (wpAny_sequenceKey ht.typeIs (by decide) ?_)
 refine Qd (RK (name:=Str.ofString "__getitem__") ht.typeIs Nw
  (Rs Nw ht.typeIs entry_tuple_getitem ?_ (args_tuple_getitem _ _)))
 show wpAny _ _ (Builtin.Tuple.tupleItemsOf (.ref t) >>= _) _ _ s;refine Qd (tupleItemsOf_ ht ?_);refine Qd (wpAny_typeOf hTs ?_);rw [Qb (by decide)];refine Qd (_lX hs pl pu ?_)
 have hno:¬((((sIx items.size 0 lo:Nat):Int)==0&&(1:Int)==1&&(sIx items.size items.size hi-sIx items.size 0 lo)==items.size)=true):=by
  intro q;rw [Rl,Rl] at q;have q1:((sIx items.size 0 lo:Nat):Int)=0:=eq_of_beq q.1.1;have q2:sIx items.size items.size hi-sIx items.size 0 lo=items.size:=eq_of_beq q.2;exact hw ⟨by omega,by omega⟩
 show wpAny _ _ (if (((sIx items.size 0 lo:Nat):Int)==0&&(1:Int)==1&&(sIx items.size items.size hi-sIx items.size 0 lo)==items.size)=true then _ else _) _ _ s;rw [Qa hno,_jd]
 first
  |exact Qd (m:=Builtin.Tuple.tupleExact _) (Rc (Qg ⟨_,rfl,Qg h⟩) htake)
  |exact Qd (m:=Builtin.Tuple.tupleExact _) (Rc (Qd (Qg (Qg ⟨_,rfl,Qg h⟩))) htake)
  |exact Qd (Qd (m:=Builtin.Tuple.tupleExact _) (Rc (Qg (Qg ⟨_,rfl,Qg h⟩)) htake))
  |exact Qd (Qd (m:=Builtin.Tuple.tupleExact _) (Rc (Qg ⟨_,rfl,Qg h⟩) htake))
end
end HT
namespace L2
open PySem PySem.Spec PyProof.Rows
variable {a b:Addr} {A:Around} {X:Cx} {e:Expr} {H H':Hp} {pins:List (Addr×Obj)} {xs:List (List _k×Addr×Value)} {kvs:List (List _k×V)} {its:List Value} {n t':Nat} {o:Option V} {pos:Pos} {P:Program} {s:Shared} {σ:St} {T:String} {y:V} {u:Value} {E Q:Value->Shared->Prop}
noncomputable abbrev TO:=St->Hp->(Option Int->Hp->Prop)->Prop
noncomputable def PO (X:Cx) (e:Option Expr) (t:TO):Prop :=
 ∀(pins:List (Addr×Obj)) (s:Shared) (σ:St) (H:Hp) (Q:Option Int->Hp->Prop),Inv X pins σ H s->t σ H Q →
  wpAny (model X.prog X.w) X.A (evalPart e X.env) (fun u s'=>∃o H',Inv X pins σ H' s'∧IsPart u o∧Q o H') X.xe s
noncomputable def U7:TO:=fun _ H Q=>Q none H
noncomputable def _l2 (t:TE):TO:=fun σ H Q=>t σ H fun x H1=>∃i,x=.int i∧Q (some i) H1
section
variable {te:TE} {lo hi:Option Expr} {tl th:TO} {p2:Pos}
theorem VS:PO X none U7:=by
 intro pins s σ H Q I h;rw [evalPart_none];exact Qg ⟨none,H,I,.none,h⟩
theorem WC (h:PE X e te):PO X (some e) (_l2 te):=by
 intro pins s σ H Q I hw;rw [evalPart_some];refine _p (h pins s σ H _ I hw) fun u s1 ⟨x,H1,I1,r1,q1⟩=>?_;obtain ⟨i,rfl,q⟩:=q1;obtain ⟨t,rfl⟩:=r1;exact ⟨some i,H1,I1,.int i t,q⟩
noncomputable def SlR (X:Cx) (r:V->Option Int->Option Int->Hp->VK->Prop):Prop :=
 ∀(pins:List (Addr×Obj)) (s:Shared) (σ:St) (H:Hp) (x:V) (v vl vu:Value) (lo hi:Option Int) (sl:Addr) (Q:VK),Inv X pins σ H s->RelV x v->s.heap.IsSliceOf sl vl vu .none->IsPart vl lo->IsPart vu hi->r x lo hi H Q →
  ∃T id,typeLookup (.type T) "__getitem__"=pure (some (.builtin id))∧s.TypeIs v T∧wpAny (model X.prog X.w) X.A (getItem v (.ref sl)) (EP X pins σ Q) X.xe s
noncomputable def tSl (r:V->Option Int->Option Int->Hp->VK->Prop) (te:TE) (tl th:TO):TE:=fun σ H Q=>te σ H fun x H1=>tl σ H1 fun l H2=>th σ H2 fun u H3=>r x l u H3 Q
theorem WY {r:V->Option Int->Option Int->Hp->VK->Prop} (hr:SlR X r) (he:PE X e te) (hl:PO X lo tl) (hu:PO X hi th):PE X (.Subscript e (.Slice lo hi none p2) pos) (tSl r te tl th):=by
 intro pins s σ H Q I h;refine Subscript_ (_p (he pins s σ H _ I h) fun v s1 ⟨x,H1,I1,r1,q1⟩=>?_);refine wpAny_Slice (_p (hl pins s1 σ H1 _ I1 q1) fun vl s2 ⟨l,H2,I2,pl,q2⟩=>_p (hu pins s2 σ H2 _ I2 q2) fun vu s3 ⟨u,H3,I3,pu,q3⟩=>?_);rw [evalPart_none];refine Qg ?_;have I4:Inv X pins σ H3 { s3 with heap:=s3.heap.push { cls:=.type "slice",data:=.fields #[vl,vu,.none] } }:=I3.kept (t':=s3.toks) fun b ob q=>Qq _ q;obtain ⟨T,id,hT,ht,hg⟩:=hr pins { s3 with heap:=s3.heap.push { cls:=.type "slice",data:=.fields #[vl,vu,.none] } } σ H3 x v vl vu l u s3.heap.objs.size Q I4 r1 (Heap.IsSliceOf.new ..) pl pu q3;show wpAny (model X.prog X.w) X.A (subscriptTail e (.Slice lo hi none p2) v (.ref s3.heap.objs.size)) (EP X pins σ Q) X.xe { s3 with heap:=s3.heap.push { cls:=.type "slice",data:=.fields #[vl,vu,.none] } };exact tail_any (ops:=[.ref s3.heap.objs.size,v]) ht hT hg (by with_unfolding_all rfl)
noncomputable def VX (xs:List V) (lo hi:Option Int):List V:=(xs.drop (HT.sIx xs.length 0 lo)).take (HT.sIx xs.length xs.length hi-HT.sIx xs.length 0 lo)
theorem _oU (xs:List V) (lo hi:Option Int):(VX xs lo hi).length≤xs.length:=by
 unfold VX;rw [QU,GY];omega
noncomputable def _e1 (K:W.Frag):V->Option Int->Option Int->Hp->VK->Prop:=fun x lo hi H Q=>∃a xs,x=.ref a∧SqT K H a xs ∧
 ¬(HT.sIx xs.length 0 lo=0∧HT.sIx xs.length xs.length hi=xs.length)∧∀p,H p=none->Q (.ref p) (_b H p (.tup (VX xs lo hi)))
theorem J1:SlR X (_e1 X.K):=by
 intro pins s σ H x v vl vu lo hi sl Q I rx hs pl pu h;obtain ⟨a,xs,rfl,hx,hw,q⟩:=h;cases rx;obtain ⟨its,r,ht,hz⟩:=I.tuple hx;have hlen:its.toArray.size=xs.length:=by rw [Qy];exact r.length.symm
 refine ⟨"tuple",_,Nw.lookup,ht.typeIs,?_⟩;refine HT.getItem_tuple_cut ht hs pl pu (by rw [hlen];exact hw) ?_ (by rw [hlen];exact hz);rw [hlen];refine ⟨.ref s.heap.objs.size,_,I.laid (t':=s.toks) (o:=.tup (VX xs lo hi)) (fun b ob q=>Qq _ q) (Qe _) ?_,rfl,q _ (I.hok.fresh (Qe _))⟩;exact ⟨Qj (_oU xs lo hi) hz,_,(r.drop (HT.sIx xs.length 0 lo)).take (HT.sIx xs.length xs.length hi-HT.sIx xs.length 0 lo),IsTup.new _ _⟩
noncomputable def _ns (K:W.Frag):R2:=fun x y H Q=>∃a b xs ys,x=.ref a∧y=.ref b∧SqT K H a xs∧SqT K H b ys∧xs≠[]∧xs.length+ys.length≤sizeLine ∧
 (ys=[]->Q (.ref a) H)∧(ys≠[]->∀p,H p=none->Q (.ref p) (_b H p (.tup (xs++ys))))
theorem Vals.nil_iff {xs:List V} {us:List Value} (r:Vals xs us):us=[]↔xs=[]:=by
 cases r with
 |nil=>simp
 |cons _ _=>simp
theorem _iB:Yi X (binaryOp .Add) (_ns X.K):=by
 intro pins s σ H x y v u Q I rx ry h;obtain ⟨a,b,xs,ys,rfl,rfl,ha,hb,hx,hz,q1,q2⟩:=h;cases rx;cases ry;obtain ⟨its,r1,p1,_⟩:=I.tuple ha;obtain ⟨its2,r2,p2,_⟩:=I.tuple hb;refine HT.cat_tup p1 p2 (fun z=>hx (r1.nil_iff.mp z)) (fun z=>⟨.ref a,H,I,rfl,q1 (r2.nil_iff.mp z)⟩) (fun z=>?_) (by rw [←r1.length,←r2.length];exact hz);refine ⟨.ref s.heap.objs.size,_,I.laid (t':=s.toks) (o:=.tup (xs++ys)) (fun b ob q=>Qq _ q) (Qe _) ?_,rfl,q2 (fun w=>z (r2.nil_iff.mpr w)) _ (I.hok.fresh (Qe _))⟩;exact ⟨by rw [Qx];exact hz,_,r1.append r2,IsTup.new _ _⟩
end
noncomputable def WK (n:Nat) (i:Int):Option Nat:=if 0≤i then (if i<n then some i.toNat else none) else if -(n:Int)≤i then some (i+n).toNat else none
noncomputable def _6 {α:Type} (xs:List α) (i:Int):Option α:=(WK xs.length i).bind fun j=>xs[j]?
theorem _dw {i:Int} {j:Nat} (h:WK n i=some j):seqIndex? i n=some j∧j<n∧-(n:Int)≤i∧i<n:=by
 unfold WK at h;by_cases h0:0≤i
 ·rw [Qb h0] at h;by_cases h1:i<n
  ·rw [Qb h1] at h;have e:i.toNat=j:=Ql h;exact ⟨by rw [seqIndex_of h0 h1,e],by omega,by omega,h1⟩
  ·rw [Qa h1] at h;cases h
 ·rw [Qa h0] at h;by_cases h1:-(n:Int)≤i
  ·rw [Qb h1] at h;have e:(i+n).toNat=j:=Ql h;exact ⟨by rw [seqIndex_neg (by omega) h1,e],by omega,h1,by omega⟩
  ·rw [Qa h1] at h;cases h
theorem _bI {α:Type} {xs:List α} {i:Int} {v:α} (h:_6 xs i=some v):∃j,seqIndex? i xs.length=some j∧xs[j]?=some v∧j<xs.length∧-(xs.length:Int)≤i∧i<xs.length:=by
 unfold _6 at h;cases e:WK xs.length i with
 |none=>rw [e] at h;cases h
 |some j =>
  rw [e] at h;obtain ⟨h1,h2,h3,h4⟩:=_dw e;exact ⟨j,h1,h,h2,h3,h4⟩
theorem YB {α:Type} {xs:List α} {j:Nat} {v:α} (h:xs[j]?=some v):_6 xs (j:Int)=some v:=by
 have hj:j<xs.length:=(QB.mp h).1
 have e:WK xs.length (j:Int)=some j:=by
  unfold WK;rw [Qb (by omega),Qb (by omega)];simp
 unfold _6;rw [e];exact h
theorem Vc {α:Type} (xs:List α) (v:α):_6 (xs++[v]) (-1)=some v:=by
 have hl:(xs++[v]).length=xs.length+1:=by simp
 have e:WK (xs++[v]).length (-1)=some xs.length:=by
  unfold WK;rw [hl,Qa (by decide),Qb (by omega)]
  congr 1
  omega
 unfold _6;rw [e];show (xs++[v])[xs.length]?=some v;simp
noncomputable def _p0 (b:Expr):Prop:=∀o i,subscripted b false o i=operate [o,i] (getItem o i)
noncomputable def VZ (X:Cx) (r:R2):Prop :=
 ∀(value slice:Expr) (pins:List (Addr×Obj)) (s:Shared) (σ:St) (H:Hp) (x y:V) (v u:Value) (Q:VK),Inv X pins σ H s->RelV x v->RelV y u->r x y H Q →
  subscripted slice false v u=operate [v,u] (getItem v u)->wpAny (model X.prog X.w) X.A (subscriptTail value slice v u) (EP X pins σ Q) X.xe s
noncomputable def Wd (X:Cx) (id:String) (r:V->List V->Hp->VK->Prop):Prop :=
 ∀(pins:List (Addr×Obj)) (s:Shared) (σ:St) (H:Hp) (x:V) (xs:List V) (v:Value) (us:List Value) (Q:VK),Inv X pins σ H s->RelV x v->Vals xs us->r x xs H Q →
  wpAny (model X.prog X.w) X.A (call (.builtin id) (v::us)) (EP X pins σ Q) X.xe s
section
variable {a b:Expr} {ta tb:TE}
theorem _m {r:R2} (hr:VZ X r) (ha:PE X a ta) (hb:PE X b tb) (hs:_p0 b):PE X (.Subscript a b pos) (tOp r ta tb):=by
 intro pins s σ H Q I h;exact Subscript_ (_a1 ha hb I h fun v u s2 x y H2 I2 rx ry q=>hr a b pins s2 σ H2 x y v u Q I2 rx ry q (hs _ _))
noncomputable def _gk (K:W.Frag):R2:=fun x y H Q=>∃p xs i v,x=.ref p∧y=.int i∧SqL K H p xs∧_6 xs i=some v∧Q v H
noncomputable def _ej (K:W.Frag):R2:=fun x y H Q=>∃p xs i v,x=.ref p∧y=.int i∧SqT K H p xs∧_6 xs i=some v∧Q v H
noncomputable def _op:R2:=fun x y H Q=>∃z i c,x=.str z∧y=.int i∧z.length≤sizeLine∧_6 z.cps.toList i=some c∧Q (.str ⟨#[c]⟩) H
theorem Ye:VZ X (_gk X.K):=by
 intro value slice pins s σ H x y v u Q I rx ry h hs;obtain ⟨p,xs,i,z,rfl,rfl,hq,he,q⟩:=h;cases rx;obtain ⟨t,rfl⟩:=ry;obtain ⟨its,r,pl,hz⟩:=I.list hq;obtain ⟨j,h1,h2,h3,h4,h5⟩:=_bI he;obtain ⟨w,ew,rw'⟩:=r.get h2;have hl:=r.length;have hn:=Uf;have fin:EP X pins σ Q w s:=⟨z,H,I,rw',q⟩;by_cases h0:0≤i
 ·have hj:i.toNat=j:=by
   rw [seqIndex_of h0 h5] at h1;exact Ql h1
  exact item_listR pl.isList h0 (by omega) (by rw [hj];simpa using ew) fin hs
 ·have hj:(i+(its.toArray.size:Int)).toNat=j:=by
   rw [seqIndex_neg (by omega) h4] at h1;rw [Qy,←hl];exact Ql h1
  exact subscriptTail_builtinR (x:=w) pl.isList.typeIs slot_list_getitem.lookup
   (wpAny_getItem_list_neg (Q:=fun r s'=>r=w∧EP X pins σ Q r s') pl.isList (by omega) (by rw [Qy]<;>omega) (by omega) (by rw [hj];simpa using ew) ⟨rfl,fin⟩) hs
theorem _o:VZ X (_ej X.K):=by
 intro value slice pins s σ H x y v u Q I rx ry h hs;obtain ⟨p,xs,i,z,rfl,rfl,hq,he,q⟩:=h;cases rx;obtain ⟨t,rfl⟩:=ry;obtain ⟨its,r,pl,hz⟩:=I.tuple hq;obtain ⟨j,h1,h2,h3,h4,h5⟩:=_bI he;obtain ⟨w,ew,rw'⟩:=r.get h2;have hl:=r.length;have hn:=Uf;have fin:EP X pins σ Q w s:=⟨z,H,I,rw',q⟩
 exact subscriptTail_builtinR (x:=w) pl.typeIs slot_tuple_getitem.lookup
  (getItem_tuple (j:=j) (Q:=fun r s'=>r=w∧EP X pins σ Q r s') pl (by omega) (by omega) (by rw [Qy,←hl];exact h1) (by simpa using ew) ⟨rfl,fin⟩) hs
theorem _bx:VZ X _op:=by
 intro value slice pins s σ H x y v u Q I rx ry h hs;obtain ⟨z,i,c,rfl,rfl,hz,he,q⟩:=h;obtain ⟨t,rfl⟩:=rx;obtain ⟨t',rfl⟩:=ry;obtain ⟨j,h1,h2,h3,h4,h5⟩:=_bI he;have hl:z.cps.toList.length=z.length:=by simp [Str.length]
 rw [hl] at h1 h4 h5;have hn:=Uf
 exact tail_any (R7 s z t) slot_str_getitem.lookup (getItem_str (c:=c) (by
  have e1:decide (i< -(2 ^ 63:Int))=false:=Qn (by omega);have e2:decide (i ≥ 2 ^ 63)=false:=Qn (by omega);rw [e1,e2,Bool.or_false]) (by rw [h1];simpa using h2) ⟨.str ⟨#[c]⟩,H,I.tok _,⟨_,rfl⟩,q⟩) hs
theorem _k0 (its:List Value) (n j:Nat) (u:Value):Obj.mapSeq (·.setIfInBounds j u) { cls:=.type "list",data:=.seq its.toArray n }={ cls:=.type "list",data:=.seq (its.set j u).toArray n }:=by
 simp [Obj.mapSeq]
theorem Inv.lst {p:Addr} {xs:List V} (I:Inv X pins σ H s) (h:H p=some (.lst xs)) :
  ∃(its:List Value) (n:Nat),Vals xs its∧s.heap.get? p=some { cls:=.type "list",data:=.seq its.toArray n }∧xs.length≤sizeLine:=by
 obtain ⟨z,its,n,r,e⟩:=I.hok p _ h;exact ⟨its,n,r,e,z⟩
theorem Inv.lstUpd {p:Addr} {xs ys:List V} {its':List Value} {n':Nat} {f:Obj->Obj} (I:Inv X pins σ H s) (h:H p=some (.lst xs))
 (ho:s.heap.get? p=some { cls:=.type "list",data:=.seq its.toArray n }) (hf:f { cls:=.type "list",data:=.seq its.toArray n }={ cls:=.type "list",data:=.seq its'.toArray n' }) (r:Vals ys its') (hz:ys.length≤sizeLine) (t:Nat) :
  Inv X pins σ (_b H p (.lst ys)) { s with heap:=s.heap.update p f,toks:=t }:=by
 have e:(s.heap.update p f).get? p=some { cls:=.type "list",data:=.seq its'.toArray n' }:=by
  rw [Ny f ho (by rw [hf]<;>rfl),hf]
 refine I.write (x:=p) (e:=p) (by rw [h];trivial) (.inl rfl) (fun b u hb q=>(Heap.get?_update_other _ _ (QY hb)).trans q) ⟨_,e⟩ ?_;exact ⟨hz,its',n',r,e⟩
noncomputable def _mZ:V->V->V->Hp->(Hp->Prop)->Prop:=fun o i v H Q=>∃p xs k j,o=.ref p∧i=.int k∧H p=some (.lst xs)∧WK xs.length k=some j∧Q (_b H p (.lst (xs.set j v)))
theorem _ll:_gr X _mZ:=by
 intro pins s σ H o i v ov iv u Q I ro ri rv h;obtain ⟨p,xs,k,j,rfl,rfl,hp,hj,q⟩:=h;cases ro;obtain ⟨t,rfl⟩:=ri;obtain ⟨its,n,r,ho,hz⟩:=I.lst hp;obtain ⟨h1,h2,h3,h4⟩:=_dw hj;have hl:=r.length;have hn:=Uf
 have I':Inv X pins σ (_b H p (.lst (xs.set j v))) { s with heap:=s.heap.update p (Obj.mapSeq (·.setIfInBounds j u)) } :=
  I.lstUpd hp ho (_k0 its n j u) (r.set rv j) (by rw [List.length_set];exact hz) s.toks
 by_cases h0:0≤k
 ·have hk:k.toNat=j:=by
   rw [seqIndex_of h0 h4] at h1;exact Ql h1
  exact W.ki_setAt ho h0 (by omega) (by rw [Qy,←hl];exact h4) (by rw [hk];exact ⟨_,I',q⟩)
 ·have hk:(k+(its.toArray.size:Int)).toNat=j:=by
   rw [seqIndex_neg (by omega) h3] at h1;rw [Qy,←hl];exact Ql h1
  exact W.ki_setBack ho (by omega) (by rw [Qy,←hl];exact h3) (by omega) (by rw [hk];exact ⟨_,I',q⟩)
noncomputable def Vb:V->Bool
 |.non=>true
 |.bl _=>true
 |.int _=>true
 |.str _=>true
 |_=>false
noncomputable def Yw:V->V->Bool
 |.non,.non=>true
 |.bl a,.bl b=>a==b
 |.bl a,.int b=>(if a then 1 else 0)==b
 |.int a,.bl b=>a==(if b then 1 else 0)
 |.int a,.int b=>a==b
 |.str a,.str b=>a==b
 |_,_=>false
theorem _f0 {x:V} {v:Value} (ry:RelV y u) (rx:RelV x v) (fy:Vb y=true) (fx:Vb x=true):SeqAt.EqAt A s u v (Yw y x):=by
 cases y with
 |non =>
  cases ry;cases x with
  |non=>cases rx;exact SeqAt.EqAt.same _
  |bl b=>cases rx;exact SeqAt.EqAt.none_bool b
  |int b=>obtain ⟨t,rfl⟩:=rx;exact SeqAt.EqAt.none_int b t
  |str b=>obtain ⟨t,rfl⟩:=rx;exact SeqAt.EqAt.none_str b t
  |_=>exact absurd (show false=true from fx) QI
 |bl a =>
  cases ry;cases x with
  |non=>cases rx;exact SeqAt.EqAt.bool_none a
  |bl b=>cases rx;exact SeqAt.EqAt.bool_bool a b
  |int b=>obtain ⟨t,rfl⟩:=rx;exact SeqAt.EqAt.bool_int a b t
  |str b=>obtain ⟨t,rfl⟩:=rx;exact SeqAt.EqAt.bool_str a b t
  |_=>exact absurd (show false=true from fx) QI
 |int a =>
  obtain ⟨t',rfl⟩:=ry;cases x with
  |non=>cases rx;exact SeqAt.EqAt.int_none a t'
  |bl b=>cases rx;exact SeqAt.EqAt.int_bool a t' b
  |int b=>obtain ⟨t,rfl⟩:=rx;exact SeqAt.EqAt.int_int a t' b t
  |str b=>obtain ⟨t,rfl⟩:=rx;exact SeqAt.EqAt.int_str a t' b t
  |_=>exact absurd (show false=true from fx) QI
 |str a =>
  obtain ⟨t',rfl⟩:=ry;cases x with
  |non=>cases rx;exact SeqAt.EqAt.str_none a t'
  |bl b=>cases rx;exact SeqAt.EqAt.str_bool a t' b
  |int b=>obtain ⟨t,rfl⟩:=rx;exact SeqAt.EqAt.str_int a t' b t
  |str b=>obtain ⟨t,rfl⟩:=rx;exact SeqAt.EqAt.str_str a t' b t
  |_=>exact absurd (show false=true from fx) QI
 |_=>exact absurd (show false=true from fy) QI
noncomputable def WA (x:V) (u:Value):Bool:=match u with
 |.none=>Yw .non x
 |.bool b=>Yw (.bl b) x
 |.int i _=>Yw (.int i) x
 |.str z _=>Yw (.str z) x
 |_=>false
theorem _dM {x:V} (r:RelV y u) (f:Vb y=true):WA x u=Yw y x:=by
 cases y with
 |non=>cases r;rfl
 |bl b=>cases r;rfl
 |int i=>obtain ⟨t,rfl⟩:=r;rfl
 |str z=>obtain ⟨t,rfl⟩:=r;rfl
 |_=>exact absurd (show false=true from f) QI
theorem _bz {x:V}:∀{xs:List V} {us:List Value},Vals xs us->xs.all Vb=true->us.any (WA x)=xs.any fun y=>Yw y x
 |_,_,.nil,_=>rfl
 |y::xs,u::us,.cons r t,f=>by
  rw [GZ,Rl] at f;rw [Rm,Rm,_dM r f.1,_bz t f.2]
theorem _aS {A:Around} {s:Shared} {x:V} {v:Value} (rx:RelV x v) (fx:Vb x=true):∀{xs:List V} {us:List Value},Vals xs us->xs.all Vb=true->∀u∈us,SeqAt.EqAt A s u v (WA x u)
 |_,_,.nil,_=>fun u hu=>by cases hu
 |y::xs,u::us,.cons r t,f=>fun u' hu=>by
  rw [GZ,Rl] at f;rcases Qo.mp hu with rfl|hu
  ·rw [_dM r f.1];exact _f0 r rx f.1 fx
  ·exact _aS rx fx t f.2 u' hu
noncomputable def X4 (x:V) (xs:List V):Bool:=xs.any fun y=>Yw y x
noncomputable def rIn (K:W.Frag) (neg:Bool):R2:=fun x y H Q=>∃p xs,y=.ref p∧(SqL K H p xs∨SqT K H p xs)∧Vb x=true∧xs.all Vb=true∧Q (.bl (if neg then !X4 x xs else X4 x xs)) H
theorem Us:Yi X (compareOp .In) (rIn X.K false):=by
 intro pins s σ H x y v u Q I rx ry h;obtain ⟨p,xs,rfl,hq,fx,fs,q⟩:=h;cases ry;rcases hq with hq|hq
 ·obtain ⟨its,r,pl,hz⟩:=I.list hq;refine SeqAt.in_listAt (WA x) pl.isList (fun w hw=>_aS rx fx r fs w (by simpa using hw)) ⟨.bl _,H,I,rfl,?_⟩;rw [show its.toArray.any (WA x)=its.any (WA x) by simp,_bz r fs];exact q
 ·obtain ⟨its,r,pl,hz⟩:=I.tuple hq;refine SeqAt.in_tupleAt (WA x) pl (fun w hw=>_aS rx fx r fs w (by simpa using hw)) ⟨.bl _,H,I,rfl,?_⟩;rw [show its.toArray.any (WA x)=its.any (WA x) by simp,_bz r fs];exact q
theorem Ys:YJ X (.builtin "len") (fun xs H Q=>∃p ys,xs=[.ref p]∧(SqL X.K H p ys∨SqT X.K H p ys)∧Q (.int ys.length) H):=by
 intro pins s σ H xs us Q I r h;obtain ⟨p,ys,rfl,hq,q⟩:=h;obtain ⟨u,rfl,rx⟩:=YX r;cases rx;have hn:=Uf;rcases hq with hq|hq
 ·obtain ⟨its,r',pl,hz⟩:=I.list hq;have hlen:=r'.length;exact Calls.call_len_list pl.isList (by simp only [Qy]<;>omega) ⟨.int ys.length,H,I.tok _,⟨s.toks+1,by rw [Qy,hlen]⟩,q⟩
 ·obtain ⟨its,r',pl,hz⟩:=I.tuple hq;have hlen:=r'.length;exact len_tuple pl (by simp only [Qy]<;>omega) ⟨.int ys.length,H,I.tok _,⟨s.toks+1,by rw [Qy,hlen]⟩,q⟩
theorem _eJ:YJ X (.builtin "len") (fun xs H Q=>∃z,xs=[.str z]∧z.length≤sizeLine∧Q (.int z.length) H):=by
 intro pins s σ H xs us Q I r h;obtain ⟨z,rfl,hz,q⟩:=h;obtain ⟨u,rfl,t,rfl⟩:=YX r;have hn:=Uf;exact len_str (by omega) ⟨.int z.length,H,I.tok _,⟨_,rfl⟩,q⟩
theorem _ck:YJ X (.type "list") (fun xs H Q=>∃p ys,xs=[.ref p]∧(SqL X.K H p ys∨SqT X.K H p ys)∧∀l,H l=none->Q (.ref l) (_b H l (.lst ys))):=by
 intro pins s σ H xs us Q I r h;obtain ⟨p,ys,rfl,hq,q⟩:=h;obtain ⟨u,rfl,rx⟩:=YX r;cases rx
 have fin : ∀(its : List Value), Vals ys its → ys.length ≤ sizeLine → ∀(h' : Heap) (c' : Nat), (∀b o', s.heap.get? b=some o' → h'.get? b=some o') →
   h'.get? s.heap.objs.size=some { cls:=.type "list",dict:=none,data:=.seq its.toArray c',slots:=#[] }->EP X pins σ Q (.ref s.heap.objs.size) { s with heap:=h' }:=fun its r' hz h' c' kp e =>
  ⟨.ref s.heap.objs.size,_,I.laid (t':=s.toks) kp (Qe _) (show ObjOk X.prog X.w _ h' _ (.lst ys) from ⟨hz,its,c',r',e⟩),rfl,q _ (I.hok.fresh (Qe _))⟩
 rcases hq with hq|hq
 ·obtain ⟨its,r',pl,hz⟩:=I.list hq;have hlen:=r'.length;obtain ⟨o,ho,hc,n,hd⟩:=pl.isList;exact call_list_seq p (.inl rfl) ho hc hd (fun h' c' kp e=>fin its r' hz h' c' kp e) (by simp only [Qy]<;>omega)
 ·obtain ⟨its,r',pl,hz⟩:=I.tuple hq;have hlen:=r'.length;obtain ⟨o,ho,hc,n,hd⟩:=pl;exact call_list_seq p (.inr rfl) ho hc hd (fun h' c' kp e=>fin its r' hz h' c' kp e) (by simp only [Qy]<;>omega)
theorem _pJ:YJ X (.type "tuple") (fun xs H Q=>∃p ys,xs=[.ref p]∧((SqL X.K H p ys∧∀l,H l=none->Q (.ref l) (_b H l (.tup ys)))∨(SqT X.K H p ys∧Q (.ref p) H))):=by
 intro pins s σ H xs us Q I r h;obtain ⟨p,ys,rfl,h⟩:=h;obtain ⟨u,rfl,rx⟩:=YX r;cases rx;rcases h with ⟨hq,q⟩|⟨hq,q⟩
 ·obtain ⟨its,r',pl,hz⟩:=I.list hq;have hlen:=r'.length;refine call_tuple_list pl.isList (fun h' kp=>?_) (by simp only [Qy]<;>omega);have I1:Inv X pins σ H { s with heap:=h' }:=I.kept (t':=s.toks) kp
  have I2:Inv X pins σ (_b H h'.objs.size (.tup ys)) { s with heap:=h'.push { cls:=.type "tuple",data:=.seq its.toArray } } :=
   I1.laid (t':=s.toks) (fun b o e=>Qq _ e) (Qe _) (show ObjOk X.prog X.w _ _ _ (.tup ys) from ⟨hz,its,r',IsTup.new _ _⟩)
  exact ⟨.ref h'.objs.size,_,I2,rfl,q _ (I1.hok.fresh (Qe _))⟩
 ·obtain ⟨its,r',pl,hz⟩:=I.tuple hq;exact call_tuple_same pl ⟨.ref p,H,I,rfl,q⟩
noncomputable def tyV (K:W.Frag) (T:String) (x:V) (H:Hp):Prop:=match x with
 |.str _=>T="str"
 |.int _=>T="int"
 |.ref p => (T="list" ∧ ∃xs, SqL K H p xs) ∨ (T="tuple" ∧ ∃o, K.lookup p=some o ∧ o.cls=.type "tuple" ∧ o.dict=none) ∨
   (T="dict"∧((∃kvs,H p=some (.dK kvs))∨∃kvs,H p=some (.dT kvs)))∨(T="set"∧∃S n,H p=some (.set S n))
 |_=>False
theorem _cx {x:V} {v:Value} (I:Inv X pins σ H s) (r:RelV x v) (ty:tyV X.K T x H) :
  s.TypeIs v T∧∀a,v=.ref a->∃ob,s.heap.get? a=some ob∧ob.dict=none:=by
 cases x with
 |str z =>
  obtain ⟨t,rfl⟩:=r;cases (show T="str" from ty);exact ⟨R7 s z t,fun _ e=>nomatch e⟩
 |int i =>
  obtain ⟨t,rfl⟩:=r;cases (show T="int" from ty);exact ⟨typeIs_int s i t,fun _ e=>nomatch e⟩
 |ref p =>
  cases r;rcases ty with ⟨rfl,xs,hq⟩|⟨rfl,o,hk,hc,hd⟩|⟨rfl,hk⟩|⟨rfl,S,n,hk⟩
  ·obtain ⟨its,_,pl,_⟩:=I.list hq;refine ⟨pl.isList.typeIs,fun a e=>?_⟩;cases e;obtain ⟨o,n,e,c,hd,_⟩:=pl;exact ⟨o,e,hd⟩
  ·refine ⟨⟨o,I.kIn p o hk,hc⟩,fun a e=>?_⟩;cases e;exact ⟨o,I.kIn _ o hk,hd⟩
  ·have z:∃o,s.heap.get? p=some o∧o.ExactDict:=by
    rcases hk with ⟨kvs,hk⟩|⟨kvs,hk⟩
    ·obtain ⟨_,_,_,_,o,_,_,e,ex,_⟩:=I.hok p _ hk;exact ⟨o,e,ex⟩
    ·obtain ⟨_,_,_,_,o,_,_,e,ex,_⟩:=I.hok p _ hk;exact ⟨o,e,ex⟩
   obtain ⟨o,e,ex⟩:=z;refine ⟨⟨o,e,ex.1⟩,fun a e2=>?_⟩;cases e2;exact ⟨o,e,ex.2.1⟩
  ·obtain ⟨o,_,_,_,e,ex,_⟩:=I.hok p _ hk;refine ⟨⟨o,e,ex.1⟩,fun a e2=>?_⟩;cases e2;exact ⟨o,e,ex.2.1⟩
 |_=>exact False.elim ty
noncomputable def _c8 (K:W.Frag) (T:String) (r:V->List V->Hp->VK->Prop) (to:TE):TE:=fun σ H Q=>to σ H fun x H1=>tyV K T x H1∧r x [] H1 Q
noncomputable def tBM (K:W.Frag) (T:String) (r:V->List V->Hp->VK->Prop) (to:TE) (t:TA):TE:=fun σ H Q=>to σ H fun x H1=>tyV K T x H1∧t σ H1 fun xs H2=>r x xs H2 Q
variable {o:Expr} {es:List Expr} {to:TE} {t:TA} {name:Str} {apos cpos:Pos} {id:String} {r:V->List V->Hp->VK->Prop}
theorem _cS (pa:PlainAttrs T) (slot:Slot T name id) (hty:typeOf (.builtin id)=pure (.type "method_descriptor")) (hm:Wd X id r) (ho:PE X o to)
 (hbase:attributeBase o name X.env (eval o X.env)=eval o X.env:=by rfl) (hline:(apos.endLine==cpos.line)=true:=by rfl):PE X (.Call (.Attribute o name apos) [] [] cpos) (_c8 X.K T r to):=by
 intro pins s σ H Q I h;refine wpAny_Call_method0_late hbase hline (_p (ho pins s σ H _ I h) fun v s1 ⟨x,H1,I1,r1,ty,q1⟩=>?_);obtain ⟨h1,h2⟩:=_cx I1 r1 ty;exact ⟨T,id,pa,slot,hty,h1,h2,Gz rfl (PySem.evalArgs_none (hm pins s1 σ H1 x [] v [] Q I1 r1 .nil q1))⟩
theorem Y3 (pa:PlainAttrs T) (slot:Slot T name id) (hty:typeOf (.builtin id)=pure (.type "method_descriptor")) (hm:Wd X id r) (ho:PE X o to) (ha:PA X (e::es) t)
 (hbase:attributeBase o name X.env (eval o X.env)=eval o X.env:=by rfl)
 (hfew:((backTo cpos (starEach (e::es) X.env)).all (fun x=>!x.1)&&(backToKw cpos (keywordEach [] X.env)).all (fun x=>x.1.isSome)
 && decide ((e::es).length+([]:List Keyword).length+(if ([]:List Keyword).isEmpty then 0 else 1)<30))=true:=by rfl)
 (hline:(apos.endLine==cpos.line)=true:=by rfl) (hs:starEach (e::es) X.env=(false,eval e X.env)::starEach es X.env:=by rfl) (hplain:(backTo cpos (starEach es X.env)).any (·.1)=false:=by rfl) :
  PE X (.Call (.Attribute o name apos) (e::es) [] cpos) (tBM X.K T r to t):=by
 intro pins s σ H Q I h;refine wpAny_Call_method_late hbase hfew hline rfl (_p (ho pins s σ H _ I h) fun v s1 ⟨x,H1,I1,r1,ty,q1⟩=>?_);obtain ⟨h1,h2⟩:=_cx I1 r1 ty;refine ⟨T,id,pa,slot,hty,h1,h2,?_⟩;have hA:=ha cpos pins s1 σ H1 _ I1 q1;rw [hs] at hA ⊢;refine Gz (by show (false||(backTo cpos (starEach es X.env)).any (·.1))=false;rw [hplain]<;>rfl) (G0 ?_);exact _p hA fun us s2 ⟨vs,H2,I2,r2,q2⟩=>hm pins s2 σ H2 x vs v us Q I2 r1 r2 q2
/- xs.append(e),list.index on a module's tuple .. are Wd facts of 06m -/
end
noncomputable def MtM (X:Cx) (id:String) (r:V->List V->Hp->VK->Prop):Prop :=
 ∀(pins:List (Addr×Obj)) (s:Shared) (σ:St) (H:Hp) (x:V) (xs:List V) (v:Value) (us:List Value) (Q:VK),Inv X pins σ H s->RelV x v->Vals xs us->r x xs H Q →
  wpAny (model X.prog X.w) X.A (call (.builtin id) (v::us)) (EP X pins σ Q) X.xe s
theorem Vals.one:∀{x:V} {us:List Value},Vals [x] us->∃u,us=[u]∧RelV x u
 |_,_,.cons r .nil=>⟨_,rfl,r⟩
theorem Vals.zero:∀{us:List Value},Vals [] us->us=[]
 |_,.nil=>rfl
theorem Vals.dropLast {xs:List V} {us:List Value} (h:Vals xs us):Vals xs.dropLast us.dropLast:=by
 induction h with
 |nil=>exact .nil
 |cons r t ih =>
  cases t with
  |nil=>exact .nil
  |cons q t'=>exact .cons r ih
theorem _oB {α:Type} (l:List α):l.eraseIdx (l.length-1)=l.dropLast:=by
 induction l with
 |nil=>rfl
 |cons a r ih =>
  cases r with
  |nil=>rfl
  |cons b r =>
   have e:(a::b::r).length-1=((b::r).length-1)+1:=by
    have h1:(a::b::r).length=r.length+2:=rfl;have h2:(b::r).length=r.length+1:=rfl;omega
   rw [e,List.eraseIdx_cons_succ,ih]
   all_goals rfl
section
variable {l:Addr} {xs ys zs:List V}
theorem Inv.lset {its':List Value} {f:Array Value->Array Value} (I:Inv X pins σ H s) (hH:H l=some (.lst xs))
 (e:s.heap.get? l=some { cls:=.type "list",data:=.seq its.toArray n }) (hf:f its.toArray=its'.toArray) (hv:Vals ys its') (hz:ys.length≤sizeLine) :
  Inv X pins σ (_b H l (.lst ys)) { s with heap:=s.heap.update l (Obj.mapSeq f),toks:=t' }:=by
 have q:=PySem.IsL.update e f;rw [hf] at q;refine I.write (x:=l) (e:=l) (by rw [hH];exact trivial) (.inl rfl) (fun b' u hb hu=>(Heap.get?_update_other s.heap (Obj.mapSeq f) (QY hb)).trans hu) ⟨_,q⟩ ?_;exact ⟨hz,its',_,hv,q⟩
theorem Inv.lnew (I:Inv X pins σ H s) (hv:Vals ys its) (hz:ys.length≤sizeLine) :
  Inv X pins σ (_b H s.heap.objs.size (.lst ys)) { s with heap:=s.heap.push { cls:=.type "list",data:=.seq its.toArray },toks:=t' } :=
 I.laid (fun _ _ q=>Qq _ q) (Qe _) ⟨hz,its,0,hv,Qw _ rfl⟩
theorem Inv.fresh (I:Inv X pins σ H s):H s.heap.objs.size=none:=I.hok.fresh (Qe _)
theorem Inv.lstM (I:Inv X pins σ H s) (hH:H l=some (.lst xs)):xs.length≤sizeLine∧∃(its:List Value) (n:Nat),Vals xs its∧xs.length=its.length∧s.heap.get? l=some { cls:=.type "list",data:=.seq its.toArray n }:=by
 obtain ⟨z,its,n,r,e⟩:=I.hok l _ hH;exact ⟨z,its,n,r,r.length,e⟩
end
noncomputable def _ok:V->List V->Hp->VK->Prop:=fun x vs H Q=>∃l xs y,x=.ref l∧vs=[y]∧H l=some (.lst xs)∧xs.length<sizeLine∧Q .non (_b H l (.lst (xs++[y])))
theorem XZ:MtM X "list.append" _ok:=by
 intro pins s σ H x vs v us Q I rx rv h;obtain ⟨l,xs,y,rfl,rfl,hH,hz,q⟩:=h;cases rx;obtain ⟨u,rfl,ru⟩:=rv.one;obtain ⟨z,its,n,r,hl,e⟩:=I.lstM hH;refine Ry F.slot_list_append ⟨_,e,rfl⟩ F.entry_list_append (F.args_list_append_2 _ _) (PySem.list_append l its.toArray n u (by rw [Qy];omega)) ⟨e,?_⟩;refine ⟨.non,_,I.lset (its':=its++[u]) hH e (by simp) (r.append (.cons ru .nil)) ?_,rfl,q⟩;rw [Qx,GA];omega
noncomputable def _lq:V->List V->Hp->VK->Prop:=fun x vs H Q=>∃l xs y,x=.ref l∧vs=[]∧H l=some (.lst xs)∧xs[xs.length-1]?=some y∧Q y (_b H l (.lst xs.dropLast))
theorem _na:MtM X "list.pop" _lq:=by
 intro pins s σ H x vs v us Q I rx rv h;obtain ⟨l,xs,y,rfl,rfl,hH,hy,q⟩:=h;cases rx;have hus:=rv.zero;subst hus;obtain ⟨z,its,n,r,hl,e⟩:=I.lstM hH;obtain ⟨u,hu,ru⟩:=r.get hy
 have hy':its.toArray[its.toArray.size-1]?=some u:=by
  show its.toArray[its.length-1]?=some u;rw [←G1,←hl];exact hu
 refine Ry F.slot_list_pop ⟨_,e,rfl⟩ F.entry_list_pop (F.args_list_pop_1 _) (MeetsSeq.list_pop_last l its.toArray n u hy' (by rw [Qy];omega)) ⟨e,?_⟩;refine ⟨y,_,I.lset (its':=its.dropLast) hH e ?_ r.dropLast ?_,ru,q⟩
 ·show its.toArray.eraseIdxIfInBounds (its.toArray.size-1)=its.dropLast.toArray;rw [Qy,List.eraseIdxIfInBounds_toArray,_oB]
 ·rw [List.length_dropLast];omega
noncomputable def _ny:R2:=fun x y H Q=>∃l b xs zs,x=.ref l∧y=.ref b∧H l=some (.lst xs)∧H b=some (.lst zs)∧xs.length+zs.length≤sizeLine∧∀p,H p=none->Q (.ref p) (_b H p (.lst (xs++zs)))
theorem _fv:Yi X (binaryOp .Add) _ny:=by
 intro pins s σ H x y v u Q I rx ry h;obtain ⟨l,b,xs,zs,rfl,rfl,hH,hB,hz,q⟩:=h;cases rx;cases ry;obtain ⟨z,its,n,r,hl,e⟩:=I.lstM hH;obtain ⟨z2,its2,n2,r2,hl2,e2⟩:=I.lstM hB;refine PySem.P.add_list e e2 ?_ (by rw [Qy,Qy];omega);have ea:its.toArray++its2.toArray=(its++its2).toArray:=by simp
 rw [ea];exact ⟨.ref _,_,I.lnew (t':=s.toks) (r.append r2) (by rw [Qx];omega),rfl,q _ I.fresh⟩
section
variable {prog:Program} {w:World}
set_option maxRecDepth 100000 in
end
section
variable {κ:Type} [DecidableEq κ]
noncomputable def _y (kvs:List (κ×V)) (k:κ):Option V:=(kvs.find? fun kv=>decide (kv.1=k)).map (·.2)
noncomputable def Yj (kvs:List (κ×V)) (k:κ) (v:V):List (κ×V) :=
 if (kvs.any fun kv=>decide (kv.1=k))=true then kvs.map (fun kv=>if kv.1=k then (kv.1,v) else kv) else kvs++[(k,v)]
theorem Xa {p:κ×V} {r:List (κ×V)} {k:κ} (e:p.1=k):_y (p::r) k=some p.2:=by simp [_y,Rz,e]
theorem Y6 {p:κ×V} {r:List (κ×V)} {k:κ} (e:¬p.1=k):_y (p::r) k=_y r k:=by simp [_y,Rz,e]
theorem _aU (k:κ):∀kvs:List (κ×V),(kvs.any fun kv=>decide (kv.1=k))=(_y kvs k).isSome
 |[]=>rfl
 |p::r=>by
  rw [Rm];by_cases e:p.1=k
  ·simp only [Xa e,Qr e,Bool.true_or,Option.isSome_some]
  ·rw [Y6 e,Qn e,Bool.false_or];exact _aU k r
theorem _fL (k j:κ) (y:V):∀kvs:List (κ×V),_y kvs k=none->_y (kvs++[(k,y)]) j=if j=k then some y else _y kvs j
 |[],_=>by
  by_cases e:k=j
  ·rw [Qb e.symm];exact Xa (p:=(k,y)) e
  ·rw [Qa (fun z=>e z.symm)];exact Y6 (p:=(k,y)) e
 |p::r,hn=>by
  rw [GB];have hk:¬p.1=k:=fun z=>by rw [Xa z] at hn;cases hn
  rw [Y6 hk] at hn;have ih:=_fL k j y r hn;by_cases e:p.1=j
  ·rw [Xa e,Xa e,Qa (fun z=>hk (e.trans z))]
  ·rw [Y6 e,Y6 e,ih]
theorem _eB (kvs:List (κ×V)) (k:κ) (v:V):(Yj kvs k v).length≤kvs.length+1:=by
 unfold Yj;split
 ·rw [Qc];omega
 ·rw [Qx,QH,Nz];omega
theorem VB {kvs:List (κ×V)} {k:κ} (v:V) (h:_y kvs k=none):Yj kvs k v=kvs++[(k,v)]:=by
 unfold Yj;rw [_aU,h];exact Qa (by decide)
theorem RelO.isSome_eq {u:Option Value} (r:RelO o u):o.isSome=u.isSome:=by
 cases o with
 |none=>cases u with
  |none=>rfl
  |some _=>exact (show False from r).elim
 |some _=>cases u with
  |none=>exact (show False from r).elim
  |some _=>rfl
theorem RelO.getD {u:Option Value} {d:V} {d':Value} (r:RelO o u) (rd:RelV d d'):RelV (o.getD d) (u.getD d'):=by
 cases o with
 |none=>cases u with
  |none=>exact rd
  |some _=>exact (show False from r).elim
 |some _=>cases u with
  |none=>exact (show False from r).elim
  |some _=>exact r
theorem KV.val {kvs:List (κ×V)} {vs:List (κ×Value)} (r:KV kvs vs) (k:κ):RelO (_y kvs k) (valueAt vs k):=by
 unfold KV at r
 induction r with
 |nil=>exact True.intro
 |@cons p q ps qs h t ih =>
  obtain ⟨h1,h2⟩:=h;by_cases e:p.1=k
  ·have e':q.1=k:=h1.symm.trans e;have b:valueAt (q::qs) k=some q.2:=by simp [valueAt,Rz,e']
   rw [Xa e,b];exact h2
  ·have e':¬q.1=k:=fun z=>e (h1.trans z);have b:valueAt (q::qs) k=valueAt qs k:=by simp [valueAt,Rz,e']
   rw [Y6 e,b];exact ih
theorem KV.any {kvs:List (κ×V)} {vs:List (κ×Value)} (r:KV kvs vs) (k:κ):(kvs.any fun kv=>decide (kv.1=k))=vs.any fun kv=>decide (kv.1=k):=by
 unfold KV at r
 induction r with
 |nil=>rfl
 |cons h t ih=>rw [Rm,Rm,ih,h.1]
theorem KV.repl {kvs:List (κ×V)} {vs:List (κ×Value)} (r:KV kvs vs) (k:κ) (ry:RelV y u) :
  KV (kvs.map fun kv=>if kv.1=k then (kv.1,y) else kv) (vs.map fun kv=>if kv.1=k then (kv.1,u) else kv):=by
 unfold KV at r ⊢
 induction r with
 |nil=>exact .nil
 |@cons p q ps qs h t ih =>
  rw [Qs,Qs];refine .cons ?_ ih;obtain ⟨h1,h2⟩:=h;by_cases e:p.1=k
  ·rw [Qb e,Qb (h1.symm.trans e)];exact ⟨h1,ry⟩
  ·rw [Qa e,Qa (fun z=>e (h1.trans z))];exact ⟨h1,h2⟩
theorem KV.put {kvs:List (κ×V)} {vs:List (κ×Value)} (r:KV kvs vs) (k:κ) (ry:RelV y u):KV (Yj kvs k y) (stored vs k u):=by
 unfold Yj stored;rw [r.any k];by_cases e:(vs.any fun kv=>decide (kv.1=k))=true
 ·rw [Qb e,Qb e];exact r.repl k ry
 ·rw [Qa e,Qa e];exact Paired.snoc r ⟨rfl,ry⟩
theorem KV.length {kvs:List (κ×V)} {vs:List (κ×Value)} (r:KV kvs vs):kvs.length=vs.length:=GP r
end
theorem Vt {w:World} {k:_k} (r:RelV (kV k) u):(Yt P w).is k u=true:=by
 cases k with
 |inl i=>obtain ⟨t,e⟩:=(show ∃t,u=Value.int i t from r);subst e;exact _j7 P w i t
 |inr x=>obtain ⟨t,e⟩:=(show ∃t,u=Value.str x t from r);subst e;exact _kY P w x t
theorem _du {P:Program} {w:World}:∀{ks:List _k} {us:List Value},Vals (ks.map kV) us->ItemsAre (Yt P w) ks us
 |[],_,r=>by rw [R8] at r;cases r;exact .nil
 |k::ks,_,r=>by
  rw [Qs] at r;cases r with
  |cons h t=>exact .cons (Vt h) (_du t)
noncomputable abbrev KT (H:Hp):List (List _k×V)->List (List _k×Addr×Value)->Prop:=Paired fun p q=>p.1=q.1∧H q.2.1=some (.tup (p.1.map kV))∧RelV p.2 q.2.2
theorem KT.val (r:KT H kvs xs) (k:List _k):RelO (_y kvs k) ((atKey xs k).map (·.2)):=by
 induction r with
 |nil=>exact True.intro
 |@cons p q ps qs h t ih =>
  obtain ⟨h1,_,h2⟩:=h;by_cases e:p.1=k
  ·have e':q.1=k:=h1.symm.trans e;have b:atKey (q::qs) k=some q.2:=by simp [atKey,Rz,e']
   rw [Xa e,b];exact h2
  ·have e':¬q.1=k:=fun z=>e (h1.trans z);have b:atKey (q::qs) k=atKey qs k:=by simp [atKey,Rz,e']
   rw [Y6 e,b];exact ih
theorem KT.repl (r:KT H kvs xs) (k:List _k) (ry:RelV y u) :
  KT H (kvs.map fun kv=>if kv.1=k then (kv.1,y) else kv) (xs.map (putAt k u)):=by
 induction r with
 |nil=>exact .nil
 |@cons p q ps qs h t ih =>
  rw [Qs,Qs];refine .cons ?_ ih;obtain ⟨h1,h2,h3⟩:=h;unfold putAt;by_cases e:p.1=k
  ·rw [Qb e,Qb (h1.symm.trans e)];exact ⟨h1,h2,ry⟩
  ·rw [Qa e,Qa (fun z=>e (h1.trans z))];exact ⟨h1,h2,h3⟩
theorem KT.put (r:KT H kvs xs) (k:List _k) (hb:H b=some (.tup (k.map kV))) (ry:RelV y u) :
  KT H (Yj kvs k y) (storedH xs k b u):=by
 have e:(kvs.any fun kv=>decide (kv.1=k))=(atKey xs k).isSome:=by
  rw [_aU,(r.val k).isSome_eq,G2]
 unfold Yj storedH;rw [e];by_cases q:(atKey xs k).isSome=true
 ·rw [Qb q,Qb q];exact r.repl k ry
 ·rw [Qa q,Qa q];exact Paired.snoc r ⟨rfl,hb,ry⟩
theorem KT.keeps (r:KT H kvs xs) (ht:∀b ys,H b=some (.tup ys)->H' b=some (.tup ys)):KT H' kvs xs :=
 Paired.mapP r fun _ _ z=>⟨z.1,ht _ _ z.2.1,z.2.2⟩
section
variable {w:World} {h:Heap}
theorem _gw {u:HO} (ok:HOk P w H h) (e:Rd H a u):ObjOk P w H h a u:=e.ok ok
theorem Vi {kvs:List (_k×V)} (ok:HOk P w H h) (e:Rd H a (.dK kvs)):kvs.length≤sizeLine∧(a==sysModules)=false∧∃vs,KV kvs vs∧h.DictOf (Yt P w) a vs :=
 show ObjOk P w H h a (.dK kvs) from _gw ok e
theorem UU {kvs:List (_k×V)} (ok:HOk P w H h) (e:H a=some (.dK kvs)):kvs.length≤sizeLine∧(a==sysModules)=false∧∃vs,KV kvs vs∧h.DictOf (Yt P w) a vs:=Vi ok (.inl e)
theorem VD {ks:List _k} (ok:HOk P w H h) (e:H a=some (.tup (ks.map kV))):(tupleKind (Yt P w)).is h ks a:=by
 obtain ⟨_,its,r,o,h1,h2,n,h3⟩:=(show ObjOk P w H h a (.tup (ks.map kV)) from ok a _ e);exact ⟨o,its.toArray,n,h1,h2,h3,by simpa using _du r⟩
theorem WW (ok:HOk P w H h) (e:Rd H a (.dT kvs)):kvs.length≤sizeLine∧(a==sysModules)=false ∧
  ∃xs,KT H kvs xs∧h.DictOfH (tupleKind (Yt P w)) a xs:=by
 obtain ⟨z,y,xs,r,o,es,ep,h1,h2,h3,h4,h5⟩:=(show ObjOk P w H h a (.dT kvs) from _gw ok e);refine ⟨z,y,xs,r,o,es,ep,h1,h2,h3,h4,fun x hx=>?_,h5⟩
 have all:∀{l:List (List _k×V)} {m:List (List _k×Addr×Value)},KT H l m->∀x∈m,(tupleKind (Yt P w)).is h x.1 x.2.1:=by
  intro l m q
  induction q with
  |nil=>intro x hx;exact nomatch hx
  |@cons p q ps qs hq t ih =>
   intro x hx;rcases Qo.mp hx with e|hx
   ·subst e;exact VD ok (by rw [←hq.1];exact hq.2.1)
   ·exact ih x hx
 exact all r x hx
theorem Jr (ok:HOk P w H h) (e:H a=some (.dT kvs)):kvs.length≤sizeLine∧(a==sysModules)=false ∧
  ∃xs,KT H kvs xs∧h.DictOfH (tupleKind (Yt P w)) a xs:=WW ok (.inl e)
end
noncomputable def DGet (H:Hp) (a:Addr) (y:V) (r:Option V):Prop :=
 (∃kvs k,Rd H a (.dK kvs)∧y=kV k∧r=_y kvs k)∨∃kvs k b,Rd H a (.dT kvs)∧y=.ref b∧H b=some (.tup (k.map kV))∧r=_y kvs k
noncomputable def DPut (H:Hp) (a:Addr) (y v:V) (H':Hp):Prop :=
 (∃kvs k,H a=some (.dK kvs)∧y=kV k∧kvs.length<sizeLine∧H'=_b H a (.dK (Yj kvs k v))) ∨
 ∃kvs k b,H a=some (.dT kvs)∧y=.ref b∧H b=some (.tup (k.map kV))∧kvs.length<sizeLine∧H'=_b H a (.dT (Yj kvs k v))
theorem DGet.k {kvs:List (_k×V)} {k:_k} (e:H a=some (.dK kvs)):DGet H a (kV k) (_y kvs k):=.inl ⟨kvs,k,.inl e,rfl,rfl⟩
theorem DGet.t {k:List _k} (e:H a=some (.dT kvs)) (eb:H b=some (.tup (k.map kV))):DGet H a (.ref b) (_y kvs k):=.inr ⟨kvs,k,b,.inl e,rfl,eb,rfl⟩
theorem DPut.k {kvs:List (_k×V)} {k:_k} {v:V} (e:H a=some (.dK kvs)) (hl:kvs.length<sizeLine):DPut H a (kV k) v (_b H a (.dK (Yj kvs k v))):=.inl ⟨kvs,k,e,rfl,hl,rfl⟩
theorem DPut.t {k:List _k} {v:V} (e:H a=some (.dT kvs)) (eb:H b=some (.tup (k.map kV))) (hl:kvs.length<sizeLine) :
  DPut H a (.ref b) v (_b H a (.dT (Yj kvs k v))):=.inr ⟨kvs,k,b,e,rfl,eb,hl,rfl⟩
section
variable {v:V} {r:Value}
theorem Inv.big (I:Inv X pins σ H s):sysModules<s.heap.objs.size:=by
 have h:mainGlobals<s.heap.objs.size:=(I.mod.glob.keeps I.bk).lt;exact Nat.lt_trans (by decide) h
theorem _iK (hu:A.units+1<cLine) (I:Inv X pins σ H s) (g:DGet H a y (some v)) (ry:RelV y u) (h:∀w' s',Inv X pins σ H s'->RelV v w'->Q w' s') :
  wpAny (model X.prog X.w) A (getItem (.ref a) u) Q E s:=by
 rcases g with ⟨kvs,k,e,ey,l⟩|⟨kvs,k,b,e,ey,eb,l⟩
 ·subst ey;obtain ⟨z,hd,vs,rel,dd⟩:=Vi I.hok e;obtain ⟨w',hw,rw'⟩:=RelO.some_of (v:=v) (o:=valueAt vs k) (by rw [l];exact rel.val k);exact wpAny_getItem_of (Vt ry) dd.mapOf hw (h w' _ (I.tok _) rw')
 ·subst ey;cases (show u=Value.ref b from ry);obtain ⟨z,hd,xs,rel,dd⟩:=WW I.hok e;obtain ⟨w',hw,rw'⟩:=RelO.some_of (v:=v) (o:=(atKey xs k).map (·.2)) (by rw [l];exact rel.val k);obtain ⟨p,hp,hp2⟩:=QE.mp hw;refine wpAny_getItem_heap (R9 hu) (VD I.hok eb) dd hp ?_;rw [hp2];exact h w' _ (I.tok _) rw'
theorem _jh (hu:A.units+1<cLine) (I:Inv X pins σ H s) (g:DGet H a y o) (ry:RelV y u) (h:∀s',Inv X pins σ H s'->Q (.bool o.isSome) s') :
  wpAny (model X.prog X.w) A (compareOp .In u (.ref a)) Q E s:=by
 rcases g with ⟨kvs,k,e,ey,l⟩|⟨kvs,k,b,e,ey,eb,l⟩
 ·subst ey;obtain ⟨z,hd,vs,rel,dd⟩:=Vi I.hok e;refine wpAny_in_of (Vt ry) hd dd.mapOf ?_;rw [←(rel.val k).isSome_eq,←l];exact h _ (I.tok _)
 ·subst ey;cases (show u=Value.ref b from ry);obtain ⟨z,hd,xs,rel,dd⟩:=WW I.hok e;refine wpAny_in_heap (R9 hu) (VD I.hok eb) hd dd ?_;have q:=(rel.val k).isSome_eq;rw [G2] at q;rw [←q,←l];exact h _ (I.tok _)
theorem _pQ (hu:A.units+1<cLine) (I:Inv X pins σ H s) (g:DGet H a y o) (ry:RelV y u) (h:∀s',Inv X pins σ H s'->Q (.bool (!o.isSome)) s') :
  wpAny (model X.prog X.w) A (compareOp .NotIn u (.ref a)) Q E s:=by
 rcases g with ⟨kvs,k,e,ey,l⟩|⟨kvs,k,b,e,ey,eb,l⟩
 ·subst ey;obtain ⟨z,hd,vs,rel,dd⟩:=Vi I.hok e;refine wpAny_notIn_of (Vt ry) hd dd.mapOf ?_;rw [←(rel.val k).isSome_eq,←l];exact h _ (I.tok _)
 ·subst ey;cases (show u=Value.ref b from ry);obtain ⟨z,hd,xs,rel,dd⟩:=WW I.hok e;refine wpAny_notIn_heap (R9 hu) (VD I.hok eb) hd dd ?_;have q:=(rel.val k).isSome_eq;rw [G2] at q;rw [←q,←l];exact h _ (I.tok _)
theorem _bf {h':Heap} {ob:HO} (I:Inv X pins σ H s) (mu:UF (H a)) (hs:Heap.SameBut a s.heap h') (he:∃q,h'.get? a=some q) (new:ObjOk X.prog X.w (_b H a ob) h' a ob) :
  Inv X pins σ (_b H a ob) { s with heap:=h',toks:=t' } :=
 I.write (x:=a) (e:=a) mu (.inl rfl) (fun b q hb z=>(hs.2 b hb).trans z) he new
theorem _nG {w:World} {h':Heap} {kvs:List (_k×V)} {vs:List (_k×Value)} (z:kvs.length≤sizeLine) (hd:(a==sysModules)=false) (rel:KV kvs vs) (dd:h'.DictOf (Yt P w) a vs) :
  ObjOk P w H' h' a (.dK kvs):=⟨z,hd,vs,rel,dd⟩
theorem _iQ {Q:Unit->Shared->Prop} (hu:A.units+1<cLine) (I:Inv X pins σ H s) (g:DPut H a y v H') (ry:RelV y u) (rv:RelV v r) (h:∀s',Inv X pins σ H' s'->Q () s') :
  wpAny (model X.prog X.w) A (setItem (.ref a) u r) Q E s:=by
 rcases g with ⟨kvs,k,e,ey,l,eH⟩|⟨kvs,k,b,e,ey,eb,l,eH⟩
 ·subst ey eH;obtain ⟨z,hd,vs,rel,dd⟩:=UU I.hok e;have hz:vs.length≤sizeLine:=by rw [←rel.length];exact z
  have hl:(Yj kvs k v).length≤sizeLine:=by have:=_eB kvs k v;omega
  refine wpAny_setItem_pairs (hsz:=hz) (Vt ry) dd fun h' dd' hs=>h _ ?_;have he:∃q,h'.get? a=some q:=let ⟨q,_,_,hq,_⟩:=dd';⟨q,hq⟩;exact _bf I (by rw [e];exact True.intro) hs he (_nG hl hd (rel.put k rv) dd')
 ·subst ey eH;cases (show u=Value.ref b from ry);obtain ⟨z,hd,xs,rel,dd⟩:=Jr I.hok e;have hz:xs.length≤sizeLine:=by rw [←GP rel];exact z
  have hl:(Yj kvs k v).length≤sizeLine:=by have:=_eB kvs k v;omega
  refine wpAny_setItem_heap (hsz:=hz) (R9 hu) (VD I.hok eb) dd fun h' dd' hs=>h _ ?_;obtain ⟨q,es,ep,hq,h2,h3,h4,_,h5⟩:=dd';refine _bf I (by rw [e];exact True.intro) hs ⟨q,hq⟩ ⟨hl,hd,_,(rel.put k eb rv).keeps fun c ys ec=>?_,q,es,ep,hq,h2,h3,h4,h5⟩;rw [_g (_b9 ec e (fun z=>nomatch z))];exact ec
end
section
variable {kvs:List (_k×V)} {k:_k}
theorem _n9 (I:Inv X pins σ H s) (e:Rd H a (.dK kvs)) (h:∀t s',Inv X pins σ H s'->Q (.int kvs.length t) s'):wpAny (model X.prog X.w) A (call (.builtin "len") [.ref a]) Q E s:=by
 obtain ⟨z,hd,vs,rel,dd⟩:=Vi I.hok e;refine call_len_dict hd dd (by rw [←rel.length];rw [Gw] at z;omega) ?_;rw [←rel.length];exact h _ _ (I.tok _)
end
noncomputable def _f7 (i:Expr):Prop:=∀ov iv,subscripted i false ov iv=operate [ov,iv] (getItem ov iv)
theorem _jC {prog:Program} {w:World} {env:Env} {value slice:Expr} {id:String} 
 (hl:typeLookup (.type T) "__getitem__"=pure (some (.builtin id))) (hs:_f7 slice)
 (h:wpAny (model prog w) A (eval value env) (fun o s₁=>wpAny (model prog w) A (eval slice env) (fun i s₂=>s₂.TypeIs o T∧wpAny (model prog w) A (getItem o i) Q E s₂) E s₁) E s) :
  wpAny (model prog w) A (eval (.Subscript value slice pos) env) Q E s:=by
 refine Subscript_ (Rb h (fun o s₁ h₁=>Rb h₁ (fun i s₂ h₂=>?_) fun _ _ x=>x) fun _ _ x=>x);obtain ⟨hT,h₂⟩:=h₂;unfold subscriptTail;refine Qd ?_;rw [getitemInPython_of_ne hT.not_modules];refine Qd (wpAny_specialOf hT hl ?_)
 have fin:wpAny (model prog w) A (subscripted slice false o i) (fun r s₃=>wpAny (model prog w) A (letTemporaryGo value o r >>= fun _=>pure r) Q E s₃) E s₂:=by
  rw [hs o i];exact wpAny_operating (Rb h₂ (fun r s₃ h₃=>Qd (wpAny_letTemporaryGo (Qg h₃))) fun _ _ x=>x)
 first
  |exact Qg (Qd fin)
  |exact Qd (Qg (Qd fin))
  |exact Qd fin
theorem _jo (I:Inv X pins σ H s) (g:DGet H a y o):s.TypeIs (.ref a) "dict":=by
 rcases g with ⟨kvs,k,e,_,_⟩|⟨kvs,k,b,e,_,_,_⟩
 ·obtain ⟨_,_,vs,_,dd⟩:=Vi I.hok e;exact dd.typeIs
 ·obtain ⟨_,_,xs,_,dd⟩:=WW I.hok e;exact dd.typeIs
noncomputable def _o9 (td ty:TE):TE:=fun σ H Q=>td σ H fun x H1=>ty σ H1 fun y H2=>∃a v,x=.ref a∧DGet H2 a y (some v)∧Q v H2
noncomputable def _h3 (ty td:TE):TE:=fun σ H Q=>ty σ H fun y H1=>td σ H1 fun x H2=>∃a o,x=.ref a∧DGet H2 a y o∧Q (.bl o.isSome) H2
noncomputable def _m6 (ty td:TE):TE:=fun σ H Q=>ty σ H fun y H1=>td σ H1 fun x H2=>∃a o,x=.ref a∧DGet H2 a y o∧Q (.bl (!o.isSome)) H2
noncomputable def _l8 (td ty tv:TE):TS:=fun D σ H=>tv σ H fun v H1=>td σ H1 fun x H2=>ty σ H2 fun y H3=>∃a H4,x=.ref a∧DPut H3 a y v H4∧D.nx σ H4
section
variable {o i value:Expr} {pos' tpos:Pos} {td ty tv:TE}
theorem Yk (hu:X.A.units+1<cLine) (ho:PE X o td) (hi:PE X i ty) (hs:_f7 i):PE X (.Subscript o i pos) (_o9 td ty):=by
 intro pins s σ H Q I h;refine _jC PySem.F.slot_dict_getitem.lookup hs (_p (ho pins s σ H _ I h) fun u s1 ⟨x,H1,I1,rx,q1⟩=>_p (hi pins s1 σ H1 _ I1 q1) fun iv s2 ⟨y,H2,I2,ry,a,v,ex,g,q2⟩=>?_);subst ex;obtain rfl:u=Value.ref a:=rx;exact ⟨_jo I2 g,_iK hu I2 g ry fun w' s3 I3 rw'=>⟨v,H2,I3,rw',q2⟩⟩
theorem J2 (hu:X.A.units+1<cLine) (hi:PE X i ty) (ho:PE X o td):PC X .In i o (_h3 ty td):=by
 intro pins s σ H Q I h;refine _p (hi pins s σ H _ I h) fun iv s1 ⟨y,H1,I1,ry,q1⟩=>_p (ho pins s1 σ H1 _ I1 q1) fun u s2 ⟨x,H2,I2,rx,a,ov,ex,g,q2⟩=>?_;subst ex;obtain rfl:u=Value.ref a:=rx;exact _jh hu I2 g ry fun s3 I3=>⟨.bl ov.isSome,H2,I3,rfl,q2⟩
theorem _av (hu:X.A.units+1<cLine) (hi:PE X i ty) (ho:PE X o td):PC X .NotIn i o (_m6 ty td):=by
 intro pins s σ H Q I h;refine _p (hi pins s σ H _ I h) fun iv s1 ⟨y,H1,I1,ry,q1⟩=>_p (ho pins s1 σ H1 _ I1 q1) fun u s2 ⟨x,H2,I2,rx,a,ov,ex,g,q2⟩=>?_;subst ex;obtain rfl:u=Value.ref a:=rx;exact _pQ hu I2 g ry fun s3 I3=>⟨.bl (!ov.isSome),H2,I3,rfl,q2⟩
theorem YU (hu:X.A.units+1<cLine) (ho:PE X o td) (hi:PE X i ty) (hv:PE X value tv) (hs:swapsWith value (some (.Subscript o i pos')) pos.line X.env=pure false) :
  PS X (.Assign [.Subscript o i pos'] value pos) (_l8 td ty tv):=by
 intro pins s σ H D I h;refine wpAny_Assign_Subscript (_p (hv pins s σ H _ I h) fun r s1 ⟨v,H1,I1,rv,q1⟩=>_p (ho pins s1 σ H1 _ I1 q1) fun u s2 ⟨x,H2,I2,rx,q2⟩=>_p (hi pins s2 σ H2 _ I2 q2) fun iv s3 ⟨y,H3,I3,ry,a,H4,ex,g,q3⟩=>?_) hs;subst ex;obtain rfl:u=Value.ref a:=rx;exact _iQ hu I3 g ry rv fun s4 I4=>⟨σ,H4,I4,q3⟩
end
theorem _kU {w:World} (h:Heap) (hb:sysModules<h.objs.size):ObjOk P w H (h.push { cls:=.type "dict",data:=.dict #[] }) h.objs.size (.dK []) :=
 ⟨QM _,RF.mpr (QY (Qz hb)),[],.nil,Heap.DictOf.new h⟩
theorem _nZ {w:World} (h:Heap) (hb:sysModules<h.objs.size):ObjOk P w H (h.push { cls:=.type "dict",data:=.dict #[] }) h.objs.size (.dT []) :=
 ⟨QM _,RF.mpr (QY (Qz hb)),[],.nil,_,#[],0,Qw _ rfl,⟨rfl,rfl,rfl⟩,rfl,rfl,List.nodup_nil⟩
noncomputable def _i7:TE:=fun _ H Q=>∀p,H p=none->Q (.ref p) (_b H p (.dK []))
noncomputable def _o5:TE:=fun _ H Q=>∀p,H p=none->Q (.ref p) (_b H p (.dT []))
theorem Xl:PE X (.Dict [] [] pos) _i7:=fun pins s σ H Q I h =>
 wpAny_Dict_empty ⟨.ref s.heap.objs.size,_,I.laid (a:=s.heap.objs.size) (o:=.dK []) (t':=s.toks) (fun _ _ q=>Qq _ q) (Qe _) (_kU s.heap I.big),rfl,h _ (I.hok.fresh (Qe _))⟩
theorem VP:PE X (.Dict [] [] pos) _o5:=fun pins s σ H Q I h =>
 wpAny_Dict_empty ⟨.ref s.heap.objs.size,_,I.laid (a:=s.heap.objs.size) (o:=.dT []) (t':=s.toks) (fun _ _ q=>Qq _ q) (Qe _) (_nZ s.heap I.big),rfl,h _ (I.hok.fresh (Qe _))⟩
structure M2 (X:Cx) (o:Expr) (m:Str) (apos:Pos) (e f:Expr) (cpos:Pos):Prop where
 base:attributeBase o m X.env (eval o X.env)=eval o X.env
 few:((backTo cpos (starEach [e,f] X.env)).all (fun x=>!x.1)&&(backToKw cpos (keywordEach [] X.env)).all (fun x=>x.1.isSome)
  && decide (([e,f]:List Expr).length+([]:List Keyword).length+(if ([]:List Keyword).isEmpty then 0 else 1)<30))=true
 line:(apos.endLine==cpos.line)=true
 trees:backTo cpos (starEach [e,f] X.env)=[(false,eval e X.env),(false,eval f X.env)]
noncomputable def IsD (H:Hp) (a:Addr):Prop:=(∃kvs,Rd H a (.dK kvs))∨∃kvs,Rd H a (.dT kvs)
theorem _b2 (I:Inv X pins σ H s) (d:IsD H a) :
  s.TypeIs (.ref a) "dict"∧(∀b,Value.ref a=.ref b->∃ob,s.heap.get? b=some ob∧ob.dict=none)∧(a==sysModules)=false:=by
 rcases d with ⟨kvs,e⟩|⟨kvs,e⟩
 ·obtain ⟨_,hd,vs,_,dd⟩:=Vi I.hok e;refine ⟨dd.typeIs,fun b q=>?_,hd⟩;cases q;obtain ⟨ob,_,_,h1,h2,_⟩:=dd;exact ⟨ob,h1,h2.2.1⟩
 ·obtain ⟨_,hd,xs,_,dd⟩:=WW I.hok e;refine ⟨dd.typeIs,fun b q=>?_,hd⟩;cases q;obtain ⟨ob,_,_,h1,h2,_⟩:=dd;exact ⟨ob,h1,h2.2.1⟩
section
variable {d:V} {r:Value}
theorem _mB (hu:A.units+1<cLine) (I:Inv X pins σ H s) (g:DGet H a y o) (ry:RelV y u) (rd:RelV d r) (h:∀w' s',Inv X pins σ H s'->RelV (o.getD d) w'->Q w' s') :
  wpAny (model X.prog X.w) A (call (.builtin "dict.get") [.ref a,u,r]) Q E s:=by
 rcases g with ⟨kvs,k,e,ey,l⟩|⟨kvs,k,b,e,ey,eb,l⟩
 ·subst ey;obtain ⟨z,hd,vs,rel,dd⟩:=Vi I.hok e;refine Ga NA dd.typeIs PySem.F.entry_dict_get (N1 _ _ _) (meets_dict_get_default (Yt X.prog X.w) a (Vt ry) hd r) ⟨_,dd.mapOf,h _ _ (I.tok _) ?_⟩;rw [l];exact (rel.val k).getD rd
 ·subst ey;cases (show u=Value.ref b from ry);obtain ⟨z,hd,xs,rel,dd⟩:=WW I.hok e;refine Ga NA dd.typeIs PySem.F.entry_dict_get (N1 _ _ _) (meetsH_dict_get_default (tupleKind (Yt X.prog X.w)) a b hd r) ⟨R9 hu,k,xs,VD I.hok eb,dd,h _ _ (I.tok _) ?_⟩;rw [l];exact (rel.val k).getD rd
end
noncomputable def _ph (td ty tx:TE):TE:=fun σ H Q=>td σ H fun x H1=>∃a,x=.ref a∧IsD H1 a∧ty σ H1 fun y H2=>tx σ H2 fun z H3=>∃o,DGet H3 a y o∧Q (o.getD z) H3
section
variable {o f:Expr} {apos cpos:Pos} {td ty tx:TE}
theorem Jj (hu:X.A.units+1<cLine) (ho:PE X o td) (he:PE X e ty) (hf:PE X f tx) (m:M2 X o "get" apos e f cpos):PE X (.Call (.Attribute o "get" apos) [e,f] [] cpos) (_ph td ty tx):=by
 intro pins s σ H Q I h;refine NB m.base m.few m.line G3 NA PySem.F.type_dict_get (_p (ho pins s σ H _ I h) fun u s1 ⟨x,H1,I1,rx,a,ex,d,q1⟩=>?_);subst ex;obtain rfl:u=Value.ref a:=rx;obtain ⟨t1,t2,_⟩:=_b2 I1 d;refine ⟨t1,t2,?_⟩;rw [m.trees]
 refine Gz rfl (G0 (RU (_p (he pins s1 σ H1 _ I1 q1) fun iv s2 ⟨y,H2,I2,ry,q2⟩ =>
  RU (_p (hf pins s2 σ H2 _ I2 q2) fun fv s3 ⟨z,H3,I3,rz,ov,g,q3⟩=>GW ?_))))
 exact _mB hu I3 g ry rz fun w' s4 I4 rw'=>⟨_,H3,I4,rw',q3⟩
end
section
variable {kvs:List (_k×V)}
end
end L2
namespace Att
open PySem PySem.W PySem.Calls PyProof.Rows
theorem _mO {P:Params} {h:Heap}:∀(ns:List Int) (vs:List Value),WellAll P h vs (ns.map WData.int)->IntsAre vs ns:=by
 intro ns
 induction ns with
 |nil =>
  intro vs w;rw [R8] at w;cases w;exact .nil
 |cons n ns ih =>
  intro vs w;rw [Qs] at w;cases w with
  |cons a b =>
   cases a;exact .cons _ _ (ih _ b)
theorem _i4 {l:OpenLaw} {n:Nat} (hn:l.most=some n) {P:Params} {h:Heap} {args:List WData} {vals:List Value}
  (hpre:l.row.toRowW.claim.pre args=true) (hwl:WellAll P h vals args) :
  ∃a vs ns,vals=[Value.ref a]∧args=[WData.list (ns.map WData.int)]∧h.get? a=some { cls:=.type "list",data:=.seq vs.toArray }∧IntsAre vs ns∧ns.length≤n:=by
 have hsh:WShape.hasAll [] args [.list .int]=true:=(pre_splitW hpre).1;have hc:l.pre.holds [] { args:=args }=true:=(pre_splitW hpre).2;obtain ⟨d,r,rfl,h1,h2⟩:=hasAllW_cons hsh;obtain rfl:=hasAllW_nil h2;obtain ⟨xs,rfl,h3⟩:=hasW_list h1;obtain ⟨ns,rfl⟩:=items_int h3
 have hlen:ns.length≤n:=by
  unfold OpenLaw.pre at hc
  have h4:(WTm.not (.lt (.lit (.int (n:Int))) (.len (.arg 0)))).holds [] { args:=[.list (ns.map .int)] }=true:=by
   have h4:=(holds_andW hc).1;rw [hn] at h4;exact h4
  have h5:=condW_of h4 (w_not (w_lt w_lit (w_len_list (w_arg rfl))));rw [Qc] at h5;refine Nat.le_of_not_lt fun q=>?_;have q':(n:Int)<((ns.length:Nat):Int):=by omega
  first
   | (rw [Qr q'] at h5;exact absurd h5 (by decide))
   | (simp at h5;omega)
 cases hwl with
 |cons w1 w2 =>
  cases w2;cases w1 with
  |list ho hall=>exact ⟨_,_,ns,rfl,rfl,ho,_mO ns _ hall,hlen⟩
theorem _pg (l:OpenLaw) (args:List WData):l.row.toRowW.claim.post args (.bool true) args=true :=
 postW_of (r:=l.row.toRowW) (X:=(true==true))
  (show WShape.has [] (.bool true) .bool=true by first|rfl|decide|simp [WShape.has,WShape.arms,WShape.armsAll])
  (show (WTm.eq .res (.lit (.bool true))).value [] { args:=args,res:=some (.bool true),after:=args }=some (.bool (true==true)) from w_eq_bool (w_res rfl) w_lit) rfl
theorem attach_call {l:OpenLaw} {n:Nat} {q:Program} {loose:List Str} {XP:(Str->Option Value)->Heap->Prop} {YP:World->Heap->Prop} {d:DefRec}
  (hn:l.most=some n) (hdf:d.params.defaults=[])
  (call:∀(w:World) (s₀ s₁:Shared) (mg mb:Str->Option Value) (fa:Addr) (o:Obj) (pm cd doc:Value) (a:Addr) (vs:List Value) (ns:List Int),
   Ground q loose [] XP w s₀ mg mb s₁.heap->YP w s₁.heap →
   s₁.heap.get? fa=some o->o.data=.func (docDef d.name d.params d.body d.scope pm cd doc)->s₁.heap.CodeRec cd d.name->mg d.name=some (.ref fa) →
   s₁.heap.get? a=some { cls:=.type "list",data:=.seq vs.toArray }->IntsAre vs ns->ns.length≤n->s₁.gens=#[] →
   codeAny (model l.prog w) callerA (.call (.ref fa) ⟨[.ref a],[]⟩) (fun r s'=>r=.ok (.ret (.bool true))∧OldK s₁.heap s'.heap∧s'.os=s₁.os∧AllBare s'.gens) s₁) :
  WalkO q loose XP YP l.row.toRowW d [] (fun f vs=>PySem.call f vs):=by
 intro w s₀ s₁ mg mb G Y fa o pm cd doc dV kV ho hd hcd hD hmg hg args vals as hpre hlay hrd hwl hlo;obtain rfl:dV=.none:=Dflts.none hD hdf;obtain rfl:kV=.none:=Dflts.noKw hD;obtain ⟨a,vs,ns,rfl,rfl,hobj,hints,hlen⟩:=_i4 hn hpre hwl;refine enter_call (Gx (call w s₀ s₁ mg mb fa o pm cd doc a vs ns G Y ho (fd_plain hd) hcd hmg hobj hints hlen hg) fun r s' hq=>?_);obtain ⟨rfl,h2,h3,h4⟩:=hq;exact ⟨.inl ⟨.bool true,.bool true,[],rfl,fun _=>rfl,.bool true,_pg l _,fun _=>⟨List.Pairwise.nil,fun _ hm=>(nomatch hm)⟩⟩,h2,h3,h4⟩
section
variable {prog:Program} {w:World} {A:Around} {E:Value->Shared->Prop} {s:Shared} {K:Frag}
end
end Att
namespace L2
open PySem PySem.Spec PyProof.Rows
theorem _eh:∀{vs:List Value} {ns:List Int},IntsAre vs ns->Vals (ns.map V.int) vs
 |_,_,.nil=>.nil
 |_,_,.cons n t h=>.cons ⟨t,rfl⟩ (_eh h)
noncomputable def _a4 (H:Hp):Prop:=∀b,H b=none∨∃o xs,H b=some (.frz o (.lst xs))
theorem _nq {P:Program} {w:World} {K:W.Frag} {mg mb:Str->Option Value} {CX:YA} {k:Nat} {fa a:Addr} {fd:FuncData} {x:Str} {sp:Sp} {s₁:Shared} {vs:List Value} {ns:List Int}
  (KX:K.In s₁.heap) (hns:s₁.heap.Ns mainGlobals mg) (hb:s₁.heap.Ns builtinsNs mb) (hbb:∀x:Str,x≠"__name__"->mb x=bootBuiltins x) (hlim:s₁.heap.NoLimit) (hg:s₁.gens=#[])
  (ha:s₁.heap.get? a=some { cls:=.type "list",data:=.seq vs.toArray }) (hi:IntsAre vs ns) (hl:ns.length≤sizeLine) (hr:Room k callerA)
  (F:∀base:Heap,K.In base->base.Ns mainGlobals mg->FnOk P w K mg base CX k fa fd [x] sp) (hbind:∀(s:Shared) (u:Value),BindsTo s fd ⟨[u],[]⟩ [(x,u)])
  (hsp:∀H:Hp,_a4 H->SqL K H a (ns.map V.int)->sp [.ref a] H (fun v _=>v=.bl true) fun _ _ _=>False)
  (hCX:∀H e s',CX [] H s₁ (fun _ _ _=>False) e s'->False) :
  codeAny (model P w) callerA (.call (.ref fa) ⟨[.ref a],[]⟩) (fun r s'=>r=.ok (.ret (.bool true))∧OldK s₁.heap s'.heap∧s'.os=s₁.os∧AllBare s'.gens) s₁:=by
 have rv:=_eh hi;have lenV:=hi.length
 have core : ∀H : Hp, _a4 H → SqL K H a (ns.map V.int) → HOk P w H s₁.heap → (∀b, H b ≠ none → b=a) → (H a ≠ none → K.lookup a=none) →
   codeAny (model P w) callerA (.call (.ref fa) ⟨[.ref a],[]⟩) (fun r s'=>r=.ok (.ret (.bool true))∧OldK s₁.heap s'.heap∧s'.os=s₁.os∧AllBare s'.gens) s₁:=by
  intro H hO hS hok hA hK;have base_of:∀{b:Addr} {o:Obj},s₁.heap.get? b=some o->H b=none->(WJ s₁.heap H).get? b=some o:=fun e n=>_kN e n
  have noA:∀{b:Addr} {o:Obj} {es:Array DictEntry} {ep:Nat},s₁.heap.get? b=some o->o.data=.dict es ep->H b=none:=fun {b o es ep} e d=>by
   cases q:H b with
   |none=>rfl
   |some u =>
    have e':b=a:=hA b (by rw [q];simp);subst e';rw [ha] at e;cases e;have d':Data.seq vs.toArray _=Data.dict es ep:=d;cases d'
  have nsK:∀{b:Addr} {m:Str->Option Value},s₁.heap.Ns b m->(WJ s₁.heap H).Ns b m:=fun {b m} ⟨o,es,ep,e,d,r⟩=>⟨o,es,ep,base_of e (noA e d),d,r⟩
  have hKb:K.In (WJ s₁.heap H):=fun b o e=>base_of (KX b o e) (by
   cases q:H b with
   |none=>rfl
   |some u =>
    have e':b=a:=hA b (by rw [q];simp);subst e';rw [hK (by rw [q];simp)] at e;cases e)
  have hM:Mod K mg (WJ s₁.heap H):=⟨hKb,nsK hns,⟨mb,nsK hb,hbb⟩,let ⟨mc,h1,h2⟩:=hlim;⟨mc,nsK h1,h2⟩⟩;have e0:Env0 P w K mg (WJ s₁.heap H) callerA [] s₁ H:=⟨rfl,hM,fun b o e=>_pO e,GU (_ot _ _),trivial,fun b hb=>absurd (show b∈([]:List Addr) from hb) (by simp),hok,.of_eq hg⟩;refine Gx ((F _ hKb (nsK hns)).run callerA [] s₁ H ⟨[.ref a],[]⟩ [.ref a] [.ref a] _ _ hr e0 (hbind s₁ (.ref a)) (.cons rfl .nil) (hsp H hO hS)) fun r s' h=>?_;cases r with
  |error e=>exact (hCX H e s' h).elim
  |ok fl =>
   cases fl with
   |next=>exact False.elim h
   |brk=>exact False.elim h
   |cont=>exact False.elim h
   |ret u =>
    obtain ⟨v,H',os,bare,un,hok',r',q⟩:=h;have q':v=.bl true:=q;subst q';obtain rfl:u=Value.bool true:=r';refine ⟨rfl,OldK.of_keep fun b o e=>?_,os,bare⟩;cases q:H b with
    |none=>exact un.keep b o e q (by intro z;exact absurd (show b∈([]:List Addr) from z) (by simp)) (by simp)
    |some u =>
     rcases hO b with z|⟨ob,xs,z⟩
     ·rw [q] at z;cases z
     ·have z2:=un.frzs b ob _ z;obtain ⟨e1,_⟩:=hok b _ z;obtain ⟨e2,_⟩:=hok' b _ z2;rw [e] at e1;cases e1;exact e2
 cases hk:K.lookup a with
 |some o =>
  have e:=KX a o hk;rw [ha] at e;cases e;refine core (fun _=>none) (fun _=>.inl rfl) (.inr ⟨_,vs.toArray,_,hk,rfl,rfl,rfl,by rw [Qy,lenV];exact hl,by simpa using rv⟩) (fun b u z=>by have z':(none:Option HO)=some u:=z;cases z') (fun b z=>absurd rfl z) fun z=>absurd rfl z
 |none =>
  refine core (fun b=>if b=a then some (.frz { cls:=.type "list",data:=.seq vs.toArray } (.lst (ns.map V.int))) else none) (fun b=>?_) (.inl (.inr ⟨{ cls:=.type "list",data:=.seq vs.toArray },Qb rfl⟩)) (fun b u z=>?_) (fun b z=>?_) fun _=>hk
  ·by_cases hb:b=a
   ·exact .inr ⟨_,_,Qb hb⟩
   ·exact .inl (Qa hb)
  ·by_cases hb:b=a
   ·have z':=(Qb hb).symm.trans z;cases z';subst hb;exact ⟨ha,by rw [Qc];exact hl,vs,_,rv,ha⟩
   ·have z':=(Qa hb).symm.trans z;cases z'
  ·by_cases hb:b=a
   ·exact hb
   ·exact absurd (Qa hb) z
theorem walk_of {l:W.OpenLaw} {n k:Nat} {q:Program} {loose:List Str} {XP:(Str->Option Value)->Heap->Prop} {YP:World->Heap->Prop} {d:DefRec} {K:Params->W.Frag} {CX:World->YA} {sp:World->Sp} {x:Str}
  (hn:l.most=some n) (hn2:n≤sizeLine) (hdf:d.params.defaults=[]) (hr:Room k callerA)
  (hY:∀(w:World) (h:Heap),YP w h->(K w.params).In h)
  (F:∀(w:World) (mg:Str->Option Value) (fa:Addr) (h:Heap),(K w.params).In h->h.Ns mainGlobals mg->mg d.name=some (.ref fa) →
   ∃fd:FuncData,(∀(s:Shared) (u:Value),BindsTo s fd ⟨[u],[]⟩ [(x,u)]) ∧
    ∀base:Heap,(K w.params).In base->base.Ns mainGlobals mg->FnOk l.prog w (K w.params) mg base (CX w) k fa fd [x] (sp w))
  (hsp:∀(w:World) (H:Hp) (a:Addr) (ns:List Int),ns.length≤n->_a4 H->SqL (K w.params) H a (ns.map V.int)->sp w [.ref a] H (fun v _=>v=.bl true) fun _ _ _=>False)
  (hCX:∀(w:World) (H:Hp) (s:Shared) (e:Value) (s':Shared),CX w [] H s (fun _ _ _=>False) e s'->False) :
  W.WalkO q loose XP YP l.row.toRowW d [] (fun f vs=>PySem.call f vs):=by
 refine Att.attach_call hn hdf fun w s₀ s₁ mg mb fa o pm cd doc a vs ns G Y ho hd hcd hmg hobj hints hlen hg=>?_;have KX:=hY w _ Y;obtain ⟨fd,hb,hF⟩:=F w mg fa _ KX G.T.g hmg;exact _nq KX G.T.g G.T.b G.T.builtins G.T.nolimit hg hobj hints (Qj hlen hn2) hr hF hb (fun H hO hS=>hsp w H a ns hlen hO hS) fun H e s'=>hCX w H s₁ e s'
noncomputable def Yp (s:Stmt) (j:Nat):Stmt:=match s with
 |.ClassDef _ _ _ body _ _ _ _ _ _ _=>body.getD j (.Pass ⟨0,0,0,0⟩)
 |_=>.Pass ⟨0,0,0,0⟩
noncomputable def XY (s:Stmt):Arguments:=match s with
 |.FunctionDef _ a _ _ _ _ _ _ _ _=>a
 |_=>{ posonlyargs:=[],args:=[],vararg:=none,kwonlyargs:=[],kw_defaults:=[],kwarg:=none,defaults:=[] }
noncomputable def Xj (s:Stmt):List Stmt:=match s with
 |.FunctionDef _ _ b _ _ _ _ _ _ _=>b
 |_=>[]
noncomputable def _u (s:Stmt):Scope:=match s with
 |.FunctionDef _ _ _ _ _ _ sc _ _ _=>sc
 |_=>{ kind:=.function,names:=[],isGenerator:=false,isCoroutine:=false }
noncomputable abbrev E0:XK:=fun _ _ _=>False
structure Fun (K:W.Frag) (x qual:Str) (st:Stmt) (f:Addr) (fd:FuncData):Prop where
 ex:∃(oc:Value) (od:Option Addr) (kV doc pm:Value) (an:Option Addr) (cdv ct:Value) (osl:Array (Option Value)),
  fd=W.fnOf x qual (XY st) (Xj st) (_u st) .none kV doc pm an cdv ct∧K.lookup f=some ⟨oc,od,.func fd,osl⟩∧W.codeIn K cdv qual=true
 kp:W.keepIn K (.ref f)=true
section
variable {P:Program} {w:World} {K:W.Frag} {mg:Str->Option Value} {base:Heap}
theorem Fun.binds {x qual:Str} {st:Stmt} {f:Addr} {fd:FuncData} {ps:List Str} (F:Fun K x qual st f fd)
  (h:∀(kV doc pm:Value) (an:Option Addr) (cdv ct:Value) (us:List Value),us.length=ps.length->bindArgs (W.fnOf x qual (XY st) (Xj st) (_u st) .none kV doc pm an cdv ct) ⟨us,[]⟩=pure (ps.zip us)):Binds K fd ps []:=by
 obtain ⟨oc,od,kV,doc,pm,an,cdv,ct,osl,rfl,lk,hcd⟩:=F.ex;exact .all (h kV doc pm an cdv ct)
theorem _lA {x qual:Str} {st:Stmt} {f:Addr} {oc:Value} {od an:Option Addr} {osl:Array (Option Value)} {kV doc pm cdv ct:Value} (l:K.lookup f=some ⟨oc,od,.func (W.fnOf x qual (XY st) (Xj st) (_u st) .none kV doc pm an cdv ct),osl⟩)
  (c:W.codeIn K cdv qual=true) (k:W.keepIn K (.ref f)=true):Fun K x qual st f (W.fnOf x qual (XY st) (Xj st) (_u st) .none kV doc pm an cdv ct):=⟨⟨oc,od,kV,doc,pm,an,cdv,ct,osl,rfl,l,c⟩,k⟩
end
theorem _C {A:Around} {k:Nat} (hr:Room k A):A.units+1<cLine:=Q8 (Nat.add_le_add_left (by decide:1≤64) _) hr.units
theorem small1000 {n:Nat} (h:n≤1000):n<sizeLine:=Q8 h (by decide)
section
variable {X:Cx}
theorem pv (i:Nat) {x:Str} {pos:Pos} (hN:X.N[i]?=some x:=by rfl) (hv:Vis X.env.scope x:=by first|exact Or.inl rfl|exact Or.inr (Or.inl rfl)|exact Or.inr (Or.inr rfl)) (hd:(x==("__debug__" : Str))=false:=by decide)
  (hcd:(x==("__classdict__" : Str))=false:=by decide):PE X (.Name x pos) (XJ i):=_cn hN hv hd hcd
theorem JZ:YJ X (.builtin "len") (fun xs H Q=>∃a kvs,xs=[V.ref a]∧H a=some (.dK kvs)∧Q (.int kvs.length) H):=by
 intro pins s σ H xs us Q I r h;obtain ⟨a,kvs,rfl,ha,q⟩:=h;obtain ⟨u,rfl,ru⟩:=YX r;cases ru;exact _n9 I (.inl ha) fun t s' I'=>⟨.int kvs.length,H,I',⟨t,rfl⟩,q⟩
end
theorem _O {A B:Prop} (h:B):if false=true then A else B:=by
 rw [Qa QI];exact h
theorem _1 {A B:Prop} (h:A):if true=true then A else B:=by
 rw [Qb rfl];exact h
noncomputable def Same (H H':Hp):Prop:=∀b o,H b=some o->H' b=some o
theorem Same.refl (H:Hp):Same H H:=fun _ _ h=>h
theorem Same.trans {H H1 H2:Hp} (a:Same H H1) (b:Same H1 H2):Same H H2:=fun c o h=>b c o (a c o h)
section
variable {κ:Type} [DecidableEq κ]
end
end L2
set_option maxHeartbeats 4000000
namespace L2
open PySem PySem.Spec PyProof.Rows
variable {C a b e f it:Addr} {A:Around} {X:Cx} {tg:Expr} {o:HO} {h h':Heap} {H H':Hp} {J:It} {pins:List (Addr×Obj)} {fp:List Addr} {es:List Expr} {N:List Str} {xs:List V} {bmB:List Value} {i n t':Nat} {Q:Option Value->Shared->Prop} {p pos:Pos} {P prog:Program} {R:Result->Shared->Prop} {sc:Scope} {s s':Shared} {newId:String} {te:TE} {cls:Value} {E:Value->Shared->Prop} {CX:YA}
section
variable {w:World}
end
structure Flies (P:Program) (w:World) (outer:List Env) (H H':Hp) (s s':Shared) (e:Addr) (cls:Value):Prop where
 os:s'.os=s.os
 bare:AllBare s'.gens
 un:Un (Xy outer) [] H H' s.heap s'.heap
 fly:∃B a0,Heap.FlyingW B outer e cls a0 s'.heap∧HOk P w H' B∧(∀b o,s.heap.get? b=some o->H b=none->b∉Xy outer->B.get? b=some o) ∧
  ∀b o,s.heap.get? b=some o->b∉Xy outer->∃o',B.get? b=some o'
noncomputable def Xd (P:Program) (w:World):YA:=fun outer H s E u s'=>∃e cls H',u=.ref e∧Flies P w outer H H' s s' e cls∧E cls none H'
section
variable {σ:St}
end
noncomputable abbrev XS:=St->XK
noncomputable def WM (CX:YA) (X:Cx) (E:XS):Prop:=∀(pins:List (Addr×Obj)) (σ:St) (H:Hp) (s:Shared) (e:Value) (s':Shared),Inv X pins σ H s->CX X.stack H s (E σ) e s'->X.xe e s'
theorem Xn {w:World}:WM (Xd P w) X (fun _=>E0):=fun _ _ _ _ _ _ _ ⟨_,_,_,_,_,z⟩=>False.elim z
section
variable {w:World} {K:W.Frag} {mg:Str->Option Value} {base:Heap} {qual:Str} {scope:Scope} {cd:Value} {outer:List Env} {E:XK}
end
section
variable {k:Nat} {fd:FuncData} {ps:List Str} {sp:Sp} {dvs:List V} {ds:List Value} {E:XS} {x m:Str} {apos:Pos} {e o:Expr} {ta:TE} {t:TA}
noncomputable def _ex (sp:Sp) (dvs:List V) (E:XS) (t:TA):TE:=fun σ H Q=>t σ H fun vs H1=>sp (vs++dvs) H1 Q (E σ)
theorem V7 {σ:St} {Q:VK} {us:List Value} {vs:List V} (F:FnOk X.prog X.w X.K X.mg X.base CX k f fd ps sp) (hr:Room k X.A) (hb:Binds X.K fd ps ds) (hd:Vals dvs ds) (hx:WM CX X E)
 (I:Inv X pins σ H s) (r:Vals vs us) (h:sp (vs++dvs) H Q (E σ)):wpAny (model X.prog X.w) X.A (call (.ref f) us) (EP X pins σ Q) X.xe s:=by
 have r2:Vals (vs++dvs) (us++ds):=r.append hd;have hl:(us++ds).length=ps.length:=by rw [←r2.length];exact F.len _ _ _ _ h
 refine wpAny_call (Gx (F.run X.A X.stack s H ⟨us,[]⟩ (us++ds) (vs++dvs) Q (E σ) hr I.env0 (hb s us I.kIn hl) r2 h) fun r s' hq=>?_);cases r with
 |error e=>exact hx pins σ H s e s' I hq
 |ok fl =>
  cases fl with
  |ret u=>exact I.after hq
  |next=>exact False.elim hq
  |brk=>exact False.elim hq
  |cont=>exact False.elim hq
theorem _if (F:FnOk X.prog X.w X.K X.mg X.base CX k f fd ps sp) (hr:Room k X.A) (hg:Gl X x) (hm:X.mg x=some (.ref f)) (hk:W.keepIn X.K (.ref f)=true) (hb:Binds X.K fd ps ds) (hd:Vals dvs ds) (hx:WM CX X E)
 (ha:PA X (e::es) t) (hdb:(x==("__debug__": Str))=false:=by decide) (he:starEach (e::es) X.env=(false,eval e X.env)::starEach es X.env:=by rfl) (hpl:(backTo pos (starEach es X.env)).any (·.1)=false:=by rfl) :
  PE X (.Call (.Name x p) (e::es) [] pos) (_ex sp dvs E t):=by
 intro pins s σ H Q I h;refine RX (_ae I hg hm ?_ hdb);refine RY (h₀:=X.base) I.ok.mod.kin hk (_p (ha pos pins s σ H _ I h) fun us s1 ⟨vs,H1,I1,r,q⟩=>⟨I1.kIn,?_⟩) he hpl;exact V7 F hr hb hd hx I1 r q
end
section
variable {K:W.Frag}
end
section
variable {x:Str} {np cpos:Pos} {e₀:Expr} {rest:List Expr} {t:TA} {B initId:String} {E:XS}
end
noncomputable def _cA (cls:Value) (e:Addr):Heap->Prop:=fun h=>∃o vs,h.get? e=some o∧o.cls=cls∧o.data=.fields vs
noncomputable def _gE (cls:Value) (e:Addr):HO:=.ext (_cA cls e)
section
variable {w:World}
end
section
variable {w:World} {outer:List Env}
end
section
variable {σ:St}
end
section
variable {pins':List (Addr×Obj)} {σ:St} {W:Value->Shared->Prop}
end
section
variable {body suite:List Stmt} {b₀:Stmt} {x n:Str} {np hpos:Pos} {tb:XS->TS} {ts:TS}
end
structure ExcK (K:W.Frag) (C:Addr):Prop where
 ga:W.findIn K (.ref C) "__getattribute__"=some (some (.builtin "BaseException.__getattribute__"))
 gt:W.findIn K (.ref C) "__getattr__"=some none
 cl:W.findIn K (.ref C) "__class__"=some (some (.builtin "object.__class__"))
 mb:W.mroIn K C (.type "BaseException")=some true
 mo:W.mroIn K C (.type "object")=some true
section
variable {w:World} {K:W.Frag} {g:Array GenState} {d:Drawn} {t:Nat} {os:OsState} {ob:Obj}
theorem _p4:(".".intercalate ("object.__class__".cutAt '.').dropLast)="object":=by trivial
theorem _jH (X:K.In h) (Z:ExcK K C) (hx:h.get? a=some ob) (hc:ob.cls=.ref C) (hq:R (.ok (.ret (.ref C))) ⟨h,g,d,t,os⟩) :
  codeAny (model prog w) A (.call (.builtin "getset_descriptor.__get__") ⟨[.builtin "object.__class__",.ref a,.ref C],[]⟩) R ⟨h,g,d,t,os⟩:=by
 have k5:(⟨h,g,d,t,os⟩:Shared).TypeIs (.builtin "object.__class__") "getset_descriptor":=NC
 have mo:W.Looks (model prog w) h (isSubtype (.ref C) (.type (".".intercalate ("object.__class__".cutAt '.').dropLast))) true:=by
  rw [_p4];exact W.looks_mroIn X Z.mo
 refine codeAny_call_builtin F.slot_gs_get.plain F.entry_gs_get (F.slot_gs_get.check _ _ _ _ _ _ _ _ k5 (F.args_gs_get _ _ _) ?_)
 repeat (any_goals (first|assumption|(with_reducible refine GC hx ?_;rw [hc])|(with_reducible refine mo.at ?_)|wp_step))
 refine ⟨ND _ (by trivial),GD F.entry_object_class ?_⟩
 repeat (any_goals (first|assumption|(with_reducible refine GC hx ?_;rw [hc])|wp_step))
theorem _m7 {tk:Tok} {Q:Fin->Shared->Prop} (X:K.In h) (Z:ExcK K C) (hx:h.get? a=some ob) (hc:ob.cls=.ref C) (hq:Q (.done (.ret (.ref C))) ⟨h,g,d,t,os⟩) :
  wpAny (model prog w) A (Builtin.«object.__getattribute__» ⟨[.ref a,.str "__class__" tk],[]⟩) Q E ⟨h,g,d,t,os⟩:=by
 have k5:(⟨h,g,d,t,os⟩:Shared).TypeIs (.builtin "object.__class__") "getset_descriptor":=NC;have f5:=NC;have f6:=F.slot_gs_get.lookup;have f7:=F.slot_gs_set.lookup;have lc:=GT (M:=model prog w) X Z.cl
 repeat (any_goals (first|assumption|(with_reducible refine GC hx ?_;rw [hc])|(with_reducible refine lc.at ?_)|wp_step))
 refine _jH X Z hx hc ?_
 repeat (any_goals (first|assumption|wp_step))
theorem _lB {M:Model} {nameV:Value} {Q:Unit->Shared->Prop} (X:K.In h) (Z:ExcK K C) (hx:h.get? a=some ob) (hc:ob.cls=.ref C) (hq:Q () ⟨h,g,d,t,os⟩) :
  wpAny M A (checkBuiltinCall "BaseException.__getattribute__" ⟨[.ref a,nameV],[]⟩) Q E ⟨h,g,d,t,os⟩:=by
 have kd:builtinKind "BaseException.__getattribute__"=some .slot:=by trivial
 have sp:splitId "BaseException.__getattribute__"=some ("BaseException","__getattribute__"):=by trivial
 have mb:=W.looks_mroIn (M:=M) X Z.mb;have ar:=F.args_bexc_ga (.ref a) nameV;simp only [checkBuiltinCall,kd,sp];refine Qd ?_;unfold isInstance
 repeat (first|(with_reducible refine GC hx ?_;rw [hc])|(with_reducible refine mb.at ?_)|wp_step)
 exact hq
theorem _mQ {tk:Tok} (X:K.In h) (Z:ExcK K C) (hx:h.get? a=some ob) (hc:ob.cls=.ref C) (hq:R (.ok (.ret (.ref C))) ⟨h,g,d,t,os⟩) :
  codeAny (model prog w) A (.call (.builtin "BaseException.__getattribute__") ⟨[.ref a,.str "__class__" tk],[]⟩) R ⟨h,g,d,t,os⟩ :=
 codeAny_call_builtin (F.excAttr_ValueError).ga.plain F.entry_bexc_ga (_lB X Z hx hc (_m7 X Z hx hc hq))
theorem _it {tk:Tok} {fill expr:Bool} {Q:Value->Shared->Prop} (X:K.In h) (Z:ExcK K C) (hx:h.get? a=some ob) (hc:ob.cls=.ref C) (hq:Q (.ref C) ⟨h,g,d,t,os⟩) :
  wpAny (model prog w) A (getAttrBy (.ref a) (.str "__class__" tk) fill expr) Q E ⟨h,g,d,t,os⟩:=by
 have f3:=(F.excAttr_ValueError).ga.bind (.ref a);have y0:(expr&&onTheHeap (Value.builtin "BaseException.__getattribute__"))=false:=by cases expr<;>rfl
 have y2:(Value.builtin "BaseException.__getattribute__"==Value.builtin "object.__getattribute__")=false:=by trivial
 have y1:(onTheHeap (Value.ref C)&&Value.builtin "BaseException.__getattribute__"==Value.builtin "object.__getattribute__")=false:=by rw [y2];rfl
 have lg:=GT (M:=model prog w) X Z.ga;have lt:=GT (M:=model prog w) X Z.gt
 repeat (any_goals (first|assumption|(with_reducible refine GC hx ?_;rw [hc])|(with_reducible refine lg.at ?_)|(with_reducible refine lt.at ?_)|wp_step))
 refine _mQ X Z hx hc ?_
 repeat (any_goals (first|assumption|wp_step))
theorem _la (X:K.In h) (Z:ExcK K C) (hx:h.get? a=some ob) (hc:ob.cls=.ref C) (hq:Q (some (.ref C)) ⟨h,g,d,t+1,os⟩) :
  wpAny (model prog w) A (getAttr? (.ref a) "__class__") Q E ⟨h,g,d,t,os⟩:=by
 unfold getAttr? getAttrBy?
 repeat (any_goals (first|assumption|with_reducible apply _it X Z hx hc|wp_step))
end
section
variable {K:W.Frag}
theorem _l0 (Z:ExcK K C):W.KitX K (.ref a) (.ref C) (_cA (.ref C) a) where
 ty:=fun M h X p=>by
  obtain ⟨o,vs,h1,h2,_⟩:=p;exact h2▸(W.Looks.ld h1).andThen .now
 it:=fun M h X p=>by
  obtain ⟨cd,hc,_⟩:=N2.mp Z.mo;unfold W.clsIn at hc;split at hc
  ·rename_i ho;intro A' Q' E' s' k q;unfold isType loadHead;exact Qd (wpAny_loadPart (k _ _ (X _ _ ho)) (Qg q))
  ·cases hc
 ne:=fun h tp dd its n sl X htp=>by
  obtain ⟨cd,hc,_⟩:=N2.mp Z.mo;refine QP.mpr fun q=>?_;have e:C=tp:=Value.ref.inj (RH.mp q);subst e;unfold W.clsIn at hc;split at hc
  ·rename_i ho;have z:=(X _ _ ho).symm.trans htp;cases z
  ·cases hc
 ca:=fun {prog w A E Q s} X p k=>by
  obtain ⟨h,g,d,t,os⟩:=s;obtain ⟨o,vs,h1,h2,_⟩:=p;exact _la X Z h1 h2 k
end
inductive Kd (K:W.Frag) (H:Hp):V->Value->Prop where
 |of {x:V} {t:Value} (e:TyOf K H x t):Kd K H x t
 |exc {a C:Addr} (Z:ExcK K C) (e:H a=some (_gE (.ref C) a)):Kd K H (.ref a) (.ref C)
 |sqt {a:Addr} {xs:List V} (e:SqT K H a xs):Kd K H (.ref a) (.type "tuple")
 |sql {a:Addr} {xs:List V} (e:SqL K H a xs):Kd K H (.ref a) (.type "list")
noncomputable def isC:V->Bool
 |.ref _=>true
 |.ty _=>true
 |_=>false
noncomputable def _by:V->Value
 |.ref a=>.ref a
 |.ty n=>.type n
 |_=>.none
theorem _n5:YJ X (.builtin "isinstance") (fun xs H Q=>∃x c t b,xs=[x,c]∧isC c=true∧Kd X.K H x t∧W.kitOne X.K t (_by c)=some b∧Q (.bl b) H):=by
 intro pins s σ H xs us Q I r h;obtain ⟨x,c,t,b,rfl,ic,ty,e,q⟩:=h;obtain ⟨u,v,rfl,rx,rc⟩:=V5 r
 have ec:_by c=v:=by
  cases c with
  |ref a=>exact Eq.symm rc
  |ty n=>exact Eq.symm rc
  |_=>cases ic
 rw [ec] at e;have fin:∀tk,EP X pins σ Q (.bool b) { s with toks:=tk }:=fun tk=>⟨.bl b,H,I.tok tk,rfl,q⟩;cases ty with
 |of ty=>exact _mu I rx ty e fin
 |@exc a C Z ea =>
  cases (show u=Value.ref a from rx);obtain ⟨p,_,_⟩:=(show ObjOk X.prog X.w H s.heap a (_gE (.ref C) a) from I.hok a _ ea);exact QZ (_l0 Z) I.kIn p e (fun z=>nomatch z) fin
 |@sqt a ys ea =>
  cases (show u=Value.ref a from rx);rcases ea with ea|⟨o,its,n,h1,h2,_⟩
  ·obtain ⟨_,_,_,p⟩:=(show ObjOk X.prog X.w H s.heap a (.tup ys) from ea.ok I.hok);obtain ⟨o,h1,h2,_⟩:=p;exact QZ W.kitx_tuple I.kIn ⟨o,h1,h2⟩ e (fun z=>nomatch z) fin
  ·exact QZ W.kitx_tuple I.kIn ⟨o,I.kIn _ _ h1,h2⟩ e (fun z=>nomatch z) fin
 |@sql a ys ea =>
  cases (show u=Value.ref a from rx);rcases ea with ea|⟨o,its,n,h1,h2,_⟩
  ·obtain ⟨_,_,n,_,h1⟩:=(show ObjOk X.prog X.w H s.heap a (.lst ys) from ea.ok I.hok);exact QZ GV I.kIn ⟨_,h1,rfl⟩ e (fun z=>nomatch z) fin
  ·exact QZ GV I.kIn ⟨o,I.kIn _ _ h1,h2⟩ e (fun z=>nomatch z) fin
noncomputable def _nb (i j:Int):Prop:=i.natAbs<2 ^ 1000∧j.natAbs<2 ^ 1000
theorem _fx {x:Int} (h:x.natAbs<2 ^ 1000):Builtin.Int.intBits x≤2 ^ 20:=by
 unfold Builtin.Int.intBits;split
 ·exact QM _
 ·rename_i z
  have n:x.natAbs≠0:=by
   intro q;exact z (by rw [Int.natAbs_eq_zero.mp q];rfl)
  have:=(Nat.log2_lt n).mpr h;omega
theorem _fu:Yi X (binaryOp .Mult) (rI _nb fun i j=>.int (i*j)):=Je fun _ _ _ _ _ _ _ hc q=>mul_int q (.of_bits (_fx hc.1) (_fx hc.2))
theorem XQ:Yi X (binaryOp .FloorDiv) (rI (fun _ j=>j≠0∧j.natAbs<2 ^ 1000) fun i j=>.int (i.fdiv j)):=Je fun i j _ _ _ _ _ hc q =>
 floordiv_int hc.1 q (.inl (PyProof.noPylong_of_log2 (by
  have n:j.natAbs≠0:=fun z=>hc.1 (Int.natAbs_eq_zero.mp z);have:=(Nat.log2_lt n).mpr hc.2;omega)))
theorem Fun.okX {w:World} {K:W.Frag} {mg:Str->Option Value} {base:Heap} {x qual:Str} {st:Stmt} {fd:FuncData} {ps:List Str} {k:Nat} {sp:Sp} (F:Fun K x qual st f fd) (S:FnScope N ps (_u st))
 (len:∀vs H Q E,sp vs H Q E->vs.length=ps.length)
 (hbody:∀(cdv:Value) (A:Around) (outer:List Env) (s:Shared) (H:Hp) (vs:List V) (Q:VK) (E:XK),Room k (A.deeper (envOfC qual (_u st) s.heap.objs.size f cdv))->sp vs H Q E →
 ∃t,PSs (Vh CX P w K mg base N qual (_u st) f cdv A outer s H E) (Xj st) t∧t { nx:=fun _ H'=>Q .non H',rt:=Q } (start N vs) H):FnOk P w K mg base CX (k+1) f fd ps sp:=by
 obtain ⟨oc,od,kV,doc,pm,an,cdv,ct,osl,rfl,lk,hcd⟩:=F.ex;exact _gK lk hcd S len fun A outer s H vs Q E hr hsp=>hbody cdv A outer s H vs Q E hr hsp
theorem _aR:bootBuiltins "int"=some (.type "int"):=by trivial
theorem _lm:bootBuiltins "bool"=some (.type "bool"):=by trivial
theorem WT:bootBuiltins "str"=some (.type "str"):=by trivial
theorem Ua:bootBuiltins "list"=some (.type "list"):=by trivial
theorem _cH:bootBuiltins "tuple"=some (.type "tuple"):=by trivial
theorem _ci:bootBuiltins "dict"=some (.type "dict"):=by trivial
theorem _8:bootBuiltins "len"=some (.builtin "len"):=by trivial
theorem _ip:bootBuiltins "abs"=some (.builtin "abs"):=by trivial
theorem Jf:bootBuiltins "max"=some (.builtin "max"):=by trivial
theorem Ub:bootBuiltins "min"=some (.builtin "min"):=by trivial
theorem _od:bootBuiltins "isinstance"=some (.builtin "isinstance"):=by trivial
theorem _j {p:Addr} (n:H p=none):Same H (_b H p o):=fun b u e=>by
 rw [_g (_R e n)];exact e
theorem Same.rd (e:Same H H') {u:HO} (r:Rd H a u):Rd H' a u:=by
 rcases r with r|⟨o,r⟩
 ·exact .inl (e _ _ r)
 ·exact .inr ⟨o,e _ _ r⟩
theorem Same.sqt {K:W.Frag} (e:Same H H') (h:SqT K H a xs):SqT K H' a xs:=by
 rcases h with h|h
 ·exact .inl (e.rd h)
 ·exact .inr h
theorem Same.sql {K:W.Frag} (e:Same H H') (h:SqL K H a xs):SqL K H' a xs:=by
 rcases h with h|h
 ·exact .inl (e.rd h)
 ·exact .inr h
theorem Same.ty {K:W.Frag} {x:V} {t:Value} (e:Same H H') (h:TyOf K H x t):TyOf K H' x t:=by
 cases h with
 |non=>exact .non
 |bl b=>exact .bl b
 |int i=>exact .int i
 |str y=>exact .str y
 |flt y=>exact .flt y
 |lst q=>exact .lst (e _ _ q)
 |frz q=>exact .frz (e _ _ q)
 |tup q=>exact .tup (e _ _ q)
 |dK q=>exact .dK (e _ _ q)
 |dT q=>exact .dT (e _ _ q)
 |ins q c a n tk m=>exact .ins (e _ _ q) c a n tk m
theorem Same.kd {K:W.Frag} {x:V} {t:Value} (e:Same H H') (h:Kd K H x t):Kd K H' x t:=by
 cases h with
 |of q=>exact .of (e.ty q)
 |exc Z q=>exact .exc Z (e _ _ q)
 |sqt q=>exact .sqt (e.sqt q)
 |sql q=>exact .sql (e.sql q)
noncomputable def _oO (K:W.Frag) (t:TA):TE:=fun σ H Q=>t σ H fun xs H1=>∃x c ty b,xs=[x,c]∧isC c=true∧Kd K H1 x ty∧W.kitOne K ty (_by c)=some b∧Q (.bl b) H1
theorem Xh (K:W.Frag) {e:Expr} {t:TA} (hg:Gl X "isinstance") (hm:X.mg "isinstance"=none) (ha:PA X (e::es) t) (hK:X.K=K:=by rfl)
 (he:starEach (e::es) X.env=(false,eval e X.env)::starEach es X.env:=by rfl) (hpl:(backTo pos (starEach es X.env)).any (·.1)=false:=by rfl):PE X (.Call (.Name "isinstance" p) (e::es) [] pos) (_oO K t):=by
 subst hK;exact _J (_n5 (X:=X)) hg hm _od ha (by decide) (by decide) he hpl
section
variable {K:W.Frag}
end
section
variable {σ:St}
end
section
variable {σ:St}
end
section
variable {w:World}
theorem _qf {elt target iter:Expr} {ifs:List Expr} {scope:Scope} {it acc:Value} {env:Env} (J:Nat->Shared->Prop)
 (turn:∀n s,J n s->wpAny (model prog w) A (pyNext it) (fun r s1=>match r with
 |none=>R (.ok .next) s1
 |some v => wpAny (model prog w) A (letOwnedTupleGo target it v) (fun _ s2 => wpAny (model prog w) A (assign target env v) (fun _ s3 =>
 wpAny (model prog w) A (forIn ifs true fun c r=>if r=true then do let ok ←isTrue c env (eval c env);pure (ForInStep.yield ok) else pure (ForInStep.yield r)) (fun ok s4 =>
 if ok=true then wpAny (model prog w) A (eval elt env) (fun x s5=>wpAny (model prog w) A (call (.builtin "list.append") [acc,x]) (fun _ s6=>∃m,m<n∧J m s6) (fun _ _=>False) s5) (fun _ _=>False) s4
 else ∃m,m<n∧J m s4) (fun _ _=>False) s3) (fun _ _=>False) s2) (fun _ _=>False) s1) (fun _ _=>False) s)
 (n:Nat) (h:J n s):codeAny (model prog w) A (.compLoop (.ListComp elt [⟨target,iter,ifs,0⟩] scope pos) 0 it acc env) R s:=by
 refine codeAny_loop rfl J (fun n s hJ=>?_) n h;show wpAny _ A ((compTurn (.ListComp elt [⟨target,iter,ifs,0⟩] scope pos) 0 it acc env).onRaise (fun x=>do noteFrame x env;theTreesLotGoes x)) _ _ s;refine wpAny_noted ?_;rw [compTurn_list];refine Qd (Gs (Qd (Rb (turn n s hJ) (fun r s1 h1=>?_) fun _ _ z=>z.elim)));cases r with
 |none=>exact Qg h1
 |some v =>
  refine Qd (Rb h1 (fun _ s2 h2=>Qd (Rb h2 (fun _ s3 h3=>Qd (Rb h3 (fun ok s4 h4=>?_) fun _ _ z=>z.elim)) fun _ _ z=>z.elim)) fun _ _ z=>z.elim);cases ok with
  |false=>exact Qg ⟨rfl,h4⟩
  |true=>exact Qd (Qd (Rb h4 (fun x s5 h5=>Qd (Rb h5 (fun _ s6 h6=>Qg (Qg ⟨rfl,h6⟩)) fun _ _ z=>z.elim)) fun _ _ z=>z.elim))
end
noncomputable def UH (X:Cx) (ifs:List Expr) (t:TT):Prop :=
 ∀(pins:List (Addr×Obj)) (s:Shared) (σ:St) (H:Hp) (Q:Bool->Hp->Prop),Inv X pins σ H s->t σ H Q →
  wpAny (model X.prog X.w) X.A (forIn ifs true fun c r=>if r=true then do let ok ←isTrue c X.env (eval c X.env);pure (ForInStep.yield ok) else pure (ForInStep.yield r)) (TP X pins σ Q) X.xe s
noncomputable def _bU:TT:=fun _ H Q=>Q true H
theorem Wy:UH X [] _bU:=fun _ _ _ H _ I h=>wpAny_tests_nil ⟨H,I,h⟩
theorem Wr {c:Expr} {t:TT} (h:PT X c t):UH X [c] t:=fun pins s σ H Q I q=>wpAny_tests_one (h pins s σ H Q I q)
noncomputable abbrev Cx.block (X:Cx) (N:List Str) (sc:Scope) (cl:List (Str×Addr)) (fp:List Addr) (s3:Shared) (H3:Hp):Cx :=
 { X with N:=N,s₀:=s3,H₀:=H3,env:=compEnvC sc cl s3.heap.objs.size X.env,outer:=X.stack,ex:=fp,fn:=fun _=>false,pn:=[],xe:=fun _ _=>False }
structure CompSc (X:Cx) (N:List Str) (sc:Scope) (cl:List (Str×Addr)) (σc:St->St):Prop where
 kind:sc.kind=.function
 names:∀x∈sc.names,x.2=.local->sc.names.lookup x.1=some .local
 nocell:∀y∈sc.names,y.2≠.cell
 clos:closureFor sc X.env=pure cl
 sub:∀x c,cl.lookup x=some c->X.env.cells.lookup x=some c
 has:∀x,((relabel sc X.env).names.lookup x=some .cell∨(relabel sc X.env).names.lookup x=some .free)->∃c,cl.lookup x=some c
 len:∀σ:St,(σc σ).length=N.length
 cap:∀(σ:St) (i:Nat) (x:Str) (v:V),N[i]?=some x->(σc σ)[i]?=some (some v)->((relabel sc X.env).names.lookup x=some .cell∨(relabel sc X.env).names.lookup x=some .free)∧(X.env.scope.names.lookup x=some .cell∨X.env.scope.names.lookup x=some .free)∧∃j:Nat,X.N[j]?=some x∧σ[j]?=some (some v)
noncomputable def JE (J:It) (σ0:St) (g:TG) (tt:TT) (te:TE) (Q:VK) (H1:Hp):Prop:=∀D,H1 D=none →
 ∃W:Nat->Nat->St->List V->Hp->Prop,(∃m,W 0 m σ0 [] (_b H1 D (.lst [])))∧∀i m σ1 ys H2,W i m σ1 ys H2->H2 D=some (.lst ys) ∧
  ((J.stop i H2∧Q (.ref D) H2)∨(J.go i H2∧∃N:St->List V->Hp->Prop,(∀σ2 ys2 H3,N σ2 ys2 H3->∃m',m'<m∧W (i+1) m' σ2 ys2 H3) ∧
   ∀x H3,J.yld i H2 x H3->g x σ1 H3 fun σ2 H4=>tt σ2 H4 fun c H5=>if c=true then te σ2 H5 fun y H6=>H6 D=some (.lst ys)∧ys.length<sizeLine∧N σ2 (ys++[y]) (_b H6 D (.lst (ys++[y]))) else N σ2 ys H5))
noncomputable def _fX (wi:TI) (σc:St->St) (g:TG) (tt:TT) (te:TE):TE:=fun σ H Q=>wi σ H fun J H1=>JE J (σc σ) g tt te Q H1
section
variable {σ:St} {cl:List (Str×Addr)} {σc:St->St}
theorem Inv.block (I:Inv X pins σ H s) (S:CompSc X N sc cl σc) (hf:∀b∈fp,XT X pins H b) (hlt:∀b∈fp,b<s.heap.objs.size) (k:∀b u,s.heap.get? b=some u->h'.get? b=some u) (hn:h'.Ns s.heap.objs.size fun _=>none) :
  Inv (X.block N sc cl fp s H) [] (σc σ) H { s with heap:=h',toks:=t' }:=by
 have kin:∀x,(X.block N sc cl fp s H).env.kindOf x=(relabel sc X.env).names.lookup x:=fun _=>rfl
 refine ⟨⟨I.ok.mod,S.kind,I.ok.glob,I.ok.blt,Qe _,fun x y c h1 h2=>I.ok.inj x y c (S.sub x c h1) (S.sub y c h2),fun x hx=>S.has x hx,fun x c z _=>(nomatch z),I.ok.hd,I.ok.frames,.inl rfl,fun b hb=>⟨Qz (hlt b hb),fun x c e=>(hf b hb).2.2.2.2.1 x c (S.sub x c e)⟩,
  I.bs,Qj I.ok.bsz I.sz,fun b o e hb=>?_,fun b hb z=>?_,I.stack,I.stkFree⟩,
  rfl,I.bare,Un.kept k,⟨_,hn,fun i x v e1 e2 e3=>?_⟩,fun x c e=>?_,I.hok.fresh (Qe _),fun x c e=>I.freeC x c (S.sub x c e),fun p hp=>absurd (show p∈([]:List (Addr×Obj)) from hp) (by simp),I.hok.kept k,S.len σ⟩
 ·rcases (hf b hb).2.2.2.1 with z|z
  ·exact I.ok.noex b o e z
  ·exact absurd (QK (Qp e) (Qj I.ok.bsz z)) (Rx _)
 ·rcases Qo.mp (I.stkSub b z) with y|y
  ·exact (hf b hb).2.1 y
  ·exact (hf b hb).2.2.1 y
 ·obtain ⟨hk,hko,j,hj,hσ⟩:=S.cap σ i x v e1 e2;obtain ⟨m,hm,hl⟩:=I.loc;obtain ⟨u,r,l⟩:=hl j x v hj hσ (by rcases hko with z|z;exact .inr (.inl z);exact .inr (.inr z));refine ⟨u,r,.inr ⟨hk,?_⟩⟩;rcases l with ⟨q,_⟩|⟨_,c,hc,q⟩
  ·have q':X.env.scope.names.lookup x=some .local:=q;rcases hko with z|z<;>(rw [z] at q';cases q')
  ·obtain ⟨c',hc'⟩:=S.has x hk;have e:=S.sub x c' hc';rw [hc] at e;cases e;exact ⟨c,hc',q.keeps k⟩
 ·obtain ⟨v,q⟩:=I.cell x c (S.sub x c e);exact ⟨v,q.keeps k⟩
end
section
variable {elt iter:Expr} {ifs:List Expr} {cl:List (Str×Addr)} {σc:St->St} {wi:TI} {g:TG} {tt:TT}
structure Gone (X:Cx) (pins:List (Addr×Obj)) (H:Hp) (C:Addr):Prop where
 free:H C=none
 loc:C≠X.env.locals
 new:X.s₀.heap.objs.size≤C
 cell:∀x c,X.env.cells.lookup x=some c->c≠C
 pin:∀p∈X.pn++pins,p.1≠C
theorem Inv.gone {σ:St} (I:Inv X pins σ H s) (G:Gone X pins H C) (sb:Heap.SameBut C s.heap h'):Inv X pins σ H { s with heap:=h' } :=
 I.turned (t':=s.toks) (it:=C) (fun b o n q=>(sb.2 b n).trans q) G.free G.loc (.inr G.new) G.cell G.pin
theorem _gt {s2:Shared} {σ:St} {H2:Hp} {Q:VK} {RR:Value->Addr->Result->Shared->Prop} {tn:Nat->Heap->Prop} 
 (hc:X.calm=true) (S:CompSc X N sc cl σc) (hg:∀fp s3 H3,PG (X.block N sc cl fp s3 H3) tg g) (ht:∀fp s3 H3,UH (X.block N sc cl fp s3 H3) ifs tt) (he:∀fp s3 H3,PE (X.block N sc cl fp s3 H3) elt te)
 (I2:Inv X pins σ H2 s2) (T:Turn X.prog X.w X.K tg J fp it tn) (st2:tn 0 s2.heap) (f2:∀b∈fp,XT X pins H2 b)
 (h2:∀D,H2 D=none->∃W:Nat->Nat->St->List V->Hp->Prop,(∃m,W 0 m (σc σ) [] (_b H2 D (.lst [])))∧∀i m σ1 ys H2,W i m σ1 ys H2->H2 D=some (.lst ys) ∧
 ((J.stop i H2∧Q (.ref D) H2)∨(J.go i H2∧∃N:St->List V->Hp->Prop,(∀σ2 ys2 H3,N σ2 ys2 H3->∃m',m'<m∧W (i+1) m' σ2 ys2 H3) ∧
 ∀x H3,J.yld i H2 x H3->g x σ1 H3 fun σ2 H4=>tt σ2 H4 fun c H5=>if c=true then te σ2 H5 fun y H6=>H6 D=some (.lst ys)∧ys.length<sizeLine∧N σ2 (ys++[y]) (_b H6 D (.lst (ys++[y]))) else N σ2 ys H5)))
 (hRR:∀D C m s7 H7,Inv X pins σ H7 s7->s7.heap.Ns C m->Gone X pins H7 C->Q (.ref D) H7->RR (.ref D) C (.ok .next) s7) :
  wpAny (model X.prog X.w) X.A (newList []) (fun acc s₃=>wpAny (model X.prog X.w) X.A (newFunctionEnv sc X.env.globals cl [] X.env.qual none .none (some X.env)) (fun cenv s₄ =>
   codeAny (model X.prog X.w) X.A (.compStart (.ListComp elt [⟨tg,iter,ifs,0⟩] sc pos) 0 (.ref it) acc { cenv with scope:=relabel sc X.env }) (RR acc cenv.locals) s₄) E s₃) E s2:=by
 refine Rc ?_;have hD:H2 s2.heap.objs.size=none:=I2.hok.fresh (Qe _)
 have I3:Inv X pins σ (_b H2 s2.heap.objs.size (.lst [])) { s2 with heap:=s2.heap.push { cls:=.type "list",dict:=none,data:=.seq ([]:List Value).toArray } } :=
  I2.laid (t':=s2.toks) (fun b u q=>Qq _ q) (Qe _) ⟨by decide,[],0,.nil,Qw _ rfl⟩
 have flt:∀b∈fp,b<s2.heap.objs.size:=fun b hb=>by
  obtain ⟨o,e,_⟩:=T.obj _ _ st2 b hb;exact Qp e
 obtain ⟨W,⟨m0,w0⟩,turn⟩:=h2 s2.heap.objs.size hD;have f3:∀b∈fp,XT X pins (_b H2 s2.heap.objs.size (.lst [])) b:=fun b hb=>⟨by rw [_g (Qz (flt b hb))];exact (f2 b hb).1,(f2 b hb).2⟩;have st3:tn 0 (s2.heap.push { cls:=.type "list",dict:=none,data:=.seq ([]:List Value).toArray }):=T.keep _ _ _ st2 fun b _ o q=>Qq _ q;have sz3:s2.heap.objs.size≤(s2.heap.push { cls:=.type "list",dict:=none,data:=.seq ([]:List Value).toArray }).objs.size:=by rw [Rk];exact Re _
 generalize s2.heap.push { cls:=.type "list",dict:=none,data:=.seq ([]:List Value).toArray }=h3 at *;generalize s2.heap.objs.size=D at *;refine wpAny_newFunctionEnv S.nocell (by intro y hy;simp at hy) (fun h4 hn4 hb4=>?_) S.kind;dsimp only at hn4 hb4 ⊢;have k4:∀b u,h3.get? b=some u->h4.get? b=some u:=fun b u q=>(hb4.2 b (Qz (Qp q))).trans (Qq _ q)
 have I4:Inv (X.block N sc cl fp { s2 with heap:=h3 } (_b H2 D (.lst []))) [] (σc σ) (_b H2 D (.lst [])) { s2 with heap:=h4,toks:=s2.toks+0 } :=
  I3.block S f3 (fun b hb=>QK (flt b hb) sz3) k4 hn4
 have st4:tn 0 h4:=T.keep _ _ _ st3 fun b _ o q=>k4 b o q
 have fb:∀{H':Hp},(∀b∈fp,H' b=none)->∀b∈fp,XT (X.block N sc cl fp { s2 with heap:=h3 } (_b H2 D (.lst []))) [] H' b:=fun hn b hb =>
  ⟨hn b hb,(I4.ok.exf b hb).1,I4.ok.exfs b hb,.inl hb,(I4.ok.exf b hb).2,fun p hp=>absurd (show p∈([]:List (Addr×Obj)) from hp) (by simp)⟩
 have fin:∀{σ':St} {H':Hp} {s':Shared} {h':Heap},Inv (X.block N sc cl fp { s2 with heap:=h3 } (_b H2 D (.lst []))) [] σ' H' s'->Heap.SameBut h3.objs.size s'.heap h'->Inv X pins σ H' { s' with heap:=h' }:=fun {σ' H' s' h'} J' sb=>by
  have lt3:∀b o,h3.get? b=some o->b≠h3.objs.size:=fun b o q=>Qz (Qp q);have lo:H' h3.objs.size=none:=J'.free
  have hk:HOk X.prog X.w H' h':=fun b u e=>(J'.hok b u e).stay (fun c v hcc q=>(sb.2 c (by
   rintro rfl;rcases hcc with z|z
   ·subst z;rw [lo] at e;cases e
   ·rw [lo] at z;cases z)).trans q) (fun _ q=>q) fun _ _ q=>q
  refine I3.call' (s':={ s' with heap:=h' }) (ch:=fp) J'.os ⟨fun b o q n hb hx=>(sb.2 b (lt3 b o q)).trans (J'.base.keep b o q n hb hx),fun b o q n hb hx=>?_,fun b o q n hx=>J'.base.free b o q n hx,fun b o q hx=>?_,J'.base.tups,J'.base.frzs,J'.base.tbls⟩ hk J'.bare fun b hb=>?_
  ·obtain ⟨sl,q1⟩:=J'.base.slot b o q n hb hx;exact ⟨sl,(sb.2 b (lt3 b o q)).trans q1⟩
  ·obtain ⟨o1,q1⟩:=J'.base.there b o q hx;exact ⟨o1,(sb.2 b (lt3 b o q)).trans q1⟩
  ·exact ⟨(f3 b hb).2.2.2.1,(f3 b hb).2.1,(f3 b hb).2.2.2.2.1,(f3 b hb).2.2.2.2.2⟩
 have loop : ∀s5 : Shared, Inv (X.block N sc cl fp { s2 with heap := h3 } (_b H2 D (.lst []))) [] (σc σ) (_b H2 D (.lst [])) s5 → tn 0 s5.heap →
   codeAny (model X.prog X.w) X.A (.compLoop (.ListComp elt [⟨tg,iter,ifs,0⟩] sc pos) 0 (.ref it) (.ref D) (compEnvC sc cl h3.objs.size X.env)) (RR (.ref D) h3.objs.size) s5:=fun s5 I5 st5=>by
  refine _qf (fun n s'=>∃i σ' ys H',Inv (X.block N sc cl fp { s2 with heap:=h3 } (_b H2 D (.lst []))) [] σ' H' s'∧tn i s'.heap∧(∀b∈fp,H' b=none)∧W i n σ' ys H') ?_ m0 ⟨0,_,[],_,I5,st5,fun b hb=>(f3 b hb).1,w0⟩;rintro n s6 ⟨i,σ6,ys,H6,I6,st6,fr6,w6⟩;obtain ⟨hDy,step⟩:=turn i n σ6 ys H6 w6;rcases step with ⟨stop,q6⟩|⟨go,Nx,hN,step⟩
  ·refine _p (T.done (X.block N sc cl fp { s2 with heap:=h3 } (_b H2 D (.lst []))) rfl rfl rfl hc i [] s6 σ6 H6 (fun _ _=>False) I6 (fb fr6) st6 stop) fun r s7 ⟨hr,I7⟩=>?_;subst hr;obtain ⟨m7,hm7,_⟩:=I7.loc;refine hRR D h3.objs.size m7 s7 H6 (fin I7 ⟨rfl,fun _ _=>rfl⟩) hm7 ⟨I7.free,RG I3.lt,I3.sz,fun x c e=>?_,fun p hp=>?_⟩ q6
   ·obtain ⟨v,z⟩:=I3.cell x c e;exact Qz z.lt
   ·exact Qz (Qp (I3.pin p hp).1)
  ·refine _p (T.item (X.block N sc cl fp { s2 with heap:=h3 } (_b H2 D (.lst []))) rfl rfl rfl hc i [] s6 σ6 H6 (fun _ _=>False) I6 (fb fr6) st6 go) fun r s7 ⟨u,hr,h7⟩=>?_;subst hr;refine _p h7 fun _ s8 ⟨x,H8,I8,r8,y8,st8,fr8⟩=>?_;have I8':=I8.pinned (fb fr8) (T.obj _ _ st8);refine _p (hg _ _ _ _ s8 σ6 H8 x u _ I8' r8 (step x H8 y8)) fun _ s9 ⟨σ9,H9,I9,q9⟩=>?_;refine _p (ht _ _ _ _ s9 σ9 H9 _ I9 q9) fun c sA ⟨HA,IA,qA⟩=>?_
   have again : ∀{σB : St} {HB : Hp} {sB : Shared} {zs : List V}, Inv (X.block N sc cl fp { s2 with heap := h3 } (_b H2 D (.lst []))) ([] ++ UG fp s8.heap) σB HB sB → Nx σB zs HB →
     ∃m,m<n∧∃i σ' ys H',Inv (X.block N sc cl fp { s2 with heap:=h3 } (_b H2 D (.lst []))) [] σ' H' sB∧tn i sB.heap∧(∀b∈fp,H' b=none)∧W i m σ' ys H':=fun {σB HB sB zs} IB nB=>by
    obtain ⟨m',hm,wB⟩:=hN σB zs HB nB;refine ⟨m',hm,i+1,σB,zs,HB,IB.unpinned,T.keep _ _ _ st8 fun b hb o e=>(IB.pin (b,o) (QT _ (QT _ (_ab hb e)))).1,fun b hb=>?_,wB⟩;obtain ⟨o,e,d⟩:=T.obj _ _ st8 b hb;exact (IB.pin (b,o) (QT _ (QT _ (_ab hb e)))).2.1
   cases c with
   |false=>exact again IA qA
   |true =>
    refine _p (he _ _ _ _ sA σ9 HA _ IA qA) fun y sB ⟨yv,HB,IB,rB,dB,lB,qB⟩=>?_;exact _p (XZ (X:=X.block N sc cl fp { s2 with heap:=h3 } (_b H2 D (.lst []))) _ sB σ9 HB (.ref D) [yv] (.ref D) [y] (fun v H'=>v=.non∧Nx σ9 (ys++[yv]) H') IB rfl (.cons rB .nil) ⟨D,ys,yv,rfl,rfl,dB,lB,rfl,qB⟩) fun _ sC ⟨_,HC,IC,_,_,qC⟩=>again IC qC
 refine codeAny_compStart_list (loop _ I4 st4) ?_;exact T.self _ 0 _ _ _ st4 (loop _ I4 st4)
theorem XH (hc:X.calm=true) (S:CompSc X N sc cl σc) (hi:PI X tg iter wi) (hg:∀fp s3 H3,PG (X.block N sc cl fp s3 H3) tg g) (ht:∀fp s3 H3,UH (X.block N sc cl fp s3 H3) ifs tt) (he:∀fp s3 H3,PE (X.block N sc cl fp s3 H3) elt te)
 (hs:∀x,foldedSetIterable iter X.env x=pure x:=by intro _;rfl):PE X (.ListComp elt [⟨tg,iter,ifs,0⟩] sc pos) (_fX wi σc g tt te):=by
 intro pins s σ H Q I h;rw [eval_ListComp];refine wpAny_comprehension_free rfl hs S.clos S.kind S.names (_p (hi pins s σ H _ I h) fun v s1 h1=>_p h1 fun itv s2 h2=>?_);obtain ⟨it,fp,tn,J,H2,e,I2,T,st2,f2,h2⟩:=h2;subst e;exact _gt (Q:=Q) hc S hg ht he I2 T st2 f2 h2 fun D C m s7 H7 I7 n7 G q=>⟨m,n7,fun h' sb=>⟨.ref D,H7,I7.gone G sb,rfl,q⟩⟩
theorem V8 {x:Str} {pos' spos:Pos} (hc:X.calm=true) (hN:X.N.Nodup) (hi':X.N[i]?=some x) (hx:Uz X.env.scope x) (S:CompSc X N sc cl σc) (hi:PI X tg iter wi)
 (hg:∀fp s3 H3,PG (X.block N sc cl fp s3 H3) tg g) (ht:∀fp s3 H3,UH (X.block N sc cl fp s3 H3) ifs tt) (he:∀fp s3 H3,PE (X.block N sc cl fp s3 H3) elt te)
 (hs:∀x,foldedSetIterable iter X.env x=pure x:=by intro _;rfl) (hsw:swapsWith (.ListComp elt [⟨tg,iter,ifs,0⟩] sc pos) (some (.Name x pos')) spos.line X.env=pure true:=by rfl)
 (hf:X.fn x=true∨X.env.scope.names.lookup x=some .local:=by first|exact .inl rfl|exact .inr rfl|assumption) :
  PS X (.Assign [.Name x pos'] (.ListComp elt [⟨tg,iter,ifs,0⟩] sc pos) spos) (JL (_fX wi σc g tt te) (_V i)):=by
 intro pins s σ H D I h;rw [exec_Assign_Name_used _ _ _ _ hsw];refine Qd (Gs (Qd ?_));show wpAny _ _ (comprehension (.ListComp elt [⟨tg,iter,ifs,0⟩] sc pos) sc X.env (firstIterPos [⟨tg,iter,ifs,0⟩] pos) (newList []) (firstAsync [⟨tg,iter,ifs,0⟩]) (firstIter [⟨tg,iter,ifs,0⟩] X.env) (some (assign (.Name x pos') X.env)) >>= fun _=>pure ()) _ _ s;refine Qd (Rb (Q:=fun _ s'=>SP X pins D .next s') ?_ (fun _ s' q=>Qg (Qg q)) fun _ _ z=>z);refine wpAny_comprehension_free rfl hs S.clos S.kind S.names (_p (hi pins s σ H _ I h) fun v s1 h1=>_p h1 fun itv s2 h2=>?_);obtain ⟨it,fp,tn,J,H2,e,I2,T,st2,f2,h2⟩:=h2;subst e;refine _gt (Q:=fun v H'=>D.nx (σ.set i (some v)) H') hc S hg ht he I2 T st2 f2 h2 fun d C m s7 H7 I7 n7 G q=>?_;show wpAny _ _ (assign (.Name x pos') X.env (.ref d)) _ _ s7;refine wpAny_assign_Name (_cE (v:=.ref d) I7 hN hi' hx rfl (fun s8 I8 ch=>?_) hf);obtain ⟨a,sb,ha⟩:=ch
 have aC:C≠a:=by
  rcases ha with z|z
  ·rw [z];exact G.loc
  ·exact (G.cell x a z).symm
 exact ⟨m,n7.sameBut sb aC,fun h' sb'=>⟨_,H7,I8.gone G sb',q⟩⟩
end
noncomputable def Itw (n:Nat) (V1:Nat->V->Prop):It:=⟨fun i _=>i<n,fun i H x H'=>H'=H∧V1 i x,fun i _=>i=n⟩
theorem _dp {w:World} {K:PySem.W.Frag} {Pv:Nat->Value->Prop} {V1:Nat->V->Prop} {st:Nat->Heap->Prop}
 (W:∀A:Around,A.handled=none->Walks P w A it [it] [it] n Pv st) (ob:∀i h,st i h->∃o,h.get? it=some o∧∀v,o.data≠.cell v) (val:∀i v,Pv i v->∃x,RelV x v∧V1 i x)
 (own:∀i v s (M:Model) (A:Around) (E:Value->Shared->Prop) (Q:Unit->Shared->Prop),Pv i v->Q () s->wpAny M A (letOwnedTupleGo tg (.ref it) v) Q E s)
 (self:∀(A:Around) (i:Nat) (s:Shared) (Q:Value->Shared->Prop) (E:Value->Shared->Prop),st i s.heap->Q (.ref it) s->wpAny (model P w) A (pyIter (.ref it)) Q E s):Turn P w K tg (Itw n V1) [it] it st where
 mem:=by simp
 obj:=fun i h hs b hb=>by
  have e:b=it:=by simpa using hb
  subst e;exact ob i h hs
 keep:=fun i h h' hs k=>(W {} rfl).frame i h h' hs k
 item:=fun X hP hw hK hc i pins s σ H E I hf hs go=>by
  subst hP hw hK;refine (W X.A (I.ok.hd hc)).item i s _ E go hs fun v h' tk pv hs' k=>⟨v,rfl,?_⟩;obtain ⟨x,rx,vx⟩:=val i v pv;obtain ⟨f0,f1,_,f3,f4,f5⟩:=hf it (by simp);have I':Inv X pins σ H { s with heap:=h',toks:=tk }:=I.turned (it:=it) (fun b o n q=>k b o (by simpa using n) q) f0 f1 f3 f4 f5;refine own i v _ _ _ _ _ pv ⟨x,H,I',rx,⟨rfl,vx⟩,hs',fun b hb=>?_⟩;have e:b=it:=by simpa using hb
  subst e;exact f0
 done:=fun X hP hw hK hc i pins s σ H E I hf hs stop=>by
  subst hP hw hK;have e:i=n:=stop;subst e;obtain ⟨f0,f1,_,f3,f4,f5⟩:=hf it (by simp);exact (W X.A (I.ok.hd hc)).done s _ E hs fun h' tk k=>⟨rfl,I.turned (it:=it) (fun b o n q=>k b o (by simpa using n) q) f0 f1 f3 f4 f5⟩
 self:=self
noncomputable def _hX (te:TE):TI:=fun σ H R=>te σ H fun x H1=>∃z,x=.str z∧R (Itw z.cps.size fun i y=>∃c,z.cps[i]?=some c∧y=.str ⟨#[c]⟩) H1
theorem _ha {M:Model} {z:Str} {t:Tok} {Q:Unit->Shared->Prop} (q:Q () s):wpAny M A (letOwnedTupleGo tg (.ref it) (.str z t)) Q E s:=by
 unfold letOwnedTupleGo;cases tg<;>exact Qg q
theorem _mg {e:Expr} (he:PE X e te):PI X tg e (_hX te):=by
 intro pins s σ H R I h;refine _p (he pins s σ H _ I h) fun v s1 ⟨x,H1,I1,r1,z,e1,q⟩=>?_;subst e1;obtain ⟨t,rfl⟩:=r1;have fr:H1 s1.heap.objs.size=none:=I1.hok.fresh (Qe _);by_cases low:z.cps.all (·<128)=true
 ·refine wpAny_pyIter_ascii low ⟨s1.heap.objs.size,[s1.heap.objs.size],fun i h=>h.IsStrIter s1.heap.objs.size "str_ascii_iterator" z t i,_,H1,rfl,I1.kept (t':=s1.toks) fun b u q=>Qq _ q,
   _dp (fun A hA=>Walks.strAscii hA _ z t) (fun i h ⟨o,ho,_,hd⟩=>⟨o,ho,fun v q=>by rw [hd] at q;cases q⟩) (fun i v ⟨c,u,hc,hv⟩=>⟨.str ⟨#[c]⟩,⟨u,hv⟩,c,hc,rfl⟩) (fun i v s M A E Q ⟨c,u,_,hv⟩ hq=>by rw [hv];exact _ha hq) fun A i s Q E hs hq=>wpAny_pyIter_striter_ascii hs hq,
   ⟨_,Qw _ rfl,rfl,rfl⟩,fun b hb=>?_,q⟩
  have e:b=s1.heap.objs.size:=by simpa using hb
  subst e;exact I1.fpOk (Qe _) fr
 ·refine wpAny_pyIter_wide (QP.mpr low) ⟨s1.heap.objs.size,[s1.heap.objs.size],fun i h=>h.IsStrIter s1.heap.objs.size "str_iterator" z t i,_,H1,rfl,I1.kept (t':=s1.toks) fun b u q=>Qq _ q,
   _dp (fun A hA=>Walks.strWide hA _ z t) (fun i h ⟨o,ho,_,hd⟩=>⟨o,ho,fun v q=>by rw [hd] at q;cases q⟩) (fun i v ⟨c,u,hc,hv⟩=>⟨.str ⟨#[c]⟩,⟨u,hv⟩,c,hc,rfl⟩) (fun i v s M A E Q ⟨c,u,_,hv⟩ hq=>by rw [hv];exact _ha hq) fun A i s Q E hs hq=>wpAny_pyIter_striter_wide hs hq,
   ⟨_,Qw _ rfl,rfl,rfl⟩,fun b hb=>?_,q⟩
  have e:b=s1.heap.objs.size:=by simpa using hb
  subst e;exact I1.fpOk (Qe _) fr
section
variable {w:World}
theorem _ce (hh:A.handled=none) (it t:Addr) (hne:t≠it) (us:Array Value) :
  Draws prog w A it [it,t] us.size (fun i v=>us[i]?=some v) (fun i h=>h.IsTupleIter it t i∧h.IsTuple t us) where
 live:=fun _ _ ⟨⟨o,e,_⟩,_⟩=>⟨o,e⟩
 frame:=fun _ _ _ ⟨⟨o,e,r⟩,⟨o',e',r'⟩⟩ k=>⟨⟨o,k it (by simp) o e,r⟩,⟨o',k t (by simp) o' e',r'⟩⟩
 item:=by
  intro i s Q E hi ⟨st,ht⟩ hQ;have e:us[i]?=some us[i]:=by simp [hi]
  obtain ⟨o,ho,c,d⟩:=id st;obtain ⟨ot,hot,_,n,dt⟩:=id ht;unfold Builtin.SmallTypes.nextOf;refine Qd (RK (name:=Str.ofString "__next__") st.typeIs G4 (Rs G4 st.typeIs F.entry_tuple_iterator_next ?_ (F.args_tuple_iterator_next_1 _)));unfold Builtin.«tuple_iterator.__next__»;refine Qd (m:=field (.ref it) 0) (QR ho d (x:=.ref t) rfl ?_);rw [Qa (show ¬((Value.ref t==Value.none)=true) from QI)];refine Qd (m:=field (.ref it) 1) (QR ho d (x:=.int i 0) rfl (Qd (m:=seqItems? (.ref t)) (RZ hot dt ?_)));simp only [Gy,e];have sb:=Gb s.heap it (Obj.mapFields (·.setIfInBounds 1 (rawInt (i+1))));exact Qd (wpAny_setField ho d (by simp) (Qg ⟨_,rfl,Qg (hQ _ _ s.toks e ⟨⟨_,Ny _ ho (Obj.isFreed_of_fields (Obj.data_mapFields d _)),(Obj.cls_mapFields ..).trans c,by rw [Obj.data_mapFields d];simp [rawInt]⟩,ht.extBut sb.extBut hne⟩ sb)⟩))
 done:=by
  intro s Q E ⟨st,ht⟩ hE;have e:us[us.size]?=none:=by simp
  obtain ⟨o,ho,c,d⟩:=id st;obtain ⟨ot,hot,_,n,dt⟩:=id ht;unfold Builtin.SmallTypes.nextOf;refine Qd (RK (name:=Str.ofString "__next__") st.typeIs G4 (Rs G4 st.typeIs F.entry_tuple_iterator_next ?_ (F.args_tuple_iterator_next_1 _)));unfold Builtin.«tuple_iterator.__next__»;refine Qd (m:=field (.ref it) 0) (QR ho d (x:=.ref t) rfl ?_);rw [Qa (show ¬((Value.ref t==Value.none)=true) from QI)];refine Qd (m:=field (.ref it) 1) (QR ho d (x:=.int us.size 0) rfl (Qd (m:=seqItems? (.ref t)) (RZ hot dt ?_)));simp only [Gy,e];refine Qd (R6 (Qd (wpAny_setField ho d (by simp) ?_)));refine Qd (m:=newExc (.type "StopIteration") []) ?_;simp only [newExc,newTuple];refine Qd (Rc (Qd (m:=firstArgMember _ _) (wpAny_of_eq (a:=Value.none) (by first|rfl|(simp only [firstArgMember];rfl)) (Rc ?_ (by size_fits)))) (by size_fits));simp only [raiseNew];refine Qd (wpAny_handled ?_)
  first|rw [show A.in1.handled=none from hh]|rw [hh]
  exact Qd (Qg (wpAny_throw (hE _ _ (((Gb ..).extBut.push _).push _) ⟨_,Qw _ rfl,rfl⟩)))
end
structure _Ap (z TI TO i1 i2:Addr) (f1 f2:List Addr):Prop where
 TIz:TI≠z
 TOz:TO≠z
 i1z:i1≠z
 i2z:i2≠z
 TITO:TI≠TO
 TIi1:TI≠i1
 TIi2:TI≠i2
 TOi1:TO≠i1
 TOi2:TO≠i2
 i12:i1≠i2
 z1:z∉f1
 z2:z∉f2
 o1:TO∉f1
 o2:TO∉f2
 b1:i2∉f1
 b2:i1∉f2
section
variable {w:World} {z TI TO i1 i2:Addr} {f1 f2:List Addr} {n1 n2 k1 k2:Nat} {P1 P2:Nat->Value->Prop} {S1 S2:Nat->Heap->Prop} {a b:Value}
theorem Draws.but {c:Addr} {P:Nat->Value->Prop} {St:Nat->Heap->Prop} (D:Draws prog w A it fp n P St) (st:St i h) (e:Heap.ExtBut c h h') (hc:c∉fp):St i h' :=
 D.frame _ _ _ st fun b hb o q=>e b o (fun x=>hc (x▸hb)) q
theorem _pt {Q:Value->Shared->Prop} (Z:_Ap z TI TO i1 i2 f1 f2) (D1:Draws prog w A i1 f1 n1 P1 S1) (D2:Draws prog w A i2 f2 n2 P2 S2) (hz:IsZip s.heap z TI TO .none) (hTI:IsPair s.heap TI (.ref i1) (.ref i2)) (hTO:IsPair s.heap TO a b)
 (g1:S1 k1 s.heap) (g2:S2 k2 s.heap) (l1:k1<n1) (l2:k2<n2)
 (hQ:∀x y h' tk,P1 k1 x->P2 k2 y->IsZip h' z TI TO (rawInt s.heap.objs.size)->IsPair h' TO x y->S1 (k1+1) h'->S2 (k2+1) h'->IsPair h' s.heap.objs.size x y →
 (∀c o,c≠z->c≠TO->c≠i1->c≠i2->s.heap.get? c=some o->h'.get? c=some o)->Q (.ref s.heap.objs.size) { s with heap:=h',toks:=tk }) :
  wpAny (model prog w) A (Builtin.«zip.__next__» ⟨[.ref z],[]⟩) (fun fin s'=>∃v,fin=.done (.ret v)∧Q v s') E s:=by
 unfold Builtin.«zip.__next__»;refine Qd (m:=field (.ref z) 2) (QR hz rfl (x:=.bool false) rfl ?_);refine Qd (m:=field (.ref z) 3) (QR hz rfl (x:=.ref TI) rfl (Qd (RZ hTI rfl ?_)));refine Qd (m:=Builtin.SmallTypes.ownedTupleIsFree (.ref z)) ?_;unfold Builtin.SmallTypes.ownedTupleIsFree;refine Qd (QR hz rfl (x:=.none) rfl (Qg ?_));simp only [Rr];refine Qd (R6 (Qd (QR hz rfl (x:=.ref TO) rfl (Qd (Rt hz (by simp) fun hA zA sA=>Qd ?_)))));replace zA:IsZip hA z TI TO .ellipsis:=zA;simp only [List.zipIdx_cons,List.zipIdx_nil,Gc,List.forIn_nil];refine Qd (Qd (wpAny_onRaise (Qd (m:=Builtin.SmallTypes.nextOf (.ref i1)) (D1.item k1 _ _ _ l1 (Draws.but D1 g1 sA.extBut Z.z1) fun x hB tB px gB sB=>Qg ?_))));have oB:IsPair hB TO a b:=sB.extBut _ _ Z.TOi1 (sA.extBut _ _ Z.TOz hTO);refine Qd (RZ oB rfl (Qd (wpAny_updateSeq_pair oB fun hC oC sC=>Qd (G5 (Qg ?_)))));replace oC:IsPair hC TO x b:=oC;refine Qd (Qd (wpAny_onRaise (Qd (m:=Builtin.SmallTypes.nextOf (.ref i2)) (D2.item k2 _ _ _ l2 (Draws.but D2 (Draws.but D2 (Draws.but D2 g2 sA.extBut Z.z2) sB.extBut Z.b2) sC.extBut Z.o2) fun y hD tD py gD sD=>Qg ?_))));have oD:IsPair hD TO x b:=sD.extBut _ _ Z.TOi2 oC;refine Qd (RZ oD rfl (Qd (wpAny_updateSeq_pair oD fun hE oE sE=>Qd (G5 (Qg (Qg ?_))))));replace oE:IsPair hE TO x y:=oE;have zE:IsZip hE z TI TO .ellipsis:=sE.extBut _ _ Z.TOz.symm (sD.extBut _ _ Z.i2z.symm (sC.extBut _ _ Z.TOz.symm (sB.extBut _ _ Z.i1z.symm zA)));have sz:hE.objs.size=s.heap.objs.size:=by rw [sE.1,sD.1,sC.1,sB.1,sA.1]
 have kE:∀c o,c≠z->c≠TO->c≠i1->c≠i2->s.heap.get? c=some o->hE.get? c=some o:=fun c o c1 c2 c3 c4 e=>sE.extBut _ _ c2 (sD.extBut _ _ c4 (sC.extBut _ _ c2 (sB.extBut _ _ c3 (sA.extBut _ _ c1 e))));have d1:S1 (k1+1) hE:=Draws.but D1 (Draws.but D1 (Draws.but D1 gB sC.extBut Z.o1) sD.extBut Z.b1) sE.extBut Z.o1;have d2:S2 (k2+1) hE:=Draws.but D2 gD sE.extBut Z.o2;refine Qd (RZ oE rfl (Qd (wpAny_newTuple ?_)));refine Qd (m:=Builtin.SmallTypes.ownedTupleHandOut (.ref z) (.ref hE.objs.size)) ?_;unfold Builtin.SmallTypes.ownedTupleHandOut;have zF:IsZip (hE.push { cls:=.type "tuple",data:=.seq #[x,y] }) z TI TO .ellipsis:=Qq _ zE;refine Qd (Rt zF (by simp) fun hG zG sG=>?_);replace zG:IsZip hG z TI TO (rawInt hE.objs.size):=zG;refine Rt zG (by simp) fun hI zI sI=>Qg ⟨_,rfl,?_⟩;replace zI:IsZip hI z TI TO (rawInt hE.objs.size):=zI;have up:∀c o,c≠z->hE.get? c=some o->hI.get? c=some o:=fun c o c1 e=>sI.extBut _ _ c1 (sG.extBut _ _ c1 (Qq _ e));have zl:hE.objs.size≠z:=RG (Qp zE);have tI:IsPair hI hE.objs.size x y:=sI.extBut _ _ zl (sG.extBut _ _ zl (Qw _ rfl));show Q (.ref hE.objs.size) _;rw [sz] at zI tI ⊢;exact hQ x y hI tD px py zI (up _ _ Z.TOz oE) (D1.frame _ _ _ d1 fun c hc o e=>up c o (fun q=>Z.z1 (q▸hc)) e) (D2.frame _ _ _ d2 fun c hc o e=>up c o (fun q=>Z.z2 (q▸hc)) e) tI fun c o c1 c2 c3 c4 e=>up c o c1 (kE c o c1 c2 c3 c4 e)
theorem _ly {Q:Fin->Shared->Prop} (Z:_Ap z TI TO i1 i2 f1 f2) (D1:Draws prog w A i1 f1 n1 P1 S1) (hz:IsZip s.heap z TI TO .none) (hTI:IsPair s.heap TI (.ref i1) (.ref i2))
 (g1:S1 n1 s.heap)
 (hE:∀h' e,(∀c o,c≠z->c≠TO->c≠i1->c≠i2->s.heap.get? c=some o->h'.get? c=some o)->(∃o,h'.get? e=some o∧o.cls=.type "StopIteration")->E (.ref e) { s with heap:=h' }) :
  wpAny (model prog w) A (Builtin.«zip.__next__» ⟨[.ref z],[]⟩) Q E s:=by
 unfold Builtin.«zip.__next__»;refine Qd (m:=field (.ref z) 2) (QR hz rfl (x:=.bool false) rfl ?_);refine Qd (m:=field (.ref z) 3) (QR hz rfl (x:=.ref TI) rfl (Qd (RZ hTI rfl ?_)));refine Qd (m:=Builtin.SmallTypes.ownedTupleIsFree (.ref z)) ?_;unfold Builtin.SmallTypes.ownedTupleIsFree;refine Qd (QR hz rfl (x:=.none) rfl (Qg ?_));simp only [Rr];refine Qd (R6 (Qd (QR hz rfl (x:=.ref TO) rfl (Qd (Rt hz (by simp) fun hA zA sA=>Qd ?_)))));replace zA:IsZip hA z TI TO .ellipsis:=zA;simp only [List.zipIdx_cons,List.zipIdx_nil,Gc,List.forIn_nil];refine Qd (Qd (wpAny_onRaise (Qd (m:=Builtin.SmallTypes.nextOf (.ref i1)) (D1.done _ _ _ (Draws.but D1 g1 sA.extBut Z.z1) fun hB e sB he=>?_))));obtain ⟨o,ho,c⟩:=he;have zB:IsZip hB z TI TO .ellipsis:=sB _ _ Z.i1z.symm zA
 have ez:e≠z:=fun q=>by
  subst q;rw [zB] at ho;cases ho;simp at c
 exact Rt zB (by simp) fun hC _ sC=>hE hC e (fun c o c1 _ c3 _ q=>sC.extBut _ _ c1 (sB _ _ c3 (sA.extBut _ _ c1 q))) ⟨o,sC.extBut _ _ ez ho,c⟩
theorem _ne (Z:_Ap z TI TO i1 i2 f1 f2) (D1:Draws prog w A.in1 i1 f1 n1 P1 S1) (D2:Draws prog w A.in1 i2 f2 n2 P2 S2) (hz:IsZip s.heap z TI TO .none) (hTI:IsPair s.heap TI (.ref i1) (.ref i2)) (hTO:IsPair s.heap TO a b)
 (g1:S1 k1 s.heap) (g2:S2 k2 s.heap) (l1:k1<n1) (l2:k2<n2)
 (hQ:∀x y h' tk,P1 k1 x->P2 k2 y->IsZip h' z TI TO (rawInt s.heap.objs.size)->IsPair h' TO x y->S1 (k1+1) h'->S2 (k2+1) h'->IsPair h' s.heap.objs.size x y →
 (∀c o,c≠z->c≠TO->c≠i1->c≠i2->s.heap.get? c=some o->h'.get? c=some o)->Q (some (.ref s.heap.objs.size)) { s with heap:=h',toks:=tk }) :
  wpAny (model prog w) A (pyNext (.ref z)) Q E s:=by
 have T:s.TypeIs (.ref z) "zip":=⟨_,hz,rfl⟩;unfold pyNext
 exact Qd (G6 (RK (name:=Str.ofString "__next__") T G7 (Rs G7 T F.entry_zip_next
  (_pt Z D1 D2 hz hTI hTO g1 g2 l1 l2 fun x y h' tk a1 a2 a3 a4 a5 a6 a7 a8=>Qg (hQ x y h' tk a1 a2 a3 a4 a5 a6 a7 a8)) (F.args_zip_next_1 _))))
theorem _jl (Z:_Ap z TI TO i1 i2 f1 f2) (D1:Draws prog w A.in1 i1 f1 n1 P1 S1) (hz:IsZip s.heap z TI TO .none) (hTI:IsPair s.heap TI (.ref i1) (.ref i2)) (g1:S1 n1 s.heap)
 (hQ:∀h',(∀c o,c≠z->c≠TO->c≠i1->c≠i2->s.heap.get? c=some o->h'.get? c=some o)->Q none { s with heap:=h' }):wpAny (model prog w) A (pyNext (.ref z)) Q E s:=by
 have T:s.TypeIs (.ref z) "zip":=⟨_,hz,rfl⟩;unfold pyNext;refine Qd (G6 (RK (name:=Str.ofString "__next__") T G7 (Rs G7 T F.entry_zip_next (_ly Z D1 hz hTI g1 fun h' e k he=>?_) (F.args_zip_next_1 _))));obtain ⟨o,ho,c⟩:=he;exact Qd (wpAny_isInstance (T:="StopIteration") (b:=true) ⟨o,ho,c⟩ isSubtype_stop (Qg (hQ _ k)))
end
section
variable {σ:St}
theorem Inv.turnedAll {ch:List Addr} (I:Inv X pins σ H s) (hf:∀b∈ch,XT X pins H b) (k:∀b o,b∉ch->s.heap.get? b=some o->h'.get? b=some o):Inv X pins σ H { s with heap:=h',toks:=t' }:=by
 have nit:∀b u,H b=some u->b∉ch:=fun b u e z=>by rw [(hf b z).1] at e;cases e
 refine I.step (g':=s.gens) (d':=s.drawn) (ch:=ch) (fun b hb=>⟨(hf b hb).2.2.2.1,(hf b hb).2.1,(hf b hb).2.2.2.2⟩) (fun b o _ _ hc e _=>k b o hc e) (fun b o _ _ hc e _=>⟨o.slots,k b o hc e⟩) (fun _ _ _ _ n=>n)
  (fun b o hc e=>⟨o,k b o hc e⟩) (fun _ _ e=>e) (fun _ _ _ e=>e) (fun b ps e=>⟨#[],by rw [e];simp⟩) (fun m hm=>?_) (fun b u e=>?_) I.bare
 ·obtain ⟨o,es,ep,ho,r⟩:=hm;exact ⟨o,es,ep,k _ o (fun z=>(hf _ z).2.1 rfl) ho,r⟩
 ·refine (I.hok b u e).stay (fun c v hc q=>k c v ?_ q) (fun _ q=>q) fun _ _ q=>q;rcases hc with z|z
  ·rw [z];exact nit b u e
  ·exact nit c _ z
theorem Inv.turnedLaid {ch:List Addr} {T:Addr} (I:Inv X pins σ H s) (hf:∀b∈ch,XT X pins H b) (k:∀b o,b∉ch->s.heap.get? b=some o->h'.get? b=some o) (hp:s.heap.objs.size≤T) (new:ObjOk X.prog X.w (_b H T o) h' T o) :
  Inv X pins σ (_b H T o) { s with heap:=h',toks:=t' }:=by
 have nit:∀b u,H b=some u->b∉ch:=fun b u e z=>by rw [(hf b z).1] at e;cases e
 have hn:=I.hok.fresh hp;have up:∀{b u},H b=some u->_b H T o b=some u:=fun {b u} e=>by rw [_g (_R e hn)];exact e
 refine I.step (g':=s.gens) (d':=s.drawn) (ch:=ch) (fun b hb=>⟨(hf b hb).2.2.2.1,(hf b hb).2.1,(hf b hb).2.2.2.2⟩) (fun b o _ _ hc e _=>k b o hc e) (fun b o _ _ hc e _=>⟨o.slots,k b o hc e⟩) (fun b u _ e n=>?_)
  (fun b o hc e=>⟨o,k b o hc e⟩) (fun _ _ e=>up e) (fun _ _ _ e=>up e) (fun b ps e=>⟨#[],by rw [up e];simp⟩) (fun m hm=>?_) (fun b u e=>?_) I.bare
 ·rw [_g (fun z=>absurd (Qp e) (by rw [z];exact Nat.not_lt.mpr hp))];exact n
 ·obtain ⟨o,es,ep,ho,r⟩:=hm;exact ⟨o,es,ep,k _ o (fun z=>(hf _ z).2.1 rfl) ho,r⟩
 ·by_cases hb:b=T
  ·subst hb;rw [_f] at e;cases e;exact new
  ·rw [_g hb] at e;refine (I.hok b u e).stay (fun c v hc q=>k c v ?_ q) (fun _ q=>up q) fun _ _ q=>up q;rcases hc with z|z
   ·rw [z];exact nit b u e
   ·exact nit c _ z
end
noncomputable def Itz (K:W.Frag) (a b:Addr):It :=
 ⟨fun i H => ∃xs ys x y, SqT K H a xs ∧ SqT K H b ys ∧ xs[i]?=some x ∧ ys[i]?=some y,
  fun i H v H'=>∃T x y,H T=none∧v=.ref T∧(∀xs,SqT K H a xs->xs[i]?=some x)∧(∀ys,SqT K H b ys->ys[i]?=some y)∧H'=_b H T (.tup [x,y]),
  fun i H=>∃xs,SqT K H a xs∧xs.length=i⟩
noncomputable def _St (z TI TO i1 i2 a b:Addr) (i:Nat) (h:Heap):Prop:=IsZip h z TI TO .none∧IsPair h TI (.ref i1) (.ref i2)∧(∃u v,IsPair h TO u v)∧h.IsTupleIter i1 a i∧h.IsTupleIter i2 b i
theorem _ou {w:World} {K:W.Frag} {z TI TO i1 i2:Addr} (Z:_Ap z TI TO i1 i2 [i1,a] [i2,b]) (ha:a≠i1) (hb:b≠i2) :
  Turn P w K (.Tuple es n pos) (Itz K a b) [z,TI,TO,i1,i2] z (_St z TI TO i1 i2 a b) where
 mem:=by simp
 obj:=fun i h ⟨h1,h2,⟨u,v,h3⟩,⟨o4,h4,_,d4⟩,⟨o5,h5,_,d5⟩⟩ c hc=>by
  simp only [Qo,Q5,Q6] at hc;rcases hc with rfl|rfl|rfl|rfl|rfl
  ·exact ⟨_,h1,fun v q=>by cases q⟩
  ·exact ⟨_,h2,fun v q=>by cases q⟩
  ·exact ⟨_,h3,fun v q=>by cases q⟩
  ·exact ⟨_,h4,fun v q=>by rw [d4] at q;cases q⟩
  ·exact ⟨_,h5,fun v q=>by rw [d5] at q;cases q⟩
 keep:=fun i h h' ⟨h1,h2,⟨u,v,h3⟩,⟨o4,h4,r4⟩,⟨o5,h5,r5⟩⟩ k =>
  ⟨k _ (by simp) _ h1,k _ (by simp) _ h2,⟨u,v,k _ (by simp) _ h3⟩,⟨o4,k _ (by simp) _ h4,r4⟩,⟨o5,k _ (by simp) _ h5,r5⟩⟩
 item:=by
  intro X hP hw hK hc i pins s σ H E I hf ⟨h1,h2,⟨u,v,h3⟩,h4,h5⟩ ⟨xs,ys,x,y,qa,qb,ex,ey⟩;subst hP hw hK;obtain ⟨as,ra,ta,la⟩:=I.tuple qa;obtain ⟨bs,rb,tb,lb⟩:=I.tuple qb;have hh:X.A.in1.handled=none:=I.ok.hd hc;have la':=ra.length;have lb':=rb.length
  have lx:i<as.toArray.size:=by
   have:=(QB.mp ex).1;simp only [Qy];omega
  have ly:i<bs.toArray.size:=by
   have:=(QB.mp ey).1;simp only [Qy];omega
  refine _ne Z (_ce hh i1 a ha as.toArray) (_ce hh i2 b hb bs.toArray) h1 h2 h3 ⟨h4,ta⟩ ⟨h5,tb⟩ lx ly fun u1 u2 h' tk p1 p2 z1 o1 g1 g2 t1 k=>?_;refine ⟨_,rfl,wpAny_letOwnedTupleGo_zip z1 fun h'' z2 sb=>?_⟩;have lz:z<s.heap.objs.size:=Qp h1;have nz:s.heap.objs.size≠z:=RG lz;obtain ⟨v1,e1,r1⟩:=ra.get ex;obtain ⟨v2,e2,r2⟩:=rb.get ey
  have q1:v1=u1:=by
   have p:as[i]?=some u1:=by simpa using p1
   rw [e1] at p;exact Ql p
  have q2:v2=u2:=by
   have p:bs[i]?=some u2:=by simpa using p2
   rw [e2] at p;exact Ql p
  subst q1 q2
  have kk:∀c o,c∉[z,TI,TO,i1,i2]->s.heap.get? c=some o->h''.get? c=some o:=fun c o hc e=>by
   simp only [Qo,Q5,Q6,not_or] at hc;exact sb.extBut _ _ hc.1 (k c o hc.1 hc.2.2.1 hc.2.2.2.1 hc.2.2.2.2 e)
  have tt:IsPair h'' s.heap.objs.size v1 v2:=sb.extBut _ _ nz t1;have I':=I.turnedLaid (t':=tk) (o:=.tup [x,y]) hf kk (Qe _) (show ObjOk X.prog X.w _ h'' _ (.tup [x,y]) from ⟨small1000 (by simp),[v1,v2],.cons r1 (.cons r2 .nil),⟨_,tt,rfl,_,rfl⟩⟩);refine ⟨.ref s.heap.objs.size,_,I',rfl,⟨s.heap.objs.size,x,y,I.hok.fresh (Qe _),rfl,fun zs hz=>by rw [I.tuple_inj hz qa];exact ex,fun zs hz=>by rw [I.tuple_inj hz qb];exact ey,rfl⟩,?_,fun c hc=>?_⟩
  ·exact ⟨z2,sb.extBut _ _ Z.TIz (k _ _ Z.TIz Z.TITO Z.TIi1 Z.TIi2 h2),⟨_,_,sb.extBut _ _ Z.TOz o1⟩,g1.1.extBut sb.extBut Z.i1z,g2.1.extBut sb.extBut Z.i2z⟩
  ·have hlt:c<s.heap.objs.size:=by
    simp only [Qo,Q5,Q6] at hc;obtain ⟨o4,e4,_⟩:=h4;obtain ⟨o5,e5,_⟩:=h5;rcases hc with rfl|rfl|rfl|rfl|rfl
    ·exact lz
    ·exact Qp h2
    ·exact Qp h3
    ·exact Qp e4
    ·exact Qp e5
   rw [_g (Qz hlt)];exact (hf c hc).1
 done:=by
  intro X hP hw hK hc i pins s σ H E I hf ⟨h1,h2,⟨u,v,h3⟩,h4,h5⟩ ⟨xs,qa,hl⟩;subst hP hw hK;obtain ⟨as,ra,ta,la⟩:=I.tuple qa;have hh:X.A.in1.handled=none:=I.ok.hd hc
  have e:i=as.toArray.size:=by
   have:=ra.length;simp only [Qy];omega
  subst e;refine _jl (f2:=[i2,b]) Z (_ce hh i1 a ha as.toArray) h1 h2 ⟨h4,ta⟩ fun h' k=>⟨rfl,I.turnedAll (t':=s.toks) hf fun c o hc e=>?_⟩;simp only [Qo,Q5,Q6,not_or] at hc;exact k c o hc.1 hc.2.2.1 hc.2.2.2.1 hc.2.2.2.2 e
 self:=fun _ _ _ _ _ st h=>wpAny_pyIter_zip st.1 h
theorem _iW {w:World} {us vs:Array Value} {Q:Value->Shared->Prop} (ha:s.heap.IsTuple a us) (hb:s.heap.IsTuple b vs)
 (h:∀h',_St (s.heap.objs.size+4) (s.heap.objs.size+2) (s.heap.objs.size+3) s.heap.objs.size (s.heap.objs.size+1) a b 0 h'->(∀c o,s.heap.get? c=some o->h'.get? c=some o)->Q (.ref (s.heap.objs.size+4)) { s with heap:=h' }) :
  wpAny (model prog w) A (call (.type "zip") [.ref a,.ref b]) Q E s:=by
 let H1:Heap:=s.heap.push { cls:=.type "tuple_iterator",data:=.fields #[.ref a,.int 0 0] }
 let H2:Heap:=H1.push { cls:=.type "tuple_iterator",data:=.fields #[.ref b,.int 0 0] }
 let H3:Heap:=H2.push { cls:=.type "tuple",data:=.seq #[.ref s.heap.objs.size,.ref H1.objs.size] }
 let H4:Heap:=H3.push { cls:=.type "tuple",data:=.seq #[.none,.none] }
 let H5:Heap:=H4.push { cls:=.type "zip",data:=.fields #[.none,.bool false,.bool false,.ref H2.objs.size,.ref H3.objs.size] }
 have m:Meets (Builtin.«zip.__new__» ⟨[.type "zip",.ref a,.ref b],[]⟩) (fun _ R s1=>s1=s∧R (.ok (.ret (.ref H4.objs.size))) { s with heap:=H5 }):=.of_wp fun prog w A R s1 hR=>by
  obtain ⟨rfl,hR⟩:=hR;obtain ⟨hp,g,d,tk,os⟩:=s1;have hsub:=sub_zip;have hL1:Heap.IsTuple (Shared.heap ⟨hp,g,d,tk,os⟩) a us:=ha;have hL2:Heap.IsTuple (Shared.heap ⟨hp.push { cls:=.type "tuple_iterator",data:=.fields #[.ref a,.int 0 0] },g,d,tk,os⟩) b vs:=Heap.IsTuple.push hb _
  wp_walk using Gu hL1,Gu hL2
  exact ⟨_,rfl,hR⟩
 refine callType_new F.called_zip (by decide) (F.typeCall_zip_2 _ _) (F.newCall_zip_2 _ _) (fun obj=>F.args_object_init_3 obj _ _) F.entry_zip_new m ⟨rfl,?_⟩;have z1:H1.objs.size=s.heap.objs.size+1:=Rk ..;have z2:H2.objs.size=s.heap.objs.size+2:=by rw [Rk,z1]
 have z3:H3.objs.size=s.heap.objs.size+3:=by rw [Rk,z2]
 have z4:H4.objs.size=s.heap.objs.size+4:=by rw [Rk,z3]
 have up5:∀c o,H4.get? c=some o->H5.get? c=some o:=fun c o e=>Qq _ e;have up4:∀c o,H3.get? c=some o->H5.get? c=some o:=fun c o e=>up5 c o (Qq _ e);have up3:∀c o,H2.get? c=some o->H5.get? c=some o:=fun c o e=>up4 c o (Qq _ e);have up2:∀c o,H1.get? c=some o->H5.get? c=some o:=fun c o e=>up3 c o (Qq _ e);have g5:H5.get? H4.objs.size=some _:=Qw _ rfl;have g4:H5.get? H3.objs.size=some _:=up5 _ _ (Qw _ rfl);have g3:H5.get? H2.objs.size=some _:=up4 _ _ (Qw _ rfl);have g2:H5.get? H1.objs.size=some _:=up3 _ _ (Qw _ rfl);have g1:H5.get? s.heap.objs.size=some _:=up2 _ _ (Qw _ rfl);show _∧_;rw [z4,z2,z3] at g5;rw [z3] at g4;rw [z2,z1] at g3;rw [z1] at g2;rw [z4];exact ⟨⟨_,g5,rfl⟩,h H5 ⟨g5,g3,⟨_,_,g4⟩,⟨_,g1,rfl,rfl⟩,⟨_,g2,rfl,rfl⟩⟩ fun c o e=>up2 c o (Qq _ e)⟩
theorem _hB:bootBuiltins "zip"=some (.type "zip"):=by trivial
theorem _bn:bootBuiltins "all"=some (.builtin "all"):=by trivial
theorem Ul {c x y:Nat} (h1:c≠x) (h2:c≠y):c∉[x,y]:=fun z=>by
 rcases Qo.mp z with z|z
 ·exact h1 z
 ·exact h2 (by simpa using z)
theorem _nd {m a b:Nat} (la:a<m) (lb:b<m):_Ap (m+4) (m+2) (m+3) m (m+1) [m,a] [m+1,b] where
 TIz:=(by omega:(m+2:Nat)≠m+4)
 TOz:=(by omega:(m+3:Nat)≠m+4)
 i1z:=(by omega:(m:Nat)≠m+4)
 i2z:=(by omega:(m+1:Nat)≠m+4)
 TITO:=(by omega:(m+2:Nat)≠m+3)
 TIi1:=(by omega:(m+2:Nat)≠m)
 TIi2:=(by omega:(m+2:Nat)≠m+1)
 TOi1:=(by omega:(m+3:Nat)≠m)
 TOi2:=(by omega:(m+3:Nat)≠m+1)
 i12:=(by omega:(m:Nat)≠m+1)
 z1:=Ul (by omega) (by omega)
 z2:=Ul (by omega) (by omega)
 o1:=Ul (by omega) (by omega)
 o2:=Ul (by omega) (by omega)
 b1:=Ul (by omega) (by omega)
 b2:=Ul (by omega) (by omega)
noncomputable def _mX (K:W.Frag) (ta:TA):TI:=fun σ H R=>ta σ H fun vs H1=>∃a b,vs=[.ref a,.ref b]∧(∃xs,SqT K H1 a xs)∧(∃ys,SqT K H1 b ys)∧R (Itz K a b) H1
theorem _nB (K:W.Frag) {e1 e2:Expr} {ta:TA} {pos':Pos} (hg:Gl X "zip") (hm:X.mg "zip"=none) (ha:PA X [e1,e2] ta) (hK:X.K=K:=by rfl)
 (hs:starEach [e1,e2] X.env=(false,eval e1 X.env)::starEach [e2] X.env:=by rfl) (hpl:(backTo pos (starEach [e2] X.env)).any (·.1)=false:=by rfl):PI X (.Tuple es n pos') (.Call (.Name "zip" p) [e1,e2] [] pos) (_mX K ta):=by
 subst hK;intro pins s σ H R I h;refine RX (Up I hg hm _hB (GS (_p (ha pos pins s σ H _ I h) fun us s1 ⟨vs,H1,I1,r1,q1⟩=>?_) hs hpl));obtain ⟨a,b,e,⟨xs,qa⟩,⟨ys,qb⟩,q⟩:=q1;subst e;obtain ⟨u,v,rfl,ra,rb⟩:=V5 r1;cases (show u=Value.ref a from ra);cases (show v=Value.ref b from rb);obtain ⟨as,ka,ta',_⟩:=I1.tuple qa;obtain ⟨bs,kb,tb',_⟩:=I1.tuple qb;have la:a<s1.heap.objs.size:=by obtain ⟨o,e,_⟩:=ta';exact Qp e
 have lb:b<s1.heap.objs.size:=by obtain ⟨o,e,_⟩:=tb';exact Qp e
 refine _iW ta' tb' fun h' st k=>wpAny_pyIter_zip st.1 ?_;have Z:=_nd la lb;refine ⟨s1.heap.objs.size+4,_,_,_,H1,rfl,I1.kept (t':=s1.toks) k,_ou Z (Qz la) (Qz (GE lb)),st,fun c hc=>?_,q⟩
 have hle:s1.heap.objs.size≤c:=by
  simp only [Qo,Q5,Q6] at hc;rcases hc with rfl|rfl|rfl|rfl|rfl
  ·exact G8 _ 4
  ·exact G8 _ 2
  ·exact G8 _ 3
  ·exact Qe _
  ·exact G8 _ 1
 have e:=I1.fpOk hle (I1.hok.fresh hle);exact e
theorem _kz {w:World} {bs:List Bool} {us:List Value} (r:Vals (bs.map V.bl) us):TruthOf P w A (fun i v=>us.toArray[i]?=some v) (fun i=>bs.getD i false):=by
 intro i v s Q E e q;have e':us[i]?=some v:=by simpa using e
 have hl:=r.length;rw [Qc] at hl
 have lt:i<bs.length:=by
  have:=(QB.mp e').1;omega
 obtain ⟨u,e2,r2⟩:=r.get (i:=i) (x:=V.bl bs[i]) (by simp [lt]);rw [e'] at e2;cases e2;cases (show v=Value.bool bs[i] from r2);have z:bs.getD i false=bs[i]:=by simp [List.getD,lt]
 exact RT (by rw [←z];exact q)
theorem _cN:∀bs:List Bool,((List.range bs.length).all fun i=>bs.getD i false)=bs.all id
 |[]=>rfl
 |b::bs=>by
  rw [QH,List.range_succ_eq_map,GZ,List.all_map,GZ,←_cN bs];rfl
theorem _bG (hc:X.calm=true):YJ X (.builtin "all") (fun xs H Q=>∃(a:Addr) (bs:List Bool),xs=[.ref a]∧H a=some (.lst (bs.map V.bl))∧Q (.bl (bs.all id)) H):=by
 intro pins s σ H xs us Q I r h;obtain ⟨a,bs,rfl,q,hq⟩:=h;obtain ⟨u,rfl,ru⟩:=YX r;cases (show u=Value.ref a from ru);obtain ⟨its,rv,pl,hz⟩:=I.list (.inl (.inl q));have lt:a<s.heap.objs.size:=by obtain ⟨o,e,_⟩:=pl.isList;exact Qp e
 have hl:=rv.length;rw [Qc] at hl;refine call_all_walk (Np pl.isList ⟨s.heap.objs.size,_,_,_,_,_,_,rfl,Walks.list (show X.A.in1.handled=none from I.ok.hd hc) _ a (Qz lt) its.toArray,⟨⟨_,Qw _ rfl,rfl,rfl⟩,pl.isList.push _⟩,_kz rv,fun h' tk k=>?_⟩);rw [Qy,←hl,_cN];exact ⟨.bl _,H,I.kept (t':=tk) fun b o e=>k b o (fun z=>absurd (Qp e) (by rw [show b=s.heap.objs.size by simpa using z];exact Rx _)) (Qq _ e),rfl,hq⟩
noncomputable def _hk (X:Cx) (CX:YA) (Fam:Addr->Sp->Prop):Prop:=∀f sp,Fam f sp->∃k fd ps,FnOk X.prog X.w X.K X.mg X.base CX k f fd ps sp∧Room k X.A∧W.keepIn X.K (.ref f)=true∧Binds X.K fd ps []
noncomputable def _nT (Fam:Addr->Sp->Prop) (i:Nat) (E:XK) (t:TA):TE:=fun σ H Q=>∃f sp,σ[i]?=some (some (.ref f))∧Fam f sp∧t σ H fun vs H1=>sp vs H1 Q E
theorem _iL {Fam:Addr->Sp->Prop} {E:XK} {x:Str} {e:Expr} {t:TA} (F:_hk X CX Fam) (hN:X.N[i]?=some x) (hv:Vis X.env.scope x) (hx:_do CX X E) (ha:PA X (e::es) t)
 (hd:(x==("__debug__": Str))=false:=by decide) (hcd:(x==("__classdict__": Str))=false:=by decide)
 (he:starEach (e::es) X.env=(false,eval e X.env)::starEach es X.env:=by rfl) (hpl:(backTo pos (starEach es X.env)).any (·.1)=false:=by rfl):PE X (.Call (.Name x p) (e::es) [] pos) (_nT Fam i E t):=by
 intro pins s σ H Q I h;obtain ⟨f,sp,e1,hF,q⟩:=h;obtain ⟨k,fd,ps,Fn,hr,hk,hb⟩:=F f sp hF;refine RX (_p (_cn hN hv hd hcd pins s σ H (fun v H'=>v=.ref f∧H'=H) I ⟨_,e1,rfl,rfl⟩) fun u s1 ⟨v,H1,I1,r1,e2,e3⟩=>?_);subst e2 e3;cases (show u=Value.ref f from r1);refine RY (h₀:=X.base) I1.ok.mod.kin hk (_p (ha pos pins s1 σ H1 _ I1 q) fun us s2 ⟨vs,H2,I2,r2,q2⟩=>⟨I2.kIn,?_⟩) he hpl;exact _pj Fn hr hb .nil hx I2 r2 (by rw [QC];exact q2)
section
variable {l:Expr} {tl:TE} (K:W.Frag) (hK:X.K=K)
include hK
theorem _pE:VZ X (_gk K):=by subst hK;exact Ye
theorem _aF:VZ X (_ej K):=by subst hK;exact _o
end
theorem _eA (K:W.Frag) {k:Nat} {t:Wg} (hc:X.calm=true) (h:Uq X es t) (hK:X.K=K:=by rfl)
 (hn:(assignEach es X.env).length=n:=by rfl) (hst:(assignEach es X.env).findIdx? (·.1)=none:=by rfl):PG X (.Tuple es k pos) (_co K n t):=by
 subst hK;exact VR hc h hn hst
theorem VE {σ0:St} {g:TG} {Q:VK} {H1:Hp} (out:List V) (hn:out.length<sizeLine) (σP:St->Prop) (h0:σP σ0)
 (go:∀i H,i<out.length->Same H1 H->J.go i H) (stop:∀H,Same H1 H->J.stop out.length H)
 (step:∀i σ H x H' y,out[i]?=some y->σP σ->Same H1 H->J.yld i H x H'->∀C:V->St->Hp->Prop,(∀σ2 H6,σP σ2->Same H H6->C y σ2 H6)->g x σ H' fun σ2 H4=>te σ2 H4 fun y' H6=>C y' σ2 H6)
 (fin:∀D H',H1 D=none->Same H1 H'->H' D=some (.lst out)->Q (.ref D) H'):JE J σ0 g _bU te Q H1:=by
 intro D hD
 have keep:∀{H:Hp} {o:HO},Same H1 H->Same H1 (_b H D o):=fun {H o} e b u q=>by
  rw [_g (_R q hD)];exact e b u q
 refine ⟨fun i m σ ys H=>i≤out.length∧m=out.length-i∧σP σ∧ys=out.take i∧H D=some (.lst ys)∧Same H1 H,⟨_,QM _,rfl,h0,rfl,_f,keep (Same.refl H1)⟩,?_⟩;rintro i m σ ys H ⟨hi,rfl,p,rfl,hd,sm⟩;refine ⟨hd,?_⟩;by_cases lt:i<out.length
 ·refine .inr ⟨go i H lt sm,fun σ2 ys2 H3=>σP σ2∧ys2=out.take (i+1)∧H3 D=some (.lst ys2)∧Same H1 H3,fun σ2 ys2 H3 ⟨a,b,c,d⟩=>⟨_,by omega,lt,rfl,a,b,c,d⟩,fun x H3 y=>?_⟩;have e:out[i]?=some out[i]:=by simp [lt]
  refine step i σ H x H3 out[i] e p sm y (fun y' σ2 H6=>H6 D=some (.lst (out.take i))∧(out.take i).length<sizeLine∧σP σ2∧out.take i++[y']=out.take (i+1)∧_b H6 D (.lst (out.take i++[y'])) D=some (.lst (out.take i++[y']))∧Same H1 (_b H6 D (.lst (out.take i++[y'])))) fun σ2 H6 p2 s6=>?_;exact ⟨s6 _ _ hd,by rw [QU];omega,p2,by rw [RL,e];rfl,_f,keep (sm.trans s6)⟩
 ·have e:i=out.length:=by omega
  subst e;rw [QN] at hd;exact .inl ⟨stop H sm,fin D H hD sm hd⟩
theorem at_i {α:Type} {xs:List α} {i:Int} {x:α} (h0:0≤i) (e:xs[i.toNat]?=some x):_6 xs i=some x:=by
 have:=YB e
 rwa [Int.toNat_of_nonneg h0] at this
section
variable {K:W.Frag} {ys:List V} {Q:VK}
end
noncomputable def _bH (js:List (Option Nat)) (σ:St):St:=js.map fun o=>match o with|none=>none|some j=>(σ[j]?).getD none
noncomputable def UA (fr:List Str) (cells:List (Str×Addr)):List (Str×Addr):=fr.filterMap fun x=>(cells.lookup x).map fun c=>(x,c)
noncomputable def _lK (js:List (Option Nat)) (N M:List Str) (inn out:List (Str×NameKind)):Bool :=
 (js.zip N).all fun p=>match p.1 with
  |none=>true
  |some j=>(M[j]?==some p.2)&&((inn.lookup p.2==some .cell)||(inn.lookup p.2==some .free))&&((out.lookup p.2==some .cell)||(out.lookup p.2==some .free))
theorem _eY {L:List (Str×NameKind)} {x:Str} (h:((L.lookup x==some NameKind.cell)||(L.lookup x==some NameKind.free))=true):L.lookup x=some .cell∨L.lookup x=some .free:=by
 rw [RM] at h;rcases h with h|h
 ·exact .inl (eq_of_beq h)
 ·exact .inr (eq_of_beq h)
theorem _pd {fr:List Str} {cells:List (Str×Addr)} {x:Str} (h:x∈fr) (e:(cells.lookup x).isSome=true):∃c,(UA fr cells).lookup x=some c:=by
 obtain ⟨c,hc⟩:=Nt.mp e
 induction fr with
 |nil=>cases h
 |cons y r ih =>
  unfold UA;rw [Q2];by_cases q:y=x
  ·subst q;rw [hc];exact ⟨c,by simp⟩
  ·have hr:x∈r:=by
    rcases Qo.mp h with z|z
    ·exact absurd z.symm q
    ·exact z
   cases e2:cells.lookup y with
   |none=>exact ih hr
   |some d =>
    obtain ⟨c',hc'⟩:=ih hr;refine ⟨c',?_⟩;show List.lookup x ((y,d)::UA r cells)=some c';rw [List.lookup_cons,RF.mpr (QY q)];exact hc'
theorem Xc (fr:List Str) (js:List (Option Nat)) (hk:sc.kind=.function) (hn:∀x∈sc.names,x.2=.local->sc.names.lookup x.1=some .local) (hc:∀y∈sc.names,y.2≠.cell)
 (clos:closureFor sc X.env=pure (UA fr X.env.cells)) (hall:(fr.all fun x=>(X.env.cells.lookup x).isSome)=true)
 (hhas:((relabel sc X.env).names.all fun y=>(y.2 != .cell&&y.2 != .free)||fr.contains y.1)=true) (hl:js.length=N.length) (hcap:_lK js N X.N (relabel sc X.env).names X.env.scope.names=true) :
  CompSc X N sc (UA fr X.env.cells) (_bH js):=by
 have lk:∀(x:Str) (M:List (Str×NameKind)) (k:NameKind),M.lookup x=some k->(x,k)∈M:=fun x M k h=>RV h;refine ⟨hk,hn,hc,clos,fun x c h=>?_,fun x h=>?_,fun σ=>?_,fun σ i x v e1 e2=>?_⟩
 ·have m:=RV h;obtain ⟨y,_,e⟩:=Rj.mp m;obtain ⟨d,hd,e'⟩:=QE.mp e;cases e';exact hd
 ·have hm:x∈fr:=by
   rcases h with h|h <;>
   ·have q:=Ru.mp hhas _ (lk x _ _ h);rw [RM] at q;rcases q with q|q
    ·simp at q
    ·simpa using q
  exact _pd hm (Ru.mp hall x hm)
 ·unfold _bH;rw [Qc,hl]
 ·unfold _bH at e2;rw [Qi] at e2;obtain ⟨o,ho,e2⟩:=QE.mp e2;cases o with
  |none=>cases e2
  |some j =>
   have hz:(some j,x)∈js.zip N:=by
    refine Gd.mpr ⟨i,?_⟩;rw [List.getElem?_zip_eq_some];exact ⟨ho,e1⟩
   have q:=Ru.mp hcap _ hz;simp only [Rl] at q;refine ⟨_eY q.1.2,_eY q.2,j,eq_of_beq q.1.1,?_⟩;replace e2:(σ[j]?).getD none=some v:=e2;cases e3:σ[j]? with
   |none=>rw [e3] at e2;cases e2
   |some o'=>rw [e3] at e2;rw [show o'=some v from e2]
theorem Wq {σ0:St} {g:TG} {tt:TT} {Q:VK} {H1:Hp} (_S:List (Option V)) (hn:_S.length<sizeLine) (σP:St->Prop) (h0:σP σ0)
 (go:∀i H,i<_S.length->Same H1 H->J.go i H) (stop:∀H,Same H1 H->J.stop _S.length H)
 (step:∀i σ H x H' o,_S[i]?=some o->σP σ->Same H1 H->J.yld i H x H'->∀C:Option V->St->Hp->Prop,(∀σ2 H6,σP σ2->Same H H6->C o σ2 H6)->g x σ H' fun σ2 H4=>tt σ2 H4 fun c H5=>if c=true then te σ2 H5 fun y' H6=>C (some y') σ2 H6 else C none σ2 H5)
 (fin:∀D H',H1 D=none->Same H1 H'->H' D=some (.lst (_S.filterMap id))->Q (.ref D) H'):JE J σ0 g tt te Q H1:=by
 intro D hD
 have keep:∀{H:Hp} {o:HO},Same H1 H->Same H1 (_b H D o):=fun {H o} e b u q=>by
  rw [_g (_R q hD)];exact e b u q
 have fl:∀i,((_S.take i).filterMap id).length≤_S.length:=fun i=>Qj (GF _ _) (by rw [QU];omega);refine ⟨fun i m σ ys H=>i≤_S.length∧m=_S.length-i∧σP σ∧ys=(_S.take i).filterMap id∧H D=some (.lst ys)∧Same H1 H,⟨_,QM _,rfl,h0,rfl,_f,keep (Same.refl H1)⟩,?_⟩;rintro i m σ ys H ⟨hi,rfl,p,rfl,hd,sm⟩;refine ⟨hd,?_⟩;by_cases lt:i<_S.length
 ·refine .inr ⟨go i H lt sm,fun σ2 ys2 H3=>σP σ2∧ys2=(_S.take (i+1)).filterMap id∧H3 D=some (.lst ys2)∧Same H1 H3,fun σ2 ys2 H3 ⟨a,b,c,d⟩=>⟨_,by omega,lt,rfl,a,b,c,d⟩,fun x H3 y=>?_⟩;have e:_S[i]?=some _S[i]:=by simp [lt]
  have tk:(_S.take (i+1)).filterMap id=(_S.take i).filterMap id++_S[i].toList:=by
   rw [RL,e];simp only [Option.toList_some,Rv];cases _S[i]<;>rfl
  refine step i σ H x H3 _S[i] e p sm y (fun o σ2 H6=>match o with
   |some y'=>H6 D=some (.lst ((_S.take i).filterMap id))∧((_S.take i).filterMap id).length<sizeLine∧σP σ2∧(_S.take i).filterMap id++[y']=(_S.take (i+1)).filterMap id∧_b H6 D (.lst ((_S.take i).filterMap id++[y'])) D=some (.lst ((_S.take i).filterMap id++[y']))∧Same H1 (_b H6 D (.lst ((_S.take i).filterMap id++[y'])))
   |none=>σP σ2∧(_S.take i).filterMap id=(_S.take (i+1)).filterMap id∧H6 D=some (.lst ((_S.take i).filterMap id))∧Same H1 H6) fun σ2 H6 p2 s6=>?_
  rw [tk];cases hg:_S[i] with
  |none=>exact ⟨p2,by simp,s6 _ _ hd,sm.trans s6⟩
  |some y'=>exact ⟨s6 _ _ hd,Q8 (fl i) hn,p2,by simp,_f,keep (sm.trans s6)⟩
 ·have e:i=_S.length:=by omega
  subst e;rw [QN] at hd;exact .inl ⟨stop H sm,fin D H hD sm hd⟩
end L2
namespace RevF
open PySem PySem.Spec PyProof.Rows
theorem sp:splitId "reversed.__new__"=some ("reversed","__new__"):=by rfl
section
variable {prog:Program} {w:World} {A:Around} {E:Value->Shared->Prop} {s:Shared} {a it:Addr} {us:Array Value}
end
end RevF
namespace L2
open PySem PySem.Spec PyProof.Rows
variable {X:Cx}
section
variable {prog:Program} {w:World} {A:Around} {E:Value->Shared->Prop} {s:Shared}
end
section
variable {o e f:Expr} {apos cpos:Pos} {td ty tx:TE}
end
theorem _kO {n:Nat} (h:n≤1000):3*n≤sizeLine:=Qj (Nat.mul_le_mul_left 3 h) (by decide)
theorem _lh:Wd X "str.lower" (fun x xs H Q=>∃z,x=.str z∧xs=[]∧z.length≤1000∧Q (.str (Txt.lower z)) H):=by
 intro pins s σ H x xs v us Q I rx r h;obtain ⟨z,rfl,rfl,hz,q⟩:=h;obtain ⟨t,rfl⟩:=rx;cases r;exact call_gives PySem.F.slot_str_lower rfl PySem.F.entry_str_lower (PySem.F.args_str_lower_1 _) (gives_str_lower z t (fit_lower (by omega))) ⟨Qj (len_lower z) (_kO hz),.str (Txt.lower z),H,I.tok _,⟨_,rfl⟩,q⟩
theorem _hi (K:W.Frag) {o:Expr} {to:TE} {name:Str} {apos cpos:Pos} {T id:String} {r:V->List V->Hp->VK->Prop} (pa:PlainAttrs T) (slot:Slot T name id) (hty:typeOf (.builtin id)=pure (.type "method_descriptor")) (hm:Wd X id r) (ho:PE X o to) (hK:X.K=K:=by rfl)
 (hbase:attributeBase o name X.env (eval o X.env)=eval o X.env:=by rfl) (hline:(apos.endLine==cpos.line)=true:=by rfl):PE X (.Call (.Attribute o name apos) [] [] cpos) (_c8 K T r to):=by
 subst hK;exact _cS pa slot hty hm ho hbase hline
end L2
namespace RevF
open PySem PySem.Spec PyProof.Rows
section
variable {prog:Program} {w:World} {A:Around} {E:Value->Shared->Prop} {s:Shared} {a it:Addr} {us:Array Value}
end
end RevF
namespace TextM
open PySem
variable {c:Nat}
noncomputable def splitL (c:Nat):List Nat->List (List Nat)
 |[]=>[[]]
 |a::r=>if a=c then []::splitL c r else match splitL c r with
  |[]=>[[a]]
  |p::ps=>(a::p)::ps
theorem splitL_ne (c:Nat):∀l,∃p ps,splitL c l=p::ps
 |[]=>⟨_,_,rfl⟩
 |a::r=>by
  unfold splitL;by_cases h:a=c
  ·rw [Qb h];exact ⟨_,_,rfl⟩
  ·rw [Qa h];obtain ⟨p,ps,e⟩:=splitL_ne c r;rw [e];exact ⟨_,_,rfl⟩
theorem splitL_cons_ne {a:Nat} {r:List Nat} {p:List Nat} {ps:List (List Nat)} (h:a≠c) (e:splitL c r=p::ps):splitL c (a::r)=(a::p)::ps:=by
 rw [splitL,Qa h,e]
theorem splitL_cons_eq {r:List Nat}:splitL c (c::r)=[]::splitL c r:=by rw [splitL,Qb rfl]
noncomputable def XG (c:Nat):Nat->List Nat->List Nat
 |_,[]=>[]
 |k,a::r=>if a=c then k::XG c (k+1) r else XG c (k+1) r
theorem U1 {l:List Nat} {k:Nat} (lt:k<l.length):∃v,l.drop k=v::l.drop (k+1)∧l[k]?=some v:=⟨l[k],NE lt,Qu lt⟩
theorem Vg (x:Str) (c:Nat) (lim:Nat) (hl:x.length<lim):∀(m k:Nat) (found:Array Nat) (free:Nat),k+m=x.length->found.size≤k->free≤k →
  (forIn (List.range' k (m+1)) (found,free) (StrLaws.occBody x ⟨#[c]⟩ x.length lim)).run.fst.toList=found.toList++XG c k (x.cps.toList.drop k)
 |0,k,found,free,hk,hs,hf=>by
  have e:x.cps.toList.drop k=[]:=G9 (by rw [QF];show x.length≤k;omega);rw [e,XG,QC];rw [Na,List.range'_zero,Gc];have no:¬(k+(⟨#[c]⟩:Str).length≤x.length):=by show ¬(k+1≤x.length);omega
  unfold StrLaws.occBody;simp [no]
 |m+1,k,found,free,hk,hs,hf=>by
  have lt:k<x.cps.toList.length:=by rw [QF];show k<x.length;omega
  rw [Na,Gc];obtain ⟨v,dr,ev⟩:=U1 lt;have sub:=StrLaws.subAt_one x c k;have i1:k+(⟨#[c]⟩:Str).length≤x.length:=by show k+1≤x.length;omega
  by_cases h:v=c
  ·have t:Builtin.Str.subAt x ⟨#[c]⟩ k=true:=(sub.mpr (by rw [ev,h])).2
   have st:StrLaws.occBody x ⟨#[c]⟩ x.length lim k (found,free)=pure (ForInStep.yield (found.push k,k+1)):=by
    unfold StrLaws.occBody;have z1:found.size<lim:=by omega
    simp [z1,hf,i1,t];rfl
   rw [st,pure_bind];have ih:=Vg x c lim hl m (k+1) (found.push k) (k+1) (by omega) (by simp;omega) (Qe _);rw [dr,XG,Qb h];simpa using ih
  ·have t:Builtin.Str.subAt x ⟨#[c]⟩ k=false:=by
    rw [QP];intro q;have:=sub.mp ⟨i1,q⟩;rw [ev] at this;exact h (Ql this)
   have st:StrLaws.occBody x ⟨#[c]⟩ x.length lim k (found,free)=pure (ForInStep.yield (found,free)):=by
    unfold StrLaws.occBody;simp [t]
   rw [st,pure_bind];have ih:=Vg x c lim hl m (k+1) found free (by omega) (by omega) (by omega);rw [dr,XG,Qa h];simpa using ih
theorem _iM (x:Str) (c:Nat):Builtin.Str.occurrences x ⟨#[c]⟩ 0 x.length (x.length+1)=XG c 0 x.cps.toList:=by
 rw [StrLaws.occ_eq];have:=Vg x c (x.length+1) (Rq _) x.length 0 #[] 0 (by omega) (Qe _) (Qe _);simpa using this
theorem _bE (x:Str):∀(cuts:List Nat) (a:Nat),((a::cuts.map (·+1)).zip (cuts++[x.length])).map (fun p=>Builtin.Str.strSub x p.1 p.2)=match cuts with
  |[]=>[Builtin.Str.strSub x a x.length]
  |d::r=>Builtin.Str.strSub x a d::(((d+1)::r.map (·+1)).zip (r++[x.length])).map (fun p=>Builtin.Str.strSub x p.1 p.2)
 |[],a=>rfl
 |d::r,a=>rfl
theorem _bJ (x:Str) (c:Nat):∀(m k a:Nat),k+m=x.length->a≤k →
  ∃p ps,splitL c (x.cps.toList.drop k)=p::ps ∧
  ((a::(XG c k (x.cps.toList.drop k)).map (·+1)).zip (XG c k (x.cps.toList.drop k)++[x.length])).map (fun p=>Builtin.Str.strSub x p.1 p.2) =
   (⟨((x.cps.toList.drop a).take (k-a)++p).toArray⟩:Str)::ps.map fun q=>(⟨q.toArray⟩:Str)
 |0,k,a,hk,ha=>by
  have e:x.cps.toList.drop k=[]:=G9 (by rw [QF];show x.length≤k;omega);rw [e];refine ⟨[],[],rfl,?_⟩;have ek:k=x.length:=by omega
  show [Builtin.Str.strSub x a x.length]=_;refine Qk (·::[]) (R0 ?_);rw [←RA,R1,←ek];simp
 |m+1,k,a,hk,ha=>by
  have lt:k<x.cps.toList.length:=by rw [QF];show k<x.length;omega
  obtain ⟨v,dr,ev⟩:=U1 lt;by_cases h:v=c
  ·obtain ⟨p,ps,e1,e2⟩:=_bJ x c m (k+1) (k+1) (by omega) (Qe _);refine ⟨[],p::ps,by rw [dr,h,splitL_cons_eq,e1],?_⟩;rw [dr,XG,Qb h,_bE];simp only;rw [e2];simp only [Ge,List.take_zero,GG,QC,Qs];refine Qk (·::_) (R0 ?_);rw [←RA,R1]
  ·obtain ⟨p,ps,e1,e2⟩:=_bJ x c m (k+1) a (by omega) (by omega);refine ⟨v::p,ps,by rw [dr];exact splitL_cons_ne h e1,?_⟩;rw [dr,XG,Qa h,e2];refine Qk (·::_) ?_
   congr 2
   have:k+1-a=(k-a)+1:=by omega
   rw [this,RL,NF,show a+(k-a)=k by omega,ev];simp
theorem split_one (x:Str) (c:Nat) (hk:¬Builtin.Str.strKind x<Builtin.Str.strKind ⟨#[c]⟩):Txt.split x ⟨#[c]⟩=(splitL c x.cps.toList).map fun q=>(⟨q.toArray⟩:Str):=by
 obtain ⟨p,ps,e1,e2⟩:=_bJ x c x.length 0 0 (by omega) (Qe _);rw [GH] at e1 e2
 have res:Builtin.Str.partsBetween x (XG c 0 x.cps.toList) (⟨#[c]⟩:Str).length=(splitL c x.cps.toList).map fun q=>(⟨q.toArray⟩:Str):=by
  rw [e1];unfold Builtin.Str.partsBetween;have l1:(⟨#[c]⟩:Str).length=1:=rfl;rw [l1];simpa using e2
 unfold Txt.split;by_cases h1:x.length<(⟨#[c]⟩:Str).length
 ·have z:x.cps.toList=[]:=by
   have:x.length<1:=h1;apply NG;rw [QF];show x.length=0;omega
  have zx:x=⟨#[]⟩:=R0 (by rw [←RA,z]);rw [Qb (by simp [h1]),zx];rfl
 ·rw [Qa (by simp [h1];exact Nat.not_lt.mp hk),_iM];by_cases h2:(XG c 0 x.cps.toList).isEmpty=true
  ·rw [Qb h2];rw [List.isEmpty_iff] at h2;rw [←res,h2];unfold Builtin.Str.partsBetween;simp only [R8,GG,List.zip_cons_cons,List.zip_nil_left,Qs];refine Qk (·::[]) (R0 ?_);rw [←RA,R1];simp [Str.length];rw [NH (by rw [QF];exact Qe _)]
  ·rw [Qa h2,res]
noncomputable def Vu (c:Nat):List Nat->List (List Nat)->List Nat
 |p,[]=>p
 |p,q::r=>p++c::Vu c q r
theorem _aY {c:Nat}:∀{p:List Nat} {r q:List Nat} {qs:List (List Nat)},c∉p->splitL c r=q::qs->splitL c (p++r)=(p++q)::qs
 |[],_,_,_,_,e=>e
 |a::p,r,q,qs,h,e=>by
  have h1:a≠c:=fun z=>h (by rw [z];exact QA ..);have h2:c∉p:=fun z=>h (Qv _ z);exact splitL_cons_ne h1 (_aY h2 e)
theorem _gA {c:Nat}:∀{ps:List (List Nat)} {p:List Nat},c∉p->(∀q∈ps,c∉q)->splitL c (Vu c p ps)=p::ps
 |[],p,h,_=>by
  have:=_aY (c:=c) (p:=p) (r:=[]) h rfl;simpa [Vu] using this
 |q::ps,p,h,hs=>by
  have ih:=_gA (ps:=ps) (p:=q) (hs q (QA ..)) fun x hx=>hs x (Qv _ hx);rw [Vu];have:=_aY (c:=c) (p:=p) (r:=c::Vu c q ps) h (by rw [splitL_cons_eq,ih]);rw [this,QC]
theorem UK (c:Nat):∀(ps:List Str) (p:Str),((⟨#[c]⟩:Str).join (p::ps)).cps.toList=Vu c p.cps.toList (ps.map (·.cps.toList))
 |[],p=>by
  show (p:Str).cps.toList=_;rfl
 |q::ps,p=>by
  have ih:=UK c ps q;show (p++(⟨#[c]⟩:Str)++(⟨#[c]⟩:Str).join (q::ps)).cps.toList=_;rw [GI,GI,GJ,GJ,ih];simp [Vu]
theorem _k5 {p:Str} {ps:List Str} (hk:¬Builtin.Str.strKind ((⟨#[c]⟩:Str).join (p::ps))<Builtin.Str.strKind ⟨#[c]⟩) (h:∀q∈p::ps,c∉q.cps.toList):Txt.split ((⟨#[c]⟩:Str).join (p::ps)) ⟨#[c]⟩=p::ps:=by
 rw [split_one _ _ hk,UK,_gA (h p (QA ..)) (by
  intro q hq;obtain ⟨z,hz,rfl⟩:=Qf.mp hq;exact h z (Qv _ hz))]
 have e:((fun q:List Nat=>(⟨q.toArray⟩:Str))∘fun x:Str=>x.cps.toList)=id:=funext fun x=>by simp
 simp [e]
theorem kind_low {x:Str} (hc:c<256):¬Builtin.Str.strKind x<Builtin.Str.strKind ⟨#[c]⟩:=by
 have e:Builtin.Str.strKind ⟨#[c]⟩=1:=by
  unfold Builtin.Str.strKind;rw [Qb (by simp [hc])]
 rw [e];unfold Builtin.Str.strKind;split
 ·decide
 ·split<;>decide
end TextM
namespace L2
open PySem PySem.Spec PyProof.Rows
variable {A:Around} {X:Cx} {H:Hp} {pins:List (Addr×Obj)} {prog:Program} {s:Shared} {σ:St} {v:Value} {E Q:Value->Shared->Prop}
theorem UQ:∀{zs:List Str} {us:List Value},Vals (zs.map V.str) us->StrsAre us zs
 |[],_,.nil=>.nil
 |z::zs,_,.cons r rs=>by
  obtain ⟨t,rfl⟩:=r;exact .cons z t (UQ rs)
noncomputable def _nQ (K:W.Frag):V->List V->Hp->VK->Prop:=fun x xs H Q=>∃sep a zs,x=.str sep∧xs=[.ref a]∧(SqL K H a (zs.map V.str)∨SqT K H a (zs.map V.str))∧(zs.map (·.length)).sum+zs.length*sep.length≤16777216∧Q (.str (sep.join zs)) H
theorem _bl (K:W.Frag) (hK:X.K=K:=by rfl):Wd X "str.join" (_nQ K):=by
 subst hK;intro pins s σ H x xs v us Q I rx r h;obtain ⟨sep,a,zs,rfl,rfl,ha,hz,q⟩:=h;obtain ⟨t,rfl⟩:=rx;obtain ⟨u,rfl,ru⟩:=YX r;cases (show u=Value.ref a from ru);rcases ha with ha|ha
 ·obtain ⟨its,rv,pl,_⟩:=I.list ha;refine join_list pl.isList (UQ rv) hz fun t' k=>⟨.str (sep.join zs),H,I.kept (t':=k) fun b u q=>q,?_,q⟩;exact ⟨t',by rw [Txt.join,StrLaws.glued_eq_join]⟩
 ·obtain ⟨its,rv,pl,_⟩:=I.tuple ha;refine join_tuple pl (UQ rv) hz fun t' k=>⟨.str (sep.join zs),H,I.kept (t':=k) fun b u q=>q,?_,q⟩;exact ⟨t',by rw [Txt.join,StrLaws.glued_eq_join]⟩
theorem _bv:∀(zs:List Str) (n:Nat),Vals (zs.map V.str) (strsFrom n zs)
 |[],_=>.nil
 |z::zs,n=>.cons ⟨_,rfl⟩ (_bv zs (n+1))
theorem _ls (z:Str) (c:Nat):((TextM.splitL c z.cps.toList).map fun q=>(⟨q.toArray⟩:Str)).length≤z.length+1:=by
 rw [Qc]
 have go:∀l:List Nat,(TextM.splitL c l).length≤l.length+1:=by
  intro l
  induction l with
  |nil=>exact Qe _
  |cons a r ih =>
   obtain ⟨p,ps,e⟩:=TextM.splitL_ne c r;by_cases h:a=c
   ·subst h;rw [TextM.splitL_cons_eq,QH,QH];omega
   ·rw [TextM.splitL_cons_ne h e];rw [e] at ih;simp only [QH] at ih ⊢;omega
 have:=go z.cps.toList;rw [QF] at this;exact this
noncomputable def partsOf (c:Nat) (z:Str):List Str:=(TextM.splitL c z.cps.toList).map fun q=>(⟨q.toArray⟩:Str)
noncomputable def _pi (c:Nat):V->List V->Hp->VK->Prop:=fun x xs H Q=>∃z,x=.str z∧xs=[.str ⟨#[c]⟩]∧z.length≤100000∧∀D,H D=none->Q (.ref D) (_b H D (.lst ((partsOf c z).map V.str)))
theorem Uh:100002≤sizeLine:=by decide
theorem _fm (c:Nat) (hc:c<256):Wd X "str.split" (_pi c):=by
 intro pins s σ H x xs v us Q I rx r h;obtain ⟨z,rfl,rfl,hz,q⟩:=h;obtain ⟨t,rfl⟩:=rx;obtain ⟨u,rfl,ru⟩:=YX r;obtain ⟨t2,rfl⟩:=ru;have hb:=Uh;have sp:=TextM.split_one z c (TextM.kind_low hc);have pl:=_ls z c
 have fin:∀(us:List Value) (tk:Nat),Vals ((partsOf c z).map V.str) us->EP X pins σ Q (.ref s.heap.objs.size) { s with heap:=s.heap.push { cls:=.type "list",data:=.seq us.toArray },toks:=tk }:=fun us tk rv =>
  ⟨.ref _,_,I.laid (t':=tk) (o:=.lst ((partsOf c z).map V.str)) (fun b u e=>Qq _ e) (Qe _) (show ObjOk X.prog X.w _ _ _ (.lst ((partsOf c z).map V.str)) from ⟨by rw [Qc];unfold partsOf;omega,us,0,rv,Qw _ rfl⟩),rfl,q _ (I.hok.fresh (Qe _))⟩
 unfold Txt.split at sp;by_cases h1:(decide (z.length<(⟨#[c]⟩:Str).length)||decide (Builtin.Str.strKind z<Builtin.Str.strKind ⟨#[c]⟩))=true
 ·rw [Qb h1] at sp;refine Ry RB rfl Gf (Gg _ _) (meets_str_split_cannot_occur z _ t t2 h1) (fin [.str z t] s.toks ?_);unfold partsOf;rw [←sp];exact .cons ⟨_,rfl⟩ .nil
 ·rw [Qa h1] at sp;by_cases h2:(Builtin.Str.occurrences z ⟨#[c]⟩ 0 z.length (z.length+1)).isEmpty=true
  ·rw [Qb h2] at sp;refine Ry RB rfl Gf (Gg _ _) (meets_str_split_not_found z _ t t2 (QP.mpr h1) rfl h2) (fin [.str z t] s.toks ?_);unfold partsOf;rw [←sp];exact .cons ⟨_,rfl⟩ .nil
  ·rw [Qa h2] at sp;refine Ry RB rfl Gf (Gg _ _) (meets_str_split_sep z _ t t2 (QP.mpr h1) rfl (QP.mpr h2) (by omega) (by rw [sp];omega)) (fin _ _ ?_);unfold partsOf;rw [←sp];exact _bv _ _
noncomputable def _hw:V->Option Int->Option Int->Hp->VK->Prop:=fun x lo hi H Q=>∃z,x=.str z∧z.length≤sizeLine∧Q (.str (Txt.slice z lo hi)) H
theorem _ed {o:Option Int} (h:IsPart v o):∃l:Option (Int×Tok),v=partValue l∧l.map (·.1)=o:=by
 cases h with
 |none=>exact ⟨none,rfl,rfl⟩
 |int i t=>exact ⟨some (i,t),rfl,rfl⟩
theorem JD:SlR X _hw:=by
 intro pins s σ H x v vl vu lo hi sl Q I rx hs pl pu h;obtain ⟨z,rfl,hz,q⟩:=h;obtain ⟨t,rfl⟩:=rx;obtain ⟨l,rfl,el⟩:=_ed pl;obtain ⟨u,rfl,eu⟩:=_ed pu;refine ⟨"str",_,PyProof.Rows.slot_str_getitem.lookup,rfl,wpAny_getItem_str_slice (st:=none) hs rfl ?_⟩;unfold sliceMade slicePicked;rw [el,eu];show Made.post (if ((1:Int)==1&&(Builtin.Str.strSliceIndices lo hi 1 z.length).length==z.length)=true then _ else Made.str ⟨(List.filterMap (fun i=>z.cps[i]?) (Builtin.Str.strSliceIndices lo hi 1 z.length)).toArray⟩) _ _;have hle:=Txt.slice_le z lo hi;unfold Txt.slice at q hle;by_cases c:((1:Int)==1&&(Builtin.Str.strSliceIndices lo hi 1 z.length).length==z.length)=true
 ·rw [Qb c];rw [Qb c] at q;exact ⟨.str z,H,I,⟨_,rfl⟩,q⟩
 ·rw [Qa c];rw [Qa c] at q hle;exact ⟨Qj hle hz,.str _,H,I.tok _,⟨_,rfl⟩,q⟩
section
variable {CX:YA} {k:Nat} {f C:Addr} {fd:FuncData} {ps:List Str} {sp:Sp} {dvs:List V} {ds:List Value} {E:XS} {x m:Str} {p pos apos:Pos} {e o:Expr} {es:List Expr} {ta:TE} {t:TA}
noncomputable def _bW (C:Addr) (m:Str) (sp:Sp) (dvs:List V) (E:XS) (ta:TE) (t:TA):TE:=fun σ H Q=>ta σ H fun x H1=>∃a dx fs,x=.ref a∧H1 a=some (.ins C dx fs)∧fs.lookup m=none ∧
 t σ H1 fun vs H2=>sp (x::(vs++dvs)) H2 Q (E σ)
theorem U8 {pl:Sem Bool} (he:PE X o ta) (c:Cls X.K C) (hm:Meth X.K C m f) (F:FnOk X.prog X.w X.K X.mg X.base CX k f fd ps sp) (hr:Room k X.A) (hb:Binds X.K fd ps ds) (hd:Vals dvs ds) (hx:WM CX X E) (ha:PA X (e::es) t)
 (hst:starEach (e::es) X.env=(false,eval e X.env)::starEach es X.env:=by rfl) (hpl:(backTo pos (starEach es X.env)).any (·.1)=false:=by rfl)
 (ht:eval (.Call (.Attribute o m apos) (e::es) [] pos) X.env=(do
 let ov ←eval o X.env
 standAt apos.atName
 let (f,first) ←holding [ov] (getMethod ov m pl)
 callWith pos f first (backTo pos (starEach (e::es) X.env)) (backToKw pos (keywordEach [] X.env))):=by rfl) :
  PE X (.Call (.Attribute o m apos) (e::es) [] pos) (_bW C m sp dvs E ta t):=by
 intro pins s σ H Q I h;refine W.methodCall_KW (pl:=pl) (_p (he pins s σ H _ I h) fun u s1 ⟨x,H1,I1,rx,a,dx,fs,ex,ea,l,q⟩=>?_) ht;subst ex;obtain rfl:u=Value.ref a:=rx;refine UZ I1 ea c hm l ?_;refine RY (first:=[.ref a]) (h₀:=X.base) I.ok.mod.kin hm.kp (_p (ha pos pins s1 σ H1 _ I1 q) fun us s2 ⟨vs,H2,I2,r,q2⟩=>⟨I2.kIn,?_⟩) hst hpl;exact V7 (us:=.ref a::us) (vs:=.ref a::vs) F hr hb hd hx I2 (.cons rfl r) q2
theorem _iC {pl:Sem Bool} (he:PE X o ta) (c:Cls X.K C) (hm:Meth X.K C m f) (F:FnOk X.prog X.w X.K X.mg X.base CX k f fd ps sp) (hr:Room k X.A) (hb:Binds X.K fd ps ds) (hd:Vals dvs ds) (hx:WM CX X E)
 (ht:eval (.Call (.Attribute o m apos) [] [] pos) X.env=(do
 let ov ←eval o X.env
 standAt apos.atName
 let (f,first) ←holding [ov] (getMethod ov m pl)
 callWith pos f first (backTo pos (starEach [] X.env)) (backToKw pos (keywordEach [] X.env))):=by rfl) :
  PE X (.Call (.Attribute o m apos) [] [] pos) (_bW C m sp dvs E ta Uv):=by
 intro pins s σ H Q I h;refine W.methodCall_KW (pl:=pl) (_p (he pins s σ H _ I h) fun u s1 ⟨x,H1,I1,rx,a,dx,fs,ex,ea,l,q⟩=>?_) ht;subst ex;obtain rfl:u=Value.ref a:=rx;refine UZ I1 ea c hm l ?_;exact W.callWith_K0 (first:=[.ref a]) I1.kIn hm.kp (V7 (us:=[.ref a]) (vs:=[.ref a]) F hr hb hd hx I1 (.cons rfl .nil) q)
noncomputable def _d2 (C:Addr) (sp:Sp) (dvs:List V) (E:XS) (t:TA):TE:=fun σ H Q=>t σ H fun vs H1=>∀x dx,H1 x=none->H1 dx=none->dx≠x →
 sp (.ref x::(vs++dvs)) (_b (_b H1 dx (.own x)) x (.ins C dx [])) (fun v H2=>v=.non∧Q (.ref x) H2) (E σ)
theorem _dA {Q:VK} {us:List Value} {vs:List V} (M:Mk X.K C f) (F:FnOk X.prog X.w X.K X.mg X.base CX k f fd ps sp) (hr:Room (k+1) X.A) (hb:Binds X.K fd ps ds) (hd:Vals dvs ds)
 (hx:WM CX X E) (I:Inv X pins σ H s) (r:Vals vs us)
 (h:∀x dx,H x=none->H dx=none->dx≠x->sp (.ref x::(vs++dvs)) (_b (_b H dx (.own x)) x (.ins C dx [])) (fun v H2=>v=.non∧Q (.ref x) H2) (E σ)) :
  wpAny (model X.prog X.w) X.A (call (.ref C) us) (EP X pins σ Q) X.xe s:=by
 have hq:=h (s.heap.objs.size+1) s.heap.objs.size (I.hok.fresh (Re _)) (I.hok.fresh (Qe _)) (Qz (Rq _));have I2:=Inv.made (C:=C) I;have r2:Vals (V.ref (s.heap.objs.size+1)::(vs++dvs)) (Value.ref (s.heap.objs.size+1)::(us++ds)):=.cons rfl (r.append hd)
 have hl:(Value.ref (s.heap.objs.size+1)::us++ds).length=ps.length:=by
  have e:=r2.length;rw [F.len _ _ _ _ hq] at e;exact e.symm
 refine wpAny_call (_iu (f:=f) I.kIn M.makes M.init (RH.mp M.fn) (Gx (F.run _ X.stack _ _ ⟨Value.ref (s.heap.objs.size+1)::us,[]⟩ (Value.ref (s.heap.objs.size+1)::(us++ds)) _ _ (E σ) (hr.make C us [])
  (I2.env0.make C us []) (hb _ (Value.ref (s.heap.objs.size+1)::us) I2.kIn hl) r2 hq) fun r s' hq'=>?_))
 cases r with
 |error e=>exact hx pins σ _ _ e s' I2 hq'
 |ok fl =>
  cases fl with
  |ret u =>
   obtain ⟨v,H',I3,rv,ev,q3⟩:=I2.after hq';subst ev;exact ⟨rv,⟨V.ref (s.heap.objs.size+1),H',I3,rfl,q3⟩⟩
  |next=>exact False.elim hq'
  |brk=>exact False.elim hq'
  |cont=>exact False.elim hq'
theorem _aq (M:Mk X.K C f) (F:FnOk X.prog X.w X.K X.mg X.base CX k f fd ps sp) (hr:Room (k+1) X.A) (hg:Gl X x) (hm:X.mg x=some (.ref C)) (hb:Binds X.K fd ps ds) (hd:Vals dvs ds) (hx:WM CX X E)
 (ha:PA X (e::es) t) (hdb:(x==("__debug__": Str))=false:=by decide) (he:starEach (e::es) X.env=(false,eval e X.env)::starEach es X.env:=by rfl) (hpl:(backTo pos (starEach es X.env)).any (·.1)=false:=by rfl) :
  PE X (.Call (.Name x p) (e::es) [] pos) (_d2 C sp dvs E t):=by
 intro pins s σ H Q I h;refine RX (_ae I hg hm ?_ hdb);refine RY (h₀:=X.base) I.ok.mod.kin M.kp (_p (ha pos pins s σ H _ I h) fun us s1 ⟨vs,H1,I1,r,q⟩=>⟨I1.kIn,?_⟩) he hpl;exact _dA M F hr hb hd hx I1 r q
theorem _kE (M:Mk X.K C f) (F:FnOk X.prog X.w X.K X.mg X.base CX k f fd ps sp) (hr:Room (k+1) X.A) (hg:Gl X x) (hm:X.mg x=some (.ref C)) (hb:Binds X.K fd ps ds) (hd:Vals dvs ds) (hx:WM CX X E)
 (hdb:(x==("__debug__": Str))=false:=by decide):PE X (.Call (.Name x p) [] [] pos) (_d2 C sp dvs E Uv):=by
 intro pins s σ H Q I h;refine RX (_ae I hg hm ?_ hdb);exact W.callWith_K0 I.kIn M.kp (_dA (us:=[]) M F hr hb hd hx I .nil h)
end
theorem WQ:bootBuiltins "sorted"=some (.builtin "sorted"):=by trivial
theorem UO:∀{us:List Value} {zs:List Str},StrsAre us zs->Vals (zs.map V.str) us
 |_,_,.nil=>.nil
 |_,_,.cons y t r=>.cons ⟨t,rfl⟩ (UO r)
theorem _iy (K:W.Frag) (hK:X.K=K:=by rfl):YJ X (.builtin "sorted") (fun xs H Q=>∃l zs,xs=[.ref l]∧SqL K H l (zs.map V.str)∧zs.length<64∧∀D zs',H D=none->zs'.Perm zs->sortedS zs'=true->Q (.ref D) (_b H D (.lst (zs'.map V.str)))):=by
 subst hK;intro pins s σ H xs us Q I r h;obtain ⟨l,zs,rfl,hq,hl,q⟩:=h;obtain ⟨u,rfl,ru⟩:=YX r;cases (show u=Value.ref l from ru);obtain ⟨its,rv,pl,hz⟩:=I.list hq;have hlen:=rv.length;rw [Qc] at hlen;refine sorted_strs pl.isList (UQ rv) (by omega) fun out zs' so hp hs=>?_;obtain ⟨e,he⟩:=sortedAll_at s.heap its out;have hle:s.heap.objs.size≤s.heap.objs.size+1:=Re _;have hl2:zs'.length=zs.length:=hp.length_eq;refine ⟨.ref _,_,I.laid (t':=s.toks) (o:=.lst (zs'.map V.str)) (fun b u q=>sortedAll_old q) hle (show ObjOk X.prog X.w _ _ _ (.lst (zs'.map V.str)) from ⟨by rw [Qc];exact QS (small1000 (by omega)),out.toList,e,UO so,he⟩),rfl,q _ zs' (I.hok.fresh hle) hp hs⟩
noncomputable def _P (x y:Str):Bool:=decide (x.cps.toList<y.cps.toList)
section
variable {w:World}
noncomputable def YO (xs:Array (Str×Tok)):Array Value:=xs.map fun p=>.str p.1 p.2
noncomputable def X1 (xs:Array (Str×Tok)) (i:Nat):Str:=(xs[i]?.map (·.1)).getD ""
theorem _cF {xs:Array (Str×Tok)} {i:Nat} (h:(YO xs)[i]?=some v):∃t,v=.str (X1 xs i) t:=by
 simp only [YO,Array.getElem?_map,QE] at h;obtain ⟨p,hp,rfl⟩:=h;exact ⟨p.2,by simp [X1,hp]⟩
theorem _hr {P:Nat->Value->Prop} (val:Nat->Str) (hval:∀i v,P i v->∃t,v=.str (val i) t):CmpOf prog w A .Gt P (fun i j=>_P (val j) (val i)):=fun i j vi vj s Q E hi hj h=>by
 obtain ⟨t,rfl⟩:=hval i vi hi;obtain ⟨u,rfl⟩:=hval j vj hj;exact richCompare_gives (op:=.Gt) (R7 s _ t) (R7 s _ u) F.slot_str_gt F.entry_str_gt (F.args_str_gt_2 _ _) (gives_str_gt _ _ t u) (fun x=>nomatch x) h
theorem _ld {P:Nat->Value->Prop} (val:Nat->Str) (hval:∀i v,P i v->∃t,v=.str (val i) t):CmpOf prog w A .Lt P (fun i j=>_P (val i) (val j)):=fun i j vi vj s Q E hi hj h=>by
 obtain ⟨t,rfl⟩:=hval i vi hi;obtain ⟨u,rfl⟩:=hval j vj hj;exact richCompare_gives (op:=.Lt) (R7 s _ t) (R7 s _ u) F.slot_str_lt F.entry_str_lt (F.args_str_lt_2 _ _) (gives_str_lt _ _ t u) (fun x=>nomatch x) h
theorem _og {a b:Str} {t u:Tok} (hh:A.handled=none)
 (h:∀h' tk,(∀c o,s.heap.get? c=some o->h'.get? c=some o)->Q (if _P a b=true then .str b u else .str a t) { s with heap:=h',toks:=tk }) :
  wpAny (model prog w) A (call (.builtin "max") [.str a t,.str b u]) Q E s:=by
 have hT:(s.heap.push { cls:=.type "tuple",data:=.seq #[.str a t,.str b u] }).IsTuple s.heap.objs.size (YO #[(a,t),(b,u)]):=⟨_,Qw _ rfl,rfl,0,by simp [YO]⟩;refine call_max_two (Gu hT ?_);have hsz:(s.heap.push { cls:=.type "tuple",data:=.seq #[.str a t,.str b u] }).objs.size=s.heap.objs.size+1:=Rk ..
 refine ⟨_,[_,s.heap.objs.size],[_],_,_,_,_,rfl,Walks.tuple (A:=A.in1) hh _ s.heap.objs.size (by rw [hsz];exact Qz (Rq _)) (YO #[(a,t),(b,u)]),
  ⟨⟨_,Qw _ rfl,rfl,rfl⟩,hT.push _⟩,fun c hc=>?_,by simp [YO],_hr (X1 #[(a,t),(b,u)]) (fun _ _=>_cF),fun v h' tk hP hk=>?_⟩
 ·show c<((s.heap.push _).push _).objs.size;rw [Rk,hsz];rcases Qo.mp hc with rfl|hc
  ·rw [hsz];exact Rq _
  ·rcases Qo.mp hc with rfl|hc
   ·exact GE (Rq _)
   ·cases hc
 ·have hold:∀c o,s.heap.get? c=some o->h'.get? c=some o:=fun c o e=>by
   refine hk c o (fun hm=>?_) (Qq _ (Qq _ e));rcases Qo.mp hm with e1|hm
   ·have:=Qp e;rw [e1,hsz] at this;exact Rx _ (Nat.lt_of_succ_lt this)
   ·cases hm
  have:=h h' tk hold
  have hv:v=if _P a b=true then Value.str b u else Value.str a t:=by
   have hP':(YO #[(a,t),(b,u)])[argBest (fun i j=>_P (X1 #[(a,t),(b,u)] j) (X1 #[(a,t),(b,u)] i)) 1]?=some v:=by
    have hsz2:(YO #[(a,t),(b,u)]).size-1=1:=by simp [YO]
    rw [←hsz2];exact hP
   have e0:argBest (fun i j=>_P (X1 #[(a,t),(b,u)] j) (X1 #[(a,t),(b,u)] i)) 1=if _P a b=true then 1 else 0:=by
    show (if _=true then 1 else 0)=_;rfl
   by_cases hba:_P a b=true
   ·rw [e0,Qb hba] at hP';rw [Qb hba];simpa [YO] using hP'.symm
   ·rw [e0,Qa hba] at hP';rw [Qa hba];simpa [YO] using hP'.symm
  rw [hv];exact this
theorem _hO {a b:Str} {t u:Tok} (hh:A.handled=none)
 (h:∀h' tk,(∀c o,s.heap.get? c=some o->h'.get? c=some o)->Q (if _P b a=true then .str b u else .str a t) { s with heap:=h',toks:=tk }) :
  wpAny (model prog w) A (call (.builtin "min") [.str a t,.str b u]) Q E s:=by
 have hT:(s.heap.push { cls:=.type "tuple",data:=.seq #[.str a t,.str b u] }).IsTuple s.heap.objs.size (YO #[(a,t),(b,u)]):=⟨_,Qw _ rfl,rfl,0,by simp [YO]⟩;refine call_min_two (Gu hT ?_);have hsz:(s.heap.push { cls:=.type "tuple",data:=.seq #[.str a t,.str b u] }).objs.size=s.heap.objs.size+1:=Rk ..
 refine ⟨_,[_,s.heap.objs.size],[_],_,_,_,_,rfl,Walks.tuple (A:=A.in1) hh _ s.heap.objs.size (by rw [hsz];exact Qz (Rq _)) (YO #[(a,t),(b,u)]),
  ⟨⟨_,Qw _ rfl,rfl,rfl⟩,hT.push _⟩,fun c hc=>?_,by simp [YO],_ld (X1 #[(a,t),(b,u)]) (fun _ _=>_cF),fun v h' tk hP hk=>?_⟩
 ·show c<((s.heap.push _).push _).objs.size;rw [Rk,hsz];rcases Qo.mp hc with rfl|hc
  ·rw [hsz];exact Rq _
  ·rcases Qo.mp hc with rfl|hc
   ·exact GE (Rq _)
   ·cases hc
 ·have hold:∀c o,s.heap.get? c=some o->h'.get? c=some o:=fun c o e=>by
   refine hk c o (fun hm=>?_) (Qq _ (Qq _ e));rcases Qo.mp hm with e1|hm
   ·have:=Qp e;rw [e1,hsz] at this;exact Rx _ (Nat.lt_of_succ_lt this)
   ·cases hm
  have:=h h' tk hold
  have hv:v=if _P b a=true then Value.str b u else Value.str a t:=by
   have hP':(YO #[(a,t),(b,u)])[argBest (fun i j=>_P (X1 #[(a,t),(b,u)] i) (X1 #[(a,t),(b,u)] j)) 1]?=some v:=by
    have hsz2:(YO #[(a,t),(b,u)]).size-1=1:=by simp [YO]
    rw [←hsz2];exact hP
   have e0:argBest (fun i j=>_P (X1 #[(a,t),(b,u)] i) (X1 #[(a,t),(b,u)] j)) 1=if _P b a=true then 1 else 0:=by
    show (if _=true then 1 else 0)=_;rfl
   by_cases hba:_P b a=true
   ·rw [e0,Qb hba] at hP';rw [Qb hba];simpa [YO] using hP'.symm
   ·rw [e0,Qa hba] at hP';rw [Qa hba];simpa [YO] using hP'.symm
  rw [hv];exact this
theorem _mY {l:Addr} {vs:List Value} {Q:List Value->Shared->Prop} (hl:IsTup s.heap l vs.toArray)
 (h:Q vs { s with heap:=(s.heap.push (seqObj "list" #[] 0)).update s.heap.objs.size (Obj.mapSeq (·++vs.toArray)) }) (hsz:vs.length≤sizeLine) :
  wpAny (model prog w) A (collect (.ref l)) Q E s:=by
 obtain ⟨o,ho,hc,n,hd⟩:=id hl;unfold collect;refine Qd (wpAny_runValue (GD entry_proto_collect' ?_));show wpAny _ _ (do again (.builtin "list.__iadd__" ⟨[←newList [],.ref l],[]⟩)) _ _ s;refine Qd (Nb (Qg ⟨ND _ (by trivial),GD entry_list_iadd' ?_⟩));show wpAny _ _ (Builtin.List.listExtendWith (.ref s.heap.objs.size) (.ref l) (.ref s.heap.objs.size)) _ _ { s with heap:=s.heap.push (seqObj "list" #[] 0) };unfold Builtin.List.listExtendWith;have ho':(s.heap.push (seqObj "list" #[] 0)).get? l=some o:=Qq _ ho;refine Qd (wpAny_typeOf (T:="tuple") ⟨o,ho',hc⟩ ?_);have ht:(Value.type "tuple"==Value.type "tuple")=true:=by rfl
 rw [Qb (by rw [ht];simp)];refine Qd (listItems_at ho' hd ?_);refine Qd (listItems_at (xs:=#[]) (n:=0) (Qw _ rfl) rfl ?_);rw [Qa (by simp)];refine Qd (listUpdate_at (xs:=#[]) (n:=0) (Qw _ rfl) rfl ?_ (QM _) (by show (#[]++vs.toArray).size≤sizeLine+1;simp only [Array.size_append,Qy,Nz];omega));refine Qg ?_;refine Qd (wpAny_load (get?_update_seq (Qw _ rfl) _) ?_);show wpAny _ _ (pure ((#[]:Array Value)++vs.toArray).toList) Q E _;rw [show ((#[]:Array Value)++vs.toArray).toList=vs by simp];exact Qg h
theorem _lg {x:Value} {vs:List Value} {ss:List Str} (hS:StrsAre vs ss) (h64:vs.length<64)
 (hc:∀(A':Around) (Q':List Value->Shared->Prop),A'.handled=A.handled->(∀h1 tk,(∀b o,s.heap.get? b=some o->h1.get? b=some o)->s.heap.objs.size≤h1.objs.size->Q' vs { s with heap:=h1,toks:=tk })->wpAny (model prog w) A' (collect x) Q' E s)
 (h:∀h' tk a e (out:Array Value) (ss':List Str),(∀b o,s.heap.get? b=some o->h'.get? b=some o)->s.heap.objs.size≤a->h'.get? a=some (seqObj "list" out e)->StrsAre out.toList ss'->ss'.Perm ss->sortedS ss'=true->Q (.ref a) { s with heap:=h',toks:=tk }) :
  wpAny (model prog w) A (call (.builtin "sorted") [x]) Q E s:=by
 refine NI kind_sorted plain_sorted entry_sorted (args_sorted1 _) ?_;unfold Builtin.«sorted»;refine Qd (m:=checkCount "sorted" 1 1 _) (Qg ?_);refine Qd (hc _ _ rfl fun h1 tk k1 z1=>?_);refine Qd (Nb ?_);have hoL:(h1.push (seqObj "list" vs.toArray 0)).get? h1.objs.size=some (seqObj "list" vs.toArray 0):=Qw _ rfl;show wpAny _ _ _ _ _ { s with heap:=h1.push (seqObj "list" vs.toArray 0),toks:=tk };refine Qd (Q3 (Rs slot_list_sort ⟨_,hoL,rfl⟩ entry_list_sort (list_sort_treeK strKind_oneLt hoL hS.keysOf (fun v₁ v₂ rest e=>keyKind_strs (by rw [←e];exact hS)) h64 fun st' a1 a2=>⟨_,rfl,?_⟩) (args_list_sort _)));obtain ⟨ss',b1,b2,b3⟩:=sorted_out_str hS a1 a2;obtain ⟨e,he⟩:=sortedHeap_at (out:=(arrOf st').map (·.2)) hoL;refine Qg ⟨_,rfl,h _ tk _ e _ ss' (fun b o q=>?_) z1 he b1 b2 b3⟩;have q1:=k1 _ _ q;have lt:b<h1.objs.size:=Qp q1;rw [sortedHeap_old (Qz lt) (by rw [size_push'];exact GE lt)];exact Qq _ q1
end
theorem _cd (hc:X.calm=true):YJ X (.builtin "max") (fun xs H Q=>∃i j,xs=[.str i,.str j]∧Q (.str (if _P i j=true then j else i)) H):=by
 intro pins s σ H xs us Q I r h;obtain ⟨i,j,rfl,q⟩:=h;obtain ⟨u,w',rfl,⟨t,rfl⟩,⟨t',rfl⟩⟩:=V5 r;refine _og (I.ok.hd hc) fun h' tk k=>⟨_,H,I.kept k,?_,q⟩;by_cases hj:_P i j=true
 ·rw [Qb hj,Qb hj];exact ⟨_,rfl⟩
 ·rw [Qa hj,Qa hj];exact ⟨_,rfl⟩
theorem _bp (hc:X.calm=true):YJ X (.builtin "min") (fun xs H Q=>∃i j,xs=[.str i,.str j]∧Q (.str (if _P j i=true then j else i)) H):=by
 intro pins s σ H xs us Q I r h;obtain ⟨i,j,rfl,q⟩:=h;obtain ⟨u,w',rfl,⟨t,rfl⟩,⟨t',rfl⟩⟩:=V5 r;refine _hO (I.ok.hd hc) fun h' tk k=>⟨_,H,I.kept k,?_,q⟩;by_cases hj:_P j i=true
 ·rw [Qb hj,Qb hj];exact ⟨_,rfl⟩
 ·rw [Qa hj,Qa hj];exact ⟨_,rfl⟩
theorem _h7 (K:W.Frag) (hK:X.K=K:=by rfl):YJ X (.builtin "sorted") (fun xs H Q=>∃l zs,xs=[.ref l]∧SqT K H l (zs.map V.str)∧zs.length<64∧∀D zs',H D=none->zs'.Perm zs->sortedS zs'=true->Q (.ref D) (_b H D (.lst (zs'.map V.str)))):=by
 subst hK;intro pins s σ H xs us Q I r h;obtain ⟨l,zs,rfl,hq,hl,q⟩:=h;obtain ⟨u,rfl,ru⟩:=YX r;cases (show u=Value.ref l from ru);obtain ⟨its,rv,pl,hz⟩:=I.tuple hq;have hlen:=rv.length;rw [Qc] at hlen;refine _lg (UQ rv) (by omega) (fun A' Q' _ q'=>_mY pl (q' _ _ (fun b o e=>?_) ?_) (by rw [Qc] at hz;omega)) fun h' tk a e out zs' k1 z1 he so hp hs=>?_
 ·have lt:=Qp e;rw [Heap.get?_update_ne _ _ _ _ (Qz lt)];exact Qq _ e
 ·rw [Heap.size_update,size_push'];exact Re _
 have hl2:zs'.length=zs.length:=hp.length_eq;exact ⟨.ref _,_,I.laid (t':=tk) (o:=.lst (zs'.map V.str)) k1 z1 (show ObjOk X.prog X.w _ _ _ (.lst (zs'.map V.str)) from ⟨by rw [Qc];exact QS (small1000 (by omega)),out.toList,e,UO so,he⟩),rfl,q _ zs' (I.hok.fresh z1) hp hs⟩
theorem _jn {w:World} {K:Type} [DecidableEq K] (knd:HeapKind prog w K) (d:Addr) (hd:(d==sysModules)=false) :
  MeetsIn prog w (Builtin.«dict.__len__» ⟨[.ref d],[]⟩) (fun _ R s=>∃kvs,s.heap.DictOfH knd d kvs∧R (.ok (.ret (.int kvs.length s.toks))) { s with toks:=s.toks+1 }) :=
 .of_wp fun A R s ⟨kvs,hm,h⟩=>by
  obtain ⟨o,es,ep,ho,hc,hdat,he,hk,hn⟩:=hm;show wpAny _ _ (dictSize d >>= _) _ _ s;unfold dictSize;refine Qd (Qd (GK ho hdat (Qg ?_)));show wpAny _ _ (Builtin.Dict.pendingCount d >>= _) _ _ s;refine Qd (wpAny_pendingCount_other hd ?_);refine wpAny_ret_mkInt ?_;have:es.size=kvs.length:=size_of_entries he;rw [Nat.add_zero,this];exact h
theorem _hL {w:World} {K:Type} [DecidableEq K] {knd:HeapKind prog w K} {d:Addr} {kvs:List (K×Addr×Value)} (hd:(d==sysModules)=false) (hm:s.heap.DictOfH knd d kvs) (hfit:(kvs.length:Int)<2 ^ 63)
 (h:Q (.int kvs.length (s.toks+1)) { s with toks:=s.toks+1+1 }):wpAny (model prog w) A (call (.builtin "len") [.ref d]) Q E s:=by
 refine NI kind_len plain_len entry_len (args_len1 _) ?_;unfold Builtin.«len»;refine Qd (m:=oneArg "len" _) (Qg ?_)
 refine Qd (m:=callSpecial? (.ref d) (Str.ofString "__len__")) (RK (name:=Str.ofString "__len__") hm.typeIs F.slot_dict_len
  (Ga F.slot_dict_len hm.typeIs F.entry_dict_len (F.args_dict_len_1 _) (_jn knd d hd) ⟨kvs,hm,?_⟩))
 show wpAny _ _ _ _ _ { s with toks:=s.toks+1 };refine Qd (Q3 (Qg ?_));refine Qd (G5 ?_);show wpAny _ _ (if ((kvs.length:Nat):Int)<0 then _ else _) _ _ _;rw [Qa (by omega)];show wpAny _ _ (if ((kvs.length:Nat):Int) ≥ 2 ^ 63 then _ else _) _ _ _;rw [Qa (by omega)];exact Qd (wpAny_mkInt (Qg ⟨_,rfl,h⟩))
theorem _iX:YJ X (.builtin "len") (fun xs H Q=>∃a kvs,xs=[V.ref a]∧H a=some (.dT kvs)∧Q (.int kvs.length) H):=by
 intro pins s σ H xs us Q I r h;obtain ⟨a,kvs,rfl,ha,q⟩:=h;obtain ⟨u,rfl,ru⟩:=YX r;cases ru;obtain ⟨z,hd,vs,rel,dd⟩:=Jr I.hok ha;refine _hL hd dd (by rw [←rel.length];rw [Gw] at z;omega) ?_;rw [←rel.length];exact ⟨.int kvs.length,H,I.tok _,⟨_,rfl⟩,q⟩
section
variable {w:World} {K:Type} [DecidableEq K] {knd:HeapKind prog w K}
theorem _nI {d a:Addr} {xs:List (K×Addr×Value)} {k:K} (hu:knd.room A) (hkey:knd.is s.heap k a) (hm:s.heap.DictOfH knd d xs) (hsz:xs.length≤sizeLine)
 (h1:∀p,atKey xs k=some p->Q p.2 { s with toks:=s.toks+knd.draws k })
 (h2:atKey xs k=none->∀h',h'.DictOfH knd d (storedH xs k a v)->Heap.SameBut d s.heap h'->Q v { s with heap:=h',toks:=s.toks+knd.draws k }) :
  wpAny (model prog w) A (dictSetDefault d (.ref a) v) Q E s:=by
 obtain ⟨o,es,ep,ho,hc,hd,he,his,hn⟩:=hm;unfold dictSetDefault
 try with_reducible refine Q3 ?_
 refine Qd (knd.pyHash hu hkey ?_);refine Qd (wpAny_dictFind_heap (s:={ s with toks:=s.toks+knd.draws k }) hu hkey ho hd he his hn ?_ ?_)
 ·intro hno;have hnot:k∉xs.map (·.1):=not_mem_keys_of_get hno
  refine Qd (R6 (Qd (wpAny_updateDictKeys (hz:=by have e:=size_of_entries he;omega) (s:={ s with toks:=s.toks+knd.draws k }) ho hd (Qg (h2 (Nc hno) _ ⟨_,_,ep+1,Ny _ ho (Obj.isFreed_of_dict (Obj.data_mapDictKeys hd _)),
   hc.mapDictKeys _,Obj.data_mapDictKeys hd _,?_,?_,?_⟩ (Gb ..))))))
  ·rw [storedH_new (Nc hno)];simp [he,entryOfKey]
  ·rw [storedH_new (Nc hno)];intro x hx;rcases Qm.mp hx with hx|hx
   ·exact knd.keeps (his x hx) ho hd (Gb ..)
   ·simp only [QQ] at hx;subst hx;exact knd.keeps hkey ho hd (Gb ..)
  ·rw [storedH_new (Nc hno)];rw [Qh,QV];refine ⟨hn,by simp,?_⟩;intro x hx y hy;simp only [Qs,R8,QQ] at hy;subst hy;exact fun e=>hnot (e▸hx)
 ·intro j p hj;refine Qd (GK (s:={ s with toks:=s.toks+knd.draws k }) ho hd ?_);rw [entry_at he j,hj];exact Qd (R6 (Qg (h1 p (atKey_of_get hn hj))))
theorem _lj (d a:Addr) (hd:(d==sysModules)=false) (dflt:Value) :
  MeetsIn prog w (Builtin.«dict.setdefault» ⟨[.ref d,.ref a,dflt],[]⟩) (fun A R s=>knd.room A.in1∧∃k xs,knd.is s.heap k a∧s.heap.DictOfH knd d xs∧xs.length≤sizeLine ∧
   (∀p,atKey xs k=some p->R (.ok (.ret p.2)) { s with toks:=s.toks+knd.draws k }) ∧
   (atKey xs k=none->∀h',h'.DictOfH knd d (storedH xs k a dflt)->Heap.SameBut d s.heap h'->R (.ok (.ret dflt)) { s with heap:=h',toks:=s.toks+knd.draws k })) :=
 .of_wp fun A R s ⟨hu,k,xs,hkey,hm,hz,h1,h2⟩=>by
  unfold Builtin.«dict.setdefault»;refine Qd ?_;unfold Builtin.Dict.keyAndDefault;refine Qd (wpAny_notOrdered_dict hm.typeIs ?_);show wpAny _ _ (pure (d,Value.ref a,some dflt)) _ _ s;refine Qg ?_;show wpAny _ _ (if (d==sysModules)=true then _ else (dictSetDefault d (.ref a) dflt >>= _)) _ _ s;rw [Qa (by rw [hd];exact QI)];exact Qd (_nI hu hkey hm hz (fun p hp=>Qg ⟨p.2,rfl,h1 p hp⟩) fun hn h' hm' hs'=>Qg ⟨dflt,rfl,h2 hn h' hm' hs'⟩)
end
section
variable {a b:Addr} {kvs:List (List _k×V)} {k:List _k} {d:V} {r:Value}
theorem _jD (hu:A.units+1<cLine) (I:Inv X pins σ H s) (e:H a=some (.dT kvs)) (eb:H b=some (.tup (k.map kV))) (l:kvs.length<sizeLine) (rd:RelV d r)
 (h1:∀v w' s',_y kvs k=some v->RelV v w'->Inv X pins σ H s'->Q w' s') (h2:∀s',_y kvs k=none->Inv X pins σ (_b H a (.dT (kvs++[(k,d)]))) s'->Q r s') :
  wpAny (model X.prog X.w) A (call (.builtin "dict.setdefault") [.ref a,.ref b,r]) Q E s:=by
 obtain ⟨z,hd,xs,rel,dd⟩:=Jr I.hok e;have hz:xs.length≤sizeLine:=by rw [←GP rel];exact z
 have hv:=rel.val k
 refine Ga Nd dd.typeIs N3 (N4 _ _ _) (_lj (knd:=tupleKind (Yt X.prog X.w)) a b hd r)
  ⟨R9 hu,k,xs,VD I.hok eb,dd,hz,fun p hp=>?_,fun hn h' dd' hs=>?_⟩
 ·rw [hp] at hv;cases ho:_y kvs k with
  |none=>rw [ho] at hv;cases hv
  |some v =>
   rw [ho] at hv;exact h1 v _ _ ho hv (I.tok _)
 ·rw [hn] at hv
  have ho:_y kvs k=none:=by
   cases ho:_y kvs k with
   |none=>rfl
   |some v=>rw [ho] at hv;cases hv
  refine h2 _ ho ?_;have hp:=rel.put k eb rd;rw [VB _ ho] at hp;have hl:(kvs++[(k,d)]).length≤sizeLine:=by rw [Qx];exact l
  obtain ⟨q,es,ep,hq,h2,h3,h4,_,h5⟩:=dd';refine _bf I (by rw [e];exact True.intro) hs ⟨q,hq⟩ ⟨hl,hd,_,hp.keeps fun c ys ec=>?_,q,es,ep,hq,h2,h3,h4,h5⟩;rw [_g (_b9 ec e (fun z=>nomatch z))];exact ec
end
noncomputable def _nr (td ty tx:TE):TE:=fun σ H Q=>td σ H fun x H1=>∃a,x=.ref a∧IsD H1 a∧ty σ H1 fun y H2=>tx σ H2 fun z H3=>∃kvs k b,H3 a=some (.dT kvs)∧y=.ref b∧H3 b=some (.tup (k.map kV))∧kvs.length<sizeLine ∧
 (∀v,_y kvs k=some v->Q v H3)∧(_y kvs k=none->Q z (_b H3 a (.dT (kvs++[(k,z)]))))
section
variable {o e f:Expr} {apos cpos:Pos} {td ty tx:TE}
theorem Jh (hu:X.A.units+1<cLine) (ho:PE X o td) (he:PE X e ty) (hf:PE X f tx) (m:M2 X o "setdefault" apos e f cpos):PE X (.Call (.Attribute o "setdefault" apos) [e,f] [] cpos) (_nr td ty tx):=by
 intro pins s σ H Q I h;refine NB m.base m.few m.line G3 Nd N5 (_p (ho pins s σ H _ I h) fun u s1 ⟨x,H1,I1,rx,a,ex,d,q1⟩=>?_);subst ex;obtain rfl:u=Value.ref a:=rx;obtain ⟨t1,t2,_⟩:=_b2 I1 d;refine ⟨t1,t2,?_⟩;rw [m.trees]
 refine Gz rfl (G0 (RU (_p (he pins s1 σ H1 _ I1 q1) fun iv s2 ⟨y,H2,I2,ry,q2⟩ =>
  RU (_p (hf pins s2 σ H2 _ I2 q2) fun fv s3 ⟨z,H3,I3,rz,kvs,k,b,ea,ey,eb,hl,q3,q4⟩=>GW ?_))))
 subst ey;obtain rfl:iv=Value.ref b:=ry;exact _jD hu I3 ea eb hl rz (fun v w' s4 l rw' I4=>⟨v,H3,I4,rw',q3 v l⟩) fun s4 l I4=>⟨z,_,I4,rz,q4 l⟩
end
end L2
namespace L2
open PySem PySem.Spec PyProof.Rows PySem.W
section
variable {prog:Program} {w:World} {A:Around} {E:Value->Shared->Prop} {s:Shared} {T:String} {r d:Addr} {n:Nat} {P:Nat->Value->Prop} {OK:Heap->Prop}
theorem _j4 {Q:List Value->Shared->Prop} (K:KdlSrc prog w T r d n P OK) (hh:A.handled=none) (hok:OK s.heap) (hn:n≤sizeLine)
  (h:∀h1 tk (acc:Array Value),(∀b o,s.heap.get? b=some o->h1.get? b=some o)->s.heap.objs.size≤h1.objs.size->ItemsOf P acc n->Q acc.toList { s with heap:=h1,toks:=tk }) :
  wpAny (model prog w) A (collect (.ref r)) Q E s:=by
 have hlt:=K.there _ hok;unfold collect;refine Qd (wpAny_runValue (GD entry_proto_collect' ?_));show wpAny _ _ (do again (.builtin "list.__iadd__" ⟨[←newList [],.ref r],[]⟩)) _ _ s;refine Qd (Nb (Qg ⟨ND _ (by trivial),GD entry_list_iadd' ?_⟩));show wpAny _ _ (Builtin.List.listExtendWith (.ref s.heap.objs.size) (.ref r) (.ref s.heap.objs.size)) _ _ { s with heap:=s.heap.push (seqObj "list" #[] 0) };have hS:(s.heap.push (seqObj "list" #[] 0)).get? s.heap.objs.size=some { cls:=.type "list",data:=.seq #[] 0 }:=Qw _ rfl;rw [Around.under_plainId (by trivial)]
 refine kdl_extend (R:=fun r s'=>match r with
  |.ok (.ret v)=>wpAny (model prog w) A (match v with
   |.ref a=>do match (←load a).data with
    |.seq xs _=>pure xs.toList
    |_=>unsupported "internal:collect"
   |_=>unsupported "internal:collect") Q E s'
  |.ok _=>False
  |.error e=>E e s') (A:=A) (s:={ s with heap:=s.heap.push (seqObj "list" #[] 0) }) K hh (K.keep _ _ hok fun b _ o e=>Qq _ e) s.heap.objs.size (RG hlt.1) (RG hlt.2) (.ref s.heap.objs.size) 0 hS (fun h' tk acc c hk hS' hacc=>?_) hn
 refine Qd (wpAny_load hS' ?_);exact Qg (h h' tk acc (fun b o e=>hk b o (Qz (Qp e)) (Qq _ e)) (QS (Qp hS')) hacc)
theorem _ij {x:Value} {ss:List Str} {Q:Value->Shared->Prop} (h64:ss.length<64)
  (hc:∀(A':Around) (Q':List Value->Shared->Prop),A'.handled=A.handled->(∀vs h1 tk,StrsAre vs ss->(∀b o,s.heap.get? b=some o->h1.get? b=some o)->s.heap.objs.size≤h1.objs.size->Q' vs { s with heap:=h1,toks:=tk })->wpAny (model prog w) A' (collect x) Q' E s)
  (h:∀h' tk a e (out:Array Value) (ss':List Str),(∀b o,s.heap.get? b=some o->h'.get? b=some o)->s.heap.objs.size≤a->h'.get? a=some (seqObj "list" out e)->StrsAre out.toList ss'->ss'.Perm ss->sortedS ss'=true->Q (.ref a) { s with heap:=h',toks:=tk }) :
  wpAny (model prog w) A (call (.builtin "sorted") [x]) Q E s:=by
 refine NI kind_sorted plain_sorted entry_sorted (args_sorted1 _) ?_;unfold Builtin.«sorted»;refine Qd (m:=checkCount "sorted" 1 1 _) (Qg ?_);refine Qd (hc _ _ rfl fun vs h1 tk hS k1 z1=>?_);refine Qd (Nb ?_);have hvl:vs.length<64:=by rw [←hS.strs,Qc] at h64;exact h64
 have hoL:(h1.push (seqObj "list" vs.toArray 0)).get? h1.objs.size=some (seqObj "list" vs.toArray 0):=Qw _ rfl;show wpAny _ _ _ _ _ { s with heap:=h1.push (seqObj "list" vs.toArray 0),toks:=tk };refine Qd (Q3 (Rs slot_list_sort ⟨_,hoL,rfl⟩ entry_list_sort (list_sort_treeK strKind_oneLt hoL hS.keysOf (fun v₁ v₂ rest e=>keyKind_strs (by rw [←e];exact hS)) hvl fun st' a1 a2=>⟨_,rfl,?_⟩) (args_list_sort _)));obtain ⟨ss',b1,b2,b3⟩:=sorted_out_str hS a1 a2;obtain ⟨e,he⟩:=sortedHeap_at (out:=(arrOf st').map (·.2)) hoL;refine Qg ⟨_,rfl,h _ tk _ e _ ss' (fun b o q=>?_) z1 he b1 b2 b3⟩;have q1:=k1 _ _ q;have lt:b<h1.objs.size:=Qp q1;rw [sortedHeap_old (Qz lt) (by rw [size_push'];exact GE lt)];exact Qq _ q1
end
section
variable {X:Cx}
theorem _fD {P:Program} {w:World} {x:Str} {v:Value} (h:(Yt P w).is (.inr x) v=true):∃t,v=.str x t:=by
 rcases X6 (show Ve (.inr x) v=true from h) with ⟨i,t,e,_⟩|⟨y,t,e,e2⟩
 ·cases e
 ·cases e;exact ⟨t,e2⟩
theorem _a3:∀{vs:List Value} {ss:List Str},vs.length=ss.length->(∀(i:Nat) (v:Value),vs[i]?=some v->∃x t,ss[i]?=some x∧v=.str x t)->StrsAre vs ss
 |[],[],_,_=>.nil
 |v::vs,x::ss,hl,h=>by
  obtain ⟨y,t,e,rfl⟩:=h 0 v rfl;cases (show some x=some y from e)
  exact .cons x t (_a3 (by simpa using hl) fun i u hu=>by
   obtain ⟨z,t',e1,e2⟩:=h (i+1) u (by simpa using hu);exact ⟨z,t',by simpa using e1,e2⟩)
theorem VO (hc:X.calm=true):YJ X (.builtin "sorted") (fun xs H Q=>∃(l:Addr) (zs:List (Str×V)),xs=[.ref l]∧H l=some (.dK (zs.map fun p=>(.inr p.1,p.2)))∧zs.length<64∧∀D zs',H D=none->zs'.Perm (zs.map (·.1))->sortedS zs'=true->Q (.ref D) (_b H D (.lst (zs'.map V.str)))):=by
 intro pins s σ H xs us Q I r h;obtain ⟨l,zs,rfl,hq,hl,q⟩:=h;obtain ⟨u,rfl,ru⟩:=YX r;cases (show u=Value.ref l from ru);obtain ⟨z,hd,vs,rel,dd⟩:=UU I.hok hq;obtain ⟨ep,da⟩:=dd.dictAt;have hlen:vs.length=zs.length:=by rw [←rel.length,Qc]
 have keyAt:∀(i:Nat) (k:_k) (x:Value),vs[i]?=some (k,x)->∃z,(zs.map (·.1))[i]?=some z∧k=.inr z:=by
  have go:∀{ys:List (Str×V)} {ws:List (_k×Value)},KV (ys.map fun p=>((.inr p.1:_k),p.2)) ws->∀(i:Nat) (k:_k) (x:Value),ws[i]?=some (k,x)->∃z,(ys.map (·.1))[i]?=some z∧k=.inr z:=by
   intro ys
   induction ys with
   |nil=>intro ws r i k x e;cases r;cases e
   |cons y ys ih =>
    intro ws r i k x e;cases r with
    |cons h t =>
     cases i with
     |zero =>
      rw [Nf] at e;cases e;exact ⟨y.1,rfl,h.1.symm⟩
     |succ i =>
      rw [R3] at e;obtain ⟨z,e1,e2⟩:=ih t i k x e;exact ⟨z,by simpa using e1,e2⟩
  exact go rel
 have col:∀(acc:Array Value),ItemsOf (fun i v=>∃k x,vs[i]?=some (k,x)∧(Yt X.prog X.w).is k v=true) acc vs.length->StrsAre acc.toList (zs.map (·.1)):=by
  intro acc hacc;refine _a3 (by rw [Qc,←hlen,QF];exact hacc.1) fun i v e=>?_;obtain ⟨k,x,e1,e2⟩:=hacc.2 i v (by rw [←G1];exact e);obtain ⟨z,e3,rfl⟩:=keyAt i k x e1;obtain ⟨t,rfl⟩:=_fD e2;exact ⟨z,t,e3,rfl⟩
 refine _ij (ss:=zs.map (·.1)) (by rw [Qc];exact hl) (fun A' Q' hA q'=>_j4 (kdl_dict hd) (by rw [hA];exact I.ok.hd hc) da (by rw [hlen];exact QS (small1000 (by omega))) fun h1 tk acc k1 z1 hacc=>q' _ h1 tk (col acc hacc) k1 z1) fun h' tk a e out zs' k1 z1 he so hp hs=>?_;have hl2:zs'.length=zs.length:=by rw [hp.length_eq,Qc]
 exact ⟨.ref _,_,I.laid (t':=tk) (o:=.lst (zs'.map V.str)) k1 z1 (show ObjOk X.prog X.w _ _ _ (.lst (zs'.map V.str)) from ⟨by rw [Qc];exact QS (small1000 (by omega)),out.toList,e,UO so,he⟩),rfl,q _ zs' (I.hok.fresh z1) hp hs⟩
end
end L2
namespace L2
open PySem PySem.Spec PyProof.Rows
variable {X:Cx} {st:Stmt} {K:W.Frag}
theorem _g2 (val:Nat->Int):∀k:Nat,argBest (fun i j=>decide (val i > val j)) k≤k∧∀i,i≤k->val i≤val (argBest (fun i j=>decide (val i > val j)) k)
 |0=>⟨Qe _,fun i hi=>by cases (show i=0 by omega);exact Ng _⟩
 |k+1=>by
  obtain ⟨h1,h2⟩:=_g2 val k;show (if decide (val (k+1) > val (argBest _ k))=true then k+1 else argBest _ k)≤k+1∧∀i,i≤k+1->val i≤val (if decide (val (k+1) > val (argBest _ k))=true then k+1 else argBest _ k);by_cases h:val (k+1) > val (argBest (fun i j=>decide (val i > val j)) k)
  ·rw [Qb (Qr h)];refine ⟨Qe _,fun i hi=>?_⟩;by_cases e:i=k+1
   ·subst e;exact Ng _
   ·have:=h2 i (by omega);omega
  ·rw [Qa (by rw [Qn h];decide)];refine ⟨by omega,fun i hi=>?_⟩;by_cases e:i=k+1
   ·subst e;omega
   ·exact h2 i (by omega)
theorem _gf:∀{us:List Value} {is:List Int},Vals (is.map V.int) us->∃ps:List (Int×Tok),us=ps.map (fun p=>Value.int p.1 p.2)∧ps.map (·.1)=is
 |us,[],r=>by cases r;exact ⟨[],rfl,rfl⟩
 |us,i::is,r=>by
  cases r with
  |cons h t =>
   obtain ⟨tk,rfl⟩:=h;obtain ⟨ps,rfl,e⟩:=_gf t;exact ⟨(i,tk)::ps,rfl,by rw [Qs,e]⟩
theorem _hq (K:W.Frag) (hc:X.calm=true) (hK:X.K=K:=by rfl):YJ X (.builtin "max") (fun xs H Q=>∃(l:Addr) (is:List Int),xs=[.ref l]∧SqL K H l (is.map V.int)∧is≠[]∧∀m,m∈is->(∀x∈is,x≤m)->Q (.int m) H):=by
 subst hK;intro pins s σ H xs us Q I r h;obtain ⟨l,is,rfl,hq,hne,q⟩:=h;obtain ⟨u,rfl,ru⟩:=YX r;cases (show u=Value.ref l from ru);obtain ⟨its,rv,pl,hz⟩:=I.list hq;obtain ⟨ps,rfl,rfl⟩:=_gf rv
 have hl:s.heap.IsList l (intItems ps.toArray):=by
  have:=pl.isList
  rwa [show (ps.map fun p=>Value.int p.1 p.2).toArray=intItems ps.toArray by simp [intItems]] at this
 have hpos:0<ps.length:=List.length_pos_iff.mpr (fun e=>hne (by rw [e];rfl));refine max_intList (I.ok.hd hc) hl (by simpa using hpos) fun v h' tk e k=>?_;obtain ⟨b1,b2⟩:=_g2 (numAt ps.toArray) (ps.toArray.size-1);obtain ⟨t,rfl⟩:=intItems_at e;generalize argBest (fun i j=>decide (numAt ps.toArray i > numAt ps.toArray j)) (ps.toArray.size-1)=n at *;have hn:n<ps.length:=by rw [Qy] at b1;omega
 have val:∀i (hi:i<ps.length),numAt ps.toArray i=(ps[i]).1:=fun i hi=>by simp [numAt,hi]
 refine ⟨.int (numAt ps.toArray n),H,I.kept k,⟨t,rfl⟩,q _ ?_ fun x hx=>?_⟩
 ·rw [val n hn];exact Qf.mpr ⟨ps[n],Gh _,rfl⟩
 ·obtain ⟨p,hp,rfl⟩:=Qf.mp hx;obtain ⟨i,hi,rfl⟩:=Gi hp;rw [←val i hi];exact b2 i (by rw [Qy];omega)
section
variable {pins:List (Addr×Obj)} {σ:St} {H H':Hp} {s:Shared} {d:Addr} {kvs:List (_k×V)} {o:Obj}
theorem Inv.thaw (I:Inv X pins σ H s) (e:H d=some (.frz o (.dK kvs))) (n:∀o u,X.H₀ d≠some (.frz o u)):Inv X pins σ (_b H d (.dK kvs)) s:=by
 have ne:∀b,H b=none->b≠d:=fun b z q=>by subst q;rw [e] at z;cases z
 refine ⟨I.ok,I.os,I.bare,⟨I.base.keep,I.base.slot,fun b q h1 h2 h3=>?_,I.base.there,fun b xs h1=>?_,fun b q u h1=>?_,fun b ps h1=>?_⟩,I.loc,I.cell,?_,fun x c h1=>?_,fun p hp=>?_,fun b u h1=>?_,I.len⟩
 ·have:=I.base.free b q h1 h2 h3;rw [_g (ne b this)];exact this
 ·have:=I.base.tups b xs h1;rw [_g (fun z=>by subst z;rw [e] at this;cases this)];exact this
 ·have:=I.base.frzs b q u h1;rw [_g (fun z=>by subst z;exact n _ _ h1)];exact this
 ·obtain ⟨more,this⟩:=I.base.tbls b ps h1;exact ⟨more,by rw [_g (fun z=>by subst z;rw [e] at this;cases this)];exact this⟩
 ·rw [_g (ne _ I.free)];exact I.free
 ·have:=I.freeC x c h1;rw [_g (ne _ this)];exact this
 ·obtain ⟨a1,a2,a3⟩:=I.pin p hp;exact ⟨a1,by rw [_g (ne _ a2)];exact a2,a3⟩
 ·by_cases z:b=d
  ·subst z;rw [_f] at h1;cases h1;exact (show ObjOk X.prog X.w _ _ _ (.dK kvs) from (I.hok b _ e).2)
  ·rw [_g z] at h1;refine (I.hok b u h1).stay (fun c v hc q=>q) (fun c q=>?_) fun c xs q=>?_
   ·rw [_g (fun z=>by subst z;rw [e] at q;cases q)];exact q
   ·rw [_g (fun z=>by subst z;rw [e] at q;cases q)];exact q
end
theorem _cR:∀{kvs:List (_k×V)} {vs:List (_k×Value)},KV kvs vs->∀(i:Nat) (p:_k×V),kvs[i]?=some p->∃x,vs[i]?=some (p.1,x)
 |[],_,r,i,p,e=>by cases e
 |q::kvs,_,r,i,p,e=>by
  cases r with
  |@cons _ y _ _ h t =>
   cases i with
   |zero =>
    cases (show some q=some p from e);exact ⟨y.2,by rw [Nf,h.1]⟩
   |succ i =>
    rw [R3] at e;obtain ⟨x,hx⟩:=_cR t i p e;exact ⟨x,by rw [R3];exact hx⟩
theorem _mt {k:_k} {v:Value} (h:Ve k v=true):RelV (kV k) v:=by
 rcases X6 h with ⟨i,t,rfl,rfl⟩|⟨x,t,rfl,rfl⟩
 ·exact ⟨t,rfl⟩
 ·exact ⟨t,rfl⟩
noncomputable def UD (d:Addr) (o:Obj) (kvs:List (_k×V)):It where
 go:=fun i H=>H d=some (.frz o (.dK kvs))∧i<kvs.length
 stop:=fun i H=>H d=some (.frz o (.dK kvs))∧kvs.length≤i
 yld:=fun i H x H'=>H'=H∧(kvs[i]?.map fun p=>kV p.1)=some x
theorem _hz {P:Program} {w:World} {tg:Expr} (d it:Addr) (o:Obj) (kvs:List (_k×V)) (es:Array DictEntry) (ep:Nat) (ho:o.data=.dict es ep):Turn P w K tg (UD d o kvs) [it] it (fun i h=>h.IsKeyIter it d i kvs.length ep) where
 mem:=by simp
 obj:=fun i h st b hb=>by
  have e:b=it:=by simpa using hb
  subst e;obtain ⟨o,e,c,d⟩:=st;exact ⟨o,e,fun v z=>by rw [d] at z;cases z⟩
 keep:=fun i h h' st k=>st.at fun o e=>k it (by simp) o e
 item:=by
  intro X hP hw hK hc i pins s σ H E I hf st hg;subst hP hw hK;obtain ⟨hq,hi⟩:=hg;obtain ⟨g1,g2⟩:=(show s.heap.get? d=some o∧ObjOk X.prog X.w H s.heap d (.dK kvs) from I.hok d _ hq);obtain ⟨z,hd,vs,rel,dd⟩:=(show kvs.length≤sizeLine∧(d==sysModules)=false∧∃vs,KV kvs vs∧s.heap.DictOf (Yt X.prog X.w) d vs from g2);obtain ⟨o2,es2,ep2,b1,b2,b3,b4⟩:=dd;rw [g1] at b1;cases b1;rw [ho] at b3;cases b3;have da:s.heap.DictAt (Yt X.prog X.w) d vs ep:=⟨o,es,g1,b2,ho,b4⟩;have hlen:vs.length=kvs.length:=rel.length.symm;obtain ⟨x,hx⟩:=_cR rel i kvs[i] (Qu hi);obtain ⟨f0,f1,f2,f3,f4,f5⟩:=hf it (by simp);rw [←hlen] at st;refine wpAny_pyNext_dict_item st da hx fun key h' hkey st' sb=>?_;have I1:Inv X pins σ H { s with heap:=h' }:=I.turned (t':=s.toks) (fun b o hb e=>(sb.2 b hb).trans e) f0 f1 f3 f4 f5;rw [hlen] at st';obtain ⟨o3,e3,c3,d3⟩:=id st';exact ⟨key,rfl,U6 (s:={ s with heap:=h' }) e3 c3 d3 (by decide) ⟨kV kvs[i].1,H,I1,_mt hkey,⟨rfl,by rw [Qu hi];rfl⟩,st',fun b hb=>(hf b hb).1⟩⟩
 done:=by
  intro X hP hw hK hc i pins s σ H E I hf st hg;subst hP hw hK;obtain ⟨hq,hi⟩:=hg;obtain ⟨g1,g2⟩:=(show s.heap.get? d=some o∧ObjOk X.prog X.w H s.heap d (.dK kvs) from I.hok d _ hq);obtain ⟨z,hd,vs,rel,dd⟩:=(show kvs.length≤sizeLine∧(d==sysModules)=false∧∃vs,KV kvs vs∧s.heap.DictOf (Yt X.prog X.w) d vs from g2);obtain ⟨o2,es2,ep2,b1,b2,b3,b4⟩:=dd;rw [g1] at b1;cases b1;rw [ho] at b3;cases b3;have da:s.heap.DictAt (Yt X.prog X.w) d vs ep:=⟨o,es,g1,b2,ho,b4⟩;have hlen:vs.length=kvs.length:=rel.length.symm;obtain ⟨f0,f1,f2,f3,f4,f5⟩:=hf it (by simp);rw [←hlen] at st;exact wpAny_pyNext_dict_end (I.ok.hd hc) st da (List.getElem?_eq_none (by omega)) fun h' eb=>⟨rfl,I.turned (t':=s.toks) (fun b o hb e=>eb b o hb e) f0 f1 f3 f4 f5⟩
 self:=fun _ _ _ _ _ st h=>wpAny_pyIter_keyiter st h
noncomputable def _iF (tl:TE):TI:=fun σ H R=>tl σ H fun x H1=>∃a kvs,x=.ref a∧H1 a=some (.dK kvs)∧∀o,R (UD a o kvs) (_b H1 a (.frz o (.dK kvs)))
theorem _ap {tg l:Expr} {tl:TE} (hl:PE X l tl):PI X tg l (_iF tl):=by
 intro pins s σ H R I h;refine _p (hl pins s σ H _ I h) fun v s1 ⟨x,H1,I1,r1,q1⟩=>?_;obtain ⟨a,kvs,e,ha,q⟩:=q1;subst e;cases r1;obtain ⟨z,hd,vs,rel,dd⟩:=UU I1.hok ha;obtain ⟨o,es,ep,b1,b2,b3,b4⟩:=id dd;have da:s1.heap.DictAt (Yt X.prog X.w) a vs ep:=⟨o,es,b1,b2,b3,b4⟩;have hlen:vs.length=kvs.length:=rel.length.symm
 have If:Inv X pins σ (_b H1 a (.frz o (.dK kvs))) s1 :=
  I1.write (x:=a) (e:=a) (o:=.frz o (.dK kvs)) (h':=s1.heap) (t':=s1.toks) (by rw [ha];exact True.intro) (.inl rfl) (fun b u _ e=>e) ⟨o,b1⟩ ⟨b1,z,hd,vs,rel,dd⟩
 refine wpAny_pyIter_dict hd da ?_;refine ⟨s1.heap.objs.size,[s1.heap.objs.size],_,_,_,rfl,If.kept (t':=s1.toks) fun b o e=>Qq _ e,_hz a _ o kvs es ep b3,⟨_,Qw _ rfl,rfl,by rw [hlen];rfl⟩,fun b hb=>?_,q o⟩;have e:b=s1.heap.objs.size:=by simpa using hb
 subst e;exact If.fpOk (Qe _) (If.hok.fresh (Qe _))
noncomputable def YZ (D:Addr) (H H':Hp):Prop:=∀b u,b≠D->H b=some u->H' b=some u
theorem _fq {J:It} {σ0:St} {g:TG} {te:TE} {Q:VK} {H1:Hp} (n:Nat) (P:Nat->Hp->V->Prop) (mono:∀i H H' v D xs,P i H v->H D=some (.lst xs)->YZ D H H'->P i H' v) (hn:n<sizeLine) (σP:St->Prop) (h0:σP σ0)
 (go:∀i H,i<n->Same H1 H->J.go i H) (stop:∀H,Same H1 H->J.stop n H)
 (step:∀i σ H x H',i<n->σP σ->Same H1 H->J.yld i H x H'->∀C:V->St->Hp->Prop,(∀y σ2 H6,σP σ2->Same H H6->P i H6 y->C y σ2 H6)->g x σ H' fun σ2 H4=>te σ2 H4 fun y' H6=>C y' σ2 H6)
 (fin:∀D ys H',H1 D=none->Same H1 H'->H' D=some (.lst ys)->ys.length=n->(∀i y,ys[i]?=some y->P i H' y)->Q (.ref D) H'):JE J σ0 g _bU te Q H1:=by
 intro D hD
 have keep:∀{H:Hp} {o:HO},Same H1 H->Same H1 (_b H D o):=fun {H o} e b u q=>by
  rw [_g (_R q hD)];exact e b u q
 refine ⟨fun i m σ ys H=>i≤n∧m=n-i∧σP σ∧ys.length=i∧(∀j y,ys[j]?=some y->P j H y)∧H D=some (.lst ys)∧Same H1 H,⟨_,QM _,rfl,h0,rfl,fun j y e=>by simp at e,_f,keep (Same.refl H1)⟩,?_⟩;rintro i m σ ys H ⟨hi,rfl,p,hy,hP,hd,sm⟩;refine ⟨hd,?_⟩;by_cases lt:i<n
 ·refine .inr ⟨go i H lt sm,fun σ2 ys2 H3=>σP σ2∧ys2.length=i+1∧(∀j y,ys2[j]?=some y->P j H3 y)∧H3 D=some (.lst ys2)∧Same H1 H3,fun σ2 ys2 H3 ⟨a,b,c,d,e⟩=>⟨_,by omega,lt,rfl,a,b,c,d,e⟩,fun x H3 y=>?_⟩;refine step i σ H x H3 lt p sm y (fun y' σ2 H6=>H6 D=some (.lst ys)∧ys.length<sizeLine∧σP σ2∧(ys++[y']).length=i+1∧(∀j z,(ys++[y'])[j]?=some z->P j (_b H6 D (.lst (ys++[y']))) z)∧_b H6 D (.lst (ys++[y'])) D=some (.lst (ys++[y']))∧Same H1 (_b H6 D (.lst (ys++[y'])))) fun y' σ2 H6 p2 s6 hp6=>?_;have hd6:=s6 _ _ hd;have bt:YZ D H6 (_b H6 D (.lst (ys++[y']))):=fun b u nb e=>by rw [_g nb];exact e
  refine ⟨hd6,by omega,p2,by simp [hy],fun j z e=>?_,_f,keep (sm.trans s6)⟩;by_cases jl:j<ys.length
  ·rw [RI jl] at e;exact mono j H _ z D _ (hP j z e) hd (fun b u nb e=>bt b u nb (s6 b u e))
  ·have e0:j=i:=by
    have:=(QB.mp e).1;simp at this;omega
   subst e0;rw [RW (by omega),hy,Ge] at e;cases (show y'=z by simpa using e);exact mono j H6 _ _ D _ hp6 hd6 bt
 ·have e:i=n:=by omega
  subst e;exact .inl ⟨stop H sm,fin D ys H hD sm hd hy hP⟩
noncomputable def _in (t:TS):TS:=fun D σ H=>∃d kvs,H d=some (.dK kvs)∧t { nx:=fun σ' H'=>∃o,H' d=some (.frz o (.dK kvs))∧D.nx σ' (_b H' d (.dK kvs)),rt:=fun _ _=>False } σ H
theorem _ar {t:TS} (hs:PS X st t):PS X st (_in t):=by
 intro pins s σ H D I h;obtain ⟨d,kvs,hd,h⟩:=h
 have n:∀o u,X.H₀ d≠some (.frz o u):=fun o u z=>by
  have:=I.base.frzs d o u z;rw [hd] at this;cases this
 refine _p (hs pins s σ H _ I h) fun fl s1 q=>?_;cases fl with
 |next =>
  obtain ⟨σ1,H1,I1,o,e1,q1⟩:=q;exact ⟨σ1,_,I1.thaw e1 n,q1⟩
 |brk=>obtain ⟨σ1,H1,I1,z⟩:=q;exact z.elim
 |cont=>obtain ⟨σ1,H1,I1,z⟩:=q;exact z.elim
 |ret u=>obtain ⟨v,σ1,H1,I1,r,z⟩:=q;exact z.elim
structure FunD (K:W.Frag) (x qual:Str) (st:Stmt) (f:Addr) (fd:FuncData) (dV:Value):Prop where
 ex:∃(oc:Value) (od:Option Addr) (kV doc pm:Value) (an:Option Addr) (cdv ct:Value) (osl:Array (Option Value)),
  fd=W.fnOf x qual (XY st) (Xj st) (_u st) dV kV doc pm an cdv ct∧K.lookup f=some ⟨oc,od,.func fd,osl⟩∧W.codeIn K cdv qual=true
 kp:W.keepIn K (.ref f)=true
theorem FunD.okX {P:Program} {w:World} {mg:Str->Option Value} {base:Heap} {CX:YA} {x qual:Str} {f:Addr} {fd:FuncData} {dV:Value} {N ps:List Str} {k:Nat} {sp:Sp} (F:FunD K x qual st f fd dV) (S:FnScope N ps (_u st))
 (len:∀vs H Q E,sp vs H Q E->vs.length=ps.length)
 (hbody:∀(cdv:Value) (A:Around) (outer:List Env) (s:Shared) (H:Hp) (vs:List V) (Q:VK) (E:XK),Room k (A.deeper (envOfC qual (_u st) s.heap.objs.size f cdv))->sp vs H Q E →
 ∃t,PSs (Vh CX P w K mg base N qual (_u st) f cdv A outer s H E) (Xj st) t∧t { nx:=fun _ H'=>Q .non H',rt:=Q } (start N vs) H):FnOk P w K mg base CX (k+1) f fd ps sp:=by
 obtain ⟨oc,od,kV,doc,pm,an,cdv,ct,osl,rfl,lk,hcd⟩:=F.ex;exact _gK lk hcd S len fun A outer s H vs Q E hr hsp=>hbody cdv A outer s H vs Q E hr hsp
theorem funD_mk {x qual:Str} {f:Addr} {oc:Value} {od an:Option Addr} {osl:Array (Option Value)} {dV kV doc pm cdv ct:Value} (l:K.lookup f=some ⟨oc,od,.func (W.fnOf x qual (XY st) (Xj st) (_u st) dV kV doc pm an cdv ct),osl⟩)
 (c:W.codeIn K cdv qual=true) (k:W.keepIn K (.ref f)=true):FunD K x qual st f (W.fnOf x qual (XY st) (Xj st) (_u st) dV kV doc pm an cdv ct) dV:=⟨⟨oc,od,kV,doc,pm,an,cdv,ct,osl,rfl,l,c⟩,k⟩
section
variable {body suite:List Stmt} {b₀:Stmt} {x n:Str} {C:Addr} {np hpos pos:Pos} {bmB:List Value} {newId:String} {i:Nat} {tb:XS->TS} {ts:TS}
end
end L2
namespace SA
open PySem PyProof.Rows
variable {A:Around} {O:KeyOrd} {D:Keyed->Prop} {M:Model} {s:Shared} {E:Value->Shared->Prop}
section
variable {key:Keyed->O.α} {kd:SortKind}
end
section
variable {key:Keyed->O.α} {kd:SortKind}
end
section
variable {key:Keyed->O.α} {kd:SortKind}
end
section
variable {key:Keyed->O.α}
end
section
variable {key:Keyed->O.α} {kd:SortKind}
end
section
variable {key:Keyed->O.α} {kd:SortKind}
end
section
variable {key:Keyed->O.α} {kd:SortKind} {d:O.α}
end
section
variable {key:Keyed->O.α} {kd:SortKind} {d:O.α}
end
section
variable {key:Keyed->O.α} {kd:SortKind} {d:O.α} {a0:List Keyed}
end
section
variable {key:Keyed->O.α} {kd:SortKind} {d:O.α} {a0:List Keyed}
end
end SA
namespace SA
open PySem PyProof.Rows PySem.W
section
variable {prog:Program} {w:World} {A:Around} {E:Value->Shared->Prop} {s:Shared}
end
end SA
namespace L2
open PySem PySem.Spec PyProof.Rows PySem.W
section
variable {prog:Program} {w:World} {A:Around} {E:Value->Shared->Prop} {s:Shared}
noncomputable def JC (h:Heap) (d:Addr) (es:Array DictEntry) (ep:Nat):Prop:=∃o,h.get? d=some o∧o.cls=.type "dict"∧o.data=.dict es ep
end
end L2
namespace L2
open PySem PySem.Spec PyProof.Rows PySem.W SA
variable {X:Cx} {s:Shared}
section
variable {prog:Program} {w:World} {A:Around} {E:Value->Shared->Prop}
end
section
variable {pins:List (Addr×Obj)} {σ:St} {H H':Hp} {d:Addr} {kvs:List (List _k×V)} {o:Obj}
theorem Inv.thawT (I:Inv X pins σ H s) (e:H d=some (.frz o (.dT kvs))) (n:∀o u,X.H₀ d≠some (.frz o u)):Inv X pins σ (_b H d (.dT kvs)) s:=by
 have ne:∀b,H b=none->b≠d:=fun b z q=>by subst q;rw [e] at z;cases z
 refine ⟨I.ok,I.os,I.bare,⟨I.base.keep,I.base.slot,fun b q h1 h2 h3=>?_,I.base.there,fun b xs h1=>?_,fun b q u h1=>?_,fun b ps h1=>?_⟩,I.loc,I.cell,?_,fun x c h1=>?_,fun p hp=>?_,fun b u h1=>?_,I.len⟩
 ·have:=I.base.free b q h1 h2 h3;rw [_g (ne b this)];exact this
 ·have:=I.base.tups b xs h1;rw [_g (fun z=>by subst z;rw [e] at this;cases this)];exact this
 ·have:=I.base.frzs b q u h1;rw [_g (fun z=>by subst z;exact n _ _ h1)];exact this
 ·obtain ⟨more,this⟩:=I.base.tbls b ps h1;exact ⟨more,by rw [_g (fun z=>by subst z;rw [e] at this;cases this)];exact this⟩
 ·rw [_g (ne _ I.free)];exact I.free
 ·have:=I.freeC x c h1;rw [_g (ne _ this)];exact this
 ·obtain ⟨a1,a2,a3⟩:=I.pin p hp;exact ⟨a1,by rw [_g (ne _ a2)];exact a2,a3⟩
 ·have st:∀{b:Addr} {u:HO},ObjOk X.prog X.w H s.heap b u->ObjOk X.prog X.w (_b H d (.dT kvs)) s.heap b u:=fun x=>by
   refine x.stay (fun c v hc q=>q) (fun c q=>?_) fun c xs q=>?_
   ·rw [_g (fun z=>by subst z;rw [e] at q;cases q)];exact q
   ·rw [_g (fun z=>by subst z;rw [e] at q;cases q)];exact q
  by_cases z:b=d
  ·subst z;rw [_f] at h1;cases h1;exact st (show ObjOk X.prog X.w H s.heap b (.dT kvs) from (I.hok b _ e).2)
  ·rw [_g z] at h1;exact st (I.hok b u h1)
end
noncomputable def _pN (t:TS):TS:=fun D σ H=>∃d kvs,H d=some (.dT kvs)∧t { nx:=fun σ' H'=>∃o,H' d=some (.frz o (.dT kvs))∧D.nx σ' (_b H' d (.dT kvs)),rt:=fun _ _=>False } σ H
theorem _ia {st:Stmt} {t:TS} (hs:PS X st t):PS X st (_pN t):=by
 intro pins s σ H D I h;obtain ⟨d,kvs,hd,h⟩:=h
 have n:∀o u,X.H₀ d≠some (.frz o u):=fun o u z=>by
  have:=I.base.frzs d o u z;rw [hd] at this;cases this
 refine _p (hs pins s σ H _ I h) fun fl s1 q=>?_;cases fl with
 |next =>
  obtain ⟨σ1,H1,I1,o,e1,q1⟩:=q;exact ⟨σ1,_,I1.thawT e1 n,q1⟩
 |brk=>obtain ⟨σ1,H1,I1,z⟩:=q;exact z.elim
 |cont=>obtain ⟨σ1,H1,I1,z⟩:=q;exact z.elim
 |ret u=>obtain ⟨v,σ1,H1,I1,r,z⟩:=q;exact z.elim
section
variable {prog:Program} {w:World} {A:Around} {E:Value->Shared->Prop}
theorem _fC {it l:Addr} {items:Array Value} (hne:l≠it):∀(n i:Nat) (s:Shared) (Q:List Value->Shared->Prop),s.heap.IsListIter it l i->s.heap.IsList l items->i+n≤items.size →
  (∀h',h'.IsListIter it l (i+n)->Heap.SameBut it s.heap h'->Q ((items.toList.drop i).take n) { s with heap:=h' })->wpAny (model prog w) A (draw (.ref it) n) Q E s
 |0,i,s,Q,hit,_,_,hQ=>by
  show wpAny _ _ (pure []) Q E s;exact Qg (by simpa using hQ s.heap hit (Heap.SameBut.refl ..))
 |n+1,i,s,Q,hit,ht,hle,hQ=>by
  have hlt:i<items.size:=by omega
  show wpAny _ _ (pyNext (.ref it) >>= _) Q E s;refine Qd (wpAny_pyNext_list_item hit ht (x:=items[i]) (by simp [hlt]) fun h₁ hit₁ hs₁=>?_);have ht1:h₁.IsList l items:=by obtain ⟨o,ho,x⟩:=ht;exact ⟨o,hs₁.extBut l o hne ho,x⟩
  refine Qd (Q3 (_fC hne n (i+1) _ _ hit₁ ht1 (by omega) fun h₂ hit₂ hs₂=>Qg ?_));have hd:items.toList.drop i=items[i]::items.toList.drop (i+1):=by simp [NE,hlt]
  have:=hQ h₂ (by rw [show i+(n+1)=i+1+n by omega];exact hit₂) (hs₁.trans hs₂);rw [hd,List.take_succ_cons] at this;exact this
theorem _nn {l:Addr} {items:Array Value} {Q:List Value->Shared->Prop} (hh:A.handled=none) (ht:s.heap.IsList l items)
 (hQ:∀h',Heap.ExtBut s.heap.objs.size s.heap h'->Q items.toList { s with heap:=h' }):wpAny (model prog w) A (unpackItems (.ref l) items.size none) Q E s:=by
 have hlt:l≠s.heap.objs.size:=by obtain ⟨o,ho,_⟩:=ht;exact Qz (Qp ho)
 have htp:∀{x:Obj},(s.heap.push x).IsList l items:=fun {x}=>by obtain ⟨o,ho,y⟩:=ht;exact ⟨o,Qq _ ho,y⟩
 unfold unpackItems;refine Qd ?_
 ·unfold notIterableAtAll;refine Qd (wpAny_specialOf ht.typeIs slot_list_iter.lookup ?_);refine Qg ?_;simp only [Bool.false_eq_true,Q4];refine Qd (Q3 (Np ht ?_));refine Qd (Q3 (_fC hlt items.size 0 _ _ ⟨_,Qw _ rfl,rfl,rfl⟩ htp (by omega) fun h₁ hit₁ hs₁=>?_))
  have hall:List.take items.size (List.drop 0 items.toList)=items.toList:=by
   rw [GH];exact NH (by simp)
  rw [hall];rw [Qa (by simp)];have ht₁:h₁.IsList l items:=by obtain ⟨o,ho,y⟩:=(htp:(s.heap.push _).IsList l items);exact ⟨o,hs₁.extBut l o hlt ho,y⟩
  refine Qd (Q3 (wpAny_pyNext_list_end hh hit₁ ht₁ (by simp) fun h₂ he₂=>?_));simp only [Option.isSome_none,Bool.false_eq_true,Q4];refine Qg (hQ h₂ fun b o hb e=>he₂ b o hb (hs₁.extBut b o hb (Qq _ e)))
end
noncomputable def _ic (K:W.Frag) (n:Nat) (t:Wg):TG:=fun v σ H Q=>∃a xs,v=.ref a∧SqL K H a xs∧xs.length=n∧t xs σ H Q
theorem _cG {es:List Expr} {k:Nat} {t:Wg} {n:Nat} {pos:Pos} (hc:X.calm=true) (h:Uq X es t)
 (hn:(assignEach es X.env).length=n:=by rfl) (hst:(assignEach es X.env).findIdx? (·.1)=none:=by rfl):PG X (.Tuple es k pos) (_ic X.K n t):=by
 intro pins s σ H v u Q I r hw;obtain ⟨a,xs,e1,hq,hl,hw⟩:=hw;subst e1;cases r;obtain ⟨its,rv,ht,hz⟩:=I.list hq;rw [arm_assign_Tuple];refine Qd (Gs ?_);unfold unpack;have hn2:(assignEach es X.env).length=its.toArray.size:=by simp [hn,←hl,rv.length]
 rw [hn2,hst];refine Qd (Q3 (_nn (I.ok.hd hc) ht.isList fun h' hx=>?_));have I1:Inv X pins σ H { s with heap:=h' }:=I.kept (t':=s.toks) fun b o e=>hx b o (Qz (Qp e)) e;exact h pins _ σ H xs _ Q I1 (by simpa using rv) hw
end L2
namespace L2
open PySem PySem.Spec PyProof.Rows PySem.W
variable {f:Addr} {P:List Value->Prop} {st:Stmt} {K:W.Frag}
noncomputable def Y5 (K:W.Frag) (f:Addr):FuncData:=match K.lookup f with
 |some ⟨_,_,.func fd,_⟩=>fd
 |_=>default
structure DefIn (K:W.Frag) (x q:Str) (st:Stmt) (f:Addr):Prop where
 ex:∃(oc:Value) (od:Option Addr) (kV doc pm:Value) (an:Option Addr) (cdv ct:Value) (osl:Array (Option Value)),
  K.lookup f=some ⟨oc,od,.func (fnOf x q (XY st) (Xj st) (_u st) .none kV doc pm an cdv ct),osl⟩∧codeIn K cdv q=true
 kp:keepIn K (.ref f)=true
theorem DefIn.fn {x q:Str} (h:DefIn K x q st f):Fun K x q st f (Y5 K f):=by
 obtain ⟨oc,od,kV,doc,pm,an,cdv,ct,osl,lk,hc⟩:=h.ex;have e:Y5 K f=fnOf x q (XY st) (Xj st) (_u st) .none kV doc pm an cdv ct:=by unfold Y5;rw [lk]
 rw [e];exact _lA lk hc h.kp
noncomputable def _fE (x q:Str) (st:Stmt) (ps:List Str):Prop:=∀(kV doc pm:Value) (an:Option Addr) (cdv ct:Value) (us:List Value),us.length=ps.length->bindArgs (fnOf x q (XY st) (Xj st) (_u st) .none kV doc pm an cdv ct) ⟨us,[]⟩=pure (ps.zip us)
structure Df (K:W.Frag) (mg:Str->Option Value) (x:Str) (st:Stmt) (ps:List Str) where
 a:Addr
 F:Fun K x x st a (Y5 K a)
 b:Binds K (Y5 K a) ps []
 m:mg x=some (.ref a)
structure Dm (K:W.Frag) (C:Addr) (x q:Str) (st:Stmt) (ps:List Str) where
 a:Addr
 F:Fun K x q st a (Y5 K a)
 b:Binds K (Y5 K a) ps []
 me:Meth K C x a
noncomputable def Df.of {mg:Str->Option Value} {h:Heap} {x:Str} {ps:List Str} (X:K.In h) (G:h.Ns mainGlobals mg) (a:nsIn K mainGlobals x=some (some (.ref f))) (l:DefIn K x x st f) (hb:_fE x x st ps):Df K mg x st ps:=⟨f,l.fn,l.fn.binds hb,mg_of X G a⟩
noncomputable def Dm.of {C:Addr} {x q:Str} {ps:List Str} (a:findIn K (.ref C) x=some (some (.ref f))) (i:isFn K (.ref f)=true) (l:DefIn K x q st f) (hb:_fE x q st ps):Dm K C x q st ps:=⟨f,l.fn,l.fn.binds hb,⟨a,i,l.kp⟩⟩
theorem unZ {P:List Value->Prop} (h:P []) (us:List Value) (e:us.length=0):P us:=by
 cases us with
 |nil=>exact h
 |cons a l=>cases e
theorem unS {P:List Value->Prop} {n:Nat} (h:∀a us,us.length=n->P (a::us)) (us:List Value) (e:us.length=n+1):P us:=by
 cases us with
 |nil=>cases e
 |cons a l=>exact h a l (Nat.succ.inj e)
theorem un1 {P:List Value->Prop} (h:∀a,P [a]):∀us,us.length=1->P us:=unS fun a=>unZ (h a)
theorem un2 {P:List Value->Prop} (h:∀a b,P [a,b]):∀us,us.length=2->P us:=unS fun a=>unS fun b=>unZ (h a b)
theorem un3 {P:List Value->Prop} (h:∀a b c,P [a,b,c]):∀us,us.length=3->P us:=unS fun a=>unS fun b=>unS fun c=>unZ (h a b c)
theorem un4 {P:List Value->Prop} (h:∀a b c d,P [a,b,c,d]):∀us,us.length=4->P us:=unS fun a=>unS fun b=>unS fun c=>unS fun d=>unZ (h a b c d)
theorem un5 {P:List Value->Prop} (h:∀a b c d e,P [a,b,c,d,e]):∀us,us.length=5->P us:=unS fun a=>unS fun b=>unS fun c=>unS fun d=>unS fun e=>unZ (h a b c d e)
end L2
namespace TextG
open PySem
variable {r y:List Nat} {a:Nat}
noncomputable def Yd (y:List Nat):Nat->List Nat->List (List Nat)
 |_,[]=>[[]]
 |s+1,_::r=>Yd y s r
 |0,a::r=>if (a::r).take y.length=y then []::Yd y (y.length-1) r else match Yd y 0 r with
  |[]=>[[a]]
  |p::ps=>(a::p)::ps
noncomputable def YW (y:List Nat):Nat->Nat->List Nat->List Nat
 |_,_,[]=>[]
 |s+1,k,_::r=>YW y s (k+1) r
 |0,k,a::r=>if (a::r).take y.length=y then k::YW y (y.length-1) (k+1) r else YW y 0 (k+1) r
theorem _b0 (y:List Nat):∀s l,∃p ps,Yd y s l=p::ps
 |0,[]=>⟨_,_,by unfold Yd;rfl⟩
 |s+1,[]=>⟨_,_,by unfold Yd;rfl⟩
 |s+1,_::r=>by unfold Yd;exact _b0 y s r
 |0,a::r=>by
  unfold Yd;by_cases h:(a::r).take y.length=y
  ·rw [Qb h];exact ⟨_,_,rfl⟩
  ·rw [Qa h];obtain ⟨p,ps,e⟩:=_b0 y 0 r;rw [e];exact ⟨_,_,rfl⟩
theorem Ja (y:List Nat) (s:Nat):Yd y s []=[[]]:=by cases s<;>unfold Yd<;>rfl
theorem _aQ (y:List Nat) (s a:Nat) (r:List Nat):Yd y (s+1) (a::r)=Yd y s r:=by rw [Yd]
theorem _bO (h:(a::r).take y.length=y):Yd y 0 (a::r)=[]::Yd y (y.length-1) r:=by rw [Yd,Qb h]
theorem U5 {p:List Nat} {ps:List (List Nat)} (h:¬(a::r).take y.length=y) (e:Yd y 0 r=p::ps):Yd y 0 (a::r)=(a::p)::ps:=by rw [Yd,Qa h,e]
theorem _dg (y:List Nat) (s k:Nat):YW y s k []=[]:=by cases s<;>unfold YW<;>rfl
theorem _dh (y:List Nat) (s k a:Nat) (r:List Nat):YW y (s+1) k (a::r)=YW y s (k+1) r:=by rw [YW]
theorem _bL {k:Nat} (h:(a::r).take y.length=y):YW y 0 k (a::r)=k::YW y (y.length-1) (k+1) r:=by rw [YW,Qb h]
theorem _a5 {k:Nat} (h:¬(a::r).take y.length=y):YW y 0 k (a::r)=YW y 0 (k+1) r:=by rw [YW,Qa h]
theorem U1 {l:List Nat} {k:Nat} (lt:k<l.length):∃v,l.drop k=v::l.drop (k+1)∧l[k]?=some v:=⟨l[k],NE lt,Qu lt⟩
theorem _b8 {l:List Nat} (h:l.take y.length=y):y.length≤l.length:=by
 have:=Qk List.length h;rw [QU] at this;omega
theorem Vg (x y:Str) (hy:0<y.length) (lim:Nat) (hl:x.length<lim):∀(m k:Nat) (found:Array Nat) (free s:Nat),k+m=x.length->found.size≤k->free≤k+s->(0<s->free=k+s) →
  (forIn (List.range' k (m+1)) (found,free) (StrLaws.occBody x y x.length lim)).run.fst.toList=found.toList++YW y.cps.toList s k (x.cps.toList.drop k)
 |0,k,found,free,s,hk,hs,hf,hf2=>by
  have e:x.cps.toList.drop k=[]:=G9 (by rw [QF];show x.length≤k;omega);rw [e,_dg,QC];rw [Na,List.range'_zero,Gc];have no:¬(k+y.length≤x.length):=by omega
  unfold StrLaws.occBody;simp [no]
 |m+1,k,found,free,s,hk,hs,hf,hf2=>by
  have lt:k<x.cps.toList.length:=by rw [QF];show k<x.length;omega
  rw [Na,Gc];obtain ⟨v,dr,ev⟩:=U1 lt;have yl:y.cps.toList.length=y.length:=by rw [QF];rfl
  cases s with
  |succ s =>
   have st:StrLaws.occBody x y x.length lim k (found,free)=pure (ForInStep.yield (found,free)):=by
    unfold StrLaws.occBody;have:=hf2 (Nh _);have no:¬free≤k:=by omega
    simp [no]
   rw [st,pure_bind];have ih:=Vg x y hy lim hl m (k+1) found free s (by omega) (by omega) (by omega) (by intro;have:=hf2 (Nh _);omega);rw [dr,_dh];simpa using ih
  |zero =>
   have sub:=Ni x y k;rw [dr] at sub;by_cases h:(v::x.cps.toList.drop (k+1)).take y.cps.toList.length=y.cps.toList
   ·have pl:=_b8 h;rw [←dr,GY,yl,QF] at pl;have pl2:y.length≤x.length-k:=pl;have i1:k+y.length≤x.length:=by omega
    have t:Builtin.Str.subAt x y k=true:=by rw [sub,←yl,h];simp
    have st:StrLaws.occBody x y x.length lim k (found,free)=pure (ForInStep.yield (found.push k,k+y.length)):=by
     unfold StrLaws.occBody;have z1:found.size<lim:=by omega
     have z2:free≤k:=by omega
     simp [z1,z2,i1,t]
    rw [st,pure_bind];have ih:=Vg x y hy lim hl m (k+1) (found.push k) (k+y.length) (y.length-1) (by omega) (by simp;omega) (by omega) (by intro;omega);rw [dr,_bL h,yl];simpa using ih
   ·have t:Builtin.Str.subAt x y k=false:=by
     rw [sub,←yl];exact RF.mpr h
    have st:StrLaws.occBody x y x.length lim k (found,free)=pure (ForInStep.yield (found,free)):=by
     unfold StrLaws.occBody;simp [t]
    rw [st,pure_bind];have ih:=Vg x y hy lim hl m (k+1) found free 0 (by omega) (by omega) (by omega) (by intro z;omega);rw [dr,_a5 h];simpa using ih
theorem occ_all (x y:Str) (hy:0<y.length):Builtin.Str.occurrences x y 0 x.length (x.length+1)=YW y.cps.toList 0 0 x.cps.toList:=by
 rw [StrLaws.occ_eq];have:=Vg x y hy (x.length+1) (Rq _) x.length 0 #[] 0 0 (by omega) (Qe _) (Qe _) (by intro z;omega);simpa using this
theorem _bE (x:Str) (n:Nat):∀(cuts:List Nat) (a:Nat),((a::cuts.map (·+n)).zip (cuts++[x.length])).map (fun p=>Builtin.Str.strSub x p.1 p.2)=match cuts with
  |[]=>[Builtin.Str.strSub x a x.length]
  |d::r=>Builtin.Str.strSub x a d::(((d+n)::r.map (·+n)).zip (r++[x.length])).map (fun p=>Builtin.Str.strSub x p.1 p.2)
 |[],a=>rfl
 |d::r,a=>rfl
theorem _aI (x y:Str) (hy:0<y.length):∀(m k a s:Nat),k+m=x.length->a≤k+s->(0<s->a=k+s)->k+s≤x.length →
  ∃p ps,Yd y.cps.toList s (x.cps.toList.drop k)=p::ps ∧
  ((a::(YW y.cps.toList s k (x.cps.toList.drop k)).map (·+y.length)).zip (YW y.cps.toList s k (x.cps.toList.drop k)++[x.length])).map (fun p=>Builtin.Str.strSub x p.1 p.2) =
   (⟨((x.cps.toList.drop a).take (k-a)++p).toArray⟩:Str)::ps.map fun q=>(⟨q.toArray⟩:Str)
 |0,k,a,s,hk,ha,hs,hb=>by
  have e:x.cps.toList.drop k=[]:=G9 (by rw [QF];show x.length≤k;omega);rw [e];refine ⟨[],[],Ja _ _,?_⟩;have ek:k=x.length:=by omega
  rw [_dg];show [Builtin.Str.strSub x a x.length]=_;refine Qk (·::[]) (R0 ?_);rw [←RA,R1,←ek];simp
 |m+1,k,a,s,hk,ha,hs,hb=>by
  have lt:k<x.cps.toList.length:=by rw [QF];show k<x.length;omega
  obtain ⟨v,dr,ev⟩:=U1 lt;have yl:y.cps.toList.length=y.length:=by rw [QF];rfl
  cases s with
  |succ s =>
   obtain ⟨p,ps,e1,e2⟩:=_aI x y hy m (k+1) a s (by omega) (by omega) (by intro;have:=hs (Nh _);omega) (by omega);refine ⟨p,ps,by rw [dr,_aQ,e1],?_⟩;rw [dr,_dh,e2];have h1:a=k+(s+1):=hs (Nh _);have z1:k+1-a=0:=by omega
   have z2:k-a=0:=by omega
   rw [z1,z2]
  |zero =>
   by_cases h:(v::x.cps.toList.drop (k+1)).take y.cps.toList.length=y.cps.toList
   ·have pl:=_b8 h;rw [←dr,GY,yl,QF] at pl;have pl2:y.length≤x.length-k:=pl;obtain ⟨p,ps,e1,e2⟩:=_aI x y hy m (k+1) (k+y.length) (y.length-1) (by omega) (by omega) (by intro;omega) (by omega);refine ⟨[],p::ps,by rw [dr,_bO h,yl,e1],?_⟩;rw [dr,_bL h,_bE];simp only;rw [yl,e2];have z1:k+1-(k+y.length)=0:=by omega
    rw [z1];simp only [Ge,List.take_zero,GG,QC,Qs];refine Qk (·::_) (R0 ?_);rw [←RA,R1]
   ·obtain ⟨p,ps,e1,e2⟩:=_aI x y hy m (k+1) a 0 (by omega) (by omega) (by intro z;omega) (by omega);refine ⟨v::p,ps,by rw [dr];exact U5 h e1,?_⟩;rw [dr,_a5 h,e2];refine Qk (·::_) ?_
    congr 2
    have:k+1-a=(k-a)+1:=by omega
    rw [this,RL,NF,show a+(k-a)=k by omega,ev];simp
theorem between_all (x y:Str) (hy:0<y.length):Builtin.Str.partsBetween x (YW y.cps.toList 0 0 x.cps.toList) y.length=(Yd y.cps.toList 0 x.cps.toList).map fun q=>(⟨q.toArray⟩:Str):=by
 obtain ⟨p,ps,e1,e2⟩:=_aI x y hy x.length 0 0 0 (by omega) (Qe _) (by intro z;omega) (by omega);rw [GH] at e1 e2;rw [e1];unfold Builtin.Str.partsBetween;simpa using e2
theorem splitG_none {y:List Nat}:∀{l:List Nat} {k:Nat},YW y 0 k l=[]->Yd y 0 l=[l]
 |[],_,_=>Ja _ _
 |a::r,k,h=>by
  by_cases hh:(a::r).take y.length=y
  ·rw [_bL hh] at h;cases h
  ·rw [_a5 hh] at h;exact U5 hh (splitG_none h)
theorem splitG_short {y:List Nat}:∀{l:List Nat},l.length<y.length->Yd y 0 l=[l]
 |[],_=>Ja _ _
 |a::r,h=>U5 (fun e=>by have:=_b8 e;omega) (splitG_short (by simp at h;omega))
theorem _at {y:List Nat}:∀s l,(Yd y s l).length≤l.length+1
 |s,[]=>by rw [Ja];exact Qe _
 |s+1,a::r=>by
  rw [_aQ];have:=_at (y:=y) s r;simp;omega
 |0,a::r=>by
  by_cases hh:(a::r).take y.length=y
  ·rw [_bO hh];have:=_at (y:=y) (y.length-1) r;simp;omega
  ·obtain ⟨p,ps,e⟩:=_b0 y 0 r;rw [U5 hh e];have:=_at (y:=y) 0 r;rw [e] at this;simp at this ⊢;omega
noncomputable def W3 (y:List Nat):List Nat->List (List Nat)->List Nat
 |p,[]=>p
 |p,q::r=>p++(y++W3 y q r)
theorem _fS (y:List Nat):∀(l r:List Nat),Yd y l.length (l++r)=Yd y 0 r
 |[],_=>rfl
 |a::l,r=>by rw [QH,GB,_aQ];exact _fS y l r
theorem _bj {b c:Nat} {t:List Nat} (bc:b≠c):∀{p:List Nat} {r q:List Nat} {qs:List (List Nat)},c∉p->r.head?≠some c->Yd (b::c::t) 0 r=q::qs->Yd (b::c::t) 0 (p++r)=(p++q)::qs
 |[],_,_,_,_,_,e=>e
 |a::p,r,q,qs,h,hr,e=>by
  have h2:c∉p:=fun z=>h (Qv _ z);refine U5 ?_ (_bj bc h2 hr e);intro z;have z2:(p++r).take (t.length+1)=c::t:=by simpa using (Gj z).2
  cases p with
  |nil =>
   cases r with
   |nil=>simp at z2
   |cons d r=>simp at z2;exact hr (by simp [z2.1])
  |cons d p =>
   simp at z2;exact h2 (by simp [z2.1])
theorem _fe {b c:Nat} {t:List Nat} (bc:b≠c):∀{ps:List (List Nat)} {p:List Nat},c∉p->(∀q∈ps,c∉q)->Yd (b::c::t) 0 (W3 (b::c::t) p ps)=p::ps
 |[],p,h,_=>by
  have:=_bj (t:=t) bc (p:=p) (r:=[]) h (by simp) (Ja _ _);simpa [W3] using this
 |q::ps,p,h,hs=>by
  have ih:=_fe (t:=t) bc (ps:=ps) (p:=q) (hs q (QA ..)) fun x hx=>hs x (Qv _ hx);rw [W3]
  have e:Yd (b::c::t) 0 ((b::c::t)++W3 (b::c::t) q ps)=[]::(q::ps):=by
   rw [GB,_bO (by simp)];have:=_fS (b::c::t) (c::t) (W3 (b::c::t) q ps);rw [ih] at this;exact Qk _ this
  have:=_bj (t:=t) bc (p:=p) h (by simp [bc]) e;rw [this,QC]
theorem UK (y:Str):∀(ps:List Str) (p:Str),(y.join (p::ps)).cps.toList=W3 y.cps.toList p.cps.toList (ps.map (·.cps.toList))
 |[],p=>by
  show (p:Str).cps.toList=_;rfl
 |q::ps,p=>by
  have ih:=UK y ps q;show (p++y++y.join (q::ps)).cps.toList=_;rw [GI,GI,GJ,GJ,ih];simp [W3]
noncomputable def cutAt (y z:Str):List Str:=(Yd y.cps.toList 0 z.cps.toList).map fun q=>(⟨q.toArray⟩:Str)
theorem _p7 {y:Str} {b c:Nat} {t:List Nat} (e:y.cps.toList=b::c::t) (bc:b≠c) {p:Str} {ps:List Str} (h:∀q∈p::ps,c∉q.cps.toList):cutAt y (y.join (p::ps))=p::ps:=by
 unfold cutAt
 rw [UK,e,_fe bc (h p (QA ..)) (by
  intro q hq;obtain ⟨z,hz,rfl⟩:=Qf.mp hq;exact h z (Qv _ hz))]
 have e:((fun q:List Nat=>(⟨q.toArray⟩:Str))∘fun x:Str=>x.cps.toList)=id:=funext fun x=>by simp
 simp [e]
theorem cutAt_len (y z:Str):(cutAt y z).length≤z.length+1:=by
 unfold cutAt;rw [Qc];have:=_at (y:=y.cps.toList) 0 z.cps.toList;rw [QF] at this;exact this
theorem _oG {x y:Str} {b c:Nat} {t w:List Nat} (e:y.cps.toList=b::c::t) (bc:b≠c) (hw:c∉w) (hx:x.cps.toList=w++(y.cps.toList++r)) (lim:Nat) (hl:1≤lim):∃u,Builtin.Str.occurrences x y 0 x.length lim=w.length::u:=by
 have yl:y.cps.toList.length=y.length:=by rw [QF];rfl
 have xl:x.cps.toList.length=x.length:=by rw [QF];rfl
 have at0:StrLaws.At x y x.length w.length:=by
  refine ⟨?_,?_⟩
  ·rw [←xl,hx,←yl];simp only [Qx];omega
  ·rw [Ni,hx,List.drop_left,←yl,List.take_left];simp
 rcases StrLaws.occ_head x y lim hl with ⟨_,no⟩|⟨i,u,eo,hi,no⟩
 ·exact absurd at0 (no _)
 ·refine ⟨u,?_⟩;rw [eo];have h1:i≤w.length:=Nat.le_of_not_lt fun h=>no _ h at0;rcases Nj i w.length with lt|ge
  ·exfalso;have h2:=hi.2;rw [Ni,hx,←yl] at h2;have h3:((w++(y.cps.toList++r)).drop i).take y.cps.toList.length=y.cps.toList:=by simpa using h2
   have h4:=Qk (fun l:List Nat=>l[1]?) h3;rw [List.getElem?_take,NF,e] at h4;simp only [QH,R3,Nf] at h4;rw [Qb (by omega)] at h4;rcases Nj (i+1) w.length with l2|g2
   ·rw [RI l2] at h4;exact hw (Qt h4)
   ·rw [RW g2,show i+1-w.length=0 by omega] at h4;simp at h4;exact bc h4
  ·rw [show i=w.length by omega]
end TextG
namespace L2
open PySem PySem.Spec PyProof.Rows PySem.W
section
variable {X:Cx}
noncomputable def _hG (y:Str):V->List V->Hp->VK->Prop:=fun x xs H Q=>∃z,x=.str z∧xs=[.str y]∧z.length≤100000∧∀D,H D=none->Q (.ref D) (_b H D (.lst ((TextG.cutAt y z).map V.str)))
theorem _p9 (y:Str) (hy:(y.length==0)=false) (hl:∀z:Str,¬Builtin.Str.strKind z<Builtin.Str.strKind y):Wd X "str.split" (_hG y):=by
 intro pins s σ H x xs v us Q I rx r h;obtain ⟨z,rfl,rfl,hz,q⟩:=h;obtain ⟨t,rfl⟩:=rx;obtain ⟨u,rfl,ru⟩:=YX r;obtain ⟨t2,rfl⟩:=ru;have hb:=Uh;have pl:=TextG.cutAt_len y z
 have y0:0<y.length:=by
  rcases Nat.eq_zero_or_pos y.length with e|e
  ·rw [e] at hy;exact absurd hy (by decide)
  ·exact e
 have yl:y.cps.toList.length=y.length:=by rw [QF];rfl
 have zl:z.cps.toList.length=z.length:=by rw [QF];rfl
 have self:(⟨z.cps.toList.toArray⟩:Str)=z:=by simp
 have fin:∀(us:List Value) (tk:Nat),Vals ((TextG.cutAt y z).map V.str) us->EP X pins σ Q (.ref s.heap.objs.size) { s with heap:=s.heap.push { cls:=.type "list",data:=.seq us.toArray },toks:=tk }:=fun us tk rv =>
  ⟨.ref _,_,I.laid (t':=tk) (o:=.lst ((TextG.cutAt y z).map V.str)) (fun b u e=>Qq _ e) (Qe _) (show ObjOk X.prog X.w _ _ _ (.lst ((TextG.cutAt y z).map V.str)) from ⟨by rw [Qc];omega,us,0,rv,Qw _ rfl⟩),rfl,q _ (I.hok.fresh (Qe _))⟩
 by_cases h1:(decide (z.length<y.length)||decide (Builtin.Str.strKind z<Builtin.Str.strKind y))=true
 ·have h0:z.length<y.length:=by
   rw [RM,NJ,NJ] at h1;exact h1.resolve_right (hl z)
  refine Ry RB rfl Gf (Gg _ _) (meets_str_split_cannot_occur z _ t t2 h1) (fin [.str z t] s.toks ?_);unfold TextG.cutAt;rw [TextG.splitG_short (by rw [yl,zl];exact h0),Qs,R8,self];exact .cons ⟨_,rfl⟩ .nil
 ·by_cases h2:(Builtin.Str.occurrences z y 0 z.length (z.length+1)).isEmpty=true
  ·refine Ry RB rfl Gf (Gg _ _) (meets_str_split_not_found z _ t t2 (QP.mpr h1) hy h2) (fin [.str z t] s.toks ?_);rw [TextG.occ_all z y y0,List.isEmpty_iff] at h2;unfold TextG.cutAt;rw [TextG.splitG_none h2,Qs,R8,self];exact .cons ⟨_,rfl⟩ .nil
  ·have sp:=TextG.between_all z y y0;rw [←TextG.occ_all z y y0] at sp;refine Ry RB rfl Gf (Gg _ _) (meets_str_split_sep z _ t t2 (QP.mpr h1) hy (QP.mpr h2) (by omega) (by rw [sp];show (TextG.cutAt y z).length≤_;omega)) (fin _ _ ?_);show Vals ((TextG.cutAt y z).map V.str) _;unfold TextG.cutAt;rw [←sp];exact _bv _ _
noncomputable def _mk (y:Str):V->List V->Hp->VK->Prop:=fun x xs H Q=>∃z,x=.str z∧xs=[.str y]∧z.length≤100000∧∀D,H D=none->Q (.ref D) (_b H D (.tup [.str (Txt.partition z y).1,.str (Txt.partition z y).2.1,.str (Txt.partition z y).2.2]))
theorem _hP (y:Str) (hy:(y.length==0)=false):Wd X "str.partition" (_mk y):=by
 intro pins s σ H x xs v us Q I rx r h;obtain ⟨z,rfl,rfl,hz,q⟩:=h;obtain ⟨t,rfl⟩:=rx;obtain ⟨u,rfl,ru⟩:=YX r;obtain ⟨t2,rfl⟩:=ru;have hb:=Uh;refine Ry N6 rfl PySem.F.entry_str_partition (PySem.F.args_str_partition_2 _ _) (meets_str_partition z y t t2 hy (by omega)) ?_
 have fin:∀(a b c:Str) (ta tb tc:Tok) (tk:Nat),(∀D,H D=none->Q (.ref D) (_b H D (.tup [.str a,.str b,.str c])))->EP X pins σ Q (.ref s.heap.objs.size) { s with toks:=tk,heap:=s.heap.push { cls:=.type "tuple",data:=.seq [Value.str a ta,.str b tb,.str c tc].toArray } }:=fun a b c ta tb tc tk q =>
  ⟨.ref _,_,I.laid (t':=tk) (o:=.tup [.str a,.str b,.str c]) (fun b u e=>Qq _ e) (Qe _) (show ObjOk X.prog X.w _ _ _ (.tup [.str a,.str b,.str c]) from ⟨by show 3≤sizeLine;decide,[Value.str a ta,.str b tb,.str c tc],.cons ⟨_,rfl⟩ (.cons ⟨_,rfl⟩ (.cons ⟨_,rfl⟩ .nil)),⟨_,Qw _ rfl,rfl,_,rfl⟩⟩),rfl,q _ (I.hok.fresh (Qe _))⟩
 have q':=q;unfold Txt.partition at q';revert q';cases Builtin.Str.occurrences z y 0 z.length 1 with
 |nil=>intro q';exact fin _ _ _ _ _ _ _ q'
 |cons i r=>intro q';exact fin _ _ _ _ _ _ _ q'
noncomputable def _ov:V->List V->Hp->VK->Prop:=fun x xs H Q=>∃z y,x=.str z∧xs=[.str y]∧Q (.bl (Txt.startswith z y)) H
theorem _o3:Wd X "str.startswith" _ov:=by
 intro pins s σ H x xs v us Q I rx r h;obtain ⟨z,y,rfl,rfl,q⟩:=h;obtain ⟨t,rfl⟩:=rx;obtain ⟨u,rfl,ru⟩:=YX r;obtain ⟨t2,rfl⟩:=ru;exact SC.startswith ⟨.bl _,H,I,rfl,q⟩
noncomputable def _hE (g:Bool->Bool):R2:=fun x y H Q=>∃a b xs,x=.ref a∧y=.ref b∧H a=some (.lst xs)∧H b=some (.lst [])∧Q (.bl (g (decide (xs=[])))) H
theorem _ho (hu:X.A.units+64<cLine):Yi X (compareOp .Eq) (_hE id):=by
 intro pins s σ H x y v u Q I rx ry h;obtain ⟨a,b,xs,rfl,rfl,ha,hb,q⟩:=h;cases (show v=Value.ref a from rx);cases (show u=Value.ref b from ry);obtain ⟨its,rv,z,_⟩:=I.list (SqL.of (K:=X.K) ha);obtain ⟨its2,rv2,z2,_⟩:=I.list (SqL.of (K:=X.K) hb);cases rv2;have hl:=rv.length;cases xs with
 |nil =>
  cases rv;have g:=SeqAt.RcAt.lists (A:=X.A) (e:=fun _=>true) z.isList z2.isList rfl (by omega) fun j h1 h2=>by simp at h1
  exact g _ _ _ _ ⟨.bl _,H,I,rfl,q⟩
 |cons x0 xs =>
  have g:=SeqAt.RcAt.lists_lengths (A:=X.A) z.isList z2.isList (by rw [Qy,←hl];rfl) (by omega);exact g _ _ _ _ ⟨.bl _,H,I,rfl,q⟩
theorem _bQ (hc:X.calm=true):YJ X (.type "list") (fun xs H Q=>∃(l:Addr) (zs:List (Str×V)),xs=[.ref l]∧H l=some (.dK (zs.map fun p=>(.inr p.1,p.2)))∧zs.length≤1000∧∀D,H D=none->Q (.ref D) (_b H D (.lst ((zs.map (·.1)).map V.str)))):=by
 intro pins s σ H xs us Q I r h;obtain ⟨l,zs,rfl,hq,hl,q⟩:=h;obtain ⟨u,rfl,ru⟩:=YX r;cases (show u=Value.ref l from ru);obtain ⟨z,hd,vs,rel,dd⟩:=UU I.hok hq;obtain ⟨ep,da⟩:=dd.dictAt;have hlen:vs.length=zs.length:=by rw [←rel.length,Qc]
 have keyAt:∀(i:Nat) (k:_k) (x:Value),vs[i]?=some (k,x)->∃z,(zs.map (·.1))[i]?=some z∧k=.inr z:=by
  have go:∀{ys:List (Str×V)} {ws:List (_k×Value)},KV (ys.map fun p=>((.inr p.1:_k),p.2)) ws->∀(i:Nat) (k:_k) (x:Value),ws[i]?=some (k,x)->∃z,(ys.map (·.1))[i]?=some z∧k=.inr z:=by
   intro ys
   induction ys with
   |nil=>intro ws r i k x e;cases r;cases e
   |cons y ys ih =>
    intro ws r i k x e;cases r with
    |cons h t =>
     cases i with
     |zero =>
      rw [Nf] at e;cases e;exact ⟨y.1,rfl,h.1.symm⟩
     |succ i =>
      rw [R3] at e;obtain ⟨z,e1,e2⟩:=ih t i k x e;exact ⟨z,by simpa using e1,e2⟩
  exact go rel
 have col:∀(acc:Array Value),ItemsOf (fun i v=>∃k x,vs[i]?=some (k,x)∧(Yt X.prog X.w).is k v=true) acc vs.length->StrsAre acc.toList (zs.map (·.1)):=by
  intro acc hacc;refine _a3 (by rw [Qc,←hlen,QF];exact hacc.1) fun i v e=>?_;obtain ⟨k,x,e1,e2⟩:=hacc.2 i v (by rw [←G1];exact e);obtain ⟨z,e3,rfl⟩:=keyAt i k x e1;obtain ⟨t,rfl⟩:=_fD e2;exact ⟨z,t,e3,rfl⟩
 have hs:zs.length<sizeLine:=small1000 (by omega);refine kdl_call (kdl_dict hd) (I.ok.hd hc) da (by rw [hlen];omega) fun h' tk acc c k1 he hacc=>?_;exact ⟨.ref _,_,I.laid (t':=tk) (o:=.lst ((zs.map (·.1)).map V.str)) k1 (Qe _) (show ObjOk X.prog X.w _ _ _ (.lst ((zs.map (·.1)).map V.str)) from ⟨by rw [Qc,Qc];omega,acc.toList,c,UO (col acc hacc),by rw [Array.toArray_toList];exact he⟩),rfl,q _ (I.hok.fresh (Qe _))⟩
end
section
variable {X:Cx} {CX:YA} {k1 k2 k3:Nat} {f1 C1 f2 C2 f3 C3:Addr} {fd1 fd2 fd3:FuncData} {ps1 ps2 ps3:List Str} {sp1 sp2 sp3:Sp} {E:XS} {m:Str} {pos apos:Pos} {o:Expr} {ta:TE}
end
end L2
namespace L2
open PySem PySem.Spec PyProof.Rows
variable {A:Around} {X:Cx} {H:Hp} {N:List Str} {prog:Program} {s:Shared} {E:Value->Shared->Prop}
section
variable {w:World} {R:Result->Shared->Prop}
end
section
variable {pins:List (Addr×Obj)} {σ:St} {sc:Scope} {cl:List (Str×Addr)} {σc:St->St} {fp:List Addr}
end
section
variable {elt tg iter:Expr} {ifs:List Expr} {sc:Scope} {pos:Pos} {cl:List (Str×Addr)} {σc:St->St} {wi:TI} {g:TG} {tt:TT} {te:TE}
end
section
variable {M:Model}
end
section
variable {pins:List (Addr×Obj)} {σ:St} {H':Hp} {s':Shared} {e:Addr} {cls:Value}
end
section
variable {P:Program} {w:World} {K:W.Frag} {mg:Str->Option Value} {base:Heap} {qual:Str} {scope:Scope} {f:Addr} {cd:Value} {outer:List Env} {E:XK}
end
section
variable {w:World}
end
section
variable {w:World} {κ:Type} [DecidableEq κ] {knd:KeyKind prog w κ}
end
section
variable {w:World}
end
section
variable {pos:Pos}
variable {i o value:Expr} {ty td tv:TE} {pos':Pos}
end
end L2
namespace L2
open PySem PySem.Spec PyProof.Rows PySem.W
section
variable {X:Cx} {o i l tg:Expr} {pos:Pos} {td ty tl:TE} {K:W.Frag} {w:World} {a:Addr} {kvs:List (_k×V)}
end
section
variable {X:Cx}
end
end L2
namespace L2
open PySem PySem.Spec PyProof.Rows PySem.W PySem.SeqAt
section
variable {prog:Program} {w:World} {A:Around} {E:Value->Shared->Prop} {s:Shared}
end
noncomputable def noX:HO->Bool
 |.ext _=>false
 |_=>true
noncomputable def _dK (H H':Hp):Prop:=∀b u,noX u=true->H b=some u->H' b=some u
theorem Same.x {H H':Hp} (s:Same H H'):_dK H H':=fun b u _ e=>s b u e
section
variable {X:Cx} {pins:List (Addr×Obj)} {σ:St} {H:Hp} {s:Shared} {h':Heap}
end
section
variable {X:Cx} {e:Expr} {te:TE} {p pos kp lpos p1 p2 p3 p4:Pos} {x o q:Str} {params:Arguments} {scope:Scope} {c P cc:Addr} {i:Nat}
end
end L2
namespace L2
open PySem PySem.Spec PyProof.Rows PySem.W
end L2
namespace L2
open PySem PySem.Spec PyProof.Rows
section
variable {X:Cx}
end
section
variable {X:Cx}
end
end L2
namespace L2
open PySem PySem.Spec PyProof.Rows PySem.W
section
variable {X:Cx}
end
end L2
namespace L2
open PySem PySem.Spec PyProof.Rows PySem.W SA
variable {d j:Addr} {A:Around} {es:Array DictEntry} {X:Cx} {H:Hp} {ep:Nat} {prog:Program} {s:Shared} {σ:St} {E:Value->Shared->Prop}
section
variable {w:World}
end
theorem _g4 {H:Hp}:∀{kvs:List (List _k×V)} {xs:List (List _k×Addr×Value)},KT H kvs xs->∀(i:Nat) (p:List _k×V),kvs[i]?=some p->∃x,xs[i]?=some x∧H x.2.1=some (.tup (p.1.map kV))∧RelV p.2 x.2.2
 |[],_,r,i,p,e=>by cases e
 |q::kvs,_,r,i,p,e=>by
  cases r with
  |@cons _ y _ _ h t =>
   cases i with
   |zero =>
    cases (show some q=some p from e);exact ⟨y,rfl,h.2.1,h.2.2⟩
   |succ i =>
    rw [R3] at e;obtain ⟨x,hx⟩:=_g4 t i p e;exact ⟨x,by rw [R3];exact hx.1,hx.2⟩
theorem Inv.freezeT {pins:List (Addr×Obj)} {a:Addr} {kvs:List (List _k×V)} (I:Inv X pins σ H s) (ha:H a=some (.dT kvs)):∃o es ep,s.heap.get? a=some o∧o.cls=.type "dict"∧o.data=.dict es ep∧es.size=kvs.length∧(a==sysModules)=false∧Inv X pins σ (_b H a (.frz o (.dT kvs))) s:=by
 obtain ⟨z,hd,xs,rel,o,es,ep,h1,h2,h3,h4,h5⟩:=Jr I.hok ha;have hes:es.size=kvs.length:=by rw [←QF,h4,Qc];exact rel.length.symm
 have fz:∀{c:Addr} {u:HO},ObjOk X.prog X.w H s.heap c u->ObjOk X.prog X.w (_b H a (.frz o (.dT kvs))) s.heap c u:=fun x=>by
  refine x.stay (fun c v hc qe=>qe) (fun c qe=>?_) fun c ys qe=>?_
  ·rw [_g (fun z=>by subst z;rw [ha] at qe;cases qe)];exact qe
  ·rw [_g (fun z=>by subst z;rw [ha] at qe;cases qe)];exact qe
 exact ⟨o,es,ep,h1,h2.1,h3,hes,hd,I.write (x:=a) (e:=a) (o:=.frz o (.dT kvs)) (h':=s.heap) (t':=s.toks) (by rw [ha];exact True.intro) (.inl rfl) (fun b u _ e=>e) ⟨o,h1⟩ ⟨h1,fz (show ObjOk X.prog X.w H s.heap a (.dT kvs) from I.hok a _ ha)⟩⟩
noncomputable def Ur (r a:Addr) (h:Heap):Prop:=h.IsItemsView r a
section
variable {w:World}
theorem _kf {v:Addr} {Q:Value->Shared->Prop} (hv:s.heap.IsItemsView v d) (hd:JC s.heap d es ep)
 (q:Q (.ref s.heap.objs.size) { s with heap:=s.heap.push { cls:=.type "dict_itemiterator",data:=.fields #[.none,.bool false,.ref d,.int 0 0,.int es.size 0,.int ep 0,.none,.none] } }):wpAny (model prog w) A (pyIter (.ref v)) Q E s:=by
 have ty:=hv.typeIs;obtain ⟨ov,g1,g2,g3⟩:=hv;obtain ⟨od,d1,d2,d3⟩:=hd;have own:Builtin.Dict_items.ownsTuple "dict_itemiterator"=true:=by decide
 refine wpAny_pyIter_slot ty F.slot_dict_items_iter (Rs F.slot_dict_items_iter ty F.entry_dict_items_iter ?_ (F.args_dict_items_iter_1 _))
 delta Builtin.«dict_items.__iter__»
 refine Qd (Qg (Qd ?_))
 delta Builtin.Dict_items.dictOf
 refine Qd (QR g1 g3 (x:=.ref d) rfl (Qg (Qd ?_)))
 delta Builtin.Dict_items.newIterator
 refine Qd (GK d1 d3 (Qd (wpAny_dictEpoch d1 d3 ?_)));simp only [own,Rr]
 refine Rc (Qg ⟨_,rfl,"dict_itemiterator",_,⟨_,Qw _ rfl,rfl⟩,GL.lookup,?_⟩)
  (by simp only [sizeOk,Builtin.Dict_items.ownedTupleFields,Qy,Qx,QH,Nz,Gw];omega)
 simpa [rawInt,Builtin.Dict_items.ownedTupleFields] using q
theorem JO {Q:String->Shared->Prop} (hT:s.TypeIs (.ref j) "dict_itemiterator") (h:Q "dict_itemiterator" s):wpAny (model prog w) A (typeNameOfWhole (.ref j)) Q E s:=wpAny_typeNameOfWhole_itemiter hT h
theorem _oL {i:Nat} {e:DictEntry} {ok ov:Value} {Q:Option Value->Shared->Prop} (hit:IsItemIter s.heap j d i es.size ep ok ov) (hd:JC s.heap d es ep) (he:es[i]?=some e)
 (q:∀h',IsItemIterOut h' j d (i+1) es.size ep e.key e.val s.heap.objs.size->h'.get? s.heap.objs.size=some { cls:=.type "tuple",data:=.seq #[e.key,e.val] } →
 (∀b o,b≠j->s.heap.get? b=some o->h'.get? b=some o)->Q (some (.ref s.heap.objs.size)) { s with heap:=h' }):wpAny (model prog w) A (pyNext (.ref j)) Q E s:=by
 obtain ⟨hp,g,dr,tk,os⟩:=s;obtain ⟨od,d1,d2,d3⟩:=hd;have ty:Shared.TypeIs ⟨hp,g,dr,tk,os⟩ (.ref j) "dict_itemiterator":=⟨_,hit,rfl⟩;have own:Builtin.Dict_items.ownsTuple "dict_itemiterator"=true:=by decide
 have hj:i<es.size:=by
  rcases Nj i es.size with h|h
  ·exact h
  ·rw [Array.getElem?_eq_none h] at he;cases he
 have hv:es[i]=e:=by rw [getElem?_pos es i hj] at he;injection he
 delta pyNext
 refine Qd (G6 (RK (name:=Str.ofString "__next__") ty GL (Rs GL ty N7 ?_ (N8 _))));refine Qd (Qg (Qd (Qd (Qd (JO ty (Qg (Qd (wpAny_fieldsOf hit rfl ?_))))))));simp only [own,Rr];have nn:(Value.ref d==Value.none)=false:=rfl;show wpAny _ A.in1 (if (Value.ref d==Value.none)=true then _ else _) _ _ _;rw [nn,Qa QI];refine Qd (Qg (Qd (GK d1 d3 ?_)));rw [Qa (by simp)];refine Qd (Qg (Qd (wpAny_dictEpoch d1 d3 ?_)));rw [Qa (by simp)];refine Qg ?_;simp only [show ¬((i:Int)<0) from by omega,Q4,Gy,Array.getElem?_eq_getElem hj];refine Qd (Qd (JO ty (Qg (Qd (NK ty ?_)))));show wpAny _ A.in1 (setField (.ref j) 3 (rawInt ((i:Int)+1)) >>= _) _ _ _;refine Qd (Rt hit (by simp) fun ha a1 a2=>?_);replace a2:Heap.SameBut j hp ha:=a2
 replace a1:IsItemIter ha j d (i+1) es.size ep ok ov:=by
  have ez:((i+1:Nat):Int)=(i:Int)+1:=by omega
  unfold IsItemIter;rw [ez];simpa [rawInt] using a1
 have tya:Shared.TypeIs ⟨ha,g,dr,tk,os⟩ (.ref j) "dict_itemiterator":=⟨_,a1,rfl⟩;refine Qd (Q3 (Qd (NK tya (Qd (NK tya ?_)))));show wpAny _ A.in1 (Builtin.Dict_items.pairFromOwner (.ref j) 6 es[i].key es[i].val) _ _ ⟨ha,g,dr,tk,os⟩;rw [hv]
 delta Builtin.Dict_items.pairFromOwner
 refine Qd (wpAny_newTuple ?_);have b1:IsItemIter (ha.push { cls:=.type "tuple",data:=.seq #[e.key,e.val] }) j d (i+1) es.size ep ok ov:=Qq _ a1;generalize hb:ha.push { cls:=.type "tuple",data:=.seq #[e.key,e.val] }=hB at b1;have za:ha.objs.size=hp.objs.size:=a2.1;have lj:j<hp.objs.size:=Qp hit;have tB:hB.get? hp.objs.size=some { cls:=.type "tuple",data:=.seq #[e.key,e.val] }:=by rw [←hb,←za];exact Qw _ rfl
 have kB:∀b o,b≠j->hp.get? b=some o->hB.get? b=some o:=fun b o nb eo=>by rw [←hb];exact Qq _ (a2.extBut b o nb eo)
 show wpAny _ A.in1 (Builtin.Dict_items.ownedTupleIsFree (.ref j) >>= _) _ _ ⟨hB,g,dr,tk,os⟩;rw [za];clear hb a1 a2 tya za ha;refine Qd ?_
 delta Builtin.Dict_items.ownedTupleIsFree
 refine Qd (QR b1 rfl (x:=.none) rfl (Qg ?_));simp only [Rr];refine Qd (QR b1 rfl (x:=ok) rfl (Qd (QR b1 rfl (x:=ov) rfl ?_)));refine Qd (Rt b1 (by simp) fun hC c1 c2=>?_);replace c2:Heap.SameBut j hB hC:=c2;replace c1:IsItemIter hC j d (i+1) es.size ep e.key ov:=c1;refine Qd (Rt c1 (by simp) fun hD e1 e2=>?_);replace e2:Heap.SameBut j hC hD:=e2;replace e1:IsItemIter hD j d (i+1) es.size ep e.key e.val:=e1;refine Qd (Rt e1 (by simp) fun hE f1 f2=>?_);replace f2:Heap.SameBut j hD hE:=f2;replace f1:IsItemIterOut hE j d (i+1) es.size ep e.key e.val hp.objs.size:=f1;refine Qd (Rt f1 (by simp) fun hG g1 g2=>?_);replace g2:Heap.SameBut j hE hG:=g2;replace g1:IsItemIterOut hG j d (i+1) es.size ep e.key e.val hp.objs.size:=g1;have up:∀b o,b≠j->hB.get? b=some o->hG.get? b=some o:=fun b o nb eo=>g2.extBut b o nb (f2.extBut b o nb (e2.extBut b o nb (c2.extBut b o nb eo)));refine Qd (G5 (Qg (Qg ⟨_,rfl,Qg (q hG g1 ?_ ?_)⟩)))
 ·exact up _ _ (RG lj) tB
 ·exact fun b o nb eo=>up b o nb (kB b o nb eo)
theorem _p2 {i:Nat} {ok ov:Value} {Q:Option Value->Shared->Prop} (hh:A.handled=none) (hit:IsItemIter s.heap j d i es.size ep ok ov) (hd:JC s.heap d es ep) (he:es.size≤i)
 (q:∀h',Heap.ExtBut j s.heap h'->Q none { s with heap:=h' }):wpAny (model prog w) A (pyNext (.ref j)) Q E s:=by
 obtain ⟨od,d1,d2,d3⟩:=hd;have ty:s.TypeIs (.ref j) "dict_itemiterator":=⟨_,hit,rfl⟩;have own:Builtin.Dict_items.ownsTuple "dict_itemiterator"=true:=by decide
 delta pyNext
 refine Qd (G6 (RK (name:=Str.ofString "__next__") ty GL (Rs GL ty N7 ?_ (N8 _))));refine Qd (Qg (Qd (Qd (Qd (JO ty (Qg (Qd (wpAny_fieldsOf hit rfl ?_))))))));simp only [own,Rr];have nn:(Value.ref d==Value.none)=false:=rfl;show wpAny _ A.in1 (if (Value.ref d==Value.none)=true then _ else _) _ _ s;rw [nn,Qa QI];refine Qd (Qg (Qd (GK d1 d3 ?_)));rw [Qa (by simp)];refine Qd (Qg (Qd (wpAny_dictEpoch d1 d3 ?_)));rw [Qa (by simp)];refine Qg ?_;simp only [show ¬((i:Int)<0) from by omega,Q4,Gy,Array.getElem?_eq_none he];refine Qd (Qd (JO ty (Qg ?_)));show wpAny _ A.in1 (setField (.ref j) 2 .none >>= _) _ _ s;refine Qd (wpAny_setField hit rfl (by simp) ?_);show wpAny _ A.in1 (newExc (.type "StopIteration") [] >>= _) _ _ _;refine Qd ?_;simp only [newExc,newTuple];refine Qd (Rc (Qd (m:=firstArgMember _ _) (wpAny_of_eq (a:=Value.none) (by first|rfl|(simp only [firstArgMember];rfl)) (Rc ?_ (by size_fits)))) (by size_fits));simp only [raiseNew];refine Qd (wpAny_handled ?_);rw [show A.in1.handled=none from hh];refine Qd (Qg (wpAny_throw ?_));refine Qd (wpAny_isInstance (b:=true) (T:="StopIteration") ⟨_,Qw _ rfl,rfl⟩ isSubtype_stop ?_);exact Qg (q _ (((Gb ..).extBut.push _).push _))
end
theorem _oy {w:World} {Q:Value->Shared->Prop} (lo:(d==sysModules)=false) (hd:JC s.heap d es ep)
 (q:Q (.ref s.heap.objs.size) { s with heap:=s.heap.push { cls:=.type "dict_items",data:=.fields #[.ref d] } }):wpAny (model prog w) A (call (.builtin "dict.items") [.ref d]) Q E s:=by
 obtain ⟨od,d1,d2,d3⟩:=hd;have ty:s.TypeIs (.ref d) "dict":=⟨od,d1,d2⟩;refine Ga F.slot_dict_items ty F.entry_dict_items (F.args_dict_items_1 _) (S:=fun _ R s'=>s'=s∧R (.ok (.ret (.ref s'.heap.objs.size))) { s' with heap:=s'.heap.push { cls:=.type "dict_items",data:=.fields #[.ref d] } }) ?_ ⟨rfl,q⟩;refine .of_wp fun A R s' h=>?_;obtain ⟨rfl,h⟩:=h;refine Qd ?_
 delta Builtin.Dict.noArgs
 refine Qd (wpAny_notOrdered_dict ty ?_);show wpAny _ _ (pure d) _ _ _;refine Qg ?_;show wpAny _ _ (Builtin.Dict.showsAll d >>= _) _ _ _
 delta Builtin.Dict.showsAll
 rw [Qa (by rw [lo];exact QI)];exact Qd (Qg (Qd (Rc (Qg ⟨_,rfl,h⟩))))
theorem _ow:Wd X "dict.items" (fun x xs H Q=>∃a kvs,x=.ref a∧xs=[]∧H a=some (.dT kvs)∧∀r,H r=none->Q (.ref r) (_b H r (.ext (Ur r a)))):=by
 intro pins s σ H x xs v us Q I rx r h;obtain ⟨a,kvs,rfl,rfl,ha,q⟩:=h;cases r;obtain rfl:v=Value.ref a:=rx;obtain ⟨z,hd,xs,rel,o,es,ep,h1,h2,h3,h4,h5⟩:=Jr I.hok ha;refine _oy hd ⟨o,h1,h2.1,h3⟩ ⟨.ref s.heap.objs.size,_,I.laid (t':=s.toks) (o:=.ext (Ur s.heap.objs.size a)) (fun b u e=>Qq _ e) (Qe _) ?_,rfl,q _ (I.hok.fresh (Qe _))⟩;have g:(s.heap.push { cls:=.type "dict_items",data:=.fields #[.ref a] }).get? s.heap.objs.size=some { cls:=.type "dict_items",data:=.fields #[.ref a] }:=Qw _ rfl;refine ⟨⟨_,g,rfl,rfl⟩,⟨_,g⟩,fun g1 g2 φ k=>?_⟩;obtain ⟨o,o1,o2⟩:=φ;exact ⟨o,k o o1,o2⟩
noncomputable def UX (d:Addr) (o:Obj) (kvs:List (List _k×V)):It where
 go:=fun i H=>H d=some (.frz o (.dT kvs))∧i<kvs.length
 stop:=fun i H=>H d=some (.frz o (.dT kvs))∧kvs.length≤i
 yld:=fun i H v H'=>∃T c p,H T=none∧v=.ref T∧kvs[i]?=some p∧H c=some (.tup (p.1.map kV))∧H'=_b H T (.tup [.ref c,p.2])
theorem _im {P:Program} {w:World} {K:W.Frag} {ts:List Expr} {n:Nat} {pos:Pos} (d j:Addr) (o:Obj) (kvs:List (List _k×V)) (es:Array DictEntry) (ep:Nat) (ho:o.data=.dict es ep) (hc:o.cls=.type "dict") (hz:es.size=kvs.length) :
  Turn P w K (.Tuple ts n pos) (UX d o kvs) [j] j (fun i h=>∃ok ov,IsItemIter h j d i es.size ep ok ov) where
 mem:=by simp
 obj:=fun i h ⟨ok,ov,st⟩ b hb=>by
  have e:b=j:=by simpa using hb
  subst e;exact ⟨_,st,fun v z=>by cases z⟩
 keep:=fun i h h' ⟨ok,ov,st⟩ k=>⟨ok,ov,k j (by simp) _ st⟩
 item:=by
  intro X hP hw hK hcalm i pins s σ H E I hf st hg;subst hP hw hK;obtain ⟨ok,ov,st⟩:=st;obtain ⟨hq,hi⟩:=hg;obtain ⟨g1,g2⟩:=(show s.heap.get? d=some o∧ObjOk X.prog X.w H s.heap d (.dT kvs) from I.hok d _ hq);obtain ⟨z,hd,xs,rel,o2,es2,ep2,h1,h2,h3,h4,h5⟩:=WW I.hok (.inr ⟨o,hq⟩);rw [g1] at h1;cases h1;rw [ho] at h3;cases h3;obtain ⟨x,hx,hxt,rx⟩:=_g4 rel i kvs[i] (Qu hi)
  have hen:∃en,es[i]?=some en∧en.key=.ref x.2.1∧en.val=x.2.2:=by
   have e1:es.toList[i]?=es[i]?:=G1 ..;rw [h4,Qi,hx] at e1;exact ⟨_,e1.symm,rfl,rfl⟩
  obtain ⟨en,hen,ek,ev⟩:=hen;have lj:j<s.heap.objs.size:=Qp st;refine _oL st ⟨o,g1,hc,ho⟩ hen fun h1 io tt kk=>?_;refine ⟨_,rfl,wpAny_letOwnedTupleGo_items io fun h2 st2 sb=>?_⟩;have tt2:=sb.extBut _ _ (RG lj) tt
  have k2:∀c o,c∉[j]->s.heap.get? c=some o->h2.get? c=some o:=fun c o hc e=>by
   have nc:c≠j:=by simpa using hc
   exact sb.extBut _ _ nc (kk c o nc e)
  have I':=I.turnedLaid (t':=s.toks) (o:=.tup [.ref x.2.1,kvs[i].2]) hf k2 (Qe _) (show ObjOk X.prog X.w _ h2 _ (.tup [.ref x.2.1,kvs[i].2]) from ⟨small1000 (by simp),[en.key,en.val],.cons (by rw [ek];rfl) (.cons (by rw [ev];exact rx) .nil),⟨_,tt2,rfl,_,rfl⟩⟩);refine ⟨.ref s.heap.objs.size,_,I',rfl,⟨s.heap.objs.size,x.2.1,kvs[i],I.hok.fresh (Qe _),rfl,Qu hi,hxt,rfl⟩,⟨_,_,st2⟩,fun c hc=>?_⟩;have ec:c=j:=by simpa using hc
  subst ec;rw [_g (Qz lj)];exact (hf c (by simp)).1
 done:=by
  intro X hP hw hK hcalm i pins s σ H E I hf st hg;subst hP hw hK;obtain ⟨ok,ov,st⟩:=st;obtain ⟨hq,hi⟩:=hg;obtain ⟨g1,g2⟩:=(show s.heap.get? d=some o∧ObjOk X.prog X.w H s.heap d (.dT kvs) from I.hok d _ hq);obtain ⟨f0,f1,f2,f3,f4,f5⟩:=hf j (by simp);exact _p2 (I.ok.hd hcalm) st ⟨o,g1,hc,ho⟩ (by omega) fun h' eb=>⟨rfl,I.turned (t':=s.toks) (fun b o hb e=>eb b o hb e) f0 f1 f3 f4 f5⟩
 self:=fun _ _ _ _ _ ⟨ok,ov,st⟩ h=>kcp_self st h
noncomputable def _lx (tl:TE):TI:=fun σ H R=>tl σ H fun x H1=>∃r a kvs,x=.ref r∧H1 r=some (.ext (Ur r a))∧H1 a=some (.dT kvs)∧∀o,R (UX a o kvs) (_b H1 a (.frz o (.dT kvs)))
theorem _mo {l:Expr} {tl:TE} {ts:List Expr} {n:Nat} {pos:Pos} (hl:PE X l tl):PI X (.Tuple ts n pos) l (_lx tl):=by
 intro pins s σ H R I h;refine _p (hl pins s σ H _ I h) fun v s1 ⟨x,H1,I1,r1,q1⟩=>?_;obtain ⟨r,a,kvs,e,hr,ha,q⟩:=q1;subst e;cases r1;have hview:s1.heap.IsItemsView r a:=(show ObjOk X.prog X.w H1 s1.heap r (.ext (Ur r a)) from I1.hok r _ hr).1;obtain ⟨o,es,ep,h1,h2,h3,hes,hd,If⟩:=I1.freezeT ha;refine _kf hview ⟨o,h1,h2,h3⟩ ?_;refine ⟨s1.heap.objs.size,[s1.heap.objs.size],_,_,_,rfl,If.kept (t':=s1.toks) fun b o e=>Qq _ e,_im a _ o kvs es ep h3 h2 hes,⟨_,_,Qw _ rfl⟩,fun b hb=>?_,q o⟩;have e:b=s1.heap.objs.size:=by simpa using hb
 subst e;exact If.fpOk (Qe _) (If.hok.fresh (Qe _))
theorem _jQ {o:Obj} {kvs:List (List _k×V)} {g:TG} {tb:TS} {D:Ends} (Pv:Nat->St->Hp->Prop) (h0:Pv 0 σ H) (hl:∀i σ H,i≤kvs.length->Pv i σ H->H d=some (.frz o (.dT kvs)))
 (hs:∀i p T c σ H,kvs[i]?=some p->Pv i σ H->H T=none->H c=some (.tup (p.1.map kV))->g (.ref T) σ (_b H T (.tup [.ref c,p.2])) fun σ2 H2=>tb { D with nx:=Pv (i+1),ct:=Pv (i+1),bk:=D.nx } σ2 H2) (hd:∀σ H,Pv kvs.length σ H->D.nx σ H) :
  ∃W:Nat->Nat->St->Hp->Prop,(∃m,W 0 m σ H)∧∀i m σ H,W i m σ H →
   ((UX d o kvs).stop i H∧D.nx σ H)∨((UX d o kvs).go i H∧∃N:St->Hp->Prop,(∀σ' H',N σ' H'->∃m',m'<m∧W (i+1) m' σ' H')∧∀x H',(UX d o kvs).yld i H x H'->g x σ H' fun σ2 H2=>tb { D with nx:=N,ct:=N,bk:=D.nx } σ2 H2):=by
 refine ⟨fun i m σ H=>m=kvs.length-i∧i≤kvs.length∧Pv i σ H,⟨kvs.length,by simp,QM _,h0⟩,?_⟩;rintro i m σ H ⟨rfl,hi,p⟩;have q:=hl i σ H hi p;by_cases hlt:i<kvs.length
 ·refine .inr ⟨⟨q,hlt⟩,Pv (i+1),fun σ' H' p'=>⟨kvs.length-(i+1),by omega,rfl,hlt,p'⟩,fun x H' y=>?_⟩;obtain ⟨T,c,r,nT,rfl,hr,hc,rfl⟩:=y;exact hs i r T c σ _ hr p nT hc
 ·have e:i=kvs.length:=by omega
  subst e;exact .inl ⟨⟨q,Qe _⟩,hd σ H p⟩
theorem _cL {o:Obj} {kvs:List (_k×V)} {g:TG} {tb:TS} {D:Ends} (Pv:Nat->St->Hp->Prop) (h0:Pv 0 σ H) (hl:∀i σ H,i≤kvs.length->Pv i σ H->H d=some (.frz o (.dK kvs)))
 (hs:∀i p σ H,kvs[i]?=some p->Pv i σ H->g (kV p.1) σ H fun σ2 H2=>tb { D with nx:=Pv (i+1),ct:=Pv (i+1),bk:=D.nx } σ2 H2) (hd:∀σ H,Pv kvs.length σ H->D.nx σ H) :
  ∃W:Nat->Nat->St->Hp->Prop,(∃m,W 0 m σ H)∧∀i m σ H,W i m σ H →
   ((UD d o kvs).stop i H∧D.nx σ H)∨((UD d o kvs).go i H∧∃N:St->Hp->Prop,(∀σ' H',N σ' H'->∃m',m'<m∧W (i+1) m' σ' H')∧∀x H',(UD d o kvs).yld i H x H'->g x σ H' fun σ2 H2=>tb { D with nx:=N,ct:=N,bk:=D.nx } σ2 H2):=by
 refine ⟨fun i m σ H=>m=kvs.length-i∧i≤kvs.length∧Pv i σ H,⟨kvs.length,by simp,QM _,h0⟩,?_⟩;rintro i m σ H ⟨rfl,hi,p⟩;have q:=hl i σ H hi p;by_cases hlt:i<kvs.length
 ·refine .inr ⟨⟨q,hlt⟩,Pv (i+1),fun σ' H' p'=>⟨kvs.length-(i+1),by omega,rfl,hlt,p'⟩,fun x H' y=>?_⟩;obtain ⟨rfl,y⟩:=y;rw [Qu hlt] at y;cases (show kV kvs[i].1=x from Ql y);exact hs i kvs[i] σ _ (Qu hlt) p
 ·have e:i=kvs.length:=by omega
  subst e;exact .inl ⟨⟨q,Qe _⟩,hd σ H p⟩
end L2
namespace L2
open PySem PySem.Spec PyProof.Rows
variable {X:Cx} {e:Expr} {pos:Pos} {CX:YA}
theorem _E {N P:List Str} {sc:Scope} (h1:sc.kind=.function:=by rfl) (h2:sc.isCoroutine=false:=by rfl) (h3:sc.isGenerator=false:=by rfl) (h4:N.Nodup:=by trivial) (h5:N.take P.length=P:=by rfl)
 (h6:∀x∈P,sc.names.lookup x=some .local∨sc.names.lookup x=some .cell:=by trivial) (h7:∀y∈sc.names,y.2≠.free:=by trivial):FnScope N P sc:=⟨h1,h2,h3,h4,h5,h6,h7⟩
section
variable {k n:Nat} {x:Str} {st:Stmt} {ps:List Str} {sp:Sp} {p:Pos} {es:List Expr} {t:TA} {E:St->XK}
end
noncomputable def UR (lo:Int) (c n:Nat):It:=⟨fun i _=>i<n,fun i H x H'=>H'=H∧x=.int (lo+i*c),fun i _=>n≤i⟩
theorem _jp {P:Program} {w:World} {K:PySem.W.Frag} {tg:Expr} (it:Addr) (lo:Int) (c n:Nat):Turn P w K tg (UR lo c n) [it] it (fun i h=>IsRangeIter h it (lo+(i:Nat)*(c:Int)) ((n:Int)-(i:Nat)) c) where
 mem:=by simp
 obj:=fun i h st b hb=>by
  have e:b=it:=by simpa using hb
  subst e
  exact ⟨_,st,fun v z=>by
   have z':Data.fields _=Data.cell v:=z;cases z'⟩
 keep:=fun i h h' st k=>k it (by simp) _ st
 item:=by
  intro X hP hw hK hc i pins s σ H E I hf st hg;subst hP hw hK;obtain ⟨f0,f1,f2,f3,f4,f5⟩:=hf it (by simp);have W:=Walks.range (prog:=X.prog) (w:=X.w) (I.ok.hd hc) it lo c n;refine W.item i s _ _ hg st fun v h' tk hv st' kk=>?_;obtain ⟨t,rfl⟩:=hv;have I1:Inv X pins σ H { s with heap:=h',toks:=tk }:=I.turned (fun b o hb e=>kk b o (by simpa using hb) e) f0 f1 f3 f4 f5;exact ⟨_,rfl,U6 (s:={ s with heap:=h',toks:=tk }) (n:="range_iterator") st' rfl rfl (by decide) ⟨.int (lo+i*c),H,I1,⟨t,rfl⟩,⟨rfl,rfl⟩,st',fun b hb=>(hf b hb).1⟩⟩
 done:=by
  intro X hP hw hK hc i pins s σ H E I hf st hg;subst hP hw hK;obtain ⟨f0,f1,f2,f3,f4,f5⟩:=hf it (by simp);exact wpAny_pyNext_range_end (I.ok.hd hc) st (by have:n≤i:=hg;omega) fun h' eb=>⟨rfl,I.turned (t':=s.toks) (fun b o hb e=>eb b o hb e) f0 f1 f3 f4 f5⟩
 self:=fun _ _ _ _ _ st h=>wpAny_pyIter_rangeiter st h
section
variable {tg:Expr}
noncomputable def _hK (ta:TA):TI:=fun σ H R=>ta σ H fun vs H1=>∃(i j:Int) (c:Nat),vs=[.int i,.int j,.int c]∧(0≤i∧i≤1000∧0≤j∧j≤1000∧0<c∧c≤1000)∧∀n:Nat,(∀k:Nat,k<n->i+(k:Int)*(c:Int)<j)->n≤1000->R (UR i c n) H1
theorem _oW {i j:Int} {c:Nat} (h:0≤i∧i≤1000∧0≤j∧j≤1000∧0<c∧c≤1000):∃n:Nat,Builtin.Range.rangeSize i j c=(n:Int)∧(∀k:Nat,k<n->i+(k:Int)*(c:Int)<j)∧n≤1000:=by
 obtain ⟨h1,h2,h3,h4,h5,h6⟩:=h;have cp:(0:Int)<(c:Int):=by omega
 unfold Builtin.Range.rangeSize;rw [Qb cp];by_cases ij:i<j
 ·rw [Qb ij];have q0:0≤(j-i-1)/(c:Int):=Int.ediv_nonneg (by omega) (by omega);have q1:(j-i-1)/(c:Int)≤j-i-1:=Int.ediv_le_self _ (by omega);refine ⟨((j-i-1)/(c:Int)+1).toNat,by omega,fun k hk=>?_,by omega⟩;have a:(k:Int)≤(j-i-1)/(c:Int):=by omega
  have b:=Int.mul_le_of_le_ediv cp a;omega
 ·rw [Qa ij];exact ⟨0,rfl,fun k hk=>absurd hk (Nat.not_lt_zero _),by omega⟩
theorem _dV {a b c:Expr} {ta:TA} {p:Pos} (hg:Gl X "range") (hm:X.mg "range"=none) (ha:PA X [a,b,c] ta) (hs:starEach [a,b,c] X.env=[(false,eval a X.env),(false,eval b X.env),(false,eval c X.env)]:=by rfl) (hs2:starEach [b,c] X.env=[(false,eval b X.env),(false,eval c X.env)]:=by rfl) :
  PI X tg (.Call (.Name "range" p) [a,b,c] [] pos) (_hK ta):=by
 intro pins s σ H R I h;refine Call_ (Up I hg hm boot_range (GS (_p (ha pos pins s σ H _ I h) fun us s1 ⟨vs,H1,I1,r1,q1⟩=>?_) (by rw [hs,hs2]) (by rw [hs2];rfl)));obtain ⟨i,j,c,e,hb,q⟩:=q1;subst e;obtain ⟨n,hn,h1,h2⟩:=_oW hb;have q:=q n h1 h2;cases r1 with
 |cons r rr =>
 cases rr with
 |cons r' rr =>
 cases rr with
 |cons r2 rr =>
 cases rr;obtain ⟨t,rfl⟩:=r;obtain ⟨t',rfl⟩:=r';obtain ⟨t2,rfl⟩:=r2
 have sm:Builtin.Range.small i j (c:Int)=true:=by
  unfold Builtin.Range.small;rw [hn];have cp:(c:Int) > 0:=by omega
  simp only [Builtin.Range.rangeFitsLong,Rl,RM,Gk,RH,Qb cp];omega
 refine call_range_3 (by omega) ?_ (.inl (PyProof.noPylong_small (by omega)));refine wpAny_pyIter_range (IsRange.new ..) sm ?_;have I2:=I1.kept (h':=s1.heap.push { cls:=.type "range",data:=.fields #[.int i t,.int j t',.int (c:Int) t2] }) (t':=s1.toks) fun b o e=>Qq _ e;refine ⟨_,[_],_,_,H1,rfl,I2.kept (t':=s1.toks) fun b o e=>Qq _ e,_jp _ i c n,?_,fun b hb=>?_,q⟩
 ·show IsRangeIter _ _ (i+((0:Nat):Int)*(c:Int)) ((n:Int)-((0:Nat):Int)) c;rw [show i+((0:Nat):Int)*(c:Int)=i by simp,show (n:Int)-((0:Nat):Int)=(n:Int) by simp,←hn];exact Qw _ rfl
 ·obtain rfl:=QQ.mp hb;exact I2.fpOk (Qe _) (I2.hok.fresh (Qe _))
theorem _nk {lo:Int} {c n:Nat} {g:TG} {tb:TS} {D:Ends} {σ:St} {H:Hp} (Pv:Nat->St->Hp->Prop) (h0:Pv 0 σ H)
 (hs:∀i σ H,i<n->Pv i σ H->g (.int (lo+i*c)) σ H fun σ2 H2=>tb { D with nx:=Pv (i+1),ct:=Pv (i+1),bk:=D.nx } σ2 H2) (hd:∀σ H,Pv n σ H->D.nx σ H) :
  ∃W:Nat->Nat->St->Hp->Prop,(∃m,W 0 m σ H)∧∀i m σ H,W i m σ H →
   ((UR lo c n).stop i H∧D.nx σ H)∨((UR lo c n).go i H∧∃N:St->Hp->Prop,(∀σ' H',N σ' H'->∃m',m'<m∧W (i+1) m' σ' H')∧∀x H',(UR lo c n).yld i H x H'->g x σ H' fun σ2 H2=>tb { D with nx:=N,ct:=N,bk:=D.nx } σ2 H2):=by
 refine ⟨fun i m σ H=>m=n-i∧i≤n∧Pv i σ H,⟨n,by simp,QM _,h0⟩,?_⟩;rintro i m σ H ⟨rfl,hi,p⟩;by_cases hlt:i<n
 ·refine .inr ⟨hlt,Pv (i+1),fun σ' H' p'=>⟨n-(i+1),by omega,rfl,hlt,p'⟩,fun x H' y=>?_⟩;obtain ⟨e,y⟩:=y;subst e y;exact hs i σ _ hlt p
 ·have e:i=n:=by omega
  subst e;exact .inl ⟨Qe _,hd σ H p⟩
end
section
variable {k1 k2 k3:Nat} {f1 C1 f2 C2 f3 C3:Addr} {fd1 fd2 fd3:FuncData} {ps1 ps2 ps3:List Str} {sp1 sp2 sp3:Sp} {E:XS} {m:Str} {apos:Pos} {o:Expr} {es:List Expr} {ta:TE} {t:TA}
@[irreducible] noncomputable def V9 (C1 C2 C3:Addr) (m:Str) (sp1 sp2 sp3:Sp) (E:XS) (ta:TE) (t:TA):TE:=fun σ H Q=>ta σ H fun x H1=>∃a dx fs,x=.ref a∧fs.lookup m=none ∧
 ((H1 a=some (.ins C1 dx fs)∧t σ H1 fun vs H2=>sp1 (x::(vs++[])) H2 Q (E σ))∨(H1 a=some (.ins C2 dx fs)∧t σ H1 fun vs H2=>sp2 (x::(vs++[])) H2 Q (E σ))∨(H1 a=some (.ins C3 dx fs)∧t σ H1 fun vs H2=>sp3 (x::(vs++[])) H2 Q (E σ)))
theorem _dS {pl:Sem Bool} (he:PE X o ta) (c1:Cls X.K C1) (hm1:Meth X.K C1 m f1) (F1:FnOk X.prog X.w X.K X.mg X.base CX k1 f1 fd1 ps1 sp1) (hr1:Room k1 X.A) (hb1:Binds X.K fd1 ps1 [])
 (c2:Cls X.K C2) (hm2:Meth X.K C2 m f2) (F2:FnOk X.prog X.w X.K X.mg X.base CX k2 f2 fd2 ps2 sp2) (hr2:Room k2 X.A) (hb2:Binds X.K fd2 ps2 [])
 (c3:Cls X.K C3) (hm3:Meth X.K C3 m f3) (F3:FnOk X.prog X.w X.K X.mg X.base CX k3 f3 fd3 ps3 sp3) (hr3:Room k3 X.A) (hb3:Binds X.K fd3 ps3 []) (hx:WM CX X E) (ha:PA X (e::es) t)
 (hst:starEach (e::es) X.env=(false,eval e X.env)::starEach es X.env:=by rfl) (hpl:(backTo pos (starEach es X.env)).any (·.1)=false:=by rfl)
 (ht:eval (.Call (.Attribute o m apos) (e::es) [] pos) X.env=(do
 let ov ←eval o X.env
 standAt apos.atName
 let (f,first) ←holding [ov] (getMethod ov m pl)
 callWith pos f first (backTo pos (starEach (e::es) X.env)) (backToKw pos (keywordEach [] X.env))):=by rfl) :
  PE X (.Call (.Attribute o m apos) (e::es) [] pos) (V9 C1 C2 C3 m sp1 sp2 sp3 E ta t):=by
 unfold V9;intro pins s σ H Q I h;refine W.methodCall_KW (pl:=pl) (_p (he pins s σ H _ I h) fun u s1 ⟨x,H1,I1,rx,a,dx,fs,ex,l,q⟩=>?_) ht;subst ex;obtain rfl:u=Value.ref a:=rx;rcases q with ⟨ea,q⟩|⟨ea,q⟩|⟨ea,q⟩
 ·refine UZ I1 ea c1 hm1 l (RY (first:=[.ref a]) (h₀:=X.base) I.ok.mod.kin hm1.kp (_p (ha pos pins s1 σ H1 _ I1 q) fun us s2 ⟨vs,H2,I2,r,q2⟩=>⟨I2.kIn,?_⟩) hst hpl);exact V7 (us:=.ref a::us) (vs:=.ref a::vs) F1 hr1 hb1 .nil hx I2 (.cons rfl r) q2
 ·refine UZ I1 ea c2 hm2 l (RY (first:=[.ref a]) (h₀:=X.base) I.ok.mod.kin hm2.kp (_p (ha pos pins s1 σ H1 _ I1 q) fun us s2 ⟨vs,H2,I2,r,q2⟩=>⟨I2.kIn,?_⟩) hst hpl);exact V7 (us:=.ref a::us) (vs:=.ref a::vs) F2 hr2 hb2 .nil hx I2 (.cons rfl r) q2
 ·refine UZ I1 ea c3 hm3 l (RY (first:=[.ref a]) (h₀:=X.base) I.ok.mod.kin hm3.kp (_p (ha pos pins s1 σ H1 _ I1 q) fun us s2 ⟨vs,H2,I2,r,q2⟩=>⟨I2.kIn,?_⟩) hst hpl);exact V7 (us:=.ref a::us) (vs:=.ref a::vs) F3 hr3 hb3 .nil hx I2 (.cons rfl r) q2
end
section
variable {prog:Program} {w:World} {A:Around} {E:Value->Shared->Prop} {s:Shared}
end
section
variable {A:Around} {s:Shared}
end
noncomputable abbrev Y2:=List (Str×Addr×List Str)
noncomputable def YC (rs:Y2):List (_k×V):=rs.map fun r=>(.inr r.1,.ref r.2.1)
noncomputable def US (rs:Y2):List (Str×List Str):=rs.map fun r=>(r.1,r.2.2)
theorem _aZ (hu:X.A.units+64<cLine):Yi X (compareOp .NotEq) (fun x y H Q=>∃a b,∃zs:List Str,x=.ref a∧y=.ref b∧SqL X.K H a (zs.map V.str)∧SqL X.K H b (zs.map V.str)∧Q (.bl false) H):=by
 intro pins s σ H x y v u Q I rx ry ⟨a,b,zs,ex,ey,ha,hb,q⟩;subst ex ey;cases (show v=Value.ref a from rx);cases (show u=Value.ref b from ry);obtain ⟨its,rv,z,_⟩:=I.list ha;obtain ⟨its2,rv2,z2,_⟩:=I.list hb;have e1:=rv.length;have e2:=rv2.length;rw [Qc] at e1 e2
 have g:=SeqAt.RcNeAt.lists (A:=X.A) (e:=fun _=>true) z.isList z2.isList (by simp only [Qy,←e1,←e2]) (by omega) fun j h1 h2=>by
  have j1:j<zs.length:=by rw [Qy,←e1] at h1;exact h1
  have k:(zs.map V.str)[j]?=some (.str zs[j]):=by rw [Qi,Qu j1];rfl
  obtain ⟨u1,hu1,r1⟩:=rv.get k;obtain ⟨u2,hu2,r2⟩:=rv2.get k;obtain ⟨_,w1⟩:=QB.mp hu1;obtain ⟨_,w2⟩:=QB.mp hu2;have g:=_f0 (A:=X.A.in1) (s:=s) r1 r2 rfl rfl;rw [show Yw (.str zs[j]) (.str zs[j])=true by simp [Yw]] at g;simpa [w1,w2] using g
 rw [show (List.range its.toArray.size).all (fun _=>true)=true by simp] at g;exact g _ _ _ _ ⟨.bl _,H,I,rfl,q⟩
theorem _mG {P:Program} {w:World} {K:W.Frag} {mg:Str->Option Value} {base:Heap} {k:Nat} {f:Addr} {fd:FuncData} {ps:List Str}:FnOk P w K mg base CX k f fd ps (fun _ _ _ _=>False):=⟨fun _ _ _ _ h=>h.elim,fun _ _ _ _ _ _ _ _ _ _ _ _ _ h=>h.elim⟩
noncomputable def _kk (td ty tx:TE):TE:=fun σ H Q=>td σ H fun x H1=>∃a,x=.ref a∧IsD H1 a∧ty σ H1 fun y H2=>tx σ H2 fun z H3=>∃kvs k v,H3 a=some (.dK kvs)∧y=kV k∧_y kvs k=some v∧Q v H3
section
variable {o f:Expr} {apos cpos:Pos} {td ty tx:TE}
theorem _gB (ho:PE X o td) (he:PE X e ty) (hf:PE X f tx) (m:M2 X o "setdefault" apos e f cpos):PE X (.Call (.Attribute o "setdefault" apos) [e,f] [] cpos) (_kk td ty tx):=by
 intro pins s σ H Q I h;refine NB m.base m.few m.line G3 Nd N5 (_p (ho pins s σ H _ I h) fun u s1 ⟨x,H1,I1,rx,a,ex,d,q1⟩=>?_);subst ex;obtain rfl:u=Value.ref a:=rx;obtain ⟨t1,t2,_⟩:=_b2 I1 d;refine ⟨t1,t2,?_⟩;rw [m.trees]
 refine Gz rfl (G0 (RU (_p (he pins s1 σ H1 _ I1 q1) fun iv s2 ⟨y,H2,I2,ry,q2⟩ =>
  RU (_p (hf pins s2 σ H2 _ I2 q2) fun fv s3 ⟨z,H3,I3,rz,kvs,k,v,ea,ey,hv,q3⟩=>GW ?_))))
 subst ey;obtain ⟨hz,hS,vs,rel,dd⟩:=UU I3.hok ea;have hr:=rel.val k;rw [hv] at hr;refine Ga Nd dd.typeIs N3 (N4 _ _ _) (kt_meets_setdefault (Yt X.prog X.w) (k:=k) a (Vt ry) hS fv) ⟨vs,dd,by rw [←rel.length];exact hz,fun w' e=>?_,fun e=>?_⟩
 ·rw [e] at hr;exact ⟨v,H3,I3.tok _,hr,q3⟩
 ·rw [e] at hr;cases hr
end
end L2
namespace L2
open PySem PySem.Spec PyProof.Rows PySem.W PySem.SeqAt
variable {X:Cx}
section
variable {prog:Program} {w:World} {A:Around} {E:Value->Shared->Prop} {s:Shared}
end
section
variable {prog:Program} {w:World} {A:Around} {E:Value->Shared->Prop} {s:Shared}
variable {h₀:Heap} {L:Addr} {m:Str->Option Value} {news:List (Addr×Obj)} {b:Bool} {Q:Value->Shared->Prop}
end
section
variable {e:Expr} {te:TE} {p pos kp lpos p1 p2 p3 p4:Pos} {x o q fl:Str} {params:Arguments} {scope:Scope} {c P cc:Addr} {i:Nat}
end
end L2
namespace L2
open PySem PySem.Spec PyProof.Rows
section
variable {X:Cx}
open Classical in
end
end L2
namespace L2
open PySem PySem.Spec PyProof.Rows
section
variable {X:Cx}
end
end L2
namespace L2
open PySem
noncomputable def _is:TS:=fun _ _ _=>False
theorem XI {X:Cx} {st:Stmt}:PS X st _is:=fun _ _ _ _ _ _ h=>h.elim
end L2
namespace L2
open PySem PySem.Spec PyProof.Rows
variable {ps:List Str} {st:Stmt} {K:W.Frag}
section
variable {X:Cx} {P:Program} {w:World} {k n:Nat} {C:Addr} {x m q:Str} {sp:Sp} {p pos apos:Pos} {e o:Expr} {es:List Expr} {ta:TE} {t:TA}
theorem _Q {d:Df X.K X.mg x st ps} (F:FnOk X.prog X.w X.K X.mg X.base (Xd P w) k d.a (Y5 X.K d.a) ps sp) (hr:Room n X.A) (ha:PA X (e::es) t) (hn:k≤n:=by decide) (hg:Gl X x:=by rfl)
 (hdb:(x==("__debug__": Str))=false:=by decide) (he:starEach (e::es) X.env=(false,eval e X.env)::starEach es X.env:=by rfl) (hpl:(backTo pos (starEach es X.env)).any (·.1)=false:=by rfl) :
  PE X (.Call (.Name x p) (e::es) [] pos) (_ex sp [] (fun _=>E0) t):=_if F (hr.mono hn) hg d.m d.F.kp d.b .nil Xn ha hdb he hpl
theorem _4 {pl:Sem Bool} {d:Dm X.K C m q st ps} (he:PE X o ta) (c:Cls X.K C) (F:FnOk X.prog X.w X.K X.mg X.base (Xd P w) k d.a (Y5 X.K d.a) ps sp) (hr:Room n X.A) (ha:PA X (e::es) t) (hn:k≤n:=by decide)
 (hst:starEach (e::es) X.env=(false,eval e X.env)::starEach es X.env:=by rfl) (hpl:(backTo pos (starEach es X.env)).any (·.1)=false:=by rfl)
 (ht:eval (.Call (.Attribute o m apos) (e::es) [] pos) X.env=(do
 let ov ←eval o X.env
 standAt apos.atName
 let (f,first) ←holding [ov] (getMethod ov m pl)
 callWith pos f first (backTo pos (starEach (e::es) X.env)) (backToKw pos (keywordEach [] X.env))):=by rfl) :
  PE X (.Call (.Attribute o m apos) (e::es) [] pos) (_bW C m sp [] (fun _=>E0) ta t):=U8 he c d.me F (hr.mono hn) d.b .nil Xn ha hst hpl ht
end
theorem Fun.okY {P:Program} {w:World} {mg:Str->Option Value} {base:Heap} {CX:YA} {x qual:Str} {f:Addr} {fd:FuncData} {N:List Str} {k:Nat} {sp:Sp} (F:Fun K x qual st f fd) (S:FnScope N ps (_u st))
 (hbody:∀(cdv:Value) (A:Around) (outer:List Env) (s:Shared) (H:Hp) (vs:List V) (Q:VK) (E:XK),Room k (A.deeper (envOfC qual (_u st) s.heap.objs.size f cdv))->sp vs H Q E →
 ∃t,PSs (Vh CX P w K mg base N qual (_u st) f cdv A outer s H E) (Xj st) t∧t { nx:=fun _ H'=>Q .non H',rt:=Q } (start N vs) H):FnOk P w K mg base CX (k+1) f fd ps (fun vs H Q E=>vs.length=ps.length∧sp vs H Q E) :=
 F.okX S (fun _ _ _ _ h=>h.1) fun cdv A outer s H vs Q E hr h=>hbody cdv A outer s H vs Q E hr h.2
noncomputable abbrev OD (P:Program) (w:World) (base:Heap) {mg:Str->Option Value} {x:Str} (k:Nat) (d:Df K mg x st ps) (sp:Sp):Prop:=FnOk P w K mg base (Xd P w) k d.a (Y5 K d.a) ps sp
noncomputable abbrev OM (P:Program) (w:World) (base:Heap) (mg:Str->Option Value) {C:Addr} {x q:Str} (k:Nat) (d:Dm K C x q st ps) (sp:Sp):Prop:=FnOk P w K mg base (Xd P w) k d.a (Y5 K d.a) ps sp
theorem binds1_of {x qual:Str} {T:Addr} {o:Obj} {n:Nat} {kV doc pm cdv ct:Value} {an:Option Addr} (ho:K.lookup T=some o) (hs:o.data=.seq #[.none] n)
 {j:Nat} (hp:ps.length=j+1) (h:∀us:List Value,us.length=j->∃k:Option (Array Value)->Sem (List (Str×Value)),
 bindArgs (W.fnOf x qual (XY st) (Xj st) (_u st) (.ref T) kV doc pm an cdv ct) ⟨us,[]⟩=seqItems? (.ref T) >>= k∧k (some #[.none])=pure (ps.zip (us++[.none]))):Binds K (W.fnOf x qual (XY st) (Xj st) (_u st) (.ref T) kV doc pm an cdv ct) ps [.none]:=by
 intro s us hin hl;rw [Qx,hp] at hl;obtain ⟨k,h1,h2⟩:=h us (Nat.succ.inj hl);exact W.binds_K hin rfl ho hs h1 h2
end L2
namespace WayM
open PySem
noncomputable def steps:List Str:=["F","M","T","f","m","t","S","he","she"]
noncomputable def Stp (x:Str):Prop:=x∈steps
noncomputable instance (x:Str):Decidable (Stp x):=inferInstanceAs (Decidable (x∈steps))
end WayM
namespace TongM
open PySem WayM TextM TextG
variable {b:Bran} {rows:List Rw} {ws:List Str} {c:Nat}
theorem _bs {a b:Str} (h:a.cps.toList=b.cps.toList):a=b:=R0 (RA.mp h)
theorem sg_app (a b:Str):(a++b).cps.toList=a.cps.toList++b.cps.toList:=by rw [GI,GJ]
theorem U4 (a:Str):a.cps.toList.length=a.length:=by rw [QF];rfl
noncomputable def alpha:Str:="abcdefghijklmnopqrstuvwxyz"
noncomputable def XB (c:Nat):Bool:=!(Builtin.Str.occurrences alpha ⟨#[c]⟩ 0 alpha.length 1).isEmpty
theorem _pX (c:Nat):XB c=decide (c∈alpha.cps.toList):=StrLaws.found_one alpha c
theorem _k9:∀c∈alpha.cps.toList,97≤c∧c≤122:=by trivial
structure Nm (x:Str):Prop where
 lo:1≤x.length
 hi:x.length≤8
 all:∀c∈x.cps.toList,c∈alpha.cps.toList
theorem Nm.rng {x:Str} (h:Nm x) (hc:c∈x.cps.toList):97≤c∧c≤122:=_k9 c (h.all c hc)
noncomputable def isNm (x:Str):Bool:=decide (1≤x.length)&&decide (x.length≤8)&&x.cps.toList.all XB
theorem Nm.ok {x:Str} (h:Nm x):isNm x=true:=by
 unfold isNm;rw [Qr h.lo,Qr h.hi];rw [Ru.mpr fun c hc=>by rw [_pX];exact Qr (h.all c hc)];rfl
noncomputable def partsOf (c:Nat) (z:Str):List Str:=(splitL c z.cps.toList).map fun q=>(⟨q.toArray⟩:Str)
noncomputable def Vm:List Str:=["F","M","T","f","m","t","S"]
noncomputable def _dc:List Str:=["he","she"]
noncomputable def XC (x:Str):Bool:=decide (x∈Vm)
noncomputable def JU (x:Str):Bool:=decide (x∈_dc)
theorem _oK (x:Str):Stp x↔(XC x||JU x)=true:=by
 unfold Stp XC JU steps Vm _dc;simp [Gm]
noncomputable def marks:List Str:=["other","elder","younger"]
noncomputable def UE (ws:List Str) (s:Str):Bool:=XC s||JU s||(Txt.startswith s ":"&&decide (Txt.slice s (some 1) none∈ws))
noncomputable abbrev Bran:=List Str×Str
noncomputable abbrev Rw:=Str×List Bran
structure PartT (ws:List Str) (z:Str) (b:Bran):Prop where
 parts:partsOf 32 z=b.1++(if b.2="" then [] else [b.2])
 mark:b.2=""∨b.2∈marks
 lo:1≤b.1.length
 hi:b.1.length≤12
 ok:∀p∈b.1,UE ws p=true
noncomputable def bar:Str:=" | "
noncomputable def equ:Str:=" = "
noncomputable def col:Str:=":"
structure PartsT (ws:List Str) (z:Str) (bs:List Bran):Prop where
 len:(cutAt bar z).length=bs.length
 hi:bs.length≤8
 each:∀(i:Nat) (y:Str) (b:Bran),(cutAt bar z)[i]?=some y->bs[i]?=some b->PartT ws y b∧y.length≤1000
structure RowsT (z:Str) (rows:List Rw):Prop where
 len:(partsOf 10 z).length=rows.length
 hi:rows.length≤40
 each:∀(i:Nat) (y:Str) (r:Rw),(partsOf 10 z)[i]?=some y->rows[i]?=some r->y.length≤10000∧(Txt.partition y equ).1=r.1∧Nm r.1∧r.1∉(rows.take i).map (·.1)∧(Txt.partition y equ).2.2.length≤10000∧PartsT ((rows.take i).map (·.1)) (Txt.partition y equ).2.2 r.2
noncomputable def blank:Str:=⟨#[32]⟩
noncomputable def line:Str:=⟨#[10]⟩
noncomputable def lineOf (b:Bran):Str:=if b.2="" then blank.join b.1 else blank.join b.1++blank++b.2
noncomputable def rowTxt (r:Rw):Str:=r.1++equ++bar.join (r.2.map lineOf)
noncomputable def txt (rows:List Rw):Str:=line.join (rows.map rowTxt)
noncomputable def PieceOk (ws:List Str) (s:Str):Prop:=Stp s∨∃w∈ws,s=col++w
structure GoodB (ws:List Str) (b:Bran):Prop where
 lo:1≤b.1.length
 hi:b.1.length≤12
 mark:b.2=""∨b.2∈marks
 ok:∀p∈b.1,PieceOk ws p
structure GoodR (rows:List Rw):Prop where
 ne:rows≠[]
 hi:rows.length≤40
 nd:(rows.map (·.1)).Nodup
 nm:∀r∈rows,Nm r.1
 br:∀(i:Nat) (r:Rw),rows[i]?=some r->r.2≠[]∧r.2.length≤8∧∀b∈r.2,GoodB ((rows.take i).map (·.1)) b
theorem _bt {sep:Str} {c:Nat}:∀{l:List Str},c∈(sep.join l).cps.toList->c∈sep.cps.toList∨∃x∈l,c∈x.cps.toList
 |[],h=>by cases h
 |[p],h=>.inr ⟨p,by simp,h⟩
 |p::q::r,h=>by
  have h2:c∈(p++sep++sep.join (q::r)).cps.toList:=h;rw [sg_app,sg_app] at h2;rcases Qm.mp h2 with h3|h3
  ·rcases Qm.mp h3 with h4|h4
   ·exact .inr ⟨p,by simp,h4⟩
   ·exact .inl h4
  ·rcases _bt h3 with h4|⟨x,hx,h4⟩
   ·exact .inl h4
   ·exact .inr ⟨x,Qv _ hx,h4⟩
theorem JR {sep:Str} {n:Nat}:∀{l:List Str},(∀x∈l,x.length≤n)->(sep.join l).length≤l.length*(n+sep.length)
 |[],_=>QM _
 |[p],h=>by
  have:=h p (by simp);show p.length≤1*(n+sep.length);omega
 |p::q::r,h=>by
  have ih:=JR (sep:=sep) (n:=n) (l:=q::r) fun x hx=>h x (Qv _ hx);have:=h p (by simp);show (p++sep++sep.join (q::r)).length≤_;rw [Q9,Q9]
  have e:(p::q::r).length*(n+sep.length)=(q::r).length*(n+sep.length)+(n+sep.length):=by
   rw [QH,Nat.add_mul,Nat.one_mul]
  omega
theorem _ih {sep:Str} {x:Str} (hn:ws≠[]):sep.join (ws++[x])=sep.join ws++sep++x:=by
 induction ws with
 |nil=>exact absurd rfl hn
 |cons p ps ih =>
  cases ps with
  |nil=>rfl
  |cons q r =>
   show p++sep++sep.join ((q::r)++[x])=(p++sep++sep.join (q::r))++sep++x;rw [ih (by simp)];simp only [Str.append_assoc]
theorem _df (hc:c<256) (h:∀x∈ws,c∉x.cps.toList) (hn:ws≠[]):partsOf c ((⟨#[c]⟩:Str).join ws)=ws:=by
 obtain ⟨p,ps,rfl⟩:=N9 hn;unfold partsOf;rw [←split_one _ _ (kind_low hc)];exact _k5 (kind_low hc) fun q hq=>h q hq
theorem _lt {x:Str} (h:Stp x):∀c∈x.cps.toList,65≤c∧c≤122:=(show ∀x∈steps,∀c∈x.cps.toList,65≤c∧c≤122 by trivial) x h
theorem _kd {x:Str} (h:Stp x):x.length≤3:=(show ∀x∈steps,x.length≤3 by trivial) x h
theorem _pm {x:Str} (h:x∈marks):∀c∈x.cps.toList,65≤c∧c≤122:=(show ∀x∈marks,∀c∈x.cps.toList,65≤c∧c≤122 by trivial) x h
theorem _iU {x:Str} (h:x∈marks):x.length≤7:=(show ∀x∈marks,x.length≤7 by trivial) x h
theorem col_sg:col.cps.toList=[58]:=by trivial
theorem _mb (hw:∀w∈ws,Nm w) {s:Str} (h:PieceOk ws s):(∀c∈s.cps.toList,58≤c∧c≠61∧c≤122)∧s.length≤9:=by
 rcases h with h|⟨w,hm,rfl⟩
 ·refine ⟨fun c hc=>?_,?_⟩
  ·have:=_lt h c hc;omega
  ·have:=_kd h;omega
 ·have nw:=hw w hm;refine ⟨fun c hc=>?_,?_⟩
  ·rw [sg_app,col_sg] at hc;rcases Qm.mp hc with h1|h1
   ·have:c=58:=by simpa using h1
    omega
   ·have:=nw.rng h1;omega
  ·rw [Q9];have:=nw.hi;have:col.length=1:=by trivial
   omega
theorem slice_col (w:Str):Txt.slice (col++w) (some 1) none=w:=by
 have l:(col++w).length=1+w.length:=by rw [Q9];rfl
 have e:Txt.slice (col++w) (some 1) none=StrLaws.sliceText (col++w) (some ((1:Nat):Int)) (some (((1+w.length:Nat):Nat):Int)):=by
  show StrLaws.sliceText (col++w) (some 1) none=_;unfold StrLaws.sliceText;rw [StrLaws.sliceIdx_none_hi,l];rfl
 rw [e,StrLaws.sliceText_nat _ (by omega) (by omega)];refine _bs ?_;show ((col++w).cps.toList.drop 1).take _=_;rw [sg_app,col_sg];simp;rw [←U4,QN]
theorem starts_col (w:Str):Txt.startswith (col++w) ":"=true:=by
 unfold Txt.startswith;have l:(col++w).length=1+w.length:=by rw [Q9];rfl
 have l2:((":" : Str)).length=1:=by trivial
 rw [l,l2,Rl];refine ⟨Qr (by omega),?_⟩;rw [Ni,l2,sg_app,col_sg];have e:((":" : Str)).cps.toList=[58]:=by trivial
 rw [e];simp
theorem _ox {s:Str} (h:PieceOk ws s):UE ws s=true:=by
 unfold UE;rcases h with h|⟨w,hm,rfl⟩
 ·rw [(_oK s).mp h,Bool.true_or]
 ·rw [starts_col,slice_col,Qr hm];simp
theorem _fk (h:b.1≠[]):lineOf b=blank.join (b.1++(if b.2="" then [] else [b.2])):=by
 unfold lineOf;by_cases e:b.2=""
 ·rw [Qb e,Qb e,QC]
 ·rw [Qa e,Qa e,_ih h]
theorem good_mem (hw:∀w∈ws,Nm w) (g:GoodB ws b):∀x∈b.1++(if b.2="" then [] else [b.2]),(∀c∈x.cps.toList,58≤c∧c≠61∧c≤122)∧x.length≤9:=by
 intro x hx;rcases Qm.mp hx with h|h
 ·exact _mb hw (g.ok x h)
 ·by_cases e:b.2=""
  ·rw [Qb e] at h;cases h
  ·rw [Qa e] at h;have ex:x=b.2:=by simpa using h
   have hm:=g.mark.resolve_left e;rw [ex];refine ⟨fun c hc=>?_,?_⟩
   ·have:=_pm hm c hc;omega
   ·have:=_iU hm;omega
theorem _bZ (g:GoodB ws b):b.1≠[]:=fun e=>by have:=g.lo;rw [e] at this;exact absurd this (by decide)
theorem line_sg (hw:∀w∈ws,Nm w) (g:GoodB ws b):(∀c∈(lineOf b).cps.toList,c=32∨(58≤c∧c≠61∧c≤122))∧(lineOf b).length≤130:=by
 rw [_fk (_bZ g)];refine ⟨fun c hc=>?_,?_⟩
 ·rcases _bt hc with h|⟨x,hx,h⟩
  ·exact .inl (by simpa [blank] using h)
  ·exact .inr ((good_mem hw g x hx).1 c h)
 ·have h1:=JR (sep:=blank) (n:=9) fun x hx=>(good_mem hw g x hx).2;have h2:blank.length=1:=rfl
  have h3:(b.1++(if b.2="" then [] else [b.2])).length≤13:=by
   rw [Qx];have:=g.hi;split<;>simp<;>omega
  rw [h2] at h1;omega
theorem _mh (hw:∀w∈ws,Nm w) (g:GoodB ws b):PartT ws (lineOf b) b:=by
 refine ⟨?_,g.mark,g.lo,g.hi,fun p hp=>_ox (g.ok p hp)⟩;rw [_fk (_bZ g)];refine _df (by decide) (fun x hx hc=>?_) (by simp [_bZ g]);have:=(good_mem hw g x hx).1 32 hc;omega
theorem _cj:bar.cps.toList=[32,124,32]:=by trivial
theorem _b1:equ.cps.toList=[32,61,32]:=by trivial
structure GoodBs (ws:List Str) (bs:List Bran):Prop where
 ne:bs≠[]
 hi:bs.length≤8
 ok:∀b∈bs,GoodB ws b
theorem bars_sg {bs:List Bran} (hw:∀w∈ws,Nm w) (g:GoodBs ws bs):(∀c∈(bar.join (bs.map lineOf)).cps.toList,c=32∨(58≤c∧c≠61∧c≤124))∧(bar.join (bs.map lineOf)).length≤1064:=by
 refine ⟨fun c hc=>?_,?_⟩
 ·rcases _bt hc with h|⟨x,hx,h⟩
  ·rw [_cj] at h;simp at h;omega
  ·obtain ⟨b,hb,rfl⟩:=Qf.mp hx;have:=(line_sg hw (g.ok b hb)).1 c h;omega
 ·have h1:=JR (sep:=bar) (n:=130) (l:=bs.map lineOf) fun x hx=>by
   obtain ⟨b,hb,rfl⟩:=Qf.mp hx;exact (line_sg hw (g.ok b hb)).2
  have h2:bar.length=3:=by trivial
  rw [h2,Qc] at h1;have:=g.hi;omega
theorem _lI {bs:List Bran} (hw:∀w∈ws,Nm w) (g:GoodBs ws bs):PartsT ws (bar.join (bs.map lineOf)) bs:=by
 obtain ⟨b0,bs0,rfl⟩:=N9 g.ne
 have e:cutAt bar (bar.join ((b0::bs0).map lineOf))=(b0::bs0).map lineOf:=by
  rw [Qs];refine _p7 _cj (by decide) fun q hq hc=>?_;rw [←Qs] at hq;obtain ⟨b,hb,rfl⟩:=Qf.mp hq;have:=(line_sg hw (g.ok b hb)).1 124 hc;omega
 refine ⟨by rw [e,Qc],g.hi,fun i y b hy hb=>?_⟩;rw [e,Qi,hb] at hy;obtain rfl:lineOf b=y:=Ql hy;have gb:=g.ok b (Qt hb);have:=(line_sg hw gb).2;exact ⟨_mh hw gb,by omega⟩
theorem _hS {w y:Str} (hw:Nm w):(Txt.partition (w++equ++y) equ).1=w∧(Txt.partition (w++equ++y) equ).2.2=y:=by
 have hx:(w++equ++y).cps.toList=w.cps.toList++(equ.cps.toList++y.cps.toList):=by rw [sg_app,sg_app,NL]
 obtain ⟨u,hu⟩:=_oG _b1 (by decide) (fun h=>by have:=hw.rng h;omega) hx 1 (Qe _);unfold Txt.partition;rw [hu];simp only
 have hl:(w++equ++y).length=w.length+3+y.length:=by
  rw [Q9,Q9];rfl
 have hw2:=U4 w;refine ⟨_bs ?_,_bs ?_⟩
 ·rw [R1,hx,GH,Nat.sub_zero,List.take_left]
 ·have e3:equ.length=3:=by trivial
  rw [R1,hx,hl,e3,←List.drop_drop,List.drop_left,_b1];rw [show w.length+3+y.length-(w.cps.toList.length+3)=y.cps.toList.length by rw [U4,U4];omega];simp only [GB,GG,List.drop_succ_cons,GH,QN]
theorem good_ws (g:GoodR rows) (i:Nat):∀w∈(rows.take i).map (·.1),Nm w:=by
 intro w hw;obtain ⟨r,hr,rfl⟩:=Qf.mp hw;exact g.nm r (Q0 hr)
theorem row_sg (g:GoodR rows) {i:Nat} {r:Rw} (h:rows[i]?=some r):10∉(rowTxt r).cps.toList∧(rowTxt r).length≤1075:=by
 obtain ⟨b1,b2,b3⟩:=g.br i r h;have nm:=g.nm r (Qt h);have bs:=bars_sg (good_ws g i) ⟨b1,b2,b3⟩;unfold rowTxt;refine ⟨fun hc=>?_,?_⟩
 ·rw [sg_app,sg_app,_b1] at hc;rcases Qm.mp hc with h1|h1
  ·rcases Qm.mp h1 with h2|h2
   ·have:=nm.rng h2;omega
   ·simp at h2
  ·have:=bs.1 10 h1;omega
 ·rw [Q9,Q9];have e3:equ.length=3:=by trivial
  have:=nm.hi;have:=bs.2;omega
theorem txt_read (g:GoodR rows):RowsT (txt rows) rows∧(txt rows).length≤50000:=by
 have e:partsOf 10 (txt rows)=rows.map rowTxt:=by
  unfold txt line;refine _df (by decide) (fun x hx=>?_) (by simp [g.ne]);obtain ⟨r,hr,rfl⟩:=Qf.mp hx;obtain ⟨i,hi⟩:=Gd.mp hr;exact (row_sg g hi).1
 refine ⟨⟨by rw [e,Qc],g.hi,fun i y r hy hr=>?_⟩,?_⟩
 ·rw [e,Qi,hr] at hy;obtain rfl:rowTxt r=y:=Ql hy;have rs:=row_sg g hr;have nm:=g.nm r (Qt hr);have rp:=_hS (y:=bar.join (r.2.map lineOf)) nm;obtain ⟨b1,b2,b3⟩:=g.br i r hr;refine ⟨by omega,rp.1,nm,fun hm=>?_,?_,?_⟩
  ·obtain ⟨q,hq,eq⟩:=Qf.mp hm;obtain ⟨j,hj⟩:=Gd.mp hq
   have jl:j<i:=by
    have:=(QB.mp hj).1;rw [QU] at this;omega
   rw [Nu jl] at hj;have h1:(rows.map (·.1))[j]?=some r.1:=by rw [Qi,hj,←eq];rfl
   have h2:(rows.map (·.1))[i]?=some r.1:=by rw [Qi,hr];rfl
   have l1:=(QB.mp h1).1;have:=(NM l1 g.nd).mp (h1.trans h2.symm);omega
  ·show (Txt.partition (rowTxt r) equ).2.2.length≤_;unfold rowTxt;rw [rp.2];have:=(bars_sg (good_ws g i) ⟨b1,b2,b3⟩).2;omega
  ·show PartsT _ (Txt.partition (rowTxt r) equ).2.2 r.2;unfold rowTxt;rw [rp.2];exact _lI (good_ws g i) ⟨b1,b2,b3⟩
 ·have h1:=JR (sep:=line) (n:=1075) (l:=rows.map rowTxt) fun x hx=>by
   obtain ⟨r,hr,rfl⟩:=Qf.mp hx;obtain ⟨i,hi⟩:=Gd.mp hr;exact (row_sg g hi).2
  have h2:line.length=1:=rfl;rw [h2,Qc] at h1;have:=g.hi;unfold txt;omega
theorem pc_mark {p:Str} (h:UE ws p=true):p∉marks:=by
 intro hm;have h1:∀p∈marks,XC p=false∧JU p=false∧Txt.startswith p ":"=false:=by trivial
 obtain ⟨a,b,c⟩:=h1 p hm;unfold UE at h;rw [a,b,c] at h;exact absurd h (by simp)
theorem _az {c:Nat}:∀{l:List Nat} {q:List Nat},q∈splitL c l->q.length≤l.length
 |[],q,h=>by
  have:q=[]:=by simpa [splitL] using h
  subst this;exact Qe _
 |a::r,q,h=>by
  by_cases e:a=c
  ·subst e;rw [splitL_cons_eq] at h;rcases Qo.mp h with z|z
   ·subst z;exact QM _
   ·have:=_az z;rw [QH];omega
  ·obtain ⟨p,ps,e1⟩:=splitL_ne c r;rw [splitL_cons_ne e e1] at h;rcases Qo.mp h with z|z
   ·subst z;have:=_az (c:=c) (l:=r) (q:=p) (by rw [e1];simp);simp only [QH];omega
   ·have:=_az (c:=c) (l:=r) (q:=q) (by rw [e1];exact Qv _ z);rw [QH];omega
theorem part_len {z p:Str} (h:p∈partsOf c z):p.length≤z.length:=by
 unfold partsOf at h;obtain ⟨q,hq,rfl⟩:=Qf.mp h;have:=_az hq;rw [U4] at this;show q.toArray.size≤_;rw [Qy];exact this
end TongM
set_option exponentiation.threshold 3000
seal L2.PSs L2.PS L2.PE L2.PT L2.PW L2.PA L2.PG L2.PI L2.PO
namespace K35
open PySem L2
variable {C D a b bi dx li su ti z:Addr} {B B':Bk} {st:Bool} {ed ed':Ed} {e:Ent} {p:Ent×Addr} {o o':HO} {base:Heap} {H H' H0 H1:Hp} {d:Int} {ks:List (Ent×Addr)} {l:List (Int×Str)} {kvs:List (_k×V)} {S:List Addr} {es:List Ent} {ini rs:List Lr} {ps:List Pp} {ns pool ws xs zs:List Str} {rows:List TongM.Rw} {i:Nat} {P:Program} {σ:St} {f m n n' s u y:Str} {L:Str->List Str->Prop} {A:Str->Str->List Str} {c:Str×Str} {F:Str×Str->List Str} {v:V} {Q:VK} {tab:VM} {K:W.Frag}
noncomputable def _G (i:Nat):Stmt:=PySem.Challenge.pw_heirbook_k35_whole_table_row_by_row.main.body.getD i (.Pass ⟨0,0,0,0⟩)
noncomputable abbrev _eq:Stmt:=_G 12
noncomputable abbrev _ev:Stmt:=_G 15
noncomputable abbrev _gd:Stmt:=_G 16
noncomputable abbrev _fB:Stmt:=_G 17
noncomputable abbrev _fN:Stmt:=_G 18
noncomputable abbrev _g1:Stmt:=_G 19
noncomputable abbrev _dU:Stmt:=_G 21
noncomputable abbrev _dx:Stmt:=_G 22
noncomputable abbrev _ez:Stmt:=_G 23
noncomputable abbrev _cK:Stmt:=_G 24
noncomputable abbrev _eG:Stmt:=_G 25
noncomputable abbrev _d4:Stmt:=_G 26
noncomputable abbrev _dI:Stmt:=_G 27
noncomputable abbrev _e8:Stmt:=_G 31
noncomputable abbrev _gl:Stmt:=_G 54
noncomputable abbrev _ep:Stmt:=Yp (_G 55) 0
noncomputable abbrev _er:Stmt:=Yp (_G 55) 8
noncomputable abbrev _ga:Stmt:=Yp (_G 55) 11
noncomputable abbrev _hb:Stmt:=Yp (_G 55) 12
noncomputable abbrev _fT:Stmt:=Yp (_G 55) 4
noncomputable abbrev _fi:Stmt:=Yp (_G 55) 3
noncomputable abbrev _fJ:Stmt:=Yp (_G 55) 2
noncomputable abbrev _de:Stmt:=Yp (_G 55) 7
noncomputable abbrev _fQ:Stmt:=Yp (_G 55) 5
noncomputable abbrev _hc:Stmt:=Yp (_G 55) 16
noncomputable abbrev _cl:Stmt:=Yp (_G 55) 14
noncomputable abbrev _f6:Stmt:=Yp (_G 55) 6
noncomputable abbrev _dW:Stmt:=Yp (_G 55) 1
noncomputable abbrev _dY:Stmt:=Yp (_G 55) 10
noncomputable abbrev _fb:Stmt:=_G 32
noncomputable abbrev _gG:Stmt:=_G 34
noncomputable abbrev _gp:Stmt:=Yp (_G 37) 0
noncomputable abbrev _gS:Stmt:=Yp (_G 37) 1
noncomputable abbrev _eH:Stmt:=Yp (_G 38) 0
noncomputable abbrev _c1:Stmt:=Yp (_G 38) 1
noncomputable abbrev _e6:Stmt:=Yp (_G 39) 0
noncomputable abbrev _eL:Stmt:=Yp (_G 39) 1
noncomputable abbrev _ee:Stmt:=Yp (_G 36) 0
noncomputable abbrev _eT:Stmt:=_G 49
noncomputable abbrev _gQ:Stmt:=_G 45
noncomputable abbrev _gh:Stmt:=_G 46
noncomputable abbrev _gY:Stmt:=_G 47
noncomputable abbrev _cW:Stmt:=_G 48
noncomputable abbrev _g0:Stmt:=Yp (_G 50) 0
noncomputable abbrev _d9:Stmt:=Yp (_G 50) 8
noncomputable abbrev _fO:Stmt:=Yp (_G 50) 7
noncomputable abbrev _d7:Stmt:=Yp (_G 50) 6
noncomputable abbrev _fp:Stmt:=Yp (_G 50) 9
noncomputable abbrev _fl:Stmt:=_G 57
noncomputable abbrev _dO:Stmt:=_G 58
noncomputable abbrev _dd:Stmt:=_G 59
noncomputable abbrev _gP:Stmt:=_G 60
noncomputable abbrev _cO:Stmt:=_G 61
noncomputable abbrev _cB:Stmt:=_G 62
noncomputable abbrev _dn:Stmt:=_G 63
noncomputable abbrev _gR:Stmt:=_G 64
noncomputable abbrev _eS:Stmt:=_G 65
noncomputable abbrev _gx:Stmt:=_G 66
noncomputable abbrev _fZ:Stmt:=_G 67
noncomputable abbrev _dv:Stmt:=_G 68
noncomputable abbrev _cJ:Stmt:=_G 69
noncomputable abbrev _dT:Stmt:=_G 70
noncomputable abbrev _fG:Stmt:=_G 71
noncomputable abbrev _dP:Stmt:=_G 72
set_option genInjectivity false
set_option genSizeOf false
structure Tx (K:W.Frag) (w:World) (mg:Str->Option Value) where
 cB:Addr
 c_Tongue:Addr
 c_Piece:Addr
 c_Letter:Addr
 c_Test:Addr
 c_Said:Addr
 _hf:Df K mg "is_whole" _eq ["thing"]
 Y7:Df K mg "is_name" _ev ["thing"]
 XO:Df K mg "is_day" _gd ["thing"]
 W2:Df K mg "is_amount" _fB ["thing"]
 WZ:Df K mg "is_sort" _fN ["thing"]
 WD:Df K mg "is_parent" _g1 ["thing"]
 _d1:Df K mg "has_form" _dU ["parts","checks"]
 _cZ:Df K mg "is_entry" _dx ["thing"]
 _eR:Df K mg "is_tie" _ez ["entry"]
 _ew:Df K mg "named_in" _cK ["entry"]
 _hl:Df K mg "day_of" _eG ["entry"]
 _hm:Df K mg "as_told" _d4 ["entry"]
 _fW:Df K mg "key_of" _dI ["entry"]
 _gX:Df K mg "is_letter" _e8 ["thing"]
 _dF:Df K mg "pair_of" _gl ["one","other"]
 JP:Dm K cB "__init__" "Book.__init__" _ep ["self"]
 _fH:Dm K cB "birth_of" "Book.birth_of" _er ["self","name"]
 _fr:Dm K cB "sort_of" "Book.sort_of" _ga ["self","name"]
 _cs:Dm K cB "born_on" "Book.born_on" _hb ["self","name"]
 _cX:Dm K cB "parent_fits" "Book.parent_fits" _fT ["self","name","sort","day"]
 _g3:Dm K cB "fits" "Book.fits" _fi ["self","entry"]
 _gU:Dm K cB "refuse" "Book.refuse" _fJ ["self","entry"]
 _gO:Dm K cB "link" "Book.link" _de ["self","letter","begin","end"]
 _d8:Dm K cB "note_birth" "Book.note_birth" _fQ ["self","entry"]
 _dk:Dm K cB "step" "Book.step" _hc ["self","letter","name"]
 a_Book_stands:Addr
 fd_Book_stands:FuncData
 dt_Book_stands:Addr
 F_Book_stands:FunD K "stands" "Book.stands" _cl a_Book_stands fd_Book_stands (.ref dt_Book_stands)
 b_Book_stands:Binds K fd_Book_stands ["self","one","other","day"] [.none]
 _ek:Dm K cB "note_tie" "Book.note_tie" _f6 ["self","entry"]
 _dq:Dm K cB "put" "Book.put" _dW ["self","entry"]
 _aD:Dm K cB "people" "Book.people" _dY ["self"]
 _f8:Df K mg "is_test" _fb ["thing"]
 _gv:Df K mg "led_by_step" _gG ["book","step","name"]
 _ad:Dm K c_Letter "__init__" "Letter.__init__" _gp ["self","letter"]
 J5:Dm K c_Letter "leads_one" "Letter.leads_one" _gS ["self","book","table","name"]
 JX:Dm K c_Test "__init__" "Test.__init__" _eH ["self","sort"]
 _aA:Dm K c_Test "leads_one" "Test.leads_one" _c1 ["self","book","table","name"]
 _ax:Dm K c_Said "__init__" "Said.__init__" _e6 ["self","word"]
 _ay:Dm K c_Said "leads_one" "Said.leads_one" _eL ["self","book","table","name"]
 XE:Dm K c_Piece "leads" "Piece.leads" _ee ["self","book","table","names"]
 _em:Df K mg "keeps_mark" _eT ["book","mark","one","other"]
 _gF:Df K mg "read_piece" _gQ ["text","rows"]
 _c7:Df K mg "read_part" _gh ["text","rows"]
 _db:Df K mg "read_parts" _gY ["text","rows"]
 _c9:Df K mg "read_rows" _cW ["text"]
 JA:Dm K c_Tongue "__init__" "Tongue.__init__" _g0 ["self","text"]
 _fy:Dm K c_Tongue "led_by_piece" "Tongue.led_by_piece" _d9 ["self","book","table","piece","names"]
 _aH:Dm K c_Tongue "led_by_part" "Tongue.led_by_part" _fO ["self","book","table","part","name"]
 VG:Dm K c_Tongue "led" "Tongue.led" _d7 ["self","book","table","word","name"]
 _ak:Dm K c_Tongue "table" "Tongue.table" _fp ["self","book"]
 _cQ:Df K mg "_law_cell_at" _fl ["_law_script","_law_k"]
 _e9:Df K mg "_law_names" _dO ["_law_cell"]
 _fF:Df K mg "_law_day" _dd ["_law_cell","_law_k","_law_way"]
 _cu:Df K mg "_law_birth" _gP ["_law_people","_law_names_here","_law_cell","_law_day_here"]
 _fd:Df K mg "_law_deed" _cO ["_law_people","_law_known","_law_cell","_law_kind"]
 _dR:Df K mg "_law_entries" _cB ["_law_script","_law_start","_law_most"]
 _cD:Df K mg "_law_lead" _dn ["_law_edges_here","_law_letter","_law_low","_law_high"]
 _fo:Df K mg "_law_edges" _gR ["_law_entries_here"]
 _el:Df K mg "_law_words" _eS ["_law_cell"]
 _gu:Df K mg "_law_piece" _gx ["_law_rows_here","_law_cell"]
 _fa:Df K mg "_law_rows" _fZ ["_law_cells","_law_words_here"]
 _cg:Df K mg "_law_text" _dv ["_law_rows_here"]
 _cz:Df K mg "_law_reach" _cJ ["_law_edges_here","_law_table","_law_pieces","_law_name"]
 _eU:Df K mg "_law_marked" _dT ["_law_born","_law_mark","_law_name","_law_names_here"]
 _dG:Df K mg "_law_follows" _fG ["_law_edges_here","_law_table","_law_branches","_law_born","_law_word"]
 UC:Df K mg "law" _dP ["_law_script"]
 mB:mg "Book"=some (.ref cB)
 lB_:Cls K cB
 kB_:Mk K cB JP.a
 nBkept:NoAttr K cB "kept"
 nBbirths:NoAttr K cB "births"
 nBlinks:NoAttr K cB "links"
 nBties:NoAttr K cB "ties"
 nBsums:NoAttr K cB "sums"
 me_Book_stands:Meth K cB "stands" a_Book_stands
 m_Tongue:mg "Tongue"=some (.ref c_Tongue)
 cl_Tongue:Cls K c_Tongue
 mk_Tongue:Mk K c_Tongue JA.a
 na_Tongue_rows:NoAttr K c_Tongue "rows"
 na_Tongue_source:NoAttr K c_Tongue "source"
 m_Piece:mg "Piece"=some (.ref c_Piece)
 m_Letter:mg "Letter"=some (.ref c_Letter)
 cl_Letter:Cls K c_Letter
 mk_Letter:Mk K c_Letter _ad.a
 na_Letter_letter:NoAttr K c_Letter "letter"
 m_Test:mg "Test"=some (.ref c_Test)
 cl_Test:Cls K c_Test
 mk_Test:Mk K c_Test JX.a
 na_Test_wanted:NoAttr K c_Test "wanted"
 m_Said:mg "Said"=some (.ref c_Said)
 cl_Said:Cls K c_Said
 mk_Said:Mk K c_Said _ax.a
 na_Said_word:NoAttr K c_Said "word"
 n_abs:mg "abs"=none
 n_all:mg "all"=none
 n_bool:mg "bool"=none
 n_dict:mg "dict"=none
 n_int:mg "int"=none
 n_isinstance:mg "isinstance"=none
 n_len:mg "len"=none
 n_list:mg "list"=none
 n_max:mg "max"=none
 n_min:mg "min"=none
 n_range:mg "range"=none
 n_sorted:mg "sorted"=none
 n_str:mg "str"=none
 n_tuple:mg "tuple"=none
 n_zip:mg "zip"=none
 kii':W.kitOne K (.type "int") (.type "int")=some true
 kis':W.kitOne K (.type "int") (.type "str")=some false
 kit':W.kitOne K (.type "int") (.type "tuple")=some false
 kib':W.kitOne K (.type "int") (.type "bool")=some false
 ksi':W.kitOne K (.type "str") (.type "int")=some false
 kss':W.kitOne K (.type "str") (.type "str")=some true
 kst':W.kitOne K (.type "str") (.type "tuple")=some false
 kbi':W.kitOne K (.type "bool") (.type "int")=some true
 kbs':W.kitOne K (.type "bool") (.type "str")=some false
 kbt':W.kitOne K (.type "bool") (.type "tuple")=some false
 kbb':W.kitOne K (.type "bool") (.type "bool")=some true
 kni':W.kitOne K (.type "NoneType") (.type "int")=some false
 kns':W.kitOne K (.type "NoneType") (.type "str")=some false
 knt':W.kitOne K (.type "NoneType") (.type "tuple")=some false
 kti':W.kitOne K (.type "tuple") (.type "int")=some false
 kts':W.kitOne K (.type "tuple") (.type "str")=some false
 ktt':W.kitOne K (.type "tuple") (.type "tuple")=some true
 kli':W.kitOne K (.type "list") (.type "int")=some false
 kls':W.kitOne K (.type "list") (.type "str")=some false
 klt':W.kitOne K (.type "list") (.type "tuple")=some false
 kdi':W.kitOne K (.type "dict") (.type "int")=some false
 kds':W.kitOne K (.type "dict") (.type "str")=some false
 kdt':W.kitOne K (.type "dict") (.type "tuple")=some false
 kl_list:W.kitOne K (.type "list") (.type "list")=some true
 kl_dict:W.kitOne K (.type "dict") (.type "dict")=some true
 lm_Letter:W.findIn K (.ref c_Letter) "leads"=some (some (.ref XE.a))
 ci_Letter:W.findIn K (.ref c_Letter) "__class__"=some (some (.builtin "object.__class__"))
 mo_Letter:W.mroIn K c_Letter (.type "object")=some true
 kp_Letter:W.kitOne K (.ref c_Letter) (.ref c_Said)=some false
 lm_Test:W.findIn K (.ref c_Test) "leads"=some (some (.ref XE.a))
 ci_Test:W.findIn K (.ref c_Test) "__class__"=some (some (.builtin "object.__class__"))
 mo_Test:W.mroIn K c_Test (.type "object")=some true
 kp_Test:W.kitOne K (.ref c_Test) (.ref c_Said)=some false
 lm_Said:W.findIn K (.ref c_Said) "leads"=some (some (.ref XE.a))
 ci_Said:W.findIn K (.ref c_Said) "__class__"=some (some (.builtin "object.__class__"))
 mo_Said:W.mroIn K c_Said (.type "object")=some true
 kp_Said:W.kitOne K (.ref c_Said) (.ref c_Said)=some true
 cg:W.specialIn K (.builtin "object.__class__") "__get__"=some (some (.builtin "getset_descriptor.__get__"))
 ct:W.takesIn K (.builtin "object.__class__")=some true
 aF:Addr
 m_FORMS:mg "FORMS"=some (.ref aF)
 tkL:Tok
 m_LETTERS:mg "LETTERS"=some (.str "abcdefghijklmnopqrstuvwxyz" tkL)
 p0:Addr
 p1:Addr
 p2:Addr
 p3:Addr
 p4:Addr
 p5:Addr
 g0:Addr
 g1:Addr
 g2:Addr
 g3:Addr
 g4:Addr
 g5:Addr
 sF:∀H,SqT K H aF [.ref p0,.ref p1,.ref p2,.ref p3,.ref p4,.ref p5]
 sp0:∀H,SqT K H p0 [.str "born",.ref g0]
 sp1:∀H,SqT K H p1 [.str "taken",.ref g1]
 sp2:∀H,SqT K H p2 [.str "union",.ref g2]
 sp3:∀H,SqT K H p3 [.str "parted",.ref g3]
 sp4:∀H,SqT K H p4 [.str "dead",.ref g4]
 sp5:∀H,SqT K H p5 [.str "given",.ref g5]
 sg0:∀H,SqT K H g0 [.ref Y7.a,.ref WZ.a,.ref XO.a,.ref WD.a,.ref WD.a]
 sg1:∀H,SqT K H g1 [.ref Y7.a,.ref Y7.a,.ref XO.a]
 sg2:∀H,SqT K H g2 [.ref Y7.a,.ref Y7.a,.ref XO.a]
 sg3:∀H,SqT K H g3 [.ref Y7.a,.ref Y7.a,.ref XO.a]
 sg4:∀H,SqT K H g4 [.ref Y7.a,.ref XO.a]
 sg5:∀H,SqT K H g5 [.ref Y7.a,.ref Y7.a,.ref W2.a,.ref XO.a]
 a_STEP_LETTERS:Addr
 m_STEP_LETTERS:mg "STEP_LETTERS"=some (.ref a_STEP_LETTERS)
 _l3:∀H,SqT K H a_STEP_LETTERS [.str "F",.str "M",.str "T",.str "f",.str "m",.str "t",.str "S"]
 a_TESTS:Addr
 m_TESTS:mg "TESTS"=some (.ref a_TESTS)
 _lo:∀H,SqT K H a_TESTS [.str "he",.str "she"]
 a_MARKS:Addr
 m_MARKS:mg "MARKS"=some (.ref a_MARKS)
 _dX:∀H,SqT K H a_MARKS [.str "other",.str "elder",.str "younger"]
 t_MOST_ENTRIES:Tok
 m_MOST_ENTRIES:mg "MOST_ENTRIES"=some (.int 400 t_MOST_ENTRIES)
 t_MOST_PEOPLE:Tok
 m_MOST_PEOPLE:mg "MOST_PEOPLE"=some (.int 60 t_MOST_PEOPLE)
 t_MOST_ROWS:Tok
 m_MOST_ROWS:mg "MOST_ROWS"=some (.int 40 t_MOST_ROWS)
 t_MOST_PARTS:Tok
 m_MOST_PARTS:mg "MOST_PARTS"=some (.int 8 t_MOST_PARTS)
 t_MOST_PIECES:Tok
 m_MOST_PIECES:mg "MOST_PIECES"=some (.int 12 t_MOST_PIECES)
noncomputable def Jc (K:W.Frag):Sp:=fun vs H Q _=>∃(a:Addr) (ns:List Int),vs=[.ref a]∧SqL K H a (ns.map V.int)∧ns.length≤63∧∀H',Q (.bl true) H'
inductive Vk where
 |int (i:Int)|str (x:Str)|bl|non|tup|lst|dct
noncomputable def Vk.ty:Vk->Value
 |.int _=>.type "int"
 |.str _=>.type "str"
 |.bl=>.type "bool"
 |.non=>.type "NoneType"
 |.tup=>.type "tuple"
 |.lst=>.type "list"
 |.dct=>.type "dict"
noncomputable def Vk.isI:Vk->Bool
 |.int _=>true
 |_=>false
noncomputable def Vk.isB:Vk->Bool
 |.bl=>true
 |_=>false
noncomputable def Vk.isS:Vk->Bool
 |.str _=>true
 |_=>false
noncomputable def Vk.isT:Vk->Bool
 |.tup=>true
 |_=>false
noncomputable def Vw (K:W.Frag) (H:Hp) (v:V):Vk->Prop
 |.int i=>v=.int i
 |.str x=>v=.str x∧x.length≤100
 |k=>Kd K H v k.ty
section
variable {t:Vk}
theorem Vw.kd (h:Vw K H v t):Kd K H v t.ty:=by
 cases t with
 |int i=>cases (show v=.int i from h);exact .of (.int i)
 |str x=>cases (show v=.str x from h.1);exact .of (.str x)
 |_=>exact h
theorem Vw.mono (h:Vw K H v t) (e:Same H H'):Vw K H' v t:=by
 cases t with
 |int i=>exact h
 |str x=>exact h
 |_=>exact e.kd h
end
noncomputable def Vws (K:W.Frag) (H:Hp):List V->List Vk->Prop
 |[],[]=>True
 |x::xs,t::ts=>Vw K H x t∧Vws K H xs ts
 |_,_=>False
theorem Vws.length:∀{xs:List V} {ts:List Vk},Vws K H xs ts->xs.length=ts.length
 |[],[],_=>rfl
 |x::xs,t::ts,h=>by rw [QH,QH,Vws.length h.2]
theorem Vws.mono (e:Same H H'):∀{xs:List V} {ts:List Vk},Vws K H xs ts->Vws K H' xs ts
 |[],[],_=>True.intro
 |x::xs,t::ts,h=>⟨h.1.mono e,Vws.mono e h.2⟩
theorem Vws.get:∀{xs:List V} {ts:List Vk} {i:Nat} {t:Vk},Vws K H xs ts->ts[i]?=some t->∃x,xs[i]?=some x∧Vw K H x t
 |[],[],_,_,_,e=>by simp at e
 |x::xs,t::ts,0,t',h,e=>by
  cases (show some t=some t' by simpa using e);exact ⟨x,rfl,h.1⟩
 |x::xs,t::ts,i+1,t',h,e=>by
  obtain ⟨y,e1,e2⟩:=Vws.get (i:=i) h.2 (by simpa using e);exact ⟨y,by simpa using e1,e2⟩
noncomputable def Tv (K:W.Frag) (H:Hp) (v:V) (ts:List Vk):Prop:=∃a xs,v=.ref a∧SqT K H a xs∧Vws K H xs ts
noncomputable abbrev Vm:Str:="abcdefghijklmnopqrstuvwxyz"
noncomputable def XB (c:Nat):Bool:=!(Builtin.Str.occurrences Vm ⟨#[c]⟩ 0 Vm.length 1).isEmpty
noncomputable def WN:Vk->Bool
 |.str x=>decide (1≤x.length)&&decide (x.length≤8)&&x.cps.toList.all XB
 |_=>false
noncomputable def _a2:Vk->Bool
 |.int i=>decide ((if i<0 then -i else i)≤10 ^ 18)
 |_=>false
noncomputable def _ba:Vk->Bool
 |.int i=>decide (1≤i)&&decide (i≤10 ^ 18)
 |_=>false
noncomputable def Vp:Vk->Bool
 |.str x=>decide (x="he")||decide (x="she")||decide (x="")
 |_=>false
noncomputable def UJ (t:Vk):Bool:=WN t||match t with
 |.str x=>decide (x="")
 |_=>false
inductive Chk where
 |name|sort|day|amount|parent
noncomputable def Ud:Chk->Vk->Bool
 |.name=>WN
 |.sort=>Vp
 |.day=>_a2
 |.amount=>_ba
 |.parent=>UJ
noncomputable def Wo:List (Str×List Chk):=[("born",[.name,.sort,.day,.parent,.parent]),("taken",[.name,.name,.day]),("union",[.name,.name,.day]),("parted",[.name,.name,.day]),("dead",[.name,.day]),("given",[.name,.name,.amount,.day])]
noncomputable def Vl (w:Str):Option (List Chk):=(Wo.find? fun p=>decide (w=p.1)).map (·.2)
noncomputable def _S:List Chk->List Vk->List Bool
 |c::cs,t::ts=>Ud c t::_S cs ts
 |_,_=>[]
noncomputable def Wf (cs:List Chk) (ts:List Vk):Bool:=decide (ts.length=cs.length)&&(_S cs ts).all id
noncomputable def VW:List Vk->Bool
 |.str w::ts=>((Vl w).map fun cs=>Wf cs ts).getD false
 |_=>false
theorem _am (w:Str) (ts:List Vk):VW (.str w::ts)=((Vl w).map fun cs=>Wf cs ts).getD false:=rfl
structure Nm (x:Str):Prop where
 lo:1≤x.length
 hi:x.length≤8
 all:x.cps.toList.all XB=true
theorem Nm.ok {x:Str} (h:Nm x):WN (.str x)=true:=by
 show (decide (1≤x.length)&&decide (x.length≤8)&&x.cps.toList.all XB)=true;rw [Qr h.lo,Qr h.hi,h.all];rfl
section
variable {mg:Str->Option Value}
noncomputable def Tx.ad (T:Tx K w mg):Chk->Addr
 |.name=>T.Y7.a
 |.sort=>T.WZ.a
 |.day=>T.XO.a
 |.amount=>T.W2.a
 |.parent=>T.WD.a
theorem kI (T:Tx K w mg):∀t:Vk,W.kitOne K t.ty (.type "int")=some (t.isI||t.isB)
 |.int _=>T.kii'
 |.str _=>T.ksi'
 |.bl=>T.kbi'
 |.non=>T.kni'
 |.tup=>T.kti'
 |.lst=>T.kli'
 |.dct=>T.kdi'
theorem kS (T:Tx K w mg):∀t:Vk,W.kitOne K t.ty (.type "str")=some t.isS
 |.int _=>T.kis'
 |.str _=>T.kss'
 |.bl=>T.kbs'
 |.non=>T.kns'
 |.tup=>T.kts'
 |.lst=>T.kls'
 |.dct=>T.kds'
theorem kT (T:Tx K w mg):∀t:Vk,W.kitOne K t.ty (.type "tuple")=some t.isT
 |.int _=>T.kit'
 |.str _=>T.kst'
 |.bl=>T.kbt'
 |.non=>T.knt'
 |.tup=>T.ktt'
 |.lst=>T.klt'
 |.dct=>T.kdt'
end
theorem _c6 {X:Cx} {N:List Str} {sc:Scope} {L:List (Str×NameKind)} {ns:St} (hk:sc.kind=.function) (hn:∀x∈sc.names,x.2=.local->sc.names.lookup x.1=some .local) (hc:∀y∈sc.names,y.2≠.cell)
 (clos:closureFor sc X.env=pure []) (e:(relabel sc X.env).names=L) (hL:∀y∈L,y.2≠.cell∧y.2≠.free) (hl:ns.length=N.length) (hs:∀o∈ns,o=none):CompSc X N sc [] (fun _=>ns):=by
 have no:∀(x:Str),¬((relabel sc X.env).names.lookup x=some .cell∨(relabel sc X.env).names.lookup x=some .free):=fun x h=>by
  rw [e] at h
  have lk:∀(M:List (Str×NameKind)) (k:NameKind),M.lookup x=some k->∃y∈M,y.2=k:=fun M k=>by
   induction M with
   |nil=>intro h;cases h
   |cons p r ih =>
    intro h;rw [List.lookup_cons] at h;split at h
    ·exact ⟨p,QA ..,Ql h⟩
    ·obtain ⟨y,hy,q⟩:=ih h;exact ⟨y,Qv _ hy,q⟩
  rcases h with h|h
  ·obtain ⟨y,hy,q⟩:=lk _ _ h;exact (hL y hy).1 q
  ·obtain ⟨y,hy,q⟩:=lk _ _ h;exact (hL y hy).2 q
 refine ⟨hk,hn,hc,clos,(fun x c (h:([]:List (Str×Addr)).lookup x=some c)=>by cases h),fun x h=>absurd h (no x),fun _=>hl,fun σ i x v e1 e2=>?_⟩;have:=hs _ (Qt e2);cases this
theorem WO:(["sign"]:List Str).Nodup:=by trivial
theorem VT:(["check","part"]:List Str).Nodup:=by trivial
theorem _nD (z:Str):X4 (.str z) [.str "he",.str "she",.str ""]=Vp (.str z):=by
 unfold X4 Vp;rw [Rp];simp only [Rm,List.any_nil,Yw,Bool.or_false,RM,RH,Gk];constructor
 ·rintro (h|h|h)
  ·exact .inl (.inl h.symm)
  ·exact .inl (.inr h.symm)
  ·exact .inr h.symm
 ·rintro ((h|h)|h)
  ·exact .inl h.symm
  ·exact .inr (.inl h.symm)
  ·exact .inr (.inr h.symm)
theorem _a6 (x:Str):WN (.str x)=(decide (1≤x.length)&&decide (x.length≤8)&&x.cps.toList.all XB):=rfl
theorem _mF (i:Int):_ba (.int i)=(decide (1≤i)&&decide (i≤10 ^ 18)):=rfl
theorem _dE:∀{cs:List Chk} {ts:List Vk},ts.length=cs.length->(_S cs ts).length=cs.length
 |[],[],_=>rfl
 |c::cs,t::ts,h=>by
  show (_S cs ts).length+1=cs.length+1;rw [_dE (by simpa using h)]
theorem _jY:∀{cs:List Chk} {ts:List Vk} {i:Nat} {y:V},ts.length=cs.length->((_S cs ts).map V.bl)[i]?=some y->∃c t,cs[i]?=some c∧ts[i]?=some t∧y=.bl (Ud c t):=by
 intro cs
 induction cs with
 |nil =>
  intro ts i y h e;cases ts with
  |nil=>simp [_S] at e
  |cons t ts=>simp at h
 |cons c cs ih =>
  intro ts i y h e;cases ts with
  |nil=>simp at h
  |cons t ts =>
   cases i with
   |zero=>exact ⟨c,t,rfl,rfl,by simpa [_S] using e.symm⟩
   |succ i =>
    obtain ⟨c',t',e1,e2,e3⟩:=ih (ts:=ts) (i:=i) (y:=y) (by simpa using h) (by simpa [_S] using e);exact ⟨c',t',by simpa using e1,by simpa using e2,e3⟩
theorem _ct {α:Type} {f:α->Bool}:∀{l:List α} {i:Nat} {p:α},l[i]?=some p->(∀j,j<i->∀p',l[j]?=some p'->f p'=false)->f p=true->l.find? f=some p
 |x::l,0,p,e,_,h=>by
  have e':x=p:=by simpa using e
  subst e';rw [Rz,h]
 |x::l,i+1,p,e,b,h=>by
  rw [Rz,b 0 (by omega) x rfl];exact _ct (l:=l) (i:=i) (by simpa using e) (fun j hj p' e'=>b (j+1) (by omega) p' (by simpa using e')) h
theorem _pG {w:Str} {p:Str×List Chk} (e:Wo[i]?=some p) (b:∀j,j<i->∀p',Wo[j]?=some p'->w≠p'.1) (h:w=p.1):Vl w=some p.2:=by
 unfold Vl;rw [_ct e (fun j hj p' e'=>Qn (b j hj p' e')) (Qr h)];rfl
theorem _po {w:Str} (b:∀j,j<6->∀p',Wo[j]?=some p'->w≠p'.1):Vl w=none:=by
 unfold Vl;rw [Nk.mpr]
 ·rfl
 ·intro p hp;obtain ⟨j,hj,e⟩:=Gi hp;have:=b j hj p (by rw [←e];exact Qu hj);simpa using this
theorem _jw:∀p∈Wo,p.2.length≤10:=by trivial
theorem _jz {mg:Str->Option Value} (T:Tx K w mg) {p:Str×List Chk} (e:Wo[i]?=some p) :
  ∃P G,[V.ref T.p0,.ref T.p1,.ref T.p2,.ref T.p3,.ref T.p4,.ref T.p5][i]?=some (.ref P)∧(∀H,SqT K H P [.str p.1,.ref G])∧∀H,SqT K H G (p.2.map fun c=>.ref (T.ad c)):=by
 match i,e with
 |0,e=>cases e;exact ⟨_,_,rfl,T.sp0,T.sg0⟩
 |1,e=>cases e;exact ⟨_,_,rfl,T.sp1,T.sg1⟩
 |2,e=>cases e;exact ⟨_,_,rfl,T.sp2,T.sg2⟩
 |3,e=>cases e;exact ⟨_,_,rfl,T.sp3,T.sg3⟩
 |4,e=>cases e;exact ⟨_,_,rfl,T.sp4,T.sg4⟩
 |5,e=>cases e;exact ⟨_,_,rfl,T.sp5,T.sg5⟩
 |n+6,e=>cases e
theorem _lF (x:V) (xs:List V):VX (x::xs) (some 1) none=xs:=by
 unfold VX
 have e:HT.sIx (x::xs).length 0 (some 1)=1:=by
  show HT.sIx (x::xs).length 0 (some ((1:Nat):Int))=1;rw [HT.sIx_nat,QH];omega
 rw [e];show (xs.take ((x::xs).length-1))=xs;simp
theorem _bK (c:Int) {n:Int} (h:0<n):0≤c.fmod n:=QW c h
theorem _g6 (c:Int) {n:Int} (h:0<n):c.fmod n<n:=Q7 c h
theorem few {n:Nat} (h:Nat.ble n 1000=true):n≤sizeLine:=QS (small1000 (Ra h))
theorem _Z {b:Bool} {A B:Prop} (e:b=true) (h:A):if b=true then A else B:=by rw [Qb e];exact h
theorem _D {b:Bool} {A B:Prop} (e:b=false) (h:B):if b=true then A else B:=by rw [Qa (by rw [e];decide)];exact h
theorem _2 {b:Bool} {A B:Prop} (h1:b=true->A) (h2:b=false->B):if b=true then A else B:=by
 cases b with
 |true=>exact _1 (h1 rfl)
 |false=>exact _O (h2 rfl)
section
variable {xs ys:List V} {ts:List Vk}
theorem Jg {lo hi:Option Int} (ha:SqT K H a xs) (hn:¬(HT.sIx xs.length 0 lo=0∧HT.sIx xs.length xs.length hi=xs.length)) (h:∀H' p,Same H H'->SqT K H' p (VX xs lo hi)->Q (.ref p) H'):_e1 K (.ref a) lo hi H Q :=
 ⟨a,xs,rfl,ha,hn,fun p np=>h _ p (_j np) (.of _f)⟩
end
theorem at_i {xs:List V} {i:Int} {x:V} (h0:0≤i) (e:xs[i.toNat]?=some x):_6 xs i=some x:=by
 have:=YB e
 rwa [Int.toNat_of_nonneg h0] at this
theorem Xe {x:Str}:decide (V.str x=V.str y)=decide (x=y):=by
 rw [Rp];simp
inductive Ent where
 |born (n s:Str) (d:Int) (f m:Str)
 |taken (c t:Str) (d:Int)
 |union (a b:Str) (d:Int)
 |parted (a b:Str) (d:Int)
noncomputable def Ent.row:Ent->List _k
 |.born n s d f m=>[.inr "born",.inr n,.inr s,.inl d,.inr f,.inr m]
 |.taken c t d=>[.inr "taken",.inr c,.inr t,.inl d]
 |.union a b d=>[.inr "union",.inr a,.inr b,.inl d]
 |.parted a b d=>[.inr "parted",.inr a,.inr b,.inl d]
noncomputable def Ent.tie:Ent->Bool
 |.union ..=>true
 |.parted ..=>true
 |_=>false
noncomputable def Ent.named:Ent->List Str
 |.born _ _ _ f m=>[f,m].filter fun x:Str=>decide (x≠"")
 |.taken c t _=>[c,t]
 |.union a b _=>[a,b]
 |.parted a b _=>[a,b]
noncomputable def Ent.day:Ent->Int
 |.born _ _ d _ _=>d
 |.taken _ _ d=>d
 |.union _ _ d=>d
 |.parted _ _ d=>d
noncomputable def EntAt (K:W.Frag) (H:Hp) (v:V) (e:Ent):Prop:=∃a,v=.ref a∧SqT K H a (e.row.map kV)
theorem EntAt.mono (h:EntAt K H v e) (s:Same H H'):EntAt K H' v e:=by
 obtain ⟨a,rfl,q⟩:=h;exact ⟨a,rfl,s.sqt q⟩
theorem _l {r:List V} {j:Nat} {x:V} (h:r[j]?=some x):_6 r (j:Int)=some x:=YB h
noncomputable def Uw (x:Str):Option V:=if x="" then none else some (.str x)
theorem _di:∀l:List Str,(l.map Uw).filterMap id=(l.filter fun x:Str=>decide (x≠"")).map V.str
 |[]=>rfl
 |x::r=>by
  have ih:=_di r;by_cases h:x=""
  ·subst h;simp only [Qs,Q2,R4];simpa [Uw] using ih
  ·simp only [Qs,Q2,R4];simpa [Uw,h] using ih
theorem _N (s:Same H H1) (n:H1 D=none):H D=none:=by
 cases e:H D with
 |none=>rfl
 |some o=>rw [s D o e] at n;cases n
noncomputable def Ent.key:Ent->List _k
 |.born n _ _ _ _=>[.inr "born",.inr n]
 |.taken c t _=>[.inr "taken",.inr c,.inr t]
 |.union a b d=>[.inr "tie",.inr a,.inr b,.inl d]
 |.parted a b d=>[.inr "tie",.inr a,.inr b,.inl d]
noncomputable def Ent.bornName:Ent->Option Str
 |.born n _ _ _ _=>some n
 |_=>none
structure Bk where
 kept:List (Ent×Addr)
 links:List ((Str×Str)×Addr×List Str)
 ties:List ((Str×Str)×Addr×List (Int×Str))
 sums:List ((Str×Str)×Int)
noncomputable def _x (p:Str×Str):List _k:=[.inr p.1,.inr p.2]
noncomputable def Bk.keptD (B:Bk):List (List _k×V):=B.kept.map fun p=>(p.1.key,.ref p.2)
noncomputable def Bk.bornD (l:List (Ent×Addr)):List (_k×V):=l.filterMap fun p=>p.1.bornName.map fun n=>(.inr n,.ref p.2)
noncomputable def Bk.linksD (B:Bk):List (List _k×V):=B.links.map fun q=>(_x q.1,.ref q.2.1)
noncomputable def Bk.tiesD (B:Bk):List (List _k×V):=B.ties.map fun q=>(_x q.1,.ref q.2.1)
noncomputable def Bk.sumsD (B:Bk):List (List _k×V):=B.sums.map fun q=>(_x q.1,.int q.2)
noncomputable def W1 (k bi li ti su:Addr):List (Str×V):=[("kept",.ref k),("births",.ref bi),("links",.ref li),("ties",.ref ti),("sums",.ref su)]
structure BkAt (K:W.Frag) (C:Addr) (H:Hp) (b dx k bi li ti su:Addr) (B:Bk):Prop where
 ob:H b=some (.ins C dx (W1 k bi li ti su))
 ap:[k,li,ti,su].Nodup
 at':(bi::B.ties.map (·.2.1)).Nodup
 ke:H k=some (.dT B.keptD)
 bi:H bi=some (.dK (Bk.bornD B.kept))
 li:H li=some (.dT B.linksD)
 ti:H ti=some (.dT B.tiesD)
 su:H su=some (.dT B.sumsD)
 en:∀p∈B.kept,SqT K H p.2 (p.1.row.map kV)
 ll:∀q∈B.links,H q.2.1=some (.lst (q.2.2.map V.str))
 tt:∀q∈B.ties,H q.2.1=some (.dK (q.2.2.map fun r=>(.inl r.1,.str r.2)))
theorem BkAt.mono {k:Addr} (h:BkAt K C H b dx k bi li ti su B) (s:Same H H'):BkAt K C H' b dx k bi li ti su B :=
 ⟨s _ _ h.ob,h.ap,h.at',s _ _ h.ke,s _ _ h.bi,s _ _ h.li,s _ _ h.ti,s _ _ h.su,fun p hp=>s.sqt (h.en p hp),fun q hq=>s _ _ (h.ll q hq),fun q hq=>s _ _ (h.tt q hq)⟩
noncomputable def BkHas (K:W.Frag) (C:Addr) (H:Hp) (v:V) (B:Bk):Prop:=∃b dx k bi li ti su,v=.ref b∧BkAt K C H b dx k bi li ti su B
theorem BkHas.mono (h:BkHas K C H v B) (s:Same H H'):BkHas K C H' v B:=by
 obtain ⟨b,dx,k,bi,li,ti,su,e,h⟩:=h;exact ⟨b,dx,k,bi,li,ti,su,e,h.mono s⟩
noncomputable def _Y (n:Str):List (Ent×Addr)->Option (Ent×Addr)
 |[]=>none
 |p::r=>if p.1.bornName=some n then some p else _Y n r
theorem Vn {n:Str}:∀{l:List (Ent×Addr)} {p:Ent×Addr},_Y n l=some p->p∈l∧p.1.bornName=some n
 |[],_,h=>by cases h
 |q::r,p,h=>by
  unfold _Y at h;split at h
  ·cases h;exact ⟨QA ..,by assumption⟩
  ·obtain ⟨h1,h2⟩:=Vn h;exact ⟨Qv _ h1,h2⟩
theorem _bi (n:Str):∀l:List (Ent×Addr),_y (Bk.bornD l) (.inr n:_k)=(_Y n l).map fun p=>.ref p.2
 |[]=>rfl
 |p::r=>by
  have ih:=_bi n r;unfold Bk.bornD _Y;rw [Q2];cases h:p.1.bornName with
  |none =>
   simp only [Option.map_none];rw [Qa (by simp)];exact ih
  |some x =>
   simp only [Option.map_some];by_cases e:x=n
   ·subst e;rw [Xa rfl,Qb rfl];rfl
   ·rw [Y6 (fun q=>e (Ri q)),Qa (fun q=>e (Ql q))];exact ih
theorem _b6 {k:Addr}:(W1 k bi li ti su).lookup ("kept" : Str)=some (.ref k):=rfl
theorem U0 {k:Addr}:(W1 k bi li ti su).lookup ("births" : Str)=some (.ref bi):=rfl
theorem J6 {k:Addr}:(W1 k bi li ti su).lookup ("links" : Str)=some (.ref li):=rfl
theorem _cy {k:Addr}:(W1 k bi li ti su).lookup ("ties" : Str)=some (.ref ti):=rfl
noncomputable def J0 (B:Bk) (n:Str):Option (Str×Int):=match _Y n B.kept with
 |some (.born _ s d _ _,_)=>some (s,d)
 |_=>none
noncomputable def X8 (B:Bk) (n:Str):Str:=((J0 B n).map (·.1)).getD ""
noncomputable def _X (B:Bk) (n:Str):Int:=((J0 B n).map (·.2)).getD 0
theorem J7 (h:_Y n B.kept=some p) (e:p.1=.born n' s d f m):X8 B n=s:=by
 obtain ⟨e',a⟩:=p;cases e;unfold X8 J0;rw [h];rfl
theorem V2 (h:_Y n B.kept=some p) (e:p.1=.born n' s d f m):_X B n=d:=by
 obtain ⟨e',a⟩:=p;cases e;unfold _X J0;rw [h];rfl
noncomputable def XN (B:Bk) (n s:Str) (d:Int):Bool:=decide (n="")||(decide (X8 B n=s)&&decide (_X B n<d))
noncomputable def Known (B:Bk) (n:Str):Prop:=_Y n B.kept≠none
noncomputable def Wm (B:Bk) (e:Ent):Bool:=match e with
 |.born _ _ d f m=>XN B f "he" d&&XN B m "she" d
 |.taken c t d=>decide (c≠t)&&decide (_X B t<_X B c)&&e.named.all fun n=>decide (_X B n≤d)
 |.union a b d=>decide (a≠b)&&e.named.all fun n=>decide (_X B n≤d)
 |.parted a b d=>decide (a≠b)&&e.named.all fun n=>decide (_X B n≤d)
theorem Yr {a b:TS} {D:Ends} (J:St->Hp->Prop) (h1:∀nx,(∀σ H,J σ H->nx σ H)->a { D with nx:=nx } σ H) (h2:∀σ H,J σ H->b D σ H):_a8 a b D σ H:=h1 (b D) h2
noncomputable def Ent.isBorn:Ent->Bool
 |.born ..=>true
 |_=>false
noncomputable def Ent.same:Ent->Bool
 |.taken c t _=>decide (c=t)
 |.union a b _=>decide (a=b)
 |.parted a b _=>decide (a=b)
 |_=>false
noncomputable def Ent.early (B:Bk):Ent->Bool
 |.taken c t _=>decide (_X B c≤_X B t)
 |_=>false
theorem _aj (h:e.isBorn=false):Wm B e=(!e.same&&!e.early B&&e.named.all fun n=>decide (_X B n≤e.day)):=by
 cases e with
 |born=>cases h
 |taken c t d =>
  unfold Wm Ent.same Ent.early;have h1:decide (c≠t)=!decide (c=t):=by simp
  have h2:decide (_X B t<_X B c)=!decide (_X B c≤_X B t):=by
   rw [Rp];simp
  simp only [h1,h2];rfl
 |_ =>
  simp [Wm,Ent.same,Ent.early,Ent.day];rfl
theorem _pS {k:Addr}:_H "sums" (.ref su) (_H "ties" (.ref ti) (_H "links" (.ref li) (_H "births" (.ref bi) (_H "kept" (.ref k) []))))=W1 k bi li ti su:=by
 rfl
noncomputable def VL:Bk:=⟨[],[],[],[]⟩
theorem Jv {p:Addr} {fs:List (Str×V)} (f:Str) (o:HO) (h:H b=some (.ins C dx fs)) (n:H p=none) :
  (_b (_b H p o) b (.ins C dx (_H f (.ref p) fs))) b=some (.ins C dx (_H f (.ref p) fs))∧(_b (_b H p o) b (.ins C dx (_H f (.ref p) fs))) p=some o ∧
  (∀c u,H c=some u->c≠b->(_b (_b H p o) b (.ins C dx (_H f (.ref p) fs))) c=some u)∧∀c,(_b (_b H p o) b (.ins C dx (_H f (.ref p) fs))) c=none->H c=none:=by
 have pb:p≠b:=fun e=>by subst e;rw [h] at n;cases n
 refine ⟨_f,(_g pb).trans _f,fun c u e cb=>(_g cb).trans ((_g (_R e n)).trans e),fun c e=>?_⟩;by_cases cb:c=b
 ·subst cb;rw [_f] at e;cases e
 rw [_g cb] at e;by_cases cp:c=p
 ·subst cp;exact n
 rw [_g cp] at e;exact e
noncomputable def _K (c:Str×Str):List ((Str×Str)×Addr×List Str)->Option (Addr×List Str)
 |[]=>none
 |q::r=>if q.1=c then some q.2 else _K c r
theorem Vr {a b:Str×Str} (h:_x a=_x b):a=b:=by
 unfold _x at h;simp at h;exact RS h.1 h.2
theorem Vq (c:Str×Str):∀l:List ((Str×Str)×Addr×List Str),_y (l.map fun q=>(_x q.1,V.ref q.2.1)) (_x c)=(_K c l).map fun q=>.ref q.1
 |[]=>rfl
 |q::r=>by
  have ih:=Vq c r;unfold _K;rw [Qs];by_cases e:q.1=c
  ·subst e;rw [Xa rfl,Qb rfl];rfl
  ·rw [Y6 (fun z=>e (Vr z)),Qa e];exact ih
theorem _aV {c:Str×Str}:∀{l:List ((Str×Str)×Addr×List Str)} {x:Addr×List Str},_K c l=some x->∃q∈l,q.2=x
 |[],_,h=>by cases h
 |q::r,x,h=>by
  unfold _K at h;split at h
  ·cases h;exact ⟨q,QA ..,rfl⟩
  ·obtain ⟨z,hz,e⟩:=_aV h;exact ⟨z,Qv _ hz,e⟩
noncomputable def Yx (B:Bk) (l n:Str):List Str:=((_K (l,n) B.links).map (·.2)).getD []
noncomputable def Xg:List Str:=["F","M","T","f","m","t","S"]
noncomputable def XC (x:Str):Bool:=decide (x∈Xg)
theorem _aJ (x:Str):∀l:List Str,X4 (.str x) (l.map V.str)=decide (x∈l):=by
 intro l;unfold X4
 induction l with
 |nil=>rfl
 |cons y r ih =>
  rw [Qs,Rm,ih];by_cases h:x=y
  ·subst h;simp [Yw]
  ·simp [Yw,h,QY h]
theorem Jy {a b:Str} (h1:_P a b=false) (h2:_P b a=false):a=b:=by
 unfold _P at h1 h2
 have e:a.cps.toList=b.cps.toList:=by
  have l1:=Rg h1;have l2:=Rg h2;exact List.le_antisymm (List.not_lt.mp l2) (List.not_lt.mp l1)
 obtain ⟨a⟩:=a;obtain ⟨b⟩:=b;have e2:a=b:=RA.mp e;rw [e2]
noncomputable def _e (a b:Str):Str×Str:=if _P b a=true then (b,a) else (a,b)
theorem _dy {a b:Str} (hp:zs.Perm [a,b]) (hs:PyProof.Rows.sortedS zs=true):zs=[(_e a b).1,(_e a b).2]:=by
 have hl:=hp.length_eq
 match zs,hl with
 |[x,y],_ =>
  have hs2:_P y x=false:=by
   have h3:(!PySem.Spec.ltCps y.cps.toList x.cps.toList&&true)=true:=hs;rw [PyProof.Rows.ltCps_eq] at h3;simpa [_P] using h3
  have hm:x∈[a,b]:=hp.subset (by simp)
  have hp2:(x=a∧y=b)∨(x=b∧y=a):=by
   rcases Qo.mp hm with rfl|hm
   ·have:=hp.cons_inv;exact .inl ⟨rfl,by simpa using this⟩
   ·have e:x=b:=by simpa using hm
    subst e;have h4:[x,y].Perm [x,a]:=hp.trans (List.Perm.swap ..);have:=h4.cons_inv;exact .inr ⟨rfl,by simpa using this⟩
  unfold _e;rcases hp2 with ⟨rfl,rfl⟩|⟨rfl,rfl⟩
  ·rw [hs2];rfl
  ·by_cases h:_P x y=true
   ·rw [Qb h]
   ·rw [Qa h,Jy (QP.mpr h) hs2]
noncomputable def Ent.told:Ent->Ent
 |.union a b d=>.union (_e a b).1 (_e a b).2 d
 |.parted a b d=>.parted (_e a b).1 (_e a b).2 d
 |e=>e
theorem _be (a b:Str):(if _P b a=true then b else a)=(_e a b).1:=by
 unfold _e;by_cases h:_P b a=true
 ·rw [Qb h,Qb h]
 ·rw [Qa h,Qa h]
theorem _bk (a b:Str):(if _P a b=true then b else a)=(_e a b).2:=by
 unfold _e;by_cases h:_P b a=true
 ·rw [Qb h];by_cases h2:_P a b=true
  ·have l1:b.cps.toList<a.cps.toList:=QG h;have l2:a.cps.toList<b.cps.toList:=QG h2;exact absurd l1 (NN l2)
  ·rw [Qa h2]
 ·rw [Qa h];by_cases h2:_P a b=true
  ·rw [Qb h2]
  ·rw [Qa h2,Jy (QP.mpr h) (QP.mpr h2)]
noncomputable def UT:_k->Vk
 |.inl i=>.int i
 |.inr x=>.str x
theorem _bX {K:W.Frag} {H:Hp}:∀(l:List _k),(∀x:Str,(.inr x:_k)∈l->x.length≤100)->Vws K H (l.map kV) (l.map UT)
 |[],_=>trivial
 |.inl i::r,h=>⟨rfl,_bX r fun x hx=>h x (Qv _ hx)⟩
 |.inr y::r,h=>⟨⟨rfl,h y (QA ..)⟩,_bX r fun x hx=>h x (Qv _ hx)⟩
structure Ent.Ok (e:Ent):Prop where
 en:VW (e.row.map UT)=true
 sh:∀x:Str,(.inr x:_k)∈e.row->x.length≤100
theorem Ent.row_len (e:Ent):(e.row.map UT).length≤10:=by
 cases e<;>exact Ra rfl
theorem Ent.Ok.tv (h:e.Ok) (hE:SqT K H a (e.row.map kV)):Tv K H (.ref a) (e.row.map UT):=⟨a,_,rfl,hE,_bX _ h.sh⟩
inductive Rf where
 |full|person|twice|fit
noncomputable def Bk.full (B:Bk) (e:Ent):Bool:=decide (400≤B.kept.length)||(e.isBorn&&decide (60≤(Bk.bornD B.kept).length))
noncomputable def XX (B:Bk) (e:Ent):Option Rf :=
 if B.full e=true then some .full
 else if (e.named.all fun n=>(_Y n B.kept).isSome)=false then some .person
 else if (_y B.keptD e.told.key).isSome=true then some .twice
 else if Wm B e=true then none else some .fit
theorem _dN (kn:∀n∈e.named,Known B n):(e.named.all fun n=>(_Y n B.kept).isSome)=true:=by
 rw [Ru];intro n hn;have:=kn n hn;unfold Known at this;exact Ma.mpr this
theorem _kH (h:B.full e=false) (kn:∀n∈e.named,Known B n) (t:(_y B.keptD e.told.key).isSome=false) (f:Wm B e=true):XX B e=none:=by
 unfold XX;rw [h,Qa (by decide),_dN kn,Qa (by decide),t,Qa (by decide),f,Qb rfl]
theorem _gZ {a b c:Str} (h1:_P a b=true) (h2:_P b c=true):_P a c=true:=by
 unfold _P at *;exact Qr (List.lt_trans (QG h1) (QG h2))
theorem _mW (a:Str):_P a a=false:=by
 unfold _P;exact Qn (List.lt_irrefl _)
noncomputable def YI (a b:Str):Bool:=!_P b a
theorem _eo {a b c:Str} (h1:YI a b=true) (h2:YI b c=true):YI a c=true:=by
 unfold YI at *;simp only [Bool.not_eq_true'] at *;cases h:_P c a with
 |false=>rfl
 |true =>
  by_cases e:a=b
  ·subst e;rw [h] at h2;cases h2
  ·have hab:_P a b=true:=by
    cases h3:_P a b with
    |true=>rfl
    |false=>exact absurd (Jy h3 h1) e
   rw [_gZ h hab] at h2;cases h2
theorem _pq (a b:Str):(YI a b||YI b a)=true:=by
 unfold YI;cases h:_P b a with
 |false=>rfl
 |true =>
  cases h2:_P a b with
  |false=>rfl
  |true=>exact absurd (_gZ h2 h) (by rw [_mW a];decide)
noncomputable def _w (l:List Str):List Str:=l.mergeSort YI
theorem Y4 (l:List Str):(_w l).Perm l:=List.mergeSort_perm ..
theorem V6 (l:List Str):(_w l).Pairwise fun a b=>YI a b=true:=List.pairwise_mergeSort (le:=YI) (fun _ _ _=>_eo) _pq l
theorem Uj:∀{l:List Str},PyProof.Rows.sortedS l=true->l.Pairwise fun a b=>YI a b=true
 |[],_=>.nil
 |[x],_=>.cons (by simp) .nil
 |x::y::r,h=>by
  have h':(!PySem.Spec.ltCps y.cps.toList x.cps.toList&&PyProof.Rows.risingS y r)=true:=h;rw [Rl] at h';obtain ⟨h1,h2⟩:=h';have ih:=Uj (l:=y::r) h2
  have hxy:YI x y=true:=by
   rw [PyProof.Rows.ltCps_eq] at h1;exact h1
  refine .cons (fun z hz=>?_) ih;rcases Qo.mp hz with rfl|hz
  ·exact hxy
  ·exact _eo hxy (NO ih hz)
theorem UW:∀{l m:List Str},l.Perm m->(l.Pairwise fun a b=>YI a b=true)->(m.Pairwise fun a b=>YI a b=true)->l=m
 |[],m,p,_,_=>p.nil_eq
 |x::l,[],p,_,_=>absurd p.length_eq (by simp)
 |x::l,y::m,p,h1,h2=>by
  have e:x=y:=by
   by_cases e:x=y
   ·exact e
   have hx:x∈m:=by
    have:x∈y::m:=p.subset (QA ..);rcases Qo.mp this with h|h
    ·exact absurd h e
    ·exact h
   have hy:y∈l:=by
    have:y∈x::l:=p.symm.subset (QA ..);rcases Qo.mp this with h|h
    ·exact absurd h.symm e
    ·exact h
   have a1:=NO h1 hy;have a2:=NO h2 hx;unfold YI at a1 a2;simp only [Bool.not_eq_true'] at a1 a2;exact Jy a2 a1
  subst e;rw [UW p.cons_inv (List.pairwise_cons.mp h1).2 (List.pairwise_cons.mp h2).2]
theorem _aP {l:List Str} (hp:zs.Perm l) (hs:PyProof.Rows.sortedS zs=true):zs=_w l:=UW (hp.trans (Y4 l).symm) (Uj hs) (V6 l)
structure But (S:List Addr) (H H':Hp):Prop where
 eq:∀a o,a∉S->H a=some o->H' a=some o
 al:∀a,H' a=none->H a=none
theorem But.of (S:List Addr) (s:Same H H'):But S H H':=⟨fun a o _ e=>s a o e,fun a n=>_N s n⟩
theorem But.trans {H'':Hp} (h1:But S H H') (h2:But S H' H''):But S H H'':=⟨fun a o n e=>h2.eq a o n (h1.eq a o n e),fun a n=>h1.al a (h2.al a n)⟩
theorem But.put (e:H a=some o) (h:a∈S):But S H (_b H a o'):=by
 refine ⟨fun c u n q=>(_g (fun z:c=a=>n (by rw [z];exact h))).trans q,fun c n=>?_⟩;by_cases z:c=a
 ·subst z;rw [_f] at n;cases n
 ·rw [_g z] at n;exact n
noncomputable def _n {κ α:Type} [DecidableEq κ] (l:List (κ×α)) (c:κ) (x:α):List (κ×α) :=
 if (l.any fun q=>decide (q.1=c))=true then l.map (fun q=>if q.1=c then (q.1,x) else q) else l++[(c,x)]
theorem U9 {κ κ' α:Type} [DecidableEq κ] [DecidableEq κ'] {f:κ->κ'} (hf:∀a b,f a=f b->a=b) (g:α->V) (l:List (κ×α)) (c:κ) (x:α) :
  Yj (l.map fun q=>(f q.1,g q.2)) (f c) (g x)=(_n l c x).map fun q=>(f q.1,g q.2):=by
 have hd:∀a:κ,decide (f a=f c)=decide (a=c):=fun a=>by
  by_cases e:a=c
  ·subst e;simp
  ·rw [Qn e,Qn (fun z=>e (hf _ _ z))]
 unfold Yj _n
 have e1:((l.map fun q=>(f q.1,g q.2)).any fun kv=>decide (kv.1=f c))=l.any fun q=>decide (q.1=c):=by
  rw [List.any_map];exact Qk (fun z=>l.any z) (funext fun q=>hd q.1)
 rw [e1];by_cases h:(l.any fun q=>decide (q.1=c))=true
 ·rw [Qb h,Qb h,QJ,QJ];refine R5 fun q _=>?_;show (if f q.1=f c then (f q.1,g x) else (f q.1,g q.2))=(fun q=>(f q.1,g q.2)) (if q.1=c then (q.1,x) else q);by_cases e:q.1=c
  ·rw [Qb e,Qb (by rw [e])]
  ·rw [Qa e,Qa (fun z=>e (hf _ _ z))]
 ·rw [Qa h,Qa h,Qh];rfl
theorem UB {κ α:Type} [DecidableEq κ] {l:List (κ×α)} {c:κ} {x:α} {q:κ×α} (h:q∈_n l c x):q=(c,x)∨q∈l:=by
 unfold _n at h;split at h
 ·obtain ⟨p,hp,e⟩:=Qf.mp h;split at e
  ·rename_i pc;subst e;exact .inl (by rw [pc])
  ·subst e;exact .inr hp
 ·rcases Qm.mp h with h|h
  ·exact .inr h
  ·exact .inl (by simpa using h)
theorem _bT {k:Addr} (h:[k,li,ti,su].Nodup):k≠li∧k≠ti∧k≠su∧li≠ti∧li≠su∧ti≠su:=by
 simp at h;exact ⟨h.1.1,h.1.2.1,h.1.2.2,h.2.1.1,h.2.1.2,h.2.2⟩
theorem YV {c:Addr} {u:HO} (h1:H a=some o) (h2:H c=some u) (n:o≠u):a≠c:=fun e=>by
 subst e;rw [h1] at h2;exact n (Ql h2)
theorem YH {c:Addr} {xs:List V} (h:SqT K H a xs) (e:H c=some o) (no:∀ys,o≠.tup ys) (nf:∀x ys,o≠.frz x ys):SqT K (_b H c o') a xs:=by
 rcases h with h|h
 ·rcases h with h|⟨x,h⟩
  ·exact .inl (.inl ((_g (YV h e (fun z=>no _ z.symm))).trans h))
  ·exact .inl (.inr ⟨x,(_g (YV h e (fun z=>nf _ _ z.symm))).trans h⟩)
 ·exact .inr h
theorem BkAt.links {k:Addr} (h:BkAt K C H b dx k bi li ti su B) {l:List ((Str×Str)×Addr×List Str)}
 (hl:∀q∈l,H q.2.1=some (.lst (q.2.2.map V.str))):BkAt K C (_b H li (.dT (l.map fun q=>(_x q.1,V.ref q.2.1)))) b dx k bi li ti su { B with links:=l }:=by
 obtain ⟨n1,n2,n3,n4,n5,n6⟩:=_bT h.ap;have dk:∀{c:Addr} {z:List (_k×V)},H c=some (.dK z)->c≠li:=fun e=>YV e h.li (fun z=>by cases z)
 exact ⟨(_g (YV h.ob h.li (fun z=>by cases z))).trans h.ob,h.ap,h.at',(_g n1).trans h.ke,(_g (dk h.bi)).trans h.bi,_f,(_g n4.symm).trans h.ti,(_g n5.symm).trans h.su,
  fun p hp=>YH (h.en p hp) h.li (fun _ z=>by cases z) (fun _ _ z=>by cases z),fun q hq=>(_g (YV (hl q hq) h.li (fun z=>by cases z))).trans (hl q hq),fun q hq=>(_g (dk (h.tt q hq))).trans (h.tt q hq)⟩
noncomputable def lk (ls:List ((Str×Str)×Addr×List Str)) (c:Str×Str):List Str:=((_K c ls).map (·.2)).getD []
noncomputable def _0 (f:Str×Str->List Str) (c:Str×Str) (m:Str):Str×Str->List Str:=fun x=>if x=c then _w (f c++[m]) else f x
theorem _gM {c:Str×Str}:∀{l:List ((Str×Str)×Addr×List Str)},(l.any fun q=>decide (q.1=c))=false->_K c l=none
 |[],_=>rfl
 |q::r,h=>by
  rw [Rm,Bool.or_eq_false_iff] at h;unfold _K;rw [Qa (Rg h.1)];exact _gM h.2
theorem _br {c:Str×Str}:∀{l m:List ((Str×Str)×Addr×List Str)},_K c (l++m)=(_K c l).or (_K c m)
 |[],m=>by simp [_K]
 |q::r,m=>by
  show (if q.1=c then some q.2 else _K c (r++m))=(if q.1=c then some q.2 else _K c r).or (_K c m);by_cases e:q.1=c
  ·rw [Qb e,Qb e];rfl
  ·rw [Qa e,Qa e];exact _br
theorem _ea {c d:Str×Str} {x:Addr×List Str}:∀{l:List ((Str×Str)×Addr×List Str)},_K d (l.map fun q=>if q.1=c then (q.1,x) else q)=if d=c then (_K c l).map (fun _=>x) else _K d l
 |[]=>by by_cases e:d=c<;>simp [_K,e]
 |q::r=>by
  have ih:=_ea (c:=c) (d:=d) (x:=x) (l:=r);rw [Qs];by_cases e:q.1=c
  ·rw [Qb e];by_cases e2:d=c
   ·subst e2;rw [Qb rfl];unfold _K;rw [Qb e,Qb e];rfl
   ·rw [Qa e2] at ih ⊢;unfold _K;rw [Qa (fun z=>e2 (z.symm.trans e)),Qa (fun z=>e2 (z.symm.trans e))];exact ih
  ·rw [Qa e];by_cases e2:d=c
   ·subst e2;rw [Qb rfl] at ih ⊢;unfold _K;rw [Qa e,Qa e];exact ih
   ·rw [Qa e2] at ih ⊢;unfold _K;by_cases e3:q.1=d
    ·rw [Qb e3,Qb e3]
    ·rw [Qa e3,Qa e3];exact ih
theorem _cq (l:List ((Str×Str)×Addr×List Str)) (c d:Str×Str) (x:Addr×List Str):_K d (_n l c x)=if d=c then some x else _K d l:=by
 unfold _n;by_cases h:(l.any fun q=>decide (q.1=c))=true
 ·rw [Qb h,_ea];by_cases e:d=c
  ·rw [Qb e,Qb e];cases hk:_K c l with
   |some y=>rfl
   |none =>
    exfalso
    have:∀{l:List ((Str×Str)×Addr×List Str)},_K c l=none->(l.any fun q=>decide (q.1=c))=false:=by
     intro l
     induction l with
     |nil=>intro _;rfl
     |cons q r ih =>
      intro hn;unfold _K at hn;by_cases e:q.1=c
      ·rw [Qb e] at hn;cases hn
      ·rw [Qa e] at hn;rw [Rm,ih hn,Qn e];rfl
    rw [this hk] at h;cases h
  ·rw [Qa e,Qa e]
 ·rw [Qa h,_br];by_cases e:d=c
  ·subst e;rw [Qb rfl,_gM (QP.mpr h)];simp [_K]
  ·rw [Qa e];cases _K d l with
   |some y=>rfl
   |none=>simp [_K,QY e]
theorem WP (l:List ((Str×Str)×Addr×List Str)) (c d:Str×Str) (D:Addr) (m:Str):lk (_n l c (D,_w (lk l c++[m]))) d=_0 (lk l) c m d:=by
 unfold lk _0;rw [_cq];by_cases e:d=c
 ·rw [Qb e,Qb e];rfl
 ·rw [Qa e,Qa e]
theorem X0 {κ α:Type} [DecidableEq κ] (l:List (κ×α)) (c:κ) (x:α):(_n l c x).length≤l.length+1:=by
 unfold _n;split
 ·rw [Qc];omega
 ·rw [Qx];exact Qe _
theorem Vz (B:Bk) (l n:Str):Yx B l n=lk B.links (l,n):=rfl
noncomputable def Xv (F:Str×Str->List Str) (n f m:Str):Str×Str->List Str :=
 let F1:=if f="" then F else _0 (_0 F ("F",n) f) ("f",f) n
 if m="" then F1 else _0 (_0 F1 ("M",n) m) ("m",m) n
theorem Uy {d:Str×Str} (h:d.1≠c.1):_0 F c m d=F d:=Qa fun e=>h (by rw [e])
theorem Jx {G:Str×Str->List Str} (h:∀c,F c=G c) (c:Str×Str) (m:Str) (d:Str×Str):_0 F c m d=_0 G c m d:=by
 unfold _0;rw [h c,h d]
theorem _kw (l:List (Ent×Addr)) (n s:Str) (d:Int) (f m:Str) (a:Addr):Bk.bornD (l++[(.born n s d f m,a)])=Bk.bornD l++[(.inr n,.ref a)]:=by
 unfold Bk.bornD;rw [Rv];rfl
theorem _h5 (l:List (Ent×Addr)):(Bk.bornD l).length≤l.length:=GF ..
theorem But.mono {S':List Addr} (h:But S H H') (i:∀a∈S,a∈S'):But S' H H':=⟨fun a o n e=>h.eq a o (fun z=>n (i a z)) e,h.al⟩
noncomputable def UI (l:List (Ent×Addr)):List (Str×V):=l.filterMap fun p=>p.1.bornName.map fun n=>(n,.ref p.2)
theorem _eK (l:List (Ent×Addr)):Bk.bornD l=(UI l).map fun p=>(.inr p.1,p.2):=by
 unfold Bk.bornD UI;rw [NP]
 congr 1
 funext p
 cases p.1.bornName<;>rfl
noncomputable def _T (l:List (Ent×Addr)):List Str:=l.filterMap fun p=>p.1.bornName
theorem _fs (l:List (Ent×Addr)):(UI l).map (·.1)=_T l:=by
 unfold _T UI;rw [NP]
 congr 1
 funext p
 cases p.1.bornName<;>rfl
noncomputable def Grows (H:Hp) (ls ls':List ((Str×Str)×Addr×List Str)):Prop:=∀q∈ls',(∃p∈ls,p.2.1=q.2.1)∨H q.2.1=none
theorem Grows.refl (H:Hp) (ls:List ((Str×Str)×Addr×List Str)):Grows H ls ls:=fun q hq=>.inl ⟨q,hq,rfl⟩
theorem Grows.put {ls ls':List ((Str×Str)×Addr×List Str)} {x:List Str} (g:Grows H ls ls') (n:H D=none):Grows H ls (_n ls' c (D,x)):=fun q hq=>by
 rcases UB hq with rfl|hq
 ·exact .inr n
 ·exact g q hq
theorem Grows.back {ls ls':List ((Str×Str)×Addr×List Str)} (g:Grows H' ls ls') (al:∀a,H' a=none->H a=none):Grows H ls ls':=fun q hq=>(g q hq).imp id (al _)
noncomputable def _F {κ α:Type} [DecidableEq κ] (c:κ):List (κ×α)->Option α
 |[]=>none
 |q::r=>if q.1=c then some q.2 else _F c r
theorem _gb {κ α:Type} [DecidableEq κ] {c:κ}:∀{l:List (κ×α)},(l.any fun q=>decide (q.1=c))=false->_F c l=none
 |[],_=>rfl
 |q::r,h=>by
  rw [Rm,Bool.or_eq_false_iff] at h;unfold _F;rw [Qa (Rg h.1)];exact _gb h.2
theorem JV {κ α:Type} [DecidableEq κ] {c:κ}:∀{l:List (κ×α)},_F c l=none->(l.any fun q=>decide (q.1=c))=false
 |[],_=>rfl
 |q::r,h=>by
  unfold _F at h;by_cases e:q.1=c
  ·rw [Qb e] at h;cases h
  ·rw [Qa e] at h;rw [Rm,JV h,Qn e];rfl
theorem JW {κ α:Type} [DecidableEq κ] {c:κ}:∀{l m:List (κ×α)},_F c (l++m)=(_F c l).or (_F c m)
 |[],m=>by simp [_F]
 |q::r,m=>by
  show (if q.1=c then some q.2 else _F c (r++m))=(if q.1=c then some q.2 else _F c r).or (_F c m);by_cases e:q.1=c
  ·rw [Qb e,Qb e];rfl
  ·rw [Qa e,Qa e];exact JW
theorem _eC {κ α:Type} [DecidableEq κ] {c d:κ} {x:α}:∀{l:List (κ×α)},_F d (l.map fun q=>if q.1=c then (q.1,x) else q)=if d=c then (_F c l).map (fun _=>x) else _F d l
 |[]=>by by_cases e:d=c<;>simp [_F,e]
 |q::r=>by
  have ih:=_eC (c:=c) (d:=d) (x:=x) (l:=r);rw [Qs];by_cases e:q.1=c
  ·rw [Qb e];by_cases e2:d=c
   ·subst e2;rw [Qb rfl];unfold _F;rw [Qb e,Qb e];rfl
   ·rw [Qa e2] at ih ⊢;unfold _F;rw [Qa (fun z=>e2 (z.symm.trans e)),Qa (fun z=>e2 (z.symm.trans e))];exact ih
  ·rw [Qa e];by_cases e2:d=c
   ·subst e2;rw [Qb rfl] at ih ⊢;unfold _F;rw [Qa e,Qa e];exact ih
   ·rw [Qa e2] at ih ⊢;unfold _F;by_cases e3:q.1=d
    ·rw [Qb e3,Qb e3]
    ·rw [Qa e3,Qa e3];exact ih
theorem _fK {κ α:Type} [DecidableEq κ] (l:List (κ×α)) (c d:κ) (x:α):_F d (_n l c x)=if d=c then some x else _F d l:=by
 unfold _n;by_cases h:(l.any fun q=>decide (q.1=c))=true
 ·rw [Qb h,_eC];by_cases e:d=c
  ·rw [Qb e,Qb e];cases hk:_F c l with
   |some y=>rfl
   |none=>rw [JV hk] at h;cases h
  ·rw [Qa e,Qa e]
 ·rw [Qa h,JW];by_cases e:d=c
  ·subst e;rw [Qb rfl,_gb (QP.mpr h)];simp [_F]
  ·rw [Qa e];cases _F d l with
   |some y=>rfl
   |none=>simp [_F,QY e]
theorem Vj {κ α:Type} [DecidableEq κ] {c:κ}:∀{l:List (κ×α)} {x:α},_F c l=some x->(c,x)∈l
 |[],_,h=>by cases h
 |q::r,x,h=>by
  unfold _F at h;by_cases e:q.1=c
  ·rw [Qb e] at h;cases h;rw [←e];exact QA ..
  ·rw [Qa e] at h;exact Qv _ (Vj h)
theorem _as {κ κ' α:Type} [DecidableEq κ] [DecidableEq κ'] {f:κ->κ'} (hf:∀a b,f a=f b->a=b) (g:α->V) (c:κ):∀l:List (κ×α),_y (l.map fun q=>(f q.1,g q.2)) (f c)=(_F c l).map g
 |[]=>rfl
 |q::r=>by
  have ih:=_as hf g c r;unfold _F;rw [Qs];by_cases e:q.1=c
  ·subst e;rw [Xa rfl,Qb rfl];rfl
  ·rw [Y6 (fun z=>e (hf _ _ z)),Qa e];exact ih
noncomputable def Yz (B:Bk) (c:Str×Str):List (Int×Str):=((_F c B.ties).map (·.2)).getD []
noncomputable def YK (l:List (Int×Str)):Bool:=match (l.map (·.1)).max? with
 |none=>false
 |some m=>decide (_F m l=some ("union" : Str))
noncomputable def _aL (B:Bk) (a b:Str):Bool:=YK (Yz B (_e a b))
noncomputable def YS (l:List (Int×Str)):List (_k×V):=l.map fun r=>(.inl r.1,.str r.2)
theorem _c0:∀a b:Int,(.inl a:_k)=.inl b->a=b:=fun _ _ h=>Sum.inl.inj h
theorem _jv {m:Int} (h:m∈l.map (·.1)):∃x,_F m l=some x:=by
 cases e:_F m l with
 |some x=>exact ⟨x,rfl⟩
 |none =>
  obtain ⟨q,hq,rfl⟩:=Qf.mp h;have:=JV e;rw [Nq] at this;exact absurd (Qr rfl) (this q hq)
theorem _e2 {m:Int} {x:Str} (hm:m∈l.map (·.1)) (hx:∀y∈l.map (·.1),y≤m) (e:_F m l=some x):YK l=decide (x="union"):=by
 have h:(l.map (·.1)).max?=some m:=List.max?_eq_some_iff.mpr ⟨hm,hx⟩;unfold YK;rw [h];show decide (_F m l=some ("union" : Str))=_;rw [e];simp
theorem _bd (a b:Str):_e a b=_e b a:=by
 unfold _e;by_cases h:_P b a=true
 ·by_cases h2:_P a b=true
  ·have l1:b.cps.toList<a.cps.toList:=QG h;have l2:a.cps.toList<b.cps.toList:=QG h2;exact absurd l1 (NN l2)
  ·rw [Qb h,Qa h2]
 ·by_cases h2:_P a b=true
  ·rw [Qa h,Qb h2]
  ·rw [Qa h,Qa h2,Jy (QP.mpr h) (QP.mpr h2)]
noncomputable def _L (F:Str×Str->List Str) (st:Bool) (x y:Str):Str×Str->List Str:=fun c =>
 if c=(("S",x):Str×Str) then (if st=true then _w ((F c).filter (fun n=>decide (n≠y))++[y]) else (F c).filter fun n=>decide (n≠y)) else F c
noncomputable def Y1 (ts:List ((Str×Str)×Addr×List (Int×Str))) (c:Str×Str):List (Int×Str):=((_F c ts).map (·.2)).getD []
theorem _nz (B:Bk) (c:Str×Str):Yz B c=Y1 B.ties c:=rfl
theorem _gm {ts:List ((Str×Str)×Addr×List (Int×Str))} {d:Addr} {l':List (Int×Str)} (n:(ts.map (·.1)).Nodup) (h:_F c ts=some (d,l)):(_n ts c (d,l')).map (·.2.1)=ts.map (·.2.1)∧(_n ts c (d,l')).map (·.1)=ts.map (·.1):=by
 have an:(ts.any fun q=>decide (q.1=c))=true:=by
  rw [Gn];exact ⟨_,Vj h,Qr rfl⟩
 unfold _n;rw [Qb an,QJ,QJ];constructor
 ·refine R5 fun q hq=>?_;show (if q.1=c then (q.1,(d,l')) else q).2.1=q.2.1;by_cases e:q.1=c
  ·rw [Qb e]
   have:q.2=(d,l):=by
    have go:∀{ts:List ((Str×Str)×Addr×List (Int×Str))},(ts.map (·.1)).Nodup->_F c ts=some (d,l)->q∈ts->q.2=(d,l):=by
     intro ts
     induction ts with
     |nil=>intro _ _ h;cases h
     |cons p r ih =>
      intro n f m;rw [Qs,QO] at n;unfold _F at f;by_cases e2:p.1=c
      ·rw [Qb e2] at f;rcases Qo.mp m with rfl|m
       ·exact Ql f
       ·exact absurd (Qf.mpr ⟨q,m,e.trans e2.symm⟩) n.1
      ·rw [Qa e2] at f;rcases Qo.mp m with rfl|m
       ·exact absurd e e2
       ·exact ih n.2 f m
    exact go n h hq
   rw [this]
  ·rw [Qa e]
 ·refine R5 fun q hq=>?_;show (if q.1=c then (q.1,(d,l')) else q).1=q.1;split<;>rfl
theorem BkAt.newTie {k:Addr} (h:BkAt K C H b dx k bi li ti su B) (nz:H z=some (.dK [])) (fr:z≠bi∧∀q∈B.ties,q.2.1≠z) (c:Str×Str) :
  BkAt K C (_b H ti (.dT (B.tiesD++[(_x c,.ref z)]))) b dx k bi li ti su { B with ties:=B.ties++[(c,z,[])] }:=by
 obtain ⟨n1,n2,n3,n4,n5,n6⟩:=_bT h.ap;have dk:∀{a:Addr} {w:List (_k×V)},H a=some (.dK w)->a≠ti:=fun e=>YV e h.ti (fun z=>by cases z)
 refine ⟨(_g (YV h.ob h.ti (fun z=>by cases z))).trans h.ob,h.ap,?_,(_g n2).trans h.ke,(_g (dk h.bi)).trans h.bi,(_g n4).trans h.li,?_,(_g n6.symm).trans h.su,fun p hp=>YH (h.en p hp) h.ti (fun _ z=>by cases z) (fun _ _ z=>by cases z),
  fun q hq=>(_g (YV (h.ll q hq) h.ti (fun z=>by cases z))).trans (h.ll q hq),fun q hq=>?_⟩
 ·show (bi::(B.ties++[((c,z,[]):(Str×Str)×Addr×List (Int×Str))]).map (·.2.1)).Nodup;rw [Qh,←GB,QV];refine ⟨h.at',by simp,fun a ha x hx e=>?_⟩;have ex:x=z:=by simpa using hx
  subst ex e;rcases Qo.mp ha with rfl|ha
  ·exact fr.1 rfl
  ·obtain ⟨q,hq,rfl⟩:=Qf.mp ha;exact fr.2 q hq rfl
 ·rw [_f];show some (HO.dT _)=some (.dT ((B.ties++[((c,z,[]):(Str×Str)×Addr×List (Int×Str))]).map fun q=>(_x q.1,V.ref q.2.1)));rw [Qh];rfl
 ·rcases Qm.mp hq with hq|hq
  ·exact (_g (dk (h.tt q hq))).trans (h.tt q hq)
  ·have e:q=(c,z,[]):=by simpa using hq
   subst e;exact (_g (dk nz)).trans nz
theorem BkAt.putTie {k d:Addr} (h:BkAt K C H b dx k bi li ti su B) (n:(B.ties.map (·.1)).Nodup) (f:_F c B.ties=some (d,l)) (l':List (Int×Str)) :
  BkAt K C (_b H d (.dK (YS l'))) b dx k bi li ti su { B with ties:=_n B.ties c (d,l') }:=by
 have hm:=Vj f;have hd:H d=some (.dK (YS l)):=h.tt _ hm;have at2:=h.at';rw [QO] at at2;have bd:bi≠d:=fun e=>at2.1 (Qf.mpr ⟨_,hm,e.symm⟩);have dt:∀{a:Addr} {w:List (List _k×V)},H a=some (.dT w)->a≠d:=fun e=>YV e hd (fun z=>by cases z);obtain ⟨pa1,pa2⟩:=_gm (l':=l') n f
 refine ⟨(_g (YV h.ob hd (fun z=>by cases z))).trans h.ob,h.ap,?_,(_g (dt h.ke)).trans h.ke,(_g bd).trans h.bi,(_g (dt h.li)).trans h.li,?_,(_g (dt h.su)).trans h.su,fun p hp=>YH (h.en p hp) hd (fun _ z=>by cases z) (fun _ _ z=>by cases z),
  fun q hq=>(_g (YV (h.ll q hq) hd (fun z=>by cases z))).trans (h.ll q hq),fun q hq=>?_⟩
 ·show (bi::(_n B.ties c (d,l')).map (·.2.1)).Nodup;rw [pa1];exact h.at'
 ·have e:(_n B.ties c (d,l')).map (fun q=>(_x q.1,V.ref q.2.1))=B.tiesD:=by
   have e1:(fun q:(Str×Str)×Addr×List (Int×Str)=>(_x q.1,V.ref q.2.1))=(fun p:(Str×Str)×Addr=>(_x p.1,V.ref p.2))∘fun q=>(q.1,q.2.1):=rfl
   have e2:∀ts:List ((Str×Str)×Addr×List (Int×Str)),ts.map (fun q=>(q.1,q.2.1))=(ts.map (·.1)).zip (ts.map (·.2.1)):=fun ts=>by
    induction ts with
    |nil=>rfl
    |cons q r ih=>simp [ih]
   unfold Bk.tiesD;rw [e1,←QJ,←QJ,e2,e2,pa1,pa2]
  rw [_g (dt h.ti)];show H ti=some (.dT ((_n B.ties c (d,l')).map fun q=>(_x q.1,V.ref q.2.1)));rw [e];exact h.ti
 ·rcases UB hq with rfl|hq2
  ·exact _f
  ·by_cases e:q.2.1=d
   ·-- the same address: the same pair
    have:q=(c,d,l)∨q=(c,d,l'):=by
     have hnd:=(QO.mp h.at').2
     have go:∀{ts:List ((Str×Str)×Addr×List (Int×Str))},(ts.map (·.2.1)).Nodup->(c,d,l)∈ts->q∈ts->q=(c,d,l):=by
      intro ts
      induction ts with
      |nil=>intro _ h;cases h
      |cons p r ih =>
       intro n h1 h2;rw [Qs,QO] at n;rcases Qo.mp h1 with e1|h1'
       ·rcases Qo.mp h2 with e2|h2'
        ·rw [e2,e1]
        ·rw [←e1] at n;exact absurd (Qf.mpr ⟨q,h2',e⟩) n.1
       ·rcases Qo.mp h2 with e2|h2'
        ·rw [←e2] at n;exact absurd (Qf.mpr ⟨(c,d,l),h1',e.symm⟩) n.1
        ·exact ih n.2 h1' h2'
     exact .inl (go hnd hm hq2)
    rcases this with rfl|rfl
    ·-- then it was told anew
     have an:(B.ties.any fun q=>decide (q.1=c))=true:=by
      rw [Gn];exact ⟨_,hm,Qr rfl⟩
     unfold _n at hq;rw [Qb an] at hq;obtain ⟨p,hp,ep⟩:=Qf.mp hq;by_cases pc:p.1=c
     ·rw [Qb pc] at ep
      have:l'=l:=by
       have:=Qk (fun z=>z.2.2) ep;exact this
      subst this;exact _f
     ·rw [Qa pc] at ep;subst ep;exact absurd rfl pc
    ·exact _f
   ·exact (_g e).trans (h.tt q hq2)
theorem _o1 (ts:List ((Str×Str)×Addr×List (Int×Str))) (c x:Str×Str) (d:Addr) (l:List (Int×Str)):Y1 (_n ts c (d,l)) x=if x=c then l else Y1 ts x:=by
 unfold Y1;rw [_fK];by_cases e:x=c
 ·rw [Qb e,Qb e];rfl
 ·rw [Qa e,Qa e]
theorem _jE (ts:List ((Str×Str)×Addr×List (Int×Str))) (c x:Str×Str) (d:Addr) (h:_F c ts=none):Y1 (ts++[(c,d,[])]) x=Y1 ts x:=by
 unfold Y1;rw [JW];cases e:_F x ts with
 |some y=>rfl
 |none =>
  unfold _F;by_cases e2:c=x
  ·rw [Qb e2];rfl
  ·rw [Qa e2];rfl
noncomputable def Vv (y:Str) (n:Str):Option V:=if n=y then none else some (.str n)
theorem _eF (y:Str):∀l:List Str,(l.map (Vv y)).filterMap id=(l.filter fun n=>decide (n≠y)).map V.str
 |[]=>rfl
 |n::r=>by
  have ih:=_eF y r;by_cases h:n=y
  ·subst h;simp only [Qs,Q2,R4];simpa [Vv] using ih
  ·simp only [Qs,Q2,R4];simpa [Vv,h] using ih
theorem _g5 (l:List ((Str×Str)×Addr×List Str)) (c d:Str×Str) (D:Addr) (z:List Str):lk (_n l c (D,z)) d=if d=c then z else lk l d:=by
 unfold lk;rw [_cq];by_cases e:d=c
 ·rw [Qb e,Qb e];rfl
 ·rw [Qa e,Qa e]
theorem _bB (F:Str×Str->List Str) (st:Bool) (x y:Str) (c:Str×Str):(_L F st x y c).length≤(F c).length+1:=by
 unfold _L;have h:=NQ (fun n=>decide (n≠y)) (F c);split
 ·split
  ·rw [(Y4 _).length_eq,Qx];show _+1≤_;omega
  ·omega
 ·omega
theorem W7 (a b:Str):_e (_e a b).1 (_e a b).2=_e a b:=by
 unfold _e;by_cases h:_P b a=true
 ·rw [Qb h];show (if _P a b=true then (a,b) else (b,a))=(b,a);by_cases h2:_P a b=true
  ·have l1:b.cps.toList<a.cps.toList:=QG h;have l2:a.cps.toList<b.cps.toList:=QG h2;exact absurd l1 (NN l2)
  ·rw [Qa h2]
 ·rw [Qa h];show (if _P b a=true then (b,a) else (a,b))=(a,b);rw [Qa h]
theorem JG (e:Ent):e.told.told=e.told:=by
 cases e with
 |union a b d=>show Ent.union (_e (_e a b).1 (_e a b).2).1 (_e (_e a b).1 (_e a b).2).2 d=_;rw [W7];rfl
 |parted a b d=>show Ent.parted (_e (_e a b).1 (_e a b).2).1 (_e (_e a b).1 (_e a b).2).2 d=_;rw [W7];rfl
 |_=>rfl
noncomputable def VY (F:Str×Str->List (Int×Str)):Ent->Str×Str->List (Int×Str)
 |.union a b d=>fun c=>if c=_e a b then _n (F (_e a b)) d "union" else F c
 |.parted a b d=>fun c=>if c=_e a b then _n (F (_e a b)) d "parted" else F c
 |_=>F
noncomputable def Wz (F:Str×Str->List Str) (G:Str×Str->List (Int×Str)):Ent->Str×Str->List Str
 |.born n _ _ f m=>Xv F n f m
 |.taken c t _=>_0 (_0 F ("T",c) t) ("t",t) c
 |.union a b d=>_L (_L F (YK (_n (G (_e a b)) d "union")) a b) (YK (_n (G (_e a b)) d "union")) b a
 |.parted a b d=>_L (_L F (YK (_n (G (_e a b)) d "parted")) a b) (YK (_n (G (_e a b)) d "parted")) b a
noncomputable def Vy (ss:List ((Str×Str)×Int)) (c:Str×Str):Int:=(_F c ss).getD 0
noncomputable def _a0 (F:Str×Str->Int) (_:Ent):Str×Str->Int:=F
noncomputable def GrowsT (H:Hp) (ts ts':List ((Str×Str)×Addr×List (Int×Str))):Prop:=∀a∈ts'.map (·.2.1),a∈ts.map (·.2.1)∨H a=none
theorem GrowsT.refl (H:Hp) (ts:List ((Str×Str)×Addr×List (Int×Str))):GrowsT H ts ts:=fun _ h=>.inl h
theorem GrowsT.back {ts ts':List ((Str×Str)×Addr×List (Int×Str))} (g:GrowsT H' ts ts') (al:∀a,H' a=none->H a=none):GrowsT H ts ts':=fun a ha=>(g a ha).imp id (al a)
structure Put (B:Bk) (e:Ent) (B':Bk):Prop where
 su:∀c,Vy B'.sums c=_a0 (Vy B.sums) e.told c
 kept:∃a,B'.kept=B.kept++[(e.told,a)]
 lks:∀c,lk B'.links c=Wz (lk B.links) (Y1 B.ties) e.told c
 tis:∀c,Y1 B'.ties c=VY (Y1 B.ties) e.told c
 nd:(B'.ties.map (·.1)).Nodup
 nl:B'.links.length≤B.links.length+4
 nt:B'.ties.length≤B.ties.length+1
 ns:B'.sums.length≤B.sums.length+1
structure Room1 (B:Bk):Prop where
 nd:(B.ties.map (·.1)).Nodup
 nl:B.links.length≤870
 nt:B.ties.length≤790
 ns:B.sums.length≤790
 ll:∀c,(lk B.links c).length≤60
 tt:∀c,(Y1 B.ties c).length≤790
theorem _ii (h:H a=some o):_b H a o=H:=by
 funext c
 by_cases e:c=a
 ·subst e;rw [_f,h]
 ·rw [_g e]
theorem BkAt.kept {k:Addr} (h:BkAt K C H b dx k bi li ti su B) (ha:SqT K H a (e.row.map kV)) :
  BkAt K C (_b (_b H k (.dT (B.keptD++[(e.key,.ref a)]))) bi (.dK (Bk.bornD (B.kept++[(e,a)])))) b dx k bi li ti su { B with kept:=B.kept++[(e,a)] }:=by
 obtain ⟨n1,n2,n3,n4,n5,n6⟩:=_bT h.ap;have kb:k≠bi:=YV h.ke h.bi (fun z=>by cases z);have at2:=QO.mp h.at';have dt:∀{c:Addr} {w:List (List _k×V)},H c=some (.dT w)->c≠k->(_b (_b H k (.dT (B.keptD++[(e.key,.ref a)]))) bi (.dK (Bk.bornD (B.kept++[(e,a)])))) c=some (.dT w):=fun hc n=>(_g (YV hc h.bi (fun z=>by cases z))).trans ((_g n).trans hc)
 have sq:∀{c:Addr} {xs:List V},SqT K H c xs->SqT K (_b (_b H k (.dT (B.keptD++[(e.key,.ref a)]))) bi (.dK (Bk.bornD (B.kept++[(e,a)])))) c xs:=fun {c xs} hc=>by
  have h1:SqT K (_b H k (.dT (B.keptD++[(e.key,.ref a)]))) c xs:=YH hc h.ke (fun _ z=>by cases z) (fun _ _ z=>by cases z);exact YH h1 ((_g kb.symm).trans h.bi) (fun _ z=>by cases z) (fun _ _ z=>by cases z)
 refine ⟨(_g (YV h.ob h.bi (fun z=>by cases z))).trans ((_g (YV h.ob h.ke (fun z=>by cases z))).trans h.ob),h.ap,h.at',(_g kb).trans ?_,_f,dt h.li n1.symm,dt h.ti n2.symm,dt h.su n3.symm,fun p hp=>?_,fun q hq=>?_,fun q hq=>?_⟩
 ·rw [_f];show some (HO.dT _)=some (.dT ((B.kept++[(e,a)]).map fun p=>(p.1.key,V.ref p.2)));rw [Qh];rfl
 ·rcases Qm.mp hp with hp|hp
  ·exact sq (h.en p hp)
  ·have ep:p=(e,a):=by simpa using hp
   subst ep;exact sq ha
 ·exact (_g (YV (h.ll q hq) h.bi (fun z=>by cases z))).trans ((_g (YV (h.ll q hq) h.ke (fun z=>by cases z))).trans (h.ll q hq))
 ·exact (_g (fun z=>at2.1 (Qf.mpr ⟨q,hq,z⟩))).trans ((_g (YV (h.tt q hq) h.ke (fun z=>by cases z))).trans (h.tt q hq))
theorem _ng {l:List (Ent×Addr)} (h:e.isBorn=false):Bk.bornD (l++[(e,a)])=Bk.bornD l:=by
 unfold Bk.bornD;rw [Rv];cases e with
 |born=>cases h
 |_=>simp [Ent.bornName]
theorem _ky {l:List (Ent×Addr)} (h:_y (l.map fun p=>(p.1.key,V.ref p.2)) (Ent.born n s d f m).key=none):_Y n l=none:=by
 induction l with
 |nil=>rfl
 |cons p r ih =>
  unfold _Y;rw [Qs] at h;by_cases e:p.1.bornName=some n
  ·exfalso
   have ek:p.1.key=(Ent.born n s d f m).key:=by
    cases hp:p.1 with
    |born n' s' d' f' m' =>
     rw [hp] at e;cases (show n'=n from Ql e);rfl
    |_=>rw [hp] at e;cases e
   rw [Xa ek] at h;cases h
  ·rw [Qa e];by_cases ek:p.1.key=(Ent.born n s d f m).key
   ·rw [Xa ek] at h;cases h
   ·rw [Y6 ek] at h;exact ih h
theorem _ch (h:XX B e=none):_y B.keptD e.told.key=none∧B.kept.length<400∧∀n∈e.named,Known B n:=by
 unfold XX at h;by_cases f:B.full e=true
 ·rw [Qb f] at h;cases h
 rw [Qa f] at h;by_cases p:(e.named.all fun n=>(_Y n B.kept).isSome)=false
 ·rw [Qb p] at h;cases h
 rw [Qa p] at h;by_cases t:(_y B.keptD e.told.key).isSome=true
 ·rw [Qb t] at h;cases h
 refine ⟨by simpa using t,?_,fun n hn=>?_⟩
 ·unfold Bk.full at f;simp only [RM,Gk,not_or] at f;omega
 ·have:=p;rw [Bool.not_eq_false] at this;rw [Ru] at this;have:=this n hn;unfold Known;exact Ma.mp this
theorem _gz (e:Ent) (n:Str):n∈e.told.named->n∈e.named:=by
 cases e with
 |union a b d =>
  show n∈[(_e a b).1,(_e a b).2]->n∈[a,b];unfold _e;split<;>simp<;>(intro h;rcases h with h|h<;>simp [h])
 |parted a b d =>
  show n∈[(_e a b).1,(_e a b).2]->n∈[a,b];unfold _e;split<;>simp<;>(intro h;rcases h with h|h<;>simp [h])
 |_=>exact id
theorem _c5 (n:Str):∀(l m:List (Ent×Addr)),_Y n (l++m)=(_Y n l).or (_Y n m)
 |[],m=>by simp [_Y]
 |p::r,m=>by
  show (if p.1.bornName=some n then some p else _Y n (r++m))=(if p.1.bornName=some n then some p else _Y n r).or (_Y n m);by_cases e:p.1.bornName=some n
  ·rw [Qb e,Qb e];rfl
  ·rw [Qa e,Qa e];exact _c5 n r m
theorem Known.more {l:List (Ent×Addr)} (h:Known B n) (e:B'.kept=B.kept++l):Known B' n:=by
 unfold Known at *;rw [e,_c5];cases hb:_Y n B.kept with
 |none=>exact absurd hb h
 |some p=>simp
noncomputable def X3 (i:Int):Nat:=(97+i.fmod 26).toNat
theorem _oa (i:Int):XB (X3 i)=true:=by
 have h0:=QW i (show (0:Int)<26 by decide);have h1:=Q7 i (show (0:Int)<26 by decide);obtain ⟨m,hm,hl⟩:∃m:Nat,i.fmod 26=(m:Int)∧m<26:=⟨(i.fmod 26).toNat,by omega,by omega⟩;have e:X3 i=97+m:=by unfold X3;rw [hm];omega
 rw [e];have go:∀m:Fin 26,XB (97+m.val)=true:=by trivial
 exact go ⟨m,hl⟩
theorem _ir {i j:Int} (h:X3 i=X3 j):i.fmod 26=j.fmod 26:=by
 have h0:=QW i (show (0:Int)<26 by decide);have h1:=QW j (show (0:Int)<26 by decide);unfold X3 at h;omega
theorem _kn (a b:Int) (h:a.fmod 26=b.fmod 26):∃q,a-b=26*q:=by
 have e1:=Nl a 26;have e2:=Nl b 26;refine ⟨a.fdiv 26-b.fdiv 26,?_⟩;rw [Int.mul_sub];omega
theorem _gW {ns:List Int} {k:Nat} (h:k<ns.length):(ns.map V.int)[k]?=some (V.int (ns.getD k 0)):=by
 simp [List.getD,Qu h,h]
theorem _nf (i:Int):_6 Vm.cps.toList (i.fmod 26)=some (X3 i):=by
 have h0:=QW i (show (0:Int)<26 by decide);have h1:=Q7 i (show (0:Int)<26 by decide);obtain ⟨m,hm,hl⟩:∃m:Nat,i.fmod 26=(m:Int)∧m<26:=⟨(i.fmod 26).toNat,by omega,by omega⟩;have e:X3 i=97+m:=by unfold X3;rw [hm];omega
 rw [e,hm];have go:∀m:Fin 26,Vm.cps.toList[m.val]?=some (97+m.val):=by trivial
 exact YB (go ⟨m,hl⟩)
theorem Ue (l:List Nat):(⟨l.toArray⟩:Str).length=l.length:=by
 show l.toArray.size=_;rw [Qy]
theorem Uo (e:Same H H1) (n:H a=none):Same H (_b H1 a o):=fun b u q=>by
 rw [_g (_R q n)];exact e b u q
noncomputable def XM (bs:List (Ent×Addr)):List V:=bs.map fun p=>V.ref p.2
noncomputable def Jt (K:W.Frag) (H:Hp) (bs:List (Ent×Addr)):Prop:=∀p∈bs,SqT K H p.2 (p.1.row.map kV)
theorem _fj {cs:List Int} {y:V} (h:(cs.map V.int)[i]?=some y):∃z,y=.int z∧cs[i]?=some z:=by
 rw [Qi] at h;obtain ⟨z,hz,e⟩:=QE.mp h;exact ⟨z,e.symm,hz⟩
theorem _gy (h1:-10 ^ 18≤d) (h2:d≤10 ^ 18):_a2 (.int d)=true:=by
 show decide ((if d<0 then -d else d)≤10 ^ 18)=true;exact Qr (by split<;>omega)
theorem _gq {x:Str} (h:x=""∨Nm x):UJ (.str x)=true:=by
 rcases h with h|h
 ·subst h;trivial
 ·unfold UJ;rw [h.ok];rfl
theorem _kW (h:s="he"∨s="she"∨s=""):Vp (.str s)=true:=by
 rcases h with h|h|h<;>subst h<;>trivial
theorem U2 {x:Str} (h:Nm x):x.length≤100:=Qj h.hi (by decide)
theorem _pP (hn:Nm n) (hs:s="he"∨s="she"∨s="") (d1:-10 ^ 18≤d) (d2:d≤10 ^ 18) (hf:f=""∨Nm f) (hm:m=""∨Nm m):(Ent.born n s d f m).Ok:=by
 refine ⟨?_,fun x hx=>?_⟩
 ·show VW [.str "born",.str n,.str s,.int d,.str f,.str m]=true;rw [_am,show Vl "born"=some [.name,.sort,.day,.parent,.parent] by rfl];show Wf _ _=true;unfold Wf _S;simp [_S,Ud,hn.ok,_kW hs,_gy d1 d2,_gq hf,_gq hm]
 ·have hf':f.length≤100:=hf.elim (fun h=>by subst h;trivial) U2;have hm':m.length≤100:=hm.elim (fun h=>by subst h;trivial) U2;have hs':s.length≤100:=by rcases hs with h|h|h<;>subst h<;>trivial
  simp only [Ent.row,Qo,Q5,Q6] at hx;rcases hx with h|h|h|h|h|h
  ·cases h;trivial
  ·cases h;exact U2 hn
  ·cases h;exact hs'
  ·cases h
  ·cases h;exact hf'
  ·cases h;exact hm'
theorem VH {w a b:Str} (hw:w="taken"∨w="union"∨w="parted") (ha:Nm a) (hb:Nm b) (d1:-10 ^ 18≤d) (d2:d≤10 ^ 18):VW [.str w,.str a,.str b,.int d]=true:=by
 rw [_am];have:Vl w=some [.name,.name,.day]:=by rcases hw with h|h|h<;>subst h<;>rfl
 rw [this];show Wf _ _=true;unfold Wf;simp [_S,Ud,ha.ok,hb.ok,_gy d1 d2]
theorem VU {w a b:Str} (hw:w.length≤100) (ha:Nm a) (hb:Nm b):∀x:Str,(.inr x:_k)∈([.inr w,.inr a,.inr b,.inl d]:List _k)->x.length≤100:=fun x hx=>by
 simp only [Qo,Q5,Q6] at hx;rcases hx with h|h|h|h
 ·cases h;exact hw
 ·cases h;exact U2 ha
 ·cases h;exact U2 hb
 ·cases h
theorem _cw {n s f m:Str} {d:Int}:∀{l:List (Ent×Addr)},Ent.born n s d f m∈l.map (·.1)->(∀{s' d' f' m'},Ent.born n s' d' f' m'∈l.map (·.1)->Ent.born n s' d' f' m'=.born n s d f m)->∃a,_Y n l=some (.born n s d f m,a)
 |[],h,_=>by cases h
 |p::r,h,u=>by
  unfold _Y;by_cases e:p.1.bornName=some n
  ·rw [Qb e];cases hp:p.1 with
   |born n' s' d' f' m' =>
    rw [hp] at e;cases (show n'=n from Ql e);have:=u (s':=s') (d':=d') (f':=f') (m':=m') (by rw [Qs,hp];exact QA ..);refine ⟨p.2,?_⟩;rw [←this,←hp]
   |_=>rw [hp] at e;cases e
  ·rw [Qa e]
   have h':Ent.born n s d f m∈r.map (·.1):=by
    rw [Qs] at h;rcases Qo.mp h with h|h
    ·exfalso;rw [←h] at e;exact e rfl
    ·exact h
   exact _cw h' fun hm=>u (by rw [Qs];exact Qv _ hm)
noncomputable abbrev _M:=Str×Str->List Str
noncomputable abbrev XV:=Str×Str->List (Int×Str)
noncomputable def Uc (p:_M×XV) (e:Ent):_M×XV:=(Wz p.1 p.2 e,VY p.2 e)
noncomputable def YE (es:List Ent):_M×XV:=es.foldl Uc (fun _=>[],fun _=>[])
theorem _an (es:List Ent) (e:Ent):YE (es++[e])=Uc (YE es) e:=by
 unfold YE;rw [Nn];rfl
noncomputable def VJ (n:Str):Ent->List Str
 |.born n' _ _ f _=>if n'=n∧f≠"" then [f] else []
 |_=>[]
noncomputable def VQ (n:Str):Ent->List Str
 |.born n' _ _ _ m=>if n'=n∧m≠"" then [m] else []
 |_=>[]
noncomputable def VV (n:Str):Ent->List Str
 |.born n' _ _ f _=>if f=n∧f≠"" then [n'] else []
 |_=>[]
noncomputable def VC (n:Str):Ent->List Str
 |.born n' _ _ _ m=>if m=n∧m≠"" then [n'] else []
 |_=>[]
noncomputable def VF (n:Str):Ent->List Str
 |.taken c t _=>if c=n then [t] else []
 |_=>[]
noncomputable def VI (n:Str):Ent->List Str
 |.taken c t _=>if t=n then [c] else []
 |_=>[]
theorem _f2 {l:List Str} (h:l.Pairwise fun a b=>YI a b=true):_w l=l:=UW (Y4 l) (V6 l) h
theorem _nM (l m:List Str):_w (_w l++m)=_w (l++m) :=
 UW ((Y4 _).trans (((Y4 l).append_right m).trans (Y4 _).symm)) (V6 _) (V6 _)
theorem YQ (F:_M) (l n l' n' m:Str):_0 F (l,n) m (l',n')=if l'=l∧n'=n then _w (F (l,n)++[m]) else F (l',n'):=by
 unfold _0;by_cases h:l'=l∧n'=n
 ·obtain ⟨rfl,rfl⟩:=h;rw [Qb rfl,Qb ⟨rfl,rfl⟩]
 ·rw [Qa (fun e=>h (by injection e with a b;exact ⟨a,b⟩)),Qa h]
theorem Yl (F:_M) (st:Bool) (x y l n:Str) (h:l≠"S"):_L F st x y (l,n)=F (l,n):=by
 unfold _L;rw [Qa (fun e=>h (by injection e))]
structure Adds (l:Str) (ad:Str->Ent->List Str):Prop where
 step:∀(F:_M) (G:XV) (e:Ent) (n:Str),(F (l,n)).Pairwise (fun a b=>YI a b=true)->Wz F G e (l,n)=_w (F (l,n)++ad n e)
theorem Yy {l:List Str} (h:l.Pairwise fun a b=>YI a b=true):l=_w (l++[]):=by rw [QC,_f2 h]
theorem Ju (F:_M) (n f m l x:Str):Xv F n f m (l,x) =
  if l="F"∧x=n∧f≠"" then _w (F ("F",n)++[f]) else if l="f"∧x=f∧f≠"" then _w (F ("f",f)++[n]) else
  if l="M"∧x=n∧m≠"" then _w (F ("M",n)++[m]) else if l="m"∧x=m∧m≠"" then _w (F ("m",m)++[n]) else F (l,x):=by
 have d1:("F" : Str)≠"f":=by trivial
 have d2:("F" : Str)≠"M":=by trivial
 have d3:("F" : Str)≠"m":=by trivial
 have d4:("f" : Str)≠"M":=by trivial
 have d5:("f" : Str)≠"m":=by trivial
 have d6:("M" : Str)≠"m":=by trivial
 unfold Xv;by_cases f0:f=""<;>by_cases m0:m=""<;>simp only [f0,m0,Rr,Q4,YQ,ne_eq,not_true_eq_false,not_false_eq_true,and_false,and_true]
 ·by_cases h1:l="m"∧x=m
  ·obtain ⟨rfl,rfl⟩:=h1;simp [d3.symm,d5.symm,d6.symm,d6]
  ·by_cases h2:l="M"∧x=n
   ·obtain ⟨rfl,rfl⟩:=h2;simp [d6]
   ·simp [h1,h2]
 ·by_cases h1:l="f"∧x=f
  ·obtain ⟨rfl,rfl⟩:=h1;simp [d1,d1.symm]
  ·by_cases h2:l="F"∧x=n
   ·obtain ⟨rfl,rfl⟩:=h2;simp [d1]
   ·simp [h1,h2]
 ·by_cases h1:l="m"∧x=m
  ·obtain ⟨rfl,rfl⟩:=h1;simp [d3.symm,d5.symm,d6.symm,d6,d3,d5]
  ·by_cases h2:l="M"∧x=n
   ·obtain ⟨rfl,rfl⟩:=h2;simp [d6,d2,d4,d2.symm,d4.symm]
   ·by_cases h3:l="f"∧x=f
    ·obtain ⟨rfl,rfl⟩:=h3;simp [d1,d1.symm,d4,d5]
    ·by_cases h4:l="F"∧x=n
     ·obtain ⟨rfl,rfl⟩:=h4;simp [d1,d2,d3]
     ·simp [h1,h2,h3,h4]
theorem _cC:Adds "F" VJ:=⟨fun F G e n s=>by
 cases e with
 |born n' s' d f m =>
  show Xv F n' f m ("F",n)=_;rw [Ju];dsimp only [VJ];by_cases h:n'=n∧f≠""
  ·rw [Qb h,Qb ⟨rfl,h.1.symm,h.2⟩,h.1]
  ·rw [Qa h,Qa (fun z=>h ⟨z.2.1.symm,z.2.2⟩),Qa (fun z=>absurd z.1 (by trivial)),Qa (fun z=>absurd z.1 (by trivial)),Qa (fun z=>absurd z.1 (by trivial))];exact Yy s
 |taken c t d=>show _0 (_0 F ("T",c) t) ("t",t) c ("F",n)=_;rw [YQ,Qa (fun z=>absurd z.1 (by trivial)),YQ,Qa (fun z=>absurd z.1 (by trivial))];exact Yy s
 |union a b d=>show _L _ _ _ _ _=_;rw [Yl _ _ _ _ _ _ (by trivial),Yl _ _ _ _ _ _ (by trivial)];exact Yy s
 |parted a b d=>show _L _ _ _ _ _=_;rw [Yl _ _ _ _ _ _ (by trivial),Yl _ _ _ _ _ _ (by trivial)];exact Yy s⟩
theorem _eD:Adds "M" VQ:=⟨fun F G e n s=>by
 cases e with
 |born n' s' d f m =>
  show Xv F n' f m ("M",n)=_;rw [Ju,Qa (fun z=>absurd z.1 (by trivial)),Qa (fun z=>absurd z.1 (by trivial))];dsimp only [VQ];by_cases h:n'=n∧m≠""
  ·rw [Qb h,Qb ⟨rfl,h.1.symm,h.2⟩,h.1]
  ·rw [Qa h,Qa (fun z=>h ⟨z.2.1.symm,z.2.2⟩),Qa (fun z=>absurd z.1 (by trivial))];exact Yy s
 |taken c t d=>show _0 (_0 F ("T",c) t) ("t",t) c ("M",n)=_;rw [YQ,Qa (fun z=>absurd z.1 (by trivial)),YQ,Qa (fun z=>absurd z.1 (by trivial))];exact Yy s
 |union a b d=>show _L _ _ _ _ _=_;rw [Yl _ _ _ _ _ _ (by trivial),Yl _ _ _ _ _ _ (by trivial)];exact Yy s
 |parted a b d=>show _L _ _ _ _ _=_;rw [Yl _ _ _ _ _ _ (by trivial),Yl _ _ _ _ _ _ (by trivial)];exact Yy s⟩
theorem _cp:Adds "f" VV:=⟨fun F G e n s=>by
 cases e with
 |born n' s' d f m =>
  show Xv F n' f m ("f",n)=_;rw [Ju,Qa (fun z=>absurd z.1 (by trivial))];dsimp only [VV];by_cases h:f=n∧f≠""
  ·rw [Qb h,Qb ⟨rfl,h.1.symm,h.2⟩,h.1]
  ·rw [Qa h,Qa (fun z=>h ⟨z.2.1.symm,z.2.2⟩),Qa (fun z=>absurd z.1 (by trivial)),Qa (fun z=>absurd z.1 (by trivial))];exact Yy s
 |taken c t d=>show _0 (_0 F ("T",c) t) ("t",t) c ("f",n)=_;rw [YQ,Qa (fun z=>absurd z.1 (by trivial)),YQ,Qa (fun z=>absurd z.1 (by trivial))];exact Yy s
 |union a b d=>show _L _ _ _ _ _=_;rw [Yl _ _ _ _ _ _ (by trivial),Yl _ _ _ _ _ _ (by trivial)];exact Yy s
 |parted a b d=>show _L _ _ _ _ _=_;rw [Yl _ _ _ _ _ _ (by trivial),Yl _ _ _ _ _ _ (by trivial)];exact Yy s⟩
theorem _eZ:Adds "m" VC:=⟨fun F G e n s=>by
 cases e with
 |born n' s' d f m =>
  show Xv F n' f m ("m",n)=_;rw [Ju,Qa (fun z=>absurd z.1 (by trivial)),Qa (fun z=>absurd z.1 (by trivial)),Qa (fun z=>absurd z.1 (by trivial))];dsimp only [VC];by_cases h:m=n∧m≠""
  ·rw [Qb h,Qb ⟨rfl,h.1.symm,h.2⟩,h.1]
  ·rw [Qa h,Qa (fun z=>h ⟨z.2.1.symm,z.2.2⟩)];exact Yy s
 |taken c t d=>show _0 (_0 F ("T",c) t) ("t",t) c ("m",n)=_;rw [YQ,Qa (fun z=>absurd z.1 (by trivial)),YQ,Qa (fun z=>absurd z.1 (by trivial))];exact Yy s
 |union a b d=>show _L _ _ _ _ _=_;rw [Yl _ _ _ _ _ _ (by trivial),Yl _ _ _ _ _ _ (by trivial)];exact Yy s
 |parted a b d=>show _L _ _ _ _ _=_;rw [Yl _ _ _ _ _ _ (by trivial),Yl _ _ _ _ _ _ (by trivial)];exact Yy s⟩
theorem UP (F:_M) (n f m l x:Str) (h1:l≠"F") (h2:l≠"f") (h3:l≠"M") (h4:l≠"m"):Xv F n f m (l,x)=F (l,x):=by
 rw [Ju,Qa (fun z=>h1 z.1),Qa (fun z=>h2 z.1),Qa (fun z=>h3 z.1),Qa (fun z=>h4 z.1)]
theorem _fc:Adds "T" VF:=⟨fun F G e n s=>by
 cases e with
 |born n' s' d f m=>show Xv F n' f m ("T",n)=_;rw [UP _ _ _ _ _ _ (by trivial) (by trivial) (by trivial) (by trivial)];exact Yy s
 |taken c t d =>
  show _0 (_0 F ("T",c) t) ("t",t) c ("T",n)=_;rw [YQ,Qa (fun z=>absurd z.1 (by trivial)),YQ];dsimp only [VF];by_cases h:c=n
  ·rw [Qb h,Qb ⟨rfl,h.symm⟩,h]
  ·rw [Qa h,Qa (fun z=>h z.2.symm)];exact Yy s
 |union a b d=>show _L _ _ _ _ _=_;rw [Yl _ _ _ _ _ _ (by trivial),Yl _ _ _ _ _ _ (by trivial)];exact Yy s
 |parted a b d=>show _L _ _ _ _ _=_;rw [Yl _ _ _ _ _ _ (by trivial),Yl _ _ _ _ _ _ (by trivial)];exact Yy s⟩
theorem _gI:Adds "t" VI:=⟨fun F G e n s=>by
 cases e with
 |born n' s' d f m=>show Xv F n' f m ("t",n)=_;rw [UP _ _ _ _ _ _ (by trivial) (by trivial) (by trivial) (by trivial)];exact Yy s
 |taken c t d =>
  show _0 (_0 F ("T",c) t) ("t",t) c ("t",n)=_;rw [YQ];dsimp only [VI];by_cases h:t=n
  ·rw [Qb h,Qb ⟨rfl,h.symm⟩,YQ,Qa (fun z=>absurd z.1 (by trivial)),h]
  ·rw [Qa h,Qa (fun z=>h z.2.symm),YQ,Qa (fun z=>absurd z.1 (by trivial))];exact Yy s
 |union a b d=>show _L _ _ _ _ _=_;rw [Yl _ _ _ _ _ _ (by trivial),Yl _ _ _ _ _ _ (by trivial)];exact Yy s
 |parted a b d=>show _L _ _ _ _ _=_;rw [Yl _ _ _ _ _ _ (by trivial),Yl _ _ _ _ _ _ (by trivial)];exact Yy s⟩
theorem Adds.all {l:Str} {ad:Str->Ent->List Str} (A:Adds l ad) (n:Str):∀es:List Ent,(YE es).1 (l,n)=_w (es.flatMap (ad n)):=by
 intro es
 have go:∀(es:List Ent) (p:_M×XV) (xs:List Str),p.1 (l,n)=_w xs->(es.foldl Uc p).1 (l,n)=_w (xs++es.flatMap (ad n)):=by
  intro es
  induction es with
  |nil=>intro p xs h;rw [List.flatMap_nil,QC];exact h
  |cons e es ih =>
   intro p xs h;rw [RC,NR,←NL];refine ih _ (xs++ad n e) ?_;show Wz p.1 p.2 e (l,n)=_;rw [A.step p.1 p.2 e n (by rw [h];exact V6 _),h,_nM]
 exact go es _ [] (_f2 .nil).symm
noncomputable def Ent.pr:Ent->Str×Str
 |.union a b _=>(a,b)
 |.parted a b _=>(a,b)
 |_=>("","")
noncomputable def Ent.kind:Ent->Str
 |.union ..=>"union"
 |.parted ..=>"parted"
 |_=>""
noncomputable def X9 (e:Ent):Prop:=e.tie=true->e.pr.1≠e.pr.2
theorem _b4 {a b w:Str} (h:_e n w=_e a b):(n=a∧w=b)∨(n=b∧w=a):=by
 unfold _e at h;split at h<;>split at h<;>injection h with h1 h2
 ·exact .inl ⟨h2,h1⟩
 ·exact .inr ⟨h2,h1⟩
 ·exact .inr ⟨h1,h2⟩
 ·exact .inl ⟨h1,h2⟩
noncomputable def Wh (st:Bool) (L:List Str) (y:Str):List Str:=if st=true then _w (L.filter (fun n=>decide (n≠y))++[y]) else L.filter fun n=>decide (n≠y)
theorem _e7 {L:List Str} (h:L.Pairwise fun a b=>YI a b=true):(Wh st L y).Pairwise fun a b=>YI a b=true:=by
 unfold Wh;split
 ·exact V6 _
 ·exact h.filter _
theorem _ec {p:Str->Bool} {L:List Str} (h:L.Nodup):(L.filter p).Nodup:=List.Pairwise.filter p h
theorem _g7 {L:List Str} (h:L.Nodup):(Wh st L y).Nodup:=by
 unfold Wh;split
 ·refine (Y4 _).symm.nodup ?_;rw [QV];refine ⟨_ec h,by simp,fun a ha b hb e=>?_⟩;have:b=y:=by simpa using hb
  subst this e;have:=(QX.mp ha).2;simp at this
 ·exact _ec h
theorem _fP {L:List Str} {w:Str}:w∈Wh st L y↔(w≠y∧w∈L)∨(w=y∧st=true):=by
 unfold Wh;by_cases h:st=true
 ·rw [Qb h,(Y4 _).mem_iff,Qm,QX];simp [h,and_comm]
 ·rw [Qa h,QX];simp [h,and_comm]
theorem _aT (F:_M) (st:Bool) (x y n:Str):_L F st x y ("S",n)=if n=x then Wh st (F ("S",x)) y else F ("S",n):=by
 unfold _L Wh;by_cases h:n=x
 ·subst h;rw [Qb rfl,Qb rfl]
 ·rw [Qa (fun e=>h (by injection e)),Qa h]
structure SOk (F:_M) (G:XV):Prop where
 up:∀n,(F ("S",n)).Pairwise fun a b=>YI a b=true
 nd:∀n,(F ("S",n)).Nodup
 mem:∀n w,w∈F ("S",n)↔YK (G (_e n w))=true
theorem _dB {F:_M} {G:XV} {a b:Str} (ne:a≠b) (h:SOk F G) (l:List (Int×Str)) :
  SOk (_L (_L F (YK l) a b) (YK l) b a) (fun c=>if c=_e a b then l else G c):=by
 have e:∀n,_L (_L F (YK l) a b) (YK l) b a ("S",n)=if n=b then Wh (YK l) (F ("S",b)) a else if n=a then Wh (YK l) (F ("S",a)) b else F ("S",n):=fun n=>by
  rw [_aT];by_cases h1:n=b
  ·rw [Qb h1,Qb h1,_aT,Qa ne.symm]
  ·rw [Qa h1,Qa h1,_aT]
 refine ⟨fun n=>?_,fun n=>?_,fun n w=>?_⟩
 ·rw [e];split
  ·exact _e7 (h.up _)
  ·split
   ·exact _e7 (h.up _)
   ·exact h.up _
 ·rw [e];split
  ·exact _g7 (h.nd _)
  ·split
   ·exact _g7 (h.nd _)
   ·exact h.nd _
 ·rw [e];show _↔YK (if _e n w=_e a b then l else G (_e n w))=true;by_cases h1:n=b
  ·subst h1;rw [Qb rfl,_fP];by_cases h2:w=a
   ·subst h2;rw [Qb (_bd n w)];simp
   ·rw [Qa (fun z=>(_b4 z).elim (fun e=>ne e.1.symm) fun e=>h2 e.2),←h.mem];simp [h2]
  ·rw [Qa h1];by_cases h3:n=a
   ·subst h3;rw [Qb rfl,_fP];by_cases h2:w=b
    ·subst h2;rw [Qb rfl];simp
    ·rw [Qa (fun z=>(_b4 z).elim (fun e=>h2 e.2) fun e=>h1 e.1),←h.mem];simp [h2]
   ·rw [Qa h3,Qa (fun z=>(_b4 z).elim (fun e=>h3 e.1) fun e=>h1 e.1),←h.mem]
theorem SOk.same {F F':_M} {G:XV} (h:SOk F G) (e:∀n,F' ("S",n)=F ("S",n)):SOk F' G:=⟨fun n=>by rw [e];exact h.up n,fun n=>by rw [e];exact h.nd n,fun n w=>by rw [e];exact h.mem n w⟩
theorem _ol {F:_M} {G:XV} (ap:X9 e) (h:SOk F G):SOk (Wz F G e) (VY G e):=by
 cases e with
 |union a b d=>exact _dB (ap rfl) h _
 |parted a b d=>exact _dB (ap rfl) h _
 |born n s d f m=>exact h.same fun n'=>UP _ _ _ _ _ _ (by trivial) (by trivial) (by trivial) (by trivial)
 |taken c t d =>
  refine h.same fun n'=>?_;show _0 (_0 F ("T",c) t) ("t",t) c ("S",n')=_;rw [YQ,Qa (fun z=>absurd z.1 (by trivial)),YQ,Qa (fun z=>absurd z.1 (by trivial))]
theorem _ms (h:∀e∈es,X9 e):SOk (YE es).1 (YE es).2:=by
 have go:∀(es:List Ent) (p:_M×XV),(∀e∈es,X9 e)->SOk p.1 p.2->SOk (es.foldl Uc p).1 (es.foldl Uc p).2:=by
  intro es
  induction es with
  |nil=>intro p _ h;exact h
  |cons e es ih =>
   intro p ha h;exact ih _ (fun x hx=>ha x (Qv _ hx)) (_ol (ha e (QA ..)) h)
 exact go es _ h ⟨fun n=>.nil,fun n=>.nil,fun n w=>by simp [YK]⟩
noncomputable def tl (c:Str×Str) (es:List Ent):List (Int×Str):=es.filterMap fun e=>if e.tie=true∧_e e.pr.1 e.pr.2=c then some (e.day,e.kind) else none
theorem _eu {k:Str} (h:d∉l.map (·.1)):_n l d k=l++[(d,k)]:=by
 unfold _n;rw [Qa];intro z;rw [Gn] at z;obtain ⟨q,hq,e⟩:=z;exact h (Qf.mpr ⟨q,hq,QG e⟩)
theorem _m2 {G:XV} (hG:∀c,G c=tl c es) (n:e.tie=true->e.day∉(tl (_e e.pr.1 e.pr.2) es).map (·.1)) (c:Str×Str):VY G e c=tl c (es++[e]):=by
 have ap:tl c (es++[e])=tl c es++tl c [e]:=by unfold tl;rw [Rv]
 rw [ap];cases e with
 |union a b d =>
  show (if c=_e a b then _n (G (_e a b)) d "union" else G c)=_;by_cases h:c=_e a b
  ·subst h;have n':d∉(tl (_e a b) es).map (·.1):=n rfl;rw [Qb rfl,hG,_eu n'];simp [tl,Ent.tie,Ent.pr,Ent.day,Ent.kind]
  ·rw [Qa h,hG];simp [tl,Ent.tie,Ent.pr,QY h]
 |parted a b d =>
  show (if c=_e a b then _n (G (_e a b)) d "parted" else G c)=_;by_cases h:c=_e a b
  ·subst h;have n':d∉(tl (_e a b) es).map (·.1):=n rfl;rw [Qb rfl,hG,_eu n'];simp [tl,Ent.tie,Ent.pr,Ent.day,Ent.kind]
  ·rw [Qa h,hG];simp [tl,Ent.tie,Ent.pr,QY h]
 |_=>rw [show VY G _ c=G c from rfl,hG];simp [tl,Ent.tie]
noncomputable def Once (es:List Ent):Prop:=∀c,((tl c es).map (·.1)).Nodup
theorem Once.init (h:Once (es++[e])):Once es∧(e.tie=true->e.day∉(tl (_e e.pr.1 e.pr.2) es).map (·.1)):=by
 have ap:∀c,tl c (es++[e])=tl c es++tl c [e]:=fun c=>by unfold tl;rw [Rv]
 refine ⟨fun c=>?_,fun t m=>?_⟩
 ·have:=h c;rw [ap,Qh,QV] at this;exact this.1
 ·have:=h (_e e.pr.1 e.pr.2);rw [ap,Qh,QV] at this;have e1:tl (_e e.pr.1 e.pr.2) [e]=[(e.day,e.kind)]:=by simp [tl,t]
  rw [e1] at this;exact this.2.2 _ m _ (QA ..) rfl
theorem _dJ (h:Once es) (c:Str×Str):(YE es).2 c=tl c es:=by
 have go:∀n (es:List Ent),es.length=n->Once es->∀c,(YE es).2 c=tl c es:=by
  intro n
  induction n with
  |zero =>
   intro es hl _ c;rw [List.length_eq_zero_iff.mp hl];rfl
  |succ n ih =>
   intro es hl ho c;obtain ⟨xs,x,rfl⟩:∃xs x,es=xs++[x]:=⟨es.dropLast,es.getLast (by intro z;rw [z] at hl;cases hl),(Go _).symm⟩;obtain ⟨o1,o2⟩:=ho.init;rw [_an];exact _m2 (ih xs (by rw [Qx] at hl;exact Nat.succ.inj hl) o1) o2 c
 exact go _ es rfl h c
noncomputable def WG (a b:Str) (last:Option Ent) (e:Ent):Option Ent:=if e.tie=true∧_e e.pr.1 e.pr.2=_e a b then (match last with|none=>some e|some l=>if l.day<e.day then some e else some l) else last
noncomputable def J8 (ds:List Ent) (a b:Str):Bool:=match ds.foldl (WG a b) none with
 |some e=>decide (e.kind="union")
 |none=>false
noncomputable def Ug (last:Option Ent) (l:List (Int×Str)):Prop:=match last with
 |none=>l=[]
 |some e=>(e.day,e.kind)∈l∧∀q∈l,q.1≤e.day
theorem _ki {a b:Str} {last:Option Ent} {xs:List Ent} (h:Ug last (tl (_e a b) xs)):Ug (WG a b last e) (tl (_e a b) (xs++[e])):=by
 have ap:tl (_e a b) (xs++[e])=tl (_e a b) xs++tl (_e a b) [e]:=by unfold tl;rw [Rv]
 rw [ap];unfold WG;by_cases c:e.tie=true∧_e e.pr.1 e.pr.2=_e a b
 ·rw [Qb c];have e1:tl (_e a b) [e]=[(e.day,e.kind)]:=by unfold tl;simp [c.1,c.2]
  rw [e1];cases last with
  |none =>
   have h':tl (_e a b) xs=[]:=h;rw [h'];exact ⟨QA ..,fun q hq=>by rw [show q=(e.day,e.kind) by simpa using hq];exact Ng _⟩
  |some l =>
   obtain ⟨h1,h2⟩:=(show (l.day,l.kind)∈tl (_e a b) xs∧∀q∈tl (_e a b) xs,q.1≤l.day from h);by_cases lt:l.day<e.day
   ·show Ug (if l.day<e.day then some e else some l) _;rw [Qb lt];refine ⟨by simp,fun q hq=>?_⟩;rcases Qm.mp hq with hq|hq
    ·have:=h2 q hq;show q.1≤e.day;omega
    ·rw [show q=(e.day,e.kind) by simpa using hq];exact Ng _
   ·show Ug (if l.day<e.day then some e else some l) _;rw [Qa lt];refine ⟨Qm.mpr (.inl h1),fun q hq=>?_⟩;rcases Qm.mp hq with hq|hq
    ·exact h2 q hq
    ·rw [show q=(e.day,e.kind) by simpa using hq];show e.day≤l.day;omega
 ·rw [Qa c];have e1:tl (_e a b) [e]=[]:=by unfold tl;simp [c]
  rw [e1,QC];exact h
theorem _f9 {a b:Str}:∀(ds xs:List Ent) (last:Option Ent),Ug last (tl (_e a b) xs)->Ug (ds.foldl (WG a b) last) (tl (_e a b) (xs++ds))
 |[],xs,last,h=>by rw [QC];exact h
 |e::ds,xs,last,h=>by
  rw [RC,show xs++e::ds=(xs++[e])++ds by simp];exact _f9 ds (xs++[e]) _ (_ki h)
theorem _lw {m:Int} {k:Str}:(l.map (·.1)).Nodup->(m,k)∈l->_F m l=some k:=by
 induction l with
 |nil=>intro _ h;cases h
 |cons q r ih =>
  intro n h;rw [Qs,QO] at n;unfold _F;rcases Qo.mp h with h|h
  ·rw [Qb (by rw [←h]),←h]
  ·rw [Qa (fun z=>n.1 (Qf.mpr ⟨(m,k),h,z.symm⟩))];exact ih n.2 h
theorem _pC {ds:List Ent} (o:Once ds) (a b:Str):J8 ds a b=YK (tl (_e a b) ds):=by
 have h:=_f9 (a:=a) (b:=b) ds [] none rfl;rw [GG] at h;unfold J8;cases hl:ds.foldl (WG a b) none with
 |none =>
  rw [hl] at h;rw [show tl (_e a b) ds=[] from h];rfl
 |some e =>
  rw [hl] at h;obtain ⟨h1,h2⟩:=(show (e.day,e.kind)∈tl (_e a b) ds∧∀q∈tl (_e a b) ds,q.1≤e.day from h)
  have:=_e2 (l:=tl (_e a b) ds) (m:=e.day) (x:=e.kind) (Qf.mpr ⟨_,h1,rfl⟩) (fun y hy=>by
   obtain ⟨q,hq,rfl⟩:=Qf.mp hy;exact h2 q hq) (_lw (o _) h1)
  rw [this]
theorem _oH (e:Ent):e.told.tie=e.tie∧_e e.told.pr.1 e.told.pr.2=_e e.pr.1 e.pr.2∧e.told.day=e.day∧e.told.kind=e.kind:=by
 cases e with
 |union a b d=>exact ⟨rfl,W7 a b,rfl,rfl⟩
 |parted a b d=>exact ⟨rfl,W7 a b,rfl,rfl⟩
 |_=>exact ⟨rfl,rfl,rfl,rfl⟩
theorem _kM (h:X9 e):X9 e.told:=fun t=>by
 obtain ⟨h1,h2,_,_⟩:=_oH e;rw [h1] at t;have ne:=h t;intro z;apply ne
 have:∀a b:Str,(_e a b).1=(_e a b).2->a=b:=fun a b h=>by
  unfold _e at h;split at h
  ·exact h.symm
  ·exact h
 cases e with
 |union a b d=>exact this a b z
 |parted a b d=>exact this a b z
 |_=>cases t
theorem _gT {f:Ent->List Str} (h:∀e,(f e).length≤1):∀l:List Ent,(l.flatMap f).length≤l.length
 |[]=>Qe _
 |e::l=>by
  rw [NR,Qx,QH];have:=_gT h l;have:=h e;omega
theorem Ui (n:Str) (e:Ent):(VJ n e).length≤1∧(VQ n e).length≤1∧(VV n e).length≤1∧(VC n e).length≤1∧(VF n e).length≤1∧(VI n e).length≤1:=by
 cases e<;>simp only [VJ,VQ,VV,VC,VF,VI]<;>refine ⟨?_,?_,?_,?_,?_,?_⟩<;>(try split)<;>simp
theorem _qa {l:Str} (h:l∉Xg) (n:Str):(YE es).1 (l,n)=[]:=by
 have hh:l≠"F"∧l≠"M"∧l≠"T"∧l≠"f"∧l≠"m"∧l≠"t"∧l≠"S":=by simpa [Xg] using h
 obtain ⟨h1,h2,h3,h4,h5,h6,h7⟩:=hh
 have go:∀(es:List Ent) (p:_M×XV),p.1 (l,n)=[]->(es.foldl Uc p).1 (l,n)=[]:=by
  intro es
  induction es with
  |nil=>intro p h;exact h
  |cons e es ih =>
   intro p h;rw [RC];refine ih _ ?_;show Wz p.1 p.2 e (l,n)=[];cases e with
   |born n' s d f m=>show Xv p.1 n' f m (l,n)=[];rw [UP _ _ _ _ _ _ h1 h4 h2 h5];exact h
   |taken c t d=>show _0 (_0 p.1 ("T",c) t) ("t",t) c (l,n)=[];rw [YQ,Qa (fun z=>h6 z.1),YQ,Qa (fun z=>h3 z.1)];exact h
   |union a b d=>show _L _ _ _ _ _=[];rw [Yl _ _ _ _ _ _ h7,Yl _ _ _ _ _ _ h7];exact h
   |parted a b d=>show _L _ _ _ _ _=[];rw [Yl _ _ _ _ _ _ h7,Yl _ _ _ _ _ _ h7];exact h
 exact go es _ rfl
structure BSt (B:Bk) (es:List Ent):Prop where
 kept:B.kept.map (·.1)=es
 lks:lk B.links=(YE es).1
 tis:Y1 B.ties=(YE es).2
 nd:(B.ties.map (·.1)).Nodup
 nl:B.links.length≤4*es.length
 nt:B.ties.length≤es.length
 ns:B.sums.length≤es.length
theorem BSt.start:BSt VL []:=⟨rfl,rfl,rfl,.nil,Qe _,Qe _,Qe _⟩
theorem BSt.put (h:BSt B es) (p:Put B e B'):BSt B' (es++[e.told]):=by
 obtain ⟨a,hk⟩:=p.kept;have l1:(es++[e.told]).length=es.length+1:=by rw [Qx];rfl
 have n1:=p.nl;have n2:=p.nt;have n3:=p.ns;have m1:=h.nl;have m2:=h.nt;have m3:=h.ns;refine ⟨by rw [hk,Qh,h.kept];rfl,?_,?_,p.nd,by omega,by omega,by omega⟩
 ·funext c
  rw [_an,p.lks,h.lks,h.tis];rfl
 ·funext c
  rw [_an,p.tis,h.tis];rfl
theorem _jA (c:Str×Str) (es:List Ent):(tl c es).length≤es.length:=GF ..
theorem _cM {κ:Type} [DecidableEq κ] {k:κ}:∀{l:List (κ×V)},(∀p∈l,p.1≠k)->_y l k=none
 |[],_=>rfl
 |p::l,h=>by
  rw [Y6 (h p (QA ..))];exact _cM fun q hq=>h q (Qv _ hq)
theorem _nw (hk:B.kept.map (·.1)=es) {k:List _k} (h:∀e∈es,e.key≠k):_y B.keptD k=none:=by
 refine _cM fun p hp=>?_;obtain ⟨q,hq,rfl⟩:=Qf.mp hp;exact h q.1 (by rw [←hk];exact Qf.mpr ⟨q,hq,rfl⟩)
theorem _cf (hk:B.kept.map (·.1)=es):B.kept.length=es.length:=by rw [←hk,Qc]
theorem _f4 {bs:List (Ent×Addr)} {y:V} (h:(XM bs)[i]?=some y):∃p,bs[i]?=some p∧y=.ref p.2:=by
 unfold XM at h;rw [Qi] at h;obtain ⟨p,hp,e⟩:=QE.mp h;exact ⟨p,hp,e.symm⟩
theorem _ai (bs:List (Ent×Addr)):(XM bs).length=bs.length:=by unfold XM;rw [Qc]
theorem _om {ds:List (Ent×Addr)} (h:ds[i]?=some p):ds.take (i+1)=ds.take i++[p]:=by
 rw [Q1,h];rfl
theorem _cT {bs:List (Ent×Addr)} (h:bs[i]?=some p):(bs.take (i+1)).map (·.1)=(bs.take i).map (·.1)++[p.1]:=by
 rw [_om h,Qh];rfl
theorem _mH (l:List (Ent×Addr)):(Bk.bornD l).length=(_T l).length:=by rw [_eK,Qc,←_fs,Qc]
noncomputable def amt (c:Str×Str):Ent->Int
 |_=>0
noncomputable def J3 (c:Str×Str) (es:List Ent):Int:=(es.map (amt c)).sum
theorem _hs (c:Str×Str) (es:List Ent) (e:Ent):J3 c (es++[e])=J3 c es+amt c e:=by
 unfold J3;rw [Qh,List.sum_append];simp
theorem _en {a b:Str} (ne:a≠b) (c:Str×Str):(_L (_L F st a b) st b a c).length≤(F c).length+1:=by
 by_cases e:c=(("S",b):Str×Str)
 ·refine Qj (_bB ..) ?_
  have:_L F st a b c=F c:=by
   unfold _L;rw [Qa];intro z;rw [e] at z;injection z with _ z2;exact ne z2.symm
  rw [this];exact Qe _
 ·have:_L (_L F st a b) st b a c=_L F st a b c:=by
   show (if c=(("S",b):Str×Str) then _ else _L F st a b c)=_;rw [Qa e]
  rw [this];exact _bB ..
noncomputable def D5 (pool:List Str) (e:Ent):Prop:=e.Ok∧(∀n∈e.named,n∈pool)∧∀n,e.bornName=some n->n∈pool
noncomputable def LBk (ks:List (Ent×Addr)):Bk:=⟨ks,[],[],[]⟩
structure KsOk (ks:List (Ent×Addr)):Prop where
 told:∀p∈ks,p.1.told=p.1
 nd:(_T ks).Nodup
 len:ks.length≤60
theorem _lk {k:List _k}:∀{l m:List (Ent×Addr)},l.map (·.1)=m.map (·.1)->(_y (l.map fun p=>(p.1.key,V.ref p.2)) k).isSome=(_y (m.map fun p=>(p.1.key,V.ref p.2)) k).isSome:=by
 intro l
 induction l with
 |nil=>intro m h;cases m with
  |nil=>rfl
  |cons q m=>cases h
 |cons p l ih=>intro m h;cases m with
  |nil=>cases h
  |cons q m =>
   have h1:p.1=q.1:=(Gj h).1;have h2:=(Gj h).2;rw [Qs,Qs];by_cases c:p.1.key=k
   ·rw [Xa (show (p.1.key,V.ref p.2).1=k from c),Xa (show q.1.key=k by rw [←h1];exact c)];rfl
   ·rw [Y6 (show ¬(p.1.key,V.ref p.2).1=k from c),Y6 (show ¬q.1.key=k by rw [←h1];exact c)];exact ih h2
theorem _lr {k:List _k}:∀{ks:List (Ent×Addr)},(∃p∈ks,p.1.key=k)->(_y (LBk ks).keptD k).isSome=true:=by
 intro ks
 induction ks with
 |nil=>rintro ⟨p,hp,_⟩;cases hp
 |cons q ks ih =>
  rintro ⟨p,hp,e⟩;show (_y ((q.1.key,V.ref q.2)::(LBk ks).keptD) k).isSome=true;by_cases c:q.1.key=k
  ·rw [Xa (show (q.1.key,V.ref q.2).1=k from c)];rfl
  ·rw [Y6 (show ¬(q.1.key,V.ref q.2).1=k from c)];rcases Qo.mp hp with rfl|hp
   ·exact absurd e c
   ·exact ih ⟨p,hp,e⟩
theorem _bM {l:List (Ent×Addr)} (h:n∈_T l):_Y n l≠none:=by
 induction l with
 |nil=>cases h
 |cons p l ih =>
  unfold _Y;by_cases c:p.1.bornName=some n
  ·rw [Qb c];simp
  ·rw [Qa c];refine ih ?_;unfold _T at h ⊢;rw [Q2] at h;cases hb:p.1.bornName with
   |none=>rw [hb] at h;exact h
   |some z =>
    rw [hb] at h;rcases Qo.mp h with rfl|h
    ·exact absurd hb c
    ·exact h
theorem _pW:∀{es:List Ent},(∀e∈es,X9 e)->∀n,((YE es).1 ("S",n)).length≤es.length:=by
 have go:∀k (es:List Ent),es.length=k->(∀e∈es,X9 e)->∀n,((YE es).1 ("S",n)).length≤es.length:=by
  intro k
  induction k with
  |zero =>
   intro es h _ n;have:es=[]:=NG h;subst this;exact Qe _
  |succ k ih =>
   intro es h ap n;have ne:es≠[]:=fun z=>by rw [z] at h;cases h
   obtain ⟨xs,e,rfl⟩:∃xs e,es=xs++[e]:=⟨_,_,(Go ne).symm⟩;have lx:xs.length=k:=by rw [Qx] at h;exact Nat.succ.inj h
   have ih:=ih xs lx (fun x hx=>ap x (Qm.mpr (.inl hx))) n;have ae:=ap e (Qm.mpr (.inr (QQ.mpr rfl)));rw [_an,Qx]
   have key:(Wz (YE xs).1 (YE xs).2 e ("S",n)).length≤((YE xs).1 ("S",n)).length+1:=by
    cases e with
    |born n' s d f m =>
     show (Xv (YE xs).1 n' f m ("S",n)).length≤_;rw [UP _ _ _ _ _ _ (by trivial) (by trivial) (by trivial) (by trivial)];exact Re _
    |taken c t d =>
     show (_0 (_0 (YE xs).1 ("T",c) t) ("t",t) c ("S",n)).length≤_;rw [YQ,Qa (fun z=>absurd z.1 (by trivial)),YQ,Qa (fun z=>absurd z.1 (by trivial))];exact Re _
    |union a b d=>exact _en (ae rfl) _
    |parted a b d=>exact _en (ae rfl) _
   show (Wz (YE xs).1 (YE xs).2 e ("S",n)).length≤xs.length+1;omega
 intro es h n;exact go es.length es rfl h n
theorem _ni (h:∀e∈es,X9 e) (c:Str×Str):((YE es).1 c).length≤es.length:=by
 obtain ⟨l,n⟩:=c
 have six:∀{ad:Str->Ent->List Str},Adds l ad->(∀e,(ad n e).length≤1)->((YE es).1 (l,n)).length≤es.length:=fun A h1=>by
  rw [A.all,(Y4 _).length_eq];exact _gT h1 es
 by_cases hl:l∈Xg
 ·simp only [Xg,Qo,Q5,Q6] at hl;rcases hl with rfl|rfl|rfl|rfl|rfl|rfl|rfl
  ·exact six _cC fun e=>(Ui n e).1
  ·exact six _eD fun e=>(Ui n e).2.1
  ·exact six _fc fun e=>(Ui n e).2.2.2.2.1
  ·exact six _cp fun e=>(Ui n e).2.2.1
  ·exact six _eZ fun e=>(Ui n e).2.2.2.1
  ·exact six _gI fun e=>(Ui n e).2.2.2.2.2
  ·exact _pW h n
 ·rw [_qa hl];exact QM _
theorem _jB {ds:List Ent} (h:(ds.map fun e=>e.told.key).Nodup):Once ds:=by
 intro c
 have go:∀ds:List Ent,(ds.map fun e=>e.told.key).Nodup->((tl c ds).map (·.1)).Nodup:=by
  intro ds
  induction ds with
  |nil=>intro _;exact .nil
  |cons e ds ih =>
   intro n;rw [Qs,QO] at n;have ih:=ih n.2;unfold tl at ih ⊢;rw [Q2];by_cases cc:e.tie=true∧_e e.pr.1 e.pr.2=c
   ·rw [Qb cc];show (_::_).Nodup;rw [QO];refine ⟨fun m=>?_,ih⟩;obtain ⟨q,hq,eq⟩:=Qf.mp m;obtain ⟨x,hx,ex⟩:=Rj.mp hq;by_cases c2:x.tie=true∧_e x.pr.1 x.pr.2=c
    ·rw [Qb c2] at ex;have:=Ql ex;subst this;refine n.1 (Qf.mpr ⟨x,hx,?_⟩)
     have kk:∀y:Ent,y.tie=true->y.told.key=[.inr "tie",.inr (_e y.pr.1 y.pr.2).1,.inr (_e y.pr.1 y.pr.2).2,.inl y.day]:=fun y hy=>by
      cases y with
      |union=>rfl
      |parted=>rfl
      |_=>cases hy
     rw [kk x c2.1,kk e cc.1,c2.2,cc.2,show x.day=e.day from eq]
    ·rw [Qa c2] at ex;cases ex
   ·rw [Qa cc];exact ih
 exact go ds h
structure LI5 (pool:List Str) (B:Bk) (ks:List (Ent×Addr)):Prop where
 st:BSt B (ks.map (·.1))
 sus:∀c,Vy B.sums c=J3 c (ks.map (·.1))
 told:∀p∈ks,p.1.told=p.1
 keys:(ks.map fun p=>p.1.told.key).Nodup
 inp:∀p∈ks,∀n,p.1.bornName=some n->n∈pool
 ap:∀p∈ks,X9 p.1
theorem LI5.start (pool:List Str):LI5 pool VL []:=⟨BSt.start,fun _=>rfl,fun p hp=>(by cases hp),.nil,fun p hp=>(by cases hp),fun p hp=>(by cases hp)⟩
theorem LI5.ap' (h:LI5 pool B ks):∀e∈ks.map (·.1),X9 e:=fun e he=>by
 obtain ⟨p,hp,rfl⟩:=Qf.mp he;exact h.ap p hp
theorem LI5.once (h:LI5 pool B ks):Once (ks.map (·.1)):=by
 refine _jB ?_;rw [QJ];exact h.keys
theorem LI5.room (h:LI5 pool B ks) (l:ks.length≤60):Room1 B:=by
 have e:(ks.map (·.1)).length=ks.length:=Qc ..;have m1:=h.st.nl;have m2:=h.st.nt;have m3:=h.st.ns;refine ⟨h.st.nd,by omega,by omega,by omega,fun c=>?_,fun c=>?_⟩
 ·rw [h.st.lks];exact Qj (_ni h.ap' c) (by omega)
 ·rw [h.st.tis,_dJ h.once];exact Qj (_jA c _) (by omega)
theorem _mr (e:Ent):e.told.bornName=e.bornName:=by cases e<;>rfl
theorem _kp (h:Wm B e=true):X9 e:=fun t=>by
 cases e with
 |union a b d =>
  intro z;rw [_aj rfl,show (Ent.union a b d).same=true from Qr (show a=b from z)] at h;cases h
 |parted a b d =>
  intro z;rw [_aj rfl,show (Ent.parted a b d).same=true from Qr (show a=b from z)] at h;cases h
 |_=>cases t
theorem _eN (h:XX B e=none):B.kept.length<400∧(e.isBorn=true->(Bk.bornD B.kept).length<60)∧(∀n∈e.named,Known B n)∧_y B.keptD e.told.key=none∧Wm B e=true:=by
 obtain ⟨h1,h2,h3⟩:=_ch h;unfold XX at h;by_cases f:B.full e=true
 ·rw [Qb f] at h;cases h
 ·rw [Qa f,Qa (by rw [_dN h3];decide),Qa (by rw [h1];decide)] at h;refine ⟨h2,fun b=>?_,h3,h1,?_⟩
  ·unfold Bk.full at f;rw [b,GM,RM,not_or] at f;have:=f.2;rw [Gk] at this;omega
  ·cases hf:Wm B e with
   |true=>rfl
   |false=>rw [hf,Qa (by decide)] at h;cases h
theorem LI5.put (h:LI5 pool B ks) (p:Put B e B') (d:D5 pool e) (no:XX B e=none) (a:Addr):LI5 pool B' (ks++[(e.told,a)]):=by
 obtain ⟨_,_,_,hv,hf⟩:=_eN no;have st:=h.st.put p;have em:(ks++[(e.told,a)]).map (·.1)=ks.map (·.1)++[e.told]:=by rw [Qh];rfl
 rw [←em] at st;have one:∀q∈ks++[(e.told,a)],q∈ks∨q=(e.told,a):=fun q hq=>(Qm.mp hq).imp id (fun z=>by simpa using z);refine ⟨st,fun c=>?_,fun q hq=>?_,?_,fun q hq n hn=>?_,fun q hq=>?_⟩
 ·rw [p.su c,em,_hs];generalize e.told=e' at *;cases e' with
  |_=>rw [show _a0 (Vy B.sums) _ c=Vy B.sums c from rfl,h.sus];exact (Int.add_zero _).symm
 ·rcases one q hq with hq|rfl
  ·exact h.told q hq
  ·exact JG e
 ·rw [Qh,QV];refine ⟨h.keys,by simp,fun x hx y hy z=>?_⟩;have hy':y=e.told.told.key:=by simpa using hy
  obtain ⟨q,hq,rfl⟩:=Qf.mp hx;have kn:(_y (LBk ks).keptD e.told.key).isSome=true:=_lr ⟨q,hq,by rw [h.told q hq] at z;rw [z,hy',JG]⟩;have kv:(_y B.keptD e.told.key).isSome=(_y (LBk ks).keptD e.told.key).isSome:=_lk (l:=B.kept) (m:=ks) h.st.kept;rw [kn,hv] at kv;cases kv
 ·rcases one q hq with hq|rfl
  ·exact h.inp q hq n hn
  ·exact d.2.2 n (by rw [←_mr];exact hn)
 ·rcases one q hq with hq|rfl
  ·exact h.ap q hq
  ·exact _kM (_kp hf)
theorem _oq {l m:List Str} (h:l.Nodup) (s:∀x∈l,x∈m):l.length≤m.length:=by
 induction l generalizing m with
 |nil=>exact QM _
 |cons a l ih =>
  have hn:=QO.mp h;have am:=s a (QA ..);have:=ih (m:=m.erase a) hn.2 fun x hx=>(List.mem_erase_of_ne (fun z=>hn.1 (by rw [←z];exact hx))).mpr (s x (Qv _ hx));rw [List.length_erase_of_mem am] at this;have:=List.length_pos_of_mem am;rw [QH];omega
theorem LI5.names (h:LI5 pool B ks):(_T ks).Nodup∧∀n∈_T ks,n∈pool:=by
 refine ⟨?_,fun n hn=>?_⟩
 ·have k:=h.keys;clear h
  induction ks with
  |nil=>exact .nil
  |cons p ks ih =>
   have kn:=QO.mp (show (p.1.told.key::ks.map fun p=>p.1.told.key).Nodup from k);have ih:=ih kn.2;unfold _T at ih ⊢;rw [Q2];cases hb:p.1.bornName with
   |none=>exact ih
   |some n =>
    refine QO.mpr ⟨fun hm=>?_,ih⟩;obtain ⟨q,hq,eq⟩:=Rj.mp hm;refine kn.1 (Qf.mpr ⟨q,hq,?_⟩)
    have bk:∀e:Ent,e.bornName=some n->e.told.key=[.inr "born",.inr n]:=fun e he=>by
     cases e with
     |born n' s d f m=>cases he;rfl
     |_=>cases he
    rw [bk _ eq,bk _ hb]
 ·obtain ⟨q,hq,eq⟩:=Rj.mp hn;exact h.inp q hq n eq
theorem LI5.ksok (h:LI5 pool B ks) (l:ks.length≤60) (p33:pool.length≤33):KsOk ks∧(_T ks).length<60:=by
 obtain ⟨n1,n2⟩:=h.names;exact ⟨⟨h.told,n1,l⟩,Q8 (_oq n1 n2) (by omega)⟩
structure Fit (xs:List Ent) (e:Ent):Prop where
 kn:∀n∈e.named,∃s d f m,Ent.born n s d f m∈xs∧d≤e.day
 key:∀x∈xs,x.key≠e.told.key
 par:∀n s d f m,e=.born n s d f m->(f=""∨∃d' f' m',Ent.born f "he" d' f' m'∈xs∧d'<d)∧(m=""∨∃d' f' m',Ent.born m "she" d' f' m'∈xs∧d'<d)
 tk:∀c t d,e=.taken c t d->∀sc dc fc mc st dt ft mt,Ent.born c sc dc fc mc∈xs->Ent.born t st dt ft mt∈xs->dt<dc
 ap:e.same=false
noncomputable def BU (xs:List Ent):Prop:=∀{n s d f m s' d' f' m'},Ent.born n s d f m∈xs->Ent.born n s' d' f' m'∈xs->Ent.born n s d f m=.born n s' d' f' m'
theorem V4 {xs:List Ent} (h:B.kept.map (·.1)=xs) (u:BU xs) (hm:Ent.born n s d f m∈xs):Known B n∧X8 B n=s∧_X B n=d:=by
 obtain ⟨a,ha⟩:=_cw (l:=B.kept) (by rw [h];exact hm) fun {s' d' f' m'} hm'=>by
  rw [h] at hm';exact u hm' hm
 exact ⟨by unfold Known;rw [ha];simp,J7 ha rfl,V2 ha rfl⟩
theorem _j5 {xs:List Ent} (h:B.kept.map (·.1)=xs) (u:BU xs) (l:xs.length<400) (b:e.isBorn=true->(_T B.kept).length<60) (f:Fit xs e):XX B e=none:=by
 have kl:=_cf h;refine _kH ?_ (fun n hn=>?_) ?_ ?_
 ·unfold Bk.full;rw [Qn (show ¬400≤B.kept.length by omega),_mH];cases hb:e.isBorn with
  |false=>rfl
  |true=>rw [Qn (show ¬60≤(_T B.kept).length by have:=b hb;omega)];rfl
 ·obtain ⟨s,d,f',m,h1,_⟩:=f.kn n hn;exact (V4 h u h1).1
 ·rw [_nw h f.key];rfl
 ·cases hi:e.isBorn with
  |true =>
   cases e with
   |born n s d fa mo =>
    obtain ⟨p1,p2⟩:=f.par n s d fa mo rfl
    have one:∀{x so:Str},(x=""∨∃d' f' m',Ent.born x so d' f' m'∈xs∧d'<d)->XN B x so d=true:=fun {x so} hx=>by
     unfold XN;rcases hx with rfl|⟨d',f',m',h1,h2⟩
     ·rfl
     ·obtain ⟨_,e1,e2⟩:=V4 h u h1;rw [e1,e2,Qr rfl,Qr h2,GM,Bool.or_true]
    show (XN B fa "he" d&&XN B mo "she" d)=true;rw [one p1,one p2];rfl
   |_=>cases hi
  |false =>
   rw [_aj hi,f.ap]
   have he:e.early B=false:=by
    cases e with
    |taken c t d =>
     obtain ⟨sc,dc,fc,mc,h1,_⟩:=f.kn c (by simp [Ent.named]);obtain ⟨st,dt,ft,mt,h2,_⟩:=f.kn t (by simp [Ent.named]);have h3:=f.tk c t d rfl _ _ _ _ _ _ _ _ h1 h2;show decide (_X B c≤_X B t)=false;rw [(V4 h u h1).2.2,(V4 h u h2).2.2];exact Qn (by omega)
    |_=>rfl
   rw [he];show (e.named.all fun n=>decide (_X B n≤e.day))=true;rw [Ru];intro n hn;obtain ⟨s,d,f',m,h1,h2⟩:=f.kn n hn;rw [(V4 h u h1).2.2];exact Qr h2
inductive GdL (pool:List Str):List Ent->Prop
 |nil:GdL pool []
 |snoc {es:List Ent} {e:Ent} (h:GdL pool es) (d:D5 pool e) (d':D5 pool e.told) (f:Fit (es.map Ent.told) e):GdL pool (es++[e])
theorem GdL.last {l:List Ent} (h:GdL pool l) {xs:List Ent} (el:l=xs++[e]):GdL pool xs∧D5 pool e∧D5 pool e.told∧Fit (xs.map Ent.told) e:=by
 cases h with
 |nil=>simp at el
 |snoc h d d' f =>
  obtain ⟨e1,e2⟩:=List.append_inj' el rfl;obtain ⟨e3,_⟩:=Gj e2;subst e1 e3;exact ⟨h,d,d',f⟩
theorem GdL.take {l:List Ent} (h:GdL pool l):∀i,GdL pool (l.take i):=by
 induction h with
 |nil=>intro i;rw [List.take_nil];exact .nil
 |@snoc xs e h d d' f ih =>
  intro i;by_cases il:i≤xs.length
  ·rw [List.take_append_of_le_length il];exact ih i
  ·rw [NH (by rw [Qx];show _+1≤_;omega)];exact .snoc h d d' f
theorem GdL.bu {l:List Ent} (h:GdL pool l):BU (l.map Ent.told):=by
 induction h with
 |nil=>intro n s d f m s' d' f' m' h1;cases h1
 |@snoc xs e h d5 d5' f ih =>
  intro n s d fa m s' d' f' m' h1 h2;rw [Qh] at h1 h2;have kb:∀{x:Ent} {n s f m:Str} {d:Int},x=.born n s d f m->x.key=[.inr "born",.inr n]:=fun z=>by rw [z];rfl
  rcases Qm.mp h1 with h1|h1<;>rcases Qm.mp h2 with h2|h2
  ·exact ih h1 h2
  ·have e2:=QQ.mp h2;exact absurd (by rw [←e2];rfl) (f.key _ h1)
  ·have e1:=QQ.mp h1;exact absurd (by rw [←e1];rfl) (f.key _ h2)
  ·rw [QQ.mp h1,QQ.mp h2]
theorem GdL.d5 {l:List Ent} (h:GdL pool l):∀e∈l,D5 pool e:=by
 induction h with
 |nil=>intro e he;cases he
 |snoc h d5 d' f ih =>
  intro e he;rcases Qm.mp he with he|he
  ·exact ih e he
  ·rw [QQ.mp he];exact d5
theorem LI5.put' (h:LI5 pool B B.kept) (p:Put B e B') (d:D5 pool e) (no:XX B e=none):LI5 pool B' B'.kept∧B'.kept.map (·.1)=B.kept.map (·.1)++[e.told]:=by
 obtain ⟨a,ha⟩:=p.kept;have z:=h.put p d no a;rw [←ha] at z;exact ⟨z,by rw [ha,Qh];rfl⟩
theorem GdL.ref (li:LI5 pool B B.kept) (hk:B.kept.map (·.1)=es.map Ent.told) (g:GdL pool (es++[e])) (l:B.kept.length≤60) (p33:pool.length≤33):XX B e=none∧D5 pool e∧Room1 B:=by
 obtain ⟨g0,d5,_,f⟩:=g.last rfl;have kl:=_cf hk;refine ⟨_j5 hk g0.bu (by rw [←kl];omega) (fun _=>(li.ksok l p33).2) f,d5,li.room l⟩
theorem Xf {l:List Str} (h:(l.map V.str)[i]?=some v):∃x,l[i]?=some x∧v=.str x:=by
 rw [Qi] at h;obtain ⟨x,hx,rfl⟩:=QE.mp h;exact ⟨x,hx,rfl⟩
theorem _bb {x:Str} (h:x.cps.toList=y.cps.toList):x=y:=by
 obtain ⟨a⟩:=x;obtain ⟨b⟩:=y;have:a=b:=RA.mp h;rw [this]
theorem _k2 (L:List Nat) {k:Nat} (h:k≤L.length):Txt.slice ⟨L.toArray⟩ none (some (k:Int))=⟨(L.take k).toArray⟩:=by
 have hl:k≤(⟨L.toArray⟩:Str).length:=by rw [Ue];exact h
 have e:Txt.slice ⟨L.toArray⟩ none (some (k:Int))=StrLaws.sliceText ⟨L.toArray⟩ (some ((0:Nat):Int)) (some (k:Int)):=by
  show StrLaws.sliceText _ none (some (k:Int))=_;unfold StrLaws.sliceText;rw [StrLaws.sliceIdx_none_lo];rfl
 rw [e,StrLaws.sliceText_nat _ (QM _) hl];refine _bb ?_;simp
theorem _bq {a b:Str} (ha:Nm a) (hb:Nm b) (d1:-10 ^ 18≤d) (d2:d≤10 ^ 18):(Ent.taken a b d).Ok∧(Ent.union a b d).Ok∧(Ent.union a b d).told.Ok∧(Ent.parted a b d).Ok∧(Ent.parted a b d).told.Ok:=by
 refine ⟨⟨VH (.inl rfl) ha hb d1 d2,VU (by trivial) ha hb⟩,⟨VH (.inr (.inl rfl)) ha hb d1 d2,VU (by trivial) ha hb⟩,?_,⟨VH (.inr (.inr rfl)) ha hb d1 d2,VU (by trivial) ha hb⟩,?_⟩
 ·show (Ent.union (_e a b).1 (_e a b).2 d).Ok;unfold _e;split
  ·exact ⟨VH (.inr (.inl rfl)) hb ha d1 d2,VU (by trivial) hb ha⟩
  ·exact ⟨VH (.inr (.inl rfl)) ha hb d1 d2,VU (by trivial) ha hb⟩
 ·show (Ent.parted (_e a b).1 (_e a b).2 d).Ok;unfold _e;split
  ·exact ⟨VH (.inr (.inr rfl)) hb ha d1 d2,VU (by trivial) hb ha⟩
  ·exact ⟨VH (.inr (.inr rfl)) ha hb d1 d2,VU (by trivial) ha hb⟩
theorem GdL.known {l:List Ent} (g:GdL pool l):∀e∈l,∀n∈e.named,∃s d f m,Ent.born n s d f m∈l.map Ent.told:=by
 induction g with
 |nil=>intro e he;cases he
 |@snoc xs e g d d' f ih =>
  intro x hx n hn;rw [Qh];rcases Qm.mp hx with hx|hx
  ·obtain ⟨s,d,f,m,h⟩:=ih x hx n hn;exact ⟨s,d,f,m,Qm.mpr (.inl h)⟩
  ·rw [QQ.mp hx] at hn;obtain ⟨s,d,f,m,h,_⟩:=f.kn n hn;exact ⟨s,d,f,m,Qm.mpr (.inl h)⟩
noncomputable def Y9:List Str:=["F","M","T","f","m","t","S","he","she"]
noncomputable def Wk (x:Str):Bool:=decide (x∈(["he","she"]:List Str))
noncomputable def Y8 (B:Bk) (s n:Str):List Str:=if Wk s=true then (if X8 B n=s then [n] else []) else Yx B s n
noncomputable def XA (L:Str->Str->List Str):List Str->(Str->Prop)->Str->Prop
 |[],P=>P
 |s::w,P=>XA L w fun x=>∃y,P y∧x∈L s y
theorem _aW (L:Str->Str->List Str) (s:Str):∀(w:List Str) (P:Str->Prop),XA L (w++[s]) P=fun x=>∃y,XA L w P y∧x∈L s y
 |[],_=>rfl
 |t::w,P=>_aW L s w _
theorem _ke {l m:List Str} (h1:l.Nodup) (h2:m.Nodup) (h:∀x,x∈l↔x∈m):l.Perm m:=(List.perm_ext_iff_of_nodup h1 h2).mpr h
structure SrtOf (P:Str->Prop) (xs:List Str):Prop where
 up:xs.Pairwise fun a b=>YI a b=true
 nd:xs.Nodup
 mem:∀x,x∈xs↔P x
theorem SrtOf.eq {P Q:Str->Prop} {ys:List Str} (h1:SrtOf P xs) (h2:SrtOf Q ys) (h:∀x,P x↔Q x):xs=ys :=
 UW (_ke h1.nd h2.nd fun x=>(h1.mem x).trans ((h x).trans (h2.mem x).symm)) h1.up h2.up
structure Clo (B:Bk) (pool:List Str):Prop where
 led:∀s∈Y9,∀n,Known B n->∀x∈Y8 B s n,Known B x
 inp:∀n,Known B n->n∈pool
 few:pool.length≤60
theorem X7 (h:xs.Nodup) (s:∀x∈xs,x∈pool):xs.length≤pool.length:=List.Nodup.length_le_of_subset h s
noncomputable abbrev Yo (l:List (Str×V)):List (_k×V):=l.map fun p=>(.inr p.1,p.2)
theorem _d6 {κ α:Type} [DecidableEq κ] (l:List (κ×α)) (c:κ) (x:α):(_n l c x).map (·.1)=if c∈l.map (·.1) then l.map (·.1) else l.map (·.1)++[c]:=by
 unfold _n;by_cases h:c∈l.map (·.1)
 ·have ha:(l.any fun q=>decide (q.1=c))=true:=by
   obtain ⟨q,hq,e⟩:=Qf.mp h;exact Gn.mpr ⟨q,hq,Qr e⟩
  rw [Qb ha,Qb h,QJ];refine R5 fun q _=>?_;show (if q.1=c then (q.1,x) else q).1=q.1;split<;>rfl
 ·have ha:¬(l.any fun q=>decide (q.1=c))=true:=fun z=>by
   obtain ⟨q,hq,e⟩:=Gn.mp z;exact h (Qf.mpr ⟨q,hq,QG e⟩)
  rw [Qa ha,Qa h,Qh];rfl
theorem JJ (l:List (Str×V)) (c:Str) (v:V):Yj (Yo l) (.inr c) v=Yo (_n l c v):=U9 (f:=fun s:Str=>(.inr s:_k)) (fun a b h=>by injection h) id l c v
theorem Ji {κ α:Type} [DecidableEq κ] {l:List (κ×α)} {c:κ} {x:α} (h:(l.map (·.1)).Nodup):((_n l c x).map (·.1)).Nodup:=by
 rw [_d6];split
 ·exact h
 ·rename_i n;exact QV.mpr ⟨h,by simp,fun a ha b hb=>by rw [show b=c by simpa using hb];exact fun e=>n (e▸ha)⟩
theorem JI {κ α:Type} [DecidableEq κ] {l:List (κ×α)} {c:κ} {x:α} (y:κ):y∈(_n l c x).map (·.1)↔y∈l.map (·.1)∨y=c:=by
 rw [_d6];split
 ·rename_i h;exact ⟨.inl,fun z=>z.elim id fun e=>e▸h⟩
 ·rw [Qm,QQ]
theorem Jm (l:List (Str×V)):(Yo l).length=(l.map (·.1)).length:=by rw [Qc,Qc]
theorem _hJ (h:_Y n B.kept=some p) (e:p.1=.born n' s d f m):X8 B n=s:=J7 h e
structure N14 (ns:List Str):Prop where
 len:ns.length=24
 nm:∀n∈ns,Nm n
 nd:ns.Nodup
 nz:("zzzzzzzz" : Str)∉ns
theorem XF {z:Int} (h0:-10 ^ 60≤z) (h:z≤10 ^ 60):z.natAbs<2 ^ 1000:=Q8 (show z.natAbs≤10 ^ 60 by omega) (by trivial)
theorem Xr {j:Int} (h:j≠0):j≠0:=h
noncomputable def Ws (c:Int) (j:Nat):Int:=((c.fdiv 36).fdiv ((j:Int)+1)+5*(j:Int)).fmod 26
noncomputable def Xz (c:Int) (p k n:Nat):List Nat:=(List.range n).map fun j:Nat=>X3 (Ws c j+(k:Int)*(if j=p then 1 else 0))
noncomputable def WH (c:Int) (n p k:Nat):Str:=⟨(Xz c p k n++[97,98].take (k % 3)).toArray⟩
theorem _i1 (c:Int) (p k n:Nat):Xz c p k (n+1)=Xz c p k n++[X3 (Ws c n+(k:Int)*(if n=p then 1 else 0))]:=by
 unfold Xz;rw [List.range_succ,Qh];rfl
theorem VN (c:Int) (p k n:Nat):(Xz c p k n).length=n:=by unfold Xz;rw [Qc,RN]
theorem _kI (L:List Nat) (x:Nat):(⟨L.toArray⟩:Str)++⟨#[x]⟩=⟨(L++[x]).toArray⟩:=by
 refine _bb ?_;show (L.toArray++#[x]).toList=(L++[x]).toArray.toList;simp
theorem _h6 (L M:List Nat):(⟨L.toArray⟩:Str)++⟨M.toArray⟩=⟨(L++M).toArray⟩:=by
 refine _bb ?_;show (L.toArray++M.toArray).toList=(L++M).toArray.toList;simp
theorem _eO (k:Nat):Txt.slice "ab" none (some (((k:Int).fmod 3:Int)))=⟨([97,98].take (k % 3)).toArray⟩:=by
 have e:(k:Int).fmod 3=((k % 3:Nat):Int):=by rw [NS _ (by decide)];rfl
 rw [e];exact _k2 [97,98] (show k % 3≤2 by omega)
theorem _mL {c:Int} {n p:Nat} (h1:1≤n) (h6:n≤6) (hp:p<n):N14 ((List.range 24).map (WH c n p)) where
 len:=by rw [Qc,RN]
 nm:=fun x hx=>by
  obtain ⟨k,_,rfl⟩:=Qf.mp hx
  have hl:(WH c n p k).length=n+min (k % 3) 2:=by
   unfold WH;rw [Ue,Qx,VN,QU];rfl
  refine ⟨by omega,by omega,?_⟩;show (Xz c p k n++[97,98].take (k % 3)).toArray.toList.all XB=true;rw [List.toList_toArray,List.all_append,Rl];refine ⟨Ru.mpr fun y hy=>?_,Ru.mpr fun y hy=>?_⟩
  ·unfold Xz at hy;obtain ⟨j,_,rfl⟩:=Qf.mp hy;exact _oa _
  ·have:y∈[97,98]:=Q0 hy;simp only [Qo,Q5,Q6] at this;rcases this with rfl|rfl<;>trivial
 nd:=by
  refine (List.nodup_iff_pairwise_ne.mpr ?_);rw [GN];refine List.Pairwise.imp_of_mem (R:=fun a b=>a<b) (fun {a b} ha hb hab e=>?_) List.pairwise_lt_range;have a24:=No.mp ha;have b24:=No.mp hb
  have g:∀k,(Xz c p k n++[97,98].take (k % 3))[p]?=some (X3 (Ws c p+(k:Int))):=fun k=>by
   rw [RI (by rw [VN];exact hp)];unfold Xz;rw [Qi,GO hp];simp
  have e':(Xz c p a n++[97,98].take (a % 3))[p]?=(Xz c p b n++[97,98].take (b % 3))[p]?:=by
   have:=Qk (fun s:Str=>s.cps.toList[p]?) e;simpa [WH] using this
  rw [g,g] at e';obtain ⟨w,hw⟩:=_kn _ _ (_ir (Ql e'));omega
 nz:=fun hz=>by
  obtain ⟨k,_,e⟩:=Qf.mp hz
  have hl:(WH c n p k).length=n+min (k % 3) 2:=by
   unfold WH;rw [Ue,Qx,VN,QU];rfl
  rw [e] at hl;have h8:("zzzzzzzz" : Str).length=8:=by trivial
  have k2:k % 3=2:=by omega
  have n6:n=6:=by omega
  have:=Qk (fun s:Str=>s.cps.toList[7]?) e
  have g:(WH c n p k).cps.toList[7]?=some 98:=by
   show ((Xz c p k n++[97,98].take (k % 3)).toArray.toList)[7]?=_;rw [List.toList_toArray,RW (by rw [VN];omega),VN,k2,n6];rfl
  have z:("zzzzzzzz" : Str).cps.toList[7]?=some 122:=by trivial
  have t:(WH c n p k).cps.toList[7]?=("zzzzzzzz" : Str).cps.toList[7]?:=this;rw [g,z] at t;cases t
noncomputable abbrev Pp:=Str×Addr×Str×Int
noncomputable abbrev XR (ps:List Pp):List (_k×V):=ps.map fun p=>(.inr p.1,.ref p.2.1)
structure PpAt (K:W.Frag) (H:Hp) (D:Addr) (ps:List Pp):Prop where
 d:H D=some (.dK (XR ps))
 t:∀p∈ps,SqT K H p.2.1 [.str p.2.2.1,.int p.2.2.2]
 nd:(ps.map (·.1)).Nodup
theorem PpAt.mono (h:PpAt K H D ps) (s:Same H H'):PpAt K H' D ps:=⟨s _ _ h.d,fun p hp=>s.sqt (h.t p hp),h.nd⟩
theorem _aG {κ α:Type} [DecidableEq κ] {f:α->κ} {g:α->V}:∀{l:List α} {p:α},(l.map f).Nodup->p∈l->_y (l.map fun p=>(f p,g p)) (f p)=some (g p)
 |[],_,_,h=>by cases h
 |a::l,p,nd,h=>by
  obtain ⟨n1,n2⟩:=QO.mp nd;unfold _y;rw [Qs,Rz];by_cases e:f a=f p
  ·have:p=a:=by
    rcases Qo.mp h with rfl|h
    ·rfl
    ·exact absurd (e▸RD h) n1
   subst this;simp
  ·have hp:p∈l:=by
    rcases Qo.mp h with rfl|h
    ·exact absurd rfl e
    ·exact h
   simp only [e,decide_false];exact _aG n2 hp
theorem _jy {κ α:Type} [DecidableEq κ] {f:α->κ} {g:α->V} {l:List α} {k:κ} (h:k∉l.map f):_y (l.map fun p=>(f p,g p)) k=none:=by
 unfold _y;rw [Nk.mpr fun x hx=>?_]
 ·rfl
 ·obtain ⟨p,hp,rfl⟩:=Qf.mp hx;intro z;exact h (by rw [←QG z];exact RD hp)
theorem _mv (h:(ps.map (·.1)).Nodup):(ps.map fun p=>(.inr p.1:_k)).Nodup:=by
 rw [show (fun p:Pp=>(.inr p.1:_k))=(fun s:Str=>(.inr s:_k))∘(fun p:Pp=>p.1) from rfl,←QJ];exact h.map _ fun a b n e=>n (Ri e)
theorem PpAt.get (nd:(ps.map (·.1)).Nodup) (h:Rd H D (.dK (XR ps))) {p:Pp} (hp:p∈ps):DGet H D (.str p.1) (some (.ref p.2.1)) :=
 .inl ⟨_,.inr p.1,h,rfl,(_aG (f:=fun p:Pp=>(.inr p.1:_k)) (g:=fun p:Pp=>V.ref p.2.1) (_mv nd) hp).symm⟩
theorem _hW {d:Addr} {o:Obj} (h:H d=some (.dK kvs)) (s:Same (_b H d (.frz o (.dK kvs))) H'):Same H (_b H' d (.dK kvs)):=fun a u e=>by
 by_cases z:a=d
 ·subst z;rw [_f,←e,h]
 ·rw [_g z];exact s a u (by rw [_g z];exact e)
theorem _p3 {o:Obj} {xs:List V} (h:H D=some (.dK kvs)) (q:SqT K H a xs):SqT K (_b H D (.frz o (.dK kvs))) a xs:=YH q h (fun _ z=>by cases z) (fun _ _ z=>by cases z)
noncomputable def U3 (d:Int) (p:Pp):Option V:=if p.2.2.2<d then some (.str p.1) else none
theorem _dQ (d:Int):∀ps:List Pp,(ps.map (U3 d)).filterMap id=((ps.filter fun p=>decide (p.2.2.2<d)).map (·.1)).map V.str
 |[]=>rfl
 |p::ps=>by
  have ih:=_dQ d ps;rw [Qs,Q2,R4];unfold U3 at ih ⊢;by_cases h:p.2.2.2<d
  ·rw [Qb h,Qr h];simp only [id,Rr,Qs];rw [ih]
  ·rw [Qa h,Qn h];simp only [id];exact ih
noncomputable def WU (s:Str) (p:Pp):Option V:=if p.2.2.1=s then some (.str p.1) else none
theorem _a7 (s:Str):∀ps:List Pp,(ps.map (WU s)).filterMap id=((ps.filter fun p=>decide (p.2.2.1=s)).map (·.1)).map V.str
 |[]=>rfl
 |p::ps=>by
  have ih:=_a7 s ps;rw [Qs,Q2,R4];unfold WU at ih ⊢;by_cases h:p.2.2.1=s
  ·rw [Qb h,Qr h];simp only [id,Rr,Qs];rw [ih]
  ·rw [Qa h,Qn h];simp only [id];exact ih
noncomputable def X2 (ps:List Pp) (s:Str) (d:Int) (f:Str):Prop:=f=""∨∃p∈ps,p.1=f∧p.2.2.1=s∧p.2.2.2<d
theorem _cc {α:Type} (g:α->V) (xs:List α) (h:0<xs.length) (z:Int):∃x∈xs,_6 (xs.map g) (z.fmod ((xs.map g).length:Int))=some (g x):=by
 have e:((xs.map g).length:Int)=(xs.length:Int):=by rw [Qc]
 rw [e];have h0:=QW z (show (0:Int)<xs.length by omega);have h1:=Q7 z (show (0:Int)<xs.length by omega);obtain ⟨j,hj⟩:∃j:Nat,z.fmod (xs.length:Int)=(j:Int):=⟨(z.fmod (xs.length:Int)).toNat,by omega⟩;have jl:j<xs.length:=by omega
 refine ⟨xs[j],Gh jl,?_⟩;rw [hj];exact YB (by rw [Qi,Qu jl];rfl)
noncomputable def JS:List Str:=["he","she","he","she",""]
theorem _jG (z:Int):∃s:Str,(s="he"∨s="she"∨s="")∧_6 [V.str "he",V.str "she",V.str "he",V.str "she",V.str ""] (z.fmod 5)=some (V.str s):=by
 obtain ⟨s,hs,e⟩:=_cc V.str JS (by decide) z;refine ⟨s,?_,e⟩;simp only [JS,Qo,Q5,Q6] at hs;rcases hs with h|h|h|h|h
 ·exact .inl h
 ·exact .inr (.inl h)
 ·exact .inl h
 ·exact .inr (.inl h)
 ·exact .inr (.inr h)
theorem _hh {b:TS} {D:Ends} (h:b D (σ.set i (some v)) H):_a8 (JL (tC v) (_V i)) b D σ H:=h
structure DeedF (ps:List Pp) (e:Ent):Prop where
 nb:e.isBorn=false
 kn:∀n∈e.named,∃p∈ps,p.1=n∧p.2.2.2≤e.day
 tk:∀c t d,e=.taken c t d->∀pc∈ps,∀pt∈ps,pc.1=c->pt.1=t->pt.2.2.2<pc.2.2.2
 ap:e.same=false
 lo:-10 ^ 18≤e.day
 hi:e.day≤10 ^ 18
 sort:e.tie=true∨∃c t d,e=.taken c t d
noncomputable abbrev Va (kn:List (List _k)):List (List _k×V):=kn.map fun k=>(k,.bl true)
noncomputable def _e3 (ps:List Pp) (kn:List (List _k)):Prop:=∀k∈kn,∃e,k=e.told.key∧DeedF ps e
theorem _pH (nd:(ps.map (·.1)).Nodup) (h2:2≤ps.length) (c:Int):∃p∈ps,∃q∈ps,p.1≠q.1∧_6 ((ps.map (·.1)).map V.str) (c.fmod (((ps.map (·.1)).map V.str).length:Int))=some (.str p.1) ∧
  _6 ((ps.map (·.1)).map V.str) ((c+1+(c.fdiv 24).fmod ((((ps.map (·.1)).map V.str).length:Int)-1)).fmod (((ps.map (·.1)).map V.str).length:Int))=some (.str q.1):=by
 have el:(((ps.map (·.1)).map V.str).length:Int)=(ps.length:Int):=by rw [Qc,Qc]
 rw [el];obtain ⟨n,hn⟩:∃n:Int,n=(ps.length:Int):=⟨_,rfl⟩;rw [←hn];have n2:2≤n:=by omega
 have i0:=QW c (show (0:Int)<n by omega);have i1:=Q7 c (show (0:Int)<n by omega);have r0:=QW (c.fdiv 24) (show (0:Int)<n-1 by omega);have r1:=Q7 (c.fdiv 24) (show (0:Int)<n-1 by omega);generalize (c.fdiv 24).fmod (n-1)=r at *;have j0:=QW (c+1+r) (show (0:Int)<n by omega);have j1:=Q7 (c+1+r) (show (0:Int)<n by omega)
 have ne:c.fmod n≠(c+1+r).fmod n:=fun e=>by
  have d1:=Nl c n;have d2:=Nl (c+1+r) n;rw [←e] at d2;have d3:n*(c+1+r).fdiv n-n*c.fdiv n=1+r:=by omega
  rw [←Int.mul_sub] at d3;generalize (c+1+r).fdiv n-c.fdiv n=w at *;have:w≤0∨1≤w:=by omega
  rcases this with hw|hw
  ·have:=Mb hw (show 0≤n by omega);omega
  ·have:=Mb hw (show 0≤n by omega);omega
 obtain ⟨i,hi⟩:∃i:Nat,c.fmod n=(i:Int):=⟨(c.fmod n).toNat,by omega⟩;obtain ⟨j,hj⟩:∃j:Nat,(c+1+r).fmod n=(j:Int):=⟨((c+1+r).fmod n).toNat,by omega⟩;have il:i<ps.length:=by omega
 have jl:j<ps.length:=by omega
 have at':∀{k:Nat} (h:k<ps.length),_6 ((ps.map (·.1)).map V.str) (k:Int)=some (.str ps[k].1):=fun {k} h=>YB (by rw [Qi,Qi,Qu h];rfl);refine ⟨ps[i],Gh il,ps[j],Gh jl,fun e=>?_,by rw [hi];exact at' il,by rw [hj];exact at' jl⟩;have:i=j:=(GQ (h₀:=by rw [Qc];exact il) (h₁:=by rw [Qc];exact jl) nd).mp (by rw [Gp,Gp];exact e);omega
structure TwoOk (ps:List Pp) (p q:Pp) (day:Int):Prop where
 ip:p∈ps
 iq:q∈ps
 ne:p.1≠q.1
 lp:p.2.2.2≤day
 lq:q.2.2.2≤day
 lo:-10 ^ 18≤day
 hi:day≤10 ^ 18
theorem TwoOk.swap {p q:Pp} {day:Int} (h:TwoOk ps p q day):TwoOk ps q p day:=⟨h.iq,h.ip,h.ne.symm,h.lq,h.lp,h.lo,h.hi⟩
theorem TwoOk.tie {p q:Pp} {day:Int} (h:TwoOk ps p q day) (b:Bool):DeedF ps (if b=true then .parted p.1 q.1 day else .union p.1 q.1 day):=by
 cases b with
 |false => exact ⟨rfl, fun n hn => by
   have:n=p.1∨n=q.1:=by simpa [Ent.named] using hn
   rcases this with rfl|rfl
   ·exact ⟨p,h.ip,rfl,h.lp⟩
   ·exact ⟨q,h.iq,rfl,h.lq⟩,fun _ _ _ z=>(by cases z),Qn h.ne,h.lo,h.hi,.inl rfl⟩
 |true => exact ⟨rfl, fun n hn => by
   have:n=p.1∨n=q.1:=by simpa [Ent.named] using hn
   rcases this with rfl|rfl
   ·exact ⟨p,h.ip,rfl,h.lp⟩
   ·exact ⟨q,h.iq,rfl,h.lq⟩,fun _ _ _ z=>(by cases z),Qn h.ne,h.lo,h.hi,.inl rfl⟩
theorem _af (nd:(ps.map (·.1)).Nodup) {p q:Pp} (hp:p∈ps) (hq:q∈ps) (e:p.1=q.1):p=q:=by
 obtain ⟨i,hi,rfl⟩:=Gi hp;obtain ⟨j,hj,rfl⟩:=Gi hq;have:i=j:=(GQ (h₀:=by rw [Qc];exact hi) (h₁:=by rw [Qc];exact hj) nd).mp (by rw [Gp,Gp];exact e);subst this;rfl
theorem TwoOk.taken {p q:Pp} {day:Int} (nd:(ps.map (·.1)).Nodup) (h:TwoOk ps p q day) (lt:q.2.2.2<p.2.2.2):DeedF ps (.taken p.1 q.1 day) :=
 ⟨rfl, fun n hn => by
   have:n=p.1∨n=q.1:=by simpa [Ent.named] using hn
   rcases this with rfl|rfl
   ·exact ⟨p,h.ip,rfl,h.lp⟩
   ·exact ⟨q,h.iq,rfl,h.lq⟩,fun c t d z pc hpc pt hpt e1 e2=>by
  cases z;rw [_af nd hpc h.ip e1,_af nd hpt h.iq e2];exact lt,Qn h.ne,h.lo,h.hi,.inr ⟨_,_,_,rfl⟩⟩
theorem _kJ (b:Bool) (x y:Str) (d:Int):(if b=true then Ent.parted x y d else .union x y d).told.key=[.inr "tie",.inr (_e x y).1,.inr (_e x y).2,.inl d]:=by cases b<;>rfl
theorem _hA (b:Bool) (x y:Str) (d:Int):(if b=true then Ent.parted x y d else .union x y d).row=[.inr (if b=true then "parted" else "union"),.inr x,.inr y,.inl d]:=by cases b<;>rfl
theorem _i3 (b:Bool):_6 [V.str "union",V.str "parted"] (if b=true then 1 else 0)=some (.str (if b=true then "parted" else "union")):=by cases b<;>rfl
theorem _m5 {kn:List (List _k)} {k:List _k} (h:k∈kn):(_y (Va kn) k).isSome=true:=by
 unfold _y;cases e:(Va kn).find? fun kv=>decide (kv.1=k) with
 |none=>exact absurd (Nk.mp e (k,.bl true) (Qf.mpr ⟨k,h,rfl⟩)) (by simp)
 |some x=>rfl
theorem _dm {kn:List (List _k)} {k:List _k} (h:k∉kn):_y (Va kn) k=none:=by
 unfold _y;rw [Nk.mpr fun x hx=>?_]
 ·rfl
 ·obtain ⟨k',hk',rfl⟩:=Qf.mp hx;intro z;exact h (by rw [←QG z];exact hk')
noncomputable def _aX:Ent->Option (Str×Str×Int)
 |.born n s d _ _=>some (n,s,d)
 |_=>none
structure EI (ns:List Str) (es:List Ent) (ps:List Pp) (kn:List (List _k)):Prop where
 good:GdL ns es
 born:es.filterMap _aX=ps.map fun p=>(p.1,p.2.2)
 nm:ps.map (·.1)=ns.take ps.length
 len:ps.length≤24
 keys:∀e∈es,e.isBorn=false->e.told.key∈kn
 ok:_e3 ps kn
 pd:∀p∈ps,-10 ^ 18≤p.2.2.2∧p.2.2.2≤10 ^ 18
 knl:kn.length≤es.length
theorem EI.start:EI ns [] [] []:=⟨.nil,rfl,rfl,QM _,fun e h=>(by cases h),fun k h=>(by cases h),fun p h=>(by cases h),Qe _⟩
section
variable {kn:List (List _k)}
theorem _ge:(n,s,d)∈es.filterMap _aX↔∃f m,Ent.born n s d f m∈es:=by
 constructor
 ·intro h;obtain ⟨e,he,eb⟩:=Rj.mp h;cases e with
  |born n' s' d' f m=>cases eb;exact ⟨f,m,he⟩
  |_=>cases eb
 ·rintro ⟨f,m,h⟩;exact Rj.mpr ⟨_,h,rfl⟩
theorem EI.of_ps (h:EI ns es ps kn) {p:Pp} (hp:p∈ps):∃f m,Ent.born p.1 p.2.2.1 p.2.2.2 f m∈es:=by
 refine _ge.mp ?_;rw [h.born];exact Qf.mpr ⟨p,hp,rfl⟩
theorem EI.to_ps (h:EI ns es ps kn) (hb:Ent.born n s d f m∈es):∃p∈ps,p.1=n∧p.2.2=(s,d):=by
 have:=_ge.mpr ⟨f,m,hb⟩;rw [h.born] at this;obtain ⟨p,hp,e⟩:=Qf.mp this;exact ⟨p,hp,Qk (·.1) e,Qk (·.2) e⟩
theorem EI.nd (h:EI ns es ps kn) (N:N14 ns):(ps.map (·.1)).Nodup:=by rw [h.nm];exact N.nd.sublist (RJ ..)
theorem EI.mem (h:EI ns es ps kn) {p:Pp} (hp:p∈ps):p.1∈ns:=by
 have:p.1∈ps.map (·.1):=RD hp;rw [h.nm] at this;exact Q0 this
theorem _nH (h:e.told=.born n s d f m):e=.born n s d f m:=by
 cases e with
 |born=>exact h
 |union=>cases h
 |parted=>cases h
 |taken=>cases h
theorem W6:Ent.born n s d f m∈es.map Ent.told↔Ent.born n s d f m∈es:=by
 constructor
 ·intro h;obtain ⟨e,he,ee⟩:=Qf.mp h;rw [←_nH ee];exact he
 ·exact fun h=>Qf.mpr ⟨_,h,rfl⟩
theorem DeedF.mono {p:Pp} (h:DeedF ps e) (nd:((ps++[p]).map (·.1)).Nodup):DeedF (ps++[p]) e:=by
 refine ⟨h.nb,fun n hn=>?_,fun c t d z pc hpc pt hpt e1 e2=>?_,h.ap,h.lo,h.hi,h.sort⟩
 ·obtain ⟨q,hq,r⟩:=h.kn n hn;exact ⟨q,QL _ hq,r⟩
 ·obtain ⟨q1,h1,n1,_⟩:=h.kn c (by rw [z];simp [Ent.named]);obtain ⟨q2,h2,n2,_⟩:=h.kn t (by rw [z];simp [Ent.named]);have g1:=_af nd hpc (QL _ h1) (e1.trans n1.symm);have g2:=_af nd hpt (QL _ h2) (e2.trans n2.symm);rw [g1,g2];exact h.tk c t d z q1 h1 q2 h2 n1 n2
theorem DeedF.key_ne (h:DeedF ps e) (n:Str):([.inr "born",.inr n]:List _k)≠e.told.key:=fun z=>by
 have hd:∀{w:Str} {r:List _k},e.told.key=.inr w::r->("born" : Str)=w:=fun z'=>by rw [z'] at z;exact Ri (Gj z).1
 cases e with
 |born=>cases h.nb
 |union=>exact absurd (hd rfl) (by trivial)
 |parted=>exact absurd (hd rfl) (by trivial)
 |taken=>exact absurd (hd rfl) (by trivial)
theorem _mC (e:Ent):e.told.isBorn=e.isBorn:=by cases e<;>rfl
theorem EI.deed (N:N14 ns) (h:EI ns es ps kn) (de:DeedF ps e) (nk:e.told.key∉kn):EI ns (es++[e]) ps (kn++[e.told.key]):=by
 have nms:∀n∈e.named,Nm n∧n∈ns:=fun n hn=>by
  obtain ⟨p,hp,rfl,_⟩:=de.kn n hn;exact ⟨N.nm _ (h.mem hp),h.mem hp⟩
 have okk:e.Ok∧e.told.Ok:=by
  rcases de.sort with t|⟨c,t,d,rfl⟩
  ·cases e with
   |union a b d =>
    have k:=_bq (nms a (by simp [Ent.named])).1 (nms b (by simp [Ent.named])).1 de.lo de.hi;exact ⟨k.2.1,k.2.2.1⟩
   |parted a b d =>
    have k:=_bq (nms a (by simp [Ent.named])).1 (nms b (by simp [Ent.named])).1 de.lo de.hi;exact ⟨k.2.2.2.1,k.2.2.2.2⟩
   |_=>cases t
  ·have k:=_bq (nms c (by simp [Ent.named])).1 (nms t (by simp [Ent.named])).1 de.lo de.hi;exact ⟨k.1,k.1⟩
 have nb:∀{x:Ent},x.isBorn=false->∀n,x.bornName=some n->n∈ns:=fun {x} hx n hn=>by
  cases x with
  |born=>cases hx
  |_=>cases hn
 have tn:∀n∈e.told.named,n∈e.named:=fun n hn=>_gz e n hn;refine ⟨.snoc h.good ⟨okk.1,fun n hn=>(nms n hn).2,nb de.nb⟩ ⟨okk.2,fun n hn=>(nms n (tn n hn)).2,nb (by rw [_mC];exact de.nb)⟩ ⟨fun n hn=>?_,fun x hx=>?_,fun n s d f m z=>?_,fun c t d z sc dc fc mc st dt ft mt h1 h2=>?_,de.ap⟩,?_,h.nm,h.len,fun x hx hb=>?_,fun k hk=>?_,h.pd,by rw [Qx,Qx];exact NT h.knl⟩
 ·obtain ⟨p,hp,rfl,le⟩:=de.kn n hn;obtain ⟨f,m,hb⟩:=h.of_ps hp;exact ⟨_,_,f,m,W6.mpr hb,le⟩
 ·obtain ⟨y,hy,rfl⟩:=Qf.mp hx;cases hb:y.isBorn with
  |true =>
   cases y with
   |born n s d f m=>exact de.key_ne n
   |_=>cases hb
  |false=>exact fun z=>nk (z▸h.keys y hy hb)
 ·rw [z] at de;exact absurd de.nb (by simp [Ent.isBorn])
 ·obtain ⟨p1,g1,e1,t1⟩:=h.to_ps (W6.mp h1);obtain ⟨p2,g2,e2,t2⟩:=h.to_ps (W6.mp h2);have:=de.tk c t d z p1 g1 p2 g2 e1 e2;rw [t1,t2] at this;exact this
 ·rw [Rv,h.born]
  have:[e].filterMap _aX=[]:=by
   cases e with
   |born=>cases de.nb
   |_=>rfl
  rw [this,QC]
 ·rcases Qm.mp hx with hx|hx
  ·exact QL _ (h.keys x hx hb)
  ·rw [show x=e by simpa using hx];exact QT _ (by simp)
 ·rcases Qm.mp hk with hk|hk
  ·exact h.ok k hk
  ·exact ⟨e,by simpa using hk,de⟩
theorem EI.birth (N:N14 ns) (h:EI ns es ps kn) (hn:ns[ps.length]?=some n) (l24:ps.length<24) (hs:s="he"∨s="she"∨s="") (hf:X2 ps "he" d f) (hm:X2 ps "she" d m) (d1:-10 ^ 18≤d) (d2:d≤10 ^ 18) :
  EI ns (es++[.born n s d f m]) (ps++[(n,a,s,d)]) kn:=by
 have nn:n∈ns:=Qt hn;have pn:∀{w x:Str},X2 ps w d x->x=""∨x∈ns:=fun {w x} hx=>hx.imp id fun ⟨p,hp,e,_⟩=>e▸h.mem hp;have pm:∀{w x:Str},X2 ps w d x->x=""∨Nm x:=fun hx=>(pn hx).imp id (N.nm _);have okk:=_pP (N.nm n nn) hs d1 d2 (pm hf) (pm hm)
 have nmd:∀x∈(Ent.born n s d f m).named,(x=f∨x=m)∧x≠"":=fun x hx=>by
  obtain ⟨h1,h2⟩:=QX.mp hx;exact ⟨by simpa using h1,QG h2⟩
 have par:∀{w x:Str},X2 ps w d x->x=""∨∃d' f' m',Ent.born x w d' f' m'∈es.map Ent.told∧d'<d:=fun {w x} hx=>hx.imp id fun ⟨p,hp,e1,e2,e3⟩=>by
  obtain ⟨f',m',hb⟩:=h.of_ps hp;rw [e1,e2] at hb;exact ⟨_,f',m',W6.mpr hb,e3⟩
 have d5:D5 ns (.born n s d f m):=⟨okk,fun x hx=>by
  obtain ⟨h1,h2⟩:=nmd x hx;rcases h1 with rfl|rfl
  ·exact (pn hf).resolve_left h2
  ·exact (pn hm).resolve_left h2,fun x hx=>by cases hx;exact nn⟩
 have nm':(ps++[(n,a,s,d)]).map (·.1)=ns.take (ps.length+1):=by rw [Qh,h.nm,Q1,hn];rfl
 have nd':((ps++[(n,a,s,d)]).map (·.1)).Nodup:=by rw [nm'];exact N.nd.sublist (RJ ..)
 refine ⟨.snoc h.good d5 d5 ⟨fun x hx=>?_,fun x hx=>?_,fun n' s' d' f' m' z=>?_,fun c t d' z=>(by cases z),rfl⟩,?_,by rw [nm',Qx];rfl,by rw [Qx];exact l24,fun x hx hb=>?_,fun k hk=>?_,fun p hp=>?_,by rw [Qx];exact NU h.knl⟩
 ·obtain ⟨h1,h2⟩:=nmd x hx
  have go:∀{w:Str},X2 ps w d x->∃s' d' f' m',Ent.born x s' d' f' m'∈es.map Ent.told∧d'≤d:=fun hx=>by
   rcases par hx with z|⟨d',f',m',hb,lt⟩
   ·exact absurd z h2
   ·exact ⟨_,d',f',m',hb,Int.le_of_lt lt⟩
  rcases h1 with rfl|rfl
  ·exact go hf
  ·exact go hm
 ·obtain ⟨y,hy,rfl⟩:=Qf.mp hx;cases hb:y.isBorn with
  |true =>
   cases y with
   |born n' s' d' f' m' =>
    intro z
    have z':n'=n:=by
     have:([.inr "born",.inr n']:List _k)=[.inr "born",.inr n]:=z;simpa using this
    obtain ⟨p,hp,e1,_⟩:=h.to_ps hy;have m1:n∈ps.map (·.1):=Qf.mpr ⟨p,hp,e1.trans z'⟩;rw [Qh] at nd';exact (QV.mp nd').2.2 n m1 n (by simp) rfl
   |_=>cases hb
  |false =>
   obtain ⟨e,he,de⟩:=h.ok _ (h.keys y hy hb);intro z;exact de.key_ne n (by rw [←he];exact z.symm)
 ·cases z;exact ⟨par hf,par hm⟩
 ·rw [Rv,h.born,Qh];rfl
 ·rcases Qm.mp hx with hx|hx
  ·exact h.keys x hx hb
  ·rw [show x=.born n s d f m by simpa using hx] at hb;cases hb
 ·obtain ⟨e,he,de⟩:=h.ok k hk;exact ⟨e,he,de.mono nd'⟩
 ·rcases Qm.mp hp with hp|hp
  ·exact h.pd p hp
  ·rw [show p=(n,a,s,d) by simpa using hp];exact ⟨d1,d2⟩
end
theorem _aB {kvs:List (List _k×V)} {xs:List V} (fr:∀b u,b≠D->H b=some u->H' b=some u) (h:H D=some (.dT kvs)) (q:SqT K H a xs):SqT K H' a xs:=by
 rcases q with (q|⟨o,q⟩)|q
 ·exact .inl (.inl (fr _ _ (fun z=>by rw [z,h] at q;cases q) q))
 ·exact .inl (.inr ⟨o,fr _ _ (fun z=>by rw [z,h] at q;cases q) q⟩)
 ·exact .inr q
theorem _dt (h:n∉ps.map (·.1)):Yj (XR ps) (.inr n) (.ref a)=XR (ps++[(n,a,s,d)]):=by
 rw [VB _ (_jy (f:=fun p:Pp=>(.inr p.1:_k)) (g:=fun p:Pp=>V.ref p.2.1) (fun z=>?_))]
 ·unfold XR;rw [Qh];rfl
 ·obtain ⟨p,hp,e⟩:=Qf.mp z;exact h (Qf.mpr ⟨p,hp,Ri e⟩)
theorem _hy (ks:List (Ent×Addr)) (p:Ent×Addr):XM (ks++[p])=XM ks++[.ref p.2]:=by unfold XM;rw [Qh];rfl
noncomputable abbrev Ed:=List ((Str×Str)×Addr×List Str)
noncomputable abbrev Xx (ed:Ed):List (List _k×V):=ed.map fun q=>(_x q.1,.ref q.2.1)
structure EdAt (H:Hp) (D:Addr) (ed:Ed):Prop where
 d:H D=some (.dT (Xx ed))
 l:∀q∈ed,H q.2.1=some (.lst (q.2.2.map V.str))
 an:(ed.map (·.2.1)).Nodup
 kn:(ed.map (·.1)).Nodup
theorem EdAt.monoX (h:EdAt H D ed) (s:_dK H H'):EdAt H' D ed:=⟨s _ _ rfl h.d,fun q hq=>s _ _ rfl (h.l q hq),h.an,h.kn⟩
theorem EdAt.mono (h:EdAt H D ed) (s:Same H H'):EdAt H' D ed:=h.monoX s.x
structure EdB (ed:Ed) (n:Nat):Prop where
 len:ed.length≤n
 ll:∀q∈ed,1≤q.2.2.length∧q.2.2.length≤n
noncomputable def _W (f:Str×Str->List Str) (c:Str×Str) (x:Str):Str×Str->List Str:=fun c'=>if c'=c then f c++[x] else f c'
structure FrE (D:Addr) (ed:Ed) (H H':Hp) (ed':Ed):Prop where
 fr:∀b u,b≠D->b∉ed.map (·.2.1)->H b=some u->H' b=some u
 gr:∀b∈ed'.map (·.2.1),b∈ed.map (·.2.1)∨H b=none
 al:∀b,H' b=none->H b=none
theorem FrE.trans {ed1 ed2:Ed} {H2:Hp} (a:FrE D ed H H1 ed1) (b:FrE D ed1 H1 H2 ed2):FrE D ed H H2 ed2 where
 fr:=fun c u nd nm e=>b.fr c u nd (fun z=>(a.gr c z).elim nm fun z=>by rw [e] at z;cases z) (a.fr c u nd nm e)
 gr:=fun c hc=>(b.gr c hc).elim (a.gr c) fun z=>.inr (a.al c z)
 al:=fun c n=>a.al c (b.al c n)
theorem FrE.same (f:FrE D ed H H' ed') (s:Same H0 H) (nD:H0 D=none) (ne:∀b∈ed.map (·.2.1),H0 b=none):Same H0 H'∧∀b∈ed'.map (·.2.1),H0 b=none:=by
 refine ⟨fun b u e=>f.fr b u (fun z=>by rw [z,nD] at e;cases e) (fun z=>by rw [ne b z] at e;cases e) (s _ _ e),fun b hb=>(f.gr b hb).elim (ne b) fun z=>_N s z⟩
theorem WX {x:Addr×List Str} (h:_K c ed=some x):(c,x)∈ed:=by
 induction ed with
 |nil=>cases h
 |cons q r ih =>
  unfold _K at h;split at h
  ·rename_i e;cases h;rw [←e];exact QA ..
  ·exact Qv _ (ih h)
theorem _ft {q:(Str×Str)×Addr×List Str} (nd:(ed.map (·.1)).Nodup) (h:q∈ed):_K q.1 ed=some q.2:=by
 induction ed with
 |nil=>cases h
 |cons p r ih =>
  obtain ⟨n1,n2⟩:=QO.mp nd;unfold _K;rcases Qo.mp h with rfl|h
  ·rw [Qb rfl]
  ·rw [Qa (fun z=>n1 (by show p.1∈_;rw [z];exact RD (f:=(·.1)) h))];exact ih n2 h
theorem Jb {q:(Str×Str)×Addr×List Str} (nd:(ed.map (·.1)).Nodup) (h:q∈ed):lk ed q.1=q.2.2:=by unfold lk;rw [_ft nd h];rfl
theorem _aN (h:_K c ed=none):lk ed c=[]:=by unfold lk;rw [h];rfl
theorem _da (h:_K c ed=none):c∉ed.map (·.1):=fun z=>by
 induction ed with
 |nil=>cases z
 |cons p r ih =>
  unfold _K at h;split at h
  ·cases h
  ·rename_i ne;rcases Qo.mp z with z|z
   ·exact ne z.symm
   ·exact ih h z
theorem _lW {x:Str} {n:Nat} (h:EdAt H D ed) (hb:EdB ed n) (hc:_K c ed=some (b,xs)) :
  ∃ed',EdAt (_b H b (.lst (xs.map V.str++[.str x]))) D ed'∧EdB ed' (n+1)∧(∀c',lk ed' c'=_W (lk ed) c x c')∧FrE D ed H (_b H b (.lst (xs.map V.str++[.str x]))) ed':=by
 have mem:=WX hc;have hlk:lk ed c=xs:=Jb (q:=(c,b,xs)) h.kn mem
 have an:∀q∈ed,q.2.1=b->q=(c,b,xs):=fun q hq e=>by
  obtain ⟨i,hi,rfl⟩:=Gi hq;obtain ⟨j,hj,ej⟩:=Gi mem;have:i=j:=(GQ (h₀:=by rw [Qc];exact hi) (h₁:=by rw [Qc];exact hj) h.an).mp (by rw [Gp,Gp,ej];exact e);subst this;exact ej
 have keq:∀q∈ed,q.1=c->q=(c,b,xs):=fun q hq e=>by
  have:=_ft h.kn hq;rw [e,hc] at this;exact RS e (Ql this).symm
 let g:(Str×Str)×Addr×List Str->(Str×Str)×Addr×List Str:=fun q=>if q.1=c then (q.1,q.2.1,q.2.2++[x]) else q
 have g1:∀q,(g q).1=q.1:=fun q=>by show (if q.1=c then _ else q).1=q.1;split<;>rfl
 have g2:∀q,(g q).2.1=q.2.1:=fun q=>by show (if q.1=c then (q.1,q.2.1,q.2.2++[x]) else q).2.1=q.2.1;split<;>rfl
 have e1:(ed.map g).map (·.1)=ed.map (·.1):=by rw [QJ];exact R5 fun q _=>g1 q
 have e2:(ed.map g).map (·.2.1)=ed.map (·.2.1):=by rw [QJ];exact R5 fun q _=>g2 q
 have ne:b≠D:=fun z=>by have:=h.l _ mem;rw [show ((c,b,xs):(Str×Str)×Addr×List Str).2.1=D from z,h.d] at this;cases this
 refine ⟨ed.map g,⟨?_,fun q hq=>?_,by rw [e2];exact h.an,by rw [e1];exact h.kn⟩,⟨by rw [Qc];exact NU hb.len,fun q hq=>?_⟩,fun c'=>?_,⟨fun a u na nm e=>?_,fun a ha=>.inl (by rw [←e2];exact ha),fun a n=>?_⟩⟩
 ·rw [_g ne.symm,h.d]
  congr 2
  show _=(ed.map g).map _;rw [QJ];exact R5 fun q _=>by show _=(_x (g q).1,V.ref (g q).2.1);rw [g1,g2]
 ·obtain ⟨p,hp,rfl⟩:=Qf.mp hq;by_cases e:p.1=c
  ·have:=keq p hp e;subst this;show _b H b _ (g (c,b,xs)).2.1=_;rw [g2,_f];show _=some (HO.lst (((if c=c then (c,b,xs++[x]) else (c,b,xs)).2.2).map V.str));rw [Qb rfl,Qh];rfl
  ·rw [g2,_g (fun z=>e (by rw [an p hp z]))];show _=some (HO.lst ((if p.1=c then (p.1,p.2.1,p.2.2++[x]) else p).2.2.map V.str));rw [Qa e];exact h.l p hp
 ·obtain ⟨p,hp,rfl⟩:=Qf.mp hq;have:=hb.ll p hp;show 1≤(if p.1=c then (p.1,p.2.1,p.2.2++[x]) else p).2.2.length∧(if p.1=c then (p.1,p.2.1,p.2.2++[x]) else p).2.2.length≤n+1;split
  ·show 1≤(p.2.2++[x]).length∧(p.2.2++[x]).length≤n+1;rw [Qx];exact ⟨by simp,by simp;omega⟩
  ·omega
 ·unfold _W;have kn':((ed.map g).map (·.1)).Nodup:=by rw [e1];exact h.kn
  by_cases e:c'=c
  ·subst e;rw [Qb rfl,hlk];have m':g (c',b,xs)∈ed.map g:=RD mem;have e3:g (c',b,xs)=(c',b,xs++[x]):=by show (if c'=c' then _ else _)=_;rw [Qb rfl]
   rw [e3] at m';exact Jb kn' m'
  ·rw [Qa e];cases hl:_K c' ed with
   |some y =>
    have m':g (c',y)∈ed.map g:=RD (WX hl);have e3:g (c',y)=(c',y):=by show (if c'=c then _ else _)=_;rw [Qa e]
    rw [e3] at m';rw [Jb kn' m',Jb h.kn (WX hl)]
   |none =>
    rw [_aN hl];refine _aN ?_;cases hl2:_K c' (ed.map g) with
    |none=>rfl
    |some y =>
     have:=RD (f:=(·.1)) (WX hl2);rw [e1] at this;exact absurd this (_da hl)
 ·rw [_g (fun z=>nm (by rw [z];exact RD (f:=(·.2.1)) mem))];exact e
 ·by_cases z:a=b
  ·rw [z,_f] at n;cases n
  ·rwa [_g z] at n
theorem _fz {n:Nat} (h:EdAt H D ed) (hb:EdB ed n) (hc:_K c ed=none) (nz:H z=none) (l1:1≤xs.length) (ln:xs.length≤n+1) 
 (hD:H' D=some (.dT (Xx ed++[(_x c,.ref z)]))) (hz:H' z=some (.lst (xs.map V.str))) (fr:∀b u,b≠D->H b=some u->H' b=some u) (al:∀b,H' b=none->H b=none) :
  ∃ed',EdAt H' D ed'∧EdB ed' (n+1)∧(∀c',lk ed' c'=if c'=c then xs else lk ed c')∧FrE D ed H H' ed':=by
 have nk:=_da hc
 have na:z∉ed.map (·.2.1):=fun m=>by
  obtain ⟨q,hq,e⟩:=Qf.mp m;have:=h.l q hq;rw [e,nz] at this;cases this
 refine ⟨ed++[(c,z,xs)],⟨by rw [hD];show _=some (HO.dT ((ed++[(c,z,xs)]).map _));rw [Qh];rfl,fun q hq=>?_,?_,?_⟩,⟨by rw [Qx];exact NT hb.len,fun q hq=>?_⟩,fun c'=>?_,⟨fun b u nb nm e=>fr b u nb e,fun b hb'=>?_,al⟩⟩
 ·rcases Qm.mp hq with hq|hq
  ·have:=h.l q hq;exact fr _ _ (fun y=>by rw [y,h.d] at this;cases this) this
  ·rw [show q=(c,z,xs) by simpa using hq];exact hz
 ·rw [Qh];exact QV.mpr ⟨h.an,by simp,fun a ha b hb'=>by rw [show b=z by simpa using hb'];exact fun e=>na (e▸ha)⟩
 ·rw [Qh];exact QV.mpr ⟨h.kn,by simp,fun a ha b hb'=>by rw [show b=c by simpa using hb'];exact fun e=>nk (e▸ha)⟩
 ·rcases Qm.mp hq with hq|hq
  ·have:=hb.ll q hq;omega
  ·rw [show q=(c,z,xs) by simpa using hq];exact ⟨l1,ln⟩
 ·unfold lk;rw [_br];by_cases e:c'=c
  ·subst e;rw [Qb rfl,hc];show ((_K c' [(c',z,xs)]).map (·.2)).getD []=xs;unfold _K;rw [Qb rfl];rfl
  ·rw [Qa e];have:_K c' [(c,z,xs)]=none:=by unfold _K;rw [Qa (fun y=>e y.symm)];rfl
   rw [this];cases _K c' ed<;>rfl
 ·rw [Qh] at hb';rcases Qm.mp hb' with hb'|hb'
  ·exact .inl hb'
  ·exact .inr (by rw [show b=z by simpa using hb'];exact nz)
noncomputable def JM (l:Str):Str:=if l="F" then "f" else if l="M" then "m" else "t"
theorem _ey {l:Str} (h:l="F"∨l="M"∨l="T"):Txt.lower l=JM l:=by
 rcases h with rfl|rfl|rfl<;>trivial
noncomputable def Uu (D:Addr) (ed:Ed) (n:Nat) (c:Str×Str) (x:Str) (H H':Hp):Prop:=∃ed',EdAt H' D ed'∧EdB ed' (n+1)∧(∀c',lk ed' c'=_W (lk ed) c x c')∧FrE D ed H H' ed'
theorem FrE.pre (s:Same H H1) (f:FrE D ed H1 H' ed'):FrE D ed H H' ed':=⟨fun b u nb nm e=>f.fr b u nb nm (s _ _ e),fun b hb=>(f.gr b hb).imp id fun z=>_N s z,fun b z=>_N s (f.al b z)⟩
theorem _ao {H2:Hp} {n:Nat} {x:Str} (h:EdAt H D ed) (hb:EdB ed n) (n6:n≤900) (s:Same H H2) (nz:H z=none) (hz:H2 z=some (.lst [])) :
  H2 D=some (.dT (Xx ed))∧(Xx ed).length<sizeLine ∧
  (∀v,_y (Xx ed) (_x c)=some v->∃(b:Addr) (xs:List Str),v=.ref b∧H2 b=some (.lst (xs.map V.str))∧(xs.map V.str).length<sizeLine∧Uu D ed n c x H (_b H2 b (.lst (xs.map V.str++[.str x])))) ∧
  (_y (Xx ed) (_x c)=none->(_b H2 D (.dT (Xx ed++[(_x c,.ref z)]))) z=some (.lst [])∧Uu D ed n c x H (_b (_b H2 D (.dT (Xx ed++[(_x c,.ref z)]))) z (.lst ([]++[.str x])))):=by
 have h2:=h.mono s;have zD:z≠D:=fun e=>by rw [e,h2.d] at hz;cases hz
 refine ⟨h2.d,small1000 (by rw [Qc];have:=hb.len;omega),fun v hv=>?_,fun hv=>⟨by rw [_g zD];exact hz,?_⟩⟩
 ·rw [Vq] at hv;obtain ⟨⟨b,xs⟩,hx,rfl⟩:=QE.mp hv;have mem:=WX hx;have ll:=hb.ll _ mem;obtain ⟨ed',a1,a2,a3,a4⟩:=_lW (x:=x) h2 hb hx;exact ⟨b,xs,rfl,h2.l _ mem,small1000 (by rw [Qc];have:xs.length≤n:=ll.2;omega),ed',a1,a2,a3,a4.pre s⟩
 ·rw [Vq] at hv
  have hn:_K c ed=none:=by
   cases e:_K c ed with
   |none=>rfl
   |some y=>rw [e] at hv;cases hv
  obtain ⟨ed',a1,a2,a3,a4⟩:=_fz (xs:=[x]) (H':=_b (_b H2 D (.dT (Xx ed++[(_x c,.ref z)]))) z (.lst ([]++[.str x]))) h hb hn nz (by simp) (by simp) (by rw [_g zD.symm,_f]) _f
   (fun b u nb e=>by rw [_g (_R e nz),_g nb];exact s _ _ e) (fun b hbn=>by
    by_cases e1:b=z
    ·rw [e1,_f] at hbn;cases hbn
    ·rw [_g e1] at hbn;by_cases e2:b=D
     ·rw [e2,_f] at hbn;cases hbn
     ·rw [_g e2] at hbn;exact _N s hbn)
  refine ⟨ed',a1,a2,fun c'=>?_,a4⟩;rw [a3];unfold _W;rw [_aN hn];rfl
noncomputable def Yg (a b n x:Str) (g:_M):_M:=if x="" then g else _W (_W g (a,n) x) (b,x) n
noncomputable def Ym (f:_M) (s n:Str):_M:=fun c=>if c=(s,n) then [n] else f c
noncomputable def Yq (f:_M):Ent->_M
 |.born n s _ fa mo=>Yg "M" "m" n mo (Yg "F" "f" n fa (Ym f s n))
 |.taken c t _=>_W (_W f ("T",c) t) ("t",t) c
 |_=>f
noncomputable def Yu (es:List Ent):_M:=es.foldl Yq fun _=>[]
theorem JN (es:List Ent) (e:Ent):Yu (es++[e])=Yq (Yu es) e:=by unfold Yu;rw [Nn];rfl
noncomputable abbrev XD:=List ((Str×Str)×Addr×Int×Str)
noncomputable def X5 (g:Str×Str->Option (Int×Str)) (e:Ent):Str×Str->Option (Int×Str):=fun c =>
 if e.tie=true∧c=_e e.pr.1 e.pr.2 then (match g c with
  |none=>some (e.day,e.kind)
  |some r=>if r.1<e.day then some (e.day,e.kind) else some r) else g c
noncomputable def YF (es:List Ent):Str×Str->Option (Int×Str):=es.foldl X5 fun _=>none
theorem _aC (es:List Ent) (e:Ent):YF (es++[e])=X5 (YF es) e:=by unfold YF;rw [Nn];rfl
noncomputable abbrev Xu (ls:XD):List (List _k×V):=ls.map fun q=>(_x q.1,.ref q.2.1)
structure LsAt (K:W.Frag) (H:Hp) (D:Addr) (ls:XD):Prop where
 d:H D=some (.dT (Xu ls))
 t:∀q∈ls,SqT K H q.2.1 [.int q.2.2.1,.str q.2.2.2]
 kn:(ls.map (·.1)).Nodup
theorem LsAt.mono {ls:XD} (h:LsAt K H D ls) (s:Same H H'):LsAt K H' D ls:=⟨s _ _ h.d,fun q hq=>s.sqt (h.t q hq),h.kn⟩
theorem _hn (c:Str×Str):∀l:XD,_y (Xu l) (_x c)=(_F c l).map fun q=>.ref q.1
 |[]=>rfl
 |q::r=>by
  have ih:=_hn c r;unfold _F;show _y ((_x q.1,V.ref q.2.1)::Xu r) (_x c)=_;by_cases e:q.1=c
  ·subst e;rw [Xa rfl,Qb rfl];rfl
  ·rw [Y6 (fun z=>e (Vr z)),Qa e];exact ih
theorem FrE.sqt (f:FrE D ed H H' ed') (h:EdAt H D ed) {xs:List V} (q:SqT K H a xs):SqT K H' a xs:=by
 have nm:∀{b:Addr} {u:HO},H b=some u->(∀ys,u≠.lst ys)->b∉ed.map (·.2.1):=fun e nl m=>by
  obtain ⟨p,hp,rfl⟩:=Qf.mp m;rw [h.l p hp] at e;cases e;exact nl _ rfl
 rcases q with (q|⟨o,q⟩)|q
 ·exact .inl (.inl (f.fr _ _ (fun z=>by rw [z,h.d] at q;cases q) (nm q fun _ z=>by cases z) q))
 ·exact .inl (.inr ⟨o,f.fr _ _ (fun z=>by rw [z,h.d] at q;cases q) (nm q fun _ z=>by cases z) q⟩)
 ·exact .inr q
theorem FrE.ls {Dl:Addr} {ls:XD} (f:FrE D ed H H' ed') (h:EdAt H D ed) (ne:Dl≠D) (l:LsAt K H Dl ls):LsAt K H' Dl ls:=by
 refine ⟨f.fr _ _ ne (fun m=>?_) l.d,fun q hq=>f.sqt h (l.t q hq),l.kn⟩;obtain ⟨p,hp,e⟩:=Qf.mp m;have:=h.l p hp;rw [e,l.d] at this;cases this
theorem _of (l:XD) (c:Str×Str) (x:Addr×Int×Str):Yj (Xu l) (_x c) (.ref x.1)=Xu (_n l c x):=U9 (f:=_x) (fun _ _=>Vr) (fun x:Addr×Int×Str=>V.ref x.1) l c x
noncomputable def Xp (f:_M) (q:(Str×Str)×Addr×Int×Str):_M:=if q.2.2.2="union" then _W (_W f ("S",q.1.1) q.1.2) ("S",q.1.2) q.1.1 else f
theorem EdB.mono {n m:Nat} (h:EdB ed n) (l:n≤m):EdB ed m:=⟨Qj h.len l,fun q hq=>⟨(h.ll q hq).1,Qj (h.ll q hq).2 l⟩⟩
theorem _iE {n:Nat} (hb:EdB ed n) (h:lk ed c=[]):_K c ed=none:=by
 cases e:_K c ed with
 |none=>rfl
 |some x =>
  have l:=(hb.ll _ (WX e)).1;have z:x.2=[]:=by unfold lk at h;rw [e] at h;exact h
  rw [show ((c,x):(Str×Str)×Addr×List Str).2.2=[] from z] at l;cases l
theorem _dC (h:e.tie=false):YF (es++[e])=YF es:=by
 rw [_aC]
 funext c
 unfold X5;rw [Qa (fun z=>by rw [h] at z;cases z.1)]
theorem _kT (hs:s="he"∨s="she"∨s="") (h:∀e∈es,e.bornName≠some n):Yu es (s,n)=[]:=by
 have go:∀(l:List Ent) (f:_M),(∀e∈l,e.bornName≠some n)->f (s,n)=[]->l.foldl Yq f (s,n)=[]:=by
  intro l
  induction l with
  |nil=>intro f _ h0;exact h0
  |cons e r ih =>
   intro f hl h0;refine ih _ (fun e he=>hl e (Qv _ he)) ?_
   have ne:∀{a:Str},a∈(["F","f","M","m","T","t"]:List Str)->s≠a:=fun ha z=>by
    rw [z] at hs;simp only [Qo,Q5,Q6] at ha;rcases ha with rfl|rfl|rfl|rfl|rfl|rfl<;>exact absurd hs (by trivial)
   have ad:∀{g:_M} {a y x:Str},a∈(["F","f","M","m","T","t"]:List Str)->_W g (a,y) x (s,n)=g (s,n):=fun {g a y x} ha=>Qa fun z=>ne ha (Qk (·.1) z);cases e with
   |born n' s' d fa mo =>
    have nn:n'≠n:=fun z=>hl _ (QA ..) (by rw [z];rfl);have b0:Ym f s' n' (s,n)=[]:=by unfold Ym;rw [Qa (fun z=>nn (Qk (·.2) z).symm)];exact h0
    have f2:∀{u v x:Str} {g:_M},u∈(["F","f","M","m","T","t"]:List Str)->v∈(["F","f","M","m","T","t"]:List Str)->g (s,n)=[]->Yg u v n' x g (s,n)=[]:=fun hu hv hg=>by
     unfold Yg;split
     ·exact hg
     ·rw [ad hv,ad hu];exact hg
    exact f2 (by simp) (by simp) (f2 (by simp) (by simp) b0)
   |taken c t d=>show _W _ _ _ _=[];rw [ad (by simp),ad (by simp)];exact h0
   |union=>exact h0
   |parted=>exact h0
 exact go es _ h rfl
theorem _fV (h:(Ent.born n s d f m).Ok):s="he"∨s="she"∨s="":=by
 have e:=h.en;have e2:Wf [.name,.sort,.day,.parent,.parent] [.str n,.str s,.int d,.str f,.str m]=true:=e;unfold Wf at e2;rw [Rl] at e2;have e3:=Ru.mp e2.2 (Vp (.str s)) (by simp [_S,Ud]);have e4:(decide (s="he")||decide (s="she")||decide (s=""))=true:=e3;simpa [RM,Gm] using e4
theorem FrE.oth {u:HO} (f:FrE D ed H H' ed') (h:EdAt H D ed) (ne:b≠D) (e:H b=some u) (nl:∀ys,u≠.lst ys):H' b=some u :=
 f.fr b u ne (fun m=>by
  obtain ⟨p,hp,rfl⟩:=Qf.mp m;rw [h.l p hp] at e;cases e;exact nl _ rfl) e
theorem EdAt.off (h:EdAt H D ed) (e:H b=none):b∉ed.map (·.2.1):=fun m=>by
 obtain ⟨p,hp,z⟩:=Qf.mp m;have:=h.l p hp;rw [z,e] at this;cases this
noncomputable def _aE (F:_M) (n s fa mo:Str):Nat->_M
 |0=>Ym F s n
 |1=>Yg "F" "f" n fa (Ym F s n)
 |_=>Yg "M" "m" n mo (Yg "F" "f" n fa (Ym F s n))
theorem Yv (f:_M) (a n x b m:Str):_W f (a,n) x (b,m)=if b=a∧m=n then f (a,n)++[x] else f (b,m):=by
 unfold _W;by_cases h:b=a∧m=n
 ·rw [Qb (by rw [h.1,h.2]),Qb h]
 ·rw [Qa (fun z=>h ⟨Qk (·.1) z,Qk (·.2) z⟩),Qa h]
theorem Xi {a b:Str} (ab:¬b=a) (n' x:Str) (g:_M) (l n:Str):Yg a b n' x g (l,n)=if x="" then g (l,n) else if l=b∧n=x then g (l,n)++[n'] else if l=a∧n=n' then g (l,n)++[x] else g (l,n):=by
 unfold Yg;by_cases h:x=""
 ·rw [Qb h,Qb h]
 ·rw [Qa h,Qa h,Yv,Yv];by_cases h1:l=b∧n=x
  ·rw [Qb h1,Qb h1,Qa (fun z=>ab z.1),h1.1,h1.2]
  ·rw [Qa h1,Qa h1,Yv];by_cases h2:l=a∧n=n'
   ·rw [Qb h2,Qb h2,h2.1,h2.2]
   ·rw [Qa h2,Qa h2]
theorem _oT (f:_M) (e:Ent) (n:Str) (hs:∀n' s d fa mo,e=.born n' s d fa mo->s≠"F"):Yq f e ("F",n)=f ("F",n)++VJ n e:=by
 have klf:¬(("F" : Str)="f"):=by trivial
 have kuM:¬(("F" : Str)="M"):=by trivial
 have klm:¬(("F" : Str)="m"):=by trivial
 have kuT:¬(("F" : Str)="T"):=by trivial
 have klt:¬(("F" : Str)="t"):=by trivial
 cases e with
 |born n' s d fa mo =>
  have h1:=hs n' s d fa mo rfl;show Yg "M" "m" n' mo (Yg "F" "f" n' fa (Ym f s n')) ("F",n)=_;rw [Xi (by trivial),Xi (by trivial),show Ym f s n' ("F",n)=f ("F",n) from Qa (fun z=>h1 (Qk (·.1) z).symm)];simp only [klf,kuM,klm,kuT,klt,RO,RP,Q4,RQ];unfold VJ;by_cases e1:fa=""
  ·simp [e1]
  ·by_cases e2:n=n'
   ·subst e2;simp [e1]
   ·have e3:¬n'=n:=fun z=>e2 z.symm;simp [e1,e2,e3]
 |taken c t d =>
  show _W (_W f ("T",c) t) ("t",t) c ("F",n)=_;rw [Yv,Qa (fun z=>klt z.1),Yv,Qa (fun z=>kuT z.1)];simp [VJ]
 |union=>exact (QC _).symm
 |parted=>exact (QC _).symm
theorem _hF (f:_M) (e:Ent) (n:Str) (hs:∀n' s d fa mo,e=.born n' s d fa mo->s≠"f"):Yq f e ("f",n)=f ("f",n)++VV n e:=by
 have kuF:¬(("f" : Str)="F"):=by trivial
 have kuM:¬(("f" : Str)="M"):=by trivial
 have klm:¬(("f" : Str)="m"):=by trivial
 have kuT:¬(("f" : Str)="T"):=by trivial
 have klt:¬(("f" : Str)="t"):=by trivial
 cases e with
 |born n' s d fa mo =>
  have h1:=hs n' s d fa mo rfl;show Yg "M" "m" n' mo (Yg "F" "f" n' fa (Ym f s n')) ("f",n)=_;rw [Xi (by trivial),Xi (by trivial),show Ym f s n' ("f",n)=f ("f",n) from Qa (fun z=>h1 (Qk (·.1) z).symm)];simp only [kuF,kuM,klm,kuT,klt,RO,RP,Q4,RQ];unfold VV;by_cases e1:fa=""
  ·simp [e1]
  ·by_cases e2:n=fa
   ·subst e2;simp [e1]
   ·have e3:¬fa=n:=fun z=>e2 z.symm;simp [e1,e2,e3]
 |taken c t d =>
  show _W (_W f ("T",c) t) ("t",t) c ("f",n)=_;rw [Yv,Qa (fun z=>klt z.1),Yv,Qa (fun z=>kuT z.1)];simp [VV]
 |union=>exact (QC _).symm
 |parted=>exact (QC _).symm
theorem _mR (f:_M) (e:Ent) (n:Str) (hs:∀n' s d fa mo,e=.born n' s d fa mo->s≠"M"):Yq f e ("M",n)=f ("M",n)++VQ n e:=by
 have kuF:¬(("M" : Str)="F"):=by trivial
 have klf:¬(("M" : Str)="f"):=by trivial
 have klm:¬(("M" : Str)="m"):=by trivial
 have kuT:¬(("M" : Str)="T"):=by trivial
 have klt:¬(("M" : Str)="t"):=by trivial
 cases e with
 |born n' s d fa mo =>
  have h1:=hs n' s d fa mo rfl;show Yg "M" "m" n' mo (Yg "F" "f" n' fa (Ym f s n')) ("M",n)=_;rw [Xi (by trivial),Xi (by trivial),show Ym f s n' ("M",n)=f ("M",n) from Qa (fun z=>h1 (Qk (·.1) z).symm)];simp only [kuF,klf,klm,kuT,klt,RO,RP,Q4,RQ];unfold VQ;by_cases e1:mo=""
  ·simp [e1]
  ·by_cases e2:n=n'
   ·subst e2;simp [e1]
   ·have e3:¬n'=n:=fun z=>e2 z.symm;simp [e1,e2,e3]
 |taken c t d =>
  show _W (_W f ("T",c) t) ("t",t) c ("M",n)=_;rw [Yv,Qa (fun z=>klt z.1),Yv,Qa (fun z=>kuT z.1)];simp [VQ]
 |union=>exact (QC _).symm
 |parted=>exact (QC _).symm
theorem _je (f:_M) (e:Ent) (n:Str) (hs:∀n' s d fa mo,e=.born n' s d fa mo->s≠"m"):Yq f e ("m",n)=f ("m",n)++VC n e:=by
 have kuF:¬(("m" : Str)="F"):=by trivial
 have klf:¬(("m" : Str)="f"):=by trivial
 have kuM:¬(("m" : Str)="M"):=by trivial
 have kuT:¬(("m" : Str)="T"):=by trivial
 have klt:¬(("m" : Str)="t"):=by trivial
 cases e with
 |born n' s d fa mo =>
  have h1:=hs n' s d fa mo rfl;show Yg "M" "m" n' mo (Yg "F" "f" n' fa (Ym f s n')) ("m",n)=_;rw [Xi (by trivial),Xi (by trivial),show Ym f s n' ("m",n)=f ("m",n) from Qa (fun z=>h1 (Qk (·.1) z).symm)];simp only [kuF,klf,kuM,kuT,klt,RO,RP,Q4,RQ];unfold VC;by_cases e1:mo=""
  ·simp [e1]
  ·by_cases e2:n=mo
   ·subst e2;simp [e1]
   ·have e3:¬mo=n:=fun z=>e2 z.symm;simp [e1,e2,e3]
 |taken c t d =>
  show _W (_W f ("T",c) t) ("t",t) c ("m",n)=_;rw [Yv,Qa (fun z=>klt z.1),Yv,Qa (fun z=>kuT z.1)];simp [VC]
 |union=>exact (QC _).symm
 |parted=>exact (QC _).symm
theorem _h2 (f:_M) (e:Ent) (n:Str) (hs:∀n' s d fa mo,e=.born n' s d fa mo->s≠"T"):Yq f e ("T",n)=f ("T",n)++VF n e:=by
 have kuF:¬(("T" : Str)="F"):=by trivial
 have klf:¬(("T" : Str)="f"):=by trivial
 have kuM:¬(("T" : Str)="M"):=by trivial
 have klm:¬(("T" : Str)="m"):=by trivial
 have klt:¬(("T" : Str)="t"):=by trivial
 cases e with
 |born n' s d fa mo =>
  have h1:=hs n' s d fa mo rfl;show Yg "M" "m" n' mo (Yg "F" "f" n' fa (Ym f s n')) ("T",n)=_;rw [Xi (by trivial),Xi (by trivial),show Ym f s n' ("T",n)=f ("T",n) from Qa (fun z=>h1 (Qk (·.1) z).symm)];simp only [kuF,klf,kuM,klm,klt,RO,RP,Q4,RQ];simp [VF]
 |taken c t d =>
  show _W (_W f ("T",c) t) ("t",t) c ("T",n)=_;rw [Yv,Qa (fun z=>klt z.1),Yv];unfold VF;by_cases e2:n=c
  ·subst e2;simp
  ·have e3:¬c=n:=fun z=>e2 z.symm;simp [e2,e3]
 |union=>exact (QC _).symm
 |parted=>exact (QC _).symm
theorem _n0 (f:_M) (e:Ent) (n:Str) (hs:∀n' s d fa mo,e=.born n' s d fa mo->s≠"t"):Yq f e ("t",n)=f ("t",n)++VI n e:=by
 have kuF:¬(("t" : Str)="F"):=by trivial
 have klf:¬(("t" : Str)="f"):=by trivial
 have kuM:¬(("t" : Str)="M"):=by trivial
 have klm:¬(("t" : Str)="m"):=by trivial
 have kuT:¬(("t" : Str)="T"):=by trivial
 cases e with
 |born n' s d fa mo =>
  have h1:=hs n' s d fa mo rfl;show Yg "M" "m" n' mo (Yg "F" "f" n' fa (Ym f s n')) ("t",n)=_;rw [Xi (by trivial),Xi (by trivial),show Ym f s n' ("t",n)=f ("t",n) from Qa (fun z=>h1 (Qk (·.1) z).symm)];simp only [kuF,klf,kuM,klm,kuT,RO,RP,Q4,RQ];simp [VI]
 |taken c t d =>
  show _W (_W f ("T",c) t) ("t",t) c ("t",n)=_;unfold VI;rw [Yv];by_cases e2:n=t
  ·subst e2;rw [Qb ⟨rfl,rfl⟩,Yv,Qa (fun z=>kuT z.1)];simp
  ·have e3:¬t=n:=fun z=>e2 z.symm;rw [Qa (fun z=>e2 z.2),Yv,Qa (fun z=>kuT z.1)];simp [e3]
 |union=>exact (QC _).symm
 |parted=>exact (QC _).symm
theorem _lu (f:_M) (e:Ent) (n:Str) (hs:∀n' s d fa mo,e=.born n' s d fa mo->s≠"S"):Yq f e ("S",n)=f ("S",n)++[]:=by
 have kuF:¬(("S" : Str)="F"):=by trivial
 have klf:¬(("S" : Str)="f"):=by trivial
 have kuM:¬(("S" : Str)="M"):=by trivial
 have klm:¬(("S" : Str)="m"):=by trivial
 have kuT:¬(("S" : Str)="T"):=by trivial
 have klt:¬(("S" : Str)="t"):=by trivial
 cases e with
 |born n' s d fa mo =>
  have h1:=hs n' s d fa mo rfl;show Yg "M" "m" n' mo (Yg "F" "f" n' fa (Ym f s n')) ("S",n)=_;rw [Xi (by trivial),Xi (by trivial),show Ym f s n' ("S",n)=f ("S",n) from Qa (fun z=>h1 (Qk (·.1) z).symm)];simp only [kuF,klf,kuM,klm,kuT,klt,RO,RP,Q4,RQ];simp
 |taken c t d =>
  show _W (_W f ("T",c) t) ("t",t) c ("S",n)=_;rw [Yv,Qa (fun z=>klt z.1),Yv,Qa (fun z=>kuT z.1)];simp
 |union=>exact (QC _).symm
 |parted=>exact (QC _).symm
noncomputable def _es (es:List Ent):Prop:=∀n s d fa mo,Ent.born n s d fa mo∈es->s="he"∨s="she"∨s=""
theorem _dD {l:Str} {ad:Ent->List Str} (st:∀e∈es,∀f:_M,Yq f e (l,n)=f (l,n)++ad e):Yu es (l,n)=es.flatMap ad:=by
 have go:∀(r:List Ent) (f:_M),(∀e∈r,∀f:_M,Yq f e (l,n)=f (l,n)++ad e)->r.foldl Yq f (l,n)=f (l,n)++r.flatMap ad:=by
  intro r
  induction r with
  |nil=>intro f _;simp
  |cons e r ih =>
   intro f h;rw [RC,ih _ (fun e he=>h e (Qv _ he)),h e (QA ..),NR,NL]
 rw [show Yu es (l,n)=es.foldl Yq (fun _=>[]) (l,n) from rfl,go es _ st];rfl
theorem _nj (h:_es es) {l:Str} (hl:l∈Xg):∀e∈es,∀n' s d fa mo,e=.born n' s d fa mo->s≠l:=fun e he n' s d fa mo z w=>by
 subst z w;have:=h _ _ _ _ _ he;simp only [Xg,Qo,Q5,Q6] at hl;rcases hl with rfl|rfl|rfl|rfl|rfl|rfl|rfl<;>exact absurd this (by trivial)
theorem _cI:∀(c:Str×Str) (x:Str),x∈Yu es c->∃e∈es,x∈e.named∨e.bornName=some x:=by
 have ad:∀{f:_M} {c c':Str×Str} {x y:Str},x∈_W f c y c'->x∈f c'∨x=y:=fun {f c c' x y} h=>by
  unfold _W at h;split at h
  ·rename_i e;rcases Qm.mp h with h|h
   ·rw [e];exact .inl h
   ·exact .inr (by simpa using h)
  ·exact .inl h
 have go:∀(r:List Ent) (f:_M) (R:Str->Prop),(∀c x,x∈f c->R x)->(∀e∈r,∀x,x∈e.named∨e.bornName=some x->R x)->∀c x,x∈r.foldl Yq f c->R x:=by
  intro r
  induction r with
  |nil=>intro f R h _ c x hx;exact h c x hx
  |cons e r ih =>
   intro f R h hr c x hx;refine ih (Yq f e) R (fun c x hx=>?_) (fun e he=>hr e (Qv _ he)) c x hx;have he:=hr e (QA ..);cases e with
   |born n s d fa mo =>
    have p1:∀{a b y:Str} {g:_M},(∀c x,x∈g c->R x)->(y≠""->R y)->∀c x,x∈Yg a b n y g c->R x:=fun {a b y g} hg hy c x hx=>by
     unfold Yg at hx;split at hx
     ·exact hg c x hx
     ·rename_i ny;rcases ad hx with hx|rfl
      ·rcases ad hx with hx|rfl
       ·exact hg c x hx
       ·exact hy ny
      ·exact he _ (.inr rfl)
    refine p1 (p1 (fun c x hx=>?_) (fun ny=>he _ (.inl ?_))) (fun ny=>he _ (.inl ?_)) c x hx
    ·unfold Ym at hx;split at hx
     ·rw [show x=n by simpa using hx];exact he _ (.inr rfl)
     ·exact h c x hx
    ·exact QX.mpr ⟨by simp,Qr ny⟩
    ·exact QX.mpr ⟨by simp,Qr ny⟩
   |taken u v d =>
    rcases ad (show x∈_W (_W f ("T",u) v) ("t",v) u c from hx) with hx|rfl
    ·rcases ad hx with hx|rfl
     ·exact h c x hx
     ·exact he _ (.inl (by simp [Ent.named]))
    ·exact he _ (.inl (by simp [Ent.named]))
   |union=>exact h c x hx
   |parted=>exact h c x hx
 intro c x hx;exact go es _ (fun x=>∃e∈es,x∈e.named∨e.bornName=some x) (fun c x h=>(by cases h)) (fun e he x h=>⟨e,he,h⟩) c x hx
theorem _jt {x:Str} (hs:s="he"∨s="she"):x∈Yu es (s,n)↔x=n∧∃d f m,Ent.born n s d f m∈es:=by
 have ne:∀{a:Str},a∈(["F","f","M","m","T","t"]:List Str)->¬s=a:=fun ha z=>by
  rw [z] at hs;simp only [Qo,Q5,Q6] at ha;rcases ha with rfl|rfl|rfl|rfl|rfl|rfl<;>exact absurd hs (by trivial)
 have st:∀(f:_M) (e:Ent),Yq f e (s,n)=(match e with|.born n' s' _ _ _=>Ym f s' n' (s,n)|_=>f (s,n)):=fun f e=>by
  cases e with
  |born n' s' d fa mo =>
   show Yg "M" "m" n' mo (Yg "F" "f" n' fa (Ym f s' n')) (s,n)=Ym f s' n' (s,n);rw [Xi (by trivial),Xi (by trivial)];simp only [ne (a:="m") (by simp),ne (a:="M") (by simp),ne (a:="f") (by simp),ne (a:="F") (by simp),RO,Q4,RQ]
  |taken u v d =>
   show _W (_W f ("T",u) v) ("t",v) u (s,n)=f (s,n);rw [Yv,Qa (fun z=>ne (a:="t") (by simp) z.1),Yv,Qa (fun z=>ne (a:="T") (by simp) z.1)]
  |_=>rfl
 have go:∀(r:List Ent) (f:_M),(∀y∈f (s,n),y=n)->(x∈r.foldl Yq f (s,n)↔(x=n∧∃d g m,Ent.born n s d g m∈r)∨x∈f (s,n)):=by
  intro r
  induction r with
  |nil=>intro f _;simp
  |cons e r ih =>
   intro f hf;have e1:=st f e
   have key:(∀y∈Yq f e (s,n),y=n)∧(x∈Yq f e (s,n)↔(x=n∧∃d g m,e=.born n s d g m)∨x∈f (s,n)):=by
    cases e with
    |born n' s' d fa mo =>
     rw [show Yq f (.born n' s' d fa mo) (s,n)=Ym f s' n' (s,n) from e1];unfold Ym;by_cases z:(s,n)=(s',n')
     ·cases z;rw [Qb rfl];refine ⟨fun y hy=>by simpa using hy,⟨fun h=>.inl ⟨by simpa using h,d,fa,mo,rfl⟩,fun h=>?_⟩⟩;rcases h with h|h
      ·rw [h.1];simp
      ·rw [hf x h];simp
     ·rw [Qa z];refine ⟨hf,⟨.inr,fun h=>h.elim (fun ⟨_,d',g,m,hh⟩=>by cases hh;exact absurd rfl z) id⟩⟩
    |taken=>exact ⟨by rw [e1];exact hf,by rw [e1];exact ⟨.inr,fun h=>h.elim (fun ⟨_,d',g,m,hh⟩=>by cases hh) id⟩⟩
    |union=>exact ⟨hf,⟨.inr,fun h=>h.elim (fun ⟨_,d',g,m,hh⟩=>by cases hh) id⟩⟩
    |parted=>exact ⟨hf,⟨.inr,fun h=>h.elim (fun ⟨_,d',g,m,hh⟩=>by cases hh) id⟩⟩
   rw [RC,ih _ key.1,key.2];constructor
   ·rintro (⟨h1,d,g,m,h2⟩|⟨h1,d,g,m,rfl⟩|h)
    ·exact .inl ⟨h1,d,g,m,Qv _ h2⟩
    ·exact .inl ⟨h1,d,g,m,QA ..⟩
    ·exact .inr h
   ·rintro (⟨h1,d,g,m,h2⟩|h)
    ·rcases Qo.mp h2 with h2|h2
     ·exact .inr (.inl ⟨h1,d,g,m,h2.symm⟩)
     ·exact .inl ⟨h1,d,g,m,h2⟩
    ·exact .inr (.inr h)
 have:=go es (fun _=>[]) (fun y hy=>by cases hy);rw [show Yu es (s,n)=es.foldl Yq (fun _=>[]) (s,n) from rfl,this];simp
theorem _bg {ls:XD} {f:_M} {l:Str} (h:¬l="S"):ls.foldl Xp f (l,n)=f (l,n):=by
 induction ls generalizing f with
 |nil=>rfl
 |cons q r ih =>
  rw [RC,ih];unfold Xp;split
  ·rw [Yv,Qa (fun z=>h z.1),Yv,Qa (fun z=>h z.1)]
  ·rfl
theorem _e0 {ls:XD} {f:_M} {x:Str}:x∈ls.foldl Xp f ("S",n)↔x∈f ("S",n)∨∃q∈ls,q.2.2.2="union"∧(q.1=(n,x)∨q.1=(x,n)):=by
 induction ls generalizing f with
 |nil=>simp
 |cons q r ih =>
  rw [RC,ih]
  have st:x∈Xp f q ("S",n)↔x∈f ("S",n)∨(q.2.2.2="union"∧(q.1=(n,x)∨q.1=(x,n))):=by
   obtain ⟨⟨a,b⟩,ar,d,k⟩:=q;unfold Xp;by_cases hu:k="union"
   ·show x∈(if k="union" then _W (_W f ("S",a) b) ("S",b) a else f) ("S",n)↔x∈f ("S",n)∨(k="union"∧((a,b)=(n,x)∨(a,b)=(x,n)));rw [Qb hu,Yv];by_cases h1:n=b
    ·subst h1;rw [Qb ⟨rfl,rfl⟩,Yv];by_cases h2:n=a
     ·subst h2;rw [Qb ⟨rfl,rfl⟩];simp [hu];exact ⟨fun h=>h.imp id Eq.symm,fun h=>h.imp id Eq.symm⟩
     ·rw [Qa (fun z=>h2 z.2)];simp [hu];constructor
      ·rintro (h|h)
       ·exact .inl h
       ·exact .inr (.inr h.symm)
      ·rintro (h|⟨h,_⟩|h)
       ·exact .inl h
       ·exact absurd h.symm h2
       ·exact .inr h.symm
    ·rw [Qa (fun z=>h1 z.2),Yv];by_cases h2:n=a
     ·subst h2;rw [Qb ⟨rfl,rfl⟩];simp [hu];constructor
      ·rintro (h|h)
       ·exact .inl h
       ·exact .inr (.inl h.symm)
      ·rintro (h|h|⟨_,h⟩)
       ·exact .inl h
       ·exact .inr h.symm
       ·exact absurd h.symm h1
     ·rw [Qa (fun z=>h2 z.2)];simp only [hu,RP,Prod.mk.injEq];exact ⟨.inl,fun h=>h.elim id fun h=>h.elim (fun z=>absurd z.1.symm h2) fun z=>absurd z.2.symm h1⟩
   ·show x∈(if k="union" then _ else f) ("S",n)↔x∈f ("S",n)∨(k="union"∧_);rw [Qa hu];exact ⟨.inl,fun h=>h.elim id fun h=>absurd h.1 hu⟩
  rw [st];constructor
  ·rintro ((h|h)|⟨q',h1,h2⟩)
   ·exact .inl h
   ·exact .inr ⟨q,QA ..,h⟩
   ·exact .inr ⟨q',Qv _ h1,h2⟩
  ·rintro (h|⟨q',h1,h2⟩)
   ·exact .inl (.inl h)
   ·rcases Qo.mp h1 with rfl|h1
    ·exact .inl (.inr h2)
    ·exact .inr ⟨q',h1,h2⟩
noncomputable def dk (e:Ent):Int×Str:=(e.day,e.kind)
theorem _nt (es:List Ent) (a b:Str):YF es (_e a b)=(es.foldl (WG a b) none).map dk:=by
 have go:∀(r:List Ent) (g:Str×Str->Option (Int×Str)) (o:Option Ent),g (_e a b)=o.map dk->r.foldl X5 g (_e a b)=(r.foldl (WG a b) o).map dk:=by
  intro r
  induction r with
  |nil=>intro g o h;exact h
  |cons e r ih =>
   intro g o h;rw [RC,RC];refine ih _ _ ?_;unfold X5 WG;by_cases c:e.tie=true∧_e e.pr.1 e.pr.2=_e a b
   ·rw [Qb ⟨c.1,c.2.symm⟩,Qb c,h];cases o with
    |none=>rfl
    |some l =>
     show (if (dk l).1<e.day then _ else _)=Option.map dk (if l.day<e.day then _ else _);show (if l.day<e.day then some (e.day,e.kind) else some (dk l))=_;split<;>rfl
   ·rw [Qa (fun z=>c ⟨z.1,z.2.symm⟩),Qa c];exact h
 exact go es _ none rfl
theorem _jI (es:List Ent):YF (es.map Ent.told)=YF es:=by
 have st:∀(g:Str×Str->Option (Int×Str)) (e:Ent),X5 g e.told=X5 g e:=fun g e=>by
  cases e with
  |union a b d =>
   funext c
   show (if true=true∧c=_e (_e a b).1 (_e a b).2 then _ else g c)=(if true=true∧c=_e a b then _ else g c);rw [W7];rfl
  |parted a b d =>
   funext c
   show (if true=true∧c=_e (_e a b).1 (_e a b).2 then _ else g c)=(if true=true∧c=_e a b then _ else g c);rw [W7];rfl
  |_=>rfl
 unfold YF;rw [List.foldl_map];exact Qk (fun z=>es.foldl z fun _=>none) (funext fun g=>funext fun e=>st g e)
theorem _dH:∀{c:Str×Str} {r:Int×Str},YF es c=some r->∃e∈es,e.tie=true∧c=_e e.pr.1 e.pr.2:=by
 have go:∀(l:List Ent) (g:Str×Str->Option (Int×Str)) (R:Str×Str->Prop),(∀c r,g c=some r->R c)->(∀e∈l,e.tie=true->R (_e e.pr.1 e.pr.2))->∀c r,l.foldl X5 g c=some r->R c:=by
  intro l
  induction l with
  |nil=>intro g R h _ c r e;exact h c r e
  |cons e l ih =>
   intro g R h hl c r hr;refine ih _ R (fun c r hc=>?_) (fun e he=>hl e (Qv _ he)) c r hr;unfold X5 at hc;split at hc
   ·rename_i z;rw [z.2];exact hl e (QA ..) z.1
   ·exact h c r hc
 intro c r h;exact go es _ (fun c=>∃e∈es,e.tie=true∧c=_e e.pr.1 e.pr.2) (fun c r z=>(by cases z)) (fun e he t=>⟨e,he,t,rfl⟩) c r h
theorem _my (h:e.tie=true):∃(x y:Str) (d:Int) (W:Str),e.row.map kV=[.str W,.str x,.str y,.int d]∧(W="union"∨W="parted")∧e.pr=(x,y)∧e.kind=W∧e.day=d:=by
 cases e with
 |union x y d=>exact ⟨x,y,d,_,rfl,.inl rfl,rfl,rfl,rfl⟩
 |parted x y d=>exact ⟨x,y,d,_,rfl,.inr rfl,rfl,rfl,rfl⟩
 |_=>cases h
theorem _lp {f:_M} (h:e.tie=true):Yq f e=f:=by
 cases e with
 |union x y d=>rfl
 |parted x y d=>rfl
 |_=>cases h
theorem _eb {κ α:Type} [DecidableEq κ] {q:κ×α}:∀{l:List (κ×α)},(l.map (·.1)).Nodup->q∈l->_F q.1 l=some q.2
 |[],_,h=>by cases h
 |p::l,nd,h=>by
  obtain ⟨n1,n2⟩:=QO.mp nd;unfold _F;rcases Qo.mp h with rfl|h
  ·rw [Qb rfl]
  ·rw [Qa (fun z=>n1 (by show p.1∈_;rw [z];exact RD (f:=(·.1)) h))];exact _eb n2 h
theorem _hu (gd:GdL pool es):_es es:=fun n s d fa mo h=>_fV (gd.d5 _ h).1
theorem _oD {ad:Ent->List Str} (h:∀e,ad e.told=ad e) (es:List Ent):(es.map Ent.told).flatMap ad=es.flatMap ad:=by
 rw [List.flatMap_map];exact Qk (fun z=>es.flatMap z) (funext h)
structure Jn (pool:List Str) (B:Bk) (es:List Ent) (ls:XD) (F:_M):Prop where
 li:LI5 pool B B.kept
 hk:B.kept.map (·.1)=es.map Ent.told
 gd:GdL pool es
 kn:(ls.map (·.1)).Nodup
 la:∀c,(_F c ls).map (·.2)=YF es c
 lke:∀c,F c=ls.foldl Xp (Yu es) c
section
variable {ls:XD} {F:_M}
theorem Jn.known (j:Jn pool B es ls F) (h:Ent.born n s d f m∈es):Known B n∧X8 B n=s:=by
 have:=V4 j.hk j.gd.bu (W6.mpr h);exact ⟨this.1,this.2.1⟩
theorem Jn.born (j:Jn pool B es ls F) (h:Known B n):∃d f m,Ent.born n (X8 B n) d f m∈es:=by
 unfold Known at h;obtain ⟨p,hp⟩:=Option.ne_none_iff_exists'.mp h;obtain ⟨hm,hb⟩:=Vn hp;obtain ⟨e,a⟩:=p;cases e with
 |born n' s d f m =>
  cases hb;have e1:X8 B n=s:=J7 hp rfl;have:Ent.born n s d f m∈B.kept.map (·.1):=Qf.mpr ⟨_,hm,rfl⟩;rw [j.hk] at this;rw [e1];exact ⟨d,f,m,W6.mp this⟩
 |_=>cases hb
theorem Jn.inp (j:Jn pool B es ls F) (h:Known B n):n∈pool:=by
 obtain ⟨d,f,m,hb⟩:=j.born h;exact (j.gd.d5 _ hb).2.2 n rfl
theorem Jn.find (j:Jn pool B es ls F) {q:(Str×Str)×Addr×Int×Str} (h:q∈ls):YF es q.1=some q.2.2:=by
 rw [←j.la];have:_F q.1 ls=some q.2:=_eb j.kn h;rw [this];rfl
theorem Jn.mem_in (j:Jn pool B es ls F) {x:Str} (h:x∈F c):Known B x:=by
 have ex:∃e∈es,x∈e.named∨e.bornName=some x:=by
  rw [j.lke] at h;obtain ⟨l,n⟩:=c;by_cases e:l="S"
  ·subst e;rcases _e0.mp h with h|⟨q,hq,_,hx⟩
   ·exact _cI _ _ h
   ·obtain ⟨e,he,ht,hs⟩:=_dH (j.find hq);refine ⟨e,he,.inl ?_⟩
    have _x:x=e.pr.1∨x=e.pr.2:=by
     have:_e e.pr.1 e.pr.2=(e.pr.1,e.pr.2)∨_e e.pr.1 e.pr.2=(e.pr.2,e.pr.1):=by unfold _e;split<;>simp
     rcases hx with hx|hx<;>rcases this with t|t<;>rw [←hs,hx] at t<;>have t1:=Qk (·.1) t<;>have t2:=Qk (·.2) t
     ·exact .inr t2
     ·exact .inl t2
     ·exact .inl t1
     ·exact .inr t1
    cases e with
    |union a b d=>rcases _x with rfl|rfl<;>simp [Ent.named,Ent.pr]
    |parted a b d=>rcases _x with rfl|rfl<;>simp [Ent.named,Ent.pr]
    |_=>cases ht
  ·rw [_bg e] at h;exact _cI _ _ h
 obtain ⟨e,he,h1|h1⟩:=ex
 ·obtain ⟨s,d,f,m,hb⟩:=j.gd.known e he x h1;exact (j.known (W6.mp hb)).1
 ·cases e with
  |born n s d f m=>cases h1;exact (j.known he).1
  |_=>cases h1
theorem Jn.step (j:Jn pool B es ls F) (hs:s∈Y9) (kn:Known B n) (x:Str):x∈Y8 B s n↔x∈F (s,n):=by
 have so:=_hu j.gd;have ne:=fun {l:Str} (hl:l∈Xg)=>_nj so hl;have lks:∀l,Yx B l n=(YE (es.map Ent.told)).1 (l,n):=fun l=>by rw [Vz,j.li.st.lks,j.hk]
 have six:∀{l:Str} {ad:Str->Ent->List Str},Wk l=false->¬l="S"->Adds l ad->(∀e,ad n e.told=ad n e)->(∀e∈es,∀f:_M,Yq f e (l,n)=f (l,n)++ad n e)->(x∈Y8 B l n↔x∈F (l,n)):=fun {l ad} ht nS A tl st=>by
  unfold Y8;rw [Qa (by rw [ht];decide),lks,A.all,(Y4 _).mem_iff,_oD tl,j.lke,_bg nS,_dD st]
 have tst:s="he"∨s="she"->(x∈Y8 B s n↔x∈F (s,n)):=fun h=>by
  have ht:Wk s=true:=by rcases h with rfl|rfl<;>trivial
  have nS:¬s="S":=by rcases h with rfl|rfl<;>trivial
  unfold Y8;rw [Qb ht,j.lke,_bg nS,_jt h];obtain ⟨d,f,m,hb⟩:=j.born kn;by_cases e:X8 B n=s
  ·rw [Qb e];rw [e] at hb;exact ⟨fun z=>⟨by simpa using z,d,f,m,hb⟩,fun z=>by rw [z.1];simp⟩
  ·rw [Qa e];exact ⟨fun z=>(by cases z),fun ⟨_,d',f',m',hb'⟩=>absurd (j.known hb').2 e⟩
 simp only [Y9,Qo,Q5,Q6] at hs;rcases hs with rfl|rfl|rfl|rfl|rfl|rfl|rfl|h|h
 ·exact six (by trivial) (by trivial) _cC (fun e=>by cases e<;>rfl) fun e he f=>_oT f e n (ne (by trivial) e he)
 ·exact six (by trivial) (by trivial) _eD (fun e=>by cases e<;>rfl) fun e he f=>_mR f e n (ne (by trivial) e he)
 ·exact six (by trivial) (by trivial) _fc (fun e=>by cases e<;>rfl) fun e he f=>_h2 f e n (ne (by trivial) e he)
 ·exact six (by trivial) (by trivial) _cp (fun e=>by cases e<;>rfl) fun e he f=>_hF f e n (ne (by trivial) e he)
 ·exact six (by trivial) (by trivial) _eZ (fun e=>by cases e<;>rfl) fun e he f=>_je f e n (ne (by trivial) e he)
 ·exact six (by trivial) (by trivial) _gI (fun e=>by cases e<;>rfl) fun e he f=>_n0 f e n (ne (by trivial) e he)
 ·have eS:Yu es ("S",n)=[]:=by
   rw [_dD (ad:=fun _=>[]) fun e he f=>_lu f e n (ne (by trivial) e he)];simp
  have ap:=j.li.ap';have once:=j.li.once;rw [j.hk] at ap once;unfold Y8;rw [Qa (by trivial),lks,(_ms ap).mem,_dJ once,←_pC once,j.lke,_e0,eS]
  have td:J8 (es.map Ent.told) n x=true↔∃d,YF es (_e n x)=some (d,("union" : Str)):=by
   rw [←_jI,_nt];unfold J8;cases (es.map Ent.told).foldl (WG n x) none with
   |none=>simp
   |some e =>
    show decide (e.kind="union")=true↔∃d,some (e.day,e.kind)=some (d,("union" : Str));rw [NJ];exact ⟨fun h=>⟨e.day,by rw [h]⟩,fun ⟨d,h⟩=>Qk (·.2) (Ql h)⟩
  rw [td];constructor
  ·rintro ⟨d,h⟩;rw [←j.la] at h;cases hf:_F (_e n x) ls with
   |none=>rw [hf] at h;cases h
   |some w =>
    rw [hf] at h;have hm:=Vj hf;have hw:w.2=(d,("union" : Str)):=Ql h;refine .inr ⟨_,hm,by rw [hw],?_⟩;show _e n x=(n,x)∨_e n x=(x,n);unfold _e;split<;>simp
  ·rintro (h|⟨q,hq,hu,hx⟩)
   ·cases h
   ·have hl:=j.find hq;obtain ⟨e,he,ht,hs⟩:=_dH hl
    have e1:_e n x=q.1:=by
     rcases hx with hx|hx
     ·rw [show _e n x=_e q.1.1 q.1.2 by rw [hx],hs,W7]
     ·rw [_bd,show _e x n=_e q.1.1 q.1.2 by rw [hx],hs,W7]
    rw [e1,hl];exact ⟨q.2.2.1,by rw [←hu]⟩
 ·exact tst (.inl h)
 ·exact tst (.inr h)
theorem Jn.clo (j:Jn pool B es ls F) (l:pool.length≤60):Clo B pool:=⟨fun s hs n kn x hx=>j.mem_in ((j.step hs kn x).mp hx),fun n h=>j.inp h,l⟩
end
theorem _fY (n:Str):SrtOf (·=n) [n]:=⟨by simp,by simp,fun x=>by simp⟩
section
variable {w:World} {mg:Str->Option Value}
noncomputable def StAt (T:Tx K w mg) (H:Hp) (x:V) (s:Str):Prop:=∃a dx,x=.ref a∧(H a=some (.ins T.c_Letter dx [("letter",.str s)])∨H a=some (.ins T.c_Test dx [("wanted",.str s)]))
noncomputable def SdAt (T:Tx K w mg) (H:Hp) (x:V) (u:Str):Prop:=∃a dx,x=.ref a∧H a=some (.ins T.c_Said dx [("word",.str u)])
noncomputable def RowAt (H:Hp) (t:V) (u:Str) (rs:Y2):Prop:=∃p kvs d,t=.ref p∧H p=some (.dK kvs)∧_y kvs (.inr u)=some (.ref d)∧H d=some (.dK (YC rs))∧(∀r∈rs,H r.2.1=some (.lst (r.2.2.map V.str)))∧(rs.map (·.1)).Nodup
noncomputable def PcAt (T:Tx K w mg) (H:Hp) (x v t:V) (L:Str->List Str->Prop):Prop :=
 (∃s B,StAt T H x s∧s∈Y9∧BkHas K T.cB H v B∧∀n zs,L n zs->Known B n∧zs=Y8 B s n)∨∃u rs,SdAt T H x u∧RowAt H t u rs∧∀n zs,L n zs->(n,zs)∈US rs
noncomputable def PcS (T:Tx K w mg) (H:Hp) (x:V) (s:Str):Prop:=(s∈Y9∧StAt T H x s)∨∃u,s=":"++u∧SdAt T H x u
theorem RowAt.mono {t:V} {rs:Y2} (h:RowAt H t u rs) (s:Same H H'):RowAt H' t u rs:=by
 obtain ⟨p,kvs,d,e,h1,h2,h3,h4,h5⟩:=h;exact ⟨p,kvs,d,e,s _ _ h1,h2,s _ _ h3,fun r hr=>s _ _ (h4 r hr),h5⟩
theorem SdAt.mono {T:Tx K w mg} {x:V} (h:SdAt T H x s) (e:Same H H'):SdAt T H' x s:=by
 obtain ⟨a,dx,rfl,h⟩:=h;exact ⟨a,dx,rfl,e _ _ h⟩
theorem StAt.mono {T:Tx K w mg} {x:V} (h:StAt T H x s) (e:Same H H'):StAt T H' x s:=by
 obtain ⟨a,dx,rfl,h⟩:=h;exact ⟨a,dx,rfl,h.imp (e _ _) (e _ _)⟩
theorem PcAt.mono {T:Tx K w mg} {x t:V} (h:PcAt T H x v t L) (e:Same H H'):PcAt T H' x v t L:=by
 rcases h with ⟨s,B,h1,h2,h3,h4⟩|⟨u,rs,h1,h2,h3⟩
 ·exact .inl ⟨s,B,h1.mono e,h2,h3.mono e,h4⟩
 ·exact .inr ⟨u,rs,h1.mono e,h2.mono e,h3⟩
theorem PcS.mono {T:Tx K w mg} {x:V} (h:PcS T H x s) (e:Same H H'):PcS T H' x s:=h.imp (fun h=>⟨h.1,h.2.mono e⟩) fun ⟨u,a,b⟩=>⟨u,a,b.mono e⟩
end
theorem made {fs:List (Str×V)} (na:H a=none) (nd:H dx=none):Same H (_b (_b (_b H dx (.own a)) a (.ins C dx [])) a (.ins C dx fs)):=fun c u e=>by
 rw [_g (_R e na),_g (_R e na),_g (_R e nd)];exact e
noncomputable def ft (k bi li ti su:Addr) (B:Bk):List Addr:=[k,bi,li,ti,su]++B.ties.map (·.2.1)
section
variable {k y:Addr}
theorem _p5 {Hs:Hp} (bt:But [k,bi,li,ti,su,y] H H') (hy:H y=none∨y=bi∨y∈B.ties.map (·.2.1)) (gr:GrowsT H B.ties B'.ties) (sc:Same Hs H) (fs:∀c∈ft k bi li ti su B,Hs c=none):Same Hs H'∧∀c∈ft k bi li ti su B',Hs c=none:=by
 refine ⟨fun c u e=>bt.eq c u (fun m=>?_) (sc c u e),fun c m=>?_⟩
 ·have no:c∉ft k bi li ti su B:=fun z=>by rw [fs c z] at e;cases e
  have m5:c∈[k,bi,li,ti,su]++[y]:=m;rcases Qm.mp m5 with z|z
  ·exact no (QL _ z)
  obtain rfl:=QQ.mp z;rcases hy with z|z|z
  ·rw [sc c u e] at z;cases z
  ·exact no (QL _ (by rw [z];simp))
  ·exact no (QT _ z)
 ·rcases Qm.mp m with z|z
  ·exact fs c (QL _ z)
  ·rcases gr c z with z|z
   ·exact fs c (QT _ z)
   ·exact _N sc z
end
theorem _hT {k:Addr} (nb:H b=none) (ndx:H dx=none) (keep:∀c o,_b (_b H dx (.own b)) b (.ins C dx []) c=some o->c≠b->H' c=some o)
 (n1:_b (_b H dx (.own b)) b (.ins C dx []) k=none) (n2:_b (_b H dx (.own b)) b (.ins C dx []) bi=none) (n3:_b (_b H dx (.own b)) b (.ins C dx []) li=none) (n4:_b (_b H dx (.own b)) b (.ins C dx []) ti=none) (n5:_b (_b H dx (.own b)) b (.ins C dx []) su=none) :
  Same H H'∧∀c∈ft k bi li ti su VL,H c=none:=by
 have sb:Same H (_b (_b H dx (.own b)) b (.ins C dx [])):=fun c o e=>by rw [_g (_R e nb),_g (_R e ndx)];exact e
 refine ⟨fun c o e=>keep c o (sb c o e) (_R e nb),fun c m=>?_⟩
 have m':c=k∨c=bi∨c=li∨c=ti∨c=su:=by
  have e:ft k bi li ti su VL=[k,bi,li,ti,su]:=rfl;rw [e] at m;simpa using m
 rcases m' with rfl|rfl|rfl|rfl|rfl
 ·exact _N sb n1
 ·exact _N sb n2
 ·exact _N sb n3
 ·exact _N sb n4
 ·exact _N sb n5
theorem _eX (h:B.kept.map (·.1)=es.map Ent.told):_T B.kept=es.filterMap Ent.bornName:=by
 have e:_T B.kept=(B.kept.map (·.1)).filterMap Ent.bornName:=by unfold _T;rw [GX];rfl
 rw [e,h,GX,show Ent.bornName∘Ent.told=Ent.bornName from funext fun e=>by cases e<;>rfl]
theorem _jM (z:Str):¬Builtin.Str.strKind z<Builtin.Str.strKind (" | " : Str):=by
 have e:Builtin.Str.strKind (" | " : Str)=1:=by trivial
 rw [e];unfold Builtin.Str.strKind;split
 ·decide
 ·split<;>decide
theorem _aa {y:V} (h:(xs.map V.str)[i]?=some y):∃z,y=.str z∧xs[i]?=some z:=by
 rw [Qi] at h;obtain ⟨z,hz,e⟩:=QE.mp h;exact ⟨z,e.symm,hz⟩
noncomputable def Each {α:Type} (P:α->V->Prop) (as:List α) (vs:List V):Prop:=vs.length=as.length∧∀(i:Nat) (a:α) (v:V),as[i]?=some a->vs[i]?=some v->P a v
section
variable {α:Type} {P P':α->V->Prop} {as:List α} {vs:List V}
theorem Each.imp (h:Each P as vs) (f:∀a v,P a v->P' a v):Each P' as vs:=⟨h.1,fun i a v e1 e2=>f a v (h.2 i a v e1 e2)⟩
theorem Each.get (h:Each P as vs) {a:α} (e:as[i]?=some a):∃v,vs[i]?=some v∧P a v:=by
 have l:i<vs.length:=by rw [h.1];exact (QB.mp e).1
 exact ⟨vs[i],Qu l,h.2 i a _ e (Qu l)⟩
theorem Each.get' (h:Each P as vs) (e:vs[i]?=some v):∃a,as[i]?=some a∧P a v:=by
 have l:i<as.length:=by rw [←h.1];exact (QB.mp e).1
 exact ⟨as[i],Qu l,h.2 i _ v (Qu l) e⟩
theorem Each.snoc (h:Each P as vs) {a:α} (p:P a v):Each P (as++[a]) (vs++[v]):=by
 refine ⟨by simp [h.1],fun i b u e1 e2=>?_⟩;by_cases l:i<as.length
 ·rw [RI l] at e1;rw [RI (by rw [h.1];exact l)] at e2;exact h.2 i b u e1 e2
 ·have li:=(QB.mp e1).1;rw [Qx,GA] at li;have ei:i=as.length:=by omega
  subst ei;rw [RW (Qe _),Ge] at e1;rw [RW (by rw [h.1];exact Qe _),h.1,Ge] at e2;cases (show a=b by simpa using e1);cases (show v=u by simpa using e2);exact p
end
section
variable {w:World} {mg:Str->Option Value} (T:Tx K w mg)
noncomputable def PartAt (H:Hp) (b:TongM.Bran) (v:V):Prop:=∃t u os,v=.ref t∧H t=some (.tup [.ref u,.str b.2])∧H u=some (.tup os)∧Each (fun s o=>PcS T H o s) b.1 os∧b.1.length≤12
noncomputable def PartsAt (H:Hp) (bs:List TongM.Bran) (v:V):Prop:=∃l os,v=.ref l∧H l=some (.lst os)∧Each (PartAt T H) bs os∧bs.length≤8
noncomputable def DictAt (H:Hp) (d:Addr) (rows:List TongM.Rw):Prop:=∃zs:List (Str×V),H d=some (.dK (zs.map fun p=>(.inr p.1,p.2)))∧zs.map (·.1)=rows.map (·.1)∧Each (fun r v=>PartsAt T H r.2 v) rows (zs.map (·.2))∧rows.length≤40
noncomputable def DictW (H:Hp) (d:Addr) (rows:List TongM.Rw):Prop:=∃zs:List (Str×V),Rd H d (.dK (zs.map fun p=>(.inr p.1,p.2)))∧zs.map (·.1)=rows.map (·.1)∧Each (fun r v=>PartsAt T H r.2 v) rows (zs.map (·.2))∧rows.length≤40
noncomputable def TongAt (H:Hp) (v:V) (rows:List TongM.Rw):Prop:=∃b dx d z,v=.ref b∧H b=some (.ins T.c_Tongue dx [("rows",.ref d),("source",.str z)])∧DictW T H d rows
noncomputable def TgAt (H:Hp) (v:V) (d:Addr) (rows:List TongM.Rw):Prop:=∃b dx z,v=.ref b∧H b=some (.ins T.c_Tongue dx [("rows",.ref d),("source",.str z)])∧DictAt T H d rows
end
noncomputable def Wp (o:HO):Prop:=(∀xs,o≠.tup xs)∧∀C dx f s,o≠.ins C dx [(f,.str s)]
section
variable {w:World} {mg:Str->Option Value} {T:Tx K w mg}
theorem _gH (xs:List V):Wp (.lst xs):=⟨fun _ e=>(nomatch e),fun _ _ _ _ e=>(nomatch e)⟩
theorem _cr (xs:List (_k×V)):Wp (.dK xs):=⟨fun _ e=>(nomatch e),fun _ _ _ _ e=>(nomatch e)⟩
theorem StAt.but (h:StAt T H v s) (b:YZ D H H') (hD:∀o,H D=some o->Wp o):StAt T H' v s:=by
 obtain ⟨a,dx,rfl,h⟩:=h
 have ne:∀{C:Addr} {f:Str},H a=some (.ins C dx [(f,.str s)])->a≠D:=fun e z=>by
  subst z;exact (hD _ e).2 _ _ _ _ rfl
 exact ⟨a,dx,rfl,h.imp (fun h=>b _ _ (ne h) h) fun h=>b _ _ (ne h) h⟩
theorem SdAt.but (h:SdAt T H v s) (b:YZ D H H') (hD:∀o,H D=some o->Wp o):SdAt T H' v s:=by
 obtain ⟨a,dx,rfl,h⟩:=h;exact ⟨a,dx,rfl,b _ _ (fun z=>by subst z;exact (hD _ h).2 _ _ _ _ rfl) h⟩
theorem PcS.but (h:PcS T H v s) (b:YZ D H H') (hD:∀o,H D=some o->Wp o):PcS T H' v s:=h.imp (fun h=>⟨h.1,h.2.but b hD⟩) fun ⟨u,e,h⟩=>⟨u,e,h.but b hD⟩
theorem PartAt.but {p:TongM.Bran} (h:PartAt T H p v) (b:YZ D H H') (hD:∀o,H D=some o->Wp o):PartAt T H' p v:=by
 obtain ⟨t,u,os,rfl,h1,h2,h3,h4⟩:=h
 have ne:∀a xs,H a=some (.tup xs)->a≠D:=fun a xs e z=>by
  subst z;exact (hD _ e).1 _ rfl
 exact ⟨t,u,os,rfl,b _ _ (ne _ _ h1) h1,b _ _ (ne _ _ h2) h2,h3.imp fun s o q=>q.but b hD,h4⟩
theorem PartsAt.but {p:List TongM.Bran} (h:PartsAt T H p v) (b:YZ D H H') (hD:∀o,H D=some o->Wp o) (hl:∀xs,H D≠some (.lst xs)):PartsAt T H' p v:=by
 obtain ⟨l,os,rfl,h1,h2,h3⟩:=h;exact ⟨l,os,rfl,b _ _ (fun z=>by subst z;exact hl _ h1) h1,h2.imp fun s o q=>q.but b hD,h3⟩
theorem DictAt.but {d:Addr} (h:DictAt T H d rows) (b:YZ D H H') (hD:∀o,H D=some o->Wp o) (hl:∀xs,H D≠some (.lst xs)) (hk:∀xs,H D≠some (.dK xs)):DictAt T H' d rows:=by
 obtain ⟨zs,h1,h2,h3,h4⟩:=h;exact ⟨zs,b _ _ (fun z=>by subst z;exact hk _ h1) h1,h2,h3.imp fun s o q=>q.but b hD hl,h4⟩
theorem PartAt.same {p:TongM.Bran} (h:PartAt T H p v) (b:Same H H'):PartAt T H' p v:=by
 obtain ⟨t,u,os,rfl,h1,h2,h3,h4⟩:=h;exact ⟨t,u,os,rfl,b _ _ h1,b _ _ h2,h3.imp fun s o q=>q.mono b,h4⟩
theorem PartsAt.same {p:List TongM.Bran} (h:PartsAt T H p v) (b:Same H H'):PartsAt T H' p v:=by
 obtain ⟨l,os,rfl,h1,h2,h3⟩:=h;exact ⟨l,os,rfl,b _ _ h1,h2.imp fun s o q=>q.same b,h3⟩
theorem DictAt.same {d:Addr} (h:DictAt T H d rows) (b:Same H H'):DictAt T H' d rows:=by
 obtain ⟨zs,h1,h2,h3,h4⟩:=h;exact ⟨zs,b _ _ h1,h2,h3.imp fun s o q=>q.same b,h4⟩
theorem Ux {u:HO} (h:Rd H a u) (b:Same H H'):Rd H' a u:=by
 rcases h with h|⟨o,h⟩
 ·exact .inl (b _ _ h)
 ·exact .inr ⟨o,b _ _ h⟩
theorem DictW.same {d:Addr} (h:DictW T H d rows) (b:Same H H'):DictW T H' d rows:=by
 obtain ⟨zs,h1,h2,h3,h4⟩:=h;exact ⟨zs,Ux h1 b,h2,h3.imp fun s o q=>q.same b,h4⟩
theorem TgAt.frz {d:Addr} (h:TgAt T H v d rows) (b:YZ d H H') {ob:Obj} (e:H d=some (.dK kvs)) (e':H' d=some (.frz ob (.dK kvs))):TongAt T H' v rows:=by
 obtain ⟨o,dx,z,rfl,h1,zs,k1,k2,k3,k4⟩:=h;have od:o≠d:=fun w=>by rw [w,e] at h1;cases h1
 have ek:kvs=zs.map fun p=>(.inr p.1,p.2):=by rw [e] at k1;cases k1;rfl
 have fr:∀o,H d=some o->Wp o:=fun o ho=>by rw [e] at ho;cases ho;exact _cr _
 exact ⟨o,dx,d,z,rfl,b _ _ od h1,zs,.inr ⟨ob,by rw [←ek];exact e'⟩,k2,k3.imp fun s o q=>q.but b fr fun xs w=>(by rw [e] at w;cases w),k4⟩
theorem TongAt.same (h:TongAt T H v rows) (b:Same H H'):TongAt T H' v rows:=by
 obtain ⟨o,dx,d,z,rfl,h1,h2⟩:=h;exact ⟨o,dx,d,z,rfl,b _ _ h1,h2.same b⟩
end
theorem _cU {n:Str}:∀{zs:List (Str×V)},n∉zs.map (·.1)->_y (zs.map fun p=>((.inr p.1:_k),p.2)) (.inr n)=none
 |[],_=>rfl
 |p::zs,h=>by
  have h1:¬((.inr p.1:_k))=.inr n:=fun e=>h (by rw [←Ri e];simp);rw [Qs,Y6 h1];exact _cU fun z=>h (Qv _ z)
theorem _bw {n:Str} {v:V}:∀{zs:List (Str×V)} {i:Nat},(zs.map (·.1)).Nodup->zs[i]?=some (n,v)->_y (zs.map fun p=>((.inr p.1:_k),p.2)) (.inr n)=some v
 |[],_,_,e=>by cases e
 |p::zs,0,_,e=>by
  cases (show p=(n,v) by simpa using e);rw [Qs,Xa rfl]
 |p::zs,i+1,nd,e=>by
  have e2:zs[i]?=some (n,v):=by simpa using e
  have VT:=QO.mp (show (p.1::zs.map (·.1)).Nodup from nd);have h1:¬((.inr p.1:_k))=.inr n:=fun z=>VT.1 (by rw [Ri z];exact Qf.mpr ⟨_,Qt e2,rfl⟩);rw [Qs,Y6 h1];exact _bw VT.2 e2
theorem _f1 {zs:List (Str×V)} (h:n∉zs.map (·.1)):Yj (zs.map fun p=>((.inr p.1:_k),p.2)) (.inr n) v=(zs++[(n,v)]).map fun p=>((.inr p.1:_k),p.2):=by
 unfold Yj;rw [Qa,Qh]
 ·rfl
 ·intro t;obtain ⟨q,hq,e⟩:=Gn.mp t;obtain ⟨p,hp,rfl⟩:=Qf.mp hq;have e2:(.inr p.1:_k)=.inr n:=QG e;exact h (by rw [←Ri e2];exact Qf.mpr ⟨p,hp,rfl⟩)
theorem _nL {α:Type} {l:List α} (h:1≤l.length):l≠[]:=fun e=>by subst e;simp at h
noncomputable def Yc (B:Bk) (m a b:Str):Bool:=if m="other" then decide (a≠b) else if m="elder" then decide (_X B b<_X B a) else if m="younger" then decide (_X B a<_X B b) else true
theorem StAt.isi {w:World} {mg:Str->Option Value} {T:Tx K w mg} {x:V} (h:StAt T H x s):∃ty,Kd K H x ty∧W.kitOne K ty (.ref T.c_Said)=some false:=by
 obtain ⟨a,dx,rfl,h|h⟩:=h
 ·exact ⟨_,.of (.ins h T.cl_Letter T.ci_Letter T.cg T.ct T.mo_Letter),T.kp_Letter⟩
 ·exact ⟨_,.of (.ins h T.cl_Test T.ci_Test T.cg T.ct T.mo_Test),T.kp_Test⟩
theorem SdAt.isi {w:World} {mg:Str->Option Value} {T:Tx K w mg} {x:V} (h:SdAt T H x s):∃ty,Kd K H x ty∧W.kitOne K ty (.ref T.c_Said)=some true:=by
 obtain ⟨a,dx,rfl,h⟩:=h;exact ⟨_,.of (.ins h T.cl_Said T.ci_Said T.cg T.ct T.mo_Said),T.kp_Said⟩
theorem _bR (h:Known B n):∃p s d f m,_Y n B.kept=some p∧p.1=.born n s d f m∧_X B n=d:=by
 cases e:_Y n B.kept with
 |none=>exact absurd e h
 |some p =>
  obtain ⟨_,hb⟩:=Vn e;obtain ⟨x,a⟩:=p;cases x with
  |born n' s d f m =>
   cases (show n'=n from Ql hb);exact ⟨_,s,d,f,m,rfl,rfl,V2 e rfl⟩
  |_=>cases hb
noncomputable def Xw (B:Bk) (m a b:Str):Option V:=if Yc B m a b=true then some (.str b) else none
theorem UM (B:Bk) (m a:Str):∀zs:List Str,(zs.map (Xw B m a)).filterMap id=(zs.filter (Yc B m a)).map V.str
 |[]=>rfl
 |z::zs=>by
  have ih:=UM B m a zs;rw [Qs,Q2,R4];by_cases h:Yc B m a z=true
  ·rw [show Xw B m a z=some (.str z) from Qb h,Qb h];show V.str z::_=_;rw [ih];rfl
  ·rw [show Xw B m a z=none from Qa h,Qa h];exact ih
theorem _b7 {rs:Y2} (h:n∉rs.map (·.1)):_y (YC rs) (.inr n)=none:=by
 cases hv:_y (YC rs) (.inr n) with
 |none=>rfl
 |some v =>
  exfalso;unfold _y at hv;obtain ⟨p,hp,_⟩:=QE.mp hv;have m:=Mc hp;have e:p.1=Sum.inr n:=by have:=List.find?_some hp;simpa using this
  obtain ⟨r,hr,rfl⟩:=Qf.mp m;exact h (Qf.mpr ⟨r,hr,Ri e⟩)
theorem _g9 {rs:Y2} (h:n∉rs.map (·.1)) (D:Addr) (zs:List Str):Yj (YC rs) (.inr n) (.ref D)=YC (rs++[(n,D,zs)]):=by
 rw [VB _ (_b7 h)];unfold YC;rw [Qh];rfl
theorem DGet.kr {k:_k} (e:Rd H a (.dK kvs)):DGet H a (kV k) (_y kvs k):=.inl ⟨kvs,k,e,rfl,rfl⟩
noncomputable abbrev VM:=List (Str×Addr×Y2)
noncomputable def YM (tab:VM):List (_k×V):=tab.map fun q=>(.inr q.1,.ref q.2.1)
theorem _eV (tab:VM):YM tab=YC (tab.map fun q=>(q.1,q.2.1,[])):=by unfold YM YC;rw [QJ];rfl
theorem _jr (h:u∉tab.map (·.1)) (k:Addr) (rs:Y2):Yj (YM tab) (.inr u) (.ref k)=YM (tab++[(u,k,rs)]):=by
 rw [_eV,_g9 (by rw [QJ];exact h) k [],_eV,Qh];rfl
noncomputable def YY (es:List Ent):List (Str×V):=es.filterMap fun e=>match e with
 |.born n _ d _ _=>some (n,.int d)
 |_=>none
theorem _gi (es:List Ent) (e:Ent):YY (es++[e])=YY es++YY [e]:=by unfold YY;rw [Rv]
theorem _ah (es:List Ent):(YY es).map (·.1)=es.filterMap Ent.bornName:=by
 unfold YY;rw [NP]
 congr 1
 funext e
 cases e<;>rfl
theorem _km (nd:(es.filterMap Ent.bornName).Nodup) (h:Ent.born n s d f m∈es):_y (Yo (YY es)) (.inr n)=some (.int d):=by
 have hm:(n,V.int d)∈YY es:=Rj.mpr ⟨_,h,rfl⟩;obtain ⟨i,hi⟩:=Gq hm;exact _bw (by rw [_ah];exact nd) hi
theorem Jn.day {ls:XD} {F:_M} (j:Jn pool B es ls F) (h:Known B n):∃s f m,Ent.born n s (_X B n) f m∈es:=by
 obtain ⟨p,s,d,f,m,e,ep,rfl⟩:=_bR h;have hm:p.1∈B.kept.map (·.1):=Qf.mpr ⟨p,(Vn e).1,rfl⟩;rw [j.hk,ep] at hm;exact ⟨s,f,m,W6.mp hm⟩
theorem BkAt.offT {k c:Addr} {w:List (_k×V)} (h:BkAt K C H b dx k bi li ti su B) (e:H c=some (.dK w)) (n:c∉ft k bi li ti su B):BkAt K C (_b H c o) b dx k bi li ti su B:=by
 have off:∀{a:Addr} {o':HO},H a=some o'->(∀ys,o'≠.dK ys)->_b H c o a=some o':=fun {a o'} ea no=>(_g (fun z=>by subst z;rw [e] at ea;cases ea;exact no _ rfl)).trans ea
 exact ⟨off h.ob (fun _ z=>by cases z),h.ap,h.at',off h.ke (fun _ z=>by cases z),(_g fun z=>n (QL _ (by rw [←z];simp))).trans h.bi,off h.li (fun _ z=>by cases z),off h.ti (fun _ z=>by cases z),off h.su (fun _ z=>by cases z),
  fun p hp=>YH (h.en p hp) e (fun _ z=>by cases z) (fun _ _ z=>by cases z),fun q hq=>off (h.ll q hq) (fun _ z=>by cases z),fun q hq=>(_g fun z=>n (QT _ (Qf.mpr ⟨q,hq,z⟩))).trans (h.tt q hq)⟩
theorem _mE (s:Same (_b H a o) H'):Same (_b H a o') (_b H' a o'):=fun c u e=>by
 by_cases z:c=a
 ·rw [z,_f] at e ⊢;exact e
 ·rw [_g z] at e ⊢;exact s _ _ (by rw [_g z];exact e)
theorem Js {c:Addr}:_b H a o c=none↔c≠a∧H c=none:=by
 by_cases z:c=a
 ·rw [z,_f];simp
 ·rw [_g z];simp [z]
theorem J9 {n:Nat}:∀{l:List Str},(∀x∈l,x.length≤n)->(l.map (·.length)).sum≤n*l.length
 |[],_=>QM _
 |x::r,h=>by
  have h1:=h x (by simp);have h2:=J9 (n:=n) (l:=r) fun x hx=>h x (Qv _ hx);rw [Qs,List.sum_cons,QH,Nat.mul_succ];omega
theorem EdAt.but {c:Addr} {w:List (_k×V)} (h:EdAt H D ed) (b:YZ c H H') (hc:H c=some (.dK w)):EdAt H' D ed :=
 ⟨b _ _ (fun z=>by have:=h.d;rw [z,hc] at this;cases this) h.d,fun q hq=>b _ _ (fun z=>by have:=h.l q hq;rw [z,hc] at this;cases this) (h.l q hq),h.an,h.kn⟩
theorem UY {rs:Y2} (e:rs.map (·.1)=ns) (nd:ns.Nodup) (h:n∈ns):∃r∈rs,r.1=n∧_y (YC rs) (.inr n)=some (.ref r.2.1):=by
 rw [←e] at h;obtain ⟨r,hr,rfl⟩:=Qf.mp h;refine ⟨r,hr,rfl,_aG (f:=fun r:Str×Addr×List Str=>(.inr r.1:_k)) (g:=fun r=>V.ref r.2.1) ?_ hr⟩;rw [←e] at nd;exact GN.mpr ((GN.mp nd).imp fun h z=>h (Ri z))
noncomputable def KeysAt (H:Hp) (d:Addr) (ws:List Str):Prop:=∃zs:List (Str×V),H d=some (.dK (zs.map fun p=>((.inr p.1:_k),p.2)))∧zs.map (·.1)=ws
theorem KeysAt.mono {d:Addr} (h:KeysAt H d ws) (s:Same H H'):KeysAt H' d ws:=by
 obtain ⟨zs,h1,h2⟩:=h;exact ⟨zs,s _ _ h1,h2⟩
noncomputable def Y0 (B:Bk) (A:Str->Str->List Str) (s n:Str):List Str:=if s∈Y9 then Y8 B s n else A (Txt.slice s (some 1) none) n
theorem _eP (u:Str):(":"++u:Str)∉Y9:=fun h=>by
 have e:∀s∈Y9,Txt.startswith s ":"=false:=by trivial
 have:=e _ h;rw [show (":"++u:Str)=TongM.col++u from rfl,TongM.starts_col] at this;cases this
theorem Jp (h:s∈Y9):Y0 B A s n=Y8 B s n:=Qb h
theorem Jl:Y0 B A (":"++u) n=A u n:=by
 unfold Y0;rw [Qa (_eP u),show (":"++u:Str)=TongM.col++u from rfl,TongM.slice_col]
theorem Ut {L:Str->Str->List Str} {R:Str->Prop} {G:Str->Prop} (led:∀s,G s->∀n,R n->∀x∈L s n,R x):∀{w:List Str} {P:Str->Prop},(∀s∈w,G s)->(∀x,P x->R x)->∀y,XA L w P y->R y
 |[],P,_,hp,y,h=>hp y h
 |s::w,P,hw,hp,y,h=>Ut led (w:=w) (fun t ht=>hw t (by simp [ht])) (fun x ⟨z,hz,hx⟩=>led s (hw s (by simp)) z (hp z hz) x hx) y h
theorem _ds {L L':Str->Str->List Str}:∀{w:List Str} {P:Str->Prop},(∀s∈w,∀n x,x∈L s n↔x∈L' s n)->∀y,XA L w P y↔XA L' w P y
 |[],P,_,y=>Iff.rfl
 |s::w,P,h,y=>by
  have e:(fun x=>∃y,P y∧x∈L s y)=fun x=>∃y,P y∧x∈L' s y:=funext fun x=>propext (exists_congr fun z=>and_congr Iff.rfl (h s (by simp) z x));show XA L w _ y↔XA L' w _ y;rw [e];exact _ds (w:=w) (fun t ht=>h t (by simp [ht])) y
noncomputable def TabOk (B:Bk) (H:Hp) (t:V) (ws:List Str) (A:Str->Str->List Str):Prop:=(∀u∈ws,∃rs,RowAt H t u rs∧∀n,Known B n->(n,A u n)∈US rs)∧∀u∈ws,∀n,Known B n->∀y∈A u n,Known B y
section
variable {t:V}
theorem TabOk.mono (h:TabOk B H t ws A) (s:Same H H'):TabOk B H' t ws A:=⟨fun u hu=>(h.1 u hu).imp fun _ h=>⟨h.1.mono s,h.2⟩,h.2⟩
theorem _oX {w:Str} (h:(":"++u:Str)=TongM.col++w):u=w:=by
 have:=Qk (fun z=>Txt.slice z (some 1) none) h
 rwa [show (":"++u:Str)=TongM.col++u from rfl,TongM.slice_col,TongM.slice_col] at this
theorem _kZ (h:TongM.PieceOk ws s) (e:s=":"++u):u∈ws:=by
 rcases h with h|⟨w,hw,e2⟩
 ·subst e;exact absurd h (_eP u)
 ·rw [e] at e2;rw [_oX e2];exact hw
theorem TabOk.led (h:TabOk B H t ws A) (clo:Clo B pool) (p:TongM.PieceOk ws s) (kn:Known B n):∀x∈Y0 B A s n,Known B x:=fun x hx=>by
 rcases p with p|⟨w,hw,rfl⟩
 ·rw [Jp p] at hx;exact clo.led s p n kn x hx
 ·rw [show (TongM.col++w:Str)=":"++w from rfl,Jl] at hx;exact h.2 w hw n kn x hx
end
noncomputable def LedW (B:Bk) (A:Str->Str->List Str) (bs:List TongM.Bran) (n y:Str):Prop:=∃b∈bs,XA (Y0 B A) b.1 (·=n) y∧Yc B b.2 n y=true
section
variable {t:V} {A':Str->Str->List Str} {bs:List TongM.Bran}
theorem LedW.kn (tok:TabOk B H t ws A) (clo:Clo B pool) (pk:∀b∈bs,∀s∈b.1,TongM.PieceOk ws s) (kn:Known B n):∀y,LedW B A bs n y->Known B y:=fun y ⟨b,hb,h,_⟩ =>
 Ut (G:=TongM.PieceOk ws) (fun _ hs _ kn=>tok.led clo hs kn) (pk b hb) (fun x e=>by rw [e];exact kn) y h
theorem _lD (h:∀u∈ws,∀n,A u n=A' u n) (p:TongM.PieceOk ws s):Y0 B A s n=Y0 B A' s n:=by
 rcases p with p|⟨w,hw,rfl⟩
 ·rw [Jp p,Jp p]
 ·rw [show (TongM.col++w:Str)=":"++w from rfl,Jl,Jl];exact h w hw n
theorem LedW.cgr (h:∀u∈ws,∀n,A u n=A' u n) (pk:∀b∈bs,∀s∈b.1,TongM.PieceOk ws s):∀y,LedW B A bs n y↔LedW B A' bs n y:=fun y =>
 exists_congr fun b=>and_congr_right fun hb=>and_congr_left fun _=>_ds (fun s hs n x=>by rw [_lD h (pk b hb s hs)]) y
end
theorem LedW.snoc {bs:List TongM.Bran} {j:Nat} {b:TongM.Bran} (hb:bs[j]?=some b):∀y,LedW B A (bs.take (j+1)) n y↔LedW B A (bs.take j) n y∨(XA (Y0 B A) b.1 (·=n) y∧Yc B b.2 n y=true):=fun y=>by
 rw [show bs.take (j+1)=bs.take j++[b] by rw [Q1,hb];rfl];unfold LedW;exact ⟨fun ⟨b',h1,h2⟩=>(Qm.mp h1).elim (fun z=>.inl ⟨b',z,h2⟩) fun z=>.inr (QQ.mp z▸h2),fun h=>h.elim (fun ⟨b',h1,h2⟩=>⟨b',QL _ h1,h2⟩) fun h=>⟨b,by simp,h⟩⟩
theorem _n4 (h:Known B n):n∈_T B.kept:=by
 cases e:_Y n B.kept with
 |none=>exact absurd e h
 |some p=>exact Rj.mpr ⟨p,(Vn e).1,(Vn e).2⟩
theorem _cP {α β:Type} {f:α->β} {l:List α} (nd:(l.map f).Nodup) {a b:α} (ha:a∈l) (hb:b∈l) (e:f a=f b):a=b:=by
 obtain ⟨i,hi⟩:=Gq ha;obtain ⟨j,hj⟩:=Gq hb;have:=(NM (by rw [Qc];exact (QB.mp hi).1) nd).mp (by rw [Qi,Qi,hi,hj];show some (f a)=some (f b);rw [e]:(l.map f)[i]?=(l.map f)[j]?);subst this;rw [hi] at hj;exact Ql hj
open Classical in
noncomputable def Jd (A:Str->Str->List Str) (u:Str) (rs:Y2):Str->Str->List Str:=fun w n=>if w=u then (if h:∃r∈rs,r.1=n then h.choose.2.2 else []) else A w n
theorem _b5 {rs:Y2} (nd:(rs.map (·.1)).Nodup) {r:Str×Addr×List Str} (hr:r∈rs):Jd A u rs u r.1=r.2.2:=by
 unfold Jd;have h:∃x∈rs,x.1=r.1:=⟨r,hr,rfl⟩;rw [Qb rfl,dif_pos h,_cP nd h.choose_spec.1 hr h.choose_spec.2]
theorem _nX {w:Str} {rs:Y2} (h:w≠u):Jd A u rs w n=A w n:=Qa h
theorem Wc {n:Nat} (h:n≤60):n<sizeLine:=small1000 (by omega)
theorem _cb (nd:(tab.map (·.1)).Nodup) {q:Str×Addr×Y2} (h:q∈tab):_y (YM tab) (.inr q.1)=some (.ref q.2.1) :=
 _aG (f:=fun q:Str×Addr×Y2=>(.inr q.1:_k)) (g:=fun q=>V.ref q.2.1) (GN.mpr ((GN.mp nd).imp fun h z=>h (Ri z))) h
noncomputable def UV (H:Hp) (ns:List Str) (A:Str->Str->List Str) (q:Str×Addr×Y2):Prop:=H q.2.1=some (.dK (YC q.2.2))∧q.2.2.map (·.1)=ns∧∀r∈q.2.2,H r.2.1=some (.lst (r.2.2.map V.str))∧r.2.2=A q.1 r.1
theorem _gg {t:Addr} {tab':VM} (ht:H t=some (.dK (YM tab'))) (nd:(tab'.map (·.1)).Nodup) (sub:∀q∈tab,q∈tab') (ok:∀q∈tab,UV H ns A q) (nnd:ns.Nodup) (kb:∀n,Known B n->n∈ns)
 (kn:∀u∈tab.map (·.1),∀n,Known B n->∀y∈A u n,Known B y):TabOk B H (.ref t) (tab.map (·.1)) A:=by
 refine ⟨fun u hu=>?_,kn⟩;obtain ⟨q,hq,rfl⟩:=Qf.mp hu;obtain ⟨h1,h2,h3⟩:=ok q hq;refine ⟨q.2.2,⟨t,_,q.2.1,rfl,ht,_cb nd (sub q hq),h1,fun r hr=>(h3 r hr).1,by rw [h2];exact nnd⟩,fun n hn=>?_⟩;have hm:=kb n hn;rw [←h2] at hm;obtain ⟨r,hr,rfl⟩:=Qf.mp hm;exact Qf.mpr ⟨r,hr,by rw [(h3 r hr).2]⟩
seal TongM.rowTxt TongM.lineOf TongM.txt
structure Wds (ws:List Str):Prop where
 nd:ws.Nodup
 lo:12≤ws.length
 nm:∀w∈ws,TongM.Nm w
noncomputable def _ff (k:Nat):Str:=("kin" : Str)++(⟨#[97+k]⟩:Str)
theorem _os:∀k,k<12->("abcdefghijkl": Str).cps.toList[k]?=some (97+k):=by trivial
noncomputable def W4 (r:Nat):List Str:=(List.range 12).map fun k=>_ff ((k+r) % 12)
theorem _o2 (c:Int):Wds (W4 (c.fmod 12).toNat):=by
 have h:∀r,r<12->(W4 r).Nodup∧12≤(W4 r).length∧∀w∈W4 r,1≤w.length∧w.length≤8∧∀x∈w.cps.toList,x∈TongM.alpha.cps.toList:=by trivial
 obtain ⟨h1,h2,h3⟩:=h (c.fmod 12).toNat (by have:=Q7 c (show (0:Int)<12 by decide);omega);exact ⟨h1,h2,fun w hw=>⟨(h3 w hw).1,(h3 w hw).2.1,(h3 w hw).2.2⟩⟩
noncomputable def _ac (c:Int):Str:=WayM.steps.getD (c.fmod 9).toNat "F"
theorem _e4 (c:Int):(c.fmod 9).toNat<WayM.steps.length:=by
 have h0:=_bK c (show (0:Int)<9 by decide);have h1:=_g6 c (show (0:Int)<9 by decide);show (c.fmod 9).toNat<9;omega
theorem _nl (c:Int):WayM.Stp (_ac c):=by
 unfold _ac WayM.Stp;rw [Md,Qu (_e4 c)];exact Gh _
theorem _iw (c:Int):_6 (WayM.steps.map V.str) (c.fmod 9)=some (.str (_ac c)):=by
 refine at_i (_bK c (by decide)) ?_;unfold _ac;rw [Qi,Md,Qu (_e4 c)];rfl
theorem _oQ (c:Int):∃m,_6 (TongM.marks.map V.str) (c.fmod 3)=some (.str m)∧m∈TongM.marks:=by
 have h0:=_bK c (show (0:Int)<3 by decide);have h1:=_g6 c (show (0:Int)<3 by decide)
 have hl:(c.fmod 3).toNat<TongM.marks.length:=by
  show (c.fmod 3).toNat<3;omega
 refine ⟨TongM.marks[(c.fmod 3).toNat],at_i h0 ?_,Gh hl⟩;rw [Qi,Qu hl];rfl
structure Lb where
 r:Addr
 p:Addr
 b:TongM.Bran
structure Lr where
 t:Addr
 l:Addr
 w:Str
 bs:List Lb
noncomputable def Lb.cells (x:Lb):List (Addr×HO):=[(x.r,.lst [.ref x.p,.str x.b.2]),(x.p,.lst (x.b.1.map V.str))]
noncomputable def Lr.cells (x:Lr):List (Addr×HO):=(x.t,.tup [.str x.w,.ref x.l])::(x.l,.lst (x.bs.map fun y=>.ref y.r))::x.bs.flatMap Lb.cells
noncomputable def Lr.row (x:Lr):TongM.Rw:=(x.w,x.bs.map (·.b))
noncomputable def cells (a:Addr) (rs:List Lr):List (Addr×HO):=(a,.lst (rs.map fun x=>.ref x.t))::rs.flatMap Lr.cells
noncomputable def RAt (H:Hp) (a:Addr) (rs:List Lr):Prop:=∀c∈cells a rs,H c.1=some c.2
noncomputable def Own (H0 H:Hp) (cs:List (Addr×HO)):Prop:=(cs.map (·.1)).Nodup∧(∀c∈cs,H c.1=some c.2∧H0 c.1=none)∧Same H0 H
section
variable {cs l1 l2:List (Addr×HO)} {p q:Addr}
theorem Own.rat (h:Own H0 H (cells a rs)):RAt H a rs:=fun c hc=>(h.2.1 c hc).1
theorem Own.start (h:H a=none):Own H (_b H a o) [(a,o)]:=by
 refine ⟨by simp,fun c hc=>?_,_j h⟩;have:c=(a,o):=by simpa using hc
 subst this;exact ⟨_f,h⟩
theorem Own.same (h:Own H0 H cs) (s:Same H H'):Own H0 H' cs:=⟨h.1,fun c hc=>⟨s _ _ (h.2.1 c hc).1,(h.2.1 c hc).2⟩,h.2.2.trans s⟩
theorem Own.set (h:Own H0 H (l1++(p,o)::l2)) (o':HO):Own H0 (_b H p o') (l1++(p,o')::l2):=by
 obtain ⟨nd,hc,s⟩:=h;have n2:=nd;rw [Qh,Qs,QV] at n2;refine ⟨by simpa using nd,fun c hm=>?_,Uo s (hc (p,o) (by simp)).2⟩;rcases Qm.mp hm with z|z
 ·have ne:c.1≠p:=n2.2.2 c.1 (Qf.mpr ⟨c,z,rfl⟩) p (by simp);rw [_g ne];exact hc c (QL _ z)
 ·rcases Qo.mp z with z|z
  ·subst z;exact ⟨_f,(hc (p,o) (by simp)).2⟩
  ·have ne:c.1≠p:=fun e=>(QO.mp n2.2.1).1 (by show p∈l2.map (·.1);rw [←e];exact Qf.mpr ⟨c,z,rfl⟩);rw [_g ne];exact hc c (QT _ (Qv _ z))
theorem Own.add (h:Own H0 H (l1++l2)) (n:H q=none) (o:HO):Own H0 (_b H q o) (l1++(q,o)::l2):=by
 obtain ⟨nd,hc,s⟩:=h;have fr:∀c∈l1++l2,c.1≠q:=fun c hm=>_R (hc c hm).1 n
 have n0:H0 q=none:=by
  cases e:H0 q with
  |none=>rfl
  |some u=>rw [s _ _ e] at n;cases n
 refine ⟨?_,fun c hm=>?_,Uo s n0⟩
 ·rw [Qh,Qs];rw [Qh] at nd;refine (List.perm_middle.nodup_iff).mpr (QO.mpr ⟨fun z=>?_,nd⟩);rw [←Qh] at z;obtain ⟨c,hm,e⟩:=Qf.mp z;exact fr c hm e
 ·rcases Qm.mp hm with z|z
  ·rw [_g (fr c (QL _ z))];exact hc c (QL _ z)
  ·rcases Qo.mp z with z|z
   ·subst z;exact ⟨_f,n0⟩
   ·rw [_g (fr c (QT _ z))];exact hc c (QT _ z)
theorem RAt.same (h:RAt H a rs) (s:Same H H'):RAt H' a rs:=fun c hc=>s _ _ (h c hc)
theorem RAt.lst (h:RAt H a rs):H a=some (.lst (rs.map fun x=>.ref x.t)):=h _ (QA ..)
theorem RAt.of {x:Lr} (h:RAt H a rs) (hx:x∈rs) {c:Addr×HO} (hc:c∈x.cells):H c.1=some c.2:=h c (Qv _ (NV.mpr ⟨x,hx,hc⟩))
theorem RAt.tup {x:Lr} (h:RAt H a rs) (hx:x∈rs):H x.t=some (.tup [.str x.w,.ref x.l]):=h.of hx (QA ..)
theorem RAt.brs {x:Lr} (h:RAt H a rs) (hx:x∈rs):H x.l=some (.lst (x.bs.map fun y=>.ref y.r)):=h.of hx (Qv _ (QA ..))
theorem RAt.br {x:Lr} {y:Lb} (h:RAt H a rs) (hx:x∈rs) (hy:y∈x.bs):H y.r=some (.lst [.ref y.p,.str y.b.2]):=h.of hx (Qv _ (Qv _ (NV.mpr ⟨y,hy,QA ..⟩)))
theorem RAt.pcs {x:Lr} {y:Lb} (h:RAt H a rs) (hx:x∈rs) (hy:y∈x.bs):H y.p=some (.lst (y.b.1.map V.str)):=h.of hx (Qv _ (Qv _ (NV.mpr ⟨y,hy,Qv _ (QA ..)⟩)))
end
structure RowOk (us:List Str) (r:Lr):Prop where
 ne:r.bs≠[]
 hi:r.bs.length≤8
 ok:∀y∈r.bs,TongM.GoodB us y.b
structure GoodL (ws:List Str) (rs:List Lr):Prop where
 ne:rs≠[]
 hi:rs.length≤12
 wds:rs.map (·.w)=ws.take rs.length
 rows:∀(i:Nat) (r:Lr),rs[i]?=some r->RowOk (ws.take i) r
theorem JT (rs:List Lr):(rs.map Lr.row).map (·.1)=rs.map (·.w):=by rw [QJ];rfl
theorem GoodL.tk (g:GoodL ws rs) (i:Nat) (hi:i≤rs.length):((rs.map Lr.row).take i).map (·.1)=ws.take i:=by
 rw [Gr,JT,g.wds,List.take_take,Nat.min_eq_left hi]
theorem GoodL.good (g:GoodL ws rs) (wo:Wds ws):TongM.GoodR (rs.map Lr.row):=by
 refine ⟨by simp [g.ne],by rw [Qc];exact Qj g.hi (by decide),?_,fun r hr=>?_,fun i r hr=>?_⟩
 ·rw [JT,g.wds];exact wo.nd.sublist (RJ _ _)
 ·have h1:r.1∈(rs.map Lr.row).map (·.1):=Qf.mpr ⟨r,hr,rfl⟩;rw [JT,g.wds] at h1;exact wo.nm _ (Q0 h1)
 ·rw [Qi] at hr;obtain ⟨x,hx,rfl⟩:=QE.mp hr;have rk:=g.rows i x hx;have il:=(QB.mp hx).1;refine ⟨?_,?_,fun b hb=>?_⟩
  ·show x.bs.map (·.b)≠[];simp [rk.ne]
  ·show (x.bs.map (·.b)).length≤8;rw [Qc];exact rk.hi
  ·obtain ⟨y,hy,rfl⟩:=Qf.mp (show b∈x.bs.map (·.b) from hb);rw [g.tk i (QS il)];exact rk.ok y hy
structure Init (ws:List Str) (ini:List Lr) (w:Str):Prop where
 hi:ini.length<12
 wds:ini.map (·.w)=ws.take ini.length
 w:ws[ini.length]?=some w
 rows:∀(i:Nat) (r:Lr),ini[i]?=some r->RowOk (ws.take i) r
theorem Init.good {x:Lr} (h:Init ws ini x.w) (k:RowOk (ws.take ini.length) x):GoodL ws (ini++[x]):=by
 refine ⟨by simp,by rw [Qx];have:=h.hi;simp;omega,?_,fun i r hr=>?_⟩
 ·rw [Qh,h.wds,Qx,GA,RL,h.w];rfl
 ·by_cases l:i<ini.length
  ·rw [RI l] at hr;exact h.rows i r hr
  ·have li:=(QB.mp hr).1;rw [Qx,GA] at li;have e:i=ini.length:=by omega
   subst e;rw [RW (Qe _),Ge] at hr;cases (show x=r by simpa using hr);exact k
theorem Init.of {x:Lr} (g:GoodL ws (ini++[x])):Init ws ini x.w∧RowOk (ws.take ini.length) x:=by
 have hl:(ini++[x]).length=ini.length+1:=by simp
 have hw:=g.wds;rw [hl,Qh] at hw;have hi:=g.hi;rw [hl] at hi
 have lw:ini.length<ws.length:=by
  have:=Qk List.length hw;rw [Qx,Qc,QU] at this;simp at this;omega
 rw [List.take_succ_eq_append_getElem lw] at hw;have e:=List.append_inj hw (by rw [Qc,QU];omega);refine ⟨⟨by omega,e.1,?_,fun i r hr=>g.rows i r (by rw [RI (QB.mp hr).1];exact hr)⟩,g.rows _ x (by simp)⟩;rw [Qu lw];have:=e.2;simp at this;rw [this]
theorem Init.next (g:GoodL ws rs) (wo:Wds ws) (hl:rs.length<12):∃w,Init ws rs w:=by
 have:=wo.lo;exact ⟨ws[rs.length]'(by omega),hl,g.wds,Qu _,g.rows⟩
theorem Init.zero (wo:Wds ws):∃w,Init ws [] w:=by
 have:=wo.lo;exact ⟨ws[0]'(by omega),by decide,rfl,Qu _,fun i r h=>by simp at h⟩
section
variable {t l r p:Addr} {w:Str} {bs:List Lb} {y:Lb}
theorem _bA:cells a (ini++[⟨t,l,w,bs⟩])=((a,.lst ((ini.map fun x=>.ref x.t)++[.ref t]))::(ini.flatMap Lr.cells++[(t,.tup [.str w,.ref l])]))++(l,.lst (bs.map fun y=>.ref y.r))::bs.flatMap Lb.cells:=by
 unfold cells;rw [Qh,List.flatMap_append];simp [Lr.cells]
theorem _bh (b:TongM.Bran):cells a (ini++[⟨t,l,w,bs++[⟨r,p,b⟩]⟩])=(((a,.lst ((ini.map fun x=>.ref x.t)++[.ref t]))::(ini.flatMap Lr.cells++[(t,.tup [.str w,.ref l])]))++(l,.lst ((bs.map fun y=>.ref y.r)++[.ref r]))::bs.flatMap Lb.cells)++(r,.lst [.ref p,.str b.2])::[(p,.lst (b.1.map V.str))]:=by
 rw [_bA,Qh,List.flatMap_append];simp [Lb.cells]
theorem _pY (h:Own H0 H (cells a rs)) (nl:H l=none) (nt:_b H l (.lst []) t=none):Own H0 (_b (_b (_b H l (.lst [])) t (.tup [.str w,.ref l])) a (.lst ((rs.map fun x=>.ref x.t)++[.ref t]))) (cells a (rs++[⟨t,l,w,[]⟩])):=by
 have h1:=Own.add (l1:=cells a rs) (l2:=[]) (by rw [QC];exact h) nl (.lst []);have h2:=Own.add (l1:=cells a rs) (l2:=[(l,.lst [])]) h1 nt (.tup [.str w,.ref l]);have h3:=Own.set (l1:=[]) (p:=a) (o:=.lst (rs.map fun x=>.ref x.t)) (l2:=rs.flatMap Lr.cells++[(t,.tup [.str w,.ref l]),(l,.lst [])]) h2 (.lst ((rs.map fun x=>.ref x.t)++[.ref t]));rw [_bA];simpa using h3
theorem _p1 {b:TongM.Bran} (h:Own H0 H (cells a (ini++[⟨t,l,w,bs⟩]))) (np:H p=none) (nr:_b H p (.lst (b.1.map V.str)) r=none):Own H0 (_b (_b (_b H p (.lst (b.1.map V.str))) r (.lst [.ref p,.str b.2])) l (.lst ((bs.map fun y=>.ref y.r)++[.ref r]))) (cells a (ini++[⟨t,l,w,bs++[⟨r,p,b⟩]⟩])):=by
 have h1:=Own.add (l1:=cells a (ini++[⟨t,l,w,bs⟩])) (l2:=[]) (by rw [QC];exact h) np (.lst (b.1.map V.str));have h2:=Own.add (l1:=cells a (ini++[⟨t,l,w,bs⟩])) (l2:=[(p,.lst (b.1.map V.str))]) h1 nr (.lst [.ref p,.str b.2]);rw [_bA] at h2;have h2':Own H0 (_b (_b H p (.lst (b.1.map V.str))) r (.lst [.ref p,.str b.2])) (((a,.lst ((ini.map fun x=>.ref x.t)++[.ref t]))::(ini.flatMap Lr.cells++[(t,.tup [.str w,.ref l])]))++(l,.lst (bs.map fun y=>.ref y.r))::(bs.flatMap Lb.cells++(r,.lst [.ref p,.str b.2])::[(p,.lst (b.1.map V.str))])):=by simpa using h2
 have h3:=Own.set h2' (.lst ((bs.map fun y=>.ref y.r)++[.ref r]));rw [_bh];simpa using h3
theorem _oP {b:TongM.Bran} (h:Own H0 H (cells a (ini++[⟨t,l,w,bs++[⟨r,p,b⟩]⟩]))) (ps:List Str):Own H0 (_b H p (.lst (ps.map V.str))) (cells a (ini++[⟨t,l,w,bs++[⟨r,p,(ps,b.2)⟩]⟩])):=by
 rw [_bh] at h ⊢;have h2:Own H0 H ((((((a,.lst ((ini.map fun x=>.ref x.t)++[.ref t]))::(ini.flatMap Lr.cells++[(t,.tup [.str w,.ref l])]))++(l,.lst ((bs.map fun y=>.ref y.r)++[.ref r]))::bs.flatMap Lb.cells))++[(r,.lst [.ref p,.str b.2])])++(p,.lst (b.1.map V.str))::[]):=by simpa using h
 have h3:=Own.set h2 (.lst (ps.map V.str));simpa using h3
theorem _mS {b:TongM.Bran} (h:Own H0 H (cells a (ini++[⟨t,l,w,bs++[⟨r,p,b⟩]⟩]))) (m:Str):Own H0 (_b H r (.lst [.ref p,.str m])) (cells a (ini++[⟨t,l,w,bs++[⟨r,p,(b.1,m)⟩]⟩])):=by
 rw [_bh] at h ⊢;exact Own.set h (.lst [.ref p,.str m])
end
theorem _n1 (h:TongM.PieceOk ws s):(s∈Y9∧∃c,_6 s.cps.toList 0=some c∧decide (V.str ⟨#[c]⟩=V.str (":" : Str))=false)∨∃u∈ws,s=TongM.col++u∧_6 s.cps.toList 0=some 58:=by
 rcases h with h|⟨u,hu,rfl⟩
 ·refine .inl ⟨h,?_⟩;have e:∀s∈Y9,s.cps.toList[0]?.isSome=true∧s.cps.toList[0]?≠some 58:=by trivial
  obtain ⟨h1,h2⟩:=e s h;obtain ⟨c,hc⟩:=Nt.mp h1;refine ⟨c,L2.at_i (by decide) hc,Qn fun z=>h2 ?_⟩;have z2:[c]=[58]:=(Qk (fun x:Str=>x.cps.toList) (V.str.inj z)).trans TongM.col_sg;rw [hc,(Gj z2).1]
 ·exact .inr ⟨u,hu,rfl,L2.at_i (by decide) (by rw [TongM.sg_app,TongM.col_sg];rfl)⟩
theorem TabOk.but {t:V} {c:Addr} (h:TabOk B H t ws A) (b:YZ c H H') (hc:H c=some (.dK kvs)) (nr:∀k a,_y kvs k≠some (.ref a)) (kn:Known B n):TabOk B H' t ws A:=by
 refine ⟨fun u hu=>?_,h.2⟩;obtain ⟨rs,⟨p,kt,d,e,h1,h2,h3,h4,h5⟩,hA⟩:=h.1 u hu;obtain ⟨r,hr,er⟩:=Qf.mp (hA n kn);obtain ⟨r',_,_,vr⟩:=UY (rs:=rs) rfl h5 (Qf.mpr ⟨r,hr,Qk (·.1) er⟩);refine ⟨rs,⟨p,kt,d,e,b _ _ (fun z=>?_) h1,h2,b _ _ (fun z=>?_) h3,fun r hr=>b _ _ (fun z=>?_) (h4 r hr),h5⟩,hA⟩
 ·rw [z,hc] at h1;cases h1;exact nr _ _ h2
 ·rw [z,hc] at h3;cases h3;exact nr _ _ vr
 ·have h6:=h4 r hr;rw [z,hc] at h6;cases h6
theorem nmT {x:Str} (h:TongM.Nm x):Nm x:=by
 have:=h.ok;unfold TongM.isNm at this;simp only [Rl,Gk] at this;exact ⟨this.1.1,this.1.2,this.2⟩
theorem _qd (es:List Ent) (k:_k) (a:Addr):_y (Yo (YY es)) k≠some (.ref a):=fun h=>by
 unfold _y at h;obtain ⟨p,hp,e⟩:=QE.mp h;obtain ⟨q,hq,rfl⟩:=Qf.mp (Mc hp);obtain ⟨x,_,hx⟩:=Rj.mp hq;have e:q.2=.ref a:=e;cases x<;>cases hx;cases e
section
variable {w:World} {mg:Str->Option Value}
theorem _pV:FnScope ["thing"] ["thing"] (_u _eq):=_E
noncomputable def _j3 (T:Tx K w mg):Sp:=fun vs H Q E=>vs.length=1∧(∃x t,vs=[x]∧Vw K H x t∧∀H',Same H H'->Q (.bl (Vk.isI t)) H')
theorem _kl:FnScope ["thing"] ["thing"] (_u _ev):=_E
noncomputable def _fn (T:Tx K w mg):Sp:=fun vs H Q E=>vs.length=1∧(∃x t,vs=[x]∧Vw K H x t∧∀H',Same H H'->Q (.bl (WN t)) H')
theorem _jU:FnScope ["thing"] ["thing"] (_u _gd):=_E
noncomputable def _eQ (T:Tx K w mg):Sp:=fun vs H Q E=>vs.length=1∧(∃x t,vs=[x]∧Vw K H x t∧∀H',Same H H'->Q (.bl (_a2 t)) H')
theorem _lZ:FnScope ["thing"] ["thing"] (_u _fB):=_E
noncomputable def _eg (T:Tx K w mg):Sp:=fun vs H Q E=>vs.length=1∧(∃x t,vs=[x]∧Vw K H x t∧∀H',Same H H'->Q (.bl (_ba t)) H')
theorem _kX:FnScope ["thing"] ["thing"] (_u _fN):=_E
noncomputable def _cv (T:Tx K w mg):Sp:=fun vs H Q E=>vs.length=1∧(∃x t,vs=[x]∧Vw K H x t∧∀H',Same H H'->Q (.bl (Vp t)) H')
theorem _pA:FnScope ["thing"] ["thing"] (_u _g1):=_E
noncomputable def _et (T:Tx K w mg):Sp:=fun vs H Q E=>vs.length=1∧(∃x t,vs=[x]∧Vw K H x t∧∀H',Same H H'->Q (.bl (UJ t)) H')
theorem _h8:FnScope ["parts","checks"] ["parts","checks"] (_u _dU):=_E
noncomputable def _kS (T:Tx K w mg):Sp:=fun vs H Q E=>vs.length=2∧(∃a b xs ts cs,vs=[.ref a,.ref b]∧SqT K H a xs∧Vws K H xs ts∧SqT K H b (cs.map fun c=>.ref (T.ad c))∧cs.length≤10∧∀H',Same H H'->Q (.bl (Wf cs ts)) H')
theorem _bo:FnScope ["thing","word","checks"] ["thing"] (_u _dx):=_E
noncomputable def _hp (T:Tx K w mg):Sp:=fun vs H Q E=>vs.length=1∧(∃x,vs=[x]∧((∃t,Vw K H x t∧t.isT=false∧∀H',Same H H'->Q (.bl false) H')∨∃ts,Tv K H x ts∧ts.length≤10∧∀H',Same H H'->Q (.bl (VW ts)) H'))
theorem _jx:FnScope ["entry"] ["entry"] (_u _ez):=_E
noncomputable def _oI (T:Tx K w mg):Sp:=fun vs H Q E=>vs.length=1∧(∃v e,vs=[v]∧EntAt K H v e∧∀H',Same H H'->Q (.bl e.tie) H')
theorem _kb:FnScope ["entry"] ["entry"] (_u _cK):=_E
noncomputable def _ib (T:Tx K w mg):Sp:=fun vs H Q E=>vs.length=1∧(∃v e,vs=[v]∧EntAt K H v e∧∀H' D,Same H H'->H D=none->SqL K H' D (e.named.map V.str)->Q (.ref D) H')
theorem _oj:FnScope ["entry"] ["entry"] (_u _eG):=_E
noncomputable def _l4 (T:Tx K w mg):Sp:=fun vs H Q E=>vs.length=1∧(∃v e,vs=[v]∧EntAt K H v e∧Q (.int e.day) H)
theorem _g8:FnScope ["entry","names"] ["entry"] (_u _d4):=_E
noncomputable def _l5 (T:Tx K w mg):Sp:=fun vs H Q E=>vs.length=1∧(∃v e,vs=[v]∧EntAt K H v e∧∀H' u,Same H H'->EntAt K H' u e.told->Q u H')
theorem _oh:FnScope ["entry"] ["entry"] (_u _dI):=_E
noncomputable def _iH (T:Tx K w mg):Sp:=fun vs H Q E=>vs.length=1∧(∃v e,vs=[v]∧EntAt K H v e∧∀H' p,Same H H'->H p=none->H' p=some (.tup (e.told.key.map kV))->Q (.ref p) H')
theorem _l1:FnScope ["thing"] ["thing"] (_u _e8):=_E
noncomputable def _h0 (T:Tx K w mg):Sp:=fun vs H Q E=>vs.length=1∧(∃x,vs=[x]∧((∃ty,Kd K H x ty∧W.kitOne K ty (.type "str")=some false∧Q (.bl false) H)∨∃l,x=.str l∧Q (.bl (XC l)) H))
theorem _kq:FnScope ["one","other"] ["one","other"] (_u _gl):=_E
noncomputable def _ob (T:Tx K w mg):Sp:=fun vs H Q E=>vs.length=2∧(∃a b,vs=[.str a,.str b]∧∀H' p,Same H H'->H p=none->H' p=some (.tup [.str (_e a b).1,.str (_e a b).2])->Q (.ref p) H')
theorem _kG:FnScope ["self"] ["self"] (_u _ep):=_E
noncomputable def _mM (T:Tx K w mg):Sp:=fun vs H Q E=>vs.length=1∧(∃b dx,vs=[.ref b]∧H b=some (.ins T.cB dx [])∧∀H' k bi li ti su,BkAt K T.cB H' b dx k bi li ti su VL->(∀c o,H c=some o->c≠b->H' c=some o)->H k=none->H bi=none->H li=none->H ti=none->H su=none->Q .non H')
theorem _nx:FnScope ["self","name"] ["self","name"] (_u _er):=_E
noncomputable def _hQ (T:Tx K w mg):Sp:=fun vs H Q E=>vs.length=2∧(∃v x B,vs=[v,x]∧BkHas K T.cB H v B∧(False∨∃n,x=.str n∧(_Y n B.kept=none->False)∧∀p,_Y n B.kept=some p->Q (.ref p.2) H))
theorem _kx:FnScope ["self","name"] ["self","name"] (_u _ga):=_E
noncomputable def _pu (T:Tx K w mg):Sp:=fun vs H Q E=>vs.length=2∧(∃v x B,vs=[v,x]∧BkHas K T.cB H v B∧(False∨∃n,x=.str n∧(_Y n B.kept=none->False)∧∀p,_Y n B.kept=some p->∀n' s d f m,p.1=.born n' s d f m->Q (.str s) H))
theorem _n6:FnScope ["self","name"] ["self","name"] (_u _hb):=_E
noncomputable def _li (T:Tx K w mg):Sp:=fun vs H Q E=>vs.length=2∧(∃v x B,vs=[v,x]∧BkHas K T.cB H v B∧(False∨∃n,x=.str n∧(_Y n B.kept=none->False)∧∀p,_Y n B.kept=some p->∀n' s d f m,p.1=.born n' s d f m->Q (.int d) H))
theorem _m4:FnScope ["self","name","sort","day"] ["self","name","sort","day"] (_u _fT):=_E
noncomputable def _lQ (T:Tx K w mg):Sp:=fun vs H Q E=>vs.length=4∧(∃v n s d B,vs=[v,.str n,.str s,.int d]∧BkHas K T.cB H v B∧(n≠""->Known B n)∧Q (.bl (XN B n s d)) H)
theorem _fg:FnScope ["self","entry","names"] ["self","entry"] (_u _fi):=_E
noncomputable def _nF (T:Tx K w mg):Sp:=fun vs H Q E=>vs.length=2∧(∃v x B e,vs=[v,x]∧BkHas K T.cB H v B∧EntAt K H x e∧(∀n∈e.named,Known B n)∧∀H',Same H H'->Q (.bl (Wm B e)) H')
theorem _ei:FnScope ["self","entry","name"] ["self","entry"] (_u _fJ):=_E
noncomputable def _iD (T:Tx K w mg):Sp:=fun vs H Q E=>vs.length=2∧(∃v x B e,vs=[v,x]∧BkHas K T.cB H v B∧EntAt K H x e∧e.Ok∧XX B e=none∧∀H',Same H H'->Q .non H')
theorem _hR:FnScope ["self","letter","begin","end"] ["self","letter","begin","end"] (_u _de):=_E
noncomputable def _hv (T:Tx K w mg):Sp:=fun vs H Q E=>vs.length=4∧(∃b dx k bi li ti su B l n m,vs=[.ref b,.str l,.str n,.str m]∧BkAt K T.cB H b dx k bi li ti su B∧(Yx B l n).length≤61∧B.links.length≤900∧∀H' D,BkAt K T.cB H' b dx k bi li ti su { B with links:=_n B.links (l,n) (D,_w (Yx B l n++[m])) }->But [li] H H'->H D=none->Q .non H')
theorem _pp:FnScope ["self","entry"] ["self","entry"] (_u _fQ):=_E
noncomputable def _lf (T:Tx K w mg):Sp:=fun vs H Q E=>vs.length=2∧(∃b dx k bi li ti su B0 B n s d f m a,vs=[.ref b,.ref a]∧B.kept=B0++[(.born n s d f m,a)]∧H b=some (.ins T.cB dx (W1 k bi li ti su))∧H bi=some (.dK (Bk.bornD B0))∧_Y n B0=none∧B0.length≤900∧SqT K H a ((Ent.born n s d f m).row.map kV)∧BkAt K T.cB (_b H bi (.dK (Bk.bornD B.kept))) b dx k bi li ti su B∧B.links.length≤890∧(∀c,(lk B.links c).length≤61)∧∀H' ls,BkAt K T.cB H' b dx k bi li ti su { B with links:=ls }->(∀c,lk ls c=Xv (lk B.links) n f m c)->ls.length≤B.links.length+4->But [bi,li] H H'->Grows H B.links ls->Q .non H')
theorem _lc:FnScope ["self","letter","name"] ["self","letter","name"] (_u _hc):=_E
noncomputable def _nU (T:Tx K w mg):Sp:=fun vs H Q E=>vs.length=3∧(∃v x y B,vs=[v,x,y]∧BkHas K T.cB H v B∧(False∨∃l,x=.str l∧(XC l=false->False)∧(XC l=true->(False∨∃n,y=.str n∧(_Y n B.kept=none->False)∧(Known B n->∀H' D,Same H H'->H D=none->H' D=some (.lst ((Yx B l n).map V.str))->Q (.ref D) H')))))
theorem _ca:FnScope ["self","one","other","day","ties","days"] ["self","one","other","day"] (_u _cl):=_E
noncomputable def _kr (T:Tx K w mg):Sp:=fun vs H Q E=>vs.length=4∧(∃v a c B,vs=[v,.str a,.str c,.non]∧BkHas K T.cB H v B∧Known B a∧Known B c∧(Yz B (_e a c)).length≤900∧∀H',Same H H'->Q (.bl (_aL B a c)) H')
theorem _au:FnScope ["self","entry","days","begin","end"] ["self","entry"] (_u _f6):=_E
noncomputable def _mD (T:Tx K w mg):Sp:=fun vs H Q E=>vs.length=2∧(∃b dx k bi li ti su B a kd p1 p2 d,vs=[.ref b,.ref a]∧SqT K H a [.str kd,.str p1,.str p2,.int d]∧BkAt K T.cB H b dx k bi li ti su B∧Known B p1∧Known B p2∧(B.ties.map (·.1)).Nodup∧B.ties.length≤800∧(Yz B (_e p1 p2)).length≤800∧B.links.length≤880∧(∀c,(lk B.links c).length≤60)∧∀H' ls ts y,BkAt K T.cB H' b dx k bi li ti su { B with links:=ls,ties:=ts }->(ts.map (·.1)).Nodup->ts.length≤B.ties.length+1->(∀c,Y1 ts c=if c=_e p1 p2 then _n (Yz B (_e p1 p2)) d kd else Yz B c)->(∀c,lk ls c=_L (_L (lk B.links) (YK (_n (Yz B (_e p1 p2)) d kd)) p1 p2) (YK (_n (Yz B (_e p1 p2)) d kd)) p2 p1 c)->ls.length≤B.links.length+4->But [li,ti,y] H H'->(H y=none∨y∈B.ties.map (·.2.1))->GrowsT H B.ties ts->Grows H B.links ls->Q .non H')
theorem _a9:FnScope ["self","entry","told","given"] ["self","entry"] (_u _dW):=_E
noncomputable def _oJ (T:Tx K w mg):Sp:=fun vs H Q E=>vs.length=2∧(∃b dx k bi li ti su B x e,vs=[.ref b,x]∧BkAt K T.cB H b dx k bi li ti su B∧EntAt K H x e∧e.Ok∧XX B e=none∧Room1 B∧∀H' B' y,BkAt K T.cB H' b dx k bi li ti su B'->Put B e B'->But [k,bi,li,ti,su,y] H H'->(H y=none∨y=bi∨y∈B.ties.map (·.2.1))->Grows H B.links B'.links->GrowsT H B.ties B'.ties->Q .non H')
theorem _i2:FnScope ["self"] ["self"] (_u _dY):=_E
noncomputable def _hx (T:Tx K w mg):Sp:=fun vs H Q E=>vs.length=1∧(∃v B,vs=[v]∧BkHas K T.cB H v B∧(_T B.kept).length<64∧∀H' D,Same H H'->H D=none->H' D=some (.lst ((_w (_T B.kept)).map V.str))->Q (.ref D) H')
theorem _iN:FnScope ["thing"] ["thing"] (_u _fb):=_E
noncomputable def _ku (T:Tx K w mg):Sp:=fun vs H Q E=>vs.length=1∧(∃x,vs=[.str x]∧Q (.bl (Wk x)) H)
theorem _o4:FnScope ["book","step","name"] ["book","step","name"] (_u _gG):=_E
noncomputable def _kA (T:Tx K w mg):Sp:=fun vs H Q E=>vs.length=3∧(∃v s n B,vs=[v,.str s,.str n]∧BkHas K T.cB H v B∧s∈Y9∧Known B n∧∀H' D',Same H H'->H D'=none->H' D'=some (.lst ((Y8 B s n).map V.str))->Q (.ref D') H')
theorem _kQ:FnScope ["self","letter"] ["self","letter"] (_u _gp):=_E
noncomputable def _oE (T:Tx K w mg):Sp:=fun vs H Q E=>vs.length=2∧(∃a dx x,vs=[.ref a,.str x]∧H a=some (.ins T.c_Letter dx [])∧Q .non (_b H a (.ins T.c_Letter dx [("letter",.str x)])))
theorem _kg:FnScope ["self","book","table","name"] ["self","book","table","name"] (_u _gS):=_E
noncomputable def _bY (T:Tx K w mg):Sp:=fun vs H Q E=>vs.length=4∧(∃a dx s v t n B,vs=[.ref a,v,t,.str n]∧H a=some (.ins T.c_Letter dx [("letter",.str s)])∧BkHas K T.cB H v B∧s∈Y9∧Known B n∧∀H' D',Same H H'->H D'=none->H' D'=some (.lst ((Y8 B s n).map V.str))->Q (.ref D') H')
theorem _kD:FnScope ["self","sort"] ["self","sort"] (_u _eH):=_E
noncomputable def _mU (T:Tx K w mg):Sp:=fun vs H Q E=>vs.length=2∧(∃a dx x,vs=[.ref a,.str x]∧H a=some (.ins T.c_Test dx [])∧Q .non (_b H a (.ins T.c_Test dx [("wanted",.str x)])))
theorem _no:FnScope ["self","book","table","name"] ["self","book","table","name"] (_u _c1):=_E
noncomputable def _bC (T:Tx K w mg):Sp:=fun vs H Q E=>vs.length=4∧(∃a dx s v t n B,vs=[.ref a,v,t,.str n]∧H a=some (.ins T.c_Test dx [("wanted",.str s)])∧BkHas K T.cB H v B∧s∈Y9∧Known B n∧∀H' D',Same H H'->H D'=none->H' D'=some (.lst ((Y8 B s n).map V.str))->Q (.ref D') H')
theorem _ie:FnScope ["self","word"] ["self","word"] (_u _e6):=_E
noncomputable def _mn (T:Tx K w mg):Sp:=fun vs H Q E=>vs.length=2∧(∃a dx x,vs=[.ref a,.str x]∧H a=some (.ins T.c_Said dx [])∧Q .non (_b H a (.ins T.c_Said dx [("word",.str x)])))
theorem _jV:FnScope ["self","book","table","name"] ["self","book","table","name"] (_u _eL):=_E
noncomputable def _b3 (T:Tx K w mg):Sp:=fun vs H Q E=>vs.length=4∧(∃a dx w v t n rs zs,vs=[.ref a,v,t,.str n]∧H a=some (.ins T.c_Said dx [("word",.str w)])∧RowAt H t w rs∧(n,zs)∈US rs∧∀H' D',Same H H'->H D'=none->H' D'=some (.lst (zs.map V.str))->Q (.ref D') H')
theorem Jz:FnScope ["self","book","table","names","found","name","other"] ["self","book","table","names"] (_u _ee):=_E
noncomputable def WE (T:Tx K w mg):Sp:=fun vs H Q E=>vs.length=4∧(∃(x v t:V) (l:Addr) (ns:List Str) (L:Str->List Str->Prop) (f:Str->List Str) (pool:List Str),vs=[x,v,t,.ref l]∧PcAt T H x v t L∧SqL K H l (ns.map V.str)∧ns.length≤100∧(∀n∈ns,L n (f n))∧(∀n∈ns,∀y∈f n,y∈pool)∧pool.length≤60∧∀H' D' ys,Same H H'->H D'=none->H' D'=some (.lst (ys.map V.str))->SrtOf (fun y=>∃n∈ns,y∈f n) ys->Q (.ref D') H')
theorem _jc:FnScope ["book","mark","one","other"] ["book","mark","one","other"] (_u _eT):=_E
noncomputable def _ik (T:Tx K w mg):Sp:=fun vs H Q E=>vs.length=4∧(∃v m a b B,vs=[v,.str m,.str a,.str b]∧BkHas K T.cB H v B∧Known B a∧Known B b∧Q (.bl (Yc B m a b)) H)
theorem _kj:FnScope ["text","rows"] ["text","rows"] (_u _gQ):=_E
noncomputable def _pa (T:Tx K w mg):Sp:=fun vs H Q E=>vs.length=2∧(∃z d ws,vs=[.str z,.ref d]∧z.length≤1000∧TongM.PieceOk ws z∧KeysAt H d ws∧∀H' v,Same H H'->PcS T H' v z->Q v H')
theorem _ag:FnScope ["text","rows","pieces","mark"] ["text","rows"] (_u _gh):=_E
noncomputable def _nc (T:Tx K w mg):Sp:=fun vs H Q E=>vs.length=2∧(∃z d ws b,vs=[.str z,.ref d]∧z.length≤1000∧TongM.PartT ws z b∧(∀p∈b.1,TongM.PieceOk ws p)∧KeysAt H d ws∧∀H' v,Same H H'->PartAt T H' b v->Q v H')
theorem _e5:FnScope ["text","rows","parts"] ["text","rows"] (_u _gY):=_E
noncomputable def _o6 (T:Tx K w mg):Sp:=fun vs H Q E=>vs.length=2∧(∃z d ws bs,vs=[.str z,.ref d]∧z.length≤10000∧TongM.PartsT ws z bs∧(∀b∈bs,∀p∈b.1,TongM.PieceOk ws p)∧KeysAt H d ws∧∀H' v,Same H H'->PartsAt T H' bs v->Q v H')
theorem V0:FnScope ["text","lines","rows","line","halves","word"] ["text"] (_u _cW):=_E
noncomputable def _jW (T:Tx K w mg):Sp:=fun vs H Q E=>vs.length=1∧(∃z rows,vs=[.str z]∧z.length≤100000∧TongM.RowsT z rows∧(∀(i:Nat) r,rows[i]?=some r->Nm r.1∧∀b∈r.2,∀p∈b.1,TongM.PieceOk ((rows.take i).map (·.1)) p)∧∀H' d,Same H H'->H d=none->DictAt T H' d rows->Q (.ref d) H')
theorem _pf:FnScope ["self","text"] ["self","text"] (_u _g0):=_E
noncomputable def _pI (T:Tx K w mg):Sp:=fun vs H Q E=>vs.length=2∧(∃b dx z rows,vs=[.ref b,.str z]∧z.length≤100000∧H b=some (.ins T.c_Tongue dx [])∧TongM.RowsT z rows∧(∀(i:Nat) r,rows[i]?=some r->Nm r.1∧∀b∈r.2,∀p∈b.1,TongM.PieceOk ((rows.take i).map (·.1)) p)∧∀H' d,YZ b H H'->H d=none->TgAt T H' (.ref b) d rows->Q .non H')
theorem _eI:FnScope ["self","book","table","piece","names","name"] ["self","book","table","piece","names"] (_u _d9):=_E
noncomputable def _ps (T:Tx K w mg):Sp:=fun vs H Q E=>vs.length=5∧(∃(to dx l:Addr) (fs:List (Str×V)) (v t x:V) (s:Str) (ns pool:List Str) (B:Bk) (A:Str->Str->List Str),vs=[.ref to,v,t,x,.ref l]∧H to=some (.ins T.c_Tongue dx fs)∧fs.lookup ("led" : Str)=none∧PcS T H x s∧BkHas K T.cB H v B∧SqL K H l (ns.map V.str)∧ns.length≤60∧(∀n∈ns,Known B n)∧Clo B pool∧(∀u,s=":"++u->∃rs,RowAt H t u rs∧∀n∈ns,(n,A u n)∈US rs)∧(∀n∈ns,∀y∈Y0 B A s n,Known B y)∧∀H' D' ys,Same H H'->H D'=none->H' D'=some (.lst (ys.map V.str))->SrtOf (fun y=>∃n∈ns,y∈Y0 B A s n) ys->Q (.ref D') H')
theorem _aO:FnScope ["self","book","table","part","name","names","piece"] ["self","book","table","part","name"] (_u _fO):=_E
noncomputable def _oS (T:Tx K w mg):Sp:=fun vs H Q E=>vs.length=5∧(∃(o v t p:V) (n:Str) (rows:List TongM.Rw) (b:TongM.Bran) (ws pool:List Str) (B:Bk) (A:Str->Str->List Str),vs=[o,v,t,p,.str n]∧TongAt T H o rows∧PartAt T H b p∧(∀s∈b.1,TongM.PieceOk ws s)∧BkHas K T.cB H v B∧Known B n∧Clo B pool∧TabOk B H t ws A∧∀H' D' zs,Same H H'->H D'=none->SrtOf (XA (Y0 B A) b.1 (·=n)) zs->H' D'=some (.lst ((zs.filter (Yc B b.2 n)).map V.str))->Q (.ref D') H')
theorem Ww:FnScope ["self","book","table","word","name","known","found","part","other"] ["self","book","table","word","name"] (_u _d7):=_E
noncomputable def _o8 (T:Tx K w mg):Sp:=fun vs H Q E=>vs.length=5∧(∃(o v:V) (t kd:Addr) (u n:Str) (rows:List TongM.Rw) (i:Nat) (bs:List TongM.Bran) (ws:List Str) (kvs:List (_k×V)) (rs:Y2) (pool:List Str) (B:Bk) (A:Str->Str->List Str),vs=[o,v,.ref t,.str u,.str n]∧TongAt T H o rows∧rows[i]?=some (u,bs)∧(rows.map (·.1)).Nodup∧(∀b∈bs,∀s∈b.1,TongM.PieceOk ws s)∧TabOk B H (.ref t) ws A∧H t=some (.dK kvs)∧_y kvs (.inr u)=some (.ref kd)∧H kd=some (.dK (YC rs))∧n∉rs.map (·.1)∧rs.length≤60∧BkHas K T.cB H v B∧Known B n∧Clo B pool∧∀H' D' ys,(∀c o,c≠kd->H c=some o->H' c=some o)->H D'=none->H' kd=some (.dK (YC (rs++[(n,D',ys)])))->H' D'=some (.lst (ys.map V.str))->SrtOf (LedW B A bs n) ys->Q (.ref D') H')
theorem JY:FnScope ["self","book","table","word","name"] ["self","book"] (_u _fp):=_E
noncomputable def _pF (T:Tx K w mg):Sp:=fun vs H Q E=>vs.length=2∧(∃(o v:V) (d:Addr) (rows:List TongM.Rw) (pool:List Str) (B:Bk) (Hb:Hp),vs=[o,v]∧TgAt T H o d rows∧(rows.map (·.1)).Nodup∧rows.length≤12∧(∀(i:Nat) r,rows[i]?=some r->∀b∈r.2,∀p∈b.1,TongM.PieceOk ((rows.take i).map (·.1)) p)∧Same Hb H∧Hb d=none∧BkHas K T.cB Hb v B∧Clo B pool∧(_T B.kept).Nodup∧(_T B.kept).length≤30∧∀H' t (tab:VM) A,Same H H'->H' t=some (.dK (YM tab))->tab.map (·.1)=rows.map (·.1)->(∀q∈tab,UV H' (_w (_T B.kept)) A q)->TabOk B H' (.ref t) (rows.map (·.1)) A->(∀(j:Nat) u bs,rows[j]?=some (u,bs)->∀n,Known B n->SrtOf (LedW B A bs n) (A u n))->Q (.ref t) H')
theorem _kL:FnScope ["_law_script","_law_k"] ["_law_script","_law_k"] (_u _fl):=_E
noncomputable def _jX (T:Tx K w mg):Sp:=fun vs H Q E=>vs.length=2∧(∃(l:Addr) (ns:List Int) (k:Int),vs=[.ref l,.int k]∧SqL K H l (ns.map V.int)∧0≤k∧∀z,Q (.int z) H)
theorem Wl:FnScope ["_law_cell","_law_letters","_law_size","_law_at","_law_base","_law_names_here","_law_k","_law_name","_law_j"] ["_law_cell"] (_u _dO):=_E
noncomputable def _on (T:Tx K w mg):Sp:=fun vs H Q E=>vs.length=1∧(∃c:Int,vs=[.int c]∧∀H' D' (ns:List Str),Same H H'->H D'=none->H' D'=some (.lst (ns.map V.str))->N14 ns->Q (.ref D') H')
theorem _lG:FnScope ["_law_cell","_law_k","_law_way"] ["_law_cell","_law_k","_law_way"] (_u _dd):=_E
noncomputable def _j1 (T:Tx K w mg):Sp:=fun vs H Q E=>vs.length=3∧(∃c k w:Int,vs=[.int c,.int k,.int w]∧0≤k∧k≤44∧∀d:Int,-10 ^ 18≤d->d≤10 ^ 18->Q (.int d) H)
theorem WL:FnScope ["_law_people","_law_names_here","_law_cell","_law_day_here","_law_number","_law_older","_law_fathers","_law_mothers","_law_father","_law_mother"] ["_law_people","_law_names_here","_law_cell","_law_day_here"] (_u _gP):=_E
noncomputable def _ln (T:Tx K w mg):Sp:=fun vs H Q E=>vs.length=4∧(∃(D ln:Addr) (c d:Int) (ps:List Pp) (ns:List Str),vs=[.ref D,.ref ln,.int c,.int d]∧PpAt K H D ps∧SqL K H ln (ns.map V.str)∧ns.length=24∧ps.length<24∧∀H' a n s f m,Same H H'->H a=none->SqT K H' a ((Ent.born n s d f m).row.map kV)->ns[ps.length]?=some n->(s="he"∨s="she"∨s="")->X2 ps "he" d f->X2 ps "she" d m->Q (.ref a) H')
theorem Wj:FnScope ["_law_people","_law_known","_law_cell","_law_kind","_law_order","_law_one","_law_other","_law_day_here","_law_key","_law_entry"] ["_law_people","_law_known","_law_cell","_law_kind"] (_u _cO):=_E
noncomputable def _i9 (T:Tx K w mg):Sp:=fun vs H Q E=>vs.length=4∧(∃(D Dk:Addr) (c kd:Int) (ps:List Pp) (kn:List (List _k)),vs=[.ref D,.ref Dk,.int c,.int kd]∧PpAt K H D ps∧H Dk=some (.dT (Va kn))∧2≤ps.length∧ps.length≤24∧kn.length≤100∧_e3 ps kn∧(∀p∈ps,-10 ^ 18≤p.2.2.2∧p.2.2.2≤10 ^ 18)∧(∀H',Same H H'->Q .non H')∧∀H' a e,(∀b u,b≠Dk->H b=some u->H' b=some u)->H a=none->SqT K H' a (e.row.map kV)->H' Dk=some (.dT (Va (kn++[e.told.key])))->e.told.key∉kn->DeedF ps e->Q (.ref a) H')
theorem Wx:FnScope ["_law_script","_law_start","_law_most","_law_names_here","_law_people","_law_known","_law_entries_here","_law_k","_law_cell","_law_kind","_law_entry"] ["_law_script","_law_start","_law_most"] (_u _cB):=_E
noncomputable def _hI (T:Tx K w mg):Sp:=fun vs H Q E=>vs.length=3∧(∃(l:Addr) (ss:List Int),vs=[.ref l,.int 3,.int 10]∧SqL K H l (ss.map V.int)∧ss.length≤63∧∀H' D' ks ns,Same H H'->H D'=none->H' D'=some (.lst (XM ks))->Jt K H' ks->N14 ns->GdL ns (ks.map (·.1))->ks.length≤30->Q (.ref D') H')
theorem _k4:FnScope ["_law_edges_here","_law_letter","_law_low","_law_high"] ["_law_edges_here","_law_letter","_law_low","_law_high"] (_u _dn):=_E
noncomputable def _pb (T:Tx K w mg):Sp:=fun vs H Q E=>vs.length=4∧(∃(D:Addr) (L lo hi:Str) (ed:Ed) (n:Nat),vs=[.ref D,.str L,.str lo,.str hi]∧EdAt H D ed∧EdB ed n∧n≤500∧(L="F"∨L="M"∨L="T")∧∀H' ed',EdAt H' D ed'->EdB ed' (n+2)->(∀c,lk ed' c=_W (_W (lk ed) (L,lo) hi) (JM L,hi) lo c)->FrE D ed H H' ed'->Q .non H')
theorem WR:FnScope ["_law_entries_here","_law_edges_here","_law_last","_law_entry","_law_letter","_law_parent","_law_pair","_law_row"] ["_law_entries_here"] (_u _gR):=_E
noncomputable def _mi (T:Tx K w mg):Sp:=fun vs H Q E=>vs.length=1∧(∃(Le:Addr) (ks:List (Ent×Addr)) (ns:List Str),vs=[.ref Le]∧SqL K H Le (XM ks)∧Jt K H ks∧GdL ns (ks.map (·.1))∧ks.length≤40∧∀H' D ed ls,Same H H'->H D=none->EdAt H' D ed->EdB ed 500->(ls.map (·.1)).Nodup->(∀c,(_F c ls).map (·.2)=YF (ks.map (·.1)) c)->(∀c,lk ed c=ls.foldl Xp (Yu (ks.map (·.1))) c)->Q (.ref D) H')
theorem _pK:FnScope ["_law_cell"] ["_law_cell"] (_u _eS):=_E
noncomputable def _pl (T:Tx K w mg):Sp:=fun vs H Q E=>vs.length=1∧(∃c:Int,vs=[.int c]∧∀H' D ws,Same H H'->H' D=some (.lst (ws.map V.str))->Wds ws->Q (.ref D) H')
theorem _jN:FnScope ["_law_rows_here","_law_cell"] ["_law_rows_here","_law_cell"] (_u _gx):=_E
noncomputable def _lz (T:Tx K w mg):Sp:=fun vs H Q E=>vs.length=2∧(∃a rs c,vs=[.ref a,.int c]∧RAt H a rs∧(∀r∈rs,TongM.Nm r.w)∧∀H' s,Same H H'->TongM.PieceOk (rs.dropLast.map (·.w)) s->Q (.str s) H')
theorem UL:FnScope ["_law_cells","_law_words_here","_law_rows_here","_law_cell","_law_way","_law_branches"] ["_law_cells","_law_words_here"] (_u _fZ):=_E
noncomputable def _hD (T:Tx K w mg):Sp:=fun vs H Q E=>vs.length=2∧(∃lc cs lw ws,vs=[.ref lc,.ref lw]∧SqL K H lc (cs.map V.int)∧cs≠[]∧cs.length≤100∧H lw=some (.lst (ws.map V.str))∧Wds ws∧∀H' a rs,Own H H' (cells a rs)->GoodL ws rs->Q (.ref a) H')
theorem WF:FnScope ["_law_rows_here","_law_lines","_law_word","_law_branches","_law_some","_law_pieces","_law_mark","_law_line"] ["_law_rows_here"] (_u _dv):=_E
noncomputable def _lO (T:Tx K w mg):Sp:=fun vs H Q E=>vs.length=1∧(∃a rs,vs=[.ref a]∧RAt H a rs∧TongM.GoodR (rs.map Lr.row)∧∀H',Same H H'->Q (.str (TongM.txt (rs.map Lr.row))) H')
theorem WS:FnScope ["_law_edges_here","_law_table","_law_pieces","_law_name","_law_names_here","_law_piece_here","_law_found","_law_one","_law_row","_law_other"] ["_law_edges_here","_law_table","_law_pieces","_law_name"] (_u _cJ):=_E
noncomputable def _mJ (T:Tx K w mg):Sp:=fun vs H Q E=>vs.length=4∧(∃(D p t:Addr) (nm:Str) (way ws pool:List Str) (ed:Ed) (B:Bk) (A:Str->Str->List Str),vs=[.ref D,.ref t,.ref p,.str nm]∧EdAt H D ed∧SqL K H p (way.map V.str)∧(∀s∈way,TongM.PieceOk ws s∧s.length≤60)∧TabOk B H (.ref t) ws A∧Known B nm∧Clo B pool∧(∀s∈Y9,∀n,Known B n->∀x,x∈lk ed (s,n)↔x∈Y8 B s n)∧∀H' D' xs,Same H H'->H D'=none->H' D'=some (.lst (xs.map V.str))->SrtOf (XA (Y0 B A) way (·=nm)) xs->Q (.ref D') H')
theorem _iP:FnScope ["_law_born","_law_mark","_law_name","_law_names_here"] ["_law_born","_law_mark","_law_name","_law_names_here"] (_u _dT):=_E
noncomputable def _n3 (T:Tx K w mg):Sp:=fun vs H Q E=>vs.length=4∧(∃(D l:Addr) (m n:Str) (zs:List Str) (B:Bk) (kvs:List (_k×V)),vs=[.ref D,.str m,.str n,.ref l]∧Rd H D (.dK kvs)∧H l=some (.lst (zs.map V.str))∧zs.length≤60∧(∀x,Known B x->_y kvs (.inr x)=some (.int (_X B x)))∧Known B n∧(∀z∈zs,Known B z)∧∀H' D',Same H H'->H' D'=some (.lst ((zs.filter (Yc B m n)).map V.str))->Q (.ref D') H')
theorem W8:FnScope ["_law_edges_here","_law_table","_law_branches","_law_born","_law_word","_law_name","_law_due","_law_pieces","_law_mark","_law_other","_law_told"] ["_law_edges_here","_law_table","_law_branches","_law_born","_law_word"] (_u _fG):=_E
noncomputable def _pr (T:Tx K w mg):Sp:=fun vs H Q E=>vs.length=5∧(∃(D t l bo d:Addr) (u:Str) (bs:List Lb) (ws pool:List Str) (ed:Ed) (B:Bk) (A:Str->Str->List Str) (kt:List (_k×V)) (rs:Y2) (zs:List (Str×V)),vs=[.ref D,.ref t,.ref l,.ref bo,.str u]∧EdAt H D ed∧H l=some (.lst (bs.map fun y=>.ref y.r))∧(∀y∈bs,H y.r=some (.lst [.ref y.p,.str y.b.2])∧H y.p=some (.lst (y.b.1.map V.str))∧∀s∈y.b.1,TongM.PieceOk ws s∧s.length≤60)∧TabOk B H (.ref t) ws A∧Clo B pool∧(∀s∈Y9,∀n,Known B n->∀x,x∈lk ed (s,n)↔x∈Y8 B s n)∧H t=some (.dK kt)∧_y kt (.inr u)=some (.ref d)∧H d=some (.dK (YC rs))∧rs.map (·.1)=_w (_T B.kept)∧(∀r∈rs,H r.2.1=some (.lst (r.2.2.map V.str))∧SrtOf (LedW B A (bs.map (·.b)) r.1) r.2.2)∧(_T B.kept).Nodup∧(_T B.kept).length≤30∧H bo=some (.dK (Yo zs))∧zs.map (·.1)=_T B.kept∧(∀x,Known B x->_y (Yo zs) (.inr x)=some (.int (_X B x)))∧(∀k a,_y (Yo zs) k≠some (.ref a))∧∀H',Same H H'->Q (.bl true) H')
theorem Wa:FnScope ["_law_script","_law_entries_here","_law_edges_here","_law_born","_law_book","_law_entry","_law_cells","_law_rows_here","_law_table","_law_word","_law_branches"] ["_law_script"] (_u _dP):=_E
noncomputable def _go (T:Tx K w mg):Sp:=fun vs H Q E=>vs.length=1∧(Jc K vs H Q E)
section
variable (P:Program) (base:Heap) (T:Tx K w mg)
noncomputable abbrev _l9:Prop:=OD P w base 1 T._hf (_j3 T)
noncomputable abbrev _nY:Prop:=OD P w base 1 T.Y7 (_fn T)
noncomputable abbrev _kB:Prop:=OD P w base 2 T.XO (_eQ T)
noncomputable abbrev _hH:Prop:=OD P w base 2 T.W2 (_eg T)
noncomputable abbrev _mP:Prop:=OD P w base 1 T.WZ (_cv T)
noncomputable abbrev _i5:Prop:=OD P w base 2 T.WD (_et T)
noncomputable abbrev _jR:Prop:=OD P w base 3 T._d1 (_kS T)
noncomputable abbrev _pL:Prop:=OD P w base 4 T._cZ (_hp T)
noncomputable abbrev _l6:Prop:=OD P w base 1 T._eR (_oI T)
noncomputable abbrev _lP:Prop:=OD P w base 1 T._ew (_ib T)
noncomputable abbrev _lH:Prop:=OD P w base 1 T._hl (_l4 T)
noncomputable abbrev _iz:Prop:=OD P w base 2 T._hm (_l5 T)
noncomputable abbrev _ja:Prop:=OD P w base 3 T._fW (_iH T)
noncomputable abbrev _pM:Prop:=OD P w base 1 T._gX (_h0 T)
noncomputable abbrev _k3:Prop:=OD P w base 1 T._dF (_ob T)
noncomputable abbrev _hZ:Prop:=OM P w base mg 1 T.JP (_mM T)
noncomputable abbrev _lT:Prop:=OM P w base mg 1 T._fH (_hQ T)
noncomputable abbrev _lv:Prop:=OM P w base mg 2 T._fr (_pu T)
noncomputable abbrev _nN:Prop:=OM P w base mg 2 T._cs (_li T)
noncomputable abbrev _lC:Prop:=OM P w base mg 3 T._cX (_lQ T)
noncomputable abbrev _iR:Prop:=OM P w base mg 4 T._g3 (_nF T)
noncomputable abbrev _lN:Prop:=OM P w base mg 5 T._gU (_iD T)
noncomputable abbrev _id:Prop:=OM P w base mg 1 T._gO (_hv T)
noncomputable abbrev _j8:Prop:=OM P w base mg 2 T._d8 (_lf T)
noncomputable abbrev _hV:Prop:=OM P w base mg 2 T._dk (_nU T)
noncomputable abbrev _oV:Prop:=FnOk P w K mg base (Xd P w) 2 T.a_Book_stands T.fd_Book_stands ["self","one","other","day"] (_kr T)
noncomputable abbrev _ko:Prop:=OM P w base mg 3 T._ek (_mD T)
noncomputable abbrev _iZ:Prop:=OM P w base mg 6 T._dq (_oJ T)
noncomputable abbrev _ka:Prop:=OM P w base mg 1 T._aD (_hx T)
noncomputable abbrev _iG:Prop:=OD P w base 1 T._f8 (_ku T)
noncomputable abbrev _ma:Prop:=OD P w base 3 T._gv (_kA T)
noncomputable abbrev _ht:Prop:=OM P w base mg 1 T._ad (_oE T)
noncomputable abbrev _iV:Prop:=OM P w base mg 4 T.J5 (_bY T)
noncomputable abbrev _pn:Prop:=OM P w base mg 1 T.JX (_mU T)
noncomputable abbrev _iq:Prop:=OM P w base mg 4 T._aA (_bC T)
noncomputable abbrev _o7:Prop:=OM P w base mg 1 T._ax (_mn T)
noncomputable abbrev _iI:Prop:=OM P w base mg 1 T._ay (_b3 T)
noncomputable abbrev _js:Prop:=OM P w base mg 5 T.XE (WE T)
noncomputable abbrev _nP:Prop:=OD P w base 3 T._em (_ik T)
noncomputable abbrev _qe:Prop:=OD P w base 3 T._gF (_pa T)
noncomputable abbrev _pe:Prop:=OD P w base 4 T._c7 (_nc T)
noncomputable abbrev _lJ:Prop:=OD P w base 5 T._db (_o6 T)
noncomputable abbrev _ix:Prop:=OD P w base 6 T._c9 (_jW T)
noncomputable abbrev _nO:Prop:=OM P w base mg 7 T.JA (_pI T)
noncomputable abbrev _nA:Prop:=OM P w base mg 6 T._fy (_ps T)
noncomputable abbrev _io:Prop:=OM P w base mg 7 T._aH (_oS T)
noncomputable abbrev _mK:Prop:=OM P w base mg 8 T.VG (_o8 T)
noncomputable abbrev _pc:Prop:=OM P w base mg 9 T._ak (_pF T)
noncomputable abbrev _pv:Prop:=OD P w base 1 T._cQ (_jX T)
noncomputable abbrev _iA:Prop:=OD P w base 1 T._e9 (_on T)
noncomputable abbrev _qb:Prop:=OD P w base 1 T._fF (_j1 T)
noncomputable abbrev _iS:Prop:=OD P w base 1 T._cu (_ln T)
noncomputable abbrev _mI:Prop:=OD P w base 1 T._fd (_i9 T)
noncomputable abbrev _ji:Prop:=OD P w base 2 T._dR (_hI T)
noncomputable abbrev _mV:Prop:=OD P w base 1 T._cD (_pb T)
noncomputable abbrev _k8:Prop:=OD P w base 2 T._fo (_mi T)
noncomputable abbrev _kc:Prop:=OD P w base 1 T._el (_pl T)
noncomputable abbrev _hU:Prop:=OD P w base 1 T._gu (_lz T)
noncomputable abbrev _oZ:Prop:=OD P w base 2 T._fa (_hD T)
noncomputable abbrev _nR:Prop:=OD P w base 1 T._cg (_lO T)
noncomputable abbrev _lb:Prop:=OD P w base 1 T._cz (_mJ T)
noncomputable abbrev _mN:Prop:=OD P w base 1 T._eU (_n3 T)
noncomputable abbrev _pB:Prop:=OD P w base 2 T._dG (_pr T)
noncomputable abbrev _jL:Prop:=OD P w base 10 T.UC (_go T)
end
theorem _oY:(["name"]:List Str).Nodup:=by trivial
theorem _nK:(["name","entry","self"]:List Str).Nodup:=by trivial
theorem _m8:(["tied_on","day"]:List Str).Nodup:=by trivial
theorem _il:(["name","end"]:List Str).Nodup:=by trivial
theorem _j9:(["piece","rows"]:List Str).Nodup:=by trivial
theorem _oo:(["part","rows"]:List Str).Nodup:=by trivial
theorem _k7:(["other","book","name","part"]:List Str).Nodup:=by trivial
theorem _fh:(["_law_k","_law_cell"]:List Str).Nodup:=by trivial
theorem _dL:(["_law_one","_law_people"]:List Str).Nodup:=by trivial
theorem _mm:(["_law_one","_law_day_here","_law_people"]:List Str).Nodup:=by trivial
theorem _d5:(["_law_one","_law_born","_law_name"]:List Str).Nodup:=by trivial
theorem _oe:(["_law_one","_law_name"]:List Str).Nodup:=by trivial
theorem _dj:(["_law_word","_law_branches"]:List Str).Nodup:=by trivial
theorem _nh:(["_law_k","_law_script"]:List Str).Nodup:=by trivial
end
section
variable {mg:Str->Option Value}
noncomputable def spC (K:W.Frag) (f:Vk->Bool):Sp:=fun vs H Q _=>vs.length=1∧∃x t,vs=[x]∧Vw K H x t∧∀H',Same H H'->Q (.bl (f t)) H'
noncomputable def Fam (T:Tx K w mg):Addr->Sp->Prop:=fun f sp=>∃c,f=T.ad c∧sp=spC K (Ud c)
theorem _lR {w:World} {X:Cx} (T:Tx K w mg) (h1:FnOk P w K mg base (Xd P w) 1 T.Y7.a (Y5 K T.Y7.a) ["thing"] (_fn T)) (h2:FnOk P w K mg base (Xd P w) 1 T.WZ.a (Y5 K T.WZ.a) ["thing"] (_cv T))
 (h3:FnOk P w K mg base (Xd P w) 2 T.XO.a (Y5 K T.XO.a) ["thing"] (_eQ T)) (h4:FnOk P w K mg base (Xd P w) 2 T.W2.a (Y5 K T.W2.a) ["thing"] (_eg T)) (h5:FnOk P w K mg base (Xd P w) 2 T.WD.a (Y5 K T.WD.a) ["thing"] (_et T))
 (hr:Room 2 X.A) (e1:X.prog=P) (e2:X.w=w) (e3:X.K=K) (e4:X.mg=mg) (e5:X.base=base):_hk X (Xd P w) (Fam T):=by
 subst e1 e2 e3 e4 e5;rintro f sp ⟨c,rfl,rfl⟩;cases c with
 |name=>exact ⟨1,_,_,h1,hr.mono (by decide),T.Y7.F.kp,T.Y7.b⟩
 |sort=>exact ⟨1,_,_,h2,hr.mono (by decide),T.WZ.F.kp,T.WZ.b⟩
 |day=>exact ⟨2,_,_,h3,hr,T.XO.F.kp,T.XO.b⟩
 |amount=>exact ⟨2,_,_,h4,hr,T.W2.F.kp,T.W2.b⟩
 |parent=>exact ⟨2,_,_,h5,hr,T.WD.F.kp,T.WD.b⟩
end
section
variable {w:World} {mg:Str->Option Value} {T:Tx K w mg} {x t:V} {E:XK}
theorem _kR (h:PcAt T H x v t L) (hl:L n zs) (q:∀H' D',Same H H'->H D'=none->H' D'=some (.lst (zs.map V.str))->Q (.ref D') H') :
  ∃a dx fs,x=.ref a∧fs.lookup ("leads_one" : Str)=none∧((H a=some (.ins T.c_Letter dx fs)∧_bY T [x,v,t,.str n] H Q E)∨(H a=some (.ins T.c_Test dx fs)∧_bC T [x,v,t,.str n] H Q E)∨(H a=some (.ins T.c_Said dx fs)∧_b3 T [x,v,t,.str n] H Q E)):=by
 rcases h with ⟨s,B,⟨a,dx,rfl,h1|h1⟩,h2,h3,h4⟩|⟨u,rs,⟨a,dx,rfl,h1⟩,h2,h3⟩
 ·obtain ⟨kn,rfl⟩:=h4 n zs hl;exact ⟨a,dx,_,rfl,rfl,.inl ⟨h1,rfl,a,dx,s,v,t,n,B,rfl,h1,h3,h2,kn,q⟩⟩
 ·obtain ⟨kn,rfl⟩:=h4 n zs hl;exact ⟨a,dx,_,rfl,rfl,.inr (.inl ⟨h1,rfl,a,dx,s,v,t,n,B,rfl,h1,h3,h2,kn,q⟩)⟩
 ·exact ⟨a,dx,_,rfl,rfl,.inr (.inr ⟨h1,rfl,a,dx,u,v,t,n,rs,zs,rfl,h1,h2,h3 n zs hl,q⟩)⟩
theorem _mq {l:V} (h:PcAt T H x v t L) (q:WE T [x,v,t,l] H Q E) :
  ∃a dx fs,x=.ref a∧fs.lookup ("leads" : Str)=none∧((H a=some (.ins T.c_Letter dx fs)∧WE T [x,v,t,l] H Q E)∨(H a=some (.ins T.c_Test dx fs)∧WE T [x,v,t,l] H Q E)∨(H a=some (.ins T.c_Said dx fs)∧WE T [x,v,t,l] H Q E)):=by
 rcases h with ⟨s,B,⟨a,dx,rfl,h1|h1⟩,_⟩|⟨u,rs,⟨a,dx,rfl,h1⟩,_⟩
 ·exact ⟨a,dx,_,rfl,rfl,.inl ⟨h1,q⟩⟩
 ·exact ⟨a,dx,_,rfl,rfl,.inr (.inl ⟨h1,q⟩)⟩
 ·exact ⟨a,dx,_,rfl,rfl,.inr (.inr ⟨h1,q⟩)⟩
theorem _h4 {E:XS} {i0 i1 i2 i3:Nat} (e0:σ[i0]?=some (some x)) (e1:σ[i1]?=some (some v)) (e2:σ[i2]?=some (some t)) (e3:σ[i3]?=some (some (.str n))) (h:PcAt T H x v t L) (hl:L n zs)
 (q:∀H' D',Same H H'->H D'=none->H' D'=some (.lst (zs.map V.str))->Q (.ref D') H') :
  V9 T.c_Letter T.c_Test T.c_Said "leads_one" (_bY T) (_bC T) (_b3 T) E (XJ i0) (WI (XJ i1) (WI (XJ i2) (WI (XJ i3) Uv))) σ H Q:=by
 unfold V9;obtain ⟨a,dx,fs,e,l,h⟩:=_kR (E:=E σ) h hl q;exact ⟨x,e0,a,dx,fs,e,l,h.imp (fun h=>⟨h.1,_,e1,_,e2,_,e3,h.2⟩) fun h=>h.imp (fun h=>⟨h.1,_,e1,_,e2,_,e3,h.2⟩) fun h=>⟨h.1,_,e1,_,e2,_,e3,h.2⟩⟩
theorem _ef {l:V} {E:XS} {i0 i1 i2 i3:Nat} (e0:σ[i0]?=some (some x)) (e1:σ[i1]?=some (some v)) (e2:σ[i2]?=some (some t)) (e3:σ[i3]?=some (some l)) (h:PcAt T H x v t L) (q:WE T [x,v,t,l] H Q (E σ)) :
  V9 T.c_Letter T.c_Test T.c_Said "leads" (WE T) (WE T) (WE T) E (XJ i0) (WI (XJ i1) (WI (XJ i2) (WI (XJ i3) Uv))) σ H Q:=by
 unfold V9;obtain ⟨a,dx,fs,e,l,h⟩:=_mq (E:=E σ) h q;exact ⟨x,e0,a,dx,fs,e,l,h.imp (fun h=>⟨h.1,_,e1,_,e2,_,e3,h.2⟩) fun h=>h.imp (fun h=>⟨h.1,_,e1,_,e2,_,e3,h.2⟩) fun h=>⟨h.1,_,e1,_,e2,_,e3,h.2⟩⟩
end
section
variable {w:World} {mg:Str->Option Value}
noncomputable def _pT (T:Tx K w mg):Sp:=fun vs H Q E=>vs.length=5∧∃(o v:V) (t kd:Addr) (u n:Str) (kvs:List (_k×V)) (rs:Y2),vs=[o,v,.ref t,.str u,.str n]∧H t=some (.dK kvs)∧_y kvs (.inr u)=some (.ref kd)∧H kd=some (.dK (YC rs))∧(rs.map (·.1)).Nodup∧n∈rs.map (·.1)∧∀H' x,Same H H'->Q x H'
theorem _or (T:Tx K w mg):FnOk P w K mg base (Xd P w) 1 T.VG.a (Y5 K T.VG.a) ["self","book","table","word","name"] (_pT T):=by
 refine Fun.okX (k:=0) T.VG.F Ww (fun vs H Q E h=>h.1) (fun cdv A outer s H vs Q E hr h=>?_);obtain ⟨-,o,v,t,kd,u,n,kvs,rs,rfl,ht,hv,hkd,nd,hn,q⟩:=h
 refine ⟨_,(_i (_B (i:=5) Ww.nd rfl (Or.inl rfl) (_gB (pv 2) (pv 3) Xl ⟨rfl,rfl,rfl,rfl⟩))
   (_i (_z (Vo (_av (_C hr) (pv 4) (pv 5))) (_i (_B (i:=6) Ww.nd rfl (Or.inl rfl) Xl)
   (_i (_9 QD rfl (_5 (Yk (_C hr) (YD (pv 0) rfl) (pv 3) (fun _ _=>rfl))) (_I (i:=7) Ww.nd rfl (Or.inl rfl))
    (_h (_9 QD rfl (_5 (U8 (pv 0) T.cl_Tongue T._aH.me (_mG (P:=P) (w:=w) (K:=K) (mg:=mg) (base:=base) (CX:=Xd P w) (k:=0)) (hr.mono (QM _)) T._aH.b .nil Xn (_a (pv 1) (_a (pv 2) (_a (pv 7) (_a (pv 4) _c)))))) (_I (i:=8) Ww.nd rfl (Or.inl rfl))
    (_h (YU (_C hr) (pv 6) (pv 8) YT rfl)))))
   (_h (YU (_C hr) (pv 5) (pv 4) (_J (VO rfl) (by rfl) T.n_sorted WQ (_a (pv 6) _c)) rfl)))) _A)
   (_h (_s (Yk (_C hr) (pv 5) (pv 4) (fun _ _=>rfl)))))),?_⟩
 refine ⟨_,rfl,t,rfl,.inl ⟨_,.inl ht⟩,_,rfl,fun p np=>⟨kvs,.inr u,.ref kd,_j np _ _ ht,rfl,hv,?_⟩⟩;have sp:=_j (o:=.dK []) np;obtain ⟨r,hr',er,vr⟩:=UY (rs:=rs) rfl nd hn;have dn:=DGet.k (k:=.inr n) (sp _ _ hkd);rw [vr] at dn;dsimp only [_V];exact ⟨_,rfl,_,rfl,kd,_,rfl,dn,_,rfl,_O ⟨_,rfl,_,rfl,kd,_,rfl,dn,q _ _ sp⟩⟩
end
section
variable {w:World} {mg:Str->Option Value} (T:Tx K w mg)
theorem _f3: _l9 P base T:=by
 refine Fun.okY T._hf.F _pV fun cdv A outer s H vs Q E hr h=>?_;obtain ⟨x,t,rfl,hv,q⟩:=h;refine ⟨_,(_h (_s (Wb (Xh K (by rfl) T.n_isinstance (_a (pv 0) (_a (Xq (v:=.ty "int") (by rfl) T.n_int _aR rfl) _c))) (XU (_np (Xh K (by rfl) T.n_isinstance (_a (pv 0) (_a (Xq (v:=.ty "bool") (by rfl) T.n_bool _lm rfl) _c)))))))),?_⟩;refine ⟨_,rfl,_,.ty "int",_,_,rfl,rfl,hv.kd,kI T t,_,rfl,?_⟩;cases t with
 |int i=>exact _1 ⟨_,rfl,_,.ty "bool",_,_,rfl,rfl,hv.kd,T.kib',_,rfl,q _ (Same.refl H)⟩
 |bl=>exact _1 ⟨_,rfl,_,.ty "bool",_,_,rfl,rfl,hv.kd,T.kbb',_,rfl,q _ (Same.refl H)⟩
 |_=>exact _O (q _ (Same.refl H))
theorem _bN: _nY P base T:=by
 refine Fun.okY T.Y7.F _kl fun cdv A outer s H vs Q E hr h=>?_;obtain ⟨x,t,rfl,hv,q⟩:=h
 refine ⟨_,(_i (_z (PW.pt (Xb (Xo (YG (Xh K (by rfl) T.n_isinstance (_a (pv 0) (_a (Xq (v:=.ty "str") (by rfl) T.n_str WT rfl) _c))))) (Xb (_t Xs (_J _eJ (by rfl) T.n_len _8 (_a (pv 0) _c)) _d (_r _)) (Xk (_t Xm (_J _eJ (by rfl) T.n_len _8 (_a (pv 0) _c)) _d (_r _)))))) (_h (_s YT)) _A)
   (_h (_s (_J (_bG rfl) (by rfl) T.n_all _bn (_a (XH (N:=["sign"]) (cl:=[]) (σc:=fun _=>[none]) rfl (_c6 (L:=[(".0",.local),("sign",.local),("LETTERS",.globalImplicit)]) (by rfl) (by trivial) (by trivial) (by rfl) (by rfl) (by decide) (by rfl) (by simp)) (_mg (pv 0)) (fun _ _ _=>(_I (i:=0) WO rfl (Or.inl rfl))) (fun _ _ _=>Wy) (fun _ _ _=>(YR _jg (pv 0) (We (v:=.str Vm) (by rfl) T.m_LETTERS ⟨_,rfl⟩) (by rfl)))) _c))))),?_⟩
 refine ⟨_,rfl,_,.ty "str",_,_,rfl,rfl,hv.kd,kS T t,_,rfl,?_⟩;cases t with
 |str z =>
  obtain ⟨e,hz⟩:=hv;subst e;have hs:z.length≤sizeLine:=QS (small1000 (by omega));refine _O ⟨_,rfl,z,rfl,hs,_,_,rfl,rfl,_,rfl,?_⟩;by_cases h1:((z.length:Nat):Int)<1
  ·rw [Qr h1]
   have e:WN (.str z)=false:=by
    rw [_a6];rw [Qn (show ¬1≤z.length by omega)];rfl
   rw [e] at q;exact _1 (q _ (Same.refl H))
  rw [Qn h1];refine _O ⟨_,rfl,z,rfl,hs,_,_,rfl,rfl,_,rfl,?_⟩;by_cases h2:(8:Int)<((z.length:Nat):Int)
  ·rw [Qr h2]
   have e:WN (.str z)=false:=by
    rw [_a6];rw [Qn (show ¬z.length≤8 by omega),Bool.and_false];rfl
   rw [e] at q;exact _1 (q _ (Same.refl H))
  rw [Qn h2]
  have e:WN (.str z)=(z.cps.toList.map XB).all id:=by
   rw [_a6];rw [Qr (show 1≤z.length by omega),Qr (show z.length≤8 by omega),List.all_map];rfl
  rw [e] at q;have hl:z.cps.size=z.length:=rfl;refine _O ⟨_,rfl,z,rfl,?_⟩;refine VE ((z.cps.toList.map XB).map V.bl) (by simp only [Qc,QF];exact Q8 (GU hl) (small1000 (by omega))) (fun σ=>∃o,σ=[o]) ⟨none,rfl⟩ ?_ ?_ ?_ ?_
  ·intro i H2 hi _;show i<z.cps.size;simpa using hi
  ·intro H2 _;show (((z.cps.toList.map XB).map V.bl).length:Nat)=z.cps.size;simp
  ·rintro i σ H2 v H3 y hy ⟨o,rfl⟩ s2 ⟨e3,c,hc,ev⟩ C hC;subst e3 ev
   have ey:y=.bl (XB c):=by
    have hc':z.cps.toList[i]?=some c:=by simpa using hc
    rw [Qi,Qi,hc'] at hy;exact (Ql hy).symm
   subst ey;exact ⟨_,rfl,_,_,rfl,rfl,hC _ _ ⟨_,rfl⟩ (Same.refl _)⟩
  ·intro D H2 hD s2 hl2;exact ⟨D,_,rfl,hl2,q _ s2⟩
 |_=>exact _1 (q _ (Same.refl H))
theorem _nC:_kB P base T:=by
 refine Fun.okY T.XO.F _jU fun cdv A outer s H vs Q E hr h=>?_;obtain ⟨x,t,rfl,hv,q⟩:=h;refine ⟨_,(_h (_s (Wb (_Q (_f3 T) hr (_a (pv 0) _c)) (XU (YR _bD (_J _pZ (by rfl) T.n_abs _ip (_a (pv 0) _c)) (_v WB _d _d) (_r _)))))),?_⟩;refine ⟨_,rfl,rfl,x,t,rfl,hv,fun H1 s1=>⟨_,rfl,?_⟩⟩;cases t with
 |int i =>
  cases (show x=.int i from hv);exact _1 ⟨_,rfl,i,rfl,_,_,rfl,rfl,(show Vx 10 18 from ⟨by decide,by decide,by trivial⟩),_,_,rfl,rfl,q _ s1⟩
 |_=>exact _O (q _ s1)
theorem _kK:_hH P base T:=by
 refine Fun.okY T.W2.F _lZ fun cdv A outer s H vs Q E hr h=>?_;obtain ⟨x,t,rfl,hv,q⟩:=h;refine ⟨_,(_h (_s (Wb (_Q (_f3 T) hr (_a (pv 0) _c)) (Wb (YR Jk (pv 0) _d (_r _)) (XU (YR _bD (pv 0) (_v WB _d _d) (_r _))))))),?_⟩;refine ⟨_,rfl,rfl,x,t,rfl,hv,fun H1 s1=>⟨_,rfl,?_⟩⟩;cases t with
 |int i =>
  cases (show x=.int i from hv);refine _1 ⟨_,rfl,_,_,rfl,rfl,_,rfl,?_⟩;have q1:=q _ s1;rw [_mF] at q1;by_cases h1:1≤i
  ·rw [Qr h1] at q1 ⊢;exact _1 ⟨_,rfl,_,_,rfl,rfl,(show Vx 10 18 from ⟨by decide,by decide,by trivial⟩),_,_,rfl,rfl,q1⟩
  ·rw [Qn h1] at q1 ⊢;exact _O q1
 |_=>exact _O (q _ s1)
theorem _k1: _mP P base T:=by
 refine Fun.okY T.WZ.F _kX fun cdv A outer s H vs Q E hr h=>?_;obtain ⟨x,t,rfl,hv,q⟩:=h;refine ⟨_,(_h (_s (Wb (Xh K (by rfl) T.n_isinstance (_a (pv 0) (_a (Xq (v:=.ty "str") (by rfl) T.n_str WT rfl) _c))) (XU (YR Us (pv 0) (_3 (_a _q (_a _q (_a _q _c)))) (by rfl)))))),?_⟩;refine ⟨_,rfl,_,.ty "str",_,_,rfl,rfl,hv.kd,kS T t,_,rfl,?_⟩;cases t with
 |str z =>
  cases (show x=.str z from hv.1);refine _1 ⟨_,rfl,by decide,fun p hp=>⟨p,_,rfl,.inr (.of _f),rfl,rfl,?_⟩⟩
  have e:(if false=true then !X4 (.str z) [.str "he",.str "she",.str ""] else X4 (.str z) [.str "he",.str "she",.str ""])=Vp (.str z):=by
   rw [Qa (by decide)];exact _nD z
  rw [e];exact q _ (_j hp)
 |_=>exact _O (q _ (Same.refl H))
theorem _mj:_i5 P base T:=by
 refine Fun.okY T.WD.F _pA fun cdv A outer s H vs Q E hr h=>?_;obtain ⟨x,t,rfl,hv,q⟩:=h;refine ⟨_,(_h (_s (_eW (_Q (_bN T) hr (_a (pv 0) _c)) (XU (Wb (Xh K (by rfl) T.n_isinstance (_a (pv 0) (_a (Xq (v:=.ty "str") (by rfl) T.n_str WT rfl) _c))) (XU (YR _U (pv 0) _q (_r _)))))))),?_⟩;refine ⟨_,rfl,rfl,x,t,rfl,hv,fun H1 s1=>⟨_,rfl,?_⟩⟩;have q1:=q _ s1;unfold UJ at q1;cases hn:WN t with
 |true =>
  rw [hn] at q1;exact _1 q1
 |false =>
  rw [hn,Bool.false_or] at q1;refine _O ⟨_,rfl,_,.ty "str",_,_,rfl,rfl,(hv.mono s1).kd,kS T t,_,rfl,?_⟩;cases t with
  |str z =>
   cases (show x=.str z from hv.1)
   have e:decide (V.str z=V.str "")=decide (z=""):=by
    rw [Rp];simp
   exact _1 ⟨_,rfl,rfl,by rw [e];exact q1⟩
  |_=>exact _O q1
theorem _ig:_jR P base T:=by
 refine Fun.okY T._d1.F _h8 fun cdv A outer s H vs Q E hr h=>?_;obtain ⟨a,b,xs,ts,cs,rfl,ha,hx,hb,hc,q⟩:=h
 refine ⟨_,(_i (_z (_t Wt (_J Ys (by rfl) T.n_len _8 (_a (pv 0) _c)) (_J Ys (by rfl) T.n_len _8 (_a (pv 1) _c)) (_r _)) (_h (_s YT)) _A)
   (_h (_s (_J (_bG rfl) (by rfl) T.n_all _bn (_a (XH (N:=["check","part"]) (cl:=[]) (σc:=fun _=>[none,none]) rfl (_c6 (L:=[(".0",.local),("check",.local),("part",.local)]) (by rfl) (by trivial) (by trivial) (by rfl) (by rfl) (by decide) (by rfl) (by simp)) (_nB K (by rfl) T.n_zip (_a (pv 1) (_a (pv 0) _c))) (fun _ _ _=>(_eA (n:=2) K rfl (YN (_I (i:=0) VT rfl (Or.inl rfl)) (YN (_I (i:=1) VT rfl (Or.inl rfl)) Wi)))) (fun _ _ _=>Wy) (fun _ _ _=>(_iL (Fam:=Fam T) (i:=0) (_lR T (_bN T) (_k1 T) (_nC T) (_kK T) (_mj T) (hr.mono (by decide)) rfl rfl rfl rfl rfl) rfl (Or.inl rfl) Xn (_a (pv 1) _c)))) _c))))),?_⟩
 have lx:=hx.length;refine ⟨_,rfl,a,_,rfl,.inr ha,_,rfl,b,_,rfl,.inr hb,rfl,_,rfl,?_⟩
 have e0:(!decide (V.int (xs.length:Nat)=V.int ((cs.map fun c=>V.ref (T.ad c)).length:Nat)))=!decide (ts.length=cs.length):=by
  rw [lx,Qc]
  congr 1
  rw [Rp];simp only [Gk,V.int.injEq];omega
 rw [e0];unfold Wf at q;by_cases hl:ts.length=cs.length
 ·rw [Qr hl] at q ⊢;rw [GM] at q;have lo:(_S cs ts).length=cs.length:=_dE hl;refine _O ⟨_,rfl,_,rfl,b,a,rfl,⟨_,hb⟩,⟨_,ha⟩,?_⟩;refine VE ((_S cs ts).map V.bl) (by rw [Qc,lo];exact small1000 (by omega)) (fun σ=>∃o u,σ=[o,u]) ⟨none,none,rfl⟩ ?_ ?_ ?_ ?_
  ·intro i H2 hi s2;rw [Qc,lo] at hi;have h1:i<(cs.map fun c=>V.ref (T.ad c)).length:=by rw [Qc];exact hi
   have h2:i<xs.length:=by omega
   exact ⟨_,_,_,_,s2.sqt hb,s2.sqt ha,Qu h1,Qu h2⟩
  ·intro H2 s2;exact ⟨_,s2.sqt hb,by rw [Qc,Qc,lo]⟩
  ·rintro i σ H2 v H3 y hy ⟨o,u,rfl⟩ s2 ⟨A',x1,x2,nA,rfl,f1,f2,rfl⟩ C hC;obtain ⟨c,t,e1,e2,e3⟩:=_jY hl hy;have g1:=f1 _ (s2.sqt hb);have g2:=f2 _ (s2.sqt ha);rw [Qi,e1] at g1;have g1':x1=.ref (T.ad c):=(Ql g1).symm;obtain ⟨x,ex,vx⟩:=hx.get e2;rw [ex] at g2;have g2':x2=x:=(Ql g2).symm;subst g1' g2' e3;have sA:=_j (o:=.tup [.ref (T.ad c),x2]) nA;refine ⟨A',_,rfl,.of _f,rfl,?_⟩;refine ⟨_,_,rfl,_,_,rfl,rfl,?_⟩;refine ⟨_,_,rfl,⟨c,rfl,rfl⟩,_,rfl,rfl,x2,t,rfl,(vx.mono s2).mono sA,fun H5 s5=>hC _ _ ⟨_,_,rfl⟩ (sA.trans s5)⟩
  ·intro D H2 hD s2 hl2;exact ⟨D,_,rfl,hl2,q _ s2⟩
 ·rw [Qn hl] at q ⊢;exact _1 (q _ (Same.refl H))
theorem _k6:_pL P base T:=by
 refine Fun.okY T._cZ.F _bo fun cdv A outer s H vs Q E hr h=>?_;obtain ⟨x,rfl,h⟩:=h
 refine ⟨_,(_i (_z (PW.pt (Xb (Xo (YG (Xh K (by rfl) T.n_isinstance (_a (pv 0) (_a (Xq (v:=.ty "tuple") (by rfl) T.n_tuple _cH rfl) _c))))) (Xb (_t _U (_J Ys (by rfl) T.n_len _8 (_a (pv 0) _c)) _d (_r _)) (Xk (Xo (YG (Xh K (by rfl) T.n_isinstance (_a (_m _o (pv 0) _d (fun _ _=>rfl)) (_a (Xq (v:=.ty "str") (by rfl) T.n_str WT rfl) _c))))))))) (_h (_s YT)) _A)
   (_i (_9 QD rfl (_al (We (v:=.ref T.aF) (by rfl) T.m_FORMS rfl)) (VR rfl (YN (_I (i:=1) _bo.nd rfl (Or.inl rfl)) (YN (_I (i:=2) _bo.nd rfl (Or.inl rfl)) Wi)))
    (_h (_z (_t _U (_m _o (pv 0) _d (fun _ _=>rfl)) (pv 1) (_r _)) (_h (_s (_Q (_ig T) hr (_a (WY J1 (pv 0) (WC _d) VS) (_a (pv 2) _c))))) _A)))
   (_h (_s YT)))),?_⟩
 rcases h with ⟨t,hv,ht,q⟩|⟨ts,⟨a,xs,rfl,hS,hx⟩,hl,q⟩
 ·have k:=kT T t;rw [ht] at k;exact ⟨_,rfl,_,.ty "tuple",_,_,rfl,rfl,hv.kd,k,_,rfl,_1 (q _ (Same.refl H))⟩
 refine ⟨_,rfl,_,.ty "tuple",_,_,rfl,rfl,.sqt hS,T.ktt',_,rfl,?_⟩;refine _O ⟨_,rfl,a,_,rfl,.inr hS,rfl,_,rfl,?_⟩
 match xs,ts,hx with
 |[],[],_=>exact _1 (q _ (Same.refl H))
 |x::xs,t::ts,hx =>
  have e0:decide (V.int ((x::xs).length:Nat)=V.int 0)=false:=by
   rw [QH]
   exact Qn fun z=>by
    have:=V.int.inj z;omega
  rw [e0];have at0:_6 (x::xs) 0=some x:=YB (j:=0) rfl;refine _O ⟨_,rfl,a,_,_,_,rfl,rfl,hS,at0,_,.ty "str",_,_,rfl,rfl,hx.1.kd,kS T t,_,rfl,?_⟩;cases t with
  |str w =>
   have ex:x=.str w:=hx.1.1;refine _O ⟨T.aF,rfl,⟨_,T.sF _⟩,_bS (fun i σ H2=>∃v1 v2,σ=[some (.ref a),v1,v2]∧Same H H2∧∀j,j<i->∀p',Wo[j]?=some p'->w≠p'.1) ⟨none,none,rfl,Same.refl H,fun j hj=>by omega⟩ (fun _ _ _ _ _=>T.sF _) ?turn ?done⟩
   case done =>
    rintro σ H2 ⟨v1,v2,rfl,s2,b⟩
    have e:VW (.str w::ts)=false:=by
     rw [_am,_po b];rfl
    rw [e] at q;exact q _ s2
   case turn =>
    rintro i y σ H2 hy ⟨v1,v2,rfl,s2,b⟩;have hi:i<6:=(QB.mp hy).1;have hf:Wo[i]?=some (Wo[i]'hi):=Qu hi;generalize Wo[i]'hi=p at hf;obtain ⟨P,G,e1,e2,e3⟩:=_jz T hf;rw [hy] at e1;have ey:y=.ref P:=Ql e1;subst ey;refine ⟨P,_,rfl,e2 _,rfl,_,_,rfl,_,_,rfl,rfl,?_⟩;refine ⟨_,rfl,a,_,_,_,rfl,rfl,s2.sqt hS,at0,_,rfl,by rw [ex];rfl,_,rfl,?_⟩;rw [ex]
    have ed:decide (V.str w=V.str p.1)=decide (w=p.1):=by
     rw [Rp];simp
    rw [ed];by_cases hw:w=p.1
    ·rw [Qr hw]
     have e:VW (.str w::ts)=Wf p.2 ts:=by
      rw [_am,_pG hf b hw];rfl
     rw [e] at q;refine _1 ⟨_,rfl,_,rfl,a,_,rfl,s2.sqt hS,?_,fun n hn=>?_⟩
     ·rintro ⟨z,_⟩;have:HT.sIx (x::xs).length 0 (some ((1:Nat):Int))=0:=z;rw [HT.sIx_nat,QH] at this;omega
     ·rw [_lF];have sn:=_j (o:=.tup xs) hn;refine ⟨_,rfl,rfl,n,G,xs,ts,p.2,rfl,.of _f,(hx.2.mono s2).mono sn,e3 _,_jw p (Qt hf),fun H5 s5=>q _ (s2.trans (sn.trans s5))⟩
    ·rw [Qn hw];refine _O ⟨_,_,rfl,s2,fun j hj p' e'=>?_⟩;by_cases hji:j<i
     ·exact b j hji p' e'
     ·have:j=i:=by omega
      subst this;rw [hf] at e';cases e';exact hw
  |_=>exact _1 (q _ (Same.refl H))
theorem _fA: _l6 P base T:=by
 refine Fun.okY T._eR.F _jx fun cdv A outer s H vs Q E hr h=>?_;obtain ⟨v,e,rfl,⟨a,rfl,hE⟩,q⟩:=h;refine ⟨_,(_h (_s (YR Us (_m _o (pv 0) _d (fun _ _=>rfl)) (_3 (_a _q (_a _q _c))) (by rfl)))),?_⟩;cases e with
 |born n s d f m=>exact ⟨_,rfl,a,_,_,_,rfl,rfl,hE,_l (j:=0) rfl,few rfl,fun p np=>⟨p,_,rfl,.inr (.of _f),rfl,rfl,q _ (_j np)⟩⟩
 |taken c t d=>exact ⟨_,rfl,a,_,_,_,rfl,rfl,hE,_l (j:=0) rfl,few rfl,fun p np=>⟨p,_,rfl,.inr (.of _f),rfl,rfl,q _ (_j np)⟩⟩
 |union x y d=>exact ⟨_,rfl,a,_,_,_,rfl,rfl,hE,_l (j:=0) rfl,few rfl,fun p np=>⟨p,_,rfl,.inr (.of _f),rfl,rfl,q _ (_j np)⟩⟩
 |parted x y d=>exact ⟨_,rfl,a,_,_,_,rfl,rfl,hE,_l (j:=0) rfl,few rfl,fun p np=>⟨p,_,rfl,.inr (.of _f),rfl,rfl,q _ (_j np)⟩⟩
theorem _gN: _lP P base T:=by
 refine Fun.okY T._ew.F _kb fun cdv A outer s H vs Q E hr h=>?_;obtain ⟨v,e,rfl,⟨a,rfl,hE⟩,q⟩:=h
 refine ⟨_,(_i (_z (_t _U (_m _o (pv 0) _d (fun _ _=>rfl)) _q (_r _)) (_h (_s (XH rfl (Xc (N:=["name"]) [] [none] rfl (by trivial) (by trivial) (by rfl) (by rfl) (by rfl) (by rfl) (by rfl)) (_al (WY J1 (pv 0) (WC _d) VS)) (fun _ _ _=>(_I (i:=0) _oY rfl (Or.inl rfl))) (fun _ _ _=>(Wr (_t Wt (pv 0) _q (_r _)))) (fun _ _ _=>(pv 0))))) _A)
   (_i (_z (_t _U (_m _o (pv 0) _d (fun _ _=>rfl)) _q (_r _)) (_h (_s (Yb (_a (_m _o (pv 0) _d (fun _ _=>rfl)) _c)))) _A)
   (_h (_s (Yb (_a (_m _o (pv 0) _d (fun _ _=>rfl)) (_a (_m _o (pv 0) _d (fun _ _=>rfl)) _c))))))),?_⟩
 cases e with
 |born n s d f m =>
  refine ⟨_,rfl,a,_,_,_,rfl,rfl,hE,_l (j:=0) rfl,rfl,_,rfl,_Z (by trivial) ⟨_,rfl,_,rfl,?_⟩⟩;dsimp only [U7];refine Jg hE (fun h=>absurd h.1 (show ¬(4:Nat)=0 by decide)) fun H1 p s1 hp=>?_;have hp':SqT K H1 p ([f,m].map V.str):=hp;refine ⟨p,rfl,⟨_,hp'⟩,Wq ([f,m].map Uw) (small1000 (by simp)) (fun σ=>∃v,σ=[v]) ⟨_,rfl⟩ (fun i H2 hi sm=>?go) (fun H2 sm=>?stop) (fun i σ H2 x H3 o ho hσ sm hx C hC=>?step) (fun D H2 nD sm hD=>?fin)⟩
  case go =>
   have hi':i<([f,m].map V.str).length:=hi;exact ⟨_,_,sm.sqt hp',Qu hi'⟩
  case stop=>exact ⟨_,sm.sqt hp',by simp⟩
  case step =>
   obtain ⟨v,rfl⟩:=hσ;obtain ⟨rfl,hx⟩:=hx;have e1:=hx _ (sm.sqt hp');rw [Qi] at e1 ho;obtain ⟨z,hz,rfl⟩:=QE.mp e1;rw [hz] at ho;obtain rfl:Uw z=o:=Ql ho;refine ⟨_,rfl,rfl,_,rfl,?_⟩;by_cases hz0:z=""
   ·subst hz0;exact _D (by trivial) (hC _ _ ⟨_,rfl⟩ (Same.refl _))
   ·have e2:Uw z=some (.str z):=Qa hz0;rw [e2] at hC;exact _Z (by rw [Xe,Qn hz0];rfl) ⟨_,rfl,hC _ _ ⟨_,rfl⟩ (Same.refl _)⟩
  case fin =>
   rw [_di] at hD;exact q _ D (s1.trans sm) (_N s1 nD) (.of hD)
 |taken c t d=>exact ⟨_,rfl,a,_,_,_,rfl,rfl,hE,_l (j:=0) rfl,rfl,_,rfl,_D (by trivial) ⟨_,rfl,a,_,_,_,rfl,rfl,hE,_l (j:=0) rfl,rfl,_,rfl,_D (by trivial) ⟨_,rfl,a,_,_,_,rfl,rfl,hE,_l (j:=1) rfl,_,rfl,a,_,_,_,rfl,rfl,hE,_l (j:=2) rfl,few rfl,fun D nD=>q _ D (_j nD) nD (.of _f)⟩⟩⟩
 |union x y d=>exact ⟨_,rfl,a,_,_,_,rfl,rfl,hE,_l (j:=0) rfl,rfl,_,rfl,_D (by trivial) ⟨_,rfl,a,_,_,_,rfl,rfl,hE,_l (j:=0) rfl,rfl,_,rfl,_D (by trivial) ⟨_,rfl,a,_,_,_,rfl,rfl,hE,_l (j:=1) rfl,_,rfl,a,_,_,_,rfl,rfl,hE,_l (j:=2) rfl,few rfl,fun D nD=>q _ D (_j nD) nD (.of _f)⟩⟩⟩
 |parted x y d=>exact ⟨_,rfl,a,_,_,_,rfl,rfl,hE,_l (j:=0) rfl,rfl,_,rfl,_D (by trivial) ⟨_,rfl,a,_,_,_,rfl,rfl,hE,_l (j:=0) rfl,rfl,_,rfl,_D (by trivial) ⟨_,rfl,a,_,_,_,rfl,rfl,hE,_l (j:=1) rfl,_,rfl,a,_,_,_,rfl,rfl,hE,_l (j:=2) rfl,few rfl,fun D nD=>q _ D (_j nD) nD (.of _f)⟩⟩⟩
theorem _n2: _lH P base T:=by
 refine Fun.okY T._hl.F _oj fun cdv A outer s H vs Q E hr h=>?_;obtain ⟨v,e,rfl,⟨a,rfl,hE⟩,q⟩:=h
 refine ⟨_,(_i (_z (_t _U (_m _o (pv 0) _d (fun _ _=>rfl)) _q (_r _)) (_h (_s (_m _o (pv 0) _d (fun _ _=>rfl)))) _A)
   (_h (_s (_m _o (pv 0) (W5 Vd _d) (fun _ _=>rfl))))),?_⟩
 cases e with
 |born n s d f m=>exact ⟨_,rfl,a,_,_,_,rfl,rfl,hE,_l (j:=0) rfl,rfl,_,rfl,_Z (by trivial) ⟨_,rfl,a,_,_,_,rfl,rfl,hE,_l (j:=3) rfl,q⟩⟩
 |taken c t d=>exact ⟨_,rfl,a,_,_,_,rfl,rfl,hE,_l (j:=0) rfl,rfl,_,rfl,_D (by trivial) ⟨_,rfl,_,rfl,a,_,_,_,rfl,rfl,hE,rfl,q⟩⟩
 |union x y d=>exact ⟨_,rfl,a,_,_,_,rfl,rfl,hE,_l (j:=0) rfl,rfl,_,rfl,_D (by trivial) ⟨_,rfl,_,rfl,a,_,_,_,rfl,rfl,hE,rfl,q⟩⟩
 |parted x y d=>exact ⟨_,rfl,a,_,_,_,rfl,rfl,hE,_l (j:=0) rfl,rfl,_,rfl,_D (by trivial) ⟨_,rfl,_,rfl,a,_,_,_,rfl,rfl,hE,rfl,q⟩⟩
theorem _gC:_iz P base T:=by
 refine Fun.okY T._hm.F _g8 fun cdv A outer s H vs Q E hr h=>?_;obtain ⟨v,e,rfl,hx,q⟩:=h
 refine ⟨_,(_i (_z (Xo (YG (_Q (_fA T) hr (_a (pv 0) _c)))) (_h (_s (pv 0))) _A)
   (_i (_B (i:=1) _g8.nd rfl (Or.inl rfl) (_J (_h7 K) (by rfl) T.n_sorted WQ (_a (WY J1 (pv 0) (WC _d) (WC _d)) _c)))
   (_h (_s (_3 (_a (_m _o (pv 0) _d (fun _ _=>rfl)) (_a (_m Ye (pv 1) _d (fun _ _=>rfl)) (_a (_m Ye (pv 1) _d (fun _ _=>rfl)) (_a (_m _o (pv 0) _d (fun _ _=>rfl)) _c))))))))),?_⟩
 obtain ⟨a,rfl,hE⟩:=id hx;refine ⟨_,rfl,rfl,.ref a,e,rfl,hx,fun H1 s1=>⟨_,rfl,?_⟩⟩;have hE1:=s1.sqt hE;cases e with
 |born n s d f m=>exact _1 ⟨_,rfl,q _ _ s1 (hx.mono s1)⟩
 |taken c t d=>exact _1 ⟨_,rfl,q _ _ s1 (hx.mono s1)⟩
 |union x y d =>
  refine _O ⟨_,rfl,_,rfl,_,rfl,?_⟩;refine Jg hE1 (fun h=>absurd h.1 (show ¬(1:Nat)=0 by decide)) fun H2 p s2 hp=>?_;have hp':SqT K H2 p ([x,y].map V.str):=hp;refine ⟨p,[x,y],rfl,hp',Ra rfl,fun D zs nD perm so=>?_⟩;rw [_dy perm so];have s3:=_j (o:=.lst ([(_e x y).1,(_e x y).2].map V.str)) nD;have hE3:=s3.sqt (s2.sqt hE1);have hD:SqL K (_b H2 D (.lst ([(_e x y).1,(_e x y).2].map V.str))) D ([(_e x y).1,(_e x y).2].map V.str):=.of _f;refine ⟨_,rfl,a,_,_,_,rfl,rfl,hE3,_l (j:=0) rfl,_,rfl,D,_,_,_,rfl,rfl,hD,_l (j:=0) rfl,_,rfl,D,_,_,_,rfl,rfl,hD,_l (j:=1) rfl,_,rfl,a,_,_,_,rfl,rfl,hE3,_l (j:=3) rfl,few rfl,fun t nt=>?_⟩;exact q _ _ (s1.trans (s2.trans (s3.trans (_j nt)))) ⟨t,rfl,.of _f⟩
 |parted x y d =>
  refine _O ⟨_,rfl,_,rfl,_,rfl,?_⟩;refine Jg hE1 (fun h=>absurd h.1 (show ¬(1:Nat)=0 by decide)) fun H2 p s2 hp=>?_;have hp':SqT K H2 p ([x,y].map V.str):=hp;refine ⟨p,[x,y],rfl,hp',Ra rfl,fun D zs nD perm so=>?_⟩;rw [_dy perm so];have s3:=_j (o:=.lst ([(_e x y).1,(_e x y).2].map V.str)) nD;have hE3:=s3.sqt (s2.sqt hE1);have hD:SqL K (_b H2 D (.lst ([(_e x y).1,(_e x y).2].map V.str))) D ([(_e x y).1,(_e x y).2].map V.str):=.of _f;refine ⟨_,rfl,a,_,_,_,rfl,rfl,hE3,_l (j:=0) rfl,_,rfl,D,_,_,_,rfl,rfl,hD,_l (j:=0) rfl,_,rfl,D,_,_,_,rfl,rfl,hD,_l (j:=1) rfl,_,rfl,a,_,_,_,rfl,rfl,hE3,_l (j:=3) rfl,few rfl,fun t nt=>?_⟩;exact q _ _ (s1.trans (s2.trans (s3.trans (_j nt)))) ⟨t,rfl,.of _f⟩
theorem _gc:_ja P base T:=by
 refine Fun.okY T._fW.F _oh fun cdv A outer s H vs Q E hr h=>?_;obtain ⟨v,e,rfl,hx,q⟩:=h
 refine ⟨_,(_i (_z (_t Us (_m _o (pv 0) _d (fun _ _=>rfl)) (_3 (_a _q (_a _q _c))) (by rfl)) (_h (_s (_3 (_a (_m _o (pv 0) _d (fun _ _=>rfl)) (_a (_m _o (pv 0) _d (fun _ _=>rfl)) _c))))) _A)
   (_i (_z (_t _U (_m _o (pv 0) _d (fun _ _=>rfl)) _q (_r _)) (_h (_s (_3 (_a (_m _o (pv 0) _d (fun _ _=>rfl)) (_a (_m _o (pv 0) _d (fun _ _=>rfl)) (_a (_m _o (pv 0) _d (fun _ _=>rfl)) _c)))))) _A)
   (_i (_z (_t _U (_m _o (pv 0) _d (fun _ _=>rfl)) _q (_r _)) (_h (_s (_3 (_a (_m _o (pv 0) _d (fun _ _=>rfl)) (_a (_m _o (pv 0) _d (fun _ _=>rfl)) (_a (_m _o (pv 0) _d (fun _ _=>rfl)) (_a (_m _o (pv 0) _d (fun _ _=>rfl)) _c))))))) _A)
   (_h (_s (_v _iB (_3 (_a _q _c)) (WY J1 (_Q (_gC T) hr (_a (pv 0) _c)) (WC _d) VS))))))),?_⟩
 obtain ⟨a,rfl,hE⟩:=id hx;cases e with
 |born n s d f m =>
  refine ⟨_,rfl,a,_,_,_,rfl,rfl,hE,_l (j:=0) rfl,few rfl,fun p np=>⟨p,_,rfl,.inr (.of _f),rfl,rfl,_,rfl,_Z (by trivial) ?_⟩⟩;have s1:=_j (o:=.tup [.str "born",.str "dead"]) np;have hE1:=s1.sqt hE;exact ⟨_,rfl,a,_,_,_,rfl,rfl,hE1,_l (j:=0) rfl,_,rfl,a,_,_,_,rfl,rfl,hE1,_l (j:=1) rfl,few rfl,fun t nt=>q _ t (s1.trans (_j nt)) (_N s1 nt) _f⟩
 |taken c t d =>
  refine ⟨_,rfl,a,_,_,_,rfl,rfl,hE,_l (j:=0) rfl,few rfl,fun p np=>⟨p,_,rfl,.inr (.of _f),rfl,rfl,_,rfl,_D (by trivial) ?_⟩⟩;have s1:=_j (o:=.tup [.str "born",.str "dead"]) np;have hE1:=s1.sqt hE;refine ⟨_,rfl,a,_,_,_,rfl,rfl,hE1,_l (j:=0) rfl,rfl,_,rfl,_Z (by trivial) ?_⟩;exact ⟨_,rfl,a,_,_,_,rfl,rfl,hE1,_l (j:=0) rfl,_,rfl,a,_,_,_,rfl,rfl,hE1,_l (j:=1) rfl,_,rfl,a,_,_,_,rfl,rfl,hE1,_l (j:=2) rfl,few rfl,fun t nt=>q _ t (s1.trans (_j nt)) (_N s1 nt) _f⟩
 |union x y d =>
  refine ⟨_,rfl,a,_,_,_,rfl,rfl,hE,_l (j:=0) rfl,few rfl,fun p np=>⟨p,_,rfl,.inr (.of _f),rfl,rfl,_,rfl,_D (by trivial) ?_⟩⟩;have s1:=_j (o:=.tup [.str "born",.str "dead"]) np;have hE1:=s1.sqt hE;refine ⟨_,rfl,a,_,_,_,rfl,rfl,hE1,_l (j:=0) rfl,rfl,_,rfl,_D (by trivial) ?_⟩;refine ⟨_,rfl,a,_,_,_,rfl,rfl,hE1,_l (j:=0) rfl,rfl,_,rfl,_D (by trivial) ?_⟩;refine ⟨few rfl,fun t nt=>⟨_,rfl,rfl,.ref a,_,rfl,(hx.mono s1).mono (_j nt),fun H2 u s2 hu=>?_⟩⟩;obtain ⟨b,rfl,hb⟩:=hu;refine ⟨_,rfl,?_⟩;dsimp only [U7];refine Jg hb (fun h=>absurd h.1 (show ¬(1:Nat)=0 by decide)) fun H3 c s3 hc=>?_;refine ⟨t,c,[.str "tie"],[.str (_e x y).1,.str (_e x y).2,.int d],rfl,rfl,.of (s3 _ _ (s2 _ _ _f)),hc,by simp,few rfl,fun h=>absurd h (by simp),fun _ z nz=>?_⟩;have s4:=(s1.trans (_j nt)).trans (s2.trans s3);exact q _ z (s4.trans (_j nz)) (_N s4 nz) _f
 |parted x y d =>
  refine ⟨_,rfl,a,_,_,_,rfl,rfl,hE,_l (j:=0) rfl,few rfl,fun p np=>⟨p,_,rfl,.inr (.of _f),rfl,rfl,_,rfl,_D (by trivial) ?_⟩⟩;have s1:=_j (o:=.tup [.str "born",.str "dead"]) np;have hE1:=s1.sqt hE;refine ⟨_,rfl,a,_,_,_,rfl,rfl,hE1,_l (j:=0) rfl,rfl,_,rfl,_D (by trivial) ?_⟩;refine ⟨_,rfl,a,_,_,_,rfl,rfl,hE1,_l (j:=0) rfl,rfl,_,rfl,_D (by trivial) ?_⟩;refine ⟨few rfl,fun t nt=>⟨_,rfl,rfl,.ref a,_,rfl,(hx.mono s1).mono (_j nt),fun H2 u s2 hu=>?_⟩⟩;obtain ⟨b,rfl,hb⟩:=hu;refine ⟨_,rfl,?_⟩;dsimp only [U7];refine Jg hb (fun h=>absurd h.1 (show ¬(1:Nat)=0 by decide)) fun H3 c s3 hc=>?_;refine ⟨t,c,[.str "tie"],[.str (_e x y).1,.str (_e x y).2,.int d],rfl,rfl,.of (s3 _ _ (s2 _ _ _f)),hc,by simp,few rfl,fun h=>absurd h (by simp),fun _ z nz=>?_⟩;have s4:=(s1.trans (_j nt)).trans (s2.trans s3);exact q _ z (s4.trans (_j nz)) (_N s4 nz) _f
theorem _dl: _pM P base T:=by
 refine Fun.okY T._gX.F _l1 fun cdv A outer s H vs Q E hr h=>?_;obtain ⟨x,rfl,h⟩:=h;refine ⟨_,(_h (_s (Wb (Xh K (by rfl) T.n_isinstance (_a (pv 0) (_a (Xq (v:=.ty "str") (by rfl) T.n_str WT rfl) _c))) (XU (YR Us (pv 0) (We (v:=.ref T.a_STEP_LETTERS) (by rfl) T.m_STEP_LETTERS rfl) (by rfl)))))),?_⟩;rcases h with ⟨ty,hk,ks,q⟩|⟨l,rfl,q⟩
 ·exact ⟨_,rfl,_,.ty "str",_,_,rfl,rfl,hk,ks,_,rfl,_O q⟩
 refine ⟨_,rfl,_,.ty "str",_,_,rfl,rfl,.of (.str _),T.kss',_,rfl,_1 ⟨_,rfl,T.a_STEP_LETTERS,_,rfl,.inr (T._l3 _),rfl,rfl,?_⟩⟩;have e:(if false=true then !X4 (.str l) (Xg.map V.str) else X4 (.str l) (Xg.map V.str))=XC l:=_aJ l Xg;rw [←e] at q;exact q
theorem _cY: _k3 P base T:=by
 refine Fun.okY T._dF.F _kq fun cdv A outer s H vs Q E hr h=>?_;obtain ⟨a,b,rfl,q⟩:=h;refine ⟨_,(_h (_s (_3 (_a (_J (_bp rfl) (by rfl) T.n_min Ub (_a (pv 0) (_a (pv 1) _c))) (_a (_J (_cd rfl) (by rfl) T.n_max Jf (_a (pv 0) (_a (pv 1) _c))) _c))))),?_⟩;refine ⟨_,rfl,_,rfl,_,_,rfl,_,rfl,_,rfl,_,_,rfl,few rfl,fun p np=>?_⟩;rw [_be,_bk];exact q _ p (_j np) np _f
theorem _hY: _hZ P base T:=by
 refine Fun.okY T.JP.F _kG fun cdv A outer s H vs Q E hr h=>?_;obtain ⟨b,dx,rfl,h0,q⟩:=h
 refine ⟨_,(_i (Wu (pv 0) VP rfl)
   (_i (Wu (pv 0) Xl rfl)
   (_i (Wu (pv 0) VP rfl)
   (_i (Wu (pv 0) VP rfl)
   (_h (Wu (pv 0) VP rfl)))))),?_⟩
 refine fun k nk=>⟨_,rfl,b,T.cB,dx,[],rfl,(_g (_R h0 nk)).trans h0,T.lB_,T.nBkept,QK (m:=10) (Ra rfl) (by decide),?_⟩;obtain ⟨g1,p1,s1,m1⟩:=Jv (fs:=[]) "kept" (.dT []) h0 nk;generalize hH1:_b (_b H k (.dT [])) b (.ins T.cB dx (_H "kept" (.ref k) ([])))=H1 at *;refine fun bi nbi=>⟨_,rfl,b,T.cB,dx,_H "kept" (.ref k) [],rfl,(_g (_R g1 nbi)).trans g1,T.lB_,T.nBbirths,QK (m:=10) (Ra rfl) (by decide),?_⟩;obtain ⟨g2,p2,s2,m2⟩:=Jv (fs:=_H "kept" (.ref k) []) "births" (.dK []) g1 nbi;generalize hH2:_b (_b H1 bi (.dK [])) b (.ins T.cB dx (_H "births" (.ref bi) (_H "kept" (.ref k) [])))=H2 at *;refine fun li nli=>⟨_,rfl,b,T.cB,dx,_H "births" (.ref bi) (_H "kept" (.ref k) []),rfl,(_g (_R g2 nli)).trans g2,T.lB_,T.nBlinks,QK (m:=10) (Ra rfl) (by decide),?_⟩;obtain ⟨g3,p3,s3,m3⟩:=Jv (fs:=_H "births" (.ref bi) (_H "kept" (.ref k) [])) "links" (.dT []) g2 nli;generalize hH3:_b (_b H2 li (.dT [])) b (.ins T.cB dx (_H "links" (.ref li) (_H "births" (.ref bi) (_H "kept" (.ref k) []))))=H3 at *;refine fun ti nti=>⟨_,rfl,b,T.cB,dx,_H "links" (.ref li) (_H "births" (.ref bi) (_H "kept" (.ref k) [])),rfl,(_g (_R g3 nti)).trans g3,T.lB_,T.nBties,QK (m:=10) (Ra rfl) (by decide),?_⟩;obtain ⟨g4,p4,s4,m4⟩:=Jv (fs:=_H "links" (.ref li) (_H "births" (.ref bi) (_H "kept" (.ref k) []))) "ties" (.dT []) g3 nti;generalize hH4:_b (_b H3 ti (.dT [])) b (.ins T.cB dx (_H "ties" (.ref ti) (_H "links" (.ref li) (_H "births" (.ref bi) (_H "kept" (.ref k) [])))))=H4 at *;refine fun su nsu=>⟨_,rfl,b,T.cB,dx,_H "ties" (.ref ti) (_H "links" (.ref li) (_H "births" (.ref bi) (_H "kept" (.ref k) []))),rfl,(_g (_R g4 nsu)).trans g4,T.lB_,T.nBsums,QK (m:=10) (Ra rfl) (by decide),?_⟩;obtain ⟨g5,p5,s5,m5⟩:=Jv (fs:=_H "ties" (.ref ti) (_H "links" (.ref li) (_H "births" (.ref bi) (_H "kept" (.ref k) [])))) "sums" (.dT []) g4 nsu;generalize hH5:_b (_b H4 su (.dT [])) b (.ins T.cB dx (_H "sums" (.ref su) (_H "ties" (.ref ti) (_H "links" (.ref li) (_H "births" (.ref bi) (_H "kept" (.ref k) []))))))=H5 at *;have kb:∀{c:Addr} {o:HO} {Hx:Hp},Hx c=some o->(∀fs,o≠.ins T.cB dx fs)->∀{fs},Hx b=some (.ins T.cB dx fs)->c≠b:=fun e no fs eb z=>by subst z;rw [eb] at e;cases e;exact no _ rfl
 have dT:∀fs,HO.dT []≠.ins T.cB dx fs:=fun _ z=>by cases z
 have dK:∀fs,HO.dK []≠.ins T.cB dx fs:=fun _ z=>by cases z
 have a1:=s5 _ _ (s4 _ _ (s3 _ _ (s2 _ _ p1 (kb p1 dT g1)) (kb (s2 _ _ p1 (kb p1 dT g1)) dT g2)) (kb (s3 _ _ (s2 _ _ p1 (kb p1 dT g1)) (kb (s2 _ _ p1 (kb p1 dT g1)) dT g2)) dT g3)) (kb p1 dT g1);have a2:=s5 _ _ (s4 _ _ (s3 _ _ p2 (kb p2 dK g2)) (kb p2 dK g2)) (kb p2 dK g2);have a3:=s5 _ _ (s4 _ _ p3 (kb p3 dT g3)) (kb p3 dT g3);have a4:=s5 _ _ p4 (kb p4 dT g4);rw [_pS] at g5;have kli:k≠li:=_R (s2 _ _ p1 (kb p1 dT g1)) nli;have kti:k≠ti:=_R (s3 _ _ (s2 _ _ p1 (kb p1 dT g1)) (kb (s2 _ _ p1 (kb p1 dT g1)) dT g2)) nti;have ksu:k≠su:=_R (s4 _ _ (s3 _ _ (s2 _ _ p1 (kb p1 dT g1)) (kb (s2 _ _ p1 (kb p1 dT g1)) dT g2)) (kb (s3 _ _ (s2 _ _ p1 (kb p1 dT g1)) (kb (s2 _ _ p1 (kb p1 dT g1)) dT g2)) dT g3)) nsu;have liti:li≠ti:=_R p3 nti;have lisu:li≠su:=_R (s4 _ _ p3 (kb p3 dT g3)) nsu;have tisu:ti≠su:=_R p4 nsu;exact q H5 k bi li ti su ⟨g5,by simp [kli,kti,ksu,liti,lisu,tisu],by simp [VL],a1,a2,a3,a4,p5,fun _ h=>(nomatch h),fun _ h=>(nomatch h),fun _ h=>(nomatch h)⟩ (fun c o e cb=>s5 _ _ (s4 _ _ (s3 _ _ (s2 _ _ (s1 _ _ e cb) cb) cb) cb) cb) nk (m1 _ nbi) (m1 _ (m2 _ nli)) (m1 _ (m2 _ (m3 _ nti))) (m1 _ (m2 _ (m3 _ (m4 _ nsu))))
theorem Um: _lT P base T:=by
 refine Fun.okY T._fH.F _nx fun cdv A outer s H vs Q E hr h=>?_;obtain ⟨v,x,B,rfl,⟨b,dx,k,bi,li,ti,su,rfl,hB⟩,h⟩:=h
 refine ⟨_,(_i (_z (PW.pt (Xb (Xo (YG (Xh K (by rfl) T.n_isinstance (_a (pv 1) (_a (Xq (v:=.ty "str") (by rfl) T.n_str WT rfl) _c))))) (Xk (Vo (_av (_C hr) (pv 1) (YD (pv 0) rfl)))))) (_h XI) _A)
   (_h (_s (Yk (_C hr) (YD (pv 0) rfl) (pv 1) (fun _ _=>rfl))))),?_⟩
 rcases h with hf|⟨n,rfl,qe,q⟩
 ·exact hf.elim
 have dg:=DGet.k (k:=.inr n) hB.bi;rw [_bi] at dg;refine ⟨_,rfl,_,.ty "str",_,_,rfl,rfl,.of (.str _),T.kss',_,rfl,_O ⟨_,rfl,_,rfl,b,T.cB,dx,_,_,rfl,hB.ob,T.lB_,T.nBbirths,U0,bi,_,rfl,dg,_,rfl,?_⟩⟩;cases hb:_Y n B.kept with
 |none=>exact (qe hb).elim
 |some p =>
  rw [hb] at dg;exact _O ⟨_,rfl,b,T.cB,dx,_,_,rfl,hB.ob,T.lB_,T.nBbirths,U0,_,rfl,bi,.ref p.2,rfl,dg,q p hb⟩
theorem _gJ:_lv P base T:=by
 refine Fun.okY T._fr.F _kx fun cdv A outer s H vs Q E hr h=>?_;obtain ⟨v,x,B,rfl,hv,h⟩:=h;refine ⟨_,(_h (_s (_m _o (_4 (pv 0) T.lB_ (Um T) hr (_a (pv 1) _c)) _d (fun _ _=>rfl)))),?_⟩;obtain ⟨b,dx,k,bi,li,ti,su,rfl,hB⟩:=id hv;refine ⟨_,rfl,b,dx,_,rfl,hB.ob,rfl,_,rfl,rfl,.ref b,x,B,rfl,hv,?_⟩;rcases h with hf|⟨n,rfl,qe,q⟩
 ·exact hf.elim
 refine .inr ⟨n,rfl,qe,fun p hp=>?_⟩;obtain ⟨hm,hn⟩:=Vn hp;have hE:=hB.en p hm
 obtain ⟨n',s,d,f,m,he⟩:∃n' s d f m,p.1=.born n' s d f m:=by
  cases e:p.1 with
  |born n' s d f m=>exact ⟨n',s,d,f,m,rfl⟩
  |_=>rw [e] at hn;cases hn
 rw [he] at hE;exact ⟨p.2,_,_,_,rfl,rfl,hE,_l (j:=2) rfl,q p hp n' s d f m he⟩
theorem W9:_nN P base T:=by
 refine Fun.okY T._cs.F _n6 fun cdv A outer s H vs Q E hr h=>?_;obtain ⟨v,x,B,rfl,hv,h⟩:=h;refine ⟨_,(_h (_s (_m _o (_4 (pv 0) T.lB_ (Um T) hr (_a (pv 1) _c)) _d (fun _ _=>rfl)))),?_⟩;obtain ⟨b,dx,k,bi,li,ti,su,rfl,hB⟩:=id hv;refine ⟨_,rfl,b,dx,_,rfl,hB.ob,rfl,_,rfl,rfl,.ref b,x,B,rfl,hv,?_⟩;rcases h with hf|⟨n,rfl,qe,q⟩
 ·exact hf.elim
 refine .inr ⟨n,rfl,qe,fun p hp=>?_⟩;obtain ⟨hm,hn⟩:=Vn hp;have hE:=hB.en p hm
 obtain ⟨n',s,d,f,m,he⟩:∃n' s d f m,p.1=.born n' s d f m:=by
  cases e:p.1 with
  |born n' s d f m=>exact ⟨n',s,d,f,m,rfl⟩
  |_=>rw [e] at hn;cases hn
 rw [he] at hE;exact ⟨p.2,_,_,_,rfl,rfl,hE,_l (j:=3) rfl,q p hp n' s d f m he⟩
theorem _gV:_lC P base T:=by
 refine Fun.okY T._cX.F _m4 fun cdv A outer s H vs Q E hr h=>?_;obtain ⟨v,n,s,d,B,rfl,hv,kn,q⟩:=h;refine ⟨_,(_h (_s (_eW (YR _U (pv 1) _q (_r _)) (XU (Wb (YR _U (_4 (pv 0) T.lB_ (_gJ T) hr (_a (pv 1) _c)) (pv 2) (_r _)) (XU (YR Xs (_4 (pv 0) T.lB_ (W9 T) hr (_a (pv 1) _c)) (pv 3) (_r _)))))))),?_⟩;obtain ⟨b,dx,k,bi,li,ti,su,rfl,hB⟩:=id hv;refine ⟨_,rfl,rfl,_,rfl,?_⟩;by_cases hn:n=""
 ·have e:XN B n s d=true:=by unfold XN;rw [Qr hn];rfl
  rw [e] at q;exact _Z (by rw [Xe];exact Qr hn) q
 refine _D (by rw [Xe];exact Qn hn) ?_;have e0:XN B n s d=(decide (X8 B n=s)&&decide (_X B n<d)):=by unfold XN;rw [Qn hn];rfl
 rw [e0] at q;refine ⟨_,rfl,b,dx,_,rfl,hB.ob,rfl,_,rfl,rfl,.ref b,.str n,B,rfl,hv,.inr ⟨n,rfl,fun no=>absurd no (kn hn),fun p hp n' s' d' f m he=>?_⟩⟩;rw [J7 hp he] at q;refine ⟨_,rfl,rfl,_,rfl,?_⟩;by_cases hs:s'=s
 ·rw [Qr hs,GM] at q;refine _Z (by rw [Xe];exact Qr hs) ?_;refine ⟨_,rfl,b,dx,_,rfl,hB.ob,rfl,_,rfl,rfl,.ref b,.str n,B,rfl,hv,.inr ⟨n,rfl,fun no=>absurd no (kn hn),fun p2 hp2 n2 s2 d2 f2 m2 he2=>?_⟩⟩;rw [V2 hp2 he2] at q;exact ⟨_,rfl,_,_,rfl,rfl,q⟩
 ·rw [Qn hs,GR] at q;exact _D (by rw [Xe];exact Qn hs) q
theorem _iJ:_iR P base T:=by
 refine Fun.okY T._g3.F _fg fun cdv A outer s H vs Q E hr h=>?_;obtain ⟨v,x,B,e,rfl,hv,hx,kn,q⟩:=h
 refine ⟨_,(_i (_z (_t _U (_m _o (pv 1) _d (fun _ _=>rfl)) _q (_r _)) (_h (_s (Wb (_4 (pv 0) T.lB_ (_gV T) hr (_a (_m _o (pv 1) _d (fun _ _=>rfl)) (_a _q (_a (_m _o (pv 1) _d (fun _ _=>rfl)) _c)))) (XU (_4 (pv 0) T.lB_ (_gV T) hr (_a (_m _o (pv 1) _d (fun _ _=>rfl)) (_a _q (_a (_m _o (pv 1) _d (fun _ _=>rfl)) _c)))))))) _A)
   (_i (_B (i:=2) _fg.nd rfl (Or.inl rfl) (_Q (_gN T) hr (_a (pv 1) _c)))
   (_i (_z (PW.pt (Wn (_t _U (_J Ys (by rfl) T.n_len _8 (_a (pv 2) _c)) _d (_r _)) (Wv (_t _U (_m Ye (pv 2) _d (fun _ _=>rfl)) (_m Ye (pv 2) _d (fun _ _=>rfl)) (_r _))))) (_h (_s YT)) _A)
   (_i (_z (PW.pt (Wn (_t _U (_m _o (pv 1) _d (fun _ _=>rfl)) _q (_r _)) (Wv (_t Jk (_4 (pv 0) T.lB_ (W9 T) hr (_a (_m _o (pv 1) _d (fun _ _=>rfl)) _c)) (_4 (pv 0) T.lB_ (W9 T) hr (_a (_m _o (pv 1) _d (fun _ _=>rfl)) _c)) (_r _))))) (_h (_s YT)) _A)
   (_h (_s (_J (_bG rfl) (by rfl) T.n_all _bn (_a (XH rfl (Xc (N:=["name","entry","self"]) ["self","entry"] [none,some 1,some 0] rfl (by trivial) (by trivial) (by rfl) (by rfl) (by rfl) (by rfl) (by rfl)) (_5 (pv 2)) (fun _ _ _=>(_I (i:=0) _nK rfl (Or.inl rfl))) (fun _ _ _=>Wy) (fun _ _ _=>(YR Jk (_Q (_n2 T) hr (_a (pv 1) _c)) (_4 (pv 2) T.lB_ (W9 T) hr (_a (pv 0) _c)) (_r _)))) _c)))))))),?_⟩
 obtain ⟨b,dx,k,bi,li,ti,su,rfl,hB⟩:=id hv;obtain ⟨a,rfl,hE⟩:=id hx;by_cases hb:e.isBorn=true
 ·cases e with
  |born n s d f m =>
   have kf:f≠""->Known B f:=fun h=>kn f (by simp [Ent.named,h]);have km:m≠""->Known B m:=fun h=>kn m (by simp [Ent.named,h]);have q1:=q _ (Same.refl H);have ef:Wm B (.born n s d f m)=(XN B f "he" d&&XN B m "she" d):=rfl;rw [ef] at q1;refine ⟨_,rfl,a,_,_,_,rfl,rfl,hE,_l (j:=0) rfl,rfl,_,rfl,_Z (by trivial) ⟨_,rfl,b,dx,_,rfl,hB.ob,rfl,_,rfl,a,_,_,_,rfl,rfl,hE,_l (j:=4) rfl,_,rfl,a,_,_,_,rfl,rfl,hE,_l (j:=3) rfl,rfl,.ref b,f,"he",d,B,rfl,hv,kf,_,rfl,_2 (fun h1=>?_) (fun h1=>?_)⟩⟩
   ·rw [h1,GM] at q1;exact ⟨_,rfl,b,dx,_,rfl,hB.ob,rfl,_,rfl,a,_,_,_,rfl,rfl,hE,_l (j:=5) rfl,_,rfl,a,_,_,_,rfl,rfl,hE,_l (j:=3) rfl,rfl,.ref b,m,"she",d,B,rfl,hv,km,q1⟩
   ·rw [h1,GR] at q1;exact q1
  |_=>cases hb
 replace hb:=QP.mpr hb;rw [_aj hb] at q
 have w0:∃w:Str,(e.row.map kV)[0]?=some (.str w)∧w≠"born":=by
  cases e with
  |born=>cases hb
  |_=>exact ⟨_,rfl,by trivial⟩
 obtain ⟨w,hw,hwb⟩:=w0;refine ⟨_,rfl,a,_,_,_,rfl,rfl,hE,_l hw,rfl,_,rfl,_D (by rw [Xe];exact Qn hwb) ?_⟩;refine ⟨_,rfl,rfl,.ref a,e,rfl,hx,fun H1 D s1 nD hD=>?_⟩;dsimp only [_V];refine Yr (fun σ H2=>σ=[some (.ref b),some (.ref a),some (.ref D)]∧H2=H1∧e.same=false) (fun nx rest=>?_) (fun σ H2 hJ=>?_)
 ·cases e with
  |born=>cases hb
  |_ =>
   refine ⟨_,rfl,D,_,rfl,.inl hD,rfl,_,rfl,_Z rfl ⟨_,rfl,D,_,_,_,rfl,rfl,hD,_l (j:=0) rfl,_,rfl,D,_,_,_,rfl,rfl,hD,_l (j:=1) rfl,rfl,_,rfl,?_⟩⟩;refine _2 (fun h1=>?_) (fun h1=>rest _ _ ⟨rfl,rfl,?_⟩)
   ·have q1:=q _ s1;rw [Xe] at h1;simp only [Ent.same,h1,Bool.not_true,GR] at q1;exact q1
   ·rw [Xe] at h1;exact h1
 obtain ⟨rfl,rfl,hsame⟩:=hJ;have hv2:=hv.mono s1;have hB2:=hB.mono s1;have hE2:=s1.sqt hE;have kn2:∀n∈e.named,∀{P:Prop},_Y n B.kept=none->P:=fun n h _ no=>absurd no (kn n h);rw [hsame] at q;refine Yr (fun σ H3=>σ=[some (.ref b),some (.ref a),some (.ref D)]∧H3=H2∧e.early B=false) (fun nx rest=>?_) (fun σ H3 hJ=>?_)
 ·cases e with
  |born=>cases hb
  |taken c t d =>
   refine ⟨_,rfl,a,_,_,_,rfl,rfl,hE2,_l (j:=0) rfl,rfl,_,rfl,_Z (by trivial) ?_⟩;refine ⟨_,rfl,b,dx,_,rfl,hB2.ob,rfl,_,rfl,a,_,_,_,rfl,rfl,hE2,_l (j:=2) rfl,rfl,.ref b,.str t,B,rfl,hv2,.inr ⟨t,rfl,kn2 t (by simp [Ent.named]),fun p hp n' s' d' f m he=>?_⟩⟩;refine ⟨_,rfl,b,dx,_,rfl,hB2.ob,rfl,_,rfl,a,_,_,_,rfl,rfl,hE2,_l (j:=1) rfl,rfl,.ref b,.str c,B,rfl,hv2,.inr ⟨c,rfl,kn2 c (by simp [Ent.named]),fun p2 hp2 n2 s2 d2 f2 m2 he2=>?_⟩⟩;have e1:=V2 hp he;have e2:=V2 hp2 he2;refine ⟨_,_,rfl,rfl,_,rfl,_2 (fun h1=>?_) (fun h1=>rest _ _ ⟨rfl,rfl,?_⟩)⟩
   ·have q1:=q _ s1
    have e3:(Ent.taken c t d).early B=true:=by
     show decide (_X B c≤_X B t)=true;rw [e1,e2];exact h1
    rw [e3] at q1;exact q1
   ·show decide (_X B c≤_X B t)=false;rw [e1,e2];exact h1
  |_=>exact ⟨_,rfl,a,_,_,_,rfl,rfl,hE2,_l (j:=0) rfl,rfl,_,rfl,_D (by trivial) (_O (rest _ _ ⟨rfl,rfl,rfl⟩))⟩
 obtain ⟨rfl,rfl,hearly⟩:=hJ;rw [hearly] at q;refine ⟨_,rfl,D,rfl,⟨_,hD⟩,VE (e.named.map fun n=>V.bl (decide (_X B n≤e.day))) ?len (fun σ=>∃v,σ=[v,some (.ref a),some (.ref b)]) ⟨_,rfl⟩ (fun i H3 hi sm=>?go) (fun H3 sm=>?stop) (fun i σ H3 x H4 y hy hσ sm hx2 C hC=>?step) (fun D2 H3 nD2 sm hD2=>?fin)⟩
 case len =>
  refine small1000 ?_;rw [Qc];cases e with
  |born=>cases hb
  |_=>exact Ra rfl
 case go =>
  have hi':i<(e.named.map V.str).length:=by rw [Qc] at hi ⊢;exact hi
  exact ⟨_,_,sm.sql hD,Qu hi'⟩
 case stop=>exact ⟨_,sm.sql hD,by simp⟩
 case step =>
  obtain ⟨v,rfl⟩:=hσ;obtain ⟨rfl,hx3⟩:=hx2;have e1:=hx3 _ (sm.sql hD);rw [Qi] at e1 hy;obtain ⟨n,hn,rfl⟩:=QE.mp e1;rw [hn] at hy;obtain rfl:V.bl (decide (_X B n≤e.day))=y:=Ql hy;have hB3:=hB2.mono sm;refine ⟨_,rfl,rfl,.ref a,e,rfl,hx.mono (s1.trans sm),_,rfl,b,dx,_,rfl,hB3.ob,rfl,_,rfl,rfl,.ref b,.str n,B,rfl,hv2.mono sm,.inr ⟨n,rfl,kn2 n (Qt hn),fun p hp n' s' d' f m he=>⟨_,_,rfl,rfl,?_⟩⟩⟩;rw [V2 hp he] at hC;exact hC _ _ ⟨_,rfl⟩ (Same.refl _)
 case fin =>
  refine ⟨D2,e.named.map fun n=>decide (_X B n≤e.day),rfl,by rw [hD2,QJ];rfl,?_⟩;have q1:=q _ (s1.trans sm);rw [List.all_map];exact q1
theorem _kt:_lN P base T:=by
 refine Fun.okY T._gU.F _ei fun cdv A outer s H vs Q E hr h=>?_;obtain ⟨v,x,B,e,rfl,hv,hx,hok,no,q⟩:=h
 refine ⟨_,(_i (_z (Xo (YG (_Q (_k6 T) hr (_a (pv 1) _c)))) (_h XI) _A)
   (_i (_z (_t Jk (_J _iX (by rfl) T.n_len _8 (_a (YD (pv 0) rfl) _c)) (We (v:=.int 400) (by rfl) T.m_MOST_ENTRIES ⟨_,rfl⟩) (_r _)) (_h XI) _A)
   (_i (_z (PW.pt (Wn (_t _U (_m _o (pv 1) _d (fun _ _=>rfl)) _q (_r _)) (Wv (_t Jk (_J JZ (by rfl) T.n_len _8 (_a (YD (pv 0) rfl) _c)) (We (v:=.int 60) (by rfl) T.m_MOST_PEOPLE ⟨_,rfl⟩) (_r _))))) (_h XI) _A)
   (_i (_9 QD rfl (_5 (_Q (_gN T) hr (_a (pv 1) _c))) (_I (i:=2) _ei.nd rfl (Or.inl rfl))
    (_h (Yh (_4 (pv 0) T.lB_ (Um T) hr (_a (pv 2) _c)))))
   (_i (_z (Vo (J2 (_C hr) (_Q (_gc T) hr (_a (pv 1) _c)) (YD (pv 0) rfl))) (_h XI) _A)
   (_h (_z (Xo (YG (_4 (pv 0) T.lB_ (_iJ T) hr (_a (pv 1) _c)))) (_h XI) _A))))))),?_⟩
 obtain ⟨b,dx,k,bi,li,ti,su,rfl,hB⟩:=id hv;obtain ⟨h400,h60,kn',h1,hf⟩:=_eN no;obtain ⟨a,rfl,hE⟩:=id hx;refine ⟨_,rfl,rfl,.ref a,rfl,.inr ⟨e.row.map UT,hok.tv hE,e.row_len,fun H1 s1=>⟨_,rfl,?_⟩⟩⟩;rw [hok.en];have hB1:=hB.mono s1;have hE1:=s1.sqt hE;have hlen:B.keptD.length=B.kept.length:=Qc ..;refine _O ⟨_,rfl,b,T.cB,dx,_,_,rfl,hB1.ob,T.lB_,T.nBkept,_b6,k,_,rfl,hB1.ke,_,_,rfl,rfl,_,rfl,_D (Qn (by rw [hlen];omega)) ?_⟩;dsimp only [_aM];refine Yr (fun σ H2=>σ=[some (.ref b),some (.ref a),none]∧H2=H1) (fun nx rest=>?_) (fun σ H2 hJ=>?_)
 ·cases e with
  |born n s d f m=>exact ⟨_,rfl,a,_,_,_,rfl,rfl,hE1,_l (j:=0) rfl,rfl,_,rfl,_Z (by trivial) ⟨_,rfl,b,T.cB,dx,_,_,rfl,hB1.ob,T.lB_,T.nBbirths,U0,bi,_,rfl,hB1.bi,_,_,rfl,rfl,_,rfl,_D (Qn (by have:=h60 rfl;omega)) (rest _ _ ⟨rfl,rfl⟩)⟩⟩
  |_=>exact ⟨_,rfl,a,_,_,_,rfl,rfl,hE1,_l (j:=0) rfl,rfl,_,rfl,_D (by trivial) (_O (rest _ _ ⟨rfl,rfl⟩))⟩
 obtain ⟨rfl,rfl⟩:=hJ;refine ⟨_,rfl,rfl,.ref a,e,rfl,hx.mono s1,fun H2 D s2 nD hD=>⟨D,rfl,⟨_,hD⟩,YL (xs:=e.named.map V.str) (fun i σ H3=>(∃v,σ=[some (.ref b),some (.ref a),v])∧Same H2 H3) ⟨⟨_,rfl⟩,Same.refl _⟩ ?sq ?turn ?done⟩⟩
 case sq =>
  rintro i σ H3 hi ⟨_,s3⟩;exact s3.sql hD
 case turn =>
  rintro i x σ H3 hx3 ⟨⟨v,rfl⟩,s3⟩;rw [Qi] at hx3;obtain ⟨n,hn,rfl⟩:=QE.mp hx3;have sa:=s1.trans (s2.trans s3);have hB3:=hB.mono sa;exact ⟨_,rfl,b,dx,_,rfl,hB3.ob,rfl,_,rfl,rfl,.ref b,.str n,B,rfl,hv.mono sa,.inr ⟨n,rfl,fun no=>absurd no (kn' n (Qt hn)),fun p hp=>⟨⟨_,rfl⟩,s3⟩⟩⟩
 case done =>
  rintro σ H3 ⟨⟨v,rfl⟩,s3⟩;have sa:=s1.trans (s2.trans s3);refine ⟨_,rfl,rfl,.ref a,e,rfl,hx.mono sa,fun H4 p s4 np hp=>?_⟩;have sb:=sa.trans s4;have hB4:=hB.mono sb;have dg:=DGet.t hB4.ke hp;rw [h1] at dg;refine ⟨_,rfl,b,T.cB,dx,_,_,rfl,hB4.ob,T.lB_,T.nBkept,_b6,k,_,rfl,dg,_,rfl,_O ?_⟩;refine ⟨_,rfl,b,dx,_,rfl,hB4.ob,rfl,_,rfl,rfl,.ref b,.ref a,B,e,rfl,hv.mono sb,hx.mono sb,kn',fun H5 s5=>⟨_,rfl,?_⟩⟩;rw [hf];exact _O (q _ (sb.trans s5))
theorem Vs: _id P base T:=by
 refine Fun.okY T._gO.F _hR fun cdv A outer s H vs Q E hr h=>?_;obtain ⟨b,dx,k,bi,li,ti,su,B,l,n,m,rfl,hB,hl,hz,q⟩:=h;refine ⟨_,(_h (YU (_C hr) (YD (pv 0) rfl) (_3 (_a (pv 1) (_a (pv 2) _c))) (_J (_iy K) (by rfl) T.n_sorted WQ (_a (_v _fv (Jj (_C hr) (YD (pv 0) rfl) (_3 (_a (pv 1) (_a (pv 2) _c))) (Yb _c) ⟨rfl,rfl,rfl,rfl⟩) (Yb (_a (pv 3) _c))) _c)) rfl)),?_⟩;refine ⟨_,rfl,b,T.cB,dx,_,_,rfl,hB.ob,T.lB_,T.nBlinks,J6,li,rfl,.inr ⟨_,.inl hB.li⟩,_,rfl,_,rfl,few rfl,fun t nt=>⟨few rfl,fun z nz=>?_⟩⟩;have s1:=_j (o:=.tup [.str l,.str n]) nt;have s2:=_j (o:=.lst []) nz;have s3:=s1.trans s2;have hz0:(_b (_b H t (.tup [.str l,.str n])) z (.lst [])) z=some (.lst []):=_f;have dg:=DGet.t (k:=_x (l,n)) (s3 _ _ hB.li) (s2 _ _ (_f (o:=.tup [.str l,.str n])));generalize _b (_b H t (.tup [.str l,.str n])) z (.lst [])=H2 at *;rw [show B.linksD=B.links.map fun q=>(_x q.1,V.ref q.2.1) from rfl,Vq] at dg
 have rest:∀(D:Addr) (H3:Hp),Same H H3->H D=none->H3 D=some (.lst ((_w (Yx B l n++[m])).map V.str))->_c3 K (XJ 0) "links" (L2.start ["self","letter","begin","end"] [.ref b,.str l,.str n,.str m]) H3 fun x H4=>(_cV (WI (XJ 1) (WI (XJ 2) Uv))) (L2.start ["self","letter","begin","end"] [.ref b,.str l,.str n,.str m]) H4 fun y H5=>∃a H6,x=.ref a∧DPut H5 a y (.ref D) H6∧Q .non H6:=by
  intro D H3 sA nD0 hD;have hB3:=hB.mono sA;refine ⟨_,rfl,b,T.cB,dx,_,_,rfl,hB3.ob,T.lB_,T.nBlinks,J6,_,rfl,_,rfl,few rfl,fun t2 nt2=>?_⟩;have sB:=_j (o:=.tup [.str l,.str n]) nt2;have hB4:=hB3.mono sB;refine ⟨li,_,rfl,DPut.t (k:=_x (l,n)) hB4.li _f ?_,?_⟩
  ·rw [show B.linksD.length=B.links.length from Qc ..];exact small1000 (by omega)
  rw [show B.linksD=B.links.map fun q=>(_x q.1,V.ref q.2.1) from rfl,U9 (f:=_x) (fun _ _=>Vr) (fun p:Addr×List Str=>V.ref p.1) B.links (l,n) (D,_w (Yx B l n++[m]))];refine q _ D (hB4.links fun q hq=>?_) ((But.of [li] (sA.trans sB)).trans (But.put hB4.li (by simp))) nD0;rcases UB hq with rfl|hq
  ·exact sB _ _ hD
  ·exact hB4.ll q hq
 refine ⟨_,dg,?_⟩;cases hk:_K (l,n) B.links with
 |none =>
   have e:Yx B l n=[]:=by unfold Yx;rw [hk];rfl
   have hX:H2 z=some (.lst ((Yx B l n).map V.str)):=by rw [e];exact hz0
   refine ⟨_,rfl,few rfl,fun y ny=>⟨z,y,_,_,rfl,rfl,(_g (_R hX ny)).trans hX,_f,?len,fun p np=>⟨p,Yx B l n++[m],rfl,.of (by rw [_f,Qh];rfl),?len2,fun D zs nD perm so=>?go⟩⟩⟩
   case len=>rw [Qc];exact QS (small1000 (by show _+1≤1000;omega))
   case len2=>rw [Qx];show _+1<64;omega
   have s4:=(s3.trans (_j ny)).trans ((_j np).trans (_j (o:=.lst (zs.map V.str)) nD));have hDD:(_b (_b (_b H2 y (.lst [V.str m])) p (.lst ((Yx B l n).map V.str++[V.str m]))) D (.lst (zs.map V.str))) D=some (.lst (zs.map V.str)):=_f;rw [_aP perm so] at hDD s4 ⊢;exact rest D _ s4 (_N ((s3.trans (_j ny)).trans (_j np)) nD) hDD
 |some x =>
   have e:Yx B l n=x.2:=by unfold Yx;rw [hk];rfl
   obtain ⟨y0,hy0,ey⟩:=_aV hk;have hl2:=hB.ll y0 hy0;rw [ey] at hl2;have hX:H2 x.1=some (.lst ((Yx B l n).map V.str)):=by rw [e];exact (s3 _ _ hl2)
   refine ⟨_,rfl,few rfl,fun y ny=>⟨x.1,y,_,_,rfl,rfl,(_g (_R hX ny)).trans hX,_f,?lenb,fun p np=>⟨p,Yx B l n++[m],rfl,.of (by rw [_f,Qh];rfl),?len2b,fun D zs nD perm so=>?gob⟩⟩⟩
   case lenb=>rw [Qc];exact QS (small1000 (by show _+1≤1000;omega))
   case len2b=>rw [Qx];show _+1<64;omega
   have s4:=(s3.trans (_j ny)).trans ((_j np).trans (_j (o:=.lst (zs.map V.str)) nD));have hDD:(_b (_b (_b H2 y (.lst [V.str m])) p (.lst ((Yx B l n).map V.str++[V.str m]))) D (.lst (zs.map V.str))) D=some (.lst (zs.map V.str)):=_f;rw [_aP perm so] at hDD s4 ⊢;exact rest D _ s4 (_N ((s3.trans (_j ny)).trans (_j np)) nD) hDD
theorem _px:_j8 P base T:=by
 refine Fun.okY T._d8.F _pp fun cdv A outer s H vs Q E hr h=>?_;obtain ⟨b,dx,k,bi,li,ti,su,B0,B,n,s,d,f,m,a,rfl,hk,hb,hbi,no,hl0,hE,hB,hz,hc,q⟩:=h
 refine ⟨_,(_i (YU (_C hr) (YD (pv 0) rfl) (_m _o (pv 1) _d (fun _ _=>rfl)) (pv 1) rfl)
   (_i (_z (_t Wt (_m _o (pv 1) _d (fun _ _=>rfl)) _q (_r _)) (_i (Yh (_4 (pv 0) T.lB_ (Vs T) hr (_a _q (_a (_m _o (pv 1) _d (fun _ _=>rfl)) (_a (_m _o (pv 1) _d (fun _ _=>rfl)) _c)))))
   (_h (Yh (_4 (pv 0) T.lB_ (Vs T) hr (_a _q (_a (_m _o (pv 1) _d (fun _ _=>rfl)) (_a (_m _o (pv 1) _d (fun _ _=>rfl)) _c))))))) _A)
   (_h (_z (_t Wt (_m _o (pv 1) _d (fun _ _=>rfl)) _q (_r _)) (_i (Yh (_4 (pv 0) T.lB_ (Vs T) hr (_a _q (_a (_m _o (pv 1) _d (fun _ _=>rfl)) (_a (_m _o (pv 1) _d (fun _ _=>rfl)) _c)))))
   (_h (Yh (_4 (pv 0) T.lB_ (Vs T) hr (_a _q (_a (_m _o (pv 1) _d (fun _ _=>rfl)) (_a (_m _o (pv 1) _d (fun _ _=>rfl)) _c))))))) _A)))),?_⟩
 have hb0:_y (Bk.bornD B0) (.inr n:_k)=none:=by rw [_bi,no];rfl
 refine ⟨_,rfl,_,rfl,b,T.cB,dx,_,_,rfl,hb,T.lB_,T.nBbirths,U0,_,rfl,a,_,_,_,rfl,rfl,hE,_l (j:=1) rfl,bi,_,rfl,DPut.k (k:=.inr n) hbi (small1000 (Qj (Qj (_h5 B0) hl0) (by decide))),?_⟩;rw [VB _ hb0,←_kw B0 n s d f m a,←hk];have bt0:But [bi,li] H (_b H bi (.dK (Bk.bornD B.kept))):=But.put hbi (by simp);generalize _b H bi (.dK (Bk.bornD B.kept))=H3 at *;have hmem:(Ent.born n s d f m,a)∈B.kept:=by rw [hk];simp
 dsimp only [_aM];refine Yr (fun σ H4=>σ=[some (.ref b),some (.ref a)]∧∃ls,BkAt K T.cB H4 b dx k bi li ti su { B with links:=ls }∧(∀c,lk ls c=(if f="" then lk B.links else _0 (_0 (lk B.links) ("F",n) f) ("f",f) n) c)∧ls.length≤B.links.length+2∧But [bi,li] H H4∧Grows H B.links ls) (fun nx rest=>?_) (fun σ H4 hJ=>?_)
 ·have hE3:=hB.en _ hmem;refine ⟨_,rfl,a,_,_,_,rfl,rfl,hE3,_l (j:=4) rfl,rfl,_,rfl,?_⟩;by_cases f0:f=""
  ·refine _D (by show (!decide (V.str f=V.str ""))=false;rw [Xe,Qr f0];rfl) (rest _ _ ⟨rfl,B.links,hB,fun c=>by rw [Qb f0],by omega,bt0,Grows.refl _ _⟩)
  have ⟨ls,hls,hB4,hF⟩:∃ls,ls=B.links∧BkAt K T.cB H3 b dx k bi li ti su { B with links:=ls }∧∀c,lk ls c=lk B.links c:=⟨B.links,rfl,hB,fun c=>rfl⟩;have hz2:ls.length≤890:=by rw [hls];exact hz
  have hz3:ls.length≤B.links.length:=by rw [hls];exact Qe _
  refine _Z (by show (!decide (V.str f=V.str ""))=true;rw [Xe,Qn f0];rfl) ?_;have hE4:=hB4.en _ hmem;refine ⟨_,rfl,b,dx,_,rfl,hB4.ob,rfl,_,rfl,a,_,_,_,rfl,rfl,hE4,_l (j:=1) rfl,_,rfl,a,_,_,_,rfl,rfl,hE4,_l (j:=4) rfl,rfl,b,dx,k,bi,li,ti,su,{ B with links:=ls },"F",n,f,rfl,hB4,?p1,?p2,fun H5 D5 hB5 bt5 nD5=>?p3⟩
  case p1=>rw [Vz,hF];exact hc _
  case p2=>show ls.length≤900;omega
  have hE5:=hB5.en _ hmem;refine ⟨_,rfl,b,dx,_,rfl,hB5.ob,rfl,_,rfl,a,_,_,_,rfl,rfl,hE5,_l (j:=4) rfl,_,rfl,a,_,_,_,rfl,rfl,hE5,_l (j:=1) rfl,rfl,b,dx,k,bi,li,ti,su,_,"f",f,n,rfl,hB5,?p4,?p5,fun H6 D6 hB6 bt6 nD6=>?p6⟩
  case p4 =>
   rw [Vz];show (lk (_n ls _ (D5,_w (lk ls ("F",n)++[f]))) _).length≤61;rw [WP,Uy (show Str.ofString "f"≠Str.ofString "F" by trivial),hF];exact hc _
  case p5 =>
   have:=X0 ls ("F",n) (D5,_w (lk ls ("F",n)++[f]));show (_n ls _ (D5,_w (lk ls ("F",n)++[f]))).length≤900;omega
  refine rest _ _ ⟨rfl,_,hB6,fun c=>?_,?_,?_,((hls▸Grows.refl _ _:Grows H B.links ls).put (bt0.al _ nD5)).put (bt0.al _ (bt5.al _ nD6))⟩
  ·show lk (_n (_n ls ("F",n) (D5,_w (lk ls ("F",n)++[f]))) ("f",f) (D6,_w (lk (_n ls ("F",n) (D5,_w (lk ls ("F",n)++[f]))) ("f",f)++[n]))) c=_;rw [WP];rw [Qa f0];exact Jx (fun c=>(WP ..).trans (Jx hF ..)) ..
  ·have a1:=X0 ls ("F",n) (D5,_w (lk ls ("F",n)++[f]));have a2:=X0 (_n ls ("F",n) (D5,_w (lk ls ("F",n)++[f]))) ("f",f) (D6,_w (lk (_n ls ("F",n) (D5,_w (lk ls ("F",n)++[f]))) ("f",f)++[n]));show (_n (_n ls ("F",n) (D5,_w (lk ls ("F",n)++[f]))) ("f",f) (D6,_w (lk (_n ls ("F",n) (D5,_w (lk ls ("F",n)++[f]))) ("f",f)++[n]))).length≤_;omega
  ·exact bt0.trans ((bt5.mono (by simp)).trans (bt6.mono (by simp)))
 obtain ⟨rfl,ls,hB4,hF,hl4,bt4,gr⟩:=hJ;have hE3:=hB4.en _ hmem;refine ⟨_,rfl,a,_,_,_,rfl,rfl,hE3,_l (j:=5) rfl,rfl,_,rfl,?_⟩;by_cases m0:m=""
 ·refine _D (by show (!decide (V.str m=V.str ""))=false;rw [Xe,Qr m0];rfl) (q _ ls hB4 (fun c=>?_) (by omega) bt4 gr);unfold Xv;rw [Qb m0];exact hF c
 ·have h1:∀c:Str×Str,c.1≠"F"->c.1≠"f"->((if f="" then lk B.links else _0 (_0 (lk B.links) ("F",n) f) ("f",f) n) c).length≤61:=by
   intro c c1 c2;by_cases f0:f=""
   ·rw [Qb f0];exact hc c
   ·rw [Qa f0,Uy c2,Uy c1];exact hc c
  refine _Z (by show (!decide (V.str m=V.str ""))=true;rw [Xe,Qn m0];rfl) ?_;have hE4:=hB4.en _ hmem;refine ⟨_,rfl,b,dx,_,rfl,hB4.ob,rfl,_,rfl,a,_,_,_,rfl,rfl,hE4,_l (j:=1) rfl,_,rfl,a,_,_,_,rfl,rfl,hE4,_l (j:=5) rfl,rfl,b,dx,k,bi,li,ti,su,{ B with links:=ls },"M",n,m,rfl,hB4,?r1,?r2,fun H5 D5 hB5 bt5 nD5=>?r3⟩
  case r1=>rw [Vz,hF];exact (h1 _ (show Str.ofString "M"≠Str.ofString "F" by trivial) (show Str.ofString "M"≠Str.ofString "f" by trivial))
  case r2=>show ls.length≤900;omega
  have hE5:=hB5.en _ hmem;refine ⟨_,rfl,b,dx,_,rfl,hB5.ob,rfl,_,rfl,a,_,_,_,rfl,rfl,hE5,_l (j:=5) rfl,_,rfl,a,_,_,_,rfl,rfl,hE5,_l (j:=1) rfl,rfl,b,dx,k,bi,li,ti,su,_,"m",m,n,rfl,hB5,?r4,?r5,fun H6 D6 hB6 bt6 nD6=>?r6⟩
  case r4 =>
   rw [Vz];show (lk (_n ls _ (D5,_w (lk ls ("M",n)++[m]))) _).length≤61;rw [WP,Uy (show Str.ofString "m"≠Str.ofString "M" by trivial),hF];exact (h1 _ (show Str.ofString "m"≠Str.ofString "F" by trivial) (show Str.ofString "m"≠Str.ofString "f" by trivial))
  case r5 =>
   have:=X0 ls ("M",n) (D5,_w (lk ls ("M",n)++[m]));show (_n ls _ (D5,_w (lk ls ("M",n)++[m]))).length≤900;omega
  refine q _ _ hB6 (fun c=>?_) ?_ ?_ ((gr.put (bt4.al _ nD5)).put (bt4.al _ (bt5.al _ nD6)))
  ·show lk (_n (_n ls ("M",n) (D5,_w (lk ls ("M",n)++[m]))) ("m",m) (D6,_w (lk (_n ls ("M",n) (D5,_w (lk ls ("M",n)++[m]))) ("m",m)++[n]))) c=_;rw [WP];unfold Xv;rw [Qa m0];exact Jx (fun c=>(WP ..).trans (Jx hF ..)) ..
  ·have a1:=X0 ls ("M",n) (D5,_w (lk ls ("M",n)++[m]));have a2:=X0 (_n ls ("M",n) (D5,_w (lk ls ("M",n)++[m]))) ("m",m) (D6,_w (lk (_n ls ("M",n) (D5,_w (lk ls ("M",n)++[m]))) ("m",m)++[n]));show (_n (_n ls ("M",n) (D5,_w (lk ls ("M",n)++[m]))) ("m",m) (D6,_w (lk (_n ls ("M",n) (D5,_w (lk ls ("M",n)++[m]))) ("m",m)++[n]))).length≤_;omega
  ·exact bt4.trans ((bt5.mono (by simp)).trans (bt6.mono (by simp)))
theorem _gL:_hV P base T:=by
 refine Fun.okY T._dk.F _lc fun cdv A outer s H vs Q E hr h=>?_;obtain ⟨v,x,y,B,rfl,hv,h⟩:=h
 refine ⟨_,(_i (_z (Xo (YG (_Q (_dl T) hr (_a (pv 1) _c)))) (_h XI) _A)
   (_i (Yh (_4 (pv 0) T.lB_ (Um T) hr (_a (pv 2) _c)))
   (_h (_s (WV _ck (by rfl) T.n_list Ua (_a (Jj (_C hr) (YD (pv 0) rfl) (_3 (_a (pv 1) (_a (pv 2) _c))) (Yb _c) ⟨rfl,rfl,rfl,rfl⟩) _c)))))),?_⟩
 obtain ⟨b,dx,k,bi,li,ti,su,rfl,hB⟩:=id hv;rcases h with hf|⟨l,rfl,q1,q23⟩
 ·exact hf.elim
 refine ⟨_,rfl,rfl,.str l,rfl,.inr ⟨l,rfl,_,rfl,?_⟩⟩;cases hl:XC l with
 |false=>exact (q1 hl).elim
 |true =>
  refine _O ⟨_,rfl,b,dx,_,rfl,hB.ob,rfl,_,rfl,rfl,.ref b,y,B,rfl,hv,?_⟩;rcases q23 hl with hf|⟨n,rfl,q2,q3⟩
  ·exact hf.elim
  refine .inr ⟨n,rfl,q2,fun p hp=>?_⟩;have kn:Known B n:=by unfold Known;rw [hp];simp
  refine ⟨_,rfl,b,T.cB,dx,_,_,rfl,hB.ob,T.lB_,T.nBlinks,J6,li,rfl,.inr ⟨_,.inl hB.li⟩,_,rfl,_,rfl,few rfl,fun t nt=>⟨few rfl,fun z nz=>?_⟩⟩;have s1:=_j (o:=.tup [.str l,.str n]) nt;have s2:=_j (o:=.lst []) nz;have s3:=s1.trans s2;have dg:=DGet.t (k:=_x (l,n)) (s3 _ _ hB.li) (s2 _ _ (_f (o:=.tup [.str l,.str n])));rw [show B.linksD=B.links.map fun q=>(_x q.1,V.ref q.2.1) from rfl,Vq] at dg;refine ⟨_,dg,?_⟩;cases hk:_K (l,n) B.links with
  |none =>
   have e:Yx B l n=[]:=by unfold Yx;rw [hk];rfl
   rw [e] at q3;exact ⟨z,[],rfl,.inl (.of _f),fun D nD=>q3 kn _ D (s3.trans (_j nD)) (_N s3 nD) _f⟩
  |some x =>
   have e:Yx B l n=x.2:=by unfold Yx;rw [hk];rfl
   rw [e] at q3;obtain ⟨y,hy,ey⟩:=_aV hk;have hl2:=hB.ll y hy;rw [ey] at hl2;exact ⟨x.1,_,rfl,.inl (.of (s3 _ _ hl2)),fun D nD=>q3 kn _ D (s3.trans (_j nD)) (_N s3 nD) _f⟩
theorem _mA:_oV P base T:=by
 refine FunD.okX (k:=1) T.F_Book_stands _ca (fun vs H Q E h=>h.1) (fun cdv A outer s H vs Q E hr h=>?_);obtain ⟨-,h⟩:=h;obtain ⟨v,a,c,B,rfl,hv,ka,kc,hlen,q⟩:=h
 refine ⟨_,(_i (Yh (_4 (pv 0) T.lB_ (Um T) hr (_a (pv 1) _c)))
   (_i (Yh (_4 (pv 0) T.lB_ (Um T) hr (_a (pv 2) _c)))
   (_i (_B (i:=4) _ca.nd rfl (Or.inl rfl) (Jj (_C hr) (YD (pv 0) rfl) (_Q (_cY T) hr (_a (pv 1) (_a (pv 2) _c))) Xl ⟨rfl,rfl,rfl,rfl⟩))
   (_i (_ar (V8 (i:=5) rfl  _ca.nd rfl (Or.inl rfl) (Xc (N:=["tied_on","day"]) ["day"] [none,some 3] rfl (by trivial) (by trivial) (by rfl) (by rfl) (by rfl) (by rfl) (by rfl)) (_ap (pv 4)) (fun _ _ _=>(_I (i:=0) _m8 rfl (Or.inl rfl))) (fun _ _ _=>(Wr (PW.pt (Xb (_t _lE (pv 1) JQ (_r _)) (Xk (_t _bD (pv 0) (pv 1) (_r _))))))) (fun _ _ _=>(pv 0))))
   (_h (_s (Wb (YR Xm (_J Ys (by rfl) T.n_len _8 (_a (pv 5) _c)) _d (_r _)) (XU (YR _U (Yk (_C hr) (pv 4) (_J (_hq K rfl) (by rfl) T.n_max Jf (_a (pv 5) _c)) (fun _ _=>rfl)) _q (_r _)))))))))),?_⟩
 obtain ⟨b,dx,k,bi,li,ti,su,rfl,hB⟩:=id hv;refine ⟨_,rfl,b,dx,_,rfl,hB.ob,rfl,_,rfl,rfl,.ref b,.str a,B,rfl,hv,.inr ⟨a,rfl,fun no=>absurd no ka,fun p1 hp1=>?_⟩⟩;refine ⟨_,rfl,b,dx,_,rfl,hB.ob,rfl,_,rfl,rfl,.ref b,.str c,B,rfl,hv,.inr ⟨c,rfl,fun no=>absurd no kc,fun p2 hp2=>?_⟩⟩;dsimp only;refine Yr (fun σ' H'=>∃d,σ'=[some (.ref b),some (.str a),some (.str c),some .non,some (.ref d),none]∧Same H H'∧H' d=some (.dK (YS (Yz B (_e a c))))) (fun nx hnx=>?_) ?_
 ·refine ⟨_,rfl,b,T.cB,dx,_,_,rfl,hB.ob,T.lB_,T.nBties,_cy,ti,rfl,.inr ⟨_,.inl hB.ti⟩,_,rfl,_,rfl,rfl,a,c,rfl,fun H1 t s1 nt ht=>fun z nz=>?_⟩;have s2:=_j (o:=.dK []) nz;have s3:=s1.trans s2;have dg:=DGet.t (k:=_x (_e a c)) (s3 _ _ hB.ti) (s2 _ _ ht);rw [show B.tiesD=B.ties.map fun q=>(_x q.1,V.ref q.2.1) from rfl,_as (f:=_x) (fun _ _=>Vr) (fun p:Addr×List (Int×Str)=>V.ref p.1)] at dg;refine ⟨_,dg,?_⟩;cases hk:_F (_e a c) B.ties with
  |none =>
   refine hnx _ _ ⟨z,rfl,s3,?_⟩;have e:Yz B (_e a c)=[]:=by unfold Yz;rw [hk];rfl
   rw [e];exact _f
  |some x =>
   refine hnx _ _ ⟨x.1,rfl,s3,?_⟩;have e:Yz B (_e a c)=x.2:=by unfold Yz;rw [hk];rfl
   rw [e];exact s3 _ _ (hB.tt _ (Vj hk))
 rintro σ' H2 ⟨d,rfl,s2,hd⟩;have est:_aL B a c=YK (Yz B (_e a c)):=rfl;rw [est] at q;generalize Yz B (_e a c)=l at *;have llen:(YS l).length=l.length:=Qc ..;refine ⟨d,YS l,hd,_,rfl,d,YS l,rfl,hd,fun o=>Wq (l.map fun r=>some (V.int r.1)) (small1000 (by rw [Qc];omega)) (fun σ=>∃w,σ=[w,some .non]) ⟨_,rfl⟩ (fun i H3 hi sm=>?go) (fun H3 sm=>?stop) (fun i σ H3 x H4 y hy hσ sm hx C hC=>?step) (fun D H3 nD sm hD=>?fin)⟩
 case go=>exact ⟨sm _ _ _f,by rw [llen];rw [Qc] at hi;exact hi⟩
 case stop=>exact ⟨sm _ _ _f,by rw [llen,Qc];exact Qe _⟩
 case step =>
  obtain ⟨w,rfl⟩:=hσ;obtain ⟨rfl,hx2⟩:=hx;rw [Qi] at hy;obtain ⟨r,hr2,rfl⟩:=QE.mp hy
  have ex:x=.int r.1:=by
   unfold YS at hx2;rw [Qi,hr2] at hx2;exact (Ql hx2).symm
  subst ex;refine ⟨_,rfl,rfl,_,rfl,_Z (by rfl) (_1 ⟨_,rfl,hC _ _ ⟨_,rfl⟩ (Same.refl _)⟩)⟩
 case fin =>
  have ef:(l.map fun r=>some (V.int r.1)).filterMap id=(l.map (·.1)).map V.int:=by
   rw [GX,QJ];exact List.filterMap_eq_map▸rfl
  rw [ef] at hD;refine ⟨o,sm _ _ _f,?_⟩;have nDd:D≠d:=fun e=>by subst e;rw [_f] at nD;cases nD
  have hD4:(_b H3 d (.dK (YS l))) D=some (.lst ((l.map (·.1)).map V.int)):=(_g nDd).trans hD;have hd4:(_b H3 d (.dK (YS l))) d=some (.dK (YS l)):=_f
  have s4:Same H2 (_b H3 d (.dK (YS l))):=fun x u e=>by
   by_cases xd:x=d
   ·subst xd;rw [hd] at e;cases e;exact hd4
   ·rw [_g xd];exact sm _ _ ((_g xd).trans e)
  generalize _b H3 d (.dK (YS l))=H5 at *;refine ⟨_,rfl,D,_,rfl,.inl (.of hD4),_,_,rfl,rfl,_,rfl,?_⟩;rw [Qc,Qc];cases l with
  |nil=>exact _O (q _ (s2.trans s4))
  |cons r0 l0 =>
   refine _Z (Qr (by rw [QH];omega)) ⟨_,rfl,_,rfl,D,(r0::l0).map (·.1),rfl,.of hD4,by simp,fun m hm hx=>?_⟩;obtain ⟨x,ex⟩:=_jv hm;have dg:=DGet.k (k:=.inl m) hd4;rw [show YS (r0::l0)=(r0::l0).map fun q=>((.inl q.1:_k),V.str q.2) from rfl,_as (f:=(Sum.inl:Int->_k)) _c0 V.str,ex] at dg;have q2:=q _ (s2.trans s4);rw [_e2 hm hx ex] at q2;refine ⟨d,.str x,rfl,dg,rfl,?_⟩;rw [Xe];exact q2
theorem _lY:_ko P base T:=by
 refine Fun.okY T._ek.F _au fun cdv A outer s H vs Q E hr h=>?_;obtain ⟨b,dx,k,bi,li,ti,su,B,a,kd,p1,p2,d,rfl,hE,hB,k1,k2,nd,tl,dl,ll,lf,q⟩:=h
 refine ⟨_,(_i (_B (i:=2) _au.nd rfl (Or.inl rfl) (Jh (_C hr) (YD (pv 0) rfl) (_Q (_cY T) hr (_a (_m _o (pv 1) _d (fun _ _=>rfl)) (_a (_m _o (pv 1) _d (fun _ _=>rfl)) _c))) Xl ⟨rfl,rfl,rfl,rfl⟩))
   (_i (YU (_C hr) (pv 2) (_m _o (pv 1) _d (fun _ _=>rfl)) (_m _o (pv 1) _d (fun _ _=>rfl)) rfl)
   (_h (_9 QD rfl (_al (_3 (_a (_3 (_a (_m _o (pv 1) _d (fun _ _=>rfl)) (_a (_m _o (pv 1) _d (fun _ _=>rfl)) _c))) (_a (_3 (_a (_m _o (pv 1) _d (fun _ _=>rfl)) (_a (_m _o (pv 1) _d (fun _ _=>rfl)) _c))) _c)))) (VR rfl (YN (_I (i:=3) _au.nd rfl (Or.inl rfl)) (YN (_I (i:=4) _au.nd rfl (Or.inr rfl)) Wi)))
    (_i (YU (_C hr) (YD (pv 0) rfl) (_3 (_a _q (_a (pv 3) _c))) (XH rfl (Xc (N:=["name","end"]) ["end"] [none,some 4] rfl (by trivial) (by trivial) (by rfl) (by rfl) (by rfl) (by rfl) (by rfl)) (_5 (_4 (pv 0) T.lB_ (_gL T) hr (_a _q (_a (pv 3) _c)))) (fun _ _ _=>(_I (i:=0) _il rfl (Or.inl rfl))) (fun _ _ _=>(Wr (_t Wt (pv 0) (pv 1) (_r _)))) (fun _ _ _=>(pv 0))) rfl)
   (_h (_z (YG (U8 (pv 0) T.lB_ T.me_Book_stands (_mA T) (hr.mono (by decide)) T.b_Book_stands (.cons (show RelV V.non Value.none from rfl) .nil) Xn (_a (pv 3) (_a (pv 4) _c)))) (_h (Yh (_4 (pv 0) T.lB_ (Vs T) hr (_a _q (_a (pv 3) (_a (pv 4) _c)))))) _A))))))),?_⟩
 refine Yr (fun σ' H'=>∃y ts,σ'=[some (.ref b),some (.ref a),some (.ref y),none,none]∧BkAt K T.cB H' b dx k bi li ti su { B with ties:=ts }∧(ts.map (·.1)).Nodup∧ts.length≤B.ties.length+1∧_F (_e p1 p2) ts=some (y,Yz B (_e p1 p2))∧(∀c,Y1 ts c=Yz B c)∧But [li,ti,y] H H'∧(H y=none∨y∈B.ties.map (·.2.1))∧GrowsT H B.ties ts∧SqT K H' a [.str kd,.str p1,.str p2,.int d]) (fun nx hnx=>?_) ?_
 ·refine ⟨_,rfl,b,T.cB,dx,_,_,rfl,hB.ob,T.lB_,T.nBties,_cy,ti,rfl,.inr ⟨_,.inl hB.ti⟩,_,rfl,a,_,_,_,rfl,rfl,hE,_l (j:=1) rfl,_,rfl,a,_,_,_,rfl,rfl,hE,_l (j:=2) rfl,rfl,p1,p2,rfl,fun H1 t s1 nt ht=>fun z nz=>?_⟩;have s2:=_j (o:=.dK []) nz;have s3:=s1.trans s2;have hB1:=hB.mono s1;have hB3:=hB.mono s3;have hlen:B.tiesD.length=B.ties.length:=Qc ..;have hval:_y B.tiesD (_x (_e p1 p2))=(_F (_e p1 p2) B.ties).map fun p=>V.ref p.1:=_as (f:=_x) (fun _ _=>Vr) (fun p:Addr×List (Int×Str)=>V.ref p.1) _ _;refine ⟨_,_x (_e p1 p2),t,hB3.ti,rfl,s2 _ _ ht,by rw [hlen];exact small1000 (by omega),fun v hv=>?_,fun hn=>?_⟩
  ·rw [hval] at hv;obtain ⟨x,hk,rfl⟩:=QE.mp hv;have e:Yz B (_e p1 p2)=x.2:=by unfold Yz;rw [hk];rfl
   exact hnx _ _ ⟨x.1,B.ties,rfl,hB3,nd,by omega,by rw [hk,e],fun c=>rfl,But.of _ s3,.inr (Qf.mpr ⟨_,Vj hk,rfl⟩),GrowsT.refl _ _,s3.sqt hE⟩
  ·rw [hval] at hn;have hk:_F (_e p1 p2) B.ties=none:=by simpa using hn
   have e:Yz B (_e p1 p2)=[]:=by unfold Yz;rw [hk];rfl
   have zn:∀{x:Addr} {o:HO},H1 x=some o->x≠z:=fun h=>_R h nz;refine hnx _ _ ⟨z,B.ties++[(_e p1 p2,z,[])],rfl,hB3.newTie _f ⟨(zn hB1.bi).symm,fun q hq=>zn (hB1.tt q hq)⟩ _,?_,by rw [Qx];exact Qe _,?_,fun c=>_jE _ _ _ _ hk,?_,.inl (_N s1 nz),(fun a ha=>by rw [Qh] at ha;exact (Qm.mp ha).imp id (fun ha=>by rw [show a=z by simpa using ha];exact _N s1 nz)),?_⟩
   ·rw [Qh,QV];refine ⟨nd,by simp,fun x hx w hw ex=>?_⟩;have ew:w=_e p1 p2:=by simpa using hw
    subst ew ex;obtain ⟨p,hp,ep⟩:=Qf.mp hx;have:=JV hk;rw [Nq] at this;exact absurd (Qr ep) (this p hp)
   ·rw [JW,hk,e];unfold _F;rw [Qb rfl];rfl
   ·exact (But.of _ s3).trans (But.put hB3.ti (by simp))
   ·exact YH (s3.sqt hE) hB3.ti (fun _ z=>by cases z) (fun _ _ z=>by cases z)
 rintro σ' H1 ⟨y,ts,rfl,hB1,WO,tl1,hf,htf,bt1,hy0,grT,hE1⟩;generalize hl:Yz B (_e p1 p2)=l at *;have hy:H1 y=some (.dK (YS l)):=hB1.tt _ (Vj hf);have hB2:=hB1.putTie WO hf (_n l d kd);obtain ⟨pa1,pa2⟩:=_gm (l':=_n l d kd) WO hf;have grT2:GrowsT H B.ties (_n ts (_e p1 p2) (y,_n l d kd)):=fun a ha=>grT a (by rw [←pa1];exact ha)
 have tl2:(_n ts (_e p1 p2) (y,_n l d kd)).length=ts.length:=by
  have:=Qk List.length pa1
  rwa [Qc,Qc] at this
 have htf2:∀c,Y1 (_n ts (_e p1 p2) (y,_n l d kd)) c=if c=_e p1 p2 then _n l d kd else Yz B c:=fun c=>by rw [_o1,htf]
 have VT:((_n ts (_e p1 p2) (y,_n l d kd)).map (·.1)).Nodup:=by rw [pa2];exact WO
 have hE2:SqT K (_b H1 y (.dK (YS (_n l d kd)))) a [.str kd,.str p1,.str p2,.int d]:=YH hE1 hy (fun _ z=>by cases z) (fun _ _ z=>by cases z);have bt2:But [li,ti,y] H (_b H1 y (.dK (YS (_n l d kd)))):=bt1.trans (But.put hy (by simp));have dlen:(YS l).length=l.length:=Qc ..;refine ⟨_,rfl,a,_,_,_,rfl,rfl,hE1,_l (j:=0) rfl,_,rfl,_,rfl,a,_,_,_,rfl,rfl,hE1,_l (j:=3) rfl,y,_,rfl,DPut.k (k:=.inl d) hy (by rw [dlen];exact small1000 (by omega)),?_⟩;rw [show Yj (YS l) (.inl d) (.str kd)=YS (_n l d kd) from U9 (f:=(Sum.inl:Int->_k)) _c0 V.str l d kd];generalize _b H1 y (.dK (YS (_n l d kd)))=H2 at *;generalize _n ts (_e p1 p2) (y,_n l d kd)=ts2 at *;generalize hst:YK (_n l d kd)=st at *;have ldl:(_n l d kd).length≤801:=by have:=X0 l d kd;omega
 refine ⟨_,rfl,a,_,_,_,rfl,rfl,hE2,_l (j:=1) rfl,_,rfl,a,_,_,_,rfl,rfl,hE2,_l (j:=2) rfl,few rfl,fun t1 nt1=>?_⟩;have s1:=_j (o:=.tup [.str p1,.str p2]) nt1;refine ⟨_,rfl,a,_,_,_,rfl,rfl,(s1.sqt hE2),_l (j:=2) rfl,_,rfl,a,_,_,_,rfl,rfl,(s1.sqt hE2),_l (j:=1) rfl,few rfl,fun t2 nt2=>?_⟩;have s2:=_j (o:=.tup [.str p2,.str p1]) nt2;refine ⟨few rfl,fun t3 nt3=>?_⟩;have s3:=_j (o:=.tup [.ref t1,.ref t2]) nt3;have s123:=s1.trans (s2.trans s3);refine ⟨t3,rfl,⟨_,.of _f⟩,_bS (xs:=[.ref t1,.ref t2]) (fun i σ H5=>∃ls v3 v4,σ=[some (.ref b),some (.ref a),some (.ref y),v3,v4]∧BkAt K T.cB H5 b dx k bi li ti su { B with links:=ls,ties:=ts2 }∧(∀c,lk ls c=(match i with|0=>lk B.links|1=>_L (lk B.links) st p1 p2|_=>_L (_L (lk B.links) st p1 p2) st p2 p1) c)∧ls.length≤B.links.length+2*i∧But [li,ti,y] H H5∧SqT K H5 t1 [.str p1,.str p2]∧SqT K H5 t2 [.str p2,.str p1]∧SqT K H5 t3 [.ref t1,.ref t2]∧Grows H B.links ls) ?start ?list ?turn ?done⟩
 case start=>exact ⟨B.links,none,none,rfl,hB2.mono s123,fun c=>rfl,by omega,bt2.trans (But.of _ s123),(s2.trans s3).sqt (.of _f),s3.sqt (.of _f),.of _f,Grows.refl _ _⟩
 case list =>
  rintro i σ H5 _ ⟨ls,v3,v4,rfl,_,_,_,_,_,_,h3,_⟩;exact h3
 case done =>
  rintro σ H5 ⟨ls,v3,v4,rfl,hB5,hlk,hls,bt5,_,_,_,gr⟩;exact q H5 ls ts2 y hB5 VT (by omega) htf2 hlk (by simp at hls;omega) bt5 hy0 grT2 gr
 case turn =>
  rintro i x σ H5 hx ⟨ls,v3,v4,rfl,hB5,hlk,hls,bt5,h1,h2,h3,gr⟩
  have pick:∃tq u w,x=.ref tq∧SqT K H5 tq [.str u,.str w]∧Known B u∧Known B w∧_e u w=_e p1 p2∧i≤1∧∀F:Str×Str->List Str,(∀c,F c=_L (match i with|0=>lk B.links|1=>_L (lk B.links) st p1 p2|_=>_L (_L (lk B.links) st p1 p2) st p2 p1) st u w c)->∀c,F c=(match i+1 with|0=>lk B.links|1=>_L (lk B.links) st p1 p2|_=>_L (_L (lk B.links) st p1 p2) st p2 p1) c:=by
   match i,hx with
   |0,hx=>exact ⟨t1,p1,p2,(Ql hx).symm,h1,k1,k2,rfl,by omega,fun F hF=>hF⟩
   |1,hx=>exact ⟨t2,p2,p1,(Ql hx).symm,h2,k2,k1,_bd p2 p1,by omega,fun F hF=>hF⟩
  obtain ⟨tq,u,w,rfl,hq,ku,kw,hpr,i1,hG⟩:=pick
  have gl:∀c,((match i with|0=>lk B.links|1=>_L (lk B.links) st p1 p2|_=>_L (_L (lk B.links) st p1 p2) st p2 p1) c).length≤61:=by
   intro c
   match i,i1 with
   |0,_=>have:=lf c;exact NU this
   |1,_=>exact Qj (_bB ..) (by have:=lf c;omega)
  generalize (match i with|0=>lk B.links|1=>_L (lk B.links) st p1 p2|_=>_L (_L (lk B.links) st p1 p2) st p2 p1)=G at *;refine ⟨tq,_,rfl,hq,rfl,_,_,rfl,_,_,rfl,rfl,?_⟩;dsimp only [_V];refine Yr (fun σ' H'=>∃D2,σ'=[some (.ref b),some (.ref a),some (.ref y),some (.str u),some (.str w)]∧BkAt K T.cB H' b dx k bi li ti su { B with links:=_n ls ("S",u) (D2,(G ("S",u)).filter fun n=>decide (n≠w)),ties:=ts2 }∧But [li,ti,y] H H'∧SqT K H' t1 [.str p1,.str p2]∧SqT K H' t2 [.str p2,.str p1]∧SqT K H' t3 [.ref t1,.ref t2]∧H D2=none) (fun nx hnx=>?_) ?_
  ·refine ⟨_,rfl,b,dx,_,rfl,hB5.ob,rfl,_,rfl,rfl,.ref b,.str "S",.str u,_,rfl,⟨b,dx,k,bi,li,ti,su,rfl,hB5⟩,.inr ⟨"S",rfl,fun h=>absurd h (by trivial),fun _=>.inr ⟨u,rfl,fun no=>absurd no ku,fun _ H6 D s6 nD hD0=>?_⟩⟩⟩;have eL:Yx { B with links:=ls,ties:=ts2 } "S" u=G ("S",u):=hlk ("S",u);rw [eL] at hD0;have hD:SqL K H6 D ((G ("S",u)).map V.str):=.of hD0;refine ⟨D,rfl,⟨_,hD⟩,Wq ((G ("S",u)).map (Vv w)) (small1000 (by rw [Qc];have:=gl ("S",u);omega)) (fun σ=>∃v,σ=[v,some (.str w)]) ⟨_,rfl⟩ (fun j H7 hj sm=>?go) (fun H7 sm=>?stop) (fun j σ H7 x H8 o ho hσ sm hx C hC=>?step) (fun D2 H7 nD2 sm hD2=>?fin)⟩
   case go=>exact ⟨_,_,sm.sql hD,Qu (by rw [Qc] at hj ⊢;exact hj)⟩
   case stop=>exact ⟨_,sm.sql hD,by rw [Qc,Qc];exact Qe _⟩
   case step =>
    obtain ⟨v,rfl⟩:=hσ;obtain ⟨rfl,hx2⟩:=hx;have e1:=hx2 _ (sm.sql hD);rw [Qi] at e1 ho;obtain ⟨n,hn,rfl⟩:=QE.mp e1;rw [hn] at ho;obtain rfl:Vv w n=o:=Ql ho;refine ⟨_,rfl,_,rfl,rfl,_,rfl,?_⟩;by_cases hz0:n=w
    ·have e2:Vv w n=none:=Qb hz0;rw [e2] at hC;exact _D (by show (!decide (V.str n=V.str w))=false;rw [Xe,Qr hz0];rfl) (hC _ _ ⟨_,rfl⟩ (Same.refl _))
    ·have e2:Vv w n=some (.str n):=Qa hz0;rw [e2] at hC;exact _Z (by show (!decide (V.str n=V.str w))=true;rw [Xe,Qn hz0];rfl) ⟨_,rfl,hC _ _ ⟨_,rfl⟩ (Same.refl _)⟩
   case fin =>
    rw [_eF] at hD2;have s67:=s6.trans sm;have hB7:=hB5.mono s67;refine ⟨_,rfl,b,T.cB,dx,_,_,rfl,hB7.ob,T.lB_,T.nBlinks,J6,_,rfl,few rfl,fun t nt=>?_⟩;have s8:=_j (o:=.tup [.str "S",.str u]) nt;have hB8:=hB7.mono s8;have llen:({ B with links:=ls,ties:=ts2 }:Bk).linksD.length=ls.length:=Qc ..;refine ⟨li,_,rfl,DPut.t (k:=_x ("S",u)) hB8.li _f (by rw [llen];exact small1000 (by omega)),?_⟩;rw [show ({ B with links:=ls,ties:=ts2 }:Bk).linksD=ls.map fun q=>(_x q.1,V.ref q.2.1) from rfl,U9 (f:=_x) (fun _ _=>Vr) (fun p:Addr×List Str=>V.ref p.1) ls ("S",u) (D2,(G ("S",u)).filter fun n=>decide (n≠w))];have li8:=hB8.li;have kp:∀{c:Addr} {xs:List V},SqT K H5 c xs->SqT K (_b (_b H7 t (.tup [.str "S",.str u])) li (.dT ((_n ls ("S",u) (D2,(G ("S",u)).filter fun n=>decide (n≠w))).map fun q=>(_x q.1,V.ref q.2.1)))) c xs:=fun h=>YH ((s67.trans s8).sqt h) li8 (fun _ z=>by cases z) (fun _ _ z=>by cases z);refine hnx _ _ ⟨D2,rfl,hB8.links fun q hq=>?_,bt5.trans ((But.of _ (s67.trans s8)).trans (But.put li8 (by simp))),kp h1,kp h2,kp h3,bt5.al _ (_N s6 nD2)⟩;rcases UB hq with rfl|hq
    ·exact s8 _ _ hD2
    ·exact hB8.ll q hq
  ·rintro σ' H6 ⟨D2,rfl,hB6,bt6,g1,g2,g3,n2⟩;have pl:=X0 ls ("S",u) (D2,(G ("S",u)).filter fun n=>decide (n≠w));have lk6:∀c,lk (_n ls ("S",u) (D2,(G ("S",u)).filter fun n=>decide (n≠w))) c=if c=(("S",u):Str×Str) then (G ("S",u)).filter (fun n=>decide (n≠w)) else G c:=fun c=>by rw [_g5,hlk]
   have et:Yz { B with links:=_n ls ("S",u) (D2,(G ("S",u)).filter fun n=>decide (n≠w)),ties:=ts2 } (_e u w)=_n l d kd:=by
    rw [_nz];show Y1 ts2 (_e u w)=_;rw [htf2,Qb hpr]
   have es:_aL { B with links:=_n ls ("S",u) (D2,(G ("S",u)).filter fun n=>decide (n≠w)),ties:=ts2 } u w=st:=by
    unfold _aL;rw [et,hst]
   refine ⟨_,rfl,b,dx,_,rfl,hB6.ob,rfl,_,rfl,_,rfl,rfl,.ref b,u,w,_,rfl,⟨b,dx,k,bi,li,ti,su,rfl,hB6⟩,ku,kw,by rw [et];omega,fun H7 s7=>⟨_,rfl,?_⟩⟩;rw [es];have hB7:=hB6.mono s7;have bt7:=bt6.trans (But.of _ s7);refine _2 (fun hs=>?_) (fun hs=>?_)
   ·have la:Yx { B with links:=_n ls ("S",u) (D2,(G ("S",u)).filter fun n=>decide (n≠w)),ties:=ts2 } "S" u=(G ("S",u)).filter fun n=>decide (n≠w):=by
     rw [Vz];show lk (_n ls ("S",u) _) ("S",u)=_;rw [lk6,Qb rfl]
    refine ⟨_,rfl,b,dx,_,rfl,hB7.ob,rfl,_,rfl,_,rfl,rfl,b,dx,k,bi,li,ti,su,_,"S",u,w,rfl,hB7,?_,?_,fun H8 D8 hB8 bt8 nD8=>?_⟩
    ·rw [la];exact Qj (NQ ..) (gl _)
    ·show (_n ls ("S",u) _).length≤900;omega
    ·have li7:=hB7.li
     have kp:∀{c:Addr} {xs:List V},SqT K H7 c xs->SqT K H8 c xs:=fun {c xs} h=>by
      rcases h with (h|⟨o,h⟩)|h
      ·exact .inl (.inl (bt8.eq _ _ (fun z=>by rw [show c=li by simpa using z,li7] at h;cases h) h))
      ·exact .inl (.inr ⟨o,bt8.eq _ _ (fun z=>by rw [show c=li by simpa using z,li7] at h;cases h) h⟩)
      ·exact .inr h
     rw [la] at hB8;refine ⟨_,_,_,rfl,hB8,hG _ fun c=>?_,?_,bt7.trans (bt8.mono (by simp)),kp (s7.sqt g1),kp (s7.sqt g2),kp (s7.sqt g3),(gr.put n2).put (bt7.al _ nD8)⟩
     ·rw [_g5];unfold _L;by_cases ec:c=(("S",u):Str×Str)
      ·subst ec;rw [Qb rfl,Qb rfl,Qb hs]
      ·rw [Qa ec,Qa ec,lk6,Qa ec]
     ·have p2:=X0 (_n ls ("S",u) (D2,(G ("S",u)).filter fun n=>decide (n≠w))) ("S",u) (D8,_w ((G ("S",u)).filter (fun n=>decide (n≠w))++[w]));show (_n (_n ls ("S",u) _) ("S",u) _).length≤_;omega
   ·refine ⟨_,_,_,rfl,hB7,hG _ fun c=>?_,by show (_n ls ("S",u) _).length≤_;omega,bt7,s7.sqt g1,s7.sqt g2,s7.sqt g3,gr.put n2⟩;rw [lk6];unfold _L;by_cases ec:c=(("S",u):Str×Str)
    ·subst ec;rw [Qb rfl,Qb rfl,Qa (by rw [hs];decide)]
    ·rw [Qa ec,Qa ec]
theorem _nJ:_iZ P base T:=by
 refine Fun.okY T._dq.F _a9 fun cdv A outer s H vs Q E hr h=>?_;obtain ⟨b,dx,k,bi,li,ti,su,B,x,e,rfl,hB,hx,ok,no,rm,q⟩:=h
 refine ⟨_,(_i (Yh (_4 (pv 0) T.lB_ (_kt T) hr (_a (pv 1) _c)))
   (_i (_B (i:=2) _a9.nd rfl (Or.inl rfl) (_Q (_gC T) hr (_a (pv 1) _c)))
   (_i (YU (_C hr) (YD (pv 0) rfl) (_Q (_gc T) hr (_a (pv 2) _c)) (pv 2) rfl)
   (_h (_z (_t _U (_m _o (pv 2) _d (fun _ _=>rfl)) _q (_r _)) (_h (Yh (_4 (pv 0) T.lB_ (_px T) hr (_a (pv 2) _c)))) (_h (_z (_t _U (_m _o (pv 2) _d (fun _ _=>rfl)) _q (_r _)) (_i (Yh (_4 (pv 0) T.lB_ (Vs T) hr (_a _q (_a (_m _o (pv 2) _d (fun _ _=>rfl)) (_a (_m _o (pv 2) _d (fun _ _=>rfl)) _c)))))
   (_h (Yh (_4 (pv 0) T.lB_ (Vs T) hr (_a _q (_a (_m _o (pv 2) _d (fun _ _=>rfl)) (_a (_m _o (pv 2) _d (fun _ _=>rfl)) _c))))))) (_h (_z (_t _U (_m _o (pv 2) _d (fun _ _=>rfl)) _q (_r _)) (_i (_B (i:=3) _a9.nd rfl (Or.inl rfl) (_3 (_a (_m _o (pv 2) _d (fun _ _=>rfl)) (_a (_m _o (pv 2) _d (fun _ _=>rfl)) _c))))
   (_h (YU (_C hr) (YD (pv 0) rfl) (pv 3) (_v XW (Jj (_C hr) (YD (pv 0) rfl) (pv 3) _d ⟨rfl,rfl,rfl,rfl⟩) (_m _o (pv 2) _d (fun _ _=>rfl))) rfl))) (_h (_z (YG (_Q (_fA T) hr (_a (pv 2) _c))) (_h (Yh (_4 (pv 0) T.lB_ (_lY T) hr (_a (pv 2) _c)))) _A))))))))))),?_⟩
 refine ⟨_,rfl,b,dx,_,rfl,hB.ob,rfl,_,rfl,rfl,.ref b,x,B,e,rfl,⟨b,dx,k,bi,li,ti,su,rfl,hB⟩,hx,ok,no,fun H1 s1=>?_⟩;obtain ⟨hno,hk400,kn⟩:=_ch no;refine ⟨_,rfl,rfl,x,e,rfl,hx.mono s1,fun H2 u s2 hu=>?_⟩;obtain ⟨a,rfl,hA⟩:=hu;have s12:=s1.trans s2;have hB2:=hB.mono s12;have klen:B.keptD.length=B.kept.length:=Qc ..;refine ⟨_,rfl,_,rfl,b,T.cB,dx,_,_,rfl,hB2.ob,T.lB_,T.nBkept,_b6,_,rfl,rfl,.ref a,e.told,rfl,⟨a,rfl,hA⟩,fun H3 p s3 np hp=>⟨k,_,rfl,DPut.t (k:=e.told.told.key) (s3 _ _ hB2.ke) hp (by rw [klen];exact small1000 (by omega)),?_⟩⟩;rw [JG,VB _ hno];have s13:=s12.trans s3;have hB3:=hB.mono s13;have hA3:=s3.sqt hA;have kn2:∀n∈e.told.named,Known B n:=fun n hn=>kn n (_gz e n hn);have tk:∀(e':Ent),e.told=e'->e'.told=e':=fun e' h=>by rw [←h,JG]
 have pt:∀{B':Bk} (e':Ent),e.told=e'->(∀c,Vy B'.sums c=_a0 (Vy B.sums) e' c)->(∃a,B'.kept=B.kept++[(e',a)])->(∀c,lk B'.links c=Wz (lk B.links) (Y1 B.ties) e' c)->(∀c,Y1 B'.ties c=VY (Y1 B.ties) e' c)->(B'.ties.map (·.1)).Nodup->B'.links.length≤B.links.length+4->B'.ties.length≤B.ties.length+1->B'.sums.length≤B.sums.length+1->Put B e B':=fun {B'} e' h=>by
  subst h;exact Put.mk
 generalize e.told=e' at *;have hK:=hB3.kept (e:=e') hA3;have kb:k≠bi:=YV hB3.ke hB3.bi (fun z=>by cases z);have hA4:SqT K (_b H3 k (.dT (B.keptD++[(e'.key,.ref a)]))) a (e'.row.map kV):=YH hA3 hB3.ke (fun _ z=>by cases z) (fun _ _ z=>by cases z);have btk:But [k,bi,li,ti,su] H (_b H3 k (.dT (B.keptD++[(e'.key,.ref a)]))):=(But.of _ s13).trans (But.put hB3.ke (by simp));have hbi:(_b H3 k (.dT (B.keptD++[(e'.key,.ref a)]))) bi=some (.dK (Bk.bornD B.kept)):=(_g kb.symm).trans hB3.bi;have hob:(_b H3 k (.dT (B.keptD++[(e'.key,.ref a)]))) b=some (.ins T.cB dx (W1 k bi li ti su)):=(_g (YV hB3.ob hB3.ke (fun z=>by cases z))).trans hB3.ob
 have hKn:e'.isBorn=false->BkAt K T.cB (_b H3 k (.dT (B.keptD++[(e'.key,.ref a)]))) b dx k bi li ti su { B with kept:=B.kept++[(e',a)] }:=fun nb=>by
  rw [_ng nb,_ii hbi] at hK;exact hK
 have fresh:∀{y:Addr},H3 y=none->(H y=none∨∃w,H y=some (.dK w)):=fun h=>.inl (_N s13 h);generalize hH4:_b H3 k (.dT (B.keptD++[(e'.key,.ref a)]))=H4 at *;dsimp only;have hbiH:∃w,H bi=some (.dK w):=⟨_,hB.bi⟩;cases e' with
 |born n s d f m =>
  refine ⟨_,rfl,a,_,_,_,rfl,rfl,hA4,_l (j:=0) rfl,rfl,_,rfl,_Z (by trivial) ?_⟩;refine ⟨_,rfl,b,dx,_,rfl,hob,rfl,_,rfl,rfl,b,dx,k,bi,li,ti,su,B.kept,{ B with kept:=B.kept++[(.born n s d f m,a)] },n,s,d,f,m,a,rfl,rfl,hob,hbi,_ky hno,by omega,hA4,hK,Qj rm.nl (by omega),fun c=>Qj (rm.ll c) (by omega),fun H5 ls hB5 hlk hls bt5 gr5=>?_⟩;exact q H5 _ bi hB5 (pt _ rfl (fun c=>rfl) ⟨a,rfl⟩ hlk (fun c=>rfl) rm.nd hls (Re _) (Re _)) ((btk.mono (by simp)).trans (bt5.mono (by simp))) (.inr (.inl rfl)) (gr5.back btk.al) (GrowsT.refl _ _)
 |taken c t d =>
  have hB4:=hKn rfl;have hmem:((.taken c t d,a):Ent×Addr)∈B.kept++[(.taken c t d,a)]:=by simp
  refine ⟨_,rfl,a,_,_,_,rfl,rfl,hA4,_l (j:=0) rfl,rfl,_,rfl,_D (by trivial) ⟨_,rfl,a,_,_,_,rfl,rfl,hA4,_l (j:=0) rfl,rfl,_,rfl,_Z (by trivial) ?_⟩⟩;refine ⟨_,rfl,b,dx,_,rfl,hob,rfl,_,rfl,a,_,_,_,rfl,rfl,hA4,_l (j:=1) rfl,_,rfl,a,_,_,_,rfl,rfl,hA4,_l (j:=2) rfl,rfl,b,dx,k,bi,li,ti,su,_,"T",c,t,rfl,hB4,Qj (rm.ll _) (by omega),Qj rm.nl (by omega),fun H5 D5 hB5 bt5 nD5=>?_⟩;have hA5:=hB5.en _ hmem
  have l5:lk (_n B.links ("T",c) (D5,_w (lk B.links ("T",c)++[t]))) ("t",t)=lk B.links ("t",t):=by
   rw [WP];exact Uy (show ("t" : Str)≠"T" by trivial)
  have n5:=X0 B.links ("T",c) (D5,_w (lk B.links ("T",c)++[t]));have rl:=rm.nl;refine ⟨_,rfl,b,dx,_,rfl,hB5.ob,rfl,_,rfl,a,_,_,_,rfl,rfl,hA5,_l (j:=2) rfl,_,rfl,a,_,_,_,rfl,rfl,hA5,_l (j:=1) rfl,rfl,b,dx,k,bi,li,ti,su,_,"t",t,c,rfl,hB5,?_,?_,fun H6 D6 hB6 bt6 nD6=>?_⟩
  ·rw [Vz];show (lk (_n B.links ("T",c) (D5,_w (lk B.links ("T",c)++[t]))) ("t",t)).length≤61;rw [l5];exact Qj (rm.ll _) (by omega)
  ·show (_n B.links ("T",c) (D5,_w (lk B.links ("T",c)++[t]))).length≤900;omega
  ·refine q H6 _ bi hB6 (pt _ rfl (fun c=>rfl) ⟨a,rfl⟩ (fun x=>?_) (fun c=>rfl) rm.nd ?_ (Re _) (Re _)) ((btk.mono (by simp)).trans ((bt5.mono (by simp)).trans (bt6.mono (by simp)))) (.inr (.inl rfl)) (((Grows.refl _ _).put (btk.al _ nD5)).put (btk.al _ (bt5.al _ nD6))) (GrowsT.refl _ _)
   ·show lk (_n (_n B.links ("T",c) (D5,_w (lk B.links ("T",c)++[t]))) ("t",t) (D6,_w (lk (_n B.links ("T",c) (D5,_w (lk B.links ("T",c)++[t]))) ("t",t)++[c]))) x=_;rw [WP];exact Jx (fun y=>WP ..) ..
   ·have n6:=X0 (_n B.links ("T",c) (D5,_w (lk B.links ("T",c)++[t]))) ("t",t) (D6,_w (lk (_n B.links ("T",c) (D5,_w (lk B.links ("T",c)++[t]))) ("t",t)++[c]));show (_n (_n B.links ("T",c) (D5,_w (lk B.links ("T",c)++[t]))) ("t",t) (D6,_w (lk (_n B.links ("T",c) (D5,_w (lk B.links ("T",c)++[t]))) ("t",t)++[c]))).length≤_;omega
 |union x y d =>
  have hB4:=hKn rfl;refine ⟨_,rfl,a,_,_,_,rfl,rfl,hA4,_l (j:=0) rfl,rfl,_,rfl,_D (by trivial) ⟨_,rfl,a,_,_,_,rfl,rfl,hA4,_l (j:=0) rfl,rfl,_,rfl,_D (by trivial) ⟨_,rfl,a,_,_,_,rfl,rfl,hA4,_l (j:=0) rfl,rfl,_,rfl,_D (by trivial) ?_⟩⟩⟩;refine ⟨_,rfl,rfl,.ref a,.union x y d,rfl,⟨a,rfl,hA4⟩,fun H5 s5=>⟨_,rfl,_1 ?_⟩⟩;have hB5:=hB4.mono s5;have rl:=rm.nl;have rt:=rm.nt;refine ⟨_,rfl,b,dx,_,rfl,hB5.ob,rfl,_,rfl,rfl,b,dx,k,bi,li,ti,su,_,a,"union",x,y,d,rfl,s5.sqt hA4,hB5,(kn2 x (by simp [Ent.named])).more rfl,(kn2 y (by simp [Ent.named])).more rfl,rm.nd,Qj rm.nt (by omega),Qj (rm.tt _) (by omega),Qj rm.nl (by omega),rm.ll,fun H6 ls ts z hB6 nd6 tl6 htf hlk hls bt6 hz grT6 gr6=>?_⟩;exact q H6 _ z hB6 (pt _ rfl (fun c=>rfl) ⟨a,rfl⟩ hlk htf nd6 hls tl6 (Re _)) ((btk.mono (by simp)).trans ((But.of _ s5).trans (bt6.mono (by simp)))) (hz.imp (fun h=>btk.al _ (_N s5 h)) .inr) (gr6.back fun a n=>btk.al a (_N s5 n)) (grT6.back fun a n=>btk.al a (_N s5 n))
 |parted x y d =>
  have hB4:=hKn rfl;refine ⟨_,rfl,a,_,_,_,rfl,rfl,hA4,_l (j:=0) rfl,rfl,_,rfl,_D (by trivial) ⟨_,rfl,a,_,_,_,rfl,rfl,hA4,_l (j:=0) rfl,rfl,_,rfl,_D (by trivial) ⟨_,rfl,a,_,_,_,rfl,rfl,hA4,_l (j:=0) rfl,rfl,_,rfl,_D (by trivial) ?_⟩⟩⟩;refine ⟨_,rfl,rfl,.ref a,.parted x y d,rfl,⟨a,rfl,hA4⟩,fun H5 s5=>⟨_,rfl,_1 ?_⟩⟩;have hB5:=hB4.mono s5;have rl:=rm.nl;have rt:=rm.nt;refine ⟨_,rfl,b,dx,_,rfl,hB5.ob,rfl,_,rfl,rfl,b,dx,k,bi,li,ti,su,_,a,"parted",x,y,d,rfl,s5.sqt hA4,hB5,(kn2 x (by simp [Ent.named])).more rfl,(kn2 y (by simp [Ent.named])).more rfl,rm.nd,Qj rm.nt (by omega),Qj (rm.tt _) (by omega),Qj rm.nl (by omega),rm.ll,fun H6 ls ts z hB6 nd6 tl6 htf hlk hls bt6 hz grT6 gr6=>?_⟩;exact q H6 _ z hB6 (pt _ rfl (fun c=>rfl) ⟨a,rfl⟩ hlk htf nd6 hls tl6 (Re _)) ((btk.mono (by simp)).trans ((But.of _ s5).trans (bt6.mono (by simp)))) (hz.imp (fun h=>btk.al _ (_N s5 h)) .inr) (gr6.back fun a n=>btk.al a (_N s5 n)) (grT6.back fun a n=>btk.al a (_N s5 n))
theorem _oc: _ka P base T:=by
 refine Fun.okY T._aD.F _i2 fun cdv A outer s H vs Q E hr h=>?_;obtain ⟨v,B,rfl,⟨b,dx,k,bi,li,ti,su,rfl,hB⟩,hl,q⟩:=h;refine ⟨_,(_h (_s (_J (VO rfl) (by rfl) T.n_sorted WQ (_a (YD (pv 0) rfl) _c)))),?_⟩;have hbi:=hB.bi;rw [_eK] at hbi;rw [←_fs] at hl q;rw [Qc] at hl;refine ⟨_,rfl,b,T.cB,dx,_,_,rfl,hB.ob,T.lB_,T.nBbirths,U0,bi,UI B.kept,rfl,hbi,hl,fun D zs nD perm so=>?_⟩;rw [_aP perm so];exact q _ D (_j nD) nD _f
theorem _d3: _iG P base T:=by
 refine Fun.okY T._f8.F _iN fun cdv A outer s H vs Q E hr h=>?_;obtain ⟨x,rfl,q⟩:=h;refine ⟨_,(_h (_s (Wb (Xh K (by rfl) T.n_isinstance (_a (pv 0) (_a (Xq (v:=.ty "str") (by rfl) T.n_str WT rfl) _c))) (XU (YR Us (pv 0) (We (v:=.ref T.a_TESTS) (by rfl) T.m_TESTS rfl) (by rfl)))))),?_⟩;refine ⟨_,rfl,_,.ty "str",_,_,rfl,rfl,.of (.str _),T.kss',_,rfl,_1 ⟨_,rfl,T.a_TESTS,_,rfl,.inr (T._lo _),rfl,rfl,?_⟩⟩;have e:(if false=true then !X4 (.str x) ((["he","she"]:List Str).map V.str) else X4 (.str x) ((["he","she"]:List Str).map V.str))=Wk x:=_aJ x ["he","she"];rw [←e] at q;exact q
theorem _dr:_ma P base T:=by
 refine Fun.okY T._gv.F _o4 fun cdv A outer s H vs Q E hr h=>?_;obtain ⟨v,s,n,B,rfl,hB,hs,kn,q⟩:=h
 refine ⟨_,(_i (_z (YG (_Q (_d3 T) hr (_a (pv 1) _c))) (_h (_s (_m1 (_t _U (_4 (pv 0) T.lB_ (_gJ T) hr (_a (pv 2) _c)) (pv 1) (_r _)) (Yb (_a (pv 2) _c)) (Yb _c)))) _A)
   (_h (_s (_4 (pv 0) T.lB_ (_gL T) hr (_a (pv 1) (_a (pv 2) _c)))))),?_⟩
 obtain ⟨b,dx,k,bi,li,ti,su,rfl,hB⟩:=hB;have hv:BkHas K T.cB H (.ref b) B:=⟨b,dx,k,bi,li,ti,su,rfl,hB⟩;unfold Y8 at q;refine ⟨_,rfl,rfl,_,rfl,?_⟩;dsimp only;cases ht:Wk s with
 |true =>
  rw [Qb ht] at q;refine ⟨true,rfl,_1 ⟨_,rfl,b,dx,_,rfl,hB.ob,rfl,_,rfl,rfl,.ref b,.str n,B,rfl,hv,.inr ⟨n,rfl,fun no=>absurd no kn,fun p hp n' s' d f m ep=>?_⟩⟩⟩;rw [_hJ hp ep] at q;refine ⟨_,rfl,rfl,_,rfl,?_⟩;dsimp only;by_cases e:s'=s
  ·rw [Qb e] at q;rw [Qr (show V.str s'=V.str s by rw [e])];exact _1 ⟨_,rfl,few rfl,fun D nD=>q _ D (_j nD) nD _f⟩
  ·rw [Qa e] at q;rw [Qn (show ¬V.str s'=V.str s from fun z=>e (V.str.inj z))];exact _O ⟨few rfl,fun D nD=>q _ D (_j nD) nD _f⟩
 |false =>
  rw [Qa (by rw [ht];decide)] at q;refine ⟨false,rfl,_O ⟨_,rfl,b,dx,_,rfl,hB.ob,rfl,_,rfl,_,rfl,rfl,.ref b,.str s,.str n,B,rfl,hv,.inr ⟨s,rfl,fun no=>?_,fun hl=>.inr ⟨n,rfl,fun no=>absurd no kn,fun _ H' D s1 nD hD=>q H' D s1 nD hD⟩⟩⟩⟩;exfalso;unfold XC at no;unfold Wk at ht;have n1:s∉Xg:=Rg no;have n2:s∉(["he","she"]:List Str):=Rg ht;have:s∈Xg++(["he","she"]:List Str):=hs;exact (Qm.mp this).elim n1 n2
theorem _nS: _ht P base T:=by
 refine Fun.okY T._ad.F _kQ fun cdv A outer s H vs Q E hr h=>?_;obtain ⟨b,dx,z,rfl,hb,q⟩:=h;refine ⟨_,(_h (Wu (pv 0) (pv 1) rfl)),?_⟩;exact ⟨_,rfl,_,rfl,b,T.c_Letter,dx,[],rfl,hb,T.cl_Letter,T.na_Letter_letter,by show (0:Nat)<1000;decide,q⟩
theorem _h9:_iV P base T:=by
 refine Fun.okY T.J5.F _kg fun cdv A outer s H vs Q E hr h=>?_;obtain ⟨a,dx,s,v,t,n,B,rfl,ha,hB,s9,kn,q⟩:=h;refine ⟨_,(_h (_s (_Q (_dr T) hr (_a (pv 1) (_a (YD (pv 0) rfl) (_a (pv 3) _c)))))),?_⟩;exact ⟨_,rfl,_,rfl,a,T.c_Letter,dx,_,_,rfl,ha,T.cl_Letter,T.na_Letter_letter,rfl,_,rfl,rfl,v,s,n,B,rfl,hB,s9,kn,q⟩
theorem _pw: _pn P base T:=by
 refine Fun.okY T.JX.F _kD fun cdv A outer s H vs Q E hr h=>?_;obtain ⟨b,dx,z,rfl,hb,q⟩:=h;refine ⟨_,(_h (Wu (pv 0) (pv 1) rfl)),?_⟩;exact ⟨_,rfl,_,rfl,b,T.c_Test,dx,[],rfl,hb,T.cl_Test,T.na_Test_wanted,by show (0:Nat)<1000;decide,q⟩
theorem _j2:_iq P base T:=by
 refine Fun.okY T._aA.F _no fun cdv A outer s H vs Q E hr h=>?_;obtain ⟨a,dx,s,v,t,n,B,rfl,ha,hB,s9,kn,q⟩:=h;refine ⟨_,(_h (_s (_Q (_dr T) hr (_a (pv 1) (_a (YD (pv 0) rfl) (_a (pv 3) _c)))))),?_⟩;exact ⟨_,rfl,_,rfl,a,T.c_Test,dx,_,_,rfl,ha,T.cl_Test,T.na_Test_wanted,rfl,_,rfl,rfl,v,s,n,B,rfl,hB,s9,kn,q⟩
theorem _me: _o7 P base T:=by
 refine Fun.okY T._ax.F _ie fun cdv A outer s H vs Q E hr h=>?_;obtain ⟨b,dx,z,rfl,hb,q⟩:=h;refine ⟨_,(_h (Wu (pv 0) (pv 1) rfl)),?_⟩;exact ⟨_,rfl,_,rfl,b,T.c_Said,dx,[],rfl,hb,T.cl_Said,T.na_Said_word,by show (0:Nat)<1000;decide,q⟩
theorem _nW: _iI P base T:=by
 refine Fun.okY T._ay.F _jV fun cdv A outer s H vs Q E hr h=>?_;obtain ⟨a,dx,u,v,t,n,rs,zs,rfl,ha,⟨p,kvs,d,rfl,h1,hv,h2,h3,h4⟩,hm,q⟩:=h;refine ⟨_,(_h (_s (WV _ck (by rfl) T.n_list Ua (_a (Yk (_C hr) (Yk (_C hr) (pv 2) (YD (pv 0) rfl) (fun _ _=>rfl)) (pv 3) (fun _ _=>rfl)) _c)))),?_⟩;obtain ⟨r,hr,e⟩:=Qf.mp hm;have e1:r.1=n:=Qk (·.1) e;have e2:r.2.2=zs:=Qk (·.2) e
 have vr:_y (YC rs) (.inr n)=some (.ref r.2.1):=by
  obtain ⟨r',hr',er,hv'⟩:=UY (rs:=rs) rfl h4 (Qf.mpr ⟨r,hr,e1⟩)
  have:r=r':=by
   obtain ⟨i,hi⟩:=Gq hr;obtain ⟨j,hj⟩:=Gq hr';have:(rs.map (·.1))[i]?=(rs.map (·.1))[j]?:=by rw [Qi,Qi,hi,hj];show some r.1=some r'.1;rw [e1,er]
   have:=(NM (by rw [Qc];exact (QB.mp hi).1) h4).mp this;subst this;rw [hi] at hj;exact Ql hj
  rw [this];exact hv'
 refine ⟨_,rfl,_,rfl,a,T.c_Said,dx,_,_,rfl,ha,T.cl_Said,T.na_Said_word,rfl,p,_,rfl,hv▸DGet.k (k:=.inr u) h1,_,rfl,d,_,rfl,vr▸DGet.k (k:=.inr n) h2,?_⟩;exact ⟨r.2.1,_,rfl,.inl (.of (h3 r hr)),fun l nl=>q _ l (_j nl) nl (by rw [←e2];exact _f)⟩
theorem _bF:_js P base T:=by
 refine Fun.okY T.XE.F Jz fun cdv A outer s H vs Q E hr h=>?_;obtain ⟨x,v,t,l,ns,L,f,pool,rfl,hP,hl,nl,hf,hp,pl,q⟩:=h
 refine ⟨_,(_i (_B (i:=4) Jz.nd rfl (Or.inl rfl) Xl)
   (_i (_9 QD rfl (_5 (pv 3)) (_I (i:=5) Jz.nd rfl (Or.inl rfl))
    (_h (_9 QD rfl (_5 (_dS (pv 0) T.cl_Letter T.J5.me (_h9 T) (hr.mono (by decide)) T.J5.b T.cl_Test T._aA.me (_j2 T) (hr.mono (by decide)) T._aA.b T.cl_Said T._ay.me (_nW T) (hr.mono (by decide)) T._ay.b Xn (_a (pv 1) (_a (pv 2) (_a (pv 5) _c))))) (_I (i:=6) Jz.nd rfl (Or.inl rfl))
    (_h (YU (_C hr) (pv 4) (pv 6) YT rfl)))))
   (_h (_s (_J (VO rfl) (by rfl) T.n_sorted WQ (_a (pv 4) _c)))))),?_⟩
 refine fun c nc=>?_;have sc:=_j (o:=.dK []) nc;refine ⟨_,rfl,l,rfl,⟨_,sc.sql hl⟩,YL (xs:=ns.map V.str) (fun i σ Hc=>∃(cs:List (Str×V)) (v5 v6:Option V),σ=[some x,some v,some t,some (.ref l),some (.ref c),v5,v6]∧Same H Hc∧Hc c=some (.dK (Yo cs))∧(cs.map (·.1)).Nodup∧∀y,y∈cs.map (·.1)↔∃n,n∈ns.take i∧y∈f n) ?start ?list ?turn ?done⟩
 case start=>exact ⟨[],_,_,rfl,sc,_f,by simp,fun x=>by simp⟩
 case list =>
  rintro i σ Hc _ ⟨cs,v5,v6,rfl,sx,_⟩;exact sx.sql hl
 case done =>
  rintro σ Hc ⟨cs,v5,v6,rfl,sx,hc,nd,mem⟩;rw [Qc,QN] at mem
  have cl:(cs.map (·.1)).length≤60:=Qj (X7 nd fun y hy=>by
   obtain ⟨n,hn,hy⟩:=(mem y).mp hy;exact hp n hn y hy) pl
  rw [Qc] at cl;exact ⟨_,rfl,c,cs,rfl,hc,by omega,fun D7 zs nD7 hp7 hs7=>q _ D7 zs (sx.trans (_j nD7)) (_N sx nD7) _f ⟨Uj hs7,hp7.nodup_iff.mpr nd,fun y=>by rw [hp7.mem_iff,mem]⟩⟩
 case turn =>
 rintro i y σ Hc hy ⟨cs,v5,v6,rfl,sx,hc,nd,mem⟩;obtain ⟨n,hn,rfl⟩:=Xf hy;have hnm:=Qt hn;have tk:ns.take (i+1)=ns.take i++[n]:=by rw [Q1,hn];rfl
 dsimp only [_V];refine _h4 (i0:=0) (i1:=1) (i2:=2) (i3:=5) (σ:=[some x,some v,some t,some (.ref l),some (.ref c),some (.str n),v6]) rfl rfl rfl rfl (hP.mono sx) (hf n hnm) fun H6 M s6 nM hM=>?_;have cM:c≠M:=fun z=>by rw [←z,hc] at nM;cases nM
 refine ⟨M,rfl,⟨_,.of hM⟩,YL (xs:=(f n).map V.str) (fun j σ Hj=>∃(cs2:List (Str×V)) (v6:Option V),σ=[some x,some v,some t,some (.ref l),some (.ref c),some (.str n),v6]∧Same H Hj∧Hj M=some (.lst ((f n).map V.str))∧Hj c=some (.dK (Yo cs2))∧(cs2.map (·.1)).Nodup∧∀y,y∈cs2.map (·.1)↔y∈cs.map (·.1)∨y∈(f n).take j) ?st ?li ?tu ?dn⟩
 case st=>exact ⟨cs,_,rfl,sx.trans s6,hM,s6 _ _ hc,nd,fun x=>by simp⟩
 case li =>
  rintro j σ Hj _ ⟨cs2,v6,rfl,_,hM,_⟩;exact .of hM
 case dn =>
  rintro σ Hj ⟨cs2,v6,rfl,sj,hMj,hcj,ndj,memj⟩;rw [Qc,QN] at memj;refine ⟨cs2,_,_,rfl,sj,hcj,ndj,fun y=>?_⟩;rw [memj,mem,tk];constructor
  ·rintro (⟨z,h1,h2⟩|h)
   ·exact ⟨z,QL _ h1,h2⟩
   ·exact ⟨n,by simp,h⟩
  ·rintro ⟨z,h1,h2⟩;rcases Qm.mp h1 with h1|h1
   ·exact .inl ⟨z,h1,h2⟩
   ·rw [show z=n by simpa using h1] at h2;exact .inr h2
 case tu =>
 rintro j y σ Hj hy ⟨cs2,v6,rfl,sj,hMj,hcj,ndj,memj⟩;obtain ⟨y,hyz,rfl⟩:=Xf hy;have tkj:(f n).take (j+1)=(f n).take j++[y]:=by rw [Q1,hyz];rfl
 have inP:∀x∈cs2.map (·.1),x∈pool:=fun x hx2=>by
  rcases (memj x).mp hx2 with h|h
  ·obtain ⟨z,h1,h2⟩:=(mem x).mp h;exact hp z (Q0 h1) x h2
  ·exact hp n hnm x (Q0 h)
 have len2:(Yo cs2).length≤60:=by rw [Jm];exact Qj (X7 ndj inP) pl
 refine ⟨_,rfl,_,rfl,c,_,rfl,DPut.k (k:=.inr y) hcj (small1000 (by omega)),?_⟩;rw [JJ];refine ⟨_n cs2 y (.bl true),_,rfl,fun e u h=>?_,?_,_f,Ji ndj,fun x'=>?_⟩
 ·rw [_g (fun z=>by subst z;rw [nc] at h;cases h)];exact sj _ _ h
 ·rw [_g cM.symm];exact hMj
 ·rw [JI,memj,tkj,Qm,QQ,Gm]
theorem _hN:_nP P base T:=by
 refine Fun.okY T._em.F _jc fun cdv A outer s H vs Q E hr h=>?_;obtain ⟨v,m,a,b,B,rfl,hB,ka,kb,q⟩:=h
 refine ⟨_,(_i (_z (_t _U (pv 1) _q (_r _)) (_h (_s (YR Wt (pv 2) (pv 3) (_r _)))) _A)
   (_i (_z (_t _U (pv 1) _q (_r _)) (_h (_s (YR Xs (_4 (pv 0) T.lB_ (W9 T) hr (_a (pv 3) _c)) (_4 (pv 0) T.lB_ (W9 T) hr (_a (pv 2) _c)) (_r _)))) _A)
   (_i (_z (_t _U (pv 1) _q (_r _)) (_h (_s (YR Xm (_4 (pv 0) T.lB_ (W9 T) hr (_a (pv 3) _c)) (_4 (pv 0) T.lB_ (W9 T) hr (_a (pv 2) _c)) (_r _)))) _A)
   (_h (_s YT))))),?_⟩
 obtain ⟨k,dx,k1,k2,k3,k4,k5,rfl,hb⟩:=id hB;obtain ⟨p,s1,d1,f1,m1,e1,e2,e3⟩:=_bR ka;obtain ⟨p',s1',d1',f1',m1',e1',e2',e3'⟩:=_bR kb;unfold Yc at q;refine ⟨_,rfl,rfl,_,rfl,_2 (fun h1=>?_) (fun h1=>?_)⟩
 ·have h1':m="other":=by simpa [Yw] using h1
  rw [Qb h1'] at q;refine ⟨_,rfl,_,rfl,rfl,?_⟩;rw [show (!decide (V.str a=V.str b))=decide (a≠b) by by_cases z:a=b<;>simp [z]];exact q
 have n1:¬m="other":=by simpa [Yw] using h1
 rw [Qa n1] at q;refine ⟨_,rfl,rfl,_,rfl,_2 (fun h2=>?_) (fun h2=>?_)⟩
 ·have h2':m="elder":=by simpa [Yw] using h2
  rw [Qb h2',e3,e3'] at q;refine ⟨_,rfl,k,dx,_,rfl,hb.ob,rfl,_,rfl,rfl,.ref k,.str b,B,rfl,hB,.inr ⟨b,rfl,fun z=>(by rw [e1'] at z;cases z),fun p2 z n' s' d' f' m2 h3=>?_⟩⟩;obtain rfl:p'=p2:=Ql (e1'.symm.trans z);rw [e2'] at h3;cases h3;refine ⟨_,rfl,k,dx,_,rfl,hb.ob,rfl,_,rfl,rfl,.ref k,.str a,B,rfl,hB,.inr ⟨a,rfl,fun z=>(by rw [e1] at z;cases z),fun p2 z n' s' d' f' m2 h3=>?_⟩⟩;obtain rfl:p=p2:=Ql (e1.symm.trans z);rw [e2] at h3;cases h3;exact ⟨_,_,rfl,rfl,q⟩
 have n2:¬m="elder":=by simpa [Yw] using h2
 rw [Qa n2] at q;refine ⟨_,rfl,rfl,_,rfl,_2 (fun h3=>?_) (fun h3=>?_)⟩
 ·have h3':m="younger":=by simpa [Yw] using h3
  rw [Qb h3',e3,e3'] at q;refine ⟨_,rfl,k,dx,_,rfl,hb.ob,rfl,_,rfl,rfl,.ref k,.str b,B,rfl,hB,.inr ⟨b,rfl,fun z=>(by rw [e1'] at z;cases z),fun p2 z n' s' d' f' m2 h3=>?_⟩⟩;obtain rfl:p'=p2:=Ql (e1'.symm.trans z);rw [e2'] at h3;cases h3;refine ⟨_,rfl,k,dx,_,rfl,hb.ob,rfl,_,rfl,rfl,.ref k,.str a,B,rfl,hB,.inr ⟨a,rfl,fun z=>(by rw [e1] at z;cases z),fun p2 z n' s' d' f' m2 h3=>?_⟩⟩;obtain rfl:p=p2:=Ql (e1.symm.trans z);rw [e2] at h3;cases h3;exact ⟨_,_,rfl,rfl,q⟩
 have n3:¬m="younger":=by simpa [Yw] using h3
 rw [Qa n3] at q;exact q
theorem _jq:_qe P base T:=by
 refine Fun.okY T._gF.F _kj fun cdv A outer s H vs Q E hr h=>?_;obtain ⟨z,d,ws,rfl,hz,ok,hk,q⟩:=h
 refine ⟨_,(_i (_z (YG (_Q (_dl T) hr (_a (pv 0) _c))) (_h (_s (_aq T.mk_Letter (_nS T) (hr.mono (by decide)) (by rfl) T.m_Letter T._ad.b .nil Xn (_a (pv 0) _c)))) _A)
   (_i (_z (YG (_Q (_d3 T) hr (_a (pv 0) _c))) (_h (_s (_aq T.mk_Test (_pw T) (hr.mono (by decide)) (by rfl) T.m_Test T.JX.b .nil Xn (_a (pv 0) _c)))) _A)
   (_i (_z (PW.pt (Wn (YG (Y3 RE PySem.F.slot_str_startswith PySem.F.type_str_startswith _o3 (pv 0) (_a _q _c))) (Wv (Vo (J2 (_C hr) (WY JD (pv 0) (WC _d) VS) (pv 1)))))) (_h (_s (_aq T.mk_Said (_me T) (hr.mono (by decide)) (by rfl) T.m_Said T._ax.b .nil Xn (_a (WY JD (pv 0) (WC _d) VS) _c)))) _A)
   (_h XI)))),?_⟩
 refine ⟨_,rfl,rfl,.str z,rfl,.inr ⟨z,rfl,?_⟩⟩
 have n9:XC z=true∨Wk z=true->z∈Y9:=fun h=>by
  rcases h with h|h
  ·unfold XC at h;exact QL (as:=Xg) ["he","she"] (by simpa using h)
  ·unfold Wk at h;exact QT (bs:=["he","she"]) Xg (by simpa using h)
 refine ⟨_,rfl,_2 (fun hb=>?_) (fun hb=>?_)⟩
 ·exact ⟨_,rfl,fun x dx nx ndx ne=>⟨rfl,x,dx,z,rfl,_f,rfl,q _ _ (made nx ndx) (.inl ⟨n9 (.inl hb),x,dx,rfl,.inl _f⟩)⟩⟩
 refine ⟨_,rfl,rfl,z,rfl,_,rfl,_2 (fun hb2=>?_) (fun hb2=>?_)⟩
 ·exact ⟨_,rfl,fun x dx nx ndx ne=>⟨rfl,x,dx,z,rfl,_f,rfl,q _ _ (made nx ndx) (.inl ⟨n9 (.inr hb2),x,dx,rfl,.inr _f⟩)⟩⟩
 obtain ⟨u,hu,rfl⟩:=ok.resolve_left fun h=>by
  have h9:z∈Xg++(["he","she"]:List Str):=h;rcases Qm.mp h9 with h9|h9
  ·rw [show XC z=true from Qr h9] at hb;cases hb
  ·rw [show Wk z=true from Qr h9] at hb2;cases hb2
 obtain ⟨zs,k1,k2⟩:=hk;have dg:=DGet.k (k:=.inr u) k1;obtain ⟨i,hi⟩:=Gq (show u∈zs.map (·.1) by rw [k2];exact hu);rw [Qi] at hi;obtain ⟨p,hp,ep⟩:=QE.mp hi
 have sm:(_y (zs.map fun p=>((.inr p.1:_k),p.2)) (.inr u)).isSome=true:=by
  unfold _y;rw [G2,List.find?_isSome];exact ⟨(.inr p.1,p.2),Qf.mpr ⟨p,Qt hp,rfl⟩,by rw [ep];simp⟩
 have es:Txt.slice (TongM.col++u) (some 1) none=u:=TongM.slice_col u;rw [←es] at dg sm;have zl:(TongM.col++u).length≤sizeLine:=QS (small1000 hz);dsimp only [_aM];refine ⟨_,rfl,rfl,_,_,rfl,rfl,_,rfl,_Z (TongM.starts_col u) ?_⟩;refine ⟨_,rfl,_,rfl,_,rfl,zl,_,rfl,d,_,rfl,dg,_,rfl,_Z sm ?_⟩;exact ⟨_,rfl,_,rfl,_,rfl,zl,fun x dx nx ndx ne=>⟨rfl,x,dx,_,rfl,_f,rfl,q _ _ (made nx ndx) (.inr ⟨u,rfl,x,dx,rfl,by rw [es];exact _f⟩)⟩⟩
theorem _lS:_pe P base T:=by
 refine Fun.okY T._c7.F _ag fun cdv A outer s H vs Q E hr h=>?_;obtain ⟨z,d,ws,b,rfl,hz,pt,pk,hk,q⟩:=h
 refine ⟨_,(_i (_B (i:=2) _ag.nd rfl (Or.inl rfl) (Y3 RE RB NW (_fm 32 (by decide)) (pv 0) (_a _q _c)))
   (_i (_B (i:=3) _ag.nd rfl (Or.inl rfl) _q)
   (_i (_z (_t Us (_m Ye (pv 2) (W5 Vd _d) (fun _ _=>rfl)) (We (v:=.ref T.a_MARKS) (by rfl) T.m_MARKS rfl) (by rfl)) (_h (_B (i:=3) _ag.nd rfl (Or.inl rfl) (_cS Rh PySem.F.slot_list_pop PySem.F.type_list_pop _na (pv 2)))) _A)
   (_i (_z (PW.pt (Xb (_t Xs (_J Ys (by rfl) T.n_len _8 (_a (pv 2) _c)) _d (_r _)) (Xk (_t Xm (_J Ys (by rfl) T.n_len _8 (_a (pv 2) _c)) (We (v:=.int 12) (by rfl) T.m_MOST_PIECES ⟨_,rfl⟩) (_r _))))) (_h XI) _A)
   (_h (_s (_3 (_a (WV _pJ (by rfl) T.n_tuple _cH (_a (XH rfl (Xc (N:=["piece","rows"]) ["rows"] [none,some 1] rfl (by trivial) (by trivial) (by rfl) (by rfl) (by rfl) (by rfl) (by rfl)) (_5 (pv 2)) (fun _ _ _=>(_I (i:=0) _j9 rfl (Or.inl rfl))) (fun _ _ _=>Wy) (fun _ _ _=>(_Q (_jq T) hr (_a (pv 0) (_a (pv 1) _c))))) _c)) (_a (pv 3) _c))))))))),?_⟩
 have e0:partsOf 32 z=b.1++(if b.2="" then [] else [b.2]):=pt.parts
 have pl:∀p∈b.1,p.length≤1000:=fun p hp=>by
  have h1:p∈TongM.partsOf 32 z:=by rw [pt.parts];exact QL _ hp
  have:=TongM.part_len h1;omega
 refine ⟨_,rfl,rfl,z,rfl,rfl,by omega,fun D nD=>?_⟩;have sA:=_j (o:=.lst ((partsOf 32 z).map V.str)) nD;have hD:_b H D (.lst ((partsOf 32 z).map V.str)) D=some (.lst ((partsOf 32 z).map V.str)):=_f;generalize _b H D (.lst ((partsOf 32 z).map V.str))=H1 at *;rw [e0] at hD;dsimp only [_V];refine Yr (fun σ H2=>σ=[some (.str z),some (.ref d),some (.ref D),some (.str "")]∧H2=H1) (fun nx rest=>rest _ _ ⟨rfl,rfl⟩) (fun σ H2 hJ=>?_);obtain ⟨rfl,rfl⟩:=hJ;refine Yr (fun σ H2=>σ=[some (.str z),some (.ref d),some (.ref D),some (.str b.2)]∧H2 D=some (.lst (b.1.map V.str))∧Same H H2) (fun nx rest=>?_) (fun σ H2 hJ=>?_)
 ·by_cases he:b.2=""
  ·rw [Qb he,QC] at hD;obtain ⟨ini,p,ep⟩:∃ini p,b.1=ini++[p]:=⟨b.1.dropLast,b.1.getLast (_nL pt.lo),(Go _).symm⟩;have hp:p∈b.1:=by rw [ep];simp
   have hat:_6 (b.1.map V.str) (-1)=some (.str p):=by rw [ep,Qh];exact Vc _ _
   refine ⟨_,rfl,_,rfl,D,_,_,_,rfl,rfl,.of hD,hat,T.a_MARKS,_,rfl,.inr (T._dX _),rfl,rfl,_,rfl,_D ?_ (rest _ _ ⟨by rw [he],hD,sA⟩)⟩;exact (_aJ p TongM.marks).trans (Qn (TongM.pc_mark (pt.ok p hp)))
  ·rw [Qa he,Qh] at hD;have hm:=pt.mark.resolve_left he;refine ⟨_,rfl,_,rfl,D,_,_,_,rfl,rfl,.of hD,Vc _ _,T.a_MARKS,_,rfl,.inr (T._dX _),rfl,rfl,_,rfl,_Z ((_aJ b.2 TongM.marks).trans (Qr hm)) ?_⟩;refine ⟨_,rfl,.inl ⟨rfl,_,.of hD⟩,D,_,.str b.2,rfl,rfl,hD,by simp,rest _ _ ⟨rfl,?_,Uo sA nD⟩⟩;rw [_f];simp
 obtain ⟨rfl,hD2,s2⟩:=hJ;have lo:=pt.lo;have hi:=pt.hi;refine ⟨_,rfl,D,_,rfl,.inl (.of hD2),_,_,rfl,rfl,_,rfl,_D (Qn (by rw [Qc];omega)) ?_⟩;refine ⟨_,rfl,D,_,rfl,.inl (.of hD2),_,_,rfl,rfl,_,rfl,_D (Qn (by rw [Qc];omega)) ?_⟩;refine ⟨_,rfl,D,rfl,⟨_,.of hD2⟩,_fq b.1.length (fun i H v=>∀s,b.1[i]?=some s->PcS T H v s) (fun i Ha Hb v D' xs hP hL hB s e=>(hP s e).but hB (fun o ho=>by rw [hL] at ho;cases ho;exact _gH _)) (small1000 (by omega)) (fun σ=>∃v,σ=[v,some (.ref d)]) ⟨_,rfl⟩ (fun i H3 hi sm=>?go) (fun H3 sm=>?stop) (fun i σ H3 x H4 hi hσ sm hx C hC=>?step) (fun D2 ys H3 nD2 sm hD2' hl hP=>?fin)⟩
 case go=>exact ⟨_,_,sm.sql (.of hD2),Qu (by rw [Qc];exact hi)⟩
 case stop=>exact ⟨_,sm.sql (.of hD2),by simp⟩
 case step =>
  obtain ⟨v,rfl⟩:=hσ;obtain ⟨rfl,hx⟩:=hx;obtain ⟨p,rfl,hp⟩:=_aa (hx _ (sm.sql (.of hD2)));have hm:=Qt hp;refine ⟨_,rfl,_,rfl,rfl,p,d,ws,rfl,pl p hm,pk p hm,hk.mono (s2.trans sm),fun H5 u s5 hu=>hC u _ H5 ⟨_,rfl⟩ s5 fun s e=>?_⟩;rw [hp] at e;cases e;exact hu
 case fin =>
  refine ⟨D2,_,rfl,.inl ⟨.of hD2',fun u nu=>⟨_,rfl,few rfl,fun t nt=>q _ _ ?_ ?_⟩⟩⟩
  ·exact s2.trans (sm.trans ((_j nu).trans (_j nt)))
  ·exact ⟨t,u,ys,rfl,_f,(_j nt) _ _ _f,⟨hl,fun i s v e1 e2=>(hP i v e2 s e1).mono ((_j nu).trans (_j nt))⟩,hi⟩
theorem _pU:_lJ P base T:=by
 refine Fun.okY T._db.F _e5 fun cdv A outer s H vs Q E hr h=>?_;obtain ⟨z,d,ws,bs,rfl,hz,pt,pk,hk,q⟩:=h
 refine ⟨_,(_i (_B (i:=2) _e5.nd rfl (Or.inl rfl) (Y3 RE RB NW (_p9 " | " (by decide) _jM) (pv 0) (_a _q _c)))
   (_i (_z (_t Xm (_J Ys (by rfl) T.n_len _8 (_a (pv 2) _c)) (We (v:=.int 8) (by rfl) T.m_MOST_PARTS ⟨_,rfl⟩) (_r _)) (_h XI) _A)
   (_h (_s (XH rfl (Xc (N:=["part","rows"]) ["rows"] [none,some 1] rfl (by trivial) (by trivial) (by rfl) (by rfl) (by rfl) (by rfl) (by rfl)) (_5 (pv 2)) (fun _ _ _=>(_I (i:=0) _oo rfl (Or.inl rfl))) (fun _ _ _=>Wy) (fun _ _ _=>(_Q (_lS T) hr (_a (pv 0) (_a (pv 1) _c))))))))),?_⟩
 refine ⟨_,rfl,rfl,z,rfl,rfl,by omega,fun D nD=>?_⟩;have sA:=_j (o:=.lst ((TextG.cutAt TongM.bar z).map V.str)) nD;have hD:_b H D (.lst ((TextG.cutAt TongM.bar z).map V.str)) D=some (.lst ((TextG.cutAt TongM.bar z).map V.str)):=_f;show _;change _ at sA;generalize hH1:_b H D (.lst ((TextG.cutAt TongM.bar z).map V.str))=H1 at *;have hi:=pt.hi;have hl0:=pt.len;refine ⟨_,rfl,D,_,rfl,.inl (show SqL K (_b H D (.lst ((TextG.cutAt TongM.bar z).map V.str))) D ((TextG.cutAt TongM.bar z).map V.str) from .of _f),_,_,rfl,rfl,_,rfl,_D (Qn (by rw [Qc];omega)) ?_⟩;refine ⟨_,rfl,D,rfl,⟨_,show SqL K (_b H D (.lst ((TextG.cutAt TongM.bar z).map V.str))) D ((TextG.cutAt TongM.bar z).map V.str) from .of _f⟩,_fq bs.length (fun i H v=>∀b,bs[i]?=some b->PartAt T H b v) (fun i Ha Hb v D' xs hP hL hB s e=>(hP s e).but hB (fun o ho=>by rw [hL] at ho;cases ho;exact _gH _)) (small1000 (by omega)) (fun σ=>∃v,σ=[v,some (.ref d)]) ⟨_,rfl⟩ (fun i H3 hi sm=>?go) (fun H3 sm=>?stop) (fun i σ H3 x H4 hi hσ sm hx C hC=>?step) (fun D2 ys H3 nD2 sm hD2' hl hP=>?fin)⟩
 case go =>
  have sm':Same H1 H3:=by rw [←hH1];exact sm
  exact ⟨_,_,sm'.sql (.of hD),Qu (by rw [Qc];omega)⟩
 case stop =>
  have sm':Same H1 H3:=by rw [←hH1];exact sm
  exact ⟨_,sm'.sql (.of hD),by simp;omega⟩
 case step =>
  have sm':Same H1 H3:=by rw [←hH1];exact sm
  obtain ⟨v,rfl⟩:=hσ;obtain ⟨rfl,hx⟩:=hx;obtain ⟨y,rfl,hy⟩:=_aa (hx _ (sm'.sql (.of hD)));obtain ⟨b,hb⟩:∃b,bs[i]?=some b:=⟨_,Qu hi⟩;obtain ⟨p1,p2⟩:=pt.each i y b hy hb;refine ⟨_,rfl,_,rfl,rfl,y,d,ws,b,rfl,p2,p1,pk b (Qt hb),hk.mono (sA.trans sm'),fun H5 u s5 hu=>hC u _ H5 ⟨_,rfl⟩ s5 fun s e=>?_⟩;rw [hb] at e;cases e;exact hu
 case fin =>
  have sm':Same H1 H3:=by rw [←hH1];exact sm
  exact q _ _ (sA.trans sm') ⟨D2,ys,rfl,hD2',⟨hl,fun i b v e1 e2=>hP i v e2 b e1⟩,hi⟩
theorem _pz:_ix P base T:=by
 refine Fun.okY T._c9.F V0 fun cdv A outer s H vs Q E hr h=>?_;obtain ⟨z,rows,rfl,hz,rt,r9,q⟩:=h
 refine ⟨_,(_i (_z (Xo (YG (Xh K (by rfl) T.n_isinstance (_a (pv 0) (_a (Xq (v:=.ty "str") (by rfl) T.n_str WT rfl) _c))))) (_h XI) _A)
   (_i (_B (i:=1) V0.nd rfl (Or.inl rfl) (Y3 RE RB NW (_fm 10 (by decide)) (pv 0) (_a _q _c)))
   (_i (_z (_t Xm (_J Ys (by rfl) T.n_len _8 (_a (pv 1) _c)) (We (v:=.int 40) (by rfl) T.m_MOST_ROWS ⟨_,rfl⟩) (_r _)) (_h XI) _A)
   (_i (_B (i:=2) V0.nd rfl (Or.inl rfl) Xl)
   (_i (_9 QD rfl (_5 (pv 1)) (_I (i:=3) V0.nd rfl (Or.inl rfl))
    (_i (_B (i:=4) V0.nd rfl (Or.inl rfl) (Y3 RE N6 PySem.F.type_str_partition (_hP " = " (by decide)) (pv 3) (_a _q _c)))
   (_i (_B (i:=5) V0.nd rfl (Or.inl rfl) (_m _o (pv 4) _d (fun _ _=>rfl)))
   (_i (_z (PW.pt (Xb (Xo (YG (_Q (_bN T) hr (_a (pv 5) _c)))) (Xk (Vo (J2 (_C hr) (pv 5) (pv 2)))))) (_h XI) _A)
   (_h (YU (_C hr) (pv 2) (pv 5) (_Q (_pU T) hr (_a (_m _o (pv 4) _d (fun _ _=>rfl)) (_a (pv 2) _c))) rfl))))))
   (_h (_s (pv 2)))))))),?_⟩
 refine ⟨_,rfl,_,.ty "str",_,_,rfl,rfl,.of (.str _),T.kss',_,rfl,_O ?_⟩;refine ⟨_,rfl,rfl,z,rfl,rfl,by omega,fun D nD=>?_⟩;have sA:=_j (o:=.lst ((partsOf 10 z).map V.str)) nD;have hD:_b H D (.lst ((partsOf 10 z).map V.str)) D=some (.lst ((partsOf 10 z).map V.str)):=_f;generalize _b H D (.lst ((partsOf 10 z).map V.str))=H1 at *;have hi:=rt.hi;have hl0:(partsOf 10 z).length=rows.length:=rt.len;refine ⟨_,rfl,D,_,rfl,.inl (.of hD),_,_,rfl,rfl,_,rfl,_D (Qn (by rw [Qc];omega)) (fun d nd=>?_)⟩
 have nd0:H d=none:=by
  cases e:H d with
  |none=>rfl
  |some u=>rw [sA _ _ e] at nd;cases nd
 refine ⟨_,rfl,D,rfl,⟨_,(_j nd).sql (.of hD)⟩,YL (xs:=(partsOf 10 z).map V.str) (fun i σ H2=>(∃v4 v5 v6,σ=[some (.str z),some (.ref D),some (.ref d),v4,v5,v6])∧H2 D=some (.lst ((partsOf 10 z).map V.str))∧DictAt T H2 d (rows.take i)∧Same H H2) ?start ?sq ?turn ?done⟩
 case start=>exact ⟨⟨_,_,_,rfl⟩,(_j nd) _ _ hD,⟨[],_f,rfl,⟨rfl,fun i a v e=>by simp at e⟩,by simp⟩,sA.trans (_j nd)⟩
 case sq =>
  rintro i σ H2 _ ⟨_,h2,_⟩;exact .of h2
 case turn =>
  rintro i x σ H2 hx ⟨⟨v4,v5,v6,rfl⟩,h2,hd,s2⟩;obtain ⟨y,rfl,hy⟩:=_aa hx
  have il:i<rows.length:=by
   have:=(QB.mp hy).1;omega
  obtain ⟨r,hr⟩:∃r,rows[i]?=some r:=⟨_,Qu il⟩;obtain ⟨y1,y2,y3,y4,y5,y6⟩:=rt.each i y r hy hr;refine ⟨_,rfl,rfl,y,rfl,rfl,by omega,fun P nP=>?_⟩;have sP:=_j (o:=.tup [.str (Txt.partition y TongM.equ).1,.str (Txt.partition y TongM.equ).2.1,.str (Txt.partition y TongM.equ).2.2]) nP;have hP:_b H2 P (.tup [.str (Txt.partition y TongM.equ).1,.str (Txt.partition y TongM.equ).2.1,.str (Txt.partition y TongM.equ).2.2]) P=some (.tup [.str (Txt.partition y TongM.equ).1,.str (Txt.partition y TongM.equ).2.1,.str (Txt.partition y TongM.equ).2.2]):=_f;refine ⟨_,rfl,P,_,_,_,rfl,rfl,.of hP,YB (j:=0) rfl,?_⟩;refine ⟨_,rfl,rfl,.str (Txt.partition y TongM.equ).1,.str (Txt.partition y TongM.equ).1,rfl,⟨rfl,by rw [y2];have:=(r9 i r hr).1.hi;omega⟩,fun H4 s4=>⟨_,rfl,?_⟩⟩;have r9':=r9 i r hr;rw [y2,r9'.1.ok];have s24:=sP.trans s4;obtain ⟨zs,k1,k2,k3,k4⟩:=hd.same s24;have hno:r.1∉zs.map (·.1):=by rw [k2];exact y4
  have dg:=DGet.k (k:=.inr r.1) k1;rw [_cU hno] at dg;refine _O ⟨_,rfl,_,rfl,d,_,rfl,dg,_,rfl,_O ?_⟩;refine ⟨_,rfl,P,_,_,_,rfl,rfl,.of (s4 _ _ hP),YB (j:=2) rfl,_,rfl,rfl,_,d,(rows.take i).map (·.1),r.2,rfl,y5,y6,r9'.2,⟨zs,k1,k2⟩,fun H5 v s5 hv=>?_⟩;have k5:=s5 _ _ k1
  have zl:zs.length≤40:=by
   have:=Qk List.length k2;simp at this;omega
  refine ⟨_,rfl,_,rfl,d,_,rfl,DPut.k (k:=.inr r.1) k5 (small1000 (by rw [Qc];omega)),⟨_,_,_,rfl⟩,?_,?_,?_⟩
  ·rw [_g (_b9 (s5 _ _ (s24 _ _ h2)) k5 (by intro z;cases z))];exact s5 _ _ (s24 _ _ h2)
  ·rw [_f1 hno];have bt:YZ d H5 (_b H5 d (.dK ((zs++[(r.1,v)]).map fun p=>((.inr p.1:_k),p.2)))):=fun c u nc e=>(_g nc).trans e;have fr:∀o,H5 d=some o->Wp o:=fun o ho=>by rw [k5] at ho;cases ho;exact _cr _
   have nl:∀xs,H5 d≠some (.lst xs):=fun xs e=>by rw [k5] at e;cases e
   have tk:rows.take (i+1)=rows.take i++[r]:=by rw [RL,hr];rfl
   rw [tk];refine ⟨zs++[(r.1,v)],_f,by rw [Qh,Qh,k2];rfl,?_,by rw [←tk,QU];omega⟩;have e9:(zs++[(r.1,v)]).map (·.2)=zs.map (·.2)++[v]:=by rw [Qh];rfl
   rw [e9];exact (k3.imp fun a u hu=>(hu.same s5).but bt fr nl).snoc (hv.but bt fr nl)
  ·exact Uo (s2.trans (s24.trans s5)) nd0
 case done =>
  rintro σ H2 ⟨⟨v4,v5,v6,rfl⟩,h2,hd,s2⟩;rw [Qc,hl0,QN] at hd;exact ⟨_,rfl,q _ _ s2 nd0 hd⟩
theorem _mz:_nO P base T:=by
 refine Fun.okY T.JA.F _pf fun cdv A outer s H vs Q E hr h=>?_;obtain ⟨b,dx,z,rows,rfl,hz,hb,rt,r9,q⟩:=h
 refine ⟨_,(_i (Wu (pv 0) (_Q (_pz T) hr (_a (pv 1) _c)) rfl)
   (_h (Wu (pv 0) (pv 1) rfl))),?_⟩
 refine ⟨_,rfl,rfl,z,rows,rfl,hz,rt,r9,fun H1 d s1 nd hd=>⟨_,rfl,b,T.c_Tongue,dx,[],rfl,s1 _ _ hb,T.cl_Tongue,T.na_Tongue_rows,QK (m:=10) (Ra rfl) (by decide),?_⟩⟩;have hb1:=s1 _ _ hb;refine ⟨_,rfl,_,rfl,b,T.c_Tongue,dx,_H "rows" (.ref d) [],rfl,_f,T.cl_Tongue,T.na_Tongue_source,QK (m:=10) (Ra rfl) (by decide),?_⟩;have bt:∀o1 o2,YZ b H1 (_b (_b H1 b o1) b o2):=fun o1 o2 c u nc e=>by rw [_g nc,_g nc];exact e
 refine q _ d (fun c u nc e=>bt _ _ c u nc (s1 _ _ e)) nd ⟨b,dx,z,rfl,_f,hd.but (bt _ _) (fun o ho=>?_) (fun xs e=>?_) (fun xs e=>?_)⟩
 ·rw [hb1] at ho;cases ho;exact ⟨fun _ e=>(nomatch e),fun _ _ _ _ e=>(nomatch e)⟩
 ·rw [hb1] at e;cases e
 ·rw [hb1] at e;cases e
theorem _p6:_nA P base T:=by
 refine Fun.okY T._fy.F _eI fun cdv A outer s H vs Q E hr h=>?_;obtain ⟨to,dx,l,fs,v,t,x,s,ns,pool,B,A,rfl,hto,nl,hx,hB,hl,nl60,kn,clo,hrow,ka,q⟩:=h
 refine ⟨_,(_i (_z (YG (Xh K (by rfl) T.n_isinstance (_a (pv 3) (_a (We (v:=.ref T.c_Said) (by rfl) T.m_Said rfl) _c)))) (_h (_9 QD rfl (_5 (pv 4)) (_I (i:=5) _eI.nd rfl (Or.inl rfl))
    (_h (Yh (U8 (pv 0) T.cl_Tongue T.VG.me (_or (P:=P) (base:=base) T) (hr.mono (by decide)) T.VG.b .nil Xn (_a (pv 1) (_a (pv 2) (_a (YD (pv 3) rfl) (_a (pv 5) _c))))))))) _A)
   (_h (_s (_dS (pv 3) T.cl_Letter ⟨T.lm_Letter,T.XE.me.fn,T.XE.me.kp⟩ (_bF T) (hr.mono (by decide)) T.XE.b T.cl_Test ⟨T.lm_Test,T.XE.me.fn,T.XE.me.kp⟩ (_bF T) (hr.mono (by decide)) T.XE.b T.cl_Said ⟨T.lm_Said,T.XE.me.fn,T.XE.me.kp⟩ (_bF T) (hr.mono (by decide)) T.XE.b Xn (_a (pv 1) (_a (pv 2) (_a (pv 4) _c))))))),?_⟩
 rcases id hx with ⟨s9,st⟩|⟨u,rfl,sd⟩
 ·obtain ⟨ty,kd,ki⟩:=st.isi;refine ⟨_,rfl,x,.ref T.c_Said,ty,false,rfl,rfl,kd,ki,_,rfl,_O ?_⟩;have hP:PcAt T H x v t (fun n zs=>Known B n∧zs=Y8 B s n):=.inl ⟨s,B,st,s9,hB,fun n zs h=>h⟩;exact _ef (i0:=3) (i1:=1) (i2:=2) (i3:=4) (σ:=[some (.ref to),some v,some t,some x,some (.ref l),none]) rfl rfl rfl rfl hP ⟨rfl,x,v,t,l,ns,_,Y0 B A s,pool,rfl,hP,hl,by omega,fun n hn=>⟨kn n hn,Jp s9⟩,fun n hn y hy=>clo.inp _ (ka n hn y hy),clo.few,q⟩
 obtain ⟨rs,hR,hA⟩:=hrow u rfl;obtain ⟨p,kvs,d,rfl,h1,h2,h3,h4,h5⟩:=id hR;obtain ⟨ty,kd,ki⟩:=sd.isi;refine ⟨_,rfl,x,.ref T.c_Said,ty,true,rfl,rfl,kd,ki,_,rfl,_1 ?_⟩;refine ⟨_,rfl,l,rfl,⟨_,hl⟩,YL (xs:=ns.map V.str) (fun i σ Hc=>∃v5:Option V,σ=[some (.ref to),some v,some (.ref p),some x,some (.ref l),v5]∧Same H Hc) ⟨_,rfl,.refl _⟩ ?li ?tu ?dn⟩
 case li =>
  rintro i σ Hc _ ⟨v5,rfl,sc⟩;exact sc.sql hl
 case tu =>
  rintro i y σ Hc hy ⟨v5,rfl,sc⟩;obtain ⟨n,hn,rfl⟩:=Xf hy;obtain ⟨a,dxs,rfl,hs⟩:=id sd;refine ⟨_,rfl,to,dx,fs,rfl,sc _ _ hto,nl,_,rfl,_,rfl,_,rfl,a,T.c_Said,dxs,_,_,rfl,sc _ _ hs,T.cl_Said,T.na_Said_word,rfl,_,rfl,rfl,.ref to,v,p,d,u,n,kvs,rs,rfl,sc _ _ h1,h2,sc _ _ h3,h5,?_,fun H' x' s'=>⟨_,rfl,sc.trans s'⟩⟩;obtain ⟨r,hr,e⟩:=Qf.mp (hA n (Qt hn));exact Qf.mpr ⟨r,hr,Qk (·.1) e⟩
 case dn =>
 rintro σ Hc ⟨v5,rfl,sc⟩;have hP:PcAt T Hc x v (.ref p) (fun n zs=>(n,zs)∈US rs):=.inr ⟨u,rs,sd.mono sc,hR.mono sc,fun n zs h=>h⟩;exact _ef (i0:=3) (i1:=1) (i2:=2) (i3:=4) (σ:=[some (.ref to),some v,some (.ref p),some x,some (.ref l),v5]) rfl rfl rfl rfl hP ⟨rfl,x,v,.ref p,l,ns,_,Y0 B A (":"++u),pool,rfl,hP,sc.sql hl,by omega,fun n hn=>by rw [Jl];exact hA n hn,fun n hn y hy=>clo.inp _ (ka n hn y hy),clo.few,fun H' D' ys s' nD hD srt=>q H' D' ys (sc.trans s') (_N sc nD) hD srt⟩
theorem _mp:_io P base T:=by
 refine Fun.okY T._aH.F _aO fun cdv A outer s H vs Q E hr h=>?_;obtain ⟨o,v,t,p,n,rows,b,ws,pool,B,A,rfl,hT,⟨pt,pu,os,rfl,h1,h2,h3,h4⟩,pk,hB,kn,clo,tok,q⟩:=h
 refine ⟨_,(_i (_B (i:=5) _aO.nd rfl (Or.inl rfl) (Yb (_a (pv 4) _c)))
   (_i (_9 QD rfl (_al (_m _o (pv 3) _d (fun _ _=>rfl))) (_I (i:=6) _aO.nd rfl (Or.inl rfl))
    (_h (_B (i:=5) _aO.nd rfl (Or.inl rfl) (_4 (pv 0) T.cl_Tongue (_p6 T) hr (_a (pv 1) (_a (pv 2) (_a (pv 6) (_a (pv 5) _c))))))))
   (_h (_s (XH rfl (Xc (N:=["other","book","name","part"]) ["part","name","book"] [none,some 1,some 4,some 3] rfl (by trivial) (by trivial) (by rfl) (by rfl) (by rfl) (by rfl) (by rfl)) (_5 (pv 5)) (fun _ _ _=>(_I (i:=0) _k7 rfl (Or.inl rfl))) (fun _ _ _=>(Wr (YG (_Q (_hN T) hr (_a (pv 1) (_a (_m (_aF K rfl) (pv 3) _d (fun _ _=>rfl)) (_a (pv 2) (_a (pv 0) _c)))))))) (fun _ _ _=>(pv 0))))))),?_⟩
 obtain ⟨to,dx,d,z0,rfl,hto,_⟩:=hT;refine ⟨_,rfl,few rfl,fun L0 nL0=>?_⟩;have s0:=_j (o:=.lst [.str n]) nL0;dsimp only [_V];refine ⟨_,rfl,pt,_,_,_,rfl,rfl,.of (s0 _ _ h1),YB (j:=0) rfl,pu,rfl,⟨_,.of (s0 _ _ h2)⟩,_bS (xs:=os) (fun i σ Hc=>∃(L:Addr) (zs:List Str) (v6:Option V),σ=[some (.ref to),some v,some t,some (.ref pt),some (.str n),some (.ref L),v6]∧Same H Hc∧Hc L=some (.lst (zs.map V.str))∧SrtOf (XA (Y0 B A) (b.1.take i) (·=n)) zs) ?start ?list ?turn ?done⟩
 case start=>exact ⟨L0,[n],_,rfl,s0,_f,_fY n⟩
 case list =>
  rintro i σ Hc _ ⟨L,zs,v6,rfl,sc,_⟩;exact .of (sc _ _ h2)
 case turn =>
  rintro i x σ Hc hx ⟨L,zs,v6,rfl,sc,hL,srt⟩;obtain ⟨s,hs,hst⟩:=h3.get' hx;have tk:b.1.take (i+1)=b.1.take i++[s]:=by rw [Q1,hs];rfl
  have kz:∀y∈zs,Known B y:=fun y hy=>Ut (G:=TongM.PieceOk ws) (fun s hs n kn=>tok.led clo hs kn) (fun r hr=>pk r (Q0 hr)) (fun x e=>by rw [e];exact kn) y ((srt.mem y).mp hy);have ps:=pk s (Qt hs);refine ⟨_,rfl,to,dx,_,rfl,sc _ _ hto,rfl,_,rfl,_,rfl,_,rfl,_,rfl,rfl,to,dx,L,_,v,t,x,s,zs,pool,B,A,rfl,sc _ _ hto,rfl,hst.mono sc,hB.mono sc,.of hL,?_,kz,clo,fun u e=>(tok.1 u (_kZ ps e)).imp fun _ h=>⟨h.1.mono sc,fun n hn=>h.2 n (kz n hn)⟩,fun n hn=>tok.led clo ps (kz n hn),fun H6 D6 ys s6 nD6 hD6 srt6=>?_⟩
  ·exact Qj (X7 srt.nd fun y hy=>clo.inp _ (kz y hy)) clo.few
  ·refine ⟨D6,ys,_,rfl,sc.trans s6,hD6,⟨srt6.up,srt6.nd,fun y=>?_⟩⟩;rw [srt6.mem,tk,_aW];exact ⟨fun ⟨w,h,r⟩=>⟨w,(srt.mem w).mp h,r⟩,fun ⟨w,h,r⟩=>⟨w,(srt.mem w).mpr h,r⟩⟩
 case done =>
 rintro σ Hc ⟨L,zs,v6,rfl,sc,hL,srt⟩;rw [h3.1,QN] at srt;have kz:∀y∈zs,Known B y:=fun y hy=>Ut (G:=TongM.PieceOk ws) (fun s hs n kn=>tok.led clo hs kn) pk (fun x e=>by rw [e];exact kn) y ((srt.mem y).mp hy);have zl:zs.length≤60:=Qj (X7 srt.nd fun y hy=>clo.inp _ (kz y hy)) clo.few;refine ⟨_,rfl,L,rfl,⟨_,.of hL⟩,Wq (zs.map (Xw B b.2 n)) (small1000 (by rw [Qc];omega)) (fun σ=>∃w,σ=[w,some v,some (.str n),some (.ref pt)]) ⟨_,rfl⟩ (fun j H4 hj sm=>?go) (fun H4 sm=>?stop) (fun j σ H4 x H5 z hz hσ sm hx C hC=>?step) (fun D9 H9 nD9 s9 hD9=>?fin)⟩
 case go=>exact ⟨_,_,sm.sql (.of hL),Qu (by rw [Qc];rw [Qc] at hj;exact hj)⟩
 case stop=>exact ⟨_,sm.sql (.of hL),by rw [Qc,Qc];exact Qe _⟩
 case step =>
  obtain ⟨w,rfl⟩:=hσ;obtain ⟨rfl,hx2⟩:=hx;obtain ⟨y,hy,rfl⟩:=Xf (hx2 _ (sm.sql (.of hL)));rw [Qi,hy] at hz;obtain rfl:=Ql hz;refine ⟨_,rfl,_,rfl,pt,_,_,_,rfl,rfl,.of (sm _ _ (sc _ _ h1)),YB (j:=1) rfl,_,rfl,_,rfl,rfl,v,b.2,n,y,B,rfl,hB.mono (sc.trans sm),kn,kz y (Qt hy),_,rfl,?_⟩;by_cases h:Yc B b.2 n y=true
  ·rw [show Xw B b.2 n y=some (.str y) from Qb h] at hC;exact _Z h ⟨_,rfl,hC _ _ ⟨_,rfl⟩ (Same.refl _)⟩
  ·rw [show Xw B b.2 n y=none from Qa h] at hC;exact _D (QP.mpr h) (hC _ _ ⟨_,rfl⟩ (Same.refl _))
 case fin =>
 rw [UM] at hD9;exact q _ D9 zs (sc.trans s9) (_N sc nD9) srt hD9
theorem _le:_mK P base T:=by
 refine Fun.okY T.VG.F Ww fun cdv A outer s H vs Q E hr h=>?_;obtain ⟨o,v,t,kd,u,n,rows,i,bs,ws,kvs,rs,pool,B,A,rfl,hT,hi,rnd,pk,tok,ht,hv,hkd,nn,rl,hB,kn,clo,q⟩:=h
 refine ⟨_,(_i (_B (i:=5) Ww.nd rfl (Or.inl rfl) (_gB (pv 2) (pv 3) Xl ⟨rfl,rfl,rfl,rfl⟩))
   (_i (_z (Vo (_av (_C hr) (pv 4) (pv 5))) (_i (_B (i:=6) Ww.nd rfl (Or.inl rfl) Xl)
   (_i (_9 QD rfl (_5 (Yk (_C hr) (YD (pv 0) rfl) (pv 3) (fun _ _=>rfl))) (_I (i:=7) Ww.nd rfl (Or.inl rfl))
    (_h (_9 QD rfl (_5 (_4 (pv 0) T.cl_Tongue (_mp T) hr (_a (pv 1) (_a (pv 2) (_a (pv 7) (_a (pv 4) _c)))))) (_I (i:=8) Ww.nd rfl (Or.inl rfl))
    (_h (YU (_C hr) (pv 6) (pv 8) YT rfl)))))
   (_h (YU (_C hr) (pv 5) (pv 4) (_J (VO rfl) (by rfl) T.n_sorted WQ (_a (pv 6) _c)) rfl)))) _A)
   (_h (_s (Yk (_C hr) (pv 5) (pv 4) (fun _ _=>rfl)))))),?_⟩
 obtain ⟨to,dx,d,z0,rfl,hto,zs,k1,k2,k3,k4⟩:=id hT;obtain ⟨w0,hw,l,os,rfl,hl,hos,_⟩:=k3.get hi
 have hz:zs[i]?=some (u,.ref l):=by
  have e1:(zs.map (·.1))[i]?=some u:=by rw [k2,Qi,hi];rfl
  rw [Qi] at e1 hw;cases e:zs[i]? with
  |none=>rw [e] at e1;cases e1
  |some p =>
   rw [e] at e1 hw;have a1:p.1=u:=by simpa using e1
   have a2:p.2=.ref l:=by simpa using hw
   rw [←a1,←a2]
 refine ⟨_,rfl,t,rfl,.inl ⟨_,.inl ht⟩,_,rfl,fun p np=>⟨kvs,.inr u,.ref kd,_j np _ _ ht,rfl,hv,?_⟩⟩;have sp:=_j (o:=.dK []) np;generalize _b H p (.dK [])=H1 at sp ⊢;dsimp only [_V];have dn:=DGet.k (k:=.inr n) (sp _ _ hkd);rw [_b7 nn] at dn;refine ⟨_,rfl,_,rfl,kd,_,rfl,dn,_,rfl,_1 (fun c nc=>?_)⟩;have sc:=_j (o:=.dK []) nc;have ncH:=_N sp nc;have s1c:=sp.trans sc;have dg:=DGet.kr (k:=.inr u) (Ux k1 s1c);rw [_bw (by rw [k2];exact rnd) hz] at dg;dsimp only [_V];have kW:=LedW.kn tok clo pk kn;refine ⟨_,rfl,to,T.c_Tongue,dx,_,_,rfl,s1c _ _ hto,T.cl_Tongue,T.na_Tongue_rows,rfl,_,rfl,d,_,rfl,dg,l,rfl,⟨_,.of (s1c _ _ hl)⟩,YL (xs:=os) (fun j σ Hc=>∃(cs:List (Str×V)) (v7 v8:Option V),σ=[some (.ref to),some v,some (.ref t),some (.str u),some (.str n),some (.ref kd),some (.ref c),v7,v8]∧Same H Hc∧Hc c=some (.dK (Yo cs))∧(cs.map (·.1)).Nodup∧∀y,y∈cs.map (·.1)↔LedW B A (bs.take j) n y) ?start ?list ?turn ?done⟩
 case start=>exact ⟨[],_,_,rfl,s1c,_f,by simp,fun y=>⟨fun h=>(by cases h),fun ⟨b,hb,_⟩=>(by cases hb)⟩⟩
 case list =>
  rintro j σ Hc _ ⟨cs,v7,v8,rfl,sx,_⟩;exact .of (sx _ _ hl)
 case done =>
  rintro σ Hc ⟨cs,v7,v8,rfl,sx,hc,ndc,mem⟩;rw [hos.1,QN] at mem;have cl:=Qj (X7 ndc fun y hy=>clo.inp _ (kW y ((mem y).mp hy))) clo.few;rw [Qc] at cl;refine ⟨_,rfl,c,cs,rfl,hc,Q8 cl (by decide),fun D7 zs7 nD7 hp7 hs7=>?_⟩;have s7:=_j (o:=.lst (zs7.map V.str)) nD7;have hkd7:=s7 _ _ (sx _ _ hkd);have D7k:D7≠kd:=fun z=>by rw [z,sx _ _ hkd] at nD7;cases nD7
  refine ⟨_,rfl,_,rfl,kd,_,rfl,DPut.k (k:=.inr n) hkd7 (Wc (by unfold YC;rw [Qc];exact rl)),?_⟩;rw [_g9 nn D7 zs7];have dz:=DGet.k (H:=_b (_b Hc D7 (.lst (zs7.map V.str))) kd (.dK (YC (rs++[(n,D7,zs7)])))) (k:=.inr n) _f;rw [show _y (YC (rs++[(n,D7,zs7)])) (.inr n)=some (.ref D7) by unfold YC;rw [Qh];exact (_fL _ _ _ _ (_b7 nn)).trans (Qb rfl)] at dz;refine ⟨_,rfl,_,rfl,kd,_,rfl,dz,q _ D7 zs7 (fun b' o' nb e=>?_) (_N sx nD7) _f ?_ ⟨Uj hs7,hp7.nodup_iff.mpr ndc,fun y=>?_⟩⟩
  ·rw [_g nb];exact s7 _ _ (sx _ _ e)
  ·rw [_g D7k];exact _f
  ·rw [hp7.mem_iff,mem]
 case turn =>
 rintro j x σ Hc hx ⟨cs,v7,v8,rfl,sx,hc,ndc,mem⟩;obtain ⟨b,hb,pa⟩:=hos.get' hx;have hbm:=Qt hb;have tkb:=LedW.snoc (B:=B) (A:=A) (n:=n) hb;dsimp only [_V];refine ⟨_,rfl,to,dx,_,rfl,sx _ _ hto,rfl,_,rfl,_,rfl,_,rfl,_,rfl,rfl,.ref to,v,.ref t,x,n,rows,b,ws,pool,B,A,rfl,hT.same sx,pa.same sx,pk b hbm,hB.mono sx,kn,clo,tok.mono sx,fun H6 M zs6 s6 nM srt6 hM=>?_⟩;have cM:c≠M:=fun z=>by rw [←z,hc] at nM;cases nM
 refine ⟨M,rfl,⟨_,.of hM⟩,YL (xs:=(zs6.filter (Yc B b.2 n)).map V.str) (fun j' σ Hj=>∃(cs2:List (Str×V)) (v8:Option V),σ=[some (.ref to),some v,some (.ref t),some (.str u),some (.str n),some (.ref kd),some (.ref c),some x,v8]∧Same H Hj∧Hj M=some (.lst ((zs6.filter (Yc B b.2 n)).map V.str))∧Hj c=some (.dK (Yo cs2))∧(cs2.map (·.1)).Nodup∧∀y,y∈cs2.map (·.1)↔LedW B A (bs.take j) n y∨y∈(zs6.filter (Yc B b.2 n)).take j') ?st ?li ?tu ?dn⟩
 case st=>exact ⟨cs,_,rfl,sx.trans s6,hM,s6 _ _ hc,ndc,fun y=>by rw [mem];simp⟩
 case li =>
  rintro j' σ Hj _ ⟨cs2,v8,rfl,_,hM,_⟩;exact .of hM
 case dn =>
  rintro σ Hj ⟨cs2,v8,rfl,sj,hMj,hcj,ndj,memj⟩;rw [Qc,QN] at memj;refine ⟨cs2,_,_,rfl,sj,hcj,ndj,fun y=>?_⟩;rw [memj,tkb,QX,srt6.mem]
 case tu =>
 rintro j' y σ Hj hy ⟨cs2,v8,rfl,sj,hMj,hcj,ndj,memj⟩;obtain ⟨y,hyz,rfl⟩:=Xf hy;have tkj:(zs6.filter (Yc B b.2 n)).take (j'+1)=(zs6.filter (Yc B b.2 n)).take j'++[y]:=by rw [Q1,hyz];rfl
 have inP:∀x∈cs2.map (·.1),x∈pool:=fun x hx2=>clo.inp _ (kW x (by
  rcases (memj x).mp hx2 with ⟨b',h1,h2⟩|h
  ·exact ⟨b',Q0 h1,h2⟩
  ·have h:=QX.mp (Q0 h);exact ⟨b,hbm,(srt6.mem x).mp h.1,h.2⟩))
 have len2:(Yo cs2).length≤60:=by rw [Jm];exact Qj (X7 ndj inP) clo.few
 refine ⟨_,rfl,_,rfl,c,_,rfl,DPut.k (k:=.inr y) hcj (Wc len2),?_⟩;rw [JJ];refine ⟨_n cs2 y (.bl true),_,rfl,fun e o h=>?_,?_,_f,Ji ndj,fun x'=>?_⟩
 ·rw [_g (fun z=>by subst z;rw [ncH] at h;cases h)];exact sj _ _ h
 ·rw [_g cM.symm];exact hMj
 ·rw [JI,memj,tkj,Qm,QQ,Gm]
theorem _oC:_pc P base T:=by
 refine Fun.okY T._ak.F JY fun cdv A outer s H vs Q E hr h=>?_;obtain ⟨o,v,d,rows,pool,B,Hb,rfl,hT,bnd,bl,pk,sb,nb,hB,clo,pnd,pl,q⟩:=h
 refine ⟨_,(_i (_B (i:=2) JY.nd rfl (Or.inl rfl) Xl)
   (_i (_ar (_9 QD rfl (_ap (YD (pv 0) rfl)) (_I (i:=3) JY.nd rfl (Or.inl rfl))
    (_i (YU (_C hr) (pv 2) (pv 3) Xl rfl)
   (_h (_9 QD rfl (_5 (_iC (pv 1) T.lB_ T._aD.me (_oc T) (hr.mono (by decide)) T._aD.b .nil Xn)) (_I (i:=4) JY.nd rfl (Or.inl rfl))
    (_h (Yh (_4 (pv 0) T.cl_Tongue (_le T) hr (_a (pv 1) (_a (pv 2) (_a (pv 3) (_a (pv 4) _c))))))))))))
   (_h (_s (pv 2))))),?_⟩
 obtain ⟨to,dx,z0,rfl,hto,zs,k1,k2,k3,k4⟩:=id hT;obtain ⟨ko,kdx,a1,a2,a3,a4,a5,rfl,hbk⟩:=id hB;refine fun t nt=>?_;have st:=_j (o:=.dK []) nt;have td:t≠d:=fun z=>by rw [z,k1] at nt;cases nt
 have tto:to≠d:=fun z=>by rw [z,k1] at hto;cases hto
 have pnd':(_w (_T B.kept)).Nodup:=(Y4 _).nodup_iff.mpr pnd;have kb:∀n,Known B n->n∈_w (_T B.kept):=fun n h=>(Y4 _).mem_iff.mpr (_n4 h);dsimp only [_V];refine ⟨d,zs.map (fun p=>(.inr p.1,p.2)),st _ _ k1,?_⟩;refine ⟨_,rfl,to,T.c_Tongue,dx,_,_,rfl,st _ _ hto,T.cl_Tongue,T.na_Tongue_rows,rfl,d,_,rfl,st _ _ k1,fun ob=>?_⟩
 have zl:zs.length=rows.length:=by
  have:=Qk List.length k2;rw [Qc,Qc] at this;exact this
 refine _cL (kvs:=zs.map (fun p=>(.inr p.1,p.2))) (fun i σ Hj=>∃(tab:VM) (A:Str->Str->List Str) (v3 v4:Option V),σ=[some (.ref to),some (.ref ko),some (.ref t),v3,v4]∧YZ d H Hj∧Hj d=some (.frz ob (.dK (zs.map (fun p=>(.inr p.1,p.2)))))∧Hj t=some (.dK (YM tab))∧tab.map (·.1)=(rows.take i).map (·.1)∧(∀q∈tab,q.2.1≠d∧q.2.1≠t∧(∀r∈q.2.2,r.2.1≠d)∧UV Hj (_w (_T B.kept)) A q)∧(∀u∈tab.map (·.1),∀n,Known B n->∀y∈A u n,Known B y)∧∀(j:Nat) u bs,j<i->rows[j]?=some (u,bs)->∀n,Known B n->SrtOf (LedW B A bs n) (A u n)) ?start ?list ?turn ?done
 case start=>exact ⟨[],fun _ _=>[],_,_,rfl,fun b' u nb' e=>by rw [_g nb'];exact st _ _ e,_f,by rw [_g td];exact _f,rfl,fun q hq=>(by cases hq),fun q hq=>(by cases hq),fun j _ _ h=>absurd h (Nat.not_lt_zero _)⟩
 case list =>
  rintro i σ Hj _ ⟨tab,A,v3,v4,rfl,bt,hd,_⟩;exact hd
 case done =>
  rintro σ Hj ⟨tab,A,v3,v4,rfl,bt,hd,ht,et,ok,ky,sr⟩;rw [Qc,zl,QN] at et;rw [Qc,zl] at sr;have ht':_b Hj d (.dK (zs.map fun p=>(.inr p.1,p.2))) t=some (.dK (YM tab)):=by rw [_g td];exact ht
  have ok':∀q∈tab,UV (_b Hj d (.dK (zs.map fun p=>(.inr p.1,p.2)))) (_w (_T B.kept)) A q:=fun q hq=>by
   obtain ⟨n1,_,n3,h1,h2,h3⟩:=ok q hq;exact ⟨by rw [_g n1];exact h1,h2,fun r hr=>⟨by rw [_g (n3 r hr)];exact (h3 r hr).1,(h3 r hr).2⟩⟩
  refine ⟨ob,hd,_,rfl,q _ t tab A (fun c u e=>?_) ht' et ok' ?_ fun j u bs hj=>sr j u bs (QB.mp hj).1 hj⟩
  ·by_cases z:c=d
   ·rw [z] at e ⊢;rw [k1] at e;cases e;exact _f
   ·rw [_g z];exact bt _ _ z e
  ·rw [←et];exact _gg ht' (by rw [et];exact bnd) (fun q h=>h) ok' pnd' kb ky
 case turn =>
 rintro i p σ Hj hp ⟨tab,A,v3,v4,rfl,bt,hd,ht,et,ok,ky,sr⟩;rw [Qi] at hp;obtain ⟨pz,hpz,rfl⟩:=QE.mp hp;have il:i<rows.length:=by rw [←zl];exact (QB.mp hpz).1
 obtain ⟨qb,hqb⟩:∃qb,rows[i]?=some qb:=⟨_,Qu il⟩
 have eu:pz.1=qb.1:=by
  have e:=Qk (·[i]?) k2;simp only [Qi,hpz,hqb] at e;exact Ql e
 obtain ⟨u,bs⟩:=qb;obtain ⟨u',w'⟩:=pz;obtain rfl:u'=u:=eu;have tk:(rows.take (i+1)).map (·.1)=(rows.take i).map (·.1)++[u']:=by rw [Q1,hqb,Qh];rfl
 have WO:((rows.take i).map (·.1)++[u']).Nodup:=by rw [←tk,Gr];exact bnd.sublist (RJ ..)
 have nu:u'∉tab.map (·.1):=by
  rw [et];exact fun m=>(QV.mp WO).2.2 u' m u' (by simp) rfl
 have tl:tab.length≤12:=by
  have:=Qk List.length et;rw [Qc,Qc,QU] at this;rw [this];exact Qj (Nv _ _) bl
 dsimp only [_V];refine fun kd nkd=>?_;have sk:=_j (o:=.dK []) nkd;have kt:kd≠t:=fun z=>by rw [z,ht] at nkd;cases nkd
 have kdd:kd≠d:=fun z=>by rw [z,hd] at nkd;cases nkd
 refine ⟨_,rfl,_,rfl,t,_,rfl,DPut.k (k:=.inr u') (sk _ _ ht) (Wc (by unfold YM;rw [Qc];exact Qj tl (by decide))),?_⟩;rw [_jr nu kd []];have sHb:∀{Hx:Hp},YZ d H Hx->Same Hb Hx:=fun bx c o e=>bx _ _ (fun z=>by rw [z,nb] at e;cases e) (sb _ _ e)
 have bt1:YZ d H (_b (_b Hj kd (.dK [])) t (.dK (YM (tab++[(u',kd,[])])))):=fun c o nc e=>by
  rw [_g (_R e nt)];exact sk _ _ (bt _ _ nc e)
 have hd1:_b (_b Hj kd (.dK [])) t (.dK (YM (tab++[(u',kd,[])]))) d=some (.frz ob (.dK (zs.map (fun p=>(.inr p.1,p.2))))):=by rw [_g td.symm];exact sk _ _ hd
 have ht1:_b (_b Hj kd (.dK [])) t (.dK (YM (tab++[(u',kd,[])]))) t=some (.dK (YM (tab++[(u',kd,[])]))):=_f;have hk1:_b (_b Hj kd (.dK [])) t (.dK (YM (tab++[(u',kd,[])]))) kd=some (.dK (YC [])):=by rw [_g kt];exact _f
 have ok1:∀{Hx:Hp},(∀c o,c≠kd->_b (_b Hj kd (.dK [])) t (.dK (YM (tab++[(u',kd,[])]))) c=some o->Hx c=some o)->∀q∈tab,UV Hx (_w (_T B.kept)) A q:=fun fr q hq=>by
  obtain ⟨n1,n2,n3,h1,h2,h3⟩:=ok q hq;refine ⟨fr _ _ (_R h1 nkd) (by rw [_g n2];exact sk _ _ h1),h2,fun r hr=>?_⟩;have h4:=(h3 r hr).1;exact ⟨fr _ _ (_R h4 nkd) (by rw [_g (fun z=>by rw [z,ht] at h4;cases h4)];exact sk _ _ h4),(h3 r hr).2⟩
 generalize _b (_b Hj kd (.dK [])) t (.dK (YM (tab++[(u',kd,[])])))=H5 at bt1 hd1 ht1 hk1 ok1 ⊢;have hB5:=hbk.mono (sHb bt1);refine ⟨_,rfl,ko,kdx,_,rfl,hB5.ob,rfl,rfl,.ref ko,B,rfl,⟨_,_,_,_,_,_,_,rfl,hB5⟩,Q8 pl (by decide),fun H6 Lp s6 nLp hLp=>?_⟩;have kpn:∀n∈_w (_T B.kept),Known B n:=fun n hn=>_bM ((Y4 _).mem_iff.mp hn);have ppl:(_w (_T B.kept)).length≤30:=by rw [(Y4 _).length_eq];exact pl
 have Lk:Lp≠kd:=fun z=>by rw [z,hk1] at nLp;cases nLp
 have tokF:∀{Hk:Hp},(∀c o,c≠kd->H6 c=some o->Hk c=some o)->TabOk B Hk (.ref t) ((rows.take i).map (·.1)) A:=fun fr=>by
  rw [←et];exact _gg (tab':=tab++[(u',kd,[])]) (fr _ _ kt.symm (s6 _ _ ht1)) (by rw [Qh,et];exact WO) (fun q h=>QL _ h) (ok1 fun c o nc e=>fr _ _ nc (s6 _ _ e)) pnd' kb ky
 refine ⟨Lp,rfl,⟨_,.of hLp⟩,YL (xs:=(_w (_T B.kept)).map V.str) (fun j σ Hk=>∃(rs:Y2) (v4:Option V),σ=[some (.ref to),some (.ref ko),some (.ref t),some (.str u'),v4]∧(∀c o,c≠kd->H6 c=some o->Hk c=some o)∧Hk kd=some (.dK (YC rs))∧rs.map (·.1)=(_w (_T B.kept)).take j∧∀r∈rs,(r.2.1≠d∧r.2.1≠kd∧Hk r.2.1=some (.lst (r.2.2.map V.str)))∧SrtOf (LedW B A bs r.1) r.2.2) ?st ?li ?tu ?dn⟩
 case st=>exact ⟨[],_,rfl,fun c o _ e=>e,s6 _ _ hk1,rfl,fun r hr=>(by cases hr)⟩
 case li =>
  rintro j σ Hk _ ⟨rs,v4,rfl,fr,_⟩;exact .of (fr _ _ Lk hLp)
 case dn =>
  rintro σ Hk ⟨rs,v4,rfl,fr,hk,er,hr⟩;rw [Qc,QN] at er;have rnd:(rs.map (·.1)).Nodup:=by rw [er];exact pnd'
  have nA:∀w∈(rows.take i).map (·.1),∀n,A w n=Jd A u' rs w n:=fun w hw n=>(_nX fun z=>nu (by rw [et,←z];exact hw)).symm
  have row:∀n,Known B n->∃r∈rs,r.1=n:=fun n hn=>by
   have:=kb n hn;rw [←er] at this;exact Qf.mp this
  refine ⟨tab++[(u',kd,rs)],Jd A u' rs,_,_,rfl,fun c o nc e=>?_,fr _ _ kdd.symm (s6 _ _ hd1),?_,by rw [Qh,et,tk];rfl,fun q hq=>?_,fun w hw n hn y hy=>?_,fun j w b hj hw n hn=>?_⟩
  ·have e5:=bt1 _ _ nc e;by_cases z:c=kd
   ·rw [z] at e;have:=bt _ _ kdd e;rw [nkd] at this;cases this
   ·exact fr _ _ z (s6 _ _ e5)
  ·have e2:YM (tab++[(u',kd,rs)])=YM (tab++[(u',kd,[])]):=by unfold YM;rw [Qh,Qh];rfl
   rw [e2];exact fr _ _ kt.symm (s6 _ _ ht1)
  ·rcases Qm.mp hq with hq|hq
   ·obtain ⟨n1,n2,n3,-⟩:=ok q hq;obtain ⟨g1,g2,g3⟩:=ok1 (fun c o nc e=>fr _ _ nc (s6 _ _ e)) q hq;exact ⟨n1,n2,n3,g1,g2,fun r hr'=>⟨(g3 r hr').1,(g3 r hr').2.trans (nA q.1 (by rw [←et];exact Qf.mpr ⟨q,hq,rfl⟩) r.1)⟩⟩
   ·rw [QQ.mp hq];exact ⟨kdd,kt,fun r hr'=>(hr r hr').1.1,hk,er,fun r hr'=>⟨(hr r hr').1.2.2,(_b5 rnd hr').symm⟩⟩
  ·rw [Qh,Qm] at hw;rcases hw with hw|hw
   ·rw [←nA w (by rw [←et];exact hw)] at hy;exact ky w hw n hn y hy
   ·obtain rfl:=QQ.mp hw;obtain ⟨r,hr1,rfl⟩:=row n hn;have h:=(hr r hr1).2;rw [_b5 rnd hr1,h.mem] at hy;exact LedW.kn (tokF fr) clo (pk i _ hqb) hn y hy
  ·rcases Nat.lt_succ_iff_lt_or_eq.mp hj with hj|rfl
   ·have hs:=sr j w b hj hw n hn
    have sub:∀z∈(rows.take j).map (·.1),z∈(rows.take i).map (·.1):=fun z hz=>by
     rw [Gr] at hz ⊢;exact (List.take_sublist_take_left (QS hj)).subset hz
    rw [←nA w (Qf.mpr ⟨_,Qt (by rw [Nu hj];exact hw),rfl⟩)];exact ⟨hs.up,hs.nd,fun y=>(hs.mem y).trans (LedW.cgr (fun z hz=>nA z (sub z hz)) (pk j _ hw) y)⟩
   ·rw [hqb] at hw;cases hw;obtain ⟨r,hr1,rfl⟩:=row n hn;have hs:=(hr r hr1).2;rw [_b5 rnd hr1];exact ⟨hs.up,hs.nd,fun y=>(hs.mem y).trans (LedW.cgr nA (pk j _ hqb) y)⟩
 case tu =>
 rintro j y σ Hk hy ⟨rs,v4,rfl,fr,hk,er,hr⟩;obtain ⟨n,hn,rfl⟩:=Xf hy;have tkn:(_w (_T B.kept)).take (j+1)=(_w (_T B.kept)).take j++[n]:=by rw [Q1,hn];rfl
 have nn:n∉rs.map (·.1):=by
  rw [er];have nd':((_w (_T B.kept)).take (j+1)).Nodup:=pnd'.sublist (RJ ..);rw [tkn] at nd';exact fun m=>(QV.mp nd').2.2 n m n (by simp) rfl
 have rl:rs.length≤60:=by
  have:=Qk List.length er;rw [Qc,QU] at this;rw [this];exact Qj (Nv _ _) (Qj ppl (by decide))
 have btk:YZ d H Hk:=fun c o nc e=>fr _ _ (fun z=>by rw [z] at e;have:=bt _ _ kdd e;rw [nkd] at this;cases this) (s6 _ _ (bt1 _ _ nc e));have hdk:=fr _ _ kdd.symm (s6 _ _ hd1);have hBk:=hbk.mono (sHb btk);have hTk:=hT.frz btk k1 hdk;dsimp only [_V];refine ⟨_,rfl,to,dx,_,rfl,btk _ _ tto hto,rfl,_,rfl,_,rfl,_,rfl,_,rfl,rfl,.ref to,.ref ko,t,kd,u',n,_,i,bs,_,_,rs,pool,B,A,rfl,hTk,hqb,bnd,pk i _ hqb,tokF fr,fr _ _ kt.symm (s6 _ _ ht1),_cb (tab:=tab++[(u',kd,[])]) (q:=(u',kd,[])) (by rw [Qh,et];exact WO) (by simp),hk,nn,rl,⟨_,_,_,_,_,_,_,rfl,hBk⟩,kpn n (Qt hn),clo,fun H8 D8 ys fr8 nD8 hk8 hD8 srt8=>?_⟩;have D8k:D8≠kd:=fun z=>by rw [z,hk] at nD8;cases nD8
 have D8d:D8≠d:=fun z=>by rw [z,hdk] at nD8;cases nD8
 refine ⟨rs++[(n,D8,ys)],_,rfl,fun c o nc e=>fr8 _ _ nc (fr _ _ nc e),hk8,by rw [Qh,er,tkn];rfl,fun r hr'=>?_⟩;rcases Qm.mp hr' with hr'|hr'
 ·exact ⟨⟨(hr r hr').1.1,(hr r hr').1.2.1,fr8 _ _ (hr r hr').1.2.1 (hr r hr').1.2.2⟩,(hr r hr').2⟩
 ·rw [QQ.mp hr'];exact ⟨⟨D8d,D8k,hD8⟩,srt8⟩
theorem JH: _pv P base T:=by
 refine Fun.okY T._cQ.F _kL fun cdv A outer s H vs Q E hr h=>?_;obtain ⟨l,ns,k,rfl,hS,hk,q⟩:=h
 refine ⟨_,(_i (_z (_t Xs (pv 1) (_J Ys (by rfl) T.n_len _8 (_a (pv 0) _c)) (_r _)) (_h (_s (_m Ye (pv 0) (pv 1) (fun _ _=>rfl)))) _A)
   (_h (_s _d))),?_⟩
 refine ⟨_,rfl,_,rfl,l,_,rfl,.inl hS,_,_,rfl,rfl,_,rfl,?_⟩;by_cases kl:k<((ns.map V.int).length:Int)
 ·rw [Qr kl];obtain ⟨j,rfl⟩:∃j:Nat,k=(j:Int):=⟨k.toNat,by omega⟩;refine _1 ⟨_,rfl,_,rfl,l,_,_,_,rfl,rfl,hS,YB (_gW (by rw [Qc] at kl;omega)),q _⟩
 ·rw [Qn kl];exact _O (q _)
theorem _i8: _iA P base T:=by
 refine Fun.okY T._e9.F Wl fun cdv A outer s H vs Q E hr h=>?_;obtain ⟨c,rfl,q⟩:=h
 refine ⟨_,(_i (_B (i:=1) Wl.nd rfl (Or.inl rfl) _q)
   (_i (_B (i:=2) Wl.nd rfl (Or.inl rfl) (_v XW _d (_v Yn (pv 0) _d)))
   (_i (_B (i:=3) Wl.nd rfl (Or.inl rfl) (_v Yn (_v XQ (pv 0) _d) (pv 2)))
   (_i (V8 (i:=4) rfl  Wl.nd rfl (Or.inl rfl) (Xc (N:=["_law_k","_law_cell"]) ["_law_cell"] [none,some 0] rfl (by trivial) (by trivial) (by rfl) (by rfl) (by rfl) (by rfl) (by rfl)) (JF (by rfl) T.n_range (_a (pv 2) _c)) (fun _ _ _=>(_I (i:=0) _fh rfl (Or.inl rfl))) (fun _ _ _=>Wy) (fun _ _ _=>(_v Yn (_v XW (_v XQ (_v XQ (pv 1) _d) (_v XW (pv 0) _d)) (_v Uk _d (pv 0))) _d)))
   (_i (_B (i:=5) Wl.nd rfl (Or.inl rfl) (Yb _c))
   (_i (_9 QD rfl (JF (by rfl) T.n_range (_a _d _c)) (_I (i:=6) Wl.nd rfl (Or.inl rfl))
    (_i (_B (i:=7) Wl.nd rfl (Or.inl rfl) _q)
   (_i (_9 QD rfl (JF (by rfl) T.n_range (_a (pv 2) _c)) (_I (i:=8) Wl.nd rfl (Or.inl rfl))
    (_h (_B (i:=7) Wl.nd rfl (Or.inl rfl) (_v Vf (pv 7) (_m _bx (pv 1) (_v Yn (_v XW (_m Ye (pv 4) (pv 8) (fun _ _=>rfl)) (_v _fu (pv 6) (WV _c4 (by rfl) T.n_int _aR (_a (YR _U (pv 8) (pv 3) (_r _)) _c)))) _d) (fun _ _=>rfl))))))
   (_h (Yh (Y3 Rh Rn Ro XZ (pv 5) (_a (_v Vf (pv 7) (WY JD _q VS (WC (_v Yn (pv 6) _d)))) _c)))))))
   (_h (_s (pv 5))))))))),?_⟩
 have s0:=QW c (show (0:Int)<6 by decide);have s1:=Q7 c (show (0:Int)<6 by decide);refine ⟨_,rfl,_,_,rfl,rfl,Xr (by decide),_,_,rfl,rfl,?_⟩
 try dsimp only
 obtain ⟨n,hn⟩:∃n:Nat,1+c.fmod 6=(n:Int):=⟨(1+c.fmod 6).toNat,by omega⟩;rw [hn];have n1:1≤n∧n≤6:=by omega
 have a0:=QW (c.fdiv 6) (show (0:Int)<n by omega);have a1:=Q7 (c.fdiv 6) (show (0:Int)<n by omega);refine ⟨_,rfl,_,_,rfl,rfl,⟨by decide,XF (by decide) (by decide)⟩,_,rfl,_,_,rfl,rfl,(show (n:Int)≠0 by omega),?_⟩
 try dsimp only
 obtain ⟨p,hp⟩:∃p:Nat,(c.fdiv 6).fmod n=(p:Int):=⟨((c.fdiv 6).fmod n).toNat,by omega⟩;rw [hp];have pn:p<n:=by omega
 refine ⟨_,rfl,_,rfl,by omega,by omega,VE ((List.range n).map fun j=>V.int (Ws c j)) (small1000 (by rw [Qc,RN];omega)) (fun σ=>∃w,σ=[w,some (.int c)]) ⟨_,rfl⟩ (fun i H3 hi sm=>?go) (fun H3 sm=>?stop) (fun i σ H3 x H4 y hy hσ sm hx C hC=>?step) (fun D2 H3 nD2 sm hD2=>?fin)⟩
 case go =>
  rw [Qc,RN] at hi;show i<(n:Int).toNat;omega
 case stop =>
  rw [Qc,RN];show (n:Int).toNat≤n;omega
 case step =>
  obtain ⟨w,rfl⟩:=hσ;obtain ⟨rfl,rfl⟩:=hx
  have il:i<n:=by
   have:=(QB.mp hy).1
   rwa [Qc,RN] at this
  obtain rfl:V.int (Ws c i)=y:=by
   rw [Qi,GO il] at hy;exact Ql hy
  rw [show (0:Int)+(i:Int)=i from Int.zero_add _];exact ⟨_,rfl,_,_,rfl,rfl,⟨by decide,XF (by decide) (by decide)⟩,_,rfl,_,_,rfl,rfl,_,_,rfl,rfl,⟨by omega,XF (by omega) (by omega)⟩,_,rfl,_,_,rfl,rfl,.inl ⟨by decide,by decide⟩,_,_,rfl,rfl,_,_,rfl,rfl,Xr (by decide),hC _ _ ⟨_,rfl⟩ (Same.refl _)⟩
 case fin =>
 refine ⟨few rfl,fun D nD=>?_⟩;have sD:=_j (o:=.lst []) nD;have s3D:=sm.trans sD;have D2D:D2≠D:=_R hD2 nD;have hb:∀{Hc:Hp},Hc D2=some (.lst ((List.range n).map fun j=>V.int (Ws c j)))->SqL K Hc D2 ((List.range n).map fun j=>V.int (Ws c j)):=fun h=>.of h;refine ⟨_,rfl,by decide,by decide,_d0 (fun i σ Hc=>∃v6 v7 v8,σ=[some (.int c),some (.str "abcdefghijklmnopqrstuvwxyz"),some (.int n),some (.int p),some (.ref D2),some (.ref D),v6,v7,v8]∧Same H Hc∧Hc D=some (.lst (((List.range i).map (WH c n p)).map V.str))∧Hc D2=some (.lst ((List.range n).map fun j=>V.int (Ws c j)))) ⟨_,_,_,rfl,s3D,_f,by rw [_g D2D];exact hD2⟩ ?_ ?_⟩
 ·rintro k σ Hc hk ⟨v6,v7,v8,rfl,sc,hD,hD2c⟩;have k24:k<24:=hk;rw [show (0:Int)+(k:Int)=k from Int.zero_add _];refine ⟨_,rfl,_,rfl,by omega,by omega,_d0 (fun j σ Hj=>Hj=Hc∧∃v8,σ=[some (.int c),some (.str "abcdefghijklmnopqrstuvwxyz"),some (.int n),some (.int p),some (.ref D2),some (.ref D),some (.int k),some (.str ⟨(Xz c p k j).toArray⟩),v8]) ⟨rfl,_,rfl⟩ ?_ ?_⟩
  ·rintro j σ Hj hj ⟨rfl,v8,rfl⟩;have jn:j<n:=by omega
   rw [show (0:Int)+(j:Int)=j from Int.zero_add _];have atj:_6 ((List.range n).map fun j=>V.int (Ws c j)) (j:Int)=some (.int (Ws c j)):=YB (by rw [Qi,GO jn];rfl);have bn:∀z:Int,z=0∨z=1->z.natAbs<2 ^ 1000:=fun z h=>XF (by omega) (by omega);refine ⟨_,rfl,_,rfl,_,rfl,_,rfl,D2,_,_,_,rfl,rfl,hb hD2c,atj,_,rfl,_,rfl,_,rfl,rfl,.inr ⟨_,rfl,_,_,rfl,rfl,⟨XF (by omega) (by omega),bn _ (by split<;>simp)⟩,_,_,rfl,rfl,_,_,rfl,rfl,Xr (by decide),_,_,_,rfl,rfl,few rfl,_nf _,_,_,rfl,rfl,?_,rfl,some (.int (j:Int)),?_⟩⟩
   ·exact few (by rw [Ue,VN];show Nat.ble (j+1) 1000=true;exact Nat.ble_eq_true_of_le (by omega))
   ·show [_,_,_,_,_,_,_,some (V.str _),_]=_;rw [_kI,_i1];by_cases e:j=p
    ·subst e;simp
    ·have:¬((j:Int)=(p:Int)):=by omega
     simp [e,this]
  ·rintro σ Hj ⟨rfl,v8,rfl⟩;rw [show ((n:Int)).toNat=n from rfl];refine ⟨_,rfl,.inl ⟨rfl,_,.of hD⟩,_,rfl,?_⟩;dsimp only [U7];refine ⟨_,rfl,_,_,rfl,rfl,Xr (by decide),_,rfl,_,rfl,few rfl,_,_,rfl,rfl,?len,D,_,_,rfl,rfl,hD,small1000 (by simp;omega),_,_,_,rfl,?same,?lst,?_⟩
   case len =>
    rw [_eO,Ue,Ue,VN,QU];exact few (Nat.ble_eq_true_of_le (by omega))
   case same =>
    intro a u e;rw [_g (_R e (_N sm nD))];exact sc _ _ e
   case lst =>
    rw [_f,_eO,_h6,List.range_succ,Qh,Qh];rfl
   ·rw [_g D2D];exact hD2c
 ·rintro σ Hc ⟨v6,v7,v8,rfl,sc,hD,hD2c⟩;exact ⟨_,rfl,q _ D _ sc (_N sm nD) hD (_mL n1.1 n1.2 pn)⟩
theorem _oz: _qb P base T:=by
 refine Fun.okY T._fF.F _lG fun cdv A outer s H vs Q E hr h=>?_;obtain ⟨c,k,w,rfl,k0,k1,q⟩:=h
 refine ⟨_,(_i (_z (_t _U (pv 2) _d (_r _)) (_h (_s (_v Jo (_v Yn (_v Uk (pv 0) _d) (_v XW (_v Uk _d (_v WB _d _d)) _d)) (_v WB _d _d)))) _A)
   (_i (_z (_t _U (pv 2) _d (_r _)) (_h (_s (_v Jo (_v XW (_v _fu (_v Uk (pv 1) _d) (_v WB _d _d)) (_v Yn (pv 0) (_v Uk _d (_v WB _d _d)))) (_v WB _d _d)))) _A)
   (_h (_s (_v Jo (_v Yn (pv 0) _d) _d))))),?_⟩
 have c18:Vx 10 18:=⟨by decide,by decide,by decide⟩;have c16:Vx 10 16:=⟨by decide,by decide,by decide⟩;refine ⟨_,rfl,rfl,_,rfl,_2 (fun h1=>?_) (fun h1=>?_)⟩
 ·refine ⟨_,rfl,_,_,rfl,rfl,.inr ⟨by decide,by decide⟩,_,_,rfl,rfl,c18,_,_,rfl,rfl,.inl ⟨by decide,by decide⟩,_,_,rfl,rfl,_,_,rfl,rfl,Xr (by decide),_,_,rfl,rfl,c18,_,_,rfl,rfl,q _ ?_ ?_⟩
  ·have:=QW (c*1000003) (show (0:Int)<2*10 ^ (18:Int).toNat+1 by decide);show (-10 ^ 18:Int)≤_-10 ^ 18;omega
  ·have:=Q7 (c*1000003) (show (0:Int)<2*10 ^ (18:Int).toNat+1 by decide);have e:(2*10 ^ (18:Int).toNat+1:Int)=2*10 ^ 18+1:=rfl;show _-10 ^ 18≤(10 ^ 18:Int);omega
 refine ⟨_,rfl,rfl,_,rfl,_2 (fun h2=>?_) (fun h2=>?_)⟩
 ·have:=QW c (show (0:Int)<3*10 ^ (16:Int).toNat by decide);have:=Q7 c (show (0:Int)<3*10 ^ (16:Int).toNat by decide);have e:(3*10 ^ (16:Int).toNat:Int)=3*10 ^ 16:=rfl;refine ⟨_,rfl,_,_,rfl,rfl,.inr ⟨by decide,by decide⟩,_,_,rfl,rfl,c16,_,_,rfl,rfl,⟨XF (by omega) (by omega),XF (by decide) (by decide)⟩,_,rfl,_,_,rfl,rfl,c16,_,_,rfl,rfl,.inl ⟨by decide,by decide⟩,_,_,rfl,rfl,Xr (by decide),_,_,rfl,rfl,_,_,rfl,rfl,c18,_,_,rfl,rfl,q _ ?_ ?_⟩
  ·show (-10 ^ 18:Int)≤k*4*10 ^ 16+_-10 ^ 18;omega
  ·show k*4*10 ^ 16+_-10 ^ 18≤(10 ^ 18:Int);omega
 ·have:=QW c (show (0:Int)<9 by decide);have:=Q7 c (show (0:Int)<9 by decide);exact ⟨_,rfl,_,_,rfl,rfl,Xr (by decide),_,_,rfl,rfl,q _ (by omega) (by omega)⟩
theorem _j0: _iS P base T:=by
 refine Fun.okY T._cu.F WL fun cdv A outer s H vs Q E hr h=>?_;obtain ⟨D,ln,c,d,ps,ns,rfl,hP,hN,n24,l24,q⟩:=h
 refine ⟨_,(_i (_B (i:=4) WL.nd rfl (Or.inl rfl) (_v Yn (_v Uk (pv 2) _d) _d))
   (_i (_ar (V8 (i:=5) rfl  WL.nd rfl (Or.inl rfl) (Xc (N:=["_law_one","_law_day_here","_law_people"]) ["_law_people","_law_day_here"] [none,some 3,some 0] rfl (by trivial) (by trivial) (by rfl) (by rfl) (by rfl) (by rfl) (by rfl)) (_ap (pv 0)) (fun _ _ _=>(_I (i:=0) _mm rfl (Or.inl rfl))) (fun _ _ _=>(Wr (_t Xs (_m (_aF K rfl) (Yk (_C hr) (pv 2) (pv 0) (fun _ _=>rfl)) _d (fun _ _=>rfl)) (pv 1) (_r _)))) (fun _ _ _=>(pv 0))))
   (_i (V8 (i:=6) rfl  WL.nd rfl (Or.inl rfl) (Xc (N:=["_law_one","_law_people"]) ["_law_people"] [none,some 0] rfl (by trivial) (by trivial) (by rfl) (by rfl) (by rfl) (by rfl) (by rfl)) (_5 (pv 5)) (fun _ _ _=>(_I (i:=0) _dL rfl (Or.inl rfl))) (fun _ _ _=>(Wr (_t _U (_m (_aF K rfl) (Yk (_C hr) (pv 1) (pv 0) (fun _ _=>rfl)) _d (fun _ _=>rfl)) _q (_r _)))) (fun _ _ _=>(pv 0)))
   (_i (V8 (i:=7) rfl  WL.nd rfl (Or.inl rfl) (Xc (N:=["_law_one","_law_people"]) ["_law_people"] [none,some 0] rfl (by trivial) (by trivial) (by rfl) (by rfl) (by rfl) (by rfl) (by rfl)) (_5 (pv 5)) (fun _ _ _=>(_I (i:=0) _dL rfl (Or.inl rfl))) (fun _ _ _=>(Wr (_t _U (_m (_aF K rfl) (Yk (_C hr) (pv 1) (pv 0) (fun _ _=>rfl)) _d (fun _ _=>rfl)) _q (_r _)))) (fun _ _ _=>(pv 0)))
   (_i (_B (i:=8) WL.nd rfl (Or.inl rfl) _q)
   (_i (_B (i:=9) WL.nd rfl (Or.inl rfl) _q)
   (_i (_z (PW.pt (Wn (_t Xm (_J Ys (by rfl) T.n_len _8 (_a (pv 6) _c)) _d (_r _)) (Wv (_t Xm (_v Yn (pv 4) _d) _d (_r _))))) (_h (_B (i:=8) WL.nd rfl (Or.inl rfl) (_m Ye (pv 6) (_v Yn (_v XQ (pv 4) _d) (_J Ys (by rfl) T.n_len _8 (_a (pv 6) _c))) (fun _ _=>rfl)))) _A)
   (_i (_z (PW.pt (Wn (_t Xm (_J Ys (by rfl) T.n_len _8 (_a (pv 7) _c)) _d (_r _)) (Wv (_t Xm (_v Yn (_v XQ (pv 4) _d) _d) _d (_r _))))) (_h (_B (i:=9) WL.nd rfl (Or.inl rfl) (_m Ye (pv 7) (_v Yn (_v XQ (pv 4) _d) (_J Ys (by rfl) T.n_len _8 (_a (pv 7) _c))) (fun _ _=>rfl)))) _A)
   (_h (_s (_3 (_a _q (_a (_m Ye (pv 1) (_J JZ (by rfl) T.n_len _8 (_a (pv 0) _c)) (fun _ _=>rfl)) (_a (_m Ye (Yb (_a _q (_a _q (_a _q (_a _q (_a _q _c)))))) (_v Yn (pv 2) _d) (fun _ _=>rfl)) (_a (pv 3) (_a (pv 8) (_a (pv 9) _c))))))))))))))))),?_⟩
 refine ⟨_,rfl,_,_,rfl,rfl,.inr ⟨by decide,by decide⟩,_,_,rfl,rfl,Xr (by decide),?_⟩;dsimp only [_V];generalize (c*48271).fmod 2147483647=num;refine ⟨D,XR ps,hP.d,_,rfl,D,_,rfl,hP.d,fun o=>Wq (ps.map (U3 d)) (small1000 (by rw [Qc];omega)) (fun σ=>∃w,σ=[w,some (.int d),some (.ref D)]) ⟨_,rfl⟩ (fun j H4 hj sm=>?go) (fun H4 sm=>?stop) (fun j σ H4 x H5 z hz hσ sm hx C hC=>?step) (fun D5 H5 nD5 s5 hD5=>?fin)⟩
 case go=>exact ⟨sm _ _ _f,by rw [Qc] at hj ⊢;exact hj⟩
 case stop=>exact ⟨sm _ _ _f,by rw [Qc,Qc];exact Qe _⟩
 case step =>
  obtain ⟨w,rfl⟩:=hσ;obtain ⟨rfl,hx2⟩:=hx;rw [Qi] at hx2 hz;obtain ⟨p,hp,rfl⟩:=QE.mp hz;rw [hp] at hx2;obtain rfl:=Ql hx2;have hm:p∈ps:=Qt hp;refine ⟨_,rfl,_,rfl,D,_,rfl,PpAt.get hP.nd (.inr ⟨o,sm _ _ _f⟩) hm,_,_,_,_,rfl,rfl,sm.sqt (_p3 hP.d (hP.t p hm)),_l (j:=1) rfl,_,rfl,_,_,rfl,rfl,_,rfl,?_⟩;by_cases e:p.2.2.2<d
  ·rw [show U3 d p=some (.str p.1) from Qb e] at hC;rw [Qr e];exact _1 ⟨_,rfl,hC _ _ ⟨_,rfl⟩ (Same.refl _)⟩
  ·rw [show U3 d p=none from Qa e] at hC;rw [Qn e];exact _O (hC _ _ ⟨_,rfl⟩ (Same.refl _))
 case fin =>
 rw [_dQ] at hD5;obtain ⟨olds,eo⟩:∃z,z=ps.filter fun p=>decide (p.2.2.2<d):=⟨_,rfl⟩;rw [←eo] at hD5;have ol:olds.length≤ps.length:=by rw [eo];exact NQ ..
 have om:∀p∈olds,p∈ps∧p.2.2.2<d:=fun p hp=>by
  rw [eo] at hp;exact ⟨(QX.mp hp).1,QG (QX.mp hp).2⟩
 refine ⟨o,s5 _ _ _f,?_⟩;have s1:=_hW hP.d s5
 have nD5H:H D5=none:=by
  by_cases z:D5=D
  ·rw [z,_f] at nD5;cases nD5
  ·rwa [_g z] at nD5
 have D5D:D5≠D:=fun z=>by rw [z,hP.d] at nD5H;cases nD5H
 have hO:(_b H5 D (.dK (XR ps))) D5=some (.lst ((olds.map (·.1)).map V.str)):=by rw [_g D5D];exact hD5
 generalize _b H5 D (.dK (XR ps))=H1 at *;have hP1:=hP.mono s1;refine ⟨_,rfl,D5,rfl,⟨_,.of hO⟩,Wq (olds.map (WU "he")) (small1000 (by rw [Qc];omega)) (fun σ=>∃w,σ=[w,some (.ref D)]) ⟨_,rfl⟩ (fun j H4 hj sm=>?go2) (fun H4 sm=>?stop2) (fun j σ H4 x H5 z hz hσ sm hx C hC=>?step2) (fun D6 H6 nD6 s6 hD6=>?fin2)⟩
 case go2=>exact ⟨_,_,sm.sql (.of hO),Qu (by rw [Qc,Qc];rw [Qc] at hj;exact hj)⟩
 case stop2=>exact ⟨_,sm.sql (.of hO),by rw [Qc,Qc,Qc];exact Qe _⟩
 case step2 =>
  obtain ⟨w,rfl⟩:=hσ;obtain ⟨rfl,hx2⟩:=hx;obtain ⟨y,hy,rfl⟩:=Xf (hx2 _ (sm.sql (.of hO)));rw [Qi] at hy hz;obtain ⟨p,hp,rfl⟩:=QE.mp hy;rw [hp] at hz;obtain rfl:=Ql hz;have hm:p∈ps:=(om p (Qt hp)).1;refine ⟨_,rfl,_,rfl,D,_,rfl,PpAt.get hP.nd (.inl (sm _ _ hP1.d)) hm,_,_,_,_,rfl,rfl,sm.sqt (hP1.t p hm),_l (j:=0) rfl,rfl,_,rfl,?_⟩;by_cases e:p.2.2.1="he"
  ·rw [show WU "he" p=some (.str p.1) from Qb e] at hC;rw [Qr (show V.str p.2.2.1=V.str "he" by rw [e])];exact _1 ⟨_,rfl,hC _ _ ⟨_,rfl⟩ (Same.refl _)⟩
  ·rw [show WU "he" p=none from Qa e] at hC;rw [Qn (show ¬V.str p.2.2.1=V.str "he" from fun z=>e (V.str.inj z))];exact _O (hC _ _ ⟨_,rfl⟩ (Same.refl _))
 case fin2 =>
 rw [_a7] at hD6;have s2:=s1.trans s6;have hP2:=hP.mono s2;have hO2:=s6 _ _ hO;refine ⟨_,rfl,D5,rfl,⟨_,.of hO2⟩,Wq (olds.map (WU "she")) (small1000 (by rw [Qc];omega)) (fun σ=>∃w,σ=[w,some (.ref D)]) ⟨_,rfl⟩ (fun j H4 hj sm=>?go3) (fun H4 sm=>?stop3) (fun j σ H4 x H5 z hz hσ sm hx C hC=>?step3) (fun D7 H7 nD7 s7 hD7=>?fin3)⟩
 case go3=>exact ⟨_,_,sm.sql (.of hO2),Qu (by rw [Qc,Qc];rw [Qc] at hj;exact hj)⟩
 case stop3=>exact ⟨_,sm.sql (.of hO2),by rw [Qc,Qc,Qc];exact Qe _⟩
 case step3 =>
  obtain ⟨w,rfl⟩:=hσ;obtain ⟨rfl,hx2⟩:=hx;obtain ⟨y,hy,rfl⟩:=Xf (hx2 _ (sm.sql (.of hO2)));rw [Qi] at hy hz;obtain ⟨p,hp,rfl⟩:=QE.mp hy;rw [hp] at hz;obtain rfl:=Ql hz;have hm:p∈ps:=(om p (Qt hp)).1;refine ⟨_,rfl,_,rfl,D,_,rfl,PpAt.get hP.nd (.inl (sm _ _ hP2.d)) hm,_,_,_,_,rfl,rfl,sm.sqt (hP2.t p hm),_l (j:=0) rfl,rfl,_,rfl,?_⟩;by_cases e:p.2.2.1="she"
  ·rw [show WU "she" p=some (.str p.1) from Qb e] at hC;rw [Qr (show V.str p.2.2.1=V.str "she" by rw [e])];exact _1 ⟨_,rfl,hC _ _ ⟨_,rfl⟩ (Same.refl _)⟩
  ·rw [show WU "she" p=none from Qa e] at hC;rw [Qn (show ¬V.str p.2.2.1=V.str "she" from fun z=>e (V.str.inj z))];exact _O (hC _ _ ⟨_,rfl⟩ (Same.refl _))
 case fin3 =>
 rw [_a7] at hD7;have s3:=s2.trans s7;have hP3:=hP.mono s3;have hF:=s7 _ _ hD6;obtain ⟨fs,ef⟩:∃z,z=olds.filter fun p=>decide (p.2.2.1=("he" : Str)):=⟨_,rfl⟩;obtain ⟨ms,em⟩:∃z,z=olds.filter fun p=>decide (p.2.2.1=("she" : Str)):=⟨_,rfl⟩;rw [←ef] at hF;rw [←em] at hD7
 have fm:∀p∈fs,X2 ps "he" d p.1:=fun p hp=>by
  rw [ef] at hp;obtain ⟨h1,h2⟩:=QX.mp hp;exact .inr ⟨p,(om p h1).1,rfl,QG h2,(om p h1).2⟩
 have mm:∀p∈ms,X2 ps "she" d p.1:=fun p hp=>by
  rw [em] at hp;obtain ⟨h1,h2⟩:=QX.mp hp;exact .inr ⟨p,(om p h1).1,rfl,QG h2,(om p h1).2⟩
 rw [QJ] at hF hD7;dsimp only [_V];refine _hh (_hh ?_);refine Yr (fun σ Hx=>H7=Hx∧∃f,X2 ps "he" d f∧σ=[some (.ref D),some (.ref ln),some (.int c),some (.int d),some (.int num),some (.ref D5),some (.ref D6),some (.ref D7),some (.str f),some (.str "")]) (fun nx rest=>?_) ?_
 ·refine ⟨_,rfl,D6,_,rfl,.inl (.of hF),_,_,rfl,rfl,_,rfl,_2 (fun h1=>⟨_,rfl,_,_,rfl,rfl,Xr (by decide),_,_,rfl,rfl,_,rfl,_2 (fun h2=>?_) (fun h2=>?_)⟩) (fun h1=>?_)⟩
  ·have l0:0<fs.length:=by
    have:=QG h1;rw [Qc] at this;omega
   obtain ⟨p,hp,ea⟩:=_cc (V.str∘fun p:Pp=>p.1) fs l0 (num.fdiv 7);exact ⟨_,rfl,_,rfl,_,_,rfl,rfl,⟨by decide,XF (by decide) (by decide)⟩,_,rfl,D6,_,rfl,.inl (.of hF),_,_,rfl,rfl,(by rw [Qc];omega),D6,_,_,_,rfl,rfl,.of hF,ea,rest _ _ ⟨rfl,p.1,fm p hp,rfl⟩⟩
  ·exact rest _ _ ⟨rfl,"",.inl rfl,rfl⟩
  ·exact rest _ _ ⟨rfl,"",.inl rfl,rfl⟩
 rintro σ _ ⟨rfl,f,hf,rfl⟩;refine Yr (fun σ Hx=>H7=Hx∧∃m,X2 ps "she" d m∧σ=[some (.ref D),some (.ref ln),some (.int c),some (.int d),some (.int num),some (.ref D5),some (.ref D6),some (.ref D7),some (.str f),some (.str m)]) (fun nx rest=>?_) ?_
 ·refine ⟨_,rfl,D7,_,rfl,.inl (.of hD7),_,_,rfl,rfl,_,rfl,_2 (fun h1=>⟨_,rfl,_,_,rfl,rfl,⟨by decide,XF (by decide) (by decide)⟩,_,_,rfl,rfl,Xr (by decide),_,_,rfl,rfl,_,rfl,_2 (fun h2=>?_) (fun h2=>?_)⟩) (fun h1=>?_)⟩
  ·have l0:0<ms.length:=by
    have:=QG h1;rw [Qc] at this;omega
   obtain ⟨p,hp,ea⟩:=_cc (V.str∘fun p:Pp=>p.1) ms l0 (num.fdiv 1400);exact ⟨_,rfl,_,rfl,_,_,rfl,rfl,⟨by decide,XF (by decide) (by decide)⟩,_,rfl,D7,_,rfl,.inl (.of hD7),_,_,rfl,rfl,(by rw [Qc];omega),D7,_,_,_,rfl,rfl,.of hD7,ea,rest _ _ ⟨rfl,p.1,mm p hp,rfl⟩⟩
  ·exact rest _ _ ⟨rfl,"",.inl rfl,rfl⟩
  ·exact rest _ _ ⟨rfl,"",.inl rfl,rfl⟩
 rintro σ _ ⟨rfl,m,hm,rfl⟩;obtain ⟨s,hs,es⟩:=_jG c;have il:ps.length<ns.length:=by omega
 have en:ns[ps.length]?=some ns[ps.length]:=Qu il;have an:_6 (ns.map V.str) ((XR ps).length:Int)=some (.str ns[ps.length]):=by rw [Qc];exact YB (by rw [Qi,en];rfl)
 refine ⟨_,rfl,_,rfl,D,_,rfl,hP3.d,ln,_,_,_,rfl,rfl,s3.sql hN,an,few rfl,fun L nL=>⟨_,rfl,_,_,rfl,rfl,Xr (by decide),L,_,_,_,rfl,rfl,.of _f,es,_,rfl,_,rfl,_,rfl,few rfl,fun a na=>?_⟩⟩;exact q _ a _ _ _ _ ((s3.trans (_j nL)).trans (_j na)) (_N (s3.trans (_j nL)) na) (.of _f) en hs hf hm
theorem _iT: _mI P base T:=by
 refine Fun.okY T._fd.F Wj fun cdv A outer s H vs Q E hr h=>?_;obtain ⟨D,Dk,c,kd,ps,kn,rfl,hP,hK,p2,p24,k100,ok,pd,qn,q⟩:=h
 refine ⟨_,(_i (_B (i:=4) Wj.nd rfl (Or.inl rfl) (WV (_bQ rfl) (by rfl) T.n_list Ua (_a (pv 0) _c)))
   (_i (_B (i:=5) Wj.nd rfl (Or.inl rfl) (_m Ye (pv 4) (_v Yn (pv 2) (_J Ys (by rfl) T.n_len _8 (_a (pv 4) _c))) (fun _ _=>rfl)))
   (_i (_B (i:=6) Wj.nd rfl (Or.inl rfl) (_m Ye (pv 4) (_v Yn (_v XW (_v XW (pv 2) _d) (_v Yn (_v XQ (pv 2) _d) (_v Jo (_J Ys (by rfl) T.n_len _8 (_a (pv 4) _c)) _d))) (_J Ys (by rfl) T.n_len _8 (_a (pv 4) _c))) (fun _ _=>rfl)))
   (_i (_B (i:=7) Wj.nd rfl (Or.inl rfl) (_J (_bP rfl) (by rfl) T.n_min Ub (_a (_v WB _d _d) (_a (_v XW (_J (_jZ rfl) (by rfl) T.n_max Jf (_a (_m _o (Yk (_C hr) (pv 0) (pv 5) (fun _ _=>rfl)) _d (fun _ _=>rfl)) (_a (_m _o (Yk (_C hr) (pv 0) (pv 6) (fun _ _=>rfl)) _d (fun _ _=>rfl)) _c))) (_v Yn (_v XQ (pv 2) _d) (_v WB _d _d))) _c))))
   (_i (_B (i:=8) Wj.nd rfl (Or.inl rfl) (_3 (_a _q (_a (_J (_bp rfl) (by rfl) T.n_min Ub (_a (pv 5) (_a (pv 6) _c))) (_a (_J (_cd rfl) (by rfl) T.n_max Jf (_a (pv 5) (_a (pv 6) _c))) (_a (pv 7) _c))))))
   (_i (_B (i:=9) Wj.nd rfl (Or.inl rfl) (_3 (_a (_m Ye (Yb (_a _q (_a _q _c))) (WV _c4 (by rfl) T.n_int _aR (_a (YR Xm (pv 3) _d (_r _)) _c)) (fun _ _=>rfl)) (_a (pv 5) (_a (pv 6) (_a (pv 7) _c))))))
   (_i (_z (_t _U (pv 3) _d (_r _)) (_i (_z (_t Xs (_m _o (Yk (_C hr) (pv 0) (pv 5) (fun _ _=>rfl)) _d (fun _ _=>rfl)) (_m _o (Yk (_C hr) (pv 0) (pv 6) (fun _ _=>rfl)) _d (fun _ _=>rfl)) (_r _)) (_h (_nm rfl Wj.nd (i:=5) (j:=6) rfl rfl (by decide) rfl rfl (_a (pv 6) (_a (pv 5) _c)) rfl)) _A)
   (_i (_B (i:=8) Wj.nd rfl (Or.inl rfl) (_3 (_a _q (_a (pv 5) (_a (pv 6) _c)))))
   (_i (_B (i:=9) Wj.nd rfl (Or.inl rfl) (_3 (_a _q (_a (pv 5) (_a (pv 6) (_a (pv 7) _c))))))
   (_h (_z (_t _U (_m _o (Yk (_C hr) (pv 0) (pv 5) (fun _ _=>rfl)) _d (fun _ _=>rfl)) (_m _o (Yk (_C hr) (pv 0) (pv 6) (fun _ _=>rfl)) _d (fun _ _=>rfl)) (_r _)) (_h (_s JQ)) _A))))) _A)
   (_i (_z (Vo (J2 (_C hr) (pv 8) (pv 1))) (_h (_s JQ)) _A)
   (_i (YU (_C hr) (pv 1) (pv 8) YT rfl)
   (_h (_s (pv 9)))))))))))),?_⟩
 have c18:Vx 10 18:=⟨by decide,by decide,by decide⟩;have c6:Vx 10 6:=⟨by decide,by decide,by decide⟩;have eD:XR ps=(ps.map fun p=>(p.1,V.ref p.2.1)).map (fun p=>((.inr p.1:_k),p.2)):=by rw [QJ];rfl
 have en:((ps.map fun p:Pp=>(p.1,V.ref p.2.1)).map (·.1))=ps.map (·.1):=by rw [QJ];rfl
 refine ⟨_,rfl,D,ps.map fun p=>(p.1,V.ref p.2.1),rfl,by rw [←eD];exact hP.d,by rw [Qc];omega,fun L nL=>?_⟩;rw [en];have s1:=_j (o:=.lst ((ps.map (·.1)).map V.str)) nL;have hL:_b H L (.lst ((ps.map (·.1)).map V.str)) L=some (.lst ((ps.map (·.1)).map V.str)):=_f;dsimp only [_V];generalize _b H L (.lst ((ps.map (·.1)).map V.str))=H1 at *;have hPd:=s1 _ _ hP.d;have hPt:∀p∈ps,SqT K H1 p.2.1 [.str p.2.2.1,.int p.2.2.2]:=fun p hp=>s1.sqt (hP.t p hp);have hK1:=s1 _ _ hK;have el:(((ps.map (·.1)).map V.str).length:Int)=(ps.length:Int):=by rw [Qc,Qc]
 obtain ⟨p,hp,r,hr',ne,a1,a2⟩:=_pH hP.nd p2 c;refine ⟨_,rfl,_,rfl,_,rfl,L,_,rfl,.inl (.of hL),_,_,rfl,rfl,(by omega),L,_,_,_,rfl,rfl,.of hL,a1,?_⟩;refine ⟨_,rfl,_,rfl,_,_,rfl,rfl,_,rfl,_,_,rfl,rfl,⟨by decide,XF (by decide) (by decide)⟩,_,rfl,L,_,rfl,.inl (.of hL),_,_,rfl,rfl,_,_,rfl,rfl,(by omega),_,_,rfl,rfl,_,rfl,L,_,rfl,.inl (.of hL),_,_,rfl,rfl,(by omega),L,_,_,_,rfl,rfl,.of hL,a2,?_⟩;dsimp only [_V];refine Yr (fun σ Hx=>H1=Hx∧∃day,TwoOk ps p r day∧σ=[some (.ref D),some (.ref Dk),some (.int c),some (.int kd),some (.ref L),some (.str p.1),some (.str r.1),some (.int day),none,none]) (fun nx rest=>?_) ?_
 ·refine ⟨_,_,rfl,rfl,c18,_,rfl,_,rfl,D,_,rfl,PpAt.get hP.nd (.inl hPd) hp,_,_,_,_,rfl,rfl,hPt _ hp,_l (j:=1) rfl,_,rfl,_,rfl,D,_,rfl,PpAt.get hP.nd (.inl hPd) hr',_,_,_,_,rfl,rfl,hPt _ hr',_l (j:=1) rfl,_,_,rfl,_,rfl,_,_,rfl,rfl,⟨by decide,XF (by decide) (by decide)⟩,_,_,rfl,rfl,c6,_,_,rfl,rfl,Xr (by decide),_,_,rfl,rfl,_,_,rfl,rest _ _ ⟨rfl,_,?_x,rfl⟩⟩;have x0:=QW (c.fdiv 600) (show (0:Int)<10 ^ (6:Int).toNat by decide);have d1:=pd p hp;have d2:=pd r hr';have e18:(10:Int) ^ (18:Int).toNat=10 ^ 18:=rfl;rw [e18];generalize (c.fdiv 600).fmod (10 ^ (6:Int).toNat)=x at *;refine ⟨hp,hr',ne,?_,?_,?_,?_⟩<;>(repeat' split)<;>omega
 rintro σ _ ⟨rfl,day,_x,rfl⟩;refine ⟨_,rfl,_,rfl,_,_,rfl,_,rfl,_,rfl,_,_,rfl,_,rfl,few rfl,fun ak nak=>?_⟩;rw [_be,_bk];dsimp only [_V];have s3:=_j (o:=.tup [.str "tie",.str (_e p.1 r.1).1,.str (_e p.1 r.1).2,.int day]) nak;have hak:_b H1 ak (.tup [.str "tie",.str (_e p.1 r.1).1,.str (_e p.1 r.1).2,.int day]) ak=some (.tup [.str "tie",.str (_e p.1 r.1).1,.str (_e p.1 r.1).2,.int day]):=_f;generalize _b H1 ak (.tup [.str "tie",.str (_e p.1 r.1).1,.str (_e p.1 r.1).2,.int day])=H3 at *;have s13:=s1.trans s3
 let JK:St->Hp->Prop:=fun σ Hx=>Same H Hx∧∃p r day ak ae e,TwoOk ps p r day∧DeedF ps e∧Hx ak=some (.tup (e.told.key.map kV))∧SqT K Hx ae (e.row.map kV)∧H ae=none∧σ=[some (.ref D),some (.ref Dk),some (.int c),some (.int kd),some (.ref L),some (.str p.1),some (.str r.1),some (.int day),some (.ref ak),some (.ref ae)]
 refine Yr JK (fun nx rest=>?_) ?_
 ·refine ⟨few rfl,fun lu nlu=>⟨_,rfl,_,_,rfl,rfl,.inr ⟨_,rfl,lu,_,_,_,rfl,rfl,.of _f,_i3 _,_,rfl,_,rfl,_,rfl,few rfl,fun ae nae=>rest _ _ ⟨?_,p,r,day,ak,ae,_,_x,_x.tie (decide (7<kd)),?_,?_,?_,rfl⟩⟩⟩⟩
  ·exact (s13.trans (_j nlu)).trans (_j nae)
  ·rw [_kJ,_g (fun z=>by rw [←z] at nae;exact absurd ((_j nlu) _ _ hak) (by rw [nae];simp)),_g (_R hak nlu)];exact hak
  ·rw [_hA];exact .of _f
  ·exact _N (s13.trans (_j nlu)) nae
 rintro σ H4 ⟨s4,p,r,day,ak,ae,e,_x,de,hka,hea,nae,rfl⟩
 try dsimp only [JK]
 refine Yr JK (fun nx rest=>?_) ?_
 ·refine ⟨_,rfl,rfl,_,rfl,_2 (fun h1=>?_) (fun h1=>?_)⟩
  ·have hPd4:=s4 _ _ hP.d;have hPt4:∀p∈ps,SqT K H4 p.2.1 [.str p.2.2.1,.int p.2.2.2]:=fun p hp=>s4.sqt (hP.t p hp);refine Yr (fun σ Hx=>H4=Hx∧∃p r,TwoOk ps p r day∧r.2.2.2≤p.2.2.2∧σ=[some (.ref D),some (.ref Dk),some (.int c),some (.int kd),some (.ref L),some (.str p.1),some (.str r.1),some (.int day),some (.ref ak),some (.ref ae)]) (fun nx' rest'=>?_) ?_
   ·refine ⟨_,rfl,_,rfl,D,_,rfl,PpAt.get hP.nd (.inl hPd4) _x.ip,_,_,_,_,rfl,rfl,hPt4 _ _x.ip,_l (j:=1) rfl,_,rfl,_,rfl,D,_,rfl,PpAt.get hP.nd (.inl hPd4) _x.iq,_,_,_,_,rfl,rfl,hPt4 _ _x.iq,_l (j:=1) rfl,_,_,rfl,rfl,_,rfl,_2 (fun h2=>?_) (fun h2=>?_)⟩
    ·exact ⟨_,rfl,_,rfl,_,_,rfl,rest' _ _ ⟨rfl,r,p,_x.swap,Int.le_of_lt (QG h2),rfl⟩⟩
    ·exact rest' _ _ ⟨rfl,p,r,_x,Int.not_lt.mp (Rg h2),rfl⟩
   rintro σ _ ⟨rfl,p,r,_x,le,rfl⟩;refine ⟨_,rfl,_,rfl,few rfl,fun ak2 nak2=>⟨_,rfl,_,rfl,_,rfl,few rfl,fun ae2 nae2=>?_⟩⟩;have s5:=(_j (o:=.tup [.str "taken",.str p.1,.str r.1]) nak2).trans (_j (o:=.tup [.str "taken",.str p.1,.str r.1,.int day]) nae2);have hk5:_b (_b H4 ak2 (.tup [.str "taken",.str p.1,.str r.1])) ae2 (.tup [.str "taken",.str p.1,.str r.1,.int day]) ak2=some (.tup [.str "taken",.str p.1,.str r.1]):=by rw [_g (_R _f nae2),_f]
   have he5:_b (_b H4 ak2 (.tup [.str "taken",.str p.1,.str r.1])) ae2 (.tup [.str "taken",.str p.1,.str r.1,.int day]) ae2=some (.tup [.str "taken",.str p.1,.str r.1,.int day]):=_f;have n5:H ae2=none:=_N (s4.trans (_j nak2)) nae2;dsimp only [_V];generalize _b (_b H4 ak2 (.tup [.str "taken",.str p.1,.str r.1])) ae2 (.tup [.str "taken",.str p.1,.str r.1,.int day])=H5 at *;have s45:=s4.trans s5;have hPd5:=s45 _ _ hP.d;have hPt5:∀p∈ps,SqT K H5 p.2.1 [.str p.2.2.1,.int p.2.2.2]:=fun p hp=>s45.sqt (hP.t p hp);refine ⟨_,rfl,_,rfl,D,_,rfl,PpAt.get hP.nd (.inl hPd5) _x.ip,_,_,_,_,rfl,rfl,hPt5 _ _x.ip,_l (j:=1) rfl,_,rfl,_,rfl,D,_,rfl,PpAt.get hP.nd (.inl hPd5) _x.iq,_,_,_,_,rfl,rfl,hPt5 _ _x.iq,_l (j:=1) rfl,rfl,_,rfl,_2 (fun h2=>?_) (fun h2=>?_)⟩
   ·exact qn _ s45
   ·have nd:p.2.2.2≠r.2.2.2:=fun z=>by rw [z] at h2;exact absurd h2 (by simp)
    exact rest _ _ ⟨s45,p,r,day,ak2,ae2,_,_x,_x.taken hP.nd (by omega),hk5,.of he5,n5,rfl⟩
  ·exact rest _ _ ⟨s4,p,r,day,ak,ae,e,_x,de,hka,hea,nae,rfl⟩
 rintro σ H6 ⟨s6,p,r,day,ak,ae,e,_x,de,hka,hea,nae,rfl⟩;have hK6:=s6 _ _ hK;refine ⟨_,rfl,_,rfl,Dk,_,rfl,DGet.t hK6 hka,_,rfl,?_⟩;by_cases mem:e.told.key∈kn
 ·rw [_m5 mem];exact _1 (qn _ s6)
 ·rw [_dm mem];refine _O ⟨_,rfl,_,rfl,Dk,_,rfl,DPut.t (k:=e.told.key) hK6 hka (small1000 (by rw [Qc];omega)),?_⟩;rw [VB _ (_dm mem)];refine ⟨_,rfl,q _ ae e (fun b u nb hb=>by rw [_g nb];exact s6 _ _ hb) nae ?_ ?_ mem de⟩
  ·exact YH hea hK6 (fun _ z=>by cases z) (fun _ _ z=>by cases z)
  ·rw [_f];unfold Va;rw [Qh];rfl
theorem _jP:_ji P base T:=by
 refine Fun.okY T._dR.F Wx fun cdv A outer s H vs Q E hr h=>?_;obtain ⟨l,ss,rfl,hl,l63,q⟩:=h
 refine ⟨_,(_i (_B (i:=3) Wx.nd rfl (Or.inl rfl) (_Q (_i8 T) hr (_a (_Q (JH T) hr (_a (pv 0) (_a _d _c))) _c)))
   (_i (_B (i:=4) Wx.nd rfl (Or.inl rfl) Xl)
   (_i (_B (i:=5) Wx.nd rfl (Or.inl rfl) VP)
   (_i (_B (i:=6) Wx.nd rfl (Or.inl rfl) (Yb _c))
   (_i (_9 QD rfl (_dV (by rfl) T.n_range (_a (pv 1) (_a (_J (_bP rfl) (by rfl) T.n_min Ub (_a (_J Ys (by rfl) T.n_len _8 (_a (pv 0) _c)) (_a _d _c))) (_a _d _c)))) (_I (i:=7) Wx.nd rfl (Or.inl rfl))
    (_i (_B (i:=8) Wx.nd rfl (Or.inl rfl) (_v XQ (_m Ye (pv 0) (pv 7) (fun _ _=>rfl)) _d))
   (_i (_B (i:=9) Wx.nd rfl (Or.inl rfl) (_v Yn (_m Ye (pv 0) (pv 7) (fun _ _=>rfl)) _d))
   (_i (_z (PW.pt (Xb (_t Xs (_J JZ (by rfl) T.n_len _8 (_a (pv 4) _c)) _d (_r _)) (Xk (PW.pt (Wn (_t Xs (pv 9) _d (_r _)) (Wv (_t Xs (_J JZ (by rfl) T.n_len _8 (_a (pv 4) _c)) (pv 2) (_r _)))))))) (_i (_B (i:=10) Wx.nd rfl (Or.inl rfl) (_Q (_j0 T) hr (_a (pv 4) (_a (pv 3) (_a (pv 8) (_a (_Q (_oz T) hr (_a (pv 8) (_a (pv 7) (_a (_v Yn (_Q (JH T) hr (_a (pv 0) (_a _d _c))) _d) _c)))) _c))))))
   (_h (YU (_C hr) (pv 4) (_m _o (pv 10) _d (fun _ _=>rfl)) (_3 (_a (_m _o (pv 10) _d (fun _ _=>rfl)) (_a (_m _o (pv 10) _d (fun _ _=>rfl)) _c))) rfl))) (_h (_B (i:=10) Wx.nd rfl (Or.inl rfl) (_Q (_iT T) hr (_a (pv 4) (_a (pv 5) (_a (pv 8) (_a (pv 9) _c))))))))
   (_h (_z (_t _n8 (pv 10) JQ (_r _)) (_h (Yh (Y3 Rh Rn Ro XZ (pv 6) (_a (pv 10) _c)))) _A))))))
   (_h (_s (pv 6)))))))),?_⟩
 refine ⟨_,rfl,rfl,l,ss,0,rfl,hl,by decide,fun z0=>⟨rfl,z0,rfl,fun H1 Ln ns s1 nLn hLn N=>?_⟩⟩;refine fun D nD=>fun Dk nDk=>⟨few rfl,fun Le nLe=>?_⟩;have eD:=_j (o:=.dK []) nD;have eDk:=_j (o:=.dT []) nDk;have eLe:=_j (o:=.lst []) nLe;have nDH:=_N s1 nD;have nDkH:=_N (s1.trans eD) nDk;have nLeH:=_N ((s1.trans eD).trans eDk) nLe;have DkD:Dk≠D:=fun z=>by rw [z,_f] at nDk;cases nDk
 have LeDk:Le≠Dk:=fun z=>by rw [z,_f] at nLe;cases nLe
 have LeD:Le≠D:=fun z=>by rw [z,_g DkD.symm,_f] at nLe;cases nLe
 have LnD:Ln≠D:=_R hLn nD;have DkLn:Dk≠Ln:=fun z=>by rw [z,_g LnD] at nDk;rw [nDk] at hLn;cases hLn
 have LeLn:Le≠Ln:=fun z=>by rw [z,eDk _ _ (eD _ _ hLn)] at nLe;cases nLe
 have ln:(ss.map V.int).length=ss.length:=Qc ..;have s4:=((s1.trans eD).trans eDk).trans eLe;refine ⟨_,rfl,_,rfl,l,_,rfl,.inl (s4.sql hl),_,_,rfl,3,_,2,rfl,⟨by omega,by omega,by split<;>omega,by split<;>omega,by decide,by decide⟩,fun nn hn n1=>_nk (lo:=3) (c:=2) (fun i σ Hc=>∃(ks:List (Ent×Addr)) (ps:List Pp) (kn:List (List _k)) (v6 v7 v8 v9:Option V),σ=[some (.ref l),some (.int 3),some (.int 10),some (.ref Ln),some (.ref D),some (.ref Dk),some (.ref Le),v6,v7,v8,v9]∧Same H Hc∧Hc Ln=some (.lst (ns.map V.str))∧PpAt K Hc D ps∧Hc Dk=some (.dT (Va kn))∧Hc Le=some (.lst (XM ks))∧Jt K Hc ks∧EI ns (ks.map (·.1)) ps kn∧ks.length≤i) ⟨[],[],[],_,_,_,_,rfl,s4,eLe _ _ (eDk _ _ (eD _ _ hLn)),⟨by rw [_g LeD.symm,_g DkD.symm];exact _f,fun p hp=>(by cases hp),.nil⟩,by rw [_g LeDk.symm];exact _f,_f,fun p hp=>(by cases hp),EI.start,Qe _⟩ ?turn ?done⟩
 case done =>
  rintro σ Hc ⟨ks,ps,kn,v6,v7,v8,v9,rfl,sc,hLnc,hP,hK,hLe,hR,ei,kl⟩;refine ⟨_,rfl,q _ Le ks ns sc nLeH hLe hR N ei.good ?_⟩;rcases Nj 21 nn with h|h
  ·have:=hn 21 h;split at this<;>omega
  ·omega
 case turn =>
  rintro i σ Hc hi ⟨ks,ps,kn,v6,v7,v8,v9,rfl,sc,hLnc,hP,hK,hLe,hR,ei,kl⟩
  have hb:3+i*2<ss.length∧i<21:=by
   have:=hn i hi;rw [ln] at this;split at this<;>omega
  have ek:(3:Int)+(i:Int)*((2:Nat):Int)=((3+i*2:Nat):Int):=by omega
  rw [ek];have atk:_6 (ss.map V.int) ((3+i*2:Nat):Int)=some (.int ss[3+i*2]):=YB (by rw [Qi,Qu hb.1];rfl);refine ⟨_,rfl,_,rfl,l,_,_,_,rfl,rfl,sc.sql hl,atk,_,_,rfl,rfl,⟨by decide,XF (by decide) (by decide)⟩,_,rfl,_,rfl,l,_,_,_,rfl,rfl,sc.sql hl,atk,_,_,rfl,rfl,Xr (by decide),?_⟩;dsimp only [_V];refine Yr (fun σ Hx=>Same H Hx∧Hx Ln=some (.lst (ns.map V.str))∧∃(ps:List Pp) (kn:List (List _k)) (v9:V),PpAt K Hx D ps∧Hx Dk=some (.dT (Va kn))∧Hx Le=some (.lst (XM ks))∧Jt K Hx ks∧σ=[some (.ref l),some (.int 3),some (.int 10),some (.ref Ln),some (.ref D),some (.ref Dk),some (.ref Le),some (.int ((3+i*2:Nat):Int)),some (.int (ss[3+i*2].fdiv 9)),some (.int (ss[3+i*2].fmod 9)),some v9]∧((v9=.non∧EI ns (ks.map (·.1)) ps kn)∨∃a e,v9=.ref a∧SqT K Hx a (e.row.map kV)∧EI ns (ks.map (·.1)++[e]) ps kn)) (fun nx rest=>?_) ?_
  ·have pl:((XR ps).length:Int)=(ps.length:Int):=by rw [Qc]
   refine ⟨_,rfl,D,_,rfl,hP.d,_,_,rfl,rfl,_,rfl,_2 (fun h1=>?b1) (fun h1=>⟨_,rfl,_,_,rfl,rfl,_,rfl,_2 (fun h2=>⟨_,rfl,D,_,rfl,hP.d,_,rfl,_,_,rfl,rfl,_,rfl,_2 (fun h3=>?b2) (fun h3=>?d1)⟩) (fun h2=>?d2)⟩)⟩
   case b1 =>
    have l24:ps.length<24:=by have:=QG h1;omega
    refine ⟨_,rfl,_,rfl,_,rfl,_,rfl,_,rfl,_,rfl,rfl,l,ss,1,rfl,sc.sql hl,by decide,fun z=>⟨_,_,rfl,rfl,Xr (by decide),rfl,_,_,_,rfl,by omega,by omega,fun d d1 d2=>⟨rfl,D,Ln,_,d,ps,ns,rfl,hP,.of hLnc,N.len,l24,fun H5 a n s f m s5 na ha hn hs hf hm=>?_⟩⟩⟩;refine ⟨_,rfl,a,_,_,_,rfl,rfl,ha,_l (j:=2) rfl,_,rfl,a,_,_,_,rfl,rfl,ha,_l (j:=3) rfl,few rfl,fun at' nat=>?_⟩;have s6:=s5.trans (_j (o:=.tup [.str s,.int d]) nat);have hD6:=s6 _ _ hP.d
    have nin:n∉ps.map (·.1):=fun z=>by
     have nd':(ns.take (ps.length+1)).Nodup:=N.nd.sublist (RJ ..);rw [Q1,hn,←ei.nm] at nd';exact (QV.mp nd').2.2 n z n (by simp) rfl
    refine ⟨_,rfl,_,rfl,a,_,_,_,rfl,rfl,(_j nat).sqt ha,_l (j:=1) rfl,D,_,rfl,DPut.k (k:=.inr n) hD6 (small1000 (by rw [Qc];omega)),?_⟩;rw [_dt (s:=s) (d:=d) nin];have ei':=ei.birth N (a:=at') hn l24 hs hf hm d1 d2;have pt:∀{c:Addr} {xs:List V},SqT K (_b H5 at' (.tup [.str s,.int d])) c xs->SqT K (_b (_b H5 at' (.tup [.str s,.int d])) D (.dK (XR (ps++[(n,at',s,d)])))) c xs:=fun h=>YH h hD6 (fun _ z=>by cases z) (fun _ _ z=>by cases z);refine rest _ _ ⟨fun c u e=>by rw [_g (fun z=>by rw [z,nDH] at e;cases e)];exact s6 _ _ (sc _ _ e),by rw [_g LnD];exact s6 _ _ hLnc,_,kn,_,⟨_f,fun p hp=>?_,ei'.nd N⟩,by rw [_g DkD];exact s6 _ _ hK,by rw [_g LeD];exact s6 _ _ hLe,fun p hp=>pt (s6.sqt (hR p hp)),rfl,.inr ⟨a,_,rfl,pt ((_j nat).sqt ha),ei'⟩⟩;rcases Qm.mp hp with hp|hp
    ·exact pt (s6.sqt (hP.t p hp))
    ·rw [show p=(n,at',s,d) by simpa using hp];exact pt (.of _f)
   case b2 =>
    have l24:ps.length<24:=by have:=QG h3;omega
    refine ⟨_,rfl,_,rfl,_,rfl,_,rfl,_,rfl,_,rfl,rfl,l,ss,1,rfl,sc.sql hl,by decide,fun z=>⟨_,_,rfl,rfl,Xr (by decide),rfl,_,_,_,rfl,by omega,by omega,fun d d1 d2=>⟨rfl,D,Ln,_,d,ps,ns,rfl,hP,.of hLnc,N.len,l24,fun H5 a n s f m s5 na ha hn hs hf hm=>?_⟩⟩⟩;refine ⟨_,rfl,a,_,_,_,rfl,rfl,ha,_l (j:=2) rfl,_,rfl,a,_,_,_,rfl,rfl,ha,_l (j:=3) rfl,few rfl,fun at' nat=>?_⟩;have s6:=s5.trans (_j (o:=.tup [.str s,.int d]) nat);have hD6:=s6 _ _ hP.d
    have nin:n∉ps.map (·.1):=fun z=>by
     have nd':(ns.take (ps.length+1)).Nodup:=N.nd.sublist (RJ ..);rw [Q1,hn,←ei.nm] at nd';exact (QV.mp nd').2.2 n z n (by simp) rfl
    refine ⟨_,rfl,_,rfl,a,_,_,_,rfl,rfl,(_j nat).sqt ha,_l (j:=1) rfl,D,_,rfl,DPut.k (k:=.inr n) hD6 (small1000 (by rw [Qc];omega)),?_⟩;rw [_dt (s:=s) (d:=d) nin];have ei':=ei.birth N (a:=at') hn l24 hs hf hm d1 d2;have pt:∀{c:Addr} {xs:List V},SqT K (_b H5 at' (.tup [.str s,.int d])) c xs->SqT K (_b (_b H5 at' (.tup [.str s,.int d])) D (.dK (XR (ps++[(n,at',s,d)])))) c xs:=fun h=>YH h hD6 (fun _ z=>by cases z) (fun _ _ z=>by cases z);refine rest _ _ ⟨fun c u e=>by rw [_g (fun z=>by rw [z,nDH] at e;cases e)];exact s6 _ _ (sc _ _ e),by rw [_g LnD];exact s6 _ _ hLnc,_,kn,_,⟨_f,fun p hp=>?_,ei'.nd N⟩,by rw [_g DkD];exact s6 _ _ hK,by rw [_g LeD];exact s6 _ _ hLe,fun p hp=>pt (s6.sqt (hR p hp)),rfl,.inr ⟨a,_,rfl,pt ((_j nat).sqt ha),ei'⟩⟩;rcases Qm.mp hp with hp|hp
    ·exact pt (s6.sqt (hP.t p hp))
    ·rw [show p=(n,at',s,d) by simpa using hp];exact pt (.of _f)
   case d1 =>
    have p2:2≤ps.length:=by have:=Rg h1;omega
    refine ⟨_,rfl,_,rfl,_,rfl,_,rfl,rfl,D,Dk,_,_,ps,kn,rfl,hP,hK,p2,ei.len,by have:=ei.knl;rw [Qc] at this;omega,ei.ok,ei.pd,fun H5 s5=>rest _ _ ⟨sc.trans s5,s5 _ _ hLnc,ps,kn,_,hP.mono s5,s5 _ _ hK,s5 _ _ hLe,fun p hp=>s5.sqt (hR p hp),rfl,.inl ⟨rfl,ei⟩⟩,fun H5 a e fr na ha hK5 nk de=>rest _ _ ⟨fun c u e=>fr _ _ (fun z=>by rw [z,nDkH] at e;cases e) (sc _ _ e),fr _ _ DkLn.symm hLnc,ps,kn++[e.told.key],_,⟨fr _ _ DkD.symm hP.d,fun p hp=>_aB fr hK (hP.t p hp),hP.nd⟩,hK5,fr _ _ LeDk hLe,fun p hp=>_aB fr hK (hR p hp),rfl,.inr ⟨a,e,rfl,ha,ei.deed N de nk⟩⟩⟩
   case d2 =>
    have p2:2≤ps.length:=by have:=Rg h1;omega
    refine ⟨_,rfl,_,rfl,_,rfl,_,rfl,rfl,D,Dk,_,_,ps,kn,rfl,hP,hK,p2,ei.len,by have:=ei.knl;rw [Qc] at this;omega,ei.ok,ei.pd,fun H5 s5=>rest _ _ ⟨sc.trans s5,s5 _ _ hLnc,ps,kn,_,hP.mono s5,s5 _ _ hK,s5 _ _ hLe,fun p hp=>s5.sqt (hR p hp),rfl,.inl ⟨rfl,ei⟩⟩,fun H5 a e fr na ha hK5 nk de=>rest _ _ ⟨fun c u e=>fr _ _ (fun z=>by rw [z,nDkH] at e;cases e) (sc _ _ e),fr _ _ DkLn.symm hLnc,ps,kn++[e.told.key],_,⟨fr _ _ DkD.symm hP.d,fun p hp=>_aB fr hK (hP.t p hp),hP.nd⟩,hK5,fr _ _ LeDk hLe,fun p hp=>_aB fr hK (hR p hp),rfl,.inr ⟨a,e,rfl,ha,ei.deed N de nk⟩⟩⟩
  ·rintro σ Hx ⟨sx,hLnx,ps,kn,v9,hP,hK,hLe,hR,rfl,hv⟩;rcases hv with ⟨rfl,ei⟩|⟨a,e,rfl,ha,ei⟩
   ·exact ⟨_,rfl,rfl,_,rfl,_D (by rfl) ⟨ks,ps,kn,_,_,_,_,rfl,sx,hLnx,hP,hK,hLe,hR,ei,by omega⟩⟩
   ·refine ⟨_,rfl,rfl,_,rfl,_Z (by rfl) ⟨_,rfl,.inl ⟨rfl,_,.of hLe⟩,_,rfl,Le,_,_,rfl,rfl,hLe,small1000 (by rw [_ai];omega),ks++[(e,a)],ps,kn,_,_,_,_,rfl,fun c u e=>by rw [_g (fun z=>by rw [z,nLeH] at e;cases e)];exact sx _ _ e,?_,⟨?_,fun p hp=>?_,hP.nd⟩,?_,?_,fun p hp=>?_,?_,?_⟩⟩
    ·rw [_g LeLn.symm];exact hLnx
    ·rw [_g LeD.symm];exact hP.d
    ·exact YH (hP.t p hp) hLe (fun _ z=>by cases z) (fun _ _ z=>by cases z)
    ·rw [_g LeDk.symm];exact hK
    ·rw [_f,_hy]
    ·rcases Qm.mp hp with hp|hp
     ·exact YH (hR p hp) hLe (fun _ z=>by cases z) (fun _ _ z=>by cases z)
     ·rw [show p=(e,a) by simpa using hp];exact YH ha hLe (fun _ z=>by cases z) (fun _ _ z=>by cases z)
    ·rw [Qh];exact ei
    ·rw [Qx];exact NT kl
theorem _cm: _mV P base T:=by
 refine Fun.okY T._cD.F _k4 fun cdv A outer s H vs Q E hr h=>?_;obtain ⟨D,L,lo,hi,ed,n,rfl,hE,hb,n5,hL,q⟩:=h
 refine ⟨_,(_i (Yh (Y3 Rh Rn Ro XZ (Jh (_C hr) (pv 0) (_3 (_a (pv 1) (_a (pv 2) _c))) (Yb _c) ⟨rfl,rfl,rfl,rfl⟩) (_a (pv 3) _c)))
   (_h (Yh (Y3 Rh Rn Ro XZ (Jh (_C hr) (pv 0) (_3 (_a (_hi K RE PySem.F.slot_str_lower PySem.F.type_str_lower _lh (pv 1)) (_a (pv 3) _c))) (Yb _c) ⟨rfl,rfl,rfl,rfl⟩) (_a (pv 2) _c))))),?_⟩
 refine Yr (fun σ Hx=>σ=[some (.ref D),some (.str L),some (.str lo),some (.str hi)]∧Uu D ed n (L,lo) hi H Hx) (fun nx rest=>?_) ?_
 ·refine ⟨_,rfl,D,rfl,.inr ⟨_,.inl hE.d⟩,_,rfl,_,rfl,few rfl,fun t nt=>⟨few rfl,fun z nz=>?_⟩⟩;have st:=_j (o:=.tup [.str ((L,lo):Str×Str).1,.str ((L,lo):Str×Str).2]) nt;have sz:=_j (o:=.lst []) nz;obtain ⟨hD2,ln2,old,new⟩:=_ao (c:=((L,lo):Str×Str)) (x:=hi) hE hb (by omega) (st.trans sz) (_N st nz) _f;refine ⟨Xx ed,_x ((L,lo):Str×Str),t,hD2,rfl,sz _ _ _f,ln2,fun v hv=>?_,fun hv=>?_⟩
  ·obtain ⟨b,xs,rfl,hb2,lx,add⟩:=old v hv;exact ⟨.inl ⟨rfl,_,.of hb2⟩,_,rfl,b,_,_,rfl,rfl,hb2,lx,rest _ _ ⟨rfl,add⟩⟩
  ·obtain ⟨hz3,add⟩:=new hv;exact ⟨.inl ⟨rfl,_,.of hz3⟩,_,rfl,z,_,_,rfl,rfl,hz3,small1000 (by simp),rest _ _ ⟨rfl,add⟩⟩
 rintro σ H1 ⟨rfl,ed1,hE1,hb1,lk1,fr1⟩;have ll:L.length≤1000:=by rcases hL with rfl|rfl|rfl<;>trivial
 have fin:∀H',Uu D ed1 (n+1) (JM L,hi) lo H1 H'->Q .non H':=fun H' ⟨ed2,hE2,hb2,lk2,fr2⟩=>q H' ed2 hE2 hb2 (fun c=>by rw [lk2,show lk ed1=_W (lk ed) (L,lo) hi from funext lk1]) (fr1.trans fr2);refine ⟨_,rfl,D,rfl,.inr ⟨_,.inl hE1.d⟩,_,rfl,rfl,L,rfl,rfl,ll,_,rfl,few rfl,fun t nt=>⟨few rfl,fun z nz=>?_⟩⟩;have st:=_j (o:=.tup [.str ((Txt.lower L,hi):Str×Str).1,.str ((Txt.lower L,hi):Str×Str).2]) nt;have sz:=_j (o:=.lst []) nz;obtain ⟨hD2,ln2,old,new⟩:=_ao (c:=((Txt.lower L,hi):Str×Str)) (x:=lo) hE1 hb1 (by omega) (st.trans sz) (_N st nz) _f;refine ⟨Xx ed1,_x ((Txt.lower L,hi):Str×Str),t,hD2,rfl,sz _ _ _f,ln2,fun v hv=>?_,fun hv=>?_⟩
 ·obtain ⟨b,xs,rfl,hb2,lx,add⟩:=old v hv;exact ⟨.inl ⟨rfl,_,.of hb2⟩,_,rfl,b,_,_,rfl,rfl,hb2,lx,fin _ (by rw [←_ey hL];exact add)⟩
 ·obtain ⟨hz3,add⟩:=new hv;exact ⟨.inl ⟨rfl,_,.of hz3⟩,_,rfl,z,_,_,rfl,rfl,hz3,small1000 (by simp),fin _ (by rw [←_ey hL];exact add)⟩
theorem _kC:_k8 P base T:=by
 refine Fun.okY T._fo.F WR fun cdv A outer s H vs Q E hr h=>?_;obtain ⟨Le,ks,ns,rfl,hLe,hR,gd,l40,q⟩:=h
 refine ⟨_,(_i (_B (i:=1) WR.nd rfl (Or.inl rfl) VP)
   (_i (_B (i:=2) WR.nd rfl (Or.inl rfl) VP)
   (_i (_9 QD rfl (_5 (pv 0)) (_I (i:=3) WR.nd rfl (Or.inl rfl))
    (_i (_z (_t _U (_m _o (pv 3) _d (fun _ _=>rfl)) _q (_r _)) (_i (YU (_C hr) (pv 1) (_3 (_a (_m _o (pv 3) _d (fun _ _=>rfl)) (_a (_m _o (pv 3) _d (fun _ _=>rfl)) _c))) (Yb (_a (_m _o (pv 3) _d (fun _ _=>rfl)) _c)) rfl)
   (_h (_9 QD rfl (_5 (Yb (_a (_3 (_a _q (_a (_m _o (pv 3) _d (fun _ _=>rfl)) _c))) (_a (_3 (_a _q (_a (_m _o (pv 3) _d (fun _ _=>rfl)) _c))) _c)))) (VR rfl (YN (_I (i:=4) WR.nd rfl (Or.inl rfl)) (YN (_I (i:=5) WR.nd rfl (Or.inl rfl)) Wi)))
    (_h (_z (_t Wt (pv 5) _q (_r _)) (_h (Yh (_Q (_cm T) hr (_a (pv 1) (_a (pv 4) (_a (_m _o (pv 3) _d (fun _ _=>rfl)) (_a (pv 5) _c))))))) _A))))) _A)
   (_i (_z (_t _U (_m _o (pv 3) _d (fun _ _=>rfl)) _q (_r _)) (_h (Yh (_Q (_cm T) hr (_a (pv 1) (_a _q (_a (_m _o (pv 3) _d (fun _ _=>rfl)) (_a (_m _o (pv 3) _d (fun _ _=>rfl)) _c))))))) _A)
   (_h (_z (PW.pt (Xb (_t _U (_m _o (pv 3) _d (fun _ _=>rfl)) _q (_r _)) (Xk (_t _U (_m _o (pv 3) _d (fun _ _=>rfl)) _q (_r _))))) (_i (_B (i:=6) WR.nd rfl (Or.inl rfl) (_3 (_a (_J (_bp rfl) (by rfl) T.n_min Ub (_a (_m _o (pv 3) _d (fun _ _=>rfl)) (_a (_m _o (pv 3) _d (fun _ _=>rfl)) _c))) (_a (_J (_cd rfl) (by rfl) T.n_max Jf (_a (_m _o (pv 3) _d (fun _ _=>rfl)) (_a (_m _o (pv 3) _d (fun _ _=>rfl)) _c))) _c))))
   (_h (_z (PW.pt (Xb (Vo (_av (_C hr) (pv 6) (pv 2))) (Xk (_t Xs (_m _o (Yk (_C hr) (pv 2) (pv 6) (fun _ _=>rfl)) _d (fun _ _=>rfl)) (_m _o (pv 3) _d (fun _ _=>rfl)) (_r _))))) (_h (YU (_C hr) (pv 2) (pv 6) (_3 (_a (_m _o (pv 3) _d (fun _ _=>rfl)) (_a (_m _o (pv 3) _d (fun _ _=>rfl)) _c))) rfl)) _A))) _A)))))
   (_i (_ia (_9 QD rfl (_mo (_hi K G3 PySem.F.slot_dict_items PySem.F.type_dict_items _ow (pv 2))) (VR rfl (YN (_I (i:=6) WR.nd rfl (Or.inl rfl)) (YN (_I (i:=7) WR.nd rfl (Or.inl rfl)) Wi)))
    (_h (_z (_t _U (_m _o (pv 7) _d (fun _ _=>rfl)) _q (_r _)) (_i (Yh (Y3 Rh Rn Ro XZ (Jh (_C hr) (pv 1) (_3 (_a _q (_a (_m _o (pv 6) _d (fun _ _=>rfl)) _c))) (Yb _c) ⟨rfl,rfl,rfl,rfl⟩) (_a (_m _o (pv 6) _d (fun _ _=>rfl)) _c)))
   (_h (Yh (Y3 Rh Rn Ro XZ (Jh (_C hr) (pv 1) (_3 (_a _q (_a (_m _o (pv 6) _d (fun _ _=>rfl)) _c))) (Yb _c) ⟨rfl,rfl,rfl,rfl⟩) (_a (_m _o (pv 6) _d (fun _ _=>rfl)) _c))))) _A))))
   (_h (_s (pv 1))))))),?_⟩
 refine fun D nD=>fun Dl nDl=>?_;have eD:=_j (o:=.dT []) nD;have eDl:=_j (o:=.dT []) nDl;have s0:=eD.trans eDl;have nDlH:=_N eD nDl;have DlD:Dl≠D:=fun z=>by rw [z,_f] at nDl;cases nDl
 refine ⟨_,rfl,Le,rfl,⟨_,s0.sql hLe⟩,YL (xs:=XM ks) (fun i σ Hc=>∃(ed:Ed) (ls:XD) (v3 v4 v5 v6 v7:Option V),σ=[some (.ref Le),some (.ref D),some (.ref Dl),v3,v4,v5,v6,v7]∧Same H Hc∧EdAt Hc D ed∧EdB ed (5*i)∧(∀c,lk ed c=Yu ((ks.take i).map (·.1)) c)∧(∀b∈ed.map (·.2.1),H b=none)∧LsAt K Hc Dl ls∧(∀c,(_F c ls).map (·.2)=YF ((ks.take i).map (·.1)) c)∧ls.length≤i) ?start ?list ?turn ?done⟩
 case start=>exact ⟨[],[],_,_,_,_,_,rfl,s0,⟨by rw [_g DlD.symm];exact _f,fun q hq=>(by cases hq),.nil,.nil⟩,⟨QM _,fun q hq=>(by cases hq)⟩,fun c=>rfl,fun b hb=>(by cases hb),⟨_f,fun q hq=>(by cases hq),.nil⟩,fun c=>rfl,Qe _⟩
 case list =>
  rintro i σ Hc _ ⟨ed,ls,v3,v4,v5,v6,v7,rfl,sc,_⟩;exact sc.sql hLe
 case turn =>
  rintro i y σ Hc hy ⟨ed,ls,v3,v4,v5,v6,v7,rfl,sc,hE,hb,hlk,hn,hl,hla,ll⟩;obtain ⟨⟨e,a⟩,hp,rfl⟩:=_f4 hy;have il:=(QB.mp hp).1;have row:=sc.sqt (hR _ (Qt hp));have tk:(ks.take (i+1)).map (·.1)=(ks.take i).map (·.1)++[e]:=_cT hp;by_cases et:e.tie=true
  ·obtain ⟨x,y,d,W,hr,hW,epr,ekd,edy⟩:=_my et;rw [hr] at row;have eS:∀f:_M,Yq f e=f:=fun f=>_lp et;rcases hW with eW|eW;refine ⟨_,rfl,a,_,_,_,rfl,rfl,row,_l (j:=0) rfl,rfl,_,rfl,_D (by rw [eW];trivial) ⟨_,rfl,a,_,_,_,rfl,rfl,row,_l (j:=0) rfl,rfl,_,rfl,_D (by rw [eW];trivial) ⟨_,rfl,a,_,_,_,rfl,rfl,row,_l (j:=0) rfl,rfl,_,rfl,_Z (by rw [eW];trivial) ?_⟩⟩⟩
   rotate_left
   refine ⟨_,rfl,a,_,_,_,rfl,rfl,row,_l (j:=0) rfl,rfl,_,rfl,_D (by rw [eW];trivial) ⟨_,rfl,a,_,_,_,rfl,rfl,row,_l (j:=0) rfl,rfl,_,rfl,_D (by rw [eW];trivial) ⟨_,rfl,a,_,_,_,rfl,rfl,row,_l (j:=0) rfl,rfl,_,rfl,_D (by rw [eW];trivial) ⟨_,rfl,a,_,_,_,rfl,rfl,row,_l (j:=0) rfl,rfl,_,rfl,_Z (by rw [eW];trivial) ?_⟩⟩⟩⟩
   all_goals
    refine ⟨_,rfl,a,_,_,_,rfl,rfl,row,_l (j:=1) rfl,_,rfl,a,_,_,_,rfl,rfl,row,_l (j:=2) rfl,_,_,rfl,_,rfl,a,_,_,_,rfl,rfl,row,_l (j:=1) rfl,_,rfl,a,_,_,_,rfl,rfl,row,_l (j:=2) rfl,_,_,rfl,few rfl,fun tp ntp=>?_⟩;rw [_be,_bk];have s1:=_j (o:=.tup [.str (_e x y).1,.str (_e x y).2]) ntp;have htp:_b Hc tp (.tup [.str (_e x y).1,.str (_e x y).2]) tp=some (.tup [.str (_e x y).1,.str (_e x y).2]):=_f;dsimp only [_V];generalize _b Hc tp (.tup [.str (_e x y).1,.str (_e x y).2])=H1 at *;have hl1:=hl.mono s1;have row1:=s1.sqt row;have g:=DGet.t (k:=_x (_e x y)) hl1.d htp;rw [_hn] at g;have lla:=hla (_e x y);have keep:∀c,c≠_e x y->YF ((ks.take i).map (·.1)++[e]) c=YF ((ks.take i).map (·.1)) c:=fun c nc=>by rw [_aC];exact Qa fun z=>nc (by rw [z.2,epr])
    have put:∀(o:Option (Int×Str)),YF ((ks.take i).map (·.1)) (_e x y)=o->(∀r,o=some r->r.1<d)->YF ((ks.take i).map (·.1)++[e]) (_e x y)=some (d,W):=fun o ho hlt=>by
     rw [_aC];unfold X5;rw [Qb ⟨et,by rw [epr]⟩,ho,edy,ekd];cases o with
     |none=>rfl
     |some r=>exact Qb (hlt r rfl)
    have PUT:∀(tr:Addr) (ntr:H1 tr=none),(∀r,YF ((ks.take i).map (·.1)) (_e x y)=some r->r.1<d)->∃(ls':XD),LsAt K (_b (_b H1 tr (.tup [.int d,.str W])) Dl (.dT (Yj (Xu ls) (_x (_e x y)) (.ref tr)))) Dl ls'∧(∀c,(_F c ls').map (·.2)=YF ((ks.take (i+1)).map (·.1)) c)∧ls'.length≤i+1:=fun tr ntr hlt=>by
     have s2:=_j (o:=.tup [.int d,.str W]) ntr;have hd2:=s2 _ _ hl1.d;refine ⟨_n ls (_e x y) (tr,d,W),⟨by rw [_f,←_of],fun q hq=>?_,Ji hl.kn⟩,fun c=>?_,Qj (X0 ..) (by omega)⟩
     ·rcases UB hq with rfl|hq
      ·exact YH (.of _f) hd2 (fun _ z=>by cases z) (fun _ _ z=>by cases z)
      ·exact YH (s2.sqt (hl1.t q hq)) hd2 (fun _ z=>by cases z) (fun _ _ z=>by cases z)
     ·rw [_fK,tk];by_cases e:c=_e x y
      ·subst e;rw [Qb rfl,put _ rfl hlt];rfl
      ·rw [Qa e,keep c e];exact hla c
    have FIN:∀(tr:Addr) (ntr:H1 tr=none),(∀r,YF ((ks.take i).map (·.1)) (_e x y)=some r->r.1<d)->∃(ed:Ed) (ls1:XD) (v3 v4' v5' v6' v7':Option V),[some (.ref Le),some (.ref D),some (.ref Dl),some (.ref a),v4,v5,some (.ref tp),v7]=[some (.ref Le),some (.ref D),some (.ref Dl),v3,v4',v5',v6',v7']∧Same H (_b (_b H1 tr (.tup [.int d,.str W])) Dl (.dT (Yj (Xu ls) (_x (_e x y)) (.ref tr))))∧EdAt (_b (_b H1 tr (.tup [.int d,.str W])) Dl (.dT (Yj (Xu ls) (_x (_e x y)) (.ref tr)))) D ed∧EdB ed (5*(i+1))∧(∀c,lk ed c=Yu ((ks.take (i+1)).map (·.1)) c)∧(∀b∈ed.map (·.2.1),H b=none)∧LsAt K (_b (_b H1 tr (.tup [.int d,.str W])) Dl (.dT (Yj (Xu ls) (_x (_e x y)) (.ref tr)))) Dl ls1∧(∀c,(_F c ls1).map (·.2)=YF ((ks.take (i+1)).map (·.1)) c)∧ls1.length≤i+1:=fun tr ntr hlt=>by
     obtain ⟨ls',h1,h2,h3⟩:=PUT tr ntr hlt;have s2:=s1.trans (_j (o:=.tup [.int d,.str W]) ntr);have hE2:=hE.mono s2;have hd2:=s2 _ _ hl.d;refine ⟨ed,ls',_,_,_,_,_,rfl,fun c u e=>?_,⟨?_,fun q hq=>?_,hE.an,hE.kn⟩,hb.mono (by omega),fun c=>?_,hn,h1,h2,h3⟩
     ·rw [_g (fun z=>by rw [z,nDlH] at e;cases e)];exact s2 _ _ (sc _ _ e)
     ·rw [_g DlD.symm];exact hE2.d
     ·rw [_g (fun z=>by have:=hE2.l q hq;rw [z,hd2] at this;cases this)];exact hE2.l q hq
     ·rw [tk,JN,eS];exact hlk c
    refine ⟨_,rfl,_,rfl,Dl,_,rfl,g,_,rfl,?_⟩;cases hf:_F (_e x y) ls with
    |none =>
     rw [hf] at lla;refine _Z (by rfl) ⟨_,rfl,a,_,_,_,rfl,rfl,row1,_l (j:=3) rfl,_,rfl,a,_,_,_,rfl,rfl,row1,_l (j:=0) rfl,few rfl,fun tr ntr=>⟨_,rfl,_,rfl,Dl,_,rfl,DPut.t (k:=_x (_e x y)) ((_j ntr) _ _ hl1.d) ((_j ntr) _ _ htp) (small1000 (by rw [Qc];omega)),FIN tr ntr (fun r hr=>by rw [←lla] at hr;cases hr)⟩⟩
    |some w =>
     obtain ⟨ar,dd,kk⟩:=w;rw [hf] at lla g;have hm:=Vj hf;refine _D (by rfl) ⟨_,rfl,_,rfl,Dl,_,rfl,g,ar,_,_,_,rfl,rfl,hl1.t _ hm,_l (j:=0) rfl,_,rfl,a,_,_,_,rfl,rfl,row1,_l (j:=3) rfl,_,_,rfl,rfl,_,rfl,_2 (fun h2=>?_) (fun h2=>?_)⟩
     ·refine ⟨_,rfl,a,_,_,_,rfl,rfl,row1,_l (j:=3) rfl,_,rfl,a,_,_,_,rfl,rfl,row1,_l (j:=0) rfl,few rfl,fun tr ntr=>⟨_,rfl,_,rfl,Dl,_,rfl,DPut.t (k:=_x (_e x y)) ((_j ntr) _ _ hl1.d) ((_j ntr) _ _ htp) (small1000 (by rw [Qc];omega)),FIN tr ntr (fun r hr=>by rw [←lla] at hr;cases hr;exact QG h2)⟩⟩
     ·refine ⟨ed,ls,_,_,_,_,_,rfl,sc.trans s1,hE.mono s1,hb.mono (by omega),fun c=>?_,hn,hl1,fun c=>?_,by omega⟩
      ·rw [tk,JN,eS];exact hlk c
      ·rw [tk,_aC];unfold X5;by_cases e:c=_e x y
       ·subst e;rw [Qb ⟨et,by rw [epr]⟩,←lla,edy,ekd];show _=if dd<d then _ else _;rw [Qa (Rg h2),hf];rfl
       ·rw [Qa (fun z=>e (by rw [z.2,epr]))];exact hla c
  cases e with
  |taken x y d =>
   refine ⟨_,rfl,a,_,_,_,rfl,rfl,row,_l (j:=0) rfl,rfl,_,rfl,_D (by trivial) ⟨_,rfl,a,_,_,_,rfl,rfl,row,_l (j:=0) rfl,rfl,_,rfl,_Z (by trivial) ⟨_,rfl,_,rfl,a,_,_,_,rfl,rfl,row,_l (j:=1) rfl,_,rfl,a,_,_,_,rfl,rfl,row,_l (j:=2) rfl,rfl,D,"T",x,y,ed,_,rfl,hE,hb,by omega,.inr (.inr rfl),fun H1 ed1 hE1 hb1 lk1 fr1=>?_⟩⟩⟩;have row1:=fr1.sqt hE row;obtain ⟨sc1,hn1⟩:=fr1.same sc nD hn;refine ⟨_,rfl,a,_,_,_,rfl,rfl,row1,_l (j:=0) rfl,rfl,_,rfl,_D (by trivial) ⟨_,rfl,a,_,_,_,rfl,rfl,row1,_l (j:=0) rfl,rfl,_,rfl,_D (by trivial) ⟨ed1,ls,_,_,_,_,_,rfl,sc1,hE1,hb1.mono (by omega),fun c=>?_,hn1,fr1.ls hE DlD hl,fun c=>?_,by omega⟩⟩⟩
   ·rw [tk,JN,lk1,show lk ed=Yu ((ks.take i).map (·.1)) from funext hlk];rfl
   ·rw [tk,_dC rfl];exact hla c
  |union=>exact absurd rfl et
  |parted=>exact absurd rfl et
  |born n s d fa mo =>
   have row:SqT K Hc a [.str "born",.str n,.str s,.int d,.str fa,.str mo]:=row;have gt:GdL ns ((ks.take i).map (·.1)++[.born n s d fa mo]):=by rw [←tk,Gr];exact gd.take _
   obtain ⟨_,d5,_,fit⟩:=gt.last rfl
   have fresh:∀e∈(ks.take i).map (·.1),e.bornName≠some n:=fun e he z=>by
    cases e with
    |born n' s' d' f' m' =>
     cases z;exact fit.key _ (Qf.mpr ⟨_,he,rfl⟩) rfl
    |_=>cases z
   have nk:_K (s,n) ed=none:=_iE hb (by rw [hlk];exact _kT (_fV d5.1) fresh);dsimp only [_V];refine Yr (fun σ Hx=>∃(ed:Ed) (v4 v5:Option V),σ=[some (.ref Le),some (.ref D),some (.ref Dl),some (.ref a),v4,v5,v6,v7]∧Same H Hx∧EdAt Hx D ed∧EdB ed (5*(i+1))∧(∀c,lk ed c=Yq (Yu ((ks.take i).map (·.1))) (.born n s d fa mo) c)∧(∀b∈ed.map (·.2.1),H b=none)∧LsAt K Hx Dl ls) (fun nx rest=>?_) ?_
   ·refine ⟨_,rfl,a,_,_,_,rfl,rfl,row,_l (j:=0) rfl,rfl,_,rfl,_Z (by trivial) ⟨_,rfl,a,_,_,_,rfl,rfl,row,_l (j:=1) rfl,few rfl,fun z nz=>?_⟩⟩;have sz:=_j (o:=.lst [.str n]) nz;refine ⟨_,rfl,_,rfl,a,_,_,_,rfl,rfl,(sz.sqt row),_l (j:=2) rfl,_,rfl,a,_,_,_,rfl,rfl,(sz.sqt row),_l (j:=1) rfl,few rfl,fun t nt=>?_⟩;have st:=_j (o:=.tup [.str s,.str n]) nt;have szt:=sz.trans st;have ht1:_b (_b Hc z (.lst [.str n])) t (.tup [.str s,.str n]) t=some (.tup [.str s,.str n]):=_f;have hz1:=st _ _ (_f (H:=Hc) (a:=z) (o:=.lst [.str n]));generalize _b (_b Hc z (.lst [.str n])) t (.tup [.str s,.str n])=H1 at *;have hD1:=szt _ _ hE.d;refine ⟨D,_,rfl,DPut.t (k:=_x (s,n)) hD1 ht1 (small1000 (by rw [Qc];have:=hb.len;omega)),?_⟩;rw [VB _ (by rw [Vq,nk];rfl)];have zD:z≠D:=fun e=>by rw [e,hD1] at hz1;cases hz1
    obtain ⟨ed1,hE1,hb1,lk1,fr1⟩:=_fz (H':=_b H1 D (.dT (Xx ed++[(_x (s,n),.ref z)]))) (xs:=[n]) hE hb nk nz (by simp) (by simp) _f (by rw [_g zD];exact hz1) (fun b u nb e=>by rw [_g nb];exact szt _ _ e) (fun b hbn=>by
     by_cases e:b=D
     ·rw [e,_f] at hbn;cases hbn
     ·rw [_g e] at hbn;exact _N szt hbn)
    obtain ⟨sc1,hn1⟩:=fr1.same sc nD hn;have row1:=fr1.sqt hE row;have hl1:=fr1.ls hE DlD hl;generalize _b H1 D (.dT (Xx ed++[(_x (s,n),.ref z)]))=H2 at *;refine ⟨_,rfl,a,_,_,_,rfl,rfl,row1,_l (j:=4) rfl,few rfl,fun t1 nt1=>?_⟩;have e1:=_j (o:=.tup [.str "F",.str fa]) nt1;refine ⟨_,rfl,a,_,_,_,rfl,rfl,(e1.sqt row1),_l (j:=5) rfl,few rfl,fun t2 nt2=>⟨few rfl,fun lp nlp=>?_⟩⟩;have e2:=_j (o:=.tup [.str "M",.str mo]) nt2;have e3:=_j (o:=.lst [.ref t1,.ref t2]) nlp;have ht1:=e3 _ _ (e2 _ _ (_f (H:=H2) (a:=t1) (o:=.tup [.str "F",.str fa])));have ht2:=e3 _ _ (_f (H:=_b H2 t1 (.tup [.str "F",.str fa])) (a:=t2) (o:=.tup [.str "M",.str mo]));have e13:=(e1.trans e2).trans e3;have nlp1:=hE1.off (_N (e1.trans e2) nlp);refine ⟨lp,rfl,⟨_,.of _f⟩,YL (xs:=[.ref t1,.ref t2]) (fun j σ Hy=>∃(ed2:Ed) (v4 v5:Option V),σ=[some (.ref Le),some (.ref D),some (.ref Dl),some (.ref a),v4,v5,v6,v7]∧Same H Hy∧EdAt Hy D ed2∧EdB ed2 (5*i+1+2*j)∧(∀c,lk ed2 c=_aE (Yu ((ks.take i).map (·.1))) n s fa mo j c)∧(∀b∈ed2.map (·.2.1),H b=none)∧LsAt K Hy Dl ls∧Hy lp=some (.lst [.ref t1,.ref t2])∧lp∉ed2.map (·.2.1)∧SqT K Hy t1 [.str "F",.str fa]∧SqT K Hy t2 [.str "M",.str mo]∧SqT K Hy a [.str "born",.str n,.str s,.int d,.str fa,.str mo]) ?st ?li ?tu ?dn⟩
    case st=>exact ⟨ed1,v4,v5,rfl,sc1.trans e13,hE1.mono e13,hb1,fun c=>by rw [lk1];show _=Ym _ s n c;unfold Ym;rw [hlk],hn1,hl1.mono e13,_f,nlp1,.of ht1,.of ht2,e13.sqt row1⟩
    case li =>
     rintro j σ Hy _ ⟨ed2,v4,v5,rfl,_,_,_,_,_,_,hlp,_⟩;exact .of hlp
    case dn =>
     rintro σ Hy ⟨ed2,v4,v5,rfl,sy,hE2,hb2,lk2,hn2,hl2,_⟩;exact rest _ _ ⟨ed2,v4,v5,rfl,sy,hE2,hb2.mono (by simp;omega),lk2,hn2,hl2⟩
    case tu =>
     rintro j x σ Hy hx ⟨ed2,v4,v5,rfl,sy,hE2,hb2,lk2,hn2,hl2,hlp,nlp2,h1,h2,h3⟩
     have pick:∃tq L l' pr,x=.ref tq∧SqT K Hy tq [.str L,.str pr]∧(L="F"∨L="M"∨L="T")∧JM L=l'∧j≤1∧_aE (Yu ((ks.take i).map (·.1))) n s fa mo (j+1)=Yg L l' n pr (_aE (Yu ((ks.take i).map (·.1))) n s fa mo j):=by
      match j,hx with
      |0,hx=>exact ⟨t1,"F","f",fa,(Ql hx).symm,h1,.inl rfl,by trivial,by omega,rfl⟩
      |1,hx=>exact ⟨t2,"M","m",mo,(Ql hx).symm,h2,.inr (.inl rfl),by trivial,by omega,rfl⟩
     obtain ⟨tq,L,l',pr,rfl,hq,hL,el,j1,eb⟩:=pick;refine ⟨tq,_,rfl,hq,rfl,_,_,rfl,_,_,rfl,rfl,?_⟩;refine ⟨_,rfl,rfl,_,rfl,?_⟩;by_cases e0:pr=""
     ·refine _D (by rw [e0];trivial) ⟨ed2,_,_,rfl,sy,hE2,hb2.mono (by omega),fun c=>?_,hn2,hl2,hlp,nlp2,h1,h2,h3⟩;rw [eb];unfold Yg;rw [Qb e0];exact lk2 c
     ·refine _Z (by show (!decide (V.str pr=V.str ""))=true;rw [Qn (fun z=>e0 (V.str.inj z))];rfl) ⟨_,rfl,_,rfl,_,rfl,a,_,_,_,rfl,rfl,h3,_l (j:=1) rfl,_,rfl,rfl,D,L,n,pr,ed2,_,rfl,hE2,hb2,by omega,hL,fun H4 ed4 hE4 hb4 lk4 fr4=>?_⟩;obtain ⟨s4,hn4⟩:=fr4.same sy nD hn2;refine ⟨ed4,_,_,rfl,s4,hE4,hb4.mono (by omega),fun c=>?_,hn4,fr4.ls hE2 DlD hl2,fr4.fr _ _ (fun z=>by rw [z,hE2.d] at hlp;cases hlp) nlp2 hlp,(fun m=>(fr4.gr _ m).elim nlp2 fun z=>by rw [hlp] at z;cases z),fr4.sqt hE2 h1,fr4.sqt hE2 h2,fr4.sqt hE2 h3⟩;rw [lk4,eb,el,show lk ed2=_aE (Yu ((ks.take i).map (·.1))) n s fa mo j from funext lk2];unfold Yg;rw [Qa e0]
   ·rintro σ Hx ⟨ed1,w4,w5,rfl,sx,hE1,hb1,lk1,hn1,hl1⟩;have rowx:=sx.sqt (hR _ (Qt hp));refine ⟨_,rfl,a,_,_,_,rfl,rfl,rowx,_l (j:=0) rfl,rfl,_,rfl,_D (by trivial) ⟨_,rfl,a,_,_,_,rfl,rfl,rowx,_l (j:=0) rfl,rfl,_,rfl,_D (by trivial) ⟨_,rfl,a,_,_,_,rfl,rfl,rowx,_l (j:=0) rfl,rfl,_,rfl,_D (by trivial) ⟨ed1,ls,_,_,_,_,_,rfl,sx,hE1,hb1,fun c=>?_,hn1,hl1,fun c=>?_,by omega⟩⟩⟩⟩
    ·rw [tk,JN];exact lk1 c
    ·rw [tk,_dC rfl];exact hla c
 case done =>
  rintro σ Hc ⟨ed,ls,v3,v4,v5,v6,v7,rfl,sc,hE,hb,hlk,hn,hl,hla,ll⟩;rw [_ai,QN] at hlk hla;rw [_ai] at hb ll;refine ⟨Dl,Xu ls,hl.d,_,rfl,.inr (.inr (.inl ⟨rfl,.inr ⟨_,hl.d⟩⟩)),Dl,_,rfl,rfl,hl.d,fun r nr=>⟨r,Dl,_,rfl,_f,(_j nr) _ _ hl.d,fun o=>?_⟩⟩;have sr:=_j (o:=.ext (Ur r Dl)) nr;have hd1:=sr _ _ hl.d;have up:∀{b:Addr} {u:HO},b≠Dl->Hc b=some u->_b (_b Hc r (.ext (Ur r Dl))) Dl (.frz o (.dT (Xu ls))) b=some u:=fun nb e=>by rw [_g nb];exact sr _ _ e
  refine _jQ (kvs:=Xu ls) (fun i σ Hy=>∃(ed:Ed) (v6 v7:Option V),σ=[some (.ref Le),some (.ref D),some (.ref Dl),v3,v4,v5,v6,v7]∧Same H Hy∧EdAt Hy D ed∧EdB ed (200+2*i)∧(∀c,lk ed c=(ls.take i).foldl Xp (Yu (ks.map (·.1))) c)∧(∀b∈ed.map (·.2.1),H b=none)∧Hy Dl=some (.frz o (.dT (Xu ls)))∧∀q∈ls,SqT K Hy q.2.1 [.int q.2.2.1,.str q.2.2.2]) ?st ?li ?tu ?dn
  case st=>exact ⟨ed,_,_,rfl,fun b u e=>up (fun z=>by rw [z,nDlH] at e;cases e) (sc _ _ e),⟨up DlD.symm hE.d,fun q hq=>up (fun z=>by have:=hE.l q hq;rw [z,hl.d] at this;cases this) (hE.l q hq),hE.an,hE.kn⟩,hb.mono (by omega),hlk,hn,_f,fun q hq=>YH (sr.sqt (hl.t q hq)) hd1 (fun _ z=>by cases z) (fun _ _ z=>by cases z)⟩
  case li =>
   rintro i σ Hy _ ⟨ed,v6,v7,rfl,_,_,_,_,_,hDl,_⟩;exact hDl
  case dn =>
   rintro σ Hy ⟨ed,v6,v7,rfl,sy,hE,hb,hlk,hn,hDl,ht⟩;have ll2:(Xu ls).length=ls.length:=Qc ..;rw [ll2,QN] at hlk;refine ⟨o,hDl,_,rfl,q _ D ed ls (fun b u e=>?_) nD ⟨?_,fun q hq=>?_,hE.an,hE.kn⟩ (hb.mono (by omega)) hl.kn hla hlk⟩
   ·rw [_g (fun z=>by rw [z,nDlH] at e;cases e)];exact sy _ _ e
   ·rw [_g DlD.symm];exact hE.d
   ·rw [_g (fun z=>by have:=hE.l q hq;rw [z,hDl] at this;cases this)];exact hE.l q hq
  case tu =>
   rintro i pr T c σ Hy hpr ⟨ed,v6,v7,rfl,sy,hE,hb,hlk,hn,hDl,ht⟩ nT hc;rw [Qi] at hpr;obtain ⟨q1,hq1,rfl⟩:=QE.mp hpr;have mq:=Qt hq1;have il:=(QB.mp hq1).1;have tkq:ls.take (i+1)=ls.take i++[q1]:=by rw [Q1,hq1];rfl
   have sT:=_j (o:=.tup [.ref c,.ref q1.2.1]) nT;refine ⟨T,_,rfl,.of _f,rfl,_,_,rfl,_,_,rfl,rfl,?_⟩;have hc2:SqT K (_b Hy T (.tup [.ref c,.ref q1.2.1])) c [.str q1.1.1,.str q1.1.2]:=sT.sqt (.of hc);have hE2:=hE.mono sT;have hDl2:=sT _ _ hDl;have ht2:∀q∈ls,SqT K (_b Hy T (.tup [.ref c,.ref q1.2.1])) q.2.1 [.int q.2.2.1,.str q.2.2.2]:=fun q hq=>sT.sqt (ht q hq);have s2:=sy.trans sT;generalize _b Hy T (.tup [.ref c,.ref q1.2.1])=H2 at *;refine ⟨_,rfl,q1.2.1,_,_,_,rfl,rfl,ht2 q1 mq,_l (j:=1) rfl,rfl,_,rfl,?_⟩;have fs:∀c,(ls.take (i+1)).foldl Xp (Yu (ks.map (·.1))) c=Xp ((ls.take i).foldl Xp (Yu (ks.map (·.1)))) q1 c:=fun c=>by rw [tkq,Nn];rfl
   by_cases eu:q1.2.2.2="union"
   ·refine _Z (Qr (by rw [eu])) ?_;refine Yr (fun σ Hx=>σ=[some (.ref Le),some (.ref D),some (.ref Dl),v3,v4,v5,some (.ref c),some (.ref q1.2.1)]∧Uu D ed (200+2*i) ("S",q1.1.1) q1.1.2 H2 Hx) (fun nx rest=>?_) ?_
    ·refine ⟨_,rfl,D,rfl,.inr ⟨_,.inl hE2.d⟩,_,rfl,c,_,_,_,rfl,rfl,hc2,_l (j:=0) rfl,few rfl,fun t nt=>⟨few rfl,fun z nz=>?_⟩⟩;have st:=_j (o:=.tup [.str ((("S",q1.1.1):Str×Str)).1,.str ((("S",q1.1.1):Str×Str)).2]) nt;have sz:=_j (o:=.lst []) nz;obtain ⟨hD2,ln2,old,new⟩:=_ao (c:=(("S",q1.1.1):Str×Str)) (x:=q1.1.2) hE2 hb (by omega) (st.trans sz) (_N st nz) _f;refine ⟨Xx ed,_x (("S",q1.1.1):Str×Str),t,hD2,rfl,sz _ _ _f,ln2,fun v hv=>?_,fun hv=>?_⟩
     ·obtain ⟨b,xs,rfl,hb2,lx,add⟩:=old v hv;exact ⟨.inl ⟨rfl,_,.of hb2⟩,_,rfl,c,_,_,_,rfl,rfl,(st.trans sz).sqt hc2,_l (j:=1) rfl,b,_,_,rfl,rfl,hb2,lx,rest _ _ ⟨rfl,add⟩⟩
     ·obtain ⟨hz3,add⟩:=new hv;exact ⟨.inl ⟨rfl,_,.of hz3⟩,_,rfl,c,_,_,_,rfl,rfl,YH ((st.trans sz).sqt hc2) hD2 (fun _ z=>by cases z) (fun _ _ z=>by cases z),_l (j:=1) rfl,z,_,_,rfl,rfl,hz3,small1000 (by simp),rest _ _ ⟨rfl,add⟩⟩
    ·rintro σ H3 ⟨rfl,ed3,hE3,hb3,lk3,fr3⟩;have hc3:=fr3.sqt hE2 hc2
     have fin:∀H',Uu D ed3 (200+2*i+1) ("S",q1.1.2) q1.1.1 H3 H'->∃(ed:Ed) (v6 v7:Option V),[some (.ref Le),some (.ref D),some (.ref Dl),v3,v4,v5,some (.ref c),some (.ref q1.2.1)]=[some (.ref Le),some (.ref D),some (.ref Dl),v3,v4,v5,v6,v7]∧Same H H'∧EdAt H' D ed∧EdB ed (200+2*(i+1))∧(∀c,lk ed c=(ls.take (i+1)).foldl Xp (Yu (ks.map (·.1))) c)∧(∀b∈ed.map (·.2.1),H b=none)∧H' Dl=some (.frz o (.dT (Xu ls)))∧∀q∈ls,SqT K H' q.2.1 [.int q.2.2.1,.str q.2.2.2]:=fun H' ⟨ed4,hE4,hb4,lk4,fr4⟩=>by
      have fr:=fr3.trans fr4;obtain ⟨s4,hn4⟩:=fr.same s2 nD hn;refine ⟨ed4,_,_,rfl,s4,hE4,hb4,fun c=>?_,hn4,fr.oth hE2 DlD hDl2 (fun _ z=>by cases z),fun q hq=>fr.sqt hE2 (ht2 q hq)⟩;rw [lk4,fs,show lk ed3=_W (lk ed) ("S",q1.1.1) q1.1.2 from funext lk3,show lk ed=(ls.take i).foldl Xp (Yu (ks.map (·.1))) from funext hlk];unfold Xp;rw [Qb eu]
     refine ⟨_,rfl,D,rfl,.inr ⟨_,.inl hE3.d⟩,_,rfl,c,_,_,_,rfl,rfl,hc3,_l (j:=1) rfl,few rfl,fun t nt=>⟨few rfl,fun z nz=>?_⟩⟩;have st:=_j (o:=.tup [.str ((("S",q1.1.2):Str×Str)).1,.str ((("S",q1.1.2):Str×Str)).2]) nt;have sz:=_j (o:=.lst []) nz;obtain ⟨hD2,ln2,old,new⟩:=_ao (c:=(("S",q1.1.2):Str×Str)) (x:=q1.1.1) hE3 hb3 (by omega) (st.trans sz) (_N st nz) _f;refine ⟨Xx ed3,_x (("S",q1.1.2):Str×Str),t,hD2,rfl,sz _ _ _f,ln2,fun v hv=>?_,fun hv=>?_⟩
     ·obtain ⟨b,xs,rfl,hb2,lx,add⟩:=old v hv;exact ⟨.inl ⟨rfl,_,.of hb2⟩,_,rfl,c,_,_,_,rfl,rfl,(st.trans sz).sqt hc3,_l (j:=0) rfl,b,_,_,rfl,rfl,hb2,lx,fin _ add⟩
     ·obtain ⟨hz3,add⟩:=new hv;exact ⟨.inl ⟨rfl,_,.of hz3⟩,_,rfl,c,_,_,_,rfl,rfl,YH ((st.trans sz).sqt hc3) hD2 (fun _ z=>by cases z) (fun _ _ z=>by cases z),_l (j:=0) rfl,z,_,_,rfl,rfl,hz3,small1000 (by simp),fin _ add⟩
   ·refine _D (Qn (fun z=>eu (V.str.inj z))) ⟨ed,_,_,rfl,s2,hE2,hb.mono (by omega),fun c=>?_,hn,hDl2,ht2⟩;rw [fs];unfold Xp;rw [Qa eu];exact hlk c
theorem _mc: _kc P base T:=by
 refine Fun.okY T._el.F _pK fun cdv A outer s H vs Q E hr h=>?_;obtain ⟨c,rfl,q⟩:=h;refine ⟨_,(_h (_s (XH rfl (Xc (N:=["_law_k","_law_cell"]) ["_law_cell"] [none,some 0] rfl (by trivial) (by trivial) (by rfl) (by rfl) (by rfl) (by rfl) (by rfl)) (JF (by rfl) T.n_range (_a _d _c)) (fun _ _ _=>(_I (i:=0) _fh rfl (Or.inl rfl))) (fun _ _ _=>Wy) (fun _ _ _=>(_v Vf _q (_m _bx _q (_v Yn (_v XW (pv 0) (pv 1)) _d) (fun _ _=>rfl))))))),?_⟩;have kl:(W4 (c.fmod 12).toNat).length=12:=by unfold W4;rw [Qc,RN]
 refine ⟨12,rfl,by decide,by decide,VE ((W4 (c.fmod 12).toNat).map V.str) (Wc (by rw [Qc,kl];decide)) (fun σ=>∃v,σ=[v,some (.int c)]) ⟨_,rfl⟩ (fun i H3 hi sm=>?go) (fun H3 sm=>?stop) (fun i σ H3 x H4 y hy hσ sm hx C hC=>?step) (fun B H3 nB sm hB=>?fin)⟩
 case go =>
  rw [Qc,kl] at hi;exact hi
 case stop =>
  rw [Qc,kl];exact Qe _
 case fin=>exact q _ B _ sm hB (_o2 c)
 case step =>
 obtain ⟨v,rfl⟩:=hσ;obtain ⟨rfl,rfl⟩:=hx;obtain ⟨u,rfl,hu⟩:=_aa hy;have il:i<12:=by rw [←kl];exact (QB.mp hu).1
 have em:(((0:Int)+(i:Int)+c).fmod 12).toNat=(i+(c.fmod 12).toNat) % 12:=by
  rw [NS _ (by decide),NS _ (by decide)];omega
 have eu:u=_ff ((((0:Int)+(i:Int)+c).fmod 12).toNat):=by
  unfold W4 at hu;rw [Qi,GO il] at hu;rw [em];exact (Ql hu).symm
 have ha:_6 (("abcdefghijkl" : Str).cps.toList) (((0:Int)+(i:Int)+c).fmod 12)=some (97+(((0:Int)+(i:Int)+c).fmod 12).toNat):=L2.at_i (QW _ (by decide)) (_os _ (by rw [em];exact Nat.mod_lt _ (by decide)));refine ⟨_,rfl,_,rfl,_,_,rfl,rfl,_,_,rfl,rfl,(show (12:Int)≠0 by decide),_,_,_,rfl,rfl,by decide,ha,_,_,rfl,rfl,QS (Wc (show 3+1≤60 by decide)),?_⟩;rw [eu] at hC;exact hC _ _ ⟨_,rfl⟩ (Same.refl _)
theorem _hM: _hU P base T:=by
 refine Fun.okY T._gu.F _jN fun cdv A outer s H vs Q E hr h=>?_;obtain ⟨a,rs,c,rfl,hr,hn,q⟩:=h
 refine ⟨_,(_i (_z (PW.pt (Wn (_t Xm (_v Yn (pv 1) _d) _d (_r _)) (Wv (_t Xm (_J Ys (by rfl) T.n_len _8 (_a (pv 0) _c)) _d (_r _))))) (_h (_s (_v Vf _q (_m _o (_m Ye (pv 0) (_v Yn (_v XQ (pv 1) _d) (_v Jo (_J Ys (by rfl) T.n_len _8 (_a (pv 0) _c)) _d)) (fun _ _=>rfl)) _d (fun _ _=>rfl))))) _A)
   (_h (_s (_m Ye (Yb (_a _q (_a _q (_a _q (_a _q (_a _q (_a _q (_a _q (_a _q (_a _q _c)))))))))) (_v Yn (_v Yn (pv 1) _d) _d) (fun _ _=>rfl))))),?_⟩
 have zd:∀n:Int,1≤n->n≤100->n≠0∧n.natAbs<2 ^ 1000:=fun n h1 h2=>⟨by omega,Q8 (show n.natAbs≤100 by omega) (by trivial)⟩;have hlen:((rs.map fun x=>V.ref x.t).length:Nat)=rs.length:=by rw [Qc]
 try dsimp only [_V]
 refine Yr (fun σ H1=>σ=[some (.ref a),some (.int c)]∧H1=H) (fun nx rest=>?_) (fun σ H1 hJ=>?_)
 ·refine ⟨_,rfl,_,_,rfl,rfl,(zd 12 (by decide) (by decide)).1,_,_,rfl,rfl,_,rfl,_2 (fun h1=>?_) (fun h1=>_O (rest _ _ ⟨rfl,rfl⟩))⟩;refine ⟨_,rfl,a,_,rfl,.inl (.of hr.lst),_,_,rfl,rfl,_,rfl,_2 (fun h2=>?_) (fun h2=>rest _ _ ⟨rfl,rfl⟩)⟩
  have h2':(1:Int)<(rs.length:Int):=by
   have:=QG h2;rw [hlen] at this;exact this
  have ne:((rs.length:Int)-1)≠0:=by omega
  have m0:=QW (c.fdiv 12) (show (0:Int)<(rs.length:Int)-1 by omega);have m1:=Q7 (c.fdiv 12) (show (0:Int)<(rs.length:Int)-1 by omega);obtain ⟨x,hx⟩:∃x,rs[((c.fdiv 12).fmod ((rs.length:Int)-1)).toNat]?=some x:=⟨_,Qu (by omega)⟩;have hxm:=Qt hx;have hat:_6 (rs.map fun x=>V.ref x.t) ((c.fdiv 12).fmod ((rs.length:Int)-1))=some (.ref x.t):=at_i m0 (by rw [Qi,hx];rfl);refine ⟨_,rfl,_,rfl,_,_,rfl,rfl,zd 12 (by decide) (by decide),_,rfl,a,_,rfl,.inl (.of hr.lst),_,_,rfl,rfl,_,_,rfl,rfl,by rw [hlen];exact ne,a,_,_,_,rfl,rfl,.of hr.lst,by rw [hlen];exact hat,x.t,_,_,_,rfl,rfl,.of (hr.tup hxm),YB (j:=0) rfl,_,_,rfl,rfl,?sz,q _ _ (Same.refl H) (.inr ⟨x.w,?mm,rfl⟩)⟩
  case sz =>
   have:=(hn x hxm).hi;have:=Uh;show 1+x.w.length≤_;omega
  case mm =>
   refine Qf.mpr ⟨x,?_,rfl⟩;refine Gd.mpr ⟨((c.fdiv 12).fmod ((rs.length:Int)-1)).toNat,?_⟩;rw [List.getElem?_dropLast,Qb (by omega)];exact hx
 obtain ⟨rfl,rfl⟩:=hJ;refine ⟨few rfl,fun L nL=>⟨_,rfl,_,_,rfl,rfl,(zd 12 (by decide) (by decide)).1,_,_,rfl,rfl,(zd 9 (by decide) (by decide)).1,L,_,_,_,rfl,rfl,.of _f,_iw _,q _ _ (_j nL) (.inl (_nl _))⟩⟩
theorem _ks:_oZ P base T:=by
 refine Fun.okY T._fa.F UL fun cdv A outer s H vs Q E hr h=>?_;obtain ⟨lc,cs,lw,ws,rfl,hS,cne,cl,hw,wo,q⟩:=h
 refine ⟨_,(_i (_B (i:=2) UL.nd rfl (Or.inl rfl) (Yb _c))
   (_i (_9 QD rfl (_5 (pv 0)) (_I (i:=3) UL.nd rfl (Or.inl rfl))
    (_i (_B (i:=4) UL.nd rfl (Or.inl rfl) (_v Yn (pv 3) _d))
   (_i (_z (PW.pt (Xb (_t (_ho hr.units) (pv 2) (Yb _c) (_r _)) (Xk (PW.pt (Wn (_t Xm (pv 4) _d (_r _)) (Wv (_t Xs (_J Ys (by rfl) T.n_len _8 (_a (pv 2) _c)) _d (_r _)))))))) (_h (Yh (Y3 Rh Rn Ro XZ (pv 2) (_a (_3 (_a (_m Ye (pv 1) (_J Ys (by rfl) T.n_len _8 (_a (pv 2) _c)) (fun _ _=>rfl)) (_a (Yb _c) _c))) _c)))) _A)
   (_i (_B (i:=5) UL.nd rfl (Or.inl rfl) (_m _o (_m Ye (pv 2) (W5 Vd _d) (fun _ _=>rfl)) _d (fun _ _=>rfl)))
   (_i (_z (PW.pt (Xb (_t (_ho hr.units) (pv 5) (Yb _c) (_r _)) (Xk (PW.pt (Wn (_t Xs (_J Ys (by rfl) T.n_len _8 (_a (pv 5) _c)) _d (_r _)) (Wv (PW.pt (Xb (_t _U (pv 4) _d (_r _)) (Xk (_t Wt (_m Ye (_m Ye (pv 5) (W5 Vd _d) (fun _ _=>rfl)) _d (fun _ _=>rfl)) _q (_r _))))))))))) (_h (Yh (Y3 Rh Rn Ro XZ (pv 5) (_a (Yb (_a (Yb _c) (_a _q _c))) _c)))) _A)
   (_h (_z (_t _U (_m Ye (_m Ye (pv 5) (W5 Vd _d) (fun _ _=>rfl)) _d (fun _ _=>rfl)) _q (_r _)) (_i (_z (_t Xs (_J Ys (by rfl) T.n_len _8 (_a (_m Ye (_m Ye (pv 5) (W5 Vd _d) (fun _ _=>rfl)) _d (fun _ _=>rfl)) _c)) _d (_r _)) (_h (Yh (Y3 Rh Rn Ro XZ (_m Ye (_m Ye (pv 5) (W5 Vd _d) (fun _ _=>rfl)) _d (fun _ _=>rfl)) (_a (_Q (_hM T) hr (_a (pv 2) (_a (_v XQ (pv 3) _d) _c))) _c)))) _A)
   (_h (_z (_t _U (pv 4) _d (_r _)) (_h (_h1 (_m Ye (Yb (_a _q (_a _q (_a _q _c)))) (_v Yn (_v XW (_v XQ (pv 3) _d) (_v XQ (pv 3) _d)) _d) (fun _ _=>rfl)) (_jk (_m Ye (pv 5) (W5 Vd _d) (fun _ _=>rfl)) _d _ll))) _A))) _A)))))))
   (_h (_s (pv 2))))),?_⟩
 have zd:∀n:Int,1≤n->n≤9999->n≠0∧n.natAbs<2 ^ 1000:=fun n h1 h2=>⟨by omega,Q8 (show n.natAbs≤9999 by omega) (by trivial)⟩;refine ⟨few rfl,fun a na=>?_⟩;refine ⟨_,rfl,lc,rfl,⟨_,(_j na).sql hS⟩,YL (xs:=cs.map V.int) (fun i σ H2=>∃v3 v4 v5 rs,σ=[some (.ref lc),some (.ref lw),some (.ref a),v3,v4,v5]∧Own H H2 (cells a rs)∧((i=0∧rs=[])∨GoodL ws rs)) ?start ?sq ?turn ?done⟩
 case start=>exact ⟨_,_,_,[],rfl,Own.start na,.inl ⟨rfl,rfl⟩⟩
 case sq =>
  rintro i σ H2 _ ⟨_,_,_,rs,_,ow,_⟩;exact ow.2.2.sql hS
 case done =>
  rintro σ H2 ⟨v3,v4,v5,rs,rfl,ow,g⟩;rcases g with ⟨e,_⟩|g
  ·rw [Qc] at e;exact absurd (NG e) cne
  ·exact ⟨_,rfl,q _ a rs ow g⟩
 case turn =>
  rintro i x σ H2 hx ⟨v3,v4,v5,rs,rfl,ow,g⟩;obtain ⟨c,rfl,hc⟩:=_fj hx;refine ⟨_,rfl,_,_,rfl,rfl,(zd 8 (by decide) (by decide)).1,?_⟩
  try dsimp only [_V]
  have hlen:((rs.map fun x=>V.ref x.t).length:Nat)=rs.length:=by rw [Qc]
  refine Yr (fun σ H3=>∃(ini:List Lr) (t l:Addr) (w:Str) (bs:List Lb),σ=[some (.ref lc),some (.ref lw),some (.ref a),some (.int c),some (.int (c.fmod 8)),v5]∧Own H H3 (cells a (ini++[⟨t,l,w,bs⟩]))∧Init ws ini w∧bs.length≤8∧∀y∈bs,TongM.GoodB (ws.take ini.length) y.b) (fun nx rest=>?_) (fun σ H3 hJ=>?_)
  ·have stay:∀H3,GoodL ws rs->Own H H3 (cells a rs)->nx [some (.ref lc),some (.ref lw),some (.ref a),some (.int c),some (.int (c.fmod 8)),v5] H3:=fun H3 g ow3=>by
    obtain ⟨ini,⟨t,l,w,bs⟩,rfl⟩:∃ini x,rs=ini++[x]:=⟨rs.dropLast,rs.getLast g.ne,(Go _).symm⟩;obtain ⟨g1,g2⟩:=Init.of g;exact rest _ _ ⟨ini,t,l,w,bs,rfl,ow3,g1,g2.hi,g2.ok⟩
   refine ⟨_,rfl,few rfl,fun e ne=>?_⟩;have ow1:=ow.same (_j (o:=.lst []) ne);have ha1:=ow1.rat.lst;refine ⟨a,e,_,rfl,rfl,ha1,_f,_,rfl,?_⟩;have hw1:=ow1.2.2 _ _ hw
   have app:∀H3 w,Own H H3 (cells a rs)->Init ws rs w->∀l,H3 l=none->∀t,_b H3 l (.lst []) t=none->nx [some (.ref lc),some (.ref lw),some (.ref a),some (.int c),some (.int (c.fmod 8)),v5] (_b (_b (_b H3 l (.lst [])) t (.tup [.str w,.ref l])) a (.lst ((rs.map fun x=>.ref x.t)++[.ref t]))):=fun H3 w ow3 iw l nl t nt =>
    rest _ _ ⟨rs,t,l,w,[],rfl,_pY ow3 nl nt,iw,by decide,fun y hy=>by cases hy⟩
   rcases g with ⟨_,e0⟩|g
   ·obtain ⟨w,iw⟩:=Init.zero wo;rw [←e0] at iw;have hwat:_6 (ws.map V.str) ((rs.map fun x=>V.ref x.t).length:Nat)=some (.str w):=YB (by rw [hlen,Qi,iw.w];rfl);refine _Z (by rw [e0];rfl) ?_;refine ⟨_,rfl,.inl ⟨rfl,_,.of ha1⟩,_,rfl,_,rfl,a,_,rfl,.inl (.of ha1),lw,_,_,_,rfl,rfl,.of hw1,hwat,few rfl,fun l nl=>⟨few rfl,fun t nt=>⟨a,_,_,rfl,rfl,(_j nt) _ _ ((_j nl) _ _ ha1),small1000 (by rw [hlen,e0];decide),app _ w ow1 iw l nl t nt⟩⟩⟩
   ·refine _D (Qn (by simp [g.ne])) ?_;refine ⟨_,rfl,_,_,rfl,rfl,_,rfl,_2 (fun h7=>?_) (fun h7=>_O (stay _ g ow1))⟩;refine ⟨_,rfl,a,_,rfl,.inl (.of ha1),_,_,rfl,rfl,_,rfl,_2 (fun h12r=>?_) (fun h12r=>stay _ g ow1)⟩
    have h12r':rs.length<12:=by
     have:=QG h12r;rw [hlen] at this;omega
    obtain ⟨w,iw⟩:=Init.next g wo h12r';have hwat:_6 (ws.map V.str) ((rs.map fun x=>V.ref x.t).length:Nat)=some (.str w):=YB (by rw [hlen,Qi,iw.w];rfl);refine ⟨_,rfl,.inl ⟨rfl,_,.of ha1⟩,_,rfl,_,rfl,a,_,rfl,.inl (.of ha1),lw,_,_,_,rfl,rfl,.of hw1,hwat,few rfl,fun l nl=>⟨few rfl,fun t nt=>⟨a,_,_,rfl,rfl,(_j nt) _ _ ((_j nl) _ _ ha1),small1000 (by rw [hlen];omega),app _ w ow1 iw l nl t nt⟩⟩⟩
  obtain ⟨ini,t,l,w,bs,rfl,ow3,iw,b8,bok⟩:=hJ;have ha3:=ow3.rat.lst;rw [Qh] at ha3;have ht3:=ow3.rat.tup (x:=⟨t,l,w,bs⟩) (by simp);have hl3:=ow3.rat.brs (x:=⟨t,l,w,bs⟩) (by simp);refine ⟨_,rfl,_,rfl,a,_,_,_,rfl,rfl,.of ha3,Vc _ _,t,_,_,_,rfl,rfl,.of ht3,YB (j:=1) rfl,?_⟩
  try dsimp only [_V]
  refine Yr (fun σ H4=>∃(bi:List Lb) (r p:Addr) (b:TongM.Bran),σ=[some (.ref lc),some (.ref lw),some (.ref a),some (.int c),some (.int (c.fmod 8)),some (.ref l)]∧Own H H4 (cells a (ini++[⟨t,l,w,bi++[⟨r,p,b⟩]⟩]))∧bi.length<8∧(∀y∈bi,TongM.GoodB (ws.take ini.length) y.b)∧(b=(([]:List Str),("" : Str))∨TongM.GoodB (ws.take ini.length) b)) (fun nx rest=>?_) (fun σ H4 hJ=>?_)
  ·have stay:∀H4,bs≠[]->Own H H4 (cells a (ini++[⟨t,l,w,bs⟩]))->nx [some (.ref lc),some (.ref lw),some (.ref a),some (.int c),some (.int (c.fmod 8)),some (.ref l)] H4:=fun H4 ne ow4=>by
    obtain ⟨bi,⟨r,p,b⟩,rfl⟩:∃bi x,bs=bi++[x]:=⟨bs.dropLast,bs.getLast ne,(Go _).symm⟩;rw [Qx,GA] at b8;exact rest _ _ ⟨bi,r,p,b,rfl,ow4,by omega,fun y hy=>bok y (QL _ hy),.inr (bok ⟨r,p,b⟩ (by simp))⟩
   have app:∀H4,bs.length<8->Own H H4 (cells a (ini++[⟨t,l,w,bs⟩]))->∀p,H4 p=none->∀r,_b H4 p (.lst []) r=none->nx [some (.ref lc),some (.ref lw),some (.ref a),some (.int c),some (.int (c.fmod 8)),some (.ref l)] (_b (_b (_b H4 p (.lst [])) r (.lst [.ref p,.str ""])) l (.lst ((bs.map fun y=>.ref y.r)++[.ref r]))):=fun H4 h8 ow4 p np r nr =>
    rest _ _ ⟨bs,r,p,([],""),rfl,_p1 (b:=([],"")) ow4 np nr,h8,bok,.inl rfl⟩
   have hbl:((bs.map fun y=>V.ref y.r).length:Nat)=bs.length:=by rw [Qc]
   refine ⟨_,rfl,few rfl,fun e ne=>?_⟩;have ow4:=ow3.same (_j (o:=.lst []) ne);have hl4:=ow4.rat.brs (x:=⟨t,l,w,bs⟩) (by simp);refine ⟨l,e,_,rfl,rfl,hl4,_f,_,rfl,?_⟩;by_cases hb:bs=[]
   ·refine _Z (Qr (by rw [hb];rfl)) ?_;refine ⟨_,rfl,.inl ⟨rfl,_,.of hl4⟩,few rfl,fun p np=>⟨few rfl,fun r nr=>⟨l,_,_,rfl,rfl,(_j nr) _ _ ((_j np) _ _ hl4),small1000 (by rw [hbl];omega),app _ (by rw [hb];decide) ow4 p np r nr⟩⟩⟩
   refine _D (Qn (by simp [hb])) ?_;refine ⟨_,rfl,l,_,rfl,.inl (.of hl4),_,_,rfl,rfl,_,rfl,_2 (fun h8=>?_) (fun h8=>_O (stay _ hb ow4))⟩
   have h8':bs.length<8:=by
    have:=QG h8;rw [hbl] at this;omega
   refine ⟨_,rfl,rfl,_,rfl,_2 (fun h6=>?_) (fun h6=>?_)⟩
   ·refine _1 ⟨_,rfl,.inl ⟨rfl,_,.of hl4⟩,few rfl,fun p np=>⟨few rfl,fun r nr=>⟨l,_,_,rfl,rfl,(_j nr) _ _ ((_j np) _ _ hl4),small1000 (by rw [hbl];omega),app _ h8' ow4 p np r nr⟩⟩⟩
   ·obtain ⟨bi,y,ebs⟩:∃bi x,bs=bi++[x]:=⟨bs.dropLast,bs.getLast hb,(Go _).symm⟩;have hy4:=ow4.rat.br (x:=⟨t,l,w,bs⟩) (y:=y) (by simp) (by rw [ebs];simp);have hal:_6 (bs.map fun y=>V.ref y.r) (-1)=some (.ref y.r):=by rw [ebs,Qh];exact Vc _ _
    refine ⟨_,rfl,_,rfl,l,_,_,_,rfl,rfl,.of hl4,hal,y.r,_,_,_,rfl,rfl,.of hy4,YB (j:=1) rfl,rfl,_,rfl,_2 (fun hm=>?_) (fun hm=>stay _ hb ow4)⟩;refine ⟨_,rfl,.inl ⟨rfl,_,.of hl4⟩,few rfl,fun p np=>⟨few rfl,fun r nr=>⟨l,_,_,rfl,rfl,(_j nr) _ _ ((_j np) _ _ hl4),small1000 (by rw [hbl];omega),app _ h8' ow4 p np r nr⟩⟩⟩
  obtain ⟨bi,r,p,b,rfl,ow4,bi8,biok,hb⟩:=hJ
  have fin:∀H5 b',Own H H5 (cells a (ini++[⟨t,l,w,bi++[⟨r,p,b'⟩]⟩]))->TongM.GoodB (ws.take ini.length) b'->∃v3 v4 v5 rs,[some (V.ref lc),some (.ref lw),some (.ref a),some (.int c),some (.int (c.fmod 8)),some (.ref l)]=[some (.ref lc),some (.ref lw),some (.ref a),v3,v4,v5]∧Own H H5 (cells a rs)∧((i+1=0∧rs=[])∨GoodL ws rs):=fun H5 b' ow5 gb=>by
   refine ⟨_,_,_,_,rfl,ow5,.inr (Init.good (x:=⟨t,l,w,bi++[⟨r,p,b'⟩]⟩) iw ⟨by simp,by simp;omega,fun y hy=>?_⟩)⟩;rcases Qm.mp hy with z|z
   ·exact biok y z
   ·have:y=⟨r,p,b'⟩:=by simpa using z
    subst this;exact gb
  have hl4:=ow4.rat.brs (x:=⟨t,l,w,bi++[⟨r,p,b⟩]⟩) (by simp);rw [Qh] at hl4;have hr4:=ow4.rat.br (x:=⟨t,l,w,bi++[⟨r,p,b⟩]⟩) (y:=⟨r,p,b⟩) (by simp) (by simp);have hp4:=ow4.rat.pcs (x:=⟨t,l,w,bi++[⟨r,p,b⟩]⟩) (y:=⟨r,p,b⟩) (by simp) (by simp);refine ⟨_,rfl,_,rfl,l,_,_,_,rfl,rfl,.of hl4,Vc _ _,r,_,_,_,rfl,rfl,.of hr4,YB (j:=1) rfl,rfl,_,rfl,_2 (fun hm=>?_) (fun hm=>?_)⟩
  ·have hm':b.2="":=by
    rw [Xe] at hm;exact QG hm
   obtain ⟨ps,mk⟩:=b;have hmk:mk="":=hm';subst hmk
   have pl:ps.length≤12:=by
    rcases hb with e|g
    ·cases e;decide
    ·exact g.hi
   have pok:∀s∈ps,TongM.PieceOk (ws.take ini.length) s:=by
    rcases hb with e|g
    ·cases e;intro s hs;cases hs
    ·exact g.ok
   have hpl:((ps.map V.str).length:Nat)=ps.length:=by rw [Qc]
   refine Yr (fun σ H5=>∃ps',σ=[some (.ref lc),some (.ref lw),some (.ref a),some (.int c),some (.int (c.fmod 8)),some (.ref l)]∧Own H H5 (cells a (ini++[⟨t,l,w,bi++[⟨r,p,(ps',"")⟩]⟩]))∧TongM.GoodB (ws.take ini.length) (ps',"")) (fun nx rest=>?_) (fun σ H5 hJ=>?_)
   ·refine ⟨_,rfl,_,rfl,l,_,_,_,rfl,rfl,.of hl4,Vc _ _,r,_,_,_,rfl,rfl,.of hr4,YB (j:=0) rfl,p,_,rfl,.inl (.of hp4),_,_,rfl,rfl,_,rfl,_2 (fun h12=>?_) (fun h12=>?_)⟩
    ·have h12':ps.length<12:=by
      have:=QG h12;rw [hpl] at this;omega
     have nmw:∀x∈ini++[(⟨t,l,w,bi++[⟨r,p,(ps,"")⟩]⟩:Lr)],TongM.Nm x.w:=fun x hx=>by
      have h1:x.w∈(ini.map (·.w))++[w]:=by
       rcases Qm.mp hx with z|z
       ·exact QL _ (Qf.mpr ⟨x,z,rfl⟩)
       ·have:x=⟨t,l,w,bi++[⟨r,p,(ps,"")⟩]⟩:=by simpa using z
        subst this;simp
      rcases Qm.mp h1 with z|z
      ·rw [iw.wds] at z;exact wo.nm _ (Q0 z)
      ·have e:x.w=w:=by simpa using z
       rw [e];exact wo.nm _ (Qt iw.w)
     refine ⟨_,rfl,_,rfl,l,_,_,_,rfl,rfl,.of hl4,Vc _ _,r,_,_,_,rfl,rfl,.of hr4,YB (j:=0) rfl,.inl ⟨rfl,_,.of hp4⟩,_,rfl,_,rfl,_,_,rfl,rfl,zd 8 (by decide) (by decide),rfl,a,_,_,rfl,ow4.rat,nmw,fun H5 s s5 hs=>?_⟩
     have hs':TongM.PieceOk (ws.take ini.length) s:=by
      rw [List.dropLast_concat,iw.wds] at hs;exact hs
     refine ⟨p,_,_,rfl,rfl,s5 _ _ hp4,small1000 (by rw [hpl];omega),rest _ _ ⟨ps++[s],rfl,?_,⟨by simp,by simp;omega,.inl rfl,fun u hu=>?_⟩⟩⟩
     ·have:=_oP (ow4.same s5) (ps++[s]);rw [Qh] at this;exact this
     ·rcases Qm.mp hu with z|z
      ·exact pok u z
      ·have:u=s:=by simpa using z
       rw [this];exact hs'
    ·have h12':12≤ps.length:=by
      have:=Rg h12;rw [hpl] at this;omega
     exact rest _ _ ⟨ps,rfl,ow4,⟨by show 1≤ps.length;omega,pl,.inl rfl,pok⟩⟩
   obtain ⟨ps',rfl,ow5,gb⟩:=hJ;have hl5:=ow5.rat.brs (x:=⟨t,l,w,bi++[⟨r,p,(ps',"")⟩]⟩) (by simp);rw [Qh] at hl5;have hr5:=ow5.rat.br (x:=⟨t,l,w,bi++[⟨r,p,(ps',"")⟩]⟩) (y:=⟨r,p,(ps',"")⟩) (by simp) (by simp);refine ⟨_,rfl,rfl,_,rfl,_2 (fun h5=>?_) (fun h5=>fin _ _ ow5 gb)⟩;refine ⟨few rfl,fun L nL=>?_⟩;obtain ⟨m,hm3,hmm⟩:=_oQ (c.fdiv 8+c.fdiv 8064);have ow6:=ow5.same (_j (o:=.lst [.str "other",.str "elder",.str "younger"]) nL);refine ⟨_,rfl,_,_,rfl,rfl,zd 8 (by decide) (by decide),_,rfl,_,_,rfl,rfl,zd 8064 (by decide) (by decide),_,_,rfl,rfl,_,_,rfl,rfl,(zd 3 (by decide) (by decide)).1,L,_,_,_,rfl,rfl,.of _f,hm3,_,rfl,_,rfl,l,_,_,_,rfl,rfl,.of ((_j nL) _ _ hl5),Vc _ _,r,_,_,1,rfl,rfl,(_j nL) _ _ hr5,rfl,?_⟩;exact fin _ _ (_mS ow6 m) ⟨gb.lo,gb.hi,.inr hmm,gb.ok⟩
  ·have hm':b.2≠"":=by
    rw [Xe] at hm;exact Rg hm
   rcases hb with e|g
   ·subst e;exact absurd rfl hm'
   ·exact fin _ _ ow4 g
theorem _md: _nR P base T:=by
 refine Fun.okY T._cg.F WF fun cdv A outer s H vs Q E hr h=>?_;obtain ⟨a,rs,rfl,hr,g,q⟩:=h
 refine ⟨_,(_i (_B (i:=1) WF.nd rfl (Or.inl rfl) (Yb _c))
   (_i (_9 QD rfl (_5 (pv 0)) (VR rfl (YN (_I (i:=2) WF.nd rfl (Or.inl rfl)) (YN (_I (i:=3) WF.nd rfl (Or.inl rfl)) Wi)))
    (_i (_B (i:=4) WF.nd rfl (Or.inl rfl) (Yb _c))
   (_i (_9 QD rfl (_5 (pv 3)) (_cG rfl (YN (_I (i:=5) WF.nd rfl (Or.inl rfl)) (YN (_I (i:=6) WF.nd rfl (Or.inl rfl)) Wi)))
    (_i (_B (i:=7) WF.nd rfl (Or.inl rfl) (Y3 RE NX NY (_bl K) _q (_a (pv 5) _c)))
   (_i (_z (_t Wt (pv 6) _q (_r _)) (_h (_B (i:=7) WF.nd rfl (Or.inl rfl) (_v Vf (_v Vf (pv 7) _q) (pv 6)))) _A)
   (_h (Yh (Y3 Rh Rn Ro XZ (pv 4) (_a (pv 7) _c)))))))
   (_h (Yh (Y3 Rh Rn Ro XZ (pv 1) (_a (_v Vf (_v Vf (pv 2) _q) (Y3 RE NX NY (_bl K) _q (_a (pv 4) _c))) _c)))))))
   (_h (_s (Y3 RE NX NY (_bl K) _q (_a (pv 1) _c)))))),?_⟩
 refine ⟨few rfl,fun L nL=>?_⟩;have hlen:rs.length≤40:=by have:=g.hi;rw [Qc] at this;exact this
 refine ⟨_,rfl,a,rfl,⟨_,.of ((_j nL) _ _ hr.lst)⟩,YL (xs:=rs.map fun x=>V.ref x.t) (fun i σ H2=>∃v2 v3 v4 v5 v6 v7,σ=[some (.ref a),some (.ref L),v2,v3,v4,v5,v6,v7]∧H2 L=some (.lst (((rs.take i).map fun x=>TongM.rowTxt x.row).map V.str))∧Same H H2) ?start ?sq ?turn ?done⟩
 case start=>exact ⟨_,_,_,_,_,_,rfl,_f,_j nL⟩
 case sq =>
  rintro i σ H2 _ ⟨_,_,_,_,_,_,_,_,s2⟩;exact .of (s2 _ _ hr.lst)
 case done =>
  rintro σ H2 ⟨v2,v3,v4,v5,v6,v7,rfl,hL,s2⟩;rw [Qc,QN] at hL;have hL':SqL K H2 L ((rs.map fun x=>TongM.rowTxt x.row).map V.str):=.of hL;refine ⟨rfl,_,rfl,_,L,rs.map fun x=>TongM.rowTxt x.row,rfl,rfl,.inl hL',?_,?_⟩
  ·have h1:=J9 (n:=1075) (l:=rs.map fun x=>TongM.rowTxt x.row) fun s hs=>by
    obtain ⟨x,hx,rfl⟩:=Qf.mp hs;obtain ⟨i,hi⟩:=Gd.mp hx;exact (TongM.row_sg g (i:=i) (r:=x.row) (by rw [Qi,hi];rfl)).2
   rw [Qc] at h1 ⊢;have l1:(Str.ofString "\n").length=1:=by trivial
   rw [l1];omega
  ·have e:(rs.map fun x=>TongM.rowTxt x.row)=(rs.map Lr.row).map TongM.rowTxt:=by rw [QJ];rfl
   have et:TongM.txt (rs.map Lr.row)=(Str.ofString "\n").join ((rs.map Lr.row).map TongM.rowTxt):=by unfold TongM.txt;rfl
   have q1:=q _ s2;rw [et] at q1;rw [e];exact q1
 case turn =>
  rintro i x σ H2 hx ⟨v2,v3,v4,v5,v6,v7,rfl,hL,s2⟩;rw [Qi] at hx;obtain ⟨y,hy,rfl⟩:=QE.mp hx;have hym:=Qt hy;have ro:(rs.map Lr.row)[i]?=some y.row:=by rw [Qi,hy];rfl
  obtain ⟨b1,b2,b3⟩:=g.br i y.row ro
  have b2':y.bs.length≤8:=by
   have:(y.bs.map (·.b)).length≤8:=b2;rw [Qc] at this;exact this
  have gw:=TongM.good_ws g i;refine ⟨y.t,_,rfl,.of (s2 _ _ (hr.tup hym)),rfl,_,_,rfl,_,_,rfl,rfl,?_⟩;refine ⟨few rfl,fun S nS=>?_⟩;have nS0:=_N s2 nS;have LS:L≠S:=_R hL nS;refine ⟨_,rfl,y.l,rfl,⟨_,.of ((_j nS) _ _ (s2 _ _ (hr.brs hym)))⟩,YL (xs:=y.bs.map fun z=>V.ref z.r) (fun j σ H3=>∃v5 v6 v7,σ=[some (.ref a),some (.ref L),some (.str y.w),some (.ref y.l),some (.ref S),v5,v6,v7]∧H3 S=some (.lst (((y.bs.take j).map fun z=>TongM.lineOf z.b).map V.str))∧H3 L=some (.lst (((rs.take i).map fun x=>TongM.rowTxt x.row).map V.str))∧Same H H3) ?start2 ?sq2 ?turn2 ?done2⟩
  case start2=>exact ⟨_,_,_,rfl,_f,(_j nS) _ _ hL,s2.trans (_j nS)⟩
  case sq2 =>
   rintro j σ H3 _ ⟨_,_,_,_,_,_,s3⟩;exact .of (s3 _ _ (hr.brs hym))
  case turn2 =>
   rintro j x σ H3 hx ⟨v5,v6,v7,rfl,hS,hL3,s3⟩;rw [Qi] at hx;obtain ⟨z,hz,rfl⟩:=QE.mp hx;have hzm:=Qt hz;have gb:TongM.GoodB _ z.b:=b3 z.b (Qf.mpr ⟨z,hzm,rfl⟩);refine ⟨z.r,_,rfl,.of (s3 _ _ (hr.br hym hzm)),rfl,_,_,rfl,_,_,rfl,rfl,?_⟩;have hp3:=s3 _ _ (hr.pcs hym hzm);have gm:=TongM.good_mem gw gb;have ll:=(TongM.line_sg gw gb).2;have g12:=gb.hi;refine ⟨rfl,_,rfl,TongM.blank,z.p,z.b.1,rfl,rfl,.inl (.of hp3),?sum,?_⟩
   case sum =>
    have h1:=J9 (n:=9) (l:=z.b.1) fun s hs=>(gm s (QL _ hs)).2;have l1:TongM.blank.length=1:=rfl;rw [l1];omega
   try dsimp only [_V]
   refine Yr (fun σ H4=>σ=[some (.ref a),some (.ref L),some (.str y.w),some (.ref y.l),some (.ref S),some (.ref z.p),some (.str z.b.2),some (.str (TongM.lineOf z.b))]∧H4=H3) (fun nx rest=>?_) (fun σ H4 hJ=>?_)
   ·by_cases he:z.b.2=""
    ·have el:TongM.lineOf z.b=TongM.blank.join z.b.1:=by unfold TongM.lineOf;rw [Qb he]
     refine ⟨_,rfl,rfl,_,rfl,_D (by simp [he]) (rest _ _ ⟨?_,rfl⟩)⟩;rw [el];rfl
    ·have el:TongM.lineOf z.b=TongM.blank.join z.b.1++TongM.blank++z.b.2:=by unfold TongM.lineOf;rw [Qa he]
     have l2:(TongM.blank.join z.b.1).length+1+z.b.2.length≤130:=by
      rw [el,Q9,Q9] at ll;exact ll
     have lb:=Uh;refine ⟨_,rfl,rfl,_,rfl,_Z (by simp [he]) ⟨_,rfl,_,_,rfl,rfl,?s1,_,rfl,_,_,rfl,rfl,?s2,rest _ _ ⟨?_,rfl⟩⟩⟩
     case s1=>show (TongM.blank.join z.b.1).length+1≤_;omega
     case s2 =>
      rw [Q9];show (TongM.blank.join z.b.1).length+1+z.b.2.length≤_;omega
     rw [el];rfl
   obtain ⟨rfl,rfl⟩:=hJ;have jl:=(QB.mp hz).1;refine ⟨_,rfl,.inl ⟨rfl,_,.of hS⟩,_,rfl,S,_,_,rfl,rfl,hS,small1000 (by simp;omega),⟨_,_,_,rfl,?_,?_,Uo s3 nS0⟩⟩
   ·rw [_f,RL,hz,Qh,Qh];rfl
   ·rw [_g LS];exact hL3
  case done2 =>
   rintro σ H3 ⟨v5,v6,v7,rfl,hS,hL3,s3⟩;rw [Qc,QN] at hS;have il:=(QB.mp hy).1;have gbs:TongM.GoodBs _ (y.bs.map (·.b)):=⟨b1,b2,b3⟩;have bl:=(TongM.bars_sg gw gbs).2;have e1:(y.bs.map fun z=>TongM.lineOf z.b)=(y.bs.map (·.b)).map TongM.lineOf:=by rw [QJ];rfl
   rw [e1] at hS;have nm:TongM.Nm y.w:=g.nm y.row (Qt ro);have n8:=nm.hi;have lb:=Uh;refine ⟨_,rfl,.inl ⟨rfl,_,.of hL3⟩,_,rfl,_,_,rfl,rfl,?s1,rfl,_,rfl,TongM.bar,S,(y.bs.map (·.b)).map TongM.lineOf,rfl,rfl,.inl (.of hS),?sum,_,_,rfl,rfl,?s2,L,_,_,rfl,rfl,hL3,small1000 (by simp;omega),⟨_,_,_,_,_,_,rfl,?_,Uo s3 nL⟩⟩
   case s1=>show y.w.length+3≤_;omega
   case sum =>
    have h1:=J9 (n:=130) (l:=(y.bs.map (·.b)).map TongM.lineOf) fun s hs=>by
     obtain ⟨b,hb,rfl⟩:=Qf.mp hs;exact (TongM.line_sg gw (b3 b hb)).2
    rw [Qc,Qc] at h1 ⊢;have l1:TongM.bar.length=3:=by trivial
    rw [l1];omega
   case s2 =>
    rw [Q9];show y.w.length+3+(TongM.bar.join ((y.bs.map (·.b)).map TongM.lineOf)).length≤_;omega
   have er:TongM.rowTxt y.row=y.w++TongM.equ++TongM.bar.join ((y.bs.map (·.b)).map TongM.lineOf):=by unfold TongM.rowTxt;rfl
   rw [_f,RL,hy,Qh,Qh];show _=some (HO.lst (_++[V.str (TongM.rowTxt y.row)]));rw [er];rfl
theorem _kv: _lb P base T:=by
 refine Fun.okY T._cz.F WS fun cdv A outer s H vs Q E hr h=>?_;obtain ⟨D,p,t,nm,way,ws,pool,ed,B,A,rfl,hE,hp,pk,tok,knm,clo,edl,q⟩:=h
 refine ⟨_,(_i (_B (i:=4) WS.nd rfl (Or.inl rfl) (Yb (_a (pv 3) _c)))
   (_i (_9 QD rfl (_5 (pv 2)) (_I (i:=5) WS.nd rfl (Or.inl rfl))
    (_i (_B (i:=6) WS.nd rfl (Or.inl rfl) Xl)
   (_i (_9 QD rfl (_5 (pv 4)) (_I (i:=7) WS.nd rfl (Or.inl rfl))
    (_i (_B (i:=8) WS.nd rfl (Or.inl rfl) (Jj (_C hr) (pv 0) (_3 (_a (pv 5) (_a (pv 7) _c))) (Yb _c) ⟨rfl,rfl,rfl,rfl⟩))
   (_i (_z (_t _U (_m _bx (pv 5) _d (fun _ _=>rfl)) _q (_r _)) (_h (_B (i:=8) WS.nd rfl (Or.inl rfl) (Yk (_C hr) (Yk (_C hr) (pv 1) (WY JD (pv 5) (WC _d) VS) (fun _ _=>rfl)) (pv 7) (fun _ _=>rfl)))) _A)
   (_h (_9 QD rfl (_5 (pv 8)) (_I (i:=9) WS.nd rfl (Or.inl rfl))
    (_h (YU (_C hr) (pv 6) (pv 9) YT rfl)))))))
   (_h (_B (i:=4) WS.nd rfl (Or.inl rfl) (_J (VO rfl) (by rfl) T.n_sorted WQ (_a (pv 6) _c)))))))
   (_h (_s (pv 4))))),?_⟩
 have kA:∀s∈way,∀n,Known B n->∀x∈Y0 B A s n,Known B x:=fun s hs n kn=>tok.led clo (pk s hs).1 kn;refine ⟨_,rfl,few rfl,fun L0 nL0=>⟨_,rfl,p,rfl,⟨_,(_j nL0).sql hp⟩,YL (xs:=way.map V.str) (fun i σ Hc=>∃(L:Addr) (xs:List Str) (v5 v6 v7 v8 v9:Option V),σ=[some (.ref D),some (.ref t),some (.ref p),some (.str nm),some (.ref L),v5,v6,v7,v8,v9]∧Same H Hc∧H L=none∧Hc L=some (.lst (xs.map V.str))∧SrtOf (XA (Y0 B A) (way.take i) (·=nm)) xs) ?start ?list ?turn ?done⟩⟩
 case start=>exact ⟨L0,[nm],_,_,_,_,_,rfl,_j nL0,nL0,_f,_fY nm⟩
 case list =>
  rintro i σ Hc _ ⟨L,xs,v5,v6,v7,v8,v9,rfl,sc,_⟩;exact sc.sql hp
 case done =>
  rintro σ Hc ⟨L,xs,v5,v6,v7,v8,v9,rfl,sc,nL,hL,srt⟩;rw [Qc,QN] at srt;exact ⟨_,rfl,q _ L xs sc nL hL srt⟩
 case turn =>
 rintro i y σ Hc hy ⟨L,xs,v5,v6,v7,v8,v9,rfl,sc,nL,hL,srt⟩;obtain ⟨s,hs,rfl⟩:=Xf hy;have hsm:=Qt hs;have tk:way.take (i+1)=way.take i++[s]:=by rw [Q1,hs];rfl
 have kx:∀y∈xs,Known B y:=fun y hy=>Ut (G:=(·∈way)) kA (fun r hr=>Q0 hr) (fun x e=>by rw [e];exact knm) y ((srt.mem y).mp hy);have ls:s.length≤sizeLine:=QS (Wc (pk s hsm).2);refine fun c nc=>?_;have ncH:=_N sc nc;have s1:=_j (o:=.dK []) nc;have hL1:=s1 _ _ hL;have cL:c≠L:=fun z=>by rw [z,hL] at nc;cases nc
 refine ⟨_,rfl,L,rfl,⟨_,.of hL1⟩,YL (xs:=xs.map V.str) (fun j σ Hj=>∃(cs:List (Str×V)) (v7 v8 v9:Option V),σ=[some (.ref D),some (.ref t),some (.ref p),some (.str nm),some (.ref L),some (.str s),some (.ref c),v7,v8,v9]∧Same H Hj∧Hj L=some (.lst (xs.map V.str))∧Hj c=some (.dK (Yo cs))∧(cs.map (·.1)).Nodup∧∀x,x∈cs.map (·.1)↔∃y,y∈xs.take j∧x∈Y0 B A s y) ?st ?li ?tu ?dn⟩
 case st=>exact ⟨[],_,_,_,rfl,sc.trans s1,hL1,_f,by simp,fun x=>by simp⟩
 case li =>
  rintro j σ Hj _ ⟨cs,v7,v8,v9,rfl,_,hLj,_⟩;exact .of hLj
 case dn =>
  rintro σ Hj ⟨cs,v7,v8,v9,rfl,sj,hLj,hcj,ndj,memj⟩;rw [Qc,QN] at memj
  have few2:(cs.map (·.1)).length≤60:=Qj (X7 ndj fun x hx=>by
   obtain ⟨y,hy,h⟩:=(memj x).mp hx;exact clo.inp _ (kA s hsm y (kx y hy) x h)) clo.few
  rw [Qc] at few2;refine ⟨_,rfl,c,cs,rfl,hcj,Q8 few2 (by decide),fun D5 zs nD5 hp5 JS=>⟨D5,zs,_,_,_,_,_,rfl,sj.trans (_j nD5),_N sj nD5,_f,⟨Uj JS,hp5.nodup_iff.mpr ndj,fun x=>?_⟩⟩⟩;rw [hp5.mem_iff,memj,tk,_aW];exact ⟨fun ⟨y,hy,hx⟩=>⟨y,(srt.mem y).mp hy,hx⟩,fun ⟨y,hy,hx⟩=>⟨y,(srt.mem y).mpr hy,hx⟩⟩
 case tu =>
 rintro j y σ Hj hy ⟨cs,v7,v8,v9,rfl,sj,hLj,hcj,ndj,memj⟩;obtain ⟨y,hyx,rfl⟩:=Xf hy;have ky:=kx y (Qt hyx);have tkj:xs.take (j+1)=xs.take j++[y]:=by rw [Q1,hyx];rfl
 refine ⟨_,rfl,D,rfl,.inr ⟨_,.inl (sj _ _ hE.d)⟩,_,rfl,_,rfl,few rfl,fun tt nt=>⟨few rfl,fun z nz=>?_⟩⟩;have st:=_j (o:=.tup [.str s,.str y]) nt;have sz:=_j (o:=.lst []) nz;have s2:=st.trans sz;have g:=DGet.t (k:=_x (s,y)) ((sj.trans s2) _ _ hE.d) (sz _ _ (_f (o:=.tup [.str s,.str y])));rw [Vq] at g;have sj2:=sj.trans s2;have hz2:_b (_b Hj tt (.tup [.str s,.str y])) z (.lst []) z=some (.lst []):=_f;have hLj2:=s2 _ _ hLj;have hcj2:=s2 _ _ hcj;generalize _b (_b Hj tt (.tup [.str s,.str y])) z (.lst [])=H2 at *;refine ⟨_,g,?_⟩
 obtain ⟨b,zs,eb,hb2,ez⟩:∃(b:Addr) (zs:List Str),((_K (s,y) ed).map fun q=>V.ref q.1).getD (V.ref z)=V.ref b∧H2 b=some (.lst (zs.map V.str))∧lk ed (s,y)=zs:=by
  cases hk:_K (s,y) ed with
  |none=>exact ⟨z,[],rfl,hz2,_aN hk⟩
  |some w=>exact ⟨w.1,w.2,rfl,(hE.mono sj2).l _ (WX hk),Jb hE.kn (WX hk)⟩
 rw [eb];dsimp only [_V];refine Yr (fun σ Hs=>∃(b:Addr) (zs:List Str),σ=[some (.ref D),some (.ref t),some (.ref p),some (.str nm),some (.ref L),some (.str s),some (.ref c),some (.str y),some (.ref b),v9]∧Hs=H2∧H2 b=some (.lst (zs.map V.str))∧∀x,x∈zs↔x∈Y0 B A s y) (fun nx rest=>?_) (fun σ Hs hJ=>?_)
 ·rcases _n1 (pk s hsm).1 with ⟨s9,ch,hch,hne⟩|⟨u,hu,rfl,hch⟩
  ·refine ⟨_,rfl,_,_,_,rfl,rfl,ls,hch,rfl,_,rfl,_D hne (rest _ _ ⟨b,zs,rfl,rfl,hb2,fun x=>?_⟩)⟩;rw [Jp s9,←edl s s9 y ky x,ez]
  ·obtain ⟨rs,⟨p',kvs,d,e,h1,h2,h3,h4,h5⟩,hA⟩:=tok.1 u hu;cases e;obtain ⟨r,hr',er⟩:=Qf.mp (hA y ky);have dg1:=DGet.k (k:=.inr u) (sj2 _ _ h1);rw [h2,←TongM.slice_col u] at dg1;obtain ⟨r',hr2,er',vr⟩:=UY (rs:=rs) rfl h5 (Qf.mpr ⟨r,hr',Qk (·.1) er⟩);obtain rfl:=_cP h5 hr2 hr' (er'.trans (Qk (·.1) er).symm);have dg2:=DGet.k (k:=.inr y) (sj2 _ _ h3);rw [vr] at dg2;refine ⟨_,rfl,_,_,_,rfl,rfl,ls,hch,rfl,_,rfl,_1 ⟨_,rfl,_,rfl,_,rfl,_,rfl,ls,t,_,rfl,dg1,_,rfl,d,_,rfl,dg2,rest _ _ ⟨r'.2.1,r'.2.2,rfl,rfl,sj2 _ _ (h4 r' hr2),fun x=>?_⟩⟩⟩;rw [show (TongM.col++u:Str)=":"++u from rfl,Jl,show r'.2.2=A u y from Qk (·.2) er]
 obtain ⟨b,zs,rfl,rfl,hb2,ez⟩:=hJ;have bc:b≠c:=fun e=>by rw [e,hcj2] at hb2;cases hb2
 refine ⟨_,rfl,b,rfl,⟨_,.of hb2⟩,YL (xs:=zs.map V.str) (fun l σ Hl=>∃(cs2:List (Str×V)) (v9:Option V),σ=[some (.ref D),some (.ref t),some (.ref p),some (.str nm),some (.ref L),some (.str s),some (.ref c),some (.str y),some (.ref b),v9]∧Same H Hl∧Hl L=some (.lst (xs.map V.str))∧Hl c=some (.dK (Yo cs2))∧Hl b=some (.lst (zs.map V.str))∧(cs2.map (·.1)).Nodup∧∀x,x∈cs2.map (·.1)↔x∈cs.map (·.1)∨x∈zs.take l) ?st3 ?li3 ?tu3 ?dn3⟩
 case st3=>exact ⟨cs,_,rfl,sj2,hLj2,hcj2,hb2,ndj,fun x=>by simp⟩
 case li3 =>
  rintro l σ Hl _ ⟨cs2,v9,rfl,_,_,_,hbl,_⟩;exact .of hbl
 case dn3 =>
  rintro σ Hl ⟨cs2,v9,rfl,sl,hLl,hcl,hbl,ndl,meml⟩;rw [Qc,QN] at meml;refine ⟨cs2,_,_,_,rfl,sl,hLl,hcl,ndl,fun x=>?_⟩;rw [meml,memj,tkj,ez];exact ⟨fun h=>h.elim (fun ⟨z,h1,h2⟩=>⟨z,QL _ h1,h2⟩) fun h=>⟨y,by simp,h⟩,fun ⟨z,h1,h2⟩=>(Qm.mp h1).elim (fun h1=>.inl ⟨z,h1,h2⟩) fun h1=>.inr (QQ.mp h1▸h2)⟩
 case tu3 =>
 rintro l x σ Hl hx ⟨cs2,v9,rfl,sl,hLl,hcl,hbl,ndl,meml⟩;obtain ⟨x,hxz,rfl⟩:=Xf hx;have tkl:zs.take (l+1)=zs.take l++[x]:=by rw [Q1,hxz];rfl
 have inP:∀x∈cs2.map (·.1),x∈pool:=fun x hx2=>clo.inp _ (by
  rcases (meml x).mp hx2 with h|h
  ·obtain ⟨z,hz,h2⟩:=(memj x).mp h;exact kA s hsm z (kx z (Q0 hz)) x h2
  ·exact kA s hsm y ky x ((ez x).mp (Q0 h)))
 have len2:(Yo cs2).length≤60:=by rw [Jm];exact Qj (X7 ndl inP) clo.few
 refine ⟨_,rfl,_,rfl,c,_,rfl,DPut.k (k:=.inr x) hcl (Wc len2),?_⟩;rw [JJ];refine ⟨_n cs2 x (.bl true),_,rfl,fun e u h=>?_,?_,_f,?_,Ji ndl,fun x'=>?_⟩
 ·rw [_g (fun z=>by subst z;rw [ncH] at h;cases h)];exact sl _ _ h
 ·rw [_g cL.symm];exact hLl
 ·rw [_g bc];exact hbl
 ·rw [JI,meml,tkl,Qm,QQ,Gm]
theorem _lV: _mN P base T:=by
 refine Fun.okY T._eU.F _iP fun cdv A outer s H vs Q E hr h=>?_;obtain ⟨D,l,m,n,zs,B,kvs,rfl,hD,hl0,zl,bo,kn,kz,q⟩:=h;have hl:SqL K H l (zs.map V.str):=.of hl0
 refine ⟨_,(_i (_z (_t _U (pv 1) _q (_r _)) (_h (_s (XH rfl (Xc (N:=["_law_one","_law_name"]) ["_law_name"] [none,some 2] rfl (by trivial) (by trivial) (by rfl) (by rfl) (by rfl) (by rfl) (by rfl)) (_5 (pv 3)) (fun _ _ _=>(_I (i:=0) _oe rfl (Or.inl rfl))) (fun _ _ _=>(Wr (_t Wt (pv 0) (pv 1) (_r _)))) (fun _ _ _=>(pv 0))))) _A)
   (_i (_z (_t _U (pv 1) _q (_r _)) (_h (_s (XH rfl (Xc (N:=["_law_one","_law_born","_law_name"]) ["_law_name","_law_born"] [none,some 0,some 2] rfl (by trivial) (by trivial) (by rfl) (by rfl) (by rfl) (by rfl) (by rfl)) (_5 (pv 3)) (fun _ _ _=>(_I (i:=0) _d5 rfl (Or.inl rfl))) (fun _ _ _=>(Wr (_t Xs (Yk (_C hr) (pv 1) (pv 0) (fun _ _=>rfl)) (Yk (_C hr) (pv 1) (pv 2) (fun _ _=>rfl)) (_r _)))) (fun _ _ _=>(pv 0))))) _A)
   (_i (_z (_t _U (pv 1) _q (_r _)) (_h (_s (XH rfl (Xc (N:=["_law_one","_law_born","_law_name"]) ["_law_name","_law_born"] [none,some 0,some 2] rfl (by trivial) (by trivial) (by rfl) (by rfl) (by rfl) (by rfl) (by rfl)) (_5 (pv 3)) (fun _ _ _=>(_I (i:=0) _d5 rfl (Or.inl rfl))) (fun _ _ _=>(Wr (_t Xm (Yk (_C hr) (pv 1) (pv 0) (fun _ _=>rfl)) (Yk (_C hr) (pv 1) (pv 2) (fun _ _=>rfl)) (_r _)))) (fun _ _ _=>(pv 0))))) _A)
   (_h (_s (pv 3)))))),?_⟩
 refine ⟨_,rfl,rfl,_,rfl,_2 (fun h1=>?_) (fun h1=>?_)⟩
 ·have h1':m="other":=by simpa [Yw] using h1
  refine ⟨_,rfl,l,rfl,⟨_,hl⟩,Wq (zs.map (Xw B m n)) (small1000 (by rw [Qc];omega)) (fun σ=>∃w,σ=[w,some (.str n)]) ⟨_,rfl⟩ (fun j H4 hj sm=>?go) (fun H4 sm=>?stop) (fun j σ H4 x H5 z hz hσ sm hx C hC=>?step) (fun D9 H9 nD9 s9 hD9=>?fin)⟩
  case go=>exact ⟨_,_,sm.sql hl,Qu (by rw [Qc];rw [Qc] at hj;exact hj)⟩
  case stop=>exact ⟨_,sm.sql hl,by rw [Qc,Qc];exact Qe _⟩
  case fin=>rw [UM] at hD9;exact q _ D9 s9 hD9
  case step =>
  obtain ⟨w,rfl⟩:=hσ;obtain ⟨rfl,hx2⟩:=hx;obtain ⟨y,hy,rfl⟩:=Xf (hx2 _ (sm.sql hl));rw [Qi,hy] at hz;obtain rfl:=Ql hz;have ky:=kz y (Qt hy);have ek:(!decide (V.str y=V.str n))=Yc B m n y:=by unfold Yc;rw [Qb h1'];by_cases z:n=y<;>simp [z,eq_comm]
  refine ⟨_,rfl,_,rfl,rfl,_,rfl,?_⟩;by_cases h:Yc B m n y=true
  ·rw [show Xw B m n y=some (.str y) from Qb h] at hC;exact _Z (ek.trans h) ⟨_,rfl,hC _ _ ⟨_,rfl⟩ (Same.refl _)⟩
  ·rw [show Xw B m n y=none from Qa h] at hC;exact _D (ek.trans (QP.mpr h)) (hC _ _ ⟨_,rfl⟩ (Same.refl _))
 have n1:¬m="other":=by simpa [Yw] using h1
 refine ⟨_,rfl,rfl,_,rfl,_2 (fun h2=>?_) (fun h2=>?_)⟩
 ·have h2':m="elder":=by simpa [Yw] using h2
  refine ⟨_,rfl,l,rfl,⟨_,hl⟩,Wq (zs.map (Xw B m n)) (small1000 (by rw [Qc];omega)) (fun σ=>∃w,σ=[w,some (.ref D),some (.str n)]) ⟨_,rfl⟩ (fun j H4 hj sm=>?go) (fun H4 sm=>?stop) (fun j σ H4 x H5 z hz hσ sm hx C hC=>?step) (fun D9 H9 nD9 s9 hD9=>?fin)⟩
  case go=>exact ⟨_,_,sm.sql hl,Qu (by rw [Qc];rw [Qc] at hj;exact hj)⟩
  case stop=>exact ⟨_,sm.sql hl,by rw [Qc,Qc];exact Qe _⟩
  case fin=>rw [UM] at hD9;exact q _ D9 s9 hD9
  case step =>
  obtain ⟨w,rfl⟩:=hσ;obtain ⟨rfl,hx2⟩:=hx;obtain ⟨y,hy,rfl⟩:=Xf (hx2 _ (sm.sql hl));rw [Qi,hy] at hz;obtain rfl:=Ql hz;have ky:=kz y (Qt hy);have ek:decide (_X B y<_X B n)=Yc B m n y:=by unfold Yc;rw [Qa n1,Qb h2']
  refine ⟨_,rfl,_,rfl,D,_,rfl,(by have z:=DGet.kr (k:=.inr y) (Ux hD sm);rw [bo y ky] at z;exact z),_,rfl,_,rfl,D,_,rfl,(by have z:=DGet.kr (k:=.inr n) (Ux hD sm);rw [bo n kn] at z;exact z),_,_,rfl,rfl,_,rfl,?_⟩;by_cases h:Yc B m n y=true
  ·rw [show Xw B m n y=some (.str y) from Qb h] at hC;exact _Z (ek.trans h) ⟨_,rfl,hC _ _ ⟨_,rfl⟩ (Same.refl _)⟩
  ·rw [show Xw B m n y=none from Qa h] at hC;exact _D (ek.trans (QP.mpr h)) (hC _ _ ⟨_,rfl⟩ (Same.refl _))
 have n2:¬m="elder":=by simpa [Yw] using h2
 refine ⟨_,rfl,rfl,_,rfl,_2 (fun h3=>?_) (fun h3=>?_)⟩
 ·have h3':m="younger":=by simpa [Yw] using h3
  refine ⟨_,rfl,l,rfl,⟨_,hl⟩,Wq (zs.map (Xw B m n)) (small1000 (by rw [Qc];omega)) (fun σ=>∃w,σ=[w,some (.ref D),some (.str n)]) ⟨_,rfl⟩ (fun j H4 hj sm=>?go) (fun H4 sm=>?stop) (fun j σ H4 x H5 z hz hσ sm hx C hC=>?step) (fun D9 H9 nD9 s9 hD9=>?fin)⟩
  case go=>exact ⟨_,_,sm.sql hl,Qu (by rw [Qc];rw [Qc] at hj;exact hj)⟩
  case stop=>exact ⟨_,sm.sql hl,by rw [Qc,Qc];exact Qe _⟩
  case fin=>rw [UM] at hD9;exact q _ D9 s9 hD9
  case step =>
  obtain ⟨w,rfl⟩:=hσ;obtain ⟨rfl,hx2⟩:=hx;obtain ⟨y,hy,rfl⟩:=Xf (hx2 _ (sm.sql hl));rw [Qi,hy] at hz;obtain rfl:=Ql hz;have ky:=kz y (Qt hy);have ek:decide (_X B n<_X B y)=Yc B m n y:=by unfold Yc;rw [Qa n1,Qa n2,Qb h3']
  refine ⟨_,rfl,_,rfl,D,_,rfl,(by have z:=DGet.kr (k:=.inr y) (Ux hD sm);rw [bo y ky] at z;exact z),_,rfl,_,rfl,D,_,rfl,(by have z:=DGet.kr (k:=.inr n) (Ux hD sm);rw [bo n kn] at z;exact z),_,_,rfl,rfl,_,rfl,?_⟩;by_cases h:Yc B m n y=true
  ·rw [show Xw B m n y=some (.str y) from Qb h] at hC;exact _Z (ek.trans h) ⟨_,rfl,hC _ _ ⟨_,rfl⟩ (Same.refl _)⟩
  ·rw [show Xw B m n y=none from Qa h] at hC;exact _D (ek.trans (QP.mpr h)) (hC _ _ ⟨_,rfl⟩ (Same.refl _))
 have n3:¬m="younger":=by simpa [Yw] using h3
 have e:zs.filter (Yc B m n)=zs:=List.filter_eq_self.mpr fun y _=>by unfold Yc;rw [Qa n1,Qa n2,Qa n3]
 exact ⟨_,rfl,q _ l (Same.refl H) (by rw [e];exact hl0)⟩
theorem _jS:_pB P base T:=by
 refine Fun.okY T._dG.F W8 fun cdv A outer s H vs Q E hr h=>?_;obtain ⟨D,t,l,bo,d,u,bs,ws,pool,ed,B,A,kt,rs,zs,rfl,hE,hl,hbs,tok,clo,edl,ht,hv,hd,er,hrs,pnd,pnl,hbo,ez,bv,nr,q⟩:=h
 refine ⟨_,(_i (_z (PW.pt (Xb (Xo (YG (Xh K (by rfl) T.n_isinstance (_a (Yk (_C hr) (pv 1) (pv 4) (fun _ _=>rfl)) (_a (Xq (v:=.ty "dict") (by rfl) T.n_dict _ci rfl) _c))))) (Xk (_t (_aZ hr.units) (WV (_bQ rfl) (by rfl) T.n_list Ua (_a (Yk (_C hr) (pv 1) (pv 4) (fun _ _=>rfl)) _c)) (_J (VO rfl) (by rfl) T.n_sorted WQ (_a (pv 3) _c)) (_r _))))) (_h (_s YT)) _A)
   (_i (_ar (_9 QD rfl (_ap (pv 3)) (_I (i:=5) W8.nd rfl (Or.inl rfl))
    (_i (_B (i:=6) W8.nd rfl (Or.inl rfl) Xl)
   (_i (_9 QD rfl (_5 (pv 2)) (_cG rfl (YN (_I (i:=7) W8.nd rfl (Or.inl rfl)) (YN (_I (i:=8) W8.nd rfl (Or.inl rfl)) Wi)))
    (_h (_9 QD rfl (_5 (_Q (_lV T) hr (_a (pv 3) (_a (pv 8) (_a (pv 5) (_a (_Q (_kv T) hr (_a (pv 0) (_a (pv 1) (_a (pv 7) (_a (pv 5) _c))))) _c)))))) (_I (i:=9) W8.nd rfl (Or.inl rfl))
    (_h (YU (_C hr) (pv 6) (pv 9) YT rfl)))))
   (_i (_B (i:=10) W8.nd rfl (Or.inl rfl) (Yk (_C hr) (Yk (_C hr) (pv 1) (pv 4) (fun _ _=>rfl)) (pv 5) (fun _ _=>rfl)))
   (_i (_z (PW.pt (Xb (Xo (YG (Xh K (by rfl) T.n_isinstance (_a (pv 10) (_a (Xq (v:=.ty "list") (by rfl) T.n_list Ua rfl) _c))))) (Xk (_t (_aZ hr.units) (pv 10) (_J (VO rfl) (by rfl) T.n_sorted WQ (_a (pv 6) _c)) (_r _))))) (_h (_s YT)) _A)
   (_h (_9 QD rfl (_5 (pv 10)) (_I (i:=9) W8.nd rfl (Or.inl rfl))
    (_h (_z (Xo (YG (Xh K (by rfl) T.n_isinstance (_a (pv 9) (_a (Xq (v:=.ty "str") (by rfl) T.n_str WT rfl) _c))))) (_h (_s YT)) _A))))))))))
   (_h (_s YT)))),?_⟩
 have dgu:=fun {Hx:Hp} (h:Hx t=some (.dK kt))=>hv▸DGet.k (H:=Hx) (k:=.inr u) h
 have rl:rs.length≤30:=by
  have:=Qk List.length er;rw [Qc,(Y4 _).length_eq] at this;rw [this];exact pnl
 have zl:zs.length≤30:=by
  have:=Qk List.length ez;rw [Qc] at this;rw [this];exact pnl
 have rz:(rs.map fun r=>(r.1,V.ref r.2.1)).map (·.1)=_w (_T B.kept):=by rw [QJ];exact er
 refine ⟨_,rfl,_,rfl,t,_,rfl,dgu ht,_,.ty "dict",_,_,rfl,rfl,.of (.dK hd),T.kl_dict,_,rfl,_O ⟨_,rfl,_,rfl,t,_,rfl,dgu ht,d,rs.map (fun r=>(r.1,V.ref r.2.1)),rfl,by rw [hd];unfold YC;rw [QJ];rfl,by rw [Qc];exact Qj rl (by decide),fun L1 n1=>?_⟩⟩;rw [rz];have e1:=_j (o:=.lst ((_w (_T B.kept)).map V.str)) n1;refine ⟨_,rfl,bo,zs,rfl,e1 _ _ hbo,Q8 zl (by decide),fun L2 zs2 n2 hp2 hs2=>?_⟩;rw [ez] at hp2;obtain rfl:=_aP hp2 hs2;have e2:=_j (o:=.lst ((_w (_T B.kept)).map V.str)) n2;refine ⟨L1,L2,_,rfl,rfl,.of (e2 _ _ _f),.of _f,_,rfl,_O ?_⟩;have sm:=e1.trans e2;generalize _b (_b H L1 (.lst ((_w (_T B.kept)).map V.str))) L2 (.lst ((_w (_T B.kept)).map V.str))=Hm at sm ⊢;have hbm:=sm _ _ hbo;refine ⟨bo,Yo zs,hbm,?_⟩;refine ⟨_,rfl,bo,_,rfl,hbm,fun ob=>?_⟩;refine _cL (kvs:=Yo zs) (fun _ σ Hj=>YZ bo Hm Hj∧Hj bo=some (.frz ob (.dK (Yo zs)))∧∃v5 v6 v7 v8 v9 v10,σ=[some (.ref D),some (.ref t),some (.ref l),some (.ref bo),some (.str u),v5,v6,v7,v8,v9,v10]) ?start ?list ?turn ?done
 case start=>exact ⟨fun c u nc e=>by rw [_g nc];exact e,_f,_,_,_,_,_,_,rfl⟩
 case list =>
  rintro i' σ Hj _ ⟨_,hd,_⟩;exact hd
 case done =>
  rintro σ Hj ⟨bt,hd',v5,v6,v7,v8,v9,v10,rfl⟩;refine ⟨ob,hd',q _ fun c u e=>?_⟩;by_cases z:c=bo
  ·rw [z] at e ⊢;rw [hbo] at e;cases e;exact _f
  ·rw [_g z];exact bt _ _ z (sm _ _ e)
 case turn =>
 rintro i' p σ Hj hp ⟨bt,hb',v5,v6,v7,v8,v9,v10,rfl⟩;rw [Qi] at hp;obtain ⟨pz,hpz,rfl⟩:=QE.mp hp;obtain ⟨n,dv⟩:=pz;have hn:n∈_T B.kept:=by rw [←ez];exact Qf.mpr ⟨_,Qt hpz,rfl⟩
 have kN:Known B n:=_bM hn;obtain ⟨r,hr1,er1,hvr⟩:=UY er ((Y4 _).nodup_iff.mpr pnd) ((Y4 _).mem_iff.mpr hn);have off:∀{a:Addr} {o:HO},H a=some o->(∀ys,o≠.dK ys)->Hj a=some o:=fun {a o} e nk=>bt _ _ (fun z=>by rw [z,hbo] at e;cases e;exact nk _ rfl) (sm _ _ e);have htj:Hj t=some (.dK kt):=bt _ _ (fun z=>by rw [z,hbo] at ht;cases ht;exact nr _ _ hv) (sm _ _ ht);have hdj:Hj d=some (.dK (YC rs)):=bt _ _ (fun z=>by rw [z,hbo] at hd;have e:Yo zs=YC rs:=HO.dK.inj (Ql hd);rw [←e] at hvr;exact nr _ _ hvr) (sm _ _ hd);have hEj:=(hE.mono sm).but bt hbm;have tokj:=(tok.mono sm).but bt hbm nr kN;have hlj:=off hl fun _ z=>by cases z
 obtain ⟨hr2,srt⟩:=hrs r hr1;rw [er1] at srt;have hrj:=off hr2 fun _ z=>by cases z
 have pk:∀b∈bs.map (·.b),∀s∈b.1,TongM.PieceOk ws s:=fun b hb=>by
  obtain ⟨y,hy,rfl⟩:=Qf.mp hb;exact fun s hs=>((hbs y hy).2.2 s hs).1
 have kW:=LedW.kn tok clo pk kN;dsimp only [_V];refine fun c nc=>?_;have sc:=_j (o:=.dK []) nc;dsimp only [_V];refine ⟨_,rfl,l,rfl,⟨_,.of (sc _ _ hlj)⟩,YL (xs:=bs.map fun y=>V.ref y.r) (fun j σ Hx=>∃(cs:List (Str×V)) (v7 v8 v9:Option V),σ=[some (.ref D),some (.ref t),some (.ref l),some (.ref bo),some (.str u),some (.str n),some (.ref c),v7,v8,v9,v10]∧Same Hj Hx∧Hx c=some (.dK (Yo cs))∧(cs.map (·.1)).Nodup∧∀y,y∈cs.map (·.1)↔LedW B A ((bs.map (·.b)).take j) n y) ?st ?li ?tu ?dn⟩
 case st=>exact ⟨[],_,_,_,rfl,sc,_f,by simp,fun y=>⟨fun h=>(by cases h),fun ⟨b,hb,_⟩=>(by cases hb)⟩⟩
 case li =>
  rintro j σ Hx _ ⟨cs,v7,v8,v9,rfl,sx,_⟩;exact .of (sx _ _ hlj)
 case dn =>
  rintro σ Hx ⟨cs,v7,v8,v9,rfl,sx,hc,ndc,mem⟩;rw [Qc,←Qc (f:=(·.b)),QN] at mem;have cl:=Qj (X7 ndc fun y hy=>clo.inp _ (kW y ((mem y).mp hy))) clo.few;rw [Qc] at cl;have dgn:=DGet.k (k:=.inr n) (sx _ _ hdj);rw [hvr] at dgn;dsimp only [_V];refine ⟨_,rfl,_,rfl,t,_,rfl,dgu (sx _ _ htj),_,rfl,d,_,rfl,dgn,?_⟩;dsimp only [_V];refine ⟨_,rfl,_,.ty "list",_,_,rfl,rfl,.of (.lst (sx _ _ hrj)),T.kl_list,_,rfl,_O ⟨_,rfl,_,rfl,c,cs,rfl,hc,Q8 cl (by decide),fun L3 zs3 n3 hp3 hs3=>?_⟩⟩;have e3:=_j (o:=.lst (zs3.map V.str)) n3;have eq3:r.2.2=zs3:=srt.eq ⟨Uj hs3,hp3.nodup_iff.mpr ndc,fun y=>by rw [hp3.mem_iff,mem]⟩ fun _=>Iff.rfl;have h3:=e3 _ _ (sx _ _ hrj);rw [eq3] at h3;refine ⟨r.2.1,L3,zs3,rfl,rfl,.of h3,.of _f,_,rfl,_O ?_⟩;have sx3:=sx.trans e3;generalize _b Hx L3 (.lst (zs3.map V.str))=Hy at sx3 ⊢;refine ⟨_,rfl,r.2.1,rfl,⟨_,.of (sx3 _ _ hrj)⟩,YL (xs:=r.2.2.map V.str) (fun j σ Hx=>∃v9,σ=[some (.ref D),some (.ref t),some (.ref l),some (.ref bo),some (.str u),some (.str n),some (.ref c),v7,v8,v9,some (.ref r.2.1)]∧Hx=Hy) ⟨_,rfl,rfl⟩ ?li4 ?tu4 ?dn4⟩
  case li4 =>
   rintro j σ Hz _ ⟨v9,rfl,rfl⟩;exact .of (sx3 _ _ hrj)
  case tu4 =>
   rintro j y σ Hz hy ⟨v9,rfl,rfl⟩;obtain ⟨y,_,rfl⟩:=Xf hy;exact ⟨_,rfl,_,.ty "str",_,_,rfl,rfl,.of (.str _),T.kss',_,rfl,_O ⟨_,rfl,rfl⟩⟩
  case dn4 =>
  rintro σ Hz ⟨v9,rfl,rfl⟩;exact ⟨fun c u nc e=>sx3 _ _ (bt _ _ nc e),sx3 _ _ hb',_,_,_,_,_,_,rfl⟩
 case tu =>
 rintro j x σ Hx hx ⟨cs,v7,v8,v9,rfl,sx,hc,ndc,mem⟩;rw [Qi] at hx;obtain ⟨y,hy,rfl⟩:=QE.mp hx;have hym:=Qt hy;obtain ⟨y1,y2,y3⟩:=hbs y hym;have hbm2:y.b∈bs.map (·.b):=Qf.mpr ⟨y,hym,rfl⟩;have tkb:=LedW.snoc (B:=B) (A:=A) (n:=n) (show (bs.map (·.b))[j]?=some y.b by rw [Qi,hy];rfl);dsimp only [_V];refine ⟨y.r,_,rfl,.of (sx _ _ (off y1 fun _ z=>by cases z)),rfl,_,_,rfl,_,_,rfl,rfl,?_⟩;refine ⟨_,rfl,_,rfl,_,rfl,_,rfl,_,rfl,_,rfl,_,rfl,rfl,D,y.p,t,n,y.b.1,ws,pool,ed,B,A,rfl,hEj.mono sx,.of (sx _ _ (off y2 fun _ z=>by cases z)),y3,tokj.mono sx,kN,clo,edl,fun H7 D7 xs s7 nD7 hD7 srt7=>?_⟩;have xin:∀x∈xs,Known B x:=fun x hx=>Ut (G:=TongM.PieceOk ws) (fun _ hs _ kn=>tok.led clo hs kn) (pk _ hbm2) (fun x e=>by rw [e];exact kN) x ((srt7.mem x).mp hx);have xl:xs.length≤60:=Qj (X7 srt7.nd fun x hx=>clo.inp _ (xin x hx)) clo.few;refine ⟨rfl,bo,D7,y.b.2,n,xs,B,Yo zs,rfl,.inr ⟨ob,s7 _ _ (sx _ _ hb')⟩,hD7,xl,bv,kN,xin,fun H8 M s8 hM=>?_⟩;have s78:=s7.trans s8;have hc8:=s78 _ _ hc;have cM:c≠M:=fun z=>by rw [←z,hc8] at hM;cases hM
 refine ⟨M,rfl,⟨_,.of hM⟩,YL (xs:=(xs.filter (Yc B y.b.2 n)).map V.str) (fun j' σ Hz=>∃(cs2:List (Str×V)) (v9:Option V),σ=[some (.ref D),some (.ref t),some (.ref l),some (.ref bo),some (.str u),some (.str n),some (.ref c),some (.ref y.p),some (.str y.b.2),v9,v10]∧Same Hj Hz∧Hz M=some (.lst ((xs.filter (Yc B y.b.2 n)).map V.str))∧Hz c=some (.dK (Yo cs2))∧(cs2.map (·.1)).Nodup∧∀x,x∈cs2.map (·.1)↔LedW B A ((bs.map (·.b)).take j) n x∨x∈(xs.filter (Yc B y.b.2 n)).take j') ?st5 ?li5 ?tu5 ?dn5⟩
 case st5=>exact ⟨cs,_,rfl,sx.trans s78,hM,hc8,ndc,fun y=>by rw [mem];simp⟩
 case li5 =>
  rintro j' σ Hz _ ⟨cs2,v9,rfl,_,hM,_⟩;exact .of hM
 case dn5 =>
  rintro σ Hz ⟨cs2,v9,rfl,sj,hMj,hcj,ndj,memj⟩;rw [Qc,QN] at memj;refine ⟨cs2,_,_,_,rfl,sj,hcj,ndj,fun x=>?_⟩;rw [memj,tkb,QX,srt7.mem]
 case tu5 =>
 rintro j' x σ Hz hx' ⟨cs2,v9,rfl,sj,hMj,hcj,ndj,memj⟩;obtain ⟨x,hxz,rfl⟩:=Xf hx';have tkj:(xs.filter (Yc B y.b.2 n)).take (j'+1)=(xs.filter (Yc B y.b.2 n)).take j'++[x]:=by rw [Q1,hxz];rfl
 have inP:∀x∈cs2.map (·.1),x∈pool:=fun x hx2=>clo.inp _ (by
  rcases (memj x).mp hx2 with ⟨b',h1,h2⟩|h
  ·exact kW x ⟨b',Q0 h1,h2⟩
  ·exact xin x (QX.mp (Q0 h)).1)
 have len2:(Yo cs2).length≤60:=by rw [Jm];exact Qj (X7 ndj inP) clo.few
 refine ⟨_,rfl,_,rfl,c,_,rfl,DPut.k (k:=.inr x) hcj (Wc len2),?_⟩;rw [JJ];refine ⟨_n cs2 x (.bl true),_,rfl,fun e o h=>?_,?_,_f,Ji ndj,fun x'=>?_⟩
 ·rw [_g (fun z=>by subst z;rw [nc] at h;cases h)];exact sj _ _ h
 ·rw [_g cM.symm];exact hMj
 ·rw [JI,memj,tkj,Qm,QQ,Gm]
theorem _lU:_jL P base T:=by
 refine Fun.okY T.UC.F Wa fun cdv A outer s H vs Q E hr h=>?_;obtain ⟨l,ss,rfl,hl,l63,q⟩:=h
 refine ⟨_,(_i (_B (i:=1) Wa.nd rfl (Or.inl rfl) (_Q (_jP T) hr (_a (pv 0) (_a _d (_a _d _c)))))
   (_i (_B (i:=2) Wa.nd rfl (Or.inl rfl) (_Q (_kC T) hr (_a (pv 1) _c)))
   (_i (_B (i:=3) Wa.nd rfl (Or.inl rfl) Xl)
   (_i (_B (i:=4) Wa.nd rfl (Or.inl rfl) (_kE T.kB_ (_hY T) (hr.mono (by decide)) (by rfl) T.mB T.JP.b .nil Xn))
   (_i (_9 QD rfl (_5 (pv 1)) (_I (i:=5) Wa.nd rfl (Or.inl rfl))
    (_i (Yh (_4 (pv 4) T.lB_ (_nJ T) hr (_a (pv 5) _c)))
   (_h (_z (_t _U (_m _o (pv 5) _d (fun _ _=>rfl)) _q (_r _)) (_h (YU (_C hr) (pv 3) (_m _o (pv 5) _d (fun _ _=>rfl)) (_m _o (pv 5) _d (fun _ _=>rfl)) rfl)) _A))))
   (_i (V8 (i:=6) rfl  Wa.nd rfl (Or.inl rfl) (Xc (N:=["_law_k","_law_script"]) ["_law_script"] [none,some 0] rfl (by trivial) (by trivial) (by rfl) (by rfl) (by rfl) (by rfl) (by rfl)) (_dV (by rfl) T.n_range (_a _d (_a (_J (_bP rfl) (by rfl) T.n_min Ub (_a (_J Ys (by rfl) T.n_len _8 (_a (pv 0) _c)) (_a _d _c))) (_a _d _c)))) (fun _ _ _=>(_I (i:=0) _nh rfl (Or.inl rfl))) (fun _ _ _=>Wy) (fun _ _ _=>(_m (_pE K rfl) (pv 1) (pv 0) (fun _ _=>rfl))))
   (_i (_B (i:=7) Wa.nd rfl (Or.inl rfl) (_Q (_ks T) hr (_a (_v _fv (Yb (_a (_Q (JH T) hr (_a (pv 0) (_a _d _c))) _c)) (pv 6)) (_a (_Q (_mc T) hr (_a (_Q (JH T) hr (_a (pv 0) (_a _d _c))) _c)) _c))))
   (_i (_B (i:=8) Wa.nd rfl (Or.inl rfl) (U8 (_aq T.mk_Tongue (_mz T) (hr.mono (by decide)) (by rfl) T.m_Tongue T.JA.b .nil Xn (_a (_Q (_md T) hr (_a (pv 7) _c)) _c)) T.cl_Tongue T._ak.me (_oC T) (hr.mono (by decide)) T._ak.b .nil Xn (_a (pv 4) _c)))
   (_i (_z (PW.pt (Xb (Xo (YG (Xh K (by rfl) T.n_isinstance (_a (pv 8) (_a (Xq (v:=.ty "dict") (by rfl) T.n_dict _ci rfl) _c))))) (Xk (_t (_aZ hr.units) (WV (_bQ rfl) (by rfl) T.n_list Ua (_a (pv 8) _c)) (XH rfl (Xc (N:=["_law_word","_law_branches"]) [] [none,none] rfl (by trivial) (by trivial) (by rfl) (by rfl) (by rfl) (by rfl) (by rfl)) (_5 (pv 7)) (fun _ _ _=>(_eA (n:=2) K rfl (YN (_I (i:=0) _dj rfl (Or.inl rfl)) (YN (_I (i:=1) _dj rfl (Or.inl rfl)) Wi)))) (fun _ _ _=>Wy) (fun _ _ _=>(pv 0))) (_r _))))) (_h (_s YT)) _A)
   (_i (_9 QD rfl (_5 (pv 7)) (VR rfl (YN (_I (i:=9) Wa.nd rfl (Or.inl rfl)) (YN (_I (i:=10) Wa.nd rfl (Or.inl rfl)) Wi)))
    (_h (_z (Xo (YG (_Q (_jS T) hr (_a (pv 2) (_a (pv 8) (_a (pv 10) (_a (pv 3) (_a (pv 9) _c)))))))) (_h (_s YT)) _A)))
   (_h (_s YT)))))))))))),?_⟩
 refine ⟨_,rfl,rfl,l,ss,rfl,hl,l63,fun H1 Le ks ns s1 nLe hLe hR N gd k30=>?_⟩;refine ⟨_,rfl,rfl,Le,ks,ns,rfl,.of hLe,hR,gd,by omega,fun H2 De ed ls s2 nDe hE hb lnd hla hlk=>?_⟩;dsimp only [_V];have hLe2:=s2 _ _ hLe;have hR2:Jt K H2 ks:=fun p hp=>s2.sqt (hR p hp);have hl2:=(s1.trans s2).sql hl;have n24:=N.len;clear hLe hR hl s1 s2;refine fun Db nDb=>?_;dsimp only [_V];refine fun b dx nb ndx nn=>⟨rfl,b,dx,rfl,_f,fun H4 k bi li ti su hB4 keep nk nbi nli nti nsu=>⟨rfl,?_⟩⟩;obtain ⟨s4,f4⟩:=_hT nb ndx keep nk nbi nli nti nsu;clear keep nk nbi nli nti nsu;have sD:∀o:HO,Same H2 (_b H2 Db o):=fun o=>_j nDb;refine ⟨_,rfl,Le,rfl,⟨_,.of (s4 _ _ (sD _ _ _ hLe2))⟩,YL (xs:=XM ks) (fun i σ Hc=>∃(B:Bk) (v:Option V),σ=[some (.ref l),some (.ref Le),some (.ref De),some (.ref Db),some (.ref b),v,none,none,none,none,none]∧BkAt K T.cB Hc b dx k bi li ti su B∧LI5 ns B B.kept∧B.kept.map (·.1)=((ks.take i).map (·.1)).map Ent.told∧Same (_b H2 Db (.dK (Yo (YY ((ks.take i).map (·.1)))))) Hc∧∀c∈ft k bi li ti su B,c≠Db∧H2 c=none) ?start ?list ?turn ?done⟩
 case start=>exact ⟨VL,none,rfl,hB4,LI5.start ns,rfl,s4,fun c m=>Js.mp (f4 c m)⟩
 case list =>
  rintro i σ Hc _ ⟨B,v,rfl,_,_,_,sc,_⟩;exact ((sD _).trans sc).sql (.of hLe2)
 case turn =>
  rintro i y σ Hc hy ⟨B,v,rfl,hB,li5,hk,sc,g1⟩;obtain ⟨p,hp,rfl⟩:=_f4 hy;obtain ⟨e,a⟩:=p;have il:=(QB.mp hp).1;have row:=((sD _).trans sc).sqt (hR2 _ (Qt hp));have tk:(ks.take (i+1)).map (·.1)=(ks.take i).map (·.1)++[e]:=_cT hp;have gt:GdL ns ((ks.take i).map (·.1)++[e]):=by rw [←tk,Gr];exact gd.take _
  have hkl:B.kept.length≤60:=by
   have:=_cf hk;rw [Qc,Qc,QU] at this;omega
  obtain ⟨no,d5,rm⟩:=GdL.ref li5 hk gt hkl (by omega);refine ⟨_,rfl,b,dx,_,rfl,hB.ob,rfl,_,rfl,rfl,b,dx,k,bi,li,ti,su,B,.ref a,e,rfl,hB,⟨a,rfl,row⟩,d5.1,no,rm,fun H6 B6 y hB6 hput bt hy gr grT=>?_⟩;obtain ⟨li6,sb6⟩:=li5.put' hput d5 no;obtain ⟨sc6,g6'⟩:=_p5 bt hy grT sc fun c m=>Js.mpr (g1 c m);have g6:=fun c m=>Js.mp (g6' c m);have hk6:B6.kept.map (·.1)=((ks.take (i+1)).map (·.1)).map Ent.told:=by rw [sb6,tk,Qh,hk];rfl
  have row6:=((sD _).trans sc6).sqt (hR2 _ (Qt hp));have same:YY [e]=[]->YY ((ks.take (i+1)).map (·.1))=YY ((ks.take i).map (·.1)):=fun z=>by rw [tk,_gi,z,QC]
  cases e with
  |born n s d f m =>
   have hD6:=sc6 _ _ _f
   have nn:n∉(YY ((ks.take i).map (·.1))).map (·.1):=by
    have nd:=li6.names.1;rw [_eX hk6,tk,Rv] at nd;rw [_ah];exact fun m=>(QV.mp nd).2.2 n m n (by simp [Ent.bornName]) rfl
   refine ⟨_,rfl,a,_,_,_,rfl,rfl,row6,_l (j:=0) rfl,rfl,_,rfl,_Z (by trivial) ⟨_,rfl,a,_,_,_,rfl,rfl,row6,_l (j:=3) rfl,_,rfl,_,rfl,a,_,_,_,rfl,rfl,row6,_l (j:=1) rfl,Db,_,rfl,DPut.k (k:=.inr n) hD6 (small1000 ?_),?_⟩⟩
   ·rw [Jm,_ah];refine Qj (GF _ _) ?_;rw [Qc,QU];omega
   rw [_f1 nn,show YY ((ks.take i).map (·.1))++[(n,kV (.inl d))]=YY ((ks.take (i+1)).map (·.1)) by rw [tk,_gi];rfl];exact ⟨B6,_,rfl,hB6.offT hD6 fun m=>(g6 _ m).1 rfl,li6,hk6,_mE sc6,g6⟩
  |taken =>
   rw [←same rfl] at sc6;exact ⟨_,rfl,a,_,_,_,rfl,rfl,row6,_l (j:=0) rfl,rfl,_,rfl,_D (by trivial) ⟨B6,_,rfl,hB6,li6,hk6,sc6,g6⟩⟩
  |union =>
   rw [←same rfl] at sc6;exact ⟨_,rfl,a,_,_,_,rfl,rfl,row6,_l (j:=0) rfl,rfl,_,rfl,_D (by trivial) ⟨B6,_,rfl,hB6,li6,hk6,sc6,g6⟩⟩
  |parted =>
   rw [←same rfl] at sc6;exact ⟨_,rfl,a,_,_,_,rfl,rfl,row6,_l (j:=0) rfl,rfl,_,rfl,_D (by trivial) ⟨B6,_,rfl,hB6,li6,hk6,sc6,g6⟩⟩
 case done =>
 rintro σ Hb ⟨B,v,rfl,hB,li5,hk,sc,_⟩;rw [_ai,QN] at hk sc;have j:Jn ns B (ks.map (·.1)) ls (lk ed):=⟨li5,hk,gd,lnd,hla,hlk⟩;have bn:_T B.kept=(ks.map (·.1)).filterMap Ent.bornName:=_eX hk;have pnd:=li5.names.1;have pnl:(_T B.kept).length≤30:=by rw [bn];exact Qj (GF _ _) (by rw [Qc];exact k30)
 have hD:=sc _ _ _f;have s2b:=(sD _).trans sc;have hlb:=s2b.sql hl2;have hEb:=hE.mono s2b;clear hR2 hLe2 hl2 hE s4 f4 hB4 sc s2b;obtain ⟨es,ees⟩:∃z,z=ks.map (·.1):=⟨_,rfl⟩;rw [←ees] at j bn hD;dsimp only [_V];have ll:(ss.map V.int).length≤63:=by rw [Qc];exact l63
 refine ⟨_,rfl,l,_,rfl,.inl hlb,_,_,rfl,_,_,2,rfl,⟨by decide,by decide,?b1,?b2,by decide,by decide⟩,fun n hn _=>?_⟩
 case b1=>split<;>omega
 case b2=>split<;>omega
 have hn':∀k:Nat,k<n->4+2*k<ss.length∧4+2*k<52:=fun k hk=>by
  have:=hn k hk;rw [Qc] at this;split at this<;>omega
 have m24:n≤24:=by
  rcases Nat.eq_zero_or_pos n with z|z
  ·omega
  ·have:=hn' (n-1) (by omega);omega
 obtain ⟨cs,ecs⟩:∃z,z=(List.range n).map fun k=>ss.getD (4+2*k) 0:=⟨_,rfl⟩;have csl:cs.length=n:=by rw [ecs,Qc,RN]
 refine VE (cs.map V.int) (Wc (by rw [Qc];omega)) (fun σ=>∃w,σ=[w,some (.ref l)]) ⟨_,rfl⟩ (fun i H4 hi sm=>?go) (fun H4 sm=>?stop) (fun i σ H4 x H5 y hy hσ sm hx C hC=>?step) (fun Lc Hc nLc sc hLc=>?fin)
 case go =>
  rw [Qc,csl] at hi;exact hi
 case stop =>
  rw [Qc,csl];exact Qe _
 case step =>
  obtain ⟨w,rfl⟩:=hσ;obtain ⟨rfl,rfl⟩:=hx;obtain ⟨u,rfl,hu⟩:=_fj hy;have il:i<n:=by rw [←csl];exact (QB.mp hu).1
  rw [ecs,Qi,GO il] at hu;have eu:ss.getD (4+2*i) 0=u:=Ql hu
  have ha:_6 (ss.map V.int) (4+(i:Int)*((2:Nat):Int))=some (.int u):=by
   rw [show (4:Int)+(i:Int)*((2:Nat):Int)=((4+2*i:Nat):Int) by omega,←eu];exact YB (_gW (hn' i il).1)
  exact ⟨_,rfl,_,rfl,l,_,_,_,rfl,rfl,sm.sql hlb,ha,hC _ _ ⟨_,rfl⟩ (Same.refl _)⟩
 case fin =>
 dsimp only [_V];refine ⟨_,rfl,rfl,l,ss,2,rfl,sc.sql hlb,by decide,fun c0=>?_⟩;refine ⟨few rfl,fun L0 nL0=>⟨_,rfl,L0,Lc,_,_,rfl,rfl,_f,(_j nL0) _ _ hLc,QS (Wc (by rw [Qc];show 1+cs.length≤60;omega)),fun La nLa=>?_⟩⟩;have sa:=sc.trans ((_j (o:=.lst [.int c0]) nL0).trans (_j (o:=.lst ([.int c0]++cs.map V.int)) nLa));have hLa:_b (_b Hc L0 (.lst [.int c0])) La (.lst ([.int c0]++cs.map V.int)) La=some (.lst ((c0::cs).map V.int)):=_f;generalize _b (_b Hc L0 (.lst [.int c0])) La (.lst ([.int c0]++cs.map V.int))=Ha at sa hLa ⊢;refine ⟨_,rfl,rfl,l,ss,1,rfl,sa.sql hlb,by decide,fun c1=>⟨rfl,c1,rfl,fun Hw Lw ws sw hLw wo=>⟨rfl,La,c0::cs,Lw,ws,rfl,.of (sw _ _ hLa),by simp,by rw [QH];omega,hLw,wo,fun Hr a rs own gl=>?_⟩⟩⟩;have sr0:=sa.trans (sw.trans own.2.2);have rat:=own.rat;have good:=gl.good wo;have rlen:(rs.map Lr.row).length≤12:=by rw [Qc];exact gl.hi
 clear hLa hLw sw own wo gl hLc nLc ecs hn hn' csl sa;obtain ⟨rows,erw⟩:∃z,z=rs.map Lr.row:=⟨_,rfl⟩;rw [←erw] at good rlen;have tr:=TongM.txt_read good;dsimp only [_V];refine ⟨_,rfl,rfl,a,rs,rfl,rat,by rw [←erw];exact good,fun Hl sl o odx no nodx ne=>?_⟩;rw [←erw];refine ⟨rfl,o,odx,_,rows,rfl,Qj tr.2 (by decide),_f,tr.1,fun i r hr=>⟨nmT (good.nm r (Qt hr)),fun b hb=>((good.br i r hr).2.2 b hb).ok⟩,fun Hn d bt nd tg=>⟨rfl,?_⟩⟩;have sn:Same Hl Hn:=fun c u e=>bt c u (_R e no) (by rw [_g (_R e no),_g (_R e nodx)];exact e);have ndl:Hl d=none:=(Js.mp (Js.mp nd).2).2;have sbl:Same Hb Hl:=sr0.trans sl;obtain ⟨o',odx',z0,eo,ho,hdd⟩:=id tg;cases eo;have clo:=j.clo (Qj (GU n24) (by decide));refine ⟨o,_,_,rfl,ho,rfl,_,rfl,rfl,.ref o,.ref b,d,rows,ns,B,Hl,rfl,tg,good.nd,rlen,fun i r hr b hb=>((good.br i r hr).2.2 b hb).ok,sn,ndl,⟨_,_,_,_,_,_,_,rfl,hB.mono sbl⟩,clo,pnd,pnl,fun Ht t tab A st ht et ok tok sr=>?_⟩;have sbt:Same Hb Ht:=sbl.trans (sn.trans st);have rat':=(rat.same sl).same (sn.trans st);have hDt:=sbt _ _ hD;have hEt:=hEb.mono sbt;clear st sn sbl bt nd tg sl sr0 rat hdd ho ndl no nodx ne;dsimp only [_V];have tz:(tab.map fun q=>(q.1,V.ref q.2.1)).map (·.1)=rows.map (·.1):=by rw [QJ];exact et
 have tl:tab.length≤12:=by
  have:=Qk List.length et;rw [Qc,Qc] at this;rw [this];exact rlen
 have rwl:(rows.map (·.1))=rs.map (·.w):=by rw [erw];exact JT rs
 refine ⟨_,rfl,_,.ty "dict",_,_,rfl,rfl,.of (.dK ht),T.kl_dict,_,rfl,_O ⟨_,rfl,t,tab.map (fun q=>(q.1,V.ref q.2.1)),rfl,by rw [ht];unfold YM;rw [QJ];rfl,by rw [Qc];exact Qj tl (by decide),fun Lq nq=>?_⟩⟩;rw [tz];have sq:=_j (o:=.lst ((rows.map (·.1)).map V.str)) nq;have hLq:_b Ht Lq (.lst ((rows.map (·.1)).map V.str)) Lq=some (.lst ((rows.map (·.1)).map V.str)):=_f;generalize _b Ht Lq (.lst ((rows.map (·.1)).map V.str))=Hq at sq hLq ⊢;have ratq:=rat'.same sq;refine ⟨_,rfl,a,rfl,⟨_,.of ratq.lst⟩,VE ((rs.map (·.w)).map V.str) (Wc (by rw [←rwl,Qc,Qc];exact Qj rlen (by decide))) (fun σ=>∃w1 w2,σ=[w1,w2]) ⟨_,_,rfl⟩ (fun i H4 hi sm=>?go) (fun H4 sm=>?stop) (fun i σ H4 x H5 y hy hσ sm hx C hC=>?step) (fun L5 H5 n5 s5 h5=>?fin)⟩
 case go=>exact ⟨_,_,.of (sm _ _ ratq.lst),Qu (by rw [Qc];rw [Qc,Qc] at hi;exact hi)⟩
 case stop=>exact ⟨_,.of (sm _ _ ratq.lst),by rw [Qc,Qc,Qc];exact Qe _⟩
 case step =>
  obtain ⟨w1,w2,rfl⟩:=hσ;obtain ⟨rfl,hx2⟩:=hx;have hx3:=hx2 _ (.of (sm _ _ ratq.lst));rw [Qi] at hx3;obtain ⟨x,hxi,rfl⟩:=QE.mp hx3;rw [Qi,Qi,hxi] at hy;obtain rfl:=Ql hy;exact ⟨x.t,_,rfl,.of (sm _ _ (ratq.tup (Qt hxi))),rfl,_,_,rfl,_,_,rfl,rfl,_,rfl,hC _ _ ⟨_,_,rfl⟩ (Same.refl _)⟩
 case fin =>
 refine ⟨Lq,L5,rs.map (·.w),rfl,rfl,.of (by rw [←rwl];exact s5 _ _ hLq),.of h5,_,rfl,_O ?_⟩;have sq5:=sq.trans s5;clear s5 h5 n5 hLq nq ratq sq tz
 have bo:∀x,Known B x->_y (Yo (YY es)) (.inr x)=some (.int (_X B x)):=fun x hx=>by
  obtain ⟨s,f,m,hb⟩:=j.day hx;exact _km (by rw [←bn];exact pnd) hb
 have kn0:(YY es).map (·.1)=_T B.kept:=by rw [bn,_ah]
 have ratq:=rat'.same sq5;dsimp only [_V];refine ⟨_,rfl,a,rfl,⟨_,.of ratq.lst⟩,YL (xs:=rs.map fun x=>V.ref x.t) (fun i σ Hx=>Same H5 Hx∧∃v9 v10,σ=[some (.ref l),some (.ref Le),some (.ref De),some (.ref Db),some (.ref b),v,some (.ref Lc),some (.ref a),some (.ref t),v9,v10]) ⟨.refl _,_,_,rfl⟩ ?li ?tu ?dn⟩
 case li =>
  rintro i σ Hx _ ⟨sx,_⟩;exact .of (sx _ _ ratq.lst)
 case dn =>
  rintro σ Hx ⟨_,v9,v10,rfl⟩;exact q _
 case tu =>
 rintro i x σ Hx hx ⟨sx,v9,v10,rfl⟩;rw [Qi] at hx;obtain ⟨y,hy,rfl⟩:=QE.mp hx;have hym:=Qt hy;have sx5:=sq5.trans sx;have ratx:=ratq.same sx;have hrow:rows[i]?=some (y.w,y.bs.map (·.b)):=by rw [erw,Qi,hy];rfl
 have brs:=(good.br i _ hrow).2.2
 obtain ⟨qq,hqq,eqw⟩:∃q∈tab,q.1=y.w:=by
  have:y.w∈tab.map (·.1):=by rw [et];exact Qf.mpr ⟨_,Qt hrow,rfl⟩
  exact Qf.mp this
 obtain ⟨g1,g2,g3⟩:=ok qq hqq;refine ⟨y.t,_,rfl,.of (ratx.tup hym),rfl,_,_,rfl,_,_,rfl,rfl,?_⟩;refine ⟨_,rfl,_,rfl,_,rfl,_,rfl,_,rfl,rfl,De,t,y.l,Db,qq.2.1,y.w,y.bs,rows.map (·.1),ns,ed,B,A,_,qq.2.2,YY es,rfl,hEt.mono sx5,ratx.brs hym,fun z hz=>⟨ratx.br hym hz,ratx.pcs hym hz,fun s hs=>?pc⟩,tok.mono sx5,clo,fun s hs n kn x=>(j.step hs kn x).symm,sx5 _ _ ht,eqw▸_cb (by rw [et];exact good.nd) hqq,sx5 _ _ g1,g2,fun r hr=>⟨sx5 _ _ (g3 r hr).1,?sr⟩,pnd,pnl,sx5 _ _ hDt,kn0,bo,_qd es,fun H' s'=>⟨_,rfl,_O ⟨sx.trans s',_,_,rfl⟩⟩⟩
 case pc =>
  have gb:=brs z.b (Qf.mpr ⟨z,hz,rfl⟩);refine ⟨(gb.ok s hs).imp id fun ⟨w,hw,e⟩=>⟨w,?_,e⟩,Qj (TongM.good_mem (TongM.good_ws good i) gb s (QL _ hs)).2 (by decide)⟩;rw [Gr] at hw;exact Q0 hw
 case sr =>
  rw [(g3 r hr).2,eqw];refine sr i y.w _ hrow r.1 (_bM ((Y4 _).mem_iff.mp ?_));rw [←g2];exact Qf.mpr ⟨r,hr,rfl⟩
end
theorem _lL {w:World} {mg:Str->Option Value} (T:Tx K w mg) {vs:List V} {E:XK} (h:Jc K vs H Q E):_go T vs H Q E:=by
 obtain ⟨a,ns,rfl,r⟩:=h;exact ⟨rfl,a,ns,rfl,r⟩
theorem all_mk {l:W.OpenLaw} {w:World} {mg:Str->Option Value} {fa:Addr} (hfa:mg "law"=some (.ref fa)) (T:Tx K w mg) :
  ∃fd:FuncData,(∀(s:Shared) (v:Value),BindsTo s fd ⟨[v],[]⟩ [("_law_script",v)])∧∀base:Heap,K.In base->base.Ns mainGlobals mg->FnOk l.prog w K mg base (Xd l.prog w) 10 fa fd ["_law_script"] (Jc K):=by
 cases hfa.symm.trans T.UC.m;refine ⟨(Y5 K T.UC.a),fun s v=>?_,fun base _ _=>(_lU T).imp fun vs H Q E z=>_lL T z⟩;obtain ⟨oc,od,kV,doc,pm,an,cdv,ct,osl,e,_⟩:=T.UC.F.ex;rw [e];exact .of_eq rfl
theorem walk {l:W.OpenLaw} {q:Program} {loose:List Str} {XP:(Str->Option Value)->Heap->Prop} {YP:World->Heap->Prop} {d:DefRec} {K:Params->W.Frag} (hn:l.most=some 63) (hdf:d.params.defaults=[])
 (hY:∀(w:World) (h:Heap),YP w h->(K w.params).In h)
 (F:∀(w:World) (mg:Str->Option Value) (fa:Addr) (h:Heap),(K w.params).In h->h.Ns mainGlobals mg->mg d.name=some (.ref fa) →
 ∃fd:FuncData,(∀(s:Shared) (u:Value),BindsTo s fd ⟨[u],[]⟩ [("_law_script",u)])∧∀base:Heap,(K w.params).In base->base.Ns mainGlobals mg->FnOk l.prog w (K w.params) mg base (Xd l.prog w) 10 fa fd ["_law_script"] (Jc (K w.params))) :
  W.WalkO q loose XP YP l.row.toRowW d [] (fun f vs=>PySem.call f vs) :=
 L2.walk_of (n:=63) (k:=10) (x:="_law_script") (CX:=fun w=>Xd l.prog w) (sp:=fun w=>Jc (K w.params)) hn (by decide) hdf ⟨rfl,by decide,by decide⟩ hY F (fun _ _ a ns hl _ hS=>⟨a,ns,rfl,hS,hl,fun _=>rfl⟩) fun _ _ _ _ _ ⟨_,_,_,_,_,z⟩=>z
end K35
open PySem PySem.W PyProof.Rows
set_option maxRecDepth 100000 in
set_option maxHeartbeats 0 in
theorem PySem.Challenge.cw_heirbook_k35_whole_table_row_by_row_holds : PySem.Challenge.rw_heirbook_k35_whole_table_row_by_row.Holds := by
 refine K35.hd ?_
 k_fill
 refine K35.walk (l:=PySem.Challenge.rw_heirbook_k35_whole_table_row_by_row) rfl rfl (fun w h Y=>PySem.W.kIn_of Y) ?F
 case F =>
  intro w mg fa h KX G hmg;refine K35.all_mk hmg ?_;constructor
  all_goals try exact PySem.W.mg_of KX G (by k_is)
  all_goals try exact PySem.W.mg_none_of KX G (by k_is)
  all_goals try exact .of KX G (by k_is) ⟨⟨_,_,_,_,_,_,_,_,_,by k_is,by k_is⟩,by k_is⟩ fun _ _ _ _ _ _=>by first|exact L2.un1 fun _=>rfl|exact L2.un2 fun _ _=>rfl|exact L2.un3 fun _ _ _=>rfl|exact L2.un4 fun _ _ _ _=>rfl|exact L2.un5 fun _ _ _ _ _=>rfl
  all_goals try exact .of (by k_is) (by k_is) ⟨⟨_,_,_,_,_,_,_,_,_,by k_is,by k_is⟩,by k_is⟩ fun _ _ _ _ _ _=>by first|exact L2.un1 fun _=>rfl|exact L2.un2 fun _ _=>rfl|exact L2.un3 fun _ _ _=>rfl|exact L2.un4 fun _ _ _ _=>rfl|exact L2.un5 fun _ _ _ _ _=>rfl
  all_goals try first|k_is|kit_is|(unfold L2.NoAttr;k_is)
  all_goals try exact ⟨by k_is,by k_is,by k_is⟩
  all_goals try (try dsimp only [L2.Dm.of]);exact ⟨by k_is,by k_is,by k_is,by k_is⟩
  all_goals try exact L2.funD_mk (by k_is) (by k_is) (by k_is)
  all_goals try exact L2.binds1_of (by k_is) (by rfl) rfl (by exact L2.un3 fun _ _ _=>⟨_,rfl,rfl⟩)
  all_goals try exact fun _=>.inr ⟨_,_,_,by k_is,rfl,rfl,L2.small1000 (Ra rfl),by repeat first|exact .nil|refine .cons rfl ?_|refine .cons ⟨_,rfl⟩ ?_⟩
