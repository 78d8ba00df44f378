import PyProof.Rows.All
import Wide.All
import OpenK.AllK
import Wide.FinOn
import Lean
import PyProof.EqAt
import PyProof.EqKinds
import PyProof.TupleCall
import PyProof.NeKinds
import PyProof.ZipIter
import PyProof.Draws
import PyProof.ConsumeWalk
import PyProof.StrCaseBound
import PyProof.StrLawsIn
import PyProof.StrLawsJoin
import PyProof.Rows.StrSplitAre
import PyProof.WalkInts
import PyProof.EnumMake
import KE.KRevSl
import PyProof.Rows.SumAny
import PyProof.Rows.SortRuns
import PyProof.Rows.SortKey
import KE.KSortTup
import KE.KDictList
import PyProof.DictValues
import PyProof.StrLawsFirst
import PyProof.AutoListH
import PyProof.AttrMissSeq
import KE.KIntText
import PyProof.Rows.CountFlat
import KE.KLam
import KE.KSortKey
import KE.KPairComp
import PySem.Challenge.RW_heirbook_k15_whole_walks
abbrev Qa:=@if_neg
abbrev Qb:=@PySem.wpAny_bind
abbrev Qc:=@if_pos
abbrev Qd:=@List.length_map
abbrev Qe:=@PySem.wpAny_pure
abbrev Qf:=@Nat.le_refl
abbrev Qg:=@PySem.Heap.lt_size
abbrev Qh:=@List.mem_cons
abbrev Qi:=@PySem.Heap.get?_push_of_some
abbrev Qj:=@decide_eq_false
abbrev Qk:=@List.mem_map
abbrev Ql:=@PySem.Heap.get?_push_size
abbrev Qm:=@decide_eq_true
abbrev Qn:=@Option.some.inj
abbrev Qo:=@Nat.le_trans
abbrev Qp:=@List.map_cons
abbrev Qq:=@List.mem_append
abbrev Qr:=@List.map_append
abbrev Qs:=@List.append_nil
abbrev Qt:=@Nat.ne_of_lt
abbrev Qu:=@List.length_append
abbrev Qv:=@List.size_toArray
abbrev Qw:=@List.getElem?_map
abbrev Qx:=@List.getElem?_eq_getElem
abbrev Qy:=@congrArg
abbrev Qz:=@Nat.lt_of_lt_of_le
abbrev QA:=@Bool.false_ne_true
abbrev QB:=@of_decide_eq_true
abbrev QC:=@List.mem_cons_self
abbrev QD:=@List.mem_of_getElem?
abbrev QE:=@PySem.wpAny_field
abbrev QF:=@List.mem_cons_of_mem
abbrev QG:=@Nat.le_of_ble_eq_true
abbrev QH:=@PySem.PassesOwn.leaving
abbrev QI:=@List.getElem?_eq_some_iff
abbrev QJ:=@Nat.zero_le
abbrev QK:=@List.length_cons
abbrev QL:=@PySem.wpAny_of_eq
abbrev QM:=@PySem.wpAny_newObj_type
abbrev QN:=@List.not_mem_nil
abbrev QO:=@or_false
abbrev QP:=@Int.fmod_nonneg_of_pos
abbrev QQ:=@PySem.wpAny_call_entry
abbrev QR:=@Option.map_eq_some_iff
abbrev QS:=@Nat.lt_irrefl
abbrev QT:=@List.filterMap_cons
abbrev QU:=@List.nodup_cons
abbrev QV:=@if_false
abbrev QW:=@Nat.le_succ
abbrev QX:=@List.map_map
abbrev QY:=@Nat.le_of_lt
abbrev QZ:=@Ne.symm
abbrev Q0:=@PySem.W.kia_one
abbrev Q1:=@PySem.wpAny_mono
abbrev Q2:=@Int.fmod_lt_of_pos
abbrev Q3:=@PySem.W.mg_of
abbrev Q4:=@PySem.W.mg_none_of
abbrev Q5:=@List.mem_filter
abbrev Q6:=@if_true
abbrev Q7:=@PySem.wpAny_callSpecial?_slot
abbrev Q8:=@PySem.wpAny_setField_rec
abbrev Q9:=@PySem.wpAny_Call_Name_kw
abbrev Ra:=@List.take_length
abbrev Rb:=@List.nodup_append
abbrev Rc:=@PySem.Heap.size_push
abbrev Re:=@List.mem_singleton
abbrev Rg:=@of_decide_eq_false
abbrev Rh:=@List.take_succ
abbrev Ri:=@PySem.F.plainAttrs_list
abbrev Rj:=@Nat.ne_of_gt
abbrev Rk:=@List.mem_append_right
abbrev Rl:=@List.length_take
abbrev Rm:=@List.any_cons
abbrev Rn:=@PySem.wpAny_attempt
abbrev Ro:=@PySem.F.slot_list_append
abbrev Rp:=@PySem.F.type_list_append
abbrev Rq:=@List.mem_append_left
abbrev Rr:=@PySem.wpAny_rule
abbrev Rs:=@List.mem_filterMap
abbrev Rt:=@Bool.eq_iff_iff
abbrev Ru:=@Bool.eq_false_iff
abbrev Rv:=@List.all_eq_true
abbrev Rw:=@Sum.inr.inj
abbrev Rx:=@PySem.Calls.spliced_cons
abbrev Ry:=@List.getElem?_append_right
abbrev Rz:=@PySem.wpAny_holding
abbrev RA:=@Bool.and_eq_true
abbrev RB:=@List.find?_cons
abbrev RC:=@PySem.Heap.SameBut.update
abbrev RD:=@List.filterMap_append
abbrev RE:=@PySem.typeLookup_type
abbrev RF:=@PySem.builtinLookup_eq_fast
abbrev RG:=@PySem.isSubtype_type
abbrev RH:=@List.length_reverse
abbrev RI:=@List.foldl_cons
abbrev RJ:=@List.mem_map_of_mem
abbrev RK:=@beq_eq_false_iff_ne
abbrev RL:=@Array.length_toList
abbrev RM:=@PyProof.Rows.callWith_type1
abbrev RN:=@beq_iff_eq
abbrev RO:=@Nat.lt_succ_self
abbrev RP:=@PySem.wpAny_call
abbrev RQ:=@PySem.codeAny_mono
abbrev RS:=@List.getElem?_append_left
abbrev RT:=@Int.toNat_natCast
abbrev RU:=@PySem.wpAny_seqItems
abbrev RV:=@PySem.wpAny_isInstance
abbrev RW:=@PySem.wpAny_dictEntries
abbrev RX:=@List.filter_cons
abbrev RY:=@false_and
abbrev RZ:=@true_and
abbrev R0:=@ite_self
abbrev R1:=@Prod.ext
abbrev R3:=@PySem.wpAny_truthy_bool
abbrev R4:=@PySem.mem_of_lookup
abbrev R5:=@PySem.wpAny_specialOf
abbrev R6:=@List.getElem?_cons_succ
abbrev R7:=@Nat.sub_self
abbrev R8:=@List.map_congr_left
abbrev R9:=@List.mem_of_mem_take
abbrev Ga:=@PySem.wpAny_Name
abbrev Gb:=@PySem.sizeLine_eq
abbrev Gc:=@PySem.typeIs_str
abbrev Gd:=@PySem.tupleKind_room_in1
abbrev Ge:=@Nat.lt_of_le_of_lt
abbrev Gf:=@PySem.codeAny_builtin
abbrev Gg:=@Nat.le_add_right
abbrev Gh:=@Bool.or_eq_true
abbrev Gi:=@List.getElem_of_mem
abbrev Gj:=@PySem.wpAny_dictEpoch
abbrev Gk:=@List.length_range
abbrev Gm:=@List.getElem_map
abbrev Gn:=@Int.zero_add
abbrev Go:=@PySem.wpAny_pyIter_tuple
abbrev Gp:=@PySem.wpAny_passesOwn
abbrev Gq:=@PySem.Calls.spliced_nil
abbrev Gr:=@List.take_sublist
abbrev Gs:=@PySem.Calls.evalArgs_plain
abbrev Gu:=@PySem.call_meetsIn
abbrev Gv:=@PySem.W.callWith_K
abbrev Gw:=@PySem.wpAny_loadPart_at
abbrev Gx:=@PySem.Code.quiet_builtin
abbrev Gy:=@PySem.wpAny_setField
abbrev Gz:=@PySem.wpAny_handled
abbrev GA:=@PySem.wpAny_throw
abbrev GB:=@PySem.wpAny_letGo
abbrev GC:=@PySem.isSubtype_stop
abbrev GD:=@Nat.lt_succ_of_lt
abbrev GE:=@Array.getElem?_eq_none
abbrev GF:=@PySem.wpAny_ite_false
abbrev GG:=@Array.getElem?_toList
abbrev GH:=@List.getElem_mem
abbrev GI:=@PySem.F.slot_dict_keyiterator_next
abbrev GJ:=@PySem.F.slot_dict_itemiterator_next
abbrev GK:=@List.any_eq_true
abbrev GL:=@Bool.true_and
abbrev GM:=@PySem.Paired.length
abbrev GN:=@List.getElem_inj
abbrev GO:=@PySem.Calls.Name_function_global
abbrev GP:=@PySem.wpAny_execs_nil
abbrev GQ:=@Bool.false_and
abbrev GR:=@PySem.W.looks_findIn
abbrev GS:=@PySem.W.kitx_list
abbrev GT:=@Option.isSome_iff_exists
abbrev GU:=@List.all_cons
abbrev GV:=@PySem.Calls.callWith_builtin
abbrev GW:=@List.length_nil
abbrev GX:=@List.map_nil
abbrev GY:=@PySem.F.slot_tuple_iterator_next
abbrev GZ:=@PySem.Heap.get?_update_self
abbrev G6:=@PySem.Obj.data_mapFields
abbrev G7:=@PySem.F.slot_zip_next
abbrev G8:=@List.all_map
abbrev G9:=@List.lookup_cons
abbrev Na:=@List.length_filterMap_le
abbrev Nb:=@PySem.wpAny_pyIter_slot
abbrev Nc:=@List.getElem?_reverse
abbrev Nd:=@PySem.wpAny_newList
abbrev Nf:=@PySem.atKey_none_of_get
abbrev Ng:=@Int.le_refl
abbrev Nh:=@PySem.wpAny_fieldsOf
abbrev Ni:=@decide_eq_true_eq
abbrev Nj:=@List.find?_eq_none
abbrev Nk:=@Int.mul_fdiv_add_fmod
abbrev Nl:=@List.foldl_append
abbrev No:=@List.cons.inj
abbrev Np:=@Option.map_some
abbrev Nq:=@List.mem_range
abbrev Nr:=@List.getElem?_set_self
abbrev Nt:=@List.getElem?_set_ne
abbrev Nu:=@PySem.wpAny_loadName_local
abbrev Nv:=@PySem.Calls.loadGlobal_global
abbrev Nw:=@List.any_eq_false
abbrev Ny:=@List.of_mem_zip
abbrev Nz:=@PyProof.Rows.slot_tuple_getitem
abbrev NA:=@Option.isSome_map
abbrev NB:=@PySem.F.slot_dict_get
abbrev NC:=@PySem.F.plainAttrs_dict
abbrev ND:=@Bool.not_eq_true'
abbrev NE:=@PySem.F.typeOf_object_class
abbrev NF:=@PySem.codeAny_call_builtin
abbrev NG:=@List.forIn_cons
abbrev NH:=@PySem.entryFor_of_tree
abbrev NI:=@PySem.F.slot_str_lower
abbrev NJ:=@PySem.F.slot_list_reversed
abbrev NK:=@List.getElem?_eq_none
abbrev NL:=@PySem.Calls.call_function_entry
abbrev NM:=@PySem.wpAny_notOrdered_dict
abbrev NN:=@List.getElem?_cons_zero
abbrev NO:=@PySem.wpAny_isOneOf_itemiter
abbrev NP:=@List.dropLast_concat_getLast
abbrev NQ:=@List.lt_asymm
abbrev NR:=@List.rel_of_pairwise_cons
abbrev NS:=@List.length_filter_le
abbrev NT:=@List.flatMap_cons
abbrev NU:=@List.getElem?_range
abbrev NV:=@Nat.succ_le_succ
abbrev NW:=@Nat.le_succ_of_le
abbrev NX:=@PySem.F.plainAttrs_str
abbrev NY:=@PySem.F.entry_tuple_add
abbrev NZ:=@PySem.F.args_tuple_add_2
abbrev N0:=@PySem.F.args_dict_get_3
abbrev N1:=@Option.bind_eq_some_iff
abbrev N2:=@PySem.F.slot_dict_setdefault
abbrev N3:=@PySem.F.entry_dict_keyiterator_next
abbrev N4:=@PySem.F.args_dict_keyiterator_next_1
abbrev N5:=@Array.getElem?_eq_getElem
abbrev N6:=@PySem.F.entry_dict_itemiterator_next
abbrev N7:=@PySem.F.args_dict_itemiterator_next_1
abbrev N8:=@Option.isSome_iff_ne_none
abbrev N9:=@Int.mul_le_mul_of_nonneg_left
set_option Elab.async false
set_option linter.all false
namespace LR
open PySem PySem.W PyProof.Rows
noncomputable abbrev Zbz:=@Fast.tw14082659384304107361
noncomputable abbrev Jd:=Fast.tw14364793385576792824
noncomputable abbrev VG:=@Fast.tw4187177175401517315
noncomputable def allIn (p:Program) (P:Params) (s:Shared):Bool :=
 staticsOk (importedModules p.main.body) (boot_heap P) s.heap&&namesBound p s.heap&&gensDone s&&laidKept (boot_heap P) s.heap
noncomputable abbrev sA (q:Program) (loose mods:List Str) (Xt:Shared->Bool) (g0:Bool) (s:Shared) :=
 ((VG q loose mods Xt g0 s).1,(VG q loose mods Xt g0 s).2.1,(VG q loose mods Xt g0 s).2.2.1,(VG q loose mods Xt g0 s).2.2.2.1)
noncomputable abbrev sB (q:Program) (loose mods:List Str) (Xt:Shared->Bool) (g0:Bool) (s:Shared):=(VG q loose mods Xt g0 s).2.2.2.2
noncomputable abbrev gA (q:Program) (loose:List Str):=((openGood q loose).1,(openGood q loose).2.1,(openGood q loose).2.2.1,(openGood q loose).2.2.2.1)
noncomputable abbrev gB (q:Program) (loose:List Str):=(openGood q loose).2.2.2.2
noncomputable abbrev ran (p:Program) (m:Nat) (ann:Option Value) (N:Nat) (w:World) (os:OsState):Option Shared :=
 Zbz Jd p w m ann N ⟨boot_heap w.params,Array.mk [],boot_drawn,boot_toks,os⟩ (topStub p)
theorem left_run {p q:Program} {loose:List Str} {Xt:Shared->Bool} {α:Type} {Yf:Shared->α} {Ya:World->α} {N m:Nat} {g0:Bool} {ann:Option Value}
  (e:opening p=plainProg p.main.scope.names) (f:∀s,fenceModules? p s=some s) (hN:Nat.ble 600 N=true)
  (h1:∀w:World,(boot_heap w.params).isNs mainGlobals=true) (h2:∀w:World,(boot_heap w.params).objs.size=m) (h3:∀w:World,(boot_heap w.params).nsMap mainGlobals "__annotations__"=ann)
  (r1:∀(w:World) (os:OsState),(ran p m ann N w os).map (allIn p w.params)=some true)
  (r2:∀(w:World) (os:OsState),(ran p m ann N w os).map (sA q loose (importedModules p.main.body) Xt g0)=some (gA q loose))
  (r2':∀(w:World) (os:OsState),(ran p m ann N w os).map (sB q loose (importedModules p.main.body) Xt g0)=some (gB q loose))
  (r3:∀(w:World) (os:OsState),(ran p m ann N w os).map Yf=some (Ya w)):LeftO p q loose Xt Yf Ya N g0:=by
 intro w;cases hb:fencedOpening treeTable p w N with
 |none=>have z:=boot_open e hN f w;rw [hb] at z;cases z
 |some s0 =>
  have z:=boot_open e hN f w;rw [hb] at z;obtain ⟨h,gs,d,k,os⟩:=s0;injection z with z;injection z with z4 z;injection z with z5 z;injection z with z6 z7;dsimp only at z4 z5 z6 z7;subst z4 z5 z6 z7;have a:=r1 w os;have b:=r2 w os;have b':=r2' w os;have c:=r3 w os;unfold ran Zbz Jd at a b b' c;unfold sA gA VG at b;unfold sB gB VG at b';rw [←Fast.te14082659384304107361,←Fast.te14364793385576792824] at a b b' c;rw [←Fast.te4187177175401517315] at b b';cases hs:topRun treeTable p w m ann N ⟨boot_heap w.params,Array.mk [],boot_drawn,boot_toks,os⟩ (topStub p) with
  |none=>rw [hs] at a;cases a
  |some s =>
   rw [hs] at a b b' c;injection a with a;injection b with b;injection b' with b';injection b with x1 b;injection b with x2 b;injection b with x3 x4;injection c with c;have b:openSeen q loose (importedModules p.main.body) Xt g0 s=openGood q loose:=R1 x1 (R1 x2 (R1 x3 (R1 x4 b')))
   have t:topFrom treeTable p w N ⟨boot_heap w.params,Array.mk [],boot_drawn,boot_toks,os⟩=some s:=by
    unfold topFrom;simp only [h1 w,h2 w,h3 w,hs];unfold allIn at a;show (Option.bind (some s) fun x=>_)=_;rw [Option.bind_some,a]
   show Option.map _ (Option.bind (fencedOpening treeTable p w N) _)=_;rw [hb,Option.bind_some,t,Np,b,c]
noncomputable def ZdF (st:SharedT->Thread->Option (SharedT×Thread)) (ok:Thread->Bool):Nat->SharedT->Thread->Option SharedT:=fun n =>
 Nat.rec (motive:=fun _=>SharedT->Thread->Option SharedT) (fun _ _=>none) (fun _ ih s t=>match through t with
  |true=>some s
  |false=>match ok t with
   |false=>none
   |true=>match st s t with
    |some (s',t')=>ih s' t'
    |none=>none) n
theorem Zgl {tb:String->Option Builtin} {p:Program} {w:World} {n₀:Nat} {ann:Option Value}:∀(n:Nat) (s:SharedT) (t:Thread) (s':SharedT),ZdF (stepT (denote tb) p w) (stepOk n₀ ann) n s t=some s'->topRun tb p w n₀ ann n s.abs t=some s'.abs
 |0,_,_,_,h=>by cases h
 |n+1,s,t,s',h=>by
  have h2:(match through t with
   |true=>some s
   |false=>match stepOk n₀ ann t with
    |false=>none
    |true=>match stepT (denote tb) p w s t with
     |some (s',t')=>ZdF (stepT (denote tb) p w) (stepOk n₀ ann) n s' t'
     |none=>none)=some s':=h
  unfold topRun;cases ht:through t with
  |true=>rw [ht] at h2;cases h2;rfl
  |false =>
   rw [ht] at h2;cases hk:stepOk n₀ ann t with
   |false=>rw [hk] at h2;cases h2
   |true =>
    rw [hk] at h2;cases hs:stepT (denote tb) p w s t with
    |none=>rw [hs] at h2;cases h2
    |some r =>
     obtain ⟨s₂,t₂⟩:=r;rw [hs] at h2;rw [stepT_spec hs];exact Zgl n s₂ t₂ s' h2
noncomputable def ZiW (P:Params) (m:Nat):BT:=Nat.rec (motive:=fun _=>BT) .nil (fun i T=>T.ins i (((boot_heap P).objs[i]?).getD default)) m
noncomputable abbrev Zfs:=@Fast.tw10156331382660048174
noncomputable abbrev Zgf:=@Fast.tw11892475500146522536
noncomputable abbrev fOk:=@Fast.tw6613529449190102663
noncomputable abbrev s0T (P:Params) (m:Nat) (os:OsState):SharedT:=⟨ZiW P m,m,(boot_heap P).life,Array.mk [],boot_drawn,boot_toks,os⟩
noncomputable abbrev ranT (p:Program) (m:Nat) (ann:Option Value) (N:Nat) (w:World) (os:OsState):Option SharedT :=
 ZdF (Zfs (Zgf Jd) p w) (fOk m ann) N (s0T w.params m os) (topStub p)
theorem ZjX {p:Program} {m:Nat} {ann:Option Value} {N:Nat} {w:World} {os:OsState} (hb:(s0T w.params m os).abs=⟨boot_heap w.params,Array.mk [],boot_drawn,boot_toks,os⟩) {s:SharedT} (h:ranT p m ann N w os=some s):ran p m ann N w os=some s.abs:=by
 unfold ranT Zfs Zgf fOk Jd at h;rw [←Fast.te10156331382660048174,←Fast.te11892475500146522536,←Fast.te6613529449190102663,←Fast.te14364793385576792824] at h;have:=Zgl _ _ _ _ h;rw [hb] at this;unfold ran Zbz Jd;rw [←Fast.te14082659384304107361,←Fast.te14364793385576792824];exact this
theorem mapT {α:Type} {p:Program} {m:Nat} {ann:Option Value} {N:Nat} {w:World} {os:OsState} (hb:(s0T w.params m os).abs=⟨boot_heap w.params,Array.mk [],boot_drawn,boot_toks,os⟩) {f:Shared->α} {a:α} (h:(ranT p m ann N w os).map (fun s=>f s.abs)=some a):(ran p m ann N w os).map f=some a:=by
 cases e:ranT p m ann N w os with
 |none=>rw [e] at h;cases h
 |some s =>
  rw [e] at h;rw [ZjX hb e];exact h
end LR
namespace K15
open PySem PySem.W PyProof.Rows
abbrev rwOf:OpenLaw:=PySem.Challenge.rw_heirbook_k15_whole_walks
abbrev pwOf:Program:=PySem.Challenge.pw_heirbook_k15_whole_walks
noncomputable def vw:Program:=view pwOf [0,2,3,4,5,6,7,8,10,11,12,13,15,16,17,18,20,22,23,24,25,26,27,28,29,30,31,32,33,34,35,37,38,39,40,42,43,44,45,46,47,48,49,50,51,52,53,54,55,56,57]
noncomputable abbrev lo:List Str:=["FORMS"]
noncomputable abbrev xt (s:Shared):Bool:=xlAt vw [] s&&recOk (RowW.records (OpenRow.toRowW (OpenLaw.row rwOf))) s
noncomputable abbrev rn:=LR.ranT pwOf 11 (some (.ref 6)) 3647
set_option maxRecDepth 100000
set_option maxHeartbeats 0
theorem said:OpenLaw.wellSaid rwOf=true:=by kernel_rfl
theorem hb (w:World) (os:OsState):(LR.s0T w.params 11 os).abs=⟨boot_heap w.params,Array.mk [],boot_drawn,boot_toks,os⟩:=by kernel_rfl
theorem r1T (w:World) (os:OsState):(rn w os).map (fun s=>(LR.allIn pwOf w.params) s.abs)=some (true):=by kernel_rfl
theorem r1 (w:World) (os:OsState):(LR.ran pwOf 11 (some (.ref 6)) 3647 w os).map (LR.allIn pwOf w.params)=some (true):=LR.mapT (hb w os) (r1T w os)
theorem r2T (w:World) (os:OsState):(rn w os).map (fun s=>(LR.sA vw lo (importedModules pwOf.main.body) xt true) s.abs)=some (LR.gA vw lo):=by kernel_rfl
theorem r2 (w:World) (os:OsState):(LR.ran pwOf 11 (some (.ref 6)) 3647 w os).map (LR.sA vw lo (importedModules pwOf.main.body) xt true)=some (LR.gA vw lo):=LR.mapT (hb w os) (r2T w os)
theorem r3T (w:World) (os:OsState):(rn w os).map (fun s=>(LR.sB vw lo (importedModules pwOf.main.body) xt true) s.abs)=some (LR.gB vw lo):=by kernel_rfl
theorem r3 (w:World) (os:OsState):(LR.ran pwOf 11 (some (.ref 6)) 3647 w os).map (LR.sB vw lo (importedModules pwOf.main.body) xt true)=some (LR.gB vw lo):=LR.mapT (hb w os) (r3T w os)
end K15
local macro_rules
 | `(tactic| o_law)=>`(tactic| refine PySem.W.holds_law K15.said fun sd=>?_)
local macro_rules
 | `(tactic| o_head $H)=>do
  let hw:=Lean.mkIdent `hw
  let hc:=Lean.mkIdent `hc
  `(tactic| (
   refine PySem.W.holds_open (q:=K15.vw) (loose:=K15.lo) (N:=3647) (Xt:=K15.xt) (XP:=PySem.W.XL K15.vw []) (Yf:=PySem.W.Hook.obs $H)
    (Ya:=PySem.W.Hook.val $H) (YP:=PySem.W.Hook.says $H)
    (LR.left_run (p:=K15.pwOf) (m:=11) (ann:=(some (.ref 6))) ?e1 ?e2 (by decide) ?e3 ?e4 ?e5 K15.r1 K15.r2 K15.r3 ?e6)
    (PySem.W.Hook.of $H) (PySem.W.Hook.keeps $H) ?f1
    PySem.W.XL.keeps (by rfl) (by rfl) (by rfl) ?f2 ?g4 ?g5 ?g6 ?g7 ?$hw ?$hc
   case e1=>kernel_rfl
   case e2=>intro s;kernel_rfl
   case e3=>intro w;kernel_rfl
   case e4=>intro w;kernel_rfl
   case e5=>intro w;kernel_rfl
   case e6=>(intro w os;refine LR.mapT (K15.hb w os) ?_;kernel_rfl)
   case f1=>intro s e;exact PySem.W.xl_of s (Bool.and_eq_true_iff.mp e).1
   case f2=>intro s e;exact PySem.W.recFacts_of (Bool.and_eq_true_iff.mp e).2
   case g4=>rfl
   case g5=>assumption
   case g6=>decide +kernel
   case g7=>exact ⟨rfl,rfl,rfl,rfl,rfl,by decide +kernel⟩))
set_option maxRecDepth 100000 in
set_option maxHeartbeats 0 in
open_top K15.hd for PySem.Challenge.rw_heirbook_k15_whole_walks
set_option maxRecDepth 100000
namespace L2
open PySem PySem.Spec PyProof.Rows
abbrev Zi:=Sum Int Str
noncomputable def W5:Zi->Value->Bool
 |.inl k,v=>Value.isInt k v
 |.inr x,v=>Value.isStrOf x v
noncomputable def Zli (w:World):Zi->Int
 |.inl k=>hashInt k
 |.inr x=>hashStr w x
theorem X8:∀{k:Zi} {v:Value},W5 k v=true->(∃i t,k=Sum.inl i∧v=Value.int i t)∨(∃x t,k=Sum.inr x∧v=Value.str x t)
 |.inl i,v,h=>by
  obtain ⟨t,e⟩:=Value.isInt_shape (k:=i) (v:=v) h;exact .inl ⟨i,t,rfl,e⟩
 |.inr x,v,h=>by
  obtain ⟨t,e⟩:=Value.isStrOf_shape (x:=x) (v:=v) h;exact .inr ⟨x,t,rfl,e⟩
theorem Zk9 (i:Int) (t:Tok):W5 (.inl i) (.int i t)=true:=by simp [W5,Value.isInt]
theorem Zor (x:Str) (t:Tok):W5 (.inr x) (.str x t)=true:=by simp [W5,Value.isStrOf]
theorem Zky (a b:Int):decide ((Sum.inl a:Zi)=Sum.inl b)=(a==b):=by
 by_cases e:a=b
 ·subst e;simp
 ·have h:¬(Sum.inl a:Zi)=Sum.inl b:=fun q=>e (Sum.inl.inj q);rw [Qj h];exact (RK.mpr e).symm
theorem Zl0 (a b:Str):decide ((Sum.inr a:Zi)=Sum.inr b)=decide (a=b):=by
 by_cases e:a=b
 ·subst e;simp
 ·have h:¬(Sum.inr a:Zi)=Sum.inr b:=fun q=>e (Rw q);rw [Qj h,Qj e]
theorem ZjG (a:Int) (b:Str):decide ((Sum.inl a:Zi)=Sum.inr b)=false:=Qj (fun q=>nomatch q)
theorem ZnC (a:Str) (b:Int):decide ((Sum.inr a:Zi)=Sum.inl b)=false:=Qj (fun q=>nomatch q)
noncomputable def Yr (prog:Program) (w:World):PySem.KeyKind prog w Zi where
 is:=W5
 hash:=Zli w
 inj:=fun v a b ha hb=>by
  rcases X8 ha with ⟨i,t,rfl,rfl⟩|⟨x,t,rfl,rfl⟩
  ·rcases X8 hb with ⟨j,u,rfl,e⟩|⟨y,u,rfl,e⟩
   ·injection e with e1 _;rw [e1]
   ·exact nomatch e
  ·rcases X8 hb with ⟨j,u,rfl,e⟩|⟨y,u,rfl,e⟩
   ·exact nomatch e
   ·injection e with e1 _;rw [e1]
 byValue:=fun k v h=>by
  rcases X8 h with ⟨i,t,rfl,rfl⟩|⟨x,t,rfl,rfl⟩<;>rfl
 pyHash:=fun hv h=>by
  rcases X8 hv with ⟨i,t,rfl,rfl⟩|⟨x,t,rfl,rfl⟩
  ·exact wpAny_pyHash_int h
  ·exact wpAny_pyHash_str h
 eqBool:=fun hu hv h=>by
  rcases X8 hu with ⟨i,t,rfl,rfl⟩|⟨x,t,rfl,rfl⟩
  ·rcases X8 hv with ⟨j,u,rfl,rfl⟩|⟨y,u,rfl,rfl⟩
   ·rw [Zky] at h;exact wpAny_eqBool_int h
   ·rw [ZjG] at h;exact SeqAt.EqAt.int_str i t y u _ _ _ _ h
  ·rcases X8 hv with ⟨j,u,rfl,rfl⟩|⟨y,u,rfl,rfl⟩
   ·rw [ZnC] at h;exact SeqAt.EqAt.str_int x t j u _ _ _ _ h
   ·rw [Zl0] at h;exact wpAny_eqBool_str h
 «strs»:=fun k x t v h=>by
  rcases X8 h with ⟨i,u,rfl,e⟩|⟨y,u,rfl,e⟩
  ·exact nomatch e
  ·injection e with e1 _;subst e1;cases v<;>rfl
theorem Zj4 (prog:Program) (w:World) (i:Int) (t:Tok):(Yr prog w).is (.inl i) (.int i t)=true:=Zk9 i t
theorem Zjm (prog:Program) (w:World) (x:Str) (t:Tok):(Yr prog w).is (.inr x) (.str x t)=true:=Zor x t
inductive V where
 |non|bl (b:Bool)|int (i:Int)|str (x:Str)|byt (b:Array UInt8)|flt (b:UInt64)|ref (a:Addr)|ty (n:String)
 deriving DecidableEq
def RelV:V->Value->Prop
 |.non,u=>u=Value.none
 |.bl b,u=>u=Value.bool b
 |.int i,u=>∃t,u=Value.int i t
 |.str x,u=>∃t,u=Value.str x t
 |.byt b,u=>∃t,u=Value.bytes b t
 |.flt b,u=>∃t,u=Value.float b t
 |.ref a,u=>u=Value.ref a
 |.ty n,u=>u=Value.type n
abbrev Vals:List V->List Value->Prop:=Paired RelV
theorem Vals.length {xs:List V} {us:List Value} (r:Vals xs us):xs.length=us.length:=GM r
theorem Vals.get:∀{xs:List V} {us:List Value} {i:Nat} {x:V},Vals xs us->xs[i]?=some x->∃u,us[i]?=some u∧RelV x u
 |_,_,_,_,.nil,e=>by simp at e
 |_,_,0,_,.cons r _,e=>by simp at e;subst e;exact ⟨_,rfl,r⟩
 |_,_,i+1,x,.cons _ t,e=>by
  obtain ⟨u,h1,h2⟩:=Vals.get (i:=i) (x:=x) t (by simpa using e);exact ⟨u,by simpa using h1,h2⟩
theorem Vals.append:∀{xs ys:List V} {us ws:List Value},Vals xs us->Vals ys ws->Vals (xs++ys) (us++ws)
 |_,_,_,_,.nil,s=>s
 |_,_,_,_,.cons r t,s=>.cons r (Vals.append t s)
theorem Vals.take:∀{xs:List V} {us:List Value} (n:Nat),Vals xs us->Vals (xs.take n) (us.take n)
 |_,_,0,_=>.nil
 |_,_,_+1,.nil=>.nil
 |_,_,n+1,.cons r t=>.cons r (Vals.take n t)
theorem Vals.drop:∀{xs:List V} {us:List Value} (n:Nat),Vals xs us->Vals (xs.drop n) (us.drop n)
 |_,_,0,r=>r
 |_,_,_+1,.nil=>.nil
 |_,_,n+1,.cons _ t=>Vals.drop n t
def RelO:Option V->Option Value->Prop
 |some v,some u=>RelV v u
 |none,none=>True
 |_,_=>False
def KV {κ:Type}:List (κ×V)->List (κ×Value)->Prop:=Paired fun (p:κ×V) (q:κ×Value)=>p.1=q.1∧RelV p.2 q.2
noncomputable def kV:Zi->V
 |.inl i=>.int i
 |.inr x=>.str x
inductive HO where
 |lst (xs:List V)
 |tup (xs:List V)
 |dK (kvs:List (Zi×V))|dT (kvs:List (List Zi×V))
 |set (S:Int->Bool) (n:Nat)
 |ins (C dx:Addr) (fs:List (Str×V))
 |own (x:Addr)
 |xd (fs:List (Str×V))
 |met (f x:Addr)
 |rng (lo hi:Int)
 |frz (o:Obj) (u:HO)
 |tbl (ps:Array Value)
 |ext (φ:Heap->Prop)
abbrev Hp:=Addr->Option HO
noncomputable def Zb (H:Hp) (a:Addr) (o:HO):Hp:=fun b=>if b=a then some o else H b
theorem Zg {H:Hp} {a:Addr} {o:HO}:Zb H a o a=some o:=by unfold Zb;rw [Qc rfl]
theorem Zd {H:Hp} {a b:Addr} {o:HO} (h:b≠a):Zb H a o b=H b:=by unfold Zb;rw [Qa h]
theorem Zec {H:Hp} {a b:Addr} {o u:HO} (h:H a=some o) (h':H b=some u) (d:o≠u):a≠b:=by
 intro e;subst e;rw [h] at h';exact d (Qn h')
theorem ZO {H:Hp} {a b:Addr} {o:HO} (h:H a=some o) (h':H b=none):a≠b:=by
 intro e;subst e;rw [h] at h';cases h'
section
variable (P:Program) (w:World)
def ObjOk (H:Hp) (h:Heap) (a:Addr):HO->Prop
 |.lst xs=>xs.length≤sizeLine∧∃(its:List Value) (n:Nat),Vals xs its∧h.get? a=some { cls:=.type "list",data:=.seq its.toArray n }
 |.tup xs=>xs.length≤sizeLine∧∃its:List Value,Vals xs its∧IsTup h a its.toArray
 |.dK kvs=>kvs.length≤sizeLine∧(a==sysModules)=false∧∃vs,KV kvs vs∧h.DictOf (Yr P w) a vs
 |.dT kvs => kvs.length ≤ sizeLine ∧ (a==sysModules)=false ∧ ∃xs : List (List Zi×Addr×Value),
   Paired (fun (p:List Zi×V) (q:List Zi×Addr×Value)=>p.1=q.1∧H q.2.1=some (.tup (p.1.map kV))∧RelV p.2 q.2.2) kvs xs ∧
   ∃o es ep,h.get? a=some o∧o.ExactDict∧o.data=.dict es ep∧es.toList=xs.map (entryOfKey (tupleKind (Yr P w)))∧(xs.map (·.1)).Nodup
 |.set S n=>h.SetOf (intKind P w) a S n
 |.ins C dx fs => H dx=some (.own a) ∧ fs.length ≤ 1000 ∧ dx ≠ a ∧ h.get? a=some (W.instObj C dx) ∧
   ∃mA,h.Ns1 dx mA∧(∀f,RelO (fs.lookup f) (mA f))∧PySem.Within mA (fs.map (·.1))
 |.own _=>∃o,h.get? a=some o
 |.xd fs=>∃mA,h.Ns1 a mA∧∀f,RelO (fs.lookup f) (mA f)
 |.rng lo hi=>∃t u v,h.get? a=some { cls:=.type "range",data:=.fields #[.int lo t,.int hi u,.int 1 v] }
 |.frz o u=>h.get? a=some o∧ObjOk H h a u
 |.tbl ps=>h.get? a=some { cls:=.none,data:=.fields ps }
 |.met f x=>h.get? a=some (W.methodObj (.ref f) (.ref x))
 |.ext φ=>φ h∧(∃o,h.get? a=some o)∧∀h1 h2:Heap,φ h1->(∀o,h1.get? a=some o->h2.get? a=some o)->φ h2
def HOk (H:Hp) (h:Heap):Prop:=∀a o,H a=some o->ObjOk P w H h a o
end
section
variable {P:Program} {w:World} {H H':Hp} {h h':Heap} {a:Addr} {o:HO}
theorem ObjOk.lt (x:ObjOk P w H h a o):a<h.objs.size:=by
 cases o with
 |lst xs=>obtain ⟨_,_,_,_,e⟩:=x;exact Qg e
 |tup xs=>obtain ⟨_,_,_,p⟩:=x;exact p.lt
 |dK kvs=>obtain ⟨_,_,_,_,o,_,_,e,_⟩:=x;exact Qg e
 |dT kvs=>obtain ⟨_,_,_,_,o,_,_,e,_⟩:=x;exact Qg e
 |set S n=>obtain ⟨o,_,_,_,e,_⟩:=x;exact Qg e
 |ins C dx fs=>obtain ⟨_,_,_,e,_⟩:=x;exact Qg e
 |own y=>obtain ⟨_,e⟩:=x;exact Qg e
 |xd fs=>obtain ⟨_,⟨_,_,_,e,_⟩,_⟩:=x;exact Qg e
 |rng lo hi=>obtain ⟨_,_,_,e⟩:=x;exact Qg e
 |frz ob u=>obtain ⟨e,_⟩:=x;exact Qg e
 |tbl ps=>exact Qg (show h.get? a=some _ from x)
 |met f y=>exact Qg (show h.get? a=some _ from x)
 |ext φ=>obtain ⟨_,⟨_,e⟩,_⟩:=x;exact Qg e
theorem Paired.mapP {α β:Type} {F G:α->β->Prop}:∀{l₁:List α} {l₂:List β},Paired F l₁ l₂->(∀a b,F a b->G a b)->Paired G l₁ l₂
 |_,_,.nil,_=>.nil
 |_,_,.cons r t,f=>.cons (f _ _ r) (Paired.mapP t f)
theorem ObjOk.stay (x:ObjOk P w H h a o) (k:∀b u,(b=a∨H b=some (.own a))->h.get? b=some u->h'.get? b=some u)
  (ho:∀b,H b=some (.own a)->H' b=some (.own a)) (ht:∀b xs,H b=some (.tup xs)->H' b=some (.tup xs)):ObjOk P w H' h' a o:=by
 induction o with
 |lst xs=>obtain ⟨z,its,n,r,e⟩:=x;exact ⟨z,its,n,r,k _ _ (.inl rfl) e⟩
 |tup xs=>obtain ⟨z,its,r,ob,e,c⟩:=x;exact ⟨z,its,r,ob,k _ _ (.inl rfl) e,c⟩
 |dK kvs=>obtain ⟨z,y,vs,r,ob,es,ep,e,c⟩:=x;exact ⟨z,y,vs,r,ob,es,ep,k _ _ (.inl rfl) e,c⟩
 |dT kvs =>
  obtain ⟨z,y,xs,r,ob,es,ep,e,c⟩:=x;exact ⟨z,y,xs,Paired.mapP r fun p q z=>⟨z.1,ht _ _ z.2.1,z.2.2⟩,ob,es,ep,k _ _ (.inl rfl) e,c⟩
 |set S n=>obtain ⟨ob,es,ep,t,e,c⟩:=x;exact ⟨ob,es,ep,t,k _ _ (.inl rfl) e,c⟩
 |ins C dx fs =>
  obtain ⟨d,z,ne,e,mA,⟨od,es,ep,e2,c⟩,r⟩:=x;exact ⟨ho _ d,z,ne,k _ _ (.inl rfl) e,mA,⟨od,es,ep,k _ _ (.inr d) e2,c⟩,r⟩
 |own y=>obtain ⟨ob,e⟩:=x;exact ⟨ob,k _ _ (.inl rfl) e⟩
 |xd fs=>obtain ⟨mA,⟨od,es,ep,e,c⟩,r⟩:=x;exact ⟨mA,⟨od,es,ep,k _ _ (.inl rfl) e,c⟩,r⟩
 |rng lo hi=>obtain ⟨t,u,v,e⟩:=x;exact ⟨t,u,v,k _ _ (.inl rfl) e⟩
 |frz ob u ih=>obtain ⟨e,q⟩:=x;exact ⟨k _ _ (.inl rfl) e,ih q⟩
 |tbl ps =>
  have e:h.get? a=some { cls:=.none,data:=.fields ps }:=x;show h'.get? a=some { cls:=.none,data:=.fields ps };exact k a _ (.inl rfl) e
 |met f y =>
  have e:h.get? a=some (W.methodObj (.ref f) (.ref y)):=x;show h'.get? a=some (W.methodObj (.ref f) (.ref y));exact k a _ (.inl rfl) e
 |ext φ=>obtain ⟨p,⟨o,e⟩,st⟩:=x;exact ⟨st _ _ p fun o q=>k _ _ (.inl rfl) q,⟨o,k _ _ (.inl rfl) e⟩,st⟩
theorem HOk.lt (x:HOk P w H h) (e:H a=some o):a<h.objs.size:=(x a o e).lt
theorem HOk.fresh (x:HOk P w H h) (e:h.objs.size≤a):H a=none:=by
 cases q:H a with
 |none=>rfl
 |some u=>exact absurd (Qz (x.lt q) e) (QS _)
theorem HOk.kept (x:HOk P w H h) (k:∀b u,h.get? b=some u->h'.get? b=some u):HOk P w H h':=fun a o e =>
 (x a o e).stay (fun b u _ q=>k b u q) (fun _ q=>q) fun _ _ q=>q
theorem HOk.laid (x:HOk P w H h) (k:∀b u,h.get? b=some u->h'.get? b=some u) (hp:h.objs.size≤a) (new:ObjOk P w (Zb H a o) h' a o):HOk P w (Zb H a o) h':=fun b u e=>by
 have hn:=x.fresh hp;by_cases hb:b=a
 ·subst hb;rw [Zg] at e;cases e;exact new
 ·rw [Zd hb] at e;exact (x b u e).stay (fun c v _ q=>k c v q) (fun c q=>by rw [Zd (ZO q hn)];exact q) fun c xs q=>by rw [Zd (ZO q hn)];exact q
end
def Rd (H:Hp) (a:Addr) (u:HO):Prop:=H a=some u∨∃o,H a=some (.frz o u)
theorem Rd.ok {P:Program} {w:World} {H:Hp} {h:Heap} {a:Addr} {u:HO} (r:Rd H a u) (x:HOk P w H h):ObjOk P w H h a u:=by
 rcases r with r|⟨o,r⟩
 ·exact x a u r
 ·obtain ⟨_,q⟩:=x a _ r;exact q
def JR:Option HO->Prop
 |some (.lst _)=>True
 |some (.dK _)=>True
 |some (.dT _)=>True
 |some (.set _ _)=>True
 |some (.ins _ _ _)=>True
 |some (.ext _)=>True
 |_=>False
section
variable {P:Program} {w:World} {H:Hp} {h h':Heap} {x e:Addr} {o':HO}
theorem HOk.write (ok:HOk P w H h) (mu:JR (H x)) (he:e=x∨H e=some (.own x)) (k:∀b u,b≠e->h.get? b=some u->h'.get? b=some u) (heo:∃u,h'.get? e=some u)
  (new:ObjOk P w (Zb H x o') h' x o'):HOk P w (Zb H x o') h':=fun b u q=>by
 have nown:∀c y,H c=some (.own y)->c≠x:=fun c y r z=>by subst z;rw [r] at mu;exact mu
 have ntup:∀c xs,H c=some (.tup xs)->c≠x:=fun c xs r z=>by subst z;rw [r] at mu;exact mu
 by_cases hb:b=x
 ·subst hb;rw [Zg] at q;cases q;exact new
 ·rw [Zd hb] at q;by_cases hbe:b=e
  ·have q':H b=some (.own x):=by
    rcases he with z|z
    ·exact absurd (hbe.trans z) hb
    ·rw [hbe];exact z
   rw [q] at q';cases q';obtain ⟨v,hv⟩:=heo;exact ⟨v,by rw [hbe];exact hv⟩
  ·refine (ok b u q).stay (fun c v hc r=>k c v ?_ r) (fun c r=>by rw [Zd (nown c b r)];exact r) fun c xs r=>by rw [Zd (ntup c xs r)];exact r
   rcases hc with rfl|hc
   ·exact hbe
   ·rintro rfl;rcases he with z|z
    ·exact nown c b hc z
    ·rw [hc] at z;cases z;exact hb rfl
end
structure Un (fs ex:List Addr) (H H':Hp) (h h':Heap):Prop where
 keep:∀b o,h.get? b=some o->H b=none->b∉fs->b∉ex->h'.get? b=some o
 slot:∀b o,h.get? b=some o->H b=none->b∈fs->b∉ex->∃sl,h'.get? b=some { o with slots:=sl }
 free:∀b o,h.get? b=some o->H b=none->b∉ex->H' b=none
 there:∀b o,h.get? b=some o->b∉ex->∃o',h'.get? b=some o'
 tups:∀b xs,H b=some (.tup xs)->H' b=some (.tup xs)
 frzs:∀b o u,H b=some (.frz o u)->H' b=some (.frz o u)
 tbls:∀b ps,H b=some (.tbl ps)->∃more,H' b=some (.tbl (ps++more))
section
variable {fs fs' ex ex':List Addr} {H H1 H2:Hp} {h h1 h2 h':Heap} {a x e:Addr} {o:HO}
theorem Un.any (u:Un fs ex H H1 h h1) {b:Addr} {ob:Obj} (q:h.get? b=some ob) (n:H b=none) (hx:b∉ex):∃sl,h1.get? b=some { ob with slots:=sl }:=by
 by_cases hb:b∈fs
 ·exact u.slot b ob q n hb hx
 ·exact ⟨ob.slots,u.keep b ob q n hb hx⟩
theorem Un.kept (k:∀b u,h.get? b=some u->h'.get? b=some u):Un fs ex H H h h' :=
 ⟨fun b ob q _ _ _=>k b ob q,fun b ob q _ _ _=>⟨ob.slots,k b ob q⟩,fun _ _ _ n _=>n,fun b ob q _=>⟨ob,k b ob q⟩,fun _ _ q=>q,fun _ _ _ q=>q,fun _ ps q=>⟨#[],by rw [q];simp⟩⟩
theorem Un.refl:Un fs ex H H h h:=Un.kept fun _ _ q=>q
theorem Un.laid (k:∀b u,h.get? b=some u->h'.get? b=some u) (hp:h.objs.size≤a) (hn:H a=none):Un fs ex H (Zb H a o) h h' where
 keep:=fun b u q _ _ _=>k b u q
 slot:=fun b u q _ _ _=>⟨u.slots,k b u q⟩
 free:=fun b u q n _=>by rw [Zd (Qt (Qz (Qg q) hp))];exact n
 there:=fun b u q _=>⟨u,k b u q⟩
 tups:=fun b xs q=>by rw [Zd (ZO q hn)];exact q
 frzs:=fun b u xs q=>by rw [Zd (ZO q hn)];exact q
 tbls:=fun b ps q=>⟨#[],by rw [Zd (ZO q hn),q];simp⟩
theorem Un.write (mu:JR (H x)) (he:e=x∨H e=some (.own x)) (k:∀b u,b≠e->h.get? b=some u->h'.get? b=some u) (heo:∃u,h'.get? e=some u):Un fs ex H (Zb H x o) h h':=by
 have hx:∀b,H b=none->b≠x:=fun b n z=>by subst z;rw [n] at mu;exact mu
 have hb:∀b,H b=none->b≠e:=fun b n z=>by
  subst z;rcases he with r|r
  ·exact hx b n r
  ·rw [n] at r;cases r
 have hm:∀b u,H b=some u->¬JR (some u)->b≠x:=fun b u q nm z=>by subst z;rw [q] at mu;exact nm mu
 refine ⟨fun b u q n _ _=>k b u (hb b n) q,fun b u q n _ _=>⟨u.slots,k b u (hb b n) q⟩,fun b u q n _=>by rw [Zd (hx b n)];exact n,fun b u q _=>?_,
  fun b xs q=>by rw [Zd (hm b _ q fun z=>z)];exact q,fun b u xs q=>by rw [Zd (hm b _ q fun z=>z)];exact q,fun b ps q=>⟨#[],by rw [Zd (hm b _ q fun z=>z),q];simp⟩⟩
 by_cases hbe:b=e
 ·subst hbe;exact heo
 ·exact ⟨u,k b u hbe q⟩
end
noncomputable def trk (h:Heap) (H:Hp):List Addr:=(List.range h.objs.size).filter fun a=>(H a).isSome
noncomputable def Wg (h:Heap) (H:Hp):Heap:=W.hideAll h (trk h H)
theorem ZjL (h:Heap) (H:Hp):(Wg h H).objs.size=h.objs.size:=W.hideAll_size _ _
theorem Zjo {h:Heap} {H:Hp} {b:Addr} {o:Obj} (e:h.get? b=some o) (n:H b=none):(Wg h H).get? b=some o :=
 W.hideAll_get _ e fun hm=>by
  have q:(H b).isSome=true:=(Q5.mp hm).2;rw [n] at q;simp at q
theorem Zkd {h:Heap} {H:Hp} {b:Addr} {o:Obj} (e:(Wg h H).get? b=some o):h.get? b=some o∧H b=none:=by
 have e':h.get? b=some o:=W.of_hideAll (trk h H) e;refine ⟨e',?_⟩;cases q:H b with
 |none=>rfl
 |some x =>
  have hm:b∈trk h H:=Q5.mpr ⟨Nq.mpr (Qg e'),by simp [q]⟩;have z:(Wg h H).get? b=none:=W.hideAll_none (trk h H) hm;rw [z] at e;cases e
structure Mod (K:W.Frag) (mg:Str->Option Value) (base:Heap):Prop where
 kin:K.In base
 glob:base.Ns mainGlobals mg
 blt:∃mb,base.Ns builtinsNs mb∧∀x:Str,x≠"__name__"->mb x=bootBuiltins x
 nolimit:base.NoLimit
structure Cx where
 prog:Program
 w:World
 K:W.Frag
 mg:Str->Option Value
 base:Heap
 A:Around
 N:List Str
 s₀:Shared
 H₀:Hp
 env:Env
 outer:List Env
 stack:List Env
 ex:List Addr
 fn:Str->Bool
 calm:Bool
 pn:List (Addr×Obj)
 xe:Value->Shared->Prop
noncomputable def Yg (l:List Env):List Addr:=l.filterMap (·.frame)
noncomputable abbrev Cx.fs (X:Cx):List Addr:=Yg X.outer
def JH (sc:Scope) (x:Str):Prop:=sc.names.lookup x=some .local∨sc.names.lookup x=some .cell∨sc.names.lookup x=some .free
def JD (sc:Scope) (x:Str):Prop:=sc.names.lookup x=some .local∨sc.names.lookup x=some .cell
def Zkl (env:Env) (h:Heap) (m:Str->Option Value) (x:Str) (u:Value):Prop :=
 (env.kindOf x=some .local∧m x=some u)∨((env.kindOf x=some .cell∨env.kindOf x=some .free)∧∃c,env.cells.lookup x=some c∧h.IsCell c (some u))
structure Cx.Ok (X:Cx):Prop where
 mod:Mod X.K X.mg X.base
 kind:X.env.scope.kind=.function
 glob:X.env.globals=mainGlobals
 blt:X.env.builtins=builtinsNs
 above:X.s₀.heap.objs.size≤X.env.locals
 inj:∀x y c,X.env.cells.lookup x=some c->X.env.cells.lookup y=some c->x=y
 has:∀x,(X.env.kindOf x=some .cell∨X.env.kindOf x=some .free)->∃c,X.env.cells.lookup x=some c
 cab:∀x c,X.fn x=true->X.env.cells.lookup x=some c->X.s₀.heap.objs.size≤c
 hd:X.calm=true->X.A.handled=none
 frames:X.A.frames=some X.stack
 stk:X.stack=X.outer∨(X.stack=X.env::X.outer∧X.env.frame=some X.env.locals)
 exf:∀b∈X.ex,b≠X.env.locals∧∀x c,X.env.cells.lookup x=some c->c≠b
 bs:∀b o,X.base.get? b=some o->X.s₀.heap.get? b=some o∧X.H₀ b=none
 bsz:X.base.objs.size≤X.s₀.heap.objs.size
 noex:∀b o,X.base.get? b=some o->b∉X.ex
 exfs:∀b∈X.ex,b∉X.fs
 funs:X.s₀.heap.FunFrames X.base X.outer
 frf:∀b∈X.fs,X.H₀ b=none
structure Inv (X:Cx) (pins:List (Addr×Obj)) (σ:List (Option V)) (H:Hp) (s:Shared):Prop where
 ok:X.Ok
 os:s.os=X.s₀.os
 bare:AllBare s.gens
 base:Un X.fs X.ex X.H₀ H X.s₀.heap s.heap
 loc:∃m,s.heap.Ns X.env.locals m∧∀(i:Nat) (x:Str) (v:V),X.N[i]?=some x->σ[i]?=some (some v)->JH X.env.scope x->∃u,RelV v u∧Zkl X.env s.heap m x u
 cell:∀x c,X.env.cells.lookup x=some c->∃v,s.heap.IsCell c v
 free:H X.env.locals=none
 freeC:∀x c,X.env.cells.lookup x=some c->H c=none
 pin:∀p∈X.pn++pins,s.heap.get? p.1=some p.2∧H p.1=none∧p.1≠X.env.locals∧p.1∉X.fs∧∀v,p.2.data≠.cell v
 hok:HOk X.prog X.w H s.heap
 len:σ.length=X.N.length
section
variable {X:Cx} {pins:List (Addr×Obj)} {σ:List (Option V)} {H H':Hp} {s:Shared} {h':Heap}
theorem Cx.Ok.nofr (ok:X.Ok) {b:Addr} {o:Obj} (e:X.base.get? b=some o):b∉X.fs:=fun hb=>by
 have:=(ok.funs.mem hb).1;rw [e] at this;cases this
theorem Inv.bs (I:Inv X pins σ H s):∀b o,X.base.get? b=some o->s.heap.get? b=some o∧H b=none:=fun b o e =>
 ⟨I.base.keep b o (I.ok.bs b o e).1 (I.ok.bs b o e).2 (I.ok.nofr e) (I.ok.noex b o e),I.base.free b o (I.ok.bs b o e).1 (I.ok.bs b o e).2 (I.ok.noex b o e)⟩
theorem Inv.bk (I:Inv X pins σ H s):∀b o,X.base.get? b=some o->s.heap.get? b=some o:=fun b o e=>(I.bs b o e).1
theorem Inv.mod (I:Inv X pins σ H s):Mod X.K X.mg X.base:=I.ok.mod
theorem Inv.kIn (I:Inv X pins σ H s):X.K.In s.heap:=I.ok.mod.kin.keeps I.bk
theorem Inv.nolimit (I:Inv X pins σ H s):s.heap.NoLimit:=I.ok.mod.nolimit.keeps I.bk
theorem Inv.lt (I:Inv X pins σ H s):X.env.locals<s.heap.objs.size:=let ⟨_,hn,_⟩:=I.loc;hn.lt
theorem Inv.sz (I:Inv X pins σ H s):X.s₀.heap.objs.size≤s.heap.objs.size:=Qo I.ok.above (QY I.lt)
theorem Inv.nofs (I:Inv X pins σ H s) {a:Addr} (h:s.heap.objs.size≤a):a∉X.fs:=fun hb=>by
 obtain ⟨_,o,ho,_⟩:=I.ok.funs.mem hb;exact absurd (Qz (Qg ho) (Qo I.sz h)) (QS _)
theorem Inv.cne (I:Inv X pins σ H s):∀x c,X.env.cells.lookup x=some c->c≠X.env.locals:=fun x c e z=>by
 obtain ⟨v,o,ho,hd⟩:=I.cell x c e;obtain ⟨m,⟨o',es,ep,ho',hd',_⟩,_⟩:=I.loc;rw [z,ho'] at ho;cases ho;rw [hd'] at hd;cases hd
theorem Inv.funs (I:Inv X pins σ H s):s.heap.FunFrames X.base X.outer:=by
 have all:∀(l:List Env),(∀b∈Yg l,b∈X.fs)->X.s₀.heap.FunFrames X.base l->s.heap.FunFrames X.base l:=by
  intro l
  induction l with
  |nil=>intro _ _;trivial
  |cons env r ih =>
   intro hs hl;obtain ⟨hk,⟨L,o,hf,hn,ho,hd⟩,hr⟩:=hl;have hL:L∈X.fs:=hs L (by unfold Yg;rw [QT,hf];exact QC);obtain ⟨sl,e⟩:=I.base.slot L o ho (I.ok.frf L hL) hL fun z=>I.ok.exfs L z hL;exact ⟨hk,⟨L,_,hf,hn,e,hd⟩,ih (fun b hb=>hs b (by unfold Yg;rw [QT,hf];exact QF _ hb)) hr⟩
 exact all X.outer (fun _ hb=>hb) I.ok.funs
theorem Inv.stack (I:Inv X pins σ H s):s.heap.FunFrames X.base X.stack:=by
 rcases I.ok.stk with e|⟨e,hf⟩
 ·rw [e];exact I.funs
 ·rw [e];obtain ⟨m,hn,_⟩:=I.loc;refine .cons (by rw [I.ok.kind];decide) hf hn ?_ I.funs;exact Heap.get?_none_of_le (Qo I.ok.bsz I.ok.above)
theorem Inv.stkSub (I:Inv X pins σ H s):∀b∈Yg X.stack,b∈X.env.locals::X.fs:=fun b hb=>by
 rcases I.ok.stk with e|⟨e,hf⟩
 ·rw [e] at hb;exact QF _ hb
 ·rw [e] at hb;unfold Yg at hb;rw [QT,hf] at hb;exact hb
theorem Inv.stkFree (I:Inv X pins σ H s):∀b∈Yg X.stack,H b=none:=fun b hb=>by
 rcases Qh.mp (I.stkSub b hb) with e|hb
 ·rw [e];exact I.free
 ·obtain ⟨_,o,ho,_⟩:=I.ok.funs.mem hb;exact I.base.free b o ho (I.ok.frf b hb) fun z=>I.ok.exfs b z hb
theorem Inv.step {g':Array GenState} {t':Nat} {d':Drawn} {ch:List Addr} (I:Inv X pins σ H s)
  (hch:∀b∈ch,(b∈X.ex∨X.s₀.heap.objs.size≤b)∧b≠X.env.locals∧(∀x c,X.env.cells.lookup x=some c->c≠b)∧∀p∈X.pn++pins,p.1≠b)
  (keep:∀b o,b≠X.env.locals->b∉X.fs->b∉ch->s.heap.get? b=some o->H b=none->h'.get? b=some o)
  (slot:∀b o,b≠X.env.locals->b∈X.fs->b∉ch->s.heap.get? b=some o->H b=none->∃sl,h'.get? b=some { o with slots:=sl }) (free:∀b o,b∉ch->s.heap.get? b=some o->H b=none->H' b=none)
  (there:∀b o,b∉ch->s.heap.get? b=some o->∃o',h'.get? b=some o')
  (tups:∀b xs,H b=some (.tup xs)->H' b=some (.tup xs)) (frzs:∀b o u,H b=some (.frz o u)->H' b=some (.frz o u)) (tbls:∀b ps,H b=some (.tbl ps)->∃more,H' b=some (.tbl (ps++more)))
  (ns:∀m,s.heap.Ns X.env.locals m->h'.Ns X.env.locals m) (hok:HOk X.prog X.w H' h') (hg:AllBare g') :
  Inv X pins σ H' { s with heap:=h',gens:=g',drawn:=d',toks:=t' }:=by
 have neL:∀b o,X.s₀.heap.get? b=some o->b≠X.env.locals:=fun b o e=>Qt (Qz (Qg e) I.ok.above)
 have neC:∀b o,X.s₀.heap.get? b=some o->b∉X.ex->b∉ch:=fun b o e hx hb=>by
  rcases (hch b hb).1 with z|z
  ·exact hx z
  ·exact absurd (Qz (Qg e) z) (QS _)
 have cellK:∀x c,X.env.cells.lookup x=some c->∀v,s.heap.IsCell c v->h'.IsCell c v:=fun x c e v ⟨o,ho,hd⟩=>by
  have nch:c∉ch:=fun z=>(hch c z).2.2.1 x c e rfl;by_cases hc:c∈X.fs
  ·obtain ⟨sl,q⟩:=slot c o (I.cne x c e) hc nch ho (I.freeC x c e);exact ⟨_,q,hd⟩
  ·exact ⟨o,keep c o (I.cne x c e) hc nch ho (I.freeC x c e),hd⟩
 refine ⟨I.ok,I.os,hg,⟨fun b o e n hb hx=>?_,fun b o e n hb hx=>?_,fun b o e n hx=>?_,fun b o e hx=>?_,fun b xs e=>tups b xs (I.base.tups b xs e),fun b o xs e=>frzs b o xs (I.base.frzs b o xs e),fun b ps e=>?_⟩,?_,fun x c e=>?_,?_,fun x c e=>?_,fun p hp=>?_,hok,I.len⟩
 ·exact keep b o (neL b o e) hb (neC b o e hx) (I.base.keep b o e n hb hx) (I.base.free b o e n hx)
 ·obtain ⟨sl,e1⟩:=I.base.slot b o e n hb hx;obtain ⟨sl',e2⟩:=slot b _ (neL b o e) hb (neC b o e hx) e1 (I.base.free b o e n hx);exact ⟨sl',e2⟩
 ·obtain ⟨o',e1⟩:=I.base.there b o e hx;exact free b o' (neC b o e hx) e1 (I.base.free b o e n hx)
 ·obtain ⟨o',e1⟩:=I.base.there b o e hx;exact there b o' (neC b o e hx) e1
 ·obtain ⟨m1,e1⟩:=I.base.tbls b ps e;obtain ⟨m2,e2⟩:=tbls b _ e1;exact ⟨m1++m2,by rw [e2,Array.append_assoc]⟩
 ·obtain ⟨m,hn,hl⟩:=I.loc;refine ⟨m,ns m hn,fun i x v e1 e2 e3=>?_⟩;obtain ⟨u,r,l⟩:=hl i x v e1 e2 e3;refine ⟨u,r,?_⟩;rcases l with l|⟨k,c,e,z⟩
  ·exact .inl l
  ·exact .inr ⟨k,c,e,cellK x c e _ z⟩
 ·obtain ⟨v,z⟩:=I.cell x c e;exact ⟨v,cellK x c e v z⟩
 ·obtain ⟨m,⟨o,_,_,ho,_⟩,_⟩:=I.loc;exact free _ o (fun z=>(hch _ z).2.1 rfl) ho I.free
 ·obtain ⟨v,o,ho,hd⟩:=I.cell x c e;exact free c o (fun z=>(hch c z).2.2.1 x c e rfl) ho (I.freeC x c e)
 ·obtain ⟨e,n,ne,nf,d⟩:=I.pin p hp;have nch:p.1∉ch:=fun z=>(hch p.1 z).2.2.2 p hp rfl;exact ⟨keep p.1 p.2 ne nf nch e n,free p.1 p.2 nch e n,ne,nf,d⟩
theorem Inv.un {t':Nat} (I:Inv X pins σ H s) (u:Un X.fs [] H H' s.heap h') (hok:HOk X.prog X.w H' h'):Inv X pins σ H' { s with heap:=h',toks:=t' }:=by
 obtain ⟨m,⟨o,es,ep,ho,r⟩,_⟩:=id I.loc;obtain ⟨sl,hL⟩:=u.any ho I.free (by simp)
 exact I.step (g':=s.gens) (d':=s.drawn) (ch:=[]) (fun _ z=>nomatch z) (fun b o _ hb _ e n=>u.keep b o e n hb (by simp)) (fun b o _ hb _ e n=>u.slot b o e n hb (by simp)) (fun b o _ e n=>u.free b o e n (by simp)) (fun b o _ e=>u.there b o e (by simp)) u.tups u.frzs u.tbls (fun m' hm=>by
  obtain ⟨o',es',ep',ho',r'⟩:=hm;rw [ho] at ho';cases ho';exact ⟨_,es',ep',hL,r'⟩) hok I.bare
theorem Inv.call {g':Array GenState} {t':Nat} {d':Drawn} {ch:List Addr} (I:Inv X pins σ H s) (u:Un (Yg X.stack) ch H H' s.heap h') (hok:HOk X.prog X.w H' h') (hg:AllBare g')
  (hch:∀b∈ch,(b∈X.ex∨X.s₀.heap.objs.size≤b)∧b≠X.env.locals∧(∀x c,X.env.cells.lookup x=some c->c≠b)∧∀p∈X.pn++pins,p.1≠b) :
  Inv X pins σ H' { s with heap:=h',gens:=g',drawn:=d',toks:=t' }:=by
 obtain ⟨m,⟨o,es,ep,ho,r⟩,_⟩:=id I.loc;obtain ⟨sl,hL⟩:=u.any ho I.free fun z=>(hch _ z).2.1 rfl
 exact I.step (ch:=ch) hch (fun b o hL hb hc e n=>u.keep b o e n (fun z=>(Qh.mp (I.stkSub b z)).elim hL hb) hc) (fun b o _ _ hc e n=>u.any e n hc) (fun b o hc e n=>u.free b o e n hc) (fun b o hc e=>u.there b o e hc) u.tups u.frzs u.tbls (fun m' hm=>by
  obtain ⟨o',es',ep',ho',r'⟩:=hm;rw [ho] at ho';cases ho';exact ⟨_,es',ep',hL,r'⟩) hok hg
theorem Inv.turned {t':Nat} {it:Addr} (I:Inv X pins σ H s) (k:∀b o,b≠it->s.heap.get? b=some o->h'.get? b=some o) (hn:H it=none) (hL:it≠X.env.locals)
  (h1:it∈X.ex∨X.s₀.heap.objs.size≤it) (h2:∀x c,X.env.cells.lookup x=some c->c≠it) (h3:∀p∈X.pn++pins,p.1≠it):Inv X pins σ H { s with heap:=h',toks:=t' }:=by
 have nit:∀b u,H b=some u->b≠it:=fun b u e z=>by rw [z,hn] at e;cases e
 refine I.step (g':=s.gens) (d':=s.drawn) (ch:=[it]) (fun b hb=>?_) (fun b o _ _ hc e _=>k b o (fun z=>hc (by simp [z])) e) (fun b o _ _ hc e _=>⟨o.slots,k b o (fun z=>hc (by simp [z])) e⟩) (fun _ _ _ _ n=>n)
  (fun b o hc e=>⟨o,k b o (fun z=>hc (by simp [z])) e⟩) (fun _ _ e=>e) (fun _ _ _ e=>e) (fun b ps e=>⟨#[],by rw [e];simp⟩) (fun m hm=>?_) (fun b u e=>?_) I.bare
 ·have e:b=it:=by simpa using hb
  subst e;exact ⟨h1,hL,h2,h3⟩
 ·obtain ⟨o,es,ep,ho,r⟩:=hm;exact ⟨o,es,ep,k _ o (QZ hL) ho,r⟩
 ·refine (I.hok b u e).stay (fun c v hc q=>k c v ?_ q) (fun _ q=>q) fun _ _ q=>q;rcases hc with z|z
  ·rw [z];exact nit b u e
  ·exact nit c _ z
theorem Inv.tok (I:Inv X pins σ H s) (t:Nat):Inv X pins σ H { s with toks:=t }:=I.un (h':=s.heap) (t':=t) Un.refl I.hok
theorem Inv.kept {t':Nat} (I:Inv X pins σ H s) (k:∀b u,s.heap.get? b=some u->h'.get? b=some u):Inv X pins σ H { s with heap:=h',toks:=t' }:=I.un (Un.kept k) (I.hok.kept k)
theorem Inv.laid {a:Addr} {o:HO} {t':Nat} (I:Inv X pins σ H s) (k:∀b u,s.heap.get? b=some u->h'.get? b=some u) (hp:s.heap.objs.size≤a) (new:ObjOk X.prog X.w (Zb H a o) h' a o) :
  Inv X pins σ (Zb H a o) { s with heap:=h',toks:=t' }:=I.un (Un.laid k hp (I.hok.fresh hp)) (I.hok.laid k hp new)
theorem Inv.write {x e:Addr} {o:HO} {t':Nat} (I:Inv X pins σ H s) (mu:JR (H x)) (he:e=x∨H e=some (.own x)) (k:∀b u,b≠e->s.heap.get? b=some u->h'.get? b=some u) (heo:∃u,h'.get? e=some u)
  (new:ObjOk X.prog X.w (Zb H x o) h' x o):Inv X pins σ (Zb H x o) { s with heap:=h',toks:=t' }:=I.un (Un.write mu he k heo) (I.hok.write mu he k heo new)
theorem Inv.pins_of {pins':List (Addr×Obj)} (I:Inv X pins σ H s) (h:∀p∈pins',s.heap.get? p.1=some p.2∧H p.1=none∧p.1≠X.env.locals∧p.1∉X.fs∧∀v,p.2.data≠.cell v):Inv X pins' σ H s :=
 ⟨I.ok,I.os,I.bare,I.base,I.loc,I.cell,I.free,I.freeC,fun p hp=>(Qq.mp hp).elim (fun z=>I.pin p (Rq _ z)) (h p),I.hok,I.len⟩
theorem ZcJ {N:List Str} (hN:N.Nodup) {i j:Nat} {x:Str} (a:N[i]?=some x) (b:N[j]?=some x):i=j:=by
 obtain ⟨h1,e1⟩:=QI.mp a;obtain ⟨h2,e2⟩:=QI.mp b;exact (GN hN).mp (e1.trans e2.symm)
theorem Zey {M:Model} {A:Around} {E:Value->Shared->Prop} {i:Nat} {x:Str} {v:V} {u:Value} {Q:Unit->Shared->Prop} (I:Inv X pins σ H s) (hN:X.N.Nodup) (hi:X.N[i]?=some x) (hx:JD X.env.scope x) (r:RelV v u)
  (h:∀s',Inv X pins (σ.set i (some v)) H s'->(∃a,Heap.SameBut a s.heap s'.heap∧(a=X.env.locals∨X.env.cells.lookup x=some a))->Q () s') (hf:X.fn x=true∨X.env.scope.names.lookup x=some .local:=by first|exact .inl rfl|exact .inr rfl|assumption):wpAny M A (storeName X.env x u) Q E s:=by
 obtain ⟨m,hn,hl⟩:=id I.loc;have hcls:(X.env.scope.kind==.class||(X.env.scope.kind==.module&&X.env.locals != X.env.globals))=false:=by rw [I.ok.kind];rfl
 have hiσ:i<σ.length:=by rw [I.len];exact (QI.mp hi).1
 have cne:=I.cne
 have tracked:∀{a:Addr} {h':Heap},(∃o,s.heap.get? a=some o∧H a=none)->Heap.SameBut a s.heap h'->HOk X.prog X.w H h':=fun {a h'} ha hs b ob e=>by
  obtain ⟨_,_,hfree⟩:=ha;refine (I.hok b ob e).stay (fun c w' hc q=>(hs.2 c ?_).trans q) (fun _ q=>q) fun _ _ q=>q;rintro rfl;rcases hc with rfl|hc
  ·rw [hfree] at e;cases e
  ·rw [hfree] at hc;cases hc
 rcases hx with hk|hk
 ·refine wpAny_storeName_local hk hn (fun h' hn' hs=>?_) hcls;obtain ⟨oL,_,_,hoL,_⟩:=id hn;refine h _ ⟨I.ok,I.os,I.bare,⟨fun b o e n hb hx=>?_,fun b o e n hb hx=>?_,I.base.free,fun b o e hx=>?_,I.base.tups,I.base.frzs,I.base.tbls⟩,⟨_,hn',fun j y v' e1 e2 e3=>?_⟩,fun y c e=>?_,I.free,I.freeC,fun p hp=>?_,tracked ⟨oL,hoL,I.free⟩ hs,by simpa using I.len⟩ ⟨_,hs,.inl rfl⟩
  ·exact (hs.2 b (Qt (Qz (Qg e) I.ok.above))).trans (I.base.keep b o e n hb hx)
  ·obtain ⟨sl,e1⟩:=I.base.slot b o e n hb hx;exact ⟨sl,(hs.2 b (Qt (Qz (Qg e) I.ok.above))).trans e1⟩
  ·obtain ⟨o',e1⟩:=I.base.there b o e hx;exact ⟨o',(hs.2 b (Qt (Qz (Qg e) I.ok.above))).trans e1⟩
  ·by_cases hj:j=i
   ·subst hj;rw [hi] at e1;cases e1;rw [Nr hiσ] at e2;cases e2;exact ⟨u,r,.inl ⟨hk,by simp⟩⟩
   ·rw [Nt (QZ hj)] at e2;obtain ⟨u',r',q⟩:=hl j y v' e1 e2 e3;refine ⟨u',r',?_⟩;rcases q with ⟨k,e⟩|⟨k,c,e,z⟩
    ·refine .inl ⟨k,?_⟩;have:y≠x:=fun e=>hj (ZcJ hN e1 (e▸hi));simp [this,e]
    ·exact .inr ⟨k,c,e,z.sameBut hs (cne y c e)⟩
  ·obtain ⟨w',z⟩:=I.cell y c e;exact ⟨w',z.sameBut hs (cne y c e)⟩
  ·obtain ⟨e,n,ne,nf,d⟩:=I.pin p hp;exact ⟨(hs.2 p.1 ne).trans e,n,ne,nf,d⟩
 ·have hfn:X.fn x=true:=by
   rcases hf with z|z
   ·exact z
   ·rw [z] at hk;cases hk
  obtain ⟨c,hc⟩:=I.ok.has x (.inl hk);obtain ⟨w',z⟩:=I.cell x c hc;refine wpAny_storeName_cell I.ok.kind hk hc z (fun h' hc' hs=>?_);obtain ⟨oc,hoc,hocd⟩:=id z;refine h { s with heap:=h' } ⟨I.ok,I.os,I.bare,⟨fun b o e n hb hx=>?_,fun b o e n hb hx=>?_,I.base.free,fun b o e hx=>?_,I.base.tups,I.base.frzs,I.base.tbls⟩,⟨m,hn.sameBut hs (QZ (cne x c hc)),fun j y v' e1 e2 e3=>?_⟩,fun y c' e=>?_,I.free,I.freeC,fun p hp=>?_,tracked ⟨oc,hoc,I.freeC x c hc⟩ hs,by simpa using I.len⟩ ⟨c,hs,.inr hc⟩
  ·exact (hs.2 b (Qt (Qz (Qg e) (I.ok.cab x c hfn hc)))).trans (I.base.keep b o e n hb hx)
  ·obtain ⟨sl,e1⟩:=I.base.slot b o e n hb hx;exact ⟨sl,(hs.2 b (Qt (Qz (Qg e) (I.ok.cab x c hfn hc)))).trans e1⟩
  ·obtain ⟨o',e1⟩:=I.base.there b o e hx;exact ⟨o',(hs.2 b (Qt (Qz (Qg e) (I.ok.cab x c hfn hc)))).trans e1⟩
  ·by_cases hj:j=i
   ·subst hj;rw [hi] at e1;cases e1;rw [Nr hiσ] at e2;cases e2;exact ⟨u,r,.inr ⟨.inl hk,c,hc,hc'⟩⟩
   ·rw [Nt (QZ hj)] at e2;obtain ⟨u',r',q⟩:=hl j y v' e1 e2 e3;refine ⟨u',r',?_⟩;rcases q with q|⟨k,c',e,z'⟩
    ·exact .inl q
    ·refine .inr ⟨k,c',e,z'.sameBut hs ?_⟩;rintro rfl;exact hj (ZcJ hN e1 (I.ok.inj _ _ _ e hc▸hi))
  ·by_cases hcc:c'=c
   ·subst hcc;exact ⟨_,hc'⟩
   ·obtain ⟨w2,z2⟩:=I.cell y c' e;exact ⟨w2,z2.sameBut hs hcc⟩
  ·obtain ⟨e,n,ne,nf,d⟩:=I.pin p hp;refine ⟨(hs.2 p.1 ?_).trans e,n,ne,nf,d⟩;intro q;rw [q,hoc] at e;have q':oc=p.2:=Qn e;exact d w' (by rw [←q'];exact hocd)
theorem Je {M:Model} {A:Around} {E:Value->Shared->Prop} {i:Nat} {x:Str} {v:V} {u:Value} {Q:Unit->Shared->Prop} (I:Inv X pins σ H s) (hN:X.N.Nodup) (hi:X.N[i]?=some x) (hx:JD X.env.scope x) (r:RelV v u)
  (h:∀s',Inv X pins (σ.set i (some v)) H s'->Q () s') (hf:X.fn x=true∨X.env.scope.names.lookup x=some .local:=by first|exact .inl rfl|exact .inr rfl|assumption):wpAny M A (storeName X.env x u) Q E s :=
 Zey I hN hi hx r (fun s' I' _=>h s' I') hf
theorem Inv.call' {s':Shared} {ch:List Addr} (I:Inv X pins σ H s) (ho:s'.os=s.os) (u:Un (Yg X.stack) ch H H' s.heap s'.heap) (hok:HOk X.prog X.w H' s'.heap) (hg:AllBare s'.gens)
  (hch:∀b∈ch,(b∈X.ex∨X.s₀.heap.objs.size≤b)∧b≠X.env.locals∧(∀x c,X.env.cells.lookup x=some c->c≠b)∧∀p∈X.pn++pins,p.1≠b):Inv X pins σ H' s':=by
 obtain ⟨h',g',d',t',o'⟩:=s';have e:o'=s.os:=ho;subst e;exact I.call (g':=g') (t':=t') (d':=d') u hok hg hch
end
abbrev XK:=Value->Option Addr->Hp->Prop
abbrev St:=List (Option V)
abbrev VK:=V->Hp->Prop
abbrev TE:=St->Hp->VK->Prop
abbrev TT:=St->Hp->(Bool->Hp->Prop)->Prop
abbrev TA:=St->Hp->(List V->Hp->Prop)->Prop
structure Ends where
 nx:St->Hp->Prop
 rt:VK
 bk:St->Hp->Prop:=fun _ _=>False
 ct:St->Hp->Prop:=fun _ _=>False
abbrev TS:=Ends->St->Hp->Prop
def EP (X:Cx) (pins:List (Addr×Obj)) (σ:St) (Q:VK) (u:Value) (s':Shared):Prop:=∃v H',Inv X pins σ H' s'∧RelV v u∧Q v H'
def TP (X:Cx) (pins:List (Addr×Obj)) (σ:St) (Q:Bool->Hp->Prop) (b:Bool) (s':Shared):Prop:=∃H',Inv X pins σ H' s'∧Q b H'
def AP (X:Cx) (pins:List (Addr×Obj)) (σ:St) (Q:List V->Hp->Prop) (us:List Value) (s':Shared):Prop:=∃vs H',Inv X pins σ H' s'∧Vals vs us∧Q vs H'
def SP (X:Cx) (pins:List (Addr×Obj)) (D:Ends) (f:Flow) (s':Shared):Prop :=
 match f with
 |.next=>∃σ' H',Inv X pins σ' H' s'∧D.nx σ' H'
 |.brk=>∃σ' H',Inv X pins σ' H' s'∧D.bk σ' H'
 |.cont=>∃σ' H',Inv X pins σ' H' s'∧D.ct σ' H'
 |.ret u=>∃v σ' H',Inv X pins σ' H' s'∧RelV v u∧D.rt v H'
def PE (X:Cx) (e:Expr) (t:TE):Prop :=
 ∀(pins:List (Addr×Obj)) (s:Shared) (σ:St) (H:Hp) (Q:VK),Inv X pins σ H s->t σ H Q->wpAny (model X.prog X.w) X.A (eval e X.env) (EP X pins σ Q) X.xe s
def PT (X:Cx) (e:Expr) (t:TT):Prop :=
 ∀(pins:List (Addr×Obj)) (s:Shared) (σ:St) (H:Hp) (Q:Bool->Hp->Prop),Inv X pins σ H s->t σ H Q->wpAny (model X.prog X.w) X.A (isTrue e X.env (eval e X.env)) (TP X pins σ Q) X.xe s
def PW (X:Cx) (e:Expr) (t:TT):Prop :=
 ∀(whole:Sem Value) (pins:List (Addr×Obj)) (s:Shared) (σ:St) (H:Hp) (Q:Bool->Hp->Prop),Inv X pins σ H s->t σ H Q->wpAny (model X.prog X.w) X.A (isTrue e X.env whole) (TP X pins σ Q) X.xe s
theorem PW.pt {X:Cx} {e:Expr} {t:TT} (h:PW X e t):PT X e t:=h _
def PA (X:Cx) (es:List Expr) (t:TA):Prop :=
 ∀(pos:Pos) (pins:List (Addr×Obj)) (s:Shared) (σ:St) (H:Hp) (Q:List V->Hp->Prop),Inv X pins σ H s->t σ H Q->wpAny (model X.prog X.w) X.A (spliced (backTo pos (starEach es X.env))) (AP X pins σ Q) X.xe s
def PS (X:Cx) (st:Stmt) (t:TS):Prop :=
 ∀(pins:List (Addr×Obj)) (s:Shared) (σ:St) (H:Hp) (D:Ends),Inv X pins σ H s->t D σ H->wpAny (model X.prog X.w) X.A (exec st X.env) (SP X pins D) X.xe s
def PSs (X:Cx) (st:List Stmt) (t:TS):Prop :=
 ∀(pins:List (Addr×Obj)) (s:Shared) (σ:St) (H:Hp) (D:Ends),Inv X pins σ H s->t D σ H->wpAny (model X.prog X.w) X.A (execs st X.env) (SP X pins D) X.xe s
theorem Zr {α:Type} {t:Sem α} {Q Q':α->Shared->Prop} {M:Model} {A:Around} {E:Value->Shared->Prop} {s:Shared} (h:wpAny M A t Q E s) (hQ:∀a s,Q a s->Q' a s):wpAny M A t Q' E s:=Q1 h hQ fun _ _ x=>x
section
variable {X:Cx}
def Js (i:Nat):TE:=fun σ H Q=>∃v,σ[i]?=some (some v)∧Q v H
def tC (v:V):TE:=fun _ H Q=>Q v H
theorem Zcf {i:Nat} {x:Str} {pos:Pos} (hN:X.N[i]?=some x) (hv:JH X.env.scope x) (hd:(x==("__debug__" : Str))=false:=by decide) (hcd:(x==("__classdict__" : Str))=false:=by decide):PE X (.Name x pos) (Js i):=by
 intro pins s σ H Q I h;obtain ⟨v,e,h⟩:=h;obtain ⟨m,hn,hl⟩:=I.loc;obtain ⟨u,r,l⟩:=hl i x v hN e hv;have fin:EP X pins σ Q u s:=⟨v,H,I,r,h⟩;rcases l with ⟨hk,hm⟩|⟨hk,c,hc,hcell⟩
 ·exact Ga (Nu I.ok.kind hk hn hm fin) hd
 ·rcases hk with hk|hk
  ·exact Ga (wpAny_loadName_cell I.ok.kind hk hc hcell fin) hd
  ·exact Ga (wpAny_loadName_free I.ok.kind hk hc hcell fin hcd) hd
theorem Ze {i j pos}:PE X (.Constant (.int i) j pos) (tC (.int i)):=fun _ _ _ H _ I h=>wpAny_Constant_int ⟨.int i,H,I.tok _,⟨_,rfl⟩,h⟩
theorem Y5 {b j pos}:PE X (.Constant (.bool b) j pos) (tC (.bl b)):=fun _ _ _ H _ I h=>Constant_bool ⟨.bl b,H,I,rfl,h⟩
theorem Vp {j pos}:PE X (.Constant .none j pos) (tC .non):=fun _ _ _ H _ I h=>Constant_none ⟨.non,H,I,rfl,h⟩
theorem Zs {x j pos}:PE X (.Constant (.str x) j pos) (tC (.str x)):=fun _ _ _ H _ I h=>Calls.Constant_str ⟨.str x,H,I.tok _,⟨_,rfl⟩,h⟩
def Gl (X:Cx) (x:Str):Prop:=X.env.kindOf x=some .globalImplicit
theorem U3 {E:Value->Shared->Prop} {pins:List (Addr×Obj)} {s:Shared} {σ:St} {H:Hp} {x:Str} {u:Value} {pos:Pos} {Q:Value->Shared->Prop} (I:Inv X pins σ H s) (hg:Gl X x) (hm:X.mg x=some u) (h:Q u s)
  (hd:(x==("__debug__" : Str))=false:=by decide):wpAny (model X.prog X.w) X.A (eval (.Name x pos) X.env) Q E s :=
 GO I.ok.kind hg (Nv (by rw [I.ok.glob];exact I.mod.glob.keeps I.bk) hm h) hd
theorem Wn {E:Value->Shared->Prop} {pins:List (Addr×Obj)} {s:Shared} {σ:St} {H:Hp} {x:Str} {u:Value} {pos:Pos} {Q:Value->Shared->Prop} (I:Inv X pins σ H s) (hg:Gl X x) (hm:X.mg x=none) (hv:bootBuiltins x=some u) (h:Q u s)
  (hn:x≠"__name__":=by decide) (hd:(x==("__debug__" : Str))=false:=by decide):wpAny (model X.prog X.w) X.A (eval (.Name x pos) X.env) Q E s:=by
 obtain ⟨mb,h1,h2⟩:=I.mod.blt;exact GO I.ok.kind hg (Calls.loadGlobal_builtin (by rw [I.ok.glob];exact I.mod.glob.keeps I.bk) hm (by rw [I.ok.blt];exact h1.keeps I.bk) ((h2 x hn).trans hv) h) hd
theorem VN {x:Str} {v:V} {u:Value} {pos:Pos} (hg:Gl X x) (hm:X.mg x=some u) (r:RelV v u) (hd:(x==("__debug__" : Str))=false:=by decide):PE X (.Name x pos) (tC v) :=
 fun _ _ _ H _ I h=>U3 I hg hm ⟨v,H,I,r,h⟩ hd
theorem XZ {x:Str} {v:V} {u:Value} {pos:Pos} (hg:Gl X x) (hm:X.mg x=none) (hv:bootBuiltins x=some u) (r:RelV v u) (hn:x≠"__name__":=by decide) (hd:(x==("__debug__" : Str))=false:=by decide):PE X (.Name x pos) (tC v) :=
 fun _ _ _ H _ I h=>Wn I hg hm hv ⟨v,H,I,r,h⟩ hn hd
variable {a b:Expr} {ta tb:TE} {pos:Pos}
def PC (X:Cx) (op:CmpOp) (a b:Expr) (t:TE):Prop :=
 ∀(pins:List (Addr×Obj)) (s:Shared) (σ:St) (H:Hp) (Q:VK),Inv X pins σ H s->t σ H Q →
  wpAny (model X.prog X.w) X.A (eval a X.env) (fun v s₁=>wpAny (model X.prog X.w) X.A (eval b X.env) (fun u s₂=>wpAny (model X.prog X.w) X.A (compareOp op v u) (EP X pins σ Q) X.xe s₂) X.xe s₁) X.xe s
def tB (t:TE):TT:=fun σ H Q=>t σ H fun x H1=>∃c,x=.bl c∧Q c H1
theorem Um {op:CmpOp} {t:TE} (h:PC X op a b t) (h1:behindInMarks op b=false:=by first|exact nobehind _ (by decide) (by decide)|rfl):PT X (.Compare a [op] [b] pos) (tB t):=by
 intro pins s σ H Q I hw;refine wpAny_isTrue_Compare1 (Zr (h pins s σ H _ I hw) fun v s1 h1=>Zr h1 fun u s2 h2=>Zr h2 fun c s3 ⟨x,H1,I1,r1,q1⟩=>?_) h1;obtain ⟨d,rfl,q⟩:=q1;cases r1;exact R3 ⟨H1,I1,q⟩
theorem YZ {e:Expr} {t:TE} (h:PE X e t) (he:∀whole,isTrue e X.env whole=(do let v ←whole;standAt e.pos;holding [v] (truthy v)):=by intro _;rfl):PT X e (tB t):=by
 intro pins s σ H Q I hw;refine isTrue_plain (Zr (h pins s σ H _ I hw) fun v s1 ⟨x,H1,I1,r1,q1⟩=>?_) (he _);obtain ⟨d,rfl,q⟩:=q1;cases r1;exact R3 ⟨H1,I1,q⟩
variable {tA tB':TT} {rest:List Expr}
def Zoz (t u:TT):TT:=fun σ H Q=>t σ H fun c H1=>if c=true then u σ H1 Q else Q false H1
def tOr (t u:TT):TT:=fun σ H Q=>t σ H fun c H1=>if c=true then Q true H1 else u σ H1 Q
def Zl5 (t:TT):TT:=fun σ H Q=>t σ H fun c H1=>Q (!c) H1
theorem WM (ha:PT X a tA):PW X (.BoolOp .And [a] pos) tA:=by
 intro wh pins s σ H Q I h;refine isTrue_and (Zr (ha pins s σ H Q I h) fun c s1 e=>?_);cases c with
 |true=>exact isTrue_and_nil e
 |false=>exact e
theorem Wd (ha:PT X a tA):PW X (.BoolOp .Or [a] pos) tA:=by
 intro wh pins s σ H Q I h;refine isTrue_or (Zr (ha pins s σ H Q I h) fun c s1 e=>?_);cases c with
 |false=>exact isTrue_or_nil e
 |true=>exact e
theorem Wz (ha:PT X a tA) (hb:PW X (.BoolOp .And (b::rest) pos) tB'):PW X (.BoolOp .And (a::b::rest) pos) (Zoz tA tB'):=by
 intro wh pins s σ H Q I h;refine isTrue_and (Zr (ha pins s σ H _ I h) fun c s1 ⟨H1,I1,q1⟩=>?_);cases c with
 |true=>exact hb wh pins s1 σ H1 Q I1 q1
 |false=>exact ⟨H1,I1,q1⟩
theorem XB (ha:PT X a tA) (hb:PW X (.BoolOp .Or (b::rest) pos) tB'):PW X (.BoolOp .Or (a::b::rest) pos) (tOr tA tB'):=by
 intro wh pins s σ H Q I h;refine isTrue_or (Zr (ha pins s σ H _ I h) fun c s1 ⟨H1,I1,q1⟩=>?_);cases c with
 |true=>exact ⟨H1,I1,q1⟩
 |false=>exact hb wh pins s1 σ H1 Q I1 q1
theorem Xk (ha:PT X a tA):PT X (.UnaryOp .Not a pos) (Zl5 tA):=by
 intro pins s σ H Q I h;exact isTrue_not (ha pins s σ H (fun c H1=>Q (!c) H1) I h)
def ZjC (ta tb:TE):TE:=fun σ H Q=>ta σ H fun x H1=>∃c,x=.bl c∧if c=true then tb σ H1 Q else Q (.bl false) H1
def Zj3 (ta tb:TE):TE:=fun σ H Q=>ta σ H fun x H1=>∃c,x=.bl c∧if c=true then Q (.bl true) H1 else tb σ H1 Q
def Zix (ta:TE):TE:=fun σ H Q=>ta σ H fun x H1=>∃c,x=.bl c∧Q (.bl (!c)) H1
theorem Xq {op} {t:TE} (h:PE X a t):PE X (.BoolOp op [a] pos) t:=fun pins s σ H Q I hw=>BoolOp_one (h pins s σ H Q I hw)
theorem Xr (ha:PE X a ta) (hb:PE X (.BoolOp .And (b::rest) pos) tb):PE X (.BoolOp .And (a::b::rest) pos) (ZjC ta tb):=by
 intro pins s σ H Q I h;refine BoolOp_and (Zr (ha pins s σ H _ I h) fun v s1 ⟨x,H1,I1,r1,q1⟩=>?_);obtain ⟨c,rfl,q1⟩:=q1;cases r1;refine R3 ?_;cases c with
 |true=>exact hb pins s1 σ H1 Q I1 q1
 |false=>exact ⟨.bl false,H1,I1,rfl,q1⟩
theorem ZfB (ha:PE X a ta) (hb:PE X (.BoolOp .Or (b::rest) pos) tb):PE X (.BoolOp .Or (a::b::rest) pos) (Zj3 ta tb):=by
 intro pins s σ H Q I h;refine BoolOp_or (Zr (ha pins s σ H _ I h) fun v s1 ⟨x,H1,I1,r1,q1⟩=>?_);obtain ⟨c,rfl,q1⟩:=q1;cases r1;refine R3 ?_;cases c with
 |false=>exact hb pins s1 σ H1 Q I1 q1
 |true=>exact ⟨.bl true,H1,I1,rfl,q1⟩
theorem ZnJ (ha:PE X a ta):PE X (.UnaryOp .Not a pos) (Zix ta):=by
 intro pins s σ H Q I h;refine UnaryOp_ (Zr (ha pins s σ H _ I h) fun v s1 ⟨x,H1,I1,r1,q1⟩=>?_);obtain ⟨c,rfl,q1⟩:=q1;cases r1;exact not_of (R3 ⟨.bl (!c),H1,I1,rfl,q1⟩)
def tIf (t:TT) (ta tb:TE):TE:=fun σ H Q=>t σ H fun c H1=>if c=true then ta σ H1 Q else tb σ H1 Q
theorem Zi8 {c:Expr} (hc:PT X c tA) (ha:PE X a ta) (hb:PE X b tb):PE X (.IfExp c a b pos) (tIf tA ta tb):=by
 intro pins s σ H Q I h;refine wpAny_IfExp (Zr (hc pins s σ H _ I h) fun d s1 ⟨H1,I1,q1⟩=>?_);cases d with
 |true=>exact ha pins s1 σ H1 Q I1 q1
 |false=>exact hb pins s1 σ H1 Q I1 q1
end
def SqL (K:W.Frag) (H:Hp) (a:Addr) (xs:List V):Prop :=
 Rd H a (.lst xs) ∨
  ∃(o:Obj) (its:Array Value) (n:Nat),K.lookup a=some o∧o.cls=.type "list"∧o.dict=none∧o.data=.seq its n∧its.size≤sizeLine∧Vals xs its.toList
def SqT (K:W.Frag) (H:Hp) (a:Addr) (xs:List V):Prop :=
 Rd H a (.tup xs) ∨
  ∃(o:Obj) (its:Array Value) (n:Nat),K.lookup a=some o∧o.cls=.type "tuple"∧o.data=.seq its n∧its.size≤sizeLine∧Vals xs its.toList
noncomputable def ZiB:Value->Option V
 |.none=>some .non
 |.bool b=>some (.bl b)
 |.int i _=>some (.int i)
 |.str x _=>some (.str x)
 |.bytes b _=>some (.byt b)
 |.float b _=>some (.flt b)
 |.ref a=>some (.ref a)
 |.type n=>some (.ty n)
 |_=>none
theorem RelV.abs {x:V} {u:Value} (r:RelV x u):ZiB u=some x:=by
 cases x with
 |non=>cases r;rfl
 |bl _=>cases r;rfl
 |int _=>obtain ⟨t,rfl⟩:=r;rfl
 |str _=>obtain ⟨t,rfl⟩:=r;rfl
 |byt _=>obtain ⟨t,rfl⟩:=r;rfl
 |flt _=>obtain ⟨t,rfl⟩:=r;rfl
 |ref _=>cases r;rfl
 |ty _=>cases r;rfl
theorem RelV.inj {x y:V} {u:Value} (r:RelV x u) (q:RelV y u):x=y:=Qn (r.abs.symm.trans q.abs)
theorem Vals.inj:∀{xs ys:List V} {us:List Value},Vals xs us->Vals ys us->xs=ys
 |_,_,_,.nil,.nil=>rfl
 |_,_,_,.cons r t,.cons r' t'=>by rw [r.inj r',Vals.inj t t']
section
variable {X:Cx} {pins:List (Addr×Obj)} {σ:St} {H:Hp} {s:Shared} {a:Addr} {xs ys:List V}
theorem SqL.of {K:W.Frag} (h:H a=some (.lst xs)):SqL K H a xs:=.inl (.inl h)
theorem SqT.of {K:W.Frag} (h:H a=some (.tup xs)):SqT K H a xs:=.inl (.inl h)
theorem Inv.list (I:Inv X pins σ H s) (h:SqL X.K H a xs):∃its:List Value,Vals xs its∧PlainL s.heap a its.toArray∧xs.length≤sizeLine:=by
 rcases h with h|⟨o,its,n,hk,hc,hd,hs,hz,r⟩
 ·obtain ⟨z,its,n,r,e⟩:=h.ok I.hok;exact ⟨its,r,⟨_,n,e,rfl,rfl,rfl⟩,z⟩
 ·refine ⟨its.toList,r,⟨o,n,I.kIn a o hk,hc,hd,by simpa using hs⟩,?_⟩;have e:=r.length;simp only [RL] at e;omega
theorem Inv.tuple (I:Inv X pins σ H s) (h:SqT X.K H a xs):∃its:List Value,Vals xs its∧IsTup s.heap a its.toArray∧xs.length≤sizeLine:=by
 rcases h with h|⟨o,its,n,hk,hc,hs,hz,r⟩
 ·obtain ⟨z,its,r,p⟩:=h.ok I.hok;exact ⟨its,r,p,z⟩
 ·refine ⟨its.toList,r,⟨o,I.kIn a o hk,hc,n,by simpa using hs⟩,?_⟩;have e:=r.length;simp only [RL] at e;omega
theorem Inv.list_inj (I:Inv X pins σ H s) (h:SqL X.K H a xs) (h':SqL X.K H a ys):xs=ys:=by
 obtain ⟨its,r,⟨o,n,e,_,_,d⟩,_⟩:=I.list h;obtain ⟨its',r',⟨o',n',e',_,_,d'⟩,_⟩:=I.list h';rw [e] at e';cases e';rw [d] at d';injection d' with d1 _;have:its=its':=by simpa using Qy Array.toList d1
 subst this;exact r.inj r'
theorem Inv.tuple_inj (I:Inv X pins σ H s) (h:SqT X.K H a xs) (h':SqT X.K H a ys):xs=ys:=by
 obtain ⟨its,r,⟨o,e,_,n,d⟩,_⟩:=I.tuple h;obtain ⟨its',r',⟨o',e',_,n',d'⟩,_⟩:=I.tuple h';rw [e] at e';cases e';rw [d] at d';injection d' with d1 _;have:its=its':=by simpa using Qy Array.toList d1
 subst this;exact r.inj r'
end
section
variable {X:Cx} {pins:List (Addr×Obj)} {σ:St} {H:Hp} {s:Shared} {E:Value->Shared->Prop}
end
section
variable {X:Cx} {st:Stmt} {rest:List Stmt} {t u:TS} {e:Expr} {te:TE} {pos:Pos}
def Zb6:TS:=fun D σ H=>D.nx σ H
def ZaN (t u:TS):TS:=fun D σ H=>t { D with nx:=u D } σ H
theorem ZK:PSs X [] Zb6:=fun _ _ σ H _ I h=>GP ⟨σ,H,I,h⟩
theorem Zj (h1:PS X st t) (h2:PSs X rest u):PSs X (st::rest) (ZaN t u):=by
 intro pins s σ H D I h;refine wpAny_execs_cons (Zr (h1 pins s σ H { D with nx:=u D } I h) fun f s1 q=>?_);cases f with
 |next =>
  obtain ⟨σ',H',I',q⟩:=q;exact h2 pins s1 σ' H' D I' q
 |ret v=>exact q
 |brk=>exact q
 |cont=>exact q
theorem Zl (h1:PS X st t):PSs X [st] t:=by
 intro pins s σ H D I h;refine wpAny_execs_cons (Zr (h1 pins s σ H D I h) fun f s1 q=>?_);cases f with
 |next=>exact GP q
 |ret v=>exact q
 |brk=>exact q
 |cont=>exact q
theorem Inv.quiet {pins:List (Addr×Obj)} {σ:St} {H:Hp} {s:Shared} (I:Inv X pins σ H s):interactive X.env=false:=by simp [interactive,I.ok.kind]
def ZnA (te:TE):TS:=fun D σ H=>te σ H fun _ H1=>D.nx σ H1
theorem Yc (he:PE X e te) (hs:swapsWith e none pos.line X.env=pure false:=by rfl):PS X (.Expr e pos) (ZnA te):=by
 intro pins s σ H D I h;exact wpAny_Expr_any (Zr (he pins s σ H _ I h) fun v s1 ⟨x,H1,I1,r1,q1⟩=>⟨σ,H1,I1,q1⟩) I.quiet hs
def Ziv (te:TE):TS:=fun D σ H=>te σ H D.rt
theorem Zy (he:PE X e te):PS X (.Return (some e) pos) (Ziv te):=by
 intro pins s σ H D I h;exact wpAny_Return_some (Zr (he pins s σ H _ I h) fun v s1 ⟨x,H1,I1,r1,q1⟩=>⟨x,σ,H1,I1,r1,q1⟩)
def Znz (c:TT) (t u:TS):TS:=fun D σ H=>c σ H fun b H1=>if b=true then t D σ H1 else u D σ H1
theorem ZI {c:Expr} {a b:List Stmt} {tc:TT} (hc:PT X c tc) (ha:PSs X a t) (hb:PSs X b u):PS X (.If c a b pos) (Znz tc t u):=by
 intro pins s σ H D I h;refine wpAny_If (Zr (hc pins s σ H _ I h) fun d s1 ⟨H1,I1,q1⟩=>?_);cases d with
 |true=>exact ha pins s1 σ H1 D I1 q1
 |false=>exact hb pins s1 σ H1 D I1 q1
end
abbrev TG:=V->St->Hp->(St->Hp->Prop)->Prop
abbrev W3:=List V->St->Hp->(St->Hp->Prop)->Prop
def PG (X:Cx) (target:Expr) (t:TG):Prop :=
 ∀(pins:List (Addr×Obj)) (s:Shared) (σ:St) (H:Hp) (v:V) (u:Value) (Q:St->Hp->Prop),Inv X pins σ H s->RelV v u->t v σ H Q →
  wpAny (model X.prog X.w) X.A (assign target X.env u) (fun _ s'=>∃σ' H',Inv X pins σ' H' s'∧Q σ' H') X.xe s
def JJ (X:Cx) (ts:List Expr) (t:W3):Prop :=
 ∀(pins:List (Addr×Obj)) (s:Shared) (σ:St) (H:Hp) (vs:List V) (us:List Value) (Q:St->Hp->Prop),Inv X pins σ H s->Vals vs us->t vs σ H Q →
  wpAny (model X.prog X.w) X.A (assignInOrder ((assignEach ts X.env).map (·.2)) us) (fun _ s'=>∃σ' H',Inv X pins σ' H' s'∧Q σ' H') X.xe s
section
variable {X:Cx} {pos:Pos}
def ZX (i:Nat):TG:=fun v σ H Q=>Q (σ.set i (some v)) H
theorem ZW {i:Nat} {x:Str} (hN:X.N.Nodup) (hi:X.N[i]?=some x) (hx:JD X.env.scope x) (hf:X.fn x=true∨X.env.scope.names.lookup x=some .local:=by first|exact .inl rfl|exact .inr rfl|assumption):PG X (.Name x pos) (ZX i):=by
 intro pins s σ H v u Q I r h;exact wpAny_assign_Name (Je I hN hi hx r (fun s' I'=>⟨_,H,I',h⟩) hf)
noncomputable def ZlN:W3:=fun vs σ H Q=>vs=[]∧Q σ H
noncomputable def Zno (t:TG) (u:W3):W3:=fun vs σ H Q=>∃v r,vs=v::r∧t v σ H fun σ' H'=>u r σ' H' Q
theorem JI:JJ X [] ZlN:=by
 intro pins s σ H vs us Q I r h;obtain ⟨e,h⟩:=h;subst e;cases r;exact assignInOrder_nil ⟨σ,H,I,h⟩
theorem Wi {e:Expr} {es:List Expr} {t:TG} {u:W3} (h1:PG X e t) (h2:JJ X es u)
  (hs:(assignEach (e::es) X.env).map (·.2)=assign e X.env::(assignEach es X.env).map (·.2):=by rfl):JJ X (e::es) (Zno t u):=by
 intro pins s σ H vs us Q I r h;obtain ⟨v,vr,e1,h⟩:=h;subst e1;cases r with
 |cons r rr =>
  rw [hs];refine assignInOrder_cons (Zr (h1 pins s σ H _ _ _ I r h) fun _ s1 ⟨σ1,H1,I1,q1⟩=>?_);exact h2 pins s1 σ1 H1 _ _ Q I1 rr q1
def Zgh (K:W.Frag) (n:Nat) (t:W3):TG:=fun v σ H Q=>∃a xs,v=.ref a∧SqT K H a xs∧xs.length=n∧t xs σ H Q
theorem JM {es:List Expr} {k:Nat} {t:W3} {n:Nat} (hc:X.calm=true) (h:JJ X es t)
  (hn:(assignEach es X.env).length=n:=by rfl) (hst:(assignEach es X.env).findIdx? (·.1)=none:=by rfl):PG X (.Tuple es k pos) (Zgh X.K n t):=by
 intro pins s σ H v u Q I r hw;obtain ⟨a,xs,e1,hq,hl,hw⟩:=hw;subst e1;cases r;obtain ⟨its,rv,ht,hz⟩:=I.tuple hq;refine assign_Tuple_tuple (I.ok.hd hc) ht (by simp [hn,←hl,rv.length]) hst fun h' hx=>?_;have I1:Inv X pins σ H { s with heap:=h' }:=I.kept (t':=s.toks) fun b o e=>hx b o (Qt (Qg e)) e;exact h pins _ σ H xs _ Q I1 (by simpa using rv) hw
def Zbk (te:TE) (g:TG):TS:=fun D σ H=>te σ H fun x H1=>g x σ H1 D.nx
theorem Zw {i:Nat} {x:Str} {e:Expr} {te:TE} {pos':Pos} (hN:X.N.Nodup) (hi:X.N[i]?=some x) (hx:JD X.env.scope x) (he:PE X e te) (hs:swapsWith e (some (.Name x pos')) pos.line X.env=pure false:=by rfl) (hf:X.fn x=true∨X.env.scope.names.lookup x=some .local:=by first|exact .inl rfl|exact .inr rfl|assumption) :
  PS X (.Assign [.Name x pos'] e pos) (Zbk te (ZX i)):=by
 intro pins s σ H D I h;refine wpAny_Assign_Name (Zr (he pins s σ H _ I h) fun v s1 ⟨y,H1,I1,r1,q1⟩=>?_) hs;exact Je I1 hN hi hx r1 (fun s2 I2=>⟨_,H1,I2,q1⟩) hf
def ZhM (i j:Nat) (ta:TA):TS:=fun D σ H=>ta σ H fun vs H1=>∃v w,vs=[v,w]∧D.nx ((σ.set i (some v)).set j (some w)) H1
theorem Zk6 {i j:Nat} {x y:Str} {a b:Expr} {ta:TA} {px py pt:Pos} {kt k2 pt2} (hc:X.calm=true) (hN:X.N.Nodup) (hi:X.N[i]?=some x) (hj:X.N[j]?=some y) (hij:i≠j)
  (hx:X.env.scope.names.lookup x=some .local) (hy:X.env.scope.names.lookup y=some .local) (ha:PA X [a,b] ta)
  (hw:swappedStores [.Tuple [.Name x px,.Name y py] kt pt] (.Tuple [a,b] k2 pt2) X.env=pure (some [x,y]))
  (hs:swapsWithSole [.Tuple [.Name x px,.Name y py] kt pt] (.Tuple [a,b] k2 pt2) pos.line X.env=pure false:=by rfl) :
  PS X (.Assign [.Tuple [.Name x px,.Name y py] kt pt] (.Tuple [a,b] k2 pt2) pos) (ZhM i j ta):=by
 intro pins s σ H D I h;rw [exec_Assign_arm];refine Qb (wpAny_standAt ?_);rw [hs];refine Qb (Qe ?_);rw [Qa (by decide)];refine Qb (Tuple_ (Zr (ha _ pins s σ H _ I h) fun us s1 ⟨vs,H1,I1,r1,q1⟩=>?_));obtain ⟨v,w,e1,q1⟩:=q1;subst e1
 obtain ⟨u1,u2,rfl,rv,rw'⟩:∃u1 u2,us=[u1,u2]∧RelV v u1∧RelV w u2:=by
  cases r1 with
  |cons p q =>
   cases q with
   |cons p' q' =>
    cases q';exact ⟨_,_,rfl,p,p'⟩
 refine QM ?_ (by show 2≤sizeLine;decide);have I2:Inv X pins σ H1 { s1 with heap:=s1.heap.push { cls:=.type "tuple",data:=.seq [u1,u2].toArray } }:=I1.kept (t':=s1.toks) fun b o e=>Qi _ e;rw [hw];refine Qb (Qe ?_);show wpAny (model X.prog X.w) X.A (do rule "assign.swapped-stores";let items ←unpackItems (.ref s1.heap.objs.size) 2 none;assignInOrder [fun v=>bindName X.env y v,fun v=>bindName X.env x v] items.reverse;pure Flow.next) _ _ _;refine Qb (Rr (Qb (unpackItems_tuple (items:=#[u1,u2]) (I.ok.hd hc) (IsTup.new s1.heap _) fun h' hx'=>?_)));have I3:=I2.kept (h':=h') (t':=s1.toks) fun b o e=>hx' b o (Qt (Qg e)) e;show wpAny _ _ (assignInOrder [fun v=>bindName X.env y v,fun v=>bindName X.env x v] [u2,u1] >>= fun _=>pure Flow.next) _ _ _;refine Qb (assignInOrder_cons (wpAny_bindName (Je I3 hN hj (.inl hy) rw' (fun s2 I4=>?_) (.inr hy))));refine assignInOrder_cons (wpAny_bindName (Je I4 hN hi (.inl hx) rv (fun s3 I5=>assignInOrder_nil (Qe ?_)) (.inr hx)));rw [List.set_comm _ _ (QZ hij)] at I5;exact ⟨_,H1,I5,q1⟩
end
section
variable {X:Cx} {pos:Pos}
end
structure It where
 go:Nat->Hp->Prop
 yld:Nat->Hp->V->Hp->Prop
 stop:Nat->Hp->Prop
def XN (X:Cx) (pins:List (Addr×Obj)) (H:Hp) (b:Addr):Prop :=
 H b=none∧b≠X.env.locals∧b∉X.fs∧(b∈X.ex∨X.s₀.heap.objs.size≤b)∧(∀x c,X.env.cells.lookup x=some c->c≠b)∧∀p∈X.pn++pins,p.1≠b
theorem Inv.fpOk {X:Cx} {pins:List (Addr×Obj)} {σ:St} {H H':Hp} {s:Shared} {b:Addr} (I:Inv X pins σ H s) (hb:s.heap.objs.size≤b) (hn:H' b=none):XN X pins H' b:=by
 refine ⟨hn,Rj (Qz I.lt hb),I.nofs hb,.inr (Qo I.sz hb),fun x c e z=>?_,fun p hp z=>?_⟩
 ·obtain ⟨v,q⟩:=I.cell x c e;exact absurd (Qz q.lt (by rw [z];exact hb)) (QS _)
 ·exact absurd (Qz (Qg (I.pin p hp).1) (by rw [z];exact hb)) (QS _)
structure Turn (P:Program) (w:World) (K:W.Frag) (tg:Expr) (J:It) (fp:List Addr) (it:Addr) (tn:Nat->Heap->Prop):Prop where
 mem:it∈fp
 obj:∀i h,tn i h->∀b∈fp,∃o,h.get? b=some o∧∀v,o.data≠.cell v
 keep:∀i h h',tn i h->(∀b∈fp,∀o,h.get? b=some o->h'.get? b=some o)->tn i h'
 item:∀(X:Cx),X.prog=P->X.w=w->X.K=K->X.calm=true->∀(i:Nat) (pins:List (Addr×Obj)) (s:Shared) (σ:St) (H:Hp) (E:Value->Shared->Prop),Inv X pins σ H s->(∀b∈fp,XN X pins H b)->tn i s.heap->J.go i H →
  wpAny (model P w) X.A (pyNext (.ref it)) (fun r s1=>∃u,r=some u ∧
   wpAny (model P w) X.A (letOwnedTupleGo tg (.ref it) u) (fun _ s2=>∃x H',Inv X pins σ H' s2∧RelV x u∧J.yld i H x H'∧tn (i+1) s2.heap∧∀b∈fp,H' b=none) E s1) E s
 done:∀(X:Cx),X.prog=P->X.w=w->X.K=K->X.calm=true->∀(i:Nat) (pins:List (Addr×Obj)) (s:Shared) (σ:St) (H:Hp) (E:Value->Shared->Prop),Inv X pins σ H s->(∀b∈fp,XN X pins H b)->tn i s.heap->J.stop i H →
  wpAny (model P w) X.A (pyNext (.ref it)) (fun r s1=>r=none∧Inv X pins σ H s1) E s
 self:∀(A:Around) (i:Nat) (s:Shared) (Q:Value->Shared->Prop) (E:Value->Shared->Prop),tn i s.heap->Q (.ref it) s->wpAny (model P w) A (pyIter (.ref it)) Q E s
abbrev TI:=St->Hp->(It->Hp->Prop)->Prop
def PIE (X:Cx) (pins:List (Addr×Obj)) (σ:St) (tg:Expr) (R:It->Hp->Prop) (itv:Value) (s2:Shared):Prop :=
 ∃(it:Addr) (fp:List Addr) (tn:Nat->Heap->Prop) (J:It) (H':Hp),itv=.ref it∧Inv X pins σ H' s2∧Turn X.prog X.w X.K tg J fp it tn∧tn 0 s2.heap∧(∀b∈fp,XN X pins H' b)∧R J H'
def PI (X:Cx) (tg iter:Expr) (wi:TI):Prop :=
 ∀(pins:List (Addr×Obj)) (s:Shared) (σ:St) (H:Hp) (R:It->Hp->Prop),Inv X pins σ H s->wi σ H R →
  wpAny (model X.prog X.w) X.A (eval iter X.env) (fun v s1=>wpAny (model X.prog X.w) X.A (pyIter v) (PIE X pins σ tg R) X.xe s1) X.xe s
theorem Vr {M:Model} {A:Around} {E:Value->Shared->Prop} {s:Shared} {tg:Expr} {it:Addr} {u:Value} {o:Obj} {n:String} {vs:Array Value} {Q:Unit->Shared->Prop} (ho:s.heap.get? it=some o) (hc:o.cls=.type n) (hd:o.data=.fields vs)
  (hn:["enumerate","zip","dict_itemiterator","dict_reverseitemiterator","odict_iterator","itertools.zip_longest","itertools.pairwise"].contains n=false) (hQ:Q () s):wpAny M A (letOwnedTupleGo tg (.ref it) u) Q E s:=by
 unfold letOwnedTupleGo
 cases tg<;>first
  |exact Qe hQ
  | (cases u<;>first
    |exact Qe hQ
    | (refine Qb (wpAny_load ho ?_)
       rw [hc,hd];show wpAny M A (if (["enumerate","zip","dict_itemiterator","dict_reverseitemiterator","odict_iterator","itertools.zip_longest","itertools.pairwise"].contains n&&vs[0]?==some (rawInt _))=true then _ else _) Q E s;rw [Qa (by intro h;rw [hn,GQ] at h;cases h)];exact Qe hQ))
noncomputable def UX (K:W.Frag) (a:Addr):It :=
 ⟨fun i H=>∃xs x,SqL K H a xs∧xs[i]?=some x,fun i H x H'=>H'=H∧∀xs,SqL K H a xs->xs[i]?=some x,fun i H=>∃xs,SqL K H a xs∧xs.length≤i⟩
noncomputable def Jp (K:W.Frag) (a:Addr):It :=
 ⟨fun i H=>∃xs x,SqT K H a xs∧xs[i]?=some x,fun i H x H'=>H'=H∧∀xs,SqT K H a xs->xs[i]?=some x,fun i H=>∃xs,SqT K H a xs∧xs.length≤i⟩
noncomputable def VZ (lo:Int) (n:Nat):It:=⟨fun i _=>i<n,fun i H x H'=>H'=H∧x=.int (lo+i),fun i _=>n≤i⟩
theorem Zjn {P:Program} {w:World} {K:W.Frag} {tg:Expr} (a it:Addr):Turn P w K tg (UX K a) [it] it (fun i h=>h.IsListIter it a i) where
 mem:=by simp
 obj:=fun i h st b hb=>by
  have e:b=it:=by simpa using hb
  subst e;obtain ⟨o,e,c,d⟩:=st;exact ⟨o,e,fun v z=>by rw [d] at z;cases z⟩
 keep:=fun i h h' st k=>st.at fun o e=>k it (by simp) o e
 item:=by
  intro X hP hw hK hc i pins s σ H E I hf st hg;subst hP hw hK;obtain ⟨xs,x,hq,hx⟩:=hg;obtain ⟨its,rv,p,hz⟩:=I.list hq;obtain ⟨u,hu,ru⟩:=rv.get hx;obtain ⟨f0,f1,f2,f3,f4,f5⟩:=hf it (by simp);refine wpAny_pyNext_list_item st p.isList (x:=u) (by simpa using hu) fun h' st' sb=>?_;have I1:Inv X pins σ H { s with heap:=h' }:=I.turned (t':=s.toks) (fun b o hb e=>(sb.2 b hb).trans e) f0 f1 f3 f4 f5;obtain ⟨o,e,c,d⟩:=id st';exact ⟨u,rfl,Vr (s:={ s with heap:=h' }) e c d (by decide) ⟨x,H,I1,ru,⟨rfl,fun ys hy=>by rw [I.list_inj hy hq];exact hx⟩,st',fun b hb=>(hf b hb).1⟩⟩
 done:=by
  intro X hP hw hK hc i pins s σ H E I hf st hg;subst hP hw hK;obtain ⟨xs,hq,hx⟩:=hg;obtain ⟨its,rv,p,hz⟩:=I.list hq;obtain ⟨f0,f1,f2,f3,f4,f5⟩:=hf it (by simp);have hl:=rv.length;exact wpAny_pyNext_list_end (I.ok.hd hc) st p.isList (by simp;omega) fun h' eb=>⟨rfl,I.turned (t':=s.toks) (fun b o hb e=>eb b o hb e) f0 f1 f3 f4 f5⟩
 self:=fun _ _ _ _ _ st h=>wpAny_pyIter_listiter st h
theorem Zjf {P:Program} {w:World} {K:W.Frag} {tg:Expr} (a it:Addr):Turn P w K tg (Jp K a) [it] it (fun i h=>h.IsTupleIter it a i) where
 mem:=by simp
 obj:=fun i h st b hb=>by
  have e:b=it:=by simpa using hb
  subst e;obtain ⟨o,e,c,d⟩:=st;exact ⟨o,e,fun v z=>by rw [d] at z;cases z⟩
 keep:=fun i h h' st k=>st.at fun o e=>k it (by simp) o e
 item:=by
  intro X hP hw hK hc i pins s σ H E I hf st hg;subst hP hw hK;obtain ⟨xs,x,hq,hx⟩:=hg;obtain ⟨its,rv,p,hz⟩:=I.tuple hq;obtain ⟨u,hu,ru⟩:=rv.get hx;obtain ⟨f0,f1,f2,f3,f4,f5⟩:=hf it (by simp);refine wpAny_pyNext_tuple_item st (show s.heap.IsTuple a its.toArray from p) (x:=u) (by simpa using hu) fun h' st' sb=>?_;have I1:Inv X pins σ H { s with heap:=h' }:=I.turned (t':=s.toks) (fun b o hb e=>(sb.2 b hb).trans e) f0 f1 f3 f4 f5;obtain ⟨o,e,c,d⟩:=id st';exact ⟨u,rfl,Vr (s:={ s with heap:=h' }) e c d (by decide) ⟨x,H,I1,ru,⟨rfl,fun ys hy=>by rw [I.tuple_inj hy hq];exact hx⟩,st',fun b hb=>(hf b hb).1⟩⟩
 done:=by
  intro X hP hw hK hc i pins s σ H E I hf st hg;subst hP hw hK;obtain ⟨xs,hq,hx⟩:=hg;obtain ⟨its,rv,p,hz⟩:=I.tuple hq;obtain ⟨f0,f1,f2,f3,f4,f5⟩:=hf it (by simp);have hl:=rv.length;exact wpAny_pyNext_tuple_end (I.ok.hd hc) st (show s.heap.IsTuple a its.toArray from p) (by simp;omega) fun h' eb=>⟨rfl,I.turned (t':=s.toks) (fun b o hb e=>eb b o hb e) f0 f1 f3 f4 f5⟩
 self:=fun _ _ _ _ _ st h=>wpAny_pyIter_tupleiter st h
theorem Zid {P:Program} {w:World} {K:PySem.W.Frag} {tg:Expr} (it:Addr) (lo:Int) (n:Nat):Turn P w K tg (VZ lo n) [it] it (fun i h=>IsRangeIter h it (lo+(i:Nat)*1) ((n:Int)-(i:Nat)) 1) where
 mem:=by simp
 obj:=fun i h st b hb=>by
  have e:b=it:=by simpa using hb
  subst e
  exact ⟨_,st,fun v z=>by
   have z':Data.fields _=Data.cell v:=z;cases z'⟩
 keep:=fun i h h' st k=>k it (by simp) _ st
 item:=by
  intro X hP hw hK hc i pins s σ H E I hf st hg;subst hP hw hK;obtain ⟨f0,f1,f2,f3,f4,f5⟩:=hf it (by simp);have W:=Walks.range (prog:=X.prog) (w:=X.w) (I.ok.hd hc) it lo 1 n;refine W.item i s _ _ hg st fun v h' tk hv st' kk=>?_;obtain ⟨t,rfl⟩:=hv;have I1:Inv X pins σ H { s with heap:=h',toks:=tk }:=I.turned (fun b o hb e=>kk b o (by simpa using hb) e) f0 f1 f3 f4 f5;refine ⟨_,rfl,Vr (s:={ s with heap:=h',toks:=tk }) (n:="range_iterator") st' rfl rfl (by decide) ⟨.int (lo+i),H,I1,⟨t,?_⟩,⟨rfl,rfl⟩,st',fun b hb=>(hf b hb).1⟩⟩;rw [Int.mul_one]
 done:=by
  intro X hP hw hK hc i pins s σ H E I hf st hg;subst hP hw hK;obtain ⟨f0,f1,f2,f3,f4,f5⟩:=hf it (by simp);exact wpAny_pyNext_range_end (I.ok.hd hc) st (by have:n≤i:=hg;omega) fun h' eb=>⟨rfl,I.turned (t':=s.toks) (fun b o hb e=>eb b o hb e) f0 f1 f3 f4 f5⟩
 self:=fun _ _ _ _ _ st h=>wpAny_pyIter_rangeiter st h
section
variable {X:Cx} {tg:Expr}
def Zit (K:W.Frag) (tl:TE):TI:=fun σ H R=>tl σ H fun x H1=>∃a,x=.ref a∧(∃xs,SqL K H1 a xs)∧R (UX K a) H1
def Zmv (K:W.Frag) (tl:TE):TI:=fun σ H R=>tl σ H fun x H1=>∃a,x=.ref a∧(∃xs,SqT K H1 a xs)∧R (Jp K a) H1
theorem Xa {l:Expr} {tl:TE} (hl:PE X l tl):PI X tg l (Zit X.K tl):=by
 intro pins s σ H R I h;refine Zr (hl pins s σ H _ I h) fun v s1 ⟨x,H1,I1,r1,q1⟩=>?_;obtain ⟨a,e,⟨xs,hq⟩,q⟩:=q1;subst e;cases r1;obtain ⟨its,rv,p,hz⟩:=I1.list hq;refine wpAny_pyIter_list p.isList ?_;refine ⟨s1.heap.objs.size,[s1.heap.objs.size],_,_,H1,rfl,I1.kept (t':=s1.toks) fun b o e=>Qi _ e,Zjn a _,⟨_,Ql _ rfl,rfl,rfl⟩,fun b hb=>?_,q⟩;have e:b=s1.heap.objs.size:=by simpa using hb
 subst e;exact I1.fpOk (Qf _) (I1.hok.fresh (Qf _))
theorem Ju {l:Expr} {tl:TE} (hl:PE X l tl):PI X tg l (Zmv X.K tl):=by
 intro pins s σ H R I h;refine Zr (hl pins s σ H _ I h) fun v s1 ⟨x,H1,I1,r1,q1⟩=>?_;obtain ⟨a,e,⟨xs,hq⟩,q⟩:=q1;subst e;cases r1;obtain ⟨its,rv,p,hz⟩:=I1.tuple hq;refine Go (show s1.heap.IsTuple a its.toArray from p) ?_;refine ⟨s1.heap.objs.size,[s1.heap.objs.size],_,_,H1,rfl,I1.kept (t':=s1.toks) fun b o e=>Qi _ e,Zjf a _,⟨_,Ql _ rfl,rfl,rfl⟩,fun b hb=>?_,q⟩;have e:b=s1.heap.objs.size:=by simpa using hb
 subst e;exact I1.fpOk (Qf _) (I1.hok.fresh (Qf _))
theorem Zhx {pins:List (Addr×Obj)} {σ:St} {H:Hp} {s:Shared} {R:It->Hp->Prop} {E:Value->Shared->Prop} {lo hi:Int} {t u v:Tok} {tk:Nat} (I:Inv X pins σ H s) (h1:-(2 ^ 62)≤lo) (h2:lo<2 ^ 62) (h3:-(2 ^ 62)≤hi) (h4:hi<2 ^ 62)
  (q:R (VZ lo (hi-lo).toNat) H):wpAny (model X.prog X.w) X.A (pyIter (.ref s.heap.objs.size)) (PIE X pins σ tg R) E { s with heap:=s.heap.push { cls:=.type "range",data:=.fields #[.int lo t,.int hi u,.int 1 v] },toks:=tk }:=by
 refine wpAny_pyIter_range (IsRange.new ..) (small_one h1 h2 h3 h4) ?_;have I1:Inv X pins σ H { s with heap:=s.heap.push { cls:=.type "range",data:=.fields #[.int lo t,.int hi u,.int 1 v] },toks:=tk }:=I.kept fun b o e=>Qi _ e
 refine ⟨(s.heap.push { cls:=.type "range",data:=.fields #[.int lo t,.int hi u,.int 1 v] }).objs.size,[(s.heap.push { cls:=.type "range",data:=.fields #[.int lo t,.int hi u,.int 1 v] }).objs.size],_,_,H,rfl,
  I1.kept (t':=tk) fun b o e=>Qi _ e,Zid _ lo (hi-lo).toNat,?_,fun b hb=>?_,q⟩
 ·have e1:lo+((0:Nat):Int)*1=lo:=by simp
  have e2:(((hi-lo).toNat:Nat):Int)-((0:Nat):Int)=Builtin.Range.rangeSize lo hi 1:=by rw [rangeSize_one];split<;>omega
  show IsRangeIter _ _ (lo+((0:Nat):Int)*1) ((((hi-lo).toNat:Nat):Int)-((0:Nat):Int)) 1;rw [e1,e2];exact Ql _ rfl
 ·have e:b=(s.heap.push { cls:=.type "range",data:=.fields #[.int lo t,.int hi u,.int 1 v] }).objs.size:=by simpa using hb
  subst e;exact I1.fpOk (Qf _) (I1.hok.fresh (Qf _))
def ZlW (ta:TA):TI:=fun σ H R=>ta σ H fun vs H1=>∃j:Int,vs=[.int j]∧-(2 ^ 62)≤j∧j<2 ^ 62∧R (VZ 0 j.toNat) H1
def ZkV (ta:TA):TI:=fun σ H R=>ta σ H fun vs H1=>∃i j:Int,vs=[.int i,.int j]∧(-(2 ^ 62)≤i∧i<2 ^ 62∧-(2 ^ 62)≤j∧j<2 ^ 62)∧R (VZ i (j-i).toNat) H1
theorem Vn {a:Expr} {ta:TA} {p pos:Pos} (hg:Gl X "range") (hm:X.mg "range"=none) (ha:PA X [a] ta) (hs:starEach [a] X.env=[(false,eval a X.env)]:=by rfl):PI X tg (.Call (.Name "range" p) [a] [] pos) (ZlW ta):=by
 intro pins s σ H R I h;refine Call_ (Wn I hg hm boot_range (RM (Zr (ha pos pins s σ H _ I h) fun us s1 ⟨vs,H1,I1,r1,q1⟩=>?_) hs rfl));obtain ⟨j,e,q1,q2,q⟩:=q1;subst e;cases r1 with
 |cons r rr =>
  cases rr;obtain ⟨t,rfl⟩:=r;exact call_range_1 (Zhx I1 (by omega) (by omega) q1 q2 (by simpa using q))
theorem ZnP {a b:Expr} {ta:TA} {p pos:Pos} (hg:Gl X "range") (hm:X.mg "range"=none) (ha:PA X [a,b] ta) (hs:starEach [a,b] X.env=[(false,eval a X.env),(false,eval b X.env)]:=by rfl) (hs2:starEach [b] X.env=[(false,eval b X.env)]:=by rfl) :
  PI X tg (.Call (.Name "range" p) [a,b] [] pos) (ZkV ta):=by
 intro pins s σ H R I h;refine Call_ (Wn I hg hm boot_range (RM (Zr (ha pos pins s σ H _ I h) fun us s1 ⟨vs,H1,I1,r1,q1⟩=>?_) (by rw [hs,hs2]) (by rw [hs2];rfl)));obtain ⟨i,j,e,⟨q1,q2,q3,q4⟩,q⟩:=q1;subst e;cases r1 with
 |cons r rr =>
  cases rr with
  |cons r' rr =>
   cases rr;obtain ⟨t,rfl⟩:=r;obtain ⟨t',rfl⟩:=r';exact call_range_2 (Zhx I1 q1 q2 q3 q4 q)
def ZnF (wi:TI) (g:TG) (tb:TS):TS:=fun D σ H=>wi σ H fun J H1=>∃W:Nat->Nat->St->Hp->Prop,(∃m,W 0 m σ H1)∧∀i m σ H,W i m σ H →
 (J.stop i H∧D.nx σ H)∨(J.go i H∧∃N:St->Hp->Prop,(∀σ' H',N σ' H'->∃m',m'<m∧W (i+1) m' σ' H')∧∀x H',J.yld i H x H'->g x σ H' fun σ2 H2=>tb { D with nx:=N,ct:=N,bk:=D.nx } σ2 H2)
noncomputable def JC (fp:List Addr) (h:Heap):List (Addr×Obj):=fp.filterMap fun b=>(h.get? b).map fun o=>(b,o)
theorem Zas {fp:List Addr} {h:Heap} {b:Addr} {o:Obj} (hb:b∈fp) (e:h.get? b=some o):(b,o)∈JC fp h:=Rs.mpr ⟨b,hb,by rw [e];rfl⟩
theorem Zox {fp:List Addr} {h:Heap} {p:Addr×Obj} (hp:p∈JC fp h):p.1∈fp∧h.get? p.1=some p.2:=by
 obtain ⟨b,hb,e⟩:=Rs.mp hp;cases q:h.get? b with
 |none=>rw [q] at e;cases e
 |some o =>
  rw [q] at e;have e':(b,o)=p:=Qn e;subst e';exact ⟨hb,q⟩
theorem Inv.pinned {pins:List (Addr×Obj)} {σ:St} {H:Hp} {s:Shared} {fp:List Addr} (I:Inv X pins σ H s) (hf:∀b∈fp,XN X pins H b) (ho:∀b∈fp,∃o,s.heap.get? b=some o∧∀v,o.data≠.cell v):Inv X (pins++JC fp s.heap) σ H s :=
 I.pins_of fun p hp=>(Qq.mp hp).elim (fun z=>I.pin p (Rk _ z)) fun z=>by
  obtain ⟨hb,e⟩:=Zox z;obtain ⟨f0,f1,f2,_⟩:=hf p.1 hb;obtain ⟨o,e',d⟩:=ho p.1 hb;rw [e] at e';cases e';exact ⟨e,f0,f1,f2,d⟩
theorem Inv.unpinned {pins pl:List (Addr×Obj)} {σ:St} {H:Hp} {s:Shared} (I:Inv X (pins++pl) σ H s):Inv X pins σ H s:=I.pins_of fun p hp=>I.pin p (Rk _ (Rq _ hp))
theorem Yv {iter:Expr} {body:List Stmt} {wi:TI} {g:TG} {tb:TS} {pos:Pos} (hp:PassesOwn (model X.prog X.w) X.A X.env X.xe) (hc:X.calm=true) (hi:PI X tg iter wi) (hg:PG X tg g) (hb:PSs X body tb)
  (hs:∀x,foldedSetIterable iter X.env x=pure x:=by intro _;rfl):PS X (.For tg iter body [] pos) (ZnF wi g tb):=by
 intro pins s σ H D I h;refine wpAny_For (Zr (hi pins s σ H _ I h) fun v s1 h1=>Zr h1 fun itv s2 h2=>?_) hs;obtain ⟨it,fp,tn,J,H2,e,I2,T,st2,f2,W,⟨m0,w0⟩,turn⟩:=h2;subst e;have stat:∀{H':Hp},(∀b∈fp,H' b=none)->∀b∈fp,XN X pins H' b:=fun hn b hb=>⟨hn b hb,(f2 b hb).2⟩;refine codeAny_forLoop_any (fun n s'=>∃i σ' H',Inv X pins σ' H' s'∧tn i s'.heap∧(∀b∈fp,H' b=none)∧W i n σ' H') ?_ m0 ⟨0,σ,H2,I2,st2,fun b hb=>(f2 b hb).1,w0⟩;rintro n s3 ⟨i,σ3,H3,I3,st3,fr3,w3⟩;rcases turn i n σ3 H3 w3 with ⟨stop,qn⟩|⟨go,N,hN,step⟩
 ·refine Gp hp (Zr (T.done X rfl rfl rfl hc i pins s3 σ3 H3 X.xe I3 (stat fr3) st3 stop) fun r s4 ⟨hr,I4⟩=>?_);subst hr;exact GP ⟨σ3,H3,I4,qn⟩
 ·refine Gp hp (Zr (T.item X rfl rfl rfl hc i pins s3 σ3 H3 X.xe I3 (stat fr3) st3 go) fun r s4 ⟨u,hr,h4⟩=>?_);subst hr;refine Gp hp (Zr h4 fun _ s5 ⟨x,H5,I5,r5,y5,st5,fr5⟩=>?_);have I5':=I5.pinned (stat fr5) (T.obj _ _ st5);refine Gp hp (Zr (hg _ s5 σ3 H5 x u _ I5' r5 (step x H5 y5)) fun _ s6 ⟨σ6,H6,I6,q6⟩=>?_);refine Gp hp (Zr (hb _ s6 σ6 H6 _ I6 q6) fun f s7 q7=>?_)
  have again:∀{σ7:St} {H7:Hp},Inv X (pins++JC fp s5.heap) σ7 H7 s7->N σ7 H7->∃m,m<n∧∃i σ' H',Inv X pins σ' H' s7∧tn i s7.heap∧(∀b∈fp,H' b=none)∧W i m σ' H':=fun {σ7 H7} I7 n7=>by
   obtain ⟨m',hm,w7⟩:=hN σ7 H7 n7;refine ⟨m',hm,i+1,σ7,H7,I7.unpinned,T.keep _ _ _ st5 fun b hb o e=>(I7.pin (b,o) (Rk _ (Rk _ (Zas hb e)))).1,fun b hb=>?_,w7⟩;obtain ⟨o,e,d⟩:=T.obj _ _ st5 b hb;exact (I7.pin (b,o) (Rk _ (Rk _ (Zas hb e)))).2.1
  cases f with
  |next=>obtain ⟨σ7,H7,I7,n7⟩:=q7;exact again I7 n7
  |cont=>obtain ⟨σ7,H7,I7,n7⟩:=q7;exact again I7 n7
  |brk=>obtain ⟨σ7,H7,I7,q7⟩:=q7;exact ⟨σ7,H7,I7.unpinned,q7⟩
  |ret v=>obtain ⟨x7,σ7,H7,I7,r7,q7⟩:=q7;exact ⟨x7,σ7,H7,I7.unpinned,r7,q7⟩
end
theorem Wp {K:PySem.W.Frag} {a:Addr} {xs:List V} {g:TG} {tb:TS} {D:Ends} {σ:St} {H:Hp} (Pv:Nat->St->Hp->Prop) (h0:Pv 0 σ H) (hl:∀i σ H,i≤xs.length->Pv i σ H->SqL K H a xs)
  (hs:∀i x σ H,xs[i]?=some x->Pv i σ H->g x σ H fun σ2 H2=>tb { D with nx:=Pv (i+1),ct:=Pv (i+1),bk:=D.nx } σ2 H2) (hd:∀σ H,Pv xs.length σ H->D.nx σ H) :
  ∃W:Nat->Nat->St->Hp->Prop,(∃m,W 0 m σ H)∧∀i m σ H,W i m σ H →
   ((UX K a).stop i H∧D.nx σ H)∨((UX K a).go i H∧∃N:St->Hp->Prop,(∀σ' H',N σ' H'->∃m',m'<m∧W (i+1) m' σ' H')∧∀x H',(UX K a).yld i H x H'->g x σ H' fun σ2 H2=>tb { D with nx:=N,ct:=N,bk:=D.nx } σ2 H2):=by
 refine ⟨fun i m σ H=>m=xs.length-i∧i≤xs.length∧Pv i σ H,⟨xs.length,by simp,QJ _,h0⟩,?_⟩;rintro i m σ H ⟨rfl,hi,p⟩;have q:=hl i σ H hi p;by_cases hlt:i<xs.length
 ·refine .inr ⟨⟨xs,xs[i],q,by simp [hlt]⟩,Pv (i+1),fun σ' H' p'=>⟨xs.length-(i+1),by omega,rfl,hlt,p'⟩,fun x H' y=>?_⟩;obtain ⟨e,y⟩:=y;subst e;exact hs i x σ _ (y xs q) p
 ·have e:i=xs.length:=by omega
  subst e;exact .inl ⟨⟨xs,q,Qf _⟩,hd σ H p⟩
theorem Zbl {K:PySem.W.Frag} {a:Addr} {xs:List V} {g:TG} {tb:TS} {D:Ends} {σ:St} {H:Hp} (Pv:Nat->St->Hp->Prop) (h0:Pv 0 σ H) (hl:∀i σ H,i≤xs.length->Pv i σ H->SqT K H a xs)
  (hs:∀i x σ H,xs[i]?=some x->Pv i σ H->g x σ H fun σ2 H2=>tb { D with nx:=Pv (i+1),ct:=Pv (i+1),bk:=D.nx } σ2 H2) (hd:∀σ H,Pv xs.length σ H->D.nx σ H) :
  ∃W:Nat->Nat->St->Hp->Prop,(∃m,W 0 m σ H)∧∀i m σ H,W i m σ H →
   ((Jp K a).stop i H∧D.nx σ H)∨((Jp K a).go i H∧∃N:St->Hp->Prop,(∀σ' H',N σ' H'->∃m',m'<m∧W (i+1) m' σ' H')∧∀x H',(Jp K a).yld i H x H'->g x σ H' fun σ2 H2=>tb { D with nx:=N,ct:=N,bk:=D.nx } σ2 H2):=by
 refine ⟨fun i m σ H=>m=xs.length-i∧i≤xs.length∧Pv i σ H,⟨xs.length,by simp,QJ _,h0⟩,?_⟩;rintro i m σ H ⟨rfl,hi,p⟩;have q:=hl i σ H hi p;by_cases hlt:i<xs.length
 ·refine .inr ⟨⟨xs,xs[i],q,by simp [hlt]⟩,Pv (i+1),fun σ' H' p'=>⟨xs.length-(i+1),by omega,rfl,hlt,p'⟩,fun x H' y=>?_⟩;obtain ⟨e,y⟩:=y;subst e;exact hs i x σ _ (y xs q) p
 ·have e:i=xs.length:=by omega
  subst e;exact .inl ⟨⟨xs,q,Qf _⟩,hd σ H p⟩
theorem VU {lo:Int} {n:Nat} {g:TG} {tb:TS} {D:Ends} {σ:St} {H:Hp} (Pv:Nat->St->Hp->Prop) (h0:Pv 0 σ H)
  (hs:∀i σ H,i<n->Pv i σ H->g (.int (lo+i)) σ H fun σ2 H2=>tb { D with nx:=Pv (i+1),ct:=Pv (i+1),bk:=D.nx } σ2 H2) (hd:∀σ H,Pv n σ H->D.nx σ H) :
  ∃W:Nat->Nat->St->Hp->Prop,(∃m,W 0 m σ H)∧∀i m σ H,W i m σ H →
   ((VZ lo n).stop i H∧D.nx σ H)∨((VZ lo n).go i H∧∃N:St->Hp->Prop,(∀σ' H',N σ' H'->∃m',m'<m∧W (i+1) m' σ' H')∧∀x H',(VZ lo n).yld i H x H'->g x σ H' fun σ2 H2=>tb { D with nx:=N,ct:=N,bk:=D.nx } σ2 H2):=by
 refine ⟨fun i m σ H=>m=n-i∧i≤n∧Pv i σ H,⟨n,by simp,QJ _,h0⟩,?_⟩;rintro i m σ H ⟨rfl,hi,p⟩;by_cases hlt:i<n
 ·refine .inr ⟨hlt,Pv (i+1),fun σ' H' p'=>⟨n-(i+1),by omega,rfl,hlt,p'⟩,fun x H' y=>?_⟩;obtain ⟨e,y⟩:=y;subst e y;exact hs i σ _ hlt p
 ·have e:i=n:=by omega
  subst e;exact .inl ⟨Qf _,hd σ H p⟩
abbrev R2:=V->V->Hp->VK->Prop
def Yq (X:Cx) (f:Value->Value->Sem Value) (r:R2):Prop :=
 ∀(pins:List (Addr×Obj)) (s:Shared) (σ:St) (H:Hp) (x y:V) (v u:Value) (Q:VK),Inv X pins σ H s->RelV x v->RelV y u->r x y H Q →
  wpAny (model X.prog X.w) X.A (f v u) (EP X pins σ Q) X.xe s
def UnR (X:Cx) (f:Value->Sem Value) (r:V->Hp->VK->Prop):Prop :=
 ∀(pins:List (Addr×Obj)) (s:Shared) (σ:St) (H:Hp) (x:V) (v:Value) (Q:VK),Inv X pins σ H s->RelV x v->r x H Q →
  wpAny (model X.prog X.w) X.A (f v) (EP X pins σ Q) X.xe s
def YG (X:Cx) (f:Value) (r:List V->Hp->VK->Prop):Prop :=
 ∀(pins:List (Addr×Obj)) (s:Shared) (σ:St) (H:Hp) (xs:List V) (us:List Value) (Q:VK),Inv X pins σ H s->Vals xs us->r xs H Q →
  wpAny (model X.prog X.w) X.A (call f us) (EP X pins σ Q) X.xe s
def tOp (r:R2) (ta tb:TE):TE:=fun σ H Q=>ta σ H fun x H1=>tb σ H1 fun y H2=>r x y H2 Q
def tUn (r:V->Hp->VK->Prop) (ta:TE):TE:=fun σ H Q=>ta σ H fun x H1=>r x H1 Q
def rI (C:Int->Int->Prop) (g:Int->Int->V):R2:=fun x y H Q=>∃i j,x=.int i∧y=.int j∧C i j∧Q (g i j) H
def WZ (g:Int->Int->V):R2:=fun x y H Q=>∃i j,x=.int i∧y=.int j∧Q (g i j) H
def rU (g:Int->V):V->Hp->VK->Prop:=fun x H Q=>∃i,x=.int i∧Q (g i) H
section
variable {X:Cx} {a b c:Expr} {ta tb tc:TE} {pos:Pos}
theorem ZdQ (ha:PE X a ta) (hb:PE X b tb) {pins:List (Addr×Obj)} {s:Shared} {σ:St} {H:Hp} {R:V->V->Hp->Prop} (I:Inv X pins σ H s)
  (h:ta σ H fun x H1=>tb σ H1 fun y H2=>R x y H2) {Q:Value->Shared->Prop} {f:Value->Value->Sem Value}
  (hf:∀v u s2 x y H2,Inv X pins σ H2 s2->RelV x v->RelV y u->R x y H2->wpAny (model X.prog X.w) X.A (f v u) Q X.xe s2) :
  wpAny (model X.prog X.w) X.A (eval a X.env) (fun v s₁=>wpAny (model X.prog X.w) X.A (eval b X.env) (fun u s₂=>wpAny (model X.prog X.w) X.A (f v u) Q X.xe s₂) X.xe s₁) X.xe s:=by
 refine Zr (ha pins s σ H _ I h) fun v s1 ⟨x,H1,I1,r1,q1⟩=>?_;refine Zr (hb pins s1 σ H1 _ I1 q1) fun u s2 ⟨y,H2,I2,r2,q2⟩=>?_;exact hf v u s2 x y H2 I2 r1 r2 q2
theorem Zn {op:Operator} {r:R2} (ho:Yq X (binaryOp op) r) (ha:PE X a ta) (hb:PE X b tb):PE X (.BinOp a op b pos) (tOp r ta tb):=by
 intro pins s σ H Q I h;exact wpAny_BinOp (ZdQ ha hb I h fun v u s2 x y H2 I2 rx ry q=>ho pins s2 σ H2 x y v u Q I2 rx ry q)
theorem Jw {op:UnaryOp} {r:V->Hp->VK->Prop} (ho:UnR X (unaryOp op) r) (ha:PE X a ta):PE X (.UnaryOp op a pos) (tUn r ta):=by
 intro pins s σ H Q I h;exact UnaryOp_ (Zr (ha pins s σ H _ I h) fun v s1 ⟨x,H1,I1,r1,q1⟩=>ho pins s1 σ H1 x v Q I1 r1 q1)
theorem JV {f:Value->Value->Sem Value} {C:Int->Int->Prop} {g:Int->Int->Int}
  (rule:∀(i j:Int) (t u:Tok) (s:Shared) (Q:Value->Shared->Prop) (E:Value->Shared->Prop),C i j->Q (.int (g i j) s.toks) { s with toks:=s.toks+1 }->wpAny (model X.prog X.w) X.A (f (.int i t) (.int j u)) Q E s) :
  Yq X f (rI C fun i j=>.int (g i j)):=by
 intro pins s σ H x y v u Q I rx ry h;obtain ⟨i,j,rfl,rfl,hc,q⟩:=h;obtain ⟨t,rfl⟩:=rx;obtain ⟨t',rfl⟩:=ry;exact rule i j t t' s _ _ hc ⟨.int (g i j),H,I.tok _,⟨_,rfl⟩,q⟩
theorem ZgD {f:Value->Value->Sem Value} {g:Int->Int->Int}
  (rule:∀(i j:Int) (t u:Tok) (s:Shared) (Q:Value->Shared->Prop) (E:Value->Shared->Prop),Q (.int (g i j) s.toks) { s with toks:=s.toks+1 }->wpAny (model X.prog X.w) X.A (f (.int i t) (.int j u)) Q E s) :
  Yq X f (WZ fun i j=>.int (g i j)):=by
 intro pins s σ H x y v u Q I rx ry h;obtain ⟨i,j,rfl,rfl,q⟩:=h;obtain ⟨t,rfl⟩:=rx;obtain ⟨t',rfl⟩:=ry;exact rule i j t t' s _ _ ⟨.int (g i j),H,I.tok _,⟨_,rfl⟩,q⟩
theorem ZaQ {f:Value->Value->Sem Value} {g:Int->Int->Bool}
  (rule:∀(i j:Int) (t u:Tok) (s:Shared) (Q:Value->Shared->Prop) (E:Value->Shared->Prop),Q (.bool (g i j)) s->wpAny (model X.prog X.w) X.A (f (.int i t) (.int j u)) Q E s) :
  Yq X f (WZ fun i j=>.bl (g i j)):=by
 intro pins s σ H x y v u Q I rx ry h;obtain ⟨i,j,rfl,rfl,q⟩:=h;obtain ⟨t,rfl⟩:=rx;obtain ⟨t',rfl⟩:=ry;exact rule i j t t' s _ _ ⟨.bl (g i j),H,I,rfl,q⟩
def W4 (i j:Int):Prop:=0≤j∧j≤1000000∧i.natAbs<2 ^ 64
def CMul (i j:Int):Prop:=(-(2 ^ 64)<i∧i<2 ^ 64)∨(-(2 ^ 64)<j∧j<2 ^ 64)
theorem CMul.ok {i j:Int} (h:CMul i j):IntMulOk i j:=by
 rcases h with ⟨h1,h2⟩|⟨h1,h2⟩
 ·exact .of_left (intBits_le_64 h1 h2)
 ·exact .of_right (intBits_le_64 h1 h2)
theorem YE:Yq X (binaryOp .Add) (WZ fun i j=>.int (i+j)):=ZgD fun _ _ _ _ _ _ _ q=>add_int q
theorem JP:Yq X (binaryOp .Sub) (WZ fun i j=>.int (i-j)):=ZgD fun _ _ _ _ _ _ _ q=>sub_int q
theorem Xz:Yq X (binaryOp .Mult) (rI CMul fun i j=>.int (i*j)):=JV fun _ _ _ _ _ _ _ hc q=>mul_int q hc.ok
theorem Z8:Yq X (binaryOp .Mod) (rI (fun _ j=>j≠0) fun i j=>.int (i.fmod j)):=JV fun _ _ _ _ _ _ _ hc q=>mod_int' hc q
theorem XV:Yq X (binaryOp .Pow) (rI W4 fun i j=>.int (i ^ j.toNat)):=JV fun _ _ _ _ _ _ _ hc q=>pow_int_small hc.1 hc.2.1 hc.2.2 q
theorem unI {f:Value->Sem Value} {g:Int->Int}
  (rule:∀(i:Int) (t:Tok) (s:Shared) (Q:Value->Shared->Prop) (E:Value->Shared->Prop),Q (.int (g i) s.toks) { s with toks:=s.toks+1 }->wpAny (model X.prog X.w) X.A (f (.int i t)) Q E s) :
  UnR X f (rU fun i=>.int (g i)):=by
 intro pins s σ H x v Q I rx h;obtain ⟨i,rfl,q⟩:=h;obtain ⟨t,rfl⟩:=rx;exact rule i t s _ _ ⟨.int (g i),H,I.tok _,⟨_,rfl⟩,q⟩
theorem U7:UnR X (unaryOp .USub) (rU fun i=>.int (-i)):=unI fun _ _ _ _ _ q=>neg_int q
end
noncomputable def ZgN:V->V->Bool
 |.non,.non=>true|.non,.int _=>true|.int _,.non=>true|.non,.bl _=>true|.bl _,.non=>true|.non,.str _=>true|.str _,.non=>true
 |.int _,.int _=>true|.bl _,.bl _=>true|.str _,.str _=>true|.byt _,.byt _=>true
 |.int _,.str _=>true|.str _,.int _=>true|.bl _,.str _=>true|.str _,.bl _=>true
 |_,_=>false
def rEq:R2:=fun x y H Q=>ZgN x y=true∧Q (.bl (decide (x=y))) H
def rNe:R2:=fun x y H Q=>ZgN x y=true∧Q (.bl (!decide (x=y))) H
theorem Zes {i j:Int}:decide (V.int i=V.int j)=(i==j):=by
 rw [Rt];simp
theorem Zf0 {i j:Bool}:decide (V.bl i=V.bl j)=(i==j):=by
 rw [Rt];simp
theorem Zfb {i j:Str}:decide (V.str i=V.str j)=(i==j):=by
 rw [Rt];simp
theorem Zfo {i j:Array UInt8}:decide (V.byt i=V.byt j)=(i.toList==j.toList):=by
 rw [Rt];cases i;cases j;simp
section
variable {X:Cx} {a b c:Expr} {ta tb tc:TE} {pos:Pos}
theorem Yb {pins:List (Addr×Obj)} {σ:St} {H:Hp} {s:Shared} {Q:VK} {k k':Bool} (I:Inv X pins σ H s) (q:Q (.bl k) H) (e:k=k'):EP X pins σ Q (.bool k') s:=by
 subst e;exact ⟨.bl k,H,I,rfl,q⟩
theorem Z1:Yq X (compareOp .Eq) rEq:=by
 intro pins s σ H x y v u Q I rx ry h;obtain ⟨hs,q⟩:=h;cases x with
 |non =>
  cases rx;cases y with
  |non=>cases ry;exact PySem.EqNone.eq_none_none (Yb I q (by simp))
  |bl j=>cases ry;exact PySem.EqNone.eq_none_bool (Yb I q (by simp))
  |int j=>obtain ⟨t',rfl⟩:=ry;exact PySem.EqNone.eq_none_int (Yb I q (by simp))
  |str j=>obtain ⟨t',rfl⟩:=ry;exact PySem.EqNone.eq_none_str (Yb I q (by simp))
  |_=>exact absurd (show false=true from hs) QA
 |bl i =>
  cases rx;cases y with
  |non=>cases ry;exact PySem.EqNone.eq_bool_none (Yb I q (by simp))
  |bl j=>cases ry;exact eq_bool (Yb I q Zf0)
  |str j=>obtain ⟨t',rfl⟩:=ry;exact PySem.EqMixed.eq_bool_str (Yb I q (by simp))
  |_=>exact absurd (show false=true from hs) QA
 |int i =>
  obtain ⟨t,rfl⟩:=rx;cases y with
  |non=>cases ry;exact PySem.EqNone.eq_int_none (Yb I q (by simp))
  |int j=>obtain ⟨t',rfl⟩:=ry;exact eq_int (Yb I q Zes)
  |str j=>obtain ⟨t',rfl⟩:=ry;exact PySem.EqMixed.eq_int_str (Yb I q (by simp))
  |_=>exact absurd (show false=true from hs) QA
 |str i =>
  obtain ⟨t,rfl⟩:=rx;cases y with
  |non=>cases ry;exact PySem.EqNone.eq_str_none (Yb I q (by simp))
  |bl j=>cases ry;exact PySem.EqMixed.eq_str_bool (Yb I q (by simp))
  |int j=>obtain ⟨t',rfl⟩:=ry;exact PySem.EqMixed.eq_str_int (Yb I q (by simp))
  |str j=>obtain ⟨t',rfl⟩:=ry;exact eq_str (Yb I q Zfb)
  |_=>exact absurd (show false=true from hs) QA
 |byt i =>
  obtain ⟨t,rfl⟩:=rx;cases y with
  |byt j=>obtain ⟨t',rfl⟩:=ry;exact W.eq_bytes (Yb I q Zfo)
  |_=>exact absurd (show false=true from hs) QA
 |_=>cases y<;>exact absurd (show false=true from hs) QA
theorem WB:Yq X (compareOp .NotEq) rNe:=by
 intro pins s σ H x y v u Q I rx ry h;obtain ⟨hs,q⟩:=h;cases x with
 |non =>
  cases rx;cases y with
  |non=>cases ry;exact PySem.EqNone.ne_none_none (Yb I q (by simp))
  |bl j=>cases ry;exact PySem.EqNone.ne_none_bool (Yb I q (by simp))
  |int j=>obtain ⟨t',rfl⟩:=ry;exact PySem.EqNone.ne_none_int (Yb I q (by simp))
  |str j=>obtain ⟨t',rfl⟩:=ry;exact PySem.EqNone.ne_none_str (Yb I q (by simp))
  |_=>exact absurd (show false=true from hs) QA
 |bl i =>
  cases rx;cases y with
  |non=>cases ry;exact PySem.EqNone.ne_bool_none (Yb I q (by simp))
  |bl j=>cases ry;exact ne_bool (Yb I q (Qy not Zf0))
  |str j=>obtain ⟨t',rfl⟩:=ry;exact PySem.EqMixed.ne_bool_str (Yb I q (by simp))
  |_=>exact absurd (show false=true from hs) QA
 |int i =>
  obtain ⟨t,rfl⟩:=rx;cases y with
  |non=>cases ry;exact PySem.EqNone.ne_int_none (Yb I q (by simp))
  |int j=>obtain ⟨t',rfl⟩:=ry;exact ne_int (Yb I q (Qy not Zes))
  |str j=>obtain ⟨t',rfl⟩:=ry;exact PySem.EqMixed.ne_int_str (Yb I q (by simp))
  |_=>exact absurd (show false=true from hs) QA
 |str i =>
  obtain ⟨t,rfl⟩:=rx;cases y with
  |non=>cases ry;exact PySem.EqNone.ne_str_none (Yb I q (by simp))
  |bl j=>cases ry;exact PySem.EqMixed.ne_str_bool (Yb I q (by simp))
  |int j=>obtain ⟨t',rfl⟩:=ry;exact PySem.EqMixed.ne_str_int (Yb I q (by simp))
  |str j=>obtain ⟨t',rfl⟩:=ry;exact ne_str (Yb I q (Qy not Zfb))
  |_=>exact absurd (show false=true from hs) QA
 |byt i =>
  obtain ⟨t,rfl⟩:=rx;cases y with
  |byt j=>obtain ⟨t',rfl⟩:=ry;exact W.ne_bytes (Yb I q (Qy not Zfo))
  |_=>exact absurd (show false=true from hs) QA
 |_=>cases y<;>exact absurd (show false=true from hs) QA
theorem WD:Yq X (compareOp .Lt) (WZ fun i j=>.bl (decide (i<j))):=ZaQ fun _ _ _ _ _ _ _ q=>lt_int q
theorem ZdG:Yq X (compareOp .LtE) (WZ fun i j=>.bl (decide (i≤j))):=ZaQ fun _ _ _ _ _ _ _ q=>le_int q
theorem Wq:Yq X (compareOp .Gt) (WZ fun i j=>.bl (decide (j<i))):=ZaQ fun _ _ _ _ _ _ _ q=>gt_int q
theorem Jh:Yq X (compareOp .GtE) (WZ fun i j=>.bl (decide (j≤i))):=ZaQ fun _ _ _ _ _ _ _ q=>ge_int q
theorem ZkC:Yq X (compareOp .In) (fun x y H Q=>∃i j,x=.str i∧y=.str j∧Q (.bl (!(Builtin.Str.occurrences j i 0 j.length 1).isEmpty)) H):=by
 intro pins s σ H x y v u Q I rx ry h;obtain ⟨i,j,rfl,rfl,q⟩:=h;obtain ⟨t,rfl⟩:=rx;obtain ⟨t',rfl⟩:=ry;exact in_str (Yb I q rfl)
theorem Zdj:Yq X (compareOp .Is) (fun x y H Q=>y=.non∧Q (.bl (decide (x=.non))) H):=by
 intro pins s σ H x y v u Q I rx ry h;obtain ⟨rfl,q⟩:=h;cases ry;refine is_none_gen (Yb I q ?_)
 cases x<;>first
  | (cases rx;rfl)
  | (obtain ⟨t,rfl⟩:=rx;rfl)
theorem ZmP:Yq X (compareOp .IsNot) (fun x y H Q=>y=.non∧Q (.bl (!decide (x=.non))) H):=by
 intro pins s σ H x y v u Q I rx ry h;obtain ⟨rfl,q⟩:=h;cases ry;refine isnot_none_gen (Yb I q ?_)
 cases x<;>first
  | (cases rx;rfl)
  | (obtain ⟨t,rfl⟩:=rx;rfl)
theorem Zu (b:Expr) {op:CmpOp} (h:op≠.In:=by decide) (h2:op≠.NotIn:=by decide):behindInMarks op b=false:=by
 have e1:(op==CmpOp.In)=false:=by cases op<;>first|rfl|exact absurd rfl h
 have e2:(op==CmpOp.NotIn)=false:=by cases op<;>first|rfl|exact absurd rfl h2
 cases b<;>simp [behindInMarks,e1,e2]
theorem YJ {op:CmpOp} {r:R2} (ho:Yq X (compareOp op) r) (ha:PE X a ta) (hb:PE X b tb) (hm:behindInMarks op b=false):PE X (.Compare a [op] [b] pos) (tOp r ta tb):=by
 intro pins s σ H Q I h;exact wpAny_Compare1 (ZdQ ha hb I h fun v u s2 x y H2 I2 rx ry q=>ho pins s2 σ H2 x y v u Q I2 rx ry q) hm
def Zlx (t:TE):TT:=fun σ H Q=>t σ H fun x H'=>∃k,x=.bl k∧Q k H'
theorem ZA {op:CmpOp} {r:R2} (ho:Yq X (compareOp op) r) (ha:PE X a ta) (hb:PE X b tb) (hm:behindInMarks op b=false):PT X (.Compare a [op] [b] pos) (Zlx (tOp r ta tb)):=by
 intro pins s σ H Q I h
 refine wpAny_isTrue_Compare1 (Zr (ha pins s σ H _ I h) fun v s1 ⟨x,H1,I1,r1,q1⟩=>Zr (hb pins s1 σ H1 _ I1 q1) fun u s2 ⟨y,H2,I2,r2,q2⟩ =>
  Zr (ho pins s2 σ H2 x y v u _ I2 r1 r2 q2) fun c s3 ⟨z,H3,I3,r3,k,e,q3⟩=>?_) hm
 subst e;cases r3;exact R3 ⟨H3,I3,q3⟩
theorem Vs:(sizeLine:Nat)<2 ^ 63:=by rw [Gb];decide
theorem Zht:Yq X (binaryOp .Add) (fun x y H Q=>∃i j,x=.str i∧y=.str j∧i.length+j.length≤sizeLine∧Q (.str (i++j)) H):=by
 intro pins s σ H x y v u Q I rx ry h;obtain ⟨i,j,rfl,rfl,hz,q⟩:=h;obtain ⟨t,rfl⟩:=rx;obtain ⟨t',rfl⟩:=ry;exact add_str (fun t' tk=>⟨.str (i++j),H,I.tok _,⟨_,rfl⟩,q⟩) hz
theorem YY {x:V} {us:List Value} (r:Vals [x] us):∃u,us=[u]∧RelV x u:=by
 cases r with
 |cons r1 r2=>cases r2;exact ⟨_,rfl,r1⟩
theorem Vx {x y:V} {us:List Value} (r:Vals [x,y] us):∃u w',us=[u,w']∧RelV x u∧RelV y w':=by
 cases r with
 |cons r1 r2 =>
  cases r2 with
  |cons r3 r4=>cases r4;exact ⟨_,_,rfl,r1,r3⟩
theorem Zmu:YG X (.builtin "abs") (fun xs H Q=>∃i,xs=[.int i]∧Q (.int (if i<0 then -i else i)) H):=by
 intro pins s σ H xs us Q I r h;obtain ⟨i,rfl,q⟩:=h;obtain ⟨u,rfl,t,rfl⟩:=YY r;exact call_abs_int fun u tk=>⟨.int (if i<0 then -i else i),H,I.tok _,⟨_,rfl⟩,q⟩
theorem ZjA (hc:X.calm=true):YG X (.builtin "max") (fun xs H Q=>∃i j,xs=[.int i,.int j]∧Q (.int (if j > i then j else i)) H):=by
 intro pins s σ H xs us Q I r h;obtain ⟨i,j,rfl,q⟩:=h;obtain ⟨u,w',rfl,⟨t,rfl⟩,⟨t',rfl⟩⟩:=Vx r;refine max_two_ints (I.ok.hd hc) fun h' tk k=>⟨_,H,I.kept k,?_,q⟩;by_cases hj:j > i
 ·rw [Qc hj,Qc hj];exact ⟨_,rfl⟩
 ·rw [Qa hj,Qa hj];exact ⟨_,rfl⟩
theorem Zaj (hc:X.calm=true):YG X (.builtin "min") (fun xs H Q=>∃i j,xs=[.int i,.int j]∧Q (.int (if j<i then j else i)) H):=by
 intro pins s σ H xs us Q I r h;obtain ⟨i,j,rfl,q⟩:=h;obtain ⟨u,w',rfl,⟨t,rfl⟩,⟨t',rfl⟩⟩:=Vx r;refine min_two_ints (I.ok.hd hc) fun h' tk k=>⟨_,H,I.kept k,?_,q⟩;by_cases hj:j<i
 ·rw [Qc hj,Qc hj];exact ⟨_,rfl⟩
 ·rw [Qa hj,Qa hj];exact ⟨_,rfl⟩
theorem Zgo:YG X (.type "int") (fun xs H Q=>(∃i,xs=[.int i]∧Q (.int i) H)∨∃k,xs=[.bl k]∧Q (.int (if k then 1 else 0)) H):=by
 intro pins s σ H xs us Q I r h;rcases h with ⟨i,rfl,q⟩|⟨k,rfl,q⟩
 ·obtain ⟨u,rfl,t,rfl⟩:=YY r;exact call_int_int ⟨.int i,H,I,⟨_,rfl⟩,q⟩
 ·obtain ⟨u,rfl,r1⟩:=YY r;cases r1;exact call_int_bool ⟨.int (if k then 1 else 0),H,I.tok _,⟨_,rfl⟩,q⟩
end
structure ObjM (h:Heap) (x dx C:Addr) (mA:Str->Option Value):Prop where
 obj:h.get? x=some (W.instObj C dx)
 ns:h.Ns1 dx mA
 ne:dx≠x
theorem ZkQ {h:Heap} {dx:Addr} {mA:Str->Option Value} (n:h.Ns1 dx mA):∃od,h.get? dx=some od∧∀name,W.lookIn name od=some (mA name):=by
 obtain ⟨o,es,ep,ho,hd,hk,_,hm⟩:=n;refine ⟨o,ho,fun name=>?_⟩;have e:=hm name;unfold nsFind findBy at e;rw [←Array.find?_toList] at e;unfold W.lookIn;rw [hd];dsimp only;split
 ·rename_i y q;rw [q] at e;exact Qy some e
 ·rename_i q;rw [q] at e
  have a:es.toList.any (·.refKey)=false:=by
   rw [Nw];intro y hy;obtain ⟨z,t,hkey⟩:=hk y (Array.mem_toList_iff.mp hy);simp [DictEntry.refKey,hkey]
  have a':¬es.toList.any (·.refKey)=true:=by rw [a];exact QA
  rw [Qa a'];exact Qy some e
theorem ObjM.look {h:Heap} {x dx C:Addr} {mA:Str->Option Value} (I:ObjM h x dx C mA):∃od,W.InstAt h x (W.instObj C dx) C (some od)∧∀name,W.lookIn name od=some (mA name) :=
 let ⟨od,ho,hl⟩:=ZkQ I.ns
 ⟨od,⟨I.obj,rfl,rfl,ho⟩,hl⟩
section
variable {prog:Program} {w:World} {A:Around} {E:Value->Shared->Prop} {s:Shared} {K:W.Frag} {x dx C f:Addr} {mA:Str->Option Value} {name:Str} {v:Value}
theorem Zl3 {expr:Bool} {Q:Value->Shared->Prop} (X:K.In s.heap) (I:ObjM s.heap x dx C mA) (hg:W.plainGet K C name=true) (hh:W.hasDictIn K C=true)
  (ha:W.findIn K (.ref C) name=some none) (hv:mA name=some v) (hv':W.handedIn v=true) (h:Q v { s with toks:=s.toks+1 }) :
  wpAny (model prog w) A (getAttr (.ref x) name expr) Q E s:=by
 obtain ⟨od,J,hl⟩:=I.look;exact W.get_value X J (W.plainGet_of hg).1 (W.findObj_own hh ha rfl (by rw [hl,hv])) hv' h
theorem Zk1 {pl:Sem Bool} {Q:Value×List Value->Shared->Prop} (X:K.In s.heap) (I:ObjM s.heap x dx C mA) (hg:W.plainGet K C name=true)
  (hf:W.findIn K (.ref C) name=some (some (.ref f))) (ht:W.isFn K (.ref f)=true) (hv:mA name=none) (h:Q (.ref f,[.ref x]) s) :
  wpAny (model prog w) A (getMethod (.ref x) name pl) Q E s:=by
 obtain ⟨od,J,hl⟩:=I.look;exact W.method_fn X J (W.plainGet_of hg).1 (W.plainGet_of hg).2 hf (RN.mp ht) (by show (W.lookIn name od).map (·.isSome)=some false;rw [hl,hv];rfl) h
theorem ZhX {ns:List Str} {Q:Unit->Shared->Prop} (X:K.In s.heap) (I:ObjM s.heap x dx C mA)
  (hs:W.findIn K (.ref C) "__setattr__"=some (some (.builtin "object.__setattr__"))) (hp:W.plainOver K C=true) (ht:W.takerIn K C name=some none) (hh:W.hasDictIn K C=true)
  (hw:PySem.Within mA ns) (hsz:ns.length≤sizeLine)
  (h:∀h',ObjM h' x dx C (fun y=>if y=name then some v else mA y)->Heap.SameBut dx s.heap h'->Q () { s with heap:=h',toks:=s.toks+2 }) :
  wpAny (model prog w) A (setAttr (.ref x) name v) Q E s:=by
 obtain ⟨od,J,hl⟩:=I.look;refine W.set_plain X J hs (W.osa_open (s:={ s with toks:=s.toks+1 }) (r:=none) X J hp ht fun b=>?_);obtain ⟨cd,hc,hd'⟩:=W.any_some hh;have hx:s.heap.get? x=some ⟨.ref C,some dx,.plain,#[]⟩:=I.obj;refine Qb (Qe (Qb (Qb (wpAny_loadPart hx (Qb (W.Looks.here (s:={ s with toks:=s.toks+1 }) (W.looks_clsIn X hc) ?_))))));rw [hd'];refine Qe (a:=some dx) (Qb (Qe (Qb ?_)));refine wpAny_nsSet1 (s:={ s with toks:=s.toks+1 }) I.ns fun h' hn2 hs2=>?_;obtain ⟨oD,esD,epD,hoD,hdD,hcD⟩:=hn2.count (PySem.Within.cons name v hw);refine Qb (wpAny_lookBehind hoD (by rw [hdD];exact pastItsLine_dict (Qo hcD (by rw [QK];omega))) ?_);exact Qe (h _ ⟨(hs2.2 _ (QZ I.ne)).trans I.obj,hn2,I.ne⟩ hs2)
theorem Zof {R:Result->Shared->Prop} {vs:List Value} {kw:List (Str×Value)} (X:K.In s.heap) (hm:W.makesIn K C=true)
  (hi:W.findIn K (.ref C) "__init__"=some (some (.ref f))) (hf:W.typeIn K (.ref f)=some (.type "function"))
  (h:codeAny (model prog w) (A.under (.builtin "type.__call__" ⟨.ref C::vs,kw⟩)) (.call (.ref f) ⟨.ref (s.heap.objs.size+1)::vs,kw⟩) (W.InitBack (s.heap.objs.size+1) R)
   { s with heap:=(s.heap.push W.emptyDict).push (W.instObj C s.heap.objs.size) }) :
  codeAny (model prog w) A (.call (.ref C) ⟨vs,kw⟩) R s:=by
 obtain ⟨hh,g,d,t,os⟩:=s;exact W.make_core (W.makes_of X hm) (GR X hi) (fun self=>W.bind_fn X self hf) (.inl rfl) h
end
noncomputable def ZH (f:Str) (v:V):List (Str×V)->List (Str×V)
 |[]=>[(f,v)]
 | (g,x)::r=>if g=f then (g,v)::r else (g,x)::ZH f v r
theorem Zff (f g:Str) (v:V):∀fs:List (Str×V),(ZH f v fs).lookup g=if g=f then some v else fs.lookup g
 |[]=>by
  show List.lookup g [(f,v)]=_;by_cases h:g=f
  ·have hb:(g==f)=true:=RN.mpr h;simp only [List.lookup,hb,Qc h]
  ·have hb:(g==f)=false:=RK.mpr h;simp only [List.lookup,hb,Qa h]
 | (k,x)::r=>by
  have ih:=Zff f g v r;rw [show ZH f v ((k,x)::r)=(if k=f then (k,v)::r else (k,x)::ZH f v r) from rfl];by_cases hk:k=f
  ·rw [Qc hk];by_cases h:g=k
   ·have hb:(g==k)=true:=RN.mpr h;simp only [List.lookup,hb,Qc (h.trans hk)]
   ·have hb:(g==k)=false:=RK.mpr h;simp only [List.lookup,hb,Qa (fun e:g=f=>h (e.trans hk.symm))]
  ·rw [Qa hk];by_cases h:g=k
   ·have hb:(g==k)=true:=RN.mpr h;simp only [List.lookup,hb,Qa (fun e:g=f=>hk (h.symm.trans e))]
   ·have hb:(g==k)=false:=RK.mpr h;simp only [List.lookup,hb];exact ih
theorem ZbE (f:Str) (v:V):∀fs:List (Str×V),f∈(ZH f v fs).map (·.1)∧∀g,g∈fs.map (·.1)->g∈(ZH f v fs).map (·.1)
 |[]=>⟨by simp [ZH],fun g h=>by simp at h⟩
 | (k,x)::r=>by
  obtain ⟨i1,i2⟩:=ZbE f v r;rw [show ZH f v ((k,x)::r)=(if k=f then (k,v)::r else (k,x)::ZH f v r) from rfl];by_cases hk:k=f
  ·rw [Qc hk];subst hk;exact ⟨by simp,fun g h=>by simpa using h⟩
  ·rw [Qa hk];refine ⟨?_,fun g h=>?_⟩
   ·rw [Qp];exact QF _ i1
   ·rw [Qp] at h ⊢;rcases Qh.mp h with e|e
    ·exact Qh.mpr (.inl e)
    ·exact QF _ (i2 g e)
theorem Zfe (f:Str) (v:V):∀fs:List (Str×V),(ZH f v fs).length≤fs.length+1
 |[]=>by simp [ZH]
 | (k,x)::r=>by
  have ih:=Zfe f v r;rw [show ZH f v ((k,x)::r)=(if k=f then (k,v)::r else (k,x)::ZH f v r) from rfl];by_cases hk:k=f
  ·rw [Qc hk,QK,QK];omega
  ·rw [Qa hk,QK,QK];omega
theorem RelO.some_of {v:V} {o:Option Value} (r:RelO (some v) o):∃u,o=some u∧RelV v u:=by
 cases o with
 |none=>exact (show False from r).elim
 |some u=>exact ⟨u,rfl,r⟩
theorem RelO.none_of {o:Option Value} (r:RelO none o):o=none:=by
 cases o with
 |none=>rfl
 |some u=>exact (show False from r).elim
theorem ZnW {v:V} {u:Value} (r:RelV v u):W.handedIn u=true:=by
 cases v with
 |non=>cases (show u=Value.none from r);rfl
 |bl b=>cases (show u=Value.bool b from r);rfl
 |int i=>obtain ⟨t,e⟩:=(show ∃t,u=Value.int i t from r);cases e;rfl
 |str x=>obtain ⟨t,e⟩:=(show ∃t,u=Value.str x t from r);cases e;rfl
 |byt b=>obtain ⟨t,e⟩:=(show ∃t,u=Value.bytes b t from r);cases e;rfl
 |flt b=>obtain ⟨t,e⟩:=(show ∃t,u=Value.float b t from r);cases e;rfl
 |ref a=>cases (show u=Value.ref a from r);rfl
 |ty n=>cases (show u=Value.type n from r);rfl
section
variable {P:Program} {w:World} {H H':Hp} {h h':Heap} {a C dx:Addr} {fs fs':List (Str×V)}
theorem Zac (hok:HOk P w H h) (e:H a=some (.ins C dx fs)):∃mA,ObjM h a dx C mA∧(∀f,RelO (fs.lookup f) (mA f))∧PySem.Within mA (fs.map (·.1))∧fs.length≤1000∧H dx=some (.own a):=by
 obtain ⟨d,z,ne,ob,mA,n,r,q⟩:=(show ObjOk P w H h a (.ins C dx fs) from hok a _ e);exact ⟨mA,⟨ob,n,ne⟩,r,q,z,d⟩
end
structure Cls (K:W.Frag) (C:Addr):Prop where
 pg:W.plainGet K C Str.empty=true
 hd:W.hasDictIn K C=true
 po:W.plainOver K C=true
 sa:W.findIn K (.ref C) "__setattr__"=some (some (.builtin "object.__setattr__"))
theorem Cls.get {K:W.Frag} {C:Addr} (c:Cls K C) (f:Str):W.plainGet K C f=true:=c.pg
def NoAttr (K:W.Frag) (C:Addr) (f:Str):Prop:=W.findIn K (.ref C) f=some none
theorem NoAttr.taker {K:W.Frag} {C:Addr} {f:Str} (n:NoAttr K C f):W.takerIn K C f=some none:=by
 unfold W.takerIn;rw [show W.findIn K (.ref C) f=some none from n];rfl
structure Meth (K:W.Frag) (C:Addr) (m:Str) (f:Addr):Prop where
 at_:W.findIn K (.ref C) m=some (some (.ref f))
 fn:W.isFn K (.ref f)=true
 kp:W.keepIn K (.ref f)=true
section
variable {X:Cx} {pins:List (Addr×Obj)} {σ:St} {H:Hp} {s:Shared} {a C dx:Addr} {fs:List (Str×V)} {f:Str} {v:V} {A:Around} {E:Value->Shared->Prop}
theorem Zol {b:Bool} {Q:Value->Shared->Prop} (I:Inv X pins σ H s) (e:H a=some (.ins C dx fs)) (c:Cls X.K C) (n:NoAttr X.K C f) (l:fs.lookup f=some v)
  (h:∀u s',Inv X pins σ H s'->RelV v u->Q u s'):wpAny (model X.prog X.w) A (getAttr (.ref a) f b) Q E s:=by
 obtain ⟨mA,O,r,_,_,_⟩:=Zac I.hok e;obtain ⟨u,hu,ru⟩:=RelO.some_of (v:=v) (o:=mA f) (by rw [←l];exact r f);exact Zl3 I.kIn O (c.get f) c.hd n hu (ZnW ru) (h u _ (I.tok _) ru)
theorem ZjO {m:Str} {g:Addr} {pl:Sem Bool} {Q:Value×List Value->Shared->Prop} (I:Inv X pins σ H s) (e:H a=some (.ins C dx fs)) (c:Cls X.K C) (k:Meth X.K C m g) (l:fs.lookup m=none)
  (h:Q (.ref g,[.ref a]) s):wpAny (model X.prog X.w) A (getMethod (.ref a) m pl) Q E s:=by
 obtain ⟨mA,O,r,_,_,_⟩:=Zac I.hok e;have hn:mA m=none:=RelO.none_of (by rw [←l];exact r m);exact Zk1 I.kIn O (c.get m) k.at_ k.fn hn h
theorem Zmc {y:V} {u:Value} {Q:Unit->Shared->Prop} (I:Inv X pins σ H s) (e:H a=some (.ins C dx fs)) (c:Cls X.K C) (n:NoAttr X.K C f) (hl:fs.length<1000) (ry:RelV y u)
  (h:∀s',Inv X pins σ (Zb H a (.ins C dx (ZH f y fs))) s'->Q () s'):wpAny (model X.prog X.w) A (setAttr (.ref a) f u) Q E s:=by
 obtain ⟨mA,O,r,wi,_,ho⟩:=Zac I.hok e;have hz:(fs.map (·.1)).length≤sizeLine:=by rw [Qd,Gb];omega
 refine ZhX I.kIn O c.sa c.po n.taker c.hd wi hz fun h' O' sb=>h _ ?_;have hd:∃o,h'.get? dx=some o:=let ⟨o,_,_,e',_⟩:=O'.ns;⟨o,e'⟩;refine I.write (x:=a) (e:=dx) (by rw [e];exact True.intro) (.inr ho) (fun b q hb z=>(sb.2 b hb).trans z) hd ?_;refine ⟨by rw [Zd O.ne];exact ho,?_,O.ne,O'.obj,_,O'.ns,fun g=>?_,fun g hg=>?_⟩
 ·have:=Zfe f y fs;omega
 ·show RelO ((ZH f y fs).lookup g) (if g=f then some u else mA g);rw [Zff];by_cases q:g=f
  ·rw [Qc q,Qc q];exact ry
  ·rw [Qa q,Qa q];exact r g
 ·by_cases q:g=f
  ·rw [q];exact (ZbE f y fs).1
  ·refine (ZbE f y fs).2 g (wi g fun z=>hg ?_);show (if g=f then some u else mA g)=none;rw [Qa q];exact z
theorem Inv.made (I:Inv X pins σ H s):Inv X pins σ (Zb (Zb H s.heap.objs.size (.own (s.heap.objs.size+1))) (s.heap.objs.size+1) (.ins C s.heap.objs.size []))
  { s with heap:=(s.heap.push W.emptyDict).push (W.instObj C s.heap.objs.size) }:=by
 have e1:(s.heap.push W.emptyDict).get? s.heap.objs.size=some W.emptyDict:=Ql s.heap rfl
 have e2:((s.heap.push W.emptyDict).push (W.instObj C s.heap.objs.size)).get? (s.heap.objs.size+1)=some (W.instObj C s.heap.objs.size):=by
  have:=Ql (s.heap.push W.emptyDict) (o:=W.instObj C s.heap.objs.size) rfl
  rwa [Rc] at this
 have e3:(s.heap.push W.emptyDict).Ns s.heap.objs.size (fun _=>none):=⟨W.emptyDict,#[],_,e1,rfl,(fun e he=>absurd he (by simp)),fun _=>rfl⟩;have I1:=I.laid (a:=s.heap.objs.size) (o:=.own (s.heap.objs.size+1)) (h':=s.heap.push W.emptyDict) (t':=s.toks) (fun b u q=>Qi _ q) (Qf _) ⟨_,e1⟩;refine I1.laid (a:=s.heap.objs.size+1) (o:=.ins C s.heap.objs.size []) (t':=s.toks) (fun b u q=>Qi _ q) (Nat.le_of_eq (Rc _ _)) ?_;have ne:s.heap.objs.size≠s.heap.objs.size+1:=Qt (RO _);refine ⟨by rw [Zd ne,Zg],QJ _,ne,e2,fun _=>none,(Heap.Ns1.of_empty e3).at fun o q=>Qi _ q,fun _=>True.intro,fun y hy=>absurd rfl hy⟩
theorem Zjr {prog:Program} {w:World} {env:Env} {e:Expr} {f:Str} {pos:Pos} {s:Shared} {Q:Value->Shared->Prop} (hb:attributeBase e f env (eval e env)=eval e env)
  (h:wpAny (model prog w) A (eval e env) (fun o s₁=>wpAny (model prog w) A (getAttr o f true) Q E s₁) E s):wpAny (model prog w) A (eval (.Attribute e f pos) env) Q E s :=
 Attribute_any_ h (by rw [arm_eval_Attribute,hb])
end
def Zhp (K:W.Frag) (ta:TE) (f:Str):TE:=fun σ H Q=>ta σ H fun x H1=>∃a C dx fs v,x=.ref a∧H1 a=some (.ins C dx fs)∧Cls K C∧NoAttr K C f∧fs.lookup f=some v∧Q v H1
def ZiD (K:W.Frag) (ta tv:TE) (f:Str):TS:=fun D σ H=>tv σ H fun y H1=>ta σ H1 fun x H2=>∃a C dx fs,x=.ref a∧H2 a=some (.ins C dx fs)∧Cls K C∧NoAttr K C f∧fs.length<1000 ∧
 D.nx σ (Zb H2 a (.ins C dx (ZH f y fs)))
section
variable {X:Cx} {o e value:Expr} {f:Str} {pos pos' tpos:Pos} {ta tv:TE}
theorem Xl (he:PE X e ta) (hb:attributeBase e f X.env (eval e X.env)=eval e X.env):PE X (.Attribute e f pos) (Zhp X.K ta f):=by
 intro pins s σ H Q I h;refine Zjr hb (Zr (he pins s σ H _ I h) fun u s1 ⟨x,H1,I1,rx,a,C,dx,fs,v,ex,ea,c,n,l,q⟩=>?_);subst ex;obtain rfl:u=Value.ref a:=rx;exact Zol I1 ea c n l fun u' s2 I2 ru=>⟨v,H1,I2,ru,q⟩
theorem Jy (ha:PE X o ta) (hv:PE X value tv) (hs:swapsWith value (some (.Attribute o f pos')) pos.line X.env=pure false):PS X (.Assign [.Attribute o f pos'] value pos) (ZiD X.K ta tv f):=by
 intro pins s σ H D I h;refine plainObj_wpAny_Assign_Attribute (Zr (hv pins s σ H _ I h) fun u s1 ⟨y,H1,I1,ry,q⟩=>Zr (ha pins s1 σ H1 _ I1 q) fun ov s2 ⟨x,H2,I2,rx,a,C,dx,fs,ex,ea,c,n,l,q2⟩=>?_) hs;subst ex;obtain rfl:ov=Value.ref a:=rx;exact Zmc I2 ea c n l ry fun s3 I3=>⟨σ,_,I3,q2⟩
end
section
variable {X:Cx} {pins:List (Addr×Obj)} {σ:St} {H:Hp} {s:Shared} {A:Around} {E:Value->Shared->Prop} {Q:Value->Shared->Prop} {c:Value} {b:Bool}
inductive TyOf (K:W.Frag) (H:Hp):V->Value->Prop where
 |non:TyOf K H .non (.type "NoneType")
 |bl (x:Bool):TyOf K H (.bl x) (.type "bool")
 |int (i:Int):TyOf K H (.int i) (.type "int")
 |str (x:Str):TyOf K H (.str x) (.type "str")
 |flt (x:UInt64):TyOf K H (.flt x) (.type "float")
 |lst {a:Addr} {xs:List V} (e:H a=some (.lst xs)):TyOf K H (.ref a) (.type "list")
 |frz {a:Addr} {o:Obj} {xs:List V} (e:H a=some (.frz o (.lst xs))):TyOf K H (.ref a) (.type "list")
 |tup {a:Addr} {xs:List V} (e:H a=some (.tup xs)):TyOf K H (.ref a) (.type "tuple")
 |dK {a:Addr} {kvs:List (Zi×V)} (e:H a=some (.dK kvs)):TyOf K H (.ref a) (.type "dict")
 |dT {a:Addr} {kvs:List (List Zi×V)} (e:H a=some (.dT kvs)):TyOf K H (.ref a) (.type "dict")
 |ins {a C dx : Addr} {fs : List (Str×V)} (e : H a=some (.ins C dx fs)) (cl : Cls K C) (ha : W.findIn K (.ref C) "__class__"=some (some (.builtin "object.__class__")))
   (hn:W.specialIn K (.builtin "object.__class__") "__get__"=some (some (.builtin "getset_descriptor.__get__"))) (htk:W.takesIn K (.builtin "object.__class__")=some true)
   (hm:W.mroIn K C (.type "object")=some true):TyOf K H (.ref a) (.ref C)
theorem ZiM {x:V} {u t:Value} (I:Inv X pins σ H s) (rx:RelV x u) (ty:TyOf X.K H x t) (e:W.kitOne X.K t c=some b) (h:∀tk,Q (.bool b) { s with toks:=tk }) :
  wpAny (model X.prog X.w) A (call (.builtin "isinstance") [u,c]) Q E s:=by
 cases ty with
 |non=>cases (show u=Value.none from rx);exact Q0 W.kitx_none I.kIn True.intro e (fun z=>nomatch z) h
 |bl y=>cases (show u=Value.bool y from rx);exact Q0 W.kitx_bool I.kIn True.intro e (fun z=>nomatch z) h
 |int i=>obtain ⟨t,q⟩:=(show ∃t,u=Value.int i t from rx);cases q;exact Q0 W.kitx_int I.kIn True.intro e (fun z=>nomatch z) h
 |str y=>obtain ⟨t,q⟩:=(show ∃t,u=Value.str y t from rx);cases q;exact Q0 W.kitx_str I.kIn True.intro e (fun z=>nomatch z) h
 |flt y=>obtain ⟨t,q⟩:=(show ∃t,u=Value.float y t from rx);cases q;exact Q0 W.kitx_float I.kIn True.intro e (fun z=>nomatch z) h
 |@lst a xs ea =>
  cases (show u=Value.ref a from rx);obtain ⟨_,_,n,_,h1⟩:=(show ObjOk X.prog X.w H s.heap a (.lst xs) from I.hok a _ ea);exact Q0 GS I.kIn ⟨_,h1,rfl⟩ e (fun z=>nomatch z) h
 |@frz a ob xs ea =>
  cases (show u=Value.ref a from rx);obtain ⟨_,_,_,n,_,h1⟩:=(show ObjOk X.prog X.w H s.heap a (.frz ob (.lst xs)) from I.hok a _ ea);exact Q0 GS I.kIn ⟨_,h1,rfl⟩ e (fun z=>nomatch z) h
 |@tup a xs ea =>
  cases (show u=Value.ref a from rx);obtain ⟨_,_,_,p⟩:=(show ObjOk X.prog X.w H s.heap a (.tup xs) from I.hok a _ ea);obtain ⟨o,h1,h2,_⟩:=p;exact Q0 W.kitx_tuple I.kIn ⟨o,h1,h2⟩ e (fun z=>nomatch z) h
 |@dK a kvs ea =>
  cases (show u=Value.ref a from rx);obtain ⟨_,_,vs,_,p⟩:=(show ObjOk X.prog X.w H s.heap a (.dK kvs) from I.hok a _ ea);obtain ⟨o,es,ep,h1,h2,_⟩:=p;exact Q0 W.kitx_dict I.kIn ⟨o,h1,h2.1⟩ e (fun z=>nomatch z) h
 |@dT a kvs ea =>
  cases (show u=Value.ref a from rx);obtain ⟨_,_,xs,_,o,es,ep,h1,h2,_⟩:=(show ObjOk X.prog X.w H s.heap a (.dT kvs) from I.hok a _ ea);exact Q0 W.kitx_dict I.kIn ⟨o,h1,h2.1⟩ e (fun z=>nomatch z) h
 |@ins a C dx fs ea cl ha hn htk hm =>
  cases (show u=Value.ref a from rx);obtain ⟨mA,O,_⟩:=Zac I.hok ea;obtain ⟨od,J,_⟩:=O.look;exact Q0 (W.kitx_own (cl.get _) cl.hd ha hn htk hm) I.kIn J e (fun z=>nomatch z) h
end
structure Room (k:Nat) (A:Around):Prop where
 hd:A.handled=none
 dp:A.depth+3*k+5<recursionLimit
 un:A.units+16*k+200<cLine
theorem Room.mono {j k:Nat} {A:Around} (r:Room k A) (h:j≤k):Room j A:=⟨r.hd,by have:=r.dp;omega,by have:=r.un;omega⟩
theorem Room.deeper {k:Nat} {A:Around} (r:Room (k+1) A) (env:Env):Room k (A.deeper env) :=
 ⟨r.hd,by have:=r.dp;show A.depth+1+3*k+5<_;omega,by have:=r.un;show A.units+3+16*k+200<_;omega⟩
theorem ZoS {A:Around} {C:Addr} {us:List Value} {kw:List (Str×Value)}:(A.under (.builtin "type.__call__" ⟨.ref C::us,kw⟩)).depth=A.depth+1:=by
 first|rfl|simp [Around.under,Code.weight,Code.isCreation,Code.isGuard,Code.isCaller,Code.frames,Code.isFrame,guardIds]
theorem Zn1 {A:Around} {C:Addr} {us:List Value} {kw:List (Str×Value)}:(A.under (.builtin "type.__call__" ⟨.ref C::us,kw⟩)).units=A.units+1:=by
 first|rfl|simp [Around.under,Code.cUnits,Code.frames,Code.isFrame]
theorem Room.make {k:Nat} {A:Around} (r:Room (k+1) A) (C:Addr) (us:List Value) (kw:List (Str×Value)):Room k (A.under (.builtin "type.__call__" ⟨.ref C::us,kw⟩)) :=
 ⟨r.hd,by have:=r.dp;rw [ZoS];omega,by have:=r.un;rw [Zn1];omega⟩
theorem Room.depth {k:Nat} {A:Around} (r:Room k A):A.depth<recursionLimit:=by have:=r.dp;omega
theorem Room.units {k:Nat} {A:Around} (r:Room k A):A.units+64<cLine:=by have:=r.un;omega
def ZdP:TA:=fun _ H Q=>Q [] H
def Zb3 (ta:TE) (tr:TA):TA:=fun σ H Q=>ta σ H fun x H1=>tr σ H1 fun xs H2=>Q (x::xs) H2
section
variable {X:Cx} {e:Expr} {es:List Expr} {te:TE} {t:TA} {pos:Pos}
theorem Zc:PA X [] ZdP:=fun _ _ _ _ H Q I h=>Gq ⟨[],H,I,.nil,h⟩
theorem Za (ha:PE X e te) (hr:PA X es t) (hs:starEach (e::es) X.env=(false,eval e X.env)::starEach es X.env:=by rfl):PA X (e::es) (Zb3 te t):=by
 intro pos pins s σ H Q I h;rw [hs];show wpAny _ _ (spliced ((false,eval e X.env)::backTo pos (starEach es X.env))) _ _ s;refine Rx (Zr (ha pins s σ H _ I h) fun u s1 ⟨x,H1,I1,r1,q1⟩=>?_);exact Zr (hr pos pins s1 σ H1 _ I1 q1) fun us s2 ⟨xs,H2,I2,r2,q2⟩=>⟨x::xs,H2,I2,.cons r1 r2,q2⟩
def ZfY (t:TA):TE:=fun σ H Q=>t σ H fun xs H1=>xs.length≤sizeLine∧∀p,H1 p=none->Q (.ref p) (Zb H1 p (.tup xs))
def ZjN (t:TA):TE:=fun σ H Q=>t σ H fun xs H1=>xs.length≤sizeLine∧∀p,H1 p=none->Q (.ref p) (Zb H1 p (.lst xs))
theorem ZY {x1} (h:PA X es t):PE X (.Tuple es x1 pos) (ZfY t):=by
 intro pins s σ H Q I hq;refine wpAny_Tuple_spliced (Zr (h pos pins s σ H _ I hq) fun us s1 ⟨xs,H1,I1,r,z,q⟩=>⟨by rw [←r.length];exact z,?_⟩);have hf:H1 s1.heap.objs.size=none:=I1.hok.fresh (Qf _);refine ⟨.ref s1.heap.objs.size,Zb H1 s1.heap.objs.size (.tup xs),I1.laid (t':=s1.toks) (fun b u e=>Qi _ e) (Qf _) ?_,rfl,q _ hf⟩;exact ⟨z,us,r,⟨_,Ql _ rfl,rfl,_,rfl⟩⟩
theorem Yi (h:PA X es t):PE X (.List es pos) (ZjN t):=by
 intro pins s σ H Q I hq;refine wpAny_List_spliced (Zr (h pos pins s σ H _ I hq) fun us s1 ⟨xs,H1,I1,r,z,q⟩=>⟨by rw [←r.length];exact z,?_⟩);have hf:H1 s1.heap.objs.size=none:=I1.hok.fresh (Qf _);refine ⟨.ref s1.heap.objs.size,Zb H1 s1.heap.objs.size (.lst xs),I1.laid (t':=s1.toks) (fun b u e=>Qi _ e) (Qf _) ?_,rfl,q _ hf⟩;exact ⟨z,us,0,r,Ql _ rfl⟩
end
abbrev Sp:=List V->Hp->VK->XK->Prop
abbrev Yu:=List Env->Hp->Shared->XK->Value->Shared->Prop
structure Env0 (P:Program) (w:World) (K:W.Frag) (mg:Str->Option Value) (base:Heap) (A:Around) (outer:List Env) (s:Shared) (H:Hp):Prop where
 frames:A.frames=some outer
 mod:Mod K mg base
 bs:∀b o,base.get? b=some o->s.heap.get? b=some o∧H b=none
 bsz:base.objs.size≤s.heap.objs.size
 funs:s.heap.FunFrames base outer
 frf:∀b∈Yg outer,H b=none
 hok:HOk P w H s.heap
 bare:AllBare s.gens
def CE (outer:List Env) (P:Program) (w:World) (H:Hp) (s:Shared) (Q:VK) (u:Value) (s':Shared):Prop :=
 ∃v H',s'.os=s.os∧AllBare s'.gens∧Un (Yg outer) [] H H' s.heap s'.heap∧HOk P w H' s'.heap∧RelV v u∧Q v H'
def CR (CX:Yu) (outer:List Env) (P:Program) (w:World) (H:Hp) (s:Shared) (Q:VK) (E:XK) (r:Result) (s':Shared):Prop :=
 match r with
 |.ok (.ret u)=>CE outer P w H s Q u s'
 |.ok _=>False
 |.error e=>CX outer H s E e s'
structure FnOk (P:Program) (w:World) (K:W.Frag) (mg:Str->Option Value) (base:Heap) (CX:Yu) (k:Nat) (f:Addr) (fd:FuncData) (ps:List Str) (sp:Sp):Prop where
 len:∀vs H Q E,sp vs H Q E->vs.length=ps.length
 run:∀(A:Around) (outer:List Env) (s:Shared) (H:Hp) (args:Args) (us:List Value) (vs:List V) (Q:VK) (E:XK),Room k A->Env0 P w K mg base A outer s H->BindsTo s fd args (ps.zip us)->Vals vs us->sp vs H Q E →
  codeAny (model P w) A (.call (.ref f) args) (CR CX outer P w H s Q E) s
theorem FnOk.imp {P:Program} {w:World} {K:W.Frag} {mg:Str->Option Value} {base:Heap} {CX:Yu} {k:Nat} {f:Addr} {fd:FuncData} {ps:List Str} {sp sp':Sp} (F:FnOk P w K mg base CX k f fd ps sp)
  (h:∀vs H Q E,sp' vs H Q E->sp vs H Q E):FnOk P w K mg base CX k f fd ps sp' :=
 ⟨fun vs H Q E q=>F.len vs H Q E (h _ _ _ _ q),fun A outer s H args us vs Q E hr he hb hv hs=>F.run A outer s H args us vs Q E hr he hb hv (h _ _ _ _ hs)⟩
theorem Env0.make {P:Program} {w:World} {K:W.Frag} {mg:Str->Option Value} {base:Heap} {A:Around} {outer:List Env} {s:Shared} {H:Hp} (e:Env0 P w K mg base A outer s H) (C:Addr) (us:List Value) (kw:List (Str×Value)) :
  Env0 P w K mg base (A.under (.builtin "type.__call__" ⟨.ref C::us,kw⟩)) outer s H:=⟨by first|exact e.frames|(simpa [Around.under,Code.envs,Code.isFrame,pushEnvs] using e.frames),e.mod,e.bs,e.bsz,e.funs,e.frf,e.hok,e.bare⟩
section
variable {X:Cx} {pins:List (Addr×Obj)} {σ:St} {H:Hp} {s s':Shared}
theorem Inv.env0 (I:Inv X pins σ H s):Env0 X.prog X.w X.K X.mg X.base X.A X.stack s H :=
 ⟨I.ok.frames,I.ok.mod,I.bs,Qo I.ok.bsz I.sz,I.stack,I.stkFree,I.hok,I.bare⟩
theorem Inv.after {Q:VK} {u:Value} (I:Inv X pins σ H s) (h:CE X.stack X.prog X.w H s Q u s'):EP X pins σ Q u s':=by
 obtain ⟨v,H',os,bare,un,hok,r,q⟩:=h;obtain ⟨hh,g,d,t,os'⟩:=s';obtain rfl:os'=s.os:=os;exact ⟨v,H',I.call (h':=hh) (g':=g) (d':=d) (t':=t) (ch:=[]) un hok bare (fun b z=>absurd z (by simp)),r,q⟩
end
def Binds (K:W.Frag) (fd:FuncData) (ps:List Str) (ds:List Value):Prop :=
 ∀(s:Shared) (us:List Value),K.In s.heap->(us++ds).length=ps.length->BindsTo s fd ⟨us,[]⟩ (ps.zip (us++ds))
theorem Binds.all {K:W.Frag} {fd:FuncData} {ps:List Str} (h:∀us:List Value,us.length=ps.length->bindArgs fd ⟨us,[]⟩=pure (ps.zip us)):Binds K fd ps []:=fun s us _ hl=>by
 rw [Qs] at hl ⊢;exact .of_eq (h us hl)
def ZgQ (CX:Yu) (X:Cx) (E:XK):Prop:=∀(pins:List (Addr×Obj)) (σ:St) (H:Hp) (s:Shared) (e:Value) (s':Shared),Inv X pins σ H s->CX X.stack H s E e s'->X.xe e s'
section
variable {X:Cx} {CX:Yu} {k:Nat} {f C:Addr} {fd:FuncData} {ps:List Str} {sp:Sp} {dvs:List V} {ds:List Value} {E:XK} {x m:Str} {p pos apos:Pos} {e o:Expr} {es:List Expr} {ta:TE} {t:TA}
theorem Zou {pins:List (Addr×Obj)} {σ:St} {H:Hp} {s:Shared} {Q:VK} {us:List Value} {vs:List V} (F:FnOk X.prog X.w X.K X.mg X.base CX k f fd ps sp) (hr:Room k X.A) (hb:Binds X.K fd ps ds) (hd:Vals dvs ds) (hx:ZgQ CX X E)
  (I:Inv X pins σ H s) (r:Vals vs us) (h:sp (vs++dvs) H Q E):wpAny (model X.prog X.w) X.A (call (.ref f) us) (EP X pins σ Q) X.xe s:=by
 have r2:Vals (vs++dvs) (us++ds):=r.append hd;have hl:(us++ds).length=ps.length:=by rw [←r2.length];exact F.len _ _ _ _ h
 refine RP (RQ (F.run X.A X.stack s H ⟨us,[]⟩ (us++ds) (vs++dvs) Q E hr I.env0 (hb s us I.kIn hl) r2 h) fun r s' hq=>?_);cases r with
 |error e=>exact hx pins σ H s e s' I hq
 |ok fl =>
  cases fl with
  |ret u=>exact I.after hq
  |next=>exact False.elim hq
  |brk=>exact False.elim hq
  |cont=>exact False.elim hq
structure Mk (K:W.Frag) (C f:Addr):Prop where
 makes:W.makesIn K C=true
 init:W.findIn K (.ref C) "__init__"=some (some (.ref f))
 fn:W.isFn K (.ref f)=true
 kp:W.keepIn K (.ref C)=true
end
section
variable {X:Cx} {CX:Yu} {k:Nat} {f C:Addr} {fd:FuncData} {ps ks:List Str} {sp:Sp} {E:XK} {x m:Str} {p pos apos kpos:Pos} {e o:Expr} {es:List Expr} {kws:List Keyword} {te ta:TE} {t tk:TA} {nm:Option Str}
variable {g:List Value->List Value->List Value} {gV:List V->List V->List V}
end
structure FnScope (N P:List Str) (sc:Scope):Prop where
 kind:sc.kind=.function
 co:sc.isCoroutine=false
 gen:sc.isGenerator=false
 nd:N.Nodup
 pre:N.take P.length=P
 par:∀x∈P,sc.names.lookup x=some .local∨sc.names.lookup x=some .cell
 nofree:∀y∈sc.names,y.2≠.free
theorem ZeP {kindOf:Str->Option NameKind} {x:Str}:∀{binds:List (Str×Value)} {m:Str->Option Value},(∀v,(x,v)∉binds)->bindL kindOf binds m x=m x
 |[],_,_=>rfl
 | (n,v)::r,m,h=>by
  unfold bindL;rw [ZeP fun w hw=>h w (QF _ hw)];split
  ·have:x≠n:=by rintro rfl;exact h v QC
   simp [this]
  ·rfl
theorem Zd3 {kindOf:Str->Option NameKind} {x:Str}:∀{binds:List (Str×Value)} {m:Str->Option Value},(∀v,(x,v)∉binds)->bindC kindOf binds m x=m x
 |[],_,_=>rfl
 | (n,v)::r,m,h=>by
  unfold bindC;rw [Zd3 fun w hw=>h w (QF _ hw)];split
  ·rfl
  ·have:x≠n:=by rintro rfl;exact h v QC
   simp [this]
theorem ZeV {kindOf:Str->Option NameKind} {x:Str} {v:Value}:∀{P:List Str} {vs:List Value} {i:Nat} {m:Str->Option Value},P.Nodup->P[i]?=some x->vs[i]?=some v->kindOf x=some .local →
  bindL kindOf (P.zip vs) m x=some v
 |[],_,_,_,_,h,_,_=>by simp at h
 |_::_,[],_,_,_,_,h,_=>by simp at h
 |p::P,w::vs,0,m,nd,h1,h2,hk=>by
  simp at h1 h2;subst h1;subst h2;show bindL kindOf ((p,w)::P.zip vs) m p=_;unfold bindL;rw [ZeP fun v hv=>(QU.mp nd).1 (Ny hv).1,Qc hk];simp
 |p::P,w::vs,i+1,m,nd,h1,h2,hk=>by
  show bindL kindOf ((p,w)::P.zip vs) m x=_;unfold bindL;exact ZeV (i:=i) (QU.mp nd).2 (by simpa using h1) (by simpa using h2) hk
theorem ZfN {kindOf:Str->Option NameKind} {x:Str} {v:Value}:∀{P:List Str} {vs:List Value} {i:Nat} {m:Str->Option Value},P.Nodup->P[i]?=some x->vs[i]?=some v->kindOf x≠some .local →
  bindC kindOf (P.zip vs) m x=some v
 |[],_,_,_,_,h,_,_=>by simp at h
 |_::_,[],_,_,_,_,h,_=>by simp at h
 |p::P,w::vs,0,m,nd,h1,h2,hk=>by
  simp at h1 h2;subst h1;subst h2;show bindC kindOf ((p,w)::P.zip vs) m p=_;unfold bindC;rw [Zd3 fun v hv=>(QU.mp nd).1 (Ny hv).1,Qa hk];simp
 |p::P,w::vs,i+1,m,nd,h1,h2,hk=>by
  show bindC kindOf ((p,w)::P.zip vs) m x=_;unfold bindC;exact ZfN (i:=i) (QU.mp nd).2 (by simpa using h1) (by simpa using h2) hk
noncomputable def start (N:List Str) (vs:List V):St:=vs.map some++List.replicate (N.length-vs.length) none
noncomputable def We (CX:Yu) (P:Program) (w:World) (K:W.Frag) (mg:Str->Option Value) (base:Heap) (N:List Str) (qual:Str) (scope:Scope) (f:Addr) (cd:Value) (A:Around) (outer:List Env) (s:Shared) (H:Hp) (E:XK):Cx where
 prog:=P
 w:=w
 K:=K
 mg:=mg
 base:=base
 A:=A.deeper (envOfC qual scope s.heap.objs.size f cd)
 N:=N
 s₀:=s
 H₀:=H
 env:=envOfC qual scope s.heap.objs.size f cd
 outer:=outer
 stack:=envOfC qual scope s.heap.objs.size f cd::outer
 ex:=[]
 calm:=true
 fn:=fun _=>true
 pn:=[]
 xe:=fun e s'=>wpAny (model P w) (A.deeper (envOfC qual scope s.heap.objs.size f cd)) (leaving (envOfC qual scope s.heap.objs.size f cd) e) (fun _ s''=>CX outer H s E e s'') (fun e' s''=>CX outer H s E e' s'') s'
theorem Zfx {sc:Scope} {n:Nat} {x:Str} (h:sc.names.lookup x=some .cell):∃c,(cellsFrom n sc.names []).lookup x=some c:=by
 have q:=W.cellsFrom_some sc.names n [] (.inl h);exact GT.mp q
theorem ZoZ {CX:Yu} {P:Program} {w:World} {K:W.Frag} {mg:Str->Option Value} {base:Heap} {N ps:List Str} {qual:Str} {scope:Scope} {f:Addr} {cd:Value} {A:Around} {outer:List Env} {s s1:Shared} {H:Hp} {E:XK} {us:List Value} {vs:List V}
  (S:FnScope N ps scope) (hd:A.handled=none) (e0:Env0 P w K mg base A outer s H) (hl:vs.length=ps.length) (r:Vals vs us)
  (x:InCallC s s.heap.objs.size (bindL (envOfC qual scope s.heap.objs.size f cd).kindOf (ps.zip us) fun _=>none) (cellsFrom (s.heap.objs.size+1) scope.names []) (bindC (envOfC qual scope s.heap.objs.size f cd).kindOf (ps.zip us) fun _=>none) s1) :
  Inv (We CX P w K mg base N qual scope f cd A outer s H E) [] (start N vs) H s1:=by
 have hpl:ps.length≤N.length:=by have:=Qy List.length S.pre;rw [Rl] at this;omega
 obtain ⟨h1,tk,rfl,hk⟩:=x.done;have noA:∀b:Addr,b∉(We CX P w K mg base N qual scope f cd A outer s H E).ex:=fun b z=>absurd (show b∈([]:List Addr) from z) (by simp)
 refine ⟨⟨e0.mod,S.kind,rfl,rfl,Qf _,fun y z c h1 h2=>?_,fun y hy=>?_,fun y c _ h=>?_,fun _=>hd,Around.frames_deeper e0.frames,.inr ⟨rfl,rfl⟩,fun b z=>absurd z (noA b),e0.bs,e0.bsz,fun b _ _=>noA b,fun b z=>absurd z (noA b),e0.funs,e0.frf⟩,
  rfl,e0.bare,Un.kept hk,⟨_,x.toInCall.ns,fun i y v h1 h2 h3=>?_⟩,fun y c h=>⟨_,x.cell y c h⟩,e0.hok.fresh (Qf _),fun y c h=>?_,fun p hp=>absurd (show p∈([]:List (Addr×Obj)) from hp) (by simp),e0.hok.kept hk,?_⟩
 ·exact name_of_addr x.apart (R4 h1) (R4 h2)
 ·have hy:scope.names.lookup y=some .cell∨scope.names.lookup y=some .free:=hy;rcases hy with hy|hy
  ·exact Zfx hy
  ·exact absurd rfl (S.nofree _ (R4 hy))
 ·exact QY (x.above y c (R4 h))
 ·have hi:i<vs.length:=by
   unfold start at h2;by_cases hi:i<vs.length
   ·exact hi
   ·rw [Ry (by simpa using hi)] at h2;rw [List.getElem?_replicate] at h2;split at h2<;>cases h2
  have ha:vs[i]?=some v:=by
   unfold start at h2;rw [RS (by simpa using hi),Qw] at h2;cases e:vs[i]? with
   |none=>rw [e] at h2;cases h2
   |some a=>rw [e] at h2;cases h2;rfl
  obtain ⟨u,hu,rv⟩:=r.get ha
  have hp:ps[i]?=some y:=by
   rw [←S.pre,List.getElem?_take_of_lt (by omega)];exact h1
  have ndP:ps.Nodup:=by rw [←S.pre];exact S.nd.sublist (Gr _ _)
  refine ⟨u,rv,?_⟩;rcases S.par y (QD hp) with k|k
  ·exact .inl ⟨k,ZeV ndP hp hu k⟩
  ·obtain ⟨c,e⟩:=Zfx (n:=s.heap.objs.size+1) k;refine .inr ⟨.inl k,c,e,?_⟩;have q:=x.cell y c e;rw [ZfN ndP hp hu (by show scope.names.lookup y≠_;rw [k];decide)] at q;exact q
 ·exact e0.hok.fresh (QY (x.above y c (R4 h)))
 ·unfold start;show _=N.length;rw [Qu,Qd,List.length_replicate];omega
theorem Zd1 {CX:Yu} {P:Program} {w:World} {K:W.Frag} {mg:Str->Option Value} {base:Heap} {k:Nat} {f:Addr} {name qual:Str} {params:Arguments} {body:List Stmt} {scope:Scope} {dV kV doc pm cdv ct oc:Value} {an od:Option Addr}
  {osl:Array (Option Value)} {N ps:List Str} {sp:Sp} (lk:K.lookup f=some ⟨oc,od,.func (W.fnOf name qual params body scope dV kV doc pm an cdv ct),osl⟩) (hcd:W.codeIn K cdv qual=true) (S:FnScope N ps scope)
  (len:∀vs H Q E,sp vs H Q E->vs.length=ps.length)
  (hbody:∀(A:Around) (outer:List Env) (s:Shared) (H:Hp) (vs:List V) (Q:VK) (E:XK),Room k (A.deeper (envOfC qual scope s.heap.objs.size f cdv))->sp vs H Q E →
   ∃t,PSs (We CX P w K mg base N qual scope f cdv A outer s H E) body t∧t { nx:=fun _ H'=>Q .non H',rt:=Q } (start N vs) H) :
  FnOk P w K mg base CX (k+1) f (W.fnOf name qual params body scope dV kV doc pm an cdv ct) ps sp:=by
 refine ⟨len,fun A outer s H args us vs Q E hr e0 hb r hsp=>?_⟩;have hl:=len _ _ _ _ hsp;have KX:K.In s.heap:=e0.mod.kin.keeps fun b o e=>(e0.bs b o e).1;have lim:s.heap.NoLimit:=e0.mod.nolimit.keeps fun b o e=>(e0.bs b o e).1
 have hkind:∀y∈ps.zip us,scope.names.lookup y.1=some .local∨(scope.names.lookup y.1=some .cell∧((cellsFrom (s.heap.objs.size+1) scope.names []).lookup y.1).isSome=true):=fun ⟨n,v⟩ hy=>by
  rcases S.par n (Ny hy).1 with q|q
  ·exact .inl q
  ·exact .inr ⟨q,W.cellsFrom_some _ _ _ (.inl q)⟩
 refine codeAny_call_function hr.depth (KX _ _ lk) rfl S.co S.gen rfl (W.codeRec_of KX hcd) (hb _ _ _ _ ?_);refine wpAny_newFunctionEnv_cells S.kind hkind fun env he s1 x=>?_;subst he;refine ⟨lim.keeps x.toInCall.keep,codeAny_func ?_⟩;obtain ⟨t,ht,hq⟩:=hbody A outer s H vs Q E (hr.deeper _) hsp;have I:Inv (We CX P w K mg base N qual scope f cdv A outer s H E) [] (start N vs) H s1:=ZoZ S hr.hd e0 hl r x;refine Q1 (ht [] s1 (start N vs) H _ I hq) (fun fl s' hs=>?_) fun e s' hs=>hs
 have fin:∀{σ':St} {H':Hp} {v:V} {u:Value},Inv (We CX P w K mg base N qual scope f cdv A outer s H E) [] σ' H' s'->RelV v u->Q v H'->CE outer P w H s Q u s' :=
  fun {σ' H' v u} J rv q=>⟨v,H',J.os,J.bare,J.base,J.hok,rv,q⟩
 cases fl with
 |ret u =>
  obtain ⟨v,σ',H',J,rv,q⟩:=hs;exact fin J rv q
 |next =>
  obtain ⟨σ',H',J,q⟩:=hs;exact fin (v:=V.non) (u:=Value.none) J rfl q
 |brk =>
  obtain ⟨_,_,_,q⟩:=hs;exact False.elim q
 |cont =>
  obtain ⟨_,_,_,q⟩:=hs;exact False.elim q
section
variable {X:Cx} {x:Str} {p pos:Pos} {e:Expr} {es:List Expr} {t:TA} {id T:String} {r:List V->Hp->VK->Prop}
def tCB (r:List V->Hp->VK->Prop) (t:TA):TE:=fun σ H Q=>t σ H fun vs H1=>r vs H1 Q
theorem ZN (hc:YG X (.builtin id) r) (hg:Gl X x) (hm:X.mg x=none) (hv:bootBuiltins x=some (.builtin id)) (ha:PA X (e::es) t) (hn:x≠"__name__":=by decide) (hdb:(x==("__debug__" : Str))=false:=by decide)
  (he:starEach (e::es) X.env=(false,eval e X.env)::starEach es X.env:=by rfl) (hpl:(backTo pos (starEach es X.env)).any (·.1)=false:=by rfl):PE X (.Call (.Name x p) (e::es) [] pos) (tCB r t):=by
 intro pins s σ H Q I h;refine Q9 (Wn I hg hm hv ?_ hn hdb);exact PyProof.Rows.callWith_builtin1 (Zr (ha pos pins s σ H _ I h) fun us s1 ⟨vs,H1,I1,r1,q1⟩=>hc pins s1 σ H1 vs us Q I1 r1 q1) he hpl
theorem VX (hc:YG X (.type T) r) (hg:Gl X x) (hm:X.mg x=none) (hv:bootBuiltins x=some (.type T)) (ha:PA X (e::es) t) (hn:x≠"__name__":=by decide) (hdb:(x==("__debug__" : Str))=false:=by decide)
  (he:starEach (e::es) X.env=(false,eval e X.env)::starEach es X.env:=by rfl) (hpl:(backTo pos (starEach es X.env)).any (·.1)=false:=by rfl):PE X (.Call (.Name x p) (e::es) [] pos) (tCB r t):=by
 intro pins s σ H Q I h;refine Q9 (Wn I hg hm hv ?_ hn hdb);exact RM (Zr (ha pos pins s σ H _ I h) fun us s1 ⟨vs,H1,I1,r1,q1⟩=>hc pins s1 σ H1 vs us Q I1 r1 q1) he hpl
end
end L2
namespace HT
open PySem PyProof.Rows
section
open PySem.SeqAt
open PySem.AutoSeq1 (wpAny_loadPart')
open PySem.MeetsSeq PySem.MeetsSeq2 PySem.MeetsSeq3
end
section
variable {prog:Program} {w:World} {A:Around} {E:Value->Shared->Prop} {s:Shared}
theorem cat_tup {t b:Addr} {vs ws:List Value} {Q:Value->Shared->Prop} (ht:IsTup s.heap t vs.toArray) (hb:IsTup s.heap b ws.toArray) (hv:vs≠[])
  (h1:ws=[]->Q (.ref t) s) (h2:ws≠[]->Q (.ref s.heap.objs.size) { s with heap:=s.heap.push { cls:=.type "tuple",data:=.seq (vs++ws).toArray } })
  (hsz:vs.length+ws.length≤sizeLine):wpAny (model prog w) A (binaryOp .Add (.ref t) (.ref b)) Q E s:=by
 obtain ⟨⟨cls,dd,data,sl⟩,ho,hc,n,hd⟩:=id ht;obtain ⟨⟨cls2,dd2,data2,sl2⟩,ho2,hc2,n2,hd2⟩:=id hb;simp only at hc hd hc2 hd2;subst hc hd hc2 hd2;have e:vs.toArray++ws.toArray=(vs++ws).toArray:=by simp
 by_cases hw:ws=[]
 ·exact concat_meets ⟨_,ho,rfl⟩ ⟨_,ho2,rfl⟩ noFill_tuple_add seq_tuple_add PySem.F.slot_tuple_add NY (NZ _ _)
   (tuple_addW1 t b vs.toArray ws.toArray n n2 dd dd2 sl sl2 (by simpa using hv) (by simp [hw])) ⟨ho,ho2,h1 hw⟩
 ·refine concat_meets ⟨_,ho,rfl⟩ ⟨_,ho2,rfl⟩ noFill_tuple_add seq_tuple_add PySem.F.slot_tuple_add NY (NZ _ _)
   (tuple_addW2 t b vs.toArray ws.toArray n n2 dd dd2 sl sl2 (by simpa using hv) (by simpa using hw) (by rw [Qv,Qv];exact hsz)) ⟨ho,ho2,?_⟩
  rw [e];exact h2 hw
noncomputable def sIx (n d:Nat):Option Int->Nat
 |none=>d
 |some v=>if v<0 then (v+(n:Int)).toNat else min v.toNat n
theorem sIx_nat (n d k:Nat):sIx n d (some (k:Int))=min k n:=by
 show (if (k:Int)<0 then ((k:Int)+(n:Int)).toNat else min (k:Int).toNat n)=min k n;rw [Qa (by omega),RT]
theorem Zny (n d:Nat) (hd:d≤n) (o:Option Int):sIx n d o≤n:=by
 cases o with
 |none=>exact hd
 |some v =>
  show (if v<0 then (v+(n:Int)).toNat else min v.toNat n)≤n;by_cases hv:v<0
  ·rw [Qc hv];omega
  ·rw [Qa hv];exact Nat.min_le_right _ _
theorem Zg0 (v:Int) (n d:Nat):(if v<0 then max (v+(n:Int)) 0 else min v (n:Int))=((sIx n d (some v):Nat):Int):=by
 show (if v<0 then max (v+(n:Int)) 0 else min v (n:Int))=(((if v<0 then (v+(n:Int)).toNat else min v.toNat n):Nat):Int);by_cases hv:v<0
 ·simp only [Qc hv];omega
 ·simp only [Qa hv];omega
theorem ZmR (lo hi:Option Int) (n:Nat):Builtin.Slice.sliceAdjust lo hi 1 (n:Int)=(((sIx n 0 lo:Nat):Int),((sIx n n hi:Nat):Int)):=by
 have h1:¬((1:Int)<0):=by omega
 unfold Builtin.Slice.sliceAdjust;simp only [h1,QV];refine R1 ?_ ?_
 ·cases lo with
  |none=>rfl
  |some v=>exact Zg0 v n 0
 ·cases hi with
  |none=>rfl
  |some v=>exact Zg0 v n n
theorem ZmL (i j:Nat):Builtin.Slice.slicePlaces (i:Int) (j:Int) 1=j-i:=by
 unfold Builtin.Slice.slicePlaces;have h1:(1:Int) > 0:=by omega
 simp only [h1,Q6,Int.ediv_one];split<;>omega
theorem Zeu {v:Value} {o:Option Int} {Q:Option Int->Shared->Prop} (p:IsPart v o) (h:Q o s):wpAny (model prog w) A (Builtin.Slice.slicePartIndex v) Q E s:=by
 cases p with
 |none=>exact slicePart_none h
 |int i t=>exact slicePart_int h
theorem Zlb {sl:Addr} {vl vu:Value} {lo hi:Option Int} {n:Nat} {Q:Int×Int×Nat->Shared->Prop} (hs:s.heap.IsSliceOf sl vl vu .none) (pl:IsPart vl lo) (pu:IsPart vu hi)
  (h:Q (((sIx n 0 lo:Nat):Int),1,sIx n n hi-sIx n 0 lo) s):wpAny (model prog w) A (Builtin.Slice.sliceApplied (.ref sl) (pure (n:Int))) Q E s:=by
 obtain ⟨os,hos,hcs,hds⟩:=id hs;unfold Builtin.Slice.sliceApplied Builtin.Slice.sliceFields;refine Qb (Qb (QE hos hds (x:=vl) rfl (Qb (QE hos hds (x:=vu) rfl (Qb (QE hos hds (x:=.none) rfl (Qe ?_)))))));refine Qb (slicePart_none ?_);show wpAny _ _ (if ((1:Int)==0)=true then _ else _) _ _ s;rw [Qa (by decide)];refine Qb (Zeu pl (Qb (Zeu pu (Qb (Qe ?_)))));show wpAny _ _ (match Builtin.Slice.sliceAdjust lo hi 1 (n:Int) with|(lo,hi)=>pure (lo,(1:Int),Builtin.Slice.slicePlaces lo hi 1)) _ _ s;rw [ZmR lo hi n];show wpAny _ _ (pure (((sIx n 0 lo:Nat):Int),(1:Int),Builtin.Slice.slicePlaces ((sIx n 0 lo:Nat):Int) ((sIx n n hi:Nat):Int) 1)) _ _ s;rw [ZmL];exact Qe h
theorem Zi5 (xs:Array Value) (i k:Nat):((List.range k).filterMap fun (m:Nat)=>xs[((i:Int)+(m:Int)*1).toNat]?).toArray=((xs.toList.drop i).take k).toArray:=by
 have e:(fun (m:Nat)=>xs[((i:Int)+(m:Int)*1).toNat]?)=fun m=>xs[i+m]?:=by
  funext m
  have:((i:Int)+(m:Int)*1).toNat=i+m:=by omega
  rw [this]
 rw [e];have:=pick_run xs i k;rw [List.filterMap_map] at this;have e2:((fun x=>xs[x]?)∘fun x=>i+x)=fun m=>xs[i+m]?:=rfl;rw [e2] at this;rw [this]
theorem getItem_tuple_cut {t sl:Addr} {items:Array Value} {vl vu:Value} {lo hi:Option Int} {Q:Value->Shared->Prop} (ht:IsTup s.heap t items) (hs:s.heap.IsSliceOf sl vl vu .none) (pl:IsPart vl lo) (pu:IsPart vu hi)
  (hw:¬(sIx items.size 0 lo=0∧sIx items.size items.size hi=items.size))
  (h:Q (.ref s.heap.objs.size) { s with heap:=s.heap.push { cls:=.type "tuple",data:=.seq ((items.toList.drop (sIx items.size 0 lo)).take (sIx items.size items.size hi-sIx items.size 0 lo)).toArray } })
  (hsz:items.size≤sizeLine):wpAny (model prog w) A (getItem (.ref t) (.ref sl)) Q E s:=by
 have htake:sizeOk (.seq ((items.toList.drop (sIx items.size 0 lo)).take (sIx items.size items.size hi-sIx items.size 0 lo)).toArray):=by
  show ((items.toList.drop (sIx items.size 0 lo)).take (sIx items.size items.size hi-sIx items.size 0 lo)).toArray.size≤sizeLine;rw [Qv,Rl,List.length_drop,RL];omega
 have hj:sIx items.size items.size hi≤items.size:=Zny _ _ (Qf _) hi;obtain ⟨os,hos,hcs,hds⟩:=id hs;have hTs:s.TypeIs (.ref sl) "slice":=⟨os,hos,hcs⟩;unfold getItem
 try with_reducible refine Rz ?_
 first|refine Qb (Qe ?_)|skip
 refine Qb (wpAny_sequenceKey ht.typeIs (by decide) ?_)
 refine Qb (Q7 (name:=Str.ofString "__getitem__") ht.typeIs Nz
  (QQ Nz ht.typeIs entry_tuple_getitem ?_ (args_tuple_getitem _ _)))
 show wpAny _ _ (Builtin.Tuple.tupleItemsOf (.ref t) >>= _) _ _ s;refine Qb (tupleItemsOf_ ht ?_);refine Qb (wpAny_typeOf hTs ?_);rw [Qc (by decide)];refine Qb (Zlb hs pl pu ?_)
 have hno:¬((((sIx items.size 0 lo:Nat):Int)==0&&(1:Int)==1&&(sIx items.size items.size hi-sIx items.size 0 lo)==items.size)=true):=by
  intro q;rw [RA,RA] at q;have q1:((sIx items.size 0 lo:Nat):Int)=0:=eq_of_beq q.1.1;have q2:sIx items.size items.size hi-sIx items.size 0 lo=items.size:=eq_of_beq q.2;exact hw ⟨by omega,by omega⟩
 show wpAny _ _ (if (((sIx items.size 0 lo:Nat):Int)==0&&(1:Int)==1&&(sIx items.size items.size hi-sIx items.size 0 lo)==items.size)=true then _ else _) _ _ s;rw [Qa hno,Zi5]
 first
  |exact Qb (m:=Builtin.Tuple.tupleExact _) (QM (Qe ⟨_,rfl,Qe h⟩) htake)
  |exact Qb (m:=Builtin.Tuple.tupleExact _) (QM (Qb (Qe (Qe ⟨_,rfl,Qe h⟩))) htake)
  |exact Qb (Qb (m:=Builtin.Tuple.tupleExact _) (QM (Qe (Qe ⟨_,rfl,Qe h⟩)) htake))
  |exact Qb (Qb (m:=Builtin.Tuple.tupleExact _) (QM (Qe ⟨_,rfl,Qe h⟩) htake))
end
end HT
namespace L2
open PySem PySem.Spec PyProof.Rows
abbrev TO:=St->Hp->(Option Int->Hp->Prop)->Prop
def PO (X:Cx) (e:Option Expr) (t:TO):Prop :=
 ∀(pins:List (Addr×Obj)) (s:Shared) (σ:St) (H:Hp) (Q:Option Int->Hp->Prop),Inv X pins σ H s->t σ H Q →
  wpAny (model X.prog X.w) X.A (evalPart e X.env) (fun u s'=>∃o H',Inv X pins σ H' s'∧IsPart u o∧Q o H') X.xe s
def JO:TO:=fun _ H Q=>Q none H
def Zif (t:TE):TO:=fun σ H Q=>t σ H fun x H1=>∃i,x=.int i∧Q (some i) H1
section
variable {X:Cx} {e:Expr} {te:TE} {lo hi:Option Expr} {tl th:TO} {pos p2:Pos}
theorem UI:PO X none JO:=by
 intro pins s σ H Q I h;rw [evalPart_none];exact Qe ⟨none,H,I,.none,h⟩
theorem Vo (h:PE X e te):PO X (some e) (Zif te):=by
 intro pins s σ H Q I hw;rw [evalPart_some];refine Zr (h pins s σ H _ I hw) fun u s1 ⟨x,H1,I1,r1,q1⟩=>?_;obtain ⟨i,rfl,q⟩:=q1;obtain ⟨t,rfl⟩:=r1;exact ⟨some i,H1,I1,.int i t,q⟩
def SlR (X:Cx) (r:V->Option Int->Option Int->Hp->VK->Prop):Prop :=
 ∀(pins:List (Addr×Obj)) (s:Shared) (σ:St) (H:Hp) (x:V) (v vl vu:Value) (lo hi:Option Int) (sl:Addr) (Q:VK),Inv X pins σ H s->RelV x v->s.heap.IsSliceOf sl vl vu .none->IsPart vl lo->IsPart vu hi->r x lo hi H Q →
  ∃T id,typeLookup (.type T) "__getitem__"=pure (some (.builtin id))∧s.TypeIs v T∧wpAny (model X.prog X.w) X.A (getItem v (.ref sl)) (EP X pins σ Q) X.xe s
def tSl (r:V->Option Int->Option Int->Hp->VK->Prop) (te:TE) (tl th:TO):TE:=fun σ H Q=>te σ H fun x H1=>tl σ H1 fun l H2=>th σ H2 fun u H3=>r x l u H3 Q
theorem VE {r:V->Option Int->Option Int->Hp->VK->Prop} (hr:SlR X r) (he:PE X e te) (hl:PO X lo tl) (hu:PO X hi th):PE X (.Subscript e (.Slice lo hi none p2) pos) (tSl r te tl th):=by
 intro pins s σ H Q I h;refine Subscript_ (Zr (he pins s σ H _ I h) fun v s1 ⟨x,H1,I1,r1,q1⟩=>?_);refine wpAny_Slice (Zr (hl pins s1 σ H1 _ I1 q1) fun vl s2 ⟨l,H2,I2,pl,q2⟩=>Zr (hu pins s2 σ H2 _ I2 q2) fun vu s3 ⟨u,H3,I3,pu,q3⟩=>?_);rw [evalPart_none];refine Qe ?_;have I4:Inv X pins σ H3 { s3 with heap:=s3.heap.push { cls:=.type "slice",data:=.fields #[vl,vu,.none] } }:=I3.kept (t':=s3.toks) fun b ob q=>Qi _ q;obtain ⟨T,id,hT,ht,hg⟩:=hr pins { s3 with heap:=s3.heap.push { cls:=.type "slice",data:=.fields #[vl,vu,.none] } } σ H3 x v vl vu l u s3.heap.objs.size Q I4 r1 (Heap.IsSliceOf.new ..) pl pu q3;show wpAny (model X.prog X.w) X.A (subscriptTail e (.Slice lo hi none p2) v (.ref s3.heap.objs.size)) (EP X pins σ Q) X.xe { s3 with heap:=s3.heap.push { cls:=.type "slice",data:=.fields #[vl,vu,.none] } };exact tail_any (ops:=[.ref s3.heap.objs.size,v]) ht hT hg (by with_unfolding_all rfl)
noncomputable def YN (xs:List V) (lo hi:Option Int):List V:=(xs.drop (HT.sIx xs.length 0 lo)).take (HT.sIx xs.length xs.length hi-HT.sIx xs.length 0 lo)
theorem Zcs (xs:List V) (lo hi:Option Int):(YN xs lo hi).length≤xs.length:=by
 unfold YN;rw [Rl,List.length_drop];omega
def ZfQ (K:W.Frag):V->Option Int->Option Int->Hp->VK->Prop:=fun x lo hi H Q=>∃a xs,x=.ref a∧SqT K H a xs ∧
 ¬(HT.sIx xs.length 0 lo=0∧HT.sIx xs.length xs.length hi=xs.length)∧∀p,H p=none->Q (.ref p) (Zb H p (.tup (YN xs lo hi)))
theorem ZaW:SlR X (ZfQ X.K):=by
 intro pins s σ H x v vl vu lo hi sl Q I rx hs pl pu h;obtain ⟨a,xs,rfl,hx,hw,q⟩:=h;cases rx;obtain ⟨its,r,ht,hz⟩:=I.tuple hx;have hlen:its.toArray.size=xs.length:=by rw [Qv];exact r.length.symm
 refine ⟨"tuple",_,Nz.lookup,ht.typeIs,?_⟩;refine HT.getItem_tuple_cut ht hs pl pu (by rw [hlen];exact hw) ?_ (by rw [hlen];exact hz);rw [hlen];refine ⟨.ref s.heap.objs.size,_,I.laid (t':=s.toks) (o:=.tup (YN xs lo hi)) (fun b ob q=>Qi _ q) (Qf _) ?_,rfl,q _ (I.hok.fresh (Qf _))⟩;exact ⟨Qo (Zcs xs lo hi) hz,_,(r.drop (HT.sIx xs.length 0 lo)).take (HT.sIx xs.length xs.length hi-HT.sIx xs.length 0 lo),IsTup.new _ _⟩
def ZoG (K:W.Frag):R2:=fun x y H Q=>∃a b xs ys,x=.ref a∧y=.ref b∧SqT K H a xs∧SqT K H b ys∧xs≠[]∧xs.length+ys.length≤sizeLine ∧
 (ys=[]->Q (.ref a) H)∧(ys≠[]->∀p,H p=none->Q (.ref p) (Zb H p (.tup (xs++ys))))
theorem Vals.nil_iff {xs:List V} {us:List Value} (r:Vals xs us):us=[]↔xs=[]:=by
 cases r with
 |nil=>simp
 |cons _ _=>simp
theorem ZmZ:Yq X (binaryOp .Add) (ZoG X.K):=by
 intro pins s σ H x y v u Q I rx ry h;obtain ⟨a,b,xs,ys,rfl,rfl,ha,hb,hx,hz,q1,q2⟩:=h;cases rx;cases ry;obtain ⟨its,r1,p1,_⟩:=I.tuple ha;obtain ⟨its2,r2,p2,_⟩:=I.tuple hb;refine HT.cat_tup p1 p2 (fun z=>hx (r1.nil_iff.mp z)) (fun z=>⟨.ref a,H,I,rfl,q1 (r2.nil_iff.mp z)⟩) (fun z=>?_) (by rw [←r1.length,←r2.length];exact hz);refine ⟨.ref s.heap.objs.size,_,I.laid (t':=s.toks) (o:=.tup (xs++ys)) (fun b ob q=>Qi _ q) (Qf _) ?_,rfl,q2 (fun w=>z (r2.nil_iff.mpr w)) _ (I.hok.fresh (Qf _))⟩;exact ⟨by rw [Qu];exact hz,_,r1.append r2,IsTup.new _ _⟩
end
noncomputable def W6 (n:Nat) (i:Int):Option Nat:=if 0≤i then (if i<n then some i.toNat else none) else if -(n:Int)≤i then some (i+n).toNat else none
noncomputable def Yl {α:Type} (xs:List α) (i:Int):Option α:=(W6 xs.length i).bind fun j=>xs[j]?
theorem ZmN {n:Nat} {i:Int} {j:Nat} (h:W6 n i=some j):seqIndex? i n=some j∧j<n∧-(n:Int)≤i∧i<n:=by
 unfold W6 at h;by_cases h0:0≤i
 ·rw [Qc h0] at h;by_cases h1:i<n
  ·rw [Qc h1] at h;have e:i.toNat=j:=Qn h;exact ⟨by rw [seqIndex_of h0 h1,e],by omega,by omega,h1⟩
  ·rw [Qa h1] at h;cases h
 ·rw [Qa h0] at h;by_cases h1:-(n:Int)≤i
  ·rw [Qc h1] at h;have e:(i+n).toNat=j:=Qn h;exact ⟨by rw [seqIndex_neg (by omega) h1,e],by omega,h1,by omega⟩
  ·rw [Qa h1] at h;cases h
theorem ZbB {α:Type} {xs:List α} {i:Int} {v:α} (h:Yl xs i=some v):∃j,seqIndex? i xs.length=some j∧xs[j]?=some v∧j<xs.length∧-(xs.length:Int)≤i∧i<xs.length:=by
 unfold Yl at h;cases e:W6 xs.length i with
 |none=>rw [e] at h;cases h
 |some j =>
  rw [e] at h;obtain ⟨h1,h2,h3,h4⟩:=ZmN e;exact ⟨j,h1,h,h2,h3,h4⟩
theorem XT {α:Type} {xs:List α} {j:Nat} {v:α} (h:xs[j]?=some v):Yl xs (j:Int)=some v:=by
 have hj:j<xs.length:=(QI.mp h).1
 have e:W6 xs.length (j:Int)=some j:=by
  unfold W6;rw [Qc (by omega),Qc (by omega)];simp
 unfold Yl;rw [e];exact h
theorem Zip {α:Type} (xs:List α) (v:α):Yl (xs++[v]) (-1)=some v:=by
 have hl:(xs++[v]).length=xs.length+1:=by simp
 have e:W6 (xs++[v]).length (-1)=some xs.length:=by
  unfold W6;rw [hl,Qa (by decide),Qc (by omega)]
  congr 1
  omega
 unfold Yl;rw [e];show (xs++[v])[xs.length]?=some v;simp
def Zo1 (b:Expr):Prop:=∀o i,subscripted b false o i=operate [o,i] (getItem o i)
def Us (X:Cx) (r:R2):Prop :=
 ∀(value slice:Expr) (pins:List (Addr×Obj)) (s:Shared) (σ:St) (H:Hp) (x y:V) (v u:Value) (Q:VK),Inv X pins σ H s->RelV x v->RelV y u->r x y H Q →
  subscripted slice false v u=operate [v,u] (getItem v u)->wpAny (model X.prog X.w) X.A (subscriptTail value slice v u) (EP X pins σ Q) X.xe s
def VI (X:Cx) (id:String) (r:V->List V->Hp->VK->Prop):Prop :=
 ∀(pins:List (Addr×Obj)) (s:Shared) (σ:St) (H:Hp) (x:V) (xs:List V) (v:Value) (us:List Value) (Q:VK),Inv X pins σ H s->RelV x v->Vals xs us->r x xs H Q →
  wpAny (model X.prog X.w) X.A (call (.builtin id) (v::us)) (EP X pins σ Q) X.xe s
section
variable {X:Cx} {a b:Expr} {ta tb:TE} {pos:Pos}
theorem Zm {r:R2} (hr:Us X r) (ha:PE X a ta) (hb:PE X b tb) (hs:Zo1 b):PE X (.Subscript a b pos) (tOp r ta tb):=by
 intro pins s σ H Q I h;exact Subscript_ (ZdQ ha hb I h fun v u s2 x y H2 I2 rx ry q=>hr a b pins s2 σ H2 x y v u Q I2 rx ry q (hs _ _))
def Zgn (K:W.Frag):R2:=fun x y H Q=>∃p xs i v,x=.ref p∧y=.int i∧SqL K H p xs∧Yl xs i=some v∧Q v H
def Zgw (K:W.Frag):R2:=fun x y H Q=>∃p xs i v,x=.ref p∧y=.int i∧SqT K H p xs∧Yl xs i=some v∧Q v H
def Zlc:R2:=fun x y H Q=>∃z i c,x=.str z∧y=.int i∧z.length≤sizeLine∧Yl z.cps.toList i=some c∧Q (.str ⟨#[c]⟩) H
theorem Ym:Us X (Zgn X.K):=by
 intro value slice pins s σ H x y v u Q I rx ry h hs;obtain ⟨p,xs,i,z,rfl,rfl,hq,he,q⟩:=h;cases rx;obtain ⟨t,rfl⟩:=ry;obtain ⟨its,r,pl,hz⟩:=I.list hq;obtain ⟨j,h1,h2,h3,h4,h5⟩:=ZbB he;obtain ⟨w,ew,rw'⟩:=r.get h2;have hl:=r.length;have hn:=Vs;have fin:EP X pins σ Q w s:=⟨z,H,I,rw',q⟩;by_cases h0:0≤i
 ·have hj:i.toNat=j:=by
   rw [seqIndex_of h0 h5] at h1;exact Qn h1
  exact item_listR pl.isList h0 (by omega) (by rw [hj];simpa using ew) fin hs
 ·have hj:(i+(its.toArray.size:Int)).toNat=j:=by
   rw [seqIndex_neg (by omega) h4] at h1;rw [Qv,←hl];exact Qn h1
  exact subscriptTail_builtinR (x:=w) pl.isList.typeIs slot_list_getitem.lookup
   (wpAny_getItem_list_neg (Q:=fun r s'=>r=w∧EP X pins σ Q r s') pl.isList (by omega) (by rw [Qv]<;>omega) (by omega) (by rw [hj];simpa using ew) ⟨rfl,fin⟩) hs
theorem Zq:Us X (Zgw X.K):=by
 intro value slice pins s σ H x y v u Q I rx ry h hs;obtain ⟨p,xs,i,z,rfl,rfl,hq,he,q⟩:=h;cases rx;obtain ⟨t,rfl⟩:=ry;obtain ⟨its,r,pl,hz⟩:=I.tuple hq;obtain ⟨j,h1,h2,h3,h4,h5⟩:=ZbB he;obtain ⟨w,ew,rw'⟩:=r.get h2;have hl:=r.length;have hn:=Vs;have fin:EP X pins σ Q w s:=⟨z,H,I,rw',q⟩
 exact subscriptTail_builtinR (x:=w) pl.typeIs slot_tuple_getitem.lookup
  (getItem_tuple (j:=j) (Q:=fun r s'=>r=w∧EP X pins σ Q r s') pl (by omega) (by omega) (by rw [Qv,←hl];exact h1) (by simpa using ew) ⟨rfl,fin⟩) hs
theorem Zkx:Us X Zlc:=by
 intro value slice pins s σ H x y v u Q I rx ry h hs;obtain ⟨z,i,c,rfl,rfl,hz,he,q⟩:=h;obtain ⟨t,rfl⟩:=rx;obtain ⟨t',rfl⟩:=ry;obtain ⟨j,h1,h2,h3,h4,h5⟩:=ZbB he;have hl:z.cps.toList.length=z.length:=by simp [Str.length]
 rw [hl] at h1 h4 h5;have hn:=Vs
 exact tail_any (Gc s z t) slot_str_getitem.lookup (getItem_str (c:=c) (by
  have e1:decide (i< -(2 ^ 63:Int))=false:=Qj (by omega);have e2:decide (i ≥ 2 ^ 63)=false:=Qj (by omega);rw [e1,e2,Bool.or_false]) (by rw [h1];simpa using h2) ⟨.str ⟨#[c]⟩,H,I.tok _,⟨_,rfl⟩,q⟩) hs
theorem ZlO (lo hi:Option Int) (n:Nat):(sliceBounds lo hi none n).1=((HT.sIx n 0 lo:Nat):Int)∧(sliceBounds lo hi none n).2.1=((HT.sIx n n hi:Nat):Int)∧(sliceBounds lo hi none n).2.2=1:=by
 refine ⟨?_,?_,rfl⟩
 ·cases lo with
  |none=>simp [sliceBounds,HT.sIx]
  |some i =>
   simp only [sliceBounds,HT.sIx,Option.getD_none,show (1:Int) > 0 by decide,Q6];by_cases h:i<0
   ·simp only [h,Q6]<;>omega
   ·simp only [h,QV]<;>omega
 ·cases hi with
  |none=>simp [sliceBounds,HT.sIx]
  |some i =>
   simp only [sliceBounds,HT.sIx,Option.getD_none,show (1:Int) > 0 by decide,Q6];by_cases h:i<0
   ·simp only [h,Q6]<;>omega
   ·simp only [h,QV]<;>omega
theorem Zji (its:List Value) (lo hi:Option Int):slicePick its.toArray lo hi none=((its.drop (HT.sIx its.length 0 lo)).take (HT.sIx its.length its.length hi-HT.sIx its.length 0 lo)).toArray:=by
 obtain ⟨h1,h2,h3⟩:=ZlO lo hi its.toArray.size;unfold slicePick;rw [h1,h2,h3];simp only [sliceRange_one,pick_run,Qv]<;>rfl
def Zoc (K:W.Frag):V->Option Int->Option Int->Hp->VK->Prop:=fun x lo hi H Q=>∃a xs,x=.ref a∧SqL K H a xs∧∀p,H p=none->Q (.ref p) (Zb H p (.lst (YN xs lo hi)))
theorem ZeJ:SlR X (Zoc X.K):=by
 intro pins s σ H x v vl vu lo hi sl Q I rx hs pl pu h;obtain ⟨a,xs,rfl,hx,q⟩:=h;cases rx;obtain ⟨its,r,ht,hz⟩:=I.list hx;have hlen:=r.length;refine ⟨"list",_,slot_list_getitem.lookup,ht.isList.typeIs,?_⟩;refine wpAny_getItem_list_slice ht.isList hs pl pu .none (by simp) ?_ (by rw [Qv]<;>omega);rw [Zji,←hlen];refine ⟨.ref s.heap.objs.size,_,I.laid (t':=s.toks) (o:=.lst (YN xs lo hi)) (fun b ob q=>Qi _ q) (Qf _) ?_,rfl,q _ (I.hok.fresh (Qf _))⟩;exact ⟨Qo (Zcs xs lo hi) hz,_,0,(r.drop (HT.sIx xs.length 0 lo)).take (HT.sIx xs.length xs.length hi-HT.sIx xs.length 0 lo),Ql _ rfl⟩
noncomputable def WW:V->Bool
 |.non=>true
 |.bl _=>true
 |.int _=>true
 |.str _=>true
 |_=>false
noncomputable def XD:V->V->Bool
 |.non,.non=>true
 |.bl a,.bl b=>a==b
 |.bl a,.int b=>(if a then 1 else 0)==b
 |.int a,.bl b=>a==(if b then 1 else 0)
 |.int a,.int b=>a==b
 |.str a,.str b=>a==b
 |_,_=>false
theorem Zf3 {A:Around} {s:Shared} {y x:V} {u v:Value} (ry:RelV y u) (rx:RelV x v) (fy:WW y=true) (fx:WW x=true):SeqAt.EqAt A s u v (XD y x):=by
 cases y with
 |non =>
  cases ry;cases x with
  |non=>cases rx;exact SeqAt.EqAt.same _
  |bl b=>cases rx;exact SeqAt.EqAt.none_bool b
  |int b=>obtain ⟨t,rfl⟩:=rx;exact SeqAt.EqAt.none_int b t
  |str b=>obtain ⟨t,rfl⟩:=rx;exact SeqAt.EqAt.none_str b t
  |_=>exact absurd (show false=true from fx) QA
 |bl a =>
  cases ry;cases x with
  |non=>cases rx;exact SeqAt.EqAt.bool_none a
  |bl b=>cases rx;exact SeqAt.EqAt.bool_bool a b
  |int b=>obtain ⟨t,rfl⟩:=rx;exact SeqAt.EqAt.bool_int a b t
  |str b=>obtain ⟨t,rfl⟩:=rx;exact SeqAt.EqAt.bool_str a b t
  |_=>exact absurd (show false=true from fx) QA
 |int a =>
  obtain ⟨t',rfl⟩:=ry;cases x with
  |non=>cases rx;exact SeqAt.EqAt.int_none a t'
  |bl b=>cases rx;exact SeqAt.EqAt.int_bool a t' b
  |int b=>obtain ⟨t,rfl⟩:=rx;exact SeqAt.EqAt.int_int a t' b t
  |str b=>obtain ⟨t,rfl⟩:=rx;exact SeqAt.EqAt.int_str a t' b t
  |_=>exact absurd (show false=true from fx) QA
 |str a =>
  obtain ⟨t',rfl⟩:=ry;cases x with
  |non=>cases rx;exact SeqAt.EqAt.str_none a t'
  |bl b=>cases rx;exact SeqAt.EqAt.str_bool a t' b
  |int b=>obtain ⟨t,rfl⟩:=rx;exact SeqAt.EqAt.str_int a t' b t
  |str b=>obtain ⟨t,rfl⟩:=rx;exact SeqAt.EqAt.str_str a t' b t
  |_=>exact absurd (show false=true from fx) QA
 |_=>exact absurd (show false=true from fy) QA
noncomputable def Xe (x:V) (u:Value):Bool:=match u with
 |.none=>XD .non x
 |.bool b=>XD (.bl b) x
 |.int i _=>XD (.int i) x
 |.str z _=>XD (.str z) x
 |_=>false
theorem Zhr {x y:V} {u:Value} (r:RelV y u) (f:WW y=true):Xe x u=XD y x:=by
 cases y with
 |non=>cases r;rfl
 |bl b=>cases r;rfl
 |int i=>obtain ⟨t,rfl⟩:=r;rfl
 |str z=>obtain ⟨t,rfl⟩:=r;rfl
 |_=>exact absurd (show false=true from f) QA
theorem U0 {x:V}:∀{xs:List V} {us:List Value},Vals xs us->xs.all WW=true->us.any (Xe x)=xs.any fun y=>XD y x
 |_,_,.nil,_=>rfl
 |y::xs,u::us,.cons r t,f=>by
  rw [GU,RA] at f;rw [Rm,Rm,Zhr r f.1,U0 t f.2]
theorem JE {A:Around} {s:Shared} {x:V} {v:Value} (rx:RelV x v) (fx:WW x=true):∀{xs:List V} {us:List Value},Vals xs us->xs.all WW=true->∀u∈us,SeqAt.EqAt A s u v (Xe x u)
 |_,_,.nil,_=>fun u hu=>by cases hu
 |y::xs,u::us,.cons r t,f=>fun u' hu=>by
  rw [GU,RA] at f;rcases Qh.mp hu with rfl|hu
  ·rw [Zhr r f.1];exact Zf3 r rx f.1 fx
  ·exact JE rx fx t f.2 u' hu
noncomputable def YV (x:V) (xs:List V):Bool:=xs.any fun y=>XD y x
def rIn (K:W.Frag) (neg:Bool):R2:=fun x y H Q=>∃p xs,y=.ref p∧(SqL K H p xs∨SqT K H p xs)∧WW x=true∧xs.all WW=true∧Q (.bl (if neg then !YV x xs else YV x xs)) H
theorem VQ:Yq X (compareOp .In) (rIn X.K false):=by
 intro pins s σ H x y v u Q I rx ry h;obtain ⟨p,xs,rfl,hq,fx,fs,q⟩:=h;cases ry;rcases hq with hq|hq
 ·obtain ⟨its,r,pl,hz⟩:=I.list hq;refine SeqAt.in_listAt (Xe x) pl.isList (fun w hw=>JE rx fx r fs w (by simpa using hw)) ⟨.bl _,H,I,rfl,?_⟩;rw [show its.toArray.any (Xe x)=its.any (Xe x) by simp,U0 r fs];exact q
 ·obtain ⟨its,r,pl,hz⟩:=I.tuple hq;refine SeqAt.in_tupleAt (Xe x) pl (fun w hw=>JE rx fx r fs w (by simpa using hw)) ⟨.bl _,H,I,rfl,?_⟩;rw [show its.toArray.any (Xe x)=its.any (Xe x) by simp,U0 r fs];exact q
theorem ZgW:Yq X (compareOp .NotIn) (rIn X.K true):=by
 intro pins s σ H x y v u Q I rx ry h;obtain ⟨p,xs,rfl,hq,fx,fs,q⟩:=h;cases ry;rcases hq with hq|hq
 ·obtain ⟨its,r,pl,hz⟩:=I.list hq;refine SeqAt.notIn_listAt (Xe x) pl.isList (fun w hw=>JE rx fx r fs w (by simpa using hw)) ⟨.bl _,H,I,rfl,?_⟩;rw [show its.toArray.any (Xe x)=its.any (Xe x) by simp,U0 r fs];exact q
 ·obtain ⟨its,r,pl,hz⟩:=I.tuple hq;refine SeqAt.notIn_tupleAt (Xe x) pl (fun w hw=>JE rx fx r fs w (by simpa using hw)) ⟨.bl _,H,I,rfl,?_⟩;rw [show its.toArray.any (Xe x)=its.any (Xe x) by simp,U0 r fs];exact q
theorem Yw:YG X (.builtin "len") (fun xs H Q=>∃p ys,xs=[.ref p]∧(SqL X.K H p ys∨SqT X.K H p ys)∧Q (.int ys.length) H):=by
 intro pins s σ H xs us Q I r h;obtain ⟨p,ys,rfl,hq,q⟩:=h;obtain ⟨u,rfl,rx⟩:=YY r;cases rx;have hn:=Vs;rcases hq with hq|hq
 ·obtain ⟨its,r',pl,hz⟩:=I.list hq;have hlen:=r'.length;exact Calls.call_len_list pl.isList (by simp only [Qv]<;>omega) ⟨.int ys.length,H,I.tok _,⟨s.toks+1,by rw [Qv,hlen]⟩,q⟩
 ·obtain ⟨its,r',pl,hz⟩:=I.tuple hq;have hlen:=r'.length;exact len_tuple pl (by simp only [Qv]<;>omega) ⟨.int ys.length,H,I.tok _,⟨s.toks+1,by rw [Qv,hlen]⟩,q⟩
theorem ZgE:YG X (.builtin "len") (fun xs H Q=>∃z,xs=[.str z]∧z.length≤sizeLine∧Q (.int z.length) H):=by
 intro pins s σ H xs us Q I r h;obtain ⟨z,rfl,hz,q⟩:=h;obtain ⟨u,rfl,t,rfl⟩:=YY r;have hn:=Vs;exact len_str (by omega) ⟨.int z.length,H,I.tok _,⟨_,rfl⟩,q⟩
theorem Ze2:YG X (.type "list") (fun xs H Q=>∃p ys,xs=[.ref p]∧(SqL X.K H p ys∨SqT X.K H p ys)∧∀l,H l=none->Q (.ref l) (Zb H l (.lst ys))):=by
 intro pins s σ H xs us Q I r h;obtain ⟨p,ys,rfl,hq,q⟩:=h;obtain ⟨u,rfl,rx⟩:=YY r;cases rx
 have fin : ∀(its : List Value), Vals ys its → ys.length ≤ sizeLine → ∀(h' : Heap) (c' : Nat), (∀b o', s.heap.get? b=some o' → h'.get? b=some o') →
   h'.get? s.heap.objs.size=some { cls:=.type "list",dict:=none,data:=.seq its.toArray c',slots:=#[] }->EP X pins σ Q (.ref s.heap.objs.size) { s with heap:=h' }:=fun its r' hz h' c' kp e =>
  ⟨.ref s.heap.objs.size,_,I.laid (t':=s.toks) kp (Qf _) (show ObjOk X.prog X.w _ h' _ (.lst ys) from ⟨hz,its,c',r',e⟩),rfl,q _ (I.hok.fresh (Qf _))⟩
 rcases hq with hq|hq
 ·obtain ⟨its,r',pl,hz⟩:=I.list hq;have hlen:=r'.length;obtain ⟨o,ho,hc,n,hd⟩:=pl.isList;exact call_list_seq p (.inl rfl) ho hc hd (fun h' c' kp e=>fin its r' hz h' c' kp e) (by simp only [Qv]<;>omega)
 ·obtain ⟨its,r',pl,hz⟩:=I.tuple hq;have hlen:=r'.length;obtain ⟨o,ho,hc,n,hd⟩:=pl;exact call_list_seq p (.inr rfl) ho hc hd (fun h' c' kp e=>fin its r' hz h' c' kp e) (by simp only [Qv]<;>omega)
theorem ZfG:YG X (.type "tuple") (fun xs H Q=>∃p ys,xs=[.ref p]∧((SqL X.K H p ys∧∀l,H l=none->Q (.ref l) (Zb H l (.tup ys)))∨(SqT X.K H p ys∧Q (.ref p) H))):=by
 intro pins s σ H xs us Q I r h;obtain ⟨p,ys,rfl,h⟩:=h;obtain ⟨u,rfl,rx⟩:=YY r;cases rx;rcases h with ⟨hq,q⟩|⟨hq,q⟩
 ·obtain ⟨its,r',pl,hz⟩:=I.list hq;have hlen:=r'.length;refine call_tuple_list pl.isList (fun h' kp=>?_) (by simp only [Qv]<;>omega);have I1:Inv X pins σ H { s with heap:=h' }:=I.kept (t':=s.toks) kp
  have I2:Inv X pins σ (Zb H h'.objs.size (.tup ys)) { s with heap:=h'.push { cls:=.type "tuple",data:=.seq its.toArray } } :=
   I1.laid (t':=s.toks) (fun b o e=>Qi _ e) (Qf _) (show ObjOk X.prog X.w _ _ _ (.tup ys) from ⟨hz,its,r',IsTup.new _ _⟩)
  exact ⟨.ref h'.objs.size,_,I2,rfl,q _ (I1.hok.fresh (Qf _))⟩
 ·obtain ⟨its,r',pl,hz⟩:=I.tuple hq;exact call_tuple_same pl ⟨.ref p,H,I,rfl,q⟩
def tyV (K:W.Frag) (T:String) (x:V) (H:Hp):Prop:=match x with
 |.str _=>T="str"
 |.int _=>T="int"
 |.ref p => (T="list" ∧ ∃xs, SqL K H p xs) ∨ (T="tuple" ∧ ∃o, K.lookup p=some o ∧ o.cls=.type "tuple" ∧ o.dict=none) ∨
   (T="dict"∧((∃kvs,H p=some (.dK kvs))∨∃kvs,H p=some (.dT kvs)))∨(T="set"∧∃S n,H p=some (.set S n))
 |_=>False
theorem Zeh {pins:List (Addr×Obj)} {σ:St} {H:Hp} {s:Shared} {T:String} {x:V} {v:Value} (I:Inv X pins σ H s) (r:RelV x v) (ty:tyV X.K T x H) :
  s.TypeIs v T∧∀a,v=.ref a->∃ob,s.heap.get? a=some ob∧ob.dict=none:=by
 cases x with
 |str z =>
  obtain ⟨t,rfl⟩:=r;cases (show T="str" from ty);exact ⟨Gc s z t,fun _ e=>nomatch e⟩
 |int i =>
  obtain ⟨t,rfl⟩:=r;cases (show T="int" from ty);exact ⟨typeIs_int s i t,fun _ e=>nomatch e⟩
 |ref p =>
  cases r;rcases ty with ⟨rfl,xs,hq⟩|⟨rfl,o,hk,hc,hd⟩|⟨rfl,hk⟩|⟨rfl,S,n,hk⟩
  ·obtain ⟨its,_,pl,_⟩:=I.list hq;refine ⟨pl.isList.typeIs,fun a e=>?_⟩;cases e;obtain ⟨o,n,e,c,hd,_⟩:=pl;exact ⟨o,e,hd⟩
  ·refine ⟨⟨o,I.kIn p o hk,hc⟩,fun a e=>?_⟩;cases e;exact ⟨o,I.kIn _ o hk,hd⟩
  ·have z:∃o,s.heap.get? p=some o∧o.ExactDict:=by
    rcases hk with ⟨kvs,hk⟩|⟨kvs,hk⟩
    ·obtain ⟨_,_,_,_,o,_,_,e,ex,_⟩:=I.hok p _ hk;exact ⟨o,e,ex⟩
    ·obtain ⟨_,_,_,_,o,_,_,e,ex,_⟩:=I.hok p _ hk;exact ⟨o,e,ex⟩
   obtain ⟨o,e,ex⟩:=z;refine ⟨⟨o,e,ex.1⟩,fun a e2=>?_⟩;cases e2;exact ⟨o,e,ex.2.1⟩
  ·obtain ⟨o,_,_,_,e,ex,_⟩:=I.hok p _ hk;refine ⟨⟨o,e,ex.1⟩,fun a e2=>?_⟩;cases e2;exact ⟨o,e,ex.2.1⟩
 |_=>exact False.elim ty
def ZgT (K:W.Frag) (T:String) (r:V->List V->Hp->VK->Prop) (to:TE):TE:=fun σ H Q=>to σ H fun x H1=>tyV K T x H1∧r x [] H1 Q
def tBM (K:W.Frag) (T:String) (r:V->List V->Hp->VK->Prop) (to:TE) (t:TA):TE:=fun σ H Q=>to σ H fun x H1=>tyV K T x H1∧t σ H1 fun xs H2=>r x xs H2 Q
variable {o e:Expr} {es:List Expr} {to:TE} {t:TA} {name:Str} {apos cpos:Pos} {T id:String} {r:V->List V->Hp->VK->Prop}
theorem Zg7 (pa:PlainAttrs T) (slot:Slot T name id) (hty:typeOf (.builtin id)=pure (.type "method_descriptor")) (hm:VI X id r) (ho:PE X o to)
  (hbase:attributeBase o name X.env (eval o X.env)=eval o X.env:=by rfl) (hline:(apos.endLine==cpos.line)=true:=by rfl):PE X (.Call (.Attribute o name apos) [] [] cpos) (ZgT X.K T r to):=by
 intro pins s σ H Q I h;refine wpAny_Call_method0_late hbase hline (Zr (ho pins s σ H _ I h) fun v s1 ⟨x,H1,I1,r1,ty,q1⟩=>?_);obtain ⟨h1,h2⟩:=Zeh I1 r1 ty;exact ⟨T,id,pa,slot,hty,h1,h2,GV rfl (PySem.evalArgs_none (hm pins s1 σ H1 x [] v [] Q I1 r1 .nil q1))⟩
theorem X7 (pa:PlainAttrs T) (slot:Slot T name id) (hty:typeOf (.builtin id)=pure (.type "method_descriptor")) (hm:VI X id r) (ho:PE X o to) (ha:PA X (e::es) t)
  (hbase:attributeBase o name X.env (eval o X.env)=eval o X.env:=by rfl)
  (hfew:((backTo cpos (starEach (e::es) X.env)).all (fun x=>!x.1)&&(backToKw cpos (keywordEach [] X.env)).all (fun x=>x.1.isSome)
   && decide ((e::es).length+([]:List Keyword).length+(if ([]:List Keyword).isEmpty then 0 else 1)<30))=true:=by rfl)
  (hline:(apos.endLine==cpos.line)=true:=by rfl) (hs:starEach (e::es) X.env=(false,eval e X.env)::starEach es X.env:=by rfl) (hplain:(backTo cpos (starEach es X.env)).any (·.1)=false:=by rfl) :
  PE X (.Call (.Attribute o name apos) (e::es) [] cpos) (tBM X.K T r to t):=by
 intro pins s σ H Q I h;refine wpAny_Call_method_late hbase hfew hline rfl (Zr (ho pins s σ H _ I h) fun v s1 ⟨x,H1,I1,r1,ty,q1⟩=>?_);obtain ⟨h1,h2⟩:=Zeh I1 r1 ty;refine ⟨T,id,pa,slot,hty,h1,h2,?_⟩;have hA:=ha cpos pins s1 σ H1 _ I1 q1;rw [hs] at hA ⊢;refine GV (by show (false||(backTo cpos (starEach es X.env)).any (·.1))=false;rw [hplain]<;>rfl) (Gs ?_);exact Zr hA fun us s2 ⟨vs,H2,I2,r2,q2⟩=>hm pins s2 σ H2 x vs v us Q I2 r1 r2 q2
/- xs.append(e),list.index on a module's tuple .. are VI facts of 06m -/
end
def MtM (X:Cx) (id:String) (r:V->List V->Hp->VK->Prop):Prop :=
 ∀(pins:List (Addr×Obj)) (s:Shared) (σ:St) (H:Hp) (x:V) (xs:List V) (v:Value) (us:List Value) (Q:VK),Inv X pins σ H s->RelV x v->Vals xs us->r x xs H Q →
  wpAny (model X.prog X.w) X.A (call (.builtin id) (v::us)) (EP X pins σ Q) X.xe s
theorem Vals.one:∀{x:V} {us:List Value},Vals [x] us->∃u,us=[u]∧RelV x u
 |_,_,.cons r .nil=>⟨_,rfl,r⟩
theorem Vals.zero:∀{us:List Value},Vals [] us->us=[]
 |_,.nil=>rfl
theorem Vals.reverse {xs:List V} {us:List Value} (h:Vals xs us):Vals xs.reverse us.reverse:=by
 induction h with
 |nil=>exact .nil
 |cons r t ih=>rw [List.reverse_cons,List.reverse_cons];exact Vals.append ih (.cons r .nil)
section
variable {X:Cx} {pins:List (Addr×Obj)} {σ:St} {H:Hp} {s:Shared} {l b:Addr} {xs ys zs:List V}
theorem Inv.lset {its its':List Value} {n:Nat} {f:Array Value->Array Value} {t':Nat} (I:Inv X pins σ H s) (hH:H l=some (.lst xs))
  (e:s.heap.get? l=some { cls:=.type "list",data:=.seq its.toArray n }) (hf:f its.toArray=its'.toArray) (hv:Vals ys its') (hz:ys.length≤sizeLine) :
  Inv X pins σ (Zb H l (.lst ys)) { s with heap:=s.heap.update l (Obj.mapSeq f),toks:=t' }:=by
 have q:=PySem.IsL.update e f;rw [hf] at q;refine I.write (x:=l) (e:=l) (by rw [hH];exact trivial) (.inl rfl) (fun b' u hb hu=>(Heap.get?_update_other s.heap (Obj.mapSeq f) (QZ hb)).trans hu) ⟨_,q⟩ ?_;exact ⟨hz,its',_,hv,q⟩
theorem Inv.lnew {its:List Value} {t':Nat} (I:Inv X pins σ H s) (hv:Vals ys its) (hz:ys.length≤sizeLine) :
  Inv X pins σ (Zb H s.heap.objs.size (.lst ys)) { s with heap:=s.heap.push { cls:=.type "list",data:=.seq its.toArray },toks:=t' } :=
 I.laid (fun _ _ q=>Qi _ q) (Qf _) ⟨hz,its,0,hv,Ql _ rfl⟩
theorem Inv.fresh (I:Inv X pins σ H s):H s.heap.objs.size=none:=I.hok.fresh (Qf _)
theorem Inv.lstM (I:Inv X pins σ H s) (hH:H l=some (.lst xs)):xs.length≤sizeLine∧∃(its:List Value) (n:Nat),Vals xs its∧xs.length=its.length∧s.heap.get? l=some { cls:=.type "list",data:=.seq its.toArray n }:=by
 obtain ⟨z,its,n,r,e⟩:=I.hok l _ hH;exact ⟨z,its,n,r,r.length,e⟩
end
section
variable {X:Cx}
def ZlJ:V->List V->Hp->VK->Prop:=fun x vs H Q=>∃l xs y,x=.ref l∧vs=[y]∧H l=some (.lst xs)∧xs.length<sizeLine∧Q .non (Zb H l (.lst (xs++[y])))
theorem XU:MtM X "list.append" ZlJ:=by
 intro pins s σ H x vs v us Q I rx rv h;obtain ⟨l,xs,y,rfl,rfl,hH,hz,q⟩:=h;cases rx;obtain ⟨u,rfl,ru⟩:=rv.one;obtain ⟨z,its,n,r,hl,e⟩:=I.lstM hH;refine call_meets F.slot_list_append ⟨_,e,rfl⟩ F.entry_list_append (F.args_list_append_2 _ _) (PySem.list_append l its.toArray n u (by rw [Qv];omega)) ⟨e,?_⟩;refine ⟨.non,_,I.lset (its':=its++[u]) hH e (by simp) (r.append (.cons ru .nil)) ?_,rfl,q⟩;rw [Qu,List.length_singleton];omega
def ZjK:V->List V->Hp->VK->Prop:=fun x vs H Q=>∃l xs,x=.ref l∧vs=[]∧H l=some (.lst xs)∧Q .non (Zb H l (.lst []))
theorem Zmn:MtM X "list.clear" ZjK:=by
 intro pins s σ H x vs v us Q I rx rv h;obtain ⟨l,xs,rfl,rfl,hH,q⟩:=h;cases rx;have hus:=rv.zero;subst hus;obtain ⟨z,its,n,r,hl,e⟩:=I.lstM hH;refine call_meets F.slot_list_clear ⟨_,e,rfl⟩ F.entry_list_clear (F.args_list_clear_1 _) (AutoSeq1.list_clear_list_0 l its.toArray n (by rw [Qv];omega)) ⟨e,?_⟩;exact ⟨.non,_,I.lset (its':=[]) (ys:=[]) hH e rfl .nil (QJ _),rfl,q⟩
def Zlj:R2:=fun x y H Q=>∃l b xs zs,x=.ref l∧y=.ref b∧H l=some (.lst xs)∧H b=some (.lst zs)∧xs.length+zs.length≤sizeLine∧∀p,H p=none->Q (.ref p) (Zb H p (.lst (xs++zs)))
theorem Zb5:Yq X (binaryOp .Add) Zlj:=by
 intro pins s σ H x y v u Q I rx ry h;obtain ⟨l,b,xs,zs,rfl,rfl,hH,hB,hz,q⟩:=h;cases rx;cases ry;obtain ⟨z,its,n,r,hl,e⟩:=I.lstM hH;obtain ⟨z2,its2,n2,r2,hl2,e2⟩:=I.lstM hB;refine PySem.P.add_list e e2 ?_ (by rw [Qv,Qv];omega);have ea:its.toArray++its2.toArray=(its++its2).toArray:=by simp
 rw [ea];exact ⟨.ref _,_,I.lnew (t':=s.toks) (r.append r2) (by rw [Qu];omega),rfl,q _ I.fresh⟩
end
section
variable {prog:Program} {w:World} {A:Around} {E:Value->Shared->Prop} {s:Shared}
set_option maxRecDepth 100000 in
end
section
variable {X:Cx}
end
section
variable {κ:Type} [DecidableEq κ]
noncomputable def ZM (kvs:List (κ×V)) (k:κ):Option V:=(kvs.find? fun kv=>decide (kv.1=k)).map (·.2)
noncomputable def Yj (kvs:List (κ×V)) (k:κ) (v:V):List (κ×V) :=
 if (kvs.any fun kv=>decide (kv.1=k))=true then kvs.map (fun kv=>if kv.1=k then (kv.1,v) else kv) else kvs++[(k,v)]
theorem XX {p:κ×V} {r:List (κ×V)} {k:κ} (e:p.1=k):ZM (p::r) k=some p.2:=by simp [ZM,RB,e]
theorem XW {p:κ×V} {r:List (κ×V)} {k:κ} (e:¬p.1=k):ZM (p::r) k=ZM r k:=by simp [ZM,RB,e]
theorem Zdt (k:κ):∀kvs:List (κ×V),(kvs.any fun kv=>decide (kv.1=k))=(ZM kvs k).isSome
 |[]=>rfl
 |p::r=>by
  rw [Rm];by_cases e:p.1=k
  ·simp only [XX e,Qm e,Bool.true_or,Option.isSome_some]
  ·rw [XW e,Qj e,Bool.false_or];exact Zdt k r
theorem Zb1 (kvs:List (κ×V)) (k:κ) (v:V):(Yj kvs k v).length≤kvs.length+1:=by
 unfold Yj;split
 ·rw [Qd];omega
 ·rw [Qu,QK,GW];omega
theorem UK {kvs:List (κ×V)} {k:κ} (v:V) (h:ZM kvs k=none):Yj kvs k v=kvs++[(k,v)]:=by
 unfold Yj;rw [Zdt,h];exact Qa (by decide)
theorem RelO.isSome_eq {o:Option V} {u:Option Value} (r:RelO o u):o.isSome=u.isSome:=by
 cases o with
 |none=>cases u with
  |none=>rfl
  |some _=>exact (show False from r).elim
 |some _=>cases u with
  |none=>exact (show False from r).elim
  |some _=>rfl
theorem RelO.getD {o:Option V} {u:Option Value} {d:V} {d':Value} (r:RelO o u) (rd:RelV d d'):RelV (o.getD d) (u.getD d'):=by
 cases o with
 |none=>cases u with
  |none=>exact rd
  |some _=>exact (show False from r).elim
 |some _=>cases u with
  |none=>exact (show False from r).elim
  |some _=>exact r
theorem KV.val {kvs:List (κ×V)} {vs:List (κ×Value)} (r:KV kvs vs) (k:κ):RelO (ZM kvs k) (valueAt vs k):=by
 unfold KV at r
 induction r with
 |nil=>exact True.intro
 |@cons p q ps qs h t ih =>
  obtain ⟨h1,h2⟩:=h;by_cases e:p.1=k
  ·have e':q.1=k:=h1.symm.trans e;have b:valueAt (q::qs) k=some q.2:=by simp [valueAt,RB,e']
   rw [XX e,b];exact h2
  ·have e':¬q.1=k:=fun z=>e (h1.trans z);have b:valueAt (q::qs) k=valueAt qs k:=by simp [valueAt,RB,e']
   rw [XW e,b];exact ih
theorem KV.any {kvs:List (κ×V)} {vs:List (κ×Value)} (r:KV kvs vs) (k:κ):(kvs.any fun kv=>decide (kv.1=k))=vs.any fun kv=>decide (kv.1=k):=by
 unfold KV at r
 induction r with
 |nil=>rfl
 |cons h t ih=>rw [Rm,Rm,ih,h.1]
theorem KV.repl {kvs:List (κ×V)} {vs:List (κ×Value)} (r:KV kvs vs) (k:κ) {y:V} {u:Value} (ry:RelV y u) :
  KV (kvs.map fun kv=>if kv.1=k then (kv.1,y) else kv) (vs.map fun kv=>if kv.1=k then (kv.1,u) else kv):=by
 unfold KV at r ⊢
 induction r with
 |nil=>exact .nil
 |@cons p q ps qs h t ih =>
  rw [Qp,Qp];refine .cons ?_ ih;obtain ⟨h1,h2⟩:=h;by_cases e:p.1=k
  ·rw [Qc e,Qc (h1.symm.trans e)];exact ⟨h1,ry⟩
  ·rw [Qa e,Qa (fun z=>e (h1.trans z))];exact ⟨h1,h2⟩
theorem KV.put {kvs:List (κ×V)} {vs:List (κ×Value)} (r:KV kvs vs) (k:κ) {y:V} {u:Value} (ry:RelV y u):KV (Yj kvs k y) (stored vs k u):=by
 unfold Yj stored;rw [r.any k];by_cases e:(vs.any fun kv=>decide (kv.1=k))=true
 ·rw [Qc e,Qc e];exact r.repl k ry
 ·rw [Qa e,Qa e];exact Paired.snoc r ⟨rfl,ry⟩
theorem KV.length {kvs:List (κ×V)} {vs:List (κ×Value)} (r:KV kvs vs):kvs.length=vs.length:=GM r
end
theorem VB {P:Program} {w:World} {k:Zi} {u:Value} (r:RelV (kV k) u):(Yr P w).is k u=true:=by
 cases k with
 |inl i=>obtain ⟨t,e⟩:=(show ∃t,u=Value.int i t from r);subst e;exact Zj4 P w i t
 |inr x=>obtain ⟨t,e⟩:=(show ∃t,u=Value.str x t from r);subst e;exact Zjm P w x t
theorem Zgd {P:Program} {w:World}:∀{ks:List Zi} {us:List Value},Vals (ks.map kV) us->ItemsAre (Yr P w) ks us
 |[],_,r=>by rw [GX] at r;cases r;exact .nil
 |k::ks,_,r=>by
  rw [Qp] at r;cases r with
  |cons h t=>exact .cons (VB h) (Zgd t)
abbrev KT (H:Hp):List (List Zi×V)->List (List Zi×Addr×Value)->Prop:=Paired fun p q=>p.1=q.1∧H q.2.1=some (.tup (p.1.map kV))∧RelV p.2 q.2.2
theorem KT.val {H:Hp} {kvs:List (List Zi×V)} {xs:List (List Zi×Addr×Value)} (r:KT H kvs xs) (k:List Zi):RelO (ZM kvs k) ((atKey xs k).map (·.2)):=by
 induction r with
 |nil=>exact True.intro
 |@cons p q ps qs h t ih =>
  obtain ⟨h1,_,h2⟩:=h;by_cases e:p.1=k
  ·have e':q.1=k:=h1.symm.trans e;have b:atKey (q::qs) k=some q.2:=by simp [atKey,RB,e']
   rw [XX e,b];exact h2
  ·have e':¬q.1=k:=fun z=>e (h1.trans z);have b:atKey (q::qs) k=atKey qs k:=by simp [atKey,RB,e']
   rw [XW e,b];exact ih
theorem KT.repl {H:Hp} {kvs:List (List Zi×V)} {xs:List (List Zi×Addr×Value)} (r:KT H kvs xs) (k:List Zi) {y:V} {u:Value} (ry:RelV y u) :
  KT H (kvs.map fun kv=>if kv.1=k then (kv.1,y) else kv) (xs.map (putAt k u)):=by
 induction r with
 |nil=>exact .nil
 |@cons p q ps qs h t ih =>
  rw [Qp,Qp];refine .cons ?_ ih;obtain ⟨h1,h2,h3⟩:=h;unfold putAt;by_cases e:p.1=k
  ·rw [Qc e,Qc (h1.symm.trans e)];exact ⟨h1,h2,ry⟩
  ·rw [Qa e,Qa (fun z=>e (h1.trans z))];exact ⟨h1,h2,h3⟩
theorem KT.put {H:Hp} {kvs:List (List Zi×V)} {xs:List (List Zi×Addr×Value)} (r:KT H kvs xs) (k:List Zi) {b:Addr} {y:V} {u:Value} (hb:H b=some (.tup (k.map kV))) (ry:RelV y u) :
  KT H (Yj kvs k y) (storedH xs k b u):=by
 have e:(kvs.any fun kv=>decide (kv.1=k))=(atKey xs k).isSome:=by
  rw [Zdt,(r.val k).isSome_eq,NA]
 unfold Yj storedH;rw [e];by_cases q:(atKey xs k).isSome=true
 ·rw [Qc q,Qc q];exact r.repl k ry
 ·rw [Qa q,Qa q];exact Paired.snoc r ⟨rfl,hb,ry⟩
theorem KT.keeps {H H':Hp} {kvs:List (List Zi×V)} {xs:List (List Zi×Addr×Value)} (r:KT H kvs xs) (ht:∀b ys,H b=some (.tup ys)->H' b=some (.tup ys)):KT H' kvs xs :=
 Paired.mapP r fun _ _ z=>⟨z.1,ht _ _ z.2.1,z.2.2⟩
section
variable {P:Program} {w:World} {H:Hp} {h:Heap} {a:Addr}
theorem Zfy {u:HO} (ok:HOk P w H h) (e:Rd H a u):ObjOk P w H h a u:=e.ok ok
theorem Vc {kvs:List (Zi×V)} (ok:HOk P w H h) (e:Rd H a (.dK kvs)):kvs.length≤sizeLine∧(a==sysModules)=false∧∃vs,KV kvs vs∧h.DictOf (Yr P w) a vs :=
 show ObjOk P w H h a (.dK kvs) from Zfy ok e
theorem UU {kvs:List (Zi×V)} (ok:HOk P w H h) (e:H a=some (.dK kvs)):kvs.length≤sizeLine∧(a==sysModules)=false∧∃vs,KV kvs vs∧h.DictOf (Yr P w) a vs:=Vc ok (.inl e)
theorem VH {ks:List Zi} (ok:HOk P w H h) (e:H a=some (.tup (ks.map kV))):(tupleKind (Yr P w)).is h ks a:=by
 obtain ⟨_,its,r,o,h1,h2,n,h3⟩:=(show ObjOk P w H h a (.tup (ks.map kV)) from ok a _ e);exact ⟨o,its.toArray,n,h1,h2,h3,by simpa using Zgd r⟩
theorem WK {kvs:List (List Zi×V)} (ok:HOk P w H h) (e:Rd H a (.dT kvs)):kvs.length≤sizeLine∧(a==sysModules)=false ∧
  ∃xs,KT H kvs xs∧h.DictOfH (tupleKind (Yr P w)) a xs:=by
 obtain ⟨z,y,xs,r,o,es,ep,h1,h2,h3,h4,h5⟩:=(show ObjOk P w H h a (.dT kvs) from Zfy ok e);refine ⟨z,y,xs,r,o,es,ep,h1,h2,h3,h4,fun x hx=>?_,h5⟩
 have all:∀{l:List (List Zi×V)} {m:List (List Zi×Addr×Value)},KT H l m->∀x∈m,(tupleKind (Yr P w)).is h x.1 x.2.1:=by
  intro l m q
  induction q with
  |nil=>intro x hx;exact nomatch hx
  |@cons p q ps qs hq t ih =>
   intro x hx;rcases Qh.mp hx with e|hx
   ·subst e;exact VH ok (by rw [←hq.1];exact hq.2.1)
   ·exact ih x hx
 exact all r x hx
theorem Jc {kvs:List (List Zi×V)} (ok:HOk P w H h) (e:H a=some (.dT kvs)):kvs.length≤sizeLine∧(a==sysModules)=false ∧
  ∃xs,KT H kvs xs∧h.DictOfH (tupleKind (Yr P w)) a xs:=WK ok (.inl e)
end
def DGet (H:Hp) (a:Addr) (y:V) (r:Option V):Prop :=
 (∃kvs k,Rd H a (.dK kvs)∧y=kV k∧r=ZM kvs k)∨∃kvs k b,Rd H a (.dT kvs)∧y=.ref b∧H b=some (.tup (k.map kV))∧r=ZM kvs k
def DPut (H:Hp) (a:Addr) (y v:V) (H':Hp):Prop :=
 (∃kvs k,H a=some (.dK kvs)∧y=kV k∧kvs.length<sizeLine∧H'=Zb H a (.dK (Yj kvs k v))) ∨
 ∃kvs k b,H a=some (.dT kvs)∧y=.ref b∧H b=some (.tup (k.map kV))∧kvs.length<sizeLine∧H'=Zb H a (.dT (Yj kvs k v))
theorem DGet.k {H:Hp} {a:Addr} {kvs:List (Zi×V)} {k:Zi} (e:H a=some (.dK kvs)):DGet H a (kV k) (ZM kvs k):=.inl ⟨kvs,k,.inl e,rfl,rfl⟩
theorem DGet.t {H:Hp} {a b:Addr} {kvs:List (List Zi×V)} {k:List Zi} (e:H a=some (.dT kvs)) (eb:H b=some (.tup (k.map kV))):DGet H a (.ref b) (ZM kvs k):=.inr ⟨kvs,k,b,.inl e,rfl,eb,rfl⟩
theorem DPut.k {H:Hp} {a:Addr} {kvs:List (Zi×V)} {k:Zi} {v:V} (e:H a=some (.dK kvs)) (hl:kvs.length<sizeLine):DPut H a (kV k) v (Zb H a (.dK (Yj kvs k v))):=.inl ⟨kvs,k,e,rfl,hl,rfl⟩
theorem DPut.t {H:Hp} {a b:Addr} {kvs:List (List Zi×V)} {k:List Zi} {v:V} (e:H a=some (.dT kvs)) (eb:H b=some (.tup (k.map kV))) (hl:kvs.length<sizeLine) :
  DPut H a (.ref b) v (Zb H a (.dT (Yj kvs k v))):=.inr ⟨kvs,k,b,e,rfl,eb,hl,rfl⟩
section
variable {X:Cx} {pins:List (Addr×Obj)} {σ:St} {H:Hp} {s:Shared} {a:Addr} {y v:V} {u r:Value} {o:Option V} {A:Around} {E:Value->Shared->Prop}
theorem Inv.big (I:Inv X pins σ H s):sysModules<s.heap.objs.size:=by
 have h:mainGlobals<s.heap.objs.size:=(I.mod.glob.keeps I.bk).lt;exact Nat.lt_trans (by decide) h
theorem Zo4 {Q:Value->Shared->Prop} (hu:A.units+1<cLine) (I:Inv X pins σ H s) (g:DGet H a y (some v)) (ry:RelV y u) (h:∀w' s',Inv X pins σ H s'->RelV v w'->Q w' s') :
  wpAny (model X.prog X.w) A (getItem (.ref a) u) Q E s:=by
 rcases g with ⟨kvs,k,e,ey,l⟩|⟨kvs,k,b,e,ey,eb,l⟩
 ·subst ey;obtain ⟨z,hd,vs,rel,dd⟩:=Vc I.hok e;obtain ⟨w',hw,rw'⟩:=RelO.some_of (v:=v) (o:=valueAt vs k) (by rw [l];exact rel.val k);exact wpAny_getItem_of (VB ry) dd.mapOf hw (h w' _ (I.tok _) rw')
 ·subst ey;cases (show u=Value.ref b from ry);obtain ⟨z,hd,xs,rel,dd⟩:=WK I.hok e;obtain ⟨w',hw,rw'⟩:=RelO.some_of (v:=v) (o:=(atKey xs k).map (·.2)) (by rw [l];exact rel.val k);obtain ⟨p,hp,hp2⟩:=QR.mp hw;refine wpAny_getItem_heap (Gd hu) (VH I.hok eb) dd hp ?_;rw [hp2];exact h w' _ (I.tok _) rw'
theorem Zoo {Q:Value->Shared->Prop} (hu:A.units+1<cLine) (I:Inv X pins σ H s) (g:DGet H a y o) (ry:RelV y u) (h:∀s',Inv X pins σ H s'->Q (.bool o.isSome) s') :
  wpAny (model X.prog X.w) A (compareOp .In u (.ref a)) Q E s:=by
 rcases g with ⟨kvs,k,e,ey,l⟩|⟨kvs,k,b,e,ey,eb,l⟩
 ·subst ey;obtain ⟨z,hd,vs,rel,dd⟩:=Vc I.hok e;refine wpAny_in_of (VB ry) hd dd.mapOf ?_;rw [←(rel.val k).isSome_eq,←l];exact h _ (I.tok _)
 ·subst ey;cases (show u=Value.ref b from ry);obtain ⟨z,hd,xs,rel,dd⟩:=WK I.hok e;refine wpAny_in_heap (Gd hu) (VH I.hok eb) hd dd ?_;have q:=(rel.val k).isSome_eq;rw [NA] at q;rw [←q,←l];exact h _ (I.tok _)
theorem Znc {Q:Value->Shared->Prop} (hu:A.units+1<cLine) (I:Inv X pins σ H s) (g:DGet H a y o) (ry:RelV y u) (h:∀s',Inv X pins σ H s'->Q (.bool (!o.isSome)) s') :
  wpAny (model X.prog X.w) A (compareOp .NotIn u (.ref a)) Q E s:=by
 rcases g with ⟨kvs,k,e,ey,l⟩|⟨kvs,k,b,e,ey,eb,l⟩
 ·subst ey;obtain ⟨z,hd,vs,rel,dd⟩:=Vc I.hok e;refine wpAny_notIn_of (VB ry) hd dd.mapOf ?_;rw [←(rel.val k).isSome_eq,←l];exact h _ (I.tok _)
 ·subst ey;cases (show u=Value.ref b from ry);obtain ⟨z,hd,xs,rel,dd⟩:=WK I.hok e;refine wpAny_notIn_heap (Gd hu) (VH I.hok eb) hd dd ?_;have q:=(rel.val k).isSome_eq;rw [NA] at q;rw [←q,←l];exact h _ (I.tok _)
theorem Zbo {h':Heap} {t':Nat} {ob:HO} (I:Inv X pins σ H s) (mu:JR (H a)) (hs:Heap.SameBut a s.heap h') (he:∃q,h'.get? a=some q) (new:ObjOk X.prog X.w (Zb H a ob) h' a ob) :
  Inv X pins σ (Zb H a ob) { s with heap:=h',toks:=t' } :=
 I.write (x:=a) (e:=a) mu (.inl rfl) (fun b q hb z=>(hs.2 b hb).trans z) he new
theorem Zfi {P:Program} {w:World} {H':Hp} {h':Heap} {kvs:List (Zi×V)} {vs:List (Zi×Value)} (z:kvs.length≤sizeLine) (hd:(a==sysModules)=false) (rel:KV kvs vs) (dd:h'.DictOf (Yr P w) a vs) :
  ObjOk P w H' h' a (.dK kvs):=⟨z,hd,vs,rel,dd⟩
theorem Zkh {H':Hp} {Q:Unit->Shared->Prop} (hu:A.units+1<cLine) (I:Inv X pins σ H s) (g:DPut H a y v H') (ry:RelV y u) (rv:RelV v r) (h:∀s',Inv X pins σ H' s'->Q () s') :
  wpAny (model X.prog X.w) A (setItem (.ref a) u r) Q E s:=by
 rcases g with ⟨kvs,k,e,ey,l,eH⟩|⟨kvs,k,b,e,ey,eb,l,eH⟩
 ·subst ey eH;obtain ⟨z,hd,vs,rel,dd⟩:=UU I.hok e;have hz:vs.length≤sizeLine:=by rw [←rel.length];exact z
  have hl:(Yj kvs k v).length≤sizeLine:=by have:=Zb1 kvs k v;omega
  refine wpAny_setItem_pairs (hsz:=hz) (VB ry) dd fun h' dd' hs=>h _ ?_;have he:∃q,h'.get? a=some q:=let ⟨q,_,_,hq,_⟩:=dd';⟨q,hq⟩;exact Zbo I (by rw [e];exact True.intro) hs he (Zfi hl hd (rel.put k rv) dd')
 ·subst ey eH;cases (show u=Value.ref b from ry);obtain ⟨z,hd,xs,rel,dd⟩:=Jc I.hok e;have hz:xs.length≤sizeLine:=by rw [←GM rel];exact z
  have hl:(Yj kvs k v).length≤sizeLine:=by have:=Zb1 kvs k v;omega
  refine wpAny_setItem_heap (hsz:=hz) (Gd hu) (VH I.hok eb) dd fun h' dd' hs=>h _ ?_;obtain ⟨q,es,ep,hq,h2,h3,h4,_,h5⟩:=dd';refine Zbo I (by rw [e];exact True.intro) hs ⟨q,hq⟩ ⟨hl,hd,_,(rel.put k eb rv).keeps fun c ys ec=>?_,q,es,ep,hq,h2,h3,h4,h5⟩;rw [Zd (Zec ec e (fun z=>nomatch z))];exact ec
end
section
variable {X:Cx} {pins:List (Addr×Obj)} {σ:St} {H:Hp} {s:Shared} {a:Addr} {kvs:List (Zi×V)} {k:Zi} {u:Value} {A:Around} {E:Value->Shared->Prop}
theorem ZiZ {Q:Value->Shared->Prop} (I:Inv X pins σ H s) (e:Rd H a (.dK kvs)) (h:∀t s',Inv X pins σ H s'->Q (.int kvs.length t) s'):wpAny (model X.prog X.w) A (call (.builtin "len") [.ref a]) Q E s:=by
 obtain ⟨z,hd,vs,rel,dd⟩:=Vc I.hok e;refine call_len_dict hd dd (by rw [←rel.length];rw [Gb] at z;omega) ?_;rw [←rel.length];exact h _ _ (I.tok _)
end
def Zfp (i:Expr):Prop:=∀ov iv,subscripted i false ov iv=operate [ov,iv] (getItem ov iv)
theorem Zic {prog:Program} {w:World} {A:Around} {E:Value->Shared->Prop} {s:Shared} {env:Env} {value slice:Expr} {pos:Pos} {T id:String} {Q:Value->Shared->Prop}
  (hl:typeLookup (.type T) "__getitem__"=pure (some (.builtin id))) (hs:Zfp slice)
  (h:wpAny (model prog w) A (eval value env) (fun o s₁=>wpAny (model prog w) A (eval slice env) (fun i s₂=>s₂.TypeIs o T∧wpAny (model prog w) A (getItem o i) Q E s₂) E s₁) E s) :
  wpAny (model prog w) A (eval (.Subscript value slice pos) env) Q E s:=by
 refine Subscript_ (Q1 h (fun o s₁ h₁=>Q1 h₁ (fun i s₂ h₂=>?_) fun _ _ x=>x) fun _ _ x=>x);obtain ⟨hT,h₂⟩:=h₂;unfold subscriptTail;refine Qb ?_;rw [getitemInPython_of_ne hT.not_modules];refine Qb (R5 hT hl ?_)
 have fin:wpAny (model prog w) A (subscripted slice false o i) (fun r s₃=>wpAny (model prog w) A (letTemporaryGo value o r >>= fun _=>pure r) Q E s₃) E s₂:=by
  rw [hs o i];exact wpAny_operating (Q1 h₂ (fun r s₃ h₃=>Qb (wpAny_letTemporaryGo (Qe h₃))) fun _ _ x=>x)
 first
  |exact Qe (Qb fin)
  |exact Qb (Qe (Qb fin))
  |exact Qb fin
theorem ZkX {X:Cx} {pins:List (Addr×Obj)} {σ:St} {H:Hp} {s:Shared} {a:Addr} {y:V} {o:Option V} (I:Inv X pins σ H s) (g:DGet H a y o):s.TypeIs (.ref a) "dict":=by
 rcases g with ⟨kvs,k,e,_,_⟩|⟨kvs,k,b,e,_,_,_⟩
 ·obtain ⟨_,_,vs,_,dd⟩:=Vc I.hok e;exact dd.typeIs
 ·obtain ⟨_,_,xs,_,dd⟩:=WK I.hok e;exact dd.typeIs
def Znt (td ty:TE):TE:=fun σ H Q=>td σ H fun x H1=>ty σ H1 fun y H2=>∃a v,x=.ref a∧DGet H2 a y (some v)∧Q v H2
def Ziy (ty td:TE):TE:=fun σ H Q=>ty σ H fun y H1=>td σ H1 fun x H2=>∃a o,x=.ref a∧DGet H2 a y o∧Q (.bl o.isSome) H2
def Zl9 (ty td:TE):TE:=fun σ H Q=>ty σ H fun y H1=>td σ H1 fun x H2=>∃a o,x=.ref a∧DGet H2 a y o∧Q (.bl (!o.isSome)) H2
def Zml (td ty tv:TE):TS:=fun D σ H=>tv σ H fun v H1=>td σ H1 fun x H2=>ty σ H2 fun y H3=>∃a H4,x=.ref a∧DPut H3 a y v H4∧D.nx σ H4
section
variable {X:Cx} {o i e value:Expr} {pos pos' tpos:Pos} {td ty tv:TE}
theorem Xg (hu:X.A.units+1<cLine) (ho:PE X o td) (hi:PE X i ty) (hs:Zfp i):PE X (.Subscript o i pos) (Znt td ty):=by
 intro pins s σ H Q I h;refine Zic PySem.F.slot_dict_getitem.lookup hs (Zr (ho pins s σ H _ I h) fun u s1 ⟨x,H1,I1,rx,q1⟩=>Zr (hi pins s1 σ H1 _ I1 q1) fun iv s2 ⟨y,H2,I2,ry,a,v,ex,g,q2⟩=>?_);subst ex;obtain rfl:u=Value.ref a:=rx;exact ⟨ZkX I2 g,Zo4 hu I2 g ry fun w' s3 I3 rw'=>⟨v,H2,I3,rw',q2⟩⟩
theorem ZcO (hu:X.A.units+1<cLine) (hi:PE X i ty) (ho:PE X o td):PC X .In i o (Ziy ty td):=by
 intro pins s σ H Q I h;refine Zr (hi pins s σ H _ I h) fun iv s1 ⟨y,H1,I1,ry,q1⟩=>Zr (ho pins s1 σ H1 _ I1 q1) fun u s2 ⟨x,H2,I2,rx,a,ov,ex,g,q2⟩=>?_;subst ex;obtain rfl:u=Value.ref a:=rx;exact Zoo hu I2 g ry fun s3 I3=>⟨.bl ov.isSome,H2,I3,rfl,q2⟩
theorem ZcY (hu:X.A.units+1<cLine) (hi:PE X i ty) (ho:PE X o td):PC X .NotIn i o (Zl9 ty td):=by
 intro pins s σ H Q I h;refine Zr (hi pins s σ H _ I h) fun iv s1 ⟨y,H1,I1,ry,q1⟩=>Zr (ho pins s1 σ H1 _ I1 q1) fun u s2 ⟨x,H2,I2,rx,a,ov,ex,g,q2⟩=>?_;subst ex;obtain rfl:u=Value.ref a:=rx;exact Znc hu I2 g ry fun s3 I3=>⟨.bl (!ov.isSome),H2,I3,rfl,q2⟩
theorem XQ (hu:X.A.units+1<cLine) (ho:PE X o td) (hi:PE X i ty) (hv:PE X value tv) (hs:swapsWith value (some (.Subscript o i pos')) pos.line X.env=pure false) :
  PS X (.Assign [.Subscript o i pos'] value pos) (Zml td ty tv):=by
 intro pins s σ H D I h;refine wpAny_Assign_Subscript (Zr (hv pins s σ H _ I h) fun r s1 ⟨v,H1,I1,rv,q1⟩=>Zr (ho pins s1 σ H1 _ I1 q1) fun u s2 ⟨x,H2,I2,rx,q2⟩=>Zr (hi pins s2 σ H2 _ I2 q2) fun iv s3 ⟨y,H3,I3,ry,a,H4,ex,g,q3⟩=>?_) hs;subst ex;obtain rfl:u=Value.ref a:=rx;exact Zkh hu I3 g ry rv fun s4 I4=>⟨σ,H4,I4,q3⟩
end
theorem ZgF {P:Program} {w:World} {H:Hp} (h:Heap) (hb:sysModules<h.objs.size):ObjOk P w H (h.push { cls:=.type "dict",data:=.dict #[] }) h.objs.size (.dK []) :=
 ⟨QJ _,RK.mpr (QZ (Qt hb)),[],.nil,Heap.DictOf.new h⟩
theorem Zj0 {P:Program} {w:World} {H:Hp} (h:Heap) (hb:sysModules<h.objs.size):ObjOk P w H (h.push { cls:=.type "dict",data:=.dict #[] }) h.objs.size (.dT []) :=
 ⟨QJ _,RK.mpr (QZ (Qt hb)),[],.nil,_,#[],0,Ql _ rfl,⟨rfl,rfl,rfl⟩,rfl,rfl,List.nodup_nil⟩
def ZiC:TE:=fun _ H Q=>∀p,H p=none->Q (.ref p) (Zb H p (.dK []))
def Zi9:TE:=fun _ H Q=>∀p,H p=none->Q (.ref p) (Zb H p (.dT []))
section
variable {X:Cx} {pos:Pos}
theorem Ui:PE X (.Dict [] [] pos) ZiC:=fun pins s σ H Q I h =>
 wpAny_Dict_empty ⟨.ref s.heap.objs.size,_,I.laid (a:=s.heap.objs.size) (o:=.dK []) (t':=s.toks) (fun _ _ q=>Qi _ q) (Qf _) (ZgF s.heap I.big),rfl,h _ (I.hok.fresh (Qf _))⟩
theorem VS:PE X (.Dict [] [] pos) Zi9:=fun pins s σ H Q I h =>
 wpAny_Dict_empty ⟨.ref s.heap.objs.size,_,I.laid (a:=s.heap.objs.size) (o:=.dT []) (t':=s.toks) (fun _ _ q=>Qi _ q) (Qf _) (Zj0 s.heap I.big),rfl,h _ (I.hok.fresh (Qf _))⟩
end
def Zcz:List (TE×TE)->St->Hp->(List (V×V)->Hp->Prop)->Prop
 |[],_,H,Q=>Q [] H
 | (tk,tv)::r,σ,H,Q=>tk σ H fun x H1=>tv σ H1 fun y H2=>Zcz r σ H2 fun ps H3=>Q ((x,y)::ps) H3
abbrev VV:List (V×V)->List (Value×Value)->Prop:=Paired fun p q=>RelV p.1 q.1∧RelV p.2 q.2
def PPs (X:Cx) (pos:Pos) (keys:List (Option Expr)) (values:List Expr) (trs:List (TE×TE)):Prop :=
 ∀(pins:List (Addr×Obj)) (s:Shared) (σ:St) (H:Hp) (Q:List (V×V)->Hp->Prop),Inv X pins σ H s->Zcz trs σ H Q →
  wpAny (model X.prog X.w) X.A (evalPairs (pairTrees keys values X.env pos)) (fun vs s'=>∃ps H',Inv X pins σ H' s'∧VV ps vs∧Q ps H') X.xe s
theorem ZjT {X:Cx} {pos:Pos}:PPs X pos [] [] []:=fun pins s σ H Q I h=>pairTrees_nil_walk ⟨[],H,I,.nil,h⟩
theorem Zni {X:Cx} {pos:Pos} {k v:Expr} {ks:List (Option Expr)} {vs:List Expr} {tk tv:TE} {trs:List (TE×TE)} (hk:PE X k tk) (hv:PE X v tv) (hr:PPs X pos ks vs trs) :
  PPs X pos (some k::ks) (v::vs) ((tk,tv)::trs):=fun pins s σ H Q I h =>
 pairTrees_cons_walk (Zr (hk pins s σ H _ I h) fun u s1 ⟨x,H1,I1,rx,q1⟩=>Zr (hv pins s1 σ H1 _ I1 q1) fun w2 s2 ⟨y,H2,I2,ry,q2⟩ =>
  Zr (hr pins s2 σ H2 _ I2 q2) fun ws s3 ⟨ps,H3,I3,rel,q3⟩=>⟨(x,y)::ps,H3,I3,.cons ⟨rx,ry⟩ rel,q3⟩)
noncomputable def Uc (kvs more:List (Zi×V)):List (Zi×V):=more.foldl (fun acc kv=>Yj acc kv.1 kv.2) kvs
theorem KV.merge:∀{more:List (Zi×V)} {rs:List (Zi×Value)} {kvs:List (Zi×V)} {vs:List (Zi×Value)},KV more rs->KV kvs vs->KV (Uc kvs more) (merged vs rs):=by
 intro more rs kvs vs r;unfold KV at r
 induction r generalizing kvs vs with
 |nil=>intro q;exact q
 |@cons p q ps qs h t ih =>
  intro r0
  have e:KV (Yj kvs p.1 p.2) (stored vs q.1 q.2):=by
   have:=r0.put p.1 h.2;rw [←h.1];exact this
  exact ih e
theorem Zho:∀(more kvs:List (Zi×V)),(Uc kvs more).length≤kvs.length+more.length
 |[],kvs=>by show kvs.length≤kvs.length+0;omega
 |p::r,kvs=>by
  have h1:=Zho r (Yj kvs p.1 p.2);have h2:=Zb1 kvs p.1 p.2;show (Uc (Yj kvs p.1 p.2) r).length≤_;rw [QK];omega
theorem ZgA {P:Program} {w:World}:∀{kvs:List (Zi×V)} {ws:List (Value×Value)},VV (kvs.map fun kv=>(kV kv.1,kv.2)) ws->∃rs,Carries (Yr P w) ws rs∧KV kvs rs
 |[],_,r=>by rw [GX] at r;cases r;exact ⟨[],True.intro,.nil⟩
 |p::kvs,_,r=>by
  rw [Qp] at r;cases r with
  |@cons a b as bs h t =>
   obtain ⟨rs,c,q⟩:=ZgA (P:=P) (w:=w) t;obtain ⟨b1,b2⟩:=b;exact ⟨(p.1,b2)::rs,⟨VB h.1,rfl,c⟩,.cons ⟨rfl,h.2⟩ q⟩
def ZnG (trs:List (TE×TE)):TE:=fun σ H Q=>∀p,H p=none->Zcz trs σ (Zb H p (.dK [])) fun ps H2=>H2 p=some (.dK [])∧∃kvs:List (Zi×V),ps=kvs.map (fun kv=>(kV kv.1,kv.2))∧kvs.length≤15∧Q (.ref p) (Zb H2 p (.dK (Uc [] kvs)))
theorem ZlL {X:Cx} {pos:Pos} {keys:List (Option Expr)} {values:List Expr} {trs:List (TE×TE)} (h:PPs X pos keys values trs) (hall:keys.all (·.isSome)=true) (hl:keys.length=values.length) (h0:keys≠[])
  (h15:keys.length≤15):PE X (.Dict keys values pos) (ZnG trs):=by
 intro pins s σ H Q I q;have hn:=I.hok.fresh (Qf s.heap.objs.size);have I1:=I.laid (a:=s.heap.objs.size) (o:=.dK []) (h':=s.heap.push { cls:=.type "dict",data:=.dict #[] }) (t':=s.toks) (fun _ _ q=>Qi _ q) (Qf _) (ZgF s.heap I.big);refine wpAny_Dict_walk (knd:=Yr X.prog X.w) hall hl h0 h15 (Zr (h pins _ σ _ _ I1 (q _ hn)) fun ws s2 ⟨ps,H2,I2,rel,e,kvs,ep,lk,q2⟩=>?_);subst ep;obtain ⟨rs,c,rk⟩:=ZgA (P:=X.prog) (w:=X.w) rel;obtain ⟨z,hd,vs0,r0,dd⟩:=UU I2.hok e;cases r0;refine ⟨rs,c,dd,fun h' dd' hs=>⟨.ref s.heap.objs.size,_,?_,rfl,q2⟩⟩
 have hz:(Uc [] kvs).length≤sizeLine:=by
  have h1:=Zho kvs [];rw [GW] at h1;rw [Gb];omega
 have he:∃q,h'.get? s.heap.objs.size=some q:=let ⟨q,_,_,hq,_⟩:=dd';⟨q,hq⟩;exact Zbo I2 (by rw [e];exact True.intro) hs he (Zfi hz hd (rk.merge .nil) dd')
structure M2 (X:Cx) (o:Expr) (m:Str) (apos:Pos) (e f:Expr) (cpos:Pos):Prop where
 base:attributeBase o m X.env (eval o X.env)=eval o X.env
 few:((backTo cpos (starEach [e,f] X.env)).all (fun x=>!x.1)&&(backToKw cpos (keywordEach [] X.env)).all (fun x=>x.1.isSome)
  && decide (([e,f]:List Expr).length+([]:List Keyword).length+(if ([]:List Keyword).isEmpty then 0 else 1)<30))=true
 line:(apos.endLine==cpos.line)=true
 trees:backTo cpos (starEach [e,f] X.env)=[(false,eval e X.env),(false,eval f X.env)]
def IsD (H:Hp) (a:Addr):Prop:=(∃kvs,Rd H a (.dK kvs))∨∃kvs,Rd H a (.dT kvs)
theorem Ze0 {X:Cx} {pins:List (Addr×Obj)} {σ:St} {H:Hp} {s:Shared} {a:Addr} (I:Inv X pins σ H s) (d:IsD H a) :
  s.TypeIs (.ref a) "dict"∧(∀b,Value.ref a=.ref b->∃ob,s.heap.get? b=some ob∧ob.dict=none)∧(a==sysModules)=false:=by
 rcases d with ⟨kvs,e⟩|⟨kvs,e⟩
 ·obtain ⟨_,hd,vs,_,dd⟩:=Vc I.hok e;refine ⟨dd.typeIs,fun b q=>?_,hd⟩;cases q;obtain ⟨ob,_,_,h1,h2,_⟩:=dd;exact ⟨ob,h1,h2.2.1⟩
 ·obtain ⟨_,hd,xs,_,dd⟩:=WK I.hok e;refine ⟨dd.typeIs,fun b q=>?_,hd⟩;cases q;obtain ⟨ob,_,_,h1,h2,_⟩:=dd;exact ⟨ob,h1,h2.2.1⟩
section
variable {X:Cx} {pins:List (Addr×Obj)} {σ:St} {H:Hp} {s:Shared} {a:Addr} {y d:V} {u r:Value} {o:Option V} {A:Around} {E:Value->Shared->Prop}
theorem ZiL {Q:Value->Shared->Prop} (hu:A.units+1<cLine) (I:Inv X pins σ H s) (g:DGet H a y o) (ry:RelV y u) (rd:RelV d r) (h:∀w' s',Inv X pins σ H s'->RelV (o.getD d) w'->Q w' s') :
  wpAny (model X.prog X.w) A (call (.builtin "dict.get") [.ref a,u,r]) Q E s:=by
 rcases g with ⟨kvs,k,e,ey,l⟩|⟨kvs,k,b,e,ey,eb,l⟩
 ·subst ey;obtain ⟨z,hd,vs,rel,dd⟩:=Vc I.hok e;refine Gu NB dd.typeIs PySem.F.entry_dict_get (N0 _ _ _) (meets_dict_get_default (Yr X.prog X.w) a (VB ry) hd r) ⟨_,dd.mapOf,h _ _ (I.tok _) ?_⟩;rw [l];exact (rel.val k).getD rd
 ·subst ey;cases (show u=Value.ref b from ry);obtain ⟨z,hd,xs,rel,dd⟩:=WK I.hok e;refine Gu NB dd.typeIs PySem.F.entry_dict_get (N0 _ _ _) (meetsH_dict_get_default (tupleKind (Yr X.prog X.w)) a b hd r) ⟨Gd hu,k,xs,VH I.hok eb,dd,h _ _ (I.tok _) ?_⟩;rw [l];exact (rel.val k).getD rd
end
def Zi1 (td ty tx:TE):TE:=fun σ H Q=>td σ H fun x H1=>∃a,x=.ref a∧IsD H1 a∧ty σ H1 fun y H2=>tx σ H2 fun z H3=>∃o,DGet H3 a y o∧Q (o.getD z) H3
section
variable {X:Cx} {o e f:Expr} {apos cpos:Pos} {td ty tx:TE}
theorem UP (hu:X.A.units+1<cLine) (ho:PE X o td) (he:PE X e ty) (hf:PE X f tx) (m:M2 X o "get" apos e f cpos):PE X (.Call (.Attribute o "get" apos) [e,f] [] cpos) (Zi1 td ty tx):=by
 intro pins s σ H Q I h;refine wpAny_Call_method m.base m.few m.line NC NB PySem.F.type_dict_get (Zr (ho pins s σ H _ I h) fun u s1 ⟨x,H1,I1,rx,a,ex,d,q1⟩=>?_);subst ex;obtain rfl:u=Value.ref a:=rx;obtain ⟨t1,t2,_⟩:=Ze0 I1 d;refine ⟨t1,t2,?_⟩;rw [m.trees]
 refine GV rfl (Gs (Rx (Zr (he pins s1 σ H1 _ I1 q1) fun iv s2 ⟨y,H2,I2,ry,q2⟩ =>
  Rx (Zr (hf pins s2 σ H2 _ I2 q2) fun fv s3 ⟨z,H3,I3,rz,ov,g,q3⟩=>Gq ?_))))
 exact ZiL hu I3 g ry rz fun w' s4 I4 rw'=>⟨_,H3,I4,rw',q3⟩
end
section
variable {X:Cx} {pins:List (Addr×Obj)} {σ:St} {H:Hp} {s:Shared} {a:Addr} {kvs:List (Zi×V)} {A:Around} {E:Value->Shared->Prop}
end
section
variable {X:Cx} {pins:List (Addr×Obj)} {σ:St} {H:Hp} {s:Shared} {a:Addr} {y:V} {u:Value} {A:Around} {E:Value->Shared->Prop}
end
end L2
namespace Att
open PySem PySem.W PySem.Calls PyProof.Rows
theorem Zib {P:Params} {h:Heap}:∀(ns:List Int) (vs:List Value),WellAll P h vs (ns.map WData.int)->IntsAre vs ns:=by
 intro ns
 induction ns with
 |nil =>
  intro vs w;rw [GX] at w;cases w;exact .nil
 |cons n ns ih =>
  intro vs w;rw [Qp] at w;cases w with
  |cons a b =>
   cases a;exact .cons _ _ (ih _ b)
theorem ZmX {l:OpenLaw} {n:Nat} (hn:l.most=some n) {P:Params} {h:Heap} {args:List WData} {vals:List Value}
  (hpre:l.row.toRowW.claim.pre args=true) (hwl:WellAll P h vals args) :
  ∃a vs ns,vals=[Value.ref a]∧args=[WData.list (ns.map WData.int)]∧h.get? a=some { cls:=.type "list",data:=.seq vs.toArray }∧IntsAre vs ns∧ns.length≤n:=by
 have hsh:WShape.hasAll [] args [.list .int]=true:=(pre_splitW hpre).1;have hc:l.pre.holds [] { args:=args }=true:=(pre_splitW hpre).2;obtain ⟨d,r,rfl,h1,h2⟩:=hasAllW_cons hsh;obtain rfl:=hasAllW_nil h2;obtain ⟨xs,rfl,h3⟩:=hasW_list h1;obtain ⟨ns,rfl⟩:=items_int h3
 have hlen:ns.length≤n:=by
  unfold OpenLaw.pre at hc
  have h4:(WTm.not (.lt (.lit (.int (n:Int))) (.len (.arg 0)))).holds [] { args:=[.list (ns.map .int)] }=true:=by
   have h4:=(holds_andW hc).1;rw [hn] at h4;exact h4
  have h5:=condW_of h4 (w_not (w_lt w_lit (w_len_list (w_arg rfl))));rw [Qd] at h5;refine Nat.le_of_not_lt fun q=>?_;have q':(n:Int)<((ns.length:Nat):Int):=by omega
  first
   | (rw [Qm q'] at h5;exact absurd h5 (by decide))
   | (simp at h5;omega)
 cases hwl with
 |cons w1 w2 =>
  cases w2;cases w1 with
  |list ho hall=>exact ⟨_,_,ns,rfl,rfl,ho,Zib ns _ hall,hlen⟩
theorem Zmy (l:OpenLaw) (args:List WData):l.row.toRowW.claim.post args (.bool true) args=true :=
 postW_of (r:=l.row.toRowW) (X:=(true==true))
  (show WShape.has [] (.bool true) .bool=true by first|rfl|decide|simp [WShape.has,WShape.arms,WShape.armsAll])
  (show (WTm.eq .res (.lit (.bool true))).value [] { args:=args,res:=some (.bool true),after:=args }=some (.bool (true==true)) from w_eq_bool (w_res rfl) w_lit) rfl
theorem attach_call {l:OpenLaw} {n:Nat} {q:Program} {loose:List Str} {XP:(Str->Option Value)->Heap->Prop} {YP:World->Heap->Prop} {d:DefRec}
  (hn:l.most=some n) (hdf:d.params.defaults=[])
  (call:∀(w:World) (s₀ s₁:Shared) (mg mb:Str->Option Value) (fa:Addr) (o:Obj) (pm cd doc:Value) (a:Addr) (vs:List Value) (ns:List Int),
   Ground q loose [] XP w s₀ mg mb s₁.heap->YP w s₁.heap →
   s₁.heap.get? fa=some o->o.data=.func (docDef d.name d.params d.body d.scope pm cd doc)->s₁.heap.CodeRec cd d.name->mg d.name=some (.ref fa) →
   s₁.heap.get? a=some { cls:=.type "list",data:=.seq vs.toArray }->IntsAre vs ns->ns.length≤n->s₁.gens=#[] →
   codeAny (model l.prog w) callerA (.call (.ref fa) ⟨[.ref a],[]⟩) (fun r s'=>r=.ok (.ret (.bool true))∧OldK s₁.heap s'.heap∧s'.os=s₁.os∧AllBare s'.gens) s₁) :
  WalkO q loose XP YP l.row.toRowW d [] (fun f vs=>PySem.call f vs):=by
 intro w s₀ s₁ mg mb G Y fa o pm cd doc dV kV ho hd hcd hD hmg hg args vals as hpre hlay hrd hwl hlo;obtain rfl:dV=.none:=Dflts.none hD hdf;obtain rfl:kV=.none:=Dflts.noKw hD;obtain ⟨a,vs,ns,rfl,rfl,hobj,hints,hlen⟩:=ZmX hn hpre hwl;refine enter_call (RQ (call w s₀ s₁ mg mb fa o pm cd doc a vs ns G Y ho (fd_plain hd) hcd hmg hobj hints hlen hg) fun r s' hq=>?_);obtain ⟨rfl,h2,h3,h4⟩:=hq;exact ⟨.inl ⟨.bool true,.bool true,[],rfl,fun _=>rfl,.bool true,Zmy l _,fun _=>⟨List.Pairwise.nil,fun _ hm=>(nomatch hm)⟩⟩,h2,h3,h4⟩
section
variable {prog:Program} {w:World} {A:Around} {E:Value->Shared->Prop} {s:Shared} {K:Frag}
end
end Att
namespace L2
open PySem PySem.Spec PyProof.Rows
theorem ZgG:∀{vs:List Value} {ns:List Int},IntsAre vs ns->Vals (ns.map V.int) vs
 |_,_,.nil=>.nil
 |_,_,.cons n t h=>.cons ⟨t,rfl⟩ (ZgG h)
noncomputable def Xy (s:Stmt) (j:Nat):Stmt:=match s with
 |.ClassDef _ _ _ body _ _ _ _ _ _ _=>body.getD j (.Pass ⟨0,0,0,0⟩)
 |_=>.Pass ⟨0,0,0,0⟩
noncomputable def Xs (s:Stmt):Arguments:=match s with
 |.FunctionDef _ a _ _ _ _ _ _ _ _=>a
 |_=>{ posonlyargs:=[],args:=[],vararg:=none,kwonlyargs:=[],kw_defaults:=[],kwarg:=none,defaults:=[] }
noncomputable def Y4 (s:Stmt):List Stmt:=match s with
 |.FunctionDef _ _ b _ _ _ _ _ _ _=>b
 |_=>[]
noncomputable def Zx (s:Stmt):Scope:=match s with
 |.FunctionDef _ _ _ _ _ _ sc _ _ _=>sc
 |_=>{ kind:=.function,names:=[],isGenerator:=false,isCoroutine:=false }
abbrev E0:XK:=fun _ _ _=>False
structure Fun (K:W.Frag) (x qual:Str) (st:Stmt) (f:Addr) (fd:FuncData):Prop where
 ex:∃(oc:Value) (od:Option Addr) (kV doc pm:Value) (an:Option Addr) (cdv ct:Value) (osl:Array (Option Value)),
  fd=W.fnOf x qual (Xs st) (Y4 st) (Zx st) .none kV doc pm an cdv ct∧K.lookup f=some ⟨oc,od,.func fd,osl⟩∧W.codeIn K cdv qual=true
 kp:W.keepIn K (.ref f)=true
section
variable {P:Program} {w:World} {K:W.Frag} {mg:Str->Option Value} {base:Heap}
theorem Fun.binds {x qual:Str} {st:Stmt} {f:Addr} {fd:FuncData} {ps:List Str} (F:Fun K x qual st f fd)
  (h:∀(kV doc pm:Value) (an:Option Addr) (cdv ct:Value) (us:List Value),us.length=ps.length->bindArgs (W.fnOf x qual (Xs st) (Y4 st) (Zx st) .none kV doc pm an cdv ct) ⟨us,[]⟩=pure (ps.zip us)):Binds K fd ps []:=by
 obtain ⟨oc,od,kV,doc,pm,an,cdv,ct,osl,rfl,lk,hcd⟩:=F.ex;exact .all (h kV doc pm an cdv ct)
theorem Zjd {x qual:Str} {st:Stmt} {f:Addr} {oc:Value} {od an:Option Addr} {osl:Array (Option Value)} {kV doc pm cdv ct:Value} (l:K.lookup f=some ⟨oc,od,.func (W.fnOf x qual (Xs st) (Y4 st) (Zx st) .none kV doc pm an cdv ct),osl⟩)
  (c:W.codeIn K cdv qual=true) (k:W.keepIn K (.ref f)=true):Fun K x qual st f (W.fnOf x qual (Xs st) (Y4 st) (Zx st) .none kV doc pm an cdv ct):=⟨⟨oc,od,kV,doc,pm,an,cdv,ct,osl,rfl,l,c⟩,k⟩
end
theorem ZV {A:Around} {k:Nat} (hr:Room k A):A.units+1<cLine:=Ge (Nat.add_le_add_left (by decide:1≤64) _) hr.units
theorem Zz {n:Nat} (h:n≤1000):n<sizeLine:=Ge h (by decide)
section
variable {X:Cx}
theorem pv (i:Nat) {x:Str} {pos:Pos} (hN:X.N[i]?=some x:=by rfl) (hv:JH X.env.scope x:=by first|exact Or.inl rfl|exact Or.inr (Or.inl rfl)|exact Or.inr (Or.inr rfl)) (hd:(x==("__debug__" : Str))=false:=by decide)
  (hcd:(x==("__classdict__" : Str))=false:=by decide):PE X (.Name x pos) (Js i):=Zcf hN hv hd hcd
theorem J8:YG X (.builtin "len") (fun xs H Q=>∃a kvs,xs=[V.ref a]∧H a=some (.dK kvs)∧Q (.int kvs.length) H):=by
 intro pins s σ H xs us Q I r h;obtain ⟨a,kvs,rfl,ha,q⟩:=h;obtain ⟨u,rfl,ru⟩:=YY r;cases ru;exact ZiZ I (.inl ha) fun t s' I'=>⟨.int kvs.length,H,I',⟨t,rfl⟩,q⟩
end
theorem Z4 {A B:Prop} (h:B):if false=true then A else B:=by
 rw [Qa QA];exact h
theorem Z2 {A B:Prop} (h:A):if true=true then A else B:=by
 rw [Qc rfl];exact h
def Same (H H':Hp):Prop:=∀b o,H b=some o->H' b=some o
theorem Same.refl (H:Hp):Same H H:=fun _ _ h=>h
theorem Same.trans {H H1 H2:Hp} (a:Same H H1) (b:Same H1 H2):Same H H2:=fun c o h=>b c o (a c o h)
section
variable {κ:Type} [DecidableEq κ]
end
end L2
set_option maxHeartbeats 4000000
namespace L2
open PySem PySem.Spec PyProof.Rows
section
variable {P:Program} {w:World} {H H':Hp} {h h':Heap} {a:Addr} {o:HO}
theorem ObjOk.there (x:ObjOk P w H h a o):∃q,h.get? a=some q:=by
 cases o with
 |lst xs=>obtain ⟨_,_,_,_,e⟩:=x;exact ⟨_,e⟩
 |tup xs=>obtain ⟨_,_,_,q,e,_⟩:=x;exact ⟨q,e⟩
 |dK kvs=>obtain ⟨_,_,_,_,q,_,_,e,_⟩:=x;exact ⟨q,e⟩
 |dT kvs=>obtain ⟨_,_,_,_,q,_,_,e,_⟩:=x;exact ⟨q,e⟩
 |set S n=>obtain ⟨q,_,_,_,e,_⟩:=x;exact ⟨q,e⟩
 |ins C dx fs=>obtain ⟨_,_,_,e,_⟩:=x;exact ⟨_,e⟩
 |own y=>exact x
 |xd fs=>obtain ⟨_,⟨q,_,_,e,_⟩,_⟩:=x;exact ⟨q,e⟩
 |rng lo hi=>obtain ⟨_,_,_,e⟩:=x;exact ⟨_,e⟩
 |frz ob u=>obtain ⟨e,_⟩:=x;exact ⟨_,e⟩
 |tbl ps=>exact ⟨_,x⟩
 |met f y=>exact ⟨_,x⟩
 |ext φ=>obtain ⟨_,e,_⟩:=x;exact e
theorem HOk.lean (x:HOk P w H h) (k:∀b u,H b≠none->h.get? b=some u->h'.get? b=some u):HOk P w H h':=fun b u e =>
 (x b u e).stay (fun c v hc q=>k c v (by
  rcases hc with rfl|hc
  ·rw [e];simp
  ·rw [hc];simp) q) (fun _ q=>q) fun _ _ q=>q
end
structure Flies (P:Program) (w:World) (outer:List Env) (H H':Hp) (s s':Shared) (e:Addr) (cls:Value):Prop where
 os:s'.os=s.os
 bare:AllBare s'.gens
 un:Un (Yg outer) [] H H' s.heap s'.heap
 fly:∃B a0,Heap.FlyingW B outer e cls a0 s'.heap∧HOk P w H' B∧(∀b o,s.heap.get? b=some o->H b=none->b∉Yg outer->B.get? b=some o) ∧
  ∀b o,s.heap.get? b=some o->b∉Yg outer->∃o',B.get? b=some o'
noncomputable def ZD (P:Program) (w:World):Yu:=fun outer H s E u s'=>∃e cls H',u=.ref e∧Flies P w outer H H' s s' e cls∧E cls none H'
section
variable {X:Cx} {pins:List (Addr×Obj)} {σ:St} {H H':Hp} {s s':Shared} {e:Addr} {cls:Value}
theorem Flies.inv (f:Flies X.prog X.w X.stack H H' s s' e cls) (I:Inv X pins σ H s):Inv X pins σ H' s':=by
 obtain ⟨B,a0,fl,hB,_,_⟩:=f.fly;exact I.call' (ch:=[]) f.os f.un (hB.kept fl.1) f.bare (fun b z=>absurd z (by simp))
theorem Inv.nst (I:Inv X pins σ H s) {b:Addr} {o:Obj} (q:X.s₀.heap.get? b=some o) (hb:b∉X.fs):b∉Yg X.stack:=fun z=>by
 rcases Qh.mp (I.stkSub b z) with y|y
 ·exact absurd (Qz (Qg q) I.ok.above) (by rw [y];exact QS _)
 ·exact hb y
theorem Flies.leaves {M:Model} {Q:Unit->Shared->Prop} {E:Value->Shared->Prop} (f:Flies X.prog X.w X.stack H H' s s' e cls) (I:Inv X pins σ H s)
  (hs:X.stack=X.env::X.outer) (hf:X.env.frame=some X.env.locals) (hx:X.ex=[])
  (hQ:∀s'',Flies X.prog X.w X.outer X.H₀ H' X.s₀ s'' e cls->Q () s''):wpAny M X.A (leaving X.env (.ref e)) Q E s':=by
 have J:=f.inv I;obtain ⟨B,a0,fl,hB,kB,tB⟩:=f.fly;rw [hs] at fl;have nx:∀b:Addr,b∉X.ex:=fun b=>by rw [hx];simp
 refine wpAny_leaves_onW (by rw [I.ok.frames,hs]) hf fl fun h' fl' up=>hQ _ ?_
 have slot:∀b o,X.s₀.heap.get? b=some o->b∈X.fs->∃sl,h'.get? b=some { o with slots:=sl }:=fun b o q hb=>by
  obtain ⟨sl,e1⟩:=J.base.slot b o q (I.ok.frf b hb) hb (nx b);obtain ⟨_,o',ho',hn⟩:=J.funs.mem hb;rw [e1] at ho';cases ho';obtain ⟨sl',e2⟩:=up b _ e1 hn;exact ⟨sl',e2⟩
 have keepB:∀b o,X.s₀.heap.get? b=some o->X.H₀ b=none->b∉X.fs->B.get? b=some o:=fun b o q n hb =>
  kB b o (I.base.keep b o q n hb (nx b)) (I.base.free b o q n (nx b)) (I.nst q hb)
 have thereB:∀b o,X.s₀.heap.get? b=some o->b∉X.fs->∃o',B.get? b=some o':=fun b o q hb=>by
  obtain ⟨o1,e1⟩:=I.base.there b o q (nx b);exact tB b o1 e1 (I.nst q hb)
 refine ⟨J.os,J.bare,⟨fun b o q n hb _=>fl'.1 b o (keepB b o q n hb),fun b o q _ hb _=>slot b o q hb,fun b o q n _=>J.base.free b o q n (nx b),fun b o q _=>?_,J.base.tups,J.base.frzs,J.base.tbls⟩,
  B,a0,fl',hB,keepB,thereB⟩
 by_cases hb:b∈X.fs
 ·obtain ⟨sl,e2⟩:=slot b o q hb;exact ⟨_,e2⟩
 ·obtain ⟨o1,e1⟩:=thereB b o q hb;exact ⟨o1,fl'.1 b o1 e1⟩
theorem Zjp {M:Model} {Q:Unit->Shared->Prop} {E:Value->Shared->Prop} {h1:Heap} {vs:List Value} (I:Inv X pins σ H s) (mk:Heap.MadeExcOf s.heap h1 e cls vs)
  (hs:X.stack=X.env::X.outer) (hf:X.env.frame=some X.env.locals) (hx:X.ex=[])
  (hQ:∀s'',Flies X.prog X.w X.outer X.H₀ H X.s₀ s'' e cls->Q () s''):wpAny M X.A (leaving X.env (.ref e)) Q E { s with heap:=h1 }:=by
 have nx:∀b:Addr,b∉X.ex:=fun b=>by rw [hx];simp
 have hid:∀b o,s.heap.get? b=some o->b∉Yg X.stack->(W.hideAll s.heap (Yg X.stack)).get? b=some o:=fun b o q n=>W.hideAll_get _ q n
 have FF:s.heap.FunFrames (W.hideAll s.heap (Yg X.stack)) X.stack :=
  W.funFrames_hide I.stack fun env he a ha=>Rs.mpr ⟨env,he,ha⟩
 have hB:HOk X.prog X.w H (W.hideAll s.heap (Yg X.stack)):=I.hok.lean fun b u n q=>hid b u q fun z=>n (I.stkFree b z);have sub:∀b o,(W.hideAll s.heap (Yg X.stack)).get? b=some o->s.heap.get? b=some o:=fun b o q=>W.of_hideAll _ q;generalize W.hideAll s.heap (Yg X.stack)=B at *;rw [hs] at FF;refine wpAny_leaves_madeW (s:={ s with heap:=h1 }) (by rw [I.ok.frames,hs]) hf sub FF mk fun h' t fl' _ _ up=>hQ _ ?_
 have slot:∀b o,X.s₀.heap.get? b=some o->b∈X.fs->∃sl,h'.get? b=some { o with slots:=sl }:=fun b o q hb=>by
  obtain ⟨sl,e1⟩:=I.base.slot b o q (I.ok.frf b hb) hb (nx b);obtain ⟨_,o',ho',hn⟩:=I.funs.mem hb;rw [e1] at ho';cases ho';obtain ⟨sl',e2⟩:=up b _ (mk.keeps _ _ e1) hn;exact ⟨sl',e2⟩
 have keepB:∀b o,X.s₀.heap.get? b=some o->X.H₀ b=none->b∉X.fs->B.get? b=some o:=fun b o q n hb =>
  hid b o (I.base.keep b o q n hb (nx b)) (I.nst q hb)
 have thereB:∀b o,X.s₀.heap.get? b=some o->b∉X.fs->∃o',B.get? b=some o':=fun b o q hb=>by
  obtain ⟨o1,e1⟩:=I.base.there b o q (nx b);exact ⟨o1,hid b o1 e1 (I.nst q hb)⟩
 refine ⟨I.os,I.bare,⟨fun b o q n hb _=>fl'.1 b o (keepB b o q n hb),fun b o q _ hb _=>slot b o q hb,fun b o q n _=>I.base.free b o q n (nx b),fun b o q _=>?_,I.base.tups,I.base.frzs,I.base.tbls⟩,
  _,_,fl',hB,keepB,thereB⟩
 by_cases hb:b∈X.fs
 ·obtain ⟨sl,e2⟩:=slot b o q hb;exact ⟨_,e2⟩
 ·obtain ⟨o1,e1⟩:=thereB b o q hb;exact ⟨o1,fl'.1 b o1 e1⟩
end
abbrev XS:=St->XK
def WG (CX:Yu) (X:Cx) (E:XS):Prop:=∀(pins:List (Addr×Obj)) (σ:St) (H:Hp) (s:Shared) (e:Value) (s':Shared),Inv X pins σ H s->CX X.stack H s (E σ) e s'->X.xe e s'
def Ze6 (X:Cx) (E:XS):Prop:=∀(pins:List (Addr×Obj)) (σ:St) (H:Hp) (s:Shared) (h1:Heap) (e:Addr) (cls:Value) (vs:List Value),Inv X pins σ H s->Heap.MadeExcOf s.heap h1 e cls vs->E σ cls none H->X.xe (.ref e) { s with heap:=h1 }
theorem ZF {P:Program} {w:World} {X:Cx}:WG (ZD P w) X (fun _=>E0):=fun _ _ _ _ _ _ _ ⟨_,_,_,_,_,z⟩=>False.elim z
section
variable {P:Program} {w:World} {K:W.Frag} {mg:Str->Option Value} {base:Heap} {N:List Str} {qual:Str} {scope:Scope} {f:Addr} {cd:Value} {A:Around} {outer:List Env} {s:Shared} {H:Hp} {E:XK}
theorem YX:WG (ZD P w) (We (ZD P w) P w K mg base N qual scope f cd A outer s H E) (fun _=>E):=by
 rintro pins σ H1 s1 u s' I ⟨e,cls,H',rfl,fl,q⟩;exact fl.leaves I rfl rfl rfl fun s'' f''=>⟨e,cls,H',rfl,f'',q⟩
theorem Vy:Ze6 (We (ZD P w) P w K mg base N qual scope f cd A outer s H E) (fun _=>E):=by
 intro pins σ H1 s1 h1 e cls vs I mk q;exact Zjp I mk rfl rfl rfl fun s'' f''=>⟨e,cls,H1,rfl,f'',q⟩
end
section
variable {X:Cx} {CX:Yu} {k:Nat} {f C:Addr} {fd:FuncData} {ps:List Str} {sp:Sp} {dvs:List V} {ds:List Value} {E:XS} {x m:Str} {p pos apos:Pos} {e o:Expr} {es:List Expr} {ta:TE} {t:TA}
def Zgt (sp:Sp) (dvs:List V) (E:XS) (t:TA):TE:=fun σ H Q=>t σ H fun vs H1=>sp (vs++dvs) H1 Q (E σ)
theorem Zfq {pins:List (Addr×Obj)} {σ:St} {H:Hp} {s:Shared} {Q:VK} {us:List Value} {vs:List V} (F:FnOk X.prog X.w X.K X.mg X.base CX k f fd ps sp) (hr:Room k X.A) (hb:Binds X.K fd ps ds) (hd:Vals dvs ds) (hx:WG CX X E)
  (I:Inv X pins σ H s) (r:Vals vs us) (h:sp (vs++dvs) H Q (E σ)):wpAny (model X.prog X.w) X.A (call (.ref f) us) (EP X pins σ Q) X.xe s:=by
 have r2:Vals (vs++dvs) (us++ds):=r.append hd;have hl:(us++ds).length=ps.length:=by rw [←r2.length];exact F.len _ _ _ _ h
 refine RP (RQ (F.run X.A X.stack s H ⟨us,[]⟩ (us++ds) (vs++dvs) Q (E σ) hr I.env0 (hb s us I.kIn hl) r2 h) fun r s' hq=>?_);cases r with
 |error e=>exact hx pins σ H s e s' I hq
 |ok fl =>
  cases fl with
  |ret u=>exact I.after hq
  |next=>exact False.elim hq
  |brk=>exact False.elim hq
  |cont=>exact False.elim hq
theorem ZoY (F:FnOk X.prog X.w X.K X.mg X.base CX k f fd ps sp) (hr:Room k X.A) (hg:Gl X x) (hm:X.mg x=some (.ref f)) (hk:W.keepIn X.K (.ref f)=true) (hb:Binds X.K fd ps ds) (hd:Vals dvs ds) (hx:WG CX X E)
  (ha:PA X (e::es) t) (hdb:(x==("__debug__" : Str))=false:=by decide) (he:starEach (e::es) X.env=(false,eval e X.env)::starEach es X.env:=by rfl) (hpl:(backTo pos (starEach es X.env)).any (·.1)=false:=by rfl) :
  PE X (.Call (.Name x p) (e::es) [] pos) (Zgt sp dvs E t):=by
 intro pins s σ H Q I h;refine Q9 (U3 I hg hm ?_ hdb);refine Gv (h₀:=X.base) I.ok.mod.kin hk (Zr (ha pos pins s σ H _ I h) fun us s1 ⟨vs,H1,I1,r,q⟩=>⟨I1.kIn,?_⟩) he hpl;exact Zfq F hr hb hd hx I1 r q
end
section
variable {K:W.Frag} {h:Heap} {C:Addr} {bmB:List Value} {newId:String}
theorem Ze5 (X:K.In h) (q:W.excIn K C bmB newId=true):∃bm N nm qn bs hdct sn sub ab col dd k0 k1 k2 k3 k5 mN,
  h.get? C=some (excClassObj nm qn C N bs bm hdct sn sub ab col dd k0 k1 k2 k3 k5 newId)∧h.Ns N mN∧mN "__init__"=none∧OwnTail h bmB bm:=by
 unfold W.excIn at q;split at q
 case h_2=>cases q
 case h_1 dict0 cdat slots0 found =>
  split at q
  case h_2=>cases q
  case h_1 C1 rest0 s0 s1 s2 s3 nid s5 mroEq slEq =>
   simp only [RA,RN,ND] at q;have q1:=q.1.1.1.1.1;have q2:=q.1.1.1.1.2;have q3:=q.1.1.1.2;have q4:=q.1.1.2;have q5:=q.1.2;have q6:=q.2;subst q1 q2;cases cdat with
   |mk nmX basesX mroX nsX qualX hdX snX subX abX colX delX =>
    dsimp only at mroEq q3 q5 q6;subst mroEq;subst q3
    have es:slots0=#[s0,s1,s2,s3,some (.builtin nid),s5]:=by
     cases slots0 with
     |mk l=>exact Qy _ slEq
    subst es;exact ⟨rest0,nsX,nmX,qualX,basesX,hdX,snX,subX,abX,colX,dict0,s0,s1,s2,s3,s5,_,X _ _ found,.of_isNs (W.isNs_of_in X q5),W.nsMap_none_of_in X q5 q6,W.tail_of_in X q4⟩
end
section
variable {X:Cx} {x:Str} {C:Addr} {np cpos pos:Pos} {e₀:Expr} {rest:List Expr} {t:TA} {bmB:List Value} {newId B initId:String} {E:XS}
def ZmT (C:Addr) (E:XS) (t:TA):TS:=fun _ σ H=>t σ H fun vs H1=>vs.length≤sizeLine∧E σ (.ref C) none H1
theorem Vv (hg:Gl X x) (hm:X.mg x=some (.ref C)) (q:W.excIn X.K C bmB newId=true) (FB:ExcBaseFacts B newId initId bmB) (hc:X.calm=true) (hx:Ze6 X E) (ha:PA X (e₀::rest) t)
  (hd:(x==("__debug__" : Str))=false:=by decide) (he:starEach (e₀::rest) X.env=(false,eval e₀ X.env)::starEach rest X.env:=by rfl) (hpl:(backTo cpos (starEach rest X.env)).any (·.1)=false:=by rfl) :
  PS X (.Raise (some (.Call (.Name x np) (e₀::rest) [] cpos)) none pos) (ZmT C E t):=by
 intro pins s σ H D I h;obtain ⟨bm,N,nm,qn,bs,hdct,sn,sub,ab,col,dd,k0,k1,k2,k3,k5,mN,hC,hN,hni,T⟩:=Ze5 I.mod.kin q
 have hpl':(backTo cpos (starEach (e₀::rest) X.env)).any (·.1)=false:=by
  rw [he];exact hpl
 refine wpAny_Raise_call_subT (C:=C) (nm:=nm) (q:=qn) (N:=N) (bs:=bs) (bm:=bm) (hdct:=hdct) (sn:=sn) (sub:=sub) (ab:=ab) (col:=col) (dd:=dd) (k0:=k0) (k1:=k1) (k2:=k2)
  (k3:=k3) (k5:=k5) FB (mN:=mN) (T.hasType FB.hasBase) (I.ok.hd hc) hpl' hni (U3 I hg hm ⟨rfl,?_⟩ hd)
 have g:=ha cpos pins s σ H _ I h;rw [he] at g ⊢;refine Gs (Q1 g (fun us s1 r1=>?_) fun _ _ y=>y);obtain ⟨vs,H1,I1,rv,z,q1⟩:=r1;exact ⟨rfl,by rw [←rv.length];exact z,I1.bk _ _ hC,hN.keeps I1.bk,T.keeps I1.bk,fun h1 e mk=>hx pins σ H1 s1 h1 e (.ref C) us I1 mk q1⟩
end
def Zad (cls:Value) (e:Addr):Heap->Prop:=fun h=>∃o vs,h.get? e=some o∧o.cls=cls∧o.data=.fields vs
noncomputable def Ul (cls:Value) (e:Addr):HO:=.ext (Zad cls e)
section
variable {P:Program} {w:World} {H H':Hp} {h h':Heap} {a:Addr} {o:HO}
theorem HOk.track (x:HOk P w H h) (n:H a=none) (new:ObjOk P w (Zb H a o) h a o):HOk P w (Zb H a o) h:=fun b u e=>by
 by_cases hb:b=a
 ·subst hb;rw [Zg] at e;cases e;exact new
 ·rw [Zd hb] at e;exact (x b u e).stay (fun _ _ _ q=>q) (fun c q=>by rw [Zd (ZO q n)];exact q) fun c xs q=>by rw [Zd (ZO q n)];exact q
theorem ZlD {cls:Value} {e:Addr} (x:Zad cls e h):ObjOk P w H h e (Ul cls e):=by
 obtain ⟨ob,vs,h1,h2,h3⟩:=id x;exact ⟨x,⟨ob,h1⟩,fun g1 g2 ⟨o1,vs1,z1,z2,z3⟩ k=>⟨o1,vs1,k o1 z1,z2,z3⟩⟩
end
section
variable {P:Program} {w:World} {outer:List Env} {H H':Hp} {s s':Shared} {e:Addr} {cls:Value}
theorem Flies.move (f:Flies P w outer H H' s s' e cls):∃B a0,Heap.FlyingW B outer e cls a0 s'.heap ∧
  ∀h5,Heap.FlyingW B outer e cls a0 h5->s'.heap.UpToSlots h5->Flies P w outer H H' s { s' with heap:=h5 } e cls:=by
 obtain ⟨B,a0,fl,hB,kB,tB⟩:=f.fly;refine ⟨B,a0,fl,fun h5 fl5 up=>⟨f.os,f.bare,⟨fun b o q n hb _=>fl5.1 b o (kB b o q n hb),fun b o q n hb hx=>?_,f.un.free,fun b o q hx=>?_,f.un.tups,f.un.frzs,f.un.tbls⟩,B,a0,fl5,hB,kB,tB⟩⟩
 ·obtain ⟨sl,e1⟩:=f.un.slot b o q n hb hx;obtain ⟨_,o',ho',hn⟩:=fl.2.2.1.mem hb;rw [e1] at ho';cases ho';obtain ⟨sl',e2⟩:=up b _ e1 hn;exact ⟨sl',e2⟩
 ·by_cases hb:b∈Yg outer
  ·obtain ⟨_,o',ho',hn⟩:=fl.2.2.1.mem hb;obtain ⟨sl',e2⟩:=up b _ ho' hn;exact ⟨_,e2⟩
  ·obtain ⟨o1,e1⟩:=tB b o q hb;exact ⟨o1,fl5.1 b o1 e1⟩
theorem Flies.new (f:Flies P w outer H H' s s' e cls):H' e=none∧s.heap.get? e=none∧Zad cls e s'.heap:=by
 obtain ⟨B,a0,fl,hB,kB,tB⟩:=f.fly;obtain ⟨oe,vs,h1,h2,h3,_⟩:=fl.first;refine ⟨?_,?_,oe,vs,h1,h2,h3⟩
 ·cases q:H' e with
  |none=>rfl
  |some u =>
   obtain ⟨o1,e1⟩:=(hB e u q).there;rw [fl.2.1] at e1;cases e1
 ·cases q:s.heap.get? e with
  |none=>rfl
  |some u =>
   by_cases hb:e∈Yg outer
   ·obtain ⟨_,o',ho',hn⟩:=fl.2.2.1.mem hb;rw [h1] at ho';cases ho';exact absurd h3 (hn vs)
   ·obtain ⟨o1,e1⟩:=tB e u q hb;rw [fl.2.1] at e1;cases e1
end
section
variable {X:Cx} {pins:List (Addr×Obj)} {σ:St} {H H':Hp} {s s':Shared} {e:Addr} {cls:Value}
theorem Flies.caught (f:Flies X.prog X.w X.stack H H' s s' e cls) (I:Inv X pins σ H s):Inv X pins σ (Zb H' e (Ul cls e)) s':=by
 obtain ⟨n1,n2,ex⟩:=f.new;have J:=f.inv I
 have ne:∀b o,s.heap.get? b=some o->b≠e:=fun b o q z=>by
  rw [z,n2] at q;cases q
 refine I.call' (ch:=[]) f.os ⟨f.un.keep,f.un.slot,fun b o q n hx=>?_,f.un.there,fun b xs q=>?_,fun b o u q=>?_,fun b ps q=>?_⟩ (J.hok.track n1 (ZlD ex)) f.bare (fun b z=>absurd z (by simp))
 ·rw [Zd (ne b o q)];exact f.un.free b o q n hx
 ·have z:=f.un.tups b xs q;rw [Zd (ZO z n1)];exact z
 ·have z:=f.un.frzs b o u q;rw [Zd (ZO z n1)];exact z
 ·obtain ⟨more,z⟩:=f.un.tbls b ps q;exact ⟨more,by rw [Zd (ZO z n1)];exact z⟩
end
noncomputable abbrev Cx.tryIn (X:Cx) (pins:List (Addr×Obj)) (W:Value->Shared->Prop):Cx:={ X with pn:=X.pn++pins,xe:=W }
noncomputable abbrev Cx.suite (X:Cx) (pins:List (Addr×Obj)) (e:Addr):Cx:={ X with pn:=X.pn++pins,A:=X.A.mark (some (.ref e)),calm:=false,xe:=fun _ _=>False }
section
variable {X:Cx} {pins pins':List (Addr×Obj)} {σ:St} {H H':Hp} {s s':Shared} {W:Value->Shared->Prop} {e:Addr}
theorem Inv.tryIn (I:Inv X pins σ H s) (W:Value->Shared->Prop):Inv (X.tryIn pins W) [] σ H s :=
 ⟨⟨I.ok.mod,I.ok.kind,I.ok.glob,I.ok.blt,I.ok.above,I.ok.inj,I.ok.has,I.ok.cab,I.ok.hd,I.ok.frames,I.ok.stk,I.ok.exf,I.ok.bs,I.ok.bsz,I.ok.noex,I.ok.exfs,I.ok.funs,I.ok.frf⟩,
  I.os,I.bare,I.base,I.loc,I.cell,I.free,I.freeC,fun p hp=>I.pin p (by rw [Qs] at hp;exact hp),I.hok,I.len⟩
theorem Inv.untry (I:Inv (X.tryIn pins W) pins' σ H s):Inv X pins σ H s :=
 ⟨⟨I.ok.mod,I.ok.kind,I.ok.glob,I.ok.blt,I.ok.above,I.ok.inj,I.ok.has,I.ok.cab,I.ok.hd,I.ok.frames,I.ok.stk,I.ok.exf,I.ok.bs,I.ok.bsz,I.ok.noex,I.ok.exfs,I.ok.funs,I.ok.frf⟩,
  I.os,I.bare,I.base,I.loc,I.cell,I.free,I.freeC,fun p hp=>I.pin p (Rq _ hp),I.hok,I.len⟩
theorem Inv.suite (I:Inv X pins σ H s) (e:Addr):Inv (X.suite pins e) [] σ H s :=
 ⟨⟨I.ok.mod,I.ok.kind,I.ok.glob,I.ok.blt,I.ok.above,I.ok.inj,I.ok.has,I.ok.cab,(fun z=>nomatch z),I.ok.frames,I.ok.stk,I.ok.exf,I.ok.bs,I.ok.bsz,I.ok.noex,I.ok.exfs,I.ok.funs,I.ok.frf⟩,
  I.os,I.bare,I.base,I.loc,I.cell,I.free,I.freeC,fun p hp=>I.pin p (by rw [Qs] at hp;exact hp),I.hok,I.len⟩
theorem Inv.unsuite (I:Inv (X.suite pins e) pins' σ H s) (hd:X.calm=true->X.A.handled=none):Inv X pins σ H s :=
 ⟨⟨I.ok.mod,I.ok.kind,I.ok.glob,I.ok.blt,I.ok.above,I.ok.inj,I.ok.has,I.ok.cab,hd,I.ok.frames,I.ok.stk,I.ok.exf,I.ok.bs,I.ok.bsz,I.ok.noex,I.ok.exfs,I.ok.funs,I.ok.frf⟩,
  I.os,I.bare,I.base,I.loc,I.cell,I.free,I.freeC,fun p hp=>I.pin p (Rq _ hp),I.hok,I.len⟩
theorem SP.untry {D:Ends} {f:Flow} (h:SP (X.tryIn pins W) pins' D f s'):SP X pins D f s':=by
 cases f with
 |next=>obtain ⟨σ',H',I,q⟩:=h;exact ⟨σ',H',I.untry,q⟩
 |brk=>obtain ⟨σ',H',I,q⟩:=h;exact ⟨σ',H',I.untry,q⟩
 |cont=>obtain ⟨σ',H',I,q⟩:=h;exact ⟨σ',H',I.untry,q⟩
 |ret u=>obtain ⟨v,σ',H',I,r,q⟩:=h;exact ⟨v,σ',H',I.untry,r,q⟩
theorem SP.unsuite {D:Ends} {f:Flow} (hd:X.calm=true->X.A.handled=none) (h:SP (X.suite pins e) pins' D f s'):SP X pins D f s':=by
 cases f with
 |next=>obtain ⟨σ',H',I,q⟩:=h;exact ⟨σ',H',I.unsuite hd,q⟩
 |brk=>obtain ⟨σ',H',I,q⟩:=h;exact ⟨σ',H',I.unsuite hd,q⟩
 |cont=>obtain ⟨σ',H',I,q⟩:=h;exact ⟨σ',H',I.unsuite hd,q⟩
 |ret u=>obtain ⟨v,σ',H',I,r,q⟩:=h;exact ⟨v,σ',H',I.unsuite hd,r,q⟩
theorem ZaJ {M:Model} {A:Around} {E:Value->Shared->Prop} {i:Nat} {x:Str} {pos:Pos} {Q:Unit->Shared->Prop} (I:Inv X pins σ H s) (hN:X.N.Nodup) (hi:X.N[i]?=some x) (hk:X.env.scope.names.lookup x=some .local)
  (h:∀s',Inv X pins (σ.set i none) H s'->Q () s'):wpAny M A (do bindName X.env x .none;unbindBehindTheSuite X.env x pos) Q E s:=by
 obtain ⟨m,hn,hl⟩:=id I.loc;have hcls:(X.env.scope.kind==.class||(X.env.scope.kind==.module&&X.env.locals != X.env.globals))=false:=by rw [I.ok.kind];rfl
 have hiσ:i<σ.length:=by rw [I.len];exact (QI.mp hi).1
 have cne:=I.cne;refine wpAny_nameGoes_keeps hk hn hcls fun h' v hn' hs=>h _ ?_;obtain ⟨oL,_,_,hoL,_⟩:=id hn;refine ⟨I.ok,I.os,I.bare,⟨fun b o e n hb hx=>?_,fun b o e n hb hx=>?_,I.base.free,fun b o e hx=>?_,I.base.tups,I.base.frzs,I.base.tbls⟩,⟨_,hn',fun j y v' e1 e2 e3=>?_⟩,fun y c e=>?_,I.free,I.freeC,fun p hp=>?_,fun b ob e=>?_,by simpa using I.len⟩
 ·exact (hs.2 b (Qt (Qz (Qg e) I.ok.above))).trans (I.base.keep b o e n hb hx)
 ·obtain ⟨sl,e1⟩:=I.base.slot b o e n hb hx;exact ⟨sl,(hs.2 b (Qt (Qz (Qg e) I.ok.above))).trans e1⟩
 ·obtain ⟨o',e1⟩:=I.base.there b o e hx;exact ⟨o',(hs.2 b (Qt (Qz (Qg e) I.ok.above))).trans e1⟩
 ·by_cases hj:j=i
  ·subst hj;rw [Nr hiσ] at e2;cases e2
  ·rw [Nt (QZ hj)] at e2;obtain ⟨u',r',q⟩:=hl j y v' e1 e2 e3;refine ⟨u',r',?_⟩;rcases q with ⟨k,e⟩|⟨k,c,e,z⟩
   ·refine .inl ⟨k,?_⟩;have:y≠x:=fun e=>hj (ZcJ hN e1 (e▸hi));simp [this,e]
   ·exact .inr ⟨k,c,e,z.sameBut hs (cne y c e)⟩
 ·obtain ⟨w',z⟩:=I.cell y c e;exact ⟨w',z.sameBut hs (cne y c e)⟩
 ·obtain ⟨e,n,ne,nf,d⟩:=I.pin p hp;exact ⟨(hs.2 p.1 ne).trans e,n,ne,nf,d⟩
 ·refine (I.hok b ob e).stay (fun c w' hc q=>(hs.2 c ?_).trans q) (fun _ q=>q) fun _ _ q=>q;rintro rfl;rcases hc with rfl|hc
  ·rw [I.free] at e;cases e
  ·rw [I.free] at hc;cases hc
end
theorem ZlH {X:Cx} {A:Around} {E:Value->Shared->Prop} {pins:List (Addr×Obj)} {s:Shared} {σ:St} {H:Hp} {x:Str} {u:Value} {pos:Pos} {Q:Value->Shared->Prop} (I:Inv X pins σ H s) (hg:Gl X x) (hm:X.mg x=some u) (h:Q u s)
  (hd:(x==("__debug__" : Str))=false:=by decide):wpAny (model X.prog X.w) A (eval (.Name x pos) X.env) Q E s :=
 GO I.ok.kind hg (Nv (by rw [I.ok.glob];exact I.mod.glob.keeps I.bk) hm h) hd
noncomputable def ZbN (i:Nat) (D:Ends):Ends:={ nx:=fun σ H=>D.nx (σ.set i none) H,rt:=D.rt,bk:=fun σ H=>D.bk (σ.set i none) H,ct:=fun σ H=>D.ct (σ.set i none) H }
noncomputable def ZfA (C:Addr) (i:Nat) (ts:TS) (D:Ends):XS:=fun σ cls _ H=>cls=.ref C∧∀e,H e=none->ts (ZbN i D) (σ.set i (some (.ref e))) (Zb H e (Ul (.ref C) e))
def Zeg (C:Addr) (i:Nat) (tb:XS->TS) (ts:TS):TS:=fun D σ H=>tb (ZfA C i ts D) D σ H
section
variable {X:Cx} {body suite:List Stmt} {b₀:Stmt} {x n:Str} {C:Addr} {np hpos pos:Pos} {bmB:List Value} {newId:String} {i:Nat} {tb:XS->TS} {ts:TS}
theorem Zia (hs:X.stack=X.env::X.outer) (hf:X.env.frame=some X.env.locals) (hg:Gl X x) (hm:X.mg x=some (.ref C)) (q:PySem.W.excIn X.K C bmB newId=true) (hbase:bmB.contains (.type "BaseException")=true)
  (hN:X.N.Nodup) (hi:X.N[i]?=some n) (hk:X.env.scope.names.lookup n=some .local)
  (hb:∀pins W E,WG (ZD X.prog X.w) (X.tryIn pins W) E->PSs (X.tryIn pins W) body (tb E)) (hsu:∀pins e,PSs (X.suite pins e) (b₀::suite) ts)
  (hd:(x==("__debug__" : Str))=false:=by decide):PS X (.Try body [.ExceptHandler (some (.Name x np)) (some n) (b₀::suite) hpos] [] [] pos) (Zeg C i tb ts):=by
 intro pins s σ H D I h;refine wpAny_Try_except ?_
 refine Q1 (hb pins (fun u s₁=>wpAny (model X.prog X.w) X.A (noteFrame u X.env) (fun _ s₂=>wpAny (model X.prog X.w) X.A (setFlight u none) (fun _ s₃ =>
  wpAny (model X.prog X.w) X.A (handleBy u X.env [.ExceptHandler (some (.Name x np)) (some n) (b₀::suite) hpos]) (SP X pins D) X.xe s₃) X.xe s₂) X.xe s₁) (ZfA C i ts D) ?_ [] s σ H D (I.tryIn _) h) ?_ fun _ _ z=>z
 ·rintro pins' σ1 H1 s1 u s' I1 ⟨e,cls,H',rfl,fl,rfl,hts⟩;have J1:Inv X pins σ1 H1 s1:=I1.untry;have fl:Flies X.prog X.w X.stack H1 H' s1 s' e (.ref C):=fl;obtain ⟨B,a0,f0,mv⟩:=fl.move;rw [hs] at f0;refine wpAny_looks_onW (by rw [I.ok.frames,hs]) hf f0 fun h4 held4 up4=>?_;refine wpAny_landsW held4 fun h5 f5 up5=>?_;have fl5:=mv h5 (by rw [hs];exact f5) (up4.trans up5);have J5:=fl5.inv J1;obtain ⟨ob,hob,hobc⟩:=f5.there;refine wpAny_handleBy_cons (codeAny_handlers_test (ZlH J5 hg hm ?_ hd)) (by intro z;cases z);obtain ⟨bm,Nn,nm,qn,bs,hdct,sn,sub,ab,col,dd,k0,k1,k2,k3,k5,mN,hC,hNn,hni,T⟩:=Ze5 I.mod.kin q;refine wpAny_excMatches_sub_self (J5.bk _ _ hC) hob hobc (T.hasType hbase) (codeAny_handlers_suite_as ?_);refine lands_againW f5 fun h6 f6 up6=>?_;have fl6:=mv h6 (by rw [hs];exact f6) ((up4.trans up5).trans up6);have J6:=fl6.caught J1;refine Je (X:=X.suite pins e) (v:=.ref e) (J6.suite e) hN hi (.inl hk) rfl (fun s7 J7=>?_) (.inr hk);refine Q1 (hsu pins e [] s7 _ _ _ J7 (hts e fl6.new.1)) (fun f s8 r8=>?_) fun _ _ z=>False.elim z;have r9:SP X pins (ZbN i D) f s8:=r8.unsuite I.ok.hd;cases f with
  |next =>
   obtain ⟨σ9,H9,I9,q9⟩:=r9;exact ZaJ I9 hN hi hk fun s' J'=>⟨_,H9,J',q9⟩
  |brk =>
   obtain ⟨σ9,H9,I9,q9⟩:=r9;exact ZaJ I9 hN hi hk fun s' J'=>⟨_,H9,J',q9⟩
  |cont =>
   obtain ⟨σ9,H9,I9,q9⟩:=r9;exact ZaJ I9 hN hi hk fun s' J'=>⟨_,H9,J',q9⟩
  |ret u =>
   obtain ⟨v,σ9,H9,I9,rv,q9⟩:=r9;exact ZaJ I9 hN hi hk fun s' J'=>⟨v,_,H9,J',rv,q9⟩
 ·intro f s1 r1;have r2:SP X pins D f s1:=r1.untry;cases f with
  |next=>exact GP r2
  |brk=>exact r2
  |cont=>exact r2
  |ret u=>exact r2
end
structure ExcK (K:W.Frag) (C:Addr):Prop where
 ga:W.findIn K (.ref C) "__getattribute__"=some (some (.builtin "BaseException.__getattribute__"))
 gt:W.findIn K (.ref C) "__getattr__"=some none
 cl:W.findIn K (.ref C) "__class__"=some (some (.builtin "object.__class__"))
 mb:W.mroIn K C (.type "BaseException")=some true
 mo:W.mroIn K C (.type "object")=some true
section
variable {prog:Program} {w:World} {A:Around} {E:Value->Shared->Prop} {K:W.Frag} {h:Heap} {g:Array GenState} {d:Drawn} {t:Nat} {os:OsState} {a C:Addr} {ob:Obj}
theorem ZlE:(".".intercalate ("object.__class__".cutAt '.').dropLast)="object":=by decide +kernel
theorem ZhK {R:Result->Shared->Prop} (X:K.In h) (Z:ExcK K C) (hx:h.get? a=some ob) (hc:ob.cls=.ref C) (hq:R (.ok (.ret (.ref C))) ⟨h,g,d,t,os⟩) :
  codeAny (model prog w) A (.call (.builtin "getset_descriptor.__get__") ⟨[.builtin "object.__class__",.ref a,.ref C],[]⟩) R ⟨h,g,d,t,os⟩:=by
 have k5:(⟨h,g,d,t,os⟩:Shared).TypeIs (.builtin "object.__class__") "getset_descriptor":=NE
 have mo:W.Looks (model prog w) h (isSubtype (.ref C) (.type (".".intercalate ("object.__class__".cutAt '.').dropLast))) true:=by
  rw [ZlE];exact W.looks_mroIn X Z.mo
 refine NF F.slot_gs_get.plain F.entry_gs_get (F.slot_gs_get.check _ _ _ _ _ _ _ _ k5 (F.args_gs_get _ _ _) ?_)
 repeat (any_goals (first|assumption|(with_reducible refine Gw hx ?_;rw [hc])|(with_reducible refine mo.at ?_)|wp_step))
 refine ⟨Gx _ (by decide +kernel),Gf F.entry_object_class ?_⟩
 repeat (any_goals (first|assumption|(with_reducible refine Gw hx ?_;rw [hc])|wp_step))
theorem ZoK {tk:Tok} {Q:Fin->Shared->Prop} (X:K.In h) (Z:ExcK K C) (hx:h.get? a=some ob) (hc:ob.cls=.ref C) (hq:Q (.done (.ret (.ref C))) ⟨h,g,d,t,os⟩) :
  wpAny (model prog w) A (Builtin.«object.__getattribute__» ⟨[.ref a,.str "__class__" tk],[]⟩) Q E ⟨h,g,d,t,os⟩:=by
 have k5:(⟨h,g,d,t,os⟩:Shared).TypeIs (.builtin "object.__class__") "getset_descriptor":=NE;have f5:=NE;have f6:=F.slot_gs_get.lookup;have f7:=F.slot_gs_set.lookup;have lc:=GR (M:=model prog w) X Z.cl
 repeat (any_goals (first|assumption|(with_reducible refine Gw hx ?_;rw [hc])|(with_reducible refine lc.at ?_)|wp_step))
 refine ZhK X Z hx hc ?_
 repeat (any_goals (first|assumption|wp_step))
theorem Zh6 {M:Model} {nameV:Value} {Q:Unit->Shared->Prop} (X:K.In h) (Z:ExcK K C) (hx:h.get? a=some ob) (hc:ob.cls=.ref C) (hq:Q () ⟨h,g,d,t,os⟩) :
  wpAny M A (checkBuiltinCall "BaseException.__getattribute__" ⟨[.ref a,nameV],[]⟩) Q E ⟨h,g,d,t,os⟩:=by
 have kd:builtinKind "BaseException.__getattribute__"=some .slot:=by decide +kernel
 have sp:splitId "BaseException.__getattribute__"=some ("BaseException","__getattribute__"):=by decide +kernel
 have mb:=W.looks_mroIn (M:=M) X Z.mb;have ar:=F.args_bexc_ga (.ref a) nameV;simp only [checkBuiltinCall,kd,sp];refine Qb ?_;unfold isInstance
 repeat (first|(with_reducible refine Gw hx ?_;rw [hc])|(with_reducible refine mb.at ?_)|wp_step)
 exact hq
theorem Zkw {tk:Tok} {R:Result->Shared->Prop} (X:K.In h) (Z:ExcK K C) (hx:h.get? a=some ob) (hc:ob.cls=.ref C) (hq:R (.ok (.ret (.ref C))) ⟨h,g,d,t,os⟩) :
  codeAny (model prog w) A (.call (.builtin "BaseException.__getattribute__") ⟨[.ref a,.str "__class__" tk],[]⟩) R ⟨h,g,d,t,os⟩ :=
 NF (F.excAttr_ValueError).ga.plain F.entry_bexc_ga (Zh6 X Z hx hc (ZoK X Z hx hc hq))
theorem ZnO {tk:Tok} {fill expr:Bool} {Q:Value->Shared->Prop} (X:K.In h) (Z:ExcK K C) (hx:h.get? a=some ob) (hc:ob.cls=.ref C) (hq:Q (.ref C) ⟨h,g,d,t,os⟩) :
  wpAny (model prog w) A (getAttrBy (.ref a) (.str "__class__" tk) fill expr) Q E ⟨h,g,d,t,os⟩:=by
 have f3:=(F.excAttr_ValueError).ga.bind (.ref a);have y0:(expr&&onTheHeap (Value.builtin "BaseException.__getattribute__"))=false:=by cases expr<;>rfl
 have y2:(Value.builtin "BaseException.__getattribute__"==Value.builtin "object.__getattribute__")=false:=by decide +kernel
 have y1:(onTheHeap (Value.ref C)&&Value.builtin "BaseException.__getattribute__"==Value.builtin "object.__getattribute__")=false:=by rw [y2];rfl
 have lg:=GR (M:=model prog w) X Z.ga;have lt:=GR (M:=model prog w) X Z.gt
 repeat (any_goals (first|assumption|(with_reducible refine Gw hx ?_;rw [hc])|(with_reducible refine lg.at ?_)|(with_reducible refine lt.at ?_)|wp_step))
 refine Zkw X Z hx hc ?_
 repeat (any_goals (first|assumption|wp_step))
theorem Zi4 {Q:Option Value->Shared->Prop} (X:K.In h) (Z:ExcK K C) (hx:h.get? a=some ob) (hc:ob.cls=.ref C) (hq:Q (some (.ref C)) ⟨h,g,d,t+1,os⟩) :
  wpAny (model prog w) A (getAttr? (.ref a) "__class__") Q E ⟨h,g,d,t,os⟩:=by
 unfold getAttr? getAttrBy?
 repeat (any_goals (first|assumption|with_reducible apply ZnO X Z hx hc|wp_step))
end
section
variable {K:W.Frag} {a C:Addr}
theorem ZmV (Z:ExcK K C):W.KitX K (.ref a) (.ref C) (Zad (.ref C) a) where
 ty:=fun M h X p=>by
  obtain ⟨o,vs,h1,h2,_⟩:=p;exact h2▸(W.Looks.ld h1).andThen .now
 it:=fun M h X p=>by
  obtain ⟨cd,hc,_⟩:=N1.mp Z.mo;unfold W.clsIn at hc;split at hc
  ·rename_i ho;intro A' Q' E' s' k q;unfold isType loadHead;exact Qb (wpAny_loadPart (k _ _ (X _ _ ho)) (Qe q))
  ·cases hc
 ne:=fun h tp dd its n sl X htp=>by
  obtain ⟨cd,hc,_⟩:=N1.mp Z.mo;refine Ru.mpr fun q=>?_;have e:C=tp:=Value.ref.inj (RN.mp q);subst e;unfold W.clsIn at hc;split at hc
  ·rename_i ho;have z:=(X _ _ ho).symm.trans htp;cases z
  ·cases hc
 ca:=fun {prog w A E Q s} X p k=>by
  obtain ⟨h,g,d,t,os⟩:=s;obtain ⟨o,vs,h1,h2,_⟩:=p;exact Zi4 X Z h1 h2 k
end
inductive Kd (K:W.Frag) (H:Hp):V->Value->Prop where
 |of {x:V} {t:Value} (e:TyOf K H x t):Kd K H x t
 |exc {a C:Addr} (Z:ExcK K C) (e:H a=some (Ul (.ref C) a)):Kd K H (.ref a) (.ref C)
 |sqt {a:Addr} {xs:List V} (e:SqT K H a xs):Kd K H (.ref a) (.type "tuple")
 |sql {a:Addr} {xs:List V} (e:SqL K H a xs):Kd K H (.ref a) (.type "list")
noncomputable def isC:V->Bool
 |.ref _=>true
 |.ty _=>true
 |_=>false
noncomputable def Zcm:V->Value
 |.ref a=>.ref a
 |.ty n=>.type n
 |_=>.none
section
variable {X:Cx} {A:Around}
theorem ZkB:YG X (.builtin "isinstance") (fun xs H Q=>∃x c t b,xs=[x,c]∧isC c=true∧Kd X.K H x t∧W.kitOne X.K t (Zcm c)=some b∧Q (.bl b) H):=by
 intro pins s σ H xs us Q I r h;obtain ⟨x,c,t,b,rfl,ic,ty,e,q⟩:=h;obtain ⟨u,v,rfl,rx,rc⟩:=Vx r
 have ec:Zcm c=v:=by
  cases c with
  |ref a=>exact Eq.symm rc
  |ty n=>exact Eq.symm rc
  |_=>cases ic
 rw [ec] at e;have fin:∀tk,EP X pins σ Q (.bool b) { s with toks:=tk }:=fun tk=>⟨.bl b,H,I.tok tk,rfl,q⟩;cases ty with
 |of ty=>exact ZiM I rx ty e fin
 |@exc a C Z ea =>
  cases (show u=Value.ref a from rx);obtain ⟨p,_,_⟩:=(show ObjOk X.prog X.w H s.heap a (Ul (.ref C) a) from I.hok a _ ea);exact Q0 (ZmV Z) I.kIn p e (fun z=>nomatch z) fin
 |@sqt a ys ea =>
  cases (show u=Value.ref a from rx);rcases ea with ea|⟨o,its,n,h1,h2,_⟩
  ·obtain ⟨_,_,_,p⟩:=(show ObjOk X.prog X.w H s.heap a (.tup ys) from ea.ok I.hok);obtain ⟨o,h1,h2,_⟩:=p;exact Q0 W.kitx_tuple I.kIn ⟨o,h1,h2⟩ e (fun z=>nomatch z) fin
  ·exact Q0 W.kitx_tuple I.kIn ⟨o,I.kIn _ _ h1,h2⟩ e (fun z=>nomatch z) fin
 |@sql a ys ea =>
  cases (show u=Value.ref a from rx);rcases ea with ea|⟨o,its,n,h1,h2,_⟩
  ·obtain ⟨_,_,n,_,h1⟩:=(show ObjOk X.prog X.w H s.heap a (.lst ys) from ea.ok I.hok);exact Q0 GS I.kIn ⟨_,h1,rfl⟩ e (fun z=>nomatch z) fin
  ·exact Q0 GS I.kIn ⟨o,I.kIn _ _ h1,h2⟩ e (fun z=>nomatch z) fin
def Znb (i j:Int):Prop:=i.natAbs<2 ^ 1000∧j.natAbs<2 ^ 1000
theorem Zf4 {x:Int} (h:x.natAbs<2 ^ 1000):Builtin.Int.intBits x≤2 ^ 20:=by
 unfold Builtin.Int.intBits;split
 ·exact QJ _
 ·rename_i z
  have n:x.natAbs≠0:=by
   intro q;exact z (by rw [Int.natAbs_eq_zero.mp q];rfl)
  have:=(Nat.log2_lt n).mpr h;omega
theorem ZaL:Yq X (binaryOp .Mult) (rI Znb fun i j=>.int (i*j)):=JV fun _ _ _ _ _ _ _ hc q=>mul_int q (.of_bits (Zf4 hc.1) (Zf4 hc.2))
theorem Y1:Yq X (binaryOp .FloorDiv) (rI (fun _ j=>j≠0∧j.natAbs<2 ^ 1000) fun i j=>.int (i.fdiv j)):=JV fun i j _ _ _ _ _ hc q =>
 floordiv_int hc.1 q (.inl (PyProof.noPylong_of_log2 (by
  have n:j.natAbs≠0:=fun z=>hc.1 (Int.natAbs_eq_zero.mp z);have:=(Nat.log2_lt n).mpr hc.2;omega)))
theorem Fun.okX {P:Program} {w:World} {K:W.Frag} {mg:Str->Option Value} {base:Heap} {CX:Yu} {x qual:Str} {st:Stmt} {f:Addr} {fd:FuncData} {N ps:List Str} {k:Nat} {sp:Sp} (F:Fun K x qual st f fd) (S:FnScope N ps (Zx st))
  (len:∀vs H Q E,sp vs H Q E->vs.length=ps.length)
  (hbody:∀(cdv:Value) (A:Around) (outer:List Env) (s:Shared) (H:Hp) (vs:List V) (Q:VK) (E:XK),Room k (A.deeper (envOfC qual (Zx st) s.heap.objs.size f cdv))->sp vs H Q E →
   ∃t,PSs (We CX P w K mg base N qual (Zx st) f cdv A outer s H E) (Y4 st) t∧t { nx:=fun _ H'=>Q .non H',rt:=Q } (start N vs) H):FnOk P w K mg base CX (k+1) f fd ps sp:=by
 obtain ⟨oc,od,kV,doc,pm,an,cdv,ct,osl,rfl,lk,hcd⟩:=F.ex;exact Zd1 lk hcd S len fun A outer s H vs Q E hr hsp=>hbody cdv A outer s H vs Q E hr hsp
end
theorem Zdz:bootBuiltins "int"=some (.type "int"):=by decide +kernel
theorem Zmf:bootBuiltins "bool"=some (.type "bool"):=by decide +kernel
theorem Vi:bootBuiltins "str"=some (.type "str"):=by decide +kernel
theorem UZ:bootBuiltins "list"=some (.type "list"):=by decide +kernel
theorem ZdC:bootBuiltins "tuple"=some (.type "tuple"):=by decide +kernel
theorem Yd:bootBuiltins "len"=some (.builtin "len"):=by decide +kernel
theorem ZkN:bootBuiltins "abs"=some (.builtin "abs"):=by decide +kernel
theorem JG:bootBuiltins "max"=some (.builtin "max"):=by decide +kernel
theorem VP:bootBuiltins "min"=some (.builtin "min"):=by decide +kernel
theorem Zo3:bootBuiltins "isinstance"=some (.builtin "isinstance"):=by decide +kernel
abbrev Xu:List Value:=[.type "ValueError",.type "Exception",.type "BaseException",.type "object"]
theorem EB:ExcBaseFacts "ValueError" "ValueError.__new__" "ValueError.__init__" Xu:=PySem.F.excBase_ValueError
theorem EBb:Xu.contains (.type "BaseException")=true:=by decide +kernel
theorem Zk {H:Hp} {p:Addr} {o:HO} (n:H p=none):Same H (Zb H p o):=fun b u e=>by
 rw [Zd (ZO e n)];exact e
theorem Same.rd {H H':Hp} (e:Same H H') {a:Addr} {u:HO} (r:Rd H a u):Rd H' a u:=by
 rcases r with r|⟨o,r⟩
 ·exact .inl (e _ _ r)
 ·exact .inr ⟨o,e _ _ r⟩
theorem Same.sqt {K:W.Frag} {H H':Hp} {a:Addr} {xs:List V} (e:Same H H') (h:SqT K H a xs):SqT K H' a xs:=by
 rcases h with h|h
 ·exact .inl (e.rd h)
 ·exact .inr h
theorem Same.sql {K:W.Frag} {H H':Hp} {a:Addr} {xs:List V} (e:Same H H') (h:SqL K H a xs):SqL K H' a xs:=by
 rcases h with h|h
 ·exact .inl (e.rd h)
 ·exact .inr h
theorem Same.ty {K:W.Frag} {H H':Hp} {x:V} {t:Value} (e:Same H H') (h:TyOf K H x t):TyOf K H' x t:=by
 cases h with
 |non=>exact .non
 |bl b=>exact .bl b
 |int i=>exact .int i
 |str y=>exact .str y
 |flt y=>exact .flt y
 |lst q=>exact .lst (e _ _ q)
 |frz q=>exact .frz (e _ _ q)
 |tup q=>exact .tup (e _ _ q)
 |dK q=>exact .dK (e _ _ q)
 |dT q=>exact .dT (e _ _ q)
 |ins q c a n tk m=>exact .ins (e _ _ q) c a n tk m
theorem Same.kd {K:W.Frag} {H H':Hp} {x:V} {t:Value} (e:Same H H') (h:Kd K H x t):Kd K H' x t:=by
 cases h with
 |of q=>exact .of (e.ty q)
 |exc Z q=>exact .exc Z (e _ _ q)
 |sqt q=>exact .sqt (e.sqt q)
 |sql q=>exact .sql (e.sql q)
def Zo6 (K:W.Frag) (t:TA):TE:=fun σ H Q=>t σ H fun xs H1=>∃x c ty b,xs=[x,c]∧isC c=true∧Kd K H1 x ty∧W.kitOne K ty (Zcm c)=some b∧Q (.bl b) H1
theorem Xv {X:Cx} (K:W.Frag) {p pos:Pos} {e:Expr} {es:List Expr} {t:TA} (hg:Gl X "isinstance") (hm:X.mg "isinstance"=none) (ha:PA X (e::es) t) (hK:X.K=K:=by rfl)
  (he:starEach (e::es) X.env=(false,eval e X.env)::starEach es X.env:=by rfl) (hpl:(backTo pos (starEach es X.env)).any (·.1)=false:=by rfl):PE X (.Call (.Name "isinstance" p) (e::es) [] pos) (Zo6 K t):=by
 subst hK;exact ZN (ZkB (X:=X)) hg hm Zo3 ha (by decide) (by decide) he hpl
section
variable {K:W.Frag} {H H':Hp}
end
section
variable {X:Cx} {pins:List (Addr×Obj)} {σ:St} {H:Hp} {s:Shared}
end
section
variable {X:Cx} {pins:List (Addr×Obj)} {σ:St} {H:Hp} {s:Shared}
end
section
variable {prog:Program} {w:World} {A:Around} {R:Result->Shared->Prop} {s:Shared}
theorem Zim {elt target iter:Expr} {ifs:List Expr} {scope:Scope} {pos:Pos} {it acc:Value} {env:Env} (J:Nat->Shared->Prop)
  (turn:∀n s,J n s->wpAny (model prog w) A (pyNext it) (fun r s1=>match r with
   |none=>R (.ok .next) s1
   |some v => wpAny (model prog w) A (letOwnedTupleGo target it v) (fun _ s2 => wpAny (model prog w) A (assign target env v) (fun _ s3 =>
     wpAny (model prog w) A (forIn ifs true fun c r=>if r=true then do let ok ←isTrue c env (eval c env);pure (ForInStep.yield ok) else pure (ForInStep.yield r)) (fun ok s4 =>
      if ok=true then wpAny (model prog w) A (eval elt env) (fun x s5=>wpAny (model prog w) A (call (.builtin "list.append") [acc,x]) (fun _ s6=>∃m,m<n∧J m s6) (fun _ _=>False) s5) (fun _ _=>False) s4
      else ∃m,m<n∧J m s4) (fun _ _=>False) s3) (fun _ _=>False) s2) (fun _ _=>False) s1) (fun _ _=>False) s)
  (n:Nat) (h:J n s):codeAny (model prog w) A (.compLoop (.ListComp elt [⟨target,iter,ifs,0⟩] scope pos) 0 it acc env) R s:=by
 refine codeAny_loop rfl J (fun n s hJ=>?_) n h;show wpAny _ A ((compTurn (.ListComp elt [⟨target,iter,ifs,0⟩] scope pos) 0 it acc env).onRaise (fun x=>do noteFrame x env;theTreesLotGoes x)) _ _ s;refine wpAny_noted ?_;rw [compTurn_list];refine Qb (wpAny_standAt (Qb (Q1 (turn n s hJ) (fun r s1 h1=>?_) fun _ _ z=>z.elim)));cases r with
 |none=>exact Qe h1
 |some v =>
  refine Qb (Q1 h1 (fun _ s2 h2=>Qb (Q1 h2 (fun _ s3 h3=>Qb (Q1 h3 (fun ok s4 h4=>?_) fun _ _ z=>z.elim)) fun _ _ z=>z.elim)) fun _ _ z=>z.elim);cases ok with
  |false=>exact Qe ⟨rfl,h4⟩
  |true=>exact Qb (Qb (Q1 h4 (fun x s5 h5=>Qb (Q1 h5 (fun _ s6 h6=>Qe (Qe ⟨rfl,h6⟩)) fun _ _ z=>z.elim)) fun _ _ z=>z.elim))
end
def Jf (X:Cx) (ifs:List Expr) (t:TT):Prop :=
 ∀(pins:List (Addr×Obj)) (s:Shared) (σ:St) (H:Hp) (Q:Bool->Hp->Prop),Inv X pins σ H s->t σ H Q →
  wpAny (model X.prog X.w) X.A (forIn ifs true fun c r=>if r=true then do let ok ←isTrue c X.env (eval c X.env);pure (ForInStep.yield ok) else pure (ForInStep.yield r)) (TP X pins σ Q) X.xe s
def ZfV:TT:=fun _ H Q=>Q true H
theorem Jb {X:Cx}:Jf X [] ZfV:=fun _ _ _ H _ I h=>wpAny_tests_nil ⟨H,I,h⟩
theorem WR {X:Cx} {c:Expr} {t:TT} (h:PT X c t):Jf X [c] t:=fun pins s σ H Q I q=>wpAny_tests_one (h pins s σ H Q I q)
noncomputable abbrev Cx.block (X:Cx) (N:List Str) (sc:Scope) (cl:List (Str×Addr)) (fp:List Addr) (s3:Shared) (H3:Hp):Cx :=
 { X with N:=N,s₀:=s3,H₀:=H3,env:=compEnvC sc cl s3.heap.objs.size X.env,outer:=X.stack,ex:=fp,fn:=fun _=>false,pn:=[],xe:=fun _ _=>False }
structure CompSc (X:Cx) (N:List Str) (sc:Scope) (cl:List (Str×Addr)) (σc:St->St):Prop where
 kind:sc.kind=.function
 names:∀x∈sc.names,x.2=.local->sc.names.lookup x.1=some .local
 nocell:∀y∈sc.names,y.2≠.cell
 clos:closureFor sc X.env=pure cl
 sub:∀x c,cl.lookup x=some c->X.env.cells.lookup x=some c
 has:∀x,((relabel sc X.env).names.lookup x=some .cell∨(relabel sc X.env).names.lookup x=some .free)->∃c,cl.lookup x=some c
 len:∀σ:St,(σc σ).length=N.length
 cap:∀(σ:St) (i:Nat) (x:Str) (v:V),N[i]?=some x->(σc σ)[i]?=some (some v)->((relabel sc X.env).names.lookup x=some .cell∨(relabel sc X.env).names.lookup x=some .free)∧(X.env.scope.names.lookup x=some .cell∨X.env.scope.names.lookup x=some .free)∧∃j:Nat,X.N[j]?=some x∧σ[j]?=some (some v)
def ZaZ (J:It) (σ0:St) (g:TG) (tt:TT) (te:TE) (Q:VK) (H1:Hp):Prop:=∀D,H1 D=none →
 ∃W:Nat->Nat->St->List V->Hp->Prop,(∃m,W 0 m σ0 [] (Zb H1 D (.lst [])))∧∀i m σ1 ys H2,W i m σ1 ys H2->H2 D=some (.lst ys) ∧
  ((J.stop i H2∧Q (.ref D) H2)∨(J.go i H2∧∃N:St->List V->Hp->Prop,(∀σ2 ys2 H3,N σ2 ys2 H3->∃m',m'<m∧W (i+1) m' σ2 ys2 H3) ∧
   ∀x H3,J.yld i H2 x H3->g x σ1 H3 fun σ2 H4=>tt σ2 H4 fun c H5=>if c=true then te σ2 H5 fun y H6=>H6 D=some (.lst ys)∧ys.length<sizeLine∧N σ2 (ys++[y]) (Zb H6 D (.lst (ys++[y]))) else N σ2 ys H5))
def ZgY (wi:TI) (σc:St->St) (g:TG) (tt:TT) (te:TE):TE:=fun σ H Q=>wi σ H fun J H1=>ZaZ J (σc σ) g tt te Q H1
section
variable {X:Cx} {pins:List (Addr×Obj)} {σ:St} {H:Hp} {s:Shared} {N:List Str} {sc:Scope} {cl:List (Str×Addr)} {σc:St->St} {fp:List Addr}
theorem Inv.block (I:Inv X pins σ H s) (S:CompSc X N sc cl σc) (hf:∀b∈fp,XN X pins H b) (hlt:∀b∈fp,b<s.heap.objs.size) {h':Heap} {t':Nat} (k:∀b u,s.heap.get? b=some u->h'.get? b=some u) (hn:h'.Ns s.heap.objs.size fun _=>none) :
  Inv (X.block N sc cl fp s H) [] (σc σ) H { s with heap:=h',toks:=t' }:=by
 have kin:∀x,(X.block N sc cl fp s H).env.kindOf x=(relabel sc X.env).names.lookup x:=fun _=>rfl
 refine ⟨⟨I.ok.mod,S.kind,I.ok.glob,I.ok.blt,Qf _,fun x y c h1 h2=>I.ok.inj x y c (S.sub x c h1) (S.sub y c h2),fun x hx=>S.has x hx,fun x c z _=>(nomatch z),I.ok.hd,I.ok.frames,.inl rfl,fun b hb=>⟨Qt (hlt b hb),fun x c e=>(hf b hb).2.2.2.2.1 x c (S.sub x c e)⟩,
  I.bs,Qo I.ok.bsz I.sz,fun b o e hb=>?_,fun b hb z=>?_,I.stack,I.stkFree⟩,
  rfl,I.bare,Un.kept k,⟨_,hn,fun i x v e1 e2 e3=>?_⟩,fun x c e=>?_,I.hok.fresh (Qf _),fun x c e=>I.freeC x c (S.sub x c e),fun p hp=>absurd (show p∈([]:List (Addr×Obj)) from hp) (by simp),I.hok.kept k,S.len σ⟩
 ·rcases (hf b hb).2.2.2.1 with z|z
  ·exact I.ok.noex b o e z
  ·exact absurd (Qz (Qg e) (Qo I.ok.bsz z)) (QS _)
 ·rcases Qh.mp (I.stkSub b z) with y|y
  ·exact (hf b hb).2.1 y
  ·exact (hf b hb).2.2.1 y
 ·obtain ⟨hk,hko,j,hj,hσ⟩:=S.cap σ i x v e1 e2;obtain ⟨m,hm,hl⟩:=I.loc;obtain ⟨u,r,l⟩:=hl j x v hj hσ (by rcases hko with z|z;exact .inr (.inl z);exact .inr (.inr z));refine ⟨u,r,.inr ⟨hk,?_⟩⟩;rcases l with ⟨q,_⟩|⟨_,c,hc,q⟩
  ·have q':X.env.scope.names.lookup x=some .local:=q;rcases hko with z|z<;>(rw [z] at q';cases q')
  ·obtain ⟨c',hc'⟩:=S.has x hk;have e:=S.sub x c' hc';rw [hc] at e;cases e;exact ⟨c,hc',q.keeps k⟩
 ·obtain ⟨v,q⟩:=I.cell x c (S.sub x c e);exact ⟨v,q.keeps k⟩
end
section
variable {X:Cx} {elt tg iter:Expr} {ifs:List Expr} {sc:Scope} {pos:Pos} {N:List Str} {cl:List (Str×Addr)} {σc:St->St} {wi:TI} {g:TG} {tt:TT} {te:TE}
structure Gone (X:Cx) (pins:List (Addr×Obj)) (H:Hp) (C:Addr):Prop where
 free:H C=none
 loc:C≠X.env.locals
 new:X.s₀.heap.objs.size≤C
 cell:∀x c,X.env.cells.lookup x=some c->c≠C
 pin:∀p∈X.pn++pins,p.1≠C
theorem Inv.gone {pins:List (Addr×Obj)} {σ:St} {H:Hp} {s:Shared} {C:Addr} {h':Heap} (I:Inv X pins σ H s) (G:Gone X pins H C) (sb:Heap.SameBut C s.heap h'):Inv X pins σ H { s with heap:=h' } :=
 I.turned (t':=s.toks) (it:=C) (fun b o n q=>(sb.2 b n).trans q) G.free G.loc (.inr G.new) G.cell G.pin
theorem Zft {pins:List (Addr×Obj)} {s2:Shared} {σ:St} {H2:Hp} {Q:VK} {RR:Value->Addr->Result->Shared->Prop} {E:Value->Shared->Prop} {it:Addr} {fp:List Addr} {tn:Nat->Heap->Prop} {J:It}
  (hc:X.calm=true) (S:CompSc X N sc cl σc) (hg:∀fp s3 H3,PG (X.block N sc cl fp s3 H3) tg g) (ht:∀fp s3 H3,Jf (X.block N sc cl fp s3 H3) ifs tt) (he:∀fp s3 H3,PE (X.block N sc cl fp s3 H3) elt te)
  (I2:Inv X pins σ H2 s2) (T:Turn X.prog X.w X.K tg J fp it tn) (st2:tn 0 s2.heap) (f2:∀b∈fp,XN X pins H2 b)
  (h2:∀D,H2 D=none->∃W:Nat->Nat->St->List V->Hp->Prop,(∃m,W 0 m (σc σ) [] (Zb H2 D (.lst [])))∧∀i m σ1 ys H2,W i m σ1 ys H2->H2 D=some (.lst ys) ∧
   ((J.stop i H2∧Q (.ref D) H2)∨(J.go i H2∧∃N:St->List V->Hp->Prop,(∀σ2 ys2 H3,N σ2 ys2 H3->∃m',m'<m∧W (i+1) m' σ2 ys2 H3) ∧
    ∀x H3,J.yld i H2 x H3->g x σ1 H3 fun σ2 H4=>tt σ2 H4 fun c H5=>if c=true then te σ2 H5 fun y H6=>H6 D=some (.lst ys)∧ys.length<sizeLine∧N σ2 (ys++[y]) (Zb H6 D (.lst (ys++[y]))) else N σ2 ys H5)))
  (hRR:∀D C m s7 H7,Inv X pins σ H7 s7->s7.heap.Ns C m->Gone X pins H7 C->Q (.ref D) H7->RR (.ref D) C (.ok .next) s7) :
  wpAny (model X.prog X.w) X.A (newList []) (fun acc s₃=>wpAny (model X.prog X.w) X.A (newFunctionEnv sc X.env.globals cl [] X.env.qual none .none (some X.env)) (fun cenv s₄ =>
   codeAny (model X.prog X.w) X.A (.compStart (.ListComp elt [⟨tg,iter,ifs,0⟩] sc pos) 0 (.ref it) acc { cenv with scope:=relabel sc X.env }) (RR acc cenv.locals) s₄) E s₃) E s2:=by
 refine QM ?_;have hD:H2 s2.heap.objs.size=none:=I2.hok.fresh (Qf _)
 have I3:Inv X pins σ (Zb H2 s2.heap.objs.size (.lst [])) { s2 with heap:=s2.heap.push { cls:=.type "list",dict:=none,data:=.seq ([]:List Value).toArray } } :=
  I2.laid (t':=s2.toks) (fun b u q=>Qi _ q) (Qf _) ⟨by decide,[],0,.nil,Ql _ rfl⟩
 have flt:∀b∈fp,b<s2.heap.objs.size:=fun b hb=>by
  obtain ⟨o,e,_⟩:=T.obj _ _ st2 b hb;exact Qg e
 obtain ⟨W,⟨m0,w0⟩,turn⟩:=h2 s2.heap.objs.size hD;have f3:∀b∈fp,XN X pins (Zb H2 s2.heap.objs.size (.lst [])) b:=fun b hb=>⟨by rw [Zd (Qt (flt b hb))];exact (f2 b hb).1,(f2 b hb).2⟩;have st3:tn 0 (s2.heap.push { cls:=.type "list",dict:=none,data:=.seq ([]:List Value).toArray }):=T.keep _ _ _ st2 fun b _ o q=>Qi _ q;have sz3:s2.heap.objs.size≤(s2.heap.push { cls:=.type "list",dict:=none,data:=.seq ([]:List Value).toArray }).objs.size:=by rw [Rc];exact QW _
 generalize s2.heap.push { cls:=.type "list",dict:=none,data:=.seq ([]:List Value).toArray }=h3 at *;generalize s2.heap.objs.size=D at *;refine wpAny_newFunctionEnv S.nocell (by intro y hy;simp at hy) (fun h4 hn4 hb4=>?_) S.kind;dsimp only at hn4 hb4 ⊢;have k4:∀b u,h3.get? b=some u->h4.get? b=some u:=fun b u q=>(hb4.2 b (Qt (Qg q))).trans (Qi _ q)
 have I4:Inv (X.block N sc cl fp { s2 with heap:=h3 } (Zb H2 D (.lst []))) [] (σc σ) (Zb H2 D (.lst [])) { s2 with heap:=h4,toks:=s2.toks+0 } :=
  I3.block S f3 (fun b hb=>Qz (flt b hb) sz3) k4 hn4
 have st4:tn 0 h4:=T.keep _ _ _ st3 fun b _ o q=>k4 b o q
 have fb:∀{H':Hp},(∀b∈fp,H' b=none)->∀b∈fp,XN (X.block N sc cl fp { s2 with heap:=h3 } (Zb H2 D (.lst []))) [] H' b:=fun hn b hb =>
  ⟨hn b hb,(I4.ok.exf b hb).1,I4.ok.exfs b hb,.inl hb,(I4.ok.exf b hb).2,fun p hp=>absurd (show p∈([]:List (Addr×Obj)) from hp) (by simp)⟩
 have fin:∀{σ':St} {H':Hp} {s':Shared} {h':Heap},Inv (X.block N sc cl fp { s2 with heap:=h3 } (Zb H2 D (.lst []))) [] σ' H' s'->Heap.SameBut h3.objs.size s'.heap h'->Inv X pins σ H' { s' with heap:=h' }:=fun {σ' H' s' h'} J' sb=>by
  have lt3:∀b o,h3.get? b=some o->b≠h3.objs.size:=fun b o q=>Qt (Qg q);have lo:H' h3.objs.size=none:=J'.free
  have hk:HOk X.prog X.w H' h':=fun b u e=>(J'.hok b u e).stay (fun c v hcc q=>(sb.2 c (by
   rintro rfl;rcases hcc with z|z
   ·subst z;rw [lo] at e;cases e
   ·rw [lo] at z;cases z)).trans q) (fun _ q=>q) fun _ _ q=>q
  refine I3.call' (s':={ s' with heap:=h' }) (ch:=fp) J'.os ⟨fun b o q n hb hx=>(sb.2 b (lt3 b o q)).trans (J'.base.keep b o q n hb hx),fun b o q n hb hx=>?_,fun b o q n hx=>J'.base.free b o q n hx,fun b o q hx=>?_,J'.base.tups,J'.base.frzs,J'.base.tbls⟩ hk J'.bare fun b hb=>?_
  ·obtain ⟨sl,q1⟩:=J'.base.slot b o q n hb hx;exact ⟨sl,(sb.2 b (lt3 b o q)).trans q1⟩
  ·obtain ⟨o1,q1⟩:=J'.base.there b o q hx;exact ⟨o1,(sb.2 b (lt3 b o q)).trans q1⟩
  ·exact ⟨(f3 b hb).2.2.2.1,(f3 b hb).2.1,(f3 b hb).2.2.2.2.1,(f3 b hb).2.2.2.2.2⟩
 have loop : ∀s5 : Shared, Inv (X.block N sc cl fp { s2 with heap := h3 } (Zb H2 D (.lst []))) [] (σc σ) (Zb H2 D (.lst [])) s5 → tn 0 s5.heap →
   codeAny (model X.prog X.w) X.A (.compLoop (.ListComp elt [⟨tg,iter,ifs,0⟩] sc pos) 0 (.ref it) (.ref D) (compEnvC sc cl h3.objs.size X.env)) (RR (.ref D) h3.objs.size) s5:=fun s5 I5 st5=>by
  refine Zim (fun n s'=>∃i σ' ys H',Inv (X.block N sc cl fp { s2 with heap:=h3 } (Zb H2 D (.lst []))) [] σ' H' s'∧tn i s'.heap∧(∀b∈fp,H' b=none)∧W i n σ' ys H') ?_ m0 ⟨0,_,[],_,I5,st5,fun b hb=>(f3 b hb).1,w0⟩;rintro n s6 ⟨i,σ6,ys,H6,I6,st6,fr6,w6⟩;obtain ⟨hDy,step⟩:=turn i n σ6 ys H6 w6;rcases step with ⟨stop,q6⟩|⟨go,Nx,hN,step⟩
  ·refine Zr (T.done (X.block N sc cl fp { s2 with heap:=h3 } (Zb H2 D (.lst []))) rfl rfl rfl hc i [] s6 σ6 H6 (fun _ _=>False) I6 (fb fr6) st6 stop) fun r s7 ⟨hr,I7⟩=>?_;subst hr;obtain ⟨m7,hm7,_⟩:=I7.loc;refine hRR D h3.objs.size m7 s7 H6 (fin I7 ⟨rfl,fun _ _=>rfl⟩) hm7 ⟨I7.free,Rj I3.lt,I3.sz,fun x c e=>?_,fun p hp=>?_⟩ q6
   ·obtain ⟨v,z⟩:=I3.cell x c e;exact Qt z.lt
   ·exact Qt (Qg (I3.pin p hp).1)
  ·refine Zr (T.item (X.block N sc cl fp { s2 with heap:=h3 } (Zb H2 D (.lst []))) rfl rfl rfl hc i [] s6 σ6 H6 (fun _ _=>False) I6 (fb fr6) st6 go) fun r s7 ⟨u,hr,h7⟩=>?_;subst hr;refine Zr h7 fun _ s8 ⟨x,H8,I8,r8,y8,st8,fr8⟩=>?_;have I8':=I8.pinned (fb fr8) (T.obj _ _ st8);refine Zr (hg _ _ _ _ s8 σ6 H8 x u _ I8' r8 (step x H8 y8)) fun _ s9 ⟨σ9,H9,I9,q9⟩=>?_;refine Zr (ht _ _ _ _ s9 σ9 H9 _ I9 q9) fun c sA ⟨HA,IA,qA⟩=>?_
   have again : ∀{σB : St} {HB : Hp} {sB : Shared} {zs : List V}, Inv (X.block N sc cl fp { s2 with heap := h3 } (Zb H2 D (.lst []))) ([] ++ JC fp s8.heap) σB HB sB → Nx σB zs HB →
     ∃m,m<n∧∃i σ' ys H',Inv (X.block N sc cl fp { s2 with heap:=h3 } (Zb H2 D (.lst []))) [] σ' H' sB∧tn i sB.heap∧(∀b∈fp,H' b=none)∧W i m σ' ys H':=fun {σB HB sB zs} IB nB=>by
    obtain ⟨m',hm,wB⟩:=hN σB zs HB nB;refine ⟨m',hm,i+1,σB,zs,HB,IB.unpinned,T.keep _ _ _ st8 fun b hb o e=>(IB.pin (b,o) (Rk _ (Rk _ (Zas hb e)))).1,fun b hb=>?_,wB⟩;obtain ⟨o,e,d⟩:=T.obj _ _ st8 b hb;exact (IB.pin (b,o) (Rk _ (Rk _ (Zas hb e)))).2.1
   cases c with
   |false=>exact again IA qA
   |true =>
    refine Zr (he _ _ _ _ sA σ9 HA _ IA qA) fun y sB ⟨yv,HB,IB,rB,dB,lB,qB⟩=>?_;exact Zr (XU (X:=X.block N sc cl fp { s2 with heap:=h3 } (Zb H2 D (.lst []))) _ sB σ9 HB (.ref D) [yv] (.ref D) [y] (fun v H'=>v=.non∧Nx σ9 (ys++[yv]) H') IB rfl (.cons rB .nil) ⟨D,ys,yv,rfl,rfl,dB,lB,rfl,qB⟩) fun _ sC ⟨_,HC,IC,_,_,qC⟩=>again IC qC
 refine codeAny_compStart_list (loop _ I4 st4) ?_;exact T.self _ 0 _ _ _ st4 (loop _ I4 st4)
theorem Uv (hc:X.calm=true) (S:CompSc X N sc cl σc) (hi:PI X tg iter wi) (hg:∀fp s3 H3,PG (X.block N sc cl fp s3 H3) tg g) (ht:∀fp s3 H3,Jf (X.block N sc cl fp s3 H3) ifs tt) (he:∀fp s3 H3,PE (X.block N sc cl fp s3 H3) elt te)
  (hs:∀x,foldedSetIterable iter X.env x=pure x:=by intro _;rfl):PE X (.ListComp elt [⟨tg,iter,ifs,0⟩] sc pos) (ZgY wi σc g tt te):=by
 intro pins s σ H Q I h;rw [eval_ListComp];refine wpAny_comprehension_free rfl hs S.clos S.kind S.names (Zr (hi pins s σ H _ I h) fun v s1 h1=>Zr h1 fun itv s2 h2=>?_);obtain ⟨it,fp,tn,J,H2,e,I2,T,st2,f2,h2⟩:=h2;subst e;exact Zft (Q:=Q) hc S hg ht he I2 T st2 f2 h2 fun D C m s7 H7 I7 n7 G q=>⟨m,n7,fun h' sb=>⟨.ref D,H7,I7.gone G sb,rfl,q⟩⟩
theorem Vh {i:Nat} {x:Str} {pos' spos:Pos} (hc:X.calm=true) (hN:X.N.Nodup) (hi':X.N[i]?=some x) (hx:JD X.env.scope x) (S:CompSc X N sc cl σc) (hi:PI X tg iter wi)
  (hg:∀fp s3 H3,PG (X.block N sc cl fp s3 H3) tg g) (ht:∀fp s3 H3,Jf (X.block N sc cl fp s3 H3) ifs tt) (he:∀fp s3 H3,PE (X.block N sc cl fp s3 H3) elt te)
  (hs:∀x,foldedSetIterable iter X.env x=pure x:=by intro _;rfl) (hsw:swapsWith (.ListComp elt [⟨tg,iter,ifs,0⟩] sc pos) (some (.Name x pos')) spos.line X.env=pure true:=by rfl)
  (hf:X.fn x=true∨X.env.scope.names.lookup x=some .local:=by first|exact .inl rfl|exact .inr rfl|assumption) :
  PS X (.Assign [.Name x pos'] (.ListComp elt [⟨tg,iter,ifs,0⟩] sc pos) spos) (Zbk (ZgY wi σc g tt te) (ZX i)):=by
 intro pins s σ H D I h;rw [exec_Assign_Name_used _ _ _ _ hsw];refine Qb (wpAny_standAt (Qb ?_));show wpAny _ _ (comprehension (.ListComp elt [⟨tg,iter,ifs,0⟩] sc pos) sc X.env (firstIterPos [⟨tg,iter,ifs,0⟩] pos) (newList []) (firstAsync [⟨tg,iter,ifs,0⟩]) (firstIter [⟨tg,iter,ifs,0⟩] X.env) (some (assign (.Name x pos') X.env)) >>= fun _=>pure ()) _ _ s;refine Qb (Q1 (Q:=fun _ s'=>SP X pins D .next s') ?_ (fun _ s' q=>Qe (Qe q)) fun _ _ z=>z);refine wpAny_comprehension_free rfl hs S.clos S.kind S.names (Zr (hi pins s σ H _ I h) fun v s1 h1=>Zr h1 fun itv s2 h2=>?_);obtain ⟨it,fp,tn,J,H2,e,I2,T,st2,f2,h2⟩:=h2;subst e;refine Zft (Q:=fun v H'=>D.nx (σ.set i (some v)) H') hc S hg ht he I2 T st2 f2 h2 fun d C m s7 H7 I7 n7 G q=>?_;show wpAny _ _ (assign (.Name x pos') X.env (.ref d)) _ _ s7;refine wpAny_assign_Name (Zey (v:=.ref d) I7 hN hi' hx rfl (fun s8 I8 ch=>?_) hf);obtain ⟨a,sb,ha⟩:=ch
 have aC:C≠a:=by
  rcases ha with z|z
  ·rw [z];exact G.loc
  ·exact (G.cell x a z).symm
 exact ⟨m,n7.sameBut sb aC,fun h' sb'=>⟨_,H7,I8.gone G sb',q⟩⟩
end
noncomputable def Itw (n:Nat) (V1:Nat->V->Prop):It:=⟨fun i _=>i<n,fun i H x H'=>H'=H∧V1 i x,fun i _=>i=n⟩
theorem Zgs {P:Program} {w:World} {K:PySem.W.Frag} {tg:Expr} {it:Addr} {n:Nat} {Pv:Nat->Value->Prop} {V1:Nat->V->Prop} {st:Nat->Heap->Prop}
  (W:∀A:Around,A.handled=none->Walks P w A it [it] [it] n Pv st) (ob:∀i h,st i h->∃o,h.get? it=some o∧∀v,o.data≠.cell v) (val:∀i v,Pv i v->∃x,RelV x v∧V1 i x)
  (own:∀i v s (M:Model) (A:Around) (E:Value->Shared->Prop) (Q:Unit->Shared->Prop),Pv i v->Q () s->wpAny M A (letOwnedTupleGo tg (.ref it) v) Q E s)
  (self:∀(A:Around) (i:Nat) (s:Shared) (Q:Value->Shared->Prop) (E:Value->Shared->Prop),st i s.heap->Q (.ref it) s->wpAny (model P w) A (pyIter (.ref it)) Q E s):Turn P w K tg (Itw n V1) [it] it st where
 mem:=by simp
 obj:=fun i h hs b hb=>by
  have e:b=it:=by simpa using hb
  subst e;exact ob i h hs
 keep:=fun i h h' hs k=>(W {} rfl).frame i h h' hs k
 item:=fun X hP hw hK hc i pins s σ H E I hf hs go=>by
  subst hP hw hK;refine (W X.A (I.ok.hd hc)).item i s _ E go hs fun v h' tk pv hs' k=>⟨v,rfl,?_⟩;obtain ⟨x,rx,vx⟩:=val i v pv;obtain ⟨f0,f1,_,f3,f4,f5⟩:=hf it (by simp);have I':Inv X pins σ H { s with heap:=h',toks:=tk }:=I.turned (it:=it) (fun b o n q=>k b o (by simpa using n) q) f0 f1 f3 f4 f5;refine own i v _ _ _ _ _ pv ⟨x,H,I',rx,⟨rfl,vx⟩,hs',fun b hb=>?_⟩;have e:b=it:=by simpa using hb
  subst e;exact f0
 done:=fun X hP hw hK hc i pins s σ H E I hf hs stop=>by
  subst hP hw hK;have e:i=n:=stop;subst e;obtain ⟨f0,f1,_,f3,f4,f5⟩:=hf it (by simp);exact (W X.A (I.ok.hd hc)).done s _ E hs fun h' tk k=>⟨rfl,I.turned (it:=it) (fun b o n q=>k b o (by simpa using n) q) f0 f1 f3 f4 f5⟩
 self:=self
def ZmU (te:TE):TI:=fun σ H R=>te σ H fun x H1=>∃z,x=.str z∧R (Itw z.cps.size fun i y=>∃c,z.cps[i]?=some c∧y=.str ⟨#[c]⟩) H1
theorem Zhk {M:Model} {A:Around} {E:Value->Shared->Prop} {s:Shared} {tg:Expr} {it:Addr} {z:Str} {t:Tok} {Q:Unit->Shared->Prop} (q:Q () s):wpAny M A (letOwnedTupleGo tg (.ref it) (.str z t)) Q E s:=by
 unfold letOwnedTupleGo;cases tg<;>exact Qe q
theorem ZmG {X:Cx} {tg e:Expr} {te:TE} (he:PE X e te):PI X tg e (ZmU te):=by
 intro pins s σ H R I h;refine Zr (he pins s σ H _ I h) fun v s1 ⟨x,H1,I1,r1,z,e1,q⟩=>?_;subst e1;obtain ⟨t,rfl⟩:=r1;have fr:H1 s1.heap.objs.size=none:=I1.hok.fresh (Qf _);by_cases low:z.cps.all (·<128)=true
 ·refine wpAny_pyIter_ascii low ⟨s1.heap.objs.size,[s1.heap.objs.size],fun i h=>h.IsStrIter s1.heap.objs.size "str_ascii_iterator" z t i,_,H1,rfl,I1.kept (t':=s1.toks) fun b u q=>Qi _ q,
   Zgs (fun A hA=>Walks.strAscii hA _ z t) (fun i h ⟨o,ho,_,hd⟩=>⟨o,ho,fun v q=>by rw [hd] at q;cases q⟩) (fun i v ⟨c,u,hc,hv⟩=>⟨.str ⟨#[c]⟩,⟨u,hv⟩,c,hc,rfl⟩) (fun i v s M A E Q ⟨c,u,_,hv⟩ hq=>by rw [hv];exact Zhk hq) fun A i s Q E hs hq=>wpAny_pyIter_striter_ascii hs hq,
   ⟨_,Ql _ rfl,rfl,rfl⟩,fun b hb=>?_,q⟩
  have e:b=s1.heap.objs.size:=by simpa using hb
  subst e;exact I1.fpOk (Qf _) fr
 ·refine wpAny_pyIter_wide (Ru.mpr low) ⟨s1.heap.objs.size,[s1.heap.objs.size],fun i h=>h.IsStrIter s1.heap.objs.size "str_iterator" z t i,_,H1,rfl,I1.kept (t':=s1.toks) fun b u q=>Qi _ q,
   Zgs (fun A hA=>Walks.strWide hA _ z t) (fun i h ⟨o,ho,_,hd⟩=>⟨o,ho,fun v q=>by rw [hd] at q;cases q⟩) (fun i v ⟨c,u,hc,hv⟩=>⟨.str ⟨#[c]⟩,⟨u,hv⟩,c,hc,rfl⟩) (fun i v s M A E Q ⟨c,u,_,hv⟩ hq=>by rw [hv];exact Zhk hq) fun A i s Q E hs hq=>wpAny_pyIter_striter_wide hs hq,
   ⟨_,Ql _ rfl,rfl,rfl⟩,fun b hb=>?_,q⟩
  have e:b=s1.heap.objs.size:=by simpa using hb
  subst e;exact I1.fpOk (Qf _) fr
section
variable {prog:Program} {w:World} {A:Around} {s:Shared}
theorem Zcw (hh:A.handled=none) (it t:Addr) (hne:t≠it) (us:Array Value) :
  Draws prog w A it [it,t] us.size (fun i v=>us[i]?=some v) (fun i h=>h.IsTupleIter it t i∧h.IsTuple t us) where
 live:=fun _ _ ⟨⟨o,e,_⟩,_⟩=>⟨o,e⟩
 frame:=fun _ _ _ ⟨⟨o,e,r⟩,⟨o',e',r'⟩⟩ k=>⟨⟨o,k it (by simp) o e,r⟩,⟨o',k t (by simp) o' e',r'⟩⟩
 item:=by
  intro i s Q E hi ⟨st,ht⟩ hQ;have e:us[i]?=some us[i]:=by simp [hi]
  obtain ⟨o,ho,c,d⟩:=id st;obtain ⟨ot,hot,_,n,dt⟩:=id ht;unfold Builtin.SmallTypes.nextOf;refine Qb (Q7 (name:=Str.ofString "__next__") st.typeIs GY (QQ GY st.typeIs F.entry_tuple_iterator_next ?_ (F.args_tuple_iterator_next_1 _)));unfold Builtin.«tuple_iterator.__next__»;refine Qb (m:=field (.ref it) 0) (QE ho d (x:=.ref t) rfl ?_);rw [Qa (show ¬((Value.ref t==Value.none)=true) from QA)];refine Qb (m:=field (.ref it) 1) (QE ho d (x:=.int i 0) rfl (Qb (m:=seqItems? (.ref t)) (RU hot dt ?_)));simp only [RT,e];have sb:=RC s.heap it (Obj.mapFields (·.setIfInBounds 1 (rawInt (i+1))));exact Qb (Gy ho d (by simp) (Qe ⟨_,rfl,Qe (hQ _ _ s.toks e ⟨⟨_,GZ _ ho (Obj.isFreed_of_fields (G6 d _)),(Obj.cls_mapFields ..).trans c,by rw [G6 d];simp [rawInt]⟩,ht.extBut sb.extBut hne⟩ sb)⟩))
 done:=by
  intro s Q E ⟨st,ht⟩ hE;have e:us[us.size]?=none:=by simp
  obtain ⟨o,ho,c,d⟩:=id st;obtain ⟨ot,hot,_,n,dt⟩:=id ht;unfold Builtin.SmallTypes.nextOf;refine Qb (Q7 (name:=Str.ofString "__next__") st.typeIs GY (QQ GY st.typeIs F.entry_tuple_iterator_next ?_ (F.args_tuple_iterator_next_1 _)));unfold Builtin.«tuple_iterator.__next__»;refine Qb (m:=field (.ref it) 0) (QE ho d (x:=.ref t) rfl ?_);rw [Qa (show ¬((Value.ref t==Value.none)=true) from QA)];refine Qb (m:=field (.ref it) 1) (QE ho d (x:=.int us.size 0) rfl (Qb (m:=seqItems? (.ref t)) (RU hot dt ?_)));simp only [RT,e];refine Qb (Rr (Qb (Gy ho d (by simp) ?_)));refine Qb (m:=newExc (.type "StopIteration") []) ?_;simp only [newExc,newTuple];refine Qb (QM (Qb (m:=firstArgMember _ _) (QL (a:=Value.none) (by first|rfl|(simp only [firstArgMember];rfl)) (QM ?_ (by size_fits)))) (by size_fits));simp only [raiseNew];refine Qb (Gz ?_)
  first|rw [show A.in1.handled=none from hh]|rw [hh]
  exact Qb (Qe (GA (hE _ _ (((RC ..).extBut.push _).push _) ⟨_,Ql _ rfl,rfl⟩)))
end
structure ZAp (z TI TO i1 i2:Addr) (f1 f2:List Addr):Prop where
 TIz:TI≠z
 TOz:TO≠z
 i1z:i1≠z
 i2z:i2≠z
 TITO:TI≠TO
 TIi1:TI≠i1
 TIi2:TI≠i2
 TOi1:TO≠i1
 TOi2:TO≠i2
 i12:i1≠i2
 z1:z∉f1
 z2:z∉f2
 o1:TO∉f1
 o2:TO∉f2
 b1:i2∉f1
 b2:i1∉f2
section
variable {prog:Program} {w:World} {A:Around} {E:Value->Shared->Prop} {s:Shared} {z TI TO i1 i2:Addr} {f1 f2:List Addr} {n1 n2 k1 k2:Nat} {P1 P2:Nat->Value->Prop} {S1 S2:Nat->Heap->Prop} {a b:Value}
theorem Draws.but {it c:Addr} {fp:List Addr} {n i:Nat} {P:Nat->Value->Prop} {St:Nat->Heap->Prop} {h h':Heap} (D:Draws prog w A it fp n P St) (st:St i h) (e:Heap.ExtBut c h h') (hc:c∉fp):St i h' :=
 D.frame _ _ _ st fun b hb o q=>e b o (fun x=>hc (x▸hb)) q
theorem ZiF {Q:Value->Shared->Prop} (Z:ZAp z TI TO i1 i2 f1 f2) (D1:Draws prog w A i1 f1 n1 P1 S1) (D2:Draws prog w A i2 f2 n2 P2 S2) (hz:IsZip s.heap z TI TO .none) (hTI:IsPair s.heap TI (.ref i1) (.ref i2)) (hTO:IsPair s.heap TO a b)
  (g1:S1 k1 s.heap) (g2:S2 k2 s.heap) (l1:k1<n1) (l2:k2<n2)
  (hQ:∀x y h' tk,P1 k1 x->P2 k2 y->IsZip h' z TI TO (rawInt s.heap.objs.size)->IsPair h' TO x y->S1 (k1+1) h'->S2 (k2+1) h'->IsPair h' s.heap.objs.size x y →
   (∀c o,c≠z->c≠TO->c≠i1->c≠i2->s.heap.get? c=some o->h'.get? c=some o)->Q (.ref s.heap.objs.size) { s with heap:=h',toks:=tk }) :
  wpAny (model prog w) A (Builtin.«zip.__next__» ⟨[.ref z],[]⟩) (fun fin s'=>∃v,fin=.done (.ret v)∧Q v s') E s:=by
 unfold Builtin.«zip.__next__»;refine Qb (m:=field (.ref z) 2) (QE hz rfl (x:=.bool false) rfl ?_);refine Qb (m:=field (.ref z) 3) (QE hz rfl (x:=.ref TI) rfl (Qb (RU hTI rfl ?_)));refine Qb (m:=Builtin.SmallTypes.ownedTupleIsFree (.ref z)) ?_;unfold Builtin.SmallTypes.ownedTupleIsFree;refine Qb (QE hz rfl (x:=.none) rfl (Qe ?_));simp only [Q6];refine Qb (Rr (Qb (QE hz rfl (x:=.ref TO) rfl (Qb (Q8 hz (by simp) fun hA zA sA=>Qb ?_)))));replace zA:IsZip hA z TI TO .ellipsis:=zA;simp only [List.zipIdx_cons,List.zipIdx_nil,NG,List.forIn_nil];refine Qb (Qb (wpAny_onRaise (Qb (m:=Builtin.SmallTypes.nextOf (.ref i1)) (D1.item k1 _ _ _ l1 (Draws.but D1 g1 sA.extBut Z.z1) fun x hB tB px gB sB=>Qe ?_))));have oB:IsPair hB TO a b:=sB.extBut _ _ Z.TOi1 (sA.extBut _ _ Z.TOz hTO);refine Qb (RU oB rfl (Qb (wpAny_updateSeq_pair oB fun hC oC sC=>Qb (GB (Qe ?_)))));replace oC:IsPair hC TO x b:=oC;refine Qb (Qb (wpAny_onRaise (Qb (m:=Builtin.SmallTypes.nextOf (.ref i2)) (D2.item k2 _ _ _ l2 (Draws.but D2 (Draws.but D2 (Draws.but D2 g2 sA.extBut Z.z2) sB.extBut Z.b2) sC.extBut Z.o2) fun y hD tD py gD sD=>Qe ?_))));have oD:IsPair hD TO x b:=sD.extBut _ _ Z.TOi2 oC;refine Qb (RU oD rfl (Qb (wpAny_updateSeq_pair oD fun hE oE sE=>Qb (GB (Qe (Qe ?_))))));replace oE:IsPair hE TO x y:=oE;have zE:IsZip hE z TI TO .ellipsis:=sE.extBut _ _ Z.TOz.symm (sD.extBut _ _ Z.i2z.symm (sC.extBut _ _ Z.TOz.symm (sB.extBut _ _ Z.i1z.symm zA)));have sz:hE.objs.size=s.heap.objs.size:=by rw [sE.1,sD.1,sC.1,sB.1,sA.1]
 have kE:∀c o,c≠z->c≠TO->c≠i1->c≠i2->s.heap.get? c=some o->hE.get? c=some o:=fun c o c1 c2 c3 c4 e=>sE.extBut _ _ c2 (sD.extBut _ _ c4 (sC.extBut _ _ c2 (sB.extBut _ _ c3 (sA.extBut _ _ c1 e))));have d1:S1 (k1+1) hE:=Draws.but D1 (Draws.but D1 (Draws.but D1 gB sC.extBut Z.o1) sD.extBut Z.b1) sE.extBut Z.o1;have d2:S2 (k2+1) hE:=Draws.but D2 gD sE.extBut Z.o2;refine Qb (RU oE rfl (Qb (wpAny_newTuple ?_)));refine Qb (m:=Builtin.SmallTypes.ownedTupleHandOut (.ref z) (.ref hE.objs.size)) ?_;unfold Builtin.SmallTypes.ownedTupleHandOut;have zF:IsZip (hE.push { cls:=.type "tuple",data:=.seq #[x,y] }) z TI TO .ellipsis:=Qi _ zE;refine Qb (Q8 zF (by simp) fun hG zG sG=>?_);replace zG:IsZip hG z TI TO (rawInt hE.objs.size):=zG;refine Q8 zG (by simp) fun hI zI sI=>Qe ⟨_,rfl,?_⟩;replace zI:IsZip hI z TI TO (rawInt hE.objs.size):=zI;have up:∀c o,c≠z->hE.get? c=some o->hI.get? c=some o:=fun c o c1 e=>sI.extBut _ _ c1 (sG.extBut _ _ c1 (Qi _ e));have zl:hE.objs.size≠z:=Rj (Qg zE);have tI:IsPair hI hE.objs.size x y:=sI.extBut _ _ zl (sG.extBut _ _ zl (Ql _ rfl));show Q (.ref hE.objs.size) _;rw [sz] at zI tI ⊢;exact hQ x y hI tD px py zI (up _ _ Z.TOz oE) (D1.frame _ _ _ d1 fun c hc o e=>up c o (fun q=>Z.z1 (q▸hc)) e) (D2.frame _ _ _ d2 fun c hc o e=>up c o (fun q=>Z.z2 (q▸hc)) e) tI fun c o c1 c2 c3 c4 e=>up c o c1 (kE c o c1 c2 c3 c4 e)
theorem ZhW {Q:Fin->Shared->Prop} (Z:ZAp z TI TO i1 i2 f1 f2) (D1:Draws prog w A i1 f1 n1 P1 S1) (hz:IsZip s.heap z TI TO .none) (hTI:IsPair s.heap TI (.ref i1) (.ref i2))
  (g1:S1 n1 s.heap)
  (hE:∀h' e,(∀c o,c≠z->c≠TO->c≠i1->c≠i2->s.heap.get? c=some o->h'.get? c=some o)->(∃o,h'.get? e=some o∧o.cls=.type "StopIteration")->E (.ref e) { s with heap:=h' }) :
  wpAny (model prog w) A (Builtin.«zip.__next__» ⟨[.ref z],[]⟩) Q E s:=by
 unfold Builtin.«zip.__next__»;refine Qb (m:=field (.ref z) 2) (QE hz rfl (x:=.bool false) rfl ?_);refine Qb (m:=field (.ref z) 3) (QE hz rfl (x:=.ref TI) rfl (Qb (RU hTI rfl ?_)));refine Qb (m:=Builtin.SmallTypes.ownedTupleIsFree (.ref z)) ?_;unfold Builtin.SmallTypes.ownedTupleIsFree;refine Qb (QE hz rfl (x:=.none) rfl (Qe ?_));simp only [Q6];refine Qb (Rr (Qb (QE hz rfl (x:=.ref TO) rfl (Qb (Q8 hz (by simp) fun hA zA sA=>Qb ?_)))));replace zA:IsZip hA z TI TO .ellipsis:=zA;simp only [List.zipIdx_cons,List.zipIdx_nil,NG,List.forIn_nil];refine Qb (Qb (wpAny_onRaise (Qb (m:=Builtin.SmallTypes.nextOf (.ref i1)) (D1.done _ _ _ (Draws.but D1 g1 sA.extBut Z.z1) fun hB e sB he=>?_))));obtain ⟨o,ho,c⟩:=he;have zB:IsZip hB z TI TO .ellipsis:=sB _ _ Z.i1z.symm zA
 have ez:e≠z:=fun q=>by
  subst q;rw [zB] at ho;cases ho;simp at c
 exact Q8 zB (by simp) fun hC _ sC=>hE hC e (fun c o c1 _ c3 _ q=>sC.extBut _ _ c1 (sB _ _ c3 (sA.extBut _ _ c1 q))) ⟨o,sC.extBut _ _ ez ho,c⟩
theorem ZjY {Q:Option Value->Shared->Prop} (Z:ZAp z TI TO i1 i2 f1 f2) (D1:Draws prog w A.in1 i1 f1 n1 P1 S1) (D2:Draws prog w A.in1 i2 f2 n2 P2 S2) (hz:IsZip s.heap z TI TO .none) (hTI:IsPair s.heap TI (.ref i1) (.ref i2)) (hTO:IsPair s.heap TO a b)
  (g1:S1 k1 s.heap) (g2:S2 k2 s.heap) (l1:k1<n1) (l2:k2<n2)
  (hQ:∀x y h' tk,P1 k1 x->P2 k2 y->IsZip h' z TI TO (rawInt s.heap.objs.size)->IsPair h' TO x y->S1 (k1+1) h'->S2 (k2+1) h'->IsPair h' s.heap.objs.size x y →
   (∀c o,c≠z->c≠TO->c≠i1->c≠i2->s.heap.get? c=some o->h'.get? c=some o)->Q (some (.ref s.heap.objs.size)) { s with heap:=h',toks:=tk }) :
  wpAny (model prog w) A (pyNext (.ref z)) Q E s:=by
 have T:s.TypeIs (.ref z) "zip":=⟨_,hz,rfl⟩;unfold pyNext
 exact Qb (Rn (Q7 (name:=Str.ofString "__next__") T G7 (QQ G7 T F.entry_zip_next
  (ZiF Z D1 D2 hz hTI hTO g1 g2 l1 l2 fun x y h' tk a1 a2 a3 a4 a5 a6 a7 a8=>Qe (hQ x y h' tk a1 a2 a3 a4 a5 a6 a7 a8)) (F.args_zip_next_1 _))))
theorem ZlR {Q:Option Value->Shared->Prop} (Z:ZAp z TI TO i1 i2 f1 f2) (D1:Draws prog w A.in1 i1 f1 n1 P1 S1) (hz:IsZip s.heap z TI TO .none) (hTI:IsPair s.heap TI (.ref i1) (.ref i2)) (g1:S1 n1 s.heap)
  (hQ:∀h',(∀c o,c≠z->c≠TO->c≠i1->c≠i2->s.heap.get? c=some o->h'.get? c=some o)->Q none { s with heap:=h' }):wpAny (model prog w) A (pyNext (.ref z)) Q E s:=by
 have T:s.TypeIs (.ref z) "zip":=⟨_,hz,rfl⟩;unfold pyNext;refine Qb (Rn (Q7 (name:=Str.ofString "__next__") T G7 (QQ G7 T F.entry_zip_next (ZhW Z D1 hz hTI g1 fun h' e k he=>?_) (F.args_zip_next_1 _))));obtain ⟨o,ho,c⟩:=he;exact Qb (RV (T:="StopIteration") (b:=true) ⟨o,ho,c⟩ GC (Qe (hQ _ k)))
end
section
variable {X:Cx} {pins:List (Addr×Obj)} {σ:St} {H:Hp} {s:Shared} {h':Heap}
theorem Inv.turnedAll {t':Nat} {ch:List Addr} (I:Inv X pins σ H s) (hf:∀b∈ch,XN X pins H b) (k:∀b o,b∉ch->s.heap.get? b=some o->h'.get? b=some o):Inv X pins σ H { s with heap:=h',toks:=t' }:=by
 have nit:∀b u,H b=some u->b∉ch:=fun b u e z=>by rw [(hf b z).1] at e;cases e
 refine I.step (g':=s.gens) (d':=s.drawn) (ch:=ch) (fun b hb=>⟨(hf b hb).2.2.2.1,(hf b hb).2.1,(hf b hb).2.2.2.2⟩) (fun b o _ _ hc e _=>k b o hc e) (fun b o _ _ hc e _=>⟨o.slots,k b o hc e⟩) (fun _ _ _ _ n=>n)
  (fun b o hc e=>⟨o,k b o hc e⟩) (fun _ _ e=>e) (fun _ _ _ e=>e) (fun b ps e=>⟨#[],by rw [e];simp⟩) (fun m hm=>?_) (fun b u e=>?_) I.bare
 ·obtain ⟨o,es,ep,ho,r⟩:=hm;exact ⟨o,es,ep,k _ o (fun z=>(hf _ z).2.1 rfl) ho,r⟩
 ·refine (I.hok b u e).stay (fun c v hc q=>k c v ?_ q) (fun _ q=>q) fun _ _ q=>q;rcases hc with z|z
  ·rw [z];exact nit b u e
  ·exact nit c _ z
theorem Inv.turnedLaid {t':Nat} {ch:List Addr} {T:Addr} {o:HO} (I:Inv X pins σ H s) (hf:∀b∈ch,XN X pins H b) (k:∀b o,b∉ch->s.heap.get? b=some o->h'.get? b=some o) (hp:s.heap.objs.size≤T) (new:ObjOk X.prog X.w (Zb H T o) h' T o) :
  Inv X pins σ (Zb H T o) { s with heap:=h',toks:=t' }:=by
 have nit:∀b u,H b=some u->b∉ch:=fun b u e z=>by rw [(hf b z).1] at e;cases e
 have hn:=I.hok.fresh hp;have up:∀{b u},H b=some u->Zb H T o b=some u:=fun {b u} e=>by rw [Zd (ZO e hn)];exact e
 refine I.step (g':=s.gens) (d':=s.drawn) (ch:=ch) (fun b hb=>⟨(hf b hb).2.2.2.1,(hf b hb).2.1,(hf b hb).2.2.2.2⟩) (fun b o _ _ hc e _=>k b o hc e) (fun b o _ _ hc e _=>⟨o.slots,k b o hc e⟩) (fun b u _ e n=>?_)
  (fun b o hc e=>⟨o,k b o hc e⟩) (fun _ _ e=>up e) (fun _ _ _ e=>up e) (fun b ps e=>⟨#[],by rw [up e];simp⟩) (fun m hm=>?_) (fun b u e=>?_) I.bare
 ·rw [Zd (fun z=>absurd (Qg e) (by rw [z];exact Nat.not_lt.mpr hp))];exact n
 ·obtain ⟨o,es,ep,ho,r⟩:=hm;exact ⟨o,es,ep,k _ o (fun z=>(hf _ z).2.1 rfl) ho,r⟩
 ·by_cases hb:b=T
  ·subst hb;rw [Zg] at e;cases e;exact new
  ·rw [Zd hb] at e;refine (I.hok b u e).stay (fun c v hc q=>k c v ?_ q) (fun _ q=>up q) fun _ _ q=>up q;rcases hc with z|z
   ·rw [z];exact nit b u e
   ·exact nit c _ z
end
noncomputable def Itz (K:W.Frag) (a b:Addr):It :=
 ⟨fun i H => ∃xs ys x y, SqT K H a xs ∧ SqT K H b ys ∧ xs[i]?=some x ∧ ys[i]?=some y,
  fun i H v H'=>∃T x y,H T=none∧v=.ref T∧(∀xs,SqT K H a xs->xs[i]?=some x)∧(∀ys,SqT K H b ys->ys[i]?=some y)∧H'=Zb H T (.tup [x,y]),
  fun i H=>∃xs,SqT K H a xs∧xs.length=i⟩
def ZSt (z TI TO i1 i2 a b:Addr) (i:Nat) (h:Heap):Prop:=IsZip h z TI TO .none∧IsPair h TI (.ref i1) (.ref i2)∧(∃u v,IsPair h TO u v)∧h.IsTupleIter i1 a i∧h.IsTupleIter i2 b i
theorem ZoT {P:Program} {w:World} {K:W.Frag} {es:List Expr} {n:Nat} {pos:Pos} {z TI TO i1 i2 a b:Addr} (Z:ZAp z TI TO i1 i2 [i1,a] [i2,b]) (ha:a≠i1) (hb:b≠i2) :
  Turn P w K (.Tuple es n pos) (Itz K a b) [z,TI,TO,i1,i2] z (ZSt z TI TO i1 i2 a b) where
 mem:=by simp
 obj:=fun i h ⟨h1,h2,⟨u,v,h3⟩,⟨o4,h4,_,d4⟩,⟨o5,h5,_,d5⟩⟩ c hc=>by
  simp only [Qh,QN,QO] at hc;rcases hc with rfl|rfl|rfl|rfl|rfl
  ·exact ⟨_,h1,fun v q=>by cases q⟩
  ·exact ⟨_,h2,fun v q=>by cases q⟩
  ·exact ⟨_,h3,fun v q=>by cases q⟩
  ·exact ⟨_,h4,fun v q=>by rw [d4] at q;cases q⟩
  ·exact ⟨_,h5,fun v q=>by rw [d5] at q;cases q⟩
 keep:=fun i h h' ⟨h1,h2,⟨u,v,h3⟩,⟨o4,h4,r4⟩,⟨o5,h5,r5⟩⟩ k =>
  ⟨k _ (by simp) _ h1,k _ (by simp) _ h2,⟨u,v,k _ (by simp) _ h3⟩,⟨o4,k _ (by simp) _ h4,r4⟩,⟨o5,k _ (by simp) _ h5,r5⟩⟩
 item:=by
  intro X hP hw hK hc i pins s σ H E I hf ⟨h1,h2,⟨u,v,h3⟩,h4,h5⟩ ⟨xs,ys,x,y,qa,qb,ex,ey⟩;subst hP hw hK;obtain ⟨as,ra,ta,la⟩:=I.tuple qa;obtain ⟨bs,rb,tb,lb⟩:=I.tuple qb;have hh:X.A.in1.handled=none:=I.ok.hd hc;have la':=ra.length;have lb':=rb.length
  have lx:i<as.toArray.size:=by
   have:=(QI.mp ex).1;simp only [Qv];omega
  have ly:i<bs.toArray.size:=by
   have:=(QI.mp ey).1;simp only [Qv];omega
  refine ZjY Z (Zcw hh i1 a ha as.toArray) (Zcw hh i2 b hb bs.toArray) h1 h2 h3 ⟨h4,ta⟩ ⟨h5,tb⟩ lx ly fun u1 u2 h' tk p1 p2 z1 o1 g1 g2 t1 k=>?_;refine ⟨_,rfl,wpAny_letOwnedTupleGo_zip z1 fun h'' z2 sb=>?_⟩;have lz:z<s.heap.objs.size:=Qg h1;have nz:s.heap.objs.size≠z:=Rj lz;obtain ⟨v1,e1,r1⟩:=ra.get ex;obtain ⟨v2,e2,r2⟩:=rb.get ey
  have q1:v1=u1:=by
   have p:as[i]?=some u1:=by simpa using p1
   rw [e1] at p;exact Qn p
  have q2:v2=u2:=by
   have p:bs[i]?=some u2:=by simpa using p2
   rw [e2] at p;exact Qn p
  subst q1 q2
  have kk:∀c o,c∉[z,TI,TO,i1,i2]->s.heap.get? c=some o->h''.get? c=some o:=fun c o hc e=>by
   simp only [Qh,QN,QO,not_or] at hc;exact sb.extBut _ _ hc.1 (k c o hc.1 hc.2.2.1 hc.2.2.2.1 hc.2.2.2.2 e)
  have tt:IsPair h'' s.heap.objs.size v1 v2:=sb.extBut _ _ nz t1;have I':=I.turnedLaid (t':=tk) (o:=.tup [x,y]) hf kk (Qf _) (show ObjOk X.prog X.w _ h'' _ (.tup [x,y]) from ⟨Zz (by simp),[v1,v2],.cons r1 (.cons r2 .nil),⟨_,tt,rfl,_,rfl⟩⟩);refine ⟨.ref s.heap.objs.size,_,I',rfl,⟨s.heap.objs.size,x,y,I.hok.fresh (Qf _),rfl,fun zs hz=>by rw [I.tuple_inj hz qa];exact ex,fun zs hz=>by rw [I.tuple_inj hz qb];exact ey,rfl⟩,?_,fun c hc=>?_⟩
  ·exact ⟨z2,sb.extBut _ _ Z.TIz (k _ _ Z.TIz Z.TITO Z.TIi1 Z.TIi2 h2),⟨_,_,sb.extBut _ _ Z.TOz o1⟩,g1.1.extBut sb.extBut Z.i1z,g2.1.extBut sb.extBut Z.i2z⟩
  ·have hlt:c<s.heap.objs.size:=by
    simp only [Qh,QN,QO] at hc;obtain ⟨o4,e4,_⟩:=h4;obtain ⟨o5,e5,_⟩:=h5;rcases hc with rfl|rfl|rfl|rfl|rfl
    ·exact lz
    ·exact Qg h2
    ·exact Qg h3
    ·exact Qg e4
    ·exact Qg e5
   rw [Zd (Qt hlt)];exact (hf c hc).1
 done:=by
  intro X hP hw hK hc i pins s σ H E I hf ⟨h1,h2,⟨u,v,h3⟩,h4,h5⟩ ⟨xs,qa,hl⟩;subst hP hw hK;obtain ⟨as,ra,ta,la⟩:=I.tuple qa;have hh:X.A.in1.handled=none:=I.ok.hd hc
  have e:i=as.toArray.size:=by
   have:=ra.length;simp only [Qv];omega
  subst e;refine ZlR (f2:=[i2,b]) Z (Zcw hh i1 a ha as.toArray) h1 h2 ⟨h4,ta⟩ fun h' k=>⟨rfl,I.turnedAll (t':=s.toks) hf fun c o hc e=>?_⟩;simp only [Qh,QN,QO,not_or] at hc;exact k c o hc.1 hc.2.2.1 hc.2.2.2.1 hc.2.2.2.2 e
 self:=fun _ _ _ _ _ st h=>wpAny_pyIter_zip st.1 h
theorem Zm3 {prog:Program} {w:World} {A:Around} {E:Value->Shared->Prop} {s:Shared} {a b:Addr} {us vs:Array Value} {Q:Value->Shared->Prop} (ha:s.heap.IsTuple a us) (hb:s.heap.IsTuple b vs)
  (h:∀h',ZSt (s.heap.objs.size+4) (s.heap.objs.size+2) (s.heap.objs.size+3) s.heap.objs.size (s.heap.objs.size+1) a b 0 h'->(∀c o,s.heap.get? c=some o->h'.get? c=some o)->Q (.ref (s.heap.objs.size+4)) { s with heap:=h' }) :
  wpAny (model prog w) A (call (.type "zip") [.ref a,.ref b]) Q E s:=by
 let H1:Heap:=s.heap.push { cls:=.type "tuple_iterator",data:=.fields #[.ref a,.int 0 0] }
 let H2:Heap:=H1.push { cls:=.type "tuple_iterator",data:=.fields #[.ref b,.int 0 0] }
 let H3:Heap:=H2.push { cls:=.type "tuple",data:=.seq #[.ref s.heap.objs.size,.ref H1.objs.size] }
 let H4:Heap:=H3.push { cls:=.type "tuple",data:=.seq #[.none,.none] }
 let H5:Heap:=H4.push { cls:=.type "zip",data:=.fields #[.none,.bool false,.bool false,.ref H2.objs.size,.ref H3.objs.size] }
 have m:Meets (Builtin.«zip.__new__» ⟨[.type "zip",.ref a,.ref b],[]⟩) (fun _ R s1=>s1=s∧R (.ok (.ret (.ref H4.objs.size))) { s with heap:=H5 }):=.of_wp fun prog w A R s1 hR=>by
  obtain ⟨rfl,hR⟩:=hR;obtain ⟨hp,g,d,tk,os⟩:=s1;have hsub:=sub_zip;have hL1:Heap.IsTuple (Shared.heap ⟨hp,g,d,tk,os⟩) a us:=ha;have hL2:Heap.IsTuple (Shared.heap ⟨hp.push { cls:=.type "tuple_iterator",data:=.fields #[.ref a,.int 0 0] },g,d,tk,os⟩) b vs:=Heap.IsTuple.push hb _
  wp_walk using Go hL1,Go hL2
  exact ⟨_,rfl,hR⟩
 refine callType_new F.called_zip (by decide) (F.typeCall_zip_2 _ _) (F.newCall_zip_2 _ _) (fun obj=>F.args_object_init_3 obj _ _) F.entry_zip_new m ⟨rfl,?_⟩;have z1:H1.objs.size=s.heap.objs.size+1:=Rc ..;have z2:H2.objs.size=s.heap.objs.size+2:=by rw [Rc,z1]
 have z3:H3.objs.size=s.heap.objs.size+3:=by rw [Rc,z2]
 have z4:H4.objs.size=s.heap.objs.size+4:=by rw [Rc,z3]
 have up5:∀c o,H4.get? c=some o->H5.get? c=some o:=fun c o e=>Qi _ e;have up4:∀c o,H3.get? c=some o->H5.get? c=some o:=fun c o e=>up5 c o (Qi _ e);have up3:∀c o,H2.get? c=some o->H5.get? c=some o:=fun c o e=>up4 c o (Qi _ e);have up2:∀c o,H1.get? c=some o->H5.get? c=some o:=fun c o e=>up3 c o (Qi _ e);have g5:H5.get? H4.objs.size=some _:=Ql _ rfl;have g4:H5.get? H3.objs.size=some _:=up5 _ _ (Ql _ rfl);have g3:H5.get? H2.objs.size=some _:=up4 _ _ (Ql _ rfl);have g2:H5.get? H1.objs.size=some _:=up3 _ _ (Ql _ rfl);have g1:H5.get? s.heap.objs.size=some _:=up2 _ _ (Ql _ rfl);show _∧_;rw [z4,z2,z3] at g5;rw [z3] at g4;rw [z2,z1] at g3;rw [z1] at g2;rw [z4];exact ⟨⟨_,g5,rfl⟩,h H5 ⟨g5,g3,⟨_,_,g4⟩,⟨_,g1,rfl,rfl⟩,⟨_,g2,rfl,rfl⟩⟩ fun c o e=>up2 c o (Qi _ e)⟩
theorem Zie:bootBuiltins "zip"=some (.type "zip"):=by decide +kernel
theorem Zdf:bootBuiltins "all"=some (.builtin "all"):=by decide +kernel
theorem UR {c x y:Nat} (h1:c≠x) (h2:c≠y):c∉[x,y]:=fun z=>by
 rcases Qh.mp z with z|z
 ·exact h1 z
 ·exact h2 (by simpa using z)
theorem ZhY {m a b:Nat} (la:a<m) (lb:b<m):ZAp (m+4) (m+2) (m+3) m (m+1) [m,a] [m+1,b] where
 TIz:=(by omega:(m+2:Nat)≠m+4)
 TOz:=(by omega:(m+3:Nat)≠m+4)
 i1z:=(by omega:(m:Nat)≠m+4)
 i2z:=(by omega:(m+1:Nat)≠m+4)
 TITO:=(by omega:(m+2:Nat)≠m+3)
 TIi1:=(by omega:(m+2:Nat)≠m)
 TIi2:=(by omega:(m+2:Nat)≠m+1)
 TOi1:=(by omega:(m+3:Nat)≠m)
 TOi2:=(by omega:(m+3:Nat)≠m+1)
 i12:=(by omega:(m:Nat)≠m+1)
 z1:=UR (by omega) (by omega)
 z2:=UR (by omega) (by omega)
 o1:=UR (by omega) (by omega)
 o2:=UR (by omega) (by omega)
 b1:=UR (by omega) (by omega)
 b2:=UR (by omega) (by omega)
section
variable {X:Cx}
def ZiE (K:W.Frag) (ta:TA):TI:=fun σ H R=>ta σ H fun vs H1=>∃a b,vs=[.ref a,.ref b]∧(∃xs,SqT K H1 a xs)∧(∃ys,SqT K H1 b ys)∧R (Itz K a b) H1
theorem ZoV (K:W.Frag) {e1 e2:Expr} {ta:TA} {p pos pos':Pos} {es:List Expr} {n:Nat} (hg:Gl X "zip") (hm:X.mg "zip"=none) (ha:PA X [e1,e2] ta) (hK:X.K=K:=by rfl)
  (hs:starEach [e1,e2] X.env=(false,eval e1 X.env)::starEach [e2] X.env:=by rfl) (hpl:(backTo pos (starEach [e2] X.env)).any (·.1)=false:=by rfl):PI X (.Tuple es n pos') (.Call (.Name "zip" p) [e1,e2] [] pos) (ZiE K ta):=by
 subst hK;intro pins s σ H R I h;refine Q9 (Wn I hg hm Zie (RM (Zr (ha pos pins s σ H _ I h) fun us s1 ⟨vs,H1,I1,r1,q1⟩=>?_) hs hpl));obtain ⟨a,b,e,⟨xs,qa⟩,⟨ys,qb⟩,q⟩:=q1;subst e;obtain ⟨u,v,rfl,ra,rb⟩:=Vx r1;cases (show u=Value.ref a from ra);cases (show v=Value.ref b from rb);obtain ⟨as,ka,ta',_⟩:=I1.tuple qa;obtain ⟨bs,kb,tb',_⟩:=I1.tuple qb;have la:a<s1.heap.objs.size:=by obtain ⟨o,e,_⟩:=ta';exact Qg e
 have lb:b<s1.heap.objs.size:=by obtain ⟨o,e,_⟩:=tb';exact Qg e
 refine Zm3 ta' tb' fun h' st k=>wpAny_pyIter_zip st.1 ?_;have Z:=ZhY la lb;refine ⟨s1.heap.objs.size+4,_,_,_,H1,rfl,I1.kept (t':=s1.toks) k,ZoT Z (Qt la) (Qt (GD lb)),st,fun c hc=>?_,q⟩
 have hle:s1.heap.objs.size≤c:=by
  simp only [Qh,QN,QO] at hc;rcases hc with rfl|rfl|rfl|rfl|rfl
  ·exact Gg _ 4
  ·exact Gg _ 2
  ·exact Gg _ 3
  ·exact Qf _
  ·exact Gg _ 1
 have e:=I1.fpOk hle (I1.hok.fresh hle);exact e
theorem ZkL {P:Program} {w:World} {A:Around} {bs:List Bool} {us:List Value} (r:Vals (bs.map V.bl) us):TruthOf P w A (fun i v=>us.toArray[i]?=some v) (fun i=>bs.getD i false):=by
 intro i v s Q E e q;have e':us[i]?=some v:=by simpa using e
 have hl:=r.length;rw [Qd] at hl
 have lt:i<bs.length:=by
  have:=(QI.mp e').1;omega
 obtain ⟨u,e2,r2⟩:=r.get (i:=i) (x:=V.bl bs[i]) (by simp [lt]);rw [e'] at e2;cases e2;cases (show v=Value.bool bs[i] from r2);have z:bs.getD i false=bs[i]:=by simp [List.getD,lt]
 exact R3 (by rw [←z];exact q)
theorem Zek:∀bs:List Bool,((List.range bs.length).all fun i=>bs.getD i false)=bs.all id
 |[]=>rfl
 |b::bs=>by
  rw [QK,List.range_succ_eq_map,GU,G8,GU,←Zek bs];rfl
theorem Zdd (hc:X.calm=true):YG X (.builtin "all") (fun xs H Q=>∃(a:Addr) (bs:List Bool),xs=[.ref a]∧H a=some (.lst (bs.map V.bl))∧Q (.bl (bs.all id)) H):=by
 intro pins s σ H xs us Q I r h;obtain ⟨a,bs,rfl,q,hq⟩:=h;obtain ⟨u,rfl,ru⟩:=YY r;cases (show u=Value.ref a from ru);obtain ⟨its,rv,pl,hz⟩:=I.list (.inl (.inl q));have lt:a<s.heap.objs.size:=by obtain ⟨o,e,_⟩:=pl.isList;exact Qg e
 have hl:=rv.length;rw [Qd] at hl;refine call_all_walk (wpAny_pyIter_list pl.isList ⟨s.heap.objs.size,_,_,_,_,_,_,rfl,Walks.list (show X.A.in1.handled=none from I.ok.hd hc) _ a (Qt lt) its.toArray,⟨⟨_,Ql _ rfl,rfl,rfl⟩,pl.isList.push _⟩,ZkL rv,fun h' tk k=>?_⟩);rw [Qv,←hl,Zek];exact ⟨.bl _,H,I.kept (t':=tk) fun b o e=>k b o (fun z=>absurd (Qg e) (by rw [show b=s.heap.objs.size by simpa using z];exact QS _)) (Qi _ e),rfl,hq⟩
def Zhm (X:Cx) (CX:Yu) (Wv:Addr->Sp->Prop):Prop:=∀f sp,Wv f sp->∃k fd ps,FnOk X.prog X.w X.K X.mg X.base CX k f fd ps sp∧Room k X.A∧W.keepIn X.K (.ref f)=true∧Binds X.K fd ps []
def Zjj (Wv:Addr->Sp->Prop) (i:Nat) (E:XK) (t:TA):TE:=fun σ H Q=>∃f sp,σ[i]?=some (some (.ref f))∧Wv f sp∧t σ H fun vs H1=>sp vs H1 Q E
theorem Zn4 {CX:Yu} {Wv:Addr->Sp->Prop} {E:XK} {i:Nat} {x:Str} {p pos:Pos} {e:Expr} {es:List Expr} {t:TA} (F:Zhm X CX Wv) (hN:X.N[i]?=some x) (hv:JH X.env.scope x) (hx:ZgQ CX X E) (ha:PA X (e::es) t)
  (hd:(x==("__debug__" : Str))=false:=by decide) (hcd:(x==("__classdict__" : Str))=false:=by decide)
  (he:starEach (e::es) X.env=(false,eval e X.env)::starEach es X.env:=by rfl) (hpl:(backTo pos (starEach es X.env)).any (·.1)=false:=by rfl):PE X (.Call (.Name x p) (e::es) [] pos) (Zjj Wv i E t):=by
 intro pins s σ H Q I h;obtain ⟨f,sp,e1,hF,q⟩:=h;obtain ⟨k,fd,ps,Fn,hr,hk,hb⟩:=F f sp hF;refine Q9 (Zr (Zcf hN hv hd hcd pins s σ H (fun v H'=>v=.ref f∧H'=H) I ⟨_,e1,rfl,rfl⟩) fun u s1 ⟨v,H1,I1,r1,e2,e3⟩=>?_);subst e2 e3;cases (show u=Value.ref f from r1);refine Gv (h₀:=X.base) I1.ok.mod.kin hk (Zr (ha pos pins s1 σ H1 _ I1 q) fun us s2 ⟨vs,H2,I2,r2,q2⟩=>⟨I2.kIn,?_⟩) he hpl;exact Zou Fn hr hb .nil hx I2 r2 (by rw [Qs];exact q2)
end
section
variable {X:Cx} {tg l:Expr} {tl:TE} (K:W.Frag) (hK:X.K=K)
include hK
theorem Zjv:Us X (Zgn K):=by subst hK;exact Ym
theorem Uo:Us X (Zgw K):=by subst hK;exact Zq
theorem Zlz:YG X (.builtin "len") (fun xs H Q=>∃p ys,xs=[.ref p]∧(SqL K H p ys∨SqT K H p ys)∧Q (.int ys.length) H):=by subst hK;exact Yw
end
theorem Zle {X:Cx} (K:W.Frag) {es:List Expr} {k:Nat} {t:W3} {n:Nat} {pos:Pos} (hc:X.calm=true) (h:JJ X es t) (hK:X.K=K:=by rfl)
  (hn:(assignEach es X.env).length=n:=by rfl) (hst:(assignEach es X.env).findIdx? (·.1)=none:=by rfl):PG X (.Tuple es k pos) (Zgh K n t):=by
 subst hK;exact JM hc h hn hst
theorem Za9 {J:It} {σ0:St} {g:TG} {te:TE} {Q:VK} {H1:Hp} (out:List V) (hn:out.length<sizeLine) (σP:St->Prop) (h0:σP σ0)
  (go:∀i H,i<out.length->Same H1 H->J.go i H) (stop:∀H,Same H1 H->J.stop out.length H)
  (step:∀i σ H x H' y,out[i]?=some y->σP σ->Same H1 H->J.yld i H x H'->∀C:V->St->Hp->Prop,(∀σ2 H6,σP σ2->Same H H6->C y σ2 H6)->g x σ H' fun σ2 H4=>te σ2 H4 fun y' H6=>C y' σ2 H6)
  (fin:∀D H',H1 D=none->Same H1 H'->H' D=some (.lst out)->Q (.ref D) H'):ZaZ J σ0 g ZfV te Q H1:=by
 intro D hD
 have keep:∀{H:Hp} {o:HO},Same H1 H->Same H1 (Zb H D o):=fun {H o} e b u q=>by
  rw [Zd (ZO q hD)];exact e b u q
 refine ⟨fun i m σ ys H=>i≤out.length∧m=out.length-i∧σP σ∧ys=out.take i∧H D=some (.lst ys)∧Same H1 H,⟨_,QJ _,rfl,h0,rfl,Zg,keep (Same.refl H1)⟩,?_⟩;rintro i m σ ys H ⟨hi,rfl,p,rfl,hd,sm⟩;refine ⟨hd,?_⟩;by_cases lt:i<out.length
 ·refine .inr ⟨go i H lt sm,fun σ2 ys2 H3=>σP σ2∧ys2=out.take (i+1)∧H3 D=some (.lst ys2)∧Same H1 H3,fun σ2 ys2 H3 ⟨a,b,c,d⟩=>⟨_,by omega,lt,rfl,a,b,c,d⟩,fun x H3 y=>?_⟩;have e:out[i]?=some out[i]:=by simp [lt]
  refine step i σ H x H3 out[i] e p sm y (fun y' σ2 H6=>H6 D=some (.lst (out.take i))∧(out.take i).length<sizeLine∧σP σ2∧out.take i++[y']=out.take (i+1)∧Zb H6 D (.lst (out.take i++[y'])) D=some (.lst (out.take i++[y']))∧Same H1 (Zb H6 D (.lst (out.take i++[y'])))) fun σ2 H6 p2 s6=>?_;exact ⟨s6 _ _ hd,by rw [Rl];omega,p2,by rw [List.take_add_one,e];rfl,Zg,keep (sm.trans s6)⟩
 ·have e:i=out.length:=by omega
  subst e;rw [Ra] at hd;exact .inl ⟨stop H sm,fin D H hD sm hd⟩
section
variable {K:W.Frag} {H:Hp} {xs ys:List V} {a b:Addr} {Q:VK}
end
noncomputable def ZcF (js:List (Option Nat)) (σ:St):St:=js.map fun o=>match o with|none=>none|some j=>(σ[j]?).getD none
noncomputable def U4 (fr:List Str) (cells:List (Str×Addr)):List (Str×Addr):=fr.filterMap fun x=>(cells.lookup x).map fun c=>(x,c)
noncomputable def Zjs (js:List (Option Nat)) (N M:List Str) (inn out:List (Str×NameKind)):Bool :=
 (js.zip N).all fun p=>match p.1 with
  |none=>true
  |some j=>(M[j]?==some p.2)&&((inn.lookup p.2==some .cell)||(inn.lookup p.2==some .free))&&((out.lookup p.2==some .cell)||(out.lookup p.2==some .free))
theorem ZfR {L:List (Str×NameKind)} {x:Str} (h:((L.lookup x==some NameKind.cell)||(L.lookup x==some NameKind.free))=true):L.lookup x=some .cell∨L.lookup x=some .free:=by
 rw [Gh] at h;rcases h with h|h
 ·exact .inl (eq_of_beq h)
 ·exact .inr (eq_of_beq h)
theorem Zla {fr:List Str} {cells:List (Str×Addr)} {x:Str} (h:x∈fr) (e:(cells.lookup x).isSome=true):∃c,(U4 fr cells).lookup x=some c:=by
 obtain ⟨c,hc⟩:=GT.mp e
 induction fr with
 |nil=>cases h
 |cons y r ih =>
  unfold U4;rw [QT];by_cases q:y=x
  ·subst q;rw [hc];exact ⟨c,by simp⟩
  ·have hr:x∈r:=by
    rcases Qh.mp h with z|z
    ·exact absurd z.symm q
    ·exact z
   cases e2:cells.lookup y with
   |none=>exact ih hr
   |some d =>
    obtain ⟨c',hc'⟩:=ih hr;refine ⟨c',?_⟩;show List.lookup x ((y,d)::U4 r cells)=some c';rw [G9,RK.mpr (QZ q)];exact hc'
theorem XR {X:Cx} {N:List Str} {sc:Scope} (fr:List Str) (js:List (Option Nat)) (hk:sc.kind=.function) (hn:∀x∈sc.names,x.2=.local->sc.names.lookup x.1=some .local) (hc:∀y∈sc.names,y.2≠.cell)
  (clos:closureFor sc X.env=pure (U4 fr X.env.cells)) (hall:(fr.all fun x=>(X.env.cells.lookup x).isSome)=true)
  (hhas:((relabel sc X.env).names.all fun y=>(y.2 != .cell&&y.2 != .free)||fr.contains y.1)=true) (hl:js.length=N.length) (hcap:Zjs js N X.N (relabel sc X.env).names X.env.scope.names=true) :
  CompSc X N sc (U4 fr X.env.cells) (ZcF js):=by
 have lk:∀(x:Str) (M:List (Str×NameKind)) (k:NameKind),M.lookup x=some k->(x,k)∈M:=fun x M k h=>R4 h;refine ⟨hk,hn,hc,clos,fun x c h=>?_,fun x h=>?_,fun σ=>?_,fun σ i x v e1 e2=>?_⟩
 ·have m:=R4 h;obtain ⟨y,_,e⟩:=Rs.mp m;obtain ⟨d,hd,e'⟩:=QR.mp e;cases e';exact hd
 ·have hm:x∈fr:=by
   rcases h with h|h <;>
   ·have q:=Rv.mp hhas _ (lk x _ _ h);rw [Gh] at q;rcases q with q|q
    ·simp at q
    ·simpa using q
  exact Zla hm (Rv.mp hall x hm)
 ·unfold ZcF;rw [Qd,hl]
 ·unfold ZcF at e2;rw [Qw] at e2;obtain ⟨o,ho,e2⟩:=QR.mp e2;cases o with
  |none=>cases e2
  |some j =>
   have hz:(some j,x)∈js.zip N:=by
    refine List.mem_iff_getElem?.mpr ⟨i,?_⟩;rw [List.getElem?_zip_eq_some];exact ⟨ho,e1⟩
   have q:=Rv.mp hcap _ hz;simp only [RA] at q;refine ⟨ZfR q.1.2,ZfR q.2,j,eq_of_beq q.1.1,?_⟩;replace e2:(σ[j]?).getD none=some v:=e2;cases e3:σ[j]? with
   |none=>rw [e3] at e2;cases e2
   |some o'=>rw [e3] at e2;rw [show o'=some v from e2]
theorem Vg {J:It} {σ0:St} {g:TG} {tt:TT} {te:TE} {Q:VK} {H1:Hp} (ZT:List (Option V)) (hn:ZT.length<sizeLine) (σP:St->Prop) (h0:σP σ0)
  (go:∀i H,i<ZT.length->Same H1 H->J.go i H) (stop:∀H,Same H1 H->J.stop ZT.length H)
  (step:∀i σ H x H' o,ZT[i]?=some o->σP σ->Same H1 H->J.yld i H x H'->∀C:Option V->St->Hp->Prop,(∀σ2 H6,σP σ2->Same H H6->C o σ2 H6)->g x σ H' fun σ2 H4=>tt σ2 H4 fun c H5=>if c=true then te σ2 H5 fun y' H6=>C (some y') σ2 H6 else C none σ2 H5)
  (fin:∀D H',H1 D=none->Same H1 H'->H' D=some (.lst (ZT.filterMap id))->Q (.ref D) H'):ZaZ J σ0 g tt te Q H1:=by
 intro D hD
 have keep:∀{H:Hp} {o:HO},Same H1 H->Same H1 (Zb H D o):=fun {H o} e b u q=>by
  rw [Zd (ZO q hD)];exact e b u q
 have fl:∀i,((ZT.take i).filterMap id).length≤ZT.length:=fun i=>Qo (Na _ _) (by rw [Rl];omega);refine ⟨fun i m σ ys H=>i≤ZT.length∧m=ZT.length-i∧σP σ∧ys=(ZT.take i).filterMap id∧H D=some (.lst ys)∧Same H1 H,⟨_,QJ _,rfl,h0,rfl,Zg,keep (Same.refl H1)⟩,?_⟩;rintro i m σ ys H ⟨hi,rfl,p,rfl,hd,sm⟩;refine ⟨hd,?_⟩;by_cases lt:i<ZT.length
 ·refine .inr ⟨go i H lt sm,fun σ2 ys2 H3=>σP σ2∧ys2=(ZT.take (i+1)).filterMap id∧H3 D=some (.lst ys2)∧Same H1 H3,fun σ2 ys2 H3 ⟨a,b,c,d⟩=>⟨_,by omega,lt,rfl,a,b,c,d⟩,fun x H3 y=>?_⟩;have e:ZT[i]?=some ZT[i]:=by simp [lt]
  have tk:(ZT.take (i+1)).filterMap id=(ZT.take i).filterMap id++ZT[i].toList:=by
   rw [List.take_add_one,e];simp only [Option.toList_some,RD];cases ZT[i]<;>rfl
  refine step i σ H x H3 ZT[i] e p sm y (fun o σ2 H6=>match o with
   |some y'=>H6 D=some (.lst ((ZT.take i).filterMap id))∧((ZT.take i).filterMap id).length<sizeLine∧σP σ2∧(ZT.take i).filterMap id++[y']=(ZT.take (i+1)).filterMap id∧Zb H6 D (.lst ((ZT.take i).filterMap id++[y'])) D=some (.lst ((ZT.take i).filterMap id++[y']))∧Same H1 (Zb H6 D (.lst ((ZT.take i).filterMap id++[y'])))
   |none=>σP σ2∧(ZT.take i).filterMap id=(ZT.take (i+1)).filterMap id∧H6 D=some (.lst ((ZT.take i).filterMap id))∧Same H1 H6) fun σ2 H6 p2 s6=>?_
  rw [tk];cases hg:ZT[i] with
  |none=>exact ⟨p2,by simp,s6 _ _ hd,sm.trans s6⟩
  |some y'=>exact ⟨s6 _ _ hd,Ge (fl i) hn,p2,by simp,Zg,keep (sm.trans s6)⟩
 ·have e:i=ZT.length:=by omega
  subst e;rw [Ra] at hd;exact .inl ⟨stop H sm,fin D H hD sm hd⟩
end L2
namespace RevF
open PySem PySem.Spec PyProof.Rows
theorem JA:Slot "reversed" (Str.ofString "__next__") "reversed.__next__" :=
 Slot.of (owner:="reversed") (n:="__next__") (by rw [RE,RF];rfl) (by decide +kernel) (by decide +kernel) (by decide +kernel) (Or.inl (by rfl)) (by rw [RG];rfl) (by decide +kernel)
theorem Zfg:entryFor table "reversed.__next__"=some Builtin.«reversed.__next__»:=NH (by rfl)
theorem Zf6 (a:Value):argsOk "reversed.__next__" ⟨[a],[]⟩:=by unfold argsOk;rfl
theorem Zhy:Slot "reversed" (Str.ofString "__iter__") "reversed.__iter__" :=
 Slot.of (owner:="reversed") (n:="__iter__") (by rw [RE,RF];rfl) (by decide +kernel) (by decide +kernel) (by decide +kernel) (Or.inl (by rfl)) (by rw [RG];rfl) (by decide +kernel)
theorem ZiK:entryFor table "reversed.__iter__"=some Builtin.«dict_keyiterator.__iter__» :=
 entryFor_alias (id':="dict_keyiterator.__iter__") (by rfl) rfl (by decide +kernel) (by rfl)
theorem Znr (a:Value):argsOk "reversed.__iter__" ⟨[a],[]⟩:=by unfold argsOk;rfl
theorem Zmb:Slot "reversed" (Str.ofString "__init__") "object.__init__" :=
 Slot.of (owner:="object") (n:="__init__") (by rw [RE,RF];rfl) (by decide +kernel) (by decide +kernel) (by decide +kernel) (Or.inl (by rfl)) (by rw [RG];rfl) (by decide +kernel)
theorem mro:mroOf (.type "reversed")=pure [.type "reversed",.type "object"]:=by rw [mroOf_type];rfl
theorem ZjQ:typeLookup (.type "reversed") (Str.ofString "__new__")=pure (some (.builtin "reversed.__new__")):=by rw [RE,RF];rfl
theorem made:Bind.madeBy (.type "reversed")=pure (some "reversed.__new__"):=madeBy_type mro ZjQ (by decide +kernel)
theorem sub:isSubtype (.type "reversed") (.type "reversed")=pure true:=by rw [RG];rfl
theorem Zdu:TypeCalled "reversed" "reversed.__new__" "object.__init__" where
 notType:=by decide +kernel
 canCreate:=by decide +kernel
 mro:=⟨_,_,mro⟩
 made:=made
 plain:=by decide +kernel
 sub:=sub
 init:=Zmb
theorem ZfK (a:Value):checkTypeCall "reversed" { pos:=[a] }=pure ():=by rfl
theorem Zg8:isType (.type "reversed")=pure true:=by rfl
theorem bk:builtinKind "reversed.__new__"=some .builtinFn:=by rfl
theorem sp:splitId "reversed.__new__"=some ("reversed","__new__"):=by rfl
theorem sb:Bind.staticBase (.type "reversed")=pure (.type "reversed"):=by
 unfold Bind.staticBase;simp only [mro,pure_bind,NG,made];rfl
theorem Zgb (a:Value):checkBuiltinCall "reversed.__new__" { pos:=[.type "reversed",a] }=pure ():=by
 unfold checkBuiltinCall;simp only [bk,sp,Zg8,sub,sb,made,pure_bind];rfl
theorem ZgO:entryFor table "reversed.__new__"=some Builtin.«reversed.__new__»:=NH (by rfl)
theorem Zm7:typeLookup (.type "tuple") (Str.ofString "__reversed__")=pure none:=by rw [RE,RF];rfl
theorem ZjZ:isSubtype (.type "tuple") (.type "dict")=pure false:=by rw [RG];rfl
theorem Zeq (a:Value):Builtin.SmallTypes.newClass "reversed" ⟨[.type "reversed",a],[]⟩=pure (.type "reversed",[a]):=by
 unfold Builtin.SmallTypes.newClass;simp only [Zg8,sub,pure_bind];rfl
section
variable {prog:Program} {w:World} {A:Around} {E:Value->Shared->Prop} {s:Shared} {a it:Addr} {us:Array Value}
def IsRev (h:Heap) (it t:Addr) (i:Int):Prop:=h.get? it=some { cls:=.type "reversed",data:=.fields #[.ref t,rawInt i] }
theorem rev_call {Q:Value->Shared->Prop} (ha:IsTup s.heap a us) (hz:(us.size:Int)<2 ^ 63)
  (h:∀tk,Q (.ref s.heap.objs.size) { s with heap:=s.heap.push { cls:=.type "reversed",data:=.fields #[.ref a,rawInt ((us.size:Int)-1)] },toks:=tk }) :
  wpAny (model prog w) A (call (.type "reversed") [.ref a]) Q E s:=by
 refine callType_new Zdu (by decide) (ZfK _) (Zgb _) (fun obj=>F.args_object_init_2 obj _) ZgO
  (S:=fun _ R s1=>s1=s∧∀tk,R (.ok (.ret (.ref s.heap.objs.size))) { s with heap:=s.heap.push { cls:=.type "reversed",data:=.fields #[.ref a,rawInt ((us.size:Int)-1)] },toks:=tk })
  (.of_wp fun prog w A R s1 hR=>?_) ⟨rfl,fun tk=>⟨⟨_,Ql _ rfl,rfl⟩,h tk⟩⟩
 obtain ⟨rfl,hR⟩:=hR;unfold Builtin.«reversed.__new__»;refine Qb (QL (Zeq _) ?_);dsimp only;refine Qb (QL (a:=()) (by rfl) ?_);refine Qb (QL (a:=()) (by rfl) ?_);refine Qb (R5 ha.typeIs Zm7 ?_);dsimp only;refine Qb (Qb (RV ha.typeIs ZjZ ?_));rw [Qa QA];refine Qb (R5 ha.typeIs slot_tuple_getitem.lookup ?_);dsimp only;rw [Qc (by decide)];refine Qe ?_;rw [Qa (by decide)];refine Qb (len_tuple ha hz ?_);refine Qb (QL (a:=some (us.size:Int)) (by rfl) ?_);dsimp only;refine Qb (m:=Builtin.SmallTypes.newRecord _ _) ?_;unfold Builtin.SmallTypes.newRecord;exact QM (Qe ⟨_,rfl,hR _⟩) (by size_fits)
theorem rev_iter {Q:Value->Shared->Prop} {i:Int} (h:IsRev s.heap it a i) (q:Q (.ref it) s):wpAny (model prog w) A (pyIter (.ref it)) Q E s:=by
 have hT:s.TypeIs (.ref it) "reversed":=⟨_,h,rfl⟩;exact Nb hT Zhy (QQ Zhy hT ZiK (id (Qe ⟨.ref it,rfl,"reversed",.builtin "reversed.__next__",hT,JA.lookup,q⟩)) (Znr _))
theorem rev_item {Q:Option Value->Shared->Prop} {i:Nat} {x:Value} (h:IsRev s.heap it a i) (ha:IsTup s.heap a us) (hz:(us.size:Int)<2 ^ 63) (e:us[i]?=some x)
  (q:∀h' tk,IsRev h' it a ((i:Int)-1)->Heap.SameBut it s.heap h'->Q (some x) { s with heap:=h',toks:=tk }):wpAny (model prog w) A (pyNext (.ref it)) Q E s:=by
 have hT:s.TypeIs (.ref it) "reversed":=⟨_,h,rfl⟩
 have li:i<us.size:=by
  rcases Nat.lt_or_ge i us.size with z|z
  ·exact z
  ·rw [GE z] at e;cases e
 unfold pyNext;refine Qb (Rn (Q7 (name:=Str.ofString "__next__") hT JA (QQ JA hT Zfg ?_ (Zf6 _))));unfold Builtin.«reversed.__next__»;refine Qb (QL (a:=(Value.ref it,[])) (by rfl) ?_);dsimp only;refine Qb (m:=field (.ref it) 0) (QE h rfl (x:=.ref a) rfl ?_);refine Qb (m:=field (.ref it) 1) (QE h rfl (x:=rawInt i) rfl ?_);show wpAny _ _ (if (i:Int)<0 then _ else _) _ _ _;rw [Qa (by omega)];refine Qb (R5 ha.typeIs slot_tuple_getitem.lookup ?_);rw [Qa (by decide)];refine Qb (wpAny_mkInt ?_);refine Qb (Rn (getItem_tuple (j:=i) (x:=x) (by exact ha) (by omega) (by omega) (StrLaws.seqIndex_nonneg (by omega) (by omega)) e ?_));dsimp only;refine Qb (m:=field (.ref it) 1) (QE h rfl (x:=rawInt i) rfl ?_);refine Qb (Q8 h (by simp) fun h' hr sb=>Qe ⟨_,rfl,Qe ?_⟩);exact q h' _ hr sb
theorem rev_end {Q:Option Value->Shared->Prop} (h:IsRev s.heap it a (-1)) (hh:A.in1.handled=none)
  (q:∀h',(∀b o,b≠it->s.heap.get? b=some o->h'.get? b=some o)->Q none { s with heap:=h' }):wpAny (model prog w) A (pyNext (.ref it)) Q E s:=by
 have hT:s.TypeIs (.ref it) "reversed":=⟨_,h,rfl⟩;unfold pyNext;refine Qb (Rn (Q7 (name:=Str.ofString "__next__") hT JA (QQ JA hT Zfg ?_ (Zf6 _))));unfold Builtin.«reversed.__next__»;refine Qb (QL (a:=(Value.ref it,[])) (by rfl) ?_);dsimp only;refine Qb (m:=field (.ref it) 0) (QE h rfl (x:=.ref a) rfl ?_);refine Qb (m:=field (.ref it) 1) (QE h rfl (x:=rawInt (-1)) rfl ?_);show wpAny _ _ (if (-1:Int)<0 then _ else _) _ _ _;rw [Qc (by decide)];refine Qb (Rr ?_);refine Qb (Qb (Q8 h (by simp) fun h1 r1 sb1=>Q8 r1 (by simp) fun h2 r2 sb2=>?_));unfold Builtin.SmallTypes.stopIteration;refine Qb (Qb (m:=newExc (.type "StopIteration") []) ?_);simp only [newExc,newTuple];refine Qb (QM (Qb (m:=firstArgMember _ _) (QL (a:=Value.none) (by first|rfl|(simp only [firstArgMember];rfl)) (QM ?_ (by size_fits)))) (by size_fits));simp only [raiseNew];refine Qb (Gz ?_);rw [show A.in1.handled=none from hh];refine Qb (Qe (GA ?_));refine Qb (RV (T:="StopIteration") (b:=true) ⟨_,Ql _ rfl,rfl⟩ GC (Qe (q _ fun b o hb e=>?_)));exact Qi _ (Qi _ (sb2.extBut _ _ hb (sb1.extBut _ _ hb e)))
end
end RevF
namespace L2
open PySem PySem.Spec PyProof.Rows
theorem ZdX:bootBuiltins "reversed"=some (.type "reversed"):=by decide +kernel
noncomputable def Jt (K:W.Frag) (a:Addr) (n:Nat):It :=
 ⟨fun i H=>∃xs x,SqT K H a xs∧xs.length=n∧xs.reverse[i]?=some x,fun i H x H'=>H'=H∧∀xs,SqT K H a xs->xs.reverse[i]?=some x,fun i _=>i=n⟩
theorem Zmm {P:Program} {w:World} {K:W.Frag} {tg:Expr} (a it:Addr) (n:Nat):Turn P w K tg (Jt K a n) [it] it (fun i h=>i≤n∧RevF.IsRev h it a ((n:Int)-1-(i:Nat))) where
 mem:=by simp
 obj:=fun i h st b hb=>by
  have e:b=it:=by simpa using hb
  subst e
  exact ⟨_,st.2,fun v z=>by
   have z':Data.fields _=Data.cell v:=z;cases z'⟩
 keep:=fun i h h' st k=>⟨st.1,k it (by simp) _ st.2⟩
 item:=by
  intro X hP hw hK hc i pins s σ H E I hf st hg;subst hP hw hK;obtain ⟨xs,x,hq,hln,hx⟩:=hg;obtain ⟨its,rv,p,hz⟩:=I.tuple hq;have hl:=rv.length;have h63:=Vs
  have li:i<n:=by
   have:=(QI.mp hx).1;rw [RH] at this;omega
  have hx':xs[n-1-i]?=some x:=by
   rw [Nc (by omega),hln] at hx;exact hx
  obtain ⟨u,hu,ru⟩:=rv.get hx';obtain ⟨f0,f1,f2,f3,f4,f5⟩:=hf it (by simp)
  have st':RevF.IsRev s.heap it a ((n-1-i:Nat):Int):=by
   have e:((n-1-i:Nat):Int)=(n:Int)-1-(i:Nat):=by omega
   rw [e];exact st.2
  refine RevF.rev_item st' (us:=its.toArray) p (by rw [Qv];omega) (x:=u) (by simpa using hu) fun h' tk hr sb=>?_;have I1:Inv X pins σ H { s with heap:=h',toks:=tk }:=I.turned (t':=tk) (fun b o hb e=>(sb.2 b hb).trans e) f0 f1 f3 f4 f5;refine ⟨u,rfl,Vr (s:={ s with heap:=h',toks:=tk }) hr rfl rfl (by decide) ⟨x,H,I1,ru,⟨rfl,fun ys hy=>by rw [I.tuple_inj hy hq];exact hx⟩,⟨by omega,?_⟩,fun b hb=>(hf b hb).1⟩⟩;have e:((n-1-i:Nat):Int)-1=(n:Int)-1-((i+1:Nat):Int):=by omega
  rw [←e];exact hr
 done:=by
  intro X hP hw hK hc i pins s σ H E I hf st hg;subst hP hw hK;have e:i=n:=hg;subst e;obtain ⟨f0,f1,f2,f3,f4,f5⟩:=hf it (by simp)
  have st':RevF.IsRev s.heap it a (-1):=by
   have e:(i:Int)-1-(i:Nat)=-1:=by omega
   rw [←e];exact st.2
  exact RevF.rev_end st' (I.ok.hd hc) fun h' eb=>⟨rfl,I.turned (t':=s.toks) (fun b o hb e=>eb b o hb e) f0 f1 f3 f4 f5⟩
 self:=fun _ _ _ _ _ st h=>RevF.rev_iter st.2 h
section
variable {X:Cx}
def ZkO (K:W.Frag) (ta:TA):TI:=fun σ H R=>ta σ H fun vs H1=>∃a xs,vs=[.ref a]∧SqT K H1 a xs∧R (Jt K a xs.length) H1
theorem ZoB (K:W.Frag) {e1 tg:Expr} {ta:TA} {p pos:Pos} (hg:Gl X "reversed") (hm:X.mg "reversed"=none) (ha:PA X [e1] ta) (hK:X.K=K:=by rfl)
  (hs:starEach [e1] X.env=(false,eval e1 X.env)::starEach [] X.env:=by rfl) (hpl:(backTo pos (starEach [] X.env)).any (·.1)=false:=by rfl):PI X tg (.Call (.Name "reversed" p) [e1] [] pos) (ZkO K ta):=by
 subst hK;intro pins s σ H R I h;refine Q9 (Wn I hg hm ZdX (RM (Zr (ha pos pins s σ H _ I h) fun us s1 ⟨vs,H1,I1,r1,q1⟩=>?_) hs hpl));obtain ⟨a,xs,e,qa,q⟩:=q1;subst e;obtain ⟨u,rfl,ra⟩:=YY r1;cases (show u=Value.ref a from ra);obtain ⟨as,ka,ta',hz⟩:=I1.tuple qa;have hl:=ka.length;have hn:=Vs;refine RevF.rev_call ta' (by rw [Qv];omega) fun tk=>?_;have e:((as.toArray.size:Nat):Int)-1=(xs.length:Int)-1-((0:Nat):Int):=by rw [Qv];omega
 rw [e];have rv0:RevF.IsRev (s1.heap.push { cls:=.type "reversed",data:=.fields #[.ref a,rawInt ((xs.length:Int)-1-((0:Nat):Int))] }) s1.heap.objs.size a ((xs.length:Int)-1-((0:Nat):Int)):=Ql _ rfl;refine RevF.rev_iter rv0 ?_;refine ⟨s1.heap.objs.size,[s1.heap.objs.size],_,_,H1,rfl,I1.kept (t':=tk) fun b o e=>Qi _ e,Zmm a _ xs.length,⟨QJ _,rv0⟩,fun b hb=>?_,q⟩;have e:b=s1.heap.objs.size:=by simpa using hb
 subst e;exact I1.fpOk (Qf _) (I1.hok.fresh (Qf _))
end
section
variable {prog:Program} {w:World} {A:Around} {E:Value->Shared->Prop} {s:Shared}
end
section
variable {X:Cx}
end
section
variable {X:Cx} {o e f:Expr} {apos cpos:Pos} {td ty tx:TE}
end
section
variable {X:Cx}
theorem Zgv {n:Nat} (h:n≤1000):3*n≤sizeLine:=Qo (Nat.mul_le_mul_left 3 h) (by decide)
theorem Zgz:VI X "str.lower" (fun x xs H Q=>∃z,x=.str z∧xs=[]∧z.length≤1000∧Q (.str (Txt.lower z)) H):=by
 intro pins s σ H x xs v us Q I rx r h;obtain ⟨z,rfl,rfl,hz,q⟩:=h;obtain ⟨t,rfl⟩:=rx;cases r;exact call_gives NI rfl PySem.F.entry_str_lower (PySem.F.args_str_lower_1 _) (gives_str_lower z t (fit_lower (by omega))) ⟨Qo (len_lower z) (Zgv hz),.str (Txt.lower z),H,I.tok _,⟨_,rfl⟩,q⟩
theorem Zlk:VI X "str.upper" (fun x xs H Q=>∃z,x=.str z∧xs=[]∧z.length≤1000∧Q (.str (Txt.upper z)) H):=by
 intro pins s σ H x xs v us Q I rx r h;obtain ⟨z,rfl,rfl,hz,q⟩:=h;obtain ⟨t,rfl⟩:=rx;cases r;exact call_gives PySem.F.slot_str_upper rfl PySem.F.entry_str_upper (PySem.F.args_str_upper_1 _) (gives_str_upper z t (fit_upper (by omega))) ⟨Qo (len_upper z) (Zgv hz),.str (Txt.upper z),H,I.tok _,⟨_,rfl⟩,q⟩
theorem ZaI (K:W.Frag) {o:Expr} {to:TE} {name:Str} {apos cpos:Pos} {T id:String} {r:V->List V->Hp->VK->Prop} (pa:PlainAttrs T) (slot:Slot T name id) (hty:typeOf (.builtin id)=pure (.type "method_descriptor")) (hm:VI X id r) (ho:PE X o to) (hK:X.K=K:=by rfl)
  (hbase:attributeBase o name X.env (eval o X.env)=eval o X.env:=by rfl) (hline:(apos.endLine==cpos.line)=true:=by rfl):PE X (.Call (.Attribute o name apos) [] [] cpos) (ZgT K T r to):=by
 subst hK;exact Zg7 pa slot hty hm ho hbase hline
end
end L2
namespace RevF
open PySem PySem.Spec PyProof.Rows
theorem UV:Slot "list_reverseiterator" (Str.ofString "__next__") "list_reverseiterator.__next__" :=
 Slot.of (owner:="list_reverseiterator") (n:="__next__") (by rw [RE,RF];rfl) (by decide +kernel) (by decide +kernel) (by decide +kernel) (Or.inl (by rfl)) (by rw [RG];rfl) (by decide +kernel)
theorem Zgp:entryFor table "list_reverseiterator.__next__"=some Builtin.«list_reverseiterator.__next__»:=NH (by rfl)
theorem ZeH (a:Value):argsOk "list_reverseiterator.__next__" ⟨[a],[]⟩:=by unfold argsOk;rfl
theorem ZeK:Slot "list_reverseiterator" (Str.ofString "__iter__") "list_reverseiterator.__iter__" :=
 Slot.of (owner:="list_reverseiterator") (n:="__iter__") (by rw [RE,RF];rfl) (by decide +kernel) (by decide +kernel) (by decide +kernel) (Or.inl (by rfl)) (by rw [RG];rfl) (by decide +kernel)
theorem ZiU:entryFor table "list_reverseiterator.__iter__"=some Builtin.«dict_keyiterator.__iter__» :=
 entryFor_alias (id':="dict_keyiterator.__iter__") (by rfl) rfl (by decide +kernel) (by rfl)
theorem Zin (a:Value):argsOk "list_reverseiterator.__iter__" ⟨[a],[]⟩:=by unfold argsOk;rfl
theorem ZkD:typeLookup (.type "list_reverseiterator") (Str.ofString "__len__")=pure none:=by rw [RE,RF];rfl
theorem Zi3:typeLookup (.type "list_reverseiterator") (Str.ofString "__length_hint__")=pure (some (.builtin "list_reverseiterator.__length_hint__")):=by rw [RE,RF];rfl
theorem ZlA:isSubtype (.type "list_reverseiterator") (.type "list_reverseiterator")=pure true:=by rw [RG];rfl
theorem Zh0:isSubtype (.type "list_reverseiterator") (.type "reversed")=pure false:=by rw [RG];rfl
theorem Znq {prog:Program} {w:World} {A:Around} {E:Value->Shared->Prop} {s:Shared} {T newId initId:String} {args:List Value} {Q Q₁:Value->Shared->Prop} (ft:TypeCalled T newId initId) (hct:checkTypeCall T { pos:=args }=pure ())
  (hnew:codeAny (model prog w) A.in1 (Code.call (.builtin newId) { pos:=.type T::args }) (wants Q₁ E) s) (hnext:∀obj s1,Q₁ obj s1->∃U,s1.TypeIs obj U∧isSubtype (.type U) (.type T)=pure false∧Q obj s1) :
  wpAny (model prog w) A (call (.type T) args) Q E s:=by
 obtain ⟨c,tl,hmro⟩:=ft.mro;refine RP (codeAny_of_tree (Qe ⟨Gx _ (by decide +kernel),Gf F.entry_type_call ?_⟩));rw [Around.under_plain (weight_type_call_type T args []) rfl];have h1:=ft.notType;have h2:=ft.canCreate;refine GF (by simp [h1]) (GF (by simp [h2]) (Qb (QL hct (Qb (QL hmro (GF rfl (Qb (QL ft.made (Qb (Qe (Qb (Rz (RP (RQ hnew fun r s1 hr=>?_))))))))))))))
 match r,hr with
 |.error e,hr=>exact hr
 |.ok (.ret v),hr =>
  obtain ⟨U,t,sb,q⟩:=hnext v s1 hr;refine Qb (RV t sb ?_);rw [Qc (by decide)];exact Qb (Rr (Qe q))
section
variable {prog:Program} {w:World} {A:Around} {E:Value->Shared->Prop} {s:Shared} {a it:Addr} {us:Array Value}
def IsLRev (h:Heap) (it t:Addr) (i:Int):Prop:=h.get? it=some { cls:=.type "list_reverseiterator",data:=.fields #[.ref t,rawInt i] }
theorem lrev_call {Q:Value->Shared->Prop} (ha:s.heap.IsList a us)
  (h:∀tk,Q (.ref s.heap.objs.size) { s with heap:=s.heap.push { cls:=.type "list_reverseiterator",data:=.fields #[.ref a,rawInt ((us.size:Int)-1)] },toks:=tk }) :
  wpAny (model prog w) A (call (.type "reversed") [.ref a]) Q E s:=by
 obtain ⟨⟨oc,od,dat,sl⟩,ho,hc,n,hd⟩:=id ha;refine Znq (Q₁:=fun obj s1=>obj=.ref s.heap.objs.size∧∃tk,s1={ s with heap:=s.heap.push { cls:=.type "list_reverseiterator",data:=.fields #[.ref a,rawInt ((us.size:Int)-1)] },toks:=tk }) Zdu (ZfK _) ?_ ?_
 ·refine NF Zdu.plain ZgO (QL (Zgb _) ?_);unfold Builtin.«reversed.__new__»;refine Qb (QL (Zeq _) ?_);dsimp only;refine Qb (QL (a:=()) (by rfl) ?_);refine Qb (QL (a:=()) (by rfl) ?_);refine Qb (R5 ha.typeIs NJ.lookup ?_);dsimp only;refine Qb (QL (NJ.bind _) ?_);dsimp only;rw [Qa (by decide)];refine Qb (Rr ?_);refine Qb (m:=call (.builtin "list.__reversed__") [.ref a]) (QQ NJ ha.typeIs F.entry_list_reversed ?_ (F.args_list_reversed_1 _));unfold Builtin.«list.__reversed__»;refine Qb (QL (a:=Value.ref a) (by rfl) ?_);refine Qb (wpAny_listItems ho hd ?_);refine Qb (m:=newFields _ _) ?_;unfold newFields;exact QM (Qe ⟨_,rfl,Qe ⟨rfl,_,rfl⟩⟩) (by size_fits)
 ·rintro obj s1 ⟨rfl,tk,rfl⟩;exact ⟨"list_reverseiterator",⟨_,Ql _ rfl,rfl⟩,Zh0,h tk⟩
theorem lrev_iter {Q:Value->Shared->Prop} {i:Int} (h:IsLRev s.heap it a i) (q:Q (.ref it) s):wpAny (model prog w) A (pyIter (.ref it)) Q E s:=by
 have hT:s.TypeIs (.ref it) "list_reverseiterator":=⟨_,h,rfl⟩;exact Nb hT ZeK (QQ ZeK hT ZiU (id (Qe ⟨.ref it,rfl,"list_reverseiterator",.builtin "list_reverseiterator.__next__",hT,UV.lookup,q⟩)) (Zin _))
theorem lrev_item {Q:Option Value->Shared->Prop} {i:Nat} {x:Value} (h:IsLRev s.heap it a i) (ha:s.heap.IsList a us) (e:us[i]?=some x)
  (q:∀h',IsLRev h' it a ((i:Int)-1)->Heap.SameBut it s.heap h'->Q (some x) { s with heap:=h' }):wpAny (model prog w) A (pyNext (.ref it)) Q E s:=by
 have hT:s.TypeIs (.ref it) "list_reverseiterator":=⟨_,h,rfl⟩;obtain ⟨o,ho,hc,n,hd⟩:=id ha;unfold pyNext;refine Qb (Rn (Q7 (name:=Str.ofString "__next__") hT UV (QQ UV hT Zgp ?_ (ZeH _))));unfold Builtin.«list_reverseiterator.__next__»;refine Qb (QL (a:=(Value.ref it,[])) (by rfl) ?_);dsimp only;refine Qb (m:=field (.ref it) 1) (QE h rfl (x:=rawInt i) rfl ?_);show wpAny _ _ (if (i:Int)<0 then _ else _) _ _ _;rw [Qa (by omega)];refine Qb (m:=field (.ref it) 0) (QE h rfl (x:=.ref a) rfl ?_);refine Qb (m:=seqItems? (.ref a)) (RU ho hd ?_);dsimp only;rw [RT,e];dsimp only;refine Qb (Q8 h (by simp) fun h' hr sb=>Qe ⟨_,rfl,Qe ?_⟩);exact q h' hr sb
theorem lrev_end {Q:Option Value->Shared->Prop} (h:IsLRev s.heap it a (-1)) (hh:A.in1.handled=none)
  (q:∀h',(∀b o,s.heap.get? b=some o->h'.get? b=some o)->Q none { s with heap:=h' }):wpAny (model prog w) A (pyNext (.ref it)) Q E s:=by
 have hT:s.TypeIs (.ref it) "list_reverseiterator":=⟨_,h,rfl⟩;unfold pyNext;refine Qb (Rn (Q7 (name:=Str.ofString "__next__") hT UV (QQ UV hT Zgp ?_ (ZeH _))));unfold Builtin.«list_reverseiterator.__next__»;refine Qb (QL (a:=(Value.ref it,[])) (by rfl) ?_);dsimp only;refine Qb (m:=field (.ref it) 1) (QE h rfl (x:=rawInt (-1)) rfl ?_);show wpAny _ _ (if (-1:Int)<0 then _ else _) _ _ _;rw [Qc (by decide)];refine Qb (Rr ?_);unfold Builtin.SmallTypes.stopIteration;refine Qb (Qb (m:=newExc (.type "StopIteration") []) ?_);simp only [newExc,newTuple];refine Qb (QM (Qb (m:=firstArgMember _ _) (QL (a:=Value.none) (by first|rfl|(simp only [firstArgMember];rfl)) (QM ?_ (by size_fits)))) (by size_fits));simp only [raiseNew];refine Qb (Gz ?_);rw [show A.in1.handled=none from hh];refine Qb (Qe (GA ?_));refine Qb (RV (T:="StopIteration") (b:=true) ⟨_,Ql _ rfl,rfl⟩ GC (Qe (q _ fun b o e=>?_)));exact Qi _ (Qi _ e)
theorem ZiV (hh:A.in1.handled=none) (it l:Addr) (hne:l≠it) (us:Array Value) :
  Walks prog w A it [it,l] [it] us.size (fun i v=>us[us.size-1-i]?=some v) (fun i h=>i≤us.size∧IsLRev h it l ((us.size:Int)-1-(i:Nat))∧h.IsList l us) where
 sub:=by simp
 frame:=fun i h h' ⟨li,r,⟨o,ho,p⟩⟩ k=>⟨li,k it (by simp) _ r,⟨o,k l (by simp) _ ho,p⟩⟩
 item:=by
  intro i s Q E hi ⟨_,r,hl⟩ q;have e:us[us.size-1-i]?=some us[us.size-1-i]:=by simp
  have r':IsLRev s.heap it l ((us.size-1-i:Nat):Int):=by
   have z:((us.size-1-i:Nat):Int)=(us.size:Int)-1-(i:Nat):=by omega
   rw [z];exact r
  refine lrev_item r' hl e fun h' hr sb=>q _ h' s.toks e ⟨hi,?_,?_⟩ fun b o hb e=>(sb.2 b (by simpa using hb)).trans e
  ·have z:((us.size-1-i:Nat):Int)-1=(us.size:Int)-1-((i+1:Nat):Int):=by omega
   rw [←z];exact hr
  ·obtain ⟨o,ho,p⟩:=hl;exact ⟨o,(sb.2 l hne).trans ho,p⟩
 done:=by
  intro s Q E ⟨_,r,hl⟩ q
  have r':IsLRev s.heap it l (-1):=by
   have z:(us.size:Int)-1-(us.size:Nat)=-1:=by omega
   rw [←z];exact r
  exact lrev_end r' hh fun h' k=>q h' s.toks fun b o _ e=>k b o e
 self:=fun i s Q E st q=>lrev_iter st.2.1 q
theorem ZlM {Q:Bool->Shared->Prop} {i:Int} (h:IsLRev s.heap it a i) (q:Q false s):wpAny (model prog w) A (Builtin.List.listLengthHint (.ref it)) Q E s:=by
 have hT:s.TypeIs (.ref it) "list_reverseiterator":=⟨_,h,rfl⟩;unfold Builtin.List.listLengthHint;refine Qb (R5 hT ZkD ?_);rw [Qa (by decide)];refine Qb (R5 hT Zi3 ?_);dsimp only;rw [show splitId "list_reverseiterator.__length_hint__"=some ("list_reverseiterator","__length_hint__") from by rfl];dsimp only;refine Qb (RV hT ZlA ?_);rw [Qa (by decide)];refine wpAny_ite_true (by rfl) ?_;rw [Qa (by decide)];exact Qe q
theorem call_list_lrev {Q:Value->Shared->Prop} (hh:A.handled=none) (h:IsLRev s.heap it a ((us.size:Int)-1)) (hl:s.heap.IsList a us) (hz:us.size≤sizeLine)
  (q:∀h' tk (acc:Array Value) c,(∀b o,b≠it->s.heap.get? b=some o->h'.get? b=some o)->h'.get? s.heap.objs.size=some { cls:=.type "list",data:=.seq acc c }->ItemsOf (fun i v=>us[us.size-1-i]?=some v) acc us.size →
   Q (.ref s.heap.objs.size) { s with heap:=h',toks:=tk }):wpAny (model prog w) A (call (.type "list") [.ref it]) Q E s:=by
 have lit:it<s.heap.objs.size:=Qg h;refine callType_codes F.called_list (F.typeCall_list_1 _) F.entry_list_init (code_list_new _ (Q₁:=fun obj s1=>obj=.ref s.heap.objs.size∧s1={ s with heap:=s.heap.push { cls:=.type "list",data:=.seq #[] } }) ⟨rfl,rfl⟩) fun obj s1 ⟨e1,e2⟩=>?_;subst e1 e2;refine ⟨⟨_,Ql _ rfl,rfl⟩,F.args_list_init_2 _ _,?_⟩;have g0:(s.heap.push { cls:=.type "list",data:=.seq #[] }).get? s.heap.objs.size=some { cls:=.type "list",data:=.seq #[] }:=Ql _ rfl;unfold Builtin.«list.__init__»;dsimp only;rw [Qa (by decide),Qa (by simp)];refine Qb (wpAny_listItems g0 rfl ?_);refine Qb (listUpdate_at g0 rfl ?_ (by decide) (by decide));refine Qb (GB ?_);have sb:=RC (s.heap.push { cls:=.type "list",data:=.seq #[] }) s.heap.objs.size (Obj.mapSeq fun _=>#[])
 obtain ⟨c1,g1⟩:∃c1,((s.heap.push { cls:=.type "list",data:=.seq #[] }).update s.heap.objs.size (Obj.mapSeq fun _=>#[])).get? s.heap.objs.size=some { cls:=.type "list",data:=.seq #[] c1 } :=
  ⟨_,GZ _ g0 rfl⟩
 generalize (s.heap.push { cls:=.type "list",data:=.seq #[] }).update s.heap.objs.size (Obj.mapSeq fun _=>#[])=h1 at *;have kp:∀b o,s.heap.get? b=some o->h1.get? b=some o:=fun b o e=>(sb.2 b (Qt (Qg e))).trans (Qi _ e);have r1:IsLRev h1 it a ((us.size:Int)-1):=kp _ _ h
 have l1:h1.IsList a us:=by
  obtain ⟨o,ho,p⟩:=hl;exact ⟨o,kp _ _ ho,p⟩
 have la:a<s.heap.objs.size:=by
  obtain ⟨o,ho,p⟩:=hl;exact Qg ho
 have hT1:Shared.TypeIs { s with heap:=h1 } (.ref it) "list_reverseiterator":=⟨_,r1,rfl⟩;unfold Builtin.List.listExtendWith;refine Qb (wpAny_typeOf hT1 ?_);refine GF ?_ ?_
 ·have:(s.heap.objs.size==it)=false:=RK.mpr (Rj lit);simp [Builtin.List.listSameRef,this]
 refine Qb (lrev_iter r1 ?_);refine Qb (Rz (ZlM r1 ?_));refine GF (by rfl) ?_
 have hai:a≠it:=fun e=>by
  subst e;obtain ⟨o,ho,hc,_⟩:=hl;rw [show s.heap.get? a=some _ from h] at ho;cases ho;simp at hc
 refine Qe ⟨Gx _ (by decide +kernel),?_⟩;refine codeAny_extend_loopS (ZiV (A:=A.in1.in1) (show A.in1.in1.in1.handled=none from hh) it a hai us).toS hz s.heap.objs.size (by simp only [Qh,QN,QO,not_or];exact ⟨Rj lit,Rj la⟩) .none us.size 0 _ #[] c1 (by omega) (by omega) ⟨QJ _,by simpa using r1,l1⟩ g1 ⟨rfl,by simp⟩ fun s' acc c mv g2 its=>?_;refine ⟨rfl,?_⟩
 have e:s'={ s with heap:=s'.heap,toks:=s'.toks }:=by
  have e1:=mv.gens;have e2:=mv.drawn;have e3:=mv.os;cases s';simp only at e1 e2 e3;subst e1 e2 e3;rfl
 rw [e];refine q s'.heap s'.toks acc c (fun b o hb eb=>mv.heap b o ?_ (kp b o eb)) g2 its;simp only [Qh,QN,QO,not_or];exact ⟨Qt (Qg eb),hb⟩
end
end RevF
namespace TextM
open PySem
end TextM
namespace L2
open PySem PySem.Spec PyProof.Rows
section
variable {X:Cx}
theorem Zj2 {us:List Value} {acc:Array Value} (h:ItemsOf (fun i v=>us.toArray[us.toArray.size-1-i]?=some v) acc us.toArray.size):acc.toList=us.reverse:=by
 obtain ⟨hs0,hi⟩:=h;have hz:us.toArray.size=us.length:=Qv ..;have hs:acc.size=us.length:=hs0.trans hz;simp only [hz] at hi;refine List.ext_getElem? fun i=>?_;by_cases lt:i<us.length
 ·rw [Nc lt];have li:i<acc.size:=by omega
  have e:acc[i]?=some acc[i]:=by simp [li]
  have:=hi i _ e;rw [List.getElem?_toArray] at this;rw [this,GG,e]
 ·rw [NK (by rw [RL,hs];omega),NK (by rw [RH];omega)]
def Zkj (K:W.Frag) (ta:TA):TE:=fun σ H Q=>ta σ H fun vs H1=>∃l xs,vs=[.ref l]∧SqL K H1 l xs∧∀D,H1 D=none->Q (.ref D) (Zb H1 D (.lst xs.reverse))
theorem Zmw (K:W.Frag) {e1:Expr} {ta:TA} {p pos p2 pos2:Pos} (hc:X.calm=true) (hgl:Gl X "list") (hml:X.mg "list"=none) (hgr:Gl X "reversed") (hmr:X.mg "reversed"=none) (ha:PA X [e1] ta) (hK:X.K=K:=by rfl)
  (hs:starEach [e1] X.env=(false,eval e1 X.env)::starEach [] X.env:=by rfl) (hpl:∀q,(backTo q (starEach [] X.env)).any (·.1)=false:=by intro _;rfl)
  (hs2:starEach [.Call (.Name "reversed" p2) [e1] [] pos2] X.env=(false,eval (.Call (.Name "reversed" p2) [e1] [] pos2) X.env)::starEach [] X.env:=by rfl) :
  PE X (.Call (.Name "list" p) [.Call (.Name "reversed" p2) [e1] [] pos2] [] pos) (Zkj K ta):=by
 subst hK;intro pins s σ H Q I h;refine Q9 (Wn I hgl hml UZ (RM ?_ hs2 (hpl _)));rw [hs2];refine Rx (Q9 (Wn I hgr hmr ZdX (RM (Zr (ha pos2 pins s σ H _ I h) fun us s1 ⟨vs,H1,I1,r1,q1⟩=>?_) hs (hpl _))));obtain ⟨l,xs,e,hq,q⟩:=q1;subst e;obtain ⟨u,rfl,ra⟩:=YY r1;cases (show u=Value.ref l from ra);obtain ⟨its,rv,pl,hz⟩:=I1.list hq;have hl:=rv.length;refine RevF.lrev_call pl.isList fun tk=>Gq ?_;have hli:(s1.heap.push { cls:=.type "list_reverseiterator",data:=.fields #[.ref l,rawInt ((its.toArray.size:Int)-1)] }).IsList l its.toArray:=pl.isList.push _;refine RevF.call_list_lrev (a:=l) (us:=its.toArray) (show X.A.handled=none from I.ok.hd hc) (Ql _ rfl) hli (by rw [Qv,←hl];exact hz) fun h' tk' acc c kp g2 itm=>?_;have e:=Zj2 itm;have kp':∀b o,s1.heap.get? b=some o->h'.get? b=some o:=fun b o eb=>kp b o (Qt (Qg eb)) (Qi _ eb);have hle:s1.heap.objs.size≤(s1.heap.push { cls:=.type "list_reverseiterator",data:=.fields #[.ref l,rawInt ((its.toArray.size:Int)-1)] }).objs.size:=by rw [Rc];exact QW _
 refine ⟨.ref _,_,I1.laid (t':=tk') (o:=.lst xs.reverse) kp' hle (show ObjOk X.prog X.w _ h' _ (.lst xs.reverse) from ⟨by rw [RH];exact hz,acc.toList,c,by rw [e];exact rv.reverse,g2⟩),rfl,q _ (I1.hok.fresh hle)⟩
theorem ZcI:∀{zs:List Str} {us:List Value},Vals (zs.map V.str) us->StrsAre us zs
 |[],_,.nil=>.nil
 |z::zs,_,.cons r rs=>by
  obtain ⟨t,rfl⟩:=r;exact .cons z t (ZcI rs)
end
section
variable {X:Cx} {pins:List (Addr×Obj)} {σ:St} {H:Hp} {s:Shared}
end
section
variable {X:Cx}
def Zk4:V->Option Int->Option Int->Hp->VK->Prop:=fun x lo hi H Q=>∃z,x=.str z∧z.length≤sizeLine∧Q (.str (Txt.slice z lo hi)) H
theorem ZfS {v:Value} {o:Option Int} (h:IsPart v o):∃l:Option (Int×Tok),v=partValue l∧l.map (·.1)=o:=by
 cases h with
 |none=>exact ⟨none,rfl,rfl⟩
 |int i t=>exact ⟨some (i,t),rfl,rfl⟩
theorem ZhZ:SlR X Zk4:=by
 intro pins s σ H x v vl vu lo hi sl Q I rx hs pl pu h;obtain ⟨z,rfl,hz,q⟩:=h;obtain ⟨t,rfl⟩:=rx;obtain ⟨l,rfl,el⟩:=ZfS pl;obtain ⟨u,rfl,eu⟩:=ZfS pu;refine ⟨"str",_,PyProof.Rows.slot_str_getitem.lookup,rfl,wpAny_getItem_str_slice (st:=none) hs rfl ?_⟩;unfold sliceMade slicePicked;rw [el,eu];show Made.post (if ((1:Int)==1&&(Builtin.Str.strSliceIndices lo hi 1 z.length).length==z.length)=true then _ else Made.str ⟨(List.filterMap (fun i=>z.cps[i]?) (Builtin.Str.strSliceIndices lo hi 1 z.length)).toArray⟩) _ _;have hle:=Txt.slice_le z lo hi;unfold Txt.slice at q hle;by_cases c:((1:Int)==1&&(Builtin.Str.strSliceIndices lo hi 1 z.length).length==z.length)=true
 ·rw [Qc c];rw [Qc c] at q;exact ⟨.str z,H,I,⟨_,rfl⟩,q⟩
 ·rw [Qa c];rw [Qa c] at q hle;exact ⟨Qo hle hz,.str _,H,I.tok _,⟨_,rfl⟩,q⟩
end
theorem Zo5 {C:Addr} {i:Nat} {tb:XS->TS} {ts:TS} {D:Ends} {σ σ':St} {H:Hp} (hc:∀H' e,Same H H'->H' e=none->ts (ZbN i D) (σ'.set i (some (.ref e))) (Zb H' e (Ul (.ref C) e))) (hb:∀E:XS,(∀H',Same H H'->E σ' (.ref C) none H')->tb E D σ H):Zeg C i tb ts D σ H :=
 hb _ fun H' s=>⟨rfl,fun e he=>hc H' e s he⟩
section
variable {X:Cx} {CX:Yu} {k:Nat} {f C:Addr} {fd:FuncData} {ps:List Str} {sp:Sp} {dvs:List V} {ds:List Value} {E:XS} {x m:Str} {p pos apos:Pos} {e o:Expr} {es:List Expr} {ta:TE} {t:TA}
def ZlY (C:Addr) (m:Str) (sp:Sp) (dvs:List V) (E:XS) (ta:TE) (t:TA):TE:=fun σ H Q=>ta σ H fun x H1=>∃a dx fs,x=.ref a∧H1 a=some (.ins C dx fs)∧fs.lookup m=none ∧
 t σ H1 fun vs H2=>sp (x::(vs++dvs)) H2 Q (E σ)
theorem Ye {pl:Sem Bool} (he:PE X o ta) (c:Cls X.K C) (hm:Meth X.K C m f) (F:FnOk X.prog X.w X.K X.mg X.base CX k f fd ps sp) (hr:Room k X.A) (hb:Binds X.K fd ps ds) (hd:Vals dvs ds) (hx:WG CX X E) (ha:PA X (e::es) t)
  (hst:starEach (e::es) X.env=(false,eval e X.env)::starEach es X.env:=by rfl) (hpl:(backTo pos (starEach es X.env)).any (·.1)=false:=by rfl)
  (ht:eval (.Call (.Attribute o m apos) (e::es) [] pos) X.env=(do
   let ov ←eval o X.env
   standAt apos.atName
   let (f,first) ←holding [ov] (getMethod ov m pl)
   callWith pos f first (backTo pos (starEach (e::es) X.env)) (backToKw pos (keywordEach [] X.env))):=by rfl) :
  PE X (.Call (.Attribute o m apos) (e::es) [] pos) (ZlY C m sp dvs E ta t):=by
 intro pins s σ H Q I h;refine W.methodCall_KW (pl:=pl) (Zr (he pins s σ H _ I h) fun u s1 ⟨x,H1,I1,rx,a,dx,fs,ex,ea,l,q⟩=>?_) ht;subst ex;obtain rfl:u=Value.ref a:=rx;refine ZjO I1 ea c hm l ?_;refine Gv (first:=[.ref a]) (h₀:=X.base) I.ok.mod.kin hm.kp (Zr (ha pos pins s1 σ H1 _ I1 q) fun us s2 ⟨vs,H2,I2,r,q2⟩=>⟨I2.kIn,?_⟩) hst hpl;exact Zfq (us:=.ref a::us) (vs:=.ref a::vs) F hr hb hd hx I2 (.cons rfl r) q2
def ZoE (C:Addr) (sp:Sp) (dvs:List V) (E:XS) (t:TA):TE:=fun σ H Q=>t σ H fun vs H1=>∀x dx,H1 x=none->H1 dx=none->dx≠x →
 sp (.ref x::(vs++dvs)) (Zb (Zb H1 dx (.own x)) x (.ins C dx [])) (fun v H2=>v=.non∧Q (.ref x) H2) (E σ)
theorem ZmS {pins:List (Addr×Obj)} {σ:St} {H:Hp} {s:Shared} {Q:VK} {us:List Value} {vs:List V} (M:Mk X.K C f) (F:FnOk X.prog X.w X.K X.mg X.base CX k f fd ps sp) (hr:Room (k+1) X.A) (hb:Binds X.K fd ps ds) (hd:Vals dvs ds)
  (hx:WG CX X E) (I:Inv X pins σ H s) (r:Vals vs us)
  (h:∀x dx,H x=none->H dx=none->dx≠x->sp (.ref x::(vs++dvs)) (Zb (Zb H dx (.own x)) x (.ins C dx [])) (fun v H2=>v=.non∧Q (.ref x) H2) (E σ)) :
  wpAny (model X.prog X.w) X.A (call (.ref C) us) (EP X pins σ Q) X.xe s:=by
 have hq:=h (s.heap.objs.size+1) s.heap.objs.size (I.hok.fresh (QW _)) (I.hok.fresh (Qf _)) (Qt (RO _));have I2:=Inv.made (C:=C) I;have r2:Vals (V.ref (s.heap.objs.size+1)::(vs++dvs)) (Value.ref (s.heap.objs.size+1)::(us++ds)):=.cons rfl (r.append hd)
 have hl:(Value.ref (s.heap.objs.size+1)::us++ds).length=ps.length:=by
  have e:=r2.length;rw [F.len _ _ _ _ hq] at e;exact e.symm
 refine RP (Zof (f:=f) I.kIn M.makes M.init (RN.mp M.fn) (RQ (F.run _ X.stack _ _ ⟨Value.ref (s.heap.objs.size+1)::us,[]⟩ (Value.ref (s.heap.objs.size+1)::(us++ds)) _ _ (E σ) (hr.make C us [])
  (I2.env0.make C us []) (hb _ (Value.ref (s.heap.objs.size+1)::us) I2.kIn hl) r2 hq) fun r s' hq'=>?_))
 cases r with
 |error e=>exact hx pins σ _ _ e s' I2 hq'
 |ok fl =>
  cases fl with
  |ret u =>
   obtain ⟨v,H',I3,rv,ev,q3⟩:=I2.after hq';subst ev;exact ⟨rv,⟨V.ref (s.heap.objs.size+1),H',I3,rfl,q3⟩⟩
  |next=>exact False.elim hq'
  |brk=>exact False.elim hq'
  |cont=>exact False.elim hq'
theorem ZoQ (M:Mk X.K C f) (F:FnOk X.prog X.w X.K X.mg X.base CX k f fd ps sp) (hr:Room (k+1) X.A) (hg:Gl X x) (hm:X.mg x=some (.ref C)) (hb:Binds X.K fd ps ds) (hd:Vals dvs ds) (hx:WG CX X E)
  (hdb:(x==("__debug__" : Str))=false:=by decide):PE X (.Call (.Name x p) [] [] pos) (ZoE C sp dvs E ZdP):=by
 intro pins s σ H Q I h;refine Q9 (U3 I hg hm ?_ hdb);exact W.callWith_K0 I.kIn M.kp (ZmS (us:=[]) M F hr hb hd hx I .nil h)
end
section
variable {X:Cx}
theorem Zc9:bootBuiltins "sorted"=some (.builtin "sorted"):=by decide +kernel
theorem Jq:∀{us:List Value} {zs:List Str},StrsAre us zs->Vals (zs.map V.str) us
 |_,_,.nil=>.nil
 |_,_,.cons y t r=>.cons ⟨t,rfl⟩ (Jq r)
theorem Zot (K:W.Frag) (hK:X.K=K:=by rfl):YG X (.builtin "sorted") (fun xs H Q=>∃l zs,xs=[.ref l]∧SqL K H l (zs.map V.str)∧zs.length<64∧∀D zs',H D=none->zs'.Perm zs->sortedS zs'=true->Q (.ref D) (Zb H D (.lst (zs'.map V.str)))):=by
 subst hK;intro pins s σ H xs us Q I r h;obtain ⟨l,zs,rfl,hq,hl,q⟩:=h;obtain ⟨u,rfl,ru⟩:=YY r;cases (show u=Value.ref l from ru);obtain ⟨its,rv,pl,hz⟩:=I.list hq;have hlen:=rv.length;rw [Qd] at hlen;refine sorted_strs pl.isList (ZcI rv) (by omega) fun out zs' so hp hs=>?_;obtain ⟨e,he⟩:=sortedAll_at s.heap its out;have hle:s.heap.objs.size≤s.heap.objs.size+1:=QW _;have hl2:zs'.length=zs.length:=hp.length_eq;refine ⟨.ref _,_,I.laid (t':=s.toks) (o:=.lst (zs'.map V.str)) (fun b u q=>sortedAll_old q) hle (show ObjOk X.prog X.w _ _ _ (.lst (zs'.map V.str)) from ⟨by rw [Qd];exact QY (Zz (by omega)),out.toList,e,Jq so,he⟩),rfl,q _ zs' (I.hok.fresh hle) hp hs⟩
end
noncomputable def ZP (x y:Str):Bool:=decide (x.cps.toList<y.cps.toList)
section
variable {prog:Program} {w:World} {A:Around} {E:Value->Shared->Prop} {s:Shared}
noncomputable def YO (xs:Array (Str×Tok)):Array Value:=xs.map fun p=>.str p.1 p.2
noncomputable def X0 (xs:Array (Str×Tok)) (i:Nat):Str:=(xs[i]?.map (·.1)).getD ""
theorem Zg6 {xs:Array (Str×Tok)} {i:Nat} {v:Value} (h:(YO xs)[i]?=some v):∃t,v=.str (X0 xs i) t:=by
 simp only [YO,Array.getElem?_map,QR] at h;obtain ⟨p,hp,rfl⟩:=h;exact ⟨p.2,by simp [X0,hp]⟩
theorem ZoL {P:Nat->Value->Prop} (val:Nat->Str) (hval:∀i v,P i v->∃t,v=.str (val i) t):CmpOf prog w A .Gt P (fun i j=>ZP (val j) (val i)):=fun i j vi vj s Q E hi hj h=>by
 obtain ⟨t,rfl⟩:=hval i vi hi;obtain ⟨u,rfl⟩:=hval j vj hj;exact richCompare_gives (op:=.Gt) (Gc s _ t) (Gc s _ u) F.slot_str_gt F.entry_str_gt (F.args_str_gt_2 _ _) (gives_str_gt _ _ t u) (fun x=>nomatch x) h
theorem Zm8 {P:Nat->Value->Prop} (val:Nat->Str) (hval:∀i v,P i v->∃t,v=.str (val i) t):CmpOf prog w A .Lt P (fun i j=>ZP (val i) (val j)):=fun i j vi vj s Q E hi hj h=>by
 obtain ⟨t,rfl⟩:=hval i vi hi;obtain ⟨u,rfl⟩:=hval j vj hj;exact richCompare_gives (op:=.Lt) (Gc s _ t) (Gc s _ u) F.slot_str_lt F.entry_str_lt (F.args_str_lt_2 _ _) (gives_str_lt _ _ t u) (fun x=>nomatch x) h
theorem ZkK {a b:Str} {t u:Tok} {Q:Value->Shared->Prop} (hh:A.handled=none)
  (h:∀h' tk,(∀c o,s.heap.get? c=some o->h'.get? c=some o)->Q (if ZP a b=true then .str b u else .str a t) { s with heap:=h',toks:=tk }) :
  wpAny (model prog w) A (call (.builtin "max") [.str a t,.str b u]) Q E s:=by
 have hT:(s.heap.push { cls:=.type "tuple",data:=.seq #[.str a t,.str b u] }).IsTuple s.heap.objs.size (YO #[(a,t),(b,u)]):=⟨_,Ql _ rfl,rfl,0,by simp [YO]⟩;refine call_max_two (Go hT ?_);have hsz:(s.heap.push { cls:=.type "tuple",data:=.seq #[.str a t,.str b u] }).objs.size=s.heap.objs.size+1:=Rc ..
 refine ⟨_,[_,s.heap.objs.size],[_],_,_,_,_,rfl,Walks.tuple (A:=A.in1) hh _ s.heap.objs.size (by rw [hsz];exact Qt (RO _)) (YO #[(a,t),(b,u)]),
  ⟨⟨_,Ql _ rfl,rfl,rfl⟩,hT.push _⟩,fun c hc=>?_,by simp [YO],ZoL (X0 #[(a,t),(b,u)]) (fun _ _=>Zg6),fun v h' tk hP hk=>?_⟩
 ·show c<((s.heap.push _).push _).objs.size;rw [Rc,hsz];rcases Qh.mp hc with rfl|hc
  ·rw [hsz];exact RO _
  ·rcases Qh.mp hc with rfl|hc
   ·exact GD (RO _)
   ·cases hc
 ·have hold:∀c o,s.heap.get? c=some o->h'.get? c=some o:=fun c o e=>by
   refine hk c o (fun hm=>?_) (Qi _ (Qi _ e));rcases Qh.mp hm with e1|hm
   ·have:=Qg e;rw [e1,hsz] at this;exact QS _ (Nat.lt_of_succ_lt this)
   ·cases hm
  have:=h h' tk hold
  have hv:v=if ZP a b=true then Value.str b u else Value.str a t:=by
   have hP':(YO #[(a,t),(b,u)])[argBest (fun i j=>ZP (X0 #[(a,t),(b,u)] j) (X0 #[(a,t),(b,u)] i)) 1]?=some v:=by
    have hsz2:(YO #[(a,t),(b,u)]).size-1=1:=by simp [YO]
    rw [←hsz2];exact hP
   have e0:argBest (fun i j=>ZP (X0 #[(a,t),(b,u)] j) (X0 #[(a,t),(b,u)] i)) 1=if ZP a b=true then 1 else 0:=by
    show (if _=true then 1 else 0)=_;rfl
   by_cases hba:ZP a b=true
   ·rw [e0,Qc hba] at hP';rw [Qc hba];simpa [YO] using hP'.symm
   ·rw [e0,Qa hba] at hP';rw [Qa hba];simpa [YO] using hP'.symm
  rw [hv];exact this
theorem ZhQ {a b:Str} {t u:Tok} {Q:Value->Shared->Prop} (hh:A.handled=none)
  (h:∀h' tk,(∀c o,s.heap.get? c=some o->h'.get? c=some o)->Q (if ZP b a=true then .str b u else .str a t) { s with heap:=h',toks:=tk }) :
  wpAny (model prog w) A (call (.builtin "min") [.str a t,.str b u]) Q E s:=by
 have hT:(s.heap.push { cls:=.type "tuple",data:=.seq #[.str a t,.str b u] }).IsTuple s.heap.objs.size (YO #[(a,t),(b,u)]):=⟨_,Ql _ rfl,rfl,0,by simp [YO]⟩;refine call_min_two (Go hT ?_);have hsz:(s.heap.push { cls:=.type "tuple",data:=.seq #[.str a t,.str b u] }).objs.size=s.heap.objs.size+1:=Rc ..
 refine ⟨_,[_,s.heap.objs.size],[_],_,_,_,_,rfl,Walks.tuple (A:=A.in1) hh _ s.heap.objs.size (by rw [hsz];exact Qt (RO _)) (YO #[(a,t),(b,u)]),
  ⟨⟨_,Ql _ rfl,rfl,rfl⟩,hT.push _⟩,fun c hc=>?_,by simp [YO],Zm8 (X0 #[(a,t),(b,u)]) (fun _ _=>Zg6),fun v h' tk hP hk=>?_⟩
 ·show c<((s.heap.push _).push _).objs.size;rw [Rc,hsz];rcases Qh.mp hc with rfl|hc
  ·rw [hsz];exact RO _
  ·rcases Qh.mp hc with rfl|hc
   ·exact GD (RO _)
   ·cases hc
 ·have hold:∀c o,s.heap.get? c=some o->h'.get? c=some o:=fun c o e=>by
   refine hk c o (fun hm=>?_) (Qi _ (Qi _ e));rcases Qh.mp hm with e1|hm
   ·have:=Qg e;rw [e1,hsz] at this;exact QS _ (Nat.lt_of_succ_lt this)
   ·cases hm
  have:=h h' tk hold
  have hv:v=if ZP b a=true then Value.str b u else Value.str a t:=by
   have hP':(YO #[(a,t),(b,u)])[argBest (fun i j=>ZP (X0 #[(a,t),(b,u)] i) (X0 #[(a,t),(b,u)] j)) 1]?=some v:=by
    have hsz2:(YO #[(a,t),(b,u)]).size-1=1:=by simp [YO]
    rw [←hsz2];exact hP
   have e0:argBest (fun i j=>ZP (X0 #[(a,t),(b,u)] i) (X0 #[(a,t),(b,u)] j)) 1=if ZP b a=true then 1 else 0:=by
    show (if _=true then 1 else 0)=_;rfl
   by_cases hba:ZP b a=true
   ·rw [e0,Qc hba] at hP';rw [Qc hba];simpa [YO] using hP'.symm
   ·rw [e0,Qa hba] at hP';rw [Qa hba];simpa [YO] using hP'.symm
  rw [hv];exact this
theorem Znk {l:Addr} {vs:List Value} {Q:List Value->Shared->Prop} (hl:IsTup s.heap l vs.toArray)
  (h:Q vs { s with heap:=(s.heap.push (seqObj "list" #[] 0)).update s.heap.objs.size (Obj.mapSeq (·++vs.toArray)) }) (hsz:vs.length≤sizeLine) :
  wpAny (model prog w) A (collect (.ref l)) Q E s:=by
 obtain ⟨o,ho,hc,n,hd⟩:=id hl;unfold collect;refine Qb (wpAny_runValue (Gf entry_proto_collect' ?_));show wpAny _ _ (do again (.builtin "list.__iadd__" ⟨[←newList [],.ref l],[]⟩)) _ _ s;refine Qb (Nd (Qe ⟨Gx _ (by decide +kernel),Gf entry_list_iadd' ?_⟩));show wpAny _ _ (Builtin.List.listExtendWith (.ref s.heap.objs.size) (.ref l) (.ref s.heap.objs.size)) _ _ { s with heap:=s.heap.push (seqObj "list" #[] 0) };unfold Builtin.List.listExtendWith;have ho':(s.heap.push (seqObj "list" #[] 0)).get? l=some o:=Qi _ ho;refine Qb (wpAny_typeOf (T:="tuple") ⟨o,ho',hc⟩ ?_);have ht:(Value.type "tuple"==Value.type "tuple")=true:=by rfl
 rw [Qc (by rw [ht];simp)];refine Qb (listItems_at ho' hd ?_);refine Qb (listItems_at (xs:=#[]) (n:=0) (Ql _ rfl) rfl ?_);rw [Qa (by simp)];refine Qb (listUpdate_at (xs:=#[]) (n:=0) (Ql _ rfl) rfl ?_ (QJ _) (by show (#[]++vs.toArray).size≤sizeLine+1;simp only [Array.size_append,Qv,GW];omega));refine Qe ?_;refine Qb (wpAny_load (get?_update_seq (Ql _ rfl) _) ?_);show wpAny _ _ (pure ((#[]:Array Value)++vs.toArray).toList) Q E _;rw [show ((#[]:Array Value)++vs.toArray).toList=vs by simp];exact Qe h
theorem ZhI {x:Value} {vs:List Value} {ss:List Str} {Q:Value->Shared->Prop} (hS:StrsAre vs ss) (h64:vs.length<64)
  (hc:∀(A':Around) (Q':List Value->Shared->Prop),A'.handled=A.handled->(∀h1 tk,(∀b o,s.heap.get? b=some o->h1.get? b=some o)->s.heap.objs.size≤h1.objs.size->Q' vs { s with heap:=h1,toks:=tk })->wpAny (model prog w) A' (collect x) Q' E s)
  (h:∀h' tk a e (out:Array Value) (ss':List Str),(∀b o,s.heap.get? b=some o->h'.get? b=some o)->s.heap.objs.size≤a->h'.get? a=some (seqObj "list" out e)->StrsAre out.toList ss'->ss'.Perm ss->sortedS ss'=true->Q (.ref a) { s with heap:=h',toks:=tk }) :
  wpAny (model prog w) A (call (.builtin "sorted") [x]) Q E s:=by
 refine NL kind_sorted plain_sorted entry_sorted (args_sorted1 _) ?_;unfold Builtin.«sorted»;refine Qb (m:=checkCount "sorted" 1 1 _) (Qe ?_);refine Qb (hc _ _ rfl fun h1 tk k1 z1=>?_);refine Qb (Nd ?_);have hoL:(h1.push (seqObj "list" vs.toArray 0)).get? h1.objs.size=some (seqObj "list" vs.toArray 0):=Ql _ rfl;show wpAny _ _ _ _ _ { s with heap:=h1.push (seqObj "list" vs.toArray 0),toks:=tk };refine Qb (Rz (QQ slot_list_sort ⟨_,hoL,rfl⟩ entry_list_sort (list_sort_treeK strKind_oneLt hoL hS.keysOf (fun v₁ v₂ rest e=>keyKind_strs (by rw [←e];exact hS)) h64 fun st' a1 a2=>⟨_,rfl,?_⟩) (args_list_sort _)));obtain ⟨ss',b1,b2,b3⟩:=sorted_out_str hS a1 a2;obtain ⟨e,he⟩:=sortedHeap_at (out:=(arrOf st').map (·.2)) hoL;refine Qe ⟨_,rfl,h _ tk _ e _ ss' (fun b o q=>?_) z1 he b1 b2 b3⟩;have q1:=k1 _ _ q;have lt:b<h1.objs.size:=Qg q1;rw [sortedHeap_old (Qt lt) (by rw [size_push'];exact GD lt)];exact Qi _ q1
end
section
variable {X:Cx}
theorem Zbp (hc:X.calm=true):YG X (.builtin "max") (fun xs H Q=>∃i j,xs=[.str i,.str j]∧Q (.str (if ZP i j=true then j else i)) H):=by
 intro pins s σ H xs us Q I r h;obtain ⟨i,j,rfl,q⟩:=h;obtain ⟨u,w',rfl,⟨t,rfl⟩,⟨t',rfl⟩⟩:=Vx r;refine ZkK (I.ok.hd hc) fun h' tk k=>⟨_,H,I.kept k,?_,q⟩;by_cases hj:ZP i j=true
 ·rw [Qc hj,Qc hj];exact ⟨_,rfl⟩
 ·rw [Qa hj,Qa hj];exact ⟨_,rfl⟩
theorem Zda (hc:X.calm=true):YG X (.builtin "min") (fun xs H Q=>∃i j,xs=[.str i,.str j]∧Q (.str (if ZP j i=true then j else i)) H):=by
 intro pins s σ H xs us Q I r h;obtain ⟨i,j,rfl,q⟩:=h;obtain ⟨u,w',rfl,⟨t,rfl⟩,⟨t',rfl⟩⟩:=Vx r;refine ZhQ (I.ok.hd hc) fun h' tk k=>⟨_,H,I.kept k,?_,q⟩;by_cases hj:ZP j i=true
 ·rw [Qc hj,Qc hj];exact ⟨_,rfl⟩
 ·rw [Qa hj,Qa hj];exact ⟨_,rfl⟩
theorem ZhR (K:W.Frag) (hK:X.K=K:=by rfl):YG X (.builtin "sorted") (fun xs H Q=>∃l zs,xs=[.ref l]∧SqT K H l (zs.map V.str)∧zs.length<64∧∀D zs',H D=none->zs'.Perm zs->sortedS zs'=true->Q (.ref D) (Zb H D (.lst (zs'.map V.str)))):=by
 subst hK;intro pins s σ H xs us Q I r h;obtain ⟨l,zs,rfl,hq,hl,q⟩:=h;obtain ⟨u,rfl,ru⟩:=YY r;cases (show u=Value.ref l from ru);obtain ⟨its,rv,pl,hz⟩:=I.tuple hq;have hlen:=rv.length;rw [Qd] at hlen;refine ZhI (ZcI rv) (by omega) (fun A' Q' _ q'=>Znk pl (q' _ _ (fun b o e=>?_) ?_) (by rw [Qd] at hz;omega)) fun h' tk a e out zs' k1 z1 he so hp hs=>?_
 ·have lt:=Qg e;rw [Heap.get?_update_ne _ _ _ _ (Qt lt)];exact Qi _ e
 ·rw [Heap.size_update,size_push'];exact QW _
 have hl2:zs'.length=zs.length:=hp.length_eq;exact ⟨.ref _,_,I.laid (t':=tk) (o:=.lst (zs'.map V.str)) k1 z1 (show ObjOk X.prog X.w _ _ _ (.lst (zs'.map V.str)) from ⟨by rw [Qd];exact QY (Zz (by omega)),out.toList,e,Jq so,he⟩),rfl,q _ zs' (I.hok.fresh z1) hp hs⟩
theorem Zme {prog:Program} {w:World} {K:Type} [DecidableEq K] (knd:HeapKind prog w K) (d:Addr) (hd:(d==sysModules)=false) :
  MeetsIn prog w (Builtin.«dict.__len__» ⟨[.ref d],[]⟩) (fun _ R s=>∃kvs,s.heap.DictOfH knd d kvs∧R (.ok (.ret (.int kvs.length s.toks))) { s with toks:=s.toks+1 }) :=
 .of_wp fun A R s ⟨kvs,hm,h⟩=>by
  obtain ⟨o,es,ep,ho,hc,hdat,he,hk,hn⟩:=hm;show wpAny _ _ (dictSize d >>= _) _ _ s;unfold dictSize;refine Qb (Qb (RW ho hdat (Qe ?_)));show wpAny _ _ (Builtin.Dict.pendingCount d >>= _) _ _ s;refine Qb (wpAny_pendingCount_other hd ?_);refine wpAny_ret_mkInt ?_;have:es.size=kvs.length:=size_of_entries he;rw [Nat.add_zero,this];exact h
theorem Zmi {prog:Program} {w:World} {A:Around} {E:Value->Shared->Prop} {s:Shared} {K:Type} [DecidableEq K] {knd:HeapKind prog w K} {d:Addr} {kvs:List (K×Addr×Value)} {Q:Value->Shared->Prop} (hd:(d==sysModules)=false) (hm:s.heap.DictOfH knd d kvs) (hfit:(kvs.length:Int)<2 ^ 63)
  (h:Q (.int kvs.length (s.toks+1)) { s with toks:=s.toks+1+1 }):wpAny (model prog w) A (call (.builtin "len") [.ref d]) Q E s:=by
 refine NL kind_len plain_len entry_len (args_len1 _) ?_;unfold Builtin.«len»;refine Qb (m:=oneArg "len" _) (Qe ?_)
 refine Qb (m:=callSpecial? (.ref d) (Str.ofString "__len__")) (Q7 (name:=Str.ofString "__len__") hm.typeIs F.slot_dict_len
  (Gu F.slot_dict_len hm.typeIs F.entry_dict_len (F.args_dict_len_1 _) (Zme knd d hd) ⟨kvs,hm,?_⟩))
 show wpAny _ _ _ _ _ { s with toks:=s.toks+1 };refine Qb (Rz (Qe ?_));refine Qb (GB ?_);show wpAny _ _ (if ((kvs.length:Nat):Int)<0 then _ else _) _ _ _;rw [Qa (by omega)];show wpAny _ _ (if ((kvs.length:Nat):Int) ≥ 2 ^ 63 then _ else _) _ _ _;rw [Qa (by omega)];exact Qb (wpAny_mkInt (Qe ⟨_,rfl,h⟩))
theorem Zlq:YG X (.builtin "len") (fun xs H Q=>∃a kvs,xs=[V.ref a]∧H a=some (.dT kvs)∧Q (.int kvs.length) H):=by
 intro pins s σ H xs us Q I r h;obtain ⟨a,kvs,rfl,ha,q⟩:=h;obtain ⟨u,rfl,ru⟩:=YY r;cases ru;obtain ⟨z,hd,vs,rel,dd⟩:=Jc I.hok ha;refine Zmi hd dd (by rw [←rel.length];rw [Gb] at z;omega) ?_;rw [←rel.length];exact ⟨.int kvs.length,H,I.tok _,⟨_,rfl⟩,q⟩
end
section
variable {prog:Program} {w:World} {K:Type} [DecidableEq K] {knd:HeapKind prog w K} {A:Around} {E:Value->Shared->Prop} {s:Shared}
theorem Znm {d a:Addr} {xs:List (K×Addr×Value)} {k:K} {v:Value} {Q:Value->Shared->Prop} (hu:knd.room A) (hkey:knd.is s.heap k a) (hm:s.heap.DictOfH knd d xs) (hsz:xs.length≤sizeLine)
  (h1:∀p,atKey xs k=some p->Q p.2 { s with toks:=s.toks+knd.draws k })
  (h2:atKey xs k=none->∀h',h'.DictOfH knd d (storedH xs k a v)->Heap.SameBut d s.heap h'->Q v { s with heap:=h',toks:=s.toks+knd.draws k }) :
  wpAny (model prog w) A (dictSetDefault d (.ref a) v) Q E s:=by
 obtain ⟨o,es,ep,ho,hc,hd,he,his,hn⟩:=hm;unfold dictSetDefault
 try with_reducible refine Rz ?_
 refine Qb (knd.pyHash hu hkey ?_);refine Qb (wpAny_dictFind_heap (s:={ s with toks:=s.toks+knd.draws k }) hu hkey ho hd he his hn ?_ ?_)
 ·intro hno;have hnot:k∉xs.map (·.1):=not_mem_keys_of_get hno
  refine Qb (Rr (Qb (wpAny_updateDictKeys (hz:=by have e:=size_of_entries he;omega) (s:={ s with toks:=s.toks+knd.draws k }) ho hd (Qe (h2 (Nf hno) _ ⟨_,_,ep+1,GZ _ ho (Obj.isFreed_of_dict (Obj.data_mapDictKeys hd _)),
   hc.mapDictKeys _,Obj.data_mapDictKeys hd _,?_,?_,?_⟩ (RC ..))))))
  ·rw [storedH_new (Nf hno)];simp [he,entryOfKey]
  ·rw [storedH_new (Nf hno)];intro x hx;rcases Qq.mp hx with hx|hx
   ·exact knd.keeps (his x hx) ho hd (RC ..)
   ·simp only [Re] at hx;subst hx;exact knd.keeps hkey ho hd (RC ..)
  ·rw [storedH_new (Nf hno)];rw [Qr,Rb];refine ⟨hn,by simp,?_⟩;intro x hx y hy;simp only [Qp,GX,Re] at hy;subst hy;exact fun e=>hnot (e▸hx)
 ·intro j p hj;refine Qb (RW (s:={ s with toks:=s.toks+knd.draws k }) ho hd ?_);rw [entry_at he j,hj];exact Qb (Rr (Qe (h1 p (atKey_of_get hn hj))))
theorem ZoC (d a:Addr) (hd:(d==sysModules)=false) (dflt:Value) :
  MeetsIn prog w (Builtin.«dict.setdefault» ⟨[.ref d,.ref a,dflt],[]⟩) (fun A R s=>knd.room A.in1∧∃k xs,knd.is s.heap k a∧s.heap.DictOfH knd d xs∧xs.length≤sizeLine ∧
   (∀p,atKey xs k=some p->R (.ok (.ret p.2)) { s with toks:=s.toks+knd.draws k }) ∧
   (atKey xs k=none->∀h',h'.DictOfH knd d (storedH xs k a dflt)->Heap.SameBut d s.heap h'->R (.ok (.ret dflt)) { s with heap:=h',toks:=s.toks+knd.draws k })) :=
 .of_wp fun A R s ⟨hu,k,xs,hkey,hm,hz,h1,h2⟩=>by
  unfold Builtin.«dict.setdefault»;refine Qb ?_;unfold Builtin.Dict.keyAndDefault;refine Qb (NM hm.typeIs ?_);show wpAny _ _ (pure (d,Value.ref a,some dflt)) _ _ s;refine Qe ?_;show wpAny _ _ (if (d==sysModules)=true then _ else (dictSetDefault d (.ref a) dflt >>= _)) _ _ s;rw [Qa (by rw [hd];exact QA)];exact Qb (Znm hu hkey hm hz (fun p hp=>Qe ⟨p.2,rfl,h1 p hp⟩) fun hn h' hm' hs'=>Qe ⟨dflt,rfl,h2 hn h' hm' hs'⟩)
end
section
variable {X:Cx} {pins:List (Addr×Obj)} {σ:St} {H:Hp} {s:Shared} {a b:Addr} {kvs:List (List Zi×V)} {k:List Zi} {d:V} {r:Value} {A:Around} {E:Value->Shared->Prop}
theorem Zik {Q:Value->Shared->Prop} (hu:A.units+1<cLine) (I:Inv X pins σ H s) (e:H a=some (.dT kvs)) (eb:H b=some (.tup (k.map kV))) (l:kvs.length<sizeLine) (rd:RelV d r)
  (h1:∀v w' s',ZM kvs k=some v->RelV v w'->Inv X pins σ H s'->Q w' s') (h2:∀s',ZM kvs k=none->Inv X pins σ (Zb H a (.dT (kvs++[(k,d)]))) s'->Q r s') :
  wpAny (model X.prog X.w) A (call (.builtin "dict.setdefault") [.ref a,.ref b,r]) Q E s:=by
 obtain ⟨z,hd,xs,rel,dd⟩:=Jc I.hok e;have hz:xs.length≤sizeLine:=by rw [←GM rel];exact z
 have hv:=rel.val k
 refine Gu N2 dd.typeIs PySem.F.entry_dict_setdefault (PySem.F.args_dict_setdefault_3 _ _ _) (ZoC (knd:=tupleKind (Yr X.prog X.w)) a b hd r)
  ⟨Gd hu,k,xs,VH I.hok eb,dd,hz,fun p hp=>?_,fun hn h' dd' hs=>?_⟩
 ·rw [hp] at hv;cases ho:ZM kvs k with
  |none=>rw [ho] at hv;cases hv
  |some v =>
   rw [ho] at hv;exact h1 v _ _ ho hv (I.tok _)
 ·rw [hn] at hv
  have ho:ZM kvs k=none:=by
   cases ho:ZM kvs k with
   |none=>rfl
   |some v=>rw [ho] at hv;cases hv
  refine h2 _ ho ?_;have hp:=rel.put k eb rd;rw [UK _ ho] at hp;have hl:(kvs++[(k,d)]).length≤sizeLine:=by rw [Qu];exact l
  obtain ⟨q,es,ep,hq,h2,h3,h4,_,h5⟩:=dd';refine Zbo I (by rw [e];exact True.intro) hs ⟨q,hq⟩ ⟨hl,hd,_,hp.keeps fun c ys ec=>?_,q,es,ep,hq,h2,h3,h4,h5⟩;rw [Zd (Zec ec e (fun z=>nomatch z))];exact ec
end
def Ziq (td ty tx:TE):TE:=fun σ H Q=>td σ H fun x H1=>∃a,x=.ref a∧IsD H1 a∧ty σ H1 fun y H2=>tx σ H2 fun z H3=>∃kvs k b,H3 a=some (.dT kvs)∧y=.ref b∧H3 b=some (.tup (k.map kV))∧kvs.length<sizeLine ∧
 (∀v,ZM kvs k=some v->Q v H3)∧(ZM kvs k=none->Q z (Zb H3 a (.dT (kvs++[(k,z)]))))
section
variable {X:Cx} {o e f:Expr} {apos cpos:Pos} {td ty tx:TE}
theorem JX (hu:X.A.units+1<cLine) (ho:PE X o td) (he:PE X e ty) (hf:PE X f tx) (m:M2 X o "setdefault" apos e f cpos):PE X (.Call (.Attribute o "setdefault" apos) [e,f] [] cpos) (Ziq td ty tx):=by
 intro pins s σ H Q I h;refine wpAny_Call_method m.base m.few m.line NC N2 PySem.F.type_dict_setdefault (Zr (ho pins s σ H _ I h) fun u s1 ⟨x,H1,I1,rx,a,ex,d,q1⟩=>?_);subst ex;obtain rfl:u=Value.ref a:=rx;obtain ⟨t1,t2,_⟩:=Ze0 I1 d;refine ⟨t1,t2,?_⟩;rw [m.trees]
 refine GV rfl (Gs (Rx (Zr (he pins s1 σ H1 _ I1 q1) fun iv s2 ⟨y,H2,I2,ry,q2⟩ =>
  Rx (Zr (hf pins s2 σ H2 _ I2 q2) fun fv s3 ⟨z,H3,I3,rz,kvs,k,b,ea,ey,eb,hl,q3,q4⟩=>Gq ?_))))
 subst ey;obtain rfl:iv=Value.ref b:=ry;exact Zik hu I3 ea eb hl rz (fun v w' s4 l rw' I4=>⟨v,H3,I4,rw',q3 v l⟩) fun s4 l I4=>⟨z,_,I4,rz,q4 l⟩
end
end L2
namespace L2
open PySem PySem.Spec PyProof.Rows PySem.W
section
variable {prog:Program} {w:World} {A:Around} {E:Value->Shared->Prop} {s:Shared} {T:String} {r d:Addr} {n:Nat} {P:Nat->Value->Prop} {OK:Heap->Prop}
theorem Zn2 {Q:List Value->Shared->Prop} (K:KdlSrc prog w T r d n P OK) (hh:A.handled=none) (hok:OK s.heap) (hn:n≤sizeLine)
  (h:∀h1 tk (acc:Array Value),(∀b o,s.heap.get? b=some o->h1.get? b=some o)->s.heap.objs.size≤h1.objs.size->ItemsOf P acc n->Q acc.toList { s with heap:=h1,toks:=tk }) :
  wpAny (model prog w) A (collect (.ref r)) Q E s:=by
 have hlt:=K.there _ hok;unfold collect;refine Qb (wpAny_runValue (Gf entry_proto_collect' ?_));show wpAny _ _ (do again (.builtin "list.__iadd__" ⟨[←newList [],.ref r],[]⟩)) _ _ s;refine Qb (Nd (Qe ⟨Gx _ (by decide +kernel),Gf entry_list_iadd' ?_⟩));show wpAny _ _ (Builtin.List.listExtendWith (.ref s.heap.objs.size) (.ref r) (.ref s.heap.objs.size)) _ _ { s with heap:=s.heap.push (seqObj "list" #[] 0) };have hS:(s.heap.push (seqObj "list" #[] 0)).get? s.heap.objs.size=some { cls:=.type "list",data:=.seq #[] 0 }:=Ql _ rfl;rw [Around.under_plainId (by decide +kernel)]
 refine kdl_extend (R:=fun r s'=>match r with
  |.ok (.ret v)=>wpAny (model prog w) A (match v with
   |.ref a=>do match (←load a).data with
    |.seq xs _=>pure xs.toList
    |_=>unsupported "internal:collect"
   |_=>unsupported "internal:collect") Q E s'
  |.ok _=>False
  |.error e=>E e s') (A:=A) (s:={ s with heap:=s.heap.push (seqObj "list" #[] 0) }) K hh (K.keep _ _ hok fun b _ o e=>Qi _ e) s.heap.objs.size (Rj hlt.1) (Rj hlt.2) (.ref s.heap.objs.size) 0 hS (fun h' tk acc c hk hS' hacc=>?_) hn
 refine Qb (wpAny_load hS' ?_);exact Qe (h h' tk acc (fun b o e=>hk b o (Qt (Qg e)) (Qi _ e)) (QY (Qg hS')) hacc)
theorem Zil {x:Value} {ss:List Str} {Q:Value->Shared->Prop} (h64:ss.length<64)
  (hc:∀(A':Around) (Q':List Value->Shared->Prop),A'.handled=A.handled->(∀vs h1 tk,StrsAre vs ss->(∀b o,s.heap.get? b=some o->h1.get? b=some o)->s.heap.objs.size≤h1.objs.size->Q' vs { s with heap:=h1,toks:=tk })->wpAny (model prog w) A' (collect x) Q' E s)
  (h:∀h' tk a e (out:Array Value) (ss':List Str),(∀b o,s.heap.get? b=some o->h'.get? b=some o)->s.heap.objs.size≤a->h'.get? a=some (seqObj "list" out e)->StrsAre out.toList ss'->ss'.Perm ss->sortedS ss'=true->Q (.ref a) { s with heap:=h',toks:=tk }) :
  wpAny (model prog w) A (call (.builtin "sorted") [x]) Q E s:=by
 refine NL kind_sorted plain_sorted entry_sorted (args_sorted1 _) ?_;unfold Builtin.«sorted»;refine Qb (m:=checkCount "sorted" 1 1 _) (Qe ?_);refine Qb (hc _ _ rfl fun vs h1 tk hS k1 z1=>?_);refine Qb (Nd ?_);have hvl:vs.length<64:=by rw [←hS.strs,Qd] at h64;exact h64
 have hoL:(h1.push (seqObj "list" vs.toArray 0)).get? h1.objs.size=some (seqObj "list" vs.toArray 0):=Ql _ rfl;show wpAny _ _ _ _ _ { s with heap:=h1.push (seqObj "list" vs.toArray 0),toks:=tk };refine Qb (Rz (QQ slot_list_sort ⟨_,hoL,rfl⟩ entry_list_sort (list_sort_treeK strKind_oneLt hoL hS.keysOf (fun v₁ v₂ rest e=>keyKind_strs (by rw [←e];exact hS)) hvl fun st' a1 a2=>⟨_,rfl,?_⟩) (args_list_sort _)));obtain ⟨ss',b1,b2,b3⟩:=sorted_out_str hS a1 a2;obtain ⟨e,he⟩:=sortedHeap_at (out:=(arrOf st').map (·.2)) hoL;refine Qe ⟨_,rfl,h _ tk _ e _ ss' (fun b o q=>?_) z1 he b1 b2 b3⟩;have q1:=k1 _ _ q;have lt:b<h1.objs.size:=Qg q1;rw [sortedHeap_old (Qt lt) (by rw [size_push'];exact GD lt)];exact Qi _ q1
end
section
variable {X:Cx}
theorem Zg5 {P:Program} {w:World} {x:Str} {v:Value} (h:(Yr P w).is (.inr x) v=true):∃t,v=.str x t:=by
 rcases X8 (show W5 (.inr x) v=true from h) with ⟨i,t,e,_⟩|⟨y,t,e,e2⟩
 ·cases e
 ·cases e;exact ⟨t,e2⟩
theorem Zct:∀{vs:List Value} {ss:List Str},vs.length=ss.length->(∀(i:Nat) (v:Value),vs[i]?=some v->∃x t,ss[i]?=some x∧v=.str x t)->StrsAre vs ss
 |[],[],_,_=>.nil
 |v::vs,x::ss,hl,h=>by
  obtain ⟨y,t,e,rfl⟩:=h 0 v rfl;cases (show some x=some y from e)
  exact .cons x t (Zct (by simpa using hl) fun i u hu=>by
   obtain ⟨z,t',e1,e2⟩:=h (i+1) u (by simpa using hu);exact ⟨z,t',by simpa using e1,e2⟩)
theorem Zjq (hc:X.calm=true):YG X (.builtin "sorted") (fun xs H Q=>∃(l:Addr) (zs:List (Str×V)),xs=[.ref l]∧H l=some (.dK (zs.map fun p=>(.inr p.1,p.2)))∧zs.length<64∧∀D zs',H D=none->zs'.Perm (zs.map (·.1))->sortedS zs'=true->Q (.ref D) (Zb H D (.lst (zs'.map V.str)))):=by
 intro pins s σ H xs us Q I r h;obtain ⟨l,zs,rfl,hq,hl,q⟩:=h;obtain ⟨u,rfl,ru⟩:=YY r;cases (show u=Value.ref l from ru);obtain ⟨z,hd,vs,rel,dd⟩:=UU I.hok hq;obtain ⟨ep,da⟩:=dd.dictAt;have hlen:vs.length=zs.length:=by rw [←rel.length,Qd]
 have keyAt:∀(i:Nat) (k:Zi) (x:Value),vs[i]?=some (k,x)->∃z,(zs.map (·.1))[i]?=some z∧k=.inr z:=by
  have go:∀{ys:List (Str×V)} {ws:List (Zi×Value)},KV (ys.map fun p=>((.inr p.1:Zi),p.2)) ws->∀(i:Nat) (k:Zi) (x:Value),ws[i]?=some (k,x)->∃z,(ys.map (·.1))[i]?=some z∧k=.inr z:=by
   intro ys
   induction ys with
   |nil=>intro ws r i k x e;cases r;cases e
   |cons y ys ih =>
    intro ws r i k x e;cases r with
    |cons h t =>
     cases i with
     |zero =>
      rw [NN] at e;cases e;exact ⟨y.1,rfl,h.1.symm⟩
     |succ i =>
      rw [R6] at e;obtain ⟨z,e1,e2⟩:=ih t i k x e;exact ⟨z,by simpa using e1,e2⟩
  exact go rel
 have col:∀(acc:Array Value),ItemsOf (fun i v=>∃k x,vs[i]?=some (k,x)∧(Yr X.prog X.w).is k v=true) acc vs.length->StrsAre acc.toList (zs.map (·.1)):=by
  intro acc hacc;refine Zct (by rw [Qd,←hlen,RL];exact hacc.1) fun i v e=>?_;obtain ⟨k,x,e1,e2⟩:=hacc.2 i v (by rw [←GG];exact e);obtain ⟨z,e3,rfl⟩:=keyAt i k x e1;obtain ⟨t,rfl⟩:=Zg5 e2;exact ⟨z,t,e3,rfl⟩
 refine Zil (ss:=zs.map (·.1)) (by rw [Qd];exact hl) (fun A' Q' hA q'=>Zn2 (kdl_dict hd) (by rw [hA];exact I.ok.hd hc) da (by rw [hlen];exact QY (Zz (by omega))) fun h1 tk acc k1 z1 hacc=>q' _ h1 tk (col acc hacc) k1 z1) fun h' tk a e out zs' k1 z1 he so hp hs=>?_;have hl2:zs'.length=zs.length:=by rw [hp.length_eq,Qd]
 exact ⟨.ref _,_,I.laid (t':=tk) (o:=.lst (zs'.map V.str)) k1 z1 (show ObjOk X.prog X.w _ _ _ (.lst (zs'.map V.str)) from ⟨by rw [Qd];exact QY (Zz (by omega)),out.toList,e,Jq so,he⟩),rfl,q _ zs' (I.hok.fresh z1) hp hs⟩
end
end L2
namespace L2
open PySem PySem.Spec PyProof.Rows
theorem ZfU (val:Nat->Int):∀k:Nat,argBest (fun i j=>decide (val i > val j)) k≤k∧∀i,i≤k->val i≤val (argBest (fun i j=>decide (val i > val j)) k)
 |0=>⟨Qf _,fun i hi=>by cases (show i=0 by omega);exact Ng _⟩
 |k+1=>by
  obtain ⟨h1,h2⟩:=ZfU val k;show (if decide (val (k+1) > val (argBest _ k))=true then k+1 else argBest _ k)≤k+1∧∀i,i≤k+1->val i≤val (if decide (val (k+1) > val (argBest _ k))=true then k+1 else argBest _ k);by_cases h:val (k+1) > val (argBest (fun i j=>decide (val i > val j)) k)
  ·rw [Qc (Qm h)];refine ⟨Qf _,fun i hi=>?_⟩;by_cases e:i=k+1
   ·subst e;exact Ng _
   ·have:=h2 i (by omega);omega
  ·rw [Qa (by rw [Qj h];decide)];refine ⟨by omega,fun i hi=>?_⟩;by_cases e:i=k+1
   ·subst e;omega
   ·exact h2 i (by omega)
theorem Zet:∀{us:List Value} {is:List Int},Vals (is.map V.int) us->∃ps:List (Int×Tok),us=ps.map (fun p=>Value.int p.1 p.2)∧ps.map (·.1)=is
 |us,[],r=>by cases r;exact ⟨[],rfl,rfl⟩
 |us,i::is,r=>by
  cases r with
  |cons h t =>
   obtain ⟨tk,rfl⟩:=h;obtain ⟨ps,rfl,e⟩:=Zet t;exact ⟨(i,tk)::ps,rfl,by rw [Qp,e]⟩
section
variable {X:Cx}
theorem Zl4 (K:W.Frag) (hc:X.calm=true) (hK:X.K=K:=by rfl):YG X (.builtin "max") (fun xs H Q=>∃(l:Addr) (is:List Int),xs=[.ref l]∧SqL K H l (is.map V.int)∧is≠[]∧∀m,m∈is->(∀x∈is,x≤m)->Q (.int m) H):=by
 subst hK;intro pins s σ H xs us Q I r h;obtain ⟨l,is,rfl,hq,hne,q⟩:=h;obtain ⟨u,rfl,ru⟩:=YY r;cases (show u=Value.ref l from ru);obtain ⟨its,rv,pl,hz⟩:=I.list hq;obtain ⟨ps,rfl,rfl⟩:=Zet rv
 have hl:s.heap.IsList l (intItems ps.toArray):=by
  have:=pl.isList
  rwa [show (ps.map fun p=>Value.int p.1 p.2).toArray=intItems ps.toArray by simp [intItems]] at this
 have hpos:0<ps.length:=List.length_pos_iff.mpr (fun e=>hne (by rw [e];rfl));refine max_intList (I.ok.hd hc) hl (by simpa using hpos) fun v h' tk e k=>?_;obtain ⟨b1,b2⟩:=ZfU (numAt ps.toArray) (ps.toArray.size-1);obtain ⟨t,rfl⟩:=intItems_at e;generalize argBest (fun i j=>decide (numAt ps.toArray i > numAt ps.toArray j)) (ps.toArray.size-1)=n at *;have hn:n<ps.length:=by rw [Qv] at b1;omega
 have val:∀i (hi:i<ps.length),numAt ps.toArray i=(ps[i]).1:=fun i hi=>by simp [numAt,hi]
 refine ⟨.int (numAt ps.toArray n),H,I.kept k,⟨t,rfl⟩,q _ ?_ fun x hx=>?_⟩
 ·rw [val n hn];exact Qk.mpr ⟨ps[n],GH _,rfl⟩
 ·obtain ⟨p,hp,rfl⟩:=Qk.mp hx;obtain ⟨i,hi,rfl⟩:=Gi hp;rw [←val i hi];exact b2 i (by rw [Qv];omega)
end
section
variable {X:Cx} {pins:List (Addr×Obj)} {σ:St} {H H':Hp} {s:Shared} {d:Addr} {kvs:List (Zi×V)} {o:Obj}
theorem Inv.thaw (I:Inv X pins σ H s) (e:H d=some (.frz o (.dK kvs))) (n:∀o u,X.H₀ d≠some (.frz o u)):Inv X pins σ (Zb H d (.dK kvs)) s:=by
 have ne:∀b,H b=none->b≠d:=fun b z q=>by subst q;rw [e] at z;cases z
 refine ⟨I.ok,I.os,I.bare,⟨I.base.keep,I.base.slot,fun b q h1 h2 h3=>?_,I.base.there,fun b xs h1=>?_,fun b q u h1=>?_,fun b ps h1=>?_⟩,I.loc,I.cell,?_,fun x c h1=>?_,fun p hp=>?_,fun b u h1=>?_,I.len⟩
 ·have:=I.base.free b q h1 h2 h3;rw [Zd (ne b this)];exact this
 ·have:=I.base.tups b xs h1;rw [Zd (fun z=>by subst z;rw [e] at this;cases this)];exact this
 ·have:=I.base.frzs b q u h1;rw [Zd (fun z=>by subst z;exact n _ _ h1)];exact this
 ·obtain ⟨more,this⟩:=I.base.tbls b ps h1;exact ⟨more,by rw [Zd (fun z=>by subst z;rw [e] at this;cases this)];exact this⟩
 ·rw [Zd (ne _ I.free)];exact I.free
 ·have:=I.freeC x c h1;rw [Zd (ne _ this)];exact this
 ·obtain ⟨a1,a2,a3⟩:=I.pin p hp;exact ⟨a1,by rw [Zd (ne _ a2)];exact a2,a3⟩
 ·by_cases z:b=d
  ·subst z;rw [Zg] at h1;cases h1;exact (show ObjOk X.prog X.w _ _ _ (.dK kvs) from (I.hok b _ e).2)
  ·rw [Zd z] at h1;refine (I.hok b u h1).stay (fun c v hc q=>q) (fun c q=>?_) fun c xs q=>?_
   ·rw [Zd (fun z=>by subst z;rw [e] at q;cases q)];exact q
   ·rw [Zd (fun z=>by subst z;rw [e] at q;cases q)];exact q
end
theorem Zgj:∀{kvs:List (Zi×V)} {vs:List (Zi×Value)},KV kvs vs->∀(i:Nat) (p:Zi×V),kvs[i]?=some p->∃x,vs[i]?=some (p.1,x)
 |[],_,r,i,p,e=>by cases e
 |q::kvs,_,r,i,p,e=>by
  cases r with
  |@cons _ y _ _ h t =>
   cases i with
   |zero =>
    cases (show some q=some p from e);exact ⟨y.2,by rw [NN,h.1]⟩
   |succ i =>
    rw [R6] at e;obtain ⟨x,hx⟩:=Zgj t i p e;exact ⟨x,by rw [R6];exact hx⟩
theorem ZkU {k:Zi} {v:Value} (h:W5 k v=true):RelV (kV k) v:=by
 rcases X8 h with ⟨i,t,rfl,rfl⟩|⟨x,t,rfl,rfl⟩
 ·exact ⟨t,rfl⟩
 ·exact ⟨t,rfl⟩
noncomputable def JQ (d:Addr) (o:Obj) (kvs:List (Zi×V)):It where
 go:=fun i H=>H d=some (.frz o (.dK kvs))∧i<kvs.length
 stop:=fun i H=>H d=some (.frz o (.dK kvs))∧kvs.length≤i
 yld:=fun i H x H'=>H'=H∧(kvs[i]?.map fun p=>kV p.1)=some x
theorem ZoX {P:Program} {w:World} {K:W.Frag} {tg:Expr} (d it:Addr) (o:Obj) (kvs:List (Zi×V)) (es:Array DictEntry) (ep:Nat) (ho:o.data=.dict es ep):Turn P w K tg (JQ d o kvs) [it] it (fun i h=>h.IsKeyIter it d i kvs.length ep) where
 mem:=by simp
 obj:=fun i h st b hb=>by
  have e:b=it:=by simpa using hb
  subst e;obtain ⟨o,e,c,d⟩:=st;exact ⟨o,e,fun v z=>by rw [d] at z;cases z⟩
 keep:=fun i h h' st k=>st.at fun o e=>k it (by simp) o e
 item:=by
  intro X hP hw hK hc i pins s σ H E I hf st hg;subst hP hw hK;obtain ⟨hq,hi⟩:=hg;obtain ⟨g1,g2⟩:=(show s.heap.get? d=some o∧ObjOk X.prog X.w H s.heap d (.dK kvs) from I.hok d _ hq);obtain ⟨z,hd,vs,rel,dd⟩:=(show kvs.length≤sizeLine∧(d==sysModules)=false∧∃vs,KV kvs vs∧s.heap.DictOf (Yr X.prog X.w) d vs from g2);obtain ⟨o2,es2,ep2,b1,b2,b3,b4⟩:=dd;rw [g1] at b1;cases b1;rw [ho] at b3;cases b3;have da:s.heap.DictAt (Yr X.prog X.w) d vs ep:=⟨o,es,g1,b2,ho,b4⟩;have hlen:vs.length=kvs.length:=rel.length.symm;obtain ⟨x,hx⟩:=Zgj rel i kvs[i] (Qx hi);obtain ⟨f0,f1,f2,f3,f4,f5⟩:=hf it (by simp);rw [←hlen] at st;refine wpAny_pyNext_dict_item st da hx fun key h' hkey st' sb=>?_;have I1:Inv X pins σ H { s with heap:=h' }:=I.turned (t':=s.toks) (fun b o hb e=>(sb.2 b hb).trans e) f0 f1 f3 f4 f5;rw [hlen] at st';obtain ⟨o3,e3,c3,d3⟩:=id st';exact ⟨key,rfl,Vr (s:={ s with heap:=h' }) e3 c3 d3 (by decide) ⟨kV kvs[i].1,H,I1,ZkU hkey,⟨rfl,by rw [Qx hi];rfl⟩,st',fun b hb=>(hf b hb).1⟩⟩
 done:=by
  intro X hP hw hK hc i pins s σ H E I hf st hg;subst hP hw hK;obtain ⟨hq,hi⟩:=hg;obtain ⟨g1,g2⟩:=(show s.heap.get? d=some o∧ObjOk X.prog X.w H s.heap d (.dK kvs) from I.hok d _ hq);obtain ⟨z,hd,vs,rel,dd⟩:=(show kvs.length≤sizeLine∧(d==sysModules)=false∧∃vs,KV kvs vs∧s.heap.DictOf (Yr X.prog X.w) d vs from g2);obtain ⟨o2,es2,ep2,b1,b2,b3,b4⟩:=dd;rw [g1] at b1;cases b1;rw [ho] at b3;cases b3;have da:s.heap.DictAt (Yr X.prog X.w) d vs ep:=⟨o,es,g1,b2,ho,b4⟩;have hlen:vs.length=kvs.length:=rel.length.symm;obtain ⟨f0,f1,f2,f3,f4,f5⟩:=hf it (by simp);rw [←hlen] at st;exact wpAny_pyNext_dict_end (I.ok.hd hc) st da (NK (by omega)) fun h' eb=>⟨rfl,I.turned (t':=s.toks) (fun b o hb e=>eb b o hb e) f0 f1 f3 f4 f5⟩
 self:=fun _ _ _ _ _ st h=>wpAny_pyIter_keyiter st h
def Znj (tl:TE):TI:=fun σ H R=>tl σ H fun x H1=>∃a kvs,x=.ref a∧H1 a=some (.dK kvs)∧∀o,R (JQ a o kvs) (Zb H1 a (.frz o (.dK kvs)))
theorem ZcX {X:Cx} {tg l:Expr} {tl:TE} (hl:PE X l tl):PI X tg l (Znj tl):=by
 intro pins s σ H R I h;refine Zr (hl pins s σ H _ I h) fun v s1 ⟨x,H1,I1,r1,q1⟩=>?_;obtain ⟨a,kvs,e,ha,q⟩:=q1;subst e;cases r1;obtain ⟨z,hd,vs,rel,dd⟩:=UU I1.hok ha;obtain ⟨o,es,ep,b1,b2,b3,b4⟩:=id dd;have da:s1.heap.DictAt (Yr X.prog X.w) a vs ep:=⟨o,es,b1,b2,b3,b4⟩;have hlen:vs.length=kvs.length:=rel.length.symm
 have If:Inv X pins σ (Zb H1 a (.frz o (.dK kvs))) s1 :=
  I1.write (x:=a) (e:=a) (o:=.frz o (.dK kvs)) (h':=s1.heap) (t':=s1.toks) (by rw [ha];exact True.intro) (.inl rfl) (fun b u _ e=>e) ⟨o,b1⟩ ⟨b1,z,hd,vs,rel,dd⟩
 refine wpAny_pyIter_dict hd da ?_;refine ⟨s1.heap.objs.size,[s1.heap.objs.size],_,_,_,rfl,If.kept (t':=s1.toks) fun b o e=>Qi _ e,ZoX a _ o kvs es ep b3,⟨_,Ql _ rfl,rfl,by rw [hlen];rfl⟩,fun b hb=>?_,q o⟩;have e:b=s1.heap.objs.size:=by simpa using hb
 subst e;exact If.fpOk (Qf _) (If.hok.fresh (Qf _))
section
variable {X:Cx}
end
section
variable {X:Cx}
end
section
variable {X:Cx}
end
def Zg9 (D:Addr) (H H':Hp):Prop:=∀b u,b≠D->H b=some u->H' b=some u
def Zj7 (t:TS):TS:=fun D σ H=>∃d kvs,H d=some (.dK kvs)∧t { nx:=fun σ' H'=>∃o,H' d=some (.frz o (.dK kvs))∧D.nx σ' (Zb H' d (.dK kvs)),rt:=fun _ _=>False } σ H
theorem ZdU {X:Cx} {st:Stmt} {t:TS} (hs:PS X st t):PS X st (Zj7 t):=by
 intro pins s σ H D I h;obtain ⟨d,kvs,hd,h⟩:=h
 have n:∀o u,X.H₀ d≠some (.frz o u):=fun o u z=>by
  have:=I.base.frzs d o u z;rw [hd] at this;cases this
 refine Zr (hs pins s σ H _ I h) fun fl s1 q=>?_;cases fl with
 |next =>
  obtain ⟨σ1,H1,I1,o,e1,q1⟩:=q;exact ⟨σ1,_,I1.thaw e1 n,q1⟩
 |brk=>obtain ⟨σ1,H1,I1,z⟩:=q;exact z.elim
 |cont=>obtain ⟨σ1,H1,I1,z⟩:=q;exact z.elim
 |ret u=>obtain ⟨v,σ1,H1,I1,r,z⟩:=q;exact z.elim
structure FunD (K:W.Frag) (x qual:Str) (st:Stmt) (f:Addr) (fd:FuncData) (dV:Value):Prop where
 ex:∃(oc:Value) (od:Option Addr) (kV doc pm:Value) (an:Option Addr) (cdv ct:Value) (osl:Array (Option Value)),
  fd=W.fnOf x qual (Xs st) (Y4 st) (Zx st) dV kV doc pm an cdv ct∧K.lookup f=some ⟨oc,od,.func fd,osl⟩∧W.codeIn K cdv qual=true
 kp:W.keepIn K (.ref f)=true
theorem FunD.okX {P:Program} {w:World} {K:W.Frag} {mg:Str->Option Value} {base:Heap} {CX:Yu} {x qual:Str} {st:Stmt} {f:Addr} {fd:FuncData} {dV:Value} {N ps:List Str} {k:Nat} {sp:Sp} (F:FunD K x qual st f fd dV) (S:FnScope N ps (Zx st))
  (len:∀vs H Q E,sp vs H Q E->vs.length=ps.length)
  (hbody:∀(cdv:Value) (A:Around) (outer:List Env) (s:Shared) (H:Hp) (vs:List V) (Q:VK) (E:XK),Room k (A.deeper (envOfC qual (Zx st) s.heap.objs.size f cdv))->sp vs H Q E →
   ∃t,PSs (We CX P w K mg base N qual (Zx st) f cdv A outer s H E) (Y4 st) t∧t { nx:=fun _ H'=>Q .non H',rt:=Q } (start N vs) H):FnOk P w K mg base CX (k+1) f fd ps sp:=by
 obtain ⟨oc,od,kV,doc,pm,an,cdv,ct,osl,rfl,lk,hcd⟩:=F.ex;exact Zd1 lk hcd S len fun A outer s H vs Q E hr hsp=>hbody cdv A outer s H vs Q E hr hsp
theorem Zen {K:W.Frag} {x qual:Str} {st:Stmt} {f:Addr} {oc:Value} {od an:Option Addr} {osl:Array (Option Value)} {dV kV doc pm cdv ct:Value} (l:K.lookup f=some ⟨oc,od,.func (W.fnOf x qual (Xs st) (Y4 st) (Zx st) dV kV doc pm an cdv ct),osl⟩)
  (c:W.codeIn K cdv qual=true) (k:W.keepIn K (.ref f)=true):FunD K x qual st f (W.fnOf x qual (Xs st) (Y4 st) (Zx st) dV kV doc pm an cdv ct) dV:=⟨⟨oc,od,kV,doc,pm,an,cdv,ct,osl,rfl,l,c⟩,k⟩
theorem FunD.binds1 {K:W.Frag} {x qual:Str} {st:Stmt} {f T:Addr} {fd:FuncData} {ps:List Str} {o:Obj} {n:Nat} (F:FunD K x qual st f fd (.ref T)) (ho:K.lookup T=some o) (hs:o.data=.seq #[.none] n)
  (h:∀(kV doc pm:Value) (an:Option Addr) (cdv ct:Value) (us:List Value),us.length+1=ps.length->∃k:Option (Array Value)->Sem (List (Str×Value)),
   bindArgs (W.fnOf x qual (Xs st) (Y4 st) (Zx st) (.ref T) kV doc pm an cdv ct) ⟨us,[]⟩=seqItems? (.ref T) >>= k∧k (some #[.none])=pure (ps.zip (us++[.none]))):Binds K fd ps [.none]:=by
 obtain ⟨oc,od,kV,doc,pm,an,cdv,ct,osl,rfl,lk,hcd⟩:=F.ex;intro s us hin hl;rw [Qu] at hl;obtain ⟨k,h1,h2⟩:=h kV doc pm an cdv ct us hl;exact W.binds_K hin rfl ho hs h1 h2
section
variable {X:Cx} {body suite:List Stmt} {b₀:Stmt} {x n:Str} {C:Addr} {np hpos pos:Pos} {bmB:List Value} {newId:String} {i:Nat} {tb:XS->TS} {ts:TS}
end
end L2
namespace SA
open PySem PyProof.Rows
section
variable {M:Model} {A:Around} {E:Value->Shared->Prop} {s:Shared}
variable {O:KeyOrd} {key:Keyed->O.α} {D:Keyed->Prop} {kd:SortKind}
end
section
variable {M:Model} {A:Around} {E:Value->Shared->Prop} {s:Shared} {O:KeyOrd} {key:Keyed->O.α} {D:Keyed->Prop} {kd:SortKind}
end
section
variable {M:Model} {A:Around} {E:Value->Shared->Prop} {s:Shared} {O:KeyOrd} {key:Keyed->O.α} {D:Keyed->Prop} {kd:SortKind}
end
section
variable {O:KeyOrd} {key:Keyed->O.α}
end
section
variable {M:Model} {A:Around} {E:Value->Shared->Prop} {s:Shared} {O:KeyOrd} {key:Keyed->O.α} {D:Keyed->Prop} {kd:SortKind}
end
section
variable {M:Model} {A:Around} {E:Value->Shared->Prop} {s:Shared} {O:KeyOrd} {key:Keyed->O.α} {D:Keyed->Prop} {kd:SortKind}
end
section
variable {M:Model} {A:Around} {E:Value->Shared->Prop} {s:Shared} {O:KeyOrd} {key:Keyed->O.α} {D:Keyed->Prop} {kd:SortKind} {d:O.α}
end
section
variable {M:Model} {A:Around} {E:Value->Shared->Prop} {s:Shared} {O:KeyOrd} {key:Keyed->O.α} {D:Keyed->Prop} {kd:SortKind} {d:O.α}
end
section
variable {M:Model} {A:Around} {E:Value->Shared->Prop} {s:Shared} {O:KeyOrd} {key:Keyed->O.α} {D:Keyed->Prop} {kd:SortKind} {d:O.α} {a0:List Keyed}
end
section
variable {M:Model} {A:Around} {E:Value->Shared->Prop} {s:Shared} {O:KeyOrd} {key:Keyed->O.α} {D:Keyed->Prop} {kd:SortKind} {d:O.α} {a0:List Keyed}
end
end SA
namespace SA
open PySem PyProof.Rows PySem.W
section
variable {prog:Program} {w:World} {A:Around} {E:Value->Shared->Prop} {s:Shared}
end
end SA
namespace L2
open PySem PySem.Spec PyProof.Rows PySem.W
section
variable {prog:Program} {w:World} {A:Around} {E:Value->Shared->Prop} {s:Shared}
def VY (h:Heap) (d:Addr) (es:Array DictEntry) (ep:Nat):Prop:=∃o,h.get? d=some o∧o.cls=.type "dict"∧o.data=.dict es ep
end
end L2
namespace L2
open PySem PySem.Spec PyProof.Rows PySem.W SA
section
variable {prog:Program} {w:World} {A:Around} {E:Value->Shared->Prop} {s:Shared}
end
section
variable {X:Cx}
end
section
variable {X:Cx}
end
section
variable {X:Cx} {pins:List (Addr×Obj)} {σ:St} {H H':Hp} {s:Shared} {d:Addr} {kvs:List (List Zi×V)} {o:Obj}
theorem Inv.thawT (I:Inv X pins σ H s) (e:H d=some (.frz o (.dT kvs))) (n:∀o u,X.H₀ d≠some (.frz o u)):Inv X pins σ (Zb H d (.dT kvs)) s:=by
 have ne:∀b,H b=none->b≠d:=fun b z q=>by subst q;rw [e] at z;cases z
 refine ⟨I.ok,I.os,I.bare,⟨I.base.keep,I.base.slot,fun b q h1 h2 h3=>?_,I.base.there,fun b xs h1=>?_,fun b q u h1=>?_,fun b ps h1=>?_⟩,I.loc,I.cell,?_,fun x c h1=>?_,fun p hp=>?_,fun b u h1=>?_,I.len⟩
 ·have:=I.base.free b q h1 h2 h3;rw [Zd (ne b this)];exact this
 ·have:=I.base.tups b xs h1;rw [Zd (fun z=>by subst z;rw [e] at this;cases this)];exact this
 ·have:=I.base.frzs b q u h1;rw [Zd (fun z=>by subst z;exact n _ _ h1)];exact this
 ·obtain ⟨more,this⟩:=I.base.tbls b ps h1;exact ⟨more,by rw [Zd (fun z=>by subst z;rw [e] at this;cases this)];exact this⟩
 ·rw [Zd (ne _ I.free)];exact I.free
 ·have:=I.freeC x c h1;rw [Zd (ne _ this)];exact this
 ·obtain ⟨a1,a2,a3⟩:=I.pin p hp;exact ⟨a1,by rw [Zd (ne _ a2)];exact a2,a3⟩
 ·have st:∀{b:Addr} {u:HO},ObjOk X.prog X.w H s.heap b u->ObjOk X.prog X.w (Zb H d (.dT kvs)) s.heap b u:=fun x=>by
   refine x.stay (fun c v hc q=>q) (fun c q=>?_) fun c xs q=>?_
   ·rw [Zd (fun z=>by subst z;rw [e] at q;cases q)];exact q
   ·rw [Zd (fun z=>by subst z;rw [e] at q;cases q)];exact q
  by_cases z:b=d
  ·subst z;rw [Zg] at h1;cases h1;exact st (show ObjOk X.prog X.w H s.heap b (.dT kvs) from (I.hok b _ e).2)
  ·rw [Zd z] at h1;exact st (I.hok b u h1)
end
def Zjz (t:TS):TS:=fun D σ H=>∃d kvs,H d=some (.dT kvs)∧t { nx:=fun σ' H'=>∃o,H' d=some (.frz o (.dT kvs))∧D.nx σ' (Zb H' d (.dT kvs)),rt:=fun _ _=>False } σ H
theorem ZfP {X:Cx} {st:Stmt} {t:TS} (hs:PS X st t):PS X st (Zjz t):=by
 intro pins s σ H D I h;obtain ⟨d,kvs,hd,h⟩:=h
 have n:∀o u,X.H₀ d≠some (.frz o u):=fun o u z=>by
  have:=I.base.frzs d o u z;rw [hd] at this;cases this
 refine Zr (hs pins s σ H _ I h) fun fl s1 q=>?_;cases fl with
 |next =>
  obtain ⟨σ1,H1,I1,o,e1,q1⟩:=q;exact ⟨σ1,_,I1.thawT e1 n,q1⟩
 |brk=>obtain ⟨σ1,H1,I1,z⟩:=q;exact z.elim
 |cont=>obtain ⟨σ1,H1,I1,z⟩:=q;exact z.elim
 |ret u=>obtain ⟨v,σ1,H1,I1,r,z⟩:=q;exact z.elim
section
variable {prog:Program} {w:World} {A:Around} {E:Value->Shared->Prop}
end
theorem Zf2 {α:Type} {J:It} {σ0:St} {g:TG} {tt:TT} {te:TE} {Q:VK} {H1:Hp} (sel:List (Option α)) (P:α->Hp->V->Prop) (mono:∀a H H' v D xs,P a H v->H D=some (.lst xs)->Zg9 D H H'->P a H' v) (hn:sel.length<sizeLine) (σP:St->Prop) (h0:σP σ0)
  (go:∀i H,i<sel.length->Same H1 H->J.go i H) (stop:∀H,Same H1 H->J.stop sel.length H)
  (step:∀i σ H x H' o,sel[i]?=some o->σP σ->Same H1 H->J.yld i H x H'->∀C:Option V->St->Hp->Prop,(o=none->∀σ2 H6,σP σ2->Same H H6->C none σ2 H6)->(∀a,o=some a->∀y σ2 H6,σP σ2->Same H H6->P a H6 y->C (some y) σ2 H6)->g x σ H' fun σ2 H4=>tt σ2 H4 fun c H5=>if c=true then te σ2 H5 fun y' H6=>C (some y') σ2 H6 else C none σ2 H5)
  (fin:∀D ys H',H1 D=none->Same H1 H'->H' D=some (.lst ys)->ys.length=(sel.filterMap id).length->(∀(j:Nat) (y:V) (a:α),ys[j]?=some y->(sel.filterMap id)[j]?=some a->P a H' y)->Q (.ref D) H'):ZaZ J σ0 g tt te Q H1:=by
 intro D hD
 have keep:∀{H:Hp} {o:HO},Same H1 H->Same H1 (Zb H D o):=fun {H o} e b u q=>by
  rw [Zd (ZO q hD)];exact e b u q
 have fl:∀i,((sel.take i).filterMap id).length≤sel.length:=fun i=>Qo (Na _ _) (by rw [Rl];omega);refine ⟨fun i m σ ys H=>i≤sel.length∧m=sel.length-i∧σP σ∧ys.length=((sel.take i).filterMap id).length∧(∀(j:Nat) (y:V) (a:α),ys[j]?=some y->((sel.take i).filterMap id)[j]?=some a->P a H y)∧H D=some (.lst ys)∧Same H1 H,⟨_,QJ _,rfl,h0,rfl,fun j y a e=>by simp at e,Zg,keep (Same.refl H1)⟩,?_⟩;rintro i m σ ys H ⟨hi,rfl,p,hy,hP,hd,sm⟩;refine ⟨hd,?_⟩;by_cases lt:i<sel.length
 ·have e:sel[i]?=some sel[i]:=by simp [lt]
  have tk:(sel.take (i+1)).filterMap id=(sel.take i).filterMap id++(match sel[i] with|none=>[]|some a=>[a]):=by
   rw [List.take_succ_eq_append_getElem lt,RD];cases sel[i]<;>rfl
  refine .inr ⟨go i H lt sm,fun σ2 ys2 H3=>σP σ2∧ys2.length=((sel.take (i+1)).filterMap id).length∧(∀(j:Nat) (y:V) (a:α),ys2[j]?=some y->((sel.take (i+1)).filterMap id)[j]?=some a->P a H3 y)∧H3 D=some (.lst ys2)∧Same H1 H3,fun σ2 ys2 H3 ⟨a,b,c,d,e⟩=>⟨_,by omega,lt,rfl,a,b,c,d,e⟩,fun x H3 y=>?_⟩
  refine step i σ H x H3 sel[i] e p sm y (fun o σ2 H6=>match o with
   |some y'=>H6 D=some (.lst ys)∧ys.length<sizeLine∧σP σ2∧(ys++[y']).length=((sel.take (i+1)).filterMap id).length∧(∀(j:Nat) (z:V) (a:α),(ys++[y'])[j]?=some z->((sel.take (i+1)).filterMap id)[j]?=some a->P a (Zb H6 D (.lst (ys++[y']))) z)∧Zb H6 D (.lst (ys++[y'])) D=some (.lst (ys++[y']))∧Same H1 (Zb H6 D (.lst (ys++[y'])))
   |none=>σP σ2∧ys.length=((sel.take (i+1)).filterMap id).length∧(∀(j:Nat) (z:V) (a:α),ys[j]?=some z->((sel.take (i+1)).filterMap id)[j]?=some a->P a H6 z)∧H6 D=some (.lst ys)∧Same H1 H6) (fun on σ2 H6 p2 s6=>?_) (fun a oa y' σ2 H6 p2 s6 hp6=>?_)
  ·have tn:(sel.take (i+1)).filterMap id=(sel.take i).filterMap id:=by rw [tk,on];exact Qs _
   refine ⟨p2,by rw [tn];exact hy,fun j z a e1 e2=>?_,s6 _ _ hd,sm.trans s6⟩;rw [tn] at e2;exact mono a H H6 z D ys (hP j z a e1 e2) hd fun b u _ q=>s6 b u q
  ·have ts:(sel.take (i+1)).filterMap id=(sel.take i).filterMap id++[a]:=by rw [tk,oa]
   have hd6:=s6 _ _ hd;have bt:Zg9 D H6 (Zb H6 D (.lst (ys++[y']))):=fun b u nb e=>by rw [Zd nb];exact e
   have fi:=fl i;refine ⟨hd6,by omega,p2,by rw [ts,Qu,Qu,hy];rfl,fun j z b e1 e2=>?_,Zg,keep (sm.trans s6)⟩;rw [ts] at e2;by_cases jl:j<ys.length
   ·rw [RS jl] at e1;rw [RS (by omega)] at e2;exact mono b H _ z D _ (hP j z b e1 e2) hd (fun b u nb e=>bt b u nb (s6 b u e))
   ·have j0:j=ys.length:=by
     have:=(QI.mp e1).1;simp at this;omega
    subst j0;rw [Ry (Qf _),R7] at e1;rw [Ry (by omega),hy,R7] at e2;cases (show y'=z by simpa using e1);cases (show a=b by simpa using e2);exact mono a H6 _ _ D _ hp6 hd6 bt
 ·have e:i=sel.length:=by omega
  subst e;rw [Ra] at hy hP;exact .inl ⟨stop H sm,fin D ys H hD sm hd hy hP⟩
end L2
namespace L2
open PySem PySem.Spec PyProof.Rows PySem.W
noncomputable def ZG (K:W.Frag) (f:Addr):FuncData:=match K.lookup f with
 |some ⟨_,_,.func fd,_⟩=>fd
 |_=>default
structure DefIn (K:W.Frag) (x q:Str) (st:Stmt) (f:Addr):Prop where
 ex:∃(oc:Value) (od:Option Addr) (kV doc pm:Value) (an:Option Addr) (cdv ct:Value) (osl:Array (Option Value)),
  K.lookup f=some ⟨oc,od,.func (fnOf x q (Xs st) (Y4 st) (Zx st) .none kV doc pm an cdv ct),osl⟩∧codeIn K cdv q=true
 kp:keepIn K (.ref f)=true
theorem DefIn.fn {K:W.Frag} {x q:Str} {st:Stmt} {f:Addr} (h:DefIn K x q st f):Fun K x q st f (ZG K f):=by
 obtain ⟨oc,od,kV,doc,pm,an,cdv,ct,osl,lk,hc⟩:=h.ex;have e:ZG K f=fnOf x q (Xs st) (Y4 st) (Zx st) .none kV doc pm an cdv ct:=by unfold ZG;rw [lk]
 rw [e];exact Zjd lk hc h.kp
def Zhz (x q:Str) (st:Stmt) (ps:List Str):Prop:=∀(kV doc pm:Value) (an:Option Addr) (cdv ct:Value) (us:List Value),us.length=ps.length->bindArgs (fnOf x q (Xs st) (Y4 st) (Zx st) .none kV doc pm an cdv ct) ⟨us,[]⟩=pure (ps.zip us)
structure Df (K:W.Frag) (mg:Str->Option Value) (x:Str) (st:Stmt) (ps:List Str) where
 a:Addr
 F:Fun K x x st a (ZG K a)
 b:Binds K (ZG K a) ps []
 m:mg x=some (.ref a)
structure Dm (K:W.Frag) (C:Addr) (x q:Str) (st:Stmt) (ps:List Str) where
 a:Addr
 F:Fun K x q st a (ZG K a)
 b:Binds K (ZG K a) ps []
 me:Meth K C x a
noncomputable def Df.of {K:W.Frag} {mg:Str->Option Value} {h:Heap} {x:Str} {st:Stmt} {ps:List Str} {f:Addr} (X:K.In h) (G:h.Ns mainGlobals mg) (a:nsIn K mainGlobals x=some (some (.ref f))) (l:DefIn K x x st f) (hb:Zhz x x st ps):Df K mg x st ps:=⟨f,l.fn,l.fn.binds hb,mg_of X G a⟩
noncomputable def Dm.of {K:W.Frag} {C:Addr} {x q:Str} {st:Stmt} {ps:List Str} {f:Addr} (a:findIn K (.ref C) x=some (some (.ref f))) (i:isFn K (.ref f)=true) (l:DefIn K x q st f) (hb:Zhz x q st ps):Dm K C x q st ps:=⟨f,l.fn,l.fn.binds hb,⟨a,i,l.kp⟩⟩
theorem YS {P:List Value->Prop} (h:∀a,P [a]):∀us,us.length=1->P us
 |[_],_=>h _
theorem XE {P:List Value->Prop} (h:∀a b,P [a,b]):∀us,us.length=2->P us
 |[_,_],_=>h _ _
theorem Jg {P:List Value->Prop} (h:∀a b c,P [a,b,c]):∀us,us.length=3->P us
 |[_,_,_],_=>h _ _ _
theorem Vb {P:List Value->Prop} (h:∀a b c d,P [a,b,c,d]):∀us,us.length=4->P us
 |[_,_,_,_],_=>h _ _ _ _
theorem un5 {P:List Value->Prop} (h:∀a b c d e,P [a,b,c,d,e]):∀us,us.length=5->P us
 |[_,_,_,_,_],_=>h _ _ _ _ _
end L2
namespace TextG
open PySem
end TextG
namespace L2
open PySem PySem.Spec PyProof.Rows PySem.W
section
variable {X:Cx}
theorem Zn5 (hc:X.calm=true):YG X (.type "list") (fun xs H Q=>∃(l:Addr) (zs:List (Str×V)),xs=[.ref l]∧H l=some (.dK (zs.map fun p=>(.inr p.1,p.2)))∧zs.length≤1000∧∀D,H D=none->Q (.ref D) (Zb H D (.lst ((zs.map (·.1)).map V.str)))):=by
 intro pins s σ H xs us Q I r h;obtain ⟨l,zs,rfl,hq,hl,q⟩:=h;obtain ⟨u,rfl,ru⟩:=YY r;cases (show u=Value.ref l from ru);obtain ⟨z,hd,vs,rel,dd⟩:=UU I.hok hq;obtain ⟨ep,da⟩:=dd.dictAt;have hlen:vs.length=zs.length:=by rw [←rel.length,Qd]
 have keyAt:∀(i:Nat) (k:Zi) (x:Value),vs[i]?=some (k,x)->∃z,(zs.map (·.1))[i]?=some z∧k=.inr z:=by
  have go:∀{ys:List (Str×V)} {ws:List (Zi×Value)},KV (ys.map fun p=>((.inr p.1:Zi),p.2)) ws->∀(i:Nat) (k:Zi) (x:Value),ws[i]?=some (k,x)->∃z,(ys.map (·.1))[i]?=some z∧k=.inr z:=by
   intro ys
   induction ys with
   |nil=>intro ws r i k x e;cases r;cases e
   |cons y ys ih =>
    intro ws r i k x e;cases r with
    |cons h t =>
     cases i with
     |zero =>
      rw [NN] at e;cases e;exact ⟨y.1,rfl,h.1.symm⟩
     |succ i =>
      rw [R6] at e;obtain ⟨z,e1,e2⟩:=ih t i k x e;exact ⟨z,by simpa using e1,e2⟩
  exact go rel
 have col:∀(acc:Array Value),ItemsOf (fun i v=>∃k x,vs[i]?=some (k,x)∧(Yr X.prog X.w).is k v=true) acc vs.length->StrsAre acc.toList (zs.map (·.1)):=by
  intro acc hacc;refine Zct (by rw [Qd,←hlen,RL];exact hacc.1) fun i v e=>?_;obtain ⟨k,x,e1,e2⟩:=hacc.2 i v (by rw [←GG];exact e);obtain ⟨z,e3,rfl⟩:=keyAt i k x e1;obtain ⟨t,rfl⟩:=Zg5 e2;exact ⟨z,t,e3,rfl⟩
 have hs:zs.length<sizeLine:=Zz (by omega);refine kdl_call (kdl_dict hd) (I.ok.hd hc) da (by rw [hlen];omega) fun h' tk acc c k1 he hacc=>?_;exact ⟨.ref _,_,I.laid (t':=tk) (o:=.lst ((zs.map (·.1)).map V.str)) k1 (Qf _) (show ObjOk X.prog X.w _ _ _ (.lst ((zs.map (·.1)).map V.str)) from ⟨by rw [Qd,Qd];omega,acc.toList,c,Jq (col acc hacc),by rw [Array.toArray_toList];exact he⟩),rfl,q _ (I.hok.fresh (Qf _))⟩
end
section
variable {X:Cx} {CX:Yu} {k1 k2 k3:Nat} {f1 C1 f2 C2 f3 C3:Addr} {fd1 fd2 fd3:FuncData} {ps1 ps2 ps3:List Str} {sp1 sp2 sp3:Sp} {E:XS} {m:Str} {pos apos:Pos} {o:Expr} {ta:TE}
end
end L2
namespace L2
open PySem PySem.Spec PyProof.Rows
section
variable {prog:Program} {w:World} {A:Around} {R:Result->Shared->Prop} {s:Shared}
end
section
variable {X:Cx} {pins:List (Addr×Obj)} {σ:St} {H:Hp} {s:Shared} {N:List Str} {sc:Scope} {cl:List (Str×Addr)} {σc:St->St} {fp:List Addr}
end
section
variable {X:Cx} {elt tg iter:Expr} {ifs:List Expr} {sc:Scope} {pos:Pos} {N:List Str} {cl:List (Str×Addr)} {σc:St->St} {wi:TI} {g:TG} {tt:TT} {te:TE}
end
section
variable {M:Model} {A:Around} {E:Value->Shared->Prop} {s:Shared}
end
section
variable {X:Cx} {pins:List (Addr×Obj)} {σ:St} {H H':Hp} {s s':Shared} {e:Addr} {cls:Value}
end
section
variable {P:Program} {w:World} {K:W.Frag} {mg:Str->Option Value} {base:Heap} {N:List Str} {qual:Str} {scope:Scope} {f:Addr} {cd:Value} {A:Around} {outer:List Env} {s:Shared} {H:Hp} {E:XK}
end
section
variable {X:Cx}
end
section
variable {prog:Program} {w:World} {A:Around} {E:Value->Shared->Prop} {s:Shared}
end
section
variable {prog:Program} {w:World} {κ:Type} [DecidableEq κ] {knd:KeyKind prog w κ} {A:Around} {s:Shared}
end
section
variable {X:Cx}
end
section
variable {prog:Program} {w:World} {A:Around} {E:Value->Shared->Prop} {s:Shared}
end
section
variable {X:Cx} {pos:Pos}
variable {i o value:Expr} {ty td tv:TE} {pos':Pos}
end
end L2
namespace L2
open PySem PySem.Spec PyProof.Rows PySem.W
section
variable {X:Cx} {o i l tg:Expr} {pos:Pos} {td ty tl:TE} {K:W.Frag} {w:World} {a:Addr} {kvs:List (Zi×V)}
end
section
variable {X:Cx}
end
end L2
namespace L2
open PySem PySem.Spec PyProof.Rows PySem.W PySem.SeqAt
section
variable {prog:Program} {w:World} {A:Around} {E:Value->Shared->Prop} {s:Shared}
end
noncomputable def Vj (ln co:Nat):Option Addr->Array Value
 |none=>#[]
 |some c'=>#[rawInt ln,rawInt co,.ref c']
noncomputable def Vm (P:Addr) (ln co:Nat) (oc:Option Addr):HO:=.ext fun h=>h.get? P=some (tabObj (Vj ln co oc))
noncomputable def Ub (c':Addr) (q:Str):HO:=.ext fun h=>h.CodeRec (.ref c') q
def LamH (P:Addr) (ln co:Nat) (q:Str) (H:Hp):Prop:=∃oc,H P=some (Vm P ln co oc)∧∀c',oc=some c'->H c'=some (Ub c' q)
noncomputable def noX:HO->Bool
 |.ext _=>false
 |_=>true
def SameX (H H':Hp):Prop:=∀b u,noX u=true->H b=some u->H' b=some u
theorem Same.x {H H':Hp} (s:Same H H'):SameX H H':=fun b u _ e=>s b u e
theorem SameX.trans {H H1 H2:Hp} (a:SameX H H1) (b:SameX H1 H2):SameX H H2:=fun c u n e=>b c u n (a c u n e)
theorem SameX.refl (H:Hp):SameX H H:=fun _ _ _ e=>e
theorem LamH.same {P:Addr} {ln co:Nat} {q:Str} {H H':Hp} (h:LamH P ln co q H) (s:Same H H'):LamH P ln co q H':=by
 obtain ⟨oc,h1,h2⟩:=h;exact ⟨oc,s _ _ h1,fun c' e=>s _ _ (h2 c' e)⟩
theorem SameX.sql {K:W.Frag} {H H':Hp} {a:Addr} {xs:List V} (s:SameX H H') (h:SqL K H a xs):SqL K H' a xs:=by
 rcases h with (h|⟨o,h⟩)|h
 ·exact .inl (.inl (s _ _ rfl h))
 ·exact .inl (.inr ⟨o,s _ _ rfl h⟩)
 ·exact .inr h
theorem SameX.sqt {K:W.Frag} {H H':Hp} {a:Addr} {xs:List V} (s:SameX H H') (h:SqT K H a xs):SqT K H' a xs:=by
 rcases h with (h|⟨o,h⟩)|h
 ·exact .inl (.inl (s _ _ rfl h))
 ·exact .inl (.inr ⟨o,s _ _ rfl h⟩)
 ·exact .inr h
structure LamB (base:Heap) (c P:Addr) (mg:Str->Option Value):Prop where
 hd:CodeHd base c P
 bm:∃bm ob,mg "__builtins__"=some (.ref bm)∧bm≠builtinsNs∧base.get? bm=some ob∧ob.cls=.type "module"∧ob.dict=some builtinsNs∧ob.data=.plain
section
variable {X:Cx} {pins:List (Addr×Obj)} {σ:St} {H:Hp} {s:Shared} {h':Heap}
theorem Zeo {P:Addr} {ln co:Nat} {oc:Option Addr} {pr:Program} {w:World} {h:Heap} (e:h.get? P=some (tabObj (Vj ln co oc))):ObjOk pr w H h P (Vm P ln co oc) :=
 ⟨e,⟨_,e⟩,fun h1 h2 p k=>k _ p⟩
theorem ZkM {c':Addr} {q:Str} {pr:Program} {w:World} {h:Heap} (e:h.CodeRec (.ref c') q):ObjOk pr w H h c' (Ub c' q):=by
 refine ⟨e,?_,fun h1 h2 p k=>?_⟩
 ·obtain ⟨c,oc,vs,t,e1,e2,_⟩:=e;cases e1;exact ⟨_,e2⟩
 ·obtain ⟨c,oc,vs,t,e1,e2,e3⟩:=p;cases e1;exact ⟨_,oc,vs,t,rfl,k _ e2,e3⟩
theorem Inv.grow {P c':Addr} {ln co:Nat} {q:Str} {t':Nat} (I:Inv X pins σ H s) (hP:H P=some (Vm P ln co none)) (hx:Heap.ExtBut P s.heap h') (hc:s.heap.objs.size≤c') (hr:h'.CodeRec (.ref c') q)
  (ht:h'.get? P=some (tabObj #[rawInt ln,rawInt co,.ref c'])):Inv X pins σ (Zb (Zb H P (Vm P ln co (some c'))) c' (Ub c' q)) { s with heap:=h',toks:=t' }:=by
 have nP:∀b u,H b=some u->(∀φ,u≠.ext φ)->b≠P:=fun b u e n z=>by subst z;rw [hP] at e;exact n _ (Qn e).symm
 have nc:∀b u,H b=some u->b≠c':=fun b u e z=>by subst z;exact absurd (Qz (I.hok.lt e) hc) (QS _)
 have ns:∀b o,s.heap.get? b=some o->b≠c':=fun b o e z=>by subst z;exact absurd (Qz (Qg e) hc) (QS _)
 have n0:∀b,H b=none->b≠P:=fun b e z=>by subst z;rw [hP] at e;cases e
 refine I.un ⟨fun b o e n _ _=>hx b o (n0 b n) e,fun b o e n _ _=>⟨o.slots,hx b o (n0 b n) e⟩,fun b o e n _=>?_,fun b o e _=>?_,fun b xs e=>?_,fun b o u e=>?_,fun b ps e=>?_⟩ fun b u e=>?_
 ·rw [Zd (ns b o e),Zd (n0 b n)];exact n
 ·by_cases z:b=P
  ·subst z;exact ⟨_,ht⟩
  ·exact ⟨o,hx b o z e⟩
 ·rw [Zd (nc b _ e),Zd (nP b _ e fun φ z=>by cases z)];exact e
 ·rw [Zd (nc b _ e),Zd (nP b _ e fun φ z=>by cases z)];exact e
 ·exact ⟨#[],by rw [Zd (nc b _ e),Zd (nP b _ e fun φ z=>by cases z),e];simp⟩
 ·by_cases z:b=c'
  ·subst z;rw [Zg] at e;cases e;exact ZkM hr
  rw [Zd z] at e;by_cases y:b=P
  ·subst y;rw [Zg] at e;cases e;exact Zeo (oc:=some c') ht
  rw [Zd y] at e;refine (I.hok b u e).stay (fun d v hd r=>hx d v ?_ r) (fun d r=>?_) fun d xs r=>?_
  ·rcases hd with rfl|hd
   ·exact y
   ·exact nP d _ hd fun φ z=>by cases z
  ·rw [Zd (nc d _ r),Zd (nP d _ r fun φ z=>by cases z)];exact r
  ·rw [Zd (nc d _ r),Zd (nP d _ r fun φ z=>by cases z)];exact r
end
section
variable {X:Cx} {e:Expr} {te:TE} {p pos kp lpos p1 p2 p3 p4:Pos} {x o q:Str} {params:Arguments} {scope:Scope} {c P cc:Addr} {i:Nat}
end
end L2
namespace L2
open PySem PySem.Spec PyProof.Rows PySem.W
def ZfI (K:W.Frag) (f c:Addr):Prop:=∃oc od fd osl,K.lookup f=some ⟨oc,od,.func fd,osl⟩∧fd.code=.ref c
theorem Fun.okL {P:Program} {w:World} {K:W.Frag} {mg:Str->Option Value} {base:Heap} {CX:Yu} {x qual:Str} {st:Stmt} {f c:Addr} {fd:FuncData} {N ps:List Str} {k:Nat} {sp:Sp} (hc:ZfI K f c) (F:Fun K x qual st f fd) (S:FnScope N ps (Zx st))
  (len:∀vs H Q E,sp vs H Q E->vs.length=ps.length)
  (hbody:∀(A:Around) (outer:List Env) (s:Shared) (H:Hp) (vs:List V) (Q:VK) (E:XK),Room k (A.deeper (envOfC qual (Zx st) s.heap.objs.size f (.ref c)))->sp vs H Q E →
   ∃t,PSs (We CX P w K mg base N qual (Zx st) f (.ref c) A outer s H E) (Y4 st) t∧t { nx:=fun _ H'=>Q .non H',rt:=Q } (start N vs) H):FnOk P w K mg base CX (k+1) f fd ps sp:=by
 obtain ⟨oc,od,kV,doc,pm,an,cdv,ct,osl,rfl,lk,hcd⟩:=F.ex;obtain ⟨oc2,od2,fd2,osl2,lk2,e⟩:=hc;rw [lk] at lk2;cases lk2;have e2:cdv=.ref c:=e;subst e2;exact Zd1 lk hcd S len fun A outer s H vs Q E hr hsp=>hbody A outer s H vs Q E hr hsp
theorem Zk2 {P:Program} {w:World} {K:W.Frag} {mg mb:Str->Option Value} {CX:Yu} {k ln co:Nat} {q:Str} {fa a cc tb:Addr} {fd:FuncData} {x:Str} {sp:Sp} {s₁:Shared} {vs:List Value} {ns:List Int}
  (KX:K.In s₁.heap) (hns:s₁.heap.Ns mainGlobals mg) (hb:s₁.heap.Ns builtinsNs mb) (hbb:∀x:Str,x≠"__name__"->mb x=bootBuiltins x) (hlim:s₁.heap.NoLimit) (hg:s₁.gens=#[])
  (ha:s₁.heap.get? a=some { cls:=.type "list",data:=.seq vs.toArray }) (hi:IntsAre vs ns) (hl:ns.length≤sizeLine) (hr:Room k callerA)
  (hC:CodeHd s₁.heap cc tb) (hT:s₁.heap.get? tb=some (tabObj #[])) (hKP:K.lookup tb=none)
  (hbm:∃bm ob,mg "__builtins__"=some (.ref bm)∧bm≠builtinsNs∧s₁.heap.get? bm=some ob∧ob.cls=.type "module"∧ob.dict=some builtinsNs∧ob.data=.plain)
  (F:∀base:Heap,K.In base->base.Ns mainGlobals mg->LamB base cc tb mg->FnOk P w K mg base CX k fa fd [x] sp) (hbind:∀(s:Shared) (u:Value),BindsTo s fd ⟨[u],[]⟩ [(x,u)])
  (hsp:∀H:Hp,LamH tb ln co q H->SqL K H a (ns.map V.int)->sp [.ref a] H (fun v H'=>v=.bl true∧LamH tb ln co q H') fun _ _ _=>False)
  (hCX:∀H e s',CX [] H s₁ (fun _ _ _=>False) e s'->False) :
  codeAny (model P w) callerA (.call (.ref fa) ⟨[.ref a],[]⟩) (fun r s'=>r=.ok (.ret (.bool true))∧OldK s₁.heap s'.heap∧s'.os=s₁.os∧AllBare s'.gens) s₁:=by
 have rv:=ZgG hi;have lenV:=hi.length
 have core : ∀H : Hp, H tb=some (Vm tb ln co none) → SqL K H a (ns.map V.int) → HOk P w H s₁.heap → (∀b, H b ≠ none → b=tb ∨ (b=a ∧ ∃o xs, H b=some (.frz o (.lst xs)))) → (H a ≠ none → K.lookup a=none) →
   codeAny (model P w) callerA (.call (.ref fa) ⟨[.ref a],[]⟩) (fun r s'=>r=.ok (.ret (.bool true))∧OldK s₁.heap s'.heap∧s'.os=s₁.os∧AllBare s'.gens) s₁:=by
  intro H hO hS hok hA hK;have base_of:∀{b:Addr} {o:Obj},s₁.heap.get? b=some o->H b=none->(Wg s₁.heap H).get? b=some o:=fun e n=>Zjo e n
  have noA:∀{b:Addr} {o:Obj},s₁.heap.get? b=some o->(∀its n,o.data≠.seq its n)->o.cls≠.none->H b=none:=fun {b o} e d hcl=>by
   cases q:H b with
   |none=>rfl
   |some u =>
    rcases hA b (by rw [q];simp) with e'|⟨e',_⟩
    ·subst e';rw [hT] at e;cases e;exact absurd rfl hcl
    ·subst e';rw [ha] at e;cases e;exact absurd rfl (d _ _)
  have noD:∀{b:Addr} {o:Obj} {es:Array DictEntry} {ep:Nat},s₁.heap.get? b=some o->o.data=.dict es ep->H b=none:=fun {b o es ep} e d=>by
   cases q:H b with
   |none=>rfl
   |some u =>
    rcases hA b (by rw [q];simp) with e'|⟨e',_⟩
    ·subst e';rw [hT] at e;cases e;cases d
    ·subst e';rw [ha] at e;cases e;have d':Data.seq vs.toArray _=Data.dict es ep:=d;cases d'
  have nsK:∀{b:Addr} {m:Str->Option Value},s₁.heap.Ns b m->(Wg s₁.heap H).Ns b m:=fun {b m} ⟨o,es,ep,e,d,r⟩=>⟨o,es,ep,base_of e (noD e d),d,r⟩
  have hKb:K.In (Wg s₁.heap H):=fun b o e=>base_of (KX b o e) (by
   cases q:H b with
   |none=>rfl
   |some u =>
    rcases hA b (by rw [q];simp) with e'|⟨e',_⟩
    ·subst e';rw [hKP] at e;cases e
    ·subst e';rw [hK (by rw [q];simp)] at e;cases e)
  have hM:Mod K mg (Wg s₁.heap H):=⟨hKb,nsK hns,⟨mb,nsK hb,hbb⟩,let ⟨mc,h1,h2⟩:=hlim;⟨mc,nsK h1,h2⟩⟩
  have hLB:LamB (Wg s₁.heap H) cc tb mg:=by
   obtain ⟨o,vs',file,tf,flags,tg,inF,text,tt,e1,e2,e3,r⟩:=hC;obtain ⟨bm,ob,b1,b2,b3,b4,b5,b6⟩:=hbm;exact ⟨⟨o,vs',file,tf,flags,tg,inF,text,tt,base_of e1 (noA e1 (fun its n z=>by rw [e3] at z;cases z) (by rw [e2];simp)),e2,e3,r⟩,bm,ob,b1,b2,base_of b3 (noA b3 (fun its n z=>by rw [b6] at z;cases z) (by rw [b4];simp)),b4,b5,b6⟩
  have e0:Env0 P w K mg (Wg s₁.heap H) callerA [] s₁ H:=⟨rfl,hM,fun b o e=>Zkd e,Nat.le_of_eq (ZjL _ _),trivial,fun b hb=>absurd (show b∈([]:List Addr) from hb) (by simp),hok,.of_eq hg⟩;refine RQ ((F _ hKb (nsK hns) hLB).run callerA [] s₁ H ⟨[.ref a],[]⟩ [.ref a] [.ref a] _ _ hr e0 (hbind s₁ (.ref a)) (.cons rfl .nil) (hsp H ⟨none,hO,fun _ z=>by cases z⟩ hS)) fun r s' h=>?_;cases r with
  |error e=>exact (hCX H e s' h).elim
  |ok fl =>
   cases fl with
   |next=>exact False.elim h
   |brk=>exact False.elim h
   |cont=>exact False.elim h
   |ret u =>
    obtain ⟨v,H',os,bare,un,hok',r',q⟩:=h;obtain ⟨q',oc,lp,_⟩:=q;subst q';obtain rfl:u=Value.bool true:=r';have tE:s'.heap.get? tb=some (tabObj (Vj ln co oc)):=(hok' tb _ lp).1
    have kept:∀b o,b≠tb->s₁.heap.get? b=some o->s'.heap.get? b=some o:=fun b o nb e=>by
     cases q:H b with
     |none=>exact un.keep b o e q (by intro z;exact absurd (show b∈([]:List Addr) from z) (by simp)) (by simp)
     |some u =>
      rcases hA b (by rw [q];simp) with z|⟨_,ob,xs,z⟩
      ·exact absurd z nb
      ·have z2:=un.frzs b ob _ z;obtain ⟨e1,_⟩:=hok b _ z;obtain ⟨e2,_⟩:=hok' b _ z2;rw [e] at e1;cases e1;exact e2
    refine ⟨rfl,⟨fun b o e=>?_,fun b o e=>?_⟩,os,bare⟩
    ·by_cases nb:b=tb
     ·subst nb;rw [hT] at e;cases e;exact .inr (.inl ⟨(hC.tab hT).isCodeTable,rfl,#[],Vj ln co oc,rfl,by rw [tE];simp⟩)
     ·exact .inl (kept b o nb e)
    ·by_cases nb:b=tb
     ·subst nb;exact ⟨_,tE⟩
     ·exact ⟨o,kept b o nb e⟩
 have nat:a≠tb:=fun z=>by subst z;rw [ha] at hT;cases hT
 have tOk:∀H:Hp,ObjOk P w H s₁.heap tb (Vm tb ln co none):=fun H=>Zeo (oc:=none) hT;cases hk:K.lookup a with
 |some o =>
  have e:=KX a o hk;rw [ha] at e;cases e;refine core (fun b=>if b=tb then some (Vm tb ln co none) else none) (Qc rfl) (.inr ⟨_,vs.toArray,_,hk,rfl,rfl,rfl,by rw [Qv,lenV];exact hl,by simpa using rv⟩) (fun b u z=>?_) (fun b z=>?_) (fun z=>absurd (Qa nat) z)
  ·by_cases hb:b=tb
   ·have z':=(Qc hb).symm.trans z;cases z';subst hb;exact tOk _
   ·have z':=(Qa hb).symm.trans z;cases z'
  ·by_cases hb:b=tb
   ·exact .inl hb
   ·exact absurd (Qa hb) z
 |none =>
  refine core (fun b=>if b=tb then some (Vm tb ln co none) else if b=a then some (.frz { cls:=.type "list",data:=.seq vs.toArray } (.lst (ns.map V.int))) else none) (Qc rfl) (.inl (.inr ⟨{ cls:=.type "list",data:=.seq vs.toArray },(Qa nat).trans (Qc rfl)⟩)) (fun b u z=>?_) (fun b z=>?_) fun _=>hk
  ·by_cases hb:b=tb
   ·have z':=(Qc hb).symm.trans z;cases z';subst hb;exact tOk _
   ·by_cases hba:b=a
    ·have z':=((Qa hb).trans (Qc hba)).symm.trans z;cases z';subst hba;exact ⟨ha,by rw [Qd];exact hl,vs,_,rv,ha⟩
    ·have z':=((Qa hb).trans (Qa hba)).symm.trans z;cases z'
  ·by_cases hb:b=tb
   ·exact .inl hb
   ·by_cases hba:b=a
    ·exact .inr ⟨hba,_,_,(Qa hb).trans (Qc hba)⟩
    ·exact absurd ((Qa hb).trans (Qa hba)) z
theorem walk_ofT {l:W.OpenLaw} {n k ln co:Nat} {qn nm:Str} {q:Program} {loose:List Str} {XP:(Str->Option Value)->Heap->Prop} {YP:World->Heap->Prop} {d dd:DefRec} {K:Params->W.Frag} {CX:World->Yu} {sp:World->Addr->Sp} {x:Str}
  (hn:l.most=some n) (hn2:n≤sizeLine) (hdf:d.params.defaults=[]) (hr:Room k callerA) (hrec:(recsOf q).find? (fun e=>e.name==nm)=some dd)
  (hY:∀(w:World) (h:Heap),YP w h->(K w.params).In h)
  (F:∀(w:World) (mg:Str->Option Value) (fa:Addr) (h:Heap),(K w.params).In h->h.Ns mainGlobals mg->mg d.name=some (.ref fa) →
   ∃(fd:FuncData) (cc tb:Addr),tabIn (K w.params) nm=some (cc,tb)∧(K w.params).lookup tb=none∧(∀(s:Shared) (u:Value),BindsTo s fd ⟨[u],[]⟩ [(x,u)]) ∧
    ∀base:Heap,(K w.params).In base->base.Ns mainGlobals mg->LamB base cc tb mg->FnOk l.prog w (K w.params) mg base (CX w) k fa fd [x] (sp w tb))
  (hsp:∀(w:World) (H:Hp) (a tb:Addr) (ns:List Int),ns.length≤n->LamH tb ln co qn H->SqL (K w.params) H a (ns.map V.int)->sp w tb [.ref a] H (fun v H'=>v=.bl true∧LamH tb ln co qn H') fun _ _ _=>False)
  (hCX:∀(w:World) (H:Hp) (s:Shared) (e:Value) (s':Shared),CX w [] H s (fun _ _ _=>False) e s'->False) :
  W.WalkO q loose XP YP l.row.toRowW d [] (fun f vs=>PySem.call f vs):=by
 refine Att.attach_call hn hdf fun w s₀ s₁ mg mb fa o pm cd doc a vs ns G Y ho hd hcd hmg hobj hints hlen hg=>?_;have KX:=hY w _ Y;obtain ⟨fd,cc,tb,ht,hK,hb,hF⟩:=F w mg fa _ KX G.T.g hmg;obtain ⟨h1,h2⟩:=tab_of G.T KX hrec ht;exact Zk2 (ln:=ln) (co:=co) (q:=qn) KX G.T.g G.T.b G.T.builtins G.T.nolimit hg hobj hints (Qo hlen hn2) hr h1 h2 hK G.T.bmain hF hb (fun H hO hS=>hsp w H a tb ns hlen hO hS) fun H e s'=>hCX w H s₁ e s'
theorem Zko {K:W.Frag} {nm:Str} {f cc tb:Addr} {oc oc2:Value} {od od2:Option Addr} {sl sl2:Array (Option Value)} {fd:FuncData} {vs:Array Value} (a:nsIn K mainGlobals nm=some (some (.ref f))) (l:K.lookup f=some ⟨oc,od,.func fd,sl⟩) (e:fd.code=.ref cc)
  (lc:K.lookup cc=some ⟨oc2,od2,.fields vs,sl2⟩) (v:vs[11]?=some (.ref tb)):tabIn K nm=some (cc,tb):=by
 unfold tabIn;rw [a];simp only;rw [l];simp only;rw [e];simp only;rw [lc];simp only;rw [v]
end L2
namespace L2
open PySem PySem.Spec PyProof.Rows
section
variable {X:Cx}
end
section
variable {X:Cx}
end
end L2
namespace L2
open PySem PySem.Spec PyProof.Rows PySem.W
noncomputable abbrev Fz (ob:Obj):HO:=.frz ob (.own 0)
noncomputable abbrev Vz (g o x y:Str) (p0 p1 p2 p3 p4:Pos):Expr:=.Call (.Name g p0) [.Name o p1,.Name x p2,.Name y p3] [] p4
structure LamOk2 (g o x y:Str) (params:Arguments) (scope:Scope) (body:Expr):Prop where
 bind:∀(qual:Str) (cl:List (Str×Addr)) (pm cd ct u v:Value),bindArgs (kla_fn "<lambda>" qual params body scope cl pm cd ct) ⟨[u,v],[]⟩=pure [(x,u),(y,v)]
 lx:scope.names.lookup x=some .local
 ly:scope.names.lookup y=some .local
 fre:scope.names.lookup o=some .free
 gl:scope.names.lookup g=some .globalImplicit
 kind:scope.kind=.function
 co:scope.isCoroutine=false
 gen:scope.isGenerator=false
 cell:∀z∈scope.names,z.2≠.cell
 xy:(x==y)=false
 db:(x==("__debug__" : Str))=false∧(y==("__debug__" : Str))=false∧(o==("__debug__" : Str))=false∧(o==("__classdict__" : Str))=false∧(g==("__debug__" : Str))=false
structure LamA (q:Str) (params:Arguments) (body:Expr) (scope:Scope) (o:Str) (f b:Addr) (H:Hp):Prop where
 ex:∃cc oc pm c' ctv,H f=some (Fz (kla_obj "<lambda>" q params body scope [(o,cc)] pm c' ctv))∧H c'=some (Ub c' q)∧H cc=some (Fz oc)∧oc.data=.cell (some (.ref b))
theorem LamA.same {q:Str} {params:Arguments} {body:Expr} {scope:Scope} {o:Str} {f b:Addr} {H H':Hp} (h:LamA q params body scope o f b H) (s:Same H H'):LamA q params body scope o f b H':=by
 obtain ⟨cc,oc,pm,c',ctv,h1,h2,h3,h4⟩:=h.ex;exact ⟨cc,oc,pm,c',ctv,s _ _ h1,s _ _ h2,s _ _ h3,h4⟩
theorem Zez {env:Env} {L:Addr} {st:List Env} {b:Addr} (h:env.frame=some L) (hb:b∈Yg (env::st)):b=L∨b∈Yg st:=by
 unfold Yg at hb;rw [QT,h] at hb;exact Qh.mp hb
theorem Un.back {env:Env} {L:Addr} {st:List Env} {H H':Hp} {h h1 h':Heap} (hf:env.frame=some L) (hL:L=h.objs.size) (k:∀b o,h.get? b=some o->h1.get? b=some o) (u:Un (Yg (env::st)) [] H H' h1 h'):Un (Yg st) [] H H' h h' where
 keep:=fun b o e n hb hx=>u.keep b o (k b o e) n (fun z=>by
  rcases Zez hf z with z|z
  ·rw [z,hL] at e;exact absurd (Qg e) (QS _)
  ·exact hb z) hx
 slot:=fun b o e n hb hx=>by
  by_cases z:b∈Yg (env::st)
  ·exact u.slot b o (k b o e) n z hx
  ·exact ⟨o.slots,u.keep b o (k b o e) n z hx⟩
 free:=fun b o e n hx=>u.free b o (k b o e) n hx
 there:=fun b o e hx=>u.there b o (k b o e) hx
 tups:=u.tups
 frzs:=u.frzs
 tbls:=u.tbls
section
variable {X:Cx}
theorem ZoR {CX:Yu} {k:Nat} {g o x y q:Str} {params:Arguments} {scope:Scope} {p0 p1 p2 p3 p4:Pos} {f b fg:Addr} {fdg:FuncData} {psg:List Str} {spg:Sp} {pins:List (Addr×Obj)} {σ:St} {H:Hp} {s:Shared} {Q:VK} {u1 u2:Value} {v1 v2:V}
  (ok:LamOk2 g o x y params scope (Vz g o x y p0 p1 p2 p3 p4)) (Fg:FnOk X.prog X.w X.K X.mg X.base CX k fg fdg psg spg) (hb:Binds X.K fdg psg []) (hm:X.mg g=some (.ref fg)) (hk:keepIn X.K (.ref fg)=true) (hr:Room (k+1) X.A) (hCX:∀st H s e s',CX st H s E0 e s'->False)
  (I:Inv X pins σ H s) (r1:RelV v1 u1) (r2:RelV v2 u2) (hL:LamA q params (Vz g o x y p0 p1 p2 p3 p4) scope o f b H) (h:spg [.ref b,v1,v2] H Q E0):wpAny (model X.prog X.w) X.A (call (.ref f) [u1,u2]) (EP X pins σ Q) X.xe s:=by
 obtain ⟨cc,oc,pm,c',ctv,h1,h2,h3,h4⟩:=hL.ex;have hf:s.heap.get? f=some (kla_obj "<lambda>" q params (Vz g o x y p0 p1 p2 p3 p4) scope [(o,cc)] pm c' ctv):=(I.hok f _ h1).1;have hcd:s.heap.CodeRec (.ref c') q:=(I.hok c' _ h2).1;have hcc:s.heap.get? cc=some oc:=(I.hok cc _ h3).1;refine RP ?_;refine kla_callFunE hr.depth hf rfl ok.co ok.gen rfl hcd ?_;rw [ok.bind];refine Qe (wpAny_newFunctionEnv ok.cell (fun z hz=>?_) (fun hh hns hsb=>⟨I.nolimit.fresh _ hsb,?_⟩) ok.kind)
 ·have:z=(x,u1)∨z=(y,u2):=by simpa using hz
  rcases this with rfl|rfl
  ·exact ok.lx
  ·exact ok.ly
 have kp:∀b o,s.heap.get? b=some o->hh.get? b=some o:=fun b o e=>hsb.extBut b o (Qt (Qg e)) (Qi _ e);show codeAny _ _ (.expr (Vz g o x y p0 p1 p2 p3 p4) (envX q scope s.heap.objs.size f (.ref c') [(o,cc)])) _ _;refine kla_codeExpr ?_
 have kg:(envX q scope s.heap.objs.size f (.ref c') [(o,cc)]).kindOf g=some .globalImplicit:=by
  first|exact ok.gl|(simp only [Env.kindOf];exact ok.gl)
 have ko:(envX q scope s.heap.objs.size f (.ref c') [(o,cc)]).kindOf o=some .free:=by
  first|exact ok.fre|(simp only [Env.kindOf];exact ok.fre)
 have kx:(envX q scope s.heap.objs.size f (.ref c') [(o,cc)]).kindOf x=some .local:=by
  first|exact ok.lx|(simp only [Env.kindOf];exact ok.lx)
 have ky:(envX q scope s.heap.objs.size f (.ref c') [(o,cc)]).kindOf y=some .local:=by
  first|exact ok.ly|(simp only [Env.kindOf];exact ok.ly)
 have hgl:hh.Ns mainGlobals X.mg:=I.mod.glob.keeps fun b o e=>kp b o (I.bk b o e)
 have lk1:([(x,u1),(y,u2)]:List (Str×Value)).reverse.lookup x=some u1:=by
  show ([(y,u2),(x,u1)]:List (Str×Value)).lookup x=some u1;rw [G9,ok.xy];simp
 have lk2:([(x,u1),(y,u2)]:List (Str×Value)).reverse.lookup y=some u2:=by
  show ([(y,u2),(x,u1)]:List (Str×Value)).lookup y=some u2;rw [G9];simp
 refine Q9 (GO ok.kind kg (Nv hgl hm ?_) ok.db.2.2.2.2);refine Gv (h₀:=X.base) I.ok.mod.kin hk ?_ rfl rfl;show wpAny _ _ (spliced ((false,eval (.Name o p1) (envX q scope s.heap.objs.size f (.ref c') [(o,cc)]))::(false,eval (.Name x p2) (envX q scope s.heap.objs.size f (.ref c') [(o,cc)]))::[(false,eval (.Name y p3) (envX q scope s.heap.objs.size f (.ref c') [(o,cc)]))])) _ _ _;refine Rx (Ga (wpAny_loadName_free ok.kind ko (by simp) ⟨oc,kp _ _ hcc,h4⟩ ?_ ok.db.2.2.2.1) ok.db.2.2.1);refine Rx (Ga (Nu (v:=u1) ok.kind kx hns lk1 ?_) ok.db.1);refine Rx (Ga (Nu (v:=u2) ok.kind ky hns lk2 (Gq ?_)) ok.db.2.1);have fr:(envX q scope s.heap.objs.size f (.ref c') [(o,cc)]).frame=some s.heap.objs.size:=rfl
 have e0:Env0 X.prog X.w X.K X.mg X.base (X.A.deeper (envX q scope s.heap.objs.size f (.ref c') [(o,cc)])) (envX q scope s.heap.objs.size f (.ref c') [(o,cc)]::X.stack) { s with heap:=hh,toks:=s.toks+[(x,u1),(y,u2)].length } H:=by
  have sz:s.heap.objs.size≤hh.objs.size:=QY hns.lt;refine ⟨Around.frames_deeper I.ok.frames,I.ok.mod,fun b o e=>⟨kp b o (I.bs b o e).1,(I.bs b o e).2⟩,Qo (Qo I.ok.bsz I.sz) sz,?_,fun b hb=>?_,I.hok.kept kp,I.bare⟩
  ·refine Heap.FunFrames.cons (by show scope.kind≠_;rw [ok.kind];decide) fr hns (Heap.get?_none_of_le (Qo I.ok.bsz I.sz)) ?_;exact I.stack.of_keeps fun b o e _=>⟨o,kp b o e,rfl⟩
  ·rcases Zez fr hb with z|z
   ·rw [z];exact I.hok.fresh (Qf _)
   ·exact I.stkFree b z
 refine ⟨I.ok.mod.kin.keeps fun b o e=>kp b o (I.bk b o e),RP (RQ (Fg.run _ _ _ H ⟨[.ref b,u1,u2],[]⟩ ([.ref b,u1,u2]++[]) [.ref b,v1,v2] Q E0 (hr.deeper _) e0 (hb _ _ (I.ok.mod.kin.keeps fun b o e=>kp b o (I.bk b o e)) (by rw [←Fg.len _ _ _ _ h];rfl)) (.cons rfl (.cons r1 (.cons r2 .nil))) h) fun r s' hq=>?_)⟩;cases r with
 |error e=>exact (hCX _ _ _ _ _ hq).elim
 |ok fl =>
  cases fl with
  |ret u =>
   obtain ⟨v,H',os,bare,un,hok,r,q⟩:=hq;exact I.after ⟨v,H',os,bare,un.back fr rfl kp,hok,r,q⟩
  |next=>exact False.elim hq
  |brk=>exact False.elim hq
  |cont=>exact False.elim hq
def ZjJ (q:Str) (params:Arguments) (body:Expr) (scope:Scope) (o:Str) (spg:Sp) (i:Nat) (t:TA):TE:=fun σ H Q=>∃f,σ[i]?=some (some (.ref f))∧t σ H fun vs H1=>∃v1 v2 b,vs=[v1,v2]∧LamA q params body scope o f b H1∧spg [.ref b,v1,v2] H1 Q E0
theorem ZnM {CX:Yu} {k i:Nat} {g o x y q nm:Str} {params:Arguments} {scope:Scope} {p0 p1 p2 p3 p4 p pos:Pos} {fg:Addr} {fdg:FuncData} {psg:List Str} {spg:Sp} {e1 e2:Expr} {t:TA}
  (ok:LamOk2 g o x y params scope (Vz g o x y p0 p1 p2 p3 p4)) (Fg:FnOk X.prog X.w X.K X.mg X.base CX k fg fdg psg spg) (hb:Binds X.K fdg psg []) (hm:X.mg g=some (.ref fg)) (hk:keepIn X.K (.ref fg)=true) (hr:Room (k+1) X.A) (hCX:∀st H s e s',CX st H s E0 e s'->False)
  (hN:X.N[i]?=some nm) (hv:JH X.env.scope nm) (ha:PA X [e1,e2] t) (hd:(nm==("__debug__" : Str))=false:=by decide) (hcd:(nm==("__classdict__" : Str))=false:=by decide)
  (he:starEach [e1,e2] X.env=(false,eval e1 X.env)::starEach [e2] X.env:=by rfl) (hpl:(backTo pos (starEach [e2] X.env)).any (·.1)=false:=by rfl) :
  PE X (.Call (.Name nm p) [e1,e2] [] pos) (ZjJ q params (Vz g o x y p0 p1 p2 p3 p4) scope o spg i t):=by
 intro pins s σ H Q I h;obtain ⟨f,hσ,h⟩:=h;refine Q9 (Zr (Zcf hN hv hd hcd pins s σ H (fun v H'=>v=.ref f∧H'=H) I ⟨_,hσ,rfl,rfl⟩) fun u s1 ⟨v,H1,I1,r1,e2,e3⟩=>?_);subst e2 e3;cases (show u=Value.ref f from r1);have hA:=ha pos pins s1 σ H1 _ I1 h;rw [he] at hA ⊢;refine callWith_of (P:=fun hh=>∃fd:FuncData,hh.get? f=some { cls:=.type "function",data:=.func fd }) (by show ((false||(backTo pos (starEach [e2] X.env)).any (·.1))||false)=false;rw [hpl];rfl) (fun hh ⟨fd,e⟩=>⟨.frame,.inl rfl,(Looks.ld (part:=none) e).andThen .now⟩) (Gs (Zr hA fun us s2 ⟨vs,H2,I2,r2,q2⟩=>?_));obtain ⟨v1,v2,b,rfl,hL,hsp⟩:=q2;obtain ⟨u1,u2,rfl,ra,rb⟩:=Vx r2;refine ⟨?_,ZoR ok Fg hb hm hk hr hCX I2 ra rb hL hsp⟩;obtain ⟨cc,oc,pm,c',ctv,h1,_⟩:=hL.ex;exact ⟨_,(I2.hok f _ h1).1⟩
def ZmQ (P:Addr) (ln co:Nat) (q:Str) (params:Arguments) (body:Expr) (scope:Scope) (o:Str) (cc:Addr):TE:=fun σ H Q=>LamH P ln co q H∧∀H2 f pm c' ctv,SameX H H2->LamH P ln co q H2->H f=none->H2 f=some (Fz (kla_obj "<lambda>" q params body scope [(o,cc)] pm c' ctv))->H2 c'=some (Ub c' q)->(∀D,H2 D=none->H D=none)->Q (.ref f) H2
theorem ZeL {P:Program} {w:World} {H:Hp} {h:Heap} {a:Addr} {ob:Obj} (e:h.get? a=some ob):ObjOk P w H h a (Fz ob):=⟨e,ob,e⟩
theorem Zm9 {c P cc:Addr} {o q:Str} {params:Arguments} {body:Expr} {scope:Scope} {lpos:Pos} (B:LamB X.base c P X.mg) (hcode:X.env.code=.ref c) (hcl:closureFor scope X.env=pure [(o,cc)]) (hq:X.env.qual++"<lambda>"=q) (hdef:defaultsOf params X.env=([],[])) :
  PE X (.Lambda params body scope lpos) (ZmQ P lpos.line lpos.col q params body scope o cc):=by
 intro pins s σ H Q I h;obtain ⟨lam,h⟩:=h;refine kla_eval hdef ?_;rw [hq];have hgl:s.heap.Ns mainGlobals X.mg:=I.mod.glob.keeps I.bk;obtain ⟨bm,ob,b1,b2,b3,b4,b5,b6⟩:=B.bm;obtain ⟨oc,hP,hC⟩:=lam;have tabP:s.heap.get? P=some (tabObj (Vj lpos.line lpos.col oc)):=(I.hok P _ hP).1
 have hgP:mainGlobals≠P:=fun z=>by
  obtain ⟨o1,es,ep,e1,hd,_⟩:=hgl;rw [z,tabP] at e1;cases e1;cases hd
 have hbP:bm≠P:=fun z=>by
  have e1:=I.bk _ _ b3;rw [z,tabP] at e1;cases e1;cases b4
 have hbG:bm≠mainGlobals:=fun z=>by
  obtain ⟨o1,es,ep,e1,hd,_⟩:=hgl;have e2:=I.bk _ _ b3;rw [z,e1] at e2;cases e2;rw [hd] at b6;cases b6
 have hBA:s.heap.BuiltinsAt X.mg P:=⟨bm,ob,b1,b2,hbG,hbP,I.bk _ _ b3,b4,b5,b6⟩;have CH:CodeHd s.heap c P:=B.hd.keeps I.bk
 have fin : ∀(h3 : Heap) (tk : Nat) (H2 : Hp) (c' : Addr) (ctv : Value), Inv X pins σ H2 { s with heap := h3, toks := tk } → H2 c'=some (Ub c' q) → SameX H H2 → LamH P lpos.line lpos.col q H2 → (∀D, H2 D=none → H D=none) →
   EP X pins σ Q (.ref h3.objs.size) { s with heap:=h3.push (kla_obj "<lambda>" q params body scope [(o,cc)] ((X.mg "__name__").getD .none) c' ctv),toks:=tk }:=by
  intro h3 tk H2 c' ctv I3 hc' sx lm fr;have nf:H2 h3.objs.size=none:=I3.hok.fresh (Qf _);have I4:=I3.laid (t':=tk) (h':=h3.push (kla_obj "<lambda>" q params body scope [(o,cc)] ((X.mg "__name__").getD .none) c' ctv)) (a:=h3.objs.size) (o:=Fz (kla_obj "<lambda>" q params body scope [(o,cc)] ((X.mg "__name__").getD .none) c' ctv)) (fun b o e=>Qi _ e) (Qf _) (ZeL (Ql _ rfl));refine ⟨.ref h3.objs.size,_,I4,rfl,h _ h3.objs.size _ c' ctv (sx.trans (Zk nf).x) (lm.same (Zk nf)) (fr _ nf) Zg ?_ fun D hD=>?_⟩
  ·rw [Zd (ZO hc' nf)];exact hc'
  ·by_cases z:D=h3.objs.size
   ·rw [z,Zg] at hD;cases hD
   ·rw [Zd z] at hD;exact fr D hD
 cases oc with
 |none =>
  refine kla_makeFunction (mg:=X.mg) hcl I.ok.glob hgl hcode CH tabP True.intro rfl hgP hBA fun c' ctv h' tk hx hge hlt hrec htb=>?_;have I2:=I.grow (t':=tk) hP hx hge hrec (by simpa [Vj] using htb);refine fin h' tk _ c' ctv I2 Zg ?_ ?_ ?_
  ·intro b u hu e1;have n1:b≠P:=fun z=>by subst z;rw [hP] at e1;cases e1;cases hu
   rw [Zd (fun z=>by subst z;exact absurd (Qz (I.hok.lt e1) hge) (QS _)),Zd n1];exact e1
  ·refine ⟨some c',?_,fun c2 e2=>?_⟩
   ·rw [Zd (fun z=>by subst z;exact absurd (Qz (I.hok.lt hP) hge) (QS _)),Zg]
   ·cases e2;exact Zg
  ·intro D hD;cases r:H D with
   |none=>rfl
   |some u =>
    exfalso;have n2:D≠c':=fun z=>by subst z;exact absurd (Qz (I.hok.lt r) hge) (QS _)
    rw [Zd n2] at hD;by_cases n1:D=P
    ·subst n1;rw [Zg] at hD;cases hD
    ·rw [Zd n1,r] at hD;cases hD
 |some c' =>
  have hc':=hC c' rfl;refine kla_makeFunctionHit (mg:=X.mg) hcl I.ok.glob hgl hcode CH tabP (by simp [Vj,TriplesOk,rawInt]) (cv:=.ref c') (by simp [Vj,codeAmong,rawInt]) hBA fun ctv h' tk hk hsz=>?_;have I2:=I.kept (t':=tk) hk;exact fin h' tk H c' ctv I2 hc' (SameX.refl _) ⟨some c',hP,hC⟩ fun _ z=>z
noncomputable def V5 (H:Hp) (a:Addr):Hp:=fun b=>if b=a then none else H b
theorem WE {H:Hp} {a b:Addr} (h:b≠a):V5 H a b=H b:=Qa h
theorem ZeU {H:Hp} {a:Addr}:V5 H a a=none:=Qc rfl
def Zm6 (sp:Sp) (i:Nat) (cc:Addr) (t:TA):TE:=fun σ H Q=>t σ H fun vs H1=>∃b,σ[i]?=some (some (.ref b))∧∀oc:Obj,H1 cc=none->oc.data=.cell (some (.ref b))->sp vs (Zb H1 cc (Fz oc)) (fun v H2=>Q v (V5 H2 cc)) E0
theorem ZjU {CX:Yu} {k i:Nat} {x o:Str} {f cc:Addr} {fd:FuncData} {ps:List Str} {sp:Sp} {p pos:Pos} {e:Expr} {es:List Expr} {t:TA} (F:FnOk X.prog X.w X.K X.mg X.base CX k f fd ps sp) (hr:Room k X.A) (hg:Gl X x) (hm:X.mg x=some (.ref f)) (hk:W.keepIn X.K (.ref f)=true) (hb:Binds X.K fd ps []) (hCX:∀st H s e s',CX st H s E0 e s'->False)
  (hN:X.N[i]?=some o) (hck:X.env.kindOf o=some .cell) (hvis:X.env.scope.names.lookup o=some .cell) (hcc:X.env.cells.lookup o=some cc) (hfn:X.fn o=true)
  (ha:PA X (e::es) t) (hdb:(x==("__debug__" : Str))=false:=by decide) (he:starEach (e::es) X.env=(false,eval e X.env)::starEach es X.env:=by rfl) (hpl:(backTo pos (starEach es X.env)).any (·.1)=false:=by rfl) :
  PE X (.Call (.Name x p) (e::es) [] pos) (Zm6 sp i cc t):=by
 intro pins s σ H Q I h;refine Q9 (U3 I hg hm ?_ hdb);refine Gv (h₀:=X.base) I.ok.mod.kin hk (Zr (ha pos pins s σ H _ I h) fun us s1 ⟨vs,H1,I1,r,b,hσ,q⟩=>⟨I1.kIn,?_⟩) he hpl;obtain ⟨m,hn,hl2⟩:=I1.loc;obtain ⟨u,ru,lk⟩:=hl2 i o (.ref b) hN hσ (.inr (.inl hvis));cases (show u=Value.ref b from ru)
 have hcell:s1.heap.IsCell cc (some (.ref b)):=by
  rcases lk with ⟨z,_⟩|⟨_,c2,e2,e3⟩
  ·rw [hck] at z;cases z
  ·rw [hcc] at e2;cases e2;exact e3
 obtain ⟨oc,hoc,hdc⟩:=hcell;have hno:H1 cc=none:=I1.freeC o cc hcc;have hsp:=q oc hno hdc;have e0:=I1.env0;have hL:(us++[]).length=ps.length:=by rw [Qs,←r.length];exact F.len _ _ _ _ hsp
 have nstk:cc∉Yg X.stack:=fun hb=>by
  rcases Qh.mp (I1.stkSub cc hb) with z|z
  ·exact I1.cne o cc hcc z
  ·obtain ⟨_,o1,ho,_⟩:=I1.ok.funs.mem z;exact absurd (Qz (Qg ho) (I1.ok.cab o cc hfn hcc)) (QS _)
 have e1:Env0 X.prog X.w X.K X.mg X.base X.A X.stack s1 (Zb H1 cc (Fz oc)):=by
  refine ⟨e0.frames,e0.mod,fun d o' e=>⟨(e0.bs d o' e).1,?_⟩,e0.bsz,e0.funs,fun d hd=>?_,fun d u' e=>?_,e0.bare⟩
  ·have:d≠cc:=fun z=>by
    subst z;exact absurd (Qz (Qg (I1.ok.bs _ _ e).1) (I1.ok.cab o _ hfn hcc)) (QS _)
   rw [Zd this];exact (e0.bs d o' e).2
  ·have nd:d≠cc:=fun z=>nstk (by rw [←z];exact hd);rw [Zd nd];exact e0.frf d hd
  ·by_cases z:d=cc
   ·subst z;rw [Zg] at e;cases e;exact ZeL hoc
   ·rw [Zd z] at e;refine (I1.hok d u' e).stay (fun _ _ _ r=>r) (fun d' r=>?_) fun d' xs r=>?_
    ·rw [Zd (ZO r hno)];exact r
    ·rw [Zd (ZO r hno)];exact r
 refine RP (RQ (F.run X.A X.stack s1 _ ⟨us,[]⟩ (us++[]) vs _ E0 hr e1 (hb s1 us I1.kIn hL) (by rw [Qs];exact r) hsp) fun rr s' hq=>?_);cases rr with
 |error e=>exact (hCX _ _ _ _ _ hq).elim
 |ok fl =>
  cases fl with
  |ret u =>
   obtain ⟨v,H',os,bare,un,hok,r,q⟩:=hq;have hz:H' cc=some (Fz oc):=un.frzs cc oc _ Zg;have hoc':s'.heap.get? cc=some oc:=(hok cc _ hz).1;refine I1.after ⟨v,V5 H' cc,os,bare,?_,?_,r,q⟩
   ·refine ⟨fun d o' e n hb hx=>?_,fun d o' e n hb hx=>?_,fun d o' e n hx=>?_,fun d o' e hx=>un.there d o' e hx,fun d xs e=>?_,fun d o' u' e=>?_,fun d ps e=>?_⟩
    ·by_cases z:d=cc
     ·subst z;rw [hoc] at e;cases e;exact hoc'
     ·exact un.keep d o' e (by rw [Zd z];exact n) hb hx
    ·by_cases z:d=cc
     ·subst z;rw [hoc] at e;cases e;exact ⟨oc.slots,hoc'⟩
     ·exact un.slot d o' e (by rw [Zd z];exact n) hb hx
    ·by_cases z:d=cc
     ·subst z;exact ZeU
     ·rw [WE z];exact un.free d o' e (by rw [Zd z];exact n) hx
    ·have z:=ZO e hno;rw [WE z];exact un.tups d xs (by rw [Zd z];exact e)
    ·have z:=ZO e hno;rw [WE z];exact un.frzs d o' u' (by rw [Zd z];exact e)
    ·have z:=ZO e hno;obtain ⟨more,e2⟩:=un.tbls d ps (by rw [Zd z];exact e);exact ⟨more,by rw [WE z];exact e2⟩
   ·intro d u' e;by_cases z:d=cc
    ·subst z;rw [ZeU] at e;cases e
    ·rw [WE z] at e;refine (hok d u' e).stay (fun _ _ _ r=>r) (fun d' r=>?_) fun d' xs r=>?_
     ·rw [WE fun y=>by subst y;rw [hz] at r;cases r];exact r
     ·rw [WE fun y=>by subst y;rw [hz] at r;cases r];exact r
  |next=>exact False.elim hq
  |brk=>exact False.elim hq
  |cont=>exact False.elim hq
end
end L2
namespace L2
open PySem PySem.Spec PyProof.Rows PySem.W SA
section
variable {prog:Program} {w:World} {A:Around} {E:Value->Shared->Prop} {s:Shared}
theorem Zh8 {d:Addr} {es:Array DictEntry} {ep:Nat} {Q:Value->Shared->Prop} (hm:(d==sysModules)=false) (hd:VY s.heap d es ep)
  (q:Q (.ref s.heap.objs.size) { s with heap:=s.heap.push { cls:=.type "dict_keyiterator",data:=.fields #[.ref d,.int 0 0,.int es.size 0,.int ep 0] } }):wpAny (model prog w) A (pyIter (.ref d)) Q E s:=by
 obtain ⟨od,d1,d2,d3⟩:=hd;have ty:s.TypeIs (.ref d) "dict":=⟨od,d1,d2⟩;refine Nb ty F.slot_dict_iter (QQ F.slot_dict_iter ty F.entry_dict_iter ?_ (F.args_dict_iter_1 _))
 delta Builtin.«dict.__iter__»
 refine Qb ?_
 delta Builtin.Dict.dictSlotNone
 refine Qb (NM ty ?_);show wpAny _ A.in1 (pure (Value.ref d)) _ _ s;refine Qe ?_;show wpAny _ A.in1 (Builtin.Dict.showsAll d >>= _) _ _ s
 delta Builtin.Dict.showsAll
 rw [Qa (by rw [hm];simp)];refine Qb (Qe (Qb (RW d1 d3 (Qb (Gj d1 d3 ?_)))));refine Qb (QM (Qe ⟨_,rfl,"dict_keyiterator",_,⟨_,Ql _ rfl,rfl⟩,GI.lookup,?_⟩));simpa [rawInt] using q
theorem JY {j:Addr} {Q:String->Shared->Prop} (hT:s.TypeIs (.ref j) "dict_keyiterator") (h:Q "dict_keyiterator" s):wpAny (model prog w) A (typeNameOfWhole (.ref j)) Q E s:=wpAny_typeNameOfWhole_keyiter hT h
theorem Zh3 {j d:Addr} {i ep:Nat} {es:Array DictEntry} {e:DictEntry} {Q:Option Value->Shared->Prop} (hit:s.heap.IsKeyIter j d i es.size ep) (hd:VY s.heap d es ep) (he:es[i]?=some e)
  (q:∀h',h'.IsKeyIter j d (i+1) es.size ep->Heap.SameBut j s.heap h'->Q (some e.key) { s with heap:=h' }):wpAny (model prog w) A (pyNext (.ref j)) Q E s:=by
 have ty:=hit.typeIs;obtain ⟨o,o1,o2,o3⟩:=id hit;obtain ⟨od,d1,d2,d3⟩:=hd;have own:Builtin.Dict_items.ownsTuple "dict_keyiterator"=false:=by decide
 have hj:i<es.size:=by
  rcases Nat.lt_or_ge i es.size with h|h
  ·exact h
  ·rw [GE h] at he;cases he
 have hv:es[i].key=e.key:=by rw [getElem?_pos es i hj] at he;injection he with z;rw [z]
 delta pyNext
 refine Qb (Rn (Q7 (name:=Str.ofString "__next__") ty GI (QQ GI ty N3 ?_ (N4 _))));refine Qb (Qe (Qb (Qb (Qb (JY ty (Qe (Qb (Nh o1 o3 ?_))))))));simp only [own,Bool.false_eq_true,QV];have nn:(Value.ref d==Value.none)=false:=rfl;show wpAny _ A.in1 (if (Value.ref d==Value.none)=true then _ else _) _ _ s;rw [nn,Qa QA];refine Qb (Qe (Qb (RW d1 d3 ?_)));rw [Qa (by simp)];refine Qb (Qe (Qb (Gj d1 d3 ?_)));rw [Qa (by simp)];refine Qe ?_;simp only [show ¬((i:Int)<0) from by omega,QV,RT,N5 hj];refine Qb (Qb (JY ty (Qe (Qb (wpAny_isOneOf_keyiter ty ?_)))));show wpAny _ A.in1 (setField (.ref j) 1 (rawInt ((i:Int)+1)) >>= _) _ _ s;obtain ⟨h',eh⟩:∃z,z=s.heap.update j (Obj.mapFields (·.setIfInBounds 1 (rawInt ((i:Int)+1)))):=⟨_,rfl⟩;refine Qb (Gy o1 o3 (by simp) ?_);rw [←eh]
 have hit':h'.IsKeyIter j d (i+1) es.size ep:=by
  rw [eh];exact ⟨_,GZ _ o1 (Obj.isFreed_of_fields (G6 o3 _)),(Obj.cls_mapFields ..).trans o2,by rw [G6 o3];simp [rawInt]⟩
 have ty':({ s with heap:=h' }:Shared).TypeIs (.ref j) "dict_keyiterator":=Heap.IsKeyIter.typeIs (s:={ s with heap:=h' }) hit';refine Qb (Rz (Qb (wpAny_isOneOf_keyiter ty' ?_)));show wpAny _ A.in1 (pure es[i].key) _ _ _;rw [hv];exact Qe (Qe ⟨_,rfl,Qe (q _ hit' (by rw [eh];exact RC ..))⟩)
theorem ZmA {j d:Addr} {i ep:Nat} {es:Array DictEntry} {Q:Option Value->Shared->Prop} (hh:A.handled=none) (hit:s.heap.IsKeyIter j d i es.size ep) (hd:VY s.heap d es ep) (he:es.size≤i)
  (q:∀h',Heap.ExtBut j s.heap h'->Q none { s with heap:=h' }):wpAny (model prog w) A (pyNext (.ref j)) Q E s:=by
 have ty:=hit.typeIs;obtain ⟨o,o1,o2,o3⟩:=id hit;obtain ⟨od,d1,d2,d3⟩:=hd;have own:Builtin.Dict_items.ownsTuple "dict_keyiterator"=false:=by decide
 delta pyNext
 refine Qb (Rn (Q7 (name:=Str.ofString "__next__") ty GI (QQ GI ty N3 ?_ (N4 _))));refine Qb (Qe (Qb (Qb (Qb (JY ty (Qe (Qb (Nh o1 o3 ?_))))))));simp only [own,Bool.false_eq_true,QV];have nn:(Value.ref d==Value.none)=false:=rfl;show wpAny _ A.in1 (if (Value.ref d==Value.none)=true then _ else _) _ _ s;rw [nn,Qa QA];refine Qb (Qe (Qb (RW d1 d3 ?_)));rw [Qa (by simp)];refine Qb (Qe (Qb (Gj d1 d3 ?_)));rw [Qa (by simp)];refine Qe ?_;simp only [show ¬((i:Int)<0) from by omega,QV,RT,GE he];refine Qb (Qb (JY ty (Qe ?_)));show wpAny _ A.in1 (setField (.ref j) 0 .none >>= _) _ _ s;refine Qb (Gy o1 o3 (by simp) ?_);show wpAny _ A.in1 (newExc (.type "StopIteration") [] >>= _) _ _ _;refine Qb ?_;simp only [newExc,newTuple];refine Qb (QM (Qb (m:=firstArgMember _ _) (QL (a:=Value.none) (by first|rfl|(simp only [firstArgMember];rfl)) (QM ?_ (by size_fits)))) (by size_fits));simp only [raiseNew];refine Qb (Gz ?_);rw [show A.in1.handled=none from hh];refine Qb (Qe (GA ?_));refine Qb (RV (b:=true) (T:="StopIteration") ⟨_,Ql _ rfl,rfl⟩ GC ?_);exact Qe (q _ (((RC ..).extBut.push _).push _))
end
theorem Zdv {H:Hp}:∀{kvs:List (List Zi×V)} {xs:List (List Zi×Addr×Value)},KT H kvs xs->∀(i:Nat) (p:List Zi×V),kvs[i]?=some p->∃x,xs[i]?=some x∧H x.2.1=some (.tup (p.1.map kV))∧RelV p.2 x.2.2
 |[],_,r,i,p,e=>by cases e
 |q::kvs,_,r,i,p,e=>by
  cases r with
  |@cons _ y _ _ h t =>
   cases i with
   |zero =>
    cases (show some q=some p from e);exact ⟨y,rfl,h.2.1,h.2.2⟩
   |succ i =>
    rw [R6] at e;obtain ⟨x,hx⟩:=Zdv t i p e;exact ⟨x,by rw [R6];exact hx.1,hx.2⟩
noncomputable def Zhq (d:Addr) (o:Obj) (kvs:List (List Zi×V)):It where
 go:=fun i H=>H d=some (.frz o (.dT kvs))∧i<kvs.length
 stop:=fun i H=>H d=some (.frz o (.dT kvs))∧kvs.length≤i
 yld:=fun i H x H'=>H'=H∧∃c p,kvs[i]?=some p∧x=.ref c∧H c=some (.tup (p.1.map kV))
theorem Zn8 {P:Program} {w:World} {K:W.Frag} {tg:Expr} (d j:Addr) (o:Obj) (kvs:List (List Zi×V)) (es:Array DictEntry) (ep:Nat) (ho:o.data=.dict es ep) (hc:o.cls=.type "dict") (hz:es.size=kvs.length):Turn P w K tg (Zhq d o kvs) [j] j (fun i h=>h.IsKeyIter j d i es.size ep) where
 mem:=by simp
 obj:=fun i h st b hb=>by
  have e:b=j:=by simpa using hb
  subst e;obtain ⟨o,e,c,d⟩:=st;exact ⟨o,e,fun v z=>by rw [d] at z;cases z⟩
 keep:=fun i h h' st k=>by
  obtain ⟨o,e,c⟩:=st;exact ⟨o,k j (by simp) o e,c⟩
 item:=by
  intro X hP hw hK hcalm i pins s σ H E I hf st hg;subst hP hw hK;obtain ⟨hq,hi⟩:=hg;obtain ⟨g1,g2⟩:=(show s.heap.get? d=some o∧ObjOk X.prog X.w H s.heap d (.dT kvs) from I.hok d _ hq);obtain ⟨z,hd,xs,rel,o2,es2,ep2,h1,h2,h3,h4,h5⟩:=WK I.hok (.inr ⟨o,hq⟩);rw [g1] at h1;cases h1;rw [ho] at h3;cases h3;obtain ⟨x,hx,hxt,rx⟩:=Zdv rel i kvs[i] (Qx hi)
  have hen:∃en,es[i]?=some en∧en.key=.ref x.2.1:=by
   have e1:es.toList[i]?=es[i]?:=GG ..;rw [h4,Qw,hx] at e1;exact ⟨_,e1.symm,rfl⟩
  obtain ⟨en,hen,ev⟩:=hen;obtain ⟨f0,f1,f2,f3,f4,f5⟩:=hf j (by simp);refine Zh3 st ⟨o,g1,hc,ho⟩ hen fun h' st' sb=>?_;have I1:Inv X pins σ H { s with heap:=h' }:=I.turned (t':=s.toks) (fun b o hb e=>(sb.2 b hb).trans e) f0 f1 f3 f4 f5;obtain ⟨o3,e3,c3,d3⟩:=id st';exact ⟨en.key,rfl,Vr (s:={ s with heap:=h' }) e3 c3 d3 (by decide) ⟨.ref x.2.1,H,I1,by rw [ev];rfl,⟨rfl,x.2.1,_,Qx hi,rfl,hxt⟩,st',fun b hb=>(hf b hb).1⟩⟩
 done:=by
  intro X hP hw hK hcalm i pins s σ H E I hf st hg;subst hP hw hK;obtain ⟨hq,hi⟩:=hg;obtain ⟨g1,g2⟩:=(show s.heap.get? d=some o∧ObjOk X.prog X.w H s.heap d (.dT kvs) from I.hok d _ hq);obtain ⟨f0,f1,f2,f3,f4,f5⟩:=hf j (by simp);exact ZmA (I.ok.hd hcalm) st ⟨o,g1,hc,ho⟩ (by omega) fun h' eb=>⟨rfl,I.turned (t':=s.toks) (fun b o hb e=>eb b o hb e) f0 f1 f3 f4 f5⟩
 self:=fun _ _ _ _ _ st h=>wpAny_pyIter_keyiter st h
theorem Inv.freezeT {X:Cx} {pins:List (Addr×Obj)} {σ:St} {H:Hp} {s:Shared} {a:Addr} {kvs:List (List Zi×V)} (I:Inv X pins σ H s) (ha:H a=some (.dT kvs)):∃o es ep,s.heap.get? a=some o∧o.cls=.type "dict"∧o.data=.dict es ep∧es.size=kvs.length∧(a==sysModules)=false∧Inv X pins σ (Zb H a (.frz o (.dT kvs))) s:=by
 obtain ⟨z,hd,xs,rel,o,es,ep,h1,h2,h3,h4,h5⟩:=Jc I.hok ha;have hes:es.size=kvs.length:=by rw [←RL,h4,Qd];exact rel.length.symm
 have fz:∀{c:Addr} {u:HO},ObjOk X.prog X.w H s.heap c u->ObjOk X.prog X.w (Zb H a (.frz o (.dT kvs))) s.heap c u:=fun x=>by
  refine x.stay (fun c v hc qe=>qe) (fun c qe=>?_) fun c ys qe=>?_
  ·rw [Zd (fun z=>by subst z;rw [ha] at qe;cases qe)];exact qe
  ·rw [Zd (fun z=>by subst z;rw [ha] at qe;cases qe)];exact qe
 exact ⟨o,es,ep,h1,h2.1,h3,hes,hd,I.write (x:=a) (e:=a) (o:=.frz o (.dT kvs)) (h':=s.heap) (t':=s.toks) (by rw [ha];exact True.intro) (.inl rfl) (fun b u _ e=>e) ⟨o,h1⟩ ⟨h1,fz (show ObjOk X.prog X.w H s.heap a (.dT kvs) from I.hok a _ ha)⟩⟩
def Zjw (tl:TE):TI:=fun σ H R=>tl σ H fun x H1=>∃a kvs,x=.ref a∧H1 a=some (.dT kvs)∧∀o,R (Zhq a o kvs) (Zb H1 a (.frz o (.dT kvs)))
theorem ZnV {X:Cx} {tg l:Expr} {tl:TE} (hl:PE X l tl):PI X tg l (Zjw tl):=by
 intro pins s σ H R I h;refine Zr (hl pins s σ H _ I h) fun v s1 ⟨x,H1,I1,r1,q1⟩=>?_;obtain ⟨a,kvs,e,ha,q⟩:=q1;subst e;cases r1;obtain ⟨o,es,ep,h1,h2,h3,hes,hd,If⟩:=I1.freezeT ha;refine Zh8 hd ⟨o,h1,h2,h3⟩ ?_;refine ⟨s1.heap.objs.size,[s1.heap.objs.size],_,_,_,rfl,If.kept (t':=s1.toks) fun b o e=>Qi _ e,Zn8 a _ o kvs es ep h3 h2 hes,⟨_,Ql _ rfl,rfl,rfl⟩,fun b hb=>?_,q o⟩;have e:b=s1.heap.objs.size:=by simpa using hb
 subst e;exact If.fpOk (Qf _) (If.hok.fresh (Qf _))
def UA (r a:Addr) (h:Heap):Prop:=h.IsItemsView r a
section
variable {prog:Program} {w:World} {A:Around} {E:Value->Shared->Prop} {s:Shared}
theorem Zl6 {v d:Addr} {es:Array DictEntry} {ep:Nat} {Q:Value->Shared->Prop} (hv:s.heap.IsItemsView v d) (hd:VY s.heap d es ep)
  (q:Q (.ref s.heap.objs.size) { s with heap:=s.heap.push { cls:=.type "dict_itemiterator",data:=.fields #[.none,.bool false,.ref d,.int 0 0,.int es.size 0,.int ep 0,.none,.none] } }):wpAny (model prog w) A (pyIter (.ref v)) Q E s:=by
 have ty:=hv.typeIs;obtain ⟨ov,g1,g2,g3⟩:=hv;obtain ⟨od,d1,d2,d3⟩:=hd;have own:Builtin.Dict_items.ownsTuple "dict_itemiterator"=true:=by decide
 refine Nb ty F.slot_dict_items_iter (QQ F.slot_dict_items_iter ty F.entry_dict_items_iter ?_ (F.args_dict_items_iter_1 _))
 delta Builtin.«dict_items.__iter__»
 refine Qb (Qe (Qb ?_))
 delta Builtin.Dict_items.dictOf
 refine Qb (QE g1 g3 (x:=.ref d) rfl (Qe (Qb ?_)))
 delta Builtin.Dict_items.newIterator
 refine Qb (RW d1 d3 (Qb (Gj d1 d3 ?_)));simp only [own,Q6]
 refine QM (Qe ⟨_,rfl,"dict_itemiterator",_,⟨_,Ql _ rfl,rfl⟩,GJ.lookup,?_⟩)
  (by simp only [sizeOk,Builtin.Dict_items.ownedTupleFields,Qv,Qu,QK,GW,Gb];omega)
 simpa [rawInt,Builtin.Dict_items.ownedTupleFields] using q
theorem Zbg {j:Addr} {Q:String->Shared->Prop} (hT:s.TypeIs (.ref j) "dict_itemiterator") (h:Q "dict_itemiterator" s):wpAny (model prog w) A (typeNameOfWhole (.ref j)) Q E s:=wpAny_typeNameOfWhole_itemiter hT h
theorem ZlQ {j d:Addr} {i ep:Nat} {es:Array DictEntry} {e:DictEntry} {ok ov:Value} {Q:Option Value->Shared->Prop} (hit:IsItemIter s.heap j d i es.size ep ok ov) (hd:VY s.heap d es ep) (he:es[i]?=some e)
  (q:∀h',IsItemIterOut h' j d (i+1) es.size ep e.key e.val s.heap.objs.size->h'.get? s.heap.objs.size=some { cls:=.type "tuple",data:=.seq #[e.key,e.val] } →
   (∀b o,b≠j->s.heap.get? b=some o->h'.get? b=some o)->Q (some (.ref s.heap.objs.size)) { s with heap:=h' }):wpAny (model prog w) A (pyNext (.ref j)) Q E s:=by
 obtain ⟨hp,g,dr,tk,os⟩:=s;obtain ⟨od,d1,d2,d3⟩:=hd;have ty:Shared.TypeIs ⟨hp,g,dr,tk,os⟩ (.ref j) "dict_itemiterator":=⟨_,hit,rfl⟩;have own:Builtin.Dict_items.ownsTuple "dict_itemiterator"=true:=by decide
 have hj:i<es.size:=by
  rcases Nat.lt_or_ge i es.size with h|h
  ·exact h
  ·rw [GE h] at he;cases he
 have hv:es[i]=e:=by rw [getElem?_pos es i hj] at he;injection he
 delta pyNext
 refine Qb (Rn (Q7 (name:=Str.ofString "__next__") ty GJ (QQ GJ ty N6 ?_ (N7 _))));refine Qb (Qe (Qb (Qb (Qb (Zbg ty (Qe (Qb (Nh hit rfl ?_))))))));simp only [own,Q6];have nn:(Value.ref d==Value.none)=false:=rfl;show wpAny _ A.in1 (if (Value.ref d==Value.none)=true then _ else _) _ _ _;rw [nn,Qa QA];refine Qb (Qe (Qb (RW d1 d3 ?_)));rw [Qa (by simp)];refine Qb (Qe (Qb (Gj d1 d3 ?_)));rw [Qa (by simp)];refine Qe ?_;simp only [show ¬((i:Int)<0) from by omega,QV,RT,N5 hj];refine Qb (Qb (Zbg ty (Qe (Qb (NO ty ?_)))));show wpAny _ A.in1 (setField (.ref j) 3 (rawInt ((i:Int)+1)) >>= _) _ _ _;refine Qb (Q8 hit (by simp) fun ha a1 a2=>?_);replace a2:Heap.SameBut j hp ha:=a2
 replace a1:IsItemIter ha j d (i+1) es.size ep ok ov:=by
  have ez:((i+1:Nat):Int)=(i:Int)+1:=by omega
  unfold IsItemIter;rw [ez];simpa [rawInt] using a1
 have tya:Shared.TypeIs ⟨ha,g,dr,tk,os⟩ (.ref j) "dict_itemiterator":=⟨_,a1,rfl⟩;refine Qb (Rz (Qb (NO tya (Qb (NO tya ?_)))));show wpAny _ A.in1 (Builtin.Dict_items.pairFromOwner (.ref j) 6 es[i].key es[i].val) _ _ ⟨ha,g,dr,tk,os⟩;rw [hv]
 delta Builtin.Dict_items.pairFromOwner
 refine Qb (wpAny_newTuple ?_);have b1:IsItemIter (ha.push { cls:=.type "tuple",data:=.seq #[e.key,e.val] }) j d (i+1) es.size ep ok ov:=Qi _ a1;generalize hb:ha.push { cls:=.type "tuple",data:=.seq #[e.key,e.val] }=hB at b1;have za:ha.objs.size=hp.objs.size:=a2.1;have lj:j<hp.objs.size:=Qg hit;have tB:hB.get? hp.objs.size=some { cls:=.type "tuple",data:=.seq #[e.key,e.val] }:=by rw [←hb,←za];exact Ql _ rfl
 have kB:∀b o,b≠j->hp.get? b=some o->hB.get? b=some o:=fun b o nb eo=>by rw [←hb];exact Qi _ (a2.extBut b o nb eo)
 show wpAny _ A.in1 (Builtin.Dict_items.ownedTupleIsFree (.ref j) >>= _) _ _ ⟨hB,g,dr,tk,os⟩;rw [za];clear hb a1 a2 tya za ha;refine Qb ?_
 delta Builtin.Dict_items.ownedTupleIsFree
 refine Qb (QE b1 rfl (x:=.none) rfl (Qe ?_));simp only [Q6];refine Qb (QE b1 rfl (x:=ok) rfl (Qb (QE b1 rfl (x:=ov) rfl ?_)));refine Qb (Q8 b1 (by simp) fun hC c1 c2=>?_);replace c2:Heap.SameBut j hB hC:=c2;replace c1:IsItemIter hC j d (i+1) es.size ep e.key ov:=c1;refine Qb (Q8 c1 (by simp) fun hD e1 e2=>?_);replace e2:Heap.SameBut j hC hD:=e2;replace e1:IsItemIter hD j d (i+1) es.size ep e.key e.val:=e1;refine Qb (Q8 e1 (by simp) fun hE f1 f2=>?_);replace f2:Heap.SameBut j hD hE:=f2;replace f1:IsItemIterOut hE j d (i+1) es.size ep e.key e.val hp.objs.size:=f1;refine Qb (Q8 f1 (by simp) fun hG g1 g2=>?_);replace g2:Heap.SameBut j hE hG:=g2;replace g1:IsItemIterOut hG j d (i+1) es.size ep e.key e.val hp.objs.size:=g1;have up:∀b o,b≠j->hB.get? b=some o->hG.get? b=some o:=fun b o nb eo=>g2.extBut b o nb (f2.extBut b o nb (e2.extBut b o nb (c2.extBut b o nb eo)));refine Qb (GB (Qe (Qe ⟨_,rfl,Qe (q hG g1 ?_ ?_)⟩)))
 ·exact up _ _ (Rj lj) tB
 ·exact fun b o nb eo=>up b o nb (kB b o nb eo)
theorem ZiI {j d:Addr} {i ep:Nat} {es:Array DictEntry} {ok ov:Value} {Q:Option Value->Shared->Prop} (hh:A.handled=none) (hit:IsItemIter s.heap j d i es.size ep ok ov) (hd:VY s.heap d es ep) (he:es.size≤i)
  (q:∀h',Heap.ExtBut j s.heap h'->Q none { s with heap:=h' }):wpAny (model prog w) A (pyNext (.ref j)) Q E s:=by
 obtain ⟨od,d1,d2,d3⟩:=hd;have ty:s.TypeIs (.ref j) "dict_itemiterator":=⟨_,hit,rfl⟩;have own:Builtin.Dict_items.ownsTuple "dict_itemiterator"=true:=by decide
 delta pyNext
 refine Qb (Rn (Q7 (name:=Str.ofString "__next__") ty GJ (QQ GJ ty N6 ?_ (N7 _))));refine Qb (Qe (Qb (Qb (Qb (Zbg ty (Qe (Qb (Nh hit rfl ?_))))))));simp only [own,Q6];have nn:(Value.ref d==Value.none)=false:=rfl;show wpAny _ A.in1 (if (Value.ref d==Value.none)=true then _ else _) _ _ s;rw [nn,Qa QA];refine Qb (Qe (Qb (RW d1 d3 ?_)));rw [Qa (by simp)];refine Qb (Qe (Qb (Gj d1 d3 ?_)));rw [Qa (by simp)];refine Qe ?_;simp only [show ¬((i:Int)<0) from by omega,QV,RT,GE he];refine Qb (Qb (Zbg ty (Qe ?_)));show wpAny _ A.in1 (setField (.ref j) 2 .none >>= _) _ _ s;refine Qb (Gy hit rfl (by simp) ?_);show wpAny _ A.in1 (newExc (.type "StopIteration") [] >>= _) _ _ _;refine Qb ?_;simp only [newExc,newTuple];refine Qb (QM (Qb (m:=firstArgMember _ _) (QL (a:=Value.none) (by first|rfl|(simp only [firstArgMember];rfl)) (QM ?_ (by size_fits)))) (by size_fits));simp only [raiseNew];refine Qb (Gz ?_);rw [show A.in1.handled=none from hh];refine Qb (Qe (GA ?_));refine Qb (RV (b:=true) (T:="StopIteration") ⟨_,Ql _ rfl,rfl⟩ GC ?_);exact Qe (q _ (((RC ..).extBut.push _).push _))
end
theorem Znu {prog:Program} {w:World} {A:Around} {E:Value->Shared->Prop} {s:Shared} {d:Addr} {es:Array DictEntry} {ep:Nat} {Q:Value->Shared->Prop} (lo:(d==sysModules)=false) (hd:VY s.heap d es ep)
  (q:Q (.ref s.heap.objs.size) { s with heap:=s.heap.push { cls:=.type "dict_items",data:=.fields #[.ref d] } }):wpAny (model prog w) A (call (.builtin "dict.items") [.ref d]) Q E s:=by
 obtain ⟨od,d1,d2,d3⟩:=hd;have ty:s.TypeIs (.ref d) "dict":=⟨od,d1,d2⟩;refine Gu F.slot_dict_items ty F.entry_dict_items (F.args_dict_items_1 _) (S:=fun _ R s'=>s'=s∧R (.ok (.ret (.ref s'.heap.objs.size))) { s' with heap:=s'.heap.push { cls:=.type "dict_items",data:=.fields #[.ref d] } }) ?_ ⟨rfl,q⟩;refine .of_wp fun A R s' h=>?_;obtain ⟨rfl,h⟩:=h;refine Qb ?_
 delta Builtin.Dict.noArgs
 refine Qb (NM ty ?_);show wpAny _ _ (pure d) _ _ _;refine Qe ?_;show wpAny _ _ (Builtin.Dict.showsAll d >>= _) _ _ _
 delta Builtin.Dict.showsAll
 rw [Qa (by rw [lo];exact QA)];exact Qb (Qe (Qb (QM (Qe ⟨_,rfl,h⟩))))
theorem Zok {X:Cx}:VI X "dict.items" (fun x xs H Q=>∃a kvs,x=.ref a∧xs=[]∧H a=some (.dT kvs)∧∀r,H r=none->Q (.ref r) (Zb H r (.ext (UA r a)))):=by
 intro pins s σ H x xs v us Q I rx r h;obtain ⟨a,kvs,rfl,rfl,ha,q⟩:=h;cases r;obtain rfl:v=Value.ref a:=rx;obtain ⟨z,hd,xs,rel,o,es,ep,h1,h2,h3,h4,h5⟩:=Jc I.hok ha;refine Znu hd ⟨o,h1,h2.1,h3⟩ ⟨.ref s.heap.objs.size,_,I.laid (t':=s.toks) (o:=.ext (UA s.heap.objs.size a)) (fun b u e=>Qi _ e) (Qf _) ?_,rfl,q _ (I.hok.fresh (Qf _))⟩;have g:(s.heap.push { cls:=.type "dict_items",data:=.fields #[.ref a] }).get? s.heap.objs.size=some { cls:=.type "dict_items",data:=.fields #[.ref a] }:=Ql _ rfl;refine ⟨⟨_,g,rfl,rfl⟩,⟨_,g⟩,fun g1 g2 φ k=>?_⟩;obtain ⟨o,o1,o2⟩:=φ;exact ⟨o,k o o1,o2⟩
noncomputable def Ji (d:Addr) (o:Obj) (kvs:List (List Zi×V)):It where
 go:=fun i H=>H d=some (.frz o (.dT kvs))∧i<kvs.length
 stop:=fun i H=>H d=some (.frz o (.dT kvs))∧kvs.length≤i
 yld:=fun i H v H'=>∃T c p,H T=none∧v=.ref T∧kvs[i]?=some p∧H c=some (.tup (p.1.map kV))∧H'=Zb H T (.tup [.ref c,p.2])
theorem ZkY {P:Program} {w:World} {K:W.Frag} {ts:List Expr} {n:Nat} {pos:Pos} (d j:Addr) (o:Obj) (kvs:List (List Zi×V)) (es:Array DictEntry) (ep:Nat) (ho:o.data=.dict es ep) (hc:o.cls=.type "dict") (hz:es.size=kvs.length) :
  Turn P w K (.Tuple ts n pos) (Ji d o kvs) [j] j (fun i h=>∃ok ov,IsItemIter h j d i es.size ep ok ov) where
 mem:=by simp
 obj:=fun i h ⟨ok,ov,st⟩ b hb=>by
  have e:b=j:=by simpa using hb
  subst e;exact ⟨_,st,fun v z=>by cases z⟩
 keep:=fun i h h' ⟨ok,ov,st⟩ k=>⟨ok,ov,k j (by simp) _ st⟩
 item:=by
  intro X hP hw hK hcalm i pins s σ H E I hf st hg;subst hP hw hK;obtain ⟨ok,ov,st⟩:=st;obtain ⟨hq,hi⟩:=hg;obtain ⟨g1,g2⟩:=(show s.heap.get? d=some o∧ObjOk X.prog X.w H s.heap d (.dT kvs) from I.hok d _ hq);obtain ⟨z,hd,xs,rel,o2,es2,ep2,h1,h2,h3,h4,h5⟩:=WK I.hok (.inr ⟨o,hq⟩);rw [g1] at h1;cases h1;rw [ho] at h3;cases h3;obtain ⟨x,hx,hxt,rx⟩:=Zdv rel i kvs[i] (Qx hi)
  have hen:∃en,es[i]?=some en∧en.key=.ref x.2.1∧en.val=x.2.2:=by
   have e1:es.toList[i]?=es[i]?:=GG ..;rw [h4,Qw,hx] at e1;exact ⟨_,e1.symm,rfl,rfl⟩
  obtain ⟨en,hen,ek,ev⟩:=hen;have lj:j<s.heap.objs.size:=Qg st;refine ZlQ st ⟨o,g1,hc,ho⟩ hen fun h1 io tt kk=>?_;refine ⟨_,rfl,wpAny_letOwnedTupleGo_items io fun h2 st2 sb=>?_⟩;have tt2:=sb.extBut _ _ (Rj lj) tt
  have k2:∀c o,c∉[j]->s.heap.get? c=some o->h2.get? c=some o:=fun c o hc e=>by
   have nc:c≠j:=by simpa using hc
   exact sb.extBut _ _ nc (kk c o nc e)
  have I':=I.turnedLaid (t':=s.toks) (o:=.tup [.ref x.2.1,kvs[i].2]) hf k2 (Qf _) (show ObjOk X.prog X.w _ h2 _ (.tup [.ref x.2.1,kvs[i].2]) from ⟨Zz (by simp),[en.key,en.val],.cons (by rw [ek];rfl) (.cons (by rw [ev];exact rx) .nil),⟨_,tt2,rfl,_,rfl⟩⟩);refine ⟨.ref s.heap.objs.size,_,I',rfl,⟨s.heap.objs.size,x.2.1,kvs[i],I.hok.fresh (Qf _),rfl,Qx hi,hxt,rfl⟩,⟨_,_,st2⟩,fun c hc=>?_⟩;have ec:c=j:=by simpa using hc
  subst ec;rw [Zd (Qt lj)];exact (hf c (by simp)).1
 done:=by
  intro X hP hw hK hcalm i pins s σ H E I hf st hg;subst hP hw hK;obtain ⟨ok,ov,st⟩:=st;obtain ⟨hq,hi⟩:=hg;obtain ⟨g1,g2⟩:=(show s.heap.get? d=some o∧ObjOk X.prog X.w H s.heap d (.dT kvs) from I.hok d _ hq);obtain ⟨f0,f1,f2,f3,f4,f5⟩:=hf j (by simp);exact ZiI (I.ok.hd hcalm) st ⟨o,g1,hc,ho⟩ (by omega) fun h' eb=>⟨rfl,I.turned (t':=s.toks) (fun b o hb e=>eb b o hb e) f0 f1 f3 f4 f5⟩
 self:=fun _ _ _ _ _ ⟨ok,ov,st⟩ h=>kcp_self st h
def Zly (tl:TE):TI:=fun σ H R=>tl σ H fun x H1=>∃r a kvs,x=.ref r∧H1 r=some (.ext (UA r a))∧H1 a=some (.dT kvs)∧∀o,R (Ji a o kvs) (Zb H1 a (.frz o (.dT kvs)))
theorem Zn3 {X:Cx} {l:Expr} {tl:TE} {ts:List Expr} {n:Nat} {pos:Pos} (hl:PE X l tl):PI X (.Tuple ts n pos) l (Zly tl):=by
 intro pins s σ H R I h;refine Zr (hl pins s σ H _ I h) fun v s1 ⟨x,H1,I1,r1,q1⟩=>?_;obtain ⟨r,a,kvs,e,hr,ha,q⟩:=q1;subst e;cases r1;have hview:s1.heap.IsItemsView r a:=(show ObjOk X.prog X.w H1 s1.heap r (.ext (UA r a)) from I1.hok r _ hr).1;obtain ⟨o,es,ep,h1,h2,h3,hes,hd,If⟩:=I1.freezeT ha;refine Zl6 hview ⟨o,h1,h2,h3⟩ ?_;refine ⟨s1.heap.objs.size,[s1.heap.objs.size],_,_,_,rfl,If.kept (t':=s1.toks) fun b o e=>Qi _ e,ZkY a _ o kvs es ep h3 h2 hes,⟨_,_,Ql _ rfl⟩,fun b hb=>?_,q o⟩;have e:b=s1.heap.objs.size:=by simpa using hb
 subst e;exact If.fpOk (Qf _) (If.hok.fresh (Qf _))
theorem Zi0 {d:Addr} {o:Obj} {kvs:List (List Zi×V)} {g:TG} {tb:TS} {D:Ends} {σ:St} {H:Hp} (Pv:Nat->St->Hp->Prop) (h0:Pv 0 σ H) (hl:∀i σ H,i≤kvs.length->Pv i σ H->H d=some (.frz o (.dT kvs)))
  (hs:∀i p T c σ H,kvs[i]?=some p->Pv i σ H->H T=none->H c=some (.tup (p.1.map kV))->g (.ref T) σ (Zb H T (.tup [.ref c,p.2])) fun σ2 H2=>tb { D with nx:=Pv (i+1),ct:=Pv (i+1),bk:=D.nx } σ2 H2) (hd:∀σ H,Pv kvs.length σ H->D.nx σ H) :
  ∃W:Nat->Nat->St->Hp->Prop,(∃m,W 0 m σ H)∧∀i m σ H,W i m σ H →
   ((Ji d o kvs).stop i H∧D.nx σ H)∨((Ji d o kvs).go i H∧∃N:St->Hp->Prop,(∀σ' H',N σ' H'->∃m',m'<m∧W (i+1) m' σ' H')∧∀x H',(Ji d o kvs).yld i H x H'->g x σ H' fun σ2 H2=>tb { D with nx:=N,ct:=N,bk:=D.nx } σ2 H2):=by
 refine ⟨fun i m σ H=>m=kvs.length-i∧i≤kvs.length∧Pv i σ H,⟨kvs.length,by simp,QJ _,h0⟩,?_⟩;rintro i m σ H ⟨rfl,hi,p⟩;have q:=hl i σ H hi p;by_cases hlt:i<kvs.length
 ·refine .inr ⟨⟨q,hlt⟩,Pv (i+1),fun σ' H' p'=>⟨kvs.length-(i+1),by omega,rfl,hlt,p'⟩,fun x H' y=>?_⟩;obtain ⟨T,c,r,nT,rfl,hr,hc,rfl⟩:=y;exact hs i r T c σ _ hr p nT hc
 ·have e:i=kvs.length:=by omega
  subst e;exact .inl ⟨⟨q,Qf _⟩,hd σ H p⟩
theorem Zmp {d:Addr} {o:Obj} {kvs:List (Zi×V)} {g:TG} {tb:TS} {D:Ends} {σ:St} {H:Hp} (Pv:Nat->St->Hp->Prop) (h0:Pv 0 σ H) (hl:∀i σ H,i≤kvs.length->Pv i σ H->H d=some (.frz o (.dK kvs)))
  (hs:∀i p σ H,kvs[i]?=some p->Pv i σ H->g (kV p.1) σ H fun σ2 H2=>tb { D with nx:=Pv (i+1),ct:=Pv (i+1),bk:=D.nx } σ2 H2) (hd:∀σ H,Pv kvs.length σ H->D.nx σ H) :
  ∃W:Nat->Nat->St->Hp->Prop,(∃m,W 0 m σ H)∧∀i m σ H,W i m σ H →
   ((JQ d o kvs).stop i H∧D.nx σ H)∨((JQ d o kvs).go i H∧∃N:St->Hp->Prop,(∀σ' H',N σ' H'->∃m',m'<m∧W (i+1) m' σ' H')∧∀x H',(JQ d o kvs).yld i H x H'->g x σ H' fun σ2 H2=>tb { D with nx:=N,ct:=N,bk:=D.nx } σ2 H2):=by
 refine ⟨fun i m σ H=>m=kvs.length-i∧i≤kvs.length∧Pv i σ H,⟨kvs.length,by simp,QJ _,h0⟩,?_⟩;rintro i m σ H ⟨rfl,hi,p⟩;have q:=hl i σ H hi p;by_cases hlt:i<kvs.length
 ·refine .inr ⟨⟨q,hlt⟩,Pv (i+1),fun σ' H' p'=>⟨kvs.length-(i+1),by omega,rfl,hlt,p'⟩,fun x H' y=>?_⟩;obtain ⟨rfl,y⟩:=y;rw [Qx hlt] at y;cases (show kV kvs[i].1=x from Qn y);exact hs i kvs[i] σ _ (Qx hlt) p
 ·have e:i=kvs.length:=by omega
  subst e;exact .inl ⟨⟨q,Qf _⟩,hd σ H p⟩
end L2
namespace L2
open PySem PySem.Spec PyProof.Rows
noncomputable def JB (K:W.Frag) (a:Addr) (n:Nat):It :=
 ⟨fun i H=>∃xs x,SqL K H a xs∧xs.length=n∧xs.reverse[i]?=some x,fun i H x H'=>H'=H∧∀xs,SqL K H a xs->xs.reverse[i]?=some x,fun i _=>i=n⟩
theorem Zoy {P:Program} {w:World} {K:W.Frag} {tg:Expr} (a it:Addr) (n:Nat):Turn P w K tg (JB K a n) [it] it (fun i h=>i≤n∧RevF.IsLRev h it a ((n:Int)-1-(i:Nat))) where
 mem:=by simp
 obj:=fun i h st b hb=>by
  have e:b=it:=by simpa using hb
  subst e
  exact ⟨_,st.2,fun v z=>by
   have z':Data.fields _=Data.cell v:=z;cases z'⟩
 keep:=fun i h h' st k=>⟨st.1,k it (by simp) _ st.2⟩
 item:=by
  intro X hP hw hK hc i pins s σ H E I hf st hg;subst hP hw hK;obtain ⟨xs,x,hq,hln,hx⟩:=hg;obtain ⟨its,rv,p,hz⟩:=I.list hq;have hl:=rv.length
  have li:i<n:=by
   have:=(QI.mp hx).1;rw [RH] at this;omega
  have hx':xs[n-1-i]?=some x:=by
   rw [Nc (by omega),hln] at hx;exact hx
  obtain ⟨u,hu,ru⟩:=rv.get hx';obtain ⟨f0,f1,f2,f3,f4,f5⟩:=hf it (by simp)
  have st':RevF.IsLRev s.heap it a ((n-1-i:Nat):Int):=by
   have e:((n-1-i:Nat):Int)=(n:Int)-1-(i:Nat):=by omega
   rw [e];exact st.2
  refine RevF.lrev_item st' (us:=its.toArray) p.isList (x:=u) (by simpa using hu) fun h' hr sb=>?_;have I1:Inv X pins σ H { s with heap:=h' }:=I.turned (t':=s.toks) (fun b o hb e=>(sb.2 b hb).trans e) f0 f1 f3 f4 f5;refine ⟨u,rfl,Vr (s:={ s with heap:=h' }) hr rfl rfl (by decide) ⟨x,H,I1,ru,⟨rfl,fun ys hy=>by rw [I.list_inj hy hq];exact hx⟩,⟨by omega,?_⟩,fun b hb=>(hf b hb).1⟩⟩;have e:((n-1-i:Nat):Int)-1=(n:Int)-1-((i+1:Nat):Int):=by omega
  rw [←e];exact hr
 done:=by
  intro X hP hw hK hc i pins s σ H E I hf st hg;subst hP hw hK;have e:i=n:=hg;subst e;obtain ⟨f0,f1,f2,f3,f4,f5⟩:=hf it (by simp)
  have st':RevF.IsLRev s.heap it a (-1):=by
   have e:(i:Int)-1-(i:Nat)=-1:=by omega
   rw [←e];exact st.2
  exact RevF.lrev_end st' (I.ok.hd hc) fun h' eb=>⟨rfl,I.turned (t':=s.toks) (fun b o hb e=>eb b o e) f0 f1 f3 f4 f5⟩
 self:=fun _ _ _ _ _ st h=>RevF.lrev_iter st.2 h
section
variable {X:Cx}
def ZlS (K:W.Frag) (ta:TA):TI:=fun σ H R=>ta σ H fun vs H1=>∃a xs,vs=[.ref a]∧SqL K H1 a xs∧R (JB K a xs.length) H1
theorem ZmI (K:W.Frag) {e1 tg:Expr} {ta:TA} {p pos:Pos} (hg:Gl X "reversed") (hm:X.mg "reversed"=none) (ha:PA X [e1] ta) (hK:X.K=K:=by rfl)
  (hs:starEach [e1] X.env=(false,eval e1 X.env)::starEach [] X.env:=by rfl) (hpl:(backTo pos (starEach [] X.env)).any (·.1)=false:=by rfl):PI X tg (.Call (.Name "reversed" p) [e1] [] pos) (ZlS K ta):=by
 subst hK;intro pins s σ H R I h;refine Q9 (Wn I hg hm ZdX (RM (Zr (ha pos pins s σ H _ I h) fun us s1 ⟨vs,H1,I1,r1,q1⟩=>?_) hs hpl));obtain ⟨a,xs,e,qa,q⟩:=q1;subst e;obtain ⟨u,rfl,ra⟩:=YY r1;cases (show u=Value.ref a from ra);obtain ⟨as,ka,pl,hz⟩:=I1.list qa;have hl:=ka.length;refine RevF.lrev_call pl.isList fun tk=>?_;have e:((as.toArray.size:Nat):Int)-1=(xs.length:Int)-1-((0:Nat):Int):=by rw [Qv];omega
 rw [e];have rv0:RevF.IsLRev (s1.heap.push { cls:=.type "list_reverseiterator",data:=.fields #[.ref a,rawInt ((xs.length:Int)-1-((0:Nat):Int))] }) s1.heap.objs.size a ((xs.length:Int)-1-((0:Nat):Int)):=Ql _ rfl;refine RevF.lrev_iter rv0 ?_;refine ⟨s1.heap.objs.size,[s1.heap.objs.size],_,_,H1,rfl,I1.kept (t':=tk) fun b o e=>Qi _ e,Zoy a _ xs.length,⟨QJ _,rv0⟩,fun b hb=>?_,q⟩;have e:b=s1.heap.objs.size:=by simpa using hb
 subst e;exact I1.fpOk (Qf _) (I1.hok.fresh (Qf _))
end
theorem Zll {K:PySem.W.Frag} {a:Addr} {xs:List V} {g:TG} {tb:TS} {D:Ends} {σ:St} {H:Hp} (Pv:Nat->St->Hp->Prop) (h0:Pv 0 σ H) (hl:∀i σ H,i≤xs.length->Pv i σ H->SqL K H a xs)
  (hs:∀i x σ H,xs.reverse[i]?=some x->Pv i σ H->g x σ H fun σ2 H2=>tb { D with nx:=Pv (i+1),ct:=Pv (i+1),bk:=D.nx } σ2 H2) (hd:∀σ H,Pv xs.length σ H->D.nx σ H) :
  ∃W:Nat->Nat->St->Hp->Prop,(∃m,W 0 m σ H)∧∀i m σ H,W i m σ H →
   ((JB K a xs.length).stop i H∧D.nx σ H)∨((JB K a xs.length).go i H∧∃N:St->Hp->Prop,(∀σ' H',N σ' H'->∃m',m'<m∧W (i+1) m' σ' H')∧∀x H',(JB K a xs.length).yld i H x H'->g x σ H' fun σ2 H2=>tb { D with nx:=N,ct:=N,bk:=D.nx } σ2 H2):=by
 refine ⟨fun i m σ H=>m=xs.length-i∧i≤xs.length∧Pv i σ H,⟨xs.length,by simp,QJ _,h0⟩,?_⟩;rintro i m σ H ⟨rfl,hi,p⟩;have q:=hl i σ H hi p;by_cases hlt:i<xs.length
 ·have hlr:i<xs.reverse.length:=by rw [RH];exact hlt
  refine .inr ⟨⟨xs,xs.reverse[i],q,rfl,Qx hlr⟩,Pv (i+1),fun σ' H' p'=>⟨xs.length-(i+1),by omega,rfl,hlt,p'⟩,fun x H' y=>?_⟩;obtain ⟨e,y⟩:=y;subst e;exact hs i x σ _ (y xs q) p
 ·have e:i=xs.length:=by omega
  subst e;exact .inl ⟨rfl,hd σ H p⟩
theorem ZnX {K:PySem.W.Frag} {a:Addr} {xs:List V} {g:TG} {tb:TS} {D:Ends} {σ:St} {H:Hp} (Pv:Nat->St->Hp->Prop) (h0:Pv 0 σ H) (hl:∀i σ H,i≤xs.length->Pv i σ H->SqT K H a xs)
  (hs:∀i x σ H,xs.reverse[i]?=some x->Pv i σ H->g x σ H fun σ2 H2=>tb { D with nx:=Pv (i+1),ct:=Pv (i+1),bk:=D.nx } σ2 H2) (hd:∀σ H,Pv xs.length σ H->D.nx σ H) :
  ∃W:Nat->Nat->St->Hp->Prop,(∃m,W 0 m σ H)∧∀i m σ H,W i m σ H →
   ((Jt K a xs.length).stop i H∧D.nx σ H)∨((Jt K a xs.length).go i H∧∃N:St->Hp->Prop,(∀σ' H',N σ' H'->∃m',m'<m∧W (i+1) m' σ' H')∧∀x H',(Jt K a xs.length).yld i H x H'->g x σ H' fun σ2 H2=>tb { D with nx:=N,ct:=N,bk:=D.nx } σ2 H2):=by
 refine ⟨fun i m σ H=>m=xs.length-i∧i≤xs.length∧Pv i σ H,⟨xs.length,by simp,QJ _,h0⟩,?_⟩;rintro i m σ H ⟨rfl,hi,p⟩;have q:=hl i σ H hi p;by_cases hlt:i<xs.length
 ·have hlr:i<xs.reverse.length:=by rw [RH];exact hlt
  refine .inr ⟨⟨xs,xs.reverse[i],q,rfl,Qx hlr⟩,Pv (i+1),fun σ' H' p'=>⟨xs.length-(i+1),by omega,rfl,hlt,p'⟩,fun x H' y=>?_⟩;obtain ⟨e,y⟩:=y;subst e;exact hs i x σ _ (y xs q) p
 ·have e:i=xs.length:=by omega
  subst e;exact .inl ⟨rfl,hd σ H p⟩
def ZlT (K:W.Frag):R2:=fun x y H Q=>∃a b,∃zs:List Str,x=.ref a∧y=.ref b∧SqL K H a (zs.map V.str)∧SqL K H b (zs.map V.str)∧Q (.bl true) H
theorem Zem {X:Cx} (hu:X.A.units+64<cLine):Yq X (compareOp .Eq) (ZlT X.K):=by
 intro pins s σ H x y v u Q I rx ry h;obtain ⟨a,b,zs,rfl,rfl,ha,hb,q⟩:=h;cases (show v=Value.ref a from rx);cases (show u=Value.ref b from ry);obtain ⟨its,rv,z,_⟩:=I.list ha;obtain ⟨its2,rv2,z2,_⟩:=I.list hb;have e1:=rv.length;have e2:=rv2.length;rw [Qd] at e1 e2
 have g:=SeqAt.RcAt.lists (A:=X.A) (e:=fun _=>true) z.isList z2.isList (by simp only [Qv,←e1,←e2]) (by omega) fun j h1 h2=>by
  have j1:j<zs.length:=by rw [Qv,←e1] at h1;exact h1
  have k:(zs.map V.str)[j]?=some (.str zs[j]):=by rw [Qw,Qx j1];rfl
  obtain ⟨u1,hu1,r1⟩:=rv.get k;obtain ⟨u2,hu2,r2⟩:=rv2.get k
  have w1:its.toArray[j]=u1:=by
   have:=(QI.mp hu1).2;simpa using this
  have w2:its2.toArray[j]=u2:=by
   have:=(QI.mp hu2).2;simpa using this
  rw [w1,w2];have:=Zf3 (A:=X.A.in1) (s:=s) r1 r2 rfl rfl;rw [show XD (.str zs[j]) (.str zs[j])=true by simp [XD]] at this;exact this
 rw [show (List.range its.toArray.size).all (fun _=>true)=true by simp] at g;exact g _ _ _ _ ⟨.bl _,H,I,rfl,q⟩
theorem ZQ {N P:List Str} {sc:Scope} (h1:sc.kind=.function:=by rfl) (h2:sc.isCoroutine=false:=by rfl) (h3:sc.isGenerator=false:=by rfl) (h4:N.Nodup:=by decide +kernel) (h5:N.take P.length=P:=by rfl)
  (h6:∀x∈P,sc.names.lookup x=some .local∨sc.names.lookup x=some .cell:=by decide +kernel) (h7:∀y∈sc.names,y.2≠.free:=by decide +kernel):FnScope N P sc:=⟨h1,h2,h3,h4,h5,h6,h7⟩
section
variable {X:Cx} {CX:Yu} {k n:Nat} {x:Str} {st:Stmt} {ps:List Str} {sp:Sp} {p pos:Pos} {e:Expr} {es:List Expr} {t:TA} {E:St->XK}
theorem ZR {d:Df X.K X.mg x st ps} (F:FnOk X.prog X.w X.K X.mg X.base CX k d.a (ZG X.K d.a) ps sp) (hr:Room n X.A) (hx:WG CX X E) (ha:PA X (e::es) t) (hn:k≤n:=by decide) (hg:Gl X x:=by rfl)
  (hdb:(x==("__debug__" : Str))=false:=by decide) (he:starEach (e::es) X.env=(false,eval e X.env)::starEach es X.env:=by rfl) (hpl:(backTo pos (starEach es X.env)).any (·.1)=false:=by rfl) :
  PE X (.Call (.Name x p) (e::es) [] pos) (Zgt sp [] E t):=ZoY F (hr.mono hn) hg d.m d.F.kp d.b .nil hx ha hdb he hpl
end
end L2
set_option exponentiation.threshold 3000
seal L2.PSs L2.PS L2.PE L2.PT L2.PW L2.PA L2.PG L2.PI L2.PO
namespace K15
open PySem L2
noncomputable def ZS (i:Nat):Stmt:=PySem.Challenge.pw_heirbook_k15_whole_walks.main.body.getD i (.Pass ⟨0,0,0,0⟩)
noncomputable abbrev ZbM:Stmt:=ZS 20
noncomputable abbrev Zdi:Stmt:=ZS 23
noncomputable abbrev Zdy:Stmt:=ZS 24
noncomputable abbrev Zcg:Stmt:=ZS 25
noncomputable abbrev Zca:Stmt:=ZS 26
noncomputable abbrev ZdI:Stmt:=ZS 27
noncomputable abbrev ZbV:Stmt:=ZS 29
noncomputable abbrev ZcR:Stmt:=ZS 30
noncomputable abbrev Zcp:Stmt:=ZS 31
noncomputable abbrev ZdL:Stmt:=ZS 32
noncomputable abbrev Zcu:Stmt:=ZS 33
noncomputable abbrev Zc5:Stmt:=ZS 34
noncomputable abbrev Zbw:Stmt:=ZS 35
noncomputable abbrev Zc3:Stmt:=ZS 12
noncomputable abbrev Zc7:Stmt:=ZS 39
noncomputable abbrev ZcT:Stmt:=Xy (ZS 40) 0
noncomputable abbrev ZcP:Stmt:=Xy (ZS 40) 8
noncomputable abbrev ZbS:Stmt:=Xy (ZS 40) 11
noncomputable abbrev ZcH:Stmt:=Xy (ZS 40) 12
noncomputable abbrev Zdc:Stmt:=Xy (ZS 40) 4
noncomputable abbrev ZbU:Stmt:=Xy (ZS 40) 3
noncomputable abbrev Zci:Stmt:=Xy (ZS 40) 2
noncomputable abbrev ZdK:Stmt:=Xy (ZS 40) 7
noncomputable abbrev Zbx:Stmt:=Xy (ZS 40) 5
noncomputable abbrev ZbL:Stmt:=Xy (ZS 40) 16
noncomputable abbrev Wt:Stmt:=Xy (ZS 40) 14
noncomputable abbrev Zbt:Stmt:=Xy (ZS 40) 6
noncomputable abbrev Zbq:Stmt:=Xy (ZS 40) 1
noncomputable abbrev Zc4:Stmt:=ZS 13
noncomputable abbrev ZbC:Stmt:=ZS 15
noncomputable abbrev Zby:Stmt:=ZS 16
noncomputable abbrev ZbP:Stmt:=ZS 17
noncomputable abbrev Uk:Stmt:=ZS 18
noncomputable abbrev ZcQ:Stmt:=ZS 42
noncomputable abbrev Zcx:Stmt:=ZS 43
noncomputable abbrev Zce:Stmt:=ZS 44
noncomputable abbrev Zch:Stmt:=ZS 45
noncomputable abbrev Zd0:Stmt:=ZS 46
noncomputable abbrev Zc1:Stmt:=ZS 47
noncomputable abbrev ZcS:Stmt:=ZS 48
noncomputable abbrev ZcW:Stmt:=ZS 49
noncomputable abbrev ZcG:Stmt:=ZS 50
noncomputable abbrev ZdB:Stmt:=ZS 51
noncomputable abbrev Zdb:Stmt:=ZS 52
noncomputable abbrev ZdV:Stmt:=ZS 53
noncomputable abbrev ZcL:Stmt:=ZS 54
noncomputable abbrev Zco:Stmt:=ZS 55
noncomputable abbrev ZbQ:Stmt:=ZS 56
noncomputable abbrev Zcj:Stmt:=ZS 57
set_option genInjectivity false
set_option genSizeOf false
structure Tx (K:W.Frag) (w:World) (mg:Str->Option Value) where
 c_Book:Addr
 Zbm:Df K mg "is_whole" ZbM ["thing"]
 YW:Df K mg "is_name" Zdi ["thing"]
 Xm:Df K mg "is_day" Zdy ["thing"]
 Wf:Df K mg "is_amount" Zcg ["thing"]
 Ww:Df K mg "is_sort" Zca ["thing"]
 Wc:Df K mg "is_parent" ZdI ["thing"]
 ZaA:Df K mg "has_form" ZbV ["parts","checks"]
 JZ:Df K mg "is_entry" ZcR ["thing"]
 Zah:Df K mg "is_tie" Zcp ["entry"]
 Zag:Df K mg "named_in" ZdL ["entry"]
 Za3:Df K mg "day_of" Zcu ["entry"]
 J0:Df K mg "as_told" Zc5 ["entry"]
 Zaa:Df K mg "key_of" Zbw ["entry"]
 J9:Df K mg "is_letter" Zc3 ["thing"]
 ZaR:Df K mg "pair_of" Zc7 ["one","other"]
 Uq:Dm K c_Book "__init__" "Book.__init__" ZcT ["self"]
 Y8:Dm K c_Book "birth_of" "Book.birth_of" ZcP ["self","name"]
 Vf:Dm K c_Book "sort_of" "Book.sort_of" ZbS ["self","name"]
 Y9:Dm K c_Book "born_on" "Book.born_on" ZcH ["self","name"]
 W8:Dm K c_Book "parent_fits" "Book.parent_fits" Zdc ["self","name","sort","day"]
 UF:Dm K c_Book "fits" "Book.fits" ZbU ["self","entry"]
 Uy:Dm K c_Book "refuse" "Book.refuse" Zci ["self","entry"]
 Y0:Dm K c_Book "link" "Book.link" ZdK ["self","letter","begin","end"]
 V9:Dm K c_Book "note_birth" "Book.note_birth" Zbx ["self","entry"]
 W7:Dm K c_Book "step" "Book.step" ZbL ["self","letter","name"]
 a_Book_stands:Addr
 fd_Book_stands:FuncData
 dt_Book_stands:Addr
 F_Book_stands:FunD K "stands" "Book.stands" Wt a_Book_stands fd_Book_stands (.ref dt_Book_stands)
 b_Book_stands:Binds K fd_Book_stands ["self","one","other","day"] [.none]
 UD:Dm K c_Book "note_tie" "Book.note_tie" Zbt ["self","entry"]
 UG:Dm K c_Book "put" "Book.put" Zbq ["self","entry"]
 ZaE:Df K mg "is_test" Zc4 ["thing"]
 VA:Df K mg "led_by_step" ZbC ["book","step","name"]
 Za4:Df K mg "layers_of" Zby ["one","steps","lead"]
 VC:Df K mg "trail" ZbP ["one","other","steps","lead"]
 U1:Df K mg "walk" Uk ["book","way","one","other"]
 J3:Df K mg "_law_cell_at" ZcQ ["_law_script","_law_k"]
 ZaM:Df K mg "_law_names" Zcx ["_law_cell"]
 Zbb:Df K mg "_law_day" Zce ["_law_cell","_law_k","_law_way_here"]
 Zax:Df K mg "_law_birth" Zch ["_law_people","_law_names_here","_law_cell","_law_day_here"]
 Za6:Df K mg "_law_deed" Zd0 ["_law_people","_law_known","_law_cell","_law_kind"]
 ZaF:Df K mg "_law_entries" Zc1 ["_law_script","_law_most"]
 Zba:Df K mg "_law_lead" ZcS ["_law_edges_here","_law_letter","_law_low","_law_high"]
 Zau:Df K mg "_law_edges" ZcW ["_law_entries_here"]
 Zai:Df K mg "_law_mixed" ZcG ["_law_cell","_law_k"]
 ZaY:Df K mg "_law_way" ZdB ["_law_script","_law_many","_law_turn","_law_edges_here","_law_name"]
 ZaD:Df K mg "_law_reach" Zdb ["_law_edges_here","_law_way_here","_law_name"]
 Zbn:Df K mg "_law_back" ZdV ["_law_way_here"]
 Zae:Df K mg "_law_walked" ZcL ["_law_edges_here","_law_way_here","_law_found","_law_one","_law_other"]
 Zat:Df K mg "_law_joined" Zco ["_law_book","_law_edges_here","_law_way_here","_law_one","_law_other"]
 Zaw:Df K mg "_law_nobody" ZbQ ["_law_book","_law_way_here","_law_one","_law_other"]
 V0:Df K mg "law" Zcj ["_law_script"]
 c_HeirError:Addr
 m_HeirError:mg "HeirError"=some (.ref c_HeirError)
 c_NoEntry:Addr
 m_NoEntry:mg "NoEntry"=some (.ref c_NoEntry)
 c_Full:Addr
 m_Full:mg "Full"=some (.ref c_Full)
 c_NoPerson:Addr
 m_NoPerson:mg "NoPerson"=some (.ref c_NoPerson)
 c_Twice:Addr
 m_Twice:mg "Twice"=some (.ref c_Twice)
 c_NoFit:Addr
 m_NoFit:mg "NoFit"=some (.ref c_NoFit)
 c_NoWay:Addr
 m_NoWay:mg "NoWay"=some (.ref c_NoWay)
 x_NoEntry:W.excIn K c_NoEntry Xu "ValueError.__new__"=true
 e_NoEntry:ExcK K c_NoEntry
 x_Full:W.excIn K c_Full Xu "ValueError.__new__"=true
 e_Full:ExcK K c_Full
 x_NoPerson:W.excIn K c_NoPerson Xu "ValueError.__new__"=true
 e_NoPerson:ExcK K c_NoPerson
 x_Twice:W.excIn K c_Twice Xu "ValueError.__new__"=true
 e_Twice:ExcK K c_Twice
 x_NoFit:W.excIn K c_NoFit Xu "ValueError.__new__"=true
 e_NoFit:ExcK K c_NoFit
 x_NoWay:W.excIn K c_NoWay Xu "ValueError.__new__"=true
 e_NoWay:ExcK K c_NoWay
 m_Book:mg "Book"=some (.ref c_Book)
 cl_Book:Cls K c_Book
 mk_Book:Mk K c_Book Uq.a
 na_Book_kept:NoAttr K c_Book "kept"
 na_Book_births:NoAttr K c_Book "births"
 na_Book_links:NoAttr K c_Book "links"
 na_Book_ties:NoAttr K c_Book "ties"
 na_Book_sums:NoAttr K c_Book "sums"
 me_Book_stands:Meth K c_Book "stands" a_Book_stands
 n_abs:mg "abs"=none
 n_all:mg "all"=none
 n_bool:mg "bool"=none
 n_int:mg "int"=none
 n_isinstance:mg "isinstance"=none
 n_len:mg "len"=none
 n_list:mg "list"=none
 n_max:mg "max"=none
 n_min:mg "min"=none
 n_range:mg "range"=none
 n_reversed:mg "reversed"=none
 n_sorted:mg "sorted"=none
 n_str:mg "str"=none
 n_tuple:mg "tuple"=none
 n_zip:mg "zip"=none
 k_int_int:W.kitOne K (.type "int") (.type "int")=some true
 k_int_str:W.kitOne K (.type "int") (.type "str")=some false
 k_int_tuple:W.kitOne K (.type "int") (.type "tuple")=some false
 k_int_bool:W.kitOne K (.type "int") (.type "bool")=some false
 k_str_int:W.kitOne K (.type "str") (.type "int")=some false
 k_str_str:W.kitOne K (.type "str") (.type "str")=some true
 k_str_tuple:W.kitOne K (.type "str") (.type "tuple")=some false
 k_bool_int:W.kitOne K (.type "bool") (.type "int")=some true
 k_bool_str:W.kitOne K (.type "bool") (.type "str")=some false
 k_bool_tuple:W.kitOne K (.type "bool") (.type "tuple")=some false
 k_bool_bool:W.kitOne K (.type "bool") (.type "bool")=some true
 k_NoneType_int:W.kitOne K (.type "NoneType") (.type "int")=some false
 k_NoneType_str:W.kitOne K (.type "NoneType") (.type "str")=some false
 k_NoneType_tuple:W.kitOne K (.type "NoneType") (.type "tuple")=some false
 k_tuple_int:W.kitOne K (.type "tuple") (.type "int")=some false
 k_tuple_str:W.kitOne K (.type "tuple") (.type "str")=some false
 k_tuple_tuple:W.kitOne K (.type "tuple") (.type "tuple")=some true
 k_list_int:W.kitOne K (.type "list") (.type "int")=some false
 k_list_str:W.kitOne K (.type "list") (.type "str")=some false
 k_list_tuple:W.kitOne K (.type "list") (.type "tuple")=some false
 k_dict_int:W.kitOne K (.type "dict") (.type "int")=some false
 k_dict_str:W.kitOne K (.type "dict") (.type "str")=some false
 k_dict_tuple:W.kitOne K (.type "dict") (.type "tuple")=some false
 kl_list:W.kitOne K (.type "list") (.type "list")=some true
 kx_HeirError:W.kitOne K (.ref c_NoPerson) (.ref c_HeirError)=some true
 kx_ValueError:W.kitOne K (.ref c_NoPerson) (.type "ValueError")=some true
 aF:Addr
 m_FORMS:mg "FORMS"=some (.ref aF)
 tkL:Tok
 m_LETTERS:mg "LETTERS"=some (.str "abcdefghijklmnopqrstuvwxyz" tkL)
 p0:Addr
 p1:Addr
 p2:Addr
 p3:Addr
 p4:Addr
 p5:Addr
 g0:Addr
 g1:Addr
 g2:Addr
 g3:Addr
 g4:Addr
 g5:Addr
 sF:∀H,SqT K H aF [.ref p0,.ref p1,.ref p2,.ref p3,.ref p4,.ref p5]
 sp0:∀H,SqT K H p0 [.str "born",.ref g0]
 sp1:∀H,SqT K H p1 [.str "taken",.ref g1]
 sp2:∀H,SqT K H p2 [.str "union",.ref g2]
 sp3:∀H,SqT K H p3 [.str "parted",.ref g3]
 sp4:∀H,SqT K H p4 [.str "dead",.ref g4]
 sp5:∀H,SqT K H p5 [.str "given",.ref g5]
 sg0:∀H,SqT K H g0 [.ref YW.a,.ref Ww.a,.ref Xm.a,.ref Wc.a,.ref Wc.a]
 sg1:∀H,SqT K H g1 [.ref YW.a,.ref YW.a,.ref Xm.a]
 sg2:∀H,SqT K H g2 [.ref YW.a,.ref YW.a,.ref Xm.a]
 sg3:∀H,SqT K H g3 [.ref YW.a,.ref YW.a,.ref Xm.a]
 sg4:∀H,SqT K H g4 [.ref YW.a,.ref Xm.a]
 sg5:∀H,SqT K H g5 [.ref YW.a,.ref YW.a,.ref Wf.a,.ref Xm.a]
 a_STEP_LETTERS:Addr
 m_STEP_LETTERS:mg "STEP_LETTERS"=some (.ref a_STEP_LETTERS)
 ZgV:∀H,SqT K H a_STEP_LETTERS [.str "F",.str "M",.str "T",.str "f",.str "m",.str "t",.str "S"]
 a_TESTS:Addr
 m_TESTS:mg "TESTS"=some (.ref a_TESTS)
 Ze9:∀H,SqT K H a_TESTS [.str "he",.str "she"]
 t_MOST_ENTRIES:Tok
 m_MOST_ENTRIES:mg "MOST_ENTRIES"=some (.int 400 t_MOST_ENTRIES)
 t_MOST_PEOPLE:Tok
 m_MOST_PEOPLE:mg "MOST_PEOPLE"=some (.int 60 t_MOST_PEOPLE)
 cc:Addr
 tb:Addr
 hcc:ZfI K U1.a cc
inductive Vk where
 |int (i:Int)|str (x:Str)|bl|non|tup|lst|dct
noncomputable def Vk.ty:Vk->Value
 |.int _=>.type "int"
 |.str _=>.type "str"
 |.bl=>.type "bool"
 |.non=>.type "NoneType"
 |.tup=>.type "tuple"
 |.lst=>.type "list"
 |.dct=>.type "dict"
noncomputable def Vk.isI:Vk->Bool
 |.int _=>true
 |_=>false
noncomputable def Vk.isB:Vk->Bool
 |.bl=>true
 |_=>false
noncomputable def Vk.isS:Vk->Bool
 |.str _=>true
 |_=>false
noncomputable def Vk.isT:Vk->Bool
 |.tup=>true
 |_=>false
def Vw (K:W.Frag) (H:Hp) (v:V):Vk->Prop
 |.int i=>v=.int i
 |.str x=>v=.str x∧x.length≤100
 |k=>Kd K H v k.ty
section
variable {K:W.Frag} {H H':Hp} {v:V} {t:Vk}
theorem Vw.kd (h:Vw K H v t):Kd K H v t.ty:=by
 cases t with
 |int i=>cases (show v=.int i from h);exact .of (.int i)
 |str x=>cases (show v=.str x from h.1);exact .of (.str x)
 |_=>exact h
theorem Vw.mono (h:Vw K H v t) (e:Same H H'):Vw K H' v t:=by
 cases t with
 |int i=>exact h
 |str x=>exact h
 |_=>exact e.kd h
end
def Vws (K:W.Frag) (H:Hp):List V->List Vk->Prop
 |[],[]=>True
 |x::xs,t::ts=>Vw K H x t∧Vws K H xs ts
 |_,_=>False
section
variable {K:W.Frag} {H H':Hp}
theorem Vws.length:∀{xs:List V} {ts:List Vk},Vws K H xs ts->xs.length=ts.length
 |[],[],_=>rfl
 |x::xs,t::ts,h=>by rw [QK,QK,Vws.length h.2]
theorem Vws.mono (e:Same H H'):∀{xs:List V} {ts:List Vk},Vws K H xs ts->Vws K H' xs ts
 |[],[],_=>True.intro
 |x::xs,t::ts,h=>⟨h.1.mono e,Vws.mono e h.2⟩
theorem Vws.get:∀{xs:List V} {ts:List Vk} {i:Nat} {t:Vk},Vws K H xs ts->ts[i]?=some t->∃x,xs[i]?=some x∧Vw K H x t
 |[],[],_,_,_,e=>by simp at e
 |x::xs,t::ts,0,t',h,e=>by
  cases (show some t=some t' by simpa using e);exact ⟨x,rfl,h.1⟩
 |x::xs,t::ts,i+1,t',h,e=>by
  obtain ⟨y,e1,e2⟩:=Vws.get (i:=i) h.2 (by simpa using e);exact ⟨y,by simpa using e1,e2⟩
end
def Tv (K:W.Frag) (H:Hp) (v:V) (ts:List Vk):Prop:=∃a xs,v=.ref a∧SqT K H a xs∧Vws K H xs ts
noncomputable abbrev U8:Str:="abcdefghijklmnopqrstuvwxyz"
noncomputable def X5 (c:Nat):Bool:=!(Builtin.Str.occurrences U8 ⟨#[c]⟩ 0 U8.length 1).isEmpty
noncomputable def WT:Vk->Bool
 |.str x=>decide (1≤x.length)&&decide (x.length≤8)&&x.cps.toList.all X5
 |_=>false
noncomputable def ZdT:Vk->Bool
 |.int i=>decide ((if i<0 then -i else i)≤10 ^ 18)
 |_=>false
noncomputable def Zcv:Vk->Bool
 |.int i=>decide (1≤i)&&decide (i≤10 ^ 18)
 |_=>false
noncomputable def Vu:Vk->Bool
 |.str x=>decide (x="he")||decide (x="she")||decide (x="")
 |_=>false
noncomputable def UW (t:Vk):Bool:=WT t||match t with
 |.str x=>decide (x="")
 |_=>false
inductive Chk where
 |name|sort|day|amount|parent
noncomputable def VM:Chk->Vk->Bool
 |.name=>WT
 |.sort=>Vu
 |.day=>ZdT
 |.amount=>Zcv
 |.parent=>UW
noncomputable def Wm:List (Str×List Chk):=[("born",[.name,.sort,.day,.parent,.parent]),("taken",[.name,.name,.day]),("union",[.name,.name,.day]),("parted",[.name,.name,.day]),("dead",[.name,.day]),("given",[.name,.name,.amount,.day])]
noncomputable def WV (w:Str):Option (List Chk):=(Wm.find? fun p=>decide (w=p.1)).map (·.2)
noncomputable def ZT:List Chk->List Vk->List Bool
 |c::cs,t::ts=>VM c t::ZT cs ts
 |_,_=>[]
noncomputable def Xw (cs:List Chk) (ts:List Vk):Bool:=decide (ts.length=cs.length)&&(ZT cs ts).all id
noncomputable def Vl:List Vk->Bool
 |.str w::ts=>((WV w).map fun cs=>Xw cs ts).getD false
 |_=>false
theorem JF (w:Str) (ts:List Vk):Vl (.str w::ts)=((WV w).map fun cs=>Xw cs ts).getD false:=rfl
structure Nm (x:Str):Prop where
 lo:1≤x.length
 hi:x.length≤8
 all:x.cps.toList.all X5=true
theorem Nm.ok {x:Str} (h:Nm x):WT (.str x)=true:=by
 show (decide (1≤x.length)&&decide (x.length≤8)&&x.cps.toList.all X5)=true;rw [Qm h.lo,Qm h.hi,h.all];rfl
section
variable {K:W.Frag} {mg:Str->Option Value}
noncomputable def Tx.ad (T:Tx K w mg):Chk->Addr
 |.name=>T.YW.a
 |.sort=>T.Ww.a
 |.day=>T.Xm.a
 |.amount=>T.Wf.a
 |.parent=>T.Wc.a
theorem kI (T:Tx K w mg):∀t:Vk,W.kitOne K t.ty (.type "int")=some (t.isI||t.isB)
 |.int _=>T.k_int_int
 |.str _=>T.k_str_int
 |.bl=>T.k_bool_int
 |.non=>T.k_NoneType_int
 |.tup=>T.k_tuple_int
 |.lst=>T.k_list_int
 |.dct=>T.k_dict_int
theorem kS (T:Tx K w mg):∀t:Vk,W.kitOne K t.ty (.type "str")=some t.isS
 |.int _=>T.k_int_str
 |.str _=>T.k_str_str
 |.bl=>T.k_bool_str
 |.non=>T.k_NoneType_str
 |.tup=>T.k_tuple_str
 |.lst=>T.k_list_str
 |.dct=>T.k_dict_str
theorem kT (T:Tx K w mg):∀t:Vk,W.kitOne K t.ty (.type "tuple")=some t.isT
 |.int _=>T.k_int_tuple
 |.str _=>T.k_str_tuple
 |.bl=>T.k_bool_tuple
 |.non=>T.k_NoneType_tuple
 |.tup=>T.k_tuple_tuple
 |.lst=>T.k_list_tuple
 |.dct=>T.k_dict_tuple
end
theorem Zfw {X:Cx} {N:List Str} {sc:Scope} {L:List (Str×NameKind)} {ns:St} (hk:sc.kind=.function) (hn:∀x∈sc.names,x.2=.local->sc.names.lookup x.1=some .local) (hc:∀y∈sc.names,y.2≠.cell)
  (clos:closureFor sc X.env=pure []) (e:(relabel sc X.env).names=L) (hL:∀y∈L,y.2≠.cell∧y.2≠.free) (hl:ns.length=N.length) (hs:∀o∈ns,o=none):CompSc X N sc [] (fun _=>ns):=by
 have no:∀(x:Str),¬((relabel sc X.env).names.lookup x=some .cell∨(relabel sc X.env).names.lookup x=some .free):=fun x h=>by
  rw [e] at h
  have lk:∀(M:List (Str×NameKind)) (k:NameKind),M.lookup x=some k->∃y∈M,y.2=k:=fun M k=>by
   induction M with
   |nil=>intro h;cases h
   |cons p r ih =>
    intro h;rw [G9] at h;split at h
    ·exact ⟨p,QC ..,Qn h⟩
    ·obtain ⟨y,hy,q⟩:=ih h;exact ⟨y,QF _ hy,q⟩
  rcases h with h|h
  ·obtain ⟨y,hy,q⟩:=lk _ _ h;exact (hL y hy).1 q
  ·obtain ⟨y,hy,q⟩:=lk _ _ h;exact (hL y hy).2 q
 refine ⟨hk,hn,hc,clos,(fun x c (h:([]:List (Str×Addr)).lookup x=some c)=>by cases h),fun x h=>absurd h (no x),fun _=>hl,fun σ i x v e1 e2=>?_⟩;have:=hs _ (QD e2);cases this
theorem Jo:(["sign"]:List Str).Nodup:=by decide +kernel
theorem nd2:(["check","part"]:List Str).Nodup:=by decide +kernel
theorem ZjS (z:Str):YV (.str z) [.str "he",.str "she",.str ""]=Vu (.str z):=by
 unfold YV Vu;rw [Rt];simp only [Rm,List.any_nil,XD,Bool.or_false,Gh,RN,Ni];constructor
 ·rintro (h|h|h)
  ·exact .inl (.inl h.symm)
  ·exact .inl (.inr h.symm)
  ·exact .inr h.symm
 ·rintro ((h|h)|h)
  ·exact .inl h.symm
  ·exact .inr (.inl h.symm)
  ·exact .inr (.inr h.symm)
theorem Zdo (x:Str):WT (.str x)=(decide (1≤x.length)&&decide (x.length≤8)&&x.cps.toList.all X5):=rfl
theorem ZlU (i:Int):Zcv (.int i)=(decide (1≤i)&&decide (i≤10 ^ 18)):=rfl
theorem ZfD:∀{cs:List Chk} {ts:List Vk},ts.length=cs.length->(ZT cs ts).length=cs.length
 |[],[],_=>rfl
 |c::cs,t::ts,h=>by
  show (ZT cs ts).length+1=cs.length+1;rw [ZfD (by simpa using h)]
theorem Zn0:∀{cs:List Chk} {ts:List Vk} {i:Nat} {y:V},ts.length=cs.length->((ZT cs ts).map V.bl)[i]?=some y->∃c t,cs[i]?=some c∧ts[i]?=some t∧y=.bl (VM c t):=by
 intro cs
 induction cs with
 |nil =>
  intro ts i y h e;cases ts with
  |nil=>simp [ZT] at e
  |cons t ts=>simp at h
 |cons c cs ih =>
  intro ts i y h e;cases ts with
  |nil=>simp at h
  |cons t ts =>
   cases i with
   |zero=>exact ⟨c,t,rfl,rfl,by simpa [ZT] using e.symm⟩
   |succ i =>
    obtain ⟨c',t',e1,e2,e3⟩:=ih (ts:=ts) (i:=i) (y:=y) (by simpa using h) (by simpa [ZT] using e);exact ⟨c',t',by simpa using e1,by simpa using e2,e3⟩
theorem Zhs {α:Type} {f:α->Bool}:∀{l:List α} {i:Nat} {p:α},l[i]?=some p->(∀j,j<i->∀p',l[j]?=some p'->f p'=false)->f p=true->l.find? f=some p
 |x::l,0,p,e,_,h=>by
  have e':x=p:=by simpa using e
  subst e';rw [RB,h]
 |x::l,i+1,p,e,b,h=>by
  rw [RB,b 0 (by omega) x rfl];exact Zhs (l:=l) (i:=i) (by simpa using e) (fun j hj p' e'=>b (j+1) (by omega) p' (by simpa using e')) h
theorem Ziz {w:Str} {i:Nat} {p:Str×List Chk} (e:Wm[i]?=some p) (b:∀j,j<i->∀p',Wm[j]?=some p'->w≠p'.1) (h:w=p.1):WV w=some p.2:=by
 unfold WV;rw [Zhs e (fun j hj p' e'=>Qj (b j hj p' e')) (Qm h)];rfl
theorem Zow {w:Str} (b:∀j,j<6->∀p',Wm[j]?=some p'->w≠p'.1):WV w=none:=by
 unfold WV;rw [Nj.mpr]
 ·rfl
 ·intro p hp;obtain ⟨j,hj,e⟩:=Gi hp;have:=b j hj p (by rw [←e];exact Qx hj);simpa using this
theorem ZkR:∀p∈Wm,p.2.length≤10:=by decide +kernel
theorem Zk5 {K:W.Frag} {mg:Str->Option Value} (T:Tx K w mg) {i:Nat} {p:Str×List Chk} (e:Wm[i]?=some p) :
  ∃P G,[V.ref T.p0,.ref T.p1,.ref T.p2,.ref T.p3,.ref T.p4,.ref T.p5][i]?=some (.ref P)∧(∀H,SqT K H P [.str p.1,.ref G])∧∀H,SqT K H G (p.2.map fun c=>.ref (T.ad c)):=by
 match i,e with
 |0,e=>cases e;exact ⟨_,_,rfl,T.sp0,T.sg0⟩
 |1,e=>cases e;exact ⟨_,_,rfl,T.sp1,T.sg1⟩
 |2,e=>cases e;exact ⟨_,_,rfl,T.sp2,T.sg2⟩
 |3,e=>cases e;exact ⟨_,_,rfl,T.sp3,T.sg3⟩
 |4,e=>cases e;exact ⟨_,_,rfl,T.sp4,T.sg4⟩
 |5,e=>cases e;exact ⟨_,_,rfl,T.sp5,T.sg5⟩
 |n+6,e=>cases e
theorem Zgm (x:V) (xs:List V):YN (x::xs) (some 1) none=xs:=by
 unfold YN
 have e:HT.sIx (x::xs).length 0 (some 1)=1:=by
  show HT.sIx (x::xs).length 0 (some ((1:Nat):Int))=1;rw [HT.sIx_nat,QK];omega
 rw [e];show (xs.take ((x::xs).length-1))=xs;simp
theorem few {n:Nat} (h:Nat.ble n 1000=true):n≤sizeLine:=QY (Zz (QG h))
theorem Z0 {b:Bool} {A B:Prop} (e:b=true) (h:A):if b=true then A else B:=by rw [Qc e];exact h
theorem Zt {b:Bool} {A B:Prop} (e:b=false) (h:B):if b=true then A else B:=by rw [Qa (by rw [e];decide)];exact h
theorem YA {b:Bool} {A B:Prop} (h1:b=true->A) (h2:b=false->B):if b=true then A else B:=by
 cases b with
 |true=>exact Z2 (h1 rfl)
 |false=>exact Z4 (h2 rfl)
section
variable {K:W.Frag} {H:Hp} {xs ys:List V} {ts:List Vk} {a b:Addr} {Q:VK}
theorem U5 {lo hi:Option Int} (ha:SqT K H a xs) (hn:¬(HT.sIx xs.length 0 lo=0∧HT.sIx xs.length xs.length hi=xs.length)) (h:∀H' p,Same H H'->SqT K H' p (YN xs lo hi)->Q (.ref p) H'):ZfQ K (.ref a) lo hi H Q :=
 ⟨a,xs,rfl,ha,hn,fun p np=>h _ p (Zk np) (.of Zg)⟩
end
theorem Zcq {x:V} {xs:List V}:∃y,Yl (x::xs) (-1)=some y∧(x::xs)[xs.length]?=some y:=by
 obtain ⟨ys,y,e⟩:∃ys y,x::xs=ys++[y]:=⟨(x::xs).dropLast,(x::xs).getLast (by simp),(NP (by simp)).symm⟩;refine ⟨y,by rw [e];exact Zip ys y,?_⟩
 have hl:xs.length=ys.length:=by
  have:=Qy List.length e;simp at this;omega
 rw [e,hl];simp
theorem Xj {x y:Str}:decide (V.str x=V.str y)=decide (x=y):=by
 rw [Rt];simp
inductive Ent where
 |born (n s:Str) (d:Int) (f m:Str)
 |taken (c t:Str) (d:Int)
 |union (a b:Str) (d:Int)
 |parted (a b:Str) (d:Int)
 |dead (n:Str) (d:Int)
 |given (g t:Str) (a d:Int)
noncomputable def Ent.row:Ent->List Zi
 |.born n s d f m=>[.inr "born",.inr n,.inr s,.inl d,.inr f,.inr m]
 |.taken c t d=>[.inr "taken",.inr c,.inr t,.inl d]
 |.union a b d=>[.inr "union",.inr a,.inr b,.inl d]
 |.parted a b d=>[.inr "parted",.inr a,.inr b,.inl d]
 |.dead n d=>[.inr "dead",.inr n,.inl d]
 |.given g t a d=>[.inr "given",.inr g,.inr t,.inl a,.inl d]
noncomputable def Ent.tie:Ent->Bool
 |.union ..=>true
 |.parted ..=>true
 |_=>false
noncomputable def Ent.named:Ent->List Str
 |.born _ _ _ f m=>[f,m].filter fun x:Str=>decide (x≠"")
 |.taken c t _=>[c,t]
 |.union a b _=>[a,b]
 |.parted a b _=>[a,b]
 |.dead n _=>[n]
 |.given g t _ _=>[g,t]
noncomputable def Ent.day:Ent->Int
 |.born _ _ d _ _=>d
 |.taken _ _ d=>d
 |.union _ _ d=>d
 |.parted _ _ d=>d
 |.dead _ d=>d
 |.given _ _ _ d=>d
def EntAt (K:W.Frag) (H:Hp) (v:V) (e:Ent):Prop:=∃a,v=.ref a∧SqT K H a (e.row.map kV)
theorem EntAt.mono {K:W.Frag} {H H':Hp} {v:V} {e:Ent} (h:EntAt K H v e) (s:Same H H'):EntAt K H' v e:=by
 obtain ⟨a,rfl,q⟩:=h;exact ⟨a,rfl,s.sqt q⟩
theorem Zh {r:List V} {j:Nat} {x:V} (h:r[j]?=some x):Yl r (j:Int)=some x:=XT h
noncomputable def V7 (x:Str):Option V:=if x="" then none else some (.str x)
theorem Zfj:∀l:List Str,(l.map V7).filterMap id=(l.filter fun x:Str=>decide (x≠"")).map V.str
 |[]=>rfl
 |x::r=>by
  have ih:=Zfj r;by_cases h:x=""
  ·subst h;simp only [Qp,QT,RX];simpa [V7] using ih
  ·simp only [Qp,QT,RX];simpa [V7,h] using ih
theorem ZJ {H H1:Hp} {D:Addr} (s:Same H H1) (n:H1 D=none):H D=none:=by
 cases e:H D with
 |none=>rfl
 |some o=>rw [s D o e] at n;cases n
noncomputable def Ent.key:Ent->List Zi
 |.born n _ _ _ _=>[.inr "born",.inr n]
 |.taken c t _=>[.inr "taken",.inr c,.inr t]
 |.union a b d=>[.inr "tie",.inr a,.inr b,.inl d]
 |.parted a b d=>[.inr "tie",.inr a,.inr b,.inl d]
 |.dead n _=>[.inr "dead",.inr n]
 |.given g t _ d=>[.inr "given",.inr g,.inr t,.inl d]
noncomputable def Ent.bornName:Ent->Option Str
 |.born n _ _ _ _=>some n
 |_=>none
structure Bk where
 kept:List (Ent×Addr)
 links:List ((Str×Str)×Addr×List Str)
 ties:List ((Str×Str)×Addr×List (Int×Str))
 sums:List ((Str×Str)×Int)
noncomputable def Zo (p:Str×Str):List Zi:=[.inr p.1,.inr p.2]
noncomputable def Bk.keptD (B:Bk):List (List Zi×V):=B.kept.map fun p=>(p.1.key,.ref p.2)
noncomputable def Bk.bornD (l:List (Ent×Addr)):List (Zi×V):=l.filterMap fun p=>p.1.bornName.map fun n=>(.inr n,.ref p.2)
noncomputable def Bk.linksD (B:Bk):List (List Zi×V):=B.links.map fun q=>(Zo q.1,.ref q.2.1)
noncomputable def Bk.tiesD (B:Bk):List (List Zi×V):=B.ties.map fun q=>(Zo q.1,.ref q.2.1)
noncomputable def Bk.sumsD (B:Bk):List (List Zi×V):=B.sums.map fun q=>(Zo q.1,.int q.2)
noncomputable def WH (k bi li ti su:Addr):List (Str×V):=[("kept",.ref k),("births",.ref bi),("links",.ref li),("ties",.ref ti),("sums",.ref su)]
structure BkAt (K:W.Frag) (C:Addr) (H:Hp) (b dx k bi li ti su:Addr) (B:Bk):Prop where
 ob:H b=some (.ins C dx (WH k bi li ti su))
 ap:[k,li,ti,su].Nodup
 at':(bi::B.ties.map (·.2.1)).Nodup
 ke:H k=some (.dT B.keptD)
 bi:H bi=some (.dK (Bk.bornD B.kept))
 li:H li=some (.dT B.linksD)
 ti:H ti=some (.dT B.tiesD)
 su:H su=some (.dT B.sumsD)
 en:∀p∈B.kept,SqT K H p.2 (p.1.row.map kV)
 ll:∀q∈B.links,H q.2.1=some (.lst (q.2.2.map V.str))
 tt:∀q∈B.ties,H q.2.1=some (.dK (q.2.2.map fun r=>(.inl r.1,.str r.2)))
theorem BkAt.mono {K:W.Frag} {C:Addr} {H H':Hp} {b dx k bi li ti su:Addr} {B:Bk} (h:BkAt K C H b dx k bi li ti su B) (s:Same H H'):BkAt K C H' b dx k bi li ti su B :=
 ⟨s _ _ h.ob,h.ap,h.at',s _ _ h.ke,s _ _ h.bi,s _ _ h.li,s _ _ h.ti,s _ _ h.su,fun p hp=>s.sqt (h.en p hp),fun q hq=>s _ _ (h.ll q hq),fun q hq=>s _ _ (h.tt q hq)⟩
def BkHas (K:W.Frag) (C:Addr) (H:Hp) (v:V) (B:Bk):Prop:=∃b dx k bi li ti su,v=.ref b∧BkAt K C H b dx k bi li ti su B
theorem BkHas.mono {K:W.Frag} {C:Addr} {H H':Hp} {v:V} {B:Bk} (h:BkHas K C H v B) (s:Same H H'):BkHas K C H' v B:=by
 obtain ⟨b,dx,k,bi,li,ti,su,e,h⟩:=h;exact ⟨b,dx,k,bi,li,ti,su,e,h.mono s⟩
noncomputable def Z3 (n:Str):List (Ent×Addr)->Option (Ent×Addr)
 |[]=>none
 |p::r=>if p.1.bornName=some n then some p else Z3 n r
theorem Zay {n:Str}:∀{l:List (Ent×Addr)} {p:Ent×Addr},Z3 n l=some p->p∈l∧p.1.bornName=some n
 |[],_,h=>by cases h
 |q::r,p,h=>by
  unfold Z3 at h;split at h
  ·cases h;exact ⟨QC ..,by assumption⟩
  ·obtain ⟨h1,h2⟩:=Zay h;exact ⟨QF _ h1,h2⟩
theorem Zdx (n:Str):∀l:List (Ent×Addr),ZM (Bk.bornD l) (.inr n:Zi)=(Z3 n l).map fun p=>.ref p.2
 |[]=>rfl
 |p::r=>by
  have ih:=Zdx n r;unfold Bk.bornD Z3;rw [QT];cases h:p.1.bornName with
  |none =>
   simp only [Option.map_none];rw [Qa (by simp)];exact ih
  |some x =>
   simp only [Np];by_cases e:x=n
   ·subst e;rw [XX rfl,Qc rfl];rfl
   ·rw [XW (fun q=>e (Rw q)),Qa (fun q=>e (Qn q))];exact ih
theorem ZdD {k bi li ti su:Addr}:(WH k bi li ti su).lookup ("kept" : Str)=some (.ref k):=rfl
theorem Za0 {k bi li ti su:Addr}:(WH k bi li ti su).lookup ("births" : Str)=some (.ref bi):=rfl
theorem Zbe {k bi li ti su:Addr}:(WH k bi li ti su).lookup ("links" : Str)=some (.ref li):=rfl
theorem ZhB {k bi li ti su:Addr}:(WH k bi li ti su).lookup ("ties" : Str)=some (.ref ti):=rfl
theorem Zed {k bi li ti su:Addr}:(WH k bi li ti su).lookup ("sums" : Str)=some (.ref su):=rfl
noncomputable def ZaT (B:Bk) (n:Str):Option (Str×Int):=match Z3 n B.kept with
 |some (.born _ s d _ _,_)=>some (s,d)
 |_=>none
noncomputable def X9 (B:Bk) (n:Str):Str:=((ZaT B n).map (·.1)).getD ""
noncomputable def Yk (B:Bk) (n:Str):Int:=((ZaT B n).map (·.2)).getD 0
theorem Zak {B:Bk} {n n' s f m:Str} {d:Int} {p:Ent×Addr} (h:Z3 n B.kept=some p) (e:p.1=.born n' s d f m):X9 B n=s:=by
 obtain ⟨e',a⟩:=p;cases e;unfold X9 ZaT;rw [h];rfl
theorem U9 {B:Bk} {n n' s f m:Str} {d:Int} {p:Ent×Addr} (h:Z3 n B.kept=some p) (e:p.1=.born n' s d f m):Yk B n=d:=by
 obtain ⟨e',a⟩:=p;cases e;unfold Yk ZaT;rw [h];rfl
noncomputable def Xx (B:Bk) (n s:Str) (d:Int):Bool:=decide (n="")||(decide (X9 B n=s)&&decide (Yk B n<d))
def Known (B:Bk) (n:Str):Prop:=Z3 n B.kept≠none
noncomputable def Wa (B:Bk) (e:Ent):Bool:=match e with
 |.born _ _ d f m=>Xx B f "he" d&&Xx B m "she" d
 |.taken c t d=>decide (c≠t)&&decide (Yk B t<Yk B c)&&e.named.all fun n=>decide (Yk B n≤d)
 |.dead n d=>decide (Yk B n≤d)
 |.union a b d=>decide (a≠b)&&e.named.all fun n=>decide (Yk B n≤d)
 |.parted a b d=>decide (a≠b)&&e.named.all fun n=>decide (Yk B n≤d)
 |.given a b _ d=>decide (a≠b)&&e.named.all fun n=>decide (Yk B n≤d)
theorem YL {a b:TS} {D:Ends} {σ:St} {H:Hp} (J:St->Hp->Prop) (h1:∀nx,(∀σ H,J σ H->nx σ H)->a { D with nx:=nx } σ H) (h2:∀σ H,J σ H->b D σ H):ZaN a b D σ H:=h1 (b D) h2
noncomputable def Ent.isBorn:Ent->Bool
 |.born ..=>true
 |_=>false
noncomputable def Ent.same:Ent->Bool
 |.taken c t _=>decide (c=t)
 |.union a b _=>decide (a=b)
 |.parted a b _=>decide (a=b)
 |.given a b _ _=>decide (a=b)
 |_=>false
noncomputable def Ent.early (B:Bk):Ent->Bool
 |.taken c t _=>decide (Yk B c≤Yk B t)
 |_=>false
theorem ZaG {B:Bk} {e:Ent} (h:e.isBorn=false):Wa B e=(!e.same&&!e.early B&&e.named.all fun n=>decide (Yk B n≤e.day)):=by
 cases e with
 |born=>cases h
 |taken c t d =>
  unfold Wa Ent.same Ent.early;have h1:decide (c≠t)=!decide (c=t):=by simp
  have h2:decide (Yk B t<Yk B c)=!decide (Yk B c≤Yk B t):=by
   rw [Rt];simp
  simp only [h1,h2];rfl
 |dead n d =>
  simp [Wa,Ent.same,Ent.early,Ent.named,Ent.day];rfl
 |_ =>
  simp [Wa,Ent.same,Ent.early,Ent.day];rfl
theorem Zoe {k bi li ti su:Addr}:ZH "sums" (.ref su) (ZH "ties" (.ref ti) (ZH "links" (.ref li) (ZH "births" (.ref bi) (ZH "kept" (.ref k) []))))=WH k bi li ti su:=by
 rfl
noncomputable def Jk:Bk:=⟨[],[],[],[]⟩
theorem Jr {H:Hp} {b dx C p:Addr} {fs:List (Str×V)} (f:Str) (o:HO) (h:H b=some (.ins C dx fs)) (n:H p=none) :
  (Zb (Zb H p o) b (.ins C dx (ZH f (.ref p) fs))) b=some (.ins C dx (ZH f (.ref p) fs))∧(Zb (Zb H p o) b (.ins C dx (ZH f (.ref p) fs))) p=some o ∧
  (∀c u,H c=some u->c≠b->(Zb (Zb H p o) b (.ins C dx (ZH f (.ref p) fs))) c=some u)∧∀c,(Zb (Zb H p o) b (.ins C dx (ZH f (.ref p) fs))) c=none->H c=none:=by
 have pb:p≠b:=fun e=>by subst e;rw [h] at n;cases n
 refine ⟨Zg,(Zd pb).trans Zg,fun c u e cb=>(Zd cb).trans ((Zd (ZO e n)).trans e),fun c e=>?_⟩;by_cases cb:c=b
 ·subst cb;rw [Zg] at e;cases e
 rw [Zd cb] at e;by_cases cp:c=p
 ·subst cp;exact n
 rw [Zd cp] at e;exact e
noncomputable def ZB (c:Str×Str):List ((Str×Str)×Addr×List Str)->Option (Addr×List Str)
 |[]=>none
 |q::r=>if q.1=c then some q.2 else ZB c r
theorem WF {a b:Str×Str} (h:Zo a=Zo b):a=b:=by
 unfold Zo at h;simp at h;exact R1 h.1 h.2
theorem Wb (c:Str×Str):∀l:List ((Str×Str)×Addr×List Str),ZM (l.map fun q=>(Zo q.1,V.ref q.2.1)) (Zo c)=(ZB c l).map fun q=>.ref q.1
 |[]=>rfl
 |q::r=>by
  have ih:=Wb c r;unfold ZB;rw [Qp];by_cases e:q.1=c
  ·subst e;rw [XX rfl,Qc rfl];rfl
  ·rw [XW (fun z=>e (WF z)),Qa e];exact ih
theorem Zbs {c:Str×Str}:∀{l:List ((Str×Str)×Addr×List Str)} {x:Addr×List Str},ZB c l=some x->∃q∈l,q.2=x
 |[],_,h=>by cases h
 |q::r,x,h=>by
  unfold ZB at h;split at h
  ·cases h;exact ⟨q,QC ..,rfl⟩
  ·obtain ⟨z,hz,e⟩:=Zbs h;exact ⟨z,QF _ hz,e⟩
noncomputable def Yy (B:Bk) (l n:Str):List Str:=((ZB (l,n) B.links).map (·.2)).getD []
noncomputable def Xn:List Str:=["F","M","T","f","m","t","S"]
noncomputable def V2 (x:Str):Bool:=decide (x∈Xn)
theorem WI (x:Str):∀l:List Str,YV (.str x) (l.map V.str)=decide (x∈l):=by
 intro l;unfold YV
 induction l with
 |nil=>rfl
 |cons y r ih =>
  rw [Qp,Rm,ih];by_cases h:x=y
  ·subst h;simp [XD]
  ·simp [XD,h,QZ h]
theorem Jj {a b:Str} (h1:ZP a b=false) (h2:ZP b a=false):a=b:=by
 unfold ZP at h1 h2
 have e:a.cps.toList=b.cps.toList:=by
  have l1:=Rg h1;have l2:=Rg h2;exact List.le_antisymm (List.not_lt.mp l2) (List.not_lt.mp l1)
 obtain ⟨a⟩:=a;obtain ⟨b⟩:=b;have e2:a=b:=Array.toList_inj.mp e;rw [e2]
noncomputable def Zf (a b:Str):Str×Str:=if ZP b a=true then (b,a) else (a,b)
theorem Zfh {a b:Str} {zs:List Str} (hp:zs.Perm [a,b]) (hs:PyProof.Rows.sortedS zs=true):zs=[(Zf a b).1,(Zf a b).2]:=by
 have hl:=hp.length_eq
 match zs,hl with
 |[x,y],_ =>
  have hs2:ZP y x=false:=by
   have h3:(!PySem.Spec.ltCps y.cps.toList x.cps.toList&&true)=true:=hs;rw [PyProof.Rows.ltCps_eq] at h3;simpa [ZP] using h3
  have hm:x∈[a,b]:=hp.subset (by simp)
  have hp2:(x=a∧y=b)∨(x=b∧y=a):=by
   rcases Qh.mp hm with rfl|hm
   ·have:=hp.cons_inv;exact .inl ⟨rfl,by simpa using this⟩
   ·have e:x=b:=by simpa using hm
    subst e;have h4:[x,y].Perm [x,a]:=hp.trans (List.Perm.swap ..);have:=h4.cons_inv;exact .inr ⟨rfl,by simpa using this⟩
  unfold Zf;rcases hp2 with ⟨rfl,rfl⟩|⟨rfl,rfl⟩
  ·rw [hs2];rfl
  ·by_cases h:ZP x y=true
   ·rw [Qc h]
   ·rw [Qa h,Jj (Ru.mpr h) hs2]
noncomputable def Ent.told:Ent->Ent
 |.union a b d=>.union (Zf a b).1 (Zf a b).2 d
 |.parted a b d=>.parted (Zf a b).1 (Zf a b).2 d
 |e=>e
theorem ZbW (a b:Str):(if ZP b a=true then b else a)=(Zf a b).1:=by
 unfold Zf;by_cases h:ZP b a=true
 ·rw [Qc h,Qc h]
 ·rw [Qa h,Qa h]
theorem Zcy (a b:Str):(if ZP a b=true then b else a)=(Zf a b).2:=by
 unfold Zf;by_cases h:ZP b a=true
 ·rw [Qc h];by_cases h2:ZP a b=true
  ·have l1:b.cps.toList<a.cps.toList:=QB h;have l2:a.cps.toList<b.cps.toList:=QB h2;exact absurd l1 (NQ l2)
  ·rw [Qa h2]
 ·rw [Qa h];by_cases h2:ZP a b=true
  ·rw [Qc h2]
  ·rw [Qa h2,Jj (Ru.mpr h) (Ru.mpr h2)]
noncomputable def JS:Zi->Vk
 |.inl i=>.int i
 |.inr x=>.str x
theorem ZbO {K:W.Frag} {H:Hp}:∀(l:List Zi),(∀x:Str,(.inr x:Zi)∈l->x.length≤100)->Vws K H (l.map kV) (l.map JS)
 |[],_=>trivial
 |.inl i::r,h=>⟨rfl,ZbO r fun x hx=>h x (QF _ hx)⟩
 |.inr y::r,h=>⟨⟨rfl,h y (QC ..)⟩,ZbO r fun x hx=>h x (QF _ hx)⟩
structure Ent.Ok (e:Ent):Prop where
 en:Vl (e.row.map JS)=true
 sh:∀x:Str,(.inr x:Zi)∈e.row->x.length≤100
theorem Ent.row_len (e:Ent):(e.row.map JS).length≤10:=by
 cases e<;>exact QG rfl
theorem Ent.Ok.tv {e:Ent} (h:e.Ok) {K:W.Frag} {H:Hp} {a:Addr} (hE:SqT K H a (e.row.map kV)):Tv K H (.ref a) (e.row.map JS):=⟨a,_,rfl,hE,ZbO _ h.sh⟩
inductive Rf where
 |full|person|twice|fit
noncomputable def Bk.full (B:Bk) (e:Ent):Bool:=decide (400≤B.kept.length)||(e.isBorn&&decide (60≤(Bk.bornD B.kept).length))
noncomputable def X1 (B:Bk) (e:Ent):Option Rf :=
 if B.full e=true then some .full
 else if (e.named.all fun n=>(Z3 n B.kept).isSome)=false then some .person
 else if (ZM B.keptD e.told.key).isSome=true then some .twice
 else if Wa B e=true then none else some .fit
theorem Zew {B:Bk} {e:Ent} (kn:∀n∈e.named,Known B n):(e.named.all fun n=>(Z3 n B.kept).isSome)=true:=by
 rw [Rv];intro n hn;have:=kn n hn;unfold Known at this;exact N8.mpr this
theorem ZkZ {B:Bk} {e:Ent} (h:B.full e=false) (kn:∀n∈e.named,Known B n) (t:(ZM B.keptD e.told.key).isSome=false) (f:Wa B e=true):X1 B e=none:=by
 unfold X1;rw [h,Qa (by decide),Zew kn,Qa (by decide),t,Qa (by decide),f,Qc rfl]
theorem Zfm {a b c:Str} (h1:ZP a b=true) (h2:ZP b c=true):ZP a c=true:=by
 unfold ZP at *;exact Qm (List.lt_trans (QB h1) (QB h2))
theorem Zlo (a:Str):ZP a a=false:=by
 unfold ZP;exact Qj (List.lt_irrefl _)
noncomputable def YI (a b:Str):Bool:=!ZP b a
theorem ZeB {a b c:Str} (h1:YI a b=true) (h2:YI b c=true):YI a c=true:=by
 unfold YI at *;simp only [ND] at *;cases h:ZP c a with
 |false=>rfl
 |true =>
  by_cases e:a=b
  ·subst e;rw [h] at h2;cases h2
  ·have hab:ZP a b=true:=by
    cases h3:ZP a b with
    |true=>rfl
    |false=>exact absurd (Jj h3 h1) e
   rw [Zfm h hab] at h2;cases h2
theorem Zom (a b:Str):(YI a b||YI b a)=true:=by
 unfold YI;cases h:ZP b a with
 |false=>rfl
 |true =>
  cases h2:ZP a b with
  |false=>rfl
  |true=>exact absurd (Zfm h2 h) (by rw [Zlo a];decide)
noncomputable def ZC (l:List Str):List Str:=l.mergeSort YI
theorem Wh (l:List Str):(ZC l).Perm l:=List.mergeSort_perm ..
theorem Uh (l:List Str):(ZC l).Pairwise fun a b=>YI a b=true:=List.pairwise_mergeSort (le:=YI) (fun _ _ _=>ZeB) Zom l
theorem Zdk:∀{l:List Str},PyProof.Rows.sortedS l=true->l.Pairwise fun a b=>YI a b=true
 |[],_=>.nil
 |[x],_=>.cons (by simp) .nil
 |x::y::r,h=>by
  have h':(!PySem.Spec.ltCps y.cps.toList x.cps.toList&&PyProof.Rows.risingS y r)=true:=h;rw [RA] at h';obtain ⟨h1,h2⟩:=h';have ih:=Zdk (l:=y::r) h2
  have hxy:YI x y=true:=by
   rw [PyProof.Rows.ltCps_eq] at h1;exact h1
  refine .cons (fun z hz=>?_) ih;rcases Qh.mp hz with rfl|hz
  ·exact hxy
  ·exact ZeB hxy (NR ih hz)
theorem Za7:∀{l m:List Str},l.Perm m->(l.Pairwise fun a b=>YI a b=true)->(m.Pairwise fun a b=>YI a b=true)->l=m
 |[],m,p,_,_=>p.nil_eq
 |x::l,[],p,_,_=>absurd p.length_eq (by simp)
 |x::l,y::m,p,h1,h2=>by
  have e:x=y:=by
   by_cases e:x=y
   ·exact e
   have hx:x∈m:=by
    have:x∈y::m:=p.subset (QC ..);rcases Qh.mp this with h|h
    ·exact absurd h e
    ·exact h
   have hy:y∈l:=by
    have:y∈x::l:=p.symm.subset (QC ..);rcases Qh.mp this with h|h
    ·exact absurd h.symm e
    ·exact h
   have a1:=NR h1 hy;have a2:=NR h2 hx;unfold YI at a1 a2;simp only [ND] at a1 a2;exact Jj a2 a1
  subst e;rw [Za7 p.cons_inv (List.pairwise_cons.mp h1).2 (List.pairwise_cons.mp h2).2]
theorem ZfH {zs l:List Str} (hp:zs.Perm l) (hs:PyProof.Rows.sortedS zs=true):zs=ZC l:=Za7 (hp.trans (Wh l).symm) (Zdk hs) (Uh l)
structure But (S:List Addr) (H H':Hp):Prop where
 eq:∀a o,a∉S->H a=some o->H' a=some o
 al:∀a,H' a=none->H a=none
theorem But.of {H H':Hp} (S:List Addr) (s:Same H H'):But S H H':=⟨fun a o _ e=>s a o e,fun a n=>ZJ s n⟩
theorem But.trans {S:List Addr} {H H' H'':Hp} (h1:But S H H') (h2:But S H' H''):But S H H'':=⟨fun a o n e=>h2.eq a o n (h1.eq a o n e),fun a n=>h1.al a (h2.al a n)⟩
theorem But.put {S:List Addr} {H:Hp} {a:Addr} {o o':HO} (e:H a=some o) (h:a∈S):But S H (Zb H a o'):=by
 refine ⟨fun c u n q=>(Zd (fun z:c=a=>n (by rw [z];exact h))).trans q,fun c n=>?_⟩;by_cases z:c=a
 ·subst z;rw [Zg] at n;cases n
 ·rw [Zd z] at n;exact n
noncomputable def Zp {κ α:Type} [DecidableEq κ] (l:List (κ×α)) (c:κ) (x:α):List (κ×α) :=
 if (l.any fun q=>decide (q.1=c))=true then l.map (fun q=>if q.1=c then (q.1,x) else q) else l++[(c,x)]
theorem Uz {κ κ' α:Type} [DecidableEq κ] [DecidableEq κ'] {f:κ->κ'} (hf:∀a b,f a=f b->a=b) (g:α->V) (l:List (κ×α)) (c:κ) (x:α) :
  Yj (l.map fun q=>(f q.1,g q.2)) (f c) (g x)=(Zp l c x).map fun q=>(f q.1,g q.2):=by
 have hd:∀a:κ,decide (f a=f c)=decide (a=c):=fun a=>by
  by_cases e:a=c
  ·subst e;simp
  ·rw [Qj e,Qj (fun z=>e (hf _ _ z))]
 unfold Yj Zp
 have e1:((l.map fun q=>(f q.1,g q.2)).any fun kv=>decide (kv.1=f c))=l.any fun q=>decide (q.1=c):=by
  rw [List.any_map];exact Qy (fun z=>l.any z) (funext fun q=>hd q.1)
 rw [e1];by_cases h:(l.any fun q=>decide (q.1=c))=true
 ·rw [Qc h,Qc h,QX,QX];refine R8 fun q _=>?_;show (if f q.1=f c then (f q.1,g x) else (f q.1,g q.2))=(fun q=>(f q.1,g q.2)) (if q.1=c then (q.1,x) else q);by_cases e:q.1=c
  ·rw [Qc e,Qc (by rw [e])]
  ·rw [Qa e,Qa (fun z=>e (hf _ _ z))]
 ·rw [Qa h,Qa h,Qr];rfl
theorem Ux {κ α:Type} [DecidableEq κ] {l:List (κ×α)} {c:κ} {x:α} {q:κ×α} (h:q∈Zp l c x):q=(c,x)∨q∈l:=by
 unfold Zp at h;split at h
 ·obtain ⟨p,hp,e⟩:=Qk.mp h;split at e
  ·rename_i pc;subst e;exact .inl (by rw [pc])
  ·subst e;exact .inr hp
 ·rcases Qq.mp h with h|h
  ·exact .inr h
  ·exact .inl (by simpa using h)
theorem ZaP {k li ti su:Addr} (h:[k,li,ti,su].Nodup):k≠li∧k≠ti∧k≠su∧li≠ti∧li≠su∧ti≠su:=by
 simp at h;exact ⟨h.1.1,h.1.2.1,h.1.2.2,h.2.1.1,h.2.1.2,h.2.2⟩
theorem YF {H:Hp} {a c:Addr} {o u:HO} (h1:H a=some o) (h2:H c=some u) (n:o≠u):a≠c:=fun e=>by
 subst e;rw [h1] at h2;exact n (Qn h2)
theorem YH {K:W.Frag} {H:Hp} {a c:Addr} {xs:List V} {o o':HO} (h:SqT K H a xs) (e:H c=some o) (no:∀ys,o≠.tup ys) (nf:∀x ys,o≠.frz x ys):SqT K (Zb H c o') a xs:=by
 rcases h with h|h
 ·rcases h with h|⟨x,h⟩
  ·exact .inl (.inl ((Zd (YF h e (fun z=>no _ z.symm))).trans h))
  ·exact .inl (.inr ⟨x,(Zd (YF h e (fun z=>nf _ _ z.symm))).trans h⟩)
 ·exact .inr h
theorem BkAt.links {K:W.Frag} {C:Addr} {H:Hp} {b dx k bi li ti su:Addr} {B:Bk} (h:BkAt K C H b dx k bi li ti su B) {l:List ((Str×Str)×Addr×List Str)}
  (hl:∀q∈l,H q.2.1=some (.lst (q.2.2.map V.str))):BkAt K C (Zb H li (.dT (l.map fun q=>(Zo q.1,V.ref q.2.1)))) b dx k bi li ti su { B with links:=l }:=by
 obtain ⟨n1,n2,n3,n4,n5,n6⟩:=ZaP h.ap;have dk:∀{c:Addr} {z:List (Zi×V)},H c=some (.dK z)->c≠li:=fun e=>YF e h.li (fun z=>by cases z)
 exact ⟨(Zd (YF h.ob h.li (fun z=>by cases z))).trans h.ob,h.ap,h.at',(Zd n1).trans h.ke,(Zd (dk h.bi)).trans h.bi,Zg,(Zd n4.symm).trans h.ti,(Zd n5.symm).trans h.su,
  fun p hp=>YH (h.en p hp) h.li (fun _ z=>by cases z) (fun _ _ z=>by cases z),fun q hq=>(Zd (YF (hl q hq) h.li (fun z=>by cases z))).trans (hl q hq),fun q hq=>(Zd (dk (h.tt q hq))).trans (h.tt q hq)⟩
noncomputable def lk (ls:List ((Str×Str)×Addr×List Str)) (c:Str×Str):List Str:=((ZB c ls).map (·.2)).getD []
noncomputable def Z7 (f:Str×Str->List Str) (c:Str×Str) (m:Str):Str×Str->List Str:=fun x=>if x=c then ZC (f c++[m]) else f x
theorem ZeG {c:Str×Str}:∀{l:List ((Str×Str)×Addr×List Str)},(l.any fun q=>decide (q.1=c))=false->ZB c l=none
 |[],_=>rfl
 |q::r,h=>by
  rw [Rm,Bool.or_eq_false_iff] at h;unfold ZB;rw [Qa (Rg h.1)];exact ZeG h.2
theorem Zdm {c:Str×Str}:∀{l m:List ((Str×Str)×Addr×List Str)},ZB c (l++m)=(ZB c l).or (ZB c m)
 |[],m=>by simp [ZB]
 |q::r,m=>by
  show (if q.1=c then some q.2 else ZB c (r++m))=(if q.1=c then some q.2 else ZB c r).or (ZB c m);by_cases e:q.1=c
  ·rw [Qc e,Qc e];rfl
  ·rw [Qa e,Qa e];exact Zdm
theorem Zgc {c d:Str×Str} {x:Addr×List Str}:∀{l:List ((Str×Str)×Addr×List Str)},ZB d (l.map fun q=>if q.1=c then (q.1,x) else q)=if d=c then (ZB c l).map (fun _=>x) else ZB d l
 |[]=>by by_cases e:d=c<;>simp [ZB,e]
 |q::r=>by
  have ih:=Zgc (c:=c) (d:=d) (x:=x) (l:=r);rw [Qp];by_cases e:q.1=c
  ·rw [Qc e];by_cases e2:d=c
   ·subst e2;rw [Qc rfl];unfold ZB;rw [Qc e,Qc e];rfl
   ·rw [Qa e2] at ih ⊢;unfold ZB;rw [Qa (fun z=>e2 (z.symm.trans e)),Qa (fun z=>e2 (z.symm.trans e))];exact ih
  ·rw [Qa e];by_cases e2:d=c
   ·subst e2;rw [Qc rfl] at ih ⊢;unfold ZB;rw [Qa e,Qa e];exact ih
   ·rw [Qa e2] at ih ⊢;unfold ZB;by_cases e3:q.1=d
    ·rw [Qc e3,Qc e3]
    ·rw [Qa e3,Qa e3];exact ih
theorem Zfv (l:List ((Str×Str)×Addr×List Str)) (c d:Str×Str) (x:Addr×List Str):ZB d (Zp l c x)=if d=c then some x else ZB d l:=by
 unfold Zp;by_cases h:(l.any fun q=>decide (q.1=c))=true
 ·rw [Qc h,Zgc];by_cases e:d=c
  ·rw [Qc e,Qc e];cases hk:ZB c l with
   |some y=>rfl
   |none =>
    exfalso
    have:∀{l:List ((Str×Str)×Addr×List Str)},ZB c l=none->(l.any fun q=>decide (q.1=c))=false:=by
     intro l
     induction l with
     |nil=>intro _;rfl
     |cons q r ih =>
      intro hn;unfold ZB at hn;by_cases e:q.1=c
      ·rw [Qc e] at hn;cases hn
      ·rw [Qa e] at hn;rw [Rm,ih hn,Qj e];rfl
    rw [this hk] at h;cases h
  ·rw [Qa e,Qa e]
 ·rw [Qa h,Zdm];by_cases e:d=c
  ·subst e;rw [Qc rfl,ZeG (Ru.mpr h)];simp [ZB]
  ·rw [Qa e];cases ZB d l with
   |some y=>rfl
   |none=>simp [ZB,QZ e]
theorem WJ (l:List ((Str×Str)×Addr×List Str)) (c d:Str×Str) (D:Addr) (m:Str):lk (Zp l c (D,ZC (lk l c++[m]))) d=Z7 (lk l) c m d:=by
 unfold lk Z7;rw [Zfv];by_cases e:d=c
 ·rw [Qc e,Qc e];rfl
 ·rw [Qa e,Qa e]
theorem XG {κ α:Type} [DecidableEq κ] (l:List (κ×α)) (c:κ) (x:α):(Zp l c x).length≤l.length+1:=by
 unfold Zp;split
 ·rw [Qd];omega
 ·rw [Qu];exact Qf _
theorem VO (B:Bk) (l n:Str):Yy B l n=lk B.links (l,n):=rfl
noncomputable def Xc (F:Str×Str->List Str) (n f m:Str):Str×Str->List Str :=
 let F1:=if f="" then F else Z7 (Z7 F ("F",n) f) ("f",f) n
 if m="" then F1 else Z7 (Z7 F1 ("M",n) m) ("m",m) n
theorem JN {F:Str×Str->List Str} {c d:Str×Str} {m:Str} (h:d.1≠c.1):Z7 F c m d=F d:=Qa fun e=>h (by rw [e])
theorem JW {F G:Str×Str->List Str} (h:∀c,F c=G c) (c:Str×Str) (m:Str) (d:Str×Str):Z7 F c m d=Z7 G c m d:=by
 unfold Z7;rw [h c,h d]
theorem Zjt (l:List (Ent×Addr)) (n s:Str) (d:Int) (f m:Str) (a:Addr):Bk.bornD (l++[(.born n s d f m,a)])=Bk.bornD l++[(.inr n,.ref a)]:=by
 unfold Bk.bornD;rw [RD];rfl
theorem Zkt (l:List (Ent×Addr)):(Bk.bornD l).length≤l.length:=Na ..
theorem But.mono {S S':List Addr} {H H':Hp} (h:But S H H') (i:∀a∈S,a∈S'):But S' H H':=⟨fun a o n e=>h.eq a o (fun z=>n (i a z)) e,h.al⟩
noncomputable def Za8 (l:List (Ent×Addr)):List (Str×V):=l.filterMap fun p=>p.1.bornName.map fun n=>(n,.ref p.2)
theorem ZjB (l:List (Ent×Addr)):Bk.bornD l=(Za8 l).map fun p=>(.inr p.1,p.2):=by
 unfold Bk.bornD Za8;rw [List.map_filterMap]
 congr 1
 funext p
 cases p.1.bornName<;>rfl
noncomputable def Wj (l:List (Ent×Addr)):List Str:=l.filterMap fun p=>p.1.bornName
theorem ZjM (l:List (Ent×Addr)):(Za8 l).map (·.1)=Wj l:=by
 unfold Wj Za8;rw [List.map_filterMap]
 congr 1
 funext p
 cases p.1.bornName<;>rfl
def Grows (H:Hp) (ls ls':List ((Str×Str)×Addr×List Str)):Prop:=∀q∈ls',(∃p∈ls,p.2.1=q.2.1)∨H q.2.1=none
theorem Grows.refl (H:Hp) (ls:List ((Str×Str)×Addr×List Str)):Grows H ls ls:=fun q hq=>.inl ⟨q,hq,rfl⟩
theorem Grows.put {H:Hp} {ls ls':List ((Str×Str)×Addr×List Str)} {c:Str×Str} {D:Addr} {x:List Str} (g:Grows H ls ls') (n:H D=none):Grows H ls (Zp ls' c (D,x)):=fun q hq=>by
 rcases Ux hq with rfl|hq
 ·exact .inr n
 ·exact g q hq
theorem Grows.back {H H':Hp} {ls ls':List ((Str×Str)×Addr×List Str)} (g:Grows H' ls ls') (al:∀a,H' a=none->H a=none):Grows H ls ls':=fun q hq=>(g q hq).imp id (al _)
noncomputable def Zv {κ α:Type} [DecidableEq κ] (c:κ):List (κ×α)->Option α
 |[]=>none
 |q::r=>if q.1=c then some q.2 else Zv c r
theorem ZgB {κ α:Type} [DecidableEq κ] {c:κ}:∀{l:List (κ×α)},(l.any fun q=>decide (q.1=c))=false->Zv c l=none
 |[],_=>rfl
 |q::r,h=>by
  rw [Rm,Bool.or_eq_false_iff] at h;unfold Zv;rw [Qa (Rg h.1)];exact ZgB h.2
theorem Za5 {κ α:Type} [DecidableEq κ] {c:κ}:∀{l:List (κ×α)},Zv c l=none->(l.any fun q=>decide (q.1=c))=false
 |[],_=>rfl
 |q::r,h=>by
  unfold Zv at h;by_cases e:q.1=c
  ·rw [Qc e] at h;cases h
  ·rw [Qa e] at h;rw [Rm,Za5 h,Qj e];rfl
theorem ZaX {κ α:Type} [DecidableEq κ] {c:κ}:∀{l m:List (κ×α)},Zv c (l++m)=(Zv c l).or (Zv c m)
 |[],m=>by simp [Zv]
 |q::r,m=>by
  show (if q.1=c then some q.2 else Zv c (r++m))=(if q.1=c then some q.2 else Zv c r).or (Zv c m);by_cases e:q.1=c
  ·rw [Qc e,Qc e];rfl
  ·rw [Qa e,Qa e];exact ZaX
theorem Zf1 {κ α:Type} [DecidableEq κ] {c d:κ} {x:α}:∀{l:List (κ×α)},Zv d (l.map fun q=>if q.1=c then (q.1,x) else q)=if d=c then (Zv c l).map (fun _=>x) else Zv d l
 |[]=>by by_cases e:d=c<;>simp [Zv,e]
 |q::r=>by
  have ih:=Zf1 (c:=c) (d:=d) (x:=x) (l:=r);rw [Qp];by_cases e:q.1=c
  ·rw [Qc e];by_cases e2:d=c
   ·subst e2;rw [Qc rfl];unfold Zv;rw [Qc e,Qc e];rfl
   ·rw [Qa e2] at ih ⊢;unfold Zv;rw [Qa (fun z=>e2 (z.symm.trans e)),Qa (fun z=>e2 (z.symm.trans e))];exact ih
  ·rw [Qa e];by_cases e2:d=c
   ·subst e2;rw [Qc rfl] at ih ⊢;unfold Zv;rw [Qa e,Qa e];exact ih
   ·rw [Qa e2] at ih ⊢;unfold Zv;by_cases e3:q.1=d
    ·rw [Qc e3,Qc e3]
    ·rw [Qa e3,Qa e3];exact ih
theorem Zcl {κ α:Type} [DecidableEq κ] (l:List (κ×α)) (c d:κ) (x:α):Zv d (Zp l c x)=if d=c then some x else Zv d l:=by
 unfold Zp;by_cases h:(l.any fun q=>decide (q.1=c))=true
 ·rw [Qc h,Zf1];by_cases e:d=c
  ·rw [Qc e,Qc e];cases hk:Zv c l with
   |some y=>rfl
   |none=>rw [Za5 hk] at h;cases h
  ·rw [Qa e,Qa e]
 ·rw [Qa h,ZaX];by_cases e:d=c
  ·subst e;rw [Qc rfl,ZgB (Ru.mpr h)];simp [Zv]
  ·rw [Qa e];cases Zv d l with
   |some y=>rfl
   |none=>simp [Zv,QZ e]
theorem Wl {κ α:Type} [DecidableEq κ] {c:κ}:∀{l:List (κ×α)} {x:α},Zv c l=some x->(c,x)∈l
 |[],_,h=>by cases h
 |q::r,x,h=>by
  unfold Zv at h;by_cases e:q.1=c
  ·rw [Qc e] at h;cases h;rw [←e];exact QC ..
  ·rw [Qa e] at h;exact QF _ (Wl h)
theorem V6 {κ κ' α:Type} [DecidableEq κ] [DecidableEq κ'] {f:κ->κ'} (hf:∀a b,f a=f b->a=b) (g:α->V) (c:κ):∀l:List (κ×α),ZM (l.map fun q=>(f q.1,g q.2)) (f c)=(Zv c l).map g
 |[]=>rfl
 |q::r=>by
  have ih:=V6 hf g c r;unfold Zv;rw [Qp];by_cases e:q.1=c
  ·subst e;rw [XX rfl,Qc rfl];rfl
  ·rw [XW (fun z=>e (hf _ _ z)),Qa e];exact ih
noncomputable def Yz (B:Bk) (c:Str×Str):List (Int×Str):=((Zv c B.ties).map (·.2)).getD []
noncomputable def YK (l:List (Int×Str)):Bool:=match (l.map (·.1)).max? with
 |none=>false
 |some m=>decide (Zv m l=some ("union" : Str))
noncomputable def ZaB (B:Bk) (a b:Str):Bool:=YK (Yz B (Zf a b))
noncomputable def YQ (l:List (Int×Str)):List (Zi×V):=l.map fun r=>(.inl r.1,.str r.2)
theorem Zhf:∀a b:Int,(.inl a:Zi)=.inl b->a=b:=fun _ _ h=>Sum.inl.inj h
theorem Zlu {l:List (Int×Str)} {m:Int} (h:m∈l.map (·.1)):∃x,Zv m l=some x:=by
 cases e:Zv m l with
 |some x=>exact ⟨x,rfl⟩
 |none =>
  obtain ⟨q,hq,rfl⟩:=Qk.mp h;have:=Za5 e;rw [Nw] at this;exact absurd (Qm rfl) (this q hq)
theorem ZgL {l:List (Int×Str)} {m:Int} {x:Str} (hm:m∈l.map (·.1)) (hx:∀y∈l.map (·.1),y≤m) (e:Zv m l=some x):YK l=decide (x="union"):=by
 have h:(l.map (·.1)).max?=some m:=List.max?_eq_some_iff.mpr ⟨hm,hx⟩;unfold YK;rw [h];show decide (Zv m l=some ("union" : Str))=_;rw [e];simp
theorem Zcd (a b:Str):Zf a b=Zf b a:=by
 unfold Zf;by_cases h:ZP b a=true
 ·by_cases h2:ZP a b=true
  ·have l1:b.cps.toList<a.cps.toList:=QB h;have l2:a.cps.toList<b.cps.toList:=QB h2;exact absurd l1 (NQ l2)
  ·rw [Qc h,Qa h2]
 ·by_cases h2:ZP a b=true
  ·rw [Qa h,Qc h2]
  ·rw [Qa h,Qa h2,Jj (Ru.mpr h) (Ru.mpr h2)]
noncomputable def ZL (F:Str×Str->List Str) (st:Bool) (x y:Str):Str×Str->List Str:=fun c =>
 if c=(("S",x):Str×Str) then (if st=true then ZC ((F c).filter (fun n=>decide (n≠y))++[y]) else (F c).filter fun n=>decide (n≠y)) else F c
noncomputable def YT (ts:List ((Str×Str)×Addr×List (Int×Str))) (c:Str×Str):List (Int×Str):=((Zv c ts).map (·.2)).getD []
theorem Zju (B:Bk) (c:Str×Str):Yz B c=YT B.ties c:=rfl
theorem Zhc {ts:List ((Str×Str)×Addr×List (Int×Str))} {c:Str×Str} {d:Addr} {l l':List (Int×Str)} (n:(ts.map (·.1)).Nodup) (h:Zv c ts=some (d,l)):(Zp ts c (d,l')).map (·.2.1)=ts.map (·.2.1)∧(Zp ts c (d,l')).map (·.1)=ts.map (·.1):=by
 have an:(ts.any fun q=>decide (q.1=c))=true:=by
  rw [GK];exact ⟨_,Wl h,Qm rfl⟩
 unfold Zp;rw [Qc an,QX,QX];constructor
 ·refine R8 fun q hq=>?_;show (if q.1=c then (q.1,(d,l')) else q).2.1=q.2.1;by_cases e:q.1=c
  ·rw [Qc e]
   have:q.2=(d,l):=by
    have go:∀{ts:List ((Str×Str)×Addr×List (Int×Str))},(ts.map (·.1)).Nodup->Zv c ts=some (d,l)->q∈ts->q.2=(d,l):=by
     intro ts
     induction ts with
     |nil=>intro _ _ h;cases h
     |cons p r ih =>
      intro n f m;rw [Qp,QU] at n;unfold Zv at f;by_cases e2:p.1=c
      ·rw [Qc e2] at f;rcases Qh.mp m with rfl|m
       ·exact Qn f
       ·exact absurd (Qk.mpr ⟨q,m,e.trans e2.symm⟩) n.1
      ·rw [Qa e2] at f;rcases Qh.mp m with rfl|m
       ·exact absurd e e2
       ·exact ih n.2 f m
    exact go n h hq
   rw [this]
  ·rw [Qa e]
 ·refine R8 fun q hq=>?_;show (if q.1=c then (q.1,(d,l')) else q).1=q.1;split<;>rfl
theorem BkAt.newTie {K:W.Frag} {C:Addr} {H:Hp} {b dx k bi li ti su z:Addr} {B:Bk} (h:BkAt K C H b dx k bi li ti su B) (nz:H z=some (.dK [])) (fr:z≠bi∧∀q∈B.ties,q.2.1≠z) (c:Str×Str) :
  BkAt K C (Zb H ti (.dT (B.tiesD++[(Zo c,.ref z)]))) b dx k bi li ti su { B with ties:=B.ties++[(c,z,[])] }:=by
 obtain ⟨n1,n2,n3,n4,n5,n6⟩:=ZaP h.ap;have dk:∀{a:Addr} {w:List (Zi×V)},H a=some (.dK w)->a≠ti:=fun e=>YF e h.ti (fun z=>by cases z)
 refine ⟨(Zd (YF h.ob h.ti (fun z=>by cases z))).trans h.ob,h.ap,?_,(Zd n2).trans h.ke,(Zd (dk h.bi)).trans h.bi,(Zd n4).trans h.li,?_,(Zd n6.symm).trans h.su,fun p hp=>YH (h.en p hp) h.ti (fun _ z=>by cases z) (fun _ _ z=>by cases z),
  fun q hq=>(Zd (YF (h.ll q hq) h.ti (fun z=>by cases z))).trans (h.ll q hq),fun q hq=>?_⟩
 ·show (bi::(B.ties++[((c,z,[]):(Str×Str)×Addr×List (Int×Str))]).map (·.2.1)).Nodup;rw [Qr,←List.cons_append,Rb];refine ⟨h.at',by simp,fun a ha x hx e=>?_⟩;have ex:x=z:=by simpa using hx
  subst ex e;rcases Qh.mp ha with rfl|ha
  ·exact fr.1 rfl
  ·obtain ⟨q,hq,rfl⟩:=Qk.mp ha;exact fr.2 q hq rfl
 ·rw [Zg];show some (HO.dT _)=some (.dT ((B.ties++[((c,z,[]):(Str×Str)×Addr×List (Int×Str))]).map fun q=>(Zo q.1,V.ref q.2.1)));rw [Qr];rfl
 ·rcases Qq.mp hq with hq|hq
  ·exact (Zd (dk (h.tt q hq))).trans (h.tt q hq)
  ·have e:q=(c,z,[]):=by simpa using hq
   subst e;exact (Zd (dk nz)).trans nz
theorem BkAt.putTie {K:W.Frag} {C:Addr} {H:Hp} {b dx k bi li ti su d:Addr} {B:Bk} {c:Str×Str} {l:List (Int×Str)} (h:BkAt K C H b dx k bi li ti su B) (n:(B.ties.map (·.1)).Nodup) (f:Zv c B.ties=some (d,l)) (l':List (Int×Str)) :
  BkAt K C (Zb H d (.dK (YQ l'))) b dx k bi li ti su { B with ties:=Zp B.ties c (d,l') }:=by
 have hm:=Wl f;have hd:H d=some (.dK (YQ l)):=h.tt _ hm;have at2:=h.at';rw [QU] at at2;have bd:bi≠d:=fun e=>at2.1 (Qk.mpr ⟨_,hm,e.symm⟩);have dt:∀{a:Addr} {w:List (List Zi×V)},H a=some (.dT w)->a≠d:=fun e=>YF e hd (fun z=>by cases z);obtain ⟨pa1,pa2⟩:=Zhc (l':=l') n f
 refine ⟨(Zd (YF h.ob hd (fun z=>by cases z))).trans h.ob,h.ap,?_,(Zd (dt h.ke)).trans h.ke,(Zd bd).trans h.bi,(Zd (dt h.li)).trans h.li,?_,(Zd (dt h.su)).trans h.su,fun p hp=>YH (h.en p hp) hd (fun _ z=>by cases z) (fun _ _ z=>by cases z),
  fun q hq=>(Zd (YF (h.ll q hq) hd (fun z=>by cases z))).trans (h.ll q hq),fun q hq=>?_⟩
 ·show (bi::(Zp B.ties c (d,l')).map (·.2.1)).Nodup;rw [pa1];exact h.at'
 ·have e:(Zp B.ties c (d,l')).map (fun q=>(Zo q.1,V.ref q.2.1))=B.tiesD:=by
   have e1:(fun q:(Str×Str)×Addr×List (Int×Str)=>(Zo q.1,V.ref q.2.1))=(fun p:(Str×Str)×Addr=>(Zo p.1,V.ref p.2))∘fun q=>(q.1,q.2.1):=rfl
   have e2:∀ts:List ((Str×Str)×Addr×List (Int×Str)),ts.map (fun q=>(q.1,q.2.1))=(ts.map (·.1)).zip (ts.map (·.2.1)):=fun ts=>by
    induction ts with
    |nil=>rfl
    |cons q r ih=>simp [ih]
   unfold Bk.tiesD;rw [e1,←QX,←QX,e2,e2,pa1,pa2]
  rw [Zd (dt h.ti)];show H ti=some (.dT ((Zp B.ties c (d,l')).map fun q=>(Zo q.1,V.ref q.2.1)));rw [e];exact h.ti
 ·rcases Ux hq with rfl|hq2
  ·exact Zg
  ·by_cases e:q.2.1=d
   ·-- the same address: the same pair
    have:q=(c,d,l)∨q=(c,d,l'):=by
     have hnd:=(QU.mp h.at').2
     have go:∀{ts:List ((Str×Str)×Addr×List (Int×Str))},(ts.map (·.2.1)).Nodup->(c,d,l)∈ts->q∈ts->q=(c,d,l):=by
      intro ts
      induction ts with
      |nil=>intro _ h;cases h
      |cons p r ih =>
       intro n h1 h2;rw [Qp,QU] at n;rcases Qh.mp h1 with e1|h1'
       ·rcases Qh.mp h2 with e2|h2'
        ·rw [e2,e1]
        ·rw [←e1] at n;exact absurd (Qk.mpr ⟨q,h2',e⟩) n.1
       ·rcases Qh.mp h2 with e2|h2'
        ·rw [←e2] at n;exact absurd (Qk.mpr ⟨(c,d,l),h1',e.symm⟩) n.1
        ·exact ih n.2 h1' h2'
     exact .inl (go hnd hm hq2)
    rcases this with rfl|rfl
    ·-- then it was told anew
     have an:(B.ties.any fun q=>decide (q.1=c))=true:=by
      rw [GK];exact ⟨_,hm,Qm rfl⟩
     unfold Zp at hq;rw [Qc an] at hq;obtain ⟨p,hp,ep⟩:=Qk.mp hq;by_cases pc:p.1=c
     ·rw [Qc pc] at ep
      have:l'=l:=by
       have:=Qy (fun z=>z.2.2) ep;exact this
      subst this;exact Zg
     ·rw [Qa pc] at ep;subst ep;exact absurd rfl pc
    ·exact Zg
   ·exact (Zd e).trans (h.tt q hq2)
theorem ZhS (ts:List ((Str×Str)×Addr×List (Int×Str))) (c x:Str×Str) (d:Addr) (l:List (Int×Str)):YT (Zp ts c (d,l)) x=if x=c then l else YT ts x:=by
 unfold YT;rw [Zcl];by_cases e:x=c
 ·rw [Qc e,Qc e];rfl
 ·rw [Qa e,Qa e]
theorem ZiR (ts:List ((Str×Str)×Addr×List (Int×Str))) (c x:Str×Str) (d:Addr) (h:Zv c ts=none):YT (ts++[(c,d,[])]) x=YT ts x:=by
 unfold YT;rw [ZaX];cases e:Zv x ts with
 |some y=>rfl
 |none =>
  unfold Zv;by_cases e2:c=x
  ·rw [Qc e2];rfl
  ·rw [Qa e2];rfl
noncomputable def Vq (y:Str) (n:Str):Option V:=if n=y then none else some (.str n)
theorem Zgq (y:Str):∀l:List Str,(l.map (Vq y)).filterMap id=(l.filter fun n=>decide (n≠y)).map V.str
 |[]=>rfl
 |n::r=>by
  have ih:=Zgq y r;by_cases h:n=y
  ·subst h;simp only [Qp,QT,RX];simpa [Vq] using ih
  ·simp only [Qp,QT,RX];simpa [Vq,h] using ih
theorem Zhe (l:List ((Str×Str)×Addr×List Str)) (c d:Str×Str) (D:Addr) (z:List Str):lk (Zp l c (D,z)) d=if d=c then z else lk l d:=by
 unfold lk;rw [Zfv];by_cases e:d=c
 ·rw [Qc e,Qc e];rfl
 ·rw [Qa e,Qa e]
theorem ZcE (F:Str×Str->List Str) (st:Bool) (x y:Str) (c:Str×Str):(ZL F st x y c).length≤(F c).length+1:=by
 unfold ZL;have h:=NS (fun n=>decide (n≠y)) (F c);split
 ·split
  ·rw [(Wh _).length_eq,Qu];show _+1≤_;omega
  ·omega
 ·omega
theorem Vd (a b:Str):Zf (Zf a b).1 (Zf a b).2=Zf a b:=by
 unfold Zf;by_cases h:ZP b a=true
 ·rw [Qc h];show (if ZP a b=true then (a,b) else (b,a))=(b,a);by_cases h2:ZP a b=true
  ·have l1:b.cps.toList<a.cps.toList:=QB h;have l2:a.cps.toList<b.cps.toList:=QB h2;exact absurd l1 (NQ l2)
  ·rw [Qa h2]
 ·rw [Qa h];show (if ZP b a=true then (b,a) else (a,b))=(a,b);rw [Qa h]
theorem Zab (e:Ent):e.told.told=e.told:=by
 cases e with
 |union a b d=>show Ent.union (Zf (Zf a b).1 (Zf a b).2).1 (Zf (Zf a b).1 (Zf a b).2).2 d=_;rw [Vd];rfl
 |parted a b d=>show Ent.parted (Zf (Zf a b).1 (Zf a b).2).1 (Zf (Zf a b).1 (Zf a b).2).2 d=_;rw [Vd];rfl
 |_=>rfl
noncomputable def Ua (F:Str×Str->List (Int×Str)):Ent->Str×Str->List (Int×Str)
 |.union a b d=>fun c=>if c=Zf a b then Zp (F (Zf a b)) d "union" else F c
 |.parted a b d=>fun c=>if c=Zf a b then Zp (F (Zf a b)) d "parted" else F c
 |_=>F
noncomputable def WP (F:Str×Str->List Str) (G:Str×Str->List (Int×Str)):Ent->Str×Str->List Str
 |.born n _ _ f m=>Xc F n f m
 |.taken c t _=>Z7 (Z7 F ("T",c) t) ("t",t) c
 |.union a b d=>ZL (ZL F (YK (Zp (G (Zf a b)) d "union")) a b) (YK (Zp (G (Zf a b)) d "union")) b a
 |.parted a b d=>ZL (ZL F (YK (Zp (G (Zf a b)) d "parted")) a b) (YK (Zp (G (Zf a b)) d "parted")) b a
 |_=>F
noncomputable def Y2 (ss:List ((Str×Str)×Int)) (c:Str×Str):Int:=(Zv c ss).getD 0
noncomputable def ZaU (F:Str×Str->Int):Ent->Str×Str->Int
 |.given g t am _=>fun c=>if c=(g,t) then F c+am else F c
 |_=>F
theorem ZkG (ss:List ((Str×Str)×Int)) (g t:Str) (am d:Int) (c:Str×Str):Y2 (Zp ss (g,t) (Y2 ss (g,t)+am)) c=ZaU (Y2 ss) (.given g t am d) c:=by
 show _=if c=(g,t) then Y2 ss c+am else Y2 ss c;unfold Y2;rw [Zcl];by_cases e:c=(g,t)
 ·subst e;rw [Qc rfl,Qc rfl];rfl
 ·rw [Qa e,Qa e]
def GrowsT (H:Hp) (ts ts':List ((Str×Str)×Addr×List (Int×Str))):Prop:=∀a∈ts'.map (·.2.1),a∈ts.map (·.2.1)∨H a=none
theorem GrowsT.refl (H:Hp) (ts:List ((Str×Str)×Addr×List (Int×Str))):GrowsT H ts ts:=fun _ h=>.inl h
theorem GrowsT.back {H H':Hp} {ts ts':List ((Str×Str)×Addr×List (Int×Str))} (g:GrowsT H' ts ts') (al:∀a,H' a=none->H a=none):GrowsT H ts ts':=fun a ha=>(g a ha).imp id (al a)
structure Put (B:Bk) (e:Ent) (B':Bk):Prop where
 su:∀c,Y2 B'.sums c=ZaU (Y2 B.sums) e.told c
 kept:∃a,B'.kept=B.kept++[(e.told,a)]
 lks:∀c,lk B'.links c=WP (lk B.links) (YT B.ties) e.told c
 tis:∀c,YT B'.ties c=Ua (YT B.ties) e.told c
 nd:(B'.ties.map (·.1)).Nodup
 nl:B'.links.length≤B.links.length+4
 nt:B'.ties.length≤B.ties.length+1
 ns:B'.sums.length≤B.sums.length+1
structure Room1 (B:Bk):Prop where
 nd:(B.ties.map (·.1)).Nodup
 nl:B.links.length≤870
 nt:B.ties.length≤790
 ns:B.sums.length≤790
 ll:∀c,(lk B.links c).length≤60
 tt:∀c,(YT B.ties c).length≤790
theorem Zjg {H:Hp} {a:Addr} {o:HO} (h:H a=some o):Zb H a o=H:=by
 funext c
 by_cases e:c=a
 ·subst e;rw [Zg,h]
 ·rw [Zd e]
theorem BkAt.kept {K:W.Frag} {C:Addr} {H:Hp} {b dx k bi li ti su a:Addr} {B:Bk} {e:Ent} (h:BkAt K C H b dx k bi li ti su B) (ha:SqT K H a (e.row.map kV)) :
  BkAt K C (Zb (Zb H k (.dT (B.keptD++[(e.key,.ref a)]))) bi (.dK (Bk.bornD (B.kept++[(e,a)])))) b dx k bi li ti su { B with kept:=B.kept++[(e,a)] }:=by
 obtain ⟨n1,n2,n3,n4,n5,n6⟩:=ZaP h.ap;have kb:k≠bi:=YF h.ke h.bi (fun z=>by cases z);have at2:=QU.mp h.at';have dt:∀{c:Addr} {w:List (List Zi×V)},H c=some (.dT w)->c≠k->(Zb (Zb H k (.dT (B.keptD++[(e.key,.ref a)]))) bi (.dK (Bk.bornD (B.kept++[(e,a)])))) c=some (.dT w):=fun hc n=>(Zd (YF hc h.bi (fun z=>by cases z))).trans ((Zd n).trans hc)
 have sq:∀{c:Addr} {xs:List V},SqT K H c xs->SqT K (Zb (Zb H k (.dT (B.keptD++[(e.key,.ref a)]))) bi (.dK (Bk.bornD (B.kept++[(e,a)])))) c xs:=fun {c xs} hc=>by
  have h1:SqT K (Zb H k (.dT (B.keptD++[(e.key,.ref a)]))) c xs:=YH hc h.ke (fun _ z=>by cases z) (fun _ _ z=>by cases z);exact YH h1 ((Zd kb.symm).trans h.bi) (fun _ z=>by cases z) (fun _ _ z=>by cases z)
 refine ⟨(Zd (YF h.ob h.bi (fun z=>by cases z))).trans ((Zd (YF h.ob h.ke (fun z=>by cases z))).trans h.ob),h.ap,h.at',(Zd kb).trans ?_,Zg,dt h.li n1.symm,dt h.ti n2.symm,dt h.su n3.symm,fun p hp=>?_,fun q hq=>?_,fun q hq=>?_⟩
 ·rw [Zg];show some (HO.dT _)=some (.dT ((B.kept++[(e,a)]).map fun p=>(p.1.key,V.ref p.2)));rw [Qr];rfl
 ·rcases Qq.mp hp with hp|hp
  ·exact sq (h.en p hp)
  ·have ep:p=(e,a):=by simpa using hp
   subst ep;exact sq ha
 ·exact (Zd (YF (h.ll q hq) h.bi (fun z=>by cases z))).trans ((Zd (YF (h.ll q hq) h.ke (fun z=>by cases z))).trans (h.ll q hq))
 ·exact (Zd (fun z=>at2.1 (Qk.mpr ⟨q,hq,z⟩))).trans ((Zd (YF (h.tt q hq) h.ke (fun z=>by cases z))).trans (h.tt q hq))
theorem Zlp {l:List (Ent×Addr)} {e:Ent} {a:Addr} (h:e.isBorn=false):Bk.bornD (l++[(e,a)])=Bk.bornD l:=by
 unfold Bk.bornD;rw [RD];cases e with
 |born=>cases h
 |_=>simp [Ent.bornName]
theorem BkAt.sums {K:W.Frag} {C:Addr} {H:Hp} {b dx k bi li ti su:Addr} {B:Bk} (h:BkAt K C H b dx k bi li ti su B) (l:List ((Str×Str)×Int)) :
  BkAt K C (Zb H su (.dT (l.map fun q=>(Zo q.1,V.int q.2)))) b dx k bi li ti su { B with sums:=l }:=by
 obtain ⟨n1,n2,n3,n4,n5,n6⟩:=ZaP h.ap;have dk:∀{c:Addr} {z:List (Zi×V)},H c=some (.dK z)->c≠su:=fun e=>YF e h.su (fun z=>by cases z)
 exact ⟨(Zd (YF h.ob h.su (fun z=>by cases z))).trans h.ob,h.ap,h.at',(Zd n3).trans h.ke,(Zd (dk h.bi)).trans h.bi,(Zd n5).trans h.li,(Zd n6).trans h.ti,Zg,
  fun p hp=>YH (h.en p hp) h.su (fun _ z=>by cases z) (fun _ _ z=>by cases z),fun q hq=>(Zd (YF (h.ll q hq) h.su (fun z=>by cases z))).trans (h.ll q hq),fun q hq=>(Zd (dk (h.tt q hq))).trans (h.tt q hq)⟩
theorem ZiH {l:List (Ent×Addr)} {n s f m:Str} {d:Int} (h:ZM (l.map fun p=>(p.1.key,V.ref p.2)) (Ent.born n s d f m).key=none):Z3 n l=none:=by
 induction l with
 |nil=>rfl
 |cons p r ih =>
  unfold Z3;rw [Qp] at h;by_cases e:p.1.bornName=some n
  ·exfalso
   have ek:p.1.key=(Ent.born n s d f m).key:=by
    cases hp:p.1 with
    |born n' s' d' f' m' =>
     rw [hp] at e;cases (show n'=n from Qn e);rfl
    |_=>rw [hp] at e;cases e
   rw [XX ek] at h;cases h
  ·rw [Qa e];by_cases ek:p.1.key=(Ent.born n s d f m).key
   ·rw [XX ek] at h;cases h
   ·rw [XW ek] at h;exact ih h
theorem Zg1 {B:Bk} {e:Ent} (h:X1 B e=none):ZM B.keptD e.told.key=none∧B.kept.length<400∧∀n∈e.named,Known B n:=by
 unfold X1 at h;by_cases f:B.full e=true
 ·rw [Qc f] at h;cases h
 rw [Qa f] at h;by_cases p:(e.named.all fun n=>(Z3 n B.kept).isSome)=false
 ·rw [Qc p] at h;cases h
 rw [Qa p] at h;by_cases t:(ZM B.keptD e.told.key).isSome=true
 ·rw [Qc t] at h;cases h
 refine ⟨by simpa using t,?_,fun n hn=>?_⟩
 ·unfold Bk.full at f;simp only [Gh,Ni,not_or] at f;omega
 ·have:=p;rw [Bool.not_eq_false] at this;rw [Rv] at this;have:=this n hn;unfold Known;exact N8.mp this
theorem Ze8 (e:Ent) (n:Str):n∈e.told.named->n∈e.named:=by
 cases e with
 |union a b d =>
  show n∈[(Zf a b).1,(Zf a b).2]->n∈[a,b];unfold Zf;split<;>simp<;>(intro h;rcases h with h|h<;>simp [h])
 |parted a b d =>
  show n∈[(Zf a b).1,(Zf a b).2]->n∈[a,b];unfold Zf;split<;>simp<;>(intro h;rcases h with h|h<;>simp [h])
 |_=>exact id
theorem ZeY (n:Str):∀(l m:List (Ent×Addr)),Z3 n (l++m)=(Z3 n l).or (Z3 n m)
 |[],m=>by simp [Z3]
 |p::r,m=>by
  show (if p.1.bornName=some n then some p else Z3 n (r++m))=(if p.1.bornName=some n then some p else Z3 n r).or (Z3 n m);by_cases e:p.1.bornName=some n
  ·rw [Qc e,Qc e];rfl
  ·rw [Qa e,Qa e];exact ZeY n r m
theorem Known.more {B B':Bk} {n:Str} {l:List (Ent×Addr)} (h:Known B n) (e:B'.kept=B.kept++l):Known B' n:=by
 unfold Known at *;rw [e,ZeY];cases hb:Z3 n B.kept with
 |none=>exact absurd hb h
 |some p=>simp
noncomputable def XO (i:Int):Nat:=(97+i.fmod 26).toNat
theorem Zos (i:Int):X5 (XO i)=true:=by
 have h0:=QP i (show (0:Int)<26 by decide);have h1:=Q2 i (show (0:Int)<26 by decide);obtain ⟨m,hm,hl⟩:∃m:Nat,i.fmod 26=(m:Int)∧m<26:=⟨(i.fmod 26).toNat,by omega,by omega⟩;have e:XO i=97+m:=by unfold XO;rw [hm];omega
 rw [e];have go:∀m:Fin 26,X5 (97+m.val)=true:=by decide +kernel
 exact go ⟨m,hl⟩
theorem ZiO {i j:Int} (h:XO i=XO j):i.fmod 26=j.fmod 26:=by
 have h0:=QP i (show (0:Int)<26 by decide);have h1:=QP j (show (0:Int)<26 by decide);unfold XO at h;omega
theorem Zmg (a b:Int) (h:a.fmod 26=b.fmod 26):∃q,a-b=26*q:=by
 have e1:=Nk a 26;have e2:=Nk b 26;refine ⟨a.fdiv 26-b.fdiv 26,?_⟩;rw [Int.mul_sub];omega
theorem ZkI {ns:List Int} {k:Nat} (h:k<ns.length):(ns.map V.int)[k]?=some (V.int (ns.getD k 0)):=by
 simp [List.getD,Qx h,h]
theorem Zmd (i:Int):Yl U8.cps.toList (i.fmod 26)=some (XO i):=by
 have h0:=QP i (show (0:Int)<26 by decide);have h1:=Q2 i (show (0:Int)<26 by decide);obtain ⟨m,hm,hl⟩:∃m:Nat,i.fmod 26=(m:Int)∧m<26:=⟨(i.fmod 26).toNat,by omega,by omega⟩;have e:XO i=97+m:=by unfold XO;rw [hm];omega
 rw [e,hm];have go:∀m:Fin 26,U8.cps.toList[m.val]?=some (97+m.val):=by decide +kernel
 exact XT (go ⟨m,hl⟩)
theorem UE (l:List Nat):(⟨l.toArray⟩:Str).length=l.length:=by
 show l.toArray.size=_;rw [Qv]
noncomputable def XH (bs:List (Ent×Addr)):List V:=bs.map fun p=>V.ref p.2
def UJ (K:W.Frag) (H:Hp) (bs:List (Ent×Addr)):Prop:=∀p∈bs,SqT K H p.2 (p.1.row.map kV)
theorem ZdS {d:Int} (h1:-10 ^ 18≤d) (h2:d≤10 ^ 18):ZdT (.int d)=true:=by
 show decide ((if d<0 then -d else d)≤10 ^ 18)=true;exact Qm (by split<;>omega)
theorem ZgR {x:Str} (h:x=""∨Nm x):UW (.str x)=true:=by
 rcases h with h|h
 ·subst h;decide +kernel
 ·unfold UW;rw [h.ok];rfl
theorem Zlv {s:Str} (h:s="he"∨s="she"∨s=""):Vu (.str s)=true:=by
 rcases h with h|h|h<;>subst h<;>decide +kernel
theorem Ue {x:Str} (h:Nm x):x.length≤100:=Qo h.hi (by decide)
theorem ZmO {n s f m:Str} {d:Int} (hn:Nm n) (hs:s="he"∨s="she"∨s="") (d1:-10 ^ 18≤d) (d2:d≤10 ^ 18) (hf:f=""∨Nm f) (hm:m=""∨Nm m):(Ent.born n s d f m).Ok:=by
 refine ⟨?_,fun x hx=>?_⟩
 ·show Vl [.str "born",.str n,.str s,.int d,.str f,.str m]=true;rw [JF,show WV "born"=some [.name,.sort,.day,.parent,.parent] by rfl];show Xw _ _=true;unfold Xw ZT;simp [ZT,VM,hn.ok,Zlv hs,ZdS d1 d2,ZgR hf,ZgR hm]
 ·have hf':f.length≤100:=hf.elim (fun h=>by subst h;decide +kernel) Ue;have hm':m.length≤100:=hm.elim (fun h=>by subst h;decide +kernel) Ue;have hs':s.length≤100:=by rcases hs with h|h|h<;>subst h<;>decide +kernel
  simp only [Ent.row,Qh,QN,QO] at hx;rcases hx with h|h|h|h|h|h
  ·cases h;decide +kernel
  ·cases h;exact Ue hn
  ·cases h;exact hs'
  ·cases h
  ·cases h;exact hf'
  ·cases h;exact hm'
theorem VL {w a b:Str} {d:Int} (hw:w="taken"∨w="union"∨w="parted") (ha:Nm a) (hb:Nm b) (d1:-10 ^ 18≤d) (d2:d≤10 ^ 18):Vl [.str w,.str a,.str b,.int d]=true:=by
 rw [JF];have:WV w=some [.name,.name,.day]:=by rcases hw with h|h|h<;>subst h<;>rfl
 rw [this];show Xw _ _=true;unfold Xw;simp [ZT,VM,ha.ok,hb.ok,ZdS d1 d2]
theorem Vt {w a b:Str} {d:Int} (hw:w.length≤100) (ha:Nm a) (hb:Nm b):∀x:Str,(.inr x:Zi)∈([.inr w,.inr a,.inr b,.inl d]:List Zi)->x.length≤100:=fun x hx=>by
 simp only [Qh,QN,QO] at hx;rcases hx with h|h|h|h
 ·cases h;exact hw
 ·cases h;exact Ue ha
 ·cases h;exact Ue hb
 ·cases h
theorem ZgI {n s f m:Str} {d:Int}:∀{l:List (Ent×Addr)},Ent.born n s d f m∈l.map (·.1)->(∀{s' d' f' m'},Ent.born n s' d' f' m'∈l.map (·.1)->Ent.born n s' d' f' m'=.born n s d f m)->∃a,Z3 n l=some (.born n s d f m,a)
 |[],h,_=>by cases h
 |p::r,h,u=>by
  unfold Z3;by_cases e:p.1.bornName=some n
  ·rw [Qc e];cases hp:p.1 with
   |born n' s' d' f' m' =>
    rw [hp] at e;cases (show n'=n from Qn e);have:=u (s':=s') (d':=d') (f':=f') (m':=m') (by rw [Qp,hp];exact QC ..);refine ⟨p.2,?_⟩;rw [←this,←hp]
   |_=>rw [hp] at e;cases e
  ·rw [Qa e]
   have h':Ent.born n s d f m∈r.map (·.1):=by
    rw [Qp] at h;rcases Qh.mp h with h|h
    ·exfalso;rw [←h] at e;exact e rfl
    ·exact h
   exact ZgI h' fun hm=>u (by rw [Qp];exact QF _ hm)
abbrev ZE:=Str×Str->List Str
abbrev XM:=Str×Str->List (Int×Str)
noncomputable def UL (p:ZE×XM) (e:Ent):ZE×XM:=(WP p.1 p.2 e,Ua p.2 e)
noncomputable def YC (es:List Ent):ZE×XM:=es.foldl UL (fun _=>[],fun _=>[])
theorem Zap (es:List Ent) (e:Ent):YC (es++[e])=UL (YC es) e:=by
 unfold YC;rw [Nl];rfl
noncomputable def WA (n:Str):Ent->List Str
 |.born n' _ _ f _=>if n'=n∧f≠"" then [f] else []
 |_=>[]
noncomputable def Wy (n:Str):Ent->List Str
 |.born n' _ _ _ m=>if n'=n∧m≠"" then [m] else []
 |_=>[]
noncomputable def WU (n:Str):Ent->List Str
 |.born n' _ _ f _=>if f=n∧f≠"" then [n'] else []
 |_=>[]
noncomputable def WO (n:Str):Ent->List Str
 |.born n' _ _ _ m=>if m=n∧m≠"" then [n'] else []
 |_=>[]
noncomputable def WL (n:Str):Ent->List Str
 |.taken c t _=>if c=n then [t] else []
 |_=>[]
noncomputable def WY (n:Str):Ent->List Str
 |.taken c t _=>if t=n then [c] else []
 |_=>[]
theorem Zep {l:List Str} (h:l.Pairwise fun a b=>YI a b=true):ZC l=l:=Za7 (Wh l) (Uh l) h
theorem Zlt (l m:List Str):ZC (ZC l++m)=ZC (l++m) :=
 Za7 ((Wh _).trans (((Wh l).append_right m).trans (Wh _).symm)) (Uh _) (Uh _)
theorem YR (F:ZE) (l n l' n' m:Str):Z7 F (l,n) m (l',n')=if l'=l∧n'=n then ZC (F (l,n)++[m]) else F (l',n'):=by
 unfold Z7;by_cases h:l'=l∧n'=n
 ·obtain ⟨rfl,rfl⟩:=h;rw [Qc rfl,Qc ⟨rfl,rfl⟩]
 ·rw [Qa (fun e=>h (by injection e with a b;exact ⟨a,b⟩)),Qa h]
theorem Yp (F:ZE) (st:Bool) (x y l n:Str) (h:l≠"S"):ZL F st x y (l,n)=F (l,n):=by
 unfold ZL;rw [Qa (fun e=>h (by injection e))]
structure Adds (l:Str) (ad:Str->Ent->List Str):Prop where
 step:∀(F:ZE) (G:XM) (e:Ent) (n:Str),(F (l,n)).Pairwise (fun a b=>YI a b=true)->WP F G e (l,n)=ZC (F (l,n)++ad n e)
theorem Z6 {l:List Str} (h:l.Pairwise fun a b=>YI a b=true):l=ZC (l++[]):=by rw [Qs,Zep h]
theorem UY (F:ZE) (n f m l x:Str):Xc F n f m (l,x) =
  if l="F"∧x=n∧f≠"" then ZC (F ("F",n)++[f]) else if l="f"∧x=f∧f≠"" then ZC (F ("f",f)++[n]) else
  if l="M"∧x=n∧m≠"" then ZC (F ("M",n)++[m]) else if l="m"∧x=m∧m≠"" then ZC (F ("m",m)++[n]) else F (l,x):=by
 have d1:("F" : Str)≠"f":=by decide +kernel
 have d2:("F" : Str)≠"M":=by decide +kernel
 have d3:("F" : Str)≠"m":=by decide +kernel
 have d4:("f" : Str)≠"M":=by decide +kernel
 have d5:("f" : Str)≠"m":=by decide +kernel
 have d6:("M" : Str)≠"m":=by decide +kernel
 unfold Xc;by_cases f0:f=""<;>by_cases m0:m=""<;>simp only [f0,m0,Q6,QV,YR,ne_eq,not_true_eq_false,not_false_eq_true,and_false,and_true]
 ·by_cases h1:l="m"∧x=m
  ·obtain ⟨rfl,rfl⟩:=h1;simp [d3.symm,d5.symm,d6.symm,d6]
  ·by_cases h2:l="M"∧x=n
   ·obtain ⟨rfl,rfl⟩:=h2;simp [d6]
   ·simp [h1,h2]
 ·by_cases h1:l="f"∧x=f
  ·obtain ⟨rfl,rfl⟩:=h1;simp [d1,d1.symm]
  ·by_cases h2:l="F"∧x=n
   ·obtain ⟨rfl,rfl⟩:=h2;simp [d1]
   ·simp [h1,h2]
 ·by_cases h1:l="m"∧x=m
  ·obtain ⟨rfl,rfl⟩:=h1;simp [d3.symm,d5.symm,d6.symm,d6,d3,d5]
  ·by_cases h2:l="M"∧x=n
   ·obtain ⟨rfl,rfl⟩:=h2;simp [d6,d2,d4,d2.symm,d4.symm]
   ·by_cases h3:l="f"∧x=f
    ·obtain ⟨rfl,rfl⟩:=h3;simp [d1,d1.symm,d4,d5]
    ·by_cases h4:l="F"∧x=n
     ·obtain ⟨rfl,rfl⟩:=h4;simp [d1,d2,d3]
     ·simp [h1,h2,h3,h4]
theorem ZeD:Adds "F" WA:=⟨fun F G e n s=>by
 cases e with
 |born n' s' d f m =>
  show Xc F n' f m ("F",n)=_;rw [UY];dsimp only [WA];by_cases h:n'=n∧f≠""
  ·rw [Qc h,Qc ⟨rfl,h.1.symm,h.2⟩,h.1]
  ·rw [Qa h,Qa (fun z=>h ⟨z.2.1.symm,z.2.2⟩),Qa (fun z=>absurd z.1 (by decide +kernel)),Qa (fun z=>absurd z.1 (by decide +kernel)),Qa (fun z=>absurd z.1 (by decide +kernel))];exact Z6 s
 |taken c t d=>show Z7 (Z7 F ("T",c) t) ("t",t) c ("F",n)=_;rw [YR,Qa (fun z=>absurd z.1 (by decide +kernel)),YR,Qa (fun z=>absurd z.1 (by decide +kernel))];exact Z6 s
 |union a b d=>show ZL _ _ _ _ _=_;rw [Yp _ _ _ _ _ _ (by decide +kernel),Yp _ _ _ _ _ _ (by decide +kernel)];exact Z6 s
 |parted a b d=>show ZL _ _ _ _ _=_;rw [Yp _ _ _ _ _ _ (by decide +kernel),Yp _ _ _ _ _ _ (by decide +kernel)];exact Z6 s
 |dead a d=>exact Z6 s
 |given a b am d=>exact Z6 s⟩
theorem Zge:Adds "M" Wy:=⟨fun F G e n s=>by
 cases e with
 |born n' s' d f m =>
  show Xc F n' f m ("M",n)=_;rw [UY,Qa (fun z=>absurd z.1 (by decide +kernel)),Qa (fun z=>absurd z.1 (by decide +kernel))];dsimp only [Wy];by_cases h:n'=n∧m≠""
  ·rw [Qc h,Qc ⟨rfl,h.1.symm,h.2⟩,h.1]
  ·rw [Qa h,Qa (fun z=>h ⟨z.2.1.symm,z.2.2⟩),Qa (fun z=>absurd z.1 (by decide +kernel))];exact Z6 s
 |taken c t d=>show Z7 (Z7 F ("T",c) t) ("t",t) c ("M",n)=_;rw [YR,Qa (fun z=>absurd z.1 (by decide +kernel)),YR,Qa (fun z=>absurd z.1 (by decide +kernel))];exact Z6 s
 |union a b d=>show ZL _ _ _ _ _=_;rw [Yp _ _ _ _ _ _ (by decide +kernel),Yp _ _ _ _ _ _ (by decide +kernel)];exact Z6 s
 |parted a b d=>show ZL _ _ _ _ _=_;rw [Yp _ _ _ _ _ _ (by decide +kernel),Yp _ _ _ _ _ _ (by decide +kernel)];exact Z6 s
 |dead a d=>exact Z6 s
 |given a b am d=>exact Z6 s⟩
theorem ZeN:Adds "f" WU:=⟨fun F G e n s=>by
 cases e with
 |born n' s' d f m =>
  show Xc F n' f m ("f",n)=_;rw [UY,Qa (fun z=>absurd z.1 (by decide +kernel))];dsimp only [WU];by_cases h:f=n∧f≠""
  ·rw [Qc h,Qc ⟨rfl,h.1.symm,h.2⟩,h.1]
  ·rw [Qa h,Qa (fun z=>h ⟨z.2.1.symm,z.2.2⟩),Qa (fun z=>absurd z.1 (by decide +kernel)),Qa (fun z=>absurd z.1 (by decide +kernel))];exact Z6 s
 |taken c t d=>show Z7 (Z7 F ("T",c) t) ("t",t) c ("f",n)=_;rw [YR,Qa (fun z=>absurd z.1 (by decide +kernel)),YR,Qa (fun z=>absurd z.1 (by decide +kernel))];exact Z6 s
 |union a b d=>show ZL _ _ _ _ _=_;rw [Yp _ _ _ _ _ _ (by decide +kernel),Yp _ _ _ _ _ _ (by decide +kernel)];exact Z6 s
 |parted a b d=>show ZL _ _ _ _ _=_;rw [Yp _ _ _ _ _ _ (by decide +kernel),Yp _ _ _ _ _ _ (by decide +kernel)];exact Z6 s
 |dead a d=>exact Z6 s
 |given a b am d=>exact Z6 s⟩
theorem Zgr:Adds "m" WO:=⟨fun F G e n s=>by
 cases e with
 |born n' s' d f m =>
  show Xc F n' f m ("m",n)=_;rw [UY,Qa (fun z=>absurd z.1 (by decide +kernel)),Qa (fun z=>absurd z.1 (by decide +kernel)),Qa (fun z=>absurd z.1 (by decide +kernel))];dsimp only [WO];by_cases h:m=n∧m≠""
  ·rw [Qc h,Qc ⟨rfl,h.1.symm,h.2⟩,h.1]
  ·rw [Qa h,Qa (fun z=>h ⟨z.2.1.symm,z.2.2⟩)];exact Z6 s
 |taken c t d=>show Z7 (Z7 F ("T",c) t) ("t",t) c ("m",n)=_;rw [YR,Qa (fun z=>absurd z.1 (by decide +kernel)),YR,Qa (fun z=>absurd z.1 (by decide +kernel))];exact Z6 s
 |union a b d=>show ZL _ _ _ _ _=_;rw [Yp _ _ _ _ _ _ (by decide +kernel),Yp _ _ _ _ _ _ (by decide +kernel)];exact Z6 s
 |parted a b d=>show ZL _ _ _ _ _=_;rw [Yp _ _ _ _ _ _ (by decide +kernel),Yp _ _ _ _ _ _ (by decide +kernel)];exact Z6 s
 |dead a d=>exact Z6 s
 |given a b am d=>exact Z6 s⟩
theorem JT (F:ZE) (n f m l x:Str) (h1:l≠"F") (h2:l≠"f") (h3:l≠"M") (h4:l≠"m"):Xc F n f m (l,x)=F (l,x):=by
 rw [UY,Qa (fun z=>h1 z.1),Qa (fun z=>h2 z.1),Qa (fun z=>h3 z.1),Qa (fun z=>h4 z.1)]
theorem Zhi:Adds "T" WL:=⟨fun F G e n s=>by
 cases e with
 |born n' s' d f m=>show Xc F n' f m ("T",n)=_;rw [JT _ _ _ _ _ _ (by decide +kernel) (by decide +kernel) (by decide +kernel) (by decide +kernel)];exact Z6 s
 |taken c t d =>
  show Z7 (Z7 F ("T",c) t) ("t",t) c ("T",n)=_;rw [YR,Qa (fun z=>absurd z.1 (by decide +kernel)),YR];dsimp only [WL];by_cases h:c=n
  ·rw [Qc h,Qc ⟨rfl,h.symm⟩,h]
  ·rw [Qa h,Qa (fun z=>h z.2.symm)];exact Z6 s
 |union a b d=>show ZL _ _ _ _ _=_;rw [Yp _ _ _ _ _ _ (by decide +kernel),Yp _ _ _ _ _ _ (by decide +kernel)];exact Z6 s
 |parted a b d=>show ZL _ _ _ _ _=_;rw [Yp _ _ _ _ _ _ (by decide +kernel),Yp _ _ _ _ _ _ (by decide +kernel)];exact Z6 s
 |dead a d=>exact Z6 s
 |given a b am d=>exact Z6 s⟩
theorem ZeT:Adds "t" WY:=⟨fun F G e n s=>by
 cases e with
 |born n' s' d f m=>show Xc F n' f m ("t",n)=_;rw [JT _ _ _ _ _ _ (by decide +kernel) (by decide +kernel) (by decide +kernel) (by decide +kernel)];exact Z6 s
 |taken c t d =>
  show Z7 (Z7 F ("T",c) t) ("t",t) c ("t",n)=_;rw [YR];dsimp only [WY];by_cases h:t=n
  ·rw [Qc h,Qc ⟨rfl,h.symm⟩,YR,Qa (fun z=>absurd z.1 (by decide +kernel)),h]
  ·rw [Qa h,Qa (fun z=>h z.2.symm),YR,Qa (fun z=>absurd z.1 (by decide +kernel))];exact Z6 s
 |union a b d=>show ZL _ _ _ _ _=_;rw [Yp _ _ _ _ _ _ (by decide +kernel),Yp _ _ _ _ _ _ (by decide +kernel)];exact Z6 s
 |parted a b d=>show ZL _ _ _ _ _=_;rw [Yp _ _ _ _ _ _ (by decide +kernel),Yp _ _ _ _ _ _ (by decide +kernel)];exact Z6 s
 |dead a d=>exact Z6 s
 |given a b am d=>exact Z6 s⟩
theorem Adds.all {l:Str} {ad:Str->Ent->List Str} (A:Adds l ad) (n:Str):∀es:List Ent,(YC es).1 (l,n)=ZC (es.flatMap (ad n)):=by
 intro es
 have go:∀(es:List Ent) (p:ZE×XM) (xs:List Str),p.1 (l,n)=ZC xs->(es.foldl UL p).1 (l,n)=ZC (xs++es.flatMap (ad n)):=by
  intro es
  induction es with
  |nil=>intro p xs h;rw [List.flatMap_nil,Qs];exact h
  |cons e es ih =>
   intro p xs h;rw [RI,NT,←List.append_assoc];refine ih _ (xs++ad n e) ?_;show WP p.1 p.2 e (l,n)=_;rw [A.step p.1 p.2 e n (by rw [h];exact Uh _),h,Zlt]
 exact go es _ [] (Zep .nil).symm
noncomputable def Ent.pr:Ent->Str×Str
 |.union a b _=>(a,b)
 |.parted a b _=>(a,b)
 |_=>("","")
noncomputable def Ent.kind:Ent->Str
 |.union ..=>"union"
 |.parted ..=>"parted"
 |_=>""
def X4 (e:Ent):Prop:=e.tie=true->e.pr.1≠e.pr.2
theorem ZcA {a b n w:Str} (h:Zf n w=Zf a b):(n=a∧w=b)∨(n=b∧w=a):=by
 unfold Zf at h;split at h<;>split at h<;>injection h with h1 h2
 ·exact .inl ⟨h2,h1⟩
 ·exact .inr ⟨h2,h1⟩
 ·exact .inr ⟨h1,h2⟩
 ·exact .inl ⟨h1,h2⟩
noncomputable def Wr (st:Bool) (L:List Str) (y:Str):List Str:=if st=true then ZC (L.filter (fun n=>decide (n≠y))++[y]) else L.filter fun n=>decide (n≠y)
theorem ZgM {st:Bool} {L:List Str} {y:Str} (h:L.Pairwise fun a b=>YI a b=true):(Wr st L y).Pairwise fun a b=>YI a b=true:=by
 unfold Wr;split
 ·exact Uh _
 ·exact h.filter _
theorem Zea {p:Str->Bool} {L:List Str} (h:L.Nodup):(L.filter p).Nodup:=List.Pairwise.filter p h
theorem Zhj {st:Bool} {L:List Str} {y:Str} (h:L.Nodup):(Wr st L y).Nodup:=by
 unfold Wr;split
 ·refine (Wh _).symm.nodup ?_;rw [Rb];refine ⟨Zea h,by simp,fun a ha b hb e=>?_⟩;have:b=y:=by simpa using hb
  subst this e;have:=(Q5.mp ha).2;simp at this
 ·exact Zea h
theorem ZgZ {st:Bool} {L:List Str} {y w:Str}:w∈Wr st L y↔(w≠y∧w∈L)∨(w=y∧st=true):=by
 unfold Wr;by_cases h:st=true
 ·rw [Qc h,(Wh _).mem_iff,Qq,Q5];simp [h,and_comm]
 ·rw [Qa h,Q5];simp [h,and_comm]
theorem ZdJ (F:ZE) (st:Bool) (x y n:Str):ZL F st x y ("S",n)=if n=x then Wr st (F ("S",x)) y else F ("S",n):=by
 unfold ZL Wr;by_cases h:n=x
 ·subst h;rw [Qc rfl,Qc rfl]
 ·rw [Qa (fun e=>h (by injection e)),Qa h]
structure SOk (F:ZE) (G:XM):Prop where
 up:∀n,(F ("S",n)).Pairwise fun a b=>YI a b=true
 nd:∀n,(F ("S",n)).Nodup
 mem:∀n w,w∈F ("S",n)↔YK (G (Zf n w))=true
theorem ZgX {F:ZE} {G:XM} {a b:Str} (ne:a≠b) (h:SOk F G) (l:List (Int×Str)) :
  SOk (ZL (ZL F (YK l) a b) (YK l) b a) (fun c=>if c=Zf a b then l else G c):=by
 have e:∀n,ZL (ZL F (YK l) a b) (YK l) b a ("S",n)=if n=b then Wr (YK l) (F ("S",b)) a else if n=a then Wr (YK l) (F ("S",a)) b else F ("S",n):=fun n=>by
  rw [ZdJ];by_cases h1:n=b
  ·rw [Qc h1,Qc h1,ZdJ,Qa ne.symm]
  ·rw [Qa h1,Qa h1,ZdJ]
 refine ⟨fun n=>?_,fun n=>?_,fun n w=>?_⟩
 ·rw [e];split
  ·exact ZgM (h.up _)
  ·split
   ·exact ZgM (h.up _)
   ·exact h.up _
 ·rw [e];split
  ·exact Zhj (h.nd _)
  ·split
   ·exact Zhj (h.nd _)
   ·exact h.nd _
 ·rw [e];show _↔YK (if Zf n w=Zf a b then l else G (Zf n w))=true;by_cases h1:n=b
  ·subst h1;rw [Qc rfl,ZgZ];by_cases h2:w=a
   ·subst h2;rw [Qc (Zcd n w)];simp
   ·rw [Qa (fun z=>(ZcA z).elim (fun e=>ne e.1.symm) fun e=>h2 e.2),←h.mem];simp [h2]
  ·rw [Qa h1];by_cases h3:n=a
   ·subst h3;rw [Qc rfl,ZgZ];by_cases h2:w=b
    ·subst h2;rw [Qc rfl];simp
    ·rw [Qa (fun z=>(ZcA z).elim (fun e=>h2 e.2) fun e=>h1 e.1),←h.mem];simp [h2]
   ·rw [Qa h3,Qa (fun z=>(ZcA z).elim (fun e=>h3 e.1) fun e=>h1 e.1),←h.mem]
theorem SOk.same {F F':ZE} {G:XM} (h:SOk F G) (e:∀n,F' ("S",n)=F ("S",n)):SOk F' G:=⟨fun n=>by rw [e];exact h.up n,fun n=>by rw [e];exact h.nd n,fun n w=>by rw [e];exact h.mem n w⟩
theorem Zoj {F:ZE} {G:XM} {e:Ent} (ap:X4 e) (h:SOk F G):SOk (WP F G e) (Ua G e):=by
 cases e with
 |union a b d=>exact ZgX (ap rfl) h _
 |parted a b d=>exact ZgX (ap rfl) h _
 |born n s d f m=>exact h.same fun n'=>JT _ _ _ _ _ _ (by decide +kernel) (by decide +kernel) (by decide +kernel) (by decide +kernel)
 |taken c t d =>
  refine h.same fun n'=>?_;show Z7 (Z7 F ("T",c) t) ("t",t) c ("S",n')=_;rw [YR,Qa (fun z=>absurd z.1 (by decide +kernel)),YR,Qa (fun z=>absurd z.1 (by decide +kernel))]
 |dead n d=>exact h.same fun n'=>rfl
 |given a b am d=>exact h.same fun n'=>rfl
theorem Znd {es:List Ent} (h:∀e∈es,X4 e):SOk (YC es).1 (YC es).2:=by
 have go:∀(es:List Ent) (p:ZE×XM),(∀e∈es,X4 e)->SOk p.1 p.2->SOk (es.foldl UL p).1 (es.foldl UL p).2:=by
  intro es
  induction es with
  |nil=>intro p _ h;exact h
  |cons e es ih =>
   intro p ha h;exact ih _ (fun x hx=>ha x (QF _ hx)) (Zoj (ha e (QC ..)) h)
 exact go es _ h ⟨fun n=>.nil,fun n=>.nil,fun n w=>by simp [YK]⟩
noncomputable def tl (c:Str×Str) (es:List Ent):List (Int×Str):=es.filterMap fun e=>if e.tie=true∧Zf e.pr.1 e.pr.2=c then some (e.day,e.kind) else none
theorem Ze7 {l:List (Int×Str)} {d:Int} {k:Str} (h:d∉l.map (·.1)):Zp l d k=l++[(d,k)]:=by
 unfold Zp;rw [Qa];intro z;rw [GK] at z;obtain ⟨q,hq,e⟩:=z;exact h (Qk.mpr ⟨q,hq,QB e⟩)
theorem ZkJ {G:XM} {es:List Ent} {e:Ent} (hG:∀c,G c=tl c es) (n:e.tie=true->e.day∉(tl (Zf e.pr.1 e.pr.2) es).map (·.1)) (c:Str×Str):Ua G e c=tl c (es++[e]):=by
 have ap:tl c (es++[e])=tl c es++tl c [e]:=by unfold tl;rw [RD]
 rw [ap];cases e with
 |union a b d =>
  show (if c=Zf a b then Zp (G (Zf a b)) d "union" else G c)=_;by_cases h:c=Zf a b
  ·subst h;have n':d∉(tl (Zf a b) es).map (·.1):=n rfl;rw [Qc rfl,hG,Ze7 n'];simp [tl,Ent.tie,Ent.pr,Ent.day,Ent.kind]
  ·rw [Qa h,hG];simp [tl,Ent.tie,Ent.pr,QZ h]
 |parted a b d =>
  show (if c=Zf a b then Zp (G (Zf a b)) d "parted" else G c)=_;by_cases h:c=Zf a b
  ·subst h;have n':d∉(tl (Zf a b) es).map (·.1):=n rfl;rw [Qc rfl,hG,Ze7 n'];simp [tl,Ent.tie,Ent.pr,Ent.day,Ent.kind]
  ·rw [Qa h,hG];simp [tl,Ent.tie,Ent.pr,QZ h]
 |_=>rw [show Ua G _ c=G c from rfl,hG];simp [tl,Ent.tie]
def Once (es:List Ent):Prop:=∀c,((tl c es).map (·.1)).Nodup
theorem Once.init {es:List Ent} {e:Ent} (h:Once (es++[e])):Once es∧(e.tie=true->e.day∉(tl (Zf e.pr.1 e.pr.2) es).map (·.1)):=by
 have ap:∀c,tl c (es++[e])=tl c es++tl c [e]:=fun c=>by unfold tl;rw [RD]
 refine ⟨fun c=>?_,fun t m=>?_⟩
 ·have:=h c;rw [ap,Qr,Rb] at this;exact this.1
 ·have:=h (Zf e.pr.1 e.pr.2);rw [ap,Qr,Rb] at this;have e1:tl (Zf e.pr.1 e.pr.2) [e]=[(e.day,e.kind)]:=by simp [tl,t]
  rw [e1] at this;exact this.2.2 _ m _ (QC ..) rfl
theorem Zeb {es:List Ent} (h:Once es) (c:Str×Str):(YC es).2 c=tl c es:=by
 have go:∀n (es:List Ent),es.length=n->Once es->∀c,(YC es).2 c=tl c es:=by
  intro n
  induction n with
  |zero =>
   intro es hl _ c;rw [List.length_eq_zero_iff.mp hl];rfl
  |succ n ih =>
   intro es hl ho c;obtain ⟨xs,x,rfl⟩:∃xs x,es=xs++[x]:=⟨es.dropLast,es.getLast (by intro z;rw [z] at hl;cases hl),(NP _).symm⟩;obtain ⟨o1,o2⟩:=ho.init;rw [Zap];exact ZkJ (ih xs (by rw [Qu] at hl;exact Nat.succ.inj hl) o1) o2 c
 exact go _ es rfl h c
noncomputable def WC (a b:Str) (last:Option Ent) (e:Ent):Option Ent:=if e.tie=true∧Zf e.pr.1 e.pr.2=Zf a b then (match last with|none=>some e|some l=>if l.day<e.day then some e else some l) else last
noncomputable def Zbi (ds:List Ent) (a b:Str):Bool:=match ds.foldl (WC a b) none with
 |some e=>decide (e.kind="union")
 |none=>false
def Uf (last:Option Ent) (l:List (Int×Str)):Prop:=match last with
 |none=>l=[]
 |some e=>(e.day,e.kind)∈l∧∀q∈l,q.1≤e.day
theorem ZnU {a b:Str} {last:Option Ent} {xs:List Ent} {e:Ent} (h:Uf last (tl (Zf a b) xs)):Uf (WC a b last e) (tl (Zf a b) (xs++[e])):=by
 have ap:tl (Zf a b) (xs++[e])=tl (Zf a b) xs++tl (Zf a b) [e]:=by unfold tl;rw [RD]
 rw [ap];unfold WC;by_cases c:e.tie=true∧Zf e.pr.1 e.pr.2=Zf a b
 ·rw [Qc c];have e1:tl (Zf a b) [e]=[(e.day,e.kind)]:=by unfold tl;simp [c.1,c.2]
  rw [e1];cases last with
  |none =>
   have h':tl (Zf a b) xs=[]:=h;rw [h'];exact ⟨QC ..,fun q hq=>by rw [show q=(e.day,e.kind) by simpa using hq];exact Ng _⟩
  |some l =>
   obtain ⟨h1,h2⟩:=(show (l.day,l.kind)∈tl (Zf a b) xs∧∀q∈tl (Zf a b) xs,q.1≤l.day from h);by_cases lt:l.day<e.day
   ·show Uf (if l.day<e.day then some e else some l) _;rw [Qc lt];refine ⟨by simp,fun q hq=>?_⟩;rcases Qq.mp hq with hq|hq
    ·have:=h2 q hq;show q.1≤e.day;omega
    ·rw [show q=(e.day,e.kind) by simpa using hq];exact Ng _
   ·show Uf (if l.day<e.day then some e else some l) _;rw [Qa lt];refine ⟨Qq.mpr (.inl h1),fun q hq=>?_⟩;rcases Qq.mp hq with hq|hq
    ·exact h2 q hq
    ·rw [show q=(e.day,e.kind) by simpa using hq];show e.day≤l.day;omega
 ·rw [Qa c];have e1:tl (Zf a b) [e]=[]:=by unfold tl;simp [c]
  rw [e1,Qs];exact h
theorem Zei {a b:Str}:∀(ds xs:List Ent) (last:Option Ent),Uf last (tl (Zf a b) xs)->Uf (ds.foldl (WC a b) last) (tl (Zf a b) (xs++ds))
 |[],xs,last,h=>by rw [Qs];exact h
 |e::ds,xs,last,h=>by
  rw [RI,show xs++e::ds=(xs++[e])++ds by simp];exact Zei ds (xs++[e]) _ (ZnU h)
theorem Zk8 {l:List (Int×Str)} {m:Int} {k:Str}:(l.map (·.1)).Nodup->(m,k)∈l->Zv m l=some k:=by
 induction l with
 |nil=>intro _ h;cases h
 |cons q r ih =>
  intro n h;rw [Qp,QU] at n;unfold Zv;rcases Qh.mp h with h|h
  ·rw [Qc (by rw [←h]),←h]
  ·rw [Qa (fun z=>n.1 (Qk.mpr ⟨(m,k),h,z.symm⟩))];exact ih n.2 h
theorem ZjD {ds:List Ent} (o:Once ds) (a b:Str):Zbi ds a b=YK (tl (Zf a b) ds):=by
 have h:=Zei (a:=a) (b:=b) ds [] none rfl;rw [List.nil_append] at h;unfold Zbi;cases hl:ds.foldl (WC a b) none with
 |none =>
  rw [hl] at h;rw [show tl (Zf a b) ds=[] from h];rfl
 |some e =>
  rw [hl] at h;obtain ⟨h1,h2⟩:=(show (e.day,e.kind)∈tl (Zf a b) ds∧∀q∈tl (Zf a b) ds,q.1≤e.day from h)
  have:=ZgL (l:=tl (Zf a b) ds) (m:=e.day) (x:=e.kind) (Qk.mpr ⟨_,h1,rfl⟩) (fun y hy=>by
   obtain ⟨q,hq,rfl⟩:=Qk.mp hy;exact h2 q hq) (Zk8 (o _) h1)
  rw [this]
theorem Zn7 (e:Ent):e.told.tie=e.tie∧Zf e.told.pr.1 e.told.pr.2=Zf e.pr.1 e.pr.2∧e.told.day=e.day∧e.told.kind=e.kind:=by
 cases e with
 |union a b d=>exact ⟨rfl,Vd a b,rfl,rfl⟩
 |parted a b d=>exact ⟨rfl,Vd a b,rfl,rfl⟩
 |_=>exact ⟨rfl,rfl,rfl,rfl⟩
theorem ZnH {e:Ent} (h:X4 e):X4 e.told:=fun t=>by
 obtain ⟨h1,h2,_,_⟩:=Zn7 e;rw [h1] at t;have ne:=h t;intro z;apply ne
 have:∀a b:Str,(Zf a b).1=(Zf a b).2->a=b:=fun a b h=>by
  unfold Zf at h;split at h
  ·exact h.symm
  ·exact h
 cases e with
 |union a b d=>exact this a b z
 |parted a b d=>exact this a b z
 |_=>cases t
theorem Zha {f:Ent->List Str} (h:∀e,(f e).length≤1):∀l:List Ent,(l.flatMap f).length≤l.length
 |[]=>Qf _
 |e::l=>by
  rw [NT,Qu,QK];have:=Zha h l;have:=h e;omega
theorem Ug (n:Str) (e:Ent):(WA n e).length≤1∧(Wy n e).length≤1∧(WU n e).length≤1∧(WO n e).length≤1∧(WL n e).length≤1∧(WY n e).length≤1:=by
 cases e<;>simp only [WA,Wy,WU,WO,WL,WY]<;>refine ⟨?_,?_,?_,?_,?_,?_⟩<;>(try split)<;>simp
theorem Zjx {es:List Ent} {l:Str} (h:l∉Xn) (n:Str):(YC es).1 (l,n)=[]:=by
 have hh:l≠"F"∧l≠"M"∧l≠"T"∧l≠"f"∧l≠"m"∧l≠"t"∧l≠"S":=by simpa [Xn] using h
 obtain ⟨h1,h2,h3,h4,h5,h6,h7⟩:=hh
 have go:∀(es:List Ent) (p:ZE×XM),p.1 (l,n)=[]->(es.foldl UL p).1 (l,n)=[]:=by
  intro es
  induction es with
  |nil=>intro p h;exact h
  |cons e es ih =>
   intro p h;rw [RI];refine ih _ ?_;show WP p.1 p.2 e (l,n)=[];cases e with
   |born n' s d f m=>show Xc p.1 n' f m (l,n)=[];rw [JT _ _ _ _ _ _ h1 h4 h2 h5];exact h
   |taken c t d=>show Z7 (Z7 p.1 ("T",c) t) ("t",t) c (l,n)=[];rw [YR,Qa (fun z=>h6 z.1),YR,Qa (fun z=>h3 z.1)];exact h
   |union a b d=>show ZL _ _ _ _ _=[];rw [Yp _ _ _ _ _ _ h7,Yp _ _ _ _ _ _ h7];exact h
   |parted a b d=>show ZL _ _ _ _ _=[];rw [Yp _ _ _ _ _ _ h7,Yp _ _ _ _ _ _ h7];exact h
   |dead a d=>exact h
   |given a b am d=>exact h
 exact go es _ rfl
structure BSt (B:Bk) (es:List Ent):Prop where
 kept:B.kept.map (·.1)=es
 lks:lk B.links=(YC es).1
 tis:YT B.ties=(YC es).2
 nd:(B.ties.map (·.1)).Nodup
 nl:B.links.length≤4*es.length
 nt:B.ties.length≤es.length
 ns:B.sums.length≤es.length
theorem BSt.start:BSt Jk []:=⟨rfl,rfl,rfl,.nil,Qf _,Qf _,Qf _⟩
theorem BSt.put {B B':Bk} {es:List Ent} {e:Ent} (h:BSt B es) (p:Put B e B'):BSt B' (es++[e.told]):=by
 obtain ⟨a,hk⟩:=p.kept;have l1:(es++[e.told]).length=es.length+1:=by rw [Qu];rfl
 have n1:=p.nl;have n2:=p.nt;have n3:=p.ns;have m1:=h.nl;have m2:=h.nt;have m3:=h.ns;refine ⟨by rw [hk,Qr,h.kept];rfl,?_,?_,p.nd,by omega,by omega,by omega⟩
 ·funext c
  rw [Zap,p.lks,h.lks,h.tis];rfl
 ·funext c
  rw [Zap,p.tis,h.tis];rfl
theorem ZiJ (c:Str×Str) (es:List Ent):(tl c es).length≤es.length:=Na ..
theorem Zf5 {κ:Type} [DecidableEq κ] {k:κ}:∀{l:List (κ×V)},(∀p∈l,p.1≠k)->ZM l k=none
 |[],_=>rfl
 |p::l,h=>by
  rw [XW (h p (QC ..))];exact Zf5 fun q hq=>h q (QF _ hq)
theorem Ziw {B:Bk} {es:List Ent} (hk:B.kept.map (·.1)=es) {k:List Zi} (h:∀e∈es,e.key≠k):ZM B.keptD k=none:=by
 refine Zf5 fun p hp=>?_;obtain ⟨q,hq,rfl⟩:=Qk.mp hp;exact h q.1 (by rw [←hk];exact Qk.mpr ⟨q,hq,rfl⟩)
theorem ZdA {B:Bk} {es:List Ent} (hk:B.kept.map (·.1)=es):B.kept.length=es.length:=by rw [←hk,Qd]
theorem ZcD {bs:List (Ent×Addr)} {i:Nat} {y:V} (h:(XH bs)[i]?=some y):∃p,bs[i]?=some p∧y=.ref p.2:=by
 unfold XH at h;rw [Qw] at h;obtain ⟨p,hp,e⟩:=QR.mp h;exact ⟨p,hp,e.symm⟩
theorem Uw (bs:List (Ent×Addr)):(XH bs).length=bs.length:=by unfold XH;rw [Qd]
theorem ZcU (l:List Str):(l.map V.str).all WW=true:=by
 rw [G8,Rv];intro x _;rfl
def Ja (K:W.Frag) (H:Hp) (B:Bk) (x:V):Prop:=(∃ty,Kd K H x ty∧W.kitOne K ty (.type "str")=some false)∨∃n,x=.str n∧Z3 n B.kept=none
theorem ZoA {ds:List (Ent×Addr)} {i:Nat} {p:Ent×Addr} (h:ds[i]?=some p):ds.take (i+1)=ds.take i++[p]:=by
 rw [Rh,h];rfl
theorem ZgP {bs:List (Ent×Addr)} {i:Nat} {p:Ent×Addr} (h:bs[i]?=some p):(bs.take (i+1)).map (·.1)=(bs.take i).map (·.1)++[p.1]:=by
 rw [ZoA h,Qr];rfl
theorem Zld (l:List (Ent×Addr)):(Bk.bornD l).length=(Wj l).length:=by rw [ZjB,Qd,←ZjM,Qd]
theorem ZlP {n:Str} {d:Int} (hn:Nm n) (d1:-10 ^ 18≤d) (d2:d≤10 ^ 18):(Ent.dead n d).Ok:=by
 refine ⟨?_,fun y hy=>?_⟩
 ·show Vl [.str "dead",.str n,.int d]=true;rw [JF,show WV "dead"=some [.name,.day] by rfl];show Xw _ _=true;unfold Xw;simp [ZT,VM,hn.ok,ZdS d1 d2]
 ·simp only [Ent.row,Qh,QN,QO] at hy;rcases hy with h|h|h
  ·cases h;decide +kernel
  ·cases h;exact Ue hn
  ·cases h
noncomputable def amt (c:Str×Str):Ent->Int
 |.given g t am _=>if c=(g,t) then am else 0
 |_=>0
noncomputable def JU (c:Str×Str) (es:List Ent):Int:=(es.map (amt c)).sum
theorem ZmK (c:Str×Str) (es:List Ent) (e:Ent):JU c (es++[e])=JU c es+amt c e:=by
 unfold JU;rw [Qr,List.sum_append];simp
theorem Zf9 {F:Str×Str->List Str} {st:Bool} {a b:Str} (ne:a≠b) (c:Str×Str):(ZL (ZL F st a b) st b a c).length≤(F c).length+1:=by
 by_cases e:c=(("S",b):Str×Str)
 ·refine Qo (ZcE ..) ?_
  have:ZL F st a b c=F c:=by
   unfold ZL;rw [Qa];intro z;rw [e] at z;injection z with _ z2;exact ne z2.symm
  rw [this];exact Qf _
 ·have:ZL (ZL F st a b) st b a c=ZL F st a b c:=by
   show (if c=(("S",b):Str×Str) then _ else ZL F st a b c)=_;rw [Qa e]
  rw [this];exact ZcE ..
def D5 (pool:List Str) (e:Ent):Prop:=e.Ok∧(∀n∈e.named,n∈pool)∧∀n,e.bornName=some n->n∈pool
noncomputable def LBk (ks:List (Ent×Addr)):Bk:=⟨ks,[],[],[]⟩
structure KsOk (ks:List (Ent×Addr)):Prop where
 told:∀p∈ks,p.1.told=p.1
 nd:(Wj ks).Nodup
 len:ks.length≤60
theorem ZnK {k:List Zi}:∀{l m:List (Ent×Addr)},l.map (·.1)=m.map (·.1)->(ZM (l.map fun p=>(p.1.key,V.ref p.2)) k).isSome=(ZM (m.map fun p=>(p.1.key,V.ref p.2)) k).isSome:=by
 intro l
 induction l with
 |nil=>intro m h;cases m with
  |nil=>rfl
  |cons q m=>cases h
 |cons p l ih=>intro m h;cases m with
  |nil=>cases h
  |cons q m =>
   have h1:p.1=q.1:=(No h).1;have h2:=(No h).2;rw [Qp,Qp];by_cases c:p.1.key=k
   ·rw [XX (show (p.1.key,V.ref p.2).1=k from c),XX (show q.1.key=k by rw [←h1];exact c)];rfl
   ·rw [XW (show ¬(p.1.key,V.ref p.2).1=k from c),XW (show ¬q.1.key=k by rw [←h1];exact c)];exact ih h2
theorem ZnT {k:List Zi}:∀{ks:List (Ent×Addr)},(∃p∈ks,p.1.key=k)->(ZM (LBk ks).keptD k).isSome=true:=by
 intro ks
 induction ks with
 |nil=>rintro ⟨p,hp,_⟩;cases hp
 |cons q ks ih =>
  rintro ⟨p,hp,e⟩;show (ZM ((q.1.key,V.ref q.2)::(LBk ks).keptD) k).isSome=true;by_cases c:q.1.key=k
  ·rw [XX (show (q.1.key,V.ref q.2).1=k from c)];rfl
  ·rw [XW (show ¬(q.1.key,V.ref q.2).1=k from c)];rcases Qh.mp hp with rfl|hp
   ·exact absurd e c
   ·exact ih ⟨p,hp,e⟩
theorem ZlV:∀{es:List Ent},(∀e∈es,X4 e)->∀n,((YC es).1 ("S",n)).length≤es.length:=by
 have go:∀k (es:List Ent),es.length=k->(∀e∈es,X4 e)->∀n,((YC es).1 ("S",n)).length≤es.length:=by
  intro k
  induction k with
  |zero =>
   intro es h _ n;have:es=[]:=List.eq_nil_of_length_eq_zero h;subst this;exact Qf _
  |succ k ih =>
   intro es h ap n;have ne:es≠[]:=fun z=>by rw [z] at h;cases h
   obtain ⟨xs,e,rfl⟩:∃xs e,es=xs++[e]:=⟨_,_,(NP ne).symm⟩;have lx:xs.length=k:=by rw [Qu] at h;exact Nat.succ.inj h
   have ih:=ih xs lx (fun x hx=>ap x (Qq.mpr (.inl hx))) n;have ae:=ap e (Qq.mpr (.inr (Re.mpr rfl)));rw [Zap,Qu]
   have key:(WP (YC xs).1 (YC xs).2 e ("S",n)).length≤((YC xs).1 ("S",n)).length+1:=by
    cases e with
    |born n' s d f m =>
     show (Xc (YC xs).1 n' f m ("S",n)).length≤_;rw [JT _ _ _ _ _ _ (by decide +kernel) (by decide +kernel) (by decide +kernel) (by decide +kernel)];exact QW _
    |taken c t d =>
     show (Z7 (Z7 (YC xs).1 ("T",c) t) ("t",t) c ("S",n)).length≤_;rw [YR,Qa (fun z=>absurd z.1 (by decide +kernel)),YR,Qa (fun z=>absurd z.1 (by decide +kernel))];exact QW _
    |union a b d=>exact Zf9 (ae rfl) _
    |parted a b d=>exact Zf9 (ae rfl) _
    |dead a d=>exact QW _
    |given a b am d=>exact QW _
   show (WP (YC xs).1 (YC xs).2 e ("S",n)).length≤xs.length+1;omega
 intro es h n;exact go es.length es rfl h n
theorem ZlZ {es:List Ent} (h:∀e∈es,X4 e) (c:Str×Str):((YC es).1 c).length≤es.length:=by
 obtain ⟨l,n⟩:=c
 have six:∀{ad:Str->Ent->List Str},Adds l ad->(∀e,(ad n e).length≤1)->((YC es).1 (l,n)).length≤es.length:=fun A h1=>by
  rw [A.all,(Wh _).length_eq];exact Zha h1 es
 by_cases hl:l∈Xn
 ·simp only [Xn,Qh,QN,QO] at hl;rcases hl with rfl|rfl|rfl|rfl|rfl|rfl|rfl
  ·exact six ZeD fun e=>(Ug n e).1
  ·exact six Zge fun e=>(Ug n e).2.1
  ·exact six Zhi fun e=>(Ug n e).2.2.2.2.1
  ·exact six ZeN fun e=>(Ug n e).2.2.1
  ·exact six Zgr fun e=>(Ug n e).2.2.2.1
  ·exact six ZeT fun e=>(Ug n e).2.2.2.2.2
  ·exact ZlV h n
 ·rw [Zjx hl];exact QJ _
theorem Zl1 {ds:List Ent} (h:(ds.map fun e=>e.told.key).Nodup):Once ds:=by
 intro c
 have go:∀ds:List Ent,(ds.map fun e=>e.told.key).Nodup->((tl c ds).map (·.1)).Nodup:=by
  intro ds
  induction ds with
  |nil=>intro _;exact .nil
  |cons e ds ih =>
   intro n;rw [Qp,QU] at n;have ih:=ih n.2;unfold tl at ih ⊢;rw [QT];by_cases cc:e.tie=true∧Zf e.pr.1 e.pr.2=c
   ·rw [Qc cc];show (_::_).Nodup;rw [QU];refine ⟨fun m=>?_,ih⟩;obtain ⟨q,hq,eq⟩:=Qk.mp m;obtain ⟨x,hx,ex⟩:=Rs.mp hq;by_cases c2:x.tie=true∧Zf x.pr.1 x.pr.2=c
    ·rw [Qc c2] at ex;have:=Qn ex;subst this;refine n.1 (Qk.mpr ⟨x,hx,?_⟩)
     have kk:∀y:Ent,y.tie=true->y.told.key=[.inr "tie",.inr (Zf y.pr.1 y.pr.2).1,.inr (Zf y.pr.1 y.pr.2).2,.inl y.day]:=fun y hy=>by
      cases y with
      |union=>rfl
      |parted=>rfl
      |_=>cases hy
     rw [kk x c2.1,kk e cc.1,c2.2,cc.2,show x.day=e.day from eq]
    ·rw [Qa c2] at ex;cases ex
   ·rw [Qa cc];exact ih
 exact go ds h
structure LI5 (pool:List Str) (B:Bk) (ks:List (Ent×Addr)):Prop where
 st:BSt B (ks.map (·.1))
 sus:∀c,Y2 B.sums c=JU c (ks.map (·.1))
 told:∀p∈ks,p.1.told=p.1
 keys:(ks.map fun p=>p.1.told.key).Nodup
 inp:∀p∈ks,∀n,p.1.bornName=some n->n∈pool
 ap:∀p∈ks,X4 p.1
theorem LI5.start (pool:List Str):LI5 pool Jk []:=⟨BSt.start,fun _=>rfl,fun p hp=>(by cases hp),.nil,fun p hp=>(by cases hp),fun p hp=>(by cases hp)⟩
theorem LI5.ap' {pool:List Str} {B:Bk} {ks:List (Ent×Addr)} (h:LI5 pool B ks):∀e∈ks.map (·.1),X4 e:=fun e he=>by
 obtain ⟨p,hp,rfl⟩:=Qk.mp he;exact h.ap p hp
theorem LI5.once {pool:List Str} {B:Bk} {ks:List (Ent×Addr)} (h:LI5 pool B ks):Once (ks.map (·.1)):=by
 refine Zl1 ?_;rw [QX];exact h.keys
theorem LI5.room {pool:List Str} {B:Bk} {ks:List (Ent×Addr)} (h:LI5 pool B ks) (l:ks.length≤60):Room1 B:=by
 have e:(ks.map (·.1)).length=ks.length:=Qd ..;have m1:=h.st.nl;have m2:=h.st.nt;have m3:=h.st.ns;refine ⟨h.st.nd,by omega,by omega,by omega,fun c=>?_,fun c=>?_⟩
 ·rw [h.st.lks];exact Qo (ZlZ h.ap' c) (by omega)
 ·rw [h.st.tis,Zeb h.once];exact Qo (ZiJ c _) (by omega)
theorem ZkW (e:Ent):e.told.bornName=e.bornName:=by cases e<;>rfl
theorem Znh {B:Bk} {e:Ent} (h:Wa B e=true):X4 e:=fun t=>by
 cases e with
 |union a b d =>
  intro z;rw [ZaG rfl,show (Ent.union a b d).same=true from Qm (show a=b from z)] at h;cases h
 |parted a b d =>
  intro z;rw [ZaG rfl,show (Ent.parted a b d).same=true from Qm (show a=b from z)] at h;cases h
 |_=>cases t
theorem Zd5 {B:Bk} {e:Ent} (h:X1 B e=none):B.kept.length<400∧(e.isBorn=true->(Bk.bornD B.kept).length<60)∧(∀n∈e.named,Known B n)∧ZM B.keptD e.told.key=none∧Wa B e=true:=by
 obtain ⟨h1,h2,h3⟩:=Zg1 h;unfold X1 at h;by_cases f:B.full e=true
 ·rw [Qc f] at h;cases h
 ·rw [Qa f,Qa (by rw [Zew h3];decide),Qa (by rw [h1];decide)] at h;refine ⟨h2,fun b=>?_,h3,h1,?_⟩
  ·unfold Bk.full at f;rw [b,GL,Gh,not_or] at f;have:=f.2;rw [Ni] at this;omega
  ·cases hf:Wa B e with
   |true=>rfl
   |false=>rw [hf,Qa (by decide)] at h;cases h
theorem LI5.put {pool:List Str} {B B':Bk} {ks:List (Ent×Addr)} {e:Ent} (h:LI5 pool B ks) (p:Put B e B') (d:D5 pool e) (no:X1 B e=none) (a:Addr):LI5 pool B' (ks++[(e.told,a)]):=by
 obtain ⟨_,_,_,hv,hf⟩:=Zd5 no;have st:=h.st.put p;have em:(ks++[(e.told,a)]).map (·.1)=ks.map (·.1)++[e.told]:=by rw [Qr];rfl
 rw [←em] at st;have one:∀q∈ks++[(e.told,a)],q∈ks∨q=(e.told,a):=fun q hq=>(Qq.mp hq).imp id (fun z=>by simpa using z);refine ⟨st,fun c=>?_,fun q hq=>?_,?_,fun q hq n hn=>?_,fun q hq=>?_⟩
 ·rw [p.su c,em,ZmK];generalize e.told=e' at *;cases e' with
  |given x y am d =>
   show (if c=(x,y) then Y2 B.sums c+am else Y2 B.sums c)=JU c _+(if c=(x,y) then am else 0);rw [h.sus];split<;>simp
  |_=>rw [show ZaU (Y2 B.sums) _ c=Y2 B.sums c from rfl,h.sus];exact (Int.add_zero _).symm
 ·rcases one q hq with hq|rfl
  ·exact h.told q hq
  ·exact Zab e
 ·rw [Qr,Rb];refine ⟨h.keys,by simp,fun x hx y hy z=>?_⟩;have hy':y=e.told.told.key:=by simpa using hy
  obtain ⟨q,hq,rfl⟩:=Qk.mp hx;have kn:(ZM (LBk ks).keptD e.told.key).isSome=true:=ZnT ⟨q,hq,by rw [h.told q hq] at z;rw [z,hy',Zab]⟩;have kv:(ZM B.keptD e.told.key).isSome=(ZM (LBk ks).keptD e.told.key).isSome:=ZnK (l:=B.kept) (m:=ks) h.st.kept;rw [kn,hv] at kv;cases kv
 ·rcases one q hq with hq|rfl
  ·exact h.inp q hq n hn
  ·exact d.2.2 n (by rw [←ZkW];exact hn)
 ·rcases one q hq with hq|rfl
  ·exact h.ap q hq
  ·exact ZnH (Znh hf)
theorem ZlF {l m:List Str} (h:l.Nodup) (s:∀x∈l,x∈m):l.length≤m.length:=by
 induction l generalizing m with
 |nil=>exact QJ _
 |cons a l ih =>
  have hn:=QU.mp h;have am:=s a (QC ..);have:=ih (m:=m.erase a) hn.2 fun x hx=>(List.mem_erase_of_ne (fun z=>hn.1 (by rw [←z];exact hx))).mpr (s x (QF _ hx));rw [List.length_erase_of_mem am] at this;have:=List.length_pos_of_mem am;rw [QK];omega
theorem LI5.names {pool:List Str} {B:Bk} {ks:List (Ent×Addr)} (h:LI5 pool B ks):(Wj ks).Nodup∧∀n∈Wj ks,n∈pool:=by
 refine ⟨?_,fun n hn=>?_⟩
 ·have k:=h.keys;clear h
  induction ks with
  |nil=>exact .nil
  |cons p ks ih =>
   have kn:=QU.mp (show (p.1.told.key::ks.map fun p=>p.1.told.key).Nodup from k);have ih:=ih kn.2;unfold Wj at ih ⊢;rw [QT];cases hb:p.1.bornName with
   |none=>exact ih
   |some n =>
    refine QU.mpr ⟨fun hm=>?_,ih⟩;obtain ⟨q,hq,eq⟩:=Rs.mp hm;refine kn.1 (Qk.mpr ⟨q,hq,?_⟩)
    have bk:∀e:Ent,e.bornName=some n->e.told.key=[.inr "born",.inr n]:=fun e he=>by
     cases e with
     |born n' s d f m=>cases he;rfl
     |_=>cases he
    rw [bk _ eq,bk _ hb]
 ·obtain ⟨q,hq,eq⟩:=Rs.mp hn;exact h.inp q hq n eq
theorem LI5.ksok {pool:List Str} {B:Bk} {ks:List (Ent×Addr)} (h:LI5 pool B ks) (l:ks.length≤60) (p33:pool.length≤33):KsOk ks∧(Wj ks).length<60:=by
 obtain ⟨n1,n2⟩:=h.names;exact ⟨⟨h.told,n1,l⟩,Ge (ZlF n1 n2) (by omega)⟩
structure Fit (xs:List Ent) (e:Ent):Prop where
 kn:∀n∈e.named,∃s d f m,Ent.born n s d f m∈xs∧d≤e.day
 key:∀x∈xs,x.key≠e.told.key
 par:∀n s d f m,e=.born n s d f m->(f=""∨∃d' f' m',Ent.born f "he" d' f' m'∈xs∧d'<d)∧(m=""∨∃d' f' m',Ent.born m "she" d' f' m'∈xs∧d'<d)
 tk:∀c t d,e=.taken c t d->∀sc dc fc mc st dt ft mt,Ent.born c sc dc fc mc∈xs->Ent.born t st dt ft mt∈xs->dt<dc
 ap:e.same=false
def BU (xs:List Ent):Prop:=∀{n s d f m s' d' f' m'},Ent.born n s d f m∈xs->Ent.born n s' d' f' m'∈xs->Ent.born n s d f m=.born n s' d' f' m'
theorem Uj {B:Bk} {xs:List Ent} (h:B.kept.map (·.1)=xs) (u:BU xs) {n s f m:Str} {d:Int} (hm:Ent.born n s d f m∈xs):Known B n∧X9 B n=s∧Yk B n=d:=by
 obtain ⟨a,ha⟩:=ZgI (l:=B.kept) (by rw [h];exact hm) fun {s' d' f' m'} hm'=>by
  rw [h] at hm';exact u hm' hm
 exact ⟨by unfold Known;rw [ha];simp,Zak ha rfl,U9 ha rfl⟩
theorem ZoP {B:Bk} {xs:List Ent} {e:Ent} (h:B.kept.map (·.1)=xs) (u:BU xs) (l:xs.length<400) (b:e.isBorn=true->(Wj B.kept).length<60) (f:Fit xs e):X1 B e=none:=by
 have kl:=ZdA h;refine ZkZ ?_ (fun n hn=>?_) ?_ ?_
 ·unfold Bk.full;rw [Qj (show ¬400≤B.kept.length by omega),Zld];cases hb:e.isBorn with
  |false=>rfl
  |true=>rw [Qj (show ¬60≤(Wj B.kept).length by have:=b hb;omega)];rfl
 ·obtain ⟨s,d,f',m,h1,_⟩:=f.kn n hn;exact (Uj h u h1).1
 ·rw [Ziw h f.key];rfl
 ·cases hi:e.isBorn with
  |true =>
   cases e with
   |born n s d fa mo =>
    obtain ⟨p1,p2⟩:=f.par n s d fa mo rfl
    have one:∀{x so:Str},(x=""∨∃d' f' m',Ent.born x so d' f' m'∈xs∧d'<d)->Xx B x so d=true:=fun {x so} hx=>by
     unfold Xx;rcases hx with rfl|⟨d',f',m',h1,h2⟩
     ·rfl
     ·obtain ⟨_,e1,e2⟩:=Uj h u h1;rw [e1,e2,Qm rfl,Qm h2,GL,Bool.or_true]
    show (Xx B fa "he" d&&Xx B mo "she" d)=true;rw [one p1,one p2];rfl
   |_=>cases hi
  |false =>
   rw [ZaG hi,f.ap]
   have he:e.early B=false:=by
    cases e with
    |taken c t d =>
     obtain ⟨sc,dc,fc,mc,h1,_⟩:=f.kn c (by simp [Ent.named]);obtain ⟨st,dt,ft,mt,h2,_⟩:=f.kn t (by simp [Ent.named]);have h3:=f.tk c t d rfl _ _ _ _ _ _ _ _ h1 h2;show decide (Yk B c≤Yk B t)=false;rw [(Uj h u h1).2.2,(Uj h u h2).2.2];exact Qj (by omega)
    |_=>rfl
   rw [he];show (e.named.all fun n=>decide (Yk B n≤e.day))=true;rw [Rv];intro n hn;obtain ⟨s,d,f',m,h1,h2⟩:=f.kn n hn;rw [(Uj h u h1).2.2];exact Qm h2
inductive GdL (pool:List Str):List Ent->Prop
 |nil:GdL pool []
 |snoc {es:List Ent} {e:Ent} (h:GdL pool es) (d:D5 pool e) (d':D5 pool e.told) (f:Fit (es.map Ent.told) e):GdL pool (es++[e])
theorem GdL.last {pool:List Str} {l:List Ent} (h:GdL pool l) {xs:List Ent} {e:Ent} (el:l=xs++[e]):GdL pool xs∧D5 pool e∧D5 pool e.told∧Fit (xs.map Ent.told) e:=by
 cases h with
 |nil=>simp at el
 |snoc h d d' f =>
  obtain ⟨e1,e2⟩:=List.append_inj' el rfl;obtain ⟨e3,_⟩:=No e2;subst e1 e3;exact ⟨h,d,d',f⟩
theorem GdL.take {pool:List Str} {l:List Ent} (h:GdL pool l):∀i,GdL pool (l.take i):=by
 induction h with
 |nil=>intro i;rw [List.take_nil];exact .nil
 |@snoc xs e h d d' f ih =>
  intro i;by_cases il:i≤xs.length
  ·rw [List.take_append_of_le_length il];exact ih i
  ·rw [List.take_of_length_le (by rw [Qu];show _+1≤_;omega)];exact .snoc h d d' f
theorem GdL.bu {pool:List Str} {l:List Ent} (h:GdL pool l):BU (l.map Ent.told):=by
 induction h with
 |nil=>intro n s d f m s' d' f' m' h1;cases h1
 |@snoc xs e h d5 d5' f ih =>
  intro n s d fa m s' d' f' m' h1 h2;rw [Qr] at h1 h2;have kb:∀{x:Ent} {n s f m:Str} {d:Int},x=.born n s d f m->x.key=[.inr "born",.inr n]:=fun z=>by rw [z];rfl
  rcases Qq.mp h1 with h1|h1<;>rcases Qq.mp h2 with h2|h2
  ·exact ih h1 h2
  ·have e2:=Re.mp h2;exact absurd (by rw [←e2];rfl) (f.key _ h1)
  ·have e1:=Re.mp h1;exact absurd (by rw [←e1];rfl) (f.key _ h2)
  ·rw [Re.mp h1,Re.mp h2]
theorem GdL.d5 {pool:List Str} {l:List Ent} (h:GdL pool l):∀e∈l,D5 pool e:=by
 induction h with
 |nil=>intro e he;cases he
 |snoc h d5 d' f ih =>
  intro e he;rcases Qq.mp he with he|he
  ·exact ih e he
  ·rw [Re.mp he];exact d5
theorem LI5.put' {pool:List Str} {B B':Bk} {e:Ent} (h:LI5 pool B B.kept) (p:Put B e B') (d:D5 pool e) (no:X1 B e=none):LI5 pool B' B'.kept∧B'.kept.map (·.1)=B.kept.map (·.1)++[e.told]:=by
 obtain ⟨a,ha⟩:=p.kept;have z:=h.put p d no a;rw [←ha] at z;exact ⟨z,by rw [ha,Qr];rfl⟩
theorem GdL.ref {pool:List Str} {B:Bk} {es:List Ent} {e:Ent} (li:LI5 pool B B.kept) (hk:B.kept.map (·.1)=es.map Ent.told) (g:GdL pool (es++[e])) (l:B.kept.length≤60) (p33:pool.length≤33):X1 B e=none∧D5 pool e∧Room1 B:=by
 obtain ⟨g0,d5,_,f⟩:=g.last rfl;have kl:=ZdA hk;refine ⟨ZoP hk g0.bu (by rw [←kl];omega) (fun _=>(li.ksok l p33).2) f,d5,li.room l⟩
theorem Wu {l:List Str} {i:Nat} {v:V} (h:(l.map V.str)[i]?=some v):∃x,l[i]?=some x∧v=.str x:=by
 rw [Qw] at h;obtain ⟨x,hx,rfl⟩:=QR.mp h;exact ⟨x,hx,rfl⟩
theorem Zcc {x y:Str} (h:x.cps.toList=y.cps.toList):x=y:=by
 obtain ⟨a⟩:=x;obtain ⟨b⟩:=y;have:a=b:=Array.toList_inj.mp h;rw [this]
theorem Zkb (L:List Nat) {k:Nat} (h:k≤L.length):Txt.slice ⟨L.toArray⟩ none (some (k:Int))=⟨(L.take k).toArray⟩:=by
 have hl:k≤(⟨L.toArray⟩:Str).length:=by rw [UE];exact h
 have e:Txt.slice ⟨L.toArray⟩ none (some (k:Int))=StrLaws.sliceText ⟨L.toArray⟩ (some ((0:Nat):Int)) (some (k:Int)):=by
  show StrLaws.sliceText _ none (some (k:Int))=_;unfold StrLaws.sliceText;rw [StrLaws.sliceIdx_none_lo];rfl
 rw [e,StrLaws.sliceText_nat _ (QJ _) hl];refine Zcc ?_;simp
theorem Zb0 {a b:Str} {d:Int} (ha:Nm a) (hb:Nm b) (d1:-10 ^ 18≤d) (d2:d≤10 ^ 18):(Ent.taken a b d).Ok∧(Ent.union a b d).Ok∧(Ent.union a b d).told.Ok∧(Ent.parted a b d).Ok∧(Ent.parted a b d).told.Ok:=by
 refine ⟨⟨VL (.inl rfl) ha hb d1 d2,Vt (by decide +kernel) ha hb⟩,⟨VL (.inr (.inl rfl)) ha hb d1 d2,Vt (by decide +kernel) ha hb⟩,?_,⟨VL (.inr (.inr rfl)) ha hb d1 d2,Vt (by decide +kernel) ha hb⟩,?_⟩
 ·show (Ent.union (Zf a b).1 (Zf a b).2 d).Ok;unfold Zf;split
  ·exact ⟨VL (.inr (.inl rfl)) hb ha d1 d2,Vt (by decide +kernel) hb ha⟩
  ·exact ⟨VL (.inr (.inl rfl)) ha hb d1 d2,Vt (by decide +kernel) ha hb⟩
 ·show (Ent.parted (Zf a b).1 (Zf a b).2 d).Ok;unfold Zf;split
  ·exact ⟨VL (.inr (.inr rfl)) hb ha d1 d2,Vt (by decide +kernel) hb ha⟩
  ·exact ⟨VL (.inr (.inr rfl)) ha hb d1 d2,Vt (by decide +kernel) ha hb⟩
theorem GdL.known {pool:List Str} {l:List Ent} (g:GdL pool l):∀e∈l,∀n∈e.named,∃s d f m,Ent.born n s d f m∈l.map Ent.told:=by
 induction g with
 |nil=>intro e he;cases he
 |@snoc xs e g d d' f ih =>
  intro x hx n hn;rw [Qr];rcases Qq.mp hx with hx|hx
  ·obtain ⟨s,d,f,m,h⟩:=ih x hx n hn;exact ⟨s,d,f,m,Qq.mpr (.inl h)⟩
  ·rw [Re.mp hx] at hn;obtain ⟨s,d,f,m,h,_⟩:=f.kn n hn;exact ⟨s,d,f,m,Qq.mpr (.inl h)⟩
noncomputable def ZU:List Str:=["F","M","T","f","m","t","S","he","she"]
noncomputable def VW (x:Str):Bool:=decide (x∈(["he","she"]:List Str))
noncomputable def Z5 (B:Bk) (s n:Str):List Str:=if VW s=true then (if X9 B n=s then [n] else []) else Yy B s n
def Z9 (L:Str->Str->List Str):List Str->(Str->Prop)->Str->Prop
 |[],P=>P
 |s::w,P=>Z9 L w fun x=>∃y,P y∧x∈L s y
theorem ZaK (L:Str->Str->List Str) (s:Str):∀(w:List Str) (P:Str->Prop),Z9 L (w++[s]) P=fun x=>∃y,Z9 L w P y∧x∈L s y
 |[],_=>rfl
 |t::w,P=>ZaK L s w _
theorem ZbR {L L':Str->Str->List Str} {R:Str->Prop} (h:∀s∈ZU,∀y,R y->∀x,x∈L s y↔x∈L' s y) (cl:∀s∈ZU,∀y,R y->∀x∈L s y,R x):∀{w:List Str} {P:Str->Prop},(∀s∈w,s∈ZU)->(∀x,P x->R x)->∀x,Z9 L w P x↔Z9 L' w P x
 |[],_,_,_,_=>Iff.rfl
 |s::w,P,hw,hP,x=>by
  have hs:=hw s (QC ..);have e:(fun x=>∃y,P y∧x∈L s y)=fun x=>∃y,P y∧x∈L' s y:=funext fun x=>propext ⟨fun ⟨y,p,m⟩=>⟨y,p,(h s hs y (hP y p) x).mp m⟩,fun ⟨y,p,m⟩=>⟨y,p,(h s hs y (hP y p) x).mpr m⟩⟩;show Z9 L w _ x↔Z9 L' w _ x;rw [←e];exact ZbR h cl (fun t ht=>hw t (QF _ ht)) (fun x ⟨y,p,m⟩=>cl s hs y (hP y p) x m) x
theorem Zao {L:Str->Str->List Str} {R:Str->Prop} (cl:∀s∈ZU,∀y,R y->∀x∈L s y,R x):∀{w:List Str} {P:Str->Prop},(∀s∈w,s∈ZU)->(∀x,P x->R x)->∀x,Z9 L w P x->R x
 |[],_,_,hP,x,h=>hP x h
 |s::w,P,hw,hP,x,h=>Zao cl (fun t ht=>hw t (QF _ ht)) (fun x ⟨y,p,m⟩=>cl s (hw s (QC ..)) y (hP y p) x m) x h
structure SrtOf (P:Str->Prop) (xs:List Str):Prop where
 up:xs.Pairwise fun a b=>YI a b=true
 nd:xs.Nodup
 mem:∀x,x∈xs↔P x
structure Clo (B:Bk) (pool:List Str):Prop where
 led:∀s∈ZU,∀n,Known B n->∀x∈Z5 B s n,Known B x
 inp:∀n,Known B n->n∈pool
 few:pool.length≤60
theorem Zbd {xs pool:List Str} (h:xs.Nodup) (s:∀x∈xs,x∈pool):xs.length≤pool.length:=List.Nodup.length_le_of_subset h s
theorem BkAt.monoX {K:W.Frag} {C:Addr} {H H':Hp} {b dx k bi li ti su:Addr} {B:Bk} (h:BkAt K C H b dx k bi li ti su B) (s:SameX H H'):BkAt K C H' b dx k bi li ti su B :=
 ⟨s _ _ rfl h.ob,h.ap,h.at',s _ _ rfl h.ke,s _ _ rfl h.bi,s _ _ rfl h.li,s _ _ rfl h.ti,s _ _ rfl h.su,fun p hp=>s.sqt (h.en p hp),fun q hq=>s _ _ rfl (h.ll q hq),fun q hq=>s _ _ rfl (h.tt q hq)⟩
noncomputable abbrev Zej:Arguments:=⟨[],[⟨"step",none,⟨51,41,51,45⟩⟩,⟨"begin",none,⟨51,47,51,52⟩⟩],none,[],[],none,[]⟩
noncomputable abbrev Zfa:Expr:=Vz "led_by_step" "book" "step" "begin" ⟨51,54,51,65⟩ ⟨51,66,51,70⟩ ⟨51,72,51,76⟩ ⟨51,78,51,83⟩ ⟨51,54,51,84⟩
noncomputable abbrev Zex:Scope:=⟨.function,[("step",.local),("begin",.local),("book",.free),("led_by_step",.globalImplicit)],false,false,[]⟩
noncomputable def Zds:Str:=("walk" : Str)++".<locals>."++"<lambda>"
theorem Zmh:LamOk2 "led_by_step" "book" "step" "begin" Zej Zex Zfa where
 bind:=fun _ _ _ _ _ _ _=>rfl
 lx:=rfl
 ly:=rfl
 fre:=rfl
 gl:=rfl
 kind:=rfl
 co:=rfl
 gen:=rfl
 cell:=by decide +kernel
 xy:=by decide +kernel
 db:=by decide +kernel
abbrev Zg2 (f b:Addr) (H:Hp):Prop:=LamA Zds Zej Zfa Zex "book" f b H
abbrev X3 (tb:Addr) (H:Hp):Prop:=LamH tb 51 34 Zds H
theorem ZhD {P:Program} {w:World}:∀st H s e s',ZD P w st H s E0 e s'->False:=fun _ _ _ _ _ ⟨_,_,_,_,_,z⟩=>z
noncomputable abbrev YM (l:List (Str×V)):List (Zi×V):=l.map fun p=>(.inr p.1,p.2)
theorem Zg4 {κ α:Type} [DecidableEq κ] (l:List (κ×α)) (c:κ) (x:α):(Zp l c x).map (·.1)=if c∈l.map (·.1) then l.map (·.1) else l.map (·.1)++[c]:=by
 unfold Zp;by_cases h:c∈l.map (·.1)
 ·have ha:(l.any fun q=>decide (q.1=c))=true:=by
   obtain ⟨q,hq,e⟩:=Qk.mp h;exact GK.mpr ⟨q,hq,Qm e⟩
  rw [Qc ha,Qc h,QX];refine R8 fun q _=>?_;show (if q.1=c then (q.1,x) else q).1=q.1;split<;>rfl
 ·have ha:¬(l.any fun q=>decide (q.1=c))=true:=fun z=>by
   obtain ⟨q,hq,e⟩:=GK.mp z;exact h (Qk.mpr ⟨q,hq,QB e⟩)
  rw [Qa ha,Qa h,Qr];rfl
theorem Zfz (l:List (Str×V)) (c:Str) (v:V):Yj (YM l) (.inr c) v=YM (Zp l c v):=Uz (f:=fun s:Str=>(.inr s:Zi)) (fun a b h=>by injection h) id l c v
theorem Zck {κ α:Type} [DecidableEq κ] {l:List (κ×α)} {c:κ} {x:α} (h:(l.map (·.1)).Nodup):((Zp l c x).map (·.1)).Nodup:=by
 rw [Zg4];split
 ·exact h
 ·rename_i n;exact Rb.mpr ⟨h,by simp,fun a ha b hb=>by rw [show b=c by simpa using hb];exact fun e=>n (e▸ha)⟩
theorem Zhg {κ α:Type} [DecidableEq κ] {l:List (κ×α)} {c:κ} {x:α} (y:κ):y∈(Zp l c x).map (·.1)↔y∈l.map (·.1)∨y=c:=by
 rw [Zg4];split
 ·rename_i h;exact ⟨.inl,fun z=>z.elim id fun e=>e▸h⟩
 ·rw [Qq,Re]
theorem Zc8 (l:List (Str×V)):(YM l).length=(l.map (·.1)).length:=by rw [Qd,Qd]
theorem ZeM (ds:List V) (d:V):Yl (ds++[d]) (-1)=some d:=by
 cases ds with
 |nil=>rfl
 |cons x xs =>
  obtain ⟨y,h1,h2⟩:=Zcq (x:=x) (xs:=xs++[d]);rw [List.cons_append,h1];rw [show (x::(xs++[d]))=(x::xs)++[d] from rfl,Ry (by simp)] at h2;simpa using h2.symm
theorem Zig {B:Bk} {n:Str} {p:Ent×Addr} (h:Z3 n B.kept=some p) {n' s f m:Str} {d:Int} (e:p.1=.born n' s d f m):X9 B n=s:=Zak h e
structure N14 (ns:List Str):Prop where
 len:ns.length=24
 nm:∀n∈ns,Nm n
 nd:ns.Nodup
 nz:("zzzzzzzz" : Str)∉ns
theorem YB {z:Int} (h0:-10 ^ 60≤z) (h:z≤10 ^ 60):z.natAbs<2 ^ 1000:=Ge (show z.natAbs≤10 ^ 60 by omega) (by decide +kernel)
theorem Ys {j:Int} (h:j≠0):j≠0:=h
noncomputable def Ws (c:Int) (j:Nat):Int:=((c.fdiv 36).fdiv ((j:Int)+1)+5*(j:Int)).fmod 26
noncomputable def Xp (c:Int) (p k n:Nat):List Nat:=(List.range n).map fun j:Nat=>XO (Ws c j+(k:Int)*(if j=p then 1 else 0))
noncomputable def Wx (c:Int) (n p k:Nat):Str:=⟨(Xp c p k n++[97,98].take (k % 3)).toArray⟩
theorem Zmq (c:Int) (p k n:Nat):Xp c p k (n+1)=Xp c p k n++[XO (Ws c n+(k:Int)*(if n=p then 1 else 0))]:=by
 unfold Xp;rw [List.range_succ,Qr];rfl
theorem VT (c:Int) (p k n:Nat):(Xp c p k n).length=n:=by unfold Xp;rw [Qd,Gk]
theorem Zij (L:List Nat) (x:Nat):(⟨L.toArray⟩:Str)++⟨#[x]⟩=⟨(L++[x]).toArray⟩:=by
 refine Zcc ?_;show (L.toArray++#[x]).toList=(L++[x]).toArray.toList;simp
theorem ZnR (L M:List Nat):(⟨L.toArray⟩:Str)++⟨M.toArray⟩=⟨(L++M).toArray⟩:=by
 refine Zcc ?_;show (L.toArray++M.toArray).toList=(L++M).toArray.toList;simp
theorem Zee (k:Nat):Txt.slice "ab" none (some (((k:Int).fmod 3:Int)))=⟨([97,98].take (k % 3)).toArray⟩:=by
 have e:(k:Int).fmod 3=((k % 3:Nat):Int):=by rw [Int.fmod_eq_emod_of_nonneg _ (by decide)];rfl
 rw [e];exact Zkb [97,98] (show k % 3≤2 by omega)
theorem Zkg {c:Int} {n p:Nat} (h1:1≤n) (h6:n≤6) (hp:p<n):N14 ((List.range 24).map (Wx c n p)) where
 len:=by rw [Qd,Gk]
 nm:=fun x hx=>by
  obtain ⟨k,_,rfl⟩:=Qk.mp hx
  have hl:(Wx c n p k).length=n+min (k % 3) 2:=by
   unfold Wx;rw [UE,Qu,VT,Rl];rfl
  refine ⟨by omega,by omega,?_⟩;show (Xp c p k n++[97,98].take (k % 3)).toArray.toList.all X5=true;rw [List.toList_toArray,List.all_append,RA];refine ⟨Rv.mpr fun y hy=>?_,Rv.mpr fun y hy=>?_⟩
  ·unfold Xp at hy;obtain ⟨j,_,rfl⟩:=Qk.mp hy;exact Zos _
  ·have:y∈[97,98]:=R9 hy;simp only [Qh,QN,QO] at this;rcases this with rfl|rfl<;>decide +kernel
 nd:=by
  refine (List.nodup_iff_pairwise_ne.mpr ?_);rw [List.pairwise_map];refine List.Pairwise.imp_of_mem (R:=fun a b=>a<b) (fun {a b} ha hb hab e=>?_) List.pairwise_lt_range;have a24:=Nq.mp ha;have b24:=Nq.mp hb
  have g:∀k,(Xp c p k n++[97,98].take (k % 3))[p]?=some (XO (Ws c p+(k:Int))):=fun k=>by
   rw [RS (by rw [VT];exact hp)];unfold Xp;rw [Qw,NU hp];simp
  have e':(Xp c p a n++[97,98].take (a % 3))[p]?=(Xp c p b n++[97,98].take (b % 3))[p]?:=by
   have:=Qy (fun s:Str=>s.cps.toList[p]?) e;simpa [Wx] using this
  rw [g,g] at e';obtain ⟨w,hw⟩:=Zmg _ _ (ZiO (Qn e'));omega
 nz:=fun hz=>by
  obtain ⟨k,_,e⟩:=Qk.mp hz
  have hl:(Wx c n p k).length=n+min (k % 3) 2:=by
   unfold Wx;rw [UE,Qu,VT,Rl];rfl
  rw [e] at hl;have h8:("zzzzzzzz" : Str).length=8:=by decide +kernel
  have k2:k % 3=2:=by omega
  have n6:n=6:=by omega
  have:=Qy (fun s:Str=>s.cps.toList[7]?) e
  have g:(Wx c n p k).cps.toList[7]?=some 98:=by
   show ((Xp c p k n++[97,98].take (k % 3)).toArray.toList)[7]?=_;rw [List.toList_toArray,Ry (by rw [VT];omega),VT,k2,n6];rfl
  have z:("zzzzzzzz" : Str).cps.toList[7]?=some 122:=by decide +kernel
  have t:(Wx c n p k).cps.toList[7]?=("zzzzzzzz" : Str).cps.toList[7]?:=this;rw [g,z] at t;cases t
abbrev Pp:=Str×Addr×Str×Int
noncomputable abbrev XF (ps:List Pp):List (Zi×V):=ps.map fun p=>(.inr p.1,.ref p.2.1)
structure PpAt (K:W.Frag) (H:Hp) (D:Addr) (ps:List Pp):Prop where
 d:H D=some (.dK (XF ps))
 t:∀p∈ps,SqT K H p.2.1 [.str p.2.2.1,.int p.2.2.2]
 nd:(ps.map (·.1)).Nodup
theorem PpAt.mono {K:W.Frag} {H H':Hp} {D:Addr} {ps:List Pp} (h:PpAt K H D ps) (s:Same H H'):PpAt K H' D ps:=⟨s _ _ h.d,fun p hp=>s.sqt (h.t p hp),h.nd⟩
theorem Zhd {κ α:Type} [DecidableEq κ] {f:α->κ} {g:α->V}:∀{l:List α} {p:α},(l.map f).Nodup->p∈l->ZM (l.map fun p=>(f p,g p)) (f p)=some (g p)
 |[],_,_,h=>by cases h
 |a::l,p,nd,h=>by
  obtain ⟨n1,n2⟩:=QU.mp nd;unfold ZM;rw [Qp,RB];by_cases e:f a=f p
  ·have:p=a:=by
    rcases Qh.mp h with rfl|h
    ·rfl
    ·exact absurd (e▸RJ h) n1
   subst this;simp
  ·have hp:p∈l:=by
    rcases Qh.mp h with rfl|h
    ·exact absurd rfl e
    ·exact h
   simp only [e,decide_false];exact Zhd n2 hp
theorem Zlm {κ α:Type} [DecidableEq κ] {f:α->κ} {g:α->V} {l:List α} {k:κ} (h:k∉l.map f):ZM (l.map fun p=>(f p,g p)) k=none:=by
 unfold ZM;rw [Nj.mpr fun x hx=>?_]
 ·rfl
 ·obtain ⟨p,hp,rfl⟩:=Qk.mp hx;intro z;exact h (by rw [←QB z];exact RJ hp)
theorem Zk3 {ps:List Pp} (h:(ps.map (·.1)).Nodup):(ps.map fun p=>(.inr p.1:Zi)).Nodup:=by
 rw [show (fun p:Pp=>(.inr p.1:Zi))=(fun s:Str=>(.inr s:Zi))∘(fun p:Pp=>p.1) from rfl,←QX];exact h.map _ fun a b n e=>n (Rw e)
theorem PpAt.get {H:Hp} {D:Addr} {ps:List Pp} (nd:(ps.map (·.1)).Nodup) (h:Rd H D (.dK (XF ps))) {p:Pp} (hp:p∈ps):DGet H D (.str p.1) (some (.ref p.2.1)) :=
 .inl ⟨_,.inr p.1,h,rfl,(Zhd (f:=fun p:Pp=>(.inr p.1:Zi)) (g:=fun p:Pp=>V.ref p.2.1) (Zk3 nd) hp).symm⟩
theorem Zi6 {H H':Hp} {d:Addr} {o:Obj} {kvs:List (Zi×V)} (h:H d=some (.dK kvs)) (s:Same (Zb H d (.frz o (.dK kvs))) H'):Same H (Zb H' d (.dK kvs)):=fun a u e=>by
 by_cases z:a=d
 ·subst z;rw [Zg,←e,h]
 ·rw [Zd z];exact s a u (by rw [Zd z];exact e)
theorem ZhO {H H':Hp} {d:Addr} {o:Obj} {kvs:List (List Zi×V)} (h:H d=some (.dT kvs)) (s:Same (Zb H d (.frz o (.dT kvs))) H'):Same H (Zb H' d (.dT kvs)):=fun a u e=>by
 by_cases z:a=d
 ·subst z;rw [Zg,←e,h]
 ·rw [Zd z];exact s a u (by rw [Zd z];exact e)
theorem Zks {K:W.Frag} {H:Hp} {D a:Addr} {o:Obj} {kvs:List (Zi×V)} {xs:List V} (h:H D=some (.dK kvs)) (q:SqT K H a xs):SqT K (Zb H D (.frz o (.dK kvs))) a xs:=YH q h (fun _ z=>by cases z) (fun _ _ z=>by cases z)
noncomputable def Jm (d:Int) (p:Pp):Option V:=if p.2.2.2<d then some (.str p.1) else none
theorem Zgi (d:Int):∀ps:List Pp,(ps.map (Jm d)).filterMap id=((ps.filter fun p=>decide (p.2.2.2<d)).map (·.1)).map V.str
 |[]=>rfl
 |p::ps=>by
  have ih:=Zgi d ps;rw [Qp,QT,RX];unfold Jm at ih ⊢;by_cases h:p.2.2.2<d
  ·rw [Qc h,Qm h];simp only [id,Q6,Qp];rw [ih]
  ·rw [Qa h,Qj h];simp only [id];exact ih
noncomputable def Va (s:Str) (p:Pp):Option V:=if p.2.2.1=s then some (.str p.1) else none
theorem Zcn (s:Str):∀ps:List Pp,(ps.map (Va s)).filterMap id=((ps.filter fun p=>decide (p.2.2.1=s)).map (·.1)).map V.str
 |[]=>rfl
 |p::ps=>by
  have ih:=Zcn s ps;rw [Qp,QT,RX];unfold Va at ih ⊢;by_cases h:p.2.2.1=s
  ·rw [Qc h,Qm h];simp only [id,Q6,Qp];rw [ih]
  ·rw [Qa h,Qj h];simp only [id];exact ih
def XI (ps:List Pp) (s:Str) (d:Int) (f:Str):Prop:=f=""∨∃p∈ps,p.1=f∧p.2.2.1=s∧p.2.2.2<d
theorem W0 {α:Type} (g:α->V) (xs:List α) (h:0<xs.length) (z:Int):∃x∈xs,Yl (xs.map g) (z.fmod ((xs.map g).length:Int))=some (g x):=by
 have e:((xs.map g).length:Int)=(xs.length:Int):=by rw [Qd]
 rw [e];have h0:=QP z (show (0:Int)<xs.length by omega);have h1:=Q2 z (show (0:Int)<xs.length by omega);obtain ⟨j,hj⟩:∃j:Nat,z.fmod (xs.length:Int)=(j:Int):=⟨(z.fmod (xs.length:Int)).toNat,by omega⟩;have jl:j<xs.length:=by omega
 refine ⟨xs[j],GH jl,?_⟩;rw [hj];exact XT (by rw [Qw,Qx jl];rfl)
noncomputable def J2:List Str:=["he","she","he","she",""]
theorem ZhL (z:Int):∃s:Str,(s="he"∨s="she"∨s="")∧Yl [V.str "he",V.str "she",V.str "he",V.str "she",V.str ""] (z.fmod 5)=some (V.str s):=by
 obtain ⟨s,hs,e⟩:=W0 V.str J2 (by decide) z;refine ⟨s,?_,e⟩;simp only [J2,Qh,QN,QO] at hs;rcases hs with h|h|h|h|h
 ·exact .inl h
 ·exact .inr (.inl h)
 ·exact .inl h
 ·exact .inr (.inl h)
 ·exact .inr (.inr h)
theorem ZfF {v:V} {i:Nat} {b:TS} {D:Ends} {σ:St} {H:Hp} (h:b D (σ.set i (some v)) H):ZaN (Zbk (tC v) (ZX i)) b D σ H:=h
structure DeedF (ps:List Pp) (e:Ent):Prop where
 nb:e.isBorn=false
 kn:∀n∈e.named,∃p∈ps,p.1=n∧p.2.2.2≤e.day
 tk:∀c t d,e=.taken c t d->∀pc∈ps,∀pt∈ps,pc.1=c->pt.1=t->pt.2.2.2<pc.2.2.2
 ap:e.same=false
 lo:-10 ^ 18≤e.day
 hi:e.day≤10 ^ 18
 sort:(e.tie=true∨∃c t d,e=.taken c t d)∨∃n d,e=.dead n d
noncomputable abbrev XJ (kn:List (List Zi)):List (List Zi×V):=kn.map fun k=>(k,.bl true)
def KnOk (ps:List Pp) (kn:List (List Zi)):Prop:=∀k∈kn,∃e,k=e.told.key∧DeedF ps e
theorem Zmt {ps:List Pp} (nd:(ps.map (·.1)).Nodup) (h2:2≤ps.length) (c:Int):∃p∈ps,∃q∈ps,p.1≠q.1∧Yl ((ps.map (·.1)).map V.str) (c.fmod (((ps.map (·.1)).map V.str).length:Int))=some (.str p.1) ∧
  Yl ((ps.map (·.1)).map V.str) ((c+1+(c.fdiv 24).fmod ((((ps.map (·.1)).map V.str).length:Int)-1)).fmod (((ps.map (·.1)).map V.str).length:Int))=some (.str q.1):=by
 have el:(((ps.map (·.1)).map V.str).length:Int)=(ps.length:Int):=by rw [Qd,Qd]
 rw [el];obtain ⟨n,hn⟩:∃n:Int,n=(ps.length:Int):=⟨_,rfl⟩;rw [←hn];have n2:2≤n:=by omega
 have i0:=QP c (show (0:Int)<n by omega);have i1:=Q2 c (show (0:Int)<n by omega);have r0:=QP (c.fdiv 24) (show (0:Int)<n-1 by omega);have r1:=Q2 (c.fdiv 24) (show (0:Int)<n-1 by omega);generalize (c.fdiv 24).fmod (n-1)=r at *;have j0:=QP (c+1+r) (show (0:Int)<n by omega);have j1:=Q2 (c+1+r) (show (0:Int)<n by omega)
 have ne:c.fmod n≠(c+1+r).fmod n:=fun e=>by
  have d1:=Nk c n;have d2:=Nk (c+1+r) n;rw [←e] at d2;have d3:n*(c+1+r).fdiv n-n*c.fdiv n=1+r:=by omega
  rw [←Int.mul_sub] at d3;generalize (c+1+r).fdiv n-c.fdiv n=w at *;have:w≤0∨1≤w:=by omega
  rcases this with hw|hw
  ·have:=N9 hw (show 0≤n by omega);omega
  ·have:=N9 hw (show 0≤n by omega);omega
 obtain ⟨i,hi⟩:∃i:Nat,c.fmod n=(i:Int):=⟨(c.fmod n).toNat,by omega⟩;obtain ⟨j,hj⟩:∃j:Nat,(c+1+r).fmod n=(j:Int):=⟨((c+1+r).fmod n).toNat,by omega⟩;have il:i<ps.length:=by omega
 have jl:j<ps.length:=by omega
 have at':∀{k:Nat} (h:k<ps.length),Yl ((ps.map (·.1)).map V.str) (k:Int)=some (.str ps[k].1):=fun {k} h=>XT (by rw [Qw,Qw,Qx h];rfl);refine ⟨ps[i],GH il,ps[j],GH jl,fun e=>?_,by rw [hi];exact at' il,by rw [hj];exact at' jl⟩;have:i=j:=(GN (h₀:=by rw [Qd];exact il) (h₁:=by rw [Qd];exact jl) nd).mp (by rw [Gm,Gm];exact e);omega
structure TwoOk (ps:List Pp) (p q:Pp) (day:Int):Prop where
 ip:p∈ps
 iq:q∈ps
 ne:p.1≠q.1
 lp:p.2.2.2≤day
 lq:q.2.2.2≤day
 lo:-10 ^ 18≤day
 hi:day≤10 ^ 18
theorem TwoOk.swap {ps:List Pp} {p q:Pp} {day:Int} (h:TwoOk ps p q day):TwoOk ps q p day:=⟨h.iq,h.ip,h.ne.symm,h.lq,h.lp,h.lo,h.hi⟩
theorem TwoOk.tie {ps:List Pp} {p q:Pp} {day:Int} (h:TwoOk ps p q day) (b:Bool):DeedF ps (if b=true then .parted p.1 q.1 day else .union p.1 q.1 day):=by
 cases b with
 |false => exact ⟨rfl, fun n hn => by
   have:n=p.1∨n=q.1:=by simpa [Ent.named] using hn
   rcases this with rfl|rfl
   ·exact ⟨p,h.ip,rfl,h.lp⟩
   ·exact ⟨q,h.iq,rfl,h.lq⟩,fun _ _ _ z=>(by cases z),Qj h.ne,h.lo,h.hi,.inl (.inl rfl)⟩
 |true => exact ⟨rfl, fun n hn => by
   have:n=p.1∨n=q.1:=by simpa [Ent.named] using hn
   rcases this with rfl|rfl
   ·exact ⟨p,h.ip,rfl,h.lp⟩
   ·exact ⟨q,h.iq,rfl,h.lq⟩,fun _ _ _ z=>(by cases z),Qj h.ne,h.lo,h.hi,.inl (.inl rfl)⟩
theorem Za2 {ps:List Pp} (nd:(ps.map (·.1)).Nodup) {p q:Pp} (hp:p∈ps) (hq:q∈ps) (e:p.1=q.1):p=q:=by
 obtain ⟨i,hi,rfl⟩:=Gi hp;obtain ⟨j,hj,rfl⟩:=Gi hq;have:i=j:=(GN (h₀:=by rw [Qd];exact hi) (h₁:=by rw [Qd];exact hj) nd).mp (by rw [Gm,Gm];exact e);subst this;rfl
theorem TwoOk.taken {ps:List Pp} {p q:Pp} {day:Int} (nd:(ps.map (·.1)).Nodup) (h:TwoOk ps p q day) (lt:q.2.2.2<p.2.2.2):DeedF ps (.taken p.1 q.1 day) :=
 ⟨rfl, fun n hn => by
   have:n=p.1∨n=q.1:=by simpa [Ent.named] using hn
   rcases this with rfl|rfl
   ·exact ⟨p,h.ip,rfl,h.lp⟩
   ·exact ⟨q,h.iq,rfl,h.lq⟩,fun c t d z pc hpc pt hpt e1 e2=>by
  cases z;rw [Za2 nd hpc h.ip e1,Za2 nd hpt h.iq e2];exact lt,Qj h.ne,h.lo,h.hi,.inl (.inr ⟨_,_,_,rfl⟩)⟩
theorem TwoOk.dead {ps:List Pp} {p q:Pp} {day:Int} (h:TwoOk ps p q day):DeedF ps (.dead p.1 day) :=
 ⟨rfl, fun n hn => by
   have:n=p.1:=by simpa [Ent.named] using hn
   exact ⟨p,h.ip,this.symm,h.lp⟩,fun _ _ _ z=>(by cases z),rfl,h.lo,h.hi,.inr ⟨_,_,rfl⟩⟩
noncomputable def Up (k:List Zi):Bool:=decide (k.head?=some (.inr "tie"))
theorem KnOk.tie {ps:List Pp} {kn:List (List Zi)} (h:KnOk ps kn) {k:List Zi} (hk:k∈kn) (t:Up k=true):∃p q d,TwoOk ps p q d∧k=[.inr "tie",.inr p.1,.inr q.1,.inl d]:=by
 obtain ⟨e,rfl,de⟩:=h k hk
 have tie:e.tie=true:=by
  cases e with
  |born=>cases de.nb
  |union=>rfl
  |parted=>rfl
  |taken=>exact absurd (Rw (Qn (QB t))) (show ("taken" : Str)≠"tie" by decide +kernel)
  |dead=>exact absurd (Rw (Qn (QB t))) (show ("dead" : Str)≠"tie" by decide +kernel)
  |given=>exact absurd (Rw (Qn (QB t))) (show ("given" : Str)≠"tie" by decide +kernel)
 have Zo:∀a b d,(∀n∈[a,b],∃p∈ps,p.1=n∧p.2.2.2≤d)->a≠b->-10 ^ 18≤d->d≤10 ^ 18->∃p q d',TwoOk ps p q d'∧([.inr "tie",.inr (Zf a b).1,.inr (Zf a b).2,.inl d]:List Zi)=[.inr "tie",.inr p.1,.inr q.1,.inl d']:=fun a b d kn ne lo hi=>by
  obtain ⟨p,hp,ep,lp⟩:=kn a (by simp);obtain ⟨q,hq,eq,lq⟩:=kn b (by simp);subst ep eq;unfold Zf;split
  ·exact ⟨q,p,d,⟨hq,hp,ne.symm,lq,lp,lo,hi⟩,rfl⟩
  ·exact ⟨p,q,d,⟨hp,hq,ne,lp,lq,lo,hi⟩,rfl⟩
 cases e with
 |union a b d=>exact Zo a b d de.kn (Rg de.ap) de.lo de.hi
 |parted a b d=>exact Zo a b d de.kn (Rg de.ap) de.lo de.hi
 |_=>cases tie
theorem KnOk.head {ps:List Pp} {kn:List (List Zi)} (h:KnOk ps kn) {k:List Zi} (hk:k∈kn):∃z r,k=.inr z::r:=by
 obtain ⟨e,rfl,de⟩:=h k hk;cases e with
 |born=>exact ⟨_,_,rfl⟩
 |union=>exact ⟨_,_,rfl⟩
 |parted=>exact ⟨_,_,rfl⟩
 |taken=>exact ⟨_,_,rfl⟩
 |dead=>exact ⟨_,_,rfl⟩
 |given=>exact ⟨_,_,rfl⟩
noncomputable def ZcM (k:List Zi):Option (List Zi):=if Up k=true then some k else none
def ZgK (k:List Zi) (H:Hp) (v:V):Prop:=∃c,v=.ref c∧H c=some (.tup (k.map kV))
theorem ZoM (b:Bool) (x y:Str) (d:Int):(if b=true then Ent.parted x y d else .union x y d).told.key=[.inr "tie",.inr (Zf x y).1,.inr (Zf x y).2,.inl d]:=by cases b<;>rfl
theorem Zoq (b:Bool) (x y:Str) (d:Int):(if b=true then Ent.parted x y d else .union x y d).row=[.inr (if b=true then "parted" else "union"),.inr x,.inr y,.inl d]:=by cases b<;>rfl
theorem Zmk (b:Bool):Yl [V.str "union",V.str "parted"] (if b=true then 1 else 0)=some (.str (if b=true then "parted" else "union")):=by cases b<;>rfl
theorem Zj6 {kn:List (List Zi)} {k:List Zi} (h:k∈kn):(ZM (XJ kn) k).isSome=true:=by
 unfold ZM;cases e:(XJ kn).find? fun kv=>decide (kv.1=k) with
 |none=>exact absurd (Nj.mp e (k,.bl true) (Qk.mpr ⟨k,h,rfl⟩)) (by simp)
 |some x=>rfl
theorem Zd7 {kn:List (List Zi)} {k:List Zi} (h:k∉kn):ZM (XJ kn) k=none:=by
 unfold ZM;rw [Nj.mpr fun x hx=>?_]
 ·rfl
 ·obtain ⟨k',hk',rfl⟩:=Qk.mp hx;intro z;exact h (by rw [←QB z];exact hk')
theorem Zk0 (kn:List (List Zi)):(kn.map ZcM).filterMap id=kn.filter Up:=by
 induction kn with
 |nil=>rfl
 |cons k kn ih =>
  rw [Qp,QT,RX];unfold ZcM at ih ⊢;by_cases h:Up k=true
  ·rw [Qc h,Qc h];simp only [id];rw [ih]
  ·rw [Qa h,Qa h];simp only [id];exact ih
noncomputable def Zc2:Ent->Option (Str×Str×Int)
 |.born n s d _ _=>some (n,s,d)
 |_=>none
structure EI (ns:List Str) (es:List Ent) (ps:List Pp) (kn:List (List Zi)):Prop where
 good:GdL ns es
 born:es.filterMap Zc2=ps.map fun p=>(p.1,p.2.2)
 nm:ps.map (·.1)=ns.take ps.length
 len:ps.length≤24
 keys:∀e∈es,e.isBorn=false->e.told.key∈kn
 ok:KnOk ps kn
 pd:∀p∈ps,-10 ^ 18≤p.2.2.2∧p.2.2.2≤10 ^ 18
 knl:kn.length≤es.length
theorem EI.start {ns:List Str}:EI ns [] [] []:=⟨.nil,rfl,rfl,QJ _,fun e h=>(by cases h),fun k h=>(by cases h),fun p h=>(by cases h),Qf _⟩
section
variable {ns:List Str} {es:List Ent} {ps:List Pp} {kn:List (List Zi)}
theorem ZeE {n s:Str} {d:Int}:(n,s,d)∈es.filterMap Zc2↔∃f m,Ent.born n s d f m∈es:=by
 constructor
 ·intro h;obtain ⟨e,he,eb⟩:=Rs.mp h;cases e with
  |born n' s' d' f m=>cases eb;exact ⟨f,m,he⟩
  |_=>cases eb
 ·rintro ⟨f,m,h⟩;exact Rs.mpr ⟨_,h,rfl⟩
theorem EI.of_ps (h:EI ns es ps kn) {p:Pp} (hp:p∈ps):∃f m,Ent.born p.1 p.2.2.1 p.2.2.2 f m∈es:=by
 refine ZeE.mp ?_;rw [h.born];exact Qk.mpr ⟨p,hp,rfl⟩
theorem EI.to_ps (h:EI ns es ps kn) {n s f m:Str} {d:Int} (hb:Ent.born n s d f m∈es):∃p∈ps,p.1=n∧p.2.2=(s,d):=by
 have:=ZeE.mpr ⟨f,m,hb⟩;rw [h.born] at this;obtain ⟨p,hp,e⟩:=Qk.mp this;exact ⟨p,hp,Qy (·.1) e,Qy (·.2) e⟩
theorem EI.nd (h:EI ns es ps kn) (N:N14 ns):(ps.map (·.1)).Nodup:=by rw [h.nm];exact N.nd.sublist (Gr ..)
theorem EI.mem (h:EI ns es ps kn) {p:Pp} (hp:p∈ps):p.1∈ns:=by
 have:p.1∈ps.map (·.1):=RJ hp;rw [h.nm] at this;exact R9 this
theorem Znf {n s f m:Str} {d:Int} {e:Ent} (h:e.told=.born n s d f m):e=.born n s d f m:=by
 cases e with
 |born=>exact h
 |union=>cases h
 |parted=>cases h
 |taken=>cases h
 |dead=>cases h
 |given=>cases h
theorem VF {n s f m:Str} {d:Int}:Ent.born n s d f m∈es.map Ent.told↔Ent.born n s d f m∈es:=by
 constructor
 ·intro h;obtain ⟨e,he,ee⟩:=Qk.mp h;rw [←Znf ee];exact he
 ·exact fun h=>Qk.mpr ⟨_,h,rfl⟩
theorem DeedF.mono {p:Pp} {e:Ent} (h:DeedF ps e) (nd:((ps++[p]).map (·.1)).Nodup):DeedF (ps++[p]) e:=by
 refine ⟨h.nb,fun n hn=>?_,fun c t d z pc hpc pt hpt e1 e2=>?_,h.ap,h.lo,h.hi,h.sort⟩
 ·obtain ⟨q,hq,r⟩:=h.kn n hn;exact ⟨q,Rq _ hq,r⟩
 ·obtain ⟨q1,h1,n1,_⟩:=h.kn c (by rw [z];simp [Ent.named]);obtain ⟨q2,h2,n2,_⟩:=h.kn t (by rw [z];simp [Ent.named]);have g1:=Za2 nd hpc (Rq _ h1) (e1.trans n1.symm);have g2:=Za2 nd hpt (Rq _ h2) (e2.trans n2.symm);rw [g1,g2];exact h.tk c t d z q1 h1 q2 h2 n1 n2
theorem DeedF.key_ne {e:Ent} (h:DeedF ps e) (n:Str):([.inr "born",.inr n]:List Zi)≠e.told.key:=fun z=>by
 have hd:∀{w:Str} {r:List Zi},e.told.key=.inr w::r->("born" : Str)=w:=fun z'=>by rw [z'] at z;exact Rw (No z).1
 cases e with
 |born=>cases h.nb
 |union=>exact absurd (hd rfl) (by decide +kernel)
 |parted=>exact absurd (hd rfl) (by decide +kernel)
 |taken=>exact absurd (hd rfl) (by decide +kernel)
 |dead=>exact absurd (hd rfl) (by decide +kernel)
 |given=>exact absurd (hd rfl) (by decide +kernel)
theorem ZnN (e:Ent):e.told.isBorn=e.isBorn:=by cases e<;>rfl
theorem EI.deed (N:N14 ns) (h:EI ns es ps kn) {e:Ent} (de:DeedF ps e) (nk:e.told.key∉kn):EI ns (es++[e]) ps (kn++[e.told.key]):=by
 have nms:∀n∈e.named,Nm n∧n∈ns:=fun n hn=>by
  obtain ⟨p,hp,rfl,_⟩:=de.kn n hn;exact ⟨N.nm _ (h.mem hp),h.mem hp⟩
 have okk:e.Ok∧e.told.Ok:=by
  rcases de.sort with (t|⟨c,t,d,rfl⟩)|⟨n,d,rfl⟩
  ·cases e with
   |union a b d =>
    have k:=Zb0 (nms a (by simp [Ent.named])).1 (nms b (by simp [Ent.named])).1 de.lo de.hi;exact ⟨k.2.1,k.2.2.1⟩
   |parted a b d =>
    have k:=Zb0 (nms a (by simp [Ent.named])).1 (nms b (by simp [Ent.named])).1 de.lo de.hi;exact ⟨k.2.2.2.1,k.2.2.2.2⟩
   |_=>cases t
  ·have k:=Zb0 (nms c (by simp [Ent.named])).1 (nms t (by simp [Ent.named])).1 de.lo de.hi;exact ⟨k.1,k.1⟩
  ·have k:=ZlP (nms n (by simp [Ent.named])).1 de.lo de.hi;exact ⟨k,k⟩
 have nb:∀{x:Ent},x.isBorn=false->∀n,x.bornName=some n->n∈ns:=fun {x} hx n hn=>by
  cases x with
  |born=>cases hx
  |_=>cases hn
 have tn:∀n∈e.told.named,n∈e.named:=fun n hn=>Ze8 e n hn;refine ⟨.snoc h.good ⟨okk.1,fun n hn=>(nms n hn).2,nb de.nb⟩ ⟨okk.2,fun n hn=>(nms n (tn n hn)).2,nb (by rw [ZnN];exact de.nb)⟩ ⟨fun n hn=>?_,fun x hx=>?_,fun n s d f m z=>?_,fun c t d z sc dc fc mc st dt ft mt h1 h2=>?_,de.ap⟩,?_,h.nm,h.len,fun x hx hb=>?_,fun k hk=>?_,h.pd,by rw [Qu,Qu];exact NV h.knl⟩
 ·obtain ⟨p,hp,rfl,le⟩:=de.kn n hn;obtain ⟨f,m,hb⟩:=h.of_ps hp;exact ⟨_,_,f,m,VF.mpr hb,le⟩
 ·obtain ⟨y,hy,rfl⟩:=Qk.mp hx;cases hb:y.isBorn with
  |true =>
   cases y with
   |born n s d f m=>exact de.key_ne n
   |_=>cases hb
  |false=>exact fun z=>nk (z▸h.keys y hy hb)
 ·rw [z] at de;exact absurd de.nb (by simp [Ent.isBorn])
 ·obtain ⟨p1,g1,e1,t1⟩:=h.to_ps (VF.mp h1);obtain ⟨p2,g2,e2,t2⟩:=h.to_ps (VF.mp h2);have:=de.tk c t d z p1 g1 p2 g2 e1 e2;rw [t1,t2] at this;exact this
 ·rw [RD,h.born]
  have:[e].filterMap Zc2=[]:=by
   cases e with
   |born=>cases de.nb
   |_=>rfl
  rw [this,Qs]
 ·rcases Qq.mp hx with hx|hx
  ·exact Rq _ (h.keys x hx hb)
  ·rw [show x=e by simpa using hx];exact Rk _ (by simp)
 ·rcases Qq.mp hk with hk|hk
  ·exact h.ok k hk
  ·exact ⟨e,by simpa using hk,de⟩
theorem EI.birth (N:N14 ns) (h:EI ns es ps kn) {n s f m:Str} {d:Int} {a:Addr} (hn:ns[ps.length]?=some n) (l24:ps.length<24) (hs:s="he"∨s="she"∨s="") (hf:XI ps "he" d f) (hm:XI ps "she" d m) (d1:-10 ^ 18≤d) (d2:d≤10 ^ 18) :
  EI ns (es++[.born n s d f m]) (ps++[(n,a,s,d)]) kn:=by
 have nn:n∈ns:=QD hn;have pn:∀{w x:Str},XI ps w d x->x=""∨x∈ns:=fun {w x} hx=>hx.imp id fun ⟨p,hp,e,_⟩=>e▸h.mem hp;have pm:∀{w x:Str},XI ps w d x->x=""∨Nm x:=fun hx=>(pn hx).imp id (N.nm _);have okk:=ZmO (N.nm n nn) hs d1 d2 (pm hf) (pm hm)
 have nmd:∀x∈(Ent.born n s d f m).named,(x=f∨x=m)∧x≠"":=fun x hx=>by
  obtain ⟨h1,h2⟩:=Q5.mp hx;exact ⟨by simpa using h1,QB h2⟩
 have par:∀{w x:Str},XI ps w d x->x=""∨∃d' f' m',Ent.born x w d' f' m'∈es.map Ent.told∧d'<d:=fun {w x} hx=>hx.imp id fun ⟨p,hp,e1,e2,e3⟩=>by
  obtain ⟨f',m',hb⟩:=h.of_ps hp;rw [e1,e2] at hb;exact ⟨_,f',m',VF.mpr hb,e3⟩
 have d5:D5 ns (.born n s d f m):=⟨okk,fun x hx=>by
  obtain ⟨h1,h2⟩:=nmd x hx;rcases h1 with rfl|rfl
  ·exact (pn hf).resolve_left h2
  ·exact (pn hm).resolve_left h2,fun x hx=>by cases hx;exact nn⟩
 have nm':(ps++[(n,a,s,d)]).map (·.1)=ns.take (ps.length+1):=by rw [Qr,h.nm,Rh,hn];rfl
 have nd':((ps++[(n,a,s,d)]).map (·.1)).Nodup:=by rw [nm'];exact N.nd.sublist (Gr ..)
 refine ⟨.snoc h.good d5 d5 ⟨fun x hx=>?_,fun x hx=>?_,fun n' s' d' f' m' z=>?_,fun c t d' z=>(by cases z),rfl⟩,?_,by rw [nm',Qu];rfl,by rw [Qu];exact l24,fun x hx hb=>?_,fun k hk=>?_,fun p hp=>?_,by rw [Qu];exact NW h.knl⟩
 ·obtain ⟨h1,h2⟩:=nmd x hx
  have go:∀{w:Str},XI ps w d x->∃s' d' f' m',Ent.born x s' d' f' m'∈es.map Ent.told∧d'≤d:=fun hx=>by
   rcases par hx with z|⟨d',f',m',hb,lt⟩
   ·exact absurd z h2
   ·exact ⟨_,d',f',m',hb,Int.le_of_lt lt⟩
  rcases h1 with rfl|rfl
  ·exact go hf
  ·exact go hm
 ·obtain ⟨y,hy,rfl⟩:=Qk.mp hx;cases hb:y.isBorn with
  |true =>
   cases y with
   |born n' s' d' f' m' =>
    intro z
    have z':n'=n:=by
     have:([.inr "born",.inr n']:List Zi)=[.inr "born",.inr n]:=z;simpa using this
    obtain ⟨p,hp,e1,_⟩:=h.to_ps hy;have m1:n∈ps.map (·.1):=Qk.mpr ⟨p,hp,e1.trans z'⟩;rw [Qr] at nd';exact (Rb.mp nd').2.2 n m1 n (by simp) rfl
   |_=>cases hb
  |false =>
   obtain ⟨e,he,de⟩:=h.ok _ (h.keys y hy hb);intro z;exact de.key_ne n (by rw [←he];exact z.symm)
 ·cases z;exact ⟨par hf,par hm⟩
 ·rw [RD,h.born,Qr];rfl
 ·rcases Qq.mp hx with hx|hx
  ·exact h.keys x hx hb
  ·rw [show x=.born n s d f m by simpa using hx] at hb;cases hb
 ·obtain ⟨e,he,de⟩:=h.ok k hk;exact ⟨e,he,de.mono nd'⟩
 ·rcases Qq.mp hp with hp|hp
  ·exact h.pd p hp
  ·rw [show p=(n,a,s,d) by simpa using hp];exact ⟨d1,d2⟩
end
theorem ZaC {K:W.Frag} {H H':Hp} {D a:Addr} {kvs:List (List Zi×V)} {xs:List V} (fr:∀b u,b≠D->H b=some u->H' b=some u) (h:H D=some (.dT kvs)) (q:SqT K H a xs):SqT K H' a xs:=by
 rcases q with (q|⟨o,q⟩)|q
 ·exact .inl (.inl (fr _ _ (fun z=>by rw [z,h] at q;cases q) q))
 ·exact .inl (.inr ⟨o,fr _ _ (fun z=>by rw [z,h] at q;cases q) q⟩)
 ·exact .inr q
theorem Ze4 {ps:List Pp} {n s:Str} {a:Addr} {d:Int} (h:n∉ps.map (·.1)):Yj (XF ps) (.inr n) (.ref a)=XF (ps++[(n,a,s,d)]):=by
 rw [UK _ (Zlm (f:=fun p:Pp=>(.inr p.1:Zi)) (g:=fun p:Pp=>V.ref p.2.1) (fun z=>?_))]
 ·unfold XF;rw [Qr];rfl
 ·obtain ⟨p,hp,e⟩:=Qk.mp z;exact h (Qk.mpr ⟨p,hp,Rw e⟩)
theorem Zms (ks:List (Ent×Addr)) (p:Ent×Addr):XH (ks++[p])=XH ks++[.ref p.2]:=by unfold XH;rw [Qr];rfl
abbrev Ed:=List ((Str×Str)×Addr×List Str)
noncomputable abbrev Xb (ed:Ed):List (List Zi×V):=ed.map fun q=>(Zo q.1,.ref q.2.1)
structure EdAt (H:Hp) (D:Addr) (ed:Ed):Prop where
 d:H D=some (.dT (Xb ed))
 l:∀q∈ed,H q.2.1=some (.lst (q.2.2.map V.str))
 an:(ed.map (·.2.1)).Nodup
 kn:(ed.map (·.1)).Nodup
theorem EdAt.monoX {H H':Hp} {D:Addr} {ed:Ed} (h:EdAt H D ed) (s:SameX H H'):EdAt H' D ed:=⟨s _ _ rfl h.d,fun q hq=>s _ _ rfl (h.l q hq),h.an,h.kn⟩
theorem EdAt.mono {H H':Hp} {D:Addr} {ed:Ed} (h:EdAt H D ed) (s:Same H H'):EdAt H' D ed:=h.monoX s.x
structure EdB (ed:Ed) (n:Nat):Prop where
 len:ed.length≤n
 ll:∀q∈ed,1≤q.2.2.length∧q.2.2.length≤n
noncomputable def ZZ (f:Str×Str->List Str) (c:Str×Str) (x:Str):Str×Str->List Str:=fun c'=>if c'=c then f c++[x] else f c'
structure FrE (D:Addr) (ed:Ed) (H H':Hp) (ed':Ed):Prop where
 fr:∀b u,b≠D->b∉ed.map (·.2.1)->H b=some u->H' b=some u
 gr:∀b∈ed'.map (·.2.1),b∈ed.map (·.2.1)∨H b=none
 al:∀b,H' b=none->H b=none
theorem FrE.trans {D:Addr} {ed ed1 ed2:Ed} {H H1 H2:Hp} (a:FrE D ed H H1 ed1) (b:FrE D ed1 H1 H2 ed2):FrE D ed H H2 ed2 where
 fr:=fun c u nd nm e=>b.fr c u nd (fun z=>(a.gr c z).elim nm fun z=>by rw [e] at z;cases z) (a.fr c u nd nm e)
 gr:=fun c hc=>(b.gr c hc).elim (a.gr c) fun z=>.inr (a.al c z)
 al:=fun c n=>a.al c (b.al c n)
theorem FrE.same {D:Addr} {ed ed':Ed} {H0 H H':Hp} (f:FrE D ed H H' ed') (s:Same H0 H) (nD:H0 D=none) (ne:∀b∈ed.map (·.2.1),H0 b=none):Same H0 H'∧∀b∈ed'.map (·.2.1),H0 b=none:=by
 refine ⟨fun b u e=>f.fr b u (fun z=>by rw [z,nD] at e;cases e) (fun z=>by rw [ne b z] at e;cases e) (s _ _ e),fun b hb=>(f.gr b hb).elim (ne b) fun z=>ZJ s z⟩
theorem Xd {ed:Ed} {c:Str×Str} {x:Addr×List Str} (h:ZB c ed=some x):(c,x)∈ed:=by
 induction ed with
 |nil=>cases h
 |cons q r ih =>
  unfold ZB at h;split at h
  ·rename_i e;cases h;rw [←e];exact QC ..
  ·exact QF _ (ih h)
theorem ZfC {ed:Ed} {q:(Str×Str)×Addr×List Str} (nd:(ed.map (·.1)).Nodup) (h:q∈ed):ZB q.1 ed=some q.2:=by
 induction ed with
 |nil=>cases h
 |cons p r ih =>
  obtain ⟨n1,n2⟩:=QU.mp nd;unfold ZB;rcases Qh.mp h with rfl|h
  ·rw [Qc rfl]
  ·rw [Qa (fun z=>n1 (by show p.1∈_;rw [z];exact RJ (f:=(·.1)) h))];exact ih n2 h
theorem WX {ed:Ed} {q:(Str×Str)×Addr×List Str} (nd:(ed.map (·.1)).Nodup) (h:q∈ed):lk ed q.1=q.2.2:=by unfold lk;rw [ZfC nd h];rfl
theorem VR {ed:Ed} {c:Str×Str} (h:ZB c ed=none):lk ed c=[]:=by unfold lk;rw [h];rfl
theorem Zd4 {ed:Ed} {c:Str×Str} (h:ZB c ed=none):c∉ed.map (·.1):=fun z=>by
 induction ed with
 |nil=>cases z
 |cons p r ih =>
  unfold ZB at h;split at h
  ·cases h
  ·rename_i ne;rcases Qh.mp z with z|z
   ·exact ne z.symm
   ·exact ih h z
theorem Zoh {H:Hp} {D b:Addr} {ed:Ed} {c:Str×Str} {xs:List Str} {x:Str} {n:Nat} (h:EdAt H D ed) (hb:EdB ed n) (hc:ZB c ed=some (b,xs)) :
  ∃ed',EdAt (Zb H b (.lst (xs.map V.str++[.str x]))) D ed'∧EdB ed' (n+1)∧(∀c',lk ed' c'=ZZ (lk ed) c x c')∧FrE D ed H (Zb H b (.lst (xs.map V.str++[.str x]))) ed':=by
 have mem:=Xd hc;have hlk:lk ed c=xs:=WX (q:=(c,b,xs)) h.kn mem
 have an:∀q∈ed,q.2.1=b->q=(c,b,xs):=fun q hq e=>by
  obtain ⟨i,hi,rfl⟩:=Gi hq;obtain ⟨j,hj,ej⟩:=Gi mem;have:i=j:=(GN (h₀:=by rw [Qd];exact hi) (h₁:=by rw [Qd];exact hj) h.an).mp (by rw [Gm,Gm,ej];exact e);subst this;exact ej
 have keq:∀q∈ed,q.1=c->q=(c,b,xs):=fun q hq e=>by
  have:=ZfC h.kn hq;rw [e,hc] at this;exact R1 e (Qn this).symm
 let g:(Str×Str)×Addr×List Str->(Str×Str)×Addr×List Str:=fun q=>if q.1=c then (q.1,q.2.1,q.2.2++[x]) else q
 have g1:∀q,(g q).1=q.1:=fun q=>by show (if q.1=c then _ else q).1=q.1;split<;>rfl
 have g2:∀q,(g q).2.1=q.2.1:=fun q=>by show (if q.1=c then (q.1,q.2.1,q.2.2++[x]) else q).2.1=q.2.1;split<;>rfl
 have e1:(ed.map g).map (·.1)=ed.map (·.1):=by rw [QX];exact R8 fun q _=>g1 q
 have e2:(ed.map g).map (·.2.1)=ed.map (·.2.1):=by rw [QX];exact R8 fun q _=>g2 q
 have ne:b≠D:=fun z=>by have:=h.l _ mem;rw [show ((c,b,xs):(Str×Str)×Addr×List Str).2.1=D from z,h.d] at this;cases this
 refine ⟨ed.map g,⟨?_,fun q hq=>?_,by rw [e2];exact h.an,by rw [e1];exact h.kn⟩,⟨by rw [Qd];exact NW hb.len,fun q hq=>?_⟩,fun c'=>?_,⟨fun a u na nm e=>?_,fun a ha=>.inl (by rw [←e2];exact ha),fun a n=>?_⟩⟩
 ·rw [Zd ne.symm,h.d]
  congr 2
  show _=(ed.map g).map _;rw [QX];exact R8 fun q _=>by show _=(Zo (g q).1,V.ref (g q).2.1);rw [g1,g2]
 ·obtain ⟨p,hp,rfl⟩:=Qk.mp hq;by_cases e:p.1=c
  ·have:=keq p hp e;subst this;show Zb H b _ (g (c,b,xs)).2.1=_;rw [g2,Zg];show _=some (HO.lst (((if c=c then (c,b,xs++[x]) else (c,b,xs)).2.2).map V.str));rw [Qc rfl,Qr];rfl
  ·rw [g2,Zd (fun z=>e (by rw [an p hp z]))];show _=some (HO.lst ((if p.1=c then (p.1,p.2.1,p.2.2++[x]) else p).2.2.map V.str));rw [Qa e];exact h.l p hp
 ·obtain ⟨p,hp,rfl⟩:=Qk.mp hq;have:=hb.ll p hp;show 1≤(if p.1=c then (p.1,p.2.1,p.2.2++[x]) else p).2.2.length∧(if p.1=c then (p.1,p.2.1,p.2.2++[x]) else p).2.2.length≤n+1;split
  ·show 1≤(p.2.2++[x]).length∧(p.2.2++[x]).length≤n+1;rw [Qu];exact ⟨by simp,by simp;omega⟩
  ·omega
 ·unfold ZZ;have kn':((ed.map g).map (·.1)).Nodup:=by rw [e1];exact h.kn
  by_cases e:c'=c
  ·subst e;rw [Qc rfl,hlk];have m':g (c',b,xs)∈ed.map g:=RJ mem;have e3:g (c',b,xs)=(c',b,xs++[x]):=by show (if c'=c' then _ else _)=_;rw [Qc rfl]
   rw [e3] at m';exact WX kn' m'
  ·rw [Qa e];cases hl:ZB c' ed with
   |some y =>
    have m':g (c',y)∈ed.map g:=RJ (Xd hl);have e3:g (c',y)=(c',y):=by show (if c'=c then _ else _)=_;rw [Qa e]
    rw [e3] at m';rw [WX kn' m',WX h.kn (Xd hl)]
   |none =>
    rw [VR hl];refine VR ?_;cases hl2:ZB c' (ed.map g) with
    |none=>rfl
    |some y =>
     have:=RJ (f:=(·.1)) (Xd hl2);rw [e1] at this;exact absurd this (Zd4 hl)
 ·rw [Zd (fun z=>nm (by rw [z];exact RJ (f:=(·.2.1)) mem))];exact e
 ·by_cases z:a=b
  ·rw [z,Zg] at n;cases n
  ·rwa [Zd z] at n
theorem Zev {H:Hp} {D z:Addr} {ed:Ed} {c:Str×Str} {xs:List Str} {n:Nat} (h:EdAt H D ed) (hb:EdB ed n) (hc:ZB c ed=none) (nz:H z=none) (l1:1≤xs.length) (ln:xs.length≤n+1) {H':Hp}
  (hD:H' D=some (.dT (Xb ed++[(Zo c,.ref z)]))) (hz:H' z=some (.lst (xs.map V.str))) (fr:∀b u,b≠D->H b=some u->H' b=some u) (al:∀b,H' b=none->H b=none) :
  ∃ed',EdAt H' D ed'∧EdB ed' (n+1)∧(∀c',lk ed' c'=if c'=c then xs else lk ed c')∧FrE D ed H H' ed':=by
 have nk:=Zd4 hc
 have na:z∉ed.map (·.2.1):=fun m=>by
  obtain ⟨q,hq,e⟩:=Qk.mp m;have:=h.l q hq;rw [e,nz] at this;cases this
 refine ⟨ed++[(c,z,xs)],⟨by rw [hD];show _=some (HO.dT ((ed++[(c,z,xs)]).map _));rw [Qr];rfl,fun q hq=>?_,?_,?_⟩,⟨by rw [Qu];exact NV hb.len,fun q hq=>?_⟩,fun c'=>?_,⟨fun b u nb nm e=>fr b u nb e,fun b hb'=>?_,al⟩⟩
 ·rcases Qq.mp hq with hq|hq
  ·have:=h.l q hq;exact fr _ _ (fun y=>by rw [y,h.d] at this;cases this) this
  ·rw [show q=(c,z,xs) by simpa using hq];exact hz
 ·rw [Qr];exact Rb.mpr ⟨h.an,by simp,fun a ha b hb'=>by rw [show b=z by simpa using hb'];exact fun e=>na (e▸ha)⟩
 ·rw [Qr];exact Rb.mpr ⟨h.kn,by simp,fun a ha b hb'=>by rw [show b=c by simpa using hb'];exact fun e=>nk (e▸ha)⟩
 ·rcases Qq.mp hq with hq|hq
  ·have:=hb.ll q hq;omega
  ·rw [show q=(c,z,xs) by simpa using hq];exact ⟨l1,ln⟩
 ·unfold lk;rw [Zdm];by_cases e:c'=c
  ·subst e;rw [Qc rfl,hc];show ((ZB c' [(c',z,xs)]).map (·.2)).getD []=xs;unfold ZB;rw [Qc rfl];rfl
  ·rw [Qa e];have:ZB c' [(c,z,xs)]=none:=by unfold ZB;rw [Qa (fun y=>e y.symm)];rfl
   rw [this];cases ZB c' ed<;>rfl
 ·rw [Qr] at hb';rcases Qq.mp hb' with hb'|hb'
  ·exact .inl hb'
  ·exact .inr (by rw [show b=z by simpa using hb'];exact nz)
noncomputable def Zbh (l:Str):Str:=if l="F" then "f" else if l="M" then "m" else "t"
theorem Zfk {l:Str} (h:l="F"∨l="M"∨l="T"):Txt.lower l=Zbh l:=by
 rcases h with rfl|rfl|rfl<;>decide +kernel
def UB (D:Addr) (ed:Ed) (n:Nat) (c:Str×Str) (x:Str) (H H':Hp):Prop:=∃ed',EdAt H' D ed'∧EdB ed' (n+1)∧(∀c',lk ed' c'=ZZ (lk ed) c x c')∧FrE D ed H H' ed'
theorem FrE.pre {D:Addr} {ed ed':Ed} {H H1 H':Hp} (s:Same H H1) (f:FrE D ed H1 H' ed'):FrE D ed H H' ed':=⟨fun b u nb nm e=>f.fr b u nb nm (s _ _ e),fun b hb=>(f.gr b hb).imp id fun z=>ZJ s z,fun b z=>ZJ s (f.al b z)⟩
theorem Zar {H H2:Hp} {D z:Addr} {ed:Ed} {n:Nat} {c:Str×Str} {x:Str} (h:EdAt H D ed) (hb:EdB ed n) (n6:n≤900) (s:Same H H2) (nz:H z=none) (hz:H2 z=some (.lst [])) :
  H2 D=some (.dT (Xb ed))∧(Xb ed).length<sizeLine ∧
  (∀v,ZM (Xb ed) (Zo c)=some v->∃(b:Addr) (xs:List Str),v=.ref b∧H2 b=some (.lst (xs.map V.str))∧(xs.map V.str).length<sizeLine∧UB D ed n c x H (Zb H2 b (.lst (xs.map V.str++[.str x])))) ∧
  (ZM (Xb ed) (Zo c)=none->(Zb H2 D (.dT (Xb ed++[(Zo c,.ref z)]))) z=some (.lst [])∧UB D ed n c x H (Zb (Zb H2 D (.dT (Xb ed++[(Zo c,.ref z)]))) z (.lst ([]++[.str x])))):=by
 have h2:=h.mono s;have zD:z≠D:=fun e=>by rw [e,h2.d] at hz;cases hz
 refine ⟨h2.d,Zz (by rw [Qd];have:=hb.len;omega),fun v hv=>?_,fun hv=>⟨by rw [Zd zD];exact hz,?_⟩⟩
 ·rw [Wb] at hv;obtain ⟨⟨b,xs⟩,hx,rfl⟩:=QR.mp hv;have mem:=Xd hx;have ll:=hb.ll _ mem;obtain ⟨ed',a1,a2,a3,a4⟩:=Zoh (x:=x) h2 hb hx;exact ⟨b,xs,rfl,h2.l _ mem,Zz (by rw [Qd];have:xs.length≤n:=ll.2;omega),ed',a1,a2,a3,a4.pre s⟩
 ·rw [Wb] at hv
  have hn:ZB c ed=none:=by
   cases e:ZB c ed with
   |none=>rfl
   |some y=>rw [e] at hv;cases hv
  obtain ⟨ed',a1,a2,a3,a4⟩:=Zev (xs:=[x]) (H':=Zb (Zb H2 D (.dT (Xb ed++[(Zo c,.ref z)]))) z (.lst ([]++[.str x]))) h hb hn nz (by simp) (by simp) (by rw [Zd zD.symm,Zg]) Zg
   (fun b u nb e=>by rw [Zd (ZO e nz),Zd nb];exact s _ _ e) (fun b hbn=>by
    by_cases e1:b=z
    ·rw [e1,Zg] at hbn;cases hbn
    ·rw [Zd e1] at hbn;by_cases e2:b=D
     ·rw [e2,Zg] at hbn;cases hbn
     ·rw [Zd e2] at hbn;exact ZJ s hbn)
  refine ⟨ed',a1,a2,fun c'=>?_,a4⟩;rw [a3];unfold ZZ;rw [VR hn];rfl
noncomputable def Yh (a b n x:Str) (g:ZE):ZE:=if x="" then g else ZZ (ZZ g (a,n) x) (b,x) n
noncomputable def Yn (f:ZE) (s n:Str):ZE:=fun c=>if c=(s,n) then [n] else f c
noncomputable def Yo (f:ZE):Ent->ZE
 |.born n s _ fa mo=>Yh "M" "m" n mo (Yh "F" "f" n fa (Yn f s n))
 |.taken c t _=>ZZ (ZZ f ("T",c) t) ("t",t) c
 |_=>f
noncomputable def Yt (es:List Ent):ZE:=es.foldl Yo fun _=>[]
theorem UO (es:List Ent) (e:Ent):Yt (es++[e])=Yo (Yt es) e:=by unfold Yt;rw [Nl];rfl
abbrev Xo:=List ((Str×Str)×Addr×Int×Str)
noncomputable def X6 (g:Str×Str->Option (Int×Str)) (e:Ent):Str×Str->Option (Int×Str):=fun c =>
 if e.tie=true∧c=Zf e.pr.1 e.pr.2 then (match g c with
  |none=>some (e.day,e.kind)
  |some r=>if r.1<e.day then some (e.day,e.kind) else some r) else g c
noncomputable def YD (es:List Ent):Str×Str->Option (Int×Str):=es.foldl X6 fun _=>none
theorem Zav (es:List Ent) (e:Ent):YD (es++[e])=X6 (YD es) e:=by unfold YD;rw [Nl];rfl
noncomputable abbrev Xf (ls:Xo):List (List Zi×V):=ls.map fun q=>(Zo q.1,.ref q.2.1)
structure LsAt (K:W.Frag) (H:Hp) (D:Addr) (ls:Xo):Prop where
 d:H D=some (.dT (Xf ls))
 t:∀q∈ls,SqT K H q.2.1 [.int q.2.2.1,.str q.2.2.2]
 kn:(ls.map (·.1)).Nodup
theorem LsAt.mono {K:W.Frag} {H H':Hp} {D:Addr} {ls:Xo} (h:LsAt K H D ls) (s:Same H H'):LsAt K H' D ls:=⟨s _ _ h.d,fun q hq=>s.sqt (h.t q hq),h.kn⟩
theorem Zel (c:Str×Str):∀l:Xo,ZM (Xf l) (Zo c)=(Zv c l).map fun q=>.ref q.1
 |[]=>rfl
 |q::r=>by
  have ih:=Zel c r;unfold Zv;show ZM ((Zo q.1,V.ref q.2.1)::Xf r) (Zo c)=_;by_cases e:q.1=c
  ·subst e;rw [XX rfl,Qc rfl];rfl
  ·rw [XW (fun z=>e (WF z)),Qa e];exact ih
theorem FrE.sqt {K:W.Frag} {D:Addr} {ed ed':Ed} {H H':Hp} (f:FrE D ed H H' ed') (h:EdAt H D ed) {a:Addr} {xs:List V} (q:SqT K H a xs):SqT K H' a xs:=by
 have nm:∀{b:Addr} {u:HO},H b=some u->(∀ys,u≠.lst ys)->b∉ed.map (·.2.1):=fun e nl m=>by
  obtain ⟨p,hp,rfl⟩:=Qk.mp m;rw [h.l p hp] at e;cases e;exact nl _ rfl
 rcases q with (q|⟨o,q⟩)|q
 ·exact .inl (.inl (f.fr _ _ (fun z=>by rw [z,h.d] at q;cases q) (nm q fun _ z=>by cases z) q))
 ·exact .inl (.inr ⟨o,f.fr _ _ (fun z=>by rw [z,h.d] at q;cases q) (nm q fun _ z=>by cases z) q⟩)
 ·exact .inr q
theorem FrE.ls {K:W.Frag} {D Dl:Addr} {ed ed':Ed} {H H':Hp} {ls:Xo} (f:FrE D ed H H' ed') (h:EdAt H D ed) (ne:Dl≠D) (l:LsAt K H Dl ls):LsAt K H' Dl ls:=by
 refine ⟨f.fr _ _ ne (fun m=>?_) l.d,fun q hq=>f.sqt h (l.t q hq),l.kn⟩;obtain ⟨p,hp,e⟩:=Qk.mp m;have:=h.l p hp;rw [e,l.d] at this;cases this
theorem Zm0 (l:Xo) (c:Str×Str) (x:Addr×Int×Str):Yj (Xf l) (Zo c) (.ref x.1)=Xf (Zp l c x):=Uz (f:=Zo) (fun _ _=>WF) (fun x:Addr×Int×Str=>V.ref x.1) l c x
noncomputable def Xi (f:ZE) (q:(Str×Str)×Addr×Int×Str):ZE:=if q.2.2.2="union" then ZZ (ZZ f ("S",q.1.1) q.1.2) ("S",q.1.2) q.1.1 else f
theorem EdB.mono {ed:Ed} {n m:Nat} (h:EdB ed n) (l:n≤m):EdB ed m:=⟨Qo h.len l,fun q hq=>⟨(h.ll q hq).1,Qo (h.ll q hq).2 l⟩⟩
theorem Zmj {ed:Ed} {n:Nat} {c:Str×Str} (hb:EdB ed n) (h:lk ed c=[]):ZB c ed=none:=by
 cases e:ZB c ed with
 |none=>rfl
 |some x =>
  have l:=(hb.ll _ (Xd e)).1;have z:x.2=[]:=by unfold lk at h;rw [e] at h;exact h
  rw [show ((c,x):(Str×Str)×Addr×List Str).2.2=[] from z] at l;cases l
theorem Zaf {es:List Ent} {e:Ent} (h:e.tie=false):YD (es++[e])=YD es:=by
 rw [Zav]
 funext c
 unfold X6;rw [Qa (fun z=>by rw [h] at z;cases z.1)]
theorem ZhN {es:List Ent} {n s:Str} (hs:s="he"∨s="she"∨s="") (h:∀e∈es,e.bornName≠some n):Yt es (s,n)=[]:=by
 have go:∀(l:List Ent) (f:ZE),(∀e∈l,e.bornName≠some n)->f (s,n)=[]->l.foldl Yo f (s,n)=[]:=by
  intro l
  induction l with
  |nil=>intro f _ h0;exact h0
  |cons e r ih =>
   intro f hl h0;refine ih _ (fun e he=>hl e (QF _ he)) ?_
   have ne:∀{a:Str},a∈(["F","f","M","m","T","t"]:List Str)->s≠a:=fun ha z=>by
    rw [z] at hs;simp only [Qh,QN,QO] at ha;rcases ha with rfl|rfl|rfl|rfl|rfl|rfl<;>exact absurd hs (by decide +kernel)
   have ad:∀{g:ZE} {a y x:Str},a∈(["F","f","M","m","T","t"]:List Str)->ZZ g (a,y) x (s,n)=g (s,n):=fun {g a y x} ha=>Qa fun z=>ne ha (Qy (·.1) z);cases e with
   |born n' s' d fa mo =>
    have nn:n'≠n:=fun z=>hl _ (QC ..) (by rw [z];rfl);have b0:Yn f s' n' (s,n)=[]:=by unfold Yn;rw [Qa (fun z=>nn (Qy (·.2) z).symm)];exact h0
    have f2:∀{u v x:Str} {g:ZE},u∈(["F","f","M","m","T","t"]:List Str)->v∈(["F","f","M","m","T","t"]:List Str)->g (s,n)=[]->Yh u v n' x g (s,n)=[]:=fun hu hv hg=>by
     unfold Yh;split
     ·exact hg
     ·rw [ad hv,ad hu];exact hg
    exact f2 (by simp) (by simp) (f2 (by simp) (by simp) b0)
   |taken c t d=>show ZZ _ _ _ _=[];rw [ad (by simp),ad (by simp)];exact h0
   |union=>exact h0
   |parted=>exact h0
   |dead=>exact h0
   |given=>exact h0
 exact go es _ h rfl
theorem ZfX {n s f m:Str} {d:Int} (h:(Ent.born n s d f m).Ok):s="he"∨s="she"∨s="":=by
 have e:=h.en;have e2:Xw [.name,.sort,.day,.parent,.parent] [.str n,.str s,.int d,.str f,.str m]=true:=e;unfold Xw at e2;rw [RA] at e2;have e3:=Rv.mp e2.2 (Vu (.str s)) (by simp [ZT,VM]);have e4:(decide (s="he")||decide (s="she")||decide (s=""))=true:=e3;simpa [Gh,or_assoc] using e4
theorem FrE.oth {D b:Addr} {ed ed':Ed} {H H':Hp} {u:HO} (f:FrE D ed H H' ed') (h:EdAt H D ed) (ne:b≠D) (e:H b=some u) (nl:∀ys,u≠.lst ys):H' b=some u :=
 f.fr b u ne (fun m=>by
  obtain ⟨p,hp,rfl⟩:=Qk.mp m;rw [h.l p hp] at e;cases e;exact nl _ rfl) e
theorem EdAt.off {H:Hp} {D b:Addr} {ed:Ed} (h:EdAt H D ed) (e:H b=none):b∉ed.map (·.2.1):=fun m=>by
 obtain ⟨p,hp,z⟩:=Qk.mp m;have:=h.l p hp;rw [z,e] at this;cases this
noncomputable def ZaH (F:ZE) (n s fa mo:Str):Nat->ZE
 |0=>Yn F s n
 |1=>Yh "F" "f" n fa (Yn F s n)
 |_=>Yh "M" "m" n mo (Yh "F" "f" n fa (Yn F s n))
noncomputable def Jx (ed:Ed) (nm s:Str):Option V:=if (ZB (s,nm) ed).isSome=true then some (.str s) else none
theorem Ze1 (ed:Ed) (nm:Str):∀l:List Str,(l.map (Jx ed nm)).filterMap id=(l.filter fun s=>(ZB (s,nm) ed).isSome).map V.str
 |[]=>rfl
 |s::l=>by
  have ih:=Ze1 ed nm l;rw [Qp,QT,RX];unfold Jx at ih ⊢;by_cases h:(ZB (s,nm) ed).isSome=true
  ·rw [Qc h,Qc h];simp only [id,Qp];rw [ih]
  ·rw [Qa h,Qa h];simp only [id];exact ih
theorem Zj8 (z:Int):∃s∈ZU,Yl (ZU.map V.str) (z.fmod 9)=some (.str s):=W0 V.str ZU (by decide) z
theorem Yx (f:ZE) (a n x b m:Str):ZZ f (a,n) x (b,m)=if b=a∧m=n then f (a,n)++[x] else f (b,m):=by
 unfold ZZ;by_cases h:b=a∧m=n
 ·rw [Qc (by rw [h.1,h.2]),Qc h]
 ·rw [Qa (fun z=>h ⟨Qy (·.1) z,Qy (·.2) z⟩),Qa h]
theorem Y7 {a b:Str} (ab:¬b=a) (n' x:Str) (g:ZE) (l n:Str):Yh a b n' x g (l,n)=if x="" then g (l,n) else if l=b∧n=x then g (l,n)++[n'] else if l=a∧n=n' then g (l,n)++[x] else g (l,n):=by
 unfold Yh;by_cases h:x=""
 ·rw [Qc h,Qc h]
 ·rw [Qa h,Qa h,Yx,Yx];by_cases h1:l=b∧n=x
  ·rw [Qc h1,Qc h1,Qa (fun z=>ab z.1),h1.1,h1.2]
  ·rw [Qa h1,Qa h1,Yx];by_cases h2:l=a∧n=n'
   ·rw [Qc h2,Qc h2,h2.1,h2.2]
   ·rw [Qa h2,Qa h2]
theorem Zf8 (f:ZE) (e:Ent) (n:Str) (hs:∀n' s d fa mo,e=.born n' s d fa mo->s≠"F"):Yo f e ("F",n)=f ("F",n)++WA n e:=by
 have klf:¬(("F" : Str)="f"):=by decide +kernel
 have kuM:¬(("F" : Str)="M"):=by decide +kernel
 have klm:¬(("F" : Str)="m"):=by decide +kernel
 have kuT:¬(("F" : Str)="T"):=by decide +kernel
 have klt:¬(("F" : Str)="t"):=by decide +kernel
 cases e with
 |born n' s d fa mo =>
  have h1:=hs n' s d fa mo rfl;show Yh "M" "m" n' mo (Yh "F" "f" n' fa (Yn f s n')) ("F",n)=_;rw [Y7 (by decide +kernel),Y7 (by decide +kernel),show Yn f s n' ("F",n)=f ("F",n) from Qa (fun z=>h1 (Qy (·.1) z).symm)];simp only [klf,kuM,klm,kuT,klt,RY,RZ,QV,R0];unfold WA;by_cases e1:fa=""
  ·simp [e1]
  ·by_cases e2:n=n'
   ·subst e2;simp [e1]
   ·have e3:¬n'=n:=fun z=>e2 z.symm;simp [e1,e2,e3]
 |taken c t d =>
  show ZZ (ZZ f ("T",c) t) ("t",t) c ("F",n)=_;rw [Yx,Qa (fun z=>klt z.1),Yx,Qa (fun z=>kuT z.1)];simp [WA]
 |union=>exact (Qs _).symm
 |parted=>exact (Qs _).symm
 |dead=>exact (Qs _).symm
 |given=>exact (Qs _).symm
theorem ZfM (f:ZE) (e:Ent) (n:Str) (hs:∀n' s d fa mo,e=.born n' s d fa mo->s≠"f"):Yo f e ("f",n)=f ("f",n)++WU n e:=by
 have kuF:¬(("f" : Str)="F"):=by decide +kernel
 have kuM:¬(("f" : Str)="M"):=by decide +kernel
 have klm:¬(("f" : Str)="m"):=by decide +kernel
 have kuT:¬(("f" : Str)="T"):=by decide +kernel
 have klt:¬(("f" : Str)="t"):=by decide +kernel
 cases e with
 |born n' s d fa mo =>
  have h1:=hs n' s d fa mo rfl;show Yh "M" "m" n' mo (Yh "F" "f" n' fa (Yn f s n')) ("f",n)=_;rw [Y7 (by decide +kernel),Y7 (by decide +kernel),show Yn f s n' ("f",n)=f ("f",n) from Qa (fun z=>h1 (Qy (·.1) z).symm)];simp only [kuF,kuM,klm,kuT,klt,RY,RZ,QV,R0];unfold WU;by_cases e1:fa=""
  ·simp [e1]
  ·by_cases e2:n=fa
   ·subst e2;simp [e1]
   ·have e3:¬fa=n:=fun z=>e2 z.symm;simp [e1,e2,e3]
 |taken c t d =>
  show ZZ (ZZ f ("T",c) t) ("t",t) c ("f",n)=_;rw [Yx,Qa (fun z=>klt z.1),Yx,Qa (fun z=>kuT z.1)];simp [WU]
 |union=>exact (Qs _).symm
 |parted=>exact (Qs _).symm
 |dead=>exact (Qs _).symm
 |given=>exact (Qs _).symm
theorem ZeC (f:ZE) (e:Ent) (n:Str) (hs:∀n' s d fa mo,e=.born n' s d fa mo->s≠"M"):Yo f e ("M",n)=f ("M",n)++Wy n e:=by
 have kuF:¬(("M" : Str)="F"):=by decide +kernel
 have klf:¬(("M" : Str)="f"):=by decide +kernel
 have klm:¬(("M" : Str)="m"):=by decide +kernel
 have kuT:¬(("M" : Str)="T"):=by decide +kernel
 have klt:¬(("M" : Str)="t"):=by decide +kernel
 cases e with
 |born n' s d fa mo =>
  have h1:=hs n' s d fa mo rfl;show Yh "M" "m" n' mo (Yh "F" "f" n' fa (Yn f s n')) ("M",n)=_;rw [Y7 (by decide +kernel),Y7 (by decide +kernel),show Yn f s n' ("M",n)=f ("M",n) from Qa (fun z=>h1 (Qy (·.1) z).symm)];simp only [kuF,klf,klm,kuT,klt,RY,RZ,QV,R0];unfold Wy;by_cases e1:mo=""
  ·simp [e1]
  ·by_cases e2:n=n'
   ·subst e2;simp [e1]
   ·have e3:¬n'=n:=fun z=>e2 z.symm;simp [e1,e2,e3]
 |taken c t d =>
  show ZZ (ZZ f ("T",c) t) ("t",t) c ("M",n)=_;rw [Yx,Qa (fun z=>klt z.1),Yx,Qa (fun z=>kuT z.1)];simp [Wy]
 |union=>exact (Qs _).symm
 |parted=>exact (Qs _).symm
 |dead=>exact (Qs _).symm
 |given=>exact (Qs _).symm
theorem Zfn (f:ZE) (e:Ent) (n:Str) (hs:∀n' s d fa mo,e=.born n' s d fa mo->s≠"m"):Yo f e ("m",n)=f ("m",n)++WO n e:=by
 have kuF:¬(("m" : Str)="F"):=by decide +kernel
 have klf:¬(("m" : Str)="f"):=by decide +kernel
 have kuM:¬(("m" : Str)="M"):=by decide +kernel
 have kuT:¬(("m" : Str)="T"):=by decide +kernel
 have klt:¬(("m" : Str)="t"):=by decide +kernel
 cases e with
 |born n' s d fa mo =>
  have h1:=hs n' s d fa mo rfl;show Yh "M" "m" n' mo (Yh "F" "f" n' fa (Yn f s n')) ("m",n)=_;rw [Y7 (by decide +kernel),Y7 (by decide +kernel),show Yn f s n' ("m",n)=f ("m",n) from Qa (fun z=>h1 (Qy (·.1) z).symm)];simp only [kuF,klf,kuM,kuT,klt,RY,RZ,QV,R0];unfold WO;by_cases e1:mo=""
  ·simp [e1]
  ·by_cases e2:n=mo
   ·subst e2;simp [e1]
   ·have e3:¬mo=n:=fun z=>e2 z.symm;simp [e1,e2,e3]
 |taken c t d =>
  show ZZ (ZZ f ("T",c) t) ("t",t) c ("m",n)=_;rw [Yx,Qa (fun z=>klt z.1),Yx,Qa (fun z=>kuT z.1)];simp [WO]
 |union=>exact (Qs _).symm
 |parted=>exact (Qs _).symm
 |dead=>exact (Qs _).symm
 |given=>exact (Qs _).symm
theorem Ze3 (f:ZE) (e:Ent) (n:Str) (hs:∀n' s d fa mo,e=.born n' s d fa mo->s≠"T"):Yo f e ("T",n)=f ("T",n)++WL n e:=by
 have kuF:¬(("T" : Str)="F"):=by decide +kernel
 have klf:¬(("T" : Str)="f"):=by decide +kernel
 have kuM:¬(("T" : Str)="M"):=by decide +kernel
 have klm:¬(("T" : Str)="m"):=by decide +kernel
 have klt:¬(("T" : Str)="t"):=by decide +kernel
 cases e with
 |born n' s d fa mo =>
  have h1:=hs n' s d fa mo rfl;show Yh "M" "m" n' mo (Yh "F" "f" n' fa (Yn f s n')) ("T",n)=_;rw [Y7 (by decide +kernel),Y7 (by decide +kernel),show Yn f s n' ("T",n)=f ("T",n) from Qa (fun z=>h1 (Qy (·.1) z).symm)];simp only [kuF,klf,kuM,klm,klt,RY,RZ,QV,R0];simp [WL]
 |taken c t d =>
  show ZZ (ZZ f ("T",c) t) ("t",t) c ("T",n)=_;rw [Yx,Qa (fun z=>klt z.1),Yx];unfold WL;by_cases e2:n=c
  ·subst e2;simp
  ·have e3:¬c=n:=fun z=>e2 z.symm;simp [e2,e3]
 |union=>exact (Qs _).symm
 |parted=>exact (Qs _).symm
 |dead=>exact (Qs _).symm
 |given=>exact (Qs _).symm
theorem Zfr (f:ZE) (e:Ent) (n:Str) (hs:∀n' s d fa mo,e=.born n' s d fa mo->s≠"t"):Yo f e ("t",n)=f ("t",n)++WY n e:=by
 have kuF:¬(("t" : Str)="F"):=by decide +kernel
 have klf:¬(("t" : Str)="f"):=by decide +kernel
 have kuM:¬(("t" : Str)="M"):=by decide +kernel
 have klm:¬(("t" : Str)="m"):=by decide +kernel
 have kuT:¬(("t" : Str)="T"):=by decide +kernel
 cases e with
 |born n' s d fa mo =>
  have h1:=hs n' s d fa mo rfl;show Yh "M" "m" n' mo (Yh "F" "f" n' fa (Yn f s n')) ("t",n)=_;rw [Y7 (by decide +kernel),Y7 (by decide +kernel),show Yn f s n' ("t",n)=f ("t",n) from Qa (fun z=>h1 (Qy (·.1) z).symm)];simp only [kuF,klf,kuM,klm,kuT,RY,RZ,QV,R0];simp [WY]
 |taken c t d =>
  show ZZ (ZZ f ("T",c) t) ("t",t) c ("t",n)=_;unfold WY;rw [Yx];by_cases e2:n=t
  ·subst e2;rw [Qc ⟨rfl,rfl⟩,Yx,Qa (fun z=>kuT z.1)];simp
  ·have e3:¬t=n:=fun z=>e2 z.symm;rw [Qa (fun z=>e2 z.2),Yx,Qa (fun z=>kuT z.1)];simp [e3]
 |union=>exact (Qs _).symm
 |parted=>exact (Qs _).symm
 |dead=>exact (Qs _).symm
 |given=>exact (Qs _).symm
theorem ZcB (f:ZE) (e:Ent) (n:Str) (hs:∀n' s d fa mo,e=.born n' s d fa mo->s≠"S"):Yo f e ("S",n)=f ("S",n)++[]:=by
 have kuF:¬(("S" : Str)="F"):=by decide +kernel
 have klf:¬(("S" : Str)="f"):=by decide +kernel
 have kuM:¬(("S" : Str)="M"):=by decide +kernel
 have klm:¬(("S" : Str)="m"):=by decide +kernel
 have kuT:¬(("S" : Str)="T"):=by decide +kernel
 have klt:¬(("S" : Str)="t"):=by decide +kernel
 cases e with
 |born n' s d fa mo =>
  have h1:=hs n' s d fa mo rfl;show Yh "M" "m" n' mo (Yh "F" "f" n' fa (Yn f s n')) ("S",n)=_;rw [Y7 (by decide +kernel),Y7 (by decide +kernel),show Yn f s n' ("S",n)=f ("S",n) from Qa (fun z=>h1 (Qy (·.1) z).symm)];simp only [kuF,klf,kuM,klm,kuT,klt,RY,RZ,QV,R0];simp
 |taken c t d =>
  show ZZ (ZZ f ("T",c) t) ("t",t) c ("S",n)=_;rw [Yx,Qa (fun z=>klt z.1),Yx,Qa (fun z=>kuT z.1)];simp
 |union=>exact (Qs _).symm
 |parted=>exact (Qs _).symm
 |dead=>exact (Qs _).symm
 |given=>exact (Qs _).symm
def Zhh (es:List Ent):Prop:=∀n s d fa mo,Ent.born n s d fa mo∈es->s="he"∨s="she"∨s=""
theorem UQ {es:List Ent} {l n:Str} {ad:Ent->List Str} (st:∀e∈es,∀f:ZE,Yo f e (l,n)=f (l,n)++ad e):Yt es (l,n)=es.flatMap ad:=by
 have go:∀(r:List Ent) (f:ZE),(∀e∈r,∀f:ZE,Yo f e (l,n)=f (l,n)++ad e)->r.foldl Yo f (l,n)=f (l,n)++r.flatMap ad:=by
  intro r
  induction r with
  |nil=>intro f _;simp
  |cons e r ih =>
   intro f h;rw [RI,ih _ (fun e he=>h e (QF _ he)),h e (QC ..),NT,List.append_assoc]
 rw [show Yt es (l,n)=es.foldl Yo (fun _=>[]) (l,n) from rfl,go es _ st];rfl
theorem ZfL {es:List Ent} (h:Zhh es) {l:Str} (hl:l∈Xn):∀e∈es,∀n' s d fa mo,e=.born n' s d fa mo->s≠l:=fun e he n' s d fa mo z w=>by
 subst z w;have:=h _ _ _ _ _ he;simp only [Xn,Qh,QN,QO] at hl;rcases hl with rfl|rfl|rfl|rfl|rfl|rfl|rfl<;>exact absurd this (by decide +kernel)
theorem ZeZ {es:List Ent}:∀(c:Str×Str) (x:Str),x∈Yt es c->∃e∈es,x∈e.named∨e.bornName=some x:=by
 have ad:∀{f:ZE} {c c':Str×Str} {x y:Str},x∈ZZ f c y c'->x∈f c'∨x=y:=fun {f c c' x y} h=>by
  unfold ZZ at h;split at h
  ·rename_i e;rcases Qq.mp h with h|h
   ·rw [e];exact .inl h
   ·exact .inr (by simpa using h)
  ·exact .inl h
 have go:∀(r:List Ent) (f:ZE) (R:Str->Prop),(∀c x,x∈f c->R x)->(∀e∈r,∀x,x∈e.named∨e.bornName=some x->R x)->∀c x,x∈r.foldl Yo f c->R x:=by
  intro r
  induction r with
  |nil=>intro f R h _ c x hx;exact h c x hx
  |cons e r ih =>
   intro f R h hr c x hx;refine ih (Yo f e) R (fun c x hx=>?_) (fun e he=>hr e (QF _ he)) c x hx;have he:=hr e (QC ..);cases e with
   |born n s d fa mo =>
    have p1:∀{a b y:Str} {g:ZE},(∀c x,x∈g c->R x)->(y≠""->R y)->∀c x,x∈Yh a b n y g c->R x:=fun {a b y g} hg hy c x hx=>by
     unfold Yh at hx;split at hx
     ·exact hg c x hx
     ·rename_i ny;rcases ad hx with hx|rfl
      ·rcases ad hx with hx|rfl
       ·exact hg c x hx
       ·exact hy ny
      ·exact he _ (.inr rfl)
    refine p1 (p1 (fun c x hx=>?_) (fun ny=>he _ (.inl ?_))) (fun ny=>he _ (.inl ?_)) c x hx
    ·unfold Yn at hx;split at hx
     ·rw [show x=n by simpa using hx];exact he _ (.inr rfl)
     ·exact h c x hx
    ·exact Q5.mpr ⟨by simp,Qm ny⟩
    ·exact Q5.mpr ⟨by simp,Qm ny⟩
   |taken u v d =>
    rcases ad (show x∈ZZ (ZZ f ("T",u) v) ("t",v) u c from hx) with hx|rfl
    ·rcases ad hx with hx|rfl
     ·exact h c x hx
     ·exact he _ (.inl (by simp [Ent.named]))
    ·exact he _ (.inl (by simp [Ent.named]))
   |union=>exact h c x hx
   |parted=>exact h c x hx
   |dead=>exact h c x hx
   |given=>exact h c x hx
 intro c x hx;exact go es _ (fun x=>∃e∈es,x∈e.named∨e.bornName=some x) (fun c x h=>(by cases h)) (fun e he x h=>⟨e,he,h⟩) c x hx
theorem ZbG {es:List Ent} {s n x:Str} (hs:s="he"∨s="she"):x∈Yt es (s,n)↔x=n∧∃d f m,Ent.born n s d f m∈es:=by
 have ne:∀{a:Str},a∈(["F","f","M","m","T","t"]:List Str)->¬s=a:=fun ha z=>by
  rw [z] at hs;simp only [Qh,QN,QO] at ha;rcases ha with rfl|rfl|rfl|rfl|rfl|rfl<;>exact absurd hs (by decide +kernel)
 have st:∀(f:ZE) (e:Ent),Yo f e (s,n)=(match e with|.born n' s' _ _ _=>Yn f s' n' (s,n)|_=>f (s,n)):=fun f e=>by
  cases e with
  |born n' s' d fa mo =>
   show Yh "M" "m" n' mo (Yh "F" "f" n' fa (Yn f s' n')) (s,n)=Yn f s' n' (s,n);rw [Y7 (by decide +kernel),Y7 (by decide +kernel)];simp only [ne (a:="m") (by simp),ne (a:="M") (by simp),ne (a:="f") (by simp),ne (a:="F") (by simp),RY,QV,R0]
  |taken u v d =>
   show ZZ (ZZ f ("T",u) v) ("t",v) u (s,n)=f (s,n);rw [Yx,Qa (fun z=>ne (a:="t") (by simp) z.1),Yx,Qa (fun z=>ne (a:="T") (by simp) z.1)]
  |_=>rfl
 have go:∀(r:List Ent) (f:ZE),(∀y∈f (s,n),y=n)->(x∈r.foldl Yo f (s,n)↔(x=n∧∃d g m,Ent.born n s d g m∈r)∨x∈f (s,n)):=by
  intro r
  induction r with
  |nil=>intro f _;simp
  |cons e r ih =>
   intro f hf;have e1:=st f e
   have key:(∀y∈Yo f e (s,n),y=n)∧(x∈Yo f e (s,n)↔(x=n∧∃d g m,e=.born n s d g m)∨x∈f (s,n)):=by
    cases e with
    |born n' s' d fa mo =>
     rw [show Yo f (.born n' s' d fa mo) (s,n)=Yn f s' n' (s,n) from e1];unfold Yn;by_cases z:(s,n)=(s',n')
     ·cases z;rw [Qc rfl];refine ⟨fun y hy=>by simpa using hy,⟨fun h=>.inl ⟨by simpa using h,d,fa,mo,rfl⟩,fun h=>?_⟩⟩;rcases h with h|h
      ·rw [h.1];simp
      ·rw [hf x h];simp
     ·rw [Qa z];refine ⟨hf,⟨.inr,fun h=>h.elim (fun ⟨_,d',g,m,hh⟩=>by cases hh;exact absurd rfl z) id⟩⟩
    |taken=>exact ⟨by rw [e1];exact hf,by rw [e1];exact ⟨.inr,fun h=>h.elim (fun ⟨_,d',g,m,hh⟩=>by cases hh) id⟩⟩
    |union=>exact ⟨hf,⟨.inr,fun h=>h.elim (fun ⟨_,d',g,m,hh⟩=>by cases hh) id⟩⟩
    |parted=>exact ⟨hf,⟨.inr,fun h=>h.elim (fun ⟨_,d',g,m,hh⟩=>by cases hh) id⟩⟩
    |dead=>exact ⟨hf,⟨.inr,fun h=>h.elim (fun ⟨_,d',g,m,hh⟩=>by cases hh) id⟩⟩
    |given=>exact ⟨hf,⟨.inr,fun h=>h.elim (fun ⟨_,d',g,m,hh⟩=>by cases hh) id⟩⟩
   rw [RI,ih _ key.1,key.2];constructor
   ·rintro (⟨h1,d,g,m,h2⟩|⟨h1,d,g,m,rfl⟩|h)
    ·exact .inl ⟨h1,d,g,m,QF _ h2⟩
    ·exact .inl ⟨h1,d,g,m,QC ..⟩
    ·exact .inr h
   ·rintro (⟨h1,d,g,m,h2⟩|h)
    ·rcases Qh.mp h2 with h2|h2
     ·exact .inr (.inl ⟨h1,d,g,m,h2.symm⟩)
     ·exact .inl ⟨h1,d,g,m,h2⟩
    ·exact .inr (.inr h)
 have:=go es (fun _=>[]) (fun y hy=>by cases hy);rw [show Yt es (s,n)=es.foldl Yo (fun _=>[]) (s,n) from rfl,this];simp
theorem VD {ls:Xo} {f:ZE} {l n:Str} (h:¬l="S"):ls.foldl Xi f (l,n)=f (l,n):=by
 induction ls generalizing f with
 |nil=>rfl
 |cons q r ih =>
  rw [RI,ih];unfold Xi;split
  ·rw [Yx,Qa (fun z=>h z.1),Yx,Qa (fun z=>h z.1)]
  ·rfl
theorem Zal {ls:Xo} {f:ZE} {n x:Str}:x∈ls.foldl Xi f ("S",n)↔x∈f ("S",n)∨∃q∈ls,q.2.2.2="union"∧(q.1=(n,x)∨q.1=(x,n)):=by
 induction ls generalizing f with
 |nil=>simp
 |cons q r ih =>
  rw [RI,ih]
  have st:x∈Xi f q ("S",n)↔x∈f ("S",n)∨(q.2.2.2="union"∧(q.1=(n,x)∨q.1=(x,n))):=by
   obtain ⟨⟨a,b⟩,ar,d,k⟩:=q;unfold Xi;by_cases hu:k="union"
   ·show x∈(if k="union" then ZZ (ZZ f ("S",a) b) ("S",b) a else f) ("S",n)↔x∈f ("S",n)∨(k="union"∧((a,b)=(n,x)∨(a,b)=(x,n)));rw [Qc hu,Yx];by_cases h1:n=b
    ·subst h1;rw [Qc ⟨rfl,rfl⟩,Yx];by_cases h2:n=a
     ·subst h2;rw [Qc ⟨rfl,rfl⟩];simp [hu];exact ⟨fun h=>h.imp id Eq.symm,fun h=>h.imp id Eq.symm⟩
     ·rw [Qa (fun z=>h2 z.2)];simp [hu];constructor
      ·rintro (h|h)
       ·exact .inl h
       ·exact .inr (.inr h.symm)
      ·rintro (h|⟨h,_⟩|h)
       ·exact .inl h
       ·exact absurd h.symm h2
       ·exact .inr h.symm
    ·rw [Qa (fun z=>h1 z.2),Yx];by_cases h2:n=a
     ·subst h2;rw [Qc ⟨rfl,rfl⟩];simp [hu];constructor
      ·rintro (h|h)
       ·exact .inl h
       ·exact .inr (.inl h.symm)
      ·rintro (h|h|⟨_,h⟩)
       ·exact .inl h
       ·exact .inr h.symm
       ·exact absurd h.symm h1
     ·rw [Qa (fun z=>h2 z.2)];simp only [hu,RZ,Prod.mk.injEq];exact ⟨.inl,fun h=>h.elim id fun h=>h.elim (fun z=>absurd z.1.symm h2) fun z=>absurd z.2.symm h1⟩
   ·show x∈(if k="union" then _ else f) ("S",n)↔x∈f ("S",n)∨(k="union"∧_);rw [Qa hu];exact ⟨.inl,fun h=>h.elim id fun h=>absurd h.1 hu⟩
  rw [st];constructor
  ·rintro ((h|h)|⟨q',h1,h2⟩)
   ·exact .inl h
   ·exact .inr ⟨q,QC ..,h⟩
   ·exact .inr ⟨q',QF _ h1,h2⟩
  ·rintro (h|⟨q',h1,h2⟩)
   ·exact .inl (.inl h)
   ·rcases Qh.mp h1 with rfl|h1
    ·exact .inl (.inr h2)
    ·exact .inr ⟨q',h1,h2⟩
noncomputable def dk (e:Ent):Int×Str:=(e.day,e.kind)
theorem Znp (es:List Ent) (a b:Str):YD es (Zf a b)=(es.foldl (WC a b) none).map dk:=by
 have go:∀(r:List Ent) (g:Str×Str->Option (Int×Str)) (o:Option Ent),g (Zf a b)=o.map dk->r.foldl X6 g (Zf a b)=(r.foldl (WC a b) o).map dk:=by
  intro r
  induction r with
  |nil=>intro g o h;exact h
  |cons e r ih =>
   intro g o h;rw [RI,RI];refine ih _ _ ?_;unfold X6 WC;by_cases c:e.tie=true∧Zf e.pr.1 e.pr.2=Zf a b
   ·rw [Qc ⟨c.1,c.2.symm⟩,Qc c,h];cases o with
    |none=>rfl
    |some l =>
     show (if (dk l).1<e.day then _ else _)=Option.map dk (if l.day<e.day then _ else _);show (if l.day<e.day then some (e.day,e.kind) else some (dk l))=_;split<;>rfl
   ·rw [Qa (fun z=>c ⟨z.1,z.2.symm⟩),Qa c];exact h
 exact go es _ none rfl
theorem Zj9 (es:List Ent):YD (es.map Ent.told)=YD es:=by
 have st:∀(g:Str×Str->Option (Int×Str)) (e:Ent),X6 g e.told=X6 g e:=fun g e=>by
  cases e with
  |union a b d =>
   funext c
   show (if true=true∧c=Zf (Zf a b).1 (Zf a b).2 then _ else g c)=(if true=true∧c=Zf a b then _ else g c);rw [Vd];rfl
  |parted a b d =>
   funext c
   show (if true=true∧c=Zf (Zf a b).1 (Zf a b).2 then _ else g c)=(if true=true∧c=Zf a b then _ else g c);rw [Vd];rfl
  |_=>rfl
 unfold YD;rw [List.foldl_map];exact Qy (fun z=>es.foldl z fun _=>none) (funext fun g=>funext fun e=>st g e)
theorem ZhF {es:List Ent}:∀{c:Str×Str} {r:Int×Str},YD es c=some r->∃e∈es,e.tie=true∧c=Zf e.pr.1 e.pr.2:=by
 have go:∀(l:List Ent) (g:Str×Str->Option (Int×Str)) (R:Str×Str->Prop),(∀c r,g c=some r->R c)->(∀e∈l,e.tie=true->R (Zf e.pr.1 e.pr.2))->∀c r,l.foldl X6 g c=some r->R c:=by
  intro l
  induction l with
  |nil=>intro g R h _ c r e;exact h c r e
  |cons e l ih =>
   intro g R h hl c r hr;refine ih _ R (fun c r hc=>?_) (fun e he=>hl e (QF _ he)) c r hr;unfold X6 at hc;split at hc
   ·rename_i z;rw [z.2];exact hl e (QC ..) z.1
   ·exact h c r hc
 intro c r h;exact go es _ (fun c=>∃e∈es,e.tie=true∧c=Zf e.pr.1 e.pr.2) (fun c r z=>(by cases z)) (fun e he t=>⟨e,he,t,rfl⟩) c r h
theorem Znl {e:Ent} (h:e.tie=true):∃(x y:Str) (d:Int) (W:Str),e.row.map kV=[.str W,.str x,.str y,.int d]∧(W="union"∨W="parted")∧e.pr=(x,y)∧e.kind=W∧e.day=d:=by
 cases e with
 |union x y d=>exact ⟨x,y,d,_,rfl,.inl rfl,rfl,rfl,rfl⟩
 |parted x y d=>exact ⟨x,y,d,_,rfl,.inr rfl,rfl,rfl,rfl⟩
 |_=>cases h
theorem ZnL {e:Ent} {f:ZE} (h:e.tie=true):Yo f e=f:=by
 cases e with
 |union x y d=>rfl
 |parted x y d=>rfl
 |_=>cases h
theorem Zd9 {κ α:Type} [DecidableEq κ] {q:κ×α}:∀{l:List (κ×α)},(l.map (·.1)).Nodup->q∈l->Zv q.1 l=some q.2
 |[],_,h=>by cases h
 |p::l,nd,h=>by
  obtain ⟨n1,n2⟩:=QU.mp nd;unfold Zv;rcases Qh.mp h with rfl|h
  ·rw [Qc rfl]
  ·rw [Qa (fun z=>n1 (by show p.1∈_;rw [z];exact RJ (f:=(·.1)) h))];exact Zd9 n2 h
theorem Zhl {pool:List Str} {es:List Ent} (gd:GdL pool es):Zhh es:=fun n s d fa mo h=>ZfX (gd.d5 _ h).1
theorem ZlC {ad:Ent->List Str} (h:∀e,ad e.told=ad e) (es:List Ent):(es.map Ent.told).flatMap ad=es.flatMap ad:=by
 rw [List.flatMap_map];exact Qy (fun z=>es.flatMap z) (funext h)
structure Jn (pool:List Str) (B:Bk) (es:List Ent) (ls:Xo) (F:ZE):Prop where
 li:LI5 pool B B.kept
 hk:B.kept.map (·.1)=es.map Ent.told
 gd:GdL pool es
 kn:(ls.map (·.1)).Nodup
 la:∀c,(Zv c ls).map (·.2)=YD es c
 lke:∀c,F c=ls.foldl Xi (Yt es) c
section
variable {pool:List Str} {B:Bk} {es:List Ent} {ls:Xo} {F:ZE}
theorem Jn.known (j:Jn pool B es ls F) {n s f m:Str} {d:Int} (h:Ent.born n s d f m∈es):Known B n∧X9 B n=s:=by
 have:=Uj j.hk j.gd.bu (VF.mpr h);exact ⟨this.1,this.2.1⟩
theorem Jn.born (j:Jn pool B es ls F) {n:Str} (h:Known B n):∃d f m,Ent.born n (X9 B n) d f m∈es:=by
 unfold Known at h;obtain ⟨p,hp⟩:=Option.ne_none_iff_exists'.mp h;obtain ⟨hm,hb⟩:=Zay hp;obtain ⟨e,a⟩:=p;cases e with
 |born n' s d f m =>
  cases hb;have e1:X9 B n=s:=Zak hp rfl;have:Ent.born n s d f m∈B.kept.map (·.1):=Qk.mpr ⟨_,hm,rfl⟩;rw [j.hk] at this;rw [e1];exact ⟨d,f,m,VF.mp this⟩
 |_=>cases hb
theorem Jn.inp (j:Jn pool B es ls F) {n:Str} (h:Known B n):n∈pool:=by
 obtain ⟨d,f,m,hb⟩:=j.born h;exact (j.gd.d5 _ hb).2.2 n rfl
theorem Jn.find (j:Jn pool B es ls F) {q:(Str×Str)×Addr×Int×Str} (h:q∈ls):YD es q.1=some q.2.2:=by
 rw [←j.la];have:Zv q.1 ls=some q.2:=Zd9 j.kn h;rw [this];rfl
theorem Jn.mem_in (j:Jn pool B es ls F) {c:Str×Str} {x:Str} (h:x∈F c):Known B x:=by
 have ex:∃e∈es,x∈e.named∨e.bornName=some x:=by
  rw [j.lke] at h;obtain ⟨l,n⟩:=c;by_cases e:l="S"
  ·subst e;rcases Zal.mp h with h|⟨q,hq,_,hx⟩
   ·exact ZeZ _ _ h
   ·obtain ⟨e,he,ht,hs⟩:=ZhF (j.find hq);refine ⟨e,he,.inl ?_⟩
    have Zo:x=e.pr.1∨x=e.pr.2:=by
     have:Zf e.pr.1 e.pr.2=(e.pr.1,e.pr.2)∨Zf e.pr.1 e.pr.2=(e.pr.2,e.pr.1):=by unfold Zf;split<;>simp
     rcases hx with hx|hx<;>rcases this with t|t<;>rw [←hs,hx] at t<;>have t1:=Qy (·.1) t<;>have t2:=Qy (·.2) t
     ·exact .inr t2
     ·exact .inl t2
     ·exact .inl t1
     ·exact .inr t1
    cases e with
    |union a b d=>rcases Zo with rfl|rfl<;>simp [Ent.named,Ent.pr]
    |parted a b d=>rcases Zo with rfl|rfl<;>simp [Ent.named,Ent.pr]
    |_=>cases ht
  ·rw [VD e] at h;exact ZeZ _ _ h
 obtain ⟨e,he,h1|h1⟩:=ex
 ·obtain ⟨s,d,f,m,hb⟩:=j.gd.known e he x h1;exact (j.known (VF.mp hb)).1
 ·cases e with
  |born n s d f m=>cases h1;exact (j.known he).1
  |_=>cases h1
theorem Jn.step (j:Jn pool B es ls F) {s n:Str} (hs:s∈ZU) (kn:Known B n) (x:Str):x∈Z5 B s n↔x∈F (s,n):=by
 have so:=Zhl j.gd;have ne:=fun {l:Str} (hl:l∈Xn)=>ZfL so hl;have lks:∀l,Yy B l n=(YC (es.map Ent.told)).1 (l,n):=fun l=>by rw [VO,j.li.st.lks,j.hk]
 have six:∀{l:Str} {ad:Str->Ent->List Str},VW l=false->¬l="S"->Adds l ad->(∀e,ad n e.told=ad n e)->(∀e∈es,∀f:ZE,Yo f e (l,n)=f (l,n)++ad n e)->(x∈Z5 B l n↔x∈F (l,n)):=fun {l ad} ht nS A tl st=>by
  unfold Z5;rw [Qa (by rw [ht];decide),lks,A.all,(Wh _).mem_iff,ZlC tl,j.lke,VD nS,UQ st]
 have tst:s="he"∨s="she"->(x∈Z5 B s n↔x∈F (s,n)):=fun h=>by
  have ht:VW s=true:=by rcases h with rfl|rfl<;>decide +kernel
  have nS:¬s="S":=by rcases h with rfl|rfl<;>decide +kernel
  unfold Z5;rw [Qc ht,j.lke,VD nS,ZbG h];obtain ⟨d,f,m,hb⟩:=j.born kn;by_cases e:X9 B n=s
  ·rw [Qc e];rw [e] at hb;exact ⟨fun z=>⟨by simpa using z,d,f,m,hb⟩,fun z=>by rw [z.1];simp⟩
  ·rw [Qa e];exact ⟨fun z=>(by cases z),fun ⟨_,d',f',m',hb'⟩=>absurd (j.known hb').2 e⟩
 simp only [ZU,Qh,QN,QO] at hs;rcases hs with rfl|rfl|rfl|rfl|rfl|rfl|rfl|h|h
 ·exact six (by decide +kernel) (by decide +kernel) ZeD (fun e=>by cases e<;>rfl) fun e he f=>Zf8 f e n (ne (by decide +kernel) e he)
 ·exact six (by decide +kernel) (by decide +kernel) Zge (fun e=>by cases e<;>rfl) fun e he f=>ZeC f e n (ne (by decide +kernel) e he)
 ·exact six (by decide +kernel) (by decide +kernel) Zhi (fun e=>by cases e<;>rfl) fun e he f=>Ze3 f e n (ne (by decide +kernel) e he)
 ·exact six (by decide +kernel) (by decide +kernel) ZeN (fun e=>by cases e<;>rfl) fun e he f=>ZfM f e n (ne (by decide +kernel) e he)
 ·exact six (by decide +kernel) (by decide +kernel) Zgr (fun e=>by cases e<;>rfl) fun e he f=>Zfn f e n (ne (by decide +kernel) e he)
 ·exact six (by decide +kernel) (by decide +kernel) ZeT (fun e=>by cases e<;>rfl) fun e he f=>Zfr f e n (ne (by decide +kernel) e he)
 ·have eS:Yt es ("S",n)=[]:=by
   rw [UQ (ad:=fun _=>[]) fun e he f=>ZcB f e n (ne (by decide +kernel) e he)];simp
  have ap:=j.li.ap';have once:=j.li.once;rw [j.hk] at ap once;unfold Z5;rw [Qa (by decide +kernel),lks,(Znd ap).mem,Zeb once,←ZjD once,j.lke,Zal,eS]
  have td:Zbi (es.map Ent.told) n x=true↔∃d,YD es (Zf n x)=some (d,("union" : Str)):=by
   rw [←Zj9,Znp];unfold Zbi;cases (es.map Ent.told).foldl (WC n x) none with
   |none=>simp
   |some e =>
    show decide (e.kind="union")=true↔∃d,some (e.day,e.kind)=some (d,("union" : Str));rw [decide_eq_true_iff];exact ⟨fun h=>⟨e.day,by rw [h]⟩,fun ⟨d,h⟩=>Qy (·.2) (Qn h)⟩
  rw [td];constructor
  ·rintro ⟨d,h⟩;rw [←j.la] at h;cases hf:Zv (Zf n x) ls with
   |none=>rw [hf] at h;cases h
   |some w =>
    rw [hf] at h;have hm:=Wl hf;have hw:w.2=(d,("union" : Str)):=Qn h;refine .inr ⟨_,hm,by rw [hw],?_⟩;show Zf n x=(n,x)∨Zf n x=(x,n);unfold Zf;split<;>simp
  ·rintro (h|⟨q,hq,hu,hx⟩)
   ·cases h
   ·have hl:=j.find hq;obtain ⟨e,he,ht,hs⟩:=ZhF hl
    have e1:Zf n x=q.1:=by
     rcases hx with hx|hx
     ·rw [show Zf n x=Zf q.1.1 q.1.2 by rw [hx],hs,Vd]
     ·rw [Zcd,show Zf x n=Zf q.1.1 q.1.2 by rw [hx],hs,Vd]
    rw [e1,hl];exact ⟨q.2.2.1,by rw [←hu]⟩
 ·exact tst (.inl h)
 ·exact tst (.inr h)
theorem Jn.clo (j:Jn pool B es ls F) (l:pool.length≤60):Clo B pool:=⟨fun s hs n kn x hx=>j.mem_in ((j.step hs kn x).mp hx),fun n h=>j.inp h,l⟩
theorem Jn.inPool {ed:Ed} (j:Jn pool B es ls (lk ed)) (kn:(ed.map (·.1)).Nodup):∀q∈ed,∀x∈q.2.2,x∈pool:=fun q hq x hx=>j.inp (j.mem_in (c:=q.1) (by show x∈lk ed q.1;rw [WX kn hq];exact hx))
theorem Jn.same (j:Jn pool B es ls F) {way:List Str} {n:Str} (kn:Known B n) (h9:∀s∈way,s∈ZU) (x:Str):Z9 (Z5 B) way (·=n) x↔Z9 (fun s n=>F (s,n)) way (·=n) x :=
 ZbR (R:=Known B) (fun s hs y hy x=>j.step hs hy x) (fun s hs y hy x hx=>j.mem_in ((j.step hs hy x).mp hx)) h9 (fun x e=>by rw [e];exact kn) x
end
def ZaO (K:W.Frag) (tb:Addr):Sp:=fun vs H Q E=>∃(l:Addr) (ns:List Int),vs=[.ref l]∧SqL K H l (ns.map V.int)∧ns.length≤63∧X3 tb H∧∀H',X3 tb H'->Q (.bl true) H'
theorem D5.wide {ns pool:List Str} {e:Ent} (h:D5 ns e) (s:∀n∈ns,n∈pool):D5 pool e:=⟨h.1,fun n hn=>s n (h.2.1 n hn),fun n hn=>s n (h.2.2 n hn)⟩
theorem GdL.wide {ns pool:List Str} {es:List Ent} (h:GdL ns es) (s:∀n∈ns,n∈pool):GdL pool es:=by
 induction h with
 |nil=>exact .nil
 |snoc h d d' f ih=>exact .snoc ih (d.wide s) (d'.wide s) f
noncomputable def Zdw (p:Ent×Addr):Option V:=p.1.bornName.map V.str
theorem ZgC:∀ks:List (Ent×Addr),(ks.map Zdw).filterMap id=((ks.map (·.1)).filterMap Ent.bornName).map V.str
 |[]=>rfl
 |p::ks=>by
  have ih:=ZgC ks;rw [Qp,QT,Qp,QT];unfold Zdw at ih ⊢;cases h:p.1.bornName with
  |none=>simp only [Option.map_none,id];exact ih
  |some n=>simp only [Np,id,Qp];rw [ih]
theorem ZlK {es:List Ent} {n:Str} (h:n∈es.filterMap Ent.bornName):∃s d f m,Ent.born n s d f m∈es:=by
 obtain ⟨e,he,hn⟩:=Rs.mp h;cases e with
 |born n' s d f m=>cases hn;exact ⟨s,d,f,m,he⟩
 |_=>cases hn
abbrev Jz:=List (Addr×List (Str×V))
structure LyS (L:Str->Str->List Str) (one:Str) (way:List Str) (ls:Jz):Prop where
 len:ls.length=way.length+1
 hd:∃d,ls[0]?=some (d,[(one,.str one)])
 st:∀(j:Nat) (e e':Addr×List (Str×V)) (s:Str),ls[j]?=some e->ls[j+1]?=some e'->way[j]?=some s->∀q∈e'.2,∃y,q.2=.str y∧y∈e.2.map (·.1)∧q.1∈L s y
theorem LyS.snoc {L:Str->Str->List Str} {one s:Str} {way:List Str} {ls:Jz} {d c:Addr} {ks cs:List (Str×V)} (h:LyS L one way ls) (hl:ls[way.length]?=some (d,ks)) (hc:∀q∈cs,∃y,q.2=.str y∧y∈ks.map (·.1)∧q.1∈L s y):LyS L one (way++[s]) (ls++[(c,cs)]):=by
 refine ⟨by rw [Qu,Qu,h.len];rfl,?_,fun j e e' s' h1 h2 h3=>?_⟩
 ·obtain ⟨d0,h0⟩:=h.hd;exact ⟨d0,by rw [RS (by rw [h.len];omega)];exact h0⟩
 ·by_cases lt:j<way.length
  ·rw [RS (by rw [h.len];omega)] at h1 h2;rw [RS lt] at h3;exact h.st j e e' s' h1 h2 h3
  ·have jl:=(QI.mp h3).1;rw [Qu] at jl;have ej:j=way.length:=by have:j<way.length+1:=jl;omega
   subst ej;rw [RS (by rw [h.len];omega),hl] at h1;rw [Ry (by rw [h.len];omega),h.len,R7] at h2;rw [Ry (Qf _),R7] at h3;cases h1;cases h2;cases h3;exact hc
structure Wkd (L:Str->Str->List Str) (way:List Str) (one:Str) (W:List Str) (other:Str):Prop where
 len:W.length=way.length+1
 hd:W[0]?=some one
 tl:W[way.length]?=some other
 st:∀(j:Nat) (s a b:Str),way[j]?=some s->W[j]?=some a->W[j+1]?=some b->b∈L s a
theorem Wkd.nil (L:Str->Str->List Str) (a:Str):Wkd L [] a [a] a:=⟨rfl,rfl,rfl,fun j s a b h=>by cases h⟩
theorem Wkd.cons {L:Str->Str->List Str} {s a b z:Str} {way W:List Str} (h:Wkd L way b W z) (m:b∈L s a):Wkd L (s::way) a (a::W) z:=by
 refine ⟨by rw [QK,QK,h.len],rfl,h.tl,fun j s' a' b' h1 h2 h3=>?_⟩;cases j with
 |zero =>
  cases h1;cases h2;have h3':W[0]?=some b':=h3;rw [h.hd] at h3';cases h3';exact m
 |succ j=>exact h.st j s' a' b' h1 h2 h3
theorem Wkd.congr {L L':Str->Str->List Str} {R:Str->Prop} {way W:List Str} {a z:Str} (h:Wkd L way a W z) (h9:∀s∈way,s∈ZU) (e:∀s∈ZU,∀y,R y->∀x,x∈L s y↔x∈L' s y) (cl:∀s∈ZU,∀y,R y->∀x∈L s y,R x) (ra:R a):Wkd L' way a W z:=by
 have all:∀(j:Nat) (y:Str),W[j]?=some y->R y:=fun j=>by
  induction j with
  |zero=>intro y hy;rw [h.hd] at hy;cases hy;exact ra
  |succ j ih =>
   intro y hy;have jl:=(QI.mp hy).1;have l:=h.len;have w1:way[j]?=some way[j]:=Qx (by omega);have w2:W[j]?=some W[j]:=Qx (by omega);exact cl _ (h9 _ (QD w1)) _ (ih _ w2) _ (h.st j _ _ _ w1 w2 hy)
 exact ⟨h.len,h.hd,h.tl,fun j s x y h1 h2 h3=>(e s (h9 s (QD h1)) x (all j x h2) y).mp (h.st j s x y h1 h2 h3)⟩
noncomputable def YU (s:Str):Str:=if s∈(["F","M","T"]:List Str) then Txt.lower s else if s∈(["f","m","t"]:List Str) then Txt.upper s else s
noncomputable def Xh (way:List Str):List Str:=way.reverse.map YU
theorem ZiY {s:Str} (h:s∈ZU):YU s∈ZU:=by
 revert s;decide +kernel
theorem ZhJ {way:List Str} (h:∀s∈way,s∈ZU):∀s∈Xh way,s∈ZU:=fun s hs=>by
 obtain ⟨t,ht,rfl⟩:=Qk.mp hs;exact ZiY (h t (List.mem_reverse.mp ht))
theorem ZiP (way:List Str):(Xh way).length=way.length:=by unfold Xh;simp
theorem Zam (L:Str->Str->List Str):∀(w:List Str) (P:Str->Prop) (x:Str),Z9 L w P x↔∃y,P y∧Z9 L w (·=y) x
 |[],P,x=>⟨fun h=>⟨x,h,rfl⟩,fun ⟨y,h,e⟩=>by cases e;exact h⟩
 |s::w,P,x=>by
  show Z9 L w _ x↔∃y,P y∧Z9 L w _ x;rw [Zam L w];constructor
  ·rintro ⟨y,⟨z,hz,m⟩,r⟩;exact ⟨z,hz,(Zam L w _ x).mpr ⟨y,⟨z,rfl,m⟩,r⟩⟩
  ·rintro ⟨z,hz,r⟩;obtain ⟨y,⟨z',e,m⟩,r'⟩:=(Zam L w _ x).mp r;exact ⟨y,⟨z,hz,by rw [←e];exact m⟩,r'⟩
theorem Zb4 {L:Str->Str->List Str} (iv:∀s∈ZU,∀a b,b∈L s a↔a∈L (YU s) b):∀{w:List Str} {a z:Str},(∀s∈w,s∈ZU)->(Z9 L w (·=a) z↔Z9 L (Xh w) (·=z) a)
 |[],a,z,_=>⟨fun h=>h.symm,fun h=>h.symm⟩
 |s::w,a,z,h=>by
  have e:Xh (s::w)=Xh w++[YU s]:=by unfold Xh;simp
  rw [e,ZaK];show Z9 L w _ z↔∃y,Z9 L (Xh w) (·=z) y∧a∈L (YU s) y;rw [Zam];have h':∀s∈w,s∈ZU:=fun t ht=>h t (QF _ ht);constructor
  ·rintro ⟨y,⟨a',rfl,m⟩,r⟩;exact ⟨y,(Zb4 iv h').mp r,(iv s (h s (QC ..)) _ _).mp m⟩
  ·rintro ⟨y,r,m⟩;exact ⟨y,⟨a,rfl,(iv s (h s (QC ..)) _ _).mpr m⟩,(Zb4 iv h').mpr r⟩
theorem Zgg (l:List (Str×V)) (c:Str):ZM (YM l) (.inr c:Zi)=Zv c l:=by
 have:=V6 (f:=fun s:Str=>(.inr s:Zi)) (fun a b h=>by injection h) (fun v:V=>v) c l;rw [show (Zv c l).map (fun v=>v)=Zv c l by cases Zv c l<;>rfl] at this;exact this
theorem Zg3 {l:List (Str×V)} {c:Str} (h:c∈l.map (·.1)):∃v,Zv c l=some v:=by
 induction l with
 |nil=>cases h
 |cons p l ih =>
  unfold Zv;by_cases e:p.1=c
  ·exact ⟨_,Qc e⟩
  ·rw [Qa e];rcases Qh.mp h with z|z
   ·exact absurd z.symm e
   ·exact ih z
theorem LyS.back {L:Str->Str->List Str} {one a:Str} {way:List Str} {ls:Jz} (h:LyS L one way ls) {i:Nat} (hi:i<way.length) {e:Addr×List (Str×V)} (he:ls[way.length-i]?=some e) {v:V} (hv:(a,v)∈e.2) :
  ∃y e0 s,v=.str y∧ls[way.length-(i+1)]?=some e0∧y∈e0.2.map (·.1)∧way.drop (way.length-(i+1))=s::way.drop (way.length-i)∧a∈L s y:=by
 have l:=h.len;have e1:way.length-(i+1)+1=way.length-i:=by omega
 have w1:way[way.length-(i+1)]?=some way[way.length-(i+1)]:=Qx (by omega);have w2:ls[way.length-(i+1)]?=some ls[way.length-(i+1)]:=Qx (by omega);obtain ⟨y,hy,hk,hm⟩:=h.st _ _ e _ w2 (by rw [e1];exact he) w1 (a,v) hv;refine ⟨y,_,_,hy,w2,hk,?_,hm⟩;rw [List.drop_eq_getElem_cons (by omega),e1]
theorem ZfE {s:Str} (h:s∈ZU):s.length≤1000:=by
 revert s;decide +kernel
theorem ZoO {W:List Str} {n:Nat} {z:Str} (hl:W.length=n+1) (h:W[n]?=some z):Yl (W.map V.str) (-1)=some (.str z):=by
 cases W with
 |nil=>cases h
 |cons w0 W =>
  have l1:W.length=n:=by rw [QK] at hl;omega
  obtain ⟨y,ya,yb⟩:=Zcq (x:=V.str w0) (xs:=W.map V.str);rw [Qd,l1,show V.str w0::W.map V.str=(w0::W).map V.str from rfl,Qw,h] at yb;rw [Qp,ya,←yb];rfl
theorem Zbf {W:List Str} {n:Nat} {z:Str} (h:W[n]?=some z):Yl (W.map V.str) (n:Int)=some (.str z):=XT (by rw [Qw,h];rfl)
theorem LamH.updL {P D:Addr} {ln co:Nat} {q:Str} {H:Hp} {o:HO} {xs:List V} (h:LamH P ln co q H) (e:H D=some (.lst xs)):LamH P ln co q (Zb H D o):=by
 obtain ⟨oc,h1,h2⟩:=h;have ne:∀{c:Addr} {φ:Heap->Prop},H c=some (.ext φ)->c≠D:=fun h z=>by rw [z,e] at h;cases h
 exact ⟨oc,by rw [Zd (ne h1)];exact h1,fun c' z=>by rw [Zd (ne (h2 c' z))];exact h2 c' z⟩
theorem SameX.updL {H H':Hp} {D:Addr} {o:HO} (s:SameX H H') (n:∀u,noX u=true->H D≠some u):SameX H (Zb H' D o):=fun b u x e=>by
 rw [Zd (fun z=>n u x (by rw [←z];exact e))];exact s b u x e
theorem SameX.non {H H':Hp} {D:Addr} (s:SameX H H') (n:H' D=none):∀u,noX u=true->H D≠some u:=fun u x e=>by
 have:=s _ _ x e;rw [n] at this;cases this
theorem Zaq {B:Bk} {ed:Ed} {way:List Str} {a z:Str} {pool:List Str} (cl:Clo B pool) (agr:∀s∈ZU,∀n,Known B n->∀x,x∈Z5 B s n↔x∈lk ed (s,n)) (h9:∀s∈way,s∈ZU) (ka:Known B a):Z9 (Z5 B) way (·=a) z↔Z9 (fun s n=>lk ed (s,n)) way (·=a) z :=
 ZbR (R:=Known B) (fun s hs y hy x=>agr s hs y hy x) cl.led h9 (fun x e=>by rw [e];exact ka) z
theorem BkHas.monoX {K:W.Frag} {C:Addr} {H H':Hp} {v:V} {B:Bk} (h:BkHas K C H v B) (s:SameX H H'):BkHas K C H' v B:=by
 obtain ⟨b,dx,k,bi,li,ti,su,e,h⟩:=h;exact ⟨b,dx,k,bi,li,ti,su,e,h.monoX s⟩
section
variable {pool:List Str} {B:Bk} {es:List Ent} {ls:Xo} {F:ZE}
theorem Jn.inv (j:Jn pool B es ls F) {s:Str} (hs:s∈ZU) (a b:Str):b∈F (s,a)↔a∈F (YU s,b):=by
 have so:=Zhl j.gd;have ne:=fun {l:Str} (hl:l∈Xn)=>ZfL so hl
 have Zo:∀{l l':Str} {ad ad':Str->Ent->List Str},¬l="S"->¬l'="S"->(∀n,∀e∈es,∀f:ZE,Yo f e (l,n)=f (l,n)++ad n e)->(∀n,∀e∈es,∀f:ZE,Yo f e (l',n)=f (l',n)++ad' n e)->(∀a b e,b∈ad a e↔a∈ad' b e)->∀a b,b∈F (l,a)↔a∈F (l',b):=fun {l l' ad ad'} nS nS' h1 h2 sw a b=>by
  rw [j.lke,j.lke,VD nS,VD nS',UQ (h1 a),UQ (h2 b),List.mem_flatMap,List.mem_flatMap];exact ⟨fun ⟨e,he,h⟩=>⟨e,he,(sw a b e).mp h⟩,fun ⟨e,he,h⟩=>⟨e,he,(sw a b e).mpr h⟩⟩
 have iF:∀a b e,b∈WA a e↔a∈WU b e:=fun a b e=>by cases e<;>simp [WA,WU]<;>grind
 have iM:∀a b e,b∈Wy a e↔a∈WO b e:=fun a b e=>by cases e<;>simp [Wy,WO]<;>grind
 have iT:∀a b e,b∈WL a e↔a∈WY b e:=fun a b e=>by cases e<;>simp [WL,WY]<;>grind
 have uF:=fun n (e:Ent) (he:e∈es) (f:ZE)=>Zf8 f e n (ne (by decide +kernel) e he);have uM:=fun n (e:Ent) (he:e∈es) (f:ZE)=>ZeC f e n (ne (by decide +kernel) e he);have uT:=fun n (e:Ent) (he:e∈es) (f:ZE)=>Ze3 f e n (ne (by decide +kernel) e he);have lf:=fun n (e:Ent) (he:e∈es) (f:ZE)=>ZfM f e n (ne (by decide +kernel) e he);have lm:=fun n (e:Ent) (he:e∈es) (f:ZE)=>Zfn f e n (ne (by decide +kernel) e he);have lt:=fun n (e:Ent) (he:e∈es) (f:ZE)=>Zfr f e n (ne (by decide +kernel) e he)
 have tst:∀{s:Str},s="he"∨s="she"->(b∈F (s,a)↔a∈F (s,b)):=fun {s} h=>by
  have nS:¬s="S":=by rcases h with rfl|rfl<;>decide +kernel
  rw [j.lke,j.lke,VD nS,VD nS,ZbG h,ZbG h];exact ⟨fun ⟨e,r⟩=>⟨e.symm,e▸r⟩,fun ⟨e,r⟩=>⟨e.symm,e▸r⟩⟩
 simp only [ZU,Qh,QN,QO] at hs;rcases hs with rfl|rfl|rfl|rfl|rfl|rfl|rfl|rfl|rfl
 ·rw [show YU "F"="f" by decide +kernel];exact Zo (by decide +kernel) (by decide +kernel) uF lf iF a b
 ·rw [show YU "M"="m" by decide +kernel];exact Zo (by decide +kernel) (by decide +kernel) uM lm iM a b
 ·rw [show YU "T"="t" by decide +kernel];exact Zo (by decide +kernel) (by decide +kernel) uT lt iT a b
 ·rw [show YU "f"="F" by decide +kernel];exact Zo (by decide +kernel) (by decide +kernel) lf uF (fun a b e=>(iF b a e).symm) a b
 ·rw [show YU "m"="M" by decide +kernel];exact Zo (by decide +kernel) (by decide +kernel) lm uM (fun a b e=>(iM b a e).symm) a b
 ·rw [show YU "t"="T" by decide +kernel];exact Zo (by decide +kernel) (by decide +kernel) lt uT (fun a b e=>(iT b a e).symm) a b
 ·rw [show YU "S"="S" by decide +kernel,j.lke,j.lke,Zal,Zal,UQ (ad:=fun _=>[]) fun e he f=>ZcB f e a (ne (by decide +kernel) e he),UQ (ad:=fun _=>[]) fun e he f=>ZcB f e b (ne (by decide +kernel) e he)];have z:∀x:Str,x∈es.flatMap (fun _=>([]:List Str))↔False:=fun x=>by simp
  rw [z,z];exact ⟨fun h=>.inr (h.elim False.elim fun ⟨q,h1,h2,h3⟩=>⟨q,h1,h2,h3.symm⟩),fun h=>.inr (h.elim False.elim fun ⟨q,h1,h2,h3⟩=>⟨q,h1,h2,h3.symm⟩)⟩
 ·exact tst (.inl rfl)
 ·exact tst (.inr rfl)
end
theorem Zmz (ys:List V) (lo hi:Option Int):∀y∈YN ys lo hi,y∈ys:=fun y hy=>by
 unfold YN at hy;exact List.mem_of_mem_drop (R9 hy)
section
variable {K:W.Frag} {w:World} {mg:Str->Option Value}
theorem Znv:FnScope ["thing"] ["thing"] (Zx ZbM):=ZQ
def Zih (T:Tx K w mg):Sp:=fun vs H Q E=>vs.length=1∧(∃x t,vs=[x]∧Vw K H x t∧∀H',Same H H'->Q (.bl (Vk.isI t)) H')
theorem Zjy:FnScope ["thing"] ["thing"] (Zx Zdi):=ZQ
def ZhE (T:Tx K w mg):Sp:=fun vs H Q E=>vs.length=1∧(∃x t,vs=[x]∧Vw K H x t∧∀H',Same H H'->Q (.bl (WT t)) H')
theorem Zm4:FnScope ["thing"] ["thing"] (Zx Zdy):=ZQ
def ZeR (T:Tx K w mg):Sp:=fun vs H Q E=>vs.length=1∧(∃x t,vs=[x]∧Vw K H x t∧∀H',Same H H'->Q (.bl (ZdT t)) H')
theorem Zkz:FnScope ["thing"] ["thing"] (Zx Zcg):=ZQ
def Zd6 (T:Tx K w mg):Sp:=fun vs H Q E=>vs.length=1∧(∃x t,vs=[x]∧Vw K H x t∧∀H',Same H H'->Q (.bl (Zcv t)) H')
theorem Zon:FnScope ["thing"] ["thing"] (Zx Zca):=ZQ
def ZeO (T:Tx K w mg):Sp:=fun vs H Q E=>vs.length=1∧(∃x t,vs=[x]∧Vw K H x t∧∀H',Same H H'->Q (.bl (Vu t)) H')
theorem ZhT:FnScope ["thing"] ["thing"] (Zx ZdI):=ZQ
def Zgk (T:Tx K w mg):Sp:=fun vs H Q E=>vs.length=1∧(∃x t,vs=[x]∧Vw K H x t∧∀H',Same H H'->Q (.bl (UW t)) H')
theorem Zis:FnScope ["parts","checks"] ["parts","checks"] (Zx ZbV):=ZQ
def ZjH (T:Tx K w mg):Sp:=fun vs H Q E=>vs.length=2∧(∃a b xs ts cs,vs=[.ref a,.ref b]∧SqT K H a xs∧Vws K H xs ts∧SqT K H b (cs.map fun c=>.ref (T.ad c))∧cs.length≤10∧∀H',Same H H'->Q (.bl (Xw cs ts)) H')
theorem ZdE:FnScope ["thing","word","checks"] ["thing"] (Zx ZcR):=ZQ
def Zna (T:Tx K w mg):Sp:=fun vs H Q E=>vs.length=1∧(∃x,vs=[x]∧((∃t,Vw K H x t∧t.isT=false∧∀H',Same H H'->Q (.bl false) H')∨∃ts,Tv K H x ts∧ts.length≤10∧∀H',Same H H'->Q (.bl (Vl ts)) H'))
theorem Zjl:FnScope ["entry"] ["entry"] (Zx Zcp):=ZQ
def Zmr (T:Tx K w mg):Sp:=fun vs H Q E=>vs.length=1∧(∃v e,vs=[v]∧EntAt K H v e∧∀H',Same H H'->Q (.bl e.tie) H')
theorem Zkc:FnScope ["entry"] ["entry"] (Zx ZdL):=ZQ
def Zje (T:Tx K w mg):Sp:=fun vs H Q E=>vs.length=1∧(∃v e,vs=[v]∧EntAt K H v e∧∀H' D,Same H H'->H D=none->SqL K H' D (e.named.map V.str)->Q (.ref D) H')
theorem Zk7:FnScope ["entry"] ["entry"] (Zx Zcu):=ZQ
def ZoU (T:Tx K w mg):Sp:=fun vs H Q E=>vs.length=1∧(∃v e,vs=[v]∧EntAt K H v e∧Q (.int e.day) H)
theorem Zfd:FnScope ["entry","names"] ["entry"] (Zx Zc5):=ZQ
def Zjc (T:Tx K w mg):Sp:=fun vs H Q E=>vs.length=1∧(∃v e,vs=[v]∧EntAt K H v e∧∀H' u,Same H H'->EntAt K H' u e.told->Q u H')
theorem ZjV:FnScope ["entry"] ["entry"] (Zx Zbw):=ZQ
def ZkT (T:Tx K w mg):Sp:=fun vs H Q E=>vs.length=1∧(∃v e,vs=[v]∧EntAt K H v e∧∀H' p,Same H H'->H p=none->H' p=some (.tup (e.told.key.map kV))->Q (.ref p) H')
theorem Zo2:FnScope ["thing"] ["thing"] (Zx Zc3):=ZQ
def Zii (T:Tx K w mg):Sp:=fun vs H Q E=>vs.length=1∧(∃x,vs=[x]∧((∃ty,Kd K H x ty∧W.kitOne K ty (.type "str")=some false∧Q (.bl false) H)∨∃l,x=.str l∧Q (.bl (V2 l)) H))
theorem ZiT:FnScope ["one","other"] ["one","other"] (Zx Zc7):=ZQ
def Zoa (T:Tx K w mg):Sp:=fun vs H Q E=>vs.length=2∧(∃a b,vs=[.str a,.str b]∧∀H' p,Same H H'->H p=none->H' p=some (.tup [.str (Zf a b).1,.str (Zf a b).2])->Q (.ref p) H')
theorem Zo0:FnScope ["self"] ["self"] (Zx ZcT):=ZQ
def Zkq (T:Tx K w mg):Sp:=fun vs H Q E=>vs.length=1∧(∃b dx,vs=[.ref b]∧H b=some (.ins T.c_Book dx [])∧∀H' k bi li ti su,BkAt K T.c_Book H' b dx k bi li ti su Jk->(∀c o,H c=some o->c≠b->H' c=some o)->H k=none->H bi=none->H li=none->H ti=none->H su=none->Q .non H')
theorem Zke:FnScope ["self","name"] ["self","name"] (Zx ZcP):=ZQ
def ZmF (T:Tx K w mg):Sp:=fun vs H Q E=>vs.length=2∧(∃v x B,vs=[v,x]∧BkHas K T.c_Book H v B∧((∃ty,Kd K H x ty∧W.kitOne K ty (.type "str")=some false∧E (.ref T.c_NoPerson) none H)∨∃n,x=.str n∧(Z3 n B.kept=none->E (.ref T.c_NoPerson) none H)∧∀p,Z3 n B.kept=some p->Q (.ref p.2) H))
theorem Znx:FnScope ["self","name"] ["self","name"] (Zx ZbS):=ZQ
def Zjh (T:Tx K w mg):Sp:=fun vs H Q E=>vs.length=2∧(∃v x B,vs=[v,x]∧BkHas K T.c_Book H v B∧((∃ty,Kd K H x ty∧W.kitOne K ty (.type "str")=some false∧E (.ref T.c_NoPerson) none H)∨∃n,x=.str n∧(Z3 n B.kept=none->E (.ref T.c_NoPerson) none H)∧∀p,Z3 n B.kept=some p->∀n' s d f m,p.1=.born n' s d f m->Q (.str s) H))
theorem Zm1:FnScope ["self","name"] ["self","name"] (Zx ZcH):=ZQ
def ZoI (T:Tx K w mg):Sp:=fun vs H Q E=>vs.length=2∧(∃v x B,vs=[v,x]∧BkHas K T.c_Book H v B∧((∃ty,Kd K H x ty∧W.kitOne K ty (.type "str")=some false∧E (.ref T.c_NoPerson) none H)∨∃n,x=.str n∧(Z3 n B.kept=none->E (.ref T.c_NoPerson) none H)∧∀p,Z3 n B.kept=some p->∀n' s d f m,p.1=.born n' s d f m->Q (.int d) H))
theorem ZoN:FnScope ["self","name","sort","day"] ["self","name","sort","day"] (Zx Zdc):=ZQ
def Zov (T:Tx K w mg):Sp:=fun vs H Q E=>vs.length=4∧(∃v n s d B,vs=[v,.str n,.str s,.int d]∧BkHas K T.c_Book H v B∧(n≠""->Known B n)∧Q (.bl (Xx B n s d)) H)
theorem ZgH:FnScope ["self","entry","names"] ["self","entry"] (Zx ZbU):=ZQ
def ZjF (T:Tx K w mg):Sp:=fun vs H Q E=>vs.length=2∧(∃v x B e,vs=[v,x]∧BkHas K T.c_Book H v B∧EntAt K H x e∧(∀n∈e.named,Known B n)∧∀H',Same H H'->Q (.bl (Wa B e)) H')
theorem ZfO:FnScope ["self","entry","name"] ["self","entry"] (Zx Zci):=ZQ
def ZlB (T:Tx K w mg):Sp:=fun vs H Q E=>vs.length=2∧(∃v x B e,vs=[v,x]∧BkHas K T.c_Book H v B∧EntAt K H x e∧e.Ok∧X1 B e=none∧∀H',Same H H'->Q .non H')
theorem ZoF:FnScope ["self","letter","begin","end"] ["self","letter","begin","end"] (Zx ZdK):=ZQ
def Zns (T:Tx K w mg):Sp:=fun vs H Q E=>vs.length=4∧(∃b dx k bi li ti su B l n m,vs=[.ref b,.str l,.str n,.str m]∧BkAt K T.c_Book H b dx k bi li ti su B∧(Yy B l n).length≤61∧B.links.length≤900∧∀H' D,BkAt K T.c_Book H' b dx k bi li ti su { B with links:=Zp B.links (l,n) (D,ZC (Yy B l n++[m])) }->But [li] H H'->H D=none->Q .non H')
theorem Zmo:FnScope ["self","entry"] ["self","entry"] (Zx Zbx):=ZQ
def Zi2 (T:Tx K w mg):Sp:=fun vs H Q E=>vs.length=2∧(∃b dx k bi li ti su B0 B n s d f m a,vs=[.ref b,.ref a]∧B.kept=B0++[(.born n s d f m,a)]∧H b=some (.ins T.c_Book dx (WH k bi li ti su))∧H bi=some (.dK (Bk.bornD B0))∧Z3 n B0=none∧B0.length≤900∧SqT K H a ((Ent.born n s d f m).row.map kV)∧BkAt K T.c_Book (Zb H bi (.dK (Bk.bornD B.kept))) b dx k bi li ti su B∧B.links.length≤890∧(∀c,(lk B.links c).length≤61)∧∀H' ls,BkAt K T.c_Book H' b dx k bi li ti su { B with links:=ls }->(∀c,lk ls c=Xc (lk B.links) n f m c)->ls.length≤B.links.length+4->But [bi,li] H H'->Grows H B.links ls->Q .non H')
theorem ZoD:FnScope ["self","letter","name"] ["self","letter","name"] (Zx ZbL):=ZQ
def ZnE (T:Tx K w mg):Sp:=fun vs H Q E=>vs.length=3∧(∃v x y B,vs=[v,x,y]∧BkHas K T.c_Book H v B∧((∃ty,Kd K H x ty∧W.kitOne K ty (.type "str")=some false∧E (.ref T.c_NoWay) none H)∨∃l,x=.str l∧(V2 l=false->E (.ref T.c_NoWay) none H)∧(V2 l=true->((∃ty,Kd K H y ty∧W.kitOne K ty (.type "str")=some false∧E (.ref T.c_NoPerson) none H)∨∃n,y=.str n∧(Z3 n B.kept=none->E (.ref T.c_NoPerson) none H)∧(Known B n->∀H' D,Same H H'->H D=none->H' D=some (.lst ((Yy B l n).map V.str))->Q (.ref D) H')))))
theorem Zc0:FnScope ["self","one","other","day","ties","days"] ["self","one","other","day"] (Zx Wt):=ZQ
def Zkr (T:Tx K w mg):Sp:=fun vs H Q E=>vs.length=4∧(∃v a c B,vs=[v,.str a,.str c,.non]∧BkHas K T.c_Book H v B∧Known B a∧Known B c∧(Yz B (Zf a c)).length≤900∧∀H',Same H H'->Q (.bl (ZaB B a c)) H')
theorem Zbc:FnScope ["self","entry","days","begin","end"] ["self","entry"] (Zx Zbt):=ZQ
def ZnI (T:Tx K w mg):Sp:=fun vs H Q E=>vs.length=2∧(∃b dx k bi li ti su B a kd p1 p2 d,vs=[.ref b,.ref a]∧SqT K H a [.str kd,.str p1,.str p2,.int d]∧BkAt K T.c_Book H b dx k bi li ti su B∧Known B p1∧Known B p2∧(B.ties.map (·.1)).Nodup∧B.ties.length≤800∧(Yz B (Zf p1 p2)).length≤800∧B.links.length≤880∧(∀c,(lk B.links c).length≤60)∧∀H' ls ts y,BkAt K T.c_Book H' b dx k bi li ti su { B with links:=ls,ties:=ts }->(ts.map (·.1)).Nodup->ts.length≤B.ties.length+1->(∀c,YT ts c=if c=Zf p1 p2 then Zp (Yz B (Zf p1 p2)) d kd else Yz B c)->(∀c,lk ls c=ZL (ZL (lk B.links) (YK (Zp (Yz B (Zf p1 p2)) d kd)) p1 p2) (YK (Zp (Yz B (Zf p1 p2)) d kd)) p2 p1 c)->ls.length≤B.links.length+4->But [li,ti,y] H H'->(H y=none∨y∈B.ties.map (·.2.1))->GrowsT H B.ties ts->Grows H B.links ls->Q .non H')
theorem Zb2:FnScope ["self","entry","told","given"] ["self","entry"] (Zx Zbq):=ZQ
def ZjE (T:Tx K w mg):Sp:=fun vs H Q E=>vs.length=2∧(∃b dx k bi li ti su B x e,vs=[.ref b,x]∧BkAt K T.c_Book H b dx k bi li ti su B∧EntAt K H x e∧e.Ok∧X1 B e=none∧Room1 B∧∀H' B' y,BkAt K T.c_Book H' b dx k bi li ti su B'->Put B e B'->But [k,bi,li,ti,su,y] H H'->(H y=none∨y=bi∨y∈B.ties.map (·.2.1))->Grows H B.links B'.links->GrowsT H B.ties B'.ties->Q .non H')
theorem Zi7:FnScope ["thing"] ["thing"] (Zx Zc4):=ZQ
def Zio (T:Tx K w mg):Sp:=fun vs H Q E=>vs.length=1∧(∃x,vs=[.str x]∧Q (.bl (VW x)) H)
theorem Zh4:FnScope ["book","step","name"] ["book","step","name"] (Zx ZbC):=ZQ
def ZmD (T:Tx K w mg):Sp:=fun vs H Q E=>vs.length=3∧(∃v s n B,vs=[v,.str s,.str n]∧BkHas K T.c_Book H v B∧s∈ZU∧Known B n∧∀H' D',Same H H'->H D'=none->H' D'=some (.lst ((Z5 B s n).map V.str))->Q (.ref D') H')
theorem UC:FnScope ["one","steps","lead","layers","step","came","name","reached"] ["one","steps","lead"] (Zx Zby):=ZQ
def Zh7 (T:Tx K w mg):Sp:=fun vs H Q E=>vs.length=3∧(∃one p f b way B pool,vs=[.str one,.ref p,.ref f]∧Zg2 f b H∧SqT K H p (way.map V.str)∧(∀s∈way,s∈ZU)∧BkHas K T.c_Book H (.ref b) B∧Clo B pool∧Known B one∧way.length≤100∧∀H' D' (ls:Jz) (d:Addr) (ks:List (Str×V)),Same H H'->H D'=none->H' D'=some (.lst (ls.map fun e=>.ref e.1))->(∀e∈ls,H' e.1=some (.dK (YM e.2)))->ls[way.length]?=some (d,ks)->LyS (Z5 B) one way ls->(∀x,x∈ks.map (·.1)↔Z9 (Z5 B) way (·=one) x)->Q (.ref D') H')
theorem Zan:FnScope ["one","other","steps","lead","layers","names","came"] ["one","other","steps","lead"] (Zx ZbP):=ZQ
def Zkp (T:Tx K w mg):Sp:=fun vs H Q E=>vs.length=4∧(∃one other p f b way B pool,vs=[.str one,.str other,.ref p,.ref f]∧Zg2 f b H∧SqT K H p (way.map V.str)∧(∀s∈way,s∈ZU)∧BkHas K T.c_Book H (.ref b) B∧Clo B pool∧Known B one∧way.length≤100∧(¬Z9 (Z5 B) way (·=one) other->∀H',Same H H'->Q .non H')∧(Z9 (Z5 B) way (·=one) other->∀H' D' (W:List Str),Same H H'->H D'=none->H' D'=some (.lst (W.map V.str))->Wkd (Z5 B) way one W other->Q (.ref D') H'))
theorem Zm5:FnScope ["book","way","one","other"] ["book","way","one","other"] (Zx Uk):=ZQ
def ZnY (T:Tx K w mg):Sp:=fun vs H Q E=>vs.length=4∧(∃v p x y way B,vs=[v,.ref p,x,y]∧BkHas K T.c_Book H v B∧X3 T.tb H∧SqT K H p (way.map V.str)∧((Ja K H B x∧E (.ref T.c_NoPerson) none H)∨∃n,x=.str n∧Known B n∧((Ja K H B y∧E (.ref T.c_NoPerson) none H)∨∃m pool,y=.str m∧Known B m∧Clo B pool∧(∀s∈way,s∈ZU)∧way.length≤100∧(¬Z9 (Z5 B) way (·=n) m->∀H',SameX H H'->X3 T.tb H'->Q .non H')∧(Z9 (Z5 B) way (·=n) m->∀H' D' (W:List Str),SameX H H'->X3 T.tb H'->H D'=none->H' D'=some (.lst (W.map V.str))->Wkd (Z5 B) way n W m->Q (.ref D') H'))))
theorem Zoi:FnScope ["_law_script","_law_k"] ["_law_script","_law_k"] (Zx ZcQ):=ZQ
def ZnB (T:Tx K w mg):Sp:=fun vs H Q E=>vs.length=2∧(∃(l:Addr) (ns:List Int) (k:Int),vs=[.ref l,.int k]∧SqL K H l (ns.map V.int)∧0≤k∧∀z,Q (.int z) H)
theorem Wk:FnScope ["_law_cell","_law_letters","_law_size","_law_at","_law_base","_law_names_here","_law_k","_law_name","_law_j"] ["_law_cell"] (Zx Zcx):=ZQ
def ZiA (T:Tx K w mg):Sp:=fun vs H Q E=>vs.length=1∧(∃c:Int,vs=[.int c]∧∀H' D' (ns:List Str),Same H H'->H D'=none->H' D'=some (.lst (ns.map V.str))->N14 ns->Q (.ref D') H')
theorem Zkv:FnScope ["_law_cell","_law_k","_law_way_here"] ["_law_cell","_law_k","_law_way_here"] (Zx Zce):=ZQ
def ZkH (T:Tx K w mg):Sp:=fun vs H Q E=>vs.length=3∧(∃c k w:Int,vs=[.int c,.int k,.int w]∧0≤k∧k≤42∧∀d:Int,-10 ^ 18≤d->d≤10 ^ 18->Q (.int d) H)
theorem WS:FnScope ["_law_people","_law_names_here","_law_cell","_law_day_here","_law_number","_law_older","_law_fathers","_law_mothers","_law_father","_law_mother"] ["_law_people","_law_names_here","_law_cell","_law_day_here"] (Zx Zch):=ZQ
def Zkf (T:Tx K w mg):Sp:=fun vs H Q E=>vs.length=4∧(∃(D ln:Addr) (c d:Int) (ps:List Pp) (ns:List Str),vs=[.ref D,.ref ln,.int c,.int d]∧PpAt K H D ps∧SqL K H ln (ns.map V.str)∧ns.length=24∧ps.length<24∧∀H' a n s f m,Same H H'->H a=none->SqT K H' a ((Ent.born n s d f m).row.map kV)->ns[ps.length]?=some n->(s="he"∨s="she"∨s="")->XI ps "he" d f->XI ps "she" d m->Q (.ref a) H')
theorem Y3:FnScope ["_law_people","_law_known","_law_cell","_law_kind","_law_order","_law_one","_law_other","_law_day_here","_law_ties","_law_tie","_law_key","_law_entry"] ["_law_people","_law_known","_law_cell","_law_kind"] (Zx Zd0):=ZQ
def Zl7 (T:Tx K w mg):Sp:=fun vs H Q E=>vs.length=4∧(∃(D Dk:Addr) (c kd:Int) (ps:List Pp) (kn:List (List Zi)),vs=[.ref D,.ref Dk,.int c,.int kd]∧PpAt K H D ps∧H Dk=some (.dT (XJ kn))∧2≤ps.length∧ps.length≤24∧kn.length≤100∧KnOk ps kn∧(∀p∈ps,-10 ^ 18≤p.2.2.2∧p.2.2.2≤10 ^ 18)∧(∀H',Same H H'->Q .non H')∧∀H' a e,(∀b u,b≠Dk->H b=some u->H' b=some u)->H a=none->SqT K H' a (e.row.map kV)->H' Dk=some (.dT (XJ (kn++[e.told.key])))->e.told.key∉kn->DeedF ps e->Q (.ref a) H')
theorem Wo:FnScope ["_law_script","_law_most","_law_names_here","_law_people","_law_known","_law_entries_here","_law_k","_law_cell","_law_kind","_law_entry"] ["_law_script","_law_most"] (Zx Zc1):=ZQ
def Zj1 (T:Tx K w mg):Sp:=fun vs H Q E=>vs.length=2∧(∃(l:Addr) (ss:List Int),vs=[.ref l,.int 30]∧SqL K H l (ss.map V.int)∧ss.length≤63∧∀H' D' ks ns,Same H H'->H D'=none->H' D'=some (.lst (XH ks))->UJ K H' ks->N14 ns->GdL ns (ks.map (·.1))->ks.length≤30->Q (.ref D') H')
theorem ZnQ:FnScope ["_law_edges_here","_law_letter","_law_low","_law_high"] ["_law_edges_here","_law_letter","_law_low","_law_high"] (Zx ZcS):=ZQ
def Zm2 (T:Tx K w mg):Sp:=fun vs H Q E=>vs.length=4∧(∃(D:Addr) (L lo hi:Str) (ed:Ed) (n:Nat),vs=[.ref D,.str L,.str lo,.str hi]∧EdAt H D ed∧EdB ed n∧n≤500∧(L="F"∨L="M"∨L="T")∧∀H' ed',EdAt H' D ed'->EdB ed' (n+2)->(∀c,lk ed' c=ZZ (ZZ (lk ed) (L,lo) hi) (Zbh L,hi) lo c)->FrE D ed H H' ed'->Q .non H')
theorem WN:FnScope ["_law_entries_here","_law_edges_here","_law_last","_law_entry","_law_letter","_law_parent","_law_pair","_law_row"] ["_law_entries_here"] (Zx ZcW):=ZQ
def Zjb (T:Tx K w mg):Sp:=fun vs H Q E=>vs.length=1∧(∃(Le:Addr) (ks:List (Ent×Addr)) (ns:List Str),vs=[.ref Le]∧SqL K H Le (XH ks)∧UJ K H ks∧GdL ns (ks.map (·.1))∧ks.length≤40∧∀H' D ed ls,Same H H'->H D=none->EdAt H' D ed->EdB ed 500->(ls.map (·.1)).Nodup->(∀c,(Zv c ls).map (·.2)=YD (ks.map (·.1)) c)->(∀c,lk ed c=ls.foldl Xi (Yt (ks.map (·.1))) c)->Q (.ref D) H')
theorem JL:FnScope ["_law_cell","_law_k","_law_number","_law_j"] ["_law_cell","_law_k"] (Zx ZcG):=ZQ
def Zlh (T:Tx K w mg):Sp:=fun vs H Q E=>vs.length=2∧(∃c k:Int,vs=[.int c,.int k]∧0≤k∧k≤1000∧∀z:Int,0≤z->Q (.int z) H)
theorem WQ:FnScope ["_law_script","_law_many","_law_turn","_law_edges_here","_law_name","_law_some","_law_way_here","_law_j","_law_number","_law_there","_law_step"] ["_law_script","_law_many","_law_turn","_law_edges_here","_law_name"] (Zx ZdB):=ZQ
def ZlG (T:Tx K w mg):Sp:=fun vs H Q E=>vs.length=5∧(∃(l:Addr) (ss:List Int) (many turn:Int) (D:Addr) (nm:Str) (ed:Ed),vs=[.ref l,.int many,.int turn,.ref D,.str nm]∧SqL K H l (ss.map V.int)∧0≤many∧many≤12∧0≤turn∧turn≤2∧EdAt H D ed∧EdB ed 500∧∀H' p (way:List Str),Same H H'->H p=none->SqT K H' p (way.map V.str)->(∀s∈way,s∈ZU)->way.length≤12->Q (.ref p) H')
theorem VJ:FnScope ["_law_edges_here","_law_way_here","_law_name","_law_names_here","_law_step","_law_found","_law_one","_law_other"] ["_law_edges_here","_law_way_here","_law_name"] (Zx Zdb):=ZQ
def ZnD (T:Tx K w mg):Sp:=fun vs H Q E=>vs.length=3∧(∃(D p:Addr) (nm:Str) (way:List Str) (ed:Ed) (pool:List Str),vs=[.ref D,.ref p,.str nm]∧EdAt H D ed∧SqT K H p (way.map V.str)∧way.length≤100∧nm∈pool∧(∀q∈ed,∀x∈q.2.2,x∈pool)∧pool.length≤60∧∀H' D' xs,Same H H'->H D'=none->H' D'=some (.lst (xs.map V.str))->SrtOf (Z9 (fun s n=>lk ed (s,n)) way (·=nm)) xs->Q (.ref D') H')
theorem Jv:FnScope ["_law_way_here","_law_back_here","_law_step"] ["_law_way_here"] (Zx ZdV):=ZQ
def Zh1 (T:Tx K w mg):Sp:=fun vs H Q E=>vs.length=1∧(∃(p:Addr) (way:List Str),vs=[.ref p]∧SqT K H p (way.map V.str)∧(∀s∈way,s∈ZU)∧way.length≤100∧∀H' p',Same H H'->H p'=none->SqT K H' p' ((Xh way).map V.str)->Q (.ref p') H')
theorem ZdH:FnScope ["_law_edges_here","_law_way_here","_law_found","_law_one","_law_other","_law_name","_law_k"] ["_law_edges_here","_law_way_here","_law_found","_law_one","_law_other"] (Zx ZcL):=ZQ
def ZjW (T:Tx K w mg):Sp:=fun vs H Q E=>vs.length=5∧(∃(D p lf:Addr) (one other:Str) (ed:Ed) (way W:List Str),vs=[.ref D,.ref p,.ref lf,.str one,.str other]∧EdAt H D ed∧SqT K H p (way.map V.str)∧SqL K H lf (W.map V.str)∧Wkd (fun s n=>lk ed (s,n)) way one W other∧way.length≤100∧∀H',Same H H'->Q (.bl true) H')
theorem UN:FnScope ["_law_book","_law_edges_here","_law_way_here","_law_one","_law_other","_law_back_here","_law_there","_law_here","_law_kept","_law_again"] ["_law_book","_law_edges_here","_law_way_here","_law_one","_law_other"] (Zx Zco):=ZQ
def Zkm (T:Tx K w mg):Sp:=fun vs H Q E=>vs.length=5∧(∃(v:V) (D p:Addr) (one other:Str) (B:Bk) (ed:Ed) (pool way:List Str),vs=[v,.ref D,.ref p,.str one,.str other]∧BkHas K T.c_Book H v B∧X3 T.tb H∧EdAt H D ed∧SqT K H p (way.map V.str)∧(∀s∈way,s∈ZU)∧way.length≤12∧Known B one∧Known B other∧Clo B pool∧(∀s∈ZU,∀n,Known B n->∀x,x∈Z5 B s n↔x∈lk ed (s,n))∧(∀s∈ZU,∀a b,b∈lk ed (s,a)↔a∈lk ed (YU s,b))∧(∀q∈ed,∀x∈q.2.2,x∈pool)∧∀H',SameX H H'->X3 T.tb H'->Q (.bl true) H')
theorem Zaz:FnScope ["_law_book","_law_way_here","_law_one","_law_other","_law_right","e"] ["_law_book","_law_way_here","_law_one","_law_other"] (Zx ZbQ):=ZQ
def ZkA (T:Tx K w mg):Sp:=fun vs H Q E=>vs.length=4∧(∃(v:V) (p:Addr) (x y:V) (way:List Str) (B:Bk),vs=[v,.ref p,x,y]∧BkHas K T.c_Book H v B∧X3 T.tb H∧SqT K H p (way.map V.str)∧(Ja K H B x∨∃n,x=.str n∧Known B n∧Ja K H B y)∧∀H',Same H H'->Q (.bl true) H')
theorem XA:FnScope ["_law_script","_law_entries_here","_law_edges_here","_law_people","_law_book","_law_entry","_law_j","_law_cell","_law_one","_law_way_here","_law_some","_law_other","_law_by"] ["_law_script"] (Zx Zcj):=ZQ
def Zgx (T:Tx K w mg):Sp:=fun vs H Q E=>vs.length=1∧(∃(l:Addr) (ss:List Int),vs=[.ref l]∧SqL K H l (ss.map V.int)∧ss.length≤63∧X3 T.tb H∧∀H',X3 T.tb H'->Q (.bl true) H')
abbrev ZbT (P:Program) (base:Heap) (T:Tx K w mg):Prop:=FnOk P w K mg base (ZD P w) 1 T.Zbm.a (ZG K T.Zbm.a) ["thing"] (Zih T)
abbrev ZdR (P:Program) (base:Heap) (T:Tx K w mg):Prop:=FnOk P w K mg base (ZD P w) 1 T.YW.a (ZG K T.YW.a) ["thing"] (ZhE T)
abbrev Zd8 (P:Program) (base:Heap) (T:Tx K w mg):Prop:=FnOk P w K mg base (ZD P w) 2 T.Xm.a (ZG K T.Xm.a) ["thing"] (ZeR T)
abbrev ZhH (P:Program) (base:Heap) (T:Tx K w mg):Prop:=FnOk P w K mg base (ZD P w) 2 T.Wf.a (ZG K T.Wf.a) ["thing"] (Zd6 T)
abbrev ZeX (P:Program) (base:Heap) (T:Tx K w mg):Prop:=FnOk P w K mg base (ZD P w) 1 T.Ww.a (ZG K T.Ww.a) ["thing"] (ZeO T)
abbrev Zef (P:Program) (base:Heap) (T:Tx K w mg):Prop:=FnOk P w K mg base (ZD P w) 2 T.Wc.a (ZG K T.Wc.a) ["thing"] (Zgk T)
abbrev Zhb (P:Program) (base:Heap) (T:Tx K w mg):Prop:=FnOk P w K mg base (ZD P w) 3 T.ZaA.a (ZG K T.ZaA.a) ["parts","checks"] (ZjH T)
abbrev ZeQ (P:Program) (base:Heap) (T:Tx K w mg):Prop:=FnOk P w K mg base (ZD P w) 4 T.JZ.a (ZG K T.JZ.a) ["thing"] (Zna T)
abbrev ZdO (P:Program) (base:Heap) (T:Tx K w mg):Prop:=FnOk P w K mg base (ZD P w) 1 T.Zah.a (ZG K T.Zah.a) ["entry"] (Zmr T)
abbrev ZcN (P:Program) (base:Heap) (T:Tx K w mg):Prop:=FnOk P w K mg base (ZD P w) 1 T.Zag.a (ZG K T.Zag.a) ["entry"] (Zje T)
abbrev Zhv (P:Program) (base:Heap) (T:Tx K w mg):Prop:=FnOk P w K mg base (ZD P w) 1 T.Za3.a (ZG K T.Za3.a) ["entry"] (ZoU T)
abbrev Zcb (P:Program) (base:Heap) (T:Tx K w mg):Prop:=FnOk P w K mg base (ZD P w) 2 T.J0.a (ZG K T.J0.a) ["entry"] (Zjc T)
abbrev Zdl (P:Program) (base:Heap) (T:Tx K w mg):Prop:=FnOk P w K mg base (ZD P w) 3 T.Zaa.a (ZG K T.Zaa.a) ["entry"] (ZkT T)
abbrev ZfZ (P:Program) (base:Heap) (T:Tx K w mg):Prop:=FnOk P w K mg base (ZD P w) 1 T.J9.a (ZG K T.J9.a) ["thing"] (Zii T)
abbrev ZcZ (P:Program) (base:Heap) (T:Tx K w mg):Prop:=FnOk P w K mg base (ZD P w) 1 T.ZaR.a (ZG K T.ZaR.a) ["one","other"] (Zoa T)
abbrev Zhn (P:Program) (base:Heap) (T:Tx K w mg):Prop:=FnOk P w K mg base (ZD P w) 1 T.Uq.a (ZG K T.Uq.a) ["self"] (Zkq T)
abbrev UH (P:Program) (base:Heap) (T:Tx K w mg):Prop:=FnOk P w K mg base (ZD P w) 1 T.Y8.a (ZG K T.Y8.a) ["self","name"] (ZmF T)
abbrev ZbA (P:Program) (base:Heap) (T:Tx K w mg):Prop:=FnOk P w K mg base (ZD P w) 2 T.Vf.a (ZG K T.Vf.a) ["self","name"] (Zjh T)
abbrev Za1 (P:Program) (base:Heap) (T:Tx K w mg):Prop:=FnOk P w K mg base (ZD P w) 2 T.Y9.a (ZG K T.Y9.a) ["self","name"] (ZoI T)
abbrev Zgy (P:Program) (base:Heap) (T:Tx K w mg):Prop:=FnOk P w K mg base (ZD P w) 3 T.W8.a (ZG K T.W8.a) ["self","name","sort","day"] (Zov T)
abbrev Zfl (P:Program) (base:Heap) (T:Tx K w mg):Prop:=FnOk P w K mg base (ZD P w) 4 T.UF.a (ZG K T.UF.a) ["self","entry"] (ZjF T)
abbrev Zd2 (P:Program) (base:Heap) (T:Tx K w mg):Prop:=FnOk P w K mg base (ZD P w) 5 T.Uy.a (ZG K T.Uy.a) ["self","entry"] (ZlB T)
abbrev ZaS (P:Program) (base:Heap) (T:Tx K w mg):Prop:=FnOk P w K mg base (ZD P w) 1 T.Y0.a (ZG K T.Y0.a) ["self","letter","begin","end"] (Zns T)
abbrev ZeS (P:Program) (base:Heap) (T:Tx K w mg):Prop:=FnOk P w K mg base (ZD P w) 2 T.V9.a (ZG K T.V9.a) ["self","entry"] (Zi2 T)
abbrev ZbY (P:Program) (base:Heap) (T:Tx K w mg):Prop:=FnOk P w K mg base (ZD P w) 2 T.W7.a (ZG K T.W7.a) ["self","letter","name"] (ZnE T)
abbrev ZfJ (P:Program) (base:Heap) (T:Tx K w mg):Prop:=FnOk P w K mg base (ZD P w) 2 T.a_Book_stands T.fd_Book_stands ["self","one","other","day"] (Zkr T)
abbrev ZhC (P:Program) (base:Heap) (T:Tx K w mg):Prop:=FnOk P w K mg base (ZD P w) 3 T.UD.a (ZG K T.UD.a) ["self","entry"] (ZnI T)
abbrev Zga (P:Program) (base:Heap) (T:Tx K w mg):Prop:=FnOk P w K mg base (ZD P w) 6 T.UG.a (ZG K T.UG.a) ["self","entry"] (ZjE T)
abbrev ZfW (P:Program) (base:Heap) (T:Tx K w mg):Prop:=FnOk P w K mg base (ZD P w) 1 T.ZaE.a (ZG K T.ZaE.a) ["thing"] (Zio T)
abbrev Zde (P:Program) (base:Heap) (T:Tx K w mg):Prop:=FnOk P w K mg base (ZD P w) 3 T.VA.a (ZG K T.VA.a) ["book","step","name"] (ZmD T)
abbrev ZhA (P:Program) (base:Heap) (T:Tx K w mg):Prop:=FnOk P w K mg base (ZD P w) 5 T.Za4.a (ZG K T.Za4.a) ["one","steps","lead"] (Zh7 T)
abbrev Zfc (P:Program) (base:Heap) (T:Tx K w mg):Prop:=FnOk P w K mg base (ZD P w) 6 T.VC.a (ZG K T.VC.a) ["one","other","steps","lead"] (Zkp T)
abbrev Zdh (P:Program) (base:Heap) (T:Tx K w mg):Prop:=FnOk P w K mg base (ZD P w) 7 T.U1.a (ZG K T.U1.a) ["book","way","one","other"] (ZnY T)
abbrev J4 (P:Program) (base:Heap) (T:Tx K w mg):Prop:=FnOk P w K mg base (ZD P w) 1 T.J3.a (ZG K T.J3.a) ["_law_script","_law_k"] (ZnB T)
abbrev ZhG (P:Program) (base:Heap) (T:Tx K w mg):Prop:=FnOk P w K mg base (ZD P w) 1 T.ZaM.a (ZG K T.ZaM.a) ["_law_cell"] (ZiA T)
abbrev ZeI (P:Program) (base:Heap) (T:Tx K w mg):Prop:=FnOk P w K mg base (ZD P w) 1 T.Zbb.a (ZG K T.Zbb.a) ["_law_cell","_law_k","_law_way_here"] (ZkH T)
abbrev Zfu (P:Program) (base:Heap) (T:Tx K w mg):Prop:=FnOk P w K mg base (ZD P w) 1 T.Zax.a (ZG K T.Zax.a) ["_law_people","_law_names_here","_law_cell","_law_day_here"] (Zkf T)
abbrev ZgJ (P:Program) (base:Heap) (T:Tx K w mg):Prop:=FnOk P w K mg base (ZD P w) 1 T.Za6.a (ZG K T.Za6.a) ["_law_people","_law_known","_law_cell","_law_kind"] (Zl7 T)
abbrev Zhu (P:Program) (base:Heap) (T:Tx K w mg):Prop:=FnOk P w K mg base (ZD P w) 2 T.ZaF.a (ZG K T.ZaF.a) ["_law_script","_law_most"] (Zj1 T)
abbrev ZeW (P:Program) (base:Heap) (T:Tx K w mg):Prop:=FnOk P w K mg base (ZD P w) 1 T.Zba.a (ZG K T.Zba.a) ["_law_edges_here","_law_letter","_law_low","_law_high"] (Zm2 T)
abbrev ZfT (P:Program) (base:Heap) (T:Tx K w mg):Prop:=FnOk P w K mg base (ZD P w) 2 T.Zau.a (ZG K T.Zau.a) ["_law_entries_here"] (Zjb T)
abbrev ZgS (P:Program) (base:Heap) (T:Tx K w mg):Prop:=FnOk P w K mg base (ZD P w) 1 T.Zai.a (ZG K T.Zai.a) ["_law_cell","_law_k"] (Zlh T)
abbrev ZeF (P:Program) (base:Heap) (T:Tx K w mg):Prop:=FnOk P w K mg base (ZD P w) 2 T.ZaY.a (ZG K T.ZaY.a) ["_law_script","_law_many","_law_turn","_law_edges_here","_law_name"] (ZlG T)
abbrev ZbI (P:Program) (base:Heap) (T:Tx K w mg):Prop:=FnOk P w K mg base (ZD P w) 1 T.ZaD.a (ZG K T.ZaD.a) ["_law_edges_here","_law_way_here","_law_name"] (ZnD T)
abbrev Zf7 (P:Program) (base:Heap) (T:Tx K w mg):Prop:=FnOk P w K mg base (ZD P w) 1 T.Zbn.a (ZG K T.Zbn.a) ["_law_way_here"] (Zh1 T)
abbrev ZeA (P:Program) (base:Heap) (T:Tx K w mg):Prop:=FnOk P w K mg base (ZD P w) 1 T.Zae.a (ZG K T.Zae.a) ["_law_edges_here","_law_way_here","_law_found","_law_one","_law_other"] (ZjW T)
abbrev Zhw (P:Program) (base:Heap) (T:Tx K w mg):Prop:=FnOk P w K mg base (ZD P w) 8 T.Zat.a (ZG K T.Zat.a) ["_law_book","_law_edges_here","_law_way_here","_law_one","_law_other"] (Zkm T)
abbrev Zgu (P:Program) (base:Heap) (T:Tx K w mg):Prop:=FnOk P w K mg base (ZD P w) 8 T.Zaw.a (ZG K T.Zaw.a) ["_law_book","_law_way_here","_law_one","_law_other"] (ZkA T)
abbrev ZgU (P:Program) (base:Heap) (T:Tx K w mg):Prop:=FnOk P w K mg base (ZD P w) 9 T.V0.a (ZG K T.V0.a) ["_law_script"] (Zgx T)
theorem Zkk:(["name"]:List Str).Nodup:=by decide +kernel
theorem ZiX:(["name","entry","self"]:List Str).Nodup:=by decide +kernel
theorem ZkS:(["tied_on","day"]:List Str).Nodup:=by decide +kernel
theorem Zlw:(["name","end"]:List Str).Nodup:=by decide +kernel
theorem Zl8:(["_law_k","_law_cell"]:List Str).Nodup:=by decide +kernel
theorem Zer:(["_law_one","_law_people"]:List Str).Nodup:=by decide +kernel
theorem ZhP:(["_law_one","_law_day_here","_law_people"]:List Str).Nodup:=by decide +kernel
theorem ZjP:(["_law_key"]:List Str).Nodup:=by decide +kernel
theorem Zh5:(["_law_step","_law_edges_here","_law_name"]:List Str).Nodup:=by decide +kernel
theorem ZjI:(["_law_k","_law_people","_law_script","_law_j"]:List Str).Nodup:=by decide +kernel
theorem ZmH:(["_law_entry"]:List Str).Nodup:=by decide +kernel
end
section
variable {K:W.Frag} {mg:Str->Option Value}
def spC (K:W.Frag) (f:Vk->Bool):Sp:=fun vs H Q _=>vs.length=1∧∃x t,vs=[x]∧Vw K H x t∧∀H',Same H H'->Q (.bl (f t)) H'
def Wv (T:Tx K w mg):Addr->Sp->Prop:=fun f sp=>∃c,f=T.ad c∧sp=spC K (VM c)
theorem ZhV {P:Program} {w:World} {base:Heap} {X:Cx} (T:Tx K w mg) (h1:FnOk P w K mg base (ZD P w) 1 T.YW.a (ZG K T.YW.a) ["thing"] (ZhE T)) (h2:FnOk P w K mg base (ZD P w) 1 T.Ww.a (ZG K T.Ww.a) ["thing"] (ZeO T))
  (h3:FnOk P w K mg base (ZD P w) 2 T.Xm.a (ZG K T.Xm.a) ["thing"] (ZeR T)) (h4:FnOk P w K mg base (ZD P w) 2 T.Wf.a (ZG K T.Wf.a) ["thing"] (Zd6 T)) (h5:FnOk P w K mg base (ZD P w) 2 T.Wc.a (ZG K T.Wc.a) ["thing"] (Zgk T))
  (hr:Room 2 X.A) (e1:X.prog=P) (e2:X.w=w) (e3:X.K=K) (e4:X.mg=mg) (e5:X.base=base):Zhm X (ZD P w) (Wv T):=by
 subst e1 e2 e3 e4 e5;rintro f sp ⟨c,rfl,rfl⟩;cases c with
 |name=>exact ⟨1,_,_,h1,hr.mono (by decide),T.YW.F.kp,T.YW.b⟩
 |sort=>exact ⟨1,_,_,h2,hr.mono (by decide),T.Ww.F.kp,T.Ww.b⟩
 |day=>exact ⟨2,_,_,h3,hr,T.Xm.F.kp,T.Xm.b⟩
 |amount=>exact ⟨2,_,_,h4,hr,T.Wf.F.kp,T.Wf.b⟩
 |parent=>exact ⟨2,_,_,h5,hr,T.Wc.F.kp,T.Wc.b⟩
end
section
variable {P:Program} {w:World} {K:W.Frag} {mg:Str->Option Value} {base:Heap}
theorem Znn (T:Tx K w mg)  : ZbT P base T:=by
 refine Fun.okX (k:=0) T.Zbm.F Znv (fun vs H Q E h=>h.1) (fun cdv A outer s H vs Q E hr h=>?_);obtain ⟨-,h⟩:=h;obtain ⟨x,t,rfl,hv,q⟩:=h;refine ⟨_,(Zl (Zy (Xr (Xv K (by rfl) T.n_isinstance (Za (pv 0) (Za (XZ (v:=.ty "int") (by rfl) T.n_int Zdz rfl) Zc))) (Xq (ZnJ (Xv K (by rfl) T.n_isinstance (Za (pv 0) (Za (XZ (v:=.ty "bool") (by rfl) T.n_bool Zmf rfl) Zc)))))))),?_⟩;refine ⟨_,rfl,_,.ty "int",_,_,rfl,rfl,hv.kd,kI T t,_,rfl,?_⟩;cases t with
 |int i=>exact Z2 ⟨_,rfl,_,.ty "bool",_,_,rfl,rfl,hv.kd,T.k_int_bool,_,rfl,q _ (Same.refl H)⟩
 |bl=>exact Z2 ⟨_,rfl,_,.ty "bool",_,_,rfl,rfl,hv.kd,T.k_bool_bool,_,rfl,q _ (Same.refl H)⟩
 |_=>exact Z4 (q _ (Same.refl H))
theorem Zku (T:Tx K w mg)  : ZdR P base T:=by
 refine Fun.okX (k:=0) T.YW.F Zjy (fun vs H Q E h=>h.1) (fun cdv A outer s H vs Q E hr h=>?_);obtain ⟨-,h⟩:=h;obtain ⟨x,t,rfl,hv,q⟩:=h
 refine ⟨_,(Zj (ZI (PW.pt (XB (Xk (YZ (Xv K (by rfl) T.n_isinstance (Za (pv 0) (Za (XZ (v:=.ty "str") (by rfl) T.n_str Vi rfl) Zc))))) (XB (ZA WD (ZN ZgE (by rfl) T.n_len Yd (Za (pv 0) Zc)) Ze (Zu _)) (Wd (ZA Wq (ZN ZgE (by rfl) T.n_len Yd (Za (pv 0) Zc)) Ze (Zu _)))))) (Zl (Zy Y5)) ZK)
   (Zl (Zy (ZN (Zdd rfl) (by rfl) T.n_all Zdf (Za (Uv (N:=["sign"]) (cl:=[]) (σc:=fun _=>[none]) rfl (Zfw (L:=[(".0",.local),("sign",.local),("LETTERS",.globalImplicit)]) (by rfl) (by decide +kernel) (by decide +kernel) (by rfl) (by rfl) (by decide) (by rfl) (by simp)) (ZmG (pv 0)) (fun _ _ _=>(ZW (i:=0) Jo rfl (Or.inl rfl))) (fun _ _ _=>Jb) (fun _ _ _=>(YJ ZkC (pv 0) (VN (v:=.str U8) (by rfl) T.m_LETTERS ⟨_,rfl⟩) (by rfl)))) Zc))))),?_⟩
 refine ⟨_,rfl,_,.ty "str",_,_,rfl,rfl,hv.kd,kS T t,_,rfl,?_⟩;cases t with
 |str z =>
  obtain ⟨e,hz⟩:=hv;subst e;have hs:z.length≤sizeLine:=QY (Zz (by omega));refine Z4 ⟨_,rfl,z,rfl,hs,_,_,rfl,rfl,_,rfl,?_⟩;by_cases h1:((z.length:Nat):Int)<1
  ·rw [Qm h1]
   have e:WT (.str z)=false:=by
    rw [Zdo];rw [Qj (show ¬1≤z.length by omega)];rfl
   rw [e] at q;exact Z2 (q _ (Same.refl H))
  rw [Qj h1];refine Z4 ⟨_,rfl,z,rfl,hs,_,_,rfl,rfl,_,rfl,?_⟩;by_cases h2:(8:Int)<((z.length:Nat):Int)
  ·rw [Qm h2]
   have e:WT (.str z)=false:=by
    rw [Zdo];rw [Qj (show ¬z.length≤8 by omega),Bool.and_false];rfl
   rw [e] at q;exact Z2 (q _ (Same.refl H))
  rw [Qj h2]
  have e:WT (.str z)=(z.cps.toList.map X5).all id:=by
   rw [Zdo];rw [Qm (show 1≤z.length by omega),Qm (show z.length≤8 by omega),G8];rfl
  rw [e] at q;have hl:z.cps.size=z.length:=rfl;refine Z4 ⟨_,rfl,z,rfl,?_⟩;refine Za9 ((z.cps.toList.map X5).map V.bl) (by simp only [Qd,RL];exact Ge (Nat.le_of_eq hl) (Zz (by omega))) (fun σ=>∃o,σ=[o]) ⟨none,rfl⟩ ?_ ?_ ?_ ?_
  ·intro i H2 hi _;show i<z.cps.size;simpa using hi
  ·intro H2 _;show (((z.cps.toList.map X5).map V.bl).length:Nat)=z.cps.size;simp
  ·rintro i σ H2 v H3 y hy ⟨o,rfl⟩ s2 ⟨e3,c,hc,ev⟩ C hC;subst e3 ev
   have ey:y=.bl (X5 c):=by
    have hc':z.cps.toList[i]?=some c:=by simpa using hc
    rw [Qw,Qw,hc'] at hy;exact (Qn hy).symm
   subst ey;exact ⟨_,rfl,_,_,rfl,rfl,hC _ _ ⟨_,rfl⟩ (Same.refl _)⟩
  ·intro D H2 hD s2 hl2;exact ⟨D,_,rfl,hl2,q _ s2⟩
 |_=>exact Z2 (q _ (Same.refl H))
theorem ZiQ (T:Tx K w mg) (US:ZbT P base T):Zd8 P base T:=by
 refine Fun.okX (k:=1) T.Xm.F Zm4 (fun vs H Q E h=>h.1) (fun cdv A outer s H vs Q E hr h=>?_);obtain ⟨-,h⟩:=h;obtain ⟨x,t,rfl,hv,q⟩:=h;refine ⟨_,(Zl (Zy (Xr (ZR US hr ZF (Za (pv 0) Zc)) (Xq (YJ ZdG (ZN Zmu (by rfl) T.n_abs ZkN (Za (pv 0) Zc)) (Zn XV Ze Ze) (Zu _)))))),?_⟩;refine ⟨_,rfl,rfl,x,t,rfl,hv,fun H1 s1=>⟨_,rfl,?_⟩⟩;cases t with
 |int i =>
  cases (show x=.int i from hv);exact Z2 ⟨_,rfl,i,rfl,_,_,rfl,rfl,(show W4 10 18 from ⟨by decide,by decide,by decide +kernel⟩),_,_,rfl,rfl,q _ s1⟩
 |_=>exact Z4 (q _ s1)
theorem Zmx (T:Tx K w mg) (US:ZbT P base T):ZhH P base T:=by
 refine Fun.okX (k:=1) T.Wf.F Zkz (fun vs H Q E h=>h.1) (fun cdv A outer s H vs Q E hr h=>?_);obtain ⟨-,h⟩:=h;obtain ⟨x,t,rfl,hv,q⟩:=h;refine ⟨_,(Zl (Zy (Xr (ZR US hr ZF (Za (pv 0) Zc)) (Xr (YJ Jh (pv 0) Ze (Zu _)) (Xq (YJ ZdG (pv 0) (Zn XV Ze Ze) (Zu _))))))),?_⟩;refine ⟨_,rfl,rfl,x,t,rfl,hv,fun H1 s1=>⟨_,rfl,?_⟩⟩;cases t with
 |int i =>
  cases (show x=.int i from hv);refine Z2 ⟨_,rfl,_,_,rfl,rfl,_,rfl,?_⟩;have q1:=q _ s1;rw [ZlU] at q1;by_cases h1:1≤i
  ·rw [Qm h1] at q1 ⊢;exact Z2 ⟨_,rfl,_,_,rfl,rfl,(show W4 10 18 from ⟨by decide,by decide,by decide +kernel⟩),_,_,rfl,rfl,q1⟩
  ·rw [Qj h1] at q1 ⊢;exact Z4 q1
 |_=>exact Z4 (q _ s1)
theorem ZmB (T:Tx K w mg)  : ZeX P base T:=by
 refine Fun.okX (k:=0) T.Ww.F Zon (fun vs H Q E h=>h.1) (fun cdv A outer s H vs Q E hr h=>?_);obtain ⟨-,h⟩:=h;obtain ⟨x,t,rfl,hv,q⟩:=h;refine ⟨_,(Zl (Zy (Xr (Xv K (by rfl) T.n_isinstance (Za (pv 0) (Za (XZ (v:=.ty "str") (by rfl) T.n_str Vi rfl) Zc))) (Xq (YJ VQ (pv 0) (ZY (Za Zs (Za Zs (Za Zs Zc)))) (by rfl)))))),?_⟩;refine ⟨_,rfl,_,.ty "str",_,_,rfl,rfl,hv.kd,kS T t,_,rfl,?_⟩;cases t with
 |str z =>
  cases (show x=.str z from hv.1);refine Z2 ⟨_,rfl,by decide,fun p hp=>⟨p,_,rfl,.inr (.of Zg),rfl,rfl,?_⟩⟩
  have e:(if false=true then !YV (.str z) [.str "he",.str "she",.str ""] else YV (.str z) [.str "he",.str "she",.str ""])=Vu (.str z):=by
   rw [Qa (by decide)];exact ZjS z
  rw [e];exact q _ (Zk hp)
 |_=>exact Z4 (q _ (Same.refl H))
theorem ZoJ (T:Tx K w mg) (V3:ZdR P base T):Zef P base T:=by
 refine Fun.okX (k:=1) T.Wc.F ZhT (fun vs H Q E h=>h.1) (fun cdv A outer s H vs Q E hr h=>?_);obtain ⟨-,h⟩:=h;obtain ⟨x,t,rfl,hv,q⟩:=h;refine ⟨_,(Zl (Zy (ZfB (ZR V3 hr ZF (Za (pv 0) Zc)) (Xq (Xr (Xv K (by rfl) T.n_isinstance (Za (pv 0) (Za (XZ (v:=.ty "str") (by rfl) T.n_str Vi rfl) Zc))) (Xq (YJ Z1 (pv 0) Zs (Zu _)))))))),?_⟩;refine ⟨_,rfl,rfl,x,t,rfl,hv,fun H1 s1=>⟨_,rfl,?_⟩⟩;have q1:=q _ s1;unfold UW at q1;cases hn:WT t with
 |true =>
  rw [hn] at q1;exact Z2 q1
 |false =>
  rw [hn,Bool.false_or] at q1;refine Z4 ⟨_,rfl,_,.ty "str",_,_,rfl,rfl,(hv.mono s1).kd,kS T t,_,rfl,?_⟩;cases t with
  |str z =>
   cases (show x=.str z from hv.1)
   have e:decide (V.str z=V.str "")=decide (z=""):=by
    rw [Rt];simp
   exact Z2 ⟨_,rfl,rfl,by rw [e];exact q1⟩
  |_=>exact Z4 q1
theorem Zma (T:Tx K w mg) (V3:ZdR P base T) (ZcC:Zd8 P base T) (Zdg:ZhH P base T) (ZbK:ZeX P base T) (Zdp:Zef P base T):Zhb P base T:=by
 refine Fun.okX (k:=2) T.ZaA.F Zis (fun vs H Q E h=>h.1) (fun cdv A outer s H vs Q E hr h=>?_);obtain ⟨-,h⟩:=h;obtain ⟨a,b,xs,ts,cs,rfl,ha,hx,hb,hc,q⟩:=h
 refine ⟨_,(Zj (ZI (ZA WB (ZN Yw (by rfl) T.n_len Yd (Za (pv 0) Zc)) (ZN Yw (by rfl) T.n_len Yd (Za (pv 1) Zc)) (Zu _)) (Zl (Zy Y5)) ZK)
   (Zl (Zy (ZN (Zdd rfl) (by rfl) T.n_all Zdf (Za (Uv (N:=["check","part"]) (cl:=[]) (σc:=fun _=>[none,none]) rfl (Zfw (L:=[(".0",.local),("check",.local),("part",.local)]) (by rfl) (by decide +kernel) (by decide +kernel) (by rfl) (by rfl) (by decide) (by rfl) (by simp)) (ZoV K (by rfl) T.n_zip (Za (pv 1) (Za (pv 0) Zc))) (fun _ _ _=>(Zle (n:=2) K rfl (Wi (ZW (i:=0) nd2 rfl (Or.inl rfl)) (Wi (ZW (i:=1) nd2 rfl (Or.inl rfl)) JI)))) (fun _ _ _=>Jb) (fun _ _ _=>(Zn4 (Wv:=Wv T) (i:=0) (ZhV T V3 ZbK ZcC Zdg Zdp (hr.mono (by decide)) rfl rfl rfl rfl rfl) rfl (Or.inl rfl) ZF (Za (pv 1) Zc)))) Zc))))),?_⟩
 have lx:=hx.length;refine ⟨_,rfl,a,_,rfl,.inr ha,_,rfl,b,_,rfl,.inr hb,rfl,_,rfl,?_⟩
 have e0:(!decide (V.int (xs.length:Nat)=V.int ((cs.map fun c=>V.ref (T.ad c)).length:Nat)))=!decide (ts.length=cs.length):=by
  rw [lx,Qd]
  congr 1
  rw [Rt];simp only [Ni,V.int.injEq];omega
 rw [e0];unfold Xw at q;by_cases hl:ts.length=cs.length
 ·rw [Qm hl] at q ⊢;rw [GL] at q;have lo:(ZT cs ts).length=cs.length:=ZfD hl;refine Z4 ⟨_,rfl,_,rfl,b,a,rfl,⟨_,hb⟩,⟨_,ha⟩,?_⟩;refine Za9 ((ZT cs ts).map V.bl) (by rw [Qd,lo];exact Zz (by omega)) (fun σ=>∃o u,σ=[o,u]) ⟨none,none,rfl⟩ ?_ ?_ ?_ ?_
  ·intro i H2 hi s2;rw [Qd,lo] at hi;have h1:i<(cs.map fun c=>V.ref (T.ad c)).length:=by rw [Qd];exact hi
   have h2:i<xs.length:=by omega
   exact ⟨_,_,_,_,s2.sqt hb,s2.sqt ha,Qx h1,Qx h2⟩
  ·intro H2 s2;exact ⟨_,s2.sqt hb,by rw [Qd,Qd,lo]⟩
  ·rintro i σ H2 v H3 y hy ⟨o,u,rfl⟩ s2 ⟨A',x1,x2,nA,rfl,f1,f2,rfl⟩ C hC;obtain ⟨c,t,e1,e2,e3⟩:=Zn0 hl hy;have g1:=f1 _ (s2.sqt hb);have g2:=f2 _ (s2.sqt ha);rw [Qw,e1] at g1;have g1':x1=.ref (T.ad c):=(Qn g1).symm;obtain ⟨x,ex,vx⟩:=hx.get e2;rw [ex] at g2;have g2':x2=x:=(Qn g2).symm;subst g1' g2' e3;have sA:=Zk (o:=.tup [.ref (T.ad c),x2]) nA;refine ⟨A',_,rfl,.of Zg,rfl,?_⟩;refine ⟨_,_,rfl,_,_,rfl,rfl,?_⟩;refine ⟨_,_,rfl,⟨c,rfl,rfl⟩,_,rfl,rfl,x2,t,rfl,(vx.mono s2).mono sA,fun H5 s5=>hC _ _ ⟨_,_,rfl⟩ (sA.trans s5)⟩
  ·intro D H2 hD s2 hl2;exact ⟨D,_,rfl,hl2,q _ s2⟩
 ·rw [Qj hl] at q ⊢;exact Z2 (q _ (Same.refl H))
theorem ZiN (T:Tx K w mg) (ZdW:Zhb P base T):ZeQ P base T:=by
 refine Fun.okX (k:=3) T.JZ.F ZdE (fun vs H Q E h=>h.1) (fun cdv A outer s H vs Q E hr h=>?_);obtain ⟨-,h⟩:=h;obtain ⟨x,rfl,h⟩:=h
 refine ⟨_,(Zj (ZI (PW.pt (XB (Xk (YZ (Xv K (by rfl) T.n_isinstance (Za (pv 0) (Za (XZ (v:=.ty "tuple") (by rfl) T.n_tuple ZdC rfl) Zc))))) (XB (ZA Z1 (ZN Yw (by rfl) T.n_len Yd (Za (pv 0) Zc)) Ze (Zu _)) (Wd (Xk (YZ (Xv K (by rfl) T.n_isinstance (Za (Zm Zq (pv 0) Ze (fun _ _=>rfl)) (Za (XZ (v:=.ty "str") (by rfl) T.n_str Vi rfl) Zc))))))))) (Zl (Zy Y5)) ZK)
   (Zj (Yv QH rfl (Ju (VN (v:=.ref T.aF) (by rfl) T.m_FORMS rfl)) (JM rfl (Wi (ZW (i:=1) ZdE.nd rfl (Or.inl rfl)) (Wi (ZW (i:=2) ZdE.nd rfl (Or.inl rfl)) JI)))
    (Zl (ZI (ZA Z1 (Zm Zq (pv 0) Ze (fun _ _=>rfl)) (pv 1) (Zu _)) (Zl (Zy (ZR ZdW hr ZF (Za (VE ZaW (pv 0) (Vo Ze) UI) (Za (pv 2) Zc))))) ZK)))
   (Zl (Zy Y5)))),?_⟩
 rcases h with ⟨t,hv,ht,q⟩|⟨ts,⟨a,xs,rfl,hS,hx⟩,hl,q⟩
 ·have k:=kT T t;rw [ht] at k;exact ⟨_,rfl,_,.ty "tuple",_,_,rfl,rfl,hv.kd,k,_,rfl,Z2 (q _ (Same.refl H))⟩
 refine ⟨_,rfl,_,.ty "tuple",_,_,rfl,rfl,.sqt hS,T.k_tuple_tuple,_,rfl,?_⟩;refine Z4 ⟨_,rfl,a,_,rfl,.inr hS,rfl,_,rfl,?_⟩
 match xs,ts,hx with
 |[],[],_=>exact Z2 (q _ (Same.refl H))
 |x::xs,t::ts,hx =>
  have e0:decide (V.int ((x::xs).length:Nat)=V.int 0)=false:=by
   rw [QK]
   exact Qj fun z=>by
    have:=V.int.inj z;omega
  rw [e0];have at0:Yl (x::xs) 0=some x:=XT (j:=0) rfl;refine Z4 ⟨_,rfl,a,_,_,_,rfl,rfl,hS,at0,_,.ty "str",_,_,rfl,rfl,hx.1.kd,kS T t,_,rfl,?_⟩;cases t with
  |str w =>
   have ex:x=.str w:=hx.1.1;refine Z4 ⟨T.aF,rfl,⟨_,T.sF _⟩,Zbl (fun i σ H2=>∃v1 v2,σ=[some (.ref a),v1,v2]∧Same H H2∧∀j,j<i->∀p',Wm[j]?=some p'->w≠p'.1) ⟨none,none,rfl,Same.refl H,fun j hj=>by omega⟩ (fun _ _ _ _ _=>T.sF _) ?turn ?done⟩
   case done =>
    rintro σ H2 ⟨v1,v2,rfl,s2,b⟩
    have e:Vl (.str w::ts)=false:=by
     rw [JF,Zow b];rfl
    rw [e] at q;exact q _ s2
   case turn =>
    rintro i y σ H2 hy ⟨v1,v2,rfl,s2,b⟩;have hi:i<6:=(QI.mp hy).1;have hf:Wm[i]?=some (Wm[i]'hi):=Qx hi;generalize Wm[i]'hi=p at hf;obtain ⟨P,G,e1,e2,e3⟩:=Zk5 T hf;rw [hy] at e1;have ey:y=.ref P:=Qn e1;subst ey;refine ⟨P,_,rfl,e2 _,rfl,_,_,rfl,_,_,rfl,rfl,?_⟩;refine ⟨_,rfl,a,_,_,_,rfl,rfl,s2.sqt hS,at0,_,rfl,by rw [ex];rfl,_,rfl,?_⟩;rw [ex]
    have ed:decide (V.str w=V.str p.1)=decide (w=p.1):=by
     rw [Rt];simp
    rw [ed];by_cases hw:w=p.1
    ·rw [Qm hw]
     have e:Vl (.str w::ts)=Xw p.2 ts:=by
      rw [JF,Ziz hf b hw];rfl
     rw [e] at q;refine Z2 ⟨_,rfl,_,rfl,a,_,rfl,s2.sqt hS,?_,fun n hn=>?_⟩
     ·rintro ⟨z,_⟩;have:HT.sIx (x::xs).length 0 (some ((1:Nat):Int))=0:=z;rw [HT.sIx_nat,QK] at this;omega
     ·rw [Zgm];have sn:=Zk (o:=.tup xs) hn;refine ⟨_,rfl,rfl,n,G,xs,ts,p.2,rfl,.of Zg,(hx.2.mono s2).mono sn,e3 _,ZkR p (QD hf),fun H5 s5=>q _ (s2.trans (sn.trans s5))⟩
    ·rw [Qj hw];refine Z4 ⟨_,_,rfl,s2,fun j hj p' e'=>?_⟩;by_cases hji:j<i
     ·exact b j hji p' e'
     ·have:j=i:=by omega
      subst this;rw [hf] at e';cases e';exact hw
  |_=>exact Z2 (q _ (Same.refl H))
theorem Zka (T:Tx K w mg)  : ZdO P base T:=by
 refine Fun.okX (k:=0) T.Zah.F Zjl (fun vs H Q E h=>h.1) (fun cdv A outer s H vs Q E hr h=>?_);obtain ⟨-,h⟩:=h;obtain ⟨v,e,rfl,⟨a,rfl,hE⟩,q⟩:=h;refine ⟨_,(Zl (Zy (YJ VQ (Zm Zq (pv 0) Ze (fun _ _=>rfl)) (ZY (Za Zs (Za Zs Zc))) (by rfl)))),?_⟩;cases e with
 |born n s d f m=>exact ⟨_,rfl,a,_,_,_,rfl,rfl,hE,Zh (j:=0) rfl,few rfl,fun p np=>⟨p,_,rfl,.inr (.of Zg),rfl,rfl,q _ (Zk np)⟩⟩
 |taken c t d=>exact ⟨_,rfl,a,_,_,_,rfl,rfl,hE,Zh (j:=0) rfl,few rfl,fun p np=>⟨p,_,rfl,.inr (.of Zg),rfl,rfl,q _ (Zk np)⟩⟩
 |union x y d=>exact ⟨_,rfl,a,_,_,_,rfl,rfl,hE,Zh (j:=0) rfl,few rfl,fun p np=>⟨p,_,rfl,.inr (.of Zg),rfl,rfl,q _ (Zk np)⟩⟩
 |parted x y d=>exact ⟨_,rfl,a,_,_,_,rfl,rfl,hE,Zh (j:=0) rfl,few rfl,fun p np=>⟨p,_,rfl,.inr (.of Zg),rfl,rfl,q _ (Zk np)⟩⟩
 |dead n d=>exact ⟨_,rfl,a,_,_,_,rfl,rfl,hE,Zh (j:=0) rfl,few rfl,fun p np=>⟨p,_,rfl,.inr (.of Zg),rfl,rfl,q _ (Zk np)⟩⟩
 |given x y z d=>exact ⟨_,rfl,a,_,_,_,rfl,rfl,hE,Zh (j:=0) rfl,few rfl,fun p np=>⟨p,_,rfl,.inr (.of Zg),rfl,rfl,q _ (Zk np)⟩⟩
theorem Zjk (T:Tx K w mg)  : ZcN P base T:=by
 refine Fun.okX (k:=0) T.Zag.F Zkc (fun vs H Q E h=>h.1) (fun cdv A outer s H vs Q E hr h=>?_);obtain ⟨-,h⟩:=h;obtain ⟨v,e,rfl,⟨a,rfl,hE⟩,q⟩:=h
 refine ⟨_,(Zj (ZI (ZA Z1 (Zm Zq (pv 0) Ze (fun _ _=>rfl)) Zs (Zu _)) (Zl (Zy (Uv rfl (XR (N:=["name"]) [] [none] rfl (by decide +kernel) (by decide +kernel) (by rfl) (by rfl) (by rfl) (by rfl) (by rfl)) (Ju (VE ZaW (pv 0) (Vo Ze) UI)) (fun _ _ _=>(ZW (i:=0) Zkk rfl (Or.inl rfl))) (fun _ _ _=>(WR (ZA WB (pv 0) Zs (Zu _)))) (fun _ _ _=>(pv 0))))) ZK)
   (Zj (ZI (ZA Z1 (Zm Zq (pv 0) Ze (fun _ _=>rfl)) Zs (Zu _)) (Zl (Zy (Yi (Za (Zm Zq (pv 0) Ze (fun _ _=>rfl)) Zc)))) ZK)
   (Zl (Zy (Yi (Za (Zm Zq (pv 0) Ze (fun _ _=>rfl)) (Za (Zm Zq (pv 0) Ze (fun _ _=>rfl)) Zc))))))),?_⟩
 cases e with
 |born n s d f m =>
  refine ⟨_,rfl,a,_,_,_,rfl,rfl,hE,Zh (j:=0) rfl,rfl,_,rfl,Z0 (by decide +kernel) ⟨_,rfl,_,rfl,?_⟩⟩;dsimp only [JO];refine U5 hE (fun h=>absurd h.1 (show ¬(4:Nat)=0 by decide)) fun H1 p s1 hp=>?_;have hp':SqT K H1 p ([f,m].map V.str):=hp;refine ⟨p,rfl,⟨_,hp'⟩,Vg ([f,m].map V7) (Zz (by simp)) (fun σ=>∃v,σ=[v]) ⟨_,rfl⟩ (fun i H2 hi sm=>?go) (fun H2 sm=>?stop) (fun i σ H2 x H3 o ho hσ sm hx C hC=>?step) (fun D H2 nD sm hD=>?fin)⟩
  case go =>
   have hi':i<([f,m].map V.str).length:=hi;exact ⟨_,_,sm.sqt hp',Qx hi'⟩
  case stop=>exact ⟨_,sm.sqt hp',by simp⟩
  case step =>
   obtain ⟨v,rfl⟩:=hσ;obtain ⟨rfl,hx⟩:=hx;have e1:=hx _ (sm.sqt hp');rw [Qw] at e1 ho;obtain ⟨z,hz,rfl⟩:=QR.mp e1;rw [hz] at ho;obtain rfl:V7 z=o:=Qn ho;refine ⟨_,rfl,rfl,_,rfl,?_⟩;by_cases hz0:z=""
   ·subst hz0;exact Zt (by decide +kernel) (hC _ _ ⟨_,rfl⟩ (Same.refl _))
   ·have e2:V7 z=some (.str z):=Qa hz0;rw [e2] at hC;exact Z0 (by rw [Xj,Qj hz0];rfl) ⟨_,rfl,hC _ _ ⟨_,rfl⟩ (Same.refl _)⟩
  case fin =>
   rw [Zfj] at hD;exact q _ D (s1.trans sm) (ZJ s1 nD) (.of hD)
 |dead n d=>exact ⟨_,rfl,a,_,_,_,rfl,rfl,hE,Zh (j:=0) rfl,rfl,_,rfl,Zt (by decide +kernel) ⟨_,rfl,a,_,_,_,rfl,rfl,hE,Zh (j:=0) rfl,rfl,_,rfl,Z0 (by decide +kernel) ⟨_,rfl,a,_,_,_,rfl,rfl,hE,Zh (j:=1) rfl,few rfl,fun D nD=>q _ D (Zk nD) nD (.of Zg)⟩⟩⟩
 |taken c t d=>exact ⟨_,rfl,a,_,_,_,rfl,rfl,hE,Zh (j:=0) rfl,rfl,_,rfl,Zt (by decide +kernel) ⟨_,rfl,a,_,_,_,rfl,rfl,hE,Zh (j:=0) rfl,rfl,_,rfl,Zt (by decide +kernel) ⟨_,rfl,a,_,_,_,rfl,rfl,hE,Zh (j:=1) rfl,_,rfl,a,_,_,_,rfl,rfl,hE,Zh (j:=2) rfl,few rfl,fun D nD=>q _ D (Zk nD) nD (.of Zg)⟩⟩⟩
 |union x y d=>exact ⟨_,rfl,a,_,_,_,rfl,rfl,hE,Zh (j:=0) rfl,rfl,_,rfl,Zt (by decide +kernel) ⟨_,rfl,a,_,_,_,rfl,rfl,hE,Zh (j:=0) rfl,rfl,_,rfl,Zt (by decide +kernel) ⟨_,rfl,a,_,_,_,rfl,rfl,hE,Zh (j:=1) rfl,_,rfl,a,_,_,_,rfl,rfl,hE,Zh (j:=2) rfl,few rfl,fun D nD=>q _ D (Zk nD) nD (.of Zg)⟩⟩⟩
 |parted x y d=>exact ⟨_,rfl,a,_,_,_,rfl,rfl,hE,Zh (j:=0) rfl,rfl,_,rfl,Zt (by decide +kernel) ⟨_,rfl,a,_,_,_,rfl,rfl,hE,Zh (j:=0) rfl,rfl,_,rfl,Zt (by decide +kernel) ⟨_,rfl,a,_,_,_,rfl,rfl,hE,Zh (j:=1) rfl,_,rfl,a,_,_,_,rfl,rfl,hE,Zh (j:=2) rfl,few rfl,fun D nD=>q _ D (Zk nD) nD (.of Zg)⟩⟩⟩
 |given x y z d=>exact ⟨_,rfl,a,_,_,_,rfl,rfl,hE,Zh (j:=0) rfl,rfl,_,rfl,Zt (by decide +kernel) ⟨_,rfl,a,_,_,_,rfl,rfl,hE,Zh (j:=0) rfl,rfl,_,rfl,Zt (by decide +kernel) ⟨_,rfl,a,_,_,_,rfl,rfl,hE,Zh (j:=1) rfl,_,rfl,a,_,_,_,rfl,rfl,hE,Zh (j:=2) rfl,few rfl,fun D nD=>q _ D (Zk nD) nD (.of Zg)⟩⟩⟩
theorem Zh2 (T:Tx K w mg)  : Zhv P base T:=by
 refine Fun.okX (k:=0) T.Za3.F Zk7 (fun vs H Q E h=>h.1) (fun cdv A outer s H vs Q E hr h=>?_);obtain ⟨-,h⟩:=h;obtain ⟨v,e,rfl,⟨a,rfl,hE⟩,q⟩:=h
 refine ⟨_,(Zj (ZI (ZA Z1 (Zm Zq (pv 0) Ze (fun _ _=>rfl)) Zs (Zu _)) (Zl (Zy (Zm Zq (pv 0) Ze (fun _ _=>rfl)))) ZK)
   (Zl (Zy (Zm Zq (pv 0) (Jw U7 Ze) (fun _ _=>rfl))))),?_⟩
 cases e with
 |born n s d f m=>exact ⟨_,rfl,a,_,_,_,rfl,rfl,hE,Zh (j:=0) rfl,rfl,_,rfl,Z0 (by decide +kernel) ⟨_,rfl,a,_,_,_,rfl,rfl,hE,Zh (j:=3) rfl,q⟩⟩
 |taken c t d=>exact ⟨_,rfl,a,_,_,_,rfl,rfl,hE,Zh (j:=0) rfl,rfl,_,rfl,Zt (by decide +kernel) ⟨_,rfl,_,rfl,a,_,_,_,rfl,rfl,hE,rfl,q⟩⟩
 |union x y d=>exact ⟨_,rfl,a,_,_,_,rfl,rfl,hE,Zh (j:=0) rfl,rfl,_,rfl,Zt (by decide +kernel) ⟨_,rfl,_,rfl,a,_,_,_,rfl,rfl,hE,rfl,q⟩⟩
 |parted x y d=>exact ⟨_,rfl,a,_,_,_,rfl,rfl,hE,Zh (j:=0) rfl,rfl,_,rfl,Zt (by decide +kernel) ⟨_,rfl,_,rfl,a,_,_,_,rfl,rfl,hE,rfl,q⟩⟩
 |dead n d=>exact ⟨_,rfl,a,_,_,_,rfl,rfl,hE,Zh (j:=0) rfl,rfl,_,rfl,Zt (by decide +kernel) ⟨_,rfl,_,rfl,a,_,_,_,rfl,rfl,hE,rfl,q⟩⟩
 |given x y z d=>exact ⟨_,rfl,a,_,_,_,rfl,rfl,hE,Zh (j:=0) rfl,rfl,_,rfl,Zt (by decide +kernel) ⟨_,rfl,_,rfl,a,_,_,_,rfl,rfl,hE,rfl,q⟩⟩
theorem ZnS (T:Tx K w mg) (UM:ZdO P base T):Zcb P base T:=by
 refine Fun.okX (k:=1) T.J0.F Zfd (fun vs H Q E h=>h.1) (fun cdv A outer s H vs Q E hr h=>?_);obtain ⟨-,h⟩:=h;obtain ⟨v,e,rfl,hx,q⟩:=h
 refine ⟨_,(Zj (ZI (Xk (YZ (ZR UM hr ZF (Za (pv 0) Zc)))) (Zl (Zy (pv 0))) ZK)
   (Zj (Zw (i:=1) Zfd.nd rfl (Or.inl rfl) (ZN (ZhR K) (by rfl) T.n_sorted Zc9 (Za (VE ZaW (pv 0) (Vo Ze) (Vo Ze)) Zc)))
   (Zl (Zy (ZY (Za (Zm Zq (pv 0) Ze (fun _ _=>rfl)) (Za (Zm Ym (pv 1) Ze (fun _ _=>rfl)) (Za (Zm Ym (pv 1) Ze (fun _ _=>rfl)) (Za (Zm Zq (pv 0) Ze (fun _ _=>rfl)) Zc))))))))),?_⟩
 obtain ⟨a,rfl,hE⟩:=id hx;refine ⟨_,rfl,rfl,.ref a,e,rfl,hx,fun H1 s1=>⟨_,rfl,?_⟩⟩;have hE1:=s1.sqt hE;cases e with
 |born n s d f m=>exact Z2 ⟨_,rfl,q _ _ s1 (hx.mono s1)⟩
 |taken c t d=>exact Z2 ⟨_,rfl,q _ _ s1 (hx.mono s1)⟩
 |union x y d =>
  refine Z4 ⟨_,rfl,_,rfl,_,rfl,?_⟩;refine U5 hE1 (fun h=>absurd h.1 (show ¬(1:Nat)=0 by decide)) fun H2 p s2 hp=>?_;have hp':SqT K H2 p ([x,y].map V.str):=hp;refine ⟨p,[x,y],rfl,hp',QG rfl,fun D zs nD perm so=>?_⟩;rw [Zfh perm so];have s3:=Zk (o:=.lst ([(Zf x y).1,(Zf x y).2].map V.str)) nD;have hE3:=s3.sqt (s2.sqt hE1);have hD:SqL K (Zb H2 D (.lst ([(Zf x y).1,(Zf x y).2].map V.str))) D ([(Zf x y).1,(Zf x y).2].map V.str):=.of Zg;refine ⟨_,rfl,a,_,_,_,rfl,rfl,hE3,Zh (j:=0) rfl,_,rfl,D,_,_,_,rfl,rfl,hD,Zh (j:=0) rfl,_,rfl,D,_,_,_,rfl,rfl,hD,Zh (j:=1) rfl,_,rfl,a,_,_,_,rfl,rfl,hE3,Zh (j:=3) rfl,few rfl,fun t nt=>?_⟩;exact q _ _ (s1.trans (s2.trans (s3.trans (Zk nt)))) ⟨t,rfl,.of Zg⟩
 |parted x y d =>
  refine Z4 ⟨_,rfl,_,rfl,_,rfl,?_⟩;refine U5 hE1 (fun h=>absurd h.1 (show ¬(1:Nat)=0 by decide)) fun H2 p s2 hp=>?_;have hp':SqT K H2 p ([x,y].map V.str):=hp;refine ⟨p,[x,y],rfl,hp',QG rfl,fun D zs nD perm so=>?_⟩;rw [Zfh perm so];have s3:=Zk (o:=.lst ([(Zf x y).1,(Zf x y).2].map V.str)) nD;have hE3:=s3.sqt (s2.sqt hE1);have hD:SqL K (Zb H2 D (.lst ([(Zf x y).1,(Zf x y).2].map V.str))) D ([(Zf x y).1,(Zf x y).2].map V.str):=.of Zg;refine ⟨_,rfl,a,_,_,_,rfl,rfl,hE3,Zh (j:=0) rfl,_,rfl,D,_,_,_,rfl,rfl,hD,Zh (j:=0) rfl,_,rfl,D,_,_,_,rfl,rfl,hD,Zh (j:=1) rfl,_,rfl,a,_,_,_,rfl,rfl,hE3,Zh (j:=3) rfl,few rfl,fun t nt=>?_⟩;exact q _ _ (s1.trans (s2.trans (s3.trans (Zk nt)))) ⟨t,rfl,.of Zg⟩
 |dead n d=>exact Z2 ⟨_,rfl,q _ _ s1 (hx.mono s1)⟩
 |given x y z d=>exact Z2 ⟨_,rfl,q _ _ s1 (hx.mono s1)⟩
theorem Zop (T:Tx K w mg) (Ur:Zcb P base T):Zdl P base T:=by
 refine Fun.okX (k:=2) T.Zaa.F ZjV (fun vs H Q E h=>h.1) (fun cdv A outer s H vs Q E hr h=>?_);obtain ⟨-,h⟩:=h;obtain ⟨v,e,rfl,hx,q⟩:=h
 refine ⟨_,(Zj (ZI (ZA VQ (Zm Zq (pv 0) Ze (fun _ _=>rfl)) (ZY (Za Zs (Za Zs Zc))) (by rfl)) (Zl (Zy (ZY (Za (Zm Zq (pv 0) Ze (fun _ _=>rfl)) (Za (Zm Zq (pv 0) Ze (fun _ _=>rfl)) Zc))))) ZK)
   (Zj (ZI (ZA Z1 (Zm Zq (pv 0) Ze (fun _ _=>rfl)) Zs (Zu _)) (Zl (Zy (ZY (Za (Zm Zq (pv 0) Ze (fun _ _=>rfl)) (Za (Zm Zq (pv 0) Ze (fun _ _=>rfl)) (Za (Zm Zq (pv 0) Ze (fun _ _=>rfl)) Zc)))))) ZK)
   (Zj (ZI (ZA Z1 (Zm Zq (pv 0) Ze (fun _ _=>rfl)) Zs (Zu _)) (Zl (Zy (ZY (Za (Zm Zq (pv 0) Ze (fun _ _=>rfl)) (Za (Zm Zq (pv 0) Ze (fun _ _=>rfl)) (Za (Zm Zq (pv 0) Ze (fun _ _=>rfl)) (Za (Zm Zq (pv 0) Ze (fun _ _=>rfl)) Zc))))))) ZK)
   (Zl (Zy (Zn ZmZ (ZY (Za Zs Zc)) (VE ZaW (ZR Ur hr ZF (Za (pv 0) Zc)) (Vo Ze) UI))))))),?_⟩
 obtain ⟨a,rfl,hE⟩:=id hx;cases e with
 |born n s d f m =>
  refine ⟨_,rfl,a,_,_,_,rfl,rfl,hE,Zh (j:=0) rfl,few rfl,fun p np=>⟨p,_,rfl,.inr (.of Zg),rfl,rfl,_,rfl,Z0 (by decide +kernel) ?_⟩⟩;have s1:=Zk (o:=.tup [.str "born",.str "dead"]) np;have hE1:=s1.sqt hE;exact ⟨_,rfl,a,_,_,_,rfl,rfl,hE1,Zh (j:=0) rfl,_,rfl,a,_,_,_,rfl,rfl,hE1,Zh (j:=1) rfl,few rfl,fun t nt=>q _ t (s1.trans (Zk nt)) (ZJ s1 nt) Zg⟩
 |taken c t d =>
  refine ⟨_,rfl,a,_,_,_,rfl,rfl,hE,Zh (j:=0) rfl,few rfl,fun p np=>⟨p,_,rfl,.inr (.of Zg),rfl,rfl,_,rfl,Zt (by decide +kernel) ?_⟩⟩;have s1:=Zk (o:=.tup [.str "born",.str "dead"]) np;have hE1:=s1.sqt hE;refine ⟨_,rfl,a,_,_,_,rfl,rfl,hE1,Zh (j:=0) rfl,rfl,_,rfl,Z0 (by decide +kernel) ?_⟩;exact ⟨_,rfl,a,_,_,_,rfl,rfl,hE1,Zh (j:=0) rfl,_,rfl,a,_,_,_,rfl,rfl,hE1,Zh (j:=1) rfl,_,rfl,a,_,_,_,rfl,rfl,hE1,Zh (j:=2) rfl,few rfl,fun t nt=>q _ t (s1.trans (Zk nt)) (ZJ s1 nt) Zg⟩
 |union x y d =>
  refine ⟨_,rfl,a,_,_,_,rfl,rfl,hE,Zh (j:=0) rfl,few rfl,fun p np=>⟨p,_,rfl,.inr (.of Zg),rfl,rfl,_,rfl,Zt (by decide +kernel) ?_⟩⟩;have s1:=Zk (o:=.tup [.str "born",.str "dead"]) np;have hE1:=s1.sqt hE;refine ⟨_,rfl,a,_,_,_,rfl,rfl,hE1,Zh (j:=0) rfl,rfl,_,rfl,Zt (by decide +kernel) ?_⟩;refine ⟨_,rfl,a,_,_,_,rfl,rfl,hE1,Zh (j:=0) rfl,rfl,_,rfl,Zt (by decide +kernel) ?_⟩;refine ⟨few rfl,fun t nt=>⟨_,rfl,rfl,.ref a,_,rfl,(hx.mono s1).mono (Zk nt),fun H2 u s2 hu=>?_⟩⟩;obtain ⟨b,rfl,hb⟩:=hu;refine ⟨_,rfl,?_⟩;dsimp only [JO];refine U5 hb (fun h=>absurd h.1 (show ¬(1:Nat)=0 by decide)) fun H3 c s3 hc=>?_;refine ⟨t,c,[.str "tie"],[.str (Zf x y).1,.str (Zf x y).2,.int d],rfl,rfl,.of (s3 _ _ (s2 _ _ Zg)),hc,by simp,few rfl,fun h=>absurd h (by simp),fun _ z nz=>?_⟩;have s4:=(s1.trans (Zk nt)).trans (s2.trans s3);exact q _ z (s4.trans (Zk nz)) (ZJ s4 nz) Zg
 |parted x y d =>
  refine ⟨_,rfl,a,_,_,_,rfl,rfl,hE,Zh (j:=0) rfl,few rfl,fun p np=>⟨p,_,rfl,.inr (.of Zg),rfl,rfl,_,rfl,Zt (by decide +kernel) ?_⟩⟩;have s1:=Zk (o:=.tup [.str "born",.str "dead"]) np;have hE1:=s1.sqt hE;refine ⟨_,rfl,a,_,_,_,rfl,rfl,hE1,Zh (j:=0) rfl,rfl,_,rfl,Zt (by decide +kernel) ?_⟩;refine ⟨_,rfl,a,_,_,_,rfl,rfl,hE1,Zh (j:=0) rfl,rfl,_,rfl,Zt (by decide +kernel) ?_⟩;refine ⟨few rfl,fun t nt=>⟨_,rfl,rfl,.ref a,_,rfl,(hx.mono s1).mono (Zk nt),fun H2 u s2 hu=>?_⟩⟩;obtain ⟨b,rfl,hb⟩:=hu;refine ⟨_,rfl,?_⟩;dsimp only [JO];refine U5 hb (fun h=>absurd h.1 (show ¬(1:Nat)=0 by decide)) fun H3 c s3 hc=>?_;refine ⟨t,c,[.str "tie"],[.str (Zf x y).1,.str (Zf x y).2,.int d],rfl,rfl,.of (s3 _ _ (s2 _ _ Zg)),hc,by simp,few rfl,fun h=>absurd h (by simp),fun _ z nz=>?_⟩;have s4:=(s1.trans (Zk nt)).trans (s2.trans s3);exact q _ z (s4.trans (Zk nz)) (ZJ s4 nz) Zg
 |dead n d =>
  refine ⟨_,rfl,a,_,_,_,rfl,rfl,hE,Zh (j:=0) rfl,few rfl,fun p np=>⟨p,_,rfl,.inr (.of Zg),rfl,rfl,_,rfl,Z0 (by decide +kernel) ?_⟩⟩;have s1:=Zk (o:=.tup [.str "born",.str "dead"]) np;have hE1:=s1.sqt hE;exact ⟨_,rfl,a,_,_,_,rfl,rfl,hE1,Zh (j:=0) rfl,_,rfl,a,_,_,_,rfl,rfl,hE1,Zh (j:=1) rfl,few rfl,fun t nt=>q _ t (s1.trans (Zk nt)) (ZJ s1 nt) Zg⟩
 |given x y z d =>
  refine ⟨_,rfl,a,_,_,_,rfl,rfl,hE,Zh (j:=0) rfl,few rfl,fun p np=>⟨p,_,rfl,.inr (.of Zg),rfl,rfl,_,rfl,Zt (by decide +kernel) ?_⟩⟩;have s1:=Zk (o:=.tup [.str "born",.str "dead"]) np;have hE1:=s1.sqt hE;refine ⟨_,rfl,a,_,_,_,rfl,rfl,hE1,Zh (j:=0) rfl,rfl,_,rfl,Zt (by decide +kernel) ?_⟩;refine ⟨_,rfl,a,_,_,_,rfl,rfl,hE1,Zh (j:=0) rfl,rfl,_,rfl,Z0 (by decide +kernel) ?_⟩;exact ⟨_,rfl,a,_,_,_,rfl,rfl,hE1,Zh (j:=0) rfl,_,rfl,a,_,_,_,rfl,rfl,hE1,Zh (j:=1) rfl,_,rfl,a,_,_,_,rfl,rfl,hE1,Zh (j:=2) rfl,_,rfl,a,_,_,_,rfl,rfl,hE1,Zh (j:=4) rfl,few rfl,fun t nt=>q _ t (s1.trans (Zk nt)) (ZJ s1 nt) Zg⟩
theorem ZiG (T:Tx K w mg)  : ZfZ P base T:=by
 refine Fun.okX (k:=0) T.J9.F Zo2 (fun vs H Q E h=>h.1) (fun cdv A outer s H vs Q E hr h=>?_);obtain ⟨-,h⟩:=h;obtain ⟨x,rfl,h⟩:=h;refine ⟨_,(Zl (Zy (Xr (Xv K (by rfl) T.n_isinstance (Za (pv 0) (Za (XZ (v:=.ty "str") (by rfl) T.n_str Vi rfl) Zc))) (Xq (YJ VQ (pv 0) (VN (v:=.ref T.a_STEP_LETTERS) (by rfl) T.m_STEP_LETTERS rfl) (by rfl)))))),?_⟩;rcases h with ⟨ty,hk,ks,q⟩|⟨l,rfl,q⟩
 ·exact ⟨_,rfl,_,.ty "str",_,_,rfl,rfl,hk,ks,_,rfl,Z4 q⟩
 refine ⟨_,rfl,_,.ty "str",_,_,rfl,rfl,.of (.str _),T.k_str_str,_,rfl,Z2 ⟨_,rfl,T.a_STEP_LETTERS,_,rfl,.inr (T.ZgV _),rfl,rfl,?_⟩⟩;have e:(if false=true then !YV (.str l) (Xn.map V.str) else YV (.str l) (Xn.map V.str))=V2 l:=WI l Xn;rw [←e] at q;exact q
theorem ZhU (T:Tx K w mg)  : ZcZ P base T:=by
 refine Fun.okX (k:=0) T.ZaR.F ZiT (fun vs H Q E h=>h.1) (fun cdv A outer s H vs Q E hr h=>?_);obtain ⟨-,h⟩:=h;obtain ⟨a,b,rfl,q⟩:=h;refine ⟨_,(Zl (Zy (ZY (Za (ZN (Zda rfl) (by rfl) T.n_min VP (Za (pv 0) (Za (pv 1) Zc))) (Za (ZN (Zbp rfl) (by rfl) T.n_max JG (Za (pv 0) (Za (pv 1) Zc))) Zc))))),?_⟩;refine ⟨_,rfl,_,rfl,_,_,rfl,_,rfl,_,rfl,_,_,rfl,few rfl,fun p np=>?_⟩;rw [ZbW,Zcy];exact q _ p (Zk np) np Zg
theorem ZmW (T:Tx K w mg)  : Zhn P base T:=by
 refine Fun.okX (k:=0) T.Uq.F Zo0 (fun vs H Q E h=>h.1) (fun cdv A outer s H vs Q E hr h=>?_);obtain ⟨-,h⟩:=h;obtain ⟨b,dx,rfl,h0,q⟩:=h
 refine ⟨_,(Zj (Jy (pv 0) VS rfl)
   (Zj (Jy (pv 0) Ui rfl)
   (Zj (Jy (pv 0) VS rfl)
   (Zj (Jy (pv 0) VS rfl)
   (Zl (Jy (pv 0) VS rfl)))))),?_⟩
 refine fun k nk=>⟨_,rfl,b,T.c_Book,dx,[],rfl,(Zd (ZO h0 nk)).trans h0,T.cl_Book,T.na_Book_kept,Qz (m:=10) (QG rfl) (by decide),?_⟩;obtain ⟨g1,p1,s1,m1⟩:=Jr (fs:=[]) "kept" (.dT []) h0 nk;generalize hH1:Zb (Zb H k (.dT [])) b (.ins T.c_Book dx (ZH "kept" (.ref k) ([])))=H1 at *;refine fun bi nbi=>⟨_,rfl,b,T.c_Book,dx,ZH "kept" (.ref k) [],rfl,(Zd (ZO g1 nbi)).trans g1,T.cl_Book,T.na_Book_births,Qz (m:=10) (QG rfl) (by decide),?_⟩;obtain ⟨g2,p2,s2,m2⟩:=Jr (fs:=ZH "kept" (.ref k) []) "births" (.dK []) g1 nbi;generalize hH2:Zb (Zb H1 bi (.dK [])) b (.ins T.c_Book dx (ZH "births" (.ref bi) (ZH "kept" (.ref k) [])))=H2 at *;refine fun li nli=>⟨_,rfl,b,T.c_Book,dx,ZH "births" (.ref bi) (ZH "kept" (.ref k) []),rfl,(Zd (ZO g2 nli)).trans g2,T.cl_Book,T.na_Book_links,Qz (m:=10) (QG rfl) (by decide),?_⟩;obtain ⟨g3,p3,s3,m3⟩:=Jr (fs:=ZH "births" (.ref bi) (ZH "kept" (.ref k) [])) "links" (.dT []) g2 nli;generalize hH3:Zb (Zb H2 li (.dT [])) b (.ins T.c_Book dx (ZH "links" (.ref li) (ZH "births" (.ref bi) (ZH "kept" (.ref k) []))))=H3 at *;refine fun ti nti=>⟨_,rfl,b,T.c_Book,dx,ZH "links" (.ref li) (ZH "births" (.ref bi) (ZH "kept" (.ref k) [])),rfl,(Zd (ZO g3 nti)).trans g3,T.cl_Book,T.na_Book_ties,Qz (m:=10) (QG rfl) (by decide),?_⟩;obtain ⟨g4,p4,s4,m4⟩:=Jr (fs:=ZH "links" (.ref li) (ZH "births" (.ref bi) (ZH "kept" (.ref k) []))) "ties" (.dT []) g3 nti;generalize hH4:Zb (Zb H3 ti (.dT [])) b (.ins T.c_Book dx (ZH "ties" (.ref ti) (ZH "links" (.ref li) (ZH "births" (.ref bi) (ZH "kept" (.ref k) [])))))=H4 at *;refine fun su nsu=>⟨_,rfl,b,T.c_Book,dx,ZH "ties" (.ref ti) (ZH "links" (.ref li) (ZH "births" (.ref bi) (ZH "kept" (.ref k) []))),rfl,(Zd (ZO g4 nsu)).trans g4,T.cl_Book,T.na_Book_sums,Qz (m:=10) (QG rfl) (by decide),?_⟩;obtain ⟨g5,p5,s5,m5⟩:=Jr (fs:=ZH "ties" (.ref ti) (ZH "links" (.ref li) (ZH "births" (.ref bi) (ZH "kept" (.ref k) [])))) "sums" (.dT []) g4 nsu;generalize hH5:Zb (Zb H4 su (.dT [])) b (.ins T.c_Book dx (ZH "sums" (.ref su) (ZH "ties" (.ref ti) (ZH "links" (.ref li) (ZH "births" (.ref bi) (ZH "kept" (.ref k) []))))))=H5 at *;have kb:∀{c:Addr} {o:HO} {Hx:Hp},Hx c=some o->(∀fs,o≠.ins T.c_Book dx fs)->∀{fs},Hx b=some (.ins T.c_Book dx fs)->c≠b:=fun e no fs eb z=>by subst z;rw [eb] at e;cases e;exact no _ rfl
 have dT:∀fs,HO.dT []≠.ins T.c_Book dx fs:=fun _ z=>by cases z
 have dK:∀fs,HO.dK []≠.ins T.c_Book dx fs:=fun _ z=>by cases z
 have a1:=s5 _ _ (s4 _ _ (s3 _ _ (s2 _ _ p1 (kb p1 dT g1)) (kb (s2 _ _ p1 (kb p1 dT g1)) dT g2)) (kb (s3 _ _ (s2 _ _ p1 (kb p1 dT g1)) (kb (s2 _ _ p1 (kb p1 dT g1)) dT g2)) dT g3)) (kb p1 dT g1);have a2:=s5 _ _ (s4 _ _ (s3 _ _ p2 (kb p2 dK g2)) (kb p2 dK g2)) (kb p2 dK g2);have a3:=s5 _ _ (s4 _ _ p3 (kb p3 dT g3)) (kb p3 dT g3);have a4:=s5 _ _ p4 (kb p4 dT g4);rw [Zoe] at g5;have kli:k≠li:=ZO (s2 _ _ p1 (kb p1 dT g1)) nli;have kti:k≠ti:=ZO (s3 _ _ (s2 _ _ p1 (kb p1 dT g1)) (kb (s2 _ _ p1 (kb p1 dT g1)) dT g2)) nti;have ksu:k≠su:=ZO (s4 _ _ (s3 _ _ (s2 _ _ p1 (kb p1 dT g1)) (kb (s2 _ _ p1 (kb p1 dT g1)) dT g2)) (kb (s3 _ _ (s2 _ _ p1 (kb p1 dT g1)) (kb (s2 _ _ p1 (kb p1 dT g1)) dT g2)) dT g3)) nsu;have liti:li≠ti:=ZO p3 nti;have lisu:li≠su:=ZO (s4 _ _ p3 (kb p3 dT g3)) nsu;have tisu:ti≠su:=ZO p4 nsu;exact q H5 k bi li ti su ⟨g5,by simp [kli,kti,ksu,liti,lisu,tisu],by simp [Jk],a1,a2,a3,a4,p5,fun _ h=>(nomatch h),fun _ h=>(nomatch h),fun _ h=>(nomatch h)⟩ (fun c o e cb=>s5 _ _ (s4 _ _ (s3 _ _ (s2 _ _ (s1 _ _ e cb) cb) cb) cb) cb) nk (m1 _ nbi) (m1 _ (m2 _ nli)) (m1 _ (m2 _ (m3 _ nti))) (m1 _ (m2 _ (m3 _ (m4 _ nsu))))
theorem ZmE (T:Tx K w mg)  : UH P base T:=by
 refine Fun.okX (k:=0) T.Y8.F Zke (fun vs H Q E h=>h.1) (fun cdv A outer s H vs Q E hr h=>?_);obtain ⟨-,h⟩:=h;obtain ⟨v,x,B,rfl,⟨b,dx,k,bi,li,ti,su,rfl,hB⟩,h⟩:=h
 refine ⟨_,(Zj (ZI (PW.pt (XB (Xk (YZ (Xv K (by rfl) T.n_isinstance (Za (pv 1) (Za (XZ (v:=.ty "str") (by rfl) T.n_str Vi rfl) Zc))))) (Wd (Um (ZcY (ZV hr) (pv 1) (Xl (pv 0) rfl)))))) (Zl (Vv (by rfl) T.m_NoPerson T.x_NoPerson EB rfl Vy (Za Zs Zc))) ZK)
   (Zl (Zy (Xg (ZV hr) (Xl (pv 0) rfl) (pv 1) (fun _ _=>rfl))))),?_⟩
 rcases h with ⟨ty,hk,ks,qe⟩|⟨n,rfl,qe,q⟩
 ·exact ⟨_,rfl,_,.ty "str",_,_,rfl,rfl,hk,ks,_,rfl,Z2 (Z2 ⟨few rfl,qe⟩)⟩
 have dg:=DGet.k (k:=.inr n) hB.bi;rw [Zdx] at dg;refine ⟨_,rfl,_,.ty "str",_,_,rfl,rfl,.of (.str _),T.k_str_str,_,rfl,Z4 ⟨_,rfl,_,rfl,b,T.c_Book,dx,_,_,rfl,hB.ob,T.cl_Book,T.na_Book_births,Za0,bi,_,rfl,dg,_,rfl,?_⟩⟩;cases hb:Z3 n B.kept with
 |none=>exact Z2 ⟨few rfl,qe hb⟩
 |some p =>
  rw [hb] at dg;exact Z4 ⟨_,rfl,b,T.c_Book,dx,_,_,rfl,hB.ob,T.cl_Book,T.na_Book_births,Za0,_,rfl,bi,.ref p.2,rfl,dg,q p hb⟩
theorem ZlX (T:Tx K w mg) (Y6:UH P base T):ZbA P base T:=by
 refine Fun.okX (k:=1) T.Vf.F Znx (fun vs H Q E h=>h.1) (fun cdv A outer s H vs Q E hr h=>?_);obtain ⟨-,h⟩:=h;obtain ⟨v,x,B,rfl,hv,h⟩:=h;refine ⟨_,(Zl (Zy (Zm Zq (Ye (pv 0) T.cl_Book T.Y8.me Y6 (hr.mono (by decide)) T.Y8.b .nil YX (Za (pv 1) Zc)) Ze (fun _ _=>rfl)))),?_⟩;obtain ⟨b,dx,k,bi,li,ti,su,rfl,hB⟩:=id hv;refine ⟨_,rfl,b,dx,_,rfl,hB.ob,rfl,_,rfl,rfl,.ref b,x,B,rfl,hv,?_⟩;rcases h with ⟨ty,hk,ks,qe⟩|⟨n,rfl,qe,q⟩
 ·exact .inl ⟨ty,hk,ks,qe⟩
 refine .inr ⟨n,rfl,qe,fun p hp=>?_⟩;obtain ⟨hm,hn⟩:=Zay hp;have hE:=hB.en p hm
 obtain ⟨n',s,d,f,m,he⟩:∃n' s d f m,p.1=.born n' s d f m:=by
  cases e:p.1 with
  |born n' s d f m=>exact ⟨n',s,d,f,m,rfl⟩
  |_=>rw [e] at hn;cases hn
 rw [he] at hE;exact ⟨p.2,_,_,_,rfl,rfl,hE,Zh (j:=2) rfl,q p hp n' s d f m he⟩
theorem Znw (T:Tx K w mg) (Y6:UH P base T):Za1 P base T:=by
 refine Fun.okX (k:=1) T.Y9.F Zm1 (fun vs H Q E h=>h.1) (fun cdv A outer s H vs Q E hr h=>?_);obtain ⟨-,h⟩:=h;obtain ⟨v,x,B,rfl,hv,h⟩:=h;refine ⟨_,(Zl (Zy (Zm Zq (Ye (pv 0) T.cl_Book T.Y8.me Y6 (hr.mono (by decide)) T.Y8.b .nil YX (Za (pv 1) Zc)) Ze (fun _ _=>rfl)))),?_⟩;obtain ⟨b,dx,k,bi,li,ti,su,rfl,hB⟩:=id hv;refine ⟨_,rfl,b,dx,_,rfl,hB.ob,rfl,_,rfl,rfl,.ref b,x,B,rfl,hv,?_⟩;rcases h with ⟨ty,hk,ks,qe⟩|⟨n,rfl,qe,q⟩
 ·exact .inl ⟨ty,hk,ks,qe⟩
 refine .inr ⟨n,rfl,qe,fun p hp=>?_⟩;obtain ⟨hm,hn⟩:=Zay hp;have hE:=hB.en p hm
 obtain ⟨n',s,d,f,m,he⟩:∃n' s d f m,p.1=.born n' s d f m:=by
  cases e:p.1 with
  |born n' s d f m=>exact ⟨n',s,d,f,m,rfl⟩
  |_=>rw [e] at hn;cases hn
 rw [he] at hE;exact ⟨p.2,_,_,_,rfl,rfl,hE,Zh (j:=3) rfl,q p hp n' s d f m he⟩
theorem Zod (T:Tx K w mg) (UT:ZbA P base T) (XY:Za1 P base T):Zgy P base T:=by
 refine Fun.okX (k:=2) T.W8.F ZoN (fun vs H Q E h=>h.1) (fun cdv A outer s H vs Q E hr h=>?_);obtain ⟨-,h⟩:=h;obtain ⟨v,n,s,d,B,rfl,hv,kn,q⟩:=h;refine ⟨_,(Zl (Zy (ZfB (YJ Z1 (pv 1) Zs (Zu _)) (Xq (Xr (YJ Z1 (Ye (pv 0) T.cl_Book T.Vf.me UT (hr.mono (by decide)) T.Vf.b .nil YX (Za (pv 1) Zc)) (pv 2) (Zu _)) (Xq (YJ WD (Ye (pv 0) T.cl_Book T.Y9.me XY (hr.mono (by decide)) T.Y9.b .nil YX (Za (pv 1) Zc)) (pv 3) (Zu _)))))))),?_⟩;obtain ⟨b,dx,k,bi,li,ti,su,rfl,hB⟩:=id hv;refine ⟨_,rfl,rfl,_,rfl,?_⟩;by_cases hn:n=""
 ·have e:Xx B n s d=true:=by unfold Xx;rw [Qm hn];rfl
  rw [e] at q;exact Z0 (by rw [Xj];exact Qm hn) q
 refine Zt (by rw [Xj];exact Qj hn) ?_;have e0:Xx B n s d=(decide (X9 B n=s)&&decide (Yk B n<d)):=by unfold Xx;rw [Qj hn];rfl
 rw [e0] at q;refine ⟨_,rfl,b,dx,_,rfl,hB.ob,rfl,_,rfl,rfl,.ref b,.str n,B,rfl,hv,.inr ⟨n,rfl,fun no=>absurd no (kn hn),fun p hp n' s' d' f m he=>?_⟩⟩;rw [Zak hp he] at q;refine ⟨_,rfl,rfl,_,rfl,?_⟩;by_cases hs:s'=s
 ·rw [Qm hs,GL] at q;refine Z0 (by rw [Xj];exact Qm hs) ?_;refine ⟨_,rfl,b,dx,_,rfl,hB.ob,rfl,_,rfl,rfl,.ref b,.str n,B,rfl,hv,.inr ⟨n,rfl,fun no=>absurd no (kn hn),fun p2 hp2 n2 s2 d2 f2 m2 he2=>?_⟩⟩;rw [U9 hp2 he2] at q;exact ⟨_,rfl,_,_,rfl,rfl,q⟩
 ·rw [Qj hs,GQ] at q;exact Zt (by rw [Xj];exact Qj hs) q
theorem ZkF (T:Tx K w mg) (Ut:ZcN P base T) (Zc6:Zhv P base T) (XY:Za1 P base T) (ZaV:Zgy P base T):Zfl P base T:=by
 refine Fun.okX (k:=3) T.UF.F ZgH (fun vs H Q E h=>h.1) (fun cdv A outer s H vs Q E hr h=>?_);obtain ⟨-,h⟩:=h;obtain ⟨v,x,B,e,rfl,hv,hx,kn,q⟩:=h
 refine ⟨_,(Zj (ZI (ZA Z1 (Zm Zq (pv 1) Ze (fun _ _=>rfl)) Zs (Zu _)) (Zl (Zy (Xr (Ye (pv 0) T.cl_Book T.W8.me ZaV (hr.mono (by decide)) T.W8.b .nil YX (Za (Zm Zq (pv 1) Ze (fun _ _=>rfl)) (Za Zs (Za (Zm Zq (pv 1) Ze (fun _ _=>rfl)) Zc)))) (Xq (Ye (pv 0) T.cl_Book T.W8.me ZaV (hr.mono (by decide)) T.W8.b .nil YX (Za (Zm Zq (pv 1) Ze (fun _ _=>rfl)) (Za Zs (Za (Zm Zq (pv 1) Ze (fun _ _=>rfl)) Zc)))))))) ZK)
   (Zj (Zw (i:=2) ZgH.nd rfl (Or.inl rfl) (ZR Ut hr ZF (Za (pv 1) Zc)))
   (Zj (ZI (PW.pt (Wz (ZA Z1 (ZN Yw (by rfl) T.n_len Yd (Za (pv 2) Zc)) Ze (Zu _)) (WM (ZA Z1 (Zm Ym (pv 2) Ze (fun _ _=>rfl)) (Zm Ym (pv 2) Ze (fun _ _=>rfl)) (Zu _))))) (Zl (Zy Y5)) ZK)
   (Zj (ZI (PW.pt (Wz (ZA Z1 (Zm Zq (pv 1) Ze (fun _ _=>rfl)) Zs (Zu _)) (WM (ZA Jh (Ye (pv 0) T.cl_Book T.Y9.me XY (hr.mono (by decide)) T.Y9.b .nil YX (Za (Zm Zq (pv 1) Ze (fun _ _=>rfl)) Zc)) (Ye (pv 0) T.cl_Book T.Y9.me XY (hr.mono (by decide)) T.Y9.b .nil YX (Za (Zm Zq (pv 1) Ze (fun _ _=>rfl)) Zc)) (Zu _))))) (Zl (Zy Y5)) ZK)
   (Zl (Zy (ZN (Zdd rfl) (by rfl) T.n_all Zdf (Za (Uv rfl (XR (N:=["name","entry","self"]) ["self","entry"] [none,some 1,some 0] rfl (by decide +kernel) (by decide +kernel) (by rfl) (by rfl) (by rfl) (by rfl) (by rfl)) (Xa (pv 2)) (fun _ _ _=>(ZW (i:=0) ZiX rfl (Or.inl rfl))) (fun _ _ _=>Jb) (fun _ _ _=>(YJ Jh (ZR Zc6 hr ZF (Za (pv 1) Zc)) (Ye (pv 2) T.cl_Book T.Y9.me XY (hr.mono (by decide)) T.Y9.b .nil ZF (Za (pv 0) Zc)) (Zu _)))) Zc)))))))),?_⟩
 obtain ⟨b,dx,k,bi,li,ti,su,rfl,hB⟩:=id hv;obtain ⟨a,rfl,hE⟩:=id hx;by_cases hb:e.isBorn=true
 ·cases e with
  |born n s d f m =>
   have kf:f≠""->Known B f:=fun h=>kn f (by simp [Ent.named,h]);have km:m≠""->Known B m:=fun h=>kn m (by simp [Ent.named,h]);have q1:=q _ (Same.refl H);have ef:Wa B (.born n s d f m)=(Xx B f "he" d&&Xx B m "she" d):=rfl;rw [ef] at q1;refine ⟨_,rfl,a,_,_,_,rfl,rfl,hE,Zh (j:=0) rfl,rfl,_,rfl,Z0 (by decide +kernel) ⟨_,rfl,b,dx,_,rfl,hB.ob,rfl,_,rfl,a,_,_,_,rfl,rfl,hE,Zh (j:=4) rfl,_,rfl,a,_,_,_,rfl,rfl,hE,Zh (j:=3) rfl,rfl,.ref b,f,"he",d,B,rfl,hv,kf,_,rfl,YA (fun h1=>?_) (fun h1=>?_)⟩⟩
   ·rw [h1,GL] at q1;exact ⟨_,rfl,b,dx,_,rfl,hB.ob,rfl,_,rfl,a,_,_,_,rfl,rfl,hE,Zh (j:=5) rfl,_,rfl,a,_,_,_,rfl,rfl,hE,Zh (j:=3) rfl,rfl,.ref b,m,"she",d,B,rfl,hv,km,q1⟩
   ·rw [h1,GQ] at q1;exact q1
  |_=>cases hb
 replace hb:=Ru.mpr hb;rw [ZaG hb] at q
 have w0:∃w:Str,(e.row.map kV)[0]?=some (.str w)∧w≠"born":=by
  cases e with
  |born=>cases hb
  |_=>exact ⟨_,rfl,by decide +kernel⟩
 obtain ⟨w,hw,hwb⟩:=w0;refine ⟨_,rfl,a,_,_,_,rfl,rfl,hE,Zh hw,rfl,_,rfl,Zt (by rw [Xj];exact Qj hwb) ?_⟩;refine ⟨_,rfl,rfl,.ref a,e,rfl,hx,fun H1 D s1 nD hD=>?_⟩;dsimp only [ZX];refine YL (fun σ H2=>σ=[some (.ref b),some (.ref a),some (.ref D)]∧H2=H1∧e.same=false) (fun nx rest=>?_) (fun σ H2 hJ=>?_)
 ·cases e with
  |born=>cases hb
  |dead n d =>
   exact ⟨_,rfl,D,_,rfl,.inl hD,rfl,_,rfl,Zt rfl (Z4 (rest _ _ ⟨rfl,rfl,rfl⟩))⟩
  |_ =>
   refine ⟨_,rfl,D,_,rfl,.inl hD,rfl,_,rfl,Z0 rfl ⟨_,rfl,D,_,_,_,rfl,rfl,hD,Zh (j:=0) rfl,_,rfl,D,_,_,_,rfl,rfl,hD,Zh (j:=1) rfl,rfl,_,rfl,?_⟩⟩;refine YA (fun h1=>?_) (fun h1=>rest _ _ ⟨rfl,rfl,?_⟩)
   ·have q1:=q _ s1;rw [Xj] at h1;simp only [Ent.same,h1,Bool.not_true,GQ] at q1;exact q1
   ·rw [Xj] at h1;exact h1
 obtain ⟨rfl,rfl,hsame⟩:=hJ;have hv2:=hv.mono s1;have hB2:=hB.mono s1;have hE2:=s1.sqt hE;have kn2:∀n∈e.named,∀{P:Prop},Z3 n B.kept=none->P:=fun n h _ no=>absurd no (kn n h);rw [hsame] at q;refine YL (fun σ H3=>σ=[some (.ref b),some (.ref a),some (.ref D)]∧H3=H2∧e.early B=false) (fun nx rest=>?_) (fun σ H3 hJ=>?_)
 ·cases e with
  |born=>cases hb
  |taken c t d =>
   refine ⟨_,rfl,a,_,_,_,rfl,rfl,hE2,Zh (j:=0) rfl,rfl,_,rfl,Z0 (by decide +kernel) ?_⟩;refine ⟨_,rfl,b,dx,_,rfl,hB2.ob,rfl,_,rfl,a,_,_,_,rfl,rfl,hE2,Zh (j:=2) rfl,rfl,.ref b,.str t,B,rfl,hv2,.inr ⟨t,rfl,kn2 t (by simp [Ent.named]),fun p hp n' s' d' f m he=>?_⟩⟩;refine ⟨_,rfl,b,dx,_,rfl,hB2.ob,rfl,_,rfl,a,_,_,_,rfl,rfl,hE2,Zh (j:=1) rfl,rfl,.ref b,.str c,B,rfl,hv2,.inr ⟨c,rfl,kn2 c (by simp [Ent.named]),fun p2 hp2 n2 s2 d2 f2 m2 he2=>?_⟩⟩;have e1:=U9 hp he;have e2:=U9 hp2 he2;refine ⟨_,_,rfl,rfl,_,rfl,YA (fun h1=>?_) (fun h1=>rest _ _ ⟨rfl,rfl,?_⟩)⟩
   ·have q1:=q _ s1
    have e3:(Ent.taken c t d).early B=true:=by
     show decide (Yk B c≤Yk B t)=true;rw [e1,e2];exact h1
    rw [e3] at q1;exact q1
   ·show decide (Yk B c≤Yk B t)=false;rw [e1,e2];exact h1
  |_=>exact ⟨_,rfl,a,_,_,_,rfl,rfl,hE2,Zh (j:=0) rfl,rfl,_,rfl,Zt (by decide +kernel) (Z4 (rest _ _ ⟨rfl,rfl,rfl⟩))⟩
 obtain ⟨rfl,rfl,hearly⟩:=hJ;rw [hearly] at q;refine ⟨_,rfl,D,rfl,⟨_,hD⟩,Za9 (e.named.map fun n=>V.bl (decide (Yk B n≤e.day))) ?len (fun σ=>∃v,σ=[v,some (.ref a),some (.ref b)]) ⟨_,rfl⟩ (fun i H3 hi sm=>?go) (fun H3 sm=>?stop) (fun i σ H3 x H4 y hy hσ sm hx2 C hC=>?step) (fun D2 H3 nD2 sm hD2=>?fin)⟩
 case len =>
  refine Zz ?_;rw [Qd];cases e with
  |born=>cases hb
  |_=>exact QG rfl
 case go =>
  have hi':i<(e.named.map V.str).length:=by rw [Qd] at hi ⊢;exact hi
  exact ⟨_,_,sm.sql hD,Qx hi'⟩
 case stop=>exact ⟨_,sm.sql hD,by simp⟩
 case step =>
  obtain ⟨v,rfl⟩:=hσ;obtain ⟨rfl,hx3⟩:=hx2;have e1:=hx3 _ (sm.sql hD);rw [Qw] at e1 hy;obtain ⟨n,hn,rfl⟩:=QR.mp e1;rw [hn] at hy;obtain rfl:V.bl (decide (Yk B n≤e.day))=y:=Qn hy;have hB3:=hB2.mono sm;refine ⟨_,rfl,rfl,.ref a,e,rfl,hx.mono (s1.trans sm),_,rfl,b,dx,_,rfl,hB3.ob,rfl,_,rfl,rfl,.ref b,.str n,B,rfl,hv2.mono sm,.inr ⟨n,rfl,kn2 n (QD hn),fun p hp n' s' d' f m he=>⟨_,_,rfl,rfl,?_⟩⟩⟩;rw [U9 hp he] at hC;exact hC _ _ ⟨_,rfl⟩ (Same.refl _)
 case fin =>
  refine ⟨D2,e.named.map fun n=>decide (Yk B n≤e.day),rfl,by rw [hD2,QX];rfl,?_⟩;have q1:=q _ (s1.trans sm);rw [G8];exact q1
theorem Zkn (T:Tx K w mg) (ZdM:ZeQ P base T) (Ut:ZcN P base T) (V4:Zdl P base T) (Y6:UH P base T) (ZdZ:Zfl P base T):Zd2 P base T:=by
 refine Fun.okX (k:=4) T.Uy.F ZfO (fun vs H Q E h=>h.1) (fun cdv A outer s H vs Q E hr h=>?_);obtain ⟨-,h⟩:=h;obtain ⟨v,x,B,e,rfl,hv,hx,hok,no,q⟩:=h
 refine ⟨_,(Zj (ZI (Xk (YZ (ZR ZdM hr ZF (Za (pv 1) Zc)))) (Zl (Vv (by rfl) T.m_NoEntry T.x_NoEntry EB rfl Vy (Za Zs Zc))) ZK)
   (Zj (ZI (ZA Jh (ZN Zlq (by rfl) T.n_len Yd (Za (Xl (pv 0) rfl) Zc)) (VN (v:=.int 400) (by rfl) T.m_MOST_ENTRIES ⟨_,rfl⟩) (Zu _)) (Zl (Vv (by rfl) T.m_Full T.x_Full EB rfl Vy (Za Zs Zc))) ZK)
   (Zj (ZI (PW.pt (Wz (ZA Z1 (Zm Zq (pv 1) Ze (fun _ _=>rfl)) Zs (Zu _)) (WM (ZA Jh (ZN J8 (by rfl) T.n_len Yd (Za (Xl (pv 0) rfl) Zc)) (VN (v:=.int 60) (by rfl) T.m_MOST_PEOPLE ⟨_,rfl⟩) (Zu _))))) (Zl (Vv (by rfl) T.m_Full T.x_Full EB rfl Vy (Za Zs Zc))) ZK)
   (Zj (Yv QH rfl (Xa (ZR Ut hr ZF (Za (pv 1) Zc))) (ZW (i:=2) ZfO.nd rfl (Or.inl rfl))
    (Zl (Yc (Ye (pv 0) T.cl_Book T.Y8.me Y6 (hr.mono (by decide)) T.Y8.b .nil YX (Za (pv 2) Zc)))))
   (Zj (ZI (Um (ZcO (ZV hr) (ZR V4 hr ZF (Za (pv 1) Zc)) (Xl (pv 0) rfl))) (Zl (Vv (by rfl) T.m_Twice T.x_Twice EB rfl Vy (Za Zs Zc))) ZK)
   (Zl (ZI (Xk (YZ (Ye (pv 0) T.cl_Book T.UF.me ZdZ (hr.mono (by decide)) T.UF.b .nil YX (Za (pv 1) Zc)))) (Zl (Vv (by rfl) T.m_NoFit T.x_NoFit EB rfl Vy (Za Zs Zc))) ZK))))))),?_⟩
 obtain ⟨b,dx,k,bi,li,ti,su,rfl,hB⟩:=id hv;obtain ⟨h400,h60,kn',h1,hf⟩:=Zd5 no;obtain ⟨a,rfl,hE⟩:=id hx;refine ⟨_,rfl,rfl,.ref a,rfl,.inr ⟨e.row.map JS,hok.tv hE,e.row_len,fun H1 s1=>⟨_,rfl,?_⟩⟩⟩;rw [hok.en];have hB1:=hB.mono s1;have hE1:=s1.sqt hE;have hlen:B.keptD.length=B.kept.length:=Qd ..;refine Z4 ⟨_,rfl,b,T.c_Book,dx,_,_,rfl,hB1.ob,T.cl_Book,T.na_Book_kept,ZdD,k,_,rfl,hB1.ke,_,_,rfl,rfl,_,rfl,Zt (Qj (by rw [hlen];omega)) ?_⟩;dsimp only [Zb6];refine YL (fun σ H2=>σ=[some (.ref b),some (.ref a),none]∧H2=H1) (fun nx rest=>?_) (fun σ H2 hJ=>?_)
 ·cases e with
  |born n s d f m=>exact ⟨_,rfl,a,_,_,_,rfl,rfl,hE1,Zh (j:=0) rfl,rfl,_,rfl,Z0 (by decide +kernel) ⟨_,rfl,b,T.c_Book,dx,_,_,rfl,hB1.ob,T.cl_Book,T.na_Book_births,Za0,bi,_,rfl,hB1.bi,_,_,rfl,rfl,_,rfl,Zt (Qj (by have:=h60 rfl;omega)) (rest _ _ ⟨rfl,rfl⟩)⟩⟩
  |_=>exact ⟨_,rfl,a,_,_,_,rfl,rfl,hE1,Zh (j:=0) rfl,rfl,_,rfl,Zt (by decide +kernel) (Z4 (rest _ _ ⟨rfl,rfl⟩))⟩
 obtain ⟨rfl,rfl⟩:=hJ;refine ⟨_,rfl,rfl,.ref a,e,rfl,hx.mono s1,fun H2 D s2 nD hD=>⟨D,rfl,⟨_,hD⟩,Wp (xs:=e.named.map V.str) (fun i σ H3=>(∃v,σ=[some (.ref b),some (.ref a),v])∧Same H2 H3) ⟨⟨_,rfl⟩,Same.refl _⟩ ?sq ?turn ?done⟩⟩
 case sq =>
  rintro i σ H3 hi ⟨_,s3⟩;exact s3.sql hD
 case turn =>
  rintro i x σ H3 hx3 ⟨⟨v,rfl⟩,s3⟩;rw [Qw] at hx3;obtain ⟨n,hn,rfl⟩:=QR.mp hx3;have sa:=s1.trans (s2.trans s3);have hB3:=hB.mono sa;exact ⟨_,rfl,b,dx,_,rfl,hB3.ob,rfl,_,rfl,rfl,.ref b,.str n,B,rfl,hv.mono sa,.inr ⟨n,rfl,fun no=>absurd no (kn' n (QD hn)),fun p hp=>⟨⟨_,rfl⟩,s3⟩⟩⟩
 case done =>
  rintro σ H3 ⟨⟨v,rfl⟩,s3⟩;have sa:=s1.trans (s2.trans s3);refine ⟨_,rfl,rfl,.ref a,e,rfl,hx.mono sa,fun H4 p s4 np hp=>?_⟩;have sb:=sa.trans s4;have hB4:=hB.mono sb;have dg:=DGet.t hB4.ke hp;rw [h1] at dg;refine ⟨_,rfl,b,T.c_Book,dx,_,_,rfl,hB4.ob,T.cl_Book,T.na_Book_kept,ZdD,k,_,rfl,dg,_,rfl,Z4 ?_⟩;refine ⟨_,rfl,b,dx,_,rfl,hB4.ob,rfl,_,rfl,rfl,.ref b,.ref a,B,e,rfl,hv.mono sb,hx.mono sb,kn',fun H5 s5=>⟨_,rfl,?_⟩⟩;rw [hf];exact Z4 (q _ (sb.trans s5))
theorem Zln (T:Tx K w mg)  : ZaS P base T:=by
 refine Fun.okX (k:=0) T.Y0.F ZoF (fun vs H Q E h=>h.1) (fun cdv A outer s H vs Q E hr h=>?_);obtain ⟨-,h⟩:=h;obtain ⟨b,dx,k,bi,li,ti,su,B,l,n,m,rfl,hB,hl,hz,q⟩:=h;refine ⟨_,(Zl (XQ (ZV hr) (Xl (pv 0) rfl) (ZY (Za (pv 1) (Za (pv 2) Zc))) (ZN (Zot K) (by rfl) T.n_sorted Zc9 (Za (Zn Zb5 (UP (ZV hr) (Xl (pv 0) rfl) (ZY (Za (pv 1) (Za (pv 2) Zc))) (Yi Zc) ⟨rfl,rfl,rfl,rfl⟩) (Yi (Za (pv 3) Zc))) Zc)) rfl)),?_⟩;refine ⟨_,rfl,b,T.c_Book,dx,_,_,rfl,hB.ob,T.cl_Book,T.na_Book_links,Zbe,li,rfl,.inr ⟨_,.inl hB.li⟩,_,rfl,_,rfl,few rfl,fun t nt=>⟨few rfl,fun z nz=>?_⟩⟩;have s1:=Zk (o:=.tup [.str l,.str n]) nt;have s2:=Zk (o:=.lst []) nz;have s3:=s1.trans s2;have hz0:(Zb (Zb H t (.tup [.str l,.str n])) z (.lst [])) z=some (.lst []):=Zg;have dg:=DGet.t (k:=Zo (l,n)) (s3 _ _ hB.li) (s2 _ _ (Zg (o:=.tup [.str l,.str n])));generalize Zb (Zb H t (.tup [.str l,.str n])) z (.lst [])=H2 at *;rw [show B.linksD=B.links.map fun q=>(Zo q.1,V.ref q.2.1) from rfl,Wb] at dg
 have rest:∀(D:Addr) (H3:Hp),Same H H3->H D=none->H3 D=some (.lst ((ZC (Yy B l n++[m])).map V.str))->Zhp K (Js 0) "links" (L2.start ["self","letter","begin","end"] [.ref b,.str l,.str n,.str m]) H3 fun x H4=>(ZfY (Zb3 (Js 1) (Zb3 (Js 2) ZdP))) (L2.start ["self","letter","begin","end"] [.ref b,.str l,.str n,.str m]) H4 fun y H5=>∃a H6,x=.ref a∧DPut H5 a y (.ref D) H6∧Q .non H6:=by
  intro D H3 sA nD0 hD;have hB3:=hB.mono sA;refine ⟨_,rfl,b,T.c_Book,dx,_,_,rfl,hB3.ob,T.cl_Book,T.na_Book_links,Zbe,_,rfl,_,rfl,few rfl,fun t2 nt2=>?_⟩;have sB:=Zk (o:=.tup [.str l,.str n]) nt2;have hB4:=hB3.mono sB;refine ⟨li,_,rfl,DPut.t (k:=Zo (l,n)) hB4.li Zg ?_,?_⟩
  ·rw [show B.linksD.length=B.links.length from Qd ..];exact Zz (by omega)
  rw [show B.linksD=B.links.map fun q=>(Zo q.1,V.ref q.2.1) from rfl,Uz (f:=Zo) (fun _ _=>WF) (fun p:Addr×List Str=>V.ref p.1) B.links (l,n) (D,ZC (Yy B l n++[m]))];refine q _ D (hB4.links fun q hq=>?_) ((But.of [li] (sA.trans sB)).trans (But.put hB4.li (by simp))) nD0;rcases Ux hq with rfl|hq
  ·exact sB _ _ hD
  ·exact hB4.ll q hq
 refine ⟨_,dg,?_⟩;cases hk:ZB (l,n) B.links with
 |none =>
   have e:Yy B l n=[]:=by unfold Yy;rw [hk];rfl
   have hX:H2 z=some (.lst ((Yy B l n).map V.str)):=by rw [e];exact hz0
   refine ⟨_,rfl,few rfl,fun y ny=>⟨z,y,_,_,rfl,rfl,(Zd (ZO hX ny)).trans hX,Zg,?len,fun p np=>⟨p,Yy B l n++[m],rfl,.of (by rw [Zg,Qr];rfl),?len2,fun D zs nD perm so=>?go⟩⟩⟩
   case len=>rw [Qd];exact QY (Zz (by show _+1≤1000;omega))
   case len2=>rw [Qu];show _+1<64;omega
   have s4:=(s3.trans (Zk ny)).trans ((Zk np).trans (Zk (o:=.lst (zs.map V.str)) nD));have hDD:(Zb (Zb (Zb H2 y (.lst [V.str m])) p (.lst ((Yy B l n).map V.str++[V.str m]))) D (.lst (zs.map V.str))) D=some (.lst (zs.map V.str)):=Zg;rw [ZfH perm so] at hDD s4 ⊢;exact rest D _ s4 (ZJ ((s3.trans (Zk ny)).trans (Zk np)) nD) hDD
 |some x =>
   have e:Yy B l n=x.2:=by unfold Yy;rw [hk];rfl
   obtain ⟨y0,hy0,ey⟩:=Zbs hk;have hl2:=hB.ll y0 hy0;rw [ey] at hl2;have hX:H2 x.1=some (.lst ((Yy B l n).map V.str)):=by rw [e];exact (s3 _ _ hl2)
   refine ⟨_,rfl,few rfl,fun y ny=>⟨x.1,y,_,_,rfl,rfl,(Zd (ZO hX ny)).trans hX,Zg,?lenb,fun p np=>⟨p,Yy B l n++[m],rfl,.of (by rw [Zg,Qr];rfl),?len2b,fun D zs nD perm so=>?gob⟩⟩⟩
   case lenb=>rw [Qd];exact QY (Zz (by show _+1≤1000;omega))
   case len2b=>rw [Qu];show _+1<64;omega
   have s4:=(s3.trans (Zk ny)).trans ((Zk np).trans (Zk (o:=.lst (zs.map V.str)) nD));have hDD:(Zb (Zb (Zb H2 y (.lst [V.str m])) p (.lst ((Yy B l n).map V.str++[V.str m]))) D (.lst (zs.map V.str))) D=some (.lst (zs.map V.str)):=Zg;rw [ZfH perm so] at hDD s4 ⊢;exact rest D _ s4 (ZJ ((s3.trans (Zk ny)).trans (Zk np)) nD) hDD
theorem Zob (T:Tx K w mg) (XC:ZaS P base T):ZeS P base T:=by
 refine Fun.okX (k:=1) T.V9.F Zmo (fun vs H Q E h=>h.1) (fun cdv A outer s H vs Q E hr h=>?_);obtain ⟨-,h⟩:=h;obtain ⟨b,dx,k,bi,li,ti,su,B0,B,n,s,d,f,m,a,rfl,hk,hb,hbi,no,hl0,hE,hB,hz,hc,q⟩:=h
 refine ⟨_,(Zj (XQ (ZV hr) (Xl (pv 0) rfl) (Zm Zq (pv 1) Ze (fun _ _=>rfl)) (pv 1) rfl)
   (Zj (ZI (ZA WB (Zm Zq (pv 1) Ze (fun _ _=>rfl)) Zs (Zu _)) (Zj (Yc (Ye (pv 0) T.cl_Book T.Y0.me XC (hr.mono (by decide)) T.Y0.b .nil ZF (Za Zs (Za (Zm Zq (pv 1) Ze (fun _ _=>rfl)) (Za (Zm Zq (pv 1) Ze (fun _ _=>rfl)) Zc)))))
   (Zl (Yc (Ye (pv 0) T.cl_Book T.Y0.me XC (hr.mono (by decide)) T.Y0.b .nil ZF (Za Zs (Za (Zm Zq (pv 1) Ze (fun _ _=>rfl)) (Za (Zm Zq (pv 1) Ze (fun _ _=>rfl)) Zc))))))) ZK)
   (Zl (ZI (ZA WB (Zm Zq (pv 1) Ze (fun _ _=>rfl)) Zs (Zu _)) (Zj (Yc (Ye (pv 0) T.cl_Book T.Y0.me XC (hr.mono (by decide)) T.Y0.b .nil ZF (Za Zs (Za (Zm Zq (pv 1) Ze (fun _ _=>rfl)) (Za (Zm Zq (pv 1) Ze (fun _ _=>rfl)) Zc)))))
   (Zl (Yc (Ye (pv 0) T.cl_Book T.Y0.me XC (hr.mono (by decide)) T.Y0.b .nil ZF (Za Zs (Za (Zm Zq (pv 1) Ze (fun _ _=>rfl)) (Za (Zm Zq (pv 1) Ze (fun _ _=>rfl)) Zc))))))) ZK)))),?_⟩
 have hb0:ZM (Bk.bornD B0) (.inr n:Zi)=none:=by rw [Zdx,no];rfl
 refine ⟨_,rfl,_,rfl,b,T.c_Book,dx,_,_,rfl,hb,T.cl_Book,T.na_Book_births,Za0,_,rfl,a,_,_,_,rfl,rfl,hE,Zh (j:=1) rfl,bi,_,rfl,DPut.k (k:=.inr n) hbi (Zz (Qo (Qo (Zkt B0) hl0) (by decide))),?_⟩;rw [UK _ hb0,←Zjt B0 n s d f m a,←hk];have bt0:But [bi,li] H (Zb H bi (.dK (Bk.bornD B.kept))):=But.put hbi (by simp);generalize Zb H bi (.dK (Bk.bornD B.kept))=H3 at *;have hmem:(Ent.born n s d f m,a)∈B.kept:=by rw [hk];simp
 dsimp only [Zb6];refine YL (fun σ H4=>σ=[some (.ref b),some (.ref a)]∧∃ls,BkAt K T.c_Book H4 b dx k bi li ti su { B with links:=ls }∧(∀c,lk ls c=(if f="" then lk B.links else Z7 (Z7 (lk B.links) ("F",n) f) ("f",f) n) c)∧ls.length≤B.links.length+2∧But [bi,li] H H4∧Grows H B.links ls) (fun nx rest=>?_) (fun σ H4 hJ=>?_)
 ·have hE3:=hB.en _ hmem;refine ⟨_,rfl,a,_,_,_,rfl,rfl,hE3,Zh (j:=4) rfl,rfl,_,rfl,?_⟩;by_cases f0:f=""
  ·refine Zt (by show (!decide (V.str f=V.str ""))=false;rw [Xj,Qm f0];rfl) (rest _ _ ⟨rfl,B.links,hB,fun c=>by rw [Qc f0],by omega,bt0,Grows.refl _ _⟩)
  have ⟨ls,hls,hB4,hF⟩:∃ls,ls=B.links∧BkAt K T.c_Book H3 b dx k bi li ti su { B with links:=ls }∧∀c,lk ls c=lk B.links c:=⟨B.links,rfl,hB,fun c=>rfl⟩;have hz2:ls.length≤890:=by rw [hls];exact hz
  have hz3:ls.length≤B.links.length:=by rw [hls];exact Qf _
  refine Z0 (by show (!decide (V.str f=V.str ""))=true;rw [Xj,Qj f0];rfl) ?_;have hE4:=hB4.en _ hmem;refine ⟨_,rfl,b,dx,_,rfl,hB4.ob,rfl,_,rfl,a,_,_,_,rfl,rfl,hE4,Zh (j:=1) rfl,_,rfl,a,_,_,_,rfl,rfl,hE4,Zh (j:=4) rfl,rfl,b,dx,k,bi,li,ti,su,{ B with links:=ls },"F",n,f,rfl,hB4,?p1,?p2,fun H5 D5 hB5 bt5 nD5=>?p3⟩
  case p1=>rw [VO,hF];exact hc _
  case p2=>show ls.length≤900;omega
  have hE5:=hB5.en _ hmem;refine ⟨_,rfl,b,dx,_,rfl,hB5.ob,rfl,_,rfl,a,_,_,_,rfl,rfl,hE5,Zh (j:=4) rfl,_,rfl,a,_,_,_,rfl,rfl,hE5,Zh (j:=1) rfl,rfl,b,dx,k,bi,li,ti,su,_,"f",f,n,rfl,hB5,?p4,?p5,fun H6 D6 hB6 bt6 nD6=>?p6⟩
  case p4 =>
   rw [VO];show (lk (Zp ls _ (D5,ZC (lk ls ("F",n)++[f]))) _).length≤61;rw [WJ,JN (show Str.ofString "f"≠Str.ofString "F" by decide +kernel),hF];exact hc _
  case p5 =>
   have:=XG ls ("F",n) (D5,ZC (lk ls ("F",n)++[f]));show (Zp ls _ (D5,ZC (lk ls ("F",n)++[f]))).length≤900;omega
  refine rest _ _ ⟨rfl,_,hB6,fun c=>?_,?_,?_,((hls▸Grows.refl _ _:Grows H B.links ls).put (bt0.al _ nD5)).put (bt0.al _ (bt5.al _ nD6))⟩
  ·show lk (Zp (Zp ls ("F",n) (D5,ZC (lk ls ("F",n)++[f]))) ("f",f) (D6,ZC (lk (Zp ls ("F",n) (D5,ZC (lk ls ("F",n)++[f]))) ("f",f)++[n]))) c=_;rw [WJ];rw [Qa f0];exact JW (fun c=>(WJ ..).trans (JW hF ..)) ..
  ·have a1:=XG ls ("F",n) (D5,ZC (lk ls ("F",n)++[f]));have a2:=XG (Zp ls ("F",n) (D5,ZC (lk ls ("F",n)++[f]))) ("f",f) (D6,ZC (lk (Zp ls ("F",n) (D5,ZC (lk ls ("F",n)++[f]))) ("f",f)++[n]));show (Zp (Zp ls ("F",n) (D5,ZC (lk ls ("F",n)++[f]))) ("f",f) (D6,ZC (lk (Zp ls ("F",n) (D5,ZC (lk ls ("F",n)++[f]))) ("f",f)++[n]))).length≤_;omega
  ·exact bt0.trans ((bt5.mono (by simp)).trans (bt6.mono (by simp)))
 obtain ⟨rfl,ls,hB4,hF,hl4,bt4,gr⟩:=hJ;have hE3:=hB4.en _ hmem;refine ⟨_,rfl,a,_,_,_,rfl,rfl,hE3,Zh (j:=5) rfl,rfl,_,rfl,?_⟩;by_cases m0:m=""
 ·refine Zt (by show (!decide (V.str m=V.str ""))=false;rw [Xj,Qm m0];rfl) (q _ ls hB4 (fun c=>?_) (by omega) bt4 gr);unfold Xc;rw [Qc m0];exact hF c
 ·have h1:∀c:Str×Str,c.1≠"F"->c.1≠"f"->((if f="" then lk B.links else Z7 (Z7 (lk B.links) ("F",n) f) ("f",f) n) c).length≤61:=by
   intro c c1 c2;by_cases f0:f=""
   ·rw [Qc f0];exact hc c
   ·rw [Qa f0,JN c2,JN c1];exact hc c
  refine Z0 (by show (!decide (V.str m=V.str ""))=true;rw [Xj,Qj m0];rfl) ?_;have hE4:=hB4.en _ hmem;refine ⟨_,rfl,b,dx,_,rfl,hB4.ob,rfl,_,rfl,a,_,_,_,rfl,rfl,hE4,Zh (j:=1) rfl,_,rfl,a,_,_,_,rfl,rfl,hE4,Zh (j:=5) rfl,rfl,b,dx,k,bi,li,ti,su,{ B with links:=ls },"M",n,m,rfl,hB4,?r1,?r2,fun H5 D5 hB5 bt5 nD5=>?r3⟩
  case r1=>rw [VO,hF];exact (h1 _ (show Str.ofString "M"≠Str.ofString "F" by decide +kernel) (show Str.ofString "M"≠Str.ofString "f" by decide +kernel))
  case r2=>show ls.length≤900;omega
  have hE5:=hB5.en _ hmem;refine ⟨_,rfl,b,dx,_,rfl,hB5.ob,rfl,_,rfl,a,_,_,_,rfl,rfl,hE5,Zh (j:=5) rfl,_,rfl,a,_,_,_,rfl,rfl,hE5,Zh (j:=1) rfl,rfl,b,dx,k,bi,li,ti,su,_,"m",m,n,rfl,hB5,?r4,?r5,fun H6 D6 hB6 bt6 nD6=>?r6⟩
  case r4 =>
   rw [VO];show (lk (Zp ls _ (D5,ZC (lk ls ("M",n)++[m]))) _).length≤61;rw [WJ,JN (show Str.ofString "m"≠Str.ofString "M" by decide +kernel),hF];exact (h1 _ (show Str.ofString "m"≠Str.ofString "F" by decide +kernel) (show Str.ofString "m"≠Str.ofString "f" by decide +kernel))
  case r5 =>
   have:=XG ls ("M",n) (D5,ZC (lk ls ("M",n)++[m]));show (Zp ls _ (D5,ZC (lk ls ("M",n)++[m]))).length≤900;omega
  refine q _ _ hB6 (fun c=>?_) ?_ ?_ ((gr.put (bt4.al _ nD5)).put (bt4.al _ (bt5.al _ nD6)))
  ·show lk (Zp (Zp ls ("M",n) (D5,ZC (lk ls ("M",n)++[m]))) ("m",m) (D6,ZC (lk (Zp ls ("M",n) (D5,ZC (lk ls ("M",n)++[m]))) ("m",m)++[n]))) c=_;rw [WJ];unfold Xc;rw [Qa m0];exact JW (fun c=>(WJ ..).trans (JW hF ..)) ..
  ·have a1:=XG ls ("M",n) (D5,ZC (lk ls ("M",n)++[m]));have a2:=XG (Zp ls ("M",n) (D5,ZC (lk ls ("M",n)++[m]))) ("m",m) (D6,ZC (lk (Zp ls ("M",n) (D5,ZC (lk ls ("M",n)++[m]))) ("m",m)++[n]));show (Zp (Zp ls ("M",n) (D5,ZC (lk ls ("M",n)++[m]))) ("m",m) (D6,ZC (lk (Zp ls ("M",n) (D5,ZC (lk ls ("M",n)++[m]))) ("m",m)++[n]))).length≤_;omega
  ·exact bt4.trans ((bt5.mono (by simp)).trans (bt6.mono (by simp)))
theorem Zn9 (T:Tx K w mg) (ZbJ:ZfZ P base T) (Y6:UH P base T):ZbY P base T:=by
 refine Fun.okX (k:=1) T.W7.F ZoD (fun vs H Q E h=>h.1) (fun cdv A outer s H vs Q E hr h=>?_);obtain ⟨-,h⟩:=h;obtain ⟨v,x,y,B,rfl,hv,h⟩:=h
 refine ⟨_,(Zj (ZI (Xk (YZ (ZR ZbJ hr ZF (Za (pv 1) Zc)))) (Zl (Vv (by rfl) T.m_NoWay T.x_NoWay EB rfl Vy (Za Zs Zc))) ZK)
   (Zj (Yc (Ye (pv 0) T.cl_Book T.Y8.me Y6 (hr.mono (by decide)) T.Y8.b .nil YX (Za (pv 2) Zc)))
   (Zl (Zy (VX Ze2 (by rfl) T.n_list UZ (Za (UP (ZV hr) (Xl (pv 0) rfl) (ZY (Za (pv 1) (Za (pv 2) Zc))) (Yi Zc) ⟨rfl,rfl,rfl,rfl⟩) Zc)))))),?_⟩
 obtain ⟨b,dx,k,bi,li,ti,su,rfl,hB⟩:=id hv;rcases h with ⟨ty,hk,ks,qe⟩|⟨l,rfl,q1,q23⟩
 ·exact ⟨_,rfl,rfl,x,rfl,.inl ⟨ty,hk,ks,_,rfl,Z2 ⟨few rfl,qe⟩⟩⟩
 refine ⟨_,rfl,rfl,.str l,rfl,.inr ⟨l,rfl,_,rfl,?_⟩⟩;cases hl:V2 l with
 |false=>exact Z2 ⟨few rfl,q1 hl⟩
 |true =>
  refine Z4 ⟨_,rfl,b,dx,_,rfl,hB.ob,rfl,_,rfl,rfl,.ref b,y,B,rfl,hv,?_⟩;rcases q23 hl with ⟨ty,hk,ks,qe⟩|⟨n,rfl,q2,q3⟩
  ·exact .inl ⟨ty,hk,ks,qe⟩
  refine .inr ⟨n,rfl,q2,fun p hp=>?_⟩;have kn:Known B n:=by unfold Known;rw [hp];simp
  refine ⟨_,rfl,b,T.c_Book,dx,_,_,rfl,hB.ob,T.cl_Book,T.na_Book_links,Zbe,li,rfl,.inr ⟨_,.inl hB.li⟩,_,rfl,_,rfl,few rfl,fun t nt=>⟨few rfl,fun z nz=>?_⟩⟩;have s1:=Zk (o:=.tup [.str l,.str n]) nt;have s2:=Zk (o:=.lst []) nz;have s3:=s1.trans s2;have dg:=DGet.t (k:=Zo (l,n)) (s3 _ _ hB.li) (s2 _ _ (Zg (o:=.tup [.str l,.str n])));rw [show B.linksD=B.links.map fun q=>(Zo q.1,V.ref q.2.1) from rfl,Wb] at dg;refine ⟨_,dg,?_⟩;cases hk:ZB (l,n) B.links with
  |none =>
   have e:Yy B l n=[]:=by unfold Yy;rw [hk];rfl
   rw [e] at q3;exact ⟨z,[],rfl,.inl (.of Zg),fun D nD=>q3 kn _ D (s3.trans (Zk nD)) (ZJ s3 nD) Zg⟩
  |some x =>
   have e:Yy B l n=x.2:=by unfold Yy;rw [hk];rfl
   rw [e] at q3;obtain ⟨y,hy,ey⟩:=Zbs hk;have hl2:=hB.ll y hy;rw [ey] at hl2;exact ⟨x.1,_,rfl,.inl (.of (s3 _ _ hl2)),fun D nD=>q3 kn _ D (s3.trans (Zk nD)) (ZJ s3 nD) Zg⟩
theorem Zja (T:Tx K w mg) (Uu:ZcZ P base T) (Y6:UH P base T):ZfJ P base T:=by
 refine FunD.okX (k:=1) T.F_Book_stands Zc0 (fun vs H Q E h=>h.1) (fun cdv A outer s H vs Q E hr h=>?_);obtain ⟨-,h⟩:=h;obtain ⟨v,a,c,B,rfl,hv,ka,kc,hlen,q⟩:=h
 refine ⟨_,(Zj (Yc (Ye (pv 0) T.cl_Book T.Y8.me Y6 (hr.mono (by decide)) T.Y8.b .nil YX (Za (pv 1) Zc)))
   (Zj (Yc (Ye (pv 0) T.cl_Book T.Y8.me Y6 (hr.mono (by decide)) T.Y8.b .nil YX (Za (pv 2) Zc)))
   (Zj (Zw (i:=4) Zc0.nd rfl (Or.inl rfl) (UP (ZV hr) (Xl (pv 0) rfl) (ZR Uu hr ZF (Za (pv 1) (Za (pv 2) Zc))) Ui ⟨rfl,rfl,rfl,rfl⟩))
   (Zj (ZdU (Vh (i:=5) rfl  Zc0.nd rfl (Or.inl rfl) (XR (N:=["tied_on","day"]) ["day"] [none,some 3] rfl (by decide +kernel) (by decide +kernel) (by rfl) (by rfl) (by rfl) (by rfl) (by rfl)) (ZcX (pv 4)) (fun _ _ _=>(ZW (i:=0) ZkS rfl (Or.inl rfl))) (fun _ _ _=>(WR (PW.pt (XB (ZA Zdj (pv 1) Vp (Zu _)) (Wd (ZA ZdG (pv 0) (pv 1) (Zu _))))))) (fun _ _ _=>(pv 0))))
   (Zl (Zy (Xr (YJ Wq (ZN Yw (by rfl) T.n_len Yd (Za (pv 5) Zc)) Ze (Zu _)) (Xq (YJ Z1 (Xg (ZV hr) (pv 4) (ZN (Zl4 K rfl) (by rfl) T.n_max JG (Za (pv 5) Zc)) (fun _ _=>rfl)) Zs (Zu _)))))))))),?_⟩
 obtain ⟨b,dx,k,bi,li,ti,su,rfl,hB⟩:=id hv;refine ⟨_,rfl,b,dx,_,rfl,hB.ob,rfl,_,rfl,rfl,.ref b,.str a,B,rfl,hv,.inr ⟨a,rfl,fun no=>absurd no ka,fun p1 hp1=>?_⟩⟩;refine ⟨_,rfl,b,dx,_,rfl,hB.ob,rfl,_,rfl,rfl,.ref b,.str c,B,rfl,hv,.inr ⟨c,rfl,fun no=>absurd no kc,fun p2 hp2=>?_⟩⟩;dsimp only;refine YL (fun σ' H'=>∃d,σ'=[some (.ref b),some (.str a),some (.str c),some .non,some (.ref d),none]∧Same H H'∧H' d=some (.dK (YQ (Yz B (Zf a c))))) (fun nx hnx=>?_) ?_
 ·refine ⟨_,rfl,b,T.c_Book,dx,_,_,rfl,hB.ob,T.cl_Book,T.na_Book_ties,ZhB,ti,rfl,.inr ⟨_,.inl hB.ti⟩,_,rfl,_,rfl,rfl,a,c,rfl,fun H1 t s1 nt ht=>fun z nz=>?_⟩;have s2:=Zk (o:=.dK []) nz;have s3:=s1.trans s2;have dg:=DGet.t (k:=Zo (Zf a c)) (s3 _ _ hB.ti) (s2 _ _ ht);rw [show B.tiesD=B.ties.map fun q=>(Zo q.1,V.ref q.2.1) from rfl,V6 (f:=Zo) (fun _ _=>WF) (fun p:Addr×List (Int×Str)=>V.ref p.1)] at dg;refine ⟨_,dg,?_⟩;cases hk:Zv (Zf a c) B.ties with
  |none =>
   refine hnx _ _ ⟨z,rfl,s3,?_⟩;have e:Yz B (Zf a c)=[]:=by unfold Yz;rw [hk];rfl
   rw [e];exact Zg
  |some x =>
   refine hnx _ _ ⟨x.1,rfl,s3,?_⟩;have e:Yz B (Zf a c)=x.2:=by unfold Yz;rw [hk];rfl
   rw [e];exact s3 _ _ (hB.tt _ (Wl hk))
 rintro σ' H2 ⟨d,rfl,s2,hd⟩;have est:ZaB B a c=YK (Yz B (Zf a c)):=rfl;rw [est] at q;generalize Yz B (Zf a c)=l at *;have llen:(YQ l).length=l.length:=Qd ..;refine ⟨d,YQ l,hd,_,rfl,d,YQ l,rfl,hd,fun o=>Vg (l.map fun r=>some (V.int r.1)) (Zz (by rw [Qd];omega)) (fun σ=>∃w,σ=[w,some .non]) ⟨_,rfl⟩ (fun i H3 hi sm=>?go) (fun H3 sm=>?stop) (fun i σ H3 x H4 y hy hσ sm hx C hC=>?step) (fun D H3 nD sm hD=>?fin)⟩
 case go=>exact ⟨sm _ _ Zg,by rw [llen];rw [Qd] at hi;exact hi⟩
 case stop=>exact ⟨sm _ _ Zg,by rw [llen,Qd];exact Qf _⟩
 case step =>
  obtain ⟨w,rfl⟩:=hσ;obtain ⟨rfl,hx2⟩:=hx;rw [Qw] at hy;obtain ⟨r,hr2,rfl⟩:=QR.mp hy
  have ex:x=.int r.1:=by
   unfold YQ at hx2;rw [Qw,hr2] at hx2;exact (Qn hx2).symm
  subst ex;refine ⟨_,rfl,rfl,_,rfl,Z0 (by rfl) (Z2 ⟨_,rfl,hC _ _ ⟨_,rfl⟩ (Same.refl _)⟩)⟩
 case fin =>
  have ef:(l.map fun r=>some (V.int r.1)).filterMap id=(l.map (·.1)).map V.int:=by
   rw [List.filterMap_map,QX];exact List.filterMap_eq_map▸rfl
  rw [ef] at hD;refine ⟨o,sm _ _ Zg,?_⟩;have nDd:D≠d:=fun e=>by subst e;rw [Zg] at nD;cases nD
  have hD4:(Zb H3 d (.dK (YQ l))) D=some (.lst ((l.map (·.1)).map V.int)):=(Zd nDd).trans hD;have hd4:(Zb H3 d (.dK (YQ l))) d=some (.dK (YQ l)):=Zg
  have s4:Same H2 (Zb H3 d (.dK (YQ l))):=fun x u e=>by
   by_cases xd:x=d
   ·subst xd;rw [hd] at e;cases e;exact hd4
   ·rw [Zd xd];exact sm _ _ ((Zd xd).trans e)
  generalize Zb H3 d (.dK (YQ l))=H5 at *;refine ⟨_,rfl,D,_,rfl,.inl (.of hD4),_,_,rfl,rfl,_,rfl,?_⟩;rw [Qd,Qd];cases l with
  |nil=>exact Z4 (q _ (s2.trans s4))
  |cons r0 l0 =>
   refine Z0 (Qm (by rw [QK];omega)) ⟨_,rfl,_,rfl,D,(r0::l0).map (·.1),rfl,.of hD4,by simp,fun m hm hx=>?_⟩;obtain ⟨x,ex⟩:=Zlu hm;have dg:=DGet.k (k:=.inl m) hd4;rw [show YQ (r0::l0)=(r0::l0).map fun q=>((.inl q.1:Zi),V.str q.2) from rfl,V6 (f:=(Sum.inl:Int->Zi)) Zhf V.str,ex] at dg;have q2:=q _ (s2.trans s4);rw [ZgL hm hx ex] at q2;refine ⟨d,.str x,rfl,dg,rfl,?_⟩;rw [Xj];exact q2
theorem Zne (T:Tx K w mg) (Uu:ZcZ P base T) (XC:ZaS P base T) (Ud:ZbY P base T) (ZbX:ZfJ P base T):ZhC P base T:=by
 refine Fun.okX (k:=2) T.UD.F Zbc (fun vs H Q E h=>h.1) (fun cdv A outer s H vs Q E hr h=>?_);obtain ⟨-,h⟩:=h;obtain ⟨b,dx,k,bi,li,ti,su,B,a,kd,p1,p2,d,rfl,hE,hB,k1,k2,nd,tl,dl,ll,lf,q⟩:=h
 refine ⟨_,(Zj (Zw (i:=2) Zbc.nd rfl (Or.inl rfl) (JX (ZV hr) (Xl (pv 0) rfl) (ZR Uu hr ZF (Za (Zm Zq (pv 1) Ze (fun _ _=>rfl)) (Za (Zm Zq (pv 1) Ze (fun _ _=>rfl)) Zc))) Ui ⟨rfl,rfl,rfl,rfl⟩))
   (Zj (XQ (ZV hr) (pv 2) (Zm Zq (pv 1) Ze (fun _ _=>rfl)) (Zm Zq (pv 1) Ze (fun _ _=>rfl)) rfl)
   (Zl (Yv QH rfl (Ju (ZY (Za (ZY (Za (Zm Zq (pv 1) Ze (fun _ _=>rfl)) (Za (Zm Zq (pv 1) Ze (fun _ _=>rfl)) Zc))) (Za (ZY (Za (Zm Zq (pv 1) Ze (fun _ _=>rfl)) (Za (Zm Zq (pv 1) Ze (fun _ _=>rfl)) Zc))) Zc)))) (JM rfl (Wi (ZW (i:=3) Zbc.nd rfl (Or.inl rfl)) (Wi (ZW (i:=4) Zbc.nd rfl (Or.inr rfl)) JI)))
    (Zj (XQ (ZV hr) (Xl (pv 0) rfl) (ZY (Za Zs (Za (pv 3) Zc))) (Uv rfl (XR (N:=["name","end"]) ["end"] [none,some 4] rfl (by decide +kernel) (by decide +kernel) (by rfl) (by rfl) (by rfl) (by rfl) (by rfl)) (Xa (Ye (pv 0) T.cl_Book T.W7.me Ud (hr.mono (by decide)) T.W7.b .nil ZF (Za Zs (Za (pv 3) Zc)))) (fun _ _ _=>(ZW (i:=0) Zlw rfl (Or.inl rfl))) (fun _ _ _=>(WR (ZA WB (pv 0) (pv 1) (Zu _)))) (fun _ _ _=>(pv 0))) rfl)
   (Zl (ZI (YZ (Ye (pv 0) T.cl_Book T.me_Book_stands ZbX (hr.mono (by decide)) T.b_Book_stands (.cons (show RelV V.non Value.none from rfl) .nil) ZF (Za (pv 3) (Za (pv 4) Zc)))) (Zl (Yc (Ye (pv 0) T.cl_Book T.Y0.me XC (hr.mono (by decide)) T.Y0.b .nil ZF (Za Zs (Za (pv 3) (Za (pv 4) Zc)))))) ZK))))))),?_⟩
 refine YL (fun σ' H'=>∃y ts,σ'=[some (.ref b),some (.ref a),some (.ref y),none,none]∧BkAt K T.c_Book H' b dx k bi li ti su { B with ties:=ts }∧(ts.map (·.1)).Nodup∧ts.length≤B.ties.length+1∧Zv (Zf p1 p2) ts=some (y,Yz B (Zf p1 p2))∧(∀c,YT ts c=Yz B c)∧But [li,ti,y] H H'∧(H y=none∨y∈B.ties.map (·.2.1))∧GrowsT H B.ties ts∧SqT K H' a [.str kd,.str p1,.str p2,.int d]) (fun nx hnx=>?_) ?_
 ·refine ⟨_,rfl,b,T.c_Book,dx,_,_,rfl,hB.ob,T.cl_Book,T.na_Book_ties,ZhB,ti,rfl,.inr ⟨_,.inl hB.ti⟩,_,rfl,a,_,_,_,rfl,rfl,hE,Zh (j:=1) rfl,_,rfl,a,_,_,_,rfl,rfl,hE,Zh (j:=2) rfl,rfl,p1,p2,rfl,fun H1 t s1 nt ht=>fun z nz=>?_⟩;have s2:=Zk (o:=.dK []) nz;have s3:=s1.trans s2;have hB1:=hB.mono s1;have hB3:=hB.mono s3;have hlen:B.tiesD.length=B.ties.length:=Qd ..;have hval:ZM B.tiesD (Zo (Zf p1 p2))=(Zv (Zf p1 p2) B.ties).map fun p=>V.ref p.1:=V6 (f:=Zo) (fun _ _=>WF) (fun p:Addr×List (Int×Str)=>V.ref p.1) _ _;refine ⟨_,Zo (Zf p1 p2),t,hB3.ti,rfl,s2 _ _ ht,by rw [hlen];exact Zz (by omega),fun v hv=>?_,fun hn=>?_⟩
  ·rw [hval] at hv;obtain ⟨x,hk,rfl⟩:=QR.mp hv;have e:Yz B (Zf p1 p2)=x.2:=by unfold Yz;rw [hk];rfl
   exact hnx _ _ ⟨x.1,B.ties,rfl,hB3,nd,by omega,by rw [hk,e],fun c=>rfl,But.of _ s3,.inr (Qk.mpr ⟨_,Wl hk,rfl⟩),GrowsT.refl _ _,s3.sqt hE⟩
  ·rw [hval] at hn;have hk:Zv (Zf p1 p2) B.ties=none:=by simpa using hn
   have e:Yz B (Zf p1 p2)=[]:=by unfold Yz;rw [hk];rfl
   have zn:∀{x:Addr} {o:HO},H1 x=some o->x≠z:=fun h=>ZO h nz;refine hnx _ _ ⟨z,B.ties++[(Zf p1 p2,z,[])],rfl,hB3.newTie Zg ⟨(zn hB1.bi).symm,fun q hq=>zn (hB1.tt q hq)⟩ _,?_,by rw [Qu];exact Qf _,?_,fun c=>ZiR _ _ _ _ hk,?_,.inl (ZJ s1 nz),(fun a ha=>by rw [Qr] at ha;exact (Qq.mp ha).imp id (fun ha=>by rw [show a=z by simpa using ha];exact ZJ s1 nz)),?_⟩
   ·rw [Qr,Rb];refine ⟨nd,by simp,fun x hx w hw ex=>?_⟩;have ew:w=Zf p1 p2:=by simpa using hw
    subst ew ex;obtain ⟨p,hp,ep⟩:=Qk.mp hx;have:=Za5 hk;rw [Nw] at this;exact absurd (Qm ep) (this p hp)
   ·rw [ZaX,hk,e];unfold Zv;rw [Qc rfl];rfl
   ·exact (But.of _ s3).trans (But.put hB3.ti (by simp))
   ·exact YH (s3.sqt hE) hB3.ti (fun _ z=>by cases z) (fun _ _ z=>by cases z)
 rintro σ' H1 ⟨y,ts,rfl,hB1,Jo,tl1,hf,htf,bt1,hy0,grT,hE1⟩;generalize hl:Yz B (Zf p1 p2)=l at *;have hy:H1 y=some (.dK (YQ l)):=hB1.tt _ (Wl hf);have hB2:=hB1.putTie Jo hf (Zp l d kd);obtain ⟨pa1,pa2⟩:=Zhc (l':=Zp l d kd) Jo hf;have grT2:GrowsT H B.ties (Zp ts (Zf p1 p2) (y,Zp l d kd)):=fun a ha=>grT a (by rw [←pa1];exact ha)
 have tl2:(Zp ts (Zf p1 p2) (y,Zp l d kd)).length=ts.length:=by
  have:=Qy List.length pa1
  rwa [Qd,Qd] at this
 have htf2:∀c,YT (Zp ts (Zf p1 p2) (y,Zp l d kd)) c=if c=Zf p1 p2 then Zp l d kd else Yz B c:=fun c=>by rw [ZhS,htf]
 have nd2:((Zp ts (Zf p1 p2) (y,Zp l d kd)).map (·.1)).Nodup:=by rw [pa2];exact Jo
 have hE2:SqT K (Zb H1 y (.dK (YQ (Zp l d kd)))) a [.str kd,.str p1,.str p2,.int d]:=YH hE1 hy (fun _ z=>by cases z) (fun _ _ z=>by cases z);have bt2:But [li,ti,y] H (Zb H1 y (.dK (YQ (Zp l d kd)))):=bt1.trans (But.put hy (by simp));have dlen:(YQ l).length=l.length:=Qd ..;refine ⟨_,rfl,a,_,_,_,rfl,rfl,hE1,Zh (j:=0) rfl,_,rfl,_,rfl,a,_,_,_,rfl,rfl,hE1,Zh (j:=3) rfl,y,_,rfl,DPut.k (k:=.inl d) hy (by rw [dlen];exact Zz (by omega)),?_⟩;rw [show Yj (YQ l) (.inl d) (.str kd)=YQ (Zp l d kd) from Uz (f:=(Sum.inl:Int->Zi)) Zhf V.str l d kd];generalize Zb H1 y (.dK (YQ (Zp l d kd)))=H2 at *;generalize Zp ts (Zf p1 p2) (y,Zp l d kd)=ts2 at *;generalize hst:YK (Zp l d kd)=st at *;have ldl:(Zp l d kd).length≤801:=by have:=XG l d kd;omega
 refine ⟨_,rfl,a,_,_,_,rfl,rfl,hE2,Zh (j:=1) rfl,_,rfl,a,_,_,_,rfl,rfl,hE2,Zh (j:=2) rfl,few rfl,fun t1 nt1=>?_⟩;have s1:=Zk (o:=.tup [.str p1,.str p2]) nt1;refine ⟨_,rfl,a,_,_,_,rfl,rfl,(s1.sqt hE2),Zh (j:=2) rfl,_,rfl,a,_,_,_,rfl,rfl,(s1.sqt hE2),Zh (j:=1) rfl,few rfl,fun t2 nt2=>?_⟩;have s2:=Zk (o:=.tup [.str p2,.str p1]) nt2;refine ⟨few rfl,fun t3 nt3=>?_⟩;have s3:=Zk (o:=.tup [.ref t1,.ref t2]) nt3;have s123:=s1.trans (s2.trans s3);refine ⟨t3,rfl,⟨_,.of Zg⟩,Zbl (xs:=[.ref t1,.ref t2]) (fun i σ H5=>∃ls v3 v4,σ=[some (.ref b),some (.ref a),some (.ref y),v3,v4]∧BkAt K T.c_Book H5 b dx k bi li ti su { B with links:=ls,ties:=ts2 }∧(∀c,lk ls c=(match i with|0=>lk B.links|1=>ZL (lk B.links) st p1 p2|_=>ZL (ZL (lk B.links) st p1 p2) st p2 p1) c)∧ls.length≤B.links.length+2*i∧But [li,ti,y] H H5∧SqT K H5 t1 [.str p1,.str p2]∧SqT K H5 t2 [.str p2,.str p1]∧SqT K H5 t3 [.ref t1,.ref t2]∧Grows H B.links ls) ?start ?list ?turn ?done⟩
 case start=>exact ⟨B.links,none,none,rfl,hB2.mono s123,fun c=>rfl,by omega,bt2.trans (But.of _ s123),(s2.trans s3).sqt (.of Zg),s3.sqt (.of Zg),.of Zg,Grows.refl _ _⟩
 case list =>
  rintro i σ H5 _ ⟨ls,v3,v4,rfl,_,_,_,_,_,_,h3,_⟩;exact h3
 case done =>
  rintro σ H5 ⟨ls,v3,v4,rfl,hB5,hlk,hls,bt5,_,_,_,gr⟩;exact q H5 ls ts2 y hB5 nd2 (by omega) htf2 hlk (by simp at hls;omega) bt5 hy0 grT2 gr
 case turn =>
  rintro i x σ H5 hx ⟨ls,v3,v4,rfl,hB5,hlk,hls,bt5,h1,h2,h3,gr⟩
  have pick:∃tq u w,x=.ref tq∧SqT K H5 tq [.str u,.str w]∧Known B u∧Known B w∧Zf u w=Zf p1 p2∧i≤1∧∀F:Str×Str->List Str,(∀c,F c=ZL (match i with|0=>lk B.links|1=>ZL (lk B.links) st p1 p2|_=>ZL (ZL (lk B.links) st p1 p2) st p2 p1) st u w c)->∀c,F c=(match i+1 with|0=>lk B.links|1=>ZL (lk B.links) st p1 p2|_=>ZL (ZL (lk B.links) st p1 p2) st p2 p1) c:=by
   match i,hx with
   |0,hx=>exact ⟨t1,p1,p2,(Qn hx).symm,h1,k1,k2,rfl,by omega,fun F hF=>hF⟩
   |1,hx=>exact ⟨t2,p2,p1,(Qn hx).symm,h2,k2,k1,Zcd p2 p1,by omega,fun F hF=>hF⟩
  obtain ⟨tq,u,w,rfl,hq,ku,kw,hpr,i1,hG⟩:=pick
  have gl:∀c,((match i with|0=>lk B.links|1=>ZL (lk B.links) st p1 p2|_=>ZL (ZL (lk B.links) st p1 p2) st p2 p1) c).length≤61:=by
   intro c
   match i,i1 with
   |0,_=>have:=lf c;exact NW this
   |1,_=>exact Qo (ZcE ..) (by have:=lf c;omega)
  generalize (match i with|0=>lk B.links|1=>ZL (lk B.links) st p1 p2|_=>ZL (ZL (lk B.links) st p1 p2) st p2 p1)=G at *;refine ⟨tq,_,rfl,hq,rfl,_,_,rfl,_,_,rfl,rfl,?_⟩;dsimp only [ZX];refine YL (fun σ' H'=>∃D2,σ'=[some (.ref b),some (.ref a),some (.ref y),some (.str u),some (.str w)]∧BkAt K T.c_Book H' b dx k bi li ti su { B with links:=Zp ls ("S",u) (D2,(G ("S",u)).filter fun n=>decide (n≠w)),ties:=ts2 }∧But [li,ti,y] H H'∧SqT K H' t1 [.str p1,.str p2]∧SqT K H' t2 [.str p2,.str p1]∧SqT K H' t3 [.ref t1,.ref t2]∧H D2=none) (fun nx hnx=>?_) ?_
  ·refine ⟨_,rfl,b,dx,_,rfl,hB5.ob,rfl,_,rfl,rfl,.ref b,.str "S",.str u,_,rfl,⟨b,dx,k,bi,li,ti,su,rfl,hB5⟩,.inr ⟨"S",rfl,fun h=>absurd h (by decide +kernel),fun _=>.inr ⟨u,rfl,fun no=>absurd no ku,fun _ H6 D s6 nD hD0=>?_⟩⟩⟩;have eL:Yy { B with links:=ls,ties:=ts2 } "S" u=G ("S",u):=hlk ("S",u);rw [eL] at hD0;have hD:SqL K H6 D ((G ("S",u)).map V.str):=.of hD0;refine ⟨D,rfl,⟨_,hD⟩,Vg ((G ("S",u)).map (Vq w)) (Zz (by rw [Qd];have:=gl ("S",u);omega)) (fun σ=>∃v,σ=[v,some (.str w)]) ⟨_,rfl⟩ (fun j H7 hj sm=>?go) (fun H7 sm=>?stop) (fun j σ H7 x H8 o ho hσ sm hx C hC=>?step) (fun D2 H7 nD2 sm hD2=>?fin)⟩
   case go=>exact ⟨_,_,sm.sql hD,Qx (by rw [Qd] at hj ⊢;exact hj)⟩
   case stop=>exact ⟨_,sm.sql hD,by rw [Qd,Qd];exact Qf _⟩
   case step =>
    obtain ⟨v,rfl⟩:=hσ;obtain ⟨rfl,hx2⟩:=hx;have e1:=hx2 _ (sm.sql hD);rw [Qw] at e1 ho;obtain ⟨n,hn,rfl⟩:=QR.mp e1;rw [hn] at ho;obtain rfl:Vq w n=o:=Qn ho;refine ⟨_,rfl,_,rfl,rfl,_,rfl,?_⟩;by_cases hz0:n=w
    ·have e2:Vq w n=none:=Qc hz0;rw [e2] at hC;exact Zt (by show (!decide (V.str n=V.str w))=false;rw [Xj,Qm hz0];rfl) (hC _ _ ⟨_,rfl⟩ (Same.refl _))
    ·have e2:Vq w n=some (.str n):=Qa hz0;rw [e2] at hC;exact Z0 (by show (!decide (V.str n=V.str w))=true;rw [Xj,Qj hz0];rfl) ⟨_,rfl,hC _ _ ⟨_,rfl⟩ (Same.refl _)⟩
   case fin =>
    rw [Zgq] at hD2;have s67:=s6.trans sm;have hB7:=hB5.mono s67;refine ⟨_,rfl,b,T.c_Book,dx,_,_,rfl,hB7.ob,T.cl_Book,T.na_Book_links,Zbe,_,rfl,few rfl,fun t nt=>?_⟩;have s8:=Zk (o:=.tup [.str "S",.str u]) nt;have hB8:=hB7.mono s8;have llen:({ B with links:=ls,ties:=ts2 }:Bk).linksD.length=ls.length:=Qd ..;refine ⟨li,_,rfl,DPut.t (k:=Zo ("S",u)) hB8.li Zg (by rw [llen];exact Zz (by omega)),?_⟩;rw [show ({ B with links:=ls,ties:=ts2 }:Bk).linksD=ls.map fun q=>(Zo q.1,V.ref q.2.1) from rfl,Uz (f:=Zo) (fun _ _=>WF) (fun p:Addr×List Str=>V.ref p.1) ls ("S",u) (D2,(G ("S",u)).filter fun n=>decide (n≠w))];have li8:=hB8.li;have kp:∀{c:Addr} {xs:List V},SqT K H5 c xs->SqT K (Zb (Zb H7 t (.tup [.str "S",.str u])) li (.dT ((Zp ls ("S",u) (D2,(G ("S",u)).filter fun n=>decide (n≠w))).map fun q=>(Zo q.1,V.ref q.2.1)))) c xs:=fun h=>YH ((s67.trans s8).sqt h) li8 (fun _ z=>by cases z) (fun _ _ z=>by cases z);refine hnx _ _ ⟨D2,rfl,hB8.links fun q hq=>?_,bt5.trans ((But.of _ (s67.trans s8)).trans (But.put li8 (by simp))),kp h1,kp h2,kp h3,bt5.al _ (ZJ s6 nD2)⟩;rcases Ux hq with rfl|hq
    ·exact s8 _ _ hD2
    ·exact hB8.ll q hq
  ·rintro σ' H6 ⟨D2,rfl,hB6,bt6,g1,g2,g3,n2⟩;have pl:=XG ls ("S",u) (D2,(G ("S",u)).filter fun n=>decide (n≠w));have lk6:∀c,lk (Zp ls ("S",u) (D2,(G ("S",u)).filter fun n=>decide (n≠w))) c=if c=(("S",u):Str×Str) then (G ("S",u)).filter (fun n=>decide (n≠w)) else G c:=fun c=>by rw [Zhe,hlk]
   have et:Yz { B with links:=Zp ls ("S",u) (D2,(G ("S",u)).filter fun n=>decide (n≠w)),ties:=ts2 } (Zf u w)=Zp l d kd:=by
    rw [Zju];show YT ts2 (Zf u w)=_;rw [htf2,Qc hpr]
   have es:ZaB { B with links:=Zp ls ("S",u) (D2,(G ("S",u)).filter fun n=>decide (n≠w)),ties:=ts2 } u w=st:=by
    unfold ZaB;rw [et,hst]
   refine ⟨_,rfl,b,dx,_,rfl,hB6.ob,rfl,_,rfl,_,rfl,rfl,.ref b,u,w,_,rfl,⟨b,dx,k,bi,li,ti,su,rfl,hB6⟩,ku,kw,by rw [et];omega,fun H7 s7=>⟨_,rfl,?_⟩⟩;rw [es];have hB7:=hB6.mono s7;have bt7:=bt6.trans (But.of _ s7);refine YA (fun hs=>?_) (fun hs=>?_)
   ·have la:Yy { B with links:=Zp ls ("S",u) (D2,(G ("S",u)).filter fun n=>decide (n≠w)),ties:=ts2 } "S" u=(G ("S",u)).filter fun n=>decide (n≠w):=by
     rw [VO];show lk (Zp ls ("S",u) _) ("S",u)=_;rw [lk6,Qc rfl]
    refine ⟨_,rfl,b,dx,_,rfl,hB7.ob,rfl,_,rfl,_,rfl,rfl,b,dx,k,bi,li,ti,su,_,"S",u,w,rfl,hB7,?_,?_,fun H8 D8 hB8 bt8 nD8=>?_⟩
    ·rw [la];exact Qo (NS ..) (gl _)
    ·show (Zp ls ("S",u) _).length≤900;omega
    ·have li7:=hB7.li
     have kp:∀{c:Addr} {xs:List V},SqT K H7 c xs->SqT K H8 c xs:=fun {c xs} h=>by
      rcases h with (h|⟨o,h⟩)|h
      ·exact .inl (.inl (bt8.eq _ _ (fun z=>by rw [show c=li by simpa using z,li7] at h;cases h) h))
      ·exact .inl (.inr ⟨o,bt8.eq _ _ (fun z=>by rw [show c=li by simpa using z,li7] at h;cases h) h⟩)
      ·exact .inr h
     rw [la] at hB8;refine ⟨_,_,_,rfl,hB8,hG _ fun c=>?_,?_,bt7.trans (bt8.mono (by simp)),kp (s7.sqt g1),kp (s7.sqt g2),kp (s7.sqt g3),(gr.put n2).put (bt7.al _ nD8)⟩
     ·rw [Zhe];unfold ZL;by_cases ec:c=(("S",u):Str×Str)
      ·subst ec;rw [Qc rfl,Qc rfl,Qc hs]
      ·rw [Qa ec,Qa ec,lk6,Qa ec]
     ·have p2:=XG (Zp ls ("S",u) (D2,(G ("S",u)).filter fun n=>decide (n≠w))) ("S",u) (D8,ZC ((G ("S",u)).filter (fun n=>decide (n≠w))++[w]));show (Zp (Zp ls ("S",u) _) ("S",u) _).length≤_;omega
   ·refine ⟨_,_,_,rfl,hB7,hG _ fun c=>?_,by show (Zp ls ("S",u) _).length≤_;omega,bt7,s7.sqt g1,s7.sqt g2,s7.sqt g3,gr.put n2⟩;rw [lk6];unfold ZL;by_cases ec:c=(("S",u):Str×Str)
    ·subst ec;rw [Qc rfl,Qc rfl,Qa (by rw [hs];decide)]
    ·rw [Qa ec,Qa ec]
theorem ZkE (T:Tx K w mg) (UM:ZdO P base T) (Ur:Zcb P base T) (V4:Zdl P base T) (ZcK:Zd2 P base T) (XC:ZaS P base T) (ZbH:ZeS P base T) (ZbD:ZhC P base T):Zga P base T:=by
 refine Fun.okX (k:=5) T.UG.F Zb2 (fun vs H Q E h=>h.1) (fun cdv A outer s H vs Q E hr h=>?_);obtain ⟨-,h⟩:=h;obtain ⟨b,dx,k,bi,li,ti,su,B,x,e,rfl,hB,hx,ok,no,rm,q⟩:=h
 refine ⟨_,(Zj (Yc (Ye (pv 0) T.cl_Book T.Uy.me ZcK (hr.mono (by decide)) T.Uy.b .nil YX (Za (pv 1) Zc)))
   (Zj (Zw (i:=2) Zb2.nd rfl (Or.inl rfl) (ZR Ur hr ZF (Za (pv 1) Zc)))
   (Zj (XQ (ZV hr) (Xl (pv 0) rfl) (ZR V4 hr ZF (Za (pv 2) Zc)) (pv 2) rfl)
   (Zl (ZI (ZA Z1 (Zm Zq (pv 2) Ze (fun _ _=>rfl)) Zs (Zu _)) (Zl (Yc (Ye (pv 0) T.cl_Book T.V9.me ZbH (hr.mono (by decide)) T.V9.b .nil ZF (Za (pv 2) Zc)))) (Zl (ZI (ZA Z1 (Zm Zq (pv 2) Ze (fun _ _=>rfl)) Zs (Zu _)) (Zj (Yc (Ye (pv 0) T.cl_Book T.Y0.me XC (hr.mono (by decide)) T.Y0.b .nil ZF (Za Zs (Za (Zm Zq (pv 2) Ze (fun _ _=>rfl)) (Za (Zm Zq (pv 2) Ze (fun _ _=>rfl)) Zc)))))
   (Zl (Yc (Ye (pv 0) T.cl_Book T.Y0.me XC (hr.mono (by decide)) T.Y0.b .nil ZF (Za Zs (Za (Zm Zq (pv 2) Ze (fun _ _=>rfl)) (Za (Zm Zq (pv 2) Ze (fun _ _=>rfl)) Zc))))))) (Zl (ZI (ZA Z1 (Zm Zq (pv 2) Ze (fun _ _=>rfl)) Zs (Zu _)) (Zj (Zw (i:=3) Zb2.nd rfl (Or.inl rfl) (ZY (Za (Zm Zq (pv 2) Ze (fun _ _=>rfl)) (Za (Zm Zq (pv 2) Ze (fun _ _=>rfl)) Zc))))
   (Zl (XQ (ZV hr) (Xl (pv 0) rfl) (pv 3) (Zn YE (UP (ZV hr) (Xl (pv 0) rfl) (pv 3) Ze ⟨rfl,rfl,rfl,rfl⟩) (Zm Zq (pv 2) Ze (fun _ _=>rfl))) rfl))) (Zl (ZI (YZ (ZR UM hr ZF (Za (pv 2) Zc))) (Zl (Yc (Ye (pv 0) T.cl_Book T.UD.me ZbD (hr.mono (by decide)) T.UD.b .nil ZF (Za (pv 2) Zc)))) ZK))))))))))),?_⟩
 refine ⟨_,rfl,b,dx,_,rfl,hB.ob,rfl,_,rfl,rfl,.ref b,x,B,e,rfl,⟨b,dx,k,bi,li,ti,su,rfl,hB⟩,hx,ok,no,fun H1 s1=>?_⟩;obtain ⟨hno,hk400,kn⟩:=Zg1 no;refine ⟨_,rfl,rfl,x,e,rfl,hx.mono s1,fun H2 u s2 hu=>?_⟩;obtain ⟨a,rfl,hA⟩:=hu;have s12:=s1.trans s2;have hB2:=hB.mono s12;have klen:B.keptD.length=B.kept.length:=Qd ..;refine ⟨_,rfl,_,rfl,b,T.c_Book,dx,_,_,rfl,hB2.ob,T.cl_Book,T.na_Book_kept,ZdD,_,rfl,rfl,.ref a,e.told,rfl,⟨a,rfl,hA⟩,fun H3 p s3 np hp=>⟨k,_,rfl,DPut.t (k:=e.told.told.key) (s3 _ _ hB2.ke) hp (by rw [klen];exact Zz (by omega)),?_⟩⟩;rw [Zab,UK _ hno];have s13:=s12.trans s3;have hB3:=hB.mono s13;have hA3:=s3.sqt hA;have kn2:∀n∈e.told.named,Known B n:=fun n hn=>kn n (Ze8 e n hn);have tk:∀(e':Ent),e.told=e'->e'.told=e':=fun e' h=>by rw [←h,Zab]
 have pt:∀{B':Bk} (e':Ent),e.told=e'->(∀c,Y2 B'.sums c=ZaU (Y2 B.sums) e' c)->(∃a,B'.kept=B.kept++[(e',a)])->(∀c,lk B'.links c=WP (lk B.links) (YT B.ties) e' c)->(∀c,YT B'.ties c=Ua (YT B.ties) e' c)->(B'.ties.map (·.1)).Nodup->B'.links.length≤B.links.length+4->B'.ties.length≤B.ties.length+1->B'.sums.length≤B.sums.length+1->Put B e B':=fun {B'} e' h=>by
  subst h;exact Put.mk
 generalize e.told=e' at *;have hK:=hB3.kept (e:=e') hA3;have kb:k≠bi:=YF hB3.ke hB3.bi (fun z=>by cases z);have hA4:SqT K (Zb H3 k (.dT (B.keptD++[(e'.key,.ref a)]))) a (e'.row.map kV):=YH hA3 hB3.ke (fun _ z=>by cases z) (fun _ _ z=>by cases z);have btk:But [k,bi,li,ti,su] H (Zb H3 k (.dT (B.keptD++[(e'.key,.ref a)]))):=(But.of _ s13).trans (But.put hB3.ke (by simp));have hbi:(Zb H3 k (.dT (B.keptD++[(e'.key,.ref a)]))) bi=some (.dK (Bk.bornD B.kept)):=(Zd kb.symm).trans hB3.bi;have hob:(Zb H3 k (.dT (B.keptD++[(e'.key,.ref a)]))) b=some (.ins T.c_Book dx (WH k bi li ti su)):=(Zd (YF hB3.ob hB3.ke (fun z=>by cases z))).trans hB3.ob
 have hKn:e'.isBorn=false->BkAt K T.c_Book (Zb H3 k (.dT (B.keptD++[(e'.key,.ref a)]))) b dx k bi li ti su { B with kept:=B.kept++[(e',a)] }:=fun nb=>by
  rw [Zlp nb,Zjg hbi] at hK;exact hK
 have fresh:∀{y:Addr},H3 y=none->(H y=none∨∃w,H y=some (.dK w)):=fun h=>.inl (ZJ s13 h);generalize hH4:Zb H3 k (.dT (B.keptD++[(e'.key,.ref a)]))=H4 at *;dsimp only;have hbiH:∃w,H bi=some (.dK w):=⟨_,hB.bi⟩;cases e' with
 |born n s d f m =>
  refine ⟨_,rfl,a,_,_,_,rfl,rfl,hA4,Zh (j:=0) rfl,rfl,_,rfl,Z0 (by decide +kernel) ?_⟩;refine ⟨_,rfl,b,dx,_,rfl,hob,rfl,_,rfl,rfl,b,dx,k,bi,li,ti,su,B.kept,{ B with kept:=B.kept++[(.born n s d f m,a)] },n,s,d,f,m,a,rfl,rfl,hob,hbi,ZiH hno,by omega,hA4,hK,Qo rm.nl (by omega),fun c=>Qo (rm.ll c) (by omega),fun H5 ls hB5 hlk hls bt5 gr5=>?_⟩;exact q H5 _ bi hB5 (pt _ rfl (fun c=>rfl) ⟨a,rfl⟩ hlk (fun c=>rfl) rm.nd hls (QW _) (QW _)) ((btk.mono (by simp)).trans (bt5.mono (by simp))) (.inr (.inl rfl)) (gr5.back btk.al) (GrowsT.refl _ _)
 |taken c t d =>
  have hB4:=hKn rfl;have hmem:((.taken c t d,a):Ent×Addr)∈B.kept++[(.taken c t d,a)]:=by simp
  refine ⟨_,rfl,a,_,_,_,rfl,rfl,hA4,Zh (j:=0) rfl,rfl,_,rfl,Zt (by decide +kernel) ⟨_,rfl,a,_,_,_,rfl,rfl,hA4,Zh (j:=0) rfl,rfl,_,rfl,Z0 (by decide +kernel) ?_⟩⟩;refine ⟨_,rfl,b,dx,_,rfl,hob,rfl,_,rfl,a,_,_,_,rfl,rfl,hA4,Zh (j:=1) rfl,_,rfl,a,_,_,_,rfl,rfl,hA4,Zh (j:=2) rfl,rfl,b,dx,k,bi,li,ti,su,_,"T",c,t,rfl,hB4,Qo (rm.ll _) (by omega),Qo rm.nl (by omega),fun H5 D5 hB5 bt5 nD5=>?_⟩;have hA5:=hB5.en _ hmem
  have l5:lk (Zp B.links ("T",c) (D5,ZC (lk B.links ("T",c)++[t]))) ("t",t)=lk B.links ("t",t):=by
   rw [WJ];exact JN (show ("t" : Str)≠"T" by decide +kernel)
  have n5:=XG B.links ("T",c) (D5,ZC (lk B.links ("T",c)++[t]));have rl:=rm.nl;refine ⟨_,rfl,b,dx,_,rfl,hB5.ob,rfl,_,rfl,a,_,_,_,rfl,rfl,hA5,Zh (j:=2) rfl,_,rfl,a,_,_,_,rfl,rfl,hA5,Zh (j:=1) rfl,rfl,b,dx,k,bi,li,ti,su,_,"t",t,c,rfl,hB5,?_,?_,fun H6 D6 hB6 bt6 nD6=>?_⟩
  ·rw [VO];show (lk (Zp B.links ("T",c) (D5,ZC (lk B.links ("T",c)++[t]))) ("t",t)).length≤61;rw [l5];exact Qo (rm.ll _) (by omega)
  ·show (Zp B.links ("T",c) (D5,ZC (lk B.links ("T",c)++[t]))).length≤900;omega
  ·refine q H6 _ bi hB6 (pt _ rfl (fun c=>rfl) ⟨a,rfl⟩ (fun x=>?_) (fun c=>rfl) rm.nd ?_ (QW _) (QW _)) ((btk.mono (by simp)).trans ((bt5.mono (by simp)).trans (bt6.mono (by simp)))) (.inr (.inl rfl)) (((Grows.refl _ _).put (btk.al _ nD5)).put (btk.al _ (bt5.al _ nD6))) (GrowsT.refl _ _)
   ·show lk (Zp (Zp B.links ("T",c) (D5,ZC (lk B.links ("T",c)++[t]))) ("t",t) (D6,ZC (lk (Zp B.links ("T",c) (D5,ZC (lk B.links ("T",c)++[t]))) ("t",t)++[c]))) x=_;rw [WJ];exact JW (fun y=>WJ ..) ..
   ·have n6:=XG (Zp B.links ("T",c) (D5,ZC (lk B.links ("T",c)++[t]))) ("t",t) (D6,ZC (lk (Zp B.links ("T",c) (D5,ZC (lk B.links ("T",c)++[t]))) ("t",t)++[c]));show (Zp (Zp B.links ("T",c) (D5,ZC (lk B.links ("T",c)++[t]))) ("t",t) (D6,ZC (lk (Zp B.links ("T",c) (D5,ZC (lk B.links ("T",c)++[t]))) ("t",t)++[c]))).length≤_;omega
 |given g t am d =>
  have hB4:=hKn rfl;have rs:=rm.ns;refine ⟨_,rfl,a,_,_,_,rfl,rfl,hA4,Zh (j:=0) rfl,rfl,_,rfl,Zt (by decide +kernel) ⟨_,rfl,a,_,_,_,rfl,rfl,hA4,Zh (j:=0) rfl,rfl,_,rfl,Zt (by decide +kernel) ⟨_,rfl,a,_,_,_,rfl,rfl,hA4,Zh (j:=0) rfl,rfl,_,rfl,Z0 (by decide +kernel) ?_⟩⟩⟩;refine ⟨_,rfl,a,_,_,_,rfl,rfl,hA4,Zh (j:=1) rfl,_,rfl,a,_,_,_,rfl,rfl,hA4,Zh (j:=2) rfl,few rfl,fun pg npg=>?_⟩;have s5:=Zk (o:=.tup [.str g,.str t]) npg;have hB5:=hB4.mono s5;have hA5:=s5.sqt hA4;have dg:=DGet.t (k:=Zo (g,t)) hB5.su (Zg (o:=.tup [.str g,.str t]));have hval:ZM ({ B with kept:=B.kept++[(.given g t am d,a)] }:Bk).sumsD (Zo (g,t))=(Zv (g,t) B.sums).map V.int:=V6 (f:=Zo) (fun _ _=>WF) V.int _ _;rw [hval] at dg;have slen:({ B with kept:=B.kept++[(.given g t am d,a)] }:Bk).sumsD.length=B.sums.length:=Qd ..
  have iv:∃i:Int,((Zv (g,t) B.sums).map V.int).getD (.int 0)=.int i:=by
   cases Zv (g,t) B.sums with
   |none=>exact ⟨0,rfl⟩
   |some i=>exact ⟨i,rfl⟩
  obtain ⟨i,hi⟩:=iv;refine ⟨_,rfl,b,T.c_Book,dx,_,_,rfl,hB5.ob,T.cl_Book,T.na_Book_sums,Zed,su,rfl,.inr ⟨_,.inl hB5.su⟩,_,rfl,_,dg,_,rfl,a,_,_,_,rfl,rfl,hA5,Zh (j:=3) rfl,i,am,hi,rfl,_,rfl,b,T.c_Book,dx,_,_,rfl,hB5.ob,T.cl_Book,T.na_Book_sums,Zed,_,rfl,su,_,rfl,DPut.t (k:=Zo (g,t)) hB5.su (Zg (o:=.tup [.str g,.str t])) (by rw [slen];exact Zz (by omega)),?_⟩;rw [show Yj ({ B with kept:=B.kept++[(.given g t am d,a)] }:Bk).sumsD (Zo (g,t)) (V.int (i+am))=(Zp B.sums (g,t) (i+am)).map fun q=>(Zo q.1,V.int q.2) from Uz (f:=Zo) (fun _ _=>WF) V.int B.sums (g,t) (i+am)]
  have ei:i=Y2 B.sums (g,t):=by
   unfold Y2;cases hf:Zv (g,t) B.sums with
   |none=>rw [hf] at hi;exact (V.int.inj hi).symm
   |some j=>rw [hf] at hi;exact (V.int.inj hi).symm
  exact q _ _ bi (hB5.sums _) (pt _ rfl (fun c=>by rw [ei];exact ZkG B.sums g t am d c) ⟨a,rfl⟩ (fun c=>rfl) (fun c=>rfl) rm.nd (Gg ..) (QW _) (XG ..)) ((btk.mono (by simp)).trans ((But.of _ s5).trans (But.put hB5.su (by simp)))) (.inr (.inl rfl)) (Grows.refl _ _) (GrowsT.refl _ _)
 |dead n d =>
  have hB4:=hKn rfl;refine ⟨_,rfl,a,_,_,_,rfl,rfl,hA4,Zh (j:=0) rfl,rfl,_,rfl,Zt (by decide +kernel) ⟨_,rfl,a,_,_,_,rfl,rfl,hA4,Zh (j:=0) rfl,rfl,_,rfl,Zt (by decide +kernel) ⟨_,rfl,a,_,_,_,rfl,rfl,hA4,Zh (j:=0) rfl,rfl,_,rfl,Zt (by decide +kernel) ?_⟩⟩⟩;refine ⟨_,rfl,rfl,.ref a,.dead n d,rfl,⟨a,rfl,hA4⟩,fun H5 s5=>⟨_,rfl,Z4 ?_⟩⟩;exact q _ _ bi (hB4.mono s5) (pt _ rfl (fun c=>rfl) ⟨a,rfl⟩ (fun c=>rfl) (fun c=>rfl) rm.nd (Gg ..) (QW _) (QW _)) ((btk.mono (by simp)).trans (But.of _ s5)) (.inr (.inl rfl)) (Grows.refl _ _) (GrowsT.refl _ _)
 |union x y d =>
  have hB4:=hKn rfl;refine ⟨_,rfl,a,_,_,_,rfl,rfl,hA4,Zh (j:=0) rfl,rfl,_,rfl,Zt (by decide +kernel) ⟨_,rfl,a,_,_,_,rfl,rfl,hA4,Zh (j:=0) rfl,rfl,_,rfl,Zt (by decide +kernel) ⟨_,rfl,a,_,_,_,rfl,rfl,hA4,Zh (j:=0) rfl,rfl,_,rfl,Zt (by decide +kernel) ?_⟩⟩⟩;refine ⟨_,rfl,rfl,.ref a,.union x y d,rfl,⟨a,rfl,hA4⟩,fun H5 s5=>⟨_,rfl,Z2 ?_⟩⟩;have hB5:=hB4.mono s5;have rl:=rm.nl;have rt:=rm.nt;refine ⟨_,rfl,b,dx,_,rfl,hB5.ob,rfl,_,rfl,rfl,b,dx,k,bi,li,ti,su,_,a,"union",x,y,d,rfl,s5.sqt hA4,hB5,(kn2 x (by simp [Ent.named])).more rfl,(kn2 y (by simp [Ent.named])).more rfl,rm.nd,Qo rm.nt (by omega),Qo (rm.tt _) (by omega),Qo rm.nl (by omega),rm.ll,fun H6 ls ts z hB6 nd6 tl6 htf hlk hls bt6 hz grT6 gr6=>?_⟩;exact q H6 _ z hB6 (pt _ rfl (fun c=>rfl) ⟨a,rfl⟩ hlk htf nd6 hls tl6 (QW _)) ((btk.mono (by simp)).trans ((But.of _ s5).trans (bt6.mono (by simp)))) (hz.imp (fun h=>btk.al _ (ZJ s5 h)) .inr) (gr6.back fun a n=>btk.al a (ZJ s5 n)) (grT6.back fun a n=>btk.al a (ZJ s5 n))
 |parted x y d =>
  have hB4:=hKn rfl;refine ⟨_,rfl,a,_,_,_,rfl,rfl,hA4,Zh (j:=0) rfl,rfl,_,rfl,Zt (by decide +kernel) ⟨_,rfl,a,_,_,_,rfl,rfl,hA4,Zh (j:=0) rfl,rfl,_,rfl,Zt (by decide +kernel) ⟨_,rfl,a,_,_,_,rfl,rfl,hA4,Zh (j:=0) rfl,rfl,_,rfl,Zt (by decide +kernel) ?_⟩⟩⟩;refine ⟨_,rfl,rfl,.ref a,.parted x y d,rfl,⟨a,rfl,hA4⟩,fun H5 s5=>⟨_,rfl,Z2 ?_⟩⟩;have hB5:=hB4.mono s5;have rl:=rm.nl;have rt:=rm.nt;refine ⟨_,rfl,b,dx,_,rfl,hB5.ob,rfl,_,rfl,rfl,b,dx,k,bi,li,ti,su,_,a,"parted",x,y,d,rfl,s5.sqt hA4,hB5,(kn2 x (by simp [Ent.named])).more rfl,(kn2 y (by simp [Ent.named])).more rfl,rm.nd,Qo rm.nt (by omega),Qo (rm.tt _) (by omega),Qo rm.nl (by omega),rm.ll,fun H6 ls ts z hB6 nd6 tl6 htf hlk hls bt6 hz grT6 gr6=>?_⟩;exact q H6 _ z hB6 (pt _ rfl (fun c=>rfl) ⟨a,rfl⟩ hlk htf nd6 hls tl6 (QW _)) ((btk.mono (by simp)).trans ((But.of _ s5).trans (bt6.mono (by simp)))) (hz.imp (fun h=>btk.al _ (ZJ s5 h)) .inr) (gr6.back fun a n=>btk.al a (ZJ s5 n)) (grT6.back fun a n=>btk.al a (ZJ s5 n))
theorem ZmM (T:Tx K w mg)  : ZfW P base T:=by
 refine Fun.okX (k:=0) T.ZaE.F Zi7 (fun vs H Q E h=>h.1) (fun cdv A outer s H vs Q E hr h=>?_);obtain ⟨-,h⟩:=h;obtain ⟨x,rfl,q⟩:=h;refine ⟨_,(Zl (Zy (Xr (Xv K (by rfl) T.n_isinstance (Za (pv 0) (Za (XZ (v:=.ty "str") (by rfl) T.n_str Vi rfl) Zc))) (Xq (YJ VQ (pv 0) (VN (v:=.ref T.a_TESTS) (by rfl) T.m_TESTS rfl) (by rfl)))))),?_⟩;refine ⟨_,rfl,_,.ty "str",_,_,rfl,rfl,.of (.str _),T.k_str_str,_,rfl,Z2 ⟨_,rfl,T.a_TESTS,_,rfl,.inr (T.Ze9 _),rfl,rfl,?_⟩⟩;have e:(if false=true then !YV (.str x) ((["he","she"]:List Str).map V.str) else YV (.str x) ((["he","she"]:List Str).map V.str))=VW x:=WI x ["he","she"];rw [←e] at q;exact q
theorem ZnZ (T:Tx K w mg) (UT:ZbA P base T) (Ud:ZbY P base T) (Zb8:ZfW P base T):Zde P base T:=by
 refine Fun.okX (k:=2) T.VA.F Zh4 (fun vs H Q E h=>h.1) (fun cdv A outer s H vs Q E hr h=>?_);obtain ⟨-,h⟩:=h;obtain ⟨v,s,n,B,rfl,hB,hs,kn,q⟩:=h
 refine ⟨_,(Zj (ZI (YZ (ZR Zb8 hr ZF (Za (pv 1) Zc))) (Zl (Zy (Zi8 (ZA Z1 (Ye (pv 0) T.cl_Book T.Vf.me UT (hr.mono (by decide)) T.Vf.b .nil YX (Za (pv 2) Zc)) (pv 1) (Zu _)) (Yi (Za (pv 2) Zc)) (Yi Zc)))) ZK)
   (Zl (Zy (Ye (pv 0) T.cl_Book T.W7.me Ud (hr.mono (by decide)) T.W7.b .nil YX (Za (pv 1) (Za (pv 2) Zc)))))),?_⟩
 obtain ⟨b,dx,k,bi,li,ti,su,rfl,hB⟩:=hB;have hv:BkHas K T.c_Book H (.ref b) B:=⟨b,dx,k,bi,li,ti,su,rfl,hB⟩;unfold Z5 at q;refine ⟨_,rfl,rfl,_,rfl,?_⟩;dsimp only;cases ht:VW s with
 |true =>
  rw [Qc ht] at q;refine ⟨true,rfl,Z2 ⟨_,rfl,b,dx,_,rfl,hB.ob,rfl,_,rfl,rfl,.ref b,.str n,B,rfl,hv,.inr ⟨n,rfl,fun no=>absurd no kn,fun p hp n' s' d f m ep=>?_⟩⟩⟩;rw [Zig hp ep] at q;refine ⟨_,rfl,rfl,_,rfl,?_⟩;dsimp only;by_cases e:s'=s
  ·rw [Qc e] at q;rw [Qm (show V.str s'=V.str s by rw [e])];exact Z2 ⟨_,rfl,few rfl,fun D nD=>q _ D (Zk nD) nD Zg⟩
  ·rw [Qa e] at q;rw [Qj (show ¬V.str s'=V.str s from fun z=>e (V.str.inj z))];exact Z4 ⟨few rfl,fun D nD=>q _ D (Zk nD) nD Zg⟩
 |false =>
  rw [Qa (by rw [ht];decide)] at q;refine ⟨false,rfl,Z4 ⟨_,rfl,b,dx,_,rfl,hB.ob,rfl,_,rfl,_,rfl,rfl,.ref b,.str s,.str n,B,rfl,hv,.inr ⟨s,rfl,fun no=>?_,fun hl=>.inr ⟨n,rfl,fun no=>absurd no kn,fun _ H' D s1 nD hD=>q H' D s1 nD hD⟩⟩⟩⟩;exfalso;unfold V2 at no;unfold VW at ht;have n1:s∉Xn:=Rg no;have n2:s∉(["he","she"]:List Str):=Rg ht;have:s∈Xn++(["he","she"]:List Str):=hs;exact (Qq.mp this).elim n1 n2
theorem ZlI (T:Tx K w mg) (Jl:Zde P base T):ZhA P base T:=by
 refine Fun.okX (k:=4) T.Za4.F UC (fun vs H Q E h=>h.1) (fun cdv A outer s H vs Q E hr h=>?_);obtain ⟨-,h⟩:=h;obtain ⟨one,p,f,b,way,B,pool,rfl,lam,hp,h9,hB,cl,kn,lw,q⟩:=h
 refine ⟨_,(Zj (Zw (i:=3) UC.nd rfl (Or.inl rfl) (Yi (Za (ZlL (Zni (pv 0) (pv 0) ZjT) rfl rfl (by simp) (by decide)) Zc)))
   (Zj (Yv QH rfl (Ju (pv 1)) (ZW (i:=4) UC.nd rfl (Or.inl rfl))
    (Zj (Zw (i:=5) UC.nd rfl (Or.inl rfl) Ui)
   (Zj (ZdU (Yv QH rfl (ZcX (Zm Ym (pv 3) (Jw U7 Ze) (fun _ _=>rfl))) (ZW (i:=6) UC.nd rfl (Or.inl rfl))
    (Zl (Yv QH rfl (Xa (ZnM (q:=Zds) Zmh Jl T.VA.b T.VA.m T.VA.F.kp (hr.mono (by decide)) ZhD (i:=2) rfl (Or.inl rfl) (Za (pv 4) (Za (pv 6) Zc)))) (ZW (i:=7) UC.nd rfl (Or.inl rfl))
    (Zl (XQ (ZV hr) (pv 5) (pv 7) (pv 6) rfl))))))
   (Zl (Yc (X7 Ri Ro Rp XU (pv 3) (Za (pv 5) Zc)))))))
   (Zl (Zy (pv 3))))),?_⟩
 refine fun d0 nd0=>⟨_,rfl,_,rfl,Zg,[(.inr one,.str one)],rfl,QG rfl,few rfl,fun D nD=>?_⟩
 have sA:Same H (Zb (Zb H d0 (.dK [])) d0 (.dK (Uc [] [(.inr one,.str one)]))):=fun c o e=>by
  rw [Zd (ZO e nd0),Zd (ZO e nd0)];exact e
 have nDH:H D=none:=ZJ sA nD;have s0:=sA.trans (Zk (o:=.lst [.ref d0]) nD);have nd0D:d0≠D:=fun z=>by rw [←z,Zg] at nD;cases nD
 refine ⟨_,rfl,p,rfl,⟨_,s0.sqt hp⟩,Zbl (xs:=way.map V.str) (fun i σ Hc=>∃(ls:Jz) (d:Addr) (ks:List (Str×V)) (v4 v5 v6 v7:Option V),σ=[some (.str one),some (.ref p),some (.ref f),some (.ref D),v4,v5,v6,v7]∧Same H Hc∧Hc D=some (.lst (ls.map (fun e=>V.ref e.1)++[.ref d]))∧ls.length=i∧(∀e∈ls++[(d,ks)],H e.1=none∧Hc e.1=some (.dK (YM e.2)))∧LyS (Z5 B) one (way.take i) (ls++[(d,ks)])∧(ks.map (·.1)).Nodup∧∀x,x∈ks.map (·.1)↔Z9 (Z5 B) (way.take i) (·=one) x) ?start ?list ?turn ?done⟩
 case start =>
  exact ⟨[],d0,[(one,.str one)],_,_,_,_,rfl,s0,Zg,rfl,fun e he=>by
   rw [show e=(d0,[(one,.str one)]) by simpa using he];exact ⟨nd0,by show Zb _ D _ d0=_;rw [Zd nd0D,Zg];rfl⟩,⟨rfl,⟨d0,rfl⟩,fun j e e' s h1 h2 h3=>(by cases h3)⟩,by simp,fun x=>by simp [Z9]⟩
 case list =>
  rintro i σ Hc _ ⟨ls,d,ks,v4,v5,v6,v7,rfl,sc,_⟩;exact sc.sqt hp
 case done =>
  rintro σ Hc ⟨ls,d,ks,v4,v5,v6,v7,rfl,sc,hD,dl,hp2,ly,kd,mem⟩;rw [Qd] at dl;rw [Qd,Ra] at mem ly;exact ⟨_,rfl,q Hc D (ls++[(d,ks)]) d ks sc nDH (by rw [Qr];exact hD) (fun e he=>(hp2 e he).2) (by rw [Ry (by omega),dl,R7];rfl) ly mem⟩
 case turn =>
  rintro i y σ Hc hy ⟨ls,d,ks,v4,v5,v6,v7,rfl,sc,hD,dl,hp2,ly,kd,mem⟩;obtain ⟨nd,hd⟩:=hp2 (d,ks) (by simp);obtain ⟨s,hs,rfl⟩:=Wu hy;have il:=(QI.mp hs).1;have s9:=h9 s (QD hs);have tk:way.take (i+1)=way.take i++[s]:=by rw [Rh,hs];rfl
  have known:∀x,x∈ks.map (·.1)->Known B x:=fun x hx=>Zao (R:=Known B) cl.led (fun t ht=>h9 t (R9 ht)) (fun x e=>by rw [e];exact kn) x ((mem x).mp hx);refine fun c nc=>?_;have ncH:=ZJ sc nc;have s1:=Zk (o:=.dK []) nc;have dc:d≠c:=ZO hd nc;have Dc:D≠c:=ZO hD nc;have dD:d≠D:=fun z=>by rw [z,hD] at hd;cases hd
  refine ⟨d,YM ks,s1 _ _ hd,_,rfl,1,rfl,D,_,-1,.ref d,rfl,rfl,.of (s1 _ _ hD),ZeM _ _,d,YM ks,rfl,s1 _ _ hd,fun o=>?_⟩;refine Zmp (kvs:=YM ks) (fun j σ Hj=>∃(cs:List (Str×V)) (v6 v7:Option V),σ=[some (.str one),some (.ref p),some (.ref f),some (.ref D),some (.str s),some (.ref c),v6,v7]∧Same H Hj∧Hj D=some (.lst (ls.map (fun e=>V.ref e.1)++[.ref d]))∧Hj d=some (.frz o (.dK (YM ks)))∧Hj c=some (.dK (YM cs))∧(∀e∈ls,e.1≠d->Hj e.1=some (.dK (YM e.2)))∧(∀q∈cs,∃y,q.2=.str y∧y∈ks.map (·.1)∧q.1∈Z5 B s y)∧(cs.map (·.1)).Nodup∧∀x,x∈cs.map (·.1)↔∃y,y∈(ks.map (·.1)).take j∧x∈Z5 B s y) ?st2 ?li2 ?tu2 ?do2
  case st2=>exact ⟨[],_,_,rfl,fun e u h=>by rw [Zd (fun z=>by subst z;rw [nd] at h;cases h),Zd (fun z=>by subst z;rw [ncH] at h;cases h)];exact sc _ _ h,by rw [Zd dD.symm];exact s1 _ _ hD,Zg,by rw [Zd dc.symm];exact Zg,fun e he ne=>by rw [Zd ne];exact s1 _ _ (hp2 e (by simp [he])).2,fun q hq=>(by cases hq),by simp,fun x=>by simp⟩
  case li2 =>
   rintro j σ Hj _ ⟨cs,v6,v7,rfl,sj,_,hdj,_⟩;exact hdj
  case do2 =>
   rintro σ Hj ⟨cs,v6,v7,rfl,sj,hDj,hdj,hcj,oth,frm,ndj,memj⟩;rw [Zc8,Ra] at memj;refine ⟨o,hdj,?_⟩;have hD5:(Zb Hj d (.dK (YM ks))) D=some (.lst (ls.map (fun e=>V.ref e.1)++[.ref d])):=by rw [Zd dD.symm];exact hDj
   refine ⟨_,rfl,.inl ⟨rfl,_,.of hD5⟩,_,rfl,D,_,_,rfl,rfl,hD5,Zz (by rw [Qu,Qd,dl];simp;omega),?_⟩;have Hc3:∀e∈ls++[(d,ks)],e.1≠D∧e.1≠c:=fun e he=>⟨fun z=>(by have:=(hp2 e he).2;rw [z,hD] at this;cases this),fun z=>(by have:=(hp2 e he).2;rw [z,nc] at this;cases this)⟩;refine ⟨ls++[(d,ks)],c,cs,_,_,_,_,rfl,fun e u h=>?_,by rw [Zg,Qr];rfl,by rw [Qu,dl];rfl,fun e he=>?_,?_,ndj,fun x=>?_⟩
   ·rw [Zd (fun z=>by subst z;rw [nDH] at h;cases h),Zd (fun z=>by subst z;rw [nd] at h;cases h)];exact sj _ _ h
   ·rcases Qq.mp he with h|h
    ·obtain ⟨n1,n2⟩:=Hc3 e h;refine ⟨(hp2 e h).1,?_⟩;rw [Zd n1];by_cases ed:e.1=d
     ·have:=(hp2 e h).2;rw [ed,hd] at this;rw [ed,Zg];exact this
     ·rw [Zd ed];rcases Qq.mp h with h|h
      ·exact oth e h ed
      ·exact absurd (by rw [show e=(d,ks) by simpa using h]) ed
    ·rw [show e=(c,cs) by simpa using h];exact ⟨ncH,by show Zb _ D _ c=_;rw [Zd Dc.symm,Zd dc.symm];exact hcj⟩
   ·rw [tk];refine ly.snoc (d:=d) (ks:=ks) ?_ frm;rw [Rl,Nat.min_eq_left (QY il),Ry (by omega),dl,R7];rfl
   ·rw [tk,ZaK,memj];exact ⟨fun ⟨y,hy,hx⟩=>⟨y,(mem y).mp hy,hx⟩,fun ⟨y,hy,hx⟩=>⟨y,(mem y).mpr hy,hx⟩⟩
  case tu2 =>
   rintro j pr σ Hj hpr ⟨cs,v6,v7,rfl,sj,hDj,hdj,hcj,oth,frm,ndj,memj⟩;rw [Qw] at hpr;obtain ⟨⟨y,vy⟩,hky,rfl⟩:=QR.mp hpr;have hyk:(ks.map (·.1))[j]?=some y:=by rw [Qw,hky];rfl
   have ky:=known y (QD hyk);have tkj:(ks.map (·.1)).take (j+1)=(ks.map (·.1)).take j++[y]:=by rw [Rh,hyk];rfl
   refine ⟨f,rfl,_,rfl,_,rfl,.str s,.str y,b,rfl,lam.same sj,rfl,.ref b,s,y,B,rfl,hB.mono sj,s9,ky,fun H2 L s2 nL hL=>⟨L,rfl,⟨_,.of hL⟩,?_⟩⟩;refine Wp (xs:=(Z5 B s y).map V.str) (fun l σ Hl=>∃(cs2:List (Str×V)) (v7:Option V),σ=[some (.str one),some (.ref p),some (.ref f),some (.ref D),some (.str s),some (.ref c),some (.str y),v7]∧Same H Hl∧Hl D=some (.lst (ls.map (fun e=>V.ref e.1)++[.ref d]))∧Hl d=some (.frz o (.dK (YM ks)))∧Hl c=some (.dK (YM cs2))∧Hl L=some (.lst ((Z5 B s y).map V.str))∧(∀e∈ls,e.1≠d->Hl e.1=some (.dK (YM e.2)))∧(∀q∈cs2,∃y,q.2=.str y∧y∈ks.map (·.1)∧q.1∈Z5 B s y)∧(cs2.map (·.1)).Nodup∧∀x,x∈cs2.map (·.1)↔x∈cs.map (·.1)∨x∈(Z5 B s y).take l) ?st3 ?li3 ?tu3 ?do3
   case st3=>exact ⟨cs,_,rfl,sj.trans s2,s2 _ _ hDj,s2 _ _ hdj,s2 _ _ hcj,hL,fun e he ne=>s2 _ _ (oth e he ne),frm,ndj,fun x=>by simp⟩
   case li3 =>
    rintro l σ Hl _ ⟨cs2,v7,rfl,_,_,_,_,hLl,_⟩;exact .of hLl
   case do3 =>
    rintro σ Hl ⟨cs2,v7,rfl,sl,hDl,hdl,hcl,hLl,othl,frml,ndl,meml⟩;rw [Qd,Ra] at meml;refine ⟨cs2,_,_,rfl,sl,hDl,hdl,hcl,othl,frml,ndl,fun x=>?_⟩;rw [meml,memj,tkj];constructor
    ·rintro (⟨z,h1,h2⟩|h)
     ·exact ⟨z,Rq _ h1,h2⟩
     ·exact ⟨y,by simp,h⟩
    ·rintro ⟨z,h1,h2⟩;rcases Qq.mp h1 with h1|h1
     ·exact .inl ⟨z,h1,h2⟩
     ·rw [show z=y by simpa using h1] at h2;exact .inr h2
   case tu3 =>
    rintro l z σ Hl hz ⟨cs2,v7,rfl,sl,hDl,hdl,hcl,hLl,othl,frml,ndl,meml⟩;obtain ⟨x,hx,rfl⟩:=Wu hz;have tkl:(Z5 B s y).take (l+1)=(Z5 B s y).take l++[x]:=by rw [Rh,hx];rfl
    have inK:∀x∈cs2.map (·.1),Known B x:=fun x hx2=>by
     rcases (meml x).mp hx2 with h|h
     ·obtain ⟨z,h1,h2⟩:=(memj x).mp h;exact cl.led s s9 z (known z (R9 h1)) x h2
     ·exact cl.led s s9 y ky x (R9 h)
    have len2:(YM cs2).length≤60:=by rw [Zc8];exact Qo (Zbd ndl fun x hx2=>cl.inp x (inK x hx2)) cl.few
    have cD:c≠D:=Dc.symm;refine ⟨_,rfl,_,rfl,_,rfl,c,_,rfl,DPut.k (k:=.inr x) hcl (Zz (by omega)),?_⟩;rw [Zfz];refine ⟨Zp cs2 x (.str y),_,rfl,fun e u h=>?_,?_,?_,Zg,?_,fun e he ne=>?_,fun q hq=>?_,Zck ndl,fun x'=>?_⟩
    ·rw [Zd (fun z=>by subst z;rw [ncH] at h;cases h)];exact sl _ _ h
    ·rw [Zd Dc];exact hDl
    ·rw [Zd dc];exact hdl
    ·rw [Zd (fun z=>by rw [z,hcl] at hLl;cases hLl)];exact hLl
    ·rw [Zd (fun z=>by have:=othl e he ne;have h2:=(hp2 e (by simp [he])).2;rw [z,nc] at h2;cases h2)];exact othl e he ne
    ·rcases Ux hq with rfl|hq
     ·exact ⟨y,rfl,QD hyk,QD hx⟩
     ·exact frml q hq
    ·rw [Zhg,meml,tkl,Qq,Re,or_assoc]
theorem Zls (T:Tx K w mg) (Zb7:ZhA P base T):Zfc P base T:=by
 refine Fun.okX (k:=5) T.VC.F Zan (fun vs H Q E h=>h.1) (fun cdv A outer s H vs Q E hr h=>?_);obtain ⟨-,h⟩:=h;obtain ⟨one,other,p,f,b,way,B,pool,rfl,lam,hp,h9,hB,cl,kn,lw,qN,qL⟩:=h
 refine ⟨_,(Zj (Zw (i:=4) Zan.nd rfl (Or.inl rfl) (ZR Zb7 hr YX (Za (pv 0) (Za (pv 2) (Za (pv 3) Zc)))))
   (Zj (ZI (Um (ZcY (ZV hr) (pv 1) (Zm Ym (pv 4) (Jw U7 Ze) (fun _ _=>rfl)))) (Zl (Zy Vp)) ZK)
   (Zj (Zw (i:=5) Zan.nd rfl (Or.inl rfl) (Yi (Za (pv 1) Zc)))
   (Zj (Yv QH rfl (ZmI K (by rfl) T.n_reversed (Za (VE ZeJ (pv 4) (Vo Ze) UI) Zc)) (ZW (i:=6) Zan.nd rfl (Or.inl rfl))
    (Zl (Yc (X7 Ri Ro Rp XU (pv 5) (Za (Xg (ZV hr) (pv 6) (Zm Ym (pv 5) (Jw U7 Ze) (fun _ _=>rfl)) (fun _ _=>rfl)) Zc)))))
   (Zl (Zy (Zmw K rfl (by rfl) T.n_list (by rfl) T.n_reversed (Za (pv 5) Zc)))))))),?_⟩
 refine ⟨_,rfl,_,rfl,_,rfl,rfl,one,p,f,b,way,B,pool,rfl,lam,hp,h9,hB,cl,kn,lw,fun H1 D ls d ks s1 nD hD hls hlast ly mem=>?_⟩;dsimp only [ZX];have lln:=ly.len;have hdm:=QD hlast
 obtain ⟨e0,ls1,rfl⟩:∃e0 ls1,ls=e0::ls1:=by
  cases ls with
  |nil=>cases hlast
  |cons e0 ls1=>exact ⟨_,_,rfl⟩
 have l1:ls1.length=way.length:=by rw [QK] at lln;omega
 have eat:Yl ((e0::ls1).map fun e=>V.ref e.1) (-1)=some (.ref d):=by
  obtain ⟨y,ya,yb⟩:=Zcq (x:=V.ref e0.1) (xs:=ls1.map fun e=>V.ref e.1);rw [Qd,l1,show V.ref e0.1::ls1.map (fun e=>V.ref e.1)=(e0::ls1).map fun e=>V.ref e.1 from rfl,Qw,hlast] at yb;rw [Qp,ya,←yb];rfl
 have g:=DGet.k (k:=.inr other) (hls _ hdm);rw [Zgg] at g;refine ⟨_,rfl,_,rfl,1,rfl,D,_,-1,.ref d,rfl,rfl,.of hD,eat,d,_,rfl,g,_,rfl,?_⟩;by_cases hr:Z9 (Z5 B) way (·=one) other
 case neg =>
  have hn:Zv other ks=none:=by
   cases hf:Zv other ks with
   |none=>rfl
   |some v=>exact absurd ((mem other).mp (Qk.mpr ⟨_,Wl hf,rfl⟩)) hr
  rw [hn];exact Z0 (by rfl) (qN hr _ s1)
 have hk0:=(mem other).mpr hr;obtain ⟨v0,hf⟩:=Zg3 hk0;rw [hf];refine Zt (by rfl) ⟨_,rfl,few rfl,fun L5 n5=>?_⟩;have s5:=Zk (o:=.lst [.str other]) n5;dsimp only [ZX];refine ⟨_,rfl,1,rfl,D,_,rfl,.of (s5 _ _ hD),fun P2 n2=>?_⟩;have s2:=Zk (o:=.lst (ls1.map fun e=>V.ref e.1)) n2;have n5H:=ZJ s1 n5;have P2L:P2≠L5:=fun z=>by rw [z,Zg] at n2;cases n2
 rw [Qp,Zgm];refine ⟨P2,_,rfl,.of Zg,Zll (xs:=ls1.map fun e=>V.ref e.1) (fun i σ Hc=>∃(a:Str) (nr:List Str) (e:Addr×List (Str×V)) (v6:Option V),σ=[some (.str one),some (.str other),some (.ref p),some (.ref f),some (.ref D),some (.ref L5),v6]∧Same H1 Hc∧Hc P2=some (.lst (ls1.map fun e=>V.ref e.1))∧Hc L5=some (.lst ((a::nr).reverse.map V.str))∧nr.length=i∧Wkd (Z5 B) (way.drop (way.length-i)) a (a::nr) other∧(e0::ls1)[way.length-i]?=some e∧a∈e.2.map (·.1)) ?st ?li ?tu ?dn⟩
 case st=>exact ⟨other,[],_,_,rfl,s5.trans s2,Zg,by rw [Zd P2L.symm,Zg];rfl,rfl,by rw [Nat.sub_zero,List.drop_length];exact .nil _ _,hlast,hk0⟩
 case li =>
  rintro i σ Hc _ ⟨a,nr,e,v6,rfl,_,hP,_⟩;exact .of hP
 case dn =>
  rintro σ Hc ⟨a,nr,e,v6,rfl,sc,hP,hL,nl,wk,he,ha⟩;rw [Qd,l1,R7] at wk he;obtain ⟨d0,hd0⟩:=ly.hd;rw [hd0] at he;cases he;obtain rfl:a=one:=by simpa using ha
  refine ⟨_,rfl,L5,_,rfl,.of hL,fun D9 n9=>?_⟩;refine qL hr _ D9 (a::nr) ((s1.trans sc).trans (Zk n9)) (ZJ (s1.trans sc) n9) ?_ wk;rw [Zg,←List.map_reverse,List.reverse_reverse]
 case tu =>
  rintro i y σ Hc hy ⟨a,nr,e,v6,rfl,sc,hP,hL,nl,wk,he,ha⟩
  have il:i<way.length:=by
   have:=(QI.mp hy).1;rw [RH,Qd,l1] at this;exact this
  obtain rfl:y=.ref e.1:=by
   rw [Nc (by rw [Qd,l1];exact il),Qd,l1,Qw] at hy;have e1:way.length-i=(way.length-1-i)+1:=by omega
   rw [e1,R6] at he;rw [he] at hy;exact (Qn hy).symm
  obtain ⟨v,hv⟩:=Zg3 ha;obtain ⟨y,e2,s,rfl,he2,hy2,hdr,hm⟩:=ly.back il he (Wl hv);have g:=DGet.k (k:=.inr a) (sc _ _ (hls _ (QD he)));rw [Zgg,hv] at g;have hL':Hc L5=some (.lst (nr.reverse.map V.str++[.str a])):=by rw [hL];simp
  refine ⟨_,rfl,.inl ⟨rfl,_,.of hL⟩,_,rfl,_,rfl,1,rfl,L5,_,-1,.str a,rfl,rfl,.of hL',ZeM _ _,e.1,_,rfl,g,L5,_,_,rfl,rfl,hL,Zz (by simp;omega),?_⟩;refine ⟨y,a::nr,e2,_,rfl,fun c u h=>?_,?_,?_,by rw [QK,nl],?_,he2,hy2⟩
  ·rw [Zd (fun z=>by rw [z,n5] at h;cases h)];exact sc _ _ h
  ·rw [Zd P2L];exact hP
  ·rw [Zg];simp
  ·rw [hdr];exact wk.cons hm
theorem Zir (T:Tx K w mg) (LB:LamB base T.cc T.tb mg) (XY:Za1 P base T) (Jl:Zde P base T) (Zbv:Zfc P base T):Zdh P base T:=by
 refine Fun.okL (k:=6) T.hcc T.U1.F Zm5 (fun vs H Q E h=>h.1) (fun A outer s H vs Q E hr h=>?_);obtain ⟨-,h⟩:=h;obtain ⟨v,p,x,y,way,B,rfl,hB,lt,hp,q⟩:=h
 refine ⟨_,(Zj (Yc (Ye (pv 0) T.cl_Book T.Y9.me XY (hr.mono (by decide)) T.Y9.b .nil YX (Za (pv 2) Zc)))
   (Zj (Yc (Ye (pv 0) T.cl_Book T.Y9.me XY (hr.mono (by decide)) T.Y9.b .nil YX (Za (pv 3) Zc)))
   (Zl (Zy (ZjU Zbv (hr.mono (by decide)) (by rfl) T.VC.m T.VC.F.kp T.VC.b ZhD (i:=0) rfl rfl rfl rfl rfl (Za (pv 2) (Za (pv 3) (Za (pv 1) (Za (Zm9 LB rfl rfl rfl rfl) Zc))))))))),?_⟩
 obtain ⟨b,dx,k,bi,li,ti,su,rfl,hB⟩:=hB;have hv:BkHas K T.c_Book H (.ref b) B:=⟨b,dx,k,bi,li,ti,su,rfl,hB⟩;refine ⟨_,rfl,b,dx,_,rfl,hB.ob,rfl,_,rfl,rfl,.ref b,x,B,rfl,hv,?_⟩;rcases q with ⟨nb,qe⟩|⟨n,rfl,kn,q⟩
 ·rcases nb with ⟨ty,hk,ks⟩|⟨n,rfl,no⟩
  ·exact .inl ⟨ty,hk,ks,qe⟩
  ·exact .inr ⟨n,rfl,fun _=>qe,fun p hp=>by rw [no] at hp;cases hp⟩
 refine .inr ⟨n,rfl,fun no=>absurd no kn,fun pr hpr n' s' d f m ep=>?_⟩;refine ⟨_,rfl,b,dx,_,rfl,hB.ob,rfl,_,rfl,rfl,.ref b,y,B,rfl,hv,?_⟩;rcases q with ⟨nb,qe⟩|⟨o,pool,rfl,km,cl,h9,lw,qN,qL⟩
 ·rcases nb with ⟨ty,hk,ks⟩|⟨n,rfl,no⟩
  ·exact .inl ⟨ty,hk,ks,qe⟩
  ·exact .inr ⟨n,rfl,fun _=>qe,fun p hp=>by rw [no] at hp;cases hp⟩
 refine .inr ⟨o,rfl,fun no=>absurd no km,fun pr hpr n' s' d f m ep=>?_⟩;refine ⟨_,rfl,_,rfl,_,rfl,lt,fun H2 f2 pm c' ctv sx lt2 nf hf hc' fr=>⟨b,rfl,fun oc noc hoc=>?_⟩⟩;obtain ⟨cc,ecc⟩:∃z,z=s.heap.objs.size+1:=⟨_,rfl⟩;rw [←ecc] at noc hf;have sc:Same H2 (Zb H2 cc (Fz oc)):=Zk noc;rw [←ecc];have s4:∀{H3:Hp},Same (Zb H2 cc (Fz oc)) H3->Same H2 (V5 H3 cc):=fun s3 a u e=>by rw [WE (ZO e noc)];exact s3 _ _ (sc _ _ e)
 refine ⟨rfl,n,o,p,f2,b,way,B,pool,rfl,⟨cc,oc,pm,c',ctv,sc _ _ hf,sc _ _ hc',Zg,hoc⟩,sc.sqt (sx.sqt hp),h9,⟨b,dx,k,bi,li,ti,su,rfl,(hB.monoX sx).mono sc⟩,cl,kn,lw,fun nr H3 s3=>qN nr _ (sx.trans (s4 s3).x) (lt2.same (s4 s3)),fun r H3 D3 W s3 nD3 hD3 wk=>?_⟩;have hcc3:H3 cc=some (Fz oc):=s3 _ _ Zg;have hD4:V5 H3 cc D3=some (.lst (W.map V.str)):=by rw [WE (fun z=>by rw [z,hcc3] at hD3;cases hD3)];exact hD3
 exact qL r _ D3 W (sx.trans (s4 s3).x) (lt2.same (s4 s3)) (fr D3 (ZJ sc nD3)) hD4 wk
theorem Zng (T:Tx K w mg)  : J4 P base T:=by
 refine Fun.okX (k:=0) T.J3.F Zoi (fun vs H Q E h=>h.1) (fun cdv A outer s H vs Q E hr h=>?_);obtain ⟨-,h⟩:=h;obtain ⟨l,ns,k,rfl,hS,hk,q⟩:=h
 refine ⟨_,(Zj (ZI (ZA WD (pv 1) (ZN Yw (by rfl) T.n_len Yd (Za (pv 0) Zc)) (Zu _)) (Zl (Zy (Zm Ym (pv 0) (pv 1) (fun _ _=>rfl)))) ZK)
   (Zl (Zy Ze))),?_⟩
 refine ⟨_,rfl,_,rfl,l,_,rfl,.inl hS,_,_,rfl,rfl,_,rfl,?_⟩;by_cases kl:k<((ns.map V.int).length:Int)
 ·rw [Qm kl];obtain ⟨j,rfl⟩:∃j:Nat,k=(j:Int):=⟨k.toNat,by omega⟩;refine Z2 ⟨_,rfl,_,rfl,l,_,_,_,rfl,rfl,hS,XT (ZkI (by rw [Qd] at kl;omega)),q _⟩
 ·rw [Qj kl];exact Z4 (q _)
theorem Zlg (T:Tx K w mg)  : ZhG P base T:=by
 refine Fun.okX (k:=0) T.ZaM.F Wk (fun vs H Q E h=>h.1) (fun cdv A outer s H vs Q E hr h=>?_);obtain ⟨-,h⟩:=h;obtain ⟨c,rfl,q⟩:=h
 refine ⟨_,(Zj (Zw (i:=1) Wk.nd rfl (Or.inl rfl) Zs)
   (Zj (Zw (i:=2) Wk.nd rfl (Or.inl rfl) (Zn YE Ze (Zn Z8 (pv 0) Ze)))
   (Zj (Zw (i:=3) Wk.nd rfl (Or.inl rfl) (Zn Z8 (Zn Y1 (pv 0) Ze) (pv 2)))
   (Zj (Vh (i:=4) rfl  Wk.nd rfl (Or.inl rfl) (XR (N:=["_law_k","_law_cell"]) ["_law_cell"] [none,some 0] rfl (by decide +kernel) (by decide +kernel) (by rfl) (by rfl) (by rfl) (by rfl) (by rfl)) (Vn (by rfl) T.n_range (Za (pv 2) Zc)) (fun _ _ _=>(ZW (i:=0) Zl8 rfl (Or.inl rfl))) (fun _ _ _=>Jb) (fun _ _ _=>(Zn Z8 (Zn YE (Zn Y1 (Zn Y1 (pv 1) Ze) (Zn YE (pv 0) Ze)) (Zn Xz Ze (pv 0))) Ze)))
   (Zj (Zw (i:=5) Wk.nd rfl (Or.inl rfl) (Yi Zc))
   (Zj (Yv QH rfl (Vn (by rfl) T.n_range (Za Ze Zc)) (ZW (i:=6) Wk.nd rfl (Or.inl rfl))
    (Zj (Zw (i:=7) Wk.nd rfl (Or.inl rfl) Zs)
   (Zj (Yv QH rfl (Vn (by rfl) T.n_range (Za (pv 2) Zc)) (ZW (i:=8) Wk.nd rfl (Or.inl rfl))
    (Zl (Zw (i:=7) Wk.nd rfl (Or.inl rfl) (Zn Zht (pv 7) (Zm Zkx (pv 1) (Zn Z8 (Zn YE (Zm Ym (pv 4) (pv 8) (fun _ _=>rfl)) (Zn ZaL (pv 6) (VX Zgo (by rfl) T.n_int Zdz (Za (YJ Z1 (pv 8) (pv 3) (Zu _)) Zc)))) Ze) (fun _ _=>rfl))))))
   (Zl (Yc (X7 Ri Ro Rp XU (pv 5) (Za (Zn Zht (pv 7) (VE ZhZ Zs UI (Vo (Zn Z8 (pv 6) Ze)))) Zc)))))))
   (Zl (Zy (pv 5))))))))),?_⟩
 have s0:=QP c (show (0:Int)<6 by decide);have s1:=Q2 c (show (0:Int)<6 by decide);refine ⟨_,rfl,_,_,rfl,rfl,Ys (by decide),_,_,rfl,rfl,?_⟩
 try dsimp only
 obtain ⟨n,hn⟩:∃n:Nat,1+c.fmod 6=(n:Int):=⟨(1+c.fmod 6).toNat,by omega⟩;rw [hn];have n1:1≤n∧n≤6:=by omega
 have a0:=QP (c.fdiv 6) (show (0:Int)<n by omega);have a1:=Q2 (c.fdiv 6) (show (0:Int)<n by omega);refine ⟨_,rfl,_,_,rfl,rfl,⟨by decide,YB (by decide) (by decide)⟩,_,rfl,_,_,rfl,rfl,(show (n:Int)≠0 by omega),?_⟩
 try dsimp only
 obtain ⟨p,hp⟩:∃p:Nat,(c.fdiv 6).fmod n=(p:Int):=⟨((c.fdiv 6).fmod n).toNat,by omega⟩;rw [hp];have pn:p<n:=by omega
 refine ⟨_,rfl,_,rfl,by omega,by omega,Za9 ((List.range n).map fun j=>V.int (Ws c j)) (Zz (by rw [Qd,Gk];omega)) (fun σ=>∃w,σ=[w,some (.int c)]) ⟨_,rfl⟩ (fun i H3 hi sm=>?go) (fun H3 sm=>?stop) (fun i σ H3 x H4 y hy hσ sm hx C hC=>?step) (fun D2 H3 nD2 sm hD2=>?fin)⟩
 case go =>
  rw [Qd,Gk] at hi;show i<(n:Int).toNat;omega
 case stop =>
  rw [Qd,Gk];show (n:Int).toNat≤n;omega
 case step =>
  obtain ⟨w,rfl⟩:=hσ;obtain ⟨rfl,rfl⟩:=hx
  have il:i<n:=by
   have:=(QI.mp hy).1
   rwa [Qd,Gk] at this
  obtain rfl:V.int (Ws c i)=y:=by
   rw [Qw,NU il] at hy;exact Qn hy
  rw [show (0:Int)+(i:Int)=i from Gn _];exact ⟨_,rfl,_,_,rfl,rfl,⟨by decide,YB (by decide) (by decide)⟩,_,rfl,_,_,rfl,rfl,_,_,rfl,rfl,⟨by omega,YB (by omega) (by omega)⟩,_,rfl,_,_,rfl,rfl,.inl ⟨by decide,by decide⟩,_,_,rfl,rfl,_,_,rfl,rfl,Ys (by decide),hC _ _ ⟨_,rfl⟩ (Same.refl _)⟩
 case fin =>
 refine ⟨few rfl,fun D nD=>?_⟩;have sD:=Zk (o:=.lst []) nD;have s3D:=sm.trans sD;have D2D:D2≠D:=ZO hD2 nD;have hb:∀{Hc:Hp},Hc D2=some (.lst ((List.range n).map fun j=>V.int (Ws c j)))->SqL K Hc D2 ((List.range n).map fun j=>V.int (Ws c j)):=fun h=>.of h;refine ⟨_,rfl,by decide,by decide,VU (fun i σ Hc=>∃v6 v7 v8,σ=[some (.int c),some (.str "abcdefghijklmnopqrstuvwxyz"),some (.int n),some (.int p),some (.ref D2),some (.ref D),v6,v7,v8]∧Same H Hc∧Hc D=some (.lst (((List.range i).map (Wx c n p)).map V.str))∧Hc D2=some (.lst ((List.range n).map fun j=>V.int (Ws c j)))) ⟨_,_,_,rfl,s3D,Zg,by rw [Zd D2D];exact hD2⟩ ?_ ?_⟩
 ·rintro k σ Hc hk ⟨v6,v7,v8,rfl,sc,hD,hD2c⟩;have k24:k<24:=hk;rw [show (0:Int)+(k:Int)=k from Gn _];refine ⟨_,rfl,_,rfl,by omega,by omega,VU (fun j σ Hj=>Hj=Hc∧∃v8,σ=[some (.int c),some (.str "abcdefghijklmnopqrstuvwxyz"),some (.int n),some (.int p),some (.ref D2),some (.ref D),some (.int k),some (.str ⟨(Xp c p k j).toArray⟩),v8]) ⟨rfl,_,rfl⟩ ?_ ?_⟩
  ·rintro j σ Hj hj ⟨rfl,v8,rfl⟩;have jn:j<n:=by omega
   rw [show (0:Int)+(j:Int)=j from Gn _];have atj:Yl ((List.range n).map fun j=>V.int (Ws c j)) (j:Int)=some (.int (Ws c j)):=XT (by rw [Qw,NU jn];rfl);have bn:∀z:Int,z=0∨z=1->z.natAbs<2 ^ 1000:=fun z h=>YB (by omega) (by omega);refine ⟨_,rfl,_,rfl,_,rfl,_,rfl,D2,_,_,_,rfl,rfl,hb hD2c,atj,_,rfl,_,rfl,_,rfl,rfl,.inr ⟨_,rfl,_,_,rfl,rfl,⟨YB (by omega) (by omega),bn _ (by split<;>simp)⟩,_,_,rfl,rfl,_,_,rfl,rfl,Ys (by decide),_,_,_,rfl,rfl,few rfl,Zmd _,_,_,rfl,rfl,?_,rfl,some (.int (j:Int)),?_⟩⟩
   ·exact few (by rw [UE,VT];show Nat.ble (j+1) 1000=true;exact Nat.ble_eq_true_of_le (by omega))
   ·show [_,_,_,_,_,_,_,some (V.str _),_]=_;rw [Zij,Zmq];by_cases e:j=p
    ·subst e;simp
    ·have:¬((j:Int)=(p:Int)):=by omega
     simp [e,this]
  ·rintro σ Hj ⟨rfl,v8,rfl⟩;rw [show ((n:Int)).toNat=n from rfl];refine ⟨_,rfl,.inl ⟨rfl,_,.of hD⟩,_,rfl,?_⟩;dsimp only [JO];refine ⟨_,rfl,_,_,rfl,rfl,Ys (by decide),_,rfl,_,rfl,few rfl,_,_,rfl,rfl,?len,D,_,_,rfl,rfl,hD,Zz (by simp;omega),_,_,_,rfl,?same,?lst,?_⟩
   case len =>
    rw [Zee,UE,UE,VT,Rl];exact few (Nat.ble_eq_true_of_le (by omega))
   case same =>
    intro a u e;rw [Zd (ZO e (ZJ sm nD))];exact sc _ _ e
   case lst =>
    rw [Zg,Zee,ZnR,List.range_succ,Qr,Qr];rfl
   ·rw [Zd D2D];exact hD2c
 ·rintro σ Hc ⟨v6,v7,v8,rfl,sc,hD,hD2c⟩;exact ⟨_,rfl,q _ D _ sc (ZJ sm nD) hD (Zkg n1.1 n1.2 pn)⟩
theorem Zl2 (T:Tx K w mg)  : ZeI P base T:=by
 refine Fun.okX (k:=0) T.Zbb.F Zkv (fun vs H Q E h=>h.1) (fun cdv A outer s H vs Q E hr h=>?_);obtain ⟨-,h⟩:=h;obtain ⟨c,k,w,rfl,k0,k1,q⟩:=h
 refine ⟨_,(Zj (ZI (ZA Z1 (pv 2) Ze (Zu _)) (Zl (Zy (Zn JP (Zn Z8 (Zn Xz (pv 0) Ze) (Zn YE (Zn Xz Ze (Zn XV Ze Ze)) Ze)) (Zn XV Ze Ze)))) ZK)
   (Zj (ZI (ZA Z1 (pv 2) Ze (Zu _)) (Zl (Zy (Zn JP (Zn YE (Zn ZaL (Zn Xz (pv 1) Ze) (Zn XV Ze Ze)) (Zn Z8 (pv 0) (Zn Xz Ze (Zn XV Ze Ze)))) (Zn XV Ze Ze)))) ZK)
   (Zl (Zy (Zn JP (Zn Z8 (pv 0) Ze) Ze))))),?_⟩
 have c18:W4 10 18:=⟨by decide,by decide,by decide⟩;have c16:W4 10 16:=⟨by decide,by decide,by decide⟩;refine ⟨_,rfl,rfl,_,rfl,YA (fun h1=>?_) (fun h1=>?_)⟩
 ·refine ⟨_,rfl,_,_,rfl,rfl,.inr ⟨by decide,by decide⟩,_,_,rfl,rfl,c18,_,_,rfl,rfl,.inl ⟨by decide,by decide⟩,_,_,rfl,rfl,_,_,rfl,rfl,Ys (by decide),_,_,rfl,rfl,c18,_,_,rfl,rfl,q _ ?_ ?_⟩
  ·have:=QP (c*1000003) (show (0:Int)<2*10 ^ (18:Int).toNat+1 by decide);show (-10 ^ 18:Int)≤_-10 ^ 18;omega
  ·have:=Q2 (c*1000003) (show (0:Int)<2*10 ^ (18:Int).toNat+1 by decide);have e:(2*10 ^ (18:Int).toNat+1:Int)=2*10 ^ 18+1:=rfl;show _-10 ^ 18≤(10 ^ 18:Int);omega
 refine ⟨_,rfl,rfl,_,rfl,YA (fun h2=>?_) (fun h2=>?_)⟩
 ·have:=QP c (show (0:Int)<3*10 ^ (16:Int).toNat by decide);have:=Q2 c (show (0:Int)<3*10 ^ (16:Int).toNat by decide);have e:(3*10 ^ (16:Int).toNat:Int)=3*10 ^ 16:=rfl;refine ⟨_,rfl,_,_,rfl,rfl,.inr ⟨by decide,by decide⟩,_,_,rfl,rfl,c16,_,_,rfl,rfl,⟨YB (by omega) (by omega),YB (by decide) (by decide)⟩,_,rfl,_,_,rfl,rfl,c16,_,_,rfl,rfl,.inl ⟨by decide,by decide⟩,_,_,rfl,rfl,Ys (by decide),_,_,rfl,rfl,_,_,rfl,rfl,c18,_,_,rfl,rfl,q _ ?_ ?_⟩
  ·show (-10 ^ 18:Int)≤k*4*10 ^ 16+_-10 ^ 18;omega
  ·show k*4*10 ^ 16+_-10 ^ 18≤(10 ^ 18:Int);omega
 ·have:=QP c (show (0:Int)<9 by decide);have:=Q2 c (show (0:Int)<9 by decide);exact ⟨_,rfl,_,_,rfl,rfl,Ys (by decide),_,_,rfl,rfl,q _ (by omega) (by omega)⟩
theorem ZoH (T:Tx K w mg)  : Zfu P base T:=by
 refine Fun.okX (k:=0) T.Zax.F WS (fun vs H Q E h=>h.1) (fun cdv A outer s H vs Q E hr h=>?_);obtain ⟨-,h⟩:=h;obtain ⟨D,ln,c,d,ps,ns,rfl,hP,hN,n24,l24,q⟩:=h
 refine ⟨_,(Zj (Zw (i:=4) WS.nd rfl (Or.inl rfl) (Zn Z8 (Zn Xz (pv 2) Ze) Ze))
   (Zj (ZdU (Vh (i:=5) rfl  WS.nd rfl (Or.inl rfl) (XR (N:=["_law_one","_law_day_here","_law_people"]) ["_law_people","_law_day_here"] [none,some 3,some 0] rfl (by decide +kernel) (by decide +kernel) (by rfl) (by rfl) (by rfl) (by rfl) (by rfl)) (ZcX (pv 0)) (fun _ _ _=>(ZW (i:=0) ZhP rfl (Or.inl rfl))) (fun _ _ _=>(WR (ZA WD (Zm (Uo K rfl) (Xg (ZV hr) (pv 2) (pv 0) (fun _ _=>rfl)) Ze (fun _ _=>rfl)) (pv 1) (Zu _)))) (fun _ _ _=>(pv 0))))
   (Zj (Vh (i:=6) rfl  WS.nd rfl (Or.inl rfl) (XR (N:=["_law_one","_law_people"]) ["_law_people"] [none,some 0] rfl (by decide +kernel) (by decide +kernel) (by rfl) (by rfl) (by rfl) (by rfl) (by rfl)) (Xa (pv 5)) (fun _ _ _=>(ZW (i:=0) Zer rfl (Or.inl rfl))) (fun _ _ _=>(WR (ZA Z1 (Zm (Uo K rfl) (Xg (ZV hr) (pv 1) (pv 0) (fun _ _=>rfl)) Ze (fun _ _=>rfl)) Zs (Zu _)))) (fun _ _ _=>(pv 0)))
   (Zj (Vh (i:=7) rfl  WS.nd rfl (Or.inl rfl) (XR (N:=["_law_one","_law_people"]) ["_law_people"] [none,some 0] rfl (by decide +kernel) (by decide +kernel) (by rfl) (by rfl) (by rfl) (by rfl) (by rfl)) (Xa (pv 5)) (fun _ _ _=>(ZW (i:=0) Zer rfl (Or.inl rfl))) (fun _ _ _=>(WR (ZA Z1 (Zm (Uo K rfl) (Xg (ZV hr) (pv 1) (pv 0) (fun _ _=>rfl)) Ze (fun _ _=>rfl)) Zs (Zu _)))) (fun _ _ _=>(pv 0)))
   (Zj (Zw (i:=8) WS.nd rfl (Or.inl rfl) Zs)
   (Zj (Zw (i:=9) WS.nd rfl (Or.inl rfl) Zs)
   (Zj (ZI (PW.pt (Wz (ZA Wq (ZN Yw (by rfl) T.n_len Yd (Za (pv 6) Zc)) Ze (Zu _)) (WM (ZA Wq (Zn Z8 (pv 4) Ze) Ze (Zu _))))) (Zl (Zw (i:=8) WS.nd rfl (Or.inl rfl) (Zm Ym (pv 6) (Zn Z8 (Zn Y1 (pv 4) Ze) (ZN Yw (by rfl) T.n_len Yd (Za (pv 6) Zc))) (fun _ _=>rfl)))) ZK)
   (Zj (ZI (PW.pt (Wz (ZA Wq (ZN Yw (by rfl) T.n_len Yd (Za (pv 7) Zc)) Ze (Zu _)) (WM (ZA Wq (Zn Z8 (Zn Y1 (pv 4) Ze) Ze) Ze (Zu _))))) (Zl (Zw (i:=9) WS.nd rfl (Or.inl rfl) (Zm Ym (pv 7) (Zn Z8 (Zn Y1 (pv 4) Ze) (ZN Yw (by rfl) T.n_len Yd (Za (pv 7) Zc))) (fun _ _=>rfl)))) ZK)
   (Zl (Zy (ZY (Za Zs (Za (Zm Ym (pv 1) (ZN J8 (by rfl) T.n_len Yd (Za (pv 0) Zc)) (fun _ _=>rfl)) (Za (Zm Ym (Yi (Za Zs (Za Zs (Za Zs (Za Zs (Za Zs Zc)))))) (Zn Z8 (pv 2) Ze) (fun _ _=>rfl)) (Za (pv 3) (Za (pv 8) (Za (pv 9) Zc))))))))))))))))),?_⟩
 refine ⟨_,rfl,_,_,rfl,rfl,.inr ⟨by decide,by decide⟩,_,_,rfl,rfl,Ys (by decide),?_⟩;dsimp only [ZX];generalize (c*48271).fmod 2147483647=num;refine ⟨D,XF ps,hP.d,_,rfl,D,_,rfl,hP.d,fun o=>Vg (ps.map (Jm d)) (Zz (by rw [Qd];omega)) (fun σ=>∃w,σ=[w,some (.int d),some (.ref D)]) ⟨_,rfl⟩ (fun j H4 hj sm=>?go) (fun H4 sm=>?stop) (fun j σ H4 x H5 z hz hσ sm hx C hC=>?step) (fun D5 H5 nD5 s5 hD5=>?fin)⟩
 case go=>exact ⟨sm _ _ Zg,by rw [Qd] at hj ⊢;exact hj⟩
 case stop=>exact ⟨sm _ _ Zg,by rw [Qd,Qd];exact Qf _⟩
 case step =>
  obtain ⟨w,rfl⟩:=hσ;obtain ⟨rfl,hx2⟩:=hx;rw [Qw] at hx2 hz;obtain ⟨p,hp,rfl⟩:=QR.mp hz;rw [hp] at hx2;obtain rfl:=Qn hx2;have hm:p∈ps:=QD hp;refine ⟨_,rfl,_,rfl,D,_,rfl,PpAt.get hP.nd (.inr ⟨o,sm _ _ Zg⟩) hm,_,_,_,_,rfl,rfl,sm.sqt (Zks hP.d (hP.t p hm)),Zh (j:=1) rfl,_,rfl,_,_,rfl,rfl,_,rfl,?_⟩;by_cases e:p.2.2.2<d
  ·rw [show Jm d p=some (.str p.1) from Qc e] at hC;rw [Qm e];exact Z2 ⟨_,rfl,hC _ _ ⟨_,rfl⟩ (Same.refl _)⟩
  ·rw [show Jm d p=none from Qa e] at hC;rw [Qj e];exact Z4 (hC _ _ ⟨_,rfl⟩ (Same.refl _))
 case fin =>
 rw [Zgi] at hD5;obtain ⟨olds,eo⟩:∃z,z=ps.filter fun p=>decide (p.2.2.2<d):=⟨_,rfl⟩;rw [←eo] at hD5;have ol:olds.length≤ps.length:=by rw [eo];exact NS ..
 have om:∀p∈olds,p∈ps∧p.2.2.2<d:=fun p hp=>by
  rw [eo] at hp;exact ⟨(Q5.mp hp).1,QB (Q5.mp hp).2⟩
 refine ⟨o,s5 _ _ Zg,?_⟩;have s1:=Zi6 hP.d s5
 have nD5H:H D5=none:=by
  by_cases z:D5=D
  ·rw [z,Zg] at nD5;cases nD5
  ·rwa [Zd z] at nD5
 have D5D:D5≠D:=fun z=>by rw [z,hP.d] at nD5H;cases nD5H
 have hO:(Zb H5 D (.dK (XF ps))) D5=some (.lst ((olds.map (·.1)).map V.str)):=by rw [Zd D5D];exact hD5
 generalize Zb H5 D (.dK (XF ps))=H1 at *;have hP1:=hP.mono s1;refine ⟨_,rfl,D5,rfl,⟨_,.of hO⟩,Vg (olds.map (Va "he")) (Zz (by rw [Qd];omega)) (fun σ=>∃w,σ=[w,some (.ref D)]) ⟨_,rfl⟩ (fun j H4 hj sm=>?go2) (fun H4 sm=>?stop2) (fun j σ H4 x H5 z hz hσ sm hx C hC=>?step2) (fun D6 H6 nD6 s6 hD6=>?fin2)⟩
 case go2=>exact ⟨_,_,sm.sql (.of hO),Qx (by rw [Qd,Qd];rw [Qd] at hj;exact hj)⟩
 case stop2=>exact ⟨_,sm.sql (.of hO),by rw [Qd,Qd,Qd];exact Qf _⟩
 case step2 =>
  obtain ⟨w,rfl⟩:=hσ;obtain ⟨rfl,hx2⟩:=hx;obtain ⟨y,hy,rfl⟩:=Wu (hx2 _ (sm.sql (.of hO)));rw [Qw] at hy hz;obtain ⟨p,hp,rfl⟩:=QR.mp hy;rw [hp] at hz;obtain rfl:=Qn hz;have hm:p∈ps:=(om p (QD hp)).1;refine ⟨_,rfl,_,rfl,D,_,rfl,PpAt.get hP.nd (.inl (sm _ _ hP1.d)) hm,_,_,_,_,rfl,rfl,sm.sqt (hP1.t p hm),Zh (j:=0) rfl,rfl,_,rfl,?_⟩;by_cases e:p.2.2.1="he"
  ·rw [show Va "he" p=some (.str p.1) from Qc e] at hC;rw [Qm (show V.str p.2.2.1=V.str "he" by rw [e])];exact Z2 ⟨_,rfl,hC _ _ ⟨_,rfl⟩ (Same.refl _)⟩
  ·rw [show Va "he" p=none from Qa e] at hC;rw [Qj (show ¬V.str p.2.2.1=V.str "he" from fun z=>e (V.str.inj z))];exact Z4 (hC _ _ ⟨_,rfl⟩ (Same.refl _))
 case fin2 =>
 rw [Zcn] at hD6;have s2:=s1.trans s6;have hP2:=hP.mono s2;have hO2:=s6 _ _ hO;refine ⟨_,rfl,D5,rfl,⟨_,.of hO2⟩,Vg (olds.map (Va "she")) (Zz (by rw [Qd];omega)) (fun σ=>∃w,σ=[w,some (.ref D)]) ⟨_,rfl⟩ (fun j H4 hj sm=>?go3) (fun H4 sm=>?stop3) (fun j σ H4 x H5 z hz hσ sm hx C hC=>?step3) (fun D7 H7 nD7 s7 hD7=>?fin3)⟩
 case go3=>exact ⟨_,_,sm.sql (.of hO2),Qx (by rw [Qd,Qd];rw [Qd] at hj;exact hj)⟩
 case stop3=>exact ⟨_,sm.sql (.of hO2),by rw [Qd,Qd,Qd];exact Qf _⟩
 case step3 =>
  obtain ⟨w,rfl⟩:=hσ;obtain ⟨rfl,hx2⟩:=hx;obtain ⟨y,hy,rfl⟩:=Wu (hx2 _ (sm.sql (.of hO2)));rw [Qw] at hy hz;obtain ⟨p,hp,rfl⟩:=QR.mp hy;rw [hp] at hz;obtain rfl:=Qn hz;have hm:p∈ps:=(om p (QD hp)).1;refine ⟨_,rfl,_,rfl,D,_,rfl,PpAt.get hP.nd (.inl (sm _ _ hP2.d)) hm,_,_,_,_,rfl,rfl,sm.sqt (hP2.t p hm),Zh (j:=0) rfl,rfl,_,rfl,?_⟩;by_cases e:p.2.2.1="she"
  ·rw [show Va "she" p=some (.str p.1) from Qc e] at hC;rw [Qm (show V.str p.2.2.1=V.str "she" by rw [e])];exact Z2 ⟨_,rfl,hC _ _ ⟨_,rfl⟩ (Same.refl _)⟩
  ·rw [show Va "she" p=none from Qa e] at hC;rw [Qj (show ¬V.str p.2.2.1=V.str "she" from fun z=>e (V.str.inj z))];exact Z4 (hC _ _ ⟨_,rfl⟩ (Same.refl _))
 case fin3 =>
 rw [Zcn] at hD7;have s3:=s2.trans s7;have hP3:=hP.mono s3;have hF:=s7 _ _ hD6;obtain ⟨fs,ef⟩:∃z,z=olds.filter fun p=>decide (p.2.2.1=("he" : Str)):=⟨_,rfl⟩;obtain ⟨ms,em⟩:∃z,z=olds.filter fun p=>decide (p.2.2.1=("she" : Str)):=⟨_,rfl⟩;rw [←ef] at hF;rw [←em] at hD7
 have fm:∀p∈fs,XI ps "he" d p.1:=fun p hp=>by
  rw [ef] at hp;obtain ⟨h1,h2⟩:=Q5.mp hp;exact .inr ⟨p,(om p h1).1,rfl,QB h2,(om p h1).2⟩
 have mm:∀p∈ms,XI ps "she" d p.1:=fun p hp=>by
  rw [em] at hp;obtain ⟨h1,h2⟩:=Q5.mp hp;exact .inr ⟨p,(om p h1).1,rfl,QB h2,(om p h1).2⟩
 rw [QX] at hF hD7;dsimp only [ZX];refine ZfF (ZfF ?_);refine YL (fun σ Hx=>H7=Hx∧∃f,XI ps "he" d f∧σ=[some (.ref D),some (.ref ln),some (.int c),some (.int d),some (.int num),some (.ref D5),some (.ref D6),some (.ref D7),some (.str f),some (.str "")]) (fun nx rest=>?_) ?_
 ·refine ⟨_,rfl,D6,_,rfl,.inl (.of hF),_,_,rfl,rfl,_,rfl,YA (fun h1=>⟨_,rfl,_,_,rfl,rfl,Ys (by decide),_,_,rfl,rfl,_,rfl,YA (fun h2=>?_) (fun h2=>?_)⟩) (fun h1=>?_)⟩
  ·have l0:0<fs.length:=by
    have:=QB h1;rw [Qd] at this;omega
   obtain ⟨p,hp,ea⟩:=W0 (V.str∘fun p:Pp=>p.1) fs l0 (num.fdiv 7);exact ⟨_,rfl,_,rfl,_,_,rfl,rfl,⟨by decide,YB (by decide) (by decide)⟩,_,rfl,D6,_,rfl,.inl (.of hF),_,_,rfl,rfl,(by rw [Qd];omega),D6,_,_,_,rfl,rfl,.of hF,ea,rest _ _ ⟨rfl,p.1,fm p hp,rfl⟩⟩
  ·exact rest _ _ ⟨rfl,"",.inl rfl,rfl⟩
  ·exact rest _ _ ⟨rfl,"",.inl rfl,rfl⟩
 rintro σ _ ⟨rfl,f,hf,rfl⟩;refine YL (fun σ Hx=>H7=Hx∧∃m,XI ps "she" d m∧σ=[some (.ref D),some (.ref ln),some (.int c),some (.int d),some (.int num),some (.ref D5),some (.ref D6),some (.ref D7),some (.str f),some (.str m)]) (fun nx rest=>?_) ?_
 ·refine ⟨_,rfl,D7,_,rfl,.inl (.of hD7),_,_,rfl,rfl,_,rfl,YA (fun h1=>⟨_,rfl,_,_,rfl,rfl,⟨by decide,YB (by decide) (by decide)⟩,_,_,rfl,rfl,Ys (by decide),_,_,rfl,rfl,_,rfl,YA (fun h2=>?_) (fun h2=>?_)⟩) (fun h1=>?_)⟩
  ·have l0:0<ms.length:=by
    have:=QB h1;rw [Qd] at this;omega
   obtain ⟨p,hp,ea⟩:=W0 (V.str∘fun p:Pp=>p.1) ms l0 (num.fdiv 1400);exact ⟨_,rfl,_,rfl,_,_,rfl,rfl,⟨by decide,YB (by decide) (by decide)⟩,_,rfl,D7,_,rfl,.inl (.of hD7),_,_,rfl,rfl,(by rw [Qd];omega),D7,_,_,_,rfl,rfl,.of hD7,ea,rest _ _ ⟨rfl,p.1,mm p hp,rfl⟩⟩
  ·exact rest _ _ ⟨rfl,"",.inl rfl,rfl⟩
  ·exact rest _ _ ⟨rfl,"",.inl rfl,rfl⟩
 rintro σ _ ⟨rfl,m,hm,rfl⟩;obtain ⟨s,hs,es⟩:=ZhL c;have il:ps.length<ns.length:=by omega
 have en:ns[ps.length]?=some ns[ps.length]:=Qx il;have an:Yl (ns.map V.str) ((XF ps).length:Int)=some (.str ns[ps.length]):=by rw [Qd];exact XT (by rw [Qw,en];rfl)
 refine ⟨_,rfl,_,rfl,D,_,rfl,hP3.d,ln,_,_,_,rfl,rfl,s3.sql hN,an,few rfl,fun L nL=>⟨_,rfl,_,_,rfl,rfl,Ys (by decide),L,_,_,_,rfl,rfl,.of Zg,es,_,rfl,_,rfl,_,rfl,few rfl,fun a na=>?_⟩⟩;exact q _ a _ _ _ _ ((s3.trans (Zk nL)).trans (Zk na)) (ZJ (s3.trans (Zk nL)) na) (.of Zg) en hs hf hm
theorem ZoW (T:Tx K w mg)  : ZgJ P base T:=by
 refine Fun.okX (k:=0) T.Za6.F Y3 (fun vs H Q E h=>h.1) (fun cdv A outer s H vs Q E hr h=>?_);obtain ⟨-,h⟩:=h;obtain ⟨D,Dk,c,kd,ps,kn,rfl,hP,hK,p2,p24,k100,ok,pd,qn,q⟩:=h
 refine ⟨_,(Zj (Zw (i:=4) Y3.nd rfl (Or.inl rfl) (VX (Zn5 rfl) (by rfl) T.n_list UZ (Za (pv 0) Zc)))
   (Zj (Zw (i:=5) Y3.nd rfl (Or.inl rfl) (Zm Ym (pv 4) (Zn Z8 (pv 2) (ZN Yw (by rfl) T.n_len Yd (Za (pv 4) Zc))) (fun _ _=>rfl)))
   (Zj (Zw (i:=6) Y3.nd rfl (Or.inl rfl) (Zm Ym (pv 4) (Zn Z8 (Zn YE (Zn YE (pv 2) Ze) (Zn Z8 (Zn Y1 (pv 2) Ze) (Zn JP (ZN Yw (by rfl) T.n_len Yd (Za (pv 4) Zc)) Ze))) (ZN Yw (by rfl) T.n_len Yd (Za (pv 4) Zc))) (fun _ _=>rfl)))
   (Zj (Zw (i:=7) Y3.nd rfl (Or.inl rfl) (ZN (Zaj rfl) (by rfl) T.n_min VP (Za (Zn XV Ze Ze) (Za (Zn YE (ZN (ZjA rfl) (by rfl) T.n_max JG (Za (Zm Zq (Xg (ZV hr) (pv 0) (pv 5) (fun _ _=>rfl)) Ze (fun _ _=>rfl)) (Za (Zm Zq (Xg (ZV hr) (pv 0) (pv 6) (fun _ _=>rfl)) Ze (fun _ _=>rfl)) Zc))) (Zn Z8 (Zn Y1 (pv 2) Ze) (Zn XV Ze Ze))) Zc))))
   (Zj (ZfP (Vh (i:=8) rfl  Y3.nd rfl (Or.inl rfl) (XR (N:=["_law_key"]) [] [none] rfl (by decide +kernel) (by decide +kernel) (by rfl) (by rfl) (by rfl) (by rfl) (by rfl)) (ZnV (pv 1)) (fun _ _ _=>(ZW (i:=0) ZjP rfl (Or.inl rfl))) (fun _ _ _=>(WR (ZA Z1 (Zm (Uo K rfl) (pv 0) Ze (fun _ _=>rfl)) Zs (Zu _)))) (fun _ _ _=>(pv 0))))
   (Zj (ZI (PW.pt (Wz (ZA Wq (pv 3) Ze (Zu _)) (WM (ZA Wq (ZN Yw (by rfl) T.n_len Yd (Za (pv 8) Zc)) Ze (Zu _))))) (Zj (Zw (i:=9) Y3.nd rfl (Or.inl rfl) (Zm Ym (pv 8) (Zn Z8 (pv 2) (ZN Yw (by rfl) T.n_len Yd (Za (pv 8) Zc))) (fun _ _=>rfl)))
   (Zj (Zw (i:=5) Y3.nd rfl (Or.inl rfl) (Zm Zq (pv 9) Ze (fun _ _=>rfl)))
   (Zj (Zw (i:=6) Y3.nd rfl (Or.inl rfl) (Zm Zq (pv 9) Ze (fun _ _=>rfl)))
   (Zl (Zw (i:=7) Y3.nd rfl (Or.inl rfl) (ZN (Zaj rfl) (by rfl) T.n_min VP (Za (Zn XV Ze Ze) (Za (Zn YE (Zm Zq (pv 9) Ze (fun _ _=>rfl)) (Zn Z8 (Zn Y1 (pv 2) Ze) Ze)) Zc)))))))) ZK)
   (Zj (Zw (i:=10) Y3.nd rfl (Or.inl rfl) (ZY (Za Zs (Za (ZN (Zda rfl) (by rfl) T.n_min VP (Za (pv 5) (Za (pv 6) Zc))) (Za (ZN (Zbp rfl) (by rfl) T.n_max JG (Za (pv 5) (Za (pv 6) Zc))) (Za (pv 7) Zc))))))
   (Zj (Zw (i:=11) Y3.nd rfl (Or.inl rfl) (ZY (Za (Zm Ym (Yi (Za Zs (Za Zs Zc))) (VX Zgo (by rfl) T.n_int Zdz (Za (YJ Wq (pv 3) Ze (Zu _)) Zc)) (fun _ _=>rfl)) (Za (pv 5) (Za (pv 6) (Za (pv 7) Zc))))))
   (Zj (ZI (ZA Z1 (pv 3) Ze (Zu _)) (Zj (ZI (ZA WD (Zm Zq (Xg (ZV hr) (pv 0) (pv 5) (fun _ _=>rfl)) Ze (fun _ _=>rfl)) (Zm Zq (Xg (ZV hr) (pv 0) (pv 6) (fun _ _=>rfl)) Ze (fun _ _=>rfl)) (Zu _)) (Zl (Zk6 rfl Y3.nd (i:=5) (j:=6) rfl rfl (by decide) rfl rfl (Za (pv 6) (Za (pv 5) Zc)) rfl)) ZK)
   (Zj (Zw (i:=10) Y3.nd rfl (Or.inl rfl) (ZY (Za Zs (Za (pv 5) (Za (pv 6) Zc)))))
   (Zj (Zw (i:=11) Y3.nd rfl (Or.inl rfl) (ZY (Za Zs (Za (pv 5) (Za (pv 6) (Za (pv 7) Zc))))))
   (Zl (ZI (ZA Z1 (Zm Zq (Xg (ZV hr) (pv 0) (pv 5) (fun _ _=>rfl)) Ze (fun _ _=>rfl)) (Zm Zq (Xg (ZV hr) (pv 0) (pv 6) (fun _ _=>rfl)) Ze (fun _ _=>rfl)) (Zu _)) (Zl (Zy Vp)) ZK))))) ZK)
   (Zj (ZI (PW.pt (Wz (ZA Z1 (pv 3) Ze (Zu _)) (WM (ZA Z1 (Zn Z8 (pv 2) Ze) Ze (Zu _))))) (Zj (Zw (i:=10) Y3.nd rfl (Or.inl rfl) (ZY (Za Zs (Za (pv 5) Zc))))
   (Zl (Zw (i:=11) Y3.nd rfl (Or.inl rfl) (ZY (Za Zs (Za (pv 5) (Za (pv 7) Zc))))))) ZK)
   (Zj (ZI (Um (ZcO (ZV hr) (pv 10) (pv 1))) (Zl (Zy Vp)) ZK)
   (Zj (XQ (ZV hr) (pv 1) (pv 10) Y5 rfl)
   (Zl (Zy (pv 11))))))))))))))),?_⟩
 have c18:W4 10 18:=⟨by decide,by decide,by decide⟩;have c6:W4 10 6:=⟨by decide,by decide,by decide⟩;have eD:XF ps=(ps.map fun p=>(p.1,V.ref p.2.1)).map (fun p=>((.inr p.1:Zi),p.2)):=by rw [QX];rfl
 have en:((ps.map fun p:Pp=>(p.1,V.ref p.2.1)).map (·.1))=ps.map (·.1):=by rw [QX];rfl
 refine ⟨_,rfl,D,ps.map fun p=>(p.1,V.ref p.2.1),rfl,by rw [←eD];exact hP.d,by rw [Qd];omega,fun L nL=>?_⟩;rw [en];have s1:=Zk (o:=.lst ((ps.map (·.1)).map V.str)) nL;have hL:Zb H L (.lst ((ps.map (·.1)).map V.str)) L=some (.lst ((ps.map (·.1)).map V.str)):=Zg;dsimp only [ZX];generalize Zb H L (.lst ((ps.map (·.1)).map V.str))=H1 at *;have hPd:=s1 _ _ hP.d;have hPt:∀p∈ps,SqT K H1 p.2.1 [.str p.2.2.1,.int p.2.2.2]:=fun p hp=>s1.sqt (hP.t p hp);have hK1:=s1 _ _ hK;have el:(((ps.map (·.1)).map V.str).length:Int)=(ps.length:Int):=by rw [Qd,Qd]
 obtain ⟨p,hp,r,hr',ne,a1,a2⟩:=Zmt hP.nd p2 c;refine ⟨_,rfl,_,rfl,_,rfl,L,_,rfl,.inl (.of hL),_,_,rfl,rfl,(by omega),L,_,_,_,rfl,rfl,.of hL,a1,?_⟩;refine ⟨_,rfl,_,rfl,_,_,rfl,rfl,_,rfl,_,_,rfl,rfl,⟨by decide,YB (by decide) (by decide)⟩,_,rfl,L,_,rfl,.inl (.of hL),_,_,rfl,rfl,_,_,rfl,rfl,(by omega),_,_,rfl,rfl,_,rfl,L,_,rfl,.inl (.of hL),_,_,rfl,rfl,(by omega),L,_,_,_,rfl,rfl,.of hL,a2,?_⟩;dsimp only [ZX];refine YL (fun σ Hx=>H1=Hx∧∃day,TwoOk ps p r day∧σ=[some (.ref D),some (.ref Dk),some (.int c),some (.int kd),some (.ref L),some (.str p.1),some (.str r.1),some (.int day),none,none,none,none]) (fun nx rest=>?_) ?_
 ·refine ⟨_,_,rfl,rfl,c18,_,rfl,_,rfl,D,_,rfl,PpAt.get hP.nd (.inl hPd) hp,_,_,_,_,rfl,rfl,hPt _ hp,Zh (j:=1) rfl,_,rfl,_,rfl,D,_,rfl,PpAt.get hP.nd (.inl hPd) hr',_,_,_,_,rfl,rfl,hPt _ hr',Zh (j:=1) rfl,_,_,rfl,_,rfl,_,_,rfl,rfl,⟨by decide,YB (by decide) (by decide)⟩,_,_,rfl,rfl,c6,_,_,rfl,rfl,Ys (by decide),_,_,rfl,rfl,_,_,rfl,rest _ _ ⟨rfl,_,?Zo,rfl⟩⟩;have x0:=QP (c.fdiv 600) (show (0:Int)<10 ^ (6:Int).toNat by decide);have d1:=pd p hp;have d2:=pd r hr';have e18:(10:Int) ^ (18:Int).toNat=10 ^ 18:=rfl;rw [e18];generalize (c.fdiv 600).fmod (10 ^ (6:Int).toNat)=x at *;refine ⟨hp,hr',ne,?_,?_,?_,?_⟩<;>(repeat' split)<;>omega
 rintro σ _ ⟨rfl,day0,two0,rfl⟩;refine ⟨Dk,XJ kn,hK1,_,rfl,Dk,_,rfl,hK1,fun o=>Zf2 (kn.map ZcM) ZgK ?mono (Zz (by rw [Qd];omega)) (fun σ=>∃w,σ=[w]) ⟨_,rfl⟩ (fun j H4 hj sm=>?go) (fun H4 sm=>?stop) (fun j σ H4 x H5 z hz hσ sm hx C hN hS=>?step) (fun D8 ys H8 nD8 s8 hD8 hlen hys=>?fin)⟩
 case mono =>
  rintro a Ha Hb v E5 xs ⟨cc,rfl,hc⟩ hE bt;exact ⟨cc,rfl,bt _ _ (fun z=>by rw [z,hE] at hc;cases hc) hc⟩
 case go=>exact ⟨sm _ _ Zg,by rw [Qd] at hj ⊢;exact hj⟩
 case stop=>exact ⟨sm _ _ Zg,by rw [Qd,Qd];exact Qf _⟩
 case step =>
  obtain ⟨w,rfl⟩:=hσ;obtain ⟨rfl,cc,pr,hpr,rfl,hcc⟩:=hx;rw [Qw] at hpr hz;obtain ⟨k,hk,rfl⟩:=QR.mp hpr;rw [hk] at hz;obtain rfl:=Qn hz;obtain ⟨zt,kr,rfl⟩:=ok.head (QD hk);refine ⟨_,rfl,cc,_,_,_,rfl,rfl,.of hcc,Zh (j:=0) rfl,rfl,_,rfl,?_⟩;by_cases e:zt="tie"
  ·subst e;exact Z0 (Qm rfl) ⟨_,rfl,hS _ rfl _ _ _ ⟨_,rfl⟩ (Same.refl _) ⟨cc,rfl,hcc⟩⟩
  ·exact Zt (Qj (show ¬V.str zt=V.str "tie" from fun z=>e (V.str.inj z))) (hN (Qa fun z=>e (Rw (Qn (QB z)))) _ _ ⟨_,rfl⟩ (Same.refl _))
 case fin =>
 rw [Zk0] at hlen hys;refine ⟨o,s8 _ _ Zg,?_⟩;have s2:=ZhO hK1 s8;have D8k:D8≠Dk:=fun z=>by rw [z,Zg] at nD8;cases nD8
 have hY:(Zb H8 Dk (.dT (XJ kn))) D8=some (.lst ys):=by rw [Zd D8k];exact hD8
 have hF8:=s8 _ _ Zg
 have hys2:∀(j:Nat) (y:V) (k:List Zi),ys[j]?=some y->(kn.filter Up)[j]?=some k->ZgK k (Zb H8 Dk (.dT (XJ kn))) y:=fun j y k e1 e2=>by
  obtain ⟨cc,e3,hc⟩:=hys j y k e1 e2;exact ⟨cc,e3,by rw [Zd (fun z=>by rw [z,hF8] at hc;cases hc)];exact hc⟩
 generalize Zb H8 Dk (.dT (XJ kn))=H2 at *;have s12:=s1.trans s2;have hK2:=s2 _ _ hK1;dsimp only [ZX];refine YL (fun σ Hx=>H2=Hx∧∃p r day v9,TwoOk ps p r day∧σ=[some (.ref D),some (.ref Dk),some (.int c),some (.int kd),some (.ref L),some (.str p.1),some (.str r.1),some (.int day),some (.ref D8),v9,none,none]) (fun nx rest=>?_) ?_
 ·refine ⟨_,rfl,_,_,rfl,rfl,_,rfl,YA (fun h1=>⟨_,rfl,D8,_,rfl,.inl (.of hY),_,_,rfl,rfl,_,rfl,YA (fun h2=>?_) (fun h2=>?_)⟩) (fun h1=>?_)⟩
  ·have l0:0<ys.length:=by have:=QB h2;omega
   obtain ⟨j,ej⟩:∃j:Nat,c.fmod (ys.length:Int)=(j:Int):=⟨(c.fmod (ys.length:Int)).toNat,by have:=QP c (show (0:Int)<ys.length by omega);omega⟩;have jl:j<ys.length:=by have:=Q2 c (show (0:Int)<ys.length by omega);omega
   have jl2:j<(kn.filter Up).length:=by omega
   have ea:Yl ys (c.fmod (ys.length:Int))=some ys[j]:=by rw [ej];exact XT (Qx jl)
   obtain ⟨cc,ec,hcc⟩:=hys2 j _ _ (Qx jl) (Qx jl2);have mk:=Q5.mp (GH jl2);obtain ⟨p',q',d',two',ek⟩:=ok.tie mk.1 mk.2;rw [ek] at hcc;rw [ec] at ea;have tt:∀{i:Nat} {x:V},[V.str "tie",.str p'.1,.str q'.1,.int d'][i]?=some x->Yl (([.inr "tie",.inr p'.1,.inr q'.1,.inl d']:List Zi).map kV) (i:Int)=some x:=fun h=>XT h;refine ⟨_,rfl,_,rfl,_,rfl,D8,_,rfl,.inl (.of hY),_,_,rfl,rfl,(by omega),D8,_,_,_,rfl,rfl,.of hY,ea,_,rfl,cc,_,_,_,rfl,rfl,.of hcc,tt (i:=2) rfl,_,rfl,cc,_,_,_,rfl,rfl,.of hcc,tt (i:=1) rfl,_,_,rfl,rfl,c18,_,rfl,cc,_,_,_,rfl,rfl,.of hcc,tt (i:=3) rfl,_,rfl,_,_,rfl,rfl,⟨by decide,YB (by decide) (by decide)⟩,_,_,rfl,rfl,Ys (by decide),_,_,rfl,rfl,_,_,rfl,rest _ _ ⟨rfl,q',p',_,_,?two2,rfl⟩⟩;have x0:=QP (c.fdiv 40) (show (0:Int)<4 by decide);have e18:(10:Int) ^ (18:Int).toNat=10 ^ 18:=rfl;rw [e18];generalize (c.fdiv 40).fmod 4=x at *;have t1:=two'.lp;have t2:=two'.lq;have t3:=two'.lo;have t4:=two'.hi;refine ⟨two'.iq,two'.ip,two'.ne.symm,?_,?_,?_,?_⟩<;>(repeat' split)<;>omega
  ·exact rest _ _ ⟨rfl,p,r,day0,none,two0,rfl⟩
  ·exact rest _ _ ⟨rfl,p,r,day0,none,two0,rfl⟩
 rintro σ _ ⟨rfl,p,r,day,v9,Zo,rfl⟩;refine ⟨_,rfl,_,rfl,_,_,rfl,_,rfl,_,rfl,_,_,rfl,_,rfl,few rfl,fun ak nak=>?_⟩;rw [ZbW,Zcy];dsimp only [ZX];have s3:=Zk (o:=.tup [.str "tie",.str (Zf p.1 r.1).1,.str (Zf p.1 r.1).2,.int day]) nak;have hak:Zb H2 ak (.tup [.str "tie",.str (Zf p.1 r.1).1,.str (Zf p.1 r.1).2,.int day]) ak=some (.tup [.str "tie",.str (Zf p.1 r.1).1,.str (Zf p.1 r.1).2,.int day]):=Zg;generalize Zb H2 ak (.tup [.str "tie",.str (Zf p.1 r.1).1,.str (Zf p.1 r.1).2,.int day])=H3 at *;have s13:=s12.trans s3
 let JK:St->Hp->Prop:=fun σ Hx=>Same H Hx∧∃p r day ak ae e,TwoOk ps p r day∧DeedF ps e∧Hx ak=some (.tup (e.told.key.map kV))∧SqT K Hx ae (e.row.map kV)∧H ae=none∧σ=[some (.ref D),some (.ref Dk),some (.int c),some (.int kd),some (.ref L),some (.str p.1),some (.str r.1),some (.int day),some (.ref D8),v9,some (.ref ak),some (.ref ae)]
 refine YL JK (fun nx rest=>?_) ?_
 ·refine ⟨few rfl,fun lu nlu=>⟨_,rfl,_,_,rfl,rfl,.inr ⟨_,rfl,lu,_,_,_,rfl,rfl,.of Zg,Zmk _,_,rfl,_,rfl,_,rfl,few rfl,fun ae nae=>rest _ _ ⟨?_,p,r,day,ak,ae,_,Zo,Zo.tie (decide (6<kd)),?_,?_,?_,rfl⟩⟩⟩⟩
  ·exact (s13.trans (Zk nlu)).trans (Zk nae)
  ·rw [ZoM,Zd (fun z=>by rw [←z] at nae;exact absurd ((Zk nlu) _ _ hak) (by rw [nae];simp)),Zd (ZO hak nlu)];exact hak
  ·rw [Zoq];exact .of Zg
  ·exact ZJ (s13.trans (Zk nlu)) nae
 rintro σ H4 ⟨s4,p,r,day,ak,ae,e,Zo,de,hka,hea,nae,rfl⟩
 try dsimp only [JK]
 refine YL JK (fun nx rest=>?_) ?_
 ·refine ⟨_,rfl,rfl,_,rfl,YA (fun h1=>?_) (fun h1=>?_)⟩
  ·have hPd4:=s4 _ _ hP.d;have hPt4:∀p∈ps,SqT K H4 p.2.1 [.str p.2.2.1,.int p.2.2.2]:=fun p hp=>s4.sqt (hP.t p hp);refine YL (fun σ Hx=>H4=Hx∧∃p r,TwoOk ps p r day∧r.2.2.2≤p.2.2.2∧σ=[some (.ref D),some (.ref Dk),some (.int c),some (.int kd),some (.ref L),some (.str p.1),some (.str r.1),some (.int day),some (.ref D8),v9,some (.ref ak),some (.ref ae)]) (fun nx' rest'=>?_) ?_
   ·refine ⟨_,rfl,_,rfl,D,_,rfl,PpAt.get hP.nd (.inl hPd4) Zo.ip,_,_,_,_,rfl,rfl,hPt4 _ Zo.ip,Zh (j:=1) rfl,_,rfl,_,rfl,D,_,rfl,PpAt.get hP.nd (.inl hPd4) Zo.iq,_,_,_,_,rfl,rfl,hPt4 _ Zo.iq,Zh (j:=1) rfl,_,_,rfl,rfl,_,rfl,YA (fun h2=>?_) (fun h2=>?_)⟩
    ·exact ⟨_,rfl,_,rfl,_,_,rfl,rest' _ _ ⟨rfl,r,p,Zo.swap,Int.le_of_lt (QB h2),rfl⟩⟩
    ·exact rest' _ _ ⟨rfl,p,r,Zo,Int.not_lt.mp (Rg h2),rfl⟩
   rintro σ _ ⟨rfl,p,r,Zo,le,rfl⟩;refine ⟨_,rfl,_,rfl,few rfl,fun ak2 nak2=>⟨_,rfl,_,rfl,_,rfl,few rfl,fun ae2 nae2=>?_⟩⟩;have s5:=(Zk (o:=.tup [.str "taken",.str p.1,.str r.1]) nak2).trans (Zk (o:=.tup [.str "taken",.str p.1,.str r.1,.int day]) nae2);have hk5:Zb (Zb H4 ak2 (.tup [.str "taken",.str p.1,.str r.1])) ae2 (.tup [.str "taken",.str p.1,.str r.1,.int day]) ak2=some (.tup [.str "taken",.str p.1,.str r.1]):=by rw [Zd (ZO Zg nae2),Zg]
   have he5:Zb (Zb H4 ak2 (.tup [.str "taken",.str p.1,.str r.1])) ae2 (.tup [.str "taken",.str p.1,.str r.1,.int day]) ae2=some (.tup [.str "taken",.str p.1,.str r.1,.int day]):=Zg;have n5:H ae2=none:=ZJ (s4.trans (Zk nak2)) nae2;dsimp only [ZX];generalize Zb (Zb H4 ak2 (.tup [.str "taken",.str p.1,.str r.1])) ae2 (.tup [.str "taken",.str p.1,.str r.1,.int day])=H5 at *;have s45:=s4.trans s5;have hPd5:=s45 _ _ hP.d;have hPt5:∀p∈ps,SqT K H5 p.2.1 [.str p.2.2.1,.int p.2.2.2]:=fun p hp=>s45.sqt (hP.t p hp);refine ⟨_,rfl,_,rfl,D,_,rfl,PpAt.get hP.nd (.inl hPd5) Zo.ip,_,_,_,_,rfl,rfl,hPt5 _ Zo.ip,Zh (j:=1) rfl,_,rfl,_,rfl,D,_,rfl,PpAt.get hP.nd (.inl hPd5) Zo.iq,_,_,_,_,rfl,rfl,hPt5 _ Zo.iq,Zh (j:=1) rfl,rfl,_,rfl,YA (fun h2=>?_) (fun h2=>?_)⟩
   ·exact qn _ s45
   ·have nd:p.2.2.2≠r.2.2.2:=fun z=>by rw [z] at h2;exact absurd h2 (by simp)
    exact rest _ _ ⟨s45,p,r,day,ak2,ae2,_,Zo,Zo.taken hP.nd (by omega),hk5,.of he5,n5,rfl⟩
  ·exact rest _ _ ⟨s4,p,r,day,ak,ae,e,Zo,de,hka,hea,nae,rfl⟩
 rintro σ H5 ⟨s5,p,r,day,ak,ae,e,Zo,de,hka,hea,nae,rfl⟩
 try dsimp only [JK]
 refine YL JK (fun nx rest=>?_) ?_
 ·refine ⟨_,rfl,rfl,_,rfl,YA (fun h1=>⟨_,rfl,_,_,rfl,rfl,Ys (by decide),rfl,_,rfl,YA (fun h2=>?_) (fun h2=>?_)⟩) (fun h1=>?_)⟩
  ·refine ⟨_,rfl,few rfl,fun ak2 nak2=>⟨_,rfl,_,rfl,few rfl,fun ae2 nae2=>rest _ _ ⟨?_,p,r,day,ak2,ae2,_,Zo,Zo.dead,?_,.of Zg,?_,rfl⟩⟩⟩
   ·exact (s5.trans (Zk nak2)).trans (Zk nae2)
   ·rw [Zd (ZO Zg nae2),Zg];rfl
   ·exact ZJ (s5.trans (Zk nak2)) nae2
  ·exact rest _ _ ⟨s5,p,r,day,ak,ae,e,Zo,de,hka,hea,nae,rfl⟩
  ·exact rest _ _ ⟨s5,p,r,day,ak,ae,e,Zo,de,hka,hea,nae,rfl⟩
 rintro σ H6 ⟨s6,p,r,day,ak,ae,e,Zo,de,hka,hea,nae,rfl⟩;have hK6:=s6 _ _ hK;refine ⟨_,rfl,_,rfl,Dk,_,rfl,DGet.t hK6 hka,_,rfl,?_⟩;by_cases mem:e.told.key∈kn
 ·rw [Zj6 mem];exact Z2 (qn _ s6)
 ·rw [Zd7 mem];refine Z4 ⟨_,rfl,_,rfl,Dk,_,rfl,DPut.t (k:=e.told.key) hK6 hka (Zz (by rw [Qd];omega)),?_⟩;rw [UK _ (Zd7 mem)];refine ⟨_,rfl,q _ ae e (fun b u nb hb=>by rw [Zd nb];exact s6 _ _ hb) nae ?_ ?_ mem de⟩
  ·exact YH hea hK6 (fun _ z=>by cases z) (fun _ _ z=>by cases z)
  ·rw [Zg];unfold XJ;rw [Qr];rfl
theorem Zlf (T:Tx K w mg) (X2:J4 P base T) (Zcr:ZhG P base T) (Zdr:ZeI P base T) (Zdq:Zfu P base T) (ZbZ:ZgJ P base T):Zhu P base T:=by
 refine Fun.okX (k:=1) T.ZaF.F Wo (fun vs H Q E h=>h.1) (fun cdv A outer s H vs Q E hr h=>?_);obtain ⟨-,h⟩:=h;obtain ⟨l,ss,rfl,hl,l63,q⟩:=h
 refine ⟨_,(Zj (Zw (i:=2) Wo.nd rfl (Or.inl rfl) (ZR Zcr hr ZF (Za (ZR X2 hr ZF (Za (pv 0) (Za Ze Zc))) Zc)))
   (Zj (Zw (i:=3) Wo.nd rfl (Or.inl rfl) Ui)
   (Zj (Zw (i:=4) Wo.nd rfl (Or.inl rfl) VS)
   (Zj (Zw (i:=5) Wo.nd rfl (Or.inl rfl) (Yi Zc))
   (Zj (Yv QH rfl (ZnP (by rfl) T.n_range (Za Ze (Za (ZN (Zaj rfl) (by rfl) T.n_min VP (Za (ZN Yw (by rfl) T.n_len Yd (Za (pv 0) Zc)) (Za (Zn YE Ze (pv 1)) Zc))) Zc))) (ZW (i:=6) Wo.nd rfl (Or.inl rfl))
    (Zj (Zw (i:=7) Wo.nd rfl (Or.inl rfl) (Zn Y1 (Zm Ym (pv 0) (pv 6) (fun _ _=>rfl)) Ze))
   (Zj (Zw (i:=8) Wo.nd rfl (Or.inl rfl) (Zn Z8 (Zm Ym (pv 0) (pv 6) (fun _ _=>rfl)) Ze))
   (Zj (ZI (PW.pt (XB (ZA WD (ZN J8 (by rfl) T.n_len Yd (Za (pv 3) Zc)) Ze (Zu _)) (Wd (PW.pt (Wz (ZA WD (pv 8) Ze (Zu _)) (WM (ZA WD (ZN J8 (by rfl) T.n_len Yd (Za (pv 3) Zc)) Ze (Zu _)))))))) (Zj (Zw (i:=9) Wo.nd rfl (Or.inl rfl) (ZR Zdq hr ZF (Za (pv 3) (Za (pv 2) (Za (pv 7) (Za (ZR Zdr hr ZF (Za (pv 7) (Za (pv 6) (Za (Zn Z8 (ZR X2 hr ZF (Za (pv 0) (Za Ze Zc))) Ze) Zc)))) Zc))))))
   (Zl (XQ (ZV hr) (pv 3) (Zm Zq (pv 9) Ze (fun _ _=>rfl)) (ZY (Za (Zm Zq (pv 9) Ze (fun _ _=>rfl)) (Za (Zm Zq (pv 9) Ze (fun _ _=>rfl)) Zc))) rfl))) (Zl (Zw (i:=9) Wo.nd rfl (Or.inl rfl) (ZR ZbZ hr ZF (Za (pv 3) (Za (pv 4) (Za (pv 7) (Za (pv 8) Zc))))))))
   (Zl (ZI (ZA ZmP (pv 9) Vp (Zu _)) (Zl (Yc (X7 Ri Ro Rp XU (pv 5) (Za (pv 9) Zc)))) ZK))))))
   (Zl (Zy (pv 5)))))))),?_⟩
 refine ⟨_,rfl,rfl,l,ss,0,rfl,hl,by decide,fun z0=>⟨rfl,z0,rfl,fun H1 Ln ns s1 nLn hLn N=>?_⟩⟩;refine fun D nD=>fun Dk nDk=>⟨few rfl,fun Le nLe=>?_⟩;have eD:=Zk (o:=.dK []) nD;have eDk:=Zk (o:=.dT []) nDk;have eLe:=Zk (o:=.lst []) nLe;have nDH:=ZJ s1 nD;have nDkH:=ZJ (s1.trans eD) nDk;have nLeH:=ZJ ((s1.trans eD).trans eDk) nLe;have DkD:Dk≠D:=fun z=>by rw [z,Zg] at nDk;cases nDk
 have LeDk:Le≠Dk:=fun z=>by rw [z,Zg] at nLe;cases nLe
 have LeD:Le≠D:=fun z=>by rw [z,Zd DkD.symm,Zg] at nLe;cases nLe
 have LnD:Ln≠D:=ZO hLn nD;have DkLn:Dk≠Ln:=fun z=>by rw [z,Zd LnD] at nDk;rw [nDk] at hLn;cases hLn
 have LeLn:Le≠Ln:=fun z=>by rw [z,eDk _ _ (eD _ _ hLn)] at nLe;cases nLe
 have ln:(ss.map V.int).length=ss.length:=Qd ..;have s4:=((s1.trans eD).trans eDk).trans eLe;refine ⟨_,rfl,l,_,rfl,.inl (s4.sql hl),_,rfl,_,_,rfl,rfl,_,_,rfl,_,_,rfl,⟨by omega,by omega,by split<;>omega,by split<;>omega⟩,VU (lo:=3) (fun i σ Hc=>∃(ks:List (Ent×Addr)) (ps:List Pp) (kn:List (List Zi)) (v6 v7 v8 v9:Option V),σ=[some (.ref l),some (.int 30),some (.ref Ln),some (.ref D),some (.ref Dk),some (.ref Le),v6,v7,v8,v9]∧Same H Hc∧Hc Ln=some (.lst (ns.map V.str))∧PpAt K Hc D ps∧Hc Dk=some (.dT (XJ kn))∧Hc Le=some (.lst (XH ks))∧UJ K Hc ks∧EI ns (ks.map (·.1)) ps kn∧ks.length≤i) ⟨[],[],[],_,_,_,_,rfl,s4,eLe _ _ (eDk _ _ (eD _ _ hLn)),⟨by rw [Zd LeD.symm,Zd DkD.symm];exact Zg,fun p hp=>(by cases hp),.nil⟩,by rw [Zd LeDk.symm];exact Zg,Zg,fun p hp=>(by cases hp),EI.start,Qf _⟩ ?turn ?done⟩
 case done =>
  rintro σ Hc ⟨ks,ps,kn,v6,v7,v8,v9,rfl,sc,hLnc,hP,hK,hLe,hR,ei,kl⟩;refine ⟨_,rfl,q _ Le ks ns sc nLeH hLe hR N ei.good ?_⟩;have:(if (3:Int)+30<((ss.map V.int).length:Int) then (3:Int)+30 else ((ss.map V.int).length:Int))≤33:=by split<;>omega
  omega
 case turn =>
  rintro i σ Hc hi ⟨ks,ps,kn,v6,v7,v8,v9,rfl,sc,hLnc,hP,hK,hLe,hR,ei,kl⟩
  have hb:3+i<ss.length∧i<30:=by
   rw [ln] at hi;split at hi<;>omega
  have ek:(3:Int)+(i:Int)=((3+i:Nat):Int):=by omega
  rw [ek];have atk:Yl (ss.map V.int) ((3+i:Nat):Int)=some (.int ss[3+i]):=XT (by rw [Qw,Qx hb.1];rfl);refine ⟨_,rfl,_,rfl,l,_,_,_,rfl,rfl,sc.sql hl,atk,_,_,rfl,rfl,⟨by decide,YB (by decide) (by decide)⟩,_,rfl,_,rfl,l,_,_,_,rfl,rfl,sc.sql hl,atk,_,_,rfl,rfl,Ys (by decide),?_⟩;dsimp only [ZX];refine YL (fun σ Hx=>Same H Hx∧Hx Ln=some (.lst (ns.map V.str))∧∃(ps:List Pp) (kn:List (List Zi)) (v9:V),PpAt K Hx D ps∧Hx Dk=some (.dT (XJ kn))∧Hx Le=some (.lst (XH ks))∧UJ K Hx ks∧σ=[some (.ref l),some (.int 30),some (.ref Ln),some (.ref D),some (.ref Dk),some (.ref Le),some (.int ((3+i:Nat):Int)),some (.int (ss[3+i].fdiv 9)),some (.int (ss[3+i].fmod 9)),some v9]∧((v9=.non∧EI ns (ks.map (·.1)) ps kn)∨∃a e,v9=.ref a∧SqT K Hx a (e.row.map kV)∧EI ns (ks.map (·.1)++[e]) ps kn)) (fun nx rest=>?_) ?_
  ·have pl:((XF ps).length:Int)=(ps.length:Int):=by rw [Qd]
   refine ⟨_,rfl,D,_,rfl,hP.d,_,_,rfl,rfl,_,rfl,YA (fun h1=>?b1) (fun h1=>⟨_,rfl,_,_,rfl,rfl,_,rfl,YA (fun h2=>⟨_,rfl,D,_,rfl,hP.d,_,_,rfl,rfl,_,rfl,YA (fun h3=>?b2) (fun h3=>?d1)⟩) (fun h2=>?d2)⟩)⟩
   case b1 =>
    have l24:ps.length<24:=by have:=QB h1;omega
    refine ⟨_,rfl,_,rfl,_,rfl,_,rfl,_,rfl,_,rfl,rfl,l,ss,1,rfl,sc.sql hl,by decide,fun z=>⟨_,_,rfl,rfl,Ys (by decide),rfl,_,_,_,rfl,by omega,by omega,fun d d1 d2=>⟨rfl,D,Ln,_,d,ps,ns,rfl,hP,.of hLnc,N.len,l24,fun H5 a n s f m s5 na ha hn hs hf hm=>?_⟩⟩⟩;refine ⟨_,rfl,a,_,_,_,rfl,rfl,ha,Zh (j:=2) rfl,_,rfl,a,_,_,_,rfl,rfl,ha,Zh (j:=3) rfl,few rfl,fun at' nat=>?_⟩;have s6:=s5.trans (Zk (o:=.tup [.str s,.int d]) nat);have hD6:=s6 _ _ hP.d
    have nin:n∉ps.map (·.1):=fun z=>by
     have nd':(ns.take (ps.length+1)).Nodup:=N.nd.sublist (Gr ..);rw [Rh,hn,←ei.nm] at nd';exact (Rb.mp nd').2.2 n z n (by simp) rfl
    refine ⟨_,rfl,_,rfl,a,_,_,_,rfl,rfl,(Zk nat).sqt ha,Zh (j:=1) rfl,D,_,rfl,DPut.k (k:=.inr n) hD6 (Zz (by rw [Qd];omega)),?_⟩;rw [Ze4 (s:=s) (d:=d) nin];have ei':=ei.birth N (a:=at') hn l24 hs hf hm d1 d2;have pt:∀{c:Addr} {xs:List V},SqT K (Zb H5 at' (.tup [.str s,.int d])) c xs->SqT K (Zb (Zb H5 at' (.tup [.str s,.int d])) D (.dK (XF (ps++[(n,at',s,d)])))) c xs:=fun h=>YH h hD6 (fun _ z=>by cases z) (fun _ _ z=>by cases z);refine rest _ _ ⟨fun c u e=>by rw [Zd (fun z=>by rw [z,nDH] at e;cases e)];exact s6 _ _ (sc _ _ e),by rw [Zd LnD];exact s6 _ _ hLnc,_,kn,_,⟨Zg,fun p hp=>?_,ei'.nd N⟩,by rw [Zd DkD];exact s6 _ _ hK,by rw [Zd LeD];exact s6 _ _ hLe,fun p hp=>pt (s6.sqt (hR p hp)),rfl,.inr ⟨a,_,rfl,pt ((Zk nat).sqt ha),ei'⟩⟩;rcases Qq.mp hp with hp|hp
    ·exact pt (s6.sqt (hP.t p hp))
    ·rw [show p=(n,at',s,d) by simpa using hp];exact pt (.of Zg)
   case b2 =>
    have l24:ps.length<24:=by have:=QB h3;omega
    refine ⟨_,rfl,_,rfl,_,rfl,_,rfl,_,rfl,_,rfl,rfl,l,ss,1,rfl,sc.sql hl,by decide,fun z=>⟨_,_,rfl,rfl,Ys (by decide),rfl,_,_,_,rfl,by omega,by omega,fun d d1 d2=>⟨rfl,D,Ln,_,d,ps,ns,rfl,hP,.of hLnc,N.len,l24,fun H5 a n s f m s5 na ha hn hs hf hm=>?_⟩⟩⟩;refine ⟨_,rfl,a,_,_,_,rfl,rfl,ha,Zh (j:=2) rfl,_,rfl,a,_,_,_,rfl,rfl,ha,Zh (j:=3) rfl,few rfl,fun at' nat=>?_⟩;have s6:=s5.trans (Zk (o:=.tup [.str s,.int d]) nat);have hD6:=s6 _ _ hP.d
    have nin:n∉ps.map (·.1):=fun z=>by
     have nd':(ns.take (ps.length+1)).Nodup:=N.nd.sublist (Gr ..);rw [Rh,hn,←ei.nm] at nd';exact (Rb.mp nd').2.2 n z n (by simp) rfl
    refine ⟨_,rfl,_,rfl,a,_,_,_,rfl,rfl,(Zk nat).sqt ha,Zh (j:=1) rfl,D,_,rfl,DPut.k (k:=.inr n) hD6 (Zz (by rw [Qd];omega)),?_⟩;rw [Ze4 (s:=s) (d:=d) nin];have ei':=ei.birth N (a:=at') hn l24 hs hf hm d1 d2;have pt:∀{c:Addr} {xs:List V},SqT K (Zb H5 at' (.tup [.str s,.int d])) c xs->SqT K (Zb (Zb H5 at' (.tup [.str s,.int d])) D (.dK (XF (ps++[(n,at',s,d)])))) c xs:=fun h=>YH h hD6 (fun _ z=>by cases z) (fun _ _ z=>by cases z);refine rest _ _ ⟨fun c u e=>by rw [Zd (fun z=>by rw [z,nDH] at e;cases e)];exact s6 _ _ (sc _ _ e),by rw [Zd LnD];exact s6 _ _ hLnc,_,kn,_,⟨Zg,fun p hp=>?_,ei'.nd N⟩,by rw [Zd DkD];exact s6 _ _ hK,by rw [Zd LeD];exact s6 _ _ hLe,fun p hp=>pt (s6.sqt (hR p hp)),rfl,.inr ⟨a,_,rfl,pt ((Zk nat).sqt ha),ei'⟩⟩;rcases Qq.mp hp with hp|hp
    ·exact pt (s6.sqt (hP.t p hp))
    ·rw [show p=(n,at',s,d) by simpa using hp];exact pt (.of Zg)
   case d1 =>
    have p2:2≤ps.length:=by have:=Rg h1;omega
    refine ⟨_,rfl,_,rfl,_,rfl,_,rfl,rfl,D,Dk,_,_,ps,kn,rfl,hP,hK,p2,ei.len,by have:=ei.knl;rw [Qd] at this;omega,ei.ok,ei.pd,fun H5 s5=>rest _ _ ⟨sc.trans s5,s5 _ _ hLnc,ps,kn,_,hP.mono s5,s5 _ _ hK,s5 _ _ hLe,fun p hp=>s5.sqt (hR p hp),rfl,.inl ⟨rfl,ei⟩⟩,fun H5 a e fr na ha hK5 nk de=>rest _ _ ⟨fun c u e=>fr _ _ (fun z=>by rw [z,nDkH] at e;cases e) (sc _ _ e),fr _ _ DkLn.symm hLnc,ps,kn++[e.told.key],_,⟨fr _ _ DkD.symm hP.d,fun p hp=>ZaC fr hK (hP.t p hp),hP.nd⟩,hK5,fr _ _ LeDk hLe,fun p hp=>ZaC fr hK (hR p hp),rfl,.inr ⟨a,e,rfl,ha,ei.deed N de nk⟩⟩⟩
   case d2 =>
    have p2:2≤ps.length:=by have:=Rg h1;omega
    refine ⟨_,rfl,_,rfl,_,rfl,_,rfl,rfl,D,Dk,_,_,ps,kn,rfl,hP,hK,p2,ei.len,by have:=ei.knl;rw [Qd] at this;omega,ei.ok,ei.pd,fun H5 s5=>rest _ _ ⟨sc.trans s5,s5 _ _ hLnc,ps,kn,_,hP.mono s5,s5 _ _ hK,s5 _ _ hLe,fun p hp=>s5.sqt (hR p hp),rfl,.inl ⟨rfl,ei⟩⟩,fun H5 a e fr na ha hK5 nk de=>rest _ _ ⟨fun c u e=>fr _ _ (fun z=>by rw [z,nDkH] at e;cases e) (sc _ _ e),fr _ _ DkLn.symm hLnc,ps,kn++[e.told.key],_,⟨fr _ _ DkD.symm hP.d,fun p hp=>ZaC fr hK (hP.t p hp),hP.nd⟩,hK5,fr _ _ LeDk hLe,fun p hp=>ZaC fr hK (hR p hp),rfl,.inr ⟨a,e,rfl,ha,ei.deed N de nk⟩⟩⟩
  ·rintro σ Hx ⟨sx,hLnx,ps,kn,v9,hP,hK,hLe,hR,rfl,hv⟩;rcases hv with ⟨rfl,ei⟩|⟨a,e,rfl,ha,ei⟩
   ·exact ⟨_,rfl,rfl,_,rfl,Zt (by rfl) ⟨ks,ps,kn,_,_,_,_,rfl,sx,hLnx,hP,hK,hLe,hR,ei,by omega⟩⟩
   ·refine ⟨_,rfl,rfl,_,rfl,Z0 (by rfl) ⟨_,rfl,.inl ⟨rfl,_,.of hLe⟩,_,rfl,Le,_,_,rfl,rfl,hLe,Zz (by rw [Uw];omega),ks++[(e,a)],ps,kn,_,_,_,_,rfl,fun c u e=>by rw [Zd (fun z=>by rw [z,nLeH] at e;cases e)];exact sx _ _ e,?_,⟨?_,fun p hp=>?_,hP.nd⟩,?_,?_,fun p hp=>?_,?_,?_⟩⟩
    ·rw [Zd LeLn.symm];exact hLnx
    ·rw [Zd LeD.symm];exact hP.d
    ·exact YH (hP.t p hp) hLe (fun _ z=>by cases z) (fun _ _ z=>by cases z)
    ·rw [Zd LeDk.symm];exact hK
    ·rw [Zg,Zms]
    ·rcases Qq.mp hp with hp|hp
     ·exact YH (hR p hp) hLe (fun _ z=>by cases z) (fun _ _ z=>by cases z)
     ·rw [show p=(e,a) by simpa using hp];exact YH ha hLe (fun _ z=>by cases z) (fun _ _ z=>by cases z)
    ·rw [Qr];exact ei
    ·rw [Qu];exact NV kl
theorem ZmY (T:Tx K w mg)  : ZeW P base T:=by
 refine Fun.okX (k:=0) T.Zba.F ZnQ (fun vs H Q E h=>h.1) (fun cdv A outer s H vs Q E hr h=>?_);obtain ⟨-,h⟩:=h;obtain ⟨D,L,lo,hi,ed,n,rfl,hE,hb,n5,hL,q⟩:=h
 refine ⟨_,(Zj (Yc (X7 Ri Ro Rp XU (JX (ZV hr) (pv 0) (ZY (Za (pv 1) (Za (pv 2) Zc))) (Yi Zc) ⟨rfl,rfl,rfl,rfl⟩) (Za (pv 3) Zc)))
   (Zl (Yc (X7 Ri Ro Rp XU (JX (ZV hr) (pv 0) (ZY (Za (ZaI K NX NI PySem.F.type_str_lower Zgz (pv 1)) (Za (pv 3) Zc))) (Yi Zc) ⟨rfl,rfl,rfl,rfl⟩) (Za (pv 2) Zc))))),?_⟩
 refine YL (fun σ Hx=>σ=[some (.ref D),some (.str L),some (.str lo),some (.str hi)]∧UB D ed n (L,lo) hi H Hx) (fun nx rest=>?_) ?_
 ·refine ⟨_,rfl,D,rfl,.inr ⟨_,.inl hE.d⟩,_,rfl,_,rfl,few rfl,fun t nt=>⟨few rfl,fun z nz=>?_⟩⟩;have st:=Zk (o:=.tup [.str ((L,lo):Str×Str).1,.str ((L,lo):Str×Str).2]) nt;have sz:=Zk (o:=.lst []) nz;obtain ⟨hD2,ln2,old,new⟩:=Zar (c:=((L,lo):Str×Str)) (x:=hi) hE hb (by omega) (st.trans sz) (ZJ st nz) Zg;refine ⟨Xb ed,Zo ((L,lo):Str×Str),t,hD2,rfl,sz _ _ Zg,ln2,fun v hv=>?_,fun hv=>?_⟩
  ·obtain ⟨b,xs,rfl,hb2,lx,add⟩:=old v hv;exact ⟨.inl ⟨rfl,_,.of hb2⟩,_,rfl,b,_,_,rfl,rfl,hb2,lx,rest _ _ ⟨rfl,add⟩⟩
  ·obtain ⟨hz3,add⟩:=new hv;exact ⟨.inl ⟨rfl,_,.of hz3⟩,_,rfl,z,_,_,rfl,rfl,hz3,Zz (by simp),rest _ _ ⟨rfl,add⟩⟩
 rintro σ H1 ⟨rfl,ed1,hE1,hb1,lk1,fr1⟩;have ll:L.length≤1000:=by rcases hL with rfl|rfl|rfl<;>decide +kernel
 have fin:∀H',UB D ed1 (n+1) (Zbh L,hi) lo H1 H'->Q .non H':=fun H' ⟨ed2,hE2,hb2,lk2,fr2⟩=>q H' ed2 hE2 hb2 (fun c=>by rw [lk2,show lk ed1=ZZ (lk ed) (L,lo) hi from funext lk1]) (fr1.trans fr2);refine ⟨_,rfl,D,rfl,.inr ⟨_,.inl hE1.d⟩,_,rfl,rfl,L,rfl,rfl,ll,_,rfl,few rfl,fun t nt=>⟨few rfl,fun z nz=>?_⟩⟩;have st:=Zk (o:=.tup [.str ((Txt.lower L,hi):Str×Str).1,.str ((Txt.lower L,hi):Str×Str).2]) nt;have sz:=Zk (o:=.lst []) nz;obtain ⟨hD2,ln2,old,new⟩:=Zar (c:=((Txt.lower L,hi):Str×Str)) (x:=lo) hE1 hb1 (by omega) (st.trans sz) (ZJ st nz) Zg;refine ⟨Xb ed1,Zo ((Txt.lower L,hi):Str×Str),t,hD2,rfl,sz _ _ Zg,ln2,fun v hv=>?_,fun hv=>?_⟩
 ·obtain ⟨b,xs,rfl,hb2,lx,add⟩:=old v hv;exact ⟨.inl ⟨rfl,_,.of hb2⟩,_,rfl,b,_,_,rfl,rfl,hb2,lx,fin _ (by rw [←Zfk hL];exact add)⟩
 ·obtain ⟨hz3,add⟩:=new hv;exact ⟨.inl ⟨rfl,_,.of hz3⟩,_,rfl,z,_,_,rfl,rfl,hz3,Zz (by simp),fin _ (by rw [←Zfk hL];exact add)⟩
theorem ZiS (T:Tx K w mg) (Zbj:ZeW P base T):ZfT P base T:=by
 refine Fun.okX (k:=1) T.Zau.F WN (fun vs H Q E h=>h.1) (fun cdv A outer s H vs Q E hr h=>?_);obtain ⟨-,h⟩:=h;obtain ⟨Le,ks,ns,rfl,hLe,hR,gd,l40,q⟩:=h
 refine ⟨_,(Zj (Zw (i:=1) WN.nd rfl (Or.inl rfl) VS)
   (Zj (Zw (i:=2) WN.nd rfl (Or.inl rfl) VS)
   (Zj (Yv QH rfl (Xa (pv 0)) (ZW (i:=3) WN.nd rfl (Or.inl rfl))
    (Zj (ZI (ZA Z1 (Zm Zq (pv 3) Ze (fun _ _=>rfl)) Zs (Zu _)) (Zj (XQ (ZV hr) (pv 1) (ZY (Za (Zm Zq (pv 3) Ze (fun _ _=>rfl)) (Za (Zm Zq (pv 3) Ze (fun _ _=>rfl)) Zc))) (Yi (Za (Zm Zq (pv 3) Ze (fun _ _=>rfl)) Zc)) rfl)
   (Zl (Yv QH rfl (Xa (Yi (Za (ZY (Za Zs (Za (Zm Zq (pv 3) Ze (fun _ _=>rfl)) Zc))) (Za (ZY (Za Zs (Za (Zm Zq (pv 3) Ze (fun _ _=>rfl)) Zc))) Zc)))) (JM rfl (Wi (ZW (i:=4) WN.nd rfl (Or.inl rfl)) (Wi (ZW (i:=5) WN.nd rfl (Or.inl rfl)) JI)))
    (Zl (ZI (ZA WB (pv 5) Zs (Zu _)) (Zl (Yc (ZR Zbj hr ZF (Za (pv 1) (Za (pv 4) (Za (Zm Zq (pv 3) Ze (fun _ _=>rfl)) (Za (pv 5) Zc))))))) ZK))))) ZK)
   (Zj (ZI (ZA Z1 (Zm Zq (pv 3) Ze (fun _ _=>rfl)) Zs (Zu _)) (Zl (Yc (ZR Zbj hr ZF (Za (pv 1) (Za Zs (Za (Zm Zq (pv 3) Ze (fun _ _=>rfl)) (Za (Zm Zq (pv 3) Ze (fun _ _=>rfl)) Zc))))))) ZK)
   (Zl (ZI (PW.pt (XB (ZA Z1 (Zm Zq (pv 3) Ze (fun _ _=>rfl)) Zs (Zu _)) (Wd (ZA Z1 (Zm Zq (pv 3) Ze (fun _ _=>rfl)) Zs (Zu _))))) (Zj (Zw (i:=6) WN.nd rfl (Or.inl rfl) (ZY (Za (ZN (Zda rfl) (by rfl) T.n_min VP (Za (Zm Zq (pv 3) Ze (fun _ _=>rfl)) (Za (Zm Zq (pv 3) Ze (fun _ _=>rfl)) Zc))) (Za (ZN (Zbp rfl) (by rfl) T.n_max JG (Za (Zm Zq (pv 3) Ze (fun _ _=>rfl)) (Za (Zm Zq (pv 3) Ze (fun _ _=>rfl)) Zc))) Zc))))
   (Zl (ZI (PW.pt (XB (Um (ZcY (ZV hr) (pv 6) (pv 2))) (Wd (ZA WD (Zm Zq (Xg (ZV hr) (pv 2) (pv 6) (fun _ _=>rfl)) Ze (fun _ _=>rfl)) (Zm Zq (pv 3) Ze (fun _ _=>rfl)) (Zu _))))) (Zl (XQ (ZV hr) (pv 2) (pv 6) (ZY (Za (Zm Zq (pv 3) Ze (fun _ _=>rfl)) (Za (Zm Zq (pv 3) Ze (fun _ _=>rfl)) Zc))) rfl)) ZK))) ZK)))))
   (Zj (ZfP (Yv QH rfl (Zn3 (ZaI K NC PySem.F.slot_dict_items PySem.F.type_dict_items Zok (pv 2))) (JM rfl (Wi (ZW (i:=6) WN.nd rfl (Or.inl rfl)) (Wi (ZW (i:=7) WN.nd rfl (Or.inl rfl)) JI)))
    (Zl (ZI (ZA Z1 (Zm Zq (pv 7) Ze (fun _ _=>rfl)) Zs (Zu _)) (Zj (Yc (X7 Ri Ro Rp XU (JX (ZV hr) (pv 1) (ZY (Za Zs (Za (Zm Zq (pv 6) Ze (fun _ _=>rfl)) Zc))) (Yi Zc) ⟨rfl,rfl,rfl,rfl⟩) (Za (Zm Zq (pv 6) Ze (fun _ _=>rfl)) Zc)))
   (Zl (Yc (X7 Ri Ro Rp XU (JX (ZV hr) (pv 1) (ZY (Za Zs (Za (Zm Zq (pv 6) Ze (fun _ _=>rfl)) Zc))) (Yi Zc) ⟨rfl,rfl,rfl,rfl⟩) (Za (Zm Zq (pv 6) Ze (fun _ _=>rfl)) Zc))))) ZK))))
   (Zl (Zy (pv 1))))))),?_⟩
 refine fun D nD=>fun Dl nDl=>?_;have eD:=Zk (o:=.dT []) nD;have eDl:=Zk (o:=.dT []) nDl;have s0:=eD.trans eDl;have nDlH:=ZJ eD nDl;have DlD:Dl≠D:=fun z=>by rw [z,Zg] at nDl;cases nDl
 refine ⟨_,rfl,Le,rfl,⟨_,s0.sql hLe⟩,Wp (xs:=XH ks) (fun i σ Hc=>∃(ed:Ed) (ls:Xo) (v3 v4 v5 v6 v7:Option V),σ=[some (.ref Le),some (.ref D),some (.ref Dl),v3,v4,v5,v6,v7]∧Same H Hc∧EdAt Hc D ed∧EdB ed (5*i)∧(∀c,lk ed c=Yt ((ks.take i).map (·.1)) c)∧(∀b∈ed.map (·.2.1),H b=none)∧LsAt K Hc Dl ls∧(∀c,(Zv c ls).map (·.2)=YD ((ks.take i).map (·.1)) c)∧ls.length≤i) ?start ?list ?turn ?done⟩
 case start=>exact ⟨[],[],_,_,_,_,_,rfl,s0,⟨by rw [Zd DlD.symm];exact Zg,fun q hq=>(by cases hq),.nil,.nil⟩,⟨QJ _,fun q hq=>(by cases hq)⟩,fun c=>rfl,fun b hb=>(by cases hb),⟨Zg,fun q hq=>(by cases hq),.nil⟩,fun c=>rfl,Qf _⟩
 case list =>
  rintro i σ Hc _ ⟨ed,ls,v3,v4,v5,v6,v7,rfl,sc,_⟩;exact sc.sql hLe
 case turn =>
  rintro i y σ Hc hy ⟨ed,ls,v3,v4,v5,v6,v7,rfl,sc,hE,hb,hlk,hn,hl,hla,ll⟩;obtain ⟨⟨e,a⟩,hp,rfl⟩:=ZcD hy;have il:=(QI.mp hp).1;have row:=sc.sqt (hR _ (QD hp));have tk:(ks.take (i+1)).map (·.1)=(ks.take i).map (·.1)++[e]:=ZgP hp;by_cases et:e.tie=true
  ·obtain ⟨x,y,d,W,hr,hW,epr,ekd,edy⟩:=Znl et;rw [hr] at row;have eS:∀f:ZE,Yo f e=f:=fun f=>ZnL et;rcases hW with eW|eW;refine ⟨_,rfl,a,_,_,_,rfl,rfl,row,Zh (j:=0) rfl,rfl,_,rfl,Zt (by rw [eW];decide +kernel) ⟨_,rfl,a,_,_,_,rfl,rfl,row,Zh (j:=0) rfl,rfl,_,rfl,Zt (by rw [eW];decide +kernel) ⟨_,rfl,a,_,_,_,rfl,rfl,row,Zh (j:=0) rfl,rfl,_,rfl,Z0 (by rw [eW];decide +kernel) ?_⟩⟩⟩
   rotate_left
   refine ⟨_,rfl,a,_,_,_,rfl,rfl,row,Zh (j:=0) rfl,rfl,_,rfl,Zt (by rw [eW];decide +kernel) ⟨_,rfl,a,_,_,_,rfl,rfl,row,Zh (j:=0) rfl,rfl,_,rfl,Zt (by rw [eW];decide +kernel) ⟨_,rfl,a,_,_,_,rfl,rfl,row,Zh (j:=0) rfl,rfl,_,rfl,Zt (by rw [eW];decide +kernel) ⟨_,rfl,a,_,_,_,rfl,rfl,row,Zh (j:=0) rfl,rfl,_,rfl,Z0 (by rw [eW];decide +kernel) ?_⟩⟩⟩⟩
   all_goals
    refine ⟨_,rfl,a,_,_,_,rfl,rfl,row,Zh (j:=1) rfl,_,rfl,a,_,_,_,rfl,rfl,row,Zh (j:=2) rfl,_,_,rfl,_,rfl,a,_,_,_,rfl,rfl,row,Zh (j:=1) rfl,_,rfl,a,_,_,_,rfl,rfl,row,Zh (j:=2) rfl,_,_,rfl,few rfl,fun tp ntp=>?_⟩;rw [ZbW,Zcy];have s1:=Zk (o:=.tup [.str (Zf x y).1,.str (Zf x y).2]) ntp;have htp:Zb Hc tp (.tup [.str (Zf x y).1,.str (Zf x y).2]) tp=some (.tup [.str (Zf x y).1,.str (Zf x y).2]):=Zg;dsimp only [ZX];generalize Zb Hc tp (.tup [.str (Zf x y).1,.str (Zf x y).2])=H1 at *;have hl1:=hl.mono s1;have row1:=s1.sqt row;have g:=DGet.t (k:=Zo (Zf x y)) hl1.d htp;rw [Zel] at g;have lla:=hla (Zf x y);have keep:∀c,c≠Zf x y->YD ((ks.take i).map (·.1)++[e]) c=YD ((ks.take i).map (·.1)) c:=fun c nc=>by rw [Zav];exact Qa fun z=>nc (by rw [z.2,epr])
    have put:∀(o:Option (Int×Str)),YD ((ks.take i).map (·.1)) (Zf x y)=o->(∀r,o=some r->r.1<d)->YD ((ks.take i).map (·.1)++[e]) (Zf x y)=some (d,W):=fun o ho hlt=>by
     rw [Zav];unfold X6;rw [Qc ⟨et,by rw [epr]⟩,ho,edy,ekd];cases o with
     |none=>rfl
     |some r=>exact Qc (hlt r rfl)
    have PUT:∀(tr:Addr) (ntr:H1 tr=none),(∀r,YD ((ks.take i).map (·.1)) (Zf x y)=some r->r.1<d)->∃(ls':Xo),LsAt K (Zb (Zb H1 tr (.tup [.int d,.str W])) Dl (.dT (Yj (Xf ls) (Zo (Zf x y)) (.ref tr)))) Dl ls'∧(∀c,(Zv c ls').map (·.2)=YD ((ks.take (i+1)).map (·.1)) c)∧ls'.length≤i+1:=fun tr ntr hlt=>by
     have s2:=Zk (o:=.tup [.int d,.str W]) ntr;have hd2:=s2 _ _ hl1.d;refine ⟨Zp ls (Zf x y) (tr,d,W),⟨by rw [Zg,←Zm0],fun q hq=>?_,Zck hl.kn⟩,fun c=>?_,Qo (XG ..) (by omega)⟩
     ·rcases Ux hq with rfl|hq
      ·exact YH (.of Zg) hd2 (fun _ z=>by cases z) (fun _ _ z=>by cases z)
      ·exact YH (s2.sqt (hl1.t q hq)) hd2 (fun _ z=>by cases z) (fun _ _ z=>by cases z)
     ·rw [Zcl,tk];by_cases e:c=Zf x y
      ·subst e;rw [Qc rfl,put _ rfl hlt];rfl
      ·rw [Qa e,keep c e];exact hla c
    have FIN:∀(tr:Addr) (ntr:H1 tr=none),(∀r,YD ((ks.take i).map (·.1)) (Zf x y)=some r->r.1<d)->∃(ed:Ed) (ls1:Xo) (v3 v4' v5' v6' v7':Option V),[some (.ref Le),some (.ref D),some (.ref Dl),some (.ref a),v4,v5,some (.ref tp),v7]=[some (.ref Le),some (.ref D),some (.ref Dl),v3,v4',v5',v6',v7']∧Same H (Zb (Zb H1 tr (.tup [.int d,.str W])) Dl (.dT (Yj (Xf ls) (Zo (Zf x y)) (.ref tr))))∧EdAt (Zb (Zb H1 tr (.tup [.int d,.str W])) Dl (.dT (Yj (Xf ls) (Zo (Zf x y)) (.ref tr)))) D ed∧EdB ed (5*(i+1))∧(∀c,lk ed c=Yt ((ks.take (i+1)).map (·.1)) c)∧(∀b∈ed.map (·.2.1),H b=none)∧LsAt K (Zb (Zb H1 tr (.tup [.int d,.str W])) Dl (.dT (Yj (Xf ls) (Zo (Zf x y)) (.ref tr)))) Dl ls1∧(∀c,(Zv c ls1).map (·.2)=YD ((ks.take (i+1)).map (·.1)) c)∧ls1.length≤i+1:=fun tr ntr hlt=>by
     obtain ⟨ls',h1,h2,h3⟩:=PUT tr ntr hlt;have s2:=s1.trans (Zk (o:=.tup [.int d,.str W]) ntr);have hE2:=hE.mono s2;have hd2:=s2 _ _ hl.d;refine ⟨ed,ls',_,_,_,_,_,rfl,fun c u e=>?_,⟨?_,fun q hq=>?_,hE.an,hE.kn⟩,hb.mono (by omega),fun c=>?_,hn,h1,h2,h3⟩
     ·rw [Zd (fun z=>by rw [z,nDlH] at e;cases e)];exact s2 _ _ (sc _ _ e)
     ·rw [Zd DlD.symm];exact hE2.d
     ·rw [Zd (fun z=>by have:=hE2.l q hq;rw [z,hd2] at this;cases this)];exact hE2.l q hq
     ·rw [tk,UO,eS];exact hlk c
    refine ⟨_,rfl,_,rfl,Dl,_,rfl,g,_,rfl,?_⟩;cases hf:Zv (Zf x y) ls with
    |none =>
     rw [hf] at lla;refine Z0 (by rfl) ⟨_,rfl,a,_,_,_,rfl,rfl,row1,Zh (j:=3) rfl,_,rfl,a,_,_,_,rfl,rfl,row1,Zh (j:=0) rfl,few rfl,fun tr ntr=>⟨_,rfl,_,rfl,Dl,_,rfl,DPut.t (k:=Zo (Zf x y)) ((Zk ntr) _ _ hl1.d) ((Zk ntr) _ _ htp) (Zz (by rw [Qd];omega)),FIN tr ntr (fun r hr=>by rw [←lla] at hr;cases hr)⟩⟩
    |some w =>
     obtain ⟨ar,dd,kk⟩:=w;rw [hf] at lla g;have hm:=Wl hf;refine Zt (by rfl) ⟨_,rfl,_,rfl,Dl,_,rfl,g,ar,_,_,_,rfl,rfl,hl1.t _ hm,Zh (j:=0) rfl,_,rfl,a,_,_,_,rfl,rfl,row1,Zh (j:=3) rfl,_,_,rfl,rfl,_,rfl,YA (fun h2=>?_) (fun h2=>?_)⟩
     ·refine ⟨_,rfl,a,_,_,_,rfl,rfl,row1,Zh (j:=3) rfl,_,rfl,a,_,_,_,rfl,rfl,row1,Zh (j:=0) rfl,few rfl,fun tr ntr=>⟨_,rfl,_,rfl,Dl,_,rfl,DPut.t (k:=Zo (Zf x y)) ((Zk ntr) _ _ hl1.d) ((Zk ntr) _ _ htp) (Zz (by rw [Qd];omega)),FIN tr ntr (fun r hr=>by rw [←lla] at hr;cases hr;exact QB h2)⟩⟩
     ·refine ⟨ed,ls,_,_,_,_,_,rfl,sc.trans s1,hE.mono s1,hb.mono (by omega),fun c=>?_,hn,hl1,fun c=>?_,by omega⟩
      ·rw [tk,UO,eS];exact hlk c
      ·rw [tk,Zav];unfold X6;by_cases e:c=Zf x y
       ·subst e;rw [Qc ⟨et,by rw [epr]⟩,←lla,edy,ekd];show _=if dd<d then _ else _;rw [Qa (Rg h2),hf];rfl
       ·rw [Qa (fun z=>e (by rw [z.2,epr]))];exact hla c
  cases e with
  |dead n d =>
   refine ⟨_,rfl,a,_,_,_,rfl,rfl,row,Zh (j:=0) rfl,rfl,_,rfl,Zt (by decide +kernel) ⟨_,rfl,a,_,_,_,rfl,rfl,row,Zh (j:=0) rfl,rfl,_,rfl,Zt (by decide +kernel) ⟨_,rfl,a,_,_,_,rfl,rfl,row,Zh (j:=0) rfl,rfl,_,rfl,Zt (by decide +kernel) ⟨_,rfl,a,_,_,_,rfl,rfl,row,Zh (j:=0) rfl,rfl,_,rfl,Zt (by decide +kernel) ⟨ed,ls,_,_,_,_,_,rfl,sc,hE,hb.mono (by omega),fun c=>?_,hn,hl,fun c=>?_,by omega⟩⟩⟩⟩⟩
   ·rw [tk,UO];exact hlk c
   ·rw [tk,Zaf rfl];exact hla c
  |given x y am d =>
   refine ⟨_,rfl,a,_,_,_,rfl,rfl,row,Zh (j:=0) rfl,rfl,_,rfl,Zt (by decide +kernel) ⟨_,rfl,a,_,_,_,rfl,rfl,row,Zh (j:=0) rfl,rfl,_,rfl,Zt (by decide +kernel) ⟨_,rfl,a,_,_,_,rfl,rfl,row,Zh (j:=0) rfl,rfl,_,rfl,Zt (by decide +kernel) ⟨_,rfl,a,_,_,_,rfl,rfl,row,Zh (j:=0) rfl,rfl,_,rfl,Zt (by decide +kernel) ⟨ed,ls,_,_,_,_,_,rfl,sc,hE,hb.mono (by omega),fun c=>?_,hn,hl,fun c=>?_,by omega⟩⟩⟩⟩⟩
   ·rw [tk,UO];exact hlk c
   ·rw [tk,Zaf rfl];exact hla c
  |taken x y d =>
   refine ⟨_,rfl,a,_,_,_,rfl,rfl,row,Zh (j:=0) rfl,rfl,_,rfl,Zt (by decide +kernel) ⟨_,rfl,a,_,_,_,rfl,rfl,row,Zh (j:=0) rfl,rfl,_,rfl,Z0 (by decide +kernel) ⟨_,rfl,_,rfl,a,_,_,_,rfl,rfl,row,Zh (j:=1) rfl,_,rfl,a,_,_,_,rfl,rfl,row,Zh (j:=2) rfl,rfl,D,"T",x,y,ed,_,rfl,hE,hb,by omega,.inr (.inr rfl),fun H1 ed1 hE1 hb1 lk1 fr1=>?_⟩⟩⟩;have row1:=fr1.sqt hE row;obtain ⟨sc1,hn1⟩:=fr1.same sc nD hn;refine ⟨_,rfl,a,_,_,_,rfl,rfl,row1,Zh (j:=0) rfl,rfl,_,rfl,Zt (by decide +kernel) ⟨_,rfl,a,_,_,_,rfl,rfl,row1,Zh (j:=0) rfl,rfl,_,rfl,Zt (by decide +kernel) ⟨ed1,ls,_,_,_,_,_,rfl,sc1,hE1,hb1.mono (by omega),fun c=>?_,hn1,fr1.ls hE DlD hl,fun c=>?_,by omega⟩⟩⟩
   ·rw [tk,UO,lk1,show lk ed=Yt ((ks.take i).map (·.1)) from funext hlk];rfl
   ·rw [tk,Zaf rfl];exact hla c
  |union=>exact absurd rfl et
  |parted=>exact absurd rfl et
  |born n s d fa mo =>
   have row:SqT K Hc a [.str "born",.str n,.str s,.int d,.str fa,.str mo]:=row;have gt:GdL ns ((ks.take i).map (·.1)++[.born n s d fa mo]):=by rw [←tk,List.map_take];exact gd.take _
   obtain ⟨_,d5,_,fit⟩:=gt.last rfl
   have fresh:∀e∈(ks.take i).map (·.1),e.bornName≠some n:=fun e he z=>by
    cases e with
    |born n' s' d' f' m' =>
     cases z;exact fit.key _ (Qk.mpr ⟨_,he,rfl⟩) rfl
    |_=>cases z
   have nk:ZB (s,n) ed=none:=Zmj hb (by rw [hlk];exact ZhN (ZfX d5.1) fresh);dsimp only [ZX];refine YL (fun σ Hx=>∃(ed:Ed) (v4 v5:Option V),σ=[some (.ref Le),some (.ref D),some (.ref Dl),some (.ref a),v4,v5,v6,v7]∧Same H Hx∧EdAt Hx D ed∧EdB ed (5*(i+1))∧(∀c,lk ed c=Yo (Yt ((ks.take i).map (·.1))) (.born n s d fa mo) c)∧(∀b∈ed.map (·.2.1),H b=none)∧LsAt K Hx Dl ls) (fun nx rest=>?_) ?_
   ·refine ⟨_,rfl,a,_,_,_,rfl,rfl,row,Zh (j:=0) rfl,rfl,_,rfl,Z0 (by decide +kernel) ⟨_,rfl,a,_,_,_,rfl,rfl,row,Zh (j:=1) rfl,few rfl,fun z nz=>?_⟩⟩;have sz:=Zk (o:=.lst [.str n]) nz;refine ⟨_,rfl,_,rfl,a,_,_,_,rfl,rfl,(sz.sqt row),Zh (j:=2) rfl,_,rfl,a,_,_,_,rfl,rfl,(sz.sqt row),Zh (j:=1) rfl,few rfl,fun t nt=>?_⟩;have st:=Zk (o:=.tup [.str s,.str n]) nt;have szt:=sz.trans st;have ht1:Zb (Zb Hc z (.lst [.str n])) t (.tup [.str s,.str n]) t=some (.tup [.str s,.str n]):=Zg;have hz1:=st _ _ (Zg (H:=Hc) (a:=z) (o:=.lst [.str n]));generalize Zb (Zb Hc z (.lst [.str n])) t (.tup [.str s,.str n])=H1 at *;have hD1:=szt _ _ hE.d;refine ⟨D,_,rfl,DPut.t (k:=Zo (s,n)) hD1 ht1 (Zz (by rw [Qd];have:=hb.len;omega)),?_⟩;rw [UK _ (by rw [Wb,nk];rfl)];have zD:z≠D:=fun e=>by rw [e,hD1] at hz1;cases hz1
    obtain ⟨ed1,hE1,hb1,lk1,fr1⟩:=Zev (H':=Zb H1 D (.dT (Xb ed++[(Zo (s,n),.ref z)]))) (xs:=[n]) hE hb nk nz (by simp) (by simp) Zg (by rw [Zd zD];exact hz1) (fun b u nb e=>by rw [Zd nb];exact szt _ _ e) (fun b hbn=>by
     by_cases e:b=D
     ·rw [e,Zg] at hbn;cases hbn
     ·rw [Zd e] at hbn;exact ZJ szt hbn)
    obtain ⟨sc1,hn1⟩:=fr1.same sc nD hn;have row1:=fr1.sqt hE row;have hl1:=fr1.ls hE DlD hl;generalize Zb H1 D (.dT (Xb ed++[(Zo (s,n),.ref z)]))=H2 at *;refine ⟨_,rfl,a,_,_,_,rfl,rfl,row1,Zh (j:=4) rfl,few rfl,fun t1 nt1=>?_⟩;have e1:=Zk (o:=.tup [.str "F",.str fa]) nt1;refine ⟨_,rfl,a,_,_,_,rfl,rfl,(e1.sqt row1),Zh (j:=5) rfl,few rfl,fun t2 nt2=>⟨few rfl,fun lp nlp=>?_⟩⟩;have e2:=Zk (o:=.tup [.str "M",.str mo]) nt2;have e3:=Zk (o:=.lst [.ref t1,.ref t2]) nlp;have ht1:=e3 _ _ (e2 _ _ (Zg (H:=H2) (a:=t1) (o:=.tup [.str "F",.str fa])));have ht2:=e3 _ _ (Zg (H:=Zb H2 t1 (.tup [.str "F",.str fa])) (a:=t2) (o:=.tup [.str "M",.str mo]));have e13:=(e1.trans e2).trans e3;have nlp1:=hE1.off (ZJ (e1.trans e2) nlp);refine ⟨lp,rfl,⟨_,.of Zg⟩,Wp (xs:=[.ref t1,.ref t2]) (fun j σ Hy=>∃(ed2:Ed) (v4 v5:Option V),σ=[some (.ref Le),some (.ref D),some (.ref Dl),some (.ref a),v4,v5,v6,v7]∧Same H Hy∧EdAt Hy D ed2∧EdB ed2 (5*i+1+2*j)∧(∀c,lk ed2 c=ZaH (Yt ((ks.take i).map (·.1))) n s fa mo j c)∧(∀b∈ed2.map (·.2.1),H b=none)∧LsAt K Hy Dl ls∧Hy lp=some (.lst [.ref t1,.ref t2])∧lp∉ed2.map (·.2.1)∧SqT K Hy t1 [.str "F",.str fa]∧SqT K Hy t2 [.str "M",.str mo]∧SqT K Hy a [.str "born",.str n,.str s,.int d,.str fa,.str mo]) ?st ?li ?tu ?dn⟩
    case st=>exact ⟨ed1,v4,v5,rfl,sc1.trans e13,hE1.mono e13,hb1,fun c=>by rw [lk1];show _=Yn _ s n c;unfold Yn;rw [hlk],hn1,hl1.mono e13,Zg,nlp1,.of ht1,.of ht2,e13.sqt row1⟩
    case li =>
     rintro j σ Hy _ ⟨ed2,v4,v5,rfl,_,_,_,_,_,_,hlp,_⟩;exact .of hlp
    case dn =>
     rintro σ Hy ⟨ed2,v4,v5,rfl,sy,hE2,hb2,lk2,hn2,hl2,_⟩;exact rest _ _ ⟨ed2,v4,v5,rfl,sy,hE2,hb2.mono (by simp;omega),lk2,hn2,hl2⟩
    case tu =>
     rintro j x σ Hy hx ⟨ed2,v4,v5,rfl,sy,hE2,hb2,lk2,hn2,hl2,hlp,nlp2,h1,h2,h3⟩
     have pick:∃tq L l' pr,x=.ref tq∧SqT K Hy tq [.str L,.str pr]∧(L="F"∨L="M"∨L="T")∧Zbh L=l'∧j≤1∧ZaH (Yt ((ks.take i).map (·.1))) n s fa mo (j+1)=Yh L l' n pr (ZaH (Yt ((ks.take i).map (·.1))) n s fa mo j):=by
      match j,hx with
      |0,hx=>exact ⟨t1,"F","f",fa,(Qn hx).symm,h1,.inl rfl,by decide +kernel,by omega,rfl⟩
      |1,hx=>exact ⟨t2,"M","m",mo,(Qn hx).symm,h2,.inr (.inl rfl),by decide +kernel,by omega,rfl⟩
     obtain ⟨tq,L,l',pr,rfl,hq,hL,el,j1,eb⟩:=pick;refine ⟨tq,_,rfl,hq,rfl,_,_,rfl,_,_,rfl,rfl,?_⟩;refine ⟨_,rfl,rfl,_,rfl,?_⟩;by_cases e0:pr=""
     ·refine Zt (by rw [e0];decide +kernel) ⟨ed2,_,_,rfl,sy,hE2,hb2.mono (by omega),fun c=>?_,hn2,hl2,hlp,nlp2,h1,h2,h3⟩;rw [eb];unfold Yh;rw [Qc e0];exact lk2 c
     ·refine Z0 (by show (!decide (V.str pr=V.str ""))=true;rw [Qj (fun z=>e0 (V.str.inj z))];rfl) ⟨_,rfl,_,rfl,_,rfl,a,_,_,_,rfl,rfl,h3,Zh (j:=1) rfl,_,rfl,rfl,D,L,n,pr,ed2,_,rfl,hE2,hb2,by omega,hL,fun H4 ed4 hE4 hb4 lk4 fr4=>?_⟩;obtain ⟨s4,hn4⟩:=fr4.same sy nD hn2;refine ⟨ed4,_,_,rfl,s4,hE4,hb4.mono (by omega),fun c=>?_,hn4,fr4.ls hE2 DlD hl2,fr4.fr _ _ (fun z=>by rw [z,hE2.d] at hlp;cases hlp) nlp2 hlp,(fun m=>(fr4.gr _ m).elim nlp2 fun z=>by rw [hlp] at z;cases z),fr4.sqt hE2 h1,fr4.sqt hE2 h2,fr4.sqt hE2 h3⟩;rw [lk4,eb,el,show lk ed2=ZaH (Yt ((ks.take i).map (·.1))) n s fa mo j from funext lk2];unfold Yh;rw [Qa e0]
   ·rintro σ Hx ⟨ed1,w4,w5,rfl,sx,hE1,hb1,lk1,hn1,hl1⟩;have rowx:=sx.sqt (hR _ (QD hp));refine ⟨_,rfl,a,_,_,_,rfl,rfl,rowx,Zh (j:=0) rfl,rfl,_,rfl,Zt (by decide +kernel) ⟨_,rfl,a,_,_,_,rfl,rfl,rowx,Zh (j:=0) rfl,rfl,_,rfl,Zt (by decide +kernel) ⟨_,rfl,a,_,_,_,rfl,rfl,rowx,Zh (j:=0) rfl,rfl,_,rfl,Zt (by decide +kernel) ⟨ed1,ls,_,_,_,_,_,rfl,sx,hE1,hb1,fun c=>?_,hn1,hl1,fun c=>?_,by omega⟩⟩⟩⟩
    ·rw [tk,UO];exact lk1 c
    ·rw [tk,Zaf rfl];exact hla c
 case done =>
  rintro σ Hc ⟨ed,ls,v3,v4,v5,v6,v7,rfl,sc,hE,hb,hlk,hn,hl,hla,ll⟩;rw [Uw,Ra] at hlk hla;rw [Uw] at hb ll;refine ⟨Dl,Xf ls,hl.d,_,rfl,.inr (.inr (.inl ⟨rfl,.inr ⟨_,hl.d⟩⟩)),Dl,_,rfl,rfl,hl.d,fun r nr=>⟨r,Dl,_,rfl,Zg,(Zk nr) _ _ hl.d,fun o=>?_⟩⟩;have sr:=Zk (o:=.ext (UA r Dl)) nr;have hd1:=sr _ _ hl.d;have up:∀{b:Addr} {u:HO},b≠Dl->Hc b=some u->Zb (Zb Hc r (.ext (UA r Dl))) Dl (.frz o (.dT (Xf ls))) b=some u:=fun nb e=>by rw [Zd nb];exact sr _ _ e
  refine Zi0 (kvs:=Xf ls) (fun i σ Hy=>∃(ed:Ed) (v6 v7:Option V),σ=[some (.ref Le),some (.ref D),some (.ref Dl),v3,v4,v5,v6,v7]∧Same H Hy∧EdAt Hy D ed∧EdB ed (200+2*i)∧(∀c,lk ed c=(ls.take i).foldl Xi (Yt (ks.map (·.1))) c)∧(∀b∈ed.map (·.2.1),H b=none)∧Hy Dl=some (.frz o (.dT (Xf ls)))∧∀q∈ls,SqT K Hy q.2.1 [.int q.2.2.1,.str q.2.2.2]) ?st ?li ?tu ?dn
  case st=>exact ⟨ed,_,_,rfl,fun b u e=>up (fun z=>by rw [z,nDlH] at e;cases e) (sc _ _ e),⟨up DlD.symm hE.d,fun q hq=>up (fun z=>by have:=hE.l q hq;rw [z,hl.d] at this;cases this) (hE.l q hq),hE.an,hE.kn⟩,hb.mono (by omega),hlk,hn,Zg,fun q hq=>YH (sr.sqt (hl.t q hq)) hd1 (fun _ z=>by cases z) (fun _ _ z=>by cases z)⟩
  case li =>
   rintro i σ Hy _ ⟨ed,v6,v7,rfl,_,_,_,_,_,hDl,_⟩;exact hDl
  case dn =>
   rintro σ Hy ⟨ed,v6,v7,rfl,sy,hE,hb,hlk,hn,hDl,ht⟩;have ll2:(Xf ls).length=ls.length:=Qd ..;rw [ll2,Ra] at hlk;refine ⟨o,hDl,_,rfl,q _ D ed ls (fun b u e=>?_) nD ⟨?_,fun q hq=>?_,hE.an,hE.kn⟩ (hb.mono (by omega)) hl.kn hla hlk⟩
   ·rw [Zd (fun z=>by rw [z,nDlH] at e;cases e)];exact sy _ _ e
   ·rw [Zd DlD.symm];exact hE.d
   ·rw [Zd (fun z=>by have:=hE.l q hq;rw [z,hDl] at this;cases this)];exact hE.l q hq
  case tu =>
   rintro i pr T c σ Hy hpr ⟨ed,v6,v7,rfl,sy,hE,hb,hlk,hn,hDl,ht⟩ nT hc;rw [Qw] at hpr;obtain ⟨q1,hq1,rfl⟩:=QR.mp hpr;have mq:=QD hq1;have il:=(QI.mp hq1).1;have tkq:ls.take (i+1)=ls.take i++[q1]:=by rw [Rh,hq1];rfl
   have sT:=Zk (o:=.tup [.ref c,.ref q1.2.1]) nT;refine ⟨T,_,rfl,.of Zg,rfl,_,_,rfl,_,_,rfl,rfl,?_⟩;have hc2:SqT K (Zb Hy T (.tup [.ref c,.ref q1.2.1])) c [.str q1.1.1,.str q1.1.2]:=sT.sqt (.of hc);have hE2:=hE.mono sT;have hDl2:=sT _ _ hDl;have ht2:∀q∈ls,SqT K (Zb Hy T (.tup [.ref c,.ref q1.2.1])) q.2.1 [.int q.2.2.1,.str q.2.2.2]:=fun q hq=>sT.sqt (ht q hq);have s2:=sy.trans sT;generalize Zb Hy T (.tup [.ref c,.ref q1.2.1])=H2 at *;refine ⟨_,rfl,q1.2.1,_,_,_,rfl,rfl,ht2 q1 mq,Zh (j:=1) rfl,rfl,_,rfl,?_⟩;have fs:∀c,(ls.take (i+1)).foldl Xi (Yt (ks.map (·.1))) c=Xi ((ls.take i).foldl Xi (Yt (ks.map (·.1)))) q1 c:=fun c=>by rw [tkq,Nl];rfl
   by_cases eu:q1.2.2.2="union"
   ·refine Z0 (Qm (by rw [eu])) ?_;refine YL (fun σ Hx=>σ=[some (.ref Le),some (.ref D),some (.ref Dl),v3,v4,v5,some (.ref c),some (.ref q1.2.1)]∧UB D ed (200+2*i) ("S",q1.1.1) q1.1.2 H2 Hx) (fun nx rest=>?_) ?_
    ·refine ⟨_,rfl,D,rfl,.inr ⟨_,.inl hE2.d⟩,_,rfl,c,_,_,_,rfl,rfl,hc2,Zh (j:=0) rfl,few rfl,fun t nt=>⟨few rfl,fun z nz=>?_⟩⟩;have st:=Zk (o:=.tup [.str ((("S",q1.1.1):Str×Str)).1,.str ((("S",q1.1.1):Str×Str)).2]) nt;have sz:=Zk (o:=.lst []) nz;obtain ⟨hD2,ln2,old,new⟩:=Zar (c:=(("S",q1.1.1):Str×Str)) (x:=q1.1.2) hE2 hb (by omega) (st.trans sz) (ZJ st nz) Zg;refine ⟨Xb ed,Zo (("S",q1.1.1):Str×Str),t,hD2,rfl,sz _ _ Zg,ln2,fun v hv=>?_,fun hv=>?_⟩
     ·obtain ⟨b,xs,rfl,hb2,lx,add⟩:=old v hv;exact ⟨.inl ⟨rfl,_,.of hb2⟩,_,rfl,c,_,_,_,rfl,rfl,(st.trans sz).sqt hc2,Zh (j:=1) rfl,b,_,_,rfl,rfl,hb2,lx,rest _ _ ⟨rfl,add⟩⟩
     ·obtain ⟨hz3,add⟩:=new hv;exact ⟨.inl ⟨rfl,_,.of hz3⟩,_,rfl,c,_,_,_,rfl,rfl,YH ((st.trans sz).sqt hc2) hD2 (fun _ z=>by cases z) (fun _ _ z=>by cases z),Zh (j:=1) rfl,z,_,_,rfl,rfl,hz3,Zz (by simp),rest _ _ ⟨rfl,add⟩⟩
    ·rintro σ H3 ⟨rfl,ed3,hE3,hb3,lk3,fr3⟩;have hc3:=fr3.sqt hE2 hc2
     have fin:∀H',UB D ed3 (200+2*i+1) ("S",q1.1.2) q1.1.1 H3 H'->∃(ed:Ed) (v6 v7:Option V),[some (.ref Le),some (.ref D),some (.ref Dl),v3,v4,v5,some (.ref c),some (.ref q1.2.1)]=[some (.ref Le),some (.ref D),some (.ref Dl),v3,v4,v5,v6,v7]∧Same H H'∧EdAt H' D ed∧EdB ed (200+2*(i+1))∧(∀c,lk ed c=(ls.take (i+1)).foldl Xi (Yt (ks.map (·.1))) c)∧(∀b∈ed.map (·.2.1),H b=none)∧H' Dl=some (.frz o (.dT (Xf ls)))∧∀q∈ls,SqT K H' q.2.1 [.int q.2.2.1,.str q.2.2.2]:=fun H' ⟨ed4,hE4,hb4,lk4,fr4⟩=>by
      have fr:=fr3.trans fr4;obtain ⟨s4,hn4⟩:=fr.same s2 nD hn;refine ⟨ed4,_,_,rfl,s4,hE4,hb4,fun c=>?_,hn4,fr.oth hE2 DlD hDl2 (fun _ z=>by cases z),fun q hq=>fr.sqt hE2 (ht2 q hq)⟩;rw [lk4,fs,show lk ed3=ZZ (lk ed) ("S",q1.1.1) q1.1.2 from funext lk3,show lk ed=(ls.take i).foldl Xi (Yt (ks.map (·.1))) from funext hlk];unfold Xi;rw [Qc eu]
     refine ⟨_,rfl,D,rfl,.inr ⟨_,.inl hE3.d⟩,_,rfl,c,_,_,_,rfl,rfl,hc3,Zh (j:=1) rfl,few rfl,fun t nt=>⟨few rfl,fun z nz=>?_⟩⟩;have st:=Zk (o:=.tup [.str ((("S",q1.1.2):Str×Str)).1,.str ((("S",q1.1.2):Str×Str)).2]) nt;have sz:=Zk (o:=.lst []) nz;obtain ⟨hD2,ln2,old,new⟩:=Zar (c:=(("S",q1.1.2):Str×Str)) (x:=q1.1.1) hE3 hb3 (by omega) (st.trans sz) (ZJ st nz) Zg;refine ⟨Xb ed3,Zo (("S",q1.1.2):Str×Str),t,hD2,rfl,sz _ _ Zg,ln2,fun v hv=>?_,fun hv=>?_⟩
     ·obtain ⟨b,xs,rfl,hb2,lx,add⟩:=old v hv;exact ⟨.inl ⟨rfl,_,.of hb2⟩,_,rfl,c,_,_,_,rfl,rfl,(st.trans sz).sqt hc3,Zh (j:=0) rfl,b,_,_,rfl,rfl,hb2,lx,fin _ add⟩
     ·obtain ⟨hz3,add⟩:=new hv;exact ⟨.inl ⟨rfl,_,.of hz3⟩,_,rfl,c,_,_,_,rfl,rfl,YH ((st.trans sz).sqt hc3) hD2 (fun _ z=>by cases z) (fun _ _ z=>by cases z),Zh (j:=0) rfl,z,_,_,rfl,rfl,hz3,Zz (by simp),fin _ add⟩
   ·refine Zt (Qj (fun z=>eu (V.str.inj z))) ⟨ed,_,_,rfl,s2,hE2,hb.mono (by omega),fun c=>?_,hn,hDl2,ht2⟩;rw [fs];unfold Xi;rw [Qa eu];exact hlk c
theorem Zog (T:Tx K w mg)  : ZgS P base T:=by
 refine Fun.okX (k:=0) T.Zai.F JL (fun vs H Q E h=>h.1) (fun cdv A outer s H vs Q E hr h=>?_);obtain ⟨-,h⟩:=h;obtain ⟨c,k,rfl,k0,k1,q⟩:=h
 refine ⟨_,(Zj (ZI (ZA Z1 (Zn Z8 (pv 0) Ze) Ze (Zu _)) (Zj (Zw (i:=2) JL.nd rfl (Or.inl rfl) (Zn Y1 (pv 0) Ze))
   (Zj (Yv QH rfl (Vn (by rfl) T.n_range (Za (Zn Z8 (pv 1) Ze) Zc)) (ZW (i:=3) JL.nd rfl (Or.inl rfl))
    (Zl (Zw (i:=2) JL.nd rfl (Or.inl rfl) (Zn Y1 (pv 2) (Zn XV Ze Ze)))))
   (Zl (Zy (Zn Z8 (pv 2) (Zn XV Ze Ze)))))) ZK)
   (Zj (Zw (i:=2) JL.nd rfl (Or.inl rfl) (Zn Z8 (Zn Xz (Zn YE (Zn YE (pv 0) (Zn ZaL (Zn Xz Ze (pv 1)) (pv 1))) Ze) Ze) Ze))
   (Zl (Zy (Zn Z8 (Zn ZaL (pv 2) (pv 2)) Ze))))),?_⟩
 have p24:(10:Int) ^ (24:Int).toNat=10 ^ 24:=rfl;have c24:W4 10 24:=⟨by decide,by decide,by decide⟩;refine ⟨_,rfl,_,_,rfl,rfl,Ys (by decide),rfl,_,rfl,YA (fun h1=>?_) (fun h1=>?_)⟩
 ·refine ⟨_,rfl,_,_,rfl,rfl,⟨by decide,YB (by decide) (by decide)⟩,_,rfl,_,_,rfl,rfl,Ys (by decide),_,rfl,?_,?_,VU (fun i σ Hc=>Hc=H∧∃(n:Int) (v:Option V),σ=[some (.int c),some (.int k),some (.int n),v]) ⟨rfl,_,_,rfl⟩ ?_ ?_⟩
  ·have:=QP k (show (0:Int)<16 by decide);omega
  ·have:=Q2 k (show (0:Int)<16 by decide);omega
  ·rintro i σ Hc _ ⟨rfl,n,v,rfl⟩;exact ⟨_,rfl,_,_,rfl,rfl,c24,_,_,rfl,rfl,⟨by decide,YB (by decide) (by decide)⟩,rfl,_,_,rfl⟩
  ·rintro σ Hc ⟨rfl,n,v,rfl⟩;exact ⟨_,rfl,_,_,rfl,rfl,c24,_,_,rfl,rfl,Ys (by decide),q _ (QP _ (by decide))⟩
 ·have m0:=QP ((c+7919*k*k+1)*48271) (show (0:Int)<2147483647 by decide);have m1:=Q2 ((c+7919*k*k+1)*48271) (show (0:Int)<2147483647 by decide);exact ⟨_,rfl,_,rfl,_,_,rfl,rfl,.inl ⟨by decide,by decide⟩,_,rfl,_,_,rfl,rfl,⟨YB (by omega) (by omega),YB (by omega) (by omega)⟩,_,_,rfl,rfl,_,_,rfl,rfl,_,_,rfl,rfl,.inr ⟨by decide,by decide⟩,_,_,rfl,rfl,Ys (by decide),_,rfl,_,rfl,_,_,rfl,rfl,⟨YB (by omega) (by omega),YB (by omega) (by omega)⟩,_,_,rfl,rfl,Ys (by decide),q _ (QP _ (by decide))⟩
theorem Zh9 (T:Tx K w mg) (X2:J4 P base T) (Zbr:ZgS P base T):ZeF P base T:=by
 refine Fun.okX (k:=1) T.ZaY.F WQ (fun vs H Q E h=>h.1) (fun cdv A outer s H vs Q E hr h=>?_);obtain ⟨-,h⟩:=h;obtain ⟨l,ss,many,turn,D,nm0,ed,rfl,hl,m0,m1,t0,t1,hE,hb,q⟩:=h
 refine ⟨_,(Zj (Zw (i:=5) WQ.nd rfl (Or.inl rfl) (Yi (Za Zs (Za Zs (Za Zs (Za Zs (Za Zs (Za Zs (Za Zs (Za Zs (Za Zs Zc)))))))))))
   (Zj (Zw (i:=6) WQ.nd rfl (Or.inl rfl) (Yi Zc))
   (Zj (Yv QH rfl (Vn (by rfl) T.n_range (Za (pv 1) Zc)) (ZW (i:=7) WQ.nd rfl (Or.inl rfl))
    (Zj (Zw (i:=8) WQ.nd rfl (Or.inl rfl) (ZR Zbr hr ZF (Za (Zn YE (ZR X2 hr ZF (Za (pv 0) (Za (Zn YE Ze (pv 7)) Zc))) (Zn Xz Ze (ZR X2 hr ZF (Za (pv 0) (Za (Zn YE Ze (pv 7)) Zc))))) (Za (Zn YE (Zn Xz Ze (pv 7)) (pv 2)) Zc))))
   (Zj (Vh (i:=9) rfl  WQ.nd rfl (Or.inl rfl) (XR (N:=["_law_step","_law_edges_here","_law_name"]) ["_law_name","_law_edges_here"] [none,some 3,some 4] rfl (by decide +kernel) (by decide +kernel) (by rfl) (by rfl) (by rfl) (by rfl) (by rfl)) (Xa (pv 5)) (fun _ _ _=>(ZW (i:=0) Zh5 rfl (Or.inl rfl))) (fun _ _ _=>(WR (Um (ZcO (ZV hr) (ZY (Za (pv 0) (Za (pv 2) Zc))) (pv 1))))) (fun _ _ _=>(pv 0)))
   (Zj (Zw (i:=10) WQ.nd rfl (Or.inl rfl) (Zm Ym (pv 5) (Zn Z8 (Zn Y1 (pv 8) Ze) Ze) (fun _ _=>rfl)))
   (Zj (ZI (PW.pt (Wz (ZA Z1 (Zn Z8 (pv 8) Ze) Ze (Zu _)) (WM (ZA Wq (ZN Yw (by rfl) T.n_len Yd (Za (pv 9) Zc)) Ze (Zu _))))) (Zj (Zw (i:=10) WQ.nd rfl (Or.inl rfl) (Zm Ym (pv 9) (Zn Z8 (Zn Y1 (pv 8) Ze) (ZN Yw (by rfl) T.n_len Yd (Za (pv 9) Zc))) (fun _ _=>rfl)))
   (Zl (Zw (i:=4) WQ.nd rfl (Or.inr rfl) (Zm Ym (Xg (ZV hr) (pv 3) (ZY (Za (pv 10) (Za (pv 4) Zc))) (fun _ _=>rfl)) (Zn Z8 (Zn Y1 (pv 8) Ze) (ZN Yw (by rfl) T.n_len Yd (Za (Xg (ZV hr) (pv 3) (ZY (Za (pv 10) (Za (pv 4) Zc))) (fun _ _=>rfl)) Zc))) (fun _ _=>rfl))))) ZK)
   (Zl (Yc (X7 Ri Ro Rp XU (pv 6) (Za (pv 10) Zc)))))))))
   (Zl (Zy (VX ZfG (by rfl) T.n_tuple ZdC (Za (pv 6) Zc))))))),?_⟩
 refine ⟨few rfl,fun Ls nLs=>⟨few rfl,fun Lw nLw=>?_⟩⟩;have e1:=Zk (o:=.lst (ZU.map V.str)) nLs;have e2:=Zk (o:=.lst []) nLw;have LwLs:Lw≠Ls:=fun z=>by rw [z] at nLw;exact absurd nLw (by show ¬Zb H Ls (.lst (ZU.map V.str)) Ls=none;rw [Zg];simp)
 have nLwH:=ZJ e1 nLw;refine ⟨_,rfl,_,rfl,by omega,by omega,VU (fun i σ Hc=>∃(way:List Str) (nm:Str) (v7 v8 v9 v10:Option V),σ=[some (.ref l),some (.int many),some (.int turn),some (.ref D),some (.str nm),some (.ref Ls),some (.ref Lw),v7,v8,v9,v10]∧Same H Hc∧Hc Ls=some (.lst (ZU.map V.str))∧Hc Lw=some (.lst (way.map V.str))∧(∀s∈way,s∈ZU)∧way.length=i) ⟨[],nm0,_,_,_,_,rfl,e1.trans e2,by rw [Zd LwLs.symm];exact Zg,Zg,fun s hs=>(by cases hs),rfl⟩ ?turn ?done⟩
 case done =>
  rintro σ Hc ⟨way,nm,v7,v8,v9,v10,rfl,sc,hLs,hLw,w9,wl⟩;exact ⟨_,rfl,Lw,_,rfl,.inl ⟨.of hLw,fun p np=>q _ p way (sc.trans (Zk np)) (ZJ sc np) (.of Zg) w9 (by omega)⟩⟩
 case turn =>
  rintro i σ Hc hi ⟨way,nm,v7,v8,v9,v10,rfl,sc,hLs,hLw,w9,wl⟩;have hi2:(i:Int)<many:=by omega
  rw [show (0:Int)+(i:Int)=i from Gn _];refine ⟨_,rfl,_,rfl,_,_,rfl,rfl,rfl,l,ss,_,rfl,sc.sql hl,by omega,fun z1=>⟨_,rfl,_,rfl,_,_,rfl,rfl,rfl,l,ss,_,rfl,sc.sql hl,by omega,fun z2=>⟨_,_,rfl,rfl,.inl ⟨by decide,by decide⟩,_,_,rfl,rfl,_,rfl,_,_,rfl,rfl,.inl ⟨by decide,by decide⟩,_,rfl,_,_,rfl,rfl,rfl,_,_,rfl,by omega,by omega,fun num n0=>?_⟩⟩⟩;dsimp only [ZX];have hEc:=hE.mono sc;refine ⟨_,rfl,Ls,rfl,⟨_,.of hLs⟩,Vg (ZU.map (Jx ed nm)) (Zz (by rw [Qd];decide)) (fun σ=>∃w,σ=[w,some (.ref D),some (.str nm)]) ⟨_,rfl⟩ (fun j H4 hj sm=>?go) (fun H4 sm=>?stop) (fun j σ H4 x H5 z hz hσ sm hx C hC=>?step) (fun D5 H5 nD5 s5 hD5=>?fin)⟩
  case go=>exact ⟨_,_,sm.sql (.of hLs),Qx (by rw [Qd];rw [Qd] at hj;exact hj)⟩
  case stop=>exact ⟨_,sm.sql (.of hLs),by rw [Qd,Qd];exact Qf _⟩
  case step =>
   obtain ⟨w,rfl⟩:=hσ;obtain ⟨rfl,hx2⟩:=hx;obtain ⟨s,hs,rfl⟩:=Wu (hx2 _ (sm.sql (.of hLs)));rw [Qw,hs] at hz;obtain rfl:=Qn hz;refine ⟨_,rfl,_,rfl,few rfl,fun t nt=>?_⟩;have st:=Zk (o:=.tup [.str s,.str nm]) nt;have g:=DGet.t (k:=Zo (s,nm)) ((sm.trans st) _ _ hEc.d) (Zg (o:=.tup [.str s,.str nm]));rw [Wb] at g;refine ⟨_,rfl,D,_,rfl,g,_,rfl,?_⟩;cases hk:ZB (s,nm) ed with
   |some y =>
    rw [show Jx ed nm s=some (.str s) from Qc (by rw [hk];rfl)] at hC;exact Z0 (by rfl) ⟨_,rfl,hC _ _ ⟨_,rfl⟩ st⟩
   |none =>
    rw [show Jx ed nm s=none from Qa (by rw [hk];decide)] at hC;exact Zt (by rfl) (hC _ _ ⟨_,rfl⟩ st)
  case fin =>
  rw [Ze1] at hD5;obtain ⟨ts,et⟩:∃z,z=ZU.filter fun s=>(ZB (s,nm) ed).isSome:=⟨_,rfl⟩;rw [←et] at hD5
  have tm:∀s∈ts,s∈ZU∧∃x,ZB (s,nm) ed=some x:=fun s hs=>by
   rw [et] at hs;obtain ⟨h1,h2⟩:=Q5.mp hs;exact ⟨h1,GT.mp h2⟩
  have sc5:=sc.trans s5;have hE5:=hE.mono sc5;have hLs5:=s5 _ _ hLs;have hLw5:=s5 _ _ hLw;have b2:(2:Int)≠0∧(2:Int).natAbs<2 ^ 1000:=⟨by decide,YB (by decide) (by decide)⟩;have b40:(40:Int)≠0∧(40:Int).natAbs<2 ^ 1000:=⟨by decide,YB (by decide) (by decide)⟩;obtain ⟨st0,m9,a9⟩:=Zj8 (num.fdiv 2);refine ⟨_,rfl,_,rfl,_,_,rfl,rfl,b2,_,_,rfl,rfl,Ys (by decide),Ls,_,_,_,rfl,rfl,.of hLs5,a9,?_⟩;dsimp only [ZX];refine YL (fun σ Hx=>∃(st nm:Str),st∈ZU∧Same H5 Hx∧σ=[some (.ref l),some (.int many),some (.int turn),some (.ref D),some (.str nm),some (.ref Ls),some (.ref Lw),some (.int i),some (.int num),some (.ref D5),some (.str st)]) (fun nx rest=>?_) ?_
  ·refine ⟨_,rfl,_,_,rfl,rfl,Ys (by decide),rfl,_,rfl,YA (fun h1=>⟨_,rfl,D5,_,rfl,.inl (.of hD5),_,_,rfl,rfl,_,rfl,YA (fun h2=>?_) (fun h2=>?_)⟩) (fun h1=>?_)⟩
   ·have l0:0<ts.length:=by have:=QB h2;rw [Qd] at this;omega
    obtain ⟨st,hst,ea⟩:=W0 V.str ts l0 (num.fdiv 2);obtain ⟨n9,⟨b,xs⟩,hx⟩:=tm st hst;have mem:=Xd hx;have lx:=(hb.ll _ mem).1;obtain ⟨x,hxm,ex⟩:=W0 V.str xs lx (num.fdiv 40);refine ⟨_,rfl,_,rfl,_,_,rfl,rfl,b2,_,rfl,D5,_,rfl,.inl (.of hD5),_,_,rfl,rfl,(by rw [Qd];omega),D5,_,_,_,rfl,rfl,.of hD5,ea,?_⟩;refine ⟨_,rfl,_,rfl,_,rfl,few rfl,fun t nt=>?_⟩;have s6:=Zk (o:=.tup [.str st,.str nm]) nt;have g:=DGet.t (k:=Zo (st,nm)) (s6 _ _ hE5.d) (Zg (o:=.tup [.str st,.str nm]));rw [Wb,hx] at g;refine ⟨D,_,rfl,g,_,rfl,_,_,rfl,rfl,b40,_,rfl,_,rfl,_,rfl,few rfl,fun t2 nt2=>?_⟩;have s7:=Zk (o:=.tup [.str st,.str nm]) nt2;have s67:=s6.trans s7;have g2:=DGet.t (k:=Zo (st,nm)) (s67 _ _ hE5.d) (Zg (o:=.tup [.str st,.str nm]));rw [Wb,hx] at g2;have hbl:=(hE5.mono s67).l _ mem;exact ⟨D,_,rfl,g2,b,_,rfl,.inl (.of hbl),_,_,rfl,rfl,(by rw [Qd];have:1≤xs.length:=lx;omega),b,_,_,_,rfl,rfl,.of hbl,ex,rest _ _ ⟨st,x,n9,s67,rfl⟩⟩
   ·exact rest _ _ ⟨st0,nm,m9,Same.refl _,rfl⟩
   ·exact rest _ _ ⟨st0,nm,m9,Same.refl _,rfl⟩
  rintro σ Hx ⟨st,nm',m9,sx,rfl⟩;have hLwx:=sx _ _ hLw5;refine ⟨_,rfl,.inl ⟨rfl,_,.of hLwx⟩,_,rfl,Lw,_,_,rfl,rfl,hLwx,Zz (by rw [Qd];omega),way++[st],nm',_,_,_,_,rfl,fun a u e=>?_,?_,?_,fun s hs=>?_,by rw [Qu,wl];rfl⟩
  ·rw [Zd (fun z=>by rw [z,nLwH] at e;cases e)];exact sx _ _ (sc5 _ _ e)
  ·rw [Zd LwLs.symm];exact sx _ _ hLs5
  ·rw [Zg,Qr];rfl
  ·rcases Qq.mp hs with hs|hs
   ·exact w9 s hs
   ·rw [show s=st by simpa using hs];exact m9
theorem Zn6 (T:Tx K w mg)  : ZbI P base T:=by
 refine Fun.okX (k:=0) T.ZaD.F VJ (fun vs H Q E h=>h.1) (fun cdv A outer s H vs Q E hr h=>?_);obtain ⟨-,h⟩:=h;obtain ⟨D,p,nm,way,ed,pool,rfl,hE,hp,lw,nmp,ep,pl,q⟩:=h
 refine ⟨_,(Zj (Zw (i:=3) VJ.nd rfl (Or.inl rfl) (Yi (Za (pv 2) Zc)))
   (Zj (Yv QH rfl (Ju (pv 1)) (ZW (i:=4) VJ.nd rfl (Or.inl rfl))
    (Zj (Zw (i:=5) VJ.nd rfl (Or.inl rfl) Ui)
   (Zj (Yv QH rfl (Xa (pv 3)) (ZW (i:=6) VJ.nd rfl (Or.inl rfl))
    (Zl (Yv QH rfl (Xa (UP (ZV hr) (pv 0) (ZY (Za (pv 4) (Za (pv 6) Zc))) (Yi Zc) ⟨rfl,rfl,rfl,rfl⟩)) (ZW (i:=7) VJ.nd rfl (Or.inl rfl))
    (Zl (XQ (ZV hr) (pv 5) (pv 7) Y5 rfl)))))
   (Zl (Zw (i:=3) VJ.nd rfl (Or.inl rfl) (ZN (Zjq rfl) (by rfl) T.n_sorted Zc9 (Za (pv 5) Zc)))))))
   (Zl (Zy (pv 3))))),?_⟩
 refine ⟨_,rfl,few rfl,fun L0 nL0=>⟨_,rfl,p,rfl,⟨_,(Zk nL0).sqt hp⟩,Zbl (xs:=way.map V.str) (fun i σ Hc=>∃(L:Addr) (xs:List Str) (v4 v5 v6 v7:Option V),σ=[some (.ref D),some (.ref p),some (.str nm),some (.ref L),v4,v5,v6,v7]∧Same H Hc∧H L=none∧Hc L=some (.lst (xs.map V.str))∧SrtOf (Z9 (fun s n=>lk ed (s,n)) (way.take i) (·=nm)) xs) ?start ?list ?turn ?done⟩⟩
 case start=>exact ⟨L0,[nm],_,_,_,_,rfl,Zk nL0,nL0,Zg,⟨by simp,by simp,fun x=>by simp [Z9]⟩⟩
 case list =>
  rintro i σ Hc _ ⟨L,xs,v4,v5,v6,v7,rfl,sc,_⟩;exact sc.sqt hp
 case done =>
  rintro σ Hc ⟨L,xs,v4,v5,v6,v7,rfl,sc,nL,hL,srt⟩;rw [Qd,Ra] at srt;exact ⟨_,rfl,q _ L xs sc nL hL srt⟩
 case turn =>
  rintro i y σ Hc hy ⟨L,xs,v4,v5,v6,v7,rfl,sc,nL,hL,srt⟩;obtain ⟨s,hs,rfl⟩:=Wu hy;have tk:way.take (i+1)=way.take i++[s]:=by rw [Rh,hs];rfl
  refine fun c nc=>?_;have ncH:=ZJ sc nc;have s1:=Zk (o:=.dK []) nc;have hL1:=s1 _ _ hL;have cL:c≠L:=fun z=>by rw [z,hL] at nc;cases nc
  refine ⟨_,rfl,L,rfl,⟨_,.of hL1⟩,Wp (xs:=xs.map V.str) (fun j σ Hj=>∃(cs:List (Str×V)) (v6 v7:Option V),σ=[some (.ref D),some (.ref p),some (.str nm),some (.ref L),some (.str s),some (.ref c),v6,v7]∧Same H Hj∧Hj L=some (.lst (xs.map V.str))∧Hj c=some (.dK (YM cs))∧(cs.map (·.1)).Nodup∧∀x,x∈cs.map (·.1)↔∃y,y∈xs.take j∧x∈lk ed (s,y)) ?st ?li ?tu ?dn⟩
  case st=>exact ⟨[],_,_,rfl,sc.trans s1,hL1,Zg,by simp,fun x=>by simp⟩
  case li =>
   rintro j σ Hj _ ⟨cs,v6,v7,rfl,_,hLj,_⟩;exact .of hLj
  case dn =>
   rintro σ Hj ⟨cs,v6,v7,rfl,sj,hLj,hcj,ndj,memj⟩;rw [Qd,Ra] at memj
   have few2:(cs.map (·.1)).length≤60:=Qo (Zbd ndj fun x hx=>by
    obtain ⟨y,_,h⟩:=(memj x).mp hx;cases hk:ZB (s,y) ed with
    |none=>rw [VR hk] at h;cases h
    |some w=>rw [WX hE.kn (Xd hk)] at h;exact ep _ (Xd hk) x h) pl
   refine ⟨_,rfl,c,cs,rfl,hcj,by rw [Qd] at few2;omega,fun D5 zs nD5 hp5 J2=>⟨D5,zs,_,_,_,_,rfl,sj.trans (Zk nD5),ZJ sj nD5,Zg,⟨Zdk J2,hp5.nodup_iff.mpr ndj,fun x=>?_⟩⟩⟩;rw [hp5.mem_iff,memj,tk,ZaK];exact ⟨fun ⟨y,hy,hx⟩=>⟨y,(srt.mem y).mp hy,hx⟩,fun ⟨y,hy,hx⟩=>⟨y,(srt.mem y).mpr hy,hx⟩⟩
  case tu =>
   rintro j y σ Hj hy ⟨cs,v6,v7,rfl,sj,hLj,hcj,ndj,memj⟩;obtain ⟨y,hyx,rfl⟩:=Wu hy;have tkj:xs.take (j+1)=xs.take j++[y]:=by rw [Rh,hyx];rfl
   refine ⟨_,rfl,D,rfl,.inr ⟨_,.inl (sj _ _ hE.d)⟩,_,rfl,_,rfl,few rfl,fun t nt=>⟨few rfl,fun z nz=>?_⟩⟩;have st:=Zk (o:=.tup [.str s,.str y]) nt;have sz:=Zk (o:=.lst []) nz;have s2:=st.trans sz;have g:=DGet.t (k:=Zo (s,y)) ((sj.trans s2) _ _ hE.d) (sz _ _ (Zg (o:=.tup [.str s,.str y])));rw [Wb] at g;have sj2:=sj.trans s2;have hz2:Zb (Zb Hj t (.tup [.str s,.str y])) z (.lst []) z=some (.lst []):=Zg;generalize Zb (Zb Hj t (.tup [.str s,.str y])) z (.lst [])=H2 at *;refine ⟨_,g,?_⟩
   obtain ⟨b,zs,eb,hb2,ez⟩:∃(b:Addr) (zs:List Str),((ZB (s,y) ed).map fun q=>V.ref q.1).getD (V.ref z)=V.ref b∧H2 b=some (.lst (zs.map V.str))∧lk ed (s,y)=zs:=by
    cases hk:ZB (s,y) ed with
    |none=>exact ⟨z,[],rfl,hz2,VR hk⟩
    |some w=>exact ⟨w.1,w.2,rfl,(hE.mono sj2).l _ (Xd hk),WX hE.kn (Xd hk)⟩
   have hLj2:=s2 _ _ hLj;have hcj2:=s2 _ _ hcj;have bc:b≠c:=fun e=>by rw [e,hcj2] at hb2;cases hb2
   refine ⟨b,eb,⟨_,.of hb2⟩,Wp (xs:=zs.map V.str) (fun l σ Hl=>∃(cs2:List (Str×V)) (v7:Option V),σ=[some (.ref D),some (.ref p),some (.str nm),some (.ref L),some (.str s),some (.ref c),some (.str y),v7]∧Same H Hl∧Hl L=some (.lst (xs.map V.str))∧Hl c=some (.dK (YM cs2))∧Hl b=some (.lst (zs.map V.str))∧(cs2.map (·.1)).Nodup∧∀x,x∈cs2.map (·.1)↔x∈cs.map (·.1)∨x∈zs.take l) ?st3 ?li3 ?tu3 ?dn3⟩
   case st3=>exact ⟨cs,_,rfl,sj2,hLj2,hcj2,hb2,ndj,fun x=>by simp⟩
   case li3 =>
    rintro l σ Hl _ ⟨cs2,v7,rfl,_,_,_,hbl,_⟩;exact .of hbl
   case dn3 =>
    rintro σ Hl ⟨cs2,v7,rfl,sl,hLl,hcl,hbl,ndl,meml⟩;rw [Qd,Ra] at meml;refine ⟨cs2,_,_,rfl,sl,hLl,hcl,ndl,fun x=>?_⟩;rw [meml,memj,tkj];constructor
    ·rintro (⟨z,h1,h2⟩|h)
     ·exact ⟨z,Rq _ h1,h2⟩
     ·exact ⟨y,by simp,by rw [ez];exact h⟩
    ·rintro ⟨z,h1,h2⟩;rcases Qq.mp h1 with h1|h1
     ·exact .inl ⟨z,h1,h2⟩
     ·rw [show z=y by simpa using h1,ez] at h2;exact .inr h2
   case tu3 =>
    rintro l x σ Hl hx ⟨cs2,v7,rfl,sl,hLl,hcl,hbl,ndl,meml⟩;obtain ⟨x,hxz,rfl⟩:=Wu hx;have tkl:zs.take (l+1)=zs.take l++[x]:=by rw [Rh,hxz];rfl
    have inP:∀x∈cs2.map (·.1),x∈pool:=fun x hx2=>by
     have go:∀y',x∈lk ed (s,y')->x∈pool:=fun y' h=>by
      cases hk:ZB (s,y') ed with
      |none=>rw [VR hk] at h;cases h
      |some w=>rw [WX hE.kn (Xd hk)] at h;exact ep _ (Xd hk) x h
     rcases (meml x).mp hx2 with h|h
     ·obtain ⟨z,_,h2⟩:=(memj x).mp h;exact go z h2
     ·exact go y (by rw [ez];exact R9 h)
    have len2:(YM cs2).length≤60:=by rw [Zc8];exact Qo (Zbd ndl inP) pl
    refine ⟨_,rfl,_,rfl,c,_,rfl,DPut.k (k:=.inr x) hcl (Zz (by omega)),?_⟩;rw [Zfz];refine ⟨Zp cs2 x (.bl true),_,rfl,fun e u h=>?_,?_,Zg,?_,Zck ndl,fun x'=>?_⟩
    ·rw [Zd (fun z=>by subst z;rw [ncH] at h;cases h)];exact sl _ _ h
    ·rw [Zd cL.symm];exact hLl
    ·rw [Zd bc];exact hbl
    ·rw [Zhg,meml,tkl,Qq,Re,or_assoc]
theorem Ziu (T:Tx K w mg)  : Zf7 P base T:=by
 refine Fun.okX (k:=0) T.Zbn.F Jv (fun vs H Q E h=>h.1) (fun cdv A outer s H vs Q E hr h=>?_);obtain ⟨-,h⟩:=h;obtain ⟨p,way,rfl,hp,h9,lw,q⟩:=h
 refine ⟨_,(Zj (Zw (i:=1) Jv.nd rfl (Or.inl rfl) (Yi Zc))
   (Zj (Yv QH rfl (ZoB K (by rfl) T.n_reversed (Za (pv 0) Zc)) (ZW (i:=2) Jv.nd rfl (Or.inl rfl))
    (Zj (ZI (ZA VQ (pv 2) (Yi (Za Zs (Za Zs (Za Zs Zc)))) (by rfl)) (Zl (Zw (i:=2) Jv.nd rfl (Or.inl rfl) (ZaI K NX NI PySem.F.type_str_lower Zgz (pv 2)))) (Zl (ZI (ZA VQ (pv 2) (Yi (Za Zs (Za Zs (Za Zs Zc)))) (by rfl)) (Zl (Zw (i:=2) Jv.nd rfl (Or.inl rfl) (ZaI K NX PySem.F.slot_str_upper PySem.F.type_str_upper Zlk (pv 2)))) ZK)))
   (Zl (Yc (X7 Ri Ro Rp XU (pv 1) (Za (pv 2) Zc))))))
   (Zl (Zy (VX ZfG (by rfl) T.n_tuple ZdC (Za (pv 1) Zc)))))),?_⟩
 refine ⟨few rfl,fun L1 n1=>?_⟩;have e1:=Zk (o:=.lst []) n1;dsimp only [ZX];refine ⟨_,rfl,p,_,rfl,e1.sqt hp,ZnX (xs:=way.map V.str) (fun i σ Hc=>∃v2,σ=[some (.ref p),some (.ref L1),v2]∧Same H Hc∧Hc L1=some (.lst (((way.reverse.take i).map YU).map V.str))) ?st ?li ?tu ?dn⟩
 case st=>exact ⟨_,rfl,e1,Zg⟩
 case li =>
  rintro i σ Hc _ ⟨v2,rfl,sc,hL⟩;exact sc.sqt hp
 case dn =>
  rintro σ Hc ⟨v2,rfl,sc,hL⟩;rw [Qd,←RH,Ra] at hL;exact ⟨_,rfl,L1,_,rfl,.inl ⟨.of hL,fun p' np=>q _ p' (sc.trans (Zk np)) (ZJ sc np) (.of Zg)⟩⟩
 case tu =>
  rintro i y σ Hc hy ⟨v2,rfl,sc,hL⟩;rw [←List.map_reverse] at hy;obtain ⟨s,hs,rfl⟩:=Wu hy;have il:=(QI.mp hs).1;rw [RH] at il;have s9:=h9 s (List.mem_reverse.mp (QD hs));have tk:way.reverse.take (i+1)=way.reverse.take i++[s]:=by rw [Rh,hs];rfl
  dsimp only [ZX];refine YL (fun σ Hx=>σ=[some (.ref p),some (.ref L1),some (.str (YU s))]∧Same Hc Hx) (fun nx rest=>?_) ?_
  ·refine ⟨_,rfl,few rfl,fun La na=>?_⟩;have ea:=Zk (o:=.lst ((["F","M","T"]:List Str).map V.str)) na;refine ⟨La,_,rfl,.inl (.of Zg),rfl,by rfl,_,rfl,?_⟩;by_cases hF:s∈(["F","M","T"]:List Str)
   ·refine Z0 (by show YV (.str s) ((["F","M","T"]:List Str).map V.str)=true;rw [WI];exact Qm hF) ⟨_,rfl,rfl,s,rfl,rfl,ZfE s9,rest _ _ ⟨?_,ea⟩⟩;rw [show YU s=Txt.lower s from Qc hF];rfl
   refine Zt (by show YV (.str s) ((["F","M","T"]:List Str).map V.str)=false;rw [WI];exact Qj hF) ⟨_,rfl,few rfl,fun Lb nb=>?_⟩;have eb:=Zk (o:=.lst ((["f","m","t"]:List Str).map V.str)) nb;refine ⟨Lb,_,rfl,.inl (.of Zg),rfl,by rfl,_,rfl,?_⟩;by_cases hf:s∈(["f","m","t"]:List Str)
   ·refine Z0 (by show YV (.str s) ((["f","m","t"]:List Str).map V.str)=true;rw [WI];exact Qm hf) ⟨_,rfl,rfl,s,rfl,rfl,ZfE s9,rest _ _ ⟨?_,ea.trans eb⟩⟩;rw [show YU s=Txt.upper s from (Qa hF).trans (Qc hf)];rfl
   ·refine Zt (by show YV (.str s) ((["f","m","t"]:List Str).map V.str)=false;rw [WI];exact Qj hf) (rest _ _ ⟨?_,ea.trans eb⟩);rw [show YU s=s from (Qa hF).trans (Qa hf)];rfl
  rintro σ Hx ⟨rfl,sx⟩;have hLx:=sx _ _ hL;refine ⟨_,rfl,.inl ⟨rfl,_,.of hLx⟩,_,rfl,L1,_,_,rfl,rfl,hLx,Zz (by simp;omega),_,rfl,fun c u h=>?_,?_⟩
  ·rw [Zd (fun z=>by rw [z,n1] at h;cases h)];exact sx _ _ (sc _ _ h)
  ·rw [Zg,tk,Qr,Qr];rfl
theorem Zj5 (T:Tx K w mg)  : ZeA P base T:=by
 refine Fun.okX (k:=0) T.Zae.F ZdH (fun vs H Q E h=>h.1) (fun cdv A outer s H vs Q E hr h=>?_);obtain ⟨-,h⟩:=h;obtain ⟨D,p,lf,one,other,ed,way,W,rfl,hE,hp,hf,wk,lw,q⟩:=h
 refine ⟨_,(Zj (ZI (PW.pt (XB (Xk (YZ (Xv K (by rfl) T.n_isinstance (Za (pv 2) (Za (XZ (v:=.ty "list") (by rfl) T.n_list UZ rfl) Zc))))) (Wd (ZA WB (ZN Yw (by rfl) T.n_len Yd (Za (pv 2) Zc)) (Zn YE (ZN Yw (by rfl) T.n_len Yd (Za (pv 1) Zc)) Ze) (Zu _))))) (Zl (Zy Y5)) ZK)
   (Zj (Yv QH rfl (Xa (pv 2)) (ZW (i:=5) ZdH.nd rfl (Or.inl rfl))
    (Zl (ZI (Xk (YZ (Xv K (by rfl) T.n_isinstance (Za (pv 5) (Za (XZ (v:=.ty "str") (by rfl) T.n_str Vi rfl) Zc))))) (Zl (Zy Y5)) ZK)))
   (Zj (ZI (PW.pt (XB (ZA WB (Zm Ym (pv 2) Ze (fun _ _=>rfl)) (pv 3) (Zu _)) (Wd (ZA WB (Zm Ym (pv 2) (Jw U7 Ze) (fun _ _=>rfl)) (pv 4) (Zu _))))) (Zl (Zy Y5)) ZK)
   (Zj (Yv QH rfl (Vn (by rfl) T.n_range (Za (ZN Yw (by rfl) T.n_len Yd (Za (pv 1) Zc)) Zc)) (ZW (i:=6) ZdH.nd rfl (Or.inl rfl))
    (Zl (ZI (ZA ZgW (Zm Ym (pv 2) (Zn YE (pv 6) Ze) (fun _ _=>rfl)) (UP (ZV hr) (pv 0) (ZY (Za (Zm Zq (pv 1) (pv 6) (fun _ _=>rfl)) (Za (Zm Ym (pv 2) (pv 6) (fun _ _=>rfl)) Zc))) (Yi Zc) ⟨rfl,rfl,rfl,rfl⟩) (by rfl)) (Zl (Zy Y5)) ZK)))
   (Zl (Zy Y5)))))),?_⟩
 have wln:=wk.len;refine ⟨_,rfl,_,.ty "list",_,_,rfl,rfl,.sql hf,T.kl_list,_,rfl,Zt (by rfl) ⟨_,rfl,lf,_,rfl,.inl hf,_,rfl,p,_,rfl,.inr hp,_,_,rfl,rfl,rfl,_,rfl,Zt (by rw [Qd,Qd,wln];simp) ?_⟩⟩;dsimp only [ZX];refine ⟨_,rfl,lf,rfl,⟨_,hf⟩,Wp (xs:=W.map V.str) (fun i σ Hc=>Hc=H∧∃v5,σ=[some (.ref D),some (.ref p),some (.ref lf),some (.str one),some (.str other),v5,none]) ⟨rfl,_,rfl⟩ ?l1 ?t1 ?d1⟩
 case l1 =>
  rintro i σ Hc _ ⟨rfl,_⟩;exact hf
 case t1 =>
  rintro i y σ Hc hy ⟨rfl,v5,rfl⟩;obtain ⟨y,hy,rfl⟩:=Wu hy;exact ⟨_,rfl,_,.ty "str",_,_,rfl,rfl,.of (.str _),T.k_str_str,_,rfl,Zt (by rfl) ⟨rfl,_,rfl⟩⟩
 case d1 =>
 rintro σ Hc ⟨rfl,v5,rfl⟩;refine ⟨_,rfl,lf,_,_,_,rfl,rfl,hf,Zbf (n:=0) wk.hd,_,rfl,rfl,_,rfl,Zt (by simp) ⟨_,rfl,1,rfl,lf,_,-1,_,rfl,rfl,hf,ZoO wln wk.tl,_,rfl,rfl,_,rfl,Zt (by simp) ?_⟩⟩;dsimp only [ZX];refine ⟨_,rfl,p,_,rfl,.inr hp,_,rfl,by omega,by rw [Qd];omega,VU (fun i σ Hx=>Same Hc Hx∧∃v6,σ=[some (.ref D),some (.ref p),some (.ref lf),some (.str one),some (.str other),v5,v6]) ⟨Same.refl _,_,rfl⟩ ?t2 ?d2⟩
 case d2 =>
  rintro σ Hx ⟨sx,v6,rfl⟩;exact q _ sx
 case t2 =>
  rintro i σ Hx hi ⟨sx,v6,rfl⟩;rw [Qd] at hi;have il:i<way.length:=by omega
  rw [show (0:Int)+(i:Int)=i from Gn _];have w1:way[i]?=some way[i]:=Qx il;have w2:W[i]?=some W[i]:=Qx (by omega);have w3:W[i+1]?=some W[i+1]:=Qx (by omega);have hst:=wk.st i _ _ _ w1 w2 w3;obtain ⟨s,es⟩:∃z,z=way[i]:=⟨_,rfl⟩;obtain ⟨y,ey⟩:∃z,z=W[i]:=⟨_,rfl⟩;obtain ⟨x,ex⟩:∃z,z=W[i+1]:=⟨_,rfl⟩;rw [←es] at w1 hst;rw [←ey] at w2 hst;rw [←ex] at w3 hst;have a3:=Zbf w3;rw [show ((i+1:Nat):Int)=(i:Int)+1 by omega] at a3;refine ⟨_,rfl,_,rfl,_,_,rfl,rfl,lf,_,_,_,rfl,rfl,sx.sql hf,a3,_,rfl,D,rfl,.inr ⟨_,.inl (sx _ _ hE.d)⟩,_,rfl,_,rfl,p,_,_,_,rfl,rfl,sx.sqt hp,Zbf w1,_,rfl,_,rfl,lf,_,_,_,rfl,rfl,sx.sql hf,Zbf w2,few rfl,fun t nt=>⟨few rfl,fun z nz=>?_⟩⟩;have st:=Zk (o:=.tup [.str s,.str y]) nt;have sz:=Zk (o:=.lst []) nz;have s2:=sx.trans (st.trans sz);have g:=DGet.t (k:=Zo (s,y)) (s2 _ _ hE.d) (sz _ _ (Zg (o:=.tup [.str s,.str y])));rw [Wb] at g;have hz2:Zb (Zb Hx t (.tup [.str s,.str y])) z (.lst []) z=some (.lst []):=Zg;generalize Zb (Zb Hx t (.tup [.str s,.str y])) z (.lst [])=H2 at *;refine ⟨_,g,?_⟩
  obtain ⟨b,zs,eb,hb2,ez⟩:∃(b:Addr) (zs:List Str),((ZB (s,y) ed).map fun q=>V.ref q.1).getD (V.ref z)=V.ref b∧H2 b=some (.lst (zs.map V.str))∧lk ed (s,y)=zs:=by
   cases hk:ZB (s,y) ed with
   |none=>exact ⟨z,[],rfl,hz2,VR hk⟩
   |some w=>exact ⟨w.1,w.2,rfl,(hE.mono s2).l _ (Xd hk),WX hE.kn (Xd hk)⟩
  refine ⟨b,_,eb,.inl (.of hb2),rfl,ZcU _,_,rfl,Zt ?_ ⟨s2,_,rfl⟩⟩;show (!YV (.str x) (zs.map V.str))=false;have hst':x∈zs:=ez▸hst;rw [WI,Qm hst'];rfl
theorem Zlr (T:Tx K w mg) (Ve:Zdh P base T) (V8:ZbI P base T) (Zdn:Zf7 P base T) (U2:ZeA P base T):Zhw P base T:=by
 refine Fun.okX (k:=7) T.Zat.F UN (fun vs H Q E h=>h.1) (fun cdv A outer s H vs Q E hr h=>?_);obtain ⟨-,h⟩:=h;obtain ⟨v,D,p,one,other,B,ed,pool,way,rfl,hB,lam,hE,hp,h9,lw,k1,k2,cl,agr,iv,inP,q⟩:=h
 refine ⟨_,(Zj (Zw (i:=5) UN.nd rfl (Or.inl rfl) (ZR Zdn hr ZF (Za (pv 2) Zc)))
   (Zj (Zw (i:=6) UN.nd rfl (Or.inl rfl) (ZR Ve hr ZF (Za (pv 0) (Za (pv 2) (Za (pv 3) (Za (pv 4) Zc))))))
   (Zj (Zw (i:=7) UN.nd rfl (Or.inl rfl) (ZR Ve hr ZF (Za (pv 0) (Za (pv 5) (Za (pv 4) (Za (pv 3) Zc))))))
   (Zj (ZI (ZA ZgW (pv 4) (ZR V8 hr ZF (Za (pv 1) (Za (pv 2) (Za (pv 3) Zc)))) (by rfl)) (Zl (Zy (Xr (YJ Zdj (pv 6) Vp (Zu _)) (Xq (YJ Zdj (pv 7) Vp (Zu _)))))) ZK)
   (Zj (ZI (PW.pt (XB (Xk (YZ (ZR U2 hr ZF (Za (pv 1) (Za (pv 2) (Za (pv 6) (Za (pv 3) (Za (pv 4) Zc)))))))) (Wd (Xk (YZ (ZR U2 hr ZF (Za (pv 1) (Za (pv 5) (Za (pv 7) (Za (pv 4) (Za (pv 3) Zc))))))))))) (Zl (Zy Y5)) ZK)
   (Zj (Zw (i:=8) UN.nd rfl (Or.inl rfl) (VX Ze2 (by rfl) T.n_list UZ (Za (pv 6) Zc)))
   (Zj (Yc (X7 Ri Ro Rp XU (pv 6) (Za Zs Zc)))
   (Zj (Yc (Zg7 Ri PySem.F.slot_list_clear PySem.F.type_list_clear Zmn (pv 7)))
   (Zj (Zw (i:=9) UN.nd rfl (Or.inl rfl) (ZR Ve hr ZF (Za (pv 0) (Za (pv 2) (Za (pv 3) (Za (pv 4) Zc))))))
   (Zl (Zy (Xr (ZR U2 hr ZF (Za (pv 1) (Za (pv 2) (Za (pv 9) (Za (pv 3) (Za (pv 4) Zc)))))) (Xr (YJ (Zem hr.units) (pv 6) (Zn Zb5 (pv 8) (Yi (Za Zs Zc))) (Zu _)) (Xq (YJ (Zem hr.units) (pv 7) (Yi Zc) (Zu _)))))))))))))))),?_⟩
 have b9:=ZhJ h9;have bl:=ZiP way
 have back:Z9 (Z5 B) way (·=one) other↔Z9 (Z5 B) (Xh way) (·=other) one:=by
  rw [Zaq cl agr h9 k1,Zaq cl agr b9 k2];exact Zb4 (L:=fun s n=>lk ed (s,n)) iv h9
 have ll:=cl.few;refine ⟨_,rfl,rfl,p,way,rfl,hp,h9,by omega,fun H1 pb s1 npb hpb=>?_⟩;dsimp only [ZX];have hp1:=s1.sqt hp;by_cases hr:Z9 (Z5 B) way (·=one) other
 case neg =>
  have hrb:¬Z9 (Z5 B) (Xh way) (·=other) one:=fun z=>hr (back.mpr z);refine ⟨_,rfl,_,rfl,_,rfl,_,rfl,rfl,v,p,.str one,.str other,way,B,rfl,hB.mono s1,lam.same s1,hp1,.inr ⟨one,rfl,k1,.inr ⟨other,pool,rfl,k2,cl,h9,by omega,fun _ H2 x2 lam2=>?_,fun r=>absurd r hr⟩⟩⟩;dsimp only [ZX];have hB2:=BkHas.monoX (hB.mono s1) x2;refine ⟨_,rfl,_,rfl,_,rfl,_,rfl,rfl,v,pb,.str other,.str one,Xh way,B,rfl,hB2,lam2,x2.sqt hpb,.inr ⟨other,rfl,k2,.inr ⟨one,pool,rfl,k1,cl,b9,by omega,fun _ H3 x3 lam3=>?_,fun r=>absurd r hrb⟩⟩⟩;dsimp only [ZX];have x13:=s1.x.trans (x2.trans x3);refine ⟨_,rfl,_,rfl,_,rfl,_,rfl,rfl,D,p,one,way,ed,pool,rfl,hE.monoX x13,x13.sqt hp,by omega,cl.inp _ k1,inP,cl.few,fun H4 D4 xs s4 nD4 hD4 srt=>?_⟩;have nin:other∉xs:=fun z=>hr ((Zaq cl agr h9 k1).mpr ((srt.mem other).mp z));refine ⟨D4,_,rfl,.inl (.of hD4),rfl,ZcU _,_,rfl,Z0 ?_ ?_⟩
  ·show (!YV (.str other) (xs.map V.str))=true;rw [WI,Qj nin];rfl
  exact ⟨_,rfl,rfl,_,rfl,Z0 (by rfl) ⟨_,rfl,rfl,q _ (x13.trans s4.x) (lam3.same s4)⟩⟩
 have hrb:=back.mp hr;refine ⟨_,rfl,_,rfl,_,rfl,_,rfl,rfl,v,p,.str one,.str other,way,B,rfl,hB.mono s1,lam.same s1,hp1,.inr ⟨one,rfl,k1,.inr ⟨other,pool,rfl,k2,cl,h9,by omega,fun r=>absurd hr r,fun _ H2 D1 W1 x2 lam2 nD1 hD1 wk1=>?_⟩⟩⟩;dsimp only [ZX];have hB2:=BkHas.monoX (hB.mono s1) x2;refine ⟨_,rfl,_,rfl,_,rfl,_,rfl,rfl,v,pb,.str other,.str one,Xh way,B,rfl,hB2,lam2,x2.sqt hpb,.inr ⟨other,rfl,k2,.inr ⟨one,pool,rfl,k1,cl,b9,by omega,fun r=>absurd hrb r,fun _ H3 D2 W2 x3 lam3 nD2 hD2 wk2=>?_⟩⟩⟩;dsimp only [ZX];have x13:=s1.x.trans (x2.trans x3);have hD13:=x3 _ _ rfl hD1;have hpb3:=x3.sqt (x2.sqt hpb);refine ⟨_,rfl,_,rfl,_,rfl,_,rfl,rfl,D,p,one,way,ed,pool,rfl,hE.monoX x13,x13.sqt hp,by omega,cl.inp _ k1,inP,cl.few,fun H4 D4 xs s4 nD4 hD4 srt=>?_⟩;have inn:other∈xs:=(srt.mem other).mpr ((Zaq cl agr h9 k1).mp hr);refine ⟨D4,_,rfl,.inl (.of hD4),rfl,ZcU _,_,rfl,Zt (by show (!YV (.str other) (xs.map V.str))=false;rw [WI,Qm inn];rfl) ?_⟩;dsimp only [ZX];have x14:=x13.trans s4.x;have wk1':Wkd (fun s n=>lk ed (s,n)) way one W1 other:=wk1.congr (R:=Known B) h9 agr cl.led k1;have wk2':Wkd (fun s n=>lk ed (s,n)) (Xh way) other W2 one:=wk2.congr (R:=Known B) b9 agr cl.led k2;have D21:D2≠D1:=fun z=>by rw [z,hD1] at nD2;cases nD2
 refine ⟨_,rfl,_,rfl,_,rfl,_,rfl,_,rfl,rfl,D,p,D1,one,other,ed,way,W1,rfl,hE.monoX x14,x14.sqt hp,.of (s4 _ _ hD13),wk1',by omega,fun H5 s5=>⟨_,rfl,Zt (by rfl) ?_⟩⟩;have s45:=s4.trans s5;refine ⟨_,rfl,_,rfl,_,rfl,_,rfl,_,rfl,rfl,D,pb,D2,other,one,ed,Xh way,W2,rfl,hE.monoX (x13.trans s45.x),s45.sqt hpb3,.of (s45 _ _ hD2),wk2',by omega,fun H6 s6=>⟨_,rfl,Zt (by rfl) ?_⟩⟩;dsimp only [ZX];have s46:=s45.trans s6;have hD16:=s46 _ _ hD13;have hD26:=s46 _ _ hD2;have W1l:W1.length≤13:=by have:=wk1.len;omega
 refine ⟨_,rfl,D1,_,rfl,.inl (.of hD16),fun L8 n8=>?_⟩;dsimp only [ZX];have e8:=Zk (o:=.lst (W1.map V.str)) n8;have hD18:=e8 _ _ hD16;have L81:L8≠D1:=fun z=>by rw [z,hD16] at n8;cases n8
 have L82:L8≠D2:=fun z=>by rw [z,hD26] at n8;cases n8
 refine ⟨_,rfl,.inl ⟨rfl,_,.of hD18⟩,D1,_,_,rfl,rfl,hD18,Zz (by rw [Qd];omega),?_⟩;have hD28:Zb (Zb H6 L8 (.lst (W1.map V.str))) D1 (.lst (W1.map V.str++[.str "a"])) D2=some (.lst (W2.map V.str)):=by rw [Zd D21];exact e8 _ _ hD26
 refine ⟨_,rfl,.inl ⟨rfl,_,.of hD28⟩,D2,_,rfl,rfl,hD28,?_⟩;have x6:=x13.trans (s46.trans e8).x;have xm:=SameX.updL (D:=D2) (o:=.lst []) (SameX.updL (D:=D1) (o:=.lst (W1.map V.str++[.str "a"])) x6 (SameX.non s1.x nD1)) (SameX.non (s1.x.trans x2) nD2);have lamm:=LamH.updL (LamH.updL (LamH.same lam3 (s46.trans e8)) hD18 (o:=.lst (W1.map V.str++[.str "a"]))) hD28 (o:=.lst []);have h1m:Zb (Zb (Zb H6 L8 (.lst (W1.map V.str))) D1 (.lst (W1.map V.str++[.str "a"]))) D2 (.lst []) D1=some (.lst (W1.map V.str++[.str "a"])):=by rw [Zd D21.symm,Zg]
 have h8m:Zb (Zb (Zb H6 L8 (.lst (W1.map V.str))) D1 (.lst (W1.map V.str++[.str "a"]))) D2 (.lst []) L8=some (.lst (W1.map V.str)):=by rw [Zd L82,Zd L81,Zg]
 have h2m:Zb (Zb (Zb H6 L8 (.lst (W1.map V.str))) D1 (.lst (W1.map V.str++[.str "a"]))) D2 (.lst []) D2=some (.lst []):=Zg;generalize Zb (Zb (Zb H6 L8 (.lst (W1.map V.str))) D1 (.lst (W1.map V.str++[.str "a"]))) D2 (.lst [])=Hm at *;dsimp only [ZX];refine ⟨_,rfl,_,rfl,_,rfl,_,rfl,rfl,v,p,.str one,.str other,way,B,rfl,BkHas.monoX hB xm,lamm,xm.sqt hp,.inr ⟨one,rfl,k1,.inr ⟨other,pool,rfl,k2,cl,h9,by omega,fun r=>absurd hr r,fun _ H9 D9 W9 x9 lam9 nD9 hD9 wk9=>?_⟩⟩⟩;dsimp only [ZX];have x19:=xm.trans x9;have wk9':Wkd (fun s n=>lk ed (s,n)) way one W9 other:=wk9.congr (R:=Known B) h9 agr cl.led k1;refine ⟨_,rfl,_,rfl,_,rfl,_,rfl,_,rfl,rfl,D,p,D9,one,other,ed,way,W9,rfl,hE.monoX x19,x19.sqt hp,.of hD9,wk9',by omega,fun H10 s10=>⟨_,rfl,Z0 (by rfl) ?_⟩⟩;have h1:=s10 _ _ (x9 _ _ rfl h1m);have h2:=s10 _ _ (x9 _ _ rfl h2m);have h8:=s10 _ _ (x9 _ _ rfl h8m);refine ⟨_,rfl,_,rfl,few rfl,fun La na=>?_⟩;have ea:=Zk (o:=.lst [.str "a"]) na;refine ⟨L8,La,_,_,rfl,rfl,ea _ _ h8,Zg,QY (Zz (by rw [Qd];simp;omega)),fun Lc nc=>?_⟩;have ec:=Zk (o:=.lst (W1.map V.str++[.str "a"])) nc;have eW:W1.map V.str++[V.str "a"]=(W1++[("a" : Str)]).map V.str:=by rw [Qr];rfl
 have eac:=ea.trans ec;refine ⟨D1,Lc,W1++[("a" : Str)],rfl,rfl,by rw [←eW];exact .of (eac _ _ h1),by rw [←eW];exact .of Zg,_,rfl,Z0 (by rfl) ⟨_,rfl,few rfl,fun Le ne=>?_⟩⟩;have ee:=Zk (o:=.lst []) ne;exact ⟨D2,Le,[],rfl,rfl,.of (ee _ _ (eac _ _ h2)),.of Zg,q _ (x19.trans (s10.trans (eac.trans ee)).x) (LamH.same lam9 (s10.trans (eac.trans ee)))⟩
theorem ZkP (T:Tx K w mg) (Ve:Zdh P base T):Zgu P base T:=by
 refine Fun.okX (k:=7) T.Zaw.F Zaz (fun vs H Q E h=>h.1) (fun cdv A outer s H vs Q E hr h=>?_);obtain ⟨-,h⟩:=h;obtain ⟨v,p,x,y,way,B,rfl,hB,lt,hp,nb,q⟩:=h
 refine ⟨_,(Zj (Zw (i:=4) Zaz.nd rfl (Or.inl rfl) Y5)
   (Zj (Zia rfl rfl (by rfl) T.m_NoPerson T.x_NoPerson EBb (i:=5) Zaz.nd rfl rfl (fun pins W E hE=>(Zl (Yc (ZR Ve hr hE (Za (pv 0) (Za (pv 1) (Za (pv 2) (Za (pv 3) Zc)))))))) (fun pins e=>(Zl (Zw (i:=4) Zaz.nd rfl (Or.inl rfl) (Xv K (by rfl) T.n_isinstance (Za (pv 5) (Za (VN (v:=.ref T.c_HeirError) (by rfl) T.m_HeirError rfl) Zc)))))))
   (Zl (Zy (pv 4))))),?_⟩
 dsimp only [ZX,ZaN,Zbk,tC];refine Zo5 (σ':=[some v,some (.ref p),some x,some y,some (.bl false),none]) (H:=H) (fun H1 e s1 he=>?_) (fun E' caught=>?_)
 ·exact ⟨_,rfl,_,.ref T.c_HeirError,_,_,rfl,rfl,.exc T.e_NoPerson Zg,T.kx_HeirError,_,rfl,q _ (s1.trans (Zk he))⟩
 ·refine ⟨_,rfl,_,rfl,_,rfl,_,rfl,rfl,v,p,x,y,way,B,rfl,hB,lt,hp,?_⟩;rcases nb with nb|⟨n,rfl,kn,nb⟩
  ·exact .inl ⟨nb,caught _ (Same.refl _)⟩
  ·exact .inr ⟨n,rfl,kn,.inl ⟨nb,caught _ (Same.refl _)⟩⟩
theorem ZmJ (T:Tx K w mg) (Zbu:Zhn P base T) (ZcV:Zga P base T) (X2:J4 P base T) (ZdN:Zhu P base T) (ZbF:ZfT P base T) (Zb9:ZeF P base T) (V8:ZbI P base T) (ZdY:Zhw P base T) (U6:Zgu P base T):ZgU P base T:=by
 refine Fun.okX (k:=8) T.V0.F XA (fun vs H Q E h=>h.1) (fun cdv A outer s H vs Q E hr h=>?_);obtain ⟨-,h⟩:=h;obtain ⟨l,ss,rfl,hl,l63,lam,q⟩:=h
 refine ⟨_,(Zj (Zw (i:=1) XA.nd rfl (Or.inl rfl) (ZR ZdN hr ZF (Za (pv 0) (Za Ze Zc))))
   (Zj (Zw (i:=2) XA.nd rfl (Or.inl rfl) (ZR ZbF hr ZF (Za (pv 1) Zc)))
   (Zj (Zw (i:=3) XA.nd rfl (Or.inr rfl) (Uv rfl (XR (N:=["_law_entry"]) [] [none] rfl (by decide +kernel) (by decide +kernel) (by rfl) (by rfl) (by rfl) (by rfl) (by rfl)) (Xa (pv 1)) (fun _ _ _=>(ZW (i:=0) ZmH rfl (Or.inl rfl))) (fun _ _ _=>(WR (ZA Z1 (Zm (Uo K rfl) (pv 0) Ze (fun _ _=>rfl)) Zs (Zu _)))) (fun _ _ _=>(Zm (Uo K rfl) (pv 0) Ze (fun _ _=>rfl)))))
   (Zj (Zw (i:=4) XA.nd rfl (Or.inl rfl) (ZoQ T.mk_Book Zbu (hr.mono (by decide)) (by rfl) T.m_Book T.Uq.b .nil ZF))
   (Zj (Yv QH rfl (Xa (pv 1)) (ZW (i:=5) XA.nd rfl (Or.inl rfl))
    (Zl (Yc (Ye (pv 4) T.cl_Book T.UG.me ZcV (hr.mono (by decide)) T.UG.b .nil ZF (Za (pv 5) Zc)))))
   (Zj (Yv QH rfl (Vn (by rfl) T.n_range (Za (Zn Xz Ze (ZN (Zaj rfl) (by rfl) T.n_min VP (Za Ze (Za (ZN Yw (by rfl) T.n_len Yd (Za (pv 3) Zc)) Zc)))) Zc)) (ZW (i:=6) XA.nd rfl (Or.inr rfl))
    (Zj (Zw (i:=7) XA.nd rfl (Or.inl rfl) (Zn Y1 (ZR X2 hr ZF (Za (pv 0) (Za (Zn JP Ze (pv 6)) Zc))) (Zn YE Ze (Zn Xz Ze (pv 6)))))
   (Zj (Zw (i:=8) XA.nd rfl (Or.inl rfl) (Zm Ym (pv 3) (Zn Z8 (Zn Y1 (pv 7) Ze) (ZN Yw (by rfl) T.n_len Yd (Za (pv 3) Zc))) (fun _ _=>rfl)))
   (Zj (Zw (i:=9) XA.nd rfl (Or.inl rfl) (ZR Zb9 hr ZF (Za (pv 0) (Za (Zn Z8 (pv 7) Ze) (Za (pv 6) (Za (pv 2) (Za (pv 8) Zc)))))))
   (Zj (Vh (i:=10) rfl  XA.nd rfl (Or.inl rfl) (XR (N:=["_law_k","_law_people","_law_script","_law_j"]) ["_law_script","_law_people","_law_j"] [none,some 3,some 0,some 6] rfl (by decide +kernel) (by decide +kernel) (by rfl) (by rfl) (by rfl) (by rfl) (by rfl)) (Vn (by rfl) T.n_range (Za Ze Zc)) (fun _ _ _=>(ZW (i:=0) ZjI rfl (Or.inl rfl))) (fun _ _ _=>Jb) (fun _ _ _=>(Zm (Zjv K rfl) (pv 1) (Zn Z8 (ZR X2 hr ZF (Za (pv 2) (Za (Zn YE (Zn YE Ze (Zn Xz Ze (pv 3))) (pv 0)) Zc))) (ZN (Zlz K rfl) (by rfl) T.n_len Yd (Za (pv 1) Zc))) (fun _ _=>rfl))))
   (Zj (Yv QH rfl (Xa (Zn Zb5 (VE ZeJ (ZR V8 hr ZF (Za (pv 2) (Za (pv 9) (Za (pv 8) Zc)))) UI (Vo Ze)) (pv 10))) (ZW (i:=11) XA.nd rfl (Or.inl rfl))
    (Zl (ZI (Xk (YZ (ZR ZdY hr ZF (Za (pv 4) (Za (pv 2) (Za (pv 9) (Za (pv 8) (Za (pv 11) Zc)))))))) (Zl (Zy Y5)) ZK)))
   (Zl (Yv QH rfl (Xa (Yi (Za (pv 9) (Za (ZY Zc) (Za (ZY (Za Zs (Za Zs Zc))) Zc))))) (ZW (i:=12) XA.nd rfl (Or.inl rfl))
    (Zl (ZI (PW.pt (XB (Xk (YZ (ZR U6 hr ZF (Za (pv 4) (Za (pv 12) (Za (pv 8) (Za Zs Zc))))))) (Wd (Xk (YZ (ZR U6 hr ZF (Za (pv 4) (Za (pv 12) (Za Zs (Za (pv 8) Zc)))))))))) (Zl (Zy Y5)) ZK))))))))))
   (Zl (Zy (ZR U6 hr ZF (Za (pv 4) (Za (ZY Zc) (Za Zs (Za Zs Zc))))))))))))),?_⟩
 refine ⟨_,rfl,rfl,l,ss,rfl,hl,l63,fun H1 Le ks ns s1 nLe hLe hR N gd k30=>?_⟩;refine ⟨_,rfl,rfl,Le,ks,ns,rfl,.of hLe,hR,gd,by omega,fun H2 De ed ls s2 nDe hE hb lnd hla hlk=>?_⟩;dsimp only [ZX];have hLe2:=s2 _ _ hLe;have hR2:UJ K H2 ks:=fun p hp=>s2.sqt (hR p hp);refine ⟨_,rfl,Le,rfl,⟨_,.of hLe2⟩,Vg (ks.map Zdw) (Zz (by rw [Qd];omega)) (fun σ=>∃w,σ=[w]) ⟨_,rfl⟩ (fun j H4 hj sm=>?go) (fun H4 sm=>?stop) (fun j σ H4 x H5 z hz hσ sm hx C hC=>?step) (fun Lp H3 nLp s3 hLp=>?fin)⟩
 case go=>exact ⟨_,_,sm.sql (.of hLe2),Qx (by rw [Uw];rw [Qd] at hj;exact hj)⟩
 case stop=>exact ⟨_,sm.sql (.of hLe2),by rw [Qd,Uw];exact Qf _⟩
 case step =>
  obtain ⟨w,rfl⟩:=hσ;obtain ⟨rfl,hx2⟩:=hx;obtain ⟨p,hp,rfl⟩:=ZcD (hx2 _ (sm.sql (.of hLe2)));rw [Qw,hp] at hz;obtain rfl:=Qn hz;obtain ⟨e,a⟩:=p;have row:=sm.sqt (hR2 _ (QD hp));cases e with
  |born n s d f m =>
   exact ⟨_,rfl,a,_,_,_,rfl,rfl,row,Zh (j:=0) rfl,rfl,_,rfl,Z0 (by decide +kernel) ⟨_,rfl,a,_,_,_,rfl,rfl,row,Zh (j:=1) rfl,hC _ _ ⟨_,rfl⟩ (Same.refl _)⟩⟩
  |taken =>
   exact ⟨_,rfl,a,_,_,_,rfl,rfl,row,Zh (j:=0) rfl,rfl,_,rfl,Zt (by decide +kernel) (hC _ _ ⟨_,rfl⟩ (Same.refl _))⟩
  |union =>
   exact ⟨_,rfl,a,_,_,_,rfl,rfl,row,Zh (j:=0) rfl,rfl,_,rfl,Zt (by decide +kernel) (hC _ _ ⟨_,rfl⟩ (Same.refl _))⟩
  |parted =>
   exact ⟨_,rfl,a,_,_,_,rfl,rfl,row,Zh (j:=0) rfl,rfl,_,rfl,Zt (by decide +kernel) (hC _ _ ⟨_,rfl⟩ (Same.refl _))⟩
  |dead =>
   exact ⟨_,rfl,a,_,_,_,rfl,rfl,row,Zh (j:=0) rfl,rfl,_,rfl,Zt (by decide +kernel) (hC _ _ ⟨_,rfl⟩ (Same.refl _))⟩
  |given =>
   exact ⟨_,rfl,a,_,_,_,rfl,rfl,row,Zh (j:=0) rfl,rfl,_,rfl,Zt (by decide +kernel) (hC _ _ ⟨_,rfl⟩ (Same.refl _))⟩
 case fin =>
 rw [ZgC] at hLp;obtain ⟨pn,epn⟩:∃z,z=(ks.map (·.1)).filterMap Ent.bornName:=⟨_,rfl⟩;rw [←epn] at hLp;have hl3:=(s1.trans (s2.trans s3)).sql hl;have lam3:=lam.same (s1.trans (s2.trans s3));have hLe3:=s3 _ _ hLe2;have hR3:UJ K H3 ks:=fun p hp=>s3.sqt (hR2 p hp);have hE3:=hE.mono s3;dsimp only [ZX];refine fun b dx nb ndx nn=>⟨rfl,b,dx,rfl,Zg,fun H4 k bi li ti su hB4 keep nk nbi nli nti nsu=>⟨rfl,?_⟩⟩;have sb:Same H3 (Zb (Zb H3 dx (.own b)) b (.ins T.c_Book dx [])):=fun c o e=>by rw [Zd (ZO e nb),Zd (ZO e ndx)];exact e
 have s4:Same H3 H4:=fun c o e=>keep c o (sb c o e) (ZO e nb)
 have n5:∀c∈[k,bi,li,ti,su],H3 c=none:=fun c hc=>by
  simp only [Qh,QN,QO] at hc;rcases hc with rfl|rfl|rfl|rfl|rfl
  ·exact ZJ sb nk
  ·exact ZJ sb nbi
  ·exact ZJ sb nli
  ·exact ZJ sb nti
  ·exact ZJ sb nsu
 obtain ⟨pool,epo⟩:∃z,z=ns++[("zzzzzzzz" : Str)]:=⟨_,rfl⟩;have gdp:GdL pool (ks.map (·.1)):=gd.wide (by rw [epo];exact fun n hn=>Qq.mpr (.inl hn));have p25:pool.length=25:=by rw [epo,Qu,N.len];rfl
 refine ⟨_,rfl,Le,rfl,⟨_,.of (s4 _ _ hLe3)⟩,Wp (xs:=XH ks) (fun i σ Hc=>∃(B:Bk) (v:Option V),σ=[some (.ref l),some (.ref Le),some (.ref De),some (.ref Lp),some (.ref b),v,none,none,none,none,none,none,none]∧BkAt K T.c_Book Hc b dx k bi li ti su B∧LI5 pool B B.kept∧B.kept.map (·.1)=((ks.take i).map (·.1)).map Ent.told∧Same H3 Hc∧(∀c∈B.ties.map (·.2.1),H3 c=none)) ?start ?list ?turn ?done⟩
 case start=>exact ⟨Jk,none,rfl,hB4,LI5.start pool,rfl,s4,fun c hc=>(by cases hc)⟩
 case list =>
  rintro i σ Hc _ ⟨B,v,rfl,_,_,_,sc,_⟩;exact sc.sql (.of hLe3)
 case turn =>
  rintro i y σ Hc hy ⟨B,v,rfl,hB,li5,hk,sc,ft⟩;obtain ⟨p,hp,rfl⟩:=ZcD hy;obtain ⟨e,a⟩:=p;have il:=(QI.mp hp).1;have row:=sc.sqt (hR3 _ (QD hp));have tk:(ks.take (i+1)).map (·.1)=(ks.take i).map (·.1)++[e]:=ZgP hp;have gt:GdL pool ((ks.take i).map (·.1)++[e]):=by rw [←tk,List.map_take];exact gdp.take _
  have hkl:B.kept.length≤60:=by
   have:=ZdA hk;rw [Qd,Qd,Rl] at this;omega
  obtain ⟨no,d5,rm⟩:=GdL.ref li5 hk gt hkl (by omega);refine ⟨_,rfl,b,dx,_,rfl,hB.ob,rfl,_,rfl,rfl,b,dx,k,bi,li,ti,su,B,.ref a,e,rfl,hB,⟨a,rfl,row⟩,d5.1,no,rm,fun H3 B3 y hB3 hput bt hy gr grT=>?_⟩;obtain ⟨li3,sb3⟩:=li5.put' hput d5 no;have hk3:B3.kept.map (·.1)=((ks.take (i+1)).map (·.1)).map Ent.told:=by rw [sb3,tk,Qr,hk];rfl
  refine ⟨B3,_,rfl,hB3,li3,hk3,fun c u e=>bt.eq c u (fun m=>?_) (sc c u e),fun c hc=>?_⟩
  ·have m':c∈[k,bi,li,ti,su]∨c=y:=by
    simp only [Qh,QN,QO] at m ⊢;rcases m with h|h|h|h|h|h<;>simp [h]
   rcases m' with h|h
   ·rw [n5 c h] at e;cases e
   ·rcases hy with z|z|z
    ·have:=sc c u e;rw [h,z] at this;cases this
    ·rw [h,z,n5 bi (by simp)] at e;cases e
    ·rw [h,ft y z] at e;cases e
  rcases grT c hc with h|h
  ·exact ft c h
  ·exact ZJ sc h
 case done =>
 rintro σ Hb ⟨B,v,rfl,hB,li5,hk,sc,_⟩;rw [Uw,Ra] at hk;have j:Jn pool B (ks.map (·.1)) ls (lk ed):=⟨li5,hk,gdp,lnd,hla,hlk⟩;have hEb:=hE3.mono sc;have lamb:=lam3.same sc;have hlb:=sc.sql hl3;have hLpb:=sc _ _ hLp;have clo:=j.clo (by omega);have inP:=j.inPool hE.kn
 have zN:Z3 "zzzzzzzz" B.kept=none:=by
  cases hz:Z3 "zzzzzzzz" B.kept with
  |none=>rfl
  |some p =>
   obtain ⟨d,f,m,hb⟩:=j.born (n:="zzzzzzzz") (by unfold Known;rw [hz];exact Option.some_ne_none _);exact absurd ((gd.d5 _ hb).2.2 _ rfl) N.nz
 have noz:∀{Hx:Hp},Ja K Hx B (.str "zzzzzzzz"):=fun {_}=>.inr ⟨_,rfl,zN⟩;have bigs:∀{z:Int},z≠0->-1000≤z->z≤1000->z≠0∧z.natAbs<2 ^ 1000:=fun h h1 h2=>⟨h,YB (by omega) (by omega)⟩;dsimp only [ZX];have hBv:∀{Hx:Hp},SameX Hb Hx->BkHas K T.c_Book Hx (.ref b) B:=fun sx=>⟨_,_,_,_,_,_,_,rfl,hB.monoX sx⟩;refine ⟨_,rfl,Lp,_,rfl,.inl (.of hLpb),_,_,rfl,_,_,rfl,rfl,.inl ⟨by decide,by decide⟩,_,rfl,?b1,?b2,VU (fun i σ Hx=>SameX Hb Hx∧X3 T.tb Hx∧∃v6 v7 v8 v9 v10 v11 v12,σ=[some (.ref l),some (.ref Le),some (.ref De),some (.ref Lp),some (.ref b),v,v6,v7,v8,v9,v10,v11,v12]) ⟨.refl _,lamb,_,_,_,_,_,_,_,rfl⟩ ?jt ?jd⟩
 case b1=>split<;>omega
 case b2=>split<;>omega
 case jd =>
  rintro σ Hx ⟨sx,lx,v6,v7,v8,v9,v10,v11,v12,rfl⟩;exact ⟨_,rfl,few rfl,fun t nt=>⟨rfl,.ref b,t,.str "zzzzzzzz",.str "zzzzzzzz",[],B,rfl,hBv (sx.trans (Zk nt).x),lx.same (Zk nt),.of Zg,.inl noz,fun H5 s5=>q _ ((lx.same (Zk nt)).same s5)⟩⟩
 case jt =>
 rintro i σ Hx hi ⟨sx,lx,v6,v7,v8,v9,v10,v11,v12,rfl⟩
 have hi2:0<pn.length∧i<2:=by
  have hi':(i:Int)<2*(if ((pn.map V.str).length:Int)<1 then ((pn.map V.str).length:Int) else 1):=by omega
  rw [Qd] at hi';split at hi'<;>omega
 obtain ⟨l0,hi2⟩:=hi2;rw [show (0:Int)+(i:Int)=i from Gn _];have hLpx:=sx _ _ rfl hLpb;refine ⟨_,rfl,_,rfl,_,_,rfl,rfl,rfl,l,ss,_,rfl,sx.sql hlb,by omega,fun z1=>⟨_,rfl,_,_,rfl,rfl,.inl ⟨by decide,by decide⟩,_,_,rfl,rfl,_,_,rfl,rfl,bigs (by omega) (by omega) (by omega),?_⟩⟩;dsimp only [ZX];obtain ⟨cell,ec⟩:∃z,z=z1.fdiv (1+2*(i:Int)):=⟨_,rfl⟩;rw [←ec];obtain ⟨nm,hnm,ea⟩:=W0 V.str pn l0 (cell.fdiv 7)
 have knp:∀n∈pn,Known B n:=fun n hn=>by
  obtain ⟨sn,dn,fn,mn,hborn⟩:=ZlK (epn▸hn);exact (j.known hborn).1
 have kn:=knp nm hnm;refine ⟨_,rfl,_,rfl,_,_,rfl,rfl,bigs (by decide) (by decide) (by decide),_,rfl,Lp,_,rfl,.inl (.of hLpx),_,_,rfl,rfl,(by rw [Qd];omega),Lp,_,_,_,rfl,rfl,.of hLpx,ea,?_⟩;dsimp only [ZX];refine ⟨_,rfl,_,rfl,_,_,rfl,rfl,Ys (by decide),_,rfl,_,rfl,_,rfl,rfl,l,ss,_,_,De,nm,ed,rfl,sx.sql hlb,QP _ (by decide),Int.le_of_lt (Int.lt_of_lt_of_le (Q2 _ (by decide)) (by decide)),by omega,by omega,hEb.monoX sx,hb,fun H5 p way s5 np hp w9 wl=>?_⟩;dsimp only [ZX];have x5:=sx.trans s5.x;have lx5:=lx.same s5;have hLp5:=s5 _ _ hLpx;refine ⟨_,rfl,by decide,by decide,Zf2 (α:=Unit) [some (),some ()] (fun _ _ v=>∃n∈pn,v=.str n) (fun _ _ _ _ _ _ h _ _=>h) (Zz (by decide)) (fun σ=>∃w,σ=[w,some (.ref Lp),some (.ref l),some (.int i)]) ⟨_,rfl⟩ (fun j H4 hj sm=>hj) (fun H4 sm=>?cs) (fun j σ H4 x H6 o ho hσ sm hx C hN hS=>?cst) (fun Ls ys H6 nLs s6 hLs yl hys=>?cf)⟩
 case cs=>exact Qf 2
 case cst =>
  obtain ⟨w,rfl⟩:=hσ;obtain ⟨rfl,rfl⟩:=hx;have ho':o=some ():=by simpa using QD ho
  have hLp4:=sm _ _ hLp5;refine ⟨_,rfl,_,rfl,_,rfl,_,_,rfl,rfl,.inl ⟨by decide,by decide⟩,_,_,rfl,rfl,_,rfl,_,_,rfl,rfl,rfl,l,ss,_,rfl,sm.sql (x5.sql hlb),by omega,fun z2=>?_⟩;obtain ⟨n2,hn2,ea2⟩:=W0 V.str pn l0 z2;exact ⟨_,rfl,Lp,_,rfl,.inl (.of hLp4),_,_,rfl,rfl,(by rw [Qd];omega),Lp,_,_,_,rfl,rfl,.of hLp4,ea2,hS () ho' _ _ _ ⟨_,rfl⟩ (Same.refl _) ⟨n2,hn2,rfl⟩⟩
 case cf =>
 have ysn:∀y∈ys,∃n∈pn,y=.str n:=fun y hy=>by
  obtain ⟨m,hm⟩:=List.getElem?_of_mem hy;have ml:=(QI.mp hm).1;have yl2:ys.length=2:=yl;refine hys m y () hm ?_;show [(),()][m]?=some ();have:m<2:=by omega
  match m,this with
  |0,_=>rfl
  |1,_=>rfl
 dsimp only [ZX];have x6:=x5.trans s6.x;have lx6:=lx5.same s6;refine ⟨_,rfl,_,rfl,_,rfl,rfl,De,p,nm,way,ed,pool,rfl,hEb.monoX x6,s6.sqt hp,by omega,clo.inp _ kn,inP,by omega,fun H7 D7 xs s7 nD7 hD7 srt=>?_⟩;have xsl:xs.length≤60:=Qo (Zbd srt.nd fun x hx=>clo.inp _ (Zao clo.led w9 (fun x e=>by rw [e];exact kn) x ((j.same kn w9 x).mpr ((srt.mem x).mp hx)))) clo.few;refine ⟨2,rfl,D7,_,rfl,.of hD7,fun P8 n8=>?_⟩;have e8:=Zk (o:=.lst (YN (xs.map V.str) none (some 2))) n8;have cl8:=Zcs (xs.map V.str) none (some 2);rw [Qd] at cl8;have yl2:ys.length=2:=yl;refine ⟨_,rfl,P8,Ls,_,_,rfl,rfl,Zg,e8 _ _ (s7 _ _ hLs),QY (Zz (by omega)),fun L9 n9=>?_⟩;have e9:=Zk (o:=.lst (YN (xs.map V.str) none (some 2)++ys)) n9
 have zsn:∀y∈YN (xs.map V.str) none (some 2)++ys,∃n,y=.str n∧Known B n:=fun y hy=>by
  rcases Qq.mp hy with h|h
  ·obtain ⟨n,hn,rfl⟩:=Qk.mp (Zmz _ _ _ y h);exact ⟨n,rfl,Zao clo.led w9 (fun x e=>by rw [e];exact kn) n ((j.same kn w9 n).mpr ((srt.mem n).mp hn))⟩
  ·obtain ⟨n,hn,rfl⟩:=ysn y h;exact ⟨n,rfl,knp n hn⟩
 obtain ⟨zs,ezs⟩:∃z,z=YN (xs.map V.str) none (some 2)++ys:=⟨_,rfl⟩;have s79:=s7.trans (e8.trans e9);have hL9:Zb (Zb H7 P8 (.lst (YN (xs.map V.str) none (some 2)))) L9 (.lst (YN (xs.map V.str) none (some 2)++ys)) L9=some (.lst (YN (xs.map V.str) none (some 2)++ys)):=Zg;generalize Zb (Zb H7 P8 (.lst (YN (xs.map V.str) none (some 2)))) L9 (.lst (YN (xs.map V.str) none (some 2)++ys))=H9 at *;rw [←ezs] at hL9 zsn;have x9:=x6.trans s79.x;have lx9:=lx6.same s79;have hp9:=s79.sqt (s6.sqt hp);refine ⟨L9,rfl,⟨_,.of hL9⟩,Wp (xs:=zs) (fun _ σ Hz=>SameX H9 Hz∧X3 T.tb Hz∧∃v11,σ=[some (.ref l),some (.ref Le),some (.ref De),some (.ref Lp),some (.ref b),v,some (.int i),some (.int cell),some (.str nm),some (.ref p),some (.ref Ls),v11,v12]) ⟨.refl _,lx9,_,rfl⟩ ?zl ?zt ?zd⟩
 case zl =>
  rintro _ σ Hz _ ⟨sz,_⟩;exact sz.sql (.of hL9)
 case zt =>
  rintro m y σ Hz hy ⟨sz,lz,v11,rfl⟩;obtain ⟨n,rfl,kn2⟩:=zsn y (QD hy);have xz:=x9.trans sz;exact ⟨_,rfl,_,rfl,_,rfl,_,rfl,_,rfl,rfl,.ref b,De,p,nm,n,B,ed,pool,way,rfl,hBv xz,lz,hEb.monoX xz,sz.sqt hp9,w9,wl,kn,kn2,clo,fun s hs n kn x=>j.step hs kn x,fun s hs a b=>j.inv hs a b,inP,fun H' x' l'=>⟨_,rfl,Zt (by rfl) ⟨sz.trans x',l',_,rfl⟩⟩⟩
 case zd =>
 rintro σ Hz ⟨sz,lz,v11,rfl⟩;have xz:=x9.trans sz;have hpz:=sz.sqt hp9;refine ⟨_,rfl,few rfl,fun t1 n1=>⟨few rfl,fun t2 n2=>⟨few rfl,fun L3 n3=>?_⟩⟩⟩;have e1:=Zk (o:=.tup []) n1;have e2:=Zk (o:=.tup [.str "F",.str "m"]) n2;have e3:=Zk (o:=.lst [.ref p,.ref t1,.ref t2]) n3;have e13:=e1.trans (e2.trans e3);have h1:SqT K (Zb (Zb (Zb Hz t1 (.tup [])) t2 (.tup [.str "F",.str "m"])) L3 (.lst [.ref p,.ref t1,.ref t2])) t1 (([]:List Str).map V.str):=.of ((e2.trans e3) _ _ Zg);have h2:SqT K (Zb (Zb (Zb Hz t1 (.tup [])) t2 (.tup [.str "F",.str "m"])) L3 (.lst [.ref p,.ref t1,.ref t2])) t2 ((["F","m"]:List Str).map V.str):=.of (e3 _ _ Zg);have h3:Zb (Zb (Zb Hz t1 (.tup [])) t2 (.tup [.str "F",.str "m"])) L3 (.lst [.ref p,.ref t1,.ref t2]) L3=some (.lst [.ref p,.ref t1,.ref t2]):=Zg;have x0:=xz.trans e13.x;have l0':=LamH.same lz e13;have hp0:=e13.sqt hpz;generalize Zb (Zb (Zb Hz t1 (.tup [])) t2 (.tup [.str "F",.str "m"])) L3 (.lst [.ref p,.ref t1,.ref t2])=H0 at *
 have all3:∀y∈[V.ref p,.ref t1,.ref t2],∃(a:Addr) (w:List Str),y=.ref a∧SqT K H0 a (w.map V.str):=fun y hy=>by
  simp only [Qh,QN,QO] at hy;rcases hy with rfl|rfl|rfl
  ·exact ⟨_,_,rfl,hp0⟩
  ·exact ⟨_,_,rfl,h1⟩
  ·exact ⟨_,_,rfl,h2⟩
 refine ⟨L3,rfl,⟨_,.of h3⟩,Wp (xs:=[.ref p,.ref t1,.ref t2]) (fun _ σ Hy=>Same H0 Hy∧∃v12,σ=[some (.ref l),some (.ref Le),some (.ref De),some (.ref Lp),some (.ref b),v,some (.int i),some (.int cell),some (.str nm),some (.ref p),some (.ref Ls),v11,v12]) ⟨Same.refl _,_,rfl⟩ ?yl ?yt ?yd⟩
 case yl =>
  rintro _ σ Hy _ ⟨sy,_⟩;exact sy.sql (.of h3)
 case yd =>
  rintro σ Hy ⟨sy,v12,rfl⟩;exact ⟨x0.trans sy.x,LamH.same l0' sy,_,_,_,_,_,_,_,rfl⟩
 case yt =>
  rintro m y σ Hy hy ⟨sy,v12,rfl⟩;obtain ⟨a,w,rfl,ha⟩:=all3 y (QD hy);refine ⟨_,rfl,_,rfl,_,rfl,rfl,.ref b,a,.str nm,.str "zzzzzzzz",w,B,rfl,hBv (x0.trans sy.x),LamH.same l0' sy,sy.sqt ha,.inr ⟨nm,rfl,kn,noz⟩,fun H5 s5=>⟨_,rfl,Zt (by rfl) ?_⟩⟩;have sy5:=sy.trans s5;exact ⟨_,rfl,_,rfl,_,rfl,rfl,.ref b,a,.str "zzzzzzzz",.str nm,w,B,rfl,hBv (x0.trans sy5.x),LamH.same l0' sy5,sy5.sqt ha,.inl noz,fun H6 s6=>⟨_,rfl,Zt (by rfl) ⟨sy5.trans s6,_,rfl⟩⟩⟩
end
theorem Zki {P:Program} {w:World} {K:W.Frag} {mg:Str->Option Value} {base:Heap} (T:Tx K w mg) (LB:LamB base T.cc T.tb mg):ZgU P base T:=by
 have US:=Znn (P:=P) (w:=w) (base:=base) T;have V3:=Zku (P:=P) (w:=w) (base:=base) T;have ZcC:=ZiQ (P:=P) (w:=w) (base:=base) T US;have Zdg:=Zmx (P:=P) (w:=w) (base:=base) T US;have ZbK:=ZmB (P:=P) (w:=w) (base:=base) T;have Zdp:=ZoJ (P:=P) (w:=w) (base:=base) T V3;have ZdW:=Zma (P:=P) (w:=w) (base:=base) T V3 ZcC Zdg ZbK Zdp;have ZdM:=ZiN (P:=P) (w:=w) (base:=base) T ZdW;have UM:=Zka (P:=P) (w:=w) (base:=base) T;have Ut:=Zjk (P:=P) (w:=w) (base:=base) T;have Zc6:=Zh2 (P:=P) (w:=w) (base:=base) T;have Ur:=ZnS (P:=P) (w:=w) (base:=base) T UM;have V4:=Zop (P:=P) (w:=w) (base:=base) T Ur;have ZbJ:=ZiG (P:=P) (w:=w) (base:=base) T;have Uu:=ZhU (P:=P) (w:=w) (base:=base) T;have Zbu:=ZmW (P:=P) (w:=w) (base:=base) T;have Y6:=ZmE (P:=P) (w:=w) (base:=base) T;have UT:=ZlX (P:=P) (w:=w) (base:=base) T Y6;have XY:=Znw (P:=P) (w:=w) (base:=base) T Y6;have ZaV:=Zod (P:=P) (w:=w) (base:=base) T UT XY;have ZdZ:=ZkF (P:=P) (w:=w) (base:=base) T Ut Zc6 XY ZaV;have ZcK:=Zkn (P:=P) (w:=w) (base:=base) T ZdM Ut V4 Y6 ZdZ;have XC:=Zln (P:=P) (w:=w) (base:=base) T;have ZbH:=Zob (P:=P) (w:=w) (base:=base) T XC;have Ud:=Zn9 (P:=P) (w:=w) (base:=base) T ZbJ Y6;have ZbX:=Zja (P:=P) (w:=w) (base:=base) T Uu Y6;have ZbD:=Zne (P:=P) (w:=w) (base:=base) T Uu XC Ud ZbX;have ZcV:=ZkE (P:=P) (w:=w) (base:=base) T UM Ur V4 ZcK XC ZbH ZbD;have Zb8:=ZmM (P:=P) (w:=w) (base:=base) T;have Jl:=ZnZ (P:=P) (w:=w) (base:=base) T UT Ud Zb8;have Zb7:=ZlI (P:=P) (w:=w) (base:=base) T Jl;have Zbv:=Zls (P:=P) (w:=w) (base:=base) T Zb7;have Ve:=Zir (P:=P) (w:=w) (base:=base) T LB XY Jl Zbv;have X2:=Zng (P:=P) (w:=w) (base:=base) T;have Zcr:=Zlg (P:=P) (w:=w) (base:=base) T;have Zdr:=Zl2 (P:=P) (w:=w) (base:=base) T;have Zdq:=ZoH (P:=P) (w:=w) (base:=base) T;have ZbZ:=ZoW (P:=P) (w:=w) (base:=base) T;have ZdN:=Zlf (P:=P) (w:=w) (base:=base) T X2 Zcr Zdr Zdq ZbZ;have Zbj:=ZmY (P:=P) (w:=w) (base:=base) T;have ZbF:=ZiS (P:=P) (w:=w) (base:=base) T Zbj;have Zbr:=Zog (P:=P) (w:=w) (base:=base) T;have Zb9:=Zh9 (P:=P) (w:=w) (base:=base) T X2 Zbr;have V8:=Zn6 (P:=P) (w:=w) (base:=base) T;have Zdn:=Ziu (P:=P) (w:=w) (base:=base) T;have U2:=Zj5 (P:=P) (w:=w) (base:=base) T;have ZdY:=Zlr (P:=P) (w:=w) (base:=base) T Ve V8 Zdn U2;have U6:=ZkP (P:=P) (w:=w) (base:=base) T Ve;have ZjR:=ZmJ (P:=P) (w:=w) (base:=base) T Zbu ZcV X2 ZdN ZbF Zb9 V8 ZdY U6;exact ZjR
theorem ZmC {K:W.Frag} {w:World} {mg:Str->Option Value} (T:Tx K w mg) {vs:List V} {H:Hp} {Q:VK} {E:XK} (h:ZaO K T.tb vs H Q E):Zgx T vs H Q E:=by
 obtain ⟨a,ns,rfl,r⟩:=h;exact ⟨rfl,a,ns,rfl,r⟩
theorem all_mk {l:W.OpenLaw} {w:World} {K:W.Frag} {h:Heap} {mg:Str->Option Value} {fa:Addr} (X:K.In h) (G:h.Ns mainGlobals mg) (hfa:mg "law"=some (.ref fa))
  {OC_Book:Addr}
  {f0:Addr}
  {f1:Addr}
  {f2:Addr}
  {f3:Addr}
  {f4:Addr}
  {f5:Addr}
  {f6:Addr}
  {f7:Addr}
  {f8:Addr}
  {f9:Addr}
  {f10:Addr}
  {f11:Addr}
  {f12:Addr}
  {f13:Addr}
  {f14:Addr}
  {f15:Addr}
  {f16:Addr}
  {f17:Addr}
  {f18:Addr}
  {f19:Addr}
  {f20:Addr}
  {f21:Addr}
  {f22:Addr}
  {f23:Addr}
  {f24:Addr}
  {f25:Addr}
  {od25 an25:Option Addr} {sl25:Array (Option Value)} {oc25 kV25 dc25 pm25 cd25 ct25:Value}
  {DT25:Addr} {odD25:Option Addr} {nD25:Nat} {slD25:Array (Option Value)}
  {f26:Addr}
  {f27:Addr}
  {f28:Addr}
  {f29:Addr}
  {f30:Addr}
  {f31:Addr}
  {f32:Addr}
  {f33:Addr}
  {f34:Addr}
  {f35:Addr}
  {f36:Addr}
  {f37:Addr}
  {f38:Addr}
  {f39:Addr}
  {f40:Addr}
  {f41:Addr}
  {f42:Addr}
  {f43:Addr}
  {f44:Addr}
  {f45:Addr}
  {f46:Addr}
  {f47:Addr}
  {f48:Addr}
  {C0:Addr}
  {C1:Addr}
  {C2:Addr}
  {C3:Addr}
  {C4:Addr}
  {C5:Addr}
  {C6:Addr}
  {F0:Addr} {odF:Option Addr} {nF:Nat} {slF:Array (Option Value)} {tL:Tok}
  {P0 G0:Addr} {tp0:Tok} {odp0 odg0:Option Addr} {np0 ng0:Nat} {slp0 slg0:Array (Option Value)}
  {P1 G1:Addr} {tp1:Tok} {odp1 odg1:Option Addr} {np1 ng1:Nat} {slp1 slg1:Array (Option Value)}
  {P2 G2:Addr} {tp2:Tok} {odp2 odg2:Option Addr} {np2 ng2:Nat} {slp2 slg2:Array (Option Value)}
  {P3 G3:Addr} {tp3:Tok} {odp3 odg3:Option Addr} {np3 ng3:Nat} {slp3 slg3:Array (Option Value)}
  {P4 G4:Addr} {tp4:Tok} {odp4 odg4:Option Addr} {np4 ng4:Nat} {slp4 slg4:Array (Option Value)}
  {P5 G5:Addr} {tp5:Tok} {odp5 odg5:Option Addr} {np5 ng5:Nat} {slp5 slg5:Array (Option Value)}
  {KT0:Addr} {odT0:Option Addr} {nT0:Nat} {slT0:Array (Option Value)} {tt0_0:Tok} {tt0_1:Tok} {tt0_2:Tok} {tt0_3:Tok} {tt0_4:Tok} {tt0_5:Tok} {tt0_6:Tok}
  {KT1:Addr} {odT1:Option Addr} {nT1:Nat} {slT1:Array (Option Value)} {tt1_0:Tok} {tt1_1:Tok}
  {ti0:Tok}
  {ti1:Tok}
  {CC TB:Addr} {oF oC:Value} {dF dC:Option Addr} {sF sC:Array (Option Value)} {kVF dcF pmF ctF:Value} {anF:Option Addr} {vC:Array Value}
  (ao0:W.nsIn K mainGlobals "Book"=some (some (.ref OC_Book)))
  (a0:W.nsIn K mainGlobals "is_whole"=some (some (.ref f0)))
  (l0:DefIn K "is_whole" "is_whole" ZbM f0)
  (a1:W.nsIn K mainGlobals "is_name"=some (some (.ref f1)))
  (l1:DefIn K "is_name" "is_name" Zdi f1)
  (a2:W.nsIn K mainGlobals "is_day"=some (some (.ref f2)))
  (l2:DefIn K "is_day" "is_day" Zdy f2)
  (a3:W.nsIn K mainGlobals "is_amount"=some (some (.ref f3)))
  (l3:DefIn K "is_amount" "is_amount" Zcg f3)
  (a4:W.nsIn K mainGlobals "is_sort"=some (some (.ref f4)))
  (l4:DefIn K "is_sort" "is_sort" Zca f4)
  (a5:W.nsIn K mainGlobals "is_parent"=some (some (.ref f5)))
  (l5:DefIn K "is_parent" "is_parent" ZdI f5)
  (a6:W.nsIn K mainGlobals "has_form"=some (some (.ref f6)))
  (l6:DefIn K "has_form" "has_form" ZbV f6)
  (a7:W.nsIn K mainGlobals "is_entry"=some (some (.ref f7)))
  (l7:DefIn K "is_entry" "is_entry" ZcR f7)
  (a8:W.nsIn K mainGlobals "is_tie"=some (some (.ref f8)))
  (l8:DefIn K "is_tie" "is_tie" Zcp f8)
  (a9:W.nsIn K mainGlobals "named_in"=some (some (.ref f9)))
  (l9:DefIn K "named_in" "named_in" ZdL f9)
  (a10:W.nsIn K mainGlobals "day_of"=some (some (.ref f10)))
  (l10:DefIn K "day_of" "day_of" Zcu f10)
  (a11:W.nsIn K mainGlobals "as_told"=some (some (.ref f11)))
  (l11:DefIn K "as_told" "as_told" Zc5 f11)
  (a12:W.nsIn K mainGlobals "key_of"=some (some (.ref f12)))
  (l12:DefIn K "key_of" "key_of" Zbw f12)
  (a13:W.nsIn K mainGlobals "is_letter"=some (some (.ref f13)))
  (l13:DefIn K "is_letter" "is_letter" Zc3 f13)
  (a14:W.nsIn K mainGlobals "pair_of"=some (some (.ref f14)))
  (l14:DefIn K "pair_of" "pair_of" Zc7 f14)
  (a15:W.findIn K (.ref OC_Book) "__init__"=some (some (.ref f15))) (i15:W.isFn K (.ref f15)=true)
  (l15:DefIn K "__init__" "Book.__init__" ZcT f15)
  (a16:W.findIn K (.ref OC_Book) "birth_of"=some (some (.ref f16))) (i16:W.isFn K (.ref f16)=true)
  (l16:DefIn K "birth_of" "Book.birth_of" ZcP f16)
  (a17:W.findIn K (.ref OC_Book) "sort_of"=some (some (.ref f17))) (i17:W.isFn K (.ref f17)=true)
  (l17:DefIn K "sort_of" "Book.sort_of" ZbS f17)
  (a18:W.findIn K (.ref OC_Book) "born_on"=some (some (.ref f18))) (i18:W.isFn K (.ref f18)=true)
  (l18:DefIn K "born_on" "Book.born_on" ZcH f18)
  (a19:W.findIn K (.ref OC_Book) "parent_fits"=some (some (.ref f19))) (i19:W.isFn K (.ref f19)=true)
  (l19:DefIn K "parent_fits" "Book.parent_fits" Zdc f19)
  (a20:W.findIn K (.ref OC_Book) "fits"=some (some (.ref f20))) (i20:W.isFn K (.ref f20)=true)
  (l20:DefIn K "fits" "Book.fits" ZbU f20)
  (a21:W.findIn K (.ref OC_Book) "refuse"=some (some (.ref f21))) (i21:W.isFn K (.ref f21)=true)
  (l21:DefIn K "refuse" "Book.refuse" Zci f21)
  (a22:W.findIn K (.ref OC_Book) "link"=some (some (.ref f22))) (i22:W.isFn K (.ref f22)=true)
  (l22:DefIn K "link" "Book.link" ZdK f22)
  (a23:W.findIn K (.ref OC_Book) "note_birth"=some (some (.ref f23))) (i23:W.isFn K (.ref f23)=true)
  (l23:DefIn K "note_birth" "Book.note_birth" Zbx f23)
  (a24:W.findIn K (.ref OC_Book) "step"=some (some (.ref f24))) (i24:W.isFn K (.ref f24)=true)
  (l24:DefIn K "step" "Book.step" ZbL f24)
  (a25:W.findIn K (.ref OC_Book) "stands"=some (some (.ref f25))) (i25:W.isFn K (.ref f25)=true)
  (l25:K.lookup f25=some ⟨oc25,od25,.func (W.fnOf "stands" "Book.stands" (Xs Wt) (Y4 Wt) (Zx Wt) (.ref DT25) kV25 dc25 pm25 an25 cd25 ct25),sl25⟩)
  (cc25:W.codeIn K cd25 "Book.stands"=true) (k25:W.keepIn K (.ref f25)=true)
  (ldt25:K.lookup DT25=some ⟨.type "tuple",odD25,.seq #[.none] nD25,slD25⟩)
  (a26:W.findIn K (.ref OC_Book) "note_tie"=some (some (.ref f26))) (i26:W.isFn K (.ref f26)=true)
  (l26:DefIn K "note_tie" "Book.note_tie" Zbt f26)
  (a27:W.findIn K (.ref OC_Book) "put"=some (some (.ref f27))) (i27:W.isFn K (.ref f27)=true)
  (l27:DefIn K "put" "Book.put" Zbq f27)
  (a28:W.nsIn K mainGlobals "is_test"=some (some (.ref f28)))
  (l28:DefIn K "is_test" "is_test" Zc4 f28)
  (a29:W.nsIn K mainGlobals "led_by_step"=some (some (.ref f29)))
  (l29:DefIn K "led_by_step" "led_by_step" ZbC f29)
  (a30:W.nsIn K mainGlobals "layers_of"=some (some (.ref f30)))
  (l30:DefIn K "layers_of" "layers_of" Zby f30)
  (a31:W.nsIn K mainGlobals "trail"=some (some (.ref f31)))
  (l31:DefIn K "trail" "trail" ZbP f31)
  (a32:W.nsIn K mainGlobals "walk"=some (some (.ref f32)))
  (l32:DefIn K "walk" "walk" Uk f32)
  (a33:W.nsIn K mainGlobals "_law_cell_at"=some (some (.ref f33)))
  (l33:DefIn K "_law_cell_at" "_law_cell_at" ZcQ f33)
  (a34:W.nsIn K mainGlobals "_law_names"=some (some (.ref f34)))
  (l34:DefIn K "_law_names" "_law_names" Zcx f34)
  (a35:W.nsIn K mainGlobals "_law_day"=some (some (.ref f35)))
  (l35:DefIn K "_law_day" "_law_day" Zce f35)
  (a36:W.nsIn K mainGlobals "_law_birth"=some (some (.ref f36)))
  (l36:DefIn K "_law_birth" "_law_birth" Zch f36)
  (a37:W.nsIn K mainGlobals "_law_deed"=some (some (.ref f37)))
  (l37:DefIn K "_law_deed" "_law_deed" Zd0 f37)
  (a38:W.nsIn K mainGlobals "_law_entries"=some (some (.ref f38)))
  (l38:DefIn K "_law_entries" "_law_entries" Zc1 f38)
  (a39:W.nsIn K mainGlobals "_law_lead"=some (some (.ref f39)))
  (l39:DefIn K "_law_lead" "_law_lead" ZcS f39)
  (a40:W.nsIn K mainGlobals "_law_edges"=some (some (.ref f40)))
  (l40:DefIn K "_law_edges" "_law_edges" ZcW f40)
  (a41:W.nsIn K mainGlobals "_law_mixed"=some (some (.ref f41)))
  (l41:DefIn K "_law_mixed" "_law_mixed" ZcG f41)
  (a42:W.nsIn K mainGlobals "_law_way"=some (some (.ref f42)))
  (l42:DefIn K "_law_way" "_law_way" ZdB f42)
  (a43:W.nsIn K mainGlobals "_law_reach"=some (some (.ref f43)))
  (l43:DefIn K "_law_reach" "_law_reach" Zdb f43)
  (a44:W.nsIn K mainGlobals "_law_back"=some (some (.ref f44)))
  (l44:DefIn K "_law_back" "_law_back" ZdV f44)
  (a45:W.nsIn K mainGlobals "_law_walked"=some (some (.ref f45)))
  (l45:DefIn K "_law_walked" "_law_walked" ZcL f45)
  (a46:W.nsIn K mainGlobals "_law_joined"=some (some (.ref f46)))
  (l46:DefIn K "_law_joined" "_law_joined" Zco f46)
  (a47:W.nsIn K mainGlobals "_law_nobody"=some (some (.ref f47)))
  (l47:DefIn K "_law_nobody" "_law_nobody" ZbQ f47)
  (a48:W.nsIn K mainGlobals "law"=some (some (.ref f48)))
  (l48:DefIn K "law" "law" Zcj f48)
  (pg0:W.plainGet K OC_Book Str.empty=true) (hd0:W.hasDictIn K OC_Book=true) (po0:W.plainOver K OC_Book=true) (sa0:W.findIn K (.ref OC_Book) "__setattr__"=some (some (.builtin "object.__setattr__"))) (mk0:W.makesIn K OC_Book=true) (kc0:W.keepIn K (.ref OC_Book)=true)
  (na0_kept:W.findIn K (.ref OC_Book) "kept"=some none)
  (na0_births:W.findIn K (.ref OC_Book) "births"=some none)
  (na0_links:W.findIn K (.ref OC_Book) "links"=some none)
  (na0_ties:W.findIn K (.ref OC_Book) "ties"=some none)
  (na0_sums:W.findIn K (.ref OC_Book) "sums"=some none)
  (ac0:W.nsIn K mainGlobals "HeirError"=some (some (.ref C0)))
  (ac1:W.nsIn K mainGlobals "NoEntry"=some (some (.ref C1)))
  (xc1:W.excIn K C1 Xu "ValueError.__new__"=true)
  (e1_1:W.findIn K (.ref C1) "__getattribute__"=some (some (.builtin "BaseException.__getattribute__"))) (e2_1:W.findIn K (.ref C1) "__getattr__"=some none) (e3_1:W.findIn K (.ref C1) "__class__"=some (some (.builtin "object.__class__"))) (e4_1:W.mroIn K C1 (.type "BaseException")=some true) (e5_1:W.mroIn K C1 (.type "object")=some true)
  (ac2:W.nsIn K mainGlobals "Full"=some (some (.ref C2)))
  (xc2:W.excIn K C2 Xu "ValueError.__new__"=true)
  (e1_2:W.findIn K (.ref C2) "__getattribute__"=some (some (.builtin "BaseException.__getattribute__"))) (e2_2:W.findIn K (.ref C2) "__getattr__"=some none) (e3_2:W.findIn K (.ref C2) "__class__"=some (some (.builtin "object.__class__"))) (e4_2:W.mroIn K C2 (.type "BaseException")=some true) (e5_2:W.mroIn K C2 (.type "object")=some true)
  (ac3:W.nsIn K mainGlobals "NoPerson"=some (some (.ref C3)))
  (xc3:W.excIn K C3 Xu "ValueError.__new__"=true)
  (e1_3:W.findIn K (.ref C3) "__getattribute__"=some (some (.builtin "BaseException.__getattribute__"))) (e2_3:W.findIn K (.ref C3) "__getattr__"=some none) (e3_3:W.findIn K (.ref C3) "__class__"=some (some (.builtin "object.__class__"))) (e4_3:W.mroIn K C3 (.type "BaseException")=some true) (e5_3:W.mroIn K C3 (.type "object")=some true)
  (ac4:W.nsIn K mainGlobals "Twice"=some (some (.ref C4)))
  (xc4:W.excIn K C4 Xu "ValueError.__new__"=true)
  (e1_4:W.findIn K (.ref C4) "__getattribute__"=some (some (.builtin "BaseException.__getattribute__"))) (e2_4:W.findIn K (.ref C4) "__getattr__"=some none) (e3_4:W.findIn K (.ref C4) "__class__"=some (some (.builtin "object.__class__"))) (e4_4:W.mroIn K C4 (.type "BaseException")=some true) (e5_4:W.mroIn K C4 (.type "object")=some true)
  (ac5:W.nsIn K mainGlobals "NoFit"=some (some (.ref C5)))
  (xc5:W.excIn K C5 Xu "ValueError.__new__"=true)
  (e1_5:W.findIn K (.ref C5) "__getattribute__"=some (some (.builtin "BaseException.__getattribute__"))) (e2_5:W.findIn K (.ref C5) "__getattr__"=some none) (e3_5:W.findIn K (.ref C5) "__class__"=some (some (.builtin "object.__class__"))) (e4_5:W.mroIn K C5 (.type "BaseException")=some true) (e5_5:W.mroIn K C5 (.type "object")=some true)
  (ac6:W.nsIn K mainGlobals "NoWay"=some (some (.ref C6)))
  (xc6:W.excIn K C6 Xu "ValueError.__new__"=true)
  (e1_6:W.findIn K (.ref C6) "__getattribute__"=some (some (.builtin "BaseException.__getattribute__"))) (e2_6:W.findIn K (.ref C6) "__getattr__"=some none) (e3_6:W.findIn K (.ref C6) "__class__"=some (some (.builtin "object.__class__"))) (e4_6:W.mroIn K C6 (.type "BaseException")=some true) (e5_6:W.mroIn K C6 (.type "object")=some true)
  (z_abs:W.nsIn K mainGlobals "abs"=some none)
  (z_all:W.nsIn K mainGlobals "all"=some none)
  (z_bool:W.nsIn K mainGlobals "bool"=some none)
  (z_int:W.nsIn K mainGlobals "int"=some none)
  (z_isinstance:W.nsIn K mainGlobals "isinstance"=some none)
  (z_len:W.nsIn K mainGlobals "len"=some none)
  (z_list:W.nsIn K mainGlobals "list"=some none)
  (z_max:W.nsIn K mainGlobals "max"=some none)
  (z_min:W.nsIn K mainGlobals "min"=some none)
  (z_range:W.nsIn K mainGlobals "range"=some none)
  (z_reversed:W.nsIn K mainGlobals "reversed"=some none)
  (z_sorted:W.nsIn K mainGlobals "sorted"=some none)
  (z_str:W.nsIn K mainGlobals "str"=some none)
  (z_tuple:W.nsIn K mainGlobals "tuple"=some none)
  (z_zip:W.nsIn K mainGlobals "zip"=some none)
  (q_k_int_int:W.kitOne K (.type "int") (.type "int")=some true)
  (q_k_int_str:W.kitOne K (.type "int") (.type "str")=some false)
  (q_k_int_tuple:W.kitOne K (.type "int") (.type "tuple")=some false)
  (q_k_int_bool:W.kitOne K (.type "int") (.type "bool")=some false)
  (q_k_str_int:W.kitOne K (.type "str") (.type "int")=some false)
  (q_k_str_str:W.kitOne K (.type "str") (.type "str")=some true)
  (q_k_str_tuple:W.kitOne K (.type "str") (.type "tuple")=some false)
  (q_k_bool_int:W.kitOne K (.type "bool") (.type "int")=some true)
  (q_k_bool_str:W.kitOne K (.type "bool") (.type "str")=some false)
  (q_k_bool_tuple:W.kitOne K (.type "bool") (.type "tuple")=some false)
  (q_k_bool_bool:W.kitOne K (.type "bool") (.type "bool")=some true)
  (q_k_NoneType_int:W.kitOne K (.type "NoneType") (.type "int")=some false)
  (q_k_NoneType_str:W.kitOne K (.type "NoneType") (.type "str")=some false)
  (q_k_NoneType_tuple:W.kitOne K (.type "NoneType") (.type "tuple")=some false)
  (q_k_tuple_int:W.kitOne K (.type "tuple") (.type "int")=some false)
  (q_k_tuple_str:W.kitOne K (.type "tuple") (.type "str")=some false)
  (q_k_tuple_tuple:W.kitOne K (.type "tuple") (.type "tuple")=some true)
  (q_k_list_int:W.kitOne K (.type "list") (.type "int")=some false)
  (q_k_list_str:W.kitOne K (.type "list") (.type "str")=some false)
  (q_k_list_tuple:W.kitOne K (.type "list") (.type "tuple")=some false)
  (q_k_dict_int:W.kitOne K (.type "dict") (.type "int")=some false)
  (q_k_dict_str:W.kitOne K (.type "dict") (.type "str")=some false)
  (q_k_dict_tuple:W.kitOne K (.type "dict") (.type "tuple")=some false)
  (q_kl_list:W.kitOne K (.type "list") (.type "list")=some true)
  (q_kx_HeirError:W.kitOne K (.ref C3) (.ref C0)=some true)
  (q_kx_ValueError:W.kitOne K (.ref C3) (.type "ValueError")=some true)
  (zF:W.nsIn K mainGlobals "FORMS"=some (some (.ref F0)))
  (zL:W.nsIn K mainGlobals "LETTERS"=some (some (.str "abcdefghijklmnopqrstuvwxyz" tL)))
  (uF:K.lookup F0=some ⟨.type "tuple",odF,.seq #[.ref P0,.ref P1,.ref P2,.ref P3,.ref P4,.ref P5] nF,slF⟩)
  (up0:K.lookup P0=some ⟨.type "tuple",odp0,.seq #[.str "born" tp0,.ref G0] np0,slp0⟩)
  (up1:K.lookup P1=some ⟨.type "tuple",odp1,.seq #[.str "taken" tp1,.ref G1] np1,slp1⟩)
  (up2:K.lookup P2=some ⟨.type "tuple",odp2,.seq #[.str "union" tp2,.ref G2] np2,slp2⟩)
  (up3:K.lookup P3=some ⟨.type "tuple",odp3,.seq #[.str "parted" tp3,.ref G3] np3,slp3⟩)
  (up4:K.lookup P4=some ⟨.type "tuple",odp4,.seq #[.str "dead" tp4,.ref G4] np4,slp4⟩)
  (up5:K.lookup P5=some ⟨.type "tuple",odp5,.seq #[.str "given" tp5,.ref G5] np5,slp5⟩)
  (ug0:K.lookup G0=some ⟨.type "tuple",odg0,.seq #[.ref f1,.ref f4,.ref f2,.ref f5,.ref f5] ng0,slg0⟩)
  (ug1:K.lookup G1=some ⟨.type "tuple",odg1,.seq #[.ref f1,.ref f1,.ref f2] ng1,slg1⟩)
  (ug2:K.lookup G2=some ⟨.type "tuple",odg2,.seq #[.ref f1,.ref f1,.ref f2] ng2,slg2⟩)
  (ug3:K.lookup G3=some ⟨.type "tuple",odg3,.seq #[.ref f1,.ref f1,.ref f2] ng3,slg3⟩)
  (ug4:K.lookup G4=some ⟨.type "tuple",odg4,.seq #[.ref f1,.ref f2] ng4,slg4⟩)
  (ug5:K.lookup G5=some ⟨.type "tuple",odg5,.seq #[.ref f1,.ref f1,.ref f3,.ref f2] ng5,slg5⟩)
  (zt0:W.nsIn K mainGlobals "STEP_LETTERS"=some (some (.ref KT0)))
  (ut0:K.lookup KT0=some ⟨.type "tuple",odT0,.seq #[.str "F" tt0_0,.str "M" tt0_1,.str "T" tt0_2,.str "f" tt0_3,.str "m" tt0_4,.str "t" tt0_5,.str "S" tt0_6] nT0,slT0⟩)
  (zt1:W.nsIn K mainGlobals "TESTS"=some (some (.ref KT1)))
  (ut1:K.lookup KT1=some ⟨.type "tuple",odT1,.seq #[.str "he" tt1_0,.str "she" tt1_1] nT1,slT1⟩)
  (zi0:W.nsIn K mainGlobals "MOST_ENTRIES"=some (some (.int 400 ti0)))
  (zi1:W.nsIn K mainGlobals "MOST_PEOPLE"=some (some (.int 60 ti1)))
  (lF:K.lookup f32=some ⟨oF,dF,.func (W.fnOf "walk" "walk" (Xs Uk) (Y4 Uk) (Zx Uk) .none kVF dcF pmF anF (.ref CC) ctF),sF⟩)
  (lC:K.lookup CC=some ⟨oC,dC,.fields vC,sC⟩)
  (vC11:vC[11]?=some (.ref TB))
  (kTB:K.lookup TB=none) :
  ∃(fd:FuncData) (cc tb:Addr),W.tabIn K "walk"=some (cc,tb)∧K.lookup tb=none∧(∀(s:Shared) (v:Value),BindsTo s fd ⟨[v],[]⟩ [("_law_script",v)])∧∀base:Heap,K.In base->base.Ns mainGlobals mg->LamB base cc tb mg->FnOk l.prog w K mg base (ZD l.prog w) 9 fa fd ["_law_script"] (ZaO K tb):=by
 have e:=hfa.symm.trans (Q3 X G a48);cases e;have T:Σ' (T:Tx K w mg),T.V0.a=fa∧T.cc=CC∧T.tb=TB:=⟨{ c_Book:=OC_Book,Zbm:=.of X G a0 l0 (fun _ _ _ _ _ _=>YS fun _=>rfl),YW:=.of X G a1 l1 (fun _ _ _ _ _ _=>YS fun _=>rfl),Xm:=.of X G a2 l2 (fun _ _ _ _ _ _=>YS fun _=>rfl),Wf:=.of X G a3 l3 (fun _ _ _ _ _ _=>YS fun _=>rfl),Ww:=.of X G a4 l4 (fun _ _ _ _ _ _=>YS fun _=>rfl),Wc:=.of X G a5 l5 (fun _ _ _ _ _ _=>YS fun _=>rfl),ZaA:=.of X G a6 l6 (fun _ _ _ _ _ _=>XE fun _ _=>rfl),JZ:=.of X G a7 l7 (fun _ _ _ _ _ _=>YS fun _=>rfl),Zah:=.of X G a8 l8 (fun _ _ _ _ _ _=>YS fun _=>rfl),Zag:=.of X G a9 l9 (fun _ _ _ _ _ _=>YS fun _=>rfl),Za3:=.of X G a10 l10 (fun _ _ _ _ _ _=>YS fun _=>rfl),J0:=.of X G a11 l11 (fun _ _ _ _ _ _=>YS fun _=>rfl),Zaa:=.of X G a12 l12 (fun _ _ _ _ _ _=>YS fun _=>rfl),J9:=.of X G a13 l13 (fun _ _ _ _ _ _=>YS fun _=>rfl),ZaR:=.of X G a14 l14 (fun _ _ _ _ _ _=>XE fun _ _=>rfl),Uq:=.of a15 i15 l15 (fun _ _ _ _ _ _=>YS fun _=>rfl),Y8:=.of a16 i16 l16 (fun _ _ _ _ _ _=>XE fun _ _=>rfl),Vf:=.of a17 i17 l17 (fun _ _ _ _ _ _=>XE fun _ _=>rfl),Y9:=.of a18 i18 l18 (fun _ _ _ _ _ _=>XE fun _ _=>rfl),W8:=.of a19 i19 l19 (fun _ _ _ _ _ _=>Vb fun _ _ _ _=>rfl),UF:=.of a20 i20 l20 (fun _ _ _ _ _ _=>XE fun _ _=>rfl),Uy:=.of a21 i21 l21 (fun _ _ _ _ _ _=>XE fun _ _=>rfl),Y0:=.of a22 i22 l22 (fun _ _ _ _ _ _=>Vb fun _ _ _ _=>rfl),V9:=.of a23 i23 l23 (fun _ _ _ _ _ _=>XE fun _ _=>rfl),W7:=.of a24 i24 l24 (fun _ _ _ _ _ _=>Jg fun _ _ _=>rfl),a_Book_stands:=f25,fd_Book_stands:=W.fnOf "stands" "Book.stands" (Xs Wt) (Y4 Wt) (Zx Wt) (.ref DT25) kV25 dc25 pm25 an25 cd25 ct25,dt_Book_stands:=DT25,F_Book_stands:=Zen (st:=Wt) l25 cc25 k25,b_Book_stands:=(Zen (st:=Wt) l25 cc25 k25).binds1 ldt25 rfl (fun _ _ _ _ _ _ us hl=>match us,hl with|[_,_,_],_=>⟨_,rfl,rfl⟩),me_Book_stands:=⟨a25,i25,k25⟩,UD:=.of a26 i26 l26 (fun _ _ _ _ _ _=>XE fun _ _=>rfl),UG:=.of a27 i27 l27 (fun _ _ _ _ _ _=>XE fun _ _=>rfl),ZaE:=.of X G a28 l28 (fun _ _ _ _ _ _=>YS fun _=>rfl),VA:=.of X G a29 l29 (fun _ _ _ _ _ _=>Jg fun _ _ _=>rfl),Za4:=.of X G a30 l30 (fun _ _ _ _ _ _=>Jg fun _ _ _=>rfl),VC:=.of X G a31 l31 (fun _ _ _ _ _ _=>Vb fun _ _ _ _=>rfl),U1:=.of X G a32 l32 (fun _ _ _ _ _ _=>Vb fun _ _ _ _=>rfl),J3:=.of X G a33 l33 (fun _ _ _ _ _ _=>XE fun _ _=>rfl),ZaM:=.of X G a34 l34 (fun _ _ _ _ _ _=>YS fun _=>rfl),Zbb:=.of X G a35 l35 (fun _ _ _ _ _ _=>Jg fun _ _ _=>rfl),Zax:=.of X G a36 l36 (fun _ _ _ _ _ _=>Vb fun _ _ _ _=>rfl),Za6:=.of X G a37 l37 (fun _ _ _ _ _ _=>Vb fun _ _ _ _=>rfl),ZaF:=.of X G a38 l38 (fun _ _ _ _ _ _=>XE fun _ _=>rfl),Zba:=.of X G a39 l39 (fun _ _ _ _ _ _=>Vb fun _ _ _ _=>rfl),Zau:=.of X G a40 l40 (fun _ _ _ _ _ _=>YS fun _=>rfl),Zai:=.of X G a41 l41 (fun _ _ _ _ _ _=>XE fun _ _=>rfl),ZaY:=.of X G a42 l42 (fun _ _ _ _ _ _=>un5 fun _ _ _ _ _=>rfl),ZaD:=.of X G a43 l43 (fun _ _ _ _ _ _=>Jg fun _ _ _=>rfl),Zbn:=.of X G a44 l44 (fun _ _ _ _ _ _=>YS fun _=>rfl),Zae:=.of X G a45 l45 (fun _ _ _ _ _ _=>un5 fun _ _ _ _ _=>rfl),Zat:=.of X G a46 l46 (fun _ _ _ _ _ _=>un5 fun _ _ _ _ _=>rfl),Zaw:=.of X G a47 l47 (fun _ _ _ _ _ _=>Vb fun _ _ _ _=>rfl),V0:=.of X G a48 l48 (fun _ _ _ _ _ _=>YS fun _=>rfl),m_Book:=(Q3 X G ao0),cl_Book:=⟨pg0,hd0,po0,sa0⟩,mk_Book:=⟨mk0,a15,i15,kc0⟩,na_Book_kept:=na0_kept,na_Book_births:=na0_births,na_Book_links:=na0_links,na_Book_ties:=na0_ties,na_Book_sums:=na0_sums,c_HeirError:=C0,m_HeirError:=(Q3 X G ac0),c_NoEntry:=C1,m_NoEntry:=(Q3 X G ac1),x_NoEntry:=xc1,e_NoEntry:=⟨e1_1,e2_1,e3_1,e4_1,e5_1⟩,c_Full:=C2,m_Full:=(Q3 X G ac2),x_Full:=xc2,e_Full:=⟨e1_2,e2_2,e3_2,e4_2,e5_2⟩,c_NoPerson:=C3,m_NoPerson:=(Q3 X G ac3),x_NoPerson:=xc3,e_NoPerson:=⟨e1_3,e2_3,e3_3,e4_3,e5_3⟩,c_Twice:=C4,m_Twice:=(Q3 X G ac4),x_Twice:=xc4,e_Twice:=⟨e1_4,e2_4,e3_4,e4_4,e5_4⟩,c_NoFit:=C5,m_NoFit:=(Q3 X G ac5),x_NoFit:=xc5,e_NoFit:=⟨e1_5,e2_5,e3_5,e4_5,e5_5⟩,c_NoWay:=C6,m_NoWay:=(Q3 X G ac6),x_NoWay:=xc6,e_NoWay:=⟨e1_6,e2_6,e3_6,e4_6,e5_6⟩,n_abs:=(Q4 X G z_abs),n_all:=(Q4 X G z_all),n_bool:=(Q4 X G z_bool),n_int:=(Q4 X G z_int),n_isinstance:=(Q4 X G z_isinstance),n_len:=(Q4 X G z_len),n_list:=(Q4 X G z_list),n_max:=(Q4 X G z_max),n_min:=(Q4 X G z_min),n_range:=(Q4 X G z_range),n_reversed:=(Q4 X G z_reversed),n_sorted:=(Q4 X G z_sorted),n_str:=(Q4 X G z_str),n_tuple:=(Q4 X G z_tuple),n_zip:=(Q4 X G z_zip),k_int_int:=q_k_int_int,k_int_str:=q_k_int_str,k_int_tuple:=q_k_int_tuple,k_int_bool:=q_k_int_bool,k_str_int:=q_k_str_int,k_str_str:=q_k_str_str,k_str_tuple:=q_k_str_tuple,k_bool_int:=q_k_bool_int,k_bool_str:=q_k_bool_str,k_bool_tuple:=q_k_bool_tuple,k_bool_bool:=q_k_bool_bool,k_NoneType_int:=q_k_NoneType_int,k_NoneType_str:=q_k_NoneType_str,k_NoneType_tuple:=q_k_NoneType_tuple,k_tuple_int:=q_k_tuple_int,k_tuple_str:=q_k_tuple_str,k_tuple_tuple:=q_k_tuple_tuple,k_list_int:=q_k_list_int,k_list_str:=q_k_list_str,k_list_tuple:=q_k_list_tuple,k_dict_int:=q_k_dict_int,k_dict_str:=q_k_dict_str,k_dict_tuple:=q_k_dict_tuple,kl_list:=q_kl_list,kx_HeirError:=q_kx_HeirError,kx_ValueError:=q_kx_ValueError,aF:=F0,m_FORMS:=(Q3 X G zF),tkL:=tL,m_LETTERS:=(Q3 X G zL),p0:=P0,g0:=G0,p1:=P1,g1:=G1,p2:=P2,g2:=G2,p3:=P3,g3:=G3,p4:=P4,g4:=G4,p5:=P5,g5:=G5,sF:=fun _=>.inr ⟨_,_,_,uF,rfl,rfl,Zz (QG rfl),.cons rfl (.cons rfl (.cons rfl (.cons rfl (.cons rfl (.cons rfl .nil)))))⟩,sp0:=fun _=>.inr ⟨_,_,_,up0,rfl,rfl,Zz (QG rfl),.cons ⟨_,rfl⟩ (.cons rfl .nil)⟩,sp1:=fun _=>.inr ⟨_,_,_,up1,rfl,rfl,Zz (QG rfl),.cons ⟨_,rfl⟩ (.cons rfl .nil)⟩,sp2:=fun _=>.inr ⟨_,_,_,up2,rfl,rfl,Zz (QG rfl),.cons ⟨_,rfl⟩ (.cons rfl .nil)⟩,sp3:=fun _=>.inr ⟨_,_,_,up3,rfl,rfl,Zz (QG rfl),.cons ⟨_,rfl⟩ (.cons rfl .nil)⟩,sp4:=fun _=>.inr ⟨_,_,_,up4,rfl,rfl,Zz (QG rfl),.cons ⟨_,rfl⟩ (.cons rfl .nil)⟩,sp5:=fun _=>.inr ⟨_,_,_,up5,rfl,rfl,Zz (QG rfl),.cons ⟨_,rfl⟩ (.cons rfl .nil)⟩,sg0:=fun _=>.inr ⟨_,_,_,ug0,rfl,rfl,Zz (QG rfl),.cons rfl (.cons rfl (.cons rfl (.cons rfl (.cons rfl (.nil)))))⟩,sg1:=fun _=>.inr ⟨_,_,_,ug1,rfl,rfl,Zz (QG rfl),.cons rfl (.cons rfl (.cons rfl (.nil)))⟩,sg2:=fun _=>.inr ⟨_,_,_,ug2,rfl,rfl,Zz (QG rfl),.cons rfl (.cons rfl (.cons rfl (.nil)))⟩,sg3:=fun _=>.inr ⟨_,_,_,ug3,rfl,rfl,Zz (QG rfl),.cons rfl (.cons rfl (.cons rfl (.nil)))⟩,sg4:=fun _=>.inr ⟨_,_,_,ug4,rfl,rfl,Zz (QG rfl),.cons rfl (.cons rfl (.nil))⟩,sg5:=fun _=>.inr ⟨_,_,_,ug5,rfl,rfl,Zz (QG rfl),.cons rfl (.cons rfl (.cons rfl (.cons rfl (.nil))))⟩,a_STEP_LETTERS:=KT0,m_STEP_LETTERS:=(Q3 X G zt0),ZgV:=fun _=>.inr ⟨_,_,_,ut0,rfl,rfl,Zz (QG rfl),.cons ⟨_,rfl⟩ (.cons ⟨_,rfl⟩ (.cons ⟨_,rfl⟩ (.cons ⟨_,rfl⟩ (.cons ⟨_,rfl⟩ (.cons ⟨_,rfl⟩ (.cons ⟨_,rfl⟩ (.nil)))))))⟩,a_TESTS:=KT1,m_TESTS:=(Q3 X G zt1),Ze9:=fun _=>.inr ⟨_,_,_,ut1,rfl,rfl,Zz (QG rfl),.cons ⟨_,rfl⟩ (.cons ⟨_,rfl⟩ (.nil))⟩,t_MOST_ENTRIES:=ti0,m_MOST_ENTRIES:=(Q3 X G zi0),t_MOST_PEOPLE:=ti1,m_MOST_PEOPLE:=(Q3 X G zi1),cc:=CC,tb:=TB,hcc:=⟨_,_,_,_,lF,rfl⟩ },rfl,rfl,rfl⟩;obtain ⟨T,ea,rfl,rfl⟩:=T;subst ea;refine ⟨(ZG K T.V0.a),_,_,Zko a32 lF rfl lC vC11,kTB,fun s v=>?_,fun base _ _ LB=>(Zki T LB).imp fun vs H Q E z=>?_⟩
 ·obtain ⟨oc,od,kV,doc,pm,an,cdv,ct,osl,e,_⟩:=T.V0.F.ex;rw [e];exact .of_eq rfl
 exact ZmC T z
theorem walk {l:W.OpenLaw} {q:Program} {loose:List Str} {XP:(Str->Option Value)->Heap->Prop} {YP:World->Heap->Prop} {d:DefRec} {K:Params->W.Frag} (hn:l.most=some 63) (hdf:d.params.defaults=[]) (hrec:((PyProof.Rows.recsOf q).find? (fun e=>e.name==("walk" : Str))).isSome=true)
  (hY:∀(w:World) (h:Heap),YP w h->(K w.params).In h)
  (F:∀(w:World) (mg:Str->Option Value) (fa:Addr) (h:Heap),(K w.params).In h->h.Ns mainGlobals mg->mg d.name=some (.ref fa) →
   ∃(fd:FuncData) (cc tb:Addr),W.tabIn (K w.params) "walk"=some (cc,tb)∧(K w.params).lookup tb=none∧(∀(s:Shared) (u:Value),BindsTo s fd ⟨[u],[]⟩ [("_law_script",u)])∧∀base:Heap,(K w.params).In base->base.Ns mainGlobals mg->LamB base cc tb mg->FnOk l.prog w (K w.params) mg base (ZD l.prog w) 9 fa fd ["_law_script"] (ZaO (K w.params) tb)) :
  W.WalkO q loose XP YP l.row.toRowW d [] (fun f vs=>PySem.call f vs):=by
 obtain ⟨dd,hdd⟩:=GT.mp hrec;exact L2.walk_ofT (n:=63) (k:=9) (x:="_law_script") (CX:=fun w=>ZD l.prog w) (sp:=fun w tb=>ZaO (K w.params) tb) hn (by decide) hdf ⟨rfl,by decide,by decide⟩ hdd hY F (fun _ _ a tb ns hl hO hS=>⟨a,ns,rfl,hS,hl,hO,fun _ h=>⟨rfl,h⟩⟩) fun _ _ _ _ _ ⟨_,_,_,_,_,z⟩=>z
end K15
open PySem PySem.W PyProof.Rows
set_option maxRecDepth 100000 in
set_option maxHeartbeats 0 in
theorem PySem.Challenge.cw_heirbook_k15_whole_walks_holds : PySem.Challenge.rw_heirbook_k15_whole_walks.Holds := by
 refine K15.hd ?_
 k_fill
 refine K15.walk (l:=PySem.Challenge.rw_heirbook_k15_whole_walks) rfl rfl (by kernel_rfl) (fun w h Y=>PySem.W.km_in_of Y) ?F
 case F =>
  intro w mg fa h KX G hmg;apply K15.all_mk KX G hmg
  case ao0|a0|a1|a2|a3|a4|a5|a6|a7|a8|a9|a10|a11|a12|a13|a14|a15|i15|a16|i16|a17|i17|a18|i18|a19|i19|a20|i20|a21|i21|a22|i22|a23|i23|a24|i24|a25|i25|l25|cc25|k25|ldt25|a26|i26|a27|i27|a28|a29|a30|a31|a32|a33|a34|a35|a36|a37|a38|a39|a40|a41|a42|a43|a44|a45|a46|a47|a48|pg0|hd0|po0|sa0|mk0|kc0|na0_kept|na0_births|na0_links|na0_ties|na0_sums|ac0|ac1|e1_1|e2_1|e3_1|e4_1|e5_1|ac2|e1_2|e2_2|e3_2|e4_2|e5_2|ac3|e1_3|e2_3|e3_3|e4_3|e5_3|ac4|e1_4|e2_4|e3_4|e4_4|e5_4|ac5|e1_5|e2_5|e3_5|e4_5|e5_5|ac6|e1_6|e2_6|e3_6|e4_6|e5_6|z_abs|z_all|z_bool|z_int|z_isinstance|z_len|z_list|z_max|z_min|z_range|z_reversed|z_sorted|z_str|z_tuple|z_zip|zF|zL|uF|up0|up1|up2|up3|up4|up5|ug0|ug1|ug2|ug3|ug4|ug5|zt0|ut0|zt1|ut1|zi0|zi1|lF|lC=>k_is
  case l0|l1|l2|l3|l4|l5|l6|l7|l8|l9|l10|l11|l12|l13|l14|l15|l16|l17|l18|l19|l20|l21|l22|l23|l24|l26|l27|l28|l29|l30|l31|l32|l33|l34|l35|l36|l37|l38|l39|l40|l41|l42|l43|l44|l45|l46|l47|l48=>exact ⟨⟨_,_,_,_,_,_,_,_,_,by k_is,by k_is⟩,by k_is⟩
  case xc1|xc2|xc3|xc4|xc5|xc6=>k_exc
  case q_k_int_int|q_k_int_str|q_k_int_tuple|q_k_int_bool|q_k_str_int|q_k_str_str|q_k_str_tuple|q_k_bool_int|q_k_bool_str|q_k_bool_tuple|q_k_bool_bool|q_k_NoneType_int|q_k_NoneType_str|q_k_NoneType_tuple|q_k_tuple_int|q_k_tuple_str|q_k_tuple_tuple|q_k_list_int|q_k_list_str|q_k_list_tuple|q_k_dict_int|q_k_dict_str|q_k_dict_tuple|q_kl_list|q_kx_HeirError|q_kx_ValueError=>kit_is
  case vC11=>first|rfl|decide
  case kTB=>kernel_rfl
