import PyProof.Rows.All
import Wide.All
import OpenK.AllK
import Wide.FinOn
import Lean
import PyProof.EqAt
import PyProof.EqKinds
import PyProof.TupleCall
import PyProof.NeKinds
import PyProof.ZipIter
import PyProof.Draws
import PyProof.ConsumeWalk
import PyProof.StrCaseBound
import PyProof.StrLawsIn
import PyProof.StrLawsJoin
import PyProof.Rows.StrSplitAre
import PyProof.WalkInts
import PyProof.EnumMake
import KE.KRevSl
import PyProof.Rows.SumAny
import PyProof.Rows.SortRuns
import PyProof.Rows.SortKey
import KE.KSortTup
import KE.KDictList
import PyProof.DictValues
import PyProof.StrLawsFirst
import PyProof.AutoListH
import PyProof.AttrMissSeq
import KE.KIntText
import PyProof.Rows.CountFlat
import KE.KLam
import KE.KSortKey
import KE.KPairComp
import PySem.Str
import PyProof.Rows.StrNews2
import PyProof.StrLawsIdx
import PyProof.StrBlockI
import PySem.Challenge.RW_heirbook_k34_marks
local macro_rules|`(tactic|trivial)=>`(tactic|decide +kernel)
abbrev Qa:=@if_neg
abbrev Qb:=@if_pos
abbrev Qc:=@PySem.wpAny_bind
abbrev Qd:=@List.length_map
abbrev Qe:=@Nat.le_refl
abbrev Qf:=@PySem.wpAny_pure
abbrev Qg:=@List.mem_map
abbrev Qh:=@List.mem_cons
abbrev Qi:=@Nat.le_trans
abbrev Qj:=@congrArg
abbrev Qk:=@decide_eq_false
abbrev Ql:=@Option.some.inj
abbrev Qm:=@List.map_append
abbrev Qn:=@PySem.Heap.lt_size
abbrev Qo:=@PySem.Heap.get?_push_of_some
abbrev Qp:=@List.getElem?_map
abbrev Qq:=@List.mem_append
abbrev Qr:=@decide_eq_true
abbrev Qs:=@List.map_cons
abbrev Qt:=@List.append_nil
abbrev Qu:=@PySem.Heap.get?_push_size
abbrev Qv:=@List.length_append
abbrev Qw:=@List.getElem?_eq_getElem
abbrev Qx:=@List.mem_cons_of_mem
abbrev Qy:=@List.mem_of_getElem?
abbrev Qz:=@List.size_toArray
abbrev QA:=@Nat.ne_of_lt
abbrev QB:=@List.mem_cons_self
abbrev QC:=@List.getElem?_eq_some_iff
abbrev QD:=@Array.length_toList
abbrev QE:=@Nat.le_of_ble_eq_true
abbrev QF:=@Bool.false_ne_true
abbrev QG:=@List.length_cons
abbrev QH:=@List.map_map
abbrev QI:=@PySem.PassesOwn.leaving
abbrev QJ:=@PySem.W.mg_of
abbrev QK:=@Nat.lt_of_lt_of_le
abbrev QL:=@Nat.zero_le
abbrev QM:=@of_decide_eq_true
abbrev QN:=@Option.map_eq_some_iff
abbrev QO:=@Bool.eq_false_iff
abbrev QP:=@List.nodup_cons
abbrev QQ:=@PySem.wpAny_field
abbrev QR:=@List.not_mem_nil
abbrev QS:=@or_false
abbrev QT:=@List.mem_singleton
abbrev QU:=@List.take_length
abbrev QV:=@List.length_take
abbrev QW:=@Nat.le_succ
abbrev QX:=@PySem.W.kia_one
abbrev QY:=@List.nodup_append
abbrev QZ:=@Int.fmod_nonneg_of_pos
abbrev Q0:=@List.mem_filter
abbrev Q1:=@Nat.le_of_lt
abbrev Q2:=@Ne.symm
abbrev Q3:=@PySem.W.mg_none_of
abbrev Q4:=@List.filterMap_cons
abbrev Q5:=@List.mem_append_right
abbrev Q6:=@if_false
abbrev Q7:=@if_true
abbrev Q8:=@List.take_succ
abbrev Q9:=@List.mem_append_left
abbrev Ra:=@PySem.wpAny_mono
abbrev Rb:=@Int.fmod_lt_of_pos
abbrev Rc:=@PySem.wpAny_newObj_type
abbrev Re:=@Sum.inr.inj
abbrev Rg:=@List.mem_filterMap
abbrev Rh:=@PySem.Heap.size_push
abbrev Ri:=@Bool.and_eq_true
abbrev Rj:=@List.any_cons
abbrev Rk:=@List.filterMap_append
abbrev Rl:=@PySem.Str.length_append
abbrev Rm:=@Nat.lt_irrefl
abbrev Rn:=@Bool.eq_iff_iff
abbrev Ro:=@Nat.lt_succ_self
abbrev Rp:=@PySem.wpAny_call_entry
abbrev Rq:=@PySem.wpAny_setField_rec
abbrev Rr:=@of_decide_eq_false
abbrev Rs:=@beq_iff_eq
abbrev Rt:=@PySem.call_meets
abbrev Ru:=@List.find?_cons
abbrev Rv:=@List.all_eq_true
abbrev Rx:=@Array.toList_inj
abbrev Ry:=@PySem.F.slot_str_split
abbrev Rz:=@List.mem_of_mem_take
abbrev RA:=@List.foldl_cons
abbrev RB:=@List.mem_map_of_mem
abbrev RC:=@beq_eq_false_iff_ne
abbrev RD:=@Nat.ne_of_gt
abbrev RE:=@List.getElem?_append_right
abbrev RF:=@List.getElem?_append_left
abbrev RG:=@PySem.wpAny_callSpecial?_slot
abbrev RH:=@Bool.or_eq_true
abbrev RI:=@false_and
abbrev RJ:=@true_and
abbrev RK:=@ite_self
abbrev RL:=@PySem.F.plainAttrs_str
abbrev RM:=@Prod.ext
abbrev RN:=@PySem.wpAny_truthy_bool
abbrev RO:=@PySem.Calls.spliced_cons
abbrev RP:=@PySem.mem_of_lookup
abbrev RQ:=@List.take_sublist
abbrev RS:=@PySem.wpAny_Call_Name_kw
abbrev RT:=@PySem.W.callWith_K
abbrev RU:=@PySem.wpAny_seqItems
abbrev RV:=@Nat.le_add_right
abbrev RW:=@PySem.Str.ext'
abbrev RX:=@PySem.StrLaws.strSub_toList
abbrev RY:=@Nat.sub_self
abbrev RZ:=@List.getElem?_cons_succ
abbrev R0:=@List.filter_cons
abbrev R1:=@List.map_congr_left
abbrev R3:=@PySem.F.plainAttrs_list
abbrev R4:=@Int.zero_add
abbrev R5:=@PySem.wpAny_rule
abbrev R6:=@List.length_replicate
abbrev R7:=@PySem.wpAny_holding
abbrev R8:=@PySem.typeIs_str
abbrev R9:=@List.map_nil
abbrev Ga:=@PySem.tupleKind_room_in1
abbrev Gb:=@PySem.call_meetsIn
abbrev Gc:=@Nat.lt_of_le_of_lt
abbrev Gd:=@PySem.Heap.SameBut.update
abbrev Ge:=@List.forIn_cons
abbrev Gf:=@List.length_filterMap_le
abbrev Gg:=@PySem.F.entry_str_split
abbrev Gh:=@PySem.F.args_str_split_2
abbrev Gi:=@List.getElem_of_mem
abbrev Gj:=@List.any_eq_true
abbrev Gk:=@List.length_range
abbrev Gm:=@List.getElem_map
abbrev Gn:=@PySem.F.slot_list_append
abbrev Go:=@PySem.F.type_list_append
abbrev Gp:=@PySem.wpAny_pyIter_tuple
abbrev Gq:=@PySem.wpAny_passesOwn
abbrev Gr:=@PySem.sizeLine_eq
abbrev Gs:=@Nat.le_of_eq
abbrev Gu:=@PySem.codeAny_mono
abbrev Gv:=@Int.toNat_natCast
abbrev Gw:=@List.length_drop
abbrev Gx:=@PySem.Calls.callWith_builtin
abbrev Gy:=@PySem.Calls.evalArgs_plain
abbrev Gz:=@List.cons_append
abbrev GA:=@PySem.wpAny_loadPart_at
abbrev GB:=@PySem.codeAny_builtin
abbrev GC:=@Nat.lt_succ_of_lt
abbrev GD:=@List.take_add_one
abbrev GE:=@List.nil_append
abbrev GF:=@PySem.Str.cps_append
abbrev GG:=@Array.toList_append
abbrev GH:=@PySem.wpAny_dictEntries
abbrev GI:=@List.cons.inj
abbrev GJ:=@PySem.F.slot_dict_itemiterator_next
abbrev GK:=@decide_eq_true_eq
abbrev GL:=@Bool.true_and
abbrev GM:=@List.pairwise_map
abbrev GN:=@List.getElem?_of_mem
abbrev GO:=@PySem.Paired.length
abbrev GP:=@List.getElem_inj
abbrev GQ:=@Bool.false_and
abbrev GR:=@PyProof.Rows.callWith_type1
abbrev GS:=@PySem.W.looks_findIn
abbrev GT:=@PySem.W.kitx_list
abbrev GU:=@PySem.Calls.spliced_nil
abbrev GV:=@List.filterMap_map
abbrev GW:=@List.all_cons
abbrev GX:=@Array.getElem?_toList
abbrev GY:=@PySem.F.plainAttrs_dict
abbrev GZ:=@PySem.F.slot_tuple_iterator_next
abbrev G6:=@PySem.wpAny_letGo
abbrev G7:=@PySem.wpAny_attempt
abbrev G8:=@PySem.F.slot_zip_next
abbrev G9:=@List.mem_iff_getElem?
abbrev Na:=@List.drop_eq_nil_of_le
abbrev Nb:=@List.range'_succ
abbrev Nc:=@List.drop_zero
abbrev Nd:=@PySem.wpAny_newList
abbrev Nf:=@PySem.atKey_none_of_get
abbrev Ng:=@PySem.F.slot_dict_setdefault
abbrev Nh:=@List.getElem?_cons_zero
abbrev Ni:=@Int.le_refl
abbrev Nj:=@List.getElem_mem
abbrev Nk:=@Nat.succ_pos
abbrev Nl:=@PySem.StrLaws.subAt_eq
abbrev Nn:=@Nat.lt_or_ge
abbrev No:=@List.find?_eq_none
abbrev Np:=@List.length_filter_le
abbrev Nq:=@Int.mul_fdiv_add_fmod
abbrev Nr:=@List.foldl_append
abbrev Nt:=@List.map_take
abbrev Nu:=@List.mem_range
abbrev Nv:=@List.any_eq_false
abbrev Nw:=@List.of_mem_zip
abbrev Ny:=@PyProof.Rows.slot_tuple_getitem
abbrev Nz:=@List.length_nil
abbrev NA:=@Option.isSome_map
abbrev NB:=@PySem.F.slot_dict_get
abbrev NC:=@PySem.wpAny_Call_method
abbrev ND:=@Bool.not_eq_true'
abbrev NE:=@PySem.F.typeOf_object_class
abbrev NF:=@PySem.Code.quiet_builtin
abbrev NG:=@List.getElem?_drop
abbrev NH:=@PySem.Calls.call_function_entry
abbrev NI:=@decide_eq_true_iff
abbrev NJ:=@PySem.wpAny_isOneOf_itemiter
abbrev NK:=@List.append_assoc
abbrev NL:=@List.lt_asymm
abbrev NM:=@List.rel_of_pairwise_cons
abbrev NN:=@List.map_filterMap
abbrev NO:=@List.flatMap_cons
abbrev NP:=@List.dropLast_concat_getLast
abbrev NQ:=@List.getElem?_range
abbrev NR:=@Nat.succ_le_succ
abbrev NS:=@Nat.le_succ_of_le
abbrev NT:=@PySem.F.type_str_split
abbrev NU:=@Option.isSome_iff_exists
abbrev NV:=@List.getElem?_take_of_lt
abbrev NW:=@PySem.F.entry_tuple_add
abbrev NX:=@PySem.F.args_tuple_add_2
abbrev NY:=@PySem.F.args_dict_get_3
abbrev NZ:=@Option.bind_eq_some_iff
abbrev N0:=@List.drop_eq_getElem_cons
abbrev N1:=@List.eq_nil_of_length_eq_zero
abbrev N2:=@PySem.F.entry_dict_setdefault
abbrev N3:=@PySem.F.args_dict_setdefault_3
abbrev N4:=@PySem.F.type_dict_setdefault
abbrev N5:=@PySem.F.slot_str_partition
abbrev N6:=@PySem.F.entry_dict_itemiterator_next
abbrev N7:=@PySem.F.args_dict_itemiterator_next_1
abbrev N8:=@List.exists_cons_of_ne_nil
abbrev N9:=@Option.isSome_iff_ne_none
abbrev Ma:=@Int.mul_le_mul_of_nonneg_left
set_option Elab.async false
set_option linter.all false
namespace LR
open PySem PySem.W PyProof.Rows
variable {N m:Nat} {ann:Option Value} {p:Program}
noncomputable abbrev ZcV:=@Fast.tw14082659384304107361
noncomputable abbrev Jw:=Fast.tw14364793385576792824
noncomputable abbrev VF:=@Fast.tw4187177175401517315
noncomputable def allIn (p:Program) (P:Params) (s:Shared):Bool :=
 staticsOk (importedModules p.main.body) (boot_heap P) s.heap&&namesBound p s.heap&&gensDone s&&laidKept (boot_heap P) s.heap
noncomputable abbrev sA (q:Program) (loose mods:List Str) (Xt:Shared->Bool) (g0:Bool) (s:Shared) :=
 ((VF q loose mods Xt g0 s).1,(VF q loose mods Xt g0 s).2.1,(VF q loose mods Xt g0 s).2.2.1,(VF q loose mods Xt g0 s).2.2.2.1)
noncomputable abbrev sB (q:Program) (loose mods:List Str) (Xt:Shared->Bool) (g0:Bool) (s:Shared):=(VF q loose mods Xt g0 s).2.2.2.2
noncomputable abbrev gA (q:Program) (loose:List Str):=((openGood q loose).1,(openGood q loose).2.1,(openGood q loose).2.2.1,(openGood q loose).2.2.2.1)
noncomputable abbrev gB (q:Program) (loose:List Str):=(openGood q loose).2.2.2.2
noncomputable abbrev ran (p:Program) (m:Nat) (ann:Option Value) (N:Nat) (w:World) (os:OsState):Option Shared :=
 ZcV Jw p w m ann N ⟨boot_heap w.params,Array.mk [],boot_drawn,boot_toks,os⟩ (topStub p)
theorem left_run {q:Program} {loose:List Str} {Xt:Shared->Bool} {α:Type} {Yf:Shared->α} {Ya:World->α} {g0:Bool} 
 (e:opening p=plainProg p.main.scope.names) (f:∀s,fenceModules? p s=some s) (hN:Nat.ble 600 N=true)
 (h1:∀w:World,(boot_heap w.params).isNs mainGlobals=true) (h2:∀w:World,(boot_heap w.params).objs.size=m) (h3:∀w:World,(boot_heap w.params).nsMap mainGlobals "__annotations__"=ann)
 (r1:∀(w:World) (os:OsState),(ran p m ann N w os).map (allIn p w.params)=some true)
 (r2:∀(w:World) (os:OsState),(ran p m ann N w os).map (sA q loose (importedModules p.main.body) Xt g0)=some (gA q loose))
 (r2':∀(w:World) (os:OsState),(ran p m ann N w os).map (sB q loose (importedModules p.main.body) Xt g0)=some (gB q loose))
 (r3:∀(w:World) (os:OsState),(ran p m ann N w os).map Yf=some (Ya w)):LeftO p q loose Xt Yf Ya N g0:=by
 intro w;cases hb:fencedOpening treeTable p w N with
 |none=>have z:=boot_open e hN f w;rw [hb] at z;cases z
 |some s0 =>
  have z:=boot_open e hN f w;rw [hb] at z;obtain ⟨h,gs,d,k,os⟩:=s0;injection z with z;injection z with z4 z;injection z with z5 z;injection z with z6 z7;dsimp only at z4 z5 z6 z7;subst z4 z5 z6 z7;have a:=r1 w os;have b:=r2 w os;have b':=r2' w os;have c:=r3 w os;unfold ran ZcV Jw at a b b' c;unfold sA gA VF at b;unfold sB gB VF at b';rw [←Fast.te14082659384304107361,←Fast.te14364793385576792824] at a b b' c;rw [←Fast.te4187177175401517315] at b b';cases hs:topRun treeTable p w m ann N ⟨boot_heap w.params,Array.mk [],boot_drawn,boot_toks,os⟩ (topStub p) with
  |none=>rw [hs] at a;cases a
  |some s =>
   rw [hs] at a b b' c;injection a with a;injection b with b;injection b' with b';injection b with x1 b;injection b with x2 b;injection b with x3 x4;injection c with c;have b:openSeen q loose (importedModules p.main.body) Xt g0 s=openGood q loose:=RM x1 (RM x2 (RM x3 (RM x4 b')))
   have t:topFrom treeTable p w N ⟨boot_heap w.params,Array.mk [],boot_drawn,boot_toks,os⟩=some s:=by
    unfold topFrom;simp only [h1 w,h2 w,h3 w,hs];unfold allIn at a;show (Option.bind (some s) fun x=>_)=_;rw [Option.bind_some,a]
   show Option.map _ (Option.bind (fencedOpening treeTable p w N) _)=_;rw [hb,Option.bind_some,t,Option.map_some,b,c]
noncomputable def Zci (st:SharedT->Thread->Option (SharedT×Thread)) (ok:Thread->Bool):Nat->SharedT->Thread->Option SharedT:=fun n =>
 Nat.rec (motive:=fun _=>SharedT->Thread->Option SharedT) (fun _ _=>none) (fun _ ih s t=>match through t with
  |true=>some s
  |false=>match ok t with
   |false=>none
   |true=>match st s t with
    |some (s',t')=>ih s' t'
    |none=>none) n
theorem Zij {tb:String->Option Builtin} {p:Program} {w:World} {n₀:Nat} {ann:Option Value}:∀(n:Nat) (s:SharedT) (t:Thread) (s':SharedT),Zci (stepT (denote tb) p w) (stepOk n₀ ann) n s t=some s'->topRun tb p w n₀ ann n s.abs t=some s'.abs
 |0,_,_,_,h=>by cases h
 |n+1,s,t,s',h=>by
  have h2:(match through t with
   |true=>some s
   |false=>match stepOk n₀ ann t with
    |false=>none
    |true=>match stepT (denote tb) p w s t with
     |some (s',t')=>Zci (stepT (denote tb) p w) (stepOk n₀ ann) n s' t'
     |none=>none)=some s':=h
  unfold topRun;cases ht:through t with
  |true=>rw [ht] at h2;cases h2;rfl
  |false =>
   rw [ht] at h2;cases hk:stepOk n₀ ann t with
   |false=>rw [hk] at h2;cases h2
   |true =>
    rw [hk] at h2;cases hs:stepT (denote tb) p w s t with
    |none=>rw [hs] at h2;cases h2
    |some r =>
     obtain ⟨s₂,t₂⟩:=r;rw [hs] at h2;rw [stepT_spec hs];exact Zij n s₂ t₂ s' h2
noncomputable def Zo0 (P:Params) (m:Nat):BT:=Nat.rec (motive:=fun _=>BT) .nil (fun i T=>T.ins i (((boot_heap P).objs[i]?).getD default)) m
noncomputable abbrev ZgS:=@Fast.tw10156331382660048174
noncomputable abbrev ZgY:=@Fast.tw11892475500146522536
noncomputable abbrev fOk:=@Fast.tw6613529449190102663
noncomputable abbrev s0T (P:Params) (m:Nat) (os:OsState):SharedT:=⟨Zo0 P m,m,(boot_heap P).life,Array.mk [],boot_drawn,boot_toks,os⟩
noncomputable abbrev ranT (p:Program) (m:Nat) (ann:Option Value) (N:Nat) (w:World) (os:OsState):Option SharedT :=
 Zci (ZgS (ZgY Jw) p w) (fOk m ann) N (s0T w.params m os) (topStub p)
theorem Zlb {w:World} {os:OsState} (hb:(s0T w.params m os).abs=⟨boot_heap w.params,Array.mk [],boot_drawn,boot_toks,os⟩) {s:SharedT} (h:ranT p m ann N w os=some s):ran p m ann N w os=some s.abs:=by
 unfold ranT ZgS ZgY fOk Jw at h;rw [←Fast.te10156331382660048174,←Fast.te11892475500146522536,←Fast.te6613529449190102663,←Fast.te14364793385576792824] at h;have:=Zij _ _ _ _ h;rw [hb] at this;unfold ran ZcV Jw;rw [←Fast.te14082659384304107361,←Fast.te14364793385576792824];exact this
theorem mapT {α:Type} {w:World} {os:OsState} (hb:(s0T w.params m os).abs=⟨boot_heap w.params,Array.mk [],boot_drawn,boot_toks,os⟩) {f:Shared->α} {a:α} (h:(ranT p m ann N w os).map (fun s=>f s.abs)=some a):(ran p m ann N w os).map f=some a:=by
 cases e:ranT p m ann N w os with
 |none=>rw [e] at h;cases h
 |some s =>
  rw [e] at h;rw [Zlb hb e];exact h
end LR
namespace K34
open PySem PySem.W PyProof.Rows
abbrev rwOf:OpenLaw:=PySem.Challenge.rw_heirbook_k34_marks
abbrev pwOf:Program:=PySem.Challenge.pw_heirbook_k34_marks
noncomputable def vw:Program:=view pwOf [0,2,3,4,5,6,7,8,9,10,12,14,15,16,17,18,19,20,21,22,23,24,25,26,27,29,30,31,32,34,36,37,38,39,41,42,43,44,45,46,47,48,49,50,52,53,54,55,57,58,59,60,61,62,63,64,65,66,67,68]
noncomputable abbrev lo:List Str:=["FORMS"]
noncomputable abbrev xt (s:Shared):Bool:=xlAt vw [] s&&recOk (RowW.records (OpenRow.toRowW (OpenLaw.row rwOf))) s
noncomputable abbrev rn:=LR.ranT pwOf 11 (some (.ref 6)) 5720
set_option maxRecDepth 100000
set_option maxHeartbeats 0
theorem said:OpenLaw.wellSaid rwOf=true:=by kernel_rfl
theorem hb (w:World) (os:OsState):(LR.s0T w.params 11 os).abs=⟨boot_heap w.params,Array.mk [],boot_drawn,boot_toks,os⟩:=by kernel_rfl
theorem r1T (w:World) (os:OsState):(rn w os).map (fun s=>(LR.allIn pwOf w.params) s.abs)=some (true):=by kernel_rfl
theorem r1 (w:World) (os:OsState):(LR.ran pwOf 11 (some (.ref 6)) 5720 w os).map (LR.allIn pwOf w.params)=some (true):=LR.mapT (hb w os) (r1T w os)
theorem r2T (w:World) (os:OsState):(rn w os).map (fun s=>(LR.sA vw lo (importedModules pwOf.main.body) xt true) s.abs)=some (LR.gA vw lo):=by kernel_rfl
theorem r2 (w:World) (os:OsState):(LR.ran pwOf 11 (some (.ref 6)) 5720 w os).map (LR.sA vw lo (importedModules pwOf.main.body) xt true)=some (LR.gA vw lo):=LR.mapT (hb w os) (r2T w os)
theorem r3T (w:World) (os:OsState):(rn w os).map (fun s=>(LR.sB vw lo (importedModules pwOf.main.body) xt true) s.abs)=some (LR.gB vw lo):=by kernel_rfl
theorem r3 (w:World) (os:OsState):(LR.ran pwOf 11 (some (.ref 6)) 5720 w os).map (LR.sB vw lo (importedModules pwOf.main.body) xt true)=some (LR.gB vw lo):=LR.mapT (hb w os) (r3T w os)
end K34
local macro_rules
 | `(tactic| o_law)=>`(tactic| refine PySem.W.holds_law K34.said fun sd=>?_)
local macro_rules
 | `(tactic| o_head $H)=>do
  let hw:=Lean.mkIdent `hw
  let hc:=Lean.mkIdent `hc
  `(tactic| (
   refine PySem.W.holds_open (q:=K34.vw) (loose:=K34.lo) (N:=5720) (Xt:=K34.xt) (XP:=PySem.W.XL K34.vw []) (Yf:=PySem.W.Hook.obs $H)
    (Ya:=PySem.W.Hook.val $H) (YP:=PySem.W.Hook.says $H)
    (LR.left_run (p:=K34.pwOf) (m:=11) (ann:=(some (.ref 6))) ?e1 ?e2 (by decide) ?e3 ?e4 ?e5 K34.r1 K34.r2 K34.r3 ?e6)
    (PySem.W.Hook.of $H) (PySem.W.Hook.keeps $H) ?f1
    PySem.W.XL.keeps (by rfl) (by rfl) (by rfl) ?f2 ?g4 ?g5 ?g6 ?g7 ?$hw ?$hc
   case e1=>kernel_rfl
   case e2=>intro s;kernel_rfl
   case e3=>intro w;kernel_rfl
   case e4=>intro w;kernel_rfl
   case e5=>intro w;kernel_rfl
   case e6=>(intro w os;refine LR.mapT (K34.hb w os) ?_;kernel_rfl)
   case f1=>intro s e;exact PySem.W.xl_of s (Bool.and_eq_true_iff.mp e).1
   case f2=>intro s e;exact PySem.W.recFacts_of (Bool.and_eq_true_iff.mp e).2
   case g4=>rfl
   case g5=>assumption
   case g6=>trivial
   case g7=>exact ⟨rfl,rfl,rfl,rfl,rfl,by trivial⟩))
set_option maxRecDepth 100000 in
set_option maxHeartbeats 0 in
open_top K34.hd for PySem.Challenge.rw_heirbook_k34_marks
set_option maxRecDepth 100000
namespace L2
open PySem PySem.Spec PyProof.Rows
variable {C a b dx:Addr} {A:Around} {op:CmpOp} {X:Cx} {D:Ends} {c e tg:Expr} {fd:FuncData} {o:HO} {base h h':Heap} {H H':Hp} {pins:List (Addr×Obj)} {kw:List (Str×Value)} {ch fp:List Addr} {es:List Expr} {N ps:List Str} {xs:List V} {us:List Value} {M:Model} {i j n t':Nat} {p pos:Pos} {P:Program} {s:Shared} {σ:St} {m:Str} {mA mg:Str->Option Value} {ta te:TE} {tb:TS} {v y:V} {u:Value} {E Q:Value->Shared->Prop} {f:Value->Value->Sem Value} {K:W.Frag} {w:World} {CX:YH}
abbrev Zi:=Sum Int Str
noncomputable def Vp:Zi->Value->Bool
 |.inl k,v=>Value.isInt k v
 |.inr x,v=>Value.isStrOf x v
noncomputable def ZpO (w:World):Zi->Int
 |.inl k=>hashInt k
 |.inr x=>hashStr w x
theorem Wn:∀{k:Zi} {v:Value},Vp k v=true->(∃i t,k=Sum.inl i∧v=Value.int i t)∨(∃x t,k=Sum.inr x∧v=Value.str x t)
 |.inl i,v,h=>by
  obtain ⟨t,e⟩:=Value.isInt_shape (k:=i) (v:=v) h;exact .inl ⟨i,t,rfl,e⟩
 |.inr x,v,h=>by
  obtain ⟨t,e⟩:=Value.isStrOf_shape (x:=x) (v:=v) h;exact .inr ⟨x,t,rfl,e⟩
theorem ZiH (i:Int) (t:Tok):Vp (.inl i) (.int i t)=true:=by simp [Vp,Value.isInt]
theorem ZmM (x:Str) (t:Tok):Vp (.inr x) (.str x t)=true:=by simp [Vp,Value.isStrOf]
theorem Zlq (a b:Int):decide ((Sum.inl a:Zi)=Sum.inl b)=(a==b):=by
 by_cases e:a=b
 ·subst e;simp
 ·have h:¬(Sum.inl a:Zi)=Sum.inl b:=fun q=>e (Sum.inl.inj q);rw [Qk h];exact (RC.mpr e).symm
theorem ZjE (a b:Str):decide ((Sum.inr a:Zi)=Sum.inr b)=decide (a=b):=by
 by_cases e:a=b
 ·subst e;simp
 ·have h:¬(Sum.inr a:Zi)=Sum.inr b:=fun q=>e (Re q);rw [Qk h,Qk e]
theorem Zk0 (a:Int) (b:Str):decide ((Sum.inl a:Zi)=Sum.inr b)=false:=Qk (fun q=>nomatch q)
theorem Zp1 (a:Str) (b:Int):decide ((Sum.inr a:Zi)=Sum.inl b)=false:=Qk (fun q=>nomatch q)
noncomputable def Yw (prog:Program) (w:World):PySem.KeyKind prog w Zi where
 is:=Vp
 hash:=ZpO w
 inj:=fun v a b ha hb=>by
  rcases Wn ha with ⟨i,t,rfl,rfl⟩|⟨x,t,rfl,rfl⟩
  ·rcases Wn hb with ⟨j,u,rfl,e⟩|⟨y,u,rfl,e⟩
   ·injection e with e1 _;rw [e1]
   ·exact nomatch e
  ·rcases Wn hb with ⟨j,u,rfl,e⟩|⟨y,u,rfl,e⟩
   ·exact nomatch e
   ·injection e with e1 _;rw [e1]
 byValue:=fun k v h=>by
  rcases Wn h with ⟨i,t,rfl,rfl⟩|⟨x,t,rfl,rfl⟩<;>rfl
 pyHash:=fun hv h=>by
  rcases Wn hv with ⟨i,t,rfl,rfl⟩|⟨x,t,rfl,rfl⟩
  ·exact wpAny_pyHash_int h
  ·exact wpAny_pyHash_str h
 eqBool:=fun hu hv h=>by
  rcases Wn hu with ⟨i,t,rfl,rfl⟩|⟨x,t,rfl,rfl⟩
  ·rcases Wn hv with ⟨j,u,rfl,rfl⟩|⟨y,u,rfl,rfl⟩
   ·rw [Zlq] at h;exact wpAny_eqBool_int h
   ·rw [Zk0] at h;exact SeqAt.EqAt.int_str i t y u _ _ _ _ h
  ·rcases Wn hv with ⟨j,u,rfl,rfl⟩|⟨y,u,rfl,rfl⟩
   ·rw [Zp1] at h;exact SeqAt.EqAt.str_int x t j u _ _ _ _ h
   ·rw [ZjE] at h;exact wpAny_eqBool_str h
 «strs»:=fun k x t v h=>by
  rcases Wn h with ⟨i,u,rfl,e⟩|⟨y,u,rfl,e⟩
  ·exact nomatch e
  ·injection e with e1 _;subst e1;cases v<;>rfl
theorem Zm8 (prog:Program) (w:World) (i:Int) (t:Tok):(Yw prog w).is (.inl i) (.int i t)=true:=ZiH i t
theorem Zo9 (prog:Program) (w:World) (x:Str) (t:Tok):(Yw prog w).is (.inr x) (.str x t)=true:=ZmM x t
inductive V where
 |non|bl (b:Bool)|int (i:Int)|str (x:Str)|byt (b:Array UInt8)|flt (b:UInt64)|ref (a:Addr)|ty (n:String)
 deriving DecidableEq
def RelV:V->Value->Prop
 |.non,u=>u=Value.none
 |.bl b,u=>u=Value.bool b
 |.int i,u=>∃t,u=Value.int i t
 |.str x,u=>∃t,u=Value.str x t
 |.byt b,u=>∃t,u=Value.bytes b t
 |.flt b,u=>∃t,u=Value.float b t
 |.ref a,u=>u=Value.ref a
 |.ty n,u=>u=Value.type n
abbrev Vals:List V->List Value->Prop:=Paired RelV
theorem Vals.length (r:Vals xs us):xs.length=us.length:=GO r
theorem Vals.get:∀{xs:List V} {us:List Value} {i:Nat} {x:V},Vals xs us->xs[i]?=some x->∃u,us[i]?=some u∧RelV x u
 |_,_,_,_,.nil,e=>by simp at e
 |_,_,0,_,.cons r _,e=>by simp at e;subst e;exact ⟨_,rfl,r⟩
 |_,_,i+1,x,.cons _ t,e=>by
  obtain ⟨u,h1,h2⟩:=Vals.get (i:=i) (x:=x) t (by simpa using e);exact ⟨u,by simpa using h1,h2⟩
theorem Vals.append:∀{xs ys:List V} {us ws:List Value},Vals xs us->Vals ys ws->Vals (xs++ys) (us++ws)
 |_,_,_,_,.nil,s=>s
 |_,_,_,_,.cons r t,s=>.cons r (Vals.append t s)
theorem Vals.take:∀{xs:List V} {us:List Value} (n:Nat),Vals xs us->Vals (xs.take n) (us.take n)
 |_,_,0,_=>.nil
 |_,_,_+1,.nil=>.nil
 |_,_,n+1,.cons r t=>.cons r (Vals.take n t)
theorem Vals.drop:∀{xs:List V} {us:List Value} (n:Nat),Vals xs us->Vals (xs.drop n) (us.drop n)
 |_,_,0,r=>r
 |_,_,_+1,.nil=>.nil
 |_,_,n+1,.cons _ t=>Vals.drop n t
def RelO:Option V->Option Value->Prop
 |some v,some u=>RelV v u
 |none,none=>True
 |_,_=>False
def KV {κ:Type}:List (κ×V)->List (κ×Value)->Prop:=Paired fun (p:κ×V) (q:κ×Value)=>p.1=q.1∧RelV p.2 q.2
noncomputable def kV:Zi->V
 |.inl i=>.int i
 |.inr x=>.str x
inductive HO where
 |lst (xs:List V)
 |tup (xs:List V)
 |dK (kvs:List (Zi×V))|dT (kvs:List (List Zi×V))
 |set (S:Int->Bool) (n:Nat)
 |ins (C dx:Addr) (fs:List (Str×V))
 |own (x:Addr)
 |xd (fs:List (Str×V))
 |met (f x:Addr)
 |rng (lo hi:Int)
 |frz (o:Obj) (u:HO)
 |tbl (ps:Array Value)
 |ext (φ:Heap->Prop)
abbrev Hp:=Addr->Option HO
noncomputable def Zb (H:Hp) (a:Addr) (o:HO):Hp:=fun b=>if b=a then some o else H b
theorem Ze:Zb H a o a=some o:=by unfold Zb;rw [Qb rfl]
theorem Zg (h:b≠a):Zb H a o b=H b:=by unfold Zb;rw [Qa h]
theorem Zem {u:HO} (h:H a=some o) (h':H b=some u) (d:o≠u):a≠b:=by
 intro e;subst e;rw [h] at h';exact d (Ql h')
theorem ZV (h:H a=some o) (h':H b=none):a≠b:=by
 intro e;subst e;rw [h] at h';cases h'
section
variable (P:Program) (w:World)
def ObjOk (H:Hp) (h:Heap) (a:Addr):HO->Prop
 |.lst xs=>xs.length≤sizeLine∧∃(its:List Value) (n:Nat),Vals xs its∧h.get? a=some { cls:=.type "list",data:=.seq its.toArray n }
 |.tup xs=>xs.length≤sizeLine∧∃its:List Value,Vals xs its∧IsTup h a its.toArray
 |.dK kvs=>kvs.length≤sizeLine∧(a==sysModules)=false∧∃vs,KV kvs vs∧h.DictOf (Yw P w) a vs
 |.dT kvs => kvs.length ≤ sizeLine ∧ (a==sysModules)=false ∧ ∃xs : List (List Zi×Addr×Value),
   Paired (fun (p:List Zi×V) (q:List Zi×Addr×Value)=>p.1=q.1∧H q.2.1=some (.tup (p.1.map kV))∧RelV p.2 q.2.2) kvs xs ∧
   ∃o es ep,h.get? a=some o∧o.ExactDict∧o.data=.dict es ep∧es.toList=xs.map (entryOfKey (tupleKind (Yw P w)))∧(xs.map (·.1)).Nodup
 |.set S n=>h.SetOf (intKind P w) a S n
 |.ins C dx fs => H dx=some (.own a) ∧ fs.length ≤ 1000 ∧ dx ≠ a ∧ h.get? a=some (W.instObj C dx) ∧
   ∃mA,h.Ns1 dx mA∧(∀f,RelO (fs.lookup f) (mA f))∧PySem.Within mA (fs.map (·.1))
 |.own _=>∃o,h.get? a=some o
 |.xd fs=>∃mA,h.Ns1 a mA∧∀f,RelO (fs.lookup f) (mA f)
 |.rng lo hi=>∃t u v,h.get? a=some { cls:=.type "range",data:=.fields #[.int lo t,.int hi u,.int 1 v] }
 |.frz o u=>h.get? a=some o∧ObjOk H h a u
 |.tbl ps=>h.get? a=some { cls:=.none,data:=.fields ps }
 |.met f x=>h.get? a=some (W.methodObj (.ref f) (.ref x))
 |.ext φ=>φ h∧(∃o,h.get? a=some o)∧∀h1 h2:Heap,φ h1->(∀o,h1.get? a=some o->h2.get? a=some o)->φ h2
def HOk (H:Hp) (h:Heap):Prop:=∀a o,H a=some o->ObjOk P w H h a o
end
theorem ObjOk.lt (x:ObjOk P w H h a o):a<h.objs.size:=by
 cases o with
 |lst xs=>obtain ⟨_,_,_,_,e⟩:=x;exact Qn e
 |tup xs=>obtain ⟨_,_,_,p⟩:=x;exact p.lt
 |dK kvs=>obtain ⟨_,_,_,_,o,_,_,e,_⟩:=x;exact Qn e
 |dT kvs=>obtain ⟨_,_,_,_,o,_,_,e,_⟩:=x;exact Qn e
 |set S n=>obtain ⟨o,_,_,_,e,_⟩:=x;exact Qn e
 |ins C dx fs=>obtain ⟨_,_,_,e,_⟩:=x;exact Qn e
 |own y=>obtain ⟨_,e⟩:=x;exact Qn e
 |xd fs=>obtain ⟨_,⟨_,_,_,e,_⟩,_⟩:=x;exact Qn e
 |rng lo hi=>obtain ⟨_,_,_,e⟩:=x;exact Qn e
 |frz ob u=>obtain ⟨e,_⟩:=x;exact Qn e
 |tbl ps=>exact Qn (show h.get? a=some _ from x)
 |met f y=>exact Qn (show h.get? a=some _ from x)
 |ext φ=>obtain ⟨_,⟨_,e⟩,_⟩:=x;exact Qn e
theorem Paired.mapP {α β:Type} {F G:α->β->Prop}:∀{l₁:List α} {l₂:List β},Paired F l₁ l₂->(∀a b,F a b->G a b)->Paired G l₁ l₂
 |_,_,.nil,_=>.nil
 |_,_,.cons r t,f=>.cons (f _ _ r) (Paired.mapP t f)
theorem ObjOk.stay (x:ObjOk P w H h a o) (k:∀b u,(b=a∨H b=some (.own a))->h.get? b=some u->h'.get? b=some u)
 (ho:∀b,H b=some (.own a)->H' b=some (.own a)) (ht:∀b xs,H b=some (.tup xs)->H' b=some (.tup xs)):ObjOk P w H' h' a o:=by
 induction o with
 |lst xs=>obtain ⟨z,its,n,r,e⟩:=x;exact ⟨z,its,n,r,k _ _ (.inl rfl) e⟩
 |tup xs=>obtain ⟨z,its,r,ob,e,c⟩:=x;exact ⟨z,its,r,ob,k _ _ (.inl rfl) e,c⟩
 |dK kvs=>obtain ⟨z,y,vs,r,ob,es,ep,e,c⟩:=x;exact ⟨z,y,vs,r,ob,es,ep,k _ _ (.inl rfl) e,c⟩
 |dT kvs =>
  obtain ⟨z,y,xs,r,ob,es,ep,e,c⟩:=x;exact ⟨z,y,xs,Paired.mapP r fun p q z=>⟨z.1,ht _ _ z.2.1,z.2.2⟩,ob,es,ep,k _ _ (.inl rfl) e,c⟩
 |set S n=>obtain ⟨ob,es,ep,t,e,c⟩:=x;exact ⟨ob,es,ep,t,k _ _ (.inl rfl) e,c⟩
 |ins C dx fs =>
  obtain ⟨d,z,ne,e,mA,⟨od,es,ep,e2,c⟩,r⟩:=x;exact ⟨ho _ d,z,ne,k _ _ (.inl rfl) e,mA,⟨od,es,ep,k _ _ (.inr d) e2,c⟩,r⟩
 |own y=>obtain ⟨ob,e⟩:=x;exact ⟨ob,k _ _ (.inl rfl) e⟩
 |xd fs=>obtain ⟨mA,⟨od,es,ep,e,c⟩,r⟩:=x;exact ⟨mA,⟨od,es,ep,k _ _ (.inl rfl) e,c⟩,r⟩
 |rng lo hi=>obtain ⟨t,u,v,e⟩:=x;exact ⟨t,u,v,k _ _ (.inl rfl) e⟩
 |frz ob u ih=>obtain ⟨e,q⟩:=x;exact ⟨k _ _ (.inl rfl) e,ih q⟩
 |tbl ps =>
  have e:h.get? a=some { cls:=.none,data:=.fields ps }:=x;show h'.get? a=some { cls:=.none,data:=.fields ps };exact k a _ (.inl rfl) e
 |met f y =>
  have e:h.get? a=some (W.methodObj (.ref f) (.ref y)):=x;show h'.get? a=some (W.methodObj (.ref f) (.ref y));exact k a _ (.inl rfl) e
 |ext φ=>obtain ⟨p,⟨o,e⟩,st⟩:=x;exact ⟨st _ _ p fun o q=>k _ _ (.inl rfl) q,⟨o,k _ _ (.inl rfl) e⟩,st⟩
theorem HOk.lt (x:HOk P w H h) (e:H a=some o):a<h.objs.size:=(x a o e).lt
theorem HOk.fresh (x:HOk P w H h) (e:h.objs.size≤a):H a=none:=by
 cases q:H a with
 |none=>rfl
 |some u=>exact absurd (QK (x.lt q) e) (Rm _)
theorem HOk.kept (x:HOk P w H h) (k:∀b u,h.get? b=some u->h'.get? b=some u):HOk P w H h':=fun a o e =>
 (x a o e).stay (fun b u _ q=>k b u q) (fun _ q=>q) fun _ _ q=>q
theorem HOk.laid (x:HOk P w H h) (k:∀b u,h.get? b=some u->h'.get? b=some u) (hp:h.objs.size≤a) (new:ObjOk P w (Zb H a o) h' a o):HOk P w (Zb H a o) h':=fun b u e=>by
 have hn:=x.fresh hp;by_cases hb:b=a
 ·subst hb;rw [Ze] at e;cases e;exact new
 ·rw [Zg hb] at e;exact (x b u e).stay (fun c v _ q=>k c v q) (fun c q=>by rw [Zg (ZV q hn)];exact q) fun c xs q=>by rw [Zg (ZV q hn)];exact q
def Rd (H:Hp) (a:Addr) (u:HO):Prop:=H a=some u∨∃o,H a=some (.frz o u)
theorem Rd.ok {u:HO} (r:Rd H a u) (x:HOk P w H h):ObjOk P w H h a u:=by
 rcases r with r|⟨o,r⟩
 ·exact x a u r
 ·obtain ⟨_,q⟩:=x a _ r;exact q
def Je:Option HO->Prop
 |some (.lst _)=>True
 |some (.dK _)=>True
 |some (.dT _)=>True
 |some (.set _ _)=>True
 |some (.ins _ _ _)=>True
 |some (.ext _)=>True
 |_=>False
section
variable {x e:Addr} {o':HO}
theorem HOk.write (ok:HOk P w H h) (mu:Je (H x)) (he:e=x∨H e=some (.own x)) (k:∀b u,b≠e->h.get? b=some u->h'.get? b=some u) (heo:∃u,h'.get? e=some u)
 (new:ObjOk P w (Zb H x o') h' x o'):HOk P w (Zb H x o') h':=fun b u q=>by
 have nown:∀c y,H c=some (.own y)->c≠x:=fun c y r z=>by subst z;rw [r] at mu;exact mu
 have ntup:∀c xs,H c=some (.tup xs)->c≠x:=fun c xs r z=>by subst z;rw [r] at mu;exact mu
 by_cases hb:b=x
 ·subst hb;rw [Ze] at q;cases q;exact new
 ·rw [Zg hb] at q;by_cases hbe:b=e
  ·have q':H b=some (.own x):=by
    rcases he with z|z
    ·exact absurd (hbe.trans z) hb
    ·rw [hbe];exact z
   rw [q] at q';cases q';obtain ⟨v,hv⟩:=heo;exact ⟨v,by rw [hbe];exact hv⟩
  ·refine (ok b u q).stay (fun c v hc r=>k c v ?_ r) (fun c r=>by rw [Zg (nown c b r)];exact r) fun c xs r=>by rw [Zg (ntup c xs r)];exact r
   rcases hc with rfl|hc
   ·exact hbe
   ·rintro rfl;rcases he with z|z
    ·exact nown c b hc z
    ·rw [hc] at z;cases z;exact hb rfl
end
structure Un (fs ex:List Addr) (H H':Hp) (h h':Heap):Prop where
 keep:∀b o,h.get? b=some o->H b=none->b∉fs->b∉ex->h'.get? b=some o
 slot:∀b o,h.get? b=some o->H b=none->b∈fs->b∉ex->∃sl,h'.get? b=some { o with slots:=sl }
 free:∀b o,h.get? b=some o->H b=none->b∉ex->H' b=none
 there:∀b o,h.get? b=some o->b∉ex->∃o',h'.get? b=some o'
 tups:∀b xs,H b=some (.tup xs)->H' b=some (.tup xs)
 frzs:∀b o u,H b=some (.frz o u)->H' b=some (.frz o u)
 tbls:∀b ps,H b=some (.tbl ps)->∃more,H' b=some (.tbl (ps++more))
section
variable {fs fs' ex ex':List Addr} {H1 H2:Hp} {h1 h2:Heap} {x e:Addr}
theorem Un.any (u:Un fs ex H H1 h h1) {ob:Obj} (q:h.get? b=some ob) (n:H b=none) (hx:b∉ex):∃sl,h1.get? b=some { ob with slots:=sl }:=by
 by_cases hb:b∈fs
 ·exact u.slot b ob q n hb hx
 ·exact ⟨ob.slots,u.keep b ob q n hb hx⟩
theorem Un.kept (k:∀b u,h.get? b=some u->h'.get? b=some u):Un fs ex H H h h' :=
 ⟨fun b ob q _ _ _=>k b ob q,fun b ob q _ _ _=>⟨ob.slots,k b ob q⟩,fun _ _ _ n _=>n,fun b ob q _=>⟨ob,k b ob q⟩,fun _ _ q=>q,fun _ _ _ q=>q,fun _ ps q=>⟨#[],by rw [q];simp⟩⟩
theorem Un.refl:Un fs ex H H h h:=Un.kept fun _ _ q=>q
theorem Un.laid (k:∀b u,h.get? b=some u->h'.get? b=some u) (hp:h.objs.size≤a) (hn:H a=none):Un fs ex H (Zb H a o) h h' where
 keep:=fun b u q _ _ _=>k b u q
 slot:=fun b u q _ _ _=>⟨u.slots,k b u q⟩
 free:=fun b u q n _=>by rw [Zg (QA (QK (Qn q) hp))];exact n
 there:=fun b u q _=>⟨u,k b u q⟩
 tups:=fun b xs q=>by rw [Zg (ZV q hn)];exact q
 frzs:=fun b u xs q=>by rw [Zg (ZV q hn)];exact q
 tbls:=fun b ps q=>⟨#[],by rw [Zg (ZV q hn),q];simp⟩
theorem Un.write (mu:Je (H x)) (he:e=x∨H e=some (.own x)) (k:∀b u,b≠e->h.get? b=some u->h'.get? b=some u) (heo:∃u,h'.get? e=some u):Un fs ex H (Zb H x o) h h':=by
 have hx:∀b,H b=none->b≠x:=fun b n z=>by subst z;rw [n] at mu;exact mu
 have hb:∀b,H b=none->b≠e:=fun b n z=>by
  subst z;rcases he with r|r
  ·exact hx b n r
  ·rw [n] at r;cases r
 have hm:∀b u,H b=some u->¬Je (some u)->b≠x:=fun b u q nm z=>by subst z;rw [q] at mu;exact nm mu
 refine ⟨fun b u q n _ _=>k b u (hb b n) q,fun b u q n _ _=>⟨u.slots,k b u (hb b n) q⟩,fun b u q n _=>by rw [Zg (hx b n)];exact n,fun b u q _=>?_,
  fun b xs q=>by rw [Zg (hm b _ q fun z=>z)];exact q,fun b u xs q=>by rw [Zg (hm b _ q fun z=>z)];exact q,fun b ps q=>⟨#[],by rw [Zg (hm b _ q fun z=>z),q];simp⟩⟩
 by_cases hbe:b=e
 ·subst hbe;exact heo
 ·exact ⟨u,k b u hbe q⟩
end
noncomputable def trk (h:Heap) (H:Hp):List Addr:=(List.range h.objs.size).filter fun a=>(H a).isSome
noncomputable def WV (h:Heap) (H:Hp):Heap:=W.hideAll h (trk h H)
theorem Zjf (h:Heap) (H:Hp):(WV h H).objs.size=h.objs.size:=W.hideAll_size _ _
theorem ZpF {o:Obj} (e:h.get? b=some o) (n:H b=none):(WV h H).get? b=some o :=
 W.hideAll_get _ e fun hm=>by
  have q:(H b).isSome=true:=(Q0.mp hm).2;rw [n] at q;simp at q
theorem ZmZ {o:Obj} (e:(WV h H).get? b=some o):h.get? b=some o∧H b=none:=by
 have e':h.get? b=some o:=W.of_hideAll (trk h H) e;refine ⟨e',?_⟩;cases q:H b with
 |none=>rfl
 |some x =>
  have hm:b∈trk h H:=Q0.mpr ⟨Nu.mpr (Qn e'),by simp [q]⟩;have z:(WV h H).get? b=none:=W.hideAll_none (trk h H) hm;rw [z] at e;cases e
structure Mod (K:W.Frag) (mg:Str->Option Value) (base:Heap):Prop where
 kin:K.In base
 glob:base.Ns mainGlobals mg
 blt:∃mb,base.Ns builtinsNs mb∧∀x:Str,x≠"__name__"->mb x=bootBuiltins x
 nolimit:base.NoLimit
structure Cx where
 prog:Program
 w:World
 K:W.Frag
 mg:Str->Option Value
 base:Heap
 A:Around
 N:List Str
 s₀:Shared
 H₀:Hp
 env:Env
 outer:List Env
 stack:List Env
 ex:List Addr
 fn:Str->Bool
 calm:Bool
 pn:List (Addr×Obj)
 xe:Value->Shared->Prop
noncomputable def YM (l:List Env):List Addr:=l.filterMap (·.frame)
noncomputable abbrev Cx.fs (X:Cx):List Addr:=YM X.outer
def Vis (sc:Scope) (x:Str):Prop:=sc.names.lookup x=some .local∨sc.names.lookup x=some .cell∨sc.names.lookup x=some .free
def JL (sc:Scope) (x:Str):Prop:=sc.names.lookup x=some .local∨sc.names.lookup x=some .cell
def ZmP (env:Env) (h:Heap) (m:Str->Option Value) (x:Str) (u:Value):Prop :=
 (env.kindOf x=some .local∧m x=some u)∨((env.kindOf x=some .cell∨env.kindOf x=some .free)∧∃c,env.cells.lookup x=some c∧h.IsCell c (some u))
structure Cx.Ok (X:Cx):Prop where
 mod:Mod X.K X.mg X.base
 kind:X.env.scope.kind=.function
 glob:X.env.globals=mainGlobals
 blt:X.env.builtins=builtinsNs
 above:X.s₀.heap.objs.size≤X.env.locals
 inj:∀x y c,X.env.cells.lookup x=some c->X.env.cells.lookup y=some c->x=y
 has:∀x,(X.env.kindOf x=some .cell∨X.env.kindOf x=some .free)->∃c,X.env.cells.lookup x=some c
 cab:∀x c,X.fn x=true->X.env.cells.lookup x=some c->X.s₀.heap.objs.size≤c
 hd:X.calm=true->X.A.handled=none
 frames:X.A.frames=some X.stack
 stk:X.stack=X.outer∨(X.stack=X.env::X.outer∧X.env.frame=some X.env.locals)
 exf:∀b∈X.ex,b≠X.env.locals∧∀x c,X.env.cells.lookup x=some c->c≠b
 bs:∀b o,X.base.get? b=some o->X.s₀.heap.get? b=some o∧X.H₀ b=none
 bsz:X.base.objs.size≤X.s₀.heap.objs.size
 noex:∀b o,X.base.get? b=some o->b∉X.ex
 exfs:∀b∈X.ex,b∉X.fs
 funs:X.s₀.heap.FunFrames X.base X.outer
 frf:∀b∈X.fs,X.H₀ b=none
structure Inv (X:Cx) (pins:List (Addr×Obj)) (σ:List (Option V)) (H:Hp) (s:Shared):Prop where
 ok:X.Ok
 os:s.os=X.s₀.os
 bare:AllBare s.gens
 base:Un X.fs X.ex X.H₀ H X.s₀.heap s.heap
 loc:∃m,s.heap.Ns X.env.locals m∧∀(i:Nat) (x:Str) (v:V),X.N[i]?=some x->σ[i]?=some (some v)->Vis X.env.scope x->∃u,RelV v u∧ZmP X.env s.heap m x u
 cell:∀x c,X.env.cells.lookup x=some c->∃v,s.heap.IsCell c v
 free:H X.env.locals=none
 freeC:∀x c,X.env.cells.lookup x=some c->H c=none
 pin:∀p∈X.pn++pins,s.heap.get? p.1=some p.2∧H p.1=none∧p.1≠X.env.locals∧p.1∉X.fs∧∀v,p.2.data≠.cell v
 hok:HOk X.prog X.w H s.heap
 len:σ.length=X.N.length
section
variable {σ:List (Option V)}
theorem Cx.Ok.nofr (ok:X.Ok) {o:Obj} (e:X.base.get? b=some o):b∉X.fs:=fun hb=>by
 have:=(ok.funs.mem hb).1;rw [e] at this;cases this
theorem Inv.bs (I:Inv X pins σ H s):∀b o,X.base.get? b=some o->s.heap.get? b=some o∧H b=none:=fun b o e =>
 ⟨I.base.keep b o (I.ok.bs b o e).1 (I.ok.bs b o e).2 (I.ok.nofr e) (I.ok.noex b o e),I.base.free b o (I.ok.bs b o e).1 (I.ok.bs b o e).2 (I.ok.noex b o e)⟩
theorem Inv.bk (I:Inv X pins σ H s):∀b o,X.base.get? b=some o->s.heap.get? b=some o:=fun b o e=>(I.bs b o e).1
theorem Inv.mod (I:Inv X pins σ H s):Mod X.K X.mg X.base:=I.ok.mod
theorem Inv.kIn (I:Inv X pins σ H s):X.K.In s.heap:=I.ok.mod.kin.keeps I.bk
theorem Inv.lt (I:Inv X pins σ H s):X.env.locals<s.heap.objs.size:=let ⟨_,hn,_⟩:=I.loc;hn.lt
theorem Inv.sz (I:Inv X pins σ H s):X.s₀.heap.objs.size≤s.heap.objs.size:=Qi I.ok.above (Q1 I.lt)
theorem Inv.nofs (I:Inv X pins σ H s) (h:s.heap.objs.size≤a):a∉X.fs:=fun hb=>by
 obtain ⟨_,o,ho,_⟩:=I.ok.funs.mem hb;exact absurd (QK (Qn ho) (Qi I.sz h)) (Rm _)
theorem Inv.cne (I:Inv X pins σ H s):∀x c,X.env.cells.lookup x=some c->c≠X.env.locals:=fun x c e z=>by
 obtain ⟨v,o,ho,hd⟩:=I.cell x c e;obtain ⟨m,⟨o',es,ep,ho',hd',_⟩,_⟩:=I.loc;rw [z,ho'] at ho;cases ho;rw [hd'] at hd;cases hd
theorem Inv.funs (I:Inv X pins σ H s):s.heap.FunFrames X.base X.outer:=by
 have all:∀(l:List Env),(∀b∈YM l,b∈X.fs)->X.s₀.heap.FunFrames X.base l->s.heap.FunFrames X.base l:=by
  intro l
  induction l with
  |nil=>intro _ _;trivial
  |cons env r ih =>
   intro hs hl;obtain ⟨hk,⟨L,o,hf,hn,ho,hd⟩,hr⟩:=hl;have hL:L∈X.fs:=hs L (by unfold YM;rw [Q4,hf];exact QB);obtain ⟨sl,e⟩:=I.base.slot L o ho (I.ok.frf L hL) hL fun z=>I.ok.exfs L z hL;exact ⟨hk,⟨L,_,hf,hn,e,hd⟩,ih (fun b hb=>hs b (by unfold YM;rw [Q4,hf];exact Qx _ hb)) hr⟩
 exact all X.outer (fun _ hb=>hb) I.ok.funs
theorem Inv.stack (I:Inv X pins σ H s):s.heap.FunFrames X.base X.stack:=by
 rcases I.ok.stk with e|⟨e,hf⟩
 ·rw [e];exact I.funs
 ·rw [e];obtain ⟨m,hn,_⟩:=I.loc;refine .cons (by rw [I.ok.kind];decide) hf hn ?_ I.funs;exact Heap.get?_none_of_le (Qi I.ok.bsz I.ok.above)
theorem Inv.stkSub (I:Inv X pins σ H s):∀b∈YM X.stack,b∈X.env.locals::X.fs:=fun b hb=>by
 rcases I.ok.stk with e|⟨e,hf⟩
 ·rw [e] at hb;exact Qx _ hb
 ·rw [e] at hb;unfold YM at hb;rw [Q4,hf] at hb;exact hb
theorem Inv.stkFree (I:Inv X pins σ H s):∀b∈YM X.stack,H b=none:=fun b hb=>by
 rcases Qh.mp (I.stkSub b hb) with e|hb
 ·rw [e];exact I.free
 ·obtain ⟨_,o,ho,_⟩:=I.ok.funs.mem hb;exact I.base.free b o ho (I.ok.frf b hb) fun z=>I.ok.exfs b z hb
theorem Inv.step {g':Array GenState} {d':Drawn} (I:Inv X pins σ H s)
 (hch:∀b∈ch,(b∈X.ex∨X.s₀.heap.objs.size≤b)∧b≠X.env.locals∧(∀x c,X.env.cells.lookup x=some c->c≠b)∧∀p∈X.pn++pins,p.1≠b)
 (keep:∀b o,b≠X.env.locals->b∉X.fs->b∉ch->s.heap.get? b=some o->H b=none->h'.get? b=some o)
 (slot:∀b o,b≠X.env.locals->b∈X.fs->b∉ch->s.heap.get? b=some o->H b=none->∃sl,h'.get? b=some { o with slots:=sl }) (free:∀b o,b∉ch->s.heap.get? b=some o->H b=none->H' b=none)
 (there:∀b o,b∉ch->s.heap.get? b=some o->∃o',h'.get? b=some o')
 (tups:∀b xs,H b=some (.tup xs)->H' b=some (.tup xs)) (frzs:∀b o u,H b=some (.frz o u)->H' b=some (.frz o u)) (tbls:∀b ps,H b=some (.tbl ps)->∃more,H' b=some (.tbl (ps++more)))
 (ns:∀m,s.heap.Ns X.env.locals m->h'.Ns X.env.locals m) (hok:HOk X.prog X.w H' h') (hg:AllBare g') :
  Inv X pins σ H' { s with heap:=h',gens:=g',drawn:=d',toks:=t' }:=by
 have neL:∀b o,X.s₀.heap.get? b=some o->b≠X.env.locals:=fun b o e=>QA (QK (Qn e) I.ok.above)
 have neC:∀b o,X.s₀.heap.get? b=some o->b∉X.ex->b∉ch:=fun b o e hx hb=>by
  rcases (hch b hb).1 with z|z
  ·exact hx z
  ·exact absurd (QK (Qn e) z) (Rm _)
 have cellK:∀x c,X.env.cells.lookup x=some c->∀v,s.heap.IsCell c v->h'.IsCell c v:=fun x c e v ⟨o,ho,hd⟩=>by
  have nch:c∉ch:=fun z=>(hch c z).2.2.1 x c e rfl;by_cases hc:c∈X.fs
  ·obtain ⟨sl,q⟩:=slot c o (I.cne x c e) hc nch ho (I.freeC x c e);exact ⟨_,q,hd⟩
  ·exact ⟨o,keep c o (I.cne x c e) hc nch ho (I.freeC x c e),hd⟩
 refine ⟨I.ok,I.os,hg,⟨fun b o e n hb hx=>?_,fun b o e n hb hx=>?_,fun b o e n hx=>?_,fun b o e hx=>?_,fun b xs e=>tups b xs (I.base.tups b xs e),fun b o xs e=>frzs b o xs (I.base.frzs b o xs e),fun b ps e=>?_⟩,?_,fun x c e=>?_,?_,fun x c e=>?_,fun p hp=>?_,hok,I.len⟩
 ·exact keep b o (neL b o e) hb (neC b o e hx) (I.base.keep b o e n hb hx) (I.base.free b o e n hx)
 ·obtain ⟨sl,e1⟩:=I.base.slot b o e n hb hx;obtain ⟨sl',e2⟩:=slot b _ (neL b o e) hb (neC b o e hx) e1 (I.base.free b o e n hx);exact ⟨sl',e2⟩
 ·obtain ⟨o',e1⟩:=I.base.there b o e hx;exact free b o' (neC b o e hx) e1 (I.base.free b o e n hx)
 ·obtain ⟨o',e1⟩:=I.base.there b o e hx;exact there b o' (neC b o e hx) e1
 ·obtain ⟨m1,e1⟩:=I.base.tbls b ps e;obtain ⟨m2,e2⟩:=tbls b _ e1;exact ⟨m1++m2,by rw [e2,Array.append_assoc]⟩
 ·obtain ⟨m,hn,hl⟩:=I.loc;refine ⟨m,ns m hn,fun i x v e1 e2 e3=>?_⟩;obtain ⟨u,r,l⟩:=hl i x v e1 e2 e3;refine ⟨u,r,?_⟩;rcases l with l|⟨k,c,e,z⟩
  ·exact .inl l
  ·exact .inr ⟨k,c,e,cellK x c e _ z⟩
 ·obtain ⟨v,z⟩:=I.cell x c e;exact ⟨v,cellK x c e v z⟩
 ·obtain ⟨m,⟨o,_,_,ho,_⟩,_⟩:=I.loc;exact free _ o (fun z=>(hch _ z).2.1 rfl) ho I.free
 ·obtain ⟨v,o,ho,hd⟩:=I.cell x c e;exact free c o (fun z=>(hch c z).2.2.1 x c e rfl) ho (I.freeC x c e)
 ·obtain ⟨e,n,ne,nf,d⟩:=I.pin p hp;have nch:p.1∉ch:=fun z=>(hch p.1 z).2.2.2 p hp rfl;exact ⟨keep p.1 p.2 ne nf nch e n,free p.1 p.2 nch e n,ne,nf,d⟩
theorem Inv.un (I:Inv X pins σ H s) (u:Un X.fs [] H H' s.heap h') (hok:HOk X.prog X.w H' h'):Inv X pins σ H' { s with heap:=h',toks:=t' }:=by
 obtain ⟨m,⟨o,es,ep,ho,r⟩,_⟩:=id I.loc;obtain ⟨sl,hL⟩:=u.any ho I.free (by simp)
 exact I.step (g':=s.gens) (d':=s.drawn) (ch:=[]) (fun _ z=>nomatch z) (fun b o _ hb _ e n=>u.keep b o e n hb (by simp)) (fun b o _ hb _ e n=>u.slot b o e n hb (by simp)) (fun b o _ e n=>u.free b o e n (by simp)) (fun b o _ e=>u.there b o e (by simp)) u.tups u.frzs u.tbls (fun m' hm=>by
  obtain ⟨o',es',ep',ho',r'⟩:=hm;rw [ho] at ho';cases ho';exact ⟨_,es',ep',hL,r'⟩) hok I.bare
theorem Inv.call {g':Array GenState} {d':Drawn} (I:Inv X pins σ H s) (u:Un (YM X.stack) ch H H' s.heap h') (hok:HOk X.prog X.w H' h') (hg:AllBare g')
 (hch:∀b∈ch,(b∈X.ex∨X.s₀.heap.objs.size≤b)∧b≠X.env.locals∧(∀x c,X.env.cells.lookup x=some c->c≠b)∧∀p∈X.pn++pins,p.1≠b) :
  Inv X pins σ H' { s with heap:=h',gens:=g',drawn:=d',toks:=t' }:=by
 obtain ⟨m,⟨o,es,ep,ho,r⟩,_⟩:=id I.loc;obtain ⟨sl,hL⟩:=u.any ho I.free fun z=>(hch _ z).2.1 rfl
 exact I.step (ch:=ch) hch (fun b o hL hb hc e n=>u.keep b o e n (fun z=>(Qh.mp (I.stkSub b z)).elim hL hb) hc) (fun b o _ _ hc e n=>u.any e n hc) (fun b o hc e n=>u.free b o e n hc) (fun b o hc e=>u.there b o e hc) u.tups u.frzs u.tbls (fun m' hm=>by
  obtain ⟨o',es',ep',ho',r'⟩:=hm;rw [ho] at ho';cases ho';exact ⟨_,es',ep',hL,r'⟩) hok hg
theorem Inv.turned {it:Addr} (I:Inv X pins σ H s) (k:∀b o,b≠it->s.heap.get? b=some o->h'.get? b=some o) (hn:H it=none) (hL:it≠X.env.locals)
 (h1:it∈X.ex∨X.s₀.heap.objs.size≤it) (h2:∀x c,X.env.cells.lookup x=some c->c≠it) (h3:∀p∈X.pn++pins,p.1≠it):Inv X pins σ H { s with heap:=h',toks:=t' }:=by
 have nit:∀b u,H b=some u->b≠it:=fun b u e z=>by rw [z,hn] at e;cases e
 refine I.step (g':=s.gens) (d':=s.drawn) (ch:=[it]) (fun b hb=>?_) (fun b o _ _ hc e _=>k b o (fun z=>hc (by simp [z])) e) (fun b o _ _ hc e _=>⟨o.slots,k b o (fun z=>hc (by simp [z])) e⟩) (fun _ _ _ _ n=>n)
  (fun b o hc e=>⟨o,k b o (fun z=>hc (by simp [z])) e⟩) (fun _ _ e=>e) (fun _ _ _ e=>e) (fun b ps e=>⟨#[],by rw [e];simp⟩) (fun m hm=>?_) (fun b u e=>?_) I.bare
 ·have e:b=it:=by simpa using hb
  subst e;exact ⟨h1,hL,h2,h3⟩
 ·obtain ⟨o,es,ep,ho,r⟩:=hm;exact ⟨o,es,ep,k _ o (Q2 hL) ho,r⟩
 ·refine (I.hok b u e).stay (fun c v hc q=>k c v ?_ q) (fun _ q=>q) fun _ _ q=>q;rcases hc with z|z
  ·rw [z];exact nit b u e
  ·exact nit c _ z
theorem Inv.tok (I:Inv X pins σ H s) (t:Nat):Inv X pins σ H { s with toks:=t }:=I.un (h':=s.heap) (t':=t) Un.refl I.hok
theorem Inv.kept (I:Inv X pins σ H s) (k:∀b u,s.heap.get? b=some u->h'.get? b=some u):Inv X pins σ H { s with heap:=h',toks:=t' }:=I.un (Un.kept k) (I.hok.kept k)
theorem Inv.laid (I:Inv X pins σ H s) (k:∀b u,s.heap.get? b=some u->h'.get? b=some u) (hp:s.heap.objs.size≤a) (new:ObjOk X.prog X.w (Zb H a o) h' a o) :
  Inv X pins σ (Zb H a o) { s with heap:=h',toks:=t' }:=I.un (Un.laid k hp (I.hok.fresh hp)) (I.hok.laid k hp new)
theorem Inv.write {x e:Addr} (I:Inv X pins σ H s) (mu:Je (H x)) (he:e=x∨H e=some (.own x)) (k:∀b u,b≠e->s.heap.get? b=some u->h'.get? b=some u) (heo:∃u,h'.get? e=some u)
 (new:ObjOk X.prog X.w (Zb H x o) h' x o):Inv X pins σ (Zb H x o) { s with heap:=h',toks:=t' }:=I.un (Un.write mu he k heo) (I.hok.write mu he k heo new)
theorem Inv.pins_of {pins':List (Addr×Obj)} (I:Inv X pins σ H s) (h:∀p∈pins',s.heap.get? p.1=some p.2∧H p.1=none∧p.1≠X.env.locals∧p.1∉X.fs∧∀v,p.2.data≠.cell v):Inv X pins' σ H s :=
 ⟨I.ok,I.os,I.bare,I.base,I.loc,I.cell,I.free,I.freeC,fun p hp=>(Qq.mp hp).elim (fun z=>I.pin p (Q9 _ z)) (h p),I.hok,I.len⟩
theorem Zgu (hN:N.Nodup) {x:Str} (a:N[i]?=some x) (b:N[j]?=some x):i=j:=by
 obtain ⟨h1,e1⟩:=QC.mp a;obtain ⟨h2,e2⟩:=QC.mp b;exact (GP hN).mp (e1.trans e2.symm)
theorem Zgg {x:Str} {Q:Unit->Shared->Prop} (I:Inv X pins σ H s) (hN:X.N.Nodup) (hi:X.N[i]?=some x) (hx:JL X.env.scope x) (r:RelV v u)
 (h:∀s',Inv X pins (σ.set i (some v)) H s'->(∃a,Heap.SameBut a s.heap s'.heap∧(a=X.env.locals∨X.env.cells.lookup x=some a))->Q () s') (hf:X.fn x=true∨X.env.scope.names.lookup x=some .local:=by first|exact .inl rfl|exact .inr rfl|assumption):wpAny M A (storeName X.env x u) Q E s:=by
 obtain ⟨m,hn,hl⟩:=id I.loc;have hcls:(X.env.scope.kind==.class||(X.env.scope.kind==.module&&X.env.locals != X.env.globals))=false:=by rw [I.ok.kind];rfl
 have hiσ:i<σ.length:=by rw [I.len];exact (QC.mp hi).1
 have cne:=I.cne
 have tracked:∀{a:Addr} {h':Heap},(∃o,s.heap.get? a=some o∧H a=none)->Heap.SameBut a s.heap h'->HOk X.prog X.w H h':=fun {a h'} ha hs b ob e=>by
  obtain ⟨_,_,hfree⟩:=ha;refine (I.hok b ob e).stay (fun c w' hc q=>(hs.2 c ?_).trans q) (fun _ q=>q) fun _ _ q=>q;rintro rfl;rcases hc with rfl|hc
  ·rw [hfree] at e;cases e
  ·rw [hfree] at hc;cases hc
 rcases hx with hk|hk
 ·refine wpAny_storeName_local hk hn (fun h' hn' hs=>?_) hcls;obtain ⟨oL,_,_,hoL,_⟩:=id hn;refine h _ ⟨I.ok,I.os,I.bare,⟨fun b o e n hb hx=>?_,fun b o e n hb hx=>?_,I.base.free,fun b o e hx=>?_,I.base.tups,I.base.frzs,I.base.tbls⟩,⟨_,hn',fun j y v' e1 e2 e3=>?_⟩,fun y c e=>?_,I.free,I.freeC,fun p hp=>?_,tracked ⟨oL,hoL,I.free⟩ hs,by simpa using I.len⟩ ⟨_,hs,.inl rfl⟩
  ·exact (hs.2 b (QA (QK (Qn e) I.ok.above))).trans (I.base.keep b o e n hb hx)
  ·obtain ⟨sl,e1⟩:=I.base.slot b o e n hb hx;exact ⟨sl,(hs.2 b (QA (QK (Qn e) I.ok.above))).trans e1⟩
  ·obtain ⟨o',e1⟩:=I.base.there b o e hx;exact ⟨o',(hs.2 b (QA (QK (Qn e) I.ok.above))).trans e1⟩
  ·by_cases hj:j=i
   ·subst hj;rw [hi] at e1;cases e1;rw [List.getElem?_set_self hiσ] at e2;cases e2;exact ⟨u,r,.inl ⟨hk,by simp⟩⟩
   ·rw [List.getElem?_set_ne (Q2 hj)] at e2;obtain ⟨u',r',q⟩:=hl j y v' e1 e2 e3;refine ⟨u',r',?_⟩;rcases q with ⟨k,e⟩|⟨k,c,e,z⟩
    ·refine .inl ⟨k,?_⟩;have:y≠x:=fun e=>hj (Zgu hN e1 (e▸hi));simp [this,e]
    ·exact .inr ⟨k,c,e,z.sameBut hs (cne y c e)⟩
  ·obtain ⟨w',z⟩:=I.cell y c e;exact ⟨w',z.sameBut hs (cne y c e)⟩
  ·obtain ⟨e,n,ne,nf,d⟩:=I.pin p hp;exact ⟨(hs.2 p.1 ne).trans e,n,ne,nf,d⟩
 ·have hfn:X.fn x=true:=by
   rcases hf with z|z
   ·exact z
   ·rw [z] at hk;cases hk
  obtain ⟨c,hc⟩:=I.ok.has x (.inl hk);obtain ⟨w',z⟩:=I.cell x c hc;refine wpAny_storeName_cell I.ok.kind hk hc z (fun h' hc' hs=>?_);obtain ⟨oc,hoc,hocd⟩:=id z;refine h { s with heap:=h' } ⟨I.ok,I.os,I.bare,⟨fun b o e n hb hx=>?_,fun b o e n hb hx=>?_,I.base.free,fun b o e hx=>?_,I.base.tups,I.base.frzs,I.base.tbls⟩,⟨m,hn.sameBut hs (Q2 (cne x c hc)),fun j y v' e1 e2 e3=>?_⟩,fun y c' e=>?_,I.free,I.freeC,fun p hp=>?_,tracked ⟨oc,hoc,I.freeC x c hc⟩ hs,by simpa using I.len⟩ ⟨c,hs,.inr hc⟩
  ·exact (hs.2 b (QA (QK (Qn e) (I.ok.cab x c hfn hc)))).trans (I.base.keep b o e n hb hx)
  ·obtain ⟨sl,e1⟩:=I.base.slot b o e n hb hx;exact ⟨sl,(hs.2 b (QA (QK (Qn e) (I.ok.cab x c hfn hc)))).trans e1⟩
  ·obtain ⟨o',e1⟩:=I.base.there b o e hx;exact ⟨o',(hs.2 b (QA (QK (Qn e) (I.ok.cab x c hfn hc)))).trans e1⟩
  ·by_cases hj:j=i
   ·subst hj;rw [hi] at e1;cases e1;rw [List.getElem?_set_self hiσ] at e2;cases e2;exact ⟨u,r,.inr ⟨.inl hk,c,hc,hc'⟩⟩
   ·rw [List.getElem?_set_ne (Q2 hj)] at e2;obtain ⟨u',r',q⟩:=hl j y v' e1 e2 e3;refine ⟨u',r',?_⟩;rcases q with q|⟨k,c',e,z'⟩
    ·exact .inl q
    ·refine .inr ⟨k,c',e,z'.sameBut hs ?_⟩;rintro rfl;exact hj (Zgu hN e1 (I.ok.inj _ _ _ e hc▸hi))
  ·by_cases hcc:c'=c
   ·subst hcc;exact ⟨_,hc'⟩
   ·obtain ⟨w2,z2⟩:=I.cell y c' e;exact ⟨w2,z2.sameBut hs hcc⟩
  ·obtain ⟨e,n,ne,nf,d⟩:=I.pin p hp;refine ⟨(hs.2 p.1 ?_).trans e,n,ne,nf,d⟩;intro q;rw [q,hoc] at e;have q':oc=p.2:=Ql e;exact d w' (by rw [←q'];exact hocd)
theorem ZaO {x:Str} {Q:Unit->Shared->Prop} (I:Inv X pins σ H s) (hN:X.N.Nodup) (hi:X.N[i]?=some x) (hx:JL X.env.scope x) (r:RelV v u)
 (h:∀s',Inv X pins (σ.set i (some v)) H s'->Q () s') (hf:X.fn x=true∨X.env.scope.names.lookup x=some .local:=by first|exact .inl rfl|exact .inr rfl|assumption):wpAny M A (storeName X.env x u) Q E s :=
 Zgg I hN hi hx r (fun s' I' _=>h s' I') hf
theorem Inv.call' {s':Shared} (I:Inv X pins σ H s) (ho:s'.os=s.os) (u:Un (YM X.stack) ch H H' s.heap s'.heap) (hok:HOk X.prog X.w H' s'.heap) (hg:AllBare s'.gens)
 (hch:∀b∈ch,(b∈X.ex∨X.s₀.heap.objs.size≤b)∧b≠X.env.locals∧(∀x c,X.env.cells.lookup x=some c->c≠b)∧∀p∈X.pn++pins,p.1≠b):Inv X pins σ H' s':=by
 obtain ⟨h',g',d',t',o'⟩:=s';have e:o'=s.os:=ho;subst e;exact I.call (g':=g') (t':=t') (d':=d') u hok hg hch
end
abbrev XK:=Value->Option Addr->Hp->Prop
abbrev St:=List (Option V)
abbrev VK:=V->Hp->Prop
abbrev TE:=St->Hp->VK->Prop
abbrev TT:=St->Hp->(Bool->Hp->Prop)->Prop
abbrev TA:=St->Hp->(List V->Hp->Prop)->Prop
structure Ends where
 nx:St->Hp->Prop
 rt:VK
 bk:St->Hp->Prop:=fun _ _=>False
 ct:St->Hp->Prop:=fun _ _=>False
abbrev TS:=Ends->St->Hp->Prop
def EP (X:Cx) (pins:List (Addr×Obj)) (σ:St) (Q:VK) (u:Value) (s':Shared):Prop:=∃v H',Inv X pins σ H' s'∧RelV v u∧Q v H'
def TP (X:Cx) (pins:List (Addr×Obj)) (σ:St) (Q:Bool->Hp->Prop) (b:Bool) (s':Shared):Prop:=∃H',Inv X pins σ H' s'∧Q b H'
def AP (X:Cx) (pins:List (Addr×Obj)) (σ:St) (Q:List V->Hp->Prop) (us:List Value) (s':Shared):Prop:=∃vs H',Inv X pins σ H' s'∧Vals vs us∧Q vs H'
def SP (X:Cx) (pins:List (Addr×Obj)) (D:Ends) (f:Flow) (s':Shared):Prop :=
 match f with
 |.next=>∃σ' H',Inv X pins σ' H' s'∧D.nx σ' H'
 |.brk=>∃σ' H',Inv X pins σ' H' s'∧D.bk σ' H'
 |.cont=>∃σ' H',Inv X pins σ' H' s'∧D.ct σ' H'
 |.ret u=>∃v σ' H',Inv X pins σ' H' s'∧RelV v u∧D.rt v H'
def PE (X:Cx) (e:Expr) (t:TE):Prop :=
 ∀(pins:List (Addr×Obj)) (s:Shared) (σ:St) (H:Hp) (Q:VK),Inv X pins σ H s->t σ H Q->wpAny (model X.prog X.w) X.A (eval e X.env) (EP X pins σ Q) X.xe s
def PT (X:Cx) (e:Expr) (t:TT):Prop :=
 ∀(pins:List (Addr×Obj)) (s:Shared) (σ:St) (H:Hp) (Q:Bool->Hp->Prop),Inv X pins σ H s->t σ H Q->wpAny (model X.prog X.w) X.A (isTrue e X.env (eval e X.env)) (TP X pins σ Q) X.xe s
def PW (X:Cx) (e:Expr) (t:TT):Prop :=
 ∀(whole:Sem Value) (pins:List (Addr×Obj)) (s:Shared) (σ:St) (H:Hp) (Q:Bool->Hp->Prop),Inv X pins σ H s->t σ H Q->wpAny (model X.prog X.w) X.A (isTrue e X.env whole) (TP X pins σ Q) X.xe s
theorem PW.pt {t:TT} (h:PW X e t):PT X e t:=h _
def PA (X:Cx) (es:List Expr) (t:TA):Prop :=
 ∀(pos:Pos) (pins:List (Addr×Obj)) (s:Shared) (σ:St) (H:Hp) (Q:List V->Hp->Prop),Inv X pins σ H s->t σ H Q->wpAny (model X.prog X.w) X.A (spliced (backTo pos (starEach es X.env))) (AP X pins σ Q) X.xe s
def PS (X:Cx) (st:Stmt) (t:TS):Prop :=
 ∀(pins:List (Addr×Obj)) (s:Shared) (σ:St) (H:Hp) (D:Ends),Inv X pins σ H s->t D σ H->wpAny (model X.prog X.w) X.A (exec st X.env) (SP X pins D) X.xe s
def PSs (X:Cx) (st:List Stmt) (t:TS):Prop :=
 ∀(pins:List (Addr×Obj)) (s:Shared) (σ:St) (H:Hp) (D:Ends),Inv X pins σ H s->t D σ H->wpAny (model X.prog X.w) X.A (execs st X.env) (SP X pins D) X.xe s
theorem Zq {α:Type} {t:Sem α} {Q Q':α->Shared->Prop} (h:wpAny M A t Q E s) (hQ:∀a s,Q a s->Q' a s):wpAny M A t Q' E s:=Ra h hQ fun _ _ x=>x
section
def XJ (i:Nat):TE:=fun σ H Q=>∃v,σ[i]?=some (some v)∧Q v H
def tC (v:V):TE:=fun _ H Q=>Q v H
theorem ZgX {x:Str} (hN:X.N[i]?=some x) (hv:Vis X.env.scope x) (hd:(x==("__debug__": Str))=false:=by decide) (hcd:(x==("__classdict__": Str))=false:=by decide):PE X (.Name x pos) (XJ i):=by
 intro pins s σ H Q I h;obtain ⟨v,e,h⟩:=h;obtain ⟨m,hn,hl⟩:=I.loc;obtain ⟨u,r,l⟩:=hl i x v hN e hv;have fin:EP X pins σ Q u s:=⟨v,H,I,r,h⟩;rcases l with ⟨hk,hm⟩|⟨hk,c,hc,hcell⟩
 ·exact wpAny_Name (wpAny_loadName_local I.ok.kind hk hn hm fin) hd
 ·rcases hk with hk|hk
  ·exact wpAny_Name (wpAny_loadName_cell I.ok.kind hk hc hcell fin) hd
  ·exact wpAny_Name (wpAny_loadName_free I.ok.kind hk hc hcell fin hcd) hd
theorem Zf {i j pos}:PE X (.Constant (.int i) j pos) (tC (.int i)):=fun _ _ _ H _ I h=>wpAny_Constant_int ⟨.int i,H,I.tok _,⟨_,rfl⟩,h⟩
theorem Xc {b j pos}:PE X (.Constant (.bool b) j pos) (tC (.bl b)):=fun _ _ _ H _ I h=>Constant_bool ⟨.bl b,H,I,rfl,h⟩
theorem Zbt {j pos}:PE X (.Constant .none j pos) (tC .non):=fun _ _ _ H _ I h=>Constant_none ⟨.non,H,I,rfl,h⟩
theorem Zn {x j pos}:PE X (.Constant (.str x) j pos) (tC (.str x)):=fun _ _ _ H _ I h=>Calls.Constant_str ⟨.str x,H,I.tok _,⟨_,rfl⟩,h⟩
def Gl (X:Cx) (x:Str):Prop:=X.env.kindOf x=some .globalImplicit
theorem JE {x:Str} (I:Inv X pins σ H s) (hg:Gl X x) (hm:X.mg x=some u) (h:Q u s)
 (hd:(x==("__debug__": Str))=false:=by decide):wpAny (model X.prog X.w) X.A (eval (.Name x pos) X.env) Q E s :=
 Calls.Name_function_global I.ok.kind hg (Calls.loadGlobal_global (by rw [I.ok.glob];exact I.mod.glob.keeps I.bk) hm h) hd
theorem UQ {x:Str} (I:Inv X pins σ H s) (hg:Gl X x) (hm:X.mg x=none) (hv:bootBuiltins x=some u) (h:Q u s)
 (hn:x≠"__name__":=by decide) (hd:(x==("__debug__": Str))=false:=by decide):wpAny (model X.prog X.w) X.A (eval (.Name x pos) X.env) Q E s:=by
 obtain ⟨mb,h1,h2⟩:=I.mod.blt;exact Calls.Name_function_global I.ok.kind hg (Calls.loadGlobal_builtin (by rw [I.ok.glob];exact I.mod.glob.keeps I.bk) hm (by rw [I.ok.blt];exact h1.keeps I.bk) ((h2 x hn).trans hv) h) hd
theorem Wv {x:Str} (hg:Gl X x) (hm:X.mg x=some u) (r:RelV v u) (hd:(x==("__debug__": Str))=false:=by decide):PE X (.Name x pos) (tC v) :=
 fun _ _ _ H _ I h=>JE I hg hm ⟨v,H,I,r,h⟩ hd
theorem XD {x:Str} (hg:Gl X x) (hm:X.mg x=none) (hv:bootBuiltins x=some u) (r:RelV v u) (hn:x≠"__name__":=by decide) (hd:(x==("__debug__": Str))=false:=by decide):PE X (.Name x pos) (tC v) :=
 fun _ _ _ H _ I h=>UQ I hg hm hv ⟨v,H,I,r,h⟩ hn hd
variable {a b:Expr} {tb:TE}
def PC (X:Cx) (op:CmpOp) (a b:Expr) (t:TE):Prop :=
 ∀(pins:List (Addr×Obj)) (s:Shared) (σ:St) (H:Hp) (Q:VK),Inv X pins σ H s->t σ H Q →
  wpAny (model X.prog X.w) X.A (eval a X.env) (fun v s₁=>wpAny (model X.prog X.w) X.A (eval b X.env) (fun u s₂=>wpAny (model X.prog X.w) X.A (compareOp op v u) (EP X pins σ Q) X.xe s₂) X.xe s₁) X.xe s
def tB (t:TE):TT:=fun σ H Q=>t σ H fun x H1=>∃c,x=.bl c∧Q c H1
theorem VL {t:TE} (h:PC X op a b t) (h1:behindInMarks op b=false:=by first|exact nobehind _ (by decide) (by decide)|rfl):PT X (.Compare a [op] [b] pos) (tB t):=by
 intro pins s σ H Q I hw;refine wpAny_isTrue_Compare1 (Zq (h pins s σ H _ I hw) fun v s1 h1=>Zq h1 fun u s2 h2=>Zq h2 fun c s3 ⟨x,H1,I1,r1,q1⟩=>?_) h1;obtain ⟨d,rfl,q⟩:=q1;cases r1;exact RN ⟨H1,I1,q⟩
theorem YB {t:TE} (h:PE X e t) (he:∀whole,isTrue e X.env whole=(do let v ←whole;standAt e.pos;holding [v] (truthy v)):=by intro _;rfl):PT X e (tB t):=by
 intro pins s σ H Q I hw;refine isTrue_plain (Zq (h pins s σ H _ I hw) fun v s1 ⟨x,H1,I1,r1,q1⟩=>?_) (he _);obtain ⟨d,rfl,q⟩:=q1;cases r1;exact RN ⟨H1,I1,q⟩
variable {tA tB':TT} {rest:List Expr}
def Zns (t u:TT):TT:=fun σ H Q=>t σ H fun c H1=>if c=true then u σ H1 Q else Q false H1
def tOr (t u:TT):TT:=fun σ H Q=>t σ H fun c H1=>if c=true then Q true H1 else u σ H1 Q
def Zpz (t:TT):TT:=fun σ H Q=>t σ H fun c H1=>Q (!c) H1
theorem VZ (ha:PT X a tA):PW X (.BoolOp .And [a] pos) tA:=by
 intro wh pins s σ H Q I h;refine isTrue_and (Zq (ha pins s σ H Q I h) fun c s1 e=>?_);cases c with
 |true=>exact isTrue_and_nil e
 |false=>exact e
theorem XR (ha:PT X a tA):PW X (.BoolOp .Or [a] pos) tA:=by
 intro wh pins s σ H Q I h;refine isTrue_or (Zq (ha pins s σ H Q I h) fun c s1 e=>?_);cases c with
 |false=>exact isTrue_or_nil e
 |true=>exact e
theorem VW (ha:PT X a tA) (hb:PW X (.BoolOp .And (b::rest) pos) tB'):PW X (.BoolOp .And (a::b::rest) pos) (Zns tA tB'):=by
 intro wh pins s σ H Q I h;refine isTrue_and (Zq (ha pins s σ H _ I h) fun c s1 ⟨H1,I1,q1⟩=>?_);cases c with
 |true=>exact hb wh pins s1 σ H1 Q I1 q1
 |false=>exact ⟨H1,I1,q1⟩
theorem XF (ha:PT X a tA) (hb:PW X (.BoolOp .Or (b::rest) pos) tB'):PW X (.BoolOp .Or (a::b::rest) pos) (tOr tA tB'):=by
 intro wh pins s σ H Q I h;refine isTrue_or (Zq (ha pins s σ H _ I h) fun c s1 ⟨H1,I1,q1⟩=>?_);cases c with
 |true=>exact ⟨H1,I1,q1⟩
 |false=>exact hb wh pins s1 σ H1 Q I1 q1
theorem Xx (ha:PT X a tA):PT X (.UnaryOp .Not a pos) (Zpz tA):=by
 intro pins s σ H Q I h;exact isTrue_not (ha pins s σ H (fun c H1=>Q (!c) H1) I h)
def Zn7 (ta tb:TE):TE:=fun σ H Q=>ta σ H fun x H1=>∃c,x=.bl c∧if c=true then tb σ H1 Q else Q (.bl false) H1
def ZjL (ta tb:TE):TE:=fun σ H Q=>ta σ H fun x H1=>∃c,x=.bl c∧if c=true then Q (.bl true) H1 else tb σ H1 Q
def ZkW (ta:TE):TE:=fun σ H Q=>ta σ H fun x H1=>∃c,x=.bl c∧Q (.bl (!c)) H1
theorem Wc {op} {t:TE} (h:PE X a t):PE X (.BoolOp op [a] pos) t:=fun pins s σ H Q I hw=>BoolOp_one (h pins s σ H Q I hw)
theorem Ww (ha:PE X a ta) (hb:PE X (.BoolOp .And (b::rest) pos) tb):PE X (.BoolOp .And (a::b::rest) pos) (Zn7 ta tb):=by
 intro pins s σ H Q I h;refine BoolOp_and (Zq (ha pins s σ H _ I h) fun v s1 ⟨x,H1,I1,r1,q1⟩=>?_);obtain ⟨c,rfl,q1⟩:=q1;cases r1;refine RN ?_;cases c with
 |true=>exact hb pins s1 σ H1 Q I1 q1
 |false=>exact ⟨.bl false,H1,I1,rfl,q1⟩
theorem Zgc (ha:PE X a ta) (hb:PE X (.BoolOp .Or (b::rest) pos) tb):PE X (.BoolOp .Or (a::b::rest) pos) (ZjL ta tb):=by
 intro pins s σ H Q I h;refine BoolOp_or (Zq (ha pins s σ H _ I h) fun v s1 ⟨x,H1,I1,r1,q1⟩=>?_);obtain ⟨c,rfl,q1⟩:=q1;cases r1;refine RN ?_;cases c with
 |false=>exact hb pins s1 σ H1 Q I1 q1
 |true=>exact ⟨.bl true,H1,I1,rfl,q1⟩
theorem ZkZ (ha:PE X a ta):PE X (.UnaryOp .Not a pos) (ZkW ta):=by
 intro pins s σ H Q I h;refine UnaryOp_ (Zq (ha pins s σ H _ I h) fun v s1 ⟨x,H1,I1,r1,q1⟩=>?_);obtain ⟨c,rfl,q1⟩:=q1;cases r1;exact not_of (RN ⟨.bl (!c),H1,I1,rfl,q1⟩)
def tIf (t:TT) (ta tb:TE):TE:=fun σ H Q=>t σ H fun c H1=>if c=true then ta σ H1 Q else tb σ H1 Q
theorem Zjg (hc:PT X c tA) (ha:PE X a ta) (hb:PE X b tb):PE X (.IfExp c a b pos) (tIf tA ta tb):=by
 intro pins s σ H Q I h;refine wpAny_IfExp (Zq (hc pins s σ H _ I h) fun d s1 ⟨H1,I1,q1⟩=>?_);cases d with
 |true=>exact ha pins s1 σ H1 Q I1 q1
 |false=>exact hb pins s1 σ H1 Q I1 q1
end
def SqL (K:W.Frag) (H:Hp) (a:Addr) (xs:List V):Prop :=
 Rd H a (.lst xs) ∨
  ∃(o:Obj) (its:Array Value) (n:Nat),K.lookup a=some o∧o.cls=.type "list"∧o.dict=none∧o.data=.seq its n∧its.size≤sizeLine∧Vals xs its.toList
def SqT (K:W.Frag) (H:Hp) (a:Addr) (xs:List V):Prop :=
 Rd H a (.tup xs) ∨
  ∃(o:Obj) (its:Array Value) (n:Nat),K.lookup a=some o∧o.cls=.type "tuple"∧o.data=.seq its n∧its.size≤sizeLine∧Vals xs its.toList
noncomputable def ZlV:Value->Option V
 |.none=>some .non
 |.bool b=>some (.bl b)
 |.int i _=>some (.int i)
 |.str x _=>some (.str x)
 |.bytes b _=>some (.byt b)
 |.float b _=>some (.flt b)
 |.ref a=>some (.ref a)
 |.type n=>some (.ty n)
 |_=>none
theorem RelV.abs {x:V} (r:RelV x u):ZlV u=some x:=by
 cases x with
 |non=>cases r;rfl
 |bl _=>cases r;rfl
 |int _=>obtain ⟨t,rfl⟩:=r;rfl
 |str _=>obtain ⟨t,rfl⟩:=r;rfl
 |byt _=>obtain ⟨t,rfl⟩:=r;rfl
 |flt _=>obtain ⟨t,rfl⟩:=r;rfl
 |ref _=>cases r;rfl
 |ty _=>cases r;rfl
theorem RelV.inj {x:V} (r:RelV x u) (q:RelV y u):x=y:=Ql (r.abs.symm.trans q.abs)
theorem Vals.inj:∀{xs ys:List V} {us:List Value},Vals xs us->Vals ys us->xs=ys
 |_,_,_,.nil,.nil=>rfl
 |_,_,_,.cons r t,.cons r' t'=>by rw [r.inj r',Vals.inj t t']
section
variable {ys:List V}
theorem SqL.of (h:H a=some (.lst xs)):SqL K H a xs:=.inl (.inl h)
theorem SqT.of (h:H a=some (.tup xs)):SqT K H a xs:=.inl (.inl h)
theorem Inv.list (I:Inv X pins σ H s) (h:SqL X.K H a xs):∃its:List Value,Vals xs its∧PlainL s.heap a its.toArray∧xs.length≤sizeLine:=by
 rcases h with h|⟨o,its,n,hk,hc,hd,hs,hz,r⟩
 ·obtain ⟨z,its,n,r,e⟩:=h.ok I.hok;exact ⟨its,r,⟨_,n,e,rfl,rfl,rfl⟩,z⟩
 ·refine ⟨its.toList,r,⟨o,n,I.kIn a o hk,hc,hd,by simpa using hs⟩,?_⟩;have e:=r.length;simp only [QD] at e;omega
theorem Inv.tuple (I:Inv X pins σ H s) (h:SqT X.K H a xs):∃its:List Value,Vals xs its∧IsTup s.heap a its.toArray∧xs.length≤sizeLine:=by
 rcases h with h|⟨o,its,n,hk,hc,hs,hz,r⟩
 ·obtain ⟨z,its,r,p⟩:=h.ok I.hok;exact ⟨its,r,p,z⟩
 ·refine ⟨its.toList,r,⟨o,I.kIn a o hk,hc,n,by simpa using hs⟩,?_⟩;have e:=r.length;simp only [QD] at e;omega
theorem Inv.list_inj (I:Inv X pins σ H s) (h:SqL X.K H a xs) (h':SqL X.K H a ys):xs=ys:=by
 obtain ⟨its,r,⟨o,n,e,_,_,d⟩,_⟩:=I.list h;obtain ⟨its',r',⟨o',n',e',_,_,d'⟩,_⟩:=I.list h';rw [e] at e';cases e';rw [d] at d';injection d' with d1 _;have:its=its':=by simpa using Qj Array.toList d1
 subst this;exact r.inj r'
theorem Inv.tuple_inj (I:Inv X pins σ H s) (h:SqT X.K H a xs) (h':SqT X.K H a ys):xs=ys:=by
 obtain ⟨its,r,⟨o,e,_,n,d⟩,_⟩:=I.tuple h;obtain ⟨its',r',⟨o',e',_,n',d'⟩,_⟩:=I.tuple h';rw [e] at e';cases e';rw [d] at d';injection d' with d1 _;have:its=its':=by simpa using Qj Array.toList d1
 subst this;exact r.inj r'
end
section
variable {st:Stmt} {rest:List Stmt} {t u:TS}
def Zee:TS:=fun D σ H=>D.nx σ H
def Jg (t u:TS):TS:=fun D σ H=>t { D with nx:=u D } σ H
theorem ZH:PSs X [] Zee:=fun _ _ σ H _ I h=>wpAny_execs_nil ⟨σ,H,I,h⟩
theorem Zl (h1:PS X st t) (h2:PSs X rest u):PSs X (st::rest) (Jg t u):=by
 intro pins s σ H D I h;refine wpAny_execs_cons (Zq (h1 pins s σ H { D with nx:=u D } I h) fun f s1 q=>?_);cases f with
 |next =>
  obtain ⟨σ',H',I',q⟩:=q;exact h2 pins s1 σ' H' D I' q
 |ret v=>exact q
 |brk=>exact q
 |cont=>exact q
theorem Zj (h1:PS X st t):PSs X [st] t:=by
 intro pins s σ H D I h;refine wpAny_execs_cons (Zq (h1 pins s σ H D I h) fun f s1 q=>?_);cases f with
 |next=>exact wpAny_execs_nil q
 |ret v=>exact q
 |brk=>exact q
 |cont=>exact q
theorem Inv.quiet (I:Inv X pins σ H s):interactive X.env=false:=by simp [interactive,I.ok.kind]
def Zlx (te:TE):TS:=fun D σ H=>te σ H fun _ H1=>D.nx σ H1
theorem Yv (he:PE X e te) (hs:swapsWith e none pos.line X.env=pure false:=by rfl):PS X (.Expr e pos) (Zlx te):=by
 intro pins s σ H D I h;exact wpAny_Expr_any (Zq (he pins s σ H _ I h) fun v s1 ⟨x,H1,I1,r1,q1⟩=>⟨σ,H1,I1,q1⟩) I.quiet hs
def ZkS (te:TE):TS:=fun D σ H=>te σ H D.rt
theorem Zu (he:PE X e te):PS X (.Return (some e) pos) (ZkS te):=by
 intro pins s σ H D I h;exact wpAny_Return_some (Zq (he pins s σ H _ I h) fun v s1 ⟨x,H1,I1,r1,q1⟩=>⟨x,σ,H1,I1,r1,q1⟩)
def Zl2 (c:TT) (t u:TS):TS:=fun D σ H=>c σ H fun b H1=>if b=true then t D σ H1 else u D σ H1
theorem ZE {a b:List Stmt} {tc:TT} (hc:PT X c tc) (ha:PSs X a t) (hb:PSs X b u):PS X (.If c a b pos) (Zl2 tc t u):=by
 intro pins s σ H D I h;refine wpAny_If (Zq (hc pins s σ H _ I h) fun d s1 ⟨H1,I1,q1⟩=>?_);cases d with
 |true=>exact ha pins s1 σ H1 D I1 q1
 |false=>exact hb pins s1 σ H1 D I1 q1
end
abbrev TG:=V->St->Hp->(St->Hp->Prop)->Prop
abbrev Vl:=List V->St->Hp->(St->Hp->Prop)->Prop
def PG (X:Cx) (target:Expr) (t:TG):Prop :=
 ∀(pins:List (Addr×Obj)) (s:Shared) (σ:St) (H:Hp) (v:V) (u:Value) (Q:St->Hp->Prop),Inv X pins σ H s->RelV v u->t v σ H Q →
  wpAny (model X.prog X.w) X.A (assign target X.env u) (fun _ s'=>∃σ' H',Inv X pins σ' H' s'∧Q σ' H') X.xe s
def JS (X:Cx) (ts:List Expr) (t:Vl):Prop :=
 ∀(pins:List (Addr×Obj)) (s:Shared) (σ:St) (H:Hp) (vs:List V) (us:List Value) (Q:St->Hp->Prop),Inv X pins σ H s->Vals vs us->t vs σ H Q →
  wpAny (model X.prog X.w) X.A (assignInOrder ((assignEach ts X.env).map (·.2)) us) (fun _ s'=>∃σ' H',Inv X pins σ' H' s'∧Q σ' H') X.xe s
def Z7 (i:Nat):TG:=fun v σ H Q=>Q (σ.set i (some v)) H
theorem ZT {x:Str} (hN:X.N.Nodup) (hi:X.N[i]?=some x) (hx:JL X.env.scope x) (hf:X.fn x=true∨X.env.scope.names.lookup x=some .local:=by first|exact .inl rfl|exact .inr rfl|assumption):PG X (.Name x pos) (Z7 i):=by
 intro pins s σ H v u Q I r h;exact wpAny_assign_Name (ZaO I hN hi hx r (fun s' I'=>⟨_,H,I',h⟩) hf)
noncomputable def Zqi:Vl:=fun vs σ H Q=>vs=[]∧Q σ H
noncomputable def ZkI (t:TG) (u:Vl):Vl:=fun vs σ H Q=>∃v r,vs=v::r∧t v σ H fun σ' H'=>u r σ' H' Q
theorem JX:JS X [] Zqi:=by
 intro pins s σ H vs us Q I r h;obtain ⟨e,h⟩:=h;subst e;cases r;exact assignInOrder_nil ⟨σ,H,I,h⟩
theorem WJ {t:TG} {u:Vl} (h1:PG X e t) (h2:JS X es u)
 (hs:(assignEach (e::es) X.env).map (·.2)=assign e X.env::(assignEach es X.env).map (·.2):=by rfl):JS X (e::es) (ZkI t u):=by
 intro pins s σ H vs us Q I r h;obtain ⟨v,vr,e1,h⟩:=h;subst e1;cases r with
 |cons r rr =>
  rw [hs];refine assignInOrder_cons (Zq (h1 pins s σ H _ _ _ I r h) fun _ s1 ⟨σ1,H1,I1,q1⟩=>?_);exact h2 pins s1 σ1 H1 _ _ Q I1 rr q1
def Zh6 (K:W.Frag) (n:Nat) (t:Vl):TG:=fun v σ H Q=>∃a xs,v=.ref a∧SqT K H a xs∧xs.length=n∧t xs σ H Q
theorem Jz {k:Nat} {t:Vl} (hc:X.calm=true) (h:JS X es t)
 (hn:(assignEach es X.env).length=n:=by rfl) (hst:(assignEach es X.env).findIdx? (·.1)=none:=by rfl):PG X (.Tuple es k pos) (Zh6 X.K n t):=by
 intro pins s σ H v u Q I r hw;obtain ⟨a,xs,e1,hq,hl,hw⟩:=hw;subst e1;cases r;obtain ⟨its,rv,ht,hz⟩:=I.tuple hq;refine assign_Tuple_tuple (I.ok.hd hc) ht (by simp [hn,←hl,rv.length]) hst fun h' hx=>?_;have I1:Inv X pins σ H { s with heap:=h' }:=I.kept (t':=s.toks) fun b o e=>hx b o (QA (Qn e)) e;exact h pins _ σ H xs _ Q I1 (by simpa using rv) hw
def Zdo (te:TE) (g:TG):TS:=fun D σ H=>te σ H fun x H1=>g x σ H1 D.nx
theorem ZG {x:Str} {pos':Pos} (hN:X.N.Nodup) (hi:X.N[i]?=some x) (hx:JL X.env.scope x) (he:PE X e te) (hs:swapsWith e (some (.Name x pos')) pos.line X.env=pure false:=by rfl) (hf:X.fn x=true∨X.env.scope.names.lookup x=some .local:=by first|exact .inl rfl|exact .inr rfl|assumption) :
  PS X (.Assign [.Name x pos'] e pos) (Zdo te (Z7 i)):=by
 intro pins s σ H D I h;refine wpAny_Assign_Name (Zq (he pins s σ H _ I h) fun v s1 ⟨y,H1,I1,r1,q1⟩=>?_) hs;exact ZaO I1 hN hi hx r1 (fun s2 I2=>⟨_,H1,I2,q1⟩) hf
def Zja (i j:Nat) (ta:TA):TS:=fun D σ H=>ta σ H fun vs H1=>∃v w,vs=[v,w]∧D.nx ((σ.set i (some v)).set j (some w)) H1
theorem ZnV {x y:Str} {a b:Expr} {ta:TA} {px py pt:Pos} {kt k2 pt2} (hc:X.calm=true) (hN:X.N.Nodup) (hi:X.N[i]?=some x) (hj:X.N[j]?=some y) (hij:i≠j)
 (hx:X.env.scope.names.lookup x=some .local) (hy:X.env.scope.names.lookup y=some .local) (ha:PA X [a,b] ta)
 (hw:swappedStores [.Tuple [.Name x px,.Name y py] kt pt] (.Tuple [a,b] k2 pt2) X.env=pure (some [x,y]))
 (hs:swapsWithSole [.Tuple [.Name x px,.Name y py] kt pt] (.Tuple [a,b] k2 pt2) pos.line X.env=pure false:=by rfl) :
  PS X (.Assign [.Tuple [.Name x px,.Name y py] kt pt] (.Tuple [a,b] k2 pt2) pos) (Zja i j ta):=by
 intro pins s σ H D I h;rw [exec_Assign_arm];refine Qc (wpAny_standAt ?_);rw [hs];refine Qc (Qf ?_);rw [Qa (by decide)];refine Qc (Tuple_ (Zq (ha _ pins s σ H _ I h) fun us s1 ⟨vs,H1,I1,r1,q1⟩=>?_));obtain ⟨v,w,e1,q1⟩:=q1;subst e1
 obtain ⟨u1,u2,rfl,rv,rw'⟩:∃u1 u2,us=[u1,u2]∧RelV v u1∧RelV w u2:=by
  cases r1 with
  |cons p q =>
   cases q with
   |cons p' q' =>
    cases q';exact ⟨_,_,rfl,p,p'⟩
 refine Rc ?_ (by show 2≤sizeLine;decide);have I2:Inv X pins σ H1 { s1 with heap:=s1.heap.push { cls:=.type "tuple",data:=.seq [u1,u2].toArray } }:=I1.kept (t':=s1.toks) fun b o e=>Qo _ e;rw [hw];refine Qc (Qf ?_);show wpAny (model X.prog X.w) X.A (do rule "assign.swapped-stores";let items ←unpackItems (.ref s1.heap.objs.size) 2 none;assignInOrder [fun v=>bindName X.env y v,fun v=>bindName X.env x v] items.reverse;pure Flow.next) _ _ _;refine Qc (R5 (Qc (unpackItems_tuple (items:=#[u1,u2]) (I.ok.hd hc) (IsTup.new s1.heap _) fun h' hx'=>?_)));have I3:=I2.kept (h':=h') (t':=s1.toks) fun b o e=>hx' b o (QA (Qn e)) e;show wpAny _ _ (assignInOrder [fun v=>bindName X.env y v,fun v=>bindName X.env x v] [u2,u1] >>= fun _=>pure Flow.next) _ _ _;refine Qc (assignInOrder_cons (wpAny_bindName (ZaO I3 hN hj (.inl hy) rw' (fun s2 I4=>?_) (.inr hy))));refine assignInOrder_cons (wpAny_bindName (ZaO I4 hN hi (.inl hx) rv (fun s3 I5=>assignInOrder_nil (Qf ?_)) (.inr hx)));rw [List.set_comm _ _ (Q2 hij)] at I5;exact ⟨_,H1,I5,q1⟩
structure It where
 go:Nat->Hp->Prop
 yld:Nat->Hp->V->Hp->Prop
 stop:Nat->Hp->Prop
def X4 (X:Cx) (pins:List (Addr×Obj)) (H:Hp) (b:Addr):Prop :=
 H b=none∧b≠X.env.locals∧b∉X.fs∧(b∈X.ex∨X.s₀.heap.objs.size≤b)∧(∀x c,X.env.cells.lookup x=some c->c≠b)∧∀p∈X.pn++pins,p.1≠b
theorem Inv.fpOk (I:Inv X pins σ H s) (hb:s.heap.objs.size≤b) (hn:H' b=none):X4 X pins H' b:=by
 refine ⟨hn,RD (QK I.lt hb),I.nofs hb,.inr (Qi I.sz hb),fun x c e z=>?_,fun p hp z=>?_⟩
 ·obtain ⟨v,q⟩:=I.cell x c e;exact absurd (QK q.lt (by rw [z];exact hb)) (Rm _)
 ·exact absurd (QK (Qn (I.pin p hp).1) (by rw [z];exact hb)) (Rm _)
structure Turn (P:Program) (w:World) (K:W.Frag) (tg:Expr) (J:It) (fp:List Addr) (it:Addr) (tn:Nat->Heap->Prop):Prop where
 mem:it∈fp
 obj:∀i h,tn i h->∀b∈fp,∃o,h.get? b=some o∧∀v,o.data≠.cell v
 keep:∀i h h',tn i h->(∀b∈fp,∀o,h.get? b=some o->h'.get? b=some o)->tn i h'
 item:∀(X:Cx),X.prog=P->X.w=w->X.K=K->X.calm=true->∀(i:Nat) (pins:List (Addr×Obj)) (s:Shared) (σ:St) (H:Hp) (E:Value->Shared->Prop),Inv X pins σ H s->(∀b∈fp,X4 X pins H b)->tn i s.heap->J.go i H →
  wpAny (model P w) X.A (pyNext (.ref it)) (fun r s1=>∃u,r=some u ∧
   wpAny (model P w) X.A (letOwnedTupleGo tg (.ref it) u) (fun _ s2=>∃x H',Inv X pins σ H' s2∧RelV x u∧J.yld i H x H'∧tn (i+1) s2.heap∧∀b∈fp,H' b=none) E s1) E s
 done:∀(X:Cx),X.prog=P->X.w=w->X.K=K->X.calm=true->∀(i:Nat) (pins:List (Addr×Obj)) (s:Shared) (σ:St) (H:Hp) (E:Value->Shared->Prop),Inv X pins σ H s->(∀b∈fp,X4 X pins H b)->tn i s.heap->J.stop i H →
  wpAny (model P w) X.A (pyNext (.ref it)) (fun r s1=>r=none∧Inv X pins σ H s1) E s
 self:∀(A:Around) (i:Nat) (s:Shared) (Q:Value->Shared->Prop) (E:Value->Shared->Prop),tn i s.heap->Q (.ref it) s->wpAny (model P w) A (pyIter (.ref it)) Q E s
abbrev TI:=St->Hp->(It->Hp->Prop)->Prop
def PIE (X:Cx) (pins:List (Addr×Obj)) (σ:St) (tg:Expr) (R:It->Hp->Prop) (itv:Value) (s2:Shared):Prop :=
 ∃(it:Addr) (fp:List Addr) (tn:Nat->Heap->Prop) (J:It) (H':Hp),itv=.ref it∧Inv X pins σ H' s2∧Turn X.prog X.w X.K tg J fp it tn∧tn 0 s2.heap∧(∀b∈fp,X4 X pins H' b)∧R J H'
def PI (X:Cx) (tg iter:Expr) (wi:TI):Prop :=
 ∀(pins:List (Addr×Obj)) (s:Shared) (σ:St) (H:Hp) (R:It->Hp->Prop),Inv X pins σ H s->wi σ H R →
  wpAny (model X.prog X.w) X.A (eval iter X.env) (fun v s1=>wpAny (model X.prog X.w) X.A (pyIter v) (PIE X pins σ tg R) X.xe s1) X.xe s
theorem JI {it:Addr} {o:Obj} {n:String} {vs:Array Value} {Q:Unit->Shared->Prop} (ho:s.heap.get? it=some o) (hc:o.cls=.type n) (hd:o.data=.fields vs)
 (hn:["enumerate","zip","dict_itemiterator","dict_reverseitemiterator","odict_iterator","itertools.zip_longest","itertools.pairwise"].contains n=false) (hQ:Q () s):wpAny M A (letOwnedTupleGo tg (.ref it) u) Q E s:=by
 unfold letOwnedTupleGo
 cases tg<;>first
  |exact Qf hQ
  | (cases u<;>first
    |exact Qf hQ
    | (refine Qc (wpAny_load ho ?_)
       rw [hc,hd];show wpAny M A (if (["enumerate","zip","dict_itemiterator","dict_reverseitemiterator","odict_iterator","itertools.zip_longest","itertools.pairwise"].contains n&&vs[0]?==some (rawInt _))=true then _ else _) Q E s;rw [Qa (by intro h;rw [hn,GQ] at h;cases h)];exact Qf hQ))
noncomputable def Js (K:W.Frag) (a:Addr):It :=
 ⟨fun i H=>∃xs x,SqL K H a xs∧xs[i]?=some x,fun i H x H'=>H'=H∧∀xs,SqL K H a xs->xs[i]?=some x,fun i H=>∃xs,SqL K H a xs∧xs.length≤i⟩
noncomputable def Itt (K:W.Frag) (a:Addr):It :=
 ⟨fun i H=>∃xs x,SqT K H a xs∧xs[i]?=some x,fun i H x H'=>H'=H∧∀xs,SqT K H a xs->xs[i]?=some x,fun i H=>∃xs,SqT K H a xs∧xs.length≤i⟩
noncomputable def UG (lo:Int) (n:Nat):It:=⟨fun i _=>i<n,fun i H x H'=>H'=H∧x=.int (lo+i),fun i _=>n≤i⟩
theorem ZkB (a it:Addr):Turn P w K tg (Js K a) [it] it (fun i h=>h.IsListIter it a i) where
 mem:=by simp
 obj:=fun i h st b hb=>by
  have e:b=it:=by simpa using hb
  subst e;obtain ⟨o,e,c,d⟩:=st;exact ⟨o,e,fun v z=>by rw [d] at z;cases z⟩
 keep:=fun i h h' st k=>st.at fun o e=>k it (by simp) o e
 item:=by
  intro X hP hw hK hc i pins s σ H E I hf st hg;subst hP hw hK;obtain ⟨xs,x,hq,hx⟩:=hg;obtain ⟨its,rv,p,hz⟩:=I.list hq;obtain ⟨u,hu,ru⟩:=rv.get hx;obtain ⟨f0,f1,f2,f3,f4,f5⟩:=hf it (by simp);refine wpAny_pyNext_list_item st p.isList (x:=u) (by simpa using hu) fun h' st' sb=>?_;have I1:Inv X pins σ H { s with heap:=h' }:=I.turned (t':=s.toks) (fun b o hb e=>(sb.2 b hb).trans e) f0 f1 f3 f4 f5;obtain ⟨o,e,c,d⟩:=id st';exact ⟨u,rfl,JI (s:={ s with heap:=h' }) e c d (by decide) ⟨x,H,I1,ru,⟨rfl,fun ys hy=>by rw [I.list_inj hy hq];exact hx⟩,st',fun b hb=>(hf b hb).1⟩⟩
 done:=by
  intro X hP hw hK hc i pins s σ H E I hf st hg;subst hP hw hK;obtain ⟨xs,hq,hx⟩:=hg;obtain ⟨its,rv,p,hz⟩:=I.list hq;obtain ⟨f0,f1,f2,f3,f4,f5⟩:=hf it (by simp);have hl:=rv.length;exact wpAny_pyNext_list_end (I.ok.hd hc) st p.isList (by simp;omega) fun h' eb=>⟨rfl,I.turned (t':=s.toks) (fun b o hb e=>eb b o hb e) f0 f1 f3 f4 f5⟩
 self:=fun _ _ _ _ _ st h=>wpAny_pyIter_listiter st h
theorem ZjG (a it:Addr):Turn P w K tg (Itt K a) [it] it (fun i h=>h.IsTupleIter it a i) where
 mem:=by simp
 obj:=fun i h st b hb=>by
  have e:b=it:=by simpa using hb
  subst e;obtain ⟨o,e,c,d⟩:=st;exact ⟨o,e,fun v z=>by rw [d] at z;cases z⟩
 keep:=fun i h h' st k=>st.at fun o e=>k it (by simp) o e
 item:=by
  intro X hP hw hK hc i pins s σ H E I hf st hg;subst hP hw hK;obtain ⟨xs,x,hq,hx⟩:=hg;obtain ⟨its,rv,p,hz⟩:=I.tuple hq;obtain ⟨u,hu,ru⟩:=rv.get hx;obtain ⟨f0,f1,f2,f3,f4,f5⟩:=hf it (by simp);refine wpAny_pyNext_tuple_item st (show s.heap.IsTuple a its.toArray from p) (x:=u) (by simpa using hu) fun h' st' sb=>?_;have I1:Inv X pins σ H { s with heap:=h' }:=I.turned (t':=s.toks) (fun b o hb e=>(sb.2 b hb).trans e) f0 f1 f3 f4 f5;obtain ⟨o,e,c,d⟩:=id st';exact ⟨u,rfl,JI (s:={ s with heap:=h' }) e c d (by decide) ⟨x,H,I1,ru,⟨rfl,fun ys hy=>by rw [I.tuple_inj hy hq];exact hx⟩,st',fun b hb=>(hf b hb).1⟩⟩
 done:=by
  intro X hP hw hK hc i pins s σ H E I hf st hg;subst hP hw hK;obtain ⟨xs,hq,hx⟩:=hg;obtain ⟨its,rv,p,hz⟩:=I.tuple hq;obtain ⟨f0,f1,f2,f3,f4,f5⟩:=hf it (by simp);have hl:=rv.length;exact wpAny_pyNext_tuple_end (I.ok.hd hc) st (show s.heap.IsTuple a its.toArray from p) (by simp;omega) fun h' eb=>⟨rfl,I.turned (t':=s.toks) (fun b o hb e=>eb b o hb e) f0 f1 f3 f4 f5⟩
 self:=fun _ _ _ _ _ st h=>wpAny_pyIter_tupleiter st h
theorem Zm2 {K:PySem.W.Frag} (it:Addr) (lo:Int) (n:Nat):Turn P w K tg (UG lo n) [it] it (fun i h=>IsRangeIter h it (lo+(i:Nat)*1) ((n:Int)-(i:Nat)) 1) where
 mem:=by simp
 obj:=fun i h st b hb=>by
  have e:b=it:=by simpa using hb
  subst e
  exact ⟨_,st,fun v z=>by
   have z':Data.fields _=Data.cell v:=z;cases z'⟩
 keep:=fun i h h' st k=>k it (by simp) _ st
 item:=by
  intro X hP hw hK hc i pins s σ H E I hf st hg;subst hP hw hK;obtain ⟨f0,f1,f2,f3,f4,f5⟩:=hf it (by simp);have W:=Walks.range (prog:=X.prog) (w:=X.w) (I.ok.hd hc) it lo 1 n;refine W.item i s _ _ hg st fun v h' tk hv st' kk=>?_;obtain ⟨t,rfl⟩:=hv;have I1:Inv X pins σ H { s with heap:=h',toks:=tk }:=I.turned (fun b o hb e=>kk b o (by simpa using hb) e) f0 f1 f3 f4 f5;refine ⟨_,rfl,JI (s:={ s with heap:=h',toks:=tk }) (n:="range_iterator") st' rfl rfl (by decide) ⟨.int (lo+i),H,I1,⟨t,?_⟩,⟨rfl,rfl⟩,st',fun b hb=>(hf b hb).1⟩⟩;rw [Int.mul_one]
 done:=by
  intro X hP hw hK hc i pins s σ H E I hf st hg;subst hP hw hK;obtain ⟨f0,f1,f2,f3,f4,f5⟩:=hf it (by simp);exact wpAny_pyNext_range_end (I.ok.hd hc) st (by have:n≤i:=hg;omega) fun h' eb=>⟨rfl,I.turned (t':=s.toks) (fun b o hb e=>eb b o hb e) f0 f1 f3 f4 f5⟩
 self:=fun _ _ _ _ _ st h=>wpAny_pyIter_rangeiter st h
def Zp0 (K:W.Frag) (tl:TE):TI:=fun σ H R=>tl σ H fun x H1=>∃a,x=.ref a∧(∃xs,SqL K H1 a xs)∧R (Js K a) H1
def Zpt (K:W.Frag) (tl:TE):TI:=fun σ H R=>tl σ H fun x H1=>∃a,x=.ref a∧(∃xs,SqT K H1 a xs)∧R (Itt K a) H1
theorem Yz {l:Expr} {tl:TE} (hl:PE X l tl):PI X tg l (Zp0 X.K tl):=by
 intro pins s σ H R I h;refine Zq (hl pins s σ H _ I h) fun v s1 ⟨x,H1,I1,r1,q1⟩=>?_;obtain ⟨a,e,⟨xs,hq⟩,q⟩:=q1;subst e;cases r1;obtain ⟨its,rv,p,hz⟩:=I1.list hq;refine wpAny_pyIter_list p.isList ?_;refine ⟨s1.heap.objs.size,[s1.heap.objs.size],_,_,H1,rfl,I1.kept (t':=s1.toks) fun b o e=>Qo _ e,ZkB a _,⟨_,Qu _ rfl,rfl,rfl⟩,fun b hb=>?_,q⟩;have e:b=s1.heap.objs.size:=by simpa using hb
 subst e;exact I1.fpOk (Qe _) (I1.hok.fresh (Qe _))
theorem ZaD {l:Expr} {tl:TE} (hl:PE X l tl):PI X tg l (Zpt X.K tl):=by
 intro pins s σ H R I h;refine Zq (hl pins s σ H _ I h) fun v s1 ⟨x,H1,I1,r1,q1⟩=>?_;obtain ⟨a,e,⟨xs,hq⟩,q⟩:=q1;subst e;cases r1;obtain ⟨its,rv,p,hz⟩:=I1.tuple hq;refine Gp (show s1.heap.IsTuple a its.toArray from p) ?_;refine ⟨s1.heap.objs.size,[s1.heap.objs.size],_,_,H1,rfl,I1.kept (t':=s1.toks) fun b o e=>Qo _ e,ZjG a _,⟨_,Qu _ rfl,rfl,rfl⟩,fun b hb=>?_,q⟩;have e:b=s1.heap.objs.size:=by simpa using hb
 subst e;exact I1.fpOk (Qe _) (I1.hok.fresh (Qe _))
theorem ZnQ {R:It->Hp->Prop} {lo hi:Int} {t u v:Tok} {tk:Nat} (I:Inv X pins σ H s) (h1:-(2 ^ 62)≤lo) (h2:lo<2 ^ 62) (h3:-(2 ^ 62)≤hi) (h4:hi<2 ^ 62)
 (q:R (UG lo (hi-lo).toNat) H):wpAny (model X.prog X.w) X.A (pyIter (.ref s.heap.objs.size)) (PIE X pins σ tg R) E { s with heap:=s.heap.push { cls:=.type "range",data:=.fields #[.int lo t,.int hi u,.int 1 v] },toks:=tk }:=by
 refine wpAny_pyIter_range (IsRange.new ..) (small_one h1 h2 h3 h4) ?_;have I1:Inv X pins σ H { s with heap:=s.heap.push { cls:=.type "range",data:=.fields #[.int lo t,.int hi u,.int 1 v] },toks:=tk }:=I.kept fun b o e=>Qo _ e
 refine ⟨(s.heap.push { cls:=.type "range",data:=.fields #[.int lo t,.int hi u,.int 1 v] }).objs.size,[(s.heap.push { cls:=.type "range",data:=.fields #[.int lo t,.int hi u,.int 1 v] }).objs.size],_,_,H,rfl,
  I1.kept (t':=tk) fun b o e=>Qo _ e,Zm2 _ lo (hi-lo).toNat,?_,fun b hb=>?_,q⟩
 ·have e1:lo+((0:Nat):Int)*1=lo:=by simp
  have e2:(((hi-lo).toNat:Nat):Int)-((0:Nat):Int)=Builtin.Range.rangeSize lo hi 1:=by rw [rangeSize_one];split<;>omega
  show IsRangeIter _ _ (lo+((0:Nat):Int)*1) ((((hi-lo).toNat:Nat):Int)-((0:Nat):Int)) 1;rw [e1,e2];exact Qu _ rfl
 ·have e:b=(s.heap.push { cls:=.type "range",data:=.fields #[.int lo t,.int hi u,.int 1 v] }).objs.size:=by simpa using hb
  subst e;exact I1.fpOk (Qe _) (I1.hok.fresh (Qe _))
def ZoA (ta:TA):TI:=fun σ H R=>ta σ H fun vs H1=>∃j:Int,vs=[.int j]∧-(2 ^ 62)≤j∧j<2 ^ 62∧R (UG 0 j.toNat) H1
theorem Vb {a:Expr} {ta:TA} (hg:Gl X "range") (hm:X.mg "range"=none) (ha:PA X [a] ta) (hs:starEach [a] X.env=[(false,eval a X.env)]:=by rfl):PI X tg (.Call (.Name "range" p) [a] [] pos) (ZoA ta):=by
 intro pins s σ H R I h;refine Call_ (UQ I hg hm boot_range (GR (Zq (ha pos pins s σ H _ I h) fun us s1 ⟨vs,H1,I1,r1,q1⟩=>?_) hs rfl));obtain ⟨j,e,q1,q2,q⟩:=q1;subst e;cases r1 with
 |cons r rr =>
  cases rr;obtain ⟨t,rfl⟩:=r;exact call_range_1 (ZnQ I1 (by omega) (by omega) q1 q2 (by simpa using q))
def Zon (wi:TI) (g:TG) (tb:TS):TS:=fun D σ H=>wi σ H fun J H1=>∃W:Nat->Nat->St->Hp->Prop,(∃m,W 0 m σ H1)∧∀i m σ H,W i m σ H →
 (J.stop i H∧D.nx σ H)∨(J.go i H∧∃N:St->Hp->Prop,(∀σ' H',N σ' H'->∃m',m'<m∧W (i+1) m' σ' H')∧∀x H',J.yld i H x H'->g x σ H' fun σ2 H2=>tb { D with nx:=N,ct:=N,bk:=D.nx } σ2 H2)
noncomputable def JY (fp:List Addr) (h:Heap):List (Addr×Obj):=fp.filterMap fun b=>(h.get? b).map fun o=>(b,o)
theorem Zba {o:Obj} (hb:b∈fp) (e:h.get? b=some o):(b,o)∈JY fp h:=Rg.mpr ⟨b,hb,by rw [e];rfl⟩
theorem Zk2 {p:Addr×Obj} (hp:p∈JY fp h):p.1∈fp∧h.get? p.1=some p.2:=by
 obtain ⟨b,hb,e⟩:=Rg.mp hp;cases q:h.get? b with
 |none=>rw [q] at e;cases e
 |some o =>
  rw [q] at e;have e':(b,o)=p:=Ql e;subst e';exact ⟨hb,q⟩
theorem Inv.pinned (I:Inv X pins σ H s) (hf:∀b∈fp,X4 X pins H b) (ho:∀b∈fp,∃o,s.heap.get? b=some o∧∀v,o.data≠.cell v):Inv X (pins++JY fp s.heap) σ H s :=
 I.pins_of fun p hp=>(Qq.mp hp).elim (fun z=>I.pin p (Q5 _ z)) fun z=>by
  obtain ⟨hb,e⟩:=Zk2 z;obtain ⟨f0,f1,f2,_⟩:=hf p.1 hb;obtain ⟨o,e',d⟩:=ho p.1 hb;rw [e] at e';cases e';exact ⟨e,f0,f1,f2,d⟩
theorem Inv.unpinned {pl:List (Addr×Obj)} (I:Inv X (pins++pl) σ H s):Inv X pins σ H s:=I.pins_of fun p hp=>I.pin p (Q5 _ (Q9 _ hp))
theorem Yr {iter:Expr} {body:List Stmt} {wi:TI} {g:TG} (hp:PassesOwn (model X.prog X.w) X.A X.env X.xe) (hc:X.calm=true) (hi:PI X tg iter wi) (hg:PG X tg g) (hb:PSs X body tb)
 (hs:∀x,foldedSetIterable iter X.env x=pure x:=by intro _;rfl):PS X (.For tg iter body [] pos) (Zon wi g tb):=by
 intro pins s σ H D I h;refine wpAny_For (Zq (hi pins s σ H _ I h) fun v s1 h1=>Zq h1 fun itv s2 h2=>?_) hs;obtain ⟨it,fp,tn,J,H2,e,I2,T,st2,f2,W,⟨m0,w0⟩,turn⟩:=h2;subst e;have stat:∀{H':Hp},(∀b∈fp,H' b=none)->∀b∈fp,X4 X pins H' b:=fun hn b hb=>⟨hn b hb,(f2 b hb).2⟩;refine codeAny_forLoop_any (fun n s'=>∃i σ' H',Inv X pins σ' H' s'∧tn i s'.heap∧(∀b∈fp,H' b=none)∧W i n σ' H') ?_ m0 ⟨0,σ,H2,I2,st2,fun b hb=>(f2 b hb).1,w0⟩;rintro n s3 ⟨i,σ3,H3,I3,st3,fr3,w3⟩;rcases turn i n σ3 H3 w3 with ⟨stop,qn⟩|⟨go,N,hN,step⟩
 ·refine Gq hp (Zq (T.done X rfl rfl rfl hc i pins s3 σ3 H3 X.xe I3 (stat fr3) st3 stop) fun r s4 ⟨hr,I4⟩=>?_);subst hr;exact wpAny_execs_nil ⟨σ3,H3,I4,qn⟩
 ·refine Gq hp (Zq (T.item X rfl rfl rfl hc i pins s3 σ3 H3 X.xe I3 (stat fr3) st3 go) fun r s4 ⟨u,hr,h4⟩=>?_);subst hr;refine Gq hp (Zq h4 fun _ s5 ⟨x,H5,I5,r5,y5,st5,fr5⟩=>?_);have I5':=I5.pinned (stat fr5) (T.obj _ _ st5);refine Gq hp (Zq (hg _ s5 σ3 H5 x u _ I5' r5 (step x H5 y5)) fun _ s6 ⟨σ6,H6,I6,q6⟩=>?_);refine Gq hp (Zq (hb _ s6 σ6 H6 _ I6 q6) fun f s7 q7=>?_)
  have again:∀{σ7:St} {H7:Hp},Inv X (pins++JY fp s5.heap) σ7 H7 s7->N σ7 H7->∃m,m<n∧∃i σ' H',Inv X pins σ' H' s7∧tn i s7.heap∧(∀b∈fp,H' b=none)∧W i m σ' H':=fun {σ7 H7} I7 n7=>by
   obtain ⟨m',hm,w7⟩:=hN σ7 H7 n7;refine ⟨m',hm,i+1,σ7,H7,I7.unpinned,T.keep _ _ _ st5 fun b hb o e=>(I7.pin (b,o) (Q5 _ (Q5 _ (Zba hb e)))).1,fun b hb=>?_,w7⟩;obtain ⟨o,e,d⟩:=T.obj _ _ st5 b hb;exact (I7.pin (b,o) (Q5 _ (Q5 _ (Zba hb e)))).2.1
  cases f with
  |next=>obtain ⟨σ7,H7,I7,n7⟩:=q7;exact again I7 n7
  |cont=>obtain ⟨σ7,H7,I7,n7⟩:=q7;exact again I7 n7
  |brk=>obtain ⟨σ7,H7,I7,q7⟩:=q7;exact ⟨σ7,H7,I7.unpinned,q7⟩
  |ret v=>obtain ⟨x7,σ7,H7,I7,r7,q7⟩:=q7;exact ⟨x7,σ7,H7,I7.unpinned,r7,q7⟩
theorem XN {K:PySem.W.Frag} {g:TG} (Pv:Nat->St->Hp->Prop) (h0:Pv 0 σ H) (hl:∀i σ H,i≤xs.length->Pv i σ H->SqL K H a xs)
 (hs:∀i x σ H,xs[i]?=some x->Pv i σ H->g x σ H fun σ2 H2=>tb { D with nx:=Pv (i+1),ct:=Pv (i+1),bk:=D.nx } σ2 H2) (hd:∀σ H,Pv xs.length σ H->D.nx σ H) :
  ∃W:Nat->Nat->St->Hp->Prop,(∃m,W 0 m σ H)∧∀i m σ H,W i m σ H →
   ((Js K a).stop i H∧D.nx σ H)∨((Js K a).go i H∧∃N:St->Hp->Prop,(∀σ' H',N σ' H'->∃m',m'<m∧W (i+1) m' σ' H')∧∀x H',(Js K a).yld i H x H'->g x σ H' fun σ2 H2=>tb { D with nx:=N,ct:=N,bk:=D.nx } σ2 H2):=by
 refine ⟨fun i m σ H=>m=xs.length-i∧i≤xs.length∧Pv i σ H,⟨xs.length,by simp,QL _,h0⟩,?_⟩;rintro i m σ H ⟨rfl,hi,p⟩;have q:=hl i σ H hi p;by_cases hlt:i<xs.length
 ·refine .inr ⟨⟨xs,xs[i],q,by simp [hlt]⟩,Pv (i+1),fun σ' H' p'=>⟨xs.length-(i+1),by omega,rfl,hlt,p'⟩,fun x H' y=>?_⟩;obtain ⟨e,y⟩:=y;subst e;exact hs i x σ _ (y xs q) p
 ·have e:i=xs.length:=by omega
  subst e;exact .inl ⟨⟨xs,q,Qe _⟩,hd σ H p⟩
theorem Zdt {K:PySem.W.Frag} {g:TG} (Pv:Nat->St->Hp->Prop) (h0:Pv 0 σ H) (hl:∀i σ H,i≤xs.length->Pv i σ H->SqT K H a xs)
 (hs:∀i x σ H,xs[i]?=some x->Pv i σ H->g x σ H fun σ2 H2=>tb { D with nx:=Pv (i+1),ct:=Pv (i+1),bk:=D.nx } σ2 H2) (hd:∀σ H,Pv xs.length σ H->D.nx σ H) :
  ∃W:Nat->Nat->St->Hp->Prop,(∃m,W 0 m σ H)∧∀i m σ H,W i m σ H →
   ((Itt K a).stop i H∧D.nx σ H)∨((Itt K a).go i H∧∃N:St->Hp->Prop,(∀σ' H',N σ' H'->∃m',m'<m∧W (i+1) m' σ' H')∧∀x H',(Itt K a).yld i H x H'->g x σ H' fun σ2 H2=>tb { D with nx:=N,ct:=N,bk:=D.nx } σ2 H2):=by
 refine ⟨fun i m σ H=>m=xs.length-i∧i≤xs.length∧Pv i σ H,⟨xs.length,by simp,QL _,h0⟩,?_⟩;rintro i m σ H ⟨rfl,hi,p⟩;have q:=hl i σ H hi p;by_cases hlt:i<xs.length
 ·refine .inr ⟨⟨xs,xs[i],q,by simp [hlt]⟩,Pv (i+1),fun σ' H' p'=>⟨xs.length-(i+1),by omega,rfl,hlt,p'⟩,fun x H' y=>?_⟩;obtain ⟨e,y⟩:=y;subst e;exact hs i x σ _ (y xs q) p
 ·have e:i=xs.length:=by omega
  subst e;exact .inl ⟨⟨xs,q,Qe _⟩,hd σ H p⟩
theorem ZaT {lo:Int} {g:TG} (Pv:Nat->St->Hp->Prop) (h0:Pv 0 σ H)
 (hs:∀i σ H,i<n->Pv i σ H->g (.int (lo+i)) σ H fun σ2 H2=>tb { D with nx:=Pv (i+1),ct:=Pv (i+1),bk:=D.nx } σ2 H2) (hd:∀σ H,Pv n σ H->D.nx σ H) :
  ∃W:Nat->Nat->St->Hp->Prop,(∃m,W 0 m σ H)∧∀i m σ H,W i m σ H →
   ((UG lo n).stop i H∧D.nx σ H)∨((UG lo n).go i H∧∃N:St->Hp->Prop,(∀σ' H',N σ' H'->∃m',m'<m∧W (i+1) m' σ' H')∧∀x H',(UG lo n).yld i H x H'->g x σ H' fun σ2 H2=>tb { D with nx:=N,ct:=N,bk:=D.nx } σ2 H2):=by
 refine ⟨fun i m σ H=>m=n-i∧i≤n∧Pv i σ H,⟨n,by simp,QL _,h0⟩,?_⟩;rintro i m σ H ⟨rfl,hi,p⟩;by_cases hlt:i<n
 ·refine .inr ⟨hlt,Pv (i+1),fun σ' H' p'=>⟨n-(i+1),by omega,rfl,hlt,p'⟩,fun x H' y=>?_⟩;obtain ⟨e,y⟩:=y;subst e y;exact hs i σ _ hlt p
 ·have e:i=n:=by omega
  subst e;exact .inl ⟨Qe _,hd σ H p⟩
abbrev R2:=V->V->Hp->VK->Prop
def Yl (X:Cx) (f:Value->Value->Sem Value) (r:R2):Prop :=
 ∀(pins:List (Addr×Obj)) (s:Shared) (σ:St) (H:Hp) (x y:V) (v u:Value) (Q:VK),Inv X pins σ H s->RelV x v->RelV y u->r x y H Q →
  wpAny (model X.prog X.w) X.A (f v u) (EP X pins σ Q) X.xe s
def UnR (X:Cx) (f:Value->Sem Value) (r:V->Hp->VK->Prop):Prop :=
 ∀(pins:List (Addr×Obj)) (s:Shared) (σ:St) (H:Hp) (x:V) (v:Value) (Q:VK),Inv X pins σ H s->RelV x v->r x H Q →
  wpAny (model X.prog X.w) X.A (f v) (EP X pins σ Q) X.xe s
def YN (X:Cx) (f:Value) (r:List V->Hp->VK->Prop):Prop :=
 ∀(pins:List (Addr×Obj)) (s:Shared) (σ:St) (H:Hp) (xs:List V) (us:List Value) (Q:VK),Inv X pins σ H s->Vals xs us->r xs H Q →
  wpAny (model X.prog X.w) X.A (call f us) (EP X pins σ Q) X.xe s
def tOp (r:R2) (ta tb:TE):TE:=fun σ H Q=>ta σ H fun x H1=>tb σ H1 fun y H2=>r x y H2 Q
def tUn (r:V->Hp->VK->Prop) (ta:TE):TE:=fun σ H Q=>ta σ H fun x H1=>r x H1 Q
def rI (C:Int->Int->Prop) (g:Int->Int->V):R2:=fun x y H Q=>∃i j,x=.int i∧y=.int j∧C i j∧Q (g i j) H
def Vd (g:Int->Int->V):R2:=fun x y H Q=>∃i j,x=.int i∧y=.int j∧Q (g i j) H
def rU (g:Int->V):V->Hp->VK->Prop:=fun x H Q=>∃i,x=.int i∧Q (g i) H
section
variable {a b:Expr} {tb tc:TE}
theorem Zc9 (ha:PE X a ta) (hb:PE X b tb) {R:V->V->Hp->Prop} (I:Inv X pins σ H s)
 (h:ta σ H fun x H1=>tb σ H1 fun y H2=>R x y H2) 
 (hf:∀v u s2 x y H2,Inv X pins σ H2 s2->RelV x v->RelV y u->R x y H2->wpAny (model X.prog X.w) X.A (f v u) Q X.xe s2) :
  wpAny (model X.prog X.w) X.A (eval a X.env) (fun v s₁=>wpAny (model X.prog X.w) X.A (eval b X.env) (fun u s₂=>wpAny (model X.prog X.w) X.A (f v u) Q X.xe s₂) X.xe s₁) X.xe s:=by
 refine Zq (ha pins s σ H _ I h) fun v s1 ⟨x,H1,I1,r1,q1⟩=>?_;refine Zq (hb pins s1 σ H1 _ I1 q1) fun u s2 ⟨y,H2,I2,r2,q2⟩=>?_;exact hf v u s2 x y H2 I2 r1 r2 q2
theorem Zv {op:Operator} {r:R2} (ho:Yl X (binaryOp op) r) (ha:PE X a ta) (hb:PE X b tb):PE X (.BinOp a op b pos) (tOp r ta tb):=by
 intro pins s σ H Q I h;exact wpAny_BinOp (Zc9 ha hb I h fun v u s2 x y H2 I2 rx ry q=>ho pins s2 σ H2 x y v u Q I2 rx ry q)
theorem Zgl {op:UnaryOp} {r:V->Hp->VK->Prop} (ho:UnR X (unaryOp op) r) (ha:PE X a ta):PE X (.UnaryOp op a pos) (tUn r ta):=by
 intro pins s σ H Q I h;exact UnaryOp_ (Zq (ha pins s σ H _ I h) fun v s1 ⟨x,H1,I1,r1,q1⟩=>ho pins s1 σ H1 x v Q I1 r1 q1)
theorem Jr {C:Int->Int->Prop} {g:Int->Int->Int}
 (rule:∀(i j:Int) (t u:Tok) (s:Shared) (Q:Value->Shared->Prop) (E:Value->Shared->Prop),C i j->Q (.int (g i j) s.toks) { s with toks:=s.toks+1 }->wpAny (model X.prog X.w) X.A (f (.int i t) (.int j u)) Q E s) :
  Yl X f (rI C fun i j=>.int (g i j)):=by
 intro pins s σ H x y v u Q I rx ry h;obtain ⟨i,j,rfl,rfl,hc,q⟩:=h;obtain ⟨t,rfl⟩:=rx;obtain ⟨t',rfl⟩:=ry;exact rule i j t t' s _ _ hc ⟨.int (g i j),H,I.tok _,⟨_,rfl⟩,q⟩
theorem Zhd {g:Int->Int->Int}
 (rule:∀(i j:Int) (t u:Tok) (s:Shared) (Q:Value->Shared->Prop) (E:Value->Shared->Prop),Q (.int (g i j) s.toks) { s with toks:=s.toks+1 }->wpAny (model X.prog X.w) X.A (f (.int i t) (.int j u)) Q E s) :
  Yl X f (Vd fun i j=>.int (g i j)):=by
 intro pins s σ H x y v u Q I rx ry h;obtain ⟨i,j,rfl,rfl,q⟩:=h;obtain ⟨t,rfl⟩:=rx;obtain ⟨t',rfl⟩:=ry;exact rule i j t t' s _ _ ⟨.int (g i j),H,I.tok _,⟨_,rfl⟩,q⟩
theorem ZbD {g:Int->Int->Bool}
 (rule:∀(i j:Int) (t u:Tok) (s:Shared) (Q:Value->Shared->Prop) (E:Value->Shared->Prop),Q (.bool (g i j)) s->wpAny (model X.prog X.w) X.A (f (.int i t) (.int j u)) Q E s) :
  Yl X f (Vd fun i j=>.bl (g i j)):=by
 intro pins s σ H x y v u Q I rx ry h;obtain ⟨i,j,rfl,rfl,q⟩:=h;obtain ⟨t,rfl⟩:=rx;obtain ⟨t',rfl⟩:=ry;exact rule i j t t' s _ _ ⟨.bl (g i j),H,I,rfl,q⟩
def VV (i j:Int):Prop:=0≤j∧j≤1000000∧i.natAbs<2 ^ 64
def CMul (i j:Int):Prop:=(-(2 ^ 64)<i∧i<2 ^ 64)∨(-(2 ^ 64)<j∧j<2 ^ 64)
theorem CMul.ok {i j:Int} (h:CMul i j):IntMulOk i j:=by
 rcases h with ⟨h1,h2⟩|⟨h1,h2⟩
 ·exact .of_left (intBits_le_64 h1 h2)
 ·exact .of_right (intBits_le_64 h1 h2)
theorem X6:Yl X (binaryOp .Add) (Vd fun i j=>.int (i+j)):=Zhd fun _ _ _ _ _ _ _ q=>add_int q
theorem Zbi:Yl X (binaryOp .Sub) (Vd fun i j=>.int (i-j)):=Zhd fun _ _ _ _ _ _ _ q=>sub_int q
theorem VG:Yl X (binaryOp .Mult) (rI CMul fun i j=>.int (i*j)):=Jr fun _ _ _ _ _ _ _ hc q=>mul_int q hc.ok
theorem Yq:Yl X (binaryOp .Mod) (rI (fun _ j=>j≠0) fun i j=>.int (i.fmod j)):=Jr fun _ _ _ _ _ _ _ hc q=>mod_int' hc q
theorem WZ:Yl X (binaryOp .Pow) (rI VV fun i j=>.int (i ^ j.toNat)):=Jr fun _ _ _ _ _ _ _ hc q=>pow_int_small hc.1 hc.2.1 hc.2.2 q
theorem unI {f:Value->Sem Value} {g:Int->Int}
 (rule:∀(i:Int) (t:Tok) (s:Shared) (Q:Value->Shared->Prop) (E:Value->Shared->Prop),Q (.int (g i) s.toks) { s with toks:=s.toks+1 }->wpAny (model X.prog X.w) X.A (f (.int i t)) Q E s) :
  UnR X f (rU fun i=>.int (g i)):=by
 intro pins s σ H x v Q I rx h;obtain ⟨i,rfl,q⟩:=h;obtain ⟨t,rfl⟩:=rx;exact rule i t s _ _ ⟨.int (g i),H,I.tok _,⟨_,rfl⟩,q⟩
theorem ZhH:UnR X (unaryOp .USub) (rU fun i=>.int (-i)):=unI fun _ _ _ _ _ q=>neg_int q
end
noncomputable def ZhD:V->V->Bool
 |.non,.non=>true|.non,.int _=>true|.int _,.non=>true|.non,.bl _=>true|.bl _,.non=>true|.non,.str _=>true|.str _,.non=>true
 |.int _,.int _=>true|.bl _,.bl _=>true|.str _,.str _=>true|.byt _,.byt _=>true
 |.int _,.str _=>true|.str _,.int _=>true|.bl _,.str _=>true|.str _,.bl _=>true
 |_,_=>false
def rEq:R2:=fun x y H Q=>ZhD x y=true∧Q (.bl (decide (x=y))) H
def rNe:R2:=fun x y H Q=>ZhD x y=true∧Q (.bl (!decide (x=y))) H
theorem Zf6 {i j:Int}:decide (V.int i=V.int j)=(i==j):=by
 rw [Rn];simp
theorem Zfw {i j:Bool}:decide (V.bl i=V.bl j)=(i==j):=by
 rw [Rn];simp
theorem Zgs {i j:Str}:decide (V.str i=V.str j)=(i==j):=by
 rw [Rn];simp
theorem Zgn {i j:Array UInt8}:decide (V.byt i=V.byt j)=(i.toList==j.toList):=by
 rw [Rn];cases i;cases j;simp
section
variable {a b:Expr} {tb tc:TE}
theorem Z9 {Q:VK} {k k':Bool} (I:Inv X pins σ H s) (q:Q (.bl k) H) (e:k=k'):EP X pins σ Q (.bool k') s:=by
 subst e;exact ⟨.bl k,H,I,rfl,q⟩
theorem ZZ:Yl X (compareOp .Eq) rEq:=by
 intro pins s σ H x y v u Q I rx ry h;obtain ⟨hs,q⟩:=h;cases x with
 |non =>
  cases rx;cases y with
  |non=>cases ry;exact PySem.EqNone.eq_none_none (Z9 I q (by simp))
  |bl j=>cases ry;exact PySem.EqNone.eq_none_bool (Z9 I q (by simp))
  |int j=>obtain ⟨t',rfl⟩:=ry;exact PySem.EqNone.eq_none_int (Z9 I q (by simp))
  |str j=>obtain ⟨t',rfl⟩:=ry;exact PySem.EqNone.eq_none_str (Z9 I q (by simp))
  |_=>exact absurd (show false=true from hs) QF
 |bl i =>
  cases rx;cases y with
  |non=>cases ry;exact PySem.EqNone.eq_bool_none (Z9 I q (by simp))
  |bl j=>cases ry;exact eq_bool (Z9 I q Zfw)
  |str j=>obtain ⟨t',rfl⟩:=ry;exact PySem.EqMixed.eq_bool_str (Z9 I q (by simp))
  |_=>exact absurd (show false=true from hs) QF
 |int i =>
  obtain ⟨t,rfl⟩:=rx;cases y with
  |non=>cases ry;exact PySem.EqNone.eq_int_none (Z9 I q (by simp))
  |int j=>obtain ⟨t',rfl⟩:=ry;exact eq_int (Z9 I q Zf6)
  |str j=>obtain ⟨t',rfl⟩:=ry;exact PySem.EqMixed.eq_int_str (Z9 I q (by simp))
  |_=>exact absurd (show false=true from hs) QF
 |str i =>
  obtain ⟨t,rfl⟩:=rx;cases y with
  |non=>cases ry;exact PySem.EqNone.eq_str_none (Z9 I q (by simp))
  |bl j=>cases ry;exact PySem.EqMixed.eq_str_bool (Z9 I q (by simp))
  |int j=>obtain ⟨t',rfl⟩:=ry;exact PySem.EqMixed.eq_str_int (Z9 I q (by simp))
  |str j=>obtain ⟨t',rfl⟩:=ry;exact eq_str (Z9 I q Zgs)
  |_=>exact absurd (show false=true from hs) QF
 |byt i =>
  obtain ⟨t,rfl⟩:=rx;cases y with
  |byt j=>obtain ⟨t',rfl⟩:=ry;exact W.eq_bytes (Z9 I q Zgn)
  |_=>exact absurd (show false=true from hs) QF
 |_=>cases y<;>exact absurd (show false=true from hs) QF
theorem Wy:Yl X (compareOp .NotEq) rNe:=by
 intro pins s σ H x y v u Q I rx ry h;obtain ⟨hs,q⟩:=h;cases x with
 |non =>
  cases rx;cases y with
  |non=>cases ry;exact PySem.EqNone.ne_none_none (Z9 I q (by simp))
  |bl j=>cases ry;exact PySem.EqNone.ne_none_bool (Z9 I q (by simp))
  |int j=>obtain ⟨t',rfl⟩:=ry;exact PySem.EqNone.ne_none_int (Z9 I q (by simp))
  |str j=>obtain ⟨t',rfl⟩:=ry;exact PySem.EqNone.ne_none_str (Z9 I q (by simp))
  |_=>exact absurd (show false=true from hs) QF
 |bl i =>
  cases rx;cases y with
  |non=>cases ry;exact PySem.EqNone.ne_bool_none (Z9 I q (by simp))
  |bl j=>cases ry;exact ne_bool (Z9 I q (Qj not Zfw))
  |str j=>obtain ⟨t',rfl⟩:=ry;exact PySem.EqMixed.ne_bool_str (Z9 I q (by simp))
  |_=>exact absurd (show false=true from hs) QF
 |int i =>
  obtain ⟨t,rfl⟩:=rx;cases y with
  |non=>cases ry;exact PySem.EqNone.ne_int_none (Z9 I q (by simp))
  |int j=>obtain ⟨t',rfl⟩:=ry;exact ne_int (Z9 I q (Qj not Zf6))
  |str j=>obtain ⟨t',rfl⟩:=ry;exact PySem.EqMixed.ne_int_str (Z9 I q (by simp))
  |_=>exact absurd (show false=true from hs) QF
 |str i =>
  obtain ⟨t,rfl⟩:=rx;cases y with
  |non=>cases ry;exact PySem.EqNone.ne_str_none (Z9 I q (by simp))
  |bl j=>cases ry;exact PySem.EqMixed.ne_str_bool (Z9 I q (by simp))
  |int j=>obtain ⟨t',rfl⟩:=ry;exact PySem.EqMixed.ne_str_int (Z9 I q (by simp))
  |str j=>obtain ⟨t',rfl⟩:=ry;exact ne_str (Z9 I q (Qj not Zgs))
  |_=>exact absurd (show false=true from hs) QF
 |byt i =>
  obtain ⟨t,rfl⟩:=rx;cases y with
  |byt j=>obtain ⟨t',rfl⟩:=ry;exact W.ne_bytes (Z9 I q (Qj not Zgn))
  |_=>exact absurd (show false=true from hs) QF
 |_=>cases y<;>exact absurd (show false=true from hs) QF
theorem Wg:Yl X (compareOp .Lt) (Vd fun i j=>.bl (decide (i<j))):=ZbD fun _ _ _ _ _ _ _ q=>lt_int q
theorem Zd9:Yl X (compareOp .LtE) (Vd fun i j=>.bl (decide (i≤j))):=ZbD fun _ _ _ _ _ _ _ q=>le_int q
theorem Wa:Yl X (compareOp .Gt) (Vd fun i j=>.bl (decide (j<i))):=ZbD fun _ _ _ _ _ _ _ q=>gt_int q
theorem JM:Yl X (compareOp .GtE) (Vd fun i j=>.bl (decide (j≤i))):=ZbD fun _ _ _ _ _ _ _ q=>ge_int q
theorem Zi2:Yl X (compareOp .In) (fun x y H Q=>∃i j,x=.str i∧y=.str j∧Q (.bl (!(Builtin.Str.occurrences j i 0 j.length 1).isEmpty)) H):=by
 intro pins s σ H x y v u Q I rx ry h;obtain ⟨i,j,rfl,rfl,q⟩:=h;obtain ⟨t,rfl⟩:=rx;obtain ⟨t',rfl⟩:=ry;exact in_str (Z9 I q rfl)
theorem Znp:Yl X (compareOp .Is) (fun x y H Q=>y=.non∧Q (.bl (decide (x=.non))) H):=by
 intro pins s σ H x y v u Q I rx ry h;obtain ⟨rfl,q⟩:=h;cases ry;refine is_none_gen (Z9 I q ?_)
 cases x<;>first
  | (cases rx;rfl)
  | (obtain ⟨t,rfl⟩:=rx;rfl)
theorem ZoO:Yl X (compareOp .IsNot) (fun x y H Q=>y=.non∧Q (.bl (!decide (x=.non))) H):=by
 intro pins s σ H x y v u Q I rx ry h;obtain ⟨rfl,q⟩:=h;cases ry;refine isnot_none_gen (Z9 I q ?_)
 cases x<;>first
  | (cases rx;rfl)
  | (obtain ⟨t,rfl⟩:=rx;rfl)
theorem Zs (b:Expr) (h:op≠.In:=by decide) (h2:op≠.NotIn:=by decide):behindInMarks op b=false:=by
 have e1:(op==CmpOp.In)=false:=by cases op<;>first|rfl|exact absurd rfl h
 have e2:(op==CmpOp.NotIn)=false:=by cases op<;>first|rfl|exact absurd rfl h2
 cases b<;>simp [behindInMarks,e1,e2]
theorem YZ {r:R2} (ho:Yl X (compareOp op) r) (ha:PE X a ta) (hb:PE X b tb) (hm:behindInMarks op b=false):PE X (.Compare a [op] [b] pos) (tOp r ta tb):=by
 intro pins s σ H Q I h;exact wpAny_Compare1 (Zc9 ha hb I h fun v u s2 x y H2 I2 rx ry q=>ho pins s2 σ H2 x y v u Q I2 rx ry q) hm
def Zl8 (t:TE):TT:=fun σ H Q=>t σ H fun x H'=>∃k,x=.bl k∧Q k H'
theorem ZB {r:R2} (ho:Yl X (compareOp op) r) (ha:PE X a ta) (hb:PE X b tb) (hm:behindInMarks op b=false):PT X (.Compare a [op] [b] pos) (Zl8 (tOp r ta tb)):=by
 intro pins s σ H Q I h
 refine wpAny_isTrue_Compare1 (Zq (ha pins s σ H _ I h) fun v s1 ⟨x,H1,I1,r1,q1⟩=>Zq (hb pins s1 σ H1 _ I1 q1) fun u s2 ⟨y,H2,I2,r2,q2⟩ =>
  Zq (ho pins s2 σ H2 x y v u _ I2 r1 r2 q2) fun c s3 ⟨z,H3,I3,r3,k,e,q3⟩=>?_) hm
 subst e;cases r3;exact RN ⟨H3,I3,q3⟩
theorem Ja:(sizeLine:Nat)<2 ^ 63:=by rw [Gr];decide
theorem Jx:Yl X (binaryOp .Add) (fun x y H Q=>∃i j,x=.str i∧y=.str j∧i.length+j.length≤sizeLine∧Q (.str (i++j)) H):=by
 intro pins s σ H x y v u Q I rx ry h;obtain ⟨i,j,rfl,rfl,hz,q⟩:=h;obtain ⟨t,rfl⟩:=rx;obtain ⟨t',rfl⟩:=ry;exact add_str (fun t' tk=>⟨.str (i++j),H,I.tok _,⟨_,rfl⟩,q⟩) hz
theorem Y5 {x:V} (r:Vals [x] us):∃u,us=[u]∧RelV x u:=by
 cases r with
 |cons r1 r2=>cases r2;exact ⟨_,rfl,r1⟩
theorem Uk {x:V} (r:Vals [x,y] us):∃u w',us=[u,w']∧RelV x u∧RelV y w':=by
 cases r with
 |cons r1 r2 =>
  cases r2 with
  |cons r3 r4=>cases r4;exact ⟨_,_,rfl,r1,r3⟩
theorem Zn8:YN X (.builtin "abs") (fun xs H Q=>∃i,xs=[.int i]∧Q (.int (if i<0 then -i else i)) H):=by
 intro pins s σ H xs us Q I r h;obtain ⟨i,rfl,q⟩:=h;obtain ⟨u,rfl,t,rfl⟩:=Y5 r;exact call_abs_int fun u tk=>⟨.int (if i<0 then -i else i),H,I.tok _,⟨_,rfl⟩,q⟩
theorem ZiJ (hc:X.calm=true):YN X (.builtin "max") (fun xs H Q=>∃i j,xs=[.int i,.int j]∧Q (.int (if j > i then j else i)) H):=by
 intro pins s σ H xs us Q I r h;obtain ⟨i,j,rfl,q⟩:=h;obtain ⟨u,w',rfl,⟨t,rfl⟩,⟨t',rfl⟩⟩:=Uk r;refine max_two_ints (I.ok.hd hc) fun h' tk k=>⟨_,H,I.kept k,?_,q⟩;by_cases hj:j > i
 ·rw [Qb hj,Qb hj];exact ⟨_,rfl⟩
 ·rw [Qa hj,Qa hj];exact ⟨_,rfl⟩
theorem ZhJ (hc:X.calm=true):YN X (.builtin "min") (fun xs H Q=>∃i j,xs=[.int i,.int j]∧Q (.int (if j<i then j else i)) H):=by
 intro pins s σ H xs us Q I r h;obtain ⟨i,j,rfl,q⟩:=h;obtain ⟨u,w',rfl,⟨t,rfl⟩,⟨t',rfl⟩⟩:=Uk r;refine min_two_ints (I.ok.hd hc) fun h' tk k=>⟨_,H,I.kept k,?_,q⟩;by_cases hj:j<i
 ·rw [Qb hj,Qb hj];exact ⟨_,rfl⟩
 ·rw [Qa hj,Qa hj];exact ⟨_,rfl⟩
theorem Zip:YN X (.type "int") (fun xs H Q=>(∃i,xs=[.int i]∧Q (.int i) H)∨∃k,xs=[.bl k]∧Q (.int (if k then 1 else 0)) H):=by
 intro pins s σ H xs us Q I r h;rcases h with ⟨i,rfl,q⟩|⟨k,rfl,q⟩
 ·obtain ⟨u,rfl,t,rfl⟩:=Y5 r;exact call_int_int ⟨.int i,H,I,⟨_,rfl⟩,q⟩
 ·obtain ⟨u,rfl,r1⟩:=Y5 r;cases r1;exact call_int_bool ⟨.int (if k then 1 else 0),H,I.tok _,⟨_,rfl⟩,q⟩
end
structure ObjM (h:Heap) (x dx C:Addr) (mA:Str->Option Value):Prop where
 obj:h.get? x=some (W.instObj C dx)
 ns:h.Ns1 dx mA
 ne:dx≠x
theorem Zqx (n:h.Ns1 dx mA):∃od,h.get? dx=some od∧∀name,W.lookIn name od=some (mA name):=by
 obtain ⟨o,es,ep,ho,hd,hk,_,hm⟩:=n;refine ⟨o,ho,fun name=>?_⟩;have e:=hm name;unfold nsFind findBy at e;rw [←Array.find?_toList] at e;unfold W.lookIn;rw [hd];dsimp only;split
 ·rename_i y q;rw [q] at e;exact Qj some e
 ·rename_i q;rw [q] at e
  have a:es.toList.any (·.refKey)=false:=by
   rw [Nv];intro y hy;obtain ⟨z,t,hkey⟩:=hk y (Array.mem_toList_iff.mp hy);simp [DictEntry.refKey,hkey]
  have a':¬es.toList.any (·.refKey)=true:=by rw [a];exact QF
  rw [Qa a'];exact Qj some e
theorem ObjM.look {x:Addr} (I:ObjM h x dx C mA):∃od,W.InstAt h x (W.instObj C dx) C (some od)∧∀name,W.lookIn name od=some (mA name) :=
 let ⟨od,ho,hl⟩:=Zqx I.ns
 ⟨od,⟨I.obj,rfl,rfl,ho⟩,hl⟩
section
variable {prog:Program} {x f:Addr} {name:Str} {v:Value}
theorem Zks {expr:Bool} (X:K.In s.heap) (I:ObjM s.heap x dx C mA) (hg:W.plainGet K C name=true) (hh:W.hasDictIn K C=true)
 (ha:W.findIn K (.ref C) name=some none) (hv:mA name=some v) (hv':W.handedIn v=true) (h:Q v { s with toks:=s.toks+1 }) :
  wpAny (model prog w) A (getAttr (.ref x) name expr) Q E s:=by
 obtain ⟨od,J,hl⟩:=I.look;exact W.get_value X J (W.plainGet_of hg).1 (W.findObj_own hh ha rfl (by rw [hl,hv])) hv' h
theorem ZiX {pl:Sem Bool} {Q:Value×List Value->Shared->Prop} (X:K.In s.heap) (I:ObjM s.heap x dx C mA) (hg:W.plainGet K C name=true)
 (hf:W.findIn K (.ref C) name=some (some (.ref f))) (ht:W.isFn K (.ref f)=true) (hv:mA name=none) (h:Q (.ref f,[.ref x]) s) :
  wpAny (model prog w) A (getMethod (.ref x) name pl) Q E s:=by
 obtain ⟨od,J,hl⟩:=I.look;exact W.method_fn X J (W.plainGet_of hg).1 (W.plainGet_of hg).2 hf (Rs.mp ht) (by show (W.lookIn name od).map (·.isSome)=some false;rw [hl,hv];rfl) h
theorem Zmg {ns:List Str} {Q:Unit->Shared->Prop} (X:K.In s.heap) (I:ObjM s.heap x dx C mA)
 (hs:W.findIn K (.ref C) "__setattr__"=some (some (.builtin "object.__setattr__"))) (hp:W.plainOver K C=true) (ht:W.takerIn K C name=some none) (hh:W.hasDictIn K C=true)
 (hw:PySem.Within mA ns) (hsz:ns.length≤sizeLine)
 (h:∀h',ObjM h' x dx C (fun y=>if y=name then some v else mA y)->Heap.SameBut dx s.heap h'->Q () { s with heap:=h',toks:=s.toks+2 }) :
  wpAny (model prog w) A (setAttr (.ref x) name v) Q E s:=by
 obtain ⟨od,J,hl⟩:=I.look;refine W.set_plain X J hs (W.osa_open (s:={ s with toks:=s.toks+1 }) (r:=none) X J hp ht fun b=>?_);obtain ⟨cd,hc,hd'⟩:=W.any_some hh;have hx:s.heap.get? x=some ⟨.ref C,some dx,.plain,#[]⟩:=I.obj;refine Qc (Qf (Qc (Qc (wpAny_loadPart hx (Qc (W.Looks.here (s:={ s with toks:=s.toks+1 }) (W.looks_clsIn X hc) ?_))))));rw [hd'];refine Qf (a:=some dx) (Qc (Qf (Qc ?_)));refine wpAny_nsSet1 (s:={ s with toks:=s.toks+1 }) I.ns fun h' hn2 hs2=>?_;obtain ⟨oD,esD,epD,hoD,hdD,hcD⟩:=hn2.count (PySem.Within.cons name v hw);refine Qc (wpAny_lookBehind hoD (by rw [hdD];exact pastItsLine_dict (Qi hcD (by rw [QG];omega))) ?_);exact Qf (h _ ⟨(hs2.2 _ (Q2 I.ne)).trans I.obj,hn2,I.ne⟩ hs2)
theorem Zno {R:Result->Shared->Prop} {vs:List Value} (X:K.In s.heap) (hm:W.makesIn K C=true)
 (hi:W.findIn K (.ref C) "__init__"=some (some (.ref f))) (hf:W.typeIn K (.ref f)=some (.type "function"))
 (h:codeAny (model prog w) (A.under (.builtin "type.__call__" ⟨.ref C::vs,kw⟩)) (.call (.ref f) ⟨.ref (s.heap.objs.size+1)::vs,kw⟩) (W.InitBack (s.heap.objs.size+1) R)
 { s with heap:=(s.heap.push W.emptyDict).push (W.instObj C s.heap.objs.size) }) :
  codeAny (model prog w) A (.call (.ref C) ⟨vs,kw⟩) R s:=by
 obtain ⟨hh,g,d,t,os⟩:=s;exact W.make_core (W.makes_of X hm) (GS X hi) (fun self=>W.bind_fn X self hf) (.inl rfl) h
end
noncomputable def ZI (f:Str) (v:V):List (Str×V)->List (Str×V)
 |[]=>[(f,v)]
 | (g,x)::r=>if g=f then (g,v)::r else (g,x)::ZI f v r
theorem ZfA (f g:Str) (v:V):∀fs:List (Str×V),(ZI f v fs).lookup g=if g=f then some v else fs.lookup g
 |[]=>by
  show List.lookup g [(f,v)]=_;by_cases h:g=f
  ·have hb:(g==f)=true:=Rs.mpr h;simp only [List.lookup,hb,Qb h]
  ·have hb:(g==f)=false:=RC.mpr h;simp only [List.lookup,hb,Qa h]
 | (k,x)::r=>by
  have ih:=ZfA f g v r;rw [show ZI f v ((k,x)::r)=(if k=f then (k,v)::r else (k,x)::ZI f v r) from rfl];by_cases hk:k=f
  ·rw [Qb hk];by_cases h:g=k
   ·have hb:(g==k)=true:=Rs.mpr h;simp only [List.lookup,hb,Qb (h.trans hk)]
   ·have hb:(g==k)=false:=RC.mpr h;simp only [List.lookup,hb,Qa (fun e:g=f=>h (e.trans hk.symm))]
  ·rw [Qa hk];by_cases h:g=k
   ·have hb:(g==k)=true:=Rs.mpr h;simp only [List.lookup,hb,Qa (fun e:g=f=>hk (h.symm.trans e))]
   ·have hb:(g==k)=false:=RC.mpr h;simp only [List.lookup,hb];exact ih
theorem Zcl (f:Str) (v:V):∀fs:List (Str×V),f∈(ZI f v fs).map (·.1)∧∀g,g∈fs.map (·.1)->g∈(ZI f v fs).map (·.1)
 |[]=>⟨by simp [ZI],fun g h=>by simp at h⟩
 | (k,x)::r=>by
  obtain ⟨i1,i2⟩:=Zcl f v r;rw [show ZI f v ((k,x)::r)=(if k=f then (k,v)::r else (k,x)::ZI f v r) from rfl];by_cases hk:k=f
  ·rw [Qb hk];subst hk;exact ⟨by simp,fun g h=>by simpa using h⟩
  ·rw [Qa hk];refine ⟨?_,fun g h=>?_⟩
   ·rw [Qs];exact Qx _ i1
   ·rw [Qs] at h ⊢;rcases Qh.mp h with e|e
    ·exact Qh.mpr (.inl e)
    ·exact Qx _ (i2 g e)
theorem Ziq (f:Str) (v:V):∀fs:List (Str×V),(ZI f v fs).length≤fs.length+1
 |[]=>by simp [ZI]
 | (k,x)::r=>by
  have ih:=Ziq f v r;rw [show ZI f v ((k,x)::r)=(if k=f then (k,v)::r else (k,x)::ZI f v r) from rfl];by_cases hk:k=f
  ·rw [Qb hk,QG,QG];omega
  ·rw [Qa hk,QG,QG];omega
theorem RelO.some_of {o:Option Value} (r:RelO (some v) o):∃u,o=some u∧RelV v u:=by
 cases o with
 |none=>exact (show False from r).elim
 |some u=>exact ⟨u,rfl,r⟩
theorem RelO.none_of {o:Option Value} (r:RelO none o):o=none:=by
 cases o with
 |none=>rfl
 |some u=>exact (show False from r).elim
theorem ZlO (r:RelV v u):W.handedIn u=true:=by
 cases v with
 |non=>cases (show u=Value.none from r);rfl
 |bl b=>cases (show u=Value.bool b from r);rfl
 |int i=>obtain ⟨t,e⟩:=(show ∃t,u=Value.int i t from r);cases e;rfl
 |str x=>obtain ⟨t,e⟩:=(show ∃t,u=Value.str x t from r);cases e;rfl
 |byt b=>obtain ⟨t,e⟩:=(show ∃t,u=Value.bytes b t from r);cases e;rfl
 |flt b=>obtain ⟨t,e⟩:=(show ∃t,u=Value.float b t from r);cases e;rfl
 |ref a=>cases (show u=Value.ref a from r);rfl
 |ty n=>cases (show u=Value.type n from r);rfl
section
variable {fs fs':List (Str×V)}
theorem Zbu (hok:HOk P w H h) (e:H a=some (.ins C dx fs)):∃mA,ObjM h a dx C mA∧(∀f,RelO (fs.lookup f) (mA f))∧PySem.Within mA (fs.map (·.1))∧fs.length≤1000∧H dx=some (.own a):=by
 obtain ⟨d,z,ne,ob,mA,n,r,q⟩:=(show ObjOk P w H h a (.ins C dx fs) from hok a _ e);exact ⟨mA,⟨ob,n,ne⟩,r,q,z,d⟩
end
structure Cls (K:W.Frag) (C:Addr):Prop where
 pg:W.plainGet K C Str.empty=true
 hd:W.hasDictIn K C=true
 po:W.plainOver K C=true
 sa:W.findIn K (.ref C) "__setattr__"=some (some (.builtin "object.__setattr__"))
theorem Cls.get (c:Cls K C) (f:Str):W.plainGet K C f=true:=c.pg
def NoAttr (K:W.Frag) (C:Addr) (f:Str):Prop:=W.findIn K (.ref C) f=some none
theorem NoAttr.taker {f:Str} (n:NoAttr K C f):W.takerIn K C f=some none:=by
 unfold W.takerIn;rw [show W.findIn K (.ref C) f=some none from n];rfl
structure Meth (K:W.Frag) (C:Addr) (m:Str) (f:Addr):Prop where
 at_:W.findIn K (.ref C) m=some (some (.ref f))
 fn:W.isFn K (.ref f)=true
 kp:W.keepIn K (.ref f)=true
section
variable {fs:List (Str×V)} {f:Str}
theorem Zni {b:Bool} (I:Inv X pins σ H s) (e:H a=some (.ins C dx fs)) (c:Cls X.K C) (n:NoAttr X.K C f) (l:fs.lookup f=some v)
 (h:∀u s',Inv X pins σ H s'->RelV v u->Q u s'):wpAny (model X.prog X.w) A (getAttr (.ref a) f b) Q E s:=by
 obtain ⟨mA,O,r,_,_,_⟩:=Zbu I.hok e;obtain ⟨u,hu,ru⟩:=RelO.some_of (v:=v) (o:=mA f) (by rw [←l];exact r f);exact Zks I.kIn O (c.get f) c.hd n hu (ZlO ru) (h u _ (I.tok _) ru)
theorem J3 {g:Addr} {pl:Sem Bool} {Q:Value×List Value->Shared->Prop} (I:Inv X pins σ H s) (e:H a=some (.ins C dx fs)) (c:Cls X.K C) (k:Meth X.K C m g) (l:fs.lookup m=none)
 (h:Q (.ref g,[.ref a]) s):wpAny (model X.prog X.w) A (getMethod (.ref a) m pl) Q E s:=by
 obtain ⟨mA,O,r,_,_,_⟩:=Zbu I.hok e;have hn:mA m=none:=RelO.none_of (by rw [←l];exact r m);exact ZiX I.kIn O (c.get m) k.at_ k.fn hn h
theorem Zlz {Q:Unit->Shared->Prop} (I:Inv X pins σ H s) (e:H a=some (.ins C dx fs)) (c:Cls X.K C) (n:NoAttr X.K C f) (hl:fs.length<1000) (ry:RelV y u)
 (h:∀s',Inv X pins σ (Zb H a (.ins C dx (ZI f y fs))) s'->Q () s'):wpAny (model X.prog X.w) A (setAttr (.ref a) f u) Q E s:=by
 obtain ⟨mA,O,r,wi,_,ho⟩:=Zbu I.hok e;have hz:(fs.map (·.1)).length≤sizeLine:=by rw [Qd,Gr];omega
 refine Zmg I.kIn O c.sa c.po n.taker c.hd wi hz fun h' O' sb=>h _ ?_;have hd:∃o,h'.get? dx=some o:=let ⟨o,_,_,e',_⟩:=O'.ns;⟨o,e'⟩;refine I.write (x:=a) (e:=dx) (by rw [e];exact True.intro) (.inr ho) (fun b q hb z=>(sb.2 b hb).trans z) hd ?_;refine ⟨by rw [Zg O.ne];exact ho,?_,O.ne,O'.obj,_,O'.ns,fun g=>?_,fun g hg=>?_⟩
 ·have:=Ziq f y fs;omega
 ·show RelO ((ZI f y fs).lookup g) (if g=f then some u else mA g);rw [ZfA];by_cases q:g=f
  ·rw [Qb q,Qb q];exact ry
  ·rw [Qa q,Qa q];exact r g
 ·by_cases q:g=f
  ·rw [q];exact (Zcl f y fs).1
  ·refine (Zcl f y fs).2 g (wi g fun z=>hg ?_);show (if g=f then some u else mA g)=none;rw [Qa q];exact z
theorem Inv.made (I:Inv X pins σ H s):Inv X pins σ (Zb (Zb H s.heap.objs.size (.own (s.heap.objs.size+1))) (s.heap.objs.size+1) (.ins C s.heap.objs.size []))
  { s with heap:=(s.heap.push W.emptyDict).push (W.instObj C s.heap.objs.size) }:=by
 have e1:(s.heap.push W.emptyDict).get? s.heap.objs.size=some W.emptyDict:=Qu s.heap rfl
 have e2:((s.heap.push W.emptyDict).push (W.instObj C s.heap.objs.size)).get? (s.heap.objs.size+1)=some (W.instObj C s.heap.objs.size):=by
  have:=Qu (s.heap.push W.emptyDict) (o:=W.instObj C s.heap.objs.size) rfl
  rwa [Rh] at this
 have e3:(s.heap.push W.emptyDict).Ns s.heap.objs.size (fun _=>none):=⟨W.emptyDict,#[],_,e1,rfl,(fun e he=>absurd he (by simp)),fun _=>rfl⟩;have I1:=I.laid (a:=s.heap.objs.size) (o:=.own (s.heap.objs.size+1)) (h':=s.heap.push W.emptyDict) (t':=s.toks) (fun b u q=>Qo _ q) (Qe _) ⟨_,e1⟩;refine I1.laid (a:=s.heap.objs.size+1) (o:=.ins C s.heap.objs.size []) (t':=s.toks) (fun b u q=>Qo _ q) (Gs (Rh _ _)) ?_;have ne:s.heap.objs.size≠s.heap.objs.size+1:=QA (Ro _);refine ⟨by rw [Zg ne,Ze],QL _,ne,e2,fun _=>none,(Heap.Ns1.of_empty e3).at fun o q=>Qo _ q,fun _=>True.intro,fun y hy=>absurd rfl hy⟩
theorem ZlW {prog:Program} {env:Env} {f:Str} (hb:attributeBase e f env (eval e env)=eval e env)
 (h:wpAny (model prog w) A (eval e env) (fun o s₁=>wpAny (model prog w) A (getAttr o f true) Q E s₁) E s):wpAny (model prog w) A (eval (.Attribute e f pos) env) Q E s :=
 Attribute_any_ h (by rw [arm_eval_Attribute,hb])
end
def ZgF (K:W.Frag) (ta:TE) (f:Str):TE:=fun σ H Q=>ta σ H fun x H1=>∃a C dx fs v,x=.ref a∧H1 a=some (.ins C dx fs)∧Cls K C∧NoAttr K C f∧fs.lookup f=some v∧Q v H1
def Zo8 (K:W.Frag) (ta tv:TE) (f:Str):TS:=fun D σ H=>tv σ H fun y H1=>ta σ H1 fun x H2=>∃a C dx fs,x=.ref a∧H2 a=some (.ins C dx fs)∧Cls K C∧NoAttr K C f∧fs.length<1000 ∧
 D.nx σ (Zb H2 a (.ins C dx (ZI f y fs)))
section
variable {o value:Expr} {f:Str} {pos' tpos:Pos} {tv:TE}
theorem YQ (he:PE X e ta) (hb:attributeBase e f X.env (eval e X.env)=eval e X.env):PE X (.Attribute e f pos) (ZgF X.K ta f):=by
 intro pins s σ H Q I h;refine ZlW hb (Zq (he pins s σ H _ I h) fun u s1 ⟨x,H1,I1,rx,a,C,dx,fs,v,ex,ea,c,n,l,q⟩=>?_);subst ex;obtain rfl:u=Value.ref a:=rx;exact Zni I1 ea c n l fun u' s2 I2 ru=>⟨v,H1,I2,ru,q⟩
theorem WM (ha:PE X o ta) (hv:PE X value tv) (hs:swapsWith value (some (.Attribute o f pos')) pos.line X.env=pure false):PS X (.Assign [.Attribute o f pos'] value pos) (Zo8 X.K ta tv f):=by
 intro pins s σ H D I h;refine plainObj_wpAny_Assign_Attribute (Zq (hv pins s σ H _ I h) fun u s1 ⟨y,H1,I1,ry,q⟩=>Zq (ha pins s1 σ H1 _ I1 q) fun ov s2 ⟨x,H2,I2,rx,a,C,dx,fs,ex,ea,c,n,l,q2⟩=>?_) hs;subst ex;obtain rfl:ov=Value.ref a:=rx;exact Zlz I2 ea c n l ry fun s3 I3=>⟨σ,_,I3,q2⟩
end
section
variable {c:Value} {b:Bool}
inductive TyOf (K:W.Frag) (H:Hp):V->Value->Prop where
 |non:TyOf K H .non (.type "NoneType")
 |bl (x:Bool):TyOf K H (.bl x) (.type "bool")
 |int (i:Int):TyOf K H (.int i) (.type "int")
 |str (x:Str):TyOf K H (.str x) (.type "str")
 |flt (x:UInt64):TyOf K H (.flt x) (.type "float")
 |lst {a:Addr} {xs:List V} (e:H a=some (.lst xs)):TyOf K H (.ref a) (.type "list")
 |frz {a:Addr} {o:Obj} {xs:List V} (e:H a=some (.frz o (.lst xs))):TyOf K H (.ref a) (.type "list")
 |tup {a:Addr} {xs:List V} (e:H a=some (.tup xs)):TyOf K H (.ref a) (.type "tuple")
 |dK {a:Addr} {kvs:List (Zi×V)} (e:H a=some (.dK kvs)):TyOf K H (.ref a) (.type "dict")
 |dT {a:Addr} {kvs:List (List Zi×V)} (e:H a=some (.dT kvs)):TyOf K H (.ref a) (.type "dict")
 |ins {a C dx : Addr} {fs : List (Str×V)} (e : H a=some (.ins C dx fs)) (cl : Cls K C) (ha : W.findIn K (.ref C) "__class__"=some (some (.builtin "object.__class__")))
   (hn:W.specialIn K (.builtin "object.__class__") "__get__"=some (some (.builtin "getset_descriptor.__get__"))) (htk:W.takesIn K (.builtin "object.__class__")=some true)
   (hm:W.mroIn K C (.type "object")=some true):TyOf K H (.ref a) (.ref C)
theorem ZnN {x:V} {t:Value} (I:Inv X pins σ H s) (rx:RelV x u) (ty:TyOf X.K H x t) (e:W.kitOne X.K t c=some b) (h:∀tk,Q (.bool b) { s with toks:=tk }) :
  wpAny (model X.prog X.w) A (call (.builtin "isinstance") [u,c]) Q E s:=by
 cases ty with
 |non=>cases (show u=Value.none from rx);exact QX W.kitx_none I.kIn True.intro e (fun z=>nomatch z) h
 |bl y=>cases (show u=Value.bool y from rx);exact QX W.kitx_bool I.kIn True.intro e (fun z=>nomatch z) h
 |int i=>obtain ⟨t,q⟩:=(show ∃t,u=Value.int i t from rx);cases q;exact QX W.kitx_int I.kIn True.intro e (fun z=>nomatch z) h
 |str y=>obtain ⟨t,q⟩:=(show ∃t,u=Value.str y t from rx);cases q;exact QX W.kitx_str I.kIn True.intro e (fun z=>nomatch z) h
 |flt y=>obtain ⟨t,q⟩:=(show ∃t,u=Value.float y t from rx);cases q;exact QX W.kitx_float I.kIn True.intro e (fun z=>nomatch z) h
 |@lst a xs ea =>
  cases (show u=Value.ref a from rx);obtain ⟨_,_,n,_,h1⟩:=(show ObjOk X.prog X.w H s.heap a (.lst xs) from I.hok a _ ea);exact QX GT I.kIn ⟨_,h1,rfl⟩ e (fun z=>nomatch z) h
 |@frz a ob xs ea =>
  cases (show u=Value.ref a from rx);obtain ⟨_,_,_,n,_,h1⟩:=(show ObjOk X.prog X.w H s.heap a (.frz ob (.lst xs)) from I.hok a _ ea);exact QX GT I.kIn ⟨_,h1,rfl⟩ e (fun z=>nomatch z) h
 |@tup a xs ea =>
  cases (show u=Value.ref a from rx);obtain ⟨_,_,_,p⟩:=(show ObjOk X.prog X.w H s.heap a (.tup xs) from I.hok a _ ea);obtain ⟨o,h1,h2,_⟩:=p;exact QX W.kitx_tuple I.kIn ⟨o,h1,h2⟩ e (fun z=>nomatch z) h
 |@dK a kvs ea =>
  cases (show u=Value.ref a from rx);obtain ⟨_,_,vs,_,p⟩:=(show ObjOk X.prog X.w H s.heap a (.dK kvs) from I.hok a _ ea);obtain ⟨o,es,ep,h1,h2,_⟩:=p;exact QX W.kitx_dict I.kIn ⟨o,h1,h2.1⟩ e (fun z=>nomatch z) h
 |@dT a kvs ea =>
  cases (show u=Value.ref a from rx);obtain ⟨_,_,xs,_,o,es,ep,h1,h2,_⟩:=(show ObjOk X.prog X.w H s.heap a (.dT kvs) from I.hok a _ ea);exact QX W.kitx_dict I.kIn ⟨o,h1,h2.1⟩ e (fun z=>nomatch z) h
 |@ins a C dx fs ea cl ha hn htk hm =>
  cases (show u=Value.ref a from rx);obtain ⟨mA,O,_⟩:=Zbu I.hok ea;obtain ⟨od,J,_⟩:=O.look;exact QX (W.kitx_own (cl.get _) cl.hd ha hn htk hm) I.kIn J e (fun z=>nomatch z) h
end
structure Room (k:Nat) (A:Around):Prop where
 hd:A.handled=none
 dp:A.depth+3*k+5<recursionLimit
 un:A.units+16*k+200<cLine
theorem Room.mono {k:Nat} (r:Room k A) (h:j≤k):Room j A:=⟨r.hd,by have:=r.dp;omega,by have:=r.un;omega⟩
theorem Room.deeper {k:Nat} (r:Room (k+1) A) (env:Env):Room k (A.deeper env) :=
 ⟨r.hd,by have:=r.dp;show A.depth+1+3*k+5<_;omega,by have:=r.un;show A.units+3+16*k+200<_;omega⟩
theorem Zkz:(A.under (.builtin "type.__call__" ⟨.ref C::us,kw⟩)).depth=A.depth+1:=by
 first|rfl|simp [Around.under,Code.weight,Code.isCreation,Code.isGuard,Code.isCaller,Code.frames,Code.isFrame,guardIds]
theorem Zqz:(A.under (.builtin "type.__call__" ⟨.ref C::us,kw⟩)).units=A.units+1:=by
 first|rfl|simp [Around.under,Code.cUnits,Code.frames,Code.isFrame]
theorem Room.make {k:Nat} (r:Room (k+1) A) (C:Addr) (us:List Value) (kw:List (Str×Value)):Room k (A.under (.builtin "type.__call__" ⟨.ref C::us,kw⟩)) :=
 ⟨r.hd,by have:=r.dp;rw [Zkz];omega,by have:=r.un;rw [Zqz];omega⟩
theorem Room.depth {k:Nat} (r:Room k A):A.depth<recursionLimit:=by have:=r.dp;omega
theorem Room.units {k:Nat} (r:Room k A):A.units+64<cLine:=by have:=r.un;omega
def UP:TA:=fun _ H Q=>Q [] H
def WO (ta:TE) (tr:TA):TA:=fun σ H Q=>ta σ H fun x H1=>tr σ H1 fun xs H2=>Q (x::xs) H2
section
variable {t:TA}
theorem Zc:PA X [] UP:=fun _ _ _ _ H Q I h=>GU ⟨[],H,I,.nil,h⟩
theorem Za (ha:PE X e te) (hr:PA X es t) (hs:starEach (e::es) X.env=(false,eval e X.env)::starEach es X.env:=by rfl):PA X (e::es) (WO te t):=by
 intro pos pins s σ H Q I h;rw [hs];show wpAny _ _ (spliced ((false,eval e X.env)::backTo pos (starEach es X.env))) _ _ s;refine RO (Zq (ha pins s σ H _ I h) fun u s1 ⟨x,H1,I1,r1,q1⟩=>?_);exact Zq (hr pos pins s1 σ H1 _ I1 q1) fun us s2 ⟨xs,H2,I2,r2,q2⟩=>⟨x::xs,H2,I2,.cons r1 r2,q2⟩
def Ze6 (t:TA):TE:=fun σ H Q=>t σ H fun xs H1=>xs.length≤sizeLine∧∀p,H1 p=none->Q (.ref p) (Zb H1 p (.tup xs))
def Znr (t:TA):TE:=fun σ H Q=>t σ H fun xs H1=>xs.length≤sizeLine∧∀p,H1 p=none->Q (.ref p) (Zb H1 p (.lst xs))
theorem Z8 {x1} (h:PA X es t):PE X (.Tuple es x1 pos) (Ze6 t):=by
 intro pins s σ H Q I hq;refine wpAny_Tuple_spliced (Zq (h pos pins s σ H _ I hq) fun us s1 ⟨xs,H1,I1,r,z,q⟩=>⟨by rw [←r.length];exact z,?_⟩);have hf:H1 s1.heap.objs.size=none:=I1.hok.fresh (Qe _);refine ⟨.ref s1.heap.objs.size,Zb H1 s1.heap.objs.size (.tup xs),I1.laid (t':=s1.toks) (fun b u e=>Qo _ e) (Qe _) ?_,rfl,q _ hf⟩;exact ⟨z,us,r,⟨_,Qu _ rfl,rfl,_,rfl⟩⟩
theorem Yk (h:PA X es t):PE X (.List es pos) (Znr t):=by
 intro pins s σ H Q I hq;refine wpAny_List_spliced (Zq (h pos pins s σ H _ I hq) fun us s1 ⟨xs,H1,I1,r,z,q⟩=>⟨by rw [←r.length];exact z,?_⟩);have hf:H1 s1.heap.objs.size=none:=I1.hok.fresh (Qe _);refine ⟨.ref s1.heap.objs.size,Zb H1 s1.heap.objs.size (.lst xs),I1.laid (t':=s1.toks) (fun b u e=>Qo _ e) (Qe _) ?_,rfl,q _ hf⟩;exact ⟨z,us,0,r,Qu _ rfl⟩
end
abbrev Sp:=List V->Hp->VK->XK->Prop
abbrev YH:=List Env->Hp->Shared->XK->Value->Shared->Prop
structure Env0 (P:Program) (w:World) (K:W.Frag) (mg:Str->Option Value) (base:Heap) (A:Around) (outer:List Env) (s:Shared) (H:Hp):Prop where
 frames:A.frames=some outer
 mod:Mod K mg base
 bs:∀b o,base.get? b=some o->s.heap.get? b=some o∧H b=none
 bsz:base.objs.size≤s.heap.objs.size
 funs:s.heap.FunFrames base outer
 frf:∀b∈YM outer,H b=none
 hok:HOk P w H s.heap
 bare:AllBare s.gens
def CE (outer:List Env) (P:Program) (w:World) (H:Hp) (s:Shared) (Q:VK) (u:Value) (s':Shared):Prop :=
 ∃v H',s'.os=s.os∧AllBare s'.gens∧Un (YM outer) [] H H' s.heap s'.heap∧HOk P w H' s'.heap∧RelV v u∧Q v H'
def CR (CX:YH) (outer:List Env) (P:Program) (w:World) (H:Hp) (s:Shared) (Q:VK) (E:XK) (r:Result) (s':Shared):Prop :=
 match r with
 |.ok (.ret u)=>CE outer P w H s Q u s'
 |.ok _=>False
 |.error e=>CX outer H s E e s'
structure FnOk (P:Program) (w:World) (K:W.Frag) (mg:Str->Option Value) (base:Heap) (CX:YH) (k:Nat) (f:Addr) (fd:FuncData) (ps:List Str) (sp:Sp):Prop where
 len:∀vs H Q E,sp vs H Q E->vs.length=ps.length
 run:∀(A:Around) (outer:List Env) (s:Shared) (H:Hp) (args:Args) (us:List Value) (vs:List V) (Q:VK) (E:XK),Room k A->Env0 P w K mg base A outer s H->BindsTo s fd args (ps.zip us)->Vals vs us->sp vs H Q E →
  codeAny (model P w) A (.call (.ref f) args) (CR CX outer P w H s Q E) s
theorem FnOk.imp {k:Nat} {f:Addr} {sp sp':Sp} (F:FnOk P w K mg base CX k f fd ps sp)
 (h:∀vs H Q E,sp' vs H Q E->sp vs H Q E):FnOk P w K mg base CX k f fd ps sp' :=
 ⟨fun vs H Q E q=>F.len vs H Q E (h _ _ _ _ q),fun A outer s H args us vs Q E hr he hb hv hs=>F.run A outer s H args us vs Q E hr he hb hv (h _ _ _ _ hs)⟩
theorem Env0.make {outer:List Env} (e:Env0 P w K mg base A outer s H) (C:Addr) (us:List Value) (kw:List (Str×Value)) :
  Env0 P w K mg base (A.under (.builtin "type.__call__" ⟨.ref C::us,kw⟩)) outer s H:=⟨by first|exact e.frames|(simpa [Around.under,Code.envs,Code.isFrame,pushEnvs] using e.frames),e.mod,e.bs,e.bsz,e.funs,e.frf,e.hok,e.bare⟩
section
variable {s':Shared}
theorem Inv.env0 (I:Inv X pins σ H s):Env0 X.prog X.w X.K X.mg X.base X.A X.stack s H :=
 ⟨I.ok.frames,I.ok.mod,I.bs,Qi I.ok.bsz I.sz,I.stack,I.stkFree,I.hok,I.bare⟩
theorem Inv.after {Q:VK} (I:Inv X pins σ H s) (h:CE X.stack X.prog X.w H s Q u s'):EP X pins σ Q u s':=by
 obtain ⟨v,H',os,bare,un,hok,r,q⟩:=h;obtain ⟨hh,g,d,t,os'⟩:=s';obtain rfl:os'=s.os:=os;exact ⟨v,H',I.call (h':=hh) (g':=g) (d':=d) (t':=t) (ch:=[]) un hok bare (fun b z=>absurd z (by simp)),r,q⟩
end
def Binds (K:W.Frag) (fd:FuncData) (ps:List Str) (ds:List Value):Prop :=
 ∀(s:Shared) (us:List Value),K.In s.heap->(us++ds).length=ps.length->BindsTo s fd ⟨us,[]⟩ (ps.zip (us++ds))
theorem Binds.all (h:∀us:List Value,us.length=ps.length->bindArgs fd ⟨us,[]⟩=pure (ps.zip us)):Binds K fd ps []:=fun s us _ hl=>by
 rw [Qt] at hl ⊢;exact .of_eq (h us hl)
def Zhg (CX:YH) (X:Cx) (E:XK):Prop:=∀(pins:List (Addr×Obj)) (σ:St) (H:Hp) (s:Shared) (e:Value) (s':Shared),Inv X pins σ H s->CX X.stack H s E e s'->X.xe e s'
section
variable {k:Nat} {f:Addr} {sp:Sp} {dvs:List V} {ds:List Value} {E:XK} {x:Str} {apos:Pos} {o:Expr} {t:TA}
theorem ZkC {Q:VK} {vs:List V} (F:FnOk X.prog X.w X.K X.mg X.base CX k f fd ps sp) (hr:Room k X.A) (hb:Binds X.K fd ps ds) (hd:Vals dvs ds) (hx:Zhg CX X E)
 (I:Inv X pins σ H s) (r:Vals vs us) (h:sp (vs++dvs) H Q E):wpAny (model X.prog X.w) X.A (call (.ref f) us) (EP X pins σ Q) X.xe s:=by
 have r2:Vals (vs++dvs) (us++ds):=r.append hd;have hl:(us++ds).length=ps.length:=by rw [←r2.length];exact F.len _ _ _ _ h
 refine wpAny_call (Gu (F.run X.A X.stack s H ⟨us,[]⟩ (us++ds) (vs++dvs) Q E hr I.env0 (hb s us I.kIn hl) r2 h) fun r s' hq=>?_);cases r with
 |error e=>exact hx pins σ H s e s' I hq
 |ok fl =>
  cases fl with
  |ret u=>exact I.after hq
  |next=>exact False.elim hq
  |brk=>exact False.elim hq
  |cont=>exact False.elim hq
structure Mk (K:W.Frag) (C f:Addr):Prop where
 makes:W.makesIn K C=true
 init:W.findIn K (.ref C) "__init__"=some (some (.ref f))
 fn:W.isFn K (.ref f)=true
 kp:W.keepIn K (.ref C)=true
end
section
variable {k:Nat} {f:Addr} {ks:List Str} {sp:Sp} {E:XK} {x:Str} {apos kpos:Pos} {o:Expr} {kws:List Keyword} {t tk:TA} {nm:Option Str}
variable {g:List Value->List Value->List Value} {gV:List V->List V->List V}
end
structure FnScope (N P:List Str) (sc:Scope):Prop where
 kind:sc.kind=.function
 co:sc.isCoroutine=false
 gen:sc.isGenerator=false
 nd:N.Nodup
 pre:N.take P.length=P
 par:∀x∈P,sc.names.lookup x=some .local∨sc.names.lookup x=some .cell
 nofree:∀y∈sc.names,y.2≠.free
theorem ZfR {kindOf:Str->Option NameKind} {x:Str}:∀{binds:List (Str×Value)} {m:Str->Option Value},(∀v,(x,v)∉binds)->bindL kindOf binds m x=m x
 |[],_,_=>rfl
 | (n,v)::r,m,h=>by
  unfold bindL;rw [ZfR fun w hw=>h w (Qx _ hw)];split
  ·have:x≠n:=by rintro rfl;exact h v QB
   simp [this]
  ·rfl
theorem Zit {kindOf:Str->Option NameKind} {x:Str}:∀{binds:List (Str×Value)} {m:Str->Option Value},(∀v,(x,v)∉binds)->bindC kindOf binds m x=m x
 |[],_,_=>rfl
 | (n,v)::r,m,h=>by
  unfold bindC;rw [Zit fun w hw=>h w (Qx _ hw)];split
  ·rfl
  ·have:x≠n:=by rintro rfl;exact h v QB
   simp [this]
theorem Ze3 {kindOf:Str->Option NameKind} {x:Str} {v:Value}:∀{P:List Str} {vs:List Value} {i:Nat} {m:Str->Option Value},P.Nodup->P[i]?=some x->vs[i]?=some v->kindOf x=some .local →
  bindL kindOf (P.zip vs) m x=some v
 |[],_,_,_,_,h,_,_=>by simp at h
 |_::_,[],_,_,_,_,h,_=>by simp at h
 |p::P,w::vs,0,m,nd,h1,h2,hk=>by
  simp at h1 h2;subst h1;subst h2;show bindL kindOf ((p,w)::P.zip vs) m p=_;unfold bindL;rw [ZfR fun v hv=>(QP.mp nd).1 (Nw hv).1,Qb hk];simp
 |p::P,w::vs,i+1,m,nd,h1,h2,hk=>by
  show bindL kindOf ((p,w)::P.zip vs) m x=_;unfold bindL;exact Ze3 (i:=i) (QP.mp nd).2 (by simpa using h1) (by simpa using h2) hk
theorem Zh5 {kindOf:Str->Option NameKind} {x:Str} {v:Value}:∀{P:List Str} {vs:List Value} {i:Nat} {m:Str->Option Value},P.Nodup->P[i]?=some x->vs[i]?=some v->kindOf x≠some .local →
  bindC kindOf (P.zip vs) m x=some v
 |[],_,_,_,_,h,_,_=>by simp at h
 |_::_,[],_,_,_,_,h,_=>by simp at h
 |p::P,w::vs,0,m,nd,h1,h2,hk=>by
  simp at h1 h2;subst h1;subst h2;show bindC kindOf ((p,w)::P.zip vs) m p=_;unfold bindC;rw [Zit fun v hv=>(QP.mp nd).1 (Nw hv).1,Qa hk];simp
 |p::P,w::vs,i+1,m,nd,h1,h2,hk=>by
  show bindC kindOf ((p,w)::P.zip vs) m x=_;unfold bindC;exact Zh5 (i:=i) (QP.mp nd).2 (by simpa using h1) (by simpa using h2) hk
noncomputable def start (N:List Str) (vs:List V):St:=vs.map some++List.replicate (N.length-vs.length) none
noncomputable def W2 (CX:YH) (P:Program) (w:World) (K:W.Frag) (mg:Str->Option Value) (base:Heap) (N:List Str) (qual:Str) (scope:Scope) (f:Addr) (cd:Value) (A:Around) (outer:List Env) (s:Shared) (H:Hp) (E:XK):Cx where
 prog:=P
 w:=w
 K:=K
 mg:=mg
 base:=base
 A:=A.deeper (envOfC qual scope s.heap.objs.size f cd)
 N:=N
 s₀:=s
 H₀:=H
 env:=envOfC qual scope s.heap.objs.size f cd
 outer:=outer
 stack:=envOfC qual scope s.heap.objs.size f cd::outer
 ex:=[]
 calm:=true
 fn:=fun _=>true
 pn:=[]
 xe:=fun e s'=>wpAny (model P w) (A.deeper (envOfC qual scope s.heap.objs.size f cd)) (leaving (envOfC qual scope s.heap.objs.size f cd) e) (fun _ s''=>CX outer H s E e s'') (fun e' s''=>CX outer H s E e' s'') s'
theorem Zfj {sc:Scope} {x:Str} (h:sc.names.lookup x=some .cell):∃c,(cellsFrom n sc.names []).lookup x=some c:=by
 have q:=W.cellsFrom_some sc.names n [] (.inl h);exact NU.mp q
theorem Zmn {qual:Str} {scope:Scope} {f:Addr} {cd:Value} {outer:List Env} {s1:Shared} {E:XK} {vs:List V}
 (S:FnScope N ps scope) (hd:A.handled=none) (e0:Env0 P w K mg base A outer s H) (hl:vs.length=ps.length) (r:Vals vs us)
 (x:InCallC s s.heap.objs.size (bindL (envOfC qual scope s.heap.objs.size f cd).kindOf (ps.zip us) fun _=>none) (cellsFrom (s.heap.objs.size+1) scope.names []) (bindC (envOfC qual scope s.heap.objs.size f cd).kindOf (ps.zip us) fun _=>none) s1) :
  Inv (W2 CX P w K mg base N qual scope f cd A outer s H E) [] (start N vs) H s1:=by
 have hpl:ps.length≤N.length:=by have:=Qj List.length S.pre;rw [QV] at this;omega
 obtain ⟨h1,tk,rfl,hk⟩:=x.done;have noA:∀b:Addr,b∉(W2 CX P w K mg base N qual scope f cd A outer s H E).ex:=fun b z=>absurd (show b∈([]:List Addr) from z) (by simp)
 refine ⟨⟨e0.mod,S.kind,rfl,rfl,Qe _,fun y z c h1 h2=>?_,fun y hy=>?_,fun y c _ h=>?_,fun _=>hd,Around.frames_deeper e0.frames,.inr ⟨rfl,rfl⟩,fun b z=>absurd z (noA b),e0.bs,e0.bsz,fun b _ _=>noA b,fun b z=>absurd z (noA b),e0.funs,e0.frf⟩,
  rfl,e0.bare,Un.kept hk,⟨_,x.toInCall.ns,fun i y v h1 h2 h3=>?_⟩,fun y c h=>⟨_,x.cell y c h⟩,e0.hok.fresh (Qe _),fun y c h=>?_,fun p hp=>absurd (show p∈([]:List (Addr×Obj)) from hp) (by simp),e0.hok.kept hk,?_⟩
 ·exact name_of_addr x.apart (RP h1) (RP h2)
 ·have hy:scope.names.lookup y=some .cell∨scope.names.lookup y=some .free:=hy;rcases hy with hy|hy
  ·exact Zfj hy
  ·exact absurd rfl (S.nofree _ (RP hy))
 ·exact Q1 (x.above y c (RP h))
 ·have hi:i<vs.length:=by
   unfold start at h2;by_cases hi:i<vs.length
   ·exact hi
   ·rw [RE (by simpa using hi)] at h2;rw [List.getElem?_replicate] at h2;split at h2<;>cases h2
  have ha:vs[i]?=some v:=by
   unfold start at h2;rw [RF (by simpa using hi),Qp] at h2;cases e:vs[i]? with
   |none=>rw [e] at h2;cases h2
   |some a=>rw [e] at h2;cases h2;rfl
  obtain ⟨u,hu,rv⟩:=r.get ha
  have hp:ps[i]?=some y:=by
   rw [←S.pre,NV (by omega)];exact h1
  have ndP:ps.Nodup:=by rw [←S.pre];exact S.nd.sublist (RQ _ _)
  refine ⟨u,rv,?_⟩;rcases S.par y (Qy hp) with k|k
  ·exact .inl ⟨k,Ze3 ndP hp hu k⟩
  ·obtain ⟨c,e⟩:=Zfj (n:=s.heap.objs.size+1) k;refine .inr ⟨.inl k,c,e,?_⟩;have q:=x.cell y c e;rw [Zh5 ndP hp hu (by show scope.names.lookup y≠_;rw [k];decide)] at q;exact q
 ·exact e0.hok.fresh (Q1 (x.above y c (RP h)))
 ·unfold start;show _=N.length;rw [Qv,Qd,R6];omega
theorem ZgH {k:Nat} {f:Addr} {name qual:Str} {params:Arguments} {body:List Stmt} {scope:Scope} {dV kV doc pm cdv ct oc:Value} {an od:Option Addr}
 {osl:Array (Option Value)} {sp:Sp} (lk:K.lookup f=some ⟨oc,od,.func (W.fnOf name qual params body scope dV kV doc pm an cdv ct),osl⟩) (hcd:W.codeIn K cdv qual=true) (S:FnScope N ps scope)
 (len:∀vs H Q E,sp vs H Q E->vs.length=ps.length)
 (hbody:∀(A:Around) (outer:List Env) (s:Shared) (H:Hp) (vs:List V) (Q:VK) (E:XK),Room k (A.deeper (envOfC qual scope s.heap.objs.size f cdv))->sp vs H Q E →
 ∃t,PSs (W2 CX P w K mg base N qual scope f cdv A outer s H E) body t∧t { nx:=fun _ H'=>Q .non H',rt:=Q } (start N vs) H) :
  FnOk P w K mg base CX (k+1) f (W.fnOf name qual params body scope dV kV doc pm an cdv ct) ps sp:=by
 refine ⟨len,fun A outer s H args us vs Q E hr e0 hb r hsp=>?_⟩;have hl:=len _ _ _ _ hsp;have KX:K.In s.heap:=e0.mod.kin.keeps fun b o e=>(e0.bs b o e).1;have lim:s.heap.NoLimit:=e0.mod.nolimit.keeps fun b o e=>(e0.bs b o e).1
 have hkind:∀y∈ps.zip us,scope.names.lookup y.1=some .local∨(scope.names.lookup y.1=some .cell∧((cellsFrom (s.heap.objs.size+1) scope.names []).lookup y.1).isSome=true):=fun ⟨n,v⟩ hy=>by
  rcases S.par n (Nw hy).1 with q|q
  ·exact .inl q
  ·exact .inr ⟨q,W.cellsFrom_some _ _ _ (.inl q)⟩
 refine codeAny_call_function hr.depth (KX _ _ lk) rfl S.co S.gen rfl (W.codeRec_of KX hcd) (hb _ _ _ _ ?_);refine wpAny_newFunctionEnv_cells S.kind hkind fun env he s1 x=>?_;subst he;refine ⟨lim.keeps x.toInCall.keep,codeAny_func ?_⟩;obtain ⟨t,ht,hq⟩:=hbody A outer s H vs Q E (hr.deeper _) hsp;have I:Inv (W2 CX P w K mg base N qual scope f cdv A outer s H E) [] (start N vs) H s1:=Zmn S hr.hd e0 hl r x;refine Ra (ht [] s1 (start N vs) H _ I hq) (fun fl s' hs=>?_) fun e s' hs=>hs
 have fin:∀{σ':St} {H':Hp} {v:V} {u:Value},Inv (W2 CX P w K mg base N qual scope f cdv A outer s H E) [] σ' H' s'->RelV v u->Q v H'->CE outer P w H s Q u s' :=
  fun {σ' H' v u} J rv q=>⟨v,H',J.os,J.bare,J.base,J.hok,rv,q⟩
 cases fl with
 |ret u =>
  obtain ⟨v,σ',H',J,rv,q⟩:=hs;exact fin J rv q
 |next =>
  obtain ⟨σ',H',J,q⟩:=hs;exact fin (v:=V.non) (u:=Value.none) J rfl q
 |brk =>
  obtain ⟨_,_,_,q⟩:=hs;exact False.elim q
 |cont =>
  obtain ⟨_,_,_,q⟩:=hs;exact False.elim q
section
variable {x:Str} {t:TA} {id T:String} {r:List V->Hp->VK->Prop}
def tCB (r:List V->Hp->VK->Prop) (t:TA):TE:=fun σ H Q=>t σ H fun vs H1=>r vs H1 Q
theorem ZQ (hc:YN X (.builtin id) r) (hg:Gl X x) (hm:X.mg x=none) (hv:bootBuiltins x=some (.builtin id)) (ha:PA X (e::es) t) (hn:x≠"__name__":=by decide) (hdb:(x==("__debug__": Str))=false:=by decide)
 (he:starEach (e::es) X.env=(false,eval e X.env)::starEach es X.env:=by rfl) (hpl:(backTo pos (starEach es X.env)).any (·.1)=false:=by rfl):PE X (.Call (.Name x p) (e::es) [] pos) (tCB r t):=by
 intro pins s σ H Q I h;refine RS (UQ I hg hm hv ?_ hn hdb);exact PyProof.Rows.callWith_builtin1 (Zq (ha pos pins s σ H _ I h) fun us s1 ⟨vs,H1,I1,r1,q1⟩=>hc pins s1 σ H1 vs us Q I1 r1 q1) he hpl
theorem VN (hc:YN X (.type T) r) (hg:Gl X x) (hm:X.mg x=none) (hv:bootBuiltins x=some (.type T)) (ha:PA X (e::es) t) (hn:x≠"__name__":=by decide) (hdb:(x==("__debug__": Str))=false:=by decide)
 (he:starEach (e::es) X.env=(false,eval e X.env)::starEach es X.env:=by rfl) (hpl:(backTo pos (starEach es X.env)).any (·.1)=false:=by rfl):PE X (.Call (.Name x p) (e::es) [] pos) (tCB r t):=by
 intro pins s σ H Q I h;refine RS (UQ I hg hm hv ?_ hn hdb);exact GR (Zq (ha pos pins s σ H _ I h) fun us s1 ⟨vs,H1,I1,r1,q1⟩=>hc pins s1 σ H1 vs us Q I1 r1 q1) he hpl
end
end L2
namespace HT
open PySem PyProof.Rows
section
open PySem.SeqAt
open PySem.AutoSeq1 (wpAny_loadPart')
open PySem.MeetsSeq PySem.MeetsSeq2 PySem.MeetsSeq3
end
section
variable {prog:Program} {w:World} {A:Around} {E:Value->Shared->Prop} {s:Shared}
theorem cat_tup {t b:Addr} {vs ws:List Value} {Q:Value->Shared->Prop} (ht:IsTup s.heap t vs.toArray) (hb:IsTup s.heap b ws.toArray) (hv:vs≠[])
  (h1:ws=[]->Q (.ref t) s) (h2:ws≠[]->Q (.ref s.heap.objs.size) { s with heap:=s.heap.push { cls:=.type "tuple",data:=.seq (vs++ws).toArray } })
  (hsz:vs.length+ws.length≤sizeLine):wpAny (model prog w) A (binaryOp .Add (.ref t) (.ref b)) Q E s:=by
 obtain ⟨⟨cls,dd,data,sl⟩,ho,hc,n,hd⟩:=id ht;obtain ⟨⟨cls2,dd2,data2,sl2⟩,ho2,hc2,n2,hd2⟩:=id hb;simp only at hc hd hc2 hd2;subst hc hd hc2 hd2;have e:vs.toArray++ws.toArray=(vs++ws).toArray:=by simp
 by_cases hw:ws=[]
 ·exact concat_meets ⟨_,ho,rfl⟩ ⟨_,ho2,rfl⟩ noFill_tuple_add seq_tuple_add PySem.F.slot_tuple_add NW (NX _ _)
   (tuple_addW1 t b vs.toArray ws.toArray n n2 dd dd2 sl sl2 (by simpa using hv) (by simp [hw])) ⟨ho,ho2,h1 hw⟩
 ·refine concat_meets ⟨_,ho,rfl⟩ ⟨_,ho2,rfl⟩ noFill_tuple_add seq_tuple_add PySem.F.slot_tuple_add NW (NX _ _)
   (tuple_addW2 t b vs.toArray ws.toArray n n2 dd dd2 sl sl2 (by simpa using hv) (by simpa using hw) (by rw [Qz,Qz];exact hsz)) ⟨ho,ho2,?_⟩
  rw [e];exact h2 hw
noncomputable def sIx (n d:Nat):Option Int->Nat
 |none=>d
 |some v=>if v<0 then (v+(n:Int)).toNat else min v.toNat n
theorem sIx_nat (n d k:Nat):sIx n d (some (k:Int))=min k n:=by
 show (if (k:Int)<0 then ((k:Int)+(n:Int)).toNat else min (k:Int).toNat n)=min k n;rw [Qa (by omega),Gv]
theorem Zmh (n d:Nat) (hd:d≤n) (o:Option Int):sIx n d o≤n:=by
 cases o with
 |none=>exact hd
 |some v =>
  show (if v<0 then (v+(n:Int)).toNat else min v.toNat n)≤n;by_cases hv:v<0
  ·rw [Qb hv];omega
  ·rw [Qa hv];exact Nat.min_le_right _ _
theorem Zir (v:Int) (n d:Nat):(if v<0 then max (v+(n:Int)) 0 else min v (n:Int))=((sIx n d (some v):Nat):Int):=by
 show (if v<0 then max (v+(n:Int)) 0 else min v (n:Int))=(((if v<0 then (v+(n:Int)).toNat else min v.toNat n):Nat):Int);by_cases hv:v<0
 ·simp only [Qb hv];omega
 ·simp only [Qa hv];omega
theorem ZlD (lo hi:Option Int) (n:Nat):Builtin.Slice.sliceAdjust lo hi 1 (n:Int)=(((sIx n 0 lo:Nat):Int),((sIx n n hi:Nat):Int)):=by
 have h1:¬((1:Int)<0):=by omega
 unfold Builtin.Slice.sliceAdjust;simp only [h1,Q6];refine RM ?_ ?_
 ·cases lo with
  |none=>rfl
  |some v=>exact Zir v n 0
 ·cases hi with
  |none=>rfl
  |some v=>exact Zir v n n
theorem Zlk (i j:Nat):Builtin.Slice.slicePlaces (i:Int) (j:Int) 1=j-i:=by
 unfold Builtin.Slice.slicePlaces;have h1:(1:Int) > 0:=by omega
 simp only [h1,Q7,Int.ediv_one];split<;>omega
theorem Zic {v:Value} {o:Option Int} {Q:Option Int->Shared->Prop} (p:IsPart v o) (h:Q o s):wpAny (model prog w) A (Builtin.Slice.slicePartIndex v) Q E s:=by
 cases p with
 |none=>exact slicePart_none h
 |int i t=>exact slicePart_int h
theorem Zlc {sl:Addr} {vl vu:Value} {lo hi:Option Int} {n:Nat} {Q:Int×Int×Nat->Shared->Prop} (hs:s.heap.IsSliceOf sl vl vu .none) (pl:IsPart vl lo) (pu:IsPart vu hi)
  (h:Q (((sIx n 0 lo:Nat):Int),1,sIx n n hi-sIx n 0 lo) s):wpAny (model prog w) A (Builtin.Slice.sliceApplied (.ref sl) (pure (n:Int))) Q E s:=by
 obtain ⟨os,hos,hcs,hds⟩:=id hs;unfold Builtin.Slice.sliceApplied Builtin.Slice.sliceFields;refine Qc (Qc (QQ hos hds (x:=vl) rfl (Qc (QQ hos hds (x:=vu) rfl (Qc (QQ hos hds (x:=.none) rfl (Qf ?_)))))));refine Qc (slicePart_none ?_);show wpAny _ _ (if ((1:Int)==0)=true then _ else _) _ _ s;rw [Qa (by decide)];refine Qc (Zic pl (Qc (Zic pu (Qc (Qf ?_)))));show wpAny _ _ (match Builtin.Slice.sliceAdjust lo hi 1 (n:Int) with|(lo,hi)=>pure (lo,(1:Int),Builtin.Slice.slicePlaces lo hi 1)) _ _ s;rw [ZlD lo hi n];show wpAny _ _ (pure (((sIx n 0 lo:Nat):Int),(1:Int),Builtin.Slice.slicePlaces ((sIx n 0 lo:Nat):Int) ((sIx n n hi:Nat):Int) 1)) _ _ s;rw [Zlk];exact Qf h
theorem ZjQ (xs:Array Value) (i k:Nat):((List.range k).filterMap fun (m:Nat)=>xs[((i:Int)+(m:Int)*1).toNat]?).toArray=((xs.toList.drop i).take k).toArray:=by
 have e:(fun (m:Nat)=>xs[((i:Int)+(m:Int)*1).toNat]?)=fun m=>xs[i+m]?:=by
  funext m
  have:((i:Int)+(m:Int)*1).toNat=i+m:=by omega
  rw [this]
 rw [e];have:=pick_run xs i k;rw [GV] at this;have e2:((fun x=>xs[x]?)∘fun x=>i+x)=fun m=>xs[i+m]?:=rfl;rw [e2] at this;rw [this]
theorem getItem_tuple_cut {t sl:Addr} {items:Array Value} {vl vu:Value} {lo hi:Option Int} {Q:Value->Shared->Prop} (ht:IsTup s.heap t items) (hs:s.heap.IsSliceOf sl vl vu .none) (pl:IsPart vl lo) (pu:IsPart vu hi)
  (hw:¬(sIx items.size 0 lo=0∧sIx items.size items.size hi=items.size))
  (h:Q (.ref s.heap.objs.size) { s with heap:=s.heap.push { cls:=.type "tuple",data:=.seq ((items.toList.drop (sIx items.size 0 lo)).take (sIx items.size items.size hi-sIx items.size 0 lo)).toArray } })
  (hsz:items.size≤sizeLine):wpAny (model prog w) A (getItem (.ref t) (.ref sl)) Q E s:=by
 have htake:sizeOk (.seq ((items.toList.drop (sIx items.size 0 lo)).take (sIx items.size items.size hi-sIx items.size 0 lo)).toArray):=by
  show ((items.toList.drop (sIx items.size 0 lo)).take (sIx items.size items.size hi-sIx items.size 0 lo)).toArray.size≤sizeLine;rw [Qz,QV,Gw,QD];omega
 have hj:sIx items.size items.size hi≤items.size:=Zmh _ _ (Qe _) hi;obtain ⟨os,hos,hcs,hds⟩:=id hs;have hTs:s.TypeIs (.ref sl) "slice":=⟨os,hos,hcs⟩;unfold getItem
 try with_reducible refine R7 ?_
 first|refine Qc (Qf ?_)|skip
 refine Qc (wpAny_sequenceKey ht.typeIs (by decide) ?_)
 refine Qc (RG (name:=Str.ofString "__getitem__") ht.typeIs Ny
  (Rp Ny ht.typeIs entry_tuple_getitem ?_ (args_tuple_getitem _ _)))
 show wpAny _ _ (Builtin.Tuple.tupleItemsOf (.ref t) >>= _) _ _ s;refine Qc (tupleItemsOf_ ht ?_);refine Qc (wpAny_typeOf hTs ?_);rw [Qb (by decide)];refine Qc (Zlc hs pl pu ?_)
 have hno:¬((((sIx items.size 0 lo:Nat):Int)==0&&(1:Int)==1&&(sIx items.size items.size hi-sIx items.size 0 lo)==items.size)=true):=by
  intro q;rw [Ri,Ri] at q;have q1:((sIx items.size 0 lo:Nat):Int)=0:=eq_of_beq q.1.1;have q2:sIx items.size items.size hi-sIx items.size 0 lo=items.size:=eq_of_beq q.2;exact hw ⟨by omega,by omega⟩
 show wpAny _ _ (if (((sIx items.size 0 lo:Nat):Int)==0&&(1:Int)==1&&(sIx items.size items.size hi-sIx items.size 0 lo)==items.size)=true then _ else _) _ _ s;rw [Qa hno,ZjQ]
 first
  |exact Qc (m:=Builtin.Tuple.tupleExact _) (Rc (Qf ⟨_,rfl,Qf h⟩) htake)
  |exact Qc (m:=Builtin.Tuple.tupleExact _) (Rc (Qc (Qf (Qf ⟨_,rfl,Qf h⟩))) htake)
  |exact Qc (Qc (m:=Builtin.Tuple.tupleExact _) (Rc (Qf (Qf ⟨_,rfl,Qf h⟩)) htake))
  |exact Qc (Qc (m:=Builtin.Tuple.tupleExact _) (Rc (Qf ⟨_,rfl,Qf h⟩) htake))
end
end HT
namespace L2
open PySem PySem.Spec PyProof.Rows
variable {a b:Addr} {A:Around} {X:Cx} {e:Expr} {H H':Hp} {pins:List (Addr×Obj)} {xs:List (List Zi×Addr×Value)} {kvs:List (List Zi×V)} {t':Nat} {o:Option V} {pos:Pos} {P:Program} {s:Shared} {σ:St} {T:String} {y:V} {u:Value} {E Q:Value->Shared->Prop} {w:World}
abbrev TO:=St->Hp->(Option Int->Hp->Prop)->Prop
def PO (X:Cx) (e:Option Expr) (t:TO):Prop :=
 ∀(pins:List (Addr×Obj)) (s:Shared) (σ:St) (H:Hp) (Q:Option Int->Hp->Prop),Inv X pins σ H s->t σ H Q →
  wpAny (model X.prog X.w) X.A (evalPart e X.env) (fun u s'=>∃o H',Inv X pins σ H' s'∧IsPart u o∧Q o H') X.xe s
def Jm:TO:=fun _ H Q=>Q none H
def Zkm (t:TE):TO:=fun σ H Q=>t σ H fun x H1=>∃i,x=.int i∧Q (some i) H1
section
variable {te:TE} {lo hi:Option Expr} {tl th:TO} {p2:Pos}
theorem WE:PO X none Jm:=by
 intro pins s σ H Q I h;rw [evalPart_none];exact Qf ⟨none,H,I,.none,h⟩
theorem Wj (h:PE X e te):PO X (some e) (Zkm te):=by
 intro pins s σ H Q I hw;rw [evalPart_some];refine Zq (h pins s σ H _ I hw) fun u s1 ⟨x,H1,I1,r1,q1⟩=>?_;obtain ⟨i,rfl,q⟩:=q1;obtain ⟨t,rfl⟩:=r1;exact ⟨some i,H1,I1,.int i t,q⟩
def J9 (X:Cx) (r:V->Option Int->Option Int->Hp->VK->Prop):Prop :=
 ∀(pins:List (Addr×Obj)) (s:Shared) (σ:St) (H:Hp) (x:V) (v vl vu:Value) (lo hi:Option Int) (sl:Addr) (Q:VK),Inv X pins σ H s->RelV x v->s.heap.IsSliceOf sl vl vu .none->IsPart vl lo->IsPart vu hi->r x lo hi H Q →
  ∃T id,typeLookup (.type T) "__getitem__"=pure (some (.builtin id))∧s.TypeIs v T∧wpAny (model X.prog X.w) X.A (getItem v (.ref sl)) (EP X pins σ Q) X.xe s
def tSl (r:V->Option Int->Option Int->Hp->VK->Prop) (te:TE) (tl th:TO):TE:=fun σ H Q=>te σ H fun x H1=>tl σ H1 fun l H2=>th σ H2 fun u H3=>r x l u H3 Q
theorem Wr {r:V->Option Int->Option Int->Hp->VK->Prop} (hr:J9 X r) (he:PE X e te) (hl:PO X lo tl) (hu:PO X hi th):PE X (.Subscript e (.Slice lo hi none p2) pos) (tSl r te tl th):=by
 intro pins s σ H Q I h;refine Subscript_ (Zq (he pins s σ H _ I h) fun v s1 ⟨x,H1,I1,r1,q1⟩=>?_);refine wpAny_Slice (Zq (hl pins s1 σ H1 _ I1 q1) fun vl s2 ⟨l,H2,I2,pl,q2⟩=>Zq (hu pins s2 σ H2 _ I2 q2) fun vu s3 ⟨u,H3,I3,pu,q3⟩=>?_);rw [evalPart_none];refine Qf ?_;have I4:Inv X pins σ H3 { s3 with heap:=s3.heap.push { cls:=.type "slice",data:=.fields #[vl,vu,.none] } }:=I3.kept (t':=s3.toks) fun b ob q=>Qo _ q;obtain ⟨T,id,hT,ht,hg⟩:=hr pins { s3 with heap:=s3.heap.push { cls:=.type "slice",data:=.fields #[vl,vu,.none] } } σ H3 x v vl vu l u s3.heap.objs.size Q I4 r1 (Heap.IsSliceOf.new ..) pl pu q3;show wpAny (model X.prog X.w) X.A (subscriptTail e (.Slice lo hi none p2) v (.ref s3.heap.objs.size)) (EP X pins σ Q) X.xe { s3 with heap:=s3.heap.push { cls:=.type "slice",data:=.fields #[vl,vu,.none] } };exact tail_any (ops:=[.ref s3.heap.objs.size,v]) ht hT hg (by with_unfolding_all rfl)
noncomputable def YU (xs:List V) (lo hi:Option Int):List V:=(xs.drop (HT.sIx xs.length 0 lo)).take (HT.sIx xs.length xs.length hi-HT.sIx xs.length 0 lo)
theorem ZeX (xs:List V) (lo hi:Option Int):(YU xs lo hi).length≤xs.length:=by
 unfold YU;rw [QV,Gw];omega
def ZhZ (K:W.Frag):V->Option Int->Option Int->Hp->VK->Prop:=fun x lo hi H Q=>∃a xs,x=.ref a∧SqT K H a xs ∧
 ¬(HT.sIx xs.length 0 lo=0∧HT.sIx xs.length xs.length hi=xs.length)∧∀p,H p=none->Q (.ref p) (Zb H p (.tup (YU xs lo hi)))
theorem ZaI:J9 X (ZhZ X.K):=by
 intro pins s σ H x v vl vu lo hi sl Q I rx hs pl pu h;obtain ⟨a,xs,rfl,hx,hw,q⟩:=h;cases rx;obtain ⟨its,r,ht,hz⟩:=I.tuple hx;have hlen:its.toArray.size=xs.length:=by rw [Qz];exact r.length.symm
 refine ⟨"tuple",_,Ny.lookup,ht.typeIs,?_⟩;refine HT.getItem_tuple_cut ht hs pl pu (by rw [hlen];exact hw) ?_ (by rw [hlen];exact hz);rw [hlen];refine ⟨.ref s.heap.objs.size,_,I.laid (t':=s.toks) (o:=.tup (YU xs lo hi)) (fun b ob q=>Qo _ q) (Qe _) ?_,rfl,q _ (I.hok.fresh (Qe _))⟩;exact ⟨Qi (ZeX xs lo hi) hz,_,(r.drop (HT.sIx xs.length 0 lo)).take (HT.sIx xs.length xs.length hi-HT.sIx xs.length 0 lo),IsTup.new _ _⟩
def ZnT (K:W.Frag):R2:=fun x y H Q=>∃a b xs ys,x=.ref a∧y=.ref b∧SqT K H a xs∧SqT K H b ys∧xs≠[]∧xs.length+ys.length≤sizeLine ∧
 (ys=[]->Q (.ref a) H)∧(ys≠[]->∀p,H p=none->Q (.ref p) (Zb H p (.tup (xs++ys))))
theorem Vals.nil_iff {xs:List V} {us:List Value} (r:Vals xs us):us=[]↔xs=[]:=by
 cases r with
 |nil=>simp
 |cons _ _=>simp
theorem Zl3:Yl X (binaryOp .Add) (ZnT X.K):=by
 intro pins s σ H x y v u Q I rx ry h;obtain ⟨a,b,xs,ys,rfl,rfl,ha,hb,hx,hz,q1,q2⟩:=h;cases rx;cases ry;obtain ⟨its,r1,p1,_⟩:=I.tuple ha;obtain ⟨its2,r2,p2,_⟩:=I.tuple hb;refine HT.cat_tup p1 p2 (fun z=>hx (r1.nil_iff.mp z)) (fun z=>⟨.ref a,H,I,rfl,q1 (r2.nil_iff.mp z)⟩) (fun z=>?_) (by rw [←r1.length,←r2.length];exact hz);refine ⟨.ref s.heap.objs.size,_,I.laid (t':=s.toks) (o:=.tup (xs++ys)) (fun b ob q=>Qo _ q) (Qe _) ?_,rfl,q2 (fun w=>z (r2.nil_iff.mpr w)) _ (I.hok.fresh (Qe _))⟩;exact ⟨by rw [Qv];exact hz,_,r1.append r2,IsTup.new _ _⟩
end
noncomputable def Vz (n:Nat) (i:Int):Option Nat:=if 0≤i then (if i<n then some i.toNat else none) else if -(n:Int)≤i then some (i+n).toNat else none
noncomputable def Ym {α:Type} (xs:List α) (i:Int):Option α:=(Vz xs.length i).bind fun j=>xs[j]?
theorem Zkp {n:Nat} {i:Int} {j:Nat} (h:Vz n i=some j):seqIndex? i n=some j∧j<n∧-(n:Int)≤i∧i<n:=by
 unfold Vz at h;by_cases h0:0≤i
 ·rw [Qb h0] at h;by_cases h1:i<n
  ·rw [Qb h1] at h;have e:i.toNat=j:=Ql h;exact ⟨by rw [seqIndex_of h0 h1,e],by omega,by omega,h1⟩
  ·rw [Qa h1] at h;cases h
 ·rw [Qa h0] at h;by_cases h1:-(n:Int)≤i
  ·rw [Qb h1] at h;have e:(i+n).toNat=j:=Ql h;exact ⟨by rw [seqIndex_neg (by omega) h1,e],by omega,h1,by omega⟩
  ·rw [Qa h1] at h;cases h
theorem ZeE {α:Type} {xs:List α} {i:Int} {v:α} (h:Ym xs i=some v):∃j,seqIndex? i xs.length=some j∧xs[j]?=some v∧j<xs.length∧-(xs.length:Int)≤i∧i<xs.length:=by
 unfold Ym at h;cases e:Vz xs.length i with
 |none=>rw [e] at h;cases h
 |some j =>
  rw [e] at h;obtain ⟨h1,h2,h3,h4⟩:=Zkp e;exact ⟨j,h1,h,h2,h3,h4⟩
theorem Xq {α:Type} {xs:List α} {j:Nat} {v:α} (h:xs[j]?=some v):Ym xs (j:Int)=some v:=by
 have hj:j<xs.length:=(QC.mp h).1
 have e:Vz xs.length (j:Int)=some j:=by
  unfold Vz;rw [Qb (by omega),Qb (by omega)];simp
 unfold Ym;rw [e];exact h
theorem ZfB {α:Type} (xs:List α) (v:α):Ym (xs++[v]) (-1)=some v:=by
 have hl:(xs++[v]).length=xs.length+1:=by simp
 have e:Vz (xs++[v]).length (-1)=some xs.length:=by
  unfold Vz;rw [hl,Qa (by decide),Qb (by omega)]
  congr 1
  omega
 unfold Ym;rw [e];show (xs++[v])[xs.length]?=some v;simp
def Zql (b:Expr):Prop:=∀o i,subscripted b false o i=operate [o,i] (getItem o i)
def UT (X:Cx) (r:R2):Prop :=
 ∀(value slice:Expr) (pins:List (Addr×Obj)) (s:Shared) (σ:St) (H:Hp) (x y:V) (v u:Value) (Q:VK),Inv X pins σ H s->RelV x v->RelV y u->r x y H Q →
  subscripted slice false v u=operate [v,u] (getItem v u)->wpAny (model X.prog X.w) X.A (subscriptTail value slice v u) (EP X pins σ Q) X.xe s
def We (X:Cx) (id:String) (r:V->List V->Hp->VK->Prop):Prop :=
 ∀(pins:List (Addr×Obj)) (s:Shared) (σ:St) (H:Hp) (x:V) (xs:List V) (v:Value) (us:List Value) (Q:VK),Inv X pins σ H s->RelV x v->Vals xs us->r x xs H Q →
  wpAny (model X.prog X.w) X.A (call (.builtin id) (v::us)) (EP X pins σ Q) X.xe s
section
variable {a b:Expr} {ta tb:TE}
theorem Zm {r:R2} (hr:UT X r) (ha:PE X a ta) (hb:PE X b tb) (hs:Zql b):PE X (.Subscript a b pos) (tOp r ta tb):=by
 intro pins s σ H Q I h;exact Subscript_ (Zc9 ha hb I h fun v u s2 x y H2 I2 rx ry q=>hr a b pins s2 σ H2 x y v u Q I2 rx ry q (hs _ _))
def ZfE (K:W.Frag):R2:=fun x y H Q=>∃p xs i v,x=.ref p∧y=.int i∧SqL K H p xs∧Ym xs i=some v∧Q v H
def Zih (K:W.Frag):R2:=fun x y H Q=>∃p xs i v,x=.ref p∧y=.int i∧SqT K H p xs∧Ym xs i=some v∧Q v H
def ZnS:R2:=fun x y H Q=>∃z i c,x=.str z∧y=.int i∧z.length≤sizeLine∧Ym z.cps.toList i=some c∧Q (.str ⟨#[c]⟩) H
theorem YG:UT X (ZfE X.K):=by
 intro value slice pins s σ H x y v u Q I rx ry h hs;obtain ⟨p,xs,i,z,rfl,rfl,hq,he,q⟩:=h;cases rx;obtain ⟨t,rfl⟩:=ry;obtain ⟨its,r,pl,hz⟩:=I.list hq;obtain ⟨j,h1,h2,h3,h4,h5⟩:=ZeE he;obtain ⟨w,ew,rw'⟩:=r.get h2;have hl:=r.length;have hn:=Ja;have fin:EP X pins σ Q w s:=⟨z,H,I,rw',q⟩;by_cases h0:0≤i
 ·have hj:i.toNat=j:=by
   rw [seqIndex_of h0 h5] at h1;exact Ql h1
  exact item_listR pl.isList h0 (by omega) (by rw [hj];simpa using ew) fin hs
 ·have hj:(i+(its.toArray.size:Int)).toNat=j:=by
   rw [seqIndex_neg (by omega) h4] at h1;rw [Qz,←hl];exact Ql h1
  exact subscriptTail_builtinR (x:=w) pl.isList.typeIs slot_list_getitem.lookup
   (wpAny_getItem_list_neg (Q:=fun r s'=>r=w∧EP X pins σ Q r s') pl.isList (by omega) (by rw [Qz]<;>omega) (by omega) (by rw [hj];simpa using ew) ⟨rfl,fin⟩) hs
theorem Zp:UT X (Zih X.K):=by
 intro value slice pins s σ H x y v u Q I rx ry h hs;obtain ⟨p,xs,i,z,rfl,rfl,hq,he,q⟩:=h;cases rx;obtain ⟨t,rfl⟩:=ry;obtain ⟨its,r,pl,hz⟩:=I.tuple hq;obtain ⟨j,h1,h2,h3,h4,h5⟩:=ZeE he;obtain ⟨w,ew,rw'⟩:=r.get h2;have hl:=r.length;have hn:=Ja;have fin:EP X pins σ Q w s:=⟨z,H,I,rw',q⟩
 exact subscriptTail_builtinR (x:=w) pl.typeIs slot_tuple_getitem.lookup
  (getItem_tuple (j:=j) (Q:=fun r s'=>r=w∧EP X pins σ Q r s') pl (by omega) (by omega) (by rw [Qz,←hl];exact h1) (by simpa using ew) ⟨rfl,fin⟩) hs
theorem Zh1:UT X ZnS:=by
 intro value slice pins s σ H x y v u Q I rx ry h hs;obtain ⟨z,i,c,rfl,rfl,hz,he,q⟩:=h;obtain ⟨t,rfl⟩:=rx;obtain ⟨t',rfl⟩:=ry;obtain ⟨j,h1,h2,h3,h4,h5⟩:=ZeE he;have hl:z.cps.toList.length=z.length:=by simp [Str.length]
 rw [hl] at h1 h4 h5;have hn:=Ja
 exact tail_any (R8 s z t) slot_str_getitem.lookup (getItem_str (c:=c) (by
  have e1:decide (i< -(2 ^ 63:Int))=false:=Qk (by omega);have e2:decide (i ≥ 2 ^ 63)=false:=Qk (by omega);rw [e1,e2,Bool.or_false]) (by rw [h1];simpa using h2) ⟨.str ⟨#[c]⟩,H,I.tok _,⟨_,rfl⟩,q⟩) hs
theorem ZiK (lo hi:Option Int) (n:Nat):(sliceBounds lo hi none n).1=((HT.sIx n 0 lo:Nat):Int)∧(sliceBounds lo hi none n).2.1=((HT.sIx n n hi:Nat):Int)∧(sliceBounds lo hi none n).2.2=1:=by
 refine ⟨?_,?_,rfl⟩
 ·cases lo with
  |none=>simp [sliceBounds,HT.sIx]
  |some i =>
   simp only [sliceBounds,HT.sIx,Option.getD_none,show (1:Int) > 0 by decide,Q7];by_cases h:i<0
   ·simp only [h,Q7]<;>omega
   ·simp only [h,Q6]<;>omega
 ·cases hi with
  |none=>simp [sliceBounds,HT.sIx]
  |some i =>
   simp only [sliceBounds,HT.sIx,Option.getD_none,show (1:Int) > 0 by decide,Q7];by_cases h:i<0
   ·simp only [h,Q7]<;>omega
   ·simp only [h,Q6]<;>omega
theorem ZmN (its:List Value) (lo hi:Option Int):slicePick its.toArray lo hi none=((its.drop (HT.sIx its.length 0 lo)).take (HT.sIx its.length its.length hi-HT.sIx its.length 0 lo)).toArray:=by
 obtain ⟨h1,h2,h3⟩:=ZiK lo hi its.toArray.size;unfold slicePick;rw [h1,h2,h3];simp only [sliceRange_one,pick_run,Qz]<;>rfl
def Zgt (K:W.Frag):V->Option Int->Option Int->Hp->VK->Prop:=fun x lo hi H Q=>∃a xs,x=.ref a∧SqL K H a xs∧∀p,H p=none->Q (.ref p) (Zb H p (.lst (YU xs lo hi)))
theorem ZaH:J9 X (Zgt X.K):=by
 intro pins s σ H x v vl vu lo hi sl Q I rx hs pl pu h;obtain ⟨a,xs,rfl,hx,q⟩:=h;cases rx;obtain ⟨its,r,ht,hz⟩:=I.list hx;have hlen:=r.length;refine ⟨"list",_,slot_list_getitem.lookup,ht.isList.typeIs,?_⟩;refine wpAny_getItem_list_slice ht.isList hs pl pu .none (by simp) ?_ (by rw [Qz]<;>omega);rw [ZmN,←hlen];refine ⟨.ref s.heap.objs.size,_,I.laid (t':=s.toks) (o:=.lst (YU xs lo hi)) (fun b ob q=>Qo _ q) (Qe _) ?_,rfl,q _ (I.hok.fresh (Qe _))⟩;exact ⟨Qi (ZeX xs lo hi) hz,_,0,(r.drop (HT.sIx xs.length 0 lo)).take (HT.sIx xs.length xs.length hi-HT.sIx xs.length 0 lo),Qu _ rfl⟩
noncomputable def W9:V->Bool
 |.non=>true
 |.bl _=>true
 |.int _=>true
 |.str _=>true
 |_=>false
noncomputable def Yu:V->V->Bool
 |.non,.non=>true
 |.bl a,.bl b=>a==b
 |.bl a,.int b=>(if a then 1 else 0)==b
 |.int a,.bl b=>a==(if b then 1 else 0)
 |.int a,.int b=>a==b
 |.str a,.str b=>a==b
 |_,_=>false
theorem Zii {x:V} {v:Value} (ry:RelV y u) (rx:RelV x v) (fy:W9 y=true) (fx:W9 x=true):SeqAt.EqAt A s u v (Yu y x):=by
 cases y with
 |non =>
  cases ry;cases x with
  |non=>cases rx;exact SeqAt.EqAt.same _
  |bl b=>cases rx;exact SeqAt.EqAt.none_bool b
  |int b=>obtain ⟨t,rfl⟩:=rx;exact SeqAt.EqAt.none_int b t
  |str b=>obtain ⟨t,rfl⟩:=rx;exact SeqAt.EqAt.none_str b t
  |_=>exact absurd (show false=true from fx) QF
 |bl a =>
  cases ry;cases x with
  |non=>cases rx;exact SeqAt.EqAt.bool_none a
  |bl b=>cases rx;exact SeqAt.EqAt.bool_bool a b
  |int b=>obtain ⟨t,rfl⟩:=rx;exact SeqAt.EqAt.bool_int a b t
  |str b=>obtain ⟨t,rfl⟩:=rx;exact SeqAt.EqAt.bool_str a b t
  |_=>exact absurd (show false=true from fx) QF
 |int a =>
  obtain ⟨t',rfl⟩:=ry;cases x with
  |non=>cases rx;exact SeqAt.EqAt.int_none a t'
  |bl b=>cases rx;exact SeqAt.EqAt.int_bool a t' b
  |int b=>obtain ⟨t,rfl⟩:=rx;exact SeqAt.EqAt.int_int a t' b t
  |str b=>obtain ⟨t,rfl⟩:=rx;exact SeqAt.EqAt.int_str a t' b t
  |_=>exact absurd (show false=true from fx) QF
 |str a =>
  obtain ⟨t',rfl⟩:=ry;cases x with
  |non=>cases rx;exact SeqAt.EqAt.str_none a t'
  |bl b=>cases rx;exact SeqAt.EqAt.str_bool a t' b
  |int b=>obtain ⟨t,rfl⟩:=rx;exact SeqAt.EqAt.str_int a t' b t
  |str b=>obtain ⟨t,rfl⟩:=rx;exact SeqAt.EqAt.str_str a t' b t
  |_=>exact absurd (show false=true from fx) QF
 |_=>exact absurd (show false=true from fy) QF
noncomputable def W5 (x:V) (u:Value):Bool:=match u with
 |.none=>Yu .non x
 |.bool b=>Yu (.bl b) x
 |.int i _=>Yu (.int i) x
 |.str z _=>Yu (.str z) x
 |_=>false
theorem Zfx {x:V} (r:RelV y u) (f:W9 y=true):W5 x u=Yu y x:=by
 cases y with
 |non=>cases r;rfl
 |bl b=>cases r;rfl
 |int i=>obtain ⟨t,rfl⟩:=r;rfl
 |str z=>obtain ⟨t,rfl⟩:=r;rfl
 |_=>exact absurd (show false=true from f) QF
theorem Zcc {x:V}:∀{xs:List V} {us:List Value},Vals xs us->xs.all W9=true->us.any (W5 x)=xs.any fun y=>Yu y x
 |_,_,.nil,_=>rfl
 |y::xs,u::us,.cons r t,f=>by
  rw [GW,Ri] at f;rw [Rj,Rj,Zfx r f.1,Zcc t f.2]
theorem ZbY {A:Around} {s:Shared} {x:V} {v:Value} (rx:RelV x v) (fx:W9 x=true):∀{xs:List V} {us:List Value},Vals xs us->xs.all W9=true->∀u∈us,SeqAt.EqAt A s u v (W5 x u)
 |_,_,.nil,_=>fun u hu=>by cases hu
 |y::xs,u::us,.cons r t,f=>fun u' hu=>by
  rw [GW,Ri] at f;rcases Qh.mp hu with rfl|hu
  ·rw [Zfx r f.1];exact Zii r rx f.1 fx
  ·exact ZbY rx fx t f.2 u' hu
noncomputable def Wi (x:V) (xs:List V):Bool:=xs.any fun y=>Yu y x
def rIn (K:W.Frag) (neg:Bool):R2:=fun x y H Q=>∃p xs,y=.ref p∧(SqL K H p xs∨SqT K H p xs)∧W9 x=true∧xs.all W9=true∧Q (.bl (if neg then !Wi x xs else Wi x xs)) H
theorem UV:Yl X (compareOp .In) (rIn X.K false):=by
 intro pins s σ H x y v u Q I rx ry h;obtain ⟨p,xs,rfl,hq,fx,fs,q⟩:=h;cases ry;rcases hq with hq|hq
 ·obtain ⟨its,r,pl,hz⟩:=I.list hq;refine SeqAt.in_listAt (W5 x) pl.isList (fun w hw=>ZbY rx fx r fs w (by simpa using hw)) ⟨.bl _,H,I,rfl,?_⟩;rw [show its.toArray.any (W5 x)=its.any (W5 x) by simp,Zcc r fs];exact q
 ·obtain ⟨its,r,pl,hz⟩:=I.tuple hq;refine SeqAt.in_tupleAt (W5 x) pl (fun w hw=>ZbY rx fx r fs w (by simpa using hw)) ⟨.bl _,H,I,rfl,?_⟩;rw [show its.toArray.any (W5 x)=its.any (W5 x) by simp,Zcc r fs];exact q
theorem YO:YN X (.builtin "len") (fun xs H Q=>∃p ys,xs=[.ref p]∧(SqL X.K H p ys∨SqT X.K H p ys)∧Q (.int ys.length) H):=by
 intro pins s σ H xs us Q I r h;obtain ⟨p,ys,rfl,hq,q⟩:=h;obtain ⟨u,rfl,rx⟩:=Y5 r;cases rx;have hn:=Ja;rcases hq with hq|hq
 ·obtain ⟨its,r',pl,hz⟩:=I.list hq;have hlen:=r'.length;exact Calls.call_len_list pl.isList (by simp only [Qz]<;>omega) ⟨.int ys.length,H,I.tok _,⟨s.toks+1,by rw [Qz,hlen]⟩,q⟩
 ·obtain ⟨its,r',pl,hz⟩:=I.tuple hq;have hlen:=r'.length;exact len_tuple pl (by simp only [Qz]<;>omega) ⟨.int ys.length,H,I.tok _,⟨s.toks+1,by rw [Qz,hlen]⟩,q⟩
theorem ZdV:YN X (.builtin "len") (fun xs H Q=>∃z,xs=[.str z]∧z.length≤sizeLine∧Q (.int z.length) H):=by
 intro pins s σ H xs us Q I r h;obtain ⟨z,rfl,hz,q⟩:=h;obtain ⟨u,rfl,t,rfl⟩:=Y5 r;have hn:=Ja;exact len_str (by omega) ⟨.int z.length,H,I.tok _,⟨_,rfl⟩,q⟩
theorem ZiT:YN X (.type "list") (fun xs H Q=>∃p ys,xs=[.ref p]∧(SqL X.K H p ys∨SqT X.K H p ys)∧∀l,H l=none->Q (.ref l) (Zb H l (.lst ys))):=by
 intro pins s σ H xs us Q I r h;obtain ⟨p,ys,rfl,hq,q⟩:=h;obtain ⟨u,rfl,rx⟩:=Y5 r;cases rx
 have fin : ∀(its : List Value), Vals ys its → ys.length ≤ sizeLine → ∀(h' : Heap) (c' : Nat), (∀b o', s.heap.get? b=some o' → h'.get? b=some o') →
   h'.get? s.heap.objs.size=some { cls:=.type "list",dict:=none,data:=.seq its.toArray c',slots:=#[] }->EP X pins σ Q (.ref s.heap.objs.size) { s with heap:=h' }:=fun its r' hz h' c' kp e =>
  ⟨.ref s.heap.objs.size,_,I.laid (t':=s.toks) kp (Qe _) (show ObjOk X.prog X.w _ h' _ (.lst ys) from ⟨hz,its,c',r',e⟩),rfl,q _ (I.hok.fresh (Qe _))⟩
 rcases hq with hq|hq
 ·obtain ⟨its,r',pl,hz⟩:=I.list hq;have hlen:=r'.length;obtain ⟨o,ho,hc,n,hd⟩:=pl.isList;exact call_list_seq p (.inl rfl) ho hc hd (fun h' c' kp e=>fin its r' hz h' c' kp e) (by simp only [Qz]<;>omega)
 ·obtain ⟨its,r',pl,hz⟩:=I.tuple hq;have hlen:=r'.length;obtain ⟨o,ho,hc,n,hd⟩:=pl;exact call_list_seq p (.inr rfl) ho hc hd (fun h' c' kp e=>fin its r' hz h' c' kp e) (by simp only [Qz]<;>omega)
theorem Zog:YN X (.type "tuple") (fun xs H Q=>∃p ys,xs=[.ref p]∧((SqL X.K H p ys∧∀l,H l=none->Q (.ref l) (Zb H l (.tup ys)))∨(SqT X.K H p ys∧Q (.ref p) H))):=by
 intro pins s σ H xs us Q I r h;obtain ⟨p,ys,rfl,h⟩:=h;obtain ⟨u,rfl,rx⟩:=Y5 r;cases rx;rcases h with ⟨hq,q⟩|⟨hq,q⟩
 ·obtain ⟨its,r',pl,hz⟩:=I.list hq;have hlen:=r'.length;refine call_tuple_list pl.isList (fun h' kp=>?_) (by simp only [Qz]<;>omega);have I1:Inv X pins σ H { s with heap:=h' }:=I.kept (t':=s.toks) kp
  have I2:Inv X pins σ (Zb H h'.objs.size (.tup ys)) { s with heap:=h'.push { cls:=.type "tuple",data:=.seq its.toArray } } :=
   I1.laid (t':=s.toks) (fun b o e=>Qo _ e) (Qe _) (show ObjOk X.prog X.w _ _ _ (.tup ys) from ⟨hz,its,r',IsTup.new _ _⟩)
  exact ⟨.ref h'.objs.size,_,I2,rfl,q _ (I1.hok.fresh (Qe _))⟩
 ·obtain ⟨its,r',pl,hz⟩:=I.tuple hq;exact call_tuple_same pl ⟨.ref p,H,I,rfl,q⟩
def tyV (K:W.Frag) (T:String) (x:V) (H:Hp):Prop:=match x with
 |.str _=>T="str"
 |.int _=>T="int"
 |.ref p => (T="list" ∧ ∃xs, SqL K H p xs) ∨ (T="tuple" ∧ ∃o, K.lookup p=some o ∧ o.cls=.type "tuple" ∧ o.dict=none) ∨
   (T="dict"∧((∃kvs,H p=some (.dK kvs))∨∃kvs,H p=some (.dT kvs)))∨(T="set"∧∃S n,H p=some (.set S n))
 |_=>False
theorem Zix {x:V} {v:Value} (I:Inv X pins σ H s) (r:RelV x v) (ty:tyV X.K T x H) :
  s.TypeIs v T∧∀a,v=.ref a->∃ob,s.heap.get? a=some ob∧ob.dict=none:=by
 cases x with
 |str z =>
  obtain ⟨t,rfl⟩:=r;cases (show T="str" from ty);exact ⟨R8 s z t,fun _ e=>nomatch e⟩
 |int i =>
  obtain ⟨t,rfl⟩:=r;cases (show T="int" from ty);exact ⟨typeIs_int s i t,fun _ e=>nomatch e⟩
 |ref p =>
  cases r;rcases ty with ⟨rfl,xs,hq⟩|⟨rfl,o,hk,hc,hd⟩|⟨rfl,hk⟩|⟨rfl,S,n,hk⟩
  ·obtain ⟨its,_,pl,_⟩:=I.list hq;refine ⟨pl.isList.typeIs,fun a e=>?_⟩;cases e;obtain ⟨o,n,e,c,hd,_⟩:=pl;exact ⟨o,e,hd⟩
  ·refine ⟨⟨o,I.kIn p o hk,hc⟩,fun a e=>?_⟩;cases e;exact ⟨o,I.kIn _ o hk,hd⟩
  ·have z:∃o,s.heap.get? p=some o∧o.ExactDict:=by
    rcases hk with ⟨kvs,hk⟩|⟨kvs,hk⟩
    ·obtain ⟨_,_,_,_,o,_,_,e,ex,_⟩:=I.hok p _ hk;exact ⟨o,e,ex⟩
    ·obtain ⟨_,_,_,_,o,_,_,e,ex,_⟩:=I.hok p _ hk;exact ⟨o,e,ex⟩
   obtain ⟨o,e,ex⟩:=z;refine ⟨⟨o,e,ex.1⟩,fun a e2=>?_⟩;cases e2;exact ⟨o,e,ex.2.1⟩
  ·obtain ⟨o,_,_,_,e,ex,_⟩:=I.hok p _ hk;refine ⟨⟨o,e,ex.1⟩,fun a e2=>?_⟩;cases e2;exact ⟨o,e,ex.2.1⟩
 |_=>exact False.elim ty
def ZgN (K:W.Frag) (T:String) (r:V->List V->Hp->VK->Prop) (to:TE):TE:=fun σ H Q=>to σ H fun x H1=>tyV K T x H1∧r x [] H1 Q
def tBM (K:W.Frag) (T:String) (r:V->List V->Hp->VK->Prop) (to:TE) (t:TA):TE:=fun σ H Q=>to σ H fun x H1=>tyV K T x H1∧t σ H1 fun xs H2=>r x xs H2 Q
variable {o:Expr} {es:List Expr} {to:TE} {t:TA} {name:Str} {apos cpos:Pos} {id:String} {r:V->List V->Hp->VK->Prop}
theorem Zge (pa:PlainAttrs T) (slot:Slot T name id) (hty:typeOf (.builtin id)=pure (.type "method_descriptor")) (hm:We X id r) (ho:PE X o to)
 (hbase:attributeBase o name X.env (eval o X.env)=eval o X.env:=by rfl) (hline:(apos.endLine==cpos.line)=true:=by rfl):PE X (.Call (.Attribute o name apos) [] [] cpos) (ZgN X.K T r to):=by
 intro pins s σ H Q I h;refine wpAny_Call_method0_late hbase hline (Zq (ho pins s σ H _ I h) fun v s1 ⟨x,H1,I1,r1,ty,q1⟩=>?_);obtain ⟨h1,h2⟩:=Zix I1 r1 ty;exact ⟨T,id,pa,slot,hty,h1,h2,Gx rfl (PySem.evalArgs_none (hm pins s1 σ H1 x [] v [] Q I1 r1 .nil q1))⟩
theorem XQ (pa:PlainAttrs T) (slot:Slot T name id) (hty:typeOf (.builtin id)=pure (.type "method_descriptor")) (hm:We X id r) (ho:PE X o to) (ha:PA X (e::es) t)
 (hbase:attributeBase o name X.env (eval o X.env)=eval o X.env:=by rfl)
 (hfew:((backTo cpos (starEach (e::es) X.env)).all (fun x=>!x.1)&&(backToKw cpos (keywordEach [] X.env)).all (fun x=>x.1.isSome)
 && decide ((e::es).length+([]:List Keyword).length+(if ([]:List Keyword).isEmpty then 0 else 1)<30))=true:=by rfl)
 (hline:(apos.endLine==cpos.line)=true:=by rfl) (hs:starEach (e::es) X.env=(false,eval e X.env)::starEach es X.env:=by rfl) (hplain:(backTo cpos (starEach es X.env)).any (·.1)=false:=by rfl) :
  PE X (.Call (.Attribute o name apos) (e::es) [] cpos) (tBM X.K T r to t):=by
 intro pins s σ H Q I h;refine wpAny_Call_method_late hbase hfew hline rfl (Zq (ho pins s σ H _ I h) fun v s1 ⟨x,H1,I1,r1,ty,q1⟩=>?_);obtain ⟨h1,h2⟩:=Zix I1 r1 ty;refine ⟨T,id,pa,slot,hty,h1,h2,?_⟩;have hA:=ha cpos pins s1 σ H1 _ I1 q1;rw [hs] at hA ⊢;refine Gx (by show (false||(backTo cpos (starEach es X.env)).any (·.1))=false;rw [hplain]<;>rfl) (Gy ?_);exact Zq hA fun us s2 ⟨vs,H2,I2,r2,q2⟩=>hm pins s2 σ H2 x vs v us Q I2 r1 r2 q2
/- xs.append(e),list.index on a module's tuple .. are We facts of 06m -/
end
def MtM (X:Cx) (id:String) (r:V->List V->Hp->VK->Prop):Prop :=
 ∀(pins:List (Addr×Obj)) (s:Shared) (σ:St) (H:Hp) (x:V) (xs:List V) (v:Value) (us:List Value) (Q:VK),Inv X pins σ H s->RelV x v->Vals xs us->r x xs H Q →
  wpAny (model X.prog X.w) X.A (call (.builtin id) (v::us)) (EP X pins σ Q) X.xe s
theorem Vals.one:∀{x:V} {us:List Value},Vals [x] us->∃u,us=[u]∧RelV x u
 |_,_,.cons r .nil=>⟨_,rfl,r⟩
theorem Vals.zero:∀{us:List Value},Vals [] us->us=[]
 |_,.nil=>rfl
theorem Vals.dropLast {xs:List V} {us:List Value} (h:Vals xs us):Vals xs.dropLast us.dropLast:=by
 induction h with
 |nil=>exact .nil
 |cons r t ih =>
  cases t with
  |nil=>exact .nil
  |cons q t'=>exact .cons r ih
theorem ZmC {α:Type} (l:List α):l.eraseIdx (l.length-1)=l.dropLast:=by
 induction l with
 |nil=>rfl
 |cons a r ih =>
  cases r with
  |nil=>rfl
  |cons b r =>
   have e:(a::b::r).length-1=((b::r).length-1)+1:=by
    have h1:(a::b::r).length=r.length+2:=rfl;have h2:(b::r).length=r.length+1:=rfl;omega
   rw [e,List.eraseIdx_cons_succ,ih]
   all_goals rfl
section
variable {l:Addr} {xs ys zs:List V}
theorem Inv.lset {its its':List Value} {n:Nat} {f:Array Value->Array Value} (I:Inv X pins σ H s) (hH:H l=some (.lst xs))
 (e:s.heap.get? l=some { cls:=.type "list",data:=.seq its.toArray n }) (hf:f its.toArray=its'.toArray) (hv:Vals ys its') (hz:ys.length≤sizeLine) :
  Inv X pins σ (Zb H l (.lst ys)) { s with heap:=s.heap.update l (Obj.mapSeq f),toks:=t' }:=by
 have q:=PySem.IsL.update e f;rw [hf] at q;refine I.write (x:=l) (e:=l) (by rw [hH];exact trivial) (.inl rfl) (fun b' u hb hu=>(Heap.get?_update_other s.heap (Obj.mapSeq f) (Q2 hb)).trans hu) ⟨_,q⟩ ?_;exact ⟨hz,its',_,hv,q⟩
theorem Inv.lnew {its:List Value} (I:Inv X pins σ H s) (hv:Vals ys its) (hz:ys.length≤sizeLine) :
  Inv X pins σ (Zb H s.heap.objs.size (.lst ys)) { s with heap:=s.heap.push { cls:=.type "list",data:=.seq its.toArray },toks:=t' } :=
 I.laid (fun _ _ q=>Qo _ q) (Qe _) ⟨hz,its,0,hv,Qu _ rfl⟩
theorem Inv.fresh (I:Inv X pins σ H s):H s.heap.objs.size=none:=I.hok.fresh (Qe _)
theorem Inv.lstM (I:Inv X pins σ H s) (hH:H l=some (.lst xs)):xs.length≤sizeLine∧∃(its:List Value) (n:Nat),Vals xs its∧xs.length=its.length∧s.heap.get? l=some { cls:=.type "list",data:=.seq its.toArray n }:=by
 obtain ⟨z,its,n,r,e⟩:=I.hok l _ hH;exact ⟨z,its,n,r,r.length,e⟩
end
def ZlF:V->List V->Hp->VK->Prop:=fun x vs H Q=>∃l xs y,x=.ref l∧vs=[y]∧H l=some (.lst xs)∧xs.length<sizeLine∧Q .non (Zb H l (.lst (xs++[y])))
theorem VB:MtM X "list.append" ZlF:=by
 intro pins s σ H x vs v us Q I rx rv h;obtain ⟨l,xs,y,rfl,rfl,hH,hz,q⟩:=h;cases rx;obtain ⟨u,rfl,ru⟩:=rv.one;obtain ⟨z,its,n,r,hl,e⟩:=I.lstM hH;refine Rt F.slot_list_append ⟨_,e,rfl⟩ F.entry_list_append (F.args_list_append_2 _ _) (PySem.list_append l its.toArray n u (by rw [Qz];omega)) ⟨e,?_⟩;refine ⟨.non,_,I.lset (its':=its++[u]) hH e (by simp) (r.append (.cons ru .nil)) ?_,rfl,q⟩;rw [Qv,List.length_singleton];omega
def Zi1:V->List V->Hp->VK->Prop:=fun x vs H Q=>∃l xs y,x=.ref l∧vs=[]∧H l=some (.lst xs)∧xs[xs.length-1]?=some y∧Q y (Zb H l (.lst xs.dropLast))
theorem Zod:MtM X "list.pop" Zi1:=by
 intro pins s σ H x vs v us Q I rx rv h;obtain ⟨l,xs,y,rfl,rfl,hH,hy,q⟩:=h;cases rx;have hus:=rv.zero;subst hus;obtain ⟨z,its,n,r,hl,e⟩:=I.lstM hH;obtain ⟨u,hu,ru⟩:=r.get hy
 have hy':its.toArray[its.toArray.size-1]?=some u:=by
  show its.toArray[its.length-1]?=some u;rw [←GX,←hl];exact hu
 refine Rt F.slot_list_pop ⟨_,e,rfl⟩ F.entry_list_pop (F.args_list_pop_1 _) (MeetsSeq.list_pop_last l its.toArray n u hy' (by rw [Qz];omega)) ⟨e,?_⟩;refine ⟨y,_,I.lset (its':=its.dropLast) hH e ?_ r.dropLast ?_,ru,q⟩
 ·show its.toArray.eraseIdxIfInBounds (its.toArray.size-1)=its.dropLast.toArray;rw [Qz,List.eraseIdxIfInBounds_toArray,ZmC]
 ·rw [List.length_dropLast];omega
def Zj5:R2:=fun x y H Q=>∃l b xs zs,x=.ref l∧y=.ref b∧H l=some (.lst xs)∧H b=some (.lst zs)∧xs.length+zs.length≤sizeLine∧∀p,H p=none->Q (.ref p) (Zb H p (.lst (xs++zs)))
theorem Zbp:Yl X (binaryOp .Add) Zj5:=by
 intro pins s σ H x y v u Q I rx ry h;obtain ⟨l,b,xs,zs,rfl,rfl,hH,hB,hz,q⟩:=h;cases rx;cases ry;obtain ⟨z,its,n,r,hl,e⟩:=I.lstM hH;obtain ⟨z2,its2,n2,r2,hl2,e2⟩:=I.lstM hB;refine PySem.P.add_list e e2 ?_ (by rw [Qz,Qz];omega);have ea:its.toArray++its2.toArray=(its++its2).toArray:=by simp
 rw [ea];exact ⟨.ref _,_,I.lnew (t':=s.toks) (r.append r2) (by rw [Qv];omega),rfl,q _ I.fresh⟩
section
variable {prog:Program}
set_option maxRecDepth 100000 in
end
section
variable {κ:Type} [DecidableEq κ]
noncomputable def ZD (kvs:List (κ×V)) (k:κ):Option V:=(kvs.find? fun kv=>decide (kv.1=k)).map (·.2)
noncomputable def Yh (kvs:List (κ×V)) (k:κ) (v:V):List (κ×V) :=
 if (kvs.any fun kv=>decide (kv.1=k))=true then kvs.map (fun kv=>if kv.1=k then (kv.1,v) else kv) else kvs++[(k,v)]
theorem Xf {p:κ×V} {r:List (κ×V)} {k:κ} (e:p.1=k):ZD (p::r) k=some p.2:=by simp [ZD,Ru,e]
theorem Xd {p:κ×V} {r:List (κ×V)} {k:κ} (e:¬p.1=k):ZD (p::r) k=ZD r k:=by simp [ZD,Ru,e]
theorem ZcG (k:κ):∀kvs:List (κ×V),(kvs.any fun kv=>decide (kv.1=k))=(ZD kvs k).isSome
 |[]=>rfl
 |p::r=>by
  rw [Rj];by_cases e:p.1=k
  ·simp only [Xf e,Qr e,Bool.true_or,Option.isSome_some]
  ·rw [Xd e,Qk e,Bool.false_or];exact ZcG k r
theorem ZeL (k j:κ) (y:V):∀kvs:List (κ×V),ZD kvs k=none->ZD (kvs++[(k,y)]) j=if j=k then some y else ZD kvs j
 |[],_=>by
  by_cases e:k=j
  ·rw [Qb e.symm];exact Xf (p:=(k,y)) e
  ·rw [Qa (fun z=>e z.symm)];exact Xd (p:=(k,y)) e
 |p::r,hn=>by
  rw [Gz];have hk:¬p.1=k:=fun z=>by rw [Xf z] at hn;cases hn
  rw [Xd hk] at hn;have ih:=ZeL k j y r hn;by_cases e:p.1=j
  ·rw [Xf e,Xf e,Qa (fun z=>hk (e.trans z))]
  ·rw [Xd e,Xd e,ih]
theorem Zf8 (kvs:List (κ×V)) (k:κ) (v:V):(Yh kvs k v).length≤kvs.length+1:=by
 unfold Yh;split
 ·rw [Qd];omega
 ·rw [Qv,QG,Nz];omega
theorem VE {kvs:List (κ×V)} {k:κ} (v:V) (h:ZD kvs k=none):Yh kvs k v=kvs++[(k,v)]:=by
 unfold Yh;rw [ZcG,h];exact Qa (by decide)
theorem RelO.isSome_eq {u:Option Value} (r:RelO o u):o.isSome=u.isSome:=by
 cases o with
 |none=>cases u with
  |none=>rfl
  |some _=>exact (show False from r).elim
 |some _=>cases u with
  |none=>exact (show False from r).elim
  |some _=>rfl
theorem RelO.getD {u:Option Value} {d:V} {d':Value} (r:RelO o u) (rd:RelV d d'):RelV (o.getD d) (u.getD d'):=by
 cases o with
 |none=>cases u with
  |none=>exact rd
  |some _=>exact (show False from r).elim
 |some _=>cases u with
  |none=>exact (show False from r).elim
  |some _=>exact r
theorem KV.val {kvs:List (κ×V)} {vs:List (κ×Value)} (r:KV kvs vs) (k:κ):RelO (ZD kvs k) (valueAt vs k):=by
 unfold KV at r
 induction r with
 |nil=>exact True.intro
 |@cons p q ps qs h t ih =>
  obtain ⟨h1,h2⟩:=h;by_cases e:p.1=k
  ·have e':q.1=k:=h1.symm.trans e;have b:valueAt (q::qs) k=some q.2:=by simp [valueAt,Ru,e']
   rw [Xf e,b];exact h2
  ·have e':¬q.1=k:=fun z=>e (h1.trans z);have b:valueAt (q::qs) k=valueAt qs k:=by simp [valueAt,Ru,e']
   rw [Xd e,b];exact ih
theorem KV.any {kvs:List (κ×V)} {vs:List (κ×Value)} (r:KV kvs vs) (k:κ):(kvs.any fun kv=>decide (kv.1=k))=vs.any fun kv=>decide (kv.1=k):=by
 unfold KV at r
 induction r with
 |nil=>rfl
 |cons h t ih=>rw [Rj,Rj,ih,h.1]
theorem KV.repl {kvs:List (κ×V)} {vs:List (κ×Value)} (r:KV kvs vs) (k:κ) (ry:RelV y u) :
  KV (kvs.map fun kv=>if kv.1=k then (kv.1,y) else kv) (vs.map fun kv=>if kv.1=k then (kv.1,u) else kv):=by
 unfold KV at r ⊢
 induction r with
 |nil=>exact .nil
 |@cons p q ps qs h t ih =>
  rw [Qs,Qs];refine .cons ?_ ih;obtain ⟨h1,h2⟩:=h;by_cases e:p.1=k
  ·rw [Qb e,Qb (h1.symm.trans e)];exact ⟨h1,ry⟩
  ·rw [Qa e,Qa (fun z=>e (h1.trans z))];exact ⟨h1,h2⟩
theorem KV.put {kvs:List (κ×V)} {vs:List (κ×Value)} (r:KV kvs vs) (k:κ) (ry:RelV y u):KV (Yh kvs k y) (stored vs k u):=by
 unfold Yh stored;rw [r.any k];by_cases e:(vs.any fun kv=>decide (kv.1=k))=true
 ·rw [Qb e,Qb e];exact r.repl k ry
 ·rw [Qa e,Qa e];exact Paired.snoc r ⟨rfl,ry⟩
theorem KV.length {kvs:List (κ×V)} {vs:List (κ×Value)} (r:KV kvs vs):kvs.length=vs.length:=GO r
end
theorem V3 {k:Zi} (r:RelV (kV k) u):(Yw P w).is k u=true:=by
 cases k with
 |inl i=>obtain ⟨t,e⟩:=(show ∃t,u=Value.int i t from r);subst e;exact Zm8 P w i t
 |inr x=>obtain ⟨t,e⟩:=(show ∃t,u=Value.str x t from r);subst e;exact Zo9 P w x t
theorem Zfk {P:Program} {w:World}:∀{ks:List Zi} {us:List Value},Vals (ks.map kV) us->ItemsAre (Yw P w) ks us
 |[],_,r=>by rw [R9] at r;cases r;exact .nil
 |k::ks,_,r=>by
  rw [Qs] at r;cases r with
  |cons h t=>exact .cons (V3 h) (Zfk t)
abbrev KT (H:Hp):List (List Zi×V)->List (List Zi×Addr×Value)->Prop:=Paired fun p q=>p.1=q.1∧H q.2.1=some (.tup (p.1.map kV))∧RelV p.2 q.2.2
theorem KT.val (r:KT H kvs xs) (k:List Zi):RelO (ZD kvs k) ((atKey xs k).map (·.2)):=by
 induction r with
 |nil=>exact True.intro
 |@cons p q ps qs h t ih =>
  obtain ⟨h1,_,h2⟩:=h;by_cases e:p.1=k
  ·have e':q.1=k:=h1.symm.trans e;have b:atKey (q::qs) k=some q.2:=by simp [atKey,Ru,e']
   rw [Xf e,b];exact h2
  ·have e':¬q.1=k:=fun z=>e (h1.trans z);have b:atKey (q::qs) k=atKey qs k:=by simp [atKey,Ru,e']
   rw [Xd e,b];exact ih
theorem KT.repl (r:KT H kvs xs) (k:List Zi) (ry:RelV y u) :
  KT H (kvs.map fun kv=>if kv.1=k then (kv.1,y) else kv) (xs.map (putAt k u)):=by
 induction r with
 |nil=>exact .nil
 |@cons p q ps qs h t ih =>
  rw [Qs,Qs];refine .cons ?_ ih;obtain ⟨h1,h2,h3⟩:=h;unfold putAt;by_cases e:p.1=k
  ·rw [Qb e,Qb (h1.symm.trans e)];exact ⟨h1,h2,ry⟩
  ·rw [Qa e,Qa (fun z=>e (h1.trans z))];exact ⟨h1,h2,h3⟩
theorem KT.put (r:KT H kvs xs) (k:List Zi) (hb:H b=some (.tup (k.map kV))) (ry:RelV y u) :
  KT H (Yh kvs k y) (storedH xs k b u):=by
 have e:(kvs.any fun kv=>decide (kv.1=k))=(atKey xs k).isSome:=by
  rw [ZcG,(r.val k).isSome_eq,NA]
 unfold Yh storedH;rw [e];by_cases q:(atKey xs k).isSome=true
 ·rw [Qb q,Qb q];exact r.repl k ry
 ·rw [Qa q,Qa q];exact Paired.snoc r ⟨rfl,hb,ry⟩
theorem KT.keeps (r:KT H kvs xs) (ht:∀b ys,H b=some (.tup ys)->H' b=some (.tup ys)):KT H' kvs xs :=
 Paired.mapP r fun _ _ z=>⟨z.1,ht _ _ z.2.1,z.2.2⟩
section
variable {h:Heap}
theorem ZiD {u:HO} (ok:HOk P w H h) (e:Rd H a u):ObjOk P w H h a u:=e.ok ok
theorem Vn {kvs:List (Zi×V)} (ok:HOk P w H h) (e:Rd H a (.dK kvs)):kvs.length≤sizeLine∧(a==sysModules)=false∧∃vs,KV kvs vs∧h.DictOf (Yw P w) a vs :=
 show ObjOk P w H h a (.dK kvs) from ZiD ok e
theorem JQ {kvs:List (Zi×V)} (ok:HOk P w H h) (e:H a=some (.dK kvs)):kvs.length≤sizeLine∧(a==sysModules)=false∧∃vs,KV kvs vs∧h.DictOf (Yw P w) a vs:=Vn ok (.inl e)
theorem V5 {ks:List Zi} (ok:HOk P w H h) (e:H a=some (.tup (ks.map kV))):(tupleKind (Yw P w)).is h ks a:=by
 obtain ⟨_,its,r,o,h1,h2,n,h3⟩:=(show ObjOk P w H h a (.tup (ks.map kV)) from ok a _ e);exact ⟨o,its.toArray,n,h1,h2,h3,by simpa using Zfk r⟩
theorem Vj (ok:HOk P w H h) (e:Rd H a (.dT kvs)):kvs.length≤sizeLine∧(a==sysModules)=false ∧
  ∃xs,KT H kvs xs∧h.DictOfH (tupleKind (Yw P w)) a xs:=by
 obtain ⟨z,y,xs,r,o,es,ep,h1,h2,h3,h4,h5⟩:=(show ObjOk P w H h a (.dT kvs) from ZiD ok e);refine ⟨z,y,xs,r,o,es,ep,h1,h2,h3,h4,fun x hx=>?_,h5⟩
 have all:∀{l:List (List Zi×V)} {m:List (List Zi×Addr×Value)},KT H l m->∀x∈m,(tupleKind (Yw P w)).is h x.1 x.2.1:=by
  intro l m q
  induction q with
  |nil=>intro x hx;exact nomatch hx
  |@cons p q ps qs hq t ih =>
   intro x hx;rcases Qh.mp hx with e|hx
   ·subst e;exact V5 ok (by rw [←hq.1];exact hq.2.1)
   ·exact ih x hx
 exact all r x hx
theorem Jy (ok:HOk P w H h) (e:H a=some (.dT kvs)):kvs.length≤sizeLine∧(a==sysModules)=false ∧
  ∃xs,KT H kvs xs∧h.DictOfH (tupleKind (Yw P w)) a xs:=Vj ok (.inl e)
end
def DGet (H:Hp) (a:Addr) (y:V) (r:Option V):Prop :=
 (∃kvs k,Rd H a (.dK kvs)∧y=kV k∧r=ZD kvs k)∨∃kvs k b,Rd H a (.dT kvs)∧y=.ref b∧H b=some (.tup (k.map kV))∧r=ZD kvs k
def DPut (H:Hp) (a:Addr) (y v:V) (H':Hp):Prop :=
 (∃kvs k,H a=some (.dK kvs)∧y=kV k∧kvs.length<sizeLine∧H'=Zb H a (.dK (Yh kvs k v))) ∨
 ∃kvs k b,H a=some (.dT kvs)∧y=.ref b∧H b=some (.tup (k.map kV))∧kvs.length<sizeLine∧H'=Zb H a (.dT (Yh kvs k v))
theorem DGet.k {kvs:List (Zi×V)} {k:Zi} (e:H a=some (.dK kvs)):DGet H a (kV k) (ZD kvs k):=.inl ⟨kvs,k,.inl e,rfl,rfl⟩
theorem DGet.t {k:List Zi} (e:H a=some (.dT kvs)) (eb:H b=some (.tup (k.map kV))):DGet H a (.ref b) (ZD kvs k):=.inr ⟨kvs,k,b,.inl e,rfl,eb,rfl⟩
theorem DPut.k {kvs:List (Zi×V)} {k:Zi} {v:V} (e:H a=some (.dK kvs)) (hl:kvs.length<sizeLine):DPut H a (kV k) v (Zb H a (.dK (Yh kvs k v))):=.inl ⟨kvs,k,e,rfl,hl,rfl⟩
theorem DPut.t {k:List Zi} {v:V} (e:H a=some (.dT kvs)) (eb:H b=some (.tup (k.map kV))) (hl:kvs.length<sizeLine) :
  DPut H a (.ref b) v (Zb H a (.dT (Yh kvs k v))):=.inr ⟨kvs,k,b,e,rfl,eb,hl,rfl⟩
section
variable {v:V} {r:Value}
theorem Inv.big (I:Inv X pins σ H s):sysModules<s.heap.objs.size:=by
 have h:mainGlobals<s.heap.objs.size:=(I.mod.glob.keeps I.bk).lt;exact Nat.lt_trans (by decide) h
theorem Zqn (hu:A.units+1<cLine) (I:Inv X pins σ H s) (g:DGet H a y (some v)) (ry:RelV y u) (h:∀w' s',Inv X pins σ H s'->RelV v w'->Q w' s') :
  wpAny (model X.prog X.w) A (getItem (.ref a) u) Q E s:=by
 rcases g with ⟨kvs,k,e,ey,l⟩|⟨kvs,k,b,e,ey,eb,l⟩
 ·subst ey;obtain ⟨z,hd,vs,rel,dd⟩:=Vn I.hok e;obtain ⟨w',hw,rw'⟩:=RelO.some_of (v:=v) (o:=valueAt vs k) (by rw [l];exact rel.val k);exact wpAny_getItem_of (V3 ry) dd.mapOf hw (h w' _ (I.tok _) rw')
 ·subst ey;cases (show u=Value.ref b from ry);obtain ⟨z,hd,xs,rel,dd⟩:=Vj I.hok e;obtain ⟨w',hw,rw'⟩:=RelO.some_of (v:=v) (o:=(atKey xs k).map (·.2)) (by rw [l];exact rel.val k);obtain ⟨p,hp,hp2⟩:=QN.mp hw;refine wpAny_getItem_heap (Ga hu) (V5 I.hok eb) dd hp ?_;rw [hp2];exact h w' _ (I.tok _) rw'
theorem Zla (hu:A.units+1<cLine) (I:Inv X pins σ H s) (g:DGet H a y o) (ry:RelV y u) (h:∀s',Inv X pins σ H s'->Q (.bool o.isSome) s') :
  wpAny (model X.prog X.w) A (compareOp .In u (.ref a)) Q E s:=by
 rcases g with ⟨kvs,k,e,ey,l⟩|⟨kvs,k,b,e,ey,eb,l⟩
 ·subst ey;obtain ⟨z,hd,vs,rel,dd⟩:=Vn I.hok e;refine wpAny_in_of (V3 ry) hd dd.mapOf ?_;rw [←(rel.val k).isSome_eq,←l];exact h _ (I.tok _)
 ·subst ey;cases (show u=Value.ref b from ry);obtain ⟨z,hd,xs,rel,dd⟩:=Vj I.hok e;refine wpAny_in_heap (Ga hu) (V5 I.hok eb) hd dd ?_;have q:=(rel.val k).isSome_eq;rw [NA] at q;rw [←q,←l];exact h _ (I.tok _)
theorem ZkO (hu:A.units+1<cLine) (I:Inv X pins σ H s) (g:DGet H a y o) (ry:RelV y u) (h:∀s',Inv X pins σ H s'->Q (.bool (!o.isSome)) s') :
  wpAny (model X.prog X.w) A (compareOp .NotIn u (.ref a)) Q E s:=by
 rcases g with ⟨kvs,k,e,ey,l⟩|⟨kvs,k,b,e,ey,eb,l⟩
 ·subst ey;obtain ⟨z,hd,vs,rel,dd⟩:=Vn I.hok e;refine wpAny_notIn_of (V3 ry) hd dd.mapOf ?_;rw [←(rel.val k).isSome_eq,←l];exact h _ (I.tok _)
 ·subst ey;cases (show u=Value.ref b from ry);obtain ⟨z,hd,xs,rel,dd⟩:=Vj I.hok e;refine wpAny_notIn_heap (Ga hu) (V5 I.hok eb) hd dd ?_;have q:=(rel.val k).isSome_eq;rw [NA] at q;rw [←q,←l];exact h _ (I.tok _)
theorem ZeG {h':Heap} {ob:HO} (I:Inv X pins σ H s) (mu:Je (H a)) (hs:Heap.SameBut a s.heap h') (he:∃q,h'.get? a=some q) (new:ObjOk X.prog X.w (Zb H a ob) h' a ob) :
  Inv X pins σ (Zb H a ob) { s with heap:=h',toks:=t' } :=
 I.write (x:=a) (e:=a) mu (.inl rfl) (fun b q hb z=>(hs.2 b hb).trans z) he new
theorem Zoq {h':Heap} {kvs:List (Zi×V)} {vs:List (Zi×Value)} (z:kvs.length≤sizeLine) (hd:(a==sysModules)=false) (rel:KV kvs vs) (dd:h'.DictOf (Yw P w) a vs) :
  ObjOk P w H' h' a (.dK kvs):=⟨z,hd,vs,rel,dd⟩
theorem ZoX {Q:Unit->Shared->Prop} (hu:A.units+1<cLine) (I:Inv X pins σ H s) (g:DPut H a y v H') (ry:RelV y u) (rv:RelV v r) (h:∀s',Inv X pins σ H' s'->Q () s') :
  wpAny (model X.prog X.w) A (setItem (.ref a) u r) Q E s:=by
 rcases g with ⟨kvs,k,e,ey,l,eH⟩|⟨kvs,k,b,e,ey,eb,l,eH⟩
 ·subst ey eH;obtain ⟨z,hd,vs,rel,dd⟩:=JQ I.hok e;have hz:vs.length≤sizeLine:=by rw [←rel.length];exact z
  have hl:(Yh kvs k v).length≤sizeLine:=by have:=Zf8 kvs k v;omega
  refine wpAny_setItem_pairs (hsz:=hz) (V3 ry) dd fun h' dd' hs=>h _ ?_;have he:∃q,h'.get? a=some q:=let ⟨q,_,_,hq,_⟩:=dd';⟨q,hq⟩;exact ZeG I (by rw [e];exact True.intro) hs he (Zoq hl hd (rel.put k rv) dd')
 ·subst ey eH;cases (show u=Value.ref b from ry);obtain ⟨z,hd,xs,rel,dd⟩:=Jy I.hok e;have hz:xs.length≤sizeLine:=by rw [←GO rel];exact z
  have hl:(Yh kvs k v).length≤sizeLine:=by have:=Zf8 kvs k v;omega
  refine wpAny_setItem_heap (hsz:=hz) (Ga hu) (V5 I.hok eb) dd fun h' dd' hs=>h _ ?_;obtain ⟨q,es,ep,hq,h2,h3,h4,_,h5⟩:=dd';refine ZeG I (by rw [e];exact True.intro) hs ⟨q,hq⟩ ⟨hl,hd,_,(rel.put k eb rv).keeps fun c ys ec=>?_,q,es,ep,hq,h2,h3,h4,h5⟩;rw [Zg (Zem ec e (fun z=>nomatch z))];exact ec
end
section
variable {kvs:List (Zi×V)} {k:Zi}
theorem Zng (I:Inv X pins σ H s) (e:Rd H a (.dK kvs)) (h:∀t s',Inv X pins σ H s'->Q (.int kvs.length t) s'):wpAny (model X.prog X.w) A (call (.builtin "len") [.ref a]) Q E s:=by
 obtain ⟨z,hd,vs,rel,dd⟩:=Vn I.hok e;refine call_len_dict hd dd (by rw [←rel.length];rw [Gr] at z;omega) ?_;rw [←rel.length];exact h _ _ (I.tok _)
end
def ZhC (i:Expr):Prop:=∀ov iv,subscripted i false ov iv=operate [ov,iv] (getItem ov iv)
theorem ZiP {prog:Program} {env:Env} {value slice:Expr} {id:String} 
 (hl:typeLookup (.type T) "__getitem__"=pure (some (.builtin id))) (hs:ZhC slice)
 (h:wpAny (model prog w) A (eval value env) (fun o s₁=>wpAny (model prog w) A (eval slice env) (fun i s₂=>s₂.TypeIs o T∧wpAny (model prog w) A (getItem o i) Q E s₂) E s₁) E s) :
  wpAny (model prog w) A (eval (.Subscript value slice pos) env) Q E s:=by
 refine Subscript_ (Ra h (fun o s₁ h₁=>Ra h₁ (fun i s₂ h₂=>?_) fun _ _ x=>x) fun _ _ x=>x);obtain ⟨hT,h₂⟩:=h₂;unfold subscriptTail;refine Qc ?_;rw [getitemInPython_of_ne hT.not_modules];refine Qc (wpAny_specialOf hT hl ?_)
 have fin:wpAny (model prog w) A (subscripted slice false o i) (fun r s₃=>wpAny (model prog w) A (letTemporaryGo value o r >>= fun _=>pure r) Q E s₃) E s₂:=by
  rw [hs o i];exact wpAny_operating (Ra h₂ (fun r s₃ h₃=>Qc (wpAny_letTemporaryGo (Qf h₃))) fun _ _ x=>x)
 first
  |exact Qf (Qc fin)
  |exact Qc (Qf (Qc fin))
  |exact Qc fin
theorem Zp3 (I:Inv X pins σ H s) (g:DGet H a y o):s.TypeIs (.ref a) "dict":=by
 rcases g with ⟨kvs,k,e,_,_⟩|⟨kvs,k,b,e,_,_,_⟩
 ·obtain ⟨_,_,vs,_,dd⟩:=Vn I.hok e;exact dd.typeIs
 ·obtain ⟨_,_,xs,_,dd⟩:=Vj I.hok e;exact dd.typeIs
def Zn4 (td ty:TE):TE:=fun σ H Q=>td σ H fun x H1=>ty σ H1 fun y H2=>∃a v,x=.ref a∧DGet H2 a y (some v)∧Q v H2
def Zli (ty td:TE):TE:=fun σ H Q=>ty σ H fun y H1=>td σ H1 fun x H2=>∃a o,x=.ref a∧DGet H2 a y o∧Q (.bl o.isSome) H2
def Zof (ty td:TE):TE:=fun σ H Q=>ty σ H fun y H1=>td σ H1 fun x H2=>∃a o,x=.ref a∧DGet H2 a y o∧Q (.bl (!o.isSome)) H2
def ZnH (td ty tv:TE):TS:=fun D σ H=>tv σ H fun v H1=>td σ H1 fun x H2=>ty σ H2 fun y H3=>∃a H4,x=.ref a∧DPut H3 a y v H4∧D.nx σ H4
section
variable {o i value:Expr} {pos' tpos:Pos} {td ty tv:TE}
theorem YW (hu:X.A.units+1<cLine) (ho:PE X o td) (hi:PE X i ty) (hs:ZhC i):PE X (.Subscript o i pos) (Zn4 td ty):=by
 intro pins s σ H Q I h;refine ZiP PySem.F.slot_dict_getitem.lookup hs (Zq (ho pins s σ H _ I h) fun u s1 ⟨x,H1,I1,rx,q1⟩=>Zq (hi pins s1 σ H1 _ I1 q1) fun iv s2 ⟨y,H2,I2,ry,a,v,ex,g,q2⟩=>?_);subst ex;obtain rfl:u=Value.ref a:=rx;exact ⟨Zp3 I2 g,Zqn hu I2 g ry fun w' s3 I3 rw'=>⟨v,H2,I3,rw',q2⟩⟩
theorem Zbc (hu:X.A.units+1<cLine) (hi:PE X i ty) (ho:PE X o td):PC X .In i o (Zli ty td):=by
 intro pins s σ H Q I h;refine Zq (hi pins s σ H _ I h) fun iv s1 ⟨y,H1,I1,ry,q1⟩=>Zq (ho pins s1 σ H1 _ I1 q1) fun u s2 ⟨x,H2,I2,rx,a,ov,ex,g,q2⟩=>?_;subst ex;obtain rfl:u=Value.ref a:=rx;exact Zla hu I2 g ry fun s3 I3=>⟨.bl ov.isSome,H2,I3,rfl,q2⟩
theorem Zdk (hu:X.A.units+1<cLine) (hi:PE X i ty) (ho:PE X o td):PC X .NotIn i o (Zof ty td):=by
 intro pins s σ H Q I h;refine Zq (hi pins s σ H _ I h) fun iv s1 ⟨y,H1,I1,ry,q1⟩=>Zq (ho pins s1 σ H1 _ I1 q1) fun u s2 ⟨x,H2,I2,rx,a,ov,ex,g,q2⟩=>?_;subst ex;obtain rfl:u=Value.ref a:=rx;exact ZkO hu I2 g ry fun s3 I3=>⟨.bl (!ov.isSome),H2,I3,rfl,q2⟩
theorem Xg (hu:X.A.units+1<cLine) (ho:PE X o td) (hi:PE X i ty) (hv:PE X value tv) (hs:swapsWith value (some (.Subscript o i pos')) pos.line X.env=pure false) :
  PS X (.Assign [.Subscript o i pos'] value pos) (ZnH td ty tv):=by
 intro pins s σ H D I h;refine wpAny_Assign_Subscript (Zq (hv pins s σ H _ I h) fun r s1 ⟨v,H1,I1,rv,q1⟩=>Zq (ho pins s1 σ H1 _ I1 q1) fun u s2 ⟨x,H2,I2,rx,q2⟩=>Zq (hi pins s2 σ H2 _ I2 q2) fun iv s3 ⟨y,H3,I3,ry,a,H4,ex,g,q3⟩=>?_) hs;subst ex;obtain rfl:u=Value.ref a:=rx;exact ZoX hu I3 g ry rv fun s4 I4=>⟨σ,H4,I4,q3⟩
end
theorem ZkX (h:Heap) (hb:sysModules<h.objs.size):ObjOk P w H (h.push { cls:=.type "dict",data:=.dict #[] }) h.objs.size (.dK []) :=
 ⟨QL _,RC.mpr (Q2 (QA hb)),[],.nil,Heap.DictOf.new h⟩
theorem Zqd (h:Heap) (hb:sysModules<h.objs.size):ObjOk P w H (h.push { cls:=.type "dict",data:=.dict #[] }) h.objs.size (.dT []) :=
 ⟨QL _,RC.mpr (Q2 (QA hb)),[],.nil,_,#[],0,Qu _ rfl,⟨rfl,rfl,rfl⟩,rfl,rfl,List.nodup_nil⟩
def Zoj:TE:=fun _ H Q=>∀p,H p=none->Q (.ref p) (Zb H p (.dK []))
def Zp2:TE:=fun _ H Q=>∀p,H p=none->Q (.ref p) (Zb H p (.dT []))
theorem X9:PE X (.Dict [] [] pos) Zoj:=fun pins s σ H Q I h =>
 wpAny_Dict_empty ⟨.ref s.heap.objs.size,_,I.laid (a:=s.heap.objs.size) (o:=.dK []) (t':=s.toks) (fun _ _ q=>Qo _ q) (Qe _) (ZkX s.heap I.big),rfl,h _ (I.hok.fresh (Qe _))⟩
theorem V4:PE X (.Dict [] [] pos) Zp2:=fun pins s σ H Q I h =>
 wpAny_Dict_empty ⟨.ref s.heap.objs.size,_,I.laid (a:=s.heap.objs.size) (o:=.dT []) (t':=s.toks) (fun _ _ q=>Qo _ q) (Qe _) (Zqd s.heap I.big),rfl,h _ (I.hok.fresh (Qe _))⟩
structure M2 (X:Cx) (o:Expr) (m:Str) (apos:Pos) (e f:Expr) (cpos:Pos):Prop where
 base:attributeBase o m X.env (eval o X.env)=eval o X.env
 few:((backTo cpos (starEach [e,f] X.env)).all (fun x=>!x.1)&&(backToKw cpos (keywordEach [] X.env)).all (fun x=>x.1.isSome)
  && decide (([e,f]:List Expr).length+([]:List Keyword).length+(if ([]:List Keyword).isEmpty then 0 else 1)<30))=true
 line:(apos.endLine==cpos.line)=true
 trees:backTo cpos (starEach [e,f] X.env)=[(false,eval e X.env),(false,eval f X.env)]
def IsD (H:Hp) (a:Addr):Prop:=(∃kvs,Rd H a (.dK kvs))∨∃kvs,Rd H a (.dT kvs)
theorem Zb4 (I:Inv X pins σ H s) (d:IsD H a) :
  s.TypeIs (.ref a) "dict"∧(∀b,Value.ref a=.ref b->∃ob,s.heap.get? b=some ob∧ob.dict=none)∧(a==sysModules)=false:=by
 rcases d with ⟨kvs,e⟩|⟨kvs,e⟩
 ·obtain ⟨_,hd,vs,_,dd⟩:=Vn I.hok e;refine ⟨dd.typeIs,fun b q=>?_,hd⟩;cases q;obtain ⟨ob,_,_,h1,h2,_⟩:=dd;exact ⟨ob,h1,h2.2.1⟩
 ·obtain ⟨_,hd,xs,_,dd⟩:=Vj I.hok e;refine ⟨dd.typeIs,fun b q=>?_,hd⟩;cases q;obtain ⟨ob,_,_,h1,h2,_⟩:=dd;exact ⟨ob,h1,h2.2.1⟩
section
variable {d:V} {r:Value}
theorem Zjh (hu:A.units+1<cLine) (I:Inv X pins σ H s) (g:DGet H a y o) (ry:RelV y u) (rd:RelV d r) (h:∀w' s',Inv X pins σ H s'->RelV (o.getD d) w'->Q w' s') :
  wpAny (model X.prog X.w) A (call (.builtin "dict.get") [.ref a,u,r]) Q E s:=by
 rcases g with ⟨kvs,k,e,ey,l⟩|⟨kvs,k,b,e,ey,eb,l⟩
 ·subst ey;obtain ⟨z,hd,vs,rel,dd⟩:=Vn I.hok e;refine Gb NB dd.typeIs PySem.F.entry_dict_get (NY _ _ _) (meets_dict_get_default (Yw X.prog X.w) a (V3 ry) hd r) ⟨_,dd.mapOf,h _ _ (I.tok _) ?_⟩;rw [l];exact (rel.val k).getD rd
 ·subst ey;cases (show u=Value.ref b from ry);obtain ⟨z,hd,xs,rel,dd⟩:=Vj I.hok e;refine Gb NB dd.typeIs PySem.F.entry_dict_get (NY _ _ _) (meetsH_dict_get_default (tupleKind (Yw X.prog X.w)) a b hd r) ⟨Ga hu,k,xs,V5 I.hok eb,dd,h _ _ (I.tok _) ?_⟩;rw [l];exact (rel.val k).getD rd
end
def Zi0 (td ty tx:TE):TE:=fun σ H Q=>td σ H fun x H1=>∃a,x=.ref a∧IsD H1 a∧ty σ H1 fun y H2=>tx σ H2 fun z H3=>∃o,DGet H3 a y o∧Q (o.getD z) H3
section
variable {o f:Expr} {apos cpos:Pos} {td ty tx:TE}
theorem JN (hu:X.A.units+1<cLine) (ho:PE X o td) (he:PE X e ty) (hf:PE X f tx) (m:M2 X o "get" apos e f cpos):PE X (.Call (.Attribute o "get" apos) [e,f] [] cpos) (Zi0 td ty tx):=by
 intro pins s σ H Q I h;refine NC m.base m.few m.line GY NB PySem.F.type_dict_get (Zq (ho pins s σ H _ I h) fun u s1 ⟨x,H1,I1,rx,a,ex,d,q1⟩=>?_);subst ex;obtain rfl:u=Value.ref a:=rx;obtain ⟨t1,t2,_⟩:=Zb4 I1 d;refine ⟨t1,t2,?_⟩;rw [m.trees]
 refine Gx rfl (Gy (RO (Zq (he pins s1 σ H1 _ I1 q1) fun iv s2 ⟨y,H2,I2,ry,q2⟩ =>
  RO (Zq (hf pins s2 σ H2 _ I2 q2) fun fv s3 ⟨z,H3,I3,rz,ov,g,q3⟩=>GU ?_))))
 exact Zjh hu I3 g ry rz fun w' s4 I4 rw'=>⟨_,H3,I4,rw',q3⟩
end
section
variable {kvs:List (Zi×V)}
end
end L2
namespace Att
open PySem PySem.W PySem.Calls PyProof.Rows
theorem Zo6 {P:Params} {h:Heap}:∀(ns:List Int) (vs:List Value),WellAll P h vs (ns.map WData.int)->IntsAre vs ns:=by
 intro ns
 induction ns with
 |nil =>
  intro vs w;rw [R9] at w;cases w;exact .nil
 |cons n ns ih =>
  intro vs w;rw [Qs] at w;cases w with
  |cons a b =>
   cases a;exact .cons _ _ (ih _ b)
theorem Zl1 {l:OpenLaw} {n:Nat} (hn:l.most=some n) {P:Params} {h:Heap} {args:List WData} {vals:List Value}
  (hpre:l.row.toRowW.claim.pre args=true) (hwl:WellAll P h vals args) :
  ∃a vs ns,vals=[Value.ref a]∧args=[WData.list (ns.map WData.int)]∧h.get? a=some { cls:=.type "list",data:=.seq vs.toArray }∧IntsAre vs ns∧ns.length≤n:=by
 have hsh:WShape.hasAll [] args [.list .int]=true:=(pre_splitW hpre).1;have hc:l.pre.holds [] { args:=args }=true:=(pre_splitW hpre).2;obtain ⟨d,r,rfl,h1,h2⟩:=hasAllW_cons hsh;obtain rfl:=hasAllW_nil h2;obtain ⟨xs,rfl,h3⟩:=hasW_list h1;obtain ⟨ns,rfl⟩:=items_int h3
 have hlen:ns.length≤n:=by
  unfold OpenLaw.pre at hc
  have h4:(WTm.not (.lt (.lit (.int (n:Int))) (.len (.arg 0)))).holds [] { args:=[.list (ns.map .int)] }=true:=by
   have h4:=(holds_andW hc).1;rw [hn] at h4;exact h4
  have h5:=condW_of h4 (w_not (w_lt w_lit (w_len_list (w_arg rfl))));rw [Qd] at h5;refine Nat.le_of_not_lt fun q=>?_;have q':(n:Int)<((ns.length:Nat):Int):=by omega
  first
   | (rw [Qr q'] at h5;exact absurd h5 (by decide))
   | (simp at h5;omega)
 cases hwl with
 |cons w1 w2 =>
  cases w2;cases w1 with
  |list ho hall=>exact ⟨_,_,ns,rfl,rfl,ho,Zo6 ns _ hall,hlen⟩
theorem ZoE (l:OpenLaw) (args:List WData):l.row.toRowW.claim.post args (.bool true) args=true :=
 postW_of (r:=l.row.toRowW) (X:=(true==true))
  (show WShape.has [] (.bool true) .bool=true by first|rfl|decide|simp [WShape.has,WShape.arms,WShape.armsAll])
  (show (WTm.eq .res (.lit (.bool true))).value [] { args:=args,res:=some (.bool true),after:=args }=some (.bool (true==true)) from w_eq_bool (w_res rfl) w_lit) rfl
theorem attach_call {l:OpenLaw} {n:Nat} {q:Program} {loose:List Str} {XP:(Str->Option Value)->Heap->Prop} {YP:World->Heap->Prop} {d:DefRec}
  (hn:l.most=some n) (hdf:d.params.defaults=[])
  (call:∀(w:World) (s₀ s₁:Shared) (mg mb:Str->Option Value) (fa:Addr) (o:Obj) (pm cd doc:Value) (a:Addr) (vs:List Value) (ns:List Int),
   Ground q loose [] XP w s₀ mg mb s₁.heap->YP w s₁.heap →
   s₁.heap.get? fa=some o->o.data=.func (docDef d.name d.params d.body d.scope pm cd doc)->s₁.heap.CodeRec cd d.name->mg d.name=some (.ref fa) →
   s₁.heap.get? a=some { cls:=.type "list",data:=.seq vs.toArray }->IntsAre vs ns->ns.length≤n->s₁.gens=#[] →
   codeAny (model l.prog w) callerA (.call (.ref fa) ⟨[.ref a],[]⟩) (fun r s'=>r=.ok (.ret (.bool true))∧OldK s₁.heap s'.heap∧s'.os=s₁.os∧AllBare s'.gens) s₁) :
  WalkO q loose XP YP l.row.toRowW d [] (fun f vs=>PySem.call f vs):=by
 intro w s₀ s₁ mg mb G Y fa o pm cd doc dV kV ho hd hcd hD hmg hg args vals as hpre hlay hrd hwl hlo;obtain rfl:dV=.none:=Dflts.none hD hdf;obtain rfl:kV=.none:=Dflts.noKw hD;obtain ⟨a,vs,ns,rfl,rfl,hobj,hints,hlen⟩:=Zl1 hn hpre hwl;refine enter_call (Gu (call w s₀ s₁ mg mb fa o pm cd doc a vs ns G Y ho (fd_plain hd) hcd hmg hobj hints hlen hg) fun r s' hq=>?_);obtain ⟨rfl,h2,h3,h4⟩:=hq;exact ⟨.inl ⟨.bool true,.bool true,[],rfl,fun _=>rfl,.bool true,ZoE l _,fun _=>⟨List.Pairwise.nil,fun _ hm=>(nomatch hm)⟩⟩,h2,h3,h4⟩
section
variable {prog:Program} {w:World} {A:Around} {E:Value->Shared->Prop} {s:Shared} {K:Frag}
end
end Att
namespace L2
open PySem PySem.Spec PyProof.Rows
theorem ZgO:∀{vs:List Value} {ns:List Int},IntsAre vs ns->Vals (ns.map V.int) vs
 |_,_,.nil=>.nil
 |_,_,.cons n t h=>.cons ⟨t,rfl⟩ (ZgO h)
def Zde (H:Hp):Prop:=∀b,H b=none∨∃o xs,H b=some (.frz o (.lst xs))
theorem ZiU {P:Program} {w:World} {K:W.Frag} {mg mb:Str->Option Value} {CX:YH} {k:Nat} {fa a:Addr} {fd:FuncData} {x:Str} {sp:Sp} {s₁:Shared} {vs:List Value} {ns:List Int}
  (KX:K.In s₁.heap) (hns:s₁.heap.Ns mainGlobals mg) (hb:s₁.heap.Ns builtinsNs mb) (hbb:∀x:Str,x≠"__name__"->mb x=bootBuiltins x) (hlim:s₁.heap.NoLimit) (hg:s₁.gens=#[])
  (ha:s₁.heap.get? a=some { cls:=.type "list",data:=.seq vs.toArray }) (hi:IntsAre vs ns) (hl:ns.length≤sizeLine) (hr:Room k callerA)
  (F:∀base:Heap,K.In base->base.Ns mainGlobals mg->FnOk P w K mg base CX k fa fd [x] sp) (hbind:∀(s:Shared) (u:Value),BindsTo s fd ⟨[u],[]⟩ [(x,u)])
  (hsp:∀H:Hp,Zde H->SqL K H a (ns.map V.int)->sp [.ref a] H (fun v _=>v=.bl true) fun _ _ _=>False)
  (hCX:∀H e s',CX [] H s₁ (fun _ _ _=>False) e s'->False) :
  codeAny (model P w) callerA (.call (.ref fa) ⟨[.ref a],[]⟩) (fun r s'=>r=.ok (.ret (.bool true))∧OldK s₁.heap s'.heap∧s'.os=s₁.os∧AllBare s'.gens) s₁:=by
 have rv:=ZgO hi;have lenV:=hi.length
 have core : ∀H : Hp, Zde H → SqL K H a (ns.map V.int) → HOk P w H s₁.heap → (∀b, H b ≠ none → b=a) → (H a ≠ none → K.lookup a=none) →
   codeAny (model P w) callerA (.call (.ref fa) ⟨[.ref a],[]⟩) (fun r s'=>r=.ok (.ret (.bool true))∧OldK s₁.heap s'.heap∧s'.os=s₁.os∧AllBare s'.gens) s₁:=by
  intro H hO hS hok hA hK;have base_of:∀{b:Addr} {o:Obj},s₁.heap.get? b=some o->H b=none->(WV s₁.heap H).get? b=some o:=fun e n=>ZpF e n
  have noA:∀{b:Addr} {o:Obj} {es:Array DictEntry} {ep:Nat},s₁.heap.get? b=some o->o.data=.dict es ep->H b=none:=fun {b o es ep} e d=>by
   cases q:H b with
   |none=>rfl
   |some u =>
    have e':b=a:=hA b (by rw [q];simp);subst e';rw [ha] at e;cases e;have d':Data.seq vs.toArray _=Data.dict es ep:=d;cases d'
  have nsK:∀{b:Addr} {m:Str->Option Value},s₁.heap.Ns b m->(WV s₁.heap H).Ns b m:=fun {b m} ⟨o,es,ep,e,d,r⟩=>⟨o,es,ep,base_of e (noA e d),d,r⟩
  have hKb:K.In (WV s₁.heap H):=fun b o e=>base_of (KX b o e) (by
   cases q:H b with
   |none=>rfl
   |some u =>
    have e':b=a:=hA b (by rw [q];simp);subst e';rw [hK (by rw [q];simp)] at e;cases e)
  have hM:Mod K mg (WV s₁.heap H):=⟨hKb,nsK hns,⟨mb,nsK hb,hbb⟩,let ⟨mc,h1,h2⟩:=hlim;⟨mc,nsK h1,h2⟩⟩;have e0:Env0 P w K mg (WV s₁.heap H) callerA [] s₁ H:=⟨rfl,hM,fun b o e=>ZmZ e,Gs (Zjf _ _),trivial,fun b hb=>absurd (show b∈([]:List Addr) from hb) (by simp),hok,.of_eq hg⟩;refine Gu ((F _ hKb (nsK hns)).run callerA [] s₁ H ⟨[.ref a],[]⟩ [.ref a] [.ref a] _ _ hr e0 (hbind s₁ (.ref a)) (.cons rfl .nil) (hsp H hO hS)) fun r s' h=>?_;cases r with
  |error e=>exact (hCX H e s' h).elim
  |ok fl =>
   cases fl with
   |next=>exact False.elim h
   |brk=>exact False.elim h
   |cont=>exact False.elim h
   |ret u =>
    obtain ⟨v,H',os,bare,un,hok',r',q⟩:=h;have q':v=.bl true:=q;subst q';obtain rfl:u=Value.bool true:=r';refine ⟨rfl,OldK.of_keep fun b o e=>?_,os,bare⟩;cases q:H b with
    |none=>exact un.keep b o e q (by intro z;exact absurd (show b∈([]:List Addr) from z) (by simp)) (by simp)
    |some u =>
     rcases hO b with z|⟨ob,xs,z⟩
     ·rw [q] at z;cases z
     ·have z2:=un.frzs b ob _ z;obtain ⟨e1,_⟩:=hok b _ z;obtain ⟨e2,_⟩:=hok' b _ z2;rw [e] at e1;cases e1;exact e2
 cases hk:K.lookup a with
 |some o =>
  have e:=KX a o hk;rw [ha] at e;cases e;refine core (fun _=>none) (fun _=>.inl rfl) (.inr ⟨_,vs.toArray,_,hk,rfl,rfl,rfl,by rw [Qz,lenV];exact hl,by simpa using rv⟩) (fun b u z=>by have z':(none:Option HO)=some u:=z;cases z') (fun b z=>absurd rfl z) fun z=>absurd rfl z
 |none =>
  refine core (fun b=>if b=a then some (.frz { cls:=.type "list",data:=.seq vs.toArray } (.lst (ns.map V.int))) else none) (fun b=>?_) (.inl (.inr ⟨{ cls:=.type "list",data:=.seq vs.toArray },Qb rfl⟩)) (fun b u z=>?_) (fun b z=>?_) fun _=>hk
  ·by_cases hb:b=a
   ·exact .inr ⟨_,_,Qb hb⟩
   ·exact .inl (Qa hb)
  ·by_cases hb:b=a
   ·have z':=(Qb hb).symm.trans z;cases z';subst hb;exact ⟨ha,by rw [Qd];exact hl,vs,_,rv,ha⟩
   ·have z':=(Qa hb).symm.trans z;cases z'
  ·by_cases hb:b=a
   ·exact hb
   ·exact absurd (Qa hb) z
theorem walk_of {l:W.OpenLaw} {n k:Nat} {q:Program} {loose:List Str} {XP:(Str->Option Value)->Heap->Prop} {YP:World->Heap->Prop} {d:DefRec} {K:Params->W.Frag} {CX:World->YH} {sp:World->Sp} {x:Str}
  (hn:l.most=some n) (hn2:n≤sizeLine) (hdf:d.params.defaults=[]) (hr:Room k callerA)
  (hY:∀(w:World) (h:Heap),YP w h->(K w.params).In h)
  (F:∀(w:World) (mg:Str->Option Value) (fa:Addr) (h:Heap),(K w.params).In h->h.Ns mainGlobals mg->mg d.name=some (.ref fa) →
   ∃fd:FuncData,(∀(s:Shared) (u:Value),BindsTo s fd ⟨[u],[]⟩ [(x,u)]) ∧
    ∀base:Heap,(K w.params).In base->base.Ns mainGlobals mg->FnOk l.prog w (K w.params) mg base (CX w) k fa fd [x] (sp w))
  (hsp:∀(w:World) (H:Hp) (a:Addr) (ns:List Int),ns.length≤n->Zde H->SqL (K w.params) H a (ns.map V.int)->sp w [.ref a] H (fun v _=>v=.bl true) fun _ _ _=>False)
  (hCX:∀(w:World) (H:Hp) (s:Shared) (e:Value) (s':Shared),CX w [] H s (fun _ _ _=>False) e s'->False) :
  W.WalkO q loose XP YP l.row.toRowW d [] (fun f vs=>PySem.call f vs):=by
 refine Att.attach_call hn hdf fun w s₀ s₁ mg mb fa o pm cd doc a vs ns G Y ho hd hcd hmg hobj hints hlen hg=>?_;have KX:=hY w _ Y;obtain ⟨fd,hb,hF⟩:=F w mg fa _ KX G.T.g hmg;exact ZiU KX G.T.g G.T.b G.T.builtins G.T.nolimit hg hobj hints (Qi hlen hn2) hr hF hb (fun H hO hS=>hsp w H a ns hlen hO hS) fun H e s'=>hCX w H s₁ e s'
noncomputable def Yn (s:Stmt) (j:Nat):Stmt:=match s with
 |.ClassDef _ _ _ body _ _ _ _ _ _ _=>body.getD j (.Pass ⟨0,0,0,0⟩)
 |_=>.Pass ⟨0,0,0,0⟩
noncomputable def XW (s:Stmt):Arguments:=match s with
 |.FunctionDef _ a _ _ _ _ _ _ _ _=>a
 |_=>{ posonlyargs:=[],args:=[],vararg:=none,kwonlyargs:=[],kw_defaults:=[],kwarg:=none,defaults:=[] }
noncomputable def XB (s:Stmt):List Stmt:=match s with
 |.FunctionDef _ _ b _ _ _ _ _ _ _=>b
 |_=>[]
noncomputable def Zx (s:Stmt):Scope:=match s with
 |.FunctionDef _ _ _ _ _ _ sc _ _ _=>sc
 |_=>{ kind:=.function,names:=[],isGenerator:=false,isCoroutine:=false }
abbrev E0:XK:=fun _ _ _=>False
structure Fun (K:W.Frag) (x qual:Str) (st:Stmt) (f:Addr) (fd:FuncData):Prop where
 ex:∃(oc:Value) (od:Option Addr) (kV doc pm:Value) (an:Option Addr) (cdv ct:Value) (osl:Array (Option Value)),
  fd=W.fnOf x qual (XW st) (XB st) (Zx st) .none kV doc pm an cdv ct∧K.lookup f=some ⟨oc,od,.func fd,osl⟩∧W.codeIn K cdv qual=true
 kp:W.keepIn K (.ref f)=true
section
variable {P:Program} {w:World} {K:W.Frag} {mg:Str->Option Value} {base:Heap}
theorem Fun.binds {x qual:Str} {st:Stmt} {f:Addr} {fd:FuncData} {ps:List Str} (F:Fun K x qual st f fd)
  (h:∀(kV doc pm:Value) (an:Option Addr) (cdv ct:Value) (us:List Value),us.length=ps.length->bindArgs (W.fnOf x qual (XW st) (XB st) (Zx st) .none kV doc pm an cdv ct) ⟨us,[]⟩=pure (ps.zip us)):Binds K fd ps []:=by
 obtain ⟨oc,od,kV,doc,pm,an,cdv,ct,osl,rfl,lk,hcd⟩:=F.ex;exact .all (h kV doc pm an cdv ct)
theorem Zox {x qual:Str} {st:Stmt} {f:Addr} {oc:Value} {od an:Option Addr} {osl:Array (Option Value)} {kV doc pm cdv ct:Value} (l:K.lookup f=some ⟨oc,od,.func (W.fnOf x qual (XW st) (XB st) (Zx st) .none kV doc pm an cdv ct),osl⟩)
  (c:W.codeIn K cdv qual=true) (k:W.keepIn K (.ref f)=true):Fun K x qual st f (W.fnOf x qual (XW st) (XB st) (Zx st) .none kV doc pm an cdv ct):=⟨⟨oc,od,kV,doc,pm,an,cdv,ct,osl,rfl,l,c⟩,k⟩
end
theorem ZO {A:Around} {k:Nat} (hr:Room k A):A.units+1<cLine:=Gc (Nat.add_le_add_left (by decide:1≤64) _) hr.units
theorem Zy {n:Nat} (h:n≤1000):n<sizeLine:=Gc h (by decide)
section
variable {X:Cx}
theorem pv (i:Nat) {x:Str} {pos:Pos} (hN:X.N[i]?=some x:=by rfl) (hv:Vis X.env.scope x:=by first|exact Or.inl rfl|exact Or.inr (Or.inl rfl)|exact Or.inr (Or.inr rfl)) (hd:(x==("__debug__" : Str))=false:=by decide)
  (hcd:(x==("__classdict__" : Str))=false:=by decide):PE X (.Name x pos) (XJ i):=ZgX hN hv hd hcd
theorem Zak:YN X (.builtin "len") (fun xs H Q=>∃a kvs,xs=[V.ref a]∧H a=some (.dK kvs)∧Q (.int kvs.length) H):=by
 intro pins s σ H xs us Q I r h;obtain ⟨a,kvs,rfl,ha,q⟩:=h;obtain ⟨u,rfl,ru⟩:=Y5 r;cases ru;exact Zng I (.inl ha) fun t s' I'=>⟨.int kvs.length,H,I',⟨t,rfl⟩,q⟩
end
theorem ZS {A B:Prop} (h:B):if false=true then A else B:=by
 rw [Qa QF];exact h
theorem Z0 {A B:Prop} (h:A):if true=true then A else B:=by
 rw [Qb rfl];exact h
def Same (H H':Hp):Prop:=∀b o,H b=some o->H' b=some o
theorem Same.refl (H:Hp):Same H H:=fun _ _ h=>h
theorem Same.trans {H H1 H2:Hp} (a:Same H H1) (b:Same H1 H2):Same H H2:=fun c o h=>b c o (a c o h)
section
variable {κ:Type} [DecidableEq κ]
end
end L2
set_option maxHeartbeats 4000000
namespace L2
open PySem PySem.Spec PyProof.Rows
variable {C a b e f it:Addr} {A:Around} {X:Cx} {tg:Expr} {o:HO} {h h':Heap} {H H':Hp} {J:It} {pins:List (Addr×Obj)} {fp:List Addr} {es:List Expr} {N:List Str} {xs:List V} {bmB:List Value} {M:Model} {i n t':Nat} {Q:Option Value->Shared->Prop} {p pos:Pos} {P prog:Program} {R:Result->Shared->Prop} {sc:Scope} {s s':Shared} {newId:String} {te:TE} {tk:Tok} {cls:Value} {E:Value->Shared->Prop} {w:World} {CX:YH}
theorem HOk.lean (x:HOk P w H h) (k:∀b u,H b≠none->h.get? b=some u->h'.get? b=some u):HOk P w H h':=fun b u e =>
 (x b u e).stay (fun c v hc q=>k c v (by
  rcases hc with rfl|hc
  ·rw [e];simp
  ·rw [hc];simp) q) (fun _ q=>q) fun _ _ q=>q
structure Flies (P:Program) (w:World) (outer:List Env) (H H':Hp) (s s':Shared) (e:Addr) (cls:Value):Prop where
 os:s'.os=s.os
 bare:AllBare s'.gens
 un:Un (YM outer) [] H H' s.heap s'.heap
 fly:∃B a0,Heap.FlyingW B outer e cls a0 s'.heap∧HOk P w H' B∧(∀b o,s.heap.get? b=some o->H b=none->b∉YM outer->B.get? b=some o) ∧
  ∀b o,s.heap.get? b=some o->b∉YM outer->∃o',B.get? b=some o'
noncomputable def ZA (P:Program) (w:World):YH:=fun outer H s E u s'=>∃e cls H',u=.ref e∧Flies P w outer H H' s s' e cls∧E cls none H'
section
variable {σ:St}
theorem Flies.inv (f:Flies X.prog X.w X.stack H H' s s' e cls) (I:Inv X pins σ H s):Inv X pins σ H' s':=by
 obtain ⟨B,a0,fl,hB,_,_⟩:=f.fly;exact I.call' (ch:=[]) f.os f.un (hB.kept fl.1) f.bare (fun b z=>absurd z (by simp))
theorem Inv.nst (I:Inv X pins σ H s) {o:Obj} (q:X.s₀.heap.get? b=some o) (hb:b∉X.fs):b∉YM X.stack:=fun z=>by
 rcases Qh.mp (I.stkSub b z) with y|y
 ·exact absurd (QK (Qn q) I.ok.above) (by rw [y];exact Rm _)
 ·exact hb y
theorem Flies.leaves {Q:Unit->Shared->Prop} (f:Flies X.prog X.w X.stack H H' s s' e cls) (I:Inv X pins σ H s)
 (hs:X.stack=X.env::X.outer) (hf:X.env.frame=some X.env.locals) (hx:X.ex=[])
 (hQ:∀s'',Flies X.prog X.w X.outer X.H₀ H' X.s₀ s'' e cls->Q () s''):wpAny M X.A (leaving X.env (.ref e)) Q E s':=by
 have J:=f.inv I;obtain ⟨B,a0,fl,hB,kB,tB⟩:=f.fly;rw [hs] at fl;have nx:∀b:Addr,b∉X.ex:=fun b=>by rw [hx];simp
 refine wpAny_leaves_onW (by rw [I.ok.frames,hs]) hf fl fun h' fl' up=>hQ _ ?_
 have slot:∀b o,X.s₀.heap.get? b=some o->b∈X.fs->∃sl,h'.get? b=some { o with slots:=sl }:=fun b o q hb=>by
  obtain ⟨sl,e1⟩:=J.base.slot b o q (I.ok.frf b hb) hb (nx b);obtain ⟨_,o',ho',hn⟩:=J.funs.mem hb;rw [e1] at ho';cases ho';obtain ⟨sl',e2⟩:=up b _ e1 hn;exact ⟨sl',e2⟩
 have keepB:∀b o,X.s₀.heap.get? b=some o->X.H₀ b=none->b∉X.fs->B.get? b=some o:=fun b o q n hb =>
  kB b o (I.base.keep b o q n hb (nx b)) (I.base.free b o q n (nx b)) (I.nst q hb)
 have thereB:∀b o,X.s₀.heap.get? b=some o->b∉X.fs->∃o',B.get? b=some o':=fun b o q hb=>by
  obtain ⟨o1,e1⟩:=I.base.there b o q (nx b);exact tB b o1 e1 (I.nst q hb)
 refine ⟨J.os,J.bare,⟨fun b o q n hb _=>fl'.1 b o (keepB b o q n hb),fun b o q _ hb _=>slot b o q hb,fun b o q n _=>J.base.free b o q n (nx b),fun b o q _=>?_,J.base.tups,J.base.frzs,J.base.tbls⟩,
  B,a0,fl',hB,keepB,thereB⟩
 by_cases hb:b∈X.fs
 ·obtain ⟨sl,e2⟩:=slot b o q hb;exact ⟨_,e2⟩
 ·obtain ⟨o1,e1⟩:=thereB b o q hb;exact ⟨o1,fl'.1 b o1 e1⟩
theorem Zj6 {Q:Unit->Shared->Prop} {h1:Heap} {vs:List Value} (I:Inv X pins σ H s) (mk:Heap.MadeExcOf s.heap h1 e cls vs)
 (hs:X.stack=X.env::X.outer) (hf:X.env.frame=some X.env.locals) (hx:X.ex=[])
 (hQ:∀s'',Flies X.prog X.w X.outer X.H₀ H X.s₀ s'' e cls->Q () s''):wpAny M X.A (leaving X.env (.ref e)) Q E { s with heap:=h1 }:=by
 have nx:∀b:Addr,b∉X.ex:=fun b=>by rw [hx];simp
 have hid:∀b o,s.heap.get? b=some o->b∉YM X.stack->(W.hideAll s.heap (YM X.stack)).get? b=some o:=fun b o q n=>W.hideAll_get _ q n
 have FF:s.heap.FunFrames (W.hideAll s.heap (YM X.stack)) X.stack :=
  W.funFrames_hide I.stack fun env he a ha=>Rg.mpr ⟨env,he,ha⟩
 have hB:HOk X.prog X.w H (W.hideAll s.heap (YM X.stack)):=I.hok.lean fun b u n q=>hid b u q fun z=>n (I.stkFree b z);have sub:∀b o,(W.hideAll s.heap (YM X.stack)).get? b=some o->s.heap.get? b=some o:=fun b o q=>W.of_hideAll _ q;generalize W.hideAll s.heap (YM X.stack)=B at *;rw [hs] at FF;refine wpAny_leaves_madeW (s:={ s with heap:=h1 }) (by rw [I.ok.frames,hs]) hf sub FF mk fun h' t fl' _ _ up=>hQ _ ?_
 have slot:∀b o,X.s₀.heap.get? b=some o->b∈X.fs->∃sl,h'.get? b=some { o with slots:=sl }:=fun b o q hb=>by
  obtain ⟨sl,e1⟩:=I.base.slot b o q (I.ok.frf b hb) hb (nx b);obtain ⟨_,o',ho',hn⟩:=I.funs.mem hb;rw [e1] at ho';cases ho';obtain ⟨sl',e2⟩:=up b _ (mk.keeps _ _ e1) hn;exact ⟨sl',e2⟩
 have keepB:∀b o,X.s₀.heap.get? b=some o->X.H₀ b=none->b∉X.fs->B.get? b=some o:=fun b o q n hb =>
  hid b o (I.base.keep b o q n hb (nx b)) (I.nst q hb)
 have thereB:∀b o,X.s₀.heap.get? b=some o->b∉X.fs->∃o',B.get? b=some o':=fun b o q hb=>by
  obtain ⟨o1,e1⟩:=I.base.there b o q (nx b);exact ⟨o1,hid b o1 e1 (I.nst q hb)⟩
 refine ⟨I.os,I.bare,⟨fun b o q n hb _=>fl'.1 b o (keepB b o q n hb),fun b o q _ hb _=>slot b o q hb,fun b o q n _=>I.base.free b o q n (nx b),fun b o q _=>?_,I.base.tups,I.base.frzs,I.base.tbls⟩,
  _,_,fl',hB,keepB,thereB⟩
 by_cases hb:b∈X.fs
 ·obtain ⟨sl,e2⟩:=slot b o q hb;exact ⟨_,e2⟩
 ·obtain ⟨o1,e1⟩:=thereB b o q hb;exact ⟨o1,fl'.1 b o1 e1⟩
end
abbrev XS:=St->XK
def Wp (CX:YH) (X:Cx) (E:XS):Prop:=∀(pins:List (Addr×Obj)) (σ:St) (H:Hp) (s:Shared) (e:Value) (s':Shared),Inv X pins σ H s->CX X.stack H s (E σ) e s'->X.xe e s'
def Zgr (X:Cx) (E:XS):Prop:=∀(pins:List (Addr×Obj)) (σ:St) (H:Hp) (s:Shared) (h1:Heap) (e:Addr) (cls:Value) (vs:List Value),Inv X pins σ H s->Heap.MadeExcOf s.heap h1 e cls vs->E σ cls none H->X.xe (.ref e) { s with heap:=h1 }
theorem Zz:Wp (ZA P w) X (fun _=>E0):=fun _ _ _ _ _ _ _ ⟨_,_,_,_,_,z⟩=>False.elim z
section
variable {K:W.Frag} {mg:Str->Option Value} {base:Heap} {qual:Str} {scope:Scope} {cd:Value} {outer:List Env} {E:XK}
theorem Xn:Wp (ZA P w) (W2 (ZA P w) P w K mg base N qual scope f cd A outer s H E) (fun _=>E):=by
 rintro pins σ H1 s1 u s' I ⟨e,cls,H',rfl,fl,q⟩;exact fl.leaves I rfl rfl rfl fun s'' f''=>⟨e,cls,H',rfl,f'',q⟩
theorem X1:Zgr (W2 (ZA P w) P w K mg base N qual scope f cd A outer s H E) (fun _=>E):=by
 intro pins σ H1 s1 h1 e cls vs I mk q;exact Zj6 I mk rfl rfl rfl fun s'' f''=>⟨e,cls,H1,rfl,f'',q⟩
end
section
variable {k:Nat} {fd:FuncData} {ps:List Str} {sp:Sp} {dvs:List V} {ds:List Value} {E:XS} {x m:Str} {apos:Pos} {e o:Expr} {ta:TE} {t:TA}
def Zh3 (sp:Sp) (dvs:List V) (E:XS) (t:TA):TE:=fun σ H Q=>t σ H fun vs H1=>sp (vs++dvs) H1 Q (E σ)
theorem US {σ:St} {Q:VK} {us:List Value} {vs:List V} (F:FnOk X.prog X.w X.K X.mg X.base CX k f fd ps sp) (hr:Room k X.A) (hb:Binds X.K fd ps ds) (hd:Vals dvs ds) (hx:Wp CX X E)
 (I:Inv X pins σ H s) (r:Vals vs us) (h:sp (vs++dvs) H Q (E σ)):wpAny (model X.prog X.w) X.A (call (.ref f) us) (EP X pins σ Q) X.xe s:=by
 have r2:Vals (vs++dvs) (us++ds):=r.append hd;have hl:(us++ds).length=ps.length:=by rw [←r2.length];exact F.len _ _ _ _ h
 refine wpAny_call (Gu (F.run X.A X.stack s H ⟨us,[]⟩ (us++ds) (vs++dvs) Q (E σ) hr I.env0 (hb s us I.kIn hl) r2 h) fun r s' hq=>?_);cases r with
 |error e=>exact hx pins σ H s e s' I hq
 |ok fl =>
  cases fl with
  |ret u=>exact I.after hq
  |next=>exact False.elim hq
  |brk=>exact False.elim hq
  |cont=>exact False.elim hq
theorem Znd (F:FnOk X.prog X.w X.K X.mg X.base CX k f fd ps sp) (hr:Room k X.A) (hg:Gl X x) (hm:X.mg x=some (.ref f)) (hk:W.keepIn X.K (.ref f)=true) (hb:Binds X.K fd ps ds) (hd:Vals dvs ds) (hx:Wp CX X E)
 (ha:PA X (e::es) t) (hdb:(x==("__debug__": Str))=false:=by decide) (he:starEach (e::es) X.env=(false,eval e X.env)::starEach es X.env:=by rfl) (hpl:(backTo pos (starEach es X.env)).any (·.1)=false:=by rfl) :
  PE X (.Call (.Name x p) (e::es) [] pos) (Zh3 sp dvs E t):=by
 intro pins s σ H Q I h;refine RS (JE I hg hm ?_ hdb);refine RT (h₀:=X.base) I.ok.mod.kin hk (Zq (ha pos pins s σ H _ I h) fun us s1 ⟨vs,H1,I1,r,q⟩=>⟨I1.kIn,?_⟩) he hpl;exact US F hr hb hd hx I1 r q
end
section
variable {K:W.Frag}
theorem ZpH (X:K.In h) (q:W.excIn K C bmB newId=true):∃bm N nm qn bs hdct sn sub ab col dd k0 k1 k2 k3 k5 mN,
  h.get? C=some (excClassObj nm qn C N bs bm hdct sn sub ab col dd k0 k1 k2 k3 k5 newId)∧h.Ns N mN∧mN "__init__"=none∧OwnTail h bmB bm:=by
 unfold W.excIn at q;split at q
 case h_2=>cases q
 case h_1 dict0 cdat slots0 found =>
  split at q
  case h_2=>cases q
  case h_1 C1 rest0 s0 s1 s2 s3 nid s5 mroEq slEq =>
   simp only [Ri,Rs,ND] at q;have q1:=q.1.1.1.1.1;have q2:=q.1.1.1.1.2;have q3:=q.1.1.1.2;have q4:=q.1.1.2;have q5:=q.1.2;have q6:=q.2;subst q1 q2;cases cdat with
   |mk nmX basesX mroX nsX qualX hdX snX subX abX colX delX =>
    dsimp only at mroEq q3 q5 q6;subst mroEq;subst q3
    have es:slots0=#[s0,s1,s2,s3,some (.builtin nid),s5]:=by
     cases slots0 with
     |mk l=>exact Qj _ slEq
    subst es;exact ⟨rest0,nsX,nmX,qualX,basesX,hdX,snX,subX,abX,colX,dict0,s0,s1,s2,s3,s5,_,X _ _ found,.of_isNs (W.isNs_of_in X q5),W.nsMap_none_of_in X q5 q6,W.tail_of_in X q4⟩
end
section
variable {x:Str} {np cpos:Pos} {e₀:Expr} {rest:List Expr} {t:TA} {B initId:String} {E:XS}
def Zl7 (C:Addr) (E:XS) (t:TA):TS:=fun _ σ H=>t σ H fun vs H1=>vs.length≤sizeLine∧E σ (.ref C) none H1
theorem X3 (hg:Gl X x) (hm:X.mg x=some (.ref C)) (q:W.excIn X.K C bmB newId=true) (FB:ExcBaseFacts B newId initId bmB) (hc:X.calm=true) (hx:Zgr X E) (ha:PA X (e₀::rest) t)
 (hd:(x==("__debug__": Str))=false:=by decide) (he:starEach (e₀::rest) X.env=(false,eval e₀ X.env)::starEach rest X.env:=by rfl) (hpl:(backTo cpos (starEach rest X.env)).any (·.1)=false:=by rfl) :
  PS X (.Raise (some (.Call (.Name x np) (e₀::rest) [] cpos)) none pos) (Zl7 C E t):=by
 intro pins s σ H D I h;obtain ⟨bm,N,nm,qn,bs,hdct,sn,sub,ab,col,dd,k0,k1,k2,k3,k5,mN,hC,hN,hni,T⟩:=ZpH I.mod.kin q
 have hpl':(backTo cpos (starEach (e₀::rest) X.env)).any (·.1)=false:=by
  rw [he];exact hpl
 refine wpAny_Raise_call_subT (C:=C) (nm:=nm) (q:=qn) (N:=N) (bs:=bs) (bm:=bm) (hdct:=hdct) (sn:=sn) (sub:=sub) (ab:=ab) (col:=col) (dd:=dd) (k0:=k0) (k1:=k1) (k2:=k2)
  (k3:=k3) (k5:=k5) FB (mN:=mN) (T.hasType FB.hasBase) (I.ok.hd hc) hpl' hni (JE I hg hm ⟨rfl,?_⟩ hd)
 have g:=ha cpos pins s σ H _ I h;rw [he] at g ⊢;refine Gy (Ra g (fun us s1 r1=>?_) fun _ _ y=>y);obtain ⟨vs,H1,I1,rv,z,q1⟩:=r1;exact ⟨rfl,by rw [←rv.length];exact z,I1.bk _ _ hC,hN.keeps I1.bk,T.keeps I1.bk,fun h1 e mk=>hx pins σ H1 s1 h1 e (.ref C) us I1 mk q1⟩
end
def ZeY (cls:Value) (e:Addr):Heap->Prop:=fun h=>∃o vs,h.get? e=some o∧o.cls=cls∧o.data=.fields vs
noncomputable def ZgI (cls:Value) (e:Addr):HO:=.ext (ZeY cls e)
section
variable {outer:List Env}
end
section
variable {σ:St}
end
section
variable {pins':List (Addr×Obj)} {σ:St} {W:Value->Shared->Prop}
end
section
variable {body suite:List Stmt} {b₀:Stmt} {x n:Str} {np hpos:Pos} {tb:XS->TS} {ts:TS}
end
structure ExcK (K:W.Frag) (C:Addr):Prop where
 ga:W.findIn K (.ref C) "__getattribute__"=some (some (.builtin "BaseException.__getattribute__"))
 gt:W.findIn K (.ref C) "__getattr__"=some none
 cl:W.findIn K (.ref C) "__class__"=some (some (.builtin "object.__class__"))
 mb:W.mroIn K C (.type "BaseException")=some true
 mo:W.mroIn K C (.type "object")=some true
section
variable {K:W.Frag} {g:Array GenState} {d:Drawn} {t:Nat} {os:OsState} {ob:Obj}
theorem ZpX:(".".intercalate ("object.__class__".cutAt '.').dropLast)="object":=by trivial
theorem Zqp (X:K.In h) (Z:ExcK K C) (hx:h.get? a=some ob) (hc:ob.cls=.ref C) (hq:R (.ok (.ret (.ref C))) ⟨h,g,d,t,os⟩) :
  codeAny (model prog w) A (.call (.builtin "getset_descriptor.__get__") ⟨[.builtin "object.__class__",.ref a,.ref C],[]⟩) R ⟨h,g,d,t,os⟩:=by
 have k5:(⟨h,g,d,t,os⟩:Shared).TypeIs (.builtin "object.__class__") "getset_descriptor":=NE
 have mo:W.Looks (model prog w) h (isSubtype (.ref C) (.type (".".intercalate ("object.__class__".cutAt '.').dropLast))) true:=by
  rw [ZpX];exact W.looks_mroIn X Z.mo
 refine codeAny_call_builtin F.slot_gs_get.plain F.entry_gs_get (F.slot_gs_get.check _ _ _ _ _ _ _ _ k5 (F.args_gs_get _ _ _) ?_)
 repeat (any_goals (first|assumption|(with_reducible refine GA hx ?_;rw [hc])|(with_reducible refine mo.at ?_)|wp_step))
 refine ⟨NF _ (by trivial),GB F.entry_object_class ?_⟩
 repeat (any_goals (first|assumption|(with_reducible refine GA hx ?_;rw [hc])|wp_step))
theorem ZoQ {Q:Fin->Shared->Prop} (X:K.In h) (Z:ExcK K C) (hx:h.get? a=some ob) (hc:ob.cls=.ref C) (hq:Q (.done (.ret (.ref C))) ⟨h,g,d,t,os⟩) :
  wpAny (model prog w) A (Builtin.«object.__getattribute__» ⟨[.ref a,.str "__class__" tk],[]⟩) Q E ⟨h,g,d,t,os⟩:=by
 have k5:(⟨h,g,d,t,os⟩:Shared).TypeIs (.builtin "object.__class__") "getset_descriptor":=NE;have f5:=NE;have f6:=F.slot_gs_get.lookup;have f7:=F.slot_gs_set.lookup;have lc:=GS (M:=model prog w) X Z.cl
 repeat (any_goals (first|assumption|(with_reducible refine GA hx ?_;rw [hc])|(with_reducible refine lc.at ?_)|wp_step))
 refine Zqp X Z hx hc ?_
 repeat (any_goals (first|assumption|wp_step))
theorem Zlf {nameV:Value} {Q:Unit->Shared->Prop} (X:K.In h) (Z:ExcK K C) (hx:h.get? a=some ob) (hc:ob.cls=.ref C) (hq:Q () ⟨h,g,d,t,os⟩) :
  wpAny M A (checkBuiltinCall "BaseException.__getattribute__" ⟨[.ref a,nameV],[]⟩) Q E ⟨h,g,d,t,os⟩:=by
 have kd:builtinKind "BaseException.__getattribute__"=some .slot:=by trivial
 have sp:splitId "BaseException.__getattribute__"=some ("BaseException","__getattribute__"):=by trivial
 have mb:=W.looks_mroIn (M:=M) X Z.mb;have ar:=F.args_bexc_ga (.ref a) nameV;simp only [checkBuiltinCall,kd,sp];refine Qc ?_;unfold isInstance
 repeat (first|(with_reducible refine GA hx ?_;rw [hc])|(with_reducible refine mb.at ?_)|wp_step)
 exact hq
theorem ZlN (X:K.In h) (Z:ExcK K C) (hx:h.get? a=some ob) (hc:ob.cls=.ref C) (hq:R (.ok (.ret (.ref C))) ⟨h,g,d,t,os⟩) :
  codeAny (model prog w) A (.call (.builtin "BaseException.__getattribute__") ⟨[.ref a,.str "__class__" tk],[]⟩) R ⟨h,g,d,t,os⟩ :=
 codeAny_call_builtin (F.excAttr_ValueError).ga.plain F.entry_bexc_ga (Zlf X Z hx hc (ZoQ X Z hx hc hq))
theorem ZpE {fill expr:Bool} {Q:Value->Shared->Prop} (X:K.In h) (Z:ExcK K C) (hx:h.get? a=some ob) (hc:ob.cls=.ref C) (hq:Q (.ref C) ⟨h,g,d,t,os⟩) :
  wpAny (model prog w) A (getAttrBy (.ref a) (.str "__class__" tk) fill expr) Q E ⟨h,g,d,t,os⟩:=by
 have f3:=(F.excAttr_ValueError).ga.bind (.ref a);have y0:(expr&&onTheHeap (Value.builtin "BaseException.__getattribute__"))=false:=by cases expr<;>rfl
 have y2:(Value.builtin "BaseException.__getattribute__"==Value.builtin "object.__getattribute__")=false:=by trivial
 have y1:(onTheHeap (Value.ref C)&&Value.builtin "BaseException.__getattribute__"==Value.builtin "object.__getattribute__")=false:=by rw [y2];rfl
 have lg:=GS (M:=model prog w) X Z.ga;have lt:=GS (M:=model prog w) X Z.gt
 repeat (any_goals (first|assumption|(with_reducible refine GA hx ?_;rw [hc])|(with_reducible refine lg.at ?_)|(with_reducible refine lt.at ?_)|wp_step))
 refine ZlN X Z hx hc ?_
 repeat (any_goals (first|assumption|wp_step))
theorem ZjD (X:K.In h) (Z:ExcK K C) (hx:h.get? a=some ob) (hc:ob.cls=.ref C) (hq:Q (some (.ref C)) ⟨h,g,d,t+1,os⟩) :
  wpAny (model prog w) A (getAttr? (.ref a) "__class__") Q E ⟨h,g,d,t,os⟩:=by
 unfold getAttr? getAttrBy?
 repeat (any_goals (first|assumption|with_reducible apply ZpE X Z hx hc|wp_step))
end
section
variable {K:W.Frag}
theorem Zlt (Z:ExcK K C):W.KitX K (.ref a) (.ref C) (ZeY (.ref C) a) where
 ty:=fun M h X p=>by
  obtain ⟨o,vs,h1,h2,_⟩:=p;exact h2▸(W.Looks.ld h1).andThen .now
 it:=fun M h X p=>by
  obtain ⟨cd,hc,_⟩:=NZ.mp Z.mo;unfold W.clsIn at hc;split at hc
  ·rename_i ho;intro A' Q' E' s' k q;unfold isType loadHead;exact Qc (wpAny_loadPart (k _ _ (X _ _ ho)) (Qf q))
  ·cases hc
 ne:=fun h tp dd its n sl X htp=>by
  obtain ⟨cd,hc,_⟩:=NZ.mp Z.mo;refine QO.mpr fun q=>?_;have e:C=tp:=Value.ref.inj (Rs.mp q);subst e;unfold W.clsIn at hc;split at hc
  ·rename_i ho;have z:=(X _ _ ho).symm.trans htp;cases z
  ·cases hc
 ca:=fun {prog w A E Q s} X p k=>by
  obtain ⟨h,g,d,t,os⟩:=s;obtain ⟨o,vs,h1,h2,_⟩:=p;exact ZjD X Z h1 h2 k
end
inductive Kd (K:W.Frag) (H:Hp):V->Value->Prop where
 |of {x:V} {t:Value} (e:TyOf K H x t):Kd K H x t
 |exc {a C:Addr} (Z:ExcK K C) (e:H a=some (ZgI (.ref C) a)):Kd K H (.ref a) (.ref C)
 |sqt {a:Addr} {xs:List V} (e:SqT K H a xs):Kd K H (.ref a) (.type "tuple")
 |sql {a:Addr} {xs:List V} (e:SqL K H a xs):Kd K H (.ref a) (.type "list")
noncomputable def isC:V->Bool
 |.ref _=>true
 |.ty _=>true
 |_=>false
noncomputable def Zd4:V->Value
 |.ref a=>.ref a
 |.ty n=>.type n
 |_=>.none
theorem Zl5:YN X (.builtin "isinstance") (fun xs H Q=>∃x c t b,xs=[x,c]∧isC c=true∧Kd X.K H x t∧W.kitOne X.K t (Zd4 c)=some b∧Q (.bl b) H):=by
 intro pins s σ H xs us Q I r h;obtain ⟨x,c,t,b,rfl,ic,ty,e,q⟩:=h;obtain ⟨u,v,rfl,rx,rc⟩:=Uk r
 have ec:Zd4 c=v:=by
  cases c with
  |ref a=>exact Eq.symm rc
  |ty n=>exact Eq.symm rc
  |_=>cases ic
 rw [ec] at e;have fin:∀tk,EP X pins σ Q (.bool b) { s with toks:=tk }:=fun tk=>⟨.bl b,H,I.tok tk,rfl,q⟩;cases ty with
 |of ty=>exact ZnN I rx ty e fin
 |@exc a C Z ea =>
  cases (show u=Value.ref a from rx);obtain ⟨p,_,_⟩:=(show ObjOk X.prog X.w H s.heap a (ZgI (.ref C) a) from I.hok a _ ea);exact QX (Zlt Z) I.kIn p e (fun z=>nomatch z) fin
 |@sqt a ys ea =>
  cases (show u=Value.ref a from rx);rcases ea with ea|⟨o,its,n,h1,h2,_⟩
  ·obtain ⟨_,_,_,p⟩:=(show ObjOk X.prog X.w H s.heap a (.tup ys) from ea.ok I.hok);obtain ⟨o,h1,h2,_⟩:=p;exact QX W.kitx_tuple I.kIn ⟨o,h1,h2⟩ e (fun z=>nomatch z) fin
  ·exact QX W.kitx_tuple I.kIn ⟨o,I.kIn _ _ h1,h2⟩ e (fun z=>nomatch z) fin
 |@sql a ys ea =>
  cases (show u=Value.ref a from rx);rcases ea with ea|⟨o,its,n,h1,h2,_⟩
  ·obtain ⟨_,_,n,_,h1⟩:=(show ObjOk X.prog X.w H s.heap a (.lst ys) from ea.ok I.hok);exact QX GT I.kIn ⟨_,h1,rfl⟩ e (fun z=>nomatch z) fin
  ·exact QX GT I.kIn ⟨o,I.kIn _ _ h1,h2⟩ e (fun z=>nomatch z) fin
def Zjb (i j:Int):Prop:=i.natAbs<2 ^ 1000∧j.natAbs<2 ^ 1000
theorem Zhs {x:Int} (h:x.natAbs<2 ^ 1000):Builtin.Int.intBits x≤2 ^ 20:=by
 unfold Builtin.Int.intBits;split
 ·exact QL _
 ·rename_i z
  have n:x.natAbs≠0:=by
   intro q;exact z (by rw [Int.natAbs_eq_zero.mp q];rfl)
  have:=(Nat.log2_lt n).mpr h;omega
theorem Zhq:Yl X (binaryOp .Mult) (rI Zjb fun i j=>.int (i*j)):=Jr fun _ _ _ _ _ _ _ hc q=>mul_int q (.of_bits (Zhs hc.1) (Zhs hc.2))
theorem Wm:Yl X (binaryOp .FloorDiv) (rI (fun _ j=>j≠0∧j.natAbs<2 ^ 1000) fun i j=>.int (i.fdiv j)):=Jr fun i j _ _ _ _ _ hc q =>
 floordiv_int hc.1 q (.inl (PyProof.noPylong_of_log2 (by
  have n:j.natAbs≠0:=fun z=>hc.1 (Int.natAbs_eq_zero.mp z);have:=(Nat.log2_lt n).mpr hc.2;omega)))
theorem Fun.okX {K:W.Frag} {mg:Str->Option Value} {base:Heap} {x qual:Str} {st:Stmt} {fd:FuncData} {ps:List Str} {k:Nat} {sp:Sp} (F:Fun K x qual st f fd) (S:FnScope N ps (Zx st))
 (len:∀vs H Q E,sp vs H Q E->vs.length=ps.length)
 (hbody:∀(cdv:Value) (A:Around) (outer:List Env) (s:Shared) (H:Hp) (vs:List V) (Q:VK) (E:XK),Room k (A.deeper (envOfC qual (Zx st) s.heap.objs.size f cdv))->sp vs H Q E →
 ∃t,PSs (W2 CX P w K mg base N qual (Zx st) f cdv A outer s H E) (XB st) t∧t { nx:=fun _ H'=>Q .non H',rt:=Q } (start N vs) H):FnOk P w K mg base CX (k+1) f fd ps sp:=by
 obtain ⟨oc,od,kV,doc,pm,an,cdv,ct,osl,rfl,lk,hcd⟩:=F.ex;exact ZgH lk hcd S len fun A outer s H vs Q E hr hsp=>hbody cdv A outer s H vs Q E hr hsp
theorem ZdY:bootBuiltins "int"=some (.type "int"):=by trivial
theorem Zqj:bootBuiltins "bool"=some (.type "bool"):=by trivial
theorem W6:bootBuiltins "str"=some (.type "str"):=by trivial
theorem JG:bootBuiltins "list"=some (.type "list"):=by trivial
theorem Zid:bootBuiltins "tuple"=some (.type "tuple"):=by trivial
theorem Zhn:bootBuiltins "dict"=some (.type "dict"):=by trivial
theorem Ye:bootBuiltins "len"=some (.builtin "len"):=by trivial
theorem Zi4:bootBuiltins "abs"=some (.builtin "abs"):=by trivial
theorem Jo:bootBuiltins "max"=some (.builtin "max"):=by trivial
theorem JW:bootBuiltins "min"=some (.builtin "min"):=by trivial
theorem ZoU:bootBuiltins "isinstance"=some (.builtin "isinstance"):=by trivial
abbrev Xv:List Value:=[.type "ValueError",.type "Exception",.type "BaseException",.type "object"]
theorem EB:ExcBaseFacts "ValueError" "ValueError.__new__" "ValueError.__init__" Xv:=PySem.F.excBase_ValueError
theorem Zk {p:Addr} (n:H p=none):Same H (Zb H p o):=fun b u e=>by
 rw [Zg (ZV e n)];exact e
theorem Same.rd (e:Same H H') {u:HO} (r:Rd H a u):Rd H' a u:=by
 rcases r with r|⟨o,r⟩
 ·exact .inl (e _ _ r)
 ·exact .inr ⟨o,e _ _ r⟩
theorem Same.sqt {K:W.Frag} (e:Same H H') (h:SqT K H a xs):SqT K H' a xs:=by
 rcases h with h|h
 ·exact .inl (e.rd h)
 ·exact .inr h
theorem Same.sql {K:W.Frag} (e:Same H H') (h:SqL K H a xs):SqL K H' a xs:=by
 rcases h with h|h
 ·exact .inl (e.rd h)
 ·exact .inr h
theorem Same.ty {K:W.Frag} {x:V} {t:Value} (e:Same H H') (h:TyOf K H x t):TyOf K H' x t:=by
 cases h with
 |non=>exact .non
 |bl b=>exact .bl b
 |int i=>exact .int i
 |str y=>exact .str y
 |flt y=>exact .flt y
 |lst q=>exact .lst (e _ _ q)
 |frz q=>exact .frz (e _ _ q)
 |tup q=>exact .tup (e _ _ q)
 |dK q=>exact .dK (e _ _ q)
 |dT q=>exact .dT (e _ _ q)
 |ins q c a n tk m=>exact .ins (e _ _ q) c a n tk m
theorem Same.kd {K:W.Frag} {x:V} {t:Value} (e:Same H H') (h:Kd K H x t):Kd K H' x t:=by
 cases h with
 |of q=>exact .of (e.ty q)
 |exc Z q=>exact .exc Z (e _ _ q)
 |sqt q=>exact .sqt (e.sqt q)
 |sql q=>exact .sql (e.sql q)
def Zqw (K:W.Frag) (t:TA):TE:=fun σ H Q=>t σ H fun xs H1=>∃x c ty b,xs=[x,c]∧isC c=true∧Kd K H1 x ty∧W.kitOne K ty (Zd4 c)=some b∧Q (.bl b) H1
theorem Xo (K:W.Frag) {e:Expr} {t:TA} (hg:Gl X "isinstance") (hm:X.mg "isinstance"=none) (ha:PA X (e::es) t) (hK:X.K=K:=by rfl)
 (he:starEach (e::es) X.env=(false,eval e X.env)::starEach es X.env:=by rfl) (hpl:(backTo pos (starEach es X.env)).any (·.1)=false:=by rfl):PE X (.Call (.Name "isinstance" p) (e::es) [] pos) (Zqw K t):=by
 subst hK;exact ZQ (Zl5 (X:=X)) hg hm ZoU ha (by decide) (by decide) he hpl
section
variable {K:W.Frag}
end
section
variable {σ:St}
end
section
variable {σ:St}
end
theorem Zka {elt target iter:Expr} {ifs:List Expr} {scope:Scope} {it acc:Value} {env:Env} (J:Nat->Shared->Prop)
 (turn:∀n s,J n s->wpAny (model prog w) A (pyNext it) (fun r s1=>match r with
 |none=>R (.ok .next) s1
 |some v => wpAny (model prog w) A (letOwnedTupleGo target it v) (fun _ s2 => wpAny (model prog w) A (assign target env v) (fun _ s3 =>
 wpAny (model prog w) A (forIn ifs true fun c r=>if r=true then do let ok ←isTrue c env (eval c env);pure (ForInStep.yield ok) else pure (ForInStep.yield r)) (fun ok s4 =>
 if ok=true then wpAny (model prog w) A (eval elt env) (fun x s5=>wpAny (model prog w) A (call (.builtin "list.append") [acc,x]) (fun _ s6=>∃m,m<n∧J m s6) (fun _ _=>False) s5) (fun _ _=>False) s4
 else ∃m,m<n∧J m s4) (fun _ _=>False) s3) (fun _ _=>False) s2) (fun _ _=>False) s1) (fun _ _=>False) s)
 (n:Nat) (h:J n s):codeAny (model prog w) A (.compLoop (.ListComp elt [⟨target,iter,ifs,0⟩] scope pos) 0 it acc env) R s:=by
 refine codeAny_loop rfl J (fun n s hJ=>?_) n h;show wpAny _ A ((compTurn (.ListComp elt [⟨target,iter,ifs,0⟩] scope pos) 0 it acc env).onRaise (fun x=>do noteFrame x env;theTreesLotGoes x)) _ _ s;refine wpAny_noted ?_;rw [compTurn_list];refine Qc (wpAny_standAt (Qc (Ra (turn n s hJ) (fun r s1 h1=>?_) fun _ _ z=>z.elim)));cases r with
 |none=>exact Qf h1
 |some v =>
  refine Qc (Ra h1 (fun _ s2 h2=>Qc (Ra h2 (fun _ s3 h3=>Qc (Ra h3 (fun ok s4 h4=>?_) fun _ _ z=>z.elim)) fun _ _ z=>z.elim)) fun _ _ z=>z.elim);cases ok with
  |false=>exact Qf ⟨rfl,h4⟩
  |true=>exact Qc (Qc (Ra h4 (fun x s5 h5=>Qc (Ra h5 (fun _ s6 h6=>Qf (Qf ⟨rfl,h6⟩)) fun _ _ z=>z.elim)) fun _ _ z=>z.elim))
def JZ (X:Cx) (ifs:List Expr) (t:TT):Prop :=
 ∀(pins:List (Addr×Obj)) (s:Shared) (σ:St) (H:Hp) (Q:Bool->Hp->Prop),Inv X pins σ H s->t σ H Q →
  wpAny (model X.prog X.w) X.A (forIn ifs true fun c r=>if r=true then do let ok ←isTrue c X.env (eval c X.env);pure (ForInStep.yield ok) else pure (ForInStep.yield r)) (TP X pins σ Q) X.xe s
def Zei:TT:=fun _ H Q=>Q true H
theorem W3:JZ X [] Zei:=fun _ _ _ H _ I h=>wpAny_tests_nil ⟨H,I,h⟩
theorem WC {c:Expr} {t:TT} (h:PT X c t):JZ X [c] t:=fun pins s σ H Q I q=>wpAny_tests_one (h pins s σ H Q I q)
noncomputable abbrev Cx.block (X:Cx) (N:List Str) (sc:Scope) (cl:List (Str×Addr)) (fp:List Addr) (s3:Shared) (H3:Hp):Cx :=
 { X with N:=N,s₀:=s3,H₀:=H3,env:=compEnvC sc cl s3.heap.objs.size X.env,outer:=X.stack,ex:=fp,fn:=fun _=>false,pn:=[],xe:=fun _ _=>False }
structure CompSc (X:Cx) (N:List Str) (sc:Scope) (cl:List (Str×Addr)) (σc:St->St):Prop where
 kind:sc.kind=.function
 names:∀x∈sc.names,x.2=.local->sc.names.lookup x.1=some .local
 nocell:∀y∈sc.names,y.2≠.cell
 clos:closureFor sc X.env=pure cl
 sub:∀x c,cl.lookup x=some c->X.env.cells.lookup x=some c
 has:∀x,((relabel sc X.env).names.lookup x=some .cell∨(relabel sc X.env).names.lookup x=some .free)->∃c,cl.lookup x=some c
 len:∀σ:St,(σc σ).length=N.length
 cap:∀(σ:St) (i:Nat) (x:Str) (v:V),N[i]?=some x->(σc σ)[i]?=some (some v)->((relabel sc X.env).names.lookup x=some .cell∨(relabel sc X.env).names.lookup x=some .free)∧(X.env.scope.names.lookup x=some .cell∨X.env.scope.names.lookup x=some .free)∧∃j:Nat,X.N[j]?=some x∧σ[j]?=some (some v)
def Jd (J:It) (σ0:St) (g:TG) (tt:TT) (te:TE) (Q:VK) (H1:Hp):Prop:=∀D,H1 D=none →
 ∃W:Nat->Nat->St->List V->Hp->Prop,(∃m,W 0 m σ0 [] (Zb H1 D (.lst [])))∧∀i m σ1 ys H2,W i m σ1 ys H2->H2 D=some (.lst ys) ∧
  ((J.stop i H2∧Q (.ref D) H2)∨(J.go i H2∧∃N:St->List V->Hp->Prop,(∀σ2 ys2 H3,N σ2 ys2 H3->∃m',m'<m∧W (i+1) m' σ2 ys2 H3) ∧
   ∀x H3,J.yld i H2 x H3->g x σ1 H3 fun σ2 H4=>tt σ2 H4 fun c H5=>if c=true then te σ2 H5 fun y H6=>H6 D=some (.lst ys)∧ys.length<sizeLine∧N σ2 (ys++[y]) (Zb H6 D (.lst (ys++[y]))) else N σ2 ys H5))
def ZeZ (wi:TI) (σc:St->St) (g:TG) (tt:TT) (te:TE):TE:=fun σ H Q=>wi σ H fun J H1=>Jd J (σc σ) g tt te Q H1
section
variable {σ:St} {cl:List (Str×Addr)} {σc:St->St}
theorem Inv.block (I:Inv X pins σ H s) (S:CompSc X N sc cl σc) (hf:∀b∈fp,X4 X pins H b) (hlt:∀b∈fp,b<s.heap.objs.size) (k:∀b u,s.heap.get? b=some u->h'.get? b=some u) (hn:h'.Ns s.heap.objs.size fun _=>none) :
  Inv (X.block N sc cl fp s H) [] (σc σ) H { s with heap:=h',toks:=t' }:=by
 have kin:∀x,(X.block N sc cl fp s H).env.kindOf x=(relabel sc X.env).names.lookup x:=fun _=>rfl
 refine ⟨⟨I.ok.mod,S.kind,I.ok.glob,I.ok.blt,Qe _,fun x y c h1 h2=>I.ok.inj x y c (S.sub x c h1) (S.sub y c h2),fun x hx=>S.has x hx,fun x c z _=>(nomatch z),I.ok.hd,I.ok.frames,.inl rfl,fun b hb=>⟨QA (hlt b hb),fun x c e=>(hf b hb).2.2.2.2.1 x c (S.sub x c e)⟩,
  I.bs,Qi I.ok.bsz I.sz,fun b o e hb=>?_,fun b hb z=>?_,I.stack,I.stkFree⟩,
  rfl,I.bare,Un.kept k,⟨_,hn,fun i x v e1 e2 e3=>?_⟩,fun x c e=>?_,I.hok.fresh (Qe _),fun x c e=>I.freeC x c (S.sub x c e),fun p hp=>absurd (show p∈([]:List (Addr×Obj)) from hp) (by simp),I.hok.kept k,S.len σ⟩
 ·rcases (hf b hb).2.2.2.1 with z|z
  ·exact I.ok.noex b o e z
  ·exact absurd (QK (Qn e) (Qi I.ok.bsz z)) (Rm _)
 ·rcases Qh.mp (I.stkSub b z) with y|y
  ·exact (hf b hb).2.1 y
  ·exact (hf b hb).2.2.1 y
 ·obtain ⟨hk,hko,j,hj,hσ⟩:=S.cap σ i x v e1 e2;obtain ⟨m,hm,hl⟩:=I.loc;obtain ⟨u,r,l⟩:=hl j x v hj hσ (by rcases hko with z|z;exact .inr (.inl z);exact .inr (.inr z));refine ⟨u,r,.inr ⟨hk,?_⟩⟩;rcases l with ⟨q,_⟩|⟨_,c,hc,q⟩
  ·have q':X.env.scope.names.lookup x=some .local:=q;rcases hko with z|z<;>(rw [z] at q';cases q')
  ·obtain ⟨c',hc'⟩:=S.has x hk;have e:=S.sub x c' hc';rw [hc] at e;cases e;exact ⟨c,hc',q.keeps k⟩
 ·obtain ⟨v,q⟩:=I.cell x c (S.sub x c e);exact ⟨v,q.keeps k⟩
end
section
variable {elt iter:Expr} {ifs:List Expr} {cl:List (Str×Addr)} {σc:St->St} {wi:TI} {g:TG} {tt:TT}
structure Gone (X:Cx) (pins:List (Addr×Obj)) (H:Hp) (C:Addr):Prop where
 free:H C=none
 loc:C≠X.env.locals
 new:X.s₀.heap.objs.size≤C
 cell:∀x c,X.env.cells.lookup x=some c->c≠C
 pin:∀p∈X.pn++pins,p.1≠C
theorem Inv.gone {σ:St} (I:Inv X pins σ H s) (G:Gone X pins H C) (sb:Heap.SameBut C s.heap h'):Inv X pins σ H { s with heap:=h' } :=
 I.turned (t':=s.toks) (it:=C) (fun b o n q=>(sb.2 b n).trans q) G.free G.loc (.inr G.new) G.cell G.pin
theorem Zha {s2:Shared} {σ:St} {H2:Hp} {Q:VK} {RR:Value->Addr->Result->Shared->Prop} {tn:Nat->Heap->Prop} 
 (hc:X.calm=true) (S:CompSc X N sc cl σc) (hg:∀fp s3 H3,PG (X.block N sc cl fp s3 H3) tg g) (ht:∀fp s3 H3,JZ (X.block N sc cl fp s3 H3) ifs tt) (he:∀fp s3 H3,PE (X.block N sc cl fp s3 H3) elt te)
 (I2:Inv X pins σ H2 s2) (T:Turn X.prog X.w X.K tg J fp it tn) (st2:tn 0 s2.heap) (f2:∀b∈fp,X4 X pins H2 b)
 (h2:∀D,H2 D=none->∃W:Nat->Nat->St->List V->Hp->Prop,(∃m,W 0 m (σc σ) [] (Zb H2 D (.lst [])))∧∀i m σ1 ys H2,W i m σ1 ys H2->H2 D=some (.lst ys) ∧
 ((J.stop i H2∧Q (.ref D) H2)∨(J.go i H2∧∃N:St->List V->Hp->Prop,(∀σ2 ys2 H3,N σ2 ys2 H3->∃m',m'<m∧W (i+1) m' σ2 ys2 H3) ∧
 ∀x H3,J.yld i H2 x H3->g x σ1 H3 fun σ2 H4=>tt σ2 H4 fun c H5=>if c=true then te σ2 H5 fun y H6=>H6 D=some (.lst ys)∧ys.length<sizeLine∧N σ2 (ys++[y]) (Zb H6 D (.lst (ys++[y]))) else N σ2 ys H5)))
 (hRR:∀D C m s7 H7,Inv X pins σ H7 s7->s7.heap.Ns C m->Gone X pins H7 C->Q (.ref D) H7->RR (.ref D) C (.ok .next) s7) :
  wpAny (model X.prog X.w) X.A (newList []) (fun acc s₃=>wpAny (model X.prog X.w) X.A (newFunctionEnv sc X.env.globals cl [] X.env.qual none .none (some X.env)) (fun cenv s₄ =>
   codeAny (model X.prog X.w) X.A (.compStart (.ListComp elt [⟨tg,iter,ifs,0⟩] sc pos) 0 (.ref it) acc { cenv with scope:=relabel sc X.env }) (RR acc cenv.locals) s₄) E s₃) E s2:=by
 refine Rc ?_;have hD:H2 s2.heap.objs.size=none:=I2.hok.fresh (Qe _)
 have I3:Inv X pins σ (Zb H2 s2.heap.objs.size (.lst [])) { s2 with heap:=s2.heap.push { cls:=.type "list",dict:=none,data:=.seq ([]:List Value).toArray } } :=
  I2.laid (t':=s2.toks) (fun b u q=>Qo _ q) (Qe _) ⟨by decide,[],0,.nil,Qu _ rfl⟩
 have flt:∀b∈fp,b<s2.heap.objs.size:=fun b hb=>by
  obtain ⟨o,e,_⟩:=T.obj _ _ st2 b hb;exact Qn e
 obtain ⟨W,⟨m0,w0⟩,turn⟩:=h2 s2.heap.objs.size hD;have f3:∀b∈fp,X4 X pins (Zb H2 s2.heap.objs.size (.lst [])) b:=fun b hb=>⟨by rw [Zg (QA (flt b hb))];exact (f2 b hb).1,(f2 b hb).2⟩;have st3:tn 0 (s2.heap.push { cls:=.type "list",dict:=none,data:=.seq ([]:List Value).toArray }):=T.keep _ _ _ st2 fun b _ o q=>Qo _ q;have sz3:s2.heap.objs.size≤(s2.heap.push { cls:=.type "list",dict:=none,data:=.seq ([]:List Value).toArray }).objs.size:=by rw [Rh];exact QW _
 generalize s2.heap.push { cls:=.type "list",dict:=none,data:=.seq ([]:List Value).toArray }=h3 at *;generalize s2.heap.objs.size=D at *;refine wpAny_newFunctionEnv S.nocell (by intro y hy;simp at hy) (fun h4 hn4 hb4=>?_) S.kind;dsimp only at hn4 hb4 ⊢;have k4:∀b u,h3.get? b=some u->h4.get? b=some u:=fun b u q=>(hb4.2 b (QA (Qn q))).trans (Qo _ q)
 have I4:Inv (X.block N sc cl fp { s2 with heap:=h3 } (Zb H2 D (.lst []))) [] (σc σ) (Zb H2 D (.lst [])) { s2 with heap:=h4,toks:=s2.toks+0 } :=
  I3.block S f3 (fun b hb=>QK (flt b hb) sz3) k4 hn4
 have st4:tn 0 h4:=T.keep _ _ _ st3 fun b _ o q=>k4 b o q
 have fb:∀{H':Hp},(∀b∈fp,H' b=none)->∀b∈fp,X4 (X.block N sc cl fp { s2 with heap:=h3 } (Zb H2 D (.lst []))) [] H' b:=fun hn b hb =>
  ⟨hn b hb,(I4.ok.exf b hb).1,I4.ok.exfs b hb,.inl hb,(I4.ok.exf b hb).2,fun p hp=>absurd (show p∈([]:List (Addr×Obj)) from hp) (by simp)⟩
 have fin:∀{σ':St} {H':Hp} {s':Shared} {h':Heap},Inv (X.block N sc cl fp { s2 with heap:=h3 } (Zb H2 D (.lst []))) [] σ' H' s'->Heap.SameBut h3.objs.size s'.heap h'->Inv X pins σ H' { s' with heap:=h' }:=fun {σ' H' s' h'} J' sb=>by
  have lt3:∀b o,h3.get? b=some o->b≠h3.objs.size:=fun b o q=>QA (Qn q);have lo:H' h3.objs.size=none:=J'.free
  have hk:HOk X.prog X.w H' h':=fun b u e=>(J'.hok b u e).stay (fun c v hcc q=>(sb.2 c (by
   rintro rfl;rcases hcc with z|z
   ·subst z;rw [lo] at e;cases e
   ·rw [lo] at z;cases z)).trans q) (fun _ q=>q) fun _ _ q=>q
  refine I3.call' (s':={ s' with heap:=h' }) (ch:=fp) J'.os ⟨fun b o q n hb hx=>(sb.2 b (lt3 b o q)).trans (J'.base.keep b o q n hb hx),fun b o q n hb hx=>?_,fun b o q n hx=>J'.base.free b o q n hx,fun b o q hx=>?_,J'.base.tups,J'.base.frzs,J'.base.tbls⟩ hk J'.bare fun b hb=>?_
  ·obtain ⟨sl,q1⟩:=J'.base.slot b o q n hb hx;exact ⟨sl,(sb.2 b (lt3 b o q)).trans q1⟩
  ·obtain ⟨o1,q1⟩:=J'.base.there b o q hx;exact ⟨o1,(sb.2 b (lt3 b o q)).trans q1⟩
  ·exact ⟨(f3 b hb).2.2.2.1,(f3 b hb).2.1,(f3 b hb).2.2.2.2.1,(f3 b hb).2.2.2.2.2⟩
 have loop : ∀s5 : Shared, Inv (X.block N sc cl fp { s2 with heap := h3 } (Zb H2 D (.lst []))) [] (σc σ) (Zb H2 D (.lst [])) s5 → tn 0 s5.heap →
   codeAny (model X.prog X.w) X.A (.compLoop (.ListComp elt [⟨tg,iter,ifs,0⟩] sc pos) 0 (.ref it) (.ref D) (compEnvC sc cl h3.objs.size X.env)) (RR (.ref D) h3.objs.size) s5:=fun s5 I5 st5=>by
  refine Zka (fun n s'=>∃i σ' ys H',Inv (X.block N sc cl fp { s2 with heap:=h3 } (Zb H2 D (.lst []))) [] σ' H' s'∧tn i s'.heap∧(∀b∈fp,H' b=none)∧W i n σ' ys H') ?_ m0 ⟨0,_,[],_,I5,st5,fun b hb=>(f3 b hb).1,w0⟩;rintro n s6 ⟨i,σ6,ys,H6,I6,st6,fr6,w6⟩;obtain ⟨hDy,step⟩:=turn i n σ6 ys H6 w6;rcases step with ⟨stop,q6⟩|⟨go,Nx,hN,step⟩
  ·refine Zq (T.done (X.block N sc cl fp { s2 with heap:=h3 } (Zb H2 D (.lst []))) rfl rfl rfl hc i [] s6 σ6 H6 (fun _ _=>False) I6 (fb fr6) st6 stop) fun r s7 ⟨hr,I7⟩=>?_;subst hr;obtain ⟨m7,hm7,_⟩:=I7.loc;refine hRR D h3.objs.size m7 s7 H6 (fin I7 ⟨rfl,fun _ _=>rfl⟩) hm7 ⟨I7.free,RD I3.lt,I3.sz,fun x c e=>?_,fun p hp=>?_⟩ q6
   ·obtain ⟨v,z⟩:=I3.cell x c e;exact QA z.lt
   ·exact QA (Qn (I3.pin p hp).1)
  ·refine Zq (T.item (X.block N sc cl fp { s2 with heap:=h3 } (Zb H2 D (.lst []))) rfl rfl rfl hc i [] s6 σ6 H6 (fun _ _=>False) I6 (fb fr6) st6 go) fun r s7 ⟨u,hr,h7⟩=>?_;subst hr;refine Zq h7 fun _ s8 ⟨x,H8,I8,r8,y8,st8,fr8⟩=>?_;have I8':=I8.pinned (fb fr8) (T.obj _ _ st8);refine Zq (hg _ _ _ _ s8 σ6 H8 x u _ I8' r8 (step x H8 y8)) fun _ s9 ⟨σ9,H9,I9,q9⟩=>?_;refine Zq (ht _ _ _ _ s9 σ9 H9 _ I9 q9) fun c sA ⟨HA,IA,qA⟩=>?_
   have again : ∀{σB : St} {HB : Hp} {sB : Shared} {zs : List V}, Inv (X.block N sc cl fp { s2 with heap := h3 } (Zb H2 D (.lst []))) ([] ++ JY fp s8.heap) σB HB sB → Nx σB zs HB →
     ∃m,m<n∧∃i σ' ys H',Inv (X.block N sc cl fp { s2 with heap:=h3 } (Zb H2 D (.lst []))) [] σ' H' sB∧tn i sB.heap∧(∀b∈fp,H' b=none)∧W i m σ' ys H':=fun {σB HB sB zs} IB nB=>by
    obtain ⟨m',hm,wB⟩:=hN σB zs HB nB;refine ⟨m',hm,i+1,σB,zs,HB,IB.unpinned,T.keep _ _ _ st8 fun b hb o e=>(IB.pin (b,o) (Q5 _ (Q5 _ (Zba hb e)))).1,fun b hb=>?_,wB⟩;obtain ⟨o,e,d⟩:=T.obj _ _ st8 b hb;exact (IB.pin (b,o) (Q5 _ (Q5 _ (Zba hb e)))).2.1
   cases c with
   |false=>exact again IA qA
   |true =>
    refine Zq (he _ _ _ _ sA σ9 HA _ IA qA) fun y sB ⟨yv,HB,IB,rB,dB,lB,qB⟩=>?_;exact Zq (VB (X:=X.block N sc cl fp { s2 with heap:=h3 } (Zb H2 D (.lst []))) _ sB σ9 HB (.ref D) [yv] (.ref D) [y] (fun v H'=>v=.non∧Nx σ9 (ys++[yv]) H') IB rfl (.cons rB .nil) ⟨D,ys,yv,rfl,rfl,dB,lB,rfl,qB⟩) fun _ sC ⟨_,HC,IC,_,_,qC⟩=>again IC qC
 refine codeAny_compStart_list (loop _ I4 st4) ?_;exact T.self _ 0 _ _ _ st4 (loop _ I4 st4)
theorem XV (hc:X.calm=true) (S:CompSc X N sc cl σc) (hi:PI X tg iter wi) (hg:∀fp s3 H3,PG (X.block N sc cl fp s3 H3) tg g) (ht:∀fp s3 H3,JZ (X.block N sc cl fp s3 H3) ifs tt) (he:∀fp s3 H3,PE (X.block N sc cl fp s3 H3) elt te)
 (hs:∀x,foldedSetIterable iter X.env x=pure x:=by intro _;rfl):PE X (.ListComp elt [⟨tg,iter,ifs,0⟩] sc pos) (ZeZ wi σc g tt te):=by
 intro pins s σ H Q I h;rw [eval_ListComp];refine wpAny_comprehension_free rfl hs S.clos S.kind S.names (Zq (hi pins s σ H _ I h) fun v s1 h1=>Zq h1 fun itv s2 h2=>?_);obtain ⟨it,fp,tn,J,H2,e,I2,T,st2,f2,h2⟩:=h2;subst e;exact Zha (Q:=Q) hc S hg ht he I2 T st2 f2 h2 fun D C m s7 H7 I7 n7 G q=>⟨m,n7,fun h' sb=>⟨.ref D,H7,I7.gone G sb,rfl,q⟩⟩
theorem UI {x:Str} {pos' spos:Pos} (hc:X.calm=true) (hN:X.N.Nodup) (hi':X.N[i]?=some x) (hx:JL X.env.scope x) (S:CompSc X N sc cl σc) (hi:PI X tg iter wi)
 (hg:∀fp s3 H3,PG (X.block N sc cl fp s3 H3) tg g) (ht:∀fp s3 H3,JZ (X.block N sc cl fp s3 H3) ifs tt) (he:∀fp s3 H3,PE (X.block N sc cl fp s3 H3) elt te)
 (hs:∀x,foldedSetIterable iter X.env x=pure x:=by intro _;rfl) (hsw:swapsWith (.ListComp elt [⟨tg,iter,ifs,0⟩] sc pos) (some (.Name x pos')) spos.line X.env=pure true:=by rfl)
 (hf:X.fn x=true∨X.env.scope.names.lookup x=some .local:=by first|exact .inl rfl|exact .inr rfl|assumption) :
  PS X (.Assign [.Name x pos'] (.ListComp elt [⟨tg,iter,ifs,0⟩] sc pos) spos) (Zdo (ZeZ wi σc g tt te) (Z7 i)):=by
 intro pins s σ H D I h;rw [exec_Assign_Name_used _ _ _ _ hsw];refine Qc (wpAny_standAt (Qc ?_));show wpAny _ _ (comprehension (.ListComp elt [⟨tg,iter,ifs,0⟩] sc pos) sc X.env (firstIterPos [⟨tg,iter,ifs,0⟩] pos) (newList []) (firstAsync [⟨tg,iter,ifs,0⟩]) (firstIter [⟨tg,iter,ifs,0⟩] X.env) (some (assign (.Name x pos') X.env)) >>= fun _=>pure ()) _ _ s;refine Qc (Ra (Q:=fun _ s'=>SP X pins D .next s') ?_ (fun _ s' q=>Qf (Qf q)) fun _ _ z=>z);refine wpAny_comprehension_free rfl hs S.clos S.kind S.names (Zq (hi pins s σ H _ I h) fun v s1 h1=>Zq h1 fun itv s2 h2=>?_);obtain ⟨it,fp,tn,J,H2,e,I2,T,st2,f2,h2⟩:=h2;subst e;refine Zha (Q:=fun v H'=>D.nx (σ.set i (some v)) H') hc S hg ht he I2 T st2 f2 h2 fun d C m s7 H7 I7 n7 G q=>?_;show wpAny _ _ (assign (.Name x pos') X.env (.ref d)) _ _ s7;refine wpAny_assign_Name (Zgg (v:=.ref d) I7 hN hi' hx rfl (fun s8 I8 ch=>?_) hf);obtain ⟨a,sb,ha⟩:=ch
 have aC:C≠a:=by
  rcases ha with z|z
  ·rw [z];exact G.loc
  ·exact (G.cell x a z).symm
 exact ⟨m,n7.sameBut sb aC,fun h' sb'=>⟨_,H7,I8.gone G sb',q⟩⟩
end
noncomputable def Itw (n:Nat) (V1:Nat->V->Prop):It:=⟨fun i _=>i<n,fun i H x H'=>H'=H∧V1 i x,fun i _=>i=n⟩
theorem Ze8 {K:PySem.W.Frag} {Pv:Nat->Value->Prop} {V1:Nat->V->Prop} {st:Nat->Heap->Prop}
 (W:∀A:Around,A.handled=none->Walks P w A it [it] [it] n Pv st) (ob:∀i h,st i h->∃o,h.get? it=some o∧∀v,o.data≠.cell v) (val:∀i v,Pv i v->∃x,RelV x v∧V1 i x)
 (own:∀i v s (M:Model) (A:Around) (E:Value->Shared->Prop) (Q:Unit->Shared->Prop),Pv i v->Q () s->wpAny M A (letOwnedTupleGo tg (.ref it) v) Q E s)
 (self:∀(A:Around) (i:Nat) (s:Shared) (Q:Value->Shared->Prop) (E:Value->Shared->Prop),st i s.heap->Q (.ref it) s->wpAny (model P w) A (pyIter (.ref it)) Q E s):Turn P w K tg (Itw n V1) [it] it st where
 mem:=by simp
 obj:=fun i h hs b hb=>by
  have e:b=it:=by simpa using hb
  subst e;exact ob i h hs
 keep:=fun i h h' hs k=>(W {} rfl).frame i h h' hs k
 item:=fun X hP hw hK hc i pins s σ H E I hf hs go=>by
  subst hP hw hK;refine (W X.A (I.ok.hd hc)).item i s _ E go hs fun v h' tk pv hs' k=>⟨v,rfl,?_⟩;obtain ⟨x,rx,vx⟩:=val i v pv;obtain ⟨f0,f1,_,f3,f4,f5⟩:=hf it (by simp);have I':Inv X pins σ H { s with heap:=h',toks:=tk }:=I.turned (it:=it) (fun b o n q=>k b o (by simpa using n) q) f0 f1 f3 f4 f5;refine own i v _ _ _ _ _ pv ⟨x,H,I',rx,⟨rfl,vx⟩,hs',fun b hb=>?_⟩;have e:b=it:=by simpa using hb
  subst e;exact f0
 done:=fun X hP hw hK hc i pins s σ H E I hf hs stop=>by
  subst hP hw hK;have e:i=n:=stop;subst e;obtain ⟨f0,f1,_,f3,f4,f5⟩:=hf it (by simp);exact (W X.A (I.ok.hd hc)).done s _ E hs fun h' tk k=>⟨rfl,I.turned (it:=it) (fun b o n q=>k b o (by simpa using n) q) f0 f1 f3 f4 f5⟩
 self:=self
def Zpv (te:TE):TI:=fun σ H R=>te σ H fun x H1=>∃z,x=.str z∧R (Itw z.cps.size fun i y=>∃c,z.cps[i]?=some c∧y=.str ⟨#[c]⟩) H1
theorem Ze2 {z:Str} {t:Tok} {Q:Unit->Shared->Prop} (q:Q () s):wpAny M A (letOwnedTupleGo tg (.ref it) (.str z t)) Q E s:=by
 unfold letOwnedTupleGo;cases tg<;>exact Qf q
theorem ZqD {e:Expr} (he:PE X e te):PI X tg e (Zpv te):=by
 intro pins s σ H R I h;refine Zq (he pins s σ H _ I h) fun v s1 ⟨x,H1,I1,r1,z,e1,q⟩=>?_;subst e1;obtain ⟨t,rfl⟩:=r1;have fr:H1 s1.heap.objs.size=none:=I1.hok.fresh (Qe _);by_cases low:z.cps.all (·<128)=true
 ·refine wpAny_pyIter_ascii low ⟨s1.heap.objs.size,[s1.heap.objs.size],fun i h=>h.IsStrIter s1.heap.objs.size "str_ascii_iterator" z t i,_,H1,rfl,I1.kept (t':=s1.toks) fun b u q=>Qo _ q,
   Ze8 (fun A hA=>Walks.strAscii hA _ z t) (fun i h ⟨o,ho,_,hd⟩=>⟨o,ho,fun v q=>by rw [hd] at q;cases q⟩) (fun i v ⟨c,u,hc,hv⟩=>⟨.str ⟨#[c]⟩,⟨u,hv⟩,c,hc,rfl⟩) (fun i v s M A E Q ⟨c,u,_,hv⟩ hq=>by rw [hv];exact Ze2 hq) fun A i s Q E hs hq=>wpAny_pyIter_striter_ascii hs hq,
   ⟨_,Qu _ rfl,rfl,rfl⟩,fun b hb=>?_,q⟩
  have e:b=s1.heap.objs.size:=by simpa using hb
  subst e;exact I1.fpOk (Qe _) fr
 ·refine wpAny_pyIter_wide (QO.mpr low) ⟨s1.heap.objs.size,[s1.heap.objs.size],fun i h=>h.IsStrIter s1.heap.objs.size "str_iterator" z t i,_,H1,rfl,I1.kept (t':=s1.toks) fun b u q=>Qo _ q,
   Ze8 (fun A hA=>Walks.strWide hA _ z t) (fun i h ⟨o,ho,_,hd⟩=>⟨o,ho,fun v q=>by rw [hd] at q;cases q⟩) (fun i v ⟨c,u,hc,hv⟩=>⟨.str ⟨#[c]⟩,⟨u,hv⟩,c,hc,rfl⟩) (fun i v s M A E Q ⟨c,u,_,hv⟩ hq=>by rw [hv];exact Ze2 hq) fun A i s Q E hs hq=>wpAny_pyIter_striter_wide hs hq,
   ⟨_,Qu _ rfl,rfl,rfl⟩,fun b hb=>?_,q⟩
  have e:b=s1.heap.objs.size:=by simpa using hb
  subst e;exact I1.fpOk (Qe _) fr
theorem ZeH (hh:A.handled=none) (it t:Addr) (hne:t≠it) (us:Array Value) :
  Draws prog w A it [it,t] us.size (fun i v=>us[i]?=some v) (fun i h=>h.IsTupleIter it t i∧h.IsTuple t us) where
 live:=fun _ _ ⟨⟨o,e,_⟩,_⟩=>⟨o,e⟩
 frame:=fun _ _ _ ⟨⟨o,e,r⟩,⟨o',e',r'⟩⟩ k=>⟨⟨o,k it (by simp) o e,r⟩,⟨o',k t (by simp) o' e',r'⟩⟩
 item:=by
  intro i s Q E hi ⟨st,ht⟩ hQ;have e:us[i]?=some us[i]:=by simp [hi]
  obtain ⟨o,ho,c,d⟩:=id st;obtain ⟨ot,hot,_,n,dt⟩:=id ht;unfold Builtin.SmallTypes.nextOf;refine Qc (RG (name:=Str.ofString "__next__") st.typeIs GZ (Rp GZ st.typeIs F.entry_tuple_iterator_next ?_ (F.args_tuple_iterator_next_1 _)));unfold Builtin.«tuple_iterator.__next__»;refine Qc (m:=field (.ref it) 0) (QQ ho d (x:=.ref t) rfl ?_);rw [Qa (show ¬((Value.ref t==Value.none)=true) from QF)];refine Qc (m:=field (.ref it) 1) (QQ ho d (x:=.int i 0) rfl (Qc (m:=seqItems? (.ref t)) (RU hot dt ?_)));simp only [Gv,e];have sb:=Gd s.heap it (Obj.mapFields (·.setIfInBounds 1 (rawInt (i+1))));exact Qc (wpAny_setField ho d (by simp) (Qf ⟨_,rfl,Qf (hQ _ _ s.toks e ⟨⟨_,Heap.get?_update_self _ ho (Obj.isFreed_of_fields (Obj.data_mapFields d _)),(Obj.cls_mapFields ..).trans c,by rw [Obj.data_mapFields d];simp [rawInt]⟩,ht.extBut sb.extBut hne⟩ sb)⟩))
 done:=by
  intro s Q E ⟨st,ht⟩ hE;have e:us[us.size]?=none:=by simp
  obtain ⟨o,ho,c,d⟩:=id st;obtain ⟨ot,hot,_,n,dt⟩:=id ht;unfold Builtin.SmallTypes.nextOf;refine Qc (RG (name:=Str.ofString "__next__") st.typeIs GZ (Rp GZ st.typeIs F.entry_tuple_iterator_next ?_ (F.args_tuple_iterator_next_1 _)));unfold Builtin.«tuple_iterator.__next__»;refine Qc (m:=field (.ref it) 0) (QQ ho d (x:=.ref t) rfl ?_);rw [Qa (show ¬((Value.ref t==Value.none)=true) from QF)];refine Qc (m:=field (.ref it) 1) (QQ ho d (x:=.int us.size 0) rfl (Qc (m:=seqItems? (.ref t)) (RU hot dt ?_)));simp only [Gv,e];refine Qc (R5 (Qc (wpAny_setField ho d (by simp) ?_)));refine Qc (m:=newExc (.type "StopIteration") []) ?_;simp only [newExc,newTuple];refine Qc (Rc (Qc (m:=firstArgMember _ _) (wpAny_of_eq (a:=Value.none) (by first|rfl|(simp only [firstArgMember];rfl)) (Rc ?_ (by size_fits)))) (by size_fits));simp only [raiseNew];refine Qc (wpAny_handled ?_)
  first|rw [show A.in1.handled=none from hh]|rw [hh]
  exact Qc (Qf (wpAny_throw (hE _ _ (((Gd ..).extBut.push _).push _) ⟨_,Qu _ rfl,rfl⟩)))
structure ZAp (z TI TO i1 i2:Addr) (f1 f2:List Addr):Prop where
 TIz:TI≠z
 TOz:TO≠z
 i1z:i1≠z
 i2z:i2≠z
 TITO:TI≠TO
 TIi1:TI≠i1
 TIi2:TI≠i2
 TOi1:TO≠i1
 TOi2:TO≠i2
 i12:i1≠i2
 z1:z∉f1
 z2:z∉f2
 o1:TO∉f1
 o2:TO∉f2
 b1:i2∉f1
 b2:i1∉f2
section
variable {z TI TO i1 i2:Addr} {f1 f2:List Addr} {n1 n2 k1 k2:Nat} {P1 P2:Nat->Value->Prop} {S1 S2:Nat->Heap->Prop} {a b:Value}
theorem Draws.but {c:Addr} {P:Nat->Value->Prop} {St:Nat->Heap->Prop} (D:Draws prog w A it fp n P St) (st:St i h) (e:Heap.ExtBut c h h') (hc:c∉fp):St i h' :=
 D.frame _ _ _ st fun b hb o q=>e b o (fun x=>hc (x▸hb)) q
theorem ZkG {Q:Value->Shared->Prop} (Z:ZAp z TI TO i1 i2 f1 f2) (D1:Draws prog w A i1 f1 n1 P1 S1) (D2:Draws prog w A i2 f2 n2 P2 S2) (hz:IsZip s.heap z TI TO .none) (hTI:IsPair s.heap TI (.ref i1) (.ref i2)) (hTO:IsPair s.heap TO a b)
 (g1:S1 k1 s.heap) (g2:S2 k2 s.heap) (l1:k1<n1) (l2:k2<n2)
 (hQ:∀x y h' tk,P1 k1 x->P2 k2 y->IsZip h' z TI TO (rawInt s.heap.objs.size)->IsPair h' TO x y->S1 (k1+1) h'->S2 (k2+1) h'->IsPair h' s.heap.objs.size x y →
 (∀c o,c≠z->c≠TO->c≠i1->c≠i2->s.heap.get? c=some o->h'.get? c=some o)->Q (.ref s.heap.objs.size) { s with heap:=h',toks:=tk }) :
  wpAny (model prog w) A (Builtin.«zip.__next__» ⟨[.ref z],[]⟩) (fun fin s'=>∃v,fin=.done (.ret v)∧Q v s') E s:=by
 unfold Builtin.«zip.__next__»;refine Qc (m:=field (.ref z) 2) (QQ hz rfl (x:=.bool false) rfl ?_);refine Qc (m:=field (.ref z) 3) (QQ hz rfl (x:=.ref TI) rfl (Qc (RU hTI rfl ?_)));refine Qc (m:=Builtin.SmallTypes.ownedTupleIsFree (.ref z)) ?_;unfold Builtin.SmallTypes.ownedTupleIsFree;refine Qc (QQ hz rfl (x:=.none) rfl (Qf ?_));simp only [Q7];refine Qc (R5 (Qc (QQ hz rfl (x:=.ref TO) rfl (Qc (Rq hz (by simp) fun hA zA sA=>Qc ?_)))));replace zA:IsZip hA z TI TO .ellipsis:=zA;simp only [List.zipIdx_cons,List.zipIdx_nil,Ge,List.forIn_nil];refine Qc (Qc (wpAny_onRaise (Qc (m:=Builtin.SmallTypes.nextOf (.ref i1)) (D1.item k1 _ _ _ l1 (Draws.but D1 g1 sA.extBut Z.z1) fun x hB tB px gB sB=>Qf ?_))));have oB:IsPair hB TO a b:=sB.extBut _ _ Z.TOi1 (sA.extBut _ _ Z.TOz hTO);refine Qc (RU oB rfl (Qc (wpAny_updateSeq_pair oB fun hC oC sC=>Qc (G6 (Qf ?_)))));replace oC:IsPair hC TO x b:=oC;refine Qc (Qc (wpAny_onRaise (Qc (m:=Builtin.SmallTypes.nextOf (.ref i2)) (D2.item k2 _ _ _ l2 (Draws.but D2 (Draws.but D2 (Draws.but D2 g2 sA.extBut Z.z2) sB.extBut Z.b2) sC.extBut Z.o2) fun y hD tD py gD sD=>Qf ?_))));have oD:IsPair hD TO x b:=sD.extBut _ _ Z.TOi2 oC;refine Qc (RU oD rfl (Qc (wpAny_updateSeq_pair oD fun hE oE sE=>Qc (G6 (Qf (Qf ?_))))));replace oE:IsPair hE TO x y:=oE;have zE:IsZip hE z TI TO .ellipsis:=sE.extBut _ _ Z.TOz.symm (sD.extBut _ _ Z.i2z.symm (sC.extBut _ _ Z.TOz.symm (sB.extBut _ _ Z.i1z.symm zA)));have sz:hE.objs.size=s.heap.objs.size:=by rw [sE.1,sD.1,sC.1,sB.1,sA.1]
 have kE:∀c o,c≠z->c≠TO->c≠i1->c≠i2->s.heap.get? c=some o->hE.get? c=some o:=fun c o c1 c2 c3 c4 e=>sE.extBut _ _ c2 (sD.extBut _ _ c4 (sC.extBut _ _ c2 (sB.extBut _ _ c3 (sA.extBut _ _ c1 e))));have d1:S1 (k1+1) hE:=Draws.but D1 (Draws.but D1 (Draws.but D1 gB sC.extBut Z.o1) sD.extBut Z.b1) sE.extBut Z.o1;have d2:S2 (k2+1) hE:=Draws.but D2 gD sE.extBut Z.o2;refine Qc (RU oE rfl (Qc (wpAny_newTuple ?_)));refine Qc (m:=Builtin.SmallTypes.ownedTupleHandOut (.ref z) (.ref hE.objs.size)) ?_;unfold Builtin.SmallTypes.ownedTupleHandOut;have zF:IsZip (hE.push { cls:=.type "tuple",data:=.seq #[x,y] }) z TI TO .ellipsis:=Qo _ zE;refine Qc (Rq zF (by simp) fun hG zG sG=>?_);replace zG:IsZip hG z TI TO (rawInt hE.objs.size):=zG;refine Rq zG (by simp) fun hI zI sI=>Qf ⟨_,rfl,?_⟩;replace zI:IsZip hI z TI TO (rawInt hE.objs.size):=zI;have up:∀c o,c≠z->hE.get? c=some o->hI.get? c=some o:=fun c o c1 e=>sI.extBut _ _ c1 (sG.extBut _ _ c1 (Qo _ e));have zl:hE.objs.size≠z:=RD (Qn zE);have tI:IsPair hI hE.objs.size x y:=sI.extBut _ _ zl (sG.extBut _ _ zl (Qu _ rfl));show Q (.ref hE.objs.size) _;rw [sz] at zI tI ⊢;exact hQ x y hI tD px py zI (up _ _ Z.TOz oE) (D1.frame _ _ _ d1 fun c hc o e=>up c o (fun q=>Z.z1 (q▸hc)) e) (D2.frame _ _ _ d2 fun c hc o e=>up c o (fun q=>Z.z2 (q▸hc)) e) tI fun c o c1 c2 c3 c4 e=>up c o c1 (kE c o c1 c2 c3 c4 e)
theorem ZmH {Q:Fin->Shared->Prop} (Z:ZAp z TI TO i1 i2 f1 f2) (D1:Draws prog w A i1 f1 n1 P1 S1) (hz:IsZip s.heap z TI TO .none) (hTI:IsPair s.heap TI (.ref i1) (.ref i2))
 (g1:S1 n1 s.heap)
 (hE:∀h' e,(∀c o,c≠z->c≠TO->c≠i1->c≠i2->s.heap.get? c=some o->h'.get? c=some o)->(∃o,h'.get? e=some o∧o.cls=.type "StopIteration")->E (.ref e) { s with heap:=h' }) :
  wpAny (model prog w) A (Builtin.«zip.__next__» ⟨[.ref z],[]⟩) Q E s:=by
 unfold Builtin.«zip.__next__»;refine Qc (m:=field (.ref z) 2) (QQ hz rfl (x:=.bool false) rfl ?_);refine Qc (m:=field (.ref z) 3) (QQ hz rfl (x:=.ref TI) rfl (Qc (RU hTI rfl ?_)));refine Qc (m:=Builtin.SmallTypes.ownedTupleIsFree (.ref z)) ?_;unfold Builtin.SmallTypes.ownedTupleIsFree;refine Qc (QQ hz rfl (x:=.none) rfl (Qf ?_));simp only [Q7];refine Qc (R5 (Qc (QQ hz rfl (x:=.ref TO) rfl (Qc (Rq hz (by simp) fun hA zA sA=>Qc ?_)))));replace zA:IsZip hA z TI TO .ellipsis:=zA;simp only [List.zipIdx_cons,List.zipIdx_nil,Ge,List.forIn_nil];refine Qc (Qc (wpAny_onRaise (Qc (m:=Builtin.SmallTypes.nextOf (.ref i1)) (D1.done _ _ _ (Draws.but D1 g1 sA.extBut Z.z1) fun hB e sB he=>?_))));obtain ⟨o,ho,c⟩:=he;have zB:IsZip hB z TI TO .ellipsis:=sB _ _ Z.i1z.symm zA
 have ez:e≠z:=fun q=>by
  subst q;rw [zB] at ho;cases ho;simp at c
 exact Rq zB (by simp) fun hC _ sC=>hE hC e (fun c o c1 _ c3 _ q=>sC.extBut _ _ c1 (sB _ _ c3 (sA.extBut _ _ c1 q))) ⟨o,sC.extBut _ _ ez ho,c⟩
theorem ZkM (Z:ZAp z TI TO i1 i2 f1 f2) (D1:Draws prog w A.in1 i1 f1 n1 P1 S1) (D2:Draws prog w A.in1 i2 f2 n2 P2 S2) (hz:IsZip s.heap z TI TO .none) (hTI:IsPair s.heap TI (.ref i1) (.ref i2)) (hTO:IsPair s.heap TO a b)
 (g1:S1 k1 s.heap) (g2:S2 k2 s.heap) (l1:k1<n1) (l2:k2<n2)
 (hQ:∀x y h' tk,P1 k1 x->P2 k2 y->IsZip h' z TI TO (rawInt s.heap.objs.size)->IsPair h' TO x y->S1 (k1+1) h'->S2 (k2+1) h'->IsPair h' s.heap.objs.size x y →
 (∀c o,c≠z->c≠TO->c≠i1->c≠i2->s.heap.get? c=some o->h'.get? c=some o)->Q (some (.ref s.heap.objs.size)) { s with heap:=h',toks:=tk }) :
  wpAny (model prog w) A (pyNext (.ref z)) Q E s:=by
 have T:s.TypeIs (.ref z) "zip":=⟨_,hz,rfl⟩;unfold pyNext
 exact Qc (G7 (RG (name:=Str.ofString "__next__") T G8 (Rp G8 T F.entry_zip_next
  (ZkG Z D1 D2 hz hTI hTO g1 g2 l1 l2 fun x y h' tk a1 a2 a3 a4 a5 a6 a7 a8=>Qf (hQ x y h' tk a1 a2 a3 a4 a5 a6 a7 a8)) (F.args_zip_next_1 _))))
theorem Zou (Z:ZAp z TI TO i1 i2 f1 f2) (D1:Draws prog w A.in1 i1 f1 n1 P1 S1) (hz:IsZip s.heap z TI TO .none) (hTI:IsPair s.heap TI (.ref i1) (.ref i2)) (g1:S1 n1 s.heap)
 (hQ:∀h',(∀c o,c≠z->c≠TO->c≠i1->c≠i2->s.heap.get? c=some o->h'.get? c=some o)->Q none { s with heap:=h' }):wpAny (model prog w) A (pyNext (.ref z)) Q E s:=by
 have T:s.TypeIs (.ref z) "zip":=⟨_,hz,rfl⟩;unfold pyNext;refine Qc (G7 (RG (name:=Str.ofString "__next__") T G8 (Rp G8 T F.entry_zip_next (ZmH Z D1 hz hTI g1 fun h' e k he=>?_) (F.args_zip_next_1 _))));obtain ⟨o,ho,c⟩:=he;exact Qc (wpAny_isInstance (T:="StopIteration") (b:=true) ⟨o,ho,c⟩ isSubtype_stop (Qf (hQ _ k)))
end
section
variable {σ:St}
theorem Inv.turnedAll {ch:List Addr} (I:Inv X pins σ H s) (hf:∀b∈ch,X4 X pins H b) (k:∀b o,b∉ch->s.heap.get? b=some o->h'.get? b=some o):Inv X pins σ H { s with heap:=h',toks:=t' }:=by
 have nit:∀b u,H b=some u->b∉ch:=fun b u e z=>by rw [(hf b z).1] at e;cases e
 refine I.step (g':=s.gens) (d':=s.drawn) (ch:=ch) (fun b hb=>⟨(hf b hb).2.2.2.1,(hf b hb).2.1,(hf b hb).2.2.2.2⟩) (fun b o _ _ hc e _=>k b o hc e) (fun b o _ _ hc e _=>⟨o.slots,k b o hc e⟩) (fun _ _ _ _ n=>n)
  (fun b o hc e=>⟨o,k b o hc e⟩) (fun _ _ e=>e) (fun _ _ _ e=>e) (fun b ps e=>⟨#[],by rw [e];simp⟩) (fun m hm=>?_) (fun b u e=>?_) I.bare
 ·obtain ⟨o,es,ep,ho,r⟩:=hm;exact ⟨o,es,ep,k _ o (fun z=>(hf _ z).2.1 rfl) ho,r⟩
 ·refine (I.hok b u e).stay (fun c v hc q=>k c v ?_ q) (fun _ q=>q) fun _ _ q=>q;rcases hc with z|z
  ·rw [z];exact nit b u e
  ·exact nit c _ z
theorem Inv.turnedLaid {ch:List Addr} {T:Addr} (I:Inv X pins σ H s) (hf:∀b∈ch,X4 X pins H b) (k:∀b o,b∉ch->s.heap.get? b=some o->h'.get? b=some o) (hp:s.heap.objs.size≤T) (new:ObjOk X.prog X.w (Zb H T o) h' T o) :
  Inv X pins σ (Zb H T o) { s with heap:=h',toks:=t' }:=by
 have nit:∀b u,H b=some u->b∉ch:=fun b u e z=>by rw [(hf b z).1] at e;cases e
 have hn:=I.hok.fresh hp;have up:∀{b u},H b=some u->Zb H T o b=some u:=fun {b u} e=>by rw [Zg (ZV e hn)];exact e
 refine I.step (g':=s.gens) (d':=s.drawn) (ch:=ch) (fun b hb=>⟨(hf b hb).2.2.2.1,(hf b hb).2.1,(hf b hb).2.2.2.2⟩) (fun b o _ _ hc e _=>k b o hc e) (fun b o _ _ hc e _=>⟨o.slots,k b o hc e⟩) (fun b u _ e n=>?_)
  (fun b o hc e=>⟨o,k b o hc e⟩) (fun _ _ e=>up e) (fun _ _ _ e=>up e) (fun b ps e=>⟨#[],by rw [up e];simp⟩) (fun m hm=>?_) (fun b u e=>?_) I.bare
 ·rw [Zg (fun z=>absurd (Qn e) (by rw [z];exact Nat.not_lt.mpr hp))];exact n
 ·obtain ⟨o,es,ep,ho,r⟩:=hm;exact ⟨o,es,ep,k _ o (fun z=>(hf _ z).2.1 rfl) ho,r⟩
 ·by_cases hb:b=T
  ·subst hb;rw [Ze] at e;cases e;exact new
  ·rw [Zg hb] at e;refine (I.hok b u e).stay (fun c v hc q=>k c v ?_ q) (fun _ q=>up q) fun _ _ q=>up q;rcases hc with z|z
   ·rw [z];exact nit b u e
   ·exact nit c _ z
end
noncomputable def Itz (K:W.Frag) (a b:Addr):It :=
 ⟨fun i H => ∃xs ys x y, SqT K H a xs ∧ SqT K H b ys ∧ xs[i]?=some x ∧ ys[i]?=some y,
  fun i H v H'=>∃T x y,H T=none∧v=.ref T∧(∀xs,SqT K H a xs->xs[i]?=some x)∧(∀ys,SqT K H b ys->ys[i]?=some y)∧H'=Zb H T (.tup [x,y]),
  fun i H=>∃xs,SqT K H a xs∧xs.length=i⟩
def ZSt (z TI TO i1 i2 a b:Addr) (i:Nat) (h:Heap):Prop:=IsZip h z TI TO .none∧IsPair h TI (.ref i1) (.ref i2)∧(∃u v,IsPair h TO u v)∧h.IsTupleIter i1 a i∧h.IsTupleIter i2 b i
theorem Zpc {K:W.Frag} {z TI TO i1 i2:Addr} (Z:ZAp z TI TO i1 i2 [i1,a] [i2,b]) (ha:a≠i1) (hb:b≠i2) :
  Turn P w K (.Tuple es n pos) (Itz K a b) [z,TI,TO,i1,i2] z (ZSt z TI TO i1 i2 a b) where
 mem:=by simp
 obj:=fun i h ⟨h1,h2,⟨u,v,h3⟩,⟨o4,h4,_,d4⟩,⟨o5,h5,_,d5⟩⟩ c hc=>by
  simp only [Qh,QR,QS] at hc;rcases hc with rfl|rfl|rfl|rfl|rfl
  ·exact ⟨_,h1,fun v q=>by cases q⟩
  ·exact ⟨_,h2,fun v q=>by cases q⟩
  ·exact ⟨_,h3,fun v q=>by cases q⟩
  ·exact ⟨_,h4,fun v q=>by rw [d4] at q;cases q⟩
  ·exact ⟨_,h5,fun v q=>by rw [d5] at q;cases q⟩
 keep:=fun i h h' ⟨h1,h2,⟨u,v,h3⟩,⟨o4,h4,r4⟩,⟨o5,h5,r5⟩⟩ k =>
  ⟨k _ (by simp) _ h1,k _ (by simp) _ h2,⟨u,v,k _ (by simp) _ h3⟩,⟨o4,k _ (by simp) _ h4,r4⟩,⟨o5,k _ (by simp) _ h5,r5⟩⟩
 item:=by
  intro X hP hw hK hc i pins s σ H E I hf ⟨h1,h2,⟨u,v,h3⟩,h4,h5⟩ ⟨xs,ys,x,y,qa,qb,ex,ey⟩;subst hP hw hK;obtain ⟨as,ra,ta,la⟩:=I.tuple qa;obtain ⟨bs,rb,tb,lb⟩:=I.tuple qb;have hh:X.A.in1.handled=none:=I.ok.hd hc;have la':=ra.length;have lb':=rb.length
  have lx:i<as.toArray.size:=by
   have:=(QC.mp ex).1;simp only [Qz];omega
  have ly:i<bs.toArray.size:=by
   have:=(QC.mp ey).1;simp only [Qz];omega
  refine ZkM Z (ZeH hh i1 a ha as.toArray) (ZeH hh i2 b hb bs.toArray) h1 h2 h3 ⟨h4,ta⟩ ⟨h5,tb⟩ lx ly fun u1 u2 h' tk p1 p2 z1 o1 g1 g2 t1 k=>?_;refine ⟨_,rfl,wpAny_letOwnedTupleGo_zip z1 fun h'' z2 sb=>?_⟩;have lz:z<s.heap.objs.size:=Qn h1;have nz:s.heap.objs.size≠z:=RD lz;obtain ⟨v1,e1,r1⟩:=ra.get ex;obtain ⟨v2,e2,r2⟩:=rb.get ey
  have q1:v1=u1:=by
   have p:as[i]?=some u1:=by simpa using p1
   rw [e1] at p;exact Ql p
  have q2:v2=u2:=by
   have p:bs[i]?=some u2:=by simpa using p2
   rw [e2] at p;exact Ql p
  subst q1 q2
  have kk:∀c o,c∉[z,TI,TO,i1,i2]->s.heap.get? c=some o->h''.get? c=some o:=fun c o hc e=>by
   simp only [Qh,QR,QS,not_or] at hc;exact sb.extBut _ _ hc.1 (k c o hc.1 hc.2.2.1 hc.2.2.2.1 hc.2.2.2.2 e)
  have tt:IsPair h'' s.heap.objs.size v1 v2:=sb.extBut _ _ nz t1;have I':=I.turnedLaid (t':=tk) (o:=.tup [x,y]) hf kk (Qe _) (show ObjOk X.prog X.w _ h'' _ (.tup [x,y]) from ⟨Zy (by simp),[v1,v2],.cons r1 (.cons r2 .nil),⟨_,tt,rfl,_,rfl⟩⟩);refine ⟨.ref s.heap.objs.size,_,I',rfl,⟨s.heap.objs.size,x,y,I.hok.fresh (Qe _),rfl,fun zs hz=>by rw [I.tuple_inj hz qa];exact ex,fun zs hz=>by rw [I.tuple_inj hz qb];exact ey,rfl⟩,?_,fun c hc=>?_⟩
  ·exact ⟨z2,sb.extBut _ _ Z.TIz (k _ _ Z.TIz Z.TITO Z.TIi1 Z.TIi2 h2),⟨_,_,sb.extBut _ _ Z.TOz o1⟩,g1.1.extBut sb.extBut Z.i1z,g2.1.extBut sb.extBut Z.i2z⟩
  ·have hlt:c<s.heap.objs.size:=by
    simp only [Qh,QR,QS] at hc;obtain ⟨o4,e4,_⟩:=h4;obtain ⟨o5,e5,_⟩:=h5;rcases hc with rfl|rfl|rfl|rfl|rfl
    ·exact lz
    ·exact Qn h2
    ·exact Qn h3
    ·exact Qn e4
    ·exact Qn e5
   rw [Zg (QA hlt)];exact (hf c hc).1
 done:=by
  intro X hP hw hK hc i pins s σ H E I hf ⟨h1,h2,⟨u,v,h3⟩,h4,h5⟩ ⟨xs,qa,hl⟩;subst hP hw hK;obtain ⟨as,ra,ta,la⟩:=I.tuple qa;have hh:X.A.in1.handled=none:=I.ok.hd hc
  have e:i=as.toArray.size:=by
   have:=ra.length;simp only [Qz];omega
  subst e;refine Zou (f2:=[i2,b]) Z (ZeH hh i1 a ha as.toArray) h1 h2 ⟨h4,ta⟩ fun h' k=>⟨rfl,I.turnedAll (t':=s.toks) hf fun c o hc e=>?_⟩;simp only [Qh,QR,QS,not_or] at hc;exact k c o hc.1 hc.2.2.1 hc.2.2.2.1 hc.2.2.2.2 e
 self:=fun _ _ _ _ _ st h=>wpAny_pyIter_zip st.1 h
theorem Znl {us vs:Array Value} {Q:Value->Shared->Prop} (ha:s.heap.IsTuple a us) (hb:s.heap.IsTuple b vs)
 (h:∀h',ZSt (s.heap.objs.size+4) (s.heap.objs.size+2) (s.heap.objs.size+3) s.heap.objs.size (s.heap.objs.size+1) a b 0 h'->(∀c o,s.heap.get? c=some o->h'.get? c=some o)->Q (.ref (s.heap.objs.size+4)) { s with heap:=h' }) :
  wpAny (model prog w) A (call (.type "zip") [.ref a,.ref b]) Q E s:=by
 let H1:Heap:=s.heap.push { cls:=.type "tuple_iterator",data:=.fields #[.ref a,.int 0 0] }
 let H2:Heap:=H1.push { cls:=.type "tuple_iterator",data:=.fields #[.ref b,.int 0 0] }
 let H3:Heap:=H2.push { cls:=.type "tuple",data:=.seq #[.ref s.heap.objs.size,.ref H1.objs.size] }
 let H4:Heap:=H3.push { cls:=.type "tuple",data:=.seq #[.none,.none] }
 let H5:Heap:=H4.push { cls:=.type "zip",data:=.fields #[.none,.bool false,.bool false,.ref H2.objs.size,.ref H3.objs.size] }
 have m:Meets (Builtin.«zip.__new__» ⟨[.type "zip",.ref a,.ref b],[]⟩) (fun _ R s1=>s1=s∧R (.ok (.ret (.ref H4.objs.size))) { s with heap:=H5 }):=.of_wp fun prog w A R s1 hR=>by
  obtain ⟨rfl,hR⟩:=hR;obtain ⟨hp,g,d,tk,os⟩:=s1;have hsub:=sub_zip;have hL1:Heap.IsTuple (Shared.heap ⟨hp,g,d,tk,os⟩) a us:=ha;have hL2:Heap.IsTuple (Shared.heap ⟨hp.push { cls:=.type "tuple_iterator",data:=.fields #[.ref a,.int 0 0] },g,d,tk,os⟩) b vs:=Heap.IsTuple.push hb _
  wp_walk using Gp hL1,Gp hL2
  exact ⟨_,rfl,hR⟩
 refine callType_new F.called_zip (by decide) (F.typeCall_zip_2 _ _) (F.newCall_zip_2 _ _) (fun obj=>F.args_object_init_3 obj _ _) F.entry_zip_new m ⟨rfl,?_⟩;have z1:H1.objs.size=s.heap.objs.size+1:=Rh ..;have z2:H2.objs.size=s.heap.objs.size+2:=by rw [Rh,z1]
 have z3:H3.objs.size=s.heap.objs.size+3:=by rw [Rh,z2]
 have z4:H4.objs.size=s.heap.objs.size+4:=by rw [Rh,z3]
 have up5:∀c o,H4.get? c=some o->H5.get? c=some o:=fun c o e=>Qo _ e;have up4:∀c o,H3.get? c=some o->H5.get? c=some o:=fun c o e=>up5 c o (Qo _ e);have up3:∀c o,H2.get? c=some o->H5.get? c=some o:=fun c o e=>up4 c o (Qo _ e);have up2:∀c o,H1.get? c=some o->H5.get? c=some o:=fun c o e=>up3 c o (Qo _ e);have g5:H5.get? H4.objs.size=some _:=Qu _ rfl;have g4:H5.get? H3.objs.size=some _:=up5 _ _ (Qu _ rfl);have g3:H5.get? H2.objs.size=some _:=up4 _ _ (Qu _ rfl);have g2:H5.get? H1.objs.size=some _:=up3 _ _ (Qu _ rfl);have g1:H5.get? s.heap.objs.size=some _:=up2 _ _ (Qu _ rfl);show _∧_;rw [z4,z2,z3] at g5;rw [z3] at g4;rw [z2,z1] at g3;rw [z1] at g2;rw [z4];exact ⟨⟨_,g5,rfl⟩,h H5 ⟨g5,g3,⟨_,_,g4⟩,⟨_,g1,rfl,rfl⟩,⟨_,g2,rfl,rfl⟩⟩ fun c o e=>up2 c o (Qo _ e)⟩
theorem ZoY:bootBuiltins "zip"=some (.type "zip"):=by trivial
theorem ZdW:bootBuiltins "all"=some (.builtin "all"):=by trivial
theorem Uf {c x y:Nat} (h1:c≠x) (h2:c≠y):c∉[x,y]:=fun z=>by
 rcases Qh.mp z with z|z
 ·exact h1 z
 ·exact h2 (by simpa using z)
theorem Zn3 {m a b:Nat} (la:a<m) (lb:b<m):ZAp (m+4) (m+2) (m+3) m (m+1) [m,a] [m+1,b] where
 TIz:=(by omega:(m+2:Nat)≠m+4)
 TOz:=(by omega:(m+3:Nat)≠m+4)
 i1z:=(by omega:(m:Nat)≠m+4)
 i2z:=(by omega:(m+1:Nat)≠m+4)
 TITO:=(by omega:(m+2:Nat)≠m+3)
 TIi1:=(by omega:(m+2:Nat)≠m)
 TIi2:=(by omega:(m+2:Nat)≠m+1)
 TOi1:=(by omega:(m+3:Nat)≠m)
 TOi2:=(by omega:(m+3:Nat)≠m+1)
 i12:=(by omega:(m:Nat)≠m+1)
 z1:=Uf (by omega) (by omega)
 z2:=Uf (by omega) (by omega)
 o1:=Uf (by omega) (by omega)
 o2:=Uf (by omega) (by omega)
 b1:=Uf (by omega) (by omega)
 b2:=Uf (by omega) (by omega)
def Zpr (K:W.Frag) (ta:TA):TI:=fun σ H R=>ta σ H fun vs H1=>∃a b,vs=[.ref a,.ref b]∧(∃xs,SqT K H1 a xs)∧(∃ys,SqT K H1 b ys)∧R (Itz K a b) H1
theorem ZpW (K:W.Frag) {e1 e2:Expr} {ta:TA} {pos':Pos} (hg:Gl X "zip") (hm:X.mg "zip"=none) (ha:PA X [e1,e2] ta) (hK:X.K=K:=by rfl)
 (hs:starEach [e1,e2] X.env=(false,eval e1 X.env)::starEach [e2] X.env:=by rfl) (hpl:(backTo pos (starEach [e2] X.env)).any (·.1)=false:=by rfl):PI X (.Tuple es n pos') (.Call (.Name "zip" p) [e1,e2] [] pos) (Zpr K ta):=by
 subst hK;intro pins s σ H R I h;refine RS (UQ I hg hm ZoY (GR (Zq (ha pos pins s σ H _ I h) fun us s1 ⟨vs,H1,I1,r1,q1⟩=>?_) hs hpl));obtain ⟨a,b,e,⟨xs,qa⟩,⟨ys,qb⟩,q⟩:=q1;subst e;obtain ⟨u,v,rfl,ra,rb⟩:=Uk r1;cases (show u=Value.ref a from ra);cases (show v=Value.ref b from rb);obtain ⟨as,ka,ta',_⟩:=I1.tuple qa;obtain ⟨bs,kb,tb',_⟩:=I1.tuple qb;have la:a<s1.heap.objs.size:=by obtain ⟨o,e,_⟩:=ta';exact Qn e
 have lb:b<s1.heap.objs.size:=by obtain ⟨o,e,_⟩:=tb';exact Qn e
 refine Znl ta' tb' fun h' st k=>wpAny_pyIter_zip st.1 ?_;have Z:=Zn3 la lb;refine ⟨s1.heap.objs.size+4,_,_,_,H1,rfl,I1.kept (t':=s1.toks) k,Zpc Z (QA la) (QA (GC lb)),st,fun c hc=>?_,q⟩
 have hle:s1.heap.objs.size≤c:=by
  simp only [Qh,QR,QS] at hc;rcases hc with rfl|rfl|rfl|rfl|rfl
  ·exact RV _ 4
  ·exact RV _ 2
  ·exact RV _ 3
  ·exact Qe _
  ·exact RV _ 1
 have e:=I1.fpOk hle (I1.hok.fresh hle);exact e
theorem ZoJ {bs:List Bool} {us:List Value} (r:Vals (bs.map V.bl) us):TruthOf P w A (fun i v=>us.toArray[i]?=some v) (fun i=>bs.getD i false):=by
 intro i v s Q E e q;have e':us[i]?=some v:=by simpa using e
 have hl:=r.length;rw [Qd] at hl
 have lt:i<bs.length:=by
  have:=(QC.mp e').1;omega
 obtain ⟨u,e2,r2⟩:=r.get (i:=i) (x:=V.bl bs[i]) (by simp [lt]);rw [e'] at e2;cases e2;cases (show v=Value.bool bs[i] from r2);have z:bs.getD i false=bs[i]:=by simp [List.getD,lt]
 exact RN (by rw [←z];exact q)
theorem Zfc:∀bs:List Bool,((List.range bs.length).all fun i=>bs.getD i false)=bs.all id
 |[]=>rfl
 |b::bs=>by
  rw [QG,List.range_succ_eq_map,GW,List.all_map,GW,←Zfc bs];rfl
theorem ZdK (hc:X.calm=true):YN X (.builtin "all") (fun xs H Q=>∃(a:Addr) (bs:List Bool),xs=[.ref a]∧H a=some (.lst (bs.map V.bl))∧Q (.bl (bs.all id)) H):=by
 intro pins s σ H xs us Q I r h;obtain ⟨a,bs,rfl,q,hq⟩:=h;obtain ⟨u,rfl,ru⟩:=Y5 r;cases (show u=Value.ref a from ru);obtain ⟨its,rv,pl,hz⟩:=I.list (.inl (.inl q));have lt:a<s.heap.objs.size:=by obtain ⟨o,e,_⟩:=pl.isList;exact Qn e
 have hl:=rv.length;rw [Qd] at hl;refine call_all_walk (wpAny_pyIter_list pl.isList ⟨s.heap.objs.size,_,_,_,_,_,_,rfl,Walks.list (show X.A.in1.handled=none from I.ok.hd hc) _ a (QA lt) its.toArray,⟨⟨_,Qu _ rfl,rfl,rfl⟩,pl.isList.push _⟩,ZoJ rv,fun h' tk k=>?_⟩);rw [Qz,←hl,Zfc];exact ⟨.bl _,H,I.kept (t':=tk) fun b o e=>k b o (fun z=>absurd (Qn e) (by rw [show b=s.heap.objs.size by simpa using z];exact Rm _)) (Qo _ e),rfl,hq⟩
def Ze7 (X:Cx) (CX:YH) (Fam:Addr->Sp->Prop):Prop:=∀f sp,Fam f sp->∃k fd ps,FnOk X.prog X.w X.K X.mg X.base CX k f fd ps sp∧Room k X.A∧W.keepIn X.K (.ref f)=true∧Binds X.K fd ps []
def Zki (Fam:Addr->Sp->Prop) (i:Nat) (E:XK) (t:TA):TE:=fun σ H Q=>∃f sp,σ[i]?=some (some (.ref f))∧Fam f sp∧t σ H fun vs H1=>sp vs H1 Q E
theorem Zkn {Fam:Addr->Sp->Prop} {E:XK} {x:Str} {e:Expr} {t:TA} (F:Ze7 X CX Fam) (hN:X.N[i]?=some x) (hv:Vis X.env.scope x) (hx:Zhg CX X E) (ha:PA X (e::es) t)
 (hd:(x==("__debug__": Str))=false:=by decide) (hcd:(x==("__classdict__": Str))=false:=by decide)
 (he:starEach (e::es) X.env=(false,eval e X.env)::starEach es X.env:=by rfl) (hpl:(backTo pos (starEach es X.env)).any (·.1)=false:=by rfl):PE X (.Call (.Name x p) (e::es) [] pos) (Zki Fam i E t):=by
 intro pins s σ H Q I h;obtain ⟨f,sp,e1,hF,q⟩:=h;obtain ⟨k,fd,ps,Fn,hr,hk,hb⟩:=F f sp hF;refine RS (Zq (ZgX hN hv hd hcd pins s σ H (fun v H'=>v=.ref f∧H'=H) I ⟨_,e1,rfl,rfl⟩) fun u s1 ⟨v,H1,I1,r1,e2,e3⟩=>?_);subst e2 e3;cases (show u=Value.ref f from r1);refine RT (h₀:=X.base) I1.ok.mod.kin hk (Zq (ha pos pins s1 σ H1 _ I1 q) fun us s2 ⟨vs,H2,I2,r2,q2⟩=>⟨I2.kIn,?_⟩) he hpl;exact ZkC Fn hr hb .nil hx I2 r2 (by rw [Qt];exact q2)
section
variable {l:Expr} {tl:TE} (K:W.Frag) (hK:X.K=K)
include hK
theorem ZbB:UT X (ZfE K):=by subst hK;exact YG
theorem Zbr:UT X (Zih K):=by subst hK;exact Zp
end
theorem ZpN (K:W.Frag) {k:Nat} {t:Vl} (hc:X.calm=true) (h:JS X es t) (hK:X.K=K:=by rfl)
 (hn:(assignEach es X.env).length=n:=by rfl) (hst:(assignEach es X.env).findIdx? (·.1)=none:=by rfl):PG X (.Tuple es k pos) (Zh6 K n t):=by
 subst hK;exact Jz hc h hn hst
theorem Ui {σ0:St} {g:TG} {Q:VK} {H1:Hp} (out:List V) (hn:out.length<sizeLine) (σP:St->Prop) (h0:σP σ0)
 (go:∀i H,i<out.length->Same H1 H->J.go i H) (stop:∀H,Same H1 H->J.stop out.length H)
 (step:∀i σ H x H' y,out[i]?=some y->σP σ->Same H1 H->J.yld i H x H'->∀C:V->St->Hp->Prop,(∀σ2 H6,σP σ2->Same H H6->C y σ2 H6)->g x σ H' fun σ2 H4=>te σ2 H4 fun y' H6=>C y' σ2 H6)
 (fin:∀D H',H1 D=none->Same H1 H'->H' D=some (.lst out)->Q (.ref D) H'):Jd J σ0 g Zei te Q H1:=by
 intro D hD
 have keep:∀{H:Hp} {o:HO},Same H1 H->Same H1 (Zb H D o):=fun {H o} e b u q=>by
  rw [Zg (ZV q hD)];exact e b u q
 refine ⟨fun i m σ ys H=>i≤out.length∧m=out.length-i∧σP σ∧ys=out.take i∧H D=some (.lst ys)∧Same H1 H,⟨_,QL _,rfl,h0,rfl,Ze,keep (Same.refl H1)⟩,?_⟩;rintro i m σ ys H ⟨hi,rfl,p,rfl,hd,sm⟩;refine ⟨hd,?_⟩;by_cases lt:i<out.length
 ·refine .inr ⟨go i H lt sm,fun σ2 ys2 H3=>σP σ2∧ys2=out.take (i+1)∧H3 D=some (.lst ys2)∧Same H1 H3,fun σ2 ys2 H3 ⟨a,b,c,d⟩=>⟨_,by omega,lt,rfl,a,b,c,d⟩,fun x H3 y=>?_⟩;have e:out[i]?=some out[i]:=by simp [lt]
  refine step i σ H x H3 out[i] e p sm y (fun y' σ2 H6=>H6 D=some (.lst (out.take i))∧(out.take i).length<sizeLine∧σP σ2∧out.take i++[y']=out.take (i+1)∧Zb H6 D (.lst (out.take i++[y'])) D=some (.lst (out.take i++[y']))∧Same H1 (Zb H6 D (.lst (out.take i++[y'])))) fun σ2 H6 p2 s6=>?_;exact ⟨s6 _ _ hd,by rw [QV];omega,p2,by rw [GD,e];rfl,Ze,keep (sm.trans s6)⟩
 ·have e:i=out.length:=by omega
  subst e;rw [QU] at hd;exact .inl ⟨stop H sm,fin D H hD sm hd⟩
section
variable {K:W.Frag} {ys:List V} {Q:VK}
end
noncomputable def ZdQ (js:List (Option Nat)) (σ:St):St:=js.map fun o=>match o with|none=>none|some j=>(σ[j]?).getD none
noncomputable def JB (fr:List Str) (cells:List (Str×Addr)):List (Str×Addr):=fr.filterMap fun x=>(cells.lookup x).map fun c=>(x,c)
noncomputable def ZkE (js:List (Option Nat)) (N M:List Str) (inn out:List (Str×NameKind)):Bool :=
 (js.zip N).all fun p=>match p.1 with
  |none=>true
  |some j=>(M[j]?==some p.2)&&((inn.lookup p.2==some .cell)||(inn.lookup p.2==some .free))&&((out.lookup p.2==some .cell)||(out.lookup p.2==some .free))
theorem Zgk {L:List (Str×NameKind)} {x:Str} (h:((L.lookup x==some NameKind.cell)||(L.lookup x==some NameKind.free))=true):L.lookup x=some .cell∨L.lookup x=some .free:=by
 rw [RH] at h;rcases h with h|h
 ·exact .inl (eq_of_beq h)
 ·exact .inr (eq_of_beq h)
theorem Zmv {fr:List Str} {cells:List (Str×Addr)} {x:Str} (h:x∈fr) (e:(cells.lookup x).isSome=true):∃c,(JB fr cells).lookup x=some c:=by
 obtain ⟨c,hc⟩:=NU.mp e
 induction fr with
 |nil=>cases h
 |cons y r ih =>
  unfold JB;rw [Q4];by_cases q:y=x
  ·subst q;rw [hc];exact ⟨c,by simp⟩
  ·have hr:x∈r:=by
    rcases Qh.mp h with z|z
    ·exact absurd z.symm q
    ·exact z
   cases e2:cells.lookup y with
   |none=>exact ih hr
   |some d =>
    obtain ⟨c',hc'⟩:=ih hr;refine ⟨c',?_⟩;show List.lookup x ((y,d)::JB r cells)=some c';rw [List.lookup_cons,RC.mpr (Q2 q)];exact hc'
theorem Xi (fr:List Str) (js:List (Option Nat)) (hk:sc.kind=.function) (hn:∀x∈sc.names,x.2=.local->sc.names.lookup x.1=some .local) (hc:∀y∈sc.names,y.2≠.cell)
 (clos:closureFor sc X.env=pure (JB fr X.env.cells)) (hall:(fr.all fun x=>(X.env.cells.lookup x).isSome)=true)
 (hhas:((relabel sc X.env).names.all fun y=>(y.2 != .cell&&y.2 != .free)||fr.contains y.1)=true) (hl:js.length=N.length) (hcap:ZkE js N X.N (relabel sc X.env).names X.env.scope.names=true) :
  CompSc X N sc (JB fr X.env.cells) (ZdQ js):=by
 have lk:∀(x:Str) (M:List (Str×NameKind)) (k:NameKind),M.lookup x=some k->(x,k)∈M:=fun x M k h=>RP h;refine ⟨hk,hn,hc,clos,fun x c h=>?_,fun x h=>?_,fun σ=>?_,fun σ i x v e1 e2=>?_⟩
 ·have m:=RP h;obtain ⟨y,_,e⟩:=Rg.mp m;obtain ⟨d,hd,e'⟩:=QN.mp e;cases e';exact hd
 ·have hm:x∈fr:=by
   rcases h with h|h <;>
   ·have q:=Rv.mp hhas _ (lk x _ _ h);rw [RH] at q;rcases q with q|q
    ·simp at q
    ·simpa using q
  exact Zmv hm (Rv.mp hall x hm)
 ·unfold ZdQ;rw [Qd,hl]
 ·unfold ZdQ at e2;rw [Qp] at e2;obtain ⟨o,ho,e2⟩:=QN.mp e2;cases o with
  |none=>cases e2
  |some j =>
   have hz:(some j,x)∈js.zip N:=by
    refine G9.mpr ⟨i,?_⟩;rw [List.getElem?_zip_eq_some];exact ⟨ho,e1⟩
   have q:=Rv.mp hcap _ hz;simp only [Ri] at q;refine ⟨Zgk q.1.2,Zgk q.2,j,eq_of_beq q.1.1,?_⟩;replace e2:(σ[j]?).getD none=some v:=e2;cases e3:σ[j]? with
   |none=>rw [e3] at e2;cases e2
   |some o'=>rw [e3] at e2;rw [show o'=some v from e2]
theorem WF {σ0:St} {g:TG} {tt:TT} {Q:VK} {H1:Hp} (ZU:List (Option V)) (hn:ZU.length<sizeLine) (σP:St->Prop) (h0:σP σ0)
 (go:∀i H,i<ZU.length->Same H1 H->J.go i H) (stop:∀H,Same H1 H->J.stop ZU.length H)
 (step:∀i σ H x H' o,ZU[i]?=some o->σP σ->Same H1 H->J.yld i H x H'->∀C:Option V->St->Hp->Prop,(∀σ2 H6,σP σ2->Same H H6->C o σ2 H6)->g x σ H' fun σ2 H4=>tt σ2 H4 fun c H5=>if c=true then te σ2 H5 fun y' H6=>C (some y') σ2 H6 else C none σ2 H5)
 (fin:∀D H',H1 D=none->Same H1 H'->H' D=some (.lst (ZU.filterMap id))->Q (.ref D) H'):Jd J σ0 g tt te Q H1:=by
 intro D hD
 have keep:∀{H:Hp} {o:HO},Same H1 H->Same H1 (Zb H D o):=fun {H o} e b u q=>by
  rw [Zg (ZV q hD)];exact e b u q
 have fl:∀i,((ZU.take i).filterMap id).length≤ZU.length:=fun i=>Qi (Gf _ _) (by rw [QV];omega);refine ⟨fun i m σ ys H=>i≤ZU.length∧m=ZU.length-i∧σP σ∧ys=(ZU.take i).filterMap id∧H D=some (.lst ys)∧Same H1 H,⟨_,QL _,rfl,h0,rfl,Ze,keep (Same.refl H1)⟩,?_⟩;rintro i m σ ys H ⟨hi,rfl,p,rfl,hd,sm⟩;refine ⟨hd,?_⟩;by_cases lt:i<ZU.length
 ·refine .inr ⟨go i H lt sm,fun σ2 ys2 H3=>σP σ2∧ys2=(ZU.take (i+1)).filterMap id∧H3 D=some (.lst ys2)∧Same H1 H3,fun σ2 ys2 H3 ⟨a,b,c,d⟩=>⟨_,by omega,lt,rfl,a,b,c,d⟩,fun x H3 y=>?_⟩;have e:ZU[i]?=some ZU[i]:=by simp [lt]
  have tk:(ZU.take (i+1)).filterMap id=(ZU.take i).filterMap id++ZU[i].toList:=by
   rw [GD,e];simp only [Option.toList_some,Rk];cases ZU[i]<;>rfl
  refine step i σ H x H3 ZU[i] e p sm y (fun o σ2 H6=>match o with
   |some y'=>H6 D=some (.lst ((ZU.take i).filterMap id))∧((ZU.take i).filterMap id).length<sizeLine∧σP σ2∧(ZU.take i).filterMap id++[y']=(ZU.take (i+1)).filterMap id∧Zb H6 D (.lst ((ZU.take i).filterMap id++[y'])) D=some (.lst ((ZU.take i).filterMap id++[y']))∧Same H1 (Zb H6 D (.lst ((ZU.take i).filterMap id++[y'])))
   |none=>σP σ2∧(ZU.take i).filterMap id=(ZU.take (i+1)).filterMap id∧H6 D=some (.lst ((ZU.take i).filterMap id))∧Same H1 H6) fun σ2 H6 p2 s6=>?_
  rw [tk];cases hg:ZU[i] with
  |none=>exact ⟨p2,by simp,s6 _ _ hd,sm.trans s6⟩
  |some y'=>exact ⟨s6 _ _ hd,Gc (fl i) hn,p2,by simp,Ze,keep (sm.trans s6)⟩
 ·have e:i=ZU.length:=by omega
  subst e;rw [QU] at hd;exact .inl ⟨stop H sm,fin D H hD sm hd⟩
end L2
namespace RevF
open PySem PySem.Spec PyProof.Rows
theorem sp:splitId "reversed.__new__"=some ("reversed","__new__"):=by rfl
section
variable {prog:Program} {w:World} {A:Around} {E:Value->Shared->Prop} {s:Shared} {a it:Addr} {us:Array Value}
end
end RevF
namespace L2
open PySem PySem.Spec PyProof.Rows
variable {X:Cx}
section
variable {prog:Program} {w:World} {A:Around} {E:Value->Shared->Prop} {s:Shared}
end
section
variable {o e f:Expr} {apos cpos:Pos} {td ty tx:TE}
end
theorem Zo2 {n:Nat} (h:n≤1000):3*n≤sizeLine:=Qi (Nat.mul_le_mul_left 3 h) (by decide)
theorem ZoN:We X "str.lower" (fun x xs H Q=>∃z,x=.str z∧xs=[]∧z.length≤1000∧Q (.str (Txt.lower z)) H):=by
 intro pins s σ H x xs v us Q I rx r h;obtain ⟨z,rfl,rfl,hz,q⟩:=h;obtain ⟨t,rfl⟩:=rx;cases r;exact call_gives PySem.F.slot_str_lower rfl PySem.F.entry_str_lower (PySem.F.args_str_lower_1 _) (gives_str_lower z t (fit_lower (by omega))) ⟨Qi (len_lower z) (Zo2 hz),.str (Txt.lower z),H,I.tok _,⟨_,rfl⟩,q⟩
theorem ZgM (K:W.Frag) {o:Expr} {to:TE} {name:Str} {apos cpos:Pos} {T id:String} {r:V->List V->Hp->VK->Prop} (pa:PlainAttrs T) (slot:Slot T name id) (hty:typeOf (.builtin id)=pure (.type "method_descriptor")) (hm:We X id r) (ho:PE X o to) (hK:X.K=K:=by rfl)
 (hbase:attributeBase o name X.env (eval o X.env)=eval o X.env:=by rfl) (hline:(apos.endLine==cpos.line)=true:=by rfl):PE X (.Call (.Attribute o name apos) [] [] cpos) (ZgN K T r to):=by
 subst hK;exact Zge pa slot hty hm ho hbase hline
theorem ZnB (K:W.Frag) (hK:X.K=K):J9 X (Zgt K):=by subst hK;exact ZaH
end L2
namespace RevF
open PySem PySem.Spec PyProof.Rows
section
variable {prog:Program} {w:World} {A:Around} {E:Value->Shared->Prop} {s:Shared} {a it:Addr} {us:Array Value}
end
end RevF
namespace TextM
open PySem
variable {c:Nat}
noncomputable def splitL (c:Nat):List Nat->List (List Nat)
 |[]=>[[]]
 |a::r=>if a=c then []::splitL c r else match splitL c r with
  |[]=>[[a]]
  |p::ps=>(a::p)::ps
theorem splitL_ne (c:Nat):∀l,∃p ps,splitL c l=p::ps
 |[]=>⟨_,_,rfl⟩
 |a::r=>by
  unfold splitL;by_cases h:a=c
  ·rw [Qb h];exact ⟨_,_,rfl⟩
  ·rw [Qa h];obtain ⟨p,ps,e⟩:=splitL_ne c r;rw [e];exact ⟨_,_,rfl⟩
theorem splitL_cons_ne {a:Nat} {r:List Nat} {p:List Nat} {ps:List (List Nat)} (h:a≠c) (e:splitL c r=p::ps):splitL c (a::r)=(a::p)::ps:=by
 rw [splitL,Qa h,e]
theorem splitL_cons_eq {r:List Nat}:splitL c (c::r)=[]::splitL c r:=by rw [splitL,Qb rfl]
noncomputable def XX (c:Nat):Nat->List Nat->List Nat
 |_,[]=>[]
 |k,a::r=>if a=c then k::XX c (k+1) r else XX c (k+1) r
theorem J5 {l:List Nat} {k:Nat} (lt:k<l.length):∃v,l.drop k=v::l.drop (k+1)∧l[k]?=some v:=⟨l[k],N0 lt,Qw lt⟩
theorem Vq (x:Str) (c:Nat) (lim:Nat) (hl:x.length<lim):∀(m k:Nat) (found:Array Nat) (free:Nat),k+m=x.length->found.size≤k->free≤k →
  (forIn (List.range' k (m+1)) (found,free) (StrLaws.occBody x ⟨#[c]⟩ x.length lim)).run.fst.toList=found.toList++XX c k (x.cps.toList.drop k)
 |0,k,found,free,hk,hs,hf=>by
  have e:x.cps.toList.drop k=[]:=Na (by rw [QD];show x.length≤k;omega);rw [e,XX,Qt];rw [Nb,List.range'_zero,Ge];have no:¬(k+(⟨#[c]⟩:Str).length≤x.length):=by show ¬(k+1≤x.length);omega
  unfold StrLaws.occBody;simp [no]
 |m+1,k,found,free,hk,hs,hf=>by
  have lt:k<x.cps.toList.length:=by rw [QD];show k<x.length;omega
  rw [Nb,Ge];obtain ⟨v,dr,ev⟩:=J5 lt;have sub:=StrLaws.subAt_one x c k;have i1:k+(⟨#[c]⟩:Str).length≤x.length:=by show k+1≤x.length;omega
  by_cases h:v=c
  ·have t:Builtin.Str.subAt x ⟨#[c]⟩ k=true:=(sub.mpr (by rw [ev,h])).2
   have st:StrLaws.occBody x ⟨#[c]⟩ x.length lim k (found,free)=pure (ForInStep.yield (found.push k,k+1)):=by
    unfold StrLaws.occBody;have z1:found.size<lim:=by omega
    simp [z1,hf,i1,t];rfl
   rw [st,pure_bind];have ih:=Vq x c lim hl m (k+1) (found.push k) (k+1) (by omega) (by simp;omega) (Qe _);rw [dr,XX,Qb h];simpa using ih
  ·have t:Builtin.Str.subAt x ⟨#[c]⟩ k=false:=by
    rw [QO];intro q;have:=sub.mp ⟨i1,q⟩;rw [ev] at this;exact h (Ql this)
   have st:StrLaws.occBody x ⟨#[c]⟩ x.length lim k (found,free)=pure (ForInStep.yield (found,free)):=by
    unfold StrLaws.occBody;simp [t]
   rw [st,pure_bind];have ih:=Vq x c lim hl m (k+1) found free (by omega) (by omega) (by omega);rw [dr,XX,Qa h];simpa using ih
theorem Zob (x:Str) (c:Nat):Builtin.Str.occurrences x ⟨#[c]⟩ 0 x.length (x.length+1)=XX c 0 x.cps.toList:=by
 rw [StrLaws.occ_eq];have:=Vq x c (x.length+1) (Ro _) x.length 0 #[] 0 (by omega) (Qe _) (Qe _);simpa using this
theorem ZcW (x:Str):∀(cuts:List Nat) (a:Nat),((a::cuts.map (·+1)).zip (cuts++[x.length])).map (fun p=>Builtin.Str.strSub x p.1 p.2)=match cuts with
  |[]=>[Builtin.Str.strSub x a x.length]
  |d::r=>Builtin.Str.strSub x a d::(((d+1)::r.map (·+1)).zip (r++[x.length])).map (fun p=>Builtin.Str.strSub x p.1 p.2)
 |[],a=>rfl
 |d::r,a=>rfl
theorem Zdi (x:Str) (c:Nat):∀(m k a:Nat),k+m=x.length->a≤k →
  ∃p ps,splitL c (x.cps.toList.drop k)=p::ps ∧
  ((a::(XX c k (x.cps.toList.drop k)).map (·+1)).zip (XX c k (x.cps.toList.drop k)++[x.length])).map (fun p=>Builtin.Str.strSub x p.1 p.2) =
   (⟨((x.cps.toList.drop a).take (k-a)++p).toArray⟩:Str)::ps.map fun q=>(⟨q.toArray⟩:Str)
 |0,k,a,hk,ha=>by
  have e:x.cps.toList.drop k=[]:=Na (by rw [QD];show x.length≤k;omega);rw [e];refine ⟨[],[],rfl,?_⟩;have ek:k=x.length:=by omega
  show [Builtin.Str.strSub x a x.length]=_;refine Qj (·::[]) (RW ?_);rw [←Rx,RX,←ek];simp
 |m+1,k,a,hk,ha=>by
  have lt:k<x.cps.toList.length:=by rw [QD];show k<x.length;omega
  obtain ⟨v,dr,ev⟩:=J5 lt;by_cases h:v=c
  ·obtain ⟨p,ps,e1,e2⟩:=Zdi x c m (k+1) (k+1) (by omega) (Qe _);refine ⟨[],p::ps,by rw [dr,h,splitL_cons_eq,e1],?_⟩;rw [dr,XX,Qb h,ZcW];simp only;rw [e2];simp only [RY,List.take_zero,GE,Qt,Qs];refine Qj (·::_) (RW ?_);rw [←Rx,RX]
  ·obtain ⟨p,ps,e1,e2⟩:=Zdi x c m (k+1) a (by omega) (by omega);refine ⟨v::p,ps,by rw [dr];exact splitL_cons_ne h e1,?_⟩;rw [dr,XX,Qa h,e2];refine Qj (·::_) ?_
   congr 2
   have:k+1-a=(k-a)+1:=by omega
   rw [this,GD,NG,show a+(k-a)=k by omega,ev];simp
theorem split_one (x:Str) (c:Nat) (hk:¬Builtin.Str.strKind x<Builtin.Str.strKind ⟨#[c]⟩):Txt.split x ⟨#[c]⟩=(splitL c x.cps.toList).map fun q=>(⟨q.toArray⟩:Str):=by
 obtain ⟨p,ps,e1,e2⟩:=Zdi x c x.length 0 0 (by omega) (Qe _);rw [Nc] at e1 e2
 have res:Builtin.Str.partsBetween x (XX c 0 x.cps.toList) (⟨#[c]⟩:Str).length=(splitL c x.cps.toList).map fun q=>(⟨q.toArray⟩:Str):=by
  rw [e1];unfold Builtin.Str.partsBetween;have l1:(⟨#[c]⟩:Str).length=1:=rfl;rw [l1];simpa using e2
 unfold Txt.split;by_cases h1:x.length<(⟨#[c]⟩:Str).length
 ·have z:x.cps.toList=[]:=by
   have:x.length<1:=h1;apply N1;rw [QD];show x.length=0;omega
  have zx:x=⟨#[]⟩:=RW (by rw [←Rx,z]);rw [Qb (by simp [h1]),zx];rfl
 ·rw [Qa (by simp [h1];exact Nat.not_lt.mp hk),Zob];by_cases h2:(XX c 0 x.cps.toList).isEmpty=true
  ·rw [Qb h2];rw [List.isEmpty_iff] at h2;rw [←res,h2];unfold Builtin.Str.partsBetween;simp only [R9,GE,List.zip_cons_cons,List.zip_nil_left,Qs];refine Qj (·::[]) (RW ?_);rw [←Rx,RX];simp [Str.length];rw [List.take_of_length_le (by rw [QD];exact Qe _)]
  ·rw [Qa h2,res]
noncomputable def VS (c:Nat):List Nat->List (List Nat)->List Nat
 |p,[]=>p
 |p,q::r=>p++c::VS c q r
theorem ZcH {c:Nat}:∀{p:List Nat} {r q:List Nat} {qs:List (List Nat)},c∉p->splitL c r=q::qs->splitL c (p++r)=(p++q)::qs
 |[],_,_,_,_,e=>e
 |a::p,r,q,qs,h,e=>by
  have h1:a≠c:=fun z=>h (by rw [z];exact QB ..);have h2:c∉p:=fun z=>h (Qx _ z);exact splitL_cons_ne h1 (ZcH h2 e)
theorem Zhv {c:Nat}:∀{ps:List (List Nat)} {p:List Nat},c∉p->(∀q∈ps,c∉q)->splitL c (VS c p ps)=p::ps
 |[],p,h,_=>by
  have:=ZcH (c:=c) (p:=p) (r:=[]) h rfl;simpa [VS] using this
 |q::ps,p,h,hs=>by
  have ih:=Zhv (ps:=ps) (p:=q) (hs q (QB ..)) fun x hx=>hs x (Qx _ hx);rw [VS];have:=ZcH (c:=c) (p:=p) (r:=c::VS c q ps) h (by rw [splitL_cons_eq,ih]);rw [this,Qt]
theorem Zae (c:Nat):∀(ps:List Str) (p:Str),((⟨#[c]⟩:Str).join (p::ps)).cps.toList=VS c p.cps.toList (ps.map (·.cps.toList))
 |[],p=>by
  show (p:Str).cps.toList=_;rfl
 |q::ps,p=>by
  have ih:=Zae c ps q;show (p++(⟨#[c]⟩:Str)++(⟨#[c]⟩:Str).join (q::ps)).cps.toList=_;rw [GF,GF,GG,GG,ih];simp [VS]
theorem ZjZ {p:Str} {ps:List Str} (hk:¬Builtin.Str.strKind ((⟨#[c]⟩:Str).join (p::ps))<Builtin.Str.strKind ⟨#[c]⟩) (h:∀q∈p::ps,c∉q.cps.toList):Txt.split ((⟨#[c]⟩:Str).join (p::ps)) ⟨#[c]⟩=p::ps:=by
 rw [split_one _ _ hk,Zae,Zhv (h p (QB ..)) (by
  intro q hq;obtain ⟨z,hz,rfl⟩:=Qg.mp hq;exact h z (Qx _ hz))]
 have e:((fun q:List Nat=>(⟨q.toArray⟩:Str))∘fun x:Str=>x.cps.toList)=id:=funext fun x=>by simp
 simp [e]
theorem kind_low {x:Str} (hc:c<256):¬Builtin.Str.strKind x<Builtin.Str.strKind ⟨#[c]⟩:=by
 have e:Builtin.Str.strKind ⟨#[c]⟩=1:=by
  unfold Builtin.Str.strKind;rw [Qb (by simp [hc])]
 rw [e];unfold Builtin.Str.strKind;split
 ·decide
 ·split<;>decide
end TextM
namespace L2
open PySem PySem.Spec PyProof.Rows
variable {A:Around} {X:Cx} {H:Hp} {pins:List (Addr×Obj)} {prog:Program} {s:Shared} {σ:St} {v:Value} {E Q:Value->Shared->Prop} {w:World}
theorem Jl:∀{zs:List Str} {us:List Value},Vals (zs.map V.str) us->StrsAre us zs
 |[],_,.nil=>.nil
 |z::zs,_,.cons r rs=>by
  obtain ⟨t,rfl⟩:=r;exact .cons z t (Jl rs)
def Zmq (K:W.Frag):V->List V->Hp->VK->Prop:=fun x xs H Q=>∃sep a zs,x=.str sep∧xs=[.ref a]∧(SqL K H a (zs.map V.str)∨SqT K H a (zs.map V.str))∧(zs.map (·.length)).sum+zs.length*sep.length≤16777216∧Q (.str (sep.join zs)) H
theorem Zhk (K:W.Frag) (hK:X.K=K:=by rfl):We X "str.join" (Zmq K):=by
 subst hK;intro pins s σ H x xs v us Q I rx r h;obtain ⟨sep,a,zs,rfl,rfl,ha,hz,q⟩:=h;obtain ⟨t,rfl⟩:=rx;obtain ⟨u,rfl,ru⟩:=Y5 r;cases (show u=Value.ref a from ru);rcases ha with ha|ha
 ·obtain ⟨its,rv,pl,_⟩:=I.list ha;refine join_list pl.isList (Jl rv) hz fun t' k=>⟨.str (sep.join zs),H,I.kept (t':=k) fun b u q=>q,?_,q⟩;exact ⟨t',by rw [Txt.join,StrLaws.glued_eq_join]⟩
 ·obtain ⟨its,rv,pl,_⟩:=I.tuple ha;refine join_tuple pl (Jl rv) hz fun t' k=>⟨.str (sep.join zs),H,I.kept (t':=k) fun b u q=>q,?_,q⟩;exact ⟨t',by rw [Txt.join,StrLaws.glued_eq_join]⟩
theorem ZdG:∀(zs:List Str) (n:Nat),Vals (zs.map V.str) (strsFrom n zs)
 |[],_=>.nil
 |z::zs,n=>.cons ⟨_,rfl⟩ (ZdG zs (n+1))
theorem ZpS (z:Str) (c:Nat):((TextM.splitL c z.cps.toList).map fun q=>(⟨q.toArray⟩:Str)).length≤z.length+1:=by
 rw [Qd]
 have go:∀l:List Nat,(TextM.splitL c l).length≤l.length+1:=by
  intro l
  induction l with
  |nil=>exact Qe _
  |cons a r ih =>
   obtain ⟨p,ps,e⟩:=TextM.splitL_ne c r;by_cases h:a=c
   ·subst h;rw [TextM.splitL_cons_eq,QG,QG];omega
   ·rw [TextM.splitL_cons_ne h e];rw [e] at ih;simp only [QG] at ih ⊢;omega
 have:=go z.cps.toList;rw [QD] at this;exact this
noncomputable def partsOf (c:Nat) (z:Str):List Str:=(TextM.splitL c z.cps.toList).map fun q=>(⟨q.toArray⟩:Str)
def Zn1 (c:Nat):V->List V->Hp->VK->Prop:=fun x xs H Q=>∃z,x=.str z∧xs=[.str ⟨#[c]⟩]∧z.length≤100000∧∀D,H D=none->Q (.ref D) (Zb H D (.lst ((partsOf c z).map V.str)))
theorem ZeK:100002≤sizeLine:=by decide
theorem Zfi (c:Nat) (hc:c<256):We X "str.split" (Zn1 c):=by
 intro pins s σ H x xs v us Q I rx r h;obtain ⟨z,rfl,rfl,hz,q⟩:=h;obtain ⟨t,rfl⟩:=rx;obtain ⟨u,rfl,ru⟩:=Y5 r;obtain ⟨t2,rfl⟩:=ru;have hb:=ZeK;have sp:=TextM.split_one z c (TextM.kind_low hc);have pl:=ZpS z c
 have fin:∀(us:List Value) (tk:Nat),Vals ((partsOf c z).map V.str) us->EP X pins σ Q (.ref s.heap.objs.size) { s with heap:=s.heap.push { cls:=.type "list",data:=.seq us.toArray },toks:=tk }:=fun us tk rv =>
  ⟨.ref _,_,I.laid (t':=tk) (o:=.lst ((partsOf c z).map V.str)) (fun b u e=>Qo _ e) (Qe _) (show ObjOk X.prog X.w _ _ _ (.lst ((partsOf c z).map V.str)) from ⟨by rw [Qd];unfold partsOf;omega,us,0,rv,Qu _ rfl⟩),rfl,q _ (I.hok.fresh (Qe _))⟩
 unfold Txt.split at sp;by_cases h1:(decide (z.length<(⟨#[c]⟩:Str).length)||decide (Builtin.Str.strKind z<Builtin.Str.strKind ⟨#[c]⟩))=true
 ·rw [Qb h1] at sp;refine Rt Ry rfl Gg (Gh _ _) (meets_str_split_cannot_occur z _ t t2 h1) (fin [.str z t] s.toks ?_);unfold partsOf;rw [←sp];exact .cons ⟨_,rfl⟩ .nil
 ·rw [Qa h1] at sp;by_cases h2:(Builtin.Str.occurrences z ⟨#[c]⟩ 0 z.length (z.length+1)).isEmpty=true
  ·rw [Qb h2] at sp;refine Rt Ry rfl Gg (Gh _ _) (meets_str_split_not_found z _ t t2 (QO.mpr h1) rfl h2) (fin [.str z t] s.toks ?_);unfold partsOf;rw [←sp];exact .cons ⟨_,rfl⟩ .nil
  ·rw [Qa h2] at sp;refine Rt Ry rfl Gg (Gh _ _) (meets_str_split_sep z _ t t2 (QO.mpr h1) rfl (QO.mpr h2) (by omega) (by rw [sp];omega)) (fin _ _ ?_);unfold partsOf;rw [←sp];exact ZdG _ _
def Zmu:V->Option Int->Option Int->Hp->VK->Prop:=fun x lo hi H Q=>∃z,x=.str z∧z.length≤sizeLine∧Q (.str (Txt.slice z lo hi)) H
theorem ZhB {o:Option Int} (h:IsPart v o):∃l:Option (Int×Tok),v=partValue l∧l.map (·.1)=o:=by
 cases h with
 |none=>exact ⟨none,rfl,rfl⟩
 |int i t=>exact ⟨some (i,t),rfl,rfl⟩
theorem ZeB:J9 X Zmu:=by
 intro pins s σ H x v vl vu lo hi sl Q I rx hs pl pu h;obtain ⟨z,rfl,hz,q⟩:=h;obtain ⟨t,rfl⟩:=rx;obtain ⟨l,rfl,el⟩:=ZhB pl;obtain ⟨u,rfl,eu⟩:=ZhB pu;refine ⟨"str",_,PyProof.Rows.slot_str_getitem.lookup,rfl,wpAny_getItem_str_slice (st:=none) hs rfl ?_⟩;unfold sliceMade slicePicked;rw [el,eu];show Made.post (if ((1:Int)==1&&(Builtin.Str.strSliceIndices lo hi 1 z.length).length==z.length)=true then _ else Made.str ⟨(List.filterMap (fun i=>z.cps[i]?) (Builtin.Str.strSliceIndices lo hi 1 z.length)).toArray⟩) _ _;have hle:=Txt.slice_le z lo hi;unfold Txt.slice at q hle;by_cases c:((1:Int)==1&&(Builtin.Str.strSliceIndices lo hi 1 z.length).length==z.length)=true
 ·rw [Qb c];rw [Qb c] at q;exact ⟨.str z,H,I,⟨_,rfl⟩,q⟩
 ·rw [Qa c];rw [Qa c] at q hle;exact ⟨Qi hle hz,.str _,H,I.tok _,⟨_,rfl⟩,q⟩
section
variable {CX:YH} {k:Nat} {f C:Addr} {fd:FuncData} {ps:List Str} {sp:Sp} {dvs:List V} {ds:List Value} {E:XS} {x m:Str} {p pos apos:Pos} {e o:Expr} {es:List Expr} {ta:TE} {t:TA}
def ZgV (C:Addr) (m:Str) (sp:Sp) (dvs:List V) (E:XS) (ta:TE) (t:TA):TE:=fun σ H Q=>ta σ H fun x H1=>∃a dx fs,x=.ref a∧H1 a=some (.ins C dx fs)∧fs.lookup m=none ∧
 t σ H1 fun vs H2=>sp (x::(vs++dvs)) H2 Q (E σ)
theorem Z1 {pl:Sem Bool} (he:PE X o ta) (c:Cls X.K C) (hm:Meth X.K C m f) (F:FnOk X.prog X.w X.K X.mg X.base CX k f fd ps sp) (hr:Room k X.A) (hb:Binds X.K fd ps ds) (hd:Vals dvs ds) (hx:Wp CX X E) (ha:PA X (e::es) t)
 (hst:starEach (e::es) X.env=(false,eval e X.env)::starEach es X.env:=by rfl) (hpl:(backTo pos (starEach es X.env)).any (·.1)=false:=by rfl)
 (ht:eval (.Call (.Attribute o m apos) (e::es) [] pos) X.env=(do
 let ov ←eval o X.env
 standAt apos.atName
 let (f,first) ←holding [ov] (getMethod ov m pl)
 callWith pos f first (backTo pos (starEach (e::es) X.env)) (backToKw pos (keywordEach [] X.env))):=by rfl) :
  PE X (.Call (.Attribute o m apos) (e::es) [] pos) (ZgV C m sp dvs E ta t):=by
 intro pins s σ H Q I h;refine W.methodCall_KW (pl:=pl) (Zq (he pins s σ H _ I h) fun u s1 ⟨x,H1,I1,rx,a,dx,fs,ex,ea,l,q⟩=>?_) ht;subst ex;obtain rfl:u=Value.ref a:=rx;refine J3 I1 ea c hm l ?_;refine RT (first:=[.ref a]) (h₀:=X.base) I.ok.mod.kin hm.kp (Zq (ha pos pins s1 σ H1 _ I1 q) fun us s2 ⟨vs,H2,I2,r,q2⟩=>⟨I2.kIn,?_⟩) hst hpl;exact US (us:=.ref a::us) (vs:=.ref a::vs) F hr hb hd hx I2 (.cons rfl r) q2
theorem ZjH {pl:Sem Bool} (he:PE X o ta) (c:Cls X.K C) (hm:Meth X.K C m f) (F:FnOk X.prog X.w X.K X.mg X.base CX k f fd ps sp) (hr:Room k X.A) (hb:Binds X.K fd ps ds) (hd:Vals dvs ds) (hx:Wp CX X E)
 (ht:eval (.Call (.Attribute o m apos) [] [] pos) X.env=(do
 let ov ←eval o X.env
 standAt apos.atName
 let (f,first) ←holding [ov] (getMethod ov m pl)
 callWith pos f first (backTo pos (starEach [] X.env)) (backToKw pos (keywordEach [] X.env))):=by rfl) :
  PE X (.Call (.Attribute o m apos) [] [] pos) (ZgV C m sp dvs E ta UP):=by
 intro pins s σ H Q I h;refine W.methodCall_KW (pl:=pl) (Zq (he pins s σ H _ I h) fun u s1 ⟨x,H1,I1,rx,a,dx,fs,ex,ea,l,q⟩=>?_) ht;subst ex;obtain rfl:u=Value.ref a:=rx;refine J3 I1 ea c hm l ?_;exact W.callWith_K0 (first:=[.ref a]) I1.kIn hm.kp (US (us:=[.ref a]) (vs:=[.ref a]) F hr hb hd hx I1 (.cons rfl .nil) q)
def Zfv (C:Addr) (sp:Sp) (dvs:List V) (E:XS) (t:TA):TE:=fun σ H Q=>t σ H fun vs H1=>∀x dx,H1 x=none->H1 dx=none->dx≠x →
 sp (.ref x::(vs++dvs)) (Zb (Zb H1 dx (.own x)) x (.ins C dx [])) (fun v H2=>v=.non∧Q (.ref x) H2) (E σ)
theorem ZfK {Q:VK} {us:List Value} {vs:List V} (M:Mk X.K C f) (F:FnOk X.prog X.w X.K X.mg X.base CX k f fd ps sp) (hr:Room (k+1) X.A) (hb:Binds X.K fd ps ds) (hd:Vals dvs ds)
 (hx:Wp CX X E) (I:Inv X pins σ H s) (r:Vals vs us)
 (h:∀x dx,H x=none->H dx=none->dx≠x->sp (.ref x::(vs++dvs)) (Zb (Zb H dx (.own x)) x (.ins C dx [])) (fun v H2=>v=.non∧Q (.ref x) H2) (E σ)) :
  wpAny (model X.prog X.w) X.A (call (.ref C) us) (EP X pins σ Q) X.xe s:=by
 have hq:=h (s.heap.objs.size+1) s.heap.objs.size (I.hok.fresh (QW _)) (I.hok.fresh (Qe _)) (QA (Ro _));have I2:=Inv.made (C:=C) I;have r2:Vals (V.ref (s.heap.objs.size+1)::(vs++dvs)) (Value.ref (s.heap.objs.size+1)::(us++ds)):=.cons rfl (r.append hd)
 have hl:(Value.ref (s.heap.objs.size+1)::us++ds).length=ps.length:=by
  have e:=r2.length;rw [F.len _ _ _ _ hq] at e;exact e.symm
 refine wpAny_call (Zno (f:=f) I.kIn M.makes M.init (Rs.mp M.fn) (Gu (F.run _ X.stack _ _ ⟨Value.ref (s.heap.objs.size+1)::us,[]⟩ (Value.ref (s.heap.objs.size+1)::(us++ds)) _ _ (E σ) (hr.make C us [])
  (I2.env0.make C us []) (hb _ (Value.ref (s.heap.objs.size+1)::us) I2.kIn hl) r2 hq) fun r s' hq'=>?_))
 cases r with
 |error e=>exact hx pins σ _ _ e s' I2 hq'
 |ok fl =>
  cases fl with
  |ret u =>
   obtain ⟨v,H',I3,rv,ev,q3⟩:=I2.after hq';subst ev;exact ⟨rv,⟨V.ref (s.heap.objs.size+1),H',I3,rfl,q3⟩⟩
  |next=>exact False.elim hq'
  |brk=>exact False.elim hq'
  |cont=>exact False.elim hq'
theorem Zap (M:Mk X.K C f) (F:FnOk X.prog X.w X.K X.mg X.base CX k f fd ps sp) (hr:Room (k+1) X.A) (hg:Gl X x) (hm:X.mg x=some (.ref C)) (hb:Binds X.K fd ps ds) (hd:Vals dvs ds) (hx:Wp CX X E)
 (ha:PA X (e::es) t) (hdb:(x==("__debug__": Str))=false:=by decide) (he:starEach (e::es) X.env=(false,eval e X.env)::starEach es X.env:=by rfl) (hpl:(backTo pos (starEach es X.env)).any (·.1)=false:=by rfl) :
  PE X (.Call (.Name x p) (e::es) [] pos) (Zfv C sp dvs E t):=by
 intro pins s σ H Q I h;refine RS (JE I hg hm ?_ hdb);refine RT (h₀:=X.base) I.ok.mod.kin M.kp (Zq (ha pos pins s σ H _ I h) fun us s1 ⟨vs,H1,I1,r,q⟩=>⟨I1.kIn,?_⟩) he hpl;exact ZfK M F hr hb hd hx I1 r q
theorem ZjR (M:Mk X.K C f) (F:FnOk X.prog X.w X.K X.mg X.base CX k f fd ps sp) (hr:Room (k+1) X.A) (hg:Gl X x) (hm:X.mg x=some (.ref C)) (hb:Binds X.K fd ps ds) (hd:Vals dvs ds) (hx:Wp CX X E)
 (hdb:(x==("__debug__": Str))=false:=by decide):PE X (.Call (.Name x p) [] [] pos) (Zfv C sp dvs E UP):=by
 intro pins s σ H Q I h;refine RS (JE I hg hm ?_ hdb);exact W.callWith_K0 I.kIn M.kp (ZfK (us:=[]) M F hr hb hd hx I .nil h)
end
theorem VQ:bootBuiltins "sorted"=some (.builtin "sorted"):=by trivial
theorem Jc:∀{us:List Value} {zs:List Str},StrsAre us zs->Vals (zs.map V.str) us
 |_,_,.nil=>.nil
 |_,_,.cons y t r=>.cons ⟨t,rfl⟩ (Jc r)
theorem Zqs (K:W.Frag) (hK:X.K=K:=by rfl):YN X (.builtin "sorted") (fun xs H Q=>∃l zs,xs=[.ref l]∧SqL K H l (zs.map V.str)∧zs.length<64∧∀D zs',H D=none->zs'.Perm zs->sortedS zs'=true->Q (.ref D) (Zb H D (.lst (zs'.map V.str)))):=by
 subst hK;intro pins s σ H xs us Q I r h;obtain ⟨l,zs,rfl,hq,hl,q⟩:=h;obtain ⟨u,rfl,ru⟩:=Y5 r;cases (show u=Value.ref l from ru);obtain ⟨its,rv,pl,hz⟩:=I.list hq;have hlen:=rv.length;rw [Qd] at hlen;refine sorted_strs pl.isList (Jl rv) (by omega) fun out zs' so hp hs=>?_;obtain ⟨e,he⟩:=sortedAll_at s.heap its out;have hle:s.heap.objs.size≤s.heap.objs.size+1:=QW _;have hl2:zs'.length=zs.length:=hp.length_eq;refine ⟨.ref _,_,I.laid (t':=s.toks) (o:=.lst (zs'.map V.str)) (fun b u q=>sortedAll_old q) hle (show ObjOk X.prog X.w _ _ _ (.lst (zs'.map V.str)) from ⟨by rw [Qd];exact Q1 (Zy (by omega)),out.toList,e,Jc so,he⟩),rfl,q _ zs' (I.hok.fresh hle) hp hs⟩
noncomputable def ZR (x y:Str):Bool:=decide (x.cps.toList<y.cps.toList)
noncomputable def YY (xs:Array (Str×Tok)):Array Value:=xs.map fun p=>.str p.1 p.2
noncomputable def Wh (xs:Array (Str×Tok)) (i:Nat):Str:=(xs[i]?.map (·.1)).getD ""
theorem ZgD {xs:Array (Str×Tok)} {i:Nat} (h:(YY xs)[i]?=some v):∃t,v=.str (Wh xs i) t:=by
 simp only [YY,Array.getElem?_map,QN] at h;obtain ⟨p,hp,rfl⟩:=h;exact ⟨p.2,by simp [Wh,hp]⟩
theorem ZiY {P:Nat->Value->Prop} (val:Nat->Str) (hval:∀i v,P i v->∃t,v=.str (val i) t):CmpOf prog w A .Gt P (fun i j=>ZR (val j) (val i)):=fun i j vi vj s Q E hi hj h=>by
 obtain ⟨t,rfl⟩:=hval i vi hi;obtain ⟨u,rfl⟩:=hval j vj hj;exact richCompare_gives (op:=.Gt) (R8 s _ t) (R8 s _ u) F.slot_str_gt F.entry_str_gt (F.args_str_gt_2 _ _) (gives_str_gt _ _ t u) (fun x=>nomatch x) h
theorem ZnA {P:Nat->Value->Prop} (val:Nat->Str) (hval:∀i v,P i v->∃t,v=.str (val i) t):CmpOf prog w A .Lt P (fun i j=>ZR (val i) (val j)):=fun i j vi vj s Q E hi hj h=>by
 obtain ⟨t,rfl⟩:=hval i vi hi;obtain ⟨u,rfl⟩:=hval j vj hj;exact richCompare_gives (op:=.Lt) (R8 s _ t) (R8 s _ u) F.slot_str_lt F.entry_str_lt (F.args_str_lt_2 _ _) (gives_str_lt _ _ t u) (fun x=>nomatch x) h
theorem Znz {a b:Str} {t u:Tok} (hh:A.handled=none)
 (h:∀h' tk,(∀c o,s.heap.get? c=some o->h'.get? c=some o)->Q (if ZR a b=true then .str b u else .str a t) { s with heap:=h',toks:=tk }) :
  wpAny (model prog w) A (call (.builtin "max") [.str a t,.str b u]) Q E s:=by
 have hT:(s.heap.push { cls:=.type "tuple",data:=.seq #[.str a t,.str b u] }).IsTuple s.heap.objs.size (YY #[(a,t),(b,u)]):=⟨_,Qu _ rfl,rfl,0,by simp [YY]⟩;refine call_max_two (Gp hT ?_);have hsz:(s.heap.push { cls:=.type "tuple",data:=.seq #[.str a t,.str b u] }).objs.size=s.heap.objs.size+1:=Rh ..
 refine ⟨_,[_,s.heap.objs.size],[_],_,_,_,_,rfl,Walks.tuple (A:=A.in1) hh _ s.heap.objs.size (by rw [hsz];exact QA (Ro _)) (YY #[(a,t),(b,u)]),
  ⟨⟨_,Qu _ rfl,rfl,rfl⟩,hT.push _⟩,fun c hc=>?_,by simp [YY],ZiY (Wh #[(a,t),(b,u)]) (fun _ _=>ZgD),fun v h' tk hP hk=>?_⟩
 ·show c<((s.heap.push _).push _).objs.size;rw [Rh,hsz];rcases Qh.mp hc with rfl|hc
  ·rw [hsz];exact Ro _
  ·rcases Qh.mp hc with rfl|hc
   ·exact GC (Ro _)
   ·cases hc
 ·have hold:∀c o,s.heap.get? c=some o->h'.get? c=some o:=fun c o e=>by
   refine hk c o (fun hm=>?_) (Qo _ (Qo _ e));rcases Qh.mp hm with e1|hm
   ·have:=Qn e;rw [e1,hsz] at this;exact Rm _ (Nat.lt_of_succ_lt this)
   ·cases hm
  have:=h h' tk hold
  have hv:v=if ZR a b=true then Value.str b u else Value.str a t:=by
   have hP':(YY #[(a,t),(b,u)])[argBest (fun i j=>ZR (Wh #[(a,t),(b,u)] j) (Wh #[(a,t),(b,u)] i)) 1]?=some v:=by
    have hsz2:(YY #[(a,t),(b,u)]).size-1=1:=by simp [YY]
    rw [←hsz2];exact hP
   have e0:argBest (fun i j=>ZR (Wh #[(a,t),(b,u)] j) (Wh #[(a,t),(b,u)] i)) 1=if ZR a b=true then 1 else 0:=by
    show (if _=true then 1 else 0)=_;rfl
   by_cases hba:ZR a b=true
   ·rw [e0,Qb hba] at hP';rw [Qb hba];simpa [YY] using hP'.symm
   ·rw [e0,Qa hba] at hP';rw [Qa hba];simpa [YY] using hP'.symm
  rw [hv];exact this
theorem ZnW {a b:Str} {t u:Tok} (hh:A.handled=none)
 (h:∀h' tk,(∀c o,s.heap.get? c=some o->h'.get? c=some o)->Q (if ZR b a=true then .str b u else .str a t) { s with heap:=h',toks:=tk }) :
  wpAny (model prog w) A (call (.builtin "min") [.str a t,.str b u]) Q E s:=by
 have hT:(s.heap.push { cls:=.type "tuple",data:=.seq #[.str a t,.str b u] }).IsTuple s.heap.objs.size (YY #[(a,t),(b,u)]):=⟨_,Qu _ rfl,rfl,0,by simp [YY]⟩;refine call_min_two (Gp hT ?_);have hsz:(s.heap.push { cls:=.type "tuple",data:=.seq #[.str a t,.str b u] }).objs.size=s.heap.objs.size+1:=Rh ..
 refine ⟨_,[_,s.heap.objs.size],[_],_,_,_,_,rfl,Walks.tuple (A:=A.in1) hh _ s.heap.objs.size (by rw [hsz];exact QA (Ro _)) (YY #[(a,t),(b,u)]),
  ⟨⟨_,Qu _ rfl,rfl,rfl⟩,hT.push _⟩,fun c hc=>?_,by simp [YY],ZnA (Wh #[(a,t),(b,u)]) (fun _ _=>ZgD),fun v h' tk hP hk=>?_⟩
 ·show c<((s.heap.push _).push _).objs.size;rw [Rh,hsz];rcases Qh.mp hc with rfl|hc
  ·rw [hsz];exact Ro _
  ·rcases Qh.mp hc with rfl|hc
   ·exact GC (Ro _)
   ·cases hc
 ·have hold:∀c o,s.heap.get? c=some o->h'.get? c=some o:=fun c o e=>by
   refine hk c o (fun hm=>?_) (Qo _ (Qo _ e));rcases Qh.mp hm with e1|hm
   ·have:=Qn e;rw [e1,hsz] at this;exact Rm _ (Nat.lt_of_succ_lt this)
   ·cases hm
  have:=h h' tk hold
  have hv:v=if ZR b a=true then Value.str b u else Value.str a t:=by
   have hP':(YY #[(a,t),(b,u)])[argBest (fun i j=>ZR (Wh #[(a,t),(b,u)] i) (Wh #[(a,t),(b,u)] j)) 1]?=some v:=by
    have hsz2:(YY #[(a,t),(b,u)]).size-1=1:=by simp [YY]
    rw [←hsz2];exact hP
   have e0:argBest (fun i j=>ZR (Wh #[(a,t),(b,u)] i) (Wh #[(a,t),(b,u)] j)) 1=if ZR b a=true then 1 else 0:=by
    show (if _=true then 1 else 0)=_;rfl
   by_cases hba:ZR b a=true
   ·rw [e0,Qb hba] at hP';rw [Qb hba];simpa [YY] using hP'.symm
   ·rw [e0,Qa hba] at hP';rw [Qa hba];simpa [YY] using hP'.symm
  rw [hv];exact this
theorem Zph {l:Addr} {vs:List Value} {Q:List Value->Shared->Prop} (hl:IsTup s.heap l vs.toArray)
 (h:Q vs { s with heap:=(s.heap.push (seqObj "list" #[] 0)).update s.heap.objs.size (Obj.mapSeq (·++vs.toArray)) }) (hsz:vs.length≤sizeLine) :
  wpAny (model prog w) A (collect (.ref l)) Q E s:=by
 obtain ⟨o,ho,hc,n,hd⟩:=id hl;unfold collect;refine Qc (wpAny_runValue (GB entry_proto_collect' ?_));show wpAny _ _ (do again (.builtin "list.__iadd__" ⟨[←newList [],.ref l],[]⟩)) _ _ s;refine Qc (Nd (Qf ⟨NF _ (by trivial),GB entry_list_iadd' ?_⟩));show wpAny _ _ (Builtin.List.listExtendWith (.ref s.heap.objs.size) (.ref l) (.ref s.heap.objs.size)) _ _ { s with heap:=s.heap.push (seqObj "list" #[] 0) };unfold Builtin.List.listExtendWith;have ho':(s.heap.push (seqObj "list" #[] 0)).get? l=some o:=Qo _ ho;refine Qc (wpAny_typeOf (T:="tuple") ⟨o,ho',hc⟩ ?_);have ht:(Value.type "tuple"==Value.type "tuple")=true:=by rfl
 rw [Qb (by rw [ht];simp)];refine Qc (listItems_at ho' hd ?_);refine Qc (listItems_at (xs:=#[]) (n:=0) (Qu _ rfl) rfl ?_);rw [Qa (by simp)];refine Qc (listUpdate_at (xs:=#[]) (n:=0) (Qu _ rfl) rfl ?_ (QL _) (by show (#[]++vs.toArray).size≤sizeLine+1;simp only [Array.size_append,Qz,Nz];omega));refine Qf ?_;refine Qc (wpAny_load (get?_update_seq (Qu _ rfl) _) ?_);show wpAny _ _ (pure ((#[]:Array Value)++vs.toArray).toList) Q E _;rw [show ((#[]:Array Value)++vs.toArray).toList=vs by simp];exact Qf h
theorem Zk1 {x:Value} {vs:List Value} {ss:List Str} (hS:StrsAre vs ss) (h64:vs.length<64)
 (hc:∀(A':Around) (Q':List Value->Shared->Prop),A'.handled=A.handled->(∀h1 tk,(∀b o,s.heap.get? b=some o->h1.get? b=some o)->s.heap.objs.size≤h1.objs.size->Q' vs { s with heap:=h1,toks:=tk })->wpAny (model prog w) A' (collect x) Q' E s)
 (h:∀h' tk a e (out:Array Value) (ss':List Str),(∀b o,s.heap.get? b=some o->h'.get? b=some o)->s.heap.objs.size≤a->h'.get? a=some (seqObj "list" out e)->StrsAre out.toList ss'->ss'.Perm ss->sortedS ss'=true->Q (.ref a) { s with heap:=h',toks:=tk }) :
  wpAny (model prog w) A (call (.builtin "sorted") [x]) Q E s:=by
 refine NH kind_sorted plain_sorted entry_sorted (args_sorted1 _) ?_;unfold Builtin.«sorted»;refine Qc (m:=checkCount "sorted" 1 1 _) (Qf ?_);refine Qc (hc _ _ rfl fun h1 tk k1 z1=>?_);refine Qc (Nd ?_);have hoL:(h1.push (seqObj "list" vs.toArray 0)).get? h1.objs.size=some (seqObj "list" vs.toArray 0):=Qu _ rfl;show wpAny _ _ _ _ _ { s with heap:=h1.push (seqObj "list" vs.toArray 0),toks:=tk };refine Qc (R7 (Rp slot_list_sort ⟨_,hoL,rfl⟩ entry_list_sort (list_sort_treeK strKind_oneLt hoL hS.keysOf (fun v₁ v₂ rest e=>keyKind_strs (by rw [←e];exact hS)) h64 fun st' a1 a2=>⟨_,rfl,?_⟩) (args_list_sort _)));obtain ⟨ss',b1,b2,b3⟩:=sorted_out_str hS a1 a2;obtain ⟨e,he⟩:=sortedHeap_at (out:=(arrOf st').map (·.2)) hoL;refine Qf ⟨_,rfl,h _ tk _ e _ ss' (fun b o q=>?_) z1 he b1 b2 b3⟩;have q1:=k1 _ _ q;have lt:b<h1.objs.size:=Qn q1;rw [sortedHeap_old (QA lt) (by rw [size_push'];exact GC lt)];exact Qo _ q1
theorem ZdT (hc:X.calm=true):YN X (.builtin "max") (fun xs H Q=>∃i j,xs=[.str i,.str j]∧Q (.str (if ZR i j=true then j else i)) H):=by
 intro pins s σ H xs us Q I r h;obtain ⟨i,j,rfl,q⟩:=h;obtain ⟨u,w',rfl,⟨t,rfl⟩,⟨t',rfl⟩⟩:=Uk r;refine Znz (I.ok.hd hc) fun h' tk k=>⟨_,H,I.kept k,?_,q⟩;by_cases hj:ZR i j=true
 ·rw [Qb hj,Qb hj];exact ⟨_,rfl⟩
 ·rw [Qa hj,Qa hj];exact ⟨_,rfl⟩
theorem Zc6 (hc:X.calm=true):YN X (.builtin "min") (fun xs H Q=>∃i j,xs=[.str i,.str j]∧Q (.str (if ZR j i=true then j else i)) H):=by
 intro pins s σ H xs us Q I r h;obtain ⟨i,j,rfl,q⟩:=h;obtain ⟨u,w',rfl,⟨t,rfl⟩,⟨t',rfl⟩⟩:=Uk r;refine ZnW (I.ok.hd hc) fun h' tk k=>⟨_,H,I.kept k,?_,q⟩;by_cases hj:ZR j i=true
 ·rw [Qb hj,Qb hj];exact ⟨_,rfl⟩
 ·rw [Qa hj,Qa hj];exact ⟨_,rfl⟩
theorem Zi3 (K:W.Frag) (hK:X.K=K:=by rfl):YN X (.builtin "sorted") (fun xs H Q=>∃l zs,xs=[.ref l]∧SqT K H l (zs.map V.str)∧zs.length<64∧∀D zs',H D=none->zs'.Perm zs->sortedS zs'=true->Q (.ref D) (Zb H D (.lst (zs'.map V.str)))):=by
 subst hK;intro pins s σ H xs us Q I r h;obtain ⟨l,zs,rfl,hq,hl,q⟩:=h;obtain ⟨u,rfl,ru⟩:=Y5 r;cases (show u=Value.ref l from ru);obtain ⟨its,rv,pl,hz⟩:=I.tuple hq;have hlen:=rv.length;rw [Qd] at hlen;refine Zk1 (Jl rv) (by omega) (fun A' Q' _ q'=>Zph pl (q' _ _ (fun b o e=>?_) ?_) (by rw [Qd] at hz;omega)) fun h' tk a e out zs' k1 z1 he so hp hs=>?_
 ·have lt:=Qn e;rw [Heap.get?_update_ne _ _ _ _ (QA lt)];exact Qo _ e
 ·rw [Heap.size_update,size_push'];exact QW _
 have hl2:zs'.length=zs.length:=hp.length_eq;exact ⟨.ref _,_,I.laid (t':=tk) (o:=.lst (zs'.map V.str)) k1 z1 (show ObjOk X.prog X.w _ _ _ (.lst (zs'.map V.str)) from ⟨by rw [Qd];exact Q1 (Zy (by omega)),out.toList,e,Jc so,he⟩),rfl,q _ zs' (I.hok.fresh z1) hp hs⟩
theorem ZoB {K:Type} [DecidableEq K] (knd:HeapKind prog w K) (d:Addr) (hd:(d==sysModules)=false) :
  MeetsIn prog w (Builtin.«dict.__len__» ⟨[.ref d],[]⟩) (fun _ R s=>∃kvs,s.heap.DictOfH knd d kvs∧R (.ok (.ret (.int kvs.length s.toks))) { s with toks:=s.toks+1 }) :=
 .of_wp fun A R s ⟨kvs,hm,h⟩=>by
  obtain ⟨o,es,ep,ho,hc,hdat,he,hk,hn⟩:=hm;show wpAny _ _ (dictSize d >>= _) _ _ s;unfold dictSize;refine Qc (Qc (GH ho hdat (Qf ?_)));show wpAny _ _ (Builtin.Dict.pendingCount d >>= _) _ _ s;refine Qc (wpAny_pendingCount_other hd ?_);refine wpAny_ret_mkInt ?_;have:es.size=kvs.length:=size_of_entries he;rw [Nat.add_zero,this];exact h
theorem Zmf {K:Type} [DecidableEq K] {knd:HeapKind prog w K} {d:Addr} {kvs:List (K×Addr×Value)} (hd:(d==sysModules)=false) (hm:s.heap.DictOfH knd d kvs) (hfit:(kvs.length:Int)<2 ^ 63)
 (h:Q (.int kvs.length (s.toks+1)) { s with toks:=s.toks+1+1 }):wpAny (model prog w) A (call (.builtin "len") [.ref d]) Q E s:=by
 refine NH kind_len plain_len entry_len (args_len1 _) ?_;unfold Builtin.«len»;refine Qc (m:=oneArg "len" _) (Qf ?_)
 refine Qc (m:=callSpecial? (.ref d) (Str.ofString "__len__")) (RG (name:=Str.ofString "__len__") hm.typeIs F.slot_dict_len
  (Gb F.slot_dict_len hm.typeIs F.entry_dict_len (F.args_dict_len_1 _) (ZoB knd d hd) ⟨kvs,hm,?_⟩))
 show wpAny _ _ _ _ _ { s with toks:=s.toks+1 };refine Qc (R7 (Qf ?_));refine Qc (G6 ?_);show wpAny _ _ (if ((kvs.length:Nat):Int)<0 then _ else _) _ _ _;rw [Qa (by omega)];show wpAny _ _ (if ((kvs.length:Nat):Int) ≥ 2 ^ 63 then _ else _) _ _ _;rw [Qa (by omega)];exact Qc (wpAny_mkInt (Qf ⟨_,rfl,h⟩))
theorem Zjy:YN X (.builtin "len") (fun xs H Q=>∃a kvs,xs=[V.ref a]∧H a=some (.dT kvs)∧Q (.int kvs.length) H):=by
 intro pins s σ H xs us Q I r h;obtain ⟨a,kvs,rfl,ha,q⟩:=h;obtain ⟨u,rfl,ru⟩:=Y5 r;cases ru;obtain ⟨z,hd,vs,rel,dd⟩:=Jy I.hok ha;refine Zmf hd dd (by rw [←rel.length];rw [Gr] at z;omega) ?_;rw [←rel.length];exact ⟨.int kvs.length,H,I.tok _,⟨_,rfl⟩,q⟩
section
variable {K:Type} [DecidableEq K] {knd:HeapKind prog w K}
theorem ZpL {d a:Addr} {xs:List (K×Addr×Value)} {k:K} (hu:knd.room A) (hkey:knd.is s.heap k a) (hm:s.heap.DictOfH knd d xs) (hsz:xs.length≤sizeLine)
 (h1:∀p,atKey xs k=some p->Q p.2 { s with toks:=s.toks+knd.draws k })
 (h2:atKey xs k=none->∀h',h'.DictOfH knd d (storedH xs k a v)->Heap.SameBut d s.heap h'->Q v { s with heap:=h',toks:=s.toks+knd.draws k }) :
  wpAny (model prog w) A (dictSetDefault d (.ref a) v) Q E s:=by
 obtain ⟨o,es,ep,ho,hc,hd,he,his,hn⟩:=hm;unfold dictSetDefault
 try with_reducible refine R7 ?_
 refine Qc (knd.pyHash hu hkey ?_);refine Qc (wpAny_dictFind_heap (s:={ s with toks:=s.toks+knd.draws k }) hu hkey ho hd he his hn ?_ ?_)
 ·intro hno;have hnot:k∉xs.map (·.1):=not_mem_keys_of_get hno
  refine Qc (R5 (Qc (wpAny_updateDictKeys (hz:=by have e:=size_of_entries he;omega) (s:={ s with toks:=s.toks+knd.draws k }) ho hd (Qf (h2 (Nf hno) _ ⟨_,_,ep+1,Heap.get?_update_self _ ho (Obj.isFreed_of_dict (Obj.data_mapDictKeys hd _)),
   hc.mapDictKeys _,Obj.data_mapDictKeys hd _,?_,?_,?_⟩ (Gd ..))))))
  ·rw [storedH_new (Nf hno)];simp [he,entryOfKey]
  ·rw [storedH_new (Nf hno)];intro x hx;rcases Qq.mp hx with hx|hx
   ·exact knd.keeps (his x hx) ho hd (Gd ..)
   ·simp only [QT] at hx;subst hx;exact knd.keeps hkey ho hd (Gd ..)
  ·rw [storedH_new (Nf hno)];rw [Qm,QY];refine ⟨hn,by simp,?_⟩;intro x hx y hy;simp only [Qs,R9,QT] at hy;subst hy;exact fun e=>hnot (e▸hx)
 ·intro j p hj;refine Qc (GH (s:={ s with toks:=s.toks+knd.draws k }) ho hd ?_);rw [entry_at he j,hj];exact Qc (R5 (Qf (h1 p (atKey_of_get hn hj))))
theorem ZjW (d a:Addr) (hd:(d==sysModules)=false) (dflt:Value) :
  MeetsIn prog w (Builtin.«dict.setdefault» ⟨[.ref d,.ref a,dflt],[]⟩) (fun A R s=>knd.room A.in1∧∃k xs,knd.is s.heap k a∧s.heap.DictOfH knd d xs∧xs.length≤sizeLine ∧
   (∀p,atKey xs k=some p->R (.ok (.ret p.2)) { s with toks:=s.toks+knd.draws k }) ∧
   (atKey xs k=none->∀h',h'.DictOfH knd d (storedH xs k a dflt)->Heap.SameBut d s.heap h'->R (.ok (.ret dflt)) { s with heap:=h',toks:=s.toks+knd.draws k })) :=
 .of_wp fun A R s ⟨hu,k,xs,hkey,hm,hz,h1,h2⟩=>by
  unfold Builtin.«dict.setdefault»;refine Qc ?_;unfold Builtin.Dict.keyAndDefault;refine Qc (wpAny_notOrdered_dict hm.typeIs ?_);show wpAny _ _ (pure (d,Value.ref a,some dflt)) _ _ s;refine Qf ?_;show wpAny _ _ (if (d==sysModules)=true then _ else (dictSetDefault d (.ref a) dflt >>= _)) _ _ s;rw [Qa (by rw [hd];exact QF)];exact Qc (ZpL hu hkey hm hz (fun p hp=>Qf ⟨p.2,rfl,h1 p hp⟩) fun hn h' hm' hs'=>Qf ⟨dflt,rfl,h2 hn h' hm' hs'⟩)
end
section
variable {a b:Addr} {kvs:List (List Zi×V)} {k:List Zi} {d:V} {r:Value}
theorem ZnO (hu:A.units+1<cLine) (I:Inv X pins σ H s) (e:H a=some (.dT kvs)) (eb:H b=some (.tup (k.map kV))) (l:kvs.length<sizeLine) (rd:RelV d r)
 (h1:∀v w' s',ZD kvs k=some v->RelV v w'->Inv X pins σ H s'->Q w' s') (h2:∀s',ZD kvs k=none->Inv X pins σ (Zb H a (.dT (kvs++[(k,d)]))) s'->Q r s') :
  wpAny (model X.prog X.w) A (call (.builtin "dict.setdefault") [.ref a,.ref b,r]) Q E s:=by
 obtain ⟨z,hd,xs,rel,dd⟩:=Jy I.hok e;have hz:xs.length≤sizeLine:=by rw [←GO rel];exact z
 have hv:=rel.val k
 refine Gb Ng dd.typeIs N2 (N3 _ _ _) (ZjW (knd:=tupleKind (Yw X.prog X.w)) a b hd r)
  ⟨Ga hu,k,xs,V5 I.hok eb,dd,hz,fun p hp=>?_,fun hn h' dd' hs=>?_⟩
 ·rw [hp] at hv;cases ho:ZD kvs k with
  |none=>rw [ho] at hv;cases hv
  |some v =>
   rw [ho] at hv;exact h1 v _ _ ho hv (I.tok _)
 ·rw [hn] at hv
  have ho:ZD kvs k=none:=by
   cases ho:ZD kvs k with
   |none=>rfl
   |some v=>rw [ho] at hv;cases hv
  refine h2 _ ho ?_;have hp:=rel.put k eb rd;rw [VE _ ho] at hp;have hl:(kvs++[(k,d)]).length≤sizeLine:=by rw [Qv];exact l
  obtain ⟨q,es,ep,hq,h2,h3,h4,_,h5⟩:=dd';refine ZeG I (by rw [e];exact True.intro) hs ⟨q,hq⟩ ⟨hl,hd,_,hp.keeps fun c ys ec=>?_,q,es,ep,hq,h2,h3,h4,h5⟩;rw [Zg (Zem ec e (fun z=>nomatch z))];exact ec
end
def Zk7 (td ty tx:TE):TE:=fun σ H Q=>td σ H fun x H1=>∃a,x=.ref a∧IsD H1 a∧ty σ H1 fun y H2=>tx σ H2 fun z H3=>∃kvs k b,H3 a=some (.dT kvs)∧y=.ref b∧H3 b=some (.tup (k.map kV))∧kvs.length<sizeLine ∧
 (∀v,ZD kvs k=some v->Q v H3)∧(ZD kvs k=none->Q z (Zb H3 a (.dT (kvs++[(k,z)]))))
section
variable {o e f:Expr} {apos cpos:Pos} {td ty tx:TE}
theorem J4 (hu:X.A.units+1<cLine) (ho:PE X o td) (he:PE X e ty) (hf:PE X f tx) (m:M2 X o "setdefault" apos e f cpos):PE X (.Call (.Attribute o "setdefault" apos) [e,f] [] cpos) (Zk7 td ty tx):=by
 intro pins s σ H Q I h;refine NC m.base m.few m.line GY Ng N4 (Zq (ho pins s σ H _ I h) fun u s1 ⟨x,H1,I1,rx,a,ex,d,q1⟩=>?_);subst ex;obtain rfl:u=Value.ref a:=rx;obtain ⟨t1,t2,_⟩:=Zb4 I1 d;refine ⟨t1,t2,?_⟩;rw [m.trees]
 refine Gx rfl (Gy (RO (Zq (he pins s1 σ H1 _ I1 q1) fun iv s2 ⟨y,H2,I2,ry,q2⟩ =>
  RO (Zq (hf pins s2 σ H2 _ I2 q2) fun fv s3 ⟨z,H3,I3,rz,kvs,k,b,ea,ey,eb,hl,q3,q4⟩=>GU ?_))))
 subst ey;obtain rfl:iv=Value.ref b:=ry;exact ZnO hu I3 ea eb hl rz (fun v w' s4 l rw' I4=>⟨v,H3,I4,rw',q3 v l⟩) fun s4 l I4=>⟨z,_,I4,rz,q4 l⟩
end
end L2
namespace L2
open PySem PySem.Spec PyProof.Rows PySem.W
section
variable {prog:Program} {w:World} {A:Around} {E:Value->Shared->Prop} {s:Shared} {T:String} {r d:Addr} {n:Nat} {P:Nat->Value->Prop} {OK:Heap->Prop}
theorem Zok {Q:List Value->Shared->Prop} (K:KdlSrc prog w T r d n P OK) (hh:A.handled=none) (hok:OK s.heap) (hn:n≤sizeLine)
  (h:∀h1 tk (acc:Array Value),(∀b o,s.heap.get? b=some o->h1.get? b=some o)->s.heap.objs.size≤h1.objs.size->ItemsOf P acc n->Q acc.toList { s with heap:=h1,toks:=tk }) :
  wpAny (model prog w) A (collect (.ref r)) Q E s:=by
 have hlt:=K.there _ hok;unfold collect;refine Qc (wpAny_runValue (GB entry_proto_collect' ?_));show wpAny _ _ (do again (.builtin "list.__iadd__" ⟨[←newList [],.ref r],[]⟩)) _ _ s;refine Qc (Nd (Qf ⟨NF _ (by trivial),GB entry_list_iadd' ?_⟩));show wpAny _ _ (Builtin.List.listExtendWith (.ref s.heap.objs.size) (.ref r) (.ref s.heap.objs.size)) _ _ { s with heap:=s.heap.push (seqObj "list" #[] 0) };have hS:(s.heap.push (seqObj "list" #[] 0)).get? s.heap.objs.size=some { cls:=.type "list",data:=.seq #[] 0 }:=Qu _ rfl;rw [Around.under_plainId (by trivial)]
 refine kdl_extend (R:=fun r s'=>match r with
  |.ok (.ret v)=>wpAny (model prog w) A (match v with
   |.ref a=>do match (←load a).data with
    |.seq xs _=>pure xs.toList
    |_=>unsupported "internal:collect"
   |_=>unsupported "internal:collect") Q E s'
  |.ok _=>False
  |.error e=>E e s') (A:=A) (s:={ s with heap:=s.heap.push (seqObj "list" #[] 0) }) K hh (K.keep _ _ hok fun b _ o e=>Qo _ e) s.heap.objs.size (RD hlt.1) (RD hlt.2) (.ref s.heap.objs.size) 0 hS (fun h' tk acc c hk hS' hacc=>?_) hn
 refine Qc (wpAny_load hS' ?_);exact Qf (h h' tk acc (fun b o e=>hk b o (QA (Qn e)) (Qo _ e)) (Q1 (Qn hS')) hacc)
theorem Zqe {x:Value} {ss:List Str} {Q:Value->Shared->Prop} (h64:ss.length<64)
  (hc:∀(A':Around) (Q':List Value->Shared->Prop),A'.handled=A.handled->(∀vs h1 tk,StrsAre vs ss->(∀b o,s.heap.get? b=some o->h1.get? b=some o)->s.heap.objs.size≤h1.objs.size->Q' vs { s with heap:=h1,toks:=tk })->wpAny (model prog w) A' (collect x) Q' E s)
  (h:∀h' tk a e (out:Array Value) (ss':List Str),(∀b o,s.heap.get? b=some o->h'.get? b=some o)->s.heap.objs.size≤a->h'.get? a=some (seqObj "list" out e)->StrsAre out.toList ss'->ss'.Perm ss->sortedS ss'=true->Q (.ref a) { s with heap:=h',toks:=tk }) :
  wpAny (model prog w) A (call (.builtin "sorted") [x]) Q E s:=by
 refine NH kind_sorted plain_sorted entry_sorted (args_sorted1 _) ?_;unfold Builtin.«sorted»;refine Qc (m:=checkCount "sorted" 1 1 _) (Qf ?_);refine Qc (hc _ _ rfl fun vs h1 tk hS k1 z1=>?_);refine Qc (Nd ?_);have hvl:vs.length<64:=by rw [←hS.strs,Qd] at h64;exact h64
 have hoL:(h1.push (seqObj "list" vs.toArray 0)).get? h1.objs.size=some (seqObj "list" vs.toArray 0):=Qu _ rfl;show wpAny _ _ _ _ _ { s with heap:=h1.push (seqObj "list" vs.toArray 0),toks:=tk };refine Qc (R7 (Rp slot_list_sort ⟨_,hoL,rfl⟩ entry_list_sort (list_sort_treeK strKind_oneLt hoL hS.keysOf (fun v₁ v₂ rest e=>keyKind_strs (by rw [←e];exact hS)) hvl fun st' a1 a2=>⟨_,rfl,?_⟩) (args_list_sort _)));obtain ⟨ss',b1,b2,b3⟩:=sorted_out_str hS a1 a2;obtain ⟨e,he⟩:=sortedHeap_at (out:=(arrOf st').map (·.2)) hoL;refine Qf ⟨_,rfl,h _ tk _ e _ ss' (fun b o q=>?_) z1 he b1 b2 b3⟩;have q1:=k1 _ _ q;have lt:b<h1.objs.size:=Qn q1;rw [sortedHeap_old (QA lt) (by rw [size_push'];exact GC lt)];exact Qo _ q1
end
section
variable {X:Cx}
theorem ZhL {P:Program} {w:World} {x:Str} {v:Value} (h:(Yw P w).is (.inr x) v=true):∃t,v=.str x t:=by
 rcases Wn (show Vp (.inr x) v=true from h) with ⟨i,t,e,_⟩|⟨y,t,e,e2⟩
 ·cases e
 ·cases e;exact ⟨t,e2⟩
theorem Zb7:∀{vs:List Value} {ss:List Str},vs.length=ss.length->(∀(i:Nat) (v:Value),vs[i]?=some v->∃x t,ss[i]?=some x∧v=.str x t)->StrsAre vs ss
 |[],[],_,_=>.nil
 |v::vs,x::ss,hl,h=>by
  obtain ⟨y,t,e,rfl⟩:=h 0 v rfl;cases (show some x=some y from e)
  exact .cons x t (Zb7 (by simpa using hl) fun i u hu=>by
   obtain ⟨z,t',e1,e2⟩:=h (i+1) u (by simpa using hu);exact ⟨z,t',by simpa using e1,e2⟩)
theorem J6 (hc:X.calm=true):YN X (.builtin "sorted") (fun xs H Q=>∃(l:Addr) (zs:List (Str×V)),xs=[.ref l]∧H l=some (.dK (zs.map fun p=>(.inr p.1,p.2)))∧zs.length<64∧∀D zs',H D=none->zs'.Perm (zs.map (·.1))->sortedS zs'=true->Q (.ref D) (Zb H D (.lst (zs'.map V.str)))):=by
 intro pins s σ H xs us Q I r h;obtain ⟨l,zs,rfl,hq,hl,q⟩:=h;obtain ⟨u,rfl,ru⟩:=Y5 r;cases (show u=Value.ref l from ru);obtain ⟨z,hd,vs,rel,dd⟩:=JQ I.hok hq;obtain ⟨ep,da⟩:=dd.dictAt;have hlen:vs.length=zs.length:=by rw [←rel.length,Qd]
 have keyAt:∀(i:Nat) (k:Zi) (x:Value),vs[i]?=some (k,x)->∃z,(zs.map (·.1))[i]?=some z∧k=.inr z:=by
  have go:∀{ys:List (Str×V)} {ws:List (Zi×Value)},KV (ys.map fun p=>((.inr p.1:Zi),p.2)) ws->∀(i:Nat) (k:Zi) (x:Value),ws[i]?=some (k,x)->∃z,(ys.map (·.1))[i]?=some z∧k=.inr z:=by
   intro ys
   induction ys with
   |nil=>intro ws r i k x e;cases r;cases e
   |cons y ys ih =>
    intro ws r i k x e;cases r with
    |cons h t =>
     cases i with
     |zero =>
      rw [Nh] at e;cases e;exact ⟨y.1,rfl,h.1.symm⟩
     |succ i =>
      rw [RZ] at e;obtain ⟨z,e1,e2⟩:=ih t i k x e;exact ⟨z,by simpa using e1,e2⟩
  exact go rel
 have col:∀(acc:Array Value),ItemsOf (fun i v=>∃k x,vs[i]?=some (k,x)∧(Yw X.prog X.w).is k v=true) acc vs.length->StrsAre acc.toList (zs.map (·.1)):=by
  intro acc hacc;refine Zb7 (by rw [Qd,←hlen,QD];exact hacc.1) fun i v e=>?_;obtain ⟨k,x,e1,e2⟩:=hacc.2 i v (by rw [←GX];exact e);obtain ⟨z,e3,rfl⟩:=keyAt i k x e1;obtain ⟨t,rfl⟩:=ZhL e2;exact ⟨z,t,e3,rfl⟩
 refine Zqe (ss:=zs.map (·.1)) (by rw [Qd];exact hl) (fun A' Q' hA q'=>Zok (kdl_dict hd) (by rw [hA];exact I.ok.hd hc) da (by rw [hlen];exact Q1 (Zy (by omega))) fun h1 tk acc k1 z1 hacc=>q' _ h1 tk (col acc hacc) k1 z1) fun h' tk a e out zs' k1 z1 he so hp hs=>?_;have hl2:zs'.length=zs.length:=by rw [hp.length_eq,Qd]
 exact ⟨.ref _,_,I.laid (t':=tk) (o:=.lst (zs'.map V.str)) k1 z1 (show ObjOk X.prog X.w _ _ _ (.lst (zs'.map V.str)) from ⟨by rw [Qd];exact Q1 (Zy (by omega)),out.toList,e,Jc so,he⟩),rfl,q _ zs' (I.hok.fresh z1) hp hs⟩
end
end L2
namespace L2
open PySem PySem.Spec PyProof.Rows
variable {f:Addr} {X:Cx} {st:Stmt} {qual:Str} {K:W.Frag}
theorem ZfZ (val:Nat->Int):∀k:Nat,argBest (fun i j=>decide (val i > val j)) k≤k∧∀i,i≤k->val i≤val (argBest (fun i j=>decide (val i > val j)) k)
 |0=>⟨Qe _,fun i hi=>by cases (show i=0 by omega);exact Ni _⟩
 |k+1=>by
  obtain ⟨h1,h2⟩:=ZfZ val k;show (if decide (val (k+1) > val (argBest _ k))=true then k+1 else argBest _ k)≤k+1∧∀i,i≤k+1->val i≤val (if decide (val (k+1) > val (argBest _ k))=true then k+1 else argBest _ k);by_cases h:val (k+1) > val (argBest (fun i j=>decide (val i > val j)) k)
  ·rw [Qb (Qr h)];refine ⟨Qe _,fun i hi=>?_⟩;by_cases e:i=k+1
   ·subst e;exact Ni _
   ·have:=h2 i (by omega);omega
  ·rw [Qa (by rw [Qk h];decide)];refine ⟨by omega,fun i hi=>?_⟩;by_cases e:i=k+1
   ·subst e;omega
   ·exact h2 i (by omega)
theorem ZgZ:∀{us:List Value} {is:List Int},Vals (is.map V.int) us->∃ps:List (Int×Tok),us=ps.map (fun p=>Value.int p.1 p.2)∧ps.map (·.1)=is
 |us,[],r=>by cases r;exact ⟨[],rfl,rfl⟩
 |us,i::is,r=>by
  cases r with
  |cons h t =>
   obtain ⟨tk,rfl⟩:=h;obtain ⟨ps,rfl,e⟩:=ZgZ t;exact ⟨(i,tk)::ps,rfl,by rw [Qs,e]⟩
theorem ZjB (K:W.Frag) (hc:X.calm=true) (hK:X.K=K:=by rfl):YN X (.builtin "max") (fun xs H Q=>∃(l:Addr) (is:List Int),xs=[.ref l]∧SqL K H l (is.map V.int)∧is≠[]∧∀m,m∈is->(∀x∈is,x≤m)->Q (.int m) H):=by
 subst hK;intro pins s σ H xs us Q I r h;obtain ⟨l,is,rfl,hq,hne,q⟩:=h;obtain ⟨u,rfl,ru⟩:=Y5 r;cases (show u=Value.ref l from ru);obtain ⟨its,rv,pl,hz⟩:=I.list hq;obtain ⟨ps,rfl,rfl⟩:=ZgZ rv
 have hl:s.heap.IsList l (intItems ps.toArray):=by
  have:=pl.isList
  rwa [show (ps.map fun p=>Value.int p.1 p.2).toArray=intItems ps.toArray by simp [intItems]] at this
 have hpos:0<ps.length:=List.length_pos_iff.mpr (fun e=>hne (by rw [e];rfl));refine max_intList (I.ok.hd hc) hl (by simpa using hpos) fun v h' tk e k=>?_;obtain ⟨b1,b2⟩:=ZfZ (numAt ps.toArray) (ps.toArray.size-1);obtain ⟨t,rfl⟩:=intItems_at e;generalize argBest (fun i j=>decide (numAt ps.toArray i > numAt ps.toArray j)) (ps.toArray.size-1)=n at *;have hn:n<ps.length:=by rw [Qz] at b1;omega
 have val:∀i (hi:i<ps.length),numAt ps.toArray i=(ps[i]).1:=fun i hi=>by simp [numAt,hi]
 refine ⟨.int (numAt ps.toArray n),H,I.kept k,⟨t,rfl⟩,q _ ?_ fun x hx=>?_⟩
 ·rw [val n hn];exact Qg.mpr ⟨ps[n],Nj _,rfl⟩
 ·obtain ⟨p,hp,rfl⟩:=Qg.mp hx;obtain ⟨i,hi,rfl⟩:=Gi hp;rw [←val i hi];exact b2 i (by rw [Qz];omega)
section
variable {pins:List (Addr×Obj)} {σ:St} {H H':Hp} {s:Shared} {d:Addr} {kvs:List (Zi×V)} {o:Obj}
theorem Inv.thaw (I:Inv X pins σ H s) (e:H d=some (.frz o (.dK kvs))) (n:∀o u,X.H₀ d≠some (.frz o u)):Inv X pins σ (Zb H d (.dK kvs)) s:=by
 have ne:∀b,H b=none->b≠d:=fun b z q=>by subst q;rw [e] at z;cases z
 refine ⟨I.ok,I.os,I.bare,⟨I.base.keep,I.base.slot,fun b q h1 h2 h3=>?_,I.base.there,fun b xs h1=>?_,fun b q u h1=>?_,fun b ps h1=>?_⟩,I.loc,I.cell,?_,fun x c h1=>?_,fun p hp=>?_,fun b u h1=>?_,I.len⟩
 ·have:=I.base.free b q h1 h2 h3;rw [Zg (ne b this)];exact this
 ·have:=I.base.tups b xs h1;rw [Zg (fun z=>by subst z;rw [e] at this;cases this)];exact this
 ·have:=I.base.frzs b q u h1;rw [Zg (fun z=>by subst z;exact n _ _ h1)];exact this
 ·obtain ⟨more,this⟩:=I.base.tbls b ps h1;exact ⟨more,by rw [Zg (fun z=>by subst z;rw [e] at this;cases this)];exact this⟩
 ·rw [Zg (ne _ I.free)];exact I.free
 ·have:=I.freeC x c h1;rw [Zg (ne _ this)];exact this
 ·obtain ⟨a1,a2,a3⟩:=I.pin p hp;exact ⟨a1,by rw [Zg (ne _ a2)];exact a2,a3⟩
 ·by_cases z:b=d
  ·subst z;rw [Ze] at h1;cases h1;exact (show ObjOk X.prog X.w _ _ _ (.dK kvs) from (I.hok b _ e).2)
  ·rw [Zg z] at h1;refine (I.hok b u h1).stay (fun c v hc q=>q) (fun c q=>?_) fun c xs q=>?_
   ·rw [Zg (fun z=>by subst z;rw [e] at q;cases q)];exact q
   ·rw [Zg (fun z=>by subst z;rw [e] at q;cases q)];exact q
end
theorem Zhh:∀{kvs:List (Zi×V)} {vs:List (Zi×Value)},KV kvs vs->∀(i:Nat) (p:Zi×V),kvs[i]?=some p->∃x,vs[i]?=some (p.1,x)
 |[],_,r,i,p,e=>by cases e
 |q::kvs,_,r,i,p,e=>by
  cases r with
  |@cons _ y _ _ h t =>
   cases i with
   |zero =>
    cases (show some q=some p from e);exact ⟨y.2,by rw [Nh,h.1]⟩
   |succ i =>
    rw [RZ] at e;obtain ⟨x,hx⟩:=Zhh t i p e;exact ⟨x,by rw [RZ];exact hx⟩
theorem ZoH {k:Zi} {v:Value} (h:Vp k v=true):RelV (kV k) v:=by
 rcases Wn h with ⟨i,t,rfl,rfl⟩|⟨x,t,rfl,rfl⟩
 ·exact ⟨t,rfl⟩
 ·exact ⟨t,rfl⟩
noncomputable def J8 (d:Addr) (o:Obj) (kvs:List (Zi×V)):It where
 go:=fun i H=>H d=some (.frz o (.dK kvs))∧i<kvs.length
 stop:=fun i H=>H d=some (.frz o (.dK kvs))∧kvs.length≤i
 yld:=fun i H x H'=>H'=H∧(kvs[i]?.map fun p=>kV p.1)=some x
theorem Zlg {P:Program} {w:World} {tg:Expr} (d it:Addr) (o:Obj) (kvs:List (Zi×V)) (es:Array DictEntry) (ep:Nat) (ho:o.data=.dict es ep):Turn P w K tg (J8 d o kvs) [it] it (fun i h=>h.IsKeyIter it d i kvs.length ep) where
 mem:=by simp
 obj:=fun i h st b hb=>by
  have e:b=it:=by simpa using hb
  subst e;obtain ⟨o,e,c,d⟩:=st;exact ⟨o,e,fun v z=>by rw [d] at z;cases z⟩
 keep:=fun i h h' st k=>st.at fun o e=>k it (by simp) o e
 item:=by
  intro X hP hw hK hc i pins s σ H E I hf st hg;subst hP hw hK;obtain ⟨hq,hi⟩:=hg;obtain ⟨g1,g2⟩:=(show s.heap.get? d=some o∧ObjOk X.prog X.w H s.heap d (.dK kvs) from I.hok d _ hq);obtain ⟨z,hd,vs,rel,dd⟩:=(show kvs.length≤sizeLine∧(d==sysModules)=false∧∃vs,KV kvs vs∧s.heap.DictOf (Yw X.prog X.w) d vs from g2);obtain ⟨o2,es2,ep2,b1,b2,b3,b4⟩:=dd;rw [g1] at b1;cases b1;rw [ho] at b3;cases b3;have da:s.heap.DictAt (Yw X.prog X.w) d vs ep:=⟨o,es,g1,b2,ho,b4⟩;have hlen:vs.length=kvs.length:=rel.length.symm;obtain ⟨x,hx⟩:=Zhh rel i kvs[i] (Qw hi);obtain ⟨f0,f1,f2,f3,f4,f5⟩:=hf it (by simp);rw [←hlen] at st;refine wpAny_pyNext_dict_item st da hx fun key h' hkey st' sb=>?_;have I1:Inv X pins σ H { s with heap:=h' }:=I.turned (t':=s.toks) (fun b o hb e=>(sb.2 b hb).trans e) f0 f1 f3 f4 f5;rw [hlen] at st';obtain ⟨o3,e3,c3,d3⟩:=id st';exact ⟨key,rfl,JI (s:={ s with heap:=h' }) e3 c3 d3 (by decide) ⟨kV kvs[i].1,H,I1,ZoH hkey,⟨rfl,by rw [Qw hi];rfl⟩,st',fun b hb=>(hf b hb).1⟩⟩
 done:=by
  intro X hP hw hK hc i pins s σ H E I hf st hg;subst hP hw hK;obtain ⟨hq,hi⟩:=hg;obtain ⟨g1,g2⟩:=(show s.heap.get? d=some o∧ObjOk X.prog X.w H s.heap d (.dK kvs) from I.hok d _ hq);obtain ⟨z,hd,vs,rel,dd⟩:=(show kvs.length≤sizeLine∧(d==sysModules)=false∧∃vs,KV kvs vs∧s.heap.DictOf (Yw X.prog X.w) d vs from g2);obtain ⟨o2,es2,ep2,b1,b2,b3,b4⟩:=dd;rw [g1] at b1;cases b1;rw [ho] at b3;cases b3;have da:s.heap.DictAt (Yw X.prog X.w) d vs ep:=⟨o,es,g1,b2,ho,b4⟩;have hlen:vs.length=kvs.length:=rel.length.symm;obtain ⟨f0,f1,f2,f3,f4,f5⟩:=hf it (by simp);rw [←hlen] at st;exact wpAny_pyNext_dict_end (I.ok.hd hc) st da (List.getElem?_eq_none (by omega)) fun h' eb=>⟨rfl,I.turned (t':=s.toks) (fun b o hb e=>eb b o hb e) f0 f1 f3 f4 f5⟩
 self:=fun _ _ _ _ _ st h=>wpAny_pyIter_keyiter st h
def ZnI (tl:TE):TI:=fun σ H R=>tl σ H fun x H1=>∃a kvs,x=.ref a∧H1 a=some (.dK kvs)∧∀o,R (J8 a o kvs) (Zb H1 a (.frz o (.dK kvs)))
theorem Zal {tg l:Expr} {tl:TE} (hl:PE X l tl):PI X tg l (ZnI tl):=by
 intro pins s σ H R I h;refine Zq (hl pins s σ H _ I h) fun v s1 ⟨x,H1,I1,r1,q1⟩=>?_;obtain ⟨a,kvs,e,ha,q⟩:=q1;subst e;cases r1;obtain ⟨z,hd,vs,rel,dd⟩:=JQ I1.hok ha;obtain ⟨o,es,ep,b1,b2,b3,b4⟩:=id dd;have da:s1.heap.DictAt (Yw X.prog X.w) a vs ep:=⟨o,es,b1,b2,b3,b4⟩;have hlen:vs.length=kvs.length:=rel.length.symm
 have If:Inv X pins σ (Zb H1 a (.frz o (.dK kvs))) s1 :=
  I1.write (x:=a) (e:=a) (o:=.frz o (.dK kvs)) (h':=s1.heap) (t':=s1.toks) (by rw [ha];exact True.intro) (.inl rfl) (fun b u _ e=>e) ⟨o,b1⟩ ⟨b1,z,hd,vs,rel,dd⟩
 refine wpAny_pyIter_dict hd da ?_;refine ⟨s1.heap.objs.size,[s1.heap.objs.size],_,_,_,rfl,If.kept (t':=s1.toks) fun b o e=>Qo _ e,Zlg a _ o kvs es ep b3,⟨_,Qu _ rfl,rfl,by rw [hlen];rfl⟩,fun b hb=>?_,q o⟩;have e:b=s1.heap.objs.size:=by simpa using hb
 subst e;exact If.fpOk (Qe _) (If.hok.fresh (Qe _))
def Xe (D:Addr) (H H':Hp):Prop:=∀b u,b≠D->H b=some u->H' b=some u
theorem Zif {J:It} {σ0:St} {g:TG} {te:TE} {Q:VK} {H1:Hp} (n:Nat) (P:Nat->Hp->V->Prop) (mono:∀i H H' v D xs,P i H v->H D=some (.lst xs)->Xe D H H'->P i H' v) (hn:n<sizeLine) (σP:St->Prop) (h0:σP σ0)
 (go:∀i H,i<n->Same H1 H->J.go i H) (stop:∀H,Same H1 H->J.stop n H)
 (step:∀i σ H x H',i<n->σP σ->Same H1 H->J.yld i H x H'->∀C:V->St->Hp->Prop,(∀y σ2 H6,σP σ2->Same H H6->P i H6 y->C y σ2 H6)->g x σ H' fun σ2 H4=>te σ2 H4 fun y' H6=>C y' σ2 H6)
 (fin:∀D ys H',H1 D=none->Same H1 H'->H' D=some (.lst ys)->ys.length=n->(∀i y,ys[i]?=some y->P i H' y)->Q (.ref D) H'):Jd J σ0 g Zei te Q H1:=by
 intro D hD
 have keep:∀{H:Hp} {o:HO},Same H1 H->Same H1 (Zb H D o):=fun {H o} e b u q=>by
  rw [Zg (ZV q hD)];exact e b u q
 refine ⟨fun i m σ ys H=>i≤n∧m=n-i∧σP σ∧ys.length=i∧(∀j y,ys[j]?=some y->P j H y)∧H D=some (.lst ys)∧Same H1 H,⟨_,QL _,rfl,h0,rfl,fun j y e=>by simp at e,Ze,keep (Same.refl H1)⟩,?_⟩;rintro i m σ ys H ⟨hi,rfl,p,hy,hP,hd,sm⟩;refine ⟨hd,?_⟩;by_cases lt:i<n
 ·refine .inr ⟨go i H lt sm,fun σ2 ys2 H3=>σP σ2∧ys2.length=i+1∧(∀j y,ys2[j]?=some y->P j H3 y)∧H3 D=some (.lst ys2)∧Same H1 H3,fun σ2 ys2 H3 ⟨a,b,c,d,e⟩=>⟨_,by omega,lt,rfl,a,b,c,d,e⟩,fun x H3 y=>?_⟩;refine step i σ H x H3 lt p sm y (fun y' σ2 H6=>H6 D=some (.lst ys)∧ys.length<sizeLine∧σP σ2∧(ys++[y']).length=i+1∧(∀j z,(ys++[y'])[j]?=some z->P j (Zb H6 D (.lst (ys++[y']))) z)∧Zb H6 D (.lst (ys++[y'])) D=some (.lst (ys++[y']))∧Same H1 (Zb H6 D (.lst (ys++[y'])))) fun y' σ2 H6 p2 s6 hp6=>?_;have hd6:=s6 _ _ hd;have bt:Xe D H6 (Zb H6 D (.lst (ys++[y']))):=fun b u nb e=>by rw [Zg nb];exact e
  refine ⟨hd6,by omega,p2,by simp [hy],fun j z e=>?_,Ze,keep (sm.trans s6)⟩;by_cases jl:j<ys.length
  ·rw [RF jl] at e;exact mono j H _ z D _ (hP j z e) hd (fun b u nb e=>bt b u nb (s6 b u e))
  ·have e0:j=i:=by
    have:=(QC.mp e).1;simp at this;omega
   subst e0;rw [RE (by omega),hy,RY] at e;cases (show y'=z by simpa using e);exact mono j H6 _ _ D _ hp6 hd6 bt
 ·have e:i=n:=by omega
  subst e;exact .inl ⟨stop H sm,fin D ys H hD sm hd hy hP⟩
def Zo7 (t:TS):TS:=fun D σ H=>∃d kvs,H d=some (.dK kvs)∧t { nx:=fun σ' H'=>∃o,H' d=some (.frz o (.dK kvs))∧D.nx σ' (Zb H' d (.dK kvs)),rt:=fun _ _=>False } σ H
theorem Zax {t:TS} (hs:PS X st t):PS X st (Zo7 t):=by
 intro pins s σ H D I h;obtain ⟨d,kvs,hd,h⟩:=h
 have n:∀o u,X.H₀ d≠some (.frz o u):=fun o u z=>by
  have:=I.base.frzs d o u z;rw [hd] at this;cases this
 refine Zq (hs pins s σ H _ I h) fun fl s1 q=>?_;cases fl with
 |next =>
  obtain ⟨σ1,H1,I1,o,e1,q1⟩:=q;exact ⟨σ1,_,I1.thaw e1 n,q1⟩
 |brk=>obtain ⟨σ1,H1,I1,z⟩:=q;exact z.elim
 |cont=>obtain ⟨σ1,H1,I1,z⟩:=q;exact z.elim
 |ret u=>obtain ⟨v,σ1,H1,I1,r,z⟩:=q;exact z.elim
structure FunD (K:W.Frag) (x qual:Str) (st:Stmt) (f:Addr) (fd:FuncData) (dV:Value):Prop where
 ex:∃(oc:Value) (od:Option Addr) (kV doc pm:Value) (an:Option Addr) (cdv ct:Value) (osl:Array (Option Value)),
  fd=W.fnOf x qual (XW st) (XB st) (Zx st) dV kV doc pm an cdv ct∧K.lookup f=some ⟨oc,od,.func fd,osl⟩∧W.codeIn K cdv qual=true
 kp:W.keepIn K (.ref f)=true
theorem FunD.okX {P:Program} {w:World} {mg:Str->Option Value} {base:Heap} {CX:YH} {x:Str} {fd:FuncData} {dV:Value} {N ps:List Str} {k:Nat} {sp:Sp} (F:FunD K x qual st f fd dV) (S:FnScope N ps (Zx st))
 (len:∀vs H Q E,sp vs H Q E->vs.length=ps.length)
 (hbody:∀(cdv:Value) (A:Around) (outer:List Env) (s:Shared) (H:Hp) (vs:List V) (Q:VK) (E:XK),Room k (A.deeper (envOfC qual (Zx st) s.heap.objs.size f cdv))->sp vs H Q E →
 ∃t,PSs (W2 CX P w K mg base N qual (Zx st) f cdv A outer s H E) (XB st) t∧t { nx:=fun _ H'=>Q .non H',rt:=Q } (start N vs) H):FnOk P w K mg base CX (k+1) f fd ps sp:=by
 obtain ⟨oc,od,kV,doc,pm,an,cdv,ct,osl,rfl,lk,hcd⟩:=F.ex;exact ZgH lk hcd S len fun A outer s H vs Q E hr hsp=>hbody cdv A outer s H vs Q E hr hsp
theorem ZiC {x:Str} {oc:Value} {od an:Option Addr} {osl:Array (Option Value)} {dV kV doc pm cdv ct:Value} (l:K.lookup f=some ⟨oc,od,.func (W.fnOf x qual (XW st) (XB st) (Zx st) dV kV doc pm an cdv ct),osl⟩)
 (c:W.codeIn K cdv qual=true) (k:W.keepIn K (.ref f)=true):FunD K x qual st f (W.fnOf x qual (XW st) (XB st) (Zx st) dV kV doc pm an cdv ct) dV:=⟨⟨oc,od,kV,doc,pm,an,cdv,ct,osl,rfl,l,c⟩,k⟩
theorem FunD.binds1 {x:Str} {T:Addr} {fd:FuncData} {ps:List Str} {o:Obj} {n:Nat} (F:FunD K x qual st f fd (.ref T)) (ho:K.lookup T=some o) (hs:o.data=.seq #[.none] n)
 (h:∀(kV doc pm:Value) (an:Option Addr) (cdv ct:Value) (us:List Value),us.length+1=ps.length->∃k:Option (Array Value)->Sem (List (Str×Value)),
 bindArgs (W.fnOf x qual (XW st) (XB st) (Zx st) (.ref T) kV doc pm an cdv ct) ⟨us,[]⟩=seqItems? (.ref T) >>= k∧k (some #[.none])=pure (ps.zip (us++[.none]))):Binds K fd ps [.none]:=by
 obtain ⟨oc,od,kV,doc,pm,an,cdv,ct,osl,rfl,lk,hcd⟩:=F.ex;intro s us hin hl;rw [Qv] at hl;obtain ⟨k,h1,h2⟩:=h kV doc pm an cdv ct us hl;exact W.binds_K hin rfl ho hs h1 h2
section
variable {body suite:List Stmt} {b₀:Stmt} {x n:Str} {C:Addr} {np hpos pos:Pos} {bmB:List Value} {newId:String} {i:Nat} {tb:XS->TS} {ts:TS}
end
end L2
namespace SA
open PySem PyProof.Rows
variable {A:Around} {O:KeyOrd} {D:Keyed->Prop} {M:Model} {s:Shared} {E:Value->Shared->Prop}
section
variable {key:Keyed->O.α} {kd:SortKind}
end
section
variable {key:Keyed->O.α} {kd:SortKind}
end
section
variable {key:Keyed->O.α} {kd:SortKind}
end
section
variable {key:Keyed->O.α}
end
section
variable {key:Keyed->O.α} {kd:SortKind}
end
section
variable {key:Keyed->O.α} {kd:SortKind}
end
section
variable {key:Keyed->O.α} {kd:SortKind} {d:O.α}
end
section
variable {key:Keyed->O.α} {kd:SortKind} {d:O.α}
end
section
variable {key:Keyed->O.α} {kd:SortKind} {d:O.α} {a0:List Keyed}
end
section
variable {key:Keyed->O.α} {kd:SortKind} {d:O.α} {a0:List Keyed}
end
end SA
namespace SA
open PySem PyProof.Rows PySem.W
section
variable {prog:Program} {w:World} {A:Around} {E:Value->Shared->Prop} {s:Shared}
end
end SA
namespace L2
open PySem PySem.Spec PyProof.Rows PySem.W
section
variable {prog:Program} {w:World} {A:Around} {E:Value->Shared->Prop} {s:Shared}
def Za9 (h:Heap) (d:Addr) (es:Array DictEntry) (ep:Nat):Prop:=∃o,h.get? d=some o∧o.cls=.type "dict"∧o.data=.dict es ep
end
end L2
namespace L2
open PySem PySem.Spec PyProof.Rows PySem.W SA
variable {X:Cx}
section
variable {prog:Program} {w:World} {A:Around} {E:Value->Shared->Prop} {s:Shared}
end
section
variable {pins:List (Addr×Obj)} {σ:St} {H H':Hp} {s:Shared} {d:Addr} {kvs:List (List Zi×V)} {o:Obj}
theorem Inv.thawT (I:Inv X pins σ H s) (e:H d=some (.frz o (.dT kvs))) (n:∀o u,X.H₀ d≠some (.frz o u)):Inv X pins σ (Zb H d (.dT kvs)) s:=by
 have ne:∀b,H b=none->b≠d:=fun b z q=>by subst q;rw [e] at z;cases z
 refine ⟨I.ok,I.os,I.bare,⟨I.base.keep,I.base.slot,fun b q h1 h2 h3=>?_,I.base.there,fun b xs h1=>?_,fun b q u h1=>?_,fun b ps h1=>?_⟩,I.loc,I.cell,?_,fun x c h1=>?_,fun p hp=>?_,fun b u h1=>?_,I.len⟩
 ·have:=I.base.free b q h1 h2 h3;rw [Zg (ne b this)];exact this
 ·have:=I.base.tups b xs h1;rw [Zg (fun z=>by subst z;rw [e] at this;cases this)];exact this
 ·have:=I.base.frzs b q u h1;rw [Zg (fun z=>by subst z;exact n _ _ h1)];exact this
 ·obtain ⟨more,this⟩:=I.base.tbls b ps h1;exact ⟨more,by rw [Zg (fun z=>by subst z;rw [e] at this;cases this)];exact this⟩
 ·rw [Zg (ne _ I.free)];exact I.free
 ·have:=I.freeC x c h1;rw [Zg (ne _ this)];exact this
 ·obtain ⟨a1,a2,a3⟩:=I.pin p hp;exact ⟨a1,by rw [Zg (ne _ a2)];exact a2,a3⟩
 ·have st:∀{b:Addr} {u:HO},ObjOk X.prog X.w H s.heap b u->ObjOk X.prog X.w (Zb H d (.dT kvs)) s.heap b u:=fun x=>by
   refine x.stay (fun c v hc q=>q) (fun c q=>?_) fun c xs q=>?_
   ·rw [Zg (fun z=>by subst z;rw [e] at q;cases q)];exact q
   ·rw [Zg (fun z=>by subst z;rw [e] at q;cases q)];exact q
  by_cases z:b=d
  ·subst z;rw [Ze] at h1;cases h1;exact st (show ObjOk X.prog X.w H s.heap b (.dT kvs) from (I.hok b _ e).2)
  ·rw [Zg z] at h1;exact st (I.hok b u h1)
end
def Zk4 (t:TS):TS:=fun D σ H=>∃d kvs,H d=some (.dT kvs)∧t { nx:=fun σ' H'=>∃o,H' d=some (.frz o (.dT kvs))∧D.nx σ' (Zb H' d (.dT kvs)),rt:=fun _ _=>False } σ H
theorem Zlh {st:Stmt} {t:TS} (hs:PS X st t):PS X st (Zk4 t):=by
 intro pins s σ H D I h;obtain ⟨d,kvs,hd,h⟩:=h
 have n:∀o u,X.H₀ d≠some (.frz o u):=fun o u z=>by
  have:=I.base.frzs d o u z;rw [hd] at this;cases this
 refine Zq (hs pins s σ H _ I h) fun fl s1 q=>?_;cases fl with
 |next =>
  obtain ⟨σ1,H1,I1,o,e1,q1⟩:=q;exact ⟨σ1,_,I1.thawT e1 n,q1⟩
 |brk=>obtain ⟨σ1,H1,I1,z⟩:=q;exact z.elim
 |cont=>obtain ⟨σ1,H1,I1,z⟩:=q;exact z.elim
 |ret u=>obtain ⟨v,σ1,H1,I1,r,z⟩:=q;exact z.elim
section
variable {prog:Program} {w:World} {A:Around} {E:Value->Shared->Prop}
end
theorem ZoG {α:Type} {J:It} {σ0:St} {g:TG} {tt:TT} {te:TE} {Q:VK} {H1:Hp} (sel:List (Option α)) (P:α->Hp->V->Prop) (mono:∀a H H' v D xs,P a H v->H D=some (.lst xs)->Xe D H H'->P a H' v) (hn:sel.length<sizeLine) (σP:St->Prop) (h0:σP σ0)
 (go:∀i H,i<sel.length->Same H1 H->J.go i H) (stop:∀H,Same H1 H->J.stop sel.length H)
 (step:∀i σ H x H' o,sel[i]?=some o->σP σ->Same H1 H->J.yld i H x H'->∀C:Option V->St->Hp->Prop,(o=none->∀σ2 H6,σP σ2->Same H H6->C none σ2 H6)->(∀a,o=some a->∀y σ2 H6,σP σ2->Same H H6->P a H6 y->C (some y) σ2 H6)->g x σ H' fun σ2 H4=>tt σ2 H4 fun c H5=>if c=true then te σ2 H5 fun y' H6=>C (some y') σ2 H6 else C none σ2 H5)
 (fin:∀D ys H',H1 D=none->Same H1 H'->H' D=some (.lst ys)->ys.length=(sel.filterMap id).length->(∀(j:Nat) (y:V) (a:α),ys[j]?=some y->(sel.filterMap id)[j]?=some a->P a H' y)->Q (.ref D) H'):Jd J σ0 g tt te Q H1:=by
 intro D hD
 have keep:∀{H:Hp} {o:HO},Same H1 H->Same H1 (Zb H D o):=fun {H o} e b u q=>by
  rw [Zg (ZV q hD)];exact e b u q
 have fl:∀i,((sel.take i).filterMap id).length≤sel.length:=fun i=>Qi (Gf _ _) (by rw [QV];omega);refine ⟨fun i m σ ys H=>i≤sel.length∧m=sel.length-i∧σP σ∧ys.length=((sel.take i).filterMap id).length∧(∀(j:Nat) (y:V) (a:α),ys[j]?=some y->((sel.take i).filterMap id)[j]?=some a->P a H y)∧H D=some (.lst ys)∧Same H1 H,⟨_,QL _,rfl,h0,rfl,fun j y a e=>by simp at e,Ze,keep (Same.refl H1)⟩,?_⟩;rintro i m σ ys H ⟨hi,rfl,p,hy,hP,hd,sm⟩;refine ⟨hd,?_⟩;by_cases lt:i<sel.length
 ·have e:sel[i]?=some sel[i]:=by simp [lt]
  have tk:(sel.take (i+1)).filterMap id=(sel.take i).filterMap id++(match sel[i] with|none=>[]|some a=>[a]):=by
   rw [List.take_succ_eq_append_getElem lt,Rk];cases sel[i]<;>rfl
  refine .inr ⟨go i H lt sm,fun σ2 ys2 H3=>σP σ2∧ys2.length=((sel.take (i+1)).filterMap id).length∧(∀(j:Nat) (y:V) (a:α),ys2[j]?=some y->((sel.take (i+1)).filterMap id)[j]?=some a->P a H3 y)∧H3 D=some (.lst ys2)∧Same H1 H3,fun σ2 ys2 H3 ⟨a,b,c,d,e⟩=>⟨_,by omega,lt,rfl,a,b,c,d,e⟩,fun x H3 y=>?_⟩
  refine step i σ H x H3 sel[i] e p sm y (fun o σ2 H6=>match o with
   |some y'=>H6 D=some (.lst ys)∧ys.length<sizeLine∧σP σ2∧(ys++[y']).length=((sel.take (i+1)).filterMap id).length∧(∀(j:Nat) (z:V) (a:α),(ys++[y'])[j]?=some z->((sel.take (i+1)).filterMap id)[j]?=some a->P a (Zb H6 D (.lst (ys++[y']))) z)∧Zb H6 D (.lst (ys++[y'])) D=some (.lst (ys++[y']))∧Same H1 (Zb H6 D (.lst (ys++[y'])))
   |none=>σP σ2∧ys.length=((sel.take (i+1)).filterMap id).length∧(∀(j:Nat) (z:V) (a:α),ys[j]?=some z->((sel.take (i+1)).filterMap id)[j]?=some a->P a H6 z)∧H6 D=some (.lst ys)∧Same H1 H6) (fun on σ2 H6 p2 s6=>?_) (fun a oa y' σ2 H6 p2 s6 hp6=>?_)
  ·have tn:(sel.take (i+1)).filterMap id=(sel.take i).filterMap id:=by rw [tk,on];exact Qt _
   refine ⟨p2,by rw [tn];exact hy,fun j z a e1 e2=>?_,s6 _ _ hd,sm.trans s6⟩;rw [tn] at e2;exact mono a H H6 z D ys (hP j z a e1 e2) hd fun b u _ q=>s6 b u q
  ·have ts:(sel.take (i+1)).filterMap id=(sel.take i).filterMap id++[a]:=by rw [tk,oa]
   have hd6:=s6 _ _ hd;have bt:Xe D H6 (Zb H6 D (.lst (ys++[y']))):=fun b u nb e=>by rw [Zg nb];exact e
   have fi:=fl i;refine ⟨hd6,by omega,p2,by rw [ts,Qv,Qv,hy];rfl,fun j z b e1 e2=>?_,Ze,keep (sm.trans s6)⟩;rw [ts] at e2;by_cases jl:j<ys.length
   ·rw [RF jl] at e1;rw [RF (by omega)] at e2;exact mono b H _ z D _ (hP j z b e1 e2) hd (fun b u nb e=>bt b u nb (s6 b u e))
   ·have j0:j=ys.length:=by
     have:=(QC.mp e1).1;simp at this;omega
    subst j0;rw [RE (Qe _),RY] at e1;rw [RE (by omega),hy,RY] at e2;cases (show y'=z by simpa using e1);cases (show a=b by simpa using e2);exact mono a H6 _ _ D _ hp6 hd6 bt
 ·have e:i=sel.length:=by omega
  subst e;rw [QU] at hy hP;exact .inl ⟨stop H sm,fin D ys H hD sm hd hy hP⟩
end L2
namespace L2
open PySem PySem.Spec PyProof.Rows PySem.W
variable {f:Addr} {P:List Value->Prop} {st:Stmt} {K:W.Frag}
noncomputable def ZC (K:W.Frag) (f:Addr):FuncData:=match K.lookup f with
 |some ⟨_,_,.func fd,_⟩=>fd
 |_=>default
structure DefIn (K:W.Frag) (x q:Str) (st:Stmt) (f:Addr):Prop where
 ex:∃(oc:Value) (od:Option Addr) (kV doc pm:Value) (an:Option Addr) (cdv ct:Value) (osl:Array (Option Value)),
  K.lookup f=some ⟨oc,od,.func (fnOf x q (XW st) (XB st) (Zx st) .none kV doc pm an cdv ct),osl⟩∧codeIn K cdv q=true
 kp:keepIn K (.ref f)=true
theorem DefIn.fn {x q:Str} (h:DefIn K x q st f):Fun K x q st f (ZC K f):=by
 obtain ⟨oc,od,kV,doc,pm,an,cdv,ct,osl,lk,hc⟩:=h.ex;have e:ZC K f=fnOf x q (XW st) (XB st) (Zx st) .none kV doc pm an cdv ct:=by unfold ZC;rw [lk]
 rw [e];exact Zox lk hc h.kp
def Zfp (x q:Str) (st:Stmt) (ps:List Str):Prop:=∀(kV doc pm:Value) (an:Option Addr) (cdv ct:Value) (us:List Value),us.length=ps.length->bindArgs (fnOf x q (XW st) (XB st) (Zx st) .none kV doc pm an cdv ct) ⟨us,[]⟩=pure (ps.zip us)
structure Df (K:W.Frag) (mg:Str->Option Value) (x:Str) (st:Stmt) (ps:List Str) where
 a:Addr
 F:Fun K x x st a (ZC K a)
 b:Binds K (ZC K a) ps []
 m:mg x=some (.ref a)
structure Dm (K:W.Frag) (C:Addr) (x q:Str) (st:Stmt) (ps:List Str) where
 a:Addr
 F:Fun K x q st a (ZC K a)
 b:Binds K (ZC K a) ps []
 me:Meth K C x a
noncomputable def Df.of {mg:Str->Option Value} {h:Heap} {x:Str} {ps:List Str} (X:K.In h) (G:h.Ns mainGlobals mg) (a:nsIn K mainGlobals x=some (some (.ref f))) (l:DefIn K x x st f) (hb:Zfp x x st ps):Df K mg x st ps:=⟨f,l.fn,l.fn.binds hb,mg_of X G a⟩
noncomputable def Dm.of {C:Addr} {x q:Str} {ps:List Str} (a:findIn K (.ref C) x=some (some (.ref f))) (i:isFn K (.ref f)=true) (l:DefIn K x q st f) (hb:Zfp x q st ps):Dm K C x q st ps:=⟨f,l.fn,l.fn.binds hb,⟨a,i,l.kp⟩⟩
theorem Y4 (h:∀a,P [a]):∀us,us.length=1->P us
 |[_],_=>h _
theorem Y2 (h:∀a b,P [a,b]):∀us,us.length=2->P us
 |[_,_],_=>h _ _
theorem JO (h:∀a b c,P [a,b,c]):∀us,us.length=3->P us
 |[_,_,_],_=>h _ _ _
theorem Wx (h:∀a b c d,P [a,b,c,d]):∀us,us.length=4->P us
 |[_,_,_,_],_=>h _ _ _ _
theorem un5 (h:∀a b c d e,P [a,b,c,d,e]):∀us,us.length=5->P us
 |[_,_,_,_,_],_=>h _ _ _ _ _
end L2
namespace TextG
open PySem
variable {r y:List Nat} {a:Nat}
noncomputable def Yc (y:List Nat):Nat->List Nat->List (List Nat)
 |_,[]=>[[]]
 |s+1,_::r=>Yc y s r
 |0,a::r=>if (a::r).take y.length=y then []::Yc y (y.length-1) r else match Yc y 0 r with
  |[]=>[[a]]
  |p::ps=>(a::p)::ps
noncomputable def YX (y:List Nat):Nat->Nat->List Nat->List Nat
 |_,_,[]=>[]
 |s+1,k,_::r=>YX y s (k+1) r
 |0,k,a::r=>if (a::r).take y.length=y then k::YX y (y.length-1) (k+1) r else YX y 0 (k+1) r
theorem ZdX (y:List Nat):∀s l,∃p ps,Yc y s l=p::ps
 |0,[]=>⟨_,_,by unfold Yc;rfl⟩
 |s+1,[]=>⟨_,_,by unfold Yc;rfl⟩
 |s+1,_::r=>by unfold Yc;exact ZdX y s r
 |0,a::r=>by
  unfold Yc;by_cases h:(a::r).take y.length=y
  ·rw [Qb h];exact ⟨_,_,rfl⟩
  ·rw [Qa h];obtain ⟨p,ps,e⟩:=ZdX y 0 r;rw [e];exact ⟨_,_,rfl⟩
theorem Jb (y:List Nat) (s:Nat):Yc y s []=[[]]:=by cases s<;>unfold Yc<;>rfl
theorem ZeW (y:List Nat) (s a:Nat) (r:List Nat):Yc y (s+1) (a::r)=Yc y s r:=by rw [Yc]
theorem Zcn (h:(a::r).take y.length=y):Yc y 0 (a::r)=[]::Yc y (y.length-1) r:=by rw [Yc,Qb h]
theorem Jp {p:List Nat} {ps:List (List Nat)} (h:¬(a::r).take y.length=y) (e:Yc y 0 r=p::ps):Yc y 0 (a::r)=(a::p)::ps:=by rw [Yc,Qa h,e]
theorem Ze0 (y:List Nat) (s k:Nat):YX y s k []=[]:=by cases s<;>unfold YX<;>rfl
theorem ZgA (y:List Nat) (s k a:Nat) (r:List Nat):YX y (s+1) k (a::r)=YX y s (k+1) r:=by rw [YX]
theorem ZeQ {k:Nat} (h:(a::r).take y.length=y):YX y 0 k (a::r)=k::YX y (y.length-1) (k+1) r:=by rw [YX,Qb h]
theorem ZcU {k:Nat} (h:¬(a::r).take y.length=y):YX y 0 k (a::r)=YX y 0 (k+1) r:=by rw [YX,Qa h]
theorem J5 {l:List Nat} {k:Nat} (lt:k<l.length):∃v,l.drop k=v::l.drop (k+1)∧l[k]?=some v:=⟨l[k],N0 lt,Qw lt⟩
theorem ZcL {l:List Nat} (h:l.take y.length=y):y.length≤l.length:=by
 have:=Qj List.length h;rw [QV] at this;omega
theorem Vq (x y:Str) (hy:0<y.length) (lim:Nat) (hl:x.length<lim):∀(m k:Nat) (found:Array Nat) (free s:Nat),k+m=x.length->found.size≤k->free≤k+s->(0<s->free=k+s) →
  (forIn (List.range' k (m+1)) (found,free) (StrLaws.occBody x y x.length lim)).run.fst.toList=found.toList++YX y.cps.toList s k (x.cps.toList.drop k)
 |0,k,found,free,s,hk,hs,hf,hf2=>by
  have e:x.cps.toList.drop k=[]:=Na (by rw [QD];show x.length≤k;omega);rw [e,Ze0,Qt];rw [Nb,List.range'_zero,Ge];have no:¬(k+y.length≤x.length):=by omega
  unfold StrLaws.occBody;simp [no]
 |m+1,k,found,free,s,hk,hs,hf,hf2=>by
  have lt:k<x.cps.toList.length:=by rw [QD];show k<x.length;omega
  rw [Nb,Ge];obtain ⟨v,dr,ev⟩:=J5 lt;have yl:y.cps.toList.length=y.length:=by rw [QD];rfl
  cases s with
  |succ s =>
   have st:StrLaws.occBody x y x.length lim k (found,free)=pure (ForInStep.yield (found,free)):=by
    unfold StrLaws.occBody;have:=hf2 (Nk _);have no:¬free≤k:=by omega
    simp [no]
   rw [st,pure_bind];have ih:=Vq x y hy lim hl m (k+1) found free s (by omega) (by omega) (by omega) (by intro;have:=hf2 (Nk _);omega);rw [dr,ZgA];simpa using ih
  |zero =>
   have sub:=Nl x y k;rw [dr] at sub;by_cases h:(v::x.cps.toList.drop (k+1)).take y.cps.toList.length=y.cps.toList
   ·have pl:=ZcL h;rw [←dr,Gw,yl,QD] at pl;have pl2:y.length≤x.length-k:=pl;have i1:k+y.length≤x.length:=by omega
    have t:Builtin.Str.subAt x y k=true:=by rw [sub,←yl,h];simp
    have st:StrLaws.occBody x y x.length lim k (found,free)=pure (ForInStep.yield (found.push k,k+y.length)):=by
     unfold StrLaws.occBody;have z1:found.size<lim:=by omega
     have z2:free≤k:=by omega
     simp [z1,z2,i1,t]
    rw [st,pure_bind];have ih:=Vq x y hy lim hl m (k+1) (found.push k) (k+y.length) (y.length-1) (by omega) (by simp;omega) (by omega) (by intro;omega);rw [dr,ZeQ h,yl];simpa using ih
   ·have t:Builtin.Str.subAt x y k=false:=by
     rw [sub,←yl];exact RC.mpr h
    have st:StrLaws.occBody x y x.length lim k (found,free)=pure (ForInStep.yield (found,free)):=by
     unfold StrLaws.occBody;simp [t]
    rw [st,pure_bind];have ih:=Vq x y hy lim hl m (k+1) found free 0 (by omega) (by omega) (by omega) (by intro z;omega);rw [dr,ZcU h];simpa using ih
theorem occ_all (x y:Str) (hy:0<y.length):Builtin.Str.occurrences x y 0 x.length (x.length+1)=YX y.cps.toList 0 0 x.cps.toList:=by
 rw [StrLaws.occ_eq];have:=Vq x y hy (x.length+1) (Ro _) x.length 0 #[] 0 0 (by omega) (Qe _) (Qe _) (by intro z;omega);simpa using this
theorem ZcW (x:Str) (n:Nat):∀(cuts:List Nat) (a:Nat),((a::cuts.map (·+n)).zip (cuts++[x.length])).map (fun p=>Builtin.Str.strSub x p.1 p.2)=match cuts with
  |[]=>[Builtin.Str.strSub x a x.length]
  |d::r=>Builtin.Str.strSub x a d::(((d+n)::r.map (·+n)).zip (r++[x.length])).map (fun p=>Builtin.Str.strSub x p.1 p.2)
 |[],a=>rfl
 |d::r,a=>rfl
theorem ZaN (x y:Str) (hy:0<y.length):∀(m k a s:Nat),k+m=x.length->a≤k+s->(0<s->a=k+s)->k+s≤x.length →
  ∃p ps,Yc y.cps.toList s (x.cps.toList.drop k)=p::ps ∧
  ((a::(YX y.cps.toList s k (x.cps.toList.drop k)).map (·+y.length)).zip (YX y.cps.toList s k (x.cps.toList.drop k)++[x.length])).map (fun p=>Builtin.Str.strSub x p.1 p.2) =
   (⟨((x.cps.toList.drop a).take (k-a)++p).toArray⟩:Str)::ps.map fun q=>(⟨q.toArray⟩:Str)
 |0,k,a,s,hk,ha,hs,hb=>by
  have e:x.cps.toList.drop k=[]:=Na (by rw [QD];show x.length≤k;omega);rw [e];refine ⟨[],[],Jb _ _,?_⟩;have ek:k=x.length:=by omega
  rw [Ze0];show [Builtin.Str.strSub x a x.length]=_;refine Qj (·::[]) (RW ?_);rw [←Rx,RX,←ek];simp
 |m+1,k,a,s,hk,ha,hs,hb=>by
  have lt:k<x.cps.toList.length:=by rw [QD];show k<x.length;omega
  obtain ⟨v,dr,ev⟩:=J5 lt;have yl:y.cps.toList.length=y.length:=by rw [QD];rfl
  cases s with
  |succ s =>
   obtain ⟨p,ps,e1,e2⟩:=ZaN x y hy m (k+1) a s (by omega) (by omega) (by intro;have:=hs (Nk _);omega) (by omega);refine ⟨p,ps,by rw [dr,ZeW,e1],?_⟩;rw [dr,ZgA,e2];have h1:a=k+(s+1):=hs (Nk _);have z1:k+1-a=0:=by omega
   have z2:k-a=0:=by omega
   rw [z1,z2]
  |zero =>
   by_cases h:(v::x.cps.toList.drop (k+1)).take y.cps.toList.length=y.cps.toList
   ·have pl:=ZcL h;rw [←dr,Gw,yl,QD] at pl;have pl2:y.length≤x.length-k:=pl;obtain ⟨p,ps,e1,e2⟩:=ZaN x y hy m (k+1) (k+y.length) (y.length-1) (by omega) (by omega) (by intro;omega) (by omega);refine ⟨[],p::ps,by rw [dr,Zcn h,yl,e1],?_⟩;rw [dr,ZeQ h,ZcW];simp only;rw [yl,e2];have z1:k+1-(k+y.length)=0:=by omega
    rw [z1];simp only [RY,List.take_zero,GE,Qt,Qs];refine Qj (·::_) (RW ?_);rw [←Rx,RX]
   ·obtain ⟨p,ps,e1,e2⟩:=ZaN x y hy m (k+1) a 0 (by omega) (by omega) (by intro z;omega) (by omega);refine ⟨v::p,ps,by rw [dr];exact Jp h e1,?_⟩;rw [dr,ZcU h,e2];refine Qj (·::_) ?_
    congr 2
    have:k+1-a=(k-a)+1:=by omega
    rw [this,GD,NG,show a+(k-a)=k by omega,ev];simp
theorem between_all (x y:Str) (hy:0<y.length):Builtin.Str.partsBetween x (YX y.cps.toList 0 0 x.cps.toList) y.length=(Yc y.cps.toList 0 x.cps.toList).map fun q=>(⟨q.toArray⟩:Str):=by
 obtain ⟨p,ps,e1,e2⟩:=ZaN x y hy x.length 0 0 0 (by omega) (Qe _) (by intro z;omega) (by omega);rw [Nc] at e1 e2;rw [e1];unfold Builtin.Str.partsBetween;simpa using e2
theorem splitG_none {y:List Nat}:∀{l:List Nat} {k:Nat},YX y 0 k l=[]->Yc y 0 l=[l]
 |[],_,_=>Jb _ _
 |a::r,k,h=>by
  by_cases hh:(a::r).take y.length=y
  ·rw [ZeQ hh] at h;cases h
  ·rw [ZcU hh] at h;exact Jp hh (splitG_none h)
theorem splitG_short {y:List Nat}:∀{l:List Nat},l.length<y.length->Yc y 0 l=[l]
 |[],_=>Jb _ _
 |a::r,h=>Jp (fun e=>by have:=ZcL e;omega) (splitG_short (by simp at h;omega))
theorem Zat {y:List Nat}:∀s l,(Yc y s l).length≤l.length+1
 |s,[]=>by rw [Jb];exact Qe _
 |s+1,a::r=>by
  rw [ZeW];have:=Zat (y:=y) s r;simp;omega
 |0,a::r=>by
  by_cases hh:(a::r).take y.length=y
  ·rw [Zcn hh];have:=Zat (y:=y) (y.length-1) r;simp;omega
  ·obtain ⟨p,ps,e⟩:=ZdX y 0 r;rw [Jp hh e];have:=Zat (y:=y) 0 r;rw [e] at this;simp at this ⊢;omega
noncomputable def Vh (y:List Nat):List Nat->List (List Nat)->List Nat
 |p,[]=>p
 |p,q::r=>p++(y++Vh y q r)
theorem Ze4 (y:List Nat):∀(l r:List Nat),Yc y l.length (l++r)=Yc y 0 r
 |[],_=>rfl
 |a::l,r=>by rw [QG,Gz,ZeW];exact Ze4 y l r
theorem ZeR {b c:Nat} {t:List Nat} (bc:b≠c):∀{p:List Nat} {r q:List Nat} {qs:List (List Nat)},c∉p->r.head?≠some c->Yc (b::c::t) 0 r=q::qs->Yc (b::c::t) 0 (p++r)=(p++q)::qs
 |[],_,_,_,_,_,e=>e
 |a::p,r,q,qs,h,hr,e=>by
  have h2:c∉p:=fun z=>h (Qx _ z);refine Jp ?_ (ZeR bc h2 hr e);intro z;have z2:(p++r).take (t.length+1)=c::t:=by simpa using (GI z).2
  cases p with
  |nil =>
   cases r with
   |nil=>simp at z2
   |cons d r=>simp at z2;exact hr (by simp [z2.1])
  |cons d p =>
   simp at z2;exact h2 (by simp [z2.1])
theorem ZfD {b c:Nat} {t:List Nat} (bc:b≠c):∀{ps:List (List Nat)} {p:List Nat},c∉p->(∀q∈ps,c∉q)->Yc (b::c::t) 0 (Vh (b::c::t) p ps)=p::ps
 |[],p,h,_=>by
  have:=ZeR (t:=t) bc (p:=p) (r:=[]) h (by simp) (Jb _ _);simpa [Vh] using this
 |q::ps,p,h,hs=>by
  have ih:=ZfD (t:=t) bc (ps:=ps) (p:=q) (hs q (QB ..)) fun x hx=>hs x (Qx _ hx);rw [Vh]
  have e:Yc (b::c::t) 0 ((b::c::t)++Vh (b::c::t) q ps)=[]::(q::ps):=by
   rw [Gz,Zcn (by simp)];have:=Ze4 (b::c::t) (c::t) (Vh (b::c::t) q ps);rw [ih] at this;exact Qj _ this
  have:=ZeR (t:=t) bc (p:=p) h (by simp [bc]) e;rw [this,Qt]
theorem Zae (y:Str):∀(ps:List Str) (p:Str),(y.join (p::ps)).cps.toList=Vh y.cps.toList p.cps.toList (ps.map (·.cps.toList))
 |[],p=>by
  show (p:Str).cps.toList=_;rfl
 |q::ps,p=>by
  have ih:=Zae y ps q;show (p++y++y.join (q::ps)).cps.toList=_;rw [GF,GF,GG,GG,ih];simp [Vh]
noncomputable def cutAt (y z:Str):List Str:=(Yc y.cps.toList 0 z.cps.toList).map fun q=>(⟨q.toArray⟩:Str)
theorem ZnG {y:Str} {b c:Nat} {t:List Nat} (e:y.cps.toList=b::c::t) (bc:b≠c) {p:Str} {ps:List Str} (h:∀q∈p::ps,c∉q.cps.toList):cutAt y (y.join (p::ps))=p::ps:=by
 unfold cutAt
 rw [Zae,e,ZfD bc (h p (QB ..)) (by
  intro q hq;obtain ⟨z,hz,rfl⟩:=Qg.mp hq;exact h z (Qx _ hz))]
 have e:((fun q:List Nat=>(⟨q.toArray⟩:Str))∘fun x:Str=>x.cps.toList)=id:=funext fun x=>by simp
 simp [e]
theorem cutAt_len (y z:Str):(cutAt y z).length≤z.length+1:=by
 unfold cutAt;rw [Qd];have:=Zat (y:=y.cps.toList) 0 z.cps.toList;rw [QD] at this;exact this
theorem Zqh {x y:Str} {b c:Nat} {t w:List Nat} (e:y.cps.toList=b::c::t) (bc:b≠c) (hw:c∉w) (hx:x.cps.toList=w++(y.cps.toList++r)) (lim:Nat) (hl:1≤lim):∃u,Builtin.Str.occurrences x y 0 x.length lim=w.length::u:=by
 have yl:y.cps.toList.length=y.length:=by rw [QD];rfl
 have xl:x.cps.toList.length=x.length:=by rw [QD];rfl
 have at0:StrLaws.At x y x.length w.length:=by
  refine ⟨?_,?_⟩
  ·rw [←xl,hx,←yl];simp only [Qv];omega
  ·rw [Nl,hx,List.drop_left,←yl,List.take_left];simp
 rcases StrLaws.occ_head x y lim hl with ⟨_,no⟩|⟨i,u,eo,hi,no⟩
 ·exact absurd at0 (no _)
 ·refine ⟨u,?_⟩;rw [eo];have h1:i≤w.length:=Nat.le_of_not_lt fun h=>no _ h at0;rcases Nn i w.length with lt|ge
  ·exfalso;have h2:=hi.2;rw [Nl,hx,←yl] at h2;have h3:((w++(y.cps.toList++r)).drop i).take y.cps.toList.length=y.cps.toList:=by simpa using h2
   have h4:=Qj (fun l:List Nat=>l[1]?) h3;rw [List.getElem?_take,NG,e] at h4;simp only [QG,RZ,Nh] at h4;rw [Qb (by omega)] at h4;rcases Nn (i+1) w.length with l2|g2
   ·rw [RF l2] at h4;exact hw (Qy h4)
   ·rw [RE g2,show i+1-w.length=0 by omega] at h4;simp at h4;exact bc h4
  ·rw [show i=w.length by omega]
end TextG
namespace L2
open PySem PySem.Spec PyProof.Rows PySem.W
section
variable {X:Cx}
def Zov (y:Str):V->List V->Hp->VK->Prop:=fun x xs H Q=>∃z,x=.str z∧xs=[.str y]∧z.length≤100000∧∀D,H D=none->Q (.ref D) (Zb H D (.lst ((TextG.cutAt y z).map V.str)))
theorem Zom (y:Str) (hy:(y.length==0)=false) (hl:∀z:Str,¬Builtin.Str.strKind z<Builtin.Str.strKind y):We X "str.split" (Zov y):=by
 intro pins s σ H x xs v us Q I rx r h;obtain ⟨z,rfl,rfl,hz,q⟩:=h;obtain ⟨t,rfl⟩:=rx;obtain ⟨u,rfl,ru⟩:=Y5 r;obtain ⟨t2,rfl⟩:=ru;have hb:=ZeK;have pl:=TextG.cutAt_len y z
 have y0:0<y.length:=by
  rcases Nat.eq_zero_or_pos y.length with e|e
  ·rw [e] at hy;exact absurd hy (by decide)
  ·exact e
 have yl:y.cps.toList.length=y.length:=by rw [QD];rfl
 have zl:z.cps.toList.length=z.length:=by rw [QD];rfl
 have self:(⟨z.cps.toList.toArray⟩:Str)=z:=by simp
 have fin:∀(us:List Value) (tk:Nat),Vals ((TextG.cutAt y z).map V.str) us->EP X pins σ Q (.ref s.heap.objs.size) { s with heap:=s.heap.push { cls:=.type "list",data:=.seq us.toArray },toks:=tk }:=fun us tk rv =>
  ⟨.ref _,_,I.laid (t':=tk) (o:=.lst ((TextG.cutAt y z).map V.str)) (fun b u e=>Qo _ e) (Qe _) (show ObjOk X.prog X.w _ _ _ (.lst ((TextG.cutAt y z).map V.str)) from ⟨by rw [Qd];omega,us,0,rv,Qu _ rfl⟩),rfl,q _ (I.hok.fresh (Qe _))⟩
 by_cases h1:(decide (z.length<y.length)||decide (Builtin.Str.strKind z<Builtin.Str.strKind y))=true
 ·have h0:z.length<y.length:=by
   rw [RH,NI,NI] at h1;exact h1.resolve_right (hl z)
  refine Rt Ry rfl Gg (Gh _ _) (meets_str_split_cannot_occur z _ t t2 h1) (fin [.str z t] s.toks ?_);unfold TextG.cutAt;rw [TextG.splitG_short (by rw [yl,zl];exact h0),Qs,R9,self];exact .cons ⟨_,rfl⟩ .nil
 ·by_cases h2:(Builtin.Str.occurrences z y 0 z.length (z.length+1)).isEmpty=true
  ·refine Rt Ry rfl Gg (Gh _ _) (meets_str_split_not_found z _ t t2 (QO.mpr h1) hy h2) (fin [.str z t] s.toks ?_);rw [TextG.occ_all z y y0,List.isEmpty_iff] at h2;unfold TextG.cutAt;rw [TextG.splitG_none h2,Qs,R9,self];exact .cons ⟨_,rfl⟩ .nil
  ·have sp:=TextG.between_all z y y0;rw [←TextG.occ_all z y y0] at sp;refine Rt Ry rfl Gg (Gh _ _) (meets_str_split_sep z _ t t2 (QO.mpr h1) hy (QO.mpr h2) (by omega) (by rw [sp];show (TextG.cutAt y z).length≤_;omega)) (fin _ _ ?_);show Vals ((TextG.cutAt y z).map V.str) _;unfold TextG.cutAt;rw [←sp];exact ZdG _ _
def Zo3 (y:Str):V->List V->Hp->VK->Prop:=fun x xs H Q=>∃z,x=.str z∧xs=[.str y]∧z.length≤100000∧∀D,H D=none->Q (.ref D) (Zb H D (.tup [.str (Txt.partition z y).1,.str (Txt.partition z y).2.1,.str (Txt.partition z y).2.2]))
theorem ZlI (y:Str) (hy:(y.length==0)=false):We X "str.partition" (Zo3 y):=by
 intro pins s σ H x xs v us Q I rx r h;obtain ⟨z,rfl,rfl,hz,q⟩:=h;obtain ⟨t,rfl⟩:=rx;obtain ⟨u,rfl,ru⟩:=Y5 r;obtain ⟨t2,rfl⟩:=ru;have hb:=ZeK;refine Rt N5 rfl PySem.F.entry_str_partition (PySem.F.args_str_partition_2 _ _) (meets_str_partition z y t t2 hy (by omega)) ?_
 have fin:∀(a b c:Str) (ta tb tc:Tok) (tk:Nat),(∀D,H D=none->Q (.ref D) (Zb H D (.tup [.str a,.str b,.str c])))->EP X pins σ Q (.ref s.heap.objs.size) { s with toks:=tk,heap:=s.heap.push { cls:=.type "tuple",data:=.seq [Value.str a ta,.str b tb,.str c tc].toArray } }:=fun a b c ta tb tc tk q =>
  ⟨.ref _,_,I.laid (t':=tk) (o:=.tup [.str a,.str b,.str c]) (fun b u e=>Qo _ e) (Qe _) (show ObjOk X.prog X.w _ _ _ (.tup [.str a,.str b,.str c]) from ⟨by show 3≤sizeLine;decide,[Value.str a ta,.str b tb,.str c tc],.cons ⟨_,rfl⟩ (.cons ⟨_,rfl⟩ (.cons ⟨_,rfl⟩ .nil)),⟨_,Qu _ rfl,rfl,_,rfl⟩⟩),rfl,q _ (I.hok.fresh (Qe _))⟩
 have q':=q;unfold Txt.partition at q';revert q';cases Builtin.Str.occurrences z y 0 z.length 1 with
 |nil=>intro q';exact fin _ _ _ _ _ _ _ q'
 |cons i r=>intro q';exact fin _ _ _ _ _ _ _ q'
def Zmt:V->List V->Hp->VK->Prop:=fun x xs H Q=>∃z y,x=.str z∧xs=[.str y]∧Q (.bl (Txt.startswith z y)) H
theorem Zl6:We X "str.startswith" Zmt:=by
 intro pins s σ H x xs v us Q I rx r h;obtain ⟨z,y,rfl,rfl,q⟩:=h;obtain ⟨t,rfl⟩:=rx;obtain ⟨u,rfl,ru⟩:=Y5 r;obtain ⟨t2,rfl⟩:=ru;exact SC.startswith ⟨.bl _,H,I,rfl,q⟩
theorem ZbV (hc:X.calm=true):YN X (.type "list") (fun xs H Q=>∃(l:Addr) (zs:List (Str×V)),xs=[.ref l]∧H l=some (.dK (zs.map fun p=>(.inr p.1,p.2)))∧zs.length≤1000∧∀D,H D=none->Q (.ref D) (Zb H D (.lst ((zs.map (·.1)).map V.str)))):=by
 intro pins s σ H xs us Q I r h;obtain ⟨l,zs,rfl,hq,hl,q⟩:=h;obtain ⟨u,rfl,ru⟩:=Y5 r;cases (show u=Value.ref l from ru);obtain ⟨z,hd,vs,rel,dd⟩:=JQ I.hok hq;obtain ⟨ep,da⟩:=dd.dictAt;have hlen:vs.length=zs.length:=by rw [←rel.length,Qd]
 have keyAt:∀(i:Nat) (k:Zi) (x:Value),vs[i]?=some (k,x)->∃z,(zs.map (·.1))[i]?=some z∧k=.inr z:=by
  have go:∀{ys:List (Str×V)} {ws:List (Zi×Value)},KV (ys.map fun p=>((.inr p.1:Zi),p.2)) ws->∀(i:Nat) (k:Zi) (x:Value),ws[i]?=some (k,x)->∃z,(ys.map (·.1))[i]?=some z∧k=.inr z:=by
   intro ys
   induction ys with
   |nil=>intro ws r i k x e;cases r;cases e
   |cons y ys ih =>
    intro ws r i k x e;cases r with
    |cons h t =>
     cases i with
     |zero =>
      rw [Nh] at e;cases e;exact ⟨y.1,rfl,h.1.symm⟩
     |succ i =>
      rw [RZ] at e;obtain ⟨z,e1,e2⟩:=ih t i k x e;exact ⟨z,by simpa using e1,e2⟩
  exact go rel
 have col:∀(acc:Array Value),ItemsOf (fun i v=>∃k x,vs[i]?=some (k,x)∧(Yw X.prog X.w).is k v=true) acc vs.length->StrsAre acc.toList (zs.map (·.1)):=by
  intro acc hacc;refine Zb7 (by rw [Qd,←hlen,QD];exact hacc.1) fun i v e=>?_;obtain ⟨k,x,e1,e2⟩:=hacc.2 i v (by rw [←GX];exact e);obtain ⟨z,e3,rfl⟩:=keyAt i k x e1;obtain ⟨t,rfl⟩:=ZhL e2;exact ⟨z,t,e3,rfl⟩
 have hs:zs.length<sizeLine:=Zy (by omega);refine kdl_call (kdl_dict hd) (I.ok.hd hc) da (by rw [hlen];omega) fun h' tk acc c k1 he hacc=>?_;exact ⟨.ref _,_,I.laid (t':=tk) (o:=.lst ((zs.map (·.1)).map V.str)) k1 (Qe _) (show ObjOk X.prog X.w _ _ _ (.lst ((zs.map (·.1)).map V.str)) from ⟨by rw [Qd,Qd];omega,acc.toList,c,Jc (col acc hacc),by rw [Array.toArray_toList];exact he⟩),rfl,q _ (I.hok.fresh (Qe _))⟩
end
section
variable {X:Cx} {CX:YH} {k1 k2 k3:Nat} {f1 C1 f2 C2 f3 C3:Addr} {fd1 fd2 fd3:FuncData} {ps1 ps2 ps3:List Str} {sp1 sp2 sp3:Sp} {E:XS} {m:Str} {pos apos:Pos} {o:Expr} {ta:TE}
end
end L2
namespace L2
open PySem PySem.Spec PyProof.Rows
variable {A:Around} {X:Cx} {H:Hp} {N:List Str} {prog:Program} {s:Shared} {E:Value->Shared->Prop} {w:World}
section
variable {R:Result->Shared->Prop}
end
section
variable {pins:List (Addr×Obj)} {σ:St} {sc:Scope} {cl:List (Str×Addr)} {σc:St->St} {fp:List Addr}
end
section
variable {elt tg iter:Expr} {ifs:List Expr} {sc:Scope} {pos:Pos} {cl:List (Str×Addr)} {σc:St->St} {wi:TI} {g:TG} {tt:TT} {te:TE}
end
section
variable {M:Model}
end
section
variable {pins:List (Addr×Obj)} {σ:St} {H':Hp} {s':Shared} {e:Addr} {cls:Value}
end
section
variable {P:Program} {K:W.Frag} {mg:Str->Option Value} {base:Heap} {qual:Str} {scope:Scope} {f:Addr} {cd:Value} {outer:List Env} {E:XK}
end
section
variable {κ:Type} [DecidableEq κ] {knd:KeyKind prog w κ}
end
section
variable {pos:Pos}
variable {i o value:Expr} {ty td tv:TE} {pos':Pos}
end
end L2
namespace L2
open PySem PySem.Spec PyProof.Rows PySem.W
section
variable {X:Cx} {o i l tg:Expr} {pos:Pos} {td ty tl:TE} {K:W.Frag} {w:World} {a:Addr} {kvs:List (Zi×V)}
end
section
variable {X:Cx}
end
end L2
namespace L2
open PySem PySem.Spec PyProof.Rows PySem.W PySem.SeqAt
section
variable {prog:Program} {w:World} {A:Around} {E:Value->Shared->Prop} {s:Shared}
end
noncomputable def noX:HO->Bool
 |.ext _=>false
 |_=>true
def Zgm (H H':Hp):Prop:=∀b u,noX u=true->H b=some u->H' b=some u
theorem Same.x {H H':Hp} (s:Same H H'):Zgm H H':=fun b u _ e=>s b u e
section
variable {X:Cx} {pins:List (Addr×Obj)} {σ:St} {H:Hp} {s:Shared} {h':Heap}
end
section
variable {X:Cx} {e:Expr} {te:TE} {p pos kp lpos p1 p2 p3 p4:Pos} {x o q:Str} {params:Arguments} {scope:Scope} {c P cc:Addr} {i:Nat}
end
end L2
namespace L2
open PySem PySem.Spec PyProof.Rows PySem.W
end L2
namespace L2
open PySem PySem.Spec PyProof.Rows
section
variable {X:Cx}
end
section
variable {X:Cx}
theorem Zqa (K:W.Frag) {o e:Expr} {es:List Expr} {to:TE} {t:TA} {name:Str} {apos cpos:Pos} {T id:String} {r:V->List V->Hp->VK->Prop} (pa:PlainAttrs T) (slot:Slot T name id) (hty:typeOf (.builtin id)=pure (.type "method_descriptor")) (hm:We X id r) (ho:PE X o to) (ha:PA X (e::es) t) (hK:X.K=K:=by rfl)
  (hbase:attributeBase o name X.env (eval o X.env)=eval o X.env:=by rfl)
  (hfew:((backTo cpos (starEach (e::es) X.env)).all (fun x=>!x.1)&&(backToKw cpos (keywordEach [] X.env)).all (fun x=>x.1.isSome)
   && decide ((e::es).length+([]:List Keyword).length+(if ([]:List Keyword).isEmpty then 0 else 1)<30))=true:=by rfl)
  (hline:(apos.endLine==cpos.line)=true:=by rfl) (hs:starEach (e::es) X.env=(false,eval e X.env)::starEach es X.env:=by rfl) (hplain:(backTo cpos (starEach es X.env)).any (·.1)=false:=by rfl) :
  PE X (.Call (.Attribute o name apos) (e::es) [] cpos) (tBM K T r to t):=by
 subst hK;exact XQ pa slot hty hm ho ha hbase hfew hline hs hplain
end
end L2
namespace L2
open PySem PySem.Spec PyProof.Rows PySem.W
section
variable {X:Cx}
end
end L2
namespace L2
open PySem PySem.Spec PyProof.Rows PySem.W SA
variable {d j:Addr} {A:Around} {es:Array DictEntry} {X:Cx} {H:Hp} {ep:Nat} {prog:Program} {s:Shared} {σ:St} {E:Value->Shared->Prop} {w:World}
theorem ZfY {H:Hp}:∀{kvs:List (List Zi×V)} {xs:List (List Zi×Addr×Value)},KT H kvs xs->∀(i:Nat) (p:List Zi×V),kvs[i]?=some p->∃x,xs[i]?=some x∧H x.2.1=some (.tup (p.1.map kV))∧RelV p.2 x.2.2
 |[],_,r,i,p,e=>by cases e
 |q::kvs,_,r,i,p,e=>by
  cases r with
  |@cons _ y _ _ h t =>
   cases i with
   |zero =>
    cases (show some q=some p from e);exact ⟨y,rfl,h.2.1,h.2.2⟩
   |succ i =>
    rw [RZ] at e;obtain ⟨x,hx⟩:=ZfY t i p e;exact ⟨x,by rw [RZ];exact hx.1,hx.2⟩
theorem Inv.freezeT {pins:List (Addr×Obj)} {a:Addr} {kvs:List (List Zi×V)} (I:Inv X pins σ H s) (ha:H a=some (.dT kvs)):∃o es ep,s.heap.get? a=some o∧o.cls=.type "dict"∧o.data=.dict es ep∧es.size=kvs.length∧(a==sysModules)=false∧Inv X pins σ (Zb H a (.frz o (.dT kvs))) s:=by
 obtain ⟨z,hd,xs,rel,o,es,ep,h1,h2,h3,h4,h5⟩:=Jy I.hok ha;have hes:es.size=kvs.length:=by rw [←QD,h4,Qd];exact rel.length.symm
 have fz:∀{c:Addr} {u:HO},ObjOk X.prog X.w H s.heap c u->ObjOk X.prog X.w (Zb H a (.frz o (.dT kvs))) s.heap c u:=fun x=>by
  refine x.stay (fun c v hc qe=>qe) (fun c qe=>?_) fun c ys qe=>?_
  ·rw [Zg (fun z=>by subst z;rw [ha] at qe;cases qe)];exact qe
  ·rw [Zg (fun z=>by subst z;rw [ha] at qe;cases qe)];exact qe
 exact ⟨o,es,ep,h1,h2.1,h3,hes,hd,I.write (x:=a) (e:=a) (o:=.frz o (.dT kvs)) (h':=s.heap) (t':=s.toks) (by rw [ha];exact True.intro) (.inl rfl) (fun b u _ e=>e) ⟨o,h1⟩ ⟨h1,fz (show ObjOk X.prog X.w H s.heap a (.dT kvs) from I.hok a _ ha)⟩⟩
def UX (r a:Addr) (h:Heap):Prop:=h.IsItemsView r a
theorem ZlY {v:Addr} {Q:Value->Shared->Prop} (hv:s.heap.IsItemsView v d) (hd:Za9 s.heap d es ep)
 (q:Q (.ref s.heap.objs.size) { s with heap:=s.heap.push { cls:=.type "dict_itemiterator",data:=.fields #[.none,.bool false,.ref d,.int 0 0,.int es.size 0,.int ep 0,.none,.none] } }):wpAny (model prog w) A (pyIter (.ref v)) Q E s:=by
 have ty:=hv.typeIs;obtain ⟨ov,g1,g2,g3⟩:=hv;obtain ⟨od,d1,d2,d3⟩:=hd;have own:Builtin.Dict_items.ownsTuple "dict_itemiterator"=true:=by decide
 refine wpAny_pyIter_slot ty F.slot_dict_items_iter (Rp F.slot_dict_items_iter ty F.entry_dict_items_iter ?_ (F.args_dict_items_iter_1 _))
 delta Builtin.«dict_items.__iter__»
 refine Qc (Qf (Qc ?_))
 delta Builtin.Dict_items.dictOf
 refine Qc (QQ g1 g3 (x:=.ref d) rfl (Qf (Qc ?_)))
 delta Builtin.Dict_items.newIterator
 refine Qc (GH d1 d3 (Qc (wpAny_dictEpoch d1 d3 ?_)));simp only [own,Q7]
 refine Rc (Qf ⟨_,rfl,"dict_itemiterator",_,⟨_,Qu _ rfl,rfl⟩,GJ.lookup,?_⟩)
  (by simp only [sizeOk,Builtin.Dict_items.ownedTupleFields,Qz,Qv,QG,Nz,Gr];omega)
 simpa [rawInt,Builtin.Dict_items.ownedTupleFields] using q
theorem Za7 {Q:String->Shared->Prop} (hT:s.TypeIs (.ref j) "dict_itemiterator") (h:Q "dict_itemiterator" s):wpAny (model prog w) A (typeNameOfWhole (.ref j)) Q E s:=wpAny_typeNameOfWhole_itemiter hT h
theorem ZnL {i:Nat} {e:DictEntry} {ok ov:Value} {Q:Option Value->Shared->Prop} (hit:IsItemIter s.heap j d i es.size ep ok ov) (hd:Za9 s.heap d es ep) (he:es[i]?=some e)
 (q:∀h',IsItemIterOut h' j d (i+1) es.size ep e.key e.val s.heap.objs.size->h'.get? s.heap.objs.size=some { cls:=.type "tuple",data:=.seq #[e.key,e.val] } →
 (∀b o,b≠j->s.heap.get? b=some o->h'.get? b=some o)->Q (some (.ref s.heap.objs.size)) { s with heap:=h' }):wpAny (model prog w) A (pyNext (.ref j)) Q E s:=by
 obtain ⟨hp,g,dr,tk,os⟩:=s;obtain ⟨od,d1,d2,d3⟩:=hd;have ty:Shared.TypeIs ⟨hp,g,dr,tk,os⟩ (.ref j) "dict_itemiterator":=⟨_,hit,rfl⟩;have own:Builtin.Dict_items.ownsTuple "dict_itemiterator"=true:=by decide
 have hj:i<es.size:=by
  rcases Nn i es.size with h|h
  ·exact h
  ·rw [Array.getElem?_eq_none h] at he;cases he
 have hv:es[i]=e:=by rw [getElem?_pos es i hj] at he;injection he
 delta pyNext
 refine Qc (G7 (RG (name:=Str.ofString "__next__") ty GJ (Rp GJ ty N6 ?_ (N7 _))));refine Qc (Qf (Qc (Qc (Qc (Za7 ty (Qf (Qc (wpAny_fieldsOf hit rfl ?_))))))));simp only [own,Q7];have nn:(Value.ref d==Value.none)=false:=rfl;show wpAny _ A.in1 (if (Value.ref d==Value.none)=true then _ else _) _ _ _;rw [nn,Qa QF];refine Qc (Qf (Qc (GH d1 d3 ?_)));rw [Qa (by simp)];refine Qc (Qf (Qc (wpAny_dictEpoch d1 d3 ?_)));rw [Qa (by simp)];refine Qf ?_;simp only [show ¬((i:Int)<0) from by omega,Q6,Gv,Array.getElem?_eq_getElem hj];refine Qc (Qc (Za7 ty (Qf (Qc (NJ ty ?_)))));show wpAny _ A.in1 (setField (.ref j) 3 (rawInt ((i:Int)+1)) >>= _) _ _ _;refine Qc (Rq hit (by simp) fun ha a1 a2=>?_);replace a2:Heap.SameBut j hp ha:=a2
 replace a1:IsItemIter ha j d (i+1) es.size ep ok ov:=by
  have ez:((i+1:Nat):Int)=(i:Int)+1:=by omega
  unfold IsItemIter;rw [ez];simpa [rawInt] using a1
 have tya:Shared.TypeIs ⟨ha,g,dr,tk,os⟩ (.ref j) "dict_itemiterator":=⟨_,a1,rfl⟩;refine Qc (R7 (Qc (NJ tya (Qc (NJ tya ?_)))));show wpAny _ A.in1 (Builtin.Dict_items.pairFromOwner (.ref j) 6 es[i].key es[i].val) _ _ ⟨ha,g,dr,tk,os⟩;rw [hv]
 delta Builtin.Dict_items.pairFromOwner
 refine Qc (wpAny_newTuple ?_);have b1:IsItemIter (ha.push { cls:=.type "tuple",data:=.seq #[e.key,e.val] }) j d (i+1) es.size ep ok ov:=Qo _ a1;generalize hb:ha.push { cls:=.type "tuple",data:=.seq #[e.key,e.val] }=hB at b1;have za:ha.objs.size=hp.objs.size:=a2.1;have lj:j<hp.objs.size:=Qn hit;have tB:hB.get? hp.objs.size=some { cls:=.type "tuple",data:=.seq #[e.key,e.val] }:=by rw [←hb,←za];exact Qu _ rfl
 have kB:∀b o,b≠j->hp.get? b=some o->hB.get? b=some o:=fun b o nb eo=>by rw [←hb];exact Qo _ (a2.extBut b o nb eo)
 show wpAny _ A.in1 (Builtin.Dict_items.ownedTupleIsFree (.ref j) >>= _) _ _ ⟨hB,g,dr,tk,os⟩;rw [za];clear hb a1 a2 tya za ha;refine Qc ?_
 delta Builtin.Dict_items.ownedTupleIsFree
 refine Qc (QQ b1 rfl (x:=.none) rfl (Qf ?_));simp only [Q7];refine Qc (QQ b1 rfl (x:=ok) rfl (Qc (QQ b1 rfl (x:=ov) rfl ?_)));refine Qc (Rq b1 (by simp) fun hC c1 c2=>?_);replace c2:Heap.SameBut j hB hC:=c2;replace c1:IsItemIter hC j d (i+1) es.size ep e.key ov:=c1;refine Qc (Rq c1 (by simp) fun hD e1 e2=>?_);replace e2:Heap.SameBut j hC hD:=e2;replace e1:IsItemIter hD j d (i+1) es.size ep e.key e.val:=e1;refine Qc (Rq e1 (by simp) fun hE f1 f2=>?_);replace f2:Heap.SameBut j hD hE:=f2;replace f1:IsItemIterOut hE j d (i+1) es.size ep e.key e.val hp.objs.size:=f1;refine Qc (Rq f1 (by simp) fun hG g1 g2=>?_);replace g2:Heap.SameBut j hE hG:=g2;replace g1:IsItemIterOut hG j d (i+1) es.size ep e.key e.val hp.objs.size:=g1;have up:∀b o,b≠j->hB.get? b=some o->hG.get? b=some o:=fun b o nb eo=>g2.extBut b o nb (f2.extBut b o nb (e2.extBut b o nb (c2.extBut b o nb eo)));refine Qc (G6 (Qf (Qf ⟨_,rfl,Qf (q hG g1 ?_ ?_)⟩)))
 ·exact up _ _ (RD lj) tB
 ·exact fun b o nb eo=>up b o nb (kB b o nb eo)
theorem Zp9 {i:Nat} {ok ov:Value} {Q:Option Value->Shared->Prop} (hh:A.handled=none) (hit:IsItemIter s.heap j d i es.size ep ok ov) (hd:Za9 s.heap d es ep) (he:es.size≤i)
 (q:∀h',Heap.ExtBut j s.heap h'->Q none { s with heap:=h' }):wpAny (model prog w) A (pyNext (.ref j)) Q E s:=by
 obtain ⟨od,d1,d2,d3⟩:=hd;have ty:s.TypeIs (.ref j) "dict_itemiterator":=⟨_,hit,rfl⟩;have own:Builtin.Dict_items.ownsTuple "dict_itemiterator"=true:=by decide
 delta pyNext
 refine Qc (G7 (RG (name:=Str.ofString "__next__") ty GJ (Rp GJ ty N6 ?_ (N7 _))));refine Qc (Qf (Qc (Qc (Qc (Za7 ty (Qf (Qc (wpAny_fieldsOf hit rfl ?_))))))));simp only [own,Q7];have nn:(Value.ref d==Value.none)=false:=rfl;show wpAny _ A.in1 (if (Value.ref d==Value.none)=true then _ else _) _ _ s;rw [nn,Qa QF];refine Qc (Qf (Qc (GH d1 d3 ?_)));rw [Qa (by simp)];refine Qc (Qf (Qc (wpAny_dictEpoch d1 d3 ?_)));rw [Qa (by simp)];refine Qf ?_;simp only [show ¬((i:Int)<0) from by omega,Q6,Gv,Array.getElem?_eq_none he];refine Qc (Qc (Za7 ty (Qf ?_)));show wpAny _ A.in1 (setField (.ref j) 2 .none >>= _) _ _ s;refine Qc (wpAny_setField hit rfl (by simp) ?_);show wpAny _ A.in1 (newExc (.type "StopIteration") [] >>= _) _ _ _;refine Qc ?_;simp only [newExc,newTuple];refine Qc (Rc (Qc (m:=firstArgMember _ _) (wpAny_of_eq (a:=Value.none) (by first|rfl|(simp only [firstArgMember];rfl)) (Rc ?_ (by size_fits)))) (by size_fits));simp only [raiseNew];refine Qc (wpAny_handled ?_);rw [show A.in1.handled=none from hh];refine Qc (Qf (wpAny_throw ?_));refine Qc (wpAny_isInstance (b:=true) (T:="StopIteration") ⟨_,Qu _ rfl,rfl⟩ isSubtype_stop ?_);exact Qf (q _ (((Gd ..).extBut.push _).push _))
theorem Zqo {Q:Value->Shared->Prop} (lo:(d==sysModules)=false) (hd:Za9 s.heap d es ep)
 (q:Q (.ref s.heap.objs.size) { s with heap:=s.heap.push { cls:=.type "dict_items",data:=.fields #[.ref d] } }):wpAny (model prog w) A (call (.builtin "dict.items") [.ref d]) Q E s:=by
 obtain ⟨od,d1,d2,d3⟩:=hd;have ty:s.TypeIs (.ref d) "dict":=⟨od,d1,d2⟩;refine Gb F.slot_dict_items ty F.entry_dict_items (F.args_dict_items_1 _) (S:=fun _ R s'=>s'=s∧R (.ok (.ret (.ref s'.heap.objs.size))) { s' with heap:=s'.heap.push { cls:=.type "dict_items",data:=.fields #[.ref d] } }) ?_ ⟨rfl,q⟩;refine .of_wp fun A R s' h=>?_;obtain ⟨rfl,h⟩:=h;refine Qc ?_
 delta Builtin.Dict.noArgs
 refine Qc (wpAny_notOrdered_dict ty ?_);show wpAny _ _ (pure d) _ _ _;refine Qf ?_;show wpAny _ _ (Builtin.Dict.showsAll d >>= _) _ _ _
 delta Builtin.Dict.showsAll
 rw [Qa (by rw [lo];exact QF)];exact Qc (Qf (Qc (Rc (Qf ⟨_,rfl,h⟩))))
theorem Zna:We X "dict.items" (fun x xs H Q=>∃a kvs,x=.ref a∧xs=[]∧H a=some (.dT kvs)∧∀r,H r=none->Q (.ref r) (Zb H r (.ext (UX r a)))):=by
 intro pins s σ H x xs v us Q I rx r h;obtain ⟨a,kvs,rfl,rfl,ha,q⟩:=h;cases r;obtain rfl:v=Value.ref a:=rx;obtain ⟨z,hd,xs,rel,o,es,ep,h1,h2,h3,h4,h5⟩:=Jy I.hok ha;refine Zqo hd ⟨o,h1,h2.1,h3⟩ ⟨.ref s.heap.objs.size,_,I.laid (t':=s.toks) (o:=.ext (UX s.heap.objs.size a)) (fun b u e=>Qo _ e) (Qe _) ?_,rfl,q _ (I.hok.fresh (Qe _))⟩;have g:(s.heap.push { cls:=.type "dict_items",data:=.fields #[.ref a] }).get? s.heap.objs.size=some { cls:=.type "dict_items",data:=.fields #[.ref a] }:=Qu _ rfl;refine ⟨⟨_,g,rfl,rfl⟩,⟨_,g⟩,fun g1 g2 φ k=>?_⟩;obtain ⟨o,o1,o2⟩:=φ;exact ⟨o,k o o1,o2⟩
noncomputable def JV (d:Addr) (o:Obj) (kvs:List (List Zi×V)):It where
 go:=fun i H=>H d=some (.frz o (.dT kvs))∧i<kvs.length
 stop:=fun i H=>H d=some (.frz o (.dT kvs))∧kvs.length≤i
 yld:=fun i H v H'=>∃T c p,H T=none∧v=.ref T∧kvs[i]?=some p∧H c=some (.tup (p.1.map kV))∧H'=Zb H T (.tup [.ref c,p.2])
theorem ZmW {P:Program} {K:W.Frag} {ts:List Expr} {n:Nat} {pos:Pos} (d j:Addr) (o:Obj) (kvs:List (List Zi×V)) (es:Array DictEntry) (ep:Nat) (ho:o.data=.dict es ep) (hc:o.cls=.type "dict") (hz:es.size=kvs.length) :
  Turn P w K (.Tuple ts n pos) (JV d o kvs) [j] j (fun i h=>∃ok ov,IsItemIter h j d i es.size ep ok ov) where
 mem:=by simp
 obj:=fun i h ⟨ok,ov,st⟩ b hb=>by
  have e:b=j:=by simpa using hb
  subst e;exact ⟨_,st,fun v z=>by cases z⟩
 keep:=fun i h h' ⟨ok,ov,st⟩ k=>⟨ok,ov,k j (by simp) _ st⟩
 item:=by
  intro X hP hw hK hcalm i pins s σ H E I hf st hg;subst hP hw hK;obtain ⟨ok,ov,st⟩:=st;obtain ⟨hq,hi⟩:=hg;obtain ⟨g1,g2⟩:=(show s.heap.get? d=some o∧ObjOk X.prog X.w H s.heap d (.dT kvs) from I.hok d _ hq);obtain ⟨z,hd,xs,rel,o2,es2,ep2,h1,h2,h3,h4,h5⟩:=Vj I.hok (.inr ⟨o,hq⟩);rw [g1] at h1;cases h1;rw [ho] at h3;cases h3;obtain ⟨x,hx,hxt,rx⟩:=ZfY rel i kvs[i] (Qw hi)
  have hen:∃en,es[i]?=some en∧en.key=.ref x.2.1∧en.val=x.2.2:=by
   have e1:es.toList[i]?=es[i]?:=GX ..;rw [h4,Qp,hx] at e1;exact ⟨_,e1.symm,rfl,rfl⟩
  obtain ⟨en,hen,ek,ev⟩:=hen;have lj:j<s.heap.objs.size:=Qn st;refine ZnL st ⟨o,g1,hc,ho⟩ hen fun h1 io tt kk=>?_;refine ⟨_,rfl,wpAny_letOwnedTupleGo_items io fun h2 st2 sb=>?_⟩;have tt2:=sb.extBut _ _ (RD lj) tt
  have k2:∀c o,c∉[j]->s.heap.get? c=some o->h2.get? c=some o:=fun c o hc e=>by
   have nc:c≠j:=by simpa using hc
   exact sb.extBut _ _ nc (kk c o nc e)
  have I':=I.turnedLaid (t':=s.toks) (o:=.tup [.ref x.2.1,kvs[i].2]) hf k2 (Qe _) (show ObjOk X.prog X.w _ h2 _ (.tup [.ref x.2.1,kvs[i].2]) from ⟨Zy (by simp),[en.key,en.val],.cons (by rw [ek];rfl) (.cons (by rw [ev];exact rx) .nil),⟨_,tt2,rfl,_,rfl⟩⟩);refine ⟨.ref s.heap.objs.size,_,I',rfl,⟨s.heap.objs.size,x.2.1,kvs[i],I.hok.fresh (Qe _),rfl,Qw hi,hxt,rfl⟩,⟨_,_,st2⟩,fun c hc=>?_⟩;have ec:c=j:=by simpa using hc
  subst ec;rw [Zg (QA lj)];exact (hf c (by simp)).1
 done:=by
  intro X hP hw hK hcalm i pins s σ H E I hf st hg;subst hP hw hK;obtain ⟨ok,ov,st⟩:=st;obtain ⟨hq,hi⟩:=hg;obtain ⟨g1,g2⟩:=(show s.heap.get? d=some o∧ObjOk X.prog X.w H s.heap d (.dT kvs) from I.hok d _ hq);obtain ⟨f0,f1,f2,f3,f4,f5⟩:=hf j (by simp);exact Zp9 (I.ok.hd hcalm) st ⟨o,g1,hc,ho⟩ (by omega) fun h' eb=>⟨rfl,I.turned (t':=s.toks) (fun b o hb e=>eb b o hb e) f0 f1 f3 f4 f5⟩
 self:=fun _ _ _ _ _ ⟨ok,ov,st⟩ h=>kcp_self st h
def Zot (tl:TE):TI:=fun σ H R=>tl σ H fun x H1=>∃r a kvs,x=.ref r∧H1 r=some (.ext (UX r a))∧H1 a=some (.dT kvs)∧∀o,R (JV a o kvs) (Zb H1 a (.frz o (.dT kvs)))
theorem ZlK {l:Expr} {tl:TE} {ts:List Expr} {n:Nat} {pos:Pos} (hl:PE X l tl):PI X (.Tuple ts n pos) l (Zot tl):=by
 intro pins s σ H R I h;refine Zq (hl pins s σ H _ I h) fun v s1 ⟨x,H1,I1,r1,q1⟩=>?_;obtain ⟨r,a,kvs,e,hr,ha,q⟩:=q1;subst e;cases r1;have hview:s1.heap.IsItemsView r a:=(show ObjOk X.prog X.w H1 s1.heap r (.ext (UX r a)) from I1.hok r _ hr).1;obtain ⟨o,es,ep,h1,h2,h3,hes,hd,If⟩:=I1.freezeT ha;refine ZlY hview ⟨o,h1,h2,h3⟩ ?_;refine ⟨s1.heap.objs.size,[s1.heap.objs.size],_,_,_,rfl,If.kept (t':=s1.toks) fun b o e=>Qo _ e,ZmW a _ o kvs es ep h3 h2 hes,⟨_,_,Qu _ rfl⟩,fun b hb=>?_,q o⟩;have e:b=s1.heap.objs.size:=by simpa using hb
 subst e;exact If.fpOk (Qe _) (If.hok.fresh (Qe _))
theorem Zoo {o:Obj} {kvs:List (List Zi×V)} {g:TG} {tb:TS} {D:Ends} (Pv:Nat->St->Hp->Prop) (h0:Pv 0 σ H) (hl:∀i σ H,i≤kvs.length->Pv i σ H->H d=some (.frz o (.dT kvs)))
 (hs:∀i p T c σ H,kvs[i]?=some p->Pv i σ H->H T=none->H c=some (.tup (p.1.map kV))->g (.ref T) σ (Zb H T (.tup [.ref c,p.2])) fun σ2 H2=>tb { D with nx:=Pv (i+1),ct:=Pv (i+1),bk:=D.nx } σ2 H2) (hd:∀σ H,Pv kvs.length σ H->D.nx σ H) :
  ∃W:Nat->Nat->St->Hp->Prop,(∃m,W 0 m σ H)∧∀i m σ H,W i m σ H →
   ((JV d o kvs).stop i H∧D.nx σ H)∨((JV d o kvs).go i H∧∃N:St->Hp->Prop,(∀σ' H',N σ' H'->∃m',m'<m∧W (i+1) m' σ' H')∧∀x H',(JV d o kvs).yld i H x H'->g x σ H' fun σ2 H2=>tb { D with nx:=N,ct:=N,bk:=D.nx } σ2 H2):=by
 refine ⟨fun i m σ H=>m=kvs.length-i∧i≤kvs.length∧Pv i σ H,⟨kvs.length,by simp,QL _,h0⟩,?_⟩;rintro i m σ H ⟨rfl,hi,p⟩;have q:=hl i σ H hi p;by_cases hlt:i<kvs.length
 ·refine .inr ⟨⟨q,hlt⟩,Pv (i+1),fun σ' H' p'=>⟨kvs.length-(i+1),by omega,rfl,hlt,p'⟩,fun x H' y=>?_⟩;obtain ⟨T,c,r,nT,rfl,hr,hc,rfl⟩:=y;exact hs i r T c σ _ hr p nT hc
 ·have e:i=kvs.length:=by omega
  subst e;exact .inl ⟨⟨q,Qe _⟩,hd σ H p⟩
theorem Zgb {o:Obj} {kvs:List (Zi×V)} {g:TG} {tb:TS} {D:Ends} (Pv:Nat->St->Hp->Prop) (h0:Pv 0 σ H) (hl:∀i σ H,i≤kvs.length->Pv i σ H->H d=some (.frz o (.dK kvs)))
 (hs:∀i p σ H,kvs[i]?=some p->Pv i σ H->g (kV p.1) σ H fun σ2 H2=>tb { D with nx:=Pv (i+1),ct:=Pv (i+1),bk:=D.nx } σ2 H2) (hd:∀σ H,Pv kvs.length σ H->D.nx σ H) :
  ∃W:Nat->Nat->St->Hp->Prop,(∃m,W 0 m σ H)∧∀i m σ H,W i m σ H →
   ((J8 d o kvs).stop i H∧D.nx σ H)∨((J8 d o kvs).go i H∧∃N:St->Hp->Prop,(∀σ' H',N σ' H'->∃m',m'<m∧W (i+1) m' σ' H')∧∀x H',(J8 d o kvs).yld i H x H'->g x σ H' fun σ2 H2=>tb { D with nx:=N,ct:=N,bk:=D.nx } σ2 H2):=by
 refine ⟨fun i m σ H=>m=kvs.length-i∧i≤kvs.length∧Pv i σ H,⟨kvs.length,by simp,QL _,h0⟩,?_⟩;rintro i m σ H ⟨rfl,hi,p⟩;have q:=hl i σ H hi p;by_cases hlt:i<kvs.length
 ·refine .inr ⟨⟨q,hlt⟩,Pv (i+1),fun σ' H' p'=>⟨kvs.length-(i+1),by omega,rfl,hlt,p'⟩,fun x H' y=>?_⟩;obtain ⟨rfl,y⟩:=y;rw [Qw hlt] at y;cases (show kV kvs[i].1=x from Ql y);exact hs i kvs[i] σ _ (Qw hlt) p
 ·have e:i=kvs.length:=by omega
  subst e;exact .inl ⟨⟨q,Qe _⟩,hd σ H p⟩
end L2
namespace L2
open PySem PySem.Spec PyProof.Rows
variable {X:Cx} {e:Expr} {pos:Pos} {w:World} {CX:YH}
theorem ZJ {N P:List Str} {sc:Scope} (h1:sc.kind=.function:=by rfl) (h2:sc.isCoroutine=false:=by rfl) (h3:sc.isGenerator=false:=by rfl) (h4:N.Nodup:=by trivial) (h5:N.take P.length=P:=by rfl)
 (h6:∀x∈P,sc.names.lookup x=some .local∨sc.names.lookup x=some .cell:=by trivial) (h7:∀y∈sc.names,y.2≠.free:=by trivial):FnScope N P sc:=⟨h1,h2,h3,h4,h5,h6,h7⟩
section
variable {k n:Nat} {x:Str} {st:Stmt} {ps:List Str} {sp:Sp} {p:Pos} {es:List Expr} {t:TA} {E:St->XK}
theorem ZW {d:Df X.K X.mg x st ps} (F:FnOk X.prog X.w X.K X.mg X.base CX k d.a (ZC X.K d.a) ps sp) (hr:Room n X.A) (hx:Wp CX X E) (ha:PA X (e::es) t) (hn:k≤n:=by decide) (hg:Gl X x:=by rfl)
 (hdb:(x==("__debug__": Str))=false:=by decide) (he:starEach (e::es) X.env=(false,eval e X.env)::starEach es X.env:=by rfl) (hpl:(backTo pos (starEach es X.env)).any (·.1)=false:=by rfl) :
  PE X (.Call (.Name x p) (e::es) [] pos) (Zh3 sp [] E t):=Znd F (hr.mono hn) hg d.m d.F.kp d.b .nil hx ha hdb he hpl
end
noncomputable def Ju (lo:Int) (c n:Nat):It:=⟨fun i _=>i<n,fun i H x H'=>H'=H∧x=.int (lo+i*c),fun i _=>n≤i⟩
theorem Zoz {P:Program} {K:PySem.W.Frag} {tg:Expr} (it:Addr) (lo:Int) (c n:Nat):Turn P w K tg (Ju lo c n) [it] it (fun i h=>IsRangeIter h it (lo+(i:Nat)*(c:Int)) ((n:Int)-(i:Nat)) c) where
 mem:=by simp
 obj:=fun i h st b hb=>by
  have e:b=it:=by simpa using hb
  subst e
  exact ⟨_,st,fun v z=>by
   have z':Data.fields _=Data.cell v:=z;cases z'⟩
 keep:=fun i h h' st k=>k it (by simp) _ st
 item:=by
  intro X hP hw hK hc i pins s σ H E I hf st hg;subst hP hw hK;obtain ⟨f0,f1,f2,f3,f4,f5⟩:=hf it (by simp);have W:=Walks.range (prog:=X.prog) (w:=X.w) (I.ok.hd hc) it lo c n;refine W.item i s _ _ hg st fun v h' tk hv st' kk=>?_;obtain ⟨t,rfl⟩:=hv;have I1:Inv X pins σ H { s with heap:=h',toks:=tk }:=I.turned (fun b o hb e=>kk b o (by simpa using hb) e) f0 f1 f3 f4 f5;exact ⟨_,rfl,JI (s:={ s with heap:=h',toks:=tk }) (n:="range_iterator") st' rfl rfl (by decide) ⟨.int (lo+i*c),H,I1,⟨t,rfl⟩,⟨rfl,rfl⟩,st',fun b hb=>(hf b hb).1⟩⟩
 done:=by
  intro X hP hw hK hc i pins s σ H E I hf st hg;subst hP hw hK;obtain ⟨f0,f1,f2,f3,f4,f5⟩:=hf it (by simp);exact wpAny_pyNext_range_end (I.ok.hd hc) st (by have:n≤i:=hg;omega) fun h' eb=>⟨rfl,I.turned (t':=s.toks) (fun b o hb e=>eb b o hb e) f0 f1 f3 f4 f5⟩
 self:=fun _ _ _ _ _ st h=>wpAny_pyIter_rangeiter st h
section
variable {tg:Expr}
def Zoi (ta:TA):TI:=fun σ H R=>ta σ H fun vs H1=>∃(i j:Int) (c:Nat),vs=[.int i,.int j,.int c]∧(0≤i∧i≤1000∧0≤j∧j≤1000∧0<c∧c≤1000)∧∀n:Nat,(∀k:Nat,k<n->i+(k:Int)*(c:Int)<j)->n≤1000->R (Ju i c n) H1
theorem ZoZ {i j:Int} {c:Nat} (h:0≤i∧i≤1000∧0≤j∧j≤1000∧0<c∧c≤1000):∃n:Nat,Builtin.Range.rangeSize i j c=(n:Int)∧(∀k:Nat,k<n->i+(k:Int)*(c:Int)<j)∧n≤1000:=by
 obtain ⟨h1,h2,h3,h4,h5,h6⟩:=h;have cp:(0:Int)<(c:Int):=by omega
 unfold Builtin.Range.rangeSize;rw [Qb cp];by_cases ij:i<j
 ·rw [Qb ij];have q0:0≤(j-i-1)/(c:Int):=Int.ediv_nonneg (by omega) (by omega);have q1:(j-i-1)/(c:Int)≤j-i-1:=Int.ediv_le_self _ (by omega);refine ⟨((j-i-1)/(c:Int)+1).toNat,by omega,fun k hk=>?_,by omega⟩;have a:(k:Int)≤(j-i-1)/(c:Int):=by omega
  have b:=Int.mul_le_of_le_ediv cp a;omega
 ·rw [Qa ij];exact ⟨0,rfl,fun k hk=>absurd hk (Nat.not_lt_zero _),by omega⟩
theorem Zmz {a b c:Expr} {ta:TA} {p:Pos} (hg:Gl X "range") (hm:X.mg "range"=none) (ha:PA X [a,b,c] ta) (hs:starEach [a,b,c] X.env=[(false,eval a X.env),(false,eval b X.env),(false,eval c X.env)]:=by rfl) (hs2:starEach [b,c] X.env=[(false,eval b X.env),(false,eval c X.env)]:=by rfl) :
  PI X tg (.Call (.Name "range" p) [a,b,c] [] pos) (Zoi ta):=by
 intro pins s σ H R I h;refine Call_ (UQ I hg hm boot_range (GR (Zq (ha pos pins s σ H _ I h) fun us s1 ⟨vs,H1,I1,r1,q1⟩=>?_) (by rw [hs,hs2]) (by rw [hs2];rfl)));obtain ⟨i,j,c,e,hb,q⟩:=q1;subst e;obtain ⟨n,hn,h1,h2⟩:=ZoZ hb;have q:=q n h1 h2;cases r1 with
 |cons r rr =>
 cases rr with
 |cons r' rr =>
 cases rr with
 |cons r2 rr =>
 cases rr;obtain ⟨t,rfl⟩:=r;obtain ⟨t',rfl⟩:=r';obtain ⟨t2,rfl⟩:=r2
 have sm:Builtin.Range.small i j (c:Int)=true:=by
  unfold Builtin.Range.small;rw [hn];have cp:(c:Int) > 0:=by omega
  simp only [Builtin.Range.rangeFitsLong,Ri,RH,GK,Rs,Qb cp];omega
 refine call_range_3 (by omega) ?_ (.inl (PyProof.noPylong_small (by omega)));refine wpAny_pyIter_range (IsRange.new ..) sm ?_;have I2:=I1.kept (h':=s1.heap.push { cls:=.type "range",data:=.fields #[.int i t,.int j t',.int (c:Int) t2] }) (t':=s1.toks) fun b o e=>Qo _ e;refine ⟨_,[_],_,_,H1,rfl,I2.kept (t':=s1.toks) fun b o e=>Qo _ e,Zoz _ i c n,?_,fun b hb=>?_,q⟩
 ·show IsRangeIter _ _ (i+((0:Nat):Int)*(c:Int)) ((n:Int)-((0:Nat):Int)) c;rw [show i+((0:Nat):Int)*(c:Int)=i by simp,show (n:Int)-((0:Nat):Int)=(n:Int) by simp,←hn];exact Qu _ rfl
 ·obtain rfl:=QT.mp hb;exact I2.fpOk (Qe _) (I2.hok.fresh (Qe _))
theorem ZpT {lo:Int} {c n:Nat} {g:TG} {tb:TS} {D:Ends} {σ:St} {H:Hp} (Pv:Nat->St->Hp->Prop) (h0:Pv 0 σ H)
 (hs:∀i σ H,i<n->Pv i σ H->g (.int (lo+i*c)) σ H fun σ2 H2=>tb { D with nx:=Pv (i+1),ct:=Pv (i+1),bk:=D.nx } σ2 H2) (hd:∀σ H,Pv n σ H->D.nx σ H) :
  ∃W:Nat->Nat->St->Hp->Prop,(∃m,W 0 m σ H)∧∀i m σ H,W i m σ H →
   ((Ju lo c n).stop i H∧D.nx σ H)∨((Ju lo c n).go i H∧∃N:St->Hp->Prop,(∀σ' H',N σ' H'->∃m',m'<m∧W (i+1) m' σ' H')∧∀x H',(Ju lo c n).yld i H x H'->g x σ H' fun σ2 H2=>tb { D with nx:=N,ct:=N,bk:=D.nx } σ2 H2):=by
 refine ⟨fun i m σ H=>m=n-i∧i≤n∧Pv i σ H,⟨n,by simp,QL _,h0⟩,?_⟩;rintro i m σ H ⟨rfl,hi,p⟩;by_cases hlt:i<n
 ·refine .inr ⟨hlt,Pv (i+1),fun σ' H' p'=>⟨n-(i+1),by omega,rfl,hlt,p'⟩,fun x H' y=>?_⟩;obtain ⟨e,y⟩:=y;subst e y;exact hs i σ _ hlt p
 ·have e:i=n:=by omega
  subst e;exact .inl ⟨Qe _,hd σ H p⟩
end
section
variable {k1 k2 k3:Nat} {f1 C1 f2 C2 f3 C3:Addr} {fd1 fd2 fd3:FuncData} {ps1 ps2 ps3:List Str} {sp1 sp2 sp3:Sp} {E:XS} {m:Str} {apos:Pos} {o:Expr} {es:List Expr} {ta:TE} {t:TA}
@[irreducible] def UB (C1 C2 C3:Addr) (m:Str) (sp1 sp2 sp3:Sp) (E:XS) (ta:TE) (t:TA):TE:=fun σ H Q=>ta σ H fun x H1=>∃a dx fs,x=.ref a∧fs.lookup m=none ∧
 ((H1 a=some (.ins C1 dx fs)∧t σ H1 fun vs H2=>sp1 (x::(vs++[])) H2 Q (E σ))∨(H1 a=some (.ins C2 dx fs)∧t σ H1 fun vs H2=>sp2 (x::(vs++[])) H2 Q (E σ))∨(H1 a=some (.ins C3 dx fs)∧t σ H1 fun vs H2=>sp3 (x::(vs++[])) H2 Q (E σ)))
theorem Ziu {pl:Sem Bool} (he:PE X o ta) (c1:Cls X.K C1) (hm1:Meth X.K C1 m f1) (F1:FnOk X.prog X.w X.K X.mg X.base CX k1 f1 fd1 ps1 sp1) (hr1:Room k1 X.A) (hb1:Binds X.K fd1 ps1 [])
 (c2:Cls X.K C2) (hm2:Meth X.K C2 m f2) (F2:FnOk X.prog X.w X.K X.mg X.base CX k2 f2 fd2 ps2 sp2) (hr2:Room k2 X.A) (hb2:Binds X.K fd2 ps2 [])
 (c3:Cls X.K C3) (hm3:Meth X.K C3 m f3) (F3:FnOk X.prog X.w X.K X.mg X.base CX k3 f3 fd3 ps3 sp3) (hr3:Room k3 X.A) (hb3:Binds X.K fd3 ps3 []) (hx:Wp CX X E) (ha:PA X (e::es) t)
 (hst:starEach (e::es) X.env=(false,eval e X.env)::starEach es X.env:=by rfl) (hpl:(backTo pos (starEach es X.env)).any (·.1)=false:=by rfl)
 (ht:eval (.Call (.Attribute o m apos) (e::es) [] pos) X.env=(do
 let ov ←eval o X.env
 standAt apos.atName
 let (f,first) ←holding [ov] (getMethod ov m pl)
 callWith pos f first (backTo pos (starEach (e::es) X.env)) (backToKw pos (keywordEach [] X.env))):=by rfl) :
  PE X (.Call (.Attribute o m apos) (e::es) [] pos) (UB C1 C2 C3 m sp1 sp2 sp3 E ta t):=by
 unfold UB;intro pins s σ H Q I h;refine W.methodCall_KW (pl:=pl) (Zq (he pins s σ H _ I h) fun u s1 ⟨x,H1,I1,rx,a,dx,fs,ex,l,q⟩=>?_) ht;subst ex;obtain rfl:u=Value.ref a:=rx;rcases q with ⟨ea,q⟩|⟨ea,q⟩|⟨ea,q⟩
 ·refine J3 I1 ea c1 hm1 l (RT (first:=[.ref a]) (h₀:=X.base) I.ok.mod.kin hm1.kp (Zq (ha pos pins s1 σ H1 _ I1 q) fun us s2 ⟨vs,H2,I2,r,q2⟩=>⟨I2.kIn,?_⟩) hst hpl);exact US (us:=.ref a::us) (vs:=.ref a::vs) F1 hr1 hb1 .nil hx I2 (.cons rfl r) q2
 ·refine J3 I1 ea c2 hm2 l (RT (first:=[.ref a]) (h₀:=X.base) I.ok.mod.kin hm2.kp (Zq (ha pos pins s1 σ H1 _ I1 q) fun us s2 ⟨vs,H2,I2,r,q2⟩=>⟨I2.kIn,?_⟩) hst hpl);exact US (us:=.ref a::us) (vs:=.ref a::vs) F2 hr2 hb2 .nil hx I2 (.cons rfl r) q2
 ·refine J3 I1 ea c3 hm3 l (RT (first:=[.ref a]) (h₀:=X.base) I.ok.mod.kin hm3.kp (Zq (ha pos pins s1 σ H1 _ I1 q) fun us s2 ⟨vs,H2,I2,r,q2⟩=>⟨I2.kIn,?_⟩) hst hpl);exact US (us:=.ref a::us) (vs:=.ref a::vs) F3 hr3 hb3 .nil hx I2 (.cons rfl r) q2
end
section
variable {prog:Program} {A:Around} {E:Value->Shared->Prop} {s:Shared}
end
section
variable {A:Around} {s:Shared}
end
abbrev WR:=List (Str×Addr×List Str)
noncomputable def YS (rs:WR):List (Zi×V):=rs.map fun r=>(.inr r.1,.ref r.2.1)
theorem Zgv (hu:X.A.units+64<cLine):Yl X (compareOp .NotEq) (fun x y H Q=>∃a b,∃zs:List Str,x=.ref a∧y=.ref b∧SqL X.K H a (zs.map V.str)∧SqL X.K H b (zs.map V.str)∧Q (.bl false) H):=by
 intro pins s σ H x y v u Q I rx ry ⟨a,b,zs,ex,ey,ha,hb,q⟩;subst ex ey;cases (show v=Value.ref a from rx);cases (show u=Value.ref b from ry);obtain ⟨its,rv,z,_⟩:=I.list ha;obtain ⟨its2,rv2,z2,_⟩:=I.list hb;have e1:=rv.length;have e2:=rv2.length;rw [Qd] at e1 e2
 have g:=SeqAt.RcNeAt.lists (A:=X.A) (e:=fun _=>true) z.isList z2.isList (by simp only [Qz,←e1,←e2]) (by omega) fun j h1 h2=>by
  have j1:j<zs.length:=by rw [Qz,←e1] at h1;exact h1
  have k:(zs.map V.str)[j]?=some (.str zs[j]):=by rw [Qp,Qw j1];rfl
  obtain ⟨u1,hu1,r1⟩:=rv.get k;obtain ⟨u2,hu2,r2⟩:=rv2.get k;obtain ⟨_,w1⟩:=QC.mp hu1;obtain ⟨_,w2⟩:=QC.mp hu2;have g:=Zii (A:=X.A.in1) (s:=s) r1 r2 rfl rfl;rw [show Yu (.str zs[j]) (.str zs[j])=true by simp [Yu]] at g;simpa [w1,w2] using g
 rw [show (List.range its.toArray.size).all (fun _=>true)=true by simp] at g;exact g _ _ _ _ ⟨.bl _,H,I,rfl,q⟩
theorem ZoL {P:Program} {K:W.Frag} {mg:Str->Option Value} {base:Heap} {k:Nat} {f:Addr} {fd:FuncData} {ps:List Str}:FnOk P w K mg base CX k f fd ps (fun _ _ _ _=>False):=⟨fun _ _ _ _ h=>h.elim,fun _ _ _ _ _ _ _ _ _ _ _ _ _ h=>h.elim⟩
def ZmS (td ty tx:TE):TE:=fun σ H Q=>td σ H fun x H1=>∃a,x=.ref a∧IsD H1 a∧ty σ H1 fun y H2=>tx σ H2 fun z H3=>∃kvs k v,H3 a=some (.dK kvs)∧y=kV k∧ZD kvs k=some v∧Q v H3
section
variable {o f:Expr} {apos cpos:Pos} {td ty tx:TE}
theorem Zn9 (ho:PE X o td) (he:PE X e ty) (hf:PE X f tx) (m:M2 X o "setdefault" apos e f cpos):PE X (.Call (.Attribute o "setdefault" apos) [e,f] [] cpos) (ZmS td ty tx):=by
 intro pins s σ H Q I h;refine NC m.base m.few m.line GY Ng N4 (Zq (ho pins s σ H _ I h) fun u s1 ⟨x,H1,I1,rx,a,ex,d,q1⟩=>?_);subst ex;obtain rfl:u=Value.ref a:=rx;obtain ⟨t1,t2,_⟩:=Zb4 I1 d;refine ⟨t1,t2,?_⟩;rw [m.trees]
 refine Gx rfl (Gy (RO (Zq (he pins s1 σ H1 _ I1 q1) fun iv s2 ⟨y,H2,I2,ry,q2⟩ =>
  RO (Zq (hf pins s2 σ H2 _ I2 q2) fun fv s3 ⟨z,H3,I3,rz,kvs,k,v,ea,ey,hv,q3⟩=>GU ?_))))
 subst ey;obtain ⟨hz,hS,vs,rel,dd⟩:=JQ I3.hok ea;have hr:=rel.val k;rw [hv] at hr;refine Gb Ng dd.typeIs N2 (N3 _ _ _) (kt_meets_setdefault (Yw X.prog X.w) (k:=k) a (V3 ry) hS fv) ⟨vs,dd,by rw [←rel.length];exact hz,fun w' e=>?_,fun e=>?_⟩
 ·rw [e] at hr;exact ⟨v,H3,I3.tok _,hr,q3⟩
 ·rw [e] at hr;cases hr
end
end L2
namespace WayM
open PySem
noncomputable def Zaf:List Str:=["F","M","T","f","m","t","S","he","she"]
def U2 (x:Str):Prop:=x∈Zaf
noncomputable instance (x:Str):Decidable (U2 x):=inferInstanceAs (Decidable (x∈Zaf))
end WayM
namespace TongM
open PySem WayM TextM TextG
variable {b:Bran} {rows:List Rw} {ws:List Str} {c:Nat}
theorem str_eq {a b:Str} (h:a.cps.toList=b.cps.toList):a=b:=RW (Rx.mp h)
theorem W7 (a b:Str):(a++b).cps.toList=a.cps.toList++b.cps.toList:=by rw [GF,GG]
theorem JC (a:Str):a.cps.toList.length=a.length:=by rw [QD];rfl
noncomputable def alpha:Str:="abcdefghijklmnopqrstuvwxyz"
theorem Znq:∀c∈alpha.cps.toList,97≤c∧c≤122:=by trivial
structure Nm (x:Str):Prop where
 lo:1≤x.length
 hi:x.length≤8
 all:∀c∈x.cps.toList,c∈alpha.cps.toList
theorem Nm.rng {x:Str} (h:Nm x) (hc:c∈x.cps.toList):97≤c∧c≤122:=Znq c (h.all c hc)
noncomputable def partsOf (c:Nat) (z:Str):List Str:=(splitL c z.cps.toList).map fun q=>(⟨q.toArray⟩:Str)
noncomputable def Vt:List Str:=["F","M","T","f","m","t","S"]
noncomputable def Ziw:List Str:=["he","she"]
noncomputable def Wf (x:Str):Bool:=decide (x∈Vt)
noncomputable def ZbA (x:Str):Bool:=decide (x∈Ziw)
theorem ZkA (x:Str):U2 x↔(Wf x||ZbA x)=true:=by
 unfold U2 Wf ZbA Zaf Vt Ziw;simp [or_assoc]
noncomputable def marks:List Str:=["other","elder","younger"]
noncomputable def JA (ws:List Str) (s:Str):Bool:=Wf s||ZbA s||(Txt.startswith s ":"&&decide (Txt.slice s (some 1) none∈ws))
abbrev Bran:=List Str×Str
abbrev Rw:=Str×List Bran
structure PartT (ws:List Str) (z:Str) (b:Bran):Prop where
 parts:partsOf 32 z=b.1++(if b.2="" then [] else [b.2])
 mark:b.2=""∨b.2∈marks
 lo:1≤b.1.length
 hi:b.1.length≤12
 ok:∀p∈b.1,JA ws p=true
noncomputable def bar:Str:=" | "
noncomputable def equ:Str:=" = "
noncomputable def col:Str:=":"
structure PartsT (ws:List Str) (z:Str) (bs:List Bran):Prop where
 len:(cutAt bar z).length=bs.length
 hi:bs.length≤8
 each:∀(i:Nat) (y:Str) (b:Bran),(cutAt bar z)[i]?=some y->bs[i]?=some b->PartT ws y b∧y.length≤1000
structure RowsT (z:Str) (rows:List Rw):Prop where
 len:(partsOf 10 z).length=rows.length
 hi:rows.length≤40
 each:∀(i:Nat) (y:Str) (r:Rw),(partsOf 10 z)[i]?=some y->rows[i]?=some r->y.length≤10000∧(Txt.partition y equ).1=r.1∧Nm r.1∧r.1∉(rows.take i).map (·.1)∧(Txt.partition y equ).2.2.length≤10000∧PartsT ((rows.take i).map (·.1)) (Txt.partition y equ).2.2 r.2
noncomputable def V2:Str:=⟨#[32]⟩
noncomputable def line:Str:=⟨#[10]⟩
noncomputable def lineOf (b:Bran):Str:=if b.2="" then V2.join b.1 else V2.join b.1++V2++b.2
noncomputable def rowTxt (r:Rw):Str:=r.1++equ++bar.join (r.2.map lineOf)
noncomputable def txt (rows:List Rw):Str:=line.join (rows.map rowTxt)
def ZdD (ws:List Str) (s:Str):Prop:=U2 s∨∃w∈ws,s=col++w
structure GoodB (ws:List Str) (b:Bran):Prop where
 lo:1≤b.1.length
 hi:b.1.length≤12
 mark:b.2=""∨b.2∈marks
 ok:∀p∈b.1,ZdD ws p
structure GoodR (rows:List Rw):Prop where
 ne:rows≠[]
 hi:rows.length≤40
 nd:(rows.map (·.1)).Nodup
 nm:∀r∈rows,Nm r.1
 br:∀(i:Nat) (r:Rw),rows[i]?=some r->r.2≠[]∧r.2.length≤8∧∀b∈r.2,GoodB ((rows.take i).map (·.1)) b
theorem Zer {sep:Str} {c:Nat}:∀{l:List Str},c∈(sep.join l).cps.toList->c∈sep.cps.toList∨∃x∈l,c∈x.cps.toList
 |[],h=>by cases h
 |[p],h=>.inr ⟨p,by simp,h⟩
 |p::q::r,h=>by
  have h2:c∈(p++sep++sep.join (q::r)).cps.toList:=h;rw [W7,W7] at h2;rcases Qq.mp h2 with h3|h3
  ·rcases Qq.mp h3 with h4|h4
   ·exact .inr ⟨p,by simp,h4⟩
   ·exact .inl h4
  ·rcases Zer h3 with h4|⟨x,hx,h4⟩
   ·exact .inl h4
   ·exact .inr ⟨x,Qx _ hx,h4⟩
theorem Zan {sep:Str} {n:Nat}:∀{l:List Str},(∀x∈l,x.length≤n)->(sep.join l).length≤l.length*(n+sep.length)
 |[],_=>QL _
 |[p],h=>by
  have:=h p (by simp);show p.length≤1*(n+sep.length);omega
 |p::q::r,h=>by
  have ih:=Zan (sep:=sep) (n:=n) (l:=q::r) fun x hx=>h x (Qx _ hx);have:=h p (by simp);show (p++sep++sep.join (q::r)).length≤_;rw [Rl,Rl]
  have e:(p::q::r).length*(n+sep.length)=(q::r).length*(n+sep.length)+(n+sep.length):=by
   rw [QG,Nat.add_mul,Nat.one_mul]
  omega
theorem Zp8 {sep:Str} {x:Str} (hn:ws≠[]):sep.join (ws++[x])=sep.join ws++sep++x:=by
 induction ws with
 |nil=>exact absurd rfl hn
 |cons p ps ih =>
  cases ps with
  |nil=>rfl
  |cons q r =>
   show p++sep++sep.join ((q::r)++[x])=(p++sep++sep.join (q::r))++sep++x;rw [ih (by simp)];simp only [Str.append_assoc]
theorem ZhT (hc:c<256) (h:∀x∈ws,c∉x.cps.toList) (hn:ws≠[]):partsOf c ((⟨#[c]⟩:Str).join ws)=ws:=by
 obtain ⟨p,ps,rfl⟩:=N8 hn;unfold partsOf;rw [←split_one _ _ (kind_low hc)];exact ZjZ (kind_low hc) fun q hq=>h q hq
theorem ZmT {x:Str} (h:U2 x):∀c∈x.cps.toList,65≤c∧c≤122:=(show ∀x∈Zaf,∀c∈x.cps.toList,65≤c∧c≤122 by trivial) x h
theorem Zlo {x:Str} (h:U2 x):x.length≤3:=(show ∀x∈Zaf,x.length≤3 by trivial) x h
theorem ZjO {x:Str} (h:x∈marks):∀c∈x.cps.toList,65≤c∧c≤122:=(show ∀x∈marks,∀c∈x.cps.toList,65≤c∧c≤122 by trivial) x h
theorem ZjN {x:Str} (h:x∈marks):x.length≤7:=(show ∀x∈marks,x.length≤7 by trivial) x h
theorem ZbX:col.cps.toList=[58]:=by trivial
theorem ZmK (hw:∀w∈ws,Nm w) {s:Str} (h:ZdD ws s):(∀c∈s.cps.toList,58≤c∧c≠61∧c≤122)∧s.length≤9:=by
 rcases h with h|⟨w,hm,rfl⟩
 ·refine ⟨fun c hc=>?_,?_⟩
  ·have:=ZmT h c hc;omega
  ·have:=Zlo h;omega
 ·have nw:=hw w hm;refine ⟨fun c hc=>?_,?_⟩
  ·rw [W7,ZbX] at hc;rcases Qq.mp hc with h1|h1
   ·have:c=58:=by simpa using h1
    omega
   ·have:=nw.rng h1;omega
  ·rw [Rl];have:=nw.hi;have:col.length=1:=by trivial
   omega
theorem ZkF (w:Str):Txt.slice (col++w) (some 1) none=w:=by
 have l:(col++w).length=1+w.length:=by rw [Rl];rfl
 have e:Txt.slice (col++w) (some 1) none=StrLaws.sliceText (col++w) (some ((1:Nat):Int)) (some (((1+w.length:Nat):Nat):Int)):=by
  show StrLaws.sliceText (col++w) (some 1) none=_;unfold StrLaws.sliceText;rw [StrLaws.sliceIdx_none_hi,l];rfl
 rw [e,StrLaws.sliceText_nat _ (by omega) (by omega)];refine str_eq ?_;show ((col++w).cps.toList.drop 1).take _=_;rw [W7,ZbX];simp;rw [←JC,QU]
theorem Zjr (w:Str):Txt.startswith (col++w) ":"=true:=by
 unfold Txt.startswith;have l:(col++w).length=1+w.length:=by rw [Rl];rfl
 have l2:((":" : Str)).length=1:=by trivial
 rw [l,l2,Ri];refine ⟨Qr (by omega),?_⟩;rw [Nl,l2,W7,ZbX];have e:((":" : Str)).cps.toList=[58]:=by trivial
 rw [e];simp
theorem ZiI {s:Str} (h:ZdD ws s):JA ws s=true:=by
 unfold JA;rcases h with h|⟨w,hm,rfl⟩
 ·rw [(ZkA s).mp h,Bool.true_or]
 ·rw [Zjr,ZkF,Qr hm];simp
theorem lineOf_eq (h:b.1≠[]):lineOf b=V2.join (b.1++(if b.2="" then [] else [b.2])):=by
 unfold lineOf;by_cases e:b.2=""
 ·rw [Qb e,Qb e,Qt]
 ·rw [Qa e,Qa e,Zp8 h]
theorem good_mem (hw:∀w∈ws,Nm w) (g:GoodB ws b):∀x∈b.1++(if b.2="" then [] else [b.2]),(∀c∈x.cps.toList,58≤c∧c≠61∧c≤122)∧x.length≤9:=by
 intro x hx;rcases Qq.mp hx with h|h
 ·exact ZmK hw (g.ok x h)
 ·by_cases e:b.2=""
  ·rw [Qb e] at h;cases h
  ·rw [Qa e] at h;have ex:x=b.2:=by simpa using h
   have hm:=g.mark.resolve_left e;rw [ex];refine ⟨fun c hc=>?_,?_⟩
   ·have:=ZjO hm c hc;omega
   ·have:=ZjN hm;omega
theorem Zed (g:GoodB ws b):b.1≠[]:=fun e=>by have:=g.lo;rw [e] at this;exact absurd this (by decide)
theorem ZbK (hw:∀w∈ws,Nm w) (g:GoodB ws b):(∀c∈(lineOf b).cps.toList,c=32∨(58≤c∧c≠61∧c≤122))∧(lineOf b).length≤130:=by
 rw [lineOf_eq (Zed g)];refine ⟨fun c hc=>?_,?_⟩
 ·rcases Zer hc with h|⟨x,hx,h⟩
  ·exact .inl (by simpa [V2] using h)
  ·exact .inr ((good_mem hw g x hx).1 c h)
 ·have h1:=Zan (sep:=V2) (n:=9) fun x hx=>(good_mem hw g x hx).2;have h2:V2.length=1:=rfl
  have h3:(b.1++(if b.2="" then [] else [b.2])).length≤13:=by
   rw [Qv];have:=g.hi;split<;>simp<;>omega
  rw [h2] at h1;omega
theorem Zpw (hw:∀w∈ws,Nm w) (g:GoodB ws b):PartT ws (lineOf b) b:=by
 refine ⟨?_,g.mark,g.lo,g.hi,fun p hp=>ZiI (g.ok p hp)⟩;rw [lineOf_eq (Zed g)];refine ZhT (by decide) (fun x hx hc=>?_) (by simp [Zed g]);have:=(good_mem hw g x hx).1 32 hc;omega
theorem ZhX:bar.cps.toList=[32,124,32]:=by trivial
theorem ZeP:equ.cps.toList=[32,61,32]:=by trivial
structure GoodBs (ws:List Str) (bs:List Bran):Prop where
 ne:bs≠[]
 hi:bs.length≤8
 ok:∀b∈bs,GoodB ws b
theorem Zg2 {bs:List Bran} (hw:∀w∈ws,Nm w) (g:GoodBs ws bs):(∀c∈(bar.join (bs.map lineOf)).cps.toList,c=32∨(58≤c∧c≠61∧c≤124))∧(bar.join (bs.map lineOf)).length≤1064:=by
 refine ⟨fun c hc=>?_,?_⟩
 ·rcases Zer hc with h|⟨x,hx,h⟩
  ·rw [ZhX] at h;simp at h;omega
  ·obtain ⟨b,hb,rfl⟩:=Qg.mp hx;have:=(ZbK hw (g.ok b hb)).1 c h;omega
 ·have h1:=Zan (sep:=bar) (n:=130) (l:=bs.map lineOf) fun x hx=>by
   obtain ⟨b,hb,rfl⟩:=Qg.mp hx;exact (ZbK hw (g.ok b hb)).2
  have h2:bar.length=3:=by trivial
  rw [h2,Qd] at h1;have:=g.hi;omega
theorem Zoh {bs:List Bran} (hw:∀w∈ws,Nm w) (g:GoodBs ws bs):PartsT ws (bar.join (bs.map lineOf)) bs:=by
 obtain ⟨b0,bs0,rfl⟩:=N8 g.ne
 have e:cutAt bar (bar.join ((b0::bs0).map lineOf))=(b0::bs0).map lineOf:=by
  rw [Qs];refine ZnG ZhX (by decide) fun q hq hc=>?_;rw [←Qs] at hq;obtain ⟨b,hb,rfl⟩:=Qg.mp hq;have:=(ZbK hw (g.ok b hb)).1 124 hc;omega
 refine ⟨by rw [e,Qd],g.hi,fun i y b hy hb=>?_⟩;rw [e,Qp,hb] at hy;obtain rfl:lineOf b=y:=Ql hy;have gb:=g.ok b (Qy hb);have:=(ZbK hw gb).2;exact ⟨Zpw hw gb,by omega⟩
theorem Zpa {w y:Str} (hw:Nm w):(Txt.partition (w++equ++y) equ).1=w∧(Txt.partition (w++equ++y) equ).2.2=y:=by
 have hx:(w++equ++y).cps.toList=w.cps.toList++(equ.cps.toList++y.cps.toList):=by rw [W7,W7,NK]
 obtain ⟨u,hu⟩:=Zqh ZeP (by decide) (fun h=>by have:=hw.rng h;omega) hx 1 (Qe _);unfold Txt.partition;rw [hu];simp only
 have hl:(w++equ++y).length=w.length+3+y.length:=by
  rw [Rl,Rl];rfl
 have hw2:=JC w;refine ⟨str_eq ?_,str_eq ?_⟩
 ·rw [RX,hx,Nc,Nat.sub_zero,List.take_left]
 ·have e3:equ.length=3:=by trivial
  rw [RX,hx,hl,e3,←List.drop_drop,List.drop_left,ZeP];rw [show w.length+3+y.length-(w.cps.toList.length+3)=y.cps.toList.length by rw [JC,JC];omega];simp only [Gz,GE,List.drop_succ_cons,Nc,QU]
theorem good_ws (g:GoodR rows) (i:Nat):∀w∈(rows.take i).map (·.1),Nm w:=by
 intro w hw;obtain ⟨r,hr,rfl⟩:=Qg.mp hw;exact g.nm r (Rz hr)
theorem row_sg (g:GoodR rows) {i:Nat} {r:Rw} (h:rows[i]?=some r):10∉(rowTxt r).cps.toList∧(rowTxt r).length≤1075:=by
 obtain ⟨b1,b2,b3⟩:=g.br i r h;have nm:=g.nm r (Qy h);have bs:=Zg2 (good_ws g i) ⟨b1,b2,b3⟩;unfold rowTxt;refine ⟨fun hc=>?_,?_⟩
 ·rw [W7,W7,ZeP] at hc;rcases Qq.mp hc with h1|h1
  ·rcases Qq.mp h1 with h2|h2
   ·have:=nm.rng h2;omega
   ·simp at h2
  ·have:=bs.1 10 h1;omega
 ·rw [Rl,Rl];have e3:equ.length=3:=by trivial
  have:=nm.hi;have:=bs.2;omega
theorem txt_read (g:GoodR rows):RowsT (txt rows) rows∧(txt rows).length≤50000:=by
 have e:partsOf 10 (txt rows)=rows.map rowTxt:=by
  unfold txt line;refine ZhT (by decide) (fun x hx=>?_) (by simp [g.ne]);obtain ⟨r,hr,rfl⟩:=Qg.mp hx;obtain ⟨i,hi⟩:=G9.mp hr;exact (row_sg g hi).1
 refine ⟨⟨by rw [e,Qd],g.hi,fun i y r hy hr=>?_⟩,?_⟩
 ·rw [e,Qp,hr] at hy;obtain rfl:rowTxt r=y:=Ql hy;have rs:=row_sg g hr;have nm:=g.nm r (Qy hr);have rp:=Zpa (y:=bar.join (r.2.map lineOf)) nm;obtain ⟨b1,b2,b3⟩:=g.br i r hr;refine ⟨by omega,rp.1,nm,fun hm=>?_,?_,?_⟩
  ·obtain ⟨q,hq,eq⟩:=Qg.mp hm;obtain ⟨j,hj⟩:=G9.mp hq
   have jl:j<i:=by
    have:=(QC.mp hj).1;rw [QV] at this;omega
   rw [NV jl] at hj;have h1:(rows.map (·.1))[j]?=some r.1:=by rw [Qp,hj,←eq];rfl
   have h2:(rows.map (·.1))[i]?=some r.1:=by rw [Qp,hr];rfl
   have l1:=(QC.mp h1).1;have:=(List.getElem?_inj l1 g.nd).mp (h1.trans h2.symm);omega
  ·show (Txt.partition (rowTxt r) equ).2.2.length≤_;unfold rowTxt;rw [rp.2];have:=(Zg2 (good_ws g i) ⟨b1,b2,b3⟩).2;omega
  ·show PartsT _ (Txt.partition (rowTxt r) equ).2.2 r.2;unfold rowTxt;rw [rp.2];exact Zoh (good_ws g i) ⟨b1,b2,b3⟩
 ·have h1:=Zan (sep:=line) (n:=1075) (l:=rows.map rowTxt) fun x hx=>by
   obtain ⟨r,hr,rfl⟩:=Qg.mp hx;obtain ⟨i,hi⟩:=G9.mp hr;exact (row_sg g hi).2
  have h2:line.length=1:=rfl;rw [h2,Qd] at h1;have:=g.hi;unfold txt;omega
theorem pc_mark {p:Str} (h:JA ws p=true):p∉marks:=by
 intro hm;have h1:∀p∈marks,Wf p=false∧ZbA p=false∧Txt.startswith p ":"=false:=by trivial
 obtain ⟨a,b,c⟩:=h1 p hm;unfold JA at h;rw [a,b,c] at h;exact absurd h (by simp)
theorem ZaC {c:Nat}:∀{l:List Nat} {q:List Nat},q∈splitL c l->q.length≤l.length
 |[],q,h=>by
  have:q=[]:=by simpa [splitL] using h
  subst this;exact Qe _
 |a::r,q,h=>by
  by_cases e:a=c
  ·subst e;rw [splitL_cons_eq] at h;rcases Qh.mp h with z|z
   ·subst z;exact QL _
   ·have:=ZaC z;rw [QG];omega
  ·obtain ⟨p,ps,e1⟩:=splitL_ne c r;rw [splitL_cons_ne e e1] at h;rcases Qh.mp h with z|z
   ·subst z;have:=ZaC (c:=c) (l:=r) (q:=p) (by rw [e1];simp);simp only [QG];omega
   ·have:=ZaC (c:=c) (l:=r) (q:=q) (by rw [e1];exact Qx _ z);rw [QG];omega
theorem part_len {z p:Str} (h:p∈partsOf c z):p.length≤z.length:=by
 unfold partsOf at h;obtain ⟨q,hq,rfl⟩:=Qg.mp h;have:=ZaC hq;rw [JC] at this;show q.toArray.size≤_;rw [Qz];exact this
end TongM
set_option exponentiation.threshold 3000
seal L2.PSs L2.PS L2.PE L2.PT L2.PW L2.PA L2.PG L2.PI L2.PO
namespace K34
open PySem L2
variable {C D a b bi dx li su ti z:Addr} {B B':Bk} {st:Bool} {ed ed':Ed} {e:Ent} {p:Ent×Addr} {o o' u:HO} {base:Heap} {H H' H1:Hp} {d:Int} {ks:List (Ent×Addr)} {l:List (Int×Str)} {kn:List (List Zi)} {kvs:List (Zi×V)} {S:List Addr} {es:List Ent} {ps:List Pp} {ns pool xs zs:List Str} {rows:List TongM.Rw} {i:Nat} {P:Program} {A:Prop} {σ:St} {f m n n' s y:Str} {L:Str->List Str->Prop} {mg:Str->Option Value} {c:Str×Str} {F:Str×Str->List Str} {v:V} {Q:VK} {rs:WR} {w:World}
noncomputable def ZK (i:Nat):Stmt:=PySem.Challenge.pw_heirbook_k34_marks.main.body.getD i (.Pass ⟨0,0,0,0⟩)
noncomputable abbrev Zdq:Stmt:=ZK 12
noncomputable abbrev Zez:Stmt:=ZK 15
noncomputable abbrev ZdC:Stmt:=ZK 16
noncomputable abbrev ZcF:Stmt:=ZK 17
noncomputable abbrev ZbN:Stmt:=ZK 18
noncomputable abbrev ZcQ:Stmt:=ZK 19
noncomputable abbrev ZcC:Stmt:=ZK 21
noncomputable abbrev Zc7:Stmt:=ZK 22
noncomputable abbrev Zb8:Stmt:=ZK 23
noncomputable abbrev ZcT:Stmt:=ZK 24
noncomputable abbrev Zet:Stmt:=ZK 25
noncomputable abbrev Zef:Stmt:=ZK 26
noncomputable abbrev ZbT:Stmt:=ZK 27
noncomputable abbrev Zev:Stmt:=ZK 31
noncomputable abbrev ZeM:Stmt:=ZK 54
noncomputable abbrev Zda:Stmt:=Yn (ZK 55) 0
noncomputable abbrev ZeU:Stmt:=Yn (ZK 55) 8
noncomputable abbrev Zc0:Stmt:=Yn (ZK 55) 11
noncomputable abbrev Zd7:Stmt:=Yn (ZK 55) 12
noncomputable abbrev ZbO:Stmt:=Yn (ZK 55) 4
noncomputable abbrev Zd0:Stmt:=Yn (ZK 55) 3
noncomputable abbrev Zdm:Stmt:=Yn (ZK 55) 2
noncomputable abbrev ZeI:Stmt:=Yn (ZK 55) 7
noncomputable abbrev Zcr:Stmt:=Yn (ZK 55) 5
noncomputable abbrev ZcD:Stmt:=Yn (ZK 55) 16
noncomputable abbrev WL:Stmt:=Yn (ZK 55) 14
noncomputable abbrev Zb2:Stmt:=Yn (ZK 55) 6
noncomputable abbrev Zd5:Stmt:=Yn (ZK 55) 1
noncomputable abbrev ZcO:Stmt:=Yn (ZK 55) 10
noncomputable abbrev Zdn:Stmt:=ZK 32
noncomputable abbrev ZdA:Stmt:=ZK 34
noncomputable abbrev Zcu:Stmt:=Yn (ZK 37) 0
noncomputable abbrev Zc8:Stmt:=Yn (ZK 37) 1
noncomputable abbrev Zcq:Stmt:=Yn (ZK 38) 0
noncomputable abbrev Zd1:Stmt:=Yn (ZK 38) 1
noncomputable abbrev Zes:Stmt:=Yn (ZK 39) 0
noncomputable abbrev ZbS:Stmt:=Yn (ZK 39) 1
noncomputable abbrev ZcY:Stmt:=Yn (ZK 36) 0
noncomputable abbrev Zb0:Stmt:=ZK 49
noncomputable abbrev ZdN:Stmt:=ZK 45
noncomputable abbrev ZdO:Stmt:=ZK 46
noncomputable abbrev Zcg:Stmt:=ZK 47
noncomputable abbrev ZcP:Stmt:=ZK 48
noncomputable abbrev ZcN:Stmt:=Yn (ZK 50) 0
noncomputable abbrev Zcf:Stmt:=Yn (ZK 50) 8
noncomputable abbrev Zcw:Stmt:=Yn (ZK 50) 7
noncomputable abbrev Zen:Stmt:=Yn (ZK 50) 6
noncomputable abbrev Zea:Stmt:=Yn (ZK 50) 9
noncomputable abbrev Zc3:Stmt:=ZK 57
noncomputable abbrev ZcZ:Stmt:=ZK 58
noncomputable abbrev ZcB:Stmt:=ZK 59
noncomputable abbrev ZeD:Stmt:=ZK 60
noncomputable abbrev Zc1:Stmt:=ZK 61
noncomputable abbrev Zd6:Stmt:=ZK 62
noncomputable abbrev Zeh:Stmt:=ZK 63
noncomputable abbrev ZeS:Stmt:=ZK 64
noncomputable abbrev Zcx:Stmt:=ZK 65
noncomputable abbrev Zce:Stmt:=ZK 66
noncomputable abbrev ZcJ:Stmt:=ZK 67
noncomputable abbrev ZcA:Stmt:=ZK 68
set_option genInjectivity false
set_option genSizeOf false
structure Tx (K:W.Frag) (w:World) (mg:Str->Option Value) where
 c_Book:Addr
 c_Tongue:Addr
 c_Piece:Addr
 c_Letter:Addr
 c_Test:Addr
 c_Said:Addr
 ZaE:Df K mg "is_whole" Zdq ["thing"]
 Y9:Df K mg "is_name" Zez ["thing"]
 Xz:Df K mg "is_day" ZdC ["thing"]
 WB:Df K mg "is_amount" ZcF ["thing"]
 WA:Df K mg "is_sort" ZbN ["thing"]
 Wk:Df K mg "is_parent" ZcQ ["thing"]
 ZbJ:Df K mg "has_form" ZcC ["parts","checks"]
 Zao:Df K mg "is_entry" Zc7 ["thing"]
 ZaV:Df K mg "is_tie" Zb8 ["entry"]
 ZaZ:Df K mg "named_in" ZcT ["entry"]
 Zay:Df K mg "day_of" Zet ["entry"]
 Zbn:Df K mg "as_told" Zef ["entry"]
 ZaB:Df K mg "key_of" ZbT ["entry"]
 Zbf:Df K mg "is_letter" Zev ["thing"]
 Zaz:Df K mg "pair_of" ZeM ["one","other"]
 Ux:Dm K c_Book "__init__" "Book.__init__" Zda ["self"]
 Xj:Dm K c_Book "birth_of" "Book.birth_of" ZeU ["self","name"]
 Vc:Dm K c_Book "sort_of" "Book.sort_of" Zc0 ["self","name"]
 Y3:Dm K c_Book "born_on" "Book.born_on" Zd7 ["self","name"]
 Vy:Dm K c_Book "parent_fits" "Book.parent_fits" ZbO ["self","name","sort","day"]
 Up:Dm K c_Book "fits" "Book.fits" Zd0 ["self","entry"]
 Uw:Dm K c_Book "refuse" "Book.refuse" Zdm ["self","entry"]
 Xb:Dm K c_Book "link" "Book.link" ZeI ["self","letter","begin","end"]
 UM:Dm K c_Book "note_birth" "Book.note_birth" Zcr ["self","entry"]
 Ve:Dm K c_Book "step" "Book.step" ZcD ["self","letter","name"]
 a_Book_stands:Addr
 fd_Book_stands:FuncData
 dt_Book_stands:Addr
 F_Book_stands:FunD K "stands" "Book.stands" WL a_Book_stands fd_Book_stands (.ref dt_Book_stands)
 b_Book_stands:Binds K fd_Book_stands ["self","one","other","day"] [.none]
 Uy:Dm K c_Book "note_tie" "Book.note_tie" Zb2 ["self","entry"]
 UY:Dm K c_Book "put" "Book.put" Zd5 ["self","entry"]
 UF:Dm K c_Book "people" "Book.people" ZcO ["self"]
 Zaj:Df K mg "is_test" Zdn ["thing"]
 Zbb:Df K mg "led_by_step" ZdA ["book","step","name"]
 UK:Dm K c_Letter "__init__" "Letter.__init__" Zcu ["self","letter"]
 U4:Dm K c_Letter "leads_one" "Letter.leads_one" Zc8 ["self","book","table","name"]
 UH:Dm K c_Test "__init__" "Test.__init__" Zcq ["self","sort"]
 U9:Dm K c_Test "leads_one" "Test.leads_one" Zd1 ["self","book","table","name"]
 UN:Dm K c_Said "__init__" "Said.__init__" Zes ["self","word"]
 UW:Dm K c_Said "leads_one" "Said.leads_one" ZbS ["self","book","table","name"]
 Xl:Dm K c_Piece "leads" "Piece.leads" ZcY ["self","book","table","names"]
 Zby:Df K mg "keeps_mark" Zb0 ["book","mark","one","other"]
 ZbE:Df K mg "read_piece" ZdN ["text","rows"]
 ZaQ:Df K mg "read_part" ZdO ["text","rows"]
 ZbM:Df K mg "read_parts" Zcg ["text","rows"]
 Zbk:Df K mg "read_rows" ZcP ["text"]
 UE:Dm K c_Tongue "__init__" "Tongue.__init__" ZcN ["self","text"]
 Uz:Dm K c_Tongue "led_by_piece" "Tongue.led_by_piece" Zcf ["self","book","table","piece","names"]
 UD:Dm K c_Tongue "led_by_part" "Tongue.led_by_part" Zcw ["self","book","table","part","name"]
 Vs:Dm K c_Tongue "led" "Tongue.led" Zen ["self","book","table","word","name"]
 Uh:Dm K c_Tongue "table" "Tongue.table" Zea ["self","book"]
 Za3:Df K mg "_law_cell_at" Zc3 ["_law_script","_law_k"]
 Zam:Df K mg "_law_names" ZcZ ["_law_cell"]
 ZbH:Df K mg "_law_day" ZcB ["_law_cell","_law_k","_law_way"]
 ZbL:Df K mg "_law_birth" ZeD ["_law_people","_law_names_here","_law_cell","_law_day_here"]
 Za0:Df K mg "_law_deed" Zc1 ["_law_people","_law_known","_law_cell","_law_kind"]
 Zbg:Df K mg "_law_entries" Zd6 ["_law_script","_law_start","_law_most"]
 ZaG:Df K mg "_law_lead" Zeh ["_law_edges_here","_law_letter","_law_low","_law_high"]
 Zbh:Df K mg "_law_edges" ZeS ["_law_entries_here"]
 Zbs:Df K mg "_law_alike" Zcx ["_law_found","_law_due"]
 Zaw:Df K mg "_law_reach" Zce ["_law_edges_here","_law_pieces","_law_name"]
 ZaS:Df K mg "_law_marked" ZcJ ["_law_born","_law_mark","_law_name","_law_names_here"]
 VM:Df K mg "law" ZcA ["_law_script"]
 c_HeirError:Addr
 m_HeirError:mg "HeirError"=some (.ref c_HeirError)
 c_NoEntry:Addr
 m_NoEntry:mg "NoEntry"=some (.ref c_NoEntry)
 c_Full:Addr
 m_Full:mg "Full"=some (.ref c_Full)
 c_NoPerson:Addr
 m_NoPerson:mg "NoPerson"=some (.ref c_NoPerson)
 c_Twice:Addr
 m_Twice:mg "Twice"=some (.ref c_Twice)
 c_NoFit:Addr
 m_NoFit:mg "NoFit"=some (.ref c_NoFit)
 c_NoWay:Addr
 m_NoWay:mg "NoWay"=some (.ref c_NoWay)
 c_NoTongue:Addr
 m_NoTongue:mg "NoTongue"=some (.ref c_NoTongue)
 x_NoEntry:W.excIn K c_NoEntry Xv "ValueError.__new__"=true
 e_NoEntry:ExcK K c_NoEntry
 x_Full:W.excIn K c_Full Xv "ValueError.__new__"=true
 e_Full:ExcK K c_Full
 x_NoPerson:W.excIn K c_NoPerson Xv "ValueError.__new__"=true
 e_NoPerson:ExcK K c_NoPerson
 x_Twice:W.excIn K c_Twice Xv "ValueError.__new__"=true
 e_Twice:ExcK K c_Twice
 x_NoFit:W.excIn K c_NoFit Xv "ValueError.__new__"=true
 e_NoFit:ExcK K c_NoFit
 x_NoWay:W.excIn K c_NoWay Xv "ValueError.__new__"=true
 e_NoWay:ExcK K c_NoWay
 x_NoTongue:W.excIn K c_NoTongue Xv "ValueError.__new__"=true
 e_NoTongue:ExcK K c_NoTongue
 m_Book:mg "Book"=some (.ref c_Book)
 cl_Book:Cls K c_Book
 mk_Book:Mk K c_Book Ux.a
 na_Book_kept:NoAttr K c_Book "kept"
 na_Book_births:NoAttr K c_Book "births"
 na_Book_links:NoAttr K c_Book "links"
 na_Book_ties:NoAttr K c_Book "ties"
 na_Book_sums:NoAttr K c_Book "sums"
 me_Book_stands:Meth K c_Book "stands" a_Book_stands
 m_Tongue:mg "Tongue"=some (.ref c_Tongue)
 cl_Tongue:Cls K c_Tongue
 mk_Tongue:Mk K c_Tongue UE.a
 na_Tongue_rows:NoAttr K c_Tongue "rows"
 na_Tongue_source:NoAttr K c_Tongue "source"
 m_Piece:mg "Piece"=some (.ref c_Piece)
 m_Letter:mg "Letter"=some (.ref c_Letter)
 cl_Letter:Cls K c_Letter
 mk_Letter:Mk K c_Letter UK.a
 na_Letter_letter:NoAttr K c_Letter "letter"
 m_Test:mg "Test"=some (.ref c_Test)
 cl_Test:Cls K c_Test
 mk_Test:Mk K c_Test UH.a
 na_Test_wanted:NoAttr K c_Test "wanted"
 m_Said:mg "Said"=some (.ref c_Said)
 cl_Said:Cls K c_Said
 mk_Said:Mk K c_Said UN.a
 na_Said_word:NoAttr K c_Said "word"
 n_abs:mg "abs"=none
 n_all:mg "all"=none
 n_bool:mg "bool"=none
 n_dict:mg "dict"=none
 n_int:mg "int"=none
 n_isinstance:mg "isinstance"=none
 n_len:mg "len"=none
 n_list:mg "list"=none
 n_max:mg "max"=none
 n_min:mg "min"=none
 n_range:mg "range"=none
 n_sorted:mg "sorted"=none
 n_str:mg "str"=none
 n_tuple:mg "tuple"=none
 n_zip:mg "zip"=none
 k_int_int:W.kitOne K (.type "int") (.type "int")=some true
 k_int_str:W.kitOne K (.type "int") (.type "str")=some false
 k_int_tuple:W.kitOne K (.type "int") (.type "tuple")=some false
 k_int_bool:W.kitOne K (.type "int") (.type "bool")=some false
 k_str_int:W.kitOne K (.type "str") (.type "int")=some false
 k_str_str:W.kitOne K (.type "str") (.type "str")=some true
 k_str_tuple:W.kitOne K (.type "str") (.type "tuple")=some false
 k_bool_int:W.kitOne K (.type "bool") (.type "int")=some true
 k_bool_str:W.kitOne K (.type "bool") (.type "str")=some false
 k_bool_tuple:W.kitOne K (.type "bool") (.type "tuple")=some false
 k_bool_bool:W.kitOne K (.type "bool") (.type "bool")=some true
 k_NoneType_int:W.kitOne K (.type "NoneType") (.type "int")=some false
 k_NoneType_str:W.kitOne K (.type "NoneType") (.type "str")=some false
 k_NoneType_tuple:W.kitOne K (.type "NoneType") (.type "tuple")=some false
 k_tuple_int:W.kitOne K (.type "tuple") (.type "int")=some false
 k_tuple_str:W.kitOne K (.type "tuple") (.type "str")=some false
 k_tuple_tuple:W.kitOne K (.type "tuple") (.type "tuple")=some true
 k_list_int:W.kitOne K (.type "list") (.type "int")=some false
 k_list_str:W.kitOne K (.type "list") (.type "str")=some false
 k_list_tuple:W.kitOne K (.type "list") (.type "tuple")=some false
 k_dict_int:W.kitOne K (.type "dict") (.type "int")=some false
 k_dict_str:W.kitOne K (.type "dict") (.type "str")=some false
 k_dict_tuple:W.kitOne K (.type "dict") (.type "tuple")=some false
 kl_list:W.kitOne K (.type "list") (.type "list")=some true
 kl_dict:W.kitOne K (.type "dict") (.type "dict")=some true
 kx_HeirError:W.kitOne K (.ref c_NoPerson) (.ref c_HeirError)=some true
 kx_ValueError:W.kitOne K (.ref c_NoPerson) (.type "ValueError")=some true
 lm_Letter:W.findIn K (.ref c_Letter) "leads"=some (some (.ref Xl.a))
 ci_Letter:W.findIn K (.ref c_Letter) "__class__"=some (some (.builtin "object.__class__"))
 mo_Letter:W.mroIn K c_Letter (.type "object")=some true
 kp_Letter:W.kitOne K (.ref c_Letter) (.ref c_Said)=some false
 lm_Test:W.findIn K (.ref c_Test) "leads"=some (some (.ref Xl.a))
 ci_Test:W.findIn K (.ref c_Test) "__class__"=some (some (.builtin "object.__class__"))
 mo_Test:W.mroIn K c_Test (.type "object")=some true
 kp_Test:W.kitOne K (.ref c_Test) (.ref c_Said)=some false
 lm_Said:W.findIn K (.ref c_Said) "leads"=some (some (.ref Xl.a))
 ci_Said:W.findIn K (.ref c_Said) "__class__"=some (some (.builtin "object.__class__"))
 mo_Said:W.mroIn K c_Said (.type "object")=some true
 kp_Said:W.kitOne K (.ref c_Said) (.ref c_Said)=some true
 cg:W.specialIn K (.builtin "object.__class__") "__get__"=some (some (.builtin "getset_descriptor.__get__"))
 ct:W.takesIn K (.builtin "object.__class__")=some true
 aF:Addr
 m_FORMS:mg "FORMS"=some (.ref aF)
 tkL:Tok
 m_LETTERS:mg "LETTERS"=some (.str "abcdefghijklmnopqrstuvwxyz" tkL)
 p0:Addr
 p1:Addr
 p2:Addr
 p3:Addr
 p4:Addr
 p5:Addr
 g0:Addr
 g1:Addr
 g2:Addr
 g3:Addr
 g4:Addr
 g5:Addr
 sF:∀H,SqT K H aF [.ref p0,.ref p1,.ref p2,.ref p3,.ref p4,.ref p5]
 sp0:∀H,SqT K H p0 [.str "born",.ref g0]
 sp1:∀H,SqT K H p1 [.str "taken",.ref g1]
 sp2:∀H,SqT K H p2 [.str "union",.ref g2]
 sp3:∀H,SqT K H p3 [.str "parted",.ref g3]
 sp4:∀H,SqT K H p4 [.str "dead",.ref g4]
 sp5:∀H,SqT K H p5 [.str "given",.ref g5]
 sg0:∀H,SqT K H g0 [.ref Y9.a,.ref WA.a,.ref Xz.a,.ref Wk.a,.ref Wk.a]
 sg1:∀H,SqT K H g1 [.ref Y9.a,.ref Y9.a,.ref Xz.a]
 sg2:∀H,SqT K H g2 [.ref Y9.a,.ref Y9.a,.ref Xz.a]
 sg3:∀H,SqT K H g3 [.ref Y9.a,.ref Y9.a,.ref Xz.a]
 sg4:∀H,SqT K H g4 [.ref Y9.a,.ref Xz.a]
 sg5:∀H,SqT K H g5 [.ref Y9.a,.ref Y9.a,.ref WB.a,.ref Xz.a]
 a_STEP_LETTERS:Addr
 m_STEP_LETTERS:mg "STEP_LETTERS"=some (.ref a_STEP_LETTERS)
 Zgx:∀H,SqT K H a_STEP_LETTERS [.str "F",.str "M",.str "T",.str "f",.str "m",.str "t",.str "S"]
 a_TESTS:Addr
 m_TESTS:mg "TESTS"=some (.ref a_TESTS)
 Zf9:∀H,SqT K H a_TESTS [.str "he",.str "she"]
 a_MARKS:Addr
 m_MARKS:mg "MARKS"=some (.ref a_MARKS)
 Zdb:∀H,SqT K H a_MARKS [.str "other",.str "elder",.str "younger"]
 t_MOST_ENTRIES:Tok
 m_MOST_ENTRIES:mg "MOST_ENTRIES"=some (.int 400 t_MOST_ENTRIES)
 t_MOST_PEOPLE:Tok
 m_MOST_PEOPLE:mg "MOST_PEOPLE"=some (.int 60 t_MOST_PEOPLE)
 t_MOST_ROWS:Tok
 m_MOST_ROWS:mg "MOST_ROWS"=some (.int 40 t_MOST_ROWS)
 t_MOST_PARTS:Tok
 m_MOST_PARTS:mg "MOST_PARTS"=some (.int 8 t_MOST_PARTS)
 t_MOST_PIECES:Tok
 m_MOST_PIECES:mg "MOST_PIECES"=some (.int 12 t_MOST_PIECES)
def Jt (K:W.Frag):Sp:=fun vs H Q _=>∃(a:Addr) (ns:List Int),vs=[.ref a]∧SqL K H a (ns.map V.int)∧ns.length≤63∧∀H',Q (.bl true) H'
inductive Vk where
 |int (i:Int)|str (x:Str)|bl|non|tup|lst|dct
noncomputable def Vk.ty:Vk->Value
 |.int _=>.type "int"
 |.str _=>.type "str"
 |.bl=>.type "bool"
 |.non=>.type "NoneType"
 |.tup=>.type "tuple"
 |.lst=>.type "list"
 |.dct=>.type "dict"
noncomputable def Vk.isI:Vk->Bool
 |.int _=>true
 |_=>false
noncomputable def Vk.isB:Vk->Bool
 |.bl=>true
 |_=>false
noncomputable def Vk.isS:Vk->Bool
 |.str _=>true
 |_=>false
noncomputable def Vk.isT:Vk->Bool
 |.tup=>true
 |_=>false
def Vw (K:W.Frag) (H:Hp) (v:V):Vk->Prop
 |.int i=>v=.int i
 |.str x=>v=.str x∧x.length≤100
 |k=>Kd K H v k.ty
section
variable {K:W.Frag} {t:Vk}
theorem Vw.kd (h:Vw K H v t):Kd K H v t.ty:=by
 cases t with
 |int i=>cases (show v=.int i from h);exact .of (.int i)
 |str x=>cases (show v=.str x from h.1);exact .of (.str x)
 |_=>exact h
theorem Vw.mono (h:Vw K H v t) (e:Same H H'):Vw K H' v t:=by
 cases t with
 |int i=>exact h
 |str x=>exact h
 |_=>exact e.kd h
end
def Vws (K:W.Frag) (H:Hp):List V->List Vk->Prop
 |[],[]=>True
 |x::xs,t::ts=>Vw K H x t∧Vws K H xs ts
 |_,_=>False
section
variable {K:W.Frag}
theorem Vws.length:∀{xs:List V} {ts:List Vk},Vws K H xs ts->xs.length=ts.length
 |[],[],_=>rfl
 |x::xs,t::ts,h=>by rw [QG,QG,Vws.length h.2]
theorem Vws.mono (e:Same H H'):∀{xs:List V} {ts:List Vk},Vws K H xs ts->Vws K H' xs ts
 |[],[],_=>True.intro
 |x::xs,t::ts,h=>⟨h.1.mono e,Vws.mono e h.2⟩
theorem Vws.get:∀{xs:List V} {ts:List Vk} {i:Nat} {t:Vk},Vws K H xs ts->ts[i]?=some t->∃x,xs[i]?=some x∧Vw K H x t
 |[],[],_,_,_,e=>by simp at e
 |x::xs,t::ts,0,t',h,e=>by
  cases (show some t=some t' by simpa using e);exact ⟨x,rfl,h.1⟩
 |x::xs,t::ts,i+1,t',h,e=>by
  obtain ⟨y,e1,e2⟩:=Vws.get (i:=i) h.2 (by simpa using e);exact ⟨y,by simpa using e1,e2⟩
end
def Tv (K:W.Frag) (H:Hp) (v:V) (ts:List Vk):Prop:=∃a xs,v=.ref a∧SqT K H a xs∧Vws K H xs ts
noncomputable abbrev Vt:Str:="abcdefghijklmnopqrstuvwxyz"
noncomputable def Wo (c:Nat):Bool:=!(Builtin.Str.occurrences Vt ⟨#[c]⟩ 0 Vt.length 1).isEmpty
noncomputable def WW:Vk->Bool
 |.str x=>decide (1≤x.length)&&decide (x.length≤8)&&x.cps.toList.all Wo
 |_=>false
noncomputable def ZbW:Vk->Bool
 |.int i=>decide ((if i<0 then -i else i)≤10 ^ 18)
 |_=>false
noncomputable def ZeT:Vk->Bool
 |.int i=>decide (1≤i)&&decide (i≤10 ^ 18)
 |_=>false
noncomputable def VU:Vk->Bool
 |.str x=>decide (x="he")||decide (x="she")||decide (x="")
 |_=>false
noncomputable def JJ (t:Vk):Bool:=WW t||match t with
 |.str x=>decide (x="")
 |_=>false
inductive Chk where
 |name|sort|day|amount|parent
noncomputable def V8:Chk->Vk->Bool
 |.name=>WW
 |.sort=>VU
 |.day=>ZbW
 |.amount=>ZeT
 |.parent=>JJ
noncomputable def WK:List (Str×List Chk):=[("born",[.name,.sort,.day,.parent,.parent]),("taken",[.name,.name,.day]),("union",[.name,.name,.day]),("parted",[.name,.name,.day]),("dead",[.name,.day]),("given",[.name,.name,.amount,.day])]
noncomputable def WQ (w:Str):Option (List Chk):=(WK.find? fun p=>decide (w=p.1)).map (·.2)
noncomputable def ZU:List Chk->List Vk->List Bool
 |c::cs,t::ts=>V8 c t::ZU cs ts
 |_,_=>[]
noncomputable def XZ (cs:List Chk) (ts:List Vk):Bool:=decide (ts.length=cs.length)&&(ZU cs ts).all id
noncomputable def Vi:List Vk->Bool
 |.str w::ts=>((WQ w).map fun cs=>XZ cs ts).getD false
 |_=>false
theorem JP (w:Str) (ts:List Vk):Vi (.str w::ts)=((WQ w).map fun cs=>XZ cs ts).getD false:=rfl
structure Nm (x:Str):Prop where
 lo:1≤x.length
 hi:x.length≤8
 all:x.cps.toList.all Wo=true
theorem Nm.ok {x:Str} (h:Nm x):WW (.str x)=true:=by
 show (decide (1≤x.length)&&decide (x.length≤8)&&x.cps.toList.all Wo)=true;rw [Qr h.lo,Qr h.hi,h.all];rfl
section
variable {K:W.Frag}
noncomputable def Tx.ad (T:Tx K w mg):Chk->Addr
 |.name=>T.Y9.a
 |.sort=>T.WA.a
 |.day=>T.Xz.a
 |.amount=>T.WB.a
 |.parent=>T.Wk.a
theorem kI (T:Tx K w mg):∀t:Vk,W.kitOne K t.ty (.type "int")=some (t.isI||t.isB)
 |.int _=>T.k_int_int
 |.str _=>T.k_str_int
 |.bl=>T.k_bool_int
 |.non=>T.k_NoneType_int
 |.tup=>T.k_tuple_int
 |.lst=>T.k_list_int
 |.dct=>T.k_dict_int
theorem kS (T:Tx K w mg):∀t:Vk,W.kitOne K t.ty (.type "str")=some t.isS
 |.int _=>T.k_int_str
 |.str _=>T.k_str_str
 |.bl=>T.k_bool_str
 |.non=>T.k_NoneType_str
 |.tup=>T.k_tuple_str
 |.lst=>T.k_list_str
 |.dct=>T.k_dict_str
theorem kT (T:Tx K w mg):∀t:Vk,W.kitOne K t.ty (.type "tuple")=some t.isT
 |.int _=>T.k_int_tuple
 |.str _=>T.k_str_tuple
 |.bl=>T.k_bool_tuple
 |.non=>T.k_NoneType_tuple
 |.tup=>T.k_tuple_tuple
 |.lst=>T.k_list_tuple
 |.dct=>T.k_dict_tuple
end
theorem Zgp {X:Cx} {N:List Str} {sc:Scope} {L:List (Str×NameKind)} {ns:St} (hk:sc.kind=.function) (hn:∀x∈sc.names,x.2=.local->sc.names.lookup x.1=some .local) (hc:∀y∈sc.names,y.2≠.cell)
 (clos:closureFor sc X.env=pure []) (e:(relabel sc X.env).names=L) (hL:∀y∈L,y.2≠.cell∧y.2≠.free) (hl:ns.length=N.length) (hs:∀o∈ns,o=none):CompSc X N sc [] (fun _=>ns):=by
 have no:∀(x:Str),¬((relabel sc X.env).names.lookup x=some .cell∨(relabel sc X.env).names.lookup x=some .free):=fun x h=>by
  rw [e] at h
  have lk:∀(M:List (Str×NameKind)) (k:NameKind),M.lookup x=some k->∃y∈M,y.2=k:=fun M k=>by
   induction M with
   |nil=>intro h;cases h
   |cons p r ih =>
    intro h;rw [List.lookup_cons] at h;split at h
    ·exact ⟨p,QB ..,Ql h⟩
    ·obtain ⟨y,hy,q⟩:=ih h;exact ⟨y,Qx _ hy,q⟩
  rcases h with h|h
  ·obtain ⟨y,hy,q⟩:=lk _ _ h;exact (hL y hy).1 q
  ·obtain ⟨y,hy,q⟩:=lk _ _ h;exact (hL y hy).2 q
 refine ⟨hk,hn,hc,clos,(fun x c (h:([]:List (Str×Addr)).lookup x=some c)=>by cases h),fun x h=>absurd h (no x),fun _=>hl,fun σ i x v e1 e2=>?_⟩;have:=hs _ (Qy e2);cases this
theorem Jv:(["sign"]:List Str).Nodup:=by trivial
theorem VI:(["check","part"]:List Str).Nodup:=by trivial
theorem ZjJ (z:Str):Wi (.str z) [.str "he",.str "she",.str ""]=VU (.str z):=by
 unfold Wi VU;rw [Rn];simp only [Rj,List.any_nil,Yu,Bool.or_false,RH,Rs,GK];constructor
 ·rintro (h|h|h)
  ·exact .inl (.inl h.symm)
  ·exact .inl (.inr h.symm)
  ·exact .inr h.symm
 ·rintro ((h|h)|h)
  ·exact .inl h.symm
  ·exact .inr (.inl h.symm)
  ·exact .inr (.inr h.symm)
theorem Zcs (x:Str):WW (.str x)=(decide (1≤x.length)&&decide (x.length≤8)&&x.cps.toList.all Wo):=rfl
theorem ZiV (i:Int):ZeT (.int i)=(decide (1≤i)&&decide (i≤10 ^ 18)):=rfl
theorem ZhO:∀{cs:List Chk} {ts:List Vk},ts.length=cs.length->(ZU cs ts).length=cs.length
 |[],[],_=>rfl
 |c::cs,t::ts,h=>by
  show (ZU cs ts).length+1=cs.length+1;rw [ZhO (by simpa using h)]
theorem Zjm:∀{cs:List Chk} {ts:List Vk} {i:Nat} {y:V},ts.length=cs.length->((ZU cs ts).map V.bl)[i]?=some y->∃c t,cs[i]?=some c∧ts[i]?=some t∧y=.bl (V8 c t):=by
 intro cs
 induction cs with
 |nil =>
  intro ts i y h e;cases ts with
  |nil=>simp [ZU] at e
  |cons t ts=>simp at h
 |cons c cs ih =>
  intro ts i y h e;cases ts with
  |nil=>simp at h
  |cons t ts =>
   cases i with
   |zero=>exact ⟨c,t,rfl,rfl,by simpa [ZU] using e.symm⟩
   |succ i =>
    obtain ⟨c',t',e1,e2,e3⟩:=ih (ts:=ts) (i:=i) (y:=y) (by simpa using h) (by simpa [ZU] using e);exact ⟨c',t',by simpa using e1,by simpa using e2,e3⟩
theorem ZfG {α:Type} {f:α->Bool}:∀{l:List α} {i:Nat} {p:α},l[i]?=some p->(∀j,j<i->∀p',l[j]?=some p'->f p'=false)->f p=true->l.find? f=some p
 |x::l,0,p,e,_,h=>by
  have e':x=p:=by simpa using e
  subst e';rw [Ru,h]
 |x::l,i+1,p,e,b,h=>by
  rw [Ru,b 0 (by omega) x rfl];exact ZfG (l:=l) (i:=i) (by simpa using e) (fun j hj p' e'=>b (j+1) (by omega) p' (by simpa using e')) h
theorem Zp4 {w:Str} {p:Str×List Chk} (e:WK[i]?=some p) (b:∀j,j<i->∀p',WK[j]?=some p'->w≠p'.1) (h:w=p.1):WQ w=some p.2:=by
 unfold WQ;rw [ZfG e (fun j hj p' e'=>Qk (b j hj p' e')) (Qr h)];rfl
theorem ZpY {w:Str} (b:∀j,j<6->∀p',WK[j]?=some p'->w≠p'.1):WQ w=none:=by
 unfold WQ;rw [No.mpr]
 ·rfl
 ·intro p hp;obtain ⟨j,hj,e⟩:=Gi hp;have:=b j hj p (by rw [←e];exact Qw hj);simpa using this
theorem ZpR:∀p∈WK,p.2.length≤10:=by trivial
theorem Zqm {K:W.Frag} (T:Tx K w mg) {p:Str×List Chk} (e:WK[i]?=some p) :
  ∃P G,[V.ref T.p0,.ref T.p1,.ref T.p2,.ref T.p3,.ref T.p4,.ref T.p5][i]?=some (.ref P)∧(∀H,SqT K H P [.str p.1,.ref G])∧∀H,SqT K H G (p.2.map fun c=>.ref (T.ad c)):=by
 match i,e with
 |0,e=>cases e;exact ⟨_,_,rfl,T.sp0,T.sg0⟩
 |1,e=>cases e;exact ⟨_,_,rfl,T.sp1,T.sg1⟩
 |2,e=>cases e;exact ⟨_,_,rfl,T.sp2,T.sg2⟩
 |3,e=>cases e;exact ⟨_,_,rfl,T.sp3,T.sg3⟩
 |4,e=>cases e;exact ⟨_,_,rfl,T.sp4,T.sg4⟩
 |5,e=>cases e;exact ⟨_,_,rfl,T.sp5,T.sg5⟩
 |n+6,e=>cases e
theorem Zpl (x:V) (xs:List V):YU (x::xs) (some 1) none=xs:=by
 unfold YU
 have e:HT.sIx (x::xs).length 0 (some 1)=1:=by
  show HT.sIx (x::xs).length 0 (some ((1:Nat):Int))=1;rw [HT.sIx_nat,QG];omega
 rw [e];show (xs.take ((x::xs).length-1))=xs;simp
theorem few {n:Nat} (h:Nat.ble n 1000=true):n≤sizeLine:=Q1 (Zy (QE h))
theorem Z4 {b:Bool} {B:Prop} (e:b=true) (h:A):if b=true then A else B:=by rw [Qb e];exact h
theorem Zt {b:Bool} {B:Prop} (e:b=false) (h:B):if b=true then A else B:=by rw [Qa (by rw [e];decide)];exact h
theorem Yo {b:Bool} {B:Prop} (h1:b=true->A) (h2:b=false->B):if b=true then A else B:=by
 cases b with
 |true=>exact Z0 (h1 rfl)
 |false=>exact ZS (h2 rfl)
section
variable {K:W.Frag} {xs ys:List V} {ts:List Vk}
theorem JF {lo hi:Option Int} (ha:SqT K H a xs) (hn:¬(HT.sIx xs.length 0 lo=0∧HT.sIx xs.length xs.length hi=xs.length)) (h:∀H' p,Same H H'->SqT K H' p (YU xs lo hi)->Q (.ref p) H'):ZhZ K (.ref a) lo hi H Q :=
 ⟨a,xs,rfl,ha,hn,fun p np=>h _ p (Zk np) (.of Ze)⟩
end
theorem XE {x:Str}:decide (V.str x=V.str y)=decide (x=y):=by
 rw [Rn];simp
inductive Ent where
 |born (n s:Str) (d:Int) (f m:Str)
 |taken (c t:Str) (d:Int)
 |union (a b:Str) (d:Int)
 |parted (a b:Str) (d:Int)
 |dead (n:Str) (d:Int)
 |given (g t:Str) (a d:Int)
noncomputable def Ent.row:Ent->List Zi
 |.born n s d f m=>[.inr "born",.inr n,.inr s,.inl d,.inr f,.inr m]
 |.taken c t d=>[.inr "taken",.inr c,.inr t,.inl d]
 |.union a b d=>[.inr "union",.inr a,.inr b,.inl d]
 |.parted a b d=>[.inr "parted",.inr a,.inr b,.inl d]
 |.dead n d=>[.inr "dead",.inr n,.inl d]
 |.given g t a d=>[.inr "given",.inr g,.inr t,.inl a,.inl d]
noncomputable def Ent.tie:Ent->Bool
 |.union ..=>true
 |.parted ..=>true
 |_=>false
noncomputable def Ent.named:Ent->List Str
 |.born _ _ _ f m=>[f,m].filter fun x:Str=>decide (x≠"")
 |.taken c t _=>[c,t]
 |.union a b _=>[a,b]
 |.parted a b _=>[a,b]
 |.dead n _=>[n]
 |.given g t _ _=>[g,t]
noncomputable def Ent.day:Ent->Int
 |.born _ _ d _ _=>d
 |.taken _ _ d=>d
 |.union _ _ d=>d
 |.parted _ _ d=>d
 |.dead _ d=>d
 |.given _ _ _ d=>d
def EntAt (K:W.Frag) (H:Hp) (v:V) (e:Ent):Prop:=∃a,v=.ref a∧SqT K H a (e.row.map kV)
theorem EntAt.mono {K:W.Frag} (h:EntAt K H v e) (s:Same H H'):EntAt K H' v e:=by
 obtain ⟨a,rfl,q⟩:=h;exact ⟨a,rfl,s.sqt q⟩
theorem Zh {r:List V} {j:Nat} {x:V} (h:r[j]?=some x):Ym r (j:Int)=some x:=Xq h
noncomputable def Uc (x:Str):Option V:=if x="" then none else some (.str x)
theorem ZgE:∀l:List Str,(l.map Uc).filterMap id=(l.filter fun x:Str=>decide (x≠"")).map V.str
 |[]=>rfl
 |x::r=>by
  have ih:=ZgE r;by_cases h:x=""
  ·subst h;simp only [Qs,Q4,R0];simpa [Uc] using ih
  ·simp only [Qs,Q4,R0];simpa [Uc,h] using ih
theorem ZP (s:Same H H1) (n:H1 D=none):H D=none:=by
 cases e:H D with
 |none=>rfl
 |some o=>rw [s D o e] at n;cases n
noncomputable def Ent.key:Ent->List Zi
 |.born n _ _ _ _=>[.inr "born",.inr n]
 |.taken c t _=>[.inr "taken",.inr c,.inr t]
 |.union a b d=>[.inr "tie",.inr a,.inr b,.inl d]
 |.parted a b d=>[.inr "tie",.inr a,.inr b,.inl d]
 |.dead n _=>[.inr "dead",.inr n]
 |.given g t _ d=>[.inr "given",.inr g,.inr t,.inl d]
noncomputable def Ent.bornName:Ent->Option Str
 |.born n _ _ _ _=>some n
 |_=>none
structure Bk where
 kept:List (Ent×Addr)
 links:List ((Str×Str)×Addr×List Str)
 ties:List ((Str×Str)×Addr×List (Int×Str))
 sums:List ((Str×Str)×Int)
noncomputable def Zr (p:Str×Str):List Zi:=[.inr p.1,.inr p.2]
noncomputable def Bk.keptD (B:Bk):List (List Zi×V):=B.kept.map fun p=>(p.1.key,.ref p.2)
noncomputable def Bk.bornD (l:List (Ent×Addr)):List (Zi×V):=l.filterMap fun p=>p.1.bornName.map fun n=>(.inr n,.ref p.2)
noncomputable def Bk.linksD (B:Bk):List (List Zi×V):=B.links.map fun q=>(Zr q.1,.ref q.2.1)
noncomputable def Bk.tiesD (B:Bk):List (List Zi×V):=B.ties.map fun q=>(Zr q.1,.ref q.2.1)
noncomputable def Bk.sumsD (B:Bk):List (List Zi×V):=B.sums.map fun q=>(Zr q.1,.int q.2)
noncomputable def WP (k bi li ti su:Addr):List (Str×V):=[("kept",.ref k),("births",.ref bi),("links",.ref li),("ties",.ref ti),("sums",.ref su)]
structure BkAt (K:W.Frag) (C:Addr) (H:Hp) (b dx k bi li ti su:Addr) (B:Bk):Prop where
 ob:H b=some (.ins C dx (WP k bi li ti su))
 ap:[k,li,ti,su].Nodup
 at':(bi::B.ties.map (·.2.1)).Nodup
 ke:H k=some (.dT B.keptD)
 bi:H bi=some (.dK (Bk.bornD B.kept))
 li:H li=some (.dT B.linksD)
 ti:H ti=some (.dT B.tiesD)
 su:H su=some (.dT B.sumsD)
 en:∀p∈B.kept,SqT K H p.2 (p.1.row.map kV)
 ll:∀q∈B.links,H q.2.1=some (.lst (q.2.2.map V.str))
 tt:∀q∈B.ties,H q.2.1=some (.dK (q.2.2.map fun r=>(.inl r.1,.str r.2)))
theorem BkAt.mono {K:W.Frag} {k:Addr} (h:BkAt K C H b dx k bi li ti su B) (s:Same H H'):BkAt K C H' b dx k bi li ti su B :=
 ⟨s _ _ h.ob,h.ap,h.at',s _ _ h.ke,s _ _ h.bi,s _ _ h.li,s _ _ h.ti,s _ _ h.su,fun p hp=>s.sqt (h.en p hp),fun q hq=>s _ _ (h.ll q hq),fun q hq=>s _ _ (h.tt q hq)⟩
def BkHas (K:W.Frag) (C:Addr) (H:Hp) (v:V) (B:Bk):Prop:=∃b dx k bi li ti su,v=.ref b∧BkAt K C H b dx k bi li ti su B
theorem BkHas.mono {K:W.Frag} (h:BkHas K C H v B) (s:Same H H'):BkHas K C H' v B:=by
 obtain ⟨b,dx,k,bi,li,ti,su,e,h⟩:=h;exact ⟨b,dx,k,bi,li,ti,su,e,h.mono s⟩
noncomputable def Z3 (n:Str):List (Ent×Addr)->Option (Ent×Addr)
 |[]=>none
 |p::r=>if p.1.bornName=some n then some p else Z3 n r
theorem UL {n:Str}:∀{l:List (Ent×Addr)} {p:Ent×Addr},Z3 n l=some p->p∈l∧p.1.bornName=some n
 |[],_,h=>by cases h
 |q::r,p,h=>by
  unfold Z3 at h;split at h
  ·cases h;exact ⟨QB ..,by assumption⟩
  ·obtain ⟨h1,h2⟩:=UL h;exact ⟨Qx _ h1,h2⟩
theorem Zcv (n:Str):∀l:List (Ent×Addr),ZD (Bk.bornD l) (.inr n:Zi)=(Z3 n l).map fun p=>.ref p.2
 |[]=>rfl
 |p::r=>by
  have ih:=Zcv n r;unfold Bk.bornD Z3;rw [Q4];cases h:p.1.bornName with
  |none =>
   simp only [Option.map_none];rw [Qa (by simp)];exact ih
  |some x =>
   simp only [Option.map_some];by_cases e:x=n
   ·subst e;rw [Xf rfl,Qb rfl];rfl
   ·rw [Xd (fun q=>e (Re q)),Qa (fun q=>e (Ql q))];exact ih
theorem ZcK {k:Addr}:(WP k bi li ti su).lookup ("kept" : Str)=some (.ref k):=rfl
theorem Jj {k:Addr}:(WP k bi li ti su).lookup ("births" : Str)=some (.ref bi):=rfl
theorem ZaR {k:Addr}:(WP k bi li ti su).lookup ("links" : Str)=some (.ref li):=rfl
theorem Zf5 {k:Addr}:(WP k bi li ti su).lookup ("ties" : Str)=some (.ref ti):=rfl
theorem Zio {k:Addr}:(WP k bi li ti su).lookup ("sums" : Str)=some (.ref su):=rfl
noncomputable def ZbI (B:Bk) (n:Str):Option (Str×Int):=match Z3 n B.kept with
 |some (.born _ s d _ _,_)=>some (s,d)
 |_=>none
noncomputable def Wu (B:Bk) (n:Str):Str:=((ZbI B n).map (·.1)).getD ""
noncomputable def ZX (B:Bk) (n:Str):Int:=((ZbI B n).map (·.2)).getD 0
theorem ZaY (h:Z3 n B.kept=some p) (e:p.1=.born n' s d f m):Wu B n=s:=by
 obtain ⟨e',a⟩:=p;cases e;unfold Wu ZbI;rw [h];rfl
theorem U3 (h:Z3 n B.kept=some p) (e:p.1=.born n' s d f m):ZX B n=d:=by
 obtain ⟨e',a⟩:=p;cases e;unfold ZX ZbI;rw [h];rfl
noncomputable def XT (B:Bk) (n s:Str) (d:Int):Bool:=decide (n="")||(decide (Wu B n=s)&&decide (ZX B n<d))
def Known (B:Bk) (n:Str):Prop:=Z3 n B.kept≠none
noncomputable def Ws (B:Bk) (e:Ent):Bool:=match e with
 |.born _ _ d f m=>XT B f "he" d&&XT B m "she" d
 |.taken c t d=>decide (c≠t)&&decide (ZX B t<ZX B c)&&e.named.all fun n=>decide (ZX B n≤d)
 |.dead n d=>decide (ZX B n≤d)
 |.union a b d=>decide (a≠b)&&e.named.all fun n=>decide (ZX B n≤d)
 |.parted a b d=>decide (a≠b)&&e.named.all fun n=>decide (ZX B n≤d)
 |.given a b _ d=>decide (a≠b)&&e.named.all fun n=>decide (ZX B n≤d)
theorem Y1 {a b:TS} {D:Ends} (J:St->Hp->Prop) (h1:∀nx,(∀σ H,J σ H->nx σ H)->a { D with nx:=nx } σ H) (h2:∀σ H,J σ H->b D σ H):Jg a b D σ H:=h1 (b D) h2
noncomputable def Ent.isBorn:Ent->Bool
 |.born ..=>true
 |_=>false
noncomputable def Ent.same:Ent->Bool
 |.taken c t _=>decide (c=t)
 |.union a b _=>decide (a=b)
 |.parted a b _=>decide (a=b)
 |.given a b _ _=>decide (a=b)
 |_=>false
noncomputable def Ent.early (B:Bk):Ent->Bool
 |.taken c t _=>decide (ZX B c≤ZX B t)
 |_=>false
theorem Za6 (h:e.isBorn=false):Ws B e=(!e.same&&!e.early B&&e.named.all fun n=>decide (ZX B n≤e.day)):=by
 cases e with
 |born=>cases h
 |taken c t d =>
  unfold Ws Ent.same Ent.early;have h1:decide (c≠t)=!decide (c=t):=by simp
  have h2:decide (ZX B t<ZX B c)=!decide (ZX B c≤ZX B t):=by
   rw [Rn];simp
  simp only [h1,h2];rfl
 |dead n d =>
  simp [Ws,Ent.same,Ent.early,Ent.named,Ent.day];rfl
 |_ =>
  simp [Ws,Ent.same,Ent.early,Ent.day];rfl
theorem ZnU {k:Addr}:ZI "sums" (.ref su) (ZI "ties" (.ref ti) (ZI "links" (.ref li) (ZI "births" (.ref bi) (ZI "kept" (.ref k) []))))=WP k bi li ti su:=by
 rfl
noncomputable def VO:Bk:=⟨[],[],[],[]⟩
theorem Zag {p:Addr} {fs:List (Str×V)} (f:Str) (o:HO) (h:H b=some (.ins C dx fs)) (n:H p=none) :
  (Zb (Zb H p o) b (.ins C dx (ZI f (.ref p) fs))) b=some (.ins C dx (ZI f (.ref p) fs))∧(Zb (Zb H p o) b (.ins C dx (ZI f (.ref p) fs))) p=some o ∧
  (∀c u,H c=some u->c≠b->(Zb (Zb H p o) b (.ins C dx (ZI f (.ref p) fs))) c=some u)∧∀c,(Zb (Zb H p o) b (.ins C dx (ZI f (.ref p) fs))) c=none->H c=none:=by
 have pb:p≠b:=fun e=>by subst e;rw [h] at n;cases n
 refine ⟨Ze,(Zg pb).trans Ze,fun c u e cb=>(Zg cb).trans ((Zg (ZV e n)).trans e),fun c e=>?_⟩;by_cases cb:c=b
 ·subst cb;rw [Ze] at e;cases e
 rw [Zg cb] at e;by_cases cp:c=p
 ·subst cp;exact n
 rw [Zg cp] at e;exact e
noncomputable def ZL (c:Str×Str):List ((Str×Str)×Addr×List Str)->Option (Addr×List Str)
 |[]=>none
 |q::r=>if q.1=c then some q.2 else ZL c r
theorem WX {a b:Str×Str} (h:Zr a=Zr b):a=b:=by
 unfold Zr at h;simp at h;exact RM h.1 h.2
theorem VX (c:Str×Str):∀l:List ((Str×Str)×Addr×List Str),ZD (l.map fun q=>(Zr q.1,V.ref q.2.1)) (Zr c)=(ZL c l).map fun q=>.ref q.1
 |[]=>rfl
 |q::r=>by
  have ih:=VX c r;unfold ZL;rw [Qs];by_cases e:q.1=c
  ·subst e;rw [Xf rfl,Qb rfl];rfl
  ·rw [Xd (fun z=>e (WX z)),Qa e];exact ih
theorem ZcM {c:Str×Str}:∀{l:List ((Str×Str)×Addr×List Str)} {x:Addr×List Str},ZL c l=some x->∃q∈l,q.2=x
 |[],_,h=>by cases h
 |q::r,x,h=>by
  unfold ZL at h;split at h
  ·cases h;exact ⟨q,QB ..,rfl⟩
  ·obtain ⟨z,hz,e⟩:=ZcM h;exact ⟨z,Qx _ hz,e⟩
noncomputable def Yy (B:Bk) (l n:Str):List Str:=((ZL (l,n) B.links).map (·.2)).getD []
noncomputable def XY:List Str:=["F","M","T","f","m","t","S"]
noncomputable def Wf (x:Str):Bool:=decide (x∈XY)
theorem ZbF (x:Str):∀l:List Str,Wi (.str x) (l.map V.str)=decide (x∈l):=by
 intro l;unfold Wi
 induction l with
 |nil=>rfl
 |cons y r ih =>
  rw [Qs,Rj,ih];by_cases h:x=y
  ·subst h;simp [Yu]
  ·simp [Yu,h,Q2 h]
theorem Zad {a b:Str} (h1:ZR a b=false) (h2:ZR b a=false):a=b:=by
 unfold ZR at h1 h2
 have e:a.cps.toList=b.cps.toList:=by
  have l1:=Rr h1;have l2:=Rr h2;exact List.le_antisymm (List.not_lt.mp l2) (List.not_lt.mp l1)
 obtain ⟨a⟩:=a;obtain ⟨b⟩:=b;have e2:a=b:=Rx.mp e;rw [e2]
noncomputable def Zd (a b:Str):Str×Str:=if ZR b a=true then (b,a) else (a,b)
theorem ZfU {a b:Str} (hp:zs.Perm [a,b]) (hs:PyProof.Rows.sortedS zs=true):zs=[(Zd a b).1,(Zd a b).2]:=by
 have hl:=hp.length_eq
 match zs,hl with
 |[x,y],_ =>
  have hs2:ZR y x=false:=by
   have h3:(!PySem.Spec.ltCps y.cps.toList x.cps.toList&&true)=true:=hs;rw [PyProof.Rows.ltCps_eq] at h3;simpa [ZR] using h3
  have hm:x∈[a,b]:=hp.subset (by simp)
  have hp2:(x=a∧y=b)∨(x=b∧y=a):=by
   rcases Qh.mp hm with rfl|hm
   ·have:=hp.cons_inv;exact .inl ⟨rfl,by simpa using this⟩
   ·have e:x=b:=by simpa using hm
    subst e;have h4:[x,y].Perm [x,a]:=hp.trans (List.Perm.swap ..);have:=h4.cons_inv;exact .inr ⟨rfl,by simpa using this⟩
  unfold Zd;rcases hp2 with ⟨rfl,rfl⟩|⟨rfl,rfl⟩
  ·rw [hs2];rfl
  ·by_cases h:ZR x y=true
   ·rw [Qb h]
   ·rw [Qa h,Zad (QO.mpr h) hs2]
noncomputable def Ent.told:Ent->Ent
 |.union a b d=>.union (Zd a b).1 (Zd a b).2 d
 |.parted a b d=>.parted (Zd a b).1 (Zd a b).2 d
 |e=>e
theorem Zb1 (a b:Str):(if ZR b a=true then b else a)=(Zd a b).1:=by
 unfold Zd;by_cases h:ZR b a=true
 ·rw [Qb h,Qb h]
 ·rw [Qa h,Qa h]
theorem Zc2 (a b:Str):(if ZR a b=true then b else a)=(Zd a b).2:=by
 unfold Zd;by_cases h:ZR b a=true
 ·rw [Qb h];by_cases h2:ZR a b=true
  ·have l1:b.cps.toList<a.cps.toList:=QM h;have l2:a.cps.toList<b.cps.toList:=QM h2;exact absurd l1 (NL l2)
  ·rw [Qa h2]
 ·rw [Qa h];by_cases h2:ZR a b=true
  ·rw [Qb h2]
  ·rw [Qa h2,Zad (QO.mpr h) (QO.mpr h2)]
noncomputable def Ji:Zi->Vk
 |.inl i=>.int i
 |.inr x=>.str x
theorem Zej {K:W.Frag} {H:Hp}:∀(l:List Zi),(∀x:Str,(.inr x:Zi)∈l->x.length≤100)->Vws K H (l.map kV) (l.map Ji)
 |[],_=>trivial
 |.inl i::r,h=>⟨rfl,Zej r fun x hx=>h x (Qx _ hx)⟩
 |.inr y::r,h=>⟨⟨rfl,h y (QB ..)⟩,Zej r fun x hx=>h x (Qx _ hx)⟩
structure Ent.Ok (e:Ent):Prop where
 en:Vi (e.row.map Ji)=true
 sh:∀x:Str,(.inr x:Zi)∈e.row->x.length≤100
theorem Ent.row_len (e:Ent):(e.row.map Ji).length≤10:=by
 cases e<;>exact QE rfl
theorem Ent.Ok.tv (h:e.Ok) {K:W.Frag} (hE:SqT K H a (e.row.map kV)):Tv K H (.ref a) (e.row.map Ji):=⟨a,_,rfl,hE,Zej _ h.sh⟩
inductive Rf where
 |full|person|twice|fit
noncomputable def Bk.full (B:Bk) (e:Ent):Bool:=decide (400≤B.kept.length)||(e.isBorn&&decide (60≤(Bk.bornD B.kept).length))
noncomputable def Wb (B:Bk) (e:Ent):Option Rf :=
 if B.full e=true then some .full
 else if (e.named.all fun n=>(Z3 n B.kept).isSome)=false then some .person
 else if (ZD B.keptD e.told.key).isSome=true then some .twice
 else if Ws B e=true then none else some .fit
theorem ZgP (kn:∀n∈e.named,Known B n):(e.named.all fun n=>(Z3 n B.kept).isSome)=true:=by
 rw [Rv];intro n hn;have:=kn n hn;unfold Known at this;exact N9.mpr this
theorem ZnR (h:B.full e=false) (kn:∀n∈e.named,Known B n) (t:(ZD B.keptD e.told.key).isSome=false) (f:Ws B e=true):Wb B e=none:=by
 unfold Wb;rw [h,Qa (by decide),ZgP kn,Qa (by decide),t,Qa (by decide),f,Qb rfl]
theorem ZiE {a b c:Str} (h1:ZR a b=true) (h2:ZR b c=true):ZR a c=true:=by
 unfold ZR at *;exact Qr (List.lt_trans (QM h1) (QM h2))
theorem Zly (a:Str):ZR a a=false:=by
 unfold ZR;exact Qk (List.lt_irrefl _)
noncomputable def YL (a b:Str):Bool:=!ZR b a
theorem ZfH {a b c:Str} (h1:YL a b=true) (h2:YL b c=true):YL a c=true:=by
 unfold YL at *;simp only [ND] at *;cases h:ZR c a with
 |false=>rfl
 |true =>
  by_cases e:a=b
  ·subst e;rw [h] at h2;cases h2
  ·have hab:ZR a b=true:=by
    cases h3:ZR a b with
    |true=>rfl
    |false=>exact absurd (Zad h3 h1) e
   rw [ZiE h hab] at h2;cases h2
theorem Zmb (a b:Str):(YL a b||YL b a)=true:=by
 unfold YL;cases h:ZR b a with
 |false=>rfl
 |true =>
  cases h2:ZR a b with
  |false=>rfl
  |true=>exact absurd (ZiE h2 h) (by rw [Zly a];decide)
noncomputable def Zw (l:List Str):List Str:=l.mergeSort YL
theorem Xp (l:List Str):(Zw l).Perm l:=List.mergeSort_perm ..
theorem U7 (l:List Str):(Zw l).Pairwise fun a b=>YL a b=true:=List.pairwise_mergeSort (le:=YL) (fun _ _ _=>ZfH) Zmb l
theorem J0:∀{l:List Str},PyProof.Rows.sortedS l=true->l.Pairwise fun a b=>YL a b=true
 |[],_=>.nil
 |[x],_=>.cons (by simp) .nil
 |x::y::r,h=>by
  have h':(!PySem.Spec.ltCps y.cps.toList x.cps.toList&&PyProof.Rows.risingS y r)=true:=h;rw [Ri] at h';obtain ⟨h1,h2⟩:=h';have ih:=J0 (l:=y::r) h2
  have hxy:YL x y=true:=by
   rw [PyProof.Rows.ltCps_eq] at h1;exact h1
  refine .cons (fun z hz=>?_) ih;rcases Qh.mp hz with rfl|hz
  ·exact hxy
  ·exact ZfH hxy (NM ih hz)
theorem JD:∀{l m:List Str},l.Perm m->(l.Pairwise fun a b=>YL a b=true)->(m.Pairwise fun a b=>YL a b=true)->l=m
 |[],m,p,_,_=>p.nil_eq
 |x::l,[],p,_,_=>absurd p.length_eq (by simp)
 |x::l,y::m,p,h1,h2=>by
  have e:x=y:=by
   by_cases e:x=y
   ·exact e
   have hx:x∈m:=by
    have:x∈y::m:=p.subset (QB ..);rcases Qh.mp this with h|h
    ·exact absurd h e
    ·exact h
   have hy:y∈l:=by
    have:y∈x::l:=p.symm.subset (QB ..);rcases Qh.mp this with h|h
    ·exact absurd h.symm e
    ·exact h
   have a1:=NM h1 hy;have a2:=NM h2 hx;unfold YL at a1 a2;simp only [ND] at a1 a2;exact Zad a2 a1
  subst e;rw [JD p.cons_inv (List.pairwise_cons.mp h1).2 (List.pairwise_cons.mp h2).2]
theorem Zaq {l:List Str} (hp:zs.Perm l) (hs:PyProof.Rows.sortedS zs=true):zs=Zw l:=JD (hp.trans (Xp l).symm) (J0 hs) (U7 l)
structure But (S:List Addr) (H H':Hp):Prop where
 eq:∀a o,a∉S->H a=some o->H' a=some o
 al:∀a,H' a=none->H a=none
theorem But.of (S:List Addr) (s:Same H H'):But S H H':=⟨fun a o _ e=>s a o e,fun a n=>ZP s n⟩
theorem But.trans {H'':Hp} (h1:But S H H') (h2:But S H' H''):But S H H'':=⟨fun a o n e=>h2.eq a o n (h1.eq a o n e),fun a n=>h1.al a (h2.al a n)⟩
theorem But.put (e:H a=some o) (h:a∈S):But S H (Zb H a o'):=by
 refine ⟨fun c u n q=>(Zg (fun z:c=a=>n (by rw [z];exact h))).trans q,fun c n=>?_⟩;by_cases z:c=a
 ·subst z;rw [Ze] at n;cases n
 ·rw [Zg z] at n;exact n
noncomputable def Zo {κ α:Type} [DecidableEq κ] (l:List (κ×α)) (c:κ) (x:α):List (κ×α) :=
 if (l.any fun q=>decide (q.1=c))=true then l.map (fun q=>if q.1=c then (q.1,x) else q) else l++[(c,x)]
theorem UZ {κ κ' α:Type} [DecidableEq κ] [DecidableEq κ'] {f:κ->κ'} (hf:∀a b,f a=f b->a=b) (g:α->V) (l:List (κ×α)) (c:κ) (x:α) :
  Yh (l.map fun q=>(f q.1,g q.2)) (f c) (g x)=(Zo l c x).map fun q=>(f q.1,g q.2):=by
 have hd:∀a:κ,decide (f a=f c)=decide (a=c):=fun a=>by
  by_cases e:a=c
  ·subst e;simp
  ·rw [Qk e,Qk (fun z=>e (hf _ _ z))]
 unfold Yh Zo
 have e1:((l.map fun q=>(f q.1,g q.2)).any fun kv=>decide (kv.1=f c))=l.any fun q=>decide (q.1=c):=by
  rw [List.any_map];exact Qj (fun z=>l.any z) (funext fun q=>hd q.1)
 rw [e1];by_cases h:(l.any fun q=>decide (q.1=c))=true
 ·rw [Qb h,Qb h,QH,QH];refine R1 fun q _=>?_;show (if f q.1=f c then (f q.1,g x) else (f q.1,g q.2))=(fun q=>(f q.1,g q.2)) (if q.1=c then (q.1,x) else q);by_cases e:q.1=c
  ·rw [Qb e,Qb (by rw [e])]
  ·rw [Qa e,Qa (fun z=>e (hf _ _ z))]
 ·rw [Qa h,Qa h,Qm];rfl
theorem JT {κ α:Type} [DecidableEq κ] {l:List (κ×α)} {c:κ} {x:α} {q:κ×α} (h:q∈Zo l c x):q=(c,x)∨q∈l:=by
 unfold Zo at h;split at h
 ·obtain ⟨p,hp,e⟩:=Qg.mp h;split at e
  ·rename_i pc;subst e;exact .inl (by rw [pc])
  ·subst e;exact .inr hp
 ·rcases Qq.mp h with h|h
  ·exact .inr h
  ·exact .inl (by simpa using h)
theorem ZaF {k:Addr} (h:[k,li,ti,su].Nodup):k≠li∧k≠ti∧k≠su∧li≠ti∧li≠su∧ti≠su:=by
 simp at h;exact ⟨h.1.1,h.1.2.1,h.1.2.2,h.2.1.1,h.2.1.2,h.2.2⟩
theorem YD {c:Addr} (h1:H a=some o) (h2:H c=some u) (n:o≠u):a≠c:=fun e=>by
 subst e;rw [h1] at h2;exact n (Ql h2)
theorem YI {K:W.Frag} {c:Addr} {xs:List V} (h:SqT K H a xs) (e:H c=some o) (no:∀ys,o≠.tup ys) (nf:∀x ys,o≠.frz x ys):SqT K (Zb H c o') a xs:=by
 rcases h with h|h
 ·rcases h with h|⟨x,h⟩
  ·exact .inl (.inl ((Zg (YD h e (fun z=>no _ z.symm))).trans h))
  ·exact .inl (.inr ⟨x,(Zg (YD h e (fun z=>nf _ _ z.symm))).trans h⟩)
 ·exact .inr h
theorem BkAt.links {K:W.Frag} {k:Addr} (h:BkAt K C H b dx k bi li ti su B) {l:List ((Str×Str)×Addr×List Str)}
 (hl:∀q∈l,H q.2.1=some (.lst (q.2.2.map V.str))):BkAt K C (Zb H li (.dT (l.map fun q=>(Zr q.1,V.ref q.2.1)))) b dx k bi li ti su { B with links:=l }:=by
 obtain ⟨n1,n2,n3,n4,n5,n6⟩:=ZaF h.ap;have dk:∀{c:Addr} {z:List (Zi×V)},H c=some (.dK z)->c≠li:=fun e=>YD e h.li (fun z=>by cases z)
 exact ⟨(Zg (YD h.ob h.li (fun z=>by cases z))).trans h.ob,h.ap,h.at',(Zg n1).trans h.ke,(Zg (dk h.bi)).trans h.bi,Ze,(Zg n4.symm).trans h.ti,(Zg n5.symm).trans h.su,
  fun p hp=>YI (h.en p hp) h.li (fun _ z=>by cases z) (fun _ _ z=>by cases z),fun q hq=>(Zg (YD (hl q hq) h.li (fun z=>by cases z))).trans (hl q hq),fun q hq=>(Zg (dk (h.tt q hq))).trans (h.tt q hq)⟩
noncomputable def lk (ls:List ((Str×Str)×Addr×List Str)) (c:Str×Str):List Str:=((ZL c ls).map (·.2)).getD []
noncomputable def Z6 (f:Str×Str->List Str) (c:Str×Str) (m:Str):Str×Str->List Str:=fun x=>if x=c then Zw (f c++[m]) else f x
theorem Zho {c:Str×Str}:∀{l:List ((Str×Str)×Addr×List Str)},(l.any fun q=>decide (q.1=c))=false->ZL c l=none
 |[],_=>rfl
 |q::r,h=>by
  rw [Rj,Bool.or_eq_false_iff] at h;unfold ZL;rw [Qa (Rr h.1)];exact Zho h.2
theorem Zdz {c:Str×Str}:∀{l m:List ((Str×Str)×Addr×List Str)},ZL c (l++m)=(ZL c l).or (ZL c m)
 |[],m=>by simp [ZL]
 |q::r,m=>by
  show (if q.1=c then some q.2 else ZL c (r++m))=(if q.1=c then some q.2 else ZL c r).or (ZL c m);by_cases e:q.1=c
  ·rw [Qb e,Qb e];rfl
  ·rw [Qa e,Qa e];exact Zdz
theorem Zh0 {c d:Str×Str} {x:Addr×List Str}:∀{l:List ((Str×Str)×Addr×List Str)},ZL d (l.map fun q=>if q.1=c then (q.1,x) else q)=if d=c then (ZL c l).map (fun _=>x) else ZL d l
 |[]=>by by_cases e:d=c<;>simp [ZL,e]
 |q::r=>by
  have ih:=Zh0 (c:=c) (d:=d) (x:=x) (l:=r);rw [Qs];by_cases e:q.1=c
  ·rw [Qb e];by_cases e2:d=c
   ·subst e2;rw [Qb rfl];unfold ZL;rw [Qb e,Qb e];rfl
   ·rw [Qa e2] at ih ⊢;unfold ZL;rw [Qa (fun z=>e2 (z.symm.trans e)),Qa (fun z=>e2 (z.symm.trans e))];exact ih
  ·rw [Qa e];by_cases e2:d=c
   ·subst e2;rw [Qb rfl] at ih ⊢;unfold ZL;rw [Qa e,Qa e];exact ih
   ·rw [Qa e2] at ih ⊢;unfold ZL;by_cases e3:q.1=d
    ·rw [Qb e3,Qb e3]
    ·rw [Qa e3,Qa e3];exact ih
theorem ZfW (l:List ((Str×Str)×Addr×List Str)) (c d:Str×Str) (x:Addr×List Str):ZL d (Zo l c x)=if d=c then some x else ZL d l:=by
 unfold Zo;by_cases h:(l.any fun q=>decide (q.1=c))=true
 ·rw [Qb h,Zh0];by_cases e:d=c
  ·rw [Qb e,Qb e];cases hk:ZL c l with
   |some y=>rfl
   |none =>
    exfalso
    have:∀{l:List ((Str×Str)×Addr×List Str)},ZL c l=none->(l.any fun q=>decide (q.1=c))=false:=by
     intro l
     induction l with
     |nil=>intro _;rfl
     |cons q r ih =>
      intro hn;unfold ZL at hn;by_cases e:q.1=c
      ·rw [Qb e] at hn;cases hn
      ·rw [Qa e] at hn;rw [Rj,ih hn,Qk e];rfl
    rw [this hk] at h;cases h
  ·rw [Qa e,Qa e]
 ·rw [Qa h,Zdz];by_cases e:d=c
  ·subst e;rw [Qb rfl,Zho (QO.mpr h)];simp [ZL]
  ·rw [Qa e];cases ZL d l with
   |some y=>rfl
   |none=>simp [ZL,Q2 e]
theorem W8 (l:List ((Str×Str)×Addr×List Str)) (c d:Str×Str) (D:Addr) (m:Str):lk (Zo l c (D,Zw (lk l c++[m]))) d=Z6 (lk l) c m d:=by
 unfold lk Z6;rw [ZfW];by_cases e:d=c
 ·rw [Qb e,Qb e];rfl
 ·rw [Qa e,Qa e]
theorem XU {κ α:Type} [DecidableEq κ] (l:List (κ×α)) (c:κ) (x:α):(Zo l c x).length≤l.length+1:=by
 unfold Zo;split
 ·rw [Qd];omega
 ·rw [Qv];exact Qe _
theorem V6 (B:Bk) (l n:Str):Yy B l n=lk B.links (l,n):=rfl
noncomputable def XC (F:Str×Str->List Str) (n f m:Str):Str×Str->List Str :=
 let F1:=if f="" then F else Z6 (Z6 F ("F",n) f) ("f",f) n
 if m="" then F1 else Z6 (Z6 F1 ("M",n) m) ("m",m) n
theorem Jh {d:Str×Str} (h:d.1≠c.1):Z6 F c m d=F d:=Qa fun e=>h (by rw [e])
theorem JR {G:Str×Str->List Str} (h:∀c,F c=G c) (c:Str×Str) (m:Str) (d:Str×Str):Z6 F c m d=Z6 G c m d:=by
 unfold Z6;rw [h c,h d]
theorem Zmw (l:List (Ent×Addr)) (n s:Str) (d:Int) (f m:Str) (a:Addr):Bk.bornD (l++[(.born n s d f m,a)])=Bk.bornD l++[(.inr n,.ref a)]:=by
 unfold Bk.bornD;rw [Rk];rfl
theorem ZpK (l:List (Ent×Addr)):(Bk.bornD l).length≤l.length:=Gf ..
theorem But.mono {S':List Addr} (h:But S H H') (i:∀a∈S,a∈S'):But S' H H':=⟨fun a o n e=>h.eq a o (fun z=>n (i a z)) e,h.al⟩
noncomputable def J2 (l:List (Ent×Addr)):List (Str×V):=l.filterMap fun p=>p.1.bornName.map fun n=>(n,.ref p.2)
theorem Zhr (l:List (Ent×Addr)):Bk.bornD l=(J2 l).map fun p=>(.inr p.1,p.2):=by
 unfold Bk.bornD J2;rw [NN]
 congr 1
 funext p
 cases p.1.bornName<;>rfl
noncomputable def Z2 (l:List (Ent×Addr)):List Str:=l.filterMap fun p=>p.1.bornName
theorem ZiA (l:List (Ent×Addr)):(J2 l).map (·.1)=Z2 l:=by
 unfold Z2 J2;rw [NN]
 congr 1
 funext p
 cases p.1.bornName<;>rfl
def Grows (H:Hp) (ls ls':List ((Str×Str)×Addr×List Str)):Prop:=∀q∈ls',(∃p∈ls,p.2.1=q.2.1)∨H q.2.1=none
theorem Grows.refl (H:Hp) (ls:List ((Str×Str)×Addr×List Str)):Grows H ls ls:=fun q hq=>.inl ⟨q,hq,rfl⟩
theorem Grows.put {ls ls':List ((Str×Str)×Addr×List Str)} {x:List Str} (g:Grows H ls ls') (n:H D=none):Grows H ls (Zo ls' c (D,x)):=fun q hq=>by
 rcases JT hq with rfl|hq
 ·exact .inr n
 ·exact g q hq
theorem Grows.back {ls ls':List ((Str×Str)×Addr×List Str)} (g:Grows H' ls ls') (al:∀a,H' a=none->H a=none):Grows H ls ls':=fun q hq=>(g q hq).imp id (al _)
noncomputable def ZF {κ α:Type} [DecidableEq κ] (c:κ):List (κ×α)->Option α
 |[]=>none
 |q::r=>if q.1=c then some q.2 else ZF c r
theorem ZhP {κ α:Type} [DecidableEq κ] {c:κ}:∀{l:List (κ×α)},(l.any fun q=>decide (q.1=c))=false->ZF c l=none
 |[],_=>rfl
 |q::r,h=>by
  rw [Rj,Bool.or_eq_false_iff] at h;unfold ZF;rw [Qa (Rr h.1)];exact ZhP h.2
theorem Za5 {κ α:Type} [DecidableEq κ] {c:κ}:∀{l:List (κ×α)},ZF c l=none->(l.any fun q=>decide (q.1=c))=false
 |[],_=>rfl
 |q::r,h=>by
  unfold ZF at h;by_cases e:q.1=c
  ·rw [Qb e] at h;cases h
  ·rw [Qa e] at h;rw [Rj,Za5 h,Qk e];rfl
theorem Za4 {κ α:Type} [DecidableEq κ] {c:κ}:∀{l m:List (κ×α)},ZF c (l++m)=(ZF c l).or (ZF c m)
 |[],m=>by simp [ZF]
 |q::r,m=>by
  show (if q.1=c then some q.2 else ZF c (r++m))=(if q.1=c then some q.2 else ZF c r).or (ZF c m);by_cases e:q.1=c
  ·rw [Qb e,Qb e];rfl
  ·rw [Qa e,Qa e];exact Za4
theorem Ze1 {κ α:Type} [DecidableEq κ] {c d:κ} {x:α}:∀{l:List (κ×α)},ZF d (l.map fun q=>if q.1=c then (q.1,x) else q)=if d=c then (ZF c l).map (fun _=>x) else ZF d l
 |[]=>by by_cases e:d=c<;>simp [ZF,e]
 |q::r=>by
  have ih:=Ze1 (c:=c) (d:=d) (x:=x) (l:=r);rw [Qs];by_cases e:q.1=c
  ·rw [Qb e];by_cases e2:d=c
   ·subst e2;rw [Qb rfl];unfold ZF;rw [Qb e,Qb e];rfl
   ·rw [Qa e2] at ih ⊢;unfold ZF;rw [Qa (fun z=>e2 (z.symm.trans e)),Qa (fun z=>e2 (z.symm.trans e))];exact ih
  ·rw [Qa e];by_cases e2:d=c
   ·subst e2;rw [Qb rfl] at ih ⊢;unfold ZF;rw [Qa e,Qa e];exact ih
   ·rw [Qa e2] at ih ⊢;unfold ZF;by_cases e3:q.1=d
    ·rw [Qb e3,Qb e3]
    ·rw [Qa e3,Qa e3];exact ih
theorem Zdf {κ α:Type} [DecidableEq κ] (l:List (κ×α)) (c d:κ) (x:α):ZF d (Zo l c x)=if d=c then some x else ZF d l:=by
 unfold Zo;by_cases h:(l.any fun q=>decide (q.1=c))=true
 ·rw [Qb h,Ze1];by_cases e:d=c
  ·rw [Qb e,Qb e];cases hk:ZF c l with
   |some y=>rfl
   |none=>rw [Za5 hk] at h;cases h
  ·rw [Qa e,Qa e]
 ·rw [Qa h,Za4];by_cases e:d=c
  ·subst e;rw [Qb rfl,ZhP (QO.mpr h)];simp [ZF]
  ·rw [Qa e];cases ZF d l with
   |some y=>rfl
   |none=>simp [ZF,Q2 e]
theorem Vf {κ α:Type} [DecidableEq κ] {c:κ}:∀{l:List (κ×α)} {x:α},ZF c l=some x->(c,x)∈l
 |[],_,h=>by cases h
 |q::r,x,h=>by
  unfold ZF at h;by_cases e:q.1=c
  ·rw [Qb e] at h;cases h;rw [←e];exact QB ..
  ·rw [Qa e] at h;exact Qx _ (Vf h)
theorem Zab {κ κ' α:Type} [DecidableEq κ] [DecidableEq κ'] {f:κ->κ'} (hf:∀a b,f a=f b->a=b) (g:α->V) (c:κ):∀l:List (κ×α),ZD (l.map fun q=>(f q.1,g q.2)) (f c)=(ZF c l).map g
 |[]=>rfl
 |q::r=>by
  have ih:=Zab hf g c r;unfold ZF;rw [Qs];by_cases e:q.1=c
  ·subst e;rw [Xf rfl,Qb rfl];rfl
  ·rw [Xd (fun z=>e (hf _ _ z)),Qa e];exact ih
noncomputable def Yx (B:Bk) (c:Str×Str):List (Int×Str):=((ZF c B.ties).map (·.2)).getD []
noncomputable def YR (l:List (Int×Str)):Bool:=match (l.map (·.1)).max? with
 |none=>false
 |some m=>decide (ZF m l=some ("union" : Str))
noncomputable def Za1 (B:Bk) (a b:Str):Bool:=YR (Yx B (Zd a b))
noncomputable def Y6 (l:List (Int×Str)):List (Zi×V):=l.map fun r=>(.inl r.1,.str r.2)
theorem Zfm:∀a b:Int,(.inl a:Zi)=.inl b->a=b:=fun _ _ h=>Sum.inl.inj h
theorem ZnM {m:Int} (h:m∈l.map (·.1)):∃x,ZF m l=some x:=by
 cases e:ZF m l with
 |some x=>exact ⟨x,rfl⟩
 |none =>
  obtain ⟨q,hq,rfl⟩:=Qg.mp h;have:=Za5 e;rw [Nv] at this;exact absurd (Qr rfl) (this q hq)
theorem Zis {m:Int} {x:Str} (hm:m∈l.map (·.1)) (hx:∀y∈l.map (·.1),y≤m) (e:ZF m l=some x):YR l=decide (x="union"):=by
 have h:(l.map (·.1)).max?=some m:=List.max?_eq_some_iff.mpr ⟨hm,hx⟩;unfold YR;rw [h];show decide (ZF m l=some ("union" : Str))=_;rw [e];simp
theorem Zb6 (a b:Str):Zd a b=Zd b a:=by
 unfold Zd;by_cases h:ZR b a=true
 ·by_cases h2:ZR a b=true
  ·have l1:b.cps.toList<a.cps.toList:=QM h;have l2:a.cps.toList<b.cps.toList:=QM h2;exact absurd l1 (NL l2)
  ·rw [Qb h,Qa h2]
 ·by_cases h2:ZR a b=true
  ·rw [Qa h,Qb h2]
  ·rw [Qa h,Qa h2,Zad (QO.mpr h) (QO.mpr h2)]
noncomputable def ZM (F:Str×Str->List Str) (st:Bool) (x y:Str):Str×Str->List Str:=fun c =>
 if c=(("S",x):Str×Str) then (if st=true then Zw ((F c).filter (fun n=>decide (n≠y))++[y]) else (F c).filter fun n=>decide (n≠y)) else F c
noncomputable def Y8 (ts:List ((Str×Str)×Addr×List (Int×Str))) (c:Str×Str):List (Int×Str):=((ZF c ts).map (·.2)).getD []
theorem Zpo (B:Bk) (c:Str×Str):Yx B c=Y8 B.ties c:=rfl
theorem Zhc {ts:List ((Str×Str)×Addr×List (Int×Str))} {d:Addr} {l':List (Int×Str)} (n:(ts.map (·.1)).Nodup) (h:ZF c ts=some (d,l)):(Zo ts c (d,l')).map (·.2.1)=ts.map (·.2.1)∧(Zo ts c (d,l')).map (·.1)=ts.map (·.1):=by
 have an:(ts.any fun q=>decide (q.1=c))=true:=by
  rw [Gj];exact ⟨_,Vf h,Qr rfl⟩
 unfold Zo;rw [Qb an,QH,QH];constructor
 ·refine R1 fun q hq=>?_;show (if q.1=c then (q.1,(d,l')) else q).2.1=q.2.1;by_cases e:q.1=c
  ·rw [Qb e]
   have:q.2=(d,l):=by
    have go:∀{ts:List ((Str×Str)×Addr×List (Int×Str))},(ts.map (·.1)).Nodup->ZF c ts=some (d,l)->q∈ts->q.2=(d,l):=by
     intro ts
     induction ts with
     |nil=>intro _ _ h;cases h
     |cons p r ih =>
      intro n f m;rw [Qs,QP] at n;unfold ZF at f;by_cases e2:p.1=c
      ·rw [Qb e2] at f;rcases Qh.mp m with rfl|m
       ·exact Ql f
       ·exact absurd (Qg.mpr ⟨q,m,e.trans e2.symm⟩) n.1
      ·rw [Qa e2] at f;rcases Qh.mp m with rfl|m
       ·exact absurd e e2
       ·exact ih n.2 f m
    exact go n h hq
   rw [this]
  ·rw [Qa e]
 ·refine R1 fun q hq=>?_;show (if q.1=c then (q.1,(d,l')) else q).1=q.1;split<;>rfl
theorem BkAt.newTie {K:W.Frag} {k:Addr} (h:BkAt K C H b dx k bi li ti su B) (nz:H z=some (.dK [])) (fr:z≠bi∧∀q∈B.ties,q.2.1≠z) (c:Str×Str) :
  BkAt K C (Zb H ti (.dT (B.tiesD++[(Zr c,.ref z)]))) b dx k bi li ti su { B with ties:=B.ties++[(c,z,[])] }:=by
 obtain ⟨n1,n2,n3,n4,n5,n6⟩:=ZaF h.ap;have dk:∀{a:Addr} {w:List (Zi×V)},H a=some (.dK w)->a≠ti:=fun e=>YD e h.ti (fun z=>by cases z)
 refine ⟨(Zg (YD h.ob h.ti (fun z=>by cases z))).trans h.ob,h.ap,?_,(Zg n2).trans h.ke,(Zg (dk h.bi)).trans h.bi,(Zg n4).trans h.li,?_,(Zg n6.symm).trans h.su,fun p hp=>YI (h.en p hp) h.ti (fun _ z=>by cases z) (fun _ _ z=>by cases z),
  fun q hq=>(Zg (YD (h.ll q hq) h.ti (fun z=>by cases z))).trans (h.ll q hq),fun q hq=>?_⟩
 ·show (bi::(B.ties++[((c,z,[]):(Str×Str)×Addr×List (Int×Str))]).map (·.2.1)).Nodup;rw [Qm,←Gz,QY];refine ⟨h.at',by simp,fun a ha x hx e=>?_⟩;have ex:x=z:=by simpa using hx
  subst ex e;rcases Qh.mp ha with rfl|ha
  ·exact fr.1 rfl
  ·obtain ⟨q,hq,rfl⟩:=Qg.mp ha;exact fr.2 q hq rfl
 ·rw [Ze];show some (HO.dT _)=some (.dT ((B.ties++[((c,z,[]):(Str×Str)×Addr×List (Int×Str))]).map fun q=>(Zr q.1,V.ref q.2.1)));rw [Qm];rfl
 ·rcases Qq.mp hq with hq|hq
  ·exact (Zg (dk (h.tt q hq))).trans (h.tt q hq)
  ·have e:q=(c,z,[]):=by simpa using hq
   subst e;exact (Zg (dk nz)).trans nz
theorem BkAt.putTie {K:W.Frag} {k d:Addr} (h:BkAt K C H b dx k bi li ti su B) (n:(B.ties.map (·.1)).Nodup) (f:ZF c B.ties=some (d,l)) (l':List (Int×Str)) :
  BkAt K C (Zb H d (.dK (Y6 l'))) b dx k bi li ti su { B with ties:=Zo B.ties c (d,l') }:=by
 have hm:=Vf f;have hd:H d=some (.dK (Y6 l)):=h.tt _ hm;have at2:=h.at';rw [QP] at at2;have bd:bi≠d:=fun e=>at2.1 (Qg.mpr ⟨_,hm,e.symm⟩);have dt:∀{a:Addr} {w:List (List Zi×V)},H a=some (.dT w)->a≠d:=fun e=>YD e hd (fun z=>by cases z);obtain ⟨pa1,pa2⟩:=Zhc (l':=l') n f
 refine ⟨(Zg (YD h.ob hd (fun z=>by cases z))).trans h.ob,h.ap,?_,(Zg (dt h.ke)).trans h.ke,(Zg bd).trans h.bi,(Zg (dt h.li)).trans h.li,?_,(Zg (dt h.su)).trans h.su,fun p hp=>YI (h.en p hp) hd (fun _ z=>by cases z) (fun _ _ z=>by cases z),
  fun q hq=>(Zg (YD (h.ll q hq) hd (fun z=>by cases z))).trans (h.ll q hq),fun q hq=>?_⟩
 ·show (bi::(Zo B.ties c (d,l')).map (·.2.1)).Nodup;rw [pa1];exact h.at'
 ·have e:(Zo B.ties c (d,l')).map (fun q=>(Zr q.1,V.ref q.2.1))=B.tiesD:=by
   have e1:(fun q:(Str×Str)×Addr×List (Int×Str)=>(Zr q.1,V.ref q.2.1))=(fun p:(Str×Str)×Addr=>(Zr p.1,V.ref p.2))∘fun q=>(q.1,q.2.1):=rfl
   have e2:∀ts:List ((Str×Str)×Addr×List (Int×Str)),ts.map (fun q=>(q.1,q.2.1))=(ts.map (·.1)).zip (ts.map (·.2.1)):=fun ts=>by
    induction ts with
    |nil=>rfl
    |cons q r ih=>simp [ih]
   unfold Bk.tiesD;rw [e1,←QH,←QH,e2,e2,pa1,pa2]
  rw [Zg (dt h.ti)];show H ti=some (.dT ((Zo B.ties c (d,l')).map fun q=>(Zr q.1,V.ref q.2.1)));rw [e];exact h.ti
 ·rcases JT hq with rfl|hq2
  ·exact Ze
  ·by_cases e:q.2.1=d
   ·-- the same address: the same pair
    have:q=(c,d,l)∨q=(c,d,l'):=by
     have hnd:=(QP.mp h.at').2
     have go:∀{ts:List ((Str×Str)×Addr×List (Int×Str))},(ts.map (·.2.1)).Nodup->(c,d,l)∈ts->q∈ts->q=(c,d,l):=by
      intro ts
      induction ts with
      |nil=>intro _ h;cases h
      |cons p r ih =>
       intro n h1 h2;rw [Qs,QP] at n;rcases Qh.mp h1 with e1|h1'
       ·rcases Qh.mp h2 with e2|h2'
        ·rw [e2,e1]
        ·rw [←e1] at n;exact absurd (Qg.mpr ⟨q,h2',e⟩) n.1
       ·rcases Qh.mp h2 with e2|h2'
        ·rw [←e2] at n;exact absurd (Qg.mpr ⟨(c,d,l),h1',e.symm⟩) n.1
        ·exact ih n.2 h1' h2'
     exact .inl (go hnd hm hq2)
    rcases this with rfl|rfl
    ·-- then it was told anew
     have an:(B.ties.any fun q=>decide (q.1=c))=true:=by
      rw [Gj];exact ⟨_,hm,Qr rfl⟩
     unfold Zo at hq;rw [Qb an] at hq;obtain ⟨p,hp,ep⟩:=Qg.mp hq;by_cases pc:p.1=c
     ·rw [Qb pc] at ep
      have:l'=l:=by
       have:=Qj (fun z=>z.2.2) ep;exact this
      subst this;exact Ze
     ·rw [Qa pc] at ep;subst ep;exact absurd rfl pc
    ·exact Ze
   ·exact (Zg e).trans (h.tt q hq2)
theorem ZoP (ts:List ((Str×Str)×Addr×List (Int×Str))) (c x:Str×Str) (d:Addr) (l:List (Int×Str)):Y8 (Zo ts c (d,l)) x=if x=c then l else Y8 ts x:=by
 unfold Y8;rw [Zdf];by_cases e:x=c
 ·rw [Qb e,Qb e];rfl
 ·rw [Qa e,Qa e]
theorem Zpn (ts:List ((Str×Str)×Addr×List (Int×Str))) (c x:Str×Str) (d:Addr) (h:ZF c ts=none):Y8 (ts++[(c,d,[])]) x=Y8 ts x:=by
 unfold Y8;rw [Za4];cases e:ZF x ts with
 |some y=>rfl
 |none =>
  unfold ZF;by_cases e2:c=x
  ·rw [Qb e2];rfl
  ·rw [Qa e2];rfl
noncomputable def VA (y:Str) (n:Str):Option V:=if n=y then none else some (.str n)
theorem Zfd (y:Str):∀l:List Str,(l.map (VA y)).filterMap id=(l.filter fun n=>decide (n≠y)).map V.str
 |[]=>rfl
 |n::r=>by
  have ih:=Zfd y r;by_cases h:n=y
  ·subst h;simp only [Qs,Q4,R0];simpa [VA] using ih
  ·simp only [Qs,Q4,R0];simpa [VA,h] using ih
theorem ZfT (l:List ((Str×Str)×Addr×List Str)) (c d:Str×Str) (D:Addr) (z:List Str):lk (Zo l c (D,z)) d=if d=c then z else lk l d:=by
 unfold lk;rw [ZfW];by_cases e:d=c
 ·rw [Qb e,Qb e];rfl
 ·rw [Qa e,Qa e]
theorem Zdr (F:Str×Str->List Str) (st:Bool) (x y:Str) (c:Str×Str):(ZM F st x y c).length≤(F c).length+1:=by
 unfold ZM;have h:=Np (fun n=>decide (n≠y)) (F c);split
 ·split
  ·rw [(Xp _).length_eq,Qv];show _+1≤_;omega
  ·omega
 ·omega
theorem Vg (a b:Str):Zd (Zd a b).1 (Zd a b).2=Zd a b:=by
 unfold Zd;by_cases h:ZR b a=true
 ·rw [Qb h];show (if ZR a b=true then (a,b) else (b,a))=(b,a);by_cases h2:ZR a b=true
  ·have l1:b.cps.toList<a.cps.toList:=QM h;have l2:a.cps.toList<b.cps.toList:=QM h2;exact absurd l1 (NL l2)
  ·rw [Qa h2]
 ·rw [Qa h];show (if ZR b a=true then (b,a) else (a,b))=(a,b);rw [Qa h]
theorem Zbj (e:Ent):e.told.told=e.told:=by
 cases e with
 |union a b d=>show Ent.union (Zd (Zd a b).1 (Zd a b).2).1 (Zd (Zd a b).1 (Zd a b).2).2 d=_;rw [Vg];rfl
 |parted a b d=>show Ent.parted (Zd (Zd a b).1 (Zd a b).2).1 (Zd (Zd a b).1 (Zd a b).2).2 d=_;rw [Vg];rfl
 |_=>rfl
noncomputable def Ue (F:Str×Str->List (Int×Str)):Ent->Str×Str->List (Int×Str)
 |.union a b d=>fun c=>if c=Zd a b then Zo (F (Zd a b)) d "union" else F c
 |.parted a b d=>fun c=>if c=Zd a b then Zo (F (Zd a b)) d "parted" else F c
 |_=>F
noncomputable def W4 (F:Str×Str->List Str) (G:Str×Str->List (Int×Str)):Ent->Str×Str->List Str
 |.born n _ _ f m=>XC F n f m
 |.taken c t _=>Z6 (Z6 F ("T",c) t) ("t",t) c
 |.union a b d=>ZM (ZM F (YR (Zo (G (Zd a b)) d "union")) a b) (YR (Zo (G (Zd a b)) d "union")) b a
 |.parted a b d=>ZM (ZM F (YR (Zo (G (Zd a b)) d "parted")) a b) (YR (Zo (G (Zd a b)) d "parted")) b a
 |_=>F
noncomputable def Xh (ss:List ((Str×Str)×Int)) (c:Str×Str):Int:=(ZF c ss).getD 0
noncomputable def Za2 (F:Str×Str->Int):Ent->Str×Str->Int
 |.given g t am _=>fun c=>if c=(g,t) then F c+am else F c
 |_=>F
theorem Znm (ss:List ((Str×Str)×Int)) (g t:Str) (am d:Int) (c:Str×Str):Xh (Zo ss (g,t) (Xh ss (g,t)+am)) c=Za2 (Xh ss) (.given g t am d) c:=by
 show _=if c=(g,t) then Xh ss c+am else Xh ss c;unfold Xh;rw [Zdf];by_cases e:c=(g,t)
 ·subst e;rw [Qb rfl,Qb rfl];rfl
 ·rw [Qa e,Qa e]
def GrowsT (H:Hp) (ts ts':List ((Str×Str)×Addr×List (Int×Str))):Prop:=∀a∈ts'.map (·.2.1),a∈ts.map (·.2.1)∨H a=none
theorem GrowsT.refl (H:Hp) (ts:List ((Str×Str)×Addr×List (Int×Str))):GrowsT H ts ts:=fun _ h=>.inl h
theorem GrowsT.back {ts ts':List ((Str×Str)×Addr×List (Int×Str))} (g:GrowsT H' ts ts') (al:∀a,H' a=none->H a=none):GrowsT H ts ts':=fun a ha=>(g a ha).imp id (al a)
structure Put (B:Bk) (e:Ent) (B':Bk):Prop where
 su:∀c,Xh B'.sums c=Za2 (Xh B.sums) e.told c
 kept:∃a,B'.kept=B.kept++[(e.told,a)]
 lks:∀c,lk B'.links c=W4 (lk B.links) (Y8 B.ties) e.told c
 tis:∀c,Y8 B'.ties c=Ue (Y8 B.ties) e.told c
 nd:(B'.ties.map (·.1)).Nodup
 nl:B'.links.length≤B.links.length+4
 nt:B'.ties.length≤B.ties.length+1
 ns:B'.sums.length≤B.sums.length+1
structure Room1 (B:Bk):Prop where
 nd:(B.ties.map (·.1)).Nodup
 nl:B.links.length≤870
 nt:B.ties.length≤790
 ns:B.sums.length≤790
 ll:∀c,(lk B.links c).length≤60
 tt:∀c,(Y8 B.ties c).length≤790
theorem ZpG (h:H a=some o):Zb H a o=H:=by
 funext c
 by_cases e:c=a
 ·subst e;rw [Ze,h]
 ·rw [Zg e]
theorem BkAt.kept {K:W.Frag} {k:Addr} (h:BkAt K C H b dx k bi li ti su B) (ha:SqT K H a (e.row.map kV)) :
  BkAt K C (Zb (Zb H k (.dT (B.keptD++[(e.key,.ref a)]))) bi (.dK (Bk.bornD (B.kept++[(e,a)])))) b dx k bi li ti su { B with kept:=B.kept++[(e,a)] }:=by
 obtain ⟨n1,n2,n3,n4,n5,n6⟩:=ZaF h.ap;have kb:k≠bi:=YD h.ke h.bi (fun z=>by cases z);have at2:=QP.mp h.at';have dt:∀{c:Addr} {w:List (List Zi×V)},H c=some (.dT w)->c≠k->(Zb (Zb H k (.dT (B.keptD++[(e.key,.ref a)]))) bi (.dK (Bk.bornD (B.kept++[(e,a)])))) c=some (.dT w):=fun hc n=>(Zg (YD hc h.bi (fun z=>by cases z))).trans ((Zg n).trans hc)
 have sq:∀{c:Addr} {xs:List V},SqT K H c xs->SqT K (Zb (Zb H k (.dT (B.keptD++[(e.key,.ref a)]))) bi (.dK (Bk.bornD (B.kept++[(e,a)])))) c xs:=fun {c xs} hc=>by
  have h1:SqT K (Zb H k (.dT (B.keptD++[(e.key,.ref a)]))) c xs:=YI hc h.ke (fun _ z=>by cases z) (fun _ _ z=>by cases z);exact YI h1 ((Zg kb.symm).trans h.bi) (fun _ z=>by cases z) (fun _ _ z=>by cases z)
 refine ⟨(Zg (YD h.ob h.bi (fun z=>by cases z))).trans ((Zg (YD h.ob h.ke (fun z=>by cases z))).trans h.ob),h.ap,h.at',(Zg kb).trans ?_,Ze,dt h.li n1.symm,dt h.ti n2.symm,dt h.su n3.symm,fun p hp=>?_,fun q hq=>?_,fun q hq=>?_⟩
 ·rw [Ze];show some (HO.dT _)=some (.dT ((B.kept++[(e,a)]).map fun p=>(p.1.key,V.ref p.2)));rw [Qm];rfl
 ·rcases Qq.mp hp with hp|hp
  ·exact sq (h.en p hp)
  ·have ep:p=(e,a):=by simpa using hp
   subst ep;exact sq ha
 ·exact (Zg (YD (h.ll q hq) h.bi (fun z=>by cases z))).trans ((Zg (YD (h.ll q hq) h.ke (fun z=>by cases z))).trans (h.ll q hq))
 ·exact (Zg (fun z=>at2.1 (Qg.mpr ⟨q,hq,z⟩))).trans ((Zg (YD (h.tt q hq) h.ke (fun z=>by cases z))).trans (h.tt q hq))
theorem ZmU {l:List (Ent×Addr)} (h:e.isBorn=false):Bk.bornD (l++[(e,a)])=Bk.bornD l:=by
 unfold Bk.bornD;rw [Rk];cases e with
 |born=>cases h
 |_=>simp [Ent.bornName]
theorem BkAt.sums {K:W.Frag} {k:Addr} (h:BkAt K C H b dx k bi li ti su B) (l:List ((Str×Str)×Int)) :
  BkAt K C (Zb H su (.dT (l.map fun q=>(Zr q.1,V.int q.2)))) b dx k bi li ti su { B with sums:=l }:=by
 obtain ⟨n1,n2,n3,n4,n5,n6⟩:=ZaF h.ap;have dk:∀{c:Addr} {z:List (Zi×V)},H c=some (.dK z)->c≠su:=fun e=>YD e h.su (fun z=>by cases z)
 exact ⟨(Zg (YD h.ob h.su (fun z=>by cases z))).trans h.ob,h.ap,h.at',(Zg n3).trans h.ke,(Zg (dk h.bi)).trans h.bi,(Zg n5).trans h.li,(Zg n6).trans h.ti,Ze,
  fun p hp=>YI (h.en p hp) h.su (fun _ z=>by cases z) (fun _ _ z=>by cases z),fun q hq=>(Zg (YD (h.ll q hq) h.su (fun z=>by cases z))).trans (h.ll q hq),fun q hq=>(Zg (dk (h.tt q hq))).trans (h.tt q hq)⟩
theorem Zko {l:List (Ent×Addr)} (h:ZD (l.map fun p=>(p.1.key,V.ref p.2)) (Ent.born n s d f m).key=none):Z3 n l=none:=by
 induction l with
 |nil=>rfl
 |cons p r ih =>
  unfold Z3;rw [Qs] at h;by_cases e:p.1.bornName=some n
  ·exfalso
   have ek:p.1.key=(Ent.born n s d f m).key:=by
    cases hp:p.1 with
    |born n' s' d' f' m' =>
     rw [hp] at e;cases (show n'=n from Ql e);rfl
    |_=>rw [hp] at e;cases e
   rw [Xf ek] at h;cases h
  ·rw [Qa e];by_cases ek:p.1.key=(Ent.born n s d f m).key
   ·rw [Xf ek] at h;cases h
   ·rw [Xd ek] at h;exact ih h
theorem Zik (h:Wb B e=none):ZD B.keptD e.told.key=none∧B.kept.length<400∧∀n∈e.named,Known B n:=by
 unfold Wb at h;by_cases f:B.full e=true
 ·rw [Qb f] at h;cases h
 rw [Qa f] at h;by_cases p:(e.named.all fun n=>(Z3 n B.kept).isSome)=false
 ·rw [Qb p] at h;cases h
 rw [Qa p] at h;by_cases t:(ZD B.keptD e.told.key).isSome=true
 ·rw [Qb t] at h;cases h
 refine ⟨by simpa using t,?_,fun n hn=>?_⟩
 ·unfold Bk.full at f;simp only [RH,GK,not_or] at f;omega
 ·have:=p;rw [Bool.not_eq_false] at this;rw [Rv] at this;have:=this n hn;unfold Known;exact N9.mp this
theorem ZhN (e:Ent) (n:Str):n∈e.told.named->n∈e.named:=by
 cases e with
 |union a b d =>
  show n∈[(Zd a b).1,(Zd a b).2]->n∈[a,b];unfold Zd;split<;>simp<;>(intro h;rcases h with h|h<;>simp [h])
 |parted a b d =>
  show n∈[(Zd a b).1,(Zd a b).2]->n∈[a,b];unfold Zd;split<;>simp<;>(intro h;rcases h with h|h<;>simp [h])
 |_=>exact id
theorem ZgQ (n:Str):∀(l m:List (Ent×Addr)),Z3 n (l++m)=(Z3 n l).or (Z3 n m)
 |[],m=>by simp [Z3]
 |p::r,m=>by
  show (if p.1.bornName=some n then some p else Z3 n (r++m))=(if p.1.bornName=some n then some p else Z3 n r).or (Z3 n m);by_cases e:p.1.bornName=some n
  ·rw [Qb e,Qb e];rfl
  ·rw [Qa e,Qa e];exact ZgQ n r m
theorem Known.more {l:List (Ent×Addr)} (h:Known B n) (e:B'.kept=B.kept++l):Known B' n:=by
 unfold Known at *;rw [e,ZgQ];cases hb:Z3 n B.kept with
 |none=>exact absurd hb h
 |some p=>simp
noncomputable def X7 (i:Int):Nat:=(97+i.fmod 26).toNat
theorem Zjd (i:Int):Wo (X7 i)=true:=by
 have h0:=QZ i (show (0:Int)<26 by decide);have h1:=Rb i (show (0:Int)<26 by decide);obtain ⟨m,hm,hl⟩:∃m:Nat,i.fmod 26=(m:Int)∧m<26:=⟨(i.fmod 26).toNat,by omega,by omega⟩;have e:X7 i=97+m:=by unfold X7;rw [hm];omega
 rw [e];have go:∀m:Fin 26,Wo (97+m.val)=true:=by trivial
 exact go ⟨m,hl⟩
theorem Zm3 {i j:Int} (h:X7 i=X7 j):i.fmod 26=j.fmod 26:=by
 have h0:=QZ i (show (0:Int)<26 by decide);have h1:=QZ j (show (0:Int)<26 by decide);unfold X7 at h;omega
theorem Zjs (a b:Int) (h:a.fmod 26=b.fmod 26):∃q,a-b=26*q:=by
 have e1:=Nq a 26;have e2:=Nq b 26;refine ⟨a.fdiv 26-b.fdiv 26,?_⟩;rw [Int.mul_sub];omega
theorem ZoR {ns:List Int} {k:Nat} (h:k<ns.length):(ns.map V.int)[k]?=some (V.int (ns.getD k 0)):=by
 simp [List.getD,Qw h,h]
theorem Zqb (i:Int):Ym Vt.cps.toList (i.fmod 26)=some (X7 i):=by
 have h0:=QZ i (show (0:Int)<26 by decide);have h1:=Rb i (show (0:Int)<26 by decide);obtain ⟨m,hm,hl⟩:∃m:Nat,i.fmod 26=(m:Int)∧m<26:=⟨(i.fmod 26).toNat,by omega,by omega⟩;have e:X7 i=97+m:=by unfold X7;rw [hm];omega
 rw [e,hm];have go:∀m:Fin 26,Vt.cps.toList[m.val]?=some (97+m.val):=by trivial
 exact Xq (go ⟨m,hl⟩)
theorem Uu (l:List Nat):(⟨l.toArray⟩:Str).length=l.length:=by
 show l.toArray.size=_;rw [Qz]
theorem ZhA (e:Same H H1) (n:H a=none):Same H (Zb H1 a o):=fun b u q=>by
 rw [Zg (ZV q n)];exact e b u q
noncomputable def X0 (bs:List (Ent×Addr)):List V:=bs.map fun p=>V.ref p.2
def JU (K:W.Frag) (H:Hp) (bs:List (Ent×Addr)):Prop:=∀p∈bs,SqT K H p.2 (p.1.row.map kV)
theorem ZbQ (h1:-10 ^ 18≤d) (h2:d≤10 ^ 18):ZbW (.int d)=true:=by
 show decide ((if d<0 then -d else d)≤10 ^ 18)=true;exact Qr (by split<;>omega)
theorem ZiB {x:Str} (h:x=""∨Nm x):JJ (.str x)=true:=by
 rcases h with h|h
 ·subst h;trivial
 ·unfold JJ;rw [h.ok];rfl
theorem ZqA (h:s="he"∨s="she"∨s=""):VU (.str s)=true:=by
 rcases h with h|h|h<;>subst h<;>trivial
theorem Uq {x:Str} (h:Nm x):x.length≤100:=Qi h.hi (by decide)
theorem ZmX (hn:Nm n) (hs:s="he"∨s="she"∨s="") (d1:-10 ^ 18≤d) (d2:d≤10 ^ 18) (hf:f=""∨Nm f) (hm:m=""∨Nm m):(Ent.born n s d f m).Ok:=by
 refine ⟨?_,fun x hx=>?_⟩
 ·show Vi [.str "born",.str n,.str s,.int d,.str f,.str m]=true;rw [JP,show WQ "born"=some [.name,.sort,.day,.parent,.parent] by rfl];show XZ _ _=true;unfold XZ ZU;simp [ZU,V8,hn.ok,ZqA hs,ZbQ d1 d2,ZiB hf,ZiB hm]
 ·have hf':f.length≤100:=hf.elim (fun h=>by subst h;trivial) Uq;have hm':m.length≤100:=hm.elim (fun h=>by subst h;trivial) Uq;have hs':s.length≤100:=by rcases hs with h|h|h<;>subst h<;>trivial
  simp only [Ent.row,Qh,QR,QS] at hx;rcases hx with h|h|h|h|h|h
  ·cases h;trivial
  ·cases h;exact Uq hn
  ·cases h;exact hs'
  ·cases h
  ·cases h;exact hf'
  ·cases h;exact hm'
theorem VP {w a b:Str} (hw:w="taken"∨w="union"∨w="parted") (ha:Nm a) (hb:Nm b) (d1:-10 ^ 18≤d) (d2:d≤10 ^ 18):Vi [.str w,.str a,.str b,.int d]=true:=by
 rw [JP];have:WQ w=some [.name,.name,.day]:=by rcases hw with h|h|h<;>subst h<;>rfl
 rw [this];show XZ _ _=true;unfold XZ;simp [ZU,V8,ha.ok,hb.ok,ZbQ d1 d2]
theorem V0 {w a b:Str} (hw:w.length≤100) (ha:Nm a) (hb:Nm b):∀x:Str,(.inr x:Zi)∈([.inr w,.inr a,.inr b,.inl d]:List Zi)->x.length≤100:=fun x hx=>by
 simp only [Qh,QR,QS] at hx;rcases hx with h|h|h|h
 ·cases h;exact hw
 ·cases h;exact Uq ha
 ·cases h;exact Uq hb
 ·cases h
theorem ZfQ {n s f m:Str} {d:Int}:∀{l:List (Ent×Addr)},Ent.born n s d f m∈l.map (·.1)->(∀{s' d' f' m'},Ent.born n s' d' f' m'∈l.map (·.1)->Ent.born n s' d' f' m'=.born n s d f m)->∃a,Z3 n l=some (.born n s d f m,a)
 |[],h,_=>by cases h
 |p::r,h,u=>by
  unfold Z3;by_cases e:p.1.bornName=some n
  ·rw [Qb e];cases hp:p.1 with
   |born n' s' d' f' m' =>
    rw [hp] at e;cases (show n'=n from Ql e);have:=u (s':=s') (d':=d') (f':=f') (m':=m') (by rw [Qs,hp];exact QB ..);refine ⟨p.2,?_⟩;rw [←this,←hp]
   |_=>rw [hp] at e;cases e
  ·rw [Qa e]
   have h':Ent.born n s d f m∈r.map (·.1):=by
    rw [Qs] at h;rcases Qh.mp h with h|h
    ·exfalso;rw [←h] at e;exact e rfl
    ·exact h
   exact ZfQ h' fun hm=>u (by rw [Qs];exact Qx _ hm)
abbrev ZN:=Str×Str->List Str
abbrev X5:=Str×Str->List (Int×Str)
noncomputable def UR (p:ZN×X5) (e:Ent):ZN×X5:=(W4 p.1 p.2 e,Ue p.2 e)
noncomputable def YF (es:List Ent):ZN×X5:=es.foldl UR (fun _=>[],fun _=>[])
theorem ZaA (es:List Ent) (e:Ent):YF (es++[e])=UR (YF es) e:=by
 unfold YF;rw [Nr];rfl
noncomputable def VD (n:Str):Ent->List Str
 |.born n' _ _ f _=>if n'=n∧f≠"" then [f] else []
 |_=>[]
noncomputable def VJ (n:Str):Ent->List Str
 |.born n' _ _ _ m=>if n'=n∧m≠"" then [m] else []
 |_=>[]
noncomputable def VH (n:Str):Ent->List Str
 |.born n' _ _ f _=>if f=n∧f≠"" then [n'] else []
 |_=>[]
noncomputable def VY (n:Str):Ent->List Str
 |.born n' _ _ _ m=>if m=n∧m≠"" then [n'] else []
 |_=>[]
noncomputable def V7 (n:Str):Ent->List Str
 |.taken c t _=>if c=n then [t] else []
 |_=>[]
noncomputable def VR (n:Str):Ent->List Str
 |.taken c t _=>if t=n then [c] else []
 |_=>[]
theorem Zh2 {l:List Str} (h:l.Pairwise fun a b=>YL a b=true):Zw l=l:=JD (Xp l) (U7 l) h
theorem ZiZ (l m:List Str):Zw (Zw l++m)=Zw (l++m) :=
 JD ((Xp _).trans (((Xp l).append_right m).trans (Xp _).symm)) (U7 _) (U7 _)
theorem Y0 (F:ZN) (l n l' n' m:Str):Z6 F (l,n) m (l',n')=if l'=l∧n'=n then Zw (F (l,n)++[m]) else F (l',n'):=by
 unfold Z6;by_cases h:l'=l∧n'=n
 ·obtain ⟨rfl,rfl⟩:=h;rw [Qb rfl,Qb ⟨rfl,rfl⟩]
 ·rw [Qa (fun e=>h (by injection e with a b;exact ⟨a,b⟩)),Qa h]
theorem Yj (F:ZN) (st:Bool) (x y l n:Str) (h:l≠"S"):ZM F st x y (l,n)=F (l,n):=by
 unfold ZM;rw [Qa (fun e=>h (by injection e))]
structure Adds (l:Str) (ad:Str->Ent->List Str):Prop where
 step:∀(F:ZN) (G:X5) (e:Ent) (n:Str),(F (l,n)).Pairwise (fun a b=>YL a b=true)->W4 F G e (l,n)=Zw (F (l,n)++ad n e)
theorem Z5 {l:List Str} (h:l.Pairwise fun a b=>YL a b=true):l=Zw (l++[]):=by rw [Qt,Zh2 h]
theorem Zac (F:ZN) (n f m l x:Str):XC F n f m (l,x) =
  if l="F"∧x=n∧f≠"" then Zw (F ("F",n)++[f]) else if l="f"∧x=f∧f≠"" then Zw (F ("f",f)++[n]) else
  if l="M"∧x=n∧m≠"" then Zw (F ("M",n)++[m]) else if l="m"∧x=m∧m≠"" then Zw (F ("m",m)++[n]) else F (l,x):=by
 have d1:("F" : Str)≠"f":=by trivial
 have d2:("F" : Str)≠"M":=by trivial
 have d3:("F" : Str)≠"m":=by trivial
 have d4:("f" : Str)≠"M":=by trivial
 have d5:("f" : Str)≠"m":=by trivial
 have d6:("M" : Str)≠"m":=by trivial
 unfold XC;by_cases f0:f=""<;>by_cases m0:m=""<;>simp only [f0,m0,Q7,Q6,Y0,ne_eq,not_true_eq_false,not_false_eq_true,and_false,and_true]
 ·by_cases h1:l="m"∧x=m
  ·obtain ⟨rfl,rfl⟩:=h1;simp [d3.symm,d5.symm,d6.symm,d6]
  ·by_cases h2:l="M"∧x=n
   ·obtain ⟨rfl,rfl⟩:=h2;simp [d6]
   ·simp [h1,h2]
 ·by_cases h1:l="f"∧x=f
  ·obtain ⟨rfl,rfl⟩:=h1;simp [d1,d1.symm]
  ·by_cases h2:l="F"∧x=n
   ·obtain ⟨rfl,rfl⟩:=h2;simp [d1]
   ·simp [h1,h2]
 ·by_cases h1:l="m"∧x=m
  ·obtain ⟨rfl,rfl⟩:=h1;simp [d3.symm,d5.symm,d6.symm,d6,d3,d5]
  ·by_cases h2:l="M"∧x=n
   ·obtain ⟨rfl,rfl⟩:=h2;simp [d6,d2,d4,d2.symm,d4.symm]
   ·by_cases h3:l="f"∧x=f
    ·obtain ⟨rfl,rfl⟩:=h3;simp [d1,d1.symm,d4,d5]
    ·by_cases h4:l="F"∧x=n
     ·obtain ⟨rfl,rfl⟩:=h4;simp [d1,d2,d3]
     ·simp [h1,h2,h3,h4]
theorem Zhl:Adds "F" VD:=⟨fun F G e n s=>by
 cases e with
 |born n' s' d f m =>
  show XC F n' f m ("F",n)=_;rw [Zac];dsimp only [VD];by_cases h:n'=n∧f≠""
  ·rw [Qb h,Qb ⟨rfl,h.1.symm,h.2⟩,h.1]
  ·rw [Qa h,Qa (fun z=>h ⟨z.2.1.symm,z.2.2⟩),Qa (fun z=>absurd z.1 (by trivial)),Qa (fun z=>absurd z.1 (by trivial)),Qa (fun z=>absurd z.1 (by trivial))];exact Z5 s
 |taken c t d=>show Z6 (Z6 F ("T",c) t) ("t",t) c ("F",n)=_;rw [Y0,Qa (fun z=>absurd z.1 (by trivial)),Y0,Qa (fun z=>absurd z.1 (by trivial))];exact Z5 s
 |union a b d=>show ZM _ _ _ _ _=_;rw [Yj _ _ _ _ _ _ (by trivial),Yj _ _ _ _ _ _ (by trivial)];exact Z5 s
 |parted a b d=>show ZM _ _ _ _ _=_;rw [Yj _ _ _ _ _ _ (by trivial),Yj _ _ _ _ _ _ (by trivial)];exact Z5 s
 |dead a d=>exact Z5 s
 |given a b am d=>exact Z5 s⟩
theorem ZhV:Adds "M" VJ:=⟨fun F G e n s=>by
 cases e with
 |born n' s' d f m =>
  show XC F n' f m ("M",n)=_;rw [Zac,Qa (fun z=>absurd z.1 (by trivial)),Qa (fun z=>absurd z.1 (by trivial))];dsimp only [VJ];by_cases h:n'=n∧m≠""
  ·rw [Qb h,Qb ⟨rfl,h.1.symm,h.2⟩,h.1]
  ·rw [Qa h,Qa (fun z=>h ⟨z.2.1.symm,z.2.2⟩),Qa (fun z=>absurd z.1 (by trivial))];exact Z5 s
 |taken c t d=>show Z6 (Z6 F ("T",c) t) ("t",t) c ("M",n)=_;rw [Y0,Qa (fun z=>absurd z.1 (by trivial)),Y0,Qa (fun z=>absurd z.1 (by trivial))];exact Z5 s
 |union a b d=>show ZM _ _ _ _ _=_;rw [Yj _ _ _ _ _ _ (by trivial),Yj _ _ _ _ _ _ (by trivial)];exact Z5 s
 |parted a b d=>show ZM _ _ _ _ _=_;rw [Yj _ _ _ _ _ _ (by trivial),Yj _ _ _ _ _ _ (by trivial)];exact Z5 s
 |dead a d=>exact Z5 s
 |given a b am d=>exact Z5 s⟩
theorem Zgj:Adds "f" VH:=⟨fun F G e n s=>by
 cases e with
 |born n' s' d f m =>
  show XC F n' f m ("f",n)=_;rw [Zac,Qa (fun z=>absurd z.1 (by trivial))];dsimp only [VH];by_cases h:f=n∧f≠""
  ·rw [Qb h,Qb ⟨rfl,h.1.symm,h.2⟩,h.1]
  ·rw [Qa h,Qa (fun z=>h ⟨z.2.1.symm,z.2.2⟩),Qa (fun z=>absurd z.1 (by trivial)),Qa (fun z=>absurd z.1 (by trivial))];exact Z5 s
 |taken c t d=>show Z6 (Z6 F ("T",c) t) ("t",t) c ("f",n)=_;rw [Y0,Qa (fun z=>absurd z.1 (by trivial)),Y0,Qa (fun z=>absurd z.1 (by trivial))];exact Z5 s
 |union a b d=>show ZM _ _ _ _ _=_;rw [Yj _ _ _ _ _ _ (by trivial),Yj _ _ _ _ _ _ (by trivial)];exact Z5 s
 |parted a b d=>show ZM _ _ _ _ _=_;rw [Yj _ _ _ _ _ _ (by trivial),Yj _ _ _ _ _ _ (by trivial)];exact Z5 s
 |dead a d=>exact Z5 s
 |given a b am d=>exact Z5 s⟩
theorem Zhw:Adds "m" VY:=⟨fun F G e n s=>by
 cases e with
 |born n' s' d f m =>
  show XC F n' f m ("m",n)=_;rw [Zac,Qa (fun z=>absurd z.1 (by trivial)),Qa (fun z=>absurd z.1 (by trivial)),Qa (fun z=>absurd z.1 (by trivial))];dsimp only [VY];by_cases h:m=n∧m≠""
  ·rw [Qb h,Qb ⟨rfl,h.1.symm,h.2⟩,h.1]
  ·rw [Qa h,Qa (fun z=>h ⟨z.2.1.symm,z.2.2⟩)];exact Z5 s
 |taken c t d=>show Z6 (Z6 F ("T",c) t) ("t",t) c ("m",n)=_;rw [Y0,Qa (fun z=>absurd z.1 (by trivial)),Y0,Qa (fun z=>absurd z.1 (by trivial))];exact Z5 s
 |union a b d=>show ZM _ _ _ _ _=_;rw [Yj _ _ _ _ _ _ (by trivial),Yj _ _ _ _ _ _ (by trivial)];exact Z5 s
 |parted a b d=>show ZM _ _ _ _ _=_;rw [Yj _ _ _ _ _ _ (by trivial),Yj _ _ _ _ _ _ (by trivial)];exact Z5 s
 |dead a d=>exact Z5 s
 |given a b am d=>exact Z5 s⟩
theorem Zah (F:ZN) (n f m l x:Str) (h1:l≠"F") (h2:l≠"f") (h3:l≠"M") (h4:l≠"m"):XC F n f m (l,x)=F (l,x):=by
 rw [Zac,Qa (fun z=>h1 z.1),Qa (fun z=>h2 z.1),Qa (fun z=>h3 z.1),Qa (fun z=>h4 z.1)]
theorem ZhI:Adds "T" V7:=⟨fun F G e n s=>by
 cases e with
 |born n' s' d f m=>show XC F n' f m ("T",n)=_;rw [Zah _ _ _ _ _ _ (by trivial) (by trivial) (by trivial) (by trivial)];exact Z5 s
 |taken c t d =>
  show Z6 (Z6 F ("T",c) t) ("t",t) c ("T",n)=_;rw [Y0,Qa (fun z=>absurd z.1 (by trivial)),Y0];dsimp only [V7];by_cases h:c=n
  ·rw [Qb h,Qb ⟨rfl,h.symm⟩,h]
  ·rw [Qa h,Qa (fun z=>h z.2.symm)];exact Z5 s
 |union a b d=>show ZM _ _ _ _ _=_;rw [Yj _ _ _ _ _ _ (by trivial),Yj _ _ _ _ _ _ (by trivial)];exact Z5 s
 |parted a b d=>show ZM _ _ _ _ _=_;rw [Yj _ _ _ _ _ _ (by trivial),Yj _ _ _ _ _ _ (by trivial)];exact Z5 s
 |dead a d=>exact Z5 s
 |given a b am d=>exact Z5 s⟩
theorem Ze9:Adds "t" VR:=⟨fun F G e n s=>by
 cases e with
 |born n' s' d f m=>show XC F n' f m ("t",n)=_;rw [Zah _ _ _ _ _ _ (by trivial) (by trivial) (by trivial) (by trivial)];exact Z5 s
 |taken c t d =>
  show Z6 (Z6 F ("T",c) t) ("t",t) c ("t",n)=_;rw [Y0];dsimp only [VR];by_cases h:t=n
  ·rw [Qb h,Qb ⟨rfl,h.symm⟩,Y0,Qa (fun z=>absurd z.1 (by trivial)),h]
  ·rw [Qa h,Qa (fun z=>h z.2.symm),Y0,Qa (fun z=>absurd z.1 (by trivial))];exact Z5 s
 |union a b d=>show ZM _ _ _ _ _=_;rw [Yj _ _ _ _ _ _ (by trivial),Yj _ _ _ _ _ _ (by trivial)];exact Z5 s
 |parted a b d=>show ZM _ _ _ _ _=_;rw [Yj _ _ _ _ _ _ (by trivial),Yj _ _ _ _ _ _ (by trivial)];exact Z5 s
 |dead a d=>exact Z5 s
 |given a b am d=>exact Z5 s⟩
theorem Adds.all {l:Str} {ad:Str->Ent->List Str} (A:Adds l ad) (n:Str):∀es:List Ent,(YF es).1 (l,n)=Zw (es.flatMap (ad n)):=by
 intro es
 have go:∀(es:List Ent) (p:ZN×X5) (xs:List Str),p.1 (l,n)=Zw xs->(es.foldl UR p).1 (l,n)=Zw (xs++es.flatMap (ad n)):=by
  intro es
  induction es with
  |nil=>intro p xs h;rw [List.flatMap_nil,Qt];exact h
  |cons e es ih =>
   intro p xs h;rw [RA,NO,←NK];refine ih _ (xs++ad n e) ?_;show W4 p.1 p.2 e (l,n)=_;rw [A.step p.1 p.2 e n (by rw [h];exact U7 _),h,ZiZ]
 exact go es _ [] (Zh2 .nil).symm
noncomputable def Ent.pr:Ent->Str×Str
 |.union a b _=>(a,b)
 |.parted a b _=>(a,b)
 |_=>("","")
noncomputable def Ent.kind:Ent->Str
 |.union ..=>"union"
 |.parted ..=>"parted"
 |_=>""
def Wq (e:Ent):Prop:=e.tie=true->e.pr.1≠e.pr.2
theorem ZdU {a b w:Str} (h:Zd n w=Zd a b):(n=a∧w=b)∨(n=b∧w=a):=by
 unfold Zd at h;split at h<;>split at h<;>injection h with h1 h2
 ·exact .inl ⟨h2,h1⟩
 ·exact .inr ⟨h2,h1⟩
 ·exact .inr ⟨h1,h2⟩
 ·exact .inl ⟨h1,h2⟩
noncomputable def WD (st:Bool) (L:List Str) (y:Str):List Str:=if st=true then Zw (L.filter (fun n=>decide (n≠y))++[y]) else L.filter fun n=>decide (n≠y)
theorem ZhG {L:List Str} (h:L.Pairwise fun a b=>YL a b=true):(WD st L y).Pairwise fun a b=>YL a b=true:=by
 unfold WD;split
 ·exact U7 _
 ·exact h.filter _
theorem ZfM {p:Str->Bool} {L:List Str} (h:L.Nodup):(L.filter p).Nodup:=List.Pairwise.filter p h
theorem Zg0 {L:List Str} (h:L.Nodup):(WD st L y).Nodup:=by
 unfold WD;split
 ·refine (Xp _).symm.nodup ?_;rw [QY];refine ⟨ZfM h,by simp,fun a ha b hb e=>?_⟩;have:b=y:=by simpa using hb
  subst this e;have:=(Q0.mp ha).2;simp at this
 ·exact ZfM h
theorem Zfl {L:List Str} {w:Str}:w∈WD st L y↔(w≠y∧w∈L)∨(w=y∧st=true):=by
 unfold WD;by_cases h:st=true
 ·rw [Qb h,(Xp _).mem_iff,Qq,Q0];simp [h,and_comm]
 ·rw [Qa h,Q0];simp [h,and_comm]
theorem ZdR (F:ZN) (st:Bool) (x y n:Str):ZM F st x y ("S",n)=if n=x then WD st (F ("S",x)) y else F ("S",n):=by
 unfold ZM WD;by_cases h:n=x
 ·subst h;rw [Qb rfl,Qb rfl]
 ·rw [Qa (fun e=>h (by injection e)),Qa h]
structure SOk (F:ZN) (G:X5):Prop where
 up:∀n,(F ("S",n)).Pairwise fun a b=>YL a b=true
 nd:∀n,(F ("S",n)).Nodup
 mem:∀n w,w∈F ("S",n)↔YR (G (Zd n w))=true
theorem ZhY {F:ZN} {G:X5} {a b:Str} (ne:a≠b) (h:SOk F G) (l:List (Int×Str)) :
  SOk (ZM (ZM F (YR l) a b) (YR l) b a) (fun c=>if c=Zd a b then l else G c):=by
 have e:∀n,ZM (ZM F (YR l) a b) (YR l) b a ("S",n)=if n=b then WD (YR l) (F ("S",b)) a else if n=a then WD (YR l) (F ("S",a)) b else F ("S",n):=fun n=>by
  rw [ZdR];by_cases h1:n=b
  ·rw [Qb h1,Qb h1,ZdR,Qa ne.symm]
  ·rw [Qa h1,Qa h1,ZdR]
 refine ⟨fun n=>?_,fun n=>?_,fun n w=>?_⟩
 ·rw [e];split
  ·exact ZhG (h.up _)
  ·split
   ·exact ZhG (h.up _)
   ·exact h.up _
 ·rw [e];split
  ·exact Zg0 (h.nd _)
  ·split
   ·exact Zg0 (h.nd _)
   ·exact h.nd _
 ·rw [e];show _↔YR (if Zd n w=Zd a b then l else G (Zd n w))=true;by_cases h1:n=b
  ·subst h1;rw [Qb rfl,Zfl];by_cases h2:w=a
   ·subst h2;rw [Qb (Zb6 n w)];simp
   ·rw [Qa (fun z=>(ZdU z).elim (fun e=>ne e.1.symm) fun e=>h2 e.2),←h.mem];simp [h2]
  ·rw [Qa h1];by_cases h3:n=a
   ·subst h3;rw [Qb rfl,Zfl];by_cases h2:w=b
    ·subst h2;rw [Qb rfl];simp
    ·rw [Qa (fun z=>(ZdU z).elim (fun e=>h2 e.2) fun e=>h1 e.1),←h.mem];simp [h2]
   ·rw [Qa h3,Qa (fun z=>(ZdU z).elim (fun e=>h3 e.1) fun e=>h1 e.1),←h.mem]
theorem SOk.same {F F':ZN} {G:X5} (h:SOk F G) (e:∀n,F' ("S",n)=F ("S",n)):SOk F' G:=⟨fun n=>by rw [e];exact h.up n,fun n=>by rw [e];exact h.nd n,fun n w=>by rw [e];exact h.mem n w⟩
theorem Zkj {F:ZN} {G:X5} (ap:Wq e) (h:SOk F G):SOk (W4 F G e) (Ue G e):=by
 cases e with
 |union a b d=>exact ZhY (ap rfl) h _
 |parted a b d=>exact ZhY (ap rfl) h _
 |born n s d f m=>exact h.same fun n'=>Zah _ _ _ _ _ _ (by trivial) (by trivial) (by trivial) (by trivial)
 |taken c t d =>
  refine h.same fun n'=>?_;show Z6 (Z6 F ("T",c) t) ("t",t) c ("S",n')=_;rw [Y0,Qa (fun z=>absurd z.1 (by trivial)),Y0,Qa (fun z=>absurd z.1 (by trivial))]
 |dead n d=>exact h.same fun n'=>rfl
 |given a b am d=>exact h.same fun n'=>rfl
theorem Zpp (h:∀e∈es,Wq e):SOk (YF es).1 (YF es).2:=by
 have go:∀(es:List Ent) (p:ZN×X5),(∀e∈es,Wq e)->SOk p.1 p.2->SOk (es.foldl UR p).1 (es.foldl UR p).2:=by
  intro es
  induction es with
  |nil=>intro p _ h;exact h
  |cons e es ih =>
   intro p ha h;exact ih _ (fun x hx=>ha x (Qx _ hx)) (Zkj (ha e (QB ..)) h)
 exact go es _ h ⟨fun n=>.nil,fun n=>.nil,fun n w=>by simp [YR]⟩
noncomputable def tl (c:Str×Str) (es:List Ent):List (Int×Str):=es.filterMap fun e=>if e.tie=true∧Zd e.pr.1 e.pr.2=c then some (e.day,e.kind) else none
theorem Zg3 {k:Str} (h:d∉l.map (·.1)):Zo l d k=l++[(d,k)]:=by
 unfold Zo;rw [Qa];intro z;rw [Gj] at z;obtain ⟨q,hq,e⟩:=z;exact h (Qg.mpr ⟨q,hq,QM e⟩)
theorem Zi7 {G:X5} (hG:∀c,G c=tl c es) (n:e.tie=true->e.day∉(tl (Zd e.pr.1 e.pr.2) es).map (·.1)) (c:Str×Str):Ue G e c=tl c (es++[e]):=by
 have ap:tl c (es++[e])=tl c es++tl c [e]:=by unfold tl;rw [Rk]
 rw [ap];cases e with
 |union a b d =>
  show (if c=Zd a b then Zo (G (Zd a b)) d "union" else G c)=_;by_cases h:c=Zd a b
  ·subst h;have n':d∉(tl (Zd a b) es).map (·.1):=n rfl;rw [Qb rfl,hG,Zg3 n'];simp [tl,Ent.tie,Ent.pr,Ent.day,Ent.kind]
  ·rw [Qa h,hG];simp [tl,Ent.tie,Ent.pr,Q2 h]
 |parted a b d =>
  show (if c=Zd a b then Zo (G (Zd a b)) d "parted" else G c)=_;by_cases h:c=Zd a b
  ·subst h;have n':d∉(tl (Zd a b) es).map (·.1):=n rfl;rw [Qb rfl,hG,Zg3 n'];simp [tl,Ent.tie,Ent.pr,Ent.day,Ent.kind]
  ·rw [Qa h,hG];simp [tl,Ent.tie,Ent.pr,Q2 h]
 |_=>rw [show Ue G _ c=G c from rfl,hG];simp [tl,Ent.tie]
def Once (es:List Ent):Prop:=∀c,((tl c es).map (·.1)).Nodup
theorem Once.init (h:Once (es++[e])):Once es∧(e.tie=true->e.day∉(tl (Zd e.pr.1 e.pr.2) es).map (·.1)):=by
 have ap:∀c,tl c (es++[e])=tl c es++tl c [e]:=fun c=>by unfold tl;rw [Rk]
 refine ⟨fun c=>?_,fun t m=>?_⟩
 ·have:=h c;rw [ap,Qm,QY] at this;exact this.1
 ·have:=h (Zd e.pr.1 e.pr.2);rw [ap,Qm,QY] at this;have e1:tl (Zd e.pr.1 e.pr.2) [e]=[(e.day,e.kind)]:=by simp [tl,t]
  rw [e1] at this;exact this.2.2 _ m _ (QB ..) rfl
theorem Ziy (h:Once es) (c:Str×Str):(YF es).2 c=tl c es:=by
 have go:∀n (es:List Ent),es.length=n->Once es->∀c,(YF es).2 c=tl c es:=by
  intro n
  induction n with
  |zero =>
   intro es hl _ c;rw [List.length_eq_zero_iff.mp hl];rfl
  |succ n ih =>
   intro es hl ho c;obtain ⟨xs,x,rfl⟩:∃xs x,es=xs++[x]:=⟨es.dropLast,es.getLast (by intro z;rw [z] at hl;cases hl),(NP _).symm⟩;obtain ⟨o1,o2⟩:=ho.init;rw [ZaA];exact Zi7 (ih xs (by rw [Qv] at hl;exact Nat.succ.inj hl) o1) o2 c
 exact go _ es rfl h c
noncomputable def WY (a b:Str) (last:Option Ent) (e:Ent):Option Ent:=if e.tie=true∧Zd e.pr.1 e.pr.2=Zd a b then (match last with|none=>some e|some l=>if l.day<e.day then some e else some l) else last
noncomputable def ZaK (ds:List Ent) (a b:Str):Bool:=match ds.foldl (WY a b) none with
 |some e=>decide (e.kind="union")
 |none=>false
def UJ (last:Option Ent) (l:List (Int×Str)):Prop:=match last with
 |none=>l=[]
 |some e=>(e.day,e.kind)∈l∧∀q∈l,q.1≤e.day
theorem ZiG {a b:Str} {last:Option Ent} {xs:List Ent} (h:UJ last (tl (Zd a b) xs)):UJ (WY a b last e) (tl (Zd a b) (xs++[e])):=by
 have ap:tl (Zd a b) (xs++[e])=tl (Zd a b) xs++tl (Zd a b) [e]:=by unfold tl;rw [Rk]
 rw [ap];unfold WY;by_cases c:e.tie=true∧Zd e.pr.1 e.pr.2=Zd a b
 ·rw [Qb c];have e1:tl (Zd a b) [e]=[(e.day,e.kind)]:=by unfold tl;simp [c.1,c.2]
  rw [e1];cases last with
  |none =>
   have h':tl (Zd a b) xs=[]:=h;rw [h'];exact ⟨QB ..,fun q hq=>by rw [show q=(e.day,e.kind) by simpa using hq];exact Ni _⟩
  |some l =>
   obtain ⟨h1,h2⟩:=(show (l.day,l.kind)∈tl (Zd a b) xs∧∀q∈tl (Zd a b) xs,q.1≤l.day from h);by_cases lt:l.day<e.day
   ·show UJ (if l.day<e.day then some e else some l) _;rw [Qb lt];refine ⟨by simp,fun q hq=>?_⟩;rcases Qq.mp hq with hq|hq
    ·have:=h2 q hq;show q.1≤e.day;omega
    ·rw [show q=(e.day,e.kind) by simpa using hq];exact Ni _
   ·show UJ (if l.day<e.day then some e else some l) _;rw [Qa lt];refine ⟨Qq.mpr (.inl h1),fun q hq=>?_⟩;rcases Qq.mp hq with hq|hq
    ·exact h2 q hq
    ·rw [show q=(e.day,e.kind) by simpa using hq];show e.day≤l.day;omega
 ·rw [Qa c];have e1:tl (Zd a b) [e]=[]:=by unfold tl;simp [c]
  rw [e1,Qt];exact h
theorem Zhe {a b:Str}:∀(ds xs:List Ent) (last:Option Ent),UJ last (tl (Zd a b) xs)->UJ (ds.foldl (WY a b) last) (tl (Zd a b) (xs++ds))
 |[],xs,last,h=>by rw [Qt];exact h
 |e::ds,xs,last,h=>by
  rw [RA,show xs++e::ds=(xs++[e])++ds by simp];exact Zhe ds (xs++[e]) _ (ZiG h)
theorem ZiR {m:Int} {k:Str}:(l.map (·.1)).Nodup->(m,k)∈l->ZF m l=some k:=by
 induction l with
 |nil=>intro _ h;cases h
 |cons q r ih =>
  intro n h;rw [Qs,QP] at n;unfold ZF;rcases Qh.mp h with h|h
  ·rw [Qb (by rw [←h]),←h]
  ·rw [Qa (fun z=>n.1 (Qg.mpr ⟨(m,k),h,z.symm⟩))];exact ih n.2 h
theorem ZkQ {ds:List Ent} (o:Once ds) (a b:Str):ZaK ds a b=YR (tl (Zd a b) ds):=by
 have h:=Zhe (a:=a) (b:=b) ds [] none rfl;rw [GE] at h;unfold ZaK;cases hl:ds.foldl (WY a b) none with
 |none =>
  rw [hl] at h;rw [show tl (Zd a b) ds=[] from h];rfl
 |some e =>
  rw [hl] at h;obtain ⟨h1,h2⟩:=(show (e.day,e.kind)∈tl (Zd a b) ds∧∀q∈tl (Zd a b) ds,q.1≤e.day from h)
  have:=Zis (l:=tl (Zd a b) ds) (m:=e.day) (x:=e.kind) (Qg.mpr ⟨_,h1,rfl⟩) (fun y hy=>by
   obtain ⟨q,hq,rfl⟩:=Qg.mp hy;exact h2 q hq) (ZiR (o _) h1)
  rw [this]
theorem Zky (e:Ent):e.told.tie=e.tie∧Zd e.told.pr.1 e.told.pr.2=Zd e.pr.1 e.pr.2∧e.told.day=e.day∧e.told.kind=e.kind:=by
 cases e with
 |union a b d=>exact ⟨rfl,Vg a b,rfl,rfl⟩
 |parted a b d=>exact ⟨rfl,Vg a b,rfl,rfl⟩
 |_=>exact ⟨rfl,rfl,rfl,rfl⟩
theorem Zlj (h:Wq e):Wq e.told:=fun t=>by
 obtain ⟨h1,h2,_,_⟩:=Zky e;rw [h1] at t;have ne:=h t;intro z;apply ne
 have:∀a b:Str,(Zd a b).1=(Zd a b).2->a=b:=fun a b h=>by
  unfold Zd at h;split at h
  ·exact h.symm
  ·exact h
 cases e with
 |union a b d=>exact this a b z
 |parted a b d=>exact this a b z
 |_=>cases t
theorem Zft {f:Ent->List Str} (h:∀e,(f e).length≤1):∀l:List Ent,(l.flatMap f).length≤l.length
 |[]=>Qe _
 |e::l=>by
  rw [NO,Qv,QG];have:=Zft h l;have:=h e;omega
theorem Ur (n:Str) (e:Ent):(VD n e).length≤1∧(VJ n e).length≤1∧(VH n e).length≤1∧(VY n e).length≤1∧(V7 n e).length≤1∧(VR n e).length≤1:=by
 cases e<;>simp only [VD,VJ,VH,VY,V7,VR]<;>refine ⟨?_,?_,?_,?_,?_,?_⟩<;>(try split)<;>simp
theorem ZpZ {l:Str} (h:l∉XY) (n:Str):(YF es).1 (l,n)=[]:=by
 have hh:l≠"F"∧l≠"M"∧l≠"T"∧l≠"f"∧l≠"m"∧l≠"t"∧l≠"S":=by simpa [XY] using h
 obtain ⟨h1,h2,h3,h4,h5,h6,h7⟩:=hh
 have go:∀(es:List Ent) (p:ZN×X5),p.1 (l,n)=[]->(es.foldl UR p).1 (l,n)=[]:=by
  intro es
  induction es with
  |nil=>intro p h;exact h
  |cons e es ih =>
   intro p h;rw [RA];refine ih _ ?_;show W4 p.1 p.2 e (l,n)=[];cases e with
   |born n' s d f m=>show XC p.1 n' f m (l,n)=[];rw [Zah _ _ _ _ _ _ h1 h4 h2 h5];exact h
   |taken c t d=>show Z6 (Z6 p.1 ("T",c) t) ("t",t) c (l,n)=[];rw [Y0,Qa (fun z=>h6 z.1),Y0,Qa (fun z=>h3 z.1)];exact h
   |union a b d=>show ZM _ _ _ _ _=[];rw [Yj _ _ _ _ _ _ h7,Yj _ _ _ _ _ _ h7];exact h
   |parted a b d=>show ZM _ _ _ _ _=[];rw [Yj _ _ _ _ _ _ h7,Yj _ _ _ _ _ _ h7];exact h
   |dead a d=>exact h
   |given a b am d=>exact h
 exact go es _ rfl
structure BSt (B:Bk) (es:List Ent):Prop where
 kept:B.kept.map (·.1)=es
 lks:lk B.links=(YF es).1
 tis:Y8 B.ties=(YF es).2
 nd:(B.ties.map (·.1)).Nodup
 nl:B.links.length≤4*es.length
 nt:B.ties.length≤es.length
 ns:B.sums.length≤es.length
theorem BSt.start:BSt VO []:=⟨rfl,rfl,rfl,.nil,Qe _,Qe _,Qe _⟩
theorem BSt.put (h:BSt B es) (p:Put B e B'):BSt B' (es++[e.told]):=by
 obtain ⟨a,hk⟩:=p.kept;have l1:(es++[e.told]).length=es.length+1:=by rw [Qv];rfl
 have n1:=p.nl;have n2:=p.nt;have n3:=p.ns;have m1:=h.nl;have m2:=h.nt;have m3:=h.ns;refine ⟨by rw [hk,Qm,h.kept];rfl,?_,?_,p.nd,by omega,by omega,by omega⟩
 ·funext c
  rw [ZaA,p.lks,h.lks,h.tis];rfl
 ·funext c
  rw [ZaA,p.tis,h.tis];rfl
theorem Zjv (c:Str×Str) (es:List Ent):(tl c es).length≤es.length:=Gf ..
theorem Zf3 {κ:Type} [DecidableEq κ] {k:κ}:∀{l:List (κ×V)},(∀p∈l,p.1≠k)->ZD l k=none
 |[],_=>rfl
 |p::l,h=>by
  rw [Xd (h p (QB ..))];exact Zf3 fun q hq=>h q (Qx _ hq)
theorem ZpI (hk:B.kept.map (·.1)=es) {k:List Zi} (h:∀e∈es,e.key≠k):ZD B.keptD k=none:=by
 refine Zf3 fun p hp=>?_;obtain ⟨q,hq,rfl⟩:=Qg.mp hp;exact h q.1 (by rw [←hk];exact Qg.mpr ⟨q,hq,rfl⟩)
theorem ZbR (hk:B.kept.map (·.1)=es):B.kept.length=es.length:=by rw [←hk,Qd]
theorem Zg1 {bs:List (Ent×Addr)} {y:V} (h:(X0 bs)[i]?=some y):∃p,bs[i]?=some p∧y=.ref p.2:=by
 unfold X0 at h;rw [Qp] at h;obtain ⟨p,hp,e⟩:=QN.mp h;exact ⟨p,hp,e.symm⟩
theorem Zar (bs:List (Ent×Addr)):(X0 bs).length=bs.length:=by unfold X0;rw [Qd]
theorem Zkb {ds:List (Ent×Addr)} (h:ds[i]?=some p):ds.take (i+1)=ds.take i++[p]:=by
 rw [Q8,h];rfl
theorem ZfO {bs:List (Ent×Addr)} (h:bs[i]?=some p):(bs.take (i+1)).map (·.1)=(bs.take i).map (·.1)++[p.1]:=by
 rw [Zkb h,Qm];rfl
theorem Znn (l:List (Ent×Addr)):(Bk.bornD l).length=(Z2 l).length:=by rw [Zhr,Qd,←ZiA,Qd]
theorem Zlu (hn:Nm n) (d1:-10 ^ 18≤d) (d2:d≤10 ^ 18):(Ent.dead n d).Ok:=by
 refine ⟨?_,fun y hy=>?_⟩
 ·show Vi [.str "dead",.str n,.int d]=true;rw [JP,show WQ "dead"=some [.name,.day] by rfl];show XZ _ _=true;unfold XZ;simp [ZU,V8,hn.ok,ZbQ d1 d2]
 ·simp only [Ent.row,Qh,QR,QS] at hy;rcases hy with h|h|h
  ·cases h;trivial
  ·cases h;exact Uq hn
  ·cases h
noncomputable def amt (c:Str×Str):Ent->Int
 |.given g t am _=>if c=(g,t) then am else 0
 |_=>0
noncomputable def Zaa (c:Str×Str) (es:List Ent):Int:=(es.map (amt c)).sum
theorem Zpj (c:Str×Str) (es:List Ent) (e:Ent):Zaa c (es++[e])=Zaa c es+amt c e:=by
 unfold Zaa;rw [Qm,List.sum_append];simp
theorem ZgU {a b:Str} (ne:a≠b) (c:Str×Str):(ZM (ZM F st a b) st b a c).length≤(F c).length+1:=by
 by_cases e:c=(("S",b):Str×Str)
 ·refine Qi (Zdr ..) ?_
  have:ZM F st a b c=F c:=by
   unfold ZM;rw [Qa];intro z;rw [e] at z;injection z with _ z2;exact ne z2.symm
  rw [this];exact Qe _
 ·have:ZM (ZM F st a b) st b a c=ZM F st a b c:=by
   show (if c=(("S",b):Str×Str) then _ else ZM F st a b c)=_;rw [Qa e]
  rw [this];exact Zdr ..
def D5 (pool:List Str) (e:Ent):Prop:=e.Ok∧(∀n∈e.named,n∈pool)∧∀n,e.bornName=some n->n∈pool
noncomputable def LBk (ks:List (Ent×Addr)):Bk:=⟨ks,[],[],[]⟩
structure KsOk (ks:List (Ent×Addr)):Prop where
 told:∀p∈ks,p.1.told=p.1
 nd:(Z2 ks).Nodup
 len:ks.length≤60
theorem ZlG {k:List Zi}:∀{l m:List (Ent×Addr)},l.map (·.1)=m.map (·.1)->(ZD (l.map fun p=>(p.1.key,V.ref p.2)) k).isSome=(ZD (m.map fun p=>(p.1.key,V.ref p.2)) k).isSome:=by
 intro l
 induction l with
 |nil=>intro m h;cases m with
  |nil=>rfl
  |cons q m=>cases h
 |cons p l ih=>intro m h;cases m with
  |nil=>cases h
  |cons q m =>
   have h1:p.1=q.1:=(GI h).1;have h2:=(GI h).2;rw [Qs,Qs];by_cases c:p.1.key=k
   ·rw [Xf (show (p.1.key,V.ref p.2).1=k from c),Xf (show q.1.key=k by rw [←h1];exact c)];rfl
   ·rw [Xd (show ¬(p.1.key,V.ref p.2).1=k from c),Xd (show ¬q.1.key=k by rw [←h1];exact c)];exact ih h2
theorem Zpy {k:List Zi}:∀{ks:List (Ent×Addr)},(∃p∈ks,p.1.key=k)->(ZD (LBk ks).keptD k).isSome=true:=by
 intro ks
 induction ks with
 |nil=>rintro ⟨p,hp,_⟩;cases hp
 |cons q ks ih =>
  rintro ⟨p,hp,e⟩;show (ZD ((q.1.key,V.ref q.2)::(LBk ks).keptD) k).isSome=true;by_cases c:q.1.key=k
  ·rw [Xf (show (q.1.key,V.ref q.2).1=k from c)];rfl
  ·rw [Xd (show ¬(q.1.key,V.ref q.2).1=k from c)];rcases Qh.mp hp with rfl|hp
   ·exact absurd e c
   ·exact ih ⟨p,hp,e⟩
theorem Znj:∀{es:List Ent},(∀e∈es,Wq e)->∀n,((YF es).1 ("S",n)).length≤es.length:=by
 have go:∀k (es:List Ent),es.length=k->(∀e∈es,Wq e)->∀n,((YF es).1 ("S",n)).length≤es.length:=by
  intro k
  induction k with
  |zero =>
   intro es h _ n;have:es=[]:=N1 h;subst this;exact Qe _
  |succ k ih =>
   intro es h ap n;have ne:es≠[]:=fun z=>by rw [z] at h;cases h
   obtain ⟨xs,e,rfl⟩:∃xs e,es=xs++[e]:=⟨_,_,(NP ne).symm⟩;have lx:xs.length=k:=by rw [Qv] at h;exact Nat.succ.inj h
   have ih:=ih xs lx (fun x hx=>ap x (Qq.mpr (.inl hx))) n;have ae:=ap e (Qq.mpr (.inr (QT.mpr rfl)));rw [ZaA,Qv]
   have key:(W4 (YF xs).1 (YF xs).2 e ("S",n)).length≤((YF xs).1 ("S",n)).length+1:=by
    cases e with
    |born n' s d f m =>
     show (XC (YF xs).1 n' f m ("S",n)).length≤_;rw [Zah _ _ _ _ _ _ (by trivial) (by trivial) (by trivial) (by trivial)];exact QW _
    |taken c t d =>
     show (Z6 (Z6 (YF xs).1 ("T",c) t) ("t",t) c ("S",n)).length≤_;rw [Y0,Qa (fun z=>absurd z.1 (by trivial)),Y0,Qa (fun z=>absurd z.1 (by trivial))];exact QW _
    |union a b d=>exact ZgU (ae rfl) _
    |parted a b d=>exact ZgU (ae rfl) _
    |dead a d=>exact QW _
    |given a b am d=>exact QW _
   show (W4 (YF xs).1 (YF xs).2 e ("S",n)).length≤xs.length+1;omega
 intro es h n;exact go es.length es rfl h n
theorem Zos (h:∀e∈es,Wq e) (c:Str×Str):((YF es).1 c).length≤es.length:=by
 obtain ⟨l,n⟩:=c
 have six:∀{ad:Str->Ent->List Str},Adds l ad->(∀e,(ad n e).length≤1)->((YF es).1 (l,n)).length≤es.length:=fun A h1=>by
  rw [A.all,(Xp _).length_eq];exact Zft h1 es
 by_cases hl:l∈XY
 ·simp only [XY,Qh,QR,QS] at hl;rcases hl with rfl|rfl|rfl|rfl|rfl|rfl|rfl
  ·exact six Zhl fun e=>(Ur n e).1
  ·exact six ZhV fun e=>(Ur n e).2.1
  ·exact six ZhI fun e=>(Ur n e).2.2.2.2.1
  ·exact six Zgj fun e=>(Ur n e).2.2.1
  ·exact six Zhw fun e=>(Ur n e).2.2.2.1
  ·exact six Ze9 fun e=>(Ur n e).2.2.2.2.2
  ·exact Znj h n
 ·rw [ZpZ hl];exact QL _
theorem ZmG {ds:List Ent} (h:(ds.map fun e=>e.told.key).Nodup):Once ds:=by
 intro c
 have go:∀ds:List Ent,(ds.map fun e=>e.told.key).Nodup->((tl c ds).map (·.1)).Nodup:=by
  intro ds
  induction ds with
  |nil=>intro _;exact .nil
  |cons e ds ih =>
   intro n;rw [Qs,QP] at n;have ih:=ih n.2;unfold tl at ih ⊢;rw [Q4];by_cases cc:e.tie=true∧Zd e.pr.1 e.pr.2=c
   ·rw [Qb cc];show (_::_).Nodup;rw [QP];refine ⟨fun m=>?_,ih⟩;obtain ⟨q,hq,eq⟩:=Qg.mp m;obtain ⟨x,hx,ex⟩:=Rg.mp hq;by_cases c2:x.tie=true∧Zd x.pr.1 x.pr.2=c
    ·rw [Qb c2] at ex;have:=Ql ex;subst this;refine n.1 (Qg.mpr ⟨x,hx,?_⟩)
     have kk:∀y:Ent,y.tie=true->y.told.key=[.inr "tie",.inr (Zd y.pr.1 y.pr.2).1,.inr (Zd y.pr.1 y.pr.2).2,.inl y.day]:=fun y hy=>by
      cases y with
      |union=>rfl
      |parted=>rfl
      |_=>cases hy
     rw [kk x c2.1,kk e cc.1,c2.2,cc.2,show x.day=e.day from eq]
    ·rw [Qa c2] at ex;cases ex
   ·rw [Qa cc];exact ih
 exact go ds h
structure LI5 (pool:List Str) (B:Bk) (ks:List (Ent×Addr)):Prop where
 st:BSt B (ks.map (·.1))
 sus:∀c,Xh B.sums c=Zaa c (ks.map (·.1))
 told:∀p∈ks,p.1.told=p.1
 keys:(ks.map fun p=>p.1.told.key).Nodup
 inp:∀p∈ks,∀n,p.1.bornName=some n->n∈pool
 ap:∀p∈ks,Wq p.1
theorem LI5.start (pool:List Str):LI5 pool VO []:=⟨BSt.start,fun _=>rfl,fun p hp=>(by cases hp),.nil,fun p hp=>(by cases hp),fun p hp=>(by cases hp)⟩
theorem LI5.ap' (h:LI5 pool B ks):∀e∈ks.map (·.1),Wq e:=fun e he=>by
 obtain ⟨p,hp,rfl⟩:=Qg.mp he;exact h.ap p hp
theorem LI5.once (h:LI5 pool B ks):Once (ks.map (·.1)):=by
 refine ZmG ?_;rw [QH];exact h.keys
theorem LI5.room (h:LI5 pool B ks) (l:ks.length≤60):Room1 B:=by
 have e:(ks.map (·.1)).length=ks.length:=Qd ..;have m1:=h.st.nl;have m2:=h.st.nt;have m3:=h.st.ns;refine ⟨h.st.nd,by omega,by omega,by omega,fun c=>?_,fun c=>?_⟩
 ·rw [h.st.lks];exact Qi (Zos h.ap' c) (by omega)
 ·rw [h.st.tis,Ziy h.once];exact Qi (Zjv c _) (by omega)
theorem Zpx (e:Ent):e.told.bornName=e.bornName:=by cases e<;>rfl
theorem ZlC (h:Ws B e=true):Wq e:=fun t=>by
 cases e with
 |union a b d =>
  intro z;rw [Za6 rfl,show (Ent.union a b d).same=true from Qr (show a=b from z)] at h;cases h
 |parted a b d =>
  intro z;rw [Za6 rfl,show (Ent.parted a b d).same=true from Qr (show a=b from z)] at h;cases h
 |_=>cases t
theorem ZgK (h:Wb B e=none):B.kept.length<400∧(e.isBorn=true->(Bk.bornD B.kept).length<60)∧(∀n∈e.named,Known B n)∧ZD B.keptD e.told.key=none∧Ws B e=true:=by
 obtain ⟨h1,h2,h3⟩:=Zik h;unfold Wb at h;by_cases f:B.full e=true
 ·rw [Qb f] at h;cases h
 ·rw [Qa f,Qa (by rw [ZgP h3];decide),Qa (by rw [h1];decide)] at h;refine ⟨h2,fun b=>?_,h3,h1,?_⟩
  ·unfold Bk.full at f;rw [b,GL,RH,not_or] at f;have:=f.2;rw [GK] at this;omega
  ·cases hf:Ws B e with
   |true=>rfl
   |false=>rw [hf,Qa (by decide)] at h;cases h
theorem LI5.put (h:LI5 pool B ks) (p:Put B e B') (d:D5 pool e) (no:Wb B e=none) (a:Addr):LI5 pool B' (ks++[(e.told,a)]):=by
 obtain ⟨_,_,_,hv,hf⟩:=ZgK no;have st:=h.st.put p;have em:(ks++[(e.told,a)]).map (·.1)=ks.map (·.1)++[e.told]:=by rw [Qm];rfl
 rw [←em] at st;have one:∀q∈ks++[(e.told,a)],q∈ks∨q=(e.told,a):=fun q hq=>(Qq.mp hq).imp id (fun z=>by simpa using z);refine ⟨st,fun c=>?_,fun q hq=>?_,?_,fun q hq n hn=>?_,fun q hq=>?_⟩
 ·rw [p.su c,em,Zpj];generalize e.told=e' at *;cases e' with
  |given x y am d =>
   show (if c=(x,y) then Xh B.sums c+am else Xh B.sums c)=Zaa c _+(if c=(x,y) then am else 0);rw [h.sus];split<;>simp
  |_=>rw [show Za2 (Xh B.sums) _ c=Xh B.sums c from rfl,h.sus];exact (Int.add_zero _).symm
 ·rcases one q hq with hq|rfl
  ·exact h.told q hq
  ·exact Zbj e
 ·rw [Qm,QY];refine ⟨h.keys,by simp,fun x hx y hy z=>?_⟩;have hy':y=e.told.told.key:=by simpa using hy
  obtain ⟨q,hq,rfl⟩:=Qg.mp hx;have kn:(ZD (LBk ks).keptD e.told.key).isSome=true:=Zpy ⟨q,hq,by rw [h.told q hq] at z;rw [z,hy',Zbj]⟩;have kv:(ZD B.keptD e.told.key).isSome=(ZD (LBk ks).keptD e.told.key).isSome:=ZlG (l:=B.kept) (m:=ks) h.st.kept;rw [kn,hv] at kv;cases kv
 ·rcases one q hq with hq|rfl
  ·exact h.inp q hq n hn
  ·exact d.2.2 n (by rw [←Zpx];exact hn)
 ·rcases one q hq with hq|rfl
  ·exact h.ap q hq
  ·exact Zlj (ZlC hf)
theorem ZmR {l m:List Str} (h:l.Nodup) (s:∀x∈l,x∈m):l.length≤m.length:=by
 induction l generalizing m with
 |nil=>exact QL _
 |cons a l ih =>
  have hn:=QP.mp h;have am:=s a (QB ..);have:=ih (m:=m.erase a) hn.2 fun x hx=>(List.mem_erase_of_ne (fun z=>hn.1 (by rw [←z];exact hx))).mpr (s x (Qx _ hx));rw [List.length_erase_of_mem am] at this;have:=List.length_pos_of_mem am;rw [QG];omega
theorem LI5.names (h:LI5 pool B ks):(Z2 ks).Nodup∧∀n∈Z2 ks,n∈pool:=by
 refine ⟨?_,fun n hn=>?_⟩
 ·have k:=h.keys;clear h
  induction ks with
  |nil=>exact .nil
  |cons p ks ih =>
   have kn:=QP.mp (show (p.1.told.key::ks.map fun p=>p.1.told.key).Nodup from k);have ih:=ih kn.2;unfold Z2 at ih ⊢;rw [Q4];cases hb:p.1.bornName with
   |none=>exact ih
   |some n =>
    refine QP.mpr ⟨fun hm=>?_,ih⟩;obtain ⟨q,hq,eq⟩:=Rg.mp hm;refine kn.1 (Qg.mpr ⟨q,hq,?_⟩)
    have bk:∀e:Ent,e.bornName=some n->e.told.key=[.inr "born",.inr n]:=fun e he=>by
     cases e with
     |born n' s d f m=>cases he;rfl
     |_=>cases he
    rw [bk _ eq,bk _ hb]
 ·obtain ⟨q,hq,eq⟩:=Rg.mp hn;exact h.inp q hq n eq
theorem LI5.ksok (h:LI5 pool B ks) (l:ks.length≤60) (p33:pool.length≤33):KsOk ks∧(Z2 ks).length<60:=by
 obtain ⟨n1,n2⟩:=h.names;exact ⟨⟨h.told,n1,l⟩,Gc (ZmR n1 n2) (by omega)⟩
structure Fit (xs:List Ent) (e:Ent):Prop where
 kn:∀n∈e.named,∃s d f m,Ent.born n s d f m∈xs∧d≤e.day
 key:∀x∈xs,x.key≠e.told.key
 par:∀n s d f m,e=.born n s d f m->(f=""∨∃d' f' m',Ent.born f "he" d' f' m'∈xs∧d'<d)∧(m=""∨∃d' f' m',Ent.born m "she" d' f' m'∈xs∧d'<d)
 tk:∀c t d,e=.taken c t d->∀sc dc fc mc st dt ft mt,Ent.born c sc dc fc mc∈xs->Ent.born t st dt ft mt∈xs->dt<dc
 ap:e.same=false
def BU (xs:List Ent):Prop:=∀{n s d f m s' d' f' m'},Ent.born n s d f m∈xs->Ent.born n s' d' f' m'∈xs->Ent.born n s d f m=.born n s' d' f' m'
theorem UC {xs:List Ent} (h:B.kept.map (·.1)=xs) (u:BU xs) (hm:Ent.born n s d f m∈xs):Known B n∧Wu B n=s∧ZX B n=d:=by
 obtain ⟨a,ha⟩:=ZfQ (l:=B.kept) (by rw [h];exact hm) fun {s' d' f' m'} hm'=>by
  rw [h] at hm';exact u hm' hm
 exact ⟨by unfold Known;rw [ha];simp,ZaY ha rfl,U3 ha rfl⟩
theorem ZmO {xs:List Ent} (h:B.kept.map (·.1)=xs) (u:BU xs) (l:xs.length<400) (b:e.isBorn=true->(Z2 B.kept).length<60) (f:Fit xs e):Wb B e=none:=by
 have kl:=ZbR h;refine ZnR ?_ (fun n hn=>?_) ?_ ?_
 ·unfold Bk.full;rw [Qk (show ¬400≤B.kept.length by omega),Znn];cases hb:e.isBorn with
  |false=>rfl
  |true=>rw [Qk (show ¬60≤(Z2 B.kept).length by have:=b hb;omega)];rfl
 ·obtain ⟨s,d,f',m,h1,_⟩:=f.kn n hn;exact (UC h u h1).1
 ·rw [ZpI h f.key];rfl
 ·cases hi:e.isBorn with
  |true =>
   cases e with
   |born n s d fa mo =>
    obtain ⟨p1,p2⟩:=f.par n s d fa mo rfl
    have one:∀{x so:Str},(x=""∨∃d' f' m',Ent.born x so d' f' m'∈xs∧d'<d)->XT B x so d=true:=fun {x so} hx=>by
     unfold XT;rcases hx with rfl|⟨d',f',m',h1,h2⟩
     ·rfl
     ·obtain ⟨_,e1,e2⟩:=UC h u h1;rw [e1,e2,Qr rfl,Qr h2,GL,Bool.or_true]
    show (XT B fa "he" d&&XT B mo "she" d)=true;rw [one p1,one p2];rfl
   |_=>cases hi
  |false =>
   rw [Za6 hi,f.ap]
   have he:e.early B=false:=by
    cases e with
    |taken c t d =>
     obtain ⟨sc,dc,fc,mc,h1,_⟩:=f.kn c (by simp [Ent.named]);obtain ⟨st,dt,ft,mt,h2,_⟩:=f.kn t (by simp [Ent.named]);have h3:=f.tk c t d rfl _ _ _ _ _ _ _ _ h1 h2;show decide (ZX B c≤ZX B t)=false;rw [(UC h u h1).2.2,(UC h u h2).2.2];exact Qk (by omega)
    |_=>rfl
   rw [he];show (e.named.all fun n=>decide (ZX B n≤e.day))=true;rw [Rv];intro n hn;obtain ⟨s,d,f',m,h1,h2⟩:=f.kn n hn;rw [(UC h u h1).2.2];exact Qr h2
inductive GdL (pool:List Str):List Ent->Prop
 |nil:GdL pool []
 |snoc {es:List Ent} {e:Ent} (h:GdL pool es) (d:D5 pool e) (d':D5 pool e.told) (f:Fit (es.map Ent.told) e):GdL pool (es++[e])
theorem GdL.last {l:List Ent} (h:GdL pool l) {xs:List Ent} (el:l=xs++[e]):GdL pool xs∧D5 pool e∧D5 pool e.told∧Fit (xs.map Ent.told) e:=by
 cases h with
 |nil=>simp at el
 |snoc h d d' f =>
  obtain ⟨e1,e2⟩:=List.append_inj' el rfl;obtain ⟨e3,_⟩:=GI e2;subst e1 e3;exact ⟨h,d,d',f⟩
theorem GdL.take {l:List Ent} (h:GdL pool l):∀i,GdL pool (l.take i):=by
 induction h with
 |nil=>intro i;rw [List.take_nil];exact .nil
 |@snoc xs e h d d' f ih =>
  intro i;by_cases il:i≤xs.length
  ·rw [List.take_append_of_le_length il];exact ih i
  ·rw [List.take_of_length_le (by rw [Qv];show _+1≤_;omega)];exact .snoc h d d' f
theorem GdL.bu {l:List Ent} (h:GdL pool l):BU (l.map Ent.told):=by
 induction h with
 |nil=>intro n s d f m s' d' f' m' h1;cases h1
 |@snoc xs e h d5 d5' f ih =>
  intro n s d fa m s' d' f' m' h1 h2;rw [Qm] at h1 h2;have kb:∀{x:Ent} {n s f m:Str} {d:Int},x=.born n s d f m->x.key=[.inr "born",.inr n]:=fun z=>by rw [z];rfl
  rcases Qq.mp h1 with h1|h1<;>rcases Qq.mp h2 with h2|h2
  ·exact ih h1 h2
  ·have e2:=QT.mp h2;exact absurd (by rw [←e2];rfl) (f.key _ h1)
  ·have e1:=QT.mp h1;exact absurd (by rw [←e1];rfl) (f.key _ h2)
  ·rw [QT.mp h1,QT.mp h2]
theorem GdL.d5 {l:List Ent} (h:GdL pool l):∀e∈l,D5 pool e:=by
 induction h with
 |nil=>intro e he;cases he
 |snoc h d5 d' f ih =>
  intro e he;rcases Qq.mp he with he|he
  ·exact ih e he
  ·rw [QT.mp he];exact d5
theorem LI5.put' (h:LI5 pool B B.kept) (p:Put B e B') (d:D5 pool e) (no:Wb B e=none):LI5 pool B' B'.kept∧B'.kept.map (·.1)=B.kept.map (·.1)++[e.told]:=by
 obtain ⟨a,ha⟩:=p.kept;have z:=h.put p d no a;rw [←ha] at z;exact ⟨z,by rw [ha,Qm];rfl⟩
theorem GdL.ref (li:LI5 pool B B.kept) (hk:B.kept.map (·.1)=es.map Ent.told) (g:GdL pool (es++[e])) (l:B.kept.length≤60) (p33:pool.length≤33):Wb B e=none∧D5 pool e∧Room1 B:=by
 obtain ⟨g0,d5,_,f⟩:=g.last rfl;have kl:=ZbR hk;refine ⟨ZmO hk g0.bu (by rw [←kl];omega) (fun _=>(li.ksok l p33).2) f,d5,li.room l⟩
theorem XO {l:List Str} (h:(l.map V.str)[i]?=some v):∃x,l[i]?=some x∧v=.str x:=by
 rw [Qp] at h;obtain ⟨x,hx,rfl⟩:=QN.mp h;exact ⟨x,hx,rfl⟩
theorem Zcp {x:Str} (h:x.cps.toList=y.cps.toList):x=y:=by
 obtain ⟨a⟩:=x;obtain ⟨b⟩:=y;have:a=b:=Rx.mp h;rw [this]
theorem Zkg (L:List Nat) {k:Nat} (h:k≤L.length):Txt.slice ⟨L.toArray⟩ none (some (k:Int))=⟨(L.take k).toArray⟩:=by
 have hl:k≤(⟨L.toArray⟩:Str).length:=by rw [Uu];exact h
 have e:Txt.slice ⟨L.toArray⟩ none (some (k:Int))=StrLaws.sliceText ⟨L.toArray⟩ (some ((0:Nat):Int)) (some (k:Int)):=by
  show StrLaws.sliceText _ none (some (k:Int))=_;unfold StrLaws.sliceText;rw [StrLaws.sliceIdx_none_lo];rfl
 rw [e,StrLaws.sliceText_nat _ (QL _) hl];refine Zcp ?_;simp
theorem Zew {a b:Str} (ha:Nm a) (hb:Nm b) (d1:-10 ^ 18≤d) (d2:d≤10 ^ 18):(Ent.taken a b d).Ok∧(Ent.union a b d).Ok∧(Ent.union a b d).told.Ok∧(Ent.parted a b d).Ok∧(Ent.parted a b d).told.Ok:=by
 refine ⟨⟨VP (.inl rfl) ha hb d1 d2,V0 (by trivial) ha hb⟩,⟨VP (.inr (.inl rfl)) ha hb d1 d2,V0 (by trivial) ha hb⟩,?_,⟨VP (.inr (.inr rfl)) ha hb d1 d2,V0 (by trivial) ha hb⟩,?_⟩
 ·show (Ent.union (Zd a b).1 (Zd a b).2 d).Ok;unfold Zd;split
  ·exact ⟨VP (.inr (.inl rfl)) hb ha d1 d2,V0 (by trivial) hb ha⟩
  ·exact ⟨VP (.inr (.inl rfl)) ha hb d1 d2,V0 (by trivial) ha hb⟩
 ·show (Ent.parted (Zd a b).1 (Zd a b).2 d).Ok;unfold Zd;split
  ·exact ⟨VP (.inr (.inr rfl)) hb ha d1 d2,V0 (by trivial) hb ha⟩
  ·exact ⟨VP (.inr (.inr rfl)) ha hb d1 d2,V0 (by trivial) ha hb⟩
theorem GdL.known {l:List Ent} (g:GdL pool l):∀e∈l,∀n∈e.named,∃s d f m,Ent.born n s d f m∈l.map Ent.told:=by
 induction g with
 |nil=>intro e he;cases he
 |@snoc xs e g d d' f ih =>
  intro x hx n hn;rw [Qm];rcases Qq.mp hx with hx|hx
  ·obtain ⟨s,d,f,m,h⟩:=ih x hx n hn;exact ⟨s,d,f,m,Qq.mpr (.inl h)⟩
  ·rw [QT.mp hx] at hn;obtain ⟨s,d,f,m,h,_⟩:=f.kn n hn;exact ⟨s,d,f,m,Qq.mpr (.inl h)⟩
noncomputable def Yg:List Str:=["F","M","T","f","m","t","S","he","she"]
noncomputable def Vr (x:Str):Bool:=decide (x∈(["he","she"]:List Str))
noncomputable def YE (B:Bk) (s n:Str):List Str:=if Vr s=true then (if Wu B n=s then [n] else []) else Yy B s n
def YV (L:Str->Str->List Str):List Str->(Str->Prop)->Str->Prop
 |[],P=>P
 |s::w,P=>YV L w fun x=>∃y,P y∧x∈L s y
theorem Zey (L:Str->Str->List Str) (s:Str):∀(w:List Str) (P:Str->Prop),YV L (w++[s]) P=fun x=>∃y,YV L w P y∧x∈L s y
 |[],_=>rfl
 |t::w,P=>Zey L s w _
theorem Zhu {L L':Str->Str->List Str} {R:Str->Prop} (h:∀s∈Yg,∀y,R y->∀x,x∈L s y↔x∈L' s y) (cl:∀s∈Yg,∀y,R y->∀x∈L s y,R x):∀{w:List Str} {P:Str->Prop},(∀s∈w,s∈Yg)->(∀x,P x->R x)->∀x,YV L w P x↔YV L' w P x
 |[],_,_,_,_=>Iff.rfl
 |s::w,P,hw,hP,x=>by
  have hs:=hw s (QB ..);have e:(fun x=>∃y,P y∧x∈L s y)=fun x=>∃y,P y∧x∈L' s y:=funext fun x=>propext ⟨fun ⟨y,p,m⟩=>⟨y,p,(h s hs y (hP y p) x).mp m⟩,fun ⟨y,p,m⟩=>⟨y,p,(h s hs y (hP y p) x).mpr m⟩⟩;show YV L w _ x↔YV L' w _ x;rw [←e];exact Zhu h cl (fun t ht=>hw t (Qx _ ht)) (fun x ⟨y,p,m⟩=>cl s hs y (hP y p) x m) x
theorem Us {L:Str->Str->List Str} {R:Str->Prop} (cl:∀s∈Yg,∀y,R y->∀x∈L s y,R x):∀{w:List Str} {P:Str->Prop},(∀s∈w,s∈Yg)->(∀x,P x->R x)->∀x,YV L w P x->R x
 |[],_,_,hP,x,h=>hP x h
 |s::w,P,hw,hP,x,h=>Us cl (fun t ht=>hw t (Qx _ ht)) (fun x ⟨y,p,m⟩=>cl s (hw s (QB ..)) y (hP y p) x m) x h
theorem ZlS {l m:List Str} (h1:l.Nodup) (h2:m.Nodup) (h:∀x,x∈l↔x∈m):l.Perm m:=(List.perm_ext_iff_of_nodup h1 h2).mpr h
structure SrtOf (P:Str->Prop) (xs:List Str):Prop where
 up:xs.Pairwise fun a b=>YL a b=true
 nd:xs.Nodup
 mem:∀x,x∈xs↔P x
theorem SrtOf.eq {P Q:Str->Prop} {ys:List Str} (h1:SrtOf P xs) (h2:SrtOf Q ys) (h:∀x,P x↔Q x):xs=ys :=
 JD (ZlS h1.nd h2.nd fun x=>(h1.mem x).trans ((h x).trans (h2.mem x).symm)) h1.up h2.up
structure Clo (B:Bk) (pool:List Str):Prop where
 led:∀s∈Yg,∀n,Known B n->∀x∈YE B s n,Known B x
 inp:∀n,Known B n->n∈pool
 few:pool.length≤60
theorem W1 (h:xs.Nodup) (s:∀x∈xs,x∈pool):xs.length≤pool.length:=List.Nodup.length_le_of_subset h s
noncomputable abbrev Y7 (l:List (Str×V)):List (Zi×V):=l.map fun p=>(.inr p.1,p.2)
theorem Zhp {κ α:Type} [DecidableEq κ] (l:List (κ×α)) (c:κ) (x:α):(Zo l c x).map (·.1)=if c∈l.map (·.1) then l.map (·.1) else l.map (·.1)++[c]:=by
 unfold Zo;by_cases h:c∈l.map (·.1)
 ·have ha:(l.any fun q=>decide (q.1=c))=true:=by
   obtain ⟨q,hq,e⟩:=Qg.mp h;exact Gj.mpr ⟨q,hq,Qr e⟩
  rw [Qb ha,Qb h,QH];refine R1 fun q _=>?_;show (if q.1=c then (q.1,x) else q).1=q.1;split<;>rfl
 ·have ha:¬(l.any fun q=>decide (q.1=c))=true:=fun z=>by
   obtain ⟨q,hq,e⟩:=Gj.mp z;exact h (Qg.mpr ⟨q,hq,QM e⟩)
  rw [Qa ha,Qa h,Qm];rfl
theorem Zdv (l:List (Str×V)) (c:Str) (v:V):Yh (Y7 l) (.inr c) v=Y7 (Zo l c v):=UZ (f:=fun s:Str=>(.inr s:Zi)) (fun a b h=>by injection h) id l c v
theorem Zbq {κ α:Type} [DecidableEq κ] {l:List (κ×α)} {c:κ} {x:α} (h:(l.map (·.1)).Nodup):((Zo l c x).map (·.1)).Nodup:=by
 rw [Zhp];split
 ·exact h
 ·rename_i n;exact QY.mpr ⟨h,by simp,fun a ha b hb=>by rw [show b=c by simpa using hb];exact fun e=>n (e▸ha)⟩
theorem ZcE {κ α:Type} [DecidableEq κ] {l:List (κ×α)} {c:κ} {x:α} (y:κ):y∈(Zo l c x).map (·.1)↔y∈l.map (·.1)∨y=c:=by
 rw [Zhp];split
 ·rename_i h;exact ⟨.inl,fun z=>z.elim id fun e=>e▸h⟩
 ·rw [Qq,QT]
theorem Zbz (l:List (Str×V)):(Y7 l).length=(l.map (·.1)).length:=by rw [Qd,Qd]
theorem Zp7 (h:Z3 n B.kept=some p) (e:p.1=.born n' s d f m):Wu B n=s:=ZaY h e
structure N14 (ns:List Str):Prop where
 len:ns.length=24
 nm:∀n∈ns,Nm n
 nd:ns.Nodup
 nz:("zzzzzzzz" : Str)∉ns
theorem Xu {z:Int} (h0:-10 ^ 60≤z) (h:z≤10 ^ 60):z.natAbs<2 ^ 1000:=Gc (show z.natAbs≤10 ^ 60 by omega) (by trivial)
theorem YT {j:Int} (h:j≠0):j≠0:=h
noncomputable def WI (c:Int) (j:Nat):Int:=((c.fdiv 36).fdiv ((j:Int)+1)+5*(j:Int)).fmod 26
noncomputable def XG (c:Int) (p k n:Nat):List Nat:=(List.range n).map fun j:Nat=>X7 (WI c j+(k:Int)*(if j=p then 1 else 0))
noncomputable def WT (c:Int) (n p k:Nat):Str:=⟨(XG c p k n++[97,98].take (k % 3)).toArray⟩
theorem ZpM (c:Int) (p k n:Nat):XG c p k (n+1)=XG c p k n++[X7 (WI c n+(k:Int)*(if n=p then 1 else 0))]:=by
 unfold XG;rw [List.range_succ,Qm];rfl
theorem VC (c:Int) (p k n:Nat):(XG c p k n).length=n:=by unfold XG;rw [Qd,Gk]
theorem ZlE (L:List Nat) (x:Nat):(⟨L.toArray⟩:Str)++⟨#[x]⟩=⟨(L++[x]).toArray⟩:=by
 refine Zcp ?_;show (L.toArray++#[x]).toList=(L++[x]).toArray.toList;simp
theorem Zmx (L M:List Nat):(⟨L.toArray⟩:Str)++⟨M.toArray⟩=⟨(L++M).toArray⟩:=by
 refine Zcp ?_;show (L.toArray++M.toArray).toList=(L++M).toArray.toList;simp
theorem Zgo (k:Nat):Txt.slice "ab" none (some (((k:Int).fmod 3:Int)))=⟨([97,98].take (k % 3)).toArray⟩:=by
 have e:(k:Int).fmod 3=((k % 3:Nat):Int):=by rw [Int.fmod_eq_emod_of_nonneg _ (by decide)];rfl
 rw [e];exact Zkg [97,98] (show k % 3≤2 by omega)
theorem Zi8 {c:Int} {n p:Nat} (h1:1≤n) (h6:n≤6) (hp:p<n):N14 ((List.range 24).map (WT c n p)) where
 len:=by rw [Qd,Gk]
 nm:=fun x hx=>by
  obtain ⟨k,_,rfl⟩:=Qg.mp hx
  have hl:(WT c n p k).length=n+min (k % 3) 2:=by
   unfold WT;rw [Uu,Qv,VC,QV];rfl
  refine ⟨by omega,by omega,?_⟩;show (XG c p k n++[97,98].take (k % 3)).toArray.toList.all Wo=true;rw [List.toList_toArray,List.all_append,Ri];refine ⟨Rv.mpr fun y hy=>?_,Rv.mpr fun y hy=>?_⟩
  ·unfold XG at hy;obtain ⟨j,_,rfl⟩:=Qg.mp hy;exact Zjd _
  ·have:y∈[97,98]:=Rz hy;simp only [Qh,QR,QS] at this;rcases this with rfl|rfl<;>trivial
 nd:=by
  refine (List.nodup_iff_pairwise_ne.mpr ?_);rw [GM];refine List.Pairwise.imp_of_mem (R:=fun a b=>a<b) (fun {a b} ha hb hab e=>?_) List.pairwise_lt_range;have a24:=Nu.mp ha;have b24:=Nu.mp hb
  have g:∀k,(XG c p k n++[97,98].take (k % 3))[p]?=some (X7 (WI c p+(k:Int))):=fun k=>by
   rw [RF (by rw [VC];exact hp)];unfold XG;rw [Qp,NQ hp];simp
  have e':(XG c p a n++[97,98].take (a % 3))[p]?=(XG c p b n++[97,98].take (b % 3))[p]?:=by
   have:=Qj (fun s:Str=>s.cps.toList[p]?) e;simpa [WT] using this
  rw [g,g] at e';obtain ⟨w,hw⟩:=Zjs _ _ (Zm3 (Ql e'));omega
 nz:=fun hz=>by
  obtain ⟨k,_,e⟩:=Qg.mp hz
  have hl:(WT c n p k).length=n+min (k % 3) 2:=by
   unfold WT;rw [Uu,Qv,VC,QV];rfl
  rw [e] at hl;have h8:("zzzzzzzz" : Str).length=8:=by trivial
  have k2:k % 3=2:=by omega
  have n6:n=6:=by omega
  have:=Qj (fun s:Str=>s.cps.toList[7]?) e
  have g:(WT c n p k).cps.toList[7]?=some 98:=by
   show ((XG c p k n++[97,98].take (k % 3)).toArray.toList)[7]?=_;rw [List.toList_toArray,RE (by rw [VC];omega),VC,k2,n6];rfl
  have z:("zzzzzzzz" : Str).cps.toList[7]?=some 122:=by trivial
  have t:(WT c n p k).cps.toList[7]?=("zzzzzzzz" : Str).cps.toList[7]?:=this;rw [g,z] at t;cases t
abbrev Pp:=Str×Addr×Str×Int
noncomputable abbrev X2 (ps:List Pp):List (Zi×V):=ps.map fun p=>(.inr p.1,.ref p.2.1)
structure PpAt (K:W.Frag) (H:Hp) (D:Addr) (ps:List Pp):Prop where
 d:H D=some (.dK (X2 ps))
 t:∀p∈ps,SqT K H p.2.1 [.str p.2.2.1,.int p.2.2.2]
 nd:(ps.map (·.1)).Nodup
theorem PpAt.mono {K:W.Frag} (h:PpAt K H D ps) (s:Same H H'):PpAt K H' D ps:=⟨s _ _ h.d,fun p hp=>s.sqt (h.t p hp),h.nd⟩
theorem Zbx {κ α:Type} [DecidableEq κ] {f:α->κ} {g:α->V}:∀{l:List α} {p:α},(l.map f).Nodup->p∈l->ZD (l.map fun p=>(f p,g p)) (f p)=some (g p)
 |[],_,_,h=>by cases h
 |a::l,p,nd,h=>by
  obtain ⟨n1,n2⟩:=QP.mp nd;unfold ZD;rw [Qs,Ru];by_cases e:f a=f p
  ·have:p=a:=by
    rcases Qh.mp h with rfl|h
    ·rfl
    ·exact absurd (e▸RB h) n1
   subst this;simp
  ·have hp:p∈l:=by
    rcases Qh.mp h with rfl|h
    ·exact absurd rfl e
    ·exact h
   simp only [e,decide_false];exact Zbx n2 hp
theorem Zjw {κ α:Type} [DecidableEq κ] {f:α->κ} {g:α->V} {l:List α} {k:κ} (h:k∉l.map f):ZD (l.map fun p=>(f p,g p)) k=none:=by
 unfold ZD;rw [No.mpr fun x hx=>?_]
 ·rfl
 ·obtain ⟨p,hp,rfl⟩:=Qg.mp hx;intro z;exact h (by rw [←QM z];exact RB hp)
theorem ZpP (h:(ps.map (·.1)).Nodup):(ps.map fun p=>(.inr p.1:Zi)).Nodup:=by
 rw [show (fun p:Pp=>(.inr p.1:Zi))=(fun s:Str=>(.inr s:Zi))∘(fun p:Pp=>p.1) from rfl,←QH];exact h.map _ fun a b n e=>n (Re e)
theorem PpAt.get (nd:(ps.map (·.1)).Nodup) (h:Rd H D (.dK (X2 ps))) {p:Pp} (hp:p∈ps):DGet H D (.str p.1) (some (.ref p.2.1)) :=
 .inl ⟨_,.inr p.1,h,rfl,(Zbx (f:=fun p:Pp=>(.inr p.1:Zi)) (g:=fun p:Pp=>V.ref p.2.1) (ZpP nd) hp).symm⟩
theorem ZjC {d:Addr} {o:Obj} (h:H d=some (.dK kvs)) (s:Same (Zb H d (.frz o (.dK kvs))) H'):Same H (Zb H' d (.dK kvs)):=fun a u e=>by
 by_cases z:a=d
 ·subst z;rw [Ze,←e,h]
 ·rw [Zg z];exact s a u (by rw [Zg z];exact e)
theorem ZlH {K:W.Frag} {o:Obj} {xs:List V} (h:H D=some (.dK kvs)) (q:SqT K H a xs):SqT K (Zb H D (.frz o (.dK kvs))) a xs:=YI q h (fun _ z=>by cases z) (fun _ _ z=>by cases z)
noncomputable def J7 (d:Int) (p:Pp):Option V:=if p.2.2.2<d then some (.str p.1) else none
theorem ZhW (d:Int):∀ps:List Pp,(ps.map (J7 d)).filterMap id=((ps.filter fun p=>decide (p.2.2.2<d)).map (·.1)).map V.str
 |[]=>rfl
 |p::ps=>by
  have ih:=ZhW d ps;rw [Qs,Q4,R0];unfold J7 at ih ⊢;by_cases h:p.2.2.2<d
  ·rw [Qb h,Qr h];simp only [id,Q7,Qs];rw [ih]
  ·rw [Qa h,Qk h];simp only [id];exact ih
noncomputable def Va (s:Str) (p:Pp):Option V:=if p.2.2.1=s then some (.str p.1) else none
theorem Zdy (s:Str):∀ps:List Pp,(ps.map (Va s)).filterMap id=((ps.filter fun p=>decide (p.2.2.1=s)).map (·.1)).map V.str
 |[]=>rfl
 |p::ps=>by
  have ih:=Zdy s ps;rw [Qs,Q4,R0];unfold Va at ih ⊢;by_cases h:p.2.2.1=s
  ·rw [Qb h,Qr h];simp only [id,Q7,Qs];rw [ih]
  ·rw [Qa h,Qk h];simp only [id];exact ih
def X8 (ps:List Pp) (s:Str) (d:Int) (f:Str):Prop:=f=""∨∃p∈ps,p.1=f∧p.2.2.1=s∧p.2.2.2<d
theorem Jf {α:Type} (g:α->V) (xs:List α) (h:0<xs.length) (z:Int):∃x∈xs,Ym (xs.map g) (z.fmod ((xs.map g).length:Int))=some (g x):=by
 have e:((xs.map g).length:Int)=(xs.length:Int):=by rw [Qd]
 rw [e];have h0:=QZ z (show (0:Int)<xs.length by omega);have h1:=Rb z (show (0:Int)<xs.length by omega);obtain ⟨j,hj⟩:∃j:Nat,z.fmod (xs.length:Int)=(j:Int):=⟨(z.fmod (xs.length:Int)).toNat,by omega⟩;have jl:j<xs.length:=by omega
 refine ⟨xs[j],Nj jl,?_⟩;rw [hj];exact Xq (by rw [Qp,Qw jl];rfl)
noncomputable def hs5:List Str:=["he","she","he","she",""]
theorem ZlL (z:Int):∃s:Str,(s="he"∨s="she"∨s="")∧Ym [V.str "he",V.str "she",V.str "he",V.str "she",V.str ""] (z.fmod 5)=some (V.str s):=by
 obtain ⟨s,hs,e⟩:=Jf V.str hs5 (by decide) z;refine ⟨s,?_,e⟩;simp only [hs5,Qh,QR,QS] at hs;rcases hs with h|h|h|h|h
 ·exact .inl h
 ·exact .inr (.inl h)
 ·exact .inl h
 ·exact .inr (.inl h)
 ·exact .inr (.inr h)
theorem Zfh {b:TS} {D:Ends} (h:b D (σ.set i (some v)) H):Jg (Zdo (tC v) (Z7 i)) b D σ H:=h
structure DeedF (ps:List Pp) (e:Ent):Prop where
 nb:e.isBorn=false
 kn:∀n∈e.named,∃p∈ps,p.1=n∧p.2.2.2≤e.day
 tk:∀c t d,e=.taken c t d->∀pc∈ps,∀pt∈ps,pc.1=c->pt.1=t->pt.2.2.2<pc.2.2.2
 ap:e.same=false
 lo:-10 ^ 18≤e.day
 hi:e.day≤10 ^ 18
 sort:(e.tie=true∨∃c t d,e=.taken c t d)∨∃n d,e=.dead n d
noncomputable abbrev Vm (kn:List (List Zi)):List (List Zi×V):=kn.map fun k=>(k,.bl true)
def Zg8 (ps:List Pp) (kn:List (List Zi)):Prop:=∀k∈kn,∃e,k=e.told.key∧DeedF ps e
theorem Zj3 (nd:(ps.map (·.1)).Nodup) (h2:2≤ps.length) (c:Int):∃p∈ps,∃q∈ps,p.1≠q.1∧Ym ((ps.map (·.1)).map V.str) (c.fmod (((ps.map (·.1)).map V.str).length:Int))=some (.str p.1) ∧
  Ym ((ps.map (·.1)).map V.str) ((c+1+(c.fdiv 24).fmod ((((ps.map (·.1)).map V.str).length:Int)-1)).fmod (((ps.map (·.1)).map V.str).length:Int))=some (.str q.1):=by
 have el:(((ps.map (·.1)).map V.str).length:Int)=(ps.length:Int):=by rw [Qd,Qd]
 rw [el];obtain ⟨n,hn⟩:∃n:Int,n=(ps.length:Int):=⟨_,rfl⟩;rw [←hn];have n2:2≤n:=by omega
 have i0:=QZ c (show (0:Int)<n by omega);have i1:=Rb c (show (0:Int)<n by omega);have r0:=QZ (c.fdiv 24) (show (0:Int)<n-1 by omega);have r1:=Rb (c.fdiv 24) (show (0:Int)<n-1 by omega);generalize (c.fdiv 24).fmod (n-1)=r at *;have j0:=QZ (c+1+r) (show (0:Int)<n by omega);have j1:=Rb (c+1+r) (show (0:Int)<n by omega)
 have ne:c.fmod n≠(c+1+r).fmod n:=fun e=>by
  have d1:=Nq c n;have d2:=Nq (c+1+r) n;rw [←e] at d2;have d3:n*(c+1+r).fdiv n-n*c.fdiv n=1+r:=by omega
  rw [←Int.mul_sub] at d3;generalize (c+1+r).fdiv n-c.fdiv n=w at *;have:w≤0∨1≤w:=by omega
  rcases this with hw|hw
  ·have:=Ma hw (show 0≤n by omega);omega
  ·have:=Ma hw (show 0≤n by omega);omega
 obtain ⟨i,hi⟩:∃i:Nat,c.fmod n=(i:Int):=⟨(c.fmod n).toNat,by omega⟩;obtain ⟨j,hj⟩:∃j:Nat,(c+1+r).fmod n=(j:Int):=⟨((c+1+r).fmod n).toNat,by omega⟩;have il:i<ps.length:=by omega
 have jl:j<ps.length:=by omega
 have at':∀{k:Nat} (h:k<ps.length),Ym ((ps.map (·.1)).map V.str) (k:Int)=some (.str ps[k].1):=fun {k} h=>Xq (by rw [Qp,Qp,Qw h];rfl);refine ⟨ps[i],Nj il,ps[j],Nj jl,fun e=>?_,by rw [hi];exact at' il,by rw [hj];exact at' jl⟩;have:i=j:=(GP (h₀:=by rw [Qd];exact il) (h₁:=by rw [Qd];exact jl) nd).mp (by rw [Gm,Gm];exact e);omega
structure TwoOk (ps:List Pp) (p q:Pp) (day:Int):Prop where
 ip:p∈ps
 iq:q∈ps
 ne:p.1≠q.1
 lp:p.2.2.2≤day
 lq:q.2.2.2≤day
 lo:-10 ^ 18≤day
 hi:day≤10 ^ 18
theorem TwoOk.swap {p q:Pp} {day:Int} (h:TwoOk ps p q day):TwoOk ps q p day:=⟨h.iq,h.ip,h.ne.symm,h.lq,h.lp,h.lo,h.hi⟩
theorem TwoOk.tie {p q:Pp} {day:Int} (h:TwoOk ps p q day) (b:Bool):DeedF ps (if b=true then .parted p.1 q.1 day else .union p.1 q.1 day):=by
 cases b with
 |false => exact ⟨rfl, fun n hn => by
   have:n=p.1∨n=q.1:=by simpa [Ent.named] using hn
   rcases this with rfl|rfl
   ·exact ⟨p,h.ip,rfl,h.lp⟩
   ·exact ⟨q,h.iq,rfl,h.lq⟩,fun _ _ _ z=>(by cases z),Qk h.ne,h.lo,h.hi,.inl (.inl rfl)⟩
 |true => exact ⟨rfl, fun n hn => by
   have:n=p.1∨n=q.1:=by simpa [Ent.named] using hn
   rcases this with rfl|rfl
   ·exact ⟨p,h.ip,rfl,h.lp⟩
   ·exact ⟨q,h.iq,rfl,h.lq⟩,fun _ _ _ z=>(by cases z),Qk h.ne,h.lo,h.hi,.inl (.inl rfl)⟩
theorem Zau (nd:(ps.map (·.1)).Nodup) {p q:Pp} (hp:p∈ps) (hq:q∈ps) (e:p.1=q.1):p=q:=by
 obtain ⟨i,hi,rfl⟩:=Gi hp;obtain ⟨j,hj,rfl⟩:=Gi hq;have:i=j:=(GP (h₀:=by rw [Qd];exact hi) (h₁:=by rw [Qd];exact hj) nd).mp (by rw [Gm,Gm];exact e);subst this;rfl
theorem TwoOk.taken {p q:Pp} {day:Int} (nd:(ps.map (·.1)).Nodup) (h:TwoOk ps p q day) (lt:q.2.2.2<p.2.2.2):DeedF ps (.taken p.1 q.1 day) :=
 ⟨rfl, fun n hn => by
   have:n=p.1∨n=q.1:=by simpa [Ent.named] using hn
   rcases this with rfl|rfl
   ·exact ⟨p,h.ip,rfl,h.lp⟩
   ·exact ⟨q,h.iq,rfl,h.lq⟩,fun c t d z pc hpc pt hpt e1 e2=>by
  cases z;rw [Zau nd hpc h.ip e1,Zau nd hpt h.iq e2];exact lt,Qk h.ne,h.lo,h.hi,.inl (.inr ⟨_,_,_,rfl⟩)⟩
theorem Znf (b:Bool) (x y:Str) (d:Int):(if b=true then Ent.parted x y d else .union x y d).told.key=[.inr "tie",.inr (Zd x y).1,.inr (Zd x y).2,.inl d]:=by cases b<;>rfl
theorem Zmm (b:Bool) (x y:Str) (d:Int):(if b=true then Ent.parted x y d else .union x y d).row=[.inr (if b=true then "parted" else "union"),.inr x,.inr y,.inl d]:=by cases b<;>rfl
theorem Znt (b:Bool):Ym [V.str "union",V.str "parted"] (if b=true then 1 else 0)=some (.str (if b=true then "parted" else "union")):=by cases b<;>rfl
theorem Zjj {k:List Zi} (h:k∈kn):(ZD (Vm kn) k).isSome=true:=by
 unfold ZD;cases e:(Vm kn).find? fun kv=>decide (kv.1=k) with
 |none=>exact absurd (No.mp e (k,.bl true) (Qg.mpr ⟨k,h,rfl⟩)) (by simp)
 |some x=>rfl
theorem Zhm {k:List Zi} (h:k∉kn):ZD (Vm kn) k=none:=by
 unfold ZD;rw [No.mpr fun x hx=>?_]
 ·rfl
 ·obtain ⟨k',hk',rfl⟩:=Qg.mp hx;intro z;exact h (by rw [←QM z];exact hk')
noncomputable def ZcR:Ent->Option (Str×Str×Int)
 |.born n s d _ _=>some (n,s,d)
 |_=>none
structure EI (ns:List Str) (es:List Ent) (ps:List Pp) (kn:List (List Zi)):Prop where
 good:GdL ns es
 born:es.filterMap ZcR=ps.map fun p=>(p.1,p.2.2)
 nm:ps.map (·.1)=ns.take ps.length
 len:ps.length≤24
 keys:∀e∈es,e.isBorn=false->e.told.key∈kn
 ok:Zg8 ps kn
 pd:∀p∈ps,-10 ^ 18≤p.2.2.2∧p.2.2.2≤10 ^ 18
 knl:kn.length≤es.length
theorem EI.start:EI ns [] [] []:=⟨.nil,rfl,rfl,QL _,fun e h=>(by cases h),fun k h=>(by cases h),fun p h=>(by cases h),Qe _⟩
theorem ZfL:(n,s,d)∈es.filterMap ZcR↔∃f m,Ent.born n s d f m∈es:=by
 constructor
 ·intro h;obtain ⟨e,he,eb⟩:=Rg.mp h;cases e with
  |born n' s' d' f m=>cases eb;exact ⟨f,m,he⟩
  |_=>cases eb
 ·rintro ⟨f,m,h⟩;exact Rg.mpr ⟨_,h,rfl⟩
theorem EI.of_ps (h:EI ns es ps kn) {p:Pp} (hp:p∈ps):∃f m,Ent.born p.1 p.2.2.1 p.2.2.2 f m∈es:=by
 refine ZfL.mp ?_;rw [h.born];exact Qg.mpr ⟨p,hp,rfl⟩
theorem EI.to_ps (h:EI ns es ps kn) (hb:Ent.born n s d f m∈es):∃p∈ps,p.1=n∧p.2.2=(s,d):=by
 have:=ZfL.mpr ⟨f,m,hb⟩;rw [h.born] at this;obtain ⟨p,hp,e⟩:=Qg.mp this;exact ⟨p,hp,Qj (·.1) e,Qj (·.2) e⟩
theorem EI.nd (h:EI ns es ps kn) (N:N14 ns):(ps.map (·.1)).Nodup:=by rw [h.nm];exact N.nd.sublist (RQ ..)
theorem EI.mem (h:EI ns es ps kn) {p:Pp} (hp:p∈ps):p.1∈ns:=by
 have:p.1∈ps.map (·.1):=RB hp;rw [h.nm] at this;exact Rz this
theorem ZqC (h:e.told=.born n s d f m):e=.born n s d f m:=by
 cases e with
 |born=>exact h
 |union=>cases h
 |parted=>cases h
 |taken=>cases h
 |dead=>cases h
 |given=>cases h
theorem Vo:Ent.born n s d f m∈es.map Ent.told↔Ent.born n s d f m∈es:=by
 constructor
 ·intro h;obtain ⟨e,he,ee⟩:=Qg.mp h;rw [←ZqC ee];exact he
 ·exact fun h=>Qg.mpr ⟨_,h,rfl⟩
theorem DeedF.mono {p:Pp} (h:DeedF ps e) (nd:((ps++[p]).map (·.1)).Nodup):DeedF (ps++[p]) e:=by
 refine ⟨h.nb,fun n hn=>?_,fun c t d z pc hpc pt hpt e1 e2=>?_,h.ap,h.lo,h.hi,h.sort⟩
 ·obtain ⟨q,hq,r⟩:=h.kn n hn;exact ⟨q,Q9 _ hq,r⟩
 ·obtain ⟨q1,h1,n1,_⟩:=h.kn c (by rw [z];simp [Ent.named]);obtain ⟨q2,h2,n2,_⟩:=h.kn t (by rw [z];simp [Ent.named]);have g1:=Zau nd hpc (Q9 _ h1) (e1.trans n1.symm);have g2:=Zau nd hpt (Q9 _ h2) (e2.trans n2.symm);rw [g1,g2];exact h.tk c t d z q1 h1 q2 h2 n1 n2
theorem DeedF.key_ne (h:DeedF ps e) (n:Str):([.inr "born",.inr n]:List Zi)≠e.told.key:=fun z=>by
 have hd:∀{w:Str} {r:List Zi},e.told.key=.inr w::r->("born" : Str)=w:=fun z'=>by rw [z'] at z;exact Re (GI z).1
 cases e with
 |born=>cases h.nb
 |union=>exact absurd (hd rfl) (by trivial)
 |parted=>exact absurd (hd rfl) (by trivial)
 |taken=>exact absurd (hd rfl) (by trivial)
 |dead=>exact absurd (hd rfl) (by trivial)
 |given=>exact absurd (hd rfl) (by trivial)
theorem Zpe (e:Ent):e.told.isBorn=e.isBorn:=by cases e<;>rfl
theorem EI.deed (N:N14 ns) (h:EI ns es ps kn) (de:DeedF ps e) (nk:e.told.key∉kn):EI ns (es++[e]) ps (kn++[e.told.key]):=by
 have nms:∀n∈e.named,Nm n∧n∈ns:=fun n hn=>by
  obtain ⟨p,hp,rfl,_⟩:=de.kn n hn;exact ⟨N.nm _ (h.mem hp),h.mem hp⟩
 have okk:e.Ok∧e.told.Ok:=by
  rcases de.sort with (t|⟨c,t,d,rfl⟩)|⟨n,d,rfl⟩
  ·cases e with
   |union a b d =>
    have k:=Zew (nms a (by simp [Ent.named])).1 (nms b (by simp [Ent.named])).1 de.lo de.hi;exact ⟨k.2.1,k.2.2.1⟩
   |parted a b d =>
    have k:=Zew (nms a (by simp [Ent.named])).1 (nms b (by simp [Ent.named])).1 de.lo de.hi;exact ⟨k.2.2.2.1,k.2.2.2.2⟩
   |_=>cases t
  ·have k:=Zew (nms c (by simp [Ent.named])).1 (nms t (by simp [Ent.named])).1 de.lo de.hi;exact ⟨k.1,k.1⟩
  ·have k:=Zlu (nms n (by simp [Ent.named])).1 de.lo de.hi;exact ⟨k,k⟩
 have nb:∀{x:Ent},x.isBorn=false->∀n,x.bornName=some n->n∈ns:=fun {x} hx n hn=>by
  cases x with
  |born=>cases hx
  |_=>cases hn
 have tn:∀n∈e.told.named,n∈e.named:=fun n hn=>ZhN e n hn;refine ⟨.snoc h.good ⟨okk.1,fun n hn=>(nms n hn).2,nb de.nb⟩ ⟨okk.2,fun n hn=>(nms n (tn n hn)).2,nb (by rw [Zpe];exact de.nb)⟩ ⟨fun n hn=>?_,fun x hx=>?_,fun n s d f m z=>?_,fun c t d z sc dc fc mc st dt ft mt h1 h2=>?_,de.ap⟩,?_,h.nm,h.len,fun x hx hb=>?_,fun k hk=>?_,h.pd,by rw [Qv,Qv];exact NR h.knl⟩
 ·obtain ⟨p,hp,rfl,le⟩:=de.kn n hn;obtain ⟨f,m,hb⟩:=h.of_ps hp;exact ⟨_,_,f,m,Vo.mpr hb,le⟩
 ·obtain ⟨y,hy,rfl⟩:=Qg.mp hx;cases hb:y.isBorn with
  |true =>
   cases y with
   |born n s d f m=>exact de.key_ne n
   |_=>cases hb
  |false=>exact fun z=>nk (z▸h.keys y hy hb)
 ·rw [z] at de;exact absurd de.nb (by simp [Ent.isBorn])
 ·obtain ⟨p1,g1,e1,t1⟩:=h.to_ps (Vo.mp h1);obtain ⟨p2,g2,e2,t2⟩:=h.to_ps (Vo.mp h2);have:=de.tk c t d z p1 g1 p2 g2 e1 e2;rw [t1,t2] at this;exact this
 ·rw [Rk,h.born]
  have:[e].filterMap ZcR=[]:=by
   cases e with
   |born=>cases de.nb
   |_=>rfl
  rw [this,Qt]
 ·rcases Qq.mp hx with hx|hx
  ·exact Q9 _ (h.keys x hx hb)
  ·rw [show x=e by simpa using hx];exact Q5 _ (by simp)
 ·rcases Qq.mp hk with hk|hk
  ·exact h.ok k hk
  ·exact ⟨e,by simpa using hk,de⟩
theorem EI.birth (N:N14 ns) (h:EI ns es ps kn) (hn:ns[ps.length]?=some n) (l24:ps.length<24) (hs:s="he"∨s="she"∨s="") (hf:X8 ps "he" d f) (hm:X8 ps "she" d m) (d1:-10 ^ 18≤d) (d2:d≤10 ^ 18) :
  EI ns (es++[.born n s d f m]) (ps++[(n,a,s,d)]) kn:=by
 have nn:n∈ns:=Qy hn;have pn:∀{w x:Str},X8 ps w d x->x=""∨x∈ns:=fun {w x} hx=>hx.imp id fun ⟨p,hp,e,_⟩=>e▸h.mem hp;have pm:∀{w x:Str},X8 ps w d x->x=""∨Nm x:=fun hx=>(pn hx).imp id (N.nm _);have okk:=ZmX (N.nm n nn) hs d1 d2 (pm hf) (pm hm)
 have nmd:∀x∈(Ent.born n s d f m).named,(x=f∨x=m)∧x≠"":=fun x hx=>by
  obtain ⟨h1,h2⟩:=Q0.mp hx;exact ⟨by simpa using h1,QM h2⟩
 have par:∀{w x:Str},X8 ps w d x->x=""∨∃d' f' m',Ent.born x w d' f' m'∈es.map Ent.told∧d'<d:=fun {w x} hx=>hx.imp id fun ⟨p,hp,e1,e2,e3⟩=>by
  obtain ⟨f',m',hb⟩:=h.of_ps hp;rw [e1,e2] at hb;exact ⟨_,f',m',Vo.mpr hb,e3⟩
 have d5:D5 ns (.born n s d f m):=⟨okk,fun x hx=>by
  obtain ⟨h1,h2⟩:=nmd x hx;rcases h1 with rfl|rfl
  ·exact (pn hf).resolve_left h2
  ·exact (pn hm).resolve_left h2,fun x hx=>by cases hx;exact nn⟩
 have nm':(ps++[(n,a,s,d)]).map (·.1)=ns.take (ps.length+1):=by rw [Qm,h.nm,Q8,hn];rfl
 have nd':((ps++[(n,a,s,d)]).map (·.1)).Nodup:=by rw [nm'];exact N.nd.sublist (RQ ..)
 refine ⟨.snoc h.good d5 d5 ⟨fun x hx=>?_,fun x hx=>?_,fun n' s' d' f' m' z=>?_,fun c t d' z=>(by cases z),rfl⟩,?_,by rw [nm',Qv];rfl,by rw [Qv];exact l24,fun x hx hb=>?_,fun k hk=>?_,fun p hp=>?_,by rw [Qv];exact NS h.knl⟩
 ·obtain ⟨h1,h2⟩:=nmd x hx
  have go:∀{w:Str},X8 ps w d x->∃s' d' f' m',Ent.born x s' d' f' m'∈es.map Ent.told∧d'≤d:=fun hx=>by
   rcases par hx with z|⟨d',f',m',hb,lt⟩
   ·exact absurd z h2
   ·exact ⟨_,d',f',m',hb,Int.le_of_lt lt⟩
  rcases h1 with rfl|rfl
  ·exact go hf
  ·exact go hm
 ·obtain ⟨y,hy,rfl⟩:=Qg.mp hx;cases hb:y.isBorn with
  |true =>
   cases y with
   |born n' s' d' f' m' =>
    intro z
    have z':n'=n:=by
     have:([.inr "born",.inr n']:List Zi)=[.inr "born",.inr n]:=z;simpa using this
    obtain ⟨p,hp,e1,_⟩:=h.to_ps hy;have m1:n∈ps.map (·.1):=Qg.mpr ⟨p,hp,e1.trans z'⟩;rw [Qm] at nd';exact (QY.mp nd').2.2 n m1 n (by simp) rfl
   |_=>cases hb
  |false =>
   obtain ⟨e,he,de⟩:=h.ok _ (h.keys y hy hb);intro z;exact de.key_ne n (by rw [←he];exact z.symm)
 ·cases z;exact ⟨par hf,par hm⟩
 ·rw [Rk,h.born,Qm];rfl
 ·rcases Qq.mp hx with hx|hx
  ·exact h.keys x hx hb
  ·rw [show x=.born n s d f m by simpa using hx] at hb;cases hb
 ·obtain ⟨e,he,de⟩:=h.ok k hk;exact ⟨e,he,de.mono nd'⟩
 ·rcases Qq.mp hp with hp|hp
  ·exact h.pd p hp
  ·rw [show p=(n,a,s,d) by simpa using hp];exact ⟨d1,d2⟩
theorem ZaM {K:W.Frag} {kvs:List (List Zi×V)} {xs:List V} (fr:∀b u,b≠D->H b=some u->H' b=some u) (h:H D=some (.dT kvs)) (q:SqT K H a xs):SqT K H' a xs:=by
 rcases q with (q|⟨o,q⟩)|q
 ·exact .inl (.inl (fr _ _ (fun z=>by rw [z,h] at q;cases q) q))
 ·exact .inl (.inr ⟨o,fr _ _ (fun z=>by rw [z,h] at q;cases q) q⟩)
 ·exact .inr q
theorem Zil (h:n∉ps.map (·.1)):Yh (X2 ps) (.inr n) (.ref a)=X2 (ps++[(n,a,s,d)]):=by
 rw [VE _ (Zjw (f:=fun p:Pp=>(.inr p.1:Zi)) (g:=fun p:Pp=>V.ref p.2.1) (fun z=>?_))]
 ·unfold X2;rw [Qm];rfl
 ·obtain ⟨p,hp,e⟩:=Qg.mp z;exact h (Qg.mpr ⟨p,hp,Re e⟩)
theorem ZkY (ks:List (Ent×Addr)) (p:Ent×Addr):X0 (ks++[p])=X0 ks++[.ref p.2]:=by unfold X0;rw [Qm];rfl
abbrev Ed:=List ((Str×Str)×Addr×List Str)
noncomputable abbrev Xr (ed:Ed):List (List Zi×V):=ed.map fun q=>(Zr q.1,.ref q.2.1)
structure EdAt (H:Hp) (D:Addr) (ed:Ed):Prop where
 d:H D=some (.dT (Xr ed))
 l:∀q∈ed,H q.2.1=some (.lst (q.2.2.map V.str))
 an:(ed.map (·.2.1)).Nodup
 kn:(ed.map (·.1)).Nodup
theorem EdAt.monoX (h:EdAt H D ed) (s:Zgm H H'):EdAt H' D ed:=⟨s _ _ rfl h.d,fun q hq=>s _ _ rfl (h.l q hq),h.an,h.kn⟩
theorem EdAt.mono (h:EdAt H D ed) (s:Same H H'):EdAt H' D ed:=h.monoX s.x
structure EdB (ed:Ed) (n:Nat):Prop where
 len:ed.length≤n
 ll:∀q∈ed,1≤q.2.2.length∧q.2.2.length≤n
noncomputable def ZY (f:Str×Str->List Str) (c:Str×Str) (x:Str):Str×Str->List Str:=fun c'=>if c'=c then f c++[x] else f c'
structure FrE (D:Addr) (ed:Ed) (H H':Hp) (ed':Ed):Prop where
 fr:∀b u,b≠D->b∉ed.map (·.2.1)->H b=some u->H' b=some u
 gr:∀b∈ed'.map (·.2.1),b∈ed.map (·.2.1)∨H b=none
 al:∀b,H' b=none->H b=none
theorem FrE.trans {ed1 ed2:Ed} {H2:Hp} (a:FrE D ed H H1 ed1) (b:FrE D ed1 H1 H2 ed2):FrE D ed H H2 ed2 where
 fr:=fun c u nd nm e=>b.fr c u nd (fun z=>(a.gr c z).elim nm fun z=>by rw [e] at z;cases z) (a.fr c u nd nm e)
 gr:=fun c hc=>(b.gr c hc).elim (a.gr c) fun z=>.inr (a.al c z)
 al:=fun c n=>a.al c (b.al c n)
theorem FrE.same {H0:Hp} (f:FrE D ed H H' ed') (s:Same H0 H) (nD:H0 D=none) (ne:∀b∈ed.map (·.2.1),H0 b=none):Same H0 H'∧∀b∈ed'.map (·.2.1),H0 b=none:=by
 refine ⟨fun b u e=>f.fr b u (fun z=>by rw [z,nD] at e;cases e) (fun z=>by rw [ne b z] at e;cases e) (s _ _ e),fun b hb=>(f.gr b hb).elim (ne b) fun z=>ZP s z⟩
theorem Wd {x:Addr×List Str} (h:ZL c ed=some x):(c,x)∈ed:=by
 induction ed with
 |nil=>cases h
 |cons q r ih =>
  unfold ZL at h;split at h
  ·rename_i e;cases h;rw [←e];exact QB ..
  ·exact Qx _ (ih h)
theorem Zg9 {q:(Str×Str)×Addr×List Str} (nd:(ed.map (·.1)).Nodup) (h:q∈ed):ZL q.1 ed=some q.2:=by
 induction ed with
 |nil=>cases h
 |cons p r ih =>
  obtain ⟨n1,n2⟩:=QP.mp nd;unfold ZL;rcases Qh.mp h with rfl|h
  ·rw [Qb rfl]
  ·rw [Qa (fun z=>n1 (by show p.1∈_;rw [z];exact RB (f:=(·.1)) h))];exact ih n2 h
theorem Vu {q:(Str×Str)×Addr×List Str} (nd:(ed.map (·.1)).Nodup) (h:q∈ed):lk ed q.1=q.2.2:=by unfold lk;rw [Zg9 nd h];rfl
theorem Um (h:ZL c ed=none):lk ed c=[]:=by unfold lk;rw [h];rfl
theorem ZfV (h:ZL c ed=none):c∉ed.map (·.1):=fun z=>by
 induction ed with
 |nil=>cases z
 |cons p r ih =>
  unfold ZL at h;split at h
  ·cases h
  ·rename_i ne;rcases Qh.mp z with z|z
   ·exact ne z.symm
   ·exact ih h z
theorem ZjK {x:Str} {n:Nat} (h:EdAt H D ed) (hb:EdB ed n) (hc:ZL c ed=some (b,xs)) :
  ∃ed',EdAt (Zb H b (.lst (xs.map V.str++[.str x]))) D ed'∧EdB ed' (n+1)∧(∀c',lk ed' c'=ZY (lk ed) c x c')∧FrE D ed H (Zb H b (.lst (xs.map V.str++[.str x]))) ed':=by
 have mem:=Wd hc;have hlk:lk ed c=xs:=Vu (q:=(c,b,xs)) h.kn mem
 have an:∀q∈ed,q.2.1=b->q=(c,b,xs):=fun q hq e=>by
  obtain ⟨i,hi,rfl⟩:=Gi hq;obtain ⟨j,hj,ej⟩:=Gi mem;have:i=j:=(GP (h₀:=by rw [Qd];exact hi) (h₁:=by rw [Qd];exact hj) h.an).mp (by rw [Gm,Gm,ej];exact e);subst this;exact ej
 have keq:∀q∈ed,q.1=c->q=(c,b,xs):=fun q hq e=>by
  have:=Zg9 h.kn hq;rw [e,hc] at this;exact RM e (Ql this).symm
 let g:(Str×Str)×Addr×List Str->(Str×Str)×Addr×List Str:=fun q=>if q.1=c then (q.1,q.2.1,q.2.2++[x]) else q
 have g1:∀q,(g q).1=q.1:=fun q=>by show (if q.1=c then _ else q).1=q.1;split<;>rfl
 have g2:∀q,(g q).2.1=q.2.1:=fun q=>by show (if q.1=c then (q.1,q.2.1,q.2.2++[x]) else q).2.1=q.2.1;split<;>rfl
 have e1:(ed.map g).map (·.1)=ed.map (·.1):=by rw [QH];exact R1 fun q _=>g1 q
 have e2:(ed.map g).map (·.2.1)=ed.map (·.2.1):=by rw [QH];exact R1 fun q _=>g2 q
 have ne:b≠D:=fun z=>by have:=h.l _ mem;rw [show ((c,b,xs):(Str×Str)×Addr×List Str).2.1=D from z,h.d] at this;cases this
 refine ⟨ed.map g,⟨?_,fun q hq=>?_,by rw [e2];exact h.an,by rw [e1];exact h.kn⟩,⟨by rw [Qd];exact NS hb.len,fun q hq=>?_⟩,fun c'=>?_,⟨fun a u na nm e=>?_,fun a ha=>.inl (by rw [←e2];exact ha),fun a n=>?_⟩⟩
 ·rw [Zg ne.symm,h.d]
  congr 2
  show _=(ed.map g).map _;rw [QH];exact R1 fun q _=>by show _=(Zr (g q).1,V.ref (g q).2.1);rw [g1,g2]
 ·obtain ⟨p,hp,rfl⟩:=Qg.mp hq;by_cases e:p.1=c
  ·have:=keq p hp e;subst this;show Zb H b _ (g (c,b,xs)).2.1=_;rw [g2,Ze];show _=some (HO.lst (((if c=c then (c,b,xs++[x]) else (c,b,xs)).2.2).map V.str));rw [Qb rfl,Qm];rfl
  ·rw [g2,Zg (fun z=>e (by rw [an p hp z]))];show _=some (HO.lst ((if p.1=c then (p.1,p.2.1,p.2.2++[x]) else p).2.2.map V.str));rw [Qa e];exact h.l p hp
 ·obtain ⟨p,hp,rfl⟩:=Qg.mp hq;have:=hb.ll p hp;show 1≤(if p.1=c then (p.1,p.2.1,p.2.2++[x]) else p).2.2.length∧(if p.1=c then (p.1,p.2.1,p.2.2++[x]) else p).2.2.length≤n+1;split
  ·show 1≤(p.2.2++[x]).length∧(p.2.2++[x]).length≤n+1;rw [Qv];exact ⟨by simp,by simp;omega⟩
  ·omega
 ·unfold ZY;have kn':((ed.map g).map (·.1)).Nodup:=by rw [e1];exact h.kn
  by_cases e:c'=c
  ·subst e;rw [Qb rfl,hlk];have m':g (c',b,xs)∈ed.map g:=RB mem;have e3:g (c',b,xs)=(c',b,xs++[x]):=by show (if c'=c' then _ else _)=_;rw [Qb rfl]
   rw [e3] at m';exact Vu kn' m'
  ·rw [Qa e];cases hl:ZL c' ed with
   |some y =>
    have m':g (c',y)∈ed.map g:=RB (Wd hl);have e3:g (c',y)=(c',y):=by show (if c'=c then _ else _)=_;rw [Qa e]
    rw [e3] at m';rw [Vu kn' m',Vu h.kn (Wd hl)]
   |none =>
    rw [Um hl];refine Um ?_;cases hl2:ZL c' (ed.map g) with
    |none=>rfl
    |some y =>
     have:=RB (f:=(·.1)) (Wd hl2);rw [e1] at this;exact absurd this (ZfV hl)
 ·rw [Zg (fun z=>nm (by rw [z];exact RB (f:=(·.2.1)) mem))];exact e
 ·by_cases z:a=b
  ·rw [z,Ze] at n;cases n
  ·rwa [Zg z] at n
theorem Zhi {n:Nat} (h:EdAt H D ed) (hb:EdB ed n) (hc:ZL c ed=none) (nz:H z=none) (l1:1≤xs.length) (ln:xs.length≤n+1) 
 (hD:H' D=some (.dT (Xr ed++[(Zr c,.ref z)]))) (hz:H' z=some (.lst (xs.map V.str))) (fr:∀b u,b≠D->H b=some u->H' b=some u) (al:∀b,H' b=none->H b=none) :
  ∃ed',EdAt H' D ed'∧EdB ed' (n+1)∧(∀c',lk ed' c'=if c'=c then xs else lk ed c')∧FrE D ed H H' ed':=by
 have nk:=ZfV hc
 have na:z∉ed.map (·.2.1):=fun m=>by
  obtain ⟨q,hq,e⟩:=Qg.mp m;have:=h.l q hq;rw [e,nz] at this;cases this
 refine ⟨ed++[(c,z,xs)],⟨by rw [hD];show _=some (HO.dT ((ed++[(c,z,xs)]).map _));rw [Qm];rfl,fun q hq=>?_,?_,?_⟩,⟨by rw [Qv];exact NR hb.len,fun q hq=>?_⟩,fun c'=>?_,⟨fun b u nb nm e=>fr b u nb e,fun b hb'=>?_,al⟩⟩
 ·rcases Qq.mp hq with hq|hq
  ·have:=h.l q hq;exact fr _ _ (fun y=>by rw [y,h.d] at this;cases this) this
  ·rw [show q=(c,z,xs) by simpa using hq];exact hz
 ·rw [Qm];exact QY.mpr ⟨h.an,by simp,fun a ha b hb'=>by rw [show b=z by simpa using hb'];exact fun e=>na (e▸ha)⟩
 ·rw [Qm];exact QY.mpr ⟨h.kn,by simp,fun a ha b hb'=>by rw [show b=c by simpa using hb'];exact fun e=>nk (e▸ha)⟩
 ·rcases Qq.mp hq with hq|hq
  ·have:=hb.ll q hq;omega
  ·rw [show q=(c,z,xs) by simpa using hq];exact ⟨l1,ln⟩
 ·unfold lk;rw [Zdz];by_cases e:c'=c
  ·subst e;rw [Qb rfl,hc];show ((ZL c' [(c',z,xs)]).map (·.2)).getD []=xs;unfold ZL;rw [Qb rfl];rfl
  ·rw [Qa e];have:ZL c' [(c,z,xs)]=none:=by unfold ZL;rw [Qa (fun y=>e y.symm)];rfl
   rw [this];cases ZL c' ed<;>rfl
 ·rw [Qm] at hb';rcases Qq.mp hb' with hb'|hb'
  ·exact .inl hb'
  ·exact .inr (by rw [show b=z by simpa using hb'];exact nz)
noncomputable def Zbw (l:Str):Str:=if l="F" then "f" else if l="M" then "m" else "t"
theorem Zf0 {l:Str} (h:l="F"∨l="M"∨l="T"):Txt.lower l=Zbw l:=by
 rcases h with rfl|rfl|rfl<;>trivial
def UA (D:Addr) (ed:Ed) (n:Nat) (c:Str×Str) (x:Str) (H H':Hp):Prop:=∃ed',EdAt H' D ed'∧EdB ed' (n+1)∧(∀c',lk ed' c'=ZY (lk ed) c x c')∧FrE D ed H H' ed'
theorem FrE.pre (s:Same H H1) (f:FrE D ed H1 H' ed'):FrE D ed H H' ed':=⟨fun b u nb nm e=>f.fr b u nb nm (s _ _ e),fun b hb=>(f.gr b hb).imp id fun z=>ZP s z,fun b z=>ZP s (f.al b z)⟩
theorem ZaU {H2:Hp} {n:Nat} {x:Str} (h:EdAt H D ed) (hb:EdB ed n) (n6:n≤900) (s:Same H H2) (nz:H z=none) (hz:H2 z=some (.lst [])) :
  H2 D=some (.dT (Xr ed))∧(Xr ed).length<sizeLine ∧
  (∀v,ZD (Xr ed) (Zr c)=some v->∃(b:Addr) (xs:List Str),v=.ref b∧H2 b=some (.lst (xs.map V.str))∧(xs.map V.str).length<sizeLine∧UA D ed n c x H (Zb H2 b (.lst (xs.map V.str++[.str x])))) ∧
  (ZD (Xr ed) (Zr c)=none->(Zb H2 D (.dT (Xr ed++[(Zr c,.ref z)]))) z=some (.lst [])∧UA D ed n c x H (Zb (Zb H2 D (.dT (Xr ed++[(Zr c,.ref z)]))) z (.lst ([]++[.str x])))):=by
 have h2:=h.mono s;have zD:z≠D:=fun e=>by rw [e,h2.d] at hz;cases hz
 refine ⟨h2.d,Zy (by rw [Qd];have:=hb.len;omega),fun v hv=>?_,fun hv=>⟨by rw [Zg zD];exact hz,?_⟩⟩
 ·rw [VX] at hv;obtain ⟨⟨b,xs⟩,hx,rfl⟩:=QN.mp hv;have mem:=Wd hx;have ll:=hb.ll _ mem;obtain ⟨ed',a1,a2,a3,a4⟩:=ZjK (x:=x) h2 hb hx;exact ⟨b,xs,rfl,h2.l _ mem,Zy (by rw [Qd];have:xs.length≤n:=ll.2;omega),ed',a1,a2,a3,a4.pre s⟩
 ·rw [VX] at hv
  have hn:ZL c ed=none:=by
   cases e:ZL c ed with
   |none=>rfl
   |some y=>rw [e] at hv;cases hv
  obtain ⟨ed',a1,a2,a3,a4⟩:=Zhi (xs:=[x]) (H':=Zb (Zb H2 D (.dT (Xr ed++[(Zr c,.ref z)]))) z (.lst ([]++[.str x]))) h hb hn nz (by simp) (by simp) (by rw [Zg zD.symm,Ze]) Ze
   (fun b u nb e=>by rw [Zg (ZV e nz),Zg nb];exact s _ _ e) (fun b hbn=>by
    by_cases e1:b=z
    ·rw [e1,Ze] at hbn;cases hbn
    ·rw [Zg e1] at hbn;by_cases e2:b=D
     ·rw [e2,Ze] at hbn;cases hbn
     ·rw [Zg e2] at hbn;exact ZP s hbn)
  refine ⟨ed',a1,a2,fun c'=>?_,a4⟩;rw [a3];unfold ZY;rw [Um hn];rfl
noncomputable def Yd (a b n x:Str) (g:ZN):ZN:=if x="" then g else ZY (ZY g (a,n) x) (b,x) n
noncomputable def Yi (f:ZN) (s n:Str):ZN:=fun c=>if c=(s,n) then [n] else f c
noncomputable def Yp (f:ZN):Ent->ZN
 |.born n s _ fa mo=>Yd "M" "m" n mo (Yd "F" "f" n fa (Yi f s n))
 |.taken c t _=>ZY (ZY f ("T",c) t) ("t",t) c
 |_=>f
noncomputable def Ys (es:List Ent):ZN:=es.foldl Yp fun _=>[]
theorem U5 (es:List Ent) (e:Ent):Ys (es++[e])=Yp (Ys es) e:=by unfold Ys;rw [Nr];rfl
abbrev XI:=List ((Str×Str)×Addr×Int×Str)
noncomputable def Wt (g:Str×Str->Option (Int×Str)) (e:Ent):Str×Str->Option (Int×Str):=fun c =>
 if e.tie=true∧c=Zd e.pr.1 e.pr.2 then (match g c with
  |none=>some (e.day,e.kind)
  |some r=>if r.1<e.day then some (e.day,e.kind) else some r) else g c
noncomputable def YC (es:List Ent):Str×Str->Option (Int×Str):=es.foldl Wt fun _=>none
theorem ZbC (es:List Ent) (e:Ent):YC (es++[e])=Wt (YC es) e:=by unfold YC;rw [Nr];rfl
noncomputable abbrev Xs (ls:XI):List (List Zi×V):=ls.map fun q=>(Zr q.1,.ref q.2.1)
structure LsAt (K:W.Frag) (H:Hp) (D:Addr) (ls:XI):Prop where
 d:H D=some (.dT (Xs ls))
 t:∀q∈ls,SqT K H q.2.1 [.int q.2.2.1,.str q.2.2.2]
 kn:(ls.map (·.1)).Nodup
theorem LsAt.mono {K:W.Frag} {ls:XI} (h:LsAt K H D ls) (s:Same H H'):LsAt K H' D ls:=⟨s _ _ h.d,fun q hq=>s.sqt (h.t q hq),h.kn⟩
theorem Zfo (c:Str×Str):∀l:XI,ZD (Xs l) (Zr c)=(ZF c l).map fun q=>.ref q.1
 |[]=>rfl
 |q::r=>by
  have ih:=Zfo c r;unfold ZF;show ZD ((Zr q.1,V.ref q.2.1)::Xs r) (Zr c)=_;by_cases e:q.1=c
  ·subst e;rw [Xf rfl,Qb rfl];rfl
  ·rw [Xd (fun z=>e (WX z)),Qa e];exact ih
theorem FrE.sqt {K:W.Frag} (f:FrE D ed H H' ed') (h:EdAt H D ed) {xs:List V} (q:SqT K H a xs):SqT K H' a xs:=by
 have nm:∀{b:Addr} {u:HO},H b=some u->(∀ys,u≠.lst ys)->b∉ed.map (·.2.1):=fun e nl m=>by
  obtain ⟨p,hp,rfl⟩:=Qg.mp m;rw [h.l p hp] at e;cases e;exact nl _ rfl
 rcases q with (q|⟨o,q⟩)|q
 ·exact .inl (.inl (f.fr _ _ (fun z=>by rw [z,h.d] at q;cases q) (nm q fun _ z=>by cases z) q))
 ·exact .inl (.inr ⟨o,f.fr _ _ (fun z=>by rw [z,h.d] at q;cases q) (nm q fun _ z=>by cases z) q⟩)
 ·exact .inr q
theorem FrE.ls {K:W.Frag} {Dl:Addr} {ls:XI} (f:FrE D ed H H' ed') (h:EdAt H D ed) (ne:Dl≠D) (l:LsAt K H Dl ls):LsAt K H' Dl ls:=by
 refine ⟨f.fr _ _ ne (fun m=>?_) l.d,fun q hq=>f.sqt h (l.t q hq),l.kn⟩;obtain ⟨p,hp,e⟩:=Qg.mp m;have:=h.l p hp;rw [e,l.d] at this;cases this
theorem ZoM (l:XI) (c:Str×Str) (x:Addr×Int×Str):Yh (Xs l) (Zr c) (.ref x.1)=Xs (Zo l c x):=UZ (f:=Zr) (fun _ _=>WX) (fun x:Addr×Int×Str=>V.ref x.1) l c x
noncomputable def Xw (f:ZN) (q:(Str×Str)×Addr×Int×Str):ZN:=if q.2.2.2="union" then ZY (ZY f ("S",q.1.1) q.1.2) ("S",q.1.2) q.1.1 else f
theorem EdB.mono {n m:Nat} (h:EdB ed n) (l:n≤m):EdB ed m:=⟨Qi h.len l,fun q hq=>⟨(h.ll q hq).1,Qi (h.ll q hq).2 l⟩⟩
theorem ZkR {n:Nat} (hb:EdB ed n) (h:lk ed c=[]):ZL c ed=none:=by
 cases e:ZL c ed with
 |none=>rfl
 |some x =>
  have l:=(hb.ll _ (Wd e)).1;have z:x.2=[]:=by unfold lk at h;rw [e] at h;exact h
  rw [show ((c,x):(Str×Str)×Addr×List Str).2.2=[] from z] at l;cases l
theorem Za8 (h:e.tie=false):YC (es++[e])=YC es:=by
 rw [ZbC]
 funext c
 unfold Wt;rw [Qa (fun z=>by rw [h] at z;cases z.1)]
theorem ZpV (hs:s="he"∨s="she"∨s="") (h:∀e∈es,e.bornName≠some n):Ys es (s,n)=[]:=by
 have go:∀(l:List Ent) (f:ZN),(∀e∈l,e.bornName≠some n)->f (s,n)=[]->l.foldl Yp f (s,n)=[]:=by
  intro l
  induction l with
  |nil=>intro f _ h0;exact h0
  |cons e r ih =>
   intro f hl h0;refine ih _ (fun e he=>hl e (Qx _ he)) ?_
   have ne:∀{a:Str},a∈(["F","f","M","m","T","t"]:List Str)->s≠a:=fun ha z=>by
    rw [z] at hs;simp only [Qh,QR,QS] at ha;rcases ha with rfl|rfl|rfl|rfl|rfl|rfl<;>exact absurd hs (by trivial)
   have ad:∀{g:ZN} {a y x:Str},a∈(["F","f","M","m","T","t"]:List Str)->ZY g (a,y) x (s,n)=g (s,n):=fun {g a y x} ha=>Qa fun z=>ne ha (Qj (·.1) z);cases e with
   |born n' s' d fa mo =>
    have nn:n'≠n:=fun z=>hl _ (QB ..) (by rw [z];rfl);have b0:Yi f s' n' (s,n)=[]:=by unfold Yi;rw [Qa (fun z=>nn (Qj (·.2) z).symm)];exact h0
    have f2:∀{u v x:Str} {g:ZN},u∈(["F","f","M","m","T","t"]:List Str)->v∈(["F","f","M","m","T","t"]:List Str)->g (s,n)=[]->Yd u v n' x g (s,n)=[]:=fun hu hv hg=>by
     unfold Yd;split
     ·exact hg
     ·rw [ad hv,ad hu];exact hg
    exact f2 (by simp) (by simp) (f2 (by simp) (by simp) b0)
   |taken c t d=>show ZY _ _ _ _=[];rw [ad (by simp),ad (by simp)];exact h0
   |union=>exact h0
   |parted=>exact h0
   |dead=>exact h0
   |given=>exact h0
 exact go es _ h rfl
theorem Zg6 (h:(Ent.born n s d f m).Ok):s="he"∨s="she"∨s="":=by
 have e:=h.en;have e2:XZ [.name,.sort,.day,.parent,.parent] [.str n,.str s,.int d,.str f,.str m]=true:=e;unfold XZ at e2;rw [Ri] at e2;have e3:=Rv.mp e2.2 (VU (.str s)) (by simp [ZU,V8]);have e4:(decide (s="he")||decide (s="she")||decide (s=""))=true:=e3;simpa [RH,or_assoc] using e4
theorem FrE.oth (f:FrE D ed H H' ed') (h:EdAt H D ed) (ne:b≠D) (e:H b=some u) (nl:∀ys,u≠.lst ys):H' b=some u :=
 f.fr b u ne (fun m=>by
  obtain ⟨p,hp,rfl⟩:=Qg.mp m;rw [h.l p hp] at e;cases e;exact nl _ rfl) e
theorem EdAt.off (h:EdAt H D ed) (e:H b=none):b∉ed.map (·.2.1):=fun m=>by
 obtain ⟨p,hp,z⟩:=Qg.mp m;have:=h.l p hp;rw [z,e] at this;cases this
noncomputable def Zbm (F:ZN) (n s fa mo:Str):Nat->ZN
 |0=>Yi F s n
 |1=>Yd "F" "f" n fa (Yi F s n)
 |_=>Yd "M" "m" n mo (Yd "F" "f" n fa (Yi F s n))
theorem Yt (f:ZN) (a n x b m:Str):ZY f (a,n) x (b,m)=if b=a∧m=n then f (a,n)++[x] else f (b,m):=by
 unfold ZY;by_cases h:b=a∧m=n
 ·rw [Qb (by rw [h.1,h.2]),Qb h]
 ·rw [Qa (fun z=>h ⟨Qj (·.1) z,Qj (·.2) z⟩),Qa h]
theorem Xk {a b:Str} (ab:¬b=a) (n' x:Str) (g:ZN) (l n:Str):Yd a b n' x g (l,n)=if x="" then g (l,n) else if l=b∧n=x then g (l,n)++[n'] else if l=a∧n=n' then g (l,n)++[x] else g (l,n):=by
 unfold Yd;by_cases h:x=""
 ·rw [Qb h,Qb h]
 ·rw [Qa h,Qa h,Yt,Yt];by_cases h1:l=b∧n=x
  ·rw [Qb h1,Qb h1,Qa (fun z=>ab z.1),h1.1,h1.2]
  ·rw [Qa h1,Qa h1,Yt];by_cases h2:l=a∧n=n'
   ·rw [Qb h2,Qb h2,h2.1,h2.2]
   ·rw [Qa h2,Qa h2]
theorem Zp5 (f:ZN) (e:Ent) (n:Str) (hs:∀n' s d fa mo,e=.born n' s d fa mo->s≠"F"):Yp f e ("F",n)=f ("F",n)++VD n e:=by
 have klf:¬(("F" : Str)="f"):=by trivial
 have kuM:¬(("F" : Str)="M"):=by trivial
 have klm:¬(("F" : Str)="m"):=by trivial
 have kuT:¬(("F" : Str)="T"):=by trivial
 have klt:¬(("F" : Str)="t"):=by trivial
 cases e with
 |born n' s d fa mo =>
  have h1:=hs n' s d fa mo rfl;show Yd "M" "m" n' mo (Yd "F" "f" n' fa (Yi f s n')) ("F",n)=_;rw [Xk (by trivial),Xk (by trivial),show Yi f s n' ("F",n)=f ("F",n) from Qa (fun z=>h1 (Qj (·.1) z).symm)];simp only [klf,kuM,klm,kuT,klt,RI,RJ,Q6,RK];unfold VD;by_cases e1:fa=""
  ·simp [e1]
  ·by_cases e2:n=n'
   ·subst e2;simp [e1]
   ·have e3:¬n'=n:=fun z=>e2 z.symm;simp [e1,e2,e3]
 |taken c t d =>
  show ZY (ZY f ("T",c) t) ("t",t) c ("F",n)=_;rw [Yt,Qa (fun z=>klt z.1),Yt,Qa (fun z=>kuT z.1)];simp [VD]
 |union=>exact (Qt _).symm
 |parted=>exact (Qt _).symm
 |dead=>exact (Qt _).symm
 |given=>exact (Qt _).symm
theorem Zqc (f:ZN) (e:Ent) (n:Str) (hs:∀n' s d fa mo,e=.born n' s d fa mo->s≠"f"):Yp f e ("f",n)=f ("f",n)++VH n e:=by
 have kuF:¬(("f" : Str)="F"):=by trivial
 have kuM:¬(("f" : Str)="M"):=by trivial
 have klm:¬(("f" : Str)="m"):=by trivial
 have kuT:¬(("f" : Str)="T"):=by trivial
 have klt:¬(("f" : Str)="t"):=by trivial
 cases e with
 |born n' s d fa mo =>
  have h1:=hs n' s d fa mo rfl;show Yd "M" "m" n' mo (Yd "F" "f" n' fa (Yi f s n')) ("f",n)=_;rw [Xk (by trivial),Xk (by trivial),show Yi f s n' ("f",n)=f ("f",n) from Qa (fun z=>h1 (Qj (·.1) z).symm)];simp only [kuF,kuM,klm,kuT,klt,RI,RJ,Q6,RK];unfold VH;by_cases e1:fa=""
  ·simp [e1]
  ·by_cases e2:n=fa
   ·subst e2;simp [e1]
   ·have e3:¬fa=n:=fun z=>e2 z.symm;simp [e1,e2,e3]
 |taken c t d =>
  show ZY (ZY f ("T",c) t) ("t",t) c ("f",n)=_;rw [Yt,Qa (fun z=>klt z.1),Yt,Qa (fun z=>kuT z.1)];simp [VH]
 |union=>exact (Qt _).symm
 |parted=>exact (Qt _).symm
 |dead=>exact (Qt _).symm
 |given=>exact (Qt _).symm
theorem Znu (f:ZN) (e:Ent) (n:Str) (hs:∀n' s d fa mo,e=.born n' s d fa mo->s≠"M"):Yp f e ("M",n)=f ("M",n)++VJ n e:=by
 have kuF:¬(("M" : Str)="F"):=by trivial
 have klf:¬(("M" : Str)="f"):=by trivial
 have klm:¬(("M" : Str)="m"):=by trivial
 have kuT:¬(("M" : Str)="T"):=by trivial
 have klt:¬(("M" : Str)="t"):=by trivial
 cases e with
 |born n' s d fa mo =>
  have h1:=hs n' s d fa mo rfl;show Yd "M" "m" n' mo (Yd "F" "f" n' fa (Yi f s n')) ("M",n)=_;rw [Xk (by trivial),Xk (by trivial),show Yi f s n' ("M",n)=f ("M",n) from Qa (fun z=>h1 (Qj (·.1) z).symm)];simp only [kuF,klf,klm,kuT,klt,RI,RJ,Q6,RK];unfold VJ;by_cases e1:mo=""
  ·simp [e1]
  ·by_cases e2:n=n'
   ·subst e2;simp [e1]
   ·have e3:¬n'=n:=fun z=>e2 z.symm;simp [e1,e2,e3]
 |taken c t d =>
  show ZY (ZY f ("T",c) t) ("t",t) c ("M",n)=_;rw [Yt,Qa (fun z=>klt z.1),Yt,Qa (fun z=>kuT z.1)];simp [VJ]
 |union=>exact (Qt _).symm
 |parted=>exact (Qt _).symm
 |dead=>exact (Qt _).symm
 |given=>exact (Qt _).symm
theorem Zoc (f:ZN) (e:Ent) (n:Str) (hs:∀n' s d fa mo,e=.born n' s d fa mo->s≠"m"):Yp f e ("m",n)=f ("m",n)++VY n e:=by
 have kuF:¬(("m" : Str)="F"):=by trivial
 have klf:¬(("m" : Str)="f"):=by trivial
 have kuM:¬(("m" : Str)="M"):=by trivial
 have kuT:¬(("m" : Str)="T"):=by trivial
 have klt:¬(("m" : Str)="t"):=by trivial
 cases e with
 |born n' s d fa mo =>
  have h1:=hs n' s d fa mo rfl;show Yd "M" "m" n' mo (Yd "F" "f" n' fa (Yi f s n')) ("m",n)=_;rw [Xk (by trivial),Xk (by trivial),show Yi f s n' ("m",n)=f ("m",n) from Qa (fun z=>h1 (Qj (·.1) z).symm)];simp only [kuF,klf,kuM,kuT,klt,RI,RJ,Q6,RK];unfold VY;by_cases e1:mo=""
  ·simp [e1]
  ·by_cases e2:n=mo
   ·subst e2;simp [e1]
   ·have e3:¬mo=n:=fun z=>e2 z.symm;simp [e1,e2,e3]
 |taken c t d =>
  show ZY (ZY f ("T",c) t) ("t",t) c ("m",n)=_;rw [Yt,Qa (fun z=>klt z.1),Yt,Qa (fun z=>kuT z.1)];simp [VY]
 |union=>exact (Qt _).symm
 |parted=>exact (Qt _).symm
 |dead=>exact (Qt _).symm
 |given=>exact (Qt _).symm
theorem ZjS (f:ZN) (e:Ent) (n:Str) (hs:∀n' s d fa mo,e=.born n' s d fa mo->s≠"T"):Yp f e ("T",n)=f ("T",n)++V7 n e:=by
 have kuF:¬(("T" : Str)="F"):=by trivial
 have klf:¬(("T" : Str)="f"):=by trivial
 have kuM:¬(("T" : Str)="M"):=by trivial
 have klm:¬(("T" : Str)="m"):=by trivial
 have klt:¬(("T" : Str)="t"):=by trivial
 cases e with
 |born n' s d fa mo =>
  have h1:=hs n' s d fa mo rfl;show Yd "M" "m" n' mo (Yd "F" "f" n' fa (Yi f s n')) ("T",n)=_;rw [Xk (by trivial),Xk (by trivial),show Yi f s n' ("T",n)=f ("T",n) from Qa (fun z=>h1 (Qj (·.1) z).symm)];simp only [kuF,klf,kuM,klm,klt,RI,RJ,Q6,RK];simp [V7]
 |taken c t d =>
  show ZY (ZY f ("T",c) t) ("t",t) c ("T",n)=_;rw [Yt,Qa (fun z=>klt z.1),Yt];unfold V7;by_cases e2:n=c
  ·subst e2;simp
  ·have e3:¬c=n:=fun z=>e2 z.symm;simp [e2,e3]
 |union=>exact (Qt _).symm
 |parted=>exact (Qt _).symm
 |dead=>exact (Qt _).symm
 |given=>exact (Qt _).symm
theorem Zoy (f:ZN) (e:Ent) (n:Str) (hs:∀n' s d fa mo,e=.born n' s d fa mo->s≠"t"):Yp f e ("t",n)=f ("t",n)++VR n e:=by
 have kuF:¬(("t" : Str)="F"):=by trivial
 have klf:¬(("t" : Str)="f"):=by trivial
 have kuM:¬(("t" : Str)="M"):=by trivial
 have klm:¬(("t" : Str)="m"):=by trivial
 have kuT:¬(("t" : Str)="T"):=by trivial
 cases e with
 |born n' s d fa mo =>
  have h1:=hs n' s d fa mo rfl;show Yd "M" "m" n' mo (Yd "F" "f" n' fa (Yi f s n')) ("t",n)=_;rw [Xk (by trivial),Xk (by trivial),show Yi f s n' ("t",n)=f ("t",n) from Qa (fun z=>h1 (Qj (·.1) z).symm)];simp only [kuF,klf,kuM,klm,kuT,RI,RJ,Q6,RK];simp [VR]
 |taken c t d =>
  show ZY (ZY f ("T",c) t) ("t",t) c ("t",n)=_;unfold VR;rw [Yt];by_cases e2:n=t
  ·subst e2;rw [Qb ⟨rfl,rfl⟩,Yt,Qa (fun z=>kuT z.1)];simp
  ·have e3:¬t=n:=fun z=>e2 z.symm;rw [Qa (fun z=>e2 z.2),Yt,Qa (fun z=>kuT z.1)];simp [e3]
 |union=>exact (Qt _).symm
 |parted=>exact (Qt _).symm
 |dead=>exact (Qt _).symm
 |given=>exact (Qt _).symm
theorem ZiS (f:ZN) (e:Ent) (n:Str) (hs:∀n' s d fa mo,e=.born n' s d fa mo->s≠"S"):Yp f e ("S",n)=f ("S",n)++[]:=by
 have kuF:¬(("S" : Str)="F"):=by trivial
 have klf:¬(("S" : Str)="f"):=by trivial
 have kuM:¬(("S" : Str)="M"):=by trivial
 have klm:¬(("S" : Str)="m"):=by trivial
 have kuT:¬(("S" : Str)="T"):=by trivial
 have klt:¬(("S" : Str)="t"):=by trivial
 cases e with
 |born n' s d fa mo =>
  have h1:=hs n' s d fa mo rfl;show Yd "M" "m" n' mo (Yd "F" "f" n' fa (Yi f s n')) ("S",n)=_;rw [Xk (by trivial),Xk (by trivial),show Yi f s n' ("S",n)=f ("S",n) from Qa (fun z=>h1 (Qj (·.1) z).symm)];simp only [kuF,klf,kuM,klm,kuT,klt,RI,RJ,Q6,RK];simp
 |taken c t d =>
  show ZY (ZY f ("T",c) t) ("t",t) c ("S",n)=_;rw [Yt,Qa (fun z=>klt z.1),Yt,Qa (fun z=>kuT z.1)];simp
 |union=>exact (Qt _).symm
 |parted=>exact (Qt _).symm
 |dead=>exact (Qt _).symm
 |given=>exact (Qt _).symm
def ZhE (es:List Ent):Prop:=∀n s d fa mo,Ent.born n s d fa mo∈es->s="he"∨s="she"∨s=""
theorem ZhU {l:Str} {ad:Ent->List Str} (st:∀e∈es,∀f:ZN,Yp f e (l,n)=f (l,n)++ad e):Ys es (l,n)=es.flatMap ad:=by
 have go:∀(r:List Ent) (f:ZN),(∀e∈r,∀f:ZN,Yp f e (l,n)=f (l,n)++ad e)->r.foldl Yp f (l,n)=f (l,n)++r.flatMap ad:=by
  intro r
  induction r with
  |nil=>intro f _;simp
  |cons e r ih =>
   intro f h;rw [RA,ih _ (fun e he=>h e (Qx _ he)),h e (QB ..),NO,NK]
 rw [show Ys es (l,n)=es.foldl Yp (fun _=>[]) (l,n) from rfl,go es _ st];rfl
theorem ZjA (h:ZhE es) {l:Str} (hl:l∈XY):∀e∈es,∀n' s d fa mo,e=.born n' s d fa mo->s≠l:=fun e he n' s d fa mo z w=>by
 subst z w;have:=h _ _ _ _ _ he;simp only [XY,Qh,QR,QS] at hl;rcases hl with rfl|rfl|rfl|rfl|rfl|rfl|rfl<;>exact absurd this (by trivial)
theorem Zfs:∀(c:Str×Str) (x:Str),x∈Ys es c->∃e∈es,x∈e.named∨e.bornName=some x:=by
 have ad:∀{f:ZN} {c c':Str×Str} {x y:Str},x∈ZY f c y c'->x∈f c'∨x=y:=fun {f c c' x y} h=>by
  unfold ZY at h;split at h
  ·rename_i e;rcases Qq.mp h with h|h
   ·rw [e];exact .inl h
   ·exact .inr (by simpa using h)
  ·exact .inl h
 have go:∀(r:List Ent) (f:ZN) (R:Str->Prop),(∀c x,x∈f c->R x)->(∀e∈r,∀x,x∈e.named∨e.bornName=some x->R x)->∀c x,x∈r.foldl Yp f c->R x:=by
  intro r
  induction r with
  |nil=>intro f R h _ c x hx;exact h c x hx
  |cons e r ih =>
   intro f R h hr c x hx;refine ih (Yp f e) R (fun c x hx=>?_) (fun e he=>hr e (Qx _ he)) c x hx;have he:=hr e (QB ..);cases e with
   |born n s d fa mo =>
    have p1:∀{a b y:Str} {g:ZN},(∀c x,x∈g c->R x)->(y≠""->R y)->∀c x,x∈Yd a b n y g c->R x:=fun {a b y g} hg hy c x hx=>by
     unfold Yd at hx;split at hx
     ·exact hg c x hx
     ·rename_i ny;rcases ad hx with hx|rfl
      ·rcases ad hx with hx|rfl
       ·exact hg c x hx
       ·exact hy ny
      ·exact he _ (.inr rfl)
    refine p1 (p1 (fun c x hx=>?_) (fun ny=>he _ (.inl ?_))) (fun ny=>he _ (.inl ?_)) c x hx
    ·unfold Yi at hx;split at hx
     ·rw [show x=n by simpa using hx];exact he _ (.inr rfl)
     ·exact h c x hx
    ·exact Q0.mpr ⟨by simp,Qr ny⟩
    ·exact Q0.mpr ⟨by simp,Qr ny⟩
   |taken u v d =>
    rcases ad (show x∈ZY (ZY f ("T",u) v) ("t",v) u c from hx) with hx|rfl
    ·rcases ad hx with hx|rfl
     ·exact h c x hx
     ·exact he _ (.inl (by simp [Ent.named]))
    ·exact he _ (.inl (by simp [Ent.named]))
   |union=>exact h c x hx
   |parted=>exact h c x hx
   |dead=>exact h c x hx
   |given=>exact h c x hx
 intro c x hx;exact go es _ (fun x=>∃e∈es,x∈e.named∨e.bornName=some x) (fun c x h=>(by cases h)) (fun e he x h=>⟨e,he,h⟩) c x hx
theorem Znh {x:Str} (hs:s="he"∨s="she"):x∈Ys es (s,n)↔x=n∧∃d f m,Ent.born n s d f m∈es:=by
 have ne:∀{a:Str},a∈(["F","f","M","m","T","t"]:List Str)->¬s=a:=fun ha z=>by
  rw [z] at hs;simp only [Qh,QR,QS] at ha;rcases ha with rfl|rfl|rfl|rfl|rfl|rfl<;>exact absurd hs (by trivial)
 have st:∀(f:ZN) (e:Ent),Yp f e (s,n)=(match e with|.born n' s' _ _ _=>Yi f s' n' (s,n)|_=>f (s,n)):=fun f e=>by
  cases e with
  |born n' s' d fa mo =>
   show Yd "M" "m" n' mo (Yd "F" "f" n' fa (Yi f s' n')) (s,n)=Yi f s' n' (s,n);rw [Xk (by trivial),Xk (by trivial)];simp only [ne (a:="m") (by simp),ne (a:="M") (by simp),ne (a:="f") (by simp),ne (a:="F") (by simp),RI,Q6,RK]
  |taken u v d =>
   show ZY (ZY f ("T",u) v) ("t",v) u (s,n)=f (s,n);rw [Yt,Qa (fun z=>ne (a:="t") (by simp) z.1),Yt,Qa (fun z=>ne (a:="T") (by simp) z.1)]
  |_=>rfl
 have go:∀(r:List Ent) (f:ZN),(∀y∈f (s,n),y=n)->(x∈r.foldl Yp f (s,n)↔(x=n∧∃d g m,Ent.born n s d g m∈r)∨x∈f (s,n)):=by
  intro r
  induction r with
  |nil=>intro f _;simp
  |cons e r ih =>
   intro f hf;have e1:=st f e
   have key:(∀y∈Yp f e (s,n),y=n)∧(x∈Yp f e (s,n)↔(x=n∧∃d g m,e=.born n s d g m)∨x∈f (s,n)):=by
    cases e with
    |born n' s' d fa mo =>
     rw [show Yp f (.born n' s' d fa mo) (s,n)=Yi f s' n' (s,n) from e1];unfold Yi;by_cases z:(s,n)=(s',n')
     ·cases z;rw [Qb rfl];refine ⟨fun y hy=>by simpa using hy,⟨fun h=>.inl ⟨by simpa using h,d,fa,mo,rfl⟩,fun h=>?_⟩⟩;rcases h with h|h
      ·rw [h.1];simp
      ·rw [hf x h];simp
     ·rw [Qa z];refine ⟨hf,⟨.inr,fun h=>h.elim (fun ⟨_,d',g,m,hh⟩=>by cases hh;exact absurd rfl z) id⟩⟩
    |taken=>exact ⟨by rw [e1];exact hf,by rw [e1];exact ⟨.inr,fun h=>h.elim (fun ⟨_,d',g,m,hh⟩=>by cases hh) id⟩⟩
    |union=>exact ⟨hf,⟨.inr,fun h=>h.elim (fun ⟨_,d',g,m,hh⟩=>by cases hh) id⟩⟩
    |parted=>exact ⟨hf,⟨.inr,fun h=>h.elim (fun ⟨_,d',g,m,hh⟩=>by cases hh) id⟩⟩
    |dead=>exact ⟨hf,⟨.inr,fun h=>h.elim (fun ⟨_,d',g,m,hh⟩=>by cases hh) id⟩⟩
    |given=>exact ⟨hf,⟨.inr,fun h=>h.elim (fun ⟨_,d',g,m,hh⟩=>by cases hh) id⟩⟩
   rw [RA,ih _ key.1,key.2];constructor
   ·rintro (⟨h1,d,g,m,h2⟩|⟨h1,d,g,m,rfl⟩|h)
    ·exact .inl ⟨h1,d,g,m,Qx _ h2⟩
    ·exact .inl ⟨h1,d,g,m,QB ..⟩
    ·exact .inr h
   ·rintro (⟨h1,d,g,m,h2⟩|h)
    ·rcases Qh.mp h2 with h2|h2
     ·exact .inr (.inl ⟨h1,d,g,m,h2.symm⟩)
     ·exact .inl ⟨h1,d,g,m,h2⟩
    ·exact .inr (.inr h)
 have:=go es (fun _=>[]) (fun y hy=>by cases hy);rw [show Ys es (s,n)=es.foldl Yp (fun _=>[]) (s,n) from rfl,this];simp
theorem Zcd {ls:XI} {f:ZN} {l:Str} (h:¬l="S"):ls.foldl Xw f (l,n)=f (l,n):=by
 induction ls generalizing f with
 |nil=>rfl
 |cons q r ih =>
  rw [RA,ih];unfold Xw;split
  ·rw [Yt,Qa (fun z=>h z.1),Yt,Qa (fun z=>h z.1)]
  ·rfl
theorem Zff {ls:XI} {f:ZN} {x:Str}:x∈ls.foldl Xw f ("S",n)↔x∈f ("S",n)∨∃q∈ls,q.2.2.2="union"∧(q.1=(n,x)∨q.1=(x,n)):=by
 induction ls generalizing f with
 |nil=>simp
 |cons q r ih =>
  rw [RA,ih]
  have st:x∈Xw f q ("S",n)↔x∈f ("S",n)∨(q.2.2.2="union"∧(q.1=(n,x)∨q.1=(x,n))):=by
   obtain ⟨⟨a,b⟩,ar,d,k⟩:=q;unfold Xw;by_cases hu:k="union"
   ·show x∈(if k="union" then ZY (ZY f ("S",a) b) ("S",b) a else f) ("S",n)↔x∈f ("S",n)∨(k="union"∧((a,b)=(n,x)∨(a,b)=(x,n)));rw [Qb hu,Yt];by_cases h1:n=b
    ·subst h1;rw [Qb ⟨rfl,rfl⟩,Yt];by_cases h2:n=a
     ·subst h2;rw [Qb ⟨rfl,rfl⟩];simp [hu];exact ⟨fun h=>h.imp id Eq.symm,fun h=>h.imp id Eq.symm⟩
     ·rw [Qa (fun z=>h2 z.2)];simp [hu];constructor
      ·rintro (h|h)
       ·exact .inl h
       ·exact .inr (.inr h.symm)
      ·rintro (h|⟨h,_⟩|h)
       ·exact .inl h
       ·exact absurd h.symm h2
       ·exact .inr h.symm
    ·rw [Qa (fun z=>h1 z.2),Yt];by_cases h2:n=a
     ·subst h2;rw [Qb ⟨rfl,rfl⟩];simp [hu];constructor
      ·rintro (h|h)
       ·exact .inl h
       ·exact .inr (.inl h.symm)
      ·rintro (h|h|⟨_,h⟩)
       ·exact .inl h
       ·exact .inr h.symm
       ·exact absurd h.symm h1
     ·rw [Qa (fun z=>h2 z.2)];simp only [hu,RJ,Prod.mk.injEq];exact ⟨.inl,fun h=>h.elim id fun h=>h.elim (fun z=>absurd z.1.symm h2) fun z=>absurd z.2.symm h1⟩
   ·show x∈(if k="union" then _ else f) ("S",n)↔x∈f ("S",n)∨(k="union"∧_);rw [Qa hu];exact ⟨.inl,fun h=>h.elim id fun h=>absurd h.1 hu⟩
  rw [st];constructor
  ·rintro ((h|h)|⟨q',h1,h2⟩)
   ·exact .inl h
   ·exact .inr ⟨q,QB ..,h⟩
   ·exact .inr ⟨q',Qx _ h1,h2⟩
  ·rintro (h|⟨q',h1,h2⟩)
   ·exact .inl (.inl h)
   ·rcases Qh.mp h1 with rfl|h1
    ·exact .inl (.inr h2)
    ·exact .inr ⟨q',h1,h2⟩
noncomputable def dk (e:Ent):Int×Str:=(e.day,e.kind)
theorem ZmE (es:List Ent) (a b:Str):YC es (Zd a b)=(es.foldl (WY a b) none).map dk:=by
 have go:∀(r:List Ent) (g:Str×Str->Option (Int×Str)) (o:Option Ent),g (Zd a b)=o.map dk->r.foldl Wt g (Zd a b)=(r.foldl (WY a b) o).map dk:=by
  intro r
  induction r with
  |nil=>intro g o h;exact h
  |cons e r ih =>
   intro g o h;rw [RA,RA];refine ih _ _ ?_;unfold Wt WY;by_cases c:e.tie=true∧Zd e.pr.1 e.pr.2=Zd a b
   ·rw [Qb ⟨c.1,c.2.symm⟩,Qb c,h];cases o with
    |none=>rfl
    |some l =>
     show (if (dk l).1<e.day then _ else _)=Option.map dk (if l.day<e.day then _ else _);show (if l.day<e.day then some (e.day,e.kind) else some (dk l))=_;split<;>rfl
   ·rw [Qa (fun z=>c ⟨z.1,z.2.symm⟩),Qa c];exact h
 exact go es _ none rfl
theorem Zpf (es:List Ent):YC (es.map Ent.told)=YC es:=by
 have st:∀(g:Str×Str->Option (Int×Str)) (e:Ent),Wt g e.told=Wt g e:=fun g e=>by
  cases e with
  |union a b d =>
   funext c
   show (if true=true∧c=Zd (Zd a b).1 (Zd a b).2 then _ else g c)=(if true=true∧c=Zd a b then _ else g c);rw [Vg];rfl
  |parted a b d =>
   funext c
   show (if true=true∧c=Zd (Zd a b).1 (Zd a b).2 then _ else g c)=(if true=true∧c=Zd a b then _ else g c);rw [Vg];rfl
  |_=>rfl
 unfold YC;rw [List.foldl_map];exact Qj (fun z=>es.foldl z fun _=>none) (funext fun g=>funext fun e=>st g e)
theorem Zga:∀{c:Str×Str} {r:Int×Str},YC es c=some r->∃e∈es,e.tie=true∧c=Zd e.pr.1 e.pr.2:=by
 have go:∀(l:List Ent) (g:Str×Str->Option (Int×Str)) (R:Str×Str->Prop),(∀c r,g c=some r->R c)->(∀e∈l,e.tie=true->R (Zd e.pr.1 e.pr.2))->∀c r,l.foldl Wt g c=some r->R c:=by
  intro l
  induction l with
  |nil=>intro g R h _ c r e;exact h c r e
  |cons e l ih =>
   intro g R h hl c r hr;refine ih _ R (fun c r hc=>?_) (fun e he=>hl e (Qx _ he)) c r hr;unfold Wt at hc;split at hc
   ·rename_i z;rw [z.2];exact hl e (QB ..) z.1
   ·exact h c r hc
 intro c r h;exact go es _ (fun c=>∃e∈es,e.tie=true∧c=Zd e.pr.1 e.pr.2) (fun c r z=>(by cases z)) (fun e he t=>⟨e,he,t,rfl⟩) c r h
theorem ZmY (h:e.tie=true):∃(x y:Str) (d:Int) (W:Str),e.row.map kV=[.str W,.str x,.str y,.int d]∧(W="union"∨W="parted")∧e.pr=(x,y)∧e.kind=W∧e.day=d:=by
 cases e with
 |union x y d=>exact ⟨x,y,d,_,rfl,.inl rfl,rfl,rfl,rfl⟩
 |parted x y d=>exact ⟨x,y,d,_,rfl,.inr rfl,rfl,rfl,rfl⟩
 |_=>cases h
theorem ZnZ {f:ZN} (h:e.tie=true):Yp f e=f:=by
 cases e with
 |union x y d=>rfl
 |parted x y d=>rfl
 |_=>cases h
theorem ZgR {κ α:Type} [DecidableEq κ] {q:κ×α}:∀{l:List (κ×α)},(l.map (·.1)).Nodup->q∈l->ZF q.1 l=some q.2
 |[],_,h=>by cases h
 |p::l,nd,h=>by
  obtain ⟨n1,n2⟩:=QP.mp nd;unfold ZF;rcases Qh.mp h with rfl|h
  ·rw [Qb rfl]
  ·rw [Qa (fun z=>n1 (by show p.1∈_;rw [z];exact RB (f:=(·.1)) h))];exact ZgR n2 h
theorem ZoF (gd:GdL pool es):ZhE es:=fun n s d fa mo h=>Zg6 (gd.d5 _ h).1
theorem Znk {ad:Ent->List Str} (h:∀e,ad e.told=ad e) (es:List Ent):(es.map Ent.told).flatMap ad=es.flatMap ad:=by
 rw [List.flatMap_map];exact Qj (fun z=>es.flatMap z) (funext h)
structure Jn (pool:List Str) (B:Bk) (es:List Ent) (ls:XI) (F:ZN):Prop where
 li:LI5 pool B B.kept
 hk:B.kept.map (·.1)=es.map Ent.told
 gd:GdL pool es
 kn:(ls.map (·.1)).Nodup
 la:∀c,(ZF c ls).map (·.2)=YC es c
 lke:∀c,F c=ls.foldl Xw (Ys es) c
section
variable {ls:XI} {F:ZN}
theorem Jn.known (j:Jn pool B es ls F) (h:Ent.born n s d f m∈es):Known B n∧Wu B n=s:=by
 have:=UC j.hk j.gd.bu (Vo.mpr h);exact ⟨this.1,this.2.1⟩
theorem Jn.born (j:Jn pool B es ls F) (h:Known B n):∃d f m,Ent.born n (Wu B n) d f m∈es:=by
 unfold Known at h;obtain ⟨p,hp⟩:=Option.ne_none_iff_exists'.mp h;obtain ⟨hm,hb⟩:=UL hp;obtain ⟨e,a⟩:=p;cases e with
 |born n' s d f m =>
  cases hb;have e1:Wu B n=s:=ZaY hp rfl;have:Ent.born n s d f m∈B.kept.map (·.1):=Qg.mpr ⟨_,hm,rfl⟩;rw [j.hk] at this;rw [e1];exact ⟨d,f,m,Vo.mp this⟩
 |_=>cases hb
theorem Jn.inp (j:Jn pool B es ls F) (h:Known B n):n∈pool:=by
 obtain ⟨d,f,m,hb⟩:=j.born h;exact (j.gd.d5 _ hb).2.2 n rfl
theorem Jn.find (j:Jn pool B es ls F) {q:(Str×Str)×Addr×Int×Str} (h:q∈ls):YC es q.1=some q.2.2:=by
 rw [←j.la];have:ZF q.1 ls=some q.2:=ZgR j.kn h;rw [this];rfl
theorem Jn.mem_in (j:Jn pool B es ls F) {x:Str} (h:x∈F c):Known B x:=by
 have ex:∃e∈es,x∈e.named∨e.bornName=some x:=by
  rw [j.lke] at h;obtain ⟨l,n⟩:=c;by_cases e:l="S"
  ·subst e;rcases Zff.mp h with h|⟨q,hq,_,hx⟩
   ·exact Zfs _ _ h
   ·obtain ⟨e,he,ht,hs⟩:=Zga (j.find hq);refine ⟨e,he,.inl ?_⟩
    have Zr:x=e.pr.1∨x=e.pr.2:=by
     have:Zd e.pr.1 e.pr.2=(e.pr.1,e.pr.2)∨Zd e.pr.1 e.pr.2=(e.pr.2,e.pr.1):=by unfold Zd;split<;>simp
     rcases hx with hx|hx<;>rcases this with t|t<;>rw [←hs,hx] at t<;>have t1:=Qj (·.1) t<;>have t2:=Qj (·.2) t
     ·exact .inr t2
     ·exact .inl t2
     ·exact .inl t1
     ·exact .inr t1
    cases e with
    |union a b d=>rcases Zr with rfl|rfl<;>simp [Ent.named,Ent.pr]
    |parted a b d=>rcases Zr with rfl|rfl<;>simp [Ent.named,Ent.pr]
    |_=>cases ht
  ·rw [Zcd e] at h;exact Zfs _ _ h
 obtain ⟨e,he,h1|h1⟩:=ex
 ·obtain ⟨s,d,f,m,hb⟩:=j.gd.known e he x h1;exact (j.known (Vo.mp hb)).1
 ·cases e with
  |born n s d f m=>cases h1;exact (j.known he).1
  |_=>cases h1
theorem Jn.step (j:Jn pool B es ls F) (hs:s∈Yg) (kn:Known B n) (x:Str):x∈YE B s n↔x∈F (s,n):=by
 have so:=ZoF j.gd;have ne:=fun {l:Str} (hl:l∈XY)=>ZjA so hl;have lks:∀l,Yy B l n=(YF (es.map Ent.told)).1 (l,n):=fun l=>by rw [V6,j.li.st.lks,j.hk]
 have six:∀{l:Str} {ad:Str->Ent->List Str},Vr l=false->¬l="S"->Adds l ad->(∀e,ad n e.told=ad n e)->(∀e∈es,∀f:ZN,Yp f e (l,n)=f (l,n)++ad n e)->(x∈YE B l n↔x∈F (l,n)):=fun {l ad} ht nS A tl st=>by
  unfold YE;rw [Qa (by rw [ht];decide),lks,A.all,(Xp _).mem_iff,Znk tl,j.lke,Zcd nS,ZhU st]
 have tst:s="he"∨s="she"->(x∈YE B s n↔x∈F (s,n)):=fun h=>by
  have ht:Vr s=true:=by rcases h with rfl|rfl<;>trivial
  have nS:¬s="S":=by rcases h with rfl|rfl<;>trivial
  unfold YE;rw [Qb ht,j.lke,Zcd nS,Znh h];obtain ⟨d,f,m,hb⟩:=j.born kn;by_cases e:Wu B n=s
  ·rw [Qb e];rw [e] at hb;exact ⟨fun z=>⟨by simpa using z,d,f,m,hb⟩,fun z=>by rw [z.1];simp⟩
  ·rw [Qa e];exact ⟨fun z=>(by cases z),fun ⟨_,d',f',m',hb'⟩=>absurd (j.known hb').2 e⟩
 simp only [Yg,Qh,QR,QS] at hs;rcases hs with rfl|rfl|rfl|rfl|rfl|rfl|rfl|h|h
 ·exact six (by trivial) (by trivial) Zhl (fun e=>by cases e<;>rfl) fun e he f=>Zp5 f e n (ne (by trivial) e he)
 ·exact six (by trivial) (by trivial) ZhV (fun e=>by cases e<;>rfl) fun e he f=>Znu f e n (ne (by trivial) e he)
 ·exact six (by trivial) (by trivial) ZhI (fun e=>by cases e<;>rfl) fun e he f=>ZjS f e n (ne (by trivial) e he)
 ·exact six (by trivial) (by trivial) Zgj (fun e=>by cases e<;>rfl) fun e he f=>Zqc f e n (ne (by trivial) e he)
 ·exact six (by trivial) (by trivial) Zhw (fun e=>by cases e<;>rfl) fun e he f=>Zoc f e n (ne (by trivial) e he)
 ·exact six (by trivial) (by trivial) Ze9 (fun e=>by cases e<;>rfl) fun e he f=>Zoy f e n (ne (by trivial) e he)
 ·have eS:Ys es ("S",n)=[]:=by
   rw [ZhU (ad:=fun _=>[]) fun e he f=>ZiS f e n (ne (by trivial) e he)];simp
  have ap:=j.li.ap';have once:=j.li.once;rw [j.hk] at ap once;unfold YE;rw [Qa (by trivial),lks,(Zpp ap).mem,Ziy once,←ZkQ once,j.lke,Zff,eS]
  have td:ZaK (es.map Ent.told) n x=true↔∃d,YC es (Zd n x)=some (d,("union" : Str)):=by
   rw [←Zpf,ZmE];unfold ZaK;cases (es.map Ent.told).foldl (WY n x) none with
   |none=>simp
   |some e =>
    show decide (e.kind="union")=true↔∃d,some (e.day,e.kind)=some (d,("union" : Str));rw [NI];exact ⟨fun h=>⟨e.day,by rw [h]⟩,fun ⟨d,h⟩=>Qj (·.2) (Ql h)⟩
  rw [td];constructor
  ·rintro ⟨d,h⟩;rw [←j.la] at h;cases hf:ZF (Zd n x) ls with
   |none=>rw [hf] at h;cases h
   |some w =>
    rw [hf] at h;have hm:=Vf hf;have hw:w.2=(d,("union" : Str)):=Ql h;refine .inr ⟨_,hm,by rw [hw],?_⟩;show Zd n x=(n,x)∨Zd n x=(x,n);unfold Zd;split<;>simp
  ·rintro (h|⟨q,hq,hu,hx⟩)
   ·cases h
   ·have hl:=j.find hq;obtain ⟨e,he,ht,hs⟩:=Zga hl
    have e1:Zd n x=q.1:=by
     rcases hx with hx|hx
     ·rw [show Zd n x=Zd q.1.1 q.1.2 by rw [hx],hs,Vg]
     ·rw [Zb6,show Zd x n=Zd q.1.1 q.1.2 by rw [hx],hs,Vg]
    rw [e1,hl];exact ⟨q.2.2.1,by rw [←hu]⟩
 ·exact tst (.inl h)
 ·exact tst (.inr h)
theorem Jn.clo (j:Jn pool B es ls F) (l:pool.length≤60):Clo B pool:=⟨fun s hs n kn x hx=>j.mem_in ((j.step hs kn x).mp hx),fun n h=>j.inp h,l⟩
theorem Jn.inPool (j:Jn pool B es ls (lk ed)) (kn:(ed.map (·.1)).Nodup):∀q∈ed,∀x∈q.2.2,x∈pool:=fun q hq x hx=>j.inp (j.mem_in (c:=q.1) (by show x∈lk ed q.1;rw [Vu kn hq];exact hx))
theorem Jn.same (j:Jn pool B es ls F) {way:List Str} (kn:Known B n) (h9:∀s∈way,s∈Yg) (x:Str):YV (YE B) way (·=n) x↔YV (fun s n=>F (s,n)) way (·=n) x :=
 Zhu (R:=Known B) (fun s hs y hy x=>j.step hs hy x) (fun s hs y hy x hx=>j.mem_in ((j.step hs hy x).mp hx)) h9 (fun x e=>by rw [e];exact kn) x
end
theorem Zle (h:n∈es.filterMap Ent.bornName):∃s d f m,Ent.born n s d f m∈es:=by
 obtain ⟨e,he,hn⟩:=Rg.mp h;cases e with
 |born n' s d f m=>cases hn;exact ⟨s,d,f,m,he⟩
 |_=>cases hn
theorem at4 (z:Int) (a b c d:V):∃v∈[a,b,c,d],Ym [a,b,c,d] (z.fmod 4)=some v:=by
 obtain ⟨x,hx,e⟩:=Jf (fun v=>v) [a,b,c,d] (by simp) z;rw [List.map_id'] at e;exact ⟨x,hx,e⟩
theorem ZkV (n:Str):SrtOf (·=n) [n]:=⟨by simp,by simp,fun x=>by simp⟩
section
variable {K:W.Frag}
def StAt (T:Tx K w mg) (H:Hp) (x:V) (s:Str):Prop:=∃a dx,x=.ref a∧(H a=some (.ins T.c_Letter dx [("letter",.str s)])∨H a=some (.ins T.c_Test dx [("wanted",.str s)]))
def PcAt (T:Tx K w mg) (H:Hp) (x v t:V) (L:Str->List Str->Prop):Prop:=∃s B,StAt T H x s∧s∈Yg∧BkHas K T.c_Book H v B∧∀n zs,L n zs->Known B n∧zs=YE B s n
theorem StAt.mono {T:Tx K w mg} {x:V} (h:StAt T H x s) (e:Same H H'):StAt T H' x s:=by
 obtain ⟨a,dx,rfl,h⟩:=h;exact ⟨a,dx,rfl,h.imp (e _ _) (e _ _)⟩
theorem PcAt.mono {T:Tx K w mg} {x t:V} (h:PcAt T H x v t L) (e:Same H H'):PcAt T H' x v t L:=by
 obtain ⟨s,B,h1,h2,h3,h4⟩:=h;exact ⟨s,B,h1.mono e,h2,h3.mono e,h4⟩
end
theorem made {fs:List (Str×V)} (na:H a=none) (nd:H dx=none):Same H (Zb (Zb (Zb H dx (.own a)) a (.ins C dx [])) a (.ins C dx fs)):=fun c u e=>by
 rw [Zg (ZV e na),Zg (ZV e na),Zg (ZV e nd)];exact e
theorem ZaX {W:List Str} {n:Nat} {z:Str} (h:W[n]?=some z):Ym (W.map V.str) (n:Int)=some (.str z):=Xq (by rw [Qp,h];rfl)
noncomputable def ft (k bi li ti su:Addr) (B:Bk):List Addr:=[k,bi,li,ti,su]++B.ties.map (·.2.1)
section
variable {k y:Addr}
theorem Zm5 {Hs:Hp} (bt:But [k,bi,li,ti,su,y] H H') (hy:H y=none∨y=bi∨y∈B.ties.map (·.2.1)) (gr:GrowsT H B.ties B'.ties) (sc:Same Hs H) (fs:∀c∈ft k bi li ti su B,Hs c=none):Same Hs H'∧∀c∈ft k bi li ti su B',Hs c=none:=by
 refine ⟨fun c u e=>bt.eq c u (fun m=>?_) (sc c u e),fun c m=>?_⟩
 ·have no:c∉ft k bi li ti su B:=fun z=>by rw [fs c z] at e;cases e
  have m5:c∈[k,bi,li,ti,su]++[y]:=m;rcases Qq.mp m5 with z|z
  ·exact no (Q9 _ z)
  obtain rfl:=QT.mp z;rcases hy with z|z|z
  ·rw [sc c u e] at z;cases z
  ·exact no (Q9 _ (by rw [z];simp))
  ·exact no (Q5 _ z)
 ·rcases Qq.mp m with z|z
  ·exact fs c (Q9 _ z)
  ·rcases gr c z with z|z
   ·exact fs c (Q5 _ z)
   ·exact ZP sc z
end
theorem ZiL {k:Addr} (nb:H b=none) (ndx:H dx=none) (keep:∀c o,Zb (Zb H dx (.own b)) b (.ins C dx []) c=some o->c≠b->H' c=some o)
 (n1:Zb (Zb H dx (.own b)) b (.ins C dx []) k=none) (n2:Zb (Zb H dx (.own b)) b (.ins C dx []) bi=none) (n3:Zb (Zb H dx (.own b)) b (.ins C dx []) li=none) (n4:Zb (Zb H dx (.own b)) b (.ins C dx []) ti=none) (n5:Zb (Zb H dx (.own b)) b (.ins C dx []) su=none) :
  Same H H'∧∀c∈ft k bi li ti su VO,H c=none:=by
 have sb:Same H (Zb (Zb H dx (.own b)) b (.ins C dx [])):=fun c o e=>by rw [Zg (ZV e nb),Zg (ZV e ndx)];exact e
 refine ⟨fun c o e=>keep c o (sb c o e) (ZV e nb),fun c m=>?_⟩
 have m':c=k∨c=bi∨c=li∨c=ti∨c=su:=by
  have e:ft k bi li ti su VO=[k,bi,li,ti,su]:=rfl;rw [e] at m;simpa using m
 rcases m' with rfl|rfl|rfl|rfl|rfl
 ·exact ZP sb n1
 ·exact ZP sb n2
 ·exact ZP sb n3
 ·exact ZP sb n4
 ·exact ZP sb n5
theorem ZfN (h:B.kept.map (·.1)=es.map Ent.told):Z2 B.kept=es.filterMap Ent.bornName:=by
 have e:Z2 B.kept=(B.kept.map (·.1)).filterMap Ent.bornName:=by unfold Z2;rw [GV];rfl
 rw [e,h,GV,show Ent.bornName∘Ent.told=Ent.bornName from funext fun e=>by cases e<;>rfl]
theorem Zkf (z:Str):¬Builtin.Str.strKind z<Builtin.Str.strKind (" | " : Str):=by
 have e:Builtin.Str.strKind (" | " : Str)=1:=by trivial
 rw [e];unfold Builtin.Str.strKind;split
 ·decide
 ·split<;>decide
theorem Zex {y:V} (h:(xs.map V.str)[i]?=some y):∃z,y=.str z∧xs[i]?=some z:=by
 rw [Qp] at h;obtain ⟨z,hz,e⟩:=QN.mp h;exact ⟨z,e.symm,hz⟩
def Each {α:Type} (P:α->V->Prop) (as:List α) (vs:List V):Prop:=vs.length=as.length∧∀(i:Nat) (a:α) (v:V),as[i]?=some a->vs[i]?=some v->P a v
section
variable {α:Type} {P P':α->V->Prop} {as:List α} {vs:List V}
theorem Each.imp (h:Each P as vs) (f:∀a v,P a v->P' a v):Each P' as vs:=⟨h.1,fun i a v e1 e2=>f a v (h.2 i a v e1 e2)⟩
theorem Each.get (h:Each P as vs) {a:α} (e:as[i]?=some a):∃v,vs[i]?=some v∧P a v:=by
 have l:i<vs.length:=by rw [h.1];exact (QC.mp e).1
 exact ⟨vs[i],Qw l,h.2 i a _ e (Qw l)⟩
theorem Each.get' (h:Each P as vs) (e:vs[i]?=some v):∃a,as[i]?=some a∧P a v:=by
 have l:i<as.length:=by rw [←h.1];exact (QC.mp e).1
 exact ⟨as[i],Qw l,h.2 i _ v (Qw l) e⟩
theorem Each.snoc (h:Each P as vs) {a:α} (p:P a v):Each P (as++[a]) (vs++[v]):=by
 refine ⟨by simp [h.1],fun i b u e1 e2=>?_⟩;by_cases l:i<as.length
 ·rw [RF l] at e1;rw [RF (by rw [h.1];exact l)] at e2;exact h.2 i b u e1 e2
 ·have li:=(QC.mp e1).1;rw [Qv,List.length_singleton] at li;have ei:i=as.length:=by omega
  subst ei;rw [RE (Qe _),RY] at e1;rw [RE (by rw [h.1];exact Qe _),h.1,RY] at e2;cases (show a=b by simpa using e1);cases (show v=u by simpa using e2);exact p
end
section
variable {K:W.Frag} (T:Tx K w mg)
def PartAt (H:Hp) (b:TongM.Bran) (v:V):Prop:=∃t u os,v=.ref t∧H t=some (.tup [.ref u,.str b.2])∧H u=some (.tup os)∧Each (fun s o=>StAt T H o s) b.1 os∧b.1.length≤12∧∀s∈b.1,s∈Yg
def PartsAt (H:Hp) (bs:List TongM.Bran) (v:V):Prop:=∃l os,v=.ref l∧H l=some (.lst os)∧Each (PartAt T H) bs os∧bs.length≤8
def DictAt (H:Hp) (d:Addr) (rows:List TongM.Rw):Prop:=∃zs:List (Str×V),H d=some (.dK (zs.map fun p=>(.inr p.1,p.2)))∧zs.map (·.1)=rows.map (·.1)∧Each (fun r v=>PartsAt T H r.2 v) rows (zs.map (·.2))∧rows.length≤40
def DictW (H:Hp) (d:Addr) (rows:List TongM.Rw):Prop:=∃zs:List (Str×V),Rd H d (.dK (zs.map fun p=>(.inr p.1,p.2)))∧zs.map (·.1)=rows.map (·.1)∧Each (fun r v=>PartsAt T H r.2 v) rows (zs.map (·.2))∧rows.length≤40
def TongAt (H:Hp) (v:V) (rows:List TongM.Rw):Prop:=∃b dx d z,v=.ref b∧H b=some (.ins T.c_Tongue dx [("rows",.ref d),("source",.str z)])∧DictW T H d rows
def TgAt (H:Hp) (v:V) (d:Addr) (rows:List TongM.Rw):Prop:=∃b dx z,v=.ref b∧H b=some (.ins T.c_Tongue dx [("rows",.ref d),("source",.str z)])∧DictAt T H d rows
end
def Vv (o:HO):Prop:=(∀xs,o≠.tup xs)∧∀C dx f s,o≠.ins C dx [(f,.str s)]
section
variable {K:W.Frag} {T:Tx K w mg}
theorem Zie (xs:List V):Vv (.lst xs):=⟨fun _ e=>(nomatch e),fun _ _ _ _ e=>(nomatch e)⟩
theorem ZgT (xs:List (Zi×V)):Vv (.dK xs):=⟨fun _ e=>(nomatch e),fun _ _ _ _ e=>(nomatch e)⟩
theorem StAt.but (h:StAt T H v s) (b:Xe D H H') (hD:∀o,H D=some o->Vv o):StAt T H' v s:=by
 obtain ⟨a,dx,rfl,h⟩:=h
 have ne:∀{C:Addr} {f:Str},H a=some (.ins C dx [(f,.str s)])->a≠D:=fun e z=>by
  subst z;exact (hD _ e).2 _ _ _ _ rfl
 exact ⟨a,dx,rfl,h.imp (fun h=>b _ _ (ne h) h) fun h=>b _ _ (ne h) h⟩
theorem PartAt.but {p:TongM.Bran} (h:PartAt T H p v) (b:Xe D H H') (hD:∀o,H D=some o->Vv o):PartAt T H' p v:=by
 obtain ⟨t,u,os,rfl,h1,h2,h3,h4⟩:=h
 have ne:∀a xs,H a=some (.tup xs)->a≠D:=fun a xs e z=>by
  subst z;exact (hD _ e).1 _ rfl
 exact ⟨t,u,os,rfl,b _ _ (ne _ _ h1) h1,b _ _ (ne _ _ h2) h2,h3.imp fun s o q=>q.but b hD,h4⟩
theorem PartsAt.but {p:List TongM.Bran} (h:PartsAt T H p v) (b:Xe D H H') (hD:∀o,H D=some o->Vv o) (hl:∀xs,H D≠some (.lst xs)):PartsAt T H' p v:=by
 obtain ⟨l,os,rfl,h1,h2,h3⟩:=h;exact ⟨l,os,rfl,b _ _ (fun z=>by subst z;exact hl _ h1) h1,h2.imp fun s o q=>q.but b hD,h3⟩
theorem DictAt.but {d:Addr} (h:DictAt T H d rows) (b:Xe D H H') (hD:∀o,H D=some o->Vv o) (hl:∀xs,H D≠some (.lst xs)) (hk:∀xs,H D≠some (.dK xs)):DictAt T H' d rows:=by
 obtain ⟨zs,h1,h2,h3,h4⟩:=h;exact ⟨zs,b _ _ (fun z=>by subst z;exact hk _ h1) h1,h2,h3.imp fun s o q=>q.but b hD hl,h4⟩
theorem PartAt.same {p:TongM.Bran} (h:PartAt T H p v) (b:Same H H'):PartAt T H' p v:=by
 obtain ⟨t,u,os,rfl,h1,h2,h3,h4⟩:=h;exact ⟨t,u,os,rfl,b _ _ h1,b _ _ h2,h3.imp fun s o q=>q.mono b,h4⟩
theorem PartsAt.same {p:List TongM.Bran} (h:PartsAt T H p v) (b:Same H H'):PartsAt T H' p v:=by
 obtain ⟨l,os,rfl,h1,h2,h3⟩:=h;exact ⟨l,os,rfl,b _ _ h1,h2.imp fun s o q=>q.same b,h3⟩
theorem DictAt.same {d:Addr} (h:DictAt T H d rows) (b:Same H H'):DictAt T H' d rows:=by
 obtain ⟨zs,h1,h2,h3,h4⟩:=h;exact ⟨zs,b _ _ h1,h2,h3.imp fun s o q=>q.same b,h4⟩
theorem Uo (h:Rd H a u) (b:Same H H'):Rd H' a u:=by
 rcases h with h|⟨o,h⟩
 ·exact .inl (b _ _ h)
 ·exact .inr ⟨o,b _ _ h⟩
theorem DictW.same {d:Addr} (h:DictW T H d rows) (b:Same H H'):DictW T H' d rows:=by
 obtain ⟨zs,h1,h2,h3,h4⟩:=h;exact ⟨zs,Uo h1 b,h2,h3.imp fun s o q=>q.same b,h4⟩
theorem TgAt.frz {d:Addr} (h:TgAt T H v d rows) (b:Xe d H H') {ob:Obj} (e:H d=some (.dK kvs)) (e':H' d=some (.frz ob (.dK kvs))):TongAt T H' v rows:=by
 obtain ⟨o,dx,z,rfl,h1,zs,k1,k2,k3,k4⟩:=h;have od:o≠d:=fun w=>by rw [w,e] at h1;cases h1
 have ek:kvs=zs.map fun p=>(.inr p.1,p.2):=by rw [e] at k1;cases k1;rfl
 have fr:∀o,H d=some o->Vv o:=fun o ho=>by rw [e] at ho;cases ho;exact ZgT _
 exact ⟨o,dx,d,z,rfl,b _ _ od h1,zs,.inr ⟨ob,by rw [←ek];exact e'⟩,k2,k3.imp fun s o q=>q.but b fr fun xs w=>(by rw [e] at w;cases w),k4⟩
theorem TongAt.same (h:TongAt T H v rows) (b:Same H H'):TongAt T H' v rows:=by
 obtain ⟨o,dx,d,z,rfl,h1,h2⟩:=h;exact ⟨o,dx,d,z,rfl,b _ _ h1,h2.same b⟩
end
theorem Zgy {n:Str}:∀{zs:List (Str×V)},n∉zs.map (·.1)->ZD (zs.map fun p=>((.inr p.1:Zi),p.2)) (.inr n)=none
 |[],_=>rfl
 |p::zs,h=>by
  have h1:¬((.inr p.1:Zi))=.inr n:=fun e=>h (by rw [←Re e];simp);rw [Qs,Xd h1];exact Zgy fun z=>h (Qx _ z)
theorem Zdp {n:Str} {v:V}:∀{zs:List (Str×V)} {i:Nat},(zs.map (·.1)).Nodup->zs[i]?=some (n,v)->ZD (zs.map fun p=>((.inr p.1:Zi),p.2)) (.inr n)=some v
 |[],_,_,e=>by cases e
 |p::zs,0,_,e=>by
  cases (show p=(n,v) by simpa using e);rw [Qs,Xf rfl]
 |p::zs,i+1,nd,e=>by
  have e2:zs[i]?=some (n,v):=by simpa using e
  have VI:=QP.mp (show (p.1::zs.map (·.1)).Nodup from nd);have h1:¬((.inr p.1:Zi))=.inr n:=fun z=>VI.1 (by rw [Re z];exact Qg.mpr ⟨_,Qy e2,rfl⟩);rw [Qs,Xd h1];exact Zdp VI.2 e2
theorem ZfF {zs:List (Str×V)} (h:n∉zs.map (·.1)):Yh (zs.map fun p=>((.inr p.1:Zi),p.2)) (.inr n) v=(zs++[(n,v)]).map fun p=>((.inr p.1:Zi),p.2):=by
 unfold Yh;rw [Qa,Qm]
 ·rfl
 ·intro t;obtain ⟨q,hq,e⟩:=Gj.mp t;obtain ⟨p,hp,rfl⟩:=Qg.mp hq;have e2:(.inr p.1:Zi)=.inr n:=QM e;exact h (by rw [←Re e2];exact Qg.mpr ⟨p,hp,rfl⟩)
theorem Zi9 {α:Type} {l:List α} (h:1≤l.length):l≠[]:=fun e=>by subst e;simp at h
noncomputable def Yb (B:Bk) (m a b:Str):Bool:=if m="other" then decide (a≠b) else if m="elder" then decide (ZX B b<ZX B a) else if m="younger" then decide (ZX B a<ZX B b) else true
theorem StAt.isi {K:W.Frag} {T:Tx K w mg} {x:V} (h:StAt T H x s):∃ty,Kd K H x ty∧W.kitOne K ty (.ref T.c_Said)=some false:=by
 obtain ⟨a,dx,rfl,h|h⟩:=h
 ·exact ⟨_,.of (.ins h T.cl_Letter T.ci_Letter T.cg T.ct T.mo_Letter),T.kp_Letter⟩
 ·exact ⟨_,.of (.ins h T.cl_Test T.ci_Test T.cg T.ct T.mo_Test),T.kp_Test⟩
theorem Zc4 (h:Known B n):∃p s d f m,Z3 n B.kept=some p∧p.1=.born n s d f m∧ZX B n=d:=by
 cases e:Z3 n B.kept with
 |none=>exact absurd e h
 |some p =>
  obtain ⟨_,hb⟩:=UL e;obtain ⟨x,a⟩:=p;cases x with
  |born n' s d f m =>
   cases (show n'=n from Ql hb);exact ⟨_,s,d,f,m,rfl,rfl,U3 e rfl⟩
  |_=>cases hb
noncomputable def XA (B:Bk) (m a b:Str):Option V:=if Yb B m a b=true then some (.str b) else none
theorem J1 (B:Bk) (m a:Str):∀zs:List Str,(zs.map (XA B m a)).filterMap id=(zs.filter (Yb B m a)).map V.str
 |[]=>rfl
 |z::zs=>by
  have ih:=J1 B m a zs;rw [Qs,Q4,R0];by_cases h:Yb B m a z=true
  ·rw [show XA B m a z=some (.str z) from Qb h,Qb h];show V.str z::_=_;rw [ih];rfl
  ·rw [show XA B m a z=none from Qa h,Qa h];exact ih
theorem ZaL (h:n∉rs.map (·.1)):ZD (YS rs) (.inr n)=none:=by
 cases hv:ZD (YS rs) (.inr n) with
 |none=>rfl
 |some v =>
  exfalso;unfold ZD at hv;obtain ⟨p,hp,_⟩:=QN.mp hv;have m:=List.mem_of_find?_eq_some hp;have e:p.1=Sum.inr n:=by have:=List.find?_some hp;simpa using this
  obtain ⟨r,hr,rfl⟩:=Qg.mp m;exact h (Qg.mpr ⟨r,hr,Re e⟩)
theorem ZgB (h:n∉rs.map (·.1)) (D:Addr) (zs:List Str):Yh (YS rs) (.inr n) (.ref D)=YS (rs++[(n,D,zs)]):=by
 rw [VE _ (ZaL h)];unfold YS;rw [Qm];rfl
theorem DGet.kr {k:Zi} (e:Rd H a (.dK kvs)):DGet H a (kV k) (ZD kvs k):=.inl ⟨kvs,k,e,rfl,rfl⟩
abbrev Ub:=List (Str×Addr×WR)
noncomputable def YJ (tab:Ub):List (Zi×V):=tab.map fun q=>(.inr q.1,.ref q.2.1)
theorem Zb9 (tab:Ub):YJ tab=YS (tab.map fun q=>(q.1,q.2.1,[])):=by unfold YJ YS;rw [QH];rfl
theorem ZmF {tab:Ub} {u:Str} (h:u∉tab.map (·.1)) (k:Addr) (rs:WR):Yh (YJ tab) (.inr u) (.ref k)=YJ (tab++[(u,k,rs)]):=by
 rw [Zb9,ZgB (by rw [QH];exact h) k [],Zb9,Qm];rfl
noncomputable def YA (es:List Ent):List (Str×V):=es.filterMap fun e=>match e with
 |.born n _ d _ _=>some (n,.int d)
 |_=>none
theorem ZhF (es:List Ent) (e:Ent):YA (es++[e])=YA es++YA [e]:=by unfold YA;rw [Rk]
theorem Zav (es:List Ent):(YA es).map (·.1)=es.filterMap Ent.bornName:=by
 unfold YA;rw [NN]
 congr 1
 funext e
 cases e<;>rfl
theorem ZjT (nd:(es.filterMap Ent.bornName).Nodup) (h:Ent.born n s d f m∈es):ZD (Y7 (YA es)) (.inr n)=some (.int d):=by
 have hm:(n,V.int d)∈YA es:=Rg.mpr ⟨_,h,rfl⟩;obtain ⟨i,hi⟩:=GN hm;exact Zdp (by rw [Zav];exact nd) hi
theorem Jn.day {ls:XI} {F:ZN} (j:Jn pool B es ls F) (h:Known B n):∃s f m,Ent.born n s (ZX B n) f m∈es:=by
 obtain ⟨p,s,d,f,m,e,ep,rfl⟩:=Zc4 h;have hm:p.1∈B.kept.map (·.1):=Qg.mpr ⟨p,(UL e).1,rfl⟩;rw [j.hk,ep] at hm;exact ⟨s,f,m,Vo.mp hm⟩
noncomputable def YK:List Str:=["","other","elder","younger"]
noncomputable def Xy:List Str:=["kina","kinb","kinc","kind"]
theorem BkAt.offT {K:W.Frag} {k c:Addr} {w:List (Zi×V)} (h:BkAt K C H b dx k bi li ti su B) (e:H c=some (.dK w)) (n:c∉ft k bi li ti su B):BkAt K C (Zb H c o) b dx k bi li ti su B:=by
 have off:∀{a:Addr} {o':HO},H a=some o'->(∀ys,o'≠.dK ys)->Zb H c o a=some o':=fun {a o'} ea no=>(Zg (fun z=>by subst z;rw [e] at ea;cases ea;exact no _ rfl)).trans ea
 exact ⟨off h.ob (fun _ z=>by cases z),h.ap,h.at',off h.ke (fun _ z=>by cases z),(Zg fun z=>n (Q9 _ (by rw [←z];simp))).trans h.bi,off h.li (fun _ z=>by cases z),off h.ti (fun _ z=>by cases z),off h.su (fun _ z=>by cases z),
  fun p hp=>YI (h.en p hp) e (fun _ z=>by cases z) (fun _ _ z=>by cases z),fun q hq=>off (h.ll q hq) (fun _ z=>by cases z),fun q hq=>(Zg fun z=>n (Q5 _ (Qg.mpr ⟨q,hq,z⟩))).trans (h.tt q hq)⟩
theorem Zp6 (s:Same (Zb H a o) H'):Same (Zb H a o') (Zb H' a o'):=fun c u e=>by
 by_cases z:c=a
 ·rw [z,Ze] at e ⊢;exact e
 ·rw [Zg z] at e ⊢;exact s _ _ (by rw [Zg z];exact e)
theorem JH {c:Addr}:Zb H a o c=none↔c≠a∧H c=none:=by
 by_cases z:c=a
 ·rw [z,Ze];simp
 ·rw [Zg z];simp [z]
theorem ZfP {P:Str->Prop}:∀{ys:List V},(∀y∈ys,∃s,P s∧y=.str s)->∃ps:List Str,ys=ps.map V.str∧∀s∈ps,P s
 |[],_=>⟨[],rfl,fun s h=>(by cases h)⟩
 |y::ys,h=>by
  obtain ⟨ps,rfl,hp⟩:=ZfP (ys:=ys) fun z hz=>h z (Qx _ hz);obtain ⟨s,hs,rfl⟩:=h y (by simp);exact ⟨s::ps,rfl,fun z hz=>(Qh.mp hz).elim (fun e=>e▸hs) (hp z)⟩
noncomputable def V9:List Str:=["F","f","M","m","S","T","t","he","she"]
theorem Zqy:∀s∈V9,s∈Yg:=by trivial
theorem ZmD (ps:List Str) (lo hi:Option Int):∃qs:List Str,YU (ps.map V.str) lo hi=qs.map V.str∧(∀s∈qs,s∈ps)∧qs.length≤ps.length :=
 ⟨(ps.drop (HT.sIx ps.length 0 lo)).take (HT.sIx ps.length ps.length hi-HT.sIx ps.length 0 lo),by unfold YU;rw [Nt,List.map_drop,Qd],fun s h=>List.mem_of_mem_drop (Rz h),by rw [QV,Gw];omega⟩
theorem Zlr (c:Int):∃m0 m1 m2 m3:Str,YU (YK.map V.str) (some (c.fmod 4)) none++YU (YK.map V.str) none (some (c.fmod 4))=[m0,m1,m2,m3].map V.str∧∀m∈[m0,m1,m2,m3],m∈YK:=by
 have h:0≤c.fmod 4∧c.fmod 4<4:=⟨QZ _ (by decide),Rb _ (by decide)⟩;generalize c.fmod 4=r at h;obtain rfl|rfl|rfl|rfl:r=0∨r=1∨r=2∨r=3:=by omega
 ·exact ⟨"","other","elder","younger",rfl,by trivial⟩
 ·exact ⟨"other","elder","younger","",rfl,by trivial⟩
 ·exact ⟨"elder","younger","","other",rfl,by trivial⟩
 ·exact ⟨"younger","","other","elder",rfl,by trivial⟩
noncomputable def bs4 (ps:List Str) (m0 m1 m2 m3:Str):List (Str×TongM.Bran):=[("kina",(ps,m0)),("kinb",(ps,m1)),("kinc",(ps,m2)),("kind",(ps,m3))]
noncomputable def Wl (ps:List Str) (m0 m1 m2 m3:Str):List TongM.Rw:=(bs4 ps m0 m1 m2 m3).map fun q=>(q.1,[q.2])
theorem ZjY:∀w∈Xy,TongM.Nm w:=fun w h=>by
 have e:∀w∈Xy,1≤w.length∧w.length≤8∧∀c∈w.cps.toList,c∈TongM.alpha.cps.toList:=by trivial
 exact ⟨(e w h).1,(e w h).2.1,(e w h).2.2⟩
theorem ZjF {ps:List Str} {m0 m1 m2 m3:Str} (lo:1≤ps.length) (hi:ps.length≤12) (p9:∀s∈ps,s∈Yg) (hm:∀m∈[m0,m1,m2,m3],m∈YK):TongM.GoodR (Wl ps m0 m1 m2 m3) where
 ne:=fun h=>by cases h
 hi:=by show 4≤40;decide
 nd:=show Xy.Nodup by trivial
 nm:=fun r hr=>by
  refine ZjY r.1 ?_;have:r.1∈(Wl ps m0 m1 m2 m3).map (·.1):=Qg.mpr ⟨r,hr,rfl⟩;exact this
 br:=fun i r hr=>by
  obtain ⟨q,hq,rfl⟩:=Qg.mp (Qy hr);refine ⟨by simp,by show 1≤8;decide,fun b hb=>?_⟩;obtain rfl:=QT.mp hb
  have h1:q.2.1=ps∧q.2.2∈[m0,m1,m2,m3]:=by
   have:=hq;simp only [bs4,Qh,QR,QS] at this;rcases this with rfl|rfl|rfl|rfl<;>simp
  refine ⟨by rw [h1.1];exact lo,by rw [h1.1];exact hi,?_,fun p hp=>.inl (p9 p (h1.1▸hp))⟩;have h2:=hm _ h1.2;exact (show ∀m∈YK,m=""∨m∈TongM.marks by trivial) _ h2
theorem ZpU (h:m∈YK):YU [V.str m] none (some (m.length:Int))=(if m="" then [] else [m]).map V.str:=by
 have h':m=""∨m="other"∨m="elder"∨m="younger":=by simpa [YK] using h
 rcases h' with rfl|rfl|rfl|rfl<;>rfl
theorem ZqB (x:Str) (sep:Str):sep.join [x]=x:=by
 apply TongM.str_eq;rfl
theorem Zfb {w:Str} {ps:List Str} (lo:1≤ps.length):w++(" = " : Str)++Str.join (" " : Str) (ps++(if m="" then [] else [m]))=TongM.rowTxt (w,[(ps,m)]):=by
 have e:=TongM.lineOf_eq (b:=(ps,m)) (fun z=>by have:ps=[]:=z;rw [this] at lo;simp at lo);show _=w++TongM.equ++TongM.bar.join [TongM.lineOf (ps,m)];rw [ZqB,e];rfl
theorem Zb3 {n:Nat}:∀{l:List Str},(∀x∈l,x.length≤n)->(l.map (·.length)).sum≤n*l.length
 |[],_=>QL _
 |x::r,h=>by
  have h1:=h x (by simp);have h2:=Zb3 (n:=n) (l:=r) fun x hx=>h x (Qx _ hx);rw [Qs,List.sum_cons,QG,Nat.mul_succ];omega
theorem SrtOf.filt {P:Str->Prop} (h:SrtOf P zs) (f:Str->Bool):SrtOf (fun y=>P y∧f y=true) (zs.filter f):=⟨h.up.sublist List.filter_sublist,h.nd.sublist List.filter_sublist,fun x=>by rw [Q0,h.mem]⟩
theorem EdAt.but {c:Addr} {w:List (Zi×V)} (h:EdAt H D ed) (b:Xe c H H') (hc:H c=some (.dK w)):EdAt H' D ed :=
 ⟨b _ _ (fun z=>by have:=h.d;rw [z,hc] at this;cases this) h.d,fun q hq=>b _ _ (fun z=>by have:=h.l q hq;rw [z,hc] at this;cases this) (h.l q hq),h.an,h.kn⟩
theorem ZlB {tab:Ub} {ws:List Str} (e:tab.map (·.1)=ws) (nd:ws.Nodup) {w:Str} (hi:ws[i]?=some w):∃q,q∈tab∧q.1=w∧ZD (YJ tab) (.inr w)=some (.ref q.2.1):=by
 rw [←e,Qp] at hi;obtain ⟨q,hq,rfl⟩:=QN.mp hi;refine ⟨q,Qy hq,rfl,Zbx (f:=fun q:Str×Addr×WR=>(.inr q.1:Zi)) (g:=fun q=>V.ref q.2.1) ?_ (Qy hq)⟩;rw [←e] at nd;exact GM.mpr ((GM.mp nd).imp fun h z=>h (Re z))
theorem Zlw (e:rs.map (·.1)=ns) (nd:ns.Nodup) (h:n∈ns):∃r∈rs,r.1=n∧ZD (YS rs) (.inr n)=some (.ref r.2.1):=by
 rw [←e] at h;obtain ⟨r,hr,rfl⟩:=Qg.mp h;refine ⟨r,hr,rfl,Zbx (f:=fun r:Str×Addr×List Str=>(.inr r.1:Zi)) (g:=fun r=>V.ref r.2.1) ?_ hr⟩;rw [←e] at nd;exact GM.mpr ((GM.mp nd).imp fun h z=>h (Re z))
theorem ZaW {n:Nat} (h:n≤100):n≤sizeLine:=Q1 (Zy (by omega))
theorem w4n:∀w∈Xy,Nm w:=fun w h=>by
 simp only [Xy,Qh,QR,QS] at h;rcases h with rfl|rfl|rfl|rfl<;>exact ⟨by trivial,by trivial,by trivial⟩
section
variable {K:W.Frag}
theorem ZoS:FnScope ["thing"] ["thing"] (Zx Zdq):=ZJ
def Zmo (T:Tx K w mg):Sp:=fun vs H Q E=>vs.length=1∧(∃x t,vs=[x]∧Vw K H x t∧∀H',Same H H'->Q (.bl (Vk.isI t)) H')
theorem Zps:FnScope ["thing"] ["thing"] (Zx Zez):=ZJ
def Zib (T:Tx K w mg):Sp:=fun vs H Q E=>vs.length=1∧(∃x t,vs=[x]∧Vw K H x t∧∀H',Same H H'->Q (.bl (WW t)) H')
theorem ZmB:FnScope ["thing"] ["thing"] (Zx ZdC):=ZJ
def Zhf (T:Tx K w mg):Sp:=fun vs H Q E=>vs.length=1∧(∃x t,vs=[x]∧Vw K H x t∧∀H',Same H H'->Q (.bl (ZbW t)) H')
theorem Zpu:FnScope ["thing"] ["thing"] (Zx ZcF):=ZJ
def Zig (T:Tx K w mg):Sp:=fun vs H Q E=>vs.length=1∧(∃x t,vs=[x]∧Vw K H x t∧∀H',Same H H'->Q (.bl (ZeT t)) H')
theorem Zow:FnScope ["thing"] ["thing"] (Zx ZbN):=ZJ
def ZfS (T:Tx K w mg):Sp:=fun vs H Q E=>vs.length=1∧(∃x t,vs=[x]∧Vw K H x t∧∀H',Same H H'->Q (.bl (VU t)) H')
theorem ZpB:FnScope ["thing"] ["thing"] (Zx ZcQ):=ZJ
def ZhQ (T:Tx K w mg):Sp:=fun vs H Q E=>vs.length=1∧(∃x t,vs=[x]∧Vw K H x t∧∀H',Same H H'->Q (.bl (JJ t)) H')
theorem ZjV:FnScope ["parts","checks"] ["parts","checks"] (Zx ZcC):=ZJ
def Zpm (T:Tx K w mg):Sp:=fun vs H Q E=>vs.length=2∧(∃a b xs ts cs,vs=[.ref a,.ref b]∧SqT K H a xs∧Vws K H xs ts∧SqT K H b (cs.map fun c=>.ref (T.ad c))∧cs.length≤10∧∀H',Same H H'->Q (.bl (XZ cs ts)) H')
theorem Zcz:FnScope ["thing","word","checks"] ["thing"] (Zx Zc7):=ZJ
def Zjz (T:Tx K w mg):Sp:=fun vs H Q E=>vs.length=1∧(∃x,vs=[x]∧((∃t,Vw K H x t∧t.isT=false∧∀H',Same H H'->Q (.bl false) H')∨∃ts,Tv K H x ts∧ts.length≤10∧∀H',Same H H'->Q (.bl (Vi ts)) H'))
theorem Zn6:FnScope ["entry"] ["entry"] (Zx Zb8):=ZJ
def Zj0 (T:Tx K w mg):Sp:=fun vs H Q E=>vs.length=1∧(∃v e,vs=[v]∧EntAt K H v e∧∀H',Same H H'->Q (.bl e.tie) H')
theorem ZjP:FnScope ["entry"] ["entry"] (Zx ZcT):=ZJ
def ZkN (T:Tx K w mg):Sp:=fun vs H Q E=>vs.length=1∧(∃v e,vs=[v]∧EntAt K H v e∧∀H' D,Same H H'->H D=none->SqL K H' D (e.named.map V.str)->Q (.ref D) H')
theorem Zoe:FnScope ["entry"] ["entry"] (Zx Zet):=ZJ
def Zjt (T:Tx K w mg):Sp:=fun vs H Q E=>vs.length=1∧(∃v e,vs=[v]∧EntAt K H v e∧Q (.int e.day) H)
theorem ZhR:FnScope ["entry","names"] ["entry"] (Zx Zef):=ZJ
def Zk5 (T:Tx K w mg):Sp:=fun vs H Q E=>vs.length=1∧(∃v e,vs=[v]∧EntAt K H v e∧∀H' u,Same H H'->EntAt K H' u e.told->Q u H')
theorem Zj7:FnScope ["entry"] ["entry"] (Zx ZbT):=ZJ
def Zmi (T:Tx K w mg):Sp:=fun vs H Q E=>vs.length=1∧(∃v e,vs=[v]∧EntAt K H v e∧∀H' p,Same H H'->H p=none->H' p=some (.tup (e.told.key.map kV))->Q (.ref p) H')
theorem ZlJ:FnScope ["thing"] ["thing"] (Zx Zev):=ZJ
def Zmy (T:Tx K w mg):Sp:=fun vs H Q E=>vs.length=1∧(∃x,vs=[x]∧((∃ty,Kd K H x ty∧W.kitOne K ty (.type "str")=some false∧Q (.bl false) H)∨∃l,x=.str l∧Q (.bl (Wf l)) H))
theorem Zl4:FnScope ["one","other"] ["one","other"] (Zx ZeM):=ZJ
def ZoV (T:Tx K w mg):Sp:=fun vs H Q E=>vs.length=2∧(∃a b,vs=[.str a,.str b]∧∀H' p,Same H H'->H p=none->H' p=some (.tup [.str (Zd a b).1,.str (Zd a b).2])->Q (.ref p) H')
theorem Zld:FnScope ["self"] ["self"] (Zx Zda):=ZJ
def Zmj (T:Tx K w mg):Sp:=fun vs H Q E=>vs.length=1∧(∃b dx,vs=[.ref b]∧H b=some (.ins T.c_Book dx [])∧∀H' k bi li ti su,BkAt K T.c_Book H' b dx k bi li ti su VO->(∀c o,H c=some o->c≠b->H' c=some o)->H k=none->H bi=none->H li=none->H ti=none->H su=none->Q .non H')
theorem Zqv:FnScope ["self","name"] ["self","name"] (Zx ZeU):=ZJ
def Zjl (T:Tx K w mg):Sp:=fun vs H Q E=>vs.length=2∧(∃v x B,vs=[v,x]∧BkHas K T.c_Book H v B∧((∃ty,Kd K H x ty∧W.kitOne K ty (.type "str")=some false∧E (.ref T.c_NoPerson) none H)∨∃n,x=.str n∧(Z3 n B.kept=none->E (.ref T.c_NoPerson) none H)∧∀p,Z3 n B.kept=some p->Q (.ref p.2) H))
theorem Zoa:FnScope ["self","name"] ["self","name"] (Zx Zc0):=ZJ
def ZkT (T:Tx K w mg):Sp:=fun vs H Q E=>vs.length=2∧(∃v x B,vs=[v,x]∧BkHas K T.c_Book H v B∧((∃ty,Kd K H x ty∧W.kitOne K ty (.type "str")=some false∧E (.ref T.c_NoPerson) none H)∨∃n,x=.str n∧(Z3 n B.kept=none->E (.ref T.c_NoPerson) none H)∧∀p,Z3 n B.kept=some p->∀n' s d f m,p.1=.born n' s d f m->Q (.str s) H))
theorem ZoK:FnScope ["self","name"] ["self","name"] (Zx Zd7):=ZJ
def Zkq (T:Tx K w mg):Sp:=fun vs H Q E=>vs.length=2∧(∃v x B,vs=[v,x]∧BkHas K T.c_Book H v B∧((∃ty,Kd K H x ty∧W.kitOne K ty (.type "str")=some false∧E (.ref T.c_NoPerson) none H)∨∃n,x=.str n∧(Z3 n B.kept=none->E (.ref T.c_NoPerson) none H)∧∀p,Z3 n B.kept=some p->∀n' s d f m,p.1=.born n' s d f m->Q (.int d) H))
theorem Zjc:FnScope ["self","name","sort","day"] ["self","name","sort","day"] (Zx ZbO):=ZJ
def ZmQ (T:Tx K w mg):Sp:=fun vs H Q E=>vs.length=4∧(∃v n s d B,vs=[v,.str n,.str s,.int d]∧BkHas K T.c_Book H v B∧(n≠""->Known B n)∧Q (.bl (XT B n s d)) H)
theorem Zf7:FnScope ["self","entry","names"] ["self","entry"] (Zx Zd0):=ZJ
def Zmc (T:Tx K w mg):Sp:=fun vs H Q E=>vs.length=2∧(∃v x B e,vs=[v,x]∧BkHas K T.c_Book H v B∧EntAt K H x e∧(∀n∈e.named,Known B n)∧∀H',Same H H'->Q (.bl (Ws B e)) H')
theorem Zf4:FnScope ["self","entry","name"] ["self","entry"] (Zx Zdm):=ZJ
def Zkk (T:Tx K w mg):Sp:=fun vs H Q E=>vs.length=2∧(∃v x B e,vs=[v,x]∧BkHas K T.c_Book H v B∧EntAt K H x e∧e.Ok∧Wb B e=none∧∀H',Same H H'->Q .non H')
theorem Zpb:FnScope ["self","letter","begin","end"] ["self","letter","begin","end"] (Zx ZeI):=ZJ
def Zl9 (T:Tx K w mg):Sp:=fun vs H Q E=>vs.length=4∧(∃b dx k bi li ti su B l n m,vs=[.ref b,.str l,.str n,.str m]∧BkAt K T.c_Book H b dx k bi li ti su B∧(Yy B l n).length≤61∧B.links.length≤900∧∀H' D,BkAt K T.c_Book H' b dx k bi li ti su { B with links:=Zo B.links (l,n) (D,Zw (Yy B l n++[m])) }->But [li] H H'->H D=none->Q .non H')
theorem Zll:FnScope ["self","entry"] ["self","entry"] (Zx Zcr):=ZJ
def Zji (T:Tx K w mg):Sp:=fun vs H Q E=>vs.length=2∧(∃b dx k bi li ti su B0 B n s d f m a,vs=[.ref b,.ref a]∧B.kept=B0++[(.born n s d f m,a)]∧H b=some (.ins T.c_Book dx (WP k bi li ti su))∧H bi=some (.dK (Bk.bornD B0))∧Z3 n B0=none∧B0.length≤900∧SqT K H a ((Ent.born n s d f m).row.map kV)∧BkAt K T.c_Book (Zb H bi (.dK (Bk.bornD B.kept))) b dx k bi li ti su B∧B.links.length≤890∧(∀c,(lk B.links c).length≤61)∧∀H' ls,BkAt K T.c_Book H' b dx k bi li ti su { B with links:=ls }->(∀c,lk ls c=XC (lk B.links) n f m c)->ls.length≤B.links.length+4->But [bi,li] H H'->Grows H B.links ls->Q .non H')
theorem Zjx:FnScope ["self","letter","name"] ["self","letter","name"] (Zx ZcD):=ZJ
def ZnP (T:Tx K w mg):Sp:=fun vs H Q E=>vs.length=3∧(∃v x y B,vs=[v,x,y]∧BkHas K T.c_Book H v B∧((∃ty,Kd K H x ty∧W.kitOne K ty (.type "str")=some false∧E (.ref T.c_NoWay) none H)∨∃l,x=.str l∧(Wf l=false->E (.ref T.c_NoWay) none H)∧(Wf l=true->((∃ty,Kd K H y ty∧W.kitOne K ty (.type "str")=some false∧E (.ref T.c_NoPerson) none H)∨∃n,y=.str n∧(Z3 n B.kept=none->E (.ref T.c_NoPerson) none H)∧(Known B n->∀H' D,Same H H'->H D=none->H' D=some (.lst ((Yy B l n).map V.str))->Q (.ref D) H')))))
theorem Zca:FnScope ["self","one","other","day","ties","days"] ["self","one","other","day"] (Zx WL):=ZJ
def ZkJ (T:Tx K w mg):Sp:=fun vs H Q E=>vs.length=4∧(∃v a c B,vs=[v,.str a,.str c,.non]∧BkHas K T.c_Book H v B∧Known B a∧Known B c∧(Yx B (Zd a c)).length≤900∧∀H',Same H H'->Q (.bl (Za1 B a c)) H')
theorem Zbd:FnScope ["self","entry","days","begin","end"] ["self","entry"] (Zx Zb2):=ZJ
def Zkt (T:Tx K w mg):Sp:=fun vs H Q E=>vs.length=2∧(∃b dx k bi li ti su B a kd p1 p2 d,vs=[.ref b,.ref a]∧SqT K H a [.str kd,.str p1,.str p2,.int d]∧BkAt K T.c_Book H b dx k bi li ti su B∧Known B p1∧Known B p2∧(B.ties.map (·.1)).Nodup∧B.ties.length≤800∧(Yx B (Zd p1 p2)).length≤800∧B.links.length≤880∧(∀c,(lk B.links c).length≤60)∧∀H' ls ts y,BkAt K T.c_Book H' b dx k bi li ti su { B with links:=ls,ties:=ts }->(ts.map (·.1)).Nodup->ts.length≤B.ties.length+1->(∀c,Y8 ts c=if c=Zd p1 p2 then Zo (Yx B (Zd p1 p2)) d kd else Yx B c)->(∀c,lk ls c=ZM (ZM (lk B.links) (YR (Zo (Yx B (Zd p1 p2)) d kd)) p1 p2) (YR (Zo (Yx B (Zd p1 p2)) d kd)) p2 p1 c)->ls.length≤B.links.length+4->But [li,ti,y] H H'->(H y=none∨y∈B.ties.map (·.2.1))->GrowsT H B.ties ts->Grows H B.links ls->Q .non H')
theorem ZcX:FnScope ["self","entry","told","given"] ["self","entry"] (Zx Zd5):=ZJ
def ZlR (T:Tx K w mg):Sp:=fun vs H Q E=>vs.length=2∧(∃b dx k bi li ti su B x e,vs=[.ref b,x]∧BkAt K T.c_Book H b dx k bi li ti su B∧EntAt K H x e∧e.Ok∧Wb B e=none∧Room1 B∧∀H' B' y,BkAt K T.c_Book H' b dx k bi li ti su B'->Put B e B'->But [k,bi,li,ti,su,y] H H'->(H y=none∨y=bi∨y∈B.ties.map (·.2.1))->Grows H B.links B'.links->GrowsT H B.ties B'.ties->Q .non H')
theorem Zo1:FnScope ["self"] ["self"] (Zx ZcO):=ZJ
def Zpd (T:Tx K w mg):Sp:=fun vs H Q E=>vs.length=1∧(∃v B,vs=[v]∧BkHas K T.c_Book H v B∧(Z2 B.kept).length<64∧∀H' D,Same H H'->H D=none->H' D=some (.lst ((Zw (Z2 B.kept)).map V.str))->Q (.ref D) H')
theorem Zj8:FnScope ["thing"] ["thing"] (Zx Zdn):=ZJ
def Zpg (T:Tx K w mg):Sp:=fun vs H Q E=>vs.length=1∧(∃x,vs=[.str x]∧Q (.bl (Vr x)) H)
theorem ZpQ:FnScope ["book","step","name"] ["book","step","name"] (Zx ZdA):=ZJ
def ZnD (T:Tx K w mg):Sp:=fun vs H Q E=>vs.length=3∧(∃v s n B,vs=[v,.str s,.str n]∧BkHas K T.c_Book H v B∧s∈Yg∧Known B n∧∀H' D',Same H H'->H D'=none->H' D'=some (.lst ((YE B s n).map V.str))->Q (.ref D') H')
theorem ZjX:FnScope ["self","letter"] ["self","letter"] (Zx Zcu):=ZJ
def Zop (T:Tx K w mg):Sp:=fun vs H Q E=>vs.length=2∧(∃a dx x,vs=[.ref a,.str x]∧H a=some (.ins T.c_Letter dx [])∧Q .non (Zb H a (.ins T.c_Letter dx [("letter",.str x)])))
theorem ZoD:FnScope ["self","book","table","name"] ["self","book","table","name"] (Zx Zc8):=ZJ
def Zck (T:Tx K w mg):Sp:=fun vs H Q E=>vs.length=4∧(∃a dx s v t n B,vs=[.ref a,v,t,.str n]∧H a=some (.ins T.c_Letter dx [("letter",.str s)])∧BkHas K T.c_Book H v B∧s∈Yg∧Known B n∧∀H' D',Same H H'->H D'=none->H' D'=some (.lst ((YE B s n).map V.str))->Q (.ref D') H')
theorem ZkH:FnScope ["self","sort"] ["self","sort"] (Zx Zcq):=ZJ
def ZiW (T:Tx K w mg):Sp:=fun vs H Q E=>vs.length=2∧(∃a dx x,vs=[.ref a,.str x]∧H a=some (.ins T.c_Test dx [])∧Q .non (Zb H a (.ins T.c_Test dx [("wanted",.str x)])))
theorem Zo5:FnScope ["self","book","table","name"] ["self","book","table","name"] (Zx Zd1):=ZJ
def ZdZ (T:Tx K w mg):Sp:=fun vs H Q E=>vs.length=4∧(∃a dx s v t n B,vs=[.ref a,v,t,.str n]∧H a=some (.ins T.c_Test dx [("wanted",.str s)])∧BkHas K T.c_Book H v B∧s∈Yg∧Known B n∧∀H' D',Same H H'->H D'=none->H' D'=some (.lst ((YE B s n).map V.str))->Q (.ref D') H')
theorem Zln:FnScope ["self","word"] ["self","word"] (Zx Zes):=ZJ
def Zme (T:Tx K w mg):Sp:=fun vs H Q E=>vs.length=2∧(∃a dx x,vs=[.ref a,.str x]∧H a=some (.ins T.c_Said dx [])∧Q .non (Zb H a (.ins T.c_Said dx [("word",.str x)])))
theorem Zmr:FnScope ["self","book","table","name"] ["self","book","table","name"] (Zx ZbS):=ZJ
def ZdM (T:Tx K w mg):Sp:=fun vs H Q E=>vs.length=4∧(False)
theorem Zbo:FnScope ["self","book","table","names","found","name","other"] ["self","book","table","names"] (Zx ZcY):=ZJ
def WU (T:Tx K w mg):Sp:=fun vs H Q E=>vs.length=4∧(∃(x v t:V) (l:Addr) (ns:List Str) (L:Str->List Str->Prop) (f:Str->List Str) (pool:List Str),vs=[x,v,t,.ref l]∧PcAt T H x v t L∧SqL K H l (ns.map V.str)∧ns.length≤100∧(∀n∈ns,L n (f n))∧(∀n∈ns,∀y∈f n,y∈pool)∧pool.length≤60∧∀H' D' ys,Same H H'->H D'=none->H' D'=some (.lst (ys.map V.str))->SrtOf (fun y=>∃n∈ns,y∈f n) ys->Q (.ref D') H')
theorem Znc:FnScope ["book","mark","one","other"] ["book","mark","one","other"] (Zx Zb0):=ZJ
def ZmJ (T:Tx K w mg):Sp:=fun vs H Q E=>vs.length=4∧(∃v m a b B,vs=[v,.str m,.str a,.str b]∧BkHas K T.c_Book H v B∧Known B a∧Known B b∧Q (.bl (Yb B m a b)) H)
theorem Zku:FnScope ["text","rows"] ["text","rows"] (Zx ZdN):=ZJ
def Zjk (T:Tx K w mg):Sp:=fun vs H Q E=>vs.length=2∧(∃z d,vs=[.str z,.ref d]∧z∈Yg∧∀H' v,Same H H'->StAt T H' v z->Q v H')
theorem ZbG:FnScope ["text","rows","pieces","mark"] ["text","rows"] (Zx ZdO):=ZJ
def Znx (T:Tx K w mg):Sp:=fun vs H Q E=>vs.length=2∧(∃z d ws b,vs=[.str z,.ref d]∧z.length≤1000∧TongM.PartT ws z b∧(∀p∈b.1,p∈Yg)∧∀H' v,Same H H'->PartAt T H' b v->Q v H')
theorem Zfr:FnScope ["text","rows","parts"] ["text","rows"] (Zx Zcg):=ZJ
def ZpA (T:Tx K w mg):Sp:=fun vs H Q E=>vs.length=2∧(∃z d ws bs,vs=[.str z,.ref d]∧z.length≤10000∧TongM.PartsT ws z bs∧(∀b∈bs,∀p∈b.1,p∈Yg)∧∀H' v,Same H H'->PartsAt T H' bs v->Q v H')
theorem Ua:FnScope ["text","lines","rows","line","halves","word"] ["text"] (Zx ZcP):=ZJ
def ZqE (T:Tx K w mg):Sp:=fun vs H Q E=>vs.length=1∧(∃z rows,vs=[.str z]∧z.length≤100000∧TongM.RowsT z rows∧(∀r∈rows,Nm r.1∧∀b∈r.2,∀p∈b.1,p∈Yg)∧∀H' d,Same H H'->H d=none->DictAt T H' d rows->Q (.ref d) H')
theorem Zne:FnScope ["self","text"] ["self","text"] (Zx ZcN):=ZJ
def ZnJ (T:Tx K w mg):Sp:=fun vs H Q E=>vs.length=2∧(∃b dx z rows,vs=[.ref b,.str z]∧z.length≤100000∧H b=some (.ins T.c_Tongue dx [])∧TongM.RowsT z rows∧(∀r∈rows,Nm r.1∧∀b∈r.2,∀p∈b.1,p∈Yg)∧∀H' d,Xe b H H'->H d=none->TgAt T H' (.ref b) d rows->Q .non H')
theorem Zgh:FnScope ["self","book","table","piece","names","name"] ["self","book","table","piece","names"] (Zx Zcf):=ZJ
def ZjM (T:Tx K w mg):Sp:=fun vs H Q E=>vs.length=5∧(∃(o v t x:V) (l:Addr) (s:Str) (ns pool:List Str) (B:Bk),vs=[o,v,t,x,.ref l]∧StAt T H x s∧s∈Yg∧BkHas K T.c_Book H v B∧SqL K H l (ns.map V.str)∧ns.length≤60∧(∀n∈ns,Known B n)∧Clo B pool∧∀H' D' ys,Same H H'->H D'=none->H' D'=some (.lst (ys.map V.str))->SrtOf (fun y=>∃n∈ns,y∈YE B s n) ys->Q (.ref D') H')
theorem Zbe:FnScope ["self","book","table","part","name","names","piece"] ["self","book","table","part","name"] (Zx Zcw):=ZJ
def Zm4 (T:Tx K w mg):Sp:=fun vs H Q E=>vs.length=5∧(∃(o v t p:V) (n:Str) (rows:List TongM.Rw) (b:TongM.Bran) (pool:List Str) (B:Bk),vs=[o,v,t,p,.str n]∧TongAt T H o rows∧PartAt T H b p∧BkHas K T.c_Book H v B∧Known B n∧Clo B pool∧∀H' D' zs,Same H H'->H D'=none->SrtOf (YV (YE B) b.1 (·=n)) zs->H' D'=some (.lst ((zs.filter (Yb B b.2 n)).map V.str))->Q (.ref D') H')
theorem Jq:FnScope ["self","book","table","word","name","known","found","part","other"] ["self","book","table","word","name"] (Zx Zen):=ZJ
def ZiN (T:Tx K w mg):Sp:=fun vs H Q E=>vs.length=5∧(∃(o v:V) (t kd:Addr) (u n:Str) (rows:List TongM.Rw) (i:Nat) (b:TongM.Bran) (kvs:List (Zi×V)) (rs:WR) (pool:List Str) (B:Bk),vs=[o,v,.ref t,.str u,.str n]∧TongAt T H o rows∧rows[i]?=some (u,[b])∧(rows.map (·.1)).Nodup∧H t=some (.dK kvs)∧ZD kvs (.inr u)=some (.ref kd)∧H kd=some (.dK (YS rs))∧n∉rs.map (·.1)∧rs.length≤60∧BkHas K T.c_Book H v B∧Known B n∧Clo B pool∧∀H' D' ys,(∀c o,c≠kd->H c=some o->H' c=some o)->H D'=none->H' kd=some (.dK (YS (rs++[(n,D',ys)])))->H' D'=some (.lst (ys.map V.str))->SrtOf (fun y=>YV (YE B) b.1 (·=n) y∧Yb B b.2 n y=true) ys->Q (.ref D') H')
theorem Zai:FnScope ["self","book","table","word","name"] ["self","book"] (Zx Zea):=ZJ
def Zj1 (T:Tx K w mg):Sp:=fun vs H Q E=>vs.length=2∧(∃(o v:V) (d:Addr) (bs:List (Str×TongM.Bran)) (pool:List Str) (B:Bk) (Hb:Hp),vs=[o,v]∧TgAt T H o d (bs.map fun q=>(q.1,[q.2]))∧(bs.map (·.1)).Nodup∧bs.length≤10∧Same Hb H∧Hb d=none∧BkHas K T.c_Book Hb v B∧Clo B pool∧(Z2 B.kept).Nodup∧(Z2 B.kept).length≤30∧(∀n∈Z2 B.kept,Known B n)∧∀H' t (tab:Ub),Same H H'->H' t=some (.dK (YJ tab))->tab.map (·.1)=bs.map (·.1)->(∀q∈tab,H' q.2.1=some (.dK (YS q.2.2))∧q.2.2.map (·.1)=Zw (Z2 B.kept)∧∀r∈q.2.2,H' r.2.1=some (.lst (r.2.2.map V.str))∧∀b,(q.1,b)∈bs->SrtOf (fun y=>YV (YE B) b.1 (·=r.1) y∧Yb B b.2 r.1 y=true) r.2.2)->Q (.ref t) H')
theorem ZlX:FnScope ["_law_script","_law_k"] ["_law_script","_law_k"] (Zx Zc3):=ZJ
def ZkD (T:Tx K w mg):Sp:=fun vs H Q E=>vs.length=2∧(∃(l:Addr) (ns:List Int) (k:Int),vs=[.ref l,.int k]∧SqL K H l (ns.map V.int)∧0≤k∧∀z,Q (.int z) H)
theorem WH:FnScope ["_law_cell","_law_letters","_law_size","_law_at","_law_base","_law_names_here","_law_k","_law_name","_law_j"] ["_law_cell"] (Zx ZcZ):=ZJ
def Zkc (T:Tx K w mg):Sp:=fun vs H Q E=>vs.length=1∧(∃c:Int,vs=[.int c]∧∀H' D' (ns:List Str),Same H H'->H D'=none->H' D'=some (.lst (ns.map V.str))->N14 ns->Q (.ref D') H')
theorem ZoT:FnScope ["_law_cell","_law_k","_law_way"] ["_law_cell","_law_k","_law_way"] (Zx ZcB):=ZJ
def Zm0 (T:Tx K w mg):Sp:=fun vs H Q E=>vs.length=3∧(∃c k w:Int,vs=[.int c,.int k,.int w]∧0≤k∧k≤44∧∀d:Int,-10 ^ 18≤d->d≤10 ^ 18->Q (.int d) H)
theorem WS:FnScope ["_law_people","_law_names_here","_law_cell","_law_day_here","_law_number","_law_older","_law_fathers","_law_mothers","_law_father","_law_mother"] ["_law_people","_law_names_here","_law_cell","_law_day_here"] (Zx ZeD):=ZJ
def Zjq (T:Tx K w mg):Sp:=fun vs H Q E=>vs.length=4∧(∃(D ln:Addr) (c d:Int) (ps:List Pp) (ns:List Str),vs=[.ref D,.ref ln,.int c,.int d]∧PpAt K H D ps∧SqL K H ln (ns.map V.str)∧ns.length=24∧ps.length<24∧∀H' a n s f m,Same H H'->H a=none->SqT K H' a ((Ent.born n s d f m).row.map kV)->ns[ps.length]?=some n->(s="he"∨s="she"∨s="")->X8 ps "he" d f->X8 ps "she" d m->Q (.ref a) H')
theorem Wz:FnScope ["_law_people","_law_known","_law_cell","_law_kind","_law_order","_law_one","_law_other","_law_day_here","_law_key","_law_entry"] ["_law_people","_law_known","_law_cell","_law_kind"] (Zx Zc1):=ZJ
def Zn2 (T:Tx K w mg):Sp:=fun vs H Q E=>vs.length=4∧(∃(D Dk:Addr) (c kd:Int) (ps:List Pp) (kn:List (List Zi)),vs=[.ref D,.ref Dk,.int c,.int kd]∧PpAt K H D ps∧H Dk=some (.dT (Vm kn))∧2≤ps.length∧ps.length≤24∧kn.length≤100∧Zg8 ps kn∧(∀p∈ps,-10 ^ 18≤p.2.2.2∧p.2.2.2≤10 ^ 18)∧(∀H',Same H H'->Q .non H')∧∀H' a e,(∀b u,b≠Dk->H b=some u->H' b=some u)->H a=none->SqT K H' a (e.row.map kV)->H' Dk=some (.dT (Vm (kn++[e.told.key])))->e.told.key∉kn->DeedF ps e->Q (.ref a) H')
theorem WG:FnScope ["_law_script","_law_start","_law_most","_law_names_here","_law_people","_law_known","_law_entries_here","_law_k","_law_cell","_law_kind","_law_entry"] ["_law_script","_law_start","_law_most"] (Zx Zd6):=ZJ
def Zlv (T:Tx K w mg):Sp:=fun vs H Q E=>vs.length=3∧(∃(l:Addr) (ss:List Int),vs=[.ref l,.int 3,.int 10]∧SqL K H l (ss.map V.int)∧ss.length≤63∧∀H' D' ks ns,Same H H'->H D'=none->H' D'=some (.lst (X0 ks))->JU K H' ks->N14 ns->GdL ns (ks.map (·.1))->ks.length≤30->Q (.ref D') H')
theorem ZnF:FnScope ["_law_edges_here","_law_letter","_law_low","_law_high"] ["_law_edges_here","_law_letter","_law_low","_law_high"] (Zx Zeh):=ZJ
def Zol (T:Tx K w mg):Sp:=fun vs H Q E=>vs.length=4∧(∃(D:Addr) (L lo hi:Str) (ed:Ed) (n:Nat),vs=[.ref D,.str L,.str lo,.str hi]∧EdAt H D ed∧EdB ed n∧n≤500∧(L="F"∨L="M"∨L="T")∧∀H' ed',EdAt H' D ed'->EdB ed' (n+2)->(∀c,lk ed' c=ZY (ZY (lk ed) (L,lo) hi) (Zbw L,hi) lo c)->FrE D ed H H' ed'->Q .non H')
theorem WN:FnScope ["_law_entries_here","_law_edges_here","_law_last","_law_entry","_law_letter","_law_parent","_law_pair","_law_row"] ["_law_entries_here"] (Zx ZeS):=ZJ
def Zml (T:Tx K w mg):Sp:=fun vs H Q E=>vs.length=1∧(∃(Le:Addr) (ks:List (Ent×Addr)) (ns:List Str),vs=[.ref Le]∧SqL K H Le (X0 ks)∧JU K H ks∧GdL ns (ks.map (·.1))∧ks.length≤40∧∀H' D ed ls,Same H H'->H D=none->EdAt H' D ed->EdB ed 500->(ls.map (·.1)).Nodup->(∀c,(ZF c ls).map (·.2)=YC (ks.map (·.1)) c)->(∀c,lk ed c=ls.foldl Xw (Ys (ks.map (·.1))) c)->Q (.ref D) H')
theorem Zg7:FnScope ["_law_found","_law_due","_law_k"] ["_law_found","_law_due"] (Zx Zcx):=ZJ
def Zk9 (T:Tx K w mg):Sp:=fun vs H Q E=>vs.length=2∧(∃(l m:Addr) (xs:List Str),vs=[.ref l,.ref m]∧SqL K H l (xs.map V.str)∧SqL K H m (xs.map V.str)∧xs.length≤100∧Q (.bl true) H)
theorem VT:FnScope ["_law_edges_here","_law_pieces","_law_name","_law_names_here","_law_piece","_law_found","_law_one","_law_other"] ["_law_edges_here","_law_pieces","_law_name"] (Zx Zce):=ZJ
def ZqF (T:Tx K w mg):Sp:=fun vs H Q E=>vs.length=3∧(∃(D p:Addr) (nm:Str) (way:List Str) (ed:Ed) (pool:List Str),vs=[.ref D,.ref p,.str nm]∧EdAt H D ed∧SqL K H p (way.map V.str)∧way.length≤100∧nm∈pool∧(∀q∈ed,∀x∈q.2.2,x∈pool)∧pool.length≤60∧∀H' D' xs,Same H H'->H D'=none->H' D'=some (.lst (xs.map V.str))->SrtOf (YV (fun s n=>lk ed (s,n)) way (·=nm)) xs->Q (.ref D') H')
theorem Zk6:FnScope ["_law_born","_law_mark","_law_name","_law_names_here"] ["_law_born","_law_mark","_law_name","_law_names_here"] (Zx ZcJ):=ZJ
def ZpC (T:Tx K w mg):Sp:=fun vs H Q E=>vs.length=4∧(∃(D l:Addr) (m n:Str) (zs:List Str) (B:Bk) (kvs:List (Zi×V)),vs=[.ref D,.str m,.str n,.ref l]∧Rd H D (.dK kvs)∧SqL K H l (zs.map V.str)∧zs.length≤60∧(∀x,Known B x->ZD kvs (.inr x)=some (.int (ZX B x)))∧Known B n∧(∀z∈zs,Known B z)∧∀H' D',Same H H'->SqL K H' D' ((zs.filter (Yb B m n)).map V.str)->Q (.ref D') H')
theorem Xa:FnScope ["_law_script","_law_entries_here","_law_edges_here","_law_born","_law_book","_law_entry","_law_steps","_law_cell","_law_pieces","_law_marks","_law_words","_law_lines","_law_found","_law_k","_law_row","_law_name"] ["_law_script"] (Zx ZcA):=ZJ
def ZhM (T:Tx K w mg):Sp:=fun vs H Q E=>vs.length=1∧(Jt K vs H Q E)
abbrev Zeg (P:Program) (base:Heap) (T:Tx K w mg):Prop:=FnOk P w K mg base (ZA P w) 1 T.ZaE.a (ZC K T.ZaE.a) ["thing"] (Zmo T)
abbrev ZaP (P:Program) (base:Heap) (T:Tx K w mg):Prop:=FnOk P w K mg base (ZA P w) 1 T.Y9.a (ZC K T.Y9.a) ["thing"] (Zib T)
abbrev Zin (P:Program) (base:Heap) (T:Tx K w mg):Prop:=FnOk P w K mg base (ZA P w) 2 T.Xz.a (ZC K T.Xz.a) ["thing"] (Zhf T)
abbrev Zfy (P:Program) (base:Heap) (T:Tx K w mg):Prop:=FnOk P w K mg base (ZA P w) 2 T.WB.a (ZC K T.WB.a) ["thing"] (Zig T)
abbrev Zh9 (P:Program) (base:Heap) (T:Tx K w mg):Prop:=FnOk P w K mg base (ZA P w) 1 T.WA.a (ZC K T.WA.a) ["thing"] (ZfS T)
abbrev Ziz (P:Program) (base:Heap) (T:Tx K w mg):Prop:=FnOk P w K mg base (ZA P w) 2 T.Wk.a (ZC K T.Wk.a) ["thing"] (ZhQ T)
abbrev ZgJ (P:Program) (base:Heap) (T:Tx K w mg):Prop:=FnOk P w K mg base (ZA P w) 3 T.ZbJ.a (ZC K T.ZbJ.a) ["parts","checks"] (Zpm T)
abbrev Zht (P:Program) (base:Heap) (T:Tx K w mg):Prop:=FnOk P w K mg base (ZA P w) 4 T.Zao.a (ZC K T.Zao.a) ["thing"] (Zjz T)
abbrev Zdc (P:Program) (base:Heap) (T:Tx K w mg):Prop:=FnOk P w K mg base (ZA P w) 1 T.ZaV.a (ZC K T.ZaV.a) ["entry"] (Zj0 T)
abbrev ZdS (P:Program) (base:Heap) (T:Tx K w mg):Prop:=FnOk P w K mg base (ZA P w) 1 T.ZaZ.a (ZC K T.ZaZ.a) ["entry"] (ZkN T)
abbrev Zfa (P:Program) (base:Heap) (T:Tx K w mg):Prop:=FnOk P w K mg base (ZA P w) 1 T.Zay.a (ZC K T.Zay.a) ["entry"] (Zjt T)
abbrev Zct (P:Program) (base:Heap) (T:Tx K w mg):Prop:=FnOk P w K mg base (ZA P w) 2 T.Zbn.a (ZC K T.Zbn.a) ["entry"] (Zk5 T)
abbrev Zec (P:Program) (base:Heap) (T:Tx K w mg):Prop:=FnOk P w K mg base (ZA P w) 3 T.ZaB.a (ZC K T.ZaB.a) ["entry"] (Zmi T)
abbrev Zdj (P:Program) (base:Heap) (T:Tx K w mg):Prop:=FnOk P w K mg base (ZA P w) 1 T.Zbf.a (ZC K T.Zbf.a) ["thing"] (Zmy T)
abbrev ZdJ (P:Program) (base:Heap) (T:Tx K w mg):Prop:=FnOk P w K mg base (ZA P w) 1 T.Zaz.a (ZC K T.Zaz.a) ["one","other"] (ZoV T)
abbrev Zfg (P:Program) (base:Heap) (T:Tx K w mg):Prop:=FnOk P w K mg base (ZA P w) 1 T.Ux.a (ZC K T.Ux.a) ["self"] (Zmj T)
abbrev Ug (P:Program) (base:Heap) (T:Tx K w mg):Prop:=FnOk P w K mg base (ZA P w) 1 T.Xj.a (ZC K T.Xj.a) ["self","name"] (Zjl T)
abbrev ZdB (P:Program) (base:Heap) (T:Tx K w mg):Prop:=FnOk P w K mg base (ZA P w) 2 T.Vc.a (ZC K T.Vc.a) ["self","name"] (ZkT T)
abbrev Zbv (P:Program) (base:Heap) (T:Tx K w mg):Prop:=FnOk P w K mg base (ZA P w) 2 T.Y3.a (ZC K T.Y3.a) ["self","name"] (Zkq T)
abbrev ZfJ (P:Program) (base:Heap) (T:Tx K w mg):Prop:=FnOk P w K mg base (ZA P w) 3 T.Vy.a (ZC K T.Vy.a) ["self","name","sort","day"] (ZmQ T)
abbrev Zg5 (P:Program) (base:Heap) (T:Tx K w mg):Prop:=FnOk P w K mg base (ZA P w) 4 T.Up.a (ZC K T.Up.a) ["self","entry"] (Zmc T)
abbrev ZfC (P:Program) (base:Heap) (T:Tx K w mg):Prop:=FnOk P w K mg base (ZA P w) 5 T.Uw.a (ZC K T.Uw.a) ["self","entry"] (Zkk T)
abbrev Zbl (P:Program) (base:Heap) (T:Tx K w mg):Prop:=FnOk P w K mg base (ZA P w) 1 T.Xb.a (ZC K T.Xb.a) ["self","letter","begin","end"] (Zl9 T)
abbrev ZiF (P:Program) (base:Heap) (T:Tx K w mg):Prop:=FnOk P w K mg base (ZA P w) 2 T.UM.a (ZC K T.UM.a) ["self","entry"] (Zji T)
abbrev Zel (P:Program) (base:Heap) (T:Tx K w mg):Prop:=FnOk P w K mg base (ZA P w) 2 T.Ve.a (ZC K T.Ve.a) ["self","letter","name"] (ZnP T)
abbrev Zhx (P:Program) (base:Heap) (T:Tx K w mg):Prop:=FnOk P w K mg base (ZA P w) 2 T.a_Book_stands T.fd_Book_stands ["self","one","other","day"] (ZkJ T)
abbrev ZgL (P:Program) (base:Heap) (T:Tx K w mg):Prop:=FnOk P w K mg base (ZA P w) 3 T.Uy.a (ZC K T.Uy.a) ["self","entry"] (Zkt T)
abbrev Zhb (P:Program) (base:Heap) (T:Tx K w mg):Prop:=FnOk P w K mg base (ZA P w) 6 T.UY.a (ZC K T.UY.a) ["self","entry"] (ZlR T)
abbrev Ze5 (P:Program) (base:Heap) (T:Tx K w mg):Prop:=FnOk P w K mg base (ZA P w) 1 T.UF.a (ZC K T.UF.a) ["self"] (Zpd T)
abbrev ZdH (P:Program) (base:Heap) (T:Tx K w mg):Prop:=FnOk P w K mg base (ZA P w) 1 T.Zaj.a (ZC K T.Zaj.a) ["thing"] (Zpg T)
abbrev Zdu (P:Program) (base:Heap) (T:Tx K w mg):Prop:=FnOk P w K mg base (ZA P w) 3 T.Zbb.a (ZC K T.Zbb.a) ["book","step","name"] (ZnD T)
abbrev Zgz (P:Program) (base:Heap) (T:Tx K w mg):Prop:=FnOk P w K mg base (ZA P w) 1 T.UK.a (ZC K T.UK.a) ["self","letter"] (Zop T)
abbrev ZhK (P:Program) (base:Heap) (T:Tx K w mg):Prop:=FnOk P w K mg base (ZA P w) 4 T.U4.a (ZC K T.U4.a) ["self","book","table","name"] (Zck T)
abbrev Zgi (P:Program) (base:Heap) (T:Tx K w mg):Prop:=FnOk P w K mg base (ZA P w) 1 T.UH.a (ZC K T.UH.a) ["self","sort"] (ZiW T)
abbrev ZfX (P:Program) (base:Heap) (T:Tx K w mg):Prop:=FnOk P w K mg base (ZA P w) 4 T.U9.a (ZC K T.U9.a) ["self","book","table","name"] (ZdZ T)
abbrev Zgd (P:Program) (base:Heap) (T:Tx K w mg):Prop:=FnOk P w K mg base (ZA P w) 1 T.UN.a (ZC K T.UN.a) ["self","word"] (Zme T)
abbrev Zf2 (P:Program) (base:Heap) (T:Tx K w mg):Prop:=FnOk P w K mg base (ZA P w) 1 T.UW.a (ZC K T.UW.a) ["self","book","table","name"] (ZdM T)
abbrev Zfz (P:Program) (base:Heap) (T:Tx K w mg):Prop:=FnOk P w K mg base (ZA P w) 5 T.Xl.a (ZC K T.Xl.a) ["self","book","table","names"] (WU T)
abbrev Zfn (P:Program) (base:Heap) (T:Tx K w mg):Prop:=FnOk P w K mg base (ZA P w) 3 T.Zby.a (ZC K T.Zby.a) ["book","mark","one","other"] (ZmJ T)
abbrev Zhj (P:Program) (base:Heap) (T:Tx K w mg):Prop:=FnOk P w K mg base (ZA P w) 3 T.ZbE.a (ZC K T.ZbE.a) ["text","rows"] (Zjk T)
abbrev Zim (P:Program) (base:Heap) (T:Tx K w mg):Prop:=FnOk P w K mg base (ZA P w) 4 T.ZaQ.a (ZC K T.ZaQ.a) ["text","rows"] (Znx T)
abbrev Zgw (P:Program) (base:Heap) (T:Tx K w mg):Prop:=FnOk P w K mg base (ZA P w) 5 T.ZbM.a (ZC K T.ZbM.a) ["text","rows"] (ZpA T)
abbrev ZfI (P:Program) (base:Heap) (T:Tx K w mg):Prop:=FnOk P w K mg base (ZA P w) 6 T.Zbk.a (ZC K T.Zbk.a) ["text"] (ZqE T)
abbrev Zf1 (P:Program) (base:Heap) (T:Tx K w mg):Prop:=FnOk P w K mg base (ZA P w) 7 T.UE.a (ZC K T.UE.a) ["self","text"] (ZnJ T)
abbrev Zh4 (P:Program) (base:Heap) (T:Tx K w mg):Prop:=FnOk P w K mg base (ZA P w) 6 T.Uz.a (ZC K T.Uz.a) ["self","book","table","piece","names"] (ZjM T)
abbrev Ziv (P:Program) (base:Heap) (T:Tx K w mg):Prop:=FnOk P w K mg base (ZA P w) 7 T.UD.a (ZC K T.UD.a) ["self","book","table","part","name"] (Zm4 T)
abbrev Zgf (P:Program) (base:Heap) (T:Tx K w mg):Prop:=FnOk P w K mg base (ZA P w) 8 T.Vs.a (ZC K T.Vs.a) ["self","book","table","word","name"] (ZiN T)
abbrev Zhz (P:Program) (base:Heap) (T:Tx K w mg):Prop:=FnOk P w K mg base (ZA P w) 9 T.Uh.a (ZC K T.Uh.a) ["self","book"] (Zj1 T)
abbrev ZdE (P:Program) (base:Heap) (T:Tx K w mg):Prop:=FnOk P w K mg base (ZA P w) 1 T.Za3.a (ZC K T.Za3.a) ["_law_script","_law_k"] (ZkD T)
abbrev Zh7 (P:Program) (base:Heap) (T:Tx K w mg):Prop:=FnOk P w K mg base (ZA P w) 1 T.Zam.a (ZC K T.Zam.a) ["_law_cell"] (Zkc T)
abbrev Zfu (P:Program) (base:Heap) (T:Tx K w mg):Prop:=FnOk P w K mg base (ZA P w) 1 T.ZbH.a (ZC K T.ZbH.a) ["_law_cell","_law_k","_law_way"] (Zm0 T)
abbrev Zia (P:Program) (base:Heap) (T:Tx K w mg):Prop:=FnOk P w K mg base (ZA P w) 1 T.ZbL.a (ZC K T.ZbL.a) ["_law_people","_law_names_here","_law_cell","_law_day_here"] (Zjq T)
abbrev Zg4 (P:Program) (base:Heap) (T:Tx K w mg):Prop:=FnOk P w K mg base (ZA P w) 1 T.Za0.a (ZC K T.Za0.a) ["_law_people","_law_known","_law_cell","_law_kind"] (Zn2 T)
abbrev ZgG (P:Program) (base:Heap) (T:Tx K w mg):Prop:=FnOk P w K mg base (ZA P w) 2 T.Zbg.a (ZC K T.Zbg.a) ["_law_script","_law_start","_law_most"] (Zlv T)
abbrev Zh8 (P:Program) (base:Heap) (T:Tx K w mg):Prop:=FnOk P w K mg base (ZA P w) 1 T.ZaG.a (ZC K T.ZaG.a) ["_law_edges_here","_law_letter","_law_low","_law_high"] (Zol T)
abbrev Zfq (P:Program) (base:Heap) (T:Tx K w mg):Prop:=FnOk P w K mg base (ZA P w) 2 T.Zbh.a (ZC K T.Zbh.a) ["_law_entries_here"] (Zml T)
abbrev ZgC (P:Program) (base:Heap) (T:Tx K w mg):Prop:=FnOk P w K mg base (ZA P w) 1 T.Zbs.a (ZC K T.Zbs.a) ["_law_found","_law_due"] (Zk9 T)
abbrev Zhy (P:Program) (base:Heap) (T:Tx K w mg):Prop:=FnOk P w K mg base (ZA P w) 1 T.Zaw.a (ZC K T.Zaw.a) ["_law_edges_here","_law_pieces","_law_name"] (ZqF T)
abbrev ZhS (P:Program) (base:Heap) (T:Tx K w mg):Prop:=FnOk P w K mg base (ZA P w) 1 T.ZaS.a (ZC K T.ZaS.a) ["_law_born","_law_mark","_law_name","_law_names_here"] (ZpC T)
abbrev Zgq (P:Program) (base:Heap) (T:Tx K w mg):Prop:=FnOk P w K mg base (ZA P w) 10 T.VM.a (ZC K T.VM.a) ["_law_script"] (ZhM T)
theorem Zqr:(["name"]:List Str).Nodup:=by trivial
theorem Zmk:(["name","entry","self"]:List Str).Nodup:=by trivial
theorem Zn0:(["tied_on","day"]:List Str).Nodup:=by trivial
theorem Zpq:(["name","end"]:List Str).Nodup:=by trivial
theorem ZkP:(["piece","rows"]:List Str).Nodup:=by trivial
theorem Zj4:(["part","rows"]:List Str).Nodup:=by trivial
theorem Zk8:(["other","book","name","part"]:List Str).Nodup:=by trivial
theorem Zje:(["_law_k","_law_cell"]:List Str).Nodup:=by trivial
theorem Zfe:(["_law_one","_law_people"]:List Str).Nodup:=by trivial
theorem ZlM:(["_law_one","_law_day_here","_law_people"]:List Str).Nodup:=by trivial
theorem ZgW:(["_law_one","_law_born","_law_name"]:List Str).Nodup:=by trivial
theorem Zjo:(["_law_one","_law_name"]:List Str).Nodup:=by trivial
theorem ZnC:(["_law_k","_law_words","_law_pieces","_law_marks"]:List Str).Nodup:=by trivial
theorem Zms:(["_law_k"]:List Str).Nodup:=by trivial
theorem Zkh:(["_law_k","_law_steps","_law_script"]:List Str).Nodup:=by trivial
end
section
variable {K:W.Frag}
def spC (K:W.Frag) (f:Vk->Bool):Sp:=fun vs H Q _=>vs.length=1∧∃x t,vs=[x]∧Vw K H x t∧∀H',Same H H'->Q (.bl (f t)) H'
def Fam (T:Tx K w mg):Addr->Sp->Prop:=fun f sp=>∃c,f=T.ad c∧sp=spC K (V8 c)
theorem ZiM {X:Cx} (T:Tx K w mg) (h1:FnOk P w K mg base (ZA P w) 1 T.Y9.a (ZC K T.Y9.a) ["thing"] (Zib T)) (h2:FnOk P w K mg base (ZA P w) 1 T.WA.a (ZC K T.WA.a) ["thing"] (ZfS T))
 (h3:FnOk P w K mg base (ZA P w) 2 T.Xz.a (ZC K T.Xz.a) ["thing"] (Zhf T)) (h4:FnOk P w K mg base (ZA P w) 2 T.WB.a (ZC K T.WB.a) ["thing"] (Zig T)) (h5:FnOk P w K mg base (ZA P w) 2 T.Wk.a (ZC K T.Wk.a) ["thing"] (ZhQ T))
 (hr:Room 2 X.A) (e1:X.prog=P) (e2:X.w=w) (e3:X.K=K) (e4:X.mg=mg) (e5:X.base=base):Ze7 X (ZA P w) (Fam T):=by
 subst e1 e2 e3 e4 e5;rintro f sp ⟨c,rfl,rfl⟩;cases c with
 |name=>exact ⟨1,_,_,h1,hr.mono (by decide),T.Y9.F.kp,T.Y9.b⟩
 |sort=>exact ⟨1,_,_,h2,hr.mono (by decide),T.WA.F.kp,T.WA.b⟩
 |day=>exact ⟨2,_,_,h3,hr,T.Xz.F.kp,T.Xz.b⟩
 |amount=>exact ⟨2,_,_,h4,hr,T.WB.F.kp,T.WB.b⟩
 |parent=>exact ⟨2,_,_,h5,hr,T.Wk.F.kp,T.Wk.b⟩
end
section
variable {K:W.Frag} {T:Tx K w mg} {x t:V} {E:XK}
theorem Zl0 (h:PcAt T H x v t L) (hl:L n zs) (q:∀H' D',Same H H'->H D'=none->H' D'=some (.lst (zs.map V.str))->Q (.ref D') H') :
  ∃a dx fs,x=.ref a∧fs.lookup ("leads_one" : Str)=none∧((H a=some (.ins T.c_Letter dx fs)∧Zck T [x,v,t,.str n] H Q E)∨(H a=some (.ins T.c_Test dx fs)∧ZdZ T [x,v,t,.str n] H Q E)∨(H a=some (.ins T.c_Said dx fs)∧ZdM T [x,v,t,.str n] H Q E)):=by
 obtain ⟨s,B,⟨a,dx,rfl,h1|h1⟩,h2,h3,h4⟩:=h
 ·obtain ⟨kn,rfl⟩:=h4 n zs hl;exact ⟨a,dx,_,rfl,rfl,.inl ⟨h1,rfl,a,dx,s,v,t,n,B,rfl,h1,h3,h2,kn,q⟩⟩
 ·obtain ⟨kn,rfl⟩:=h4 n zs hl;exact ⟨a,dx,_,rfl,rfl,.inr (.inl ⟨h1,rfl,a,dx,s,v,t,n,B,rfl,h1,h3,h2,kn,q⟩)⟩
theorem Zpk {l:V} (h:PcAt T H x v t L) (q:WU T [x,v,t,l] H Q E) :
  ∃a dx fs,x=.ref a∧fs.lookup ("leads" : Str)=none∧((H a=some (.ins T.c_Letter dx fs)∧WU T [x,v,t,l] H Q E)∨(H a=some (.ins T.c_Test dx fs)∧WU T [x,v,t,l] H Q E)∨(H a=some (.ins T.c_Said dx fs)∧WU T [x,v,t,l] H Q E)):=by
 obtain ⟨s,B,⟨a,dx,rfl,h1|h1⟩,_⟩:=h
 ·exact ⟨a,dx,_,rfl,rfl,.inl ⟨h1,q⟩⟩
 ·exact ⟨a,dx,_,rfl,rfl,.inr (.inl ⟨h1,q⟩)⟩
theorem ZlU {E:XS} {i0 i1 i2 i3:Nat} (e0:σ[i0]?=some (some x)) (e1:σ[i1]?=some (some v)) (e2:σ[i2]?=some (some t)) (e3:σ[i3]?=some (some (.str n))) (h:PcAt T H x v t L) (hl:L n zs)
 (q:∀H' D',Same H H'->H D'=none->H' D'=some (.lst (zs.map V.str))->Q (.ref D') H') :
  UB T.c_Letter T.c_Test T.c_Said "leads_one" (Zck T) (ZdZ T) (ZdM T) E (XJ i0) (WO (XJ i1) (WO (XJ i2) (WO (XJ i3) UP))) σ H Q:=by
 unfold UB;obtain ⟨a,dx,fs,e,l,h⟩:=Zl0 (E:=E σ) h hl q;exact ⟨x,e0,a,dx,fs,e,l,h.imp (fun h=>⟨h.1,_,e1,_,e2,_,e3,h.2⟩) fun h=>h.imp (fun h=>⟨h.1,_,e1,_,e2,_,e3,h.2⟩) fun h=>⟨h.1,_,e1,_,e2,_,e3,h.2⟩⟩
theorem Zjp {l:V} {E:XS} {i0 i1 i2 i3:Nat} (e0:σ[i0]?=some (some x)) (e1:σ[i1]?=some (some v)) (e2:σ[i2]?=some (some t)) (e3:σ[i3]?=some (some l)) (h:PcAt T H x v t L) (q:WU T [x,v,t,l] H Q (E σ)) :
  UB T.c_Letter T.c_Test T.c_Said "leads" (WU T) (WU T) (WU T) E (XJ i0) (WO (XJ i1) (WO (XJ i2) (WO (XJ i3) UP))) σ H Q:=by
 unfold UB;obtain ⟨a,dx,fs,e,l,h⟩:=Zpk (E:=E σ) h q;exact ⟨x,e0,a,dx,fs,e,l,h.imp (fun h=>⟨h.1,_,e1,_,e2,_,e3,h.2⟩) fun h=>h.imp (fun h=>⟨h.1,_,e1,_,e2,_,e3,h.2⟩) fun h=>⟨h.1,_,e1,_,e2,_,e3,h.2⟩⟩
end
section
variable {K:W.Frag}
theorem Zi6 (T:Tx K w mg)  : Zeg P base T:=by
 refine Fun.okX (k:=0) T.ZaE.F ZoS (fun vs H Q E h=>h.1) (fun cdv A outer s H vs Q E hr h=>?_);obtain ⟨-,h⟩:=h;obtain ⟨x,t,rfl,hv,q⟩:=h;refine ⟨_,(Zj (Zu (Ww (Xo K (by rfl) T.n_isinstance (Za (pv 0) (Za (XD (v:=.ty "int") (by rfl) T.n_int ZdY rfl) Zc))) (Wc (ZkZ (Xo K (by rfl) T.n_isinstance (Za (pv 0) (Za (XD (v:=.ty "bool") (by rfl) T.n_bool Zqj rfl) Zc)))))))),?_⟩;refine ⟨_,rfl,_,.ty "int",_,_,rfl,rfl,hv.kd,kI T t,_,rfl,?_⟩;cases t with
 |int i=>exact Z0 ⟨_,rfl,_,.ty "bool",_,_,rfl,rfl,hv.kd,T.k_int_bool,_,rfl,q _ (Same.refl H)⟩
 |bl=>exact Z0 ⟨_,rfl,_,.ty "bool",_,_,rfl,rfl,hv.kd,T.k_bool_bool,_,rfl,q _ (Same.refl H)⟩
 |_=>exact ZS (q _ (Same.refl H))
theorem ZpD (T:Tx K w mg)  : ZaP P base T:=by
 refine Fun.okX (k:=0) T.Y9.F Zps (fun vs H Q E h=>h.1) (fun cdv A outer s H vs Q E hr h=>?_);obtain ⟨-,h⟩:=h;obtain ⟨x,t,rfl,hv,q⟩:=h
 refine ⟨_,(Zl (ZE (PW.pt (XF (Xx (YB (Xo K (by rfl) T.n_isinstance (Za (pv 0) (Za (XD (v:=.ty "str") (by rfl) T.n_str W6 rfl) Zc))))) (XF (ZB Wg (ZQ ZdV (by rfl) T.n_len Ye (Za (pv 0) Zc)) Zf (Zs _)) (XR (ZB Wa (ZQ ZdV (by rfl) T.n_len Ye (Za (pv 0) Zc)) Zf (Zs _)))))) (Zj (Zu Xc)) ZH)
   (Zj (Zu (ZQ (ZdK rfl) (by rfl) T.n_all ZdW (Za (XV (N:=["sign"]) (cl:=[]) (σc:=fun _=>[none]) rfl (Zgp (L:=[(".0",.local),("sign",.local),("LETTERS",.globalImplicit)]) (by rfl) (by trivial) (by trivial) (by rfl) (by rfl) (by decide) (by rfl) (by simp)) (ZqD (pv 0)) (fun _ _ _=>(ZT (i:=0) Jv rfl (Or.inl rfl))) (fun _ _ _=>W3) (fun _ _ _=>(YZ Zi2 (pv 0) (Wv (v:=.str Vt) (by rfl) T.m_LETTERS ⟨_,rfl⟩) (by rfl)))) Zc))))),?_⟩
 refine ⟨_,rfl,_,.ty "str",_,_,rfl,rfl,hv.kd,kS T t,_,rfl,?_⟩;cases t with
 |str z =>
  obtain ⟨e,hz⟩:=hv;subst e;have hs:z.length≤sizeLine:=Q1 (Zy (by omega));refine ZS ⟨_,rfl,z,rfl,hs,_,_,rfl,rfl,_,rfl,?_⟩;by_cases h1:((z.length:Nat):Int)<1
  ·rw [Qr h1]
   have e:WW (.str z)=false:=by
    rw [Zcs];rw [Qk (show ¬1≤z.length by omega)];rfl
   rw [e] at q;exact Z0 (q _ (Same.refl H))
  rw [Qk h1];refine ZS ⟨_,rfl,z,rfl,hs,_,_,rfl,rfl,_,rfl,?_⟩;by_cases h2:(8:Int)<((z.length:Nat):Int)
  ·rw [Qr h2]
   have e:WW (.str z)=false:=by
    rw [Zcs];rw [Qk (show ¬z.length≤8 by omega),Bool.and_false];rfl
   rw [e] at q;exact Z0 (q _ (Same.refl H))
  rw [Qk h2]
  have e:WW (.str z)=(z.cps.toList.map Wo).all id:=by
   rw [Zcs];rw [Qr (show 1≤z.length by omega),Qr (show z.length≤8 by omega),List.all_map];rfl
  rw [e] at q;have hl:z.cps.size=z.length:=rfl;refine ZS ⟨_,rfl,z,rfl,?_⟩;refine Ui ((z.cps.toList.map Wo).map V.bl) (by simp only [Qd,QD];exact Gc (Gs hl) (Zy (by omega))) (fun σ=>∃o,σ=[o]) ⟨none,rfl⟩ ?_ ?_ ?_ ?_
  ·intro i H2 hi _;show i<z.cps.size;simpa using hi
  ·intro H2 _;show (((z.cps.toList.map Wo).map V.bl).length:Nat)=z.cps.size;simp
  ·rintro i σ H2 v H3 y hy ⟨o,rfl⟩ s2 ⟨e3,c,hc,ev⟩ C hC;subst e3 ev
   have ey:y=.bl (Wo c):=by
    have hc':z.cps.toList[i]?=some c:=by simpa using hc
    rw [Qp,Qp,hc'] at hy;exact (Ql hy).symm
   subst ey;exact ⟨_,rfl,_,_,rfl,rfl,hC _ _ ⟨_,rfl⟩ (Same.refl _)⟩
  ·intro D H2 hD s2 hl2;exact ⟨D,_,rfl,hl2,q _ s2⟩
 |_=>exact Z0 (q _ (Same.refl H))
theorem Zke (T:Tx K w mg) (Ut:Zeg P base T):Zin P base T:=by
 refine Fun.okX (k:=1) T.Xz.F ZmB (fun vs H Q E h=>h.1) (fun cdv A outer s H vs Q E hr h=>?_);obtain ⟨-,h⟩:=h;obtain ⟨x,t,rfl,hv,q⟩:=h;refine ⟨_,(Zj (Zu (Ww (ZW Ut hr Zz (Za (pv 0) Zc)) (Wc (YZ Zd9 (ZQ Zn8 (by rfl) T.n_abs Zi4 (Za (pv 0) Zc)) (Zv WZ Zf Zf) (Zs _)))))),?_⟩;refine ⟨_,rfl,rfl,x,t,rfl,hv,fun H1 s1=>⟨_,rfl,?_⟩⟩;cases t with
 |int i =>
  cases (show x=.int i from hv);exact Z0 ⟨_,rfl,i,rfl,_,_,rfl,rfl,(show VV 10 18 from ⟨by decide,by decide,by trivial⟩),_,_,rfl,rfl,q _ s1⟩
 |_=>exact ZS (q _ s1)
theorem Zju (T:Tx K w mg) (Ut:Zeg P base T):Zfy P base T:=by
 refine Fun.okX (k:=1) T.WB.F Zpu (fun vs H Q E h=>h.1) (fun cdv A outer s H vs Q E hr h=>?_);obtain ⟨-,h⟩:=h;obtain ⟨x,t,rfl,hv,q⟩:=h;refine ⟨_,(Zj (Zu (Ww (ZW Ut hr Zz (Za (pv 0) Zc)) (Ww (YZ JM (pv 0) Zf (Zs _)) (Wc (YZ Zd9 (pv 0) (Zv WZ Zf Zf) (Zs _))))))),?_⟩;refine ⟨_,rfl,rfl,x,t,rfl,hv,fun H1 s1=>⟨_,rfl,?_⟩⟩;cases t with
 |int i =>
  cases (show x=.int i from hv);refine Z0 ⟨_,rfl,_,_,rfl,rfl,_,rfl,?_⟩;have q1:=q _ s1;rw [ZiV] at q1;by_cases h1:1≤i
  ·rw [Qr h1] at q1 ⊢;exact Z0 ⟨_,rfl,_,_,rfl,rfl,(show VV 10 18 from ⟨by decide,by decide,by trivial⟩),_,_,rfl,rfl,q1⟩
  ·rw [Qk h1] at q1 ⊢;exact ZS q1
 |_=>exact ZS (q _ s1)
theorem ZkU (T:Tx K w mg)  : Zh9 P base T:=by
 refine Fun.okX (k:=0) T.WA.F Zow (fun vs H Q E h=>h.1) (fun cdv A outer s H vs Q E hr h=>?_);obtain ⟨-,h⟩:=h;obtain ⟨x,t,rfl,hv,q⟩:=h;refine ⟨_,(Zj (Zu (Ww (Xo K (by rfl) T.n_isinstance (Za (pv 0) (Za (XD (v:=.ty "str") (by rfl) T.n_str W6 rfl) Zc))) (Wc (YZ UV (pv 0) (Z8 (Za Zn (Za Zn (Za Zn Zc)))) (by rfl)))))),?_⟩;refine ⟨_,rfl,_,.ty "str",_,_,rfl,rfl,hv.kd,kS T t,_,rfl,?_⟩;cases t with
 |str z =>
  cases (show x=.str z from hv.1);refine Z0 ⟨_,rfl,by decide,fun p hp=>⟨p,_,rfl,.inr (.of Ze),rfl,rfl,?_⟩⟩
  have e:(if false=true then !Wi (.str z) [.str "he",.str "she",.str ""] else Wi (.str z) [.str "he",.str "she",.str ""])=VU (.str z):=by
   rw [Qa (by decide)];exact ZjJ z
  rw [e];exact q _ (Zk hp)
 |_=>exact ZS (q _ (Same.refl H))
theorem Zm9 (T:Tx K w mg) (W0:ZaP P base T):Ziz P base T:=by
 refine Fun.okX (k:=1) T.Wk.F ZpB (fun vs H Q E h=>h.1) (fun cdv A outer s H vs Q E hr h=>?_);obtain ⟨-,h⟩:=h;obtain ⟨x,t,rfl,hv,q⟩:=h;refine ⟨_,(Zj (Zu (Zgc (ZW W0 hr Zz (Za (pv 0) Zc)) (Wc (Ww (Xo K (by rfl) T.n_isinstance (Za (pv 0) (Za (XD (v:=.ty "str") (by rfl) T.n_str W6 rfl) Zc))) (Wc (YZ ZZ (pv 0) Zn (Zs _)))))))),?_⟩;refine ⟨_,rfl,rfl,x,t,rfl,hv,fun H1 s1=>⟨_,rfl,?_⟩⟩;have q1:=q _ s1;unfold JJ at q1;cases hn:WW t with
 |true =>
  rw [hn] at q1;exact Z0 q1
 |false =>
  rw [hn,Bool.false_or] at q1;refine ZS ⟨_,rfl,_,.ty "str",_,_,rfl,rfl,(hv.mono s1).kd,kS T t,_,rfl,?_⟩;cases t with
  |str z =>
   cases (show x=.str z from hv.1)
   have e:decide (V.str z=V.str "")=decide (z=""):=by
    rw [Rn];simp
   exact Z0 ⟨_,rfl,rfl,by rw [e];exact q1⟩
  |_=>exact ZS q1
theorem ZlA (T:Tx K w mg) (W0:ZaP P base T) (Zep:Zin P base T) (Zcb:Zfy P base T) (Zc5:Zh9 P base T) (ZeC:Ziz P base T):ZgJ P base T:=by
 refine Fun.okX (k:=2) T.ZbJ.F ZjV (fun vs H Q E h=>h.1) (fun cdv A outer s H vs Q E hr h=>?_);obtain ⟨-,h⟩:=h;obtain ⟨a,b,xs,ts,cs,rfl,ha,hx,hb,hc,q⟩:=h
 refine ⟨_,(Zl (ZE (ZB Wy (ZQ YO (by rfl) T.n_len Ye (Za (pv 0) Zc)) (ZQ YO (by rfl) T.n_len Ye (Za (pv 1) Zc)) (Zs _)) (Zj (Zu Xc)) ZH)
   (Zj (Zu (ZQ (ZdK rfl) (by rfl) T.n_all ZdW (Za (XV (N:=["check","part"]) (cl:=[]) (σc:=fun _=>[none,none]) rfl (Zgp (L:=[(".0",.local),("check",.local),("part",.local)]) (by rfl) (by trivial) (by trivial) (by rfl) (by rfl) (by decide) (by rfl) (by simp)) (ZpW K (by rfl) T.n_zip (Za (pv 1) (Za (pv 0) Zc))) (fun _ _ _=>(ZpN (n:=2) K rfl (WJ (ZT (i:=0) VI rfl (Or.inl rfl)) (WJ (ZT (i:=1) VI rfl (Or.inl rfl)) JX)))) (fun _ _ _=>W3) (fun _ _ _=>(Zkn (Fam:=Fam T) (i:=0) (ZiM T W0 Zc5 Zep Zcb ZeC (hr.mono (by decide)) rfl rfl rfl rfl rfl) rfl (Or.inl rfl) Zz (Za (pv 1) Zc)))) Zc))))),?_⟩
 have lx:=hx.length;refine ⟨_,rfl,a,_,rfl,.inr ha,_,rfl,b,_,rfl,.inr hb,rfl,_,rfl,?_⟩
 have e0:(!decide (V.int (xs.length:Nat)=V.int ((cs.map fun c=>V.ref (T.ad c)).length:Nat)))=!decide (ts.length=cs.length):=by
  rw [lx,Qd]
  congr 1
  rw [Rn];simp only [GK,V.int.injEq];omega
 rw [e0];unfold XZ at q;by_cases hl:ts.length=cs.length
 ·rw [Qr hl] at q ⊢;rw [GL] at q;have lo:(ZU cs ts).length=cs.length:=ZhO hl;refine ZS ⟨_,rfl,_,rfl,b,a,rfl,⟨_,hb⟩,⟨_,ha⟩,?_⟩;refine Ui ((ZU cs ts).map V.bl) (by rw [Qd,lo];exact Zy (by omega)) (fun σ=>∃o u,σ=[o,u]) ⟨none,none,rfl⟩ ?_ ?_ ?_ ?_
  ·intro i H2 hi s2;rw [Qd,lo] at hi;have h1:i<(cs.map fun c=>V.ref (T.ad c)).length:=by rw [Qd];exact hi
   have h2:i<xs.length:=by omega
   exact ⟨_,_,_,_,s2.sqt hb,s2.sqt ha,Qw h1,Qw h2⟩
  ·intro H2 s2;exact ⟨_,s2.sqt hb,by rw [Qd,Qd,lo]⟩
  ·rintro i σ H2 v H3 y hy ⟨o,u,rfl⟩ s2 ⟨A',x1,x2,nA,rfl,f1,f2,rfl⟩ C hC;obtain ⟨c,t,e1,e2,e3⟩:=Zjm hl hy;have g1:=f1 _ (s2.sqt hb);have g2:=f2 _ (s2.sqt ha);rw [Qp,e1] at g1;have g1':x1=.ref (T.ad c):=(Ql g1).symm;obtain ⟨x,ex,vx⟩:=hx.get e2;rw [ex] at g2;have g2':x2=x:=(Ql g2).symm;subst g1' g2' e3;have sA:=Zk (o:=.tup [.ref (T.ad c),x2]) nA;refine ⟨A',_,rfl,.of Ze,rfl,?_⟩;refine ⟨_,_,rfl,_,_,rfl,rfl,?_⟩;refine ⟨_,_,rfl,⟨c,rfl,rfl⟩,_,rfl,rfl,x2,t,rfl,(vx.mono s2).mono sA,fun H5 s5=>hC _ _ ⟨_,_,rfl⟩ (sA.trans s5)⟩
  ·intro D H2 hD s2 hl2;exact ⟨D,_,rfl,hl2,q _ s2⟩
 ·rw [Qk hl] at q ⊢;exact Z0 (q _ (Same.refl H))
theorem Zpi (T:Tx K w mg) (Zdx:ZgJ P base T):Zht P base T:=by
 refine Fun.okX (k:=3) T.Zao.F Zcz (fun vs H Q E h=>h.1) (fun cdv A outer s H vs Q E hr h=>?_);obtain ⟨-,h⟩:=h;obtain ⟨x,rfl,h⟩:=h
 refine ⟨_,(Zl (ZE (PW.pt (XF (Xx (YB (Xo K (by rfl) T.n_isinstance (Za (pv 0) (Za (XD (v:=.ty "tuple") (by rfl) T.n_tuple Zid rfl) Zc))))) (XF (ZB ZZ (ZQ YO (by rfl) T.n_len Ye (Za (pv 0) Zc)) Zf (Zs _)) (XR (Xx (YB (Xo K (by rfl) T.n_isinstance (Za (Zm Zp (pv 0) Zf (fun _ _=>rfl)) (Za (XD (v:=.ty "str") (by rfl) T.n_str W6 rfl) Zc))))))))) (Zj (Zu Xc)) ZH)
   (Zl (Yr QI rfl (ZaD (Wv (v:=.ref T.aF) (by rfl) T.m_FORMS rfl)) (Jz rfl (WJ (ZT (i:=1) Zcz.nd rfl (Or.inl rfl)) (WJ (ZT (i:=2) Zcz.nd rfl (Or.inl rfl)) JX)))
    (Zj (ZE (ZB ZZ (Zm Zp (pv 0) Zf (fun _ _=>rfl)) (pv 1) (Zs _)) (Zj (Zu (ZW Zdx hr Zz (Za (Wr ZaI (pv 0) (Wj Zf) WE) (Za (pv 2) Zc))))) ZH)))
   (Zj (Zu Xc)))),?_⟩
 rcases h with ⟨t,hv,ht,q⟩|⟨ts,⟨a,xs,rfl,hS,hx⟩,hl,q⟩
 ·have k:=kT T t;rw [ht] at k;exact ⟨_,rfl,_,.ty "tuple",_,_,rfl,rfl,hv.kd,k,_,rfl,Z0 (q _ (Same.refl H))⟩
 refine ⟨_,rfl,_,.ty "tuple",_,_,rfl,rfl,.sqt hS,T.k_tuple_tuple,_,rfl,?_⟩;refine ZS ⟨_,rfl,a,_,rfl,.inr hS,rfl,_,rfl,?_⟩
 match xs,ts,hx with
 |[],[],_=>exact Z0 (q _ (Same.refl H))
 |x::xs,t::ts,hx =>
  have e0:decide (V.int ((x::xs).length:Nat)=V.int 0)=false:=by
   rw [QG]
   exact Qk fun z=>by
    have:=V.int.inj z;omega
  rw [e0];have at0:Ym (x::xs) 0=some x:=Xq (j:=0) rfl;refine ZS ⟨_,rfl,a,_,_,_,rfl,rfl,hS,at0,_,.ty "str",_,_,rfl,rfl,hx.1.kd,kS T t,_,rfl,?_⟩;cases t with
  |str w =>
   have ex:x=.str w:=hx.1.1;refine ZS ⟨T.aF,rfl,⟨_,T.sF _⟩,Zdt (fun i σ H2=>∃v1 v2,σ=[some (.ref a),v1,v2]∧Same H H2∧∀j,j<i->∀p',WK[j]?=some p'->w≠p'.1) ⟨none,none,rfl,Same.refl H,fun j hj=>by omega⟩ (fun _ _ _ _ _=>T.sF _) ?turn ?done⟩
   case done =>
    rintro σ H2 ⟨v1,v2,rfl,s2,b⟩
    have e:Vi (.str w::ts)=false:=by
     rw [JP,ZpY b];rfl
    rw [e] at q;exact q _ s2
   case turn =>
    rintro i y σ H2 hy ⟨v1,v2,rfl,s2,b⟩;have hi:i<6:=(QC.mp hy).1;have hf:WK[i]?=some (WK[i]'hi):=Qw hi;generalize WK[i]'hi=p at hf;obtain ⟨P,G,e1,e2,e3⟩:=Zqm T hf;rw [hy] at e1;have ey:y=.ref P:=Ql e1;subst ey;refine ⟨P,_,rfl,e2 _,rfl,_,_,rfl,_,_,rfl,rfl,?_⟩;refine ⟨_,rfl,a,_,_,_,rfl,rfl,s2.sqt hS,at0,_,rfl,by rw [ex];rfl,_,rfl,?_⟩;rw [ex]
    have ed:decide (V.str w=V.str p.1)=decide (w=p.1):=by
     rw [Rn];simp
    rw [ed];by_cases hw:w=p.1
    ·rw [Qr hw]
     have e:Vi (.str w::ts)=XZ p.2 ts:=by
      rw [JP,Zp4 hf b hw];rfl
     rw [e] at q;refine Z0 ⟨_,rfl,_,rfl,a,_,rfl,s2.sqt hS,?_,fun n hn=>?_⟩
     ·rintro ⟨z,_⟩;have:HT.sIx (x::xs).length 0 (some ((1:Nat):Int))=0:=z;rw [HT.sIx_nat,QG] at this;omega
     ·rw [Zpl];have sn:=Zk (o:=.tup xs) hn;refine ⟨_,rfl,rfl,n,G,xs,ts,p.2,rfl,.of Ze,(hx.2.mono s2).mono sn,e3 _,ZpR p (Qy hf),fun H5 s5=>q _ (s2.trans (sn.trans s5))⟩
    ·rw [Qk hw];refine ZS ⟨_,_,rfl,s2,fun j hj p' e'=>?_⟩;by_cases hji:j<i
     ·exact b j hji p' e'
     ·have:j=i:=by omega
      subst this;rw [hf] at e';cases e';exact hw
  |_=>exact Z0 (q _ (Same.refl H))
theorem Zkv (T:Tx K w mg)  : Zdc P base T:=by
 refine Fun.okX (k:=0) T.ZaV.F Zn6 (fun vs H Q E h=>h.1) (fun cdv A outer s H vs Q E hr h=>?_);obtain ⟨-,h⟩:=h;obtain ⟨v,e,rfl,⟨a,rfl,hE⟩,q⟩:=h;refine ⟨_,(Zj (Zu (YZ UV (Zm Zp (pv 0) Zf (fun _ _=>rfl)) (Z8 (Za Zn (Za Zn Zc))) (by rfl)))),?_⟩;cases e with
 |born n s d f m=>exact ⟨_,rfl,a,_,_,_,rfl,rfl,hE,Zh (j:=0) rfl,few rfl,fun p np=>⟨p,_,rfl,.inr (.of Ze),rfl,rfl,q _ (Zk np)⟩⟩
 |taken c t d=>exact ⟨_,rfl,a,_,_,_,rfl,rfl,hE,Zh (j:=0) rfl,few rfl,fun p np=>⟨p,_,rfl,.inr (.of Ze),rfl,rfl,q _ (Zk np)⟩⟩
 |union x y d=>exact ⟨_,rfl,a,_,_,_,rfl,rfl,hE,Zh (j:=0) rfl,few rfl,fun p np=>⟨p,_,rfl,.inr (.of Ze),rfl,rfl,q _ (Zk np)⟩⟩
 |parted x y d=>exact ⟨_,rfl,a,_,_,_,rfl,rfl,hE,Zh (j:=0) rfl,few rfl,fun p np=>⟨p,_,rfl,.inr (.of Ze),rfl,rfl,q _ (Zk np)⟩⟩
 |dead n d=>exact ⟨_,rfl,a,_,_,_,rfl,rfl,hE,Zh (j:=0) rfl,few rfl,fun p np=>⟨p,_,rfl,.inr (.of Ze),rfl,rfl,q _ (Zk np)⟩⟩
 |given x y z d=>exact ⟨_,rfl,a,_,_,_,rfl,rfl,hE,Zh (j:=0) rfl,few rfl,fun p np=>⟨p,_,rfl,.inr (.of Ze),rfl,rfl,q _ (Zk np)⟩⟩
theorem ZnE (T:Tx K w mg)  : ZdS P base T:=by
 refine Fun.okX (k:=0) T.ZaZ.F ZjP (fun vs H Q E h=>h.1) (fun cdv A outer s H vs Q E hr h=>?_);obtain ⟨-,h⟩:=h;obtain ⟨v,e,rfl,⟨a,rfl,hE⟩,q⟩:=h
 refine ⟨_,(Zl (ZE (ZB ZZ (Zm Zp (pv 0) Zf (fun _ _=>rfl)) Zn (Zs _)) (Zj (Zu (XV rfl (Xi (N:=["name"]) [] [none] rfl (by trivial) (by trivial) (by rfl) (by rfl) (by rfl) (by rfl) (by rfl)) (ZaD (Wr ZaI (pv 0) (Wj Zf) WE)) (fun _ _ _=>(ZT (i:=0) Zqr rfl (Or.inl rfl))) (fun _ _ _=>(WC (ZB Wy (pv 0) Zn (Zs _)))) (fun _ _ _=>(pv 0))))) ZH)
   (Zl (ZE (ZB ZZ (Zm Zp (pv 0) Zf (fun _ _=>rfl)) Zn (Zs _)) (Zj (Zu (Yk (Za (Zm Zp (pv 0) Zf (fun _ _=>rfl)) Zc)))) ZH)
   (Zj (Zu (Yk (Za (Zm Zp (pv 0) Zf (fun _ _=>rfl)) (Za (Zm Zp (pv 0) Zf (fun _ _=>rfl)) Zc))))))),?_⟩
 cases e with
 |born n s d f m =>
  refine ⟨_,rfl,a,_,_,_,rfl,rfl,hE,Zh (j:=0) rfl,rfl,_,rfl,Z4 (by trivial) ⟨_,rfl,_,rfl,?_⟩⟩;dsimp only [Jm];refine JF hE (fun h=>absurd h.1 (show ¬(4:Nat)=0 by decide)) fun H1 p s1 hp=>?_;have hp':SqT K H1 p ([f,m].map V.str):=hp;refine ⟨p,rfl,⟨_,hp'⟩,WF ([f,m].map Uc) (Zy (by simp)) (fun σ=>∃v,σ=[v]) ⟨_,rfl⟩ (fun i H2 hi sm=>?go) (fun H2 sm=>?stop) (fun i σ H2 x H3 o ho hσ sm hx C hC=>?step) (fun D H2 nD sm hD=>?fin)⟩
  case go =>
   have hi':i<([f,m].map V.str).length:=hi;exact ⟨_,_,sm.sqt hp',Qw hi'⟩
  case stop=>exact ⟨_,sm.sqt hp',by simp⟩
  case step =>
   obtain ⟨v,rfl⟩:=hσ;obtain ⟨rfl,hx⟩:=hx;have e1:=hx _ (sm.sqt hp');rw [Qp] at e1 ho;obtain ⟨z,hz,rfl⟩:=QN.mp e1;rw [hz] at ho;obtain rfl:Uc z=o:=Ql ho;refine ⟨_,rfl,rfl,_,rfl,?_⟩;by_cases hz0:z=""
   ·subst hz0;exact Zt (by trivial) (hC _ _ ⟨_,rfl⟩ (Same.refl _))
   ·have e2:Uc z=some (.str z):=Qa hz0;rw [e2] at hC;exact Z4 (by rw [XE,Qk hz0];rfl) ⟨_,rfl,hC _ _ ⟨_,rfl⟩ (Same.refl _)⟩
  case fin =>
   rw [ZgE] at hD;exact q _ D (s1.trans sm) (ZP s1 nD) (.of hD)
 |dead n d=>exact ⟨_,rfl,a,_,_,_,rfl,rfl,hE,Zh (j:=0) rfl,rfl,_,rfl,Zt (by trivial) ⟨_,rfl,a,_,_,_,rfl,rfl,hE,Zh (j:=0) rfl,rfl,_,rfl,Z4 (by trivial) ⟨_,rfl,a,_,_,_,rfl,rfl,hE,Zh (j:=1) rfl,few rfl,fun D nD=>q _ D (Zk nD) nD (.of Ze)⟩⟩⟩
 |taken c t d=>exact ⟨_,rfl,a,_,_,_,rfl,rfl,hE,Zh (j:=0) rfl,rfl,_,rfl,Zt (by trivial) ⟨_,rfl,a,_,_,_,rfl,rfl,hE,Zh (j:=0) rfl,rfl,_,rfl,Zt (by trivial) ⟨_,rfl,a,_,_,_,rfl,rfl,hE,Zh (j:=1) rfl,_,rfl,a,_,_,_,rfl,rfl,hE,Zh (j:=2) rfl,few rfl,fun D nD=>q _ D (Zk nD) nD (.of Ze)⟩⟩⟩
 |union x y d=>exact ⟨_,rfl,a,_,_,_,rfl,rfl,hE,Zh (j:=0) rfl,rfl,_,rfl,Zt (by trivial) ⟨_,rfl,a,_,_,_,rfl,rfl,hE,Zh (j:=0) rfl,rfl,_,rfl,Zt (by trivial) ⟨_,rfl,a,_,_,_,rfl,rfl,hE,Zh (j:=1) rfl,_,rfl,a,_,_,_,rfl,rfl,hE,Zh (j:=2) rfl,few rfl,fun D nD=>q _ D (Zk nD) nD (.of Ze)⟩⟩⟩
 |parted x y d=>exact ⟨_,rfl,a,_,_,_,rfl,rfl,hE,Zh (j:=0) rfl,rfl,_,rfl,Zt (by trivial) ⟨_,rfl,a,_,_,_,rfl,rfl,hE,Zh (j:=0) rfl,rfl,_,rfl,Zt (by trivial) ⟨_,rfl,a,_,_,_,rfl,rfl,hE,Zh (j:=1) rfl,_,rfl,a,_,_,_,rfl,rfl,hE,Zh (j:=2) rfl,few rfl,fun D nD=>q _ D (Zk nD) nD (.of Ze)⟩⟩⟩
 |given x y z d=>exact ⟨_,rfl,a,_,_,_,rfl,rfl,hE,Zh (j:=0) rfl,rfl,_,rfl,Zt (by trivial) ⟨_,rfl,a,_,_,_,rfl,rfl,hE,Zh (j:=0) rfl,rfl,_,rfl,Zt (by trivial) ⟨_,rfl,a,_,_,_,rfl,rfl,hE,Zh (j:=1) rfl,_,rfl,a,_,_,_,rfl,rfl,hE,Zh (j:=2) rfl,few rfl,fun D nD=>q _ D (Zk nD) nD (.of Ze)⟩⟩⟩
theorem ZmA (T:Tx K w mg)  : Zfa P base T:=by
 refine Fun.okX (k:=0) T.Zay.F Zoe (fun vs H Q E h=>h.1) (fun cdv A outer s H vs Q E hr h=>?_);obtain ⟨-,h⟩:=h;obtain ⟨v,e,rfl,⟨a,rfl,hE⟩,q⟩:=h
 refine ⟨_,(Zl (ZE (ZB ZZ (Zm Zp (pv 0) Zf (fun _ _=>rfl)) Zn (Zs _)) (Zj (Zu (Zm Zp (pv 0) Zf (fun _ _=>rfl)))) ZH)
   (Zj (Zu (Zm Zp (pv 0) (Zgl ZhH Zf) (fun _ _=>rfl))))),?_⟩
 cases e with
 |born n s d f m=>exact ⟨_,rfl,a,_,_,_,rfl,rfl,hE,Zh (j:=0) rfl,rfl,_,rfl,Z4 (by trivial) ⟨_,rfl,a,_,_,_,rfl,rfl,hE,Zh (j:=3) rfl,q⟩⟩
 |taken c t d=>exact ⟨_,rfl,a,_,_,_,rfl,rfl,hE,Zh (j:=0) rfl,rfl,_,rfl,Zt (by trivial) ⟨_,rfl,_,rfl,a,_,_,_,rfl,rfl,hE,rfl,q⟩⟩
 |union x y d=>exact ⟨_,rfl,a,_,_,_,rfl,rfl,hE,Zh (j:=0) rfl,rfl,_,rfl,Zt (by trivial) ⟨_,rfl,_,rfl,a,_,_,_,rfl,rfl,hE,rfl,q⟩⟩
 |parted x y d=>exact ⟨_,rfl,a,_,_,_,rfl,rfl,hE,Zh (j:=0) rfl,rfl,_,rfl,Zt (by trivial) ⟨_,rfl,_,rfl,a,_,_,_,rfl,rfl,hE,rfl,q⟩⟩
 |dead n d=>exact ⟨_,rfl,a,_,_,_,rfl,rfl,hE,Zh (j:=0) rfl,rfl,_,rfl,Zt (by trivial) ⟨_,rfl,_,rfl,a,_,_,_,rfl,rfl,hE,rfl,q⟩⟩
 |given x y z d=>exact ⟨_,rfl,a,_,_,_,rfl,rfl,hE,Zh (j:=0) rfl,rfl,_,rfl,Zt (by trivial) ⟨_,rfl,_,rfl,a,_,_,_,rfl,rfl,hE,rfl,q⟩⟩
theorem ZoC (T:Tx K w mg) (UU:Zdc P base T):Zct P base T:=by
 refine Fun.okX (k:=1) T.Zbn.F ZhR (fun vs H Q E h=>h.1) (fun cdv A outer s H vs Q E hr h=>?_);obtain ⟨-,h⟩:=h;obtain ⟨v,e,rfl,hx,q⟩:=h
 refine ⟨_,(Zl (ZE (Xx (YB (ZW UU hr Zz (Za (pv 0) Zc)))) (Zj (Zu (pv 0))) ZH)
   (Zl (ZG (i:=1) ZhR.nd rfl (Or.inl rfl) (ZQ (Zi3 K) (by rfl) T.n_sorted VQ (Za (Wr ZaI (pv 0) (Wj Zf) (Wj Zf)) Zc)))
   (Zj (Zu (Z8 (Za (Zm Zp (pv 0) Zf (fun _ _=>rfl)) (Za (Zm YG (pv 1) Zf (fun _ _=>rfl)) (Za (Zm YG (pv 1) Zf (fun _ _=>rfl)) (Za (Zm Zp (pv 0) Zf (fun _ _=>rfl)) Zc))))))))),?_⟩
 obtain ⟨a,rfl,hE⟩:=id hx;refine ⟨_,rfl,rfl,.ref a,e,rfl,hx,fun H1 s1=>⟨_,rfl,?_⟩⟩;have hE1:=s1.sqt hE;cases e with
 |born n s d f m=>exact Z0 ⟨_,rfl,q _ _ s1 (hx.mono s1)⟩
 |taken c t d=>exact Z0 ⟨_,rfl,q _ _ s1 (hx.mono s1)⟩
 |union x y d =>
  refine ZS ⟨_,rfl,_,rfl,_,rfl,?_⟩;refine JF hE1 (fun h=>absurd h.1 (show ¬(1:Nat)=0 by decide)) fun H2 p s2 hp=>?_;have hp':SqT K H2 p ([x,y].map V.str):=hp;refine ⟨p,[x,y],rfl,hp',QE rfl,fun D zs nD perm so=>?_⟩;rw [ZfU perm so];have s3:=Zk (o:=.lst ([(Zd x y).1,(Zd x y).2].map V.str)) nD;have hE3:=s3.sqt (s2.sqt hE1);have hD:SqL K (Zb H2 D (.lst ([(Zd x y).1,(Zd x y).2].map V.str))) D ([(Zd x y).1,(Zd x y).2].map V.str):=.of Ze;refine ⟨_,rfl,a,_,_,_,rfl,rfl,hE3,Zh (j:=0) rfl,_,rfl,D,_,_,_,rfl,rfl,hD,Zh (j:=0) rfl,_,rfl,D,_,_,_,rfl,rfl,hD,Zh (j:=1) rfl,_,rfl,a,_,_,_,rfl,rfl,hE3,Zh (j:=3) rfl,few rfl,fun t nt=>?_⟩;exact q _ _ (s1.trans (s2.trans (s3.trans (Zk nt)))) ⟨t,rfl,.of Ze⟩
 |parted x y d =>
  refine ZS ⟨_,rfl,_,rfl,_,rfl,?_⟩;refine JF hE1 (fun h=>absurd h.1 (show ¬(1:Nat)=0 by decide)) fun H2 p s2 hp=>?_;have hp':SqT K H2 p ([x,y].map V.str):=hp;refine ⟨p,[x,y],rfl,hp',QE rfl,fun D zs nD perm so=>?_⟩;rw [ZfU perm so];have s3:=Zk (o:=.lst ([(Zd x y).1,(Zd x y).2].map V.str)) nD;have hE3:=s3.sqt (s2.sqt hE1);have hD:SqL K (Zb H2 D (.lst ([(Zd x y).1,(Zd x y).2].map V.str))) D ([(Zd x y).1,(Zd x y).2].map V.str):=.of Ze;refine ⟨_,rfl,a,_,_,_,rfl,rfl,hE3,Zh (j:=0) rfl,_,rfl,D,_,_,_,rfl,rfl,hD,Zh (j:=0) rfl,_,rfl,D,_,_,_,rfl,rfl,hD,Zh (j:=1) rfl,_,rfl,a,_,_,_,rfl,rfl,hE3,Zh (j:=3) rfl,few rfl,fun t nt=>?_⟩;exact q _ _ (s1.trans (s2.trans (s3.trans (Zk nt)))) ⟨t,rfl,.of Ze⟩
 |dead n d=>exact Z0 ⟨_,rfl,q _ _ s1 (hx.mono s1)⟩
 |given x y z d=>exact Z0 ⟨_,rfl,q _ _ s1 (hx.mono s1)⟩
theorem Zjn (T:Tx K w mg) (Ud:Zct P base T):Zec P base T:=by
 refine Fun.okX (k:=2) T.ZaB.F Zj7 (fun vs H Q E h=>h.1) (fun cdv A outer s H vs Q E hr h=>?_);obtain ⟨-,h⟩:=h;obtain ⟨v,e,rfl,hx,q⟩:=h
 refine ⟨_,(Zl (ZE (ZB UV (Zm Zp (pv 0) Zf (fun _ _=>rfl)) (Z8 (Za Zn (Za Zn Zc))) (by rfl)) (Zj (Zu (Z8 (Za (Zm Zp (pv 0) Zf (fun _ _=>rfl)) (Za (Zm Zp (pv 0) Zf (fun _ _=>rfl)) Zc))))) ZH)
   (Zl (ZE (ZB ZZ (Zm Zp (pv 0) Zf (fun _ _=>rfl)) Zn (Zs _)) (Zj (Zu (Z8 (Za (Zm Zp (pv 0) Zf (fun _ _=>rfl)) (Za (Zm Zp (pv 0) Zf (fun _ _=>rfl)) (Za (Zm Zp (pv 0) Zf (fun _ _=>rfl)) Zc)))))) ZH)
   (Zl (ZE (ZB ZZ (Zm Zp (pv 0) Zf (fun _ _=>rfl)) Zn (Zs _)) (Zj (Zu (Z8 (Za (Zm Zp (pv 0) Zf (fun _ _=>rfl)) (Za (Zm Zp (pv 0) Zf (fun _ _=>rfl)) (Za (Zm Zp (pv 0) Zf (fun _ _=>rfl)) (Za (Zm Zp (pv 0) Zf (fun _ _=>rfl)) Zc))))))) ZH)
   (Zj (Zu (Zv Zl3 (Z8 (Za Zn Zc)) (Wr ZaI (ZW Ud hr Zz (Za (pv 0) Zc)) (Wj Zf) WE))))))),?_⟩
 obtain ⟨a,rfl,hE⟩:=id hx;cases e with
 |born n s d f m =>
  refine ⟨_,rfl,a,_,_,_,rfl,rfl,hE,Zh (j:=0) rfl,few rfl,fun p np=>⟨p,_,rfl,.inr (.of Ze),rfl,rfl,_,rfl,Z4 (by trivial) ?_⟩⟩;have s1:=Zk (o:=.tup [.str "born",.str "dead"]) np;have hE1:=s1.sqt hE;exact ⟨_,rfl,a,_,_,_,rfl,rfl,hE1,Zh (j:=0) rfl,_,rfl,a,_,_,_,rfl,rfl,hE1,Zh (j:=1) rfl,few rfl,fun t nt=>q _ t (s1.trans (Zk nt)) (ZP s1 nt) Ze⟩
 |taken c t d =>
  refine ⟨_,rfl,a,_,_,_,rfl,rfl,hE,Zh (j:=0) rfl,few rfl,fun p np=>⟨p,_,rfl,.inr (.of Ze),rfl,rfl,_,rfl,Zt (by trivial) ?_⟩⟩;have s1:=Zk (o:=.tup [.str "born",.str "dead"]) np;have hE1:=s1.sqt hE;refine ⟨_,rfl,a,_,_,_,rfl,rfl,hE1,Zh (j:=0) rfl,rfl,_,rfl,Z4 (by trivial) ?_⟩;exact ⟨_,rfl,a,_,_,_,rfl,rfl,hE1,Zh (j:=0) rfl,_,rfl,a,_,_,_,rfl,rfl,hE1,Zh (j:=1) rfl,_,rfl,a,_,_,_,rfl,rfl,hE1,Zh (j:=2) rfl,few rfl,fun t nt=>q _ t (s1.trans (Zk nt)) (ZP s1 nt) Ze⟩
 |union x y d =>
  refine ⟨_,rfl,a,_,_,_,rfl,rfl,hE,Zh (j:=0) rfl,few rfl,fun p np=>⟨p,_,rfl,.inr (.of Ze),rfl,rfl,_,rfl,Zt (by trivial) ?_⟩⟩;have s1:=Zk (o:=.tup [.str "born",.str "dead"]) np;have hE1:=s1.sqt hE;refine ⟨_,rfl,a,_,_,_,rfl,rfl,hE1,Zh (j:=0) rfl,rfl,_,rfl,Zt (by trivial) ?_⟩;refine ⟨_,rfl,a,_,_,_,rfl,rfl,hE1,Zh (j:=0) rfl,rfl,_,rfl,Zt (by trivial) ?_⟩;refine ⟨few rfl,fun t nt=>⟨_,rfl,rfl,.ref a,_,rfl,(hx.mono s1).mono (Zk nt),fun H2 u s2 hu=>?_⟩⟩;obtain ⟨b,rfl,hb⟩:=hu;refine ⟨_,rfl,?_⟩;dsimp only [Jm];refine JF hb (fun h=>absurd h.1 (show ¬(1:Nat)=0 by decide)) fun H3 c s3 hc=>?_;refine ⟨t,c,[.str "tie"],[.str (Zd x y).1,.str (Zd x y).2,.int d],rfl,rfl,.of (s3 _ _ (s2 _ _ Ze)),hc,by simp,few rfl,fun h=>absurd h (by simp),fun _ z nz=>?_⟩;have s4:=(s1.trans (Zk nt)).trans (s2.trans s3);exact q _ z (s4.trans (Zk nz)) (ZP s4 nz) Ze
 |parted x y d =>
  refine ⟨_,rfl,a,_,_,_,rfl,rfl,hE,Zh (j:=0) rfl,few rfl,fun p np=>⟨p,_,rfl,.inr (.of Ze),rfl,rfl,_,rfl,Zt (by trivial) ?_⟩⟩;have s1:=Zk (o:=.tup [.str "born",.str "dead"]) np;have hE1:=s1.sqt hE;refine ⟨_,rfl,a,_,_,_,rfl,rfl,hE1,Zh (j:=0) rfl,rfl,_,rfl,Zt (by trivial) ?_⟩;refine ⟨_,rfl,a,_,_,_,rfl,rfl,hE1,Zh (j:=0) rfl,rfl,_,rfl,Zt (by trivial) ?_⟩;refine ⟨few rfl,fun t nt=>⟨_,rfl,rfl,.ref a,_,rfl,(hx.mono s1).mono (Zk nt),fun H2 u s2 hu=>?_⟩⟩;obtain ⟨b,rfl,hb⟩:=hu;refine ⟨_,rfl,?_⟩;dsimp only [Jm];refine JF hb (fun h=>absurd h.1 (show ¬(1:Nat)=0 by decide)) fun H3 c s3 hc=>?_;refine ⟨t,c,[.str "tie"],[.str (Zd x y).1,.str (Zd x y).2,.int d],rfl,rfl,.of (s3 _ _ (s2 _ _ Ze)),hc,by simp,few rfl,fun h=>absurd h (by simp),fun _ z nz=>?_⟩;have s4:=(s1.trans (Zk nt)).trans (s2.trans s3);exact q _ z (s4.trans (Zk nz)) (ZP s4 nz) Ze
 |dead n d =>
  refine ⟨_,rfl,a,_,_,_,rfl,rfl,hE,Zh (j:=0) rfl,few rfl,fun p np=>⟨p,_,rfl,.inr (.of Ze),rfl,rfl,_,rfl,Z4 (by trivial) ?_⟩⟩;have s1:=Zk (o:=.tup [.str "born",.str "dead"]) np;have hE1:=s1.sqt hE;exact ⟨_,rfl,a,_,_,_,rfl,rfl,hE1,Zh (j:=0) rfl,_,rfl,a,_,_,_,rfl,rfl,hE1,Zh (j:=1) rfl,few rfl,fun t nt=>q _ t (s1.trans (Zk nt)) (ZP s1 nt) Ze⟩
 |given x y z d =>
  refine ⟨_,rfl,a,_,_,_,rfl,rfl,hE,Zh (j:=0) rfl,few rfl,fun p np=>⟨p,_,rfl,.inr (.of Ze),rfl,rfl,_,rfl,Zt (by trivial) ?_⟩⟩;have s1:=Zk (o:=.tup [.str "born",.str "dead"]) np;have hE1:=s1.sqt hE;refine ⟨_,rfl,a,_,_,_,rfl,rfl,hE1,Zh (j:=0) rfl,rfl,_,rfl,Zt (by trivial) ?_⟩;refine ⟨_,rfl,a,_,_,_,rfl,rfl,hE1,Zh (j:=0) rfl,rfl,_,rfl,Z4 (by trivial) ?_⟩;exact ⟨_,rfl,a,_,_,_,rfl,rfl,hE1,Zh (j:=0) rfl,_,rfl,a,_,_,_,rfl,rfl,hE1,Zh (j:=1) rfl,_,rfl,a,_,_,_,rfl,rfl,hE1,Zh (j:=2) rfl,_,rfl,a,_,_,_,rfl,rfl,hE1,Zh (j:=4) rfl,few rfl,fun t nt=>q _ t (s1.trans (Zk nt)) (ZP s1 nt) Ze⟩
theorem ZjI (T:Tx K w mg)  : Zdj P base T:=by
 refine Fun.okX (k:=0) T.Zbf.F ZlJ (fun vs H Q E h=>h.1) (fun cdv A outer s H vs Q E hr h=>?_);obtain ⟨-,h⟩:=h;obtain ⟨x,rfl,h⟩:=h;refine ⟨_,(Zj (Zu (Ww (Xo K (by rfl) T.n_isinstance (Za (pv 0) (Za (XD (v:=.ty "str") (by rfl) T.n_str W6 rfl) Zc))) (Wc (YZ UV (pv 0) (Wv (v:=.ref T.a_STEP_LETTERS) (by rfl) T.m_STEP_LETTERS rfl) (by rfl)))))),?_⟩;rcases h with ⟨ty,hk,ks,q⟩|⟨l,rfl,q⟩
 ·exact ⟨_,rfl,_,.ty "str",_,_,rfl,rfl,hk,ks,_,rfl,ZS q⟩
 refine ⟨_,rfl,_,.ty "str",_,_,rfl,rfl,.of (.str _),T.k_str_str,_,rfl,Z0 ⟨_,rfl,T.a_STEP_LETTERS,_,rfl,.inr (T.Zgx _),rfl,rfl,?_⟩⟩;have e:(if false=true then !Wi (.str l) (XY.map V.str) else Wi (.str l) (XY.map V.str))=Wf l:=ZbF l XY;rw [←e] at q;exact q
theorem Zo4 (T:Tx K w mg)  : ZdJ P base T:=by
 refine Fun.okX (k:=0) T.Zaz.F Zl4 (fun vs H Q E h=>h.1) (fun cdv A outer s H vs Q E hr h=>?_);obtain ⟨-,h⟩:=h;obtain ⟨a,b,rfl,q⟩:=h;refine ⟨_,(Zj (Zu (Z8 (Za (ZQ (Zc6 rfl) (by rfl) T.n_min JW (Za (pv 0) (Za (pv 1) Zc))) (Za (ZQ (ZdT rfl) (by rfl) T.n_max Jo (Za (pv 0) (Za (pv 1) Zc))) Zc))))),?_⟩;refine ⟨_,rfl,_,rfl,_,_,rfl,_,rfl,_,rfl,_,_,rfl,few rfl,fun p np=>?_⟩;rw [Zb1,Zc2];exact q _ p (Zk np) np Ze
theorem Zmp (T:Tx K w mg)  : Zfg P base T:=by
 refine Fun.okX (k:=0) T.Ux.F Zld (fun vs H Q E h=>h.1) (fun cdv A outer s H vs Q E hr h=>?_);obtain ⟨-,h⟩:=h;obtain ⟨b,dx,rfl,h0,q⟩:=h
 refine ⟨_,(Zl (WM (pv 0) V4 rfl)
   (Zl (WM (pv 0) X9 rfl)
   (Zl (WM (pv 0) V4 rfl)
   (Zl (WM (pv 0) V4 rfl)
   (Zj (WM (pv 0) V4 rfl)))))),?_⟩
 refine fun k nk=>⟨_,rfl,b,T.c_Book,dx,[],rfl,(Zg (ZV h0 nk)).trans h0,T.cl_Book,T.na_Book_kept,QK (m:=10) (QE rfl) (by decide),?_⟩;obtain ⟨g1,p1,s1,m1⟩:=Zag (fs:=[]) "kept" (.dT []) h0 nk;generalize hH1:Zb (Zb H k (.dT [])) b (.ins T.c_Book dx (ZI "kept" (.ref k) ([])))=H1 at *;refine fun bi nbi=>⟨_,rfl,b,T.c_Book,dx,ZI "kept" (.ref k) [],rfl,(Zg (ZV g1 nbi)).trans g1,T.cl_Book,T.na_Book_births,QK (m:=10) (QE rfl) (by decide),?_⟩;obtain ⟨g2,p2,s2,m2⟩:=Zag (fs:=ZI "kept" (.ref k) []) "births" (.dK []) g1 nbi;generalize hH2:Zb (Zb H1 bi (.dK [])) b (.ins T.c_Book dx (ZI "births" (.ref bi) (ZI "kept" (.ref k) [])))=H2 at *;refine fun li nli=>⟨_,rfl,b,T.c_Book,dx,ZI "births" (.ref bi) (ZI "kept" (.ref k) []),rfl,(Zg (ZV g2 nli)).trans g2,T.cl_Book,T.na_Book_links,QK (m:=10) (QE rfl) (by decide),?_⟩;obtain ⟨g3,p3,s3,m3⟩:=Zag (fs:=ZI "births" (.ref bi) (ZI "kept" (.ref k) [])) "links" (.dT []) g2 nli;generalize hH3:Zb (Zb H2 li (.dT [])) b (.ins T.c_Book dx (ZI "links" (.ref li) (ZI "births" (.ref bi) (ZI "kept" (.ref k) []))))=H3 at *;refine fun ti nti=>⟨_,rfl,b,T.c_Book,dx,ZI "links" (.ref li) (ZI "births" (.ref bi) (ZI "kept" (.ref k) [])),rfl,(Zg (ZV g3 nti)).trans g3,T.cl_Book,T.na_Book_ties,QK (m:=10) (QE rfl) (by decide),?_⟩;obtain ⟨g4,p4,s4,m4⟩:=Zag (fs:=ZI "links" (.ref li) (ZI "births" (.ref bi) (ZI "kept" (.ref k) []))) "ties" (.dT []) g3 nti;generalize hH4:Zb (Zb H3 ti (.dT [])) b (.ins T.c_Book dx (ZI "ties" (.ref ti) (ZI "links" (.ref li) (ZI "births" (.ref bi) (ZI "kept" (.ref k) [])))))=H4 at *;refine fun su nsu=>⟨_,rfl,b,T.c_Book,dx,ZI "ties" (.ref ti) (ZI "links" (.ref li) (ZI "births" (.ref bi) (ZI "kept" (.ref k) []))),rfl,(Zg (ZV g4 nsu)).trans g4,T.cl_Book,T.na_Book_sums,QK (m:=10) (QE rfl) (by decide),?_⟩;obtain ⟨g5,p5,s5,m5⟩:=Zag (fs:=ZI "ties" (.ref ti) (ZI "links" (.ref li) (ZI "births" (.ref bi) (ZI "kept" (.ref k) [])))) "sums" (.dT []) g4 nsu;generalize hH5:Zb (Zb H4 su (.dT [])) b (.ins T.c_Book dx (ZI "sums" (.ref su) (ZI "ties" (.ref ti) (ZI "links" (.ref li) (ZI "births" (.ref bi) (ZI "kept" (.ref k) []))))))=H5 at *;have kb:∀{c:Addr} {o:HO} {Hx:Hp},Hx c=some o->(∀fs,o≠.ins T.c_Book dx fs)->∀{fs},Hx b=some (.ins T.c_Book dx fs)->c≠b:=fun e no fs eb z=>by subst z;rw [eb] at e;cases e;exact no _ rfl
 have dT:∀fs,HO.dT []≠.ins T.c_Book dx fs:=fun _ z=>by cases z
 have dK:∀fs,HO.dK []≠.ins T.c_Book dx fs:=fun _ z=>by cases z
 have a1:=s5 _ _ (s4 _ _ (s3 _ _ (s2 _ _ p1 (kb p1 dT g1)) (kb (s2 _ _ p1 (kb p1 dT g1)) dT g2)) (kb (s3 _ _ (s2 _ _ p1 (kb p1 dT g1)) (kb (s2 _ _ p1 (kb p1 dT g1)) dT g2)) dT g3)) (kb p1 dT g1);have a2:=s5 _ _ (s4 _ _ (s3 _ _ p2 (kb p2 dK g2)) (kb p2 dK g2)) (kb p2 dK g2);have a3:=s5 _ _ (s4 _ _ p3 (kb p3 dT g3)) (kb p3 dT g3);have a4:=s5 _ _ p4 (kb p4 dT g4);rw [ZnU] at g5;have kli:k≠li:=ZV (s2 _ _ p1 (kb p1 dT g1)) nli;have kti:k≠ti:=ZV (s3 _ _ (s2 _ _ p1 (kb p1 dT g1)) (kb (s2 _ _ p1 (kb p1 dT g1)) dT g2)) nti;have ksu:k≠su:=ZV (s4 _ _ (s3 _ _ (s2 _ _ p1 (kb p1 dT g1)) (kb (s2 _ _ p1 (kb p1 dT g1)) dT g2)) (kb (s3 _ _ (s2 _ _ p1 (kb p1 dT g1)) (kb (s2 _ _ p1 (kb p1 dT g1)) dT g2)) dT g3)) nsu;have liti:li≠ti:=ZV p3 nti;have lisu:li≠su:=ZV (s4 _ _ p3 (kb p3 dT g3)) nsu;have tisu:ti≠su:=ZV p4 nsu;exact q H5 k bi li ti su ⟨g5,by simp [kli,kti,ksu,liti,lisu,tisu],by simp [VO],a1,a2,a3,a4,p5,fun _ h=>(nomatch h),fun _ h=>(nomatch h),fun _ h=>(nomatch h)⟩ (fun c o e cb=>s5 _ _ (s4 _ _ (s3 _ _ (s2 _ _ (s1 _ _ e cb) cb) cb) cb) cb) nk (m1 _ nbi) (m1 _ (m2 _ nli)) (m1 _ (m2 _ (m3 _ nti))) (m1 _ (m2 _ (m3 _ (m4 _ nsu))))
theorem Zqf (T:Tx K w mg)  : Ug P base T:=by
 refine Fun.okX (k:=0) T.Xj.F Zqv (fun vs H Q E h=>h.1) (fun cdv A outer s H vs Q E hr h=>?_);obtain ⟨-,h⟩:=h;obtain ⟨v,x,B,rfl,⟨b,dx,k,bi,li,ti,su,rfl,hB⟩,h⟩:=h
 refine ⟨_,(Zl (ZE (PW.pt (XF (Xx (YB (Xo K (by rfl) T.n_isinstance (Za (pv 1) (Za (XD (v:=.ty "str") (by rfl) T.n_str W6 rfl) Zc))))) (XR (VL (Zdk (ZO hr) (pv 1) (YQ (pv 0) rfl)))))) (Zj (X3 (by rfl) T.m_NoPerson T.x_NoPerson EB rfl X1 (Za Zn Zc))) ZH)
   (Zj (Zu (YW (ZO hr) (YQ (pv 0) rfl) (pv 1) (fun _ _=>rfl))))),?_⟩
 rcases h with ⟨ty,hk,ks,qe⟩|⟨n,rfl,qe,q⟩
 ·exact ⟨_,rfl,_,.ty "str",_,_,rfl,rfl,hk,ks,_,rfl,Z0 (Z0 ⟨few rfl,qe⟩)⟩
 have dg:=DGet.k (k:=.inr n) hB.bi;rw [Zcv] at dg;refine ⟨_,rfl,_,.ty "str",_,_,rfl,rfl,.of (.str _),T.k_str_str,_,rfl,ZS ⟨_,rfl,_,rfl,b,T.c_Book,dx,_,_,rfl,hB.ob,T.cl_Book,T.na_Book_births,Jj,bi,_,rfl,dg,_,rfl,?_⟩⟩;cases hb:Z3 n B.kept with
 |none=>exact Z0 ⟨few rfl,qe hb⟩
 |some p =>
  rw [hb] at dg;exact ZS ⟨_,rfl,b,T.c_Book,dx,_,_,rfl,hB.ob,T.cl_Book,T.na_Book_births,Jj,_,rfl,bi,.ref p.2,rfl,dg,q p hb⟩
theorem Zm7 (T:Tx K w mg) (Xm:Ug P base T):ZdB P base T:=by
 refine Fun.okX (k:=1) T.Vc.F Zoa (fun vs H Q E h=>h.1) (fun cdv A outer s H vs Q E hr h=>?_);obtain ⟨-,h⟩:=h;obtain ⟨v,x,B,rfl,hv,h⟩:=h;refine ⟨_,(Zj (Zu (Zm Zp (Z1 (pv 0) T.cl_Book T.Xj.me Xm (hr.mono (by decide)) T.Xj.b .nil Xn (Za (pv 1) Zc)) Zf (fun _ _=>rfl)))),?_⟩;obtain ⟨b,dx,k,bi,li,ti,su,rfl,hB⟩:=id hv;refine ⟨_,rfl,b,dx,_,rfl,hB.ob,rfl,_,rfl,rfl,.ref b,x,B,rfl,hv,?_⟩;rcases h with ⟨ty,hk,ks,qe⟩|⟨n,rfl,qe,q⟩
 ·exact .inl ⟨ty,hk,ks,qe⟩
 refine .inr ⟨n,rfl,qe,fun p hp=>?_⟩;obtain ⟨hm,hn⟩:=UL hp;have hE:=hB.en p hm
 obtain ⟨n',s,d,f,m,he⟩:∃n' s d f m,p.1=.born n' s d f m:=by
  cases e:p.1 with
  |born n' s d f m=>exact ⟨n',s,d,f,m,rfl⟩
  |_=>rw [e] at hn;cases hn
 rw [he] at hE;exact ⟨p.2,_,_,_,rfl,rfl,hE,Zh (j:=2) rfl,q p hp n' s d f m he⟩
theorem Zma (T:Tx K w mg) (Xm:Ug P base T):Zbv P base T:=by
 refine Fun.okX (k:=1) T.Y3.F ZoK (fun vs H Q E h=>h.1) (fun cdv A outer s H vs Q E hr h=>?_);obtain ⟨-,h⟩:=h;obtain ⟨v,x,B,rfl,hv,h⟩:=h;refine ⟨_,(Zj (Zu (Zm Zp (Z1 (pv 0) T.cl_Book T.Xj.me Xm (hr.mono (by decide)) T.Xj.b .nil Xn (Za (pv 1) Zc)) Zf (fun _ _=>rfl)))),?_⟩;obtain ⟨b,dx,k,bi,li,ti,su,rfl,hB⟩:=id hv;refine ⟨_,rfl,b,dx,_,rfl,hB.ob,rfl,_,rfl,rfl,.ref b,x,B,rfl,hv,?_⟩;rcases h with ⟨ty,hk,ks,qe⟩|⟨n,rfl,qe,q⟩
 ·exact .inl ⟨ty,hk,ks,qe⟩
 refine .inr ⟨n,rfl,qe,fun p hp=>?_⟩;obtain ⟨hm,hn⟩:=UL hp;have hE:=hB.en p hm
 obtain ⟨n',s,d,f,m,he⟩:∃n' s d f m,p.1=.born n' s d f m:=by
  cases e:p.1 with
  |born n' s d f m=>exact ⟨n',s,d,f,m,rfl⟩
  |_=>rw [e] at hn;cases hn
 rw [he] at hE;exact ⟨p.2,_,_,_,rfl,rfl,hE,Zh (j:=3) rfl,q p hp n' s d f m he⟩
theorem ZpJ (T:Tx K w mg) (U6:ZdB P base T) (XH:Zbv P base T):ZfJ P base T:=by
 refine Fun.okX (k:=2) T.Vy.F Zjc (fun vs H Q E h=>h.1) (fun cdv A outer s H vs Q E hr h=>?_);obtain ⟨-,h⟩:=h;obtain ⟨v,n,s,d,B,rfl,hv,kn,q⟩:=h;refine ⟨_,(Zj (Zu (Zgc (YZ ZZ (pv 1) Zn (Zs _)) (Wc (Ww (YZ ZZ (Z1 (pv 0) T.cl_Book T.Vc.me U6 (hr.mono (by decide)) T.Vc.b .nil Xn (Za (pv 1) Zc)) (pv 2) (Zs _)) (Wc (YZ Wg (Z1 (pv 0) T.cl_Book T.Y3.me XH (hr.mono (by decide)) T.Y3.b .nil Xn (Za (pv 1) Zc)) (pv 3) (Zs _)))))))),?_⟩;obtain ⟨b,dx,k,bi,li,ti,su,rfl,hB⟩:=id hv;refine ⟨_,rfl,rfl,_,rfl,?_⟩;by_cases hn:n=""
 ·have e:XT B n s d=true:=by unfold XT;rw [Qr hn];rfl
  rw [e] at q;exact Z4 (by rw [XE];exact Qr hn) q
 refine Zt (by rw [XE];exact Qk hn) ?_;have e0:XT B n s d=(decide (Wu B n=s)&&decide (ZX B n<d)):=by unfold XT;rw [Qk hn];rfl
 rw [e0] at q;refine ⟨_,rfl,b,dx,_,rfl,hB.ob,rfl,_,rfl,rfl,.ref b,.str n,B,rfl,hv,.inr ⟨n,rfl,fun no=>absurd no (kn hn),fun p hp n' s' d' f m he=>?_⟩⟩;rw [ZaY hp he] at q;refine ⟨_,rfl,rfl,_,rfl,?_⟩;by_cases hs:s'=s
 ·rw [Qr hs,GL] at q;refine Z4 (by rw [XE];exact Qr hs) ?_;refine ⟨_,rfl,b,dx,_,rfl,hB.ob,rfl,_,rfl,rfl,.ref b,.str n,B,rfl,hv,.inr ⟨n,rfl,fun no=>absurd no (kn hn),fun p2 hp2 n2 s2 d2 f2 m2 he2=>?_⟩⟩;rw [U3 hp2 he2] at q;exact ⟨_,rfl,_,_,rfl,rfl,q⟩
 ·rw [Qk hs,GQ] at q;exact Zt (by rw [XE];exact Qk hs) q
theorem ZoW (T:Tx K w mg) (U1:ZdS P base T) (Zeu:Zfa P base T) (XH:Zbv P base T) (Zas:ZfJ P base T):Zg5 P base T:=by
 refine Fun.okX (k:=3) T.Up.F Zf7 (fun vs H Q E h=>h.1) (fun cdv A outer s H vs Q E hr h=>?_);obtain ⟨-,h⟩:=h;obtain ⟨v,x,B,e,rfl,hv,hx,kn,q⟩:=h
 refine ⟨_,(Zl (ZE (ZB ZZ (Zm Zp (pv 1) Zf (fun _ _=>rfl)) Zn (Zs _)) (Zj (Zu (Ww (Z1 (pv 0) T.cl_Book T.Vy.me Zas (hr.mono (by decide)) T.Vy.b .nil Xn (Za (Zm Zp (pv 1) Zf (fun _ _=>rfl)) (Za Zn (Za (Zm Zp (pv 1) Zf (fun _ _=>rfl)) Zc)))) (Wc (Z1 (pv 0) T.cl_Book T.Vy.me Zas (hr.mono (by decide)) T.Vy.b .nil Xn (Za (Zm Zp (pv 1) Zf (fun _ _=>rfl)) (Za Zn (Za (Zm Zp (pv 1) Zf (fun _ _=>rfl)) Zc)))))))) ZH)
   (Zl (ZG (i:=2) Zf7.nd rfl (Or.inl rfl) (ZW U1 hr Zz (Za (pv 1) Zc)))
   (Zl (ZE (PW.pt (VW (ZB ZZ (ZQ YO (by rfl) T.n_len Ye (Za (pv 2) Zc)) Zf (Zs _)) (VZ (ZB ZZ (Zm YG (pv 2) Zf (fun _ _=>rfl)) (Zm YG (pv 2) Zf (fun _ _=>rfl)) (Zs _))))) (Zj (Zu Xc)) ZH)
   (Zl (ZE (PW.pt (VW (ZB ZZ (Zm Zp (pv 1) Zf (fun _ _=>rfl)) Zn (Zs _)) (VZ (ZB JM (Z1 (pv 0) T.cl_Book T.Y3.me XH (hr.mono (by decide)) T.Y3.b .nil Xn (Za (Zm Zp (pv 1) Zf (fun _ _=>rfl)) Zc)) (Z1 (pv 0) T.cl_Book T.Y3.me XH (hr.mono (by decide)) T.Y3.b .nil Xn (Za (Zm Zp (pv 1) Zf (fun _ _=>rfl)) Zc)) (Zs _))))) (Zj (Zu Xc)) ZH)
   (Zj (Zu (ZQ (ZdK rfl) (by rfl) T.n_all ZdW (Za (XV rfl (Xi (N:=["name","entry","self"]) ["self","entry"] [none,some 1,some 0] rfl (by trivial) (by trivial) (by rfl) (by rfl) (by rfl) (by rfl) (by rfl)) (Yz (pv 2)) (fun _ _ _=>(ZT (i:=0) Zmk rfl (Or.inl rfl))) (fun _ _ _=>W3) (fun _ _ _=>(YZ JM (ZW Zeu hr Zz (Za (pv 1) Zc)) (Z1 (pv 2) T.cl_Book T.Y3.me XH (hr.mono (by decide)) T.Y3.b .nil Zz (Za (pv 0) Zc)) (Zs _)))) Zc)))))))),?_⟩
 obtain ⟨b,dx,k,bi,li,ti,su,rfl,hB⟩:=id hv;obtain ⟨a,rfl,hE⟩:=id hx;by_cases hb:e.isBorn=true
 ·cases e with
  |born n s d f m =>
   have kf:f≠""->Known B f:=fun h=>kn f (by simp [Ent.named,h]);have km:m≠""->Known B m:=fun h=>kn m (by simp [Ent.named,h]);have q1:=q _ (Same.refl H);have ef:Ws B (.born n s d f m)=(XT B f "he" d&&XT B m "she" d):=rfl;rw [ef] at q1;refine ⟨_,rfl,a,_,_,_,rfl,rfl,hE,Zh (j:=0) rfl,rfl,_,rfl,Z4 (by trivial) ⟨_,rfl,b,dx,_,rfl,hB.ob,rfl,_,rfl,a,_,_,_,rfl,rfl,hE,Zh (j:=4) rfl,_,rfl,a,_,_,_,rfl,rfl,hE,Zh (j:=3) rfl,rfl,.ref b,f,"he",d,B,rfl,hv,kf,_,rfl,Yo (fun h1=>?_) (fun h1=>?_)⟩⟩
   ·rw [h1,GL] at q1;exact ⟨_,rfl,b,dx,_,rfl,hB.ob,rfl,_,rfl,a,_,_,_,rfl,rfl,hE,Zh (j:=5) rfl,_,rfl,a,_,_,_,rfl,rfl,hE,Zh (j:=3) rfl,rfl,.ref b,m,"she",d,B,rfl,hv,km,q1⟩
   ·rw [h1,GQ] at q1;exact q1
  |_=>cases hb
 replace hb:=QO.mpr hb;rw [Za6 hb] at q
 have w0:∃w:Str,(e.row.map kV)[0]?=some (.str w)∧w≠"born":=by
  cases e with
  |born=>cases hb
  |_=>exact ⟨_,rfl,by trivial⟩
 obtain ⟨w,hw,hwb⟩:=w0;refine ⟨_,rfl,a,_,_,_,rfl,rfl,hE,Zh hw,rfl,_,rfl,Zt (by rw [XE];exact Qk hwb) ?_⟩;refine ⟨_,rfl,rfl,.ref a,e,rfl,hx,fun H1 D s1 nD hD=>?_⟩;dsimp only [Z7];refine Y1 (fun σ H2=>σ=[some (.ref b),some (.ref a),some (.ref D)]∧H2=H1∧e.same=false) (fun nx rest=>?_) (fun σ H2 hJ=>?_)
 ·cases e with
  |born=>cases hb
  |dead n d =>
   exact ⟨_,rfl,D,_,rfl,.inl hD,rfl,_,rfl,Zt rfl (ZS (rest _ _ ⟨rfl,rfl,rfl⟩))⟩
  |_ =>
   refine ⟨_,rfl,D,_,rfl,.inl hD,rfl,_,rfl,Z4 rfl ⟨_,rfl,D,_,_,_,rfl,rfl,hD,Zh (j:=0) rfl,_,rfl,D,_,_,_,rfl,rfl,hD,Zh (j:=1) rfl,rfl,_,rfl,?_⟩⟩;refine Yo (fun h1=>?_) (fun h1=>rest _ _ ⟨rfl,rfl,?_⟩)
   ·have q1:=q _ s1;rw [XE] at h1;simp only [Ent.same,h1,Bool.not_true,GQ] at q1;exact q1
   ·rw [XE] at h1;exact h1
 obtain ⟨rfl,rfl,hsame⟩:=hJ;have hv2:=hv.mono s1;have hB2:=hB.mono s1;have hE2:=s1.sqt hE;have kn2:∀n∈e.named,∀{P:Prop},Z3 n B.kept=none->P:=fun n h _ no=>absurd no (kn n h);rw [hsame] at q;refine Y1 (fun σ H3=>σ=[some (.ref b),some (.ref a),some (.ref D)]∧H3=H2∧e.early B=false) (fun nx rest=>?_) (fun σ H3 hJ=>?_)
 ·cases e with
  |born=>cases hb
  |taken c t d =>
   refine ⟨_,rfl,a,_,_,_,rfl,rfl,hE2,Zh (j:=0) rfl,rfl,_,rfl,Z4 (by trivial) ?_⟩;refine ⟨_,rfl,b,dx,_,rfl,hB2.ob,rfl,_,rfl,a,_,_,_,rfl,rfl,hE2,Zh (j:=2) rfl,rfl,.ref b,.str t,B,rfl,hv2,.inr ⟨t,rfl,kn2 t (by simp [Ent.named]),fun p hp n' s' d' f m he=>?_⟩⟩;refine ⟨_,rfl,b,dx,_,rfl,hB2.ob,rfl,_,rfl,a,_,_,_,rfl,rfl,hE2,Zh (j:=1) rfl,rfl,.ref b,.str c,B,rfl,hv2,.inr ⟨c,rfl,kn2 c (by simp [Ent.named]),fun p2 hp2 n2 s2 d2 f2 m2 he2=>?_⟩⟩;have e1:=U3 hp he;have e2:=U3 hp2 he2;refine ⟨_,_,rfl,rfl,_,rfl,Yo (fun h1=>?_) (fun h1=>rest _ _ ⟨rfl,rfl,?_⟩)⟩
   ·have q1:=q _ s1
    have e3:(Ent.taken c t d).early B=true:=by
     show decide (ZX B c≤ZX B t)=true;rw [e1,e2];exact h1
    rw [e3] at q1;exact q1
   ·show decide (ZX B c≤ZX B t)=false;rw [e1,e2];exact h1
  |_=>exact ⟨_,rfl,a,_,_,_,rfl,rfl,hE2,Zh (j:=0) rfl,rfl,_,rfl,Zt (by trivial) (ZS (rest _ _ ⟨rfl,rfl,rfl⟩))⟩
 obtain ⟨rfl,rfl,hearly⟩:=hJ;rw [hearly] at q;refine ⟨_,rfl,D,rfl,⟨_,hD⟩,Ui (e.named.map fun n=>V.bl (decide (ZX B n≤e.day))) ?len (fun σ=>∃v,σ=[v,some (.ref a),some (.ref b)]) ⟨_,rfl⟩ (fun i H3 hi sm=>?go) (fun H3 sm=>?stop) (fun i σ H3 x H4 y hy hσ sm hx2 C hC=>?step) (fun D2 H3 nD2 sm hD2=>?fin)⟩
 case len =>
  refine Zy ?_;rw [Qd];cases e with
  |born=>cases hb
  |_=>exact QE rfl
 case go =>
  have hi':i<(e.named.map V.str).length:=by rw [Qd] at hi ⊢;exact hi
  exact ⟨_,_,sm.sql hD,Qw hi'⟩
 case stop=>exact ⟨_,sm.sql hD,by simp⟩
 case step =>
  obtain ⟨v,rfl⟩:=hσ;obtain ⟨rfl,hx3⟩:=hx2;have e1:=hx3 _ (sm.sql hD);rw [Qp] at e1 hy;obtain ⟨n,hn,rfl⟩:=QN.mp e1;rw [hn] at hy;obtain rfl:V.bl (decide (ZX B n≤e.day))=y:=Ql hy;have hB3:=hB2.mono sm;refine ⟨_,rfl,rfl,.ref a,e,rfl,hx.mono (s1.trans sm),_,rfl,b,dx,_,rfl,hB3.ob,rfl,_,rfl,rfl,.ref b,.str n,B,rfl,hv2.mono sm,.inr ⟨n,rfl,kn2 n (Qy hn),fun p hp n' s' d' f m he=>⟨_,_,rfl,rfl,?_⟩⟩⟩;rw [U3 hp he] at hC;exact hC _ _ ⟨_,rfl⟩ (Same.refl _)
 case fin =>
  refine ⟨D2,e.named.map fun n=>decide (ZX B n≤e.day),rfl,by rw [hD2,QH];rfl,?_⟩;have q1:=q _ (s1.trans sm);rw [List.all_map];exact q1
theorem Zls (T:Tx K w mg) (Zdg:Zht P base T) (U1:ZdS P base T) (Uj:Zec P base T) (Xm:Ug P base T) (ZbZ:Zg5 P base T):ZfC P base T:=by
 refine Fun.okX (k:=4) T.Uw.F Zf4 (fun vs H Q E h=>h.1) (fun cdv A outer s H vs Q E hr h=>?_);obtain ⟨-,h⟩:=h;obtain ⟨v,x,B,e,rfl,hv,hx,hok,no,q⟩:=h
 refine ⟨_,(Zl (ZE (Xx (YB (ZW Zdg hr Zz (Za (pv 1) Zc)))) (Zj (X3 (by rfl) T.m_NoEntry T.x_NoEntry EB rfl X1 (Za Zn Zc))) ZH)
   (Zl (ZE (ZB JM (ZQ Zjy (by rfl) T.n_len Ye (Za (YQ (pv 0) rfl) Zc)) (Wv (v:=.int 400) (by rfl) T.m_MOST_ENTRIES ⟨_,rfl⟩) (Zs _)) (Zj (X3 (by rfl) T.m_Full T.x_Full EB rfl X1 (Za Zn Zc))) ZH)
   (Zl (ZE (PW.pt (VW (ZB ZZ (Zm Zp (pv 1) Zf (fun _ _=>rfl)) Zn (Zs _)) (VZ (ZB JM (ZQ Zak (by rfl) T.n_len Ye (Za (YQ (pv 0) rfl) Zc)) (Wv (v:=.int 60) (by rfl) T.m_MOST_PEOPLE ⟨_,rfl⟩) (Zs _))))) (Zj (X3 (by rfl) T.m_Full T.x_Full EB rfl X1 (Za Zn Zc))) ZH)
   (Zl (Yr QI rfl (Yz (ZW U1 hr Zz (Za (pv 1) Zc))) (ZT (i:=2) Zf4.nd rfl (Or.inl rfl))
    (Zj (Yv (Z1 (pv 0) T.cl_Book T.Xj.me Xm (hr.mono (by decide)) T.Xj.b .nil Xn (Za (pv 2) Zc)))))
   (Zl (ZE (VL (Zbc (ZO hr) (ZW Uj hr Zz (Za (pv 1) Zc)) (YQ (pv 0) rfl))) (Zj (X3 (by rfl) T.m_Twice T.x_Twice EB rfl X1 (Za Zn Zc))) ZH)
   (Zj (ZE (Xx (YB (Z1 (pv 0) T.cl_Book T.Up.me ZbZ (hr.mono (by decide)) T.Up.b .nil Xn (Za (pv 1) Zc)))) (Zj (X3 (by rfl) T.m_NoFit T.x_NoFit EB rfl X1 (Za Zn Zc))) ZH))))))),?_⟩
 obtain ⟨b,dx,k,bi,li,ti,su,rfl,hB⟩:=id hv;obtain ⟨h400,h60,kn',h1,hf⟩:=ZgK no;obtain ⟨a,rfl,hE⟩:=id hx;refine ⟨_,rfl,rfl,.ref a,rfl,.inr ⟨e.row.map Ji,hok.tv hE,e.row_len,fun H1 s1=>⟨_,rfl,?_⟩⟩⟩;rw [hok.en];have hB1:=hB.mono s1;have hE1:=s1.sqt hE;have hlen:B.keptD.length=B.kept.length:=Qd ..;refine ZS ⟨_,rfl,b,T.c_Book,dx,_,_,rfl,hB1.ob,T.cl_Book,T.na_Book_kept,ZcK,k,_,rfl,hB1.ke,_,_,rfl,rfl,_,rfl,Zt (Qk (by rw [hlen];omega)) ?_⟩;dsimp only [Zee];refine Y1 (fun σ H2=>σ=[some (.ref b),some (.ref a),none]∧H2=H1) (fun nx rest=>?_) (fun σ H2 hJ=>?_)
 ·cases e with
  |born n s d f m=>exact ⟨_,rfl,a,_,_,_,rfl,rfl,hE1,Zh (j:=0) rfl,rfl,_,rfl,Z4 (by trivial) ⟨_,rfl,b,T.c_Book,dx,_,_,rfl,hB1.ob,T.cl_Book,T.na_Book_births,Jj,bi,_,rfl,hB1.bi,_,_,rfl,rfl,_,rfl,Zt (Qk (by have:=h60 rfl;omega)) (rest _ _ ⟨rfl,rfl⟩)⟩⟩
  |_=>exact ⟨_,rfl,a,_,_,_,rfl,rfl,hE1,Zh (j:=0) rfl,rfl,_,rfl,Zt (by trivial) (ZS (rest _ _ ⟨rfl,rfl⟩))⟩
 obtain ⟨rfl,rfl⟩:=hJ;refine ⟨_,rfl,rfl,.ref a,e,rfl,hx.mono s1,fun H2 D s2 nD hD=>⟨D,rfl,⟨_,hD⟩,XN (xs:=e.named.map V.str) (fun i σ H3=>(∃v,σ=[some (.ref b),some (.ref a),v])∧Same H2 H3) ⟨⟨_,rfl⟩,Same.refl _⟩ ?sq ?turn ?done⟩⟩
 case sq =>
  rintro i σ H3 hi ⟨_,s3⟩;exact s3.sql hD
 case turn =>
  rintro i x σ H3 hx3 ⟨⟨v,rfl⟩,s3⟩;rw [Qp] at hx3;obtain ⟨n,hn,rfl⟩:=QN.mp hx3;have sa:=s1.trans (s2.trans s3);have hB3:=hB.mono sa;exact ⟨_,rfl,b,dx,_,rfl,hB3.ob,rfl,_,rfl,rfl,.ref b,.str n,B,rfl,hv.mono sa,.inr ⟨n,rfl,fun no=>absurd no (kn' n (Qy hn)),fun p hp=>⟨⟨_,rfl⟩,s3⟩⟩⟩
 case done =>
  rintro σ H3 ⟨⟨v,rfl⟩,s3⟩;have sa:=s1.trans (s2.trans s3);refine ⟨_,rfl,rfl,.ref a,e,rfl,hx.mono sa,fun H4 p s4 np hp=>?_⟩;have sb:=sa.trans s4;have hB4:=hB.mono sb;have dg:=DGet.t hB4.ke hp;rw [h1] at dg;refine ⟨_,rfl,b,T.c_Book,dx,_,_,rfl,hB4.ob,T.cl_Book,T.na_Book_kept,ZcK,k,_,rfl,dg,_,rfl,ZS ?_⟩;refine ⟨_,rfl,b,dx,_,rfl,hB4.ob,rfl,_,rfl,rfl,.ref b,.ref a,B,e,rfl,hv.mono sb,hx.mono sb,kn',fun H5 s5=>⟨_,rfl,?_⟩⟩;rw [hf];exact ZS (q _ (sb.trans s5))
theorem ZkK (T:Tx K w mg)  : Zbl P base T:=by
 refine Fun.okX (k:=0) T.Xb.F Zpb (fun vs H Q E h=>h.1) (fun cdv A outer s H vs Q E hr h=>?_);obtain ⟨-,h⟩:=h;obtain ⟨b,dx,k,bi,li,ti,su,B,l,n,m,rfl,hB,hl,hz,q⟩:=h;refine ⟨_,(Zj (Xg (ZO hr) (YQ (pv 0) rfl) (Z8 (Za (pv 1) (Za (pv 2) Zc))) (ZQ (Zqs K) (by rfl) T.n_sorted VQ (Za (Zv Zbp (JN (ZO hr) (YQ (pv 0) rfl) (Z8 (Za (pv 1) (Za (pv 2) Zc))) (Yk Zc) ⟨rfl,rfl,rfl,rfl⟩) (Yk (Za (pv 3) Zc))) Zc)) rfl)),?_⟩;refine ⟨_,rfl,b,T.c_Book,dx,_,_,rfl,hB.ob,T.cl_Book,T.na_Book_links,ZaR,li,rfl,.inr ⟨_,.inl hB.li⟩,_,rfl,_,rfl,few rfl,fun t nt=>⟨few rfl,fun z nz=>?_⟩⟩;have s1:=Zk (o:=.tup [.str l,.str n]) nt;have s2:=Zk (o:=.lst []) nz;have s3:=s1.trans s2;have hz0:(Zb (Zb H t (.tup [.str l,.str n])) z (.lst [])) z=some (.lst []):=Ze;have dg:=DGet.t (k:=Zr (l,n)) (s3 _ _ hB.li) (s2 _ _ (Ze (o:=.tup [.str l,.str n])));generalize Zb (Zb H t (.tup [.str l,.str n])) z (.lst [])=H2 at *;rw [show B.linksD=B.links.map fun q=>(Zr q.1,V.ref q.2.1) from rfl,VX] at dg
 have rest:∀(D:Addr) (H3:Hp),Same H H3->H D=none->H3 D=some (.lst ((Zw (Yy B l n++[m])).map V.str))->ZgF K (XJ 0) "links" (L2.start ["self","letter","begin","end"] [.ref b,.str l,.str n,.str m]) H3 fun x H4=>(Ze6 (WO (XJ 1) (WO (XJ 2) UP))) (L2.start ["self","letter","begin","end"] [.ref b,.str l,.str n,.str m]) H4 fun y H5=>∃a H6,x=.ref a∧DPut H5 a y (.ref D) H6∧Q .non H6:=by
  intro D H3 sA nD0 hD;have hB3:=hB.mono sA;refine ⟨_,rfl,b,T.c_Book,dx,_,_,rfl,hB3.ob,T.cl_Book,T.na_Book_links,ZaR,_,rfl,_,rfl,few rfl,fun t2 nt2=>?_⟩;have sB:=Zk (o:=.tup [.str l,.str n]) nt2;have hB4:=hB3.mono sB;refine ⟨li,_,rfl,DPut.t (k:=Zr (l,n)) hB4.li Ze ?_,?_⟩
  ·rw [show B.linksD.length=B.links.length from Qd ..];exact Zy (by omega)
  rw [show B.linksD=B.links.map fun q=>(Zr q.1,V.ref q.2.1) from rfl,UZ (f:=Zr) (fun _ _=>WX) (fun p:Addr×List Str=>V.ref p.1) B.links (l,n) (D,Zw (Yy B l n++[m]))];refine q _ D (hB4.links fun q hq=>?_) ((But.of [li] (sA.trans sB)).trans (But.put hB4.li (by simp))) nD0;rcases JT hq with rfl|hq
  ·exact sB _ _ hD
  ·exact hB4.ll q hq
 refine ⟨_,dg,?_⟩;cases hk:ZL (l,n) B.links with
 |none =>
   have e:Yy B l n=[]:=by unfold Yy;rw [hk];rfl
   have hX:H2 z=some (.lst ((Yy B l n).map V.str)):=by rw [e];exact hz0
   refine ⟨_,rfl,few rfl,fun y ny=>⟨z,y,_,_,rfl,rfl,(Zg (ZV hX ny)).trans hX,Ze,?len,fun p np=>⟨p,Yy B l n++[m],rfl,.of (by rw [Ze,Qm];rfl),?len2,fun D zs nD perm so=>?go⟩⟩⟩
   case len=>rw [Qd];exact Q1 (Zy (by show _+1≤1000;omega))
   case len2=>rw [Qv];show _+1<64;omega
   have s4:=(s3.trans (Zk ny)).trans ((Zk np).trans (Zk (o:=.lst (zs.map V.str)) nD));have hDD:(Zb (Zb (Zb H2 y (.lst [V.str m])) p (.lst ((Yy B l n).map V.str++[V.str m]))) D (.lst (zs.map V.str))) D=some (.lst (zs.map V.str)):=Ze;rw [Zaq perm so] at hDD s4 ⊢;exact rest D _ s4 (ZP ((s3.trans (Zk ny)).trans (Zk np)) nD) hDD
 |some x =>
   have e:Yy B l n=x.2:=by unfold Yy;rw [hk];rfl
   obtain ⟨y0,hy0,ey⟩:=ZcM hk;have hl2:=hB.ll y0 hy0;rw [ey] at hl2;have hX:H2 x.1=some (.lst ((Yy B l n).map V.str)):=by rw [e];exact (s3 _ _ hl2)
   refine ⟨_,rfl,few rfl,fun y ny=>⟨x.1,y,_,_,rfl,rfl,(Zg (ZV hX ny)).trans hX,Ze,?lenb,fun p np=>⟨p,Yy B l n++[m],rfl,.of (by rw [Ze,Qm];rfl),?len2b,fun D zs nD perm so=>?gob⟩⟩⟩
   case lenb=>rw [Qd];exact Q1 (Zy (by show _+1≤1000;omega))
   case len2b=>rw [Qv];show _+1<64;omega
   have s4:=(s3.trans (Zk ny)).trans ((Zk np).trans (Zk (o:=.lst (zs.map V.str)) nD));have hDD:(Zb (Zb (Zb H2 y (.lst [V.str m])) p (.lst ((Yy B l n).map V.str++[V.str m]))) D (.lst (zs.map V.str))) D=some (.lst (zs.map V.str)):=Ze;rw [Zaq perm so] at hDD s4 ⊢;exact rest D _ s4 (ZP ((s3.trans (Zk ny)).trans (Zk np)) nD) hDD
theorem Zm1 (T:Tx K w mg) (XM:Zbl P base T):ZiF P base T:=by
 refine Fun.okX (k:=1) T.UM.F Zll (fun vs H Q E h=>h.1) (fun cdv A outer s H vs Q E hr h=>?_);obtain ⟨-,h⟩:=h;obtain ⟨b,dx,k,bi,li,ti,su,B0,B,n,s,d,f,m,a,rfl,hk,hb,hbi,no,hl0,hE,hB,hz,hc,q⟩:=h
 refine ⟨_,(Zl (Xg (ZO hr) (YQ (pv 0) rfl) (Zm Zp (pv 1) Zf (fun _ _=>rfl)) (pv 1) rfl)
   (Zl (ZE (ZB Wy (Zm Zp (pv 1) Zf (fun _ _=>rfl)) Zn (Zs _)) (Zl (Yv (Z1 (pv 0) T.cl_Book T.Xb.me XM (hr.mono (by decide)) T.Xb.b .nil Zz (Za Zn (Za (Zm Zp (pv 1) Zf (fun _ _=>rfl)) (Za (Zm Zp (pv 1) Zf (fun _ _=>rfl)) Zc)))))
   (Zj (Yv (Z1 (pv 0) T.cl_Book T.Xb.me XM (hr.mono (by decide)) T.Xb.b .nil Zz (Za Zn (Za (Zm Zp (pv 1) Zf (fun _ _=>rfl)) (Za (Zm Zp (pv 1) Zf (fun _ _=>rfl)) Zc))))))) ZH)
   (Zj (ZE (ZB Wy (Zm Zp (pv 1) Zf (fun _ _=>rfl)) Zn (Zs _)) (Zl (Yv (Z1 (pv 0) T.cl_Book T.Xb.me XM (hr.mono (by decide)) T.Xb.b .nil Zz (Za Zn (Za (Zm Zp (pv 1) Zf (fun _ _=>rfl)) (Za (Zm Zp (pv 1) Zf (fun _ _=>rfl)) Zc)))))
   (Zj (Yv (Z1 (pv 0) T.cl_Book T.Xb.me XM (hr.mono (by decide)) T.Xb.b .nil Zz (Za Zn (Za (Zm Zp (pv 1) Zf (fun _ _=>rfl)) (Za (Zm Zp (pv 1) Zf (fun _ _=>rfl)) Zc))))))) ZH)))),?_⟩
 have hb0:ZD (Bk.bornD B0) (.inr n:Zi)=none:=by rw [Zcv,no];rfl
 refine ⟨_,rfl,_,rfl,b,T.c_Book,dx,_,_,rfl,hb,T.cl_Book,T.na_Book_births,Jj,_,rfl,a,_,_,_,rfl,rfl,hE,Zh (j:=1) rfl,bi,_,rfl,DPut.k (k:=.inr n) hbi (Zy (Qi (Qi (ZpK B0) hl0) (by decide))),?_⟩;rw [VE _ hb0,←Zmw B0 n s d f m a,←hk];have bt0:But [bi,li] H (Zb H bi (.dK (Bk.bornD B.kept))):=But.put hbi (by simp);generalize Zb H bi (.dK (Bk.bornD B.kept))=H3 at *;have hmem:(Ent.born n s d f m,a)∈B.kept:=by rw [hk];simp
 dsimp only [Zee];refine Y1 (fun σ H4=>σ=[some (.ref b),some (.ref a)]∧∃ls,BkAt K T.c_Book H4 b dx k bi li ti su { B with links:=ls }∧(∀c,lk ls c=(if f="" then lk B.links else Z6 (Z6 (lk B.links) ("F",n) f) ("f",f) n) c)∧ls.length≤B.links.length+2∧But [bi,li] H H4∧Grows H B.links ls) (fun nx rest=>?_) (fun σ H4 hJ=>?_)
 ·have hE3:=hB.en _ hmem;refine ⟨_,rfl,a,_,_,_,rfl,rfl,hE3,Zh (j:=4) rfl,rfl,_,rfl,?_⟩;by_cases f0:f=""
  ·refine Zt (by show (!decide (V.str f=V.str ""))=false;rw [XE,Qr f0];rfl) (rest _ _ ⟨rfl,B.links,hB,fun c=>by rw [Qb f0],by omega,bt0,Grows.refl _ _⟩)
  have ⟨ls,hls,hB4,hF⟩:∃ls,ls=B.links∧BkAt K T.c_Book H3 b dx k bi li ti su { B with links:=ls }∧∀c,lk ls c=lk B.links c:=⟨B.links,rfl,hB,fun c=>rfl⟩;have hz2:ls.length≤890:=by rw [hls];exact hz
  have hz3:ls.length≤B.links.length:=by rw [hls];exact Qe _
  refine Z4 (by show (!decide (V.str f=V.str ""))=true;rw [XE,Qk f0];rfl) ?_;have hE4:=hB4.en _ hmem;refine ⟨_,rfl,b,dx,_,rfl,hB4.ob,rfl,_,rfl,a,_,_,_,rfl,rfl,hE4,Zh (j:=1) rfl,_,rfl,a,_,_,_,rfl,rfl,hE4,Zh (j:=4) rfl,rfl,b,dx,k,bi,li,ti,su,{ B with links:=ls },"F",n,f,rfl,hB4,?p1,?p2,fun H5 D5 hB5 bt5 nD5=>?p3⟩
  case p1=>rw [V6,hF];exact hc _
  case p2=>show ls.length≤900;omega
  have hE5:=hB5.en _ hmem;refine ⟨_,rfl,b,dx,_,rfl,hB5.ob,rfl,_,rfl,a,_,_,_,rfl,rfl,hE5,Zh (j:=4) rfl,_,rfl,a,_,_,_,rfl,rfl,hE5,Zh (j:=1) rfl,rfl,b,dx,k,bi,li,ti,su,_,"f",f,n,rfl,hB5,?p4,?p5,fun H6 D6 hB6 bt6 nD6=>?p6⟩
  case p4 =>
   rw [V6];show (lk (Zo ls _ (D5,Zw (lk ls ("F",n)++[f]))) _).length≤61;rw [W8,Jh (show Str.ofString "f"≠Str.ofString "F" by trivial),hF];exact hc _
  case p5 =>
   have:=XU ls ("F",n) (D5,Zw (lk ls ("F",n)++[f]));show (Zo ls _ (D5,Zw (lk ls ("F",n)++[f]))).length≤900;omega
  refine rest _ _ ⟨rfl,_,hB6,fun c=>?_,?_,?_,((hls▸Grows.refl _ _:Grows H B.links ls).put (bt0.al _ nD5)).put (bt0.al _ (bt5.al _ nD6))⟩
  ·show lk (Zo (Zo ls ("F",n) (D5,Zw (lk ls ("F",n)++[f]))) ("f",f) (D6,Zw (lk (Zo ls ("F",n) (D5,Zw (lk ls ("F",n)++[f]))) ("f",f)++[n]))) c=_;rw [W8];rw [Qa f0];exact JR (fun c=>(W8 ..).trans (JR hF ..)) ..
  ·have a1:=XU ls ("F",n) (D5,Zw (lk ls ("F",n)++[f]));have a2:=XU (Zo ls ("F",n) (D5,Zw (lk ls ("F",n)++[f]))) ("f",f) (D6,Zw (lk (Zo ls ("F",n) (D5,Zw (lk ls ("F",n)++[f]))) ("f",f)++[n]));show (Zo (Zo ls ("F",n) (D5,Zw (lk ls ("F",n)++[f]))) ("f",f) (D6,Zw (lk (Zo ls ("F",n) (D5,Zw (lk ls ("F",n)++[f]))) ("f",f)++[n]))).length≤_;omega
  ·exact bt0.trans ((bt5.mono (by simp)).trans (bt6.mono (by simp)))
 obtain ⟨rfl,ls,hB4,hF,hl4,bt4,gr⟩:=hJ;have hE3:=hB4.en _ hmem;refine ⟨_,rfl,a,_,_,_,rfl,rfl,hE3,Zh (j:=5) rfl,rfl,_,rfl,?_⟩;by_cases m0:m=""
 ·refine Zt (by show (!decide (V.str m=V.str ""))=false;rw [XE,Qr m0];rfl) (q _ ls hB4 (fun c=>?_) (by omega) bt4 gr);unfold XC;rw [Qb m0];exact hF c
 ·have h1:∀c:Str×Str,c.1≠"F"->c.1≠"f"->((if f="" then lk B.links else Z6 (Z6 (lk B.links) ("F",n) f) ("f",f) n) c).length≤61:=by
   intro c c1 c2;by_cases f0:f=""
   ·rw [Qb f0];exact hc c
   ·rw [Qa f0,Jh c2,Jh c1];exact hc c
  refine Z4 (by show (!decide (V.str m=V.str ""))=true;rw [XE,Qk m0];rfl) ?_;have hE4:=hB4.en _ hmem;refine ⟨_,rfl,b,dx,_,rfl,hB4.ob,rfl,_,rfl,a,_,_,_,rfl,rfl,hE4,Zh (j:=1) rfl,_,rfl,a,_,_,_,rfl,rfl,hE4,Zh (j:=5) rfl,rfl,b,dx,k,bi,li,ti,su,{ B with links:=ls },"M",n,m,rfl,hB4,?r1,?r2,fun H5 D5 hB5 bt5 nD5=>?r3⟩
  case r1=>rw [V6,hF];exact (h1 _ (show Str.ofString "M"≠Str.ofString "F" by trivial) (show Str.ofString "M"≠Str.ofString "f" by trivial))
  case r2=>show ls.length≤900;omega
  have hE5:=hB5.en _ hmem;refine ⟨_,rfl,b,dx,_,rfl,hB5.ob,rfl,_,rfl,a,_,_,_,rfl,rfl,hE5,Zh (j:=5) rfl,_,rfl,a,_,_,_,rfl,rfl,hE5,Zh (j:=1) rfl,rfl,b,dx,k,bi,li,ti,su,_,"m",m,n,rfl,hB5,?r4,?r5,fun H6 D6 hB6 bt6 nD6=>?r6⟩
  case r4 =>
   rw [V6];show (lk (Zo ls _ (D5,Zw (lk ls ("M",n)++[m]))) _).length≤61;rw [W8,Jh (show Str.ofString "m"≠Str.ofString "M" by trivial),hF];exact (h1 _ (show Str.ofString "m"≠Str.ofString "F" by trivial) (show Str.ofString "m"≠Str.ofString "f" by trivial))
  case r5 =>
   have:=XU ls ("M",n) (D5,Zw (lk ls ("M",n)++[m]));show (Zo ls _ (D5,Zw (lk ls ("M",n)++[m]))).length≤900;omega
  refine q _ _ hB6 (fun c=>?_) ?_ ?_ ((gr.put (bt4.al _ nD5)).put (bt4.al _ (bt5.al _ nD6)))
  ·show lk (Zo (Zo ls ("M",n) (D5,Zw (lk ls ("M",n)++[m]))) ("m",m) (D6,Zw (lk (Zo ls ("M",n) (D5,Zw (lk ls ("M",n)++[m]))) ("m",m)++[n]))) c=_;rw [W8];unfold XC;rw [Qa m0];exact JR (fun c=>(W8 ..).trans (JR hF ..)) ..
  ·have a1:=XU ls ("M",n) (D5,Zw (lk ls ("M",n)++[m]));have a2:=XU (Zo ls ("M",n) (D5,Zw (lk ls ("M",n)++[m]))) ("m",m) (D6,Zw (lk (Zo ls ("M",n) (D5,Zw (lk ls ("M",n)++[m]))) ("m",m)++[n]));show (Zo (Zo ls ("M",n) (D5,Zw (lk ls ("M",n)++[m]))) ("m",m) (D6,Zw (lk (Zo ls ("M",n) (D5,Zw (lk ls ("M",n)++[m]))) ("m",m)++[n]))).length≤_;omega
  ·exact bt4.trans ((bt5.mono (by simp)).trans (bt6.mono (by simp)))
theorem Zkl (T:Tx K w mg) (UO:Zdj P base T) (Xm:Ug P base T):Zel P base T:=by
 refine Fun.okX (k:=1) T.Ve.F Zjx (fun vs H Q E h=>h.1) (fun cdv A outer s H vs Q E hr h=>?_);obtain ⟨-,h⟩:=h;obtain ⟨v,x,y,B,rfl,hv,h⟩:=h
 refine ⟨_,(Zl (ZE (Xx (YB (ZW UO hr Zz (Za (pv 1) Zc)))) (Zj (X3 (by rfl) T.m_NoWay T.x_NoWay EB rfl X1 (Za Zn Zc))) ZH)
   (Zl (Yv (Z1 (pv 0) T.cl_Book T.Xj.me Xm (hr.mono (by decide)) T.Xj.b .nil Xn (Za (pv 2) Zc)))
   (Zj (Zu (VN ZiT (by rfl) T.n_list JG (Za (JN (ZO hr) (YQ (pv 0) rfl) (Z8 (Za (pv 1) (Za (pv 2) Zc))) (Yk Zc) ⟨rfl,rfl,rfl,rfl⟩) Zc)))))),?_⟩
 obtain ⟨b,dx,k,bi,li,ti,su,rfl,hB⟩:=id hv;rcases h with ⟨ty,hk,ks,qe⟩|⟨l,rfl,q1,q23⟩
 ·exact ⟨_,rfl,rfl,x,rfl,.inl ⟨ty,hk,ks,_,rfl,Z0 ⟨few rfl,qe⟩⟩⟩
 refine ⟨_,rfl,rfl,.str l,rfl,.inr ⟨l,rfl,_,rfl,?_⟩⟩;cases hl:Wf l with
 |false=>exact Z0 ⟨few rfl,q1 hl⟩
 |true =>
  refine ZS ⟨_,rfl,b,dx,_,rfl,hB.ob,rfl,_,rfl,rfl,.ref b,y,B,rfl,hv,?_⟩;rcases q23 hl with ⟨ty,hk,ks,qe⟩|⟨n,rfl,q2,q3⟩
  ·exact .inl ⟨ty,hk,ks,qe⟩
  refine .inr ⟨n,rfl,q2,fun p hp=>?_⟩;have kn:Known B n:=by unfold Known;rw [hp];simp
  refine ⟨_,rfl,b,T.c_Book,dx,_,_,rfl,hB.ob,T.cl_Book,T.na_Book_links,ZaR,li,rfl,.inr ⟨_,.inl hB.li⟩,_,rfl,_,rfl,few rfl,fun t nt=>⟨few rfl,fun z nz=>?_⟩⟩;have s1:=Zk (o:=.tup [.str l,.str n]) nt;have s2:=Zk (o:=.lst []) nz;have s3:=s1.trans s2;have dg:=DGet.t (k:=Zr (l,n)) (s3 _ _ hB.li) (s2 _ _ (Ze (o:=.tup [.str l,.str n])));rw [show B.linksD=B.links.map fun q=>(Zr q.1,V.ref q.2.1) from rfl,VX] at dg;refine ⟨_,dg,?_⟩;cases hk:ZL (l,n) B.links with
  |none =>
   have e:Yy B l n=[]:=by unfold Yy;rw [hk];rfl
   rw [e] at q3;exact ⟨z,[],rfl,.inl (.of Ze),fun D nD=>q3 kn _ D (s3.trans (Zk nD)) (ZP s3 nD) Ze⟩
  |some x =>
   have e:Yy B l n=x.2:=by unfold Yy;rw [hk];rfl
   rw [e] at q3;obtain ⟨y,hy,ey⟩:=ZcM hk;have hl2:=hB.ll y hy;rw [ey] at hl2;exact ⟨x.1,_,rfl,.inl (.of (s3 _ _ hl2)),fun D nD=>q3 kn _ D (s3.trans (Zk nD)) (ZP s3 nD) Ze⟩
theorem ZkL (T:Tx K w mg) (Uv:ZdJ P base T) (Xm:Ug P base T):Zhx P base T:=by
 refine FunD.okX (k:=1) T.F_Book_stands Zca (fun vs H Q E h=>h.1) (fun cdv A outer s H vs Q E hr h=>?_);obtain ⟨-,h⟩:=h;obtain ⟨v,a,c,B,rfl,hv,ka,kc,hlen,q⟩:=h
 refine ⟨_,(Zl (Yv (Z1 (pv 0) T.cl_Book T.Xj.me Xm (hr.mono (by decide)) T.Xj.b .nil Xn (Za (pv 1) Zc)))
   (Zl (Yv (Z1 (pv 0) T.cl_Book T.Xj.me Xm (hr.mono (by decide)) T.Xj.b .nil Xn (Za (pv 2) Zc)))
   (Zl (ZG (i:=4) Zca.nd rfl (Or.inl rfl) (JN (ZO hr) (YQ (pv 0) rfl) (ZW Uv hr Zz (Za (pv 1) (Za (pv 2) Zc))) X9 ⟨rfl,rfl,rfl,rfl⟩))
   (Zl (Zax (UI (i:=5) rfl  Zca.nd rfl (Or.inl rfl) (Xi (N:=["tied_on","day"]) ["day"] [none,some 3] rfl (by trivial) (by trivial) (by rfl) (by rfl) (by rfl) (by rfl) (by rfl)) (Zal (pv 4)) (fun _ _ _=>(ZT (i:=0) Zn0 rfl (Or.inl rfl))) (fun _ _ _=>(WC (PW.pt (XF (ZB Znp (pv 1) Zbt (Zs _)) (XR (ZB Zd9 (pv 0) (pv 1) (Zs _))))))) (fun _ _ _=>(pv 0))))
   (Zj (Zu (Ww (YZ Wa (ZQ YO (by rfl) T.n_len Ye (Za (pv 5) Zc)) Zf (Zs _)) (Wc (YZ ZZ (YW (ZO hr) (pv 4) (ZQ (ZjB K rfl) (by rfl) T.n_max Jo (Za (pv 5) Zc)) (fun _ _=>rfl)) Zn (Zs _)))))))))),?_⟩
 obtain ⟨b,dx,k,bi,li,ti,su,rfl,hB⟩:=id hv;refine ⟨_,rfl,b,dx,_,rfl,hB.ob,rfl,_,rfl,rfl,.ref b,.str a,B,rfl,hv,.inr ⟨a,rfl,fun no=>absurd no ka,fun p1 hp1=>?_⟩⟩;refine ⟨_,rfl,b,dx,_,rfl,hB.ob,rfl,_,rfl,rfl,.ref b,.str c,B,rfl,hv,.inr ⟨c,rfl,fun no=>absurd no kc,fun p2 hp2=>?_⟩⟩;dsimp only;refine Y1 (fun σ' H'=>∃d,σ'=[some (.ref b),some (.str a),some (.str c),some .non,some (.ref d),none]∧Same H H'∧H' d=some (.dK (Y6 (Yx B (Zd a c))))) (fun nx hnx=>?_) ?_
 ·refine ⟨_,rfl,b,T.c_Book,dx,_,_,rfl,hB.ob,T.cl_Book,T.na_Book_ties,Zf5,ti,rfl,.inr ⟨_,.inl hB.ti⟩,_,rfl,_,rfl,rfl,a,c,rfl,fun H1 t s1 nt ht=>fun z nz=>?_⟩;have s2:=Zk (o:=.dK []) nz;have s3:=s1.trans s2;have dg:=DGet.t (k:=Zr (Zd a c)) (s3 _ _ hB.ti) (s2 _ _ ht);rw [show B.tiesD=B.ties.map fun q=>(Zr q.1,V.ref q.2.1) from rfl,Zab (f:=Zr) (fun _ _=>WX) (fun p:Addr×List (Int×Str)=>V.ref p.1)] at dg;refine ⟨_,dg,?_⟩;cases hk:ZF (Zd a c) B.ties with
  |none =>
   refine hnx _ _ ⟨z,rfl,s3,?_⟩;have e:Yx B (Zd a c)=[]:=by unfold Yx;rw [hk];rfl
   rw [e];exact Ze
  |some x =>
   refine hnx _ _ ⟨x.1,rfl,s3,?_⟩;have e:Yx B (Zd a c)=x.2:=by unfold Yx;rw [hk];rfl
   rw [e];exact s3 _ _ (hB.tt _ (Vf hk))
 rintro σ' H2 ⟨d,rfl,s2,hd⟩;have est:Za1 B a c=YR (Yx B (Zd a c)):=rfl;rw [est] at q;generalize Yx B (Zd a c)=l at *;have llen:(Y6 l).length=l.length:=Qd ..;refine ⟨d,Y6 l,hd,_,rfl,d,Y6 l,rfl,hd,fun o=>WF (l.map fun r=>some (V.int r.1)) (Zy (by rw [Qd];omega)) (fun σ=>∃w,σ=[w,some .non]) ⟨_,rfl⟩ (fun i H3 hi sm=>?go) (fun H3 sm=>?stop) (fun i σ H3 x H4 y hy hσ sm hx C hC=>?step) (fun D H3 nD sm hD=>?fin)⟩
 case go=>exact ⟨sm _ _ Ze,by rw [llen];rw [Qd] at hi;exact hi⟩
 case stop=>exact ⟨sm _ _ Ze,by rw [llen,Qd];exact Qe _⟩
 case step =>
  obtain ⟨w,rfl⟩:=hσ;obtain ⟨rfl,hx2⟩:=hx;rw [Qp] at hy;obtain ⟨r,hr2,rfl⟩:=QN.mp hy
  have ex:x=.int r.1:=by
   unfold Y6 at hx2;rw [Qp,hr2] at hx2;exact (Ql hx2).symm
  subst ex;refine ⟨_,rfl,rfl,_,rfl,Z4 (by rfl) (Z0 ⟨_,rfl,hC _ _ ⟨_,rfl⟩ (Same.refl _)⟩)⟩
 case fin =>
  have ef:(l.map fun r=>some (V.int r.1)).filterMap id=(l.map (·.1)).map V.int:=by
   rw [GV,QH];exact List.filterMap_eq_map▸rfl
  rw [ef] at hD;refine ⟨o,sm _ _ Ze,?_⟩;have nDd:D≠d:=fun e=>by subst e;rw [Ze] at nD;cases nD
  have hD4:(Zb H3 d (.dK (Y6 l))) D=some (.lst ((l.map (·.1)).map V.int)):=(Zg nDd).trans hD;have hd4:(Zb H3 d (.dK (Y6 l))) d=some (.dK (Y6 l)):=Ze
  have s4:Same H2 (Zb H3 d (.dK (Y6 l))):=fun x u e=>by
   by_cases xd:x=d
   ·subst xd;rw [hd] at e;cases e;exact hd4
   ·rw [Zg xd];exact sm _ _ ((Zg xd).trans e)
  generalize Zb H3 d (.dK (Y6 l))=H5 at *;refine ⟨_,rfl,D,_,rfl,.inl (.of hD4),_,_,rfl,rfl,_,rfl,?_⟩;rw [Qd,Qd];cases l with
  |nil=>exact ZS (q _ (s2.trans s4))
  |cons r0 l0 =>
   refine Z4 (Qr (by rw [QG];omega)) ⟨_,rfl,_,rfl,D,(r0::l0).map (·.1),rfl,.of hD4,by simp,fun m hm hx=>?_⟩;obtain ⟨x,ex⟩:=ZnM hm;have dg:=DGet.k (k:=.inl m) hd4;rw [show Y6 (r0::l0)=(r0::l0).map fun q=>((.inl q.1:Zi),V.str q.2) from rfl,Zab (f:=(Sum.inl:Int->Zi)) Zfm V.str,ex] at dg;have q2:=q _ (s2.trans s4);rw [Zis hm hx ex] at q2;refine ⟨d,.str x,rfl,dg,rfl,?_⟩;rw [XE];exact q2
theorem Zkd (T:Tx K w mg) (Uv:ZdJ P base T) (XM:Zbl P base T) (U8:Zel P base T) (Zd2:Zhx P base T):ZgL P base T:=by
 refine Fun.okX (k:=2) T.Uy.F Zbd (fun vs H Q E h=>h.1) (fun cdv A outer s H vs Q E hr h=>?_);obtain ⟨-,h⟩:=h;obtain ⟨b,dx,k,bi,li,ti,su,B,a,kd,p1,p2,d,rfl,hE,hB,k1,k2,nd,tl,dl,ll,lf,q⟩:=h
 refine ⟨_,(Zl (ZG (i:=2) Zbd.nd rfl (Or.inl rfl) (J4 (ZO hr) (YQ (pv 0) rfl) (ZW Uv hr Zz (Za (Zm Zp (pv 1) Zf (fun _ _=>rfl)) (Za (Zm Zp (pv 1) Zf (fun _ _=>rfl)) Zc))) X9 ⟨rfl,rfl,rfl,rfl⟩))
   (Zl (Xg (ZO hr) (pv 2) (Zm Zp (pv 1) Zf (fun _ _=>rfl)) (Zm Zp (pv 1) Zf (fun _ _=>rfl)) rfl)
   (Zj (Yr QI rfl (ZaD (Z8 (Za (Z8 (Za (Zm Zp (pv 1) Zf (fun _ _=>rfl)) (Za (Zm Zp (pv 1) Zf (fun _ _=>rfl)) Zc))) (Za (Z8 (Za (Zm Zp (pv 1) Zf (fun _ _=>rfl)) (Za (Zm Zp (pv 1) Zf (fun _ _=>rfl)) Zc))) Zc)))) (Jz rfl (WJ (ZT (i:=3) Zbd.nd rfl (Or.inl rfl)) (WJ (ZT (i:=4) Zbd.nd rfl (Or.inr rfl)) JX)))
    (Zl (Xg (ZO hr) (YQ (pv 0) rfl) (Z8 (Za Zn (Za (pv 3) Zc))) (XV rfl (Xi (N:=["name","end"]) ["end"] [none,some 4] rfl (by trivial) (by trivial) (by rfl) (by rfl) (by rfl) (by rfl) (by rfl)) (Yz (Z1 (pv 0) T.cl_Book T.Ve.me U8 (hr.mono (by decide)) T.Ve.b .nil Zz (Za Zn (Za (pv 3) Zc)))) (fun _ _ _=>(ZT (i:=0) Zpq rfl (Or.inl rfl))) (fun _ _ _=>(WC (ZB Wy (pv 0) (pv 1) (Zs _)))) (fun _ _ _=>(pv 0))) rfl)
   (Zj (ZE (YB (Z1 (pv 0) T.cl_Book T.me_Book_stands Zd2 (hr.mono (by decide)) T.b_Book_stands (.cons (show RelV V.non Value.none from rfl) .nil) Zz (Za (pv 3) (Za (pv 4) Zc)))) (Zj (Yv (Z1 (pv 0) T.cl_Book T.Xb.me XM (hr.mono (by decide)) T.Xb.b .nil Zz (Za Zn (Za (pv 3) (Za (pv 4) Zc)))))) ZH))))))),?_⟩
 refine Y1 (fun σ' H'=>∃y ts,σ'=[some (.ref b),some (.ref a),some (.ref y),none,none]∧BkAt K T.c_Book H' b dx k bi li ti su { B with ties:=ts }∧(ts.map (·.1)).Nodup∧ts.length≤B.ties.length+1∧ZF (Zd p1 p2) ts=some (y,Yx B (Zd p1 p2))∧(∀c,Y8 ts c=Yx B c)∧But [li,ti,y] H H'∧(H y=none∨y∈B.ties.map (·.2.1))∧GrowsT H B.ties ts∧SqT K H' a [.str kd,.str p1,.str p2,.int d]) (fun nx hnx=>?_) ?_
 ·refine ⟨_,rfl,b,T.c_Book,dx,_,_,rfl,hB.ob,T.cl_Book,T.na_Book_ties,Zf5,ti,rfl,.inr ⟨_,.inl hB.ti⟩,_,rfl,a,_,_,_,rfl,rfl,hE,Zh (j:=1) rfl,_,rfl,a,_,_,_,rfl,rfl,hE,Zh (j:=2) rfl,rfl,p1,p2,rfl,fun H1 t s1 nt ht=>fun z nz=>?_⟩;have s2:=Zk (o:=.dK []) nz;have s3:=s1.trans s2;have hB1:=hB.mono s1;have hB3:=hB.mono s3;have hlen:B.tiesD.length=B.ties.length:=Qd ..;have hval:ZD B.tiesD (Zr (Zd p1 p2))=(ZF (Zd p1 p2) B.ties).map fun p=>V.ref p.1:=Zab (f:=Zr) (fun _ _=>WX) (fun p:Addr×List (Int×Str)=>V.ref p.1) _ _;refine ⟨_,Zr (Zd p1 p2),t,hB3.ti,rfl,s2 _ _ ht,by rw [hlen];exact Zy (by omega),fun v hv=>?_,fun hn=>?_⟩
  ·rw [hval] at hv;obtain ⟨x,hk,rfl⟩:=QN.mp hv;have e:Yx B (Zd p1 p2)=x.2:=by unfold Yx;rw [hk];rfl
   exact hnx _ _ ⟨x.1,B.ties,rfl,hB3,nd,by omega,by rw [hk,e],fun c=>rfl,But.of _ s3,.inr (Qg.mpr ⟨_,Vf hk,rfl⟩),GrowsT.refl _ _,s3.sqt hE⟩
  ·rw [hval] at hn;have hk:ZF (Zd p1 p2) B.ties=none:=by simpa using hn
   have e:Yx B (Zd p1 p2)=[]:=by unfold Yx;rw [hk];rfl
   have zn:∀{x:Addr} {o:HO},H1 x=some o->x≠z:=fun h=>ZV h nz;refine hnx _ _ ⟨z,B.ties++[(Zd p1 p2,z,[])],rfl,hB3.newTie Ze ⟨(zn hB1.bi).symm,fun q hq=>zn (hB1.tt q hq)⟩ _,?_,by rw [Qv];exact Qe _,?_,fun c=>Zpn _ _ _ _ hk,?_,.inl (ZP s1 nz),(fun a ha=>by rw [Qm] at ha;exact (Qq.mp ha).imp id (fun ha=>by rw [show a=z by simpa using ha];exact ZP s1 nz)),?_⟩
   ·rw [Qm,QY];refine ⟨nd,by simp,fun x hx w hw ex=>?_⟩;have ew:w=Zd p1 p2:=by simpa using hw
    subst ew ex;obtain ⟨p,hp,ep⟩:=Qg.mp hx;have:=Za5 hk;rw [Nv] at this;exact absurd (Qr ep) (this p hp)
   ·rw [Za4,hk,e];unfold ZF;rw [Qb rfl];rfl
   ·exact (But.of _ s3).trans (But.put hB3.ti (by simp))
   ·exact YI (s3.sqt hE) hB3.ti (fun _ z=>by cases z) (fun _ _ z=>by cases z)
 rintro σ' H1 ⟨y,ts,rfl,hB1,Jv,tl1,hf,htf,bt1,hy0,grT,hE1⟩;generalize hl:Yx B (Zd p1 p2)=l at *;have hy:H1 y=some (.dK (Y6 l)):=hB1.tt _ (Vf hf);have hB2:=hB1.putTie Jv hf (Zo l d kd);obtain ⟨pa1,pa2⟩:=Zhc (l':=Zo l d kd) Jv hf;have grT2:GrowsT H B.ties (Zo ts (Zd p1 p2) (y,Zo l d kd)):=fun a ha=>grT a (by rw [←pa1];exact ha)
 have tl2:(Zo ts (Zd p1 p2) (y,Zo l d kd)).length=ts.length:=by
  have:=Qj List.length pa1
  rwa [Qd,Qd] at this
 have htf2:∀c,Y8 (Zo ts (Zd p1 p2) (y,Zo l d kd)) c=if c=Zd p1 p2 then Zo l d kd else Yx B c:=fun c=>by rw [ZoP,htf]
 have VI:((Zo ts (Zd p1 p2) (y,Zo l d kd)).map (·.1)).Nodup:=by rw [pa2];exact Jv
 have hE2:SqT K (Zb H1 y (.dK (Y6 (Zo l d kd)))) a [.str kd,.str p1,.str p2,.int d]:=YI hE1 hy (fun _ z=>by cases z) (fun _ _ z=>by cases z);have bt2:But [li,ti,y] H (Zb H1 y (.dK (Y6 (Zo l d kd)))):=bt1.trans (But.put hy (by simp));have dlen:(Y6 l).length=l.length:=Qd ..;refine ⟨_,rfl,a,_,_,_,rfl,rfl,hE1,Zh (j:=0) rfl,_,rfl,_,rfl,a,_,_,_,rfl,rfl,hE1,Zh (j:=3) rfl,y,_,rfl,DPut.k (k:=.inl d) hy (by rw [dlen];exact Zy (by omega)),?_⟩;rw [show Yh (Y6 l) (.inl d) (.str kd)=Y6 (Zo l d kd) from UZ (f:=(Sum.inl:Int->Zi)) Zfm V.str l d kd];generalize Zb H1 y (.dK (Y6 (Zo l d kd)))=H2 at *;generalize Zo ts (Zd p1 p2) (y,Zo l d kd)=ts2 at *;generalize hst:YR (Zo l d kd)=st at *;have ldl:(Zo l d kd).length≤801:=by have:=XU l d kd;omega
 refine ⟨_,rfl,a,_,_,_,rfl,rfl,hE2,Zh (j:=1) rfl,_,rfl,a,_,_,_,rfl,rfl,hE2,Zh (j:=2) rfl,few rfl,fun t1 nt1=>?_⟩;have s1:=Zk (o:=.tup [.str p1,.str p2]) nt1;refine ⟨_,rfl,a,_,_,_,rfl,rfl,(s1.sqt hE2),Zh (j:=2) rfl,_,rfl,a,_,_,_,rfl,rfl,(s1.sqt hE2),Zh (j:=1) rfl,few rfl,fun t2 nt2=>?_⟩;have s2:=Zk (o:=.tup [.str p2,.str p1]) nt2;refine ⟨few rfl,fun t3 nt3=>?_⟩;have s3:=Zk (o:=.tup [.ref t1,.ref t2]) nt3;have s123:=s1.trans (s2.trans s3);refine ⟨t3,rfl,⟨_,.of Ze⟩,Zdt (xs:=[.ref t1,.ref t2]) (fun i σ H5=>∃ls v3 v4,σ=[some (.ref b),some (.ref a),some (.ref y),v3,v4]∧BkAt K T.c_Book H5 b dx k bi li ti su { B with links:=ls,ties:=ts2 }∧(∀c,lk ls c=(match i with|0=>lk B.links|1=>ZM (lk B.links) st p1 p2|_=>ZM (ZM (lk B.links) st p1 p2) st p2 p1) c)∧ls.length≤B.links.length+2*i∧But [li,ti,y] H H5∧SqT K H5 t1 [.str p1,.str p2]∧SqT K H5 t2 [.str p2,.str p1]∧SqT K H5 t3 [.ref t1,.ref t2]∧Grows H B.links ls) ?start ?list ?turn ?done⟩
 case start=>exact ⟨B.links,none,none,rfl,hB2.mono s123,fun c=>rfl,by omega,bt2.trans (But.of _ s123),(s2.trans s3).sqt (.of Ze),s3.sqt (.of Ze),.of Ze,Grows.refl _ _⟩
 case list =>
  rintro i σ H5 _ ⟨ls,v3,v4,rfl,_,_,_,_,_,_,h3,_⟩;exact h3
 case done =>
  rintro σ H5 ⟨ls,v3,v4,rfl,hB5,hlk,hls,bt5,_,_,_,gr⟩;exact q H5 ls ts2 y hB5 VI (by omega) htf2 hlk (by simp at hls;omega) bt5 hy0 grT2 gr
 case turn =>
  rintro i x σ H5 hx ⟨ls,v3,v4,rfl,hB5,hlk,hls,bt5,h1,h2,h3,gr⟩
  have pick:∃tq u w,x=.ref tq∧SqT K H5 tq [.str u,.str w]∧Known B u∧Known B w∧Zd u w=Zd p1 p2∧i≤1∧∀F:Str×Str->List Str,(∀c,F c=ZM (match i with|0=>lk B.links|1=>ZM (lk B.links) st p1 p2|_=>ZM (ZM (lk B.links) st p1 p2) st p2 p1) st u w c)->∀c,F c=(match i+1 with|0=>lk B.links|1=>ZM (lk B.links) st p1 p2|_=>ZM (ZM (lk B.links) st p1 p2) st p2 p1) c:=by
   match i,hx with
   |0,hx=>exact ⟨t1,p1,p2,(Ql hx).symm,h1,k1,k2,rfl,by omega,fun F hF=>hF⟩
   |1,hx=>exact ⟨t2,p2,p1,(Ql hx).symm,h2,k2,k1,Zb6 p2 p1,by omega,fun F hF=>hF⟩
  obtain ⟨tq,u,w,rfl,hq,ku,kw,hpr,i1,hG⟩:=pick
  have gl:∀c,((match i with|0=>lk B.links|1=>ZM (lk B.links) st p1 p2|_=>ZM (ZM (lk B.links) st p1 p2) st p2 p1) c).length≤61:=by
   intro c
   match i,i1 with
   |0,_=>have:=lf c;exact NS this
   |1,_=>exact Qi (Zdr ..) (by have:=lf c;omega)
  generalize (match i with|0=>lk B.links|1=>ZM (lk B.links) st p1 p2|_=>ZM (ZM (lk B.links) st p1 p2) st p2 p1)=G at *;refine ⟨tq,_,rfl,hq,rfl,_,_,rfl,_,_,rfl,rfl,?_⟩;dsimp only [Z7];refine Y1 (fun σ' H'=>∃D2,σ'=[some (.ref b),some (.ref a),some (.ref y),some (.str u),some (.str w)]∧BkAt K T.c_Book H' b dx k bi li ti su { B with links:=Zo ls ("S",u) (D2,(G ("S",u)).filter fun n=>decide (n≠w)),ties:=ts2 }∧But [li,ti,y] H H'∧SqT K H' t1 [.str p1,.str p2]∧SqT K H' t2 [.str p2,.str p1]∧SqT K H' t3 [.ref t1,.ref t2]∧H D2=none) (fun nx hnx=>?_) ?_
  ·refine ⟨_,rfl,b,dx,_,rfl,hB5.ob,rfl,_,rfl,rfl,.ref b,.str "S",.str u,_,rfl,⟨b,dx,k,bi,li,ti,su,rfl,hB5⟩,.inr ⟨"S",rfl,fun h=>absurd h (by trivial),fun _=>.inr ⟨u,rfl,fun no=>absurd no ku,fun _ H6 D s6 nD hD0=>?_⟩⟩⟩;have eL:Yy { B with links:=ls,ties:=ts2 } "S" u=G ("S",u):=hlk ("S",u);rw [eL] at hD0;have hD:SqL K H6 D ((G ("S",u)).map V.str):=.of hD0;refine ⟨D,rfl,⟨_,hD⟩,WF ((G ("S",u)).map (VA w)) (Zy (by rw [Qd];have:=gl ("S",u);omega)) (fun σ=>∃v,σ=[v,some (.str w)]) ⟨_,rfl⟩ (fun j H7 hj sm=>?go) (fun H7 sm=>?stop) (fun j σ H7 x H8 o ho hσ sm hx C hC=>?step) (fun D2 H7 nD2 sm hD2=>?fin)⟩
   case go=>exact ⟨_,_,sm.sql hD,Qw (by rw [Qd] at hj ⊢;exact hj)⟩
   case stop=>exact ⟨_,sm.sql hD,by rw [Qd,Qd];exact Qe _⟩
   case step =>
    obtain ⟨v,rfl⟩:=hσ;obtain ⟨rfl,hx2⟩:=hx;have e1:=hx2 _ (sm.sql hD);rw [Qp] at e1 ho;obtain ⟨n,hn,rfl⟩:=QN.mp e1;rw [hn] at ho;obtain rfl:VA w n=o:=Ql ho;refine ⟨_,rfl,_,rfl,rfl,_,rfl,?_⟩;by_cases hz0:n=w
    ·have e2:VA w n=none:=Qb hz0;rw [e2] at hC;exact Zt (by show (!decide (V.str n=V.str w))=false;rw [XE,Qr hz0];rfl) (hC _ _ ⟨_,rfl⟩ (Same.refl _))
    ·have e2:VA w n=some (.str n):=Qa hz0;rw [e2] at hC;exact Z4 (by show (!decide (V.str n=V.str w))=true;rw [XE,Qk hz0];rfl) ⟨_,rfl,hC _ _ ⟨_,rfl⟩ (Same.refl _)⟩
   case fin =>
    rw [Zfd] at hD2;have s67:=s6.trans sm;have hB7:=hB5.mono s67;refine ⟨_,rfl,b,T.c_Book,dx,_,_,rfl,hB7.ob,T.cl_Book,T.na_Book_links,ZaR,_,rfl,few rfl,fun t nt=>?_⟩;have s8:=Zk (o:=.tup [.str "S",.str u]) nt;have hB8:=hB7.mono s8;have llen:({ B with links:=ls,ties:=ts2 }:Bk).linksD.length=ls.length:=Qd ..;refine ⟨li,_,rfl,DPut.t (k:=Zr ("S",u)) hB8.li Ze (by rw [llen];exact Zy (by omega)),?_⟩;rw [show ({ B with links:=ls,ties:=ts2 }:Bk).linksD=ls.map fun q=>(Zr q.1,V.ref q.2.1) from rfl,UZ (f:=Zr) (fun _ _=>WX) (fun p:Addr×List Str=>V.ref p.1) ls ("S",u) (D2,(G ("S",u)).filter fun n=>decide (n≠w))];have li8:=hB8.li;have kp:∀{c:Addr} {xs:List V},SqT K H5 c xs->SqT K (Zb (Zb H7 t (.tup [.str "S",.str u])) li (.dT ((Zo ls ("S",u) (D2,(G ("S",u)).filter fun n=>decide (n≠w))).map fun q=>(Zr q.1,V.ref q.2.1)))) c xs:=fun h=>YI ((s67.trans s8).sqt h) li8 (fun _ z=>by cases z) (fun _ _ z=>by cases z);refine hnx _ _ ⟨D2,rfl,hB8.links fun q hq=>?_,bt5.trans ((But.of _ (s67.trans s8)).trans (But.put li8 (by simp))),kp h1,kp h2,kp h3,bt5.al _ (ZP s6 nD2)⟩;rcases JT hq with rfl|hq
    ·exact s8 _ _ hD2
    ·exact hB8.ll q hq
  ·rintro σ' H6 ⟨D2,rfl,hB6,bt6,g1,g2,g3,n2⟩;have pl:=XU ls ("S",u) (D2,(G ("S",u)).filter fun n=>decide (n≠w));have lk6:∀c,lk (Zo ls ("S",u) (D2,(G ("S",u)).filter fun n=>decide (n≠w))) c=if c=(("S",u):Str×Str) then (G ("S",u)).filter (fun n=>decide (n≠w)) else G c:=fun c=>by rw [ZfT,hlk]
   have et:Yx { B with links:=Zo ls ("S",u) (D2,(G ("S",u)).filter fun n=>decide (n≠w)),ties:=ts2 } (Zd u w)=Zo l d kd:=by
    rw [Zpo];show Y8 ts2 (Zd u w)=_;rw [htf2,Qb hpr]
   have es:Za1 { B with links:=Zo ls ("S",u) (D2,(G ("S",u)).filter fun n=>decide (n≠w)),ties:=ts2 } u w=st:=by
    unfold Za1;rw [et,hst]
   refine ⟨_,rfl,b,dx,_,rfl,hB6.ob,rfl,_,rfl,_,rfl,rfl,.ref b,u,w,_,rfl,⟨b,dx,k,bi,li,ti,su,rfl,hB6⟩,ku,kw,by rw [et];omega,fun H7 s7=>⟨_,rfl,?_⟩⟩;rw [es];have hB7:=hB6.mono s7;have bt7:=bt6.trans (But.of _ s7);refine Yo (fun hs=>?_) (fun hs=>?_)
   ·have la:Yy { B with links:=Zo ls ("S",u) (D2,(G ("S",u)).filter fun n=>decide (n≠w)),ties:=ts2 } "S" u=(G ("S",u)).filter fun n=>decide (n≠w):=by
     rw [V6];show lk (Zo ls ("S",u) _) ("S",u)=_;rw [lk6,Qb rfl]
    refine ⟨_,rfl,b,dx,_,rfl,hB7.ob,rfl,_,rfl,_,rfl,rfl,b,dx,k,bi,li,ti,su,_,"S",u,w,rfl,hB7,?_,?_,fun H8 D8 hB8 bt8 nD8=>?_⟩
    ·rw [la];exact Qi (Np ..) (gl _)
    ·show (Zo ls ("S",u) _).length≤900;omega
    ·have li7:=hB7.li
     have kp:∀{c:Addr} {xs:List V},SqT K H7 c xs->SqT K H8 c xs:=fun {c xs} h=>by
      rcases h with (h|⟨o,h⟩)|h
      ·exact .inl (.inl (bt8.eq _ _ (fun z=>by rw [show c=li by simpa using z,li7] at h;cases h) h))
      ·exact .inl (.inr ⟨o,bt8.eq _ _ (fun z=>by rw [show c=li by simpa using z,li7] at h;cases h) h⟩)
      ·exact .inr h
     rw [la] at hB8;refine ⟨_,_,_,rfl,hB8,hG _ fun c=>?_,?_,bt7.trans (bt8.mono (by simp)),kp (s7.sqt g1),kp (s7.sqt g2),kp (s7.sqt g3),(gr.put n2).put (bt7.al _ nD8)⟩
     ·rw [ZfT];unfold ZM;by_cases ec:c=(("S",u):Str×Str)
      ·subst ec;rw [Qb rfl,Qb rfl,Qb hs]
      ·rw [Qa ec,Qa ec,lk6,Qa ec]
     ·have p2:=XU (Zo ls ("S",u) (D2,(G ("S",u)).filter fun n=>decide (n≠w))) ("S",u) (D8,Zw ((G ("S",u)).filter (fun n=>decide (n≠w))++[w]));show (Zo (Zo ls ("S",u) _) ("S",u) _).length≤_;omega
   ·refine ⟨_,_,_,rfl,hB7,hG _ fun c=>?_,by show (Zo ls ("S",u) _).length≤_;omega,bt7,s7.sqt g1,s7.sqt g2,s7.sqt g3,gr.put n2⟩;rw [lk6];unfold ZM;by_cases ec:c=(("S",u):Str×Str)
    ·subst ec;rw [Qb rfl,Qb rfl,Qa (by rw [hs];decide)]
    ·rw [Qa ec,Qa ec]
theorem Zqq (T:Tx K w mg) (UU:Zdc P base T) (Ud:Zct P base T) (Uj:Zec P base T) (Zco:ZfC P base T) (XM:Zbl P base T) (ZdI:ZiF P base T) (Zcj:ZgL P base T):Zhb P base T:=by
 refine Fun.okX (k:=5) T.UY.F ZcX (fun vs H Q E h=>h.1) (fun cdv A outer s H vs Q E hr h=>?_);obtain ⟨-,h⟩:=h;obtain ⟨b,dx,k,bi,li,ti,su,B,x,e,rfl,hB,hx,ok,no,rm,q⟩:=h
 refine ⟨_,(Zl (Yv (Z1 (pv 0) T.cl_Book T.Uw.me Zco (hr.mono (by decide)) T.Uw.b .nil Xn (Za (pv 1) Zc)))
   (Zl (ZG (i:=2) ZcX.nd rfl (Or.inl rfl) (ZW Ud hr Zz (Za (pv 1) Zc)))
   (Zl (Xg (ZO hr) (YQ (pv 0) rfl) (ZW Uj hr Zz (Za (pv 2) Zc)) (pv 2) rfl)
   (Zj (ZE (ZB ZZ (Zm Zp (pv 2) Zf (fun _ _=>rfl)) Zn (Zs _)) (Zj (Yv (Z1 (pv 0) T.cl_Book T.UM.me ZdI (hr.mono (by decide)) T.UM.b .nil Zz (Za (pv 2) Zc)))) (Zj (ZE (ZB ZZ (Zm Zp (pv 2) Zf (fun _ _=>rfl)) Zn (Zs _)) (Zl (Yv (Z1 (pv 0) T.cl_Book T.Xb.me XM (hr.mono (by decide)) T.Xb.b .nil Zz (Za Zn (Za (Zm Zp (pv 2) Zf (fun _ _=>rfl)) (Za (Zm Zp (pv 2) Zf (fun _ _=>rfl)) Zc)))))
   (Zj (Yv (Z1 (pv 0) T.cl_Book T.Xb.me XM (hr.mono (by decide)) T.Xb.b .nil Zz (Za Zn (Za (Zm Zp (pv 2) Zf (fun _ _=>rfl)) (Za (Zm Zp (pv 2) Zf (fun _ _=>rfl)) Zc))))))) (Zj (ZE (ZB ZZ (Zm Zp (pv 2) Zf (fun _ _=>rfl)) Zn (Zs _)) (Zl (ZG (i:=3) ZcX.nd rfl (Or.inl rfl) (Z8 (Za (Zm Zp (pv 2) Zf (fun _ _=>rfl)) (Za (Zm Zp (pv 2) Zf (fun _ _=>rfl)) Zc))))
   (Zj (Xg (ZO hr) (YQ (pv 0) rfl) (pv 3) (Zv X6 (JN (ZO hr) (YQ (pv 0) rfl) (pv 3) Zf ⟨rfl,rfl,rfl,rfl⟩) (Zm Zp (pv 2) Zf (fun _ _=>rfl))) rfl))) (Zj (ZE (YB (ZW UU hr Zz (Za (pv 2) Zc))) (Zj (Yv (Z1 (pv 0) T.cl_Book T.Uy.me Zcj (hr.mono (by decide)) T.Uy.b .nil Zz (Za (pv 2) Zc)))) ZH))))))))))),?_⟩
 refine ⟨_,rfl,b,dx,_,rfl,hB.ob,rfl,_,rfl,rfl,.ref b,x,B,e,rfl,⟨b,dx,k,bi,li,ti,su,rfl,hB⟩,hx,ok,no,fun H1 s1=>?_⟩;obtain ⟨hno,hk400,kn⟩:=Zik no;refine ⟨_,rfl,rfl,x,e,rfl,hx.mono s1,fun H2 u s2 hu=>?_⟩;obtain ⟨a,rfl,hA⟩:=hu;have s12:=s1.trans s2;have hB2:=hB.mono s12;have klen:B.keptD.length=B.kept.length:=Qd ..;refine ⟨_,rfl,_,rfl,b,T.c_Book,dx,_,_,rfl,hB2.ob,T.cl_Book,T.na_Book_kept,ZcK,_,rfl,rfl,.ref a,e.told,rfl,⟨a,rfl,hA⟩,fun H3 p s3 np hp=>⟨k,_,rfl,DPut.t (k:=e.told.told.key) (s3 _ _ hB2.ke) hp (by rw [klen];exact Zy (by omega)),?_⟩⟩;rw [Zbj,VE _ hno];have s13:=s12.trans s3;have hB3:=hB.mono s13;have hA3:=s3.sqt hA;have kn2:∀n∈e.told.named,Known B n:=fun n hn=>kn n (ZhN e n hn);have tk:∀(e':Ent),e.told=e'->e'.told=e':=fun e' h=>by rw [←h,Zbj]
 have pt:∀{B':Bk} (e':Ent),e.told=e'->(∀c,Xh B'.sums c=Za2 (Xh B.sums) e' c)->(∃a,B'.kept=B.kept++[(e',a)])->(∀c,lk B'.links c=W4 (lk B.links) (Y8 B.ties) e' c)->(∀c,Y8 B'.ties c=Ue (Y8 B.ties) e' c)->(B'.ties.map (·.1)).Nodup->B'.links.length≤B.links.length+4->B'.ties.length≤B.ties.length+1->B'.sums.length≤B.sums.length+1->Put B e B':=fun {B'} e' h=>by
  subst h;exact Put.mk
 generalize e.told=e' at *;have hK:=hB3.kept (e:=e') hA3;have kb:k≠bi:=YD hB3.ke hB3.bi (fun z=>by cases z);have hA4:SqT K (Zb H3 k (.dT (B.keptD++[(e'.key,.ref a)]))) a (e'.row.map kV):=YI hA3 hB3.ke (fun _ z=>by cases z) (fun _ _ z=>by cases z);have btk:But [k,bi,li,ti,su] H (Zb H3 k (.dT (B.keptD++[(e'.key,.ref a)]))):=(But.of _ s13).trans (But.put hB3.ke (by simp));have hbi:(Zb H3 k (.dT (B.keptD++[(e'.key,.ref a)]))) bi=some (.dK (Bk.bornD B.kept)):=(Zg kb.symm).trans hB3.bi;have hob:(Zb H3 k (.dT (B.keptD++[(e'.key,.ref a)]))) b=some (.ins T.c_Book dx (WP k bi li ti su)):=(Zg (YD hB3.ob hB3.ke (fun z=>by cases z))).trans hB3.ob
 have hKn:e'.isBorn=false->BkAt K T.c_Book (Zb H3 k (.dT (B.keptD++[(e'.key,.ref a)]))) b dx k bi li ti su { B with kept:=B.kept++[(e',a)] }:=fun nb=>by
  rw [ZmU nb,ZpG hbi] at hK;exact hK
 have fresh:∀{y:Addr},H3 y=none->(H y=none∨∃w,H y=some (.dK w)):=fun h=>.inl (ZP s13 h);generalize hH4:Zb H3 k (.dT (B.keptD++[(e'.key,.ref a)]))=H4 at *;dsimp only;have hbiH:∃w,H bi=some (.dK w):=⟨_,hB.bi⟩;cases e' with
 |born n s d f m =>
  refine ⟨_,rfl,a,_,_,_,rfl,rfl,hA4,Zh (j:=0) rfl,rfl,_,rfl,Z4 (by trivial) ?_⟩;refine ⟨_,rfl,b,dx,_,rfl,hob,rfl,_,rfl,rfl,b,dx,k,bi,li,ti,su,B.kept,{ B with kept:=B.kept++[(.born n s d f m,a)] },n,s,d,f,m,a,rfl,rfl,hob,hbi,Zko hno,by omega,hA4,hK,Qi rm.nl (by omega),fun c=>Qi (rm.ll c) (by omega),fun H5 ls hB5 hlk hls bt5 gr5=>?_⟩;exact q H5 _ bi hB5 (pt _ rfl (fun c=>rfl) ⟨a,rfl⟩ hlk (fun c=>rfl) rm.nd hls (QW _) (QW _)) ((btk.mono (by simp)).trans (bt5.mono (by simp))) (.inr (.inl rfl)) (gr5.back btk.al) (GrowsT.refl _ _)
 |taken c t d =>
  have hB4:=hKn rfl;have hmem:((.taken c t d,a):Ent×Addr)∈B.kept++[(.taken c t d,a)]:=by simp
  refine ⟨_,rfl,a,_,_,_,rfl,rfl,hA4,Zh (j:=0) rfl,rfl,_,rfl,Zt (by trivial) ⟨_,rfl,a,_,_,_,rfl,rfl,hA4,Zh (j:=0) rfl,rfl,_,rfl,Z4 (by trivial) ?_⟩⟩;refine ⟨_,rfl,b,dx,_,rfl,hob,rfl,_,rfl,a,_,_,_,rfl,rfl,hA4,Zh (j:=1) rfl,_,rfl,a,_,_,_,rfl,rfl,hA4,Zh (j:=2) rfl,rfl,b,dx,k,bi,li,ti,su,_,"T",c,t,rfl,hB4,Qi (rm.ll _) (by omega),Qi rm.nl (by omega),fun H5 D5 hB5 bt5 nD5=>?_⟩;have hA5:=hB5.en _ hmem
  have l5:lk (Zo B.links ("T",c) (D5,Zw (lk B.links ("T",c)++[t]))) ("t",t)=lk B.links ("t",t):=by
   rw [W8];exact Jh (show ("t" : Str)≠"T" by trivial)
  have n5:=XU B.links ("T",c) (D5,Zw (lk B.links ("T",c)++[t]));have rl:=rm.nl;refine ⟨_,rfl,b,dx,_,rfl,hB5.ob,rfl,_,rfl,a,_,_,_,rfl,rfl,hA5,Zh (j:=2) rfl,_,rfl,a,_,_,_,rfl,rfl,hA5,Zh (j:=1) rfl,rfl,b,dx,k,bi,li,ti,su,_,"t",t,c,rfl,hB5,?_,?_,fun H6 D6 hB6 bt6 nD6=>?_⟩
  ·rw [V6];show (lk (Zo B.links ("T",c) (D5,Zw (lk B.links ("T",c)++[t]))) ("t",t)).length≤61;rw [l5];exact Qi (rm.ll _) (by omega)
  ·show (Zo B.links ("T",c) (D5,Zw (lk B.links ("T",c)++[t]))).length≤900;omega
  ·refine q H6 _ bi hB6 (pt _ rfl (fun c=>rfl) ⟨a,rfl⟩ (fun x=>?_) (fun c=>rfl) rm.nd ?_ (QW _) (QW _)) ((btk.mono (by simp)).trans ((bt5.mono (by simp)).trans (bt6.mono (by simp)))) (.inr (.inl rfl)) (((Grows.refl _ _).put (btk.al _ nD5)).put (btk.al _ (bt5.al _ nD6))) (GrowsT.refl _ _)
   ·show lk (Zo (Zo B.links ("T",c) (D5,Zw (lk B.links ("T",c)++[t]))) ("t",t) (D6,Zw (lk (Zo B.links ("T",c) (D5,Zw (lk B.links ("T",c)++[t]))) ("t",t)++[c]))) x=_;rw [W8];exact JR (fun y=>W8 ..) ..
   ·have n6:=XU (Zo B.links ("T",c) (D5,Zw (lk B.links ("T",c)++[t]))) ("t",t) (D6,Zw (lk (Zo B.links ("T",c) (D5,Zw (lk B.links ("T",c)++[t]))) ("t",t)++[c]));show (Zo (Zo B.links ("T",c) (D5,Zw (lk B.links ("T",c)++[t]))) ("t",t) (D6,Zw (lk (Zo B.links ("T",c) (D5,Zw (lk B.links ("T",c)++[t]))) ("t",t)++[c]))).length≤_;omega
 |given g t am d =>
  have hB4:=hKn rfl;have rs:=rm.ns;refine ⟨_,rfl,a,_,_,_,rfl,rfl,hA4,Zh (j:=0) rfl,rfl,_,rfl,Zt (by trivial) ⟨_,rfl,a,_,_,_,rfl,rfl,hA4,Zh (j:=0) rfl,rfl,_,rfl,Zt (by trivial) ⟨_,rfl,a,_,_,_,rfl,rfl,hA4,Zh (j:=0) rfl,rfl,_,rfl,Z4 (by trivial) ?_⟩⟩⟩;refine ⟨_,rfl,a,_,_,_,rfl,rfl,hA4,Zh (j:=1) rfl,_,rfl,a,_,_,_,rfl,rfl,hA4,Zh (j:=2) rfl,few rfl,fun pg npg=>?_⟩;have s5:=Zk (o:=.tup [.str g,.str t]) npg;have hB5:=hB4.mono s5;have hA5:=s5.sqt hA4;have dg:=DGet.t (k:=Zr (g,t)) hB5.su (Ze (o:=.tup [.str g,.str t]));have hval:ZD ({ B with kept:=B.kept++[(.given g t am d,a)] }:Bk).sumsD (Zr (g,t))=(ZF (g,t) B.sums).map V.int:=Zab (f:=Zr) (fun _ _=>WX) V.int _ _;rw [hval] at dg;have slen:({ B with kept:=B.kept++[(.given g t am d,a)] }:Bk).sumsD.length=B.sums.length:=Qd ..
  have iv:∃i:Int,((ZF (g,t) B.sums).map V.int).getD (.int 0)=.int i:=by
   cases ZF (g,t) B.sums with
   |none=>exact ⟨0,rfl⟩
   |some i=>exact ⟨i,rfl⟩
  obtain ⟨i,hi⟩:=iv;refine ⟨_,rfl,b,T.c_Book,dx,_,_,rfl,hB5.ob,T.cl_Book,T.na_Book_sums,Zio,su,rfl,.inr ⟨_,.inl hB5.su⟩,_,rfl,_,dg,_,rfl,a,_,_,_,rfl,rfl,hA5,Zh (j:=3) rfl,i,am,hi,rfl,_,rfl,b,T.c_Book,dx,_,_,rfl,hB5.ob,T.cl_Book,T.na_Book_sums,Zio,_,rfl,su,_,rfl,DPut.t (k:=Zr (g,t)) hB5.su (Ze (o:=.tup [.str g,.str t])) (by rw [slen];exact Zy (by omega)),?_⟩;rw [show Yh ({ B with kept:=B.kept++[(.given g t am d,a)] }:Bk).sumsD (Zr (g,t)) (V.int (i+am))=(Zo B.sums (g,t) (i+am)).map fun q=>(Zr q.1,V.int q.2) from UZ (f:=Zr) (fun _ _=>WX) V.int B.sums (g,t) (i+am)]
  have ei:i=Xh B.sums (g,t):=by
   unfold Xh;cases hf:ZF (g,t) B.sums with
   |none=>rw [hf] at hi;exact (V.int.inj hi).symm
   |some j=>rw [hf] at hi;exact (V.int.inj hi).symm
  exact q _ _ bi (hB5.sums _) (pt _ rfl (fun c=>by rw [ei];exact Znm B.sums g t am d c) ⟨a,rfl⟩ (fun c=>rfl) (fun c=>rfl) rm.nd (RV ..) (QW _) (XU ..)) ((btk.mono (by simp)).trans ((But.of _ s5).trans (But.put hB5.su (by simp)))) (.inr (.inl rfl)) (Grows.refl _ _) (GrowsT.refl _ _)
 |dead n d =>
  have hB4:=hKn rfl;refine ⟨_,rfl,a,_,_,_,rfl,rfl,hA4,Zh (j:=0) rfl,rfl,_,rfl,Zt (by trivial) ⟨_,rfl,a,_,_,_,rfl,rfl,hA4,Zh (j:=0) rfl,rfl,_,rfl,Zt (by trivial) ⟨_,rfl,a,_,_,_,rfl,rfl,hA4,Zh (j:=0) rfl,rfl,_,rfl,Zt (by trivial) ?_⟩⟩⟩;refine ⟨_,rfl,rfl,.ref a,.dead n d,rfl,⟨a,rfl,hA4⟩,fun H5 s5=>⟨_,rfl,ZS ?_⟩⟩;exact q _ _ bi (hB4.mono s5) (pt _ rfl (fun c=>rfl) ⟨a,rfl⟩ (fun c=>rfl) (fun c=>rfl) rm.nd (RV ..) (QW _) (QW _)) ((btk.mono (by simp)).trans (But.of _ s5)) (.inr (.inl rfl)) (Grows.refl _ _) (GrowsT.refl _ _)
 |union x y d =>
  have hB4:=hKn rfl;refine ⟨_,rfl,a,_,_,_,rfl,rfl,hA4,Zh (j:=0) rfl,rfl,_,rfl,Zt (by trivial) ⟨_,rfl,a,_,_,_,rfl,rfl,hA4,Zh (j:=0) rfl,rfl,_,rfl,Zt (by trivial) ⟨_,rfl,a,_,_,_,rfl,rfl,hA4,Zh (j:=0) rfl,rfl,_,rfl,Zt (by trivial) ?_⟩⟩⟩;refine ⟨_,rfl,rfl,.ref a,.union x y d,rfl,⟨a,rfl,hA4⟩,fun H5 s5=>⟨_,rfl,Z0 ?_⟩⟩;have hB5:=hB4.mono s5;have rl:=rm.nl;have rt:=rm.nt;refine ⟨_,rfl,b,dx,_,rfl,hB5.ob,rfl,_,rfl,rfl,b,dx,k,bi,li,ti,su,_,a,"union",x,y,d,rfl,s5.sqt hA4,hB5,(kn2 x (by simp [Ent.named])).more rfl,(kn2 y (by simp [Ent.named])).more rfl,rm.nd,Qi rm.nt (by omega),Qi (rm.tt _) (by omega),Qi rm.nl (by omega),rm.ll,fun H6 ls ts z hB6 nd6 tl6 htf hlk hls bt6 hz grT6 gr6=>?_⟩;exact q H6 _ z hB6 (pt _ rfl (fun c=>rfl) ⟨a,rfl⟩ hlk htf nd6 hls tl6 (QW _)) ((btk.mono (by simp)).trans ((But.of _ s5).trans (bt6.mono (by simp)))) (hz.imp (fun h=>btk.al _ (ZP s5 h)) .inr) (gr6.back fun a n=>btk.al a (ZP s5 n)) (grT6.back fun a n=>btk.al a (ZP s5 n))
 |parted x y d =>
  have hB4:=hKn rfl;refine ⟨_,rfl,a,_,_,_,rfl,rfl,hA4,Zh (j:=0) rfl,rfl,_,rfl,Zt (by trivial) ⟨_,rfl,a,_,_,_,rfl,rfl,hA4,Zh (j:=0) rfl,rfl,_,rfl,Zt (by trivial) ⟨_,rfl,a,_,_,_,rfl,rfl,hA4,Zh (j:=0) rfl,rfl,_,rfl,Zt (by trivial) ?_⟩⟩⟩;refine ⟨_,rfl,rfl,.ref a,.parted x y d,rfl,⟨a,rfl,hA4⟩,fun H5 s5=>⟨_,rfl,Z0 ?_⟩⟩;have hB5:=hB4.mono s5;have rl:=rm.nl;have rt:=rm.nt;refine ⟨_,rfl,b,dx,_,rfl,hB5.ob,rfl,_,rfl,rfl,b,dx,k,bi,li,ti,su,_,a,"parted",x,y,d,rfl,s5.sqt hA4,hB5,(kn2 x (by simp [Ent.named])).more rfl,(kn2 y (by simp [Ent.named])).more rfl,rm.nd,Qi rm.nt (by omega),Qi (rm.tt _) (by omega),Qi rm.nl (by omega),rm.ll,fun H6 ls ts z hB6 nd6 tl6 htf hlk hls bt6 hz grT6 gr6=>?_⟩;exact q H6 _ z hB6 (pt _ rfl (fun c=>rfl) ⟨a,rfl⟩ hlk htf nd6 hls tl6 (QW _)) ((btk.mono (by simp)).trans ((But.of _ s5).trans (bt6.mono (by simp)))) (hz.imp (fun h=>btk.al _ (ZP s5 h)) .inr) (gr6.back fun a n=>btk.al a (ZP s5 n)) (grT6.back fun a n=>btk.al a (ZP s5 n))
theorem Zor (T:Tx K w mg)  : Ze5 P base T:=by
 refine Fun.okX (k:=0) T.UF.F Zo1 (fun vs H Q E h=>h.1) (fun cdv A outer s H vs Q E hr h=>?_);obtain ⟨-,h⟩:=h;obtain ⟨v,B,rfl,⟨b,dx,k,bi,li,ti,su,rfl,hB⟩,hl,q⟩:=h;refine ⟨_,(Zj (Zu (ZQ (J6 rfl) (by rfl) T.n_sorted VQ (Za (YQ (pv 0) rfl) Zc)))),?_⟩;have hbi:=hB.bi;rw [Zhr] at hbi;rw [←ZiA] at hl q;rw [Qd] at hl;refine ⟨_,rfl,b,T.c_Book,dx,_,_,rfl,hB.ob,T.cl_Book,T.na_Book_births,Jj,bi,J2 B.kept,rfl,hbi,hl,fun D zs nD perm so=>?_⟩;rw [Zaq perm so];exact q _ D (Zk nD) nD Ze
theorem Zlp (T:Tx K w mg)  : ZdH P base T:=by
 refine Fun.okX (k:=0) T.Zaj.F Zj8 (fun vs H Q E h=>h.1) (fun cdv A outer s H vs Q E hr h=>?_);obtain ⟨-,h⟩:=h;obtain ⟨x,rfl,q⟩:=h;refine ⟨_,(Zj (Zu (Ww (Xo K (by rfl) T.n_isinstance (Za (pv 0) (Za (XD (v:=.ty "str") (by rfl) T.n_str W6 rfl) Zc))) (Wc (YZ UV (pv 0) (Wv (v:=.ref T.a_TESTS) (by rfl) T.m_TESTS rfl) (by rfl)))))),?_⟩;refine ⟨_,rfl,_,.ty "str",_,_,rfl,rfl,.of (.str _),T.k_str_str,_,rfl,Z0 ⟨_,rfl,T.a_TESTS,_,rfl,.inr (T.Zf9 _),rfl,rfl,?_⟩⟩;have e:(if false=true then !Wi (.str x) ((["he","she"]:List Str).map V.str) else Wi (.str x) ((["he","she"]:List Str).map V.str))=Vr x:=ZbF x ["he","she"];rw [←e] at q;exact q
theorem ZlP (T:Tx K w mg) (U6:ZdB P base T) (U8:Zel P base T) (U0:ZdH P base T):Zdu P base T:=by
 refine Fun.okX (k:=2) T.Zbb.F ZpQ (fun vs H Q E h=>h.1) (fun cdv A outer s H vs Q E hr h=>?_);obtain ⟨-,h⟩:=h;obtain ⟨v,s,n,B,rfl,hB,hs,kn,q⟩:=h
 refine ⟨_,(Zl (ZE (YB (ZW U0 hr Zz (Za (pv 1) Zc))) (Zj (Zu (Zjg (ZB ZZ (Z1 (pv 0) T.cl_Book T.Vc.me U6 (hr.mono (by decide)) T.Vc.b .nil Xn (Za (pv 2) Zc)) (pv 1) (Zs _)) (Yk (Za (pv 2) Zc)) (Yk Zc)))) ZH)
   (Zj (Zu (Z1 (pv 0) T.cl_Book T.Ve.me U8 (hr.mono (by decide)) T.Ve.b .nil Xn (Za (pv 1) (Za (pv 2) Zc)))))),?_⟩
 obtain ⟨b,dx,k,bi,li,ti,su,rfl,hB⟩:=hB;have hv:BkHas K T.c_Book H (.ref b) B:=⟨b,dx,k,bi,li,ti,su,rfl,hB⟩;unfold YE at q;refine ⟨_,rfl,rfl,_,rfl,?_⟩;dsimp only;cases ht:Vr s with
 |true =>
  rw [Qb ht] at q;refine ⟨true,rfl,Z0 ⟨_,rfl,b,dx,_,rfl,hB.ob,rfl,_,rfl,rfl,.ref b,.str n,B,rfl,hv,.inr ⟨n,rfl,fun no=>absurd no kn,fun p hp n' s' d f m ep=>?_⟩⟩⟩;rw [Zp7 hp ep] at q;refine ⟨_,rfl,rfl,_,rfl,?_⟩;dsimp only;by_cases e:s'=s
  ·rw [Qb e] at q;rw [Qr (show V.str s'=V.str s by rw [e])];exact Z0 ⟨_,rfl,few rfl,fun D nD=>q _ D (Zk nD) nD Ze⟩
  ·rw [Qa e] at q;rw [Qk (show ¬V.str s'=V.str s from fun z=>e (V.str.inj z))];exact ZS ⟨few rfl,fun D nD=>q _ D (Zk nD) nD Ze⟩
 |false =>
  rw [Qa (by rw [ht];decide)] at q;refine ⟨false,rfl,ZS ⟨_,rfl,b,dx,_,rfl,hB.ob,rfl,_,rfl,_,rfl,rfl,.ref b,.str s,.str n,B,rfl,hv,.inr ⟨s,rfl,fun no=>?_,fun hl=>.inr ⟨n,rfl,fun no=>absurd no kn,fun _ H' D s1 nD hD=>q H' D s1 nD hD⟩⟩⟩⟩;exfalso;unfold Wf at no;unfold Vr at ht;have n1:s∉XY:=Rr no;have n2:s∉(["he","she"]:List Str):=Rr ht;have:s∈XY++(["he","she"]:List Str):=hs;exact (Qq.mp this).elim n1 n2
theorem Znw (T:Tx K w mg)  : Zgz P base T:=by
 refine Fun.okX (k:=0) T.UK.F ZjX (fun vs H Q E h=>h.1) (fun cdv A outer s H vs Q E hr h=>?_);obtain ⟨-,h⟩:=h;obtain ⟨b,dx,z,rfl,hb,q⟩:=h;refine ⟨_,(Zj (WM (pv 0) (pv 1) rfl)),?_⟩;exact ⟨_,rfl,_,rfl,b,T.c_Letter,dx,[],rfl,hb,T.cl_Letter,T.na_Letter_letter,by show (0:Nat)<1000;decide,q⟩
theorem ZmL (T:Tx K w mg) (Ul:Zdu P base T):ZhK P base T:=by
 refine Fun.okX (k:=3) T.U4.F ZoD (fun vs H Q E h=>h.1) (fun cdv A outer s H vs Q E hr h=>?_);obtain ⟨-,h⟩:=h;obtain ⟨a,dx,s,v,t,n,B,rfl,ha,hB,s9,kn,q⟩:=h;refine ⟨_,(Zj (Zu (ZW Ul hr Zz (Za (pv 1) (Za (YQ (pv 0) rfl) (Za (pv 3) Zc)))))),?_⟩;exact ⟨_,rfl,_,rfl,a,T.c_Letter,dx,_,_,rfl,ha,T.cl_Letter,T.na_Letter_letter,rfl,_,rfl,rfl,v,s,n,B,rfl,hB,s9,kn,q⟩
theorem ZnY (T:Tx K w mg)  : Zgi P base T:=by
 refine Fun.okX (k:=0) T.UH.F ZkH (fun vs H Q E h=>h.1) (fun cdv A outer s H vs Q E hr h=>?_);obtain ⟨-,h⟩:=h;obtain ⟨b,dx,z,rfl,hb,q⟩:=h;refine ⟨_,(Zj (WM (pv 0) (pv 1) rfl)),?_⟩;exact ⟨_,rfl,_,rfl,b,T.c_Test,dx,[],rfl,hb,T.cl_Test,T.na_Test_wanted,by show (0:Nat)<1000;decide,q⟩
theorem ZlQ (T:Tx K w mg) (Ul:Zdu P base T):ZfX P base T:=by
 refine Fun.okX (k:=3) T.U9.F Zo5 (fun vs H Q E h=>h.1) (fun cdv A outer s H vs Q E hr h=>?_);obtain ⟨-,h⟩:=h;obtain ⟨a,dx,s,v,t,n,B,rfl,ha,hB,s9,kn,q⟩:=h;refine ⟨_,(Zj (Zu (ZW Ul hr Zz (Za (pv 1) (Za (YQ (pv 0) rfl) (Za (pv 3) Zc)))))),?_⟩;exact ⟨_,rfl,_,rfl,a,T.c_Test,dx,_,_,rfl,ha,T.cl_Test,T.na_Test_wanted,rfl,_,rfl,rfl,v,s,n,B,rfl,hB,s9,kn,q⟩
theorem Zn5 (T:Tx K w mg)  : Zgd P base T:=by
 refine Fun.okX (k:=0) T.UN.F Zln (fun vs H Q E h=>h.1) (fun cdv A outer s H vs Q E hr h=>?_);obtain ⟨-,h⟩:=h;obtain ⟨b,dx,z,rfl,hb,q⟩:=h;refine ⟨_,(Zj (WM (pv 0) (pv 1) rfl)),?_⟩;exact ⟨_,rfl,_,rfl,b,T.c_Said,dx,[],rfl,hb,T.cl_Said,T.na_Said_word,by show (0:Nat)<1000;decide,q⟩
theorem Zkw (T:Tx K w mg)  : Zf2 P base T:=by
 refine Fun.okX (k:=0) T.UW.F Zmr (fun vs H Q E h=>h.1) (fun cdv A outer s H vs Q E hr h=>?_);obtain ⟨-,h⟩:=h;exact h.elim
theorem ZmI (T:Tx K w mg) (ZbP:ZhK P base T) (ZeN:ZfX P base T) (Zb5:Zf2 P base T):Zfz P base T:=by
 refine Fun.okX (k:=4) T.Xl.F Zbo (fun vs H Q E h=>h.1) (fun cdv A outer s H vs Q E hr h=>?_);obtain ⟨-,h⟩:=h;obtain ⟨x,v,t,l,ns,L,f,pool,rfl,hP,hl,nl,hf,hp,pl,q⟩:=h
 refine ⟨_,(Zl (ZG (i:=4) Zbo.nd rfl (Or.inl rfl) X9)
   (Zl (Yr QI rfl (Yz (pv 3)) (ZT (i:=5) Zbo.nd rfl (Or.inl rfl))
    (Zj (Yr QI rfl (Yz (Ziu (pv 0) T.cl_Letter T.U4.me ZbP (hr.mono (by decide)) T.U4.b T.cl_Test T.U9.me ZeN (hr.mono (by decide)) T.U9.b T.cl_Said T.UW.me Zb5 (hr.mono (by decide)) T.UW.b Zz (Za (pv 1) (Za (pv 2) (Za (pv 5) Zc))))) (ZT (i:=6) Zbo.nd rfl (Or.inl rfl))
    (Zj (Xg (ZO hr) (pv 4) (pv 6) Xc rfl)))))
   (Zj (Zu (ZQ (J6 rfl) (by rfl) T.n_sorted VQ (Za (pv 4) Zc)))))),?_⟩
 refine fun c nc=>?_;have sc:=Zk (o:=.dK []) nc;refine ⟨_,rfl,l,rfl,⟨_,sc.sql hl⟩,XN (xs:=ns.map V.str) (fun i σ Hc=>∃(cs:List (Str×V)) (v5 v6:Option V),σ=[some x,some v,some t,some (.ref l),some (.ref c),v5,v6]∧Same H Hc∧Hc c=some (.dK (Y7 cs))∧(cs.map (·.1)).Nodup∧∀y,y∈cs.map (·.1)↔∃n,n∈ns.take i∧y∈f n) ?start ?list ?turn ?done⟩
 case start=>exact ⟨[],_,_,rfl,sc,Ze,by simp,fun x=>by simp⟩
 case list =>
  rintro i σ Hc _ ⟨cs,v5,v6,rfl,sx,_⟩;exact sx.sql hl
 case done =>
  rintro σ Hc ⟨cs,v5,v6,rfl,sx,hc,nd,mem⟩;rw [Qd,QU] at mem
  have cl:(cs.map (·.1)).length≤60:=Qi (W1 nd fun y hy=>by
   obtain ⟨n,hn,hy⟩:=(mem y).mp hy;exact hp n hn y hy) pl
  rw [Qd] at cl;exact ⟨_,rfl,c,cs,rfl,hc,by omega,fun D7 zs nD7 hp7 hs7=>q _ D7 zs (sx.trans (Zk nD7)) (ZP sx nD7) Ze ⟨J0 hs7,hp7.nodup_iff.mpr nd,fun y=>by rw [hp7.mem_iff,mem]⟩⟩
 case turn =>
 rintro i y σ Hc hy ⟨cs,v5,v6,rfl,sx,hc,nd,mem⟩;obtain ⟨n,hn,rfl⟩:=XO hy;have hnm:=Qy hn;have tk:ns.take (i+1)=ns.take i++[n]:=by rw [Q8,hn];rfl
 dsimp only [Z7];refine ZlU (i0:=0) (i1:=1) (i2:=2) (i3:=5) (σ:=[some x,some v,some t,some (.ref l),some (.ref c),some (.str n),v6]) rfl rfl rfl rfl (hP.mono sx) (hf n hnm) fun H6 M s6 nM hM=>?_;have cM:c≠M:=fun z=>by rw [←z,hc] at nM;cases nM
 refine ⟨M,rfl,⟨_,.of hM⟩,XN (xs:=(f n).map V.str) (fun j σ Hj=>∃(cs2:List (Str×V)) (v6:Option V),σ=[some x,some v,some t,some (.ref l),some (.ref c),some (.str n),v6]∧Same H Hj∧Hj M=some (.lst ((f n).map V.str))∧Hj c=some (.dK (Y7 cs2))∧(cs2.map (·.1)).Nodup∧∀y,y∈cs2.map (·.1)↔y∈cs.map (·.1)∨y∈(f n).take j) ?st ?li ?tu ?dn⟩
 case st=>exact ⟨cs,_,rfl,sx.trans s6,hM,s6 _ _ hc,nd,fun x=>by simp⟩
 case li =>
  rintro j σ Hj _ ⟨cs2,v6,rfl,_,hM,_⟩;exact .of hM
 case dn =>
  rintro σ Hj ⟨cs2,v6,rfl,sj,hMj,hcj,ndj,memj⟩;rw [Qd,QU] at memj;refine ⟨cs2,_,_,rfl,sj,hcj,ndj,fun y=>?_⟩;rw [memj,mem,tk];constructor
  ·rintro (⟨z,h1,h2⟩|h)
   ·exact ⟨z,Q9 _ h1,h2⟩
   ·exact ⟨n,by simp,h⟩
  ·rintro ⟨z,h1,h2⟩;rcases Qq.mp h1 with h1|h1
   ·exact .inl ⟨z,h1,h2⟩
   ·rw [show z=n by simpa using h1] at h2;exact .inr h2
 case tu =>
 rintro j y σ Hj hy ⟨cs2,v6,rfl,sj,hMj,hcj,ndj,memj⟩;obtain ⟨y,hyz,rfl⟩:=XO hy;have tkj:(f n).take (j+1)=(f n).take j++[y]:=by rw [Q8,hyz];rfl
 have inP:∀x∈cs2.map (·.1),x∈pool:=fun x hx2=>by
  rcases (memj x).mp hx2 with h|h
  ·obtain ⟨z,h1,h2⟩:=(mem x).mp h;exact hp z (Rz h1) x h2
  ·exact hp n hnm x (Rz h)
 have len2:(Y7 cs2).length≤60:=by rw [Zbz];exact Qi (W1 ndj inP) pl
 refine ⟨_,rfl,_,rfl,c,_,rfl,DPut.k (k:=.inr y) hcj (Zy (by omega)),?_⟩;rw [Zdv];refine ⟨Zo cs2 y (.bl true),_,rfl,fun e u h=>?_,?_,Ze,Zbq ndj,fun x'=>?_⟩
 ·rw [Zg (fun z=>by subst z;rw [nc] at h;cases h)];exact sj _ _ h
 ·rw [Zg cM.symm];exact hMj
 ·rw [ZcE,memj,tkj,Qq,QT,or_assoc]
theorem Zi5 (T:Tx K w mg) (XH:Zbv P base T):Zfn P base T:=by
 refine Fun.okX (k:=2) T.Zby.F Znc (fun vs H Q E h=>h.1) (fun cdv A outer s H vs Q E hr h=>?_);obtain ⟨-,h⟩:=h;obtain ⟨v,m,a,b,B,rfl,hB,ka,kb,q⟩:=h
 refine ⟨_,(Zl (ZE (ZB ZZ (pv 1) Zn (Zs _)) (Zj (Zu (YZ Wy (pv 2) (pv 3) (Zs _)))) ZH)
   (Zl (ZE (ZB ZZ (pv 1) Zn (Zs _)) (Zj (Zu (YZ Wg (Z1 (pv 0) T.cl_Book T.Y3.me XH (hr.mono (by decide)) T.Y3.b .nil Zz (Za (pv 3) Zc)) (Z1 (pv 0) T.cl_Book T.Y3.me XH (hr.mono (by decide)) T.Y3.b .nil Zz (Za (pv 2) Zc)) (Zs _)))) ZH)
   (Zl (ZE (ZB ZZ (pv 1) Zn (Zs _)) (Zj (Zu (YZ Wa (Z1 (pv 0) T.cl_Book T.Y3.me XH (hr.mono (by decide)) T.Y3.b .nil Zz (Za (pv 3) Zc)) (Z1 (pv 0) T.cl_Book T.Y3.me XH (hr.mono (by decide)) T.Y3.b .nil Zz (Za (pv 2) Zc)) (Zs _)))) ZH)
   (Zj (Zu Xc))))),?_⟩
 obtain ⟨k,dx,k1,k2,k3,k4,k5,rfl,hb⟩:=id hB;obtain ⟨p,s1,d1,f1,m1,e1,e2,e3⟩:=Zc4 ka;obtain ⟨p',s1',d1',f1',m1',e1',e2',e3'⟩:=Zc4 kb;unfold Yb at q;refine ⟨_,rfl,rfl,_,rfl,Yo (fun h1=>?_) (fun h1=>?_)⟩
 ·have h1':m="other":=by simpa [Yu] using h1
  rw [Qb h1'] at q;refine ⟨_,rfl,_,rfl,rfl,?_⟩;rw [show (!decide (V.str a=V.str b))=decide (a≠b) by by_cases z:a=b<;>simp [z]];exact q
 have n1:¬m="other":=by simpa [Yu] using h1
 rw [Qa n1] at q;refine ⟨_,rfl,rfl,_,rfl,Yo (fun h2=>?_) (fun h2=>?_)⟩
 ·have h2':m="elder":=by simpa [Yu] using h2
  rw [Qb h2',e3,e3'] at q;refine ⟨_,rfl,k,dx,_,rfl,hb.ob,rfl,_,rfl,rfl,.ref k,.str b,B,rfl,hB,.inr ⟨b,rfl,fun z=>(by rw [e1'] at z;cases z),fun p2 z n' s' d' f' m2 h3=>?_⟩⟩;obtain rfl:p'=p2:=Ql (e1'.symm.trans z);rw [e2'] at h3;cases h3;refine ⟨_,rfl,k,dx,_,rfl,hb.ob,rfl,_,rfl,rfl,.ref k,.str a,B,rfl,hB,.inr ⟨a,rfl,fun z=>(by rw [e1] at z;cases z),fun p2 z n' s' d' f' m2 h3=>?_⟩⟩;obtain rfl:p=p2:=Ql (e1.symm.trans z);rw [e2] at h3;cases h3;exact ⟨_,_,rfl,rfl,q⟩
 have n2:¬m="elder":=by simpa [Yu] using h2
 rw [Qa n2] at q;refine ⟨_,rfl,rfl,_,rfl,Yo (fun h3=>?_) (fun h3=>?_)⟩
 ·have h3':m="younger":=by simpa [Yu] using h3
  rw [Qb h3',e3,e3'] at q;refine ⟨_,rfl,k,dx,_,rfl,hb.ob,rfl,_,rfl,rfl,.ref k,.str b,B,rfl,hB,.inr ⟨b,rfl,fun z=>(by rw [e1'] at z;cases z),fun p2 z n' s' d' f' m2 h3=>?_⟩⟩;obtain rfl:p'=p2:=Ql (e1'.symm.trans z);rw [e2'] at h3;cases h3;refine ⟨_,rfl,k,dx,_,rfl,hb.ob,rfl,_,rfl,rfl,.ref k,.str a,B,rfl,hB,.inr ⟨a,rfl,fun z=>(by rw [e1] at z;cases z),fun p2 z n' s' d' f' m2 h3=>?_⟩⟩;obtain rfl:p=p2:=Ql (e1.symm.trans z);rw [e2] at h3;cases h3;exact ⟨_,_,rfl,rfl,q⟩
 have n3:¬m="younger":=by simpa [Yu] using h3
 rw [Qa n3] at q;exact q
theorem ZnK (T:Tx K w mg) (UO:Zdj P base T) (U0:ZdH P base T) (Zdw:Zgz P base T) (Zeo:Zgi P base T) (Zdh:Zgd P base T):Zhj P base T:=by
 refine Fun.okX (k:=2) T.ZbE.F Zku (fun vs H Q E h=>h.1) (fun cdv A outer s H vs Q E hr h=>?_);obtain ⟨-,h⟩:=h;obtain ⟨z,d,rfl,z9,q⟩:=h
 refine ⟨_,(Zl (ZE (YB (ZW UO hr Zz (Za (pv 0) Zc))) (Zj (Zu (Zap T.mk_Letter Zdw (hr.mono (by decide)) (by rfl) T.m_Letter T.UK.b .nil Zz (Za (pv 0) Zc)))) ZH)
   (Zl (ZE (YB (ZW U0 hr Zz (Za (pv 0) Zc))) (Zj (Zu (Zap T.mk_Test Zeo (hr.mono (by decide)) (by rfl) T.m_Test T.UH.b .nil Zz (Za (pv 0) Zc)))) ZH)
   (Zl (ZE (PW.pt (VW (YB (XQ RL PySem.F.slot_str_startswith PySem.F.type_str_startswith Zl6 (pv 0) (Za Zn Zc))) (VZ (VL (Zbc (ZO hr) (Wr ZeB (pv 0) (Wj Zf) WE) (pv 1)))))) (Zj (Zu (Zap T.mk_Said Zdh (hr.mono (by decide)) (by rfl) T.m_Said T.UN.b .nil Zz (Za (Wr ZeB (pv 0) (Wj Zf) WE) Zc)))) ZH)
   (Zj (X3 (by rfl) T.m_NoTongue T.x_NoTongue EB rfl X1 (Za Zn Zc)))))),?_⟩
 have z9':Wf z=true∨Vr z=true:=by
  have h:=z9;simp only [Yg,Qh,QR,QS] at h;rcases h with rfl|rfl|rfl|rfl|rfl|rfl|rfl|rfl|rfl<;>trivial
 refine ⟨_,rfl,rfl,.str z,rfl,.inr ⟨z,rfl,?_⟩⟩;refine ⟨_,rfl,Yo (fun hb=>?_) (fun hb=>?_)⟩
 ·exact ⟨_,rfl,fun x dx nx ndx ne=>⟨rfl,x,dx,z,rfl,Ze,rfl,q _ _ (made nx ndx) ⟨x,dx,rfl,.inl Ze⟩⟩⟩
 refine ⟨_,rfl,rfl,z,rfl,_,rfl,Yo (fun hb2=>?_) (fun hb2=>?_)⟩
 ·exact ⟨_,rfl,fun x dx nx ndx ne=>⟨rfl,x,dx,z,rfl,Ze,rfl,q _ _ (made nx ndx) ⟨x,dx,rfl,.inr Ze⟩⟩⟩
 rcases z9' with h|h
 ·rw [h] at hb;cases hb
 ·rw [h] at hb2;cases hb2
theorem Zqu (T:Tx K w mg) (Zd3:Zhj P base T):Zim P base T:=by
 refine Fun.okX (k:=3) T.ZaQ.F ZbG (fun vs H Q E h=>h.1) (fun cdv A outer s H vs Q E hr h=>?_);obtain ⟨-,h⟩:=h;obtain ⟨z,d,ws,b,rfl,hz,pt,p9,q⟩:=h
 refine ⟨_,(Zl (ZG (i:=2) ZbG.nd rfl (Or.inl rfl) (XQ RL Ry NT (Zfi 32 (by decide)) (pv 0) (Za Zn Zc)))
   (Zl (ZG (i:=3) ZbG.nd rfl (Or.inl rfl) Zn)
   (Zl (ZE (ZB UV (Zm YG (pv 2) (Zgl ZhH Zf) (fun _ _=>rfl)) (Wv (v:=.ref T.a_MARKS) (by rfl) T.m_MARKS rfl) (by rfl)) (Zj (ZG (i:=3) ZbG.nd rfl (Or.inl rfl) (Zge R3 PySem.F.slot_list_pop PySem.F.type_list_pop Zod (pv 2)))) ZH)
   (Zl (ZE (PW.pt (XF (ZB Wg (ZQ YO (by rfl) T.n_len Ye (Za (pv 2) Zc)) Zf (Zs _)) (XR (ZB Wa (ZQ YO (by rfl) T.n_len Ye (Za (pv 2) Zc)) (Wv (v:=.int 12) (by rfl) T.m_MOST_PIECES ⟨_,rfl⟩) (Zs _))))) (Zj (X3 (by rfl) T.m_NoTongue T.x_NoTongue EB rfl X1 (Za Zn Zc))) ZH)
   (Zj (Zu (Z8 (Za (VN Zog (by rfl) T.n_tuple Zid (Za (XV rfl (Xi (N:=["piece","rows"]) ["rows"] [none,some 1] rfl (by trivial) (by trivial) (by rfl) (by rfl) (by rfl) (by rfl) (by rfl)) (Yz (pv 2)) (fun _ _ _=>(ZT (i:=0) ZkP rfl (Or.inl rfl))) (fun _ _ _=>W3) (fun _ _ _=>(ZW Zd3 hr Zz (Za (pv 0) (Za (pv 1) Zc))))) Zc)) (Za (pv 3) Zc))))))))),?_⟩
 have e0:partsOf 32 z=b.1++(if b.2="" then [] else [b.2]):=pt.parts
 have pl:∀p∈b.1,p.length≤1000:=fun p hp=>by
  have h1:p∈TongM.partsOf 32 z:=by rw [pt.parts];exact Q9 _ hp
  have:=TongM.part_len h1;omega
 refine ⟨_,rfl,rfl,z,rfl,rfl,by omega,fun D nD=>?_⟩;have sA:=Zk (o:=.lst ((partsOf 32 z).map V.str)) nD;have hD:Zb H D (.lst ((partsOf 32 z).map V.str)) D=some (.lst ((partsOf 32 z).map V.str)):=Ze;generalize Zb H D (.lst ((partsOf 32 z).map V.str))=H1 at *;rw [e0] at hD;dsimp only [Z7];refine Y1 (fun σ H2=>σ=[some (.str z),some (.ref d),some (.ref D),some (.str "")]∧H2=H1) (fun nx rest=>rest _ _ ⟨rfl,rfl⟩) (fun σ H2 hJ=>?_);obtain ⟨rfl,rfl⟩:=hJ;refine Y1 (fun σ H2=>σ=[some (.str z),some (.ref d),some (.ref D),some (.str b.2)]∧H2 D=some (.lst (b.1.map V.str))∧Same H H2) (fun nx rest=>?_) (fun σ H2 hJ=>?_)
 ·by_cases he:b.2=""
  ·rw [Qb he,Qt] at hD;obtain ⟨ini,p,ep⟩:∃ini p,b.1=ini++[p]:=⟨b.1.dropLast,b.1.getLast (Zi9 pt.lo),(NP _).symm⟩;have hp:p∈b.1:=by rw [ep];simp
   have hat:Ym (b.1.map V.str) (-1)=some (.str p):=by rw [ep,Qm];exact ZfB _ _
   refine ⟨_,rfl,_,rfl,D,_,_,_,rfl,rfl,.of hD,hat,T.a_MARKS,_,rfl,.inr (T.Zdb _),rfl,rfl,_,rfl,Zt ?_ (rest _ _ ⟨by rw [he],hD,sA⟩)⟩;exact (ZbF p TongM.marks).trans (Qk (TongM.pc_mark (pt.ok p hp)))
  ·rw [Qa he,Qm] at hD;have hm:=pt.mark.resolve_left he;refine ⟨_,rfl,_,rfl,D,_,_,_,rfl,rfl,.of hD,ZfB _ _,T.a_MARKS,_,rfl,.inr (T.Zdb _),rfl,rfl,_,rfl,Z4 ((ZbF b.2 TongM.marks).trans (Qr hm)) ?_⟩;refine ⟨_,rfl,.inl ⟨rfl,_,.of hD⟩,D,_,.str b.2,rfl,rfl,hD,by simp,rest _ _ ⟨rfl,?_,ZhA sA nD⟩⟩;rw [Ze];simp
 obtain ⟨rfl,hD2,s2⟩:=hJ;have lo:=pt.lo;have hi:=pt.hi;refine ⟨_,rfl,D,_,rfl,.inl (.of hD2),_,_,rfl,rfl,_,rfl,Zt (Qk (by rw [Qd];omega)) ?_⟩;refine ⟨_,rfl,D,_,rfl,.inl (.of hD2),_,_,rfl,rfl,_,rfl,Zt (Qk (by rw [Qd];omega)) ?_⟩;refine ⟨_,rfl,D,rfl,⟨_,.of hD2⟩,Zif b.1.length (fun i H v=>∀s,b.1[i]?=some s->StAt T H v s) (fun i Ha Hb v D' xs hP hL hB s e=>(hP s e).but hB (fun o ho=>by rw [hL] at ho;cases ho;exact Zie _)) (Zy (by omega)) (fun σ=>∃v,σ=[v,some (.ref d)]) ⟨_,rfl⟩ (fun i H3 hi sm=>?go) (fun H3 sm=>?stop) (fun i σ H3 x H4 hi hσ sm hx C hC=>?step) (fun D2 ys H3 nD2 sm hD2' hl hP=>?fin)⟩
 case go=>exact ⟨_,_,sm.sql (.of hD2),Qw (by rw [Qd];exact hi)⟩
 case stop=>exact ⟨_,sm.sql (.of hD2),by simp⟩
 case step =>
  obtain ⟨v,rfl⟩:=hσ;obtain ⟨rfl,hx⟩:=hx;obtain ⟨p,rfl,hp⟩:=Zex (hx _ (sm.sql (.of hD2)));have hm:=Qy hp;refine ⟨_,rfl,_,rfl,rfl,p,d,rfl,p9 p hm,fun H5 u s5 hu=>hC u _ H5 ⟨_,rfl⟩ s5 fun s e=>?_⟩;rw [hp] at e;cases e;exact hu
 case fin =>
  refine ⟨D2,_,rfl,.inl ⟨.of hD2',fun u nu=>⟨_,rfl,few rfl,fun t nt=>q _ _ ?_ ?_⟩⟩⟩
  ·exact s2.trans (sm.trans ((Zk nu).trans (Zk nt)))
  ·exact ⟨t,u,ys,rfl,Ze,(Zk nt) _ _ Ze,⟨hl,fun i s v e1 e2=>(hP i v e2 s e1).mono ((Zk nu).trans (Zk nt))⟩,hi,p9⟩
theorem Znv (T:Tx K w mg) (ZeA:Zim P base T):Zgw P base T:=by
 refine Fun.okX (k:=4) T.ZbM.F Zfr (fun vs H Q E h=>h.1) (fun cdv A outer s H vs Q E hr h=>?_);obtain ⟨-,h⟩:=h;obtain ⟨z,d,ws,bs,rfl,hz,pt,p9,q⟩:=h
 refine ⟨_,(Zl (ZG (i:=2) Zfr.nd rfl (Or.inl rfl) (XQ RL Ry NT (Zom " | " (by decide) Zkf) (pv 0) (Za Zn Zc)))
   (Zl (ZE (ZB Wa (ZQ YO (by rfl) T.n_len Ye (Za (pv 2) Zc)) (Wv (v:=.int 8) (by rfl) T.m_MOST_PARTS ⟨_,rfl⟩) (Zs _)) (Zj (X3 (by rfl) T.m_NoTongue T.x_NoTongue EB rfl X1 (Za Zn Zc))) ZH)
   (Zj (Zu (XV rfl (Xi (N:=["part","rows"]) ["rows"] [none,some 1] rfl (by trivial) (by trivial) (by rfl) (by rfl) (by rfl) (by rfl) (by rfl)) (Yz (pv 2)) (fun _ _ _=>(ZT (i:=0) Zj4 rfl (Or.inl rfl))) (fun _ _ _=>W3) (fun _ _ _=>(ZW ZeA hr Zz (Za (pv 0) (Za (pv 1) Zc))))))))),?_⟩
 refine ⟨_,rfl,rfl,z,rfl,rfl,by omega,fun D nD=>?_⟩;have sA:=Zk (o:=.lst ((TextG.cutAt TongM.bar z).map V.str)) nD;have hD:Zb H D (.lst ((TextG.cutAt TongM.bar z).map V.str)) D=some (.lst ((TextG.cutAt TongM.bar z).map V.str)):=Ze;show _;change _ at sA;generalize hH1:Zb H D (.lst ((TextG.cutAt TongM.bar z).map V.str))=H1 at *;have hi:=pt.hi;have hl0:=pt.len;refine ⟨_,rfl,D,_,rfl,.inl (show SqL K (Zb H D (.lst ((TextG.cutAt TongM.bar z).map V.str))) D ((TextG.cutAt TongM.bar z).map V.str) from .of Ze),_,_,rfl,rfl,_,rfl,Zt (Qk (by rw [Qd];omega)) ?_⟩;refine ⟨_,rfl,D,rfl,⟨_,show SqL K (Zb H D (.lst ((TextG.cutAt TongM.bar z).map V.str))) D ((TextG.cutAt TongM.bar z).map V.str) from .of Ze⟩,Zif bs.length (fun i H v=>∀b,bs[i]?=some b->PartAt T H b v) (fun i Ha Hb v D' xs hP hL hB s e=>(hP s e).but hB (fun o ho=>by rw [hL] at ho;cases ho;exact Zie _)) (Zy (by omega)) (fun σ=>∃v,σ=[v,some (.ref d)]) ⟨_,rfl⟩ (fun i H3 hi sm=>?go) (fun H3 sm=>?stop) (fun i σ H3 x H4 hi hσ sm hx C hC=>?step) (fun D2 ys H3 nD2 sm hD2' hl hP=>?fin)⟩
 case go =>
  have sm':Same H1 H3:=by rw [←hH1];exact sm
  exact ⟨_,_,sm'.sql (.of hD),Qw (by rw [Qd];omega)⟩
 case stop =>
  have sm':Same H1 H3:=by rw [←hH1];exact sm
  exact ⟨_,sm'.sql (.of hD),by simp;omega⟩
 case step =>
  have sm':Same H1 H3:=by rw [←hH1];exact sm
  obtain ⟨v,rfl⟩:=hσ;obtain ⟨rfl,hx⟩:=hx;obtain ⟨y,rfl,hy⟩:=Zex (hx _ (sm'.sql (.of hD)));obtain ⟨b,hb⟩:∃b,bs[i]?=some b:=⟨_,Qw hi⟩;obtain ⟨p1,p2⟩:=pt.each i y b hy hb;refine ⟨_,rfl,_,rfl,rfl,y,d,ws,b,rfl,p2,p1,p9 b (Qy hb),fun H5 u s5 hu=>hC u _ H5 ⟨_,rfl⟩ s5 fun s e=>?_⟩;rw [hb] at e;cases e;exact hu
 case fin =>
  have sm':Same H1 H3:=by rw [←hH1];exact sm
  exact q _ _ (sA.trans sm') ⟨D2,ys,rfl,hD2',⟨hl,fun i b v e1 e2=>hP i v e2 b e1⟩,hi⟩
theorem Zny (T:Tx K w mg) (W0:ZaP P base T) (Zdl:Zgw P base T):ZfI P base T:=by
 refine Fun.okX (k:=5) T.Zbk.F Ua (fun vs H Q E h=>h.1) (fun cdv A outer s H vs Q E hr h=>?_);obtain ⟨-,h⟩:=h;obtain ⟨z,rows,rfl,hz,rt,r9,q⟩:=h
 refine ⟨_,(Zl (ZE (Xx (YB (Xo K (by rfl) T.n_isinstance (Za (pv 0) (Za (XD (v:=.ty "str") (by rfl) T.n_str W6 rfl) Zc))))) (Zj (X3 (by rfl) T.m_NoTongue T.x_NoTongue EB rfl X1 (Za Zn Zc))) ZH)
   (Zl (ZG (i:=1) Ua.nd rfl (Or.inl rfl) (XQ RL Ry NT (Zfi 10 (by decide)) (pv 0) (Za Zn Zc)))
   (Zl (ZE (ZB Wa (ZQ YO (by rfl) T.n_len Ye (Za (pv 1) Zc)) (Wv (v:=.int 40) (by rfl) T.m_MOST_ROWS ⟨_,rfl⟩) (Zs _)) (Zj (X3 (by rfl) T.m_NoTongue T.x_NoTongue EB rfl X1 (Za Zn Zc))) ZH)
   (Zl (ZG (i:=2) Ua.nd rfl (Or.inl rfl) X9)
   (Zl (Yr QI rfl (Yz (pv 1)) (ZT (i:=3) Ua.nd rfl (Or.inl rfl))
    (Zl (ZG (i:=4) Ua.nd rfl (Or.inl rfl) (XQ RL N5 PySem.F.type_str_partition (ZlI " = " (by decide)) (pv 3) (Za Zn Zc)))
   (Zl (ZG (i:=5) Ua.nd rfl (Or.inl rfl) (Zm Zp (pv 4) Zf (fun _ _=>rfl)))
   (Zl (ZE (PW.pt (XF (Xx (YB (ZW W0 hr Zz (Za (pv 5) Zc)))) (XR (VL (Zbc (ZO hr) (pv 5) (pv 2)))))) (Zj (X3 (by rfl) T.m_NoTongue T.x_NoTongue EB rfl X1 (Za Zn Zc))) ZH)
   (Zj (Xg (ZO hr) (pv 2) (pv 5) (ZW Zdl hr Zz (Za (Zm Zp (pv 4) Zf (fun _ _=>rfl)) (Za (pv 2) Zc))) rfl))))))
   (Zj (Zu (pv 2)))))))),?_⟩
 refine ⟨_,rfl,_,.ty "str",_,_,rfl,rfl,.of (.str _),T.k_str_str,_,rfl,ZS ?_⟩;refine ⟨_,rfl,rfl,z,rfl,rfl,by omega,fun D nD=>?_⟩;have sA:=Zk (o:=.lst ((partsOf 10 z).map V.str)) nD;have hD:Zb H D (.lst ((partsOf 10 z).map V.str)) D=some (.lst ((partsOf 10 z).map V.str)):=Ze;generalize Zb H D (.lst ((partsOf 10 z).map V.str))=H1 at *;have hi:=rt.hi;have hl0:(partsOf 10 z).length=rows.length:=rt.len;refine ⟨_,rfl,D,_,rfl,.inl (.of hD),_,_,rfl,rfl,_,rfl,Zt (Qk (by rw [Qd];omega)) (fun d nd=>?_)⟩
 have nd0:H d=none:=by
  cases e:H d with
  |none=>rfl
  |some u=>rw [sA _ _ e] at nd;cases nd
 refine ⟨_,rfl,D,rfl,⟨_,(Zk nd).sql (.of hD)⟩,XN (xs:=(partsOf 10 z).map V.str) (fun i σ H2=>(∃v4 v5 v6,σ=[some (.str z),some (.ref D),some (.ref d),v4,v5,v6])∧H2 D=some (.lst ((partsOf 10 z).map V.str))∧DictAt T H2 d (rows.take i)∧Same H H2) ?start ?sq ?turn ?done⟩
 case start=>exact ⟨⟨_,_,_,rfl⟩,(Zk nd) _ _ hD,⟨[],Ze,rfl,⟨rfl,fun i a v e=>by simp at e⟩,by simp⟩,sA.trans (Zk nd)⟩
 case sq =>
  rintro i σ H2 _ ⟨_,h2,_⟩;exact .of h2
 case turn =>
  rintro i x σ H2 hx ⟨⟨v4,v5,v6,rfl⟩,h2,hd,s2⟩;obtain ⟨y,rfl,hy⟩:=Zex hx
  have il:i<rows.length:=by
   have:=(QC.mp hy).1;omega
  obtain ⟨r,hr⟩:∃r,rows[i]?=some r:=⟨_,Qw il⟩;obtain ⟨y1,y2,y3,y4,y5,y6⟩:=rt.each i y r hy hr;refine ⟨_,rfl,rfl,y,rfl,rfl,by omega,fun P nP=>?_⟩;have sP:=Zk (o:=.tup [.str (Txt.partition y TongM.equ).1,.str (Txt.partition y TongM.equ).2.1,.str (Txt.partition y TongM.equ).2.2]) nP;have hP:Zb H2 P (.tup [.str (Txt.partition y TongM.equ).1,.str (Txt.partition y TongM.equ).2.1,.str (Txt.partition y TongM.equ).2.2]) P=some (.tup [.str (Txt.partition y TongM.equ).1,.str (Txt.partition y TongM.equ).2.1,.str (Txt.partition y TongM.equ).2.2]):=Ze;refine ⟨_,rfl,P,_,_,_,rfl,rfl,.of hP,Xq (j:=0) rfl,?_⟩;refine ⟨_,rfl,rfl,.str (Txt.partition y TongM.equ).1,.str (Txt.partition y TongM.equ).1,rfl,⟨rfl,by rw [y2];have:=(r9 r (Qy hr)).1.hi;omega⟩,fun H4 s4=>⟨_,rfl,?_⟩⟩;have r9':=r9 r (Qy hr);rw [y2,r9'.1.ok];have s24:=sP.trans s4;obtain ⟨zs,k1,k2,k3,k4⟩:=hd.same s24;have hno:r.1∉zs.map (·.1):=by rw [k2];exact y4
  have dg:=DGet.k (k:=.inr r.1) k1;rw [Zgy hno] at dg;refine ZS ⟨_,rfl,_,rfl,d,_,rfl,dg,_,rfl,ZS ?_⟩;refine ⟨_,rfl,P,_,_,_,rfl,rfl,.of (s4 _ _ hP),Xq (j:=2) rfl,_,rfl,rfl,_,d,(rows.take i).map (·.1),r.2,rfl,y5,y6,r9'.2,fun H5 v s5 hv=>?_⟩;have k5:=s5 _ _ k1
  have zl:zs.length≤40:=by
   have:=Qj List.length k2;simp at this;omega
  refine ⟨_,rfl,_,rfl,d,_,rfl,DPut.k (k:=.inr r.1) k5 (Zy (by rw [Qd];omega)),⟨_,_,_,rfl⟩,?_,?_,?_⟩
  ·rw [Zg (Zem (s5 _ _ (s24 _ _ h2)) k5 (by intro z;cases z))];exact s5 _ _ (s24 _ _ h2)
  ·rw [ZfF hno];have bt:Xe d H5 (Zb H5 d (.dK ((zs++[(r.1,v)]).map fun p=>((.inr p.1:Zi),p.2)))):=fun c u nc e=>(Zg nc).trans e;have fr:∀o,H5 d=some o->Vv o:=fun o ho=>by rw [k5] at ho;cases ho;exact ZgT _
   have nl:∀xs,H5 d≠some (.lst xs):=fun xs e=>by rw [k5] at e;cases e
   have tk:rows.take (i+1)=rows.take i++[r]:=by rw [GD,hr];rfl
   rw [tk];refine ⟨zs++[(r.1,v)],Ze,by rw [Qm,Qm,k2];rfl,?_,by rw [←tk,QV];omega⟩;have e9:(zs++[(r.1,v)]).map (·.2)=zs.map (·.2)++[v]:=by rw [Qm];rfl
   rw [e9];exact (k3.imp fun a u hu=>(hu.same s5).but bt fr nl).snoc (hv.but bt fr nl)
  ·exact ZhA (s2.trans (s24.trans s5)) nd0
 case done =>
  rintro σ H2 ⟨⟨v4,v5,v6,rfl⟩,h2,hd,s2⟩;rw [Qd,hl0,QU] at hd;exact ⟨_,rfl,q _ _ s2 nd0 hd⟩
theorem ZlZ (T:Tx K w mg) (ZeV:ZfI P base T):Zf1 P base T:=by
 refine Fun.okX (k:=6) T.UE.F Zne (fun vs H Q E h=>h.1) (fun cdv A outer s H vs Q E hr h=>?_);obtain ⟨-,h⟩:=h;obtain ⟨b,dx,z,rows,rfl,hz,hb,rt,r9,q⟩:=h
 refine ⟨_,(Zl (WM (pv 0) (ZW ZeV hr Zz (Za (pv 1) Zc)) rfl)
   (Zj (WM (pv 0) (pv 1) rfl))),?_⟩
 refine ⟨_,rfl,rfl,z,rows,rfl,hz,rt,r9,fun H1 d s1 nd hd=>⟨_,rfl,b,T.c_Tongue,dx,[],rfl,s1 _ _ hb,T.cl_Tongue,T.na_Tongue_rows,QK (m:=10) (QE rfl) (by decide),?_⟩⟩;have hb1:=s1 _ _ hb;refine ⟨_,rfl,_,rfl,b,T.c_Tongue,dx,ZI "rows" (.ref d) [],rfl,Ze,T.cl_Tongue,T.na_Tongue_source,QK (m:=10) (QE rfl) (by decide),?_⟩;have bt:∀o1 o2,Xe b H1 (Zb (Zb H1 b o1) b o2):=fun o1 o2 c u nc e=>by rw [Zg nc,Zg nc];exact e
 refine q _ d (fun c u nc e=>bt _ _ c u nc (s1 _ _ e)) nd ⟨b,dx,z,rfl,Ze,hd.but (bt _ _) (fun o ho=>?_) (fun xs e=>?_) (fun xs e=>?_)⟩
 ·rw [hb1] at ho;cases ho;exact ⟨fun _ e=>(nomatch e),fun _ _ _ _ e=>(nomatch e)⟩
 ·rw [hb1] at e;cases e
 ·rw [hb1] at e;cases e
theorem Zmd (T:Tx K w mg) (Jk:Zfz P base T):Zh4 P base T:=by
 refine Fun.okX (k:=5) T.Uz.F Zgh (fun vs H Q E h=>h.1) (fun cdv A outer s H vs Q E hr h=>?_);obtain ⟨-,h⟩:=h;obtain ⟨o,v,t,x,l,s,ns,pool,B,rfl,hx,s9,hB,hl,nl,kn,clo,q⟩:=h
 refine ⟨_,(Zl (ZE (YB (Xo K (by rfl) T.n_isinstance (Za (pv 3) (Za (Wv (v:=.ref T.c_Said) (by rfl) T.m_Said rfl) Zc)))) (Zj (Yr QI rfl (Yz (pv 4)) (ZT (i:=5) Zgh.nd rfl (Or.inl rfl))
    (Zj (Yv (Z1 (pv 0) T.cl_Tongue T.Vs.me (ZoL (P:=P) (w:=w) (K:=K) (mg:=mg) (base:=base) (CX:=ZA P w) (k:=0)) (hr.mono (QL _)) T.Vs.b .nil Zz (Za (pv 1) (Za (pv 2) (Za (YQ (pv 3) rfl) (Za (pv 5) Zc))))))))) ZH)
   (Zj (Zu (Ziu (pv 3) T.cl_Letter ⟨T.lm_Letter,T.Xl.me.fn,T.Xl.me.kp⟩ Jk (hr.mono (by decide)) T.Xl.b T.cl_Test ⟨T.lm_Test,T.Xl.me.fn,T.Xl.me.kp⟩ Jk (hr.mono (by decide)) T.Xl.b T.cl_Said ⟨T.lm_Said,T.Xl.me.fn,T.Xl.me.kp⟩ Jk (hr.mono (by decide)) T.Xl.b Zz (Za (pv 1) (Za (pv 2) (Za (pv 4) Zc))))))),?_⟩
 obtain ⟨ty,kd,ki⟩:=hx.isi;refine ⟨_,rfl,x,.ref T.c_Said,ty,false,rfl,rfl,kd,ki,_,rfl,ZS ?_⟩;have hP:PcAt T H x v t (fun n zs=>Known B n∧zs=YE B s n):=⟨s,B,hx,s9,hB,fun n zs h=>h⟩;exact Zjp (i0:=3) (i1:=1) (i2:=2) (i3:=4) (σ:=[some o,some v,some t,some x,some (.ref l),none]) rfl rfl rfl rfl hP ⟨rfl,x,v,t,l,ns,_,YE B s,pool,rfl,hP,hl,by omega,fun n hn=>⟨kn n hn,rfl⟩,fun n hn y hy=>clo.inp _ (clo.led s s9 n (kn n hn) y hy),clo.few,q⟩
theorem Zj2 (T:Tx K w mg) (ZeF:Zfn P base T) (ZdL:Zh4 P base T):Ziv P base T:=by
 refine Fun.okX (k:=6) T.UD.F Zbe (fun vs H Q E h=>h.1) (fun cdv A outer s H vs Q E hr h=>?_);obtain ⟨-,h⟩:=h;obtain ⟨o,v,t,p,n,rows,b,pool,B,rfl,hT,⟨pt,pu,os,rfl,h1,h2,h3,h4,h9⟩,hB,kn,clo,q⟩:=h
 refine ⟨_,(Zl (ZG (i:=5) Zbe.nd rfl (Or.inl rfl) (Yk (Za (pv 4) Zc)))
   (Zl (Yr QI rfl (ZaD (Zm Zp (pv 3) Zf (fun _ _=>rfl))) (ZT (i:=6) Zbe.nd rfl (Or.inl rfl))
    (Zj (ZG (i:=5) Zbe.nd rfl (Or.inl rfl) (Z1 (pv 0) T.cl_Tongue T.Uz.me ZdL (hr.mono (by decide)) T.Uz.b .nil Zz (Za (pv 1) (Za (pv 2) (Za (pv 6) (Za (pv 5) Zc))))))))
   (Zj (Zu (XV rfl (Xi (N:=["other","book","name","part"]) ["part","name","book"] [none,some 1,some 4,some 3] rfl (by trivial) (by trivial) (by rfl) (by rfl) (by rfl) (by rfl) (by rfl)) (Yz (pv 5)) (fun _ _ _=>(ZT (i:=0) Zk8 rfl (Or.inl rfl))) (fun _ _ _=>(WC (YB (ZW ZeF hr Zz (Za (pv 1) (Za (Zm (Zbr K rfl) (pv 3) Zf (fun _ _=>rfl)) (Za (pv 2) (Za (pv 0) Zc)))))))) (fun _ _ _=>(pv 0))))))),?_⟩
 obtain ⟨to,dx,d,z0,rfl,hto,_⟩:=hT;refine ⟨_,rfl,few rfl,fun L0 nL0=>?_⟩;have s0:=Zk (o:=.lst [.str n]) nL0;dsimp only [Z7];refine ⟨_,rfl,pt,_,_,_,rfl,rfl,.of (s0 _ _ h1),Xq (j:=0) rfl,pu,rfl,⟨_,.of (s0 _ _ h2)⟩,Zdt (xs:=os) (fun i σ Hc=>∃(L:Addr) (zs:List Str) (v6:Option V),σ=[some (.ref to),some v,some t,some (.ref pt),some (.str n),some (.ref L),v6]∧Same H Hc∧Hc L=some (.lst (zs.map V.str))∧SrtOf (YV (YE B) (b.1.take i) (·=n)) zs) ?start ?list ?turn ?done⟩
 case start=>exact ⟨L0,[n],_,rfl,s0,Ze,ZkV n⟩
 case list =>
  rintro i σ Hc _ ⟨L,zs,v6,rfl,sc,_⟩;exact .of (sc _ _ h2)
 case turn =>
  rintro i x σ Hc hx ⟨L,zs,v6,rfl,sc,hL,srt⟩;obtain ⟨s,hs,hst⟩:=h3.get' hx;have tk:b.1.take (i+1)=b.1.take i++[s]:=by rw [Q8,hs];rfl
  have t9:∀r∈b.1.take i,r∈Yg:=fun r hr=>h9 r (Rz hr);have kz:∀y∈zs,Known B y:=fun y hy=>Us clo.led t9 (fun x e=>by rw [e];exact kn) y ((srt.mem y).mp hy);refine ⟨_,rfl,to,dx,_,rfl,sc _ _ hto,rfl,_,rfl,_,rfl,_,rfl,_,rfl,rfl,.ref to,v,t,x,L,s,zs,pool,B,rfl,hst.mono sc,h9 s (Qy hs),hB.mono sc,.of hL,?_,kz,clo,fun H6 D6 ys s6 nD6 hD6 srt6=>?_⟩
  ·exact Qi (W1 srt.nd fun y hy=>clo.inp _ (kz y hy)) clo.few
  ·refine ⟨D6,ys,_,rfl,sc.trans s6,hD6,⟨srt6.up,srt6.nd,fun y=>?_⟩⟩;rw [srt6.mem,tk,Zey];exact ⟨fun ⟨w,h,r⟩=>⟨w,(srt.mem w).mp h,r⟩,fun ⟨w,h,r⟩=>⟨w,(srt.mem w).mpr h,r⟩⟩
 case done =>
 rintro σ Hc ⟨L,zs,v6,rfl,sc,hL,srt⟩;rw [h3.1,QU] at srt;have kz:∀y∈zs,Known B y:=fun y hy=>Us clo.led h9 (fun x e=>by rw [e];exact kn) y ((srt.mem y).mp hy);have zl:zs.length≤60:=Qi (W1 srt.nd fun y hy=>clo.inp _ (kz y hy)) clo.few;refine ⟨_,rfl,L,rfl,⟨_,.of hL⟩,WF (zs.map (XA B b.2 n)) (Zy (by rw [Qd];omega)) (fun σ=>∃w,σ=[w,some v,some (.str n),some (.ref pt)]) ⟨_,rfl⟩ (fun j H4 hj sm=>?go) (fun H4 sm=>?stop) (fun j σ H4 x H5 z hz hσ sm hx C hC=>?step) (fun D9 H9 nD9 s9 hD9=>?fin)⟩
 case go=>exact ⟨_,_,sm.sql (.of hL),Qw (by rw [Qd];rw [Qd] at hj;exact hj)⟩
 case stop=>exact ⟨_,sm.sql (.of hL),by rw [Qd,Qd];exact Qe _⟩
 case step =>
  obtain ⟨w,rfl⟩:=hσ;obtain ⟨rfl,hx2⟩:=hx;obtain ⟨y,hy,rfl⟩:=XO (hx2 _ (sm.sql (.of hL)));rw [Qp,hy] at hz;obtain rfl:=Ql hz;refine ⟨_,rfl,_,rfl,pt,_,_,_,rfl,rfl,.of (sm _ _ (sc _ _ h1)),Xq (j:=1) rfl,_,rfl,_,rfl,rfl,v,b.2,n,y,B,rfl,hB.mono (sc.trans sm),kn,kz y (Qy hy),_,rfl,?_⟩;by_cases h:Yb B b.2 n y=true
  ·rw [show XA B b.2 n y=some (.str y) from Qb h] at hC;exact Z4 h ⟨_,rfl,hC _ _ ⟨_,rfl⟩ (Same.refl _)⟩
  ·rw [show XA B b.2 n y=none from Qa h] at hC;exact Zt (QO.mpr h) (hC _ _ ⟨_,rfl⟩ (Same.refl _))
 case fin =>
 rw [J1] at hD9;exact q _ D9 zs (sc.trans s9) (ZP sc nD9) srt hD9
theorem ZjU (T:Tx K w mg) (Zcm:Ziv P base T):Zgf P base T:=by
 refine Fun.okX (k:=7) T.Vs.F Jq (fun vs H Q E h=>h.1) (fun cdv A outer s H vs Q E hr h=>?_);obtain ⟨-,h⟩:=h;obtain ⟨o,v,t,kd,u,n,rows,i,b,kvs,rs,pool,B,rfl,hT,hi,rnd,ht,hv,hkd,nn,rl,hB,kn,clo,q⟩:=h
 refine ⟨_,(Zl (ZG (i:=5) Jq.nd rfl (Or.inl rfl) (Zn9 (pv 2) (pv 3) X9 ⟨rfl,rfl,rfl,rfl⟩))
   (Zl (ZE (VL (Zdk (ZO hr) (pv 4) (pv 5))) (Zl (ZG (i:=6) Jq.nd rfl (Or.inl rfl) X9)
   (Zl (Yr QI rfl (Yz (YW (ZO hr) (YQ (pv 0) rfl) (pv 3) (fun _ _=>rfl))) (ZT (i:=7) Jq.nd rfl (Or.inl rfl))
    (Zj (Yr QI rfl (Yz (Z1 (pv 0) T.cl_Tongue T.UD.me Zcm (hr.mono (by decide)) T.UD.b .nil Zz (Za (pv 1) (Za (pv 2) (Za (pv 7) (Za (pv 4) Zc)))))) (ZT (i:=8) Jq.nd rfl (Or.inl rfl))
    (Zj (Xg (ZO hr) (pv 6) (pv 8) Xc rfl)))))
   (Zj (Xg (ZO hr) (pv 5) (pv 4) (ZQ (J6 rfl) (by rfl) T.n_sorted VQ (Za (pv 6) Zc)) rfl)))) ZH)
   (Zj (Zu (YW (ZO hr) (pv 5) (pv 4) (fun _ _=>rfl)))))),?_⟩
 obtain ⟨to,dx,d,z0,rfl,hto,zs,k1,k2,k3,k4⟩:=id hT;obtain ⟨w0,hw,l,os,rfl,hl,hos,_⟩:=k3.get hi
 have hz:zs[i]?=some (u,.ref l):=by
  have e1:(zs.map (·.1))[i]?=some u:=by rw [k2,Qp,hi];rfl
  rw [Qp] at e1 hw;cases e:zs[i]? with
  |none=>rw [e] at e1;cases e1
  |some p =>
   rw [e] at e1 hw;have a1:p.1=u:=by simpa using e1
   have a2:p.2=.ref l:=by simpa using hw
   rw [←a1,←a2]
 refine ⟨_,rfl,t,rfl,.inl ⟨_,.inl ht⟩,_,rfl,fun p np=>⟨kvs,.inr u,.ref kd,Zk np _ _ ht,rfl,hv,?_⟩⟩;have sp:=Zk (o:=.dK []) np;generalize Zb H p (.dK [])=H1 at sp ⊢;dsimp only [Z7];have dn:=DGet.k (k:=.inr n) (sp _ _ hkd);rw [ZaL nn] at dn;refine ⟨_,rfl,_,rfl,kd,_,rfl,dn,_,rfl,Z0 (fun c nc=>?_)⟩;have sc:=Zk (o:=.dK []) nc;have ncH:=ZP sp nc;have s1c:=sp.trans sc;have dg:=DGet.kr (k:=.inr u) (Uo k1 s1c);rw [Zdp (by rw [k2];exact rnd) hz] at dg;dsimp only [Z7];refine ⟨_,rfl,to,T.c_Tongue,dx,_,_,rfl,s1c _ _ hto,T.cl_Tongue,T.na_Tongue_rows,rfl,_,rfl,d,_,rfl,dg,l,rfl,⟨_,.of (s1c _ _ hl)⟩,XN (xs:=os) (fun j σ Hc=>∃(cs:List (Str×V)) (v7 v8:Option V),σ=[some (.ref to),some v,some (.ref t),some (.str u),some (.str n),some (.ref kd),some (.ref c),v7,v8]∧Same H Hc∧Hc c=some (.dK (Y7 cs))∧(cs.map (·.1)).Nodup∧∀y,y∈cs.map (·.1)↔0<j∧YV (YE B) b.1 (·=n) y∧Yb B b.2 n y=true) ?start ?list ?turn ?done⟩
 case start=>exact ⟨[],_,_,rfl,s1c,Ze,by simp,fun y=>by simp⟩
 case list =>
  rintro j σ Hc _ ⟨cs,v7,v8,rfl,sx,_⟩;exact .of (sx _ _ hl)
 case done =>
  rintro σ Hc ⟨cs,v7,v8,rfl,sx,hc,ndc,mem⟩;have ol:0<os.length:=by rw [hos.1];exact Nat.zero_lt_one
  have in':∀y∈cs.map (·.1),y∈pool:=fun y hy=>by
   obtain ⟨w1,hw1,pa⟩:=hos.get (i:=0) rfl;obtain ⟨_,_,_,_,_,_,_,_,h9⟩:=pa;exact clo.inp _ (Us clo.led h9 (fun x e=>by rw [e];exact kn) y ((mem y).mp hy).2.1)
  have cl:=Qi (W1 ndc in') clo.few;rw [Qd] at cl;refine ⟨_,rfl,c,cs,rfl,hc,by omega,fun D7 zs7 nD7 hp7 hs7=>?_⟩;have s7:=Zk (o:=.lst (zs7.map V.str)) nD7;have hkd7:=s7 _ _ (sx _ _ hkd);have D7k:D7≠kd:=fun z=>by rw [z,sx _ _ hkd] at nD7;cases nD7
  refine ⟨_,rfl,_,rfl,kd,_,rfl,DPut.k (k:=.inr n) hkd7 (Zy (by unfold YS;rw [Qd];omega)),?_⟩;rw [ZgB nn D7 zs7];have dz:=DGet.k (H:=Zb (Zb Hc D7 (.lst (zs7.map V.str))) kd (.dK (YS (rs++[(n,D7,zs7)])))) (k:=.inr n) Ze;rw [show ZD (YS (rs++[(n,D7,zs7)])) (.inr n)=some (.ref D7) by unfold YS;rw [Qm];exact (ZeL _ _ _ _ (ZaL nn)).trans (Qb rfl)] at dz;refine ⟨_,rfl,_,rfl,kd,_,rfl,dz,q _ D7 zs7 (fun b' o' nb e=>?_) (ZP sx nD7) Ze ?_ ⟨J0 hs7,hp7.nodup_iff.mpr ndc,fun y=>?_⟩⟩
  ·rw [Zg nb];exact s7 _ _ (sx _ _ e)
  ·rw [Zg D7k];exact Ze
  ·rw [hp7.mem_iff,mem];exact ⟨fun h=>h.2,fun h=>⟨ol,h⟩⟩
 case turn =>
 rintro j x σ Hc hx ⟨cs,v7,v8,rfl,sx,hc,ndc,mem⟩;have jl:=(QC.mp hx).1;obtain rfl:j=0:=by rw [hos.1] at jl;have:j<1:=jl;omega
 obtain ⟨b',hb',pa⟩:=hos.get' hx;obtain rfl:b=b':=Ql hb';obtain ⟨_,_,_,_,_,_,_,_,h9⟩:=id pa;dsimp only [Z7];refine ⟨_,rfl,to,dx,_,rfl,sx _ _ hto,rfl,_,rfl,_,rfl,_,rfl,_,rfl,rfl,.ref to,v,.ref t,x,n,rows,b,pool,B,rfl,hT.same sx,pa.same sx,hB.mono sx,kn,clo,fun H6 M zs6 s6 nM srt6 hM=>?_⟩;have cM:c≠M:=fun z=>by rw [←z,hc] at nM;cases nM
 refine ⟨M,rfl,⟨_,.of hM⟩,XN (xs:=(zs6.filter (Yb B b.2 n)).map V.str) (fun j σ Hj=>∃(cs2:List (Str×V)) (v8:Option V),σ=[some (.ref to),some v,some (.ref t),some (.str u),some (.str n),some (.ref kd),some (.ref c),some x,v8]∧Same H Hj∧Hj M=some (.lst ((zs6.filter (Yb B b.2 n)).map V.str))∧Hj c=some (.dK (Y7 cs2))∧(cs2.map (·.1)).Nodup∧∀y,y∈cs2.map (·.1)↔y∈(zs6.filter (Yb B b.2 n)).take j) ?st ?li ?tu ?dn⟩
 case st=>exact ⟨cs,_,rfl,sx.trans s6,hM,s6 _ _ hc,ndc,fun y=>by rw [mem];simp⟩
 case li =>
  rintro j σ Hj _ ⟨cs2,v8,rfl,_,hM,_⟩;exact .of hM
 case dn =>
  rintro σ Hj ⟨cs2,v8,rfl,sj,hMj,hcj,ndj,memj⟩;rw [Qd,QU] at memj;refine ⟨cs2,_,_,rfl,sj,hcj,ndj,fun y=>?_⟩;rw [memj,Q0,srt6.mem];exact ⟨fun h=>⟨Nat.zero_lt_succ _,h⟩,fun h=>h.2⟩
 case tu =>
 rintro j y σ Hj hy ⟨cs2,v8,rfl,sj,hMj,hcj,ndj,memj⟩;obtain ⟨y,hyz,rfl⟩:=XO hy;have tkj:(zs6.filter (Yb B b.2 n)).take (j+1)=(zs6.filter (Yb B b.2 n)).take j++[y]:=by rw [Q8,hyz];rfl
 have inP:∀x∈cs2.map (·.1),x∈pool:=fun x hx2=>clo.inp _ (Us clo.led h9 (fun x e=>by rw [e];exact kn) x ((srt6.mem x).mp (Q0.mp (Rz ((memj x).mp hx2))).1));have len2:(Y7 cs2).length≤60:=by rw [Zbz];exact Qi (W1 ndj inP) clo.few
 refine ⟨_,rfl,_,rfl,c,_,rfl,DPut.k (k:=.inr y) hcj (Zy (by omega)),?_⟩;rw [Zdv];refine ⟨Zo cs2 y (.bl true),_,rfl,fun e o h=>?_,?_,Ze,Zbq ndj,fun x'=>?_⟩
 ·rw [Zg (fun z=>by subst z;rw [ncH] at h;cases h)];exact sj _ _ h
 ·rw [Zg cM.symm];exact hMj
 ·rw [ZcE,memj,tkj,Qq,QT]
theorem Zj9 (T:Tx K w mg) (Zek:Ze5 P base T) (Zeb:Zgf P base T):Zhz P base T:=by
 refine Fun.okX (k:=8) T.Uh.F Zai (fun vs H Q E h=>h.1) (fun cdv A outer s H vs Q E hr h=>?_);obtain ⟨-,h⟩:=h;obtain ⟨o,v,d,bs,pool,B,Hb,rfl,hT,bnd,bl,sb,nb,hB,clo,pnd,pl,kp,q⟩:=h
 refine ⟨_,(Zl (ZG (i:=2) Zai.nd rfl (Or.inl rfl) X9)
   (Zl (Zax (Yr QI rfl (Zal (YQ (pv 0) rfl)) (ZT (i:=3) Zai.nd rfl (Or.inl rfl))
    (Zl (Xg (ZO hr) (pv 2) (pv 3) X9 rfl)
   (Zj (Yr QI rfl (Yz (ZjH (pv 1) T.cl_Book T.UF.me Zek (hr.mono (by decide)) T.UF.b .nil Zz)) (ZT (i:=4) Zai.nd rfl (Or.inl rfl))
    (Zj (Yv (Z1 (pv 0) T.cl_Tongue T.Vs.me Zeb (hr.mono (by decide)) T.Vs.b .nil Zz (Za (pv 1) (Za (pv 2) (Za (pv 3) (Za (pv 4) Zc))))))))))))
   (Zj (Zu (pv 2))))),?_⟩
 obtain ⟨to,dx,z0,rfl,hto,zs,k1,k2,k3,k4⟩:=id hT;obtain ⟨ko,kdx,a1,a2,a3,a4,a5,rfl,hbk⟩:=id hB;have rw0:(bs.map fun q=>(q.1,[q.2])).map (·.1)=bs.map (·.1):=by rw [QH];rfl
 refine fun t nt=>?_;have st:=Zk (o:=.dK []) nt;have td:t≠d:=fun z=>by rw [z,k1] at nt;cases nt
 have tto:to≠d:=fun z=>by rw [z,k1] at hto;cases hto
 dsimp only [Z7];refine ⟨d,zs.map (fun p=>(.inr p.1,p.2)),st _ _ k1,?_⟩;refine ⟨_,rfl,to,T.c_Tongue,dx,_,_,rfl,st _ _ hto,T.cl_Tongue,T.na_Tongue_rows,rfl,d,_,rfl,st _ _ k1,fun ob=>?_⟩
 have zl:zs.length=bs.length:=by
  have:=Qj List.length k2;rw [rw0,Qd,Qd] at this;exact this
 refine Zgb (kvs:=zs.map (fun p=>(.inr p.1,p.2))) (fun i σ Hj=>∃(tab:Ub) (v3 v4:Option V),σ=[some (.ref to),some (.ref ko),some (.ref t),v3,v4]∧Xe d H Hj∧Hj d=some (.frz ob (.dK (zs.map (fun p=>(.inr p.1,p.2)))))∧Hj t=some (.dK (YJ tab))∧tab.map (·.1)=(bs.take i).map (·.1)∧∀q∈tab,(q.2.1≠d∧q.2.1≠t∧Hj q.2.1=some (.dK (YS q.2.2)))∧q.2.2.map (·.1)=Zw (Z2 B.kept)∧∀r∈q.2.2,(r.2.1≠d∧Hj r.2.1=some (.lst (r.2.2.map V.str)))∧∀b,(q.1,b)∈bs->SrtOf (fun y=>YV (YE B) b.1 (·=r.1) y∧Yb B b.2 r.1 y=true) r.2.2) ?start ?list ?turn ?done
 case start=>exact ⟨[],_,_,rfl,fun b' u nb' e=>by rw [Zg nb'];exact st _ _ e,Ze,by rw [Zg td];exact Ze,rfl,fun q hq=>(by cases hq)⟩
 case list =>
  rintro i σ Hj _ ⟨tab,v3,v4,rfl,bt,hd,_⟩;exact hd
 case done =>
  rintro σ Hj ⟨tab,v3,v4,rfl,bt,hd,ht,et,ok⟩;rw [Qd,zl,QU] at et;refine ⟨ob,hd,_,rfl,q _ t tab (fun c u e=>?_) (by rw [Zg td];exact ht) et fun qq hq=>?_⟩
  ·by_cases z:c=d
   ·rw [z] at e ⊢;rw [k1] at e;cases e;exact Ze
   ·rw [Zg z];exact bt _ _ z e
  ·obtain ⟨⟨n1,_,h1⟩,h2,h3⟩:=ok qq hq;exact ⟨by rw [Zg n1];exact h1,h2,fun r hr=>⟨by rw [Zg (h3 r hr).1.1];exact (h3 r hr).1.2,(h3 r hr).2⟩⟩
 case turn =>
 rintro i p σ Hj hp ⟨tab,v3,v4,rfl,bt,hd,ht,et,ok⟩;rw [Qp] at hp;obtain ⟨pz,hpz,rfl⟩:=QN.mp hp;have il:i<bs.length:=by rw [←zl];exact (QC.mp hpz).1
 obtain ⟨qb,hqb⟩:∃qb,bs[i]?=some qb:=⟨_,Qw il⟩
 have eu:pz.1=qb.1:=by
  have e:=Qj (·[i]?) k2;rw [rw0] at e;simp only [Qp,hpz,hqb] at e;exact Ql e
 obtain ⟨u,b⟩:=qb;obtain ⟨u',w'⟩:=pz;obtain rfl:u'=u:=eu;have tk:(bs.take (i+1)).map (·.1)=(bs.take i).map (·.1)++[u']:=by rw [Q8,hqb,Qm];rfl
 have nu:u'∉tab.map (·.1):=by
  rw [et];have nd':((bs.take (i+1)).map (·.1)).Nodup:=by rw [Nt];exact bnd.sublist (RQ ..)
  rw [tk] at nd';exact fun m=>(QY.mp nd').2.2 u' m u' (by simp) rfl
 have tl:tab.length≤10:=by
  have:=Qj List.length et;rw [Qd,Qd,QV] at this;omega
 dsimp only [Z7];refine fun kd nkd=>?_;have sk:=Zk (o:=.dK []) nkd;have kt:kd≠t:=fun z=>by rw [z,ht] at nkd;cases nkd
 have kdd:kd≠d:=fun z=>by rw [z,hd] at nkd;cases nkd
 refine ⟨_,rfl,_,rfl,t,_,rfl,DPut.k (k:=.inr u') (sk _ _ ht) (Zy (by unfold YJ;rw [Qd];omega)),?_⟩;rw [ZmF nu kd []];have sHb:∀{Hx:Hp},Xe d H Hx->Same Hb Hx:=fun bx c o e=>bx _ _ (fun z=>by rw [z,nb] at e;cases e) (sb _ _ e)
 have bt1:Xe d H (Zb (Zb Hj kd (.dK [])) t (.dK (YJ (tab++[(u',kd,[])])))):=fun c o nc e=>by
  rw [Zg (ZV e nt)];exact sk _ _ (bt _ _ nc e)
 have hd1:Zb (Zb Hj kd (.dK [])) t (.dK (YJ (tab++[(u',kd,[])]))) d=some (.frz ob (.dK (zs.map (fun p=>(.inr p.1,p.2))))):=by rw [Zg td.symm];exact sk _ _ hd
 have ht1:Zb (Zb Hj kd (.dK [])) t (.dK (YJ (tab++[(u',kd,[])]))) t=some (.dK (YJ (tab++[(u',kd,[])]))):=Ze;have hk1:Zb (Zb Hj kd (.dK [])) t (.dK (YJ (tab++[(u',kd,[])]))) kd=some (.dK (YS [])):=by rw [Zg kt];exact Ze
 have ok1:∀q∈tab,(q.2.1≠kd∧Zb (Zb Hj kd (.dK [])) t (.dK (YJ (tab++[(u',kd,[])]))) q.2.1=some (.dK (YS q.2.2)))∧∀r∈q.2.2,r.2.1≠kd∧Zb (Zb Hj kd (.dK [])) t (.dK (YJ (tab++[(u',kd,[])]))) r.2.1=some (.lst (r.2.2.map V.str)):=fun q hq=>by
  obtain ⟨⟨n1,n2,h1⟩,h2,h3⟩:=ok q hq;refine ⟨⟨ZV h1 nkd,by rw [Zg n2];exact sk _ _ h1⟩,fun r hr=>?_⟩;have h4:=(h3 r hr).1.2;have rt:r.2.1≠t:=fun z=>by rw [z,ht] at h4;cases h4
  exact ⟨ZV h4 nkd,by rw [Zg rt];exact sk _ _ h4⟩
 generalize Zb (Zb Hj kd (.dK [])) t (.dK (YJ (tab++[(u',kd,[])])))=H5 at bt1 hd1 ht1 hk1 ok1 ⊢;have hB5:=hbk.mono (sHb bt1);refine ⟨_,rfl,ko,kdx,_,rfl,hB5.ob,rfl,rfl,.ref ko,B,rfl,⟨_,_,_,_,_,_,_,rfl,hB5⟩,by omega,fun H6 Lp s6 nLp hLp=>?_⟩;have pk:∀n∈Zw (Z2 B.kept),Known B n:=fun n hn=>kp n ((Xp _).mem_iff.mp hn);have pnd':(Zw (Z2 B.kept)).Nodup:=(Xp _).nodup_iff.mpr pnd;have ppl:(Zw (Z2 B.kept)).length≤30:=by rw [(Xp _).length_eq];exact pl
 have Lk:Lp≠kd:=fun z=>by rw [z,hk1] at nLp;cases nLp
 refine ⟨Lp,rfl,⟨_,.of hLp⟩,XN (xs:=(Zw (Z2 B.kept)).map V.str) (fun j σ Hk=>∃(rs:WR) (v4:Option V),σ=[some (.ref to),some (.ref ko),some (.ref t),some (.str u'),v4]∧(∀c o,c≠kd->H6 c=some o->Hk c=some o)∧Hk kd=some (.dK (YS rs))∧rs.map (·.1)=(Zw (Z2 B.kept)).take j∧∀r∈rs,(r.2.1≠d∧r.2.1≠kd∧Hk r.2.1=some (.lst (r.2.2.map V.str)))∧SrtOf (fun y=>YV (YE B) b.1 (·=r.1) y∧Yb B b.2 r.1 y=true) r.2.2) ?st ?li ?tu ?dn⟩
 case st=>exact ⟨[],_,rfl,fun c o _ e=>e,s6 _ _ hk1,rfl,fun r hr=>(by cases hr)⟩
 case li =>
  rintro j σ Hk _ ⟨rs,v4,rfl,fr,_⟩;exact .of (fr _ _ Lk hLp)
 case dn =>
  rintro σ Hk ⟨rs,v4,rfl,fr,hk,er,hr⟩;rw [Qd,QU] at er;refine ⟨tab++[(u',kd,rs)],_,_,rfl,fun c o nc e=>?_,fr _ _ kdd.symm (s6 _ _ hd1),?_,by rw [Qm,et,tk];rfl,fun q hq=>?_⟩
  ·have e5:=bt1 _ _ nc e;by_cases z:c=kd
   ·rw [z] at e;have:=bt _ _ kdd e;rw [nkd] at this;cases this
   ·exact fr _ _ z (s6 _ _ e5)
  ·have e2:YJ (tab++[(u',kd,rs)])=YJ (tab++[(u',kd,[])]):=by unfold YJ;rw [Qm,Qm];rfl
   rw [e2];exact fr _ _ kt.symm (s6 _ _ ht1)
  ·rcases Qq.mp hq with hq|hq
   ·obtain ⟨⟨n1,n2,h1⟩,h2,h3⟩:=ok q hq;obtain ⟨⟨m1,g1⟩,g2⟩:=ok1 q hq;exact ⟨⟨n1,n2,fr _ _ m1 (s6 _ _ g1)⟩,h2,fun r hr'=>⟨⟨(h3 r hr').1.1,fr _ _ (g2 r hr').1 (s6 _ _ (g2 r hr').2)⟩,(h3 r hr').2⟩⟩
   ·rw [QT.mp hq];refine ⟨⟨kdd,kt,hk⟩,er,fun r hr'=>⟨⟨(hr r hr').1.1,(hr r hr').1.2.2⟩,fun b' hb'=>?_⟩⟩
    have e3:b'=b:=by
     obtain ⟨x,hx⟩:=GN hb';have e4:(bs.map (·.1))[x]?=(bs.map (·.1))[i]?:=by rw [Qp,Qp,hx,hqb];rfl
     have:=(List.getElem?_inj (by rw [Qd];exact (QC.mp hx).1) bnd).mp e4;subst this;rw [hqb] at hx;exact Qj (·.2) (Ql hx).symm
    rw [e3];exact (hr r hr').2
 case tu =>
 rintro j y σ Hk hy ⟨rs,v4,rfl,fr,hk,er,hr⟩;obtain ⟨n,hn,rfl⟩:=XO hy;have tkn:(Zw (Z2 B.kept)).take (j+1)=(Zw (Z2 B.kept)).take j++[n]:=by rw [Q8,hn];rfl
 have nn:n∉rs.map (·.1):=by
  rw [er];have nd':((Zw (Z2 B.kept)).take (j+1)).Nodup:=pnd'.sublist (RQ ..);rw [tkn] at nd';exact fun m=>(QY.mp nd').2.2 n m n (by simp) rfl
 have rl:rs.length≤60:=by
  have:=Qj List.length er;rw [Qd,QV] at this;omega
 have btk:Xe d H Hk:=fun c o nc e=>fr _ _ (fun z=>by rw [z] at e;have:=bt _ _ kdd e;rw [nkd] at this;cases this) (s6 _ _ (bt1 _ _ nc e));have hdk:=fr _ _ kdd.symm (s6 _ _ hd1);have hBk:=hbk.mono (sHb btk);have hTk:=hT.frz btk k1 hdk
 have hv:ZD (YJ (tab++[(u',kd,[])])) (.inr u')=some (.ref kd):=by
  unfold YJ;rw [Qm];refine (ZeL _ _ _ _ ?_).trans (Qb rfl);have:=ZaL (rs:=tab.map fun q=>(q.1,q.2.1,[])) (n:=u') (by rw [QH];exact nu);rw [←Zb9] at this;exact this
 have hrow:(bs.map fun q=>(q.1,[q.2]))[i]?=some (u',[b]):=by rw [Qp,hqb];rfl
 dsimp only [Z7];refine ⟨_,rfl,to,dx,_,rfl,btk _ _ tto hto,rfl,_,rfl,_,rfl,_,rfl,_,rfl,rfl,.ref to,.ref ko,t,kd,u',n,_,i,b,_,rs,pool,B,rfl,hTk,hrow,by rw [rw0];exact bnd,fr _ _ kt.symm (s6 _ _ ht1),hv,hk,nn,rl,⟨_,_,_,_,_,_,_,rfl,hBk⟩,pk n (Qy hn),clo,fun H8 D8 ys fr8 nD8 hk8 hD8 srt8=>?_⟩;have D8k:D8≠kd:=fun z=>by rw [z,hk] at nD8;cases nD8
 have D8d:D8≠d:=fun z=>by rw [z,hdk] at nD8;cases nD8
 refine ⟨rs++[(n,D8,ys)],_,rfl,fun c o nc e=>fr8 _ _ nc (fr _ _ nc e),hk8,by rw [Qm,er,tkn];rfl,fun r hr'=>?_⟩;rcases Qq.mp hr' with hr'|hr'
 ·exact ⟨⟨(hr r hr').1.1,(hr r hr').1.2.1,fr8 _ _ (hr r hr').1.2.1 (hr r hr').1.2.2⟩,(hr r hr').2⟩
 ·rw [QT.mp hr'];exact ⟨⟨D8d,D8k,hD8⟩,srt8⟩
theorem Zkr (T:Tx K w mg)  : ZdE P base T:=by
 refine Fun.okX (k:=0) T.Za3.F ZlX (fun vs H Q E h=>h.1) (fun cdv A outer s H vs Q E hr h=>?_);obtain ⟨-,h⟩:=h;obtain ⟨l,ns,k,rfl,hS,hk,q⟩:=h
 refine ⟨_,(Zl (ZE (ZB Wg (pv 1) (ZQ YO (by rfl) T.n_len Ye (Za (pv 0) Zc)) (Zs _)) (Zj (Zu (Zm YG (pv 0) (pv 1) (fun _ _=>rfl)))) ZH)
   (Zj (Zu Zf))),?_⟩
 refine ⟨_,rfl,_,rfl,l,_,rfl,.inl hS,_,_,rfl,rfl,_,rfl,?_⟩;by_cases kl:k<((ns.map V.int).length:Int)
 ·rw [Qr kl];obtain ⟨j,rfl⟩:∃j:Nat,k=(j:Int):=⟨k.toNat,by omega⟩;refine Z0 ⟨_,rfl,_,rfl,l,_,_,_,rfl,rfl,hS,Xq (ZoR (by rw [Qd] at kl;omega)),q _⟩
 ·rw [Qk kl];exact ZS (q _)
theorem Znb (T:Tx K w mg)  : Zh7 P base T:=by
 refine Fun.okX (k:=0) T.Zam.F WH (fun vs H Q E h=>h.1) (fun cdv A outer s H vs Q E hr h=>?_);obtain ⟨-,h⟩:=h;obtain ⟨c,rfl,q⟩:=h
 refine ⟨_,(Zl (ZG (i:=1) WH.nd rfl (Or.inl rfl) Zn)
   (Zl (ZG (i:=2) WH.nd rfl (Or.inl rfl) (Zv X6 Zf (Zv Yq (pv 0) Zf)))
   (Zl (ZG (i:=3) WH.nd rfl (Or.inl rfl) (Zv Yq (Zv Wm (pv 0) Zf) (pv 2)))
   (Zl (UI (i:=4) rfl  WH.nd rfl (Or.inl rfl) (Xi (N:=["_law_k","_law_cell"]) ["_law_cell"] [none,some 0] rfl (by trivial) (by trivial) (by rfl) (by rfl) (by rfl) (by rfl) (by rfl)) (Vb (by rfl) T.n_range (Za (pv 2) Zc)) (fun _ _ _=>(ZT (i:=0) Zje rfl (Or.inl rfl))) (fun _ _ _=>W3) (fun _ _ _=>(Zv Yq (Zv X6 (Zv Wm (Zv Wm (pv 1) Zf) (Zv X6 (pv 0) Zf)) (Zv VG Zf (pv 0))) Zf)))
   (Zl (ZG (i:=5) WH.nd rfl (Or.inl rfl) (Yk Zc))
   (Zl (Yr QI rfl (Vb (by rfl) T.n_range (Za Zf Zc)) (ZT (i:=6) WH.nd rfl (Or.inl rfl))
    (Zl (ZG (i:=7) WH.nd rfl (Or.inl rfl) Zn)
   (Zl (Yr QI rfl (Vb (by rfl) T.n_range (Za (pv 2) Zc)) (ZT (i:=8) WH.nd rfl (Or.inl rfl))
    (Zj (ZG (i:=7) WH.nd rfl (Or.inl rfl) (Zv Jx (pv 7) (Zm Zh1 (pv 1) (Zv Yq (Zv X6 (Zm YG (pv 4) (pv 8) (fun _ _=>rfl)) (Zv Zhq (pv 6) (VN Zip (by rfl) T.n_int ZdY (Za (YZ ZZ (pv 8) (pv 3) (Zs _)) Zc)))) Zf) (fun _ _=>rfl))))))
   (Zj (Yv (XQ R3 Gn Go VB (pv 5) (Za (Zv Jx (pv 7) (Wr ZeB Zn WE (Wj (Zv Yq (pv 6) Zf)))) Zc)))))))
   (Zj (Zu (pv 5))))))))),?_⟩
 have s0:=QZ c (show (0:Int)<6 by decide);have s1:=Rb c (show (0:Int)<6 by decide);refine ⟨_,rfl,_,_,rfl,rfl,YT (by decide),_,_,rfl,rfl,?_⟩
 try dsimp only
 obtain ⟨n,hn⟩:∃n:Nat,1+c.fmod 6=(n:Int):=⟨(1+c.fmod 6).toNat,by omega⟩;rw [hn];have n1:1≤n∧n≤6:=by omega
 have a0:=QZ (c.fdiv 6) (show (0:Int)<n by omega);have a1:=Rb (c.fdiv 6) (show (0:Int)<n by omega);refine ⟨_,rfl,_,_,rfl,rfl,⟨by decide,Xu (by decide) (by decide)⟩,_,rfl,_,_,rfl,rfl,(show (n:Int)≠0 by omega),?_⟩
 try dsimp only
 obtain ⟨p,hp⟩:∃p:Nat,(c.fdiv 6).fmod n=(p:Int):=⟨((c.fdiv 6).fmod n).toNat,by omega⟩;rw [hp];have pn:p<n:=by omega
 refine ⟨_,rfl,_,rfl,by omega,by omega,Ui ((List.range n).map fun j=>V.int (WI c j)) (Zy (by rw [Qd,Gk];omega)) (fun σ=>∃w,σ=[w,some (.int c)]) ⟨_,rfl⟩ (fun i H3 hi sm=>?go) (fun H3 sm=>?stop) (fun i σ H3 x H4 y hy hσ sm hx C hC=>?step) (fun D2 H3 nD2 sm hD2=>?fin)⟩
 case go =>
  rw [Qd,Gk] at hi;show i<(n:Int).toNat;omega
 case stop =>
  rw [Qd,Gk];show (n:Int).toNat≤n;omega
 case step =>
  obtain ⟨w,rfl⟩:=hσ;obtain ⟨rfl,rfl⟩:=hx
  have il:i<n:=by
   have:=(QC.mp hy).1
   rwa [Qd,Gk] at this
  obtain rfl:V.int (WI c i)=y:=by
   rw [Qp,NQ il] at hy;exact Ql hy
  rw [show (0:Int)+(i:Int)=i from R4 _];exact ⟨_,rfl,_,_,rfl,rfl,⟨by decide,Xu (by decide) (by decide)⟩,_,rfl,_,_,rfl,rfl,_,_,rfl,rfl,⟨by omega,Xu (by omega) (by omega)⟩,_,rfl,_,_,rfl,rfl,.inl ⟨by decide,by decide⟩,_,_,rfl,rfl,_,_,rfl,rfl,YT (by decide),hC _ _ ⟨_,rfl⟩ (Same.refl _)⟩
 case fin =>
 refine ⟨few rfl,fun D nD=>?_⟩;have sD:=Zk (o:=.lst []) nD;have s3D:=sm.trans sD;have D2D:D2≠D:=ZV hD2 nD;have hb:∀{Hc:Hp},Hc D2=some (.lst ((List.range n).map fun j=>V.int (WI c j)))->SqL K Hc D2 ((List.range n).map fun j=>V.int (WI c j)):=fun h=>.of h;refine ⟨_,rfl,by decide,by decide,ZaT (fun i σ Hc=>∃v6 v7 v8,σ=[some (.int c),some (.str "abcdefghijklmnopqrstuvwxyz"),some (.int n),some (.int p),some (.ref D2),some (.ref D),v6,v7,v8]∧Same H Hc∧Hc D=some (.lst (((List.range i).map (WT c n p)).map V.str))∧Hc D2=some (.lst ((List.range n).map fun j=>V.int (WI c j)))) ⟨_,_,_,rfl,s3D,Ze,by rw [Zg D2D];exact hD2⟩ ?_ ?_⟩
 ·rintro k σ Hc hk ⟨v6,v7,v8,rfl,sc,hD,hD2c⟩;have k24:k<24:=hk;rw [show (0:Int)+(k:Int)=k from R4 _];refine ⟨_,rfl,_,rfl,by omega,by omega,ZaT (fun j σ Hj=>Hj=Hc∧∃v8,σ=[some (.int c),some (.str "abcdefghijklmnopqrstuvwxyz"),some (.int n),some (.int p),some (.ref D2),some (.ref D),some (.int k),some (.str ⟨(XG c p k j).toArray⟩),v8]) ⟨rfl,_,rfl⟩ ?_ ?_⟩
  ·rintro j σ Hj hj ⟨rfl,v8,rfl⟩;have jn:j<n:=by omega
   rw [show (0:Int)+(j:Int)=j from R4 _];have atj:Ym ((List.range n).map fun j=>V.int (WI c j)) (j:Int)=some (.int (WI c j)):=Xq (by rw [Qp,NQ jn];rfl);have bn:∀z:Int,z=0∨z=1->z.natAbs<2 ^ 1000:=fun z h=>Xu (by omega) (by omega);refine ⟨_,rfl,_,rfl,_,rfl,_,rfl,D2,_,_,_,rfl,rfl,hb hD2c,atj,_,rfl,_,rfl,_,rfl,rfl,.inr ⟨_,rfl,_,_,rfl,rfl,⟨Xu (by omega) (by omega),bn _ (by split<;>simp)⟩,_,_,rfl,rfl,_,_,rfl,rfl,YT (by decide),_,_,_,rfl,rfl,few rfl,Zqb _,_,_,rfl,rfl,?_,rfl,some (.int (j:Int)),?_⟩⟩
   ·exact few (by rw [Uu,VC];show Nat.ble (j+1) 1000=true;exact Nat.ble_eq_true_of_le (by omega))
   ·show [_,_,_,_,_,_,_,some (V.str _),_]=_;rw [ZlE,ZpM];by_cases e:j=p
    ·subst e;simp
    ·have:¬((j:Int)=(p:Int)):=by omega
     simp [e,this]
  ·rintro σ Hj ⟨rfl,v8,rfl⟩;rw [show ((n:Int)).toNat=n from rfl];refine ⟨_,rfl,.inl ⟨rfl,_,.of hD⟩,_,rfl,?_⟩;dsimp only [Jm];refine ⟨_,rfl,_,_,rfl,rfl,YT (by decide),_,rfl,_,rfl,few rfl,_,_,rfl,rfl,?len,D,_,_,rfl,rfl,hD,Zy (by simp;omega),_,_,_,rfl,?same,?lst,?_⟩
   case len =>
    rw [Zgo,Uu,Uu,VC,QV];exact few (Nat.ble_eq_true_of_le (by omega))
   case same =>
    intro a u e;rw [Zg (ZV e (ZP sm nD))];exact sc _ _ e
   case lst =>
    rw [Ze,Zgo,Zmx,List.range_succ,Qm,Qm];rfl
   ·rw [Zg D2D];exact hD2c
 ·rintro σ Hc ⟨v6,v7,v8,rfl,sc,hD,hD2c⟩;exact ⟨_,rfl,q _ D _ sc (ZP sm nD) hD (Zi8 n1.1 n1.2 pn)⟩
theorem Zlm (T:Tx K w mg)  : Zfu P base T:=by
 refine Fun.okX (k:=0) T.ZbH.F ZoT (fun vs H Q E h=>h.1) (fun cdv A outer s H vs Q E hr h=>?_);obtain ⟨-,h⟩:=h;obtain ⟨c,k,w,rfl,k0,k1,q⟩:=h
 refine ⟨_,(Zl (ZE (ZB ZZ (pv 2) Zf (Zs _)) (Zj (Zu (Zv Zbi (Zv Yq (Zv VG (pv 0) Zf) (Zv X6 (Zv VG Zf (Zv WZ Zf Zf)) Zf)) (Zv WZ Zf Zf)))) ZH)
   (Zl (ZE (ZB ZZ (pv 2) Zf (Zs _)) (Zj (Zu (Zv Zbi (Zv X6 (Zv Zhq (Zv VG (pv 1) Zf) (Zv WZ Zf Zf)) (Zv Yq (pv 0) (Zv VG Zf (Zv WZ Zf Zf)))) (Zv WZ Zf Zf)))) ZH)
   (Zj (Zu (Zv Zbi (Zv Yq (pv 0) Zf) Zf))))),?_⟩
 have c18:VV 10 18:=⟨by decide,by decide,by decide⟩;have c16:VV 10 16:=⟨by decide,by decide,by decide⟩;refine ⟨_,rfl,rfl,_,rfl,Yo (fun h1=>?_) (fun h1=>?_)⟩
 ·refine ⟨_,rfl,_,_,rfl,rfl,.inr ⟨by decide,by decide⟩,_,_,rfl,rfl,c18,_,_,rfl,rfl,.inl ⟨by decide,by decide⟩,_,_,rfl,rfl,_,_,rfl,rfl,YT (by decide),_,_,rfl,rfl,c18,_,_,rfl,rfl,q _ ?_ ?_⟩
  ·have:=QZ (c*1000003) (show (0:Int)<2*10 ^ (18:Int).toNat+1 by decide);show (-10 ^ 18:Int)≤_-10 ^ 18;omega
  ·have:=Rb (c*1000003) (show (0:Int)<2*10 ^ (18:Int).toNat+1 by decide);have e:(2*10 ^ (18:Int).toNat+1:Int)=2*10 ^ 18+1:=rfl;show _-10 ^ 18≤(10 ^ 18:Int);omega
 refine ⟨_,rfl,rfl,_,rfl,Yo (fun h2=>?_) (fun h2=>?_)⟩
 ·have:=QZ c (show (0:Int)<3*10 ^ (16:Int).toNat by decide);have:=Rb c (show (0:Int)<3*10 ^ (16:Int).toNat by decide);have e:(3*10 ^ (16:Int).toNat:Int)=3*10 ^ 16:=rfl;refine ⟨_,rfl,_,_,rfl,rfl,.inr ⟨by decide,by decide⟩,_,_,rfl,rfl,c16,_,_,rfl,rfl,⟨Xu (by omega) (by omega),Xu (by decide) (by decide)⟩,_,rfl,_,_,rfl,rfl,c16,_,_,rfl,rfl,.inl ⟨by decide,by decide⟩,_,_,rfl,rfl,YT (by decide),_,_,rfl,rfl,_,_,rfl,rfl,c18,_,_,rfl,rfl,q _ ?_ ?_⟩
  ·show (-10 ^ 18:Int)≤k*4*10 ^ 16+_-10 ^ 18;omega
  ·show k*4*10 ^ 16+_-10 ^ 18≤(10 ^ 18:Int);omega
 ·have:=QZ c (show (0:Int)<9 by decide);have:=Rb c (show (0:Int)<9 by decide);exact ⟨_,rfl,_,_,rfl,rfl,YT (by decide),_,_,rfl,rfl,q _ (by omega) (by omega)⟩
theorem Zk3 (T:Tx K w mg)  : Zia P base T:=by
 refine Fun.okX (k:=0) T.ZbL.F WS (fun vs H Q E h=>h.1) (fun cdv A outer s H vs Q E hr h=>?_);obtain ⟨-,h⟩:=h;obtain ⟨D,ln,c,d,ps,ns,rfl,hP,hN,n24,l24,q⟩:=h
 refine ⟨_,(Zl (ZG (i:=4) WS.nd rfl (Or.inl rfl) (Zv Yq (Zv VG (pv 2) Zf) Zf))
   (Zl (Zax (UI (i:=5) rfl  WS.nd rfl (Or.inl rfl) (Xi (N:=["_law_one","_law_day_here","_law_people"]) ["_law_people","_law_day_here"] [none,some 3,some 0] rfl (by trivial) (by trivial) (by rfl) (by rfl) (by rfl) (by rfl) (by rfl)) (Zal (pv 0)) (fun _ _ _=>(ZT (i:=0) ZlM rfl (Or.inl rfl))) (fun _ _ _=>(WC (ZB Wg (Zm (Zbr K rfl) (YW (ZO hr) (pv 2) (pv 0) (fun _ _=>rfl)) Zf (fun _ _=>rfl)) (pv 1) (Zs _)))) (fun _ _ _=>(pv 0))))
   (Zl (UI (i:=6) rfl  WS.nd rfl (Or.inl rfl) (Xi (N:=["_law_one","_law_people"]) ["_law_people"] [none,some 0] rfl (by trivial) (by trivial) (by rfl) (by rfl) (by rfl) (by rfl) (by rfl)) (Yz (pv 5)) (fun _ _ _=>(ZT (i:=0) Zfe rfl (Or.inl rfl))) (fun _ _ _=>(WC (ZB ZZ (Zm (Zbr K rfl) (YW (ZO hr) (pv 1) (pv 0) (fun _ _=>rfl)) Zf (fun _ _=>rfl)) Zn (Zs _)))) (fun _ _ _=>(pv 0)))
   (Zl (UI (i:=7) rfl  WS.nd rfl (Or.inl rfl) (Xi (N:=["_law_one","_law_people"]) ["_law_people"] [none,some 0] rfl (by trivial) (by trivial) (by rfl) (by rfl) (by rfl) (by rfl) (by rfl)) (Yz (pv 5)) (fun _ _ _=>(ZT (i:=0) Zfe rfl (Or.inl rfl))) (fun _ _ _=>(WC (ZB ZZ (Zm (Zbr K rfl) (YW (ZO hr) (pv 1) (pv 0) (fun _ _=>rfl)) Zf (fun _ _=>rfl)) Zn (Zs _)))) (fun _ _ _=>(pv 0)))
   (Zl (ZG (i:=8) WS.nd rfl (Or.inl rfl) Zn)
   (Zl (ZG (i:=9) WS.nd rfl (Or.inl rfl) Zn)
   (Zl (ZE (PW.pt (VW (ZB Wa (ZQ YO (by rfl) T.n_len Ye (Za (pv 6) Zc)) Zf (Zs _)) (VZ (ZB Wa (Zv Yq (pv 4) Zf) Zf (Zs _))))) (Zj (ZG (i:=8) WS.nd rfl (Or.inl rfl) (Zm YG (pv 6) (Zv Yq (Zv Wm (pv 4) Zf) (ZQ YO (by rfl) T.n_len Ye (Za (pv 6) Zc))) (fun _ _=>rfl)))) ZH)
   (Zl (ZE (PW.pt (VW (ZB Wa (ZQ YO (by rfl) T.n_len Ye (Za (pv 7) Zc)) Zf (Zs _)) (VZ (ZB Wa (Zv Yq (Zv Wm (pv 4) Zf) Zf) Zf (Zs _))))) (Zj (ZG (i:=9) WS.nd rfl (Or.inl rfl) (Zm YG (pv 7) (Zv Yq (Zv Wm (pv 4) Zf) (ZQ YO (by rfl) T.n_len Ye (Za (pv 7) Zc))) (fun _ _=>rfl)))) ZH)
   (Zj (Zu (Z8 (Za Zn (Za (Zm YG (pv 1) (ZQ Zak (by rfl) T.n_len Ye (Za (pv 0) Zc)) (fun _ _=>rfl)) (Za (Zm YG (Yk (Za Zn (Za Zn (Za Zn (Za Zn (Za Zn Zc)))))) (Zv Yq (pv 2) Zf) (fun _ _=>rfl)) (Za (pv 3) (Za (pv 8) (Za (pv 9) Zc))))))))))))))))),?_⟩
 refine ⟨_,rfl,_,_,rfl,rfl,.inr ⟨by decide,by decide⟩,_,_,rfl,rfl,YT (by decide),?_⟩;dsimp only [Z7];generalize (c*48271).fmod 2147483647=num;refine ⟨D,X2 ps,hP.d,_,rfl,D,_,rfl,hP.d,fun o=>WF (ps.map (J7 d)) (Zy (by rw [Qd];omega)) (fun σ=>∃w,σ=[w,some (.int d),some (.ref D)]) ⟨_,rfl⟩ (fun j H4 hj sm=>?go) (fun H4 sm=>?stop) (fun j σ H4 x H5 z hz hσ sm hx C hC=>?step) (fun D5 H5 nD5 s5 hD5=>?fin)⟩
 case go=>exact ⟨sm _ _ Ze,by rw [Qd] at hj ⊢;exact hj⟩
 case stop=>exact ⟨sm _ _ Ze,by rw [Qd,Qd];exact Qe _⟩
 case step =>
  obtain ⟨w,rfl⟩:=hσ;obtain ⟨rfl,hx2⟩:=hx;rw [Qp] at hx2 hz;obtain ⟨p,hp,rfl⟩:=QN.mp hz;rw [hp] at hx2;obtain rfl:=Ql hx2;have hm:p∈ps:=Qy hp;refine ⟨_,rfl,_,rfl,D,_,rfl,PpAt.get hP.nd (.inr ⟨o,sm _ _ Ze⟩) hm,_,_,_,_,rfl,rfl,sm.sqt (ZlH hP.d (hP.t p hm)),Zh (j:=1) rfl,_,rfl,_,_,rfl,rfl,_,rfl,?_⟩;by_cases e:p.2.2.2<d
  ·rw [show J7 d p=some (.str p.1) from Qb e] at hC;rw [Qr e];exact Z0 ⟨_,rfl,hC _ _ ⟨_,rfl⟩ (Same.refl _)⟩
  ·rw [show J7 d p=none from Qa e] at hC;rw [Qk e];exact ZS (hC _ _ ⟨_,rfl⟩ (Same.refl _))
 case fin =>
 rw [ZhW] at hD5;obtain ⟨olds,eo⟩:∃z,z=ps.filter fun p=>decide (p.2.2.2<d):=⟨_,rfl⟩;rw [←eo] at hD5;have ol:olds.length≤ps.length:=by rw [eo];exact Np ..
 have om:∀p∈olds,p∈ps∧p.2.2.2<d:=fun p hp=>by
  rw [eo] at hp;exact ⟨(Q0.mp hp).1,QM (Q0.mp hp).2⟩
 refine ⟨o,s5 _ _ Ze,?_⟩;have s1:=ZjC hP.d s5
 have nD5H:H D5=none:=by
  by_cases z:D5=D
  ·rw [z,Ze] at nD5;cases nD5
  ·rwa [Zg z] at nD5
 have D5D:D5≠D:=fun z=>by rw [z,hP.d] at nD5H;cases nD5H
 have hO:(Zb H5 D (.dK (X2 ps))) D5=some (.lst ((olds.map (·.1)).map V.str)):=by rw [Zg D5D];exact hD5
 generalize Zb H5 D (.dK (X2 ps))=H1 at *;have hP1:=hP.mono s1;refine ⟨_,rfl,D5,rfl,⟨_,.of hO⟩,WF (olds.map (Va "he")) (Zy (by rw [Qd];omega)) (fun σ=>∃w,σ=[w,some (.ref D)]) ⟨_,rfl⟩ (fun j H4 hj sm=>?go2) (fun H4 sm=>?stop2) (fun j σ H4 x H5 z hz hσ sm hx C hC=>?step2) (fun D6 H6 nD6 s6 hD6=>?fin2)⟩
 case go2=>exact ⟨_,_,sm.sql (.of hO),Qw (by rw [Qd,Qd];rw [Qd] at hj;exact hj)⟩
 case stop2=>exact ⟨_,sm.sql (.of hO),by rw [Qd,Qd,Qd];exact Qe _⟩
 case step2 =>
  obtain ⟨w,rfl⟩:=hσ;obtain ⟨rfl,hx2⟩:=hx;obtain ⟨y,hy,rfl⟩:=XO (hx2 _ (sm.sql (.of hO)));rw [Qp] at hy hz;obtain ⟨p,hp,rfl⟩:=QN.mp hy;rw [hp] at hz;obtain rfl:=Ql hz;have hm:p∈ps:=(om p (Qy hp)).1;refine ⟨_,rfl,_,rfl,D,_,rfl,PpAt.get hP.nd (.inl (sm _ _ hP1.d)) hm,_,_,_,_,rfl,rfl,sm.sqt (hP1.t p hm),Zh (j:=0) rfl,rfl,_,rfl,?_⟩;by_cases e:p.2.2.1="he"
  ·rw [show Va "he" p=some (.str p.1) from Qb e] at hC;rw [Qr (show V.str p.2.2.1=V.str "he" by rw [e])];exact Z0 ⟨_,rfl,hC _ _ ⟨_,rfl⟩ (Same.refl _)⟩
  ·rw [show Va "he" p=none from Qa e] at hC;rw [Qk (show ¬V.str p.2.2.1=V.str "he" from fun z=>e (V.str.inj z))];exact ZS (hC _ _ ⟨_,rfl⟩ (Same.refl _))
 case fin2 =>
 rw [Zdy] at hD6;have s2:=s1.trans s6;have hP2:=hP.mono s2;have hO2:=s6 _ _ hO;refine ⟨_,rfl,D5,rfl,⟨_,.of hO2⟩,WF (olds.map (Va "she")) (Zy (by rw [Qd];omega)) (fun σ=>∃w,σ=[w,some (.ref D)]) ⟨_,rfl⟩ (fun j H4 hj sm=>?go3) (fun H4 sm=>?stop3) (fun j σ H4 x H5 z hz hσ sm hx C hC=>?step3) (fun D7 H7 nD7 s7 hD7=>?fin3)⟩
 case go3=>exact ⟨_,_,sm.sql (.of hO2),Qw (by rw [Qd,Qd];rw [Qd] at hj;exact hj)⟩
 case stop3=>exact ⟨_,sm.sql (.of hO2),by rw [Qd,Qd,Qd];exact Qe _⟩
 case step3 =>
  obtain ⟨w,rfl⟩:=hσ;obtain ⟨rfl,hx2⟩:=hx;obtain ⟨y,hy,rfl⟩:=XO (hx2 _ (sm.sql (.of hO2)));rw [Qp] at hy hz;obtain ⟨p,hp,rfl⟩:=QN.mp hy;rw [hp] at hz;obtain rfl:=Ql hz;have hm:p∈ps:=(om p (Qy hp)).1;refine ⟨_,rfl,_,rfl,D,_,rfl,PpAt.get hP.nd (.inl (sm _ _ hP2.d)) hm,_,_,_,_,rfl,rfl,sm.sqt (hP2.t p hm),Zh (j:=0) rfl,rfl,_,rfl,?_⟩;by_cases e:p.2.2.1="she"
  ·rw [show Va "she" p=some (.str p.1) from Qb e] at hC;rw [Qr (show V.str p.2.2.1=V.str "she" by rw [e])];exact Z0 ⟨_,rfl,hC _ _ ⟨_,rfl⟩ (Same.refl _)⟩
  ·rw [show Va "she" p=none from Qa e] at hC;rw [Qk (show ¬V.str p.2.2.1=V.str "she" from fun z=>e (V.str.inj z))];exact ZS (hC _ _ ⟨_,rfl⟩ (Same.refl _))
 case fin3 =>
 rw [Zdy] at hD7;have s3:=s2.trans s7;have hP3:=hP.mono s3;have hF:=s7 _ _ hD6;obtain ⟨fs,ef⟩:∃z,z=olds.filter fun p=>decide (p.2.2.1=("he" : Str)):=⟨_,rfl⟩;obtain ⟨ms,em⟩:∃z,z=olds.filter fun p=>decide (p.2.2.1=("she" : Str)):=⟨_,rfl⟩;rw [←ef] at hF;rw [←em] at hD7
 have fm:∀p∈fs,X8 ps "he" d p.1:=fun p hp=>by
  rw [ef] at hp;obtain ⟨h1,h2⟩:=Q0.mp hp;exact .inr ⟨p,(om p h1).1,rfl,QM h2,(om p h1).2⟩
 have mm:∀p∈ms,X8 ps "she" d p.1:=fun p hp=>by
  rw [em] at hp;obtain ⟨h1,h2⟩:=Q0.mp hp;exact .inr ⟨p,(om p h1).1,rfl,QM h2,(om p h1).2⟩
 rw [QH] at hF hD7;dsimp only [Z7];refine Zfh (Zfh ?_);refine Y1 (fun σ Hx=>H7=Hx∧∃f,X8 ps "he" d f∧σ=[some (.ref D),some (.ref ln),some (.int c),some (.int d),some (.int num),some (.ref D5),some (.ref D6),some (.ref D7),some (.str f),some (.str "")]) (fun nx rest=>?_) ?_
 ·refine ⟨_,rfl,D6,_,rfl,.inl (.of hF),_,_,rfl,rfl,_,rfl,Yo (fun h1=>⟨_,rfl,_,_,rfl,rfl,YT (by decide),_,_,rfl,rfl,_,rfl,Yo (fun h2=>?_) (fun h2=>?_)⟩) (fun h1=>?_)⟩
  ·have l0:0<fs.length:=by
    have:=QM h1;rw [Qd] at this;omega
   obtain ⟨p,hp,ea⟩:=Jf (V.str∘fun p:Pp=>p.1) fs l0 (num.fdiv 7);exact ⟨_,rfl,_,rfl,_,_,rfl,rfl,⟨by decide,Xu (by decide) (by decide)⟩,_,rfl,D6,_,rfl,.inl (.of hF),_,_,rfl,rfl,(by rw [Qd];omega),D6,_,_,_,rfl,rfl,.of hF,ea,rest _ _ ⟨rfl,p.1,fm p hp,rfl⟩⟩
  ·exact rest _ _ ⟨rfl,"",.inl rfl,rfl⟩
  ·exact rest _ _ ⟨rfl,"",.inl rfl,rfl⟩
 rintro σ _ ⟨rfl,f,hf,rfl⟩;refine Y1 (fun σ Hx=>H7=Hx∧∃m,X8 ps "she" d m∧σ=[some (.ref D),some (.ref ln),some (.int c),some (.int d),some (.int num),some (.ref D5),some (.ref D6),some (.ref D7),some (.str f),some (.str m)]) (fun nx rest=>?_) ?_
 ·refine ⟨_,rfl,D7,_,rfl,.inl (.of hD7),_,_,rfl,rfl,_,rfl,Yo (fun h1=>⟨_,rfl,_,_,rfl,rfl,⟨by decide,Xu (by decide) (by decide)⟩,_,_,rfl,rfl,YT (by decide),_,_,rfl,rfl,_,rfl,Yo (fun h2=>?_) (fun h2=>?_)⟩) (fun h1=>?_)⟩
  ·have l0:0<ms.length:=by
    have:=QM h1;rw [Qd] at this;omega
   obtain ⟨p,hp,ea⟩:=Jf (V.str∘fun p:Pp=>p.1) ms l0 (num.fdiv 1400);exact ⟨_,rfl,_,rfl,_,_,rfl,rfl,⟨by decide,Xu (by decide) (by decide)⟩,_,rfl,D7,_,rfl,.inl (.of hD7),_,_,rfl,rfl,(by rw [Qd];omega),D7,_,_,_,rfl,rfl,.of hD7,ea,rest _ _ ⟨rfl,p.1,mm p hp,rfl⟩⟩
  ·exact rest _ _ ⟨rfl,"",.inl rfl,rfl⟩
  ·exact rest _ _ ⟨rfl,"",.inl rfl,rfl⟩
 rintro σ _ ⟨rfl,m,hm,rfl⟩;obtain ⟨s,hs,es⟩:=ZlL c;have il:ps.length<ns.length:=by omega
 have en:ns[ps.length]?=some ns[ps.length]:=Qw il;have an:Ym (ns.map V.str) ((X2 ps).length:Int)=some (.str ns[ps.length]):=by rw [Qd];exact Xq (by rw [Qp,en];rfl)
 refine ⟨_,rfl,_,rfl,D,_,rfl,hP3.d,ln,_,_,_,rfl,rfl,s3.sql hN,an,few rfl,fun L nL=>⟨_,rfl,_,_,rfl,rfl,YT (by decide),L,_,_,_,rfl,rfl,.of Ze,es,_,rfl,_,rfl,_,rfl,few rfl,fun a na=>?_⟩⟩;exact q _ a _ _ _ _ ((s3.trans (Zk nL)).trans (Zk na)) (ZP (s3.trans (Zk nL)) na) (.of Ze) en hs hf hm
theorem ZoI (T:Tx K w mg)  : Zg4 P base T:=by
 refine Fun.okX (k:=0) T.Za0.F Wz (fun vs H Q E h=>h.1) (fun cdv A outer s H vs Q E hr h=>?_);obtain ⟨-,h⟩:=h;obtain ⟨D,Dk,c,kd,ps,kn,rfl,hP,hK,p2,p24,k100,ok,pd,qn,q⟩:=h
 refine ⟨_,(Zl (ZG (i:=4) Wz.nd rfl (Or.inl rfl) (VN (ZbV rfl) (by rfl) T.n_list JG (Za (pv 0) Zc)))
   (Zl (ZG (i:=5) Wz.nd rfl (Or.inl rfl) (Zm YG (pv 4) (Zv Yq (pv 2) (ZQ YO (by rfl) T.n_len Ye (Za (pv 4) Zc))) (fun _ _=>rfl)))
   (Zl (ZG (i:=6) Wz.nd rfl (Or.inl rfl) (Zm YG (pv 4) (Zv Yq (Zv X6 (Zv X6 (pv 2) Zf) (Zv Yq (Zv Wm (pv 2) Zf) (Zv Zbi (ZQ YO (by rfl) T.n_len Ye (Za (pv 4) Zc)) Zf))) (ZQ YO (by rfl) T.n_len Ye (Za (pv 4) Zc))) (fun _ _=>rfl)))
   (Zl (ZG (i:=7) Wz.nd rfl (Or.inl rfl) (ZQ (ZhJ rfl) (by rfl) T.n_min JW (Za (Zv WZ Zf Zf) (Za (Zv X6 (ZQ (ZiJ rfl) (by rfl) T.n_max Jo (Za (Zm Zp (YW (ZO hr) (pv 0) (pv 5) (fun _ _=>rfl)) Zf (fun _ _=>rfl)) (Za (Zm Zp (YW (ZO hr) (pv 0) (pv 6) (fun _ _=>rfl)) Zf (fun _ _=>rfl)) Zc))) (Zv Yq (Zv Wm (pv 2) Zf) (Zv WZ Zf Zf))) Zc))))
   (Zl (ZG (i:=8) Wz.nd rfl (Or.inl rfl) (Z8 (Za Zn (Za (ZQ (Zc6 rfl) (by rfl) T.n_min JW (Za (pv 5) (Za (pv 6) Zc))) (Za (ZQ (ZdT rfl) (by rfl) T.n_max Jo (Za (pv 5) (Za (pv 6) Zc))) (Za (pv 7) Zc))))))
   (Zl (ZG (i:=9) Wz.nd rfl (Or.inl rfl) (Z8 (Za (Zm YG (Yk (Za Zn (Za Zn Zc))) (VN Zip (by rfl) T.n_int ZdY (Za (YZ Wa (pv 3) Zf (Zs _)) Zc)) (fun _ _=>rfl)) (Za (pv 5) (Za (pv 6) (Za (pv 7) Zc))))))
   (Zl (ZE (ZB ZZ (pv 3) Zf (Zs _)) (Zl (ZE (ZB Wg (Zm Zp (YW (ZO hr) (pv 0) (pv 5) (fun _ _=>rfl)) Zf (fun _ _=>rfl)) (Zm Zp (YW (ZO hr) (pv 0) (pv 6) (fun _ _=>rfl)) Zf (fun _ _=>rfl)) (Zs _)) (Zj (ZnV rfl Wz.nd (i:=5) (j:=6) rfl rfl (by decide) rfl rfl (Za (pv 6) (Za (pv 5) Zc)) rfl)) ZH)
   (Zl (ZG (i:=8) Wz.nd rfl (Or.inl rfl) (Z8 (Za Zn (Za (pv 5) (Za (pv 6) Zc)))))
   (Zl (ZG (i:=9) Wz.nd rfl (Or.inl rfl) (Z8 (Za Zn (Za (pv 5) (Za (pv 6) (Za (pv 7) Zc))))))
   (Zj (ZE (ZB ZZ (Zm Zp (YW (ZO hr) (pv 0) (pv 5) (fun _ _=>rfl)) Zf (fun _ _=>rfl)) (Zm Zp (YW (ZO hr) (pv 0) (pv 6) (fun _ _=>rfl)) Zf (fun _ _=>rfl)) (Zs _)) (Zj (Zu Zbt)) ZH))))) ZH)
   (Zl (ZE (VL (Zbc (ZO hr) (pv 8) (pv 1))) (Zj (Zu Zbt)) ZH)
   (Zl (Xg (ZO hr) (pv 1) (pv 8) Xc rfl)
   (Zj (Zu (pv 9)))))))))))),?_⟩
 have c18:VV 10 18:=⟨by decide,by decide,by decide⟩;have c6:VV 10 6:=⟨by decide,by decide,by decide⟩;have eD:X2 ps=(ps.map fun p=>(p.1,V.ref p.2.1)).map (fun p=>((.inr p.1:Zi),p.2)):=by rw [QH];rfl
 have en:((ps.map fun p:Pp=>(p.1,V.ref p.2.1)).map (·.1))=ps.map (·.1):=by rw [QH];rfl
 refine ⟨_,rfl,D,ps.map fun p=>(p.1,V.ref p.2.1),rfl,by rw [←eD];exact hP.d,by rw [Qd];omega,fun L nL=>?_⟩;rw [en];have s1:=Zk (o:=.lst ((ps.map (·.1)).map V.str)) nL;have hL:Zb H L (.lst ((ps.map (·.1)).map V.str)) L=some (.lst ((ps.map (·.1)).map V.str)):=Ze;dsimp only [Z7];generalize Zb H L (.lst ((ps.map (·.1)).map V.str))=H1 at *;have hPd:=s1 _ _ hP.d;have hPt:∀p∈ps,SqT K H1 p.2.1 [.str p.2.2.1,.int p.2.2.2]:=fun p hp=>s1.sqt (hP.t p hp);have hK1:=s1 _ _ hK;have el:(((ps.map (·.1)).map V.str).length:Int)=(ps.length:Int):=by rw [Qd,Qd]
 obtain ⟨p,hp,r,hr',ne,a1,a2⟩:=Zj3 hP.nd p2 c;refine ⟨_,rfl,_,rfl,_,rfl,L,_,rfl,.inl (.of hL),_,_,rfl,rfl,(by omega),L,_,_,_,rfl,rfl,.of hL,a1,?_⟩;refine ⟨_,rfl,_,rfl,_,_,rfl,rfl,_,rfl,_,_,rfl,rfl,⟨by decide,Xu (by decide) (by decide)⟩,_,rfl,L,_,rfl,.inl (.of hL),_,_,rfl,rfl,_,_,rfl,rfl,(by omega),_,_,rfl,rfl,_,rfl,L,_,rfl,.inl (.of hL),_,_,rfl,rfl,(by omega),L,_,_,_,rfl,rfl,.of hL,a2,?_⟩;dsimp only [Z7];refine Y1 (fun σ Hx=>H1=Hx∧∃day,TwoOk ps p r day∧σ=[some (.ref D),some (.ref Dk),some (.int c),some (.int kd),some (.ref L),some (.str p.1),some (.str r.1),some (.int day),none,none]) (fun nx rest=>?_) ?_
 ·refine ⟨_,_,rfl,rfl,c18,_,rfl,_,rfl,D,_,rfl,PpAt.get hP.nd (.inl hPd) hp,_,_,_,_,rfl,rfl,hPt _ hp,Zh (j:=1) rfl,_,rfl,_,rfl,D,_,rfl,PpAt.get hP.nd (.inl hPd) hr',_,_,_,_,rfl,rfl,hPt _ hr',Zh (j:=1) rfl,_,_,rfl,_,rfl,_,_,rfl,rfl,⟨by decide,Xu (by decide) (by decide)⟩,_,_,rfl,rfl,c6,_,_,rfl,rfl,YT (by decide),_,_,rfl,rfl,_,_,rfl,rest _ _ ⟨rfl,_,?Zr,rfl⟩⟩;have x0:=QZ (c.fdiv 600) (show (0:Int)<10 ^ (6:Int).toNat by decide);have d1:=pd p hp;have d2:=pd r hr';have e18:(10:Int) ^ (18:Int).toNat=10 ^ 18:=rfl;rw [e18];generalize (c.fdiv 600).fmod (10 ^ (6:Int).toNat)=x at *;refine ⟨hp,hr',ne,?_,?_,?_,?_⟩<;>(repeat' split)<;>omega
 rintro σ _ ⟨rfl,day,Zr,rfl⟩;refine ⟨_,rfl,_,rfl,_,_,rfl,_,rfl,_,rfl,_,_,rfl,_,rfl,few rfl,fun ak nak=>?_⟩;rw [Zb1,Zc2];dsimp only [Z7];have s3:=Zk (o:=.tup [.str "tie",.str (Zd p.1 r.1).1,.str (Zd p.1 r.1).2,.int day]) nak;have hak:Zb H1 ak (.tup [.str "tie",.str (Zd p.1 r.1).1,.str (Zd p.1 r.1).2,.int day]) ak=some (.tup [.str "tie",.str (Zd p.1 r.1).1,.str (Zd p.1 r.1).2,.int day]):=Ze;generalize Zb H1 ak (.tup [.str "tie",.str (Zd p.1 r.1).1,.str (Zd p.1 r.1).2,.int day])=H3 at *;have s13:=s1.trans s3
 let JK:St->Hp->Prop:=fun σ Hx=>Same H Hx∧∃p r day ak ae e,TwoOk ps p r day∧DeedF ps e∧Hx ak=some (.tup (e.told.key.map kV))∧SqT K Hx ae (e.row.map kV)∧H ae=none∧σ=[some (.ref D),some (.ref Dk),some (.int c),some (.int kd),some (.ref L),some (.str p.1),some (.str r.1),some (.int day),some (.ref ak),some (.ref ae)]
 refine Y1 JK (fun nx rest=>?_) ?_
 ·refine ⟨few rfl,fun lu nlu=>⟨_,rfl,_,_,rfl,rfl,.inr ⟨_,rfl,lu,_,_,_,rfl,rfl,.of Ze,Znt _,_,rfl,_,rfl,_,rfl,few rfl,fun ae nae=>rest _ _ ⟨?_,p,r,day,ak,ae,_,Zr,Zr.tie (decide (7<kd)),?_,?_,?_,rfl⟩⟩⟩⟩
  ·exact (s13.trans (Zk nlu)).trans (Zk nae)
  ·rw [Znf,Zg (fun z=>by rw [←z] at nae;exact absurd ((Zk nlu) _ _ hak) (by rw [nae];simp)),Zg (ZV hak nlu)];exact hak
  ·rw [Zmm];exact .of Ze
  ·exact ZP (s13.trans (Zk nlu)) nae
 rintro σ H4 ⟨s4,p,r,day,ak,ae,e,Zr,de,hka,hea,nae,rfl⟩
 try dsimp only [JK]
 refine Y1 JK (fun nx rest=>?_) ?_
 ·refine ⟨_,rfl,rfl,_,rfl,Yo (fun h1=>?_) (fun h1=>?_)⟩
  ·have hPd4:=s4 _ _ hP.d;have hPt4:∀p∈ps,SqT K H4 p.2.1 [.str p.2.2.1,.int p.2.2.2]:=fun p hp=>s4.sqt (hP.t p hp);refine Y1 (fun σ Hx=>H4=Hx∧∃p r,TwoOk ps p r day∧r.2.2.2≤p.2.2.2∧σ=[some (.ref D),some (.ref Dk),some (.int c),some (.int kd),some (.ref L),some (.str p.1),some (.str r.1),some (.int day),some (.ref ak),some (.ref ae)]) (fun nx' rest'=>?_) ?_
   ·refine ⟨_,rfl,_,rfl,D,_,rfl,PpAt.get hP.nd (.inl hPd4) Zr.ip,_,_,_,_,rfl,rfl,hPt4 _ Zr.ip,Zh (j:=1) rfl,_,rfl,_,rfl,D,_,rfl,PpAt.get hP.nd (.inl hPd4) Zr.iq,_,_,_,_,rfl,rfl,hPt4 _ Zr.iq,Zh (j:=1) rfl,_,_,rfl,rfl,_,rfl,Yo (fun h2=>?_) (fun h2=>?_)⟩
    ·exact ⟨_,rfl,_,rfl,_,_,rfl,rest' _ _ ⟨rfl,r,p,Zr.swap,Int.le_of_lt (QM h2),rfl⟩⟩
    ·exact rest' _ _ ⟨rfl,p,r,Zr,Int.not_lt.mp (Rr h2),rfl⟩
   rintro σ _ ⟨rfl,p,r,Zr,le,rfl⟩;refine ⟨_,rfl,_,rfl,few rfl,fun ak2 nak2=>⟨_,rfl,_,rfl,_,rfl,few rfl,fun ae2 nae2=>?_⟩⟩;have s5:=(Zk (o:=.tup [.str "taken",.str p.1,.str r.1]) nak2).trans (Zk (o:=.tup [.str "taken",.str p.1,.str r.1,.int day]) nae2);have hk5:Zb (Zb H4 ak2 (.tup [.str "taken",.str p.1,.str r.1])) ae2 (.tup [.str "taken",.str p.1,.str r.1,.int day]) ak2=some (.tup [.str "taken",.str p.1,.str r.1]):=by rw [Zg (ZV Ze nae2),Ze]
   have he5:Zb (Zb H4 ak2 (.tup [.str "taken",.str p.1,.str r.1])) ae2 (.tup [.str "taken",.str p.1,.str r.1,.int day]) ae2=some (.tup [.str "taken",.str p.1,.str r.1,.int day]):=Ze;have n5:H ae2=none:=ZP (s4.trans (Zk nak2)) nae2;dsimp only [Z7];generalize Zb (Zb H4 ak2 (.tup [.str "taken",.str p.1,.str r.1])) ae2 (.tup [.str "taken",.str p.1,.str r.1,.int day])=H5 at *;have s45:=s4.trans s5;have hPd5:=s45 _ _ hP.d;have hPt5:∀p∈ps,SqT K H5 p.2.1 [.str p.2.2.1,.int p.2.2.2]:=fun p hp=>s45.sqt (hP.t p hp);refine ⟨_,rfl,_,rfl,D,_,rfl,PpAt.get hP.nd (.inl hPd5) Zr.ip,_,_,_,_,rfl,rfl,hPt5 _ Zr.ip,Zh (j:=1) rfl,_,rfl,_,rfl,D,_,rfl,PpAt.get hP.nd (.inl hPd5) Zr.iq,_,_,_,_,rfl,rfl,hPt5 _ Zr.iq,Zh (j:=1) rfl,rfl,_,rfl,Yo (fun h2=>?_) (fun h2=>?_)⟩
   ·exact qn _ s45
   ·have nd:p.2.2.2≠r.2.2.2:=fun z=>by rw [z] at h2;exact absurd h2 (by simp)
    exact rest _ _ ⟨s45,p,r,day,ak2,ae2,_,Zr,Zr.taken hP.nd (by omega),hk5,.of he5,n5,rfl⟩
  ·exact rest _ _ ⟨s4,p,r,day,ak,ae,e,Zr,de,hka,hea,nae,rfl⟩
 rintro σ H6 ⟨s6,p,r,day,ak,ae,e,Zr,de,hka,hea,nae,rfl⟩;have hK6:=s6 _ _ hK;refine ⟨_,rfl,_,rfl,Dk,_,rfl,DGet.t hK6 hka,_,rfl,?_⟩;by_cases mem:e.told.key∈kn
 ·rw [Zjj mem];exact Z0 (qn _ s6)
 ·rw [Zhm mem];refine ZS ⟨_,rfl,_,rfl,Dk,_,rfl,DPut.t (k:=e.told.key) hK6 hka (Zy (by rw [Qd];omega)),?_⟩;rw [VE _ (Zhm mem)];refine ⟨_,rfl,q _ ae e (fun b u nb hb=>by rw [Zg nb];exact s6 _ _ hb) nae ?_ ?_ mem de⟩
  ·exact YI hea hK6 (fun _ z=>by cases z) (fun _ _ z=>by cases z)
  ·rw [Ze];unfold Vm;rw [Qm];rfl
theorem ZiO (T:Tx K w mg) (Vx:ZdE P base T) (Zds:Zh7 P base T) (Zcy:Zfu P base T) (ZcI:Zia P base T) (ZeO:Zg4 P base T):ZgG P base T:=by
 refine Fun.okX (k:=1) T.Zbg.F WG (fun vs H Q E h=>h.1) (fun cdv A outer s H vs Q E hr h=>?_);obtain ⟨-,h⟩:=h;obtain ⟨l,ss,rfl,hl,l63,q⟩:=h
 refine ⟨_,(Zl (ZG (i:=3) WG.nd rfl (Or.inl rfl) (ZW Zds hr Zz (Za (ZW Vx hr Zz (Za (pv 0) (Za Zf Zc))) Zc)))
   (Zl (ZG (i:=4) WG.nd rfl (Or.inl rfl) X9)
   (Zl (ZG (i:=5) WG.nd rfl (Or.inl rfl) V4)
   (Zl (ZG (i:=6) WG.nd rfl (Or.inl rfl) (Yk Zc))
   (Zl (Yr QI rfl (Zmz (by rfl) T.n_range (Za (pv 1) (Za (ZQ (ZhJ rfl) (by rfl) T.n_min JW (Za (ZQ YO (by rfl) T.n_len Ye (Za (pv 0) Zc)) (Za Zf Zc))) (Za Zf Zc)))) (ZT (i:=7) WG.nd rfl (Or.inl rfl))
    (Zl (ZG (i:=8) WG.nd rfl (Or.inl rfl) (Zv Wm (Zm YG (pv 0) (pv 7) (fun _ _=>rfl)) Zf))
   (Zl (ZG (i:=9) WG.nd rfl (Or.inl rfl) (Zv Yq (Zm YG (pv 0) (pv 7) (fun _ _=>rfl)) Zf))
   (Zl (ZE (PW.pt (XF (ZB Wg (ZQ Zak (by rfl) T.n_len Ye (Za (pv 4) Zc)) Zf (Zs _)) (XR (PW.pt (VW (ZB Wg (pv 9) Zf (Zs _)) (VZ (ZB Wg (ZQ Zak (by rfl) T.n_len Ye (Za (pv 4) Zc)) (pv 2) (Zs _)))))))) (Zl (ZG (i:=10) WG.nd rfl (Or.inl rfl) (ZW ZcI hr Zz (Za (pv 4) (Za (pv 3) (Za (pv 8) (Za (ZW Zcy hr Zz (Za (pv 8) (Za (pv 7) (Za (Zv Yq (ZW Vx hr Zz (Za (pv 0) (Za Zf Zc))) Zf) Zc)))) Zc))))))
   (Zj (Xg (ZO hr) (pv 4) (Zm Zp (pv 10) Zf (fun _ _=>rfl)) (Z8 (Za (Zm Zp (pv 10) Zf (fun _ _=>rfl)) (Za (Zm Zp (pv 10) Zf (fun _ _=>rfl)) Zc))) rfl))) (Zj (ZG (i:=10) WG.nd rfl (Or.inl rfl) (ZW ZeO hr Zz (Za (pv 4) (Za (pv 5) (Za (pv 8) (Za (pv 9) Zc))))))))
   (Zj (ZE (ZB ZoO (pv 10) Zbt (Zs _)) (Zj (Yv (XQ R3 Gn Go VB (pv 6) (Za (pv 10) Zc)))) ZH))))))
   (Zj (Zu (pv 6)))))))),?_⟩
 refine ⟨_,rfl,rfl,l,ss,0,rfl,hl,by decide,fun z0=>⟨rfl,z0,rfl,fun H1 Ln ns s1 nLn hLn N=>?_⟩⟩;refine fun D nD=>fun Dk nDk=>⟨few rfl,fun Le nLe=>?_⟩;have eD:=Zk (o:=.dK []) nD;have eDk:=Zk (o:=.dT []) nDk;have eLe:=Zk (o:=.lst []) nLe;have nDH:=ZP s1 nD;have nDkH:=ZP (s1.trans eD) nDk;have nLeH:=ZP ((s1.trans eD).trans eDk) nLe;have DkD:Dk≠D:=fun z=>by rw [z,Ze] at nDk;cases nDk
 have LeDk:Le≠Dk:=fun z=>by rw [z,Ze] at nLe;cases nLe
 have LeD:Le≠D:=fun z=>by rw [z,Zg DkD.symm,Ze] at nLe;cases nLe
 have LnD:Ln≠D:=ZV hLn nD;have DkLn:Dk≠Ln:=fun z=>by rw [z,Zg LnD] at nDk;rw [nDk] at hLn;cases hLn
 have LeLn:Le≠Ln:=fun z=>by rw [z,eDk _ _ (eD _ _ hLn)] at nLe;cases nLe
 have ln:(ss.map V.int).length=ss.length:=Qd ..;have s4:=((s1.trans eD).trans eDk).trans eLe;refine ⟨_,rfl,_,rfl,l,_,rfl,.inl (s4.sql hl),_,_,rfl,3,_,2,rfl,⟨by omega,by omega,by split<;>omega,by split<;>omega,by decide,by decide⟩,fun nn hn n1=>ZpT (lo:=3) (c:=2) (fun i σ Hc=>∃(ks:List (Ent×Addr)) (ps:List Pp) (kn:List (List Zi)) (v6 v7 v8 v9:Option V),σ=[some (.ref l),some (.int 3),some (.int 10),some (.ref Ln),some (.ref D),some (.ref Dk),some (.ref Le),v6,v7,v8,v9]∧Same H Hc∧Hc Ln=some (.lst (ns.map V.str))∧PpAt K Hc D ps∧Hc Dk=some (.dT (Vm kn))∧Hc Le=some (.lst (X0 ks))∧JU K Hc ks∧EI ns (ks.map (·.1)) ps kn∧ks.length≤i) ⟨[],[],[],_,_,_,_,rfl,s4,eLe _ _ (eDk _ _ (eD _ _ hLn)),⟨by rw [Zg LeD.symm,Zg DkD.symm];exact Ze,fun p hp=>(by cases hp),.nil⟩,by rw [Zg LeDk.symm];exact Ze,Ze,fun p hp=>(by cases hp),EI.start,Qe _⟩ ?turn ?done⟩
 case done =>
  rintro σ Hc ⟨ks,ps,kn,v6,v7,v8,v9,rfl,sc,hLnc,hP,hK,hLe,hR,ei,kl⟩;refine ⟨_,rfl,q _ Le ks ns sc nLeH hLe hR N ei.good ?_⟩;rcases Nn 21 nn with h|h
  ·have:=hn 21 h;split at this<;>omega
  ·omega
 case turn =>
  rintro i σ Hc hi ⟨ks,ps,kn,v6,v7,v8,v9,rfl,sc,hLnc,hP,hK,hLe,hR,ei,kl⟩
  have hb:3+i*2<ss.length∧i<21:=by
   have:=hn i hi;rw [ln] at this;split at this<;>omega
  have ek:(3:Int)+(i:Int)*((2:Nat):Int)=((3+i*2:Nat):Int):=by omega
  rw [ek];have atk:Ym (ss.map V.int) ((3+i*2:Nat):Int)=some (.int ss[3+i*2]):=Xq (by rw [Qp,Qw hb.1];rfl);refine ⟨_,rfl,_,rfl,l,_,_,_,rfl,rfl,sc.sql hl,atk,_,_,rfl,rfl,⟨by decide,Xu (by decide) (by decide)⟩,_,rfl,_,rfl,l,_,_,_,rfl,rfl,sc.sql hl,atk,_,_,rfl,rfl,YT (by decide),?_⟩;dsimp only [Z7];refine Y1 (fun σ Hx=>Same H Hx∧Hx Ln=some (.lst (ns.map V.str))∧∃(ps:List Pp) (kn:List (List Zi)) (v9:V),PpAt K Hx D ps∧Hx Dk=some (.dT (Vm kn))∧Hx Le=some (.lst (X0 ks))∧JU K Hx ks∧σ=[some (.ref l),some (.int 3),some (.int 10),some (.ref Ln),some (.ref D),some (.ref Dk),some (.ref Le),some (.int ((3+i*2:Nat):Int)),some (.int (ss[3+i*2].fdiv 9)),some (.int (ss[3+i*2].fmod 9)),some v9]∧((v9=.non∧EI ns (ks.map (·.1)) ps kn)∨∃a e,v9=.ref a∧SqT K Hx a (e.row.map kV)∧EI ns (ks.map (·.1)++[e]) ps kn)) (fun nx rest=>?_) ?_
  ·have pl:((X2 ps).length:Int)=(ps.length:Int):=by rw [Qd]
   refine ⟨_,rfl,D,_,rfl,hP.d,_,_,rfl,rfl,_,rfl,Yo (fun h1=>?b1) (fun h1=>⟨_,rfl,_,_,rfl,rfl,_,rfl,Yo (fun h2=>⟨_,rfl,D,_,rfl,hP.d,_,rfl,_,_,rfl,rfl,_,rfl,Yo (fun h3=>?b2) (fun h3=>?d1)⟩) (fun h2=>?d2)⟩)⟩
   case b1 =>
    have l24:ps.length<24:=by have:=QM h1;omega
    refine ⟨_,rfl,_,rfl,_,rfl,_,rfl,_,rfl,_,rfl,rfl,l,ss,1,rfl,sc.sql hl,by decide,fun z=>⟨_,_,rfl,rfl,YT (by decide),rfl,_,_,_,rfl,by omega,by omega,fun d d1 d2=>⟨rfl,D,Ln,_,d,ps,ns,rfl,hP,.of hLnc,N.len,l24,fun H5 a n s f m s5 na ha hn hs hf hm=>?_⟩⟩⟩;refine ⟨_,rfl,a,_,_,_,rfl,rfl,ha,Zh (j:=2) rfl,_,rfl,a,_,_,_,rfl,rfl,ha,Zh (j:=3) rfl,few rfl,fun at' nat=>?_⟩;have s6:=s5.trans (Zk (o:=.tup [.str s,.int d]) nat);have hD6:=s6 _ _ hP.d
    have nin:n∉ps.map (·.1):=fun z=>by
     have nd':(ns.take (ps.length+1)).Nodup:=N.nd.sublist (RQ ..);rw [Q8,hn,←ei.nm] at nd';exact (QY.mp nd').2.2 n z n (by simp) rfl
    refine ⟨_,rfl,_,rfl,a,_,_,_,rfl,rfl,(Zk nat).sqt ha,Zh (j:=1) rfl,D,_,rfl,DPut.k (k:=.inr n) hD6 (Zy (by rw [Qd];omega)),?_⟩;rw [Zil (s:=s) (d:=d) nin];have ei':=ei.birth N (a:=at') hn l24 hs hf hm d1 d2;have pt:∀{c:Addr} {xs:List V},SqT K (Zb H5 at' (.tup [.str s,.int d])) c xs->SqT K (Zb (Zb H5 at' (.tup [.str s,.int d])) D (.dK (X2 (ps++[(n,at',s,d)])))) c xs:=fun h=>YI h hD6 (fun _ z=>by cases z) (fun _ _ z=>by cases z);refine rest _ _ ⟨fun c u e=>by rw [Zg (fun z=>by rw [z,nDH] at e;cases e)];exact s6 _ _ (sc _ _ e),by rw [Zg LnD];exact s6 _ _ hLnc,_,kn,_,⟨Ze,fun p hp=>?_,ei'.nd N⟩,by rw [Zg DkD];exact s6 _ _ hK,by rw [Zg LeD];exact s6 _ _ hLe,fun p hp=>pt (s6.sqt (hR p hp)),rfl,.inr ⟨a,_,rfl,pt ((Zk nat).sqt ha),ei'⟩⟩;rcases Qq.mp hp with hp|hp
    ·exact pt (s6.sqt (hP.t p hp))
    ·rw [show p=(n,at',s,d) by simpa using hp];exact pt (.of Ze)
   case b2 =>
    have l24:ps.length<24:=by have:=QM h3;omega
    refine ⟨_,rfl,_,rfl,_,rfl,_,rfl,_,rfl,_,rfl,rfl,l,ss,1,rfl,sc.sql hl,by decide,fun z=>⟨_,_,rfl,rfl,YT (by decide),rfl,_,_,_,rfl,by omega,by omega,fun d d1 d2=>⟨rfl,D,Ln,_,d,ps,ns,rfl,hP,.of hLnc,N.len,l24,fun H5 a n s f m s5 na ha hn hs hf hm=>?_⟩⟩⟩;refine ⟨_,rfl,a,_,_,_,rfl,rfl,ha,Zh (j:=2) rfl,_,rfl,a,_,_,_,rfl,rfl,ha,Zh (j:=3) rfl,few rfl,fun at' nat=>?_⟩;have s6:=s5.trans (Zk (o:=.tup [.str s,.int d]) nat);have hD6:=s6 _ _ hP.d
    have nin:n∉ps.map (·.1):=fun z=>by
     have nd':(ns.take (ps.length+1)).Nodup:=N.nd.sublist (RQ ..);rw [Q8,hn,←ei.nm] at nd';exact (QY.mp nd').2.2 n z n (by simp) rfl
    refine ⟨_,rfl,_,rfl,a,_,_,_,rfl,rfl,(Zk nat).sqt ha,Zh (j:=1) rfl,D,_,rfl,DPut.k (k:=.inr n) hD6 (Zy (by rw [Qd];omega)),?_⟩;rw [Zil (s:=s) (d:=d) nin];have ei':=ei.birth N (a:=at') hn l24 hs hf hm d1 d2;have pt:∀{c:Addr} {xs:List V},SqT K (Zb H5 at' (.tup [.str s,.int d])) c xs->SqT K (Zb (Zb H5 at' (.tup [.str s,.int d])) D (.dK (X2 (ps++[(n,at',s,d)])))) c xs:=fun h=>YI h hD6 (fun _ z=>by cases z) (fun _ _ z=>by cases z);refine rest _ _ ⟨fun c u e=>by rw [Zg (fun z=>by rw [z,nDH] at e;cases e)];exact s6 _ _ (sc _ _ e),by rw [Zg LnD];exact s6 _ _ hLnc,_,kn,_,⟨Ze,fun p hp=>?_,ei'.nd N⟩,by rw [Zg DkD];exact s6 _ _ hK,by rw [Zg LeD];exact s6 _ _ hLe,fun p hp=>pt (s6.sqt (hR p hp)),rfl,.inr ⟨a,_,rfl,pt ((Zk nat).sqt ha),ei'⟩⟩;rcases Qq.mp hp with hp|hp
    ·exact pt (s6.sqt (hP.t p hp))
    ·rw [show p=(n,at',s,d) by simpa using hp];exact pt (.of Ze)
   case d1 =>
    have p2:2≤ps.length:=by have:=Rr h1;omega
    refine ⟨_,rfl,_,rfl,_,rfl,_,rfl,rfl,D,Dk,_,_,ps,kn,rfl,hP,hK,p2,ei.len,by have:=ei.knl;rw [Qd] at this;omega,ei.ok,ei.pd,fun H5 s5=>rest _ _ ⟨sc.trans s5,s5 _ _ hLnc,ps,kn,_,hP.mono s5,s5 _ _ hK,s5 _ _ hLe,fun p hp=>s5.sqt (hR p hp),rfl,.inl ⟨rfl,ei⟩⟩,fun H5 a e fr na ha hK5 nk de=>rest _ _ ⟨fun c u e=>fr _ _ (fun z=>by rw [z,nDkH] at e;cases e) (sc _ _ e),fr _ _ DkLn.symm hLnc,ps,kn++[e.told.key],_,⟨fr _ _ DkD.symm hP.d,fun p hp=>ZaM fr hK (hP.t p hp),hP.nd⟩,hK5,fr _ _ LeDk hLe,fun p hp=>ZaM fr hK (hR p hp),rfl,.inr ⟨a,e,rfl,ha,ei.deed N de nk⟩⟩⟩
   case d2 =>
    have p2:2≤ps.length:=by have:=Rr h1;omega
    refine ⟨_,rfl,_,rfl,_,rfl,_,rfl,rfl,D,Dk,_,_,ps,kn,rfl,hP,hK,p2,ei.len,by have:=ei.knl;rw [Qd] at this;omega,ei.ok,ei.pd,fun H5 s5=>rest _ _ ⟨sc.trans s5,s5 _ _ hLnc,ps,kn,_,hP.mono s5,s5 _ _ hK,s5 _ _ hLe,fun p hp=>s5.sqt (hR p hp),rfl,.inl ⟨rfl,ei⟩⟩,fun H5 a e fr na ha hK5 nk de=>rest _ _ ⟨fun c u e=>fr _ _ (fun z=>by rw [z,nDkH] at e;cases e) (sc _ _ e),fr _ _ DkLn.symm hLnc,ps,kn++[e.told.key],_,⟨fr _ _ DkD.symm hP.d,fun p hp=>ZaM fr hK (hP.t p hp),hP.nd⟩,hK5,fr _ _ LeDk hLe,fun p hp=>ZaM fr hK (hR p hp),rfl,.inr ⟨a,e,rfl,ha,ei.deed N de nk⟩⟩⟩
  ·rintro σ Hx ⟨sx,hLnx,ps,kn,v9,hP,hK,hLe,hR,rfl,hv⟩;rcases hv with ⟨rfl,ei⟩|⟨a,e,rfl,ha,ei⟩
   ·exact ⟨_,rfl,rfl,_,rfl,Zt (by rfl) ⟨ks,ps,kn,_,_,_,_,rfl,sx,hLnx,hP,hK,hLe,hR,ei,by omega⟩⟩
   ·refine ⟨_,rfl,rfl,_,rfl,Z4 (by rfl) ⟨_,rfl,.inl ⟨rfl,_,.of hLe⟩,_,rfl,Le,_,_,rfl,rfl,hLe,Zy (by rw [Zar];omega),ks++[(e,a)],ps,kn,_,_,_,_,rfl,fun c u e=>by rw [Zg (fun z=>by rw [z,nLeH] at e;cases e)];exact sx _ _ e,?_,⟨?_,fun p hp=>?_,hP.nd⟩,?_,?_,fun p hp=>?_,?_,?_⟩⟩
    ·rw [Zg LeLn.symm];exact hLnx
    ·rw [Zg LeD.symm];exact hP.d
    ·exact YI (hP.t p hp) hLe (fun _ z=>by cases z) (fun _ _ z=>by cases z)
    ·rw [Zg LeDk.symm];exact hK
    ·rw [Ze,ZkY]
    ·rcases Qq.mp hp with hp|hp
     ·exact YI (hR p hp) hLe (fun _ z=>by cases z) (fun _ _ z=>by cases z)
     ·rw [show p=(e,a) by simpa using hp];exact YI ha hLe (fun _ z=>by cases z) (fun _ _ z=>by cases z)
    ·rw [Qm];exact ei
    ·rw [Qv];exact NR kl
theorem ZnX (T:Tx K w mg)  : Zh8 P base T:=by
 refine Fun.okX (k:=0) T.ZaG.F ZnF (fun vs H Q E h=>h.1) (fun cdv A outer s H vs Q E hr h=>?_);obtain ⟨-,h⟩:=h;obtain ⟨D,L,lo,hi,ed,n,rfl,hE,hb,n5,hL,q⟩:=h
 refine ⟨_,(Zl (Yv (XQ R3 Gn Go VB (J4 (ZO hr) (pv 0) (Z8 (Za (pv 1) (Za (pv 2) Zc))) (Yk Zc) ⟨rfl,rfl,rfl,rfl⟩) (Za (pv 3) Zc)))
   (Zj (Yv (XQ R3 Gn Go VB (J4 (ZO hr) (pv 0) (Z8 (Za (ZgM K RL PySem.F.slot_str_lower PySem.F.type_str_lower ZoN (pv 1)) (Za (pv 3) Zc))) (Yk Zc) ⟨rfl,rfl,rfl,rfl⟩) (Za (pv 2) Zc))))),?_⟩
 refine Y1 (fun σ Hx=>σ=[some (.ref D),some (.str L),some (.str lo),some (.str hi)]∧UA D ed n (L,lo) hi H Hx) (fun nx rest=>?_) ?_
 ·refine ⟨_,rfl,D,rfl,.inr ⟨_,.inl hE.d⟩,_,rfl,_,rfl,few rfl,fun t nt=>⟨few rfl,fun z nz=>?_⟩⟩;have st:=Zk (o:=.tup [.str ((L,lo):Str×Str).1,.str ((L,lo):Str×Str).2]) nt;have sz:=Zk (o:=.lst []) nz;obtain ⟨hD2,ln2,old,new⟩:=ZaU (c:=((L,lo):Str×Str)) (x:=hi) hE hb (by omega) (st.trans sz) (ZP st nz) Ze;refine ⟨Xr ed,Zr ((L,lo):Str×Str),t,hD2,rfl,sz _ _ Ze,ln2,fun v hv=>?_,fun hv=>?_⟩
  ·obtain ⟨b,xs,rfl,hb2,lx,add⟩:=old v hv;exact ⟨.inl ⟨rfl,_,.of hb2⟩,_,rfl,b,_,_,rfl,rfl,hb2,lx,rest _ _ ⟨rfl,add⟩⟩
  ·obtain ⟨hz3,add⟩:=new hv;exact ⟨.inl ⟨rfl,_,.of hz3⟩,_,rfl,z,_,_,rfl,rfl,hz3,Zy (by simp),rest _ _ ⟨rfl,add⟩⟩
 rintro σ H1 ⟨rfl,ed1,hE1,hb1,lk1,fr1⟩;have ll:L.length≤1000:=by rcases hL with rfl|rfl|rfl<;>trivial
 have fin:∀H',UA D ed1 (n+1) (Zbw L,hi) lo H1 H'->Q .non H':=fun H' ⟨ed2,hE2,hb2,lk2,fr2⟩=>q H' ed2 hE2 hb2 (fun c=>by rw [lk2,show lk ed1=ZY (lk ed) (L,lo) hi from funext lk1]) (fr1.trans fr2);refine ⟨_,rfl,D,rfl,.inr ⟨_,.inl hE1.d⟩,_,rfl,rfl,L,rfl,rfl,ll,_,rfl,few rfl,fun t nt=>⟨few rfl,fun z nz=>?_⟩⟩;have st:=Zk (o:=.tup [.str ((Txt.lower L,hi):Str×Str).1,.str ((Txt.lower L,hi):Str×Str).2]) nt;have sz:=Zk (o:=.lst []) nz;obtain ⟨hD2,ln2,old,new⟩:=ZaU (c:=((Txt.lower L,hi):Str×Str)) (x:=lo) hE1 hb1 (by omega) (st.trans sz) (ZP st nz) Ze;refine ⟨Xr ed1,Zr ((Txt.lower L,hi):Str×Str),t,hD2,rfl,sz _ _ Ze,ln2,fun v hv=>?_,fun hv=>?_⟩
 ·obtain ⟨b,xs,rfl,hb2,lx,add⟩:=old v hv;exact ⟨.inl ⟨rfl,_,.of hb2⟩,_,rfl,b,_,_,rfl,rfl,hb2,lx,fin _ (by rw [←Zf0 hL];exact add)⟩
 ·obtain ⟨hz3,add⟩:=new hv;exact ⟨.inl ⟨rfl,_,.of hz3⟩,_,rfl,z,_,_,rfl,rfl,hz3,Zy (by simp),fin _ (by rw [←Zf0 hL];exact add)⟩
theorem Zqt (T:Tx K w mg) (ZaJ:Zh8 P base T):Zfq P base T:=by
 refine Fun.okX (k:=1) T.Zbh.F WN (fun vs H Q E h=>h.1) (fun cdv A outer s H vs Q E hr h=>?_);obtain ⟨-,h⟩:=h;obtain ⟨Le,ks,ns,rfl,hLe,hR,gd,l40,q⟩:=h
 refine ⟨_,(Zl (ZG (i:=1) WN.nd rfl (Or.inl rfl) V4)
   (Zl (ZG (i:=2) WN.nd rfl (Or.inl rfl) V4)
   (Zl (Yr QI rfl (Yz (pv 0)) (ZT (i:=3) WN.nd rfl (Or.inl rfl))
    (Zl (ZE (ZB ZZ (Zm Zp (pv 3) Zf (fun _ _=>rfl)) Zn (Zs _)) (Zl (Xg (ZO hr) (pv 1) (Z8 (Za (Zm Zp (pv 3) Zf (fun _ _=>rfl)) (Za (Zm Zp (pv 3) Zf (fun _ _=>rfl)) Zc))) (Yk (Za (Zm Zp (pv 3) Zf (fun _ _=>rfl)) Zc)) rfl)
   (Zj (Yr QI rfl (Yz (Yk (Za (Z8 (Za Zn (Za (Zm Zp (pv 3) Zf (fun _ _=>rfl)) Zc))) (Za (Z8 (Za Zn (Za (Zm Zp (pv 3) Zf (fun _ _=>rfl)) Zc))) Zc)))) (Jz rfl (WJ (ZT (i:=4) WN.nd rfl (Or.inl rfl)) (WJ (ZT (i:=5) WN.nd rfl (Or.inl rfl)) JX)))
    (Zj (ZE (ZB Wy (pv 5) Zn (Zs _)) (Zj (Yv (ZW ZaJ hr Zz (Za (pv 1) (Za (pv 4) (Za (Zm Zp (pv 3) Zf (fun _ _=>rfl)) (Za (pv 5) Zc))))))) ZH))))) ZH)
   (Zl (ZE (ZB ZZ (Zm Zp (pv 3) Zf (fun _ _=>rfl)) Zn (Zs _)) (Zj (Yv (ZW ZaJ hr Zz (Za (pv 1) (Za Zn (Za (Zm Zp (pv 3) Zf (fun _ _=>rfl)) (Za (Zm Zp (pv 3) Zf (fun _ _=>rfl)) Zc))))))) ZH)
   (Zj (ZE (PW.pt (XF (ZB ZZ (Zm Zp (pv 3) Zf (fun _ _=>rfl)) Zn (Zs _)) (XR (ZB ZZ (Zm Zp (pv 3) Zf (fun _ _=>rfl)) Zn (Zs _))))) (Zl (ZG (i:=6) WN.nd rfl (Or.inl rfl) (Z8 (Za (ZQ (Zc6 rfl) (by rfl) T.n_min JW (Za (Zm Zp (pv 3) Zf (fun _ _=>rfl)) (Za (Zm Zp (pv 3) Zf (fun _ _=>rfl)) Zc))) (Za (ZQ (ZdT rfl) (by rfl) T.n_max Jo (Za (Zm Zp (pv 3) Zf (fun _ _=>rfl)) (Za (Zm Zp (pv 3) Zf (fun _ _=>rfl)) Zc))) Zc))))
   (Zj (ZE (PW.pt (XF (VL (Zdk (ZO hr) (pv 6) (pv 2))) (XR (ZB Wg (Zm Zp (YW (ZO hr) (pv 2) (pv 6) (fun _ _=>rfl)) Zf (fun _ _=>rfl)) (Zm Zp (pv 3) Zf (fun _ _=>rfl)) (Zs _))))) (Zj (Xg (ZO hr) (pv 2) (pv 6) (Z8 (Za (Zm Zp (pv 3) Zf (fun _ _=>rfl)) (Za (Zm Zp (pv 3) Zf (fun _ _=>rfl)) Zc))) rfl)) ZH))) ZH)))))
   (Zl (Zlh (Yr QI rfl (ZlK (ZgM K GY PySem.F.slot_dict_items PySem.F.type_dict_items Zna (pv 2))) (Jz rfl (WJ (ZT (i:=6) WN.nd rfl (Or.inl rfl)) (WJ (ZT (i:=7) WN.nd rfl (Or.inl rfl)) JX)))
    (Zj (ZE (ZB ZZ (Zm Zp (pv 7) Zf (fun _ _=>rfl)) Zn (Zs _)) (Zl (Yv (XQ R3 Gn Go VB (J4 (ZO hr) (pv 1) (Z8 (Za Zn (Za (Zm Zp (pv 6) Zf (fun _ _=>rfl)) Zc))) (Yk Zc) ⟨rfl,rfl,rfl,rfl⟩) (Za (Zm Zp (pv 6) Zf (fun _ _=>rfl)) Zc)))
   (Zj (Yv (XQ R3 Gn Go VB (J4 (ZO hr) (pv 1) (Z8 (Za Zn (Za (Zm Zp (pv 6) Zf (fun _ _=>rfl)) Zc))) (Yk Zc) ⟨rfl,rfl,rfl,rfl⟩) (Za (Zm Zp (pv 6) Zf (fun _ _=>rfl)) Zc))))) ZH))))
   (Zj (Zu (pv 1))))))),?_⟩
 refine fun D nD=>fun Dl nDl=>?_;have eD:=Zk (o:=.dT []) nD;have eDl:=Zk (o:=.dT []) nDl;have s0:=eD.trans eDl;have nDlH:=ZP eD nDl;have DlD:Dl≠D:=fun z=>by rw [z,Ze] at nDl;cases nDl
 refine ⟨_,rfl,Le,rfl,⟨_,s0.sql hLe⟩,XN (xs:=X0 ks) (fun i σ Hc=>∃(ed:Ed) (ls:XI) (v3 v4 v5 v6 v7:Option V),σ=[some (.ref Le),some (.ref D),some (.ref Dl),v3,v4,v5,v6,v7]∧Same H Hc∧EdAt Hc D ed∧EdB ed (5*i)∧(∀c,lk ed c=Ys ((ks.take i).map (·.1)) c)∧(∀b∈ed.map (·.2.1),H b=none)∧LsAt K Hc Dl ls∧(∀c,(ZF c ls).map (·.2)=YC ((ks.take i).map (·.1)) c)∧ls.length≤i) ?start ?list ?turn ?done⟩
 case start=>exact ⟨[],[],_,_,_,_,_,rfl,s0,⟨by rw [Zg DlD.symm];exact Ze,fun q hq=>(by cases hq),.nil,.nil⟩,⟨QL _,fun q hq=>(by cases hq)⟩,fun c=>rfl,fun b hb=>(by cases hb),⟨Ze,fun q hq=>(by cases hq),.nil⟩,fun c=>rfl,Qe _⟩
 case list =>
  rintro i σ Hc _ ⟨ed,ls,v3,v4,v5,v6,v7,rfl,sc,_⟩;exact sc.sql hLe
 case turn =>
  rintro i y σ Hc hy ⟨ed,ls,v3,v4,v5,v6,v7,rfl,sc,hE,hb,hlk,hn,hl,hla,ll⟩;obtain ⟨⟨e,a⟩,hp,rfl⟩:=Zg1 hy;have il:=(QC.mp hp).1;have row:=sc.sqt (hR _ (Qy hp));have tk:(ks.take (i+1)).map (·.1)=(ks.take i).map (·.1)++[e]:=ZfO hp;by_cases et:e.tie=true
  ·obtain ⟨x,y,d,W,hr,hW,epr,ekd,edy⟩:=ZmY et;rw [hr] at row;have eS:∀f:ZN,Yp f e=f:=fun f=>ZnZ et;rcases hW with eW|eW;refine ⟨_,rfl,a,_,_,_,rfl,rfl,row,Zh (j:=0) rfl,rfl,_,rfl,Zt (by rw [eW];trivial) ⟨_,rfl,a,_,_,_,rfl,rfl,row,Zh (j:=0) rfl,rfl,_,rfl,Zt (by rw [eW];trivial) ⟨_,rfl,a,_,_,_,rfl,rfl,row,Zh (j:=0) rfl,rfl,_,rfl,Z4 (by rw [eW];trivial) ?_⟩⟩⟩
   rotate_left
   refine ⟨_,rfl,a,_,_,_,rfl,rfl,row,Zh (j:=0) rfl,rfl,_,rfl,Zt (by rw [eW];trivial) ⟨_,rfl,a,_,_,_,rfl,rfl,row,Zh (j:=0) rfl,rfl,_,rfl,Zt (by rw [eW];trivial) ⟨_,rfl,a,_,_,_,rfl,rfl,row,Zh (j:=0) rfl,rfl,_,rfl,Zt (by rw [eW];trivial) ⟨_,rfl,a,_,_,_,rfl,rfl,row,Zh (j:=0) rfl,rfl,_,rfl,Z4 (by rw [eW];trivial) ?_⟩⟩⟩⟩
   all_goals
    refine ⟨_,rfl,a,_,_,_,rfl,rfl,row,Zh (j:=1) rfl,_,rfl,a,_,_,_,rfl,rfl,row,Zh (j:=2) rfl,_,_,rfl,_,rfl,a,_,_,_,rfl,rfl,row,Zh (j:=1) rfl,_,rfl,a,_,_,_,rfl,rfl,row,Zh (j:=2) rfl,_,_,rfl,few rfl,fun tp ntp=>?_⟩;rw [Zb1,Zc2];have s1:=Zk (o:=.tup [.str (Zd x y).1,.str (Zd x y).2]) ntp;have htp:Zb Hc tp (.tup [.str (Zd x y).1,.str (Zd x y).2]) tp=some (.tup [.str (Zd x y).1,.str (Zd x y).2]):=Ze;dsimp only [Z7];generalize Zb Hc tp (.tup [.str (Zd x y).1,.str (Zd x y).2])=H1 at *;have hl1:=hl.mono s1;have row1:=s1.sqt row;have g:=DGet.t (k:=Zr (Zd x y)) hl1.d htp;rw [Zfo] at g;have lla:=hla (Zd x y);have keep:∀c,c≠Zd x y->YC ((ks.take i).map (·.1)++[e]) c=YC ((ks.take i).map (·.1)) c:=fun c nc=>by rw [ZbC];exact Qa fun z=>nc (by rw [z.2,epr])
    have put:∀(o:Option (Int×Str)),YC ((ks.take i).map (·.1)) (Zd x y)=o->(∀r,o=some r->r.1<d)->YC ((ks.take i).map (·.1)++[e]) (Zd x y)=some (d,W):=fun o ho hlt=>by
     rw [ZbC];unfold Wt;rw [Qb ⟨et,by rw [epr]⟩,ho,edy,ekd];cases o with
     |none=>rfl
     |some r=>exact Qb (hlt r rfl)
    have PUT:∀(tr:Addr) (ntr:H1 tr=none),(∀r,YC ((ks.take i).map (·.1)) (Zd x y)=some r->r.1<d)->∃(ls':XI),LsAt K (Zb (Zb H1 tr (.tup [.int d,.str W])) Dl (.dT (Yh (Xs ls) (Zr (Zd x y)) (.ref tr)))) Dl ls'∧(∀c,(ZF c ls').map (·.2)=YC ((ks.take (i+1)).map (·.1)) c)∧ls'.length≤i+1:=fun tr ntr hlt=>by
     have s2:=Zk (o:=.tup [.int d,.str W]) ntr;have hd2:=s2 _ _ hl1.d;refine ⟨Zo ls (Zd x y) (tr,d,W),⟨by rw [Ze,←ZoM],fun q hq=>?_,Zbq hl.kn⟩,fun c=>?_,Qi (XU ..) (by omega)⟩
     ·rcases JT hq with rfl|hq
      ·exact YI (.of Ze) hd2 (fun _ z=>by cases z) (fun _ _ z=>by cases z)
      ·exact YI (s2.sqt (hl1.t q hq)) hd2 (fun _ z=>by cases z) (fun _ _ z=>by cases z)
     ·rw [Zdf,tk];by_cases e:c=Zd x y
      ·subst e;rw [Qb rfl,put _ rfl hlt];rfl
      ·rw [Qa e,keep c e];exact hla c
    have FIN:∀(tr:Addr) (ntr:H1 tr=none),(∀r,YC ((ks.take i).map (·.1)) (Zd x y)=some r->r.1<d)->∃(ed:Ed) (ls1:XI) (v3 v4' v5' v6' v7':Option V),[some (.ref Le),some (.ref D),some (.ref Dl),some (.ref a),v4,v5,some (.ref tp),v7]=[some (.ref Le),some (.ref D),some (.ref Dl),v3,v4',v5',v6',v7']∧Same H (Zb (Zb H1 tr (.tup [.int d,.str W])) Dl (.dT (Yh (Xs ls) (Zr (Zd x y)) (.ref tr))))∧EdAt (Zb (Zb H1 tr (.tup [.int d,.str W])) Dl (.dT (Yh (Xs ls) (Zr (Zd x y)) (.ref tr)))) D ed∧EdB ed (5*(i+1))∧(∀c,lk ed c=Ys ((ks.take (i+1)).map (·.1)) c)∧(∀b∈ed.map (·.2.1),H b=none)∧LsAt K (Zb (Zb H1 tr (.tup [.int d,.str W])) Dl (.dT (Yh (Xs ls) (Zr (Zd x y)) (.ref tr)))) Dl ls1∧(∀c,(ZF c ls1).map (·.2)=YC ((ks.take (i+1)).map (·.1)) c)∧ls1.length≤i+1:=fun tr ntr hlt=>by
     obtain ⟨ls',h1,h2,h3⟩:=PUT tr ntr hlt;have s2:=s1.trans (Zk (o:=.tup [.int d,.str W]) ntr);have hE2:=hE.mono s2;have hd2:=s2 _ _ hl.d;refine ⟨ed,ls',_,_,_,_,_,rfl,fun c u e=>?_,⟨?_,fun q hq=>?_,hE.an,hE.kn⟩,hb.mono (by omega),fun c=>?_,hn,h1,h2,h3⟩
     ·rw [Zg (fun z=>by rw [z,nDlH] at e;cases e)];exact s2 _ _ (sc _ _ e)
     ·rw [Zg DlD.symm];exact hE2.d
     ·rw [Zg (fun z=>by have:=hE2.l q hq;rw [z,hd2] at this;cases this)];exact hE2.l q hq
     ·rw [tk,U5,eS];exact hlk c
    refine ⟨_,rfl,_,rfl,Dl,_,rfl,g,_,rfl,?_⟩;cases hf:ZF (Zd x y) ls with
    |none =>
     rw [hf] at lla;refine Z4 (by rfl) ⟨_,rfl,a,_,_,_,rfl,rfl,row1,Zh (j:=3) rfl,_,rfl,a,_,_,_,rfl,rfl,row1,Zh (j:=0) rfl,few rfl,fun tr ntr=>⟨_,rfl,_,rfl,Dl,_,rfl,DPut.t (k:=Zr (Zd x y)) ((Zk ntr) _ _ hl1.d) ((Zk ntr) _ _ htp) (Zy (by rw [Qd];omega)),FIN tr ntr (fun r hr=>by rw [←lla] at hr;cases hr)⟩⟩
    |some w =>
     obtain ⟨ar,dd,kk⟩:=w;rw [hf] at lla g;have hm:=Vf hf;refine Zt (by rfl) ⟨_,rfl,_,rfl,Dl,_,rfl,g,ar,_,_,_,rfl,rfl,hl1.t _ hm,Zh (j:=0) rfl,_,rfl,a,_,_,_,rfl,rfl,row1,Zh (j:=3) rfl,_,_,rfl,rfl,_,rfl,Yo (fun h2=>?_) (fun h2=>?_)⟩
     ·refine ⟨_,rfl,a,_,_,_,rfl,rfl,row1,Zh (j:=3) rfl,_,rfl,a,_,_,_,rfl,rfl,row1,Zh (j:=0) rfl,few rfl,fun tr ntr=>⟨_,rfl,_,rfl,Dl,_,rfl,DPut.t (k:=Zr (Zd x y)) ((Zk ntr) _ _ hl1.d) ((Zk ntr) _ _ htp) (Zy (by rw [Qd];omega)),FIN tr ntr (fun r hr=>by rw [←lla] at hr;cases hr;exact QM h2)⟩⟩
     ·refine ⟨ed,ls,_,_,_,_,_,rfl,sc.trans s1,hE.mono s1,hb.mono (by omega),fun c=>?_,hn,hl1,fun c=>?_,by omega⟩
      ·rw [tk,U5,eS];exact hlk c
      ·rw [tk,ZbC];unfold Wt;by_cases e:c=Zd x y
       ·subst e;rw [Qb ⟨et,by rw [epr]⟩,←lla,edy,ekd];show _=if dd<d then _ else _;rw [Qa (Rr h2),hf];rfl
       ·rw [Qa (fun z=>e (by rw [z.2,epr]))];exact hla c
  cases e with
  |dead n d =>
   refine ⟨_,rfl,a,_,_,_,rfl,rfl,row,Zh (j:=0) rfl,rfl,_,rfl,Zt (by trivial) ⟨_,rfl,a,_,_,_,rfl,rfl,row,Zh (j:=0) rfl,rfl,_,rfl,Zt (by trivial) ⟨_,rfl,a,_,_,_,rfl,rfl,row,Zh (j:=0) rfl,rfl,_,rfl,Zt (by trivial) ⟨_,rfl,a,_,_,_,rfl,rfl,row,Zh (j:=0) rfl,rfl,_,rfl,Zt (by trivial) ⟨ed,ls,_,_,_,_,_,rfl,sc,hE,hb.mono (by omega),fun c=>?_,hn,hl,fun c=>?_,by omega⟩⟩⟩⟩⟩
   ·rw [tk,U5];exact hlk c
   ·rw [tk,Za8 rfl];exact hla c
  |given x y am d =>
   refine ⟨_,rfl,a,_,_,_,rfl,rfl,row,Zh (j:=0) rfl,rfl,_,rfl,Zt (by trivial) ⟨_,rfl,a,_,_,_,rfl,rfl,row,Zh (j:=0) rfl,rfl,_,rfl,Zt (by trivial) ⟨_,rfl,a,_,_,_,rfl,rfl,row,Zh (j:=0) rfl,rfl,_,rfl,Zt (by trivial) ⟨_,rfl,a,_,_,_,rfl,rfl,row,Zh (j:=0) rfl,rfl,_,rfl,Zt (by trivial) ⟨ed,ls,_,_,_,_,_,rfl,sc,hE,hb.mono (by omega),fun c=>?_,hn,hl,fun c=>?_,by omega⟩⟩⟩⟩⟩
   ·rw [tk,U5];exact hlk c
   ·rw [tk,Za8 rfl];exact hla c
  |taken x y d =>
   refine ⟨_,rfl,a,_,_,_,rfl,rfl,row,Zh (j:=0) rfl,rfl,_,rfl,Zt (by trivial) ⟨_,rfl,a,_,_,_,rfl,rfl,row,Zh (j:=0) rfl,rfl,_,rfl,Z4 (by trivial) ⟨_,rfl,_,rfl,a,_,_,_,rfl,rfl,row,Zh (j:=1) rfl,_,rfl,a,_,_,_,rfl,rfl,row,Zh (j:=2) rfl,rfl,D,"T",x,y,ed,_,rfl,hE,hb,by omega,.inr (.inr rfl),fun H1 ed1 hE1 hb1 lk1 fr1=>?_⟩⟩⟩;have row1:=fr1.sqt hE row;obtain ⟨sc1,hn1⟩:=fr1.same sc nD hn;refine ⟨_,rfl,a,_,_,_,rfl,rfl,row1,Zh (j:=0) rfl,rfl,_,rfl,Zt (by trivial) ⟨_,rfl,a,_,_,_,rfl,rfl,row1,Zh (j:=0) rfl,rfl,_,rfl,Zt (by trivial) ⟨ed1,ls,_,_,_,_,_,rfl,sc1,hE1,hb1.mono (by omega),fun c=>?_,hn1,fr1.ls hE DlD hl,fun c=>?_,by omega⟩⟩⟩
   ·rw [tk,U5,lk1,show lk ed=Ys ((ks.take i).map (·.1)) from funext hlk];rfl
   ·rw [tk,Za8 rfl];exact hla c
  |union=>exact absurd rfl et
  |parted=>exact absurd rfl et
  |born n s d fa mo =>
   have row:SqT K Hc a [.str "born",.str n,.str s,.int d,.str fa,.str mo]:=row;have gt:GdL ns ((ks.take i).map (·.1)++[.born n s d fa mo]):=by rw [←tk,Nt];exact gd.take _
   obtain ⟨_,d5,_,fit⟩:=gt.last rfl
   have fresh:∀e∈(ks.take i).map (·.1),e.bornName≠some n:=fun e he z=>by
    cases e with
    |born n' s' d' f' m' =>
     cases z;exact fit.key _ (Qg.mpr ⟨_,he,rfl⟩) rfl
    |_=>cases z
   have nk:ZL (s,n) ed=none:=ZkR hb (by rw [hlk];exact ZpV (Zg6 d5.1) fresh);dsimp only [Z7];refine Y1 (fun σ Hx=>∃(ed:Ed) (v4 v5:Option V),σ=[some (.ref Le),some (.ref D),some (.ref Dl),some (.ref a),v4,v5,v6,v7]∧Same H Hx∧EdAt Hx D ed∧EdB ed (5*(i+1))∧(∀c,lk ed c=Yp (Ys ((ks.take i).map (·.1))) (.born n s d fa mo) c)∧(∀b∈ed.map (·.2.1),H b=none)∧LsAt K Hx Dl ls) (fun nx rest=>?_) ?_
   ·refine ⟨_,rfl,a,_,_,_,rfl,rfl,row,Zh (j:=0) rfl,rfl,_,rfl,Z4 (by trivial) ⟨_,rfl,a,_,_,_,rfl,rfl,row,Zh (j:=1) rfl,few rfl,fun z nz=>?_⟩⟩;have sz:=Zk (o:=.lst [.str n]) nz;refine ⟨_,rfl,_,rfl,a,_,_,_,rfl,rfl,(sz.sqt row),Zh (j:=2) rfl,_,rfl,a,_,_,_,rfl,rfl,(sz.sqt row),Zh (j:=1) rfl,few rfl,fun t nt=>?_⟩;have st:=Zk (o:=.tup [.str s,.str n]) nt;have szt:=sz.trans st;have ht1:Zb (Zb Hc z (.lst [.str n])) t (.tup [.str s,.str n]) t=some (.tup [.str s,.str n]):=Ze;have hz1:=st _ _ (Ze (H:=Hc) (a:=z) (o:=.lst [.str n]));generalize Zb (Zb Hc z (.lst [.str n])) t (.tup [.str s,.str n])=H1 at *;have hD1:=szt _ _ hE.d;refine ⟨D,_,rfl,DPut.t (k:=Zr (s,n)) hD1 ht1 (Zy (by rw [Qd];have:=hb.len;omega)),?_⟩;rw [VE _ (by rw [VX,nk];rfl)];have zD:z≠D:=fun e=>by rw [e,hD1] at hz1;cases hz1
    obtain ⟨ed1,hE1,hb1,lk1,fr1⟩:=Zhi (H':=Zb H1 D (.dT (Xr ed++[(Zr (s,n),.ref z)]))) (xs:=[n]) hE hb nk nz (by simp) (by simp) Ze (by rw [Zg zD];exact hz1) (fun b u nb e=>by rw [Zg nb];exact szt _ _ e) (fun b hbn=>by
     by_cases e:b=D
     ·rw [e,Ze] at hbn;cases hbn
     ·rw [Zg e] at hbn;exact ZP szt hbn)
    obtain ⟨sc1,hn1⟩:=fr1.same sc nD hn;have row1:=fr1.sqt hE row;have hl1:=fr1.ls hE DlD hl;generalize Zb H1 D (.dT (Xr ed++[(Zr (s,n),.ref z)]))=H2 at *;refine ⟨_,rfl,a,_,_,_,rfl,rfl,row1,Zh (j:=4) rfl,few rfl,fun t1 nt1=>?_⟩;have e1:=Zk (o:=.tup [.str "F",.str fa]) nt1;refine ⟨_,rfl,a,_,_,_,rfl,rfl,(e1.sqt row1),Zh (j:=5) rfl,few rfl,fun t2 nt2=>⟨few rfl,fun lp nlp=>?_⟩⟩;have e2:=Zk (o:=.tup [.str "M",.str mo]) nt2;have e3:=Zk (o:=.lst [.ref t1,.ref t2]) nlp;have ht1:=e3 _ _ (e2 _ _ (Ze (H:=H2) (a:=t1) (o:=.tup [.str "F",.str fa])));have ht2:=e3 _ _ (Ze (H:=Zb H2 t1 (.tup [.str "F",.str fa])) (a:=t2) (o:=.tup [.str "M",.str mo]));have e13:=(e1.trans e2).trans e3;have nlp1:=hE1.off (ZP (e1.trans e2) nlp);refine ⟨lp,rfl,⟨_,.of Ze⟩,XN (xs:=[.ref t1,.ref t2]) (fun j σ Hy=>∃(ed2:Ed) (v4 v5:Option V),σ=[some (.ref Le),some (.ref D),some (.ref Dl),some (.ref a),v4,v5,v6,v7]∧Same H Hy∧EdAt Hy D ed2∧EdB ed2 (5*i+1+2*j)∧(∀c,lk ed2 c=Zbm (Ys ((ks.take i).map (·.1))) n s fa mo j c)∧(∀b∈ed2.map (·.2.1),H b=none)∧LsAt K Hy Dl ls∧Hy lp=some (.lst [.ref t1,.ref t2])∧lp∉ed2.map (·.2.1)∧SqT K Hy t1 [.str "F",.str fa]∧SqT K Hy t2 [.str "M",.str mo]∧SqT K Hy a [.str "born",.str n,.str s,.int d,.str fa,.str mo]) ?st ?li ?tu ?dn⟩
    case st=>exact ⟨ed1,v4,v5,rfl,sc1.trans e13,hE1.mono e13,hb1,fun c=>by rw [lk1];show _=Yi _ s n c;unfold Yi;rw [hlk],hn1,hl1.mono e13,Ze,nlp1,.of ht1,.of ht2,e13.sqt row1⟩
    case li =>
     rintro j σ Hy _ ⟨ed2,v4,v5,rfl,_,_,_,_,_,_,hlp,_⟩;exact .of hlp
    case dn =>
     rintro σ Hy ⟨ed2,v4,v5,rfl,sy,hE2,hb2,lk2,hn2,hl2,_⟩;exact rest _ _ ⟨ed2,v4,v5,rfl,sy,hE2,hb2.mono (by simp;omega),lk2,hn2,hl2⟩
    case tu =>
     rintro j x σ Hy hx ⟨ed2,v4,v5,rfl,sy,hE2,hb2,lk2,hn2,hl2,hlp,nlp2,h1,h2,h3⟩
     have pick:∃tq L l' pr,x=.ref tq∧SqT K Hy tq [.str L,.str pr]∧(L="F"∨L="M"∨L="T")∧Zbw L=l'∧j≤1∧Zbm (Ys ((ks.take i).map (·.1))) n s fa mo (j+1)=Yd L l' n pr (Zbm (Ys ((ks.take i).map (·.1))) n s fa mo j):=by
      match j,hx with
      |0,hx=>exact ⟨t1,"F","f",fa,(Ql hx).symm,h1,.inl rfl,by trivial,by omega,rfl⟩
      |1,hx=>exact ⟨t2,"M","m",mo,(Ql hx).symm,h2,.inr (.inl rfl),by trivial,by omega,rfl⟩
     obtain ⟨tq,L,l',pr,rfl,hq,hL,el,j1,eb⟩:=pick;refine ⟨tq,_,rfl,hq,rfl,_,_,rfl,_,_,rfl,rfl,?_⟩;refine ⟨_,rfl,rfl,_,rfl,?_⟩;by_cases e0:pr=""
     ·refine Zt (by rw [e0];trivial) ⟨ed2,_,_,rfl,sy,hE2,hb2.mono (by omega),fun c=>?_,hn2,hl2,hlp,nlp2,h1,h2,h3⟩;rw [eb];unfold Yd;rw [Qb e0];exact lk2 c
     ·refine Z4 (by show (!decide (V.str pr=V.str ""))=true;rw [Qk (fun z=>e0 (V.str.inj z))];rfl) ⟨_,rfl,_,rfl,_,rfl,a,_,_,_,rfl,rfl,h3,Zh (j:=1) rfl,_,rfl,rfl,D,L,n,pr,ed2,_,rfl,hE2,hb2,by omega,hL,fun H4 ed4 hE4 hb4 lk4 fr4=>?_⟩;obtain ⟨s4,hn4⟩:=fr4.same sy nD hn2;refine ⟨ed4,_,_,rfl,s4,hE4,hb4.mono (by omega),fun c=>?_,hn4,fr4.ls hE2 DlD hl2,fr4.fr _ _ (fun z=>by rw [z,hE2.d] at hlp;cases hlp) nlp2 hlp,(fun m=>(fr4.gr _ m).elim nlp2 fun z=>by rw [hlp] at z;cases z),fr4.sqt hE2 h1,fr4.sqt hE2 h2,fr4.sqt hE2 h3⟩;rw [lk4,eb,el,show lk ed2=Zbm (Ys ((ks.take i).map (·.1))) n s fa mo j from funext lk2];unfold Yd;rw [Qa e0]
   ·rintro σ Hx ⟨ed1,w4,w5,rfl,sx,hE1,hb1,lk1,hn1,hl1⟩;have rowx:=sx.sqt (hR _ (Qy hp));refine ⟨_,rfl,a,_,_,_,rfl,rfl,rowx,Zh (j:=0) rfl,rfl,_,rfl,Zt (by trivial) ⟨_,rfl,a,_,_,_,rfl,rfl,rowx,Zh (j:=0) rfl,rfl,_,rfl,Zt (by trivial) ⟨_,rfl,a,_,_,_,rfl,rfl,rowx,Zh (j:=0) rfl,rfl,_,rfl,Zt (by trivial) ⟨ed1,ls,_,_,_,_,_,rfl,sx,hE1,hb1,fun c=>?_,hn1,hl1,fun c=>?_,by omega⟩⟩⟩⟩
    ·rw [tk,U5];exact lk1 c
    ·rw [tk,Za8 rfl];exact hla c
 case done =>
  rintro σ Hc ⟨ed,ls,v3,v4,v5,v6,v7,rfl,sc,hE,hb,hlk,hn,hl,hla,ll⟩;rw [Zar,QU] at hlk hla;rw [Zar] at hb ll;refine ⟨Dl,Xs ls,hl.d,_,rfl,.inr (.inr (.inl ⟨rfl,.inr ⟨_,hl.d⟩⟩)),Dl,_,rfl,rfl,hl.d,fun r nr=>⟨r,Dl,_,rfl,Ze,(Zk nr) _ _ hl.d,fun o=>?_⟩⟩;have sr:=Zk (o:=.ext (UX r Dl)) nr;have hd1:=sr _ _ hl.d;have up:∀{b:Addr} {u:HO},b≠Dl->Hc b=some u->Zb (Zb Hc r (.ext (UX r Dl))) Dl (.frz o (.dT (Xs ls))) b=some u:=fun nb e=>by rw [Zg nb];exact sr _ _ e
  refine Zoo (kvs:=Xs ls) (fun i σ Hy=>∃(ed:Ed) (v6 v7:Option V),σ=[some (.ref Le),some (.ref D),some (.ref Dl),v3,v4,v5,v6,v7]∧Same H Hy∧EdAt Hy D ed∧EdB ed (200+2*i)∧(∀c,lk ed c=(ls.take i).foldl Xw (Ys (ks.map (·.1))) c)∧(∀b∈ed.map (·.2.1),H b=none)∧Hy Dl=some (.frz o (.dT (Xs ls)))∧∀q∈ls,SqT K Hy q.2.1 [.int q.2.2.1,.str q.2.2.2]) ?st ?li ?tu ?dn
  case st=>exact ⟨ed,_,_,rfl,fun b u e=>up (fun z=>by rw [z,nDlH] at e;cases e) (sc _ _ e),⟨up DlD.symm hE.d,fun q hq=>up (fun z=>by have:=hE.l q hq;rw [z,hl.d] at this;cases this) (hE.l q hq),hE.an,hE.kn⟩,hb.mono (by omega),hlk,hn,Ze,fun q hq=>YI (sr.sqt (hl.t q hq)) hd1 (fun _ z=>by cases z) (fun _ _ z=>by cases z)⟩
  case li =>
   rintro i σ Hy _ ⟨ed,v6,v7,rfl,_,_,_,_,_,hDl,_⟩;exact hDl
  case dn =>
   rintro σ Hy ⟨ed,v6,v7,rfl,sy,hE,hb,hlk,hn,hDl,ht⟩;have ll2:(Xs ls).length=ls.length:=Qd ..;rw [ll2,QU] at hlk;refine ⟨o,hDl,_,rfl,q _ D ed ls (fun b u e=>?_) nD ⟨?_,fun q hq=>?_,hE.an,hE.kn⟩ (hb.mono (by omega)) hl.kn hla hlk⟩
   ·rw [Zg (fun z=>by rw [z,nDlH] at e;cases e)];exact sy _ _ e
   ·rw [Zg DlD.symm];exact hE.d
   ·rw [Zg (fun z=>by have:=hE.l q hq;rw [z,hDl] at this;cases this)];exact hE.l q hq
  case tu =>
   rintro i pr T c σ Hy hpr ⟨ed,v6,v7,rfl,sy,hE,hb,hlk,hn,hDl,ht⟩ nT hc;rw [Qp] at hpr;obtain ⟨q1,hq1,rfl⟩:=QN.mp hpr;have mq:=Qy hq1;have il:=(QC.mp hq1).1;have tkq:ls.take (i+1)=ls.take i++[q1]:=by rw [Q8,hq1];rfl
   have sT:=Zk (o:=.tup [.ref c,.ref q1.2.1]) nT;refine ⟨T,_,rfl,.of Ze,rfl,_,_,rfl,_,_,rfl,rfl,?_⟩;have hc2:SqT K (Zb Hy T (.tup [.ref c,.ref q1.2.1])) c [.str q1.1.1,.str q1.1.2]:=sT.sqt (.of hc);have hE2:=hE.mono sT;have hDl2:=sT _ _ hDl;have ht2:∀q∈ls,SqT K (Zb Hy T (.tup [.ref c,.ref q1.2.1])) q.2.1 [.int q.2.2.1,.str q.2.2.2]:=fun q hq=>sT.sqt (ht q hq);have s2:=sy.trans sT;generalize Zb Hy T (.tup [.ref c,.ref q1.2.1])=H2 at *;refine ⟨_,rfl,q1.2.1,_,_,_,rfl,rfl,ht2 q1 mq,Zh (j:=1) rfl,rfl,_,rfl,?_⟩;have fs:∀c,(ls.take (i+1)).foldl Xw (Ys (ks.map (·.1))) c=Xw ((ls.take i).foldl Xw (Ys (ks.map (·.1)))) q1 c:=fun c=>by rw [tkq,Nr];rfl
   by_cases eu:q1.2.2.2="union"
   ·refine Z4 (Qr (by rw [eu])) ?_;refine Y1 (fun σ Hx=>σ=[some (.ref Le),some (.ref D),some (.ref Dl),v3,v4,v5,some (.ref c),some (.ref q1.2.1)]∧UA D ed (200+2*i) ("S",q1.1.1) q1.1.2 H2 Hx) (fun nx rest=>?_) ?_
    ·refine ⟨_,rfl,D,rfl,.inr ⟨_,.inl hE2.d⟩,_,rfl,c,_,_,_,rfl,rfl,hc2,Zh (j:=0) rfl,few rfl,fun t nt=>⟨few rfl,fun z nz=>?_⟩⟩;have st:=Zk (o:=.tup [.str ((("S",q1.1.1):Str×Str)).1,.str ((("S",q1.1.1):Str×Str)).2]) nt;have sz:=Zk (o:=.lst []) nz;obtain ⟨hD2,ln2,old,new⟩:=ZaU (c:=(("S",q1.1.1):Str×Str)) (x:=q1.1.2) hE2 hb (by omega) (st.trans sz) (ZP st nz) Ze;refine ⟨Xr ed,Zr (("S",q1.1.1):Str×Str),t,hD2,rfl,sz _ _ Ze,ln2,fun v hv=>?_,fun hv=>?_⟩
     ·obtain ⟨b,xs,rfl,hb2,lx,add⟩:=old v hv;exact ⟨.inl ⟨rfl,_,.of hb2⟩,_,rfl,c,_,_,_,rfl,rfl,(st.trans sz).sqt hc2,Zh (j:=1) rfl,b,_,_,rfl,rfl,hb2,lx,rest _ _ ⟨rfl,add⟩⟩
     ·obtain ⟨hz3,add⟩:=new hv;exact ⟨.inl ⟨rfl,_,.of hz3⟩,_,rfl,c,_,_,_,rfl,rfl,YI ((st.trans sz).sqt hc2) hD2 (fun _ z=>by cases z) (fun _ _ z=>by cases z),Zh (j:=1) rfl,z,_,_,rfl,rfl,hz3,Zy (by simp),rest _ _ ⟨rfl,add⟩⟩
    ·rintro σ H3 ⟨rfl,ed3,hE3,hb3,lk3,fr3⟩;have hc3:=fr3.sqt hE2 hc2
     have fin:∀H',UA D ed3 (200+2*i+1) ("S",q1.1.2) q1.1.1 H3 H'->∃(ed:Ed) (v6 v7:Option V),[some (.ref Le),some (.ref D),some (.ref Dl),v3,v4,v5,some (.ref c),some (.ref q1.2.1)]=[some (.ref Le),some (.ref D),some (.ref Dl),v3,v4,v5,v6,v7]∧Same H H'∧EdAt H' D ed∧EdB ed (200+2*(i+1))∧(∀c,lk ed c=(ls.take (i+1)).foldl Xw (Ys (ks.map (·.1))) c)∧(∀b∈ed.map (·.2.1),H b=none)∧H' Dl=some (.frz o (.dT (Xs ls)))∧∀q∈ls,SqT K H' q.2.1 [.int q.2.2.1,.str q.2.2.2]:=fun H' ⟨ed4,hE4,hb4,lk4,fr4⟩=>by
      have fr:=fr3.trans fr4;obtain ⟨s4,hn4⟩:=fr.same s2 nD hn;refine ⟨ed4,_,_,rfl,s4,hE4,hb4,fun c=>?_,hn4,fr.oth hE2 DlD hDl2 (fun _ z=>by cases z),fun q hq=>fr.sqt hE2 (ht2 q hq)⟩;rw [lk4,fs,show lk ed3=ZY (lk ed) ("S",q1.1.1) q1.1.2 from funext lk3,show lk ed=(ls.take i).foldl Xw (Ys (ks.map (·.1))) from funext hlk];unfold Xw;rw [Qb eu]
     refine ⟨_,rfl,D,rfl,.inr ⟨_,.inl hE3.d⟩,_,rfl,c,_,_,_,rfl,rfl,hc3,Zh (j:=1) rfl,few rfl,fun t nt=>⟨few rfl,fun z nz=>?_⟩⟩;have st:=Zk (o:=.tup [.str ((("S",q1.1.2):Str×Str)).1,.str ((("S",q1.1.2):Str×Str)).2]) nt;have sz:=Zk (o:=.lst []) nz;obtain ⟨hD2,ln2,old,new⟩:=ZaU (c:=(("S",q1.1.2):Str×Str)) (x:=q1.1.1) hE3 hb3 (by omega) (st.trans sz) (ZP st nz) Ze;refine ⟨Xr ed3,Zr (("S",q1.1.2):Str×Str),t,hD2,rfl,sz _ _ Ze,ln2,fun v hv=>?_,fun hv=>?_⟩
     ·obtain ⟨b,xs,rfl,hb2,lx,add⟩:=old v hv;exact ⟨.inl ⟨rfl,_,.of hb2⟩,_,rfl,c,_,_,_,rfl,rfl,(st.trans sz).sqt hc3,Zh (j:=0) rfl,b,_,_,rfl,rfl,hb2,lx,fin _ add⟩
     ·obtain ⟨hz3,add⟩:=new hv;exact ⟨.inl ⟨rfl,_,.of hz3⟩,_,rfl,c,_,_,_,rfl,rfl,YI ((st.trans sz).sqt hc3) hD2 (fun _ z=>by cases z) (fun _ _ z=>by cases z),Zh (j:=0) rfl,z,_,_,rfl,rfl,hz3,Zy (by simp),fin _ add⟩
   ·refine Zt (Qk (fun z=>eu (V.str.inj z))) ⟨ed,_,_,rfl,s2,hE2,hb.mono (by omega),fun c=>?_,hn,hDl2,ht2⟩;rw [fs];unfold Xw;rw [Qa eu];exact hlk c
theorem ZmV (T:Tx K w mg)  : ZgC P base T:=by
 refine Fun.okX (k:=0) T.Zbs.F Zg7 (fun vs H Q E h=>h.1) (fun cdv A outer s H vs Q E hr h=>?_);obtain ⟨-,h⟩:=h;obtain ⟨l,m,xs,rfl,hl,hm,l100,q⟩:=h
 refine ⟨_,(Zl (ZE (PW.pt (XF (Xx (YB (Xo K (by rfl) T.n_isinstance (Za (pv 0) (Za (XD (v:=.ty "list") (by rfl) T.n_list JG rfl) Zc))))) (XR (ZB Wy (ZQ YO (by rfl) T.n_len Ye (Za (pv 0) Zc)) (ZQ YO (by rfl) T.n_len Ye (Za (pv 1) Zc)) (Zs _))))) (Zj (Zu Xc)) ZH)
   (Zl (Yr QI rfl (Vb (by rfl) T.n_range (Za (ZQ YO (by rfl) T.n_len Ye (Za (pv 1) Zc)) Zc)) (ZT (i:=2) Zg7.nd rfl (Or.inl rfl))
    (Zj (ZE (PW.pt (XF (Xx (YB (Xo K (by rfl) T.n_isinstance (Za (Zm YG (pv 0) (pv 2) (fun _ _=>rfl)) (Za (XD (v:=.ty "str") (by rfl) T.n_str W6 rfl) Zc))))) (XR (ZB Wy (Zm YG (pv 0) (pv 2) (fun _ _=>rfl)) (Zm YG (pv 1) (pv 2) (fun _ _=>rfl)) (Zs _))))) (Zj (Zu Xc)) ZH)))
   (Zj (Zu Xc)))),?_⟩
 have ln:(xs.map V.str).length=xs.length:=Qd ..;refine ⟨_,rfl,_,.ty "list",_,_,rfl,rfl,.sql hl,T.kl_list,_,rfl,ZS ⟨_,rfl,l,_,rfl,.inl hl,_,rfl,m,_,rfl,.inl hm,rfl,_,rfl,?_⟩⟩;rw [Qr rfl];refine ZS ⟨_,rfl,m,_,rfl,.inl hm,_,rfl,by omega,by rw [ln];omega,ZaT (fun i σ Hc=>Hc=H∧∃v,σ=[some (.ref l),some (.ref m),v]) ⟨rfl,_,rfl⟩ ?_ ?_⟩
 ·rintro i σ Hc hi ⟨rfl,v,rfl⟩;have il:i<xs.length:=by rw [ln] at hi;omega
  have hx:Ym (xs.map V.str) (0+(i:Int))=some (.str xs[i]):=by rw [R4];exact Xq (by rw [Qp,Qw il];rfl)
  refine ⟨_,rfl,_,rfl,l,_,_,_,rfl,rfl,hl,hx,_,.ty "str",_,_,rfl,rfl,.of (.str _),T.k_str_str,_,rfl,ZS ⟨_,rfl,_,rfl,l,_,_,_,rfl,rfl,hl,hx,_,rfl,_,rfl,m,_,_,_,rfl,rfl,hm,hx,rfl,_,rfl,?_⟩⟩;rw [Qr rfl];exact ZS ⟨rfl,_,rfl⟩
 ·rintro σ Hc ⟨rfl,v,rfl⟩;exact q
theorem ZlT (T:Tx K w mg)  : Zhy P base T:=by
 refine Fun.okX (k:=0) T.Zaw.F VT (fun vs H Q E h=>h.1) (fun cdv A outer s H vs Q E hr h=>?_);obtain ⟨-,h⟩:=h;obtain ⟨D,p,nm,way,ed,pool,rfl,hE,hp,lw,nmp,ep,pl,q⟩:=h
 refine ⟨_,(Zl (ZG (i:=3) VT.nd rfl (Or.inl rfl) (Yk (Za (pv 2) Zc)))
   (Zl (Yr QI rfl (Yz (pv 1)) (ZT (i:=4) VT.nd rfl (Or.inl rfl))
    (Zl (ZG (i:=5) VT.nd rfl (Or.inl rfl) X9)
   (Zl (Yr QI rfl (Yz (pv 3)) (ZT (i:=6) VT.nd rfl (Or.inl rfl))
    (Zj (Yr QI rfl (Yz (JN (ZO hr) (pv 0) (Z8 (Za (pv 4) (Za (pv 6) Zc))) (Yk Zc) ⟨rfl,rfl,rfl,rfl⟩)) (ZT (i:=7) VT.nd rfl (Or.inl rfl))
    (Zj (Xg (ZO hr) (pv 5) (pv 7) Xc rfl)))))
   (Zj (ZG (i:=3) VT.nd rfl (Or.inl rfl) (ZQ (J6 rfl) (by rfl) T.n_sorted VQ (Za (pv 5) Zc)))))))
   (Zj (Zu (pv 3))))),?_⟩
 refine ⟨_,rfl,few rfl,fun L0 nL0=>⟨_,rfl,p,rfl,⟨_,(Zk nL0).sql hp⟩,XN (xs:=way.map V.str) (fun i σ Hc=>∃(L:Addr) (xs:List Str) (v4 v5 v6 v7:Option V),σ=[some (.ref D),some (.ref p),some (.str nm),some (.ref L),v4,v5,v6,v7]∧Same H Hc∧H L=none∧Hc L=some (.lst (xs.map V.str))∧SrtOf (YV (fun s n=>lk ed (s,n)) (way.take i) (·=nm)) xs) ?start ?list ?turn ?done⟩⟩
 case start=>exact ⟨L0,[nm],_,_,_,_,rfl,Zk nL0,nL0,Ze,⟨by simp,by simp,fun x=>by simp [YV]⟩⟩
 case list =>
  rintro i σ Hc _ ⟨L,xs,v4,v5,v6,v7,rfl,sc,_⟩;exact sc.sql hp
 case done =>
  rintro σ Hc ⟨L,xs,v4,v5,v6,v7,rfl,sc,nL,hL,srt⟩;rw [Qd,QU] at srt;exact ⟨_,rfl,q _ L xs sc nL hL srt⟩
 case turn =>
  rintro i y σ Hc hy ⟨L,xs,v4,v5,v6,v7,rfl,sc,nL,hL,srt⟩;obtain ⟨s,hs,rfl⟩:=XO hy;have tk:way.take (i+1)=way.take i++[s]:=by rw [Q8,hs];rfl
  refine fun c nc=>?_;have ncH:=ZP sc nc;have s1:=Zk (o:=.dK []) nc;have hL1:=s1 _ _ hL;have cL:c≠L:=fun z=>by rw [z,hL] at nc;cases nc
  refine ⟨_,rfl,L,rfl,⟨_,.of hL1⟩,XN (xs:=xs.map V.str) (fun j σ Hj=>∃(cs:List (Str×V)) (v6 v7:Option V),σ=[some (.ref D),some (.ref p),some (.str nm),some (.ref L),some (.str s),some (.ref c),v6,v7]∧Same H Hj∧Hj L=some (.lst (xs.map V.str))∧Hj c=some (.dK (Y7 cs))∧(cs.map (·.1)).Nodup∧∀x,x∈cs.map (·.1)↔∃y,y∈xs.take j∧x∈lk ed (s,y)) ?st ?li ?tu ?dn⟩
  case st=>exact ⟨[],_,_,rfl,sc.trans s1,hL1,Ze,by simp,fun x=>by simp⟩
  case li =>
   rintro j σ Hj _ ⟨cs,v6,v7,rfl,_,hLj,_⟩;exact .of hLj
  case dn =>
   rintro σ Hj ⟨cs,v6,v7,rfl,sj,hLj,hcj,ndj,memj⟩;rw [Qd,QU] at memj
   have few2:(cs.map (·.1)).length≤60:=Qi (W1 ndj fun x hx=>by
    obtain ⟨y,_,h⟩:=(memj x).mp hx;cases hk:ZL (s,y) ed with
    |none=>rw [Um hk] at h;cases h
    |some w=>rw [Vu hE.kn (Wd hk)] at h;exact ep _ (Wd hk) x h) pl
   refine ⟨_,rfl,c,cs,rfl,hcj,by rw [Qd] at few2;omega,fun D5 zs nD5 hp5 hs5=>⟨D5,zs,_,_,_,_,rfl,sj.trans (Zk nD5),ZP sj nD5,Ze,⟨J0 hs5,hp5.nodup_iff.mpr ndj,fun x=>?_⟩⟩⟩;rw [hp5.mem_iff,memj,tk,Zey];exact ⟨fun ⟨y,hy,hx⟩=>⟨y,(srt.mem y).mp hy,hx⟩,fun ⟨y,hy,hx⟩=>⟨y,(srt.mem y).mpr hy,hx⟩⟩
  case tu =>
   rintro j y σ Hj hy ⟨cs,v6,v7,rfl,sj,hLj,hcj,ndj,memj⟩;obtain ⟨y,hyx,rfl⟩:=XO hy;have tkj:xs.take (j+1)=xs.take j++[y]:=by rw [Q8,hyx];rfl
   refine ⟨_,rfl,D,rfl,.inr ⟨_,.inl (sj _ _ hE.d)⟩,_,rfl,_,rfl,few rfl,fun t nt=>⟨few rfl,fun z nz=>?_⟩⟩;have st:=Zk (o:=.tup [.str s,.str y]) nt;have sz:=Zk (o:=.lst []) nz;have s2:=st.trans sz;have g:=DGet.t (k:=Zr (s,y)) ((sj.trans s2) _ _ hE.d) (sz _ _ (Ze (o:=.tup [.str s,.str y])));rw [VX] at g;have sj2:=sj.trans s2;have hz2:Zb (Zb Hj t (.tup [.str s,.str y])) z (.lst []) z=some (.lst []):=Ze;generalize Zb (Zb Hj t (.tup [.str s,.str y])) z (.lst [])=H2 at *;refine ⟨_,g,?_⟩
   obtain ⟨b,zs,eb,hb2,ez⟩:∃(b:Addr) (zs:List Str),((ZL (s,y) ed).map fun q=>V.ref q.1).getD (V.ref z)=V.ref b∧H2 b=some (.lst (zs.map V.str))∧lk ed (s,y)=zs:=by
    cases hk:ZL (s,y) ed with
    |none=>exact ⟨z,[],rfl,hz2,Um hk⟩
    |some w=>exact ⟨w.1,w.2,rfl,(hE.mono sj2).l _ (Wd hk),Vu hE.kn (Wd hk)⟩
   have hLj2:=s2 _ _ hLj;have hcj2:=s2 _ _ hcj;have bc:b≠c:=fun e=>by rw [e,hcj2] at hb2;cases hb2
   refine ⟨b,eb,⟨_,.of hb2⟩,XN (xs:=zs.map V.str) (fun l σ Hl=>∃(cs2:List (Str×V)) (v7:Option V),σ=[some (.ref D),some (.ref p),some (.str nm),some (.ref L),some (.str s),some (.ref c),some (.str y),v7]∧Same H Hl∧Hl L=some (.lst (xs.map V.str))∧Hl c=some (.dK (Y7 cs2))∧Hl b=some (.lst (zs.map V.str))∧(cs2.map (·.1)).Nodup∧∀x,x∈cs2.map (·.1)↔x∈cs.map (·.1)∨x∈zs.take l) ?st3 ?li3 ?tu3 ?dn3⟩
   case st3=>exact ⟨cs,_,rfl,sj2,hLj2,hcj2,hb2,ndj,fun x=>by simp⟩
   case li3 =>
    rintro l σ Hl _ ⟨cs2,v7,rfl,_,_,_,hbl,_⟩;exact .of hbl
   case dn3 =>
    rintro σ Hl ⟨cs2,v7,rfl,sl,hLl,hcl,hbl,ndl,meml⟩;rw [Qd,QU] at meml;refine ⟨cs2,_,_,rfl,sl,hLl,hcl,ndl,fun x=>?_⟩;rw [meml,memj,tkj];constructor
    ·rintro (⟨z,h1,h2⟩|h)
     ·exact ⟨z,Q9 _ h1,h2⟩
     ·exact ⟨y,by simp,by rw [ez];exact h⟩
    ·rintro ⟨z,h1,h2⟩;rcases Qq.mp h1 with h1|h1
     ·exact .inl ⟨z,h1,h2⟩
     ·rw [show z=y by simpa using h1,ez] at h2;exact .inr h2
   case tu3 =>
    rintro l x σ Hl hx ⟨cs2,v7,rfl,sl,hLl,hcl,hbl,ndl,meml⟩;obtain ⟨x,hxz,rfl⟩:=XO hx;have tkl:zs.take (l+1)=zs.take l++[x]:=by rw [Q8,hxz];rfl
    have inP:∀x∈cs2.map (·.1),x∈pool:=fun x hx2=>by
     have go:∀y',x∈lk ed (s,y')->x∈pool:=fun y' h=>by
      cases hk:ZL (s,y') ed with
      |none=>rw [Um hk] at h;cases h
      |some w=>rw [Vu hE.kn (Wd hk)] at h;exact ep _ (Wd hk) x h
     rcases (meml x).mp hx2 with h|h
     ·obtain ⟨z,_,h2⟩:=(memj x).mp h;exact go z h2
     ·exact go y (by rw [ez];exact Rz h)
    have len2:(Y7 cs2).length≤60:=by rw [Zbz];exact Qi (W1 ndl inP) pl
    refine ⟨_,rfl,_,rfl,c,_,rfl,DPut.k (k:=.inr x) hcl (Zy (by omega)),?_⟩;rw [Zdv];refine ⟨Zo cs2 x (.bl true),_,rfl,fun e u h=>?_,?_,Ze,?_,Zbq ndl,fun x'=>?_⟩
    ·rw [Zg (fun z=>by subst z;rw [ncH] at h;cases h)];exact sl _ _ h
    ·rw [Zg cL.symm];exact hLl
    ·rw [Zg bc];exact hbl
    ·rw [ZcE,meml,tkl,Qq,QT,or_assoc]
theorem Zkx (T:Tx K w mg)  : ZhS P base T:=by
 refine Fun.okX (k:=0) T.ZaS.F Zk6 (fun vs H Q E h=>h.1) (fun cdv A outer s H vs Q E hr h=>?_);obtain ⟨-,h⟩:=h;obtain ⟨D,l,m,n,zs,B,kvs,rfl,hD,hl,zl,bo,kn,kz,q⟩:=h
 refine ⟨_,(Zl (ZE (ZB ZZ (pv 1) Zn (Zs _)) (Zj (Zu (XV rfl (Xi (N:=["_law_one","_law_name"]) ["_law_name"] [none,some 2] rfl (by trivial) (by trivial) (by rfl) (by rfl) (by rfl) (by rfl) (by rfl)) (Yz (pv 3)) (fun _ _ _=>(ZT (i:=0) Zjo rfl (Or.inl rfl))) (fun _ _ _=>(WC (ZB Wy (pv 0) (pv 1) (Zs _)))) (fun _ _ _=>(pv 0))))) ZH)
   (Zl (ZE (ZB ZZ (pv 1) Zn (Zs _)) (Zj (Zu (XV rfl (Xi (N:=["_law_one","_law_born","_law_name"]) ["_law_name","_law_born"] [none,some 0,some 2] rfl (by trivial) (by trivial) (by rfl) (by rfl) (by rfl) (by rfl) (by rfl)) (Yz (pv 3)) (fun _ _ _=>(ZT (i:=0) ZgW rfl (Or.inl rfl))) (fun _ _ _=>(WC (ZB Wg (YW (ZO hr) (pv 1) (pv 0) (fun _ _=>rfl)) (YW (ZO hr) (pv 1) (pv 2) (fun _ _=>rfl)) (Zs _)))) (fun _ _ _=>(pv 0))))) ZH)
   (Zl (ZE (ZB ZZ (pv 1) Zn (Zs _)) (Zj (Zu (XV rfl (Xi (N:=["_law_one","_law_born","_law_name"]) ["_law_name","_law_born"] [none,some 0,some 2] rfl (by trivial) (by trivial) (by rfl) (by rfl) (by rfl) (by rfl) (by rfl)) (Yz (pv 3)) (fun _ _ _=>(ZT (i:=0) ZgW rfl (Or.inl rfl))) (fun _ _ _=>(WC (ZB Wa (YW (ZO hr) (pv 1) (pv 0) (fun _ _=>rfl)) (YW (ZO hr) (pv 1) (pv 2) (fun _ _=>rfl)) (Zs _)))) (fun _ _ _=>(pv 0))))) ZH)
   (Zj (Zu (pv 3)))))),?_⟩
 refine ⟨_,rfl,rfl,_,rfl,Yo (fun h1=>?_) (fun h1=>?_)⟩
 ·have h1':m="other":=by simpa [Yu] using h1
  refine ⟨_,rfl,l,rfl,⟨_,hl⟩,WF (zs.map (XA B m n)) (Zy (by rw [Qd];omega)) (fun σ=>∃w,σ=[w,some (.str n)]) ⟨_,rfl⟩ (fun j H4 hj sm=>?go) (fun H4 sm=>?stop) (fun j σ H4 x H5 z hz hσ sm hx C hC=>?step) (fun D9 H9 nD9 s9 hD9=>?fin)⟩
  case go=>exact ⟨_,_,sm.sql hl,Qw (by rw [Qd];rw [Qd] at hj;exact hj)⟩
  case stop=>exact ⟨_,sm.sql hl,by rw [Qd,Qd];exact Qe _⟩
  case fin=>rw [J1] at hD9;exact q _ D9 s9 (.of hD9)
  case step =>
  obtain ⟨w,rfl⟩:=hσ;obtain ⟨rfl,hx2⟩:=hx;obtain ⟨y,hy,rfl⟩:=XO (hx2 _ (sm.sql hl));rw [Qp,hy] at hz;obtain rfl:=Ql hz;have ky:=kz y (Qy hy);have ek:(!decide (V.str y=V.str n))=Yb B m n y:=by unfold Yb;rw [Qb h1'];by_cases z:n=y<;>simp [z,eq_comm]
  refine ⟨_,rfl,_,rfl,rfl,_,rfl,?_⟩;by_cases h:Yb B m n y=true
  ·rw [show XA B m n y=some (.str y) from Qb h] at hC;exact Z4 (ek.trans h) ⟨_,rfl,hC _ _ ⟨_,rfl⟩ (Same.refl _)⟩
  ·rw [show XA B m n y=none from Qa h] at hC;exact Zt (ek.trans (QO.mpr h)) (hC _ _ ⟨_,rfl⟩ (Same.refl _))
 have n1:¬m="other":=by simpa [Yu] using h1
 refine ⟨_,rfl,rfl,_,rfl,Yo (fun h2=>?_) (fun h2=>?_)⟩
 ·have h2':m="elder":=by simpa [Yu] using h2
  refine ⟨_,rfl,l,rfl,⟨_,hl⟩,WF (zs.map (XA B m n)) (Zy (by rw [Qd];omega)) (fun σ=>∃w,σ=[w,some (.ref D),some (.str n)]) ⟨_,rfl⟩ (fun j H4 hj sm=>?go) (fun H4 sm=>?stop) (fun j σ H4 x H5 z hz hσ sm hx C hC=>?step) (fun D9 H9 nD9 s9 hD9=>?fin)⟩
  case go=>exact ⟨_,_,sm.sql hl,Qw (by rw [Qd];rw [Qd] at hj;exact hj)⟩
  case stop=>exact ⟨_,sm.sql hl,by rw [Qd,Qd];exact Qe _⟩
  case fin=>rw [J1] at hD9;exact q _ D9 s9 (.of hD9)
  case step =>
  obtain ⟨w,rfl⟩:=hσ;obtain ⟨rfl,hx2⟩:=hx;obtain ⟨y,hy,rfl⟩:=XO (hx2 _ (sm.sql hl));rw [Qp,hy] at hz;obtain rfl:=Ql hz;have ky:=kz y (Qy hy);have ek:decide (ZX B y<ZX B n)=Yb B m n y:=by unfold Yb;rw [Qa n1,Qb h2']
  refine ⟨_,rfl,_,rfl,D,_,rfl,(by have z:=DGet.kr (k:=.inr y) (Uo hD sm);rw [bo y ky] at z;exact z),_,rfl,_,rfl,D,_,rfl,(by have z:=DGet.kr (k:=.inr n) (Uo hD sm);rw [bo n kn] at z;exact z),_,_,rfl,rfl,_,rfl,?_⟩;by_cases h:Yb B m n y=true
  ·rw [show XA B m n y=some (.str y) from Qb h] at hC;exact Z4 (ek.trans h) ⟨_,rfl,hC _ _ ⟨_,rfl⟩ (Same.refl _)⟩
  ·rw [show XA B m n y=none from Qa h] at hC;exact Zt (ek.trans (QO.mpr h)) (hC _ _ ⟨_,rfl⟩ (Same.refl _))
 have n2:¬m="elder":=by simpa [Yu] using h2
 refine ⟨_,rfl,rfl,_,rfl,Yo (fun h3=>?_) (fun h3=>?_)⟩
 ·have h3':m="younger":=by simpa [Yu] using h3
  refine ⟨_,rfl,l,rfl,⟨_,hl⟩,WF (zs.map (XA B m n)) (Zy (by rw [Qd];omega)) (fun σ=>∃w,σ=[w,some (.ref D),some (.str n)]) ⟨_,rfl⟩ (fun j H4 hj sm=>?go) (fun H4 sm=>?stop) (fun j σ H4 x H5 z hz hσ sm hx C hC=>?step) (fun D9 H9 nD9 s9 hD9=>?fin)⟩
  case go=>exact ⟨_,_,sm.sql hl,Qw (by rw [Qd];rw [Qd] at hj;exact hj)⟩
  case stop=>exact ⟨_,sm.sql hl,by rw [Qd,Qd];exact Qe _⟩
  case fin=>rw [J1] at hD9;exact q _ D9 s9 (.of hD9)
  case step =>
  obtain ⟨w,rfl⟩:=hσ;obtain ⟨rfl,hx2⟩:=hx;obtain ⟨y,hy,rfl⟩:=XO (hx2 _ (sm.sql hl));rw [Qp,hy] at hz;obtain rfl:=Ql hz;have ky:=kz y (Qy hy);have ek:decide (ZX B n<ZX B y)=Yb B m n y:=by unfold Yb;rw [Qa n1,Qa n2,Qb h3']
  refine ⟨_,rfl,_,rfl,D,_,rfl,(by have z:=DGet.kr (k:=.inr y) (Uo hD sm);rw [bo y ky] at z;exact z),_,rfl,_,rfl,D,_,rfl,(by have z:=DGet.kr (k:=.inr n) (Uo hD sm);rw [bo n kn] at z;exact z),_,_,rfl,rfl,_,rfl,?_⟩;by_cases h:Yb B m n y=true
  ·rw [show XA B m n y=some (.str y) from Qb h] at hC;exact Z4 (ek.trans h) ⟨_,rfl,hC _ _ ⟨_,rfl⟩ (Same.refl _)⟩
  ·rw [show XA B m n y=none from Qa h] at hC;exact Zt (ek.trans (QO.mpr h)) (hC _ _ ⟨_,rfl⟩ (Same.refl _))
 have n3:¬m="younger":=by simpa [Yu] using h3
 have e:zs.filter (Yb B m n)=zs:=List.filter_eq_self.mpr fun y _=>by unfold Yb;rw [Qa n1,Qa n2,Qa n3]
 exact ⟨_,rfl,q _ l (Same.refl H) (by rw [e];exact hl)⟩
theorem ZiQ (T:Tx K w mg) (Zdd:Zfg P base T) (ZcS:Zhb P base T) (Zeq:Zf1 P base T) (Zd8:Zhz P base T) (Vx:ZdE P base T) (ZdP:ZgG P base T) (ZeJ:Zfq P base T) (ZbU:ZgC P base T) (ZdF:Zhy P base T) (Zch:ZhS P base T):Zgq P base T:=by
 refine Fun.okX (k:=9) T.VM.F Xa (fun vs H Q E h=>h.1) (fun cdv A outer s H vs Q E hr h=>?_);obtain ⟨-,h⟩:=h;obtain ⟨l,ss,rfl,hl,l63,q⟩:=h
 refine ⟨_,(Zl (ZG (i:=1) Xa.nd rfl (Or.inl rfl) (ZW ZdP hr Zz (Za (pv 0) (Za Zf (Za Zf Zc)))))
   (Zl (ZG (i:=2) Xa.nd rfl (Or.inl rfl) (ZW ZeJ hr Zz (Za (pv 1) Zc)))
   (Zl (ZG (i:=3) Xa.nd rfl (Or.inl rfl) X9)
   (Zl (ZG (i:=4) Xa.nd rfl (Or.inl rfl) (ZjR T.mk_Book Zdd (hr.mono (by decide)) (by rfl) T.m_Book T.Ux.b .nil Zz))
   (Zl (Yr QI rfl (Yz (pv 1)) (ZT (i:=5) Xa.nd rfl (Or.inl rfl))
    (Zl (Yv (Z1 (pv 4) T.cl_Book T.UY.me ZcS (hr.mono (by decide)) T.UY.b .nil Zz (Za (pv 5) Zc)))
   (Zj (ZE (ZB ZZ (Zm Zp (pv 5) Zf (fun _ _=>rfl)) Zn (Zs _)) (Zj (Xg (ZO hr) (pv 3) (Zm Zp (pv 5) Zf (fun _ _=>rfl)) (Zm Zp (pv 5) Zf (fun _ _=>rfl)) rfl)) ZH))))
   (Zl (ZG (i:=6) Xa.nd rfl (Or.inr rfl) (Yk (Za Zn (Za Zn (Za Zn (Za Zn (Za Zn (Za Zn (Za Zn (Za Zn (Za Zn Zc)))))))))))
   (Zl (ZG (i:=7) Xa.nd rfl (Or.inl rfl) (ZW Vx hr Zz (Za (pv 0) (Za Zf Zc))))
   (Zl (ZG (i:=8) Xa.nd rfl (Or.inr rfl) (XV rfl (Xi (N:=["_law_k","_law_steps","_law_script"]) ["_law_steps","_law_script"] [none,some 6,some 0] rfl (by trivial) (by trivial) (by rfl) (by rfl) (by rfl) (by rfl) (by rfl)) (Vb (by rfl) T.n_range (Za (Zv X6 Zf (Zv Yq (pv 7) Zf)) Zc)) (fun _ _ _=>(ZT (i:=0) Zkh rfl (Or.inl rfl))) (fun _ _ _=>W3) (fun _ _ _=>(Zm (ZbB K rfl) (pv 1) (Zv Yq (ZW Vx hr Zz (Za (pv 2) (Za (Zv X6 Zf (Zv VG Zf (pv 0))) Zc))) Zf) (fun _ _=>rfl)))))
   (Zl (ZE (ZB ZZ (Zv Yq (Zv Wm (pv 7) Zf) Zf) Zf (Zs _)) (Zj (ZG (i:=8) Xa.nd rfl (Or.inr rfl) (Zv Zbp (Zm YG (Yk (Za (Yk (Za Zn (Za Zn Zc))) (Za (Yk (Za Zn (Za Zn Zc))) (Za (Yk (Za Zn Zc)) (Za (Yk (Za Zn (Za Zn Zc))) Zc))))) (Zv Yq (Zv Wm (pv 7) Zf) Zf) (fun _ _=>rfl)) (Wr ZaH (pv 8) WE (Wj Zf))))) ZH)
   (Zl (ZG (i:=9) Xa.nd rfl (Or.inr rfl) (Yk (Za Zn (Za Zn (Za Zn (Za Zn Zc))))))
   (Zl (ZG (i:=9) Xa.nd rfl (Or.inr rfl) (Zv Zbp (Wr ZaH (pv 9) (Wj (Zv Yq (pv 7) Zf)) WE) (Wr ZaH (pv 9) WE (Wj (Zv Yq (pv 7) Zf)))))
   (Zl (ZG (i:=10) Xa.nd rfl (Or.inr rfl) (XV rfl (Xi (N:=["_law_k"]) [] [none] rfl (by trivial) (by trivial) (by rfl) (by rfl) (by rfl) (by rfl) (by rfl)) (Vb (by rfl) T.n_range (Za Zf Zc)) (fun _ _ _=>(ZT (i:=0) Zms rfl (Or.inl rfl))) (fun _ _ _=>W3) (fun _ _ _=>(Zv Jx Zn (Zm Zh1 Zn (pv 0) (fun _ _=>rfl))))))
   (Zl (UI (i:=11) rfl  Xa.nd rfl (Or.inl rfl) (Xi (N:=["_law_k","_law_words","_law_pieces","_law_marks"]) ["_law_words","_law_pieces","_law_marks"] [none,some 10,some 8,some 9] rfl (by trivial) (by trivial) (by rfl) (by rfl) (by rfl) (by rfl) (by rfl)) (Vb (by rfl) T.n_range (Za Zf Zc)) (fun _ _ _=>(ZT (i:=0) ZnC rfl (Or.inl rfl))) (fun _ _ _=>W3) (fun _ _ _=>(Zv Jx (Zv Jx (Zm (ZbB K rfl) (pv 1) (pv 0) (fun _ _=>rfl)) Zn) (Zqa K RL PySem.F.slot_str_join PySem.F.type_str_join (Zhk K) Zn (Za (Zv Zbp (pv 2) (Wr (ZnB K rfl) (Yk (Za (Zm (ZbB K rfl) (pv 3) (pv 0) (fun _ _=>rfl)) Zc)) WE (Wj (ZQ ZdV (by rfl) T.n_len Ye (Za (Zm (ZbB K rfl) (pv 3) (pv 0) (fun _ _=>rfl)) Zc))))) Zc)))))
   (Zl (ZG (i:=12) Xa.nd rfl (Or.inl rfl) (Z1 (Zap T.mk_Tongue Zeq (hr.mono (by decide)) (by rfl) T.m_Tongue T.UE.b .nil Zz (Za (XQ RL PySem.F.slot_str_join PySem.F.type_str_join (Zhk K) Zn (Za (pv 11) Zc)) Zc)) T.cl_Tongue T.Uh.me Zd8 (hr.mono (by decide)) T.Uh.b .nil Zz (Za (pv 4) Zc)))
   (Zl (ZE (PW.pt (XF (Xx (YB (Xo K (by rfl) T.n_isinstance (Za (pv 12) (Za (XD (v:=.ty "dict") (by rfl) T.n_dict Zhn rfl) Zc))))) (XR (ZB (Zgv hr.units) (VN (ZbV rfl) (by rfl) T.n_list JG (Za (pv 12) Zc)) (pv 10) (Zs _))))) (Zj (Zu Xc)) ZH)
   (Zl (Yr QI rfl (Vb (by rfl) T.n_range (Za Zf Zc)) (ZT (i:=13) Xa.nd rfl (Or.inl rfl))
    (Zl (ZG (i:=14) Xa.nd rfl (Or.inl rfl) (YW (ZO hr) (pv 12) (Zm YG (pv 10) (pv 13) (fun _ _=>rfl)) (fun _ _=>rfl)))
   (Zl (ZE (PW.pt (XF (Xx (YB (Xo K (by rfl) T.n_isinstance (Za (pv 14) (Za (XD (v:=.ty "dict") (by rfl) T.n_dict Zhn rfl) Zc))))) (XR (ZB (Zgv hr.units) (VN (ZbV rfl) (by rfl) T.n_list JG (Za (pv 14) Zc)) (ZQ (J6 rfl) (by rfl) T.n_sorted VQ (Za (pv 3) Zc)) (Zs _))))) (Zj (Zu Xc)) ZH)
   (Zj (Zax (Yr QI rfl (Zal (pv 3)) (ZT (i:=15) Xa.nd rfl (Or.inl rfl))
    (Zj (ZE (Xx (YB (ZW ZbU hr Zz (Za (YW (ZO hr) (pv 14) (pv 15) (fun _ _=>rfl)) (Za (ZW Zch hr Zz (Za (pv 3) (Za (Zm YG (pv 9) (pv 13) (fun _ _=>rfl)) (Za (pv 15) (Za (ZW ZdF hr Zz (Za (pv 2) (Za (pv 8) (Za (pv 15) Zc)))) Zc))))) Zc))))) (Zj (Zu Xc)) ZH))))))))
   (Zj (Zu Xc)))))))))))))))))),?_⟩
 refine ⟨_,rfl,rfl,l,ss,rfl,hl,l63,fun H1 Le ks ns s1 nLe hLe hR N gd k30=>?_⟩;refine ⟨_,rfl,rfl,Le,ks,ns,rfl,.of hLe,hR,gd,by omega,fun H2 De ed ls s2 nDe hE hb lnd hla hlk=>?_⟩;dsimp only [Z7];have hLe2:=s2 _ _ hLe;have hR2:JU K H2 ks:=fun p hp=>s2.sqt (hR p hp);have hl2:=(s1.trans s2).sql hl;have n24:=N.len;clear hLe hR hl s1 s2;refine fun Db nDb=>?_;dsimp only [Z7];refine fun b dx nb ndx nn=>⟨rfl,b,dx,rfl,Ze,fun H4 k bi li ti su hB4 keep nk nbi nli nti nsu=>⟨rfl,?_⟩⟩;obtain ⟨s4,f4⟩:=ZiL nb ndx keep nk nbi nli nti nsu;clear keep nk nbi nli nti nsu;have sD:∀o:HO,Same H2 (Zb H2 Db o):=fun o=>Zk nDb;refine ⟨_,rfl,Le,rfl,⟨_,.of (s4 _ _ (sD _ _ _ hLe2))⟩,XN (xs:=X0 ks) (fun i σ Hc=>∃(B:Bk) (v:Option V),σ=[some (.ref l),some (.ref Le),some (.ref De),some (.ref Db),some (.ref b),v,none,none,none,none,none,none,none,none,none,none]∧BkAt K T.c_Book Hc b dx k bi li ti su B∧LI5 ns B B.kept∧B.kept.map (·.1)=((ks.take i).map (·.1)).map Ent.told∧Same (Zb H2 Db (.dK (Y7 (YA ((ks.take i).map (·.1)))))) Hc∧∀c∈ft k bi li ti su B,c≠Db∧H2 c=none) ?start ?list ?turn ?done⟩
 case start=>exact ⟨VO,none,rfl,hB4,LI5.start ns,rfl,s4,fun c m=>JH.mp (f4 c m)⟩
 case list =>
  rintro i σ Hc _ ⟨B,v,rfl,_,_,_,sc,_⟩;exact ((sD _).trans sc).sql (.of hLe2)
 case turn =>
  rintro i y σ Hc hy ⟨B,v,rfl,hB,li5,hk,sc,g1⟩;obtain ⟨p,hp,rfl⟩:=Zg1 hy;obtain ⟨e,a⟩:=p;have il:=(QC.mp hp).1;have row:=((sD _).trans sc).sqt (hR2 _ (Qy hp));have tk:(ks.take (i+1)).map (·.1)=(ks.take i).map (·.1)++[e]:=ZfO hp;have gt:GdL ns ((ks.take i).map (·.1)++[e]):=by rw [←tk,Nt];exact gd.take _
  have hkl:B.kept.length≤60:=by
   have:=ZbR hk;rw [Qd,Qd,QV] at this;omega
  obtain ⟨no,d5,rm⟩:=GdL.ref li5 hk gt hkl (by omega);refine ⟨_,rfl,b,dx,_,rfl,hB.ob,rfl,_,rfl,rfl,b,dx,k,bi,li,ti,su,B,.ref a,e,rfl,hB,⟨a,rfl,row⟩,d5.1,no,rm,fun H6 B6 y hB6 hput bt hy gr grT=>?_⟩;obtain ⟨li6,sb6⟩:=li5.put' hput d5 no;obtain ⟨sc6,g6'⟩:=Zm5 bt hy grT sc fun c m=>JH.mpr (g1 c m);have g6:=fun c m=>JH.mp (g6' c m);have hk6:B6.kept.map (·.1)=((ks.take (i+1)).map (·.1)).map Ent.told:=by rw [sb6,tk,Qm,hk];rfl
  have row6:=((sD _).trans sc6).sqt (hR2 _ (Qy hp));have same:YA [e]=[]->YA ((ks.take (i+1)).map (·.1))=YA ((ks.take i).map (·.1)):=fun z=>by rw [tk,ZhF,z,Qt]
  cases e with
  |born n s d f m =>
   have hD6:=sc6 _ _ Ze
   have nn:n∉(YA ((ks.take i).map (·.1))).map (·.1):=by
    have nd:=li6.names.1;rw [ZfN hk6,tk,Rk] at nd;rw [Zav];exact fun m=>(QY.mp nd).2.2 n m n (by simp [Ent.bornName]) rfl
   refine ⟨_,rfl,a,_,_,_,rfl,rfl,row6,Zh (j:=0) rfl,rfl,_,rfl,Z4 (by trivial) ⟨_,rfl,a,_,_,_,rfl,rfl,row6,Zh (j:=3) rfl,_,rfl,_,rfl,a,_,_,_,rfl,rfl,row6,Zh (j:=1) rfl,Db,_,rfl,DPut.k (k:=.inr n) hD6 (Zy ?_),?_⟩⟩
   ·rw [Zbz,Zav];refine Qi (Gf _ _) ?_;rw [Qd,QV];omega
   rw [ZfF nn,show YA ((ks.take i).map (·.1))++[(n,kV (.inl d))]=YA ((ks.take (i+1)).map (·.1)) by rw [tk,ZhF];rfl];exact ⟨B6,_,rfl,hB6.offT hD6 fun m=>(g6 _ m).1 rfl,li6,hk6,Zp6 sc6,g6⟩
  |taken =>
   rw [←same rfl] at sc6;exact ⟨_,rfl,a,_,_,_,rfl,rfl,row6,Zh (j:=0) rfl,rfl,_,rfl,Zt (by trivial) ⟨B6,_,rfl,hB6,li6,hk6,sc6,g6⟩⟩
  |union =>
   rw [←same rfl] at sc6;exact ⟨_,rfl,a,_,_,_,rfl,rfl,row6,Zh (j:=0) rfl,rfl,_,rfl,Zt (by trivial) ⟨B6,_,rfl,hB6,li6,hk6,sc6,g6⟩⟩
  |parted =>
   rw [←same rfl] at sc6;exact ⟨_,rfl,a,_,_,_,rfl,rfl,row6,Zh (j:=0) rfl,rfl,_,rfl,Zt (by trivial) ⟨B6,_,rfl,hB6,li6,hk6,sc6,g6⟩⟩
  |dead =>
   rw [←same rfl] at sc6;exact ⟨_,rfl,a,_,_,_,rfl,rfl,row6,Zh (j:=0) rfl,rfl,_,rfl,Zt (by trivial) ⟨B6,_,rfl,hB6,li6,hk6,sc6,g6⟩⟩
  |given =>
   rw [←same rfl] at sc6;exact ⟨_,rfl,a,_,_,_,rfl,rfl,row6,Zh (j:=0) rfl,rfl,_,rfl,Zt (by trivial) ⟨B6,_,rfl,hB6,li6,hk6,sc6,g6⟩⟩
 case done =>
 rintro σ Hb ⟨B,v,rfl,hB,li5,hk,sc,_⟩;rw [Zar,QU] at hk sc;have j:Jn ns B (ks.map (·.1)) ls (lk ed):=⟨li5,hk,gd,lnd,hla,hlk⟩;have bn:Z2 B.kept=(ks.map (·.1)).filterMap Ent.bornName:=ZfN hk;have pnd:=li5.names.1;have pnl:(Z2 B.kept).length≤30:=by rw [bn];exact Qi (Gf _ _) (by rw [Qd];exact k30)
 have kn:∀n∈Z2 B.kept,Known B n:=fun n hn=>by
  obtain ⟨sn,dn,fn,mn,hborn⟩:=Zle (bn▸hn);exact (j.known hborn).1
 have hD:=sc _ _ Ze;have s2b:=(sD _).trans sc;have hlb:=s2b.sql hl2;have hEb:=hE.mono s2b;clear hR2 hLe2 hl2 hE s4 f4 hB4 sc s2b;obtain ⟨es,ees⟩:∃z,z=ks.map (·.1):=⟨_,rfl⟩;rw [←ees] at j bn hD;dsimp only [Z7];refine ⟨few rfl,fun L6 n6=>?_⟩;have s6:=Zk (o:=.lst (V9.map V.str)) n6;have h6:Zb Hb L6 (.lst (V9.map V.str)) L6=some (.lst (V9.map V.str)):=Ze;show Jg _ _ _ _ (Zb Hb L6 (.lst (V9.map V.str)));generalize Zb Hb L6 (.lst (V9.map V.str))=H6 at s6 h6 ⊢;refine ⟨_,rfl,rfl,l,ss,2,rfl,s6.sql hlb,by decide,fun c=>?_⟩;have m5:0≤c.fmod 5∧c.fmod 5<5:=⟨QZ _ (by decide),Rb _ (by decide)⟩;dsimp only [Z7];refine ⟨_,rfl,_,_,rfl,rfl,YT (by decide),_,_,rfl,rfl,_,rfl,by omega,by omega,ZoG (α:=Unit) (List.replicate (1+c.fmod 5).toNat (some ())) (fun _ _ v=>∃s,s∈Yg∧v=.str s) (fun _ _ _ _ _ _ h _ _=>h) (Zy (by rw [R6];omega)) (fun σ=>∃w,σ=[w,some (.ref L6),some (.ref l)]) ⟨_,rfl⟩ (fun j H4 hj sm=>?go) (fun H4 sm=>?stop) (fun j σ H4 x H5 o ho hσ sm hx C hN hS=>?step) (fun D8 ys H8 nD8 s8 hD8 yl hys=>?fin)⟩
 case go =>
  rw [R6] at hj;exact hj
 case stop =>
  rw [R6];exact Qe _
 case step =>
  obtain ⟨w,rfl⟩:=hσ;obtain ⟨rfl,rfl⟩:=hx;have jl:=(QC.mp ho).1;rw [R6] at jl;have ho':o=some ():=(List.mem_replicate.mp (Qy ho)).2;refine ⟨_,rfl,_,rfl,_,rfl,_,_,rfl,rfl,.inl ⟨by decide,by decide⟩,_,_,rfl,rfl,rfl,l,ss,_,rfl,(s6.trans sm).sql hlb,by omega,fun z2=>?_⟩;obtain ⟨s,hs,ea⟩:=Jf V.str V9 (by decide) z2;exact ⟨_,_,rfl,rfl,YT (by decide),L6,_,_,_,rfl,rfl,.of (sm _ _ h6),ea,hS () ho' _ _ _ ⟨_,rfl⟩ (Same.refl _) ⟨s,Zqy s hs,rfl⟩⟩
 case fin =>
 obtain ⟨ps0,rfl,p9⟩:∃ps:List Str,ys=ps.map V.str∧∀s∈ps,s∈Yg:=ZfP fun y hy=>by
  obtain ⟨m,hm⟩:=GN hy;have ml:=(QC.mp hm).1;refine hys m y () hm ?_;rw [yl] at ml;rw [Qw ml]
 have psl:1≤ps0.length∧ps0.length≤5:=by
  rw [Qd,List.filterMap_replicate_of_some (f:=id) rfl,R6] at yl;omega
 dsimp only [Z7];have s68:=s6.trans s8;refine Y1 (fun σ Hx=>Same Hb Hx∧∃(D8:Addr) (ps:List Str),σ=[some (.ref l),some (.ref Le),some (.ref De),some (.ref Db),some (.ref b),v,some (.ref L6),some (.int c),some (.ref D8),none,none,none,none,none,none,none]∧Hx D8=some (.lst (ps.map V.str))∧1≤ps.length∧ps.length≤12∧∀s∈ps,s∈Yg) (fun nx rest=>?_) ?_
 ·refine ⟨_,rfl,_,_,rfl,rfl,⟨by decide,Xu (by decide) (by decide)⟩,_,_,rfl,rfl,YT (by decide),rfl,_,rfl,Yo (fun h1=>?_) (fun h1=>rest _ _ ⟨s68,D8,ps0,rfl,hD8,psl.1,by omega,p9⟩)⟩;refine ⟨few rfl,fun A1 n1=>⟨few rfl,fun A2 n2=>⟨few rfl,fun A3 n3=>⟨few rfl,fun A4 n4=>⟨few rfl,fun A5 n5=>?_⟩⟩⟩⟩⟩;have e1:=Zk (o:=.lst ((["F","f"]:List Str).map V.str)) n1;have e2:=Zk (o:=.lst ((["M","m"]:List Str).map V.str)) n2;have e3:=Zk (o:=.lst ((["S"]:List Str).map V.str)) n3;have e4:=Zk (o:=.lst ((["m","F"]:List Str).map V.str)) n4;have e5:=Zk (o:=.lst [.ref A1,.ref A2,.ref A3,.ref A4]) n5;obtain ⟨v',hv',ea⟩:=at4 (c.fdiv 10) (.ref A1) (.ref A2) (.ref A3) (.ref A4);have e15:=e1.trans (e2.trans (e3.trans (e4.trans e5)))
  obtain ⟨Ai,qs,rfl,hA,q1,q2,q9⟩:∃(Ai:Addr) (qs:List Str),v'=.ref Ai∧Zb (Zb (Zb (Zb (Zb H8 A1 (.lst ((["F","f"]:List Str).map V.str))) A2 (.lst ((["M","m"]:List Str).map V.str))) A3 (.lst ((["S"]:List Str).map V.str))) A4 (.lst ((["m","F"]:List Str).map V.str))) A5 (.lst [.ref A1,.ref A2,.ref A3,.ref A4]) Ai=some (.lst (qs.map V.str))∧1≤qs.length∧qs.length≤2∧∀s∈qs,s∈Yg:=by
   simp only [Qh,QR,QS] at hv';rcases hv' with rfl|rfl|rfl|rfl
   ·exact ⟨A1,["F","f"],rfl,e5 _ _ (e4 _ _ (e3 _ _ (e2 _ _ Ze))),by decide,by decide,by trivial⟩
   ·exact ⟨A2,["M","m"],rfl,e5 _ _ (e4 _ _ (e3 _ _ Ze)),by decide,by decide,by trivial⟩
   ·exact ⟨A3,["S"],rfl,e5 _ _ (e4 _ _ Ze),by decide,by decide,by trivial⟩
   ·exact ⟨A4,["m","F"],rfl,e5 _ _ Ze,by decide,by decide,by trivial⟩
  refine ⟨_,rfl,_,_,rfl,rfl,⟨by decide,Xu (by decide) (by decide)⟩,_,_,rfl,rfl,YT (by decide),A5,_,_,_,rfl,rfl,.of Ze,ea,?_⟩;refine ⟨_,rfl,1,rfl,D8,_,rfl,.of (e15 _ _ hD8),fun P1 m1=>?_⟩;obtain ⟨ts,ets,tin,tl⟩:=ZmD ps0 none (some 1);rw [ets];have e6:=Zk (o:=.lst (ts.map V.str)) m1;refine ⟨Ai,P1,_,_,rfl,rfl,e6 _ _ hA,Ze,Q1 (Zy (by rw [Qd,Qd];omega)),fun P2 m2=>?_⟩;rw [←Qm];refine rest _ _ ⟨s68.trans (e15.trans (e6.trans (Zk m2))),P2,qs++ts,rfl,Ze,by rw [Qv];omega,by rw [Qv];omega,fun s hs=>?_⟩;rcases Qq.mp hs with h|h
  ·exact q9 s h
  ·exact p9 s (tin s h)
 clear hD8 nD8 s8 hys yl p9 psl s68;rintro σ Hx ⟨sx,D8,ps,rfl,hD8,p1,p12,p9⟩;refine ⟨few rfl,fun L9 n9=>?_⟩;have s9:=Zk (o:=.lst (YK.map V.str)) n9;have h9:Zb Hx L9 (.lst (YK.map V.str)) L9=some (.lst (YK.map V.str)):=Ze;show Jg _ _ _ _ (Zb Hx L9 (.lst (YK.map V.str)));generalize Zb Hx L9 (.lst (YK.map V.str))=H9 at s9 h9 ⊢;refine ⟨_,rfl,_,rfl,_,_,rfl,rfl,YT (by decide),_,rfl,L9,_,rfl,.of h9,fun P1 m1=>?_⟩;have e1:=Zk (o:=.lst (YU (YK.map V.str) (some (c.fmod 4)) none)) m1;refine ⟨_,rfl,_,rfl,_,_,rfl,rfl,YT (by decide),_,rfl,L9,_,rfl,.of (e1 _ _ h9),fun P2 m2=>?_⟩;have e2:=Zk (o:=.lst (YU (YK.map V.str) none (some (c.fmod 4)))) m2;obtain ⟨m0,m1',m2',m3,em,hm4⟩:=Zlr c;refine ⟨P1,P2,_,_,rfl,rfl,e2 _ _ Ze,Ze,Q1 (Zy ?_),fun La na=>?_⟩
 ·have:=Qj List.length em;rw [Qv] at this;exact Qi (Gs this) (show 4≤1000 by decide)
 rw [em];have e3:=Zk (o:=.lst ([m0,m1',m2',m3].map V.str)) na;have s9a:=s9.trans (e1.trans (e2.trans e3));have hLa:Zb (Zb (Zb H9 P1 (.lst (YU (YK.map V.str) (some (c.fmod 4)) none))) P2 (.lst (YU (YK.map V.str) none (some (c.fmod 4))))) La (.lst ([m0,m1',m2',m3].map V.str)) La=some (.lst ([m0,m1',m2',m3].map V.str)):=Ze;generalize Zb (Zb (Zb H9 P1 (.lst (YU (YK.map V.str) (some (c.fmod 4)) none))) P2 (.lst (YU (YK.map V.str) none (some (c.fmod 4))))) La (.lst ([m0,m1',m2',m3].map V.str))=Ha at s9a hLa ⊢;clear e1 e2 e3 s9 h9 m1 m2 n9 em;dsimp only [Z7]
 have w4:∀i:Nat,i<4->∃c,Ym ("abcd" : Str).cps.toList (i:Int)=some c∧Xy[i]?=some (("kin" : Str)++⟨#[c]⟩):=fun i hi=>by
  match i,hi with
  |0,_=>exact ⟨97,by trivial,by trivial⟩
  |1,_=>exact ⟨98,by trivial,by trivial⟩
  |2,_=>exact ⟨99,by trivial,by trivial⟩
  |3,_=>exact ⟨100,by trivial,by trivial⟩
 refine ⟨4,rfl,by decide,by decide,Ui (Xy.map V.str) (Zy (by decide)) (fun σ=>∃o,σ=[o]) ⟨none,rfl⟩ (fun i Hc hi sm=>hi) (fun Hc sm=>Qe _) (fun i σ Hc x Hd y hy hσ sm hx C hC=>?step) (fun Lw Hw nLw sw hLw=>?fin)⟩
 case step =>
  obtain ⟨o,rfl⟩:=hσ;obtain ⟨rfl,rfl⟩:=hx
  have i4:i<4:=by
   have:=(QC.mp hy).1;exact this
  obtain ⟨c',a1,a2⟩:=w4 i i4;rw [Qp,a2] at hy;cases hy;exact ⟨_,rfl,_,_,_,rfl,rfl,ZaW (by trivial),by rw [R4];exact a1,_,_,rfl,rfl,ZaW (by show ("kin" : Str).length+1≤100;trivial),hC _ _ ⟨_,rfl⟩ (Same.refl _)⟩
 case fin =>
 dsimp only [Z7];have sxw:=(s9a.trans sw);have good:=ZjF p1 p12 p9 hm4
 have r4:∀i:Nat,i<4->∃w m,Xy[i]?=some w∧[m0,m1',m2',m3][i]?=some m∧(Wl ps m0 m1' m2' m3)[i]?=some (w,[(ps,m)]):=fun i hi=>by
  match i,hi with
  |0,_=>exact ⟨_,_,rfl,rfl,rfl⟩
  |1,_=>exact ⟨_,_,rfl,rfl,rfl⟩
  |2,_=>exact ⟨_,_,rfl,rfl,rfl⟩
  |3,_=>exact ⟨_,_,rfl,rfl,rfl⟩
 refine ⟨4,rfl,by decide,by decide,Ui (((Wl ps m0 m1' m2' m3).map TongM.rowTxt).map V.str) (Zy (show 4≤1000 by decide)) (fun σ=>∃o,σ=[o,some (.ref Lw),some (.ref D8),some (.ref La)]) ⟨none,rfl⟩ (fun i Hc hi sm=>hi) (fun Hc sm=>Qe _) (fun i σ Hc x Hd y hy hσ sm hx C hC=>?step) (fun Ll Hl nLl sl hLl=>?fin)⟩
 case step =>
  obtain ⟨o,rfl⟩:=hσ;obtain ⟨rfl,rfl⟩:=hx;have i4:i<4:=(QC.mp hy).1;obtain ⟨w0,m,hw,hm,hr⟩:=r4 i i4;rw [Qp,Qp,hr] at hy;cases hy;have rl:=(TongM.row_sg good hr).2;rw [←Zfb p1,Rl] at rl;rw [←Zfb p1] at hC;have mk:=hm4 m (Qy hm);have ml:m.length≤7:=(show ∀m∈YK,m.length≤7 by trivial) m mk;have gm:=TongM.good_mem (fun w hw=>TongM.good_ws good i w hw) (b:=(ps,m)) ((good.br i _ hr).2.2 _ (by simp));rw [show (0:Int)+(i:Int)=i from R4 _];have a3:=ZaX (n:=i) hm;refine ⟨_,rfl,_,rfl,Lw,_,_,_,rfl,rfl,.of (sm _ _ hLw),ZaX (n:=i) hw,_,_,rfl,rfl,?l1,rfl,_,rfl,_,rfl,_,rfl,La,_,_,_,rfl,rfl,.of (sm _ _ (sw _ _ hLa)),a3,few rfl,fun M nM=>?_⟩
  case l1=>rw [Rl] at rl;exact Qi (RV _ _) (Qi rl (by trivial))
  have eM:=Zk (o:=.lst [.str m]) nM;refine ⟨_,rfl,_,rfl,La,_,_,_,rfl,rfl,.of (eM _ _ (sm _ _ (sw _ _ hLa))),a3,m,rfl,ZaW (by omega),_,rfl,M,_,rfl,.of Ze,fun P nP=>?_⟩;rw [ZpU mk];have eP:=Zk (o:=.lst ((if m="" then [] else [m]).map V.str)) nP;refine ⟨D8,P,_,_,rfl,rfl,eP _ _ (eM _ _ (sm _ _ (sw _ _ (s9a _ _ hD8)))),Ze,ZaW ?_,fun G nG=>?_⟩
  ·rw [Qd,Qd];split<;>simp<;>omega
  rw [←Qm];refine ⟨_,G,ps++(if m="" then [] else [m]),rfl,rfl,.inl (.of Ze),?_,_,_,rfl,rfl,Qi rl (by trivial),hC _ _ ⟨_,rfl⟩ (eM.trans (eP.trans (Zk nG)))⟩;have h1:=Zb3 (n:=9) fun x hx=>(gm x hx).2;have h2:(ps++(if m="" then [] else [m])).length≤13:=by rw [Qv];split<;>simp<;>omega
  have h3:(" " : Str).length=1:=by trivial
  rw [h3];simp only at h1;omega
 case fin =>
 dsimp only [Z7];have tr:=TongM.txt_read good;refine ⟨rfl,_,rfl,_,Ll,_,rfl,rfl,.inl (.of hLl),?_,fun o odx no nodx ne=>?_⟩
 ·have h1:=Zb3 (n:=1075) (l:=(Wl ps m0 m1' m2' m3).map TongM.rowTxt) fun x hx=>by
   obtain ⟨r,hr,rfl⟩:=Qg.mp hx;obtain ⟨i,hi⟩:=GN hr;exact (TongM.row_sg good hi).2
  have h2:((Wl ps m0 m1' m2' m3).map TongM.rowTxt).length=4:=rfl;have h3:("\n" : Str).length=1:=by trivial
  rw [h3];omega
 have es0:(Str.ofString "\n").join ((Wl ps m0 m1' m2' m3).map TongM.rowTxt)=TongM.txt (Wl ps m0 m1' m2' m3):=rfl;rw [es0]
 have r9:∀r∈Wl ps m0 m1' m2' m3,Nm r.1∧∀b∈r.2,∀p∈b.1,p∈Yg:=fun r hr=>by
  refine ⟨w4n r.1 (show r.1∈(Wl ps m0 m1' m2' m3).map (·.1) from Qg.mpr ⟨r,hr,rfl⟩),fun b hb p hp=>?_⟩;obtain ⟨i,hi⟩:=GN hr;have i4:i<4:=(QC.mp hi).1;obtain ⟨w0,m,hw,hm,hr'⟩:=r4 i i4;rw [hi] at hr';cases hr';obtain rfl:=QT.mp hb;exact p9 p hp
 refine ⟨rfl,o,odx,_,Wl ps m0 m1' m2' m3,rfl,Qi tr.2 (by decide),Ze,tr.1,r9,fun Hn d bt nd tg=>⟨rfl,?_⟩⟩;have sn:Same Hl Hn:=fun c u e=>bt c u (ZV e no) (by rw [Zg (ZV e no),Zg (ZV e nodx)];exact e)
 have ndl:Hl d=none:=by
  have:=(JH.mp nd).2;exact (JH.mp this).2
 have sbl:Same Hb Hl:=sx.trans (s9a.trans (sw.trans sl));obtain ⟨o',odx',z0,eo,ho,hdd⟩:=id tg;cases eo;have clo:=j.clo (by omega);have inP:=j.inPool hEb.kn;refine ⟨o,_,_,rfl,ho,rfl,_,rfl,rfl,.ref o,.ref b,d,bs4 ps m0 m1' m2' m3,ns,B,Hl,rfl,tg,(show Xy.Nodup by trivial),(show 4≤10 by decide),sn,ndl,⟨_,_,_,_,_,_,_,rfl,hB.mono sbl⟩,clo,pnd,pnl,kn,fun Ht t tab st ht et ok=>?_⟩;have sbt:Same Hb Ht:=sbl.trans (sn.trans st);have hDt:=sbt _ _ hD;have hLat:Ht La=_:=st _ _ (sn _ _ (sl _ _ (sw _ _ hLa)));have hLwt:Ht Lw=_:=st _ _ (sn _ _ (sl _ _ hLw));have hD8t:Ht D8=_:=st _ _ (sn _ _ (sl _ _ (sw _ _ (s9a _ _ hD8))));have hEt:=hEb.mono sbt;have et':tab.map (·.1)=Xy:=et;have wnd:Xy.Nodup:=by trivial
 clear hLl hLw hLa hD8 sl sw s9a sx sn st;dsimp only [Z7];have tz:(tab.map fun q=>(q.1,V.ref q.2.1)).map (·.1)=Xy:=by rw [QH];exact et'
 refine ⟨_,rfl,_,.ty "dict",_,_,rfl,rfl,.of (.dK ht),T.kl_dict,_,rfl,ZS ⟨_,rfl,t,tab.map (fun q=>(q.1,V.ref q.2.1)),rfl,by rw [ht];unfold YJ;rw [QH];rfl,?_,fun Lq nq=>?_⟩⟩
 ·have:=Qj List.length tz;rw [Qd] at this;exact Qi (Gs this) (by decide)
 rw [tz];have sq:=Zk (o:=.lst (Xy.map V.str)) nq;refine ⟨_,rfl,Lq,Lw,Xy,rfl,rfl,.of Ze,.of (sq _ _ hLwt),_,rfl,ZS ?_⟩;generalize Zb Ht Lq (.lst (Xy.map V.str))=Hq at sq ⊢;dsimp only [Z7]
 have bo:∀x,Known B x->ZD (Y7 (YA es)) (.inr x)=some (.int (ZX B x)):=fun x hx=>by
  obtain ⟨s,f,m,hb⟩:=j.day hx;exact ZjT (by rw [←bn];exact pnd) hb
 have kn0:(YA es).map (·.1)=Z2 B.kept:=by rw [bn,Zav]
 have sbq:=sbt.trans sq;have hDq:=sbq _ _ hD
 have BL:(YA es).length≤30:=by
  have:=Qj List.length kn0;rw [Qd] at this;omega
 refine ⟨_,rfl,by decide,by decide,ZaT (fun i σ Hx=>Same Hq Hx∧∃v13 v14 v15,σ=[some (.ref l),some (.ref Le),some (.ref De),some (.ref Db),some (.ref b),v,some (.ref L6),some (.int c),some (.ref D8),some (.ref La),some (.ref Lw),some (.ref Ll),some (.ref t),v13,v14,v15]) ⟨.refl _,_,_,_,rfl⟩ ?jt ?jd⟩
 case jd =>
  rintro σ Hx ⟨_,v13,v14,v15,rfl⟩;exact q _
 case jt =>
 rintro i σ Hx hi ⟨sx,v13,v14,v15,rfl⟩;have i4:i<4:=hi;rw [show (0:Int)+(i:Int)=i from R4 _];obtain ⟨w0,m,hw,hm,hr⟩:=r4 i i4;obtain ⟨qq,hqq,eq,hval⟩:=ZlB et' wnd hw;obtain ⟨hrow,hnam,hlist⟩:=ok qq hqq;have stx:=sq.trans sx;have dg:=DGet.k (k:=.inr w0) (stx _ _ ht);rw [hval] at dg;dsimp only [Z7];refine ⟨_,rfl,_,rfl,_,rfl,Lw,_,_,_,rfl,rfl,.of (stx _ _ hLwt),ZaX (n:=i) hw,t,_,rfl,dg,?_⟩;have rz:(qq.2.2.map fun r=>(r.1,V.ref r.2.1)).map (·.1)=Zw (Z2 B.kept):=by rw [QH];exact hnam
 have rl:qq.2.2.length≤30:=by
  have:=Qj List.length hnam;rw [Qd,(Xp _).length_eq] at this;omega
 dsimp only [Z7];refine ⟨_,rfl,_,.ty "dict",_,_,rfl,rfl,.of (.dK (stx _ _ hrow)),T.kl_dict,_,rfl,ZS ⟨_,rfl,qq.2.1,qq.2.2.map (fun r=>(r.1,V.ref r.2.1)),rfl,by rw [stx _ _ hrow];unfold YS;rw [QH];rfl,by rw [Qd];omega,fun L1 n1=>?_⟩⟩;rw [rz];have e1:=Zk (o:=.lst ((Zw (Z2 B.kept)).map V.str)) n1;refine ⟨_,rfl,Db,YA es,rfl,e1 _ _ (sx _ _ hDq),by omega,fun L2 zs2 n2 hp2 hs2=>?_⟩;rw [kn0] at hp2;obtain rfl:=Zaq hp2 hs2;have e2:=Zk (o:=.lst ((Zw (Z2 B.kept)).map V.str)) n2;refine ⟨L1,L2,_,rfl,rfl,.of (e2 _ _ Ze),.of Ze,_,rfl,ZS ?_⟩;have sqm:=sx.trans (e1.trans e2);generalize Zb (Zb Hx L1 (.lst ((Zw (Z2 B.kept)).map V.str))) L2 (.lst ((Zw (Z2 B.kept)).map V.str))=Hm at sqm ⊢;have stm:=sq.trans sqm;have hDm:=sqm _ _ hDq;clear e1 e2 n1 n2 stx dg;refine ⟨Db,Y7 (YA es),hDm,?_⟩;refine ⟨_,rfl,Db,_,rfl,hDm,fun ob=>?_⟩;refine Zgb (kvs:=Y7 (YA es)) (fun _ σ Hj=>Xe Db Hm Hj∧Hj Db=some (.frz ob (.dK (Y7 (YA es))))∧∃v15,σ=[some (.ref l),some (.ref Le),some (.ref De),some (.ref Db),some (.ref b),v,some (.ref L6),some (.int c),some (.ref D8),some (.ref La),some (.ref Lw),some (.ref Ll),some (.ref t),some (.int i),some (.ref qq.2.1),v15]) ?start ?list ?turn ?done
 case start=>exact ⟨fun c u nc e=>by rw [Zg nc];exact e,Ze,_,rfl⟩
 case list =>
  rintro i' σ Hj _ ⟨_,hd,_⟩;exact hd
 case done =>
  rintro σ Hj ⟨bt',hd,v15',rfl⟩;refine ⟨ob,hd,fun c u e=>?_,_,_,_,rfl⟩;by_cases z:c=Db
  ·rw [z] at e ⊢;rw [hDq] at e;cases e;exact Ze
  ·rw [Zg z];exact bt' _ _ z (sqm _ _ e)
 case turn =>
 rintro i' p σ Hj hp ⟨bt',hd,v15',rfl⟩;rw [Qp] at hp;obtain ⟨pz,hpz,rfl⟩:=QN.mp hp;obtain ⟨n,dv⟩:=pz;have hn:n∈Z2 B.kept:=by rw [←kn0];exact Qg.mpr ⟨_,Qy hpz,rfl⟩
 have kN:=kn n hn;obtain ⟨r,hr1,er,hvr⟩:=Zlw hnam ((Xp _).nodup_iff.mpr pnd) ((Xp _).mem_iff.mpr hn);have off:∀{a:Addr} {u:HO},Ht a=some u->(∀ys,u≠.dK ys)->Hj a=some u:=fun {a u} e nk=>bt' _ _ (fun z=>by rw [z,hDt] at e;cases e;exact nk _ rfl) (stm _ _ e)
 have kdb:qq.2.1≠Db:=fun z=>by
  have e:=hrow;rw [z,hDt] at e;have e2:Y7 (YA es)=YS qq.2.2:=HO.dK.inj (Ql e);rw [←e2,bo n kN] at hvr;cases hvr
 have dg2:=DGet.k (k:=.inr n) (bt' _ _ kdb (stm _ _ hrow));rw [hvr] at dg2;have hE':=(hEt.mono stm).but bt' hDm;have hl7:=hlist r hr1;refine ⟨_,rfl,_,rfl,qq.2.1,_,rfl,dg2,_,rfl,_,rfl,_,rfl,La,_,_,_,rfl,rfl,.of (off hLat fun _ z=>by cases z),ZaX (n:=i) hm,_,rfl,_,rfl,_,rfl,_,rfl,rfl,De,D8,n,ps,ed,ns,rfl,hE',.of (off hD8t fun _ z=>by cases z),by omega,clo.inp _ kN,inP,by omega,fun H7 D7 xs s7 nD7 hD7 srt=>?_⟩;have xin:∀x∈xs,Known B x:=fun x hx=>Us clo.led p9 (fun x e=>by rw [e];exact kN) x ((j.same kN p9 x).mpr ((srt.mem x).mp hx));have xl:xs.length≤60:=Qi (W1 srt.nd fun x hx=>clo.inp _ (xin x hx)) clo.few;refine ⟨rfl,Db,D7,m,n,xs,B,Y7 (YA es),rfl,.inr ⟨ob,s7 _ _ hd⟩,.of hD7,xl,bo,kN,xin,fun H8 D9 s8 hD9=>?_⟩
 have eqr:r.2.2=xs.filter (Yb B m n):=by
  refine (hl7.2 (ps,m) ?_).eq (srt.filt (Yb B m n)) fun x=>?_
  ·rw [eq];obtain ⟨q2,hq2,e2⟩:=Qg.mp (Qy hr)
   have e3:q2=(w0,(ps,m)):=by
    have h1:q2.1=w0:=Qj (·.1) e2;have h2:q2.2=(ps,m):=by have:=Qj (·.2) e2;simpa using this
    rw [←h1,←h2]
   rw [←e3];exact hq2
  ·rw [er,j.same kN p9]
 have hr7:H8 r.2.1=_:=s8 _ _ (s7 _ _ (off hl7.1 fun _ z=>by cases z));refine ⟨rfl,r.2.1,D9,xs.filter (Yb B m n),rfl,.of (by rw [←eqr];exact hr7),hD9,Qi (Np _ _) (by omega),_,rfl,Zt (by rfl) ⟨fun c u nc e=>s8 _ _ (s7 _ _ (bt' _ _ nc e)),s8 _ _ (s7 _ _ hd),_,rfl⟩⟩
end
theorem Zm6 {K:W.Frag} (T:Tx K w mg):Zgq P base T:=by
 have Ut:=Zi6 (P:=P) (w:=w) (base:=base) T;have W0:=ZpD (P:=P) (w:=w) (base:=base) T;have Zep:=Zke (P:=P) (w:=w) (base:=base) T Ut;have Zcb:=Zju (P:=P) (w:=w) (base:=base) T Ut;have Zc5:=ZkU (P:=P) (w:=w) (base:=base) T;have ZeC:=Zm9 (P:=P) (w:=w) (base:=base) T W0;have Zdx:=ZlA (P:=P) (w:=w) (base:=base) T W0 Zep Zcb Zc5 ZeC;have Zdg:=Zpi (P:=P) (w:=w) (base:=base) T Zdx;have UU:=Zkv (P:=P) (w:=w) (base:=base) T;have U1:=ZnE (P:=P) (w:=w) (base:=base) T;have Zeu:=ZmA (P:=P) (w:=w) (base:=base) T;have Ud:=ZoC (P:=P) (w:=w) (base:=base) T UU;have Uj:=Zjn (P:=P) (w:=w) (base:=base) T Ud;have UO:=ZjI (P:=P) (w:=w) (base:=base) T;have Uv:=Zo4 (P:=P) (w:=w) (base:=base) T;have Zdd:=Zmp (P:=P) (w:=w) (base:=base) T;have Xm:=Zqf (P:=P) (w:=w) (base:=base) T;have U6:=Zm7 (P:=P) (w:=w) (base:=base) T Xm;have XH:=Zma (P:=P) (w:=w) (base:=base) T Xm;have Zas:=ZpJ (P:=P) (w:=w) (base:=base) T U6 XH;have ZbZ:=ZoW (P:=P) (w:=w) (base:=base) T U1 Zeu XH Zas;have Zco:=Zls (P:=P) (w:=w) (base:=base) T Zdg U1 Uj Xm ZbZ;have XM:=ZkK (P:=P) (w:=w) (base:=base) T;have ZdI:=Zm1 (P:=P) (w:=w) (base:=base) T XM;have U8:=Zkl (P:=P) (w:=w) (base:=base) T UO Xm;have Zd2:=ZkL (P:=P) (w:=w) (base:=base) T Uv Xm;have Zcj:=Zkd (P:=P) (w:=w) (base:=base) T Uv XM U8 Zd2;have ZcS:=Zqq (P:=P) (w:=w) (base:=base) T UU Ud Uj Zco XM ZdI Zcj;have Zek:=Zor (P:=P) (w:=w) (base:=base) T;have U0:=Zlp (P:=P) (w:=w) (base:=base) T;have Ul:=ZlP (P:=P) (w:=w) (base:=base) T U6 U8 U0;have Zdw:=Znw (P:=P) (w:=w) (base:=base) T;have ZbP:=ZmL (P:=P) (w:=w) (base:=base) T Ul;have Zeo:=ZnY (P:=P) (w:=w) (base:=base) T;have ZeN:=ZlQ (P:=P) (w:=w) (base:=base) T Ul;have Zdh:=Zn5 (P:=P) (w:=w) (base:=base) T;have Zb5:=Zkw (P:=P) (w:=w) (base:=base) T;have Jk:=ZmI (P:=P) (w:=w) (base:=base) T ZbP ZeN Zb5;have ZeF:=Zi5 (P:=P) (w:=w) (base:=base) T XH;have Zd3:=ZnK (P:=P) (w:=w) (base:=base) T UO U0 Zdw Zeo Zdh;have ZeA:=Zqu (P:=P) (w:=w) (base:=base) T Zd3;have Zdl:=Znv (P:=P) (w:=w) (base:=base) T ZeA;have ZeV:=Zny (P:=P) (w:=w) (base:=base) T W0 Zdl;have Zeq:=ZlZ (P:=P) (w:=w) (base:=base) T ZeV;have ZdL:=Zmd (P:=P) (w:=w) (base:=base) T Jk;have Zcm:=Zj2 (P:=P) (w:=w) (base:=base) T ZeF ZdL;have Zeb:=ZjU (P:=P) (w:=w) (base:=base) T Zcm;have Zd8:=Zj9 (P:=P) (w:=w) (base:=base) T Zek Zeb;have Vx:=Zkr (P:=P) (w:=w) (base:=base) T;have Zds:=Znb (P:=P) (w:=w) (base:=base) T;have Zcy:=Zlm (P:=P) (w:=w) (base:=base) T;have ZcI:=Zk3 (P:=P) (w:=w) (base:=base) T;have ZeO:=ZoI (P:=P) (w:=w) (base:=base) T;have ZdP:=ZiO (P:=P) (w:=w) (base:=base) T Vx Zds Zcy ZcI ZeO;have ZaJ:=ZnX (P:=P) (w:=w) (base:=base) T;have ZeJ:=Zqt (P:=P) (w:=w) (base:=base) T ZaJ;have ZbU:=ZmV (P:=P) (w:=w) (base:=base) T;have ZdF:=ZlT (P:=P) (w:=w) (base:=base) T;have Zch:=Zkx (P:=P) (w:=w) (base:=base) T;have Zqg:=ZiQ (P:=P) (w:=w) (base:=base) T Zdd ZcS Zeq Zd8 Vx ZdP ZeJ ZbU ZdF Zch;exact Zqg
theorem Zqk {K:W.Frag} (T:Tx K w mg) {vs:List V} {E:XK} (h:Jt K vs H Q E):ZhM T vs H Q E:=by
 obtain ⟨a,ns,rfl,r⟩:=h;exact ⟨rfl,a,ns,rfl,r⟩
theorem all_mk {l:W.OpenLaw} {K:W.Frag} {h:Heap} {fa:Addr} (X:K.In h) (G:h.Ns mainGlobals mg) (hfa:mg "law"=some (.ref fa))
 {OC_Said:Addr}
 {OC_Test:Addr}
 {OC_Letter:Addr}
 {OC_Piece:Addr}
 {OC_Tongue:Addr}
 {OC_Book:Addr}
 {f0:Addr}
 {f1:Addr}
 {f2:Addr}
 {f3:Addr}
 {f4:Addr}
 {f5:Addr}
 {f6:Addr}
 {f7:Addr}
 {f8:Addr}
 {f9:Addr}
 {f10:Addr}
 {f11:Addr}
 {f12:Addr}
 {f13:Addr}
 {f14:Addr}
 {f15:Addr}
 {f16:Addr}
 {f17:Addr}
 {f18:Addr}
 {f19:Addr}
 {f20:Addr}
 {f21:Addr}
 {f22:Addr}
 {f23:Addr}
 {f24:Addr}
 {f25:Addr}
 {od25 an25:Option Addr} {sl25:Array (Option Value)} {oc25 kV25 dc25 pm25 cd25 ct25:Value}
 {DT25:Addr} {odD25:Option Addr} {nD25:Nat} {slD25:Array (Option Value)}
 {f26:Addr}
 {f27:Addr}
 {f28:Addr}
 {f29:Addr}
 {f30:Addr}
 {f31:Addr}
 {f32:Addr}
 {f33:Addr}
 {f34:Addr}
 {f35:Addr}
 {f36:Addr}
 {f37:Addr}
 {f38:Addr}
 {f39:Addr}
 {f40:Addr}
 {f41:Addr}
 {f42:Addr}
 {f43:Addr}
 {f44:Addr}
 {f45:Addr}
 {f46:Addr}
 {f47:Addr}
 {f48:Addr}
 {f49:Addr}
 {f50:Addr}
 {f51:Addr}
 {f52:Addr}
 {f53:Addr}
 {f54:Addr}
 {f55:Addr}
 {f56:Addr}
 {f57:Addr}
 {f58:Addr}
 {f59:Addr}
 {C0:Addr}
 {C1:Addr}
 {C2:Addr}
 {C3:Addr}
 {C4:Addr}
 {C5:Addr}
 {C6:Addr}
 {C7:Addr}
 {F0:Addr} {odF:Option Addr} {nF:Nat} {slF:Array (Option Value)} {tL:Tok}
 {P0 G0:Addr} {tp0:Tok} {odp0 odg0:Option Addr} {np0 ng0:Nat} {slp0 slg0:Array (Option Value)}
 {P1 G1:Addr} {tp1:Tok} {odp1 odg1:Option Addr} {np1 ng1:Nat} {slp1 slg1:Array (Option Value)}
 {P2 G2:Addr} {tp2:Tok} {odp2 odg2:Option Addr} {np2 ng2:Nat} {slp2 slg2:Array (Option Value)}
 {P3 G3:Addr} {tp3:Tok} {odp3 odg3:Option Addr} {np3 ng3:Nat} {slp3 slg3:Array (Option Value)}
 {P4 G4:Addr} {tp4:Tok} {odp4 odg4:Option Addr} {np4 ng4:Nat} {slp4 slg4:Array (Option Value)}
 {P5 G5:Addr} {tp5:Tok} {odp5 odg5:Option Addr} {np5 ng5:Nat} {slp5 slg5:Array (Option Value)}
 {KT0:Addr} {odT0:Option Addr} {nT0:Nat} {slT0:Array (Option Value)} {tt0_0:Tok} {tt0_1:Tok} {tt0_2:Tok} {tt0_3:Tok} {tt0_4:Tok} {tt0_5:Tok} {tt0_6:Tok}
 {KT1:Addr} {odT1:Option Addr} {nT1:Nat} {slT1:Array (Option Value)} {tt1_0:Tok} {tt1_1:Tok}
 {KT2:Addr} {odT2:Option Addr} {nT2:Nat} {slT2:Array (Option Value)} {tt2_0:Tok} {tt2_1:Tok} {tt2_2:Tok}
 {ti0:Tok}
 {ti1:Tok}
 {ti2:Tok}
 {ti3:Tok}
 {ti4:Tok}
 (ao5:W.nsIn K mainGlobals "Said"=some (some (.ref OC_Said)))
 (ao4:W.nsIn K mainGlobals "Test"=some (some (.ref OC_Test)))
 (ao3:W.nsIn K mainGlobals "Letter"=some (some (.ref OC_Letter)))
 (ao2:W.nsIn K mainGlobals "Piece"=some (some (.ref OC_Piece)))
 (ao1:W.nsIn K mainGlobals "Tongue"=some (some (.ref OC_Tongue)))
 (ao0:W.nsIn K mainGlobals "Book"=some (some (.ref OC_Book)))
 (a0:W.nsIn K mainGlobals "is_whole"=some (some (.ref f0)))
 (l0:DefIn K "is_whole" "is_whole" Zdq f0)
 (a1:W.nsIn K mainGlobals "is_name"=some (some (.ref f1)))
 (l1:DefIn K "is_name" "is_name" Zez f1)
 (a2:W.nsIn K mainGlobals "is_day"=some (some (.ref f2)))
 (l2:DefIn K "is_day" "is_day" ZdC f2)
 (a3:W.nsIn K mainGlobals "is_amount"=some (some (.ref f3)))
 (l3:DefIn K "is_amount" "is_amount" ZcF f3)
 (a4:W.nsIn K mainGlobals "is_sort"=some (some (.ref f4)))
 (l4:DefIn K "is_sort" "is_sort" ZbN f4)
 (a5:W.nsIn K mainGlobals "is_parent"=some (some (.ref f5)))
 (l5:DefIn K "is_parent" "is_parent" ZcQ f5)
 (a6:W.nsIn K mainGlobals "has_form"=some (some (.ref f6)))
 (l6:DefIn K "has_form" "has_form" ZcC f6)
 (a7:W.nsIn K mainGlobals "is_entry"=some (some (.ref f7)))
 (l7:DefIn K "is_entry" "is_entry" Zc7 f7)
 (a8:W.nsIn K mainGlobals "is_tie"=some (some (.ref f8)))
 (l8:DefIn K "is_tie" "is_tie" Zb8 f8)
 (a9:W.nsIn K mainGlobals "named_in"=some (some (.ref f9)))
 (l9:DefIn K "named_in" "named_in" ZcT f9)
 (a10:W.nsIn K mainGlobals "day_of"=some (some (.ref f10)))
 (l10:DefIn K "day_of" "day_of" Zet f10)
 (a11:W.nsIn K mainGlobals "as_told"=some (some (.ref f11)))
 (l11:DefIn K "as_told" "as_told" Zef f11)
 (a12:W.nsIn K mainGlobals "key_of"=some (some (.ref f12)))
 (l12:DefIn K "key_of" "key_of" ZbT f12)
 (a13:W.nsIn K mainGlobals "is_letter"=some (some (.ref f13)))
 (l13:DefIn K "is_letter" "is_letter" Zev f13)
 (a14:W.nsIn K mainGlobals "pair_of"=some (some (.ref f14)))
 (l14:DefIn K "pair_of" "pair_of" ZeM f14)
 (a15:W.findIn K (.ref OC_Book) "__init__"=some (some (.ref f15))) (i15:W.isFn K (.ref f15)=true)
 (l15:DefIn K "__init__" "Book.__init__" Zda f15)
 (a16:W.findIn K (.ref OC_Book) "birth_of"=some (some (.ref f16))) (i16:W.isFn K (.ref f16)=true)
 (l16:DefIn K "birth_of" "Book.birth_of" ZeU f16)
 (a17:W.findIn K (.ref OC_Book) "sort_of"=some (some (.ref f17))) (i17:W.isFn K (.ref f17)=true)
 (l17:DefIn K "sort_of" "Book.sort_of" Zc0 f17)
 (a18:W.findIn K (.ref OC_Book) "born_on"=some (some (.ref f18))) (i18:W.isFn K (.ref f18)=true)
 (l18:DefIn K "born_on" "Book.born_on" Zd7 f18)
 (a19:W.findIn K (.ref OC_Book) "parent_fits"=some (some (.ref f19))) (i19:W.isFn K (.ref f19)=true)
 (l19:DefIn K "parent_fits" "Book.parent_fits" ZbO f19)
 (a20:W.findIn K (.ref OC_Book) "fits"=some (some (.ref f20))) (i20:W.isFn K (.ref f20)=true)
 (l20:DefIn K "fits" "Book.fits" Zd0 f20)
 (a21:W.findIn K (.ref OC_Book) "refuse"=some (some (.ref f21))) (i21:W.isFn K (.ref f21)=true)
 (l21:DefIn K "refuse" "Book.refuse" Zdm f21)
 (a22:W.findIn K (.ref OC_Book) "link"=some (some (.ref f22))) (i22:W.isFn K (.ref f22)=true)
 (l22:DefIn K "link" "Book.link" ZeI f22)
 (a23:W.findIn K (.ref OC_Book) "note_birth"=some (some (.ref f23))) (i23:W.isFn K (.ref f23)=true)
 (l23:DefIn K "note_birth" "Book.note_birth" Zcr f23)
 (a24:W.findIn K (.ref OC_Book) "step"=some (some (.ref f24))) (i24:W.isFn K (.ref f24)=true)
 (l24:DefIn K "step" "Book.step" ZcD f24)
 (a25:W.findIn K (.ref OC_Book) "stands"=some (some (.ref f25))) (i25:W.isFn K (.ref f25)=true)
 (l25:K.lookup f25=some ⟨oc25,od25,.func (W.fnOf "stands" "Book.stands" (XW WL) (XB WL) (Zx WL) (.ref DT25) kV25 dc25 pm25 an25 cd25 ct25),sl25⟩)
 (cc25:W.codeIn K cd25 "Book.stands"=true) (k25:W.keepIn K (.ref f25)=true)
 (ldt25:K.lookup DT25=some ⟨.type "tuple",odD25,.seq #[.none] nD25,slD25⟩)
 (a26:W.findIn K (.ref OC_Book) "note_tie"=some (some (.ref f26))) (i26:W.isFn K (.ref f26)=true)
 (l26:DefIn K "note_tie" "Book.note_tie" Zb2 f26)
 (a27:W.findIn K (.ref OC_Book) "put"=some (some (.ref f27))) (i27:W.isFn K (.ref f27)=true)
 (l27:DefIn K "put" "Book.put" Zd5 f27)
 (a28:W.findIn K (.ref OC_Book) "people"=some (some (.ref f28))) (i28:W.isFn K (.ref f28)=true)
 (l28:DefIn K "people" "Book.people" ZcO f28)
 (a29:W.nsIn K mainGlobals "is_test"=some (some (.ref f29)))
 (l29:DefIn K "is_test" "is_test" Zdn f29)
 (a30:W.nsIn K mainGlobals "led_by_step"=some (some (.ref f30)))
 (l30:DefIn K "led_by_step" "led_by_step" ZdA f30)
 (a31:W.findIn K (.ref OC_Letter) "__init__"=some (some (.ref f31))) (i31:W.isFn K (.ref f31)=true)
 (l31:DefIn K "__init__" "Letter.__init__" Zcu f31)
 (a32:W.findIn K (.ref OC_Letter) "leads_one"=some (some (.ref f32))) (i32:W.isFn K (.ref f32)=true)
 (l32:DefIn K "leads_one" "Letter.leads_one" Zc8 f32)
 (a33:W.findIn K (.ref OC_Test) "__init__"=some (some (.ref f33))) (i33:W.isFn K (.ref f33)=true)
 (l33:DefIn K "__init__" "Test.__init__" Zcq f33)
 (a34:W.findIn K (.ref OC_Test) "leads_one"=some (some (.ref f34))) (i34:W.isFn K (.ref f34)=true)
 (l34:DefIn K "leads_one" "Test.leads_one" Zd1 f34)
 (a35:W.findIn K (.ref OC_Said) "__init__"=some (some (.ref f35))) (i35:W.isFn K (.ref f35)=true)
 (l35:DefIn K "__init__" "Said.__init__" Zes f35)
 (a36:W.findIn K (.ref OC_Said) "leads_one"=some (some (.ref f36))) (i36:W.isFn K (.ref f36)=true)
 (l36:DefIn K "leads_one" "Said.leads_one" ZbS f36)
 (a37:W.findIn K (.ref OC_Piece) "leads"=some (some (.ref f37))) (i37:W.isFn K (.ref f37)=true)
 (l37:DefIn K "leads" "Piece.leads" ZcY f37)
 (a38:W.nsIn K mainGlobals "keeps_mark"=some (some (.ref f38)))
 (l38:DefIn K "keeps_mark" "keeps_mark" Zb0 f38)
 (a39:W.nsIn K mainGlobals "read_piece"=some (some (.ref f39)))
 (l39:DefIn K "read_piece" "read_piece" ZdN f39)
 (a40:W.nsIn K mainGlobals "read_part"=some (some (.ref f40)))
 (l40:DefIn K "read_part" "read_part" ZdO f40)
 (a41:W.nsIn K mainGlobals "read_parts"=some (some (.ref f41)))
 (l41:DefIn K "read_parts" "read_parts" Zcg f41)
 (a42:W.nsIn K mainGlobals "read_rows"=some (some (.ref f42)))
 (l42:DefIn K "read_rows" "read_rows" ZcP f42)
 (a43:W.findIn K (.ref OC_Tongue) "__init__"=some (some (.ref f43))) (i43:W.isFn K (.ref f43)=true)
 (l43:DefIn K "__init__" "Tongue.__init__" ZcN f43)
 (a44:W.findIn K (.ref OC_Tongue) "led_by_piece"=some (some (.ref f44))) (i44:W.isFn K (.ref f44)=true)
 (l44:DefIn K "led_by_piece" "Tongue.led_by_piece" Zcf f44)
 (a45:W.findIn K (.ref OC_Tongue) "led_by_part"=some (some (.ref f45))) (i45:W.isFn K (.ref f45)=true)
 (l45:DefIn K "led_by_part" "Tongue.led_by_part" Zcw f45)
 (a46:W.findIn K (.ref OC_Tongue) "led"=some (some (.ref f46))) (i46:W.isFn K (.ref f46)=true)
 (l46:DefIn K "led" "Tongue.led" Zen f46)
 (a47:W.findIn K (.ref OC_Tongue) "table"=some (some (.ref f47))) (i47:W.isFn K (.ref f47)=true)
 (l47:DefIn K "table" "Tongue.table" Zea f47)
 (a48:W.nsIn K mainGlobals "_law_cell_at"=some (some (.ref f48)))
 (l48:DefIn K "_law_cell_at" "_law_cell_at" Zc3 f48)
 (a49:W.nsIn K mainGlobals "_law_names"=some (some (.ref f49)))
 (l49:DefIn K "_law_names" "_law_names" ZcZ f49)
 (a50:W.nsIn K mainGlobals "_law_day"=some (some (.ref f50)))
 (l50:DefIn K "_law_day" "_law_day" ZcB f50)
 (a51:W.nsIn K mainGlobals "_law_birth"=some (some (.ref f51)))
 (l51:DefIn K "_law_birth" "_law_birth" ZeD f51)
 (a52:W.nsIn K mainGlobals "_law_deed"=some (some (.ref f52)))
 (l52:DefIn K "_law_deed" "_law_deed" Zc1 f52)
 (a53:W.nsIn K mainGlobals "_law_entries"=some (some (.ref f53)))
 (l53:DefIn K "_law_entries" "_law_entries" Zd6 f53)
 (a54:W.nsIn K mainGlobals "_law_lead"=some (some (.ref f54)))
 (l54:DefIn K "_law_lead" "_law_lead" Zeh f54)
 (a55:W.nsIn K mainGlobals "_law_edges"=some (some (.ref f55)))
 (l55:DefIn K "_law_edges" "_law_edges" ZeS f55)
 (a56:W.nsIn K mainGlobals "_law_alike"=some (some (.ref f56)))
 (l56:DefIn K "_law_alike" "_law_alike" Zcx f56)
 (a57:W.nsIn K mainGlobals "_law_reach"=some (some (.ref f57)))
 (l57:DefIn K "_law_reach" "_law_reach" Zce f57)
 (a58:W.nsIn K mainGlobals "_law_marked"=some (some (.ref f58)))
 (l58:DefIn K "_law_marked" "_law_marked" ZcJ f58)
 (a59:W.nsIn K mainGlobals "law"=some (some (.ref f59)))
 (l59:DefIn K "law" "law" ZcA f59)
 (pg0:W.plainGet K OC_Book Str.empty=true) (hd0:W.hasDictIn K OC_Book=true) (po0:W.plainOver K OC_Book=true) (sa0:W.findIn K (.ref OC_Book) "__setattr__"=some (some (.builtin "object.__setattr__"))) (mk0:W.makesIn K OC_Book=true) (kc0:W.keepIn K (.ref OC_Book)=true)
 (na0_kept:W.findIn K (.ref OC_Book) "kept"=some none)
 (na0_births:W.findIn K (.ref OC_Book) "births"=some none)
 (na0_links:W.findIn K (.ref OC_Book) "links"=some none)
 (na0_ties:W.findIn K (.ref OC_Book) "ties"=some none)
 (na0_sums:W.findIn K (.ref OC_Book) "sums"=some none)
 (pg1:W.plainGet K OC_Tongue Str.empty=true) (hd1:W.hasDictIn K OC_Tongue=true) (po1:W.plainOver K OC_Tongue=true) (sa1:W.findIn K (.ref OC_Tongue) "__setattr__"=some (some (.builtin "object.__setattr__"))) (mk1:W.makesIn K OC_Tongue=true) (kc1:W.keepIn K (.ref OC_Tongue)=true)
 (na1_rows:W.findIn K (.ref OC_Tongue) "rows"=some none)
 (na1_source:W.findIn K (.ref OC_Tongue) "source"=some none)
 (pg3:W.plainGet K OC_Letter Str.empty=true) (hd3:W.hasDictIn K OC_Letter=true) (po3:W.plainOver K OC_Letter=true) (sa3:W.findIn K (.ref OC_Letter) "__setattr__"=some (some (.builtin "object.__setattr__"))) (mk3:W.makesIn K OC_Letter=true) (kc3:W.keepIn K (.ref OC_Letter)=true)
 (na3_letter:W.findIn K (.ref OC_Letter) "letter"=some none)
 (pg4:W.plainGet K OC_Test Str.empty=true) (hd4:W.hasDictIn K OC_Test=true) (po4:W.plainOver K OC_Test=true) (sa4:W.findIn K (.ref OC_Test) "__setattr__"=some (some (.builtin "object.__setattr__"))) (YK:W.makesIn K OC_Test=true) (kc4:W.keepIn K (.ref OC_Test)=true)
 (na4_wanted:W.findIn K (.ref OC_Test) "wanted"=some none)
 (pg5:W.plainGet K OC_Said Str.empty=true) (hd5:W.hasDictIn K OC_Said=true) (po5:W.plainOver K OC_Said=true) (sa5:W.findIn K (.ref OC_Said) "__setattr__"=some (some (.builtin "object.__setattr__"))) (mk5:W.makesIn K OC_Said=true) (kc5:W.keepIn K (.ref OC_Said)=true)
 (na5_word:W.findIn K (.ref OC_Said) "word"=some none)
 (ac0:W.nsIn K mainGlobals "HeirError"=some (some (.ref C0)))
 (ac1:W.nsIn K mainGlobals "NoEntry"=some (some (.ref C1)))
 (xc1:W.excIn K C1 Xv "ValueError.__new__"=true)
 (e1_1:W.findIn K (.ref C1) "__getattribute__"=some (some (.builtin "BaseException.__getattribute__"))) (e2_1:W.findIn K (.ref C1) "__getattr__"=some none) (e3_1:W.findIn K (.ref C1) "__class__"=some (some (.builtin "object.__class__"))) (e4_1:W.mroIn K C1 (.type "BaseException")=some true) (e5_1:W.mroIn K C1 (.type "object")=some true)
 (ac2:W.nsIn K mainGlobals "Full"=some (some (.ref C2)))
 (xc2:W.excIn K C2 Xv "ValueError.__new__"=true)
 (e1_2:W.findIn K (.ref C2) "__getattribute__"=some (some (.builtin "BaseException.__getattribute__"))) (e2_2:W.findIn K (.ref C2) "__getattr__"=some none) (e3_2:W.findIn K (.ref C2) "__class__"=some (some (.builtin "object.__class__"))) (e4_2:W.mroIn K C2 (.type "BaseException")=some true) (e5_2:W.mroIn K C2 (.type "object")=some true)
 (ac3:W.nsIn K mainGlobals "NoPerson"=some (some (.ref C3)))
 (xc3:W.excIn K C3 Xv "ValueError.__new__"=true)
 (e1_3:W.findIn K (.ref C3) "__getattribute__"=some (some (.builtin "BaseException.__getattribute__"))) (e2_3:W.findIn K (.ref C3) "__getattr__"=some none) (e3_3:W.findIn K (.ref C3) "__class__"=some (some (.builtin "object.__class__"))) (e4_3:W.mroIn K C3 (.type "BaseException")=some true) (e5_3:W.mroIn K C3 (.type "object")=some true)
 (ac4:W.nsIn K mainGlobals "Twice"=some (some (.ref C4)))
 (xc4:W.excIn K C4 Xv "ValueError.__new__"=true)
 (e1_4:W.findIn K (.ref C4) "__getattribute__"=some (some (.builtin "BaseException.__getattribute__"))) (e2_4:W.findIn K (.ref C4) "__getattr__"=some none) (e3_4:W.findIn K (.ref C4) "__class__"=some (some (.builtin "object.__class__"))) (e4_4:W.mroIn K C4 (.type "BaseException")=some true) (e5_4:W.mroIn K C4 (.type "object")=some true)
 (ac5:W.nsIn K mainGlobals "NoFit"=some (some (.ref C5)))
 (xc5:W.excIn K C5 Xv "ValueError.__new__"=true)
 (e1_5:W.findIn K (.ref C5) "__getattribute__"=some (some (.builtin "BaseException.__getattribute__"))) (e2_5:W.findIn K (.ref C5) "__getattr__"=some none) (e3_5:W.findIn K (.ref C5) "__class__"=some (some (.builtin "object.__class__"))) (e4_5:W.mroIn K C5 (.type "BaseException")=some true) (e5_5:W.mroIn K C5 (.type "object")=some true)
 (ac6:W.nsIn K mainGlobals "NoWay"=some (some (.ref C6)))
 (xc6:W.excIn K C6 Xv "ValueError.__new__"=true)
 (e1_6:W.findIn K (.ref C6) "__getattribute__"=some (some (.builtin "BaseException.__getattribute__"))) (e2_6:W.findIn K (.ref C6) "__getattr__"=some none) (e3_6:W.findIn K (.ref C6) "__class__"=some (some (.builtin "object.__class__"))) (e4_6:W.mroIn K C6 (.type "BaseException")=some true) (e5_6:W.mroIn K C6 (.type "object")=some true)
 (ac7:W.nsIn K mainGlobals "NoTongue"=some (some (.ref C7)))
 (xc7:W.excIn K C7 Xv "ValueError.__new__"=true)
 (e1_7:W.findIn K (.ref C7) "__getattribute__"=some (some (.builtin "BaseException.__getattribute__"))) (e2_7:W.findIn K (.ref C7) "__getattr__"=some none) (e3_7:W.findIn K (.ref C7) "__class__"=some (some (.builtin "object.__class__"))) (e4_7:W.mroIn K C7 (.type "BaseException")=some true) (e5_7:W.mroIn K C7 (.type "object")=some true)
 (z_abs:W.nsIn K mainGlobals "abs"=some none)
 (z_all:W.nsIn K mainGlobals "all"=some none)
 (z_bool:W.nsIn K mainGlobals "bool"=some none)
 (z_dict:W.nsIn K mainGlobals "dict"=some none)
 (z_int:W.nsIn K mainGlobals "int"=some none)
 (z_isinstance:W.nsIn K mainGlobals "isinstance"=some none)
 (z_len:W.nsIn K mainGlobals "len"=some none)
 (z_list:W.nsIn K mainGlobals "list"=some none)
 (z_max:W.nsIn K mainGlobals "max"=some none)
 (z_min:W.nsIn K mainGlobals "min"=some none)
 (z_range:W.nsIn K mainGlobals "range"=some none)
 (z_sorted:W.nsIn K mainGlobals "sorted"=some none)
 (z_str:W.nsIn K mainGlobals "str"=some none)
 (z_tuple:W.nsIn K mainGlobals "tuple"=some none)
 (z_zip:W.nsIn K mainGlobals "zip"=some none)
 (q_k_int_int:W.kitOne K (.type "int") (.type "int")=some true)
 (q_k_int_str:W.kitOne K (.type "int") (.type "str")=some false)
 (q_k_int_tuple:W.kitOne K (.type "int") (.type "tuple")=some false)
 (q_k_int_bool:W.kitOne K (.type "int") (.type "bool")=some false)
 (q_k_str_int:W.kitOne K (.type "str") (.type "int")=some false)
 (q_k_str_str:W.kitOne K (.type "str") (.type "str")=some true)
 (q_k_str_tuple:W.kitOne K (.type "str") (.type "tuple")=some false)
 (q_k_bool_int:W.kitOne K (.type "bool") (.type "int")=some true)
 (q_k_bool_str:W.kitOne K (.type "bool") (.type "str")=some false)
 (q_k_bool_tuple:W.kitOne K (.type "bool") (.type "tuple")=some false)
 (q_k_bool_bool:W.kitOne K (.type "bool") (.type "bool")=some true)
 (q_k_NoneType_int:W.kitOne K (.type "NoneType") (.type "int")=some false)
 (q_k_NoneType_str:W.kitOne K (.type "NoneType") (.type "str")=some false)
 (q_k_NoneType_tuple:W.kitOne K (.type "NoneType") (.type "tuple")=some false)
 (q_k_tuple_int:W.kitOne K (.type "tuple") (.type "int")=some false)
 (q_k_tuple_str:W.kitOne K (.type "tuple") (.type "str")=some false)
 (q_k_tuple_tuple:W.kitOne K (.type "tuple") (.type "tuple")=some true)
 (q_k_list_int:W.kitOne K (.type "list") (.type "int")=some false)
 (q_k_list_str:W.kitOne K (.type "list") (.type "str")=some false)
 (q_k_list_tuple:W.kitOne K (.type "list") (.type "tuple")=some false)
 (q_k_dict_int:W.kitOne K (.type "dict") (.type "int")=some false)
 (q_k_dict_str:W.kitOne K (.type "dict") (.type "str")=some false)
 (q_k_dict_tuple:W.kitOne K (.type "dict") (.type "tuple")=some false)
 (q_kl_list:W.kitOne K (.type "list") (.type "list")=some true)
 (q_kl_dict:W.kitOne K (.type "dict") (.type "dict")=some true)
 (q_kx_HeirError:W.kitOne K (.ref C3) (.ref C0)=some true)
 (q_kx_ValueError:W.kitOne K (.ref C3) (.type "ValueError")=some true)
 (y_lm_Letter:W.findIn K (.ref OC_Letter) "leads"=some (some (.ref f37)))
 (y_ci_Letter:W.findIn K (.ref OC_Letter) "__class__"=some (some (.builtin "object.__class__")))
 (y_mo_Letter:W.mroIn K OC_Letter (.type "object")=some true)
 (y_kp_Letter:W.kitOne K (.ref OC_Letter) (.ref OC_Said)=some false)
 (y_lm_Test:W.findIn K (.ref OC_Test) "leads"=some (some (.ref f37)))
 (y_ci_Test:W.findIn K (.ref OC_Test) "__class__"=some (some (.builtin "object.__class__")))
 (y_mo_Test:W.mroIn K OC_Test (.type "object")=some true)
 (y_kp_Test:W.kitOne K (.ref OC_Test) (.ref OC_Said)=some false)
 (y_lm_Said:W.findIn K (.ref OC_Said) "leads"=some (some (.ref f37)))
 (y_ci_Said:W.findIn K (.ref OC_Said) "__class__"=some (some (.builtin "object.__class__")))
 (y_mo_Said:W.mroIn K OC_Said (.type "object")=some true)
 (y_kp_Said:W.kitOne K (.ref OC_Said) (.ref OC_Said)=some true)
 (y_cg:W.specialIn K (.builtin "object.__class__") "__get__"=some (some (.builtin "getset_descriptor.__get__")))
 (y_ct:W.takesIn K (.builtin "object.__class__")=some true)
 (zF:W.nsIn K mainGlobals "FORMS"=some (some (.ref F0)))
 (zL:W.nsIn K mainGlobals "LETTERS"=some (some (.str "abcdefghijklmnopqrstuvwxyz" tL)))
 (uF:K.lookup F0=some ⟨.type "tuple",odF,.seq #[.ref P0,.ref P1,.ref P2,.ref P3,.ref P4,.ref P5] nF,slF⟩)
 (up0:K.lookup P0=some ⟨.type "tuple",odp0,.seq #[.str "born" tp0,.ref G0] np0,slp0⟩)
 (up1:K.lookup P1=some ⟨.type "tuple",odp1,.seq #[.str "taken" tp1,.ref G1] np1,slp1⟩)
 (up2:K.lookup P2=some ⟨.type "tuple",odp2,.seq #[.str "union" tp2,.ref G2] np2,slp2⟩)
 (up3:K.lookup P3=some ⟨.type "tuple",odp3,.seq #[.str "parted" tp3,.ref G3] np3,slp3⟩)
 (up4:K.lookup P4=some ⟨.type "tuple",odp4,.seq #[.str "dead" tp4,.ref G4] np4,slp4⟩)
 (up5:K.lookup P5=some ⟨.type "tuple",odp5,.seq #[.str "given" tp5,.ref G5] np5,slp5⟩)
 (ug0:K.lookup G0=some ⟨.type "tuple",odg0,.seq #[.ref f1,.ref f4,.ref f2,.ref f5,.ref f5] ng0,slg0⟩)
 (ug1:K.lookup G1=some ⟨.type "tuple",odg1,.seq #[.ref f1,.ref f1,.ref f2] ng1,slg1⟩)
 (ug2:K.lookup G2=some ⟨.type "tuple",odg2,.seq #[.ref f1,.ref f1,.ref f2] ng2,slg2⟩)
 (ug3:K.lookup G3=some ⟨.type "tuple",odg3,.seq #[.ref f1,.ref f1,.ref f2] ng3,slg3⟩)
 (ug4:K.lookup G4=some ⟨.type "tuple",odg4,.seq #[.ref f1,.ref f2] ng4,slg4⟩)
 (ug5:K.lookup G5=some ⟨.type "tuple",odg5,.seq #[.ref f1,.ref f1,.ref f3,.ref f2] ng5,slg5⟩)
 (zt0:W.nsIn K mainGlobals "STEP_LETTERS"=some (some (.ref KT0)))
 (ut0:K.lookup KT0=some ⟨.type "tuple",odT0,.seq #[.str "F" tt0_0,.str "M" tt0_1,.str "T" tt0_2,.str "f" tt0_3,.str "m" tt0_4,.str "t" tt0_5,.str "S" tt0_6] nT0,slT0⟩)
 (zt1:W.nsIn K mainGlobals "TESTS"=some (some (.ref KT1)))
 (ut1:K.lookup KT1=some ⟨.type "tuple",odT1,.seq #[.str "he" tt1_0,.str "she" tt1_1] nT1,slT1⟩)
 (zt2:W.nsIn K mainGlobals "MARKS"=some (some (.ref KT2)))
 (ut2:K.lookup KT2=some ⟨.type "tuple",odT2,.seq #[.str "other" tt2_0,.str "elder" tt2_1,.str "younger" tt2_2] nT2,slT2⟩)
 (zi0:W.nsIn K mainGlobals "MOST_ENTRIES"=some (some (.int 400 ti0)))
 (zi1:W.nsIn K mainGlobals "MOST_PEOPLE"=some (some (.int 60 ti1)))
 (zi2:W.nsIn K mainGlobals "MOST_ROWS"=some (some (.int 40 ti2)))
 (zi3:W.nsIn K mainGlobals "MOST_PARTS"=some (some (.int 8 ti3)))
 (zi4:W.nsIn K mainGlobals "MOST_PIECES"=some (some (.int 12 ti4))) :
  ∃fd:FuncData,(∀(s:Shared) (v:Value),BindsTo s fd ⟨[v],[]⟩ [("_law_script",v)])∧∀base:Heap,K.In base->base.Ns mainGlobals mg->FnOk l.prog w K mg base (ZA l.prog w) 10 fa fd ["_law_script"] (Jt K):=by
 have e:=hfa.symm.trans (QJ X G a59);cases e;have T:Σ' (T:Tx K w mg),T.VM.a=fa:=⟨{ c_Said:=OC_Said,c_Test:=OC_Test,c_Letter:=OC_Letter,c_Piece:=OC_Piece,c_Tongue:=OC_Tongue,c_Book:=OC_Book,ZaE:=.of X G a0 l0 (fun _ _ _ _ _ _=>Y4 fun _=>rfl),Y9:=.of X G a1 l1 (fun _ _ _ _ _ _=>Y4 fun _=>rfl),Xz:=.of X G a2 l2 (fun _ _ _ _ _ _=>Y4 fun _=>rfl),WB:=.of X G a3 l3 (fun _ _ _ _ _ _=>Y4 fun _=>rfl),WA:=.of X G a4 l4 (fun _ _ _ _ _ _=>Y4 fun _=>rfl),Wk:=.of X G a5 l5 (fun _ _ _ _ _ _=>Y4 fun _=>rfl),ZbJ:=.of X G a6 l6 (fun _ _ _ _ _ _=>Y2 fun _ _=>rfl),Zao:=.of X G a7 l7 (fun _ _ _ _ _ _=>Y4 fun _=>rfl),ZaV:=.of X G a8 l8 (fun _ _ _ _ _ _=>Y4 fun _=>rfl),ZaZ:=.of X G a9 l9 (fun _ _ _ _ _ _=>Y4 fun _=>rfl),Zay:=.of X G a10 l10 (fun _ _ _ _ _ _=>Y4 fun _=>rfl),Zbn:=.of X G a11 l11 (fun _ _ _ _ _ _=>Y4 fun _=>rfl),ZaB:=.of X G a12 l12 (fun _ _ _ _ _ _=>Y4 fun _=>rfl),Zbf:=.of X G a13 l13 (fun _ _ _ _ _ _=>Y4 fun _=>rfl),Zaz:=.of X G a14 l14 (fun _ _ _ _ _ _=>Y2 fun _ _=>rfl),Ux:=.of a15 i15 l15 (fun _ _ _ _ _ _=>Y4 fun _=>rfl),Xj:=.of a16 i16 l16 (fun _ _ _ _ _ _=>Y2 fun _ _=>rfl),Vc:=.of a17 i17 l17 (fun _ _ _ _ _ _=>Y2 fun _ _=>rfl),Y3:=.of a18 i18 l18 (fun _ _ _ _ _ _=>Y2 fun _ _=>rfl),Vy:=.of a19 i19 l19 (fun _ _ _ _ _ _=>Wx fun _ _ _ _=>rfl),Up:=.of a20 i20 l20 (fun _ _ _ _ _ _=>Y2 fun _ _=>rfl),Uw:=.of a21 i21 l21 (fun _ _ _ _ _ _=>Y2 fun _ _=>rfl),Xb:=.of a22 i22 l22 (fun _ _ _ _ _ _=>Wx fun _ _ _ _=>rfl),UM:=.of a23 i23 l23 (fun _ _ _ _ _ _=>Y2 fun _ _=>rfl),Ve:=.of a24 i24 l24 (fun _ _ _ _ _ _=>JO fun _ _ _=>rfl),a_Book_stands:=f25,fd_Book_stands:=W.fnOf "stands" "Book.stands" (XW WL) (XB WL) (Zx WL) (.ref DT25) kV25 dc25 pm25 an25 cd25 ct25,dt_Book_stands:=DT25,F_Book_stands:=ZiC (st:=WL) l25 cc25 k25,b_Book_stands:=(ZiC (st:=WL) l25 cc25 k25).binds1 ldt25 rfl (fun _ _ _ _ _ _ us hl=>match us,hl with|[_,_,_],_=>⟨_,rfl,rfl⟩),me_Book_stands:=⟨a25,i25,k25⟩,Uy:=.of a26 i26 l26 (fun _ _ _ _ _ _=>Y2 fun _ _=>rfl),UY:=.of a27 i27 l27 (fun _ _ _ _ _ _=>Y2 fun _ _=>rfl),UF:=.of a28 i28 l28 (fun _ _ _ _ _ _=>Y4 fun _=>rfl),Zaj:=.of X G a29 l29 (fun _ _ _ _ _ _=>Y4 fun _=>rfl),Zbb:=.of X G a30 l30 (fun _ _ _ _ _ _=>JO fun _ _ _=>rfl),UK:=.of a31 i31 l31 (fun _ _ _ _ _ _=>Y2 fun _ _=>rfl),U4:=.of a32 i32 l32 (fun _ _ _ _ _ _=>Wx fun _ _ _ _=>rfl),UH:=.of a33 i33 l33 (fun _ _ _ _ _ _=>Y2 fun _ _=>rfl),U9:=.of a34 i34 l34 (fun _ _ _ _ _ _=>Wx fun _ _ _ _=>rfl),UN:=.of a35 i35 l35 (fun _ _ _ _ _ _=>Y2 fun _ _=>rfl),UW:=.of a36 i36 l36 (fun _ _ _ _ _ _=>Wx fun _ _ _ _=>rfl),Xl:=.of a37 i37 l37 (fun _ _ _ _ _ _=>Wx fun _ _ _ _=>rfl),Zby:=.of X G a38 l38 (fun _ _ _ _ _ _=>Wx fun _ _ _ _=>rfl),ZbE:=.of X G a39 l39 (fun _ _ _ _ _ _=>Y2 fun _ _=>rfl),ZaQ:=.of X G a40 l40 (fun _ _ _ _ _ _=>Y2 fun _ _=>rfl),ZbM:=.of X G a41 l41 (fun _ _ _ _ _ _=>Y2 fun _ _=>rfl),Zbk:=.of X G a42 l42 (fun _ _ _ _ _ _=>Y4 fun _=>rfl),UE:=.of a43 i43 l43 (fun _ _ _ _ _ _=>Y2 fun _ _=>rfl),Uz:=.of a44 i44 l44 (fun _ _ _ _ _ _=>un5 fun _ _ _ _ _=>rfl),UD:=.of a45 i45 l45 (fun _ _ _ _ _ _=>un5 fun _ _ _ _ _=>rfl),Vs:=.of a46 i46 l46 (fun _ _ _ _ _ _=>un5 fun _ _ _ _ _=>rfl),Uh:=.of a47 i47 l47 (fun _ _ _ _ _ _=>Y2 fun _ _=>rfl),Za3:=.of X G a48 l48 (fun _ _ _ _ _ _=>Y2 fun _ _=>rfl),Zam:=.of X G a49 l49 (fun _ _ _ _ _ _=>Y4 fun _=>rfl),ZbH:=.of X G a50 l50 (fun _ _ _ _ _ _=>JO fun _ _ _=>rfl),ZbL:=.of X G a51 l51 (fun _ _ _ _ _ _=>Wx fun _ _ _ _=>rfl),Za0:=.of X G a52 l52 (fun _ _ _ _ _ _=>Wx fun _ _ _ _=>rfl),Zbg:=.of X G a53 l53 (fun _ _ _ _ _ _=>JO fun _ _ _=>rfl),ZaG:=.of X G a54 l54 (fun _ _ _ _ _ _=>Wx fun _ _ _ _=>rfl),Zbh:=.of X G a55 l55 (fun _ _ _ _ _ _=>Y4 fun _=>rfl),Zbs:=.of X G a56 l56 (fun _ _ _ _ _ _=>Y2 fun _ _=>rfl),Zaw:=.of X G a57 l57 (fun _ _ _ _ _ _=>JO fun _ _ _=>rfl),ZaS:=.of X G a58 l58 (fun _ _ _ _ _ _=>Wx fun _ _ _ _=>rfl),VM:=.of X G a59 l59 (fun _ _ _ _ _ _=>Y4 fun _=>rfl),m_Book:=(QJ X G ao0),cl_Book:=⟨pg0,hd0,po0,sa0⟩,mk_Book:=⟨mk0,a15,i15,kc0⟩,na_Book_kept:=na0_kept,na_Book_births:=na0_births,na_Book_links:=na0_links,na_Book_ties:=na0_ties,na_Book_sums:=na0_sums,m_Tongue:=(QJ X G ao1),cl_Tongue:=⟨pg1,hd1,po1,sa1⟩,mk_Tongue:=⟨mk1,a43,i43,kc1⟩,na_Tongue_rows:=na1_rows,na_Tongue_source:=na1_source,m_Piece:=(QJ X G ao2),m_Letter:=(QJ X G ao3),cl_Letter:=⟨pg3,hd3,po3,sa3⟩,mk_Letter:=⟨mk3,a31,i31,kc3⟩,na_Letter_letter:=na3_letter,m_Test:=(QJ X G ao4),cl_Test:=⟨pg4,hd4,po4,sa4⟩,mk_Test:=⟨YK,a33,i33,kc4⟩,na_Test_wanted:=na4_wanted,m_Said:=(QJ X G ao5),cl_Said:=⟨pg5,hd5,po5,sa5⟩,mk_Said:=⟨mk5,a35,i35,kc5⟩,na_Said_word:=na5_word,c_HeirError:=C0,m_HeirError:=(QJ X G ac0),c_NoEntry:=C1,m_NoEntry:=(QJ X G ac1),x_NoEntry:=xc1,e_NoEntry:=⟨e1_1,e2_1,e3_1,e4_1,e5_1⟩,c_Full:=C2,m_Full:=(QJ X G ac2),x_Full:=xc2,e_Full:=⟨e1_2,e2_2,e3_2,e4_2,e5_2⟩,c_NoPerson:=C3,m_NoPerson:=(QJ X G ac3),x_NoPerson:=xc3,e_NoPerson:=⟨e1_3,e2_3,e3_3,e4_3,e5_3⟩,c_Twice:=C4,m_Twice:=(QJ X G ac4),x_Twice:=xc4,e_Twice:=⟨e1_4,e2_4,e3_4,e4_4,e5_4⟩,c_NoFit:=C5,m_NoFit:=(QJ X G ac5),x_NoFit:=xc5,e_NoFit:=⟨e1_5,e2_5,e3_5,e4_5,e5_5⟩,c_NoWay:=C6,m_NoWay:=(QJ X G ac6),x_NoWay:=xc6,e_NoWay:=⟨e1_6,e2_6,e3_6,e4_6,e5_6⟩,c_NoTongue:=C7,m_NoTongue:=(QJ X G ac7),x_NoTongue:=xc7,e_NoTongue:=⟨e1_7,e2_7,e3_7,e4_7,e5_7⟩,n_abs:=(Q3 X G z_abs),n_all:=(Q3 X G z_all),n_bool:=(Q3 X G z_bool),n_dict:=(Q3 X G z_dict),n_int:=(Q3 X G z_int),n_isinstance:=(Q3 X G z_isinstance),n_len:=(Q3 X G z_len),n_list:=(Q3 X G z_list),n_max:=(Q3 X G z_max),n_min:=(Q3 X G z_min),n_range:=(Q3 X G z_range),n_sorted:=(Q3 X G z_sorted),n_str:=(Q3 X G z_str),n_tuple:=(Q3 X G z_tuple),n_zip:=(Q3 X G z_zip),k_int_int:=q_k_int_int,k_int_str:=q_k_int_str,k_int_tuple:=q_k_int_tuple,k_int_bool:=q_k_int_bool,k_str_int:=q_k_str_int,k_str_str:=q_k_str_str,k_str_tuple:=q_k_str_tuple,k_bool_int:=q_k_bool_int,k_bool_str:=q_k_bool_str,k_bool_tuple:=q_k_bool_tuple,k_bool_bool:=q_k_bool_bool,k_NoneType_int:=q_k_NoneType_int,k_NoneType_str:=q_k_NoneType_str,k_NoneType_tuple:=q_k_NoneType_tuple,k_tuple_int:=q_k_tuple_int,k_tuple_str:=q_k_tuple_str,k_tuple_tuple:=q_k_tuple_tuple,k_list_int:=q_k_list_int,k_list_str:=q_k_list_str,k_list_tuple:=q_k_list_tuple,k_dict_int:=q_k_dict_int,k_dict_str:=q_k_dict_str,k_dict_tuple:=q_k_dict_tuple,kl_list:=q_kl_list,kl_dict:=q_kl_dict,kx_HeirError:=q_kx_HeirError,kx_ValueError:=q_kx_ValueError,lm_Letter:=y_lm_Letter,ci_Letter:=y_ci_Letter,mo_Letter:=y_mo_Letter,kp_Letter:=y_kp_Letter,lm_Test:=y_lm_Test,ci_Test:=y_ci_Test,mo_Test:=y_mo_Test,kp_Test:=y_kp_Test,lm_Said:=y_lm_Said,ci_Said:=y_ci_Said,mo_Said:=y_mo_Said,kp_Said:=y_kp_Said,cg:=y_cg,ct:=y_ct,aF:=F0,m_FORMS:=(QJ X G zF),tkL:=tL,m_LETTERS:=(QJ X G zL),p0:=P0,g0:=G0,p1:=P1,g1:=G1,p2:=P2,g2:=G2,p3:=P3,g3:=G3,p4:=P4,g4:=G4,p5:=P5,g5:=G5,sF:=fun _=>.inr ⟨_,_,_,uF,rfl,rfl,Zy (QE rfl),.cons rfl (.cons rfl (.cons rfl (.cons rfl (.cons rfl (.cons rfl .nil)))))⟩,sp0:=fun _=>.inr ⟨_,_,_,up0,rfl,rfl,Zy (QE rfl),.cons ⟨_,rfl⟩ (.cons rfl .nil)⟩,sp1:=fun _=>.inr ⟨_,_,_,up1,rfl,rfl,Zy (QE rfl),.cons ⟨_,rfl⟩ (.cons rfl .nil)⟩,sp2:=fun _=>.inr ⟨_,_,_,up2,rfl,rfl,Zy (QE rfl),.cons ⟨_,rfl⟩ (.cons rfl .nil)⟩,sp3:=fun _=>.inr ⟨_,_,_,up3,rfl,rfl,Zy (QE rfl),.cons ⟨_,rfl⟩ (.cons rfl .nil)⟩,sp4:=fun _=>.inr ⟨_,_,_,up4,rfl,rfl,Zy (QE rfl),.cons ⟨_,rfl⟩ (.cons rfl .nil)⟩,sp5:=fun _=>.inr ⟨_,_,_,up5,rfl,rfl,Zy (QE rfl),.cons ⟨_,rfl⟩ (.cons rfl .nil)⟩,sg0:=fun _=>.inr ⟨_,_,_,ug0,rfl,rfl,Zy (QE rfl),.cons rfl (.cons rfl (.cons rfl (.cons rfl (.cons rfl (.nil)))))⟩,sg1:=fun _=>.inr ⟨_,_,_,ug1,rfl,rfl,Zy (QE rfl),.cons rfl (.cons rfl (.cons rfl (.nil)))⟩,sg2:=fun _=>.inr ⟨_,_,_,ug2,rfl,rfl,Zy (QE rfl),.cons rfl (.cons rfl (.cons rfl (.nil)))⟩,sg3:=fun _=>.inr ⟨_,_,_,ug3,rfl,rfl,Zy (QE rfl),.cons rfl (.cons rfl (.cons rfl (.nil)))⟩,sg4:=fun _=>.inr ⟨_,_,_,ug4,rfl,rfl,Zy (QE rfl),.cons rfl (.cons rfl (.nil))⟩,sg5:=fun _=>.inr ⟨_,_,_,ug5,rfl,rfl,Zy (QE rfl),.cons rfl (.cons rfl (.cons rfl (.cons rfl (.nil))))⟩,a_STEP_LETTERS:=KT0,m_STEP_LETTERS:=(QJ X G zt0),Zgx:=fun _=>.inr ⟨_,_,_,ut0,rfl,rfl,Zy (QE rfl),.cons ⟨_,rfl⟩ (.cons ⟨_,rfl⟩ (.cons ⟨_,rfl⟩ (.cons ⟨_,rfl⟩ (.cons ⟨_,rfl⟩ (.cons ⟨_,rfl⟩ (.cons ⟨_,rfl⟩ (.nil)))))))⟩,a_TESTS:=KT1,m_TESTS:=(QJ X G zt1),Zf9:=fun _=>.inr ⟨_,_,_,ut1,rfl,rfl,Zy (QE rfl),.cons ⟨_,rfl⟩ (.cons ⟨_,rfl⟩ (.nil))⟩,a_MARKS:=KT2,m_MARKS:=(QJ X G zt2),Zdb:=fun _=>.inr ⟨_,_,_,ut2,rfl,rfl,Zy (QE rfl),.cons ⟨_,rfl⟩ (.cons ⟨_,rfl⟩ (.cons ⟨_,rfl⟩ (.nil)))⟩,t_MOST_ENTRIES:=ti0,m_MOST_ENTRIES:=(QJ X G zi0),t_MOST_PEOPLE:=ti1,m_MOST_PEOPLE:=(QJ X G zi1),t_MOST_ROWS:=ti2,m_MOST_ROWS:=(QJ X G zi2),t_MOST_PARTS:=ti3,m_MOST_PARTS:=(QJ X G zi3),t_MOST_PIECES:=ti4,m_MOST_PIECES:=(QJ X G zi4) },rfl⟩;obtain ⟨T,ea⟩:=T;subst ea;refine ⟨(ZC K T.VM.a),fun s v=>?_,fun base _ _=>(Zm6 T).imp fun vs H Q E z=>?_⟩
 ·obtain ⟨oc,od,kV,doc,pm,an,cdv,ct,osl,e,_⟩:=T.VM.F.ex;rw [e];exact .of_eq rfl
 exact Zqk T z
theorem walk {l:W.OpenLaw} {q:Program} {loose:List Str} {XP:(Str->Option Value)->Heap->Prop} {YP:World->Heap->Prop} {d:DefRec} {K:Params->W.Frag} (hn:l.most=some 63) (hdf:d.params.defaults=[])
 (hY:∀(w:World) (h:Heap),YP w h->(K w.params).In h)
 (F:∀(w:World) (mg:Str->Option Value) (fa:Addr) (h:Heap),(K w.params).In h->h.Ns mainGlobals mg->mg d.name=some (.ref fa) →
 ∃fd:FuncData,(∀(s:Shared) (u:Value),BindsTo s fd ⟨[u],[]⟩ [("_law_script",u)])∧∀base:Heap,(K w.params).In base->base.Ns mainGlobals mg->FnOk l.prog w (K w.params) mg base (ZA l.prog w) 10 fa fd ["_law_script"] (Jt (K w.params))) :
  W.WalkO q loose XP YP l.row.toRowW d [] (fun f vs=>PySem.call f vs) :=
 L2.walk_of (n:=63) (k:=10) (x:="_law_script") (CX:=fun w=>ZA l.prog w) (sp:=fun w=>Jt (K w.params)) hn (by decide) hdf ⟨rfl,by decide,by decide⟩ hY F (fun _ _ a ns hl _ hS=>⟨a,ns,rfl,hS,hl,fun _=>rfl⟩) fun _ _ _ _ _ ⟨_,_,_,_,_,z⟩=>z
end K34
open PySem PySem.W PyProof.Rows
set_option maxRecDepth 100000 in
set_option maxHeartbeats 0 in
theorem PySem.Challenge.cw_heirbook_k34_marks_holds : PySem.Challenge.rw_heirbook_k34_marks.Holds := by
 refine K34.hd ?_
 k_fill
 refine K34.walk (l:=PySem.Challenge.rw_heirbook_k34_marks) rfl rfl (fun w h Y=>PySem.W.kIn_of Y) ?F
 case F =>
  intro w mg fa h KX G hmg;apply K34.all_mk KX G hmg
  case ao5|ao4|ao3|ao2|ao1|ao0|a0|a1|a2|a3|a4|a5|a6|a7|a8|a9|a10|a11|a12|a13|a14|a15|i15|a16|i16|a17|i17|a18|i18|a19|i19|a20|i20|a21|i21|a22|i22|a23|i23|a24|i24|a25|i25|l25|cc25|k25|ldt25|a26|i26|a27|i27|a28|i28|a29|a30|a31|i31|a32|i32|a33|i33|a34|i34|a35|i35|a36|i36|a37|i37|a38|a39|a40|a41|a42|a43|i43|a44|i44|a45|i45|a46|i46|a47|i47|a48|a49|a50|a51|a52|a53|a54|a55|a56|a57|a58|a59|pg0|hd0|po0|sa0|mk0|kc0|na0_kept|na0_births|na0_links|na0_ties|na0_sums|pg1|hd1|po1|sa1|mk1|kc1|na1_rows|na1_source|pg3|hd3|po3|sa3|mk3|kc3|na3_letter|pg4|hd4|po4|sa4|YK|kc4|na4_wanted|pg5|hd5|po5|sa5|mk5|kc5|na5_word|ac0|ac1|e1_1|e2_1|e3_1|e4_1|e5_1|ac2|e1_2|e2_2|e3_2|e4_2|e5_2|ac3|e1_3|e2_3|e3_3|e4_3|e5_3|ac4|e1_4|e2_4|e3_4|e4_4|e5_4|ac5|e1_5|e2_5|e3_5|e4_5|e5_5|ac6|e1_6|e2_6|e3_6|e4_6|e5_6|ac7|e1_7|e2_7|e3_7|e4_7|e5_7|z_abs|z_all|z_bool|z_dict|z_int|z_isinstance|z_len|z_list|z_max|z_min|z_range|z_sorted|z_str|z_tuple|z_zip|y_lm_Letter|y_ci_Letter|y_mo_Letter|y_lm_Test|y_ci_Test|y_mo_Test|y_lm_Said|y_ci_Said|y_mo_Said|y_cg|y_ct|zF|zL|uF|up0|up1|up2|up3|up4|up5|ug0|ug1|ug2|ug3|ug4|ug5|zt0|ut0|zt1|ut1|zt2|ut2|zi0|zi1|zi2|zi3|zi4=>k_is
  case l0|l1|l2|l3|l4|l5|l6|l7|l8|l9|l10|l11|l12|l13|l14|l15|l16|l17|l18|l19|l20|l21|l22|l23|l24|l26|l27|l28|l29|l30|l31|l32|l33|l34|l35|l36|l37|l38|l39|l40|l41|l42|l43|l44|l45|l46|l47|l48|l49|l50|l51|l52|l53|l54|l55|l56|l57|l58|l59=>exact ⟨⟨_,_,_,_,_,_,_,_,_,by k_is,by k_is⟩,by k_is⟩
  case xc1|xc2|xc3|xc4|xc5|xc6|xc7=>k_exc
  case q_k_int_int|q_k_int_str|q_k_int_tuple|q_k_int_bool|q_k_str_int|q_k_str_str|q_k_str_tuple|q_k_bool_int|q_k_bool_str|q_k_bool_tuple|q_k_bool_bool|q_k_NoneType_int|q_k_NoneType_str|q_k_NoneType_tuple|q_k_tuple_int|q_k_tuple_str|q_k_tuple_tuple|q_k_list_int|q_k_list_str|q_k_list_tuple|q_k_dict_int|q_k_dict_str|q_k_dict_tuple|q_kl_list|q_kl_dict|q_kx_HeirError|q_kx_ValueError|y_kp_Letter|y_kp_Test|y_kp_Said=>kit_is
