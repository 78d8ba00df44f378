import PyProof.Rows.All
import Wide.All
import OpenK.AllK
import Wide.FinOn
import Lean
import PyProof.EqAt
import PyProof.EqKinds
import PyProof.TupleCall
import PyProof.NeKinds
import PyProof.ZipIter
import PyProof.Draws
import PyProof.ConsumeWalk
import PyProof.StrCaseBound
import PyProof.StrLawsIn
import PyProof.StrLawsJoin
import PyProof.Rows.StrSplitAre
import PyProof.WalkInts
import PyProof.EnumMake
import KE.KRevSl
import PyProof.Rows.SumAny
import PyProof.Rows.SortRuns
import PyProof.Rows.SortKey
import KE.KSortTup
import KE.KDictList
import PyProof.DictValues
import PyProof.StrLawsFirst
import PyProof.AutoListH
import PyProof.AttrMissSeq
import KE.KIntText
import PyProof.Rows.CountFlat
import KE.KLam
import KE.KSortKey
import KE.KPairComp
import PySem.Challenge.RW_heirbook_k16_whole_ways_put_together
abbrev Qa:=@if_neg
abbrev Qb:=@PySem.wpAny_bind
abbrev Qc:=@if_pos
abbrev Qd:=@List.length_map
abbrev Qe:=@PySem.wpAny_pure
abbrev Qf:=@Nat.le_refl
abbrev Qg:=@PySem.Heap.lt_size
abbrev Qh:=@List.mem_cons
abbrev Qi:=@PySem.Heap.get?_push_of_some
abbrev Qj:=@List.mem_map
abbrev Qk:=@decide_eq_false
abbrev Ql:=@Option.some.inj
abbrev Qm:=@List.mem_append
abbrev Qn:=@Nat.le_trans
abbrev Qo:=@decide_eq_true
abbrev Qp:=@List.getElem?_map
abbrev Qq:=@List.map_append
abbrev Qr:=@List.map_cons
abbrev Qs:=@PySem.Heap.get?_push_size
abbrev Qt:=@List.getElem?_eq_getElem
abbrev Qu:=@congrArg
abbrev Qv:=@List.append_nil
abbrev Qw:=@List.length_append
abbrev Qx:=@List.size_toArray
abbrev Qy:=@Nat.ne_of_lt
abbrev Qz:=@Nat.lt_of_lt_of_le
abbrev QA:=@Bool.false_ne_true
abbrev QB:=@List.mem_of_getElem?
abbrev QC:=@of_decide_eq_true
abbrev QD:=@List.mem_cons_self
abbrev QE:=@List.mem_cons_of_mem
abbrev QF:=@Nat.le_of_ble_eq_true
abbrev QG:=@PySem.PassesOwn.leaving
abbrev QH:=@Option.map_eq_some_iff
abbrev QI:=@Int.fmod_nonneg_of_pos
abbrev QJ:=@List.getElem?_eq_some_iff
abbrev QK:=@Nat.zero_le
abbrev QL:=@List.filterMap_cons
abbrev QM:=@List.length_cons
abbrev QN:=@PySem.wpAny_field
abbrev QO:=@List.mem_singleton
abbrev QP:=@Nat.lt_irrefl
abbrev QQ:=@List.mem_append_left
abbrev QR:=@List.nodup_cons
abbrev QS:=@if_false
abbrev QT:=@List.map_map
abbrev QU:=@Nat.le_succ
abbrev QV:=@PySem.W.kia_one
abbrev QW:=@List.length_take
abbrev QX:=@List.not_mem_nil
abbrev QY:=@or_false
abbrev QZ:=@List.take_length
abbrev Q0:=@Int.fmod_lt_of_pos
abbrev Q1:=@Nat.le_of_lt
abbrev Q2:=@Ne.symm
abbrev Q3:=@PySem.wpAny_newObj_type
abbrev Q4:=@List.mem_append_right
abbrev Q5:=@List.take_succ
abbrev Q6:=@PySem.W.mg_of
abbrev Q7:=@List.mem_filter
abbrev Q8:=@if_true
abbrev Q9:=@PySem.W.mg_none_of
abbrev Ra:=@PySem.wpAny_mono
abbrev Rb:=@PySem.wpAny_call_entry
abbrev Rc:=@List.nodup_append
abbrev Re:=@of_decide_eq_false
abbrev Rg:=@PySem.Heap.size_push
abbrev Rh:=@List.any_cons
abbrev Ri:=@List.mem_of_mem_take
abbrev Rj:=@List.mem_filterMap
abbrev Rk:=@Bool.eq_iff_iff
abbrev Rl:=@PySem.wpAny_callSpecial?_slot
abbrev Rm:=@Bool.and_eq_true
abbrev Rn:=@Bool.eq_false_iff
abbrev Ro:=@PySem.wpAny_setField_rec
abbrev Rp:=@List.all_eq_true
abbrev Rq:=@PySem.F.plainAttrs_list
abbrev Rr:=@PySem.F.slot_list_append
abbrev Rs:=@PySem.F.type_list_append
abbrev Rt:=@Sum.inr.inj
abbrev Ru:=@beq_iff_eq
abbrev Rv:=@PySem.wpAny_Call_Name_kw
abbrev Rw:=@List.find?_cons
abbrev Rx:=@List.filterMap_append
abbrev Ry:=@List.filter_cons
abbrev Rz:=@List.map_congr_left
abbrev RA:=@List.foldl_cons
abbrev RB:=@List.mem_map_of_mem
abbrev RC:=@Nat.ne_of_gt
abbrev RD:=@Nat.lt_succ_self
abbrev RE:=@PySem.Calls.spliced_cons
abbrev RF:=@PySem.Heap.SameBut.update
abbrev RG:=@PySem.wpAny_dictEntries
abbrev RH:=@false_and
abbrev RI:=@true_and
abbrev RJ:=@ite_self
abbrev RK:=@Prod.ext
abbrev RL:=@beq_eq_false_iff_ne
abbrev RM:=@PySem.wpAny_truthy_bool
abbrev RN:=@Array.length_toList
abbrev RO:=@PySem.codeAny_mono
abbrev RP:=@PySem.mem_of_lookup
abbrev RQ:=@List.getElem?_append_right
abbrev RS:=@Int.toNat_natCast
abbrev RT:=@PySem.wpAny_holding
abbrev RU:=@PySem.wpAny_seqItems
abbrev RV:=@Bool.or_eq_true
abbrev RW:=@PySem.wpAny_Name
abbrev RX:=@PySem.wpAny_rule
abbrev RY:=@PySem.sizeLine_eq
abbrev RZ:=@PySem.wpAny_call
abbrev R0:=@PySem.typeIs_str
abbrev R1:=@PySem.tupleKind_room_in1
abbrev R3:=@Nat.lt_of_le_of_lt
abbrev R4:=@PySem.wpAny_attempt
abbrev R5:=@Nat.le_add_right
abbrev R6:=@List.getElem?_cons_succ
abbrev R7:=@List.getElem_of_mem
abbrev R8:=@PySem.wpAny_dictEpoch
abbrev R9:=@List.length_range
abbrev Ga:=@List.getElem_map
abbrev Gb:=@PySem.wpAny_pyIter_tuple
abbrev Gc:=@PyProof.Rows.callWith_type1
abbrev Gd:=@PySem.wpAny_passesOwn
abbrev Ge:=@List.getElem?_append_left
abbrev Gf:=@List.take_sublist
abbrev Gg:=@PySem.Calls.evalArgs_plain
abbrev Gh:=@PySem.call_meetsIn
abbrev Gi:=@PySem.W.callWith_K
abbrev Gj:=@PySem.wpAny_loadPart_at
abbrev Gk:=@PySem.codeAny_builtin
abbrev Gm:=@PySem.wpAny_setField
abbrev Gn:=@Nat.lt_succ_of_lt
abbrev Go:=@List.getElem_mem
abbrev Gp:=@PySem.F.slot_dict_keyiterator_next
abbrev Gq:=@PySem.F.slot_dict_itemiterator_next
abbrev Gr:=@decide_eq_true_eq
abbrev Gs:=@List.any_eq_true
abbrev Gu:=@List.map_take
abbrev Gv:=@Bool.true_and
abbrev Gw:=@Int.zero_add
abbrev Gx:=@PySem.Paired.length
abbrev Gy:=@List.getElem_inj
abbrev Gz:=@Bool.false_and
abbrev GA:=@PySem.W.looks_findIn
abbrev GB:=@PySem.W.kitx_list
abbrev GC:=@PySem.Calls.spliced_nil
abbrev GD:=@Option.isSome_iff_exists
abbrev GE:=@List.length_drop
abbrev GF:=@List.all_cons
abbrev GG:=@PySem.Calls.callWith_builtin
abbrev GH:=@List.length_nil
abbrev GI:=@List.map_nil
abbrev GJ:=@PySem.F.slot_tuple_iterator_next
abbrev GK:=@PySem.Obj.data_mapFields
abbrev GL:=@PySem.wpAny_letGo
abbrev GM:=@PySem.F.slot_zip_next
abbrev GN:=@List.all_map
abbrev GO:=@List.lookup_cons
abbrev GP:=@List.length_filterMap_le
abbrev GQ:=@PySem.wpAny_newList
abbrev GR:=@PySem.atKey_none_of_get
abbrev GS:=@Array.getElem?_toList
abbrev GT:=@Int.le_refl
abbrev GU:=@Array.getElem?_eq_none
abbrev GV:=@PySem.wpAny_fieldsOf
abbrev GW:=@List.find?_eq_none
abbrev GX:=@List.length_filter_le
abbrev GY:=@Int.mul_fdiv_add_fmod
abbrev GZ:=@List.foldl_append
abbrev G6:=@List.cons.inj
abbrev G7:=@Option.map_some
abbrev G8:=@List.mem_range
abbrev G9:=@PySem.wpAny_loadName_local
abbrev Na:=@PySem.Calls.Name_function_global
abbrev Nb:=@List.any_eq_false
abbrev Nc:=@List.of_mem_zip
abbrev Nd:=@PySem.noFill_tuple_add
abbrev Nf:=@PySem.F.slot_tuple_add
abbrev Ng:=@PySem.F.entry_tuple_add
abbrev Nh:=@PySem.F.args_tuple_add_2
abbrev Ni:=@List.filterMap_map
abbrev Nj:=@PyProof.Rows.slot_tuple_getitem
abbrev Nk:=@Option.isSome_map
abbrev Nl:=@PySem.F.slot_dict_get
abbrev Nn:=@PySem.F.plainAttrs_dict
abbrev No:=@Bool.not_eq_true'
abbrev Np:=@PySem.F.typeOf_object_class
abbrev Nq:=@PySem.Code.quiet_builtin
abbrev Nr:=@PySem.Heap.get?_update_self
abbrev Nt:=@PySem.wpAny_isInstance
abbrev Nu:=@PySem.Calls.call_function_entry
abbrev Nv:=@PySem.wpAny_notOrdered_dict
abbrev Nw:=@List.getElem?_cons_zero
abbrev Ny:=@PySem.SeqAt.RcAt.lists
abbrev Nz:=@PySem.wpAny_isOneOf_itemiter
abbrev NA:=@List.dropLast_concat_getLast
abbrev NB:=@List.lt_asymm
abbrev NC:=@List.rel_of_pairwise_cons
abbrev ND:=@List.flatMap_cons
abbrev NE:=@List.append_assoc
abbrev NF:=@Nat.min_eq_left
abbrev NG:=@List.take_of_length_le
abbrev NH:=@List.getElem?_range
abbrev NI:=@Nat.succ_le_succ
abbrev NJ:=@Nat.le_succ_of_le
abbrev NK:=@List.length_flatMap
abbrev NL:=@List.getElem?_take_of_lt
abbrev NM:=@PySem.F.args_dict_get_3
abbrev NN:=@Option.bind_eq_some_iff
abbrev NO:=@PySem.F.slot_dict_setdefault
abbrev NP:=@PySem.F.entry_dict_keyiterator_next
abbrev NQ:=@PySem.F.args_dict_keyiterator_next_1
abbrev NR:=@Array.getElem?_eq_getElem
abbrev NS:=@PySem.F.entry_dict_itemiterator_next
abbrev NT:=@PySem.F.args_dict_itemiterator_next_1
abbrev NU:=@Option.isSome_iff_ne_none
abbrev NV:=@Int.mul_le_mul_of_nonneg_left
set_option Elab.async false
set_option linter.all false
namespace LR
open PySem PySem.W PyProof.Rows
noncomputable abbrev ZbM:=@Fast.tw14082659384304107361
noncomputable abbrev JN:=Fast.tw14364793385576792824
noncomputable abbrev VG:=@Fast.tw4187177175401517315
noncomputable def allIn (p:Program) (P:Params) (s:Shared):Bool :=
 staticsOk (importedModules p.main.body) (boot_heap P) s.heap&&namesBound p s.heap&&gensDone s&&laidKept (boot_heap P) s.heap
noncomputable abbrev sA (q:Program) (loose mods:List Str) (Xt:Shared->Bool) (g0:Bool) (s:Shared) :=
 ((VG q loose mods Xt g0 s).1,(VG q loose mods Xt g0 s).2.1,(VG q loose mods Xt g0 s).2.2.1,(VG q loose mods Xt g0 s).2.2.2.1)
noncomputable abbrev sB (q:Program) (loose mods:List Str) (Xt:Shared->Bool) (g0:Bool) (s:Shared):=(VG q loose mods Xt g0 s).2.2.2.2
noncomputable abbrev gA (q:Program) (loose:List Str):=((openGood q loose).1,(openGood q loose).2.1,(openGood q loose).2.2.1,(openGood q loose).2.2.2.1)
noncomputable abbrev gB (q:Program) (loose:List Str):=(openGood q loose).2.2.2.2
noncomputable abbrev ran (p:Program) (m:Nat) (ann:Option Value) (N:Nat) (w:World) (os:OsState):Option Shared :=
 ZbM JN p w m ann N ⟨boot_heap w.params,Array.mk [],boot_drawn,boot_toks,os⟩ (topStub p)
theorem left_run {p q:Program} {loose:List Str} {Xt:Shared->Bool} {α:Type} {Yf:Shared->α} {Ya:World->α} {N m:Nat} {g0:Bool} {ann:Option Value}
  (e:opening p=plainProg p.main.scope.names) (f:∀s,fenceModules? p s=some s) (hN:Nat.ble 600 N=true)
  (h1:∀w:World,(boot_heap w.params).isNs mainGlobals=true) (h2:∀w:World,(boot_heap w.params).objs.size=m) (h3:∀w:World,(boot_heap w.params).nsMap mainGlobals "__annotations__"=ann)
  (r1:∀(w:World) (os:OsState),(ran p m ann N w os).map (allIn p w.params)=some true)
  (r2:∀(w:World) (os:OsState),(ran p m ann N w os).map (sA q loose (importedModules p.main.body) Xt g0)=some (gA q loose))
  (r2':∀(w:World) (os:OsState),(ran p m ann N w os).map (sB q loose (importedModules p.main.body) Xt g0)=some (gB q loose))
  (r3:∀(w:World) (os:OsState),(ran p m ann N w os).map Yf=some (Ya w)):LeftO p q loose Xt Yf Ya N g0:=by
 intro w;cases hb:fencedOpening treeTable p w N with
 |none=>have z:=boot_open e hN f w;rw [hb] at z;cases z
 |some s0 =>
  have z:=boot_open e hN f w;rw [hb] at z;obtain ⟨h,gs,d,k,os⟩:=s0;injection z with z;injection z with z4 z;injection z with z5 z;injection z with z6 z7;dsimp only at z4 z5 z6 z7;subst z4 z5 z6 z7;have a:=r1 w os;have b:=r2 w os;have b':=r2' w os;have c:=r3 w os;unfold ran ZbM JN at a b b' c;unfold sA gA VG at b;unfold sB gB VG at b';rw [←Fast.te14082659384304107361,←Fast.te14364793385576792824] at a b b' c;rw [←Fast.te4187177175401517315] at b b';cases hs:topRun treeTable p w m ann N ⟨boot_heap w.params,Array.mk [],boot_drawn,boot_toks,os⟩ (topStub p) with
  |none=>rw [hs] at a;cases a
  |some s =>
   rw [hs] at a b b' c;injection a with a;injection b with b;injection b' with b';injection b with x1 b;injection b with x2 b;injection b with x3 x4;injection c with c;have b:openSeen q loose (importedModules p.main.body) Xt g0 s=openGood q loose:=RK x1 (RK x2 (RK x3 (RK x4 b')))
   have t:topFrom treeTable p w N ⟨boot_heap w.params,Array.mk [],boot_drawn,boot_toks,os⟩=some s:=by
    unfold topFrom;simp only [h1 w,h2 w,h3 w,hs];unfold allIn at a;show (Option.bind (some s) fun x=>_)=_;rw [Option.bind_some,a]
   show Option.map _ (Option.bind (fencedOpening treeTable p w N) _)=_;rw [hb,Option.bind_some,t,G7,b,c]
noncomputable def ZbT (st:SharedT->Thread->Option (SharedT×Thread)) (ok:Thread->Bool):Nat->SharedT->Thread->Option SharedT:=fun n =>
 Nat.rec (motive:=fun _=>SharedT->Thread->Option SharedT) (fun _ _=>none) (fun _ ih s t=>match through t with
  |true=>some s
  |false=>match ok t with
   |false=>none
   |true=>match st s t with
    |some (s',t')=>ih s' t'
    |none=>none) n
theorem ZfB {tb:String->Option Builtin} {p:Program} {w:World} {n₀:Nat} {ann:Option Value}:∀(n:Nat) (s:SharedT) (t:Thread) (s':SharedT),ZbT (stepT (denote tb) p w) (stepOk n₀ ann) n s t=some s'->topRun tb p w n₀ ann n s.abs t=some s'.abs
 |0,_,_,_,h=>by cases h
 |n+1,s,t,s',h=>by
  have h2:(match through t with
   |true=>some s
   |false=>match stepOk n₀ ann t with
    |false=>none
    |true=>match stepT (denote tb) p w s t with
     |some (s',t')=>ZbT (stepT (denote tb) p w) (stepOk n₀ ann) n s' t'
     |none=>none)=some s':=h
  unfold topRun;cases ht:through t with
  |true=>rw [ht] at h2;cases h2;rfl
  |false =>
   rw [ht] at h2;cases hk:stepOk n₀ ann t with
   |false=>rw [hk] at h2;cases h2
   |true =>
    rw [hk] at h2;cases hs:stepT (denote tb) p w s t with
    |none=>rw [hs] at h2;cases h2
    |some r =>
     obtain ⟨s₂,t₂⟩:=r;rw [hs] at h2;rw [stepT_spec hs];exact ZfB n s₂ t₂ s' h2
noncomputable def Zj9 (P:Params) (m:Nat):BT:=Nat.rec (motive:=fun _=>BT) .nil (fun i T=>T.ins i (((boot_heap P).objs[i]?).getD default)) m
noncomputable abbrev Ze7:=@Fast.tw10156331382660048174
noncomputable abbrev ZfR:=@Fast.tw11892475500146522536
noncomputable abbrev fOk:=@Fast.tw6613529449190102663
noncomputable abbrev s0T (P:Params) (m:Nat) (os:OsState):SharedT:=⟨Zj9 P m,m,(boot_heap P).life,Array.mk [],boot_drawn,boot_toks,os⟩
noncomputable abbrev ranT (p:Program) (m:Nat) (ann:Option Value) (N:Nat) (w:World) (os:OsState):Option SharedT :=
 ZbT (Ze7 (ZfR JN) p w) (fOk m ann) N (s0T w.params m os) (topStub p)
theorem Zkm {p:Program} {m:Nat} {ann:Option Value} {N:Nat} {w:World} {os:OsState} (hb:(s0T w.params m os).abs=⟨boot_heap w.params,Array.mk [],boot_drawn,boot_toks,os⟩) {s:SharedT} (h:ranT p m ann N w os=some s):ran p m ann N w os=some s.abs:=by
 unfold ranT Ze7 ZfR fOk JN at h;rw [←Fast.te10156331382660048174,←Fast.te11892475500146522536,←Fast.te6613529449190102663,←Fast.te14364793385576792824] at h;have:=ZfB _ _ _ _ h;rw [hb] at this;unfold ran ZbM JN;rw [←Fast.te14082659384304107361,←Fast.te14364793385576792824];exact this
theorem mapT {α:Type} {p:Program} {m:Nat} {ann:Option Value} {N:Nat} {w:World} {os:OsState} (hb:(s0T w.params m os).abs=⟨boot_heap w.params,Array.mk [],boot_drawn,boot_toks,os⟩) {f:Shared->α} {a:α} (h:(ranT p m ann N w os).map (fun s=>f s.abs)=some a):(ran p m ann N w os).map f=some a:=by
 cases e:ranT p m ann N w os with
 |none=>rw [e] at h;cases h
 |some s =>
  rw [e] at h;rw [Zkm hb e];exact h
end LR
namespace K16
open PySem PySem.W PyProof.Rows
abbrev rwOf:OpenLaw:=PySem.Challenge.rw_heirbook_k16_whole_ways_put_together
abbrev pwOf:Program:=PySem.Challenge.pw_heirbook_k16_whole_ways_put_together
noncomputable def vw:Program:=view pwOf [0,2,3,4,5,6,7,8,10,11,12,13,15,16,17,19,21,22,23,24,25,26,27,28,29,30,31,32,33,34,36,37,38,39,41,42,43,44,45,46,47,48,49,50,51,52,53,54,55,56]
noncomputable abbrev lo:List Str:=["FORMS"]
noncomputable abbrev xt (s:Shared):Bool:=xlAt vw [] s&&recOk (RowW.records (OpenRow.toRowW (OpenLaw.row rwOf))) s
noncomputable abbrev rn:=LR.ranT pwOf 11 (some (.ref 6)) 3607
set_option maxRecDepth 100000
set_option maxHeartbeats 0
theorem said:OpenLaw.wellSaid rwOf=true:=by kernel_rfl
theorem hb (w:World) (os:OsState):(LR.s0T w.params 11 os).abs=⟨boot_heap w.params,Array.mk [],boot_drawn,boot_toks,os⟩:=by kernel_rfl
theorem r1T (w:World) (os:OsState):(rn w os).map (fun s=>(LR.allIn pwOf w.params) s.abs)=some (true):=by kernel_rfl
theorem r1 (w:World) (os:OsState):(LR.ran pwOf 11 (some (.ref 6)) 3607 w os).map (LR.allIn pwOf w.params)=some (true):=LR.mapT (hb w os) (r1T w os)
theorem r2T (w:World) (os:OsState):(rn w os).map (fun s=>(LR.sA vw lo (importedModules pwOf.main.body) xt true) s.abs)=some (LR.gA vw lo):=by kernel_rfl
theorem r2 (w:World) (os:OsState):(LR.ran pwOf 11 (some (.ref 6)) 3607 w os).map (LR.sA vw lo (importedModules pwOf.main.body) xt true)=some (LR.gA vw lo):=LR.mapT (hb w os) (r2T w os)
theorem r3T (w:World) (os:OsState):(rn w os).map (fun s=>(LR.sB vw lo (importedModules pwOf.main.body) xt true) s.abs)=some (LR.gB vw lo):=by kernel_rfl
theorem r3 (w:World) (os:OsState):(LR.ran pwOf 11 (some (.ref 6)) 3607 w os).map (LR.sB vw lo (importedModules pwOf.main.body) xt true)=some (LR.gB vw lo):=LR.mapT (hb w os) (r3T w os)
end K16
local macro_rules
 | `(tactic| o_law)=>`(tactic| refine PySem.W.holds_law K16.said fun sd=>?_)
local macro_rules
 | `(tactic| o_head $H)=>do
  let hw:=Lean.mkIdent `hw
  let hc:=Lean.mkIdent `hc
  `(tactic| (
   refine PySem.W.holds_open (q:=K16.vw) (loose:=K16.lo) (N:=3607) (Xt:=K16.xt) (XP:=PySem.W.XL K16.vw []) (Yf:=PySem.W.Hook.obs $H)
    (Ya:=PySem.W.Hook.val $H) (YP:=PySem.W.Hook.says $H)
    (LR.left_run (p:=K16.pwOf) (m:=11) (ann:=(some (.ref 6))) ?e1 ?e2 (by decide) ?e3 ?e4 ?e5 K16.r1 K16.r2 K16.r3 ?e6)
    (PySem.W.Hook.of $H) (PySem.W.Hook.keeps $H) ?f1
    PySem.W.XL.keeps (by rfl) (by rfl) (by rfl) ?f2 ?g4 ?g5 ?g6 ?g7 ?$hw ?$hc
   case e1=>kernel_rfl
   case e2=>intro s;kernel_rfl
   case e3=>intro w;kernel_rfl
   case e4=>intro w;kernel_rfl
   case e5=>intro w;kernel_rfl
   case e6=>(intro w os;refine LR.mapT (K16.hb w os) ?_;kernel_rfl)
   case f1=>intro s e;exact PySem.W.xl_of s (Bool.and_eq_true_iff.mp e).1
   case f2=>intro s e;exact PySem.W.recFacts_of (Bool.and_eq_true_iff.mp e).2
   case g4=>rfl
   case g5=>assumption
   case g6=>decide +kernel
   case g7=>exact ⟨rfl,rfl,rfl,rfl,rfl,by decide +kernel⟩))
set_option maxRecDepth 100000 in
set_option maxHeartbeats 0 in
open_top K16.hd for PySem.Challenge.rw_heirbook_k16_whole_ways_put_together
set_option maxRecDepth 100000
namespace L2
open PySem PySem.Spec PyProof.Rows
abbrev Zi:=Sum Int Str
noncomputable def W8:Zi->Value->Bool
 |.inl k,v=>Value.isInt k v
 |.inr x,v=>Value.isStrOf x v
noncomputable def ZhR (w:World):Zi->Int
 |.inl k=>hashInt k
 |.inr x=>hashStr w x
theorem We:∀{k:Zi} {v:Value},W8 k v=true->(∃i t,k=Sum.inl i∧v=Value.int i t)∨(∃x t,k=Sum.inr x∧v=Value.str x t)
 |.inl i,v,h=>by
  obtain ⟨t,e⟩:=Value.isInt_shape (k:=i) (v:=v) h;exact .inl ⟨i,t,rfl,e⟩
 |.inr x,v,h=>by
  obtain ⟨t,e⟩:=Value.isStrOf_shape (x:=x) (v:=v) h;exact .inr ⟨x,t,rfl,e⟩
theorem Zjo (i:Int) (t:Tok):W8 (.inl i) (.int i t)=true:=by simp [W8,Value.isInt]
theorem Zk1 (x:Str) (t:Tok):W8 (.inr x) (.str x t)=true:=by simp [W8,Value.isStrOf]
theorem Znr (a b:Int):decide ((Sum.inl a:Zi)=Sum.inl b)=(a==b):=by
 by_cases e:a=b
 ·subst e;simp
 ·have h:¬(Sum.inl a:Zi)=Sum.inl b:=fun q=>e (Sum.inl.inj q);rw [Qk h];exact (RL.mpr e).symm
theorem Zn5 (a b:Str):decide ((Sum.inr a:Zi)=Sum.inr b)=decide (a=b):=by
 by_cases e:a=b
 ·subst e;simp
 ·have h:¬(Sum.inr a:Zi)=Sum.inr b:=fun q=>e (Rt q);rw [Qk h,Qk e]
theorem Zob (a:Int) (b:Str):decide ((Sum.inl a:Zi)=Sum.inr b)=false:=Qk (fun q=>nomatch q)
theorem Zor (a:Str) (b:Int):decide ((Sum.inr a:Zi)=Sum.inl b)=false:=Qk (fun q=>nomatch q)
noncomputable def Yv (prog:Program) (w:World):PySem.KeyKind prog w Zi where
 is:=W8
 hash:=ZhR w
 inj:=fun v a b ha hb=>by
  rcases We ha with ⟨i,t,rfl,rfl⟩|⟨x,t,rfl,rfl⟩
  ·rcases We hb with ⟨j,u,rfl,e⟩|⟨y,u,rfl,e⟩
   ·injection e with e1 _;rw [e1]
   ·exact nomatch e
  ·rcases We hb with ⟨j,u,rfl,e⟩|⟨y,u,rfl,e⟩
   ·exact nomatch e
   ·injection e with e1 _;rw [e1]
 byValue:=fun k v h=>by
  rcases We h with ⟨i,t,rfl,rfl⟩|⟨x,t,rfl,rfl⟩<;>rfl
 pyHash:=fun hv h=>by
  rcases We hv with ⟨i,t,rfl,rfl⟩|⟨x,t,rfl,rfl⟩
  ·exact wpAny_pyHash_int h
  ·exact wpAny_pyHash_str h
 eqBool:=fun hu hv h=>by
  rcases We hu with ⟨i,t,rfl,rfl⟩|⟨x,t,rfl,rfl⟩
  ·rcases We hv with ⟨j,u,rfl,rfl⟩|⟨y,u,rfl,rfl⟩
   ·rw [Znr] at h;exact wpAny_eqBool_int h
   ·rw [Zob] at h;exact SeqAt.EqAt.int_str i t y u _ _ _ _ h
  ·rcases We hv with ⟨j,u,rfl,rfl⟩|⟨y,u,rfl,rfl⟩
   ·rw [Zor] at h;exact SeqAt.EqAt.str_int x t j u _ _ _ _ h
   ·rw [Zn5] at h;exact wpAny_eqBool_str h
 «strs»:=fun k x t v h=>by
  rcases We h with ⟨i,u,rfl,e⟩|⟨y,u,rfl,e⟩
  ·exact nomatch e
  ·injection e with e1 _;subst e1;cases v<;>rfl
theorem Zof (prog:Program) (w:World) (i:Int) (t:Tok):(Yv prog w).is (.inl i) (.int i t)=true:=Zjo i t
theorem ZkL (prog:Program) (w:World) (x:Str) (t:Tok):(Yv prog w).is (.inr x) (.str x t)=true:=Zk1 x t
inductive V where
 |non|bl (b:Bool)|int (i:Int)|str (x:Str)|byt (b:Array UInt8)|flt (b:UInt64)|ref (a:Addr)|ty (n:String)
 deriving DecidableEq
def RelV:V->Value->Prop
 |.non,u=>u=Value.none
 |.bl b,u=>u=Value.bool b
 |.int i,u=>∃t,u=Value.int i t
 |.str x,u=>∃t,u=Value.str x t
 |.byt b,u=>∃t,u=Value.bytes b t
 |.flt b,u=>∃t,u=Value.float b t
 |.ref a,u=>u=Value.ref a
 |.ty n,u=>u=Value.type n
abbrev Vals:List V->List Value->Prop:=Paired RelV
theorem Vals.length {xs:List V} {us:List Value} (r:Vals xs us):xs.length=us.length:=Gx r
theorem Vals.get:∀{xs:List V} {us:List Value} {i:Nat} {x:V},Vals xs us->xs[i]?=some x->∃u,us[i]?=some u∧RelV x u
 |_,_,_,_,.nil,e=>by simp at e
 |_,_,0,_,.cons r _,e=>by simp at e;subst e;exact ⟨_,rfl,r⟩
 |_,_,i+1,x,.cons _ t,e=>by
  obtain ⟨u,h1,h2⟩:=Vals.get (i:=i) (x:=x) t (by simpa using e);exact ⟨u,by simpa using h1,h2⟩
theorem Vals.append:∀{xs ys:List V} {us ws:List Value},Vals xs us->Vals ys ws->Vals (xs++ys) (us++ws)
 |_,_,_,_,.nil,s=>s
 |_,_,_,_,.cons r t,s=>.cons r (Vals.append t s)
theorem Vals.take:∀{xs:List V} {us:List Value} (n:Nat),Vals xs us->Vals (xs.take n) (us.take n)
 |_,_,0,_=>.nil
 |_,_,_+1,.nil=>.nil
 |_,_,n+1,.cons r t=>.cons r (Vals.take n t)
theorem Vals.drop:∀{xs:List V} {us:List Value} (n:Nat),Vals xs us->Vals (xs.drop n) (us.drop n)
 |_,_,0,r=>r
 |_,_,_+1,.nil=>.nil
 |_,_,n+1,.cons _ t=>Vals.drop n t
def RelO:Option V->Option Value->Prop
 |some v,some u=>RelV v u
 |none,none=>True
 |_,_=>False
def KV {κ:Type}:List (κ×V)->List (κ×Value)->Prop:=Paired fun (p:κ×V) (q:κ×Value)=>p.1=q.1∧RelV p.2 q.2
noncomputable def kV:Zi->V
 |.inl i=>.int i
 |.inr x=>.str x
inductive HO where
 |lst (xs:List V)
 |tup (xs:List V)
 |dK (kvs:List (Zi×V))|dT (kvs:List (List Zi×V))
 |set (S:Int->Bool) (n:Nat)
 |ins (C dx:Addr) (fs:List (Str×V))
 |own (x:Addr)
 |xd (fs:List (Str×V))
 |met (f x:Addr)
 |rng (lo hi:Int)
 |frz (o:Obj) (u:HO)
 |tbl (ps:Array Value)
 |ext (φ:Heap->Prop)
abbrev Hp:=Addr->Option HO
noncomputable def Zb (H:Hp) (a:Addr) (o:HO):Hp:=fun b=>if b=a then some o else H b
theorem Zf {H:Hp} {a:Addr} {o:HO}:Zb H a o a=some o:=by unfold Zb;rw [Qc rfl]
theorem Ze {H:Hp} {a b:Addr} {o:HO} (h:b≠a):Zb H a o b=H b:=by unfold Zb;rw [Qa h]
theorem Zez {H:Hp} {a b:Addr} {o u:HO} (h:H a=some o) (h':H b=some u) (d:o≠u):a≠b:=by
 intro e;subst e;rw [h] at h';exact d (Ql h')
theorem ZU {H:Hp} {a b:Addr} {o:HO} (h:H a=some o) (h':H b=none):a≠b:=by
 intro e;subst e;rw [h] at h';cases h'
section
variable (P:Program) (w:World)
def ObjOk (H:Hp) (h:Heap) (a:Addr):HO->Prop
 |.lst xs=>xs.length≤sizeLine∧∃(its:List Value) (n:Nat),Vals xs its∧h.get? a=some { cls:=.type "list",data:=.seq its.toArray n }
 |.tup xs=>xs.length≤sizeLine∧∃its:List Value,Vals xs its∧IsTup h a its.toArray
 |.dK kvs=>kvs.length≤sizeLine∧(a==sysModules)=false∧∃vs,KV kvs vs∧h.DictOf (Yv P w) a vs
 |.dT kvs => kvs.length ≤ sizeLine ∧ (a==sysModules)=false ∧ ∃xs : List (List Zi×Addr×Value),
   Paired (fun (p:List Zi×V) (q:List Zi×Addr×Value)=>p.1=q.1∧H q.2.1=some (.tup (p.1.map kV))∧RelV p.2 q.2.2) kvs xs ∧
   ∃o es ep,h.get? a=some o∧o.ExactDict∧o.data=.dict es ep∧es.toList=xs.map (entryOfKey (tupleKind (Yv P w)))∧(xs.map (·.1)).Nodup
 |.set S n=>h.SetOf (intKind P w) a S n
 |.ins C dx fs => H dx=some (.own a) ∧ fs.length ≤ 1000 ∧ dx ≠ a ∧ h.get? a=some (W.instObj C dx) ∧
   ∃mA,h.Ns1 dx mA∧(∀f,RelO (fs.lookup f) (mA f))∧PySem.Within mA (fs.map (·.1))
 |.own _=>∃o,h.get? a=some o
 |.xd fs=>∃mA,h.Ns1 a mA∧∀f,RelO (fs.lookup f) (mA f)
 |.rng lo hi=>∃t u v,h.get? a=some { cls:=.type "range",data:=.fields #[.int lo t,.int hi u,.int 1 v] }
 |.frz o u=>h.get? a=some o∧ObjOk H h a u
 |.tbl ps=>h.get? a=some { cls:=.none,data:=.fields ps }
 |.met f x=>h.get? a=some (W.methodObj (.ref f) (.ref x))
 |.ext φ=>φ h∧(∃o,h.get? a=some o)∧∀h1 h2:Heap,φ h1->(∀o,h1.get? a=some o->h2.get? a=some o)->φ h2
def HOk (H:Hp) (h:Heap):Prop:=∀a o,H a=some o->ObjOk P w H h a o
end
section
variable {P:Program} {w:World} {H H':Hp} {h h':Heap} {a:Addr} {o:HO}
theorem ObjOk.lt (x:ObjOk P w H h a o):a<h.objs.size:=by
 cases o with
 |lst xs=>obtain ⟨_,_,_,_,e⟩:=x;exact Qg e
 |tup xs=>obtain ⟨_,_,_,p⟩:=x;exact p.lt
 |dK kvs=>obtain ⟨_,_,_,_,o,_,_,e,_⟩:=x;exact Qg e
 |dT kvs=>obtain ⟨_,_,_,_,o,_,_,e,_⟩:=x;exact Qg e
 |set S n=>obtain ⟨o,_,_,_,e,_⟩:=x;exact Qg e
 |ins C dx fs=>obtain ⟨_,_,_,e,_⟩:=x;exact Qg e
 |own y=>obtain ⟨_,e⟩:=x;exact Qg e
 |xd fs=>obtain ⟨_,⟨_,_,_,e,_⟩,_⟩:=x;exact Qg e
 |rng lo hi=>obtain ⟨_,_,_,e⟩:=x;exact Qg e
 |frz ob u=>obtain ⟨e,_⟩:=x;exact Qg e
 |tbl ps=>exact Qg (show h.get? a=some _ from x)
 |met f y=>exact Qg (show h.get? a=some _ from x)
 |ext φ=>obtain ⟨_,⟨_,e⟩,_⟩:=x;exact Qg e
theorem Paired.mapP {α β:Type} {F G:α->β->Prop}:∀{l₁:List α} {l₂:List β},Paired F l₁ l₂->(∀a b,F a b->G a b)->Paired G l₁ l₂
 |_,_,.nil,_=>.nil
 |_,_,.cons r t,f=>.cons (f _ _ r) (Paired.mapP t f)
theorem ObjOk.stay (x:ObjOk P w H h a o) (k:∀b u,(b=a∨H b=some (.own a))->h.get? b=some u->h'.get? b=some u)
  (ho:∀b,H b=some (.own a)->H' b=some (.own a)) (ht:∀b xs,H b=some (.tup xs)->H' b=some (.tup xs)):ObjOk P w H' h' a o:=by
 induction o with
 |lst xs=>obtain ⟨z,its,n,r,e⟩:=x;exact ⟨z,its,n,r,k _ _ (.inl rfl) e⟩
 |tup xs=>obtain ⟨z,its,r,ob,e,c⟩:=x;exact ⟨z,its,r,ob,k _ _ (.inl rfl) e,c⟩
 |dK kvs=>obtain ⟨z,y,vs,r,ob,es,ep,e,c⟩:=x;exact ⟨z,y,vs,r,ob,es,ep,k _ _ (.inl rfl) e,c⟩
 |dT kvs =>
  obtain ⟨z,y,xs,r,ob,es,ep,e,c⟩:=x;exact ⟨z,y,xs,Paired.mapP r fun p q z=>⟨z.1,ht _ _ z.2.1,z.2.2⟩,ob,es,ep,k _ _ (.inl rfl) e,c⟩
 |set S n=>obtain ⟨ob,es,ep,t,e,c⟩:=x;exact ⟨ob,es,ep,t,k _ _ (.inl rfl) e,c⟩
 |ins C dx fs =>
  obtain ⟨d,z,ne,e,mA,⟨od,es,ep,e2,c⟩,r⟩:=x;exact ⟨ho _ d,z,ne,k _ _ (.inl rfl) e,mA,⟨od,es,ep,k _ _ (.inr d) e2,c⟩,r⟩
 |own y=>obtain ⟨ob,e⟩:=x;exact ⟨ob,k _ _ (.inl rfl) e⟩
 |xd fs=>obtain ⟨mA,⟨od,es,ep,e,c⟩,r⟩:=x;exact ⟨mA,⟨od,es,ep,k _ _ (.inl rfl) e,c⟩,r⟩
 |rng lo hi=>obtain ⟨t,u,v,e⟩:=x;exact ⟨t,u,v,k _ _ (.inl rfl) e⟩
 |frz ob u ih=>obtain ⟨e,q⟩:=x;exact ⟨k _ _ (.inl rfl) e,ih q⟩
 |tbl ps =>
  have e:h.get? a=some { cls:=.none,data:=.fields ps }:=x;show h'.get? a=some { cls:=.none,data:=.fields ps };exact k a _ (.inl rfl) e
 |met f y =>
  have e:h.get? a=some (W.methodObj (.ref f) (.ref y)):=x;show h'.get? a=some (W.methodObj (.ref f) (.ref y));exact k a _ (.inl rfl) e
 |ext φ=>obtain ⟨p,⟨o,e⟩,st⟩:=x;exact ⟨st _ _ p fun o q=>k _ _ (.inl rfl) q,⟨o,k _ _ (.inl rfl) e⟩,st⟩
theorem HOk.lt (x:HOk P w H h) (e:H a=some o):a<h.objs.size:=(x a o e).lt
theorem HOk.fresh (x:HOk P w H h) (e:h.objs.size≤a):H a=none:=by
 cases q:H a with
 |none=>rfl
 |some u=>exact absurd (Qz (x.lt q) e) (QP _)
theorem HOk.kept (x:HOk P w H h) (k:∀b u,h.get? b=some u->h'.get? b=some u):HOk P w H h':=fun a o e =>
 (x a o e).stay (fun b u _ q=>k b u q) (fun _ q=>q) fun _ _ q=>q
theorem HOk.laid (x:HOk P w H h) (k:∀b u,h.get? b=some u->h'.get? b=some u) (hp:h.objs.size≤a) (new:ObjOk P w (Zb H a o) h' a o):HOk P w (Zb H a o) h':=fun b u e=>by
 have hn:=x.fresh hp;by_cases hb:b=a
 ·subst hb;rw [Zf] at e;cases e;exact new
 ·rw [Ze hb] at e;exact (x b u e).stay (fun c v _ q=>k c v q) (fun c q=>by rw [Ze (ZU q hn)];exact q) fun c xs q=>by rw [Ze (ZU q hn)];exact q
end
def Rd (H:Hp) (a:Addr) (u:HO):Prop:=H a=some u∨∃o,H a=some (.frz o u)
theorem Rd.ok {P:Program} {w:World} {H:Hp} {h:Heap} {a:Addr} {u:HO} (r:Rd H a u) (x:HOk P w H h):ObjOk P w H h a u:=by
 rcases r with r|⟨o,r⟩
 ·exact x a u r
 ·obtain ⟨_,q⟩:=x a _ r;exact q
def JM:Option HO->Prop
 |some (.lst _)=>True
 |some (.dK _)=>True
 |some (.dT _)=>True
 |some (.set _ _)=>True
 |some (.ins _ _ _)=>True
 |some (.ext _)=>True
 |_=>False
section
variable {P:Program} {w:World} {H:Hp} {h h':Heap} {x e:Addr} {o':HO}
theorem HOk.write (ok:HOk P w H h) (mu:JM (H x)) (he:e=x∨H e=some (.own x)) (k:∀b u,b≠e->h.get? b=some u->h'.get? b=some u) (heo:∃u,h'.get? e=some u)
  (new:ObjOk P w (Zb H x o') h' x o'):HOk P w (Zb H x o') h':=fun b u q=>by
 have nown:∀c y,H c=some (.own y)->c≠x:=fun c y r z=>by subst z;rw [r] at mu;exact mu
 have ntup:∀c xs,H c=some (.tup xs)->c≠x:=fun c xs r z=>by subst z;rw [r] at mu;exact mu
 by_cases hb:b=x
 ·subst hb;rw [Zf] at q;cases q;exact new
 ·rw [Ze hb] at q;by_cases hbe:b=e
  ·have q':H b=some (.own x):=by
    rcases he with z|z
    ·exact absurd (hbe.trans z) hb
    ·rw [hbe];exact z
   rw [q] at q';cases q';obtain ⟨v,hv⟩:=heo;exact ⟨v,by rw [hbe];exact hv⟩
  ·refine (ok b u q).stay (fun c v hc r=>k c v ?_ r) (fun c r=>by rw [Ze (nown c b r)];exact r) fun c xs r=>by rw [Ze (ntup c xs r)];exact r
   rcases hc with rfl|hc
   ·exact hbe
   ·rintro rfl;rcases he with z|z
    ·exact nown c b hc z
    ·rw [hc] at z;cases z;exact hb rfl
end
structure Un (fs ex:List Addr) (H H':Hp) (h h':Heap):Prop where
 keep:∀b o,h.get? b=some o->H b=none->b∉fs->b∉ex->h'.get? b=some o
 slot:∀b o,h.get? b=some o->H b=none->b∈fs->b∉ex->∃sl,h'.get? b=some { o with slots:=sl }
 free:∀b o,h.get? b=some o->H b=none->b∉ex->H' b=none
 there:∀b o,h.get? b=some o->b∉ex->∃o',h'.get? b=some o'
 tups:∀b xs,H b=some (.tup xs)->H' b=some (.tup xs)
 frzs:∀b o u,H b=some (.frz o u)->H' b=some (.frz o u)
 tbls:∀b ps,H b=some (.tbl ps)->∃more,H' b=some (.tbl (ps++more))
section
variable {fs fs' ex ex':List Addr} {H H1 H2:Hp} {h h1 h2 h':Heap} {a x e:Addr} {o:HO}
theorem Un.any (u:Un fs ex H H1 h h1) {b:Addr} {ob:Obj} (q:h.get? b=some ob) (n:H b=none) (hx:b∉ex):∃sl,h1.get? b=some { ob with slots:=sl }:=by
 by_cases hb:b∈fs
 ·exact u.slot b ob q n hb hx
 ·exact ⟨ob.slots,u.keep b ob q n hb hx⟩
theorem Un.kept (k:∀b u,h.get? b=some u->h'.get? b=some u):Un fs ex H H h h' :=
 ⟨fun b ob q _ _ _=>k b ob q,fun b ob q _ _ _=>⟨ob.slots,k b ob q⟩,fun _ _ _ n _=>n,fun b ob q _=>⟨ob,k b ob q⟩,fun _ _ q=>q,fun _ _ _ q=>q,fun _ ps q=>⟨#[],by rw [q];simp⟩⟩
theorem Un.refl:Un fs ex H H h h:=Un.kept fun _ _ q=>q
theorem Un.laid (k:∀b u,h.get? b=some u->h'.get? b=some u) (hp:h.objs.size≤a) (hn:H a=none):Un fs ex H (Zb H a o) h h' where
 keep:=fun b u q _ _ _=>k b u q
 slot:=fun b u q _ _ _=>⟨u.slots,k b u q⟩
 free:=fun b u q n _=>by rw [Ze (Qy (Qz (Qg q) hp))];exact n
 there:=fun b u q _=>⟨u,k b u q⟩
 tups:=fun b xs q=>by rw [Ze (ZU q hn)];exact q
 frzs:=fun b u xs q=>by rw [Ze (ZU q hn)];exact q
 tbls:=fun b ps q=>⟨#[],by rw [Ze (ZU q hn),q];simp⟩
theorem Un.write (mu:JM (H x)) (he:e=x∨H e=some (.own x)) (k:∀b u,b≠e->h.get? b=some u->h'.get? b=some u) (heo:∃u,h'.get? e=some u):Un fs ex H (Zb H x o) h h':=by
 have hx:∀b,H b=none->b≠x:=fun b n z=>by subst z;rw [n] at mu;exact mu
 have hb:∀b,H b=none->b≠e:=fun b n z=>by
  subst z;rcases he with r|r
  ·exact hx b n r
  ·rw [n] at r;cases r
 have hm:∀b u,H b=some u->¬JM (some u)->b≠x:=fun b u q nm z=>by subst z;rw [q] at mu;exact nm mu
 refine ⟨fun b u q n _ _=>k b u (hb b n) q,fun b u q n _ _=>⟨u.slots,k b u (hb b n) q⟩,fun b u q n _=>by rw [Ze (hx b n)];exact n,fun b u q _=>?_,
  fun b xs q=>by rw [Ze (hm b _ q fun z=>z)];exact q,fun b u xs q=>by rw [Ze (hm b _ q fun z=>z)];exact q,fun b ps q=>⟨#[],by rw [Ze (hm b _ q fun z=>z),q];simp⟩⟩
 by_cases hbe:b=e
 ·subst hbe;exact heo
 ·exact ⟨u,k b u hbe q⟩
end
noncomputable def trk (h:Heap) (H:Hp):List Addr:=(List.range h.objs.size).filter fun a=>(H a).isSome
noncomputable def Ww (h:Heap) (H:Hp):Heap:=W.hideAll h (trk h H)
theorem Zmy (h:Heap) (H:Hp):(Ww h H).objs.size=h.objs.size:=W.hideAll_size _ _
theorem ZmP {h:Heap} {H:Hp} {b:Addr} {o:Obj} (e:h.get? b=some o) (n:H b=none):(Ww h H).get? b=some o :=
 W.hideAll_get _ e fun hm=>by
  have q:(H b).isSome=true:=(Q7.mp hm).2;rw [n] at q;simp at q
theorem ZlV {h:Heap} {H:Hp} {b:Addr} {o:Obj} (e:(Ww h H).get? b=some o):h.get? b=some o∧H b=none:=by
 have e':h.get? b=some o:=W.of_hideAll (trk h H) e;refine ⟨e',?_⟩;cases q:H b with
 |none=>rfl
 |some x =>
  have hm:b∈trk h H:=Q7.mpr ⟨G8.mpr (Qg e'),by simp [q]⟩;have z:(Ww h H).get? b=none:=W.hideAll_none (trk h H) hm;rw [z] at e;cases e
structure Mod (K:W.Frag) (mg:Str->Option Value) (base:Heap):Prop where
 kin:K.In base
 glob:base.Ns mainGlobals mg
 blt:∃mb,base.Ns builtinsNs mb∧∀x:Str,x≠"__name__"->mb x=bootBuiltins x
 nolimit:base.NoLimit
structure Cx where
 prog:Program
 w:World
 K:W.Frag
 mg:Str->Option Value
 base:Heap
 A:Around
 N:List Str
 s₀:Shared
 H₀:Hp
 env:Env
 outer:List Env
 stack:List Env
 ex:List Addr
 fn:Str->Bool
 calm:Bool
 pn:List (Addr×Obj)
 xe:Value->Shared->Prop
noncomputable def Yr (l:List Env):List Addr:=l.filterMap (·.frame)
noncomputable abbrev Cx.fs (X:Cx):List Addr:=Yr X.outer
def Js (sc:Scope) (x:Str):Prop:=sc.names.lookup x=some .local∨sc.names.lookup x=some .cell∨sc.names.lookup x=some .free
def Jy (sc:Scope) (x:Str):Prop:=sc.names.lookup x=some .local∨sc.names.lookup x=some .cell
def ZjR (env:Env) (h:Heap) (m:Str->Option Value) (x:Str) (u:Value):Prop :=
 (env.kindOf x=some .local∧m x=some u)∨((env.kindOf x=some .cell∨env.kindOf x=some .free)∧∃c,env.cells.lookup x=some c∧h.IsCell c (some u))
structure Cx.Ok (X:Cx):Prop where
 mod:Mod X.K X.mg X.base
 kind:X.env.scope.kind=.function
 glob:X.env.globals=mainGlobals
 blt:X.env.builtins=builtinsNs
 above:X.s₀.heap.objs.size≤X.env.locals
 inj:∀x y c,X.env.cells.lookup x=some c->X.env.cells.lookup y=some c->x=y
 has:∀x,(X.env.kindOf x=some .cell∨X.env.kindOf x=some .free)->∃c,X.env.cells.lookup x=some c
 cab:∀x c,X.fn x=true->X.env.cells.lookup x=some c->X.s₀.heap.objs.size≤c
 hd:X.calm=true->X.A.handled=none
 frames:X.A.frames=some X.stack
 stk:X.stack=X.outer∨(X.stack=X.env::X.outer∧X.env.frame=some X.env.locals)
 exf:∀b∈X.ex,b≠X.env.locals∧∀x c,X.env.cells.lookup x=some c->c≠b
 bs:∀b o,X.base.get? b=some o->X.s₀.heap.get? b=some o∧X.H₀ b=none
 bsz:X.base.objs.size≤X.s₀.heap.objs.size
 noex:∀b o,X.base.get? b=some o->b∉X.ex
 exfs:∀b∈X.ex,b∉X.fs
 funs:X.s₀.heap.FunFrames X.base X.outer
 frf:∀b∈X.fs,X.H₀ b=none
structure Inv (X:Cx) (pins:List (Addr×Obj)) (σ:List (Option V)) (H:Hp) (s:Shared):Prop where
 ok:X.Ok
 os:s.os=X.s₀.os
 bare:AllBare s.gens
 base:Un X.fs X.ex X.H₀ H X.s₀.heap s.heap
 loc:∃m,s.heap.Ns X.env.locals m∧∀(i:Nat) (x:Str) (v:V),X.N[i]?=some x->σ[i]?=some (some v)->Js X.env.scope x->∃u,RelV v u∧ZjR X.env s.heap m x u
 cell:∀x c,X.env.cells.lookup x=some c->∃v,s.heap.IsCell c v
 free:H X.env.locals=none
 freeC:∀x c,X.env.cells.lookup x=some c->H c=none
 pin:∀p∈X.pn++pins,s.heap.get? p.1=some p.2∧H p.1=none∧p.1≠X.env.locals∧p.1∉X.fs∧∀v,p.2.data≠.cell v
 hok:HOk X.prog X.w H s.heap
 len:σ.length=X.N.length
section
variable {X:Cx} {pins:List (Addr×Obj)} {σ:List (Option V)} {H H':Hp} {s:Shared} {h':Heap}
theorem Cx.Ok.nofr (ok:X.Ok) {b:Addr} {o:Obj} (e:X.base.get? b=some o):b∉X.fs:=fun hb=>by
 have:=(ok.funs.mem hb).1;rw [e] at this;cases this
theorem Inv.bs (I:Inv X pins σ H s):∀b o,X.base.get? b=some o->s.heap.get? b=some o∧H b=none:=fun b o e =>
 ⟨I.base.keep b o (I.ok.bs b o e).1 (I.ok.bs b o e).2 (I.ok.nofr e) (I.ok.noex b o e),I.base.free b o (I.ok.bs b o e).1 (I.ok.bs b o e).2 (I.ok.noex b o e)⟩
theorem Inv.bk (I:Inv X pins σ H s):∀b o,X.base.get? b=some o->s.heap.get? b=some o:=fun b o e=>(I.bs b o e).1
theorem Inv.mod (I:Inv X pins σ H s):Mod X.K X.mg X.base:=I.ok.mod
theorem Inv.kIn (I:Inv X pins σ H s):X.K.In s.heap:=I.ok.mod.kin.keeps I.bk
theorem Inv.nolimit (I:Inv X pins σ H s):s.heap.NoLimit:=I.ok.mod.nolimit.keeps I.bk
theorem Inv.lt (I:Inv X pins σ H s):X.env.locals<s.heap.objs.size:=let ⟨_,hn,_⟩:=I.loc;hn.lt
theorem Inv.sz (I:Inv X pins σ H s):X.s₀.heap.objs.size≤s.heap.objs.size:=Qn I.ok.above (Q1 I.lt)
theorem Inv.nofs (I:Inv X pins σ H s) {a:Addr} (h:s.heap.objs.size≤a):a∉X.fs:=fun hb=>by
 obtain ⟨_,o,ho,_⟩:=I.ok.funs.mem hb;exact absurd (Qz (Qg ho) (Qn I.sz h)) (QP _)
theorem Inv.cne (I:Inv X pins σ H s):∀x c,X.env.cells.lookup x=some c->c≠X.env.locals:=fun x c e z=>by
 obtain ⟨v,o,ho,hd⟩:=I.cell x c e;obtain ⟨m,⟨o',es,ep,ho',hd',_⟩,_⟩:=I.loc;rw [z,ho'] at ho;cases ho;rw [hd'] at hd;cases hd
theorem Inv.funs (I:Inv X pins σ H s):s.heap.FunFrames X.base X.outer:=by
 have all:∀(l:List Env),(∀b∈Yr l,b∈X.fs)->X.s₀.heap.FunFrames X.base l->s.heap.FunFrames X.base l:=by
  intro l
  induction l with
  |nil=>intro _ _;trivial
  |cons env r ih =>
   intro hs hl;obtain ⟨hk,⟨L,o,hf,hn,ho,hd⟩,hr⟩:=hl;have hL:L∈X.fs:=hs L (by unfold Yr;rw [QL,hf];exact QD);obtain ⟨sl,e⟩:=I.base.slot L o ho (I.ok.frf L hL) hL fun z=>I.ok.exfs L z hL;exact ⟨hk,⟨L,_,hf,hn,e,hd⟩,ih (fun b hb=>hs b (by unfold Yr;rw [QL,hf];exact QE _ hb)) hr⟩
 exact all X.outer (fun _ hb=>hb) I.ok.funs
theorem Inv.stack (I:Inv X pins σ H s):s.heap.FunFrames X.base X.stack:=by
 rcases I.ok.stk with e|⟨e,hf⟩
 ·rw [e];exact I.funs
 ·rw [e];obtain ⟨m,hn,_⟩:=I.loc;refine .cons (by rw [I.ok.kind];decide) hf hn ?_ I.funs;exact Heap.get?_none_of_le (Qn I.ok.bsz I.ok.above)
theorem Inv.stkSub (I:Inv X pins σ H s):∀b∈Yr X.stack,b∈X.env.locals::X.fs:=fun b hb=>by
 rcases I.ok.stk with e|⟨e,hf⟩
 ·rw [e] at hb;exact QE _ hb
 ·rw [e] at hb;unfold Yr at hb;rw [QL,hf] at hb;exact hb
theorem Inv.stkFree (I:Inv X pins σ H s):∀b∈Yr X.stack,H b=none:=fun b hb=>by
 rcases Qh.mp (I.stkSub b hb) with e|hb
 ·rw [e];exact I.free
 ·obtain ⟨_,o,ho,_⟩:=I.ok.funs.mem hb;exact I.base.free b o ho (I.ok.frf b hb) fun z=>I.ok.exfs b z hb
theorem Inv.step {g':Array GenState} {t':Nat} {d':Drawn} {ch:List Addr} (I:Inv X pins σ H s)
  (hch:∀b∈ch,(b∈X.ex∨X.s₀.heap.objs.size≤b)∧b≠X.env.locals∧(∀x c,X.env.cells.lookup x=some c->c≠b)∧∀p∈X.pn++pins,p.1≠b)
  (keep:∀b o,b≠X.env.locals->b∉X.fs->b∉ch->s.heap.get? b=some o->H b=none->h'.get? b=some o)
  (slot:∀b o,b≠X.env.locals->b∈X.fs->b∉ch->s.heap.get? b=some o->H b=none->∃sl,h'.get? b=some { o with slots:=sl }) (free:∀b o,b∉ch->s.heap.get? b=some o->H b=none->H' b=none)
  (there:∀b o,b∉ch->s.heap.get? b=some o->∃o',h'.get? b=some o')
  (tups:∀b xs,H b=some (.tup xs)->H' b=some (.tup xs)) (frzs:∀b o u,H b=some (.frz o u)->H' b=some (.frz o u)) (tbls:∀b ps,H b=some (.tbl ps)->∃more,H' b=some (.tbl (ps++more)))
  (ns:∀m,s.heap.Ns X.env.locals m->h'.Ns X.env.locals m) (hok:HOk X.prog X.w H' h') (hg:AllBare g') :
  Inv X pins σ H' { s with heap:=h',gens:=g',drawn:=d',toks:=t' }:=by
 have neL:∀b o,X.s₀.heap.get? b=some o->b≠X.env.locals:=fun b o e=>Qy (Qz (Qg e) I.ok.above)
 have neC:∀b o,X.s₀.heap.get? b=some o->b∉X.ex->b∉ch:=fun b o e hx hb=>by
  rcases (hch b hb).1 with z|z
  ·exact hx z
  ·exact absurd (Qz (Qg e) z) (QP _)
 have cellK:∀x c,X.env.cells.lookup x=some c->∀v,s.heap.IsCell c v->h'.IsCell c v:=fun x c e v ⟨o,ho,hd⟩=>by
  have nch:c∉ch:=fun z=>(hch c z).2.2.1 x c e rfl;by_cases hc:c∈X.fs
  ·obtain ⟨sl,q⟩:=slot c o (I.cne x c e) hc nch ho (I.freeC x c e);exact ⟨_,q,hd⟩
  ·exact ⟨o,keep c o (I.cne x c e) hc nch ho (I.freeC x c e),hd⟩
 refine ⟨I.ok,I.os,hg,⟨fun b o e n hb hx=>?_,fun b o e n hb hx=>?_,fun b o e n hx=>?_,fun b o e hx=>?_,fun b xs e=>tups b xs (I.base.tups b xs e),fun b o xs e=>frzs b o xs (I.base.frzs b o xs e),fun b ps e=>?_⟩,?_,fun x c e=>?_,?_,fun x c e=>?_,fun p hp=>?_,hok,I.len⟩
 ·exact keep b o (neL b o e) hb (neC b o e hx) (I.base.keep b o e n hb hx) (I.base.free b o e n hx)
 ·obtain ⟨sl,e1⟩:=I.base.slot b o e n hb hx;obtain ⟨sl',e2⟩:=slot b _ (neL b o e) hb (neC b o e hx) e1 (I.base.free b o e n hx);exact ⟨sl',e2⟩
 ·obtain ⟨o',e1⟩:=I.base.there b o e hx;exact free b o' (neC b o e hx) e1 (I.base.free b o e n hx)
 ·obtain ⟨o',e1⟩:=I.base.there b o e hx;exact there b o' (neC b o e hx) e1
 ·obtain ⟨m1,e1⟩:=I.base.tbls b ps e;obtain ⟨m2,e2⟩:=tbls b _ e1;exact ⟨m1++m2,by rw [e2,Array.append_assoc]⟩
 ·obtain ⟨m,hn,hl⟩:=I.loc;refine ⟨m,ns m hn,fun i x v e1 e2 e3=>?_⟩;obtain ⟨u,r,l⟩:=hl i x v e1 e2 e3;refine ⟨u,r,?_⟩;rcases l with l|⟨k,c,e,z⟩
  ·exact .inl l
  ·exact .inr ⟨k,c,e,cellK x c e _ z⟩
 ·obtain ⟨v,z⟩:=I.cell x c e;exact ⟨v,cellK x c e v z⟩
 ·obtain ⟨m,⟨o,_,_,ho,_⟩,_⟩:=I.loc;exact free _ o (fun z=>(hch _ z).2.1 rfl) ho I.free
 ·obtain ⟨v,o,ho,hd⟩:=I.cell x c e;exact free c o (fun z=>(hch c z).2.2.1 x c e rfl) ho (I.freeC x c e)
 ·obtain ⟨e,n,ne,nf,d⟩:=I.pin p hp;have nch:p.1∉ch:=fun z=>(hch p.1 z).2.2.2 p hp rfl;exact ⟨keep p.1 p.2 ne nf nch e n,free p.1 p.2 nch e n,ne,nf,d⟩
theorem Inv.un {t':Nat} (I:Inv X pins σ H s) (u:Un X.fs [] H H' s.heap h') (hok:HOk X.prog X.w H' h'):Inv X pins σ H' { s with heap:=h',toks:=t' }:=by
 obtain ⟨m,⟨o,es,ep,ho,r⟩,_⟩:=id I.loc;obtain ⟨sl,hL⟩:=u.any ho I.free (by simp)
 exact I.step (g':=s.gens) (d':=s.drawn) (ch:=[]) (fun _ z=>nomatch z) (fun b o _ hb _ e n=>u.keep b o e n hb (by simp)) (fun b o _ hb _ e n=>u.slot b o e n hb (by simp)) (fun b o _ e n=>u.free b o e n (by simp)) (fun b o _ e=>u.there b o e (by simp)) u.tups u.frzs u.tbls (fun m' hm=>by
  obtain ⟨o',es',ep',ho',r'⟩:=hm;rw [ho] at ho';cases ho';exact ⟨_,es',ep',hL,r'⟩) hok I.bare
theorem Inv.call {g':Array GenState} {t':Nat} {d':Drawn} {ch:List Addr} (I:Inv X pins σ H s) (u:Un (Yr X.stack) ch H H' s.heap h') (hok:HOk X.prog X.w H' h') (hg:AllBare g')
  (hch:∀b∈ch,(b∈X.ex∨X.s₀.heap.objs.size≤b)∧b≠X.env.locals∧(∀x c,X.env.cells.lookup x=some c->c≠b)∧∀p∈X.pn++pins,p.1≠b) :
  Inv X pins σ H' { s with heap:=h',gens:=g',drawn:=d',toks:=t' }:=by
 obtain ⟨m,⟨o,es,ep,ho,r⟩,_⟩:=id I.loc;obtain ⟨sl,hL⟩:=u.any ho I.free fun z=>(hch _ z).2.1 rfl
 exact I.step (ch:=ch) hch (fun b o hL hb hc e n=>u.keep b o e n (fun z=>(Qh.mp (I.stkSub b z)).elim hL hb) hc) (fun b o _ _ hc e n=>u.any e n hc) (fun b o hc e n=>u.free b o e n hc) (fun b o hc e=>u.there b o e hc) u.tups u.frzs u.tbls (fun m' hm=>by
  obtain ⟨o',es',ep',ho',r'⟩:=hm;rw [ho] at ho';cases ho';exact ⟨_,es',ep',hL,r'⟩) hok hg
theorem Inv.turned {t':Nat} {it:Addr} (I:Inv X pins σ H s) (k:∀b o,b≠it->s.heap.get? b=some o->h'.get? b=some o) (hn:H it=none) (hL:it≠X.env.locals)
  (h1:it∈X.ex∨X.s₀.heap.objs.size≤it) (h2:∀x c,X.env.cells.lookup x=some c->c≠it) (h3:∀p∈X.pn++pins,p.1≠it):Inv X pins σ H { s with heap:=h',toks:=t' }:=by
 have nit:∀b u,H b=some u->b≠it:=fun b u e z=>by rw [z,hn] at e;cases e
 refine I.step (g':=s.gens) (d':=s.drawn) (ch:=[it]) (fun b hb=>?_) (fun b o _ _ hc e _=>k b o (fun z=>hc (by simp [z])) e) (fun b o _ _ hc e _=>⟨o.slots,k b o (fun z=>hc (by simp [z])) e⟩) (fun _ _ _ _ n=>n)
  (fun b o hc e=>⟨o,k b o (fun z=>hc (by simp [z])) e⟩) (fun _ _ e=>e) (fun _ _ _ e=>e) (fun b ps e=>⟨#[],by rw [e];simp⟩) (fun m hm=>?_) (fun b u e=>?_) I.bare
 ·have e:b=it:=by simpa using hb
  subst e;exact ⟨h1,hL,h2,h3⟩
 ·obtain ⟨o,es,ep,ho,r⟩:=hm;exact ⟨o,es,ep,k _ o (Q2 hL) ho,r⟩
 ·refine (I.hok b u e).stay (fun c v hc q=>k c v ?_ q) (fun _ q=>q) fun _ _ q=>q;rcases hc with z|z
  ·rw [z];exact nit b u e
  ·exact nit c _ z
theorem Inv.tok (I:Inv X pins σ H s) (t:Nat):Inv X pins σ H { s with toks:=t }:=I.un (h':=s.heap) (t':=t) Un.refl I.hok
theorem Inv.kept {t':Nat} (I:Inv X pins σ H s) (k:∀b u,s.heap.get? b=some u->h'.get? b=some u):Inv X pins σ H { s with heap:=h',toks:=t' }:=I.un (Un.kept k) (I.hok.kept k)
theorem Inv.laid {a:Addr} {o:HO} {t':Nat} (I:Inv X pins σ H s) (k:∀b u,s.heap.get? b=some u->h'.get? b=some u) (hp:s.heap.objs.size≤a) (new:ObjOk X.prog X.w (Zb H a o) h' a o) :
  Inv X pins σ (Zb H a o) { s with heap:=h',toks:=t' }:=I.un (Un.laid k hp (I.hok.fresh hp)) (I.hok.laid k hp new)
theorem Inv.write {x e:Addr} {o:HO} {t':Nat} (I:Inv X pins σ H s) (mu:JM (H x)) (he:e=x∨H e=some (.own x)) (k:∀b u,b≠e->s.heap.get? b=some u->h'.get? b=some u) (heo:∃u,h'.get? e=some u)
  (new:ObjOk X.prog X.w (Zb H x o) h' x o):Inv X pins σ (Zb H x o) { s with heap:=h',toks:=t' }:=I.un (Un.write mu he k heo) (I.hok.write mu he k heo new)
theorem Inv.pins_of {pins':List (Addr×Obj)} (I:Inv X pins σ H s) (h:∀p∈pins',s.heap.get? p.1=some p.2∧H p.1=none∧p.1≠X.env.locals∧p.1∉X.fs∧∀v,p.2.data≠.cell v):Inv X pins' σ H s :=
 ⟨I.ok,I.os,I.bare,I.base,I.loc,I.cell,I.free,I.freeC,fun p hp=>(Qm.mp hp).elim (fun z=>I.pin p (QQ _ z)) (h p),I.hok,I.len⟩
theorem Zfh {N:List Str} (hN:N.Nodup) {i j:Nat} {x:Str} (a:N[i]?=some x) (b:N[j]?=some x):i=j:=by
 obtain ⟨h1,e1⟩:=QJ.mp a;obtain ⟨h2,e2⟩:=QJ.mp b;exact (Gy hN).mp (e1.trans e2.symm)
theorem Zfe {M:Model} {A:Around} {E:Value->Shared->Prop} {i:Nat} {x:Str} {v:V} {u:Value} {Q:Unit->Shared->Prop} (I:Inv X pins σ H s) (hN:X.N.Nodup) (hi:X.N[i]?=some x) (hx:Jy X.env.scope x) (r:RelV v u)
  (h:∀s',Inv X pins (σ.set i (some v)) H s'->(∃a,Heap.SameBut a s.heap s'.heap∧(a=X.env.locals∨X.env.cells.lookup x=some a))->Q () s') (hf:X.fn x=true∨X.env.scope.names.lookup x=some .local:=by first|exact .inl rfl|exact .inr rfl|assumption):wpAny M A (storeName X.env x u) Q E s:=by
 obtain ⟨m,hn,hl⟩:=id I.loc;have hcls:(X.env.scope.kind==.class||(X.env.scope.kind==.module&&X.env.locals != X.env.globals))=false:=by rw [I.ok.kind];rfl
 have hiσ:i<σ.length:=by rw [I.len];exact (QJ.mp hi).1
 have cne:=I.cne
 have tracked:∀{a:Addr} {h':Heap},(∃o,s.heap.get? a=some o∧H a=none)->Heap.SameBut a s.heap h'->HOk X.prog X.w H h':=fun {a h'} ha hs b ob e=>by
  obtain ⟨_,_,hfree⟩:=ha;refine (I.hok b ob e).stay (fun c w' hc q=>(hs.2 c ?_).trans q) (fun _ q=>q) fun _ _ q=>q;rintro rfl;rcases hc with rfl|hc
  ·rw [hfree] at e;cases e
  ·rw [hfree] at hc;cases hc
 rcases hx with hk|hk
 ·refine wpAny_storeName_local hk hn (fun h' hn' hs=>?_) hcls;obtain ⟨oL,_,_,hoL,_⟩:=id hn;refine h _ ⟨I.ok,I.os,I.bare,⟨fun b o e n hb hx=>?_,fun b o e n hb hx=>?_,I.base.free,fun b o e hx=>?_,I.base.tups,I.base.frzs,I.base.tbls⟩,⟨_,hn',fun j y v' e1 e2 e3=>?_⟩,fun y c e=>?_,I.free,I.freeC,fun p hp=>?_,tracked ⟨oL,hoL,I.free⟩ hs,by simpa using I.len⟩ ⟨_,hs,.inl rfl⟩
  ·exact (hs.2 b (Qy (Qz (Qg e) I.ok.above))).trans (I.base.keep b o e n hb hx)
  ·obtain ⟨sl,e1⟩:=I.base.slot b o e n hb hx;exact ⟨sl,(hs.2 b (Qy (Qz (Qg e) I.ok.above))).trans e1⟩
  ·obtain ⟨o',e1⟩:=I.base.there b o e hx;exact ⟨o',(hs.2 b (Qy (Qz (Qg e) I.ok.above))).trans e1⟩
  ·by_cases hj:j=i
   ·subst hj;rw [hi] at e1;cases e1;rw [List.getElem?_set_self hiσ] at e2;cases e2;exact ⟨u,r,.inl ⟨hk,by simp⟩⟩
   ·rw [List.getElem?_set_ne (Q2 hj)] at e2;obtain ⟨u',r',q⟩:=hl j y v' e1 e2 e3;refine ⟨u',r',?_⟩;rcases q with ⟨k,e⟩|⟨k,c,e,z⟩
    ·refine .inl ⟨k,?_⟩;have:y≠x:=fun e=>hj (Zfh hN e1 (e▸hi));simp [this,e]
    ·exact .inr ⟨k,c,e,z.sameBut hs (cne y c e)⟩
  ·obtain ⟨w',z⟩:=I.cell y c e;exact ⟨w',z.sameBut hs (cne y c e)⟩
  ·obtain ⟨e,n,ne,nf,d⟩:=I.pin p hp;exact ⟨(hs.2 p.1 ne).trans e,n,ne,nf,d⟩
 ·have hfn:X.fn x=true:=by
   rcases hf with z|z
   ·exact z
   ·rw [z] at hk;cases hk
  obtain ⟨c,hc⟩:=I.ok.has x (.inl hk);obtain ⟨w',z⟩:=I.cell x c hc;refine wpAny_storeName_cell I.ok.kind hk hc z (fun h' hc' hs=>?_);obtain ⟨oc,hoc,hocd⟩:=id z;refine h { s with heap:=h' } ⟨I.ok,I.os,I.bare,⟨fun b o e n hb hx=>?_,fun b o e n hb hx=>?_,I.base.free,fun b o e hx=>?_,I.base.tups,I.base.frzs,I.base.tbls⟩,⟨m,hn.sameBut hs (Q2 (cne x c hc)),fun j y v' e1 e2 e3=>?_⟩,fun y c' e=>?_,I.free,I.freeC,fun p hp=>?_,tracked ⟨oc,hoc,I.freeC x c hc⟩ hs,by simpa using I.len⟩ ⟨c,hs,.inr hc⟩
  ·exact (hs.2 b (Qy (Qz (Qg e) (I.ok.cab x c hfn hc)))).trans (I.base.keep b o e n hb hx)
  ·obtain ⟨sl,e1⟩:=I.base.slot b o e n hb hx;exact ⟨sl,(hs.2 b (Qy (Qz (Qg e) (I.ok.cab x c hfn hc)))).trans e1⟩
  ·obtain ⟨o',e1⟩:=I.base.there b o e hx;exact ⟨o',(hs.2 b (Qy (Qz (Qg e) (I.ok.cab x c hfn hc)))).trans e1⟩
  ·by_cases hj:j=i
   ·subst hj;rw [hi] at e1;cases e1;rw [List.getElem?_set_self hiσ] at e2;cases e2;exact ⟨u,r,.inr ⟨.inl hk,c,hc,hc'⟩⟩
   ·rw [List.getElem?_set_ne (Q2 hj)] at e2;obtain ⟨u',r',q⟩:=hl j y v' e1 e2 e3;refine ⟨u',r',?_⟩;rcases q with q|⟨k,c',e,z'⟩
    ·exact .inl q
    ·refine .inr ⟨k,c',e,z'.sameBut hs ?_⟩;rintro rfl;exact hj (Zfh hN e1 (I.ok.inj _ _ _ e hc▸hi))
  ·by_cases hcc:c'=c
   ·subst hcc;exact ⟨_,hc'⟩
   ·obtain ⟨w2,z2⟩:=I.cell y c' e;exact ⟨w2,z2.sameBut hs hcc⟩
  ·obtain ⟨e,n,ne,nf,d⟩:=I.pin p hp;refine ⟨(hs.2 p.1 ?_).trans e,n,ne,nf,d⟩;intro q;rw [q,hoc] at e;have q':oc=p.2:=Ql e;exact d w' (by rw [←q'];exact hocd)
theorem J3 {M:Model} {A:Around} {E:Value->Shared->Prop} {i:Nat} {x:Str} {v:V} {u:Value} {Q:Unit->Shared->Prop} (I:Inv X pins σ H s) (hN:X.N.Nodup) (hi:X.N[i]?=some x) (hx:Jy X.env.scope x) (r:RelV v u)
  (h:∀s',Inv X pins (σ.set i (some v)) H s'->Q () s') (hf:X.fn x=true∨X.env.scope.names.lookup x=some .local:=by first|exact .inl rfl|exact .inr rfl|assumption):wpAny M A (storeName X.env x u) Q E s :=
 Zfe I hN hi hx r (fun s' I' _=>h s' I') hf
theorem Inv.call' {s':Shared} {ch:List Addr} (I:Inv X pins σ H s) (ho:s'.os=s.os) (u:Un (Yr X.stack) ch H H' s.heap s'.heap) (hok:HOk X.prog X.w H' s'.heap) (hg:AllBare s'.gens)
  (hch:∀b∈ch,(b∈X.ex∨X.s₀.heap.objs.size≤b)∧b≠X.env.locals∧(∀x c,X.env.cells.lookup x=some c->c≠b)∧∀p∈X.pn++pins,p.1≠b):Inv X pins σ H' s':=by
 obtain ⟨h',g',d',t',o'⟩:=s';have e:o'=s.os:=ho;subst e;exact I.call (g':=g') (t':=t') (d':=d') u hok hg hch
end
abbrev XK:=Value->Option Addr->Hp->Prop
abbrev St:=List (Option V)
abbrev VK:=V->Hp->Prop
abbrev TE:=St->Hp->VK->Prop
abbrev TT:=St->Hp->(Bool->Hp->Prop)->Prop
abbrev TA:=St->Hp->(List V->Hp->Prop)->Prop
structure Ends where
 nx:St->Hp->Prop
 rt:VK
 bk:St->Hp->Prop:=fun _ _=>False
 ct:St->Hp->Prop:=fun _ _=>False
abbrev TS:=Ends->St->Hp->Prop
def EP (X:Cx) (pins:List (Addr×Obj)) (σ:St) (Q:VK) (u:Value) (s':Shared):Prop:=∃v H',Inv X pins σ H' s'∧RelV v u∧Q v H'
def TP (X:Cx) (pins:List (Addr×Obj)) (σ:St) (Q:Bool->Hp->Prop) (b:Bool) (s':Shared):Prop:=∃H',Inv X pins σ H' s'∧Q b H'
def AP (X:Cx) (pins:List (Addr×Obj)) (σ:St) (Q:List V->Hp->Prop) (us:List Value) (s':Shared):Prop:=∃vs H',Inv X pins σ H' s'∧Vals vs us∧Q vs H'
def SP (X:Cx) (pins:List (Addr×Obj)) (D:Ends) (f:Flow) (s':Shared):Prop :=
 match f with
 |.next=>∃σ' H',Inv X pins σ' H' s'∧D.nx σ' H'
 |.brk=>∃σ' H',Inv X pins σ' H' s'∧D.bk σ' H'
 |.cont=>∃σ' H',Inv X pins σ' H' s'∧D.ct σ' H'
 |.ret u=>∃v σ' H',Inv X pins σ' H' s'∧RelV v u∧D.rt v H'
def PE (X:Cx) (e:Expr) (t:TE):Prop :=
 ∀(pins:List (Addr×Obj)) (s:Shared) (σ:St) (H:Hp) (Q:VK),Inv X pins σ H s->t σ H Q->wpAny (model X.prog X.w) X.A (eval e X.env) (EP X pins σ Q) X.xe s
def PT (X:Cx) (e:Expr) (t:TT):Prop :=
 ∀(pins:List (Addr×Obj)) (s:Shared) (σ:St) (H:Hp) (Q:Bool->Hp->Prop),Inv X pins σ H s->t σ H Q->wpAny (model X.prog X.w) X.A (isTrue e X.env (eval e X.env)) (TP X pins σ Q) X.xe s
def PW (X:Cx) (e:Expr) (t:TT):Prop :=
 ∀(whole:Sem Value) (pins:List (Addr×Obj)) (s:Shared) (σ:St) (H:Hp) (Q:Bool->Hp->Prop),Inv X pins σ H s->t σ H Q->wpAny (model X.prog X.w) X.A (isTrue e X.env whole) (TP X pins σ Q) X.xe s
theorem PW.pt {X:Cx} {e:Expr} {t:TT} (h:PW X e t):PT X e t:=h _
def PA (X:Cx) (es:List Expr) (t:TA):Prop :=
 ∀(pos:Pos) (pins:List (Addr×Obj)) (s:Shared) (σ:St) (H:Hp) (Q:List V->Hp->Prop),Inv X pins σ H s->t σ H Q->wpAny (model X.prog X.w) X.A (spliced (backTo pos (starEach es X.env))) (AP X pins σ Q) X.xe s
def PS (X:Cx) (st:Stmt) (t:TS):Prop :=
 ∀(pins:List (Addr×Obj)) (s:Shared) (σ:St) (H:Hp) (D:Ends),Inv X pins σ H s->t D σ H->wpAny (model X.prog X.w) X.A (exec st X.env) (SP X pins D) X.xe s
def PSs (X:Cx) (st:List Stmt) (t:TS):Prop :=
 ∀(pins:List (Addr×Obj)) (s:Shared) (σ:St) (H:Hp) (D:Ends),Inv X pins σ H s->t D σ H->wpAny (model X.prog X.w) X.A (execs st X.env) (SP X pins D) X.xe s
theorem Zr {α:Type} {t:Sem α} {Q Q':α->Shared->Prop} {M:Model} {A:Around} {E:Value->Shared->Prop} {s:Shared} (h:wpAny M A t Q E s) (hQ:∀a s,Q a s->Q' a s):wpAny M A t Q' E s:=Ra h hQ fun _ _ x=>x
section
variable {X:Cx}
def Jx (i:Nat):TE:=fun σ H Q=>∃v,σ[i]?=some (some v)∧Q v H
def tC (v:V):TE:=fun _ H Q=>Q v H
theorem Zb7 {i:Nat} {x:Str} {pos:Pos} (hN:X.N[i]?=some x) (hv:Js X.env.scope x) (hd:(x==("__debug__" : Str))=false:=by decide) (hcd:(x==("__classdict__" : Str))=false:=by decide):PE X (.Name x pos) (Jx i):=by
 intro pins s σ H Q I h;obtain ⟨v,e,h⟩:=h;obtain ⟨m,hn,hl⟩:=I.loc;obtain ⟨u,r,l⟩:=hl i x v hN e hv;have fin:EP X pins σ Q u s:=⟨v,H,I,r,h⟩;rcases l with ⟨hk,hm⟩|⟨hk,c,hc,hcell⟩
 ·exact RW (G9 I.ok.kind hk hn hm fin) hd
 ·rcases hk with hk|hk
  ·exact RW (wpAny_loadName_cell I.ok.kind hk hc hcell fin) hd
  ·exact RW (wpAny_loadName_free I.ok.kind hk hc hcell fin hcd) hd
theorem Zd {i j pos}:PE X (.Constant (.int i) j pos) (tC (.int i)):=fun _ _ _ H _ I h=>wpAny_Constant_int ⟨.int i,H,I.tok _,⟨_,rfl⟩,h⟩
theorem YY {b j pos}:PE X (.Constant (.bool b) j pos) (tC (.bl b)):=fun _ _ _ H _ I h=>Constant_bool ⟨.bl b,H,I,rfl,h⟩
theorem VI {j pos}:PE X (.Constant .none j pos) (tC .non):=fun _ _ _ H _ I h=>Constant_none ⟨.non,H,I,rfl,h⟩
theorem Zs {x j pos}:PE X (.Constant (.str x) j pos) (tC (.str x)):=fun _ _ _ H _ I h=>Calls.Constant_str ⟨.str x,H,I.tok _,⟨_,rfl⟩,h⟩
def Gl (X:Cx) (x:Str):Prop:=X.env.kindOf x=some .globalImplicit
theorem Jd {E:Value->Shared->Prop} {pins:List (Addr×Obj)} {s:Shared} {σ:St} {H:Hp} {x:Str} {u:Value} {pos:Pos} {Q:Value->Shared->Prop} (I:Inv X pins σ H s) (hg:Gl X x) (hm:X.mg x=some u) (h:Q u s)
  (hd:(x==("__debug__" : Str))=false:=by decide):wpAny (model X.prog X.w) X.A (eval (.Name x pos) X.env) Q E s :=
 Na I.ok.kind hg (Calls.loadGlobal_global (by rw [I.ok.glob];exact I.mod.glob.keeps I.bk) hm h) hd
theorem Vr {E:Value->Shared->Prop} {pins:List (Addr×Obj)} {s:Shared} {σ:St} {H:Hp} {x:Str} {u:Value} {pos:Pos} {Q:Value->Shared->Prop} (I:Inv X pins σ H s) (hg:Gl X x) (hm:X.mg x=none) (hv:bootBuiltins x=some u) (h:Q u s)
  (hn:x≠"__name__":=by decide) (hd:(x==("__debug__" : Str))=false:=by decide):wpAny (model X.prog X.w) X.A (eval (.Name x pos) X.env) Q E s:=by
 obtain ⟨mb,h1,h2⟩:=I.mod.blt;exact Na I.ok.kind hg (Calls.loadGlobal_builtin (by rw [I.ok.glob];exact I.mod.glob.keeps I.bk) hm (by rw [I.ok.blt];exact h1.keeps I.bk) ((h2 x hn).trans hv) h) hd
theorem UP {x:Str} {v:V} {u:Value} {pos:Pos} (hg:Gl X x) (hm:X.mg x=some u) (r:RelV v u) (hd:(x==("__debug__" : Str))=false:=by decide):PE X (.Name x pos) (tC v) :=
 fun _ _ _ H _ I h=>Jd I hg hm ⟨v,H,I,r,h⟩ hd
theorem XV {x:Str} {v:V} {u:Value} {pos:Pos} (hg:Gl X x) (hm:X.mg x=none) (hv:bootBuiltins x=some u) (r:RelV v u) (hn:x≠"__name__":=by decide) (hd:(x==("__debug__" : Str))=false:=by decide):PE X (.Name x pos) (tC v) :=
 fun _ _ _ H _ I h=>Vr I hg hm hv ⟨v,H,I,r,h⟩ hn hd
variable {a b:Expr} {ta tb:TE} {pos:Pos}
def PC (X:Cx) (op:CmpOp) (a b:Expr) (t:TE):Prop :=
 ∀(pins:List (Addr×Obj)) (s:Shared) (σ:St) (H:Hp) (Q:VK),Inv X pins σ H s->t σ H Q →
  wpAny (model X.prog X.w) X.A (eval a X.env) (fun v s₁=>wpAny (model X.prog X.w) X.A (eval b X.env) (fun u s₂=>wpAny (model X.prog X.w) X.A (compareOp op v u) (EP X pins σ Q) X.xe s₂) X.xe s₁) X.xe s
def tB (t:TE):TT:=fun σ H Q=>t σ H fun x H1=>∃c,x=.bl c∧Q c H1
theorem Jq {op:CmpOp} {t:TE} (h:PC X op a b t) (h1:behindInMarks op b=false:=by first|exact nobehind _ (by decide) (by decide)|rfl):PT X (.Compare a [op] [b] pos) (tB t):=by
 intro pins s σ H Q I hw;refine wpAny_isTrue_Compare1 (Zr (h pins s σ H _ I hw) fun v s1 h1=>Zr h1 fun u s2 h2=>Zr h2 fun c s3 ⟨x,H1,I1,r1,q1⟩=>?_) h1;obtain ⟨d,rfl,q⟩:=q1;cases r1;exact RM ⟨H1,I1,q⟩
theorem Xb {e:Expr} {t:TE} (h:PE X e t) (he:∀whole,isTrue e X.env whole=(do let v ←whole;standAt e.pos;holding [v] (truthy v)):=by intro _;rfl):PT X e (tB t):=by
 intro pins s σ H Q I hw;refine isTrue_plain (Zr (h pins s σ H _ I hw) fun v s1 ⟨x,H1,I1,r1,q1⟩=>?_) (he _);obtain ⟨d,rfl,q⟩:=q1;cases r1;exact RM ⟨H1,I1,q⟩
variable {tA tB':TT} {rest:List Expr}
def Zme (t u:TT):TT:=fun σ H Q=>t σ H fun c H1=>if c=true then u σ H1 Q else Q false H1
def tOr (t u:TT):TT:=fun σ H Q=>t σ H fun c H1=>if c=true then Q true H1 else u σ H1 Q
def Zlt (t:TT):TT:=fun σ H Q=>t σ H fun c H1=>Q (!c) H1
theorem WI (ha:PT X a tA):PW X (.BoolOp .And [a] pos) tA:=by
 intro wh pins s σ H Q I h;refine isTrue_and (Zr (ha pins s σ H Q I h) fun c s1 e=>?_);cases c with
 |true=>exact isTrue_and_nil e
 |false=>exact e
theorem Wu (ha:PT X a tA):PW X (.BoolOp .Or [a] pos) tA:=by
 intro wh pins s σ H Q I h;refine isTrue_or (Zr (ha pins s σ H Q I h) fun c s1 e=>?_);cases c with
 |false=>exact isTrue_or_nil e
 |true=>exact e
theorem WM (ha:PT X a tA) (hb:PW X (.BoolOp .And (b::rest) pos) tB'):PW X (.BoolOp .And (a::b::rest) pos) (Zme tA tB'):=by
 intro wh pins s σ H Q I h;refine isTrue_and (Zr (ha pins s σ H _ I h) fun c s1 ⟨H1,I1,q1⟩=>?_);cases c with
 |true=>exact hb wh pins s1 σ H1 Q I1 q1
 |false=>exact ⟨H1,I1,q1⟩
theorem X4 (ha:PT X a tA) (hb:PW X (.BoolOp .Or (b::rest) pos) tB'):PW X (.BoolOp .Or (a::b::rest) pos) (tOr tA tB'):=by
 intro wh pins s σ H Q I h;refine isTrue_or (Zr (ha pins s σ H _ I h) fun c s1 ⟨H1,I1,q1⟩=>?_);cases c with
 |true=>exact ⟨H1,I1,q1⟩
 |false=>exact hb wh pins s1 σ H1 Q I1 q1
theorem XZ (ha:PT X a tA):PT X (.UnaryOp .Not a pos) (Zlt tA):=by
 intro pins s σ H Q I h;exact isTrue_not (ha pins s σ H (fun c H1=>Q (!c) H1) I h)
def Zjp (ta tb:TE):TE:=fun σ H Q=>ta σ H fun x H1=>∃c,x=.bl c∧if c=true then tb σ H1 Q else Q (.bl false) H1
def Zj2 (ta tb:TE):TE:=fun σ H Q=>ta σ H fun x H1=>∃c,x=.bl c∧if c=true then Q (.bl true) H1 else tb σ H1 Q
def ZlC (ta:TE):TE:=fun σ H Q=>ta σ H fun x H1=>∃c,x=.bl c∧Q (.bl (!c)) H1
theorem XE {op} {t:TE} (h:PE X a t):PE X (.BoolOp op [a] pos) t:=fun pins s σ H Q I hw=>BoolOp_one (h pins s σ H Q I hw)
theorem XB (ha:PE X a ta) (hb:PE X (.BoolOp .And (b::rest) pos) tb):PE X (.BoolOp .And (a::b::rest) pos) (Zjp ta tb):=by
 intro pins s σ H Q I h;refine BoolOp_and (Zr (ha pins s σ H _ I h) fun v s1 ⟨x,H1,I1,r1,q1⟩=>?_);obtain ⟨c,rfl,q1⟩:=q1;cases r1;refine RM ?_;cases c with
 |true=>exact hb pins s1 σ H1 Q I1 q1
 |false=>exact ⟨.bl false,H1,I1,rfl,q1⟩
theorem Ze3 (ha:PE X a ta) (hb:PE X (.BoolOp .Or (b::rest) pos) tb):PE X (.BoolOp .Or (a::b::rest) pos) (Zj2 ta tb):=by
 intro pins s σ H Q I h;refine BoolOp_or (Zr (ha pins s σ H _ I h) fun v s1 ⟨x,H1,I1,r1,q1⟩=>?_);obtain ⟨c,rfl,q1⟩:=q1;cases r1;refine RM ?_;cases c with
 |false=>exact hb pins s1 σ H1 Q I1 q1
 |true=>exact ⟨.bl true,H1,I1,rfl,q1⟩
theorem Zi3 (ha:PE X a ta):PE X (.UnaryOp .Not a pos) (ZlC ta):=by
 intro pins s σ H Q I h;refine UnaryOp_ (Zr (ha pins s σ H _ I h) fun v s1 ⟨x,H1,I1,r1,q1⟩=>?_);obtain ⟨c,rfl,q1⟩:=q1;cases r1;exact not_of (RM ⟨.bl (!c),H1,I1,rfl,q1⟩)
def tIf (t:TT) (ta tb:TE):TE:=fun σ H Q=>t σ H fun c H1=>if c=true then ta σ H1 Q else tb σ H1 Q
theorem ZkW {c:Expr} (hc:PT X c tA) (ha:PE X a ta) (hb:PE X b tb):PE X (.IfExp c a b pos) (tIf tA ta tb):=by
 intro pins s σ H Q I h;refine wpAny_IfExp (Zr (hc pins s σ H _ I h) fun d s1 ⟨H1,I1,q1⟩=>?_);cases d with
 |true=>exact ha pins s1 σ H1 Q I1 q1
 |false=>exact hb pins s1 σ H1 Q I1 q1
end
def SqL (K:W.Frag) (H:Hp) (a:Addr) (xs:List V):Prop :=
 Rd H a (.lst xs) ∨
  ∃(o:Obj) (its:Array Value) (n:Nat),K.lookup a=some o∧o.cls=.type "list"∧o.dict=none∧o.data=.seq its n∧its.size≤sizeLine∧Vals xs its.toList
def SqT (K:W.Frag) (H:Hp) (a:Addr) (xs:List V):Prop :=
 Rd H a (.tup xs) ∨
  ∃(o:Obj) (its:Array Value) (n:Nat),K.lookup a=some o∧o.cls=.type "tuple"∧o.data=.seq its n∧its.size≤sizeLine∧Vals xs its.toList
noncomputable def ZkN:Value->Option V
 |.none=>some .non
 |.bool b=>some (.bl b)
 |.int i _=>some (.int i)
 |.str x _=>some (.str x)
 |.bytes b _=>some (.byt b)
 |.float b _=>some (.flt b)
 |.ref a=>some (.ref a)
 |.type n=>some (.ty n)
 |_=>none
theorem RelV.abs {x:V} {u:Value} (r:RelV x u):ZkN u=some x:=by
 cases x with
 |non=>cases r;rfl
 |bl _=>cases r;rfl
 |int _=>obtain ⟨t,rfl⟩:=r;rfl
 |str _=>obtain ⟨t,rfl⟩:=r;rfl
 |byt _=>obtain ⟨t,rfl⟩:=r;rfl
 |flt _=>obtain ⟨t,rfl⟩:=r;rfl
 |ref _=>cases r;rfl
 |ty _=>cases r;rfl
theorem RelV.inj {x y:V} {u:Value} (r:RelV x u) (q:RelV y u):x=y:=Ql (r.abs.symm.trans q.abs)
theorem Vals.inj:∀{xs ys:List V} {us:List Value},Vals xs us->Vals ys us->xs=ys
 |_,_,_,.nil,.nil=>rfl
 |_,_,_,.cons r t,.cons r' t'=>by rw [r.inj r',Vals.inj t t']
section
variable {X:Cx} {pins:List (Addr×Obj)} {σ:St} {H:Hp} {s:Shared} {a:Addr} {xs ys:List V}
theorem SqL.of {K:W.Frag} (h:H a=some (.lst xs)):SqL K H a xs:=.inl (.inl h)
theorem SqT.of {K:W.Frag} (h:H a=some (.tup xs)):SqT K H a xs:=.inl (.inl h)
theorem Inv.list (I:Inv X pins σ H s) (h:SqL X.K H a xs):∃its:List Value,Vals xs its∧PlainL s.heap a its.toArray∧xs.length≤sizeLine:=by
 rcases h with h|⟨o,its,n,hk,hc,hd,hs,hz,r⟩
 ·obtain ⟨z,its,n,r,e⟩:=h.ok I.hok;exact ⟨its,r,⟨_,n,e,rfl,rfl,rfl⟩,z⟩
 ·refine ⟨its.toList,r,⟨o,n,I.kIn a o hk,hc,hd,by simpa using hs⟩,?_⟩;have e:=r.length;simp only [RN] at e;omega
theorem Inv.tuple (I:Inv X pins σ H s) (h:SqT X.K H a xs):∃its:List Value,Vals xs its∧IsTup s.heap a its.toArray∧xs.length≤sizeLine:=by
 rcases h with h|⟨o,its,n,hk,hc,hs,hz,r⟩
 ·obtain ⟨z,its,r,p⟩:=h.ok I.hok;exact ⟨its,r,p,z⟩
 ·refine ⟨its.toList,r,⟨o,I.kIn a o hk,hc,n,by simpa using hs⟩,?_⟩;have e:=r.length;simp only [RN] at e;omega
theorem Inv.list_inj (I:Inv X pins σ H s) (h:SqL X.K H a xs) (h':SqL X.K H a ys):xs=ys:=by
 obtain ⟨its,r,⟨o,n,e,_,_,d⟩,_⟩:=I.list h;obtain ⟨its',r',⟨o',n',e',_,_,d'⟩,_⟩:=I.list h';rw [e] at e';cases e';rw [d] at d';injection d' with d1 _;have:its=its':=by simpa using Qu Array.toList d1
 subst this;exact r.inj r'
theorem Inv.tuple_inj (I:Inv X pins σ H s) (h:SqT X.K H a xs) (h':SqT X.K H a ys):xs=ys:=by
 obtain ⟨its,r,⟨o,e,_,n,d⟩,_⟩:=I.tuple h;obtain ⟨its',r',⟨o',e',_,n',d'⟩,_⟩:=I.tuple h';rw [e] at e';cases e';rw [d] at d';injection d' with d1 _;have:its=its':=by simpa using Qu Array.toList d1
 subst this;exact r.inj r'
end
section
variable {X:Cx} {pins:List (Addr×Obj)} {σ:St} {H:Hp} {s:Shared} {E:Value->Shared->Prop}
end
section
variable {X:Cx} {st:Stmt} {rest:List Stmt} {t u:TS} {e:Expr} {te:TE} {pos:Pos}
def Zbb:TS:=fun D σ H=>D.nx σ H
def ZbB (t u:TS):TS:=fun D σ H=>t { D with nx:=u D } σ H
theorem ZL:PSs X [] Zbb:=fun _ _ σ H _ I h=>wpAny_execs_nil ⟨σ,H,I,h⟩
theorem Zk (h1:PS X st t) (h2:PSs X rest u):PSs X (st::rest) (ZbB t u):=by
 intro pins s σ H D I h;refine wpAny_execs_cons (Zr (h1 pins s σ H { D with nx:=u D } I h) fun f s1 q=>?_);cases f with
 |next =>
  obtain ⟨σ',H',I',q⟩:=q;exact h2 pins s1 σ' H' D I' q
 |ret v=>exact q
 |brk=>exact q
 |cont=>exact q
theorem Zm (h1:PS X st t):PSs X [st] t:=by
 intro pins s σ H D I h;refine wpAny_execs_cons (Zr (h1 pins s σ H D I h) fun f s1 q=>?_);cases f with
 |next=>exact wpAny_execs_nil q
 |ret v=>exact q
 |brk=>exact q
 |cont=>exact q
theorem Inv.quiet {pins:List (Addr×Obj)} {σ:St} {H:Hp} {s:Shared} (I:Inv X pins σ H s):interactive X.env=false:=by simp [interactive,I.ok.kind]
def Zis (te:TE):TS:=fun D σ H=>te σ H fun _ H1=>D.nx σ H1
theorem Yh (he:PE X e te) (hs:swapsWith e none pos.line X.env=pure false:=by rfl):PS X (.Expr e pos) (Zis te):=by
 intro pins s σ H D I h;exact wpAny_Expr_any (Zr (he pins s σ H _ I h) fun v s1 ⟨x,H1,I1,r1,q1⟩=>⟨σ,H1,I1,q1⟩) I.quiet hs
def Zja (te:TE):TS:=fun D σ H=>te σ H D.rt
theorem ZA (he:PE X e te):PS X (.Return (some e) pos) (Zja te):=by
 intro pins s σ H D I h;exact wpAny_Return_some (Zr (he pins s σ H _ I h) fun v s1 ⟨x,H1,I1,r1,q1⟩=>⟨x,σ,H1,I1,r1,q1⟩)
def Zi4 (c:TT) (t u:TS):TS:=fun D σ H=>c σ H fun b H1=>if b=true then t D σ H1 else u D σ H1
theorem ZH {c:Expr} {a b:List Stmt} {tc:TT} (hc:PT X c tc) (ha:PSs X a t) (hb:PSs X b u):PS X (.If c a b pos) (Zi4 tc t u):=by
 intro pins s σ H D I h;refine wpAny_If (Zr (hc pins s σ H _ I h) fun d s1 ⟨H1,I1,q1⟩=>?_);cases d with
 |true=>exact ha pins s1 σ H1 D I1 q1
 |false=>exact hb pins s1 σ H1 D I1 q1
end
abbrev TG:=V->St->Hp->(St->Hp->Prop)->Prop
abbrev Vd:=List V->St->Hp->(St->Hp->Prop)->Prop
def PG (X:Cx) (target:Expr) (t:TG):Prop :=
 ∀(pins:List (Addr×Obj)) (s:Shared) (σ:St) (H:Hp) (v:V) (u:Value) (Q:St->Hp->Prop),Inv X pins σ H s->RelV v u->t v σ H Q →
  wpAny (model X.prog X.w) X.A (assign target X.env u) (fun _ s'=>∃σ' H',Inv X pins σ' H' s'∧Q σ' H') X.xe s
def Jr (X:Cx) (ts:List Expr) (t:Vd):Prop :=
 ∀(pins:List (Addr×Obj)) (s:Shared) (σ:St) (H:Hp) (vs:List V) (us:List Value) (Q:St->Hp->Prop),Inv X pins σ H s->Vals vs us->t vs σ H Q →
  wpAny (model X.prog X.w) X.A (assignInOrder ((assignEach ts X.env).map (·.2)) us) (fun _ s'=>∃σ' H',Inv X pins σ' H' s'∧Q σ' H') X.xe s
section
variable {X:Cx} {pos:Pos}
def Z2 (i:Nat):TG:=fun v σ H Q=>Q (σ.set i (some v)) H
theorem ZS {i:Nat} {x:Str} (hN:X.N.Nodup) (hi:X.N[i]?=some x) (hx:Jy X.env.scope x) (hf:X.fn x=true∨X.env.scope.names.lookup x=some .local:=by first|exact .inl rfl|exact .inr rfl|assumption):PG X (.Name x pos) (Z2 i):=by
 intro pins s σ H v u Q I r h;exact wpAny_assign_Name (J3 I hN hi hx r (fun s' I'=>⟨_,H,I',h⟩) hf)
noncomputable def Zhp:Vd:=fun vs σ H Q=>vs=[]∧Q σ H
noncomputable def ZkE (t:TG) (u:Vd):Vd:=fun vs σ H Q=>∃v r,vs=v::r∧t v σ H fun σ' H'=>u r σ' H' Q
theorem UV:Jr X [] Zhp:=by
 intro pins s σ H vs us Q I r h;obtain ⟨e,h⟩:=h;subst e;cases r;exact assignInOrder_nil ⟨σ,H,I,h⟩
theorem Wz {e:Expr} {es:List Expr} {t:TG} {u:Vd} (h1:PG X e t) (h2:Jr X es u)
  (hs:(assignEach (e::es) X.env).map (·.2)=assign e X.env::(assignEach es X.env).map (·.2):=by rfl):Jr X (e::es) (ZkE t u):=by
 intro pins s σ H vs us Q I r h;obtain ⟨v,vr,e1,h⟩:=h;subst e1;cases r with
 |cons r rr =>
  rw [hs];refine assignInOrder_cons (Zr (h1 pins s σ H _ _ _ I r h) fun _ s1 ⟨σ1,H1,I1,q1⟩=>?_);exact h2 pins s1 σ1 H1 _ _ Q I1 rr q1
def Zg3 (K:W.Frag) (n:Nat) (t:Vd):TG:=fun v σ H Q=>∃a xs,v=.ref a∧SqT K H a xs∧xs.length=n∧t xs σ H Q
theorem Jk {es:List Expr} {k:Nat} {t:Vd} {n:Nat} (hc:X.calm=true) (h:Jr X es t)
  (hn:(assignEach es X.env).length=n:=by rfl) (hst:(assignEach es X.env).findIdx? (·.1)=none:=by rfl):PG X (.Tuple es k pos) (Zg3 X.K n t):=by
 intro pins s σ H v u Q I r hw;obtain ⟨a,xs,e1,hq,hl,hw⟩:=hw;subst e1;cases r;obtain ⟨its,rv,ht,hz⟩:=I.tuple hq;refine assign_Tuple_tuple (I.ok.hd hc) ht (by simp [hn,←hl,rv.length]) hst fun h' hx=>?_;have I1:Inv X pins σ H { s with heap:=h' }:=I.kept (t':=s.toks) fun b o e=>hx b o (Qy (Qg e)) e;exact h pins _ σ H xs _ Q I1 (by simpa using rv) hw
def Zde (te:TE) (g:TG):TS:=fun D σ H=>te σ H fun x H1=>g x σ H1 D.nx
theorem Zv {i:Nat} {x:Str} {e:Expr} {te:TE} {pos':Pos} (hN:X.N.Nodup) (hi:X.N[i]?=some x) (hx:Jy X.env.scope x) (he:PE X e te) (hs:swapsWith e (some (.Name x pos')) pos.line X.env=pure false:=by rfl) (hf:X.fn x=true∨X.env.scope.names.lookup x=some .local:=by first|exact .inl rfl|exact .inr rfl|assumption) :
  PS X (.Assign [.Name x pos'] e pos) (Zde te (Z2 i)):=by
 intro pins s σ H D I h;refine wpAny_Assign_Name (Zr (he pins s σ H _ I h) fun v s1 ⟨y,H1,I1,r1,q1⟩=>?_) hs;exact J3 I1 hN hi hx r1 (fun s2 I2=>⟨_,H1,I2,q1⟩) hf
def ZiM (i j:Nat) (ta:TA):TS:=fun D σ H=>ta σ H fun vs H1=>∃v w,vs=[v,w]∧D.nx ((σ.set i (some v)).set j (some w)) H1
theorem ZhT {i j:Nat} {x y:Str} {a b:Expr} {ta:TA} {px py pt:Pos} {kt k2 pt2} (hc:X.calm=true) (hN:X.N.Nodup) (hi:X.N[i]?=some x) (hj:X.N[j]?=some y) (hij:i≠j)
  (hx:X.env.scope.names.lookup x=some .local) (hy:X.env.scope.names.lookup y=some .local) (ha:PA X [a,b] ta)
  (hw:swappedStores [.Tuple [.Name x px,.Name y py] kt pt] (.Tuple [a,b] k2 pt2) X.env=pure (some [x,y]))
  (hs:swapsWithSole [.Tuple [.Name x px,.Name y py] kt pt] (.Tuple [a,b] k2 pt2) pos.line X.env=pure false:=by rfl) :
  PS X (.Assign [.Tuple [.Name x px,.Name y py] kt pt] (.Tuple [a,b] k2 pt2) pos) (ZiM i j ta):=by
 intro pins s σ H D I h;rw [exec_Assign_arm];refine Qb (wpAny_standAt ?_);rw [hs];refine Qb (Qe ?_);rw [Qa (by decide)];refine Qb (Tuple_ (Zr (ha _ pins s σ H _ I h) fun us s1 ⟨vs,H1,I1,r1,q1⟩=>?_));obtain ⟨v,w,e1,q1⟩:=q1;subst e1
 obtain ⟨u1,u2,rfl,rv,rw'⟩:∃u1 u2,us=[u1,u2]∧RelV v u1∧RelV w u2:=by
  cases r1 with
  |cons p q =>
   cases q with
   |cons p' q' =>
    cases q';exact ⟨_,_,rfl,p,p'⟩
 refine Q3 ?_ (by show 2≤sizeLine;decide);have I2:Inv X pins σ H1 { s1 with heap:=s1.heap.push { cls:=.type "tuple",data:=.seq [u1,u2].toArray } }:=I1.kept (t':=s1.toks) fun b o e=>Qi _ e;rw [hw];refine Qb (Qe ?_);show wpAny (model X.prog X.w) X.A (do rule "assign.swapped-stores";let items ←unpackItems (.ref s1.heap.objs.size) 2 none;assignInOrder [fun v=>bindName X.env y v,fun v=>bindName X.env x v] items.reverse;pure Flow.next) _ _ _;refine Qb (RX (Qb (unpackItems_tuple (items:=#[u1,u2]) (I.ok.hd hc) (IsTup.new s1.heap _) fun h' hx'=>?_)));have I3:=I2.kept (h':=h') (t':=s1.toks) fun b o e=>hx' b o (Qy (Qg e)) e;show wpAny _ _ (assignInOrder [fun v=>bindName X.env y v,fun v=>bindName X.env x v] [u2,u1] >>= fun _=>pure Flow.next) _ _ _;refine Qb (assignInOrder_cons (wpAny_bindName (J3 I3 hN hj (.inl hy) rw' (fun s2 I4=>?_) (.inr hy))));refine assignInOrder_cons (wpAny_bindName (J3 I4 hN hi (.inl hx) rv (fun s3 I5=>assignInOrder_nil (Qe ?_)) (.inr hx)));rw [List.set_comm _ _ (Q2 hij)] at I5;exact ⟨_,H1,I5,q1⟩
end
section
variable {X:Cx} {pos:Pos}
end
structure It where
 go:Nat->Hp->Prop
 yld:Nat->Hp->V->Hp->Prop
 stop:Nat->Hp->Prop
def XN (X:Cx) (pins:List (Addr×Obj)) (H:Hp) (b:Addr):Prop :=
 H b=none∧b≠X.env.locals∧b∉X.fs∧(b∈X.ex∨X.s₀.heap.objs.size≤b)∧(∀x c,X.env.cells.lookup x=some c->c≠b)∧∀p∈X.pn++pins,p.1≠b
theorem Inv.fpOk {X:Cx} {pins:List (Addr×Obj)} {σ:St} {H H':Hp} {s:Shared} {b:Addr} (I:Inv X pins σ H s) (hb:s.heap.objs.size≤b) (hn:H' b=none):XN X pins H' b:=by
 refine ⟨hn,RC (Qz I.lt hb),I.nofs hb,.inr (Qn I.sz hb),fun x c e z=>?_,fun p hp z=>?_⟩
 ·obtain ⟨v,q⟩:=I.cell x c e;exact absurd (Qz q.lt (by rw [z];exact hb)) (QP _)
 ·exact absurd (Qz (Qg (I.pin p hp).1) (by rw [z];exact hb)) (QP _)
structure Turn (P:Program) (w:World) (K:W.Frag) (tg:Expr) (J:It) (fp:List Addr) (it:Addr) (tn:Nat->Heap->Prop):Prop where
 mem:it∈fp
 obj:∀i h,tn i h->∀b∈fp,∃o,h.get? b=some o∧∀v,o.data≠.cell v
 keep:∀i h h',tn i h->(∀b∈fp,∀o,h.get? b=some o->h'.get? b=some o)->tn i h'
 item:∀(X:Cx),X.prog=P->X.w=w->X.K=K->X.calm=true->∀(i:Nat) (pins:List (Addr×Obj)) (s:Shared) (σ:St) (H:Hp) (E:Value->Shared->Prop),Inv X pins σ H s->(∀b∈fp,XN X pins H b)->tn i s.heap->J.go i H →
  wpAny (model P w) X.A (pyNext (.ref it)) (fun r s1=>∃u,r=some u ∧
   wpAny (model P w) X.A (letOwnedTupleGo tg (.ref it) u) (fun _ s2=>∃x H',Inv X pins σ H' s2∧RelV x u∧J.yld i H x H'∧tn (i+1) s2.heap∧∀b∈fp,H' b=none) E s1) E s
 done:∀(X:Cx),X.prog=P->X.w=w->X.K=K->X.calm=true->∀(i:Nat) (pins:List (Addr×Obj)) (s:Shared) (σ:St) (H:Hp) (E:Value->Shared->Prop),Inv X pins σ H s->(∀b∈fp,XN X pins H b)->tn i s.heap->J.stop i H →
  wpAny (model P w) X.A (pyNext (.ref it)) (fun r s1=>r=none∧Inv X pins σ H s1) E s
 self:∀(A:Around) (i:Nat) (s:Shared) (Q:Value->Shared->Prop) (E:Value->Shared->Prop),tn i s.heap->Q (.ref it) s->wpAny (model P w) A (pyIter (.ref it)) Q E s
abbrev TI:=St->Hp->(It->Hp->Prop)->Prop
def PIE (X:Cx) (pins:List (Addr×Obj)) (σ:St) (tg:Expr) (R:It->Hp->Prop) (itv:Value) (s2:Shared):Prop :=
 ∃(it:Addr) (fp:List Addr) (tn:Nat->Heap->Prop) (J:It) (H':Hp),itv=.ref it∧Inv X pins σ H' s2∧Turn X.prog X.w X.K tg J fp it tn∧tn 0 s2.heap∧(∀b∈fp,XN X pins H' b)∧R J H'
def PI (X:Cx) (tg iter:Expr) (wi:TI):Prop :=
 ∀(pins:List (Addr×Obj)) (s:Shared) (σ:St) (H:Hp) (R:It->Hp->Prop),Inv X pins σ H s->wi σ H R →
  wpAny (model X.prog X.w) X.A (eval iter X.env) (fun v s1=>wpAny (model X.prog X.w) X.A (pyIter v) (PIE X pins σ tg R) X.xe s1) X.xe s
theorem UA {M:Model} {A:Around} {E:Value->Shared->Prop} {s:Shared} {tg:Expr} {it:Addr} {u:Value} {o:Obj} {n:String} {vs:Array Value} {Q:Unit->Shared->Prop} (ho:s.heap.get? it=some o) (hc:o.cls=.type n) (hd:o.data=.fields vs)
  (hn:["enumerate","zip","dict_itemiterator","dict_reverseitemiterator","odict_iterator","itertools.zip_longest","itertools.pairwise"].contains n=false) (hQ:Q () s):wpAny M A (letOwnedTupleGo tg (.ref it) u) Q E s:=by
 unfold letOwnedTupleGo
 cases tg<;>first
  |exact Qe hQ
  | (cases u<;>first
    |exact Qe hQ
    | (refine Qb (wpAny_load ho ?_)
       rw [hc,hd];show wpAny M A (if (["enumerate","zip","dict_itemiterator","dict_reverseitemiterator","odict_iterator","itertools.zip_longest","itertools.pairwise"].contains n&&vs[0]?==some (rawInt _))=true then _ else _) Q E s;rw [Qa (by intro h;rw [hn,Gz] at h;cases h)];exact Qe hQ))
noncomputable def JT (K:W.Frag) (a:Addr):It :=
 ⟨fun i H=>∃xs x,SqL K H a xs∧xs[i]?=some x,fun i H x H'=>H'=H∧∀xs,SqL K H a xs->xs[i]?=some x,fun i H=>∃xs,SqL K H a xs∧xs.length≤i⟩
noncomputable def Jz (K:W.Frag) (a:Addr):It :=
 ⟨fun i H=>∃xs x,SqT K H a xs∧xs[i]?=some x,fun i H x H'=>H'=H∧∀xs,SqT K H a xs->xs[i]?=some x,fun i H=>∃xs,SqT K H a xs∧xs.length≤i⟩
noncomputable def Vt (lo:Int) (n:Nat):It:=⟨fun i _=>i<n,fun i H x H'=>H'=H∧x=.int (lo+i),fun i _=>n≤i⟩
theorem ZlK {P:Program} {w:World} {K:W.Frag} {tg:Expr} (a it:Addr):Turn P w K tg (JT K a) [it] it (fun i h=>h.IsListIter it a i) where
 mem:=by simp
 obj:=fun i h st b hb=>by
  have e:b=it:=by simpa using hb
  subst e;obtain ⟨o,e,c,d⟩:=st;exact ⟨o,e,fun v z=>by rw [d] at z;cases z⟩
 keep:=fun i h h' st k=>st.at fun o e=>k it (by simp) o e
 item:=by
  intro X hP hw hK hc i pins s σ H E I hf st hg;subst hP hw hK;obtain ⟨xs,x,hq,hx⟩:=hg;obtain ⟨its,rv,p,hz⟩:=I.list hq;obtain ⟨u,hu,ru⟩:=rv.get hx;obtain ⟨f0,f1,f2,f3,f4,f5⟩:=hf it (by simp);refine wpAny_pyNext_list_item st p.isList (x:=u) (by simpa using hu) fun h' st' sb=>?_;have I1:Inv X pins σ H { s with heap:=h' }:=I.turned (t':=s.toks) (fun b o hb e=>(sb.2 b hb).trans e) f0 f1 f3 f4 f5;obtain ⟨o,e,c,d⟩:=id st';exact ⟨u,rfl,UA (s:={ s with heap:=h' }) e c d (by decide) ⟨x,H,I1,ru,⟨rfl,fun ys hy=>by rw [I.list_inj hy hq];exact hx⟩,st',fun b hb=>(hf b hb).1⟩⟩
 done:=by
  intro X hP hw hK hc i pins s σ H E I hf st hg;subst hP hw hK;obtain ⟨xs,hq,hx⟩:=hg;obtain ⟨its,rv,p,hz⟩:=I.list hq;obtain ⟨f0,f1,f2,f3,f4,f5⟩:=hf it (by simp);have hl:=rv.length;exact wpAny_pyNext_list_end (I.ok.hd hc) st p.isList (by simp;omega) fun h' eb=>⟨rfl,I.turned (t':=s.toks) (fun b o hb e=>eb b o hb e) f0 f1 f3 f4 f5⟩
 self:=fun _ _ _ _ _ st h=>wpAny_pyIter_listiter st h
theorem Zm0 {P:Program} {w:World} {K:W.Frag} {tg:Expr} (a it:Addr):Turn P w K tg (Jz K a) [it] it (fun i h=>h.IsTupleIter it a i) where
 mem:=by simp
 obj:=fun i h st b hb=>by
  have e:b=it:=by simpa using hb
  subst e;obtain ⟨o,e,c,d⟩:=st;exact ⟨o,e,fun v z=>by rw [d] at z;cases z⟩
 keep:=fun i h h' st k=>st.at fun o e=>k it (by simp) o e
 item:=by
  intro X hP hw hK hc i pins s σ H E I hf st hg;subst hP hw hK;obtain ⟨xs,x,hq,hx⟩:=hg;obtain ⟨its,rv,p,hz⟩:=I.tuple hq;obtain ⟨u,hu,ru⟩:=rv.get hx;obtain ⟨f0,f1,f2,f3,f4,f5⟩:=hf it (by simp);refine wpAny_pyNext_tuple_item st (show s.heap.IsTuple a its.toArray from p) (x:=u) (by simpa using hu) fun h' st' sb=>?_;have I1:Inv X pins σ H { s with heap:=h' }:=I.turned (t':=s.toks) (fun b o hb e=>(sb.2 b hb).trans e) f0 f1 f3 f4 f5;obtain ⟨o,e,c,d⟩:=id st';exact ⟨u,rfl,UA (s:={ s with heap:=h' }) e c d (by decide) ⟨x,H,I1,ru,⟨rfl,fun ys hy=>by rw [I.tuple_inj hy hq];exact hx⟩,st',fun b hb=>(hf b hb).1⟩⟩
 done:=by
  intro X hP hw hK hc i pins s σ H E I hf st hg;subst hP hw hK;obtain ⟨xs,hq,hx⟩:=hg;obtain ⟨its,rv,p,hz⟩:=I.tuple hq;obtain ⟨f0,f1,f2,f3,f4,f5⟩:=hf it (by simp);have hl:=rv.length;exact wpAny_pyNext_tuple_end (I.ok.hd hc) st (show s.heap.IsTuple a its.toArray from p) (by simp;omega) fun h' eb=>⟨rfl,I.turned (t':=s.toks) (fun b o hb e=>eb b o hb e) f0 f1 f3 f4 f5⟩
 self:=fun _ _ _ _ _ st h=>wpAny_pyIter_tupleiter st h
theorem ZhH {P:Program} {w:World} {K:PySem.W.Frag} {tg:Expr} (it:Addr) (lo:Int) (n:Nat):Turn P w K tg (Vt lo n) [it] it (fun i h=>IsRangeIter h it (lo+(i:Nat)*1) ((n:Int)-(i:Nat)) 1) where
 mem:=by simp
 obj:=fun i h st b hb=>by
  have e:b=it:=by simpa using hb
  subst e
  exact ⟨_,st,fun v z=>by
   have z':Data.fields _=Data.cell v:=z;cases z'⟩
 keep:=fun i h h' st k=>k it (by simp) _ st
 item:=by
  intro X hP hw hK hc i pins s σ H E I hf st hg;subst hP hw hK;obtain ⟨f0,f1,f2,f3,f4,f5⟩:=hf it (by simp);have W:=Walks.range (prog:=X.prog) (w:=X.w) (I.ok.hd hc) it lo 1 n;refine W.item i s _ _ hg st fun v h' tk hv st' kk=>?_;obtain ⟨t,rfl⟩:=hv;have I1:Inv X pins σ H { s with heap:=h',toks:=tk }:=I.turned (fun b o hb e=>kk b o (by simpa using hb) e) f0 f1 f3 f4 f5;refine ⟨_,rfl,UA (s:={ s with heap:=h',toks:=tk }) (n:="range_iterator") st' rfl rfl (by decide) ⟨.int (lo+i),H,I1,⟨t,?_⟩,⟨rfl,rfl⟩,st',fun b hb=>(hf b hb).1⟩⟩;rw [Int.mul_one]
 done:=by
  intro X hP hw hK hc i pins s σ H E I hf st hg;subst hP hw hK;obtain ⟨f0,f1,f2,f3,f4,f5⟩:=hf it (by simp);exact wpAny_pyNext_range_end (I.ok.hd hc) st (by have:n≤i:=hg;omega) fun h' eb=>⟨rfl,I.turned (t':=s.toks) (fun b o hb e=>eb b o hb e) f0 f1 f3 f4 f5⟩
 self:=fun _ _ _ _ _ st h=>wpAny_pyIter_rangeiter st h
section
variable {X:Cx} {tg:Expr}
def Zoe (K:W.Frag) (tl:TE):TI:=fun σ H R=>tl σ H fun x H1=>∃a,x=.ref a∧(∃xs,SqL K H1 a xs)∧R (JT K a) H1
def Zlc (K:W.Frag) (tl:TE):TI:=fun σ H R=>tl σ H fun x H1=>∃a,x=.ref a∧(∃xs,SqT K H1 a xs)∧R (Jz K a) H1
theorem YJ {l:Expr} {tl:TE} (hl:PE X l tl):PI X tg l (Zoe X.K tl):=by
 intro pins s σ H R I h;refine Zr (hl pins s σ H _ I h) fun v s1 ⟨x,H1,I1,r1,q1⟩=>?_;obtain ⟨a,e,⟨xs,hq⟩,q⟩:=q1;subst e;cases r1;obtain ⟨its,rv,p,hz⟩:=I1.list hq;refine wpAny_pyIter_list p.isList ?_;refine ⟨s1.heap.objs.size,[s1.heap.objs.size],_,_,H1,rfl,I1.kept (t':=s1.toks) fun b o e=>Qi _ e,ZlK a _,⟨_,Qs _ rfl,rfl,rfl⟩,fun b hb=>?_,q⟩;have e:b=s1.heap.objs.size:=by simpa using hb
 subst e;exact I1.fpOk (Qf _) (I1.hok.fresh (Qf _))
theorem Uy {l:Expr} {tl:TE} (hl:PE X l tl):PI X tg l (Zlc X.K tl):=by
 intro pins s σ H R I h;refine Zr (hl pins s σ H _ I h) fun v s1 ⟨x,H1,I1,r1,q1⟩=>?_;obtain ⟨a,e,⟨xs,hq⟩,q⟩:=q1;subst e;cases r1;obtain ⟨its,rv,p,hz⟩:=I1.tuple hq;refine Gb (show s1.heap.IsTuple a its.toArray from p) ?_;refine ⟨s1.heap.objs.size,[s1.heap.objs.size],_,_,H1,rfl,I1.kept (t':=s1.toks) fun b o e=>Qi _ e,Zm0 a _,⟨_,Qs _ rfl,rfl,rfl⟩,fun b hb=>?_,q⟩;have e:b=s1.heap.objs.size:=by simpa using hb
 subst e;exact I1.fpOk (Qf _) (I1.hok.fresh (Qf _))
theorem ZeL {pins:List (Addr×Obj)} {σ:St} {H:Hp} {s:Shared} {R:It->Hp->Prop} {E:Value->Shared->Prop} {lo hi:Int} {t u v:Tok} {tk:Nat} (I:Inv X pins σ H s) (h1:-(2 ^ 62)≤lo) (h2:lo<2 ^ 62) (h3:-(2 ^ 62)≤hi) (h4:hi<2 ^ 62)
  (q:R (Vt lo (hi-lo).toNat) H):wpAny (model X.prog X.w) X.A (pyIter (.ref s.heap.objs.size)) (PIE X pins σ tg R) E { s with heap:=s.heap.push { cls:=.type "range",data:=.fields #[.int lo t,.int hi u,.int 1 v] },toks:=tk }:=by
 refine wpAny_pyIter_range (IsRange.new ..) (small_one h1 h2 h3 h4) ?_;have I1:Inv X pins σ H { s with heap:=s.heap.push { cls:=.type "range",data:=.fields #[.int lo t,.int hi u,.int 1 v] },toks:=tk }:=I.kept fun b o e=>Qi _ e
 refine ⟨(s.heap.push { cls:=.type "range",data:=.fields #[.int lo t,.int hi u,.int 1 v] }).objs.size,[(s.heap.push { cls:=.type "range",data:=.fields #[.int lo t,.int hi u,.int 1 v] }).objs.size],_,_,H,rfl,
  I1.kept (t':=tk) fun b o e=>Qi _ e,ZhH _ lo (hi-lo).toNat,?_,fun b hb=>?_,q⟩
 ·have e1:lo+((0:Nat):Int)*1=lo:=by simp
  have e2:(((hi-lo).toNat:Nat):Int)-((0:Nat):Int)=Builtin.Range.rangeSize lo hi 1:=by rw [rangeSize_one];split<;>omega
  show IsRangeIter _ _ (lo+((0:Nat):Int)*1) ((((hi-lo).toNat:Nat):Int)-((0:Nat):Int)) 1;rw [e1,e2];exact Qs _ rfl
 ·have e:b=(s.heap.push { cls:=.type "range",data:=.fields #[.int lo t,.int hi u,.int 1 v] }).objs.size:=by simpa using hb
  subst e;exact I1.fpOk (Qf _) (I1.hok.fresh (Qf _))
def Zh4 (ta:TA):TI:=fun σ H R=>ta σ H fun vs H1=>∃j:Int,vs=[.int j]∧-(2 ^ 62)≤j∧j<2 ^ 62∧R (Vt 0 j.toNat) H1
def ZiF (ta:TA):TI:=fun σ H R=>ta σ H fun vs H1=>∃i j:Int,vs=[.int i,.int j]∧(-(2 ^ 62)≤i∧i<2 ^ 62∧-(2 ^ 62)≤j∧j<2 ^ 62)∧R (Vt i (j-i).toNat) H1
theorem Um {a:Expr} {ta:TA} {p pos:Pos} (hg:Gl X "range") (hm:X.mg "range"=none) (ha:PA X [a] ta) (hs:starEach [a] X.env=[(false,eval a X.env)]:=by rfl):PI X tg (.Call (.Name "range" p) [a] [] pos) (Zh4 ta):=by
 intro pins s σ H R I h;refine Call_ (Vr I hg hm boot_range (Gc (Zr (ha pos pins s σ H _ I h) fun us s1 ⟨vs,H1,I1,r1,q1⟩=>?_) hs rfl));obtain ⟨j,e,q1,q2,q⟩:=q1;subst e;cases r1 with
 |cons r rr =>
  cases rr;obtain ⟨t,rfl⟩:=r;exact call_range_1 (ZeL I1 (by omega) (by omega) q1 q2 (by simpa using q))
theorem Zho {a b:Expr} {ta:TA} {p pos:Pos} (hg:Gl X "range") (hm:X.mg "range"=none) (ha:PA X [a,b] ta) (hs:starEach [a,b] X.env=[(false,eval a X.env),(false,eval b X.env)]:=by rfl) (hs2:starEach [b] X.env=[(false,eval b X.env)]:=by rfl) :
  PI X tg (.Call (.Name "range" p) [a,b] [] pos) (ZiF ta):=by
 intro pins s σ H R I h;refine Call_ (Vr I hg hm boot_range (Gc (Zr (ha pos pins s σ H _ I h) fun us s1 ⟨vs,H1,I1,r1,q1⟩=>?_) (by rw [hs,hs2]) (by rw [hs2];rfl)));obtain ⟨i,j,e,⟨q1,q2,q3,q4⟩,q⟩:=q1;subst e;cases r1 with
 |cons r rr =>
  cases rr with
  |cons r' rr =>
   cases rr;obtain ⟨t,rfl⟩:=r;obtain ⟨t',rfl⟩:=r';exact call_range_2 (ZeL I1 q1 q2 q3 q4 q)
def ZmT (wi:TI) (g:TG) (tb:TS):TS:=fun D σ H=>wi σ H fun J H1=>∃W:Nat->Nat->St->Hp->Prop,(∃m,W 0 m σ H1)∧∀i m σ H,W i m σ H →
 (J.stop i H∧D.nx σ H)∨(J.go i H∧∃N:St->Hp->Prop,(∀σ' H',N σ' H'->∃m',m'<m∧W (i+1) m' σ' H')∧∀x H',J.yld i H x H'->g x σ H' fun σ2 H2=>tb { D with nx:=N,ct:=N,bk:=D.nx } σ2 H2)
noncomputable def JV (fp:List Addr) (h:Heap):List (Addr×Obj):=fp.filterMap fun b=>(h.get? b).map fun o=>(b,o)
theorem Zbi {fp:List Addr} {h:Heap} {b:Addr} {o:Obj} (hb:b∈fp) (e:h.get? b=some o):(b,o)∈JV fp h:=Rj.mpr ⟨b,hb,by rw [e];rfl⟩
theorem ZjK {fp:List Addr} {h:Heap} {p:Addr×Obj} (hp:p∈JV fp h):p.1∈fp∧h.get? p.1=some p.2:=by
 obtain ⟨b,hb,e⟩:=Rj.mp hp;cases q:h.get? b with
 |none=>rw [q] at e;cases e
 |some o =>
  rw [q] at e;have e':(b,o)=p:=Ql e;subst e';exact ⟨hb,q⟩
theorem Inv.pinned {pins:List (Addr×Obj)} {σ:St} {H:Hp} {s:Shared} {fp:List Addr} (I:Inv X pins σ H s) (hf:∀b∈fp,XN X pins H b) (ho:∀b∈fp,∃o,s.heap.get? b=some o∧∀v,o.data≠.cell v):Inv X (pins++JV fp s.heap) σ H s :=
 I.pins_of fun p hp=>(Qm.mp hp).elim (fun z=>I.pin p (Q4 _ z)) fun z=>by
  obtain ⟨hb,e⟩:=ZjK z;obtain ⟨f0,f1,f2,_⟩:=hf p.1 hb;obtain ⟨o,e',d⟩:=ho p.1 hb;rw [e] at e';cases e';exact ⟨e,f0,f1,f2,d⟩
theorem Inv.unpinned {pins pl:List (Addr×Obj)} {σ:St} {H:Hp} {s:Shared} (I:Inv X (pins++pl) σ H s):Inv X pins σ H s:=I.pins_of fun p hp=>I.pin p (Q4 _ (QQ _ hp))
theorem Yu {iter:Expr} {body:List Stmt} {wi:TI} {g:TG} {tb:TS} {pos:Pos} (hp:PassesOwn (model X.prog X.w) X.A X.env X.xe) (hc:X.calm=true) (hi:PI X tg iter wi) (hg:PG X tg g) (hb:PSs X body tb)
  (hs:∀x,foldedSetIterable iter X.env x=pure x:=by intro _;rfl):PS X (.For tg iter body [] pos) (ZmT wi g tb):=by
 intro pins s σ H D I h;refine wpAny_For (Zr (hi pins s σ H _ I h) fun v s1 h1=>Zr h1 fun itv s2 h2=>?_) hs;obtain ⟨it,fp,tn,J,H2,e,I2,T,st2,f2,W,⟨m0,w0⟩,turn⟩:=h2;subst e;have stat:∀{H':Hp},(∀b∈fp,H' b=none)->∀b∈fp,XN X pins H' b:=fun hn b hb=>⟨hn b hb,(f2 b hb).2⟩;refine codeAny_forLoop_any (fun n s'=>∃i σ' H',Inv X pins σ' H' s'∧tn i s'.heap∧(∀b∈fp,H' b=none)∧W i n σ' H') ?_ m0 ⟨0,σ,H2,I2,st2,fun b hb=>(f2 b hb).1,w0⟩;rintro n s3 ⟨i,σ3,H3,I3,st3,fr3,w3⟩;rcases turn i n σ3 H3 w3 with ⟨stop,qn⟩|⟨go,N,hN,step⟩
 ·refine Gd hp (Zr (T.done X rfl rfl rfl hc i pins s3 σ3 H3 X.xe I3 (stat fr3) st3 stop) fun r s4 ⟨hr,I4⟩=>?_);subst hr;exact wpAny_execs_nil ⟨σ3,H3,I4,qn⟩
 ·refine Gd hp (Zr (T.item X rfl rfl rfl hc i pins s3 σ3 H3 X.xe I3 (stat fr3) st3 go) fun r s4 ⟨u,hr,h4⟩=>?_);subst hr;refine Gd hp (Zr h4 fun _ s5 ⟨x,H5,I5,r5,y5,st5,fr5⟩=>?_);have I5':=I5.pinned (stat fr5) (T.obj _ _ st5);refine Gd hp (Zr (hg _ s5 σ3 H5 x u _ I5' r5 (step x H5 y5)) fun _ s6 ⟨σ6,H6,I6,q6⟩=>?_);refine Gd hp (Zr (hb _ s6 σ6 H6 _ I6 q6) fun f s7 q7=>?_)
  have again:∀{σ7:St} {H7:Hp},Inv X (pins++JV fp s5.heap) σ7 H7 s7->N σ7 H7->∃m,m<n∧∃i σ' H',Inv X pins σ' H' s7∧tn i s7.heap∧(∀b∈fp,H' b=none)∧W i m σ' H':=fun {σ7 H7} I7 n7=>by
   obtain ⟨m',hm,w7⟩:=hN σ7 H7 n7;refine ⟨m',hm,i+1,σ7,H7,I7.unpinned,T.keep _ _ _ st5 fun b hb o e=>(I7.pin (b,o) (Q4 _ (Q4 _ (Zbi hb e)))).1,fun b hb=>?_,w7⟩;obtain ⟨o,e,d⟩:=T.obj _ _ st5 b hb;exact (I7.pin (b,o) (Q4 _ (Q4 _ (Zbi hb e)))).2.1
  cases f with
  |next=>obtain ⟨σ7,H7,I7,n7⟩:=q7;exact again I7 n7
  |cont=>obtain ⟨σ7,H7,I7,n7⟩:=q7;exact again I7 n7
  |brk=>obtain ⟨σ7,H7,I7,q7⟩:=q7;exact ⟨σ7,H7,I7.unpinned,q7⟩
  |ret v=>obtain ⟨x7,σ7,H7,I7,r7,q7⟩:=q7;exact ⟨x7,σ7,H7,I7.unpinned,r7,q7⟩
end
theorem XH {K:PySem.W.Frag} {a:Addr} {xs:List V} {g:TG} {tb:TS} {D:Ends} {σ:St} {H:Hp} (Pv:Nat->St->Hp->Prop) (h0:Pv 0 σ H) (hl:∀i σ H,i≤xs.length->Pv i σ H->SqL K H a xs)
  (hs:∀i x σ H,xs[i]?=some x->Pv i σ H->g x σ H fun σ2 H2=>tb { D with nx:=Pv (i+1),ct:=Pv (i+1),bk:=D.nx } σ2 H2) (hd:∀σ H,Pv xs.length σ H->D.nx σ H) :
  ∃W:Nat->Nat->St->Hp->Prop,(∃m,W 0 m σ H)∧∀i m σ H,W i m σ H →
   ((JT K a).stop i H∧D.nx σ H)∨((JT K a).go i H∧∃N:St->Hp->Prop,(∀σ' H',N σ' H'->∃m',m'<m∧W (i+1) m' σ' H')∧∀x H',(JT K a).yld i H x H'->g x σ H' fun σ2 H2=>tb { D with nx:=N,ct:=N,bk:=D.nx } σ2 H2):=by
 refine ⟨fun i m σ H=>m=xs.length-i∧i≤xs.length∧Pv i σ H,⟨xs.length,by simp,QK _,h0⟩,?_⟩;rintro i m σ H ⟨rfl,hi,p⟩;have q:=hl i σ H hi p;by_cases hlt:i<xs.length
 ·refine .inr ⟨⟨xs,xs[i],q,by simp [hlt]⟩,Pv (i+1),fun σ' H' p'=>⟨xs.length-(i+1),by omega,rfl,hlt,p'⟩,fun x H' y=>?_⟩;obtain ⟨e,y⟩:=y;subst e;exact hs i x σ _ (y xs q) p
 ·have e:i=xs.length:=by omega
  subst e;exact .inl ⟨⟨xs,q,Qf _⟩,hd σ H p⟩
theorem Zap {K:PySem.W.Frag} {a:Addr} {xs:List V} {g:TG} {tb:TS} {D:Ends} {σ:St} {H:Hp} (Pv:Nat->St->Hp->Prop) (h0:Pv 0 σ H) (hl:∀i σ H,i≤xs.length->Pv i σ H->SqT K H a xs)
  (hs:∀i x σ H,xs[i]?=some x->Pv i σ H->g x σ H fun σ2 H2=>tb { D with nx:=Pv (i+1),ct:=Pv (i+1),bk:=D.nx } σ2 H2) (hd:∀σ H,Pv xs.length σ H->D.nx σ H) :
  ∃W:Nat->Nat->St->Hp->Prop,(∃m,W 0 m σ H)∧∀i m σ H,W i m σ H →
   ((Jz K a).stop i H∧D.nx σ H)∨((Jz K a).go i H∧∃N:St->Hp->Prop,(∀σ' H',N σ' H'->∃m',m'<m∧W (i+1) m' σ' H')∧∀x H',(Jz K a).yld i H x H'->g x σ H' fun σ2 H2=>tb { D with nx:=N,ct:=N,bk:=D.nx } σ2 H2):=by
 refine ⟨fun i m σ H=>m=xs.length-i∧i≤xs.length∧Pv i σ H,⟨xs.length,by simp,QK _,h0⟩,?_⟩;rintro i m σ H ⟨rfl,hi,p⟩;have q:=hl i σ H hi p;by_cases hlt:i<xs.length
 ·refine .inr ⟨⟨xs,xs[i],q,by simp [hlt]⟩,Pv (i+1),fun σ' H' p'=>⟨xs.length-(i+1),by omega,rfl,hlt,p'⟩,fun x H' y=>?_⟩;obtain ⟨e,y⟩:=y;subst e;exact hs i x σ _ (y xs q) p
 ·have e:i=xs.length:=by omega
  subst e;exact .inl ⟨⟨xs,q,Qf _⟩,hd σ H p⟩
theorem UI {lo:Int} {n:Nat} {g:TG} {tb:TS} {D:Ends} {σ:St} {H:Hp} (Pv:Nat->St->Hp->Prop) (h0:Pv 0 σ H)
  (hs:∀i σ H,i<n->Pv i σ H->g (.int (lo+i)) σ H fun σ2 H2=>tb { D with nx:=Pv (i+1),ct:=Pv (i+1),bk:=D.nx } σ2 H2) (hd:∀σ H,Pv n σ H->D.nx σ H) :
  ∃W:Nat->Nat->St->Hp->Prop,(∃m,W 0 m σ H)∧∀i m σ H,W i m σ H →
   ((Vt lo n).stop i H∧D.nx σ H)∨((Vt lo n).go i H∧∃N:St->Hp->Prop,(∀σ' H',N σ' H'->∃m',m'<m∧W (i+1) m' σ' H')∧∀x H',(Vt lo n).yld i H x H'->g x σ H' fun σ2 H2=>tb { D with nx:=N,ct:=N,bk:=D.nx } σ2 H2):=by
 refine ⟨fun i m σ H=>m=n-i∧i≤n∧Pv i σ H,⟨n,by simp,QK _,h0⟩,?_⟩;rintro i m σ H ⟨rfl,hi,p⟩;by_cases hlt:i<n
 ·refine .inr ⟨hlt,Pv (i+1),fun σ' H' p'=>⟨n-(i+1),by omega,rfl,hlt,p'⟩,fun x H' y=>?_⟩;obtain ⟨e,y⟩:=y;subst e y;exact hs i σ _ hlt p
 ·have e:i=n:=by omega
  subst e;exact .inl ⟨Qf _,hd σ H p⟩
abbrev R2:=V->V->Hp->VK->Prop
def Yg (X:Cx) (f:Value->Value->Sem Value) (r:R2):Prop :=
 ∀(pins:List (Addr×Obj)) (s:Shared) (σ:St) (H:Hp) (x y:V) (v u:Value) (Q:VK),Inv X pins σ H s->RelV x v->RelV y u->r x y H Q →
  wpAny (model X.prog X.w) X.A (f v u) (EP X pins σ Q) X.xe s
def UnR (X:Cx) (f:Value->Sem Value) (r:V->Hp->VK->Prop):Prop :=
 ∀(pins:List (Addr×Obj)) (s:Shared) (σ:St) (H:Hp) (x:V) (v:Value) (Q:VK),Inv X pins σ H s->RelV x v->r x H Q →
  wpAny (model X.prog X.w) X.A (f v) (EP X pins σ Q) X.xe s
def YG (X:Cx) (f:Value) (r:List V->Hp->VK->Prop):Prop :=
 ∀(pins:List (Addr×Obj)) (s:Shared) (σ:St) (H:Hp) (xs:List V) (us:List Value) (Q:VK),Inv X pins σ H s->Vals xs us->r xs H Q →
  wpAny (model X.prog X.w) X.A (call f us) (EP X pins σ Q) X.xe s
def J7 (r:R2) (ta tb:TE):TE:=fun σ H Q=>ta σ H fun x H1=>tb σ H1 fun y H2=>r x y H2 Q
def tUn (r:V->Hp->VK->Prop) (ta:TE):TE:=fun σ H Q=>ta σ H fun x H1=>r x H1 Q
def rI (C:Int->Int->Prop) (g:Int->Int->V):R2:=fun x y H Q=>∃i j,x=.int i∧y=.int j∧C i j∧Q (g i j) H
def W4 (g:Int->Int->V):R2:=fun x y H Q=>∃i j,x=.int i∧y=.int j∧Q (g i j) H
def rU (g:Int->V):V->Hp->VK->Prop:=fun x H Q=>∃i,x=.int i∧Q (g i) H
section
variable {X:Cx} {a b c:Expr} {ta tb tc:TE} {pos:Pos}
theorem ZbH (ha:PE X a ta) (hb:PE X b tb) {pins:List (Addr×Obj)} {s:Shared} {σ:St} {H:Hp} {R:V->V->Hp->Prop} (I:Inv X pins σ H s)
  (h:ta σ H fun x H1=>tb σ H1 fun y H2=>R x y H2) {Q:Value->Shared->Prop} {f:Value->Value->Sem Value}
  (hf:∀v u s2 x y H2,Inv X pins σ H2 s2->RelV x v->RelV y u->R x y H2->wpAny (model X.prog X.w) X.A (f v u) Q X.xe s2) :
  wpAny (model X.prog X.w) X.A (eval a X.env) (fun v s₁=>wpAny (model X.prog X.w) X.A (eval b X.env) (fun u s₂=>wpAny (model X.prog X.w) X.A (f v u) Q X.xe s₂) X.xe s₁) X.xe s:=by
 refine Zr (ha pins s σ H _ I h) fun v s1 ⟨x,H1,I1,r1,q1⟩=>?_;refine Zr (hb pins s1 σ H1 _ I1 q1) fun u s2 ⟨y,H2,I2,r2,q2⟩=>?_;exact hf v u s2 x y H2 I2 r1 r2 q2
theorem Zo {op:Operator} {r:R2} (ho:Yg X (binaryOp op) r) (ha:PE X a ta) (hb:PE X b tb):PE X (.BinOp a op b pos) (J7 r ta tb):=by
 intro pins s σ H Q I h;exact wpAny_BinOp (ZbH ha hb I h fun v u s2 x y H2 I2 rx ry q=>ho pins s2 σ H2 x y v u Q I2 rx ry q)
theorem JO {op:UnaryOp} {r:V->Hp->VK->Prop} (ho:UnR X (unaryOp op) r) (ha:PE X a ta):PE X (.UnaryOp op a pos) (tUn r ta):=by
 intro pins s σ H Q I h;exact UnaryOp_ (Zr (ha pins s σ H _ I h) fun v s1 ⟨x,H1,I1,r1,q1⟩=>ho pins s1 σ H1 x v Q I1 r1 q1)
theorem Jm {f:Value->Value->Sem Value} {C:Int->Int->Prop} {g:Int->Int->Int}
  (rule:∀(i j:Int) (t u:Tok) (s:Shared) (Q:Value->Shared->Prop) (E:Value->Shared->Prop),C i j->Q (.int (g i j) s.toks) { s with toks:=s.toks+1 }->wpAny (model X.prog X.w) X.A (f (.int i t) (.int j u)) Q E s) :
  Yg X f (rI C fun i j=>.int (g i j)):=by
 intro pins s σ H x y v u Q I rx ry h;obtain ⟨i,j,rfl,rfl,hc,q⟩:=h;obtain ⟨t,rfl⟩:=rx;obtain ⟨t',rfl⟩:=ry;exact rule i j t t' s _ _ hc ⟨.int (g i j),H,I.tok _,⟨_,rfl⟩,q⟩
theorem Zhf {f:Value->Value->Sem Value} {g:Int->Int->Int}
  (rule:∀(i j:Int) (t u:Tok) (s:Shared) (Q:Value->Shared->Prop) (E:Value->Shared->Prop),Q (.int (g i j) s.toks) { s with toks:=s.toks+1 }->wpAny (model X.prog X.w) X.A (f (.int i t) (.int j u)) Q E s) :
  Yg X f (W4 fun i j=>.int (g i j)):=by
 intro pins s σ H x y v u Q I rx ry h;obtain ⟨i,j,rfl,rfl,q⟩:=h;obtain ⟨t,rfl⟩:=rx;obtain ⟨t',rfl⟩:=ry;exact rule i j t t' s _ _ ⟨.int (g i j),H,I.tok _,⟨_,rfl⟩,q⟩
theorem Zbg {f:Value->Value->Sem Value} {g:Int->Int->Bool}
  (rule:∀(i j:Int) (t u:Tok) (s:Shared) (Q:Value->Shared->Prop) (E:Value->Shared->Prop),Q (.bool (g i j)) s->wpAny (model X.prog X.w) X.A (f (.int i t) (.int j u)) Q E s) :
  Yg X f (W4 fun i j=>.bl (g i j)):=by
 intro pins s σ H x y v u Q I rx ry h;obtain ⟨i,j,rfl,rfl,q⟩:=h;obtain ⟨t,rfl⟩:=rx;obtain ⟨t',rfl⟩:=ry;exact rule i j t t' s _ _ ⟨.bl (g i j),H,I,rfl,q⟩
def Vb (i j:Int):Prop:=0≤j∧j≤1000000∧i.natAbs<2 ^ 64
def CMul (i j:Int):Prop:=(-(2 ^ 64)<i∧i<2 ^ 64)∨(-(2 ^ 64)<j∧j<2 ^ 64)
theorem CMul.ok {i j:Int} (h:CMul i j):IntMulOk i j:=by
 rcases h with ⟨h1,h2⟩|⟨h1,h2⟩
 ·exact .of_left (intBits_le_64 h1 h2)
 ·exact .of_right (intBits_le_64 h1 h2)
theorem YT:Yg X (binaryOp .Add) (W4 fun i j=>.int (i+j)):=Zhf fun _ _ _ _ _ _ _ q=>add_int q
theorem ZaD:Yg X (binaryOp .Sub) (W4 fun i j=>.int (i-j)):=Zhf fun _ _ _ _ _ _ _ q=>sub_int q
theorem Wv:Yg X (binaryOp .Mult) (rI CMul fun i j=>.int (i*j)):=Jm fun _ _ _ _ _ _ _ hc q=>mul_int q hc.ok
theorem Z9:Yg X (binaryOp .Mod) (rI (fun _ j=>j≠0) fun i j=>.int (i.fmod j)):=Jm fun _ _ _ _ _ _ _ hc q=>mod_int' hc q
theorem XQ:Yg X (binaryOp .Pow) (rI Vb fun i j=>.int (i ^ j.toNat)):=Jm fun _ _ _ _ _ _ _ hc q=>pow_int_small hc.1 hc.2.1 hc.2.2 q
theorem unI {f:Value->Sem Value} {g:Int->Int}
  (rule:∀(i:Int) (t:Tok) (s:Shared) (Q:Value->Shared->Prop) (E:Value->Shared->Prop),Q (.int (g i) s.toks) { s with toks:=s.toks+1 }->wpAny (model X.prog X.w) X.A (f (.int i t)) Q E s) :
  UnR X f (rU fun i=>.int (g i)):=by
 intro pins s σ H x v Q I rx h;obtain ⟨i,rfl,q⟩:=h;obtain ⟨t,rfl⟩:=rx;exact rule i t s _ _ ⟨.int (g i),H,I.tok _,⟨_,rfl⟩,q⟩
theorem JY:UnR X (unaryOp .USub) (rU fun i=>.int (-i)):=unI fun _ _ _ _ _ q=>neg_int q
end
noncomputable def Zfb:V->V->Bool
 |.non,.non=>true|.non,.int _=>true|.int _,.non=>true|.non,.bl _=>true|.bl _,.non=>true|.non,.str _=>true|.str _,.non=>true
 |.int _,.int _=>true|.bl _,.bl _=>true|.str _,.str _=>true|.byt _,.byt _=>true
 |.int _,.str _=>true|.str _,.int _=>true|.bl _,.str _=>true|.str _,.bl _=>true
 |_,_=>false
def rEq:R2:=fun x y H Q=>Zfb x y=true∧Q (.bl (decide (x=y))) H
def rNe:R2:=fun x y H Q=>Zfb x y=true∧Q (.bl (!decide (x=y))) H
theorem ZeN {i j:Int}:decide (V.int i=V.int j)=(i==j):=by
 rw [Rk];simp
theorem ZfO {i j:Bool}:decide (V.bl i=V.bl j)=(i==j):=by
 rw [Rk];simp
theorem Zd6 {i j:Str}:decide (V.str i=V.str j)=(i==j):=by
 rw [Rk];simp
theorem ZfJ {i j:Array UInt8}:decide (V.byt i=V.byt j)=(i.toList==j.toList):=by
 rw [Rk];cases i;cases j;simp
section
variable {X:Cx} {a b c:Expr} {ta tb tc:TE} {pos:Pos}
theorem Yc {pins:List (Addr×Obj)} {σ:St} {H:Hp} {s:Shared} {Q:VK} {k k':Bool} (I:Inv X pins σ H s) (q:Q (.bl k) H) (e:k=k'):EP X pins σ Q (.bool k') s:=by
 subst e;exact ⟨.bl k,H,I,rfl,q⟩
theorem Z5:Yg X (compareOp .Eq) rEq:=by
 intro pins s σ H x y v u Q I rx ry h;obtain ⟨hs,q⟩:=h;cases x with
 |non =>
  cases rx;cases y with
  |non=>cases ry;exact PySem.EqNone.eq_none_none (Yc I q (by simp))
  |bl j=>cases ry;exact PySem.EqNone.eq_none_bool (Yc I q (by simp))
  |int j=>obtain ⟨t',rfl⟩:=ry;exact PySem.EqNone.eq_none_int (Yc I q (by simp))
  |str j=>obtain ⟨t',rfl⟩:=ry;exact PySem.EqNone.eq_none_str (Yc I q (by simp))
  |_=>exact absurd (show false=true from hs) QA
 |bl i =>
  cases rx;cases y with
  |non=>cases ry;exact PySem.EqNone.eq_bool_none (Yc I q (by simp))
  |bl j=>cases ry;exact eq_bool (Yc I q ZfO)
  |str j=>obtain ⟨t',rfl⟩:=ry;exact PySem.EqMixed.eq_bool_str (Yc I q (by simp))
  |_=>exact absurd (show false=true from hs) QA
 |int i =>
  obtain ⟨t,rfl⟩:=rx;cases y with
  |non=>cases ry;exact PySem.EqNone.eq_int_none (Yc I q (by simp))
  |int j=>obtain ⟨t',rfl⟩:=ry;exact eq_int (Yc I q ZeN)
  |str j=>obtain ⟨t',rfl⟩:=ry;exact PySem.EqMixed.eq_int_str (Yc I q (by simp))
  |_=>exact absurd (show false=true from hs) QA
 |str i =>
  obtain ⟨t,rfl⟩:=rx;cases y with
  |non=>cases ry;exact PySem.EqNone.eq_str_none (Yc I q (by simp))
  |bl j=>cases ry;exact PySem.EqMixed.eq_str_bool (Yc I q (by simp))
  |int j=>obtain ⟨t',rfl⟩:=ry;exact PySem.EqMixed.eq_str_int (Yc I q (by simp))
  |str j=>obtain ⟨t',rfl⟩:=ry;exact eq_str (Yc I q Zd6)
  |_=>exact absurd (show false=true from hs) QA
 |byt i =>
  obtain ⟨t,rfl⟩:=rx;cases y with
  |byt j=>obtain ⟨t',rfl⟩:=ry;exact W.eq_bytes (Yc I q ZfJ)
  |_=>exact absurd (show false=true from hs) QA
 |_=>cases y<;>exact absurd (show false=true from hs) QA
theorem WR:Yg X (compareOp .NotEq) rNe:=by
 intro pins s σ H x y v u Q I rx ry h;obtain ⟨hs,q⟩:=h;cases x with
 |non =>
  cases rx;cases y with
  |non=>cases ry;exact PySem.EqNone.ne_none_none (Yc I q (by simp))
  |bl j=>cases ry;exact PySem.EqNone.ne_none_bool (Yc I q (by simp))
  |int j=>obtain ⟨t',rfl⟩:=ry;exact PySem.EqNone.ne_none_int (Yc I q (by simp))
  |str j=>obtain ⟨t',rfl⟩:=ry;exact PySem.EqNone.ne_none_str (Yc I q (by simp))
  |_=>exact absurd (show false=true from hs) QA
 |bl i =>
  cases rx;cases y with
  |non=>cases ry;exact PySem.EqNone.ne_bool_none (Yc I q (by simp))
  |bl j=>cases ry;exact ne_bool (Yc I q (Qu not ZfO))
  |str j=>obtain ⟨t',rfl⟩:=ry;exact PySem.EqMixed.ne_bool_str (Yc I q (by simp))
  |_=>exact absurd (show false=true from hs) QA
 |int i =>
  obtain ⟨t,rfl⟩:=rx;cases y with
  |non=>cases ry;exact PySem.EqNone.ne_int_none (Yc I q (by simp))
  |int j=>obtain ⟨t',rfl⟩:=ry;exact ne_int (Yc I q (Qu not ZeN))
  |str j=>obtain ⟨t',rfl⟩:=ry;exact PySem.EqMixed.ne_int_str (Yc I q (by simp))
  |_=>exact absurd (show false=true from hs) QA
 |str i =>
  obtain ⟨t,rfl⟩:=rx;cases y with
  |non=>cases ry;exact PySem.EqNone.ne_str_none (Yc I q (by simp))
  |bl j=>cases ry;exact PySem.EqMixed.ne_str_bool (Yc I q (by simp))
  |int j=>obtain ⟨t',rfl⟩:=ry;exact PySem.EqMixed.ne_str_int (Yc I q (by simp))
  |str j=>obtain ⟨t',rfl⟩:=ry;exact ne_str (Yc I q (Qu not Zd6))
  |_=>exact absurd (show false=true from hs) QA
 |byt i =>
  obtain ⟨t,rfl⟩:=rx;cases y with
  |byt j=>obtain ⟨t',rfl⟩:=ry;exact W.ne_bytes (Yc I q (Qu not ZfJ))
  |_=>exact absurd (show false=true from hs) QA
 |_=>cases y<;>exact absurd (show false=true from hs) QA
theorem WP:Yg X (compareOp .Lt) (W4 fun i j=>.bl (decide (i<j))):=Zbg fun _ _ _ _ _ _ _ q=>lt_int q
theorem Zcl:Yg X (compareOp .LtE) (W4 fun i j=>.bl (decide (i≤j))):=Zbg fun _ _ _ _ _ _ _ q=>le_int q
theorem Wn:Yg X (compareOp .Gt) (W4 fun i j=>.bl (decide (j<i))):=Zbg fun _ _ _ _ _ _ _ q=>gt_int q
theorem Jh:Yg X (compareOp .GtE) (W4 fun i j=>.bl (decide (j≤i))):=Zbg fun _ _ _ _ _ _ _ q=>ge_int q
theorem Zhy:Yg X (compareOp .In) (fun x y H Q=>∃i j,x=.str i∧y=.str j∧Q (.bl (!(Builtin.Str.occurrences j i 0 j.length 1).isEmpty)) H):=by
 intro pins s σ H x y v u Q I rx ry h;obtain ⟨i,j,rfl,rfl,q⟩:=h;obtain ⟨t,rfl⟩:=rx;obtain ⟨t',rfl⟩:=ry;exact in_str (Yc I q rfl)
theorem ZbN:Yg X (compareOp .Is) (fun x y H Q=>y=.non∧Q (.bl (decide (x=.non))) H):=by
 intro pins s σ H x y v u Q I rx ry h;obtain ⟨rfl,q⟩:=h;cases ry;refine is_none_gen (Yc I q ?_)
 cases x<;>first
  | (cases rx;rfl)
  | (obtain ⟨t,rfl⟩:=rx;rfl)
theorem ZmH:Yg X (compareOp .IsNot) (fun x y H Q=>y=.non∧Q (.bl (!decide (x=.non))) H):=by
 intro pins s σ H x y v u Q I rx ry h;obtain ⟨rfl,q⟩:=h;cases ry;refine isnot_none_gen (Yc I q ?_)
 cases x<;>first
  | (cases rx;rfl)
  | (obtain ⟨t,rfl⟩:=rx;rfl)
theorem Zu (b:Expr) {op:CmpOp} (h:op≠.In:=by decide) (h2:op≠.NotIn:=by decide):behindInMarks op b=false:=by
 have e1:(op==CmpOp.In)=false:=by cases op<;>first|rfl|exact absurd rfl h
 have e2:(op==CmpOp.NotIn)=false:=by cases op<;>first|rfl|exact absurd rfl h2
 cases b<;>simp [behindInMarks,e1,e2]
theorem YZ {op:CmpOp} {r:R2} (ho:Yg X (compareOp op) r) (ha:PE X a ta) (hb:PE X b tb) (hm:behindInMarks op b=false):PE X (.Compare a [op] [b] pos) (J7 r ta tb):=by
 intro pins s σ H Q I h;exact wpAny_Compare1 (ZbH ha hb I h fun v u s2 x y H2 I2 rx ry q=>ho pins s2 σ H2 x y v u Q I2 rx ry q) hm
def ZnO (t:TE):TT:=fun σ H Q=>t σ H fun x H'=>∃k,x=.bl k∧Q k H'
theorem Zx {op:CmpOp} {r:R2} (ho:Yg X (compareOp op) r) (ha:PE X a ta) (hb:PE X b tb) (hm:behindInMarks op b=false):PT X (.Compare a [op] [b] pos) (ZnO (J7 r ta tb)):=by
 intro pins s σ H Q I h
 refine wpAny_isTrue_Compare1 (Zr (ha pins s σ H _ I h) fun v s1 ⟨x,H1,I1,r1,q1⟩=>Zr (hb pins s1 σ H1 _ I1 q1) fun u s2 ⟨y,H2,I2,r2,q2⟩ =>
  Zr (ho pins s2 σ H2 x y v u _ I2 r1 r2 q2) fun c s3 ⟨z,H3,I3,r3,k,e,q3⟩=>?_) hm
 subst e;cases r3;exact RM ⟨H3,I3,q3⟩
theorem U3:(sizeLine:Nat)<2 ^ 63:=by rw [RY];decide
theorem ZgP:Yg X (binaryOp .Add) (fun x y H Q=>∃i j,x=.str i∧y=.str j∧i.length+j.length≤sizeLine∧Q (.str (i++j)) H):=by
 intro pins s σ H x y v u Q I rx ry h;obtain ⟨i,j,rfl,rfl,hz,q⟩:=h;obtain ⟨t,rfl⟩:=rx;obtain ⟨t',rfl⟩:=ry;exact add_str (fun t' tk=>⟨.str (i++j),H,I.tok _,⟨_,rfl⟩,q⟩) hz
theorem Xa {x:V} {us:List Value} (r:Vals [x] us):∃u,us=[u]∧RelV x u:=by
 cases r with
 |cons r1 r2=>cases r2;exact ⟨_,rfl,r1⟩
theorem Vy {x y:V} {us:List Value} (r:Vals [x,y] us):∃u w',us=[u,w']∧RelV x u∧RelV y w':=by
 cases r with
 |cons r1 r2 =>
  cases r2 with
  |cons r3 r4=>cases r4;exact ⟨_,_,rfl,r1,r3⟩
theorem ZkA:YG X (.builtin "abs") (fun xs H Q=>∃i,xs=[.int i]∧Q (.int (if i<0 then -i else i)) H):=by
 intro pins s σ H xs us Q I r h;obtain ⟨i,rfl,q⟩:=h;obtain ⟨u,rfl,t,rfl⟩:=Xa r;exact call_abs_int fun u tk=>⟨.int (if i<0 then -i else i),H,I.tok _,⟨_,rfl⟩,q⟩
theorem Zjq (hc:X.calm=true):YG X (.builtin "max") (fun xs H Q=>∃i j,xs=[.int i,.int j]∧Q (.int (if j > i then j else i)) H):=by
 intro pins s σ H xs us Q I r h;obtain ⟨i,j,rfl,q⟩:=h;obtain ⟨u,w',rfl,⟨t,rfl⟩,⟨t',rfl⟩⟩:=Vy r;refine max_two_ints (I.ok.hd hc) fun h' tk k=>⟨_,H,I.kept k,?_,q⟩;by_cases hj:j > i
 ·rw [Qc hj,Qc hj];exact ⟨_,rfl⟩
 ·rw [Qa hj,Qa hj];exact ⟨_,rfl⟩
theorem Zcg (hc:X.calm=true):YG X (.builtin "min") (fun xs H Q=>∃i j,xs=[.int i,.int j]∧Q (.int (if j<i then j else i)) H):=by
 intro pins s σ H xs us Q I r h;obtain ⟨i,j,rfl,q⟩:=h;obtain ⟨u,w',rfl,⟨t,rfl⟩,⟨t',rfl⟩⟩:=Vy r;refine min_two_ints (I.ok.hd hc) fun h' tk k=>⟨_,H,I.kept k,?_,q⟩;by_cases hj:j<i
 ·rw [Qc hj,Qc hj];exact ⟨_,rfl⟩
 ·rw [Qa hj,Qa hj];exact ⟨_,rfl⟩
theorem Zhn:YG X (.type "int") (fun xs H Q=>(∃i,xs=[.int i]∧Q (.int i) H)∨∃k,xs=[.bl k]∧Q (.int (if k then 1 else 0)) H):=by
 intro pins s σ H xs us Q I r h;rcases h with ⟨i,rfl,q⟩|⟨k,rfl,q⟩
 ·obtain ⟨u,rfl,t,rfl⟩:=Xa r;exact call_int_int ⟨.int i,H,I,⟨_,rfl⟩,q⟩
 ·obtain ⟨u,rfl,r1⟩:=Xa r;cases r1;exact call_int_bool ⟨.int (if k then 1 else 0),H,I.tok _,⟨_,rfl⟩,q⟩
end
structure ObjM (h:Heap) (x dx C:Addr) (mA:Str->Option Value):Prop where
 obj:h.get? x=some (W.instObj C dx)
 ns:h.Ns1 dx mA
 ne:dx≠x
theorem Zkb {h:Heap} {dx:Addr} {mA:Str->Option Value} (n:h.Ns1 dx mA):∃od,h.get? dx=some od∧∀name,W.lookIn name od=some (mA name):=by
 obtain ⟨o,es,ep,ho,hd,hk,_,hm⟩:=n;refine ⟨o,ho,fun name=>?_⟩;have e:=hm name;unfold nsFind findBy at e;rw [←Array.find?_toList] at e;unfold W.lookIn;rw [hd];dsimp only;split
 ·rename_i y q;rw [q] at e;exact Qu some e
 ·rename_i q;rw [q] at e
  have a:es.toList.any (·.refKey)=false:=by
   rw [Nb];intro y hy;obtain ⟨z,t,hkey⟩:=hk y (Array.mem_toList_iff.mp hy);simp [DictEntry.refKey,hkey]
  have a':¬es.toList.any (·.refKey)=true:=by rw [a];exact QA
  rw [Qa a'];exact Qu some e
theorem ObjM.look {h:Heap} {x dx C:Addr} {mA:Str->Option Value} (I:ObjM h x dx C mA):∃od,W.InstAt h x (W.instObj C dx) C (some od)∧∀name,W.lookIn name od=some (mA name) :=
 let ⟨od,ho,hl⟩:=Zkb I.ns
 ⟨od,⟨I.obj,rfl,rfl,ho⟩,hl⟩
section
variable {prog:Program} {w:World} {A:Around} {E:Value->Shared->Prop} {s:Shared} {K:W.Frag} {x dx C f:Addr} {mA:Str->Option Value} {name:Str} {v:Value}
theorem ZiQ {expr:Bool} {Q:Value->Shared->Prop} (X:K.In s.heap) (I:ObjM s.heap x dx C mA) (hg:W.plainGet K C name=true) (hh:W.hasDictIn K C=true)
  (ha:W.findIn K (.ref C) name=some none) (hv:mA name=some v) (hv':W.handedIn v=true) (h:Q v { s with toks:=s.toks+1 }) :
  wpAny (model prog w) A (getAttr (.ref x) name expr) Q E s:=by
 obtain ⟨od,J,hl⟩:=I.look;exact W.get_value X J (W.plainGet_of hg).1 (W.findObj_own hh ha rfl (by rw [hl,hv])) hv' h
theorem Znc {pl:Sem Bool} {Q:Value×List Value->Shared->Prop} (X:K.In s.heap) (I:ObjM s.heap x dx C mA) (hg:W.plainGet K C name=true)
  (hf:W.findIn K (.ref C) name=some (some (.ref f))) (ht:W.isFn K (.ref f)=true) (hv:mA name=none) (h:Q (.ref f,[.ref x]) s) :
  wpAny (model prog w) A (getMethod (.ref x) name pl) Q E s:=by
 obtain ⟨od,J,hl⟩:=I.look;exact W.method_fn X J (W.plainGet_of hg).1 (W.plainGet_of hg).2 hf (Ru.mp ht) (by show (W.lookIn name od).map (·.isSome)=some false;rw [hl,hv];rfl) h
theorem Zoi {ns:List Str} {Q:Unit->Shared->Prop} (X:K.In s.heap) (I:ObjM s.heap x dx C mA)
  (hs:W.findIn K (.ref C) "__setattr__"=some (some (.builtin "object.__setattr__"))) (hp:W.plainOver K C=true) (ht:W.takerIn K C name=some none) (hh:W.hasDictIn K C=true)
  (hw:PySem.Within mA ns) (hsz:ns.length≤sizeLine)
  (h:∀h',ObjM h' x dx C (fun y=>if y=name then some v else mA y)->Heap.SameBut dx s.heap h'->Q () { s with heap:=h',toks:=s.toks+2 }) :
  wpAny (model prog w) A (setAttr (.ref x) name v) Q E s:=by
 obtain ⟨od,J,hl⟩:=I.look;refine W.set_plain X J hs (W.osa_open (s:={ s with toks:=s.toks+1 }) (r:=none) X J hp ht fun b=>?_);obtain ⟨cd,hc,hd'⟩:=W.any_some hh;have hx:s.heap.get? x=some ⟨.ref C,some dx,.plain,#[]⟩:=I.obj;refine Qb (Qe (Qb (Qb (wpAny_loadPart hx (Qb (W.Looks.here (s:={ s with toks:=s.toks+1 }) (W.looks_clsIn X hc) ?_))))));rw [hd'];refine Qe (a:=some dx) (Qb (Qe (Qb ?_)));refine wpAny_nsSet1 (s:={ s with toks:=s.toks+1 }) I.ns fun h' hn2 hs2=>?_;obtain ⟨oD,esD,epD,hoD,hdD,hcD⟩:=hn2.count (PySem.Within.cons name v hw);refine Qb (wpAny_lookBehind hoD (by rw [hdD];exact pastItsLine_dict (Qn hcD (by rw [QM];omega))) ?_);exact Qe (h _ ⟨(hs2.2 _ (Q2 I.ne)).trans I.obj,hn2,I.ne⟩ hs2)
theorem ZlL {R:Result->Shared->Prop} {vs:List Value} {kw:List (Str×Value)} (X:K.In s.heap) (hm:W.makesIn K C=true)
  (hi:W.findIn K (.ref C) "__init__"=some (some (.ref f))) (hf:W.typeIn K (.ref f)=some (.type "function"))
  (h:codeAny (model prog w) (A.under (.builtin "type.__call__" ⟨.ref C::vs,kw⟩)) (.call (.ref f) ⟨.ref (s.heap.objs.size+1)::vs,kw⟩) (W.InitBack (s.heap.objs.size+1) R)
   { s with heap:=(s.heap.push W.emptyDict).push (W.instObj C s.heap.objs.size) }) :
  codeAny (model prog w) A (.call (.ref C) ⟨vs,kw⟩) R s:=by
 obtain ⟨hh,g,d,t,os⟩:=s;exact W.make_core (W.makes_of X hm) (GA X hi) (fun self=>W.bind_fn X self hf) (.inl rfl) h
end
noncomputable def ZF (f:Str) (v:V):List (Str×V)->List (Str×V)
 |[]=>[(f,v)]
 | (g,x)::r=>if g=f then (g,v)::r else (g,x)::ZF f v r
theorem Zgd (f g:Str) (v:V):∀fs:List (Str×V),(ZF f v fs).lookup g=if g=f then some v else fs.lookup g
 |[]=>by
  show List.lookup g [(f,v)]=_;by_cases h:g=f
  ·have hb:(g==f)=true:=Ru.mpr h;simp only [List.lookup,hb,Qc h]
  ·have hb:(g==f)=false:=RL.mpr h;simp only [List.lookup,hb,Qa h]
 | (k,x)::r=>by
  have ih:=Zgd f g v r;rw [show ZF f v ((k,x)::r)=(if k=f then (k,v)::r else (k,x)::ZF f v r) from rfl];by_cases hk:k=f
  ·rw [Qc hk];by_cases h:g=k
   ·have hb:(g==k)=true:=Ru.mpr h;simp only [List.lookup,hb,Qc (h.trans hk)]
   ·have hb:(g==k)=false:=RL.mpr h;simp only [List.lookup,hb,Qa (fun e:g=f=>h (e.trans hk.symm))]
  ·rw [Qa hk];by_cases h:g=k
   ·have hb:(g==k)=true:=Ru.mpr h;simp only [List.lookup,hb,Qa (fun e:g=f=>hk (h.symm.trans e))]
   ·have hb:(g==k)=false:=RL.mpr h;simp only [List.lookup,hb];exact ih
theorem ZbK (f:Str) (v:V):∀fs:List (Str×V),f∈(ZF f v fs).map (·.1)∧∀g,g∈fs.map (·.1)->g∈(ZF f v fs).map (·.1)
 |[]=>⟨by simp [ZF],fun g h=>by simp at h⟩
 | (k,x)::r=>by
  obtain ⟨i1,i2⟩:=ZbK f v r;rw [show ZF f v ((k,x)::r)=(if k=f then (k,v)::r else (k,x)::ZF f v r) from rfl];by_cases hk:k=f
  ·rw [Qc hk];subst hk;exact ⟨by simp,fun g h=>by simpa using h⟩
  ·rw [Qa hk];refine ⟨?_,fun g h=>?_⟩
   ·rw [Qr];exact QE _ i1
   ·rw [Qr] at h ⊢;rcases Qh.mp h with e|e
    ·exact Qh.mpr (.inl e)
    ·exact QE _ (i2 g e)
theorem ZeB (f:Str) (v:V):∀fs:List (Str×V),(ZF f v fs).length≤fs.length+1
 |[]=>by simp [ZF]
 | (k,x)::r=>by
  have ih:=ZeB f v r;rw [show ZF f v ((k,x)::r)=(if k=f then (k,v)::r else (k,x)::ZF f v r) from rfl];by_cases hk:k=f
  ·rw [Qc hk,QM,QM];omega
  ·rw [Qa hk,QM,QM];omega
theorem RelO.some_of {v:V} {o:Option Value} (r:RelO (some v) o):∃u,o=some u∧RelV v u:=by
 cases o with
 |none=>exact (show False from r).elim
 |some u=>exact ⟨u,rfl,r⟩
theorem RelO.none_of {o:Option Value} (r:RelO none o):o=none:=by
 cases o with
 |none=>rfl
 |some u=>exact (show False from r).elim
theorem Zlj {v:V} {u:Value} (r:RelV v u):W.handedIn u=true:=by
 cases v with
 |non=>cases (show u=Value.none from r);rfl
 |bl b=>cases (show u=Value.bool b from r);rfl
 |int i=>obtain ⟨t,e⟩:=(show ∃t,u=Value.int i t from r);cases e;rfl
 |str x=>obtain ⟨t,e⟩:=(show ∃t,u=Value.str x t from r);cases e;rfl
 |byt b=>obtain ⟨t,e⟩:=(show ∃t,u=Value.bytes b t from r);cases e;rfl
 |flt b=>obtain ⟨t,e⟩:=(show ∃t,u=Value.float b t from r);cases e;rfl
 |ref a=>cases (show u=Value.ref a from r);rfl
 |ty n=>cases (show u=Value.type n from r);rfl
section
variable {P:Program} {w:World} {H H':Hp} {h h':Heap} {a C dx:Addr} {fs fs':List (Str×V)}
theorem ZaQ (hok:HOk P w H h) (e:H a=some (.ins C dx fs)):∃mA,ObjM h a dx C mA∧(∀f,RelO (fs.lookup f) (mA f))∧PySem.Within mA (fs.map (·.1))∧fs.length≤1000∧H dx=some (.own a):=by
 obtain ⟨d,z,ne,ob,mA,n,r,q⟩:=(show ObjOk P w H h a (.ins C dx fs) from hok a _ e);exact ⟨mA,⟨ob,n,ne⟩,r,q,z,d⟩
end
structure Cls (K:W.Frag) (C:Addr):Prop where
 pg:W.plainGet K C Str.empty=true
 hd:W.hasDictIn K C=true
 po:W.plainOver K C=true
 sa:W.findIn K (.ref C) "__setattr__"=some (some (.builtin "object.__setattr__"))
theorem Cls.get {K:W.Frag} {C:Addr} (c:Cls K C) (f:Str):W.plainGet K C f=true:=c.pg
def NoAttr (K:W.Frag) (C:Addr) (f:Str):Prop:=W.findIn K (.ref C) f=some none
theorem NoAttr.taker {K:W.Frag} {C:Addr} {f:Str} (n:NoAttr K C f):W.takerIn K C f=some none:=by
 unfold W.takerIn;rw [show W.findIn K (.ref C) f=some none from n];rfl
structure Meth (K:W.Frag) (C:Addr) (m:Str) (f:Addr):Prop where
 at_:W.findIn K (.ref C) m=some (some (.ref f))
 fn:W.isFn K (.ref f)=true
 kp:W.keepIn K (.ref f)=true
section
variable {X:Cx} {pins:List (Addr×Obj)} {σ:St} {H:Hp} {s:Shared} {a C dx:Addr} {fs:List (Str×V)} {f:Str} {v:V} {A:Around} {E:Value->Shared->Prop}
theorem Zm6 {b:Bool} {Q:Value->Shared->Prop} (I:Inv X pins σ H s) (e:H a=some (.ins C dx fs)) (c:Cls X.K C) (n:NoAttr X.K C f) (l:fs.lookup f=some v)
  (h:∀u s',Inv X pins σ H s'->RelV v u->Q u s'):wpAny (model X.prog X.w) A (getAttr (.ref a) f b) Q E s:=by
 obtain ⟨mA,O,r,_,_,_⟩:=ZaQ I.hok e;obtain ⟨u,hu,ru⟩:=RelO.some_of (v:=v) (o:=mA f) (by rw [←l];exact r f);exact ZiQ I.kIn O (c.get f) c.hd n hu (Zlj ru) (h u _ (I.tok _) ru)
theorem Zma {m:Str} {g:Addr} {pl:Sem Bool} {Q:Value×List Value->Shared->Prop} (I:Inv X pins σ H s) (e:H a=some (.ins C dx fs)) (c:Cls X.K C) (k:Meth X.K C m g) (l:fs.lookup m=none)
  (h:Q (.ref g,[.ref a]) s):wpAny (model X.prog X.w) A (getMethod (.ref a) m pl) Q E s:=by
 obtain ⟨mA,O,r,_,_,_⟩:=ZaQ I.hok e;have hn:mA m=none:=RelO.none_of (by rw [←l];exact r m);exact Znc I.kIn O (c.get m) k.at_ k.fn hn h
theorem ZnY {y:V} {u:Value} {Q:Unit->Shared->Prop} (I:Inv X pins σ H s) (e:H a=some (.ins C dx fs)) (c:Cls X.K C) (n:NoAttr X.K C f) (hl:fs.length<1000) (ry:RelV y u)
  (h:∀s',Inv X pins σ (Zb H a (.ins C dx (ZF f y fs))) s'->Q () s'):wpAny (model X.prog X.w) A (setAttr (.ref a) f u) Q E s:=by
 obtain ⟨mA,O,r,wi,_,ho⟩:=ZaQ I.hok e;have hz:(fs.map (·.1)).length≤sizeLine:=by rw [Qd,RY];omega
 refine Zoi I.kIn O c.sa c.po n.taker c.hd wi hz fun h' O' sb=>h _ ?_;have hd:∃o,h'.get? dx=some o:=let ⟨o,_,_,e',_⟩:=O'.ns;⟨o,e'⟩;refine I.write (x:=a) (e:=dx) (by rw [e];exact True.intro) (.inr ho) (fun b q hb z=>(sb.2 b hb).trans z) hd ?_;refine ⟨by rw [Ze O.ne];exact ho,?_,O.ne,O'.obj,_,O'.ns,fun g=>?_,fun g hg=>?_⟩
 ·have:=ZeB f y fs;omega
 ·show RelO ((ZF f y fs).lookup g) (if g=f then some u else mA g);rw [Zgd];by_cases q:g=f
  ·rw [Qc q,Qc q];exact ry
  ·rw [Qa q,Qa q];exact r g
 ·by_cases q:g=f
  ·rw [q];exact (ZbK f y fs).1
  ·refine (ZbK f y fs).2 g (wi g fun z=>hg ?_);show (if g=f then some u else mA g)=none;rw [Qa q];exact z
theorem Inv.made (I:Inv X pins σ H s):Inv X pins σ (Zb (Zb H s.heap.objs.size (.own (s.heap.objs.size+1))) (s.heap.objs.size+1) (.ins C s.heap.objs.size []))
  { s with heap:=(s.heap.push W.emptyDict).push (W.instObj C s.heap.objs.size) }:=by
 have e1:(s.heap.push W.emptyDict).get? s.heap.objs.size=some W.emptyDict:=Qs s.heap rfl
 have e2:((s.heap.push W.emptyDict).push (W.instObj C s.heap.objs.size)).get? (s.heap.objs.size+1)=some (W.instObj C s.heap.objs.size):=by
  have:=Qs (s.heap.push W.emptyDict) (o:=W.instObj C s.heap.objs.size) rfl
  rwa [Rg] at this
 have e3:(s.heap.push W.emptyDict).Ns s.heap.objs.size (fun _=>none):=⟨W.emptyDict,#[],_,e1,rfl,(fun e he=>absurd he (by simp)),fun _=>rfl⟩;have I1:=I.laid (a:=s.heap.objs.size) (o:=.own (s.heap.objs.size+1)) (h':=s.heap.push W.emptyDict) (t':=s.toks) (fun b u q=>Qi _ q) (Qf _) ⟨_,e1⟩;refine I1.laid (a:=s.heap.objs.size+1) (o:=.ins C s.heap.objs.size []) (t':=s.toks) (fun b u q=>Qi _ q) (Nat.le_of_eq (Rg _ _)) ?_;have ne:s.heap.objs.size≠s.heap.objs.size+1:=Qy (RD _);refine ⟨by rw [Ze ne,Zf],QK _,ne,e2,fun _=>none,(Heap.Ns1.of_empty e3).at fun o q=>Qi _ q,fun _=>True.intro,fun y hy=>absurd rfl hy⟩
theorem ZlF {prog:Program} {w:World} {env:Env} {e:Expr} {f:Str} {pos:Pos} {s:Shared} {Q:Value->Shared->Prop} (hb:attributeBase e f env (eval e env)=eval e env)
  (h:wpAny (model prog w) A (eval e env) (fun o s₁=>wpAny (model prog w) A (getAttr o f true) Q E s₁) E s):wpAny (model prog w) A (eval (.Attribute e f pos) env) Q E s :=
 Attribute_any_ h (by rw [arm_eval_Attribute,hb])
end
def Zfs (K:W.Frag) (ta:TE) (f:Str):TE:=fun σ H Q=>ta σ H fun x H1=>∃a C dx fs v,x=.ref a∧H1 a=some (.ins C dx fs)∧Cls K C∧NoAttr K C f∧fs.lookup f=some v∧Q v H1
def ZhA (K:W.Frag) (ta tv:TE) (f:Str):TS:=fun D σ H=>tv σ H fun y H1=>ta σ H1 fun x H2=>∃a C dx fs,x=.ref a∧H2 a=some (.ins C dx fs)∧Cls K C∧NoAttr K C f∧fs.length<1000 ∧
 D.nx σ (Zb H2 a (.ins C dx (ZF f y fs)))
section
variable {X:Cx} {o e value:Expr} {f:Str} {pos pos' tpos:Pos} {ta tv:TE}
theorem Xd (he:PE X e ta) (hb:attributeBase e f X.env (eval e X.env)=eval e X.env):PE X (.Attribute e f pos) (Zfs X.K ta f):=by
 intro pins s σ H Q I h;refine ZlF hb (Zr (he pins s σ H _ I h) fun u s1 ⟨x,H1,I1,rx,a,C,dx,fs,v,ex,ea,c,n,l,q⟩=>?_);subst ex;obtain rfl:u=Value.ref a:=rx;exact Zm6 I1 ea c n l fun u' s2 I2 ru=>⟨v,H1,I2,ru,q⟩
theorem Ju (ha:PE X o ta) (hv:PE X value tv) (hs:swapsWith value (some (.Attribute o f pos')) pos.line X.env=pure false):PS X (.Assign [.Attribute o f pos'] value pos) (ZhA X.K ta tv f):=by
 intro pins s σ H D I h;refine plainObj_wpAny_Assign_Attribute (Zr (hv pins s σ H _ I h) fun u s1 ⟨y,H1,I1,ry,q⟩=>Zr (ha pins s1 σ H1 _ I1 q) fun ov s2 ⟨x,H2,I2,rx,a,C,dx,fs,ex,ea,c,n,l,q2⟩=>?_) hs;subst ex;obtain rfl:ov=Value.ref a:=rx;exact ZnY I2 ea c n l ry fun s3 I3=>⟨σ,_,I3,q2⟩
end
section
variable {X:Cx} {pins:List (Addr×Obj)} {σ:St} {H:Hp} {s:Shared} {A:Around} {E:Value->Shared->Prop} {Q:Value->Shared->Prop} {c:Value} {b:Bool}
inductive TyOf (K:W.Frag) (H:Hp):V->Value->Prop where
 |non:TyOf K H .non (.type "NoneType")
 |bl (x:Bool):TyOf K H (.bl x) (.type "bool")
 |int (i:Int):TyOf K H (.int i) (.type "int")
 |str (x:Str):TyOf K H (.str x) (.type "str")
 |flt (x:UInt64):TyOf K H (.flt x) (.type "float")
 |lst {a:Addr} {xs:List V} (e:H a=some (.lst xs)):TyOf K H (.ref a) (.type "list")
 |frz {a:Addr} {o:Obj} {xs:List V} (e:H a=some (.frz o (.lst xs))):TyOf K H (.ref a) (.type "list")
 |tup {a:Addr} {xs:List V} (e:H a=some (.tup xs)):TyOf K H (.ref a) (.type "tuple")
 |dK {a:Addr} {kvs:List (Zi×V)} (e:H a=some (.dK kvs)):TyOf K H (.ref a) (.type "dict")
 |dT {a:Addr} {kvs:List (List Zi×V)} (e:H a=some (.dT kvs)):TyOf K H (.ref a) (.type "dict")
 |ins {a C dx : Addr} {fs : List (Str×V)} (e : H a=some (.ins C dx fs)) (cl : Cls K C) (ha : W.findIn K (.ref C) "__class__"=some (some (.builtin "object.__class__")))
   (hn:W.specialIn K (.builtin "object.__class__") "__get__"=some (some (.builtin "getset_descriptor.__get__"))) (htk:W.takesIn K (.builtin "object.__class__")=some true)
   (hm:W.mroIn K C (.type "object")=some true):TyOf K H (.ref a) (.ref C)
theorem Zmc {x:V} {u t:Value} (I:Inv X pins σ H s) (rx:RelV x u) (ty:TyOf X.K H x t) (e:W.kitOne X.K t c=some b) (h:∀tk,Q (.bool b) { s with toks:=tk }) :
  wpAny (model X.prog X.w) A (call (.builtin "isinstance") [u,c]) Q E s:=by
 cases ty with
 |non=>cases (show u=Value.none from rx);exact QV W.kitx_none I.kIn True.intro e (fun z=>nomatch z) h
 |bl y=>cases (show u=Value.bool y from rx);exact QV W.kitx_bool I.kIn True.intro e (fun z=>nomatch z) h
 |int i=>obtain ⟨t,q⟩:=(show ∃t,u=Value.int i t from rx);cases q;exact QV W.kitx_int I.kIn True.intro e (fun z=>nomatch z) h
 |str y=>obtain ⟨t,q⟩:=(show ∃t,u=Value.str y t from rx);cases q;exact QV W.kitx_str I.kIn True.intro e (fun z=>nomatch z) h
 |flt y=>obtain ⟨t,q⟩:=(show ∃t,u=Value.float y t from rx);cases q;exact QV W.kitx_float I.kIn True.intro e (fun z=>nomatch z) h
 |@lst a xs ea =>
  cases (show u=Value.ref a from rx);obtain ⟨_,_,n,_,h1⟩:=(show ObjOk X.prog X.w H s.heap a (.lst xs) from I.hok a _ ea);exact QV GB I.kIn ⟨_,h1,rfl⟩ e (fun z=>nomatch z) h
 |@frz a ob xs ea =>
  cases (show u=Value.ref a from rx);obtain ⟨_,_,_,n,_,h1⟩:=(show ObjOk X.prog X.w H s.heap a (.frz ob (.lst xs)) from I.hok a _ ea);exact QV GB I.kIn ⟨_,h1,rfl⟩ e (fun z=>nomatch z) h
 |@tup a xs ea =>
  cases (show u=Value.ref a from rx);obtain ⟨_,_,_,p⟩:=(show ObjOk X.prog X.w H s.heap a (.tup xs) from I.hok a _ ea);obtain ⟨o,h1,h2,_⟩:=p;exact QV W.kitx_tuple I.kIn ⟨o,h1,h2⟩ e (fun z=>nomatch z) h
 |@dK a kvs ea =>
  cases (show u=Value.ref a from rx);obtain ⟨_,_,vs,_,p⟩:=(show ObjOk X.prog X.w H s.heap a (.dK kvs) from I.hok a _ ea);obtain ⟨o,es,ep,h1,h2,_⟩:=p;exact QV W.kitx_dict I.kIn ⟨o,h1,h2.1⟩ e (fun z=>nomatch z) h
 |@dT a kvs ea =>
  cases (show u=Value.ref a from rx);obtain ⟨_,_,xs,_,o,es,ep,h1,h2,_⟩:=(show ObjOk X.prog X.w H s.heap a (.dT kvs) from I.hok a _ ea);exact QV W.kitx_dict I.kIn ⟨o,h1,h2.1⟩ e (fun z=>nomatch z) h
 |@ins a C dx fs ea cl ha hn htk hm =>
  cases (show u=Value.ref a from rx);obtain ⟨mA,O,_⟩:=ZaQ I.hok ea;obtain ⟨od,J,_⟩:=O.look;exact QV (W.kitx_own (cl.get _) cl.hd ha hn htk hm) I.kIn J e (fun z=>nomatch z) h
end
structure Room (k:Nat) (A:Around):Prop where
 hd:A.handled=none
 dp:A.depth+3*k+5<recursionLimit
 un:A.units+16*k+200<cLine
theorem Room.mono {j k:Nat} {A:Around} (r:Room k A) (h:j≤k):Room j A:=⟨r.hd,by have:=r.dp;omega,by have:=r.un;omega⟩
theorem Room.deeper {k:Nat} {A:Around} (r:Room (k+1) A) (env:Env):Room k (A.deeper env) :=
 ⟨r.hd,by have:=r.dp;show A.depth+1+3*k+5<_;omega,by have:=r.un;show A.units+3+16*k+200<_;omega⟩
theorem Zjj {A:Around} {C:Addr} {us:List Value} {kw:List (Str×Value)}:(A.under (.builtin "type.__call__" ⟨.ref C::us,kw⟩)).depth=A.depth+1:=by
 first|rfl|simp [Around.under,Code.weight,Code.isCreation,Code.isGuard,Code.isCaller,Code.frames,Code.isFrame,guardIds]
theorem Zl9 {A:Around} {C:Addr} {us:List Value} {kw:List (Str×Value)}:(A.under (.builtin "type.__call__" ⟨.ref C::us,kw⟩)).units=A.units+1:=by
 first|rfl|simp [Around.under,Code.cUnits,Code.frames,Code.isFrame]
theorem Room.make {k:Nat} {A:Around} (r:Room (k+1) A) (C:Addr) (us:List Value) (kw:List (Str×Value)):Room k (A.under (.builtin "type.__call__" ⟨.ref C::us,kw⟩)) :=
 ⟨r.hd,by have:=r.dp;rw [Zjj];omega,by have:=r.un;rw [Zl9];omega⟩
theorem Room.depth {k:Nat} {A:Around} (r:Room k A):A.depth<recursionLimit:=by have:=r.dp;omega
theorem Room.units {k:Nat} {A:Around} (r:Room k A):A.units+64<cLine:=by have:=r.un;omega
def Zbv:TA:=fun _ H Q=>Q [] H
def Zcq (ta:TE) (tr:TA):TA:=fun σ H Q=>ta σ H fun x H1=>tr σ H1 fun xs H2=>Q (x::xs) H2
section
variable {X:Cx} {e:Expr} {es:List Expr} {te:TE} {t:TA} {pos:Pos}
theorem Zc:PA X [] Zbv:=fun _ _ _ _ H Q I h=>GC ⟨[],H,I,.nil,h⟩
theorem Za (ha:PE X e te) (hr:PA X es t) (hs:starEach (e::es) X.env=(false,eval e X.env)::starEach es X.env:=by rfl):PA X (e::es) (Zcq te t):=by
 intro pos pins s σ H Q I h;rw [hs];show wpAny _ _ (spliced ((false,eval e X.env)::backTo pos (starEach es X.env))) _ _ s;refine RE (Zr (ha pins s σ H _ I h) fun u s1 ⟨x,H1,I1,r1,q1⟩=>?_);exact Zr (hr pos pins s1 σ H1 _ I1 q1) fun us s2 ⟨xs,H2,I2,r2,q2⟩=>⟨x::xs,H2,I2,.cons r1 r2,q2⟩
def Zfq (t:TA):TE:=fun σ H Q=>t σ H fun xs H1=>xs.length≤sizeLine∧∀p,H1 p=none->Q (.ref p) (Zb H1 p (.tup xs))
def Zk2 (t:TA):TE:=fun σ H Q=>t σ H fun xs H1=>xs.length≤sizeLine∧∀p,H1 p=none->Q (.ref p) (Zb H1 p (.lst xs))
theorem ZZ {x1} (h:PA X es t):PE X (.Tuple es x1 pos) (Zfq t):=by
 intro pins s σ H Q I hq;refine wpAny_Tuple_spliced (Zr (h pos pins s σ H _ I hq) fun us s1 ⟨xs,H1,I1,r,z,q⟩=>⟨by rw [←r.length];exact z,?_⟩);have hf:H1 s1.heap.objs.size=none:=I1.hok.fresh (Qf _);refine ⟨.ref s1.heap.objs.size,Zb H1 s1.heap.objs.size (.tup xs),I1.laid (t':=s1.toks) (fun b u e=>Qi _ e) (Qf _) ?_,rfl,q _ hf⟩;exact ⟨z,us,r,⟨_,Qs _ rfl,rfl,_,rfl⟩⟩
theorem Ys (h:PA X es t):PE X (.List es pos) (Zk2 t):=by
 intro pins s σ H Q I hq;refine wpAny_List_spliced (Zr (h pos pins s σ H _ I hq) fun us s1 ⟨xs,H1,I1,r,z,q⟩=>⟨by rw [←r.length];exact z,?_⟩);have hf:H1 s1.heap.objs.size=none:=I1.hok.fresh (Qf _);refine ⟨.ref s1.heap.objs.size,Zb H1 s1.heap.objs.size (.lst xs),I1.laid (t':=s1.toks) (fun b u e=>Qi _ e) (Qf _) ?_,rfl,q _ hf⟩;exact ⟨z,us,0,r,Qs _ rfl⟩
end
abbrev Sp:=List V->Hp->VK->XK->Prop
abbrev Yw:=List Env->Hp->Shared->XK->Value->Shared->Prop
structure Env0 (P:Program) (w:World) (K:W.Frag) (mg:Str->Option Value) (base:Heap) (A:Around) (outer:List Env) (s:Shared) (H:Hp):Prop where
 frames:A.frames=some outer
 mod:Mod K mg base
 bs:∀b o,base.get? b=some o->s.heap.get? b=some o∧H b=none
 bsz:base.objs.size≤s.heap.objs.size
 funs:s.heap.FunFrames base outer
 frf:∀b∈Yr outer,H b=none
 hok:HOk P w H s.heap
 bare:AllBare s.gens
def CE (outer:List Env) (P:Program) (w:World) (H:Hp) (s:Shared) (Q:VK) (u:Value) (s':Shared):Prop :=
 ∃v H',s'.os=s.os∧AllBare s'.gens∧Un (Yr outer) [] H H' s.heap s'.heap∧HOk P w H' s'.heap∧RelV v u∧Q v H'
def CR (CX:Yw) (outer:List Env) (P:Program) (w:World) (H:Hp) (s:Shared) (Q:VK) (E:XK) (r:Result) (s':Shared):Prop :=
 match r with
 |.ok (.ret u)=>CE outer P w H s Q u s'
 |.ok _=>False
 |.error e=>CX outer H s E e s'
structure FnOk (P:Program) (w:World) (K:W.Frag) (mg:Str->Option Value) (base:Heap) (CX:Yw) (k:Nat) (f:Addr) (fd:FuncData) (ps:List Str) (sp:Sp):Prop where
 len:∀vs H Q E,sp vs H Q E->vs.length=ps.length
 run:∀(A:Around) (outer:List Env) (s:Shared) (H:Hp) (args:Args) (us:List Value) (vs:List V) (Q:VK) (E:XK),Room k A->Env0 P w K mg base A outer s H->BindsTo s fd args (ps.zip us)->Vals vs us->sp vs H Q E →
  codeAny (model P w) A (.call (.ref f) args) (CR CX outer P w H s Q E) s
theorem FnOk.imp {P:Program} {w:World} {K:W.Frag} {mg:Str->Option Value} {base:Heap} {CX:Yw} {k:Nat} {f:Addr} {fd:FuncData} {ps:List Str} {sp sp':Sp} (F:FnOk P w K mg base CX k f fd ps sp)
  (h:∀vs H Q E,sp' vs H Q E->sp vs H Q E):FnOk P w K mg base CX k f fd ps sp' :=
 ⟨fun vs H Q E q=>F.len vs H Q E (h _ _ _ _ q),fun A outer s H args us vs Q E hr he hb hv hs=>F.run A outer s H args us vs Q E hr he hb hv (h _ _ _ _ hs)⟩
theorem Env0.make {P:Program} {w:World} {K:W.Frag} {mg:Str->Option Value} {base:Heap} {A:Around} {outer:List Env} {s:Shared} {H:Hp} (e:Env0 P w K mg base A outer s H) (C:Addr) (us:List Value) (kw:List (Str×Value)) :
  Env0 P w K mg base (A.under (.builtin "type.__call__" ⟨.ref C::us,kw⟩)) outer s H:=⟨by first|exact e.frames|(simpa [Around.under,Code.envs,Code.isFrame,pushEnvs] using e.frames),e.mod,e.bs,e.bsz,e.funs,e.frf,e.hok,e.bare⟩
section
variable {X:Cx} {pins:List (Addr×Obj)} {σ:St} {H:Hp} {s s':Shared}
theorem Inv.env0 (I:Inv X pins σ H s):Env0 X.prog X.w X.K X.mg X.base X.A X.stack s H :=
 ⟨I.ok.frames,I.ok.mod,I.bs,Qn I.ok.bsz I.sz,I.stack,I.stkFree,I.hok,I.bare⟩
theorem Inv.after {Q:VK} {u:Value} (I:Inv X pins σ H s) (h:CE X.stack X.prog X.w H s Q u s'):EP X pins σ Q u s':=by
 obtain ⟨v,H',os,bare,un,hok,r,q⟩:=h;obtain ⟨hh,g,d,t,os'⟩:=s';obtain rfl:os'=s.os:=os;exact ⟨v,H',I.call (h':=hh) (g':=g) (d':=d) (t':=t) (ch:=[]) un hok bare (fun b z=>absurd z (by simp)),r,q⟩
end
def Binds (K:W.Frag) (fd:FuncData) (ps:List Str) (ds:List Value):Prop :=
 ∀(s:Shared) (us:List Value),K.In s.heap->(us++ds).length=ps.length->BindsTo s fd ⟨us,[]⟩ (ps.zip (us++ds))
theorem Binds.all {K:W.Frag} {fd:FuncData} {ps:List Str} (h:∀us:List Value,us.length=ps.length->bindArgs fd ⟨us,[]⟩=pure (ps.zip us)):Binds K fd ps []:=fun s us _ hl=>by
 rw [Qv] at hl ⊢;exact .of_eq (h us hl)
def ZeD (CX:Yw) (X:Cx) (E:XK):Prop:=∀(pins:List (Addr×Obj)) (σ:St) (H:Hp) (s:Shared) (e:Value) (s':Shared),Inv X pins σ H s->CX X.stack H s E e s'->X.xe e s'
section
variable {X:Cx} {CX:Yw} {k:Nat} {f C:Addr} {fd:FuncData} {ps:List Str} {sp:Sp} {dvs:List V} {ds:List Value} {E:XK} {x m:Str} {p pos apos:Pos} {e o:Expr} {es:List Expr} {ta:TE} {t:TA}
theorem Zla {pins:List (Addr×Obj)} {σ:St} {H:Hp} {s:Shared} {Q:VK} {us:List Value} {vs:List V} (F:FnOk X.prog X.w X.K X.mg X.base CX k f fd ps sp) (hr:Room k X.A) (hb:Binds X.K fd ps ds) (hd:Vals dvs ds) (hx:ZeD CX X E)
  (I:Inv X pins σ H s) (r:Vals vs us) (h:sp (vs++dvs) H Q E):wpAny (model X.prog X.w) X.A (call (.ref f) us) (EP X pins σ Q) X.xe s:=by
 have r2:Vals (vs++dvs) (us++ds):=r.append hd;have hl:(us++ds).length=ps.length:=by rw [←r2.length];exact F.len _ _ _ _ h
 refine RZ (RO (F.run X.A X.stack s H ⟨us,[]⟩ (us++ds) (vs++dvs) Q E hr I.env0 (hb s us I.kIn hl) r2 h) fun r s' hq=>?_);cases r with
 |error e=>exact hx pins σ H s e s' I hq
 |ok fl =>
  cases fl with
  |ret u=>exact I.after hq
  |next=>exact False.elim hq
  |brk=>exact False.elim hq
  |cont=>exact False.elim hq
structure Mk (K:W.Frag) (C f:Addr):Prop where
 makes:W.makesIn K C=true
 init:W.findIn K (.ref C) "__init__"=some (some (.ref f))
 fn:W.isFn K (.ref f)=true
 kp:W.keepIn K (.ref C)=true
end
section
variable {X:Cx} {CX:Yw} {k:Nat} {f C:Addr} {fd:FuncData} {ps ks:List Str} {sp:Sp} {E:XK} {x m:Str} {p pos apos kpos:Pos} {e o:Expr} {es:List Expr} {kws:List Keyword} {te ta:TE} {t tk:TA} {nm:Option Str}
variable {g:List Value->List Value->List Value} {gV:List V->List V->List V}
end
structure FnScope (N P:List Str) (sc:Scope):Prop where
 kind:sc.kind=.function
 co:sc.isCoroutine=false
 gen:sc.isGenerator=false
 nd:N.Nodup
 pre:N.take P.length=P
 par:∀x∈P,sc.names.lookup x=some .local∨sc.names.lookup x=some .cell
 nofree:∀y∈sc.names,y.2≠.free
theorem ZeM {kindOf:Str->Option NameKind} {x:Str}:∀{binds:List (Str×Value)} {m:Str->Option Value},(∀v,(x,v)∉binds)->bindL kindOf binds m x=m x
 |[],_,_=>rfl
 | (n,v)::r,m,h=>by
  unfold bindL;rw [ZeM fun w hw=>h w (QE _ hw)];split
  ·have:x≠n:=by rintro rfl;exact h v QD
   simp [this]
  ·rfl
theorem ZgN {kindOf:Str->Option NameKind} {x:Str}:∀{binds:List (Str×Value)} {m:Str->Option Value},(∀v,(x,v)∉binds)->bindC kindOf binds m x=m x
 |[],_,_=>rfl
 | (n,v)::r,m,h=>by
  unfold bindC;rw [ZgN fun w hw=>h w (QE _ hw)];split
  ·rfl
  ·have:x≠n:=by rintro rfl;exact h v QD
   simp [this]
theorem ZdP {kindOf:Str->Option NameKind} {x:Str} {v:Value}:∀{P:List Str} {vs:List Value} {i:Nat} {m:Str->Option Value},P.Nodup->P[i]?=some x->vs[i]?=some v->kindOf x=some .local →
  bindL kindOf (P.zip vs) m x=some v
 |[],_,_,_,_,h,_,_=>by simp at h
 |_::_,[],_,_,_,_,h,_=>by simp at h
 |p::P,w::vs,0,m,nd,h1,h2,hk=>by
  simp at h1 h2;subst h1;subst h2;show bindL kindOf ((p,w)::P.zip vs) m p=_;unfold bindL;rw [ZeM fun v hv=>(QR.mp nd).1 (Nc hv).1,Qc hk];simp
 |p::P,w::vs,i+1,m,nd,h1,h2,hk=>by
  show bindL kindOf ((p,w)::P.zip vs) m x=_;unfold bindL;exact ZdP (i:=i) (QR.mp nd).2 (by simpa using h1) (by simpa using h2) hk
theorem Zg9 {kindOf:Str->Option NameKind} {x:Str} {v:Value}:∀{P:List Str} {vs:List Value} {i:Nat} {m:Str->Option Value},P.Nodup->P[i]?=some x->vs[i]?=some v->kindOf x≠some .local →
  bindC kindOf (P.zip vs) m x=some v
 |[],_,_,_,_,h,_,_=>by simp at h
 |_::_,[],_,_,_,_,h,_=>by simp at h
 |p::P,w::vs,0,m,nd,h1,h2,hk=>by
  simp at h1 h2;subst h1;subst h2;show bindC kindOf ((p,w)::P.zip vs) m p=_;unfold bindC;rw [ZgN fun v hv=>(QR.mp nd).1 (Nc hv).1,Qa hk];simp
 |p::P,w::vs,i+1,m,nd,h1,h2,hk=>by
  show bindC kindOf ((p,w)::P.zip vs) m x=_;unfold bindC;exact Zg9 (i:=i) (QR.mp nd).2 (by simpa using h1) (by simpa using h2) hk
noncomputable def start (N:List Str) (vs:List V):St:=vs.map some++List.replicate (N.length-vs.length) none
noncomputable def WG (CX:Yw) (P:Program) (w:World) (K:W.Frag) (mg:Str->Option Value) (base:Heap) (N:List Str) (qual:Str) (scope:Scope) (f:Addr) (cd:Value) (A:Around) (outer:List Env) (s:Shared) (H:Hp) (E:XK):Cx where
 prog:=P
 w:=w
 K:=K
 mg:=mg
 base:=base
 A:=A.deeper (envOfC qual scope s.heap.objs.size f cd)
 N:=N
 s₀:=s
 H₀:=H
 env:=envOfC qual scope s.heap.objs.size f cd
 outer:=outer
 stack:=envOfC qual scope s.heap.objs.size f cd::outer
 ex:=[]
 calm:=true
 fn:=fun _=>true
 pn:=[]
 xe:=fun e s'=>wpAny (model P w) (A.deeper (envOfC qual scope s.heap.objs.size f cd)) (leaving (envOfC qual scope s.heap.objs.size f cd) e) (fun _ s''=>CX outer H s E e s'') (fun e' s''=>CX outer H s E e' s'') s'
theorem ZfY {sc:Scope} {n:Nat} {x:Str} (h:sc.names.lookup x=some .cell):∃c,(cellsFrom n sc.names []).lookup x=some c:=by
 have q:=W.cellsFrom_some sc.names n [] (.inl h);exact GD.mp q
theorem Zj4 {CX:Yw} {P:Program} {w:World} {K:W.Frag} {mg:Str->Option Value} {base:Heap} {N ps:List Str} {qual:Str} {scope:Scope} {f:Addr} {cd:Value} {A:Around} {outer:List Env} {s s1:Shared} {H:Hp} {E:XK} {us:List Value} {vs:List V}
  (S:FnScope N ps scope) (hd:A.handled=none) (e0:Env0 P w K mg base A outer s H) (hl:vs.length=ps.length) (r:Vals vs us)
  (x:InCallC s s.heap.objs.size (bindL (envOfC qual scope s.heap.objs.size f cd).kindOf (ps.zip us) fun _=>none) (cellsFrom (s.heap.objs.size+1) scope.names []) (bindC (envOfC qual scope s.heap.objs.size f cd).kindOf (ps.zip us) fun _=>none) s1) :
  Inv (WG CX P w K mg base N qual scope f cd A outer s H E) [] (start N vs) H s1:=by
 have hpl:ps.length≤N.length:=by have:=Qu List.length S.pre;rw [QW] at this;omega
 obtain ⟨h1,tk,rfl,hk⟩:=x.done;have noA:∀b:Addr,b∉(WG CX P w K mg base N qual scope f cd A outer s H E).ex:=fun b z=>absurd (show b∈([]:List Addr) from z) (by simp)
 refine ⟨⟨e0.mod,S.kind,rfl,rfl,Qf _,fun y z c h1 h2=>?_,fun y hy=>?_,fun y c _ h=>?_,fun _=>hd,Around.frames_deeper e0.frames,.inr ⟨rfl,rfl⟩,fun b z=>absurd z (noA b),e0.bs,e0.bsz,fun b _ _=>noA b,fun b z=>absurd z (noA b),e0.funs,e0.frf⟩,
  rfl,e0.bare,Un.kept hk,⟨_,x.toInCall.ns,fun i y v h1 h2 h3=>?_⟩,fun y c h=>⟨_,x.cell y c h⟩,e0.hok.fresh (Qf _),fun y c h=>?_,fun p hp=>absurd (show p∈([]:List (Addr×Obj)) from hp) (by simp),e0.hok.kept hk,?_⟩
 ·exact name_of_addr x.apart (RP h1) (RP h2)
 ·have hy:scope.names.lookup y=some .cell∨scope.names.lookup y=some .free:=hy;rcases hy with hy|hy
  ·exact ZfY hy
  ·exact absurd rfl (S.nofree _ (RP hy))
 ·exact Q1 (x.above y c (RP h))
 ·have hi:i<vs.length:=by
   unfold start at h2;by_cases hi:i<vs.length
   ·exact hi
   ·rw [RQ (by simpa using hi)] at h2;rw [List.getElem?_replicate] at h2;split at h2<;>cases h2
  have ha:vs[i]?=some v:=by
   unfold start at h2;rw [Ge (by simpa using hi),Qp] at h2;cases e:vs[i]? with
   |none=>rw [e] at h2;cases h2
   |some a=>rw [e] at h2;cases h2;rfl
  obtain ⟨u,hu,rv⟩:=r.get ha
  have hp:ps[i]?=some y:=by
   rw [←S.pre,NL (by omega)];exact h1
  have ndP:ps.Nodup:=by rw [←S.pre];exact S.nd.sublist (Gf _ _)
  refine ⟨u,rv,?_⟩;rcases S.par y (QB hp) with k|k
  ·exact .inl ⟨k,ZdP ndP hp hu k⟩
  ·obtain ⟨c,e⟩:=ZfY (n:=s.heap.objs.size+1) k;refine .inr ⟨.inl k,c,e,?_⟩;have q:=x.cell y c e;rw [Zg9 ndP hp hu (by show scope.names.lookup y≠_;rw [k];decide)] at q;exact q
 ·exact e0.hok.fresh (Q1 (x.above y c (RP h)))
 ·unfold start;show _=N.length;rw [Qw,Qd,List.length_replicate];omega
theorem Zdb {CX:Yw} {P:Program} {w:World} {K:W.Frag} {mg:Str->Option Value} {base:Heap} {k:Nat} {f:Addr} {name qual:Str} {params:Arguments} {body:List Stmt} {scope:Scope} {dV kV doc pm cdv ct oc:Value} {an od:Option Addr}
  {osl:Array (Option Value)} {N ps:List Str} {sp:Sp} (lk:K.lookup f=some ⟨oc,od,.func (W.fnOf name qual params body scope dV kV doc pm an cdv ct),osl⟩) (hcd:W.codeIn K cdv qual=true) (S:FnScope N ps scope)
  (len:∀vs H Q E,sp vs H Q E->vs.length=ps.length)
  (hbody:∀(A:Around) (outer:List Env) (s:Shared) (H:Hp) (vs:List V) (Q:VK) (E:XK),Room k (A.deeper (envOfC qual scope s.heap.objs.size f cdv))->sp vs H Q E →
   ∃t,PSs (WG CX P w K mg base N qual scope f cdv A outer s H E) body t∧t { nx:=fun _ H'=>Q .non H',rt:=Q } (start N vs) H) :
  FnOk P w K mg base CX (k+1) f (W.fnOf name qual params body scope dV kV doc pm an cdv ct) ps sp:=by
 refine ⟨len,fun A outer s H args us vs Q E hr e0 hb r hsp=>?_⟩;have hl:=len _ _ _ _ hsp;have KX:K.In s.heap:=e0.mod.kin.keeps fun b o e=>(e0.bs b o e).1;have lim:s.heap.NoLimit:=e0.mod.nolimit.keeps fun b o e=>(e0.bs b o e).1
 have hkind:∀y∈ps.zip us,scope.names.lookup y.1=some .local∨(scope.names.lookup y.1=some .cell∧((cellsFrom (s.heap.objs.size+1) scope.names []).lookup y.1).isSome=true):=fun ⟨n,v⟩ hy=>by
  rcases S.par n (Nc hy).1 with q|q
  ·exact .inl q
  ·exact .inr ⟨q,W.cellsFrom_some _ _ _ (.inl q)⟩
 refine codeAny_call_function hr.depth (KX _ _ lk) rfl S.co S.gen rfl (W.codeRec_of KX hcd) (hb _ _ _ _ ?_);refine wpAny_newFunctionEnv_cells S.kind hkind fun env he s1 x=>?_;subst he;refine ⟨lim.keeps x.toInCall.keep,codeAny_func ?_⟩;obtain ⟨t,ht,hq⟩:=hbody A outer s H vs Q E (hr.deeper _) hsp;have I:Inv (WG CX P w K mg base N qual scope f cdv A outer s H E) [] (start N vs) H s1:=Zj4 S hr.hd e0 hl r x;refine Ra (ht [] s1 (start N vs) H _ I hq) (fun fl s' hs=>?_) fun e s' hs=>hs
 have fin:∀{σ':St} {H':Hp} {v:V} {u:Value},Inv (WG CX P w K mg base N qual scope f cdv A outer s H E) [] σ' H' s'->RelV v u->Q v H'->CE outer P w H s Q u s' :=
  fun {σ' H' v u} J rv q=>⟨v,H',J.os,J.bare,J.base,J.hok,rv,q⟩
 cases fl with
 |ret u =>
  obtain ⟨v,σ',H',J,rv,q⟩:=hs;exact fin J rv q
 |next =>
  obtain ⟨σ',H',J,q⟩:=hs;exact fin (v:=V.non) (u:=Value.none) J rfl q
 |brk =>
  obtain ⟨_,_,_,q⟩:=hs;exact False.elim q
 |cont =>
  obtain ⟨_,_,_,q⟩:=hs;exact False.elim q
section
variable {X:Cx} {x:Str} {p pos:Pos} {e:Expr} {es:List Expr} {t:TA} {id T:String} {r:List V->Hp->VK->Prop}
def tCB (r:List V->Hp->VK->Prop) (t:TA):TE:=fun σ H Q=>t σ H fun vs H1=>r vs H1 Q
theorem ZO (hc:YG X (.builtin id) r) (hg:Gl X x) (hm:X.mg x=none) (hv:bootBuiltins x=some (.builtin id)) (ha:PA X (e::es) t) (hn:x≠"__name__":=by decide) (hdb:(x==("__debug__" : Str))=false:=by decide)
  (he:starEach (e::es) X.env=(false,eval e X.env)::starEach es X.env:=by rfl) (hpl:(backTo pos (starEach es X.env)).any (·.1)=false:=by rfl):PE X (.Call (.Name x p) (e::es) [] pos) (tCB r t):=by
 intro pins s σ H Q I h;refine Rv (Vr I hg hm hv ?_ hn hdb);exact PyProof.Rows.callWith_builtin1 (Zr (ha pos pins s σ H _ I h) fun us s1 ⟨vs,H1,I1,r1,q1⟩=>hc pins s1 σ H1 vs us Q I1 r1 q1) he hpl
theorem VM (hc:YG X (.type T) r) (hg:Gl X x) (hm:X.mg x=none) (hv:bootBuiltins x=some (.type T)) (ha:PA X (e::es) t) (hn:x≠"__name__":=by decide) (hdb:(x==("__debug__" : Str))=false:=by decide)
  (he:starEach (e::es) X.env=(false,eval e X.env)::starEach es X.env:=by rfl) (hpl:(backTo pos (starEach es X.env)).any (·.1)=false:=by rfl):PE X (.Call (.Name x p) (e::es) [] pos) (tCB r t):=by
 intro pins s σ H Q I h;refine Rv (Vr I hg hm hv ?_ hn hdb);exact Gc (Zr (ha pos pins s σ H _ I h) fun us s1 ⟨vs,H1,I1,r1,q1⟩=>hc pins s1 σ H1 vs us Q I1 r1 q1) he hpl
end
end L2
namespace HT
open PySem PyProof.Rows
section
open PySem.SeqAt
open PySem.AutoSeq1 (wpAny_loadPart')
open PySem.MeetsSeq PySem.MeetsSeq2 PySem.MeetsSeq3
end
section
variable {prog:Program} {w:World} {A:Around} {E:Value->Shared->Prop} {s:Shared}
theorem cat_tup {t b:Addr} {vs ws:List Value} {Q:Value->Shared->Prop} (ht:IsTup s.heap t vs.toArray) (hb:IsTup s.heap b ws.toArray) (hv:vs≠[])
  (h1:ws=[]->Q (.ref t) s) (h2:ws≠[]->Q (.ref s.heap.objs.size) { s with heap:=s.heap.push { cls:=.type "tuple",data:=.seq (vs++ws).toArray } })
  (hsz:vs.length+ws.length≤sizeLine):wpAny (model prog w) A (binaryOp .Add (.ref t) (.ref b)) Q E s:=by
 obtain ⟨⟨cls,dd,data,sl⟩,ho,hc,n,hd⟩:=id ht;obtain ⟨⟨cls2,dd2,data2,sl2⟩,ho2,hc2,n2,hd2⟩:=id hb;simp only at hc hd hc2 hd2;subst hc hd hc2 hd2;have e:vs.toArray++ws.toArray=(vs++ws).toArray:=by simp
 by_cases hw:ws=[]
 ·exact concat_meets ⟨_,ho,rfl⟩ ⟨_,ho2,rfl⟩ Nd seq_tuple_add Nf Ng (Nh _ _)
   (tuple_addW1 t b vs.toArray ws.toArray n n2 dd dd2 sl sl2 (by simpa using hv) (by simp [hw])) ⟨ho,ho2,h1 hw⟩
 ·refine concat_meets ⟨_,ho,rfl⟩ ⟨_,ho2,rfl⟩ Nd seq_tuple_add Nf Ng (Nh _ _)
   (tuple_addW2 t b vs.toArray ws.toArray n n2 dd dd2 sl sl2 (by simpa using hv) (by simpa using hw) (by rw [Qx,Qx];exact hsz)) ⟨ho,ho2,?_⟩
  rw [e];exact h2 hw
noncomputable def sIx (n d:Nat):Option Int->Nat
 |none=>d
 |some v=>if v<0 then (v+(n:Int)).toNat else min v.toNat n
theorem sIx_nat (n d k:Nat):sIx n d (some (k:Int))=min k n:=by
 show (if (k:Int)<0 then ((k:Int)+(n:Int)).toNat else min (k:Int).toNat n)=min k n;rw [Qa (by omega),RS]
theorem Zh3 (n d:Nat) (hd:d≤n) (o:Option Int):sIx n d o≤n:=by
 cases o with
 |none=>exact hd
 |some v =>
  show (if v<0 then (v+(n:Int)).toNat else min v.toNat n)≤n;by_cases hv:v<0
  ·rw [Qc hv];omega
  ·rw [Qa hv];exact Nat.min_le_right _ _
theorem Zga (v:Int) (n d:Nat):(if v<0 then max (v+(n:Int)) 0 else min v (n:Int))=((sIx n d (some v):Nat):Int):=by
 show (if v<0 then max (v+(n:Int)) 0 else min v (n:Int))=(((if v<0 then (v+(n:Int)).toNat else min v.toNat n):Nat):Int);by_cases hv:v<0
 ·simp only [Qc hv];omega
 ·simp only [Qa hv];omega
theorem ZiO (lo hi:Option Int) (n:Nat):Builtin.Slice.sliceAdjust lo hi 1 (n:Int)=(((sIx n 0 lo:Nat):Int),((sIx n n hi:Nat):Int)):=by
 have h1:¬((1:Int)<0):=by omega
 unfold Builtin.Slice.sliceAdjust;simp only [h1,QS];refine RK ?_ ?_
 ·cases lo with
  |none=>rfl
  |some v=>exact Zga v n 0
 ·cases hi with
  |none=>rfl
  |some v=>exact Zga v n n
theorem Zkv (i j:Nat):Builtin.Slice.slicePlaces (i:Int) (j:Int) 1=j-i:=by
 unfold Builtin.Slice.slicePlaces;have h1:(1:Int) > 0:=by omega
 simp only [h1,Q8,Int.ediv_one];split<;>omega
theorem ZgR {v:Value} {o:Option Int} {Q:Option Int->Shared->Prop} (p:IsPart v o) (h:Q o s):wpAny (model prog w) A (Builtin.Slice.slicePartIndex v) Q E s:=by
 cases p with
 |none=>exact slicePart_none h
 |int i t=>exact slicePart_int h
theorem Zj7 {sl:Addr} {vl vu:Value} {lo hi:Option Int} {n:Nat} {Q:Int×Int×Nat->Shared->Prop} (hs:s.heap.IsSliceOf sl vl vu .none) (pl:IsPart vl lo) (pu:IsPart vu hi)
  (h:Q (((sIx n 0 lo:Nat):Int),1,sIx n n hi-sIx n 0 lo) s):wpAny (model prog w) A (Builtin.Slice.sliceApplied (.ref sl) (pure (n:Int))) Q E s:=by
 obtain ⟨os,hos,hcs,hds⟩:=id hs;unfold Builtin.Slice.sliceApplied Builtin.Slice.sliceFields;refine Qb (Qb (QN hos hds (x:=vl) rfl (Qb (QN hos hds (x:=vu) rfl (Qb (QN hos hds (x:=.none) rfl (Qe ?_)))))));refine Qb (slicePart_none ?_);show wpAny _ _ (if ((1:Int)==0)=true then _ else _) _ _ s;rw [Qa (by decide)];refine Qb (ZgR pl (Qb (ZgR pu (Qb (Qe ?_)))));show wpAny _ _ (match Builtin.Slice.sliceAdjust lo hi 1 (n:Int) with|(lo,hi)=>pure (lo,(1:Int),Builtin.Slice.slicePlaces lo hi 1)) _ _ s;rw [ZiO lo hi n];show wpAny _ _ (pure (((sIx n 0 lo:Nat):Int),(1:Int),Builtin.Slice.slicePlaces ((sIx n 0 lo:Nat):Int) ((sIx n n hi:Nat):Int) 1)) _ _ s;rw [Zkv];exact Qe h
theorem ZlR (xs:Array Value) (i k:Nat):((List.range k).filterMap fun (m:Nat)=>xs[((i:Int)+(m:Int)*1).toNat]?).toArray=((xs.toList.drop i).take k).toArray:=by
 have e:(fun (m:Nat)=>xs[((i:Int)+(m:Int)*1).toNat]?)=fun m=>xs[i+m]?:=by
  funext m
  have:((i:Int)+(m:Int)*1).toNat=i+m:=by omega
  rw [this]
 rw [e];have:=pick_run xs i k;rw [Ni] at this;have e2:((fun x=>xs[x]?)∘fun x=>i+x)=fun m=>xs[i+m]?:=rfl;rw [e2] at this;rw [this]
theorem getItem_tuple_cut {t sl:Addr} {items:Array Value} {vl vu:Value} {lo hi:Option Int} {Q:Value->Shared->Prop} (ht:IsTup s.heap t items) (hs:s.heap.IsSliceOf sl vl vu .none) (pl:IsPart vl lo) (pu:IsPart vu hi)
  (hw:¬(sIx items.size 0 lo=0∧sIx items.size items.size hi=items.size))
  (h:Q (.ref s.heap.objs.size) { s with heap:=s.heap.push { cls:=.type "tuple",data:=.seq ((items.toList.drop (sIx items.size 0 lo)).take (sIx items.size items.size hi-sIx items.size 0 lo)).toArray } })
  (hsz:items.size≤sizeLine):wpAny (model prog w) A (getItem (.ref t) (.ref sl)) Q E s:=by
 have htake:sizeOk (.seq ((items.toList.drop (sIx items.size 0 lo)).take (sIx items.size items.size hi-sIx items.size 0 lo)).toArray):=by
  show ((items.toList.drop (sIx items.size 0 lo)).take (sIx items.size items.size hi-sIx items.size 0 lo)).toArray.size≤sizeLine;rw [Qx,QW,GE,RN];omega
 have hj:sIx items.size items.size hi≤items.size:=Zh3 _ _ (Qf _) hi;obtain ⟨os,hos,hcs,hds⟩:=id hs;have hTs:s.TypeIs (.ref sl) "slice":=⟨os,hos,hcs⟩;unfold getItem
 try with_reducible refine RT ?_
 first|refine Qb (Qe ?_)|skip
 refine Qb (wpAny_sequenceKey ht.typeIs (by decide) ?_)
 refine Qb (Rl (name:=Str.ofString "__getitem__") ht.typeIs Nj
  (Rb Nj ht.typeIs entry_tuple_getitem ?_ (args_tuple_getitem _ _)))
 show wpAny _ _ (Builtin.Tuple.tupleItemsOf (.ref t) >>= _) _ _ s;refine Qb (tupleItemsOf_ ht ?_);refine Qb (wpAny_typeOf hTs ?_);rw [Qc (by decide)];refine Qb (Zj7 hs pl pu ?_)
 have hno:¬((((sIx items.size 0 lo:Nat):Int)==0&&(1:Int)==1&&(sIx items.size items.size hi-sIx items.size 0 lo)==items.size)=true):=by
  intro q;rw [Rm,Rm] at q;have q1:((sIx items.size 0 lo:Nat):Int)=0:=eq_of_beq q.1.1;have q2:sIx items.size items.size hi-sIx items.size 0 lo=items.size:=eq_of_beq q.2;exact hw ⟨by omega,by omega⟩
 show wpAny _ _ (if (((sIx items.size 0 lo:Nat):Int)==0&&(1:Int)==1&&(sIx items.size items.size hi-sIx items.size 0 lo)==items.size)=true then _ else _) _ _ s;rw [Qa hno,ZlR]
 first
  |exact Qb (m:=Builtin.Tuple.tupleExact _) (Q3 (Qe ⟨_,rfl,Qe h⟩) htake)
  |exact Qb (m:=Builtin.Tuple.tupleExact _) (Q3 (Qb (Qe (Qe ⟨_,rfl,Qe h⟩))) htake)
  |exact Qb (Qb (m:=Builtin.Tuple.tupleExact _) (Q3 (Qe (Qe ⟨_,rfl,Qe h⟩)) htake))
  |exact Qb (Qb (m:=Builtin.Tuple.tupleExact _) (Q3 (Qe ⟨_,rfl,Qe h⟩) htake))
end
end HT
namespace L2
open PySem PySem.Spec PyProof.Rows
abbrev TO:=St->Hp->(Option Int->Hp->Prop)->Prop
def PO (X:Cx) (e:Option Expr) (t:TO):Prop :=
 ∀(pins:List (Addr×Obj)) (s:Shared) (σ:St) (H:Hp) (Q:Option Int->Hp->Prop),Inv X pins σ H s->t σ H Q →
  wpAny (model X.prog X.w) X.A (evalPart e X.env) (fun u s'=>∃o H',Inv X pins σ H' s'∧IsPart u o∧Q o H') X.xe s
def Je:TO:=fun _ H Q=>Q none H
def ZhW (t:TE):TO:=fun σ H Q=>t σ H fun x H1=>∃i,x=.int i∧Q (some i) H1
section
variable {X:Cx} {e:Expr} {te:TE} {lo hi:Option Expr} {tl th:TO} {pos p2:Pos}
theorem WC:PO X none Je:=by
 intro pins s σ H Q I h;rw [evalPart_none];exact Qe ⟨none,H,I,.none,h⟩
theorem X5 (h:PE X e te):PO X (some e) (ZhW te):=by
 intro pins s σ H Q I hw;rw [evalPart_some];refine Zr (h pins s σ H _ I hw) fun u s1 ⟨x,H1,I1,r1,q1⟩=>?_;obtain ⟨i,rfl,q⟩:=q1;obtain ⟨t,rfl⟩:=r1;exact ⟨some i,H1,I1,.int i t,q⟩
def SlR (X:Cx) (r:V->Option Int->Option Int->Hp->VK->Prop):Prop :=
 ∀(pins:List (Addr×Obj)) (s:Shared) (σ:St) (H:Hp) (x:V) (v vl vu:Value) (lo hi:Option Int) (sl:Addr) (Q:VK),Inv X pins σ H s->RelV x v->s.heap.IsSliceOf sl vl vu .none->IsPart vl lo->IsPart vu hi->r x lo hi H Q →
  ∃T id,typeLookup (.type T) "__getitem__"=pure (some (.builtin id))∧s.TypeIs v T∧wpAny (model X.prog X.w) X.A (getItem v (.ref sl)) (EP X pins σ Q) X.xe s
def tSl (r:V->Option Int->Option Int->Hp->VK->Prop) (te:TE) (tl th:TO):TE:=fun σ H Q=>te σ H fun x H1=>tl σ H1 fun l H2=>th σ H2 fun u H3=>r x l u H3 Q
theorem Wg {r:V->Option Int->Option Int->Hp->VK->Prop} (hr:SlR X r) (he:PE X e te) (hl:PO X lo tl) (hu:PO X hi th):PE X (.Subscript e (.Slice lo hi none p2) pos) (tSl r te tl th):=by
 intro pins s σ H Q I h;refine Subscript_ (Zr (he pins s σ H _ I h) fun v s1 ⟨x,H1,I1,r1,q1⟩=>?_);refine wpAny_Slice (Zr (hl pins s1 σ H1 _ I1 q1) fun vl s2 ⟨l,H2,I2,pl,q2⟩=>Zr (hu pins s2 σ H2 _ I2 q2) fun vu s3 ⟨u,H3,I3,pu,q3⟩=>?_);rw [evalPart_none];refine Qe ?_;have I4:Inv X pins σ H3 { s3 with heap:=s3.heap.push { cls:=.type "slice",data:=.fields #[vl,vu,.none] } }:=I3.kept (t':=s3.toks) fun b ob q=>Qi _ q;obtain ⟨T,id,hT,ht,hg⟩:=hr pins { s3 with heap:=s3.heap.push { cls:=.type "slice",data:=.fields #[vl,vu,.none] } } σ H3 x v vl vu l u s3.heap.objs.size Q I4 r1 (Heap.IsSliceOf.new ..) pl pu q3;show wpAny (model X.prog X.w) X.A (subscriptTail e (.Slice lo hi none p2) v (.ref s3.heap.objs.size)) (EP X pins σ Q) X.xe { s3 with heap:=s3.heap.push { cls:=.type "slice",data:=.fields #[vl,vu,.none] } };exact tail_any (ops:=[.ref s3.heap.objs.size,v]) ht hT hg (by with_unfolding_all rfl)
noncomputable def Xm (xs:List V) (lo hi:Option Int):List V:=(xs.drop (HT.sIx xs.length 0 lo)).take (HT.sIx xs.length xs.length hi-HT.sIx xs.length 0 lo)
theorem Zgk (xs:List V) (lo hi:Option Int):(Xm xs lo hi).length≤xs.length:=by
 unfold Xm;rw [QW,GE];omega
def ZeR (K:W.Frag):V->Option Int->Option Int->Hp->VK->Prop:=fun x lo hi H Q=>∃a xs,x=.ref a∧SqT K H a xs ∧
 ¬(HT.sIx xs.length 0 lo=0∧HT.sIx xs.length xs.length hi=xs.length)∧∀p,H p=none->Q (.ref p) (Zb H p (.tup (Xm xs lo hi)))
theorem Zav:SlR X (ZeR X.K):=by
 intro pins s σ H x v vl vu lo hi sl Q I rx hs pl pu h;obtain ⟨a,xs,rfl,hx,hw,q⟩:=h;cases rx;obtain ⟨its,r,ht,hz⟩:=I.tuple hx;have hlen:its.toArray.size=xs.length:=by rw [Qx];exact r.length.symm
 refine ⟨"tuple",_,Nj.lookup,ht.typeIs,?_⟩;refine HT.getItem_tuple_cut ht hs pl pu (by rw [hlen];exact hw) ?_ (by rw [hlen];exact hz);rw [hlen];refine ⟨.ref s.heap.objs.size,_,I.laid (t':=s.toks) (o:=.tup (Xm xs lo hi)) (fun b ob q=>Qi _ q) (Qf _) ?_,rfl,q _ (I.hok.fresh (Qf _))⟩;exact ⟨Qn (Zgk xs lo hi) hz,_,(r.drop (HT.sIx xs.length 0 lo)).take (HT.sIx xs.length xs.length hi-HT.sIx xs.length 0 lo),IsTup.new _ _⟩
def Zkc (K:W.Frag):R2:=fun x y H Q=>∃a b xs ys,x=.ref a∧y=.ref b∧SqT K H a xs∧SqT K H b ys∧xs≠[]∧xs.length+ys.length≤sizeLine ∧
 (ys=[]->Q (.ref a) H)∧(ys≠[]->∀p,H p=none->Q (.ref p) (Zb H p (.tup (xs++ys))))
theorem Vals.nil_iff {xs:List V} {us:List Value} (r:Vals xs us):us=[]↔xs=[]:=by
 cases r with
 |nil=>simp
 |cons _ _=>simp
theorem Zd9:Yg X (binaryOp .Add) (Zkc X.K):=by
 intro pins s σ H x y v u Q I rx ry h;obtain ⟨a,b,xs,ys,rfl,rfl,ha,hb,hx,hz,q1,q2⟩:=h;cases rx;cases ry;obtain ⟨its,r1,p1,_⟩:=I.tuple ha;obtain ⟨its2,r2,p2,_⟩:=I.tuple hb;refine HT.cat_tup p1 p2 (fun z=>hx (r1.nil_iff.mp z)) (fun z=>⟨.ref a,H,I,rfl,q1 (r2.nil_iff.mp z)⟩) (fun z=>?_) (by rw [←r1.length,←r2.length];exact hz);refine ⟨.ref s.heap.objs.size,_,I.laid (t':=s.toks) (o:=.tup (xs++ys)) (fun b ob q=>Qi _ q) (Qf _) ?_,rfl,q2 (fun w=>z (r2.nil_iff.mpr w)) _ (I.hok.fresh (Qf _))⟩;exact ⟨by rw [Qw];exact hz,_,r1.append r2,IsTup.new _ _⟩
end
noncomputable def Vi (n:Nat) (i:Int):Option Nat:=if 0≤i then (if i<n then some i.toNat else none) else if -(n:Int)≤i then some (i+n).toNat else none
noncomputable def Yi {α:Type} (xs:List α) (i:Int):Option α:=(Vi xs.length i).bind fun j=>xs[j]?
theorem ZkB {n:Nat} {i:Int} {j:Nat} (h:Vi n i=some j):seqIndex? i n=some j∧j<n∧-(n:Int)≤i∧i<n:=by
 unfold Vi at h;by_cases h0:0≤i
 ·rw [Qc h0] at h;by_cases h1:i<n
  ·rw [Qc h1] at h;have e:i.toNat=j:=Ql h;exact ⟨by rw [seqIndex_of h0 h1,e],by omega,by omega,h1⟩
  ·rw [Qa h1] at h;cases h
 ·rw [Qa h0] at h;by_cases h1:-(n:Int)≤i
  ·rw [Qc h1] at h;have e:(i+n).toNat=j:=Ql h;exact ⟨by rw [seqIndex_neg (by omega) h1,e],by omega,h1,by omega⟩
  ·rw [Qa h1] at h;cases h
theorem Zcy {α:Type} {xs:List α} {i:Int} {v:α} (h:Yi xs i=some v):∃j,seqIndex? i xs.length=some j∧xs[j]?=some v∧j<xs.length∧-(xs.length:Int)≤i∧i<xs.length:=by
 unfold Yi at h;cases e:Vi xs.length i with
 |none=>rw [e] at h;cases h
 |some j =>
  rw [e] at h;obtain ⟨h1,h2,h3,h4⟩:=ZkB e;exact ⟨j,h1,h,h2,h3,h4⟩
theorem Xq {α:Type} {xs:List α} {j:Nat} {v:α} (h:xs[j]?=some v):Yi xs (j:Int)=some v:=by
 have hj:j<xs.length:=(QJ.mp h).1
 have e:Vi xs.length (j:Int)=some j:=by
  unfold Vi;rw [Qc (by omega),Qc (by omega)];simp
 unfold Yi;rw [e];exact h
theorem Ziu {α:Type} (xs:List α) (v:α):Yi (xs++[v]) (-1)=some v:=by
 have hl:(xs++[v]).length=xs.length+1:=by simp
 have e:Vi (xs++[v]).length (-1)=some xs.length:=by
  unfold Vi;rw [hl,Qa (by decide),Qc (by omega)]
  congr 1
  omega
 unfold Yi;rw [e];show (xs++[v])[xs.length]?=some v;simp
def ZjE (b:Expr):Prop:=∀o i,subscripted b false o i=operate [o,i] (getItem o i)
def Uv (X:Cx) (r:R2):Prop :=
 ∀(value slice:Expr) (pins:List (Addr×Obj)) (s:Shared) (σ:St) (H:Hp) (x y:V) (v u:Value) (Q:VK),Inv X pins σ H s->RelV x v->RelV y u->r x y H Q →
  subscripted slice false v u=operate [v,u] (getItem v u)->wpAny (model X.prog X.w) X.A (subscriptTail value slice v u) (EP X pins σ Q) X.xe s
def V9 (X:Cx) (id:String) (r:V->List V->Hp->VK->Prop):Prop :=
 ∀(pins:List (Addr×Obj)) (s:Shared) (σ:St) (H:Hp) (x:V) (xs:List V) (v:Value) (us:List Value) (Q:VK),Inv X pins σ H s->RelV x v->Vals xs us->r x xs H Q →
  wpAny (model X.prog X.w) X.A (call (.builtin id) (v::us)) (EP X pins σ Q) X.xe s
section
variable {X:Cx} {a b:Expr} {ta tb:TE} {pos:Pos}
theorem Zl {r:R2} (hr:Uv X r) (ha:PE X a ta) (hb:PE X b tb) (hs:ZjE b):PE X (.Subscript a b pos) (J7 r ta tb):=by
 intro pins s σ H Q I h;exact Subscript_ (ZbH ha hb I h fun v u s2 x y H2 I2 rx ry q=>hr a b pins s2 σ H2 x y v u Q I2 rx ry q (hs _ _))
def ZdQ (K:W.Frag):R2:=fun x y H Q=>∃p xs i v,x=.ref p∧y=.int i∧SqL K H p xs∧Yi xs i=some v∧Q v H
def Zeh (K:W.Frag):R2:=fun x y H Q=>∃p xs i v,x=.ref p∧y=.int i∧SqT K H p xs∧Yi xs i=some v∧Q v H
def Zn7:R2:=fun x y H Q=>∃z i c,x=.str z∧y=.int i∧z.length≤sizeLine∧Yi z.cps.toList i=some c∧Q (.str ⟨#[c]⟩) H
theorem Ym:Uv X (ZdQ X.K):=by
 intro value slice pins s σ H x y v u Q I rx ry h hs;obtain ⟨p,xs,i,z,rfl,rfl,hq,he,q⟩:=h;cases rx;obtain ⟨t,rfl⟩:=ry;obtain ⟨its,r,pl,hz⟩:=I.list hq;obtain ⟨j,h1,h2,h3,h4,h5⟩:=Zcy he;obtain ⟨w,ew,rw'⟩:=r.get h2;have hl:=r.length;have hn:=U3;have fin:EP X pins σ Q w s:=⟨z,H,I,rw',q⟩;by_cases h0:0≤i
 ·have hj:i.toNat=j:=by
   rw [seqIndex_of h0 h5] at h1;exact Ql h1
  exact item_listR pl.isList h0 (by omega) (by rw [hj];simpa using ew) fin hs
 ·have hj:(i+(its.toArray.size:Int)).toNat=j:=by
   rw [seqIndex_neg (by omega) h4] at h1;rw [Qx,←hl];exact Ql h1
  exact subscriptTail_builtinR (x:=w) pl.isList.typeIs slot_list_getitem.lookup
   (wpAny_getItem_list_neg (Q:=fun r s'=>r=w∧EP X pins σ Q r s') pl.isList (by omega) (by rw [Qx]<;>omega) (by omega) (by rw [hj];simpa using ew) ⟨rfl,fin⟩) hs
theorem Zp:Uv X (Zeh X.K):=by
 intro value slice pins s σ H x y v u Q I rx ry h hs;obtain ⟨p,xs,i,z,rfl,rfl,hq,he,q⟩:=h;cases rx;obtain ⟨t,rfl⟩:=ry;obtain ⟨its,r,pl,hz⟩:=I.tuple hq;obtain ⟨j,h1,h2,h3,h4,h5⟩:=Zcy he;obtain ⟨w,ew,rw'⟩:=r.get h2;have hl:=r.length;have hn:=U3;have fin:EP X pins σ Q w s:=⟨z,H,I,rw',q⟩
 exact subscriptTail_builtinR (x:=w) pl.typeIs slot_tuple_getitem.lookup
  (getItem_tuple (j:=j) (Q:=fun r s'=>r=w∧EP X pins σ Q r s') pl (by omega) (by omega) (by rw [Qx,←hl];exact h1) (by simpa using ew) ⟨rfl,fin⟩) hs
theorem ZjX:Uv X Zn7:=by
 intro value slice pins s σ H x y v u Q I rx ry h hs;obtain ⟨z,i,c,rfl,rfl,hz,he,q⟩:=h;obtain ⟨t,rfl⟩:=rx;obtain ⟨t',rfl⟩:=ry;obtain ⟨j,h1,h2,h3,h4,h5⟩:=Zcy he;have hl:z.cps.toList.length=z.length:=by simp [Str.length]
 rw [hl] at h1 h4 h5;have hn:=U3
 exact tail_any (R0 s z t) slot_str_getitem.lookup (getItem_str (c:=c) (by
  have e1:decide (i< -(2 ^ 63:Int))=false:=Qk (by omega);have e2:decide (i ≥ 2 ^ 63)=false:=Qk (by omega);rw [e1,e2,Bool.or_false]) (by rw [h1];simpa using h2) ⟨.str ⟨#[c]⟩,H,I.tok _,⟨_,rfl⟩,q⟩) hs
theorem Zm4 (lo hi:Option Int) (n:Nat):(sliceBounds lo hi none n).1=((HT.sIx n 0 lo:Nat):Int)∧(sliceBounds lo hi none n).2.1=((HT.sIx n n hi:Nat):Int)∧(sliceBounds lo hi none n).2.2=1:=by
 refine ⟨?_,?_,rfl⟩
 ·cases lo with
  |none=>simp [sliceBounds,HT.sIx]
  |some i =>
   simp only [sliceBounds,HT.sIx,Option.getD_none,show (1:Int) > 0 by decide,Q8];by_cases h:i<0
   ·simp only [h,Q8]<;>omega
   ·simp only [h,QS]<;>omega
 ·cases hi with
  |none=>simp [sliceBounds,HT.sIx]
  |some i =>
   simp only [sliceBounds,HT.sIx,Option.getD_none,show (1:Int) > 0 by decide,Q8];by_cases h:i<0
   ·simp only [h,Q8]<;>omega
   ·simp only [h,QS]<;>omega
theorem ZjL (its:List Value) (lo hi:Option Int):slicePick its.toArray lo hi none=((its.drop (HT.sIx its.length 0 lo)).take (HT.sIx its.length its.length hi-HT.sIx its.length 0 lo)).toArray:=by
 obtain ⟨h1,h2,h3⟩:=Zm4 lo hi its.toArray.size;unfold slicePick;rw [h1,h2,h3];simp only [sliceRange_one,pick_run,Qx]<;>rfl
def ZkT (K:W.Frag):V->Option Int->Option Int->Hp->VK->Prop:=fun x lo hi H Q=>∃a xs,x=.ref a∧SqL K H a xs∧∀p,H p=none->Q (.ref p) (Zb H p (.lst (Xm xs lo hi)))
theorem V8:SlR X (ZkT X.K):=by
 intro pins s σ H x v vl vu lo hi sl Q I rx hs pl pu h;obtain ⟨a,xs,rfl,hx,q⟩:=h;cases rx;obtain ⟨its,r,ht,hz⟩:=I.list hx;have hlen:=r.length;refine ⟨"list",_,slot_list_getitem.lookup,ht.isList.typeIs,?_⟩;refine wpAny_getItem_list_slice ht.isList hs pl pu .none (by simp) ?_ (by rw [Qx]<;>omega);rw [ZjL,←hlen];refine ⟨.ref s.heap.objs.size,_,I.laid (t':=s.toks) (o:=.lst (Xm xs lo hi)) (fun b ob q=>Qi _ q) (Qf _) ?_,rfl,q _ (I.hok.fresh (Qf _))⟩;exact ⟨Qn (Zgk xs lo hi) hz,_,0,(r.drop (HT.sIx xs.length 0 lo)).take (HT.sIx xs.length xs.length hi-HT.sIx xs.length 0 lo),Qs _ rfl⟩
noncomputable def WU:V->Bool
 |.non=>true
 |.bl _=>true
 |.int _=>true
 |.str _=>true
 |_=>false
noncomputable def Xi:V->V->Bool
 |.non,.non=>true
 |.bl a,.bl b=>a==b
 |.bl a,.int b=>(if a then 1 else 0)==b
 |.int a,.bl b=>a==(if b then 1 else 0)
 |.int a,.int b=>a==b
 |.str a,.str b=>a==b
 |_,_=>false
theorem Zg0 {A:Around} {s:Shared} {y x:V} {u v:Value} (ry:RelV y u) (rx:RelV x v) (fy:WU y=true) (fx:WU x=true):SeqAt.EqAt A s u v (Xi y x):=by
 cases y with
 |non =>
  cases ry;cases x with
  |non=>cases rx;exact SeqAt.EqAt.same _
  |bl b=>cases rx;exact SeqAt.EqAt.none_bool b
  |int b=>obtain ⟨t,rfl⟩:=rx;exact SeqAt.EqAt.none_int b t
  |str b=>obtain ⟨t,rfl⟩:=rx;exact SeqAt.EqAt.none_str b t
  |_=>exact absurd (show false=true from fx) QA
 |bl a =>
  cases ry;cases x with
  |non=>cases rx;exact SeqAt.EqAt.bool_none a
  |bl b=>cases rx;exact SeqAt.EqAt.bool_bool a b
  |int b=>obtain ⟨t,rfl⟩:=rx;exact SeqAt.EqAt.bool_int a b t
  |str b=>obtain ⟨t,rfl⟩:=rx;exact SeqAt.EqAt.bool_str a b t
  |_=>exact absurd (show false=true from fx) QA
 |int a =>
  obtain ⟨t',rfl⟩:=ry;cases x with
  |non=>cases rx;exact SeqAt.EqAt.int_none a t'
  |bl b=>cases rx;exact SeqAt.EqAt.int_bool a t' b
  |int b=>obtain ⟨t,rfl⟩:=rx;exact SeqAt.EqAt.int_int a t' b t
  |str b=>obtain ⟨t,rfl⟩:=rx;exact SeqAt.EqAt.int_str a t' b t
  |_=>exact absurd (show false=true from fx) QA
 |str a =>
  obtain ⟨t',rfl⟩:=ry;cases x with
  |non=>cases rx;exact SeqAt.EqAt.str_none a t'
  |bl b=>cases rx;exact SeqAt.EqAt.str_bool a t' b
  |int b=>obtain ⟨t,rfl⟩:=rx;exact SeqAt.EqAt.str_int a t' b t
  |str b=>obtain ⟨t,rfl⟩:=rx;exact SeqAt.EqAt.str_str a t' b t
  |_=>exact absurd (show false=true from fx) QA
 |_=>exact absurd (show false=true from fy) QA
noncomputable def Xe (x:V) (u:Value):Bool:=match u with
 |.none=>Xi .non x
 |.bool b=>Xi (.bl b) x
 |.int i _=>Xi (.int i) x
 |.str z _=>Xi (.str z) x
 |_=>false
theorem ZfI {x y:V} {u:Value} (r:RelV y u) (f:WU y=true):Xe x u=Xi y x:=by
 cases y with
 |non=>cases r;rfl
 |bl b=>cases r;rfl
 |int i=>obtain ⟨t,rfl⟩:=r;rfl
 |str z=>obtain ⟨t,rfl⟩:=r;rfl
 |_=>exact absurd (show false=true from f) QA
theorem JG {x:V}:∀{xs:List V} {us:List Value},Vals xs us->xs.all WU=true->us.any (Xe x)=xs.any fun y=>Xi y x
 |_,_,.nil,_=>rfl
 |y::xs,u::us,.cons r t,f=>by
  rw [GF,Rm] at f;rw [Rh,Rh,ZfI r f.1,JG t f.2]
theorem JH {A:Around} {s:Shared} {x:V} {v:Value} (rx:RelV x v) (fx:WU x=true):∀{xs:List V} {us:List Value},Vals xs us->xs.all WU=true->∀u∈us,SeqAt.EqAt A s u v (Xe x u)
 |_,_,.nil,_=>fun u hu=>by cases hu
 |y::xs,u::us,.cons r t,f=>fun u' hu=>by
  rw [GF,Rm] at f;rcases Qh.mp hu with rfl|hu
  ·rw [ZfI r f.1];exact Zg0 r rx f.1 fx
  ·exact JH rx fx t f.2 u' hu
noncomputable def XX (x:V) (xs:List V):Bool:=xs.any fun y=>Xi y x
def rIn (K:W.Frag) (neg:Bool):R2:=fun x y H Q=>∃p xs,y=.ref p∧(SqL K H p xs∨SqT K H p xs)∧WU x=true∧xs.all WU=true∧Q (.bl (if neg then !XX x xs else XX x xs)) H
theorem U7:Yg X (compareOp .In) (rIn X.K false):=by
 intro pins s σ H x y v u Q I rx ry h;obtain ⟨p,xs,rfl,hq,fx,fs,q⟩:=h;cases ry;rcases hq with hq|hq
 ·obtain ⟨its,r,pl,hz⟩:=I.list hq;refine SeqAt.in_listAt (Xe x) pl.isList (fun w hw=>JH rx fx r fs w (by simpa using hw)) ⟨.bl _,H,I,rfl,?_⟩;rw [show its.toArray.any (Xe x)=its.any (Xe x) by simp,JG r fs];exact q
 ·obtain ⟨its,r,pl,hz⟩:=I.tuple hq;refine SeqAt.in_tupleAt (Xe x) pl (fun w hw=>JH rx fx r fs w (by simpa using hw)) ⟨.bl _,H,I,rfl,?_⟩;rw [show its.toArray.any (Xe x)=its.any (Xe x) by simp,JG r fs];exact q
theorem Zjz:Yg X (compareOp .NotIn) (rIn X.K true):=by
 intro pins s σ H x y v u Q I rx ry h;obtain ⟨p,xs,rfl,hq,fx,fs,q⟩:=h;cases ry;rcases hq with hq|hq
 ·obtain ⟨its,r,pl,hz⟩:=I.list hq;refine SeqAt.notIn_listAt (Xe x) pl.isList (fun w hw=>JH rx fx r fs w (by simpa using hw)) ⟨.bl _,H,I,rfl,?_⟩;rw [show its.toArray.any (Xe x)=its.any (Xe x) by simp,JG r fs];exact q
 ·obtain ⟨its,r,pl,hz⟩:=I.tuple hq;refine SeqAt.notIn_tupleAt (Xe x) pl (fun w hw=>JH rx fx r fs w (by simpa using hw)) ⟨.bl _,H,I,rfl,?_⟩;rw [show its.toArray.any (Xe x)=its.any (Xe x) by simp,JG r fs];exact q
theorem Yy:YG X (.builtin "len") (fun xs H Q=>∃p ys,xs=[.ref p]∧(SqL X.K H p ys∨SqT X.K H p ys)∧Q (.int ys.length) H):=by
 intro pins s σ H xs us Q I r h;obtain ⟨p,ys,rfl,hq,q⟩:=h;obtain ⟨u,rfl,rx⟩:=Xa r;cases rx;have hn:=U3;rcases hq with hq|hq
 ·obtain ⟨its,r',pl,hz⟩:=I.list hq;have hlen:=r'.length;exact Calls.call_len_list pl.isList (by simp only [Qx]<;>omega) ⟨.int ys.length,H,I.tok _,⟨s.toks+1,by rw [Qx,hlen]⟩,q⟩
 ·obtain ⟨its,r',pl,hz⟩:=I.tuple hq;have hlen:=r'.length;exact len_tuple pl (by simp only [Qx]<;>omega) ⟨.int ys.length,H,I.tok _,⟨s.toks+1,by rw [Qx,hlen]⟩,q⟩
theorem ZgL:YG X (.builtin "len") (fun xs H Q=>∃z,xs=[.str z]∧z.length≤sizeLine∧Q (.int z.length) H):=by
 intro pins s σ H xs us Q I r h;obtain ⟨z,rfl,hz,q⟩:=h;obtain ⟨u,rfl,t,rfl⟩:=Xa r;have hn:=U3;exact len_str (by omega) ⟨.int z.length,H,I.tok _,⟨_,rfl⟩,q⟩
theorem Zep:YG X (.type "list") (fun xs H Q=>∃p ys,xs=[.ref p]∧(SqL X.K H p ys∨SqT X.K H p ys)∧∀l,H l=none->Q (.ref l) (Zb H l (.lst ys))):=by
 intro pins s σ H xs us Q I r h;obtain ⟨p,ys,rfl,hq,q⟩:=h;obtain ⟨u,rfl,rx⟩:=Xa r;cases rx
 have fin : ∀(its : List Value), Vals ys its → ys.length ≤ sizeLine → ∀(h' : Heap) (c' : Nat), (∀b o', s.heap.get? b=some o' → h'.get? b=some o') →
   h'.get? s.heap.objs.size=some { cls:=.type "list",dict:=none,data:=.seq its.toArray c',slots:=#[] }->EP X pins σ Q (.ref s.heap.objs.size) { s with heap:=h' }:=fun its r' hz h' c' kp e =>
  ⟨.ref s.heap.objs.size,_,I.laid (t':=s.toks) kp (Qf _) (show ObjOk X.prog X.w _ h' _ (.lst ys) from ⟨hz,its,c',r',e⟩),rfl,q _ (I.hok.fresh (Qf _))⟩
 rcases hq with hq|hq
 ·obtain ⟨its,r',pl,hz⟩:=I.list hq;have hlen:=r'.length;obtain ⟨o,ho,hc,n,hd⟩:=pl.isList;exact call_list_seq p (.inl rfl) ho hc hd (fun h' c' kp e=>fin its r' hz h' c' kp e) (by simp only [Qx]<;>omega)
 ·obtain ⟨its,r',pl,hz⟩:=I.tuple hq;have hlen:=r'.length;obtain ⟨o,ho,hc,n,hd⟩:=pl;exact call_list_seq p (.inr rfl) ho hc hd (fun h' c' kp e=>fin its r' hz h' c' kp e) (by simp only [Qx]<;>omega)
theorem ZeJ:YG X (.type "tuple") (fun xs H Q=>∃p ys,xs=[.ref p]∧((SqL X.K H p ys∧∀l,H l=none->Q (.ref l) (Zb H l (.tup ys)))∨(SqT X.K H p ys∧Q (.ref p) H))):=by
 intro pins s σ H xs us Q I r h;obtain ⟨p,ys,rfl,h⟩:=h;obtain ⟨u,rfl,rx⟩:=Xa r;cases rx;rcases h with ⟨hq,q⟩|⟨hq,q⟩
 ·obtain ⟨its,r',pl,hz⟩:=I.list hq;have hlen:=r'.length;refine call_tuple_list pl.isList (fun h' kp=>?_) (by simp only [Qx]<;>omega);have I1:Inv X pins σ H { s with heap:=h' }:=I.kept (t':=s.toks) kp
  have I2:Inv X pins σ (Zb H h'.objs.size (.tup ys)) { s with heap:=h'.push { cls:=.type "tuple",data:=.seq its.toArray } } :=
   I1.laid (t':=s.toks) (fun b o e=>Qi _ e) (Qf _) (show ObjOk X.prog X.w _ _ _ (.tup ys) from ⟨hz,its,r',IsTup.new _ _⟩)
  exact ⟨.ref h'.objs.size,_,I2,rfl,q _ (I1.hok.fresh (Qf _))⟩
 ·obtain ⟨its,r',pl,hz⟩:=I.tuple hq;exact call_tuple_same pl ⟨.ref p,H,I,rfl,q⟩
def tyV (K:W.Frag) (T:String) (x:V) (H:Hp):Prop:=match x with
 |.str _=>T="str"
 |.int _=>T="int"
 |.ref p => (T="list" ∧ ∃xs, SqL K H p xs) ∨ (T="tuple" ∧ ∃o, K.lookup p=some o ∧ o.cls=.type "tuple" ∧ o.dict=none) ∨
   (T="dict"∧((∃kvs,H p=some (.dK kvs))∨∃kvs,H p=some (.dT kvs)))∨(T="set"∧∃S n,H p=some (.set S n))
 |_=>False
theorem ZgV {pins:List (Addr×Obj)} {σ:St} {H:Hp} {s:Shared} {T:String} {x:V} {v:Value} (I:Inv X pins σ H s) (r:RelV x v) (ty:tyV X.K T x H) :
  s.TypeIs v T∧∀a,v=.ref a->∃ob,s.heap.get? a=some ob∧ob.dict=none:=by
 cases x with
 |str z =>
  obtain ⟨t,rfl⟩:=r;cases (show T="str" from ty);exact ⟨R0 s z t,fun _ e=>nomatch e⟩
 |int i =>
  obtain ⟨t,rfl⟩:=r;cases (show T="int" from ty);exact ⟨typeIs_int s i t,fun _ e=>nomatch e⟩
 |ref p =>
  cases r;rcases ty with ⟨rfl,xs,hq⟩|⟨rfl,o,hk,hc,hd⟩|⟨rfl,hk⟩|⟨rfl,S,n,hk⟩
  ·obtain ⟨its,_,pl,_⟩:=I.list hq;refine ⟨pl.isList.typeIs,fun a e=>?_⟩;cases e;obtain ⟨o,n,e,c,hd,_⟩:=pl;exact ⟨o,e,hd⟩
  ·refine ⟨⟨o,I.kIn p o hk,hc⟩,fun a e=>?_⟩;cases e;exact ⟨o,I.kIn _ o hk,hd⟩
  ·have z:∃o,s.heap.get? p=some o∧o.ExactDict:=by
    rcases hk with ⟨kvs,hk⟩|⟨kvs,hk⟩
    ·obtain ⟨_,_,_,_,o,_,_,e,ex,_⟩:=I.hok p _ hk;exact ⟨o,e,ex⟩
    ·obtain ⟨_,_,_,_,o,_,_,e,ex,_⟩:=I.hok p _ hk;exact ⟨o,e,ex⟩
   obtain ⟨o,e,ex⟩:=z;refine ⟨⟨o,e,ex.1⟩,fun a e2=>?_⟩;cases e2;exact ⟨o,e,ex.2.1⟩
  ·obtain ⟨o,_,_,_,e,ex,_⟩:=I.hok p _ hk;refine ⟨⟨o,e,ex.1⟩,fun a e2=>?_⟩;cases e2;exact ⟨o,e,ex.2.1⟩
 |_=>exact False.elim ty
def Zhk (K:W.Frag) (T:String) (r:V->List V->Hp->VK->Prop) (to:TE):TE:=fun σ H Q=>to σ H fun x H1=>tyV K T x H1∧r x [] H1 Q
def tBM (K:W.Frag) (T:String) (r:V->List V->Hp->VK->Prop) (to:TE) (t:TA):TE:=fun σ H Q=>to σ H fun x H1=>tyV K T x H1∧t σ H1 fun xs H2=>r x xs H2 Q
variable {o e:Expr} {es:List Expr} {to:TE} {t:TA} {name:Str} {apos cpos:Pos} {T id:String} {r:V->List V->Hp->VK->Prop}
theorem ZnW (pa:PlainAttrs T) (slot:Slot T name id) (hty:typeOf (.builtin id)=pure (.type "method_descriptor")) (hm:V9 X id r) (ho:PE X o to)
  (hbase:attributeBase o name X.env (eval o X.env)=eval o X.env:=by rfl) (hline:(apos.endLine==cpos.line)=true:=by rfl):PE X (.Call (.Attribute o name apos) [] [] cpos) (Zhk X.K T r to):=by
 intro pins s σ H Q I h;refine wpAny_Call_method0_late hbase hline (Zr (ho pins s σ H _ I h) fun v s1 ⟨x,H1,I1,r1,ty,q1⟩=>?_);obtain ⟨h1,h2⟩:=ZgV I1 r1 ty;exact ⟨T,id,pa,slot,hty,h1,h2,GG rfl (PySem.evalArgs_none (hm pins s1 σ H1 x [] v [] Q I1 r1 .nil q1))⟩
theorem Wt (pa:PlainAttrs T) (slot:Slot T name id) (hty:typeOf (.builtin id)=pure (.type "method_descriptor")) (hm:V9 X id r) (ho:PE X o to) (ha:PA X (e::es) t)
  (hbase:attributeBase o name X.env (eval o X.env)=eval o X.env:=by rfl)
  (hfew:((backTo cpos (starEach (e::es) X.env)).all (fun x=>!x.1)&&(backToKw cpos (keywordEach [] X.env)).all (fun x=>x.1.isSome)
   && decide ((e::es).length+([]:List Keyword).length+(if ([]:List Keyword).isEmpty then 0 else 1)<30))=true:=by rfl)
  (hline:(apos.endLine==cpos.line)=true:=by rfl) (hs:starEach (e::es) X.env=(false,eval e X.env)::starEach es X.env:=by rfl) (hplain:(backTo cpos (starEach es X.env)).any (·.1)=false:=by rfl) :
  PE X (.Call (.Attribute o name apos) (e::es) [] cpos) (tBM X.K T r to t):=by
 intro pins s σ H Q I h;refine wpAny_Call_method_late hbase hfew hline rfl (Zr (ho pins s σ H _ I h) fun v s1 ⟨x,H1,I1,r1,ty,q1⟩=>?_);obtain ⟨h1,h2⟩:=ZgV I1 r1 ty;refine ⟨T,id,pa,slot,hty,h1,h2,?_⟩;have hA:=ha cpos pins s1 σ H1 _ I1 q1;rw [hs] at hA ⊢;refine GG (by show (false||(backTo cpos (starEach es X.env)).any (·.1))=false;rw [hplain]<;>rfl) (Gg ?_);exact Zr hA fun us s2 ⟨vs,H2,I2,r2,q2⟩=>hm pins s2 σ H2 x vs v us Q I2 r1 r2 q2
/- xs.append(e),list.index on a module's tuple .. are V9 facts of 06m -/
end
def MtM (X:Cx) (id:String) (r:V->List V->Hp->VK->Prop):Prop :=
 ∀(pins:List (Addr×Obj)) (s:Shared) (σ:St) (H:Hp) (x:V) (xs:List V) (v:Value) (us:List Value) (Q:VK),Inv X pins σ H s->RelV x v->Vals xs us->r x xs H Q →
  wpAny (model X.prog X.w) X.A (call (.builtin id) (v::us)) (EP X pins σ Q) X.xe s
theorem Vals.one:∀{x:V} {us:List Value},Vals [x] us->∃u,us=[u]∧RelV x u
 |_,_,.cons r .nil=>⟨_,rfl,r⟩
section
variable {X:Cx} {pins:List (Addr×Obj)} {σ:St} {H:Hp} {s:Shared} {l b:Addr} {xs ys zs:List V}
theorem Inv.lset {its its':List Value} {n:Nat} {f:Array Value->Array Value} {t':Nat} (I:Inv X pins σ H s) (hH:H l=some (.lst xs))
  (e:s.heap.get? l=some { cls:=.type "list",data:=.seq its.toArray n }) (hf:f its.toArray=its'.toArray) (hv:Vals ys its') (hz:ys.length≤sizeLine) :
  Inv X pins σ (Zb H l (.lst ys)) { s with heap:=s.heap.update l (Obj.mapSeq f),toks:=t' }:=by
 have q:=PySem.IsL.update e f;rw [hf] at q;refine I.write (x:=l) (e:=l) (by rw [hH];exact trivial) (.inl rfl) (fun b' u hb hu=>(Heap.get?_update_other s.heap (Obj.mapSeq f) (Q2 hb)).trans hu) ⟨_,q⟩ ?_;exact ⟨hz,its',_,hv,q⟩
theorem Inv.lnew {its:List Value} {t':Nat} (I:Inv X pins σ H s) (hv:Vals ys its) (hz:ys.length≤sizeLine) :
  Inv X pins σ (Zb H s.heap.objs.size (.lst ys)) { s with heap:=s.heap.push { cls:=.type "list",data:=.seq its.toArray },toks:=t' } :=
 I.laid (fun _ _ q=>Qi _ q) (Qf _) ⟨hz,its,0,hv,Qs _ rfl⟩
theorem Inv.fresh (I:Inv X pins σ H s):H s.heap.objs.size=none:=I.hok.fresh (Qf _)
theorem Inv.lstM (I:Inv X pins σ H s) (hH:H l=some (.lst xs)):xs.length≤sizeLine∧∃(its:List Value) (n:Nat),Vals xs its∧xs.length=its.length∧s.heap.get? l=some { cls:=.type "list",data:=.seq its.toArray n }:=by
 obtain ⟨z,its,n,r,e⟩:=I.hok l _ hH;exact ⟨z,its,n,r,r.length,e⟩
end
section
variable {X:Cx}
def ZhZ:V->List V->Hp->VK->Prop:=fun x vs H Q=>∃l xs y,x=.ref l∧vs=[y]∧H l=some (.lst xs)∧xs.length<sizeLine∧Q .non (Zb H l (.lst (xs++[y])))
theorem X9:MtM X "list.append" ZhZ:=by
 intro pins s σ H x vs v us Q I rx rv h;obtain ⟨l,xs,y,rfl,rfl,hH,hz,q⟩:=h;cases rx;obtain ⟨u,rfl,ru⟩:=rv.one;obtain ⟨z,its,n,r,hl,e⟩:=I.lstM hH;refine call_meets F.slot_list_append ⟨_,e,rfl⟩ F.entry_list_append (F.args_list_append_2 _ _) (PySem.list_append l its.toArray n u (by rw [Qx];omega)) ⟨e,?_⟩;refine ⟨.non,_,I.lset (its':=its++[u]) hH e (by simp) (r.append (.cons ru .nil)) ?_,rfl,q⟩;rw [Qw,List.length_singleton];omega
def Zm9:R2:=fun x y H Q=>∃l b xs zs,x=.ref l∧y=.ref b∧H l=some (.lst xs)∧H b=some (.lst zs)∧xs.length+zs.length≤sizeLine∧∀p,H p=none->Q (.ref p) (Zb H p (.lst (xs++zs)))
theorem ZkX:Yg X (binaryOp .Add) Zm9:=by
 intro pins s σ H x y v u Q I rx ry h;obtain ⟨l,b,xs,zs,rfl,rfl,hH,hB,hz,q⟩:=h;cases rx;cases ry;obtain ⟨z,its,n,r,hl,e⟩:=I.lstM hH;obtain ⟨z2,its2,n2,r2,hl2,e2⟩:=I.lstM hB;refine PySem.P.add_list e e2 ?_ (by rw [Qx,Qx];omega);have ea:its.toArray++its2.toArray=(its++its2).toArray:=by simp
 rw [ea];exact ⟨.ref _,_,I.lnew (t':=s.toks) (r.append r2) (by rw [Qw];omega),rfl,q _ I.fresh⟩
end
section
variable {prog:Program} {w:World} {A:Around} {E:Value->Shared->Prop} {s:Shared}
set_option maxRecDepth 100000 in
end
section
variable {X:Cx}
end
section
variable {κ:Type} [DecidableEq κ]
noncomputable def ZN (kvs:List (κ×V)) (k:κ):Option V:=(kvs.find? fun kv=>decide (kv.1=k)).map (·.2)
noncomputable def Yl (kvs:List (κ×V)) (k:κ) (v:V):List (κ×V) :=
 if (kvs.any fun kv=>decide (kv.1=k))=true then kvs.map (fun kv=>if kv.1=k then (kv.1,v) else kv) else kvs++[(k,v)]
theorem XT {p:κ×V} {r:List (κ×V)} {k:κ} (e:p.1=k):ZN (p::r) k=some p.2:=by simp [ZN,Rw,e]
theorem X6 {p:κ×V} {r:List (κ×V)} {k:κ} (e:¬p.1=k):ZN (p::r) k=ZN r k:=by simp [ZN,Rw,e]
theorem Zcz (k:κ):∀kvs:List (κ×V),(kvs.any fun kv=>decide (kv.1=k))=(ZN kvs k).isSome
 |[]=>rfl
 |p::r=>by
  rw [Rh];by_cases e:p.1=k
  ·simp only [XT e,Qo e,Bool.true_or,Option.isSome_some]
  ·rw [X6 e,Qk e,Bool.false_or];exact Zcz k r
theorem ZcK (kvs:List (κ×V)) (k:κ) (v:V):(Yl kvs k v).length≤kvs.length+1:=by
 unfold Yl;split
 ·rw [Qd];omega
 ·rw [Qw,QM,GH];omega
theorem US {kvs:List (κ×V)} {k:κ} (v:V) (h:ZN kvs k=none):Yl kvs k v=kvs++[(k,v)]:=by
 unfold Yl;rw [Zcz,h];exact Qa (by decide)
theorem RelO.isSome_eq {o:Option V} {u:Option Value} (r:RelO o u):o.isSome=u.isSome:=by
 cases o with
 |none=>cases u with
  |none=>rfl
  |some _=>exact (show False from r).elim
 |some _=>cases u with
  |none=>exact (show False from r).elim
  |some _=>rfl
theorem RelO.getD {o:Option V} {u:Option Value} {d:V} {d':Value} (r:RelO o u) (rd:RelV d d'):RelV (o.getD d) (u.getD d'):=by
 cases o with
 |none=>cases u with
  |none=>exact rd
  |some _=>exact (show False from r).elim
 |some _=>cases u with
  |none=>exact (show False from r).elim
  |some _=>exact r
theorem KV.val {kvs:List (κ×V)} {vs:List (κ×Value)} (r:KV kvs vs) (k:κ):RelO (ZN kvs k) (valueAt vs k):=by
 unfold KV at r
 induction r with
 |nil=>exact True.intro
 |@cons p q ps qs h t ih =>
  obtain ⟨h1,h2⟩:=h;by_cases e:p.1=k
  ·have e':q.1=k:=h1.symm.trans e;have b:valueAt (q::qs) k=some q.2:=by simp [valueAt,Rw,e']
   rw [XT e,b];exact h2
  ·have e':¬q.1=k:=fun z=>e (h1.trans z);have b:valueAt (q::qs) k=valueAt qs k:=by simp [valueAt,Rw,e']
   rw [X6 e,b];exact ih
theorem KV.any {kvs:List (κ×V)} {vs:List (κ×Value)} (r:KV kvs vs) (k:κ):(kvs.any fun kv=>decide (kv.1=k))=vs.any fun kv=>decide (kv.1=k):=by
 unfold KV at r
 induction r with
 |nil=>rfl
 |cons h t ih=>rw [Rh,Rh,ih,h.1]
theorem KV.repl {kvs:List (κ×V)} {vs:List (κ×Value)} (r:KV kvs vs) (k:κ) {y:V} {u:Value} (ry:RelV y u) :
  KV (kvs.map fun kv=>if kv.1=k then (kv.1,y) else kv) (vs.map fun kv=>if kv.1=k then (kv.1,u) else kv):=by
 unfold KV at r ⊢
 induction r with
 |nil=>exact .nil
 |@cons p q ps qs h t ih =>
  rw [Qr,Qr];refine .cons ?_ ih;obtain ⟨h1,h2⟩:=h;by_cases e:p.1=k
  ·rw [Qc e,Qc (h1.symm.trans e)];exact ⟨h1,ry⟩
  ·rw [Qa e,Qa (fun z=>e (h1.trans z))];exact ⟨h1,h2⟩
theorem KV.put {kvs:List (κ×V)} {vs:List (κ×Value)} (r:KV kvs vs) (k:κ) {y:V} {u:Value} (ry:RelV y u):KV (Yl kvs k y) (stored vs k u):=by
 unfold Yl stored;rw [r.any k];by_cases e:(vs.any fun kv=>decide (kv.1=k))=true
 ·rw [Qc e,Qc e];exact r.repl k ry
 ·rw [Qa e,Qa e];exact Paired.snoc r ⟨rfl,ry⟩
theorem KV.length {kvs:List (κ×V)} {vs:List (κ×Value)} (r:KV kvs vs):kvs.length=vs.length:=Gx r
end
theorem VZ {P:Program} {w:World} {k:Zi} {u:Value} (r:RelV (kV k) u):(Yv P w).is k u=true:=by
 cases k with
 |inl i=>obtain ⟨t,e⟩:=(show ∃t,u=Value.int i t from r);subst e;exact Zof P w i t
 |inr x=>obtain ⟨t,e⟩:=(show ∃t,u=Value.str x t from r);subst e;exact ZkL P w x t
theorem Zhh {P:Program} {w:World}:∀{ks:List Zi} {us:List Value},Vals (ks.map kV) us->ItemsAre (Yv P w) ks us
 |[],_,r=>by rw [GI] at r;cases r;exact .nil
 |k::ks,_,r=>by
  rw [Qr] at r;cases r with
  |cons h t=>exact .cons (VZ h) (Zhh t)
abbrev KT (H:Hp):List (List Zi×V)->List (List Zi×Addr×Value)->Prop:=Paired fun p q=>p.1=q.1∧H q.2.1=some (.tup (p.1.map kV))∧RelV p.2 q.2.2
theorem KT.val {H:Hp} {kvs:List (List Zi×V)} {xs:List (List Zi×Addr×Value)} (r:KT H kvs xs) (k:List Zi):RelO (ZN kvs k) ((atKey xs k).map (·.2)):=by
 induction r with
 |nil=>exact True.intro
 |@cons p q ps qs h t ih =>
  obtain ⟨h1,_,h2⟩:=h;by_cases e:p.1=k
  ·have e':q.1=k:=h1.symm.trans e;have b:atKey (q::qs) k=some q.2:=by simp [atKey,Rw,e']
   rw [XT e,b];exact h2
  ·have e':¬q.1=k:=fun z=>e (h1.trans z);have b:atKey (q::qs) k=atKey qs k:=by simp [atKey,Rw,e']
   rw [X6 e,b];exact ih
theorem KT.repl {H:Hp} {kvs:List (List Zi×V)} {xs:List (List Zi×Addr×Value)} (r:KT H kvs xs) (k:List Zi) {y:V} {u:Value} (ry:RelV y u) :
  KT H (kvs.map fun kv=>if kv.1=k then (kv.1,y) else kv) (xs.map (putAt k u)):=by
 induction r with
 |nil=>exact .nil
 |@cons p q ps qs h t ih =>
  rw [Qr,Qr];refine .cons ?_ ih;obtain ⟨h1,h2,h3⟩:=h;unfold putAt;by_cases e:p.1=k
  ·rw [Qc e,Qc (h1.symm.trans e)];exact ⟨h1,h2,ry⟩
  ·rw [Qa e,Qa (fun z=>e (h1.trans z))];exact ⟨h1,h2,h3⟩
theorem KT.put {H:Hp} {kvs:List (List Zi×V)} {xs:List (List Zi×Addr×Value)} (r:KT H kvs xs) (k:List Zi) {b:Addr} {y:V} {u:Value} (hb:H b=some (.tup (k.map kV))) (ry:RelV y u) :
  KT H (Yl kvs k y) (storedH xs k b u):=by
 have e:(kvs.any fun kv=>decide (kv.1=k))=(atKey xs k).isSome:=by
  rw [Zcz,(r.val k).isSome_eq,Nk]
 unfold Yl storedH;rw [e];by_cases q:(atKey xs k).isSome=true
 ·rw [Qc q,Qc q];exact r.repl k ry
 ·rw [Qa q,Qa q];exact Paired.snoc r ⟨rfl,hb,ry⟩
theorem KT.keeps {H H':Hp} {kvs:List (List Zi×V)} {xs:List (List Zi×Addr×Value)} (r:KT H kvs xs) (ht:∀b ys,H b=some (.tup ys)->H' b=some (.tup ys)):KT H' kvs xs :=
 Paired.mapP r fun _ _ z=>⟨z.1,ht _ _ z.2.1,z.2.2⟩
section
variable {P:Program} {w:World} {H:Hp} {h:Heap} {a:Addr}
theorem Zgh {u:HO} (ok:HOk P w H h) (e:Rd H a u):ObjOk P w H h a u:=e.ok ok
theorem Vh {kvs:List (Zi×V)} (ok:HOk P w H h) (e:Rd H a (.dK kvs)):kvs.length≤sizeLine∧(a==sysModules)=false∧∃vs,KV kvs vs∧h.DictOf (Yv P w) a vs :=
 show ObjOk P w H h a (.dK kvs) from Zgh ok e
theorem Jt {kvs:List (Zi×V)} (ok:HOk P w H h) (e:H a=some (.dK kvs)):kvs.length≤sizeLine∧(a==sysModules)=false∧∃vs,KV kvs vs∧h.DictOf (Yv P w) a vs:=Vh ok (.inl e)
theorem VE {ks:List Zi} (ok:HOk P w H h) (e:H a=some (.tup (ks.map kV))):(tupleKind (Yv P w)).is h ks a:=by
 obtain ⟨_,its,r,o,h1,h2,n,h3⟩:=(show ObjOk P w H h a (.tup (ks.map kV)) from ok a _ e);exact ⟨o,its.toArray,n,h1,h2,h3,by simpa using Zhh r⟩
theorem WO {kvs:List (List Zi×V)} (ok:HOk P w H h) (e:Rd H a (.dT kvs)):kvs.length≤sizeLine∧(a==sysModules)=false ∧
  ∃xs,KT H kvs xs∧h.DictOfH (tupleKind (Yv P w)) a xs:=by
 obtain ⟨z,y,xs,r,o,es,ep,h1,h2,h3,h4,h5⟩:=(show ObjOk P w H h a (.dT kvs) from Zgh ok e);refine ⟨z,y,xs,r,o,es,ep,h1,h2,h3,h4,fun x hx=>?_,h5⟩
 have all:∀{l:List (List Zi×V)} {m:List (List Zi×Addr×Value)},KT H l m->∀x∈m,(tupleKind (Yv P w)).is h x.1 x.2.1:=by
  intro l m q
  induction q with
  |nil=>intro x hx;exact nomatch hx
  |@cons p q ps qs hq t ih =>
   intro x hx;rcases Qh.mp hx with e|hx
   ·subst e;exact VE ok (by rw [←hq.1];exact hq.2.1)
   ·exact ih x hx
 exact all r x hx
theorem U5 {kvs:List (List Zi×V)} (ok:HOk P w H h) (e:H a=some (.dT kvs)):kvs.length≤sizeLine∧(a==sysModules)=false ∧
  ∃xs,KT H kvs xs∧h.DictOfH (tupleKind (Yv P w)) a xs:=WO ok (.inl e)
end
def DGet (H:Hp) (a:Addr) (y:V) (r:Option V):Prop :=
 (∃kvs k,Rd H a (.dK kvs)∧y=kV k∧r=ZN kvs k)∨∃kvs k b,Rd H a (.dT kvs)∧y=.ref b∧H b=some (.tup (k.map kV))∧r=ZN kvs k
def DPut (H:Hp) (a:Addr) (y v:V) (H':Hp):Prop :=
 (∃kvs k,H a=some (.dK kvs)∧y=kV k∧kvs.length<sizeLine∧H'=Zb H a (.dK (Yl kvs k v))) ∨
 ∃kvs k b,H a=some (.dT kvs)∧y=.ref b∧H b=some (.tup (k.map kV))∧kvs.length<sizeLine∧H'=Zb H a (.dT (Yl kvs k v))
theorem DGet.k {H:Hp} {a:Addr} {kvs:List (Zi×V)} {k:Zi} (e:H a=some (.dK kvs)):DGet H a (kV k) (ZN kvs k):=.inl ⟨kvs,k,.inl e,rfl,rfl⟩
theorem DGet.t {H:Hp} {a b:Addr} {kvs:List (List Zi×V)} {k:List Zi} (e:H a=some (.dT kvs)) (eb:H b=some (.tup (k.map kV))):DGet H a (.ref b) (ZN kvs k):=.inr ⟨kvs,k,b,.inl e,rfl,eb,rfl⟩
theorem DPut.k {H:Hp} {a:Addr} {kvs:List (Zi×V)} {k:Zi} {v:V} (e:H a=some (.dK kvs)) (hl:kvs.length<sizeLine):DPut H a (kV k) v (Zb H a (.dK (Yl kvs k v))):=.inl ⟨kvs,k,e,rfl,hl,rfl⟩
theorem DPut.t {H:Hp} {a b:Addr} {kvs:List (List Zi×V)} {k:List Zi} {v:V} (e:H a=some (.dT kvs)) (eb:H b=some (.tup (k.map kV))) (hl:kvs.length<sizeLine) :
  DPut H a (.ref b) v (Zb H a (.dT (Yl kvs k v))):=.inr ⟨kvs,k,b,e,rfl,eb,hl,rfl⟩
section
variable {X:Cx} {pins:List (Addr×Obj)} {σ:St} {H:Hp} {s:Shared} {a:Addr} {y v:V} {u r:Value} {o:Option V} {A:Around} {E:Value->Shared->Prop}
theorem Inv.big (I:Inv X pins σ H s):sysModules<s.heap.objs.size:=by
 have h:mainGlobals<s.heap.objs.size:=(I.mod.glob.keeps I.bk).lt;exact Nat.lt_trans (by decide) h
theorem Zjd {Q:Value->Shared->Prop} (hu:A.units+1<cLine) (I:Inv X pins σ H s) (g:DGet H a y (some v)) (ry:RelV y u) (h:∀w' s',Inv X pins σ H s'->RelV v w'->Q w' s') :
  wpAny (model X.prog X.w) A (getItem (.ref a) u) Q E s:=by
 rcases g with ⟨kvs,k,e,ey,l⟩|⟨kvs,k,b,e,ey,eb,l⟩
 ·subst ey;obtain ⟨z,hd,vs,rel,dd⟩:=Vh I.hok e;obtain ⟨w',hw,rw'⟩:=RelO.some_of (v:=v) (o:=valueAt vs k) (by rw [l];exact rel.val k);exact wpAny_getItem_of (VZ ry) dd.mapOf hw (h w' _ (I.tok _) rw')
 ·subst ey;cases (show u=Value.ref b from ry);obtain ⟨z,hd,xs,rel,dd⟩:=WO I.hok e;obtain ⟨w',hw,rw'⟩:=RelO.some_of (v:=v) (o:=(atKey xs k).map (·.2)) (by rw [l];exact rel.val k);obtain ⟨p,hp,hp2⟩:=QH.mp hw;refine wpAny_getItem_heap (R1 hu) (VE I.hok eb) dd hp ?_;rw [hp2];exact h w' _ (I.tok _) rw'
theorem Zlk {Q:Value->Shared->Prop} (hu:A.units+1<cLine) (I:Inv X pins σ H s) (g:DGet H a y o) (ry:RelV y u) (h:∀s',Inv X pins σ H s'->Q (.bool o.isSome) s') :
  wpAny (model X.prog X.w) A (compareOp .In u (.ref a)) Q E s:=by
 rcases g with ⟨kvs,k,e,ey,l⟩|⟨kvs,k,b,e,ey,eb,l⟩
 ·subst ey;obtain ⟨z,hd,vs,rel,dd⟩:=Vh I.hok e;refine wpAny_in_of (VZ ry) hd dd.mapOf ?_;rw [←(rel.val k).isSome_eq,←l];exact h _ (I.tok _)
 ·subst ey;cases (show u=Value.ref b from ry);obtain ⟨z,hd,xs,rel,dd⟩:=WO I.hok e;refine wpAny_in_heap (R1 hu) (VE I.hok eb) hd dd ?_;have q:=(rel.val k).isSome_eq;rw [Nk] at q;rw [←q,←l];exact h _ (I.tok _)
theorem Zlm {Q:Value->Shared->Prop} (hu:A.units+1<cLine) (I:Inv X pins σ H s) (g:DGet H a y o) (ry:RelV y u) (h:∀s',Inv X pins σ H s'->Q (.bool (!o.isSome)) s') :
  wpAny (model X.prog X.w) A (compareOp .NotIn u (.ref a)) Q E s:=by
 rcases g with ⟨kvs,k,e,ey,l⟩|⟨kvs,k,b,e,ey,eb,l⟩
 ·subst ey;obtain ⟨z,hd,vs,rel,dd⟩:=Vh I.hok e;refine wpAny_notIn_of (VZ ry) hd dd.mapOf ?_;rw [←(rel.val k).isSome_eq,←l];exact h _ (I.tok _)
 ·subst ey;cases (show u=Value.ref b from ry);obtain ⟨z,hd,xs,rel,dd⟩:=WO I.hok e;refine wpAny_notIn_heap (R1 hu) (VE I.hok eb) hd dd ?_;have q:=(rel.val k).isSome_eq;rw [Nk] at q;rw [←q,←l];exact h _ (I.tok _)
theorem ZaA {h':Heap} {t':Nat} {ob:HO} (I:Inv X pins σ H s) (mu:JM (H a)) (hs:Heap.SameBut a s.heap h') (he:∃q,h'.get? a=some q) (new:ObjOk X.prog X.w (Zb H a ob) h' a ob) :
  Inv X pins σ (Zb H a ob) { s with heap:=h',toks:=t' } :=
 I.write (x:=a) (e:=a) mu (.inl rfl) (fun b q hb z=>(hs.2 b hb).trans z) he new
theorem Zgc {P:Program} {w:World} {H':Hp} {h':Heap} {kvs:List (Zi×V)} {vs:List (Zi×Value)} (z:kvs.length≤sizeLine) (hd:(a==sysModules)=false) (rel:KV kvs vs) (dd:h'.DictOf (Yv P w) a vs) :
  ObjOk P w H' h' a (.dK kvs):=⟨z,hd,vs,rel,dd⟩
theorem ZmO {H':Hp} {Q:Unit->Shared->Prop} (hu:A.units+1<cLine) (I:Inv X pins σ H s) (g:DPut H a y v H') (ry:RelV y u) (rv:RelV v r) (h:∀s',Inv X pins σ H' s'->Q () s') :
  wpAny (model X.prog X.w) A (setItem (.ref a) u r) Q E s:=by
 rcases g with ⟨kvs,k,e,ey,l,eH⟩|⟨kvs,k,b,e,ey,eb,l,eH⟩
 ·subst ey eH;obtain ⟨z,hd,vs,rel,dd⟩:=Jt I.hok e;have hz:vs.length≤sizeLine:=by rw [←rel.length];exact z
  have hl:(Yl kvs k v).length≤sizeLine:=by have:=ZcK kvs k v;omega
  refine wpAny_setItem_pairs (hsz:=hz) (VZ ry) dd fun h' dd' hs=>h _ ?_;have he:∃q,h'.get? a=some q:=let ⟨q,_,_,hq,_⟩:=dd';⟨q,hq⟩;exact ZaA I (by rw [e];exact True.intro) hs he (Zgc hl hd (rel.put k rv) dd')
 ·subst ey eH;cases (show u=Value.ref b from ry);obtain ⟨z,hd,xs,rel,dd⟩:=U5 I.hok e;have hz:xs.length≤sizeLine:=by rw [←Gx rel];exact z
  have hl:(Yl kvs k v).length≤sizeLine:=by have:=ZcK kvs k v;omega
  refine wpAny_setItem_heap (hsz:=hz) (R1 hu) (VE I.hok eb) dd fun h' dd' hs=>h _ ?_;obtain ⟨q,es,ep,hq,h2,h3,h4,_,h5⟩:=dd';refine ZaA I (by rw [e];exact True.intro) hs ⟨q,hq⟩ ⟨hl,hd,_,(rel.put k eb rv).keeps fun c ys ec=>?_,q,es,ep,hq,h2,h3,h4,h5⟩;rw [Ze (Zez ec e (fun z=>nomatch z))];exact ec
end
section
variable {X:Cx} {pins:List (Addr×Obj)} {σ:St} {H:Hp} {s:Shared} {a:Addr} {kvs:List (Zi×V)} {k:Zi} {u:Value} {A:Around} {E:Value->Shared->Prop}
theorem ZmQ {Q:Value->Shared->Prop} (I:Inv X pins σ H s) (e:Rd H a (.dK kvs)) (h:∀t s',Inv X pins σ H s'->Q (.int kvs.length t) s'):wpAny (model X.prog X.w) A (call (.builtin "len") [.ref a]) Q E s:=by
 obtain ⟨z,hd,vs,rel,dd⟩:=Vh I.hok e;refine call_len_dict hd dd (by rw [←rel.length];rw [RY] at z;omega) ?_;rw [←rel.length];exact h _ _ (I.tok _)
end
def Zg2 (i:Expr):Prop:=∀ov iv,subscripted i false ov iv=operate [ov,iv] (getItem ov iv)
theorem Zh2 {prog:Program} {w:World} {A:Around} {E:Value->Shared->Prop} {s:Shared} {env:Env} {value slice:Expr} {pos:Pos} {T id:String} {Q:Value->Shared->Prop}
  (hl:typeLookup (.type T) "__getitem__"=pure (some (.builtin id))) (hs:Zg2 slice)
  (h:wpAny (model prog w) A (eval value env) (fun o s₁=>wpAny (model prog w) A (eval slice env) (fun i s₂=>s₂.TypeIs o T∧wpAny (model prog w) A (getItem o i) Q E s₂) E s₁) E s) :
  wpAny (model prog w) A (eval (.Subscript value slice pos) env) Q E s:=by
 refine Subscript_ (Ra h (fun o s₁ h₁=>Ra h₁ (fun i s₂ h₂=>?_) fun _ _ x=>x) fun _ _ x=>x);obtain ⟨hT,h₂⟩:=h₂;unfold subscriptTail;refine Qb ?_;rw [getitemInPython_of_ne hT.not_modules];refine Qb (wpAny_specialOf hT hl ?_)
 have fin:wpAny (model prog w) A (subscripted slice false o i) (fun r s₃=>wpAny (model prog w) A (letTemporaryGo value o r >>= fun _=>pure r) Q E s₃) E s₂:=by
  rw [hs o i];exact wpAny_operating (Ra h₂ (fun r s₃ h₃=>Qb (wpAny_letTemporaryGo (Qe h₃))) fun _ _ x=>x)
 first
  |exact Qe (Qb fin)
  |exact Qb (Qe (Qb fin))
  |exact Qb fin
theorem Zjc {X:Cx} {pins:List (Addr×Obj)} {σ:St} {H:Hp} {s:Shared} {a:Addr} {y:V} {o:Option V} (I:Inv X pins σ H s) (g:DGet H a y o):s.TypeIs (.ref a) "dict":=by
 rcases g with ⟨kvs,k,e,_,_⟩|⟨kvs,k,b,e,_,_,_⟩
 ·obtain ⟨_,_,vs,_,dd⟩:=Vh I.hok e;exact dd.typeIs
 ·obtain ⟨_,_,xs,_,dd⟩:=WO I.hok e;exact dd.typeIs
def ZnU (td ty:TE):TE:=fun σ H Q=>td σ H fun x H1=>ty σ H1 fun y H2=>∃a v,x=.ref a∧DGet H2 a y (some v)∧Q v H2
def Zn9 (ty td:TE):TE:=fun σ H Q=>ty σ H fun y H1=>td σ H1 fun x H2=>∃a o,x=.ref a∧DGet H2 a y o∧Q (.bl o.isSome) H2
def ZlZ (ty td:TE):TE:=fun σ H Q=>ty σ H fun y H1=>td σ H1 fun x H2=>∃a o,x=.ref a∧DGet H2 a y o∧Q (.bl (!o.isSome)) H2
def Zmg (td ty tv:TE):TS:=fun D σ H=>tv σ H fun v H1=>td σ H1 fun x H2=>ty σ H2 fun y H3=>∃a H4,x=.ref a∧DPut H3 a y v H4∧D.nx σ H4
section
variable {X:Cx} {o i e value:Expr} {pos pos' tpos:Pos} {td ty tv:TE}
theorem Xp (hu:X.A.units+1<cLine) (ho:PE X o td) (hi:PE X i ty) (hs:Zg2 i):PE X (.Subscript o i pos) (ZnU td ty):=by
 intro pins s σ H Q I h;refine Zh2 PySem.F.slot_dict_getitem.lookup hs (Zr (ho pins s σ H _ I h) fun u s1 ⟨x,H1,I1,rx,q1⟩=>Zr (hi pins s1 σ H1 _ I1 q1) fun iv s2 ⟨y,H2,I2,ry,a,v,ex,g,q2⟩=>?_);subst ex;obtain rfl:u=Value.ref a:=rx;exact ⟨Zjc I2 g,Zjd hu I2 g ry fun w' s3 I3 rw'=>⟨v,H2,I3,rw',q2⟩⟩
theorem ZcV (hu:X.A.units+1<cLine) (hi:PE X i ty) (ho:PE X o td):PC X .In i o (Zn9 ty td):=by
 intro pins s σ H Q I h;refine Zr (hi pins s σ H _ I h) fun iv s1 ⟨y,H1,I1,ry,q1⟩=>Zr (ho pins s1 σ H1 _ I1 q1) fun u s2 ⟨x,H2,I2,rx,a,ov,ex,g,q2⟩=>?_;subst ex;obtain rfl:u=Value.ref a:=rx;exact Zlk hu I2 g ry fun s3 I3=>⟨.bl ov.isSome,H2,I3,rfl,q2⟩
theorem Zd5 (hu:X.A.units+1<cLine) (hi:PE X i ty) (ho:PE X o td):PC X .NotIn i o (ZlZ ty td):=by
 intro pins s σ H Q I h;refine Zr (hi pins s σ H _ I h) fun iv s1 ⟨y,H1,I1,ry,q1⟩=>Zr (ho pins s1 σ H1 _ I1 q1) fun u s2 ⟨x,H2,I2,rx,a,ov,ex,g,q2⟩=>?_;subst ex;obtain rfl:u=Value.ref a:=rx;exact Zlm hu I2 g ry fun s3 I3=>⟨.bl (!ov.isSome),H2,I3,rfl,q2⟩
theorem Xz (hu:X.A.units+1<cLine) (ho:PE X o td) (hi:PE X i ty) (hv:PE X value tv) (hs:swapsWith value (some (.Subscript o i pos')) pos.line X.env=pure false) :
  PS X (.Assign [.Subscript o i pos'] value pos) (Zmg td ty tv):=by
 intro pins s σ H D I h;refine wpAny_Assign_Subscript (Zr (hv pins s σ H _ I h) fun r s1 ⟨v,H1,I1,rv,q1⟩=>Zr (ho pins s1 σ H1 _ I1 q1) fun u s2 ⟨x,H2,I2,rx,q2⟩=>Zr (hi pins s2 σ H2 _ I2 q2) fun iv s3 ⟨y,H3,I3,ry,a,H4,ex,g,q3⟩=>?_) hs;subst ex;obtain rfl:u=Value.ref a:=rx;exact ZmO hu I3 g ry rv fun s4 I4=>⟨σ,H4,I4,q3⟩
end
theorem ZeF {P:Program} {w:World} {H:Hp} (h:Heap) (hb:sysModules<h.objs.size):ObjOk P w H (h.push { cls:=.type "dict",data:=.dict #[] }) h.objs.size (.dK []) :=
 ⟨QK _,RL.mpr (Q2 (Qy hb)),[],.nil,Heap.DictOf.new h⟩
theorem ZiD {P:Program} {w:World} {H:Hp} (h:Heap) (hb:sysModules<h.objs.size):ObjOk P w H (h.push { cls:=.type "dict",data:=.dict #[] }) h.objs.size (.dT []) :=
 ⟨QK _,RL.mpr (Q2 (Qy hb)),[],.nil,_,#[],0,Qs _ rfl,⟨rfl,rfl,rfl⟩,rfl,rfl,List.nodup_nil⟩
def Zmz:TE:=fun _ H Q=>∀p,H p=none->Q (.ref p) (Zb H p (.dK []))
def Zl1:TE:=fun _ H Q=>∀p,H p=none->Q (.ref p) (Zb H p (.dT []))
section
variable {X:Cx} {pos:Pos}
theorem Vv:PE X (.Dict [] [] pos) Zmz:=fun pins s σ H Q I h =>
 wpAny_Dict_empty ⟨.ref s.heap.objs.size,_,I.laid (a:=s.heap.objs.size) (o:=.dK []) (t':=s.toks) (fun _ _ q=>Qi _ q) (Qf _) (ZeF s.heap I.big),rfl,h _ (I.hok.fresh (Qf _))⟩
theorem VC:PE X (.Dict [] [] pos) Zl1:=fun pins s σ H Q I h =>
 wpAny_Dict_empty ⟨.ref s.heap.objs.size,_,I.laid (a:=s.heap.objs.size) (o:=.dT []) (t':=s.toks) (fun _ _ q=>Qi _ q) (Qf _) (ZiD s.heap I.big),rfl,h _ (I.hok.fresh (Qf _))⟩
end
def Zc2:List (TE×TE)->St->Hp->(List (V×V)->Hp->Prop)->Prop
 |[],_,H,Q=>Q [] H
 | (tk,tv)::r,σ,H,Q=>tk σ H fun x H1=>tv σ H1 fun y H2=>Zc2 r σ H2 fun ps H3=>Q ((x,y)::ps) H3
abbrev VV:List (V×V)->List (Value×Value)->Prop:=Paired fun p q=>RelV p.1 q.1∧RelV p.2 q.2
def PPs (X:Cx) (pos:Pos) (keys:List (Option Expr)) (values:List Expr) (trs:List (TE×TE)):Prop :=
 ∀(pins:List (Addr×Obj)) (s:Shared) (σ:St) (H:Hp) (Q:List (V×V)->Hp->Prop),Inv X pins σ H s->Zc2 trs σ H Q →
  wpAny (model X.prog X.w) X.A (evalPairs (pairTrees keys values X.env pos)) (fun vs s'=>∃ps H',Inv X pins σ H' s'∧VV ps vs∧Q ps H') X.xe s
theorem ZjZ {X:Cx} {pos:Pos}:PPs X pos [] [] []:=fun pins s σ H Q I h=>pairTrees_nil_walk ⟨[],H,I,.nil,h⟩
theorem Zon {X:Cx} {pos:Pos} {k v:Expr} {ks:List (Option Expr)} {vs:List Expr} {tk tv:TE} {trs:List (TE×TE)} (hk:PE X k tk) (hv:PE X v tv) (hr:PPs X pos ks vs trs) :
  PPs X pos (some k::ks) (v::vs) ((tk,tv)::trs):=fun pins s σ H Q I h =>
 pairTrees_cons_walk (Zr (hk pins s σ H _ I h) fun u s1 ⟨x,H1,I1,rx,q1⟩=>Zr (hv pins s1 σ H1 _ I1 q1) fun w2 s2 ⟨y,H2,I2,ry,q2⟩ =>
  Zr (hr pins s2 σ H2 _ I2 q2) fun ws s3 ⟨ps,H3,I3,rel,q3⟩=>⟨(x,y)::ps,H3,I3,.cons ⟨rx,ry⟩ rel,q3⟩)
noncomputable def Uz (kvs more:List (Zi×V)):List (Zi×V):=more.foldl (fun acc kv=>Yl acc kv.1 kv.2) kvs
theorem KV.merge:∀{more:List (Zi×V)} {rs:List (Zi×Value)} {kvs:List (Zi×V)} {vs:List (Zi×Value)},KV more rs->KV kvs vs->KV (Uz kvs more) (merged vs rs):=by
 intro more rs kvs vs r;unfold KV at r
 induction r generalizing kvs vs with
 |nil=>intro q;exact q
 |@cons p q ps qs h t ih =>
  intro r0
  have e:KV (Yl kvs p.1 p.2) (stored vs q.1 q.2):=by
   have:=r0.put p.1 h.2;rw [←h.1];exact this
  exact ih e
theorem Zhb:∀(more kvs:List (Zi×V)),(Uz kvs more).length≤kvs.length+more.length
 |[],kvs=>by show kvs.length≤kvs.length+0;omega
 |p::r,kvs=>by
  have h1:=Zhb r (Yl kvs p.1 p.2);have h2:=ZcK kvs p.1 p.2;show (Uz (Yl kvs p.1 p.2) r).length≤_;rw [QM];omega
theorem Zd3 {P:Program} {w:World}:∀{kvs:List (Zi×V)} {ws:List (Value×Value)},VV (kvs.map fun kv=>(kV kv.1,kv.2)) ws->∃rs,Carries (Yv P w) ws rs∧KV kvs rs
 |[],_,r=>by rw [GI] at r;cases r;exact ⟨[],True.intro,.nil⟩
 |p::kvs,_,r=>by
  rw [Qr] at r;cases r with
  |@cons a b as bs h t =>
   obtain ⟨rs,c,q⟩:=Zd3 (P:=P) (w:=w) t;obtain ⟨b1,b2⟩:=b;exact ⟨(p.1,b2)::rs,⟨VZ h.1,rfl,c⟩,.cons ⟨rfl,h.2⟩ q⟩
def Zmx (trs:List (TE×TE)):TE:=fun σ H Q=>∀p,H p=none->Zc2 trs σ (Zb H p (.dK [])) fun ps H2=>H2 p=some (.dK [])∧∃kvs:List (Zi×V),ps=kvs.map (fun kv=>(kV kv.1,kv.2))∧kvs.length≤15∧Q (.ref p) (Zb H2 p (.dK (Uz [] kvs)))
theorem Zif {X:Cx} {pos:Pos} {keys:List (Option Expr)} {values:List Expr} {trs:List (TE×TE)} (h:PPs X pos keys values trs) (hall:keys.all (·.isSome)=true) (hl:keys.length=values.length) (h0:keys≠[])
  (h15:keys.length≤15):PE X (.Dict keys values pos) (Zmx trs):=by
 intro pins s σ H Q I q;have hn:=I.hok.fresh (Qf s.heap.objs.size);have I1:=I.laid (a:=s.heap.objs.size) (o:=.dK []) (h':=s.heap.push { cls:=.type "dict",data:=.dict #[] }) (t':=s.toks) (fun _ _ q=>Qi _ q) (Qf _) (ZeF s.heap I.big);refine wpAny_Dict_walk (knd:=Yv X.prog X.w) hall hl h0 h15 (Zr (h pins _ σ _ _ I1 (q _ hn)) fun ws s2 ⟨ps,H2,I2,rel,e,kvs,ep,lk,q2⟩=>?_);subst ep;obtain ⟨rs,c,rk⟩:=Zd3 (P:=X.prog) (w:=X.w) rel;obtain ⟨z,hd,vs0,r0,dd⟩:=Jt I2.hok e;cases r0;refine ⟨rs,c,dd,fun h' dd' hs=>⟨.ref s.heap.objs.size,_,?_,rfl,q2⟩⟩
 have hz:(Uz [] kvs).length≤sizeLine:=by
  have h1:=Zhb kvs [];rw [GH] at h1;rw [RY];omega
 have he:∃q,h'.get? s.heap.objs.size=some q:=let ⟨q,_,_,hq,_⟩:=dd';⟨q,hq⟩;exact ZaA I2 (by rw [e];exact True.intro) hs he (Zgc hz hd (rk.merge .nil) dd')
structure M2 (X:Cx) (o:Expr) (m:Str) (apos:Pos) (e f:Expr) (cpos:Pos):Prop where
 base:attributeBase o m X.env (eval o X.env)=eval o X.env
 few:((backTo cpos (starEach [e,f] X.env)).all (fun x=>!x.1)&&(backToKw cpos (keywordEach [] X.env)).all (fun x=>x.1.isSome)
  && decide (([e,f]:List Expr).length+([]:List Keyword).length+(if ([]:List Keyword).isEmpty then 0 else 1)<30))=true
 line:(apos.endLine==cpos.line)=true
 trees:backTo cpos (starEach [e,f] X.env)=[(false,eval e X.env),(false,eval f X.env)]
def IsD (H:Hp) (a:Addr):Prop:=(∃kvs,Rd H a (.dK kvs))∨∃kvs,Rd H a (.dT kvs)
theorem ZeE {X:Cx} {pins:List (Addr×Obj)} {σ:St} {H:Hp} {s:Shared} {a:Addr} (I:Inv X pins σ H s) (d:IsD H a) :
  s.TypeIs (.ref a) "dict"∧(∀b,Value.ref a=.ref b->∃ob,s.heap.get? b=some ob∧ob.dict=none)∧(a==sysModules)=false:=by
 rcases d with ⟨kvs,e⟩|⟨kvs,e⟩
 ·obtain ⟨_,hd,vs,_,dd⟩:=Vh I.hok e;refine ⟨dd.typeIs,fun b q=>?_,hd⟩;cases q;obtain ⟨ob,_,_,h1,h2,_⟩:=dd;exact ⟨ob,h1,h2.2.1⟩
 ·obtain ⟨_,hd,xs,_,dd⟩:=WO I.hok e;refine ⟨dd.typeIs,fun b q=>?_,hd⟩;cases q;obtain ⟨ob,_,_,h1,h2,_⟩:=dd;exact ⟨ob,h1,h2.2.1⟩
section
variable {X:Cx} {pins:List (Addr×Obj)} {σ:St} {H:Hp} {s:Shared} {a:Addr} {y d:V} {u r:Value} {o:Option V} {A:Around} {E:Value->Shared->Prop}
theorem ZnC {Q:Value->Shared->Prop} (hu:A.units+1<cLine) (I:Inv X pins σ H s) (g:DGet H a y o) (ry:RelV y u) (rd:RelV d r) (h:∀w' s',Inv X pins σ H s'->RelV (o.getD d) w'->Q w' s') :
  wpAny (model X.prog X.w) A (call (.builtin "dict.get") [.ref a,u,r]) Q E s:=by
 rcases g with ⟨kvs,k,e,ey,l⟩|⟨kvs,k,b,e,ey,eb,l⟩
 ·subst ey;obtain ⟨z,hd,vs,rel,dd⟩:=Vh I.hok e;refine Gh Nl dd.typeIs PySem.F.entry_dict_get (NM _ _ _) (meets_dict_get_default (Yv X.prog X.w) a (VZ ry) hd r) ⟨_,dd.mapOf,h _ _ (I.tok _) ?_⟩;rw [l];exact (rel.val k).getD rd
 ·subst ey;cases (show u=Value.ref b from ry);obtain ⟨z,hd,xs,rel,dd⟩:=WO I.hok e;refine Gh Nl dd.typeIs PySem.F.entry_dict_get (NM _ _ _) (meetsH_dict_get_default (tupleKind (Yv X.prog X.w)) a b hd r) ⟨R1 hu,k,xs,VE I.hok eb,dd,h _ _ (I.tok _) ?_⟩;rw [l];exact (rel.val k).getD rd
end
def ZjW (td ty tx:TE):TE:=fun σ H Q=>td σ H fun x H1=>∃a,x=.ref a∧IsD H1 a∧ty σ H1 fun y H2=>tx σ H2 fun z H3=>∃o,DGet H3 a y o∧Q (o.getD z) H3
section
variable {X:Cx} {o e f:Expr} {apos cpos:Pos} {td ty tx:TE}
theorem JJ (hu:X.A.units+1<cLine) (ho:PE X o td) (he:PE X e ty) (hf:PE X f tx) (m:M2 X o "get" apos e f cpos):PE X (.Call (.Attribute o "get" apos) [e,f] [] cpos) (ZjW td ty tx):=by
 intro pins s σ H Q I h;refine wpAny_Call_method m.base m.few m.line Nn Nl PySem.F.type_dict_get (Zr (ho pins s σ H _ I h) fun u s1 ⟨x,H1,I1,rx,a,ex,d,q1⟩=>?_);subst ex;obtain rfl:u=Value.ref a:=rx;obtain ⟨t1,t2,_⟩:=ZeE I1 d;refine ⟨t1,t2,?_⟩;rw [m.trees]
 refine GG rfl (Gg (RE (Zr (he pins s1 σ H1 _ I1 q1) fun iv s2 ⟨y,H2,I2,ry,q2⟩ =>
  RE (Zr (hf pins s2 σ H2 _ I2 q2) fun fv s3 ⟨z,H3,I3,rz,ov,g,q3⟩=>GC ?_))))
 exact ZnC hu I3 g ry rz fun w' s4 I4 rw'=>⟨_,H3,I4,rw',q3⟩
end
section
variable {X:Cx} {pins:List (Addr×Obj)} {σ:St} {H:Hp} {s:Shared} {a:Addr} {kvs:List (Zi×V)} {A:Around} {E:Value->Shared->Prop}
end
section
variable {X:Cx} {pins:List (Addr×Obj)} {σ:St} {H:Hp} {s:Shared} {a:Addr} {y:V} {u:Value} {A:Around} {E:Value->Shared->Prop}
end
end L2
namespace Att
open PySem PySem.W PySem.Calls PyProof.Rows
theorem Zij {P:Params} {h:Heap}:∀(ns:List Int) (vs:List Value),WellAll P h vs (ns.map WData.int)->IntsAre vs ns:=by
 intro ns
 induction ns with
 |nil =>
  intro vs w;rw [GI] at w;cases w;exact .nil
 |cons n ns ih =>
  intro vs w;rw [Qr] at w;cases w with
  |cons a b =>
   cases a;exact .cons _ _ (ih _ b)
theorem Zi1 {l:OpenLaw} {n:Nat} (hn:l.most=some n) {P:Params} {h:Heap} {args:List WData} {vals:List Value}
  (hpre:l.row.toRowW.claim.pre args=true) (hwl:WellAll P h vals args) :
  ∃a vs ns,vals=[Value.ref a]∧args=[WData.list (ns.map WData.int)]∧h.get? a=some { cls:=.type "list",data:=.seq vs.toArray }∧IntsAre vs ns∧ns.length≤n:=by
 have hsh:WShape.hasAll [] args [.list .int]=true:=(pre_splitW hpre).1;have hc:l.pre.holds [] { args:=args }=true:=(pre_splitW hpre).2;obtain ⟨d,r,rfl,h1,h2⟩:=hasAllW_cons hsh;obtain rfl:=hasAllW_nil h2;obtain ⟨xs,rfl,h3⟩:=hasW_list h1;obtain ⟨ns,rfl⟩:=items_int h3
 have hlen:ns.length≤n:=by
  unfold OpenLaw.pre at hc
  have h4:(WTm.not (.lt (.lit (.int (n:Int))) (.len (.arg 0)))).holds [] { args:=[.list (ns.map .int)] }=true:=by
   have h4:=(holds_andW hc).1;rw [hn] at h4;exact h4
  have h5:=condW_of h4 (w_not (w_lt w_lit (w_len_list (w_arg rfl))));rw [Qd] at h5;refine Nat.le_of_not_lt fun q=>?_;have q':(n:Int)<((ns.length:Nat):Int):=by omega
  first
   | (rw [Qo q'] at h5;exact absurd h5 (by decide))
   | (simp at h5;omega)
 cases hwl with
 |cons w1 w2 =>
  cases w2;cases w1 with
  |list ho hall=>exact ⟨_,_,ns,rfl,rfl,ho,Zij ns _ hall,hlen⟩
theorem ZkG (l:OpenLaw) (args:List WData):l.row.toRowW.claim.post args (.bool true) args=true :=
 postW_of (r:=l.row.toRowW) (X:=(true==true))
  (show WShape.has [] (.bool true) .bool=true by first|rfl|decide|simp [WShape.has,WShape.arms,WShape.armsAll])
  (show (WTm.eq .res (.lit (.bool true))).value [] { args:=args,res:=some (.bool true),after:=args }=some (.bool (true==true)) from w_eq_bool (w_res rfl) w_lit) rfl
theorem attach_call {l:OpenLaw} {n:Nat} {q:Program} {loose:List Str} {XP:(Str->Option Value)->Heap->Prop} {YP:World->Heap->Prop} {d:DefRec}
  (hn:l.most=some n) (hdf:d.params.defaults=[])
  (call:∀(w:World) (s₀ s₁:Shared) (mg mb:Str->Option Value) (fa:Addr) (o:Obj) (pm cd doc:Value) (a:Addr) (vs:List Value) (ns:List Int),
   Ground q loose [] XP w s₀ mg mb s₁.heap->YP w s₁.heap →
   s₁.heap.get? fa=some o->o.data=.func (docDef d.name d.params d.body d.scope pm cd doc)->s₁.heap.CodeRec cd d.name->mg d.name=some (.ref fa) →
   s₁.heap.get? a=some { cls:=.type "list",data:=.seq vs.toArray }->IntsAre vs ns->ns.length≤n->s₁.gens=#[] →
   codeAny (model l.prog w) callerA (.call (.ref fa) ⟨[.ref a],[]⟩) (fun r s'=>r=.ok (.ret (.bool true))∧OldK s₁.heap s'.heap∧s'.os=s₁.os∧AllBare s'.gens) s₁) :
  WalkO q loose XP YP l.row.toRowW d [] (fun f vs=>PySem.call f vs):=by
 intro w s₀ s₁ mg mb G Y fa o pm cd doc dV kV ho hd hcd hD hmg hg args vals as hpre hlay hrd hwl hlo;obtain rfl:dV=.none:=Dflts.none hD hdf;obtain rfl:kV=.none:=Dflts.noKw hD;obtain ⟨a,vs,ns,rfl,rfl,hobj,hints,hlen⟩:=Zi1 hn hpre hwl;refine enter_call (RO (call w s₀ s₁ mg mb fa o pm cd doc a vs ns G Y ho (fd_plain hd) hcd hmg hobj hints hlen hg) fun r s' hq=>?_);obtain ⟨rfl,h2,h3,h4⟩:=hq;exact ⟨.inl ⟨.bool true,.bool true,[],rfl,fun _=>rfl,.bool true,ZkG l _,fun _=>⟨List.Pairwise.nil,fun _ hm=>(nomatch hm)⟩⟩,h2,h3,h4⟩
section
variable {prog:Program} {w:World} {A:Around} {E:Value->Shared->Prop} {s:Shared} {K:Frag}
end
end Att
namespace L2
open PySem PySem.Spec PyProof.Rows
theorem ZgZ:∀{vs:List Value} {ns:List Int},IntsAre vs ns->Vals (ns.map V.int) vs
 |_,_,.nil=>.nil
 |_,_,.cons n t h=>.cons ⟨t,rfl⟩ (ZgZ h)
noncomputable def XG (s:Stmt) (j:Nat):Stmt:=match s with
 |.ClassDef _ _ _ body _ _ _ _ _ _ _=>body.getD j (.Pass ⟨0,0,0,0⟩)
 |_=>.Pass ⟨0,0,0,0⟩
noncomputable def Xo (s:Stmt):Arguments:=match s with
 |.FunctionDef _ a _ _ _ _ _ _ _ _=>a
 |_=>{ posonlyargs:=[],args:=[],vararg:=none,kwonlyargs:=[],kw_defaults:=[],kwarg:=none,defaults:=[] }
noncomputable def Y0 (s:Stmt):List Stmt:=match s with
 |.FunctionDef _ _ b _ _ _ _ _ _ _=>b
 |_=>[]
noncomputable def Zz (s:Stmt):Scope:=match s with
 |.FunctionDef _ _ _ _ _ _ sc _ _ _=>sc
 |_=>{ kind:=.function,names:=[],isGenerator:=false,isCoroutine:=false }
abbrev E0:XK:=fun _ _ _=>False
structure Fun (K:W.Frag) (x qual:Str) (st:Stmt) (f:Addr) (fd:FuncData):Prop where
 ex:∃(oc:Value) (od:Option Addr) (kV doc pm:Value) (an:Option Addr) (cdv ct:Value) (osl:Array (Option Value)),
  fd=W.fnOf x qual (Xo st) (Y0 st) (Zz st) .none kV doc pm an cdv ct∧K.lookup f=some ⟨oc,od,.func fd,osl⟩∧W.codeIn K cdv qual=true
 kp:W.keepIn K (.ref f)=true
section
variable {P:Program} {w:World} {K:W.Frag} {mg:Str->Option Value} {base:Heap}
theorem Fun.binds {x qual:Str} {st:Stmt} {f:Addr} {fd:FuncData} {ps:List Str} (F:Fun K x qual st f fd)
  (h:∀(kV doc pm:Value) (an:Option Addr) (cdv ct:Value) (us:List Value),us.length=ps.length->bindArgs (W.fnOf x qual (Xo st) (Y0 st) (Zz st) .none kV doc pm an cdv ct) ⟨us,[]⟩=pure (ps.zip us)):Binds K fd ps []:=by
 obtain ⟨oc,od,kV,doc,pm,an,cdv,ct,osl,rfl,lk,hcd⟩:=F.ex;exact .all (h kV doc pm an cdv ct)
theorem Zlg {x qual:Str} {st:Stmt} {f:Addr} {oc:Value} {od an:Option Addr} {osl:Array (Option Value)} {kV doc pm cdv ct:Value} (l:K.lookup f=some ⟨oc,od,.func (W.fnOf x qual (Xo st) (Y0 st) (Zz st) .none kV doc pm an cdv ct),osl⟩)
  (c:W.codeIn K cdv qual=true) (k:W.keepIn K (.ref f)=true):Fun K x qual st f (W.fnOf x qual (Xo st) (Y0 st) (Zz st) .none kV doc pm an cdv ct):=⟨⟨oc,od,kV,doc,pm,an,cdv,ct,osl,rfl,l,c⟩,k⟩
end
theorem ZX {A:Around} {k:Nat} (hr:Room k A):A.units+1<cLine:=R3 (Nat.add_le_add_left (by decide:1≤64) _) hr.units
theorem Zw {n:Nat} (h:n≤1000):n<sizeLine:=R3 h (by decide)
section
variable {X:Cx}
theorem pv (i:Nat) {x:Str} {pos:Pos} (hN:X.N[i]?=some x:=by rfl) (hv:Js X.env.scope x:=by first|exact Or.inl rfl|exact Or.inr (Or.inl rfl)|exact Or.inr (Or.inr rfl)) (hd:(x==("__debug__" : Str))=false:=by decide)
  (hcd:(x==("__classdict__" : Str))=false:=by decide):PE X (.Name x pos) (Jx i):=Zb7 hN hv hd hcd
theorem Zbh:YG X (.builtin "len") (fun xs H Q=>∃a kvs,xs=[V.ref a]∧H a=some (.dK kvs)∧Q (.int kvs.length) H):=by
 intro pins s σ H xs us Q I r h;obtain ⟨a,kvs,rfl,ha,q⟩:=h;obtain ⟨u,rfl,ru⟩:=Xa r;cases ru;exact ZmQ I (.inl ha) fun t s' I'=>⟨.int kvs.length,H,I',⟨t,rfl⟩,q⟩
end
theorem ZY {A B:Prop} (h:B):if false=true then A else B:=by
 rw [Qa QA];exact h
theorem Z4 {A B:Prop} (h:A):if true=true then A else B:=by
 rw [Qc rfl];exact h
def Same (H H':Hp):Prop:=∀b o,H b=some o->H' b=some o
theorem Same.refl (H:Hp):Same H H:=fun _ _ h=>h
theorem Same.trans {H H1 H2:Hp} (a:Same H H1) (b:Same H1 H2):Same H H2:=fun c o h=>b c o (a c o h)
section
variable {κ:Type} [DecidableEq κ]
end
end L2
set_option maxHeartbeats 4000000
namespace L2
open PySem PySem.Spec PyProof.Rows
section
variable {P:Program} {w:World} {H H':Hp} {h h':Heap} {a:Addr} {o:HO}
theorem HOk.lean (x:HOk P w H h) (k:∀b u,H b≠none->h.get? b=some u->h'.get? b=some u):HOk P w H h':=fun b u e =>
 (x b u e).stay (fun c v hc q=>k c v (by
  rcases hc with rfl|hc
  ·rw [e];simp
  ·rw [hc];simp) q) (fun _ q=>q) fun _ _ q=>q
end
structure Flies (P:Program) (w:World) (outer:List Env) (H H':Hp) (s s':Shared) (e:Addr) (cls:Value):Prop where
 os:s'.os=s.os
 bare:AllBare s'.gens
 un:Un (Yr outer) [] H H' s.heap s'.heap
 fly:∃B a0,Heap.FlyingW B outer e cls a0 s'.heap∧HOk P w H' B∧(∀b o,s.heap.get? b=some o->H b=none->b∉Yr outer->B.get? b=some o) ∧
  ∀b o,s.heap.get? b=some o->b∉Yr outer->∃o',B.get? b=some o'
noncomputable def ZE (P:Program) (w:World):Yw:=fun outer H s E u s'=>∃e cls H',u=.ref e∧Flies P w outer H H' s s' e cls∧E cls none H'
section
variable {X:Cx} {pins:List (Addr×Obj)} {σ:St} {H H':Hp} {s s':Shared} {e:Addr} {cls:Value}
theorem Flies.inv (f:Flies X.prog X.w X.stack H H' s s' e cls) (I:Inv X pins σ H s):Inv X pins σ H' s':=by
 obtain ⟨B,a0,fl,hB,_,_⟩:=f.fly;exact I.call' (ch:=[]) f.os f.un (hB.kept fl.1) f.bare (fun b z=>absurd z (by simp))
theorem Inv.nst (I:Inv X pins σ H s) {b:Addr} {o:Obj} (q:X.s₀.heap.get? b=some o) (hb:b∉X.fs):b∉Yr X.stack:=fun z=>by
 rcases Qh.mp (I.stkSub b z) with y|y
 ·exact absurd (Qz (Qg q) I.ok.above) (by rw [y];exact QP _)
 ·exact hb y
theorem Flies.leaves {M:Model} {Q:Unit->Shared->Prop} {E:Value->Shared->Prop} (f:Flies X.prog X.w X.stack H H' s s' e cls) (I:Inv X pins σ H s)
  (hs:X.stack=X.env::X.outer) (hf:X.env.frame=some X.env.locals) (hx:X.ex=[])
  (hQ:∀s'',Flies X.prog X.w X.outer X.H₀ H' X.s₀ s'' e cls->Q () s''):wpAny M X.A (leaving X.env (.ref e)) Q E s':=by
 have J:=f.inv I;obtain ⟨B,a0,fl,hB,kB,tB⟩:=f.fly;rw [hs] at fl;have nx:∀b:Addr,b∉X.ex:=fun b=>by rw [hx];simp
 refine wpAny_leaves_onW (by rw [I.ok.frames,hs]) hf fl fun h' fl' up=>hQ _ ?_
 have slot:∀b o,X.s₀.heap.get? b=some o->b∈X.fs->∃sl,h'.get? b=some { o with slots:=sl }:=fun b o q hb=>by
  obtain ⟨sl,e1⟩:=J.base.slot b o q (I.ok.frf b hb) hb (nx b);obtain ⟨_,o',ho',hn⟩:=J.funs.mem hb;rw [e1] at ho';cases ho';obtain ⟨sl',e2⟩:=up b _ e1 hn;exact ⟨sl',e2⟩
 have keepB:∀b o,X.s₀.heap.get? b=some o->X.H₀ b=none->b∉X.fs->B.get? b=some o:=fun b o q n hb =>
  kB b o (I.base.keep b o q n hb (nx b)) (I.base.free b o q n (nx b)) (I.nst q hb)
 have thereB:∀b o,X.s₀.heap.get? b=some o->b∉X.fs->∃o',B.get? b=some o':=fun b o q hb=>by
  obtain ⟨o1,e1⟩:=I.base.there b o q (nx b);exact tB b o1 e1 (I.nst q hb)
 refine ⟨J.os,J.bare,⟨fun b o q n hb _=>fl'.1 b o (keepB b o q n hb),fun b o q _ hb _=>slot b o q hb,fun b o q n _=>J.base.free b o q n (nx b),fun b o q _=>?_,J.base.tups,J.base.frzs,J.base.tbls⟩,
  B,a0,fl',hB,keepB,thereB⟩
 by_cases hb:b∈X.fs
 ·obtain ⟨sl,e2⟩:=slot b o q hb;exact ⟨_,e2⟩
 ·obtain ⟨o1,e1⟩:=thereB b o q hb;exact ⟨o1,fl'.1 b o1 e1⟩
theorem Zl3 {M:Model} {Q:Unit->Shared->Prop} {E:Value->Shared->Prop} {h1:Heap} {vs:List Value} (I:Inv X pins σ H s) (mk:Heap.MadeExcOf s.heap h1 e cls vs)
  (hs:X.stack=X.env::X.outer) (hf:X.env.frame=some X.env.locals) (hx:X.ex=[])
  (hQ:∀s'',Flies X.prog X.w X.outer X.H₀ H X.s₀ s'' e cls->Q () s''):wpAny M X.A (leaving X.env (.ref e)) Q E { s with heap:=h1 }:=by
 have nx:∀b:Addr,b∉X.ex:=fun b=>by rw [hx];simp
 have hid:∀b o,s.heap.get? b=some o->b∉Yr X.stack->(W.hideAll s.heap (Yr X.stack)).get? b=some o:=fun b o q n=>W.hideAll_get _ q n
 have FF:s.heap.FunFrames (W.hideAll s.heap (Yr X.stack)) X.stack :=
  W.funFrames_hide I.stack fun env he a ha=>Rj.mpr ⟨env,he,ha⟩
 have hB:HOk X.prog X.w H (W.hideAll s.heap (Yr X.stack)):=I.hok.lean fun b u n q=>hid b u q fun z=>n (I.stkFree b z);have sub:∀b o,(W.hideAll s.heap (Yr X.stack)).get? b=some o->s.heap.get? b=some o:=fun b o q=>W.of_hideAll _ q;generalize W.hideAll s.heap (Yr X.stack)=B at *;rw [hs] at FF;refine wpAny_leaves_madeW (s:={ s with heap:=h1 }) (by rw [I.ok.frames,hs]) hf sub FF mk fun h' t fl' _ _ up=>hQ _ ?_
 have slot:∀b o,X.s₀.heap.get? b=some o->b∈X.fs->∃sl,h'.get? b=some { o with slots:=sl }:=fun b o q hb=>by
  obtain ⟨sl,e1⟩:=I.base.slot b o q (I.ok.frf b hb) hb (nx b);obtain ⟨_,o',ho',hn⟩:=I.funs.mem hb;rw [e1] at ho';cases ho';obtain ⟨sl',e2⟩:=up b _ (mk.keeps _ _ e1) hn;exact ⟨sl',e2⟩
 have keepB:∀b o,X.s₀.heap.get? b=some o->X.H₀ b=none->b∉X.fs->B.get? b=some o:=fun b o q n hb =>
  hid b o (I.base.keep b o q n hb (nx b)) (I.nst q hb)
 have thereB:∀b o,X.s₀.heap.get? b=some o->b∉X.fs->∃o',B.get? b=some o':=fun b o q hb=>by
  obtain ⟨o1,e1⟩:=I.base.there b o q (nx b);exact ⟨o1,hid b o1 e1 (I.nst q hb)⟩
 refine ⟨I.os,I.bare,⟨fun b o q n hb _=>fl'.1 b o (keepB b o q n hb),fun b o q _ hb _=>slot b o q hb,fun b o q n _=>I.base.free b o q n (nx b),fun b o q _=>?_,I.base.tups,I.base.frzs,I.base.tbls⟩,
  _,_,fl',hB,keepB,thereB⟩
 by_cases hb:b∈X.fs
 ·obtain ⟨sl,e2⟩:=slot b o q hb;exact ⟨_,e2⟩
 ·obtain ⟨o1,e1⟩:=thereB b o q hb;exact ⟨o1,fl'.1 b o1 e1⟩
end
abbrev XS:=St->XK
def W7 (CX:Yw) (X:Cx) (E:XS):Prop:=∀(pins:List (Addr×Obj)) (σ:St) (H:Hp) (s:Shared) (e:Value) (s':Shared),Inv X pins σ H s->CX X.stack H s (E σ) e s'->X.xe e s'
def Zgz (X:Cx) (E:XS):Prop:=∀(pins:List (Addr×Obj)) (σ:St) (H:Hp) (s:Shared) (h1:Heap) (e:Addr) (cls:Value) (vs:List Value),Inv X pins σ H s->Heap.MadeExcOf s.heap h1 e cls vs->E σ cls none H->X.xe (.ref e) { s with heap:=h1 }
theorem Zy {P:Program} {w:World} {X:Cx}:W7 (ZE P w) X (fun _=>E0):=fun _ _ _ _ _ _ _ ⟨_,_,_,_,_,z⟩=>False.elim z
section
variable {P:Program} {w:World} {K:W.Frag} {mg:Str->Option Value} {base:Heap} {N:List Str} {qual:Str} {scope:Scope} {f:Addr} {cd:Value} {A:Around} {outer:List Env} {s:Shared} {H:Hp} {E:XK}
theorem Y5:W7 (ZE P w) (WG (ZE P w) P w K mg base N qual scope f cd A outer s H E) (fun _=>E):=by
 rintro pins σ H1 s1 u s' I ⟨e,cls,H',rfl,fl,q⟩;exact fl.leaves I rfl rfl rfl fun s'' f''=>⟨e,cls,H',rfl,f'',q⟩
theorem Vx:Zgz (WG (ZE P w) P w K mg base N qual scope f cd A outer s H E) (fun _=>E):=by
 intro pins σ H1 s1 h1 e cls vs I mk q;exact Zl3 I mk rfl rfl rfl fun s'' f''=>⟨e,cls,H1,rfl,f'',q⟩
end
section
variable {X:Cx} {CX:Yw} {k:Nat} {f C:Addr} {fd:FuncData} {ps:List Str} {sp:Sp} {dvs:List V} {ds:List Value} {E:XS} {x m:Str} {p pos apos:Pos} {e o:Expr} {es:List Expr} {ta:TE} {t:TA}
def Zd1 (sp:Sp) (dvs:List V) (E:XS) (t:TA):TE:=fun σ H Q=>t σ H fun vs H1=>sp (vs++dvs) H1 Q (E σ)
theorem Zgo {pins:List (Addr×Obj)} {σ:St} {H:Hp} {s:Shared} {Q:VK} {us:List Value} {vs:List V} (F:FnOk X.prog X.w X.K X.mg X.base CX k f fd ps sp) (hr:Room k X.A) (hb:Binds X.K fd ps ds) (hd:Vals dvs ds) (hx:W7 CX X E)
  (I:Inv X pins σ H s) (r:Vals vs us) (h:sp (vs++dvs) H Q (E σ)):wpAny (model X.prog X.w) X.A (call (.ref f) us) (EP X pins σ Q) X.xe s:=by
 have r2:Vals (vs++dvs) (us++ds):=r.append hd;have hl:(us++ds).length=ps.length:=by rw [←r2.length];exact F.len _ _ _ _ h
 refine RZ (RO (F.run X.A X.stack s H ⟨us,[]⟩ (us++ds) (vs++dvs) Q (E σ) hr I.env0 (hb s us I.kIn hl) r2 h) fun r s' hq=>?_);cases r with
 |error e=>exact hx pins σ H s e s' I hq
 |ok fl =>
  cases fl with
  |ret u=>exact I.after hq
  |next=>exact False.elim hq
  |brk=>exact False.elim hq
  |cont=>exact False.elim hq
theorem ZlE (F:FnOk X.prog X.w X.K X.mg X.base CX k f fd ps sp) (hr:Room k X.A) (hg:Gl X x) (hm:X.mg x=some (.ref f)) (hk:W.keepIn X.K (.ref f)=true) (hb:Binds X.K fd ps ds) (hd:Vals dvs ds) (hx:W7 CX X E)
  (ha:PA X (e::es) t) (hdb:(x==("__debug__" : Str))=false:=by decide) (he:starEach (e::es) X.env=(false,eval e X.env)::starEach es X.env:=by rfl) (hpl:(backTo pos (starEach es X.env)).any (·.1)=false:=by rfl) :
  PE X (.Call (.Name x p) (e::es) [] pos) (Zd1 sp dvs E t):=by
 intro pins s σ H Q I h;refine Rv (Jd I hg hm ?_ hdb);refine Gi (h₀:=X.base) I.ok.mod.kin hk (Zr (ha pos pins s σ H _ I h) fun us s1 ⟨vs,H1,I1,r,q⟩=>⟨I1.kIn,?_⟩) he hpl;exact Zgo F hr hb hd hx I1 r q
end
section
variable {K:W.Frag} {h:Heap} {C:Addr} {bmB:List Value} {newId:String}
theorem Zmp (X:K.In h) (q:W.excIn K C bmB newId=true):∃bm N nm qn bs hdct sn sub ab col dd k0 k1 k2 k3 k5 mN,
  h.get? C=some (excClassObj nm qn C N bs bm hdct sn sub ab col dd k0 k1 k2 k3 k5 newId)∧h.Ns N mN∧mN "__init__"=none∧OwnTail h bmB bm:=by
 unfold W.excIn at q;split at q
 case h_2=>cases q
 case h_1 dict0 cdat slots0 found =>
  split at q
  case h_2=>cases q
  case h_1 C1 rest0 s0 s1 s2 s3 nid s5 mroEq slEq =>
   simp only [Rm,Ru,No] at q;have q1:=q.1.1.1.1.1;have q2:=q.1.1.1.1.2;have q3:=q.1.1.1.2;have q4:=q.1.1.2;have q5:=q.1.2;have q6:=q.2;subst q1 q2;cases cdat with
   |mk nmX basesX mroX nsX qualX hdX snX subX abX colX delX =>
    dsimp only at mroEq q3 q5 q6;subst mroEq;subst q3
    have es:slots0=#[s0,s1,s2,s3,some (.builtin nid),s5]:=by
     cases slots0 with
     |mk l=>exact Qu _ slEq
    subst es;exact ⟨rest0,nsX,nmX,qualX,basesX,hdX,snX,subX,abX,colX,dict0,s0,s1,s2,s3,s5,_,X _ _ found,.of_isNs (W.isNs_of_in X q5),W.nsMap_none_of_in X q5 q6,W.tail_of_in X q4⟩
end
section
variable {X:Cx} {x:Str} {C:Addr} {np cpos pos:Pos} {e₀:Expr} {rest:List Expr} {t:TA} {bmB:List Value} {newId B initId:String} {E:XS}
def Zj5 (C:Addr) (E:XS) (t:TA):TS:=fun _ σ H=>t σ H fun vs H1=>vs.length≤sizeLine∧E σ (.ref C) none H1
theorem VN (hg:Gl X x) (hm:X.mg x=some (.ref C)) (q:W.excIn X.K C bmB newId=true) (FB:ExcBaseFacts B newId initId bmB) (hc:X.calm=true) (hx:Zgz X E) (ha:PA X (e₀::rest) t)
  (hd:(x==("__debug__" : Str))=false:=by decide) (he:starEach (e₀::rest) X.env=(false,eval e₀ X.env)::starEach rest X.env:=by rfl) (hpl:(backTo cpos (starEach rest X.env)).any (·.1)=false:=by rfl) :
  PS X (.Raise (some (.Call (.Name x np) (e₀::rest) [] cpos)) none pos) (Zj5 C E t):=by
 intro pins s σ H D I h;obtain ⟨bm,N,nm,qn,bs,hdct,sn,sub,ab,col,dd,k0,k1,k2,k3,k5,mN,hC,hN,hni,T⟩:=Zmp I.mod.kin q
 have hpl':(backTo cpos (starEach (e₀::rest) X.env)).any (·.1)=false:=by
  rw [he];exact hpl
 refine wpAny_Raise_call_subT (C:=C) (nm:=nm) (q:=qn) (N:=N) (bs:=bs) (bm:=bm) (hdct:=hdct) (sn:=sn) (sub:=sub) (ab:=ab) (col:=col) (dd:=dd) (k0:=k0) (k1:=k1) (k2:=k2)
  (k3:=k3) (k5:=k5) FB (mN:=mN) (T.hasType FB.hasBase) (I.ok.hd hc) hpl' hni (Jd I hg hm ⟨rfl,?_⟩ hd)
 have g:=ha cpos pins s σ H _ I h;rw [he] at g ⊢;refine Gg (Ra g (fun us s1 r1=>?_) fun _ _ y=>y);obtain ⟨vs,H1,I1,rv,z,q1⟩:=r1;exact ⟨rfl,by rw [←rv.length];exact z,I1.bk _ _ hC,hN.keeps I1.bk,T.keeps I1.bk,fun h1 e mk=>hx pins σ H1 s1 h1 e (.ref C) us I1 mk q1⟩
end
def ZgI (cls:Value) (e:Addr):Heap->Prop:=fun h=>∃o vs,h.get? e=some o∧o.cls=cls∧o.data=.fields vs
noncomputable def Zgy (cls:Value) (e:Addr):HO:=.ext (ZgI cls e)
section
variable {P:Program} {w:World} {H H':Hp} {h h':Heap} {a:Addr} {o:HO}
end
section
variable {P:Program} {w:World} {outer:List Env} {H H':Hp} {s s':Shared} {e:Addr} {cls:Value}
end
section
variable {X:Cx} {pins:List (Addr×Obj)} {σ:St} {H H':Hp} {s s':Shared} {e:Addr} {cls:Value}
end
section
variable {X:Cx} {pins pins':List (Addr×Obj)} {σ:St} {H H':Hp} {s s':Shared} {W:Value->Shared->Prop} {e:Addr}
end
section
variable {X:Cx} {body suite:List Stmt} {b₀:Stmt} {x n:Str} {C:Addr} {np hpos pos:Pos} {bmB:List Value} {newId:String} {i:Nat} {tb:XS->TS} {ts:TS}
end
structure ExcK (K:W.Frag) (C:Addr):Prop where
 ga:W.findIn K (.ref C) "__getattribute__"=some (some (.builtin "BaseException.__getattribute__"))
 gt:W.findIn K (.ref C) "__getattr__"=some none
 cl:W.findIn K (.ref C) "__class__"=some (some (.builtin "object.__class__"))
 mb:W.mroIn K C (.type "BaseException")=some true
 mo:W.mroIn K C (.type "object")=some true
section
variable {prog:Program} {w:World} {A:Around} {E:Value->Shared->Prop} {K:W.Frag} {h:Heap} {g:Array GenState} {d:Drawn} {t:Nat} {os:OsState} {a C:Addr} {ob:Obj}
theorem ZjQ:(".".intercalate ("object.__class__".cutAt '.').dropLast)="object":=by decide +kernel
theorem Zie {R:Result->Shared->Prop} (X:K.In h) (Z:ExcK K C) (hx:h.get? a=some ob) (hc:ob.cls=.ref C) (hq:R (.ok (.ret (.ref C))) ⟨h,g,d,t,os⟩) :
  codeAny (model prog w) A (.call (.builtin "getset_descriptor.__get__") ⟨[.builtin "object.__class__",.ref a,.ref C],[]⟩) R ⟨h,g,d,t,os⟩:=by
 have k5:(⟨h,g,d,t,os⟩:Shared).TypeIs (.builtin "object.__class__") "getset_descriptor":=Np
 have mo:W.Looks (model prog w) h (isSubtype (.ref C) (.type (".".intercalate ("object.__class__".cutAt '.').dropLast))) true:=by
  rw [ZjQ];exact W.looks_mroIn X Z.mo
 refine codeAny_call_builtin F.slot_gs_get.plain F.entry_gs_get (F.slot_gs_get.check _ _ _ _ _ _ _ _ k5 (F.args_gs_get _ _ _) ?_)
 repeat (any_goals (first|assumption|(with_reducible refine Gj hx ?_;rw [hc])|(with_reducible refine mo.at ?_)|wp_step))
 refine ⟨Nq _ (by decide +kernel),Gk F.entry_object_class ?_⟩
 repeat (any_goals (first|assumption|(with_reducible refine Gj hx ?_;rw [hc])|wp_step))
theorem Zid {tk:Tok} {Q:Fin->Shared->Prop} (X:K.In h) (Z:ExcK K C) (hx:h.get? a=some ob) (hc:ob.cls=.ref C) (hq:Q (.done (.ret (.ref C))) ⟨h,g,d,t,os⟩) :
  wpAny (model prog w) A (Builtin.«object.__getattribute__» ⟨[.ref a,.str "__class__" tk],[]⟩) Q E ⟨h,g,d,t,os⟩:=by
 have k5:(⟨h,g,d,t,os⟩:Shared).TypeIs (.builtin "object.__class__") "getset_descriptor":=Np;have f5:=Np;have f6:=F.slot_gs_get.lookup;have f7:=F.slot_gs_set.lookup;have lc:=GA (M:=model prog w) X Z.cl
 repeat (any_goals (first|assumption|(with_reducible refine Gj hx ?_;rw [hc])|(with_reducible refine lc.at ?_)|wp_step))
 refine Zie X Z hx hc ?_
 repeat (any_goals (first|assumption|wp_step))
theorem ZhY {M:Model} {nameV:Value} {Q:Unit->Shared->Prop} (X:K.In h) (Z:ExcK K C) (hx:h.get? a=some ob) (hc:ob.cls=.ref C) (hq:Q () ⟨h,g,d,t,os⟩) :
  wpAny M A (checkBuiltinCall "BaseException.__getattribute__" ⟨[.ref a,nameV],[]⟩) Q E ⟨h,g,d,t,os⟩:=by
 have kd:builtinKind "BaseException.__getattribute__"=some .slot:=by decide +kernel
 have sp:splitId "BaseException.__getattribute__"=some ("BaseException","__getattribute__"):=by decide +kernel
 have mb:=W.looks_mroIn (M:=M) X Z.mb;have ar:=F.args_bexc_ga (.ref a) nameV;simp only [checkBuiltinCall,kd,sp];refine Qb ?_;unfold isInstance
 repeat (first|(with_reducible refine Gj hx ?_;rw [hc])|(with_reducible refine mb.at ?_)|wp_step)
 exact hq
theorem Zj8 {tk:Tok} {R:Result->Shared->Prop} (X:K.In h) (Z:ExcK K C) (hx:h.get? a=some ob) (hc:ob.cls=.ref C) (hq:R (.ok (.ret (.ref C))) ⟨h,g,d,t,os⟩) :
  codeAny (model prog w) A (.call (.builtin "BaseException.__getattribute__") ⟨[.ref a,.str "__class__" tk],[]⟩) R ⟨h,g,d,t,os⟩ :=
 codeAny_call_builtin (F.excAttr_ValueError).ga.plain F.entry_bexc_ga (ZhY X Z hx hc (Zid X Z hx hc hq))
theorem ZjM {tk:Tok} {fill expr:Bool} {Q:Value->Shared->Prop} (X:K.In h) (Z:ExcK K C) (hx:h.get? a=some ob) (hc:ob.cls=.ref C) (hq:Q (.ref C) ⟨h,g,d,t,os⟩) :
  wpAny (model prog w) A (getAttrBy (.ref a) (.str "__class__" tk) fill expr) Q E ⟨h,g,d,t,os⟩:=by
 have f3:=(F.excAttr_ValueError).ga.bind (.ref a);have y0:(expr&&onTheHeap (Value.builtin "BaseException.__getattribute__"))=false:=by cases expr<;>rfl
 have y2:(Value.builtin "BaseException.__getattribute__"==Value.builtin "object.__getattribute__")=false:=by decide +kernel
 have y1:(onTheHeap (Value.ref C)&&Value.builtin "BaseException.__getattribute__"==Value.builtin "object.__getattribute__")=false:=by rw [y2];rfl
 have lg:=GA (M:=model prog w) X Z.ga;have lt:=GA (M:=model prog w) X Z.gt
 repeat (any_goals (first|assumption|(with_reducible refine Gj hx ?_;rw [hc])|(with_reducible refine lg.at ?_)|(with_reducible refine lt.at ?_)|wp_step))
 refine Zj8 X Z hx hc ?_
 repeat (any_goals (first|assumption|wp_step))
theorem Zlq {Q:Option Value->Shared->Prop} (X:K.In h) (Z:ExcK K C) (hx:h.get? a=some ob) (hc:ob.cls=.ref C) (hq:Q (some (.ref C)) ⟨h,g,d,t+1,os⟩) :
  wpAny (model prog w) A (getAttr? (.ref a) "__class__") Q E ⟨h,g,d,t,os⟩:=by
 unfold getAttr? getAttrBy?
 repeat (any_goals (first|assumption|with_reducible apply ZjM X Z hx hc|wp_step))
end
section
variable {K:W.Frag} {a C:Addr}
theorem Zh1 (Z:ExcK K C):W.KitX K (.ref a) (.ref C) (ZgI (.ref C) a) where
 ty:=fun M h X p=>by
  obtain ⟨o,vs,h1,h2,_⟩:=p;exact h2▸(W.Looks.ld h1).andThen .now
 it:=fun M h X p=>by
  obtain ⟨cd,hc,_⟩:=NN.mp Z.mo;unfold W.clsIn at hc;split at hc
  ·rename_i ho;intro A' Q' E' s' k q;unfold isType loadHead;exact Qb (wpAny_loadPart (k _ _ (X _ _ ho)) (Qe q))
  ·cases hc
 ne:=fun h tp dd its n sl X htp=>by
  obtain ⟨cd,hc,_⟩:=NN.mp Z.mo;refine Rn.mpr fun q=>?_;have e:C=tp:=Value.ref.inj (Ru.mp q);subst e;unfold W.clsIn at hc;split at hc
  ·rename_i ho;have z:=(X _ _ ho).symm.trans htp;cases z
  ·cases hc
 ca:=fun {prog w A E Q s} X p k=>by
  obtain ⟨h,g,d,t,os⟩:=s;obtain ⟨o,vs,h1,h2,_⟩:=p;exact Zlq X Z h1 h2 k
end
inductive Kd (K:W.Frag) (H:Hp):V->Value->Prop where
 |of {x:V} {t:Value} (e:TyOf K H x t):Kd K H x t
 |exc {a C:Addr} (Z:ExcK K C) (e:H a=some (Zgy (.ref C) a)):Kd K H (.ref a) (.ref C)
 |sqt {a:Addr} {xs:List V} (e:SqT K H a xs):Kd K H (.ref a) (.type "tuple")
 |sql {a:Addr} {xs:List V} (e:SqL K H a xs):Kd K H (.ref a) (.type "list")
noncomputable def isC:V->Bool
 |.ref _=>true
 |.ty _=>true
 |_=>false
noncomputable def ZcF:V->Value
 |.ref a=>.ref a
 |.ty n=>.type n
 |_=>.none
section
variable {X:Cx} {A:Around}
theorem Zoo:YG X (.builtin "isinstance") (fun xs H Q=>∃x c t b,xs=[x,c]∧isC c=true∧Kd X.K H x t∧W.kitOne X.K t (ZcF c)=some b∧Q (.bl b) H):=by
 intro pins s σ H xs us Q I r h;obtain ⟨x,c,t,b,rfl,ic,ty,e,q⟩:=h;obtain ⟨u,v,rfl,rx,rc⟩:=Vy r
 have ec:ZcF c=v:=by
  cases c with
  |ref a=>exact Eq.symm rc
  |ty n=>exact Eq.symm rc
  |_=>cases ic
 rw [ec] at e;have fin:∀tk,EP X pins σ Q (.bool b) { s with toks:=tk }:=fun tk=>⟨.bl b,H,I.tok tk,rfl,q⟩;cases ty with
 |of ty=>exact Zmc I rx ty e fin
 |@exc a C Z ea =>
  cases (show u=Value.ref a from rx);obtain ⟨p,_,_⟩:=(show ObjOk X.prog X.w H s.heap a (Zgy (.ref C) a) from I.hok a _ ea);exact QV (Zh1 Z) I.kIn p e (fun z=>nomatch z) fin
 |@sqt a ys ea =>
  cases (show u=Value.ref a from rx);rcases ea with ea|⟨o,its,n,h1,h2,_⟩
  ·obtain ⟨_,_,_,p⟩:=(show ObjOk X.prog X.w H s.heap a (.tup ys) from ea.ok I.hok);obtain ⟨o,h1,h2,_⟩:=p;exact QV W.kitx_tuple I.kIn ⟨o,h1,h2⟩ e (fun z=>nomatch z) fin
  ·exact QV W.kitx_tuple I.kIn ⟨o,I.kIn _ _ h1,h2⟩ e (fun z=>nomatch z) fin
 |@sql a ys ea =>
  cases (show u=Value.ref a from rx);rcases ea with ea|⟨o,its,n,h1,h2,_⟩
  ·obtain ⟨_,_,n,_,h1⟩:=(show ObjOk X.prog X.w H s.heap a (.lst ys) from ea.ok I.hok);exact QV GB I.kIn ⟨_,h1,rfl⟩ e (fun z=>nomatch z) fin
  ·exact QV GB I.kIn ⟨o,I.kIn _ _ h1,h2⟩ e (fun z=>nomatch z) fin
def Zno (i j:Int):Prop:=i.natAbs<2 ^ 1000∧j.natAbs<2 ^ 1000
theorem Zf4 {x:Int} (h:x.natAbs<2 ^ 1000):Builtin.Int.intBits x≤2 ^ 20:=by
 unfold Builtin.Int.intBits;split
 ·exact QK _
 ·rename_i z
  have n:x.natAbs≠0:=by
   intro q;exact z (by rw [Int.natAbs_eq_zero.mp q];rfl)
  have:=(Nat.log2_lt n).mpr h;omega
theorem Za2:Yg X (binaryOp .Mult) (rI Zno fun i j=>.int (i*j)):=Jm fun _ _ _ _ _ _ _ hc q=>mul_int q (.of_bits (Zf4 hc.1) (Zf4 hc.2))
theorem Y4:Yg X (binaryOp .FloorDiv) (rI (fun _ j=>j≠0∧j.natAbs<2 ^ 1000) fun i j=>.int (i.fdiv j)):=Jm fun i j _ _ _ _ _ hc q =>
 floordiv_int hc.1 q (.inl (PyProof.noPylong_of_log2 (by
  have n:j.natAbs≠0:=fun z=>hc.1 (Int.natAbs_eq_zero.mp z);have:=(Nat.log2_lt n).mpr hc.2;omega)))
theorem Fun.okX {P:Program} {w:World} {K:W.Frag} {mg:Str->Option Value} {base:Heap} {CX:Yw} {x qual:Str} {st:Stmt} {f:Addr} {fd:FuncData} {N ps:List Str} {k:Nat} {sp:Sp} (F:Fun K x qual st f fd) (S:FnScope N ps (Zz st))
  (len:∀vs H Q E,sp vs H Q E->vs.length=ps.length)
  (hbody:∀(cdv:Value) (A:Around) (outer:List Env) (s:Shared) (H:Hp) (vs:List V) (Q:VK) (E:XK),Room k (A.deeper (envOfC qual (Zz st) s.heap.objs.size f cdv))->sp vs H Q E →
   ∃t,PSs (WG CX P w K mg base N qual (Zz st) f cdv A outer s H E) (Y0 st) t∧t { nx:=fun _ H'=>Q .non H',rt:=Q } (start N vs) H):FnOk P w K mg base CX (k+1) f fd ps sp:=by
 obtain ⟨oc,od,kV,doc,pm,an,cdv,ct,osl,rfl,lk,hcd⟩:=F.ex;exact Zdb lk hcd S len fun A outer s H vs Q E hr hsp=>hbody cdv A outer s H vs Q E hr hsp
end
theorem Zcf:bootBuiltins "int"=some (.type "int"):=by decide +kernel
theorem ZiG:bootBuiltins "bool"=some (.type "bool"):=by decide +kernel
theorem Vm:bootBuiltins "str"=some (.type "str"):=by decide +kernel
theorem ZaI:bootBuiltins "list"=some (.type "list"):=by decide +kernel
theorem ZdF:bootBuiltins "tuple"=some (.type "tuple"):=by decide +kernel
theorem Yd:bootBuiltins "len"=some (.builtin "len"):=by decide +kernel
theorem ZhV:bootBuiltins "abs"=some (.builtin "abs"):=by decide +kernel
theorem Jo:bootBuiltins "max"=some (.builtin "max"):=by decide +kernel
theorem Ui:bootBuiltins "min"=some (.builtin "min"):=by decide +kernel
theorem Zkn:bootBuiltins "isinstance"=some (.builtin "isinstance"):=by decide +kernel
abbrev XJ:List Value:=[.type "ValueError",.type "Exception",.type "BaseException",.type "object"]
theorem EB:ExcBaseFacts "ValueError" "ValueError.__new__" "ValueError.__init__" XJ:=PySem.F.excBase_ValueError
theorem Zj {H:Hp} {p:Addr} {o:HO} (n:H p=none):Same H (Zb H p o):=fun b u e=>by
 rw [Ze (ZU e n)];exact e
theorem Same.rd {H H':Hp} (e:Same H H') {a:Addr} {u:HO} (r:Rd H a u):Rd H' a u:=by
 rcases r with r|⟨o,r⟩
 ·exact .inl (e _ _ r)
 ·exact .inr ⟨o,e _ _ r⟩
theorem Same.sqt {K:W.Frag} {H H':Hp} {a:Addr} {xs:List V} (e:Same H H') (h:SqT K H a xs):SqT K H' a xs:=by
 rcases h with h|h
 ·exact .inl (e.rd h)
 ·exact .inr h
theorem Same.sql {K:W.Frag} {H H':Hp} {a:Addr} {xs:List V} (e:Same H H') (h:SqL K H a xs):SqL K H' a xs:=by
 rcases h with h|h
 ·exact .inl (e.rd h)
 ·exact .inr h
theorem Same.ty {K:W.Frag} {H H':Hp} {x:V} {t:Value} (e:Same H H') (h:TyOf K H x t):TyOf K H' x t:=by
 cases h with
 |non=>exact .non
 |bl b=>exact .bl b
 |int i=>exact .int i
 |str y=>exact .str y
 |flt y=>exact .flt y
 |lst q=>exact .lst (e _ _ q)
 |frz q=>exact .frz (e _ _ q)
 |tup q=>exact .tup (e _ _ q)
 |dK q=>exact .dK (e _ _ q)
 |dT q=>exact .dT (e _ _ q)
 |ins q c a n tk m=>exact .ins (e _ _ q) c a n tk m
theorem Same.kd {K:W.Frag} {H H':Hp} {x:V} {t:Value} (e:Same H H') (h:Kd K H x t):Kd K H' x t:=by
 cases h with
 |of q=>exact .of (e.ty q)
 |exc Z q=>exact .exc Z (e _ _ q)
 |sqt q=>exact .sqt (e.sqt q)
 |sql q=>exact .sql (e.sql q)
def ZiI (K:W.Frag) (t:TA):TE:=fun σ H Q=>t σ H fun xs H1=>∃x c ty b,xs=[x,c]∧isC c=true∧Kd K H1 x ty∧W.kitOne K ty (ZcF c)=some b∧Q (.bl b) H1
theorem XO {X:Cx} (K:W.Frag) {p pos:Pos} {e:Expr} {es:List Expr} {t:TA} (hg:Gl X "isinstance") (hm:X.mg "isinstance"=none) (ha:PA X (e::es) t) (hK:X.K=K:=by rfl)
  (he:starEach (e::es) X.env=(false,eval e X.env)::starEach es X.env:=by rfl) (hpl:(backTo pos (starEach es X.env)).any (·.1)=false:=by rfl):PE X (.Call (.Name "isinstance" p) (e::es) [] pos) (ZiI K t):=by
 subst hK;exact ZO (Zoo (X:=X)) hg hm Zkn ha (by decide) (by decide) he hpl
section
variable {K:W.Frag} {H H':Hp}
end
section
variable {X:Cx} {pins:List (Addr×Obj)} {σ:St} {H:Hp} {s:Shared}
end
section
variable {X:Cx} {pins:List (Addr×Obj)} {σ:St} {H:Hp} {s:Shared}
end
section
variable {prog:Program} {w:World} {A:Around} {R:Result->Shared->Prop} {s:Shared}
theorem Zol {elt target iter:Expr} {ifs:List Expr} {scope:Scope} {pos:Pos} {it acc:Value} {env:Env} (J:Nat->Shared->Prop)
  (turn:∀n s,J n s->wpAny (model prog w) A (pyNext it) (fun r s1=>match r with
   |none=>R (.ok .next) s1
   |some v => wpAny (model prog w) A (letOwnedTupleGo target it v) (fun _ s2 => wpAny (model prog w) A (assign target env v) (fun _ s3 =>
     wpAny (model prog w) A (forIn ifs true fun c r=>if r=true then do let ok ←isTrue c env (eval c env);pure (ForInStep.yield ok) else pure (ForInStep.yield r)) (fun ok s4 =>
      if ok=true then wpAny (model prog w) A (eval elt env) (fun x s5=>wpAny (model prog w) A (call (.builtin "list.append") [acc,x]) (fun _ s6=>∃m,m<n∧J m s6) (fun _ _=>False) s5) (fun _ _=>False) s4
      else ∃m,m<n∧J m s4) (fun _ _=>False) s3) (fun _ _=>False) s2) (fun _ _=>False) s1) (fun _ _=>False) s)
  (n:Nat) (h:J n s):codeAny (model prog w) A (.compLoop (.ListComp elt [⟨target,iter,ifs,0⟩] scope pos) 0 it acc env) R s:=by
 refine codeAny_loop rfl J (fun n s hJ=>?_) n h;show wpAny _ A ((compTurn (.ListComp elt [⟨target,iter,ifs,0⟩] scope pos) 0 it acc env).onRaise (fun x=>do noteFrame x env;theTreesLotGoes x)) _ _ s;refine wpAny_noted ?_;rw [compTurn_list];refine Qb (wpAny_standAt (Qb (Ra (turn n s hJ) (fun r s1 h1=>?_) fun _ _ z=>z.elim)));cases r with
 |none=>exact Qe h1
 |some v =>
  refine Qb (Ra h1 (fun _ s2 h2=>Qb (Ra h2 (fun _ s3 h3=>Qb (Ra h3 (fun ok s4 h4=>?_) fun _ _ z=>z.elim)) fun _ _ z=>z.elim)) fun _ _ z=>z.elim);cases ok with
  |false=>exact Qe ⟨rfl,h4⟩
  |true=>exact Qb (Qb (Ra h4 (fun x s5 h5=>Qb (Ra h5 (fun _ s6 h6=>Qe (Qe ⟨rfl,h6⟩)) fun _ _ z=>z.elim)) fun _ _ z=>z.elim))
end
def U1 (X:Cx) (ifs:List Expr) (t:TT):Prop :=
 ∀(pins:List (Addr×Obj)) (s:Shared) (σ:St) (H:Hp) (Q:Bool->Hp->Prop),Inv X pins σ H s->t σ H Q →
  wpAny (model X.prog X.w) X.A (forIn ifs true fun c r=>if r=true then do let ok ←isTrue c X.env (eval c X.env);pure (ForInStep.yield ok) else pure (ForInStep.yield r)) (TP X pins σ Q) X.xe s
def Zdv:TT:=fun _ H Q=>Q true H
theorem UZ {X:Cx}:U1 X [] Zdv:=fun _ _ _ H _ I h=>wpAny_tests_nil ⟨H,I,h⟩
theorem Wc {X:Cx} {c:Expr} {t:TT} (h:PT X c t):U1 X [c] t:=fun pins s σ H Q I q=>wpAny_tests_one (h pins s σ H Q I q)
noncomputable abbrev Cx.block (X:Cx) (N:List Str) (sc:Scope) (cl:List (Str×Addr)) (fp:List Addr) (s3:Shared) (H3:Hp):Cx :=
 { X with N:=N,s₀:=s3,H₀:=H3,env:=compEnvC sc cl s3.heap.objs.size X.env,outer:=X.stack,ex:=fp,fn:=fun _=>false,pn:=[],xe:=fun _ _=>False }
structure CompSc (X:Cx) (N:List Str) (sc:Scope) (cl:List (Str×Addr)) (σc:St->St):Prop where
 kind:sc.kind=.function
 names:∀x∈sc.names,x.2=.local->sc.names.lookup x.1=some .local
 nocell:∀y∈sc.names,y.2≠.cell
 clos:closureFor sc X.env=pure cl
 sub:∀x c,cl.lookup x=some c->X.env.cells.lookup x=some c
 has:∀x,((relabel sc X.env).names.lookup x=some .cell∨(relabel sc X.env).names.lookup x=some .free)->∃c,cl.lookup x=some c
 len:∀σ:St,(σc σ).length=N.length
 cap:∀(σ:St) (i:Nat) (x:Str) (v:V),N[i]?=some x->(σc σ)[i]?=some (some v)->((relabel sc X.env).names.lookup x=some .cell∨(relabel sc X.env).names.lookup x=some .free)∧(X.env.scope.names.lookup x=some .cell∨X.env.scope.names.lookup x=some .free)∧∃j:Nat,X.N[j]?=some x∧σ[j]?=some (some v)
def JZ (J:It) (σ0:St) (g:TG) (tt:TT) (te:TE) (Q:VK) (H1:Hp):Prop:=∀D,H1 D=none →
 ∃W:Nat->Nat->St->List V->Hp->Prop,(∃m,W 0 m σ0 [] (Zb H1 D (.lst [])))∧∀i m σ1 ys H2,W i m σ1 ys H2->H2 D=some (.lst ys) ∧
  ((J.stop i H2∧Q (.ref D) H2)∨(J.go i H2∧∃N:St->List V->Hp->Prop,(∀σ2 ys2 H3,N σ2 ys2 H3->∃m',m'<m∧W (i+1) m' σ2 ys2 H3) ∧
   ∀x H3,J.yld i H2 x H3->g x σ1 H3 fun σ2 H4=>tt σ2 H4 fun c H5=>if c=true then te σ2 H5 fun y H6=>H6 D=some (.lst ys)∧ys.length<sizeLine∧N σ2 (ys++[y]) (Zb H6 D (.lst (ys++[y]))) else N σ2 ys H5))
def Ze4 (wi:TI) (σc:St->St) (g:TG) (tt:TT) (te:TE):TE:=fun σ H Q=>wi σ H fun J H1=>JZ J (σc σ) g tt te Q H1
section
variable {X:Cx} {pins:List (Addr×Obj)} {σ:St} {H:Hp} {s:Shared} {N:List Str} {sc:Scope} {cl:List (Str×Addr)} {σc:St->St} {fp:List Addr}
theorem Inv.block (I:Inv X pins σ H s) (S:CompSc X N sc cl σc) (hf:∀b∈fp,XN X pins H b) (hlt:∀b∈fp,b<s.heap.objs.size) {h':Heap} {t':Nat} (k:∀b u,s.heap.get? b=some u->h'.get? b=some u) (hn:h'.Ns s.heap.objs.size fun _=>none) :
  Inv (X.block N sc cl fp s H) [] (σc σ) H { s with heap:=h',toks:=t' }:=by
 have kin:∀x,(X.block N sc cl fp s H).env.kindOf x=(relabel sc X.env).names.lookup x:=fun _=>rfl
 refine ⟨⟨I.ok.mod,S.kind,I.ok.glob,I.ok.blt,Qf _,fun x y c h1 h2=>I.ok.inj x y c (S.sub x c h1) (S.sub y c h2),fun x hx=>S.has x hx,fun x c z _=>(nomatch z),I.ok.hd,I.ok.frames,.inl rfl,fun b hb=>⟨Qy (hlt b hb),fun x c e=>(hf b hb).2.2.2.2.1 x c (S.sub x c e)⟩,
  I.bs,Qn I.ok.bsz I.sz,fun b o e hb=>?_,fun b hb z=>?_,I.stack,I.stkFree⟩,
  rfl,I.bare,Un.kept k,⟨_,hn,fun i x v e1 e2 e3=>?_⟩,fun x c e=>?_,I.hok.fresh (Qf _),fun x c e=>I.freeC x c (S.sub x c e),fun p hp=>absurd (show p∈([]:List (Addr×Obj)) from hp) (by simp),I.hok.kept k,S.len σ⟩
 ·rcases (hf b hb).2.2.2.1 with z|z
  ·exact I.ok.noex b o e z
  ·exact absurd (Qz (Qg e) (Qn I.ok.bsz z)) (QP _)
 ·rcases Qh.mp (I.stkSub b z) with y|y
  ·exact (hf b hb).2.1 y
  ·exact (hf b hb).2.2.1 y
 ·obtain ⟨hk,hko,j,hj,hσ⟩:=S.cap σ i x v e1 e2;obtain ⟨m,hm,hl⟩:=I.loc;obtain ⟨u,r,l⟩:=hl j x v hj hσ (by rcases hko with z|z;exact .inr (.inl z);exact .inr (.inr z));refine ⟨u,r,.inr ⟨hk,?_⟩⟩;rcases l with ⟨q,_⟩|⟨_,c,hc,q⟩
  ·have q':X.env.scope.names.lookup x=some .local:=q;rcases hko with z|z<;>(rw [z] at q';cases q')
  ·obtain ⟨c',hc'⟩:=S.has x hk;have e:=S.sub x c' hc';rw [hc] at e;cases e;exact ⟨c,hc',q.keeps k⟩
 ·obtain ⟨v,q⟩:=I.cell x c (S.sub x c e);exact ⟨v,q.keeps k⟩
end
section
variable {X:Cx} {elt tg iter:Expr} {ifs:List Expr} {sc:Scope} {pos:Pos} {N:List Str} {cl:List (Str×Addr)} {σc:St->St} {wi:TI} {g:TG} {tt:TT} {te:TE}
structure Gone (X:Cx) (pins:List (Addr×Obj)) (H:Hp) (C:Addr):Prop where
 free:H C=none
 loc:C≠X.env.locals
 new:X.s₀.heap.objs.size≤C
 cell:∀x c,X.env.cells.lookup x=some c->c≠C
 pin:∀p∈X.pn++pins,p.1≠C
theorem Inv.gone {pins:List (Addr×Obj)} {σ:St} {H:Hp} {s:Shared} {C:Addr} {h':Heap} (I:Inv X pins σ H s) (G:Gone X pins H C) (sb:Heap.SameBut C s.heap h'):Inv X pins σ H { s with heap:=h' } :=
 I.turned (t':=s.toks) (it:=C) (fun b o n q=>(sb.2 b n).trans q) G.free G.loc (.inr G.new) G.cell G.pin
theorem Zft {pins:List (Addr×Obj)} {s2:Shared} {σ:St} {H2:Hp} {Q:VK} {RR:Value->Addr->Result->Shared->Prop} {E:Value->Shared->Prop} {it:Addr} {fp:List Addr} {tn:Nat->Heap->Prop} {J:It}
  (hc:X.calm=true) (S:CompSc X N sc cl σc) (hg:∀fp s3 H3,PG (X.block N sc cl fp s3 H3) tg g) (ht:∀fp s3 H3,U1 (X.block N sc cl fp s3 H3) ifs tt) (he:∀fp s3 H3,PE (X.block N sc cl fp s3 H3) elt te)
  (I2:Inv X pins σ H2 s2) (T:Turn X.prog X.w X.K tg J fp it tn) (st2:tn 0 s2.heap) (f2:∀b∈fp,XN X pins H2 b)
  (h2:∀D,H2 D=none->∃W:Nat->Nat->St->List V->Hp->Prop,(∃m,W 0 m (σc σ) [] (Zb H2 D (.lst [])))∧∀i m σ1 ys H2,W i m σ1 ys H2->H2 D=some (.lst ys) ∧
   ((J.stop i H2∧Q (.ref D) H2)∨(J.go i H2∧∃N:St->List V->Hp->Prop,(∀σ2 ys2 H3,N σ2 ys2 H3->∃m',m'<m∧W (i+1) m' σ2 ys2 H3) ∧
    ∀x H3,J.yld i H2 x H3->g x σ1 H3 fun σ2 H4=>tt σ2 H4 fun c H5=>if c=true then te σ2 H5 fun y H6=>H6 D=some (.lst ys)∧ys.length<sizeLine∧N σ2 (ys++[y]) (Zb H6 D (.lst (ys++[y]))) else N σ2 ys H5)))
  (hRR:∀D C m s7 H7,Inv X pins σ H7 s7->s7.heap.Ns C m->Gone X pins H7 C->Q (.ref D) H7->RR (.ref D) C (.ok .next) s7) :
  wpAny (model X.prog X.w) X.A (newList []) (fun acc s₃=>wpAny (model X.prog X.w) X.A (newFunctionEnv sc X.env.globals cl [] X.env.qual none .none (some X.env)) (fun cenv s₄ =>
   codeAny (model X.prog X.w) X.A (.compStart (.ListComp elt [⟨tg,iter,ifs,0⟩] sc pos) 0 (.ref it) acc { cenv with scope:=relabel sc X.env }) (RR acc cenv.locals) s₄) E s₃) E s2:=by
 refine Q3 ?_;have hD:H2 s2.heap.objs.size=none:=I2.hok.fresh (Qf _)
 have I3:Inv X pins σ (Zb H2 s2.heap.objs.size (.lst [])) { s2 with heap:=s2.heap.push { cls:=.type "list",dict:=none,data:=.seq ([]:List Value).toArray } } :=
  I2.laid (t':=s2.toks) (fun b u q=>Qi _ q) (Qf _) ⟨by decide,[],0,.nil,Qs _ rfl⟩
 have flt:∀b∈fp,b<s2.heap.objs.size:=fun b hb=>by
  obtain ⟨o,e,_⟩:=T.obj _ _ st2 b hb;exact Qg e
 obtain ⟨W,⟨m0,w0⟩,turn⟩:=h2 s2.heap.objs.size hD;have f3:∀b∈fp,XN X pins (Zb H2 s2.heap.objs.size (.lst [])) b:=fun b hb=>⟨by rw [Ze (Qy (flt b hb))];exact (f2 b hb).1,(f2 b hb).2⟩;have st3:tn 0 (s2.heap.push { cls:=.type "list",dict:=none,data:=.seq ([]:List Value).toArray }):=T.keep _ _ _ st2 fun b _ o q=>Qi _ q;have sz3:s2.heap.objs.size≤(s2.heap.push { cls:=.type "list",dict:=none,data:=.seq ([]:List Value).toArray }).objs.size:=by rw [Rg];exact QU _
 generalize s2.heap.push { cls:=.type "list",dict:=none,data:=.seq ([]:List Value).toArray }=h3 at *;generalize s2.heap.objs.size=D at *;refine wpAny_newFunctionEnv S.nocell (by intro y hy;simp at hy) (fun h4 hn4 hb4=>?_) S.kind;dsimp only at hn4 hb4 ⊢;have k4:∀b u,h3.get? b=some u->h4.get? b=some u:=fun b u q=>(hb4.2 b (Qy (Qg q))).trans (Qi _ q)
 have I4:Inv (X.block N sc cl fp { s2 with heap:=h3 } (Zb H2 D (.lst []))) [] (σc σ) (Zb H2 D (.lst [])) { s2 with heap:=h4,toks:=s2.toks+0 } :=
  I3.block S f3 (fun b hb=>Qz (flt b hb) sz3) k4 hn4
 have st4:tn 0 h4:=T.keep _ _ _ st3 fun b _ o q=>k4 b o q
 have fb:∀{H':Hp},(∀b∈fp,H' b=none)->∀b∈fp,XN (X.block N sc cl fp { s2 with heap:=h3 } (Zb H2 D (.lst []))) [] H' b:=fun hn b hb =>
  ⟨hn b hb,(I4.ok.exf b hb).1,I4.ok.exfs b hb,.inl hb,(I4.ok.exf b hb).2,fun p hp=>absurd (show p∈([]:List (Addr×Obj)) from hp) (by simp)⟩
 have fin:∀{σ':St} {H':Hp} {s':Shared} {h':Heap},Inv (X.block N sc cl fp { s2 with heap:=h3 } (Zb H2 D (.lst []))) [] σ' H' s'->Heap.SameBut h3.objs.size s'.heap h'->Inv X pins σ H' { s' with heap:=h' }:=fun {σ' H' s' h'} J' sb=>by
  have lt3:∀b o,h3.get? b=some o->b≠h3.objs.size:=fun b o q=>Qy (Qg q);have lo:H' h3.objs.size=none:=J'.free
  have hk:HOk X.prog X.w H' h':=fun b u e=>(J'.hok b u e).stay (fun c v hcc q=>(sb.2 c (by
   rintro rfl;rcases hcc with z|z
   ·subst z;rw [lo] at e;cases e
   ·rw [lo] at z;cases z)).trans q) (fun _ q=>q) fun _ _ q=>q
  refine I3.call' (s':={ s' with heap:=h' }) (ch:=fp) J'.os ⟨fun b o q n hb hx=>(sb.2 b (lt3 b o q)).trans (J'.base.keep b o q n hb hx),fun b o q n hb hx=>?_,fun b o q n hx=>J'.base.free b o q n hx,fun b o q hx=>?_,J'.base.tups,J'.base.frzs,J'.base.tbls⟩ hk J'.bare fun b hb=>?_
  ·obtain ⟨sl,q1⟩:=J'.base.slot b o q n hb hx;exact ⟨sl,(sb.2 b (lt3 b o q)).trans q1⟩
  ·obtain ⟨o1,q1⟩:=J'.base.there b o q hx;exact ⟨o1,(sb.2 b (lt3 b o q)).trans q1⟩
  ·exact ⟨(f3 b hb).2.2.2.1,(f3 b hb).2.1,(f3 b hb).2.2.2.2.1,(f3 b hb).2.2.2.2.2⟩
 have loop : ∀s5 : Shared, Inv (X.block N sc cl fp { s2 with heap := h3 } (Zb H2 D (.lst []))) [] (σc σ) (Zb H2 D (.lst [])) s5 → tn 0 s5.heap →
   codeAny (model X.prog X.w) X.A (.compLoop (.ListComp elt [⟨tg,iter,ifs,0⟩] sc pos) 0 (.ref it) (.ref D) (compEnvC sc cl h3.objs.size X.env)) (RR (.ref D) h3.objs.size) s5:=fun s5 I5 st5=>by
  refine Zol (fun n s'=>∃i σ' ys H',Inv (X.block N sc cl fp { s2 with heap:=h3 } (Zb H2 D (.lst []))) [] σ' H' s'∧tn i s'.heap∧(∀b∈fp,H' b=none)∧W i n σ' ys H') ?_ m0 ⟨0,_,[],_,I5,st5,fun b hb=>(f3 b hb).1,w0⟩;rintro n s6 ⟨i,σ6,ys,H6,I6,st6,fr6,w6⟩;obtain ⟨hDy,step⟩:=turn i n σ6 ys H6 w6;rcases step with ⟨stop,q6⟩|⟨go,Nx,hN,step⟩
  ·refine Zr (T.done (X.block N sc cl fp { s2 with heap:=h3 } (Zb H2 D (.lst []))) rfl rfl rfl hc i [] s6 σ6 H6 (fun _ _=>False) I6 (fb fr6) st6 stop) fun r s7 ⟨hr,I7⟩=>?_;subst hr;obtain ⟨m7,hm7,_⟩:=I7.loc;refine hRR D h3.objs.size m7 s7 H6 (fin I7 ⟨rfl,fun _ _=>rfl⟩) hm7 ⟨I7.free,RC I3.lt,I3.sz,fun x c e=>?_,fun p hp=>?_⟩ q6
   ·obtain ⟨v,z⟩:=I3.cell x c e;exact Qy z.lt
   ·exact Qy (Qg (I3.pin p hp).1)
  ·refine Zr (T.item (X.block N sc cl fp { s2 with heap:=h3 } (Zb H2 D (.lst []))) rfl rfl rfl hc i [] s6 σ6 H6 (fun _ _=>False) I6 (fb fr6) st6 go) fun r s7 ⟨u,hr,h7⟩=>?_;subst hr;refine Zr h7 fun _ s8 ⟨x,H8,I8,r8,y8,st8,fr8⟩=>?_;have I8':=I8.pinned (fb fr8) (T.obj _ _ st8);refine Zr (hg _ _ _ _ s8 σ6 H8 x u _ I8' r8 (step x H8 y8)) fun _ s9 ⟨σ9,H9,I9,q9⟩=>?_;refine Zr (ht _ _ _ _ s9 σ9 H9 _ I9 q9) fun c sA ⟨HA,IA,qA⟩=>?_
   have again : ∀{σB : St} {HB : Hp} {sB : Shared} {zs : List V}, Inv (X.block N sc cl fp { s2 with heap := h3 } (Zb H2 D (.lst []))) ([] ++ JV fp s8.heap) σB HB sB → Nx σB zs HB →
     ∃m,m<n∧∃i σ' ys H',Inv (X.block N sc cl fp { s2 with heap:=h3 } (Zb H2 D (.lst []))) [] σ' H' sB∧tn i sB.heap∧(∀b∈fp,H' b=none)∧W i m σ' ys H':=fun {σB HB sB zs} IB nB=>by
    obtain ⟨m',hm,wB⟩:=hN σB zs HB nB;refine ⟨m',hm,i+1,σB,zs,HB,IB.unpinned,T.keep _ _ _ st8 fun b hb o e=>(IB.pin (b,o) (Q4 _ (Q4 _ (Zbi hb e)))).1,fun b hb=>?_,wB⟩;obtain ⟨o,e,d⟩:=T.obj _ _ st8 b hb;exact (IB.pin (b,o) (Q4 _ (Q4 _ (Zbi hb e)))).2.1
   cases c with
   |false=>exact again IA qA
   |true =>
    refine Zr (he _ _ _ _ sA σ9 HA _ IA qA) fun y sB ⟨yv,HB,IB,rB,dB,lB,qB⟩=>?_;exact Zr (X9 (X:=X.block N sc cl fp { s2 with heap:=h3 } (Zb H2 D (.lst []))) _ sB σ9 HB (.ref D) [yv] (.ref D) [y] (fun v H'=>v=.non∧Nx σ9 (ys++[yv]) H') IB rfl (.cons rB .nil) ⟨D,ys,yv,rfl,rfl,dB,lB,rfl,qB⟩) fun _ sC ⟨_,HC,IC,_,_,qC⟩=>again IC qC
 refine codeAny_compStart_list (loop _ I4 st4) ?_;exact T.self _ 0 _ _ _ st4 (loop _ I4 st4)
theorem W3 (hc:X.calm=true) (S:CompSc X N sc cl σc) (hi:PI X tg iter wi) (hg:∀fp s3 H3,PG (X.block N sc cl fp s3 H3) tg g) (ht:∀fp s3 H3,U1 (X.block N sc cl fp s3 H3) ifs tt) (he:∀fp s3 H3,PE (X.block N sc cl fp s3 H3) elt te)
  (hs:∀x,foldedSetIterable iter X.env x=pure x:=by intro _;rfl):PE X (.ListComp elt [⟨tg,iter,ifs,0⟩] sc pos) (Ze4 wi σc g tt te):=by
 intro pins s σ H Q I h;rw [eval_ListComp];refine wpAny_comprehension_free rfl hs S.clos S.kind S.names (Zr (hi pins s σ H _ I h) fun v s1 h1=>Zr h1 fun itv s2 h2=>?_);obtain ⟨it,fp,tn,J,H2,e,I2,T,st2,f2,h2⟩:=h2;subst e;exact Zft (Q:=Q) hc S hg ht he I2 T st2 f2 h2 fun D C m s7 H7 I7 n7 G q=>⟨m,n7,fun h' sb=>⟨.ref D,H7,I7.gone G sb,rfl,q⟩⟩
theorem W9 {i:Nat} {x:Str} {pos' spos:Pos} (hc:X.calm=true) (hN:X.N.Nodup) (hi':X.N[i]?=some x) (hx:Jy X.env.scope x) (S:CompSc X N sc cl σc) (hi:PI X tg iter wi)
  (hg:∀fp s3 H3,PG (X.block N sc cl fp s3 H3) tg g) (ht:∀fp s3 H3,U1 (X.block N sc cl fp s3 H3) ifs tt) (he:∀fp s3 H3,PE (X.block N sc cl fp s3 H3) elt te)
  (hs:∀x,foldedSetIterable iter X.env x=pure x:=by intro _;rfl) (hsw:swapsWith (.ListComp elt [⟨tg,iter,ifs,0⟩] sc pos) (some (.Name x pos')) spos.line X.env=pure true:=by rfl)
  (hf:X.fn x=true∨X.env.scope.names.lookup x=some .local:=by first|exact .inl rfl|exact .inr rfl|assumption) :
  PS X (.Assign [.Name x pos'] (.ListComp elt [⟨tg,iter,ifs,0⟩] sc pos) spos) (Zde (Ze4 wi σc g tt te) (Z2 i)):=by
 intro pins s σ H D I h;rw [exec_Assign_Name_used _ _ _ _ hsw];refine Qb (wpAny_standAt (Qb ?_));show wpAny _ _ (comprehension (.ListComp elt [⟨tg,iter,ifs,0⟩] sc pos) sc X.env (firstIterPos [⟨tg,iter,ifs,0⟩] pos) (newList []) (firstAsync [⟨tg,iter,ifs,0⟩]) (firstIter [⟨tg,iter,ifs,0⟩] X.env) (some (assign (.Name x pos') X.env)) >>= fun _=>pure ()) _ _ s;refine Qb (Ra (Q:=fun _ s'=>SP X pins D .next s') ?_ (fun _ s' q=>Qe (Qe q)) fun _ _ z=>z);refine wpAny_comprehension_free rfl hs S.clos S.kind S.names (Zr (hi pins s σ H _ I h) fun v s1 h1=>Zr h1 fun itv s2 h2=>?_);obtain ⟨it,fp,tn,J,H2,e,I2,T,st2,f2,h2⟩:=h2;subst e;refine Zft (Q:=fun v H'=>D.nx (σ.set i (some v)) H') hc S hg ht he I2 T st2 f2 h2 fun d C m s7 H7 I7 n7 G q=>?_;show wpAny _ _ (assign (.Name x pos') X.env (.ref d)) _ _ s7;refine wpAny_assign_Name (Zfe (v:=.ref d) I7 hN hi' hx rfl (fun s8 I8 ch=>?_) hf);obtain ⟨a,sb,ha⟩:=ch
 have aC:C≠a:=by
  rcases ha with z|z
  ·rw [z];exact G.loc
  ·exact (G.cell x a z).symm
 exact ⟨m,n7.sameBut sb aC,fun h' sb'=>⟨_,H7,I8.gone G sb',q⟩⟩
end
noncomputable def Itw (n:Nat) (V1:Nat->V->Prop):It:=⟨fun i _=>i<n,fun i H x H'=>H'=H∧V1 i x,fun i _=>i=n⟩
theorem Zej {P:Program} {w:World} {K:PySem.W.Frag} {tg:Expr} {it:Addr} {n:Nat} {Pv:Nat->Value->Prop} {V1:Nat->V->Prop} {st:Nat->Heap->Prop}
  (W:∀A:Around,A.handled=none->Walks P w A it [it] [it] n Pv st) (ob:∀i h,st i h->∃o,h.get? it=some o∧∀v,o.data≠.cell v) (val:∀i v,Pv i v->∃x,RelV x v∧V1 i x)
  (own:∀i v s (M:Model) (A:Around) (E:Value->Shared->Prop) (Q:Unit->Shared->Prop),Pv i v->Q () s->wpAny M A (letOwnedTupleGo tg (.ref it) v) Q E s)
  (self:∀(A:Around) (i:Nat) (s:Shared) (Q:Value->Shared->Prop) (E:Value->Shared->Prop),st i s.heap->Q (.ref it) s->wpAny (model P w) A (pyIter (.ref it)) Q E s):Turn P w K tg (Itw n V1) [it] it st where
 mem:=by simp
 obj:=fun i h hs b hb=>by
  have e:b=it:=by simpa using hb
  subst e;exact ob i h hs
 keep:=fun i h h' hs k=>(W {} rfl).frame i h h' hs k
 item:=fun X hP hw hK hc i pins s σ H E I hf hs go=>by
  subst hP hw hK;refine (W X.A (I.ok.hd hc)).item i s _ E go hs fun v h' tk pv hs' k=>⟨v,rfl,?_⟩;obtain ⟨x,rx,vx⟩:=val i v pv;obtain ⟨f0,f1,_,f3,f4,f5⟩:=hf it (by simp);have I':Inv X pins σ H { s with heap:=h',toks:=tk }:=I.turned (it:=it) (fun b o n q=>k b o (by simpa using n) q) f0 f1 f3 f4 f5;refine own i v _ _ _ _ _ pv ⟨x,H,I',rx,⟨rfl,vx⟩,hs',fun b hb=>?_⟩;have e:b=it:=by simpa using hb
  subst e;exact f0
 done:=fun X hP hw hK hc i pins s σ H E I hf hs stop=>by
  subst hP hw hK;have e:i=n:=stop;subst e;obtain ⟨f0,f1,_,f3,f4,f5⟩:=hf it (by simp);exact (W X.A (I.ok.hd hc)).done s _ E hs fun h' tk k=>⟨rfl,I.turned (it:=it) (fun b o n q=>k b o (by simpa using n) q) f0 f1 f3 f4 f5⟩
 self:=self
def Zlf (te:TE):TI:=fun σ H R=>te σ H fun x H1=>∃z,x=.str z∧R (Itw z.cps.size fun i y=>∃c,z.cps[i]?=some c∧y=.str ⟨#[c]⟩) H1
theorem Zen {M:Model} {A:Around} {E:Value->Shared->Prop} {s:Shared} {tg:Expr} {it:Addr} {z:Str} {t:Tok} {Q:Unit->Shared->Prop} (q:Q () s):wpAny M A (letOwnedTupleGo tg (.ref it) (.str z t)) Q E s:=by
 unfold letOwnedTupleGo;cases tg<;>exact Qe q
theorem Zht {X:Cx} {tg e:Expr} {te:TE} (he:PE X e te):PI X tg e (Zlf te):=by
 intro pins s σ H R I h;refine Zr (he pins s σ H _ I h) fun v s1 ⟨x,H1,I1,r1,z,e1,q⟩=>?_;subst e1;obtain ⟨t,rfl⟩:=r1;have fr:H1 s1.heap.objs.size=none:=I1.hok.fresh (Qf _);by_cases low:z.cps.all (·<128)=true
 ·refine wpAny_pyIter_ascii low ⟨s1.heap.objs.size,[s1.heap.objs.size],fun i h=>h.IsStrIter s1.heap.objs.size "str_ascii_iterator" z t i,_,H1,rfl,I1.kept (t':=s1.toks) fun b u q=>Qi _ q,
   Zej (fun A hA=>Walks.strAscii hA _ z t) (fun i h ⟨o,ho,_,hd⟩=>⟨o,ho,fun v q=>by rw [hd] at q;cases q⟩) (fun i v ⟨c,u,hc,hv⟩=>⟨.str ⟨#[c]⟩,⟨u,hv⟩,c,hc,rfl⟩) (fun i v s M A E Q ⟨c,u,_,hv⟩ hq=>by rw [hv];exact Zen hq) fun A i s Q E hs hq=>wpAny_pyIter_striter_ascii hs hq,
   ⟨_,Qs _ rfl,rfl,rfl⟩,fun b hb=>?_,q⟩
  have e:b=s1.heap.objs.size:=by simpa using hb
  subst e;exact I1.fpOk (Qf _) fr
 ·refine wpAny_pyIter_wide (Rn.mpr low) ⟨s1.heap.objs.size,[s1.heap.objs.size],fun i h=>h.IsStrIter s1.heap.objs.size "str_iterator" z t i,_,H1,rfl,I1.kept (t':=s1.toks) fun b u q=>Qi _ q,
   Zej (fun A hA=>Walks.strWide hA _ z t) (fun i h ⟨o,ho,_,hd⟩=>⟨o,ho,fun v q=>by rw [hd] at q;cases q⟩) (fun i v ⟨c,u,hc,hv⟩=>⟨.str ⟨#[c]⟩,⟨u,hv⟩,c,hc,rfl⟩) (fun i v s M A E Q ⟨c,u,_,hv⟩ hq=>by rw [hv];exact Zen hq) fun A i s Q E hs hq=>wpAny_pyIter_striter_wide hs hq,
   ⟨_,Qs _ rfl,rfl,rfl⟩,fun b hb=>?_,q⟩
  have e:b=s1.heap.objs.size:=by simpa using hb
  subst e;exact I1.fpOk (Qf _) fr
section
variable {prog:Program} {w:World} {A:Around} {s:Shared}
theorem ZdA (hh:A.handled=none) (it t:Addr) (hne:t≠it) (us:Array Value) :
  Draws prog w A it [it,t] us.size (fun i v=>us[i]?=some v) (fun i h=>h.IsTupleIter it t i∧h.IsTuple t us) where
 live:=fun _ _ ⟨⟨o,e,_⟩,_⟩=>⟨o,e⟩
 frame:=fun _ _ _ ⟨⟨o,e,r⟩,⟨o',e',r'⟩⟩ k=>⟨⟨o,k it (by simp) o e,r⟩,⟨o',k t (by simp) o' e',r'⟩⟩
 item:=by
  intro i s Q E hi ⟨st,ht⟩ hQ;have e:us[i]?=some us[i]:=by simp [hi]
  obtain ⟨o,ho,c,d⟩:=id st;obtain ⟨ot,hot,_,n,dt⟩:=id ht;unfold Builtin.SmallTypes.nextOf;refine Qb (Rl (name:=Str.ofString "__next__") st.typeIs GJ (Rb GJ st.typeIs F.entry_tuple_iterator_next ?_ (F.args_tuple_iterator_next_1 _)));unfold Builtin.«tuple_iterator.__next__»;refine Qb (m:=field (.ref it) 0) (QN ho d (x:=.ref t) rfl ?_);rw [Qa (show ¬((Value.ref t==Value.none)=true) from QA)];refine Qb (m:=field (.ref it) 1) (QN ho d (x:=.int i 0) rfl (Qb (m:=seqItems? (.ref t)) (RU hot dt ?_)));simp only [RS,e];have sb:=RF s.heap it (Obj.mapFields (·.setIfInBounds 1 (rawInt (i+1))));exact Qb (Gm ho d (by simp) (Qe ⟨_,rfl,Qe (hQ _ _ s.toks e ⟨⟨_,Nr _ ho (Obj.isFreed_of_fields (GK d _)),(Obj.cls_mapFields ..).trans c,by rw [GK d];simp [rawInt]⟩,ht.extBut sb.extBut hne⟩ sb)⟩))
 done:=by
  intro s Q E ⟨st,ht⟩ hE;have e:us[us.size]?=none:=by simp
  obtain ⟨o,ho,c,d⟩:=id st;obtain ⟨ot,hot,_,n,dt⟩:=id ht;unfold Builtin.SmallTypes.nextOf;refine Qb (Rl (name:=Str.ofString "__next__") st.typeIs GJ (Rb GJ st.typeIs F.entry_tuple_iterator_next ?_ (F.args_tuple_iterator_next_1 _)));unfold Builtin.«tuple_iterator.__next__»;refine Qb (m:=field (.ref it) 0) (QN ho d (x:=.ref t) rfl ?_);rw [Qa (show ¬((Value.ref t==Value.none)=true) from QA)];refine Qb (m:=field (.ref it) 1) (QN ho d (x:=.int us.size 0) rfl (Qb (m:=seqItems? (.ref t)) (RU hot dt ?_)));simp only [RS,e];refine Qb (RX (Qb (Gm ho d (by simp) ?_)));refine Qb (m:=newExc (.type "StopIteration") []) ?_;simp only [newExc,newTuple];refine Qb (Q3 (Qb (m:=firstArgMember _ _) (wpAny_of_eq (a:=Value.none) (by first|rfl|(simp only [firstArgMember];rfl)) (Q3 ?_ (by size_fits)))) (by size_fits));simp only [raiseNew];refine Qb (wpAny_handled ?_)
  first|rw [show A.in1.handled=none from hh]|rw [hh]
  exact Qb (Qe (wpAny_throw (hE _ _ (((RF ..).extBut.push _).push _) ⟨_,Qs _ rfl,rfl⟩)))
end
structure ZAp (z TI TO i1 i2:Addr) (f1 f2:List Addr):Prop where
 TIz:TI≠z
 TOz:TO≠z
 i1z:i1≠z
 i2z:i2≠z
 TITO:TI≠TO
 TIi1:TI≠i1
 TIi2:TI≠i2
 TOi1:TO≠i1
 TOi2:TO≠i2
 i12:i1≠i2
 z1:z∉f1
 z2:z∉f2
 o1:TO∉f1
 o2:TO∉f2
 b1:i2∉f1
 b2:i1∉f2
section
variable {prog:Program} {w:World} {A:Around} {E:Value->Shared->Prop} {s:Shared} {z TI TO i1 i2:Addr} {f1 f2:List Addr} {n1 n2 k1 k2:Nat} {P1 P2:Nat->Value->Prop} {S1 S2:Nat->Heap->Prop} {a b:Value}
theorem Draws.but {it c:Addr} {fp:List Addr} {n i:Nat} {P:Nat->Value->Prop} {St:Nat->Heap->Prop} {h h':Heap} (D:Draws prog w A it fp n P St) (st:St i h) (e:Heap.ExtBut c h h') (hc:c∉fp):St i h' :=
 D.frame _ _ _ st fun b hb o q=>e b o (fun x=>hc (x▸hb)) q
theorem Ziq {Q:Value->Shared->Prop} (Z:ZAp z TI TO i1 i2 f1 f2) (D1:Draws prog w A i1 f1 n1 P1 S1) (D2:Draws prog w A i2 f2 n2 P2 S2) (hz:IsZip s.heap z TI TO .none) (hTI:IsPair s.heap TI (.ref i1) (.ref i2)) (hTO:IsPair s.heap TO a b)
  (g1:S1 k1 s.heap) (g2:S2 k2 s.heap) (l1:k1<n1) (l2:k2<n2)
  (hQ:∀x y h' tk,P1 k1 x->P2 k2 y->IsZip h' z TI TO (rawInt s.heap.objs.size)->IsPair h' TO x y->S1 (k1+1) h'->S2 (k2+1) h'->IsPair h' s.heap.objs.size x y →
   (∀c o,c≠z->c≠TO->c≠i1->c≠i2->s.heap.get? c=some o->h'.get? c=some o)->Q (.ref s.heap.objs.size) { s with heap:=h',toks:=tk }) :
  wpAny (model prog w) A (Builtin.«zip.__next__» ⟨[.ref z],[]⟩) (fun fin s'=>∃v,fin=.done (.ret v)∧Q v s') E s:=by
 unfold Builtin.«zip.__next__»;refine Qb (m:=field (.ref z) 2) (QN hz rfl (x:=.bool false) rfl ?_);refine Qb (m:=field (.ref z) 3) (QN hz rfl (x:=.ref TI) rfl (Qb (RU hTI rfl ?_)));refine Qb (m:=Builtin.SmallTypes.ownedTupleIsFree (.ref z)) ?_;unfold Builtin.SmallTypes.ownedTupleIsFree;refine Qb (QN hz rfl (x:=.none) rfl (Qe ?_));simp only [Q8];refine Qb (RX (Qb (QN hz rfl (x:=.ref TO) rfl (Qb (Ro hz (by simp) fun hA zA sA=>Qb ?_)))));replace zA:IsZip hA z TI TO .ellipsis:=zA;simp only [List.zipIdx_cons,List.zipIdx_nil,List.forIn_cons,List.forIn_nil];refine Qb (Qb (wpAny_onRaise (Qb (m:=Builtin.SmallTypes.nextOf (.ref i1)) (D1.item k1 _ _ _ l1 (Draws.but D1 g1 sA.extBut Z.z1) fun x hB tB px gB sB=>Qe ?_))));have oB:IsPair hB TO a b:=sB.extBut _ _ Z.TOi1 (sA.extBut _ _ Z.TOz hTO);refine Qb (RU oB rfl (Qb (wpAny_updateSeq_pair oB fun hC oC sC=>Qb (GL (Qe ?_)))));replace oC:IsPair hC TO x b:=oC;refine Qb (Qb (wpAny_onRaise (Qb (m:=Builtin.SmallTypes.nextOf (.ref i2)) (D2.item k2 _ _ _ l2 (Draws.but D2 (Draws.but D2 (Draws.but D2 g2 sA.extBut Z.z2) sB.extBut Z.b2) sC.extBut Z.o2) fun y hD tD py gD sD=>Qe ?_))));have oD:IsPair hD TO x b:=sD.extBut _ _ Z.TOi2 oC;refine Qb (RU oD rfl (Qb (wpAny_updateSeq_pair oD fun hE oE sE=>Qb (GL (Qe (Qe ?_))))));replace oE:IsPair hE TO x y:=oE;have zE:IsZip hE z TI TO .ellipsis:=sE.extBut _ _ Z.TOz.symm (sD.extBut _ _ Z.i2z.symm (sC.extBut _ _ Z.TOz.symm (sB.extBut _ _ Z.i1z.symm zA)));have sz:hE.objs.size=s.heap.objs.size:=by rw [sE.1,sD.1,sC.1,sB.1,sA.1]
 have kE:∀c o,c≠z->c≠TO->c≠i1->c≠i2->s.heap.get? c=some o->hE.get? c=some o:=fun c o c1 c2 c3 c4 e=>sE.extBut _ _ c2 (sD.extBut _ _ c4 (sC.extBut _ _ c2 (sB.extBut _ _ c3 (sA.extBut _ _ c1 e))));have d1:S1 (k1+1) hE:=Draws.but D1 (Draws.but D1 (Draws.but D1 gB sC.extBut Z.o1) sD.extBut Z.b1) sE.extBut Z.o1;have d2:S2 (k2+1) hE:=Draws.but D2 gD sE.extBut Z.o2;refine Qb (RU oE rfl (Qb (wpAny_newTuple ?_)));refine Qb (m:=Builtin.SmallTypes.ownedTupleHandOut (.ref z) (.ref hE.objs.size)) ?_;unfold Builtin.SmallTypes.ownedTupleHandOut;have zF:IsZip (hE.push { cls:=.type "tuple",data:=.seq #[x,y] }) z TI TO .ellipsis:=Qi _ zE;refine Qb (Ro zF (by simp) fun hG zG sG=>?_);replace zG:IsZip hG z TI TO (rawInt hE.objs.size):=zG;refine Ro zG (by simp) fun hI zI sI=>Qe ⟨_,rfl,?_⟩;replace zI:IsZip hI z TI TO (rawInt hE.objs.size):=zI;have up:∀c o,c≠z->hE.get? c=some o->hI.get? c=some o:=fun c o c1 e=>sI.extBut _ _ c1 (sG.extBut _ _ c1 (Qi _ e));have zl:hE.objs.size≠z:=RC (Qg zE);have tI:IsPair hI hE.objs.size x y:=sI.extBut _ _ zl (sG.extBut _ _ zl (Qs _ rfl));show Q (.ref hE.objs.size) _;rw [sz] at zI tI ⊢;exact hQ x y hI tD px py zI (up _ _ Z.TOz oE) (D1.frame _ _ _ d1 fun c hc o e=>up c o (fun q=>Z.z1 (q▸hc)) e) (D2.frame _ _ _ d2 fun c hc o e=>up c o (fun q=>Z.z2 (q▸hc)) e) tI fun c o c1 c2 c3 c4 e=>up c o c1 (kE c o c1 c2 c3 c4 e)
theorem Zic {Q:Fin->Shared->Prop} (Z:ZAp z TI TO i1 i2 f1 f2) (D1:Draws prog w A i1 f1 n1 P1 S1) (hz:IsZip s.heap z TI TO .none) (hTI:IsPair s.heap TI (.ref i1) (.ref i2))
  (g1:S1 n1 s.heap)
  (hE:∀h' e,(∀c o,c≠z->c≠TO->c≠i1->c≠i2->s.heap.get? c=some o->h'.get? c=some o)->(∃o,h'.get? e=some o∧o.cls=.type "StopIteration")->E (.ref e) { s with heap:=h' }) :
  wpAny (model prog w) A (Builtin.«zip.__next__» ⟨[.ref z],[]⟩) Q E s:=by
 unfold Builtin.«zip.__next__»;refine Qb (m:=field (.ref z) 2) (QN hz rfl (x:=.bool false) rfl ?_);refine Qb (m:=field (.ref z) 3) (QN hz rfl (x:=.ref TI) rfl (Qb (RU hTI rfl ?_)));refine Qb (m:=Builtin.SmallTypes.ownedTupleIsFree (.ref z)) ?_;unfold Builtin.SmallTypes.ownedTupleIsFree;refine Qb (QN hz rfl (x:=.none) rfl (Qe ?_));simp only [Q8];refine Qb (RX (Qb (QN hz rfl (x:=.ref TO) rfl (Qb (Ro hz (by simp) fun hA zA sA=>Qb ?_)))));replace zA:IsZip hA z TI TO .ellipsis:=zA;simp only [List.zipIdx_cons,List.zipIdx_nil,List.forIn_cons,List.forIn_nil];refine Qb (Qb (wpAny_onRaise (Qb (m:=Builtin.SmallTypes.nextOf (.ref i1)) (D1.done _ _ _ (Draws.but D1 g1 sA.extBut Z.z1) fun hB e sB he=>?_))));obtain ⟨o,ho,c⟩:=he;have zB:IsZip hB z TI TO .ellipsis:=sB _ _ Z.i1z.symm zA
 have ez:e≠z:=fun q=>by
  subst q;rw [zB] at ho;cases ho;simp at c
 exact Ro zB (by simp) fun hC _ sC=>hE hC e (fun c o c1 _ c3 _ q=>sC.extBut _ _ c1 (sB _ _ c3 (sA.extBut _ _ c1 q))) ⟨o,sC.extBut _ _ ez ho,c⟩
theorem ZmW {Q:Option Value->Shared->Prop} (Z:ZAp z TI TO i1 i2 f1 f2) (D1:Draws prog w A.in1 i1 f1 n1 P1 S1) (D2:Draws prog w A.in1 i2 f2 n2 P2 S2) (hz:IsZip s.heap z TI TO .none) (hTI:IsPair s.heap TI (.ref i1) (.ref i2)) (hTO:IsPair s.heap TO a b)
  (g1:S1 k1 s.heap) (g2:S2 k2 s.heap) (l1:k1<n1) (l2:k2<n2)
  (hQ:∀x y h' tk,P1 k1 x->P2 k2 y->IsZip h' z TI TO (rawInt s.heap.objs.size)->IsPair h' TO x y->S1 (k1+1) h'->S2 (k2+1) h'->IsPair h' s.heap.objs.size x y →
   (∀c o,c≠z->c≠TO->c≠i1->c≠i2->s.heap.get? c=some o->h'.get? c=some o)->Q (some (.ref s.heap.objs.size)) { s with heap:=h',toks:=tk }) :
  wpAny (model prog w) A (pyNext (.ref z)) Q E s:=by
 have T:s.TypeIs (.ref z) "zip":=⟨_,hz,rfl⟩;unfold pyNext
 exact Qb (R4 (Rl (name:=Str.ofString "__next__") T GM (Rb GM T F.entry_zip_next
  (Ziq Z D1 D2 hz hTI hTO g1 g2 l1 l2 fun x y h' tk a1 a2 a3 a4 a5 a6 a7 a8=>Qe (hQ x y h' tk a1 a2 a3 a4 a5 a6 a7 a8)) (F.args_zip_next_1 _))))
theorem Zoz {Q:Option Value->Shared->Prop} (Z:ZAp z TI TO i1 i2 f1 f2) (D1:Draws prog w A.in1 i1 f1 n1 P1 S1) (hz:IsZip s.heap z TI TO .none) (hTI:IsPair s.heap TI (.ref i1) (.ref i2)) (g1:S1 n1 s.heap)
  (hQ:∀h',(∀c o,c≠z->c≠TO->c≠i1->c≠i2->s.heap.get? c=some o->h'.get? c=some o)->Q none { s with heap:=h' }):wpAny (model prog w) A (pyNext (.ref z)) Q E s:=by
 have T:s.TypeIs (.ref z) "zip":=⟨_,hz,rfl⟩;unfold pyNext;refine Qb (R4 (Rl (name:=Str.ofString "__next__") T GM (Rb GM T F.entry_zip_next (Zic Z D1 hz hTI g1 fun h' e k he=>?_) (F.args_zip_next_1 _))));obtain ⟨o,ho,c⟩:=he;exact Qb (Nt (T:="StopIteration") (b:=true) ⟨o,ho,c⟩ isSubtype_stop (Qe (hQ _ k)))
end
section
variable {X:Cx} {pins:List (Addr×Obj)} {σ:St} {H:Hp} {s:Shared} {h':Heap}
theorem Inv.turnedAll {t':Nat} {ch:List Addr} (I:Inv X pins σ H s) (hf:∀b∈ch,XN X pins H b) (k:∀b o,b∉ch->s.heap.get? b=some o->h'.get? b=some o):Inv X pins σ H { s with heap:=h',toks:=t' }:=by
 have nit:∀b u,H b=some u->b∉ch:=fun b u e z=>by rw [(hf b z).1] at e;cases e
 refine I.step (g':=s.gens) (d':=s.drawn) (ch:=ch) (fun b hb=>⟨(hf b hb).2.2.2.1,(hf b hb).2.1,(hf b hb).2.2.2.2⟩) (fun b o _ _ hc e _=>k b o hc e) (fun b o _ _ hc e _=>⟨o.slots,k b o hc e⟩) (fun _ _ _ _ n=>n)
  (fun b o hc e=>⟨o,k b o hc e⟩) (fun _ _ e=>e) (fun _ _ _ e=>e) (fun b ps e=>⟨#[],by rw [e];simp⟩) (fun m hm=>?_) (fun b u e=>?_) I.bare
 ·obtain ⟨o,es,ep,ho,r⟩:=hm;exact ⟨o,es,ep,k _ o (fun z=>(hf _ z).2.1 rfl) ho,r⟩
 ·refine (I.hok b u e).stay (fun c v hc q=>k c v ?_ q) (fun _ q=>q) fun _ _ q=>q;rcases hc with z|z
  ·rw [z];exact nit b u e
  ·exact nit c _ z
theorem Inv.turnedLaid {t':Nat} {ch:List Addr} {T:Addr} {o:HO} (I:Inv X pins σ H s) (hf:∀b∈ch,XN X pins H b) (k:∀b o,b∉ch->s.heap.get? b=some o->h'.get? b=some o) (hp:s.heap.objs.size≤T) (new:ObjOk X.prog X.w (Zb H T o) h' T o) :
  Inv X pins σ (Zb H T o) { s with heap:=h',toks:=t' }:=by
 have nit:∀b u,H b=some u->b∉ch:=fun b u e z=>by rw [(hf b z).1] at e;cases e
 have hn:=I.hok.fresh hp;have up:∀{b u},H b=some u->Zb H T o b=some u:=fun {b u} e=>by rw [Ze (ZU e hn)];exact e
 refine I.step (g':=s.gens) (d':=s.drawn) (ch:=ch) (fun b hb=>⟨(hf b hb).2.2.2.1,(hf b hb).2.1,(hf b hb).2.2.2.2⟩) (fun b o _ _ hc e _=>k b o hc e) (fun b o _ _ hc e _=>⟨o.slots,k b o hc e⟩) (fun b u _ e n=>?_)
  (fun b o hc e=>⟨o,k b o hc e⟩) (fun _ _ e=>up e) (fun _ _ _ e=>up e) (fun b ps e=>⟨#[],by rw [up e];simp⟩) (fun m hm=>?_) (fun b u e=>?_) I.bare
 ·rw [Ze (fun z=>absurd (Qg e) (by rw [z];exact Nat.not_lt.mpr hp))];exact n
 ·obtain ⟨o,es,ep,ho,r⟩:=hm;exact ⟨o,es,ep,k _ o (fun z=>(hf _ z).2.1 rfl) ho,r⟩
 ·by_cases hb:b=T
  ·subst hb;rw [Zf] at e;cases e;exact new
  ·rw [Ze hb] at e;refine (I.hok b u e).stay (fun c v hc q=>k c v ?_ q) (fun _ q=>up q) fun _ _ q=>up q;rcases hc with z|z
   ·rw [z];exact nit b u e
   ·exact nit c _ z
end
noncomputable def Itz (K:W.Frag) (a b:Addr):It :=
 ⟨fun i H => ∃xs ys x y, SqT K H a xs ∧ SqT K H b ys ∧ xs[i]?=some x ∧ ys[i]?=some y,
  fun i H v H'=>∃T x y,H T=none∧v=.ref T∧(∀xs,SqT K H a xs->xs[i]?=some x)∧(∀ys,SqT K H b ys->ys[i]?=some y)∧H'=Zb H T (.tup [x,y]),
  fun i H=>∃xs,SqT K H a xs∧xs.length=i⟩
def ZSt (z TI TO i1 i2 a b:Addr) (i:Nat) (h:Heap):Prop:=IsZip h z TI TO .none∧IsPair h TI (.ref i1) (.ref i2)∧(∃u v,IsPair h TO u v)∧h.IsTupleIter i1 a i∧h.IsTupleIter i2 b i
theorem Zod {P:Program} {w:World} {K:W.Frag} {es:List Expr} {n:Nat} {pos:Pos} {z TI TO i1 i2 a b:Addr} (Z:ZAp z TI TO i1 i2 [i1,a] [i2,b]) (ha:a≠i1) (hb:b≠i2) :
  Turn P w K (.Tuple es n pos) (Itz K a b) [z,TI,TO,i1,i2] z (ZSt z TI TO i1 i2 a b) where
 mem:=by simp
 obj:=fun i h ⟨h1,h2,⟨u,v,h3⟩,⟨o4,h4,_,d4⟩,⟨o5,h5,_,d5⟩⟩ c hc=>by
  simp only [Qh,QX,QY] at hc;rcases hc with rfl|rfl|rfl|rfl|rfl
  ·exact ⟨_,h1,fun v q=>by cases q⟩
  ·exact ⟨_,h2,fun v q=>by cases q⟩
  ·exact ⟨_,h3,fun v q=>by cases q⟩
  ·exact ⟨_,h4,fun v q=>by rw [d4] at q;cases q⟩
  ·exact ⟨_,h5,fun v q=>by rw [d5] at q;cases q⟩
 keep:=fun i h h' ⟨h1,h2,⟨u,v,h3⟩,⟨o4,h4,r4⟩,⟨o5,h5,r5⟩⟩ k =>
  ⟨k _ (by simp) _ h1,k _ (by simp) _ h2,⟨u,v,k _ (by simp) _ h3⟩,⟨o4,k _ (by simp) _ h4,r4⟩,⟨o5,k _ (by simp) _ h5,r5⟩⟩
 item:=by
  intro X hP hw hK hc i pins s σ H E I hf ⟨h1,h2,⟨u,v,h3⟩,h4,h5⟩ ⟨xs,ys,x,y,qa,qb,ex,ey⟩;subst hP hw hK;obtain ⟨as,ra,ta,la⟩:=I.tuple qa;obtain ⟨bs,rb,tb,lb⟩:=I.tuple qb;have hh:X.A.in1.handled=none:=I.ok.hd hc;have la':=ra.length;have lb':=rb.length
  have lx:i<as.toArray.size:=by
   have:=(QJ.mp ex).1;simp only [Qx];omega
  have ly:i<bs.toArray.size:=by
   have:=(QJ.mp ey).1;simp only [Qx];omega
  refine ZmW Z (ZdA hh i1 a ha as.toArray) (ZdA hh i2 b hb bs.toArray) h1 h2 h3 ⟨h4,ta⟩ ⟨h5,tb⟩ lx ly fun u1 u2 h' tk p1 p2 z1 o1 g1 g2 t1 k=>?_;refine ⟨_,rfl,wpAny_letOwnedTupleGo_zip z1 fun h'' z2 sb=>?_⟩;have lz:z<s.heap.objs.size:=Qg h1;have nz:s.heap.objs.size≠z:=RC lz;obtain ⟨v1,e1,r1⟩:=ra.get ex;obtain ⟨v2,e2,r2⟩:=rb.get ey
  have q1:v1=u1:=by
   have p:as[i]?=some u1:=by simpa using p1
   rw [e1] at p;exact Ql p
  have q2:v2=u2:=by
   have p:bs[i]?=some u2:=by simpa using p2
   rw [e2] at p;exact Ql p
  subst q1 q2
  have kk:∀c o,c∉[z,TI,TO,i1,i2]->s.heap.get? c=some o->h''.get? c=some o:=fun c o hc e=>by
   simp only [Qh,QX,QY,not_or] at hc;exact sb.extBut _ _ hc.1 (k c o hc.1 hc.2.2.1 hc.2.2.2.1 hc.2.2.2.2 e)
  have tt:IsPair h'' s.heap.objs.size v1 v2:=sb.extBut _ _ nz t1;have I':=I.turnedLaid (t':=tk) (o:=.tup [x,y]) hf kk (Qf _) (show ObjOk X.prog X.w _ h'' _ (.tup [x,y]) from ⟨Zw (by simp),[v1,v2],.cons r1 (.cons r2 .nil),⟨_,tt,rfl,_,rfl⟩⟩);refine ⟨.ref s.heap.objs.size,_,I',rfl,⟨s.heap.objs.size,x,y,I.hok.fresh (Qf _),rfl,fun zs hz=>by rw [I.tuple_inj hz qa];exact ex,fun zs hz=>by rw [I.tuple_inj hz qb];exact ey,rfl⟩,?_,fun c hc=>?_⟩
  ·exact ⟨z2,sb.extBut _ _ Z.TIz (k _ _ Z.TIz Z.TITO Z.TIi1 Z.TIi2 h2),⟨_,_,sb.extBut _ _ Z.TOz o1⟩,g1.1.extBut sb.extBut Z.i1z,g2.1.extBut sb.extBut Z.i2z⟩
  ·have hlt:c<s.heap.objs.size:=by
    simp only [Qh,QX,QY] at hc;obtain ⟨o4,e4,_⟩:=h4;obtain ⟨o5,e5,_⟩:=h5;rcases hc with rfl|rfl|rfl|rfl|rfl
    ·exact lz
    ·exact Qg h2
    ·exact Qg h3
    ·exact Qg e4
    ·exact Qg e5
   rw [Ze (Qy hlt)];exact (hf c hc).1
 done:=by
  intro X hP hw hK hc i pins s σ H E I hf ⟨h1,h2,⟨u,v,h3⟩,h4,h5⟩ ⟨xs,qa,hl⟩;subst hP hw hK;obtain ⟨as,ra,ta,la⟩:=I.tuple qa;have hh:X.A.in1.handled=none:=I.ok.hd hc
  have e:i=as.toArray.size:=by
   have:=ra.length;simp only [Qx];omega
  subst e;refine Zoz (f2:=[i2,b]) Z (ZdA hh i1 a ha as.toArray) h1 h2 ⟨h4,ta⟩ fun h' k=>⟨rfl,I.turnedAll (t':=s.toks) hf fun c o hc e=>?_⟩;simp only [Qh,QX,QY,not_or] at hc;exact k c o hc.1 hc.2.2.1 hc.2.2.2.1 hc.2.2.2.2 e
 self:=fun _ _ _ _ _ st h=>wpAny_pyIter_zip st.1 h
theorem ZkF {prog:Program} {w:World} {A:Around} {E:Value->Shared->Prop} {s:Shared} {a b:Addr} {us vs:Array Value} {Q:Value->Shared->Prop} (ha:s.heap.IsTuple a us) (hb:s.heap.IsTuple b vs)
  (h:∀h',ZSt (s.heap.objs.size+4) (s.heap.objs.size+2) (s.heap.objs.size+3) s.heap.objs.size (s.heap.objs.size+1) a b 0 h'->(∀c o,s.heap.get? c=some o->h'.get? c=some o)->Q (.ref (s.heap.objs.size+4)) { s with heap:=h' }) :
  wpAny (model prog w) A (call (.type "zip") [.ref a,.ref b]) Q E s:=by
 let H1:Heap:=s.heap.push { cls:=.type "tuple_iterator",data:=.fields #[.ref a,.int 0 0] }
 let H2:Heap:=H1.push { cls:=.type "tuple_iterator",data:=.fields #[.ref b,.int 0 0] }
 let H3:Heap:=H2.push { cls:=.type "tuple",data:=.seq #[.ref s.heap.objs.size,.ref H1.objs.size] }
 let H4:Heap:=H3.push { cls:=.type "tuple",data:=.seq #[.none,.none] }
 let H5:Heap:=H4.push { cls:=.type "zip",data:=.fields #[.none,.bool false,.bool false,.ref H2.objs.size,.ref H3.objs.size] }
 have m:Meets (Builtin.«zip.__new__» ⟨[.type "zip",.ref a,.ref b],[]⟩) (fun _ R s1=>s1=s∧R (.ok (.ret (.ref H4.objs.size))) { s with heap:=H5 }):=.of_wp fun prog w A R s1 hR=>by
  obtain ⟨rfl,hR⟩:=hR;obtain ⟨hp,g,d,tk,os⟩:=s1;have hsub:=sub_zip;have hL1:Heap.IsTuple (Shared.heap ⟨hp,g,d,tk,os⟩) a us:=ha;have hL2:Heap.IsTuple (Shared.heap ⟨hp.push { cls:=.type "tuple_iterator",data:=.fields #[.ref a,.int 0 0] },g,d,tk,os⟩) b vs:=Heap.IsTuple.push hb _
  wp_walk using Gb hL1,Gb hL2
  exact ⟨_,rfl,hR⟩
 refine callType_new F.called_zip (by decide) (F.typeCall_zip_2 _ _) (F.newCall_zip_2 _ _) (fun obj=>F.args_object_init_3 obj _ _) F.entry_zip_new m ⟨rfl,?_⟩;have z1:H1.objs.size=s.heap.objs.size+1:=Rg ..;have z2:H2.objs.size=s.heap.objs.size+2:=by rw [Rg,z1]
 have z3:H3.objs.size=s.heap.objs.size+3:=by rw [Rg,z2]
 have z4:H4.objs.size=s.heap.objs.size+4:=by rw [Rg,z3]
 have up5:∀c o,H4.get? c=some o->H5.get? c=some o:=fun c o e=>Qi _ e;have up4:∀c o,H3.get? c=some o->H5.get? c=some o:=fun c o e=>up5 c o (Qi _ e);have up3:∀c o,H2.get? c=some o->H5.get? c=some o:=fun c o e=>up4 c o (Qi _ e);have up2:∀c o,H1.get? c=some o->H5.get? c=some o:=fun c o e=>up3 c o (Qi _ e);have g5:H5.get? H4.objs.size=some _:=Qs _ rfl;have g4:H5.get? H3.objs.size=some _:=up5 _ _ (Qs _ rfl);have g3:H5.get? H2.objs.size=some _:=up4 _ _ (Qs _ rfl);have g2:H5.get? H1.objs.size=some _:=up3 _ _ (Qs _ rfl);have g1:H5.get? s.heap.objs.size=some _:=up2 _ _ (Qs _ rfl);show _∧_;rw [z4,z2,z3] at g5;rw [z3] at g4;rw [z2,z1] at g3;rw [z1] at g2;rw [z4];exact ⟨⟨_,g5,rfl⟩,h H5 ⟨g5,g3,⟨_,_,g4⟩,⟨_,g1,rfl,rfl⟩,⟨_,g2,rfl,rfl⟩⟩ fun c o e=>up2 c o (Qi _ e)⟩
theorem Znp:bootBuiltins "zip"=some (.type "zip"):=by decide +kernel
theorem ZbG:bootBuiltins "all"=some (.builtin "all"):=by decide +kernel
theorem Ug {c x y:Nat} (h1:c≠x) (h2:c≠y):c∉[x,y]:=fun z=>by
 rcases Qh.mp z with z|z
 ·exact h1 z
 ·exact h2 (by simpa using z)
theorem ZkP {m a b:Nat} (la:a<m) (lb:b<m):ZAp (m+4) (m+2) (m+3) m (m+1) [m,a] [m+1,b] where
 TIz:=(by omega:(m+2:Nat)≠m+4)
 TOz:=(by omega:(m+3:Nat)≠m+4)
 i1z:=(by omega:(m:Nat)≠m+4)
 i2z:=(by omega:(m+1:Nat)≠m+4)
 TITO:=(by omega:(m+2:Nat)≠m+3)
 TIi1:=(by omega:(m+2:Nat)≠m)
 TIi2:=(by omega:(m+2:Nat)≠m+1)
 TOi1:=(by omega:(m+3:Nat)≠m)
 TOi2:=(by omega:(m+3:Nat)≠m+1)
 i12:=(by omega:(m:Nat)≠m+1)
 z1:=Ug (by omega) (by omega)
 z2:=Ug (by omega) (by omega)
 o1:=Ug (by omega) (by omega)
 o2:=Ug (by omega) (by omega)
 b1:=Ug (by omega) (by omega)
 b2:=Ug (by omega) (by omega)
section
variable {X:Cx}
def Zia (K:W.Frag) (ta:TA):TI:=fun σ H R=>ta σ H fun vs H1=>∃a b,vs=[.ref a,.ref b]∧(∃xs,SqT K H1 a xs)∧(∃ys,SqT K H1 b ys)∧R (Itz K a b) H1
theorem Zh5 (K:W.Frag) {e1 e2:Expr} {ta:TA} {p pos pos':Pos} {es:List Expr} {n:Nat} (hg:Gl X "zip") (hm:X.mg "zip"=none) (ha:PA X [e1,e2] ta) (hK:X.K=K:=by rfl)
  (hs:starEach [e1,e2] X.env=(false,eval e1 X.env)::starEach [e2] X.env:=by rfl) (hpl:(backTo pos (starEach [e2] X.env)).any (·.1)=false:=by rfl):PI X (.Tuple es n pos') (.Call (.Name "zip" p) [e1,e2] [] pos) (Zia K ta):=by
 subst hK;intro pins s σ H R I h;refine Rv (Vr I hg hm Znp (Gc (Zr (ha pos pins s σ H _ I h) fun us s1 ⟨vs,H1,I1,r1,q1⟩=>?_) hs hpl));obtain ⟨a,b,e,⟨xs,qa⟩,⟨ys,qb⟩,q⟩:=q1;subst e;obtain ⟨u,v,rfl,ra,rb⟩:=Vy r1;cases (show u=Value.ref a from ra);cases (show v=Value.ref b from rb);obtain ⟨as,ka,ta',_⟩:=I1.tuple qa;obtain ⟨bs,kb,tb',_⟩:=I1.tuple qb;have la:a<s1.heap.objs.size:=by obtain ⟨o,e,_⟩:=ta';exact Qg e
 have lb:b<s1.heap.objs.size:=by obtain ⟨o,e,_⟩:=tb';exact Qg e
 refine ZkF ta' tb' fun h' st k=>wpAny_pyIter_zip st.1 ?_;have Z:=ZkP la lb;refine ⟨s1.heap.objs.size+4,_,_,_,H1,rfl,I1.kept (t':=s1.toks) k,Zod Z (Qy la) (Qy (Gn lb)),st,fun c hc=>?_,q⟩
 have hle:s1.heap.objs.size≤c:=by
  simp only [Qh,QX,QY] at hc;rcases hc with rfl|rfl|rfl|rfl|rfl
  ·exact R5 _ 4
  ·exact R5 _ 2
  ·exact R5 _ 3
  ·exact Qf _
  ·exact R5 _ 1
 have e:=I1.fpOk hle (I1.hok.fresh hle);exact e
theorem Zip {P:Program} {w:World} {A:Around} {bs:List Bool} {us:List Value} (r:Vals (bs.map V.bl) us):TruthOf P w A (fun i v=>us.toArray[i]?=some v) (fun i=>bs.getD i false):=by
 intro i v s Q E e q;have e':us[i]?=some v:=by simpa using e
 have hl:=r.length;rw [Qd] at hl
 have lt:i<bs.length:=by
  have:=(QJ.mp e').1;omega
 obtain ⟨u,e2,r2⟩:=r.get (i:=i) (x:=V.bl bs[i]) (by simp [lt]);rw [e'] at e2;cases e2;cases (show v=Value.bool bs[i] from r2);have z:bs.getD i false=bs[i]:=by simp [List.getD,lt]
 exact RM (by rw [←z];exact q)
theorem ZgD:∀bs:List Bool,((List.range bs.length).all fun i=>bs.getD i false)=bs.all id
 |[]=>rfl
 |b::bs=>by
  rw [QM,List.range_succ_eq_map,GF,GN,GF,←ZgD bs];rfl
theorem ZdN (hc:X.calm=true):YG X (.builtin "all") (fun xs H Q=>∃(a:Addr) (bs:List Bool),xs=[.ref a]∧H a=some (.lst (bs.map V.bl))∧Q (.bl (bs.all id)) H):=by
 intro pins s σ H xs us Q I r h;obtain ⟨a,bs,rfl,q,hq⟩:=h;obtain ⟨u,rfl,ru⟩:=Xa r;cases (show u=Value.ref a from ru);obtain ⟨its,rv,pl,hz⟩:=I.list (.inl (.inl q));have lt:a<s.heap.objs.size:=by obtain ⟨o,e,_⟩:=pl.isList;exact Qg e
 have hl:=rv.length;rw [Qd] at hl;refine call_all_walk (wpAny_pyIter_list pl.isList ⟨s.heap.objs.size,_,_,_,_,_,_,rfl,Walks.list (show X.A.in1.handled=none from I.ok.hd hc) _ a (Qy lt) its.toArray,⟨⟨_,Qs _ rfl,rfl,rfl⟩,pl.isList.push _⟩,Zip rv,fun h' tk k=>?_⟩);rw [Qx,←hl,ZgD];exact ⟨.bl _,H,I.kept (t':=tk) fun b o e=>k b o (fun z=>absurd (Qg e) (by rw [show b=s.heap.objs.size by simpa using z];exact QP _)) (Qi _ e),rfl,hq⟩
def ZdW (X:Cx) (CX:Yw) (Wo:Addr->Sp->Prop):Prop:=∀f sp,Wo f sp->∃k fd ps,FnOk X.prog X.w X.K X.mg X.base CX k f fd ps sp∧Room k X.A∧W.keepIn X.K (.ref f)=true∧Binds X.K fd ps []
def ZoA (Wo:Addr->Sp->Prop) (i:Nat) (E:XK) (t:TA):TE:=fun σ H Q=>∃f sp,σ[i]?=some (some (.ref f))∧Wo f sp∧t σ H fun vs H1=>sp vs H1 Q E
theorem Zkd {CX:Yw} {Wo:Addr->Sp->Prop} {E:XK} {i:Nat} {x:Str} {p pos:Pos} {e:Expr} {es:List Expr} {t:TA} (F:ZdW X CX Wo) (hN:X.N[i]?=some x) (hv:Js X.env.scope x) (hx:ZeD CX X E) (ha:PA X (e::es) t)
  (hd:(x==("__debug__" : Str))=false:=by decide) (hcd:(x==("__classdict__" : Str))=false:=by decide)
  (he:starEach (e::es) X.env=(false,eval e X.env)::starEach es X.env:=by rfl) (hpl:(backTo pos (starEach es X.env)).any (·.1)=false:=by rfl):PE X (.Call (.Name x p) (e::es) [] pos) (ZoA Wo i E t):=by
 intro pins s σ H Q I h;obtain ⟨f,sp,e1,hF,q⟩:=h;obtain ⟨k,fd,ps,Fn,hr,hk,hb⟩:=F f sp hF;refine Rv (Zr (Zb7 hN hv hd hcd pins s σ H (fun v H'=>v=.ref f∧H'=H) I ⟨_,e1,rfl,rfl⟩) fun u s1 ⟨v,H1,I1,r1,e2,e3⟩=>?_);subst e2 e3;cases (show u=Value.ref f from r1);refine Gi (h₀:=X.base) I1.ok.mod.kin hk (Zr (ha pos pins s1 σ H1 _ I1 q) fun us s2 ⟨vs,H2,I2,r2,q2⟩=>⟨I2.kIn,?_⟩) he hpl;exact Zla Fn hr hb .nil hx I2 r2 (by rw [Qv];exact q2)
end
section
variable {X:Cx} {tg l:Expr} {tl:TE} (K:W.Frag) (hK:X.K=K)
include hK
theorem Zoa:Uv X (ZdQ K):=by subst hK;exact Ym
theorem UN:Uv X (Zeh K):=by subst hK;exact Zp
theorem Zj3:Yg X (compareOp .NotIn) (rIn K true):=by subst hK;exact Zjz
theorem ZmS:YG X (.type "list") (fun xs H Q=>∃p ys,xs=[.ref p]∧(SqL K H p ys∨SqT K H p ys)∧∀l,H l=none->Q (.ref l) (Zb H l (.lst ys))):=by subst hK;exact Zep
end
theorem Zjt {X:Cx} (K:W.Frag) {es:List Expr} {k:Nat} {t:Vd} {n:Nat} {pos:Pos} (hc:X.calm=true) (h:Jr X es t) (hK:X.K=K:=by rfl)
  (hn:(assignEach es X.env).length=n:=by rfl) (hst:(assignEach es X.env).findIdx? (·.1)=none:=by rfl):PG X (.Tuple es k pos) (Zg3 K n t):=by
 subst hK;exact Jk hc h hn hst
theorem ZaM {J:It} {σ0:St} {g:TG} {te:TE} {Q:VK} {H1:Hp} (out:List V) (hn:out.length<sizeLine) (σP:St->Prop) (h0:σP σ0)
  (go:∀i H,i<out.length->Same H1 H->J.go i H) (stop:∀H,Same H1 H->J.stop out.length H)
  (step:∀i σ H x H' y,out[i]?=some y->σP σ->Same H1 H->J.yld i H x H'->∀C:V->St->Hp->Prop,(∀σ2 H6,σP σ2->Same H H6->C y σ2 H6)->g x σ H' fun σ2 H4=>te σ2 H4 fun y' H6=>C y' σ2 H6)
  (fin:∀D H',H1 D=none->Same H1 H'->H' D=some (.lst out)->Q (.ref D) H'):JZ J σ0 g Zdv te Q H1:=by
 intro D hD
 have keep:∀{H:Hp} {o:HO},Same H1 H->Same H1 (Zb H D o):=fun {H o} e b u q=>by
  rw [Ze (ZU q hD)];exact e b u q
 refine ⟨fun i m σ ys H=>i≤out.length∧m=out.length-i∧σP σ∧ys=out.take i∧H D=some (.lst ys)∧Same H1 H,⟨_,QK _,rfl,h0,rfl,Zf,keep (Same.refl H1)⟩,?_⟩;rintro i m σ ys H ⟨hi,rfl,p,rfl,hd,sm⟩;refine ⟨hd,?_⟩;by_cases lt:i<out.length
 ·refine .inr ⟨go i H lt sm,fun σ2 ys2 H3=>σP σ2∧ys2=out.take (i+1)∧H3 D=some (.lst ys2)∧Same H1 H3,fun σ2 ys2 H3 ⟨a,b,c,d⟩=>⟨_,by omega,lt,rfl,a,b,c,d⟩,fun x H3 y=>?_⟩;have e:out[i]?=some out[i]:=by simp [lt]
  refine step i σ H x H3 out[i] e p sm y (fun y' σ2 H6=>H6 D=some (.lst (out.take i))∧(out.take i).length<sizeLine∧σP σ2∧out.take i++[y']=out.take (i+1)∧Zb H6 D (.lst (out.take i++[y'])) D=some (.lst (out.take i++[y']))∧Same H1 (Zb H6 D (.lst (out.take i++[y'])))) fun σ2 H6 p2 s6=>?_;exact ⟨s6 _ _ hd,by rw [QW];omega,p2,by rw [List.take_add_one,e];rfl,Zf,keep (sm.trans s6)⟩
 ·have e:i=out.length:=by omega
  subst e;rw [QZ] at hd;exact .inl ⟨stop H sm,fin D H hD sm hd⟩
section
variable {K:W.Frag} {H:Hp} {xs ys:List V} {a b:Addr} {Q:VK}
end
noncomputable def ZbS (js:List (Option Nat)) (σ:St):St:=js.map fun o=>match o with|none=>none|some j=>(σ[j]?).getD none
noncomputable def U6 (fr:List Str) (cells:List (Str×Addr)):List (Str×Addr):=fr.filterMap fun x=>(cells.lookup x).map fun c=>(x,c)
noncomputable def ZkH (js:List (Option Nat)) (N M:List Str) (inn out:List (Str×NameKind)):Bool :=
 (js.zip N).all fun p=>match p.1 with
  |none=>true
  |some j=>(M[j]?==some p.2)&&((inn.lookup p.2==some .cell)||(inn.lookup p.2==some .free))&&((out.lookup p.2==some .cell)||(out.lookup p.2==some .free))
theorem ZeA {L:List (Str×NameKind)} {x:Str} (h:((L.lookup x==some NameKind.cell)||(L.lookup x==some NameKind.free))=true):L.lookup x=some .cell∨L.lookup x=some .free:=by
 rw [RV] at h;rcases h with h|h
 ·exact .inl (eq_of_beq h)
 ·exact .inr (eq_of_beq h)
theorem Zl5 {fr:List Str} {cells:List (Str×Addr)} {x:Str} (h:x∈fr) (e:(cells.lookup x).isSome=true):∃c,(U6 fr cells).lookup x=some c:=by
 obtain ⟨c,hc⟩:=GD.mp e
 induction fr with
 |nil=>cases h
 |cons y r ih =>
  unfold U6;rw [QL];by_cases q:y=x
  ·subst q;rw [hc];exact ⟨c,by simp⟩
  ·have hr:x∈r:=by
    rcases Qh.mp h with z|z
    ·exact absurd z.symm q
    ·exact z
   cases e2:cells.lookup y with
   |none=>exact ih hr
   |some d =>
    obtain ⟨c',hc'⟩:=ih hr;refine ⟨c',?_⟩;show List.lookup x ((y,d)::U6 r cells)=some c';rw [GO,RL.mpr (Q2 q)];exact hc'
theorem Xu {X:Cx} {N:List Str} {sc:Scope} (fr:List Str) (js:List (Option Nat)) (hk:sc.kind=.function) (hn:∀x∈sc.names,x.2=.local->sc.names.lookup x.1=some .local) (hc:∀y∈sc.names,y.2≠.cell)
  (clos:closureFor sc X.env=pure (U6 fr X.env.cells)) (hall:(fr.all fun x=>(X.env.cells.lookup x).isSome)=true)
  (hhas:((relabel sc X.env).names.all fun y=>(y.2 != .cell&&y.2 != .free)||fr.contains y.1)=true) (hl:js.length=N.length) (hcap:ZkH js N X.N (relabel sc X.env).names X.env.scope.names=true) :
  CompSc X N sc (U6 fr X.env.cells) (ZbS js):=by
 have lk:∀(x:Str) (M:List (Str×NameKind)) (k:NameKind),M.lookup x=some k->(x,k)∈M:=fun x M k h=>RP h;refine ⟨hk,hn,hc,clos,fun x c h=>?_,fun x h=>?_,fun σ=>?_,fun σ i x v e1 e2=>?_⟩
 ·have m:=RP h;obtain ⟨y,_,e⟩:=Rj.mp m;obtain ⟨d,hd,e'⟩:=QH.mp e;cases e';exact hd
 ·have hm:x∈fr:=by
   rcases h with h|h <;>
   ·have q:=Rp.mp hhas _ (lk x _ _ h);rw [RV] at q;rcases q with q|q
    ·simp at q
    ·simpa using q
  exact Zl5 hm (Rp.mp hall x hm)
 ·unfold ZbS;rw [Qd,hl]
 ·unfold ZbS at e2;rw [Qp] at e2;obtain ⟨o,ho,e2⟩:=QH.mp e2;cases o with
  |none=>cases e2
  |some j =>
   have hz:(some j,x)∈js.zip N:=by
    refine List.mem_iff_getElem?.mpr ⟨i,?_⟩;rw [List.getElem?_zip_eq_some];exact ⟨ho,e1⟩
   have q:=Rp.mp hcap _ hz;simp only [Rm] at q;refine ⟨ZeA q.1.2,ZeA q.2,j,eq_of_beq q.1.1,?_⟩;replace e2:(σ[j]?).getD none=some v:=e2;cases e3:σ[j]? with
   |none=>rw [e3] at e2;cases e2
   |some o'=>rw [e3] at e2;rw [show o'=some v from e2]
theorem WF {J:It} {σ0:St} {g:TG} {tt:TT} {te:TE} {Q:VK} {H1:Hp} (ZT:List (Option V)) (hn:ZT.length<sizeLine) (σP:St->Prop) (h0:σP σ0)
  (go:∀i H,i<ZT.length->Same H1 H->J.go i H) (stop:∀H,Same H1 H->J.stop ZT.length H)
  (step:∀i σ H x H' o,ZT[i]?=some o->σP σ->Same H1 H->J.yld i H x H'->∀C:Option V->St->Hp->Prop,(∀σ2 H6,σP σ2->Same H H6->C o σ2 H6)->g x σ H' fun σ2 H4=>tt σ2 H4 fun c H5=>if c=true then te σ2 H5 fun y' H6=>C (some y') σ2 H6 else C none σ2 H5)
  (fin:∀D H',H1 D=none->Same H1 H'->H' D=some (.lst (ZT.filterMap id))->Q (.ref D) H'):JZ J σ0 g tt te Q H1:=by
 intro D hD
 have keep:∀{H:Hp} {o:HO},Same H1 H->Same H1 (Zb H D o):=fun {H o} e b u q=>by
  rw [Ze (ZU q hD)];exact e b u q
 have fl:∀i,((ZT.take i).filterMap id).length≤ZT.length:=fun i=>Qn (GP _ _) (by rw [QW];omega);refine ⟨fun i m σ ys H=>i≤ZT.length∧m=ZT.length-i∧σP σ∧ys=(ZT.take i).filterMap id∧H D=some (.lst ys)∧Same H1 H,⟨_,QK _,rfl,h0,rfl,Zf,keep (Same.refl H1)⟩,?_⟩;rintro i m σ ys H ⟨hi,rfl,p,rfl,hd,sm⟩;refine ⟨hd,?_⟩;by_cases lt:i<ZT.length
 ·refine .inr ⟨go i H lt sm,fun σ2 ys2 H3=>σP σ2∧ys2=(ZT.take (i+1)).filterMap id∧H3 D=some (.lst ys2)∧Same H1 H3,fun σ2 ys2 H3 ⟨a,b,c,d⟩=>⟨_,by omega,lt,rfl,a,b,c,d⟩,fun x H3 y=>?_⟩;have e:ZT[i]?=some ZT[i]:=by simp [lt]
  have tk:(ZT.take (i+1)).filterMap id=(ZT.take i).filterMap id++ZT[i].toList:=by
   rw [List.take_add_one,e];simp only [Option.toList_some,Rx];cases ZT[i]<;>rfl
  refine step i σ H x H3 ZT[i] e p sm y (fun o σ2 H6=>match o with
   |some y'=>H6 D=some (.lst ((ZT.take i).filterMap id))∧((ZT.take i).filterMap id).length<sizeLine∧σP σ2∧(ZT.take i).filterMap id++[y']=(ZT.take (i+1)).filterMap id∧Zb H6 D (.lst ((ZT.take i).filterMap id++[y'])) D=some (.lst ((ZT.take i).filterMap id++[y']))∧Same H1 (Zb H6 D (.lst ((ZT.take i).filterMap id++[y'])))
   |none=>σP σ2∧(ZT.take i).filterMap id=(ZT.take (i+1)).filterMap id∧H6 D=some (.lst ((ZT.take i).filterMap id))∧Same H1 H6) fun σ2 H6 p2 s6=>?_
  rw [tk];cases hg:ZT[i] with
  |none=>exact ⟨p2,by simp,s6 _ _ hd,sm.trans s6⟩
  |some y'=>exact ⟨s6 _ _ hd,R3 (fl i) hn,p2,by simp,Zf,keep (sm.trans s6)⟩
 ·have e:i=ZT.length:=by omega
  subst e;rw [QZ] at hd;exact .inl ⟨stop H sm,fin D H hD sm hd⟩
end L2
namespace RevF
open PySem PySem.Spec PyProof.Rows
theorem sp:splitId "reversed.__new__"=some ("reversed","__new__"):=by rfl
section
variable {prog:Program} {w:World} {A:Around} {E:Value->Shared->Prop} {s:Shared} {a it:Addr} {us:Array Value}
end
end RevF
namespace L2
open PySem PySem.Spec PyProof.Rows
section
variable {X:Cx}
end
section
variable {prog:Program} {w:World} {A:Around} {E:Value->Shared->Prop} {s:Shared}
end
section
variable {X:Cx}
def ZiK (K:W.Frag):R2:=fun x y H Q=>∃a b xs ys,x=.ref a∧y=.ref b∧SqT K H a xs∧SqT K H b ys∧xs.length+ys.length≤sizeLine∧∀H' p,Same H H'->SqT K H' p (xs++ys)->Q (.ref p) H'
theorem Zgj:Yg X (binaryOp .Add) (ZiK X.K):=by
 intro pins s σ H x y v u Q I rx ry h;obtain ⟨a,b,xs,ys,rfl,rfl,ha,hb,hz,q⟩:=h;by_cases hx:xs=[]
 ·subst hx;cases rx;cases ry;obtain ⟨its,r1,p1,_⟩:=I.tuple ha;obtain ⟨its2,r2,p2,_⟩:=I.tuple hb;have e:its=[]:=r1.nil_iff.mpr rfl;subst e;obtain ⟨⟨cls,dd,data,sl⟩,ho,hc,n,hd⟩:=id p1;obtain ⟨⟨cls2,dd2,data2,sl2⟩,ho2,hc2,n2,hd2⟩:=id p2;simp only at hc hd hc2 hd2;subst hc hd hc2 hd2
  exact concat_meets ⟨_,ho,rfl⟩ ⟨_,ho2,rfl⟩ Nd seq_tuple_add Nf Ng (Nh _ _)
   (tuple_addW0 a b _ its2.toArray n n2 dd dd2 sl sl2 (by simp)) ⟨ho,ho2,⟨.ref b,H,I,rfl,q H b (Same.refl H) hb⟩⟩
 ·refine Zd9 pins s σ H (.ref a) (.ref b) v u Q I rx ry ⟨a,b,xs,ys,rfl,rfl,ha,hb,hx,hz,fun e=>?_,fun _ p np=>q _ p (Zj np) (.of Zf)⟩;subst e;exact q H a (Same.refl H) (by rw [Qv];exact ha)
end
section
variable {X:Cx} {o e f:Expr} {apos cpos:Pos} {td ty tx:TE}
end
section
variable {X:Cx}
theorem Zmo {n:Nat} (h:n≤1000):3*n≤sizeLine:=Qn (Nat.mul_le_mul_left 3 h) (by decide)
theorem Zi6:V9 X "str.lower" (fun x xs H Q=>∃z,x=.str z∧xs=[]∧z.length≤1000∧Q (.str (Txt.lower z)) H):=by
 intro pins s σ H x xs v us Q I rx r h;obtain ⟨z,rfl,rfl,hz,q⟩:=h;obtain ⟨t,rfl⟩:=rx;cases r;exact call_gives PySem.F.slot_str_lower rfl PySem.F.entry_str_lower (PySem.F.args_str_lower_1 _) (gives_str_lower z t (fit_lower (by omega))) ⟨Qn (len_lower z) (Zmo hz),.str (Txt.lower z),H,I.tok _,⟨_,rfl⟩,q⟩
theorem ZeU (K:W.Frag) {o:Expr} {to:TE} {name:Str} {apos cpos:Pos} {T id:String} {r:V->List V->Hp->VK->Prop} (pa:PlainAttrs T) (slot:Slot T name id) (hty:typeOf (.builtin id)=pure (.type "method_descriptor")) (hm:V9 X id r) (ho:PE X o to) (hK:X.K=K:=by rfl)
  (hbase:attributeBase o name X.env (eval o X.env)=eval o X.env:=by rfl) (hline:(apos.endLine==cpos.line)=true:=by rfl):PE X (.Call (.Attribute o name apos) [] [] cpos) (Zhk K T r to):=by
 subst hK;exact ZnW pa slot hty hm ho hbase hline
end
end L2
namespace RevF
open PySem PySem.Spec PyProof.Rows
section
variable {prog:Program} {w:World} {A:Around} {E:Value->Shared->Prop} {s:Shared} {a it:Addr} {us:Array Value}
end
end RevF
namespace TextM
open PySem
end TextM
namespace L2
open PySem PySem.Spec PyProof.Rows
section
variable {X:Cx}
theorem Zch:∀{zs:List Str} {us:List Value},Vals (zs.map V.str) us->StrsAre us zs
 |[],_,.nil=>.nil
 |z::zs,_,.cons r rs=>by
  obtain ⟨t,rfl⟩:=r;exact .cons z t (Zch rs)
end
section
variable {X:Cx} {pins:List (Addr×Obj)} {σ:St} {H:Hp} {s:Shared}
end
section
variable {X:Cx}
def ZjO:V->Option Int->Option Int->Hp->VK->Prop:=fun x lo hi H Q=>∃z,x=.str z∧z.length≤sizeLine∧Q (.str (Txt.slice z lo hi)) H
theorem ZeO {v:Value} {o:Option Int} (h:IsPart v o):∃l:Option (Int×Tok),v=partValue l∧l.map (·.1)=o:=by
 cases h with
 |none=>exact ⟨none,rfl,rfl⟩
 |int i t=>exact ⟨some (i,t),rfl,rfl⟩
theorem ZnA:SlR X ZjO:=by
 intro pins s σ H x v vl vu lo hi sl Q I rx hs pl pu h;obtain ⟨z,rfl,hz,q⟩:=h;obtain ⟨t,rfl⟩:=rx;obtain ⟨l,rfl,el⟩:=ZeO pl;obtain ⟨u,rfl,eu⟩:=ZeO pu;refine ⟨"str",_,PyProof.Rows.slot_str_getitem.lookup,rfl,wpAny_getItem_str_slice (st:=none) hs rfl ?_⟩;unfold sliceMade slicePicked;rw [el,eu];show Made.post (if ((1:Int)==1&&(Builtin.Str.strSliceIndices lo hi 1 z.length).length==z.length)=true then _ else Made.str ⟨(List.filterMap (fun i=>z.cps[i]?) (Builtin.Str.strSliceIndices lo hi 1 z.length)).toArray⟩) _ _;have hle:=Txt.slice_le z lo hi;unfold Txt.slice at q hle;by_cases c:((1:Int)==1&&(Builtin.Str.strSliceIndices lo hi 1 z.length).length==z.length)=true
 ·rw [Qc c];rw [Qc c] at q;exact ⟨.str z,H,I,⟨_,rfl⟩,q⟩
 ·rw [Qa c];rw [Qa c] at q hle;exact ⟨Qn hle hz,.str _,H,I.tok _,⟨_,rfl⟩,q⟩
end
section
variable {X:Cx} {CX:Yw} {k:Nat} {f C:Addr} {fd:FuncData} {ps:List Str} {sp:Sp} {dvs:List V} {ds:List Value} {E:XS} {x m:Str} {p pos apos:Pos} {e o:Expr} {es:List Expr} {ta:TE} {t:TA}
def Zky (C:Addr) (m:Str) (sp:Sp) (dvs:List V) (E:XS) (ta:TE) (t:TA):TE:=fun σ H Q=>ta σ H fun x H1=>∃a dx fs,x=.ref a∧H1 a=some (.ins C dx fs)∧fs.lookup m=none ∧
 t σ H1 fun vs H2=>sp (x::(vs++dvs)) H2 Q (E σ)
theorem Ye {pl:Sem Bool} (he:PE X o ta) (c:Cls X.K C) (hm:Meth X.K C m f) (F:FnOk X.prog X.w X.K X.mg X.base CX k f fd ps sp) (hr:Room k X.A) (hb:Binds X.K fd ps ds) (hd:Vals dvs ds) (hx:W7 CX X E) (ha:PA X (e::es) t)
  (hst:starEach (e::es) X.env=(false,eval e X.env)::starEach es X.env:=by rfl) (hpl:(backTo pos (starEach es X.env)).any (·.1)=false:=by rfl)
  (ht:eval (.Call (.Attribute o m apos) (e::es) [] pos) X.env=(do
   let ov ←eval o X.env
   standAt apos.atName
   let (f,first) ←holding [ov] (getMethod ov m pl)
   callWith pos f first (backTo pos (starEach (e::es) X.env)) (backToKw pos (keywordEach [] X.env))):=by rfl) :
  PE X (.Call (.Attribute o m apos) (e::es) [] pos) (Zky C m sp dvs E ta t):=by
 intro pins s σ H Q I h;refine W.methodCall_KW (pl:=pl) (Zr (he pins s σ H _ I h) fun u s1 ⟨x,H1,I1,rx,a,dx,fs,ex,ea,l,q⟩=>?_) ht;subst ex;obtain rfl:u=Value.ref a:=rx;refine Zma I1 ea c hm l ?_;refine Gi (first:=[.ref a]) (h₀:=X.base) I.ok.mod.kin hm.kp (Zr (ha pos pins s1 σ H1 _ I1 q) fun us s2 ⟨vs,H2,I2,r,q2⟩=>⟨I2.kIn,?_⟩) hst hpl;exact Zgo (us:=.ref a::us) (vs:=.ref a::vs) F hr hb hd hx I2 (.cons rfl r) q2
def Zj6 (C:Addr) (sp:Sp) (dvs:List V) (E:XS) (t:TA):TE:=fun σ H Q=>t σ H fun vs H1=>∀x dx,H1 x=none->H1 dx=none->dx≠x →
 sp (.ref x::(vs++dvs)) (Zb (Zb H1 dx (.own x)) x (.ins C dx [])) (fun v H2=>v=.non∧Q (.ref x) H2) (E σ)
theorem ZhC {pins:List (Addr×Obj)} {σ:St} {H:Hp} {s:Shared} {Q:VK} {us:List Value} {vs:List V} (M:Mk X.K C f) (F:FnOk X.prog X.w X.K X.mg X.base CX k f fd ps sp) (hr:Room (k+1) X.A) (hb:Binds X.K fd ps ds) (hd:Vals dvs ds)
  (hx:W7 CX X E) (I:Inv X pins σ H s) (r:Vals vs us)
  (h:∀x dx,H x=none->H dx=none->dx≠x->sp (.ref x::(vs++dvs)) (Zb (Zb H dx (.own x)) x (.ins C dx [])) (fun v H2=>v=.non∧Q (.ref x) H2) (E σ)) :
  wpAny (model X.prog X.w) X.A (call (.ref C) us) (EP X pins σ Q) X.xe s:=by
 have hq:=h (s.heap.objs.size+1) s.heap.objs.size (I.hok.fresh (QU _)) (I.hok.fresh (Qf _)) (Qy (RD _));have I2:=Inv.made (C:=C) I;have r2:Vals (V.ref (s.heap.objs.size+1)::(vs++dvs)) (Value.ref (s.heap.objs.size+1)::(us++ds)):=.cons rfl (r.append hd)
 have hl:(Value.ref (s.heap.objs.size+1)::us++ds).length=ps.length:=by
  have e:=r2.length;rw [F.len _ _ _ _ hq] at e;exact e.symm
 refine RZ (ZlL (f:=f) I.kIn M.makes M.init (Ru.mp M.fn) (RO (F.run _ X.stack _ _ ⟨Value.ref (s.heap.objs.size+1)::us,[]⟩ (Value.ref (s.heap.objs.size+1)::(us++ds)) _ _ (E σ) (hr.make C us [])
  (I2.env0.make C us []) (hb _ (Value.ref (s.heap.objs.size+1)::us) I2.kIn hl) r2 hq) fun r s' hq'=>?_))
 cases r with
 |error e=>exact hx pins σ _ _ e s' I2 hq'
 |ok fl =>
  cases fl with
  |ret u =>
   obtain ⟨v,H',I3,rv,ev,q3⟩:=I2.after hq';subst ev;exact ⟨rv,⟨V.ref (s.heap.objs.size+1),H',I3,rfl,q3⟩⟩
  |next=>exact False.elim hq'
  |brk=>exact False.elim hq'
  |cont=>exact False.elim hq'
theorem Zg5 (M:Mk X.K C f) (F:FnOk X.prog X.w X.K X.mg X.base CX k f fd ps sp) (hr:Room (k+1) X.A) (hg:Gl X x) (hm:X.mg x=some (.ref C)) (hb:Binds X.K fd ps ds) (hd:Vals dvs ds) (hx:W7 CX X E)
  (hdb:(x==("__debug__" : Str))=false:=by decide):PE X (.Call (.Name x p) [] [] pos) (Zj6 C sp dvs E Zbv):=by
 intro pins s σ H Q I h;refine Rv (Jd I hg hm ?_ hdb);exact W.callWith_K0 I.kIn M.kp (ZhC (us:=[]) M F hr hb hd hx I .nil h)
end
section
variable {X:Cx}
theorem U8:bootBuiltins "sorted"=some (.builtin "sorted"):=by decide +kernel
theorem JE:∀{us:List Value} {zs:List Str},StrsAre us zs->Vals (zs.map V.str) us
 |_,_,.nil=>.nil
 |_,_,.cons y t r=>.cons ⟨t,rfl⟩ (JE r)
theorem Zk7 (K:W.Frag) (hK:X.K=K:=by rfl):YG X (.builtin "sorted") (fun xs H Q=>∃l zs,xs=[.ref l]∧SqL K H l (zs.map V.str)∧zs.length<64∧∀D zs',H D=none->zs'.Perm zs->sortedS zs'=true->Q (.ref D) (Zb H D (.lst (zs'.map V.str)))):=by
 subst hK;intro pins s σ H xs us Q I r h;obtain ⟨l,zs,rfl,hq,hl,q⟩:=h;obtain ⟨u,rfl,ru⟩:=Xa r;cases (show u=Value.ref l from ru);obtain ⟨its,rv,pl,hz⟩:=I.list hq;have hlen:=rv.length;rw [Qd] at hlen;refine sorted_strs pl.isList (Zch rv) (by omega) fun out zs' so hp hs=>?_;obtain ⟨e,he⟩:=sortedAll_at s.heap its out;have hle:s.heap.objs.size≤s.heap.objs.size+1:=QU _;have hl2:zs'.length=zs.length:=hp.length_eq;refine ⟨.ref _,_,I.laid (t':=s.toks) (o:=.lst (zs'.map V.str)) (fun b u q=>sortedAll_old q) hle (show ObjOk X.prog X.w _ _ _ (.lst (zs'.map V.str)) from ⟨by rw [Qd];exact Q1 (Zw (by omega)),out.toList,e,JE so,he⟩),rfl,q _ zs' (I.hok.fresh hle) hp hs⟩
end
noncomputable def ZP (x y:Str):Bool:=decide (x.cps.toList<y.cps.toList)
section
variable {prog:Program} {w:World} {A:Around} {E:Value->Shared->Prop} {s:Shared}
noncomputable def YL (xs:Array (Str×Tok)):Array Value:=xs.map fun p=>.str p.1 p.2
noncomputable def XY (xs:Array (Str×Tok)) (i:Nat):Str:=(xs[i]?.map (·.1)).getD ""
theorem Zf5 {xs:Array (Str×Tok)} {i:Nat} {v:Value} (h:(YL xs)[i]?=some v):∃t,v=.str (XY xs i) t:=by
 simp only [YL,Array.getElem?_map,QH] at h;obtain ⟨p,hp,rfl⟩:=h;exact ⟨p.2,by simp [XY,hp]⟩
theorem Zjx {P:Nat->Value->Prop} (val:Nat->Str) (hval:∀i v,P i v->∃t,v=.str (val i) t):CmpOf prog w A .Gt P (fun i j=>ZP (val j) (val i)):=fun i j vi vj s Q E hi hj h=>by
 obtain ⟨t,rfl⟩:=hval i vi hi;obtain ⟨u,rfl⟩:=hval j vj hj;exact richCompare_gives (op:=.Gt) (R0 s _ t) (R0 s _ u) F.slot_str_gt F.entry_str_gt (F.args_str_gt_2 _ _) (gives_str_gt _ _ t u) (fun x=>nomatch x) h
theorem Zkx {P:Nat->Value->Prop} (val:Nat->Str) (hval:∀i v,P i v->∃t,v=.str (val i) t):CmpOf prog w A .Lt P (fun i j=>ZP (val i) (val j)):=fun i j vi vj s Q E hi hj h=>by
 obtain ⟨t,rfl⟩:=hval i vi hi;obtain ⟨u,rfl⟩:=hval j vj hj;exact richCompare_gives (op:=.Lt) (R0 s _ t) (R0 s _ u) F.slot_str_lt F.entry_str_lt (F.args_str_lt_2 _ _) (gives_str_lt _ _ t u) (fun x=>nomatch x) h
theorem ZkY {a b:Str} {t u:Tok} {Q:Value->Shared->Prop} (hh:A.handled=none)
  (h:∀h' tk,(∀c o,s.heap.get? c=some o->h'.get? c=some o)->Q (if ZP a b=true then .str b u else .str a t) { s with heap:=h',toks:=tk }) :
  wpAny (model prog w) A (call (.builtin "max") [.str a t,.str b u]) Q E s:=by
 have hT:(s.heap.push { cls:=.type "tuple",data:=.seq #[.str a t,.str b u] }).IsTuple s.heap.objs.size (YL #[(a,t),(b,u)]):=⟨_,Qs _ rfl,rfl,0,by simp [YL]⟩;refine call_max_two (Gb hT ?_);have hsz:(s.heap.push { cls:=.type "tuple",data:=.seq #[.str a t,.str b u] }).objs.size=s.heap.objs.size+1:=Rg ..
 refine ⟨_,[_,s.heap.objs.size],[_],_,_,_,_,rfl,Walks.tuple (A:=A.in1) hh _ s.heap.objs.size (by rw [hsz];exact Qy (RD _)) (YL #[(a,t),(b,u)]),
  ⟨⟨_,Qs _ rfl,rfl,rfl⟩,hT.push _⟩,fun c hc=>?_,by simp [YL],Zjx (XY #[(a,t),(b,u)]) (fun _ _=>Zf5),fun v h' tk hP hk=>?_⟩
 ·show c<((s.heap.push _).push _).objs.size;rw [Rg,hsz];rcases Qh.mp hc with rfl|hc
  ·rw [hsz];exact RD _
  ·rcases Qh.mp hc with rfl|hc
   ·exact Gn (RD _)
   ·cases hc
 ·have hold:∀c o,s.heap.get? c=some o->h'.get? c=some o:=fun c o e=>by
   refine hk c o (fun hm=>?_) (Qi _ (Qi _ e));rcases Qh.mp hm with e1|hm
   ·have:=Qg e;rw [e1,hsz] at this;exact QP _ (Nat.lt_of_succ_lt this)
   ·cases hm
  have:=h h' tk hold
  have hv:v=if ZP a b=true then Value.str b u else Value.str a t:=by
   have hP':(YL #[(a,t),(b,u)])[argBest (fun i j=>ZP (XY #[(a,t),(b,u)] j) (XY #[(a,t),(b,u)] i)) 1]?=some v:=by
    have hsz2:(YL #[(a,t),(b,u)]).size-1=1:=by simp [YL]
    rw [←hsz2];exact hP
   have e0:argBest (fun i j=>ZP (XY #[(a,t),(b,u)] j) (XY #[(a,t),(b,u)] i)) 1=if ZP a b=true then 1 else 0:=by
    show (if _=true then 1 else 0)=_;rfl
   by_cases hba:ZP a b=true
   ·rw [e0,Qc hba] at hP';rw [Qc hba];simpa [YL] using hP'.symm
   ·rw [e0,Qa hba] at hP';rw [Qa hba];simpa [YL] using hP'.symm
  rw [hv];exact this
theorem Zjk {a b:Str} {t u:Tok} {Q:Value->Shared->Prop} (hh:A.handled=none)
  (h:∀h' tk,(∀c o,s.heap.get? c=some o->h'.get? c=some o)->Q (if ZP b a=true then .str b u else .str a t) { s with heap:=h',toks:=tk }) :
  wpAny (model prog w) A (call (.builtin "min") [.str a t,.str b u]) Q E s:=by
 have hT:(s.heap.push { cls:=.type "tuple",data:=.seq #[.str a t,.str b u] }).IsTuple s.heap.objs.size (YL #[(a,t),(b,u)]):=⟨_,Qs _ rfl,rfl,0,by simp [YL]⟩;refine call_min_two (Gb hT ?_);have hsz:(s.heap.push { cls:=.type "tuple",data:=.seq #[.str a t,.str b u] }).objs.size=s.heap.objs.size+1:=Rg ..
 refine ⟨_,[_,s.heap.objs.size],[_],_,_,_,_,rfl,Walks.tuple (A:=A.in1) hh _ s.heap.objs.size (by rw [hsz];exact Qy (RD _)) (YL #[(a,t),(b,u)]),
  ⟨⟨_,Qs _ rfl,rfl,rfl⟩,hT.push _⟩,fun c hc=>?_,by simp [YL],Zkx (XY #[(a,t),(b,u)]) (fun _ _=>Zf5),fun v h' tk hP hk=>?_⟩
 ·show c<((s.heap.push _).push _).objs.size;rw [Rg,hsz];rcases Qh.mp hc with rfl|hc
  ·rw [hsz];exact RD _
  ·rcases Qh.mp hc with rfl|hc
   ·exact Gn (RD _)
   ·cases hc
 ·have hold:∀c o,s.heap.get? c=some o->h'.get? c=some o:=fun c o e=>by
   refine hk c o (fun hm=>?_) (Qi _ (Qi _ e));rcases Qh.mp hm with e1|hm
   ·have:=Qg e;rw [e1,hsz] at this;exact QP _ (Nat.lt_of_succ_lt this)
   ·cases hm
  have:=h h' tk hold
  have hv:v=if ZP b a=true then Value.str b u else Value.str a t:=by
   have hP':(YL #[(a,t),(b,u)])[argBest (fun i j=>ZP (XY #[(a,t),(b,u)] i) (XY #[(a,t),(b,u)] j)) 1]?=some v:=by
    have hsz2:(YL #[(a,t),(b,u)]).size-1=1:=by simp [YL]
    rw [←hsz2];exact hP
   have e0:argBest (fun i j=>ZP (XY #[(a,t),(b,u)] i) (XY #[(a,t),(b,u)] j)) 1=if ZP b a=true then 1 else 0:=by
    show (if _=true then 1 else 0)=_;rfl
   by_cases hba:ZP b a=true
   ·rw [e0,Qc hba] at hP';rw [Qc hba];simpa [YL] using hP'.symm
   ·rw [e0,Qa hba] at hP';rw [Qa hba];simpa [YL] using hP'.symm
  rw [hv];exact this
theorem Zju {l:Addr} {vs:List Value} {Q:List Value->Shared->Prop} (hl:IsTup s.heap l vs.toArray)
  (h:Q vs { s with heap:=(s.heap.push (seqObj "list" #[] 0)).update s.heap.objs.size (Obj.mapSeq (·++vs.toArray)) }) (hsz:vs.length≤sizeLine) :
  wpAny (model prog w) A (collect (.ref l)) Q E s:=by
 obtain ⟨o,ho,hc,n,hd⟩:=id hl;unfold collect;refine Qb (wpAny_runValue (Gk entry_proto_collect' ?_));show wpAny _ _ (do again (.builtin "list.__iadd__" ⟨[←newList [],.ref l],[]⟩)) _ _ s;refine Qb (GQ (Qe ⟨Nq _ (by decide +kernel),Gk entry_list_iadd' ?_⟩));show wpAny _ _ (Builtin.List.listExtendWith (.ref s.heap.objs.size) (.ref l) (.ref s.heap.objs.size)) _ _ { s with heap:=s.heap.push (seqObj "list" #[] 0) };unfold Builtin.List.listExtendWith;have ho':(s.heap.push (seqObj "list" #[] 0)).get? l=some o:=Qi _ ho;refine Qb (wpAny_typeOf (T:="tuple") ⟨o,ho',hc⟩ ?_);have ht:(Value.type "tuple"==Value.type "tuple")=true:=by rfl
 rw [Qc (by rw [ht];simp)];refine Qb (listItems_at ho' hd ?_);refine Qb (listItems_at (xs:=#[]) (n:=0) (Qs _ rfl) rfl ?_);rw [Qa (by simp)];refine Qb (listUpdate_at (xs:=#[]) (n:=0) (Qs _ rfl) rfl ?_ (QK _) (by show (#[]++vs.toArray).size≤sizeLine+1;simp only [Array.size_append,Qx,GH];omega));refine Qe ?_;refine Qb (wpAny_load (get?_update_seq (Qs _ rfl) _) ?_);show wpAny _ _ (pure ((#[]:Array Value)++vs.toArray).toList) Q E _;rw [show ((#[]:Array Value)++vs.toArray).toList=vs by simp];exact Qe h
theorem Zig {x:Value} {vs:List Value} {ss:List Str} {Q:Value->Shared->Prop} (hS:StrsAre vs ss) (h64:vs.length<64)
  (hc:∀(A':Around) (Q':List Value->Shared->Prop),A'.handled=A.handled->(∀h1 tk,(∀b o,s.heap.get? b=some o->h1.get? b=some o)->s.heap.objs.size≤h1.objs.size->Q' vs { s with heap:=h1,toks:=tk })->wpAny (model prog w) A' (collect x) Q' E s)
  (h:∀h' tk a e (out:Array Value) (ss':List Str),(∀b o,s.heap.get? b=some o->h'.get? b=some o)->s.heap.objs.size≤a->h'.get? a=some (seqObj "list" out e)->StrsAre out.toList ss'->ss'.Perm ss->sortedS ss'=true->Q (.ref a) { s with heap:=h',toks:=tk }) :
  wpAny (model prog w) A (call (.builtin "sorted") [x]) Q E s:=by
 refine Nu kind_sorted plain_sorted entry_sorted (args_sorted1 _) ?_;unfold Builtin.«sorted»;refine Qb (m:=checkCount "sorted" 1 1 _) (Qe ?_);refine Qb (hc _ _ rfl fun h1 tk k1 z1=>?_);refine Qb (GQ ?_);have hoL:(h1.push (seqObj "list" vs.toArray 0)).get? h1.objs.size=some (seqObj "list" vs.toArray 0):=Qs _ rfl;show wpAny _ _ _ _ _ { s with heap:=h1.push (seqObj "list" vs.toArray 0),toks:=tk };refine Qb (RT (Rb slot_list_sort ⟨_,hoL,rfl⟩ entry_list_sort (list_sort_treeK strKind_oneLt hoL hS.keysOf (fun v₁ v₂ rest e=>keyKind_strs (by rw [←e];exact hS)) h64 fun st' a1 a2=>⟨_,rfl,?_⟩) (args_list_sort _)));obtain ⟨ss',b1,b2,b3⟩:=sorted_out_str hS a1 a2;obtain ⟨e,he⟩:=sortedHeap_at (out:=(arrOf st').map (·.2)) hoL;refine Qe ⟨_,rfl,h _ tk _ e _ ss' (fun b o q=>?_) z1 he b1 b2 b3⟩;have q1:=k1 _ _ q;have lt:b<h1.objs.size:=Qg q1;rw [sortedHeap_old (Qy lt) (by rw [size_push'];exact Gn lt)];exact Qi _ q1
end
section
variable {X:Cx}
theorem Zdh (hc:X.calm=true):YG X (.builtin "max") (fun xs H Q=>∃i j,xs=[.str i,.str j]∧Q (.str (if ZP i j=true then j else i)) H):=by
 intro pins s σ H xs us Q I r h;obtain ⟨i,j,rfl,q⟩:=h;obtain ⟨u,w',rfl,⟨t,rfl⟩,⟨t',rfl⟩⟩:=Vy r;refine ZkY (I.ok.hd hc) fun h' tk k=>⟨_,H,I.kept k,?_,q⟩;by_cases hj:ZP i j=true
 ·rw [Qc hj,Qc hj];exact ⟨_,rfl⟩
 ·rw [Qa hj,Qa hj];exact ⟨_,rfl⟩
theorem Zcs (hc:X.calm=true):YG X (.builtin "min") (fun xs H Q=>∃i j,xs=[.str i,.str j]∧Q (.str (if ZP j i=true then j else i)) H):=by
 intro pins s σ H xs us Q I r h;obtain ⟨i,j,rfl,q⟩:=h;obtain ⟨u,w',rfl,⟨t,rfl⟩,⟨t',rfl⟩⟩:=Vy r;refine Zjk (I.ok.hd hc) fun h' tk k=>⟨_,H,I.kept k,?_,q⟩;by_cases hj:ZP j i=true
 ·rw [Qc hj,Qc hj];exact ⟨_,rfl⟩
 ·rw [Qa hj,Qa hj];exact ⟨_,rfl⟩
theorem ZiR (K:W.Frag) (hK:X.K=K:=by rfl):YG X (.builtin "sorted") (fun xs H Q=>∃l zs,xs=[.ref l]∧SqT K H l (zs.map V.str)∧zs.length<64∧∀D zs',H D=none->zs'.Perm zs->sortedS zs'=true->Q (.ref D) (Zb H D (.lst (zs'.map V.str)))):=by
 subst hK;intro pins s σ H xs us Q I r h;obtain ⟨l,zs,rfl,hq,hl,q⟩:=h;obtain ⟨u,rfl,ru⟩:=Xa r;cases (show u=Value.ref l from ru);obtain ⟨its,rv,pl,hz⟩:=I.tuple hq;have hlen:=rv.length;rw [Qd] at hlen;refine Zig (Zch rv) (by omega) (fun A' Q' _ q'=>Zju pl (q' _ _ (fun b o e=>?_) ?_) (by rw [Qd] at hz;omega)) fun h' tk a e out zs' k1 z1 he so hp hs=>?_
 ·have lt:=Qg e;rw [Heap.get?_update_ne _ _ _ _ (Qy lt)];exact Qi _ e
 ·rw [Heap.size_update,size_push'];exact QU _
 have hl2:zs'.length=zs.length:=hp.length_eq;exact ⟨.ref _,_,I.laid (t':=tk) (o:=.lst (zs'.map V.str)) k1 z1 (show ObjOk X.prog X.w _ _ _ (.lst (zs'.map V.str)) from ⟨by rw [Qd];exact Q1 (Zw (by omega)),out.toList,e,JE so,he⟩),rfl,q _ zs' (I.hok.fresh z1) hp hs⟩
theorem Zh9 {prog:Program} {w:World} {K:Type} [DecidableEq K] (knd:HeapKind prog w K) (d:Addr) (hd:(d==sysModules)=false) :
  MeetsIn prog w (Builtin.«dict.__len__» ⟨[.ref d],[]⟩) (fun _ R s=>∃kvs,s.heap.DictOfH knd d kvs∧R (.ok (.ret (.int kvs.length s.toks))) { s with toks:=s.toks+1 }) :=
 .of_wp fun A R s ⟨kvs,hm,h⟩=>by
  obtain ⟨o,es,ep,ho,hc,hdat,he,hk,hn⟩:=hm;show wpAny _ _ (dictSize d >>= _) _ _ s;unfold dictSize;refine Qb (Qb (RG ho hdat (Qe ?_)));show wpAny _ _ (Builtin.Dict.pendingCount d >>= _) _ _ s;refine Qb (wpAny_pendingCount_other hd ?_);refine wpAny_ret_mkInt ?_;have:es.size=kvs.length:=size_of_entries he;rw [Nat.add_zero,this];exact h
theorem Znl {prog:Program} {w:World} {A:Around} {E:Value->Shared->Prop} {s:Shared} {K:Type} [DecidableEq K] {knd:HeapKind prog w K} {d:Addr} {kvs:List (K×Addr×Value)} {Q:Value->Shared->Prop} (hd:(d==sysModules)=false) (hm:s.heap.DictOfH knd d kvs) (hfit:(kvs.length:Int)<2 ^ 63)
  (h:Q (.int kvs.length (s.toks+1)) { s with toks:=s.toks+1+1 }):wpAny (model prog w) A (call (.builtin "len") [.ref d]) Q E s:=by
 refine Nu kind_len plain_len entry_len (args_len1 _) ?_;unfold Builtin.«len»;refine Qb (m:=oneArg "len" _) (Qe ?_)
 refine Qb (m:=callSpecial? (.ref d) (Str.ofString "__len__")) (Rl (name:=Str.ofString "__len__") hm.typeIs F.slot_dict_len
  (Gh F.slot_dict_len hm.typeIs F.entry_dict_len (F.args_dict_len_1 _) (Zh9 knd d hd) ⟨kvs,hm,?_⟩))
 show wpAny _ _ _ _ _ { s with toks:=s.toks+1 };refine Qb (RT (Qe ?_));refine Qb (GL ?_);show wpAny _ _ (if ((kvs.length:Nat):Int)<0 then _ else _) _ _ _;rw [Qa (by omega)];show wpAny _ _ (if ((kvs.length:Nat):Int) ≥ 2 ^ 63 then _ else _) _ _ _;rw [Qa (by omega)];exact Qb (wpAny_mkInt (Qe ⟨_,rfl,h⟩))
theorem Zki:YG X (.builtin "len") (fun xs H Q=>∃a kvs,xs=[V.ref a]∧H a=some (.dT kvs)∧Q (.int kvs.length) H):=by
 intro pins s σ H xs us Q I r h;obtain ⟨a,kvs,rfl,ha,q⟩:=h;obtain ⟨u,rfl,ru⟩:=Xa r;cases ru;obtain ⟨z,hd,vs,rel,dd⟩:=U5 I.hok ha;refine Znl hd dd (by rw [←rel.length];rw [RY] at z;omega) ?_;rw [←rel.length];exact ⟨.int kvs.length,H,I.tok _,⟨_,rfl⟩,q⟩
end
section
variable {prog:Program} {w:World} {K:Type} [DecidableEq K] {knd:HeapKind prog w K} {A:Around} {E:Value->Shared->Prop} {s:Shared}
theorem Zkz {d a:Addr} {xs:List (K×Addr×Value)} {k:K} {v:Value} {Q:Value->Shared->Prop} (hu:knd.room A) (hkey:knd.is s.heap k a) (hm:s.heap.DictOfH knd d xs) (hsz:xs.length≤sizeLine)
  (h1:∀p,atKey xs k=some p->Q p.2 { s with toks:=s.toks+knd.draws k })
  (h2:atKey xs k=none->∀h',h'.DictOfH knd d (storedH xs k a v)->Heap.SameBut d s.heap h'->Q v { s with heap:=h',toks:=s.toks+knd.draws k }) :
  wpAny (model prog w) A (dictSetDefault d (.ref a) v) Q E s:=by
 obtain ⟨o,es,ep,ho,hc,hd,he,his,hn⟩:=hm;unfold dictSetDefault
 try with_reducible refine RT ?_
 refine Qb (knd.pyHash hu hkey ?_);refine Qb (wpAny_dictFind_heap (s:={ s with toks:=s.toks+knd.draws k }) hu hkey ho hd he his hn ?_ ?_)
 ·intro hno;have hnot:k∉xs.map (·.1):=not_mem_keys_of_get hno
  refine Qb (RX (Qb (wpAny_updateDictKeys (hz:=by have e:=size_of_entries he;omega) (s:={ s with toks:=s.toks+knd.draws k }) ho hd (Qe (h2 (GR hno) _ ⟨_,_,ep+1,Nr _ ho (Obj.isFreed_of_dict (Obj.data_mapDictKeys hd _)),
   hc.mapDictKeys _,Obj.data_mapDictKeys hd _,?_,?_,?_⟩ (RF ..))))))
  ·rw [storedH_new (GR hno)];simp [he,entryOfKey]
  ·rw [storedH_new (GR hno)];intro x hx;rcases Qm.mp hx with hx|hx
   ·exact knd.keeps (his x hx) ho hd (RF ..)
   ·simp only [QO] at hx;subst hx;exact knd.keeps hkey ho hd (RF ..)
  ·rw [storedH_new (GR hno)];rw [Qq,Rc];refine ⟨hn,by simp,?_⟩;intro x hx y hy;simp only [Qr,GI,QO] at hy;subst hy;exact fun e=>hnot (e▸hx)
 ·intro j p hj;refine Qb (RG (s:={ s with toks:=s.toks+knd.draws k }) ho hd ?_);rw [entry_at he j,hj];exact Qb (RX (Qe (h1 p (atKey_of_get hn hj))))
theorem Zmk (d a:Addr) (hd:(d==sysModules)=false) (dflt:Value) :
  MeetsIn prog w (Builtin.«dict.setdefault» ⟨[.ref d,.ref a,dflt],[]⟩) (fun A R s=>knd.room A.in1∧∃k xs,knd.is s.heap k a∧s.heap.DictOfH knd d xs∧xs.length≤sizeLine ∧
   (∀p,atKey xs k=some p->R (.ok (.ret p.2)) { s with toks:=s.toks+knd.draws k }) ∧
   (atKey xs k=none->∀h',h'.DictOfH knd d (storedH xs k a dflt)->Heap.SameBut d s.heap h'->R (.ok (.ret dflt)) { s with heap:=h',toks:=s.toks+knd.draws k })) :=
 .of_wp fun A R s ⟨hu,k,xs,hkey,hm,hz,h1,h2⟩=>by
  unfold Builtin.«dict.setdefault»;refine Qb ?_;unfold Builtin.Dict.keyAndDefault;refine Qb (Nv hm.typeIs ?_);show wpAny _ _ (pure (d,Value.ref a,some dflt)) _ _ s;refine Qe ?_;show wpAny _ _ (if (d==sysModules)=true then _ else (dictSetDefault d (.ref a) dflt >>= _)) _ _ s;rw [Qa (by rw [hd];exact QA)];exact Qb (Zkz hu hkey hm hz (fun p hp=>Qe ⟨p.2,rfl,h1 p hp⟩) fun hn h' hm' hs'=>Qe ⟨dflt,rfl,h2 hn h' hm' hs'⟩)
end
section
variable {X:Cx} {pins:List (Addr×Obj)} {σ:St} {H:Hp} {s:Shared} {a b:Addr} {kvs:List (List Zi×V)} {k:List Zi} {d:V} {r:Value} {A:Around} {E:Value->Shared->Prop}
theorem Zm2 {Q:Value->Shared->Prop} (hu:A.units+1<cLine) (I:Inv X pins σ H s) (e:H a=some (.dT kvs)) (eb:H b=some (.tup (k.map kV))) (l:kvs.length<sizeLine) (rd:RelV d r)
  (h1:∀v w' s',ZN kvs k=some v->RelV v w'->Inv X pins σ H s'->Q w' s') (h2:∀s',ZN kvs k=none->Inv X pins σ (Zb H a (.dT (kvs++[(k,d)]))) s'->Q r s') :
  wpAny (model X.prog X.w) A (call (.builtin "dict.setdefault") [.ref a,.ref b,r]) Q E s:=by
 obtain ⟨z,hd,xs,rel,dd⟩:=U5 I.hok e;have hz:xs.length≤sizeLine:=by rw [←Gx rel];exact z
 have hv:=rel.val k
 refine Gh NO dd.typeIs PySem.F.entry_dict_setdefault (PySem.F.args_dict_setdefault_3 _ _ _) (Zmk (knd:=tupleKind (Yv X.prog X.w)) a b hd r)
  ⟨R1 hu,k,xs,VE I.hok eb,dd,hz,fun p hp=>?_,fun hn h' dd' hs=>?_⟩
 ·rw [hp] at hv;cases ho:ZN kvs k with
  |none=>rw [ho] at hv;cases hv
  |some v =>
   rw [ho] at hv;exact h1 v _ _ ho hv (I.tok _)
 ·rw [hn] at hv
  have ho:ZN kvs k=none:=by
   cases ho:ZN kvs k with
   |none=>rfl
   |some v=>rw [ho] at hv;cases hv
  refine h2 _ ho ?_;have hp:=rel.put k eb rd;rw [US _ ho] at hp;have hl:(kvs++[(k,d)]).length≤sizeLine:=by rw [Qw];exact l
  obtain ⟨q,es,ep,hq,h2,h3,h4,_,h5⟩:=dd';refine ZaA I (by rw [e];exact True.intro) hs ⟨q,hq⟩ ⟨hl,hd,_,hp.keeps fun c ys ec=>?_,q,es,ep,hq,h2,h3,h4,h5⟩;rw [Ze (Zez ec e (fun z=>nomatch z))];exact ec
end
def ZnT (td ty tx:TE):TE:=fun σ H Q=>td σ H fun x H1=>∃a,x=.ref a∧IsD H1 a∧ty σ H1 fun y H2=>tx σ H2 fun z H3=>∃kvs k b,H3 a=some (.dT kvs)∧y=.ref b∧H3 b=some (.tup (k.map kV))∧kvs.length<sizeLine ∧
 (∀v,ZN kvs k=some v->Q v H3)∧(ZN kvs k=none->Q z (Zb H3 a (.dT (kvs++[(k,z)]))))
section
variable {X:Cx} {o e f:Expr} {apos cpos:Pos} {td ty tx:TE}
theorem JU (hu:X.A.units+1<cLine) (ho:PE X o td) (he:PE X e ty) (hf:PE X f tx) (m:M2 X o "setdefault" apos e f cpos):PE X (.Call (.Attribute o "setdefault" apos) [e,f] [] cpos) (ZnT td ty tx):=by
 intro pins s σ H Q I h;refine wpAny_Call_method m.base m.few m.line Nn NO PySem.F.type_dict_setdefault (Zr (ho pins s σ H _ I h) fun u s1 ⟨x,H1,I1,rx,a,ex,d,q1⟩=>?_);subst ex;obtain rfl:u=Value.ref a:=rx;obtain ⟨t1,t2,_⟩:=ZeE I1 d;refine ⟨t1,t2,?_⟩;rw [m.trees]
 refine GG rfl (Gg (RE (Zr (he pins s1 σ H1 _ I1 q1) fun iv s2 ⟨y,H2,I2,ry,q2⟩ =>
  RE (Zr (hf pins s2 σ H2 _ I2 q2) fun fv s3 ⟨z,H3,I3,rz,kvs,k,b,ea,ey,eb,hl,q3,q4⟩=>GC ?_))))
 subst ey;obtain rfl:iv=Value.ref b:=ry;exact Zm2 hu I3 ea eb hl rz (fun v w' s4 l rw' I4=>⟨v,H3,I4,rw',q3 v l⟩) fun s4 l I4=>⟨z,_,I4,rz,q4 l⟩
end
end L2
namespace L2
open PySem PySem.Spec PyProof.Rows PySem.W
section
variable {prog:Program} {w:World} {A:Around} {E:Value->Shared->Prop} {s:Shared} {T:String} {r d:Addr} {n:Nat} {P:Nat->Value->Prop} {OK:Heap->Prop}
theorem Zk6 {Q:List Value->Shared->Prop} (K:KdlSrc prog w T r d n P OK) (hh:A.handled=none) (hok:OK s.heap) (hn:n≤sizeLine)
  (h:∀h1 tk (acc:Array Value),(∀b o,s.heap.get? b=some o->h1.get? b=some o)->s.heap.objs.size≤h1.objs.size->ItemsOf P acc n->Q acc.toList { s with heap:=h1,toks:=tk }) :
  wpAny (model prog w) A (collect (.ref r)) Q E s:=by
 have hlt:=K.there _ hok;unfold collect;refine Qb (wpAny_runValue (Gk entry_proto_collect' ?_));show wpAny _ _ (do again (.builtin "list.__iadd__" ⟨[←newList [],.ref r],[]⟩)) _ _ s;refine Qb (GQ (Qe ⟨Nq _ (by decide +kernel),Gk entry_list_iadd' ?_⟩));show wpAny _ _ (Builtin.List.listExtendWith (.ref s.heap.objs.size) (.ref r) (.ref s.heap.objs.size)) _ _ { s with heap:=s.heap.push (seqObj "list" #[] 0) };have hS:(s.heap.push (seqObj "list" #[] 0)).get? s.heap.objs.size=some { cls:=.type "list",data:=.seq #[] 0 }:=Qs _ rfl;rw [Around.under_plainId (by decide +kernel)]
 refine kdl_extend (R:=fun r s'=>match r with
  |.ok (.ret v)=>wpAny (model prog w) A (match v with
   |.ref a=>do match (←load a).data with
    |.seq xs _=>pure xs.toList
    |_=>unsupported "internal:collect"
   |_=>unsupported "internal:collect") Q E s'
  |.ok _=>False
  |.error e=>E e s') (A:=A) (s:={ s with heap:=s.heap.push (seqObj "list" #[] 0) }) K hh (K.keep _ _ hok fun b _ o e=>Qi _ e) s.heap.objs.size (RC hlt.1) (RC hlt.2) (.ref s.heap.objs.size) 0 hS (fun h' tk acc c hk hS' hacc=>?_) hn
 refine Qb (wpAny_load hS' ?_);exact Qe (h h' tk acc (fun b o e=>hk b o (Qy (Qg e)) (Qi _ e)) (Q1 (Qg hS')) hacc)
theorem ZjB {x:Value} {ss:List Str} {Q:Value->Shared->Prop} (h64:ss.length<64)
  (hc:∀(A':Around) (Q':List Value->Shared->Prop),A'.handled=A.handled->(∀vs h1 tk,StrsAre vs ss->(∀b o,s.heap.get? b=some o->h1.get? b=some o)->s.heap.objs.size≤h1.objs.size->Q' vs { s with heap:=h1,toks:=tk })->wpAny (model prog w) A' (collect x) Q' E s)
  (h:∀h' tk a e (out:Array Value) (ss':List Str),(∀b o,s.heap.get? b=some o->h'.get? b=some o)->s.heap.objs.size≤a->h'.get? a=some (seqObj "list" out e)->StrsAre out.toList ss'->ss'.Perm ss->sortedS ss'=true->Q (.ref a) { s with heap:=h',toks:=tk }) :
  wpAny (model prog w) A (call (.builtin "sorted") [x]) Q E s:=by
 refine Nu kind_sorted plain_sorted entry_sorted (args_sorted1 _) ?_;unfold Builtin.«sorted»;refine Qb (m:=checkCount "sorted" 1 1 _) (Qe ?_);refine Qb (hc _ _ rfl fun vs h1 tk hS k1 z1=>?_);refine Qb (GQ ?_);have hvl:vs.length<64:=by rw [←hS.strs,Qd] at h64;exact h64
 have hoL:(h1.push (seqObj "list" vs.toArray 0)).get? h1.objs.size=some (seqObj "list" vs.toArray 0):=Qs _ rfl;show wpAny _ _ _ _ _ { s with heap:=h1.push (seqObj "list" vs.toArray 0),toks:=tk };refine Qb (RT (Rb slot_list_sort ⟨_,hoL,rfl⟩ entry_list_sort (list_sort_treeK strKind_oneLt hoL hS.keysOf (fun v₁ v₂ rest e=>keyKind_strs (by rw [←e];exact hS)) hvl fun st' a1 a2=>⟨_,rfl,?_⟩) (args_list_sort _)));obtain ⟨ss',b1,b2,b3⟩:=sorted_out_str hS a1 a2;obtain ⟨e,he⟩:=sortedHeap_at (out:=(arrOf st').map (·.2)) hoL;refine Qe ⟨_,rfl,h _ tk _ e _ ss' (fun b o q=>?_) z1 he b1 b2 b3⟩;have q1:=k1 _ _ q;have lt:b<h1.objs.size:=Qg q1;rw [sortedHeap_old (Qy lt) (by rw [size_push'];exact Gn lt)];exact Qi _ q1
end
section
variable {X:Cx}
theorem Zfv {P:Program} {w:World} {x:Str} {v:Value} (h:(Yv P w).is (.inr x) v=true):∃t,v=.str x t:=by
 rcases We (show W8 (.inr x) v=true from h) with ⟨i,t,e,_⟩|⟨y,t,e,e2⟩
 ·cases e
 ·cases e;exact ⟨t,e2⟩
theorem Zbs:∀{vs:List Value} {ss:List Str},vs.length=ss.length->(∀(i:Nat) (v:Value),vs[i]?=some v->∃x t,ss[i]?=some x∧v=.str x t)->StrsAre vs ss
 |[],[],_,_=>.nil
 |v::vs,x::ss,hl,h=>by
  obtain ⟨y,t,e,rfl⟩:=h 0 v rfl;cases (show some x=some y from e)
  exact .cons x t (Zbs (by simpa using hl) fun i u hu=>by
   obtain ⟨z,t',e1,e2⟩:=h (i+1) u (by simpa using hu);exact ⟨z,t',by simpa using e1,e2⟩)
theorem Zb8 (hc:X.calm=true):YG X (.builtin "sorted") (fun xs H Q=>∃(l:Addr) (zs:List (Str×V)),xs=[.ref l]∧H l=some (.dK (zs.map fun p=>(.inr p.1,p.2)))∧zs.length<64∧∀D zs',H D=none->zs'.Perm (zs.map (·.1))->sortedS zs'=true->Q (.ref D) (Zb H D (.lst (zs'.map V.str)))):=by
 intro pins s σ H xs us Q I r h;obtain ⟨l,zs,rfl,hq,hl,q⟩:=h;obtain ⟨u,rfl,ru⟩:=Xa r;cases (show u=Value.ref l from ru);obtain ⟨z,hd,vs,rel,dd⟩:=Jt I.hok hq;obtain ⟨ep,da⟩:=dd.dictAt;have hlen:vs.length=zs.length:=by rw [←rel.length,Qd]
 have keyAt:∀(i:Nat) (k:Zi) (x:Value),vs[i]?=some (k,x)->∃z,(zs.map (·.1))[i]?=some z∧k=.inr z:=by
  have go:∀{ys:List (Str×V)} {ws:List (Zi×Value)},KV (ys.map fun p=>((.inr p.1:Zi),p.2)) ws->∀(i:Nat) (k:Zi) (x:Value),ws[i]?=some (k,x)->∃z,(ys.map (·.1))[i]?=some z∧k=.inr z:=by
   intro ys
   induction ys with
   |nil=>intro ws r i k x e;cases r;cases e
   |cons y ys ih =>
    intro ws r i k x e;cases r with
    |cons h t =>
     cases i with
     |zero =>
      rw [Nw] at e;cases e;exact ⟨y.1,rfl,h.1.symm⟩
     |succ i =>
      rw [R6] at e;obtain ⟨z,e1,e2⟩:=ih t i k x e;exact ⟨z,by simpa using e1,e2⟩
  exact go rel
 have col:∀(acc:Array Value),ItemsOf (fun i v=>∃k x,vs[i]?=some (k,x)∧(Yv X.prog X.w).is k v=true) acc vs.length->StrsAre acc.toList (zs.map (·.1)):=by
  intro acc hacc;refine Zbs (by rw [Qd,←hlen,RN];exact hacc.1) fun i v e=>?_;obtain ⟨k,x,e1,e2⟩:=hacc.2 i v (by rw [←GS];exact e);obtain ⟨z,e3,rfl⟩:=keyAt i k x e1;obtain ⟨t,rfl⟩:=Zfv e2;exact ⟨z,t,e3,rfl⟩
 refine ZjB (ss:=zs.map (·.1)) (by rw [Qd];exact hl) (fun A' Q' hA q'=>Zk6 (kdl_dict hd) (by rw [hA];exact I.ok.hd hc) da (by rw [hlen];exact Q1 (Zw (by omega))) fun h1 tk acc k1 z1 hacc=>q' _ h1 tk (col acc hacc) k1 z1) fun h' tk a e out zs' k1 z1 he so hp hs=>?_;have hl2:zs'.length=zs.length:=by rw [hp.length_eq,Qd]
 exact ⟨.ref _,_,I.laid (t':=tk) (o:=.lst (zs'.map V.str)) k1 z1 (show ObjOk X.prog X.w _ _ _ (.lst (zs'.map V.str)) from ⟨by rw [Qd];exact Q1 (Zw (by omega)),out.toList,e,JE so,he⟩),rfl,q _ zs' (I.hok.fresh z1) hp hs⟩
end
end L2
namespace L2
open PySem PySem.Spec PyProof.Rows
theorem ZfF (val:Nat->Int):∀k:Nat,argBest (fun i j=>decide (val i > val j)) k≤k∧∀i,i≤k->val i≤val (argBest (fun i j=>decide (val i > val j)) k)
 |0=>⟨Qf _,fun i hi=>by cases (show i=0 by omega);exact GT _⟩
 |k+1=>by
  obtain ⟨h1,h2⟩:=ZfF val k;show (if decide (val (k+1) > val (argBest _ k))=true then k+1 else argBest _ k)≤k+1∧∀i,i≤k+1->val i≤val (if decide (val (k+1) > val (argBest _ k))=true then k+1 else argBest _ k);by_cases h:val (k+1) > val (argBest (fun i j=>decide (val i > val j)) k)
  ·rw [Qc (Qo h)];refine ⟨Qf _,fun i hi=>?_⟩;by_cases e:i=k+1
   ·subst e;exact GT _
   ·have:=h2 i (by omega);omega
  ·rw [Qa (by rw [Qk h];decide)];refine ⟨by omega,fun i hi=>?_⟩;by_cases e:i=k+1
   ·subst e;omega
   ·exact h2 i (by omega)
theorem ZeH:∀{us:List Value} {is:List Int},Vals (is.map V.int) us->∃ps:List (Int×Tok),us=ps.map (fun p=>Value.int p.1 p.2)∧ps.map (·.1)=is
 |us,[],r=>by cases r;exact ⟨[],rfl,rfl⟩
 |us,i::is,r=>by
  cases r with
  |cons h t =>
   obtain ⟨tk,rfl⟩:=h;obtain ⟨ps,rfl,e⟩:=ZeH t;exact ⟨(i,tk)::ps,rfl,by rw [Qr,e]⟩
section
variable {X:Cx}
theorem ZkO (K:W.Frag) (hc:X.calm=true) (hK:X.K=K:=by rfl):YG X (.builtin "max") (fun xs H Q=>∃(l:Addr) (is:List Int),xs=[.ref l]∧SqL K H l (is.map V.int)∧is≠[]∧∀m,m∈is->(∀x∈is,x≤m)->Q (.int m) H):=by
 subst hK;intro pins s σ H xs us Q I r h;obtain ⟨l,is,rfl,hq,hne,q⟩:=h;obtain ⟨u,rfl,ru⟩:=Xa r;cases (show u=Value.ref l from ru);obtain ⟨its,rv,pl,hz⟩:=I.list hq;obtain ⟨ps,rfl,rfl⟩:=ZeH rv
 have hl:s.heap.IsList l (intItems ps.toArray):=by
  have:=pl.isList
  rwa [show (ps.map fun p=>Value.int p.1 p.2).toArray=intItems ps.toArray by simp [intItems]] at this
 have hpos:0<ps.length:=List.length_pos_iff.mpr (fun e=>hne (by rw [e];rfl));refine max_intList (I.ok.hd hc) hl (by simpa using hpos) fun v h' tk e k=>?_;obtain ⟨b1,b2⟩:=ZfF (numAt ps.toArray) (ps.toArray.size-1);obtain ⟨t,rfl⟩:=intItems_at e;generalize argBest (fun i j=>decide (numAt ps.toArray i > numAt ps.toArray j)) (ps.toArray.size-1)=n at *;have hn:n<ps.length:=by rw [Qx] at b1;omega
 have val:∀i (hi:i<ps.length),numAt ps.toArray i=(ps[i]).1:=fun i hi=>by simp [numAt,hi]
 refine ⟨.int (numAt ps.toArray n),H,I.kept k,⟨t,rfl⟩,q _ ?_ fun x hx=>?_⟩
 ·rw [val n hn];exact Qj.mpr ⟨ps[n],Go _,rfl⟩
 ·obtain ⟨p,hp,rfl⟩:=Qj.mp hx;obtain ⟨i,hi,rfl⟩:=R7 hp;rw [←val i hi];exact b2 i (by rw [Qx];omega)
end
section
variable {X:Cx} {pins:List (Addr×Obj)} {σ:St} {H H':Hp} {s:Shared} {d:Addr} {kvs:List (Zi×V)} {o:Obj}
theorem Inv.thaw (I:Inv X pins σ H s) (e:H d=some (.frz o (.dK kvs))) (n:∀o u,X.H₀ d≠some (.frz o u)):Inv X pins σ (Zb H d (.dK kvs)) s:=by
 have ne:∀b,H b=none->b≠d:=fun b z q=>by subst q;rw [e] at z;cases z
 refine ⟨I.ok,I.os,I.bare,⟨I.base.keep,I.base.slot,fun b q h1 h2 h3=>?_,I.base.there,fun b xs h1=>?_,fun b q u h1=>?_,fun b ps h1=>?_⟩,I.loc,I.cell,?_,fun x c h1=>?_,fun p hp=>?_,fun b u h1=>?_,I.len⟩
 ·have:=I.base.free b q h1 h2 h3;rw [Ze (ne b this)];exact this
 ·have:=I.base.tups b xs h1;rw [Ze (fun z=>by subst z;rw [e] at this;cases this)];exact this
 ·have:=I.base.frzs b q u h1;rw [Ze (fun z=>by subst z;exact n _ _ h1)];exact this
 ·obtain ⟨more,this⟩:=I.base.tbls b ps h1;exact ⟨more,by rw [Ze (fun z=>by subst z;rw [e] at this;cases this)];exact this⟩
 ·rw [Ze (ne _ I.free)];exact I.free
 ·have:=I.freeC x c h1;rw [Ze (ne _ this)];exact this
 ·obtain ⟨a1,a2,a3⟩:=I.pin p hp;exact ⟨a1,by rw [Ze (ne _ a2)];exact a2,a3⟩
 ·by_cases z:b=d
  ·subst z;rw [Zf] at h1;cases h1;exact (show ObjOk X.prog X.w _ _ _ (.dK kvs) from (I.hok b _ e).2)
  ·rw [Ze z] at h1;refine (I.hok b u h1).stay (fun c v hc q=>q) (fun c q=>?_) fun c xs q=>?_
   ·rw [Ze (fun z=>by subst z;rw [e] at q;cases q)];exact q
   ·rw [Ze (fun z=>by subst z;rw [e] at q;cases q)];exact q
end
theorem Zg7:∀{kvs:List (Zi×V)} {vs:List (Zi×Value)},KV kvs vs->∀(i:Nat) (p:Zi×V),kvs[i]?=some p->∃x,vs[i]?=some (p.1,x)
 |[],_,r,i,p,e=>by cases e
 |q::kvs,_,r,i,p,e=>by
  cases r with
  |@cons _ y _ _ h t =>
   cases i with
   |zero =>
    cases (show some q=some p from e);exact ⟨y.2,by rw [Nw,h.1]⟩
   |succ i =>
    rw [R6] at e;obtain ⟨x,hx⟩:=Zg7 t i p e;exact ⟨x,by rw [R6];exact hx⟩
theorem Zov {k:Zi} {v:Value} (h:W8 k v=true):RelV (kV k) v:=by
 rcases We h with ⟨i,t,rfl,rfl⟩|⟨x,t,rfl,rfl⟩
 ·exact ⟨t,rfl⟩
 ·exact ⟨t,rfl⟩
noncomputable def U4 (d:Addr) (o:Obj) (kvs:List (Zi×V)):It where
 go:=fun i H=>H d=some (.frz o (.dK kvs))∧i<kvs.length
 stop:=fun i H=>H d=some (.frz o (.dK kvs))∧kvs.length≤i
 yld:=fun i H x H'=>H'=H∧(kvs[i]?.map fun p=>kV p.1)=some x
theorem ZnB {P:Program} {w:World} {K:W.Frag} {tg:Expr} (d it:Addr) (o:Obj) (kvs:List (Zi×V)) (es:Array DictEntry) (ep:Nat) (ho:o.data=.dict es ep):Turn P w K tg (U4 d o kvs) [it] it (fun i h=>h.IsKeyIter it d i kvs.length ep) where
 mem:=by simp
 obj:=fun i h st b hb=>by
  have e:b=it:=by simpa using hb
  subst e;obtain ⟨o,e,c,d⟩:=st;exact ⟨o,e,fun v z=>by rw [d] at z;cases z⟩
 keep:=fun i h h' st k=>st.at fun o e=>k it (by simp) o e
 item:=by
  intro X hP hw hK hc i pins s σ H E I hf st hg;subst hP hw hK;obtain ⟨hq,hi⟩:=hg;obtain ⟨g1,g2⟩:=(show s.heap.get? d=some o∧ObjOk X.prog X.w H s.heap d (.dK kvs) from I.hok d _ hq);obtain ⟨z,hd,vs,rel,dd⟩:=(show kvs.length≤sizeLine∧(d==sysModules)=false∧∃vs,KV kvs vs∧s.heap.DictOf (Yv X.prog X.w) d vs from g2);obtain ⟨o2,es2,ep2,b1,b2,b3,b4⟩:=dd;rw [g1] at b1;cases b1;rw [ho] at b3;cases b3;have da:s.heap.DictAt (Yv X.prog X.w) d vs ep:=⟨o,es,g1,b2,ho,b4⟩;have hlen:vs.length=kvs.length:=rel.length.symm;obtain ⟨x,hx⟩:=Zg7 rel i kvs[i] (Qt hi);obtain ⟨f0,f1,f2,f3,f4,f5⟩:=hf it (by simp);rw [←hlen] at st;refine wpAny_pyNext_dict_item st da hx fun key h' hkey st' sb=>?_;have I1:Inv X pins σ H { s with heap:=h' }:=I.turned (t':=s.toks) (fun b o hb e=>(sb.2 b hb).trans e) f0 f1 f3 f4 f5;rw [hlen] at st';obtain ⟨o3,e3,c3,d3⟩:=id st';exact ⟨key,rfl,UA (s:={ s with heap:=h' }) e3 c3 d3 (by decide) ⟨kV kvs[i].1,H,I1,Zov hkey,⟨rfl,by rw [Qt hi];rfl⟩,st',fun b hb=>(hf b hb).1⟩⟩
 done:=by
  intro X hP hw hK hc i pins s σ H E I hf st hg;subst hP hw hK;obtain ⟨hq,hi⟩:=hg;obtain ⟨g1,g2⟩:=(show s.heap.get? d=some o∧ObjOk X.prog X.w H s.heap d (.dK kvs) from I.hok d _ hq);obtain ⟨z,hd,vs,rel,dd⟩:=(show kvs.length≤sizeLine∧(d==sysModules)=false∧∃vs,KV kvs vs∧s.heap.DictOf (Yv X.prog X.w) d vs from g2);obtain ⟨o2,es2,ep2,b1,b2,b3,b4⟩:=dd;rw [g1] at b1;cases b1;rw [ho] at b3;cases b3;have da:s.heap.DictAt (Yv X.prog X.w) d vs ep:=⟨o,es,g1,b2,ho,b4⟩;have hlen:vs.length=kvs.length:=rel.length.symm;obtain ⟨f0,f1,f2,f3,f4,f5⟩:=hf it (by simp);rw [←hlen] at st;exact wpAny_pyNext_dict_end (I.ok.hd hc) st da (List.getElem?_eq_none (by omega)) fun h' eb=>⟨rfl,I.turned (t':=s.toks) (fun b o hb e=>eb b o hb e) f0 f1 f3 f4 f5⟩
 self:=fun _ _ _ _ _ st h=>wpAny_pyIter_keyiter st h
def Zix (tl:TE):TI:=fun σ H R=>tl σ H fun x H1=>∃a kvs,x=.ref a∧H1 a=some (.dK kvs)∧∀o,R (U4 a o kvs) (Zb H1 a (.frz o (.dK kvs)))
theorem Zdg {X:Cx} {tg l:Expr} {tl:TE} (hl:PE X l tl):PI X tg l (Zix tl):=by
 intro pins s σ H R I h;refine Zr (hl pins s σ H _ I h) fun v s1 ⟨x,H1,I1,r1,q1⟩=>?_;obtain ⟨a,kvs,e,ha,q⟩:=q1;subst e;cases r1;obtain ⟨z,hd,vs,rel,dd⟩:=Jt I1.hok ha;obtain ⟨o,es,ep,b1,b2,b3,b4⟩:=id dd;have da:s1.heap.DictAt (Yv X.prog X.w) a vs ep:=⟨o,es,b1,b2,b3,b4⟩;have hlen:vs.length=kvs.length:=rel.length.symm
 have If:Inv X pins σ (Zb H1 a (.frz o (.dK kvs))) s1 :=
  I1.write (x:=a) (e:=a) (o:=.frz o (.dK kvs)) (h':=s1.heap) (t':=s1.toks) (by rw [ha];exact True.intro) (.inl rfl) (fun b u _ e=>e) ⟨o,b1⟩ ⟨b1,z,hd,vs,rel,dd⟩
 refine wpAny_pyIter_dict hd da ?_;refine ⟨s1.heap.objs.size,[s1.heap.objs.size],_,_,_,rfl,If.kept (t':=s1.toks) fun b o e=>Qi _ e,ZnB a _ o kvs es ep b3,⟨_,Qs _ rfl,rfl,by rw [hlen];rfl⟩,fun b hb=>?_,q o⟩;have e:b=s1.heap.objs.size:=by simpa using hb
 subst e;exact If.fpOk (Qf _) (If.hok.fresh (Qf _))
section
variable {X:Cx}
end
section
variable {X:Cx}
end
section
variable {X:Cx}
end
def ZaP (D:Addr) (H H':Hp):Prop:=∀b u,b≠D->H b=some u->H' b=some u
def Zoy (t:TS):TS:=fun D σ H=>∃d kvs,H d=some (.dK kvs)∧t { nx:=fun σ' H'=>∃o,H' d=some (.frz o (.dK kvs))∧D.nx σ' (Zb H' d (.dK kvs)),rt:=fun _ _=>False } σ H
theorem Zcc {X:Cx} {st:Stmt} {t:TS} (hs:PS X st t):PS X st (Zoy t):=by
 intro pins s σ H D I h;obtain ⟨d,kvs,hd,h⟩:=h
 have n:∀o u,X.H₀ d≠some (.frz o u):=fun o u z=>by
  have:=I.base.frzs d o u z;rw [hd] at this;cases this
 refine Zr (hs pins s σ H _ I h) fun fl s1 q=>?_;cases fl with
 |next =>
  obtain ⟨σ1,H1,I1,o,e1,q1⟩:=q;exact ⟨σ1,_,I1.thaw e1 n,q1⟩
 |brk=>obtain ⟨σ1,H1,I1,z⟩:=q;exact z.elim
 |cont=>obtain ⟨σ1,H1,I1,z⟩:=q;exact z.elim
 |ret u=>obtain ⟨v,σ1,H1,I1,r,z⟩:=q;exact z.elim
structure FunD (K:W.Frag) (x qual:Str) (st:Stmt) (f:Addr) (fd:FuncData) (dV:Value):Prop where
 ex:∃(oc:Value) (od:Option Addr) (kV doc pm:Value) (an:Option Addr) (cdv ct:Value) (osl:Array (Option Value)),
  fd=W.fnOf x qual (Xo st) (Y0 st) (Zz st) dV kV doc pm an cdv ct∧K.lookup f=some ⟨oc,od,.func fd,osl⟩∧W.codeIn K cdv qual=true
 kp:W.keepIn K (.ref f)=true
theorem FunD.okX {P:Program} {w:World} {K:W.Frag} {mg:Str->Option Value} {base:Heap} {CX:Yw} {x qual:Str} {st:Stmt} {f:Addr} {fd:FuncData} {dV:Value} {N ps:List Str} {k:Nat} {sp:Sp} (F:FunD K x qual st f fd dV) (S:FnScope N ps (Zz st))
  (len:∀vs H Q E,sp vs H Q E->vs.length=ps.length)
  (hbody:∀(cdv:Value) (A:Around) (outer:List Env) (s:Shared) (H:Hp) (vs:List V) (Q:VK) (E:XK),Room k (A.deeper (envOfC qual (Zz st) s.heap.objs.size f cdv))->sp vs H Q E →
   ∃t,PSs (WG CX P w K mg base N qual (Zz st) f cdv A outer s H E) (Y0 st) t∧t { nx:=fun _ H'=>Q .non H',rt:=Q } (start N vs) H):FnOk P w K mg base CX (k+1) f fd ps sp:=by
 obtain ⟨oc,od,kV,doc,pm,an,cdv,ct,osl,rfl,lk,hcd⟩:=F.ex;exact Zdb lk hcd S len fun A outer s H vs Q E hr hsp=>hbody cdv A outer s H vs Q E hr hsp
theorem Zgu {K:W.Frag} {x qual:Str} {st:Stmt} {f:Addr} {oc:Value} {od an:Option Addr} {osl:Array (Option Value)} {dV kV doc pm cdv ct:Value} (l:K.lookup f=some ⟨oc,od,.func (W.fnOf x qual (Xo st) (Y0 st) (Zz st) dV kV doc pm an cdv ct),osl⟩)
  (c:W.codeIn K cdv qual=true) (k:W.keepIn K (.ref f)=true):FunD K x qual st f (W.fnOf x qual (Xo st) (Y0 st) (Zz st) dV kV doc pm an cdv ct) dV:=⟨⟨oc,od,kV,doc,pm,an,cdv,ct,osl,rfl,l,c⟩,k⟩
theorem FunD.binds1 {K:W.Frag} {x qual:Str} {st:Stmt} {f T:Addr} {fd:FuncData} {ps:List Str} {o:Obj} {n:Nat} (F:FunD K x qual st f fd (.ref T)) (ho:K.lookup T=some o) (hs:o.data=.seq #[.none] n)
  (h:∀(kV doc pm:Value) (an:Option Addr) (cdv ct:Value) (us:List Value),us.length+1=ps.length->∃k:Option (Array Value)->Sem (List (Str×Value)),
   bindArgs (W.fnOf x qual (Xo st) (Y0 st) (Zz st) (.ref T) kV doc pm an cdv ct) ⟨us,[]⟩=seqItems? (.ref T) >>= k∧k (some #[.none])=pure (ps.zip (us++[.none]))):Binds K fd ps [.none]:=by
 obtain ⟨oc,od,kV,doc,pm,an,cdv,ct,osl,rfl,lk,hcd⟩:=F.ex;intro s us hin hl;rw [Qw] at hl;obtain ⟨k,h1,h2⟩:=h kV doc pm an cdv ct us hl;exact W.binds_K hin rfl ho hs h1 h2
section
variable {X:Cx} {body suite:List Stmt} {b₀:Stmt} {x n:Str} {C:Addr} {np hpos pos:Pos} {bmB:List Value} {newId:String} {i:Nat} {tb:XS->TS} {ts:TS}
end
end L2
namespace SA
open PySem PyProof.Rows
section
variable {M:Model} {A:Around} {E:Value->Shared->Prop} {s:Shared}
variable {O:KeyOrd} {key:Keyed->O.α} {D:Keyed->Prop} {kd:SortKind}
end
section
variable {M:Model} {A:Around} {E:Value->Shared->Prop} {s:Shared} {O:KeyOrd} {key:Keyed->O.α} {D:Keyed->Prop} {kd:SortKind}
end
section
variable {M:Model} {A:Around} {E:Value->Shared->Prop} {s:Shared} {O:KeyOrd} {key:Keyed->O.α} {D:Keyed->Prop} {kd:SortKind}
end
section
variable {O:KeyOrd} {key:Keyed->O.α}
end
section
variable {M:Model} {A:Around} {E:Value->Shared->Prop} {s:Shared} {O:KeyOrd} {key:Keyed->O.α} {D:Keyed->Prop} {kd:SortKind}
end
section
variable {M:Model} {A:Around} {E:Value->Shared->Prop} {s:Shared} {O:KeyOrd} {key:Keyed->O.α} {D:Keyed->Prop} {kd:SortKind}
end
section
variable {M:Model} {A:Around} {E:Value->Shared->Prop} {s:Shared} {O:KeyOrd} {key:Keyed->O.α} {D:Keyed->Prop} {kd:SortKind} {d:O.α}
end
section
variable {M:Model} {A:Around} {E:Value->Shared->Prop} {s:Shared} {O:KeyOrd} {key:Keyed->O.α} {D:Keyed->Prop} {kd:SortKind} {d:O.α}
end
section
variable {M:Model} {A:Around} {E:Value->Shared->Prop} {s:Shared} {O:KeyOrd} {key:Keyed->O.α} {D:Keyed->Prop} {kd:SortKind} {d:O.α} {a0:List Keyed}
end
section
variable {M:Model} {A:Around} {E:Value->Shared->Prop} {s:Shared} {O:KeyOrd} {key:Keyed->O.α} {D:Keyed->Prop} {kd:SortKind} {d:O.α} {a0:List Keyed}
end
end SA
namespace SA
open PySem PyProof.Rows PySem.W
section
variable {prog:Program} {w:World} {A:Around} {E:Value->Shared->Prop} {s:Shared}
end
end SA
namespace L2
open PySem PySem.Spec PyProof.Rows PySem.W
section
variable {prog:Program} {w:World} {A:Around} {E:Value->Shared->Prop} {s:Shared}
def VD (h:Heap) (d:Addr) (es:Array DictEntry) (ep:Nat):Prop:=∃o,h.get? d=some o∧o.cls=.type "dict"∧o.data=.dict es ep
end
end L2
namespace L2
open PySem PySem.Spec PyProof.Rows PySem.W SA
section
variable {prog:Program} {w:World} {A:Around} {E:Value->Shared->Prop} {s:Shared}
end
section
variable {X:Cx}
end
section
variable {X:Cx}
end
section
variable {X:Cx} {pins:List (Addr×Obj)} {σ:St} {H H':Hp} {s:Shared} {d:Addr} {kvs:List (List Zi×V)} {o:Obj}
theorem Inv.thawT (I:Inv X pins σ H s) (e:H d=some (.frz o (.dT kvs))) (n:∀o u,X.H₀ d≠some (.frz o u)):Inv X pins σ (Zb H d (.dT kvs)) s:=by
 have ne:∀b,H b=none->b≠d:=fun b z q=>by subst q;rw [e] at z;cases z
 refine ⟨I.ok,I.os,I.bare,⟨I.base.keep,I.base.slot,fun b q h1 h2 h3=>?_,I.base.there,fun b xs h1=>?_,fun b q u h1=>?_,fun b ps h1=>?_⟩,I.loc,I.cell,?_,fun x c h1=>?_,fun p hp=>?_,fun b u h1=>?_,I.len⟩
 ·have:=I.base.free b q h1 h2 h3;rw [Ze (ne b this)];exact this
 ·have:=I.base.tups b xs h1;rw [Ze (fun z=>by subst z;rw [e] at this;cases this)];exact this
 ·have:=I.base.frzs b q u h1;rw [Ze (fun z=>by subst z;exact n _ _ h1)];exact this
 ·obtain ⟨more,this⟩:=I.base.tbls b ps h1;exact ⟨more,by rw [Ze (fun z=>by subst z;rw [e] at this;cases this)];exact this⟩
 ·rw [Ze (ne _ I.free)];exact I.free
 ·have:=I.freeC x c h1;rw [Ze (ne _ this)];exact this
 ·obtain ⟨a1,a2,a3⟩:=I.pin p hp;exact ⟨a1,by rw [Ze (ne _ a2)];exact a2,a3⟩
 ·have st:∀{b:Addr} {u:HO},ObjOk X.prog X.w H s.heap b u->ObjOk X.prog X.w (Zb H d (.dT kvs)) s.heap b u:=fun x=>by
   refine x.stay (fun c v hc q=>q) (fun c q=>?_) fun c xs q=>?_
   ·rw [Ze (fun z=>by subst z;rw [e] at q;cases q)];exact q
   ·rw [Ze (fun z=>by subst z;rw [e] at q;cases q)];exact q
  by_cases z:b=d
  ·subst z;rw [Zf] at h1;cases h1;exact st (show ObjOk X.prog X.w H s.heap b (.dT kvs) from (I.hok b _ e).2)
  ·rw [Ze z] at h1;exact st (I.hok b u h1)
end
def Zjv (t:TS):TS:=fun D σ H=>∃d kvs,H d=some (.dT kvs)∧t { nx:=fun σ' H'=>∃o,H' d=some (.frz o (.dT kvs))∧D.nx σ' (Zb H' d (.dT kvs)),rt:=fun _ _=>False } σ H
theorem Ze1 {X:Cx} {st:Stmt} {t:TS} (hs:PS X st t):PS X st (Zjv t):=by
 intro pins s σ H D I h;obtain ⟨d,kvs,hd,h⟩:=h
 have n:∀o u,X.H₀ d≠some (.frz o u):=fun o u z=>by
  have:=I.base.frzs d o u z;rw [hd] at this;cases this
 refine Zr (hs pins s σ H _ I h) fun fl s1 q=>?_;cases fl with
 |next =>
  obtain ⟨σ1,H1,I1,o,e1,q1⟩:=q;exact ⟨σ1,_,I1.thawT e1 n,q1⟩
 |brk=>obtain ⟨σ1,H1,I1,z⟩:=q;exact z.elim
 |cont=>obtain ⟨σ1,H1,I1,z⟩:=q;exact z.elim
 |ret u=>obtain ⟨v,σ1,H1,I1,r,z⟩:=q;exact z.elim
section
variable {prog:Program} {w:World} {A:Around} {E:Value->Shared->Prop}
end
theorem Zmm {α:Type} {J:It} {σ0:St} {g:TG} {tt:TT} {te:TE} {Q:VK} {H1:Hp} (sel:List (Option α)) (P:α->Hp->V->Prop) (mono:∀a H H' v D xs,P a H v->H D=some (.lst xs)->ZaP D H H'->P a H' v) (hn:sel.length<sizeLine) (σP:St->Prop) (h0:σP σ0)
  (go:∀i H,i<sel.length->Same H1 H->J.go i H) (stop:∀H,Same H1 H->J.stop sel.length H)
  (step:∀i σ H x H' o,sel[i]?=some o->σP σ->Same H1 H->J.yld i H x H'->∀C:Option V->St->Hp->Prop,(o=none->∀σ2 H6,σP σ2->Same H H6->C none σ2 H6)->(∀a,o=some a->∀y σ2 H6,σP σ2->Same H H6->P a H6 y->C (some y) σ2 H6)->g x σ H' fun σ2 H4=>tt σ2 H4 fun c H5=>if c=true then te σ2 H5 fun y' H6=>C (some y') σ2 H6 else C none σ2 H5)
  (fin:∀D ys H',H1 D=none->Same H1 H'->H' D=some (.lst ys)->ys.length=(sel.filterMap id).length->(∀(j:Nat) (y:V) (a:α),ys[j]?=some y->(sel.filterMap id)[j]?=some a->P a H' y)->Q (.ref D) H'):JZ J σ0 g tt te Q H1:=by
 intro D hD
 have keep:∀{H:Hp} {o:HO},Same H1 H->Same H1 (Zb H D o):=fun {H o} e b u q=>by
  rw [Ze (ZU q hD)];exact e b u q
 have fl:∀i,((sel.take i).filterMap id).length≤sel.length:=fun i=>Qn (GP _ _) (by rw [QW];omega);refine ⟨fun i m σ ys H=>i≤sel.length∧m=sel.length-i∧σP σ∧ys.length=((sel.take i).filterMap id).length∧(∀(j:Nat) (y:V) (a:α),ys[j]?=some y->((sel.take i).filterMap id)[j]?=some a->P a H y)∧H D=some (.lst ys)∧Same H1 H,⟨_,QK _,rfl,h0,rfl,fun j y a e=>by simp at e,Zf,keep (Same.refl H1)⟩,?_⟩;rintro i m σ ys H ⟨hi,rfl,p,hy,hP,hd,sm⟩;refine ⟨hd,?_⟩;by_cases lt:i<sel.length
 ·have e:sel[i]?=some sel[i]:=by simp [lt]
  have tk:(sel.take (i+1)).filterMap id=(sel.take i).filterMap id++(match sel[i] with|none=>[]|some a=>[a]):=by
   rw [List.take_succ_eq_append_getElem lt,Rx];cases sel[i]<;>rfl
  refine .inr ⟨go i H lt sm,fun σ2 ys2 H3=>σP σ2∧ys2.length=((sel.take (i+1)).filterMap id).length∧(∀(j:Nat) (y:V) (a:α),ys2[j]?=some y->((sel.take (i+1)).filterMap id)[j]?=some a->P a H3 y)∧H3 D=some (.lst ys2)∧Same H1 H3,fun σ2 ys2 H3 ⟨a,b,c,d,e⟩=>⟨_,by omega,lt,rfl,a,b,c,d,e⟩,fun x H3 y=>?_⟩
  refine step i σ H x H3 sel[i] e p sm y (fun o σ2 H6=>match o with
   |some y'=>H6 D=some (.lst ys)∧ys.length<sizeLine∧σP σ2∧(ys++[y']).length=((sel.take (i+1)).filterMap id).length∧(∀(j:Nat) (z:V) (a:α),(ys++[y'])[j]?=some z->((sel.take (i+1)).filterMap id)[j]?=some a->P a (Zb H6 D (.lst (ys++[y']))) z)∧Zb H6 D (.lst (ys++[y'])) D=some (.lst (ys++[y']))∧Same H1 (Zb H6 D (.lst (ys++[y'])))
   |none=>σP σ2∧ys.length=((sel.take (i+1)).filterMap id).length∧(∀(j:Nat) (z:V) (a:α),ys[j]?=some z->((sel.take (i+1)).filterMap id)[j]?=some a->P a H6 z)∧H6 D=some (.lst ys)∧Same H1 H6) (fun on σ2 H6 p2 s6=>?_) (fun a oa y' σ2 H6 p2 s6 hp6=>?_)
  ·have tn:(sel.take (i+1)).filterMap id=(sel.take i).filterMap id:=by rw [tk,on];exact Qv _
   refine ⟨p2,by rw [tn];exact hy,fun j z a e1 e2=>?_,s6 _ _ hd,sm.trans s6⟩;rw [tn] at e2;exact mono a H H6 z D ys (hP j z a e1 e2) hd fun b u _ q=>s6 b u q
  ·have ts:(sel.take (i+1)).filterMap id=(sel.take i).filterMap id++[a]:=by rw [tk,oa]
   have hd6:=s6 _ _ hd;have bt:ZaP D H6 (Zb H6 D (.lst (ys++[y']))):=fun b u nb e=>by rw [Ze nb];exact e
   have fi:=fl i;refine ⟨hd6,by omega,p2,by rw [ts,Qw,Qw,hy];rfl,fun j z b e1 e2=>?_,Zf,keep (sm.trans s6)⟩;rw [ts] at e2;by_cases jl:j<ys.length
   ·rw [Ge jl] at e1;rw [Ge (by omega)] at e2;exact mono b H _ z D _ (hP j z b e1 e2) hd (fun b u nb e=>bt b u nb (s6 b u e))
   ·have j0:j=ys.length:=by
     have:=(QJ.mp e1).1;simp at this;omega
    subst j0;rw [RQ (Qf _),Nat.sub_self] at e1;rw [RQ (by omega),hy,Nat.sub_self] at e2;cases (show y'=z by simpa using e1);cases (show a=b by simpa using e2);exact mono a H6 _ _ D _ hp6 hd6 bt
 ·have e:i=sel.length:=by omega
  subst e;rw [QZ] at hy hP;exact .inl ⟨stop H sm,fin D ys H hD sm hd hy hP⟩
end L2
namespace L2
open PySem PySem.Spec PyProof.Rows PySem.W
noncomputable def ZG (K:W.Frag) (f:Addr):FuncData:=match K.lookup f with
 |some ⟨_,_,.func fd,_⟩=>fd
 |_=>default
structure DefIn (K:W.Frag) (x q:Str) (st:Stmt) (f:Addr):Prop where
 ex:∃(oc:Value) (od:Option Addr) (kV doc pm:Value) (an:Option Addr) (cdv ct:Value) (osl:Array (Option Value)),
  K.lookup f=some ⟨oc,od,.func (fnOf x q (Xo st) (Y0 st) (Zz st) .none kV doc pm an cdv ct),osl⟩∧codeIn K cdv q=true
 kp:keepIn K (.ref f)=true
theorem DefIn.fn {K:W.Frag} {x q:Str} {st:Stmt} {f:Addr} (h:DefIn K x q st f):Fun K x q st f (ZG K f):=by
 obtain ⟨oc,od,kV,doc,pm,an,cdv,ct,osl,lk,hc⟩:=h.ex;have e:ZG K f=fnOf x q (Xo st) (Y0 st) (Zz st) .none kV doc pm an cdv ct:=by unfold ZG;rw [lk]
 rw [e];exact Zlg lk hc h.kp
def Zfo (x q:Str) (st:Stmt) (ps:List Str):Prop:=∀(kV doc pm:Value) (an:Option Addr) (cdv ct:Value) (us:List Value),us.length=ps.length->bindArgs (fnOf x q (Xo st) (Y0 st) (Zz st) .none kV doc pm an cdv ct) ⟨us,[]⟩=pure (ps.zip us)
structure Df (K:W.Frag) (mg:Str->Option Value) (x:Str) (st:Stmt) (ps:List Str) where
 a:Addr
 F:Fun K x x st a (ZG K a)
 b:Binds K (ZG K a) ps []
 m:mg x=some (.ref a)
structure Dm (K:W.Frag) (C:Addr) (x q:Str) (st:Stmt) (ps:List Str) where
 a:Addr
 F:Fun K x q st a (ZG K a)
 b:Binds K (ZG K a) ps []
 me:Meth K C x a
noncomputable def Df.of {K:W.Frag} {mg:Str->Option Value} {h:Heap} {x:Str} {st:Stmt} {ps:List Str} {f:Addr} (X:K.In h) (G:h.Ns mainGlobals mg) (a:nsIn K mainGlobals x=some (some (.ref f))) (l:DefIn K x x st f) (hb:Zfo x x st ps):Df K mg x st ps:=⟨f,l.fn,l.fn.binds hb,mg_of X G a⟩
noncomputable def Dm.of {K:W.Frag} {C:Addr} {x q:Str} {st:Stmt} {ps:List Str} {f:Addr} (a:findIn K (.ref C) x=some (some (.ref f))) (i:isFn K (.ref f)=true) (l:DefIn K x q st f) (hb:Zfo x q st ps):Dm K C x q st ps:=⟨f,l.fn,l.fn.binds hb,⟨a,i,l.kp⟩⟩
theorem YW {P:List Value->Prop} (h:∀a,P [a]):∀us,us.length=1->P us
 |[_],_=>h _
theorem Xn {P:List Value->Prop} (h:∀a b,P [a,b]):∀us,us.length=2->P us
 |[_,_],_=>h _ _
theorem VS {P:List Value->Prop} (h:∀a b c,P [a,b,c]):∀us,us.length=3->P us
 |[_,_,_],_=>h _ _ _
theorem VY {P:List Value->Prop} (h:∀a b c d,P [a,b,c,d]):∀us,us.length=4->P us
 |[_,_,_,_],_=>h _ _ _ _
theorem un5 {P:List Value->Prop} (h:∀a b c d e,P [a,b,c,d,e]):∀us,us.length=5->P us
 |[_,_,_,_,_],_=>h _ _ _ _ _
end L2
namespace TextG
open PySem
end TextG
namespace L2
open PySem PySem.Spec PyProof.Rows PySem.W
section
variable {X:Cx}
def ZhU (g:Bool->Bool):R2:=fun x y H Q=>∃a b xs,x=.ref a∧y=.ref b∧H a=some (.lst xs)∧H b=some (.lst [])∧Q (.bl (g (decide (xs=[])))) H
theorem ZmK (hu:X.A.units+64<cLine):Yg X (compareOp .Eq) (ZhU id):=by
 intro pins s σ H x y v u Q I rx ry h;obtain ⟨a,b,xs,rfl,rfl,ha,hb,q⟩:=h;cases (show v=Value.ref a from rx);cases (show u=Value.ref b from ry);obtain ⟨its,rv,z,_⟩:=I.list (SqL.of (K:=X.K) ha);obtain ⟨its2,rv2,z2,_⟩:=I.list (SqL.of (K:=X.K) hb);cases rv2;have hl:=rv.length;cases xs with
 |nil =>
  cases rv;have g:=Ny (A:=X.A) (e:=fun _=>true) z.isList z2.isList rfl (by omega) fun j h1 h2=>by simp at h1
  exact g _ _ _ _ ⟨.bl _,H,I,rfl,q⟩
 |cons x0 xs =>
  have g:=SeqAt.RcAt.lists_lengths (A:=X.A) z.isList z2.isList (by rw [Qx,←hl];rfl) (by omega);exact g _ _ _ _ ⟨.bl _,H,I,rfl,q⟩
theorem ZlS (hc:X.calm=true):YG X (.type "list") (fun xs H Q=>∃(l:Addr) (zs:List (Str×V)),xs=[.ref l]∧H l=some (.dK (zs.map fun p=>(.inr p.1,p.2)))∧zs.length≤1000∧∀D,H D=none->Q (.ref D) (Zb H D (.lst ((zs.map (·.1)).map V.str)))):=by
 intro pins s σ H xs us Q I r h;obtain ⟨l,zs,rfl,hq,hl,q⟩:=h;obtain ⟨u,rfl,ru⟩:=Xa r;cases (show u=Value.ref l from ru);obtain ⟨z,hd,vs,rel,dd⟩:=Jt I.hok hq;obtain ⟨ep,da⟩:=dd.dictAt;have hlen:vs.length=zs.length:=by rw [←rel.length,Qd]
 have keyAt:∀(i:Nat) (k:Zi) (x:Value),vs[i]?=some (k,x)->∃z,(zs.map (·.1))[i]?=some z∧k=.inr z:=by
  have go:∀{ys:List (Str×V)} {ws:List (Zi×Value)},KV (ys.map fun p=>((.inr p.1:Zi),p.2)) ws->∀(i:Nat) (k:Zi) (x:Value),ws[i]?=some (k,x)->∃z,(ys.map (·.1))[i]?=some z∧k=.inr z:=by
   intro ys
   induction ys with
   |nil=>intro ws r i k x e;cases r;cases e
   |cons y ys ih =>
    intro ws r i k x e;cases r with
    |cons h t =>
     cases i with
     |zero =>
      rw [Nw] at e;cases e;exact ⟨y.1,rfl,h.1.symm⟩
     |succ i =>
      rw [R6] at e;obtain ⟨z,e1,e2⟩:=ih t i k x e;exact ⟨z,by simpa using e1,e2⟩
  exact go rel
 have col:∀(acc:Array Value),ItemsOf (fun i v=>∃k x,vs[i]?=some (k,x)∧(Yv X.prog X.w).is k v=true) acc vs.length->StrsAre acc.toList (zs.map (·.1)):=by
  intro acc hacc;refine Zbs (by rw [Qd,←hlen,RN];exact hacc.1) fun i v e=>?_;obtain ⟨k,x,e1,e2⟩:=hacc.2 i v (by rw [←GS];exact e);obtain ⟨z,e3,rfl⟩:=keyAt i k x e1;obtain ⟨t,rfl⟩:=Zfv e2;exact ⟨z,t,e3,rfl⟩
 have hs:zs.length<sizeLine:=Zw (by omega);refine kdl_call (kdl_dict hd) (I.ok.hd hc) da (by rw [hlen];omega) fun h' tk acc c k1 he hacc=>?_;exact ⟨.ref _,_,I.laid (t':=tk) (o:=.lst ((zs.map (·.1)).map V.str)) k1 (Qf _) (show ObjOk X.prog X.w _ _ _ (.lst ((zs.map (·.1)).map V.str)) from ⟨by rw [Qd,Qd];omega,acc.toList,c,JE (col acc hacc),by rw [Array.toArray_toList];exact he⟩),rfl,q _ (I.hok.fresh (Qf _))⟩
end
section
variable {X:Cx} {CX:Yw} {k1 k2 k3:Nat} {f1 C1 f2 C2 f3 C3:Addr} {fd1 fd2 fd3:FuncData} {ps1 ps2 ps3:List Str} {sp1 sp2 sp3:Sp} {E:XS} {m:Str} {pos apos:Pos} {o:Expr} {ta:TE}
end
end L2
namespace L2
open PySem PySem.Spec PyProof.Rows
section
variable {prog:Program} {w:World} {A:Around} {R:Result->Shared->Prop} {s:Shared}
end
section
variable {X:Cx} {pins:List (Addr×Obj)} {σ:St} {H:Hp} {s:Shared} {N:List Str} {sc:Scope} {cl:List (Str×Addr)} {σc:St->St} {fp:List Addr}
end
section
variable {X:Cx} {elt tg iter:Expr} {ifs:List Expr} {sc:Scope} {pos:Pos} {N:List Str} {cl:List (Str×Addr)} {σc:St->St} {wi:TI} {g:TG} {tt:TT} {te:TE}
end
section
variable {M:Model} {A:Around} {E:Value->Shared->Prop} {s:Shared}
end
section
variable {X:Cx} {pins:List (Addr×Obj)} {σ:St} {H H':Hp} {s s':Shared} {e:Addr} {cls:Value}
end
section
variable {P:Program} {w:World} {K:W.Frag} {mg:Str->Option Value} {base:Heap} {N:List Str} {qual:Str} {scope:Scope} {f:Addr} {cd:Value} {A:Around} {outer:List Env} {s:Shared} {H:Hp} {E:XK}
end
section
variable {X:Cx}
end
section
variable {prog:Program} {w:World} {A:Around} {E:Value->Shared->Prop} {s:Shared}
end
section
variable {prog:Program} {w:World} {κ:Type} [DecidableEq κ] {knd:KeyKind prog w κ} {A:Around} {s:Shared}
end
section
variable {X:Cx}
end
section
variable {prog:Program} {w:World} {A:Around} {E:Value->Shared->Prop} {s:Shared}
end
section
variable {X:Cx} {pos:Pos}
variable {i o value:Expr} {ty td tv:TE} {pos':Pos}
end
end L2
namespace L2
open PySem PySem.Spec PyProof.Rows PySem.W
section
variable {X:Cx} {o i l tg:Expr} {pos:Pos} {td ty tl:TE} {K:W.Frag} {w:World} {a:Addr} {kvs:List (Zi×V)}
end
section
variable {X:Cx}
end
end L2
namespace L2
open PySem PySem.Spec PyProof.Rows PySem.W PySem.SeqAt
section
variable {prog:Program} {w:World} {A:Around} {E:Value->Shared->Prop} {s:Shared}
end
noncomputable def Vj (ln co:Nat):Option Addr->Array Value
 |none=>#[]
 |some c'=>#[rawInt ln,rawInt co,.ref c']
noncomputable def Vg (P:Addr) (ln co:Nat) (oc:Option Addr):HO:=.ext fun h=>h.get? P=some (tabObj (Vj ln co oc))
noncomputable def UJ (c':Addr) (q:Str):HO:=.ext fun h=>h.CodeRec (.ref c') q
def LamH (P:Addr) (ln co:Nat) (q:Str) (H:Hp):Prop:=∃oc,H P=some (Vg P ln co oc)∧∀c',oc=some c'->H c'=some (UJ c' q)
noncomputable def noX:HO->Bool
 |.ext _=>false
 |_=>true
def SameX (H H':Hp):Prop:=∀b u,noX u=true->H b=some u->H' b=some u
theorem Same.x {H H':Hp} (s:Same H H'):SameX H H':=fun b u _ e=>s b u e
theorem SameX.trans {H H1 H2:Hp} (a:SameX H H1) (b:SameX H1 H2):SameX H H2:=fun c u n e=>b c u n (a c u n e)
theorem SameX.refl (H:Hp):SameX H H:=fun _ _ _ e=>e
theorem LamH.same {P:Addr} {ln co:Nat} {q:Str} {H H':Hp} (h:LamH P ln co q H) (s:Same H H'):LamH P ln co q H':=by
 obtain ⟨oc,h1,h2⟩:=h;exact ⟨oc,s _ _ h1,fun c' e=>s _ _ (h2 c' e)⟩
theorem SameX.sql {K:W.Frag} {H H':Hp} {a:Addr} {xs:List V} (s:SameX H H') (h:SqL K H a xs):SqL K H' a xs:=by
 rcases h with (h|⟨o,h⟩)|h
 ·exact .inl (.inl (s _ _ rfl h))
 ·exact .inl (.inr ⟨o,s _ _ rfl h⟩)
 ·exact .inr h
theorem SameX.sqt {K:W.Frag} {H H':Hp} {a:Addr} {xs:List V} (s:SameX H H') (h:SqT K H a xs):SqT K H' a xs:=by
 rcases h with (h|⟨o,h⟩)|h
 ·exact .inl (.inl (s _ _ rfl h))
 ·exact .inl (.inr ⟨o,s _ _ rfl h⟩)
 ·exact .inr h
structure LamB (base:Heap) (c P:Addr) (mg:Str->Option Value):Prop where
 hd:CodeHd base c P
 bm:∃bm ob,mg "__builtins__"=some (.ref bm)∧bm≠builtinsNs∧base.get? bm=some ob∧ob.cls=.type "module"∧ob.dict=some builtinsNs∧ob.data=.plain
section
variable {X:Cx} {pins:List (Addr×Obj)} {σ:St} {H:Hp} {s:Shared} {h':Heap}
theorem ZgU {P:Addr} {ln co:Nat} {oc:Option Addr} {pr:Program} {w:World} {h:Heap} (e:h.get? P=some (tabObj (Vj ln co oc))):ObjOk pr w H h P (Vg P ln co oc) :=
 ⟨e,⟨_,e⟩,fun h1 h2 p k=>k _ p⟩
theorem ZhM {c':Addr} {q:Str} {pr:Program} {w:World} {h:Heap} (e:h.CodeRec (.ref c') q):ObjOk pr w H h c' (UJ c' q):=by
 refine ⟨e,?_,fun h1 h2 p k=>?_⟩
 ·obtain ⟨c,oc,vs,t,e1,e2,_⟩:=e;cases e1;exact ⟨_,e2⟩
 ·obtain ⟨c,oc,vs,t,e1,e2,e3⟩:=p;cases e1;exact ⟨_,oc,vs,t,rfl,k _ e2,e3⟩
theorem Inv.grow {P c':Addr} {ln co:Nat} {q:Str} {t':Nat} (I:Inv X pins σ H s) (hP:H P=some (Vg P ln co none)) (hx:Heap.ExtBut P s.heap h') (hc:s.heap.objs.size≤c') (hr:h'.CodeRec (.ref c') q)
  (ht:h'.get? P=some (tabObj #[rawInt ln,rawInt co,.ref c'])):Inv X pins σ (Zb (Zb H P (Vg P ln co (some c'))) c' (UJ c' q)) { s with heap:=h',toks:=t' }:=by
 have nP:∀b u,H b=some u->(∀φ,u≠.ext φ)->b≠P:=fun b u e n z=>by subst z;rw [hP] at e;exact n _ (Ql e).symm
 have nc:∀b u,H b=some u->b≠c':=fun b u e z=>by subst z;exact absurd (Qz (I.hok.lt e) hc) (QP _)
 have ns:∀b o,s.heap.get? b=some o->b≠c':=fun b o e z=>by subst z;exact absurd (Qz (Qg e) hc) (QP _)
 have n0:∀b,H b=none->b≠P:=fun b e z=>by subst z;rw [hP] at e;cases e
 refine I.un ⟨fun b o e n _ _=>hx b o (n0 b n) e,fun b o e n _ _=>⟨o.slots,hx b o (n0 b n) e⟩,fun b o e n _=>?_,fun b o e _=>?_,fun b xs e=>?_,fun b o u e=>?_,fun b ps e=>?_⟩ fun b u e=>?_
 ·rw [Ze (ns b o e),Ze (n0 b n)];exact n
 ·by_cases z:b=P
  ·subst z;exact ⟨_,ht⟩
  ·exact ⟨o,hx b o z e⟩
 ·rw [Ze (nc b _ e),Ze (nP b _ e fun φ z=>by cases z)];exact e
 ·rw [Ze (nc b _ e),Ze (nP b _ e fun φ z=>by cases z)];exact e
 ·exact ⟨#[],by rw [Ze (nc b _ e),Ze (nP b _ e fun φ z=>by cases z),e];simp⟩
 ·by_cases z:b=c'
  ·subst z;rw [Zf] at e;cases e;exact ZhM hr
  rw [Ze z] at e;by_cases y:b=P
  ·subst y;rw [Zf] at e;cases e;exact ZgU (oc:=some c') ht
  rw [Ze y] at e;refine (I.hok b u e).stay (fun d v hd r=>hx d v ?_ r) (fun d r=>?_) fun d xs r=>?_
  ·rcases hd with rfl|hd
   ·exact y
   ·exact nP d _ hd fun φ z=>by cases z
  ·rw [Ze (nc d _ r),Ze (nP d _ r fun φ z=>by cases z)];exact r
  ·rw [Ze (nc d _ r),Ze (nP d _ r fun φ z=>by cases z)];exact r
end
section
variable {X:Cx} {e:Expr} {te:TE} {p pos kp lpos p1 p2 p3 p4:Pos} {x o q:Str} {params:Arguments} {scope:Scope} {c P cc:Addr} {i:Nat}
end
end L2
namespace L2
open PySem PySem.Spec PyProof.Rows PySem.W
def Zey (K:W.Frag) (f c:Addr):Prop:=∃oc od fd osl,K.lookup f=some ⟨oc,od,.func fd,osl⟩∧fd.code=.ref c
theorem Fun.okL {P:Program} {w:World} {K:W.Frag} {mg:Str->Option Value} {base:Heap} {CX:Yw} {x qual:Str} {st:Stmt} {f c:Addr} {fd:FuncData} {N ps:List Str} {k:Nat} {sp:Sp} (hc:Zey K f c) (F:Fun K x qual st f fd) (S:FnScope N ps (Zz st))
  (len:∀vs H Q E,sp vs H Q E->vs.length=ps.length)
  (hbody:∀(A:Around) (outer:List Env) (s:Shared) (H:Hp) (vs:List V) (Q:VK) (E:XK),Room k (A.deeper (envOfC qual (Zz st) s.heap.objs.size f (.ref c)))->sp vs H Q E →
   ∃t,PSs (WG CX P w K mg base N qual (Zz st) f (.ref c) A outer s H E) (Y0 st) t∧t { nx:=fun _ H'=>Q .non H',rt:=Q } (start N vs) H):FnOk P w K mg base CX (k+1) f fd ps sp:=by
 obtain ⟨oc,od,kV,doc,pm,an,cdv,ct,osl,rfl,lk,hcd⟩:=F.ex;obtain ⟨oc2,od2,fd2,osl2,lk2,e⟩:=hc;rw [lk] at lk2;cases lk2;have e2:cdv=.ref c:=e;subst e2;exact Zdb lk hcd S len fun A outer s H vs Q E hr hsp=>hbody A outer s H vs Q E hr hsp
theorem Zj0 {P:Program} {w:World} {K:W.Frag} {mg mb:Str->Option Value} {CX:Yw} {k ln co:Nat} {q:Str} {fa a cc tb:Addr} {fd:FuncData} {x:Str} {sp:Sp} {s₁:Shared} {vs:List Value} {ns:List Int}
  (KX:K.In s₁.heap) (hns:s₁.heap.Ns mainGlobals mg) (hb:s₁.heap.Ns builtinsNs mb) (hbb:∀x:Str,x≠"__name__"->mb x=bootBuiltins x) (hlim:s₁.heap.NoLimit) (hg:s₁.gens=#[])
  (ha:s₁.heap.get? a=some { cls:=.type "list",data:=.seq vs.toArray }) (hi:IntsAre vs ns) (hl:ns.length≤sizeLine) (hr:Room k callerA)
  (hC:CodeHd s₁.heap cc tb) (hT:s₁.heap.get? tb=some (tabObj #[])) (hKP:K.lookup tb=none)
  (hbm:∃bm ob,mg "__builtins__"=some (.ref bm)∧bm≠builtinsNs∧s₁.heap.get? bm=some ob∧ob.cls=.type "module"∧ob.dict=some builtinsNs∧ob.data=.plain)
  (F:∀base:Heap,K.In base->base.Ns mainGlobals mg->LamB base cc tb mg->FnOk P w K mg base CX k fa fd [x] sp) (hbind:∀(s:Shared) (u:Value),BindsTo s fd ⟨[u],[]⟩ [(x,u)])
  (hsp:∀H:Hp,LamH tb ln co q H->SqL K H a (ns.map V.int)->sp [.ref a] H (fun v H'=>v=.bl true∧LamH tb ln co q H') fun _ _ _=>False)
  (hCX:∀H e s',CX [] H s₁ (fun _ _ _=>False) e s'->False) :
  codeAny (model P w) callerA (.call (.ref fa) ⟨[.ref a],[]⟩) (fun r s'=>r=.ok (.ret (.bool true))∧OldK s₁.heap s'.heap∧s'.os=s₁.os∧AllBare s'.gens) s₁:=by
 have rv:=ZgZ hi;have lenV:=hi.length
 have core : ∀H : Hp, H tb=some (Vg tb ln co none) → SqL K H a (ns.map V.int) → HOk P w H s₁.heap → (∀b, H b ≠ none → b=tb ∨ (b=a ∧ ∃o xs, H b=some (.frz o (.lst xs)))) → (H a ≠ none → K.lookup a=none) →
   codeAny (model P w) callerA (.call (.ref fa) ⟨[.ref a],[]⟩) (fun r s'=>r=.ok (.ret (.bool true))∧OldK s₁.heap s'.heap∧s'.os=s₁.os∧AllBare s'.gens) s₁:=by
  intro H hO hS hok hA hK;have base_of:∀{b:Addr} {o:Obj},s₁.heap.get? b=some o->H b=none->(Ww s₁.heap H).get? b=some o:=fun e n=>ZmP e n
  have noA:∀{b:Addr} {o:Obj},s₁.heap.get? b=some o->(∀its n,o.data≠.seq its n)->o.cls≠.none->H b=none:=fun {b o} e d hcl=>by
   cases q:H b with
   |none=>rfl
   |some u =>
    rcases hA b (by rw [q];simp) with e'|⟨e',_⟩
    ·subst e';rw [hT] at e;cases e;exact absurd rfl hcl
    ·subst e';rw [ha] at e;cases e;exact absurd rfl (d _ _)
  have noD:∀{b:Addr} {o:Obj} {es:Array DictEntry} {ep:Nat},s₁.heap.get? b=some o->o.data=.dict es ep->H b=none:=fun {b o es ep} e d=>by
   cases q:H b with
   |none=>rfl
   |some u =>
    rcases hA b (by rw [q];simp) with e'|⟨e',_⟩
    ·subst e';rw [hT] at e;cases e;cases d
    ·subst e';rw [ha] at e;cases e;have d':Data.seq vs.toArray _=Data.dict es ep:=d;cases d'
  have nsK:∀{b:Addr} {m:Str->Option Value},s₁.heap.Ns b m->(Ww s₁.heap H).Ns b m:=fun {b m} ⟨o,es,ep,e,d,r⟩=>⟨o,es,ep,base_of e (noD e d),d,r⟩
  have hKb:K.In (Ww s₁.heap H):=fun b o e=>base_of (KX b o e) (by
   cases q:H b with
   |none=>rfl
   |some u =>
    rcases hA b (by rw [q];simp) with e'|⟨e',_⟩
    ·subst e';rw [hKP] at e;cases e
    ·subst e';rw [hK (by rw [q];simp)] at e;cases e)
  have hM:Mod K mg (Ww s₁.heap H):=⟨hKb,nsK hns,⟨mb,nsK hb,hbb⟩,let ⟨mc,h1,h2⟩:=hlim;⟨mc,nsK h1,h2⟩⟩
  have hLB:LamB (Ww s₁.heap H) cc tb mg:=by
   obtain ⟨o,vs',file,tf,flags,tg,inF,text,tt,e1,e2,e3,r⟩:=hC;obtain ⟨bm,ob,b1,b2,b3,b4,b5,b6⟩:=hbm;exact ⟨⟨o,vs',file,tf,flags,tg,inF,text,tt,base_of e1 (noA e1 (fun its n z=>by rw [e3] at z;cases z) (by rw [e2];simp)),e2,e3,r⟩,bm,ob,b1,b2,base_of b3 (noA b3 (fun its n z=>by rw [b6] at z;cases z) (by rw [b4];simp)),b4,b5,b6⟩
  have e0:Env0 P w K mg (Ww s₁.heap H) callerA [] s₁ H:=⟨rfl,hM,fun b o e=>ZlV e,Nat.le_of_eq (Zmy _ _),trivial,fun b hb=>absurd (show b∈([]:List Addr) from hb) (by simp),hok,.of_eq hg⟩;refine RO ((F _ hKb (nsK hns) hLB).run callerA [] s₁ H ⟨[.ref a],[]⟩ [.ref a] [.ref a] _ _ hr e0 (hbind s₁ (.ref a)) (.cons rfl .nil) (hsp H ⟨none,hO,fun _ z=>by cases z⟩ hS)) fun r s' h=>?_;cases r with
  |error e=>exact (hCX H e s' h).elim
  |ok fl =>
   cases fl with
   |next=>exact False.elim h
   |brk=>exact False.elim h
   |cont=>exact False.elim h
   |ret u =>
    obtain ⟨v,H',os,bare,un,hok',r',q⟩:=h;obtain ⟨q',oc,lp,_⟩:=q;subst q';obtain rfl:u=Value.bool true:=r';have tE:s'.heap.get? tb=some (tabObj (Vj ln co oc)):=(hok' tb _ lp).1
    have kept:∀b o,b≠tb->s₁.heap.get? b=some o->s'.heap.get? b=some o:=fun b o nb e=>by
     cases q:H b with
     |none=>exact un.keep b o e q (by intro z;exact absurd (show b∈([]:List Addr) from z) (by simp)) (by simp)
     |some u =>
      rcases hA b (by rw [q];simp) with z|⟨_,ob,xs,z⟩
      ·exact absurd z nb
      ·have z2:=un.frzs b ob _ z;obtain ⟨e1,_⟩:=hok b _ z;obtain ⟨e2,_⟩:=hok' b _ z2;rw [e] at e1;cases e1;exact e2
    refine ⟨rfl,⟨fun b o e=>?_,fun b o e=>?_⟩,os,bare⟩
    ·by_cases nb:b=tb
     ·subst nb;rw [hT] at e;cases e;exact .inr (.inl ⟨(hC.tab hT).isCodeTable,rfl,#[],Vj ln co oc,rfl,by rw [tE];simp⟩)
     ·exact .inl (kept b o nb e)
    ·by_cases nb:b=tb
     ·subst nb;exact ⟨_,tE⟩
     ·exact ⟨o,kept b o nb e⟩
 have nat:a≠tb:=fun z=>by subst z;rw [ha] at hT;cases hT
 have tOk:∀H:Hp,ObjOk P w H s₁.heap tb (Vg tb ln co none):=fun H=>ZgU (oc:=none) hT;cases hk:K.lookup a with
 |some o =>
  have e:=KX a o hk;rw [ha] at e;cases e;refine core (fun b=>if b=tb then some (Vg tb ln co none) else none) (Qc rfl) (.inr ⟨_,vs.toArray,_,hk,rfl,rfl,rfl,by rw [Qx,lenV];exact hl,by simpa using rv⟩) (fun b u z=>?_) (fun b z=>?_) (fun z=>absurd (Qa nat) z)
  ·by_cases hb:b=tb
   ·have z':=(Qc hb).symm.trans z;cases z';subst hb;exact tOk _
   ·have z':=(Qa hb).symm.trans z;cases z'
  ·by_cases hb:b=tb
   ·exact .inl hb
   ·exact absurd (Qa hb) z
 |none =>
  refine core (fun b=>if b=tb then some (Vg tb ln co none) else if b=a then some (.frz { cls:=.type "list",data:=.seq vs.toArray } (.lst (ns.map V.int))) else none) (Qc rfl) (.inl (.inr ⟨{ cls:=.type "list",data:=.seq vs.toArray },(Qa nat).trans (Qc rfl)⟩)) (fun b u z=>?_) (fun b z=>?_) fun _=>hk
  ·by_cases hb:b=tb
   ·have z':=(Qc hb).symm.trans z;cases z';subst hb;exact tOk _
   ·by_cases hba:b=a
    ·have z':=((Qa hb).trans (Qc hba)).symm.trans z;cases z';subst hba;exact ⟨ha,by rw [Qd];exact hl,vs,_,rv,ha⟩
    ·have z':=((Qa hb).trans (Qa hba)).symm.trans z;cases z'
  ·by_cases hb:b=tb
   ·exact .inl hb
   ·by_cases hba:b=a
    ·exact .inr ⟨hba,_,_,(Qa hb).trans (Qc hba)⟩
    ·exact absurd ((Qa hb).trans (Qa hba)) z
theorem walk_ofT {l:W.OpenLaw} {n k ln co:Nat} {qn nm:Str} {q:Program} {loose:List Str} {XP:(Str->Option Value)->Heap->Prop} {YP:World->Heap->Prop} {d dd:DefRec} {K:Params->W.Frag} {CX:World->Yw} {sp:World->Addr->Sp} {x:Str}
  (hn:l.most=some n) (hn2:n≤sizeLine) (hdf:d.params.defaults=[]) (hr:Room k callerA) (hrec:(recsOf q).find? (fun e=>e.name==nm)=some dd)
  (hY:∀(w:World) (h:Heap),YP w h->(K w.params).In h)
  (F:∀(w:World) (mg:Str->Option Value) (fa:Addr) (h:Heap),(K w.params).In h->h.Ns mainGlobals mg->mg d.name=some (.ref fa) →
   ∃(fd:FuncData) (cc tb:Addr),tabIn (K w.params) nm=some (cc,tb)∧(K w.params).lookup tb=none∧(∀(s:Shared) (u:Value),BindsTo s fd ⟨[u],[]⟩ [(x,u)]) ∧
    ∀base:Heap,(K w.params).In base->base.Ns mainGlobals mg->LamB base cc tb mg->FnOk l.prog w (K w.params) mg base (CX w) k fa fd [x] (sp w tb))
  (hsp:∀(w:World) (H:Hp) (a tb:Addr) (ns:List Int),ns.length≤n->LamH tb ln co qn H->SqL (K w.params) H a (ns.map V.int)->sp w tb [.ref a] H (fun v H'=>v=.bl true∧LamH tb ln co qn H') fun _ _ _=>False)
  (hCX:∀(w:World) (H:Hp) (s:Shared) (e:Value) (s':Shared),CX w [] H s (fun _ _ _=>False) e s'->False) :
  W.WalkO q loose XP YP l.row.toRowW d [] (fun f vs=>PySem.call f vs):=by
 refine Att.attach_call hn hdf fun w s₀ s₁ mg mb fa o pm cd doc a vs ns G Y ho hd hcd hmg hobj hints hlen hg=>?_;have KX:=hY w _ Y;obtain ⟨fd,cc,tb,ht,hK,hb,hF⟩:=F w mg fa _ KX G.T.g hmg;obtain ⟨h1,h2⟩:=tab_of G.T KX hrec ht;exact Zj0 (ln:=ln) (co:=co) (q:=qn) KX G.T.g G.T.b G.T.builtins G.T.nolimit hg hobj hints (Qn hlen hn2) hr h1 h2 hK G.T.bmain hF hb (fun H hO hS=>hsp w H a tb ns hlen hO hS) fun H e s'=>hCX w H s₁ e s'
theorem Zkw {K:W.Frag} {nm:Str} {f cc tb:Addr} {oc oc2:Value} {od od2:Option Addr} {sl sl2:Array (Option Value)} {fd:FuncData} {vs:Array Value} (a:nsIn K mainGlobals nm=some (some (.ref f))) (l:K.lookup f=some ⟨oc,od,.func fd,sl⟩) (e:fd.code=.ref cc)
  (lc:K.lookup cc=some ⟨oc2,od2,.fields vs,sl2⟩) (v:vs[11]?=some (.ref tb)):tabIn K nm=some (cc,tb):=by
 unfold tabIn;rw [a];simp only;rw [l];simp only;rw [e];simp only;rw [lc];simp only;rw [v]
end L2
namespace L2
open PySem PySem.Spec PyProof.Rows
section
variable {X:Cx}
end
section
variable {X:Cx}
end
end L2
namespace L2
open PySem PySem.Spec PyProof.Rows PySem.W
noncomputable abbrev Fz (ob:Obj):HO:=.frz ob (.own 0)
noncomputable abbrev V3 (g o x y:Str) (p0 p1 p2 p3 p4:Pos):Expr:=.Call (.Name g p0) [.Name o p1,.Name x p2,.Name y p3] [] p4
structure LamOk2 (g o x y:Str) (params:Arguments) (scope:Scope) (body:Expr):Prop where
 bind:∀(qual:Str) (cl:List (Str×Addr)) (pm cd ct u v:Value),bindArgs (kla_fn "<lambda>" qual params body scope cl pm cd ct) ⟨[u,v],[]⟩=pure [(x,u),(y,v)]
 lx:scope.names.lookup x=some .local
 ly:scope.names.lookup y=some .local
 fre:scope.names.lookup o=some .free
 gl:scope.names.lookup g=some .globalImplicit
 kind:scope.kind=.function
 co:scope.isCoroutine=false
 gen:scope.isGenerator=false
 cell:∀z∈scope.names,z.2≠.cell
 xy:(x==y)=false
 db:(x==("__debug__" : Str))=false∧(y==("__debug__" : Str))=false∧(o==("__debug__" : Str))=false∧(o==("__classdict__" : Str))=false∧(g==("__debug__" : Str))=false
structure LamA (q:Str) (params:Arguments) (body:Expr) (scope:Scope) (o:Str) (f b:Addr) (H:Hp):Prop where
 ex:∃cc oc pm c' ctv,H f=some (Fz (kla_obj "<lambda>" q params body scope [(o,cc)] pm c' ctv))∧H c'=some (UJ c' q)∧H cc=some (Fz oc)∧oc.data=.cell (some (.ref b))
theorem LamA.same {q:Str} {params:Arguments} {body:Expr} {scope:Scope} {o:Str} {f b:Addr} {H H':Hp} (h:LamA q params body scope o f b H) (s:Same H H'):LamA q params body scope o f b H':=by
 obtain ⟨cc,oc,pm,c',ctv,h1,h2,h3,h4⟩:=h.ex;exact ⟨cc,oc,pm,c',ctv,s _ _ h1,s _ _ h2,s _ _ h3,h4⟩
theorem Zfg {env:Env} {L:Addr} {st:List Env} {b:Addr} (h:env.frame=some L) (hb:b∈Yr (env::st)):b=L∨b∈Yr st:=by
 unfold Yr at hb;rw [QL,h] at hb;exact Qh.mp hb
theorem Un.back {env:Env} {L:Addr} {st:List Env} {H H':Hp} {h h1 h':Heap} (hf:env.frame=some L) (hL:L=h.objs.size) (k:∀b o,h.get? b=some o->h1.get? b=some o) (u:Un (Yr (env::st)) [] H H' h1 h'):Un (Yr st) [] H H' h h' where
 keep:=fun b o e n hb hx=>u.keep b o (k b o e) n (fun z=>by
  rcases Zfg hf z with z|z
  ·rw [z,hL] at e;exact absurd (Qg e) (QP _)
  ·exact hb z) hx
 slot:=fun b o e n hb hx=>by
  by_cases z:b∈Yr (env::st)
  ·exact u.slot b o (k b o e) n z hx
  ·exact ⟨o.slots,u.keep b o (k b o e) n z hx⟩
 free:=fun b o e n hx=>u.free b o (k b o e) n hx
 there:=fun b o e hx=>u.there b o (k b o e) hx
 tups:=u.tups
 frzs:=u.frzs
 tbls:=u.tbls
section
variable {X:Cx}
theorem Zl2 {CX:Yw} {k:Nat} {g o x y q:Str} {params:Arguments} {scope:Scope} {p0 p1 p2 p3 p4:Pos} {f b fg:Addr} {fdg:FuncData} {psg:List Str} {spg:Sp} {pins:List (Addr×Obj)} {σ:St} {H:Hp} {s:Shared} {Q:VK} {u1 u2:Value} {v1 v2:V}
  (ok:LamOk2 g o x y params scope (V3 g o x y p0 p1 p2 p3 p4)) (Fg:FnOk X.prog X.w X.K X.mg X.base CX k fg fdg psg spg) (hb:Binds X.K fdg psg []) (hm:X.mg g=some (.ref fg)) (hk:keepIn X.K (.ref fg)=true) (hr:Room (k+1) X.A) (hCX:∀st H s e s',CX st H s E0 e s'->False)
  (I:Inv X pins σ H s) (r1:RelV v1 u1) (r2:RelV v2 u2) (hL:LamA q params (V3 g o x y p0 p1 p2 p3 p4) scope o f b H) (h:spg [.ref b,v1,v2] H Q E0):wpAny (model X.prog X.w) X.A (call (.ref f) [u1,u2]) (EP X pins σ Q) X.xe s:=by
 obtain ⟨cc,oc,pm,c',ctv,h1,h2,h3,h4⟩:=hL.ex;have hf:s.heap.get? f=some (kla_obj "<lambda>" q params (V3 g o x y p0 p1 p2 p3 p4) scope [(o,cc)] pm c' ctv):=(I.hok f _ h1).1;have hcd:s.heap.CodeRec (.ref c') q:=(I.hok c' _ h2).1;have hcc:s.heap.get? cc=some oc:=(I.hok cc _ h3).1;refine RZ ?_;refine kla_callFunE hr.depth hf rfl ok.co ok.gen rfl hcd ?_;rw [ok.bind];refine Qe (wpAny_newFunctionEnv ok.cell (fun z hz=>?_) (fun hh hns hsb=>⟨I.nolimit.fresh _ hsb,?_⟩) ok.kind)
 ·have:z=(x,u1)∨z=(y,u2):=by simpa using hz
  rcases this with rfl|rfl
  ·exact ok.lx
  ·exact ok.ly
 have kp:∀b o,s.heap.get? b=some o->hh.get? b=some o:=fun b o e=>hsb.extBut b o (Qy (Qg e)) (Qi _ e);show codeAny _ _ (.expr (V3 g o x y p0 p1 p2 p3 p4) (envX q scope s.heap.objs.size f (.ref c') [(o,cc)])) _ _;refine kla_codeExpr ?_
 have kg:(envX q scope s.heap.objs.size f (.ref c') [(o,cc)]).kindOf g=some .globalImplicit:=by
  first|exact ok.gl|(simp only [Env.kindOf];exact ok.gl)
 have ko:(envX q scope s.heap.objs.size f (.ref c') [(o,cc)]).kindOf o=some .free:=by
  first|exact ok.fre|(simp only [Env.kindOf];exact ok.fre)
 have kx:(envX q scope s.heap.objs.size f (.ref c') [(o,cc)]).kindOf x=some .local:=by
  first|exact ok.lx|(simp only [Env.kindOf];exact ok.lx)
 have ky:(envX q scope s.heap.objs.size f (.ref c') [(o,cc)]).kindOf y=some .local:=by
  first|exact ok.ly|(simp only [Env.kindOf];exact ok.ly)
 have hgl:hh.Ns mainGlobals X.mg:=I.mod.glob.keeps fun b o e=>kp b o (I.bk b o e)
 have lk1:([(x,u1),(y,u2)]:List (Str×Value)).reverse.lookup x=some u1:=by
  show ([(y,u2),(x,u1)]:List (Str×Value)).lookup x=some u1;rw [GO,ok.xy];simp
 have lk2:([(x,u1),(y,u2)]:List (Str×Value)).reverse.lookup y=some u2:=by
  show ([(y,u2),(x,u1)]:List (Str×Value)).lookup y=some u2;rw [GO];simp
 refine Rv (Na ok.kind kg (Calls.loadGlobal_global hgl hm ?_) ok.db.2.2.2.2);refine Gi (h₀:=X.base) I.ok.mod.kin hk ?_ rfl rfl;show wpAny _ _ (spliced ((false,eval (.Name o p1) (envX q scope s.heap.objs.size f (.ref c') [(o,cc)]))::(false,eval (.Name x p2) (envX q scope s.heap.objs.size f (.ref c') [(o,cc)]))::[(false,eval (.Name y p3) (envX q scope s.heap.objs.size f (.ref c') [(o,cc)]))])) _ _ _;refine RE (RW (wpAny_loadName_free ok.kind ko (by simp) ⟨oc,kp _ _ hcc,h4⟩ ?_ ok.db.2.2.2.1) ok.db.2.2.1);refine RE (RW (G9 (v:=u1) ok.kind kx hns lk1 ?_) ok.db.1);refine RE (RW (G9 (v:=u2) ok.kind ky hns lk2 (GC ?_)) ok.db.2.1);have fr:(envX q scope s.heap.objs.size f (.ref c') [(o,cc)]).frame=some s.heap.objs.size:=rfl
 have e0:Env0 X.prog X.w X.K X.mg X.base (X.A.deeper (envX q scope s.heap.objs.size f (.ref c') [(o,cc)])) (envX q scope s.heap.objs.size f (.ref c') [(o,cc)]::X.stack) { s with heap:=hh,toks:=s.toks+[(x,u1),(y,u2)].length } H:=by
  have sz:s.heap.objs.size≤hh.objs.size:=Q1 hns.lt;refine ⟨Around.frames_deeper I.ok.frames,I.ok.mod,fun b o e=>⟨kp b o (I.bs b o e).1,(I.bs b o e).2⟩,Qn (Qn I.ok.bsz I.sz) sz,?_,fun b hb=>?_,I.hok.kept kp,I.bare⟩
  ·refine Heap.FunFrames.cons (by show scope.kind≠_;rw [ok.kind];decide) fr hns (Heap.get?_none_of_le (Qn I.ok.bsz I.sz)) ?_;exact I.stack.of_keeps fun b o e _=>⟨o,kp b o e,rfl⟩
  ·rcases Zfg fr hb with z|z
   ·rw [z];exact I.hok.fresh (Qf _)
   ·exact I.stkFree b z
 refine ⟨I.ok.mod.kin.keeps fun b o e=>kp b o (I.bk b o e),RZ (RO (Fg.run _ _ _ H ⟨[.ref b,u1,u2],[]⟩ ([.ref b,u1,u2]++[]) [.ref b,v1,v2] Q E0 (hr.deeper _) e0 (hb _ _ (I.ok.mod.kin.keeps fun b o e=>kp b o (I.bk b o e)) (by rw [←Fg.len _ _ _ _ h];rfl)) (.cons rfl (.cons r1 (.cons r2 .nil))) h) fun r s' hq=>?_)⟩;cases r with
 |error e=>exact (hCX _ _ _ _ _ hq).elim
 |ok fl =>
  cases fl with
  |ret u =>
   obtain ⟨v,H',os,bare,un,hok,r,q⟩:=hq;exact I.after ⟨v,H',os,bare,un.back fr rfl kp,hok,r,q⟩
  |next=>exact False.elim hq
  |brk=>exact False.elim hq
  |cont=>exact False.elim hq
def ZjH (q:Str) (params:Arguments) (body:Expr) (scope:Scope) (o:Str) (spg:Sp) (i:Nat) (t:TA):TE:=fun σ H Q=>∃f,σ[i]?=some (some (.ref f))∧t σ H fun vs H1=>∃v1 v2 b,vs=[v1,v2]∧LamA q params body scope o f b H1∧spg [.ref b,v1,v2] H1 Q E0
theorem ZhE {CX:Yw} {k i:Nat} {g o x y q nm:Str} {params:Arguments} {scope:Scope} {p0 p1 p2 p3 p4 p pos:Pos} {fg:Addr} {fdg:FuncData} {psg:List Str} {spg:Sp} {e1 e2:Expr} {t:TA}
  (ok:LamOk2 g o x y params scope (V3 g o x y p0 p1 p2 p3 p4)) (Fg:FnOk X.prog X.w X.K X.mg X.base CX k fg fdg psg spg) (hb:Binds X.K fdg psg []) (hm:X.mg g=some (.ref fg)) (hk:keepIn X.K (.ref fg)=true) (hr:Room (k+1) X.A) (hCX:∀st H s e s',CX st H s E0 e s'->False)
  (hN:X.N[i]?=some nm) (hv:Js X.env.scope nm) (ha:PA X [e1,e2] t) (hd:(nm==("__debug__" : Str))=false:=by decide) (hcd:(nm==("__classdict__" : Str))=false:=by decide)
  (he:starEach [e1,e2] X.env=(false,eval e1 X.env)::starEach [e2] X.env:=by rfl) (hpl:(backTo pos (starEach [e2] X.env)).any (·.1)=false:=by rfl) :
  PE X (.Call (.Name nm p) [e1,e2] [] pos) (ZjH q params (V3 g o x y p0 p1 p2 p3 p4) scope o spg i t):=by
 intro pins s σ H Q I h;obtain ⟨f,hσ,h⟩:=h;refine Rv (Zr (Zb7 hN hv hd hcd pins s σ H (fun v H'=>v=.ref f∧H'=H) I ⟨_,hσ,rfl,rfl⟩) fun u s1 ⟨v,H1,I1,r1,e2,e3⟩=>?_);subst e2 e3;cases (show u=Value.ref f from r1);have hA:=ha pos pins s1 σ H1 _ I1 h;rw [he] at hA ⊢;refine callWith_of (P:=fun hh=>∃fd:FuncData,hh.get? f=some { cls:=.type "function",data:=.func fd }) (by show ((false||(backTo pos (starEach [e2] X.env)).any (·.1))||false)=false;rw [hpl];rfl) (fun hh ⟨fd,e⟩=>⟨.frame,.inl rfl,(Looks.ld (part:=none) e).andThen .now⟩) (Gg (Zr hA fun us s2 ⟨vs,H2,I2,r2,q2⟩=>?_));obtain ⟨v1,v2,b,rfl,hL,hsp⟩:=q2;obtain ⟨u1,u2,rfl,ra,rb⟩:=Vy r2;refine ⟨?_,Zl2 ok Fg hb hm hk hr hCX I2 ra rb hL hsp⟩;obtain ⟨cc,oc,pm,c',ctv,h1,_⟩:=hL.ex;exact ⟨_,(I2.hok f _ h1).1⟩
def Zmu (P:Addr) (ln co:Nat) (q:Str) (params:Arguments) (body:Expr) (scope:Scope) (o:Str) (cc:Addr):TE:=fun σ H Q=>LamH P ln co q H∧∀H2 f pm c' ctv,SameX H H2->LamH P ln co q H2->H f=none->H2 f=some (Fz (kla_obj "<lambda>" q params body scope [(o,cc)] pm c' ctv))->H2 c'=some (UJ c' q)->(∀D,H2 D=none->H D=none)->Q (.ref f) H2
theorem Zgt {P:Program} {w:World} {H:Hp} {h:Heap} {a:Addr} {ob:Obj} (e:h.get? a=some ob):ObjOk P w H h a (Fz ob):=⟨e,ob,e⟩
theorem Zoq {c P cc:Addr} {o q:Str} {params:Arguments} {body:Expr} {scope:Scope} {lpos:Pos} (B:LamB X.base c P X.mg) (hcode:X.env.code=.ref c) (hcl:closureFor scope X.env=pure [(o,cc)]) (hq:X.env.qual++"<lambda>"=q) (hdef:defaultsOf params X.env=([],[])) :
  PE X (.Lambda params body scope lpos) (Zmu P lpos.line lpos.col q params body scope o cc):=by
 intro pins s σ H Q I h;obtain ⟨lam,h⟩:=h;refine kla_eval hdef ?_;rw [hq];have hgl:s.heap.Ns mainGlobals X.mg:=I.mod.glob.keeps I.bk;obtain ⟨bm,ob,b1,b2,b3,b4,b5,b6⟩:=B.bm;obtain ⟨oc,hP,hC⟩:=lam;have tabP:s.heap.get? P=some (tabObj (Vj lpos.line lpos.col oc)):=(I.hok P _ hP).1
 have hgP:mainGlobals≠P:=fun z=>by
  obtain ⟨o1,es,ep,e1,hd,_⟩:=hgl;rw [z,tabP] at e1;cases e1;cases hd
 have hbP:bm≠P:=fun z=>by
  have e1:=I.bk _ _ b3;rw [z,tabP] at e1;cases e1;cases b4
 have hbG:bm≠mainGlobals:=fun z=>by
  obtain ⟨o1,es,ep,e1,hd,_⟩:=hgl;have e2:=I.bk _ _ b3;rw [z,e1] at e2;cases e2;rw [hd] at b6;cases b6
 have hBA:s.heap.BuiltinsAt X.mg P:=⟨bm,ob,b1,b2,hbG,hbP,I.bk _ _ b3,b4,b5,b6⟩;have CH:CodeHd s.heap c P:=B.hd.keeps I.bk
 have fin : ∀(h3 : Heap) (tk : Nat) (H2 : Hp) (c' : Addr) (ctv : Value), Inv X pins σ H2 { s with heap := h3, toks := tk } → H2 c'=some (UJ c' q) → SameX H H2 → LamH P lpos.line lpos.col q H2 → (∀D, H2 D=none → H D=none) →
   EP X pins σ Q (.ref h3.objs.size) { s with heap:=h3.push (kla_obj "<lambda>" q params body scope [(o,cc)] ((X.mg "__name__").getD .none) c' ctv),toks:=tk }:=by
  intro h3 tk H2 c' ctv I3 hc' sx lm fr;have nf:H2 h3.objs.size=none:=I3.hok.fresh (Qf _);have I4:=I3.laid (t':=tk) (h':=h3.push (kla_obj "<lambda>" q params body scope [(o,cc)] ((X.mg "__name__").getD .none) c' ctv)) (a:=h3.objs.size) (o:=Fz (kla_obj "<lambda>" q params body scope [(o,cc)] ((X.mg "__name__").getD .none) c' ctv)) (fun b o e=>Qi _ e) (Qf _) (Zgt (Qs _ rfl));refine ⟨.ref h3.objs.size,_,I4,rfl,h _ h3.objs.size _ c' ctv (sx.trans (Zj nf).x) (lm.same (Zj nf)) (fr _ nf) Zf ?_ fun D hD=>?_⟩
  ·rw [Ze (ZU hc' nf)];exact hc'
  ·by_cases z:D=h3.objs.size
   ·rw [z,Zf] at hD;cases hD
   ·rw [Ze z] at hD;exact fr D hD
 cases oc with
 |none =>
  refine kla_makeFunction (mg:=X.mg) hcl I.ok.glob hgl hcode CH tabP True.intro rfl hgP hBA fun c' ctv h' tk hx hge hlt hrec htb=>?_;have I2:=I.grow (t':=tk) hP hx hge hrec (by simpa [Vj] using htb);refine fin h' tk _ c' ctv I2 Zf ?_ ?_ ?_
  ·intro b u hu e1;have n1:b≠P:=fun z=>by subst z;rw [hP] at e1;cases e1;cases hu
   rw [Ze (fun z=>by subst z;exact absurd (Qz (I.hok.lt e1) hge) (QP _)),Ze n1];exact e1
  ·refine ⟨some c',?_,fun c2 e2=>?_⟩
   ·rw [Ze (fun z=>by subst z;exact absurd (Qz (I.hok.lt hP) hge) (QP _)),Zf]
   ·cases e2;exact Zf
  ·intro D hD;cases r:H D with
   |none=>rfl
   |some u =>
    exfalso;have n2:D≠c':=fun z=>by subst z;exact absurd (Qz (I.hok.lt r) hge) (QP _)
    rw [Ze n2] at hD;by_cases n1:D=P
    ·subst n1;rw [Zf] at hD;cases hD
    ·rw [Ze n1,r] at hD;cases hD
 |some c' =>
  have hc':=hC c' rfl;refine kla_makeFunctionHit (mg:=X.mg) hcl I.ok.glob hgl hcode CH tabP (by simp [Vj,TriplesOk,rawInt]) (cv:=.ref c') (by simp [Vj,codeAmong,rawInt]) hBA fun ctv h' tk hk hsz=>?_;have I2:=I.kept (t':=tk) hk;exact fin h' tk H c' ctv I2 hc' (SameX.refl _) ⟨some c',hP,hC⟩ fun _ z=>z
noncomputable def V2 (H:Hp) (a:Addr):Hp:=fun b=>if b=a then none else H b
theorem WB {H:Hp} {a b:Addr} (h:b≠a):V2 H a b=H b:=Qa h
theorem ZgO {H:Hp} {a:Addr}:V2 H a a=none:=Qc rfl
def Znw (sp:Sp) (i:Nat) (cc:Addr) (t:TA):TE:=fun σ H Q=>t σ H fun vs H1=>∃b,σ[i]?=some (some (.ref b))∧∀oc:Obj,H1 cc=none->oc.data=.cell (some (.ref b))->sp vs (Zb H1 cc (Fz oc)) (fun v H2=>Q v (V2 H2 cc)) E0
theorem ZiW {CX:Yw} {k i:Nat} {x o:Str} {f cc:Addr} {fd:FuncData} {ps:List Str} {sp:Sp} {p pos:Pos} {e:Expr} {es:List Expr} {t:TA} (F:FnOk X.prog X.w X.K X.mg X.base CX k f fd ps sp) (hr:Room k X.A) (hg:Gl X x) (hm:X.mg x=some (.ref f)) (hk:W.keepIn X.K (.ref f)=true) (hb:Binds X.K fd ps []) (hCX:∀st H s e s',CX st H s E0 e s'->False)
  (hN:X.N[i]?=some o) (hck:X.env.kindOf o=some .cell) (hvis:X.env.scope.names.lookup o=some .cell) (hcc:X.env.cells.lookup o=some cc) (hfn:X.fn o=true)
  (ha:PA X (e::es) t) (hdb:(x==("__debug__" : Str))=false:=by decide) (he:starEach (e::es) X.env=(false,eval e X.env)::starEach es X.env:=by rfl) (hpl:(backTo pos (starEach es X.env)).any (·.1)=false:=by rfl) :
  PE X (.Call (.Name x p) (e::es) [] pos) (Znw sp i cc t):=by
 intro pins s σ H Q I h;refine Rv (Jd I hg hm ?_ hdb);refine Gi (h₀:=X.base) I.ok.mod.kin hk (Zr (ha pos pins s σ H _ I h) fun us s1 ⟨vs,H1,I1,r,b,hσ,q⟩=>⟨I1.kIn,?_⟩) he hpl;obtain ⟨m,hn,hl2⟩:=I1.loc;obtain ⟨u,ru,lk⟩:=hl2 i o (.ref b) hN hσ (.inr (.inl hvis));cases (show u=Value.ref b from ru)
 have hcell:s1.heap.IsCell cc (some (.ref b)):=by
  rcases lk with ⟨z,_⟩|⟨_,c2,e2,e3⟩
  ·rw [hck] at z;cases z
  ·rw [hcc] at e2;cases e2;exact e3
 obtain ⟨oc,hoc,hdc⟩:=hcell;have hno:H1 cc=none:=I1.freeC o cc hcc;have hsp:=q oc hno hdc;have e0:=I1.env0;have hL:(us++[]).length=ps.length:=by rw [Qv,←r.length];exact F.len _ _ _ _ hsp
 have nstk:cc∉Yr X.stack:=fun hb=>by
  rcases Qh.mp (I1.stkSub cc hb) with z|z
  ·exact I1.cne o cc hcc z
  ·obtain ⟨_,o1,ho,_⟩:=I1.ok.funs.mem z;exact absurd (Qz (Qg ho) (I1.ok.cab o cc hfn hcc)) (QP _)
 have e1:Env0 X.prog X.w X.K X.mg X.base X.A X.stack s1 (Zb H1 cc (Fz oc)):=by
  refine ⟨e0.frames,e0.mod,fun d o' e=>⟨(e0.bs d o' e).1,?_⟩,e0.bsz,e0.funs,fun d hd=>?_,fun d u' e=>?_,e0.bare⟩
  ·have:d≠cc:=fun z=>by
    subst z;exact absurd (Qz (Qg (I1.ok.bs _ _ e).1) (I1.ok.cab o _ hfn hcc)) (QP _)
   rw [Ze this];exact (e0.bs d o' e).2
  ·have nd:d≠cc:=fun z=>nstk (by rw [←z];exact hd);rw [Ze nd];exact e0.frf d hd
  ·by_cases z:d=cc
   ·subst z;rw [Zf] at e;cases e;exact Zgt hoc
   ·rw [Ze z] at e;refine (I1.hok d u' e).stay (fun _ _ _ r=>r) (fun d' r=>?_) fun d' xs r=>?_
    ·rw [Ze (ZU r hno)];exact r
    ·rw [Ze (ZU r hno)];exact r
 refine RZ (RO (F.run X.A X.stack s1 _ ⟨us,[]⟩ (us++[]) vs _ E0 hr e1 (hb s1 us I1.kIn hL) (by rw [Qv];exact r) hsp) fun rr s' hq=>?_);cases rr with
 |error e=>exact (hCX _ _ _ _ _ hq).elim
 |ok fl =>
  cases fl with
  |ret u =>
   obtain ⟨v,H',os,bare,un,hok,r,q⟩:=hq;have hz:H' cc=some (Fz oc):=un.frzs cc oc _ Zf;have hoc':s'.heap.get? cc=some oc:=(hok cc _ hz).1;refine I1.after ⟨v,V2 H' cc,os,bare,?_,?_,r,q⟩
   ·refine ⟨fun d o' e n hb hx=>?_,fun d o' e n hb hx=>?_,fun d o' e n hx=>?_,fun d o' e hx=>un.there d o' e hx,fun d xs e=>?_,fun d o' u' e=>?_,fun d ps e=>?_⟩
    ·by_cases z:d=cc
     ·subst z;rw [hoc] at e;cases e;exact hoc'
     ·exact un.keep d o' e (by rw [Ze z];exact n) hb hx
    ·by_cases z:d=cc
     ·subst z;rw [hoc] at e;cases e;exact ⟨oc.slots,hoc'⟩
     ·exact un.slot d o' e (by rw [Ze z];exact n) hb hx
    ·by_cases z:d=cc
     ·subst z;exact ZgO
     ·rw [WB z];exact un.free d o' e (by rw [Ze z];exact n) hx
    ·have z:=ZU e hno;rw [WB z];exact un.tups d xs (by rw [Ze z];exact e)
    ·have z:=ZU e hno;rw [WB z];exact un.frzs d o' u' (by rw [Ze z];exact e)
    ·have z:=ZU e hno;obtain ⟨more,e2⟩:=un.tbls d ps (by rw [Ze z];exact e);exact ⟨more,by rw [WB z];exact e2⟩
   ·intro d u' e;by_cases z:d=cc
    ·subst z;rw [ZgO] at e;cases e
    ·rw [WB z] at e;refine (hok d u' e).stay (fun _ _ _ r=>r) (fun d' r=>?_) fun d' xs r=>?_
     ·rw [WB fun y=>by subst y;rw [hz] at r;cases r];exact r
     ·rw [WB fun y=>by subst y;rw [hz] at r;cases r];exact r
  |next=>exact False.elim hq
  |brk=>exact False.elim hq
  |cont=>exact False.elim hq
end
end L2
namespace L2
open PySem PySem.Spec PyProof.Rows PySem.W SA
section
variable {prog:Program} {w:World} {A:Around} {E:Value->Shared->Prop} {s:Shared}
theorem ZjF {d:Addr} {es:Array DictEntry} {ep:Nat} {Q:Value->Shared->Prop} (hm:(d==sysModules)=false) (hd:VD s.heap d es ep)
  (q:Q (.ref s.heap.objs.size) { s with heap:=s.heap.push { cls:=.type "dict_keyiterator",data:=.fields #[.ref d,.int 0 0,.int es.size 0,.int ep 0] } }):wpAny (model prog w) A (pyIter (.ref d)) Q E s:=by
 obtain ⟨od,d1,d2,d3⟩:=hd;have ty:s.TypeIs (.ref d) "dict":=⟨od,d1,d2⟩;refine wpAny_pyIter_slot ty F.slot_dict_iter (Rb F.slot_dict_iter ty F.entry_dict_iter ?_ (F.args_dict_iter_1 _))
 delta Builtin.«dict.__iter__»
 refine Qb ?_
 delta Builtin.Dict.dictSlotNone
 refine Qb (Nv ty ?_);show wpAny _ A.in1 (pure (Value.ref d)) _ _ s;refine Qe ?_;show wpAny _ A.in1 (Builtin.Dict.showsAll d >>= _) _ _ s
 delta Builtin.Dict.showsAll
 rw [Qa (by rw [hm];simp)];refine Qb (Qe (Qb (RG d1 d3 (Qb (R8 d1 d3 ?_)))));refine Qb (Q3 (Qe ⟨_,rfl,"dict_keyiterator",_,⟨_,Qs _ rfl,rfl⟩,Gp.lookup,?_⟩));simpa [rawInt] using q
theorem Zaq {j:Addr} {Q:String->Shared->Prop} (hT:s.TypeIs (.ref j) "dict_keyiterator") (h:Q "dict_keyiterator" s):wpAny (model prog w) A (typeNameOfWhole (.ref j)) Q E s:=wpAny_typeNameOfWhole_keyiter hT h
theorem ZjY {j d:Addr} {i ep:Nat} {es:Array DictEntry} {e:DictEntry} {Q:Option Value->Shared->Prop} (hit:s.heap.IsKeyIter j d i es.size ep) (hd:VD s.heap d es ep) (he:es[i]?=some e)
  (q:∀h',h'.IsKeyIter j d (i+1) es.size ep->Heap.SameBut j s.heap h'->Q (some e.key) { s with heap:=h' }):wpAny (model prog w) A (pyNext (.ref j)) Q E s:=by
 have ty:=hit.typeIs;obtain ⟨o,o1,o2,o3⟩:=id hit;obtain ⟨od,d1,d2,d3⟩:=hd;have own:Builtin.Dict_items.ownsTuple "dict_keyiterator"=false:=by decide
 have hj:i<es.size:=by
  rcases Nat.lt_or_ge i es.size with h|h
  ·exact h
  ·rw [GU h] at he;cases he
 have hv:es[i].key=e.key:=by rw [getElem?_pos es i hj] at he;injection he with z;rw [z]
 delta pyNext
 refine Qb (R4 (Rl (name:=Str.ofString "__next__") ty Gp (Rb Gp ty NP ?_ (NQ _))));refine Qb (Qe (Qb (Qb (Qb (Zaq ty (Qe (Qb (GV o1 o3 ?_))))))));simp only [own,Bool.false_eq_true,QS];have nn:(Value.ref d==Value.none)=false:=rfl;show wpAny _ A.in1 (if (Value.ref d==Value.none)=true then _ else _) _ _ s;rw [nn,Qa QA];refine Qb (Qe (Qb (RG d1 d3 ?_)));rw [Qa (by simp)];refine Qb (Qe (Qb (R8 d1 d3 ?_)));rw [Qa (by simp)];refine Qe ?_;simp only [show ¬((i:Int)<0) from by omega,QS,RS,NR hj];refine Qb (Qb (Zaq ty (Qe (Qb (wpAny_isOneOf_keyiter ty ?_)))));show wpAny _ A.in1 (setField (.ref j) 1 (rawInt ((i:Int)+1)) >>= _) _ _ s;obtain ⟨h',eh⟩:∃z,z=s.heap.update j (Obj.mapFields (·.setIfInBounds 1 (rawInt ((i:Int)+1)))):=⟨_,rfl⟩;refine Qb (Gm o1 o3 (by simp) ?_);rw [←eh]
 have hit':h'.IsKeyIter j d (i+1) es.size ep:=by
  rw [eh];exact ⟨_,Nr _ o1 (Obj.isFreed_of_fields (GK o3 _)),(Obj.cls_mapFields ..).trans o2,by rw [GK o3];simp [rawInt]⟩
 have ty':({ s with heap:=h' }:Shared).TypeIs (.ref j) "dict_keyiterator":=Heap.IsKeyIter.typeIs (s:={ s with heap:=h' }) hit';refine Qb (RT (Qb (wpAny_isOneOf_keyiter ty' ?_)));show wpAny _ A.in1 (pure es[i].key) _ _ _;rw [hv];exact Qe (Qe ⟨_,rfl,Qe (q _ hit' (by rw [eh];exact RF ..))⟩)
theorem ZkM {j d:Addr} {i ep:Nat} {es:Array DictEntry} {Q:Option Value->Shared->Prop} (hh:A.handled=none) (hit:s.heap.IsKeyIter j d i es.size ep) (hd:VD s.heap d es ep) (he:es.size≤i)
  (q:∀h',Heap.ExtBut j s.heap h'->Q none { s with heap:=h' }):wpAny (model prog w) A (pyNext (.ref j)) Q E s:=by
 have ty:=hit.typeIs;obtain ⟨o,o1,o2,o3⟩:=id hit;obtain ⟨od,d1,d2,d3⟩:=hd;have own:Builtin.Dict_items.ownsTuple "dict_keyiterator"=false:=by decide
 delta pyNext
 refine Qb (R4 (Rl (name:=Str.ofString "__next__") ty Gp (Rb Gp ty NP ?_ (NQ _))));refine Qb (Qe (Qb (Qb (Qb (Zaq ty (Qe (Qb (GV o1 o3 ?_))))))));simp only [own,Bool.false_eq_true,QS];have nn:(Value.ref d==Value.none)=false:=rfl;show wpAny _ A.in1 (if (Value.ref d==Value.none)=true then _ else _) _ _ s;rw [nn,Qa QA];refine Qb (Qe (Qb (RG d1 d3 ?_)));rw [Qa (by simp)];refine Qb (Qe (Qb (R8 d1 d3 ?_)));rw [Qa (by simp)];refine Qe ?_;simp only [show ¬((i:Int)<0) from by omega,QS,RS,GU he];refine Qb (Qb (Zaq ty (Qe ?_)));show wpAny _ A.in1 (setField (.ref j) 0 .none >>= _) _ _ s;refine Qb (Gm o1 o3 (by simp) ?_);show wpAny _ A.in1 (newExc (.type "StopIteration") [] >>= _) _ _ _;refine Qb ?_;simp only [newExc,newTuple];refine Qb (Q3 (Qb (m:=firstArgMember _ _) (wpAny_of_eq (a:=Value.none) (by first|rfl|(simp only [firstArgMember];rfl)) (Q3 ?_ (by size_fits)))) (by size_fits));simp only [raiseNew];refine Qb (wpAny_handled ?_);rw [show A.in1.handled=none from hh];refine Qb (Qe (wpAny_throw ?_));refine Qb (Nt (b:=true) (T:="StopIteration") ⟨_,Qs _ rfl,rfl⟩ isSubtype_stop ?_);exact Qe (q _ (((RF ..).extBut.push _).push _))
end
theorem ZcU {H:Hp}:∀{kvs:List (List Zi×V)} {xs:List (List Zi×Addr×Value)},KT H kvs xs->∀(i:Nat) (p:List Zi×V),kvs[i]?=some p->∃x,xs[i]?=some x∧H x.2.1=some (.tup (p.1.map kV))∧RelV p.2 x.2.2
 |[],_,r,i,p,e=>by cases e
 |q::kvs,_,r,i,p,e=>by
  cases r with
  |@cons _ y _ _ h t =>
   cases i with
   |zero =>
    cases (show some q=some p from e);exact ⟨y,rfl,h.2.1,h.2.2⟩
   |succ i =>
    rw [R6] at e;obtain ⟨x,hx⟩:=ZcU t i p e;exact ⟨x,by rw [R6];exact hx.1,hx.2⟩
noncomputable def ZfH (d:Addr) (o:Obj) (kvs:List (List Zi×V)):It where
 go:=fun i H=>H d=some (.frz o (.dT kvs))∧i<kvs.length
 stop:=fun i H=>H d=some (.frz o (.dT kvs))∧kvs.length≤i
 yld:=fun i H x H'=>H'=H∧∃c p,kvs[i]?=some p∧x=.ref c∧H c=some (.tup (p.1.map kV))
theorem ZmA {P:Program} {w:World} {K:W.Frag} {tg:Expr} (d j:Addr) (o:Obj) (kvs:List (List Zi×V)) (es:Array DictEntry) (ep:Nat) (ho:o.data=.dict es ep) (hc:o.cls=.type "dict") (hz:es.size=kvs.length):Turn P w K tg (ZfH d o kvs) [j] j (fun i h=>h.IsKeyIter j d i es.size ep) where
 mem:=by simp
 obj:=fun i h st b hb=>by
  have e:b=j:=by simpa using hb
  subst e;obtain ⟨o,e,c,d⟩:=st;exact ⟨o,e,fun v z=>by rw [d] at z;cases z⟩
 keep:=fun i h h' st k=>by
  obtain ⟨o,e,c⟩:=st;exact ⟨o,k j (by simp) o e,c⟩
 item:=by
  intro X hP hw hK hcalm i pins s σ H E I hf st hg;subst hP hw hK;obtain ⟨hq,hi⟩:=hg;obtain ⟨g1,g2⟩:=(show s.heap.get? d=some o∧ObjOk X.prog X.w H s.heap d (.dT kvs) from I.hok d _ hq);obtain ⟨z,hd,xs,rel,o2,es2,ep2,h1,h2,h3,h4,h5⟩:=WO I.hok (.inr ⟨o,hq⟩);rw [g1] at h1;cases h1;rw [ho] at h3;cases h3;obtain ⟨x,hx,hxt,rx⟩:=ZcU rel i kvs[i] (Qt hi)
  have hen:∃en,es[i]?=some en∧en.key=.ref x.2.1:=by
   have e1:es.toList[i]?=es[i]?:=GS ..;rw [h4,Qp,hx] at e1;exact ⟨_,e1.symm,rfl⟩
  obtain ⟨en,hen,ev⟩:=hen;obtain ⟨f0,f1,f2,f3,f4,f5⟩:=hf j (by simp);refine ZjY st ⟨o,g1,hc,ho⟩ hen fun h' st' sb=>?_;have I1:Inv X pins σ H { s with heap:=h' }:=I.turned (t':=s.toks) (fun b o hb e=>(sb.2 b hb).trans e) f0 f1 f3 f4 f5;obtain ⟨o3,e3,c3,d3⟩:=id st';exact ⟨en.key,rfl,UA (s:={ s with heap:=h' }) e3 c3 d3 (by decide) ⟨.ref x.2.1,H,I1,by rw [ev];rfl,⟨rfl,x.2.1,_,Qt hi,rfl,hxt⟩,st',fun b hb=>(hf b hb).1⟩⟩
 done:=by
  intro X hP hw hK hcalm i pins s σ H E I hf st hg;subst hP hw hK;obtain ⟨hq,hi⟩:=hg;obtain ⟨g1,g2⟩:=(show s.heap.get? d=some o∧ObjOk X.prog X.w H s.heap d (.dT kvs) from I.hok d _ hq);obtain ⟨f0,f1,f2,f3,f4,f5⟩:=hf j (by simp);exact ZkM (I.ok.hd hcalm) st ⟨o,g1,hc,ho⟩ (by omega) fun h' eb=>⟨rfl,I.turned (t':=s.toks) (fun b o hb e=>eb b o hb e) f0 f1 f3 f4 f5⟩
 self:=fun _ _ _ _ _ st h=>wpAny_pyIter_keyiter st h
theorem Inv.freezeT {X:Cx} {pins:List (Addr×Obj)} {σ:St} {H:Hp} {s:Shared} {a:Addr} {kvs:List (List Zi×V)} (I:Inv X pins σ H s) (ha:H a=some (.dT kvs)):∃o es ep,s.heap.get? a=some o∧o.cls=.type "dict"∧o.data=.dict es ep∧es.size=kvs.length∧(a==sysModules)=false∧Inv X pins σ (Zb H a (.frz o (.dT kvs))) s:=by
 obtain ⟨z,hd,xs,rel,o,es,ep,h1,h2,h3,h4,h5⟩:=U5 I.hok ha;have hes:es.size=kvs.length:=by rw [←RN,h4,Qd];exact rel.length.symm
 have fz:∀{c:Addr} {u:HO},ObjOk X.prog X.w H s.heap c u->ObjOk X.prog X.w (Zb H a (.frz o (.dT kvs))) s.heap c u:=fun x=>by
  refine x.stay (fun c v hc qe=>qe) (fun c qe=>?_) fun c ys qe=>?_
  ·rw [Ze (fun z=>by subst z;rw [ha] at qe;cases qe)];exact qe
  ·rw [Ze (fun z=>by subst z;rw [ha] at qe;cases qe)];exact qe
 exact ⟨o,es,ep,h1,h2.1,h3,hes,hd,I.write (x:=a) (e:=a) (o:=.frz o (.dT kvs)) (h':=s.heap) (t':=s.toks) (by rw [ha];exact True.intro) (.inl rfl) (fun b u _ e=>e) ⟨o,h1⟩ ⟨h1,fz (show ObjOk X.prog X.w H s.heap a (.dT kvs) from I.hok a _ ha)⟩⟩
def Zl8 (tl:TE):TI:=fun σ H R=>tl σ H fun x H1=>∃a kvs,x=.ref a∧H1 a=some (.dT kvs)∧∀o,R (ZfH a o kvs) (Zb H1 a (.frz o (.dT kvs)))
theorem ZmZ {X:Cx} {tg l:Expr} {tl:TE} (hl:PE X l tl):PI X tg l (Zl8 tl):=by
 intro pins s σ H R I h;refine Zr (hl pins s σ H _ I h) fun v s1 ⟨x,H1,I1,r1,q1⟩=>?_;obtain ⟨a,kvs,e,ha,q⟩:=q1;subst e;cases r1;obtain ⟨o,es,ep,h1,h2,h3,hes,hd,If⟩:=I1.freezeT ha;refine ZjF hd ⟨o,h1,h2,h3⟩ ?_;refine ⟨s1.heap.objs.size,[s1.heap.objs.size],_,_,_,rfl,If.kept (t':=s1.toks) fun b o e=>Qi _ e,ZmA a _ o kvs es ep h3 h2 hes,⟨_,Qs _ rfl,rfl,rfl⟩,fun b hb=>?_,q o⟩;have e:b=s1.heap.objs.size:=by simpa using hb
 subst e;exact If.fpOk (Qf _) (If.hok.fresh (Qf _))
def UC (r a:Addr) (h:Heap):Prop:=h.IsItemsView r a
section
variable {prog:Program} {w:World} {A:Around} {E:Value->Shared->Prop} {s:Shared}
theorem Zk0 {v d:Addr} {es:Array DictEntry} {ep:Nat} {Q:Value->Shared->Prop} (hv:s.heap.IsItemsView v d) (hd:VD s.heap d es ep)
  (q:Q (.ref s.heap.objs.size) { s with heap:=s.heap.push { cls:=.type "dict_itemiterator",data:=.fields #[.none,.bool false,.ref d,.int 0 0,.int es.size 0,.int ep 0,.none,.none] } }):wpAny (model prog w) A (pyIter (.ref v)) Q E s:=by
 have ty:=hv.typeIs;obtain ⟨ov,g1,g2,g3⟩:=hv;obtain ⟨od,d1,d2,d3⟩:=hd;have own:Builtin.Dict_items.ownsTuple "dict_itemiterator"=true:=by decide
 refine wpAny_pyIter_slot ty F.slot_dict_items_iter (Rb F.slot_dict_items_iter ty F.entry_dict_items_iter ?_ (F.args_dict_items_iter_1 _))
 delta Builtin.«dict_items.__iter__»
 refine Qb (Qe (Qb ?_))
 delta Builtin.Dict_items.dictOf
 refine Qb (QN g1 g3 (x:=.ref d) rfl (Qe (Qb ?_)))
 delta Builtin.Dict_items.newIterator
 refine Qb (RG d1 d3 (Qb (R8 d1 d3 ?_)));simp only [own,Q8]
 refine Q3 (Qe ⟨_,rfl,"dict_itemiterator",_,⟨_,Qs _ rfl,rfl⟩,Gq.lookup,?_⟩)
  (by simp only [sizeOk,Builtin.Dict_items.ownedTupleFields,Qx,Qw,QM,GH,RY];omega)
 simpa [rawInt,Builtin.Dict_items.ownedTupleFields] using q
theorem Zbc {j:Addr} {Q:String->Shared->Prop} (hT:s.TypeIs (.ref j) "dict_itemiterator") (h:Q "dict_itemiterator" s):wpAny (model prog w) A (typeNameOfWhole (.ref j)) Q E s:=wpAny_typeNameOfWhole_itemiter hT h
theorem ZnM {j d:Addr} {i ep:Nat} {es:Array DictEntry} {e:DictEntry} {ok ov:Value} {Q:Option Value->Shared->Prop} (hit:IsItemIter s.heap j d i es.size ep ok ov) (hd:VD s.heap d es ep) (he:es[i]?=some e)
  (q:∀h',IsItemIterOut h' j d (i+1) es.size ep e.key e.val s.heap.objs.size->h'.get? s.heap.objs.size=some { cls:=.type "tuple",data:=.seq #[e.key,e.val] } →
   (∀b o,b≠j->s.heap.get? b=some o->h'.get? b=some o)->Q (some (.ref s.heap.objs.size)) { s with heap:=h' }):wpAny (model prog w) A (pyNext (.ref j)) Q E s:=by
 obtain ⟨hp,g,dr,tk,os⟩:=s;obtain ⟨od,d1,d2,d3⟩:=hd;have ty:Shared.TypeIs ⟨hp,g,dr,tk,os⟩ (.ref j) "dict_itemiterator":=⟨_,hit,rfl⟩;have own:Builtin.Dict_items.ownsTuple "dict_itemiterator"=true:=by decide
 have hj:i<es.size:=by
  rcases Nat.lt_or_ge i es.size with h|h
  ·exact h
  ·rw [GU h] at he;cases he
 have hv:es[i]=e:=by rw [getElem?_pos es i hj] at he;injection he
 delta pyNext
 refine Qb (R4 (Rl (name:=Str.ofString "__next__") ty Gq (Rb Gq ty NS ?_ (NT _))));refine Qb (Qe (Qb (Qb (Qb (Zbc ty (Qe (Qb (GV hit rfl ?_))))))));simp only [own,Q8];have nn:(Value.ref d==Value.none)=false:=rfl;show wpAny _ A.in1 (if (Value.ref d==Value.none)=true then _ else _) _ _ _;rw [nn,Qa QA];refine Qb (Qe (Qb (RG d1 d3 ?_)));rw [Qa (by simp)];refine Qb (Qe (Qb (R8 d1 d3 ?_)));rw [Qa (by simp)];refine Qe ?_;simp only [show ¬((i:Int)<0) from by omega,QS,RS,NR hj];refine Qb (Qb (Zbc ty (Qe (Qb (Nz ty ?_)))));show wpAny _ A.in1 (setField (.ref j) 3 (rawInt ((i:Int)+1)) >>= _) _ _ _;refine Qb (Ro hit (by simp) fun ha a1 a2=>?_);replace a2:Heap.SameBut j hp ha:=a2
 replace a1:IsItemIter ha j d (i+1) es.size ep ok ov:=by
  have ez:((i+1:Nat):Int)=(i:Int)+1:=by omega
  unfold IsItemIter;rw [ez];simpa [rawInt] using a1
 have tya:Shared.TypeIs ⟨ha,g,dr,tk,os⟩ (.ref j) "dict_itemiterator":=⟨_,a1,rfl⟩;refine Qb (RT (Qb (Nz tya (Qb (Nz tya ?_)))));show wpAny _ A.in1 (Builtin.Dict_items.pairFromOwner (.ref j) 6 es[i].key es[i].val) _ _ ⟨ha,g,dr,tk,os⟩;rw [hv]
 delta Builtin.Dict_items.pairFromOwner
 refine Qb (wpAny_newTuple ?_);have b1:IsItemIter (ha.push { cls:=.type "tuple",data:=.seq #[e.key,e.val] }) j d (i+1) es.size ep ok ov:=Qi _ a1;generalize hb:ha.push { cls:=.type "tuple",data:=.seq #[e.key,e.val] }=hB at b1;have za:ha.objs.size=hp.objs.size:=a2.1;have lj:j<hp.objs.size:=Qg hit;have tB:hB.get? hp.objs.size=some { cls:=.type "tuple",data:=.seq #[e.key,e.val] }:=by rw [←hb,←za];exact Qs _ rfl
 have kB:∀b o,b≠j->hp.get? b=some o->hB.get? b=some o:=fun b o nb eo=>by rw [←hb];exact Qi _ (a2.extBut b o nb eo)
 show wpAny _ A.in1 (Builtin.Dict_items.ownedTupleIsFree (.ref j) >>= _) _ _ ⟨hB,g,dr,tk,os⟩;rw [za];clear hb a1 a2 tya za ha;refine Qb ?_
 delta Builtin.Dict_items.ownedTupleIsFree
 refine Qb (QN b1 rfl (x:=.none) rfl (Qe ?_));simp only [Q8];refine Qb (QN b1 rfl (x:=ok) rfl (Qb (QN b1 rfl (x:=ov) rfl ?_)));refine Qb (Ro b1 (by simp) fun hC c1 c2=>?_);replace c2:Heap.SameBut j hB hC:=c2;replace c1:IsItemIter hC j d (i+1) es.size ep e.key ov:=c1;refine Qb (Ro c1 (by simp) fun hD e1 e2=>?_);replace e2:Heap.SameBut j hC hD:=e2;replace e1:IsItemIter hD j d (i+1) es.size ep e.key e.val:=e1;refine Qb (Ro e1 (by simp) fun hE f1 f2=>?_);replace f2:Heap.SameBut j hD hE:=f2;replace f1:IsItemIterOut hE j d (i+1) es.size ep e.key e.val hp.objs.size:=f1;refine Qb (Ro f1 (by simp) fun hG g1 g2=>?_);replace g2:Heap.SameBut j hE hG:=g2;replace g1:IsItemIterOut hG j d (i+1) es.size ep e.key e.val hp.objs.size:=g1;have up:∀b o,b≠j->hB.get? b=some o->hG.get? b=some o:=fun b o nb eo=>g2.extBut b o nb (f2.extBut b o nb (e2.extBut b o nb (c2.extBut b o nb eo)));refine Qb (GL (Qe (Qe ⟨_,rfl,Qe (q hG g1 ?_ ?_)⟩)))
 ·exact up _ _ (RC lj) tB
 ·exact fun b o nb eo=>up b o nb (kB b o nb eo)
theorem Zkr {j d:Addr} {i ep:Nat} {es:Array DictEntry} {ok ov:Value} {Q:Option Value->Shared->Prop} (hh:A.handled=none) (hit:IsItemIter s.heap j d i es.size ep ok ov) (hd:VD s.heap d es ep) (he:es.size≤i)
  (q:∀h',Heap.ExtBut j s.heap h'->Q none { s with heap:=h' }):wpAny (model prog w) A (pyNext (.ref j)) Q E s:=by
 obtain ⟨od,d1,d2,d3⟩:=hd;have ty:s.TypeIs (.ref j) "dict_itemiterator":=⟨_,hit,rfl⟩;have own:Builtin.Dict_items.ownsTuple "dict_itemiterator"=true:=by decide
 delta pyNext
 refine Qb (R4 (Rl (name:=Str.ofString "__next__") ty Gq (Rb Gq ty NS ?_ (NT _))));refine Qb (Qe (Qb (Qb (Qb (Zbc ty (Qe (Qb (GV hit rfl ?_))))))));simp only [own,Q8];have nn:(Value.ref d==Value.none)=false:=rfl;show wpAny _ A.in1 (if (Value.ref d==Value.none)=true then _ else _) _ _ s;rw [nn,Qa QA];refine Qb (Qe (Qb (RG d1 d3 ?_)));rw [Qa (by simp)];refine Qb (Qe (Qb (R8 d1 d3 ?_)));rw [Qa (by simp)];refine Qe ?_;simp only [show ¬((i:Int)<0) from by omega,QS,RS,GU he];refine Qb (Qb (Zbc ty (Qe ?_)));show wpAny _ A.in1 (setField (.ref j) 2 .none >>= _) _ _ s;refine Qb (Gm hit rfl (by simp) ?_);show wpAny _ A.in1 (newExc (.type "StopIteration") [] >>= _) _ _ _;refine Qb ?_;simp only [newExc,newTuple];refine Qb (Q3 (Qb (m:=firstArgMember _ _) (wpAny_of_eq (a:=Value.none) (by first|rfl|(simp only [firstArgMember];rfl)) (Q3 ?_ (by size_fits)))) (by size_fits));simp only [raiseNew];refine Qb (wpAny_handled ?_);rw [show A.in1.handled=none from hh];refine Qb (Qe (wpAny_throw ?_));refine Qb (Nt (b:=true) (T:="StopIteration") ⟨_,Qs _ rfl,rfl⟩ isSubtype_stop ?_);exact Qe (q _ (((RF ..).extBut.push _).push _))
end
theorem ZhQ {prog:Program} {w:World} {A:Around} {E:Value->Shared->Prop} {s:Shared} {d:Addr} {es:Array DictEntry} {ep:Nat} {Q:Value->Shared->Prop} (lo:(d==sysModules)=false) (hd:VD s.heap d es ep)
  (q:Q (.ref s.heap.objs.size) { s with heap:=s.heap.push { cls:=.type "dict_items",data:=.fields #[.ref d] } }):wpAny (model prog w) A (call (.builtin "dict.items") [.ref d]) Q E s:=by
 obtain ⟨od,d1,d2,d3⟩:=hd;have ty:s.TypeIs (.ref d) "dict":=⟨od,d1,d2⟩;refine Gh F.slot_dict_items ty F.entry_dict_items (F.args_dict_items_1 _) (S:=fun _ R s'=>s'=s∧R (.ok (.ret (.ref s'.heap.objs.size))) { s' with heap:=s'.heap.push { cls:=.type "dict_items",data:=.fields #[.ref d] } }) ?_ ⟨rfl,q⟩;refine .of_wp fun A R s' h=>?_;obtain ⟨rfl,h⟩:=h;refine Qb ?_
 delta Builtin.Dict.noArgs
 refine Qb (Nv ty ?_);show wpAny _ _ (pure d) _ _ _;refine Qe ?_;show wpAny _ _ (Builtin.Dict.showsAll d >>= _) _ _ _
 delta Builtin.Dict.showsAll
 rw [Qa (by rw [lo];exact QA)];exact Qb (Qe (Qb (Q3 (Qe ⟨_,rfl,h⟩))))
theorem ZmR {X:Cx}:V9 X "dict.items" (fun x xs H Q=>∃a kvs,x=.ref a∧xs=[]∧H a=some (.dT kvs)∧∀r,H r=none->Q (.ref r) (Zb H r (.ext (UC r a)))):=by
 intro pins s σ H x xs v us Q I rx r h;obtain ⟨a,kvs,rfl,rfl,ha,q⟩:=h;cases r;obtain rfl:v=Value.ref a:=rx;obtain ⟨z,hd,xs,rel,o,es,ep,h1,h2,h3,h4,h5⟩:=U5 I.hok ha;refine ZhQ hd ⟨o,h1,h2.1,h3⟩ ⟨.ref s.heap.objs.size,_,I.laid (t':=s.toks) (o:=.ext (UC s.heap.objs.size a)) (fun b u e=>Qi _ e) (Qf _) ?_,rfl,q _ (I.hok.fresh (Qf _))⟩;have g:(s.heap.push { cls:=.type "dict_items",data:=.fields #[.ref a] }).get? s.heap.objs.size=some { cls:=.type "dict_items",data:=.fields #[.ref a] }:=Qs _ rfl;refine ⟨⟨_,g,rfl,rfl⟩,⟨_,g⟩,fun g1 g2 φ k=>?_⟩;obtain ⟨o,o1,o2⟩:=φ;exact ⟨o,k o o1,o2⟩
noncomputable def Jp (d:Addr) (o:Obj) (kvs:List (List Zi×V)):It where
 go:=fun i H=>H d=some (.frz o (.dT kvs))∧i<kvs.length
 stop:=fun i H=>H d=some (.frz o (.dT kvs))∧kvs.length≤i
 yld:=fun i H v H'=>∃T c p,H T=none∧v=.ref T∧kvs[i]?=some p∧H c=some (.tup (p.1.map kV))∧H'=Zb H T (.tup [.ref c,p.2])
theorem ZmM {P:Program} {w:World} {K:W.Frag} {ts:List Expr} {n:Nat} {pos:Pos} (d j:Addr) (o:Obj) (kvs:List (List Zi×V)) (es:Array DictEntry) (ep:Nat) (ho:o.data=.dict es ep) (hc:o.cls=.type "dict") (hz:es.size=kvs.length) :
  Turn P w K (.Tuple ts n pos) (Jp d o kvs) [j] j (fun i h=>∃ok ov,IsItemIter h j d i es.size ep ok ov) where
 mem:=by simp
 obj:=fun i h ⟨ok,ov,st⟩ b hb=>by
  have e:b=j:=by simpa using hb
  subst e;exact ⟨_,st,fun v z=>by cases z⟩
 keep:=fun i h h' ⟨ok,ov,st⟩ k=>⟨ok,ov,k j (by simp) _ st⟩
 item:=by
  intro X hP hw hK hcalm i pins s σ H E I hf st hg;subst hP hw hK;obtain ⟨ok,ov,st⟩:=st;obtain ⟨hq,hi⟩:=hg;obtain ⟨g1,g2⟩:=(show s.heap.get? d=some o∧ObjOk X.prog X.w H s.heap d (.dT kvs) from I.hok d _ hq);obtain ⟨z,hd,xs,rel,o2,es2,ep2,h1,h2,h3,h4,h5⟩:=WO I.hok (.inr ⟨o,hq⟩);rw [g1] at h1;cases h1;rw [ho] at h3;cases h3;obtain ⟨x,hx,hxt,rx⟩:=ZcU rel i kvs[i] (Qt hi)
  have hen:∃en,es[i]?=some en∧en.key=.ref x.2.1∧en.val=x.2.2:=by
   have e1:es.toList[i]?=es[i]?:=GS ..;rw [h4,Qp,hx] at e1;exact ⟨_,e1.symm,rfl,rfl⟩
  obtain ⟨en,hen,ek,ev⟩:=hen;have lj:j<s.heap.objs.size:=Qg st;refine ZnM st ⟨o,g1,hc,ho⟩ hen fun h1 io tt kk=>?_;refine ⟨_,rfl,wpAny_letOwnedTupleGo_items io fun h2 st2 sb=>?_⟩;have tt2:=sb.extBut _ _ (RC lj) tt
  have k2:∀c o,c∉[j]->s.heap.get? c=some o->h2.get? c=some o:=fun c o hc e=>by
   have nc:c≠j:=by simpa using hc
   exact sb.extBut _ _ nc (kk c o nc e)
  have I':=I.turnedLaid (t':=s.toks) (o:=.tup [.ref x.2.1,kvs[i].2]) hf k2 (Qf _) (show ObjOk X.prog X.w _ h2 _ (.tup [.ref x.2.1,kvs[i].2]) from ⟨Zw (by simp),[en.key,en.val],.cons (by rw [ek];rfl) (.cons (by rw [ev];exact rx) .nil),⟨_,tt2,rfl,_,rfl⟩⟩);refine ⟨.ref s.heap.objs.size,_,I',rfl,⟨s.heap.objs.size,x.2.1,kvs[i],I.hok.fresh (Qf _),rfl,Qt hi,hxt,rfl⟩,⟨_,_,st2⟩,fun c hc=>?_⟩;have ec:c=j:=by simpa using hc
  subst ec;rw [Ze (Qy lj)];exact (hf c (by simp)).1
 done:=by
  intro X hP hw hK hcalm i pins s σ H E I hf st hg;subst hP hw hK;obtain ⟨ok,ov,st⟩:=st;obtain ⟨hq,hi⟩:=hg;obtain ⟨g1,g2⟩:=(show s.heap.get? d=some o∧ObjOk X.prog X.w H s.heap d (.dT kvs) from I.hok d _ hq);obtain ⟨f0,f1,f2,f3,f4,f5⟩:=hf j (by simp);exact Zkr (I.ok.hd hcalm) st ⟨o,g1,hc,ho⟩ (by omega) fun h' eb=>⟨rfl,I.turned (t':=s.toks) (fun b o hb e=>eb b o hb e) f0 f1 f3 f4 f5⟩
 self:=fun _ _ _ _ _ ⟨ok,ov,st⟩ h=>kcp_self st h
def ZnK (tl:TE):TI:=fun σ H R=>tl σ H fun x H1=>∃r a kvs,x=.ref r∧H1 r=some (.ext (UC r a))∧H1 a=some (.dT kvs)∧∀o,R (Jp a o kvs) (Zb H1 a (.frz o (.dT kvs)))
theorem ZkU {X:Cx} {l:Expr} {tl:TE} {ts:List Expr} {n:Nat} {pos:Pos} (hl:PE X l tl):PI X (.Tuple ts n pos) l (ZnK tl):=by
 intro pins s σ H R I h;refine Zr (hl pins s σ H _ I h) fun v s1 ⟨x,H1,I1,r1,q1⟩=>?_;obtain ⟨r,a,kvs,e,hr,ha,q⟩:=q1;subst e;cases r1;have hview:s1.heap.IsItemsView r a:=(show ObjOk X.prog X.w H1 s1.heap r (.ext (UC r a)) from I1.hok r _ hr).1;obtain ⟨o,es,ep,h1,h2,h3,hes,hd,If⟩:=I1.freezeT ha;refine Zk0 hview ⟨o,h1,h2,h3⟩ ?_;refine ⟨s1.heap.objs.size,[s1.heap.objs.size],_,_,_,rfl,If.kept (t':=s1.toks) fun b o e=>Qi _ e,ZmM a _ o kvs es ep h3 h2 hes,⟨_,_,Qs _ rfl⟩,fun b hb=>?_,q o⟩;have e:b=s1.heap.objs.size:=by simpa using hb
 subst e;exact If.fpOk (Qf _) (If.hok.fresh (Qf _))
theorem Znu {d:Addr} {o:Obj} {kvs:List (List Zi×V)} {g:TG} {tb:TS} {D:Ends} {σ:St} {H:Hp} (Pv:Nat->St->Hp->Prop) (h0:Pv 0 σ H) (hl:∀i σ H,i≤kvs.length->Pv i σ H->H d=some (.frz o (.dT kvs)))
  (hs:∀i p T c σ H,kvs[i]?=some p->Pv i σ H->H T=none->H c=some (.tup (p.1.map kV))->g (.ref T) σ (Zb H T (.tup [.ref c,p.2])) fun σ2 H2=>tb { D with nx:=Pv (i+1),ct:=Pv (i+1),bk:=D.nx } σ2 H2) (hd:∀σ H,Pv kvs.length σ H->D.nx σ H) :
  ∃W:Nat->Nat->St->Hp->Prop,(∃m,W 0 m σ H)∧∀i m σ H,W i m σ H →
   ((Jp d o kvs).stop i H∧D.nx σ H)∨((Jp d o kvs).go i H∧∃N:St->Hp->Prop,(∀σ' H',N σ' H'->∃m',m'<m∧W (i+1) m' σ' H')∧∀x H',(Jp d o kvs).yld i H x H'->g x σ H' fun σ2 H2=>tb { D with nx:=N,ct:=N,bk:=D.nx } σ2 H2):=by
 refine ⟨fun i m σ H=>m=kvs.length-i∧i≤kvs.length∧Pv i σ H,⟨kvs.length,by simp,QK _,h0⟩,?_⟩;rintro i m σ H ⟨rfl,hi,p⟩;have q:=hl i σ H hi p;by_cases hlt:i<kvs.length
 ·refine .inr ⟨⟨q,hlt⟩,Pv (i+1),fun σ' H' p'=>⟨kvs.length-(i+1),by omega,rfl,hlt,p'⟩,fun x H' y=>?_⟩;obtain ⟨T,c,r,nT,rfl,hr,hc,rfl⟩:=y;exact hs i r T c σ _ hr p nT hc
 ·have e:i=kvs.length:=by omega
  subst e;exact .inl ⟨⟨q,Qf _⟩,hd σ H p⟩
theorem Zn2 {d:Addr} {o:Obj} {kvs:List (Zi×V)} {g:TG} {tb:TS} {D:Ends} {σ:St} {H:Hp} (Pv:Nat->St->Hp->Prop) (h0:Pv 0 σ H) (hl:∀i σ H,i≤kvs.length->Pv i σ H->H d=some (.frz o (.dK kvs)))
  (hs:∀i p σ H,kvs[i]?=some p->Pv i σ H->g (kV p.1) σ H fun σ2 H2=>tb { D with nx:=Pv (i+1),ct:=Pv (i+1),bk:=D.nx } σ2 H2) (hd:∀σ H,Pv kvs.length σ H->D.nx σ H) :
  ∃W:Nat->Nat->St->Hp->Prop,(∃m,W 0 m σ H)∧∀i m σ H,W i m σ H →
   ((U4 d o kvs).stop i H∧D.nx σ H)∨((U4 d o kvs).go i H∧∃N:St->Hp->Prop,(∀σ' H',N σ' H'->∃m',m'<m∧W (i+1) m' σ' H')∧∀x H',(U4 d o kvs).yld i H x H'->g x σ H' fun σ2 H2=>tb { D with nx:=N,ct:=N,bk:=D.nx } σ2 H2):=by
 refine ⟨fun i m σ H=>m=kvs.length-i∧i≤kvs.length∧Pv i σ H,⟨kvs.length,by simp,QK _,h0⟩,?_⟩;rintro i m σ H ⟨rfl,hi,p⟩;have q:=hl i σ H hi p;by_cases hlt:i<kvs.length
 ·refine .inr ⟨⟨q,hlt⟩,Pv (i+1),fun σ' H' p'=>⟨kvs.length-(i+1),by omega,rfl,hlt,p'⟩,fun x H' y=>?_⟩;obtain ⟨rfl,y⟩:=y;rw [Qt hlt] at y;cases (show kV kvs[i].1=x from Ql y);exact hs i kvs[i] σ _ (Qt hlt) p
 ·have e:i=kvs.length:=by omega
  subst e;exact .inl ⟨⟨q,Qf _⟩,hd σ H p⟩
end L2
namespace L2
open PySem PySem.Spec PyProof.Rows
section
variable {X:Cx}
end
theorem ZQ {N P:List Str} {sc:Scope} (h1:sc.kind=.function:=by rfl) (h2:sc.isCoroutine=false:=by rfl) (h3:sc.isGenerator=false:=by rfl) (h4:N.Nodup:=by decide +kernel) (h5:N.take P.length=P:=by rfl)
  (h6:∀x∈P,sc.names.lookup x=some .local∨sc.names.lookup x=some .cell:=by decide +kernel) (h7:∀y∈sc.names,y.2≠.free:=by decide +kernel):FnScope N P sc:=⟨h1,h2,h3,h4,h5,h6,h7⟩
section
variable {X:Cx} {CX:Yw} {k n:Nat} {x:Str} {st:Stmt} {ps:List Str} {sp:Sp} {p pos:Pos} {e:Expr} {es:List Expr} {t:TA} {E:St->XK}
theorem ZM {d:Df X.K X.mg x st ps} (F:FnOk X.prog X.w X.K X.mg X.base CX k d.a (ZG X.K d.a) ps sp) (hr:Room n X.A) (hx:W7 CX X E) (ha:PA X (e::es) t) (hn:k≤n:=by decide) (hg:Gl X x:=by rfl)
  (hdb:(x==("__debug__" : Str))=false:=by decide) (he:starEach (e::es) X.env=(false,eval e X.env)::starEach es X.env:=by rfl) (hpl:(backTo pos (starEach es X.env)).any (·.1)=false:=by rfl) :
  PE X (.Call (.Name x p) (e::es) [] pos) (Zd1 sp [] E t):=ZlE F (hr.mono hn) hg d.m d.F.kp d.b .nil hx ha hdb he hpl
end
noncomputable def JS (lo:Int) (c n:Nat):It:=⟨fun i _=>i<n,fun i H x H'=>H'=H∧x=.int (lo+i*c),fun i _=>n≤i⟩
theorem Zjg {P:Program} {w:World} {K:PySem.W.Frag} {tg:Expr} (it:Addr) (lo:Int) (c n:Nat):Turn P w K tg (JS lo c n) [it] it (fun i h=>IsRangeIter h it (lo+(i:Nat)*(c:Int)) ((n:Int)-(i:Nat)) c) where
 mem:=by simp
 obj:=fun i h st b hb=>by
  have e:b=it:=by simpa using hb
  subst e
  exact ⟨_,st,fun v z=>by
   have z':Data.fields _=Data.cell v:=z;cases z'⟩
 keep:=fun i h h' st k=>k it (by simp) _ st
 item:=by
  intro X hP hw hK hc i pins s σ H E I hf st hg;subst hP hw hK;obtain ⟨f0,f1,f2,f3,f4,f5⟩:=hf it (by simp);have W:=Walks.range (prog:=X.prog) (w:=X.w) (I.ok.hd hc) it lo c n;refine W.item i s _ _ hg st fun v h' tk hv st' kk=>?_;obtain ⟨t,rfl⟩:=hv;have I1:Inv X pins σ H { s with heap:=h',toks:=tk }:=I.turned (fun b o hb e=>kk b o (by simpa using hb) e) f0 f1 f3 f4 f5;exact ⟨_,rfl,UA (s:={ s with heap:=h',toks:=tk }) (n:="range_iterator") st' rfl rfl (by decide) ⟨.int (lo+i*c),H,I1,⟨t,rfl⟩,⟨rfl,rfl⟩,st',fun b hb=>(hf b hb).1⟩⟩
 done:=by
  intro X hP hw hK hc i pins s σ H E I hf st hg;subst hP hw hK;obtain ⟨f0,f1,f2,f3,f4,f5⟩:=hf it (by simp);exact wpAny_pyNext_range_end (I.ok.hd hc) st (by have:n≤i:=hg;omega) fun h' eb=>⟨rfl,I.turned (t':=s.toks) (fun b o hb e=>eb b o hb e) f0 f1 f3 f4 f5⟩
 self:=fun _ _ _ _ _ st h=>wpAny_pyIter_rangeiter st h
section
variable {X:Cx} {tg:Expr}
def Zos (ta:TA):TI:=fun σ H R=>ta σ H fun vs H1=>∃(i j:Int) (c:Nat),vs=[.int i,.int j,.int c]∧(0≤i∧i≤1000∧0≤j∧j≤1000∧0<c∧c≤1000)∧∀n:Nat,(∀k:Nat,k<n->i+(k:Int)*(c:Int)<j)->n≤1000->R (JS i c n) H1
theorem ZmX {i j:Int} {c:Nat} (h:0≤i∧i≤1000∧0≤j∧j≤1000∧0<c∧c≤1000):∃n:Nat,Builtin.Range.rangeSize i j c=(n:Int)∧(∀k:Nat,k<n->i+(k:Int)*(c:Int)<j)∧n≤1000:=by
 obtain ⟨h1,h2,h3,h4,h5,h6⟩:=h;have cp:(0:Int)<(c:Int):=by omega
 unfold Builtin.Range.rangeSize;rw [Qc cp];by_cases ij:i<j
 ·rw [Qc ij];have q0:0≤(j-i-1)/(c:Int):=Int.ediv_nonneg (by omega) (by omega);have q1:(j-i-1)/(c:Int)≤j-i-1:=Int.ediv_le_self _ (by omega);refine ⟨((j-i-1)/(c:Int)+1).toNat,by omega,fun k hk=>?_,by omega⟩;have a:(k:Int)≤(j-i-1)/(c:Int):=by omega
  have b:=Int.mul_le_of_le_ediv cp a;omega
 ·rw [Qa ij];exact ⟨0,rfl,fun k hk=>absurd hk (Nat.not_lt_zero _),by omega⟩
theorem ZiC {a b c:Expr} {ta:TA} {p pos:Pos} (hg:Gl X "range") (hm:X.mg "range"=none) (ha:PA X [a,b,c] ta) (hs:starEach [a,b,c] X.env=[(false,eval a X.env),(false,eval b X.env),(false,eval c X.env)]:=by rfl) (hs2:starEach [b,c] X.env=[(false,eval b X.env),(false,eval c X.env)]:=by rfl) :
  PI X tg (.Call (.Name "range" p) [a,b,c] [] pos) (Zos ta):=by
 intro pins s σ H R I h;refine Call_ (Vr I hg hm boot_range (Gc (Zr (ha pos pins s σ H _ I h) fun us s1 ⟨vs,H1,I1,r1,q1⟩=>?_) (by rw [hs,hs2]) (by rw [hs2];rfl)));obtain ⟨i,j,c,e,hb,q⟩:=q1;subst e;obtain ⟨n,hn,h1,h2⟩:=ZmX hb;have q:=q n h1 h2;cases r1 with
 |cons r rr =>
 cases rr with
 |cons r' rr =>
 cases rr with
 |cons r2 rr =>
 cases rr;obtain ⟨t,rfl⟩:=r;obtain ⟨t',rfl⟩:=r';obtain ⟨t2,rfl⟩:=r2
 have sm:Builtin.Range.small i j (c:Int)=true:=by
  unfold Builtin.Range.small;rw [hn];have cp:(c:Int) > 0:=by omega
  simp only [Builtin.Range.rangeFitsLong,Rm,RV,Gr,Ru,Qc cp];omega
 refine call_range_3 (by omega) ?_ (.inl (PyProof.noPylong_small (by omega)));refine wpAny_pyIter_range (IsRange.new ..) sm ?_;have I2:=I1.kept (h':=s1.heap.push { cls:=.type "range",data:=.fields #[.int i t,.int j t',.int (c:Int) t2] }) (t':=s1.toks) fun b o e=>Qi _ e;refine ⟨_,[_],_,_,H1,rfl,I2.kept (t':=s1.toks) fun b o e=>Qi _ e,Zjg _ i c n,?_,fun b hb=>?_,q⟩
 ·show IsRangeIter _ _ (i+((0:Nat):Int)*(c:Int)) ((n:Int)-((0:Nat):Int)) c;rw [show i+((0:Nat):Int)*(c:Int)=i by simp,show (n:Int)-((0:Nat):Int)=(n:Int) by simp,←hn];exact Qs _ rfl
 ·obtain rfl:=QO.mp hb;exact I2.fpOk (Qf _) (I2.hok.fresh (Qf _))
theorem ZjC {lo:Int} {c n:Nat} {g:TG} {tb:TS} {D:Ends} {σ:St} {H:Hp} (Pv:Nat->St->Hp->Prop) (h0:Pv 0 σ H)
  (hs:∀i σ H,i<n->Pv i σ H->g (.int (lo+i*c)) σ H fun σ2 H2=>tb { D with nx:=Pv (i+1),ct:=Pv (i+1),bk:=D.nx } σ2 H2) (hd:∀σ H,Pv n σ H->D.nx σ H) :
  ∃W:Nat->Nat->St->Hp->Prop,(∃m,W 0 m σ H)∧∀i m σ H,W i m σ H →
   ((JS lo c n).stop i H∧D.nx σ H)∨((JS lo c n).go i H∧∃N:St->Hp->Prop,(∀σ' H',N σ' H'->∃m',m'<m∧W (i+1) m' σ' H')∧∀x H',(JS lo c n).yld i H x H'->g x σ H' fun σ2 H2=>tb { D with nx:=N,ct:=N,bk:=D.nx } σ2 H2):=by
 refine ⟨fun i m σ H=>m=n-i∧i≤n∧Pv i σ H,⟨n,by simp,QK _,h0⟩,?_⟩;rintro i m σ H ⟨rfl,hi,p⟩;by_cases hlt:i<n
 ·refine .inr ⟨hlt,Pv (i+1),fun σ' H' p'=>⟨n-(i+1),by omega,rfl,hlt,p'⟩,fun x H' y=>?_⟩;obtain ⟨e,y⟩:=y;subst e y;exact hs i σ _ hlt p
 ·have e:i=n:=by omega
  subst e;exact .inl ⟨Qf _,hd σ H p⟩
end
section
variable {X:Cx}
def VQ (K:W.Frag) (H:Hp) (v:V) (zss:List (List Str)):Prop:=∃(l:Addr) (as:List Addr),v=.ref l∧SqL K H l (as.map V.ref)∧as.length=zss.length∧∀(i:Nat) a zs,as[i]?=some a->zss[i]?=some zs->SqL K H a (zs.map V.str)
theorem ZhK {pins:List (Addr×Obj)} {σ:St} {H:Hp} {s:Shared} {A:Around} {a b:Addr} {zs:List Str} (I:Inv X pins σ H s) (hu:A.units+8<cLine) (ha:SqL X.K H a (zs.map V.str)) (hb:SqL X.K H b (zs.map V.str)):SeqAt.EqAt A s (.ref a) (.ref b) true:=by
 by_cases ab:a=b
 ·subst ab;exact SeqAt.EqAt.same _
 refine SeqAt.EqAt.of_refs ab ?_;obtain ⟨its,rv,z,_⟩:=I.list ha;obtain ⟨its2,rv2,z2,_⟩:=I.list hb;have e1:=rv.length;have e2:=rv2.length;rw [Qd] at e1 e2
 have g:=Ny (A:=A) (e:=fun _=>true) z.isList z2.isList (by simp only [Qx,←e1,←e2]) (by omega) fun j h1 h2=>by
  have j1:j<zs.length:=by rw [Qx,←e1] at h1;exact h1
  have k:(zs.map V.str)[j]?=some (.str zs[j]):=by rw [Qp,Qt j1];rfl
  obtain ⟨u1,hu1,r1⟩:=rv.get k;obtain ⟨u2,hu2,r2⟩:=rv2.get k
  have w1:its.toArray[j]=u1:=by
   have:=(QJ.mp hu1).2;simpa using this
  have w2:its2.toArray[j]=u2:=by
   have:=(QJ.mp hu2).2;simpa using this
  rw [w1,w2];have:=Zg0 (A:=A.in1) (s:=s) r1 r2 rfl rfl;rw [show Xi (.str zs[j]) (.str zs[j])=true by simp [Xi]] at this;exact this
 rw [show (List.range its.toArray.size).all (fun _=>true)=true by simp] at g;exact g
theorem ZeT {pins:List (Addr×Obj)} {σ:St} {H:Hp} {s:Shared} {x y:V} {v u:Value} {zss:List (List Str)} (I:Inv X pins σ H s) (hu:X.A.units+64<cLine) (rx:RelV x v) (ry:RelV y u) (hx:VQ X.K H x zss) (hy:VQ X.K H y zss) :
  ∃a b,∃its its2:List Value,v=.ref a∧u=.ref b∧s.heap.IsList a its.toArray∧s.heap.IsList b its2.toArray∧its.toArray.size=its2.toArray.size∧∀(j:Nat) (h1:j<its.toArray.size) (h2:j<its2.toArray.size),SeqAt.EqAt X.A.in1 s its.toArray[j] its2.toArray[j] true:=by
 obtain ⟨a,as,rfl,ha,la,ra⟩:=hx;obtain ⟨b,bs,rfl,hb,lb,rb⟩:=hy;cases (show v=Value.ref a from rx);cases (show u=Value.ref b from ry);obtain ⟨its,rv,z,_⟩:=I.list ha;obtain ⟨its2,rv2,z2,_⟩:=I.list hb;have e1:=rv.length;have e2:=rv2.length;rw [Qd] at e1 e2;refine ⟨a,b,its,its2,rfl,rfl,z.isList,z2.isList,by simp only [Qx];omega,fun j h1 h2=>?_⟩;rw [Qx] at h1 h2;have k1:(as.map V.ref)[j]?=some (.ref as[j]):=by rw [Qp,Qt (by omega)];rfl
 have k2:(bs.map V.ref)[j]?=some (.ref bs[j]):=by rw [Qp,Qt (by omega)];rfl
 obtain ⟨u1,hu1,r1⟩:=rv.get k1;obtain ⟨u2,hu2,r2⟩:=rv2.get k2
 have w1:its.toArray[j]=u1:=by
  have:=(QJ.mp hu1).2;simpa using this
 have w2:its2.toArray[j]=u2:=by
  have:=(QJ.mp hu2).2;simpa using this
 rw [w1,w2];cases (show u1=Value.ref _ from r1);cases (show u2=Value.ref _ from r2);have kz:zss[j]?=some (zss[j]'(by omega)):=Qt _;exact ZhK I (by show X.A.units+1+8<cLine;omega) (ra j _ _ (Qt (by omega)) kz) (rb j _ _ (Qt (by omega)) kz)
theorem Zh7 (hu:X.A.units+64<cLine):Yg X (compareOp .Eq) (fun x y H Q=>∃zss,VQ X.K H x zss∧VQ X.K H y zss∧Q (.bl true) H):=by
 intro pins s σ H x y v u Q I rx ry ⟨zss,hx,hy,q⟩;obtain ⟨a,b,its,its2,rfl,rfl,z,z2,e,h⟩:=ZeT I hu rx ry hx hy;have g:=Ny (A:=X.A) (e:=fun _=>true) z z2 e (by omega) h;rw [show (List.range its.toArray.size).all (fun _=>true)=true by simp] at g;exact g _ _ _ _ ⟨.bl _,H,I,rfl,q⟩
theorem ZgJ (hu:X.A.units+64<cLine):Yg X (compareOp .NotEq) (fun x y H Q=>∃zss,VQ X.K H x zss∧VQ X.K H y zss∧Q (.bl false) H):=by
 intro pins s σ H x y v u Q I rx ry ⟨zss,hx,hy,q⟩;obtain ⟨a,b,its,its2,rfl,rfl,z,z2,e,h⟩:=ZeT I hu rx ry hx hy;have g:=SeqAt.RcNeAt.lists (A:=X.A) (e:=fun _=>true) z z2 e (by omega) h;rw [show (List.range its.toArray.size).all (fun _=>true)=true by simp] at g;exact g _ _ _ _ ⟨.bl _,H,I,rfl,q⟩
end
theorem Zld {J:It} {σ0:St} {g:TG} {te:TE} {Q:VK} {H1:Hp} (n:Nat) (P:Addr->Nat->Hp->V->Prop) (mono:∀i H H' v D,P D i H v->ZaP D H H'->P D i H' v) (hn:n<sizeLine) (σP:St->Prop) (h0:σP σ0)
  (go:∀i H,i<n->Same H1 H->J.go i H) (stop:∀H,Same H1 H->J.stop n H)
  (step:∀D i σ H x H',H D≠none->i<n->σP σ->Same H1 H->J.yld i H x H'->∀C:V->St->Hp->Prop,(∀y σ2 H6,σP σ2->Same H H6->P D i H6 y->C y σ2 H6)->g x σ H' fun σ2 H4=>te σ2 H4 fun y' H6=>C y' σ2 H6)
  (fin:∀D ys H',H1 D=none->Same H1 H'->H' D=some (.lst ys)->ys.length=n->(∀i y,ys[i]?=some y->P D i H' y)->Q (.ref D) H'):JZ J σ0 g Zdv te Q H1:=by
 intro D hD
 have keep:∀{H:Hp} {o:HO},Same H1 H->Same H1 (Zb H D o):=fun {H o} e b u q=>by
  rw [Ze (ZU q hD)];exact e b u q
 refine ⟨fun i m σ ys H=>i≤n∧m=n-i∧σP σ∧ys.length=i∧(∀j y,ys[j]?=some y->P D j H y)∧H D=some (.lst ys)∧Same H1 H,⟨_,QK _,rfl,h0,rfl,fun j y e=>by simp at e,Zf,keep (Same.refl H1)⟩,?_⟩;rintro i m σ ys H ⟨hi,rfl,p,hy,hP,hd,sm⟩;refine ⟨hd,?_⟩;by_cases lt:i<n
 ·refine .inr ⟨go i H lt sm,fun σ2 ys2 H3=>σP σ2∧ys2.length=i+1∧(∀j y,ys2[j]?=some y->P D j H3 y)∧H3 D=some (.lst ys2)∧Same H1 H3,fun σ2 ys2 H3 ⟨a,b,c,d,e⟩=>⟨_,by omega,lt,rfl,a,b,c,d,e⟩,fun x H3 y=>?_⟩;refine step D i σ H x H3 (by rw [hd];exact Option.some_ne_none _) lt p sm y (fun y' σ2 H6=>H6 D=some (.lst ys)∧ys.length<sizeLine∧σP σ2∧(ys++[y']).length=i+1∧(∀j z,(ys++[y'])[j]?=some z->P D j (Zb H6 D (.lst (ys++[y']))) z)∧Zb H6 D (.lst (ys++[y'])) D=some (.lst (ys++[y']))∧Same H1 (Zb H6 D (.lst (ys++[y'])))) fun y' σ2 H6 p2 s6 hp6=>?_;have hd6:=s6 _ _ hd;have bt:ZaP D H6 (Zb H6 D (.lst (ys++[y']))):=fun b u nb e=>by rw [Ze nb];exact e
  refine ⟨hd6,by omega,p2,by simp [hy],fun j z e=>?_,Zf,keep (sm.trans s6)⟩;by_cases jl:j<ys.length
  ·rw [Ge jl] at e;exact mono j H _ z D (hP j z e) (fun b u nb e=>bt b u nb (s6 b u e))
  ·have e0:j=i:=by
    have:=(QJ.mp e).1;simp at this;omega
   subst e0;rw [RQ (by omega),hy,Nat.sub_self] at e;cases (show y'=z by simpa using e);exact mono j H6 _ _ D hp6 bt
 ·have e:i=n:=by omega
  subst e;exact .inl ⟨stop H sm,fin D ys H hD sm hd hy hP⟩
end L2
set_option exponentiation.threshold 3000
seal L2.PSs L2.PS L2.PE L2.PT L2.PW L2.PA L2.PG L2.PI L2.PO
namespace K16
open PySem L2
noncomputable def ZR (i:Nat):Stmt:=PySem.Challenge.pw_heirbook_k16_whole_ways_put_together.main.body.getD i (.Pass ⟨0,0,0,0⟩)
noncomputable abbrev ZcH:Stmt:=ZR 19
noncomputable abbrev Zc3:Stmt:=ZR 22
noncomputable abbrev ZcI:Stmt:=ZR 23
noncomputable abbrev ZcC:Stmt:=ZR 24
noncomputable abbrev Zdi:Stmt:=ZR 25
noncomputable abbrev Zcu:Stmt:=ZR 26
noncomputable abbrev Zdu:Stmt:=ZR 28
noncomputable abbrev Zbt:Stmt:=ZR 29
noncomputable abbrev Zdp:Stmt:=ZR 30
noncomputable abbrev Zb0:Stmt:=ZR 31
noncomputable abbrev ZcY:Stmt:=ZR 32
noncomputable abbrev Zb4:Stmt:=ZR 33
noncomputable abbrev Zdf:Stmt:=ZR 34
noncomputable abbrev Zce:Stmt:=ZR 12
noncomputable abbrev Zdq:Stmt:=ZR 38
noncomputable abbrev ZcN:Stmt:=XG (ZR 39) 0
noncomputable abbrev Zds:Stmt:=XG (ZR 39) 8
noncomputable abbrev ZbY:Stmt:=XG (ZR 39) 11
noncomputable abbrev Zdt:Stmt:=XG (ZR 39) 12
noncomputable abbrev Zby:Stmt:=XG (ZR 39) 4
noncomputable abbrev Zc1:Stmt:=XG (ZR 39) 3
noncomputable abbrev Zc8:Stmt:=XG (ZR 39) 2
noncomputable abbrev Zdr:Stmt:=XG (ZR 39) 7
noncomputable abbrev ZdD:Stmt:=XG (ZR 39) 5
noncomputable abbrev Zc0:Stmt:=XG (ZR 39) 16
noncomputable abbrev Wx:Stmt:=XG (ZR 39) 14
noncomputable abbrev Zcd:Stmt:=XG (ZR 39) 6
noncomputable abbrev Zdl:Stmt:=XG (ZR 39) 1
noncomputable abbrev ZbE:Stmt:=ZR 13
noncomputable abbrev Zb3:Stmt:=ZR 15
noncomputable abbrev Zb9:Stmt:=ZR 16
noncomputable abbrev V6:Stmt:=ZR 17
noncomputable abbrev ZbO:Stmt:=ZR 41
noncomputable abbrev ZbD:Stmt:=ZR 42
noncomputable abbrev Zcr:Stmt:=ZR 43
noncomputable abbrev Zb1:Stmt:=ZR 44
noncomputable abbrev Zdw:Stmt:=ZR 45
noncomputable abbrev ZcX:Stmt:=ZR 46
noncomputable abbrev ZdO:Stmt:=ZR 47
noncomputable abbrev ZbI:Stmt:=ZR 48
noncomputable abbrev ZbA:Stmt:=ZR 49
noncomputable abbrev Zcb:Stmt:=ZR 50
noncomputable abbrev ZdL:Stmt:=ZR 51
noncomputable abbrev Zct:Stmt:=ZR 52
noncomputable abbrev ZbX:Stmt:=ZR 53
noncomputable abbrev ZbV:Stmt:=ZR 54
noncomputable abbrev ZdE:Stmt:=ZR 55
noncomputable abbrev ZcQ:Stmt:=ZR 56
set_option genInjectivity false
set_option genSizeOf false
structure Tx (K:W.Frag) (w:World) (mg:Str->Option Value) where
 c_Book:Addr
 Zba:Df K mg "is_whole" ZcH ["thing"]
 YU:Df K mg "is_name" Zc3 ["thing"]
 Xc:Df K mg "is_day" ZcI ["thing"]
 Wk:Df K mg "is_amount" ZcC ["thing"]
 Wy:Df K mg "is_sort" Zdi ["thing"]
 Wb:Df K mg "is_parent" Zcu ["thing"]
 Zbd:Df K mg "has_form" Zdu ["parts","checks"]
 Zae:Df K mg "is_entry" Zbt ["thing"]
 Zax:Df K mg "is_tie" Zdp ["entry"]
 Zat:Df K mg "named_in" Zb0 ["entry"]
 Zaj:Df K mg "day_of" ZcY ["entry"]
 ZaS:Df K mg "as_told" Zb4 ["entry"]
 Zar:Df K mg "key_of" Zdf ["entry"]
 Zac:Df K mg "is_letter" Zce ["thing"]
 ZaT:Df K mg "pair_of" Zdq ["one","other"]
 Vp:Dm K c_Book "__init__" "Book.__init__" ZcN ["self"]
 Y7:Dm K c_Book "birth_of" "Book.birth_of" Zds ["self","name"]
 W0:Dm K c_Book "sort_of" "Book.sort_of" ZbY ["self","name"]
 Xr:Dm K c_Book "born_on" "Book.born_on" Zdt ["self","name"]
 Vf:Dm K c_Book "parent_fits" "Book.parent_fits" Zby ["self","name","sort","day"]
 UQ:Dm K c_Book "fits" "Book.fits" Zc1 ["self","entry"]
 Uf:Dm K c_Book "refuse" "Book.refuse" Zc8 ["self","entry"]
 YX:Dm K c_Book "link" "Book.link" Zdr ["self","letter","begin","end"]
 Uw:Dm K c_Book "note_birth" "Book.note_birth" ZdD ["self","entry"]
 Vc:Dm K c_Book "step" "Book.step" Zc0 ["self","letter","name"]
 a_Book_stands:Addr
 fd_Book_stands:FuncData
 dt_Book_stands:Addr
 F_Book_stands:FunD K "stands" "Book.stands" Wx a_Book_stands fd_Book_stands (.ref dt_Book_stands)
 b_Book_stands:Binds K fd_Book_stands ["self","one","other","day"] [.none]
 UF:Dm K c_Book "note_tie" "Book.note_tie" Zcd ["self","entry"]
 WE:Dm K c_Book "put" "Book.put" Zdl ["self","entry"]
 ZaJ:Df K mg "is_test" ZbE ["thing"]
 Vq:Df K mg "led_by_step" Zb3 ["book","step","name"]
 VW:Df K mg "layers_of" Zb9 ["one","steps","lead"]
 U9:Df K mg "reach" V6 ["book","way","name"]
 Zah:Df K mg "_law_cell_at" ZbO ["_law_script","_law_k"]
 Zbm:Df K mg "_law_names" ZbD ["_law_cell"]
 Zaf:Df K mg "_law_day" Zcr ["_law_cell","_law_k","_law_way_here"]
 Zay:Df K mg "_law_birth" Zb1 ["_law_people","_law_names_here","_law_cell","_law_day_here"]
 J2:Df K mg "_law_deed" Zdw ["_law_people","_law_known","_law_cell","_law_kind"]
 Zbk:Df K mg "_law_entries" ZcX ["_law_script","_law_most"]
 Za9:Df K mg "_law_lead" ZdO ["_law_edges_here","_law_letter","_law_low","_law_high"]
 Zaz:Df K mg "_law_edges" ZbI ["_law_entries_here"]
 Zbo:Df K mg "_law_mixed" ZbA ["_law_cell","_law_k"]
 Za5:Df K mg "_law_way" Zcb ["_law_script","_law_many","_law_turn","_law_edges_here","_law_name"]
 Zan:Df K mg "_law_reach" ZdL ["_law_edges_here","_law_way_here","_law_name"]
 Zad:Df K mg "_law_alike" Zct ["_law_found","_law_due"]
 Zbf:Df K mg "_law_told" ZbX ["_law_book","_law_edges_here","_law_ways","_law_people"]
 Zbn:Df K mg "_law_own_lists" ZbV ["_law_book","_law_edges_here","_law_name"]
 Zab:Df K mg "_law_together" ZdE ["_law_book","_law_one","_law_other","_law_name"]
 Vs:Df K mg "law" ZcQ ["_law_script"]
 c_HeirError:Addr
 m_HeirError:mg "HeirError"=some (.ref c_HeirError)
 c_NoEntry:Addr
 m_NoEntry:mg "NoEntry"=some (.ref c_NoEntry)
 c_Full:Addr
 m_Full:mg "Full"=some (.ref c_Full)
 c_NoPerson:Addr
 m_NoPerson:mg "NoPerson"=some (.ref c_NoPerson)
 c_Twice:Addr
 m_Twice:mg "Twice"=some (.ref c_Twice)
 c_NoFit:Addr
 m_NoFit:mg "NoFit"=some (.ref c_NoFit)
 c_NoWay:Addr
 m_NoWay:mg "NoWay"=some (.ref c_NoWay)
 x_NoEntry:W.excIn K c_NoEntry XJ "ValueError.__new__"=true
 e_NoEntry:ExcK K c_NoEntry
 x_Full:W.excIn K c_Full XJ "ValueError.__new__"=true
 e_Full:ExcK K c_Full
 x_NoPerson:W.excIn K c_NoPerson XJ "ValueError.__new__"=true
 e_NoPerson:ExcK K c_NoPerson
 x_Twice:W.excIn K c_Twice XJ "ValueError.__new__"=true
 e_Twice:ExcK K c_Twice
 x_NoFit:W.excIn K c_NoFit XJ "ValueError.__new__"=true
 e_NoFit:ExcK K c_NoFit
 x_NoWay:W.excIn K c_NoWay XJ "ValueError.__new__"=true
 e_NoWay:ExcK K c_NoWay
 m_Book:mg "Book"=some (.ref c_Book)
 cl_Book:Cls K c_Book
 mk_Book:Mk K c_Book Vp.a
 na_Book_kept:NoAttr K c_Book "kept"
 na_Book_births:NoAttr K c_Book "births"
 na_Book_links:NoAttr K c_Book "links"
 na_Book_ties:NoAttr K c_Book "ties"
 na_Book_sums:NoAttr K c_Book "sums"
 me_Book_stands:Meth K c_Book "stands" a_Book_stands
 n_abs:mg "abs"=none
 n_all:mg "all"=none
 n_bool:mg "bool"=none
 n_int:mg "int"=none
 n_isinstance:mg "isinstance"=none
 n_len:mg "len"=none
 n_list:mg "list"=none
 n_max:mg "max"=none
 n_min:mg "min"=none
 n_range:mg "range"=none
 n_sorted:mg "sorted"=none
 n_str:mg "str"=none
 n_tuple:mg "tuple"=none
 n_zip:mg "zip"=none
 k_int_int:W.kitOne K (.type "int") (.type "int")=some true
 k_int_str:W.kitOne K (.type "int") (.type "str")=some false
 k_int_tuple:W.kitOne K (.type "int") (.type "tuple")=some false
 k_int_bool:W.kitOne K (.type "int") (.type "bool")=some false
 k_str_int:W.kitOne K (.type "str") (.type "int")=some false
 k_str_str:W.kitOne K (.type "str") (.type "str")=some true
 k_str_tuple:W.kitOne K (.type "str") (.type "tuple")=some false
 k_bool_int:W.kitOne K (.type "bool") (.type "int")=some true
 k_bool_str:W.kitOne K (.type "bool") (.type "str")=some false
 k_bool_tuple:W.kitOne K (.type "bool") (.type "tuple")=some false
 k_bool_bool:W.kitOne K (.type "bool") (.type "bool")=some true
 k_NoneType_int:W.kitOne K (.type "NoneType") (.type "int")=some false
 k_NoneType_str:W.kitOne K (.type "NoneType") (.type "str")=some false
 k_NoneType_tuple:W.kitOne K (.type "NoneType") (.type "tuple")=some false
 k_tuple_int:W.kitOne K (.type "tuple") (.type "int")=some false
 k_tuple_str:W.kitOne K (.type "tuple") (.type "str")=some false
 k_tuple_tuple:W.kitOne K (.type "tuple") (.type "tuple")=some true
 k_list_int:W.kitOne K (.type "list") (.type "int")=some false
 k_list_str:W.kitOne K (.type "list") (.type "str")=some false
 k_list_tuple:W.kitOne K (.type "list") (.type "tuple")=some false
 k_dict_int:W.kitOne K (.type "dict") (.type "int")=some false
 k_dict_str:W.kitOne K (.type "dict") (.type "str")=some false
 k_dict_tuple:W.kitOne K (.type "dict") (.type "tuple")=some false
 kl_list:W.kitOne K (.type "list") (.type "list")=some true
 kx_HeirError:W.kitOne K (.ref c_NoPerson) (.ref c_HeirError)=some true
 kx_ValueError:W.kitOne K (.ref c_NoPerson) (.type "ValueError")=some true
 aF:Addr
 m_FORMS:mg "FORMS"=some (.ref aF)
 tkL:Tok
 m_LETTERS:mg "LETTERS"=some (.str "abcdefghijklmnopqrstuvwxyz" tkL)
 p0:Addr
 p1:Addr
 p2:Addr
 p3:Addr
 p4:Addr
 p5:Addr
 g0:Addr
 g1:Addr
 g2:Addr
 g3:Addr
 g4:Addr
 g5:Addr
 sF:∀H,SqT K H aF [.ref p0,.ref p1,.ref p2,.ref p3,.ref p4,.ref p5]
 sp0:∀H,SqT K H p0 [.str "born",.ref g0]
 sp1:∀H,SqT K H p1 [.str "taken",.ref g1]
 sp2:∀H,SqT K H p2 [.str "union",.ref g2]
 sp3:∀H,SqT K H p3 [.str "parted",.ref g3]
 sp4:∀H,SqT K H p4 [.str "dead",.ref g4]
 sp5:∀H,SqT K H p5 [.str "given",.ref g5]
 sg0:∀H,SqT K H g0 [.ref YU.a,.ref Wy.a,.ref Xc.a,.ref Wb.a,.ref Wb.a]
 sg1:∀H,SqT K H g1 [.ref YU.a,.ref YU.a,.ref Xc.a]
 sg2:∀H,SqT K H g2 [.ref YU.a,.ref YU.a,.ref Xc.a]
 sg3:∀H,SqT K H g3 [.ref YU.a,.ref YU.a,.ref Xc.a]
 sg4:∀H,SqT K H g4 [.ref YU.a,.ref Xc.a]
 sg5:∀H,SqT K H g5 [.ref YU.a,.ref YU.a,.ref Wk.a,.ref Xc.a]
 a_STEP_LETTERS:Addr
 m_STEP_LETTERS:mg "STEP_LETTERS"=some (.ref a_STEP_LETTERS)
 Zed:∀H,SqT K H a_STEP_LETTERS [.str "F",.str "M",.str "T",.str "f",.str "m",.str "t",.str "S"]
 a_TESTS:Addr
 m_TESTS:mg "TESTS"=some (.ref a_TESTS)
 ZdX:∀H,SqT K H a_TESTS [.str "he",.str "she"]
 t_MOST_ENTRIES:Tok
 m_MOST_ENTRIES:mg "MOST_ENTRIES"=some (.int 400 t_MOST_ENTRIES)
 t_MOST_PEOPLE:Tok
 m_MOST_PEOPLE:mg "MOST_PEOPLE"=some (.int 60 t_MOST_PEOPLE)
 cc:Addr
 tb:Addr
 hcc:Zey K U9.a cc
inductive Vk where
 |int (i:Int)|str (x:Str)|bl|non|tup|lst|dct
noncomputable def Vk.ty:Vk->Value
 |.int _=>.type "int"
 |.str _=>.type "str"
 |.bl=>.type "bool"
 |.non=>.type "NoneType"
 |.tup=>.type "tuple"
 |.lst=>.type "list"
 |.dct=>.type "dict"
noncomputable def Vk.isI:Vk->Bool
 |.int _=>true
 |_=>false
noncomputable def Vk.isB:Vk->Bool
 |.bl=>true
 |_=>false
noncomputable def Vk.isS:Vk->Bool
 |.str _=>true
 |_=>false
noncomputable def Vk.isT:Vk->Bool
 |.tup=>true
 |_=>false
def Vw (K:W.Frag) (H:Hp) (v:V):Vk->Prop
 |.int i=>v=.int i
 |.str x=>v=.str x∧x.length≤100
 |k=>Kd K H v k.ty
section
variable {K:W.Frag} {H H':Hp} {v:V} {t:Vk}
theorem Vw.kd (h:Vw K H v t):Kd K H v t.ty:=by
 cases t with
 |int i=>cases (show v=.int i from h);exact .of (.int i)
 |str x=>cases (show v=.str x from h.1);exact .of (.str x)
 |_=>exact h
theorem Vw.mono (h:Vw K H v t) (e:Same H H'):Vw K H' v t:=by
 cases t with
 |int i=>exact h
 |str x=>exact h
 |_=>exact e.kd h
end
def Vws (K:W.Frag) (H:Hp):List V->List Vk->Prop
 |[],[]=>True
 |x::xs,t::ts=>Vw K H x t∧Vws K H xs ts
 |_,_=>False
section
variable {K:W.Frag} {H H':Hp}
theorem Vws.length:∀{xs:List V} {ts:List Vk},Vws K H xs ts->xs.length=ts.length
 |[],[],_=>rfl
 |x::xs,t::ts,h=>by rw [QM,QM,Vws.length h.2]
theorem Vws.mono (e:Same H H'):∀{xs:List V} {ts:List Vk},Vws K H xs ts->Vws K H' xs ts
 |[],[],_=>True.intro
 |x::xs,t::ts,h=>⟨h.1.mono e,Vws.mono e h.2⟩
theorem Vws.get:∀{xs:List V} {ts:List Vk} {i:Nat} {t:Vk},Vws K H xs ts->ts[i]?=some t->∃x,xs[i]?=some x∧Vw K H x t
 |[],[],_,_,_,e=>by simp at e
 |x::xs,t::ts,0,t',h,e=>by
  cases (show some t=some t' by simpa using e);exact ⟨x,rfl,h.1⟩
 |x::xs,t::ts,i+1,t',h,e=>by
  obtain ⟨y,e1,e2⟩:=Vws.get (i:=i) h.2 (by simpa using e);exact ⟨y,by simpa using e1,e2⟩
end
def Tv (K:W.Frag) (H:Hp) (v:V) (ts:List Vk):Prop:=∃a xs,v=.ref a∧SqT K H a xs∧Vws K H xs ts
noncomputable abbrev JA:Str:="abcdefghijklmnopqrstuvwxyz"
noncomputable def Wi (c:Nat):Bool:=!(Builtin.Str.occurrences JA ⟨#[c]⟩ 0 JA.length 1).isEmpty
noncomputable def WH:Vk->Bool
 |.str x=>decide (1≤x.length)&&decide (x.length≤8)&&x.cps.toList.all Wi
 |_=>false
noncomputable def ZbW:Vk->Bool
 |.int i=>decide ((if i<0 then -i else i)≤10 ^ 18)
 |_=>false
noncomputable def ZcP:Vk->Bool
 |.int i=>decide (1≤i)&&decide (i≤10 ^ 18)
 |_=>false
noncomputable def Vn:Vk->Bool
 |.str x=>decide (x="he")||decide (x="she")||decide (x="")
 |_=>false
noncomputable def Jb (t:Vk):Bool:=WH t||match t with
 |.str x=>decide (x="")
 |_=>false
inductive Chk where
 |name|sort|day|amount|parent
noncomputable def V0:Chk->Vk->Bool
 |.name=>WH
 |.sort=>Vn
 |.day=>ZbW
 |.amount=>ZcP
 |.parent=>Jb
noncomputable def Wl:List (Str×List Chk):=[("born",[.name,.sort,.day,.parent,.parent]),("taken",[.name,.name,.day]),("union",[.name,.name,.day]),("parted",[.name,.name,.day]),("dead",[.name,.day]),("given",[.name,.name,.amount,.day])]
noncomputable def WJ (w:Str):Option (List Chk):=(Wl.find? fun p=>decide (w=p.1)).map (·.2)
noncomputable def ZT:List Chk->List Vk->List Bool
 |c::cs,t::ts=>V0 c t::ZT cs ts
 |_,_=>[]
noncomputable def XA (cs:List Chk) (ts:List Vk):Bool:=decide (ts.length=cs.length)&&(ZT cs ts).all id
noncomputable def Ve:List Vk->Bool
 |.str w::ts=>((WJ w).map fun cs=>XA cs ts).getD false
 |_=>false
theorem Jv (w:Str) (ts:List Vk):Ve (.str w::ts)=((WJ w).map fun cs=>XA cs ts).getD false:=rfl
structure Nm (x:Str):Prop where
 lo:1≤x.length
 hi:x.length≤8
 all:x.cps.toList.all Wi=true
theorem Nm.ok {x:Str} (h:Nm x):WH (.str x)=true:=by
 show (decide (1≤x.length)&&decide (x.length≤8)&&x.cps.toList.all Wi)=true;rw [Qo h.lo,Qo h.hi,h.all];rfl
section
variable {K:W.Frag} {mg:Str->Option Value}
noncomputable def Tx.ad (T:Tx K w mg):Chk->Addr
 |.name=>T.YU.a
 |.sort=>T.Wy.a
 |.day=>T.Xc.a
 |.amount=>T.Wk.a
 |.parent=>T.Wb.a
theorem kI (T:Tx K w mg):∀t:Vk,W.kitOne K t.ty (.type "int")=some (t.isI||t.isB)
 |.int _=>T.k_int_int
 |.str _=>T.k_str_int
 |.bl=>T.k_bool_int
 |.non=>T.k_NoneType_int
 |.tup=>T.k_tuple_int
 |.lst=>T.k_list_int
 |.dct=>T.k_dict_int
theorem kS (T:Tx K w mg):∀t:Vk,W.kitOne K t.ty (.type "str")=some t.isS
 |.int _=>T.k_int_str
 |.str _=>T.k_str_str
 |.bl=>T.k_bool_str
 |.non=>T.k_NoneType_str
 |.tup=>T.k_tuple_str
 |.lst=>T.k_list_str
 |.dct=>T.k_dict_str
theorem kT (T:Tx K w mg):∀t:Vk,W.kitOne K t.ty (.type "tuple")=some t.isT
 |.int _=>T.k_int_tuple
 |.str _=>T.k_str_tuple
 |.bl=>T.k_bool_tuple
 |.non=>T.k_NoneType_tuple
 |.tup=>T.k_tuple_tuple
 |.lst=>T.k_list_tuple
 |.dct=>T.k_dict_tuple
end
theorem Zff {X:Cx} {N:List Str} {sc:Scope} {L:List (Str×NameKind)} {ns:St} (hk:sc.kind=.function) (hn:∀x∈sc.names,x.2=.local->sc.names.lookup x.1=some .local) (hc:∀y∈sc.names,y.2≠.cell)
  (clos:closureFor sc X.env=pure []) (e:(relabel sc X.env).names=L) (hL:∀y∈L,y.2≠.cell∧y.2≠.free) (hl:ns.length=N.length) (hs:∀o∈ns,o=none):CompSc X N sc [] (fun _=>ns):=by
 have no:∀(x:Str),¬((relabel sc X.env).names.lookup x=some .cell∨(relabel sc X.env).names.lookup x=some .free):=fun x h=>by
  rw [e] at h
  have lk:∀(M:List (Str×NameKind)) (k:NameKind),M.lookup x=some k->∃y∈M,y.2=k:=fun M k=>by
   induction M with
   |nil=>intro h;cases h
   |cons p r ih =>
    intro h;rw [GO] at h;split at h
    ·exact ⟨p,QD ..,Ql h⟩
    ·obtain ⟨y,hy,q⟩:=ih h;exact ⟨y,QE _ hy,q⟩
  rcases h with h|h
  ·obtain ⟨y,hy,q⟩:=lk _ _ h;exact (hL y hy).1 q
  ·obtain ⟨y,hy,q⟩:=lk _ _ h;exact (hL y hy).2 q
 refine ⟨hk,hn,hc,clos,(fun x c (h:([]:List (Str×Addr)).lookup x=some c)=>by cases h),fun x h=>absurd h (no x),fun _=>hl,fun σ i x v e1 e2=>?_⟩;have:=hs _ (QB e2);cases this
theorem JF:(["sign"]:List Str).Nodup:=by decide +kernel
theorem nd2:(["check","part"]:List Str).Nodup:=by decide +kernel
theorem Zhr (z:Str):XX (.str z) [.str "he",.str "she",.str ""]=Vn (.str z):=by
 unfold XX Vn;rw [Rk];simp only [Rh,List.any_nil,Xi,Bool.or_false,RV,Ru,Gr];constructor
 ·rintro (h|h|h)
  ·exact .inl (.inl h.symm)
  ·exact .inl (.inr h.symm)
  ·exact .inr h.symm
 ·rintro ((h|h)|h)
  ·exact .inl h.symm
  ·exact .inr (.inl h.symm)
  ·exact .inr (.inr h.symm)
theorem ZdG (x:Str):WH (.str x)=(decide (1≤x.length)&&decide (x.length≤8)&&x.cps.toList.all Wi):=rfl
theorem ZlG (i:Int):ZcP (.int i)=(decide (1≤i)&&decide (i≤10 ^ 18)):=rfl
theorem ZeW:∀{cs:List Chk} {ts:List Vk},ts.length=cs.length->(ZT cs ts).length=cs.length
 |[],[],_=>rfl
 |c::cs,t::ts,h=>by
  show (ZT cs ts).length+1=cs.length+1;rw [ZeW (by simpa using h)]
theorem ZnI:∀{cs:List Chk} {ts:List Vk} {i:Nat} {y:V},ts.length=cs.length->((ZT cs ts).map V.bl)[i]?=some y->∃c t,cs[i]?=some c∧ts[i]?=some t∧y=.bl (V0 c t):=by
 intro cs
 induction cs with
 |nil =>
  intro ts i y h e;cases ts with
  |nil=>simp [ZT] at e
  |cons t ts=>simp at h
 |cons c cs ih =>
  intro ts i y h e;cases ts with
  |nil=>simp at h
  |cons t ts =>
   cases i with
   |zero=>exact ⟨c,t,rfl,rfl,by simpa [ZT] using e.symm⟩
   |succ i =>
    obtain ⟨c',t',e1,e2,e3⟩:=ih (ts:=ts) (i:=i) (y:=y) (by simpa using h) (by simpa [ZT] using e);exact ⟨c',t',by simpa using e1,by simpa using e2,e3⟩
theorem ZeX {α:Type} {f:α->Bool}:∀{l:List α} {i:Nat} {p:α},l[i]?=some p->(∀j,j<i->∀p',l[j]?=some p'->f p'=false)->f p=true->l.find? f=some p
 |x::l,0,p,e,_,h=>by
  have e':x=p:=by simpa using e
  subst e';rw [Rw,h]
 |x::l,i+1,p,e,b,h=>by
  rw [Rw,b 0 (by omega) x rfl];exact ZeX (l:=l) (i:=i) (by simpa using e) (fun j hj p' e'=>b (j+1) (by omega) p' (by simpa using e')) h
theorem ZlA {w:Str} {i:Nat} {p:Str×List Chk} (e:Wl[i]?=some p) (b:∀j,j<i->∀p',Wl[j]?=some p'->w≠p'.1) (h:w=p.1):WJ w=some p.2:=by
 unfold WJ;rw [ZeX e (fun j hj p' e'=>Qk (b j hj p' e')) (Qo h)];rfl
theorem Zkj {w:Str} (b:∀j,j<6->∀p',Wl[j]?=some p'->w≠p'.1):WJ w=none:=by
 unfold WJ;rw [GW.mpr]
 ·rfl
 ·intro p hp;obtain ⟨j,hj,e⟩:=R7 hp;have:=b j hj p (by rw [←e];exact Qt hj);simpa using this
theorem Zkl:∀p∈Wl,p.2.length≤10:=by decide +kernel
theorem ZkK {K:W.Frag} {mg:Str->Option Value} (T:Tx K w mg) {i:Nat} {p:Str×List Chk} (e:Wl[i]?=some p) :
  ∃P G,[V.ref T.p0,.ref T.p1,.ref T.p2,.ref T.p3,.ref T.p4,.ref T.p5][i]?=some (.ref P)∧(∀H,SqT K H P [.str p.1,.ref G])∧∀H,SqT K H G (p.2.map fun c=>.ref (T.ad c)):=by
 match i,e with
 |0,e=>cases e;exact ⟨_,_,rfl,T.sp0,T.sg0⟩
 |1,e=>cases e;exact ⟨_,_,rfl,T.sp1,T.sg1⟩
 |2,e=>cases e;exact ⟨_,_,rfl,T.sp2,T.sg2⟩
 |3,e=>cases e;exact ⟨_,_,rfl,T.sp3,T.sg3⟩
 |4,e=>cases e;exact ⟨_,_,rfl,T.sp4,T.sg4⟩
 |5,e=>cases e;exact ⟨_,_,rfl,T.sp5,T.sg5⟩
 |n+6,e=>cases e
theorem Znh (x:V) (xs:List V):Xm (x::xs) (some 1) none=xs:=by
 unfold Xm
 have e:HT.sIx (x::xs).length 0 (some 1)=1:=by
  show HT.sIx (x::xs).length 0 (some ((1:Nat):Int))=1;rw [HT.sIx_nat,QM];omega
 rw [e];show (xs.take ((x::xs).length-1))=xs;simp
theorem few {n:Nat} (h:Nat.ble n 1000=true):n≤sizeLine:=Q1 (Zw (QF h))
theorem Yb {b:Bool} {A B:Prop} (e:b=true) (h:A):if b=true then A else B:=by rw [Qc e];exact h
theorem Zt {b:Bool} {A B:Prop} (e:b=false) (h:B):if b=true then A else B:=by rw [Qa (by rw [e];decide)];exact h
theorem YB {b:Bool} {A B:Prop} (h1:b=true->A) (h2:b=false->B):if b=true then A else B:=by
 cases b with
 |true=>exact Z4 (h1 rfl)
 |false=>exact ZY (h2 rfl)
section
variable {K:W.Frag} {H:Hp} {xs ys:List V} {ts:List Vk} {a b:Addr} {Q:VK}
theorem Jw {lo hi:Option Int} (ha:SqT K H a xs) (hn:¬(HT.sIx xs.length 0 lo=0∧HT.sIx xs.length xs.length hi=xs.length)) (h:∀H' p,Same H H'->SqT K H' p (Xm xs lo hi)->Q (.ref p) H'):ZeR K (.ref a) lo hi H Q :=
 ⟨a,xs,rfl,ha,hn,fun p np=>h _ p (Zj np) (.of Zf)⟩
end
theorem Zer {x:V} {xs:List V}:∃y,Yi (x::xs) (-1)=some y∧(x::xs)[xs.length]?=some y:=by
 obtain ⟨ys,y,e⟩:∃ys y,x::xs=ys++[y]:=⟨(x::xs).dropLast,(x::xs).getLast (by simp),(NA (by simp)).symm⟩;refine ⟨y,by rw [e];exact Ziu ys y,?_⟩
 have hl:xs.length=ys.length:=by
  have:=Qu List.length e;simp at this;omega
 rw [e,hl];simp
theorem Xl {x y:Str}:decide (V.str x=V.str y)=decide (x=y):=by
 rw [Rk];simp
inductive Ent where
 |born (n s:Str) (d:Int) (f m:Str)
 |taken (c t:Str) (d:Int)
 |union (a b:Str) (d:Int)
 |parted (a b:Str) (d:Int)
 |dead (n:Str) (d:Int)
 |given (g t:Str) (a d:Int)
noncomputable def Ent.row:Ent->List Zi
 |.born n s d f m=>[.inr "born",.inr n,.inr s,.inl d,.inr f,.inr m]
 |.taken c t d=>[.inr "taken",.inr c,.inr t,.inl d]
 |.union a b d=>[.inr "union",.inr a,.inr b,.inl d]
 |.parted a b d=>[.inr "parted",.inr a,.inr b,.inl d]
 |.dead n d=>[.inr "dead",.inr n,.inl d]
 |.given g t a d=>[.inr "given",.inr g,.inr t,.inl a,.inl d]
noncomputable def Ent.tie:Ent->Bool
 |.union ..=>true
 |.parted ..=>true
 |_=>false
noncomputable def Ent.named:Ent->List Str
 |.born _ _ _ f m=>[f,m].filter fun x:Str=>decide (x≠"")
 |.taken c t _=>[c,t]
 |.union a b _=>[a,b]
 |.parted a b _=>[a,b]
 |.dead n _=>[n]
 |.given g t _ _=>[g,t]
noncomputable def Ent.day:Ent->Int
 |.born _ _ d _ _=>d
 |.taken _ _ d=>d
 |.union _ _ d=>d
 |.parted _ _ d=>d
 |.dead _ d=>d
 |.given _ _ _ d=>d
def EntAt (K:W.Frag) (H:Hp) (v:V) (e:Ent):Prop:=∃a,v=.ref a∧SqT K H a (e.row.map kV)
theorem EntAt.mono {K:W.Frag} {H H':Hp} {v:V} {e:Ent} (h:EntAt K H v e) (s:Same H H'):EntAt K H' v e:=by
 obtain ⟨a,rfl,q⟩:=h;exact ⟨a,rfl,s.sqt q⟩
theorem Zh {r:List V} {j:Nat} {x:V} (h:r[j]?=some x):Yi r (j:Int)=some x:=Xq h
noncomputable def Us (x:Str):Option V:=if x="" then none else some (.str x)
theorem ZfL:∀l:List Str,(l.map Us).filterMap id=(l.filter fun x:Str=>decide (x≠"")).map V.str
 |[]=>rfl
 |x::r=>by
  have ih:=ZfL r;by_cases h:x=""
  ·subst h;simp only [Qr,QL,Ry];simpa [Us] using ih
  ·simp only [Qr,QL,Ry];simpa [Us,h] using ih
theorem ZK {H H1:Hp} {D:Addr} (s:Same H H1) (n:H1 D=none):H D=none:=by
 cases e:H D with
 |none=>rfl
 |some o=>rw [s D o e] at n;cases n
noncomputable def Ent.key:Ent->List Zi
 |.born n _ _ _ _=>[.inr "born",.inr n]
 |.taken c t _=>[.inr "taken",.inr c,.inr t]
 |.union a b d=>[.inr "tie",.inr a,.inr b,.inl d]
 |.parted a b d=>[.inr "tie",.inr a,.inr b,.inl d]
 |.dead n _=>[.inr "dead",.inr n]
 |.given g t _ d=>[.inr "given",.inr g,.inr t,.inl d]
noncomputable def Ent.bornName:Ent->Option Str
 |.born n _ _ _ _=>some n
 |_=>none
structure Bk where
 kept:List (Ent×Addr)
 links:List ((Str×Str)×Addr×List Str)
 ties:List ((Str×Str)×Addr×List (Int×Str))
 sums:List ((Str×Str)×Int)
noncomputable def Zq (p:Str×Str):List Zi:=[.inr p.1,.inr p.2]
noncomputable def Bk.keptD (B:Bk):List (List Zi×V):=B.kept.map fun p=>(p.1.key,.ref p.2)
noncomputable def Bk.bornD (l:List (Ent×Addr)):List (Zi×V):=l.filterMap fun p=>p.1.bornName.map fun n=>(.inr n,.ref p.2)
noncomputable def Bk.linksD (B:Bk):List (List Zi×V):=B.links.map fun q=>(Zq q.1,.ref q.2.1)
noncomputable def Bk.tiesD (B:Bk):List (List Zi×V):=B.ties.map fun q=>(Zq q.1,.ref q.2.1)
noncomputable def Bk.sumsD (B:Bk):List (List Zi×V):=B.sums.map fun q=>(Zq q.1,.int q.2)
noncomputable def WY (k bi li ti su:Addr):List (Str×V):=[("kept",.ref k),("births",.ref bi),("links",.ref li),("ties",.ref ti),("sums",.ref su)]
structure BkAt (K:W.Frag) (C:Addr) (H:Hp) (b dx k bi li ti su:Addr) (B:Bk):Prop where
 ob:H b=some (.ins C dx (WY k bi li ti su))
 ap:[k,li,ti,su].Nodup
 at':(bi::B.ties.map (·.2.1)).Nodup
 ke:H k=some (.dT B.keptD)
 bi:H bi=some (.dK (Bk.bornD B.kept))
 li:H li=some (.dT B.linksD)
 ti:H ti=some (.dT B.tiesD)
 su:H su=some (.dT B.sumsD)
 en:∀p∈B.kept,SqT K H p.2 (p.1.row.map kV)
 ll:∀q∈B.links,H q.2.1=some (.lst (q.2.2.map V.str))
 tt:∀q∈B.ties,H q.2.1=some (.dK (q.2.2.map fun r=>(.inl r.1,.str r.2)))
theorem BkAt.mono {K:W.Frag} {C:Addr} {H H':Hp} {b dx k bi li ti su:Addr} {B:Bk} (h:BkAt K C H b dx k bi li ti su B) (s:Same H H'):BkAt K C H' b dx k bi li ti su B :=
 ⟨s _ _ h.ob,h.ap,h.at',s _ _ h.ke,s _ _ h.bi,s _ _ h.li,s _ _ h.ti,s _ _ h.su,fun p hp=>s.sqt (h.en p hp),fun q hq=>s _ _ (h.ll q hq),fun q hq=>s _ _ (h.tt q hq)⟩
def BkHas (K:W.Frag) (C:Addr) (H:Hp) (v:V) (B:Bk):Prop:=∃b dx k bi li ti su,v=.ref b∧BkAt K C H b dx k bi li ti su B
theorem BkHas.mono {K:W.Frag} {C:Addr} {H H':Hp} {v:V} {B:Bk} (h:BkHas K C H v B) (s:Same H H'):BkHas K C H' v B:=by
 obtain ⟨b,dx,k,bi,li,ti,su,e,h⟩:=h;exact ⟨b,dx,k,bi,li,ti,su,e,h.mono s⟩
noncomputable def Z6 (n:Str):List (Ent×Addr)->Option (Ent×Addr)
 |[]=>none
 |p::r=>if p.1.bornName=some n then some p else Z6 n r
theorem Zai {n:Str}:∀{l:List (Ent×Addr)} {p:Ent×Addr},Z6 n l=some p->p∈l∧p.1.bornName=some n
 |[],_,h=>by cases h
 |q::r,p,h=>by
  unfold Z6 at h;split at h
  ·cases h;exact ⟨QD ..,by assumption⟩
  ·obtain ⟨h1,h2⟩:=Zai h;exact ⟨QE _ h1,h2⟩
theorem Zbx (n:Str):∀l:List (Ent×Addr),ZN (Bk.bornD l) (.inr n:Zi)=(Z6 n l).map fun p=>.ref p.2
 |[]=>rfl
 |p::r=>by
  have ih:=Zbx n r;unfold Bk.bornD Z6;rw [QL];cases h:p.1.bornName with
  |none =>
   simp only [Option.map_none];rw [Qa (by simp)];exact ih
  |some x =>
   simp only [G7];by_cases e:x=n
   ·subst e;rw [XT rfl,Qc rfl];rfl
   ·rw [X6 (fun q=>e (Rt q)),Qa (fun q=>e (Ql q))];exact ih
theorem ZbC {k bi li ti su:Addr}:(WY k bi li ti su).lookup ("kept" : Str)=some (.ref k):=rfl
theorem ZaL {k bi li ti su:Addr}:(WY k bi li ti su).lookup ("births" : Str)=some (.ref bi):=rfl
theorem ZaK {k bi li ti su:Addr}:(WY k bi li ti su).lookup ("links" : Str)=some (.ref li):=rfl
theorem Zd2 {k bi li ti su:Addr}:(WY k bi li ti su).lookup ("ties" : Str)=some (.ref ti):=rfl
theorem Zg4 {k bi li ti su:Addr}:(WY k bi li ti su).lookup ("sums" : Str)=some (.ref su):=rfl
noncomputable def Zag (B:Bk) (n:Str):Option (Str×Int):=match Z6 n B.kept with
 |some (.born _ s d _ _,_)=>some (s,d)
 |_=>none
noncomputable def Wa (B:Bk) (n:Str):Str:=((Zag B n).map (·.1)).getD ""
noncomputable def Yk (B:Bk) (n:Str):Int:=((Zag B n).map (·.2)).getD 0
theorem ZaE {B:Bk} {n n' s f m:Str} {d:Int} {p:Ent×Addr} (h:Z6 n B.kept=some p) (e:p.1=.born n' s d f m):Wa B n=s:=by
 obtain ⟨e',a⟩:=p;cases e;unfold Wa Zag;rw [h];rfl
theorem JP {B:Bk} {n n' s f m:Str} {d:Int} {p:Ent×Addr} (h:Z6 n B.kept=some p) (e:p.1=.born n' s d f m):Yk B n=d:=by
 obtain ⟨e',a⟩:=p;cases e;unfold Yk Zag;rw [h];rfl
noncomputable def XD (B:Bk) (n s:Str) (d:Int):Bool:=decide (n="")||(decide (Wa B n=s)&&decide (Yk B n<d))
def Known (B:Bk) (n:Str):Prop:=Z6 n B.kept≠none
noncomputable def Wd (B:Bk) (e:Ent):Bool:=match e with
 |.born _ _ d f m=>XD B f "he" d&&XD B m "she" d
 |.taken c t d=>decide (c≠t)&&decide (Yk B t<Yk B c)&&e.named.all fun n=>decide (Yk B n≤d)
 |.dead n d=>decide (Yk B n≤d)
 |.union a b d=>decide (a≠b)&&e.named.all fun n=>decide (Yk B n≤d)
 |.parted a b d=>decide (a≠b)&&e.named.all fun n=>decide (Yk B n≤d)
 |.given a b _ d=>decide (a≠b)&&e.named.all fun n=>decide (Yk B n≤d)
theorem YN {a b:TS} {D:Ends} {σ:St} {H:Hp} (J:St->Hp->Prop) (h1:∀nx,(∀σ H,J σ H->nx σ H)->a { D with nx:=nx } σ H) (h2:∀σ H,J σ H->b D σ H):ZbB a b D σ H:=h1 (b D) h2
noncomputable def Ent.isBorn:Ent->Bool
 |.born ..=>true
 |_=>false
noncomputable def Ent.same:Ent->Bool
 |.taken c t _=>decide (c=t)
 |.union a b _=>decide (a=b)
 |.parted a b _=>decide (a=b)
 |.given a b _ _=>decide (a=b)
 |_=>false
noncomputable def Ent.early (B:Bk):Ent->Bool
 |.taken c t _=>decide (Yk B c≤Yk B t)
 |_=>false
theorem Zbp {B:Bk} {e:Ent} (h:e.isBorn=false):Wd B e=(!e.same&&!e.early B&&e.named.all fun n=>decide (Yk B n≤e.day)):=by
 cases e with
 |born=>cases h
 |taken c t d =>
  unfold Wd Ent.same Ent.early;have h1:decide (c≠t)=!decide (c=t):=by simp
  have h2:decide (Yk B t<Yk B c)=!decide (Yk B c≤Yk B t):=by
   rw [Rk];simp
  simp only [h1,h2];rfl
 |dead n d =>
  simp [Wd,Ent.same,Ent.early,Ent.named,Ent.day];rfl
 |_ =>
  simp [Wd,Ent.same,Ent.early,Ent.day];rfl
theorem ZmD {k bi li ti su:Addr}:ZF "sums" (.ref su) (ZF "ties" (.ref ti) (ZF "links" (.ref li) (ZF "births" (.ref bi) (ZF "kept" (.ref k) []))))=WY k bi li ti su:=by
 rfl
noncomputable def Y8:Bk:=⟨[],[],[],[]⟩
theorem U0 {H:Hp} {b dx C p:Addr} {fs:List (Str×V)} (f:Str) (o:HO) (h:H b=some (.ins C dx fs)) (n:H p=none) :
  (Zb (Zb H p o) b (.ins C dx (ZF f (.ref p) fs))) b=some (.ins C dx (ZF f (.ref p) fs))∧(Zb (Zb H p o) b (.ins C dx (ZF f (.ref p) fs))) p=some o ∧
  (∀c u,H c=some u->c≠b->(Zb (Zb H p o) b (.ins C dx (ZF f (.ref p) fs))) c=some u)∧∀c,(Zb (Zb H p o) b (.ins C dx (ZF f (.ref p) fs))) c=none->H c=none:=by
 have pb:p≠b:=fun e=>by subst e;rw [h] at n;cases n
 refine ⟨Zf,(Ze pb).trans Zf,fun c u e cb=>(Ze cb).trans ((Ze (ZU e n)).trans e),fun c e=>?_⟩;by_cases cb:c=b
 ·subst cb;rw [Zf] at e;cases e
 rw [Ze cb] at e;by_cases cp:c=p
 ·subst cp;exact n
 rw [Ze cp] at e;exact e
noncomputable def ZC (c:Str×Str):List ((Str×Str)×Addr×List Str)->Option (Addr×List Str)
 |[]=>none
 |q::r=>if q.1=c then some q.2 else ZC c r
theorem WN {a b:Str×Str} (h:Zq a=Zq b):a=b:=by
 unfold Zq at h;simp at h;exact RK h.1 h.2
theorem Ws (c:Str×Str):∀l:List ((Str×Str)×Addr×List Str),ZN (l.map fun q=>(Zq q.1,V.ref q.2.1)) (Zq c)=(ZC c l).map fun q=>.ref q.1
 |[]=>rfl
 |q::r=>by
  have ih:=Ws c r;unfold ZC;rw [Qr];by_cases e:q.1=c
  ·subst e;rw [XT rfl,Qc rfl];rfl
  ·rw [X6 (fun z=>e (WN z)),Qa e];exact ih
theorem ZcR {c:Str×Str}:∀{l:List ((Str×Str)×Addr×List Str)} {x:Addr×List Str},ZC c l=some x->∃q∈l,q.2=x
 |[],_,h=>by cases h
 |q::r,x,h=>by
  unfold ZC at h;split at h
  ·cases h;exact ⟨q,QD ..,rfl⟩
  ·obtain ⟨z,hz,e⟩:=ZcR h;exact ⟨z,QE _ hz,e⟩
noncomputable def YA (B:Bk) (l n:Str):List Str:=((ZC (l,n) B.links).map (·.2)).getD []
noncomputable def Xw:List Str:=["F","M","T","f","m","t","S"]
noncomputable def Uj (x:Str):Bool:=decide (x∈Xw)
theorem Zdz (x:Str):∀l:List Str,XX (.str x) (l.map V.str)=decide (x∈l):=by
 intro l;unfold XX
 induction l with
 |nil=>rfl
 |cons y r ih =>
  rw [Qr,Rh,ih];by_cases h:x=y
  ·subst h;simp [Xi]
  ·simp [Xi,h,Q2 h]
theorem JX {a b:Str} (h1:ZP a b=false) (h2:ZP b a=false):a=b:=by
 unfold ZP at h1 h2
 have e:a.cps.toList=b.cps.toList:=by
  have l1:=Re h1;have l2:=Re h2;exact List.le_antisymm (List.not_lt.mp l2) (List.not_lt.mp l1)
 obtain ⟨a⟩:=a;obtain ⟨b⟩:=b;have e2:a=b:=Array.toList_inj.mp e;rw [e2]
noncomputable def Zg (a b:Str):Str×Str:=if ZP b a=true then (b,a) else (a,b)
theorem Zfy {a b:Str} {zs:List Str} (hp:zs.Perm [a,b]) (hs:PyProof.Rows.sortedS zs=true):zs=[(Zg a b).1,(Zg a b).2]:=by
 have hl:=hp.length_eq
 match zs,hl with
 |[x,y],_ =>
  have hs2:ZP y x=false:=by
   have h3:(!PySem.Spec.ltCps y.cps.toList x.cps.toList&&true)=true:=hs;rw [PyProof.Rows.ltCps_eq] at h3;simpa [ZP] using h3
  have hm:x∈[a,b]:=hp.subset (by simp)
  have hp2:(x=a∧y=b)∨(x=b∧y=a):=by
   rcases Qh.mp hm with rfl|hm
   ·have:=hp.cons_inv;exact .inl ⟨rfl,by simpa using this⟩
   ·have e:x=b:=by simpa using hm
    subst e;have h4:[x,y].Perm [x,a]:=hp.trans (List.Perm.swap ..);have:=h4.cons_inv;exact .inr ⟨rfl,by simpa using this⟩
  unfold Zg;rcases hp2 with ⟨rfl,rfl⟩|⟨rfl,rfl⟩
  ·rw [hs2];rfl
  ·by_cases h:ZP x y=true
   ·rw [Qc h]
   ·rw [Qa h,JX (Rn.mpr h) hs2]
noncomputable def Ent.told:Ent->Ent
 |.union a b d=>.union (Zg a b).1 (Zg a b).2 d
 |.parted a b d=>.parted (Zg a b).1 (Zg a b).2 d
 |e=>e
theorem ZbZ (a b:Str):(if ZP b a=true then b else a)=(Zg a b).1:=by
 unfold Zg;by_cases h:ZP b a=true
 ·rw [Qc h,Qc h]
 ·rw [Qa h,Qa h]
theorem ZbL (a b:Str):(if ZP a b=true then b else a)=(Zg a b).2:=by
 unfold Zg;by_cases h:ZP b a=true
 ·rw [Qc h];by_cases h2:ZP a b=true
  ·have l1:b.cps.toList<a.cps.toList:=QC h;have l2:a.cps.toList<b.cps.toList:=QC h2;exact absurd l1 (NB l2)
  ·rw [Qa h2]
 ·rw [Qa h];by_cases h2:ZP a b=true
  ·rw [Qc h2]
  ·rw [Qa h2,JX (Rn.mpr h) (Rn.mpr h2)]
noncomputable def JC:Zi->Vk
 |.inl i=>.int i
 |.inr x=>.str x
theorem ZbR {K:W.Frag} {H:Hp}:∀(l:List Zi),(∀x:Str,(.inr x:Zi)∈l->x.length≤100)->Vws K H (l.map kV) (l.map JC)
 |[],_=>trivial
 |.inl i::r,h=>⟨rfl,ZbR r fun x hx=>h x (QE _ hx)⟩
 |.inr y::r,h=>⟨⟨rfl,h y (QD ..)⟩,ZbR r fun x hx=>h x (QE _ hx)⟩
structure Ent.Ok (e:Ent):Prop where
 en:Ve (e.row.map JC)=true
 sh:∀x:Str,(.inr x:Zi)∈e.row->x.length≤100
theorem Ent.row_len (e:Ent):(e.row.map JC).length≤10:=by
 cases e<;>exact QF rfl
theorem Ent.Ok.tv {e:Ent} (h:e.Ok) {K:W.Frag} {H:Hp} {a:Addr} (hE:SqT K H a (e.row.map kV)):Tv K H (.ref a) (e.row.map JC):=⟨a,_,rfl,hE,ZbR _ h.sh⟩
inductive Rf where
 |full|person|twice|fit
noncomputable def Bk.full (B:Bk) (e:Ent):Bool:=decide (400≤B.kept.length)||(e.isBorn&&decide (60≤(Bk.bornD B.kept).length))
noncomputable def XW (B:Bk) (e:Ent):Option Rf :=
 if B.full e=true then some .full
 else if (e.named.all fun n=>(Z6 n B.kept).isSome)=false then some .person
 else if (ZN B.keptD e.told.key).isSome=true then some .twice
 else if Wd B e=true then none else some .fit
theorem Ze8 {B:Bk} {e:Ent} (kn:∀n∈e.named,Known B n):(e.named.all fun n=>(Z6 n B.kept).isSome)=true:=by
 rw [Rp];intro n hn;have:=kn n hn;unfold Known at this;exact NU.mpr this
theorem Zny {B:Bk} {e:Ent} (h:B.full e=false) (kn:∀n∈e.named,Known B n) (t:(ZN B.keptD e.told.key).isSome=false) (f:Wd B e=true):XW B e=none:=by
 unfold XW;rw [h,Qa (by decide),Ze8 kn,Qa (by decide),t,Qa (by decide),f,Qc rfl]
theorem Zee {a b c:Str} (h1:ZP a b=true) (h2:ZP b c=true):ZP a c=true:=by
 unfold ZP at *;exact Qo (List.lt_trans (QC h1) (QC h2))
theorem ZkQ (a:Str):ZP a a=false:=by
 unfold ZP;exact Qk (List.lt_irrefl _)
noncomputable def YI (a b:Str):Bool:=!ZP b a
theorem Zgw {a b c:Str} (h1:YI a b=true) (h2:YI b c=true):YI a c=true:=by
 unfold YI at *;simp only [No] at *;cases h:ZP c a with
 |false=>rfl
 |true =>
  by_cases e:a=b
  ·subst e;rw [h] at h2;cases h2
  ·have hab:ZP a b=true:=by
    cases h3:ZP a b with
    |true=>rfl
    |false=>exact absurd (JX h3 h1) e
   rw [Zee h hab] at h2;cases h2
theorem Znt (a b:Str):(YI a b||YI b a)=true:=by
 unfold YI;cases h:ZP b a with
 |false=>rfl
 |true =>
  cases h2:ZP a b with
  |false=>rfl
  |true=>exact absurd (Zee h2 h) (by rw [ZkQ a];decide)
noncomputable def ZD (l:List Str):List Str:=l.mergeSort YI
theorem Wq (l:List Str):(ZD l).Perm l:=List.mergeSort_perm ..
theorem UL (l:List Str):(ZD l).Pairwise fun a b=>YI a b=true:=List.pairwise_mergeSort (le:=YI) (fun _ _ _=>Zgw) Znt l
theorem Ja:∀{l:List Str},PyProof.Rows.sortedS l=true->l.Pairwise fun a b=>YI a b=true
 |[],_=>.nil
 |[x],_=>.cons (by simp) .nil
 |x::y::r,h=>by
  have h':(!PySem.Spec.ltCps y.cps.toList x.cps.toList&&PyProof.Rows.risingS y r)=true:=h;rw [Rm] at h';obtain ⟨h1,h2⟩:=h';have ih:=Ja (l:=y::r) h2
  have hxy:YI x y=true:=by
   rw [PyProof.Rows.ltCps_eq] at h1;exact h1
  refine .cons (fun z hz=>?_) ih;rcases Qh.mp hz with rfl|hz
  ·exact hxy
  ·exact Zgw hxy (NC ih hz)
theorem Ji:∀{l m:List Str},l.Perm m->(l.Pairwise fun a b=>YI a b=true)->(m.Pairwise fun a b=>YI a b=true)->l=m
 |[],m,p,_,_=>p.nil_eq
 |x::l,[],p,_,_=>absurd p.length_eq (by simp)
 |x::l,y::m,p,h1,h2=>by
  have e:x=y:=by
   by_cases e:x=y
   ·exact e
   have hx:x∈m:=by
    have:x∈y::m:=p.subset (QD ..);rcases Qh.mp this with h|h
    ·exact absurd h e
    ·exact h
   have hy:y∈l:=by
    have:y∈x::l:=p.symm.subset (QD ..);rcases Qh.mp this with h|h
    ·exact absurd h.symm e
    ·exact h
   have a1:=NC h1 hy;have a2:=NC h2 hx;unfold YI at a1 a2;simp only [No] at a1 a2;exact JX a2 a1
  subst e;rw [Ji p.cons_inv (List.pairwise_cons.mp h1).2 (List.pairwise_cons.mp h2).2]
theorem ZeI {zs l:List Str} (hp:zs.Perm l) (hs:PyProof.Rows.sortedS zs=true):zs=ZD l:=Ji (hp.trans (Wq l).symm) (Ja hs) (UL l)
structure But (S:List Addr) (H H':Hp):Prop where
 eq:∀a o,a∉S->H a=some o->H' a=some o
 al:∀a,H' a=none->H a=none
theorem But.of {H H':Hp} (S:List Addr) (s:Same H H'):But S H H':=⟨fun a o _ e=>s a o e,fun a n=>ZK s n⟩
theorem But.trans {S:List Addr} {H H' H'':Hp} (h1:But S H H') (h2:But S H' H''):But S H H'':=⟨fun a o n e=>h2.eq a o n (h1.eq a o n e),fun a n=>h1.al a (h2.al a n)⟩
theorem But.put {S:List Addr} {H:Hp} {a:Addr} {o o':HO} (e:H a=some o) (h:a∈S):But S H (Zb H a o'):=by
 refine ⟨fun c u n q=>(Ze (fun z:c=a=>n (by rw [z];exact h))).trans q,fun c n=>?_⟩;by_cases z:c=a
 ·subst z;rw [Zf] at n;cases n
 ·rw [Ze z] at n;exact n
noncomputable def Zn {κ α:Type} [DecidableEq κ] (l:List (κ×α)) (c:κ) (x:α):List (κ×α) :=
 if (l.any fun q=>decide (q.1=c))=true then l.map (fun q=>if q.1=c then (q.1,x) else q) else l++[(c,x)]
theorem UO {κ κ' α:Type} [DecidableEq κ] [DecidableEq κ'] {f:κ->κ'} (hf:∀a b,f a=f b->a=b) (g:α->V) (l:List (κ×α)) (c:κ) (x:α) :
  Yl (l.map fun q=>(f q.1,g q.2)) (f c) (g x)=(Zn l c x).map fun q=>(f q.1,g q.2):=by
 have hd:∀a:κ,decide (f a=f c)=decide (a=c):=fun a=>by
  by_cases e:a=c
  ·subst e;simp
  ·rw [Qk e,Qk (fun z=>e (hf _ _ z))]
 unfold Yl Zn
 have e1:((l.map fun q=>(f q.1,g q.2)).any fun kv=>decide (kv.1=f c))=l.any fun q=>decide (q.1=c):=by
  rw [List.any_map];exact Qu (fun z=>l.any z) (funext fun q=>hd q.1)
 rw [e1];by_cases h:(l.any fun q=>decide (q.1=c))=true
 ·rw [Qc h,Qc h,QT,QT];refine Rz fun q _=>?_;show (if f q.1=f c then (f q.1,g x) else (f q.1,g q.2))=(fun q=>(f q.1,g q.2)) (if q.1=c then (q.1,x) else q);by_cases e:q.1=c
  ·rw [Qc e,Qc (by rw [e])]
  ·rw [Qa e,Qa (fun z=>e (hf _ _ z))]
 ·rw [Qa h,Qa h,Qq];rfl
theorem UW {κ α:Type} [DecidableEq κ] {l:List (κ×α)} {c:κ} {x:α} {q:κ×α} (h:q∈Zn l c x):q=(c,x)∨q∈l:=by
 unfold Zn at h;split at h
 ·obtain ⟨p,hp,e⟩:=Qj.mp h;split at e
  ·rename_i pc;subst e;exact .inl (by rw [pc])
  ·subst e;exact .inr hp
 ·rcases Qm.mp h with h|h
  ·exact .inr h
  ·exact .inl (by simpa using h)
theorem Za8 {k li ti su:Addr} (h:[k,li,ti,su].Nodup):k≠li∧k≠ti∧k≠su∧li≠ti∧li≠su∧ti≠su:=by
 simp at h;exact ⟨h.1.1,h.1.2.1,h.1.2.2,h.2.1.1,h.2.1.2,h.2.2⟩
theorem YF {H:Hp} {a c:Addr} {o u:HO} (h1:H a=some o) (h2:H c=some u) (n:o≠u):a≠c:=fun e=>by
 subst e;rw [h1] at h2;exact n (Ql h2)
theorem YH {K:W.Frag} {H:Hp} {a c:Addr} {xs:List V} {o o':HO} (h:SqT K H a xs) (e:H c=some o) (no:∀ys,o≠.tup ys) (nf:∀x ys,o≠.frz x ys):SqT K (Zb H c o') a xs:=by
 rcases h with h|h
 ·rcases h with h|⟨x,h⟩
  ·exact .inl (.inl ((Ze (YF h e (fun z=>no _ z.symm))).trans h))
  ·exact .inl (.inr ⟨x,(Ze (YF h e (fun z=>nf _ _ z.symm))).trans h⟩)
 ·exact .inr h
theorem BkAt.links {K:W.Frag} {C:Addr} {H:Hp} {b dx k bi li ti su:Addr} {B:Bk} (h:BkAt K C H b dx k bi li ti su B) {l:List ((Str×Str)×Addr×List Str)}
  (hl:∀q∈l,H q.2.1=some (.lst (q.2.2.map V.str))):BkAt K C (Zb H li (.dT (l.map fun q=>(Zq q.1,V.ref q.2.1)))) b dx k bi li ti su { B with links:=l }:=by
 obtain ⟨n1,n2,n3,n4,n5,n6⟩:=Za8 h.ap;have dk:∀{c:Addr} {z:List (Zi×V)},H c=some (.dK z)->c≠li:=fun e=>YF e h.li (fun z=>by cases z)
 exact ⟨(Ze (YF h.ob h.li (fun z=>by cases z))).trans h.ob,h.ap,h.at',(Ze n1).trans h.ke,(Ze (dk h.bi)).trans h.bi,Zf,(Ze n4.symm).trans h.ti,(Ze n5.symm).trans h.su,
  fun p hp=>YH (h.en p hp) h.li (fun _ z=>by cases z) (fun _ _ z=>by cases z),fun q hq=>(Ze (YF (hl q hq) h.li (fun z=>by cases z))).trans (hl q hq),fun q hq=>(Ze (dk (h.tt q hq))).trans (h.tt q hq)⟩
noncomputable def lk (ls:List ((Str×Str)×Addr×List Str)) (c:Str×Str):List Str:=((ZC c ls).map (·.2)).getD []
noncomputable def Z8 (f:Str×Str->List Str) (c:Str×Str) (m:Str):Str×Str->List Str:=fun x=>if x=c then ZD (f c++[m]) else f x
theorem Zfc {c:Str×Str}:∀{l:List ((Str×Str)×Addr×List Str)},(l.any fun q=>decide (q.1=c))=false->ZC c l=none
 |[],_=>rfl
 |q::r,h=>by
  rw [Rh,Bool.or_eq_false_iff] at h;unfold ZC;rw [Qa (Re h.1)];exact Zfc h.2
theorem ZdH {c:Str×Str}:∀{l m:List ((Str×Str)×Addr×List Str)},ZC c (l++m)=(ZC c l).or (ZC c m)
 |[],m=>by simp [ZC]
 |q::r,m=>by
  show (if q.1=c then some q.2 else ZC c (r++m))=(if q.1=c then some q.2 else ZC c r).or (ZC c m);by_cases e:q.1=c
  ·rw [Qc e,Qc e];rfl
  ·rw [Qa e,Qa e];exact ZdH
theorem ZdZ {c d:Str×Str} {x:Addr×List Str}:∀{l:List ((Str×Str)×Addr×List Str)},ZC d (l.map fun q=>if q.1=c then (q.1,x) else q)=if d=c then (ZC c l).map (fun _=>x) else ZC d l
 |[]=>by by_cases e:d=c<;>simp [ZC,e]
 |q::r=>by
  have ih:=ZdZ (c:=c) (d:=d) (x:=x) (l:=r);rw [Qr];by_cases e:q.1=c
  ·rw [Qc e];by_cases e2:d=c
   ·subst e2;rw [Qc rfl];unfold ZC;rw [Qc e,Qc e];rfl
   ·rw [Qa e2] at ih ⊢;unfold ZC;rw [Qa (fun z=>e2 (z.symm.trans e)),Qa (fun z=>e2 (z.symm.trans e))];exact ih
  ·rw [Qa e];by_cases e2:d=c
   ·subst e2;rw [Qc rfl] at ih ⊢;unfold ZC;rw [Qa e,Qa e];exact ih
   ·rw [Qa e2] at ih ⊢;unfold ZC;by_cases e3:q.1=d
    ·rw [Qc e3,Qc e3]
    ·rw [Qa e3,Qa e3];exact ih
theorem Zgr (l:List ((Str×Str)×Addr×List Str)) (c d:Str×Str) (x:Addr×List Str):ZC d (Zn l c x)=if d=c then some x else ZC d l:=by
 unfold Zn;by_cases h:(l.any fun q=>decide (q.1=c))=true
 ·rw [Qc h,ZdZ];by_cases e:d=c
  ·rw [Qc e,Qc e];cases hk:ZC c l with
   |some y=>rfl
   |none =>
    exfalso
    have:∀{l:List ((Str×Str)×Addr×List Str)},ZC c l=none->(l.any fun q=>decide (q.1=c))=false:=by
     intro l
     induction l with
     |nil=>intro _;rfl
     |cons q r ih =>
      intro hn;unfold ZC at hn;by_cases e:q.1=c
      ·rw [Qc e] at hn;cases hn
      ·rw [Qa e] at hn;rw [Rh,ih hn,Qk e];rfl
    rw [this hk] at h;cases h
  ·rw [Qa e,Qa e]
 ·rw [Qa h,ZdH];by_cases e:d=c
  ·subst e;rw [Qc rfl,Zfc (Rn.mpr h)];simp [ZC]
  ·rw [Qa e];cases ZC d l with
   |some y=>rfl
   |none=>simp [ZC,Q2 e]
theorem WX (l:List ((Str×Str)×Addr×List Str)) (c d:Str×Str) (D:Addr) (m:Str):lk (Zn l c (D,ZD (lk l c++[m]))) d=Z8 (lk l) c m d:=by
 unfold lk Z8;rw [Zgr];by_cases e:d=c
 ·rw [Qc e,Qc e];rfl
 ·rw [Qa e,Qa e]
theorem XF {κ α:Type} [DecidableEq κ] (l:List (κ×α)) (c:κ) (x:α):(Zn l c x).length≤l.length+1:=by
 unfold Zn;split
 ·rw [Qd];omega
 ·rw [Qw];exact Qf _
theorem VH (B:Bk) (l n:Str):YA B l n=lk B.links (l,n):=rfl
noncomputable def Xj (F:Str×Str->List Str) (n f m:Str):Str×Str->List Str :=
 let F1:=if f="" then F else Z8 (Z8 F ("F",n) f) ("f",f) n
 if m="" then F1 else Z8 (Z8 F1 ("M",n) m) ("m",m) n
theorem JR {F:Str×Str->List Str} {c d:Str×Str} {m:Str} (h:d.1≠c.1):Z8 F c m d=F d:=Qa fun e=>h (by rw [e])
theorem Jc {F G:Str×Str->List Str} (h:∀c,F c=G c) (c:Str×Str) (m:Str) (d:Str×Str):Z8 F c m d=Z8 G c m d:=by
 unfold Z8;rw [h c,h d]
theorem ZnP (l:List (Ent×Addr)) (n s:Str) (d:Int) (f m:Str) (a:Addr):Bk.bornD (l++[(.born n s d f m,a)])=Bk.bornD l++[(.inr n,.ref a)]:=by
 unfold Bk.bornD;rw [Rx];rfl
theorem ZjP (l:List (Ent×Addr)):(Bk.bornD l).length≤l.length:=GP ..
theorem But.mono {S S':List Addr} {H H':Hp} (h:But S H H') (i:∀a∈S,a∈S'):But S' H H':=⟨fun a o n e=>h.eq a o (fun z=>n (i a z)) e,h.al⟩
noncomputable def Zal (l:List (Ent×Addr)):List (Str×V):=l.filterMap fun p=>p.1.bornName.map fun n=>(n,.ref p.2)
theorem Zhx (l:List (Ent×Addr)):Bk.bornD l=(Zal l).map fun p=>(.inr p.1,p.2):=by
 unfold Bk.bornD Zal;rw [List.map_filterMap]
 congr 1
 funext p
 cases p.1.bornName<;>rfl
noncomputable def Wm (l:List (Ent×Addr)):List Str:=l.filterMap fun p=>p.1.bornName
theorem Zjm (l:List (Ent×Addr)):(Zal l).map (·.1)=Wm l:=by
 unfold Wm Zal;rw [List.map_filterMap]
 congr 1
 funext p
 cases p.1.bornName<;>rfl
def Grows (H:Hp) (ls ls':List ((Str×Str)×Addr×List Str)):Prop:=∀q∈ls',(∃p∈ls,p.2.1=q.2.1)∨H q.2.1=none
theorem Grows.refl (H:Hp) (ls:List ((Str×Str)×Addr×List Str)):Grows H ls ls:=fun q hq=>.inl ⟨q,hq,rfl⟩
theorem Grows.put {H:Hp} {ls ls':List ((Str×Str)×Addr×List Str)} {c:Str×Str} {D:Addr} {x:List Str} (g:Grows H ls ls') (n:H D=none):Grows H ls (Zn ls' c (D,x)):=fun q hq=>by
 rcases UW hq with rfl|hq
 ·exact .inr n
 ·exact g q hq
theorem Grows.back {H H':Hp} {ls ls':List ((Str×Str)×Addr×List Str)} (g:Grows H' ls ls') (al:∀a,H' a=none->H a=none):Grows H ls ls':=fun q hq=>(g q hq).imp id (al _)
noncomputable def ZB {κ α:Type} [DecidableEq κ] (c:κ):List (κ×α)->Option α
 |[]=>none
 |q::r=>if q.1=c then some q.2 else ZB c r
theorem ZgK {κ α:Type} [DecidableEq κ] {c:κ}:∀{l:List (κ×α)},(l.any fun q=>decide (q.1=c))=false->ZB c l=none
 |[],_=>rfl
 |q::r,h=>by
  rw [Rh,Bool.or_eq_false_iff] at h;unfold ZB;rw [Qa (Re h.1)];exact ZgK h.2
theorem Zau {κ α:Type} [DecidableEq κ] {c:κ}:∀{l:List (κ×α)},ZB c l=none->(l.any fun q=>decide (q.1=c))=false
 |[],_=>rfl
 |q::r,h=>by
  unfold ZB at h;by_cases e:q.1=c
  ·rw [Qc e] at h;cases h
  ·rw [Qa e] at h;rw [Rh,Zau h,Qk e];rfl
theorem ZaC {κ α:Type} [DecidableEq κ] {c:κ}:∀{l m:List (κ×α)},ZB c (l++m)=(ZB c l).or (ZB c m)
 |[],m=>by simp [ZB]
 |q::r,m=>by
  show (if q.1=c then some q.2 else ZB c (r++m))=(if q.1=c then some q.2 else ZB c r).or (ZB c m);by_cases e:q.1=c
  ·rw [Qc e,Qc e];rfl
  ·rw [Qa e,Qa e];exact ZaC
theorem Zhd {κ α:Type} [DecidableEq κ] {c d:κ} {x:α}:∀{l:List (κ×α)},ZB d (l.map fun q=>if q.1=c then (q.1,x) else q)=if d=c then (ZB c l).map (fun _=>x) else ZB d l
 |[]=>by by_cases e:d=c<;>simp [ZB,e]
 |q::r=>by
  have ih:=Zhd (c:=c) (d:=d) (x:=x) (l:=r);rw [Qr];by_cases e:q.1=c
  ·rw [Qc e];by_cases e2:d=c
   ·subst e2;rw [Qc rfl];unfold ZB;rw [Qc e,Qc e];rfl
   ·rw [Qa e2] at ih ⊢;unfold ZB;rw [Qa (fun z=>e2 (z.symm.trans e)),Qa (fun z=>e2 (z.symm.trans e))];exact ih
  ·rw [Qa e];by_cases e2:d=c
   ·subst e2;rw [Qc rfl] at ih ⊢;unfold ZB;rw [Qa e,Qa e];exact ih
   ·rw [Qa e2] at ih ⊢;unfold ZB;by_cases e3:q.1=d
    ·rw [Qc e3,Qc e3]
    ·rw [Qa e3,Qa e3];exact ih
theorem ZdJ {κ α:Type} [DecidableEq κ] (l:List (κ×α)) (c d:κ) (x:α):ZB d (Zn l c x)=if d=c then some x else ZB d l:=by
 unfold Zn;by_cases h:(l.any fun q=>decide (q.1=c))=true
 ·rw [Qc h,Zhd];by_cases e:d=c
  ·rw [Qc e,Qc e];cases hk:ZB c l with
   |some y=>rfl
   |none=>rw [Zau hk] at h;cases h
  ·rw [Qa e,Qa e]
 ·rw [Qa h,ZaC];by_cases e:d=c
  ·subst e;rw [Qc rfl,ZgK (Rn.mpr h)];simp [ZB]
  ·rw [Qa e];cases ZB d l with
   |some y=>rfl
   |none=>simp [ZB,Q2 e]
theorem Va {κ α:Type} [DecidableEq κ] {c:κ}:∀{l:List (κ×α)} {x:α},ZB c l=some x->(c,x)∈l
 |[],_,h=>by cases h
 |q::r,x,h=>by
  unfold ZB at h;by_cases e:q.1=c
  ·rw [Qc e] at h;cases h;rw [←e];exact QD ..
  ·rw [Qa e] at h;exact QE _ (Va h)
theorem Jf {κ κ' α:Type} [DecidableEq κ] [DecidableEq κ'] {f:κ->κ'} (hf:∀a b,f a=f b->a=b) (g:α->V) (c:κ):∀l:List (κ×α),ZN (l.map fun q=>(f q.1,g q.2)) (f c)=(ZB c l).map g
 |[]=>rfl
 |q::r=>by
  have ih:=Jf hf g c r;unfold ZB;rw [Qr];by_cases e:q.1=c
  ·subst e;rw [XT rfl,Qc rfl];rfl
  ·rw [X6 (fun z=>e (hf _ _ z)),Qa e];exact ih
noncomputable def Yz (B:Bk) (c:Str×Str):List (Int×Str):=((ZB c B.ties).map (·.2)).getD []
noncomputable def YK (l:List (Int×Str)):Bool:=match (l.map (·.1)).max? with
 |none=>false
 |some m=>decide (ZB m l=some ("union" : Str))
noncomputable def Za7 (B:Bk) (a b:Str):Bool:=YK (Yz B (Zg a b))
noncomputable def YQ (l:List (Int×Str)):List (Zi×V):=l.map fun r=>(.inl r.1,.str r.2)
theorem Zeg:∀a b:Int,(.inl a:Zi)=.inl b->a=b:=fun _ _ h=>Sum.inl.inj h
theorem Zi9 {l:List (Int×Str)} {m:Int} (h:m∈l.map (·.1)):∃x,ZB m l=some x:=by
 cases e:ZB m l with
 |some x=>exact ⟨x,rfl⟩
 |none =>
  obtain ⟨q,hq,rfl⟩:=Qj.mp h;have:=Zau e;rw [Nb] at this;exact absurd (Qo rfl) (this q hq)
theorem Zd4 {l:List (Int×Str)} {m:Int} {x:Str} (hm:m∈l.map (·.1)) (hx:∀y∈l.map (·.1),y≤m) (e:ZB m l=some x):YK l=decide (x="union"):=by
 have h:(l.map (·.1)).max?=some m:=List.max?_eq_some_iff.mpr ⟨hm,hx⟩;unfold YK;rw [h];show decide (ZB m l=some ("union" : Str))=_;rw [e];simp
theorem ZcS (a b:Str):Zg a b=Zg b a:=by
 unfold Zg;by_cases h:ZP b a=true
 ·by_cases h2:ZP a b=true
  ·have l1:b.cps.toList<a.cps.toList:=QC h;have l2:a.cps.toList<b.cps.toList:=QC h2;exact absurd l1 (NB l2)
  ·rw [Qc h,Qa h2]
 ·by_cases h2:ZP a b=true
  ·rw [Qa h,Qc h2]
  ·rw [Qa h,Qa h2,JX (Rn.mpr h) (Rn.mpr h2)]
noncomputable def ZJ (F:Str×Str->List Str) (st:Bool) (x y:Str):Str×Str->List Str:=fun c =>
 if c=(("S",x):Str×Str) then (if st=true then ZD ((F c).filter (fun n=>decide (n≠y))++[y]) else (F c).filter fun n=>decide (n≠y)) else F c
noncomputable def YR (ts:List ((Str×Str)×Addr×List (Int×Str))) (c:Str×Str):List (Int×Str):=((ZB c ts).map (·.2)).getD []
theorem ZmN (B:Bk) (c:Str×Str):Yz B c=YR B.ties c:=rfl
theorem ZgY {ts:List ((Str×Str)×Addr×List (Int×Str))} {c:Str×Str} {d:Addr} {l l':List (Int×Str)} (n:(ts.map (·.1)).Nodup) (h:ZB c ts=some (d,l)):(Zn ts c (d,l')).map (·.2.1)=ts.map (·.2.1)∧(Zn ts c (d,l')).map (·.1)=ts.map (·.1):=by
 have an:(ts.any fun q=>decide (q.1=c))=true:=by
  rw [Gs];exact ⟨_,Va h,Qo rfl⟩
 unfold Zn;rw [Qc an,QT,QT];constructor
 ·refine Rz fun q hq=>?_;show (if q.1=c then (q.1,(d,l')) else q).2.1=q.2.1;by_cases e:q.1=c
  ·rw [Qc e]
   have:q.2=(d,l):=by
    have go:∀{ts:List ((Str×Str)×Addr×List (Int×Str))},(ts.map (·.1)).Nodup->ZB c ts=some (d,l)->q∈ts->q.2=(d,l):=by
     intro ts
     induction ts with
     |nil=>intro _ _ h;cases h
     |cons p r ih =>
      intro n f m;rw [Qr,QR] at n;unfold ZB at f;by_cases e2:p.1=c
      ·rw [Qc e2] at f;rcases Qh.mp m with rfl|m
       ·exact Ql f
       ·exact absurd (Qj.mpr ⟨q,m,e.trans e2.symm⟩) n.1
      ·rw [Qa e2] at f;rcases Qh.mp m with rfl|m
       ·exact absurd e e2
       ·exact ih n.2 f m
    exact go n h hq
   rw [this]
  ·rw [Qa e]
 ·refine Rz fun q hq=>?_;show (if q.1=c then (q.1,(d,l')) else q).1=q.1;split<;>rfl
theorem BkAt.newTie {K:W.Frag} {C:Addr} {H:Hp} {b dx k bi li ti su z:Addr} {B:Bk} (h:BkAt K C H b dx k bi li ti su B) (nz:H z=some (.dK [])) (fr:z≠bi∧∀q∈B.ties,q.2.1≠z) (c:Str×Str) :
  BkAt K C (Zb H ti (.dT (B.tiesD++[(Zq c,.ref z)]))) b dx k bi li ti su { B with ties:=B.ties++[(c,z,[])] }:=by
 obtain ⟨n1,n2,n3,n4,n5,n6⟩:=Za8 h.ap;have dk:∀{a:Addr} {w:List (Zi×V)},H a=some (.dK w)->a≠ti:=fun e=>YF e h.ti (fun z=>by cases z)
 refine ⟨(Ze (YF h.ob h.ti (fun z=>by cases z))).trans h.ob,h.ap,?_,(Ze n2).trans h.ke,(Ze (dk h.bi)).trans h.bi,(Ze n4).trans h.li,?_,(Ze n6.symm).trans h.su,fun p hp=>YH (h.en p hp) h.ti (fun _ z=>by cases z) (fun _ _ z=>by cases z),
  fun q hq=>(Ze (YF (h.ll q hq) h.ti (fun z=>by cases z))).trans (h.ll q hq),fun q hq=>?_⟩
 ·show (bi::(B.ties++[((c,z,[]):(Str×Str)×Addr×List (Int×Str))]).map (·.2.1)).Nodup;rw [Qq,←List.cons_append,Rc];refine ⟨h.at',by simp,fun a ha x hx e=>?_⟩;have ex:x=z:=by simpa using hx
  subst ex e;rcases Qh.mp ha with rfl|ha
  ·exact fr.1 rfl
  ·obtain ⟨q,hq,rfl⟩:=Qj.mp ha;exact fr.2 q hq rfl
 ·rw [Zf];show some (HO.dT _)=some (.dT ((B.ties++[((c,z,[]):(Str×Str)×Addr×List (Int×Str))]).map fun q=>(Zq q.1,V.ref q.2.1)));rw [Qq];rfl
 ·rcases Qm.mp hq with hq|hq
  ·exact (Ze (dk (h.tt q hq))).trans (h.tt q hq)
  ·have e:q=(c,z,[]):=by simpa using hq
   subst e;exact (Ze (dk nz)).trans nz
theorem BkAt.putTie {K:W.Frag} {C:Addr} {H:Hp} {b dx k bi li ti su d:Addr} {B:Bk} {c:Str×Str} {l:List (Int×Str)} (h:BkAt K C H b dx k bi li ti su B) (n:(B.ties.map (·.1)).Nodup) (f:ZB c B.ties=some (d,l)) (l':List (Int×Str)) :
  BkAt K C (Zb H d (.dK (YQ l'))) b dx k bi li ti su { B with ties:=Zn B.ties c (d,l') }:=by
 have hm:=Va f;have hd:H d=some (.dK (YQ l)):=h.tt _ hm;have at2:=h.at';rw [QR] at at2;have bd:bi≠d:=fun e=>at2.1 (Qj.mpr ⟨_,hm,e.symm⟩);have dt:∀{a:Addr} {w:List (List Zi×V)},H a=some (.dT w)->a≠d:=fun e=>YF e hd (fun z=>by cases z);obtain ⟨pa1,pa2⟩:=ZgY (l':=l') n f
 refine ⟨(Ze (YF h.ob hd (fun z=>by cases z))).trans h.ob,h.ap,?_,(Ze (dt h.ke)).trans h.ke,(Ze bd).trans h.bi,(Ze (dt h.li)).trans h.li,?_,(Ze (dt h.su)).trans h.su,fun p hp=>YH (h.en p hp) hd (fun _ z=>by cases z) (fun _ _ z=>by cases z),
  fun q hq=>(Ze (YF (h.ll q hq) hd (fun z=>by cases z))).trans (h.ll q hq),fun q hq=>?_⟩
 ·show (bi::(Zn B.ties c (d,l')).map (·.2.1)).Nodup;rw [pa1];exact h.at'
 ·have e:(Zn B.ties c (d,l')).map (fun q=>(Zq q.1,V.ref q.2.1))=B.tiesD:=by
   have e1:(fun q:(Str×Str)×Addr×List (Int×Str)=>(Zq q.1,V.ref q.2.1))=(fun p:(Str×Str)×Addr=>(Zq p.1,V.ref p.2))∘fun q=>(q.1,q.2.1):=rfl
   have e2:∀ts:List ((Str×Str)×Addr×List (Int×Str)),ts.map (fun q=>(q.1,q.2.1))=(ts.map (·.1)).zip (ts.map (·.2.1)):=fun ts=>by
    induction ts with
    |nil=>rfl
    |cons q r ih=>simp [ih]
   unfold Bk.tiesD;rw [e1,←QT,←QT,e2,e2,pa1,pa2]
  rw [Ze (dt h.ti)];show H ti=some (.dT ((Zn B.ties c (d,l')).map fun q=>(Zq q.1,V.ref q.2.1)));rw [e];exact h.ti
 ·rcases UW hq with rfl|hq2
  ·exact Zf
  ·by_cases e:q.2.1=d
   ·-- the same address: the same pair
    have:q=(c,d,l)∨q=(c,d,l'):=by
     have hnd:=(QR.mp h.at').2
     have go:∀{ts:List ((Str×Str)×Addr×List (Int×Str))},(ts.map (·.2.1)).Nodup->(c,d,l)∈ts->q∈ts->q=(c,d,l):=by
      intro ts
      induction ts with
      |nil=>intro _ h;cases h
      |cons p r ih =>
       intro n h1 h2;rw [Qr,QR] at n;rcases Qh.mp h1 with e1|h1'
       ·rcases Qh.mp h2 with e2|h2'
        ·rw [e2,e1]
        ·rw [←e1] at n;exact absurd (Qj.mpr ⟨q,h2',e⟩) n.1
       ·rcases Qh.mp h2 with e2|h2'
        ·rw [←e2] at n;exact absurd (Qj.mpr ⟨(c,d,l),h1',e.symm⟩) n.1
        ·exact ih n.2 h1' h2'
     exact .inl (go hnd hm hq2)
    rcases this with rfl|rfl
    ·-- then it was told anew
     have an:(B.ties.any fun q=>decide (q.1=c))=true:=by
      rw [Gs];exact ⟨_,hm,Qo rfl⟩
     unfold Zn at hq;rw [Qc an] at hq;obtain ⟨p,hp,ep⟩:=Qj.mp hq;by_cases pc:p.1=c
     ·rw [Qc pc] at ep
      have:l'=l:=by
       have:=Qu (fun z=>z.2.2) ep;exact this
      subst this;exact Zf
     ·rw [Qa pc] at ep;subst ep;exact absurd rfl pc
    ·exact Zf
   ·exact (Ze e).trans (h.tt q hq2)
theorem ZkS (ts:List ((Str×Str)×Addr×List (Int×Str))) (c x:Str×Str) (d:Addr) (l:List (Int×Str)):YR (Zn ts c (d,l)) x=if x=c then l else YR ts x:=by
 unfold YR;rw [ZdJ];by_cases e:x=c
 ·rw [Qc e,Qc e];rfl
 ·rw [Qa e,Qa e]
theorem ZhL (ts:List ((Str×Str)×Addr×List (Int×Str))) (c x:Str×Str) (d:Addr) (h:ZB c ts=none):YR (ts++[(c,d,[])]) x=YR ts x:=by
 unfold YR;rw [ZaC];cases e:ZB x ts with
 |some y=>rfl
 |none =>
  unfold ZB;by_cases e2:c=x
  ·rw [Qc e2];rfl
  ·rw [Qa e2];rfl
noncomputable def Vz (y:Str) (n:Str):Option V:=if n=y then none else some (.str n)
theorem ZfV (y:Str):∀l:List Str,(l.map (Vz y)).filterMap id=(l.filter fun n=>decide (n≠y)).map V.str
 |[]=>rfl
 |n::r=>by
  have ih:=ZfV y r;by_cases h:n=y
  ·subst h;simp only [Qr,QL,Ry];simpa [Vz] using ih
  ·simp only [Qr,QL,Ry];simpa [Vz,h] using ih
theorem Zha (l:List ((Str×Str)×Addr×List Str)) (c d:Str×Str) (D:Addr) (z:List Str):lk (Zn l c (D,z)) d=if d=c then z else lk l d:=by
 unfold lk;rw [Zgr];by_cases e:d=c
 ·rw [Qc e,Qc e];rfl
 ·rw [Qa e,Qa e]
theorem ZcD (F:Str×Str->List Str) (st:Bool) (x y:Str) (c:Str×Str):(ZJ F st x y c).length≤(F c).length+1:=by
 unfold ZJ;have h:=GX (fun n=>decide (n≠y)) (F c);split
 ·split
  ·rw [(Wq _).length_eq,Qw];show _+1≤_;omega
  ·omega
 ·omega
theorem Vl (a b:Str):Zg (Zg a b).1 (Zg a b).2=Zg a b:=by
 unfold Zg;by_cases h:ZP b a=true
 ·rw [Qc h];show (if ZP a b=true then (a,b) else (b,a))=(b,a);by_cases h2:ZP a b=true
  ·have l1:b.cps.toList<a.cps.toList:=QC h;have l2:a.cps.toList<b.cps.toList:=QC h2;exact absurd l1 (NB l2)
  ·rw [Qa h2]
 ·rw [Qa h];show (if ZP b a=true then (b,a) else (a,b))=(a,b);rw [Qa h]
theorem ZaF (e:Ent):e.told.told=e.told:=by
 cases e with
 |union a b d=>show Ent.union (Zg (Zg a b).1 (Zg a b).2).1 (Zg (Zg a b).1 (Zg a b).2).2 d=_;rw [Vl];rfl
 |parted a b d=>show Ent.parted (Zg (Zg a b).1 (Zg a b).2).1 (Zg (Zg a b).1 (Zg a b).2).2 d=_;rw [Vl];rfl
 |_=>rfl
noncomputable def UE (F:Str×Str->List (Int×Str)):Ent->Str×Str->List (Int×Str)
 |.union a b d=>fun c=>if c=Zg a b then Zn (F (Zg a b)) d "union" else F c
 |.parted a b d=>fun c=>if c=Zg a b then Zn (F (Zg a b)) d "parted" else F c
 |_=>F
noncomputable def WK (F:Str×Str->List Str) (G:Str×Str->List (Int×Str)):Ent->Str×Str->List Str
 |.born n _ _ f m=>Xj F n f m
 |.taken c t _=>Z8 (Z8 F ("T",c) t) ("t",t) c
 |.union a b d=>ZJ (ZJ F (YK (Zn (G (Zg a b)) d "union")) a b) (YK (Zn (G (Zg a b)) d "union")) b a
 |.parted a b d=>ZJ (ZJ F (YK (Zn (G (Zg a b)) d "parted")) a b) (YK (Zn (G (Zg a b)) d "parted")) b a
 |_=>F
noncomputable def Y2 (ss:List ((Str×Str)×Int)) (c:Str×Str):Int:=(ZB c ss).getD 0
noncomputable def Zbj (F:Str×Str->Int):Ent->Str×Str->Int
 |.given g t am _=>fun c=>if c=(g,t) then F c+am else F c
 |_=>F
theorem Zl0 (ss:List ((Str×Str)×Int)) (g t:Str) (am d:Int) (c:Str×Str):Y2 (Zn ss (g,t) (Y2 ss (g,t)+am)) c=Zbj (Y2 ss) (.given g t am d) c:=by
 show _=if c=(g,t) then Y2 ss c+am else Y2 ss c;unfold Y2;rw [ZdJ];by_cases e:c=(g,t)
 ·subst e;rw [Qc rfl,Qc rfl];rfl
 ·rw [Qa e,Qa e]
def GrowsT (H:Hp) (ts ts':List ((Str×Str)×Addr×List (Int×Str))):Prop:=∀a∈ts'.map (·.2.1),a∈ts.map (·.2.1)∨H a=none
theorem GrowsT.refl (H:Hp) (ts:List ((Str×Str)×Addr×List (Int×Str))):GrowsT H ts ts:=fun _ h=>.inl h
theorem GrowsT.back {H H':Hp} {ts ts':List ((Str×Str)×Addr×List (Int×Str))} (g:GrowsT H' ts ts') (al:∀a,H' a=none->H a=none):GrowsT H ts ts':=fun a ha=>(g a ha).imp id (al a)
structure Put (B:Bk) (e:Ent) (B':Bk):Prop where
 su:∀c,Y2 B'.sums c=Zbj (Y2 B.sums) e.told c
 kept:∃a,B'.kept=B.kept++[(e.told,a)]
 lks:∀c,lk B'.links c=WK (lk B.links) (YR B.ties) e.told c
 tis:∀c,YR B'.ties c=UE (YR B.ties) e.told c
 nd:(B'.ties.map (·.1)).Nodup
 nl:B'.links.length≤B.links.length+4
 nt:B'.ties.length≤B.ties.length+1
 ns:B'.sums.length≤B.sums.length+1
structure Room1 (B:Bk):Prop where
 nd:(B.ties.map (·.1)).Nodup
 nl:B.links.length≤870
 nt:B.ties.length≤790
 ns:B.sums.length≤790
 ll:∀c,(lk B.links c).length≤60
 tt:∀c,(YR B.ties c).length≤790
theorem Zke {H:Hp} {a:Addr} {o:HO} (h:H a=some o):Zb H a o=H:=by
 funext c
 by_cases e:c=a
 ·subst e;rw [Zf,h]
 ·rw [Ze e]
theorem BkAt.kept {K:W.Frag} {C:Addr} {H:Hp} {b dx k bi li ti su a:Addr} {B:Bk} {e:Ent} (h:BkAt K C H b dx k bi li ti su B) (ha:SqT K H a (e.row.map kV)) :
  BkAt K C (Zb (Zb H k (.dT (B.keptD++[(e.key,.ref a)]))) bi (.dK (Bk.bornD (B.kept++[(e,a)])))) b dx k bi li ti su { B with kept:=B.kept++[(e,a)] }:=by
 obtain ⟨n1,n2,n3,n4,n5,n6⟩:=Za8 h.ap;have kb:k≠bi:=YF h.ke h.bi (fun z=>by cases z);have at2:=QR.mp h.at';have dt:∀{c:Addr} {w:List (List Zi×V)},H c=some (.dT w)->c≠k->(Zb (Zb H k (.dT (B.keptD++[(e.key,.ref a)]))) bi (.dK (Bk.bornD (B.kept++[(e,a)])))) c=some (.dT w):=fun hc n=>(Ze (YF hc h.bi (fun z=>by cases z))).trans ((Ze n).trans hc)
 have sq:∀{c:Addr} {xs:List V},SqT K H c xs->SqT K (Zb (Zb H k (.dT (B.keptD++[(e.key,.ref a)]))) bi (.dK (Bk.bornD (B.kept++[(e,a)])))) c xs:=fun {c xs} hc=>by
  have h1:SqT K (Zb H k (.dT (B.keptD++[(e.key,.ref a)]))) c xs:=YH hc h.ke (fun _ z=>by cases z) (fun _ _ z=>by cases z);exact YH h1 ((Ze kb.symm).trans h.bi) (fun _ z=>by cases z) (fun _ _ z=>by cases z)
 refine ⟨(Ze (YF h.ob h.bi (fun z=>by cases z))).trans ((Ze (YF h.ob h.ke (fun z=>by cases z))).trans h.ob),h.ap,h.at',(Ze kb).trans ?_,Zf,dt h.li n1.symm,dt h.ti n2.symm,dt h.su n3.symm,fun p hp=>?_,fun q hq=>?_,fun q hq=>?_⟩
 ·rw [Zf];show some (HO.dT _)=some (.dT ((B.kept++[(e,a)]).map fun p=>(p.1.key,V.ref p.2)));rw [Qq];rfl
 ·rcases Qm.mp hp with hp|hp
  ·exact sq (h.en p hp)
  ·have ep:p=(e,a):=by simpa using hp
   subst ep;exact sq ha
 ·exact (Ze (YF (h.ll q hq) h.bi (fun z=>by cases z))).trans ((Ze (YF (h.ll q hq) h.ke (fun z=>by cases z))).trans (h.ll q hq))
 ·exact (Ze (fun z=>at2.1 (Qj.mpr ⟨q,hq,z⟩))).trans ((Ze (YF (h.tt q hq) h.ke (fun z=>by cases z))).trans (h.tt q hq))
theorem Znj {l:List (Ent×Addr)} {e:Ent} {a:Addr} (h:e.isBorn=false):Bk.bornD (l++[(e,a)])=Bk.bornD l:=by
 unfold Bk.bornD;rw [Rx];cases e with
 |born=>cases h
 |_=>simp [Ent.bornName]
theorem BkAt.sums {K:W.Frag} {C:Addr} {H:Hp} {b dx k bi li ti su:Addr} {B:Bk} (h:BkAt K C H b dx k bi li ti su B) (l:List ((Str×Str)×Int)) :
  BkAt K C (Zb H su (.dT (l.map fun q=>(Zq q.1,V.int q.2)))) b dx k bi li ti su { B with sums:=l }:=by
 obtain ⟨n1,n2,n3,n4,n5,n6⟩:=Za8 h.ap;have dk:∀{c:Addr} {z:List (Zi×V)},H c=some (.dK z)->c≠su:=fun e=>YF e h.su (fun z=>by cases z)
 exact ⟨(Ze (YF h.ob h.su (fun z=>by cases z))).trans h.ob,h.ap,h.at',(Ze n3).trans h.ke,(Ze (dk h.bi)).trans h.bi,(Ze n5).trans h.li,(Ze n6).trans h.ti,Zf,
  fun p hp=>YH (h.en p hp) h.su (fun _ z=>by cases z) (fun _ _ z=>by cases z),fun q hq=>(Ze (YF (h.ll q hq) h.su (fun z=>by cases z))).trans (h.ll q hq),fun q hq=>(Ze (dk (h.tt q hq))).trans (h.tt q hq)⟩
theorem ZlY {l:List (Ent×Addr)} {n s f m:Str} {d:Int} (h:ZN (l.map fun p=>(p.1.key,V.ref p.2)) (Ent.born n s d f m).key=none):Z6 n l=none:=by
 induction l with
 |nil=>rfl
 |cons p r ih =>
  unfold Z6;rw [Qr] at h;by_cases e:p.1.bornName=some n
  ·exfalso
   have ek:p.1.key=(Ent.born n s d f m).key:=by
    cases hp:p.1 with
    |born n' s' d' f' m' =>
     rw [hp] at e;cases (show n'=n from Ql e);rfl
    |_=>rw [hp] at e;cases e
   rw [XT ek] at h;cases h
  ·rw [Qa e];by_cases ek:p.1.key=(Ent.born n s d f m).key
   ·rw [XT ek] at h;cases h
   ·rw [X6 ek] at h;exact ih h
theorem Ze5 {B:Bk} {e:Ent} (h:XW B e=none):ZN B.keptD e.told.key=none∧B.kept.length<400∧∀n∈e.named,Known B n:=by
 unfold XW at h;by_cases f:B.full e=true
 ·rw [Qc f] at h;cases h
 rw [Qa f] at h;by_cases p:(e.named.all fun n=>(Z6 n B.kept).isSome)=false
 ·rw [Qc p] at h;cases h
 rw [Qa p] at h;by_cases t:(ZN B.keptD e.told.key).isSome=true
 ·rw [Qc t] at h;cases h
 refine ⟨by simpa using t,?_,fun n hn=>?_⟩
 ·unfold Bk.full at f;simp only [RV,Gr,not_or] at f;omega
 ·have:=p;rw [Bool.not_eq_false] at this;rw [Rp] at this;have:=this n hn;unfold Known;exact NU.mp this
theorem Zfw (e:Ent) (n:Str):n∈e.told.named->n∈e.named:=by
 cases e with
 |union a b d =>
  show n∈[(Zg a b).1,(Zg a b).2]->n∈[a,b];unfold Zg;split<;>simp<;>(intro h;rcases h with h|h<;>simp [h])
 |parted a b d =>
  show n∈[(Zg a b).1,(Zg a b).2]->n∈[a,b];unfold Zg;split<;>simp<;>(intro h;rcases h with h|h<;>simp [h])
 |_=>exact id
theorem ZeZ (n:Str):∀(l m:List (Ent×Addr)),Z6 n (l++m)=(Z6 n l).or (Z6 n m)
 |[],m=>by simp [Z6]
 |p::r,m=>by
  show (if p.1.bornName=some n then some p else Z6 n (r++m))=(if p.1.bornName=some n then some p else Z6 n r).or (Z6 n m);by_cases e:p.1.bornName=some n
  ·rw [Qc e,Qc e];rfl
  ·rw [Qa e,Qa e];exact ZeZ n r m
theorem Known.more {B B':Bk} {n:Str} {l:List (Ent×Addr)} (h:Known B n) (e:B'.kept=B.kept++l):Known B' n:=by
 unfold Known at *;rw [e,ZeZ];cases hb:Z6 n B.kept with
 |none=>exact absurd hb h
 |some p=>simp
noncomputable def XM (i:Int):Nat:=(97+i.fmod 26).toNat
theorem Zjh (i:Int):Wi (XM i)=true:=by
 have h0:=QI i (show (0:Int)<26 by decide);have h1:=Q0 i (show (0:Int)<26 by decide);obtain ⟨m,hm,hl⟩:∃m:Nat,i.fmod 26=(m:Int)∧m<26:=⟨(i.fmod 26).toNat,by omega,by omega⟩;have e:XM i=97+m:=by unfold XM;rw [hm];omega
 rw [e];have go:∀m:Fin 26,Wi (97+m.val)=true:=by decide +kernel
 exact go ⟨m,hl⟩
theorem Zlx {i j:Int} (h:XM i=XM j):i.fmod 26=j.fmod 26:=by
 have h0:=QI i (show (0:Int)<26 by decide);have h1:=QI j (show (0:Int)<26 by decide);unfold XM at h;omega
theorem Zln (a b:Int) (h:a.fmod 26=b.fmod 26):∃q,a-b=26*q:=by
 have e1:=GY a 26;have e2:=GY b 26;refine ⟨a.fdiv 26-b.fdiv 26,?_⟩;rw [Int.mul_sub];omega
theorem Zi0 {ns:List Int} {k:Nat} (h:k<ns.length):(ns.map V.int)[k]?=some (V.int (ns.getD k 0)):=by
 simp [List.getD,Qt h,h]
theorem Zox (i:Int):Yi JA.cps.toList (i.fmod 26)=some (XM i):=by
 have h0:=QI i (show (0:Int)<26 by decide);have h1:=Q0 i (show (0:Int)<26 by decide);obtain ⟨m,hm,hl⟩:∃m:Nat,i.fmod 26=(m:Int)∧m<26:=⟨(i.fmod 26).toNat,by omega,by omega⟩;have e:XM i=97+m:=by unfold XM;rw [hm];omega
 rw [e,hm];have go:∀m:Fin 26,JA.cps.toList[m.val]?=some (97+m.val):=by decide +kernel
 exact Xq (go ⟨m,hl⟩)
theorem Ur (l:List Nat):(⟨l.toArray⟩:Str).length=l.length:=by
 show l.toArray.size=_;rw [Qx]
noncomputable def Z3 (bs:List (Ent×Addr)):List V:=bs.map fun p=>V.ref p.2
def W2 (K:W.Frag) (H:Hp) (bs:List (Ent×Addr)):Prop:=∀p∈bs,SqT K H p.2 (p.1.row.map kV)
theorem ZbP {d:Int} (h1:-10 ^ 18≤d) (h2:d≤10 ^ 18):ZbW (.int d)=true:=by
 show decide ((if d<0 then -d else d)≤10 ^ 18)=true;exact Qo (by split<;>omega)
theorem Zg8 {x:Str} (h:x=""∨Nm x):Jb (.str x)=true:=by
 rcases h with h|h
 ·subst h;decide +kernel
 ·unfold Jb;rw [h.ok];rfl
theorem ZhO {s:Str} (h:s="he"∨s="she"∨s=""):Vn (.str s)=true:=by
 rcases h with h|h|h<;>subst h<;>decide +kernel
theorem UD {x:Str} (h:Nm x):x.length≤100:=Qn h.hi (by decide)
theorem ZjU {n s f m:Str} {d:Int} (hn:Nm n) (hs:s="he"∨s="she"∨s="") (d1:-10 ^ 18≤d) (d2:d≤10 ^ 18) (hf:f=""∨Nm f) (hm:m=""∨Nm m):(Ent.born n s d f m).Ok:=by
 refine ⟨?_,fun x hx=>?_⟩
 ·show Ve [.str "born",.str n,.str s,.int d,.str f,.str m]=true;rw [Jv,show WJ "born"=some [.name,.sort,.day,.parent,.parent] by rfl];show XA _ _=true;unfold XA ZT;simp [ZT,V0,hn.ok,ZhO hs,ZbP d1 d2,Zg8 hf,Zg8 hm]
 ·have hf':f.length≤100:=hf.elim (fun h=>by subst h;decide +kernel) UD;have hm':m.length≤100:=hm.elim (fun h=>by subst h;decide +kernel) UD;have hs':s.length≤100:=by rcases hs with h|h|h<;>subst h<;>decide +kernel
  simp only [Ent.row,Qh,QX,QY] at hx;rcases hx with h|h|h|h|h|h
  ·cases h;decide +kernel
  ·cases h;exact UD hn
  ·cases h;exact hs'
  ·cases h
  ·cases h;exact hf'
  ·cases h;exact hm'
theorem VU {w a b:Str} {d:Int} (hw:w="taken"∨w="union"∨w="parted") (ha:Nm a) (hb:Nm b) (d1:-10 ^ 18≤d) (d2:d≤10 ^ 18):Ve [.str w,.str a,.str b,.int d]=true:=by
 rw [Jv];have:WJ w=some [.name,.name,.day]:=by rcases hw with h|h|h<;>subst h<;>rfl
 rw [this];show XA _ _=true;unfold XA;simp [ZT,V0,ha.ok,hb.ok,ZbP d1 d2]
theorem VP {w a b:Str} {d:Int} (hw:w.length≤100) (ha:Nm a) (hb:Nm b):∀x:Str,(.inr x:Zi)∈([.inr w,.inr a,.inr b,.inl d]:List Zi)->x.length≤100:=fun x hx=>by
 simp only [Qh,QX,QY] at hx;rcases hx with h|h|h|h
 ·cases h;exact hw
 ·cases h;exact UD ha
 ·cases h;exact UD hb
 ·cases h
theorem Zge {n s f m:Str} {d:Int}:∀{l:List (Ent×Addr)},Ent.born n s d f m∈l.map (·.1)->(∀{s' d' f' m'},Ent.born n s' d' f' m'∈l.map (·.1)->Ent.born n s' d' f' m'=.born n s d f m)->∃a,Z6 n l=some (.born n s d f m,a)
 |[],h,_=>by cases h
 |p::r,h,u=>by
  unfold Z6;by_cases e:p.1.bornName=some n
  ·rw [Qc e];cases hp:p.1 with
   |born n' s' d' f' m' =>
    rw [hp] at e;cases (show n'=n from Ql e);have:=u (s':=s') (d':=d') (f':=f') (m':=m') (by rw [Qr,hp];exact QD ..);refine ⟨p.2,?_⟩;rw [←this,←hp]
   |_=>rw [hp] at e;cases e
  ·rw [Qa e]
   have h':Ent.born n s d f m∈r.map (·.1):=by
    rw [Qr] at h;rcases Qh.mp h with h|h
    ·exfalso;rw [←h] at e;exact e rfl
    ·exact h
   exact Zge h' fun hm=>u (by rw [Qr];exact QE _ hm)
abbrev ZI:=Str×Str->List Str
abbrev X2:=Str×Str->List (Int×Str)
noncomputable def Ud (p:ZI×X2) (e:Ent):ZI×X2:=(WK p.1 p.2 e,UE p.2 e)
noncomputable def YD (es:List Ent):ZI×X2:=es.foldl Ud (fun _=>[],fun _=>[])
theorem Zaw (es:List Ent) (e:Ent):YD (es++[e])=Ud (YD es) e:=by
 unfold YD;rw [GZ];rfl
noncomputable def VJ (n:Str):Ent->List Str
 |.born n' _ _ f _=>if n'=n∧f≠"" then [f] else []
 |_=>[]
noncomputable def Vo (n:Str):Ent->List Str
 |.born n' _ _ _ m=>if n'=n∧m≠"" then [m] else []
 |_=>[]
noncomputable def VB (n:Str):Ent->List Str
 |.born n' _ _ f _=>if f=n∧f≠"" then [n'] else []
 |_=>[]
noncomputable def VO (n:Str):Ent->List Str
 |.born n' _ _ _ m=>if m=n∧m≠"" then [n'] else []
 |_=>[]
noncomputable def VT (n:Str):Ent->List Str
 |.taken c t _=>if c=n then [t] else []
 |_=>[]
noncomputable def VL (n:Str):Ent->List Str
 |.taken c t _=>if t=n then [c] else []
 |_=>[]
theorem Zeu {l:List Str} (h:l.Pairwise fun a b=>YI a b=true):ZD l=l:=Ji (Wq l) (UL l) h
theorem Zk5 (l m:List Str):ZD (ZD l++m)=ZD (l++m) :=
 Ji ((Wq _).trans (((Wq l).append_right m).trans (Wq _).symm)) (UL _) (UL _)
theorem YO (F:ZI) (l n l' n' m:Str):Z8 F (l,n) m (l',n')=if l'=l∧n'=n then ZD (F (l,n)++[m]) else F (l',n'):=by
 unfold Z8;by_cases h:l'=l∧n'=n
 ·obtain ⟨rfl,rfl⟩:=h;rw [Qc rfl,Qc ⟨rfl,rfl⟩]
 ·rw [Qa (fun e=>h (by injection e with a b;exact ⟨a,b⟩)),Qa h]
theorem Yp (F:ZI) (st:Bool) (x y l n:Str) (h:l≠"S"):ZJ F st x y (l,n)=F (l,n):=by
 unfold ZJ;rw [Qa (fun e=>h (by injection e))]
structure Adds (l:Str) (ad:Str->Ent->List Str):Prop where
 step:∀(F:ZI) (G:X2) (e:Ent) (n:Str),(F (l,n)).Pairwise (fun a b=>YI a b=true)->WK F G e (l,n)=ZD (F (l,n)++ad n e)
theorem Z7 {l:List Str} (h:l.Pairwise fun a b=>YI a b=true):l=ZD (l++[]):=by rw [Qv,Zeu h]
theorem U2 (F:ZI) (n f m l x:Str):Xj F n f m (l,x) =
  if l="F"∧x=n∧f≠"" then ZD (F ("F",n)++[f]) else if l="f"∧x=f∧f≠"" then ZD (F ("f",f)++[n]) else
  if l="M"∧x=n∧m≠"" then ZD (F ("M",n)++[m]) else if l="m"∧x=m∧m≠"" then ZD (F ("m",m)++[n]) else F (l,x):=by
 have d1:("F" : Str)≠"f":=by decide +kernel
 have d2:("F" : Str)≠"M":=by decide +kernel
 have d3:("F" : Str)≠"m":=by decide +kernel
 have d4:("f" : Str)≠"M":=by decide +kernel
 have d5:("f" : Str)≠"m":=by decide +kernel
 have d6:("M" : Str)≠"m":=by decide +kernel
 unfold Xj;by_cases f0:f=""<;>by_cases m0:m=""<;>simp only [f0,m0,Q8,QS,YO,ne_eq,not_true_eq_false,not_false_eq_true,and_false,and_true]
 ·by_cases h1:l="m"∧x=m
  ·obtain ⟨rfl,rfl⟩:=h1;simp [d3.symm,d5.symm,d6.symm,d6]
  ·by_cases h2:l="M"∧x=n
   ·obtain ⟨rfl,rfl⟩:=h2;simp [d6]
   ·simp [h1,h2]
 ·by_cases h1:l="f"∧x=f
  ·obtain ⟨rfl,rfl⟩:=h1;simp [d1,d1.symm]
  ·by_cases h2:l="F"∧x=n
   ·obtain ⟨rfl,rfl⟩:=h2;simp [d1]
   ·simp [h1,h2]
 ·by_cases h1:l="m"∧x=m
  ·obtain ⟨rfl,rfl⟩:=h1;simp [d3.symm,d5.symm,d6.symm,d6,d3,d5]
  ·by_cases h2:l="M"∧x=n
   ·obtain ⟨rfl,rfl⟩:=h2;simp [d6,d2,d4,d2.symm,d4.symm]
   ·by_cases h3:l="f"∧x=f
    ·obtain ⟨rfl,rfl⟩:=h3;simp [d1,d1.symm,d4,d5]
    ·by_cases h4:l="F"∧x=n
     ·obtain ⟨rfl,rfl⟩:=h4;simp [d1,d2,d3]
     ·simp [h1,h2,h3,h4]
theorem ZgE:Adds "F" VJ:=⟨fun F G e n s=>by
 cases e with
 |born n' s' d f m =>
  show Xj F n' f m ("F",n)=_;rw [U2];dsimp only [VJ];by_cases h:n'=n∧f≠""
  ·rw [Qc h,Qc ⟨rfl,h.1.symm,h.2⟩,h.1]
  ·rw [Qa h,Qa (fun z=>h ⟨z.2.1.symm,z.2.2⟩),Qa (fun z=>absurd z.1 (by decide +kernel)),Qa (fun z=>absurd z.1 (by decide +kernel)),Qa (fun z=>absurd z.1 (by decide +kernel))];exact Z7 s
 |taken c t d=>show Z8 (Z8 F ("T",c) t) ("t",t) c ("F",n)=_;rw [YO,Qa (fun z=>absurd z.1 (by decide +kernel)),YO,Qa (fun z=>absurd z.1 (by decide +kernel))];exact Z7 s
 |union a b d=>show ZJ _ _ _ _ _=_;rw [Yp _ _ _ _ _ _ (by decide +kernel),Yp _ _ _ _ _ _ (by decide +kernel)];exact Z7 s
 |parted a b d=>show ZJ _ _ _ _ _=_;rw [Yp _ _ _ _ _ _ (by decide +kernel),Yp _ _ _ _ _ _ (by decide +kernel)];exact Z7 s
 |dead a d=>exact Z7 s
 |given a b am d=>exact Z7 s⟩
theorem Zec:Adds "M" Vo:=⟨fun F G e n s=>by
 cases e with
 |born n' s' d f m =>
  show Xj F n' f m ("M",n)=_;rw [U2,Qa (fun z=>absurd z.1 (by decide +kernel)),Qa (fun z=>absurd z.1 (by decide +kernel))];dsimp only [Vo];by_cases h:n'=n∧m≠""
  ·rw [Qc h,Qc ⟨rfl,h.1.symm,h.2⟩,h.1]
  ·rw [Qa h,Qa (fun z=>h ⟨z.2.1.symm,z.2.2⟩),Qa (fun z=>absurd z.1 (by decide +kernel))];exact Z7 s
 |taken c t d=>show Z8 (Z8 F ("T",c) t) ("t",t) c ("M",n)=_;rw [YO,Qa (fun z=>absurd z.1 (by decide +kernel)),YO,Qa (fun z=>absurd z.1 (by decide +kernel))];exact Z7 s
 |union a b d=>show ZJ _ _ _ _ _=_;rw [Yp _ _ _ _ _ _ (by decide +kernel),Yp _ _ _ _ _ _ (by decide +kernel)];exact Z7 s
 |parted a b d=>show ZJ _ _ _ _ _=_;rw [Yp _ _ _ _ _ _ (by decide +kernel),Yp _ _ _ _ _ _ (by decide +kernel)];exact Z7 s
 |dead a d=>exact Z7 s
 |given a b am d=>exact Z7 s⟩
theorem Zew:Adds "f" VB:=⟨fun F G e n s=>by
 cases e with
 |born n' s' d f m =>
  show Xj F n' f m ("f",n)=_;rw [U2,Qa (fun z=>absurd z.1 (by decide +kernel))];dsimp only [VB];by_cases h:f=n∧f≠""
  ·rw [Qc h,Qc ⟨rfl,h.1.symm,h.2⟩,h.1]
  ·rw [Qa h,Qa (fun z=>h ⟨z.2.1.symm,z.2.2⟩),Qa (fun z=>absurd z.1 (by decide +kernel)),Qa (fun z=>absurd z.1 (by decide +kernel))];exact Z7 s
 |taken c t d=>show Z8 (Z8 F ("T",c) t) ("t",t) c ("f",n)=_;rw [YO,Qa (fun z=>absurd z.1 (by decide +kernel)),YO,Qa (fun z=>absurd z.1 (by decide +kernel))];exact Z7 s
 |union a b d=>show ZJ _ _ _ _ _=_;rw [Yp _ _ _ _ _ _ (by decide +kernel),Yp _ _ _ _ _ _ (by decide +kernel)];exact Z7 s
 |parted a b d=>show ZJ _ _ _ _ _=_;rw [Yp _ _ _ _ _ _ (by decide +kernel),Yp _ _ _ _ _ _ (by decide +kernel)];exact Z7 s
 |dead a d=>exact Z7 s
 |given a b am d=>exact Z7 s⟩
theorem Zeo:Adds "m" VO:=⟨fun F G e n s=>by
 cases e with
 |born n' s' d f m =>
  show Xj F n' f m ("m",n)=_;rw [U2,Qa (fun z=>absurd z.1 (by decide +kernel)),Qa (fun z=>absurd z.1 (by decide +kernel)),Qa (fun z=>absurd z.1 (by decide +kernel))];dsimp only [VO];by_cases h:m=n∧m≠""
  ·rw [Qc h,Qc ⟨rfl,h.1.symm,h.2⟩,h.1]
  ·rw [Qa h,Qa (fun z=>h ⟨z.2.1.symm,z.2.2⟩)];exact Z7 s
 |taken c t d=>show Z8 (Z8 F ("T",c) t) ("t",t) c ("m",n)=_;rw [YO,Qa (fun z=>absurd z.1 (by decide +kernel)),YO,Qa (fun z=>absurd z.1 (by decide +kernel))];exact Z7 s
 |union a b d=>show ZJ _ _ _ _ _=_;rw [Yp _ _ _ _ _ _ (by decide +kernel),Yp _ _ _ _ _ _ (by decide +kernel)];exact Z7 s
 |parted a b d=>show ZJ _ _ _ _ _=_;rw [Yp _ _ _ _ _ _ (by decide +kernel),Yp _ _ _ _ _ _ (by decide +kernel)];exact Z7 s
 |dead a d=>exact Z7 s
 |given a b am d=>exact Z7 s⟩
theorem Jj (F:ZI) (n f m l x:Str) (h1:l≠"F") (h2:l≠"f") (h3:l≠"M") (h4:l≠"m"):Xj F n f m (l,x)=F (l,x):=by
 rw [U2,Qa (fun z=>h1 z.1),Qa (fun z=>h2 z.1),Qa (fun z=>h3 z.1),Qa (fun z=>h4 z.1)]
theorem Zf8:Adds "T" VT:=⟨fun F G e n s=>by
 cases e with
 |born n' s' d f m=>show Xj F n' f m ("T",n)=_;rw [Jj _ _ _ _ _ _ (by decide +kernel) (by decide +kernel) (by decide +kernel) (by decide +kernel)];exact Z7 s
 |taken c t d =>
  show Z8 (Z8 F ("T",c) t) ("t",t) c ("T",n)=_;rw [YO,Qa (fun z=>absurd z.1 (by decide +kernel)),YO];dsimp only [VT];by_cases h:c=n
  ·rw [Qc h,Qc ⟨rfl,h.symm⟩,h]
  ·rw [Qa h,Qa (fun z=>h z.2.symm)];exact Z7 s
 |union a b d=>show ZJ _ _ _ _ _=_;rw [Yp _ _ _ _ _ _ (by decide +kernel),Yp _ _ _ _ _ _ (by decide +kernel)];exact Z7 s
 |parted a b d=>show ZJ _ _ _ _ _=_;rw [Yp _ _ _ _ _ _ (by decide +kernel),Yp _ _ _ _ _ _ (by decide +kernel)];exact Z7 s
 |dead a d=>exact Z7 s
 |given a b am d=>exact Z7 s⟩
theorem Ze6:Adds "t" VL:=⟨fun F G e n s=>by
 cases e with
 |born n' s' d f m=>show Xj F n' f m ("t",n)=_;rw [Jj _ _ _ _ _ _ (by decide +kernel) (by decide +kernel) (by decide +kernel) (by decide +kernel)];exact Z7 s
 |taken c t d =>
  show Z8 (Z8 F ("T",c) t) ("t",t) c ("t",n)=_;rw [YO];dsimp only [VL];by_cases h:t=n
  ·rw [Qc h,Qc ⟨rfl,h.symm⟩,YO,Qa (fun z=>absurd z.1 (by decide +kernel)),h]
  ·rw [Qa h,Qa (fun z=>h z.2.symm),YO,Qa (fun z=>absurd z.1 (by decide +kernel))];exact Z7 s
 |union a b d=>show ZJ _ _ _ _ _=_;rw [Yp _ _ _ _ _ _ (by decide +kernel),Yp _ _ _ _ _ _ (by decide +kernel)];exact Z7 s
 |parted a b d=>show ZJ _ _ _ _ _=_;rw [Yp _ _ _ _ _ _ (by decide +kernel),Yp _ _ _ _ _ _ (by decide +kernel)];exact Z7 s
 |dead a d=>exact Z7 s
 |given a b am d=>exact Z7 s⟩
theorem Adds.all {l:Str} {ad:Str->Ent->List Str} (A:Adds l ad) (n:Str):∀es:List Ent,(YD es).1 (l,n)=ZD (es.flatMap (ad n)):=by
 intro es
 have go:∀(es:List Ent) (p:ZI×X2) (xs:List Str),p.1 (l,n)=ZD xs->(es.foldl Ud p).1 (l,n)=ZD (xs++es.flatMap (ad n)):=by
  intro es
  induction es with
  |nil=>intro p xs h;rw [List.flatMap_nil,Qv];exact h
  |cons e es ih =>
   intro p xs h;rw [RA,ND,←NE];refine ih _ (xs++ad n e) ?_;show WK p.1 p.2 e (l,n)=_;rw [A.step p.1 p.2 e n (by rw [h];exact UL _),h,Zk5]
 exact go es _ [] (Zeu .nil).symm
noncomputable def Ent.pr:Ent->Str×Str
 |.union a b _=>(a,b)
 |.parted a b _=>(a,b)
 |_=>("","")
noncomputable def Ent.kind:Ent->Str
 |.union ..=>"union"
 |.parted ..=>"parted"
 |_=>""
def X8 (e:Ent):Prop:=e.tie=true->e.pr.1≠e.pr.2
theorem Zdx {a b n w:Str} (h:Zg n w=Zg a b):(n=a∧w=b)∨(n=b∧w=a):=by
 unfold Zg at h;split at h<;>split at h<;>injection h with h1 h2
 ·exact .inl ⟨h2,h1⟩
 ·exact .inr ⟨h2,h1⟩
 ·exact .inr ⟨h1,h2⟩
 ·exact .inl ⟨h1,h2⟩
noncomputable def Wr (st:Bool) (L:List Str) (y:Str):List Str:=if st=true then ZD (L.filter (fun n=>decide (n≠y))++[y]) else L.filter fun n=>decide (n≠y)
theorem ZgH {st:Bool} {L:List Str} {y:Str} (h:L.Pairwise fun a b=>YI a b=true):(Wr st L y).Pairwise fun a b=>YI a b=true:=by
 unfold Wr;split
 ·exact UL _
 ·exact h.filter _
theorem ZgQ {p:Str->Bool} {L:List Str} (h:L.Nodup):(L.filter p).Nodup:=List.Pairwise.filter p h
theorem Zev {st:Bool} {L:List Str} {y:Str} (h:L.Nodup):(Wr st L y).Nodup:=by
 unfold Wr;split
 ·refine (Wq _).symm.nodup ?_;rw [Rc];refine ⟨ZgQ h,by simp,fun a ha b hb e=>?_⟩;have:b=y:=by simpa using hb
  subst this e;have:=(Q7.mp ha).2;simp at this
 ·exact ZgQ h
theorem ZfM {st:Bool} {L:List Str} {y w:Str}:w∈Wr st L y↔(w≠y∧w∈L)∨(w=y∧st=true):=by
 unfold Wr;by_cases h:st=true
 ·rw [Qc h,(Wq _).mem_iff,Qm,Q7];simp [h,and_comm]
 ·rw [Qa h,Q7];simp [h,and_comm]
theorem ZbU (F:ZI) (st:Bool) (x y n:Str):ZJ F st x y ("S",n)=if n=x then Wr st (F ("S",x)) y else F ("S",n):=by
 unfold ZJ Wr;by_cases h:n=x
 ·subst h;rw [Qc rfl,Qc rfl]
 ·rw [Qa (fun e=>h (by injection e)),Qa h]
structure SOk (F:ZI) (G:X2):Prop where
 up:∀n,(F ("S",n)).Pairwise fun a b=>YI a b=true
 nd:∀n,(F ("S",n)).Nodup
 mem:∀n w,w∈F ("S",n)↔YK (G (Zg n w))=true
theorem Zgl {F:ZI} {G:X2} {a b:Str} (ne:a≠b) (h:SOk F G) (l:List (Int×Str)) :
  SOk (ZJ (ZJ F (YK l) a b) (YK l) b a) (fun c=>if c=Zg a b then l else G c):=by
 have e:∀n,ZJ (ZJ F (YK l) a b) (YK l) b a ("S",n)=if n=b then Wr (YK l) (F ("S",b)) a else if n=a then Wr (YK l) (F ("S",a)) b else F ("S",n):=fun n=>by
  rw [ZbU];by_cases h1:n=b
  ·rw [Qc h1,Qc h1,ZbU,Qa ne.symm]
  ·rw [Qa h1,Qa h1,ZbU]
 refine ⟨fun n=>?_,fun n=>?_,fun n w=>?_⟩
 ·rw [e];split
  ·exact ZgH (h.up _)
  ·split
   ·exact ZgH (h.up _)
   ·exact h.up _
 ·rw [e];split
  ·exact Zev (h.nd _)
  ·split
   ·exact Zev (h.nd _)
   ·exact h.nd _
 ·rw [e];show _↔YK (if Zg n w=Zg a b then l else G (Zg n w))=true;by_cases h1:n=b
  ·subst h1;rw [Qc rfl,ZfM];by_cases h2:w=a
   ·subst h2;rw [Qc (ZcS n w)];simp
   ·rw [Qa (fun z=>(Zdx z).elim (fun e=>ne e.1.symm) fun e=>h2 e.2),←h.mem];simp [h2]
  ·rw [Qa h1];by_cases h3:n=a
   ·subst h3;rw [Qc rfl,ZfM];by_cases h2:w=b
    ·subst h2;rw [Qc rfl];simp
    ·rw [Qa (fun z=>(Zdx z).elim (fun e=>h2 e.2) fun e=>h1 e.1),←h.mem];simp [h2]
   ·rw [Qa h3,Qa (fun z=>(Zdx z).elim (fun e=>h3 e.1) fun e=>h1 e.1),←h.mem]
theorem SOk.same {F F':ZI} {G:X2} (h:SOk F G) (e:∀n,F' ("S",n)=F ("S",n)):SOk F' G:=⟨fun n=>by rw [e];exact h.up n,fun n=>by rw [e];exact h.nd n,fun n w=>by rw [e];exact h.mem n w⟩
theorem Ziw {F:ZI} {G:X2} {e:Ent} (ap:X8 e) (h:SOk F G):SOk (WK F G e) (UE G e):=by
 cases e with
 |union a b d=>exact Zgl (ap rfl) h _
 |parted a b d=>exact Zgl (ap rfl) h _
 |born n s d f m=>exact h.same fun n'=>Jj _ _ _ _ _ _ (by decide +kernel) (by decide +kernel) (by decide +kernel) (by decide +kernel)
 |taken c t d =>
  refine h.same fun n'=>?_;show Z8 (Z8 F ("T",c) t) ("t",t) c ("S",n')=_;rw [YO,Qa (fun z=>absurd z.1 (by decide +kernel)),YO,Qa (fun z=>absurd z.1 (by decide +kernel))]
 |dead n d=>exact h.same fun n'=>rfl
 |given a b am d=>exact h.same fun n'=>rfl
theorem ZkD {es:List Ent} (h:∀e∈es,X8 e):SOk (YD es).1 (YD es).2:=by
 have go:∀(es:List Ent) (p:ZI×X2),(∀e∈es,X8 e)->SOk p.1 p.2->SOk (es.foldl Ud p).1 (es.foldl Ud p).2:=by
  intro es
  induction es with
  |nil=>intro p _ h;exact h
  |cons e es ih =>
   intro p ha h;exact ih _ (fun x hx=>ha x (QE _ hx)) (Ziw (ha e (QD ..)) h)
 exact go es _ h ⟨fun n=>.nil,fun n=>.nil,fun n w=>by simp [YK]⟩
noncomputable def tl (c:Str×Str) (es:List Ent):List (Int×Str):=es.filterMap fun e=>if e.tie=true∧Zg e.pr.1 e.pr.2=c then some (e.day,e.kind) else none
theorem Zfa {l:List (Int×Str)} {d:Int} {k:Str} (h:d∉l.map (·.1)):Zn l d k=l++[(d,k)]:=by
 unfold Zn;rw [Qa];intro z;rw [Gs] at z;obtain ⟨q,hq,e⟩:=z;exact h (Qj.mpr ⟨q,hq,QC e⟩)
theorem Zoj {G:X2} {es:List Ent} {e:Ent} (hG:∀c,G c=tl c es) (n:e.tie=true->e.day∉(tl (Zg e.pr.1 e.pr.2) es).map (·.1)) (c:Str×Str):UE G e c=tl c (es++[e]):=by
 have ap:tl c (es++[e])=tl c es++tl c [e]:=by unfold tl;rw [Rx]
 rw [ap];cases e with
 |union a b d =>
  show (if c=Zg a b then Zn (G (Zg a b)) d "union" else G c)=_;by_cases h:c=Zg a b
  ·subst h;have n':d∉(tl (Zg a b) es).map (·.1):=n rfl;rw [Qc rfl,hG,Zfa n'];simp [tl,Ent.tie,Ent.pr,Ent.day,Ent.kind]
  ·rw [Qa h,hG];simp [tl,Ent.tie,Ent.pr,Q2 h]
 |parted a b d =>
  show (if c=Zg a b then Zn (G (Zg a b)) d "parted" else G c)=_;by_cases h:c=Zg a b
  ·subst h;have n':d∉(tl (Zg a b) es).map (·.1):=n rfl;rw [Qc rfl,hG,Zfa n'];simp [tl,Ent.tie,Ent.pr,Ent.day,Ent.kind]
  ·rw [Qa h,hG];simp [tl,Ent.tie,Ent.pr,Q2 h]
 |_=>rw [show UE G _ c=G c from rfl,hG];simp [tl,Ent.tie]
def Once (es:List Ent):Prop:=∀c,((tl c es).map (·.1)).Nodup
theorem Once.init {es:List Ent} {e:Ent} (h:Once (es++[e])):Once es∧(e.tie=true->e.day∉(tl (Zg e.pr.1 e.pr.2) es).map (·.1)):=by
 have ap:∀c,tl c (es++[e])=tl c es++tl c [e]:=fun c=>by unfold tl;rw [Rx]
 refine ⟨fun c=>?_,fun t m=>?_⟩
 ·have:=h c;rw [ap,Qq,Rc] at this;exact this.1
 ·have:=h (Zg e.pr.1 e.pr.2);rw [ap,Qq,Rc] at this;have e1:tl (Zg e.pr.1 e.pr.2) [e]=[(e.day,e.kind)]:=by simp [tl,t]
  rw [e1] at this;exact this.2.2 _ m _ (QD ..) rfl
theorem Zf2 {es:List Ent} (h:Once es) (c:Str×Str):(YD es).2 c=tl c es:=by
 have go:∀n (es:List Ent),es.length=n->Once es->∀c,(YD es).2 c=tl c es:=by
  intro n
  induction n with
  |zero =>
   intro es hl _ c;rw [List.length_eq_zero_iff.mp hl];rfl
  |succ n ih =>
   intro es hl ho c;obtain ⟨xs,x,rfl⟩:∃xs x,es=xs++[x]:=⟨es.dropLast,es.getLast (by intro z;rw [z] at hl;cases hl),(NA _).symm⟩;obtain ⟨o1,o2⟩:=ho.init;rw [Zaw];exact Zoj (ih xs (by rw [Qw] at hl;exact Nat.succ.inj hl) o1) o2 c
 exact go _ es rfl h c
noncomputable def WV (a b:Str) (last:Option Ent) (e:Ent):Option Ent:=if e.tie=true∧Zg e.pr.1 e.pr.2=Zg a b then (match last with|none=>some e|some l=>if l.day<e.day then some e else some l) else last
noncomputable def Za4 (ds:List Ent) (a b:Str):Bool:=match ds.foldl (WV a b) none with
 |some e=>decide (e.kind="union")
 |none=>false
def UT (last:Option Ent) (l:List (Int×Str)):Prop:=match last with
 |none=>l=[]
 |some e=>(e.day,e.kind)∈l∧∀q∈l,q.1≤e.day
theorem ZiA {a b:Str} {last:Option Ent} {xs:List Ent} {e:Ent} (h:UT last (tl (Zg a b) xs)):UT (WV a b last e) (tl (Zg a b) (xs++[e])):=by
 have ap:tl (Zg a b) (xs++[e])=tl (Zg a b) xs++tl (Zg a b) [e]:=by unfold tl;rw [Rx]
 rw [ap];unfold WV;by_cases c:e.tie=true∧Zg e.pr.1 e.pr.2=Zg a b
 ·rw [Qc c];have e1:tl (Zg a b) [e]=[(e.day,e.kind)]:=by unfold tl;simp [c.1,c.2]
  rw [e1];cases last with
  |none =>
   have h':tl (Zg a b) xs=[]:=h;rw [h'];exact ⟨QD ..,fun q hq=>by rw [show q=(e.day,e.kind) by simpa using hq];exact GT _⟩
  |some l =>
   obtain ⟨h1,h2⟩:=(show (l.day,l.kind)∈tl (Zg a b) xs∧∀q∈tl (Zg a b) xs,q.1≤l.day from h);by_cases lt:l.day<e.day
   ·show UT (if l.day<e.day then some e else some l) _;rw [Qc lt];refine ⟨by simp,fun q hq=>?_⟩;rcases Qm.mp hq with hq|hq
    ·have:=h2 q hq;show q.1≤e.day;omega
    ·rw [show q=(e.day,e.kind) by simpa using hq];exact GT _
   ·show UT (if l.day<e.day then some e else some l) _;rw [Qa lt];refine ⟨Qm.mpr (.inl h1),fun q hq=>?_⟩;rcases Qm.mp hq with hq|hq
    ·exact h2 q hq
    ·rw [show q=(e.day,e.kind) by simpa using hq];show e.day≤l.day;omega
 ·rw [Qa c];have e1:tl (Zg a b) [e]=[]:=by unfold tl;simp [c]
  rw [e1,Qv];exact h
theorem Zf9 {a b:Str}:∀(ds xs:List Ent) (last:Option Ent),UT last (tl (Zg a b) xs)->UT (ds.foldl (WV a b) last) (tl (Zg a b) (xs++ds))
 |[],xs,last,h=>by rw [Qv];exact h
 |e::ds,xs,last,h=>by
  rw [RA,show xs++e::ds=(xs++[e])++ds by simp];exact Zf9 ds (xs++[e]) _ (ZiA h)
theorem ZnN {l:List (Int×Str)} {m:Int} {k:Str}:(l.map (·.1)).Nodup->(m,k)∈l->ZB m l=some k:=by
 induction l with
 |nil=>intro _ h;cases h
 |cons q r ih =>
  intro n h;rw [Qr,QR] at n;unfold ZB;rcases Qh.mp h with h|h
  ·rw [Qc (by rw [←h]),←h]
  ·rw [Qa (fun z=>n.1 (Qj.mpr ⟨(m,k),h,z.symm⟩))];exact ih n.2 h
theorem ZmJ {ds:List Ent} (o:Once ds) (a b:Str):Za4 ds a b=YK (tl (Zg a b) ds):=by
 have h:=Zf9 (a:=a) (b:=b) ds [] none rfl;rw [List.nil_append] at h;unfold Za4;cases hl:ds.foldl (WV a b) none with
 |none =>
  rw [hl] at h;rw [show tl (Zg a b) ds=[] from h];rfl
 |some e =>
  rw [hl] at h;obtain ⟨h1,h2⟩:=(show (e.day,e.kind)∈tl (Zg a b) ds∧∀q∈tl (Zg a b) ds,q.1≤e.day from h)
  have:=Zd4 (l:=tl (Zg a b) ds) (m:=e.day) (x:=e.kind) (Qj.mpr ⟨_,h1,rfl⟩) (fun y hy=>by
   obtain ⟨q,hq,rfl⟩:=Qj.mp hy;exact h2 q hq) (ZnN (o _) h1)
  rw [this]
theorem ZhD (e:Ent):e.told.tie=e.tie∧Zg e.told.pr.1 e.told.pr.2=Zg e.pr.1 e.pr.2∧e.told.day=e.day∧e.told.kind=e.kind:=by
 cases e with
 |union a b d=>exact ⟨rfl,Vl a b,rfl,rfl⟩
 |parted a b d=>exact ⟨rfl,Vl a b,rfl,rfl⟩
 |_=>exact ⟨rfl,rfl,rfl,rfl⟩
theorem Znv {e:Ent} (h:X8 e):X8 e.told:=fun t=>by
 obtain ⟨h1,h2,_,_⟩:=ZhD e;rw [h1] at t;have ne:=h t;intro z;apply ne
 have:∀a b:Str,(Zg a b).1=(Zg a b).2->a=b:=fun a b h=>by
  unfold Zg at h;split at h
  ·exact h.symm
  ·exact h
 cases e with
 |union a b d=>exact this a b z
 |parted a b d=>exact this a b z
 |_=>cases t
theorem ZdU {f:Ent->List Str} (h:∀e,(f e).length≤1):∀l:List Ent,(l.flatMap f).length≤l.length
 |[]=>Qf _
 |e::l=>by
  rw [ND,Qw,QM];have:=ZdU h l;have:=h e;omega
theorem UH (n:Str) (e:Ent):(VJ n e).length≤1∧(Vo n e).length≤1∧(VB n e).length≤1∧(VO n e).length≤1∧(VT n e).length≤1∧(VL n e).length≤1:=by
 cases e<;>simp only [VJ,Vo,VB,VO,VT,VL]<;>refine ⟨?_,?_,?_,?_,?_,?_⟩<;>(try split)<;>simp
theorem ZnR {es:List Ent} {l:Str} (h:l∉Xw) (n:Str):(YD es).1 (l,n)=[]:=by
 have hh:l≠"F"∧l≠"M"∧l≠"T"∧l≠"f"∧l≠"m"∧l≠"t"∧l≠"S":=by simpa [Xw] using h
 obtain ⟨h1,h2,h3,h4,h5,h6,h7⟩:=hh
 have go:∀(es:List Ent) (p:ZI×X2),p.1 (l,n)=[]->(es.foldl Ud p).1 (l,n)=[]:=by
  intro es
  induction es with
  |nil=>intro p h;exact h
  |cons e es ih =>
   intro p h;rw [RA];refine ih _ ?_;show WK p.1 p.2 e (l,n)=[];cases e with
   |born n' s d f m=>show Xj p.1 n' f m (l,n)=[];rw [Jj _ _ _ _ _ _ h1 h4 h2 h5];exact h
   |taken c t d=>show Z8 (Z8 p.1 ("T",c) t) ("t",t) c (l,n)=[];rw [YO,Qa (fun z=>h6 z.1),YO,Qa (fun z=>h3 z.1)];exact h
   |union a b d=>show ZJ _ _ _ _ _=[];rw [Yp _ _ _ _ _ _ h7,Yp _ _ _ _ _ _ h7];exact h
   |parted a b d=>show ZJ _ _ _ _ _=[];rw [Yp _ _ _ _ _ _ h7,Yp _ _ _ _ _ _ h7];exact h
   |dead a d=>exact h
   |given a b am d=>exact h
 exact go es _ rfl
structure BSt (B:Bk) (es:List Ent):Prop where
 kept:B.kept.map (·.1)=es
 lks:lk B.links=(YD es).1
 tis:YR B.ties=(YD es).2
 nd:(B.ties.map (·.1)).Nodup
 nl:B.links.length≤4*es.length
 nt:B.ties.length≤es.length
 ns:B.sums.length≤es.length
theorem BSt.start:BSt Y8 []:=⟨rfl,rfl,rfl,.nil,Qf _,Qf _,Qf _⟩
theorem BSt.put {B B':Bk} {es:List Ent} {e:Ent} (h:BSt B es) (p:Put B e B'):BSt B' (es++[e.told]):=by
 obtain ⟨a,hk⟩:=p.kept;have l1:(es++[e.told]).length=es.length+1:=by rw [Qw];rfl
 have n1:=p.nl;have n2:=p.nt;have n3:=p.ns;have m1:=h.nl;have m2:=h.nt;have m3:=h.ns;refine ⟨by rw [hk,Qq,h.kept];rfl,?_,?_,p.nd,by omega,by omega,by omega⟩
 ·funext c
  rw [Zaw,p.lks,h.lks,h.tis];rfl
 ·funext c
  rw [Zaw,p.tis,h.tis];rfl
theorem Zle (c:Str×Str) (es:List Ent):(tl c es).length≤es.length:=GP ..
theorem ZgC {κ:Type} [DecidableEq κ] {k:κ}:∀{l:List (κ×V)},(∀p∈l,p.1≠k)->ZN l k=none
 |[],_=>rfl
 |p::l,h=>by
  rw [X6 (h p (QD ..))];exact ZgC fun q hq=>h q (QE _ hq)
theorem ZmG {B:Bk} {es:List Ent} (hk:B.kept.map (·.1)=es) {k:List Zi} (h:∀e∈es,e.key≠k):ZN B.keptD k=none:=by
 refine ZgC fun p hp=>?_;obtain ⟨q,hq,rfl⟩:=Qj.mp hp;exact h q.1 (by rw [←hk];exact Qj.mpr ⟨q,hq,rfl⟩)
theorem J4 {B:Bk} {es:List Ent} (hk:B.kept.map (·.1)=es):B.kept.length=es.length:=by rw [←hk,Qd]
theorem ZaZ {bs:List (Ent×Addr)} {i:Nat} {y:V} (h:(Z3 bs)[i]?=some y):∃p,bs[i]?=some p∧y=.ref p.2:=by
 unfold Z3 at h;rw [Qp] at h;obtain ⟨p,hp,e⟩:=QH.mp h;exact ⟨p,hp,e.symm⟩
theorem Wf (bs:List (Ent×Addr)):(Z3 bs).length=bs.length:=by unfold Z3;rw [Qd]
theorem ZkR (l:List Str):(l.map V.str).all WU=true:=by
 rw [GN,Rp];intro x _;rfl
def Zmv (K:W.Frag) (H:Hp) (B:Bk) (x:V):Prop:=(∃ty,Kd K H x ty∧W.kitOne K ty (.type "str")=some false)∨∃n,x=.str n∧Z6 n B.kept=none
theorem Za0 (ds:List (Ent×Addr)) (k:Nat) (h:k≤ds.length):Xm (Z3 ds) none (some (k:Int))=Z3 (ds.take k):=by
 unfold Xm;show ((Z3 ds).drop 0).take (HT.sIx (Z3 ds).length (Z3 ds).length (some (k:Int))-0)=_;rw [HT.sIx_nat,List.drop_zero,Nat.sub_zero,Wf,NF h];unfold Z3;rw [Gu]
theorem Zom {ds:List (Ent×Addr)} {i:Nat} {p:Ent×Addr} (h:ds[i]?=some p):ds.take (i+1)=ds.take i++[p]:=by
 rw [Q5,h];rfl
theorem Zdm {bs:List (Ent×Addr)} {i:Nat} {p:Ent×Addr} (h:bs[i]?=some p):(bs.take (i+1)).map (·.1)=(bs.take i).map (·.1)++[p.1]:=by
 rw [Zom h,Qq];rfl
theorem Zin (l:List (Ent×Addr)):(Bk.bornD l).length=(Wm l).length:=by rw [Zhx,Qd,←Zjm,Qd]
theorem ZiY {n:Str} {d:Int} (hn:Nm n) (d1:-10 ^ 18≤d) (d2:d≤10 ^ 18):(Ent.dead n d).Ok:=by
 refine ⟨?_,fun y hy=>?_⟩
 ·show Ve [.str "dead",.str n,.int d]=true;rw [Jv,show WJ "dead"=some [.name,.day] by rfl];show XA _ _=true;unfold XA;simp [ZT,V0,hn.ok,ZbP d1 d2]
 ·simp only [Ent.row,Qh,QX,QY] at hy;rcases hy with h|h|h
  ·cases h;decide +kernel
  ·cases h;exact UD hn
  ·cases h
noncomputable def amt (c:Str×Str):Ent->Int
 |.given g t am _=>if c=(g,t) then am else 0
 |_=>0
noncomputable def JI (c:Str×Str) (es:List Ent):Int:=(es.map (amt c)).sum
theorem Zks (c:Str×Str) (es:List Ent) (e:Ent):JI c (es++[e])=JI c es+amt c e:=by
 unfold JI;rw [Qq,List.sum_append];simp
theorem Zg1 {F:Str×Str->List Str} {st:Bool} {a b:Str} (ne:a≠b) (c:Str×Str):(ZJ (ZJ F st a b) st b a c).length≤(F c).length+1:=by
 by_cases e:c=(("S",b):Str×Str)
 ·refine Qn (ZcD ..) ?_
  have:ZJ F st a b c=F c:=by
   unfold ZJ;rw [Qa];intro z;rw [e] at z;injection z with _ z2;exact ne z2.symm
  rw [this];exact Qf _
 ·have:ZJ (ZJ F st a b) st b a c=ZJ F st a b c:=by
   show (if c=(("S",b):Str×Str) then _ else ZJ F st a b c)=_;rw [Qa e]
  rw [this];exact ZcD ..
def D5 (pool:List Str) (e:Ent):Prop:=e.Ok∧(∀n∈e.named,n∈pool)∧∀n,e.bornName=some n->n∈pool
noncomputable def LBk (ks:List (Ent×Addr)):Bk:=⟨ks,[],[],[]⟩
structure KsOk (ks:List (Ent×Addr)):Prop where
 told:∀p∈ks,p.1.told=p.1
 nd:(Wm ks).Nodup
 len:ks.length≤60
theorem Zlv {k:List Zi}:∀{l m:List (Ent×Addr)},l.map (·.1)=m.map (·.1)->(ZN (l.map fun p=>(p.1.key,V.ref p.2)) k).isSome=(ZN (m.map fun p=>(p.1.key,V.ref p.2)) k).isSome:=by
 intro l
 induction l with
 |nil=>intro m h;cases m with
  |nil=>rfl
  |cons q m=>cases h
 |cons p l ih=>intro m h;cases m with
  |nil=>cases h
  |cons q m =>
   have h1:p.1=q.1:=(G6 h).1;have h2:=(G6 h).2;rw [Qr,Qr];by_cases c:p.1.key=k
   ·rw [XT (show (p.1.key,V.ref p.2).1=k from c),XT (show q.1.key=k by rw [←h1];exact c)];rfl
   ·rw [X6 (show ¬(p.1.key,V.ref p.2).1=k from c),X6 (show ¬q.1.key=k by rw [←h1];exact c)];exact ih h2
theorem Zmw {k:List Zi}:∀{ks:List (Ent×Addr)},(∃p∈ks,p.1.key=k)->(ZN (LBk ks).keptD k).isSome=true:=by
 intro ks
 induction ks with
 |nil=>rintro ⟨p,hp,_⟩;cases hp
 |cons q ks ih =>
  rintro ⟨p,hp,e⟩;show (ZN ((q.1.key,V.ref q.2)::(LBk ks).keptD) k).isSome=true;by_cases c:q.1.key=k
  ·rw [XT (show (q.1.key,V.ref q.2).1=k from c)];rfl
  ·rw [X6 (show ¬(q.1.key,V.ref q.2).1=k from c)];rcases Qh.mp hp with rfl|hp
   ·exact absurd e c
   ·exact ih ⟨p,hp,e⟩
theorem ZiJ:∀{es:List Ent},(∀e∈es,X8 e)->∀n,((YD es).1 ("S",n)).length≤es.length:=by
 have go:∀k (es:List Ent),es.length=k->(∀e∈es,X8 e)->∀n,((YD es).1 ("S",n)).length≤es.length:=by
  intro k
  induction k with
  |zero =>
   intro es h _ n;have:es=[]:=List.eq_nil_of_length_eq_zero h;subst this;exact Qf _
  |succ k ih =>
   intro es h ap n;have ne:es≠[]:=fun z=>by rw [z] at h;cases h
   obtain ⟨xs,e,rfl⟩:∃xs e,es=xs++[e]:=⟨_,_,(NA ne).symm⟩;have lx:xs.length=k:=by rw [Qw] at h;exact Nat.succ.inj h
   have ih:=ih xs lx (fun x hx=>ap x (Qm.mpr (.inl hx))) n;have ae:=ap e (Qm.mpr (.inr (QO.mpr rfl)));rw [Zaw,Qw]
   have key:(WK (YD xs).1 (YD xs).2 e ("S",n)).length≤((YD xs).1 ("S",n)).length+1:=by
    cases e with
    |born n' s d f m =>
     show (Xj (YD xs).1 n' f m ("S",n)).length≤_;rw [Jj _ _ _ _ _ _ (by decide +kernel) (by decide +kernel) (by decide +kernel) (by decide +kernel)];exact QU _
    |taken c t d =>
     show (Z8 (Z8 (YD xs).1 ("T",c) t) ("t",t) c ("S",n)).length≤_;rw [YO,Qa (fun z=>absurd z.1 (by decide +kernel)),YO,Qa (fun z=>absurd z.1 (by decide +kernel))];exact QU _
    |union a b d=>exact Zg1 (ae rfl) _
    |parted a b d=>exact Zg1 (ae rfl) _
    |dead a d=>exact QU _
    |given a b am d=>exact QU _
   show (WK (YD xs).1 (YD xs).2 e ("S",n)).length≤xs.length+1;omega
 intro es h n;exact go es.length es rfl h n
theorem ZlT {es:List Ent} (h:∀e∈es,X8 e) (c:Str×Str):((YD es).1 c).length≤es.length:=by
 obtain ⟨l,n⟩:=c
 have six:∀{ad:Str->Ent->List Str},Adds l ad->(∀e,(ad n e).length≤1)->((YD es).1 (l,n)).length≤es.length:=fun A h1=>by
  rw [A.all,(Wq _).length_eq];exact ZdU h1 es
 by_cases hl:l∈Xw
 ·simp only [Xw,Qh,QX,QY] at hl;rcases hl with rfl|rfl|rfl|rfl|rfl|rfl|rfl
  ·exact six ZgE fun e=>(UH n e).1
  ·exact six Zec fun e=>(UH n e).2.1
  ·exact six Zf8 fun e=>(UH n e).2.2.2.2.1
  ·exact six Zew fun e=>(UH n e).2.2.1
  ·exact six Zeo fun e=>(UH n e).2.2.2.1
  ·exact six Ze6 fun e=>(UH n e).2.2.2.2.2
  ·exact ZiJ h n
 ·rw [ZnR hl];exact QK _
theorem Zm8 {ds:List Ent} (h:(ds.map fun e=>e.told.key).Nodup):Once ds:=by
 intro c
 have go:∀ds:List Ent,(ds.map fun e=>e.told.key).Nodup->((tl c ds).map (·.1)).Nodup:=by
  intro ds
  induction ds with
  |nil=>intro _;exact .nil
  |cons e ds ih =>
   intro n;rw [Qr,QR] at n;have ih:=ih n.2;unfold tl at ih ⊢;rw [QL];by_cases cc:e.tie=true∧Zg e.pr.1 e.pr.2=c
   ·rw [Qc cc];show (_::_).Nodup;rw [QR];refine ⟨fun m=>?_,ih⟩;obtain ⟨q,hq,eq⟩:=Qj.mp m;obtain ⟨x,hx,ex⟩:=Rj.mp hq;by_cases c2:x.tie=true∧Zg x.pr.1 x.pr.2=c
    ·rw [Qc c2] at ex;have:=Ql ex;subst this;refine n.1 (Qj.mpr ⟨x,hx,?_⟩)
     have kk:∀y:Ent,y.tie=true->y.told.key=[.inr "tie",.inr (Zg y.pr.1 y.pr.2).1,.inr (Zg y.pr.1 y.pr.2).2,.inl y.day]:=fun y hy=>by
      cases y with
      |union=>rfl
      |parted=>rfl
      |_=>cases hy
     rw [kk x c2.1,kk e cc.1,c2.2,cc.2,show x.day=e.day from eq]
    ·rw [Qa c2] at ex;cases ex
   ·rw [Qa cc];exact ih
 exact go ds h
structure LI5 (pool:List Str) (B:Bk) (ks:List (Ent×Addr)):Prop where
 st:BSt B (ks.map (·.1))
 sus:∀c,Y2 B.sums c=JI c (ks.map (·.1))
 told:∀p∈ks,p.1.told=p.1
 keys:(ks.map fun p=>p.1.told.key).Nodup
 inp:∀p∈ks,∀n,p.1.bornName=some n->n∈pool
 ap:∀p∈ks,X8 p.1
theorem LI5.start (pool:List Str):LI5 pool Y8 []:=⟨BSt.start,fun _=>rfl,fun p hp=>(by cases hp),.nil,fun p hp=>(by cases hp),fun p hp=>(by cases hp)⟩
theorem LI5.ap' {pool:List Str} {B:Bk} {ks:List (Ent×Addr)} (h:LI5 pool B ks):∀e∈ks.map (·.1),X8 e:=fun e he=>by
 obtain ⟨p,hp,rfl⟩:=Qj.mp he;exact h.ap p hp
theorem LI5.once {pool:List Str} {B:Bk} {ks:List (Ent×Addr)} (h:LI5 pool B ks):Once (ks.map (·.1)):=by
 refine Zm8 ?_;rw [QT];exact h.keys
theorem LI5.room {pool:List Str} {B:Bk} {ks:List (Ent×Addr)} (h:LI5 pool B ks) (l:ks.length≤60):Room1 B:=by
 have e:(ks.map (·.1)).length=ks.length:=Qd ..;have m1:=h.st.nl;have m2:=h.st.nt;have m3:=h.st.ns;refine ⟨h.st.nd,by omega,by omega,by omega,fun c=>?_,fun c=>?_⟩
 ·rw [h.st.lks];exact Qn (ZlT h.ap' c) (by omega)
 ·rw [h.st.tis,Zf2 h.once];exact Qn (Zle c _) (by omega)
theorem Zlb (e:Ent):e.told.bornName=e.bornName:=by cases e<;>rfl
theorem Znz {B:Bk} {e:Ent} (h:Wd B e=true):X8 e:=fun t=>by
 cases e with
 |union a b d =>
  intro z;rw [Zbp rfl,show (Ent.union a b d).same=true from Qo (show a=b from z)] at h;cases h
 |parted a b d =>
  intro z;rw [Zbp rfl,show (Ent.parted a b d).same=true from Qo (show a=b from z)] at h;cases h
 |_=>cases t
theorem ZeS {B:Bk} {e:Ent} (h:XW B e=none):B.kept.length<400∧(e.isBorn=true->(Bk.bornD B.kept).length<60)∧(∀n∈e.named,Known B n)∧ZN B.keptD e.told.key=none∧Wd B e=true:=by
 obtain ⟨h1,h2,h3⟩:=Ze5 h;unfold XW at h;by_cases f:B.full e=true
 ·rw [Qc f] at h;cases h
 ·rw [Qa f,Qa (by rw [Ze8 h3];decide),Qa (by rw [h1];decide)] at h;refine ⟨h2,fun b=>?_,h3,h1,?_⟩
  ·unfold Bk.full at f;rw [b,Gv,RV,not_or] at f;have:=f.2;rw [Gr] at this;omega
  ·cases hf:Wd B e with
   |true=>rfl
   |false=>rw [hf,Qa (by decide)] at h;cases h
theorem LI5.put {pool:List Str} {B B':Bk} {ks:List (Ent×Addr)} {e:Ent} (h:LI5 pool B ks) (p:Put B e B') (d:D5 pool e) (no:XW B e=none) (a:Addr):LI5 pool B' (ks++[(e.told,a)]):=by
 obtain ⟨_,_,_,hv,hf⟩:=ZeS no;have st:=h.st.put p;have em:(ks++[(e.told,a)]).map (·.1)=ks.map (·.1)++[e.told]:=by rw [Qq];rfl
 rw [←em] at st;have one:∀q∈ks++[(e.told,a)],q∈ks∨q=(e.told,a):=fun q hq=>(Qm.mp hq).imp id (fun z=>by simpa using z);refine ⟨st,fun c=>?_,fun q hq=>?_,?_,fun q hq n hn=>?_,fun q hq=>?_⟩
 ·rw [p.su c,em,Zks];generalize e.told=e' at *;cases e' with
  |given x y am d =>
   show (if c=(x,y) then Y2 B.sums c+am else Y2 B.sums c)=JI c _+(if c=(x,y) then am else 0);rw [h.sus];split<;>simp
  |_=>rw [show Zbj (Y2 B.sums) _ c=Y2 B.sums c from rfl,h.sus];exact (Int.add_zero _).symm
 ·rcases one q hq with hq|rfl
  ·exact h.told q hq
  ·exact ZaF e
 ·rw [Qq,Rc];refine ⟨h.keys,by simp,fun x hx y hy z=>?_⟩;have hy':y=e.told.told.key:=by simpa using hy
  obtain ⟨q,hq,rfl⟩:=Qj.mp hx;have kn:(ZN (LBk ks).keptD e.told.key).isSome=true:=Zmw ⟨q,hq,by rw [h.told q hq] at z;rw [z,hy',ZaF]⟩;have kv:(ZN B.keptD e.told.key).isSome=(ZN (LBk ks).keptD e.told.key).isSome:=Zlv (l:=B.kept) (m:=ks) h.st.kept;rw [kn,hv] at kv;cases kv
 ·rcases one q hq with hq|rfl
  ·exact h.inp q hq n hn
  ·exact d.2.2 n (by rw [←Zlb];exact hn)
 ·rcases one q hq with hq|rfl
  ·exact h.ap q hq
  ·exact Znv (Znz hf)
theorem Zit {l m:List Str} (h:l.Nodup) (s:∀x∈l,x∈m):l.length≤m.length:=by
 induction l generalizing m with
 |nil=>exact QK _
 |cons a l ih =>
  have hn:=QR.mp h;have am:=s a (QD ..);have:=ih (m:=m.erase a) hn.2 fun x hx=>(List.mem_erase_of_ne (fun z=>hn.1 (by rw [←z];exact hx))).mpr (s x (QE _ hx));rw [List.length_erase_of_mem am] at this;have:=List.length_pos_of_mem am;rw [QM];omega
theorem LI5.names {pool:List Str} {B:Bk} {ks:List (Ent×Addr)} (h:LI5 pool B ks):(Wm ks).Nodup∧∀n∈Wm ks,n∈pool:=by
 refine ⟨?_,fun n hn=>?_⟩
 ·have k:=h.keys;clear h
  induction ks with
  |nil=>exact .nil
  |cons p ks ih =>
   have kn:=QR.mp (show (p.1.told.key::ks.map fun p=>p.1.told.key).Nodup from k);have ih:=ih kn.2;unfold Wm at ih ⊢;rw [QL];cases hb:p.1.bornName with
   |none=>exact ih
   |some n =>
    refine QR.mpr ⟨fun hm=>?_,ih⟩;obtain ⟨q,hq,eq⟩:=Rj.mp hm;refine kn.1 (Qj.mpr ⟨q,hq,?_⟩)
    have bk:∀e:Ent,e.bornName=some n->e.told.key=[.inr "born",.inr n]:=fun e he=>by
     cases e with
     |born n' s d f m=>cases he;rfl
     |_=>cases he
    rw [bk _ eq,bk _ hb]
 ·obtain ⟨q,hq,eq⟩:=Rj.mp hn;exact h.inp q hq n eq
theorem LI5.ksok {pool:List Str} {B:Bk} {ks:List (Ent×Addr)} (h:LI5 pool B ks) (l:ks.length≤60) (p33:pool.length≤33):KsOk ks∧(Wm ks).length<60:=by
 obtain ⟨n1,n2⟩:=h.names;exact ⟨⟨h.told,n1,l⟩,R3 (Zit n1 n2) (by omega)⟩
structure Fit (xs:List Ent) (e:Ent):Prop where
 kn:∀n∈e.named,∃s d f m,Ent.born n s d f m∈xs∧d≤e.day
 key:∀x∈xs,x.key≠e.told.key
 par:∀n s d f m,e=.born n s d f m->(f=""∨∃d' f' m',Ent.born f "he" d' f' m'∈xs∧d'<d)∧(m=""∨∃d' f' m',Ent.born m "she" d' f' m'∈xs∧d'<d)
 tk:∀c t d,e=.taken c t d->∀sc dc fc mc st dt ft mt,Ent.born c sc dc fc mc∈xs->Ent.born t st dt ft mt∈xs->dt<dc
 ap:e.same=false
def BU (xs:List Ent):Prop:=∀{n s d f m s' d' f' m'},Ent.born n s d f m∈xs->Ent.born n s' d' f' m'∈xs->Ent.born n s d f m=.born n s' d' f' m'
theorem UG {B:Bk} {xs:List Ent} (h:B.kept.map (·.1)=xs) (u:BU xs) {n s f m:Str} {d:Int} (hm:Ent.born n s d f m∈xs):Known B n∧Wa B n=s∧Yk B n=d:=by
 obtain ⟨a,ha⟩:=Zge (l:=B.kept) (by rw [h];exact hm) fun {s' d' f' m'} hm'=>by
  rw [h] at hm';exact u hm' hm
 exact ⟨by unfold Known;rw [ha];simp,ZaE ha rfl,JP ha rfl⟩
theorem Zls {B:Bk} {xs:List Ent} {e:Ent} (h:B.kept.map (·.1)=xs) (u:BU xs) (l:xs.length<400) (b:e.isBorn=true->(Wm B.kept).length<60) (f:Fit xs e):XW B e=none:=by
 have kl:=J4 h;refine Zny ?_ (fun n hn=>?_) ?_ ?_
 ·unfold Bk.full;rw [Qk (show ¬400≤B.kept.length by omega),Zin];cases hb:e.isBorn with
  |false=>rfl
  |true=>rw [Qk (show ¬60≤(Wm B.kept).length by have:=b hb;omega)];rfl
 ·obtain ⟨s,d,f',m,h1,_⟩:=f.kn n hn;exact (UG h u h1).1
 ·rw [ZmG h f.key];rfl
 ·cases hi:e.isBorn with
  |true =>
   cases e with
   |born n s d fa mo =>
    obtain ⟨p1,p2⟩:=f.par n s d fa mo rfl
    have one:∀{x so:Str},(x=""∨∃d' f' m',Ent.born x so d' f' m'∈xs∧d'<d)->XD B x so d=true:=fun {x so} hx=>by
     unfold XD;rcases hx with rfl|⟨d',f',m',h1,h2⟩
     ·rfl
     ·obtain ⟨_,e1,e2⟩:=UG h u h1;rw [e1,e2,Qo rfl,Qo h2,Gv,Bool.or_true]
    show (XD B fa "he" d&&XD B mo "she" d)=true;rw [one p1,one p2];rfl
   |_=>cases hi
  |false =>
   rw [Zbp hi,f.ap]
   have he:e.early B=false:=by
    cases e with
    |taken c t d =>
     obtain ⟨sc,dc,fc,mc,h1,_⟩:=f.kn c (by simp [Ent.named]);obtain ⟨st,dt,ft,mt,h2,_⟩:=f.kn t (by simp [Ent.named]);have h3:=f.tk c t d rfl _ _ _ _ _ _ _ _ h1 h2;show decide (Yk B c≤Yk B t)=false;rw [(UG h u h1).2.2,(UG h u h2).2.2];exact Qk (by omega)
    |_=>rfl
   rw [he];show (e.named.all fun n=>decide (Yk B n≤e.day))=true;rw [Rp];intro n hn;obtain ⟨s,d,f',m,h1,h2⟩:=f.kn n hn;rw [(UG h u h1).2.2];exact Qo h2
inductive GdL (pool:List Str):List Ent->Prop
 |nil:GdL pool []
 |snoc {es:List Ent} {e:Ent} (h:GdL pool es) (d:D5 pool e) (d':D5 pool e.told) (f:Fit (es.map Ent.told) e):GdL pool (es++[e])
theorem GdL.last {pool:List Str} {l:List Ent} (h:GdL pool l) {xs:List Ent} {e:Ent} (el:l=xs++[e]):GdL pool xs∧D5 pool e∧D5 pool e.told∧Fit (xs.map Ent.told) e:=by
 cases h with
 |nil=>simp at el
 |snoc h d d' f =>
  obtain ⟨e1,e2⟩:=List.append_inj' el rfl;obtain ⟨e3,_⟩:=G6 e2;subst e1 e3;exact ⟨h,d,d',f⟩
theorem GdL.take {pool:List Str} {l:List Ent} (h:GdL pool l):∀i,GdL pool (l.take i):=by
 induction h with
 |nil=>intro i;rw [List.take_nil];exact .nil
 |@snoc xs e h d d' f ih =>
  intro i;by_cases il:i≤xs.length
  ·rw [List.take_append_of_le_length il];exact ih i
  ·rw [NG (by rw [Qw];show _+1≤_;omega)];exact .snoc h d d' f
theorem GdL.bu {pool:List Str} {l:List Ent} (h:GdL pool l):BU (l.map Ent.told):=by
 induction h with
 |nil=>intro n s d f m s' d' f' m' h1;cases h1
 |@snoc xs e h d5 d5' f ih =>
  intro n s d fa m s' d' f' m' h1 h2;rw [Qq] at h1 h2;have kb:∀{x:Ent} {n s f m:Str} {d:Int},x=.born n s d f m->x.key=[.inr "born",.inr n]:=fun z=>by rw [z];rfl
  rcases Qm.mp h1 with h1|h1<;>rcases Qm.mp h2 with h2|h2
  ·exact ih h1 h2
  ·have e2:=QO.mp h2;exact absurd (by rw [←e2];rfl) (f.key _ h1)
  ·have e1:=QO.mp h1;exact absurd (by rw [←e1];rfl) (f.key _ h2)
  ·rw [QO.mp h1,QO.mp h2]
theorem GdL.d5 {pool:List Str} {l:List Ent} (h:GdL pool l):∀e∈l,D5 pool e:=by
 induction h with
 |nil=>intro e he;cases he
 |snoc h d5 d' f ih =>
  intro e he;rcases Qm.mp he with he|he
  ·exact ih e he
  ·rw [QO.mp he];exact d5
theorem LI5.put' {pool:List Str} {B B':Bk} {e:Ent} (h:LI5 pool B B.kept) (p:Put B e B') (d:D5 pool e) (no:XW B e=none):LI5 pool B' B'.kept∧B'.kept.map (·.1)=B.kept.map (·.1)++[e.told]:=by
 obtain ⟨a,ha⟩:=p.kept;have z:=h.put p d no a;rw [←ha] at z;exact ⟨z,by rw [ha,Qq];rfl⟩
theorem GdL.ref {pool:List Str} {B:Bk} {es:List Ent} {e:Ent} (li:LI5 pool B B.kept) (hk:B.kept.map (·.1)=es.map Ent.told) (g:GdL pool (es++[e])) (l:B.kept.length≤60) (p33:pool.length≤33):XW B e=none∧D5 pool e∧Room1 B:=by
 obtain ⟨g0,d5,_,f⟩:=g.last rfl;have kl:=J4 hk;refine ⟨Zls hk g0.bu (by rw [←kl];omega) (fun _=>(li.ksok l p33).2) f,d5,li.room l⟩
theorem Xv {l:List Str} {i:Nat} {v:V} (h:(l.map V.str)[i]?=some v):∃x,l[i]?=some x∧v=.str x:=by
 rw [Qp] at h;obtain ⟨x,hx,rfl⟩:=QH.mp h;exact ⟨x,hx,rfl⟩
theorem Zdc {x y:Str} (h:x.cps.toList=y.cps.toList):x=y:=by
 obtain ⟨a⟩:=x;obtain ⟨b⟩:=y;have:a=b:=Array.toList_inj.mp h;rw [this]
theorem Zmh (L:List Nat) {k:Nat} (h:k≤L.length):Txt.slice ⟨L.toArray⟩ none (some (k:Int))=⟨(L.take k).toArray⟩:=by
 have hl:k≤(⟨L.toArray⟩:Str).length:=by rw [Ur];exact h
 have e:Txt.slice ⟨L.toArray⟩ none (some (k:Int))=StrLaws.sliceText ⟨L.toArray⟩ (some ((0:Nat):Int)) (some (k:Int)):=by
  show StrLaws.sliceText _ none (some (k:Int))=_;unfold StrLaws.sliceText;rw [StrLaws.sliceIdx_none_lo];rfl
 rw [e,StrLaws.sliceText_nat _ (QK _) hl];refine Zdc ?_;simp
theorem Zcp {a b:Str} {d:Int} (ha:Nm a) (hb:Nm b) (d1:-10 ^ 18≤d) (d2:d≤10 ^ 18):(Ent.taken a b d).Ok∧(Ent.union a b d).Ok∧(Ent.union a b d).told.Ok∧(Ent.parted a b d).Ok∧(Ent.parted a b d).told.Ok:=by
 refine ⟨⟨VU (.inl rfl) ha hb d1 d2,VP (by decide +kernel) ha hb⟩,⟨VU (.inr (.inl rfl)) ha hb d1 d2,VP (by decide +kernel) ha hb⟩,?_,⟨VU (.inr (.inr rfl)) ha hb d1 d2,VP (by decide +kernel) ha hb⟩,?_⟩
 ·show (Ent.union (Zg a b).1 (Zg a b).2 d).Ok;unfold Zg;split
  ·exact ⟨VU (.inr (.inl rfl)) hb ha d1 d2,VP (by decide +kernel) hb ha⟩
  ·exact ⟨VU (.inr (.inl rfl)) ha hb d1 d2,VP (by decide +kernel) ha hb⟩
 ·show (Ent.parted (Zg a b).1 (Zg a b).2 d).Ok;unfold Zg;split
  ·exact ⟨VU (.inr (.inr rfl)) hb ha d1 d2,VP (by decide +kernel) hb ha⟩
  ·exact ⟨VU (.inr (.inr rfl)) ha hb d1 d2,VP (by decide +kernel) ha hb⟩
theorem GdL.known {pool:List Str} {l:List Ent} (g:GdL pool l):∀e∈l,∀n∈e.named,∃s d f m,Ent.born n s d f m∈l.map Ent.told:=by
 induction g with
 |nil=>intro e he;cases he
 |@snoc xs e g d d' f ih =>
  intro x hx n hn;rw [Qq];rcases Qm.mp hx with hx|hx
  ·obtain ⟨s,d,f,m,h⟩:=ih x hx n hn;exact ⟨s,d,f,m,Qm.mpr (.inl h)⟩
  ·rw [QO.mp hx] at hn;obtain ⟨s,d,f,m,h,_⟩:=f.kn n hn;exact ⟨s,d,f,m,Qm.mpr (.inl h)⟩
noncomputable def ZV:List Str:=["F","M","T","f","m","t","S","he","she"]
noncomputable def V4 (x:Str):Bool:=decide (x∈(["he","she"]:List Str))
noncomputable def Z1 (B:Bk) (s n:Str):List Str:=if V4 s=true then (if Wa B n=s then [n] else []) else YA B s n
def ZW (L:Str->Str->List Str):List Str->(Str->Prop)->Str->Prop
 |[],P=>P
 |s::w,P=>ZW L w fun x=>∃y,P y∧x∈L s y
theorem ZcL (L:Str->Str->List Str) (s:Str):∀(w:List Str) (P:Str->Prop),ZW L (w++[s]) P=fun x=>∃y,ZW L w P y∧x∈L s y
 |[],_=>rfl
 |t::w,P=>ZcL L s w _
theorem ZcA {L L':Str->Str->List Str} {R:Str->Prop} (h:∀s∈ZV,∀y,R y->∀x,x∈L s y↔x∈L' s y) (cl:∀s∈ZV,∀y,R y->∀x∈L s y,R x):∀{w:List Str} {P:Str->Prop},(∀s∈w,s∈ZV)->(∀x,P x->R x)->∀x,ZW L w P x↔ZW L' w P x
 |[],_,_,_,_=>Iff.rfl
 |s::w,P,hw,hP,x=>by
  have hs:=hw s (QD ..);have e:(fun x=>∃y,P y∧x∈L s y)=fun x=>∃y,P y∧x∈L' s y:=funext fun x=>propext ⟨fun ⟨y,p,m⟩=>⟨y,p,(h s hs y (hP y p) x).mp m⟩,fun ⟨y,p,m⟩=>⟨y,p,(h s hs y (hP y p) x).mpr m⟩⟩;show ZW L w _ x↔ZW L' w _ x;rw [←e];exact ZcA h cl (fun t ht=>hw t (QE _ ht)) (fun x ⟨y,p,m⟩=>cl s hs y (hP y p) x m) x
theorem W5 {L:Str->Str->List Str} {R:Str->Prop} (cl:∀s∈ZV,∀y,R y->∀x∈L s y,R x):∀{w:List Str} {P:Str->Prop},(∀s∈w,s∈ZV)->(∀x,P x->R x)->∀x,ZW L w P x->R x
 |[],_,_,hP,x,h=>hP x h
 |s::w,P,hw,hP,x,h=>W5 cl (fun t ht=>hw t (QE _ ht)) (fun x ⟨y,p,m⟩=>cl s (hw s (QD ..)) y (hP y p) x m) x h
theorem Zm1 {l m:List Str} (h1:l.Nodup) (h2:m.Nodup) (h:∀x,x∈l↔x∈m):l.Perm m:=(List.perm_ext_iff_of_nodup h1 h2).mpr h
structure SrtOf (P:Str->Prop) (xs:List Str):Prop where
 up:xs.Pairwise fun a b=>YI a b=true
 nd:xs.Nodup
 mem:∀x,x∈xs↔P x
theorem SrtOf.eq {P Q:Str->Prop} {xs ys:List Str} (h1:SrtOf P xs) (h2:SrtOf Q ys) (h:∀x,P x↔Q x):xs=ys :=
 Ji (Zm1 h1.nd h2.nd fun x=>(h1.mem x).trans ((h x).trans (h2.mem x).symm)) h1.up h2.up
structure Clo (B:Bk) (pool:List Str):Prop where
 led:∀s∈ZV,∀n,Known B n->∀x∈Z1 B s n,Known B x
 inp:∀n,Known B n->n∈pool
 few:pool.length≤60
theorem VR {xs pool:List Str} (h:xs.Nodup) (s:∀x∈xs,x∈pool):xs.length≤pool.length:=List.Nodup.length_le_of_subset h s
theorem BkAt.monoX {K:W.Frag} {C:Addr} {H H':Hp} {b dx k bi li ti su:Addr} {B:Bk} (h:BkAt K C H b dx k bi li ti su B) (s:SameX H H'):BkAt K C H' b dx k bi li ti su B :=
 ⟨s _ _ rfl h.ob,h.ap,h.at',s _ _ rfl h.ke,s _ _ rfl h.bi,s _ _ rfl h.li,s _ _ rfl h.ti,s _ _ rfl h.su,fun p hp=>s.sqt (h.en p hp),fun q hq=>s _ _ rfl (h.ll q hq),fun q hq=>s _ _ rfl (h.tt q hq)⟩
noncomputable abbrev ZgA:Arguments:=⟨[],[⟨"step",none,⟨42,46,42,50⟩⟩,⟨"begin",none,⟨42,52,42,57⟩⟩],none,[],[],none,[]⟩
noncomputable abbrev Zem:Expr:=V3 "led_by_step" "book" "step" "begin" ⟨42,59,42,70⟩ ⟨42,71,42,75⟩ ⟨42,77,42,81⟩ ⟨42,83,42,88⟩ ⟨42,59,42,89⟩
noncomputable abbrev ZfW:Scope:=⟨.function,[("step",.local),("begin",.local),("book",.free),("led_by_step",.globalImplicit)],false,false,[]⟩
noncomputable def Zcx:Str:=("reach" : Str)++".<locals>."++"<lambda>"
theorem Zog:LamOk2 "led_by_step" "book" "step" "begin" ZgA ZfW Zem where
 bind:=fun _ _ _ _ _ _ _=>rfl
 lx:=rfl
 ly:=rfl
 fre:=rfl
 gl:=rfl
 kind:=rfl
 co:=rfl
 gen:=rfl
 cell:=by decide +kernel
 xy:=by decide +kernel
 db:=by decide +kernel
abbrev ZnD (f b:Addr) (H:Hp):Prop:=LamA Zcx ZgA Zem ZfW "book" f b H
abbrev YV (tb:Addr) (H:Hp):Prop:=LamH tb 42 39 Zcx H
theorem Zf3 {P:Program} {w:World}:∀st H s e s',ZE P w st H s E0 e s'->False:=fun _ _ _ _ _ ⟨_,_,_,_,_,z⟩=>z
noncomputable abbrev YM (l:List (Str×V)):List (Zi×V):=l.map fun p=>(.inr p.1,p.2)
theorem Zei {κ α:Type} [DecidableEq κ] (l:List (κ×α)) (c:κ) (x:α):(Zn l c x).map (·.1)=if c∈l.map (·.1) then l.map (·.1) else l.map (·.1)++[c]:=by
 unfold Zn;by_cases h:c∈l.map (·.1)
 ·have ha:(l.any fun q=>decide (q.1=c))=true:=by
   obtain ⟨q,hq,e⟩:=Qj.mp h;exact Gs.mpr ⟨q,hq,Qo e⟩
  rw [Qc ha,Qc h,QT];refine Rz fun q _=>?_;show (if q.1=c then (q.1,x) else q).1=q.1;split<;>rfl
 ·have ha:¬(l.any fun q=>decide (q.1=c))=true:=fun z=>by
   obtain ⟨q,hq,e⟩:=Gs.mp z;exact h (Qj.mpr ⟨q,hq,QC e⟩)
  rw [Qa ha,Qa h,Qq];rfl
theorem ZbJ (l:List (Str×V)) (c:Str) (v:V):Yl (YM l) (.inr c) v=YM (Zn l c v):=UO (f:=fun s:Str=>(.inr s:Zi)) (fun a b h=>by injection h) id l c v
theorem ZaV {κ α:Type} [DecidableEq κ] {l:List (κ×α)} {c:κ} {x:α} (h:(l.map (·.1)).Nodup):((Zn l c x).map (·.1)).Nodup:=by
 rw [Zei];split
 ·exact h
 ·rename_i n;exact Rc.mpr ⟨h,by simp,fun a ha b hb=>by rw [show b=c by simpa using hb];exact fun e=>n (e▸ha)⟩
theorem Zdy {κ α:Type} [DecidableEq κ] {l:List (κ×α)} {c:κ} {x:α} (y:κ):y∈(Zn l c x).map (·.1)↔y∈l.map (·.1)∨y=c:=by
 rw [Zei];split
 ·rename_i h;exact ⟨.inl,fun z=>z.elim id fun e=>e▸h⟩
 ·rw [Qm,QO]
theorem Zam (l:List (Str×V)):(YM l).length=(l.map (·.1)).length:=by rw [Qd,Qd]
theorem Zgf (ds:List V) (d:V):Yi (ds++[d]) (-1)=some d:=by
 cases ds with
 |nil=>rfl
 |cons x xs =>
  obtain ⟨y,h1,h2⟩:=Zer (x:=x) (xs:=xs++[d]);rw [List.cons_append,h1];rw [show (x::(xs++[d]))=(x::xs)++[d] from rfl,RQ (by simp)] at h2;simpa using h2.symm
theorem ZjA {B:Bk} {n:Str} {p:Ent×Addr} (h:Z6 n B.kept=some p) {n' s f m:Str} {d:Int} (e:p.1=.born n' s d f m):Wa B n=s:=ZaE h e
structure N14 (ns:List Str):Prop where
 len:ns.length=24
 nm:∀n∈ns,Nm n
 nd:ns.Nodup
 nz:("zzzzzzzz" : Str)∉ns
theorem YC {z:Int} (h0:-10 ^ 60≤z) (h:z≤10 ^ 60):z.natAbs<2 ^ 1000:=R3 (show z.natAbs≤10 ^ 60 by omega) (by decide +kernel)
theorem Yq {j:Int} (h:j≠0):j≠0:=h
noncomputable def Wp (c:Int) (j:Nat):Int:=((c.fdiv 36).fdiv ((j:Int)+1)+5*(j:Int)).fmod 26
noncomputable def Xs (c:Int) (p k n:Nat):List Nat:=(List.range n).map fun j:Nat=>XM (Wp c j+(k:Int)*(if j=p then 1 else 0))
noncomputable def WT (c:Int) (n p k:Nat):Str:=⟨(Xs c p k n++[97,98].take (k % 3)).toArray⟩
theorem Ziv (c:Int) (p k n:Nat):Xs c p k (n+1)=Xs c p k n++[XM (Wp c n+(k:Int)*(if n=p then 1 else 0))]:=by
 unfold Xs;rw [List.range_succ,Qq];rfl
theorem Vu (c:Int) (p k n:Nat):(Xs c p k n).length=n:=by unfold Xs;rw [Qd,R9]
theorem Zn1 (L:List Nat) (x:Nat):(⟨L.toArray⟩:Str)++⟨#[x]⟩=⟨(L++[x]).toArray⟩:=by
 refine Zdc ?_;show (L.toArray++#[x]).toList=(L++[x]).toArray.toList;simp
theorem ZiP (L M:List Nat):(⟨L.toArray⟩:Str)++⟨M.toArray⟩=⟨(L++M).toArray⟩:=by
 refine Zdc ?_;show (L.toArray++M.toArray).toList=(L++M).toArray.toList;simp
theorem Zhm (k:Nat):Txt.slice "ab" none (some (((k:Int).fmod 3:Int)))=⟨([97,98].take (k % 3)).toArray⟩:=by
 have e:(k:Int).fmod 3=((k % 3:Nat):Int):=by rw [Int.fmod_eq_emod_of_nonneg _ (by decide)];rfl
 rw [e];exact Zmh [97,98] (show k % 3≤2 by omega)
theorem ZiH {c:Int} {n p:Nat} (h1:1≤n) (h6:n≤6) (hp:p<n):N14 ((List.range 24).map (WT c n p)) where
 len:=by rw [Qd,R9]
 nm:=fun x hx=>by
  obtain ⟨k,_,rfl⟩:=Qj.mp hx
  have hl:(WT c n p k).length=n+min (k % 3) 2:=by
   unfold WT;rw [Ur,Qw,Vu,QW];rfl
  refine ⟨by omega,by omega,?_⟩;show (Xs c p k n++[97,98].take (k % 3)).toArray.toList.all Wi=true;rw [List.toList_toArray,List.all_append,Rm];refine ⟨Rp.mpr fun y hy=>?_,Rp.mpr fun y hy=>?_⟩
  ·unfold Xs at hy;obtain ⟨j,_,rfl⟩:=Qj.mp hy;exact Zjh _
  ·have:y∈[97,98]:=Ri hy;simp only [Qh,QX,QY] at this;rcases this with rfl|rfl<;>decide +kernel
 nd:=by
  refine (List.nodup_iff_pairwise_ne.mpr ?_);rw [List.pairwise_map];refine List.Pairwise.imp_of_mem (R:=fun a b=>a<b) (fun {a b} ha hb hab e=>?_) List.pairwise_lt_range;have a24:=G8.mp ha;have b24:=G8.mp hb
  have g:∀k,(Xs c p k n++[97,98].take (k % 3))[p]?=some (XM (Wp c p+(k:Int))):=fun k=>by
   rw [Ge (by rw [Vu];exact hp)];unfold Xs;rw [Qp,NH hp];simp
  have e':(Xs c p a n++[97,98].take (a % 3))[p]?=(Xs c p b n++[97,98].take (b % 3))[p]?:=by
   have:=Qu (fun s:Str=>s.cps.toList[p]?) e;simpa [WT] using this
  rw [g,g] at e';obtain ⟨w,hw⟩:=Zln _ _ (Zlx (Ql e'));omega
 nz:=fun hz=>by
  obtain ⟨k,_,e⟩:=Qj.mp hz
  have hl:(WT c n p k).length=n+min (k % 3) 2:=by
   unfold WT;rw [Ur,Qw,Vu,QW];rfl
  rw [e] at hl;have h8:("zzzzzzzz" : Str).length=8:=by decide +kernel
  have k2:k % 3=2:=by omega
  have n6:n=6:=by omega
  have:=Qu (fun s:Str=>s.cps.toList[7]?) e
  have g:(WT c n p k).cps.toList[7]?=some 98:=by
   show ((Xs c p k n++[97,98].take (k % 3)).toArray.toList)[7]?=_;rw [List.toList_toArray,RQ (by rw [Vu];omega),Vu,k2,n6];rfl
  have z:("zzzzzzzz" : Str).cps.toList[7]?=some 122:=by decide +kernel
  have t:(WT c n p k).cps.toList[7]?=("zzzzzzzz" : Str).cps.toList[7]?:=this;rw [g,z] at t;cases t
abbrev Pp:=Str×Addr×Str×Int
noncomputable abbrev XC (ps:List Pp):List (Zi×V):=ps.map fun p=>(.inr p.1,.ref p.2.1)
structure PpAt (K:W.Frag) (H:Hp) (D:Addr) (ps:List Pp):Prop where
 d:H D=some (.dK (XC ps))
 t:∀p∈ps,SqT K H p.2.1 [.str p.2.2.1,.int p.2.2.2]
 nd:(ps.map (·.1)).Nodup
theorem PpAt.mono {K:W.Frag} {H H':Hp} {D:Addr} {ps:List Pp} (h:PpAt K H D ps) (s:Same H H'):PpAt K H' D ps:=⟨s _ _ h.d,fun p hp=>s.sqt (h.t p hp),h.nd⟩
theorem Zfu {κ α:Type} [DecidableEq κ] {f:α->κ} {g:α->V}:∀{l:List α} {p:α},(l.map f).Nodup->p∈l->ZN (l.map fun p=>(f p,g p)) (f p)=some (g p)
 |[],_,_,h=>by cases h
 |a::l,p,nd,h=>by
  obtain ⟨n1,n2⟩:=QR.mp nd;unfold ZN;rw [Qr,Rw];by_cases e:f a=f p
  ·have:p=a:=by
    rcases Qh.mp h with rfl|h
    ·rfl
    ·exact absurd (e▸RB h) n1
   subst this;simp
  ·have hp:p∈l:=by
    rcases Qh.mp h with rfl|h
    ·exact absurd rfl e
    ·exact h
   simp only [e,decide_false];exact Zfu n2 hp
theorem ZnV {κ α:Type} [DecidableEq κ] {f:α->κ} {g:α->V} {l:List α} {k:κ} (h:k∉l.map f):ZN (l.map fun p=>(f p,g p)) k=none:=by
 unfold ZN;rw [GW.mpr fun x hx=>?_]
 ·rfl
 ·obtain ⟨p,hp,rfl⟩:=Qj.mp hx;intro z;exact h (by rw [←QC z];exact RB hp)
theorem Znk {ps:List Pp} (h:(ps.map (·.1)).Nodup):(ps.map fun p=>(.inr p.1:Zi)).Nodup:=by
 rw [show (fun p:Pp=>(.inr p.1:Zi))=(fun s:Str=>(.inr s:Zi))∘(fun p:Pp=>p.1) from rfl,←QT];exact h.map _ fun a b n e=>n (Rt e)
theorem PpAt.get {H:Hp} {D:Addr} {ps:List Pp} (nd:(ps.map (·.1)).Nodup) (h:Rd H D (.dK (XC ps))) {p:Pp} (hp:p∈ps):DGet H D (.str p.1) (some (.ref p.2.1)) :=
 .inl ⟨_,.inr p.1,h,rfl,(Zfu (f:=fun p:Pp=>(.inr p.1:Zi)) (g:=fun p:Pp=>V.ref p.2.1) (Znk nd) hp).symm⟩
theorem Zk4 {H H':Hp} {d:Addr} {o:Obj} {kvs:List (Zi×V)} (h:H d=some (.dK kvs)) (s:Same (Zb H d (.frz o (.dK kvs))) H'):Same H (Zb H' d (.dK kvs)):=fun a u e=>by
 by_cases z:a=d
 ·subst z;rw [Zf,←e,h]
 ·rw [Ze z];exact s a u (by rw [Ze z];exact e)
theorem ZmL {H H':Hp} {d:Addr} {o:Obj} {kvs:List (List Zi×V)} (h:H d=some (.dT kvs)) (s:Same (Zb H d (.frz o (.dT kvs))) H'):Same H (Zb H' d (.dT kvs)):=fun a u e=>by
 by_cases z:a=d
 ·subst z;rw [Zf,←e,h]
 ·rw [Ze z];exact s a u (by rw [Ze z];exact e)
theorem Zlu {K:W.Frag} {H:Hp} {D a:Addr} {o:Obj} {kvs:List (Zi×V)} {xs:List V} (h:H D=some (.dK kvs)) (q:SqT K H a xs):SqT K (Zb H D (.frz o (.dK kvs))) a xs:=YH q h (fun _ z=>by cases z) (fun _ _ z=>by cases z)
noncomputable def UU (d:Int) (p:Pp):Option V:=if p.2.2.2<d then some (.str p.1) else none
theorem Zes (d:Int):∀ps:List Pp,(ps.map (UU d)).filterMap id=((ps.filter fun p=>decide (p.2.2.2<d)).map (·.1)).map V.str
 |[]=>rfl
 |p::ps=>by
  have ih:=Zes d ps;rw [Qr,QL,Ry];unfold UU at ih ⊢;by_cases h:p.2.2.2<d
  ·rw [Qc h,Qo h];simp only [id,Q8,Qr];rw [ih]
  ·rw [Qa h,Qk h];simp only [id];exact ih
noncomputable def W1 (s:Str) (p:Pp):Option V:=if p.2.2.1=s then some (.str p.1) else none
theorem Zdd (s:Str):∀ps:List Pp,(ps.map (W1 s)).filterMap id=((ps.filter fun p=>decide (p.2.2.1=s)).map (·.1)).map V.str
 |[]=>rfl
 |p::ps=>by
  have ih:=Zdd s ps;rw [Qr,QL,Ry];unfold W1 at ih ⊢;by_cases h:p.2.2.1=s
  ·rw [Qc h,Qo h];simp only [id,Q8,Qr];rw [ih]
  ·rw [Qa h,Qk h];simp only [id];exact ih
def X1 (ps:List Pp) (s:Str) (d:Int) (f:Str):Prop:=f=""∨∃p∈ps,p.1=f∧p.2.2.1=s∧p.2.2.2<d
theorem VF {α:Type} (g:α->V) (xs:List α) (h:0<xs.length) (z:Int):∃x∈xs,Yi (xs.map g) (z.fmod ((xs.map g).length:Int))=some (g x):=by
 have e:((xs.map g).length:Int)=(xs.length:Int):=by rw [Qd]
 rw [e];have h0:=QI z (show (0:Int)<xs.length by omega);have h1:=Q0 z (show (0:Int)<xs.length by omega);obtain ⟨j,hj⟩:∃j:Nat,z.fmod (xs.length:Int)=(j:Int):=⟨(z.fmod (xs.length:Int)).toNat,by omega⟩;have jl:j<xs.length:=by omega
 refine ⟨xs[j],Go jl,?_⟩;rw [hj];exact Xq (by rw [Qp,Qt jl];rfl)
noncomputable def Uk:List Str:=["he","she","he","she",""]
theorem ZiU (z:Int):∃s:Str,(s="he"∨s="she"∨s="")∧Yi [V.str "he",V.str "she",V.str "he",V.str "she",V.str ""] (z.fmod 5)=some (V.str s):=by
 obtain ⟨s,hs,e⟩:=VF V.str Uk (by decide) z;refine ⟨s,?_,e⟩;simp only [Uk,Qh,QX,QY] at hs;rcases hs with h|h|h|h|h
 ·exact .inl h
 ·exact .inr (.inl h)
 ·exact .inl h
 ·exact .inr (.inl h)
 ·exact .inr (.inr h)
theorem Zf1 {v:V} {i:Nat} {b:TS} {D:Ends} {σ:St} {H:Hp} (h:b D (σ.set i (some v)) H):ZbB (Zde (tC v) (Z2 i)) b D σ H:=h
structure DeedF (ps:List Pp) (e:Ent):Prop where
 nb:e.isBorn=false
 kn:∀n∈e.named,∃p∈ps,p.1=n∧p.2.2.2≤e.day
 tk:∀c t d,e=.taken c t d->∀pc∈ps,∀pt∈ps,pc.1=c->pt.1=t->pt.2.2.2<pc.2.2.2
 ap:e.same=false
 lo:-10 ^ 18≤e.day
 hi:e.day≤10 ^ 18
 sort:(e.tie=true∨∃c t d,e=.taken c t d)∨∃n d,e=.dead n d
noncomputable abbrev XR (kn:List (List Zi)):List (List Zi×V):=kn.map fun k=>(k,.bl true)
def KnOk (ps:List Pp) (kn:List (List Zi)):Prop:=∀k∈kn,∃e,k=e.told.key∧DeedF ps e
theorem ZiB {ps:List Pp} (nd:(ps.map (·.1)).Nodup) (h2:2≤ps.length) (c:Int):∃p∈ps,∃q∈ps,p.1≠q.1∧Yi ((ps.map (·.1)).map V.str) (c.fmod (((ps.map (·.1)).map V.str).length:Int))=some (.str p.1) ∧
  Yi ((ps.map (·.1)).map V.str) ((c+1+(c.fdiv 24).fmod ((((ps.map (·.1)).map V.str).length:Int)-1)).fmod (((ps.map (·.1)).map V.str).length:Int))=some (.str q.1):=by
 have el:(((ps.map (·.1)).map V.str).length:Int)=(ps.length:Int):=by rw [Qd,Qd]
 rw [el];obtain ⟨n,hn⟩:∃n:Int,n=(ps.length:Int):=⟨_,rfl⟩;rw [←hn];have n2:2≤n:=by omega
 have i0:=QI c (show (0:Int)<n by omega);have i1:=Q0 c (show (0:Int)<n by omega);have r0:=QI (c.fdiv 24) (show (0:Int)<n-1 by omega);have r1:=Q0 (c.fdiv 24) (show (0:Int)<n-1 by omega);generalize (c.fdiv 24).fmod (n-1)=r at *;have j0:=QI (c+1+r) (show (0:Int)<n by omega);have j1:=Q0 (c+1+r) (show (0:Int)<n by omega)
 have ne:c.fmod n≠(c+1+r).fmod n:=fun e=>by
  have d1:=GY c n;have d2:=GY (c+1+r) n;rw [←e] at d2;have d3:n*(c+1+r).fdiv n-n*c.fdiv n=1+r:=by omega
  rw [←Int.mul_sub] at d3;generalize (c+1+r).fdiv n-c.fdiv n=w at *;have:w≤0∨1≤w:=by omega
  rcases this with hw|hw
  ·have:=NV hw (show 0≤n by omega);omega
  ·have:=NV hw (show 0≤n by omega);omega
 obtain ⟨i,hi⟩:∃i:Nat,c.fmod n=(i:Int):=⟨(c.fmod n).toNat,by omega⟩;obtain ⟨j,hj⟩:∃j:Nat,(c+1+r).fmod n=(j:Int):=⟨((c+1+r).fmod n).toNat,by omega⟩;have il:i<ps.length:=by omega
 have jl:j<ps.length:=by omega
 have at':∀{k:Nat} (h:k<ps.length),Yi ((ps.map (·.1)).map V.str) (k:Int)=some (.str ps[k].1):=fun {k} h=>Xq (by rw [Qp,Qp,Qt h];rfl);refine ⟨ps[i],Go il,ps[j],Go jl,fun e=>?_,by rw [hi];exact at' il,by rw [hj];exact at' jl⟩;have:i=j:=(Gy (h₀:=by rw [Qd];exact il) (h₁:=by rw [Qd];exact jl) nd).mp (by rw [Ga,Ga];exact e);omega
structure TwoOk (ps:List Pp) (p q:Pp) (day:Int):Prop where
 ip:p∈ps
 iq:q∈ps
 ne:p.1≠q.1
 lp:p.2.2.2≤day
 lq:q.2.2.2≤day
 lo:-10 ^ 18≤day
 hi:day≤10 ^ 18
theorem TwoOk.swap {ps:List Pp} {p q:Pp} {day:Int} (h:TwoOk ps p q day):TwoOk ps q p day:=⟨h.iq,h.ip,h.ne.symm,h.lq,h.lp,h.lo,h.hi⟩
theorem TwoOk.tie {ps:List Pp} {p q:Pp} {day:Int} (h:TwoOk ps p q day) (b:Bool):DeedF ps (if b=true then .parted p.1 q.1 day else .union p.1 q.1 day):=by
 cases b with
 |false => exact ⟨rfl, fun n hn => by
   have:n=p.1∨n=q.1:=by simpa [Ent.named] using hn
   rcases this with rfl|rfl
   ·exact ⟨p,h.ip,rfl,h.lp⟩
   ·exact ⟨q,h.iq,rfl,h.lq⟩,fun _ _ _ z=>(by cases z),Qk h.ne,h.lo,h.hi,.inl (.inl rfl)⟩
 |true => exact ⟨rfl, fun n hn => by
   have:n=p.1∨n=q.1:=by simpa [Ent.named] using hn
   rcases this with rfl|rfl
   ·exact ⟨p,h.ip,rfl,h.lp⟩
   ·exact ⟨q,h.iq,rfl,h.lq⟩,fun _ _ _ z=>(by cases z),Qk h.ne,h.lo,h.hi,.inl (.inl rfl)⟩
theorem Za6 {ps:List Pp} (nd:(ps.map (·.1)).Nodup) {p q:Pp} (hp:p∈ps) (hq:q∈ps) (e:p.1=q.1):p=q:=by
 obtain ⟨i,hi,rfl⟩:=R7 hp;obtain ⟨j,hj,rfl⟩:=R7 hq;have:i=j:=(Gy (h₀:=by rw [Qd];exact hi) (h₁:=by rw [Qd];exact hj) nd).mp (by rw [Ga,Ga];exact e);subst this;rfl
theorem TwoOk.taken {ps:List Pp} {p q:Pp} {day:Int} (nd:(ps.map (·.1)).Nodup) (h:TwoOk ps p q day) (lt:q.2.2.2<p.2.2.2):DeedF ps (.taken p.1 q.1 day) :=
 ⟨rfl, fun n hn => by
   have:n=p.1∨n=q.1:=by simpa [Ent.named] using hn
   rcases this with rfl|rfl
   ·exact ⟨p,h.ip,rfl,h.lp⟩
   ·exact ⟨q,h.iq,rfl,h.lq⟩,fun c t d z pc hpc pt hpt e1 e2=>by
  cases z;rw [Za6 nd hpc h.ip e1,Za6 nd hpt h.iq e2];exact lt,Qk h.ne,h.lo,h.hi,.inl (.inr ⟨_,_,_,rfl⟩)⟩
theorem TwoOk.dead {ps:List Pp} {p q:Pp} {day:Int} (h:TwoOk ps p q day):DeedF ps (.dead p.1 day) :=
 ⟨rfl, fun n hn => by
   have:n=p.1:=by simpa [Ent.named] using hn
   exact ⟨p,h.ip,this.symm,h.lp⟩,fun _ _ _ z=>(by cases z),rfl,h.lo,h.hi,.inr ⟨_,_,rfl⟩⟩
noncomputable def Ul (k:List Zi):Bool:=decide (k.head?=some (.inr "tie"))
theorem KnOk.tie {ps:List Pp} {kn:List (List Zi)} (h:KnOk ps kn) {k:List Zi} (hk:k∈kn) (t:Ul k=true):∃p q d,TwoOk ps p q d∧k=[.inr "tie",.inr p.1,.inr q.1,.inl d]:=by
 obtain ⟨e,rfl,de⟩:=h k hk
 have tie:e.tie=true:=by
  cases e with
  |born=>cases de.nb
  |union=>rfl
  |parted=>rfl
  |taken=>exact absurd (Rt (Ql (QC t))) (show ("taken" : Str)≠"tie" by decide +kernel)
  |dead=>exact absurd (Rt (Ql (QC t))) (show ("dead" : Str)≠"tie" by decide +kernel)
  |given=>exact absurd (Rt (Ql (QC t))) (show ("given" : Str)≠"tie" by decide +kernel)
 have Zq:∀a b d,(∀n∈[a,b],∃p∈ps,p.1=n∧p.2.2.2≤d)->a≠b->-10 ^ 18≤d->d≤10 ^ 18->∃p q d',TwoOk ps p q d'∧([.inr "tie",.inr (Zg a b).1,.inr (Zg a b).2,.inl d]:List Zi)=[.inr "tie",.inr p.1,.inr q.1,.inl d']:=fun a b d kn ne lo hi=>by
  obtain ⟨p,hp,ep,lp⟩:=kn a (by simp);obtain ⟨q,hq,eq,lq⟩:=kn b (by simp);subst ep eq;unfold Zg;split
  ·exact ⟨q,p,d,⟨hq,hp,ne.symm,lq,lp,lo,hi⟩,rfl⟩
  ·exact ⟨p,q,d,⟨hp,hq,ne,lp,lq,lo,hi⟩,rfl⟩
 cases e with
 |union a b d=>exact Zq a b d de.kn (Re de.ap) de.lo de.hi
 |parted a b d=>exact Zq a b d de.kn (Re de.ap) de.lo de.hi
 |_=>cases tie
theorem KnOk.head {ps:List Pp} {kn:List (List Zi)} (h:KnOk ps kn) {k:List Zi} (hk:k∈kn):∃z r,k=.inr z::r:=by
 obtain ⟨e,rfl,de⟩:=h k hk;cases e with
 |born=>exact ⟨_,_,rfl⟩
 |union=>exact ⟨_,_,rfl⟩
 |parted=>exact ⟨_,_,rfl⟩
 |taken=>exact ⟨_,_,rfl⟩
 |dead=>exact ⟨_,_,rfl⟩
 |given=>exact ⟨_,_,rfl⟩
noncomputable def Zb6 (k:List Zi):Option (List Zi):=if Ul k=true then some k else none
def ZfK (k:List Zi) (H:Hp) (v:V):Prop:=∃c,v=.ref c∧H c=some (.tup (k.map kV))
theorem ZjN (b:Bool) (x y:Str) (d:Int):(if b=true then Ent.parted x y d else .union x y d).told.key=[.inr "tie",.inr (Zg x y).1,.inr (Zg x y).2,.inl d]:=by cases b<;>rfl
theorem Zms (b:Bool) (x y:Str) (d:Int):(if b=true then Ent.parted x y d else .union x y d).row=[.inr (if b=true then "parted" else "union"),.inr x,.inr y,.inl d]:=by cases b<;>rfl
theorem Znb (b:Bool):Yi [V.str "union",V.str "parted"] (if b=true then 1 else 0)=some (.str (if b=true then "parted" else "union")):=by cases b<;>rfl
theorem Zhs {kn:List (List Zi)} {k:List Zi} (h:k∈kn):(ZN (XR kn) k).isSome=true:=by
 unfold ZN;cases e:(XR kn).find? fun kv=>decide (kv.1=k) with
 |none=>exact absurd (GW.mp e (k,.bl true) (Qj.mpr ⟨k,h,rfl⟩)) (by simp)
 |some x=>rfl
theorem ZfA {kn:List (List Zi)} {k:List Zi} (h:k∉kn):ZN (XR kn) k=none:=by
 unfold ZN;rw [GW.mpr fun x hx=>?_]
 ·rfl
 ·obtain ⟨k',hk',rfl⟩:=Qj.mp hx;intro z;exact h (by rw [←QC z];exact hk')
theorem ZhG (kn:List (List Zi)):(kn.map Zb6).filterMap id=kn.filter Ul:=by
 induction kn with
 |nil=>rfl
 |cons k kn ih =>
  rw [Qr,QL,Ry];unfold Zb6 at ih ⊢;by_cases h:Ul k=true
  ·rw [Qc h,Qc h];simp only [id];rw [ih]
  ·rw [Qa h,Qa h];simp only [id];exact ih
noncomputable def Zcn:Ent->Option (Str×Str×Int)
 |.born n s d _ _=>some (n,s,d)
 |_=>none
structure EI (ns:List Str) (es:List Ent) (ps:List Pp) (kn:List (List Zi)):Prop where
 good:GdL ns es
 born:es.filterMap Zcn=ps.map fun p=>(p.1,p.2.2)
 nm:ps.map (·.1)=ns.take ps.length
 len:ps.length≤24
 keys:∀e∈es,e.isBorn=false->e.told.key∈kn
 ok:KnOk ps kn
 pd:∀p∈ps,-10 ^ 18≤p.2.2.2∧p.2.2.2≤10 ^ 18
 knl:kn.length≤es.length
theorem EI.start {ns:List Str}:EI ns [] [] []:=⟨.nil,rfl,rfl,QK _,fun e h=>(by cases h),fun k h=>(by cases h),fun p h=>(by cases h),Qf _⟩
section
variable {ns:List Str} {es:List Ent} {ps:List Pp} {kn:List (List Zi)}
theorem Zel {n s:Str} {d:Int}:(n,s,d)∈es.filterMap Zcn↔∃f m,Ent.born n s d f m∈es:=by
 constructor
 ·intro h;obtain ⟨e,he,eb⟩:=Rj.mp h;cases e with
  |born n' s' d' f m=>cases eb;exact ⟨f,m,he⟩
  |_=>cases eb
 ·rintro ⟨f,m,h⟩;exact Rj.mpr ⟨_,h,rfl⟩
theorem EI.of_ps (h:EI ns es ps kn) {p:Pp} (hp:p∈ps):∃f m,Ent.born p.1 p.2.2.1 p.2.2.2 f m∈es:=by
 refine Zel.mp ?_;rw [h.born];exact Qj.mpr ⟨p,hp,rfl⟩
theorem EI.to_ps (h:EI ns es ps kn) {n s f m:Str} {d:Int} (hb:Ent.born n s d f m∈es):∃p∈ps,p.1=n∧p.2.2=(s,d):=by
 have:=Zel.mpr ⟨f,m,hb⟩;rw [h.born] at this;obtain ⟨p,hp,e⟩:=Qj.mp this;exact ⟨p,hp,Qu (·.1) e,Qu (·.2) e⟩
theorem EI.nd (h:EI ns es ps kn) (N:N14 ns):(ps.map (·.1)).Nodup:=by rw [h.nm];exact N.nd.sublist (Gf ..)
theorem EI.mem (h:EI ns es ps kn) {p:Pp} (hp:p∈ps):p.1∈ns:=by
 have:p.1∈ps.map (·.1):=RB hp;rw [h.nm] at this;exact Ri this
theorem ZhF {n s f m:Str} {d:Int} {e:Ent} (h:e.told=.born n s d f m):e=.born n s d f m:=by
 cases e with
 |born=>exact h
 |union=>cases h
 |parted=>cases h
 |taken=>cases h
 |dead=>cases h
 |given=>cases h
theorem VA {n s f m:Str} {d:Int}:Ent.born n s d f m∈es.map Ent.told↔Ent.born n s d f m∈es:=by
 constructor
 ·intro h;obtain ⟨e,he,ee⟩:=Qj.mp h;rw [←ZhF ee];exact he
 ·exact fun h=>Qj.mpr ⟨_,h,rfl⟩
theorem DeedF.mono {p:Pp} {e:Ent} (h:DeedF ps e) (nd:((ps++[p]).map (·.1)).Nodup):DeedF (ps++[p]) e:=by
 refine ⟨h.nb,fun n hn=>?_,fun c t d z pc hpc pt hpt e1 e2=>?_,h.ap,h.lo,h.hi,h.sort⟩
 ·obtain ⟨q,hq,r⟩:=h.kn n hn;exact ⟨q,QQ _ hq,r⟩
 ·obtain ⟨q1,h1,n1,_⟩:=h.kn c (by rw [z];simp [Ent.named]);obtain ⟨q2,h2,n2,_⟩:=h.kn t (by rw [z];simp [Ent.named]);have g1:=Za6 nd hpc (QQ _ h1) (e1.trans n1.symm);have g2:=Za6 nd hpt (QQ _ h2) (e2.trans n2.symm);rw [g1,g2];exact h.tk c t d z q1 h1 q2 h2 n1 n2
theorem DeedF.key_ne {e:Ent} (h:DeedF ps e) (n:Str):([.inr "born",.inr n]:List Zi)≠e.told.key:=fun z=>by
 have hd:∀{w:Str} {r:List Zi},e.told.key=.inr w::r->("born" : Str)=w:=fun z'=>by rw [z'] at z;exact Rt (G6 z).1
 cases e with
 |born=>cases h.nb
 |union=>exact absurd (hd rfl) (by decide +kernel)
 |parted=>exact absurd (hd rfl) (by decide +kernel)
 |taken=>exact absurd (hd rfl) (by decide +kernel)
 |dead=>exact absurd (hd rfl) (by decide +kernel)
 |given=>exact absurd (hd rfl) (by decide +kernel)
theorem ZiS (e:Ent):e.told.isBorn=e.isBorn:=by cases e<;>rfl
theorem EI.deed (N:N14 ns) (h:EI ns es ps kn) {e:Ent} (de:DeedF ps e) (nk:e.told.key∉kn):EI ns (es++[e]) ps (kn++[e.told.key]):=by
 have nms:∀n∈e.named,Nm n∧n∈ns:=fun n hn=>by
  obtain ⟨p,hp,rfl,_⟩:=de.kn n hn;exact ⟨N.nm _ (h.mem hp),h.mem hp⟩
 have okk:e.Ok∧e.told.Ok:=by
  rcases de.sort with (t|⟨c,t,d,rfl⟩)|⟨n,d,rfl⟩
  ·cases e with
   |union a b d =>
    have k:=Zcp (nms a (by simp [Ent.named])).1 (nms b (by simp [Ent.named])).1 de.lo de.hi;exact ⟨k.2.1,k.2.2.1⟩
   |parted a b d =>
    have k:=Zcp (nms a (by simp [Ent.named])).1 (nms b (by simp [Ent.named])).1 de.lo de.hi;exact ⟨k.2.2.2.1,k.2.2.2.2⟩
   |_=>cases t
  ·have k:=Zcp (nms c (by simp [Ent.named])).1 (nms t (by simp [Ent.named])).1 de.lo de.hi;exact ⟨k.1,k.1⟩
  ·have k:=ZiY (nms n (by simp [Ent.named])).1 de.lo de.hi;exact ⟨k,k⟩
 have nb:∀{x:Ent},x.isBorn=false->∀n,x.bornName=some n->n∈ns:=fun {x} hx n hn=>by
  cases x with
  |born=>cases hx
  |_=>cases hn
 have tn:∀n∈e.told.named,n∈e.named:=fun n hn=>Zfw e n hn;refine ⟨.snoc h.good ⟨okk.1,fun n hn=>(nms n hn).2,nb de.nb⟩ ⟨okk.2,fun n hn=>(nms n (tn n hn)).2,nb (by rw [ZiS];exact de.nb)⟩ ⟨fun n hn=>?_,fun x hx=>?_,fun n s d f m z=>?_,fun c t d z sc dc fc mc st dt ft mt h1 h2=>?_,de.ap⟩,?_,h.nm,h.len,fun x hx hb=>?_,fun k hk=>?_,h.pd,by rw [Qw,Qw];exact NI h.knl⟩
 ·obtain ⟨p,hp,rfl,le⟩:=de.kn n hn;obtain ⟨f,m,hb⟩:=h.of_ps hp;exact ⟨_,_,f,m,VA.mpr hb,le⟩
 ·obtain ⟨y,hy,rfl⟩:=Qj.mp hx;cases hb:y.isBorn with
  |true =>
   cases y with
   |born n s d f m=>exact de.key_ne n
   |_=>cases hb
  |false=>exact fun z=>nk (z▸h.keys y hy hb)
 ·rw [z] at de;exact absurd de.nb (by simp [Ent.isBorn])
 ·obtain ⟨p1,g1,e1,t1⟩:=h.to_ps (VA.mp h1);obtain ⟨p2,g2,e2,t2⟩:=h.to_ps (VA.mp h2);have:=de.tk c t d z p1 g1 p2 g2 e1 e2;rw [t1,t2] at this;exact this
 ·rw [Rx,h.born]
  have:[e].filterMap Zcn=[]:=by
   cases e with
   |born=>cases de.nb
   |_=>rfl
  rw [this,Qv]
 ·rcases Qm.mp hx with hx|hx
  ·exact QQ _ (h.keys x hx hb)
  ·rw [show x=e by simpa using hx];exact Q4 _ (by simp)
 ·rcases Qm.mp hk with hk|hk
  ·exact h.ok k hk
  ·exact ⟨e,by simpa using hk,de⟩
theorem EI.birth (N:N14 ns) (h:EI ns es ps kn) {n s f m:Str} {d:Int} {a:Addr} (hn:ns[ps.length]?=some n) (l24:ps.length<24) (hs:s="he"∨s="she"∨s="") (hf:X1 ps "he" d f) (hm:X1 ps "she" d m) (d1:-10 ^ 18≤d) (d2:d≤10 ^ 18) :
  EI ns (es++[.born n s d f m]) (ps++[(n,a,s,d)]) kn:=by
 have nn:n∈ns:=QB hn;have pn:∀{w x:Str},X1 ps w d x->x=""∨x∈ns:=fun {w x} hx=>hx.imp id fun ⟨p,hp,e,_⟩=>e▸h.mem hp;have pm:∀{w x:Str},X1 ps w d x->x=""∨Nm x:=fun hx=>(pn hx).imp id (N.nm _);have okk:=ZjU (N.nm n nn) hs d1 d2 (pm hf) (pm hm)
 have nmd:∀x∈(Ent.born n s d f m).named,(x=f∨x=m)∧x≠"":=fun x hx=>by
  obtain ⟨h1,h2⟩:=Q7.mp hx;exact ⟨by simpa using h1,QC h2⟩
 have par:∀{w x:Str},X1 ps w d x->x=""∨∃d' f' m',Ent.born x w d' f' m'∈es.map Ent.told∧d'<d:=fun {w x} hx=>hx.imp id fun ⟨p,hp,e1,e2,e3⟩=>by
  obtain ⟨f',m',hb⟩:=h.of_ps hp;rw [e1,e2] at hb;exact ⟨_,f',m',VA.mpr hb,e3⟩
 have d5:D5 ns (.born n s d f m):=⟨okk,fun x hx=>by
  obtain ⟨h1,h2⟩:=nmd x hx;rcases h1 with rfl|rfl
  ·exact (pn hf).resolve_left h2
  ·exact (pn hm).resolve_left h2,fun x hx=>by cases hx;exact nn⟩
 have nm':(ps++[(n,a,s,d)]).map (·.1)=ns.take (ps.length+1):=by rw [Qq,h.nm,Q5,hn];rfl
 have nd':((ps++[(n,a,s,d)]).map (·.1)).Nodup:=by rw [nm'];exact N.nd.sublist (Gf ..)
 refine ⟨.snoc h.good d5 d5 ⟨fun x hx=>?_,fun x hx=>?_,fun n' s' d' f' m' z=>?_,fun c t d' z=>(by cases z),rfl⟩,?_,by rw [nm',Qw];rfl,by rw [Qw];exact l24,fun x hx hb=>?_,fun k hk=>?_,fun p hp=>?_,by rw [Qw];exact NJ h.knl⟩
 ·obtain ⟨h1,h2⟩:=nmd x hx
  have go:∀{w:Str},X1 ps w d x->∃s' d' f' m',Ent.born x s' d' f' m'∈es.map Ent.told∧d'≤d:=fun hx=>by
   rcases par hx with z|⟨d',f',m',hb,lt⟩
   ·exact absurd z h2
   ·exact ⟨_,d',f',m',hb,Int.le_of_lt lt⟩
  rcases h1 with rfl|rfl
  ·exact go hf
  ·exact go hm
 ·obtain ⟨y,hy,rfl⟩:=Qj.mp hx;cases hb:y.isBorn with
  |true =>
   cases y with
   |born n' s' d' f' m' =>
    intro z
    have z':n'=n:=by
     have:([.inr "born",.inr n']:List Zi)=[.inr "born",.inr n]:=z;simpa using this
    obtain ⟨p,hp,e1,_⟩:=h.to_ps hy;have m1:n∈ps.map (·.1):=Qj.mpr ⟨p,hp,e1.trans z'⟩;rw [Qq] at nd';exact (Rc.mp nd').2.2 n m1 n (by simp) rfl
   |_=>cases hb
  |false =>
   obtain ⟨e,he,de⟩:=h.ok _ (h.keys y hy hb);intro z;exact de.key_ne n (by rw [←he];exact z.symm)
 ·cases z;exact ⟨par hf,par hm⟩
 ·rw [Rx,h.born,Qq];rfl
 ·rcases Qm.mp hx with hx|hx
  ·exact h.keys x hx hb
  ·rw [show x=.born n s d f m by simpa using hx] at hb;cases hb
 ·obtain ⟨e,he,de⟩:=h.ok k hk;exact ⟨e,he,de.mono nd'⟩
 ·rcases Qm.mp hp with hp|hp
  ·exact h.pd p hp
  ·rw [show p=(n,a,s,d) by simpa using hp];exact ⟨d1,d2⟩
end
theorem Zas {K:W.Frag} {H H':Hp} {D a:Addr} {kvs:List (List Zi×V)} {xs:List V} (fr:∀b u,b≠D->H b=some u->H' b=some u) (h:H D=some (.dT kvs)) (q:SqT K H a xs):SqT K H' a xs:=by
 rcases q with (q|⟨o,q⟩)|q
 ·exact .inl (.inl (fr _ _ (fun z=>by rw [z,h] at q;cases q) q))
 ·exact .inl (.inr ⟨o,fr _ _ (fun z=>by rw [z,h] at q;cases q) q⟩)
 ·exact .inr q
theorem Zfz {ps:List Pp} {n s:Str} {a:Addr} {d:Int} (h:n∉ps.map (·.1)):Yl (XC ps) (.inr n) (.ref a)=XC (ps++[(n,a,s,d)]):=by
 rw [US _ (ZnV (f:=fun p:Pp=>(.inr p.1:Zi)) (g:=fun p:Pp=>V.ref p.2.1) (fun z=>?_))]
 ·unfold XC;rw [Qq];rfl
 ·obtain ⟨p,hp,e⟩:=Qj.mp z;exact h (Qj.mpr ⟨p,hp,Rt e⟩)
theorem Zmr (ks:List (Ent×Addr)) (p:Ent×Addr):Z3 (ks++[p])=Z3 ks++[.ref p.2]:=by unfold Z3;rw [Qq];rfl
abbrev Ed:=List ((Str×Str)×Addr×List Str)
noncomputable abbrev Xg (ed:Ed):List (List Zi×V):=ed.map fun q=>(Zq q.1,.ref q.2.1)
structure EdAt (H:Hp) (D:Addr) (ed:Ed):Prop where
 d:H D=some (.dT (Xg ed))
 l:∀q∈ed,H q.2.1=some (.lst (q.2.2.map V.str))
 an:(ed.map (·.2.1)).Nodup
 kn:(ed.map (·.1)).Nodup
theorem EdAt.monoX {H H':Hp} {D:Addr} {ed:Ed} (h:EdAt H D ed) (s:SameX H H'):EdAt H' D ed:=⟨s _ _ rfl h.d,fun q hq=>s _ _ rfl (h.l q hq),h.an,h.kn⟩
theorem EdAt.mono {H H':Hp} {D:Addr} {ed:Ed} (h:EdAt H D ed) (s:Same H H'):EdAt H' D ed:=h.monoX s.x
structure EdB (ed:Ed) (n:Nat):Prop where
 len:ed.length≤n
 ll:∀q∈ed,1≤q.2.2.length∧q.2.2.length≤n
noncomputable def Z0 (f:Str×Str->List Str) (c:Str×Str) (x:Str):Str×Str->List Str:=fun c'=>if c'=c then f c++[x] else f c'
structure FrE (D:Addr) (ed:Ed) (H H':Hp) (ed':Ed):Prop where
 fr:∀b u,b≠D->b∉ed.map (·.2.1)->H b=some u->H' b=some u
 gr:∀b∈ed'.map (·.2.1),b∈ed.map (·.2.1)∨H b=none
 al:∀b,H' b=none->H b=none
theorem FrE.trans {D:Addr} {ed ed1 ed2:Ed} {H H1 H2:Hp} (a:FrE D ed H H1 ed1) (b:FrE D ed1 H1 H2 ed2):FrE D ed H H2 ed2 where
 fr:=fun c u nd nm e=>b.fr c u nd (fun z=>(a.gr c z).elim nm fun z=>by rw [e] at z;cases z) (a.fr c u nd nm e)
 gr:=fun c hc=>(b.gr c hc).elim (a.gr c) fun z=>.inr (a.al c z)
 al:=fun c n=>a.al c (b.al c n)
theorem FrE.same {D:Addr} {ed ed':Ed} {H0 H H':Hp} (f:FrE D ed H H' ed') (s:Same H0 H) (nD:H0 D=none) (ne:∀b∈ed.map (·.2.1),H0 b=none):Same H0 H'∧∀b∈ed'.map (·.2.1),H0 b=none:=by
 refine ⟨fun b u e=>f.fr b u (fun z=>by rw [z,nD] at e;cases e) (fun z=>by rw [ne b z] at e;cases e) (s _ _ e),fun b hb=>(f.gr b hb).elim (ne b) fun z=>ZK s z⟩
theorem Xy {ed:Ed} {c:Str×Str} {x:Addr×List Str} (h:ZC c ed=some x):(c,x)∈ed:=by
 induction ed with
 |nil=>cases h
 |cons q r ih =>
  unfold ZC at h;split at h
  ·rename_i e;cases h;rw [←e];exact QD ..
  ·exact QE _ (ih h)
theorem Zgg {ed:Ed} {q:(Str×Str)×Addr×List Str} (nd:(ed.map (·.1)).Nodup) (h:q∈ed):ZC q.1 ed=some q.2:=by
 induction ed with
 |nil=>cases h
 |cons p r ih =>
  obtain ⟨n1,n2⟩:=QR.mp nd;unfold ZC;rcases Qh.mp h with rfl|h
  ·rw [Qc rfl]
  ·rw [Qa (fun z=>n1 (by show p.1∈_;rw [z];exact RB (f:=(·.1)) h))];exact ih n2 h
theorem W6 {ed:Ed} {q:(Str×Str)×Addr×List Str} (nd:(ed.map (·.1)).Nodup) (h:q∈ed):lk ed q.1=q.2.2:=by unfold lk;rw [Zgg nd h];rfl
theorem Uq {ed:Ed} {c:Str×Str} (h:ZC c ed=none):lk ed c=[]:=by unfold lk;rw [h];rfl
theorem ZfD {ed:Ed} {c:Str×Str} (h:ZC c ed=none):c∉ed.map (·.1):=fun z=>by
 induction ed with
 |nil=>cases z
 |cons p r ih =>
  unfold ZC at h;split at h
  ·cases h
  ·rename_i ne;rcases Qh.mp z with z|z
   ·exact ne z.symm
   ·exact ih h z
theorem ZhS {H:Hp} {D b:Addr} {ed:Ed} {c:Str×Str} {xs:List Str} {x:Str} {n:Nat} (h:EdAt H D ed) (hb:EdB ed n) (hc:ZC c ed=some (b,xs)) :
  ∃ed',EdAt (Zb H b (.lst (xs.map V.str++[.str x]))) D ed'∧EdB ed' (n+1)∧(∀c',lk ed' c'=Z0 (lk ed) c x c')∧FrE D ed H (Zb H b (.lst (xs.map V.str++[.str x]))) ed':=by
 have mem:=Xy hc;have hlk:lk ed c=xs:=W6 (q:=(c,b,xs)) h.kn mem
 have an:∀q∈ed,q.2.1=b->q=(c,b,xs):=fun q hq e=>by
  obtain ⟨i,hi,rfl⟩:=R7 hq;obtain ⟨j,hj,ej⟩:=R7 mem;have:i=j:=(Gy (h₀:=by rw [Qd];exact hi) (h₁:=by rw [Qd];exact hj) h.an).mp (by rw [Ga,Ga,ej];exact e);subst this;exact ej
 have keq:∀q∈ed,q.1=c->q=(c,b,xs):=fun q hq e=>by
  have:=Zgg h.kn hq;rw [e,hc] at this;exact RK e (Ql this).symm
 let g:(Str×Str)×Addr×List Str->(Str×Str)×Addr×List Str:=fun q=>if q.1=c then (q.1,q.2.1,q.2.2++[x]) else q
 have g1:∀q,(g q).1=q.1:=fun q=>by show (if q.1=c then _ else q).1=q.1;split<;>rfl
 have g2:∀q,(g q).2.1=q.2.1:=fun q=>by show (if q.1=c then (q.1,q.2.1,q.2.2++[x]) else q).2.1=q.2.1;split<;>rfl
 have e1:(ed.map g).map (·.1)=ed.map (·.1):=by rw [QT];exact Rz fun q _=>g1 q
 have e2:(ed.map g).map (·.2.1)=ed.map (·.2.1):=by rw [QT];exact Rz fun q _=>g2 q
 have ne:b≠D:=fun z=>by have:=h.l _ mem;rw [show ((c,b,xs):(Str×Str)×Addr×List Str).2.1=D from z,h.d] at this;cases this
 refine ⟨ed.map g,⟨?_,fun q hq=>?_,by rw [e2];exact h.an,by rw [e1];exact h.kn⟩,⟨by rw [Qd];exact NJ hb.len,fun q hq=>?_⟩,fun c'=>?_,⟨fun a u na nm e=>?_,fun a ha=>.inl (by rw [←e2];exact ha),fun a n=>?_⟩⟩
 ·rw [Ze ne.symm,h.d]
  congr 2
  show _=(ed.map g).map _;rw [QT];exact Rz fun q _=>by show _=(Zq (g q).1,V.ref (g q).2.1);rw [g1,g2]
 ·obtain ⟨p,hp,rfl⟩:=Qj.mp hq;by_cases e:p.1=c
  ·have:=keq p hp e;subst this;show Zb H b _ (g (c,b,xs)).2.1=_;rw [g2,Zf];show _=some (HO.lst (((if c=c then (c,b,xs++[x]) else (c,b,xs)).2.2).map V.str));rw [Qc rfl,Qq];rfl
  ·rw [g2,Ze (fun z=>e (by rw [an p hp z]))];show _=some (HO.lst ((if p.1=c then (p.1,p.2.1,p.2.2++[x]) else p).2.2.map V.str));rw [Qa e];exact h.l p hp
 ·obtain ⟨p,hp,rfl⟩:=Qj.mp hq;have:=hb.ll p hp;show 1≤(if p.1=c then (p.1,p.2.1,p.2.2++[x]) else p).2.2.length∧(if p.1=c then (p.1,p.2.1,p.2.2++[x]) else p).2.2.length≤n+1;split
  ·show 1≤(p.2.2++[x]).length∧(p.2.2++[x]).length≤n+1;rw [Qw];exact ⟨by simp,by simp;omega⟩
  ·omega
 ·unfold Z0;have kn':((ed.map g).map (·.1)).Nodup:=by rw [e1];exact h.kn
  by_cases e:c'=c
  ·subst e;rw [Qc rfl,hlk];have m':g (c',b,xs)∈ed.map g:=RB mem;have e3:g (c',b,xs)=(c',b,xs++[x]):=by show (if c'=c' then _ else _)=_;rw [Qc rfl]
   rw [e3] at m';exact W6 kn' m'
  ·rw [Qa e];cases hl:ZC c' ed with
   |some y =>
    have m':g (c',y)∈ed.map g:=RB (Xy hl);have e3:g (c',y)=(c',y):=by show (if c'=c then _ else _)=_;rw [Qa e]
    rw [e3] at m';rw [W6 kn' m',W6 h.kn (Xy hl)]
   |none =>
    rw [Uq hl];refine Uq ?_;cases hl2:ZC c' (ed.map g) with
    |none=>rfl
    |some y =>
     have:=RB (f:=(·.1)) (Xy hl2);rw [e1] at this;exact absurd this (ZfD hl)
 ·rw [Ze (fun z=>nm (by rw [z];exact RB (f:=(·.2.1)) mem))];exact e
 ·by_cases z:a=b
  ·rw [z,Zf] at n;cases n
  ·rwa [Ze z] at n
theorem Zfr {H:Hp} {D z:Addr} {ed:Ed} {c:Str×Str} {xs:List Str} {n:Nat} (h:EdAt H D ed) (hb:EdB ed n) (hc:ZC c ed=none) (nz:H z=none) (l1:1≤xs.length) (ln:xs.length≤n+1) {H':Hp}
  (hD:H' D=some (.dT (Xg ed++[(Zq c,.ref z)]))) (hz:H' z=some (.lst (xs.map V.str))) (fr:∀b u,b≠D->H b=some u->H' b=some u) (al:∀b,H' b=none->H b=none) :
  ∃ed',EdAt H' D ed'∧EdB ed' (n+1)∧(∀c',lk ed' c'=if c'=c then xs else lk ed c')∧FrE D ed H H' ed':=by
 have nk:=ZfD hc
 have na:z∉ed.map (·.2.1):=fun m=>by
  obtain ⟨q,hq,e⟩:=Qj.mp m;have:=h.l q hq;rw [e,nz] at this;cases this
 refine ⟨ed++[(c,z,xs)],⟨by rw [hD];show _=some (HO.dT ((ed++[(c,z,xs)]).map _));rw [Qq];rfl,fun q hq=>?_,?_,?_⟩,⟨by rw [Qw];exact NI hb.len,fun q hq=>?_⟩,fun c'=>?_,⟨fun b u nb nm e=>fr b u nb e,fun b hb'=>?_,al⟩⟩
 ·rcases Qm.mp hq with hq|hq
  ·have:=h.l q hq;exact fr _ _ (fun y=>by rw [y,h.d] at this;cases this) this
  ·rw [show q=(c,z,xs) by simpa using hq];exact hz
 ·rw [Qq];exact Rc.mpr ⟨h.an,by simp,fun a ha b hb'=>by rw [show b=z by simpa using hb'];exact fun e=>na (e▸ha)⟩
 ·rw [Qq];exact Rc.mpr ⟨h.kn,by simp,fun a ha b hb'=>by rw [show b=c by simpa using hb'];exact fun e=>nk (e▸ha)⟩
 ·rcases Qm.mp hq with hq|hq
  ·have:=hb.ll q hq;omega
  ·rw [show q=(c,z,xs) by simpa using hq];exact ⟨l1,ln⟩
 ·unfold lk;rw [ZdH];by_cases e:c'=c
  ·subst e;rw [Qc rfl,hc];show ((ZC c' [(c',z,xs)]).map (·.2)).getD []=xs;unfold ZC;rw [Qc rfl];rfl
  ·rw [Qa e];have:ZC c' [(c,z,xs)]=none:=by unfold ZC;rw [Qa (fun y=>e y.symm)];rfl
   rw [this];cases ZC c' ed<;>rfl
 ·rw [Qq] at hb';rcases Qm.mp hb' with hb'|hb'
  ·exact .inl hb'
  ·exact .inr (by rw [show b=z by simpa using hb'];exact nz)
noncomputable def Zbl (l:Str):Str:=if l="F" then "f" else if l="M" then "m" else "t"
theorem Zeq {l:Str} (h:l="F"∨l="M"∨l="T"):Txt.lower l=Zbl l:=by
 rcases h with rfl|rfl|rfl<;>decide +kernel
def Ue (D:Addr) (ed:Ed) (n:Nat) (c:Str×Str) (x:Str) (H H':Hp):Prop:=∃ed',EdAt H' D ed'∧EdB ed' (n+1)∧(∀c',lk ed' c'=Z0 (lk ed) c x c')∧FrE D ed H H' ed'
theorem FrE.pre {D:Addr} {ed ed':Ed} {H H1 H':Hp} (s:Same H H1) (f:FrE D ed H1 H' ed'):FrE D ed H H' ed':=⟨fun b u nb nm e=>f.fr b u nb nm (s _ _ e),fun b hb=>(f.gr b hb).imp id fun z=>ZK s z,fun b z=>ZK s (f.al b z)⟩
theorem ZaY {H H2:Hp} {D z:Addr} {ed:Ed} {n:Nat} {c:Str×Str} {x:Str} (h:EdAt H D ed) (hb:EdB ed n) (n6:n≤900) (s:Same H H2) (nz:H z=none) (hz:H2 z=some (.lst [])) :
  H2 D=some (.dT (Xg ed))∧(Xg ed).length<sizeLine ∧
  (∀v,ZN (Xg ed) (Zq c)=some v->∃(b:Addr) (xs:List Str),v=.ref b∧H2 b=some (.lst (xs.map V.str))∧(xs.map V.str).length<sizeLine∧Ue D ed n c x H (Zb H2 b (.lst (xs.map V.str++[.str x])))) ∧
  (ZN (Xg ed) (Zq c)=none->(Zb H2 D (.dT (Xg ed++[(Zq c,.ref z)]))) z=some (.lst [])∧Ue D ed n c x H (Zb (Zb H2 D (.dT (Xg ed++[(Zq c,.ref z)]))) z (.lst ([]++[.str x])))):=by
 have h2:=h.mono s;have zD:z≠D:=fun e=>by rw [e,h2.d] at hz;cases hz
 refine ⟨h2.d,Zw (by rw [Qd];have:=hb.len;omega),fun v hv=>?_,fun hv=>⟨by rw [Ze zD];exact hz,?_⟩⟩
 ·rw [Ws] at hv;obtain ⟨⟨b,xs⟩,hx,rfl⟩:=QH.mp hv;have mem:=Xy hx;have ll:=hb.ll _ mem;obtain ⟨ed',a1,a2,a3,a4⟩:=ZhS (x:=x) h2 hb hx;exact ⟨b,xs,rfl,h2.l _ mem,Zw (by rw [Qd];have:xs.length≤n:=ll.2;omega),ed',a1,a2,a3,a4.pre s⟩
 ·rw [Ws] at hv
  have hn:ZC c ed=none:=by
   cases e:ZC c ed with
   |none=>rfl
   |some y=>rw [e] at hv;cases hv
  obtain ⟨ed',a1,a2,a3,a4⟩:=Zfr (xs:=[x]) (H':=Zb (Zb H2 D (.dT (Xg ed++[(Zq c,.ref z)]))) z (.lst ([]++[.str x]))) h hb hn nz (by simp) (by simp) (by rw [Ze zD.symm,Zf]) Zf
   (fun b u nb e=>by rw [Ze (ZU e nz),Ze nb];exact s _ _ e) (fun b hbn=>by
    by_cases e1:b=z
    ·rw [e1,Zf] at hbn;cases hbn
    ·rw [Ze e1] at hbn;by_cases e2:b=D
     ·rw [e2,Zf] at hbn;cases hbn
     ·rw [Ze e2] at hbn;exact ZK s hbn)
  refine ⟨ed',a1,a2,fun c'=>?_,a4⟩;rw [a3];unfold Z0;rw [Uq hn];rfl
noncomputable def Yj (a b n x:Str) (g:ZI):ZI:=if x="" then g else Z0 (Z0 g (a,n) x) (b,x) n
noncomputable def Yo (f:ZI) (s n:Str):ZI:=fun c=>if c=(s,n) then [n] else f c
noncomputable def Yt (f:ZI):Ent->ZI
 |.born n s _ fa mo=>Yj "M" "m" n mo (Yj "F" "f" n fa (Yo f s n))
 |.taken c t _=>Z0 (Z0 f ("T",c) t) ("t",t) c
 |_=>f
noncomputable def Yn (es:List Ent):ZI:=es.foldl Yt fun _=>[]
theorem Ua (es:List Ent) (e:Ent):Yn (es++[e])=Yt (Yn es) e:=by unfold Yn;rw [GZ];rfl
abbrev Xx:=List ((Str×Str)×Addr×Int×Str)
noncomputable def Wh (g:Str×Str->Option (Int×Str)) (e:Ent):Str×Str->Option (Int×Str):=fun c =>
 if e.tie=true∧c=Zg e.pr.1 e.pr.2 then (match g c with
  |none=>some (e.day,e.kind)
  |some r=>if r.1<e.day then some (e.day,e.kind) else some r) else g c
noncomputable def YE (es:List Ent):Str×Str->Option (Int×Str):=es.foldl Wh fun _=>none
theorem Za1 (es:List Ent) (e:Ent):YE (es++[e])=Wh (YE es) e:=by unfold YE;rw [GZ];rfl
noncomputable abbrev Xh (ls:Xx):List (List Zi×V):=ls.map fun q=>(Zq q.1,.ref q.2.1)
structure LsAt (K:W.Frag) (H:Hp) (D:Addr) (ls:Xx):Prop where
 d:H D=some (.dT (Xh ls))
 t:∀q∈ls,SqT K H q.2.1 [.int q.2.2.1,.str q.2.2.2]
 kn:(ls.map (·.1)).Nodup
theorem LsAt.mono {K:W.Frag} {H H':Hp} {D:Addr} {ls:Xx} (h:LsAt K H D ls) (s:Same H H'):LsAt K H' D ls:=⟨s _ _ h.d,fun q hq=>s.sqt (h.t q hq),h.kn⟩
theorem ZdV (c:Str×Str):∀l:Xx,ZN (Xh l) (Zq c)=(ZB c l).map fun q=>.ref q.1
 |[]=>rfl
 |q::r=>by
  have ih:=ZdV c r;unfold ZB;show ZN ((Zq q.1,V.ref q.2.1)::Xh r) (Zq c)=_;by_cases e:q.1=c
  ·subst e;rw [XT rfl,Qc rfl];rfl
  ·rw [X6 (fun z=>e (WN z)),Qa e];exact ih
theorem FrE.sqt {K:W.Frag} {D:Addr} {ed ed':Ed} {H H':Hp} (f:FrE D ed H H' ed') (h:EdAt H D ed) {a:Addr} {xs:List V} (q:SqT K H a xs):SqT K H' a xs:=by
 have nm:∀{b:Addr} {u:HO},H b=some u->(∀ys,u≠.lst ys)->b∉ed.map (·.2.1):=fun e nl m=>by
  obtain ⟨p,hp,rfl⟩:=Qj.mp m;rw [h.l p hp] at e;cases e;exact nl _ rfl
 rcases q with (q|⟨o,q⟩)|q
 ·exact .inl (.inl (f.fr _ _ (fun z=>by rw [z,h.d] at q;cases q) (nm q fun _ z=>by cases z) q))
 ·exact .inl (.inr ⟨o,f.fr _ _ (fun z=>by rw [z,h.d] at q;cases q) (nm q fun _ z=>by cases z) q⟩)
 ·exact .inr q
theorem FrE.ls {K:W.Frag} {D Dl:Addr} {ed ed':Ed} {H H':Hp} {ls:Xx} (f:FrE D ed H H' ed') (h:EdAt H D ed) (ne:Dl≠D) (l:LsAt K H Dl ls):LsAt K H' Dl ls:=by
 refine ⟨f.fr _ _ ne (fun m=>?_) l.d,fun q hq=>f.sqt h (l.t q hq),l.kn⟩;obtain ⟨p,hp,e⟩:=Qj.mp m;have:=h.l p hp;rw [e,l.d] at this;cases this
theorem Zll (l:Xx) (c:Str×Str) (x:Addr×Int×Str):Yl (Xh l) (Zq c) (.ref x.1)=Xh (Zn l c x):=UO (f:=Zq) (fun _ _=>WN) (fun x:Addr×Int×Str=>V.ref x.1) l c x
noncomputable def Xk (f:ZI) (q:(Str×Str)×Addr×Int×Str):ZI:=if q.2.2.2="union" then Z0 (Z0 f ("S",q.1.1) q.1.2) ("S",q.1.2) q.1.1 else f
theorem EdB.mono {ed:Ed} {n m:Nat} (h:EdB ed n) (l:n≤m):EdB ed m:=⟨Qn h.len l,fun q hq=>⟨(h.ll q hq).1,Qn (h.ll q hq).2 l⟩⟩
theorem Zne {ed:Ed} {n:Nat} {c:Str×Str} (hb:EdB ed n) (h:lk ed c=[]):ZC c ed=none:=by
 cases e:ZC c ed with
 |none=>rfl
 |some x =>
  have l:=(hb.ll _ (Xy e)).1;have z:x.2=[]:=by unfold lk at h;rw [e] at h;exact h
  rw [show ((c,x):(Str×Str)×Addr×List Str).2.2=[] from z] at l;cases l
theorem ZaN {es:List Ent} {e:Ent} (h:e.tie=false):YE (es++[e])=YE es:=by
 rw [Za1]
 funext c
 unfold Wh;rw [Qa (fun z=>by rw [h] at z;cases z.1)]
theorem Zm5 {es:List Ent} {n s:Str} (hs:s="he"∨s="she"∨s="") (h:∀e∈es,e.bornName≠some n):Yn es (s,n)=[]:=by
 have go:∀(l:List Ent) (f:ZI),(∀e∈l,e.bornName≠some n)->f (s,n)=[]->l.foldl Yt f (s,n)=[]:=by
  intro l
  induction l with
  |nil=>intro f _ h0;exact h0
  |cons e r ih =>
   intro f hl h0;refine ih _ (fun e he=>hl e (QE _ he)) ?_
   have ne:∀{a:Str},a∈(["F","f","M","m","T","t"]:List Str)->s≠a:=fun ha z=>by
    rw [z] at hs;simp only [Qh,QX,QY] at ha;rcases ha with rfl|rfl|rfl|rfl|rfl|rfl<;>exact absurd hs (by decide +kernel)
   have ad:∀{g:ZI} {a y x:Str},a∈(["F","f","M","m","T","t"]:List Str)->Z0 g (a,y) x (s,n)=g (s,n):=fun {g a y x} ha=>Qa fun z=>ne ha (Qu (·.1) z);cases e with
   |born n' s' d fa mo =>
    have nn:n'≠n:=fun z=>hl _ (QD ..) (by rw [z];rfl);have b0:Yo f s' n' (s,n)=[]:=by unfold Yo;rw [Qa (fun z=>nn (Qu (·.2) z).symm)];exact h0
    have f2:∀{u v x:Str} {g:ZI},u∈(["F","f","M","m","T","t"]:List Str)->v∈(["F","f","M","m","T","t"]:List Str)->g (s,n)=[]->Yj u v n' x g (s,n)=[]:=fun hu hv hg=>by
     unfold Yj;split
     ·exact hg
     ·rw [ad hv,ad hu];exact hg
    exact f2 (by simp) (by simp) (f2 (by simp) (by simp) b0)
   |taken c t d=>show Z0 _ _ _ _=[];rw [ad (by simp),ad (by simp)];exact h0
   |union=>exact h0
   |parted=>exact h0
   |dead=>exact h0
   |given=>exact h0
 exact go es _ h rfl
theorem Zek {n s f m:Str} {d:Int} (h:(Ent.born n s d f m).Ok):s="he"∨s="she"∨s="":=by
 have e:=h.en;have e2:XA [.name,.sort,.day,.parent,.parent] [.str n,.str s,.int d,.str f,.str m]=true:=e;unfold XA at e2;rw [Rm] at e2;have e3:=Rp.mp e2.2 (Vn (.str s)) (by simp [ZT,V0]);have e4:(decide (s="he")||decide (s="she")||decide (s=""))=true:=e3;simpa [RV,or_assoc] using e4
theorem FrE.oth {D b:Addr} {ed ed':Ed} {H H':Hp} {u:HO} (f:FrE D ed H H' ed') (h:EdAt H D ed) (ne:b≠D) (e:H b=some u) (nl:∀ys,u≠.lst ys):H' b=some u :=
 f.fr b u ne (fun m=>by
  obtain ⟨p,hp,rfl⟩:=Qj.mp m;rw [h.l p hp] at e;cases e;exact nl _ rfl) e
theorem EdAt.off {H:Hp} {D b:Addr} {ed:Ed} (h:EdAt H D ed) (e:H b=none):b∉ed.map (·.2.1):=fun m=>by
 obtain ⟨p,hp,z⟩:=Qj.mp m;have:=h.l p hp;rw [z,e] at this;cases this
noncomputable def J9 (F:ZI) (n s fa mo:Str):Nat->ZI
 |0=>Yo F s n
 |1=>Yj "F" "f" n fa (Yo F s n)
 |_=>Yj "M" "m" n mo (Yj "F" "f" n fa (Yo F s n))
noncomputable def Jg (ed:Ed) (nm s:Str):Option V:=if (ZC (s,nm) ed).isSome=true then some (.str s) else none
theorem Zf7 (ed:Ed) (nm:Str):∀l:List Str,(l.map (Jg ed nm)).filterMap id=(l.filter fun s=>(ZC (s,nm) ed).isSome).map V.str
 |[]=>rfl
 |s::l=>by
  have ih:=Zf7 ed nm l;rw [Qr,QL,Ry];unfold Jg at ih ⊢;by_cases h:(ZC (s,nm) ed).isSome=true
  ·rw [Qc h,Qc h];simp only [id,Qr];rw [ih]
  ·rw [Qa h,Qa h];simp only [id];exact ih
theorem ZnE (z:Int):∃s∈ZV,Yi (ZV.map V.str) (z.fmod 9)=some (.str s):=VF V.str ZV (by decide) z
theorem Yx (f:ZI) (a n x b m:Str):Z0 f (a,n) x (b,m)=if b=a∧m=n then f (a,n)++[x] else f (b,m):=by
 unfold Z0;by_cases h:b=a∧m=n
 ·rw [Qc (by rw [h.1,h.2]),Qc h]
 ·rw [Qa (fun z=>h ⟨Qu (·.1) z,Qu (·.2) z⟩),Qa h]
theorem Y6 {a b:Str} (ab:¬b=a) (n' x:Str) (g:ZI) (l n:Str):Yj a b n' x g (l,n)=if x="" then g (l,n) else if l=b∧n=x then g (l,n)++[n'] else if l=a∧n=n' then g (l,n)++[x] else g (l,n):=by
 unfold Yj;by_cases h:x=""
 ·rw [Qc h,Qc h]
 ·rw [Qa h,Qa h,Yx,Yx];by_cases h1:l=b∧n=x
  ·rw [Qc h1,Qc h1,Qa (fun z=>ab z.1),h1.1,h1.2]
  ·rw [Qa h1,Qa h1,Yx];by_cases h2:l=a∧n=n'
   ·rw [Qc h2,Qc h2,h2.1,h2.2]
   ·rw [Qa h2,Qa h2]
theorem ZdS (f:ZI) (e:Ent) (n:Str) (hs:∀n' s d fa mo,e=.born n' s d fa mo->s≠"F"):Yt f e ("F",n)=f ("F",n)++VJ n e:=by
 have klf:¬(("F" : Str)="f"):=by decide +kernel
 have kuM:¬(("F" : Str)="M"):=by decide +kernel
 have klm:¬(("F" : Str)="m"):=by decide +kernel
 have kuT:¬(("F" : Str)="T"):=by decide +kernel
 have klt:¬(("F" : Str)="t"):=by decide +kernel
 cases e with
 |born n' s d fa mo =>
  have h1:=hs n' s d fa mo rfl;show Yj "M" "m" n' mo (Yj "F" "f" n' fa (Yo f s n')) ("F",n)=_;rw [Y6 (by decide +kernel),Y6 (by decide +kernel),show Yo f s n' ("F",n)=f ("F",n) from Qa (fun z=>h1 (Qu (·.1) z).symm)];simp only [klf,kuM,klm,kuT,klt,RH,RI,QS,RJ];unfold VJ;by_cases e1:fa=""
  ·simp [e1]
  ·by_cases e2:n=n'
   ·subst e2;simp [e1]
   ·have e3:¬n'=n:=fun z=>e2 z.symm;simp [e1,e2,e3]
 |taken c t d =>
  show Z0 (Z0 f ("T",c) t) ("t",t) c ("F",n)=_;rw [Yx,Qa (fun z=>klt z.1),Yx,Qa (fun z=>kuT z.1)];simp [VJ]
 |union=>exact (Qv _).symm
 |parted=>exact (Qv _).symm
 |dead=>exact (Qv _).symm
 |given=>exact (Qv _).symm
theorem Zd0 (f:ZI) (e:Ent) (n:Str) (hs:∀n' s d fa mo,e=.born n' s d fa mo->s≠"f"):Yt f e ("f",n)=f ("f",n)++VB n e:=by
 have kuF:¬(("f" : Str)="F"):=by decide +kernel
 have kuM:¬(("f" : Str)="M"):=by decide +kernel
 have klm:¬(("f" : Str)="m"):=by decide +kernel
 have kuT:¬(("f" : Str)="T"):=by decide +kernel
 have klt:¬(("f" : Str)="t"):=by decide +kernel
 cases e with
 |born n' s d fa mo =>
  have h1:=hs n' s d fa mo rfl;show Yj "M" "m" n' mo (Yj "F" "f" n' fa (Yo f s n')) ("f",n)=_;rw [Y6 (by decide +kernel),Y6 (by decide +kernel),show Yo f s n' ("f",n)=f ("f",n) from Qa (fun z=>h1 (Qu (·.1) z).symm)];simp only [kuF,kuM,klm,kuT,klt,RH,RI,QS,RJ];unfold VB;by_cases e1:fa=""
  ·simp [e1]
  ·by_cases e2:n=fa
   ·subst e2;simp [e1]
   ·have e3:¬fa=n:=fun z=>e2 z.symm;simp [e1,e2,e3]
 |taken c t d =>
  show Z0 (Z0 f ("T",c) t) ("t",t) c ("f",n)=_;rw [Yx,Qa (fun z=>klt z.1),Yx,Qa (fun z=>kuT z.1)];simp [VB]
 |union=>exact (Qv _).symm
 |parted=>exact (Qv _).symm
 |dead=>exact (Qv _).symm
 |given=>exact (Qv _).symm
theorem Zf6 (f:ZI) (e:Ent) (n:Str) (hs:∀n' s d fa mo,e=.born n' s d fa mo->s≠"M"):Yt f e ("M",n)=f ("M",n)++Vo n e:=by
 have kuF:¬(("M" : Str)="F"):=by decide +kernel
 have klf:¬(("M" : Str)="f"):=by decide +kernel
 have klm:¬(("M" : Str)="m"):=by decide +kernel
 have kuT:¬(("M" : Str)="T"):=by decide +kernel
 have klt:¬(("M" : Str)="t"):=by decide +kernel
 cases e with
 |born n' s d fa mo =>
  have h1:=hs n' s d fa mo rfl;show Yj "M" "m" n' mo (Yj "F" "f" n' fa (Yo f s n')) ("M",n)=_;rw [Y6 (by decide +kernel),Y6 (by decide +kernel),show Yo f s n' ("M",n)=f ("M",n) from Qa (fun z=>h1 (Qu (·.1) z).symm)];simp only [kuF,klf,klm,kuT,klt,RH,RI,QS,RJ];unfold Vo;by_cases e1:mo=""
  ·simp [e1]
  ·by_cases e2:n=n'
   ·subst e2;simp [e1]
   ·have e3:¬n'=n:=fun z=>e2 z.symm;simp [e1,e2,e3]
 |taken c t d =>
  show Z0 (Z0 f ("T",c) t) ("t",t) c ("M",n)=_;rw [Yx,Qa (fun z=>klt z.1),Yx,Qa (fun z=>kuT z.1)];simp [Vo]
 |union=>exact (Qv _).symm
 |parted=>exact (Qv _).symm
 |dead=>exact (Qv _).symm
 |given=>exact (Qv _).symm
theorem Zhg (f:ZI) (e:Ent) (n:Str) (hs:∀n' s d fa mo,e=.born n' s d fa mo->s≠"m"):Yt f e ("m",n)=f ("m",n)++VO n e:=by
 have kuF:¬(("m" : Str)="F"):=by decide +kernel
 have klf:¬(("m" : Str)="f"):=by decide +kernel
 have kuM:¬(("m" : Str)="M"):=by decide +kernel
 have kuT:¬(("m" : Str)="T"):=by decide +kernel
 have klt:¬(("m" : Str)="t"):=by decide +kernel
 cases e with
 |born n' s d fa mo =>
  have h1:=hs n' s d fa mo rfl;show Yj "M" "m" n' mo (Yj "F" "f" n' fa (Yo f s n')) ("m",n)=_;rw [Y6 (by decide +kernel),Y6 (by decide +kernel),show Yo f s n' ("m",n)=f ("m",n) from Qa (fun z=>h1 (Qu (·.1) z).symm)];simp only [kuF,klf,kuM,kuT,klt,RH,RI,QS,RJ];unfold VO;by_cases e1:mo=""
  ·simp [e1]
  ·by_cases e2:n=mo
   ·subst e2;simp [e1]
   ·have e3:¬mo=n:=fun z=>e2 z.symm;simp [e1,e2,e3]
 |taken c t d =>
  show Z0 (Z0 f ("T",c) t) ("t",t) c ("m",n)=_;rw [Yx,Qa (fun z=>klt z.1),Yx,Qa (fun z=>kuT z.1)];simp [VO]
 |union=>exact (Qv _).symm
 |parted=>exact (Qv _).symm
 |dead=>exact (Qv _).symm
 |given=>exact (Qv _).symm
theorem ZgB (f:ZI) (e:Ent) (n:Str) (hs:∀n' s d fa mo,e=.born n' s d fa mo->s≠"T"):Yt f e ("T",n)=f ("T",n)++VT n e:=by
 have kuF:¬(("T" : Str)="F"):=by decide +kernel
 have klf:¬(("T" : Str)="f"):=by decide +kernel
 have kuM:¬(("T" : Str)="M"):=by decide +kernel
 have klm:¬(("T" : Str)="m"):=by decide +kernel
 have klt:¬(("T" : Str)="t"):=by decide +kernel
 cases e with
 |born n' s d fa mo =>
  have h1:=hs n' s d fa mo rfl;show Yj "M" "m" n' mo (Yj "F" "f" n' fa (Yo f s n')) ("T",n)=_;rw [Y6 (by decide +kernel),Y6 (by decide +kernel),show Yo f s n' ("T",n)=f ("T",n) from Qa (fun z=>h1 (Qu (·.1) z).symm)];simp only [kuF,klf,kuM,klm,klt,RH,RI,QS,RJ];simp [VT]
 |taken c t d =>
  show Z0 (Z0 f ("T",c) t) ("t",t) c ("T",n)=_;rw [Yx,Qa (fun z=>klt z.1),Yx];unfold VT;by_cases e2:n=c
  ·subst e2;simp
  ·have e3:¬c=n:=fun z=>e2 z.symm;simp [e2,e3]
 |union=>exact (Qv _).symm
 |parted=>exact (Qv _).symm
 |dead=>exact (Qv _).symm
 |given=>exact (Qv _).symm
theorem Zgq (f:ZI) (e:Ent) (n:Str) (hs:∀n' s d fa mo,e=.born n' s d fa mo->s≠"t"):Yt f e ("t",n)=f ("t",n)++VL n e:=by
 have kuF:¬(("t" : Str)="F"):=by decide +kernel
 have klf:¬(("t" : Str)="f"):=by decide +kernel
 have kuM:¬(("t" : Str)="M"):=by decide +kernel
 have klm:¬(("t" : Str)="m"):=by decide +kernel
 have kuT:¬(("t" : Str)="T"):=by decide +kernel
 cases e with
 |born n' s d fa mo =>
  have h1:=hs n' s d fa mo rfl;show Yj "M" "m" n' mo (Yj "F" "f" n' fa (Yo f s n')) ("t",n)=_;rw [Y6 (by decide +kernel),Y6 (by decide +kernel),show Yo f s n' ("t",n)=f ("t",n) from Qa (fun z=>h1 (Qu (·.1) z).symm)];simp only [kuF,klf,kuM,klm,kuT,RH,RI,QS,RJ];simp [VL]
 |taken c t d =>
  show Z0 (Z0 f ("T",c) t) ("t",t) c ("t",n)=_;unfold VL;rw [Yx];by_cases e2:n=t
  ·subst e2;rw [Qc ⟨rfl,rfl⟩,Yx,Qa (fun z=>kuT z.1)];simp
  ·have e3:¬t=n:=fun z=>e2 z.symm;rw [Qa (fun z=>e2 z.2),Yx,Qa (fun z=>kuT z.1)];simp [e3]
 |union=>exact (Qv _).symm
 |parted=>exact (Qv _).symm
 |dead=>exact (Qv _).symm
 |given=>exact (Qv _).symm
theorem Zmt (f:ZI) (e:Ent) (n:Str) (hs:∀n' s d fa mo,e=.born n' s d fa mo->s≠"S"):Yt f e ("S",n)=f ("S",n)++[]:=by
 have kuF:¬(("S" : Str)="F"):=by decide +kernel
 have klf:¬(("S" : Str)="f"):=by decide +kernel
 have kuM:¬(("S" : Str)="M"):=by decide +kernel
 have klm:¬(("S" : Str)="m"):=by decide +kernel
 have kuT:¬(("S" : Str)="T"):=by decide +kernel
 have klt:¬(("S" : Str)="t"):=by decide +kernel
 cases e with
 |born n' s d fa mo =>
  have h1:=hs n' s d fa mo rfl;show Yj "M" "m" n' mo (Yj "F" "f" n' fa (Yo f s n')) ("S",n)=_;rw [Y6 (by decide +kernel),Y6 (by decide +kernel),show Yo f s n' ("S",n)=f ("S",n) from Qa (fun z=>h1 (Qu (·.1) z).symm)];simp only [kuF,klf,kuM,klm,kuT,klt,RH,RI,QS,RJ];simp
 |taken c t d =>
  show Z0 (Z0 f ("T",c) t) ("t",t) c ("S",n)=_;rw [Yx,Qa (fun z=>klt z.1),Yx,Qa (fun z=>kuT z.1)];simp
 |union=>exact (Qv _).symm
 |parted=>exact (Qv _).symm
 |dead=>exact (Qv _).symm
 |given=>exact (Qv _).symm
def ZaH (es:List Ent):Prop:=∀n s d fa mo,Ent.born n s d fa mo∈es->s="he"∨s="she"∨s=""
theorem ZaG {es:List Ent} {l n:Str} {ad:Ent->List Str} (st:∀e∈es,∀f:ZI,Yt f e (l,n)=f (l,n)++ad e):Yn es (l,n)=es.flatMap ad:=by
 have go:∀(r:List Ent) (f:ZI),(∀e∈r,∀f:ZI,Yt f e (l,n)=f (l,n)++ad e)->r.foldl Yt f (l,n)=f (l,n)++r.flatMap ad:=by
  intro r
  induction r with
  |nil=>intro f _;simp
  |cons e r ih =>
   intro f h;rw [RA,ih _ (fun e he=>h e (QE _ he)),h e (QD ..),ND,NE]
 rw [show Yn es (l,n)=es.foldl Yt (fun _=>[]) (l,n) from rfl,go es _ st];rfl
theorem Zbw {es:List Ent} (h:ZaH es) {l:Str} (hl:l∈Xw):∀e∈es,∀n' s d fa mo,e=.born n' s d fa mo->s≠l:=fun e he n' s d fa mo z w=>by
 subst z w;have:=h _ _ _ _ _ he;simp only [Xw,Qh,QX,QY] at hl;rcases hl with rfl|rfl|rfl|rfl|rfl|rfl|rfl<;>exact absurd this (by decide +kernel)
theorem Zex {es:List Ent}:∀(c:Str×Str) (x:Str),x∈Yn es c->∃e∈es,x∈e.named∨e.bornName=some x:=by
 have ad:∀{f:ZI} {c c':Str×Str} {x y:Str},x∈Z0 f c y c'->x∈f c'∨x=y:=fun {f c c' x y} h=>by
  unfold Z0 at h;split at h
  ·rename_i e;rcases Qm.mp h with h|h
   ·rw [e];exact .inl h
   ·exact .inr (by simpa using h)
  ·exact .inl h
 have go:∀(r:List Ent) (f:ZI) (R:Str->Prop),(∀c x,x∈f c->R x)->(∀e∈r,∀x,x∈e.named∨e.bornName=some x->R x)->∀c x,x∈r.foldl Yt f c->R x:=by
  intro r
  induction r with
  |nil=>intro f R h _ c x hx;exact h c x hx
  |cons e r ih =>
   intro f R h hr c x hx;refine ih (Yt f e) R (fun c x hx=>?_) (fun e he=>hr e (QE _ he)) c x hx;have he:=hr e (QD ..);cases e with
   |born n s d fa mo =>
    have p1:∀{a b y:Str} {g:ZI},(∀c x,x∈g c->R x)->(y≠""->R y)->∀c x,x∈Yj a b n y g c->R x:=fun {a b y g} hg hy c x hx=>by
     unfold Yj at hx;split at hx
     ·exact hg c x hx
     ·rename_i ny;rcases ad hx with hx|rfl
      ·rcases ad hx with hx|rfl
       ·exact hg c x hx
       ·exact hy ny
      ·exact he _ (.inr rfl)
    refine p1 (p1 (fun c x hx=>?_) (fun ny=>he _ (.inl ?_))) (fun ny=>he _ (.inl ?_)) c x hx
    ·unfold Yo at hx;split at hx
     ·rw [show x=n by simpa using hx];exact he _ (.inr rfl)
     ·exact h c x hx
    ·exact Q7.mpr ⟨by simp,Qo ny⟩
    ·exact Q7.mpr ⟨by simp,Qo ny⟩
   |taken u v d =>
    rcases ad (show x∈Z0 (Z0 f ("T",u) v) ("t",v) u c from hx) with hx|rfl
    ·rcases ad hx with hx|rfl
     ·exact h c x hx
     ·exact he _ (.inl (by simp [Ent.named]))
    ·exact he _ (.inl (by simp [Ent.named]))
   |union=>exact h c x hx
   |parted=>exact h c x hx
   |dead=>exact h c x hx
   |given=>exact h c x hx
 intro c x hx;exact go es _ (fun x=>∃e∈es,x∈e.named∨e.bornName=some x) (fun c x h=>(by cases h)) (fun e he x h=>⟨e,he,h⟩) c x hx
theorem Zd7 {es:List Ent} {s n x:Str} (hs:s="he"∨s="she"):x∈Yn es (s,n)↔x=n∧∃d f m,Ent.born n s d f m∈es:=by
 have ne:∀{a:Str},a∈(["F","f","M","m","T","t"]:List Str)->¬s=a:=fun ha z=>by
  rw [z] at hs;simp only [Qh,QX,QY] at ha;rcases ha with rfl|rfl|rfl|rfl|rfl|rfl<;>exact absurd hs (by decide +kernel)
 have st:∀(f:ZI) (e:Ent),Yt f e (s,n)=(match e with|.born n' s' _ _ _=>Yo f s' n' (s,n)|_=>f (s,n)):=fun f e=>by
  cases e with
  |born n' s' d fa mo =>
   show Yj "M" "m" n' mo (Yj "F" "f" n' fa (Yo f s' n')) (s,n)=Yo f s' n' (s,n);rw [Y6 (by decide +kernel),Y6 (by decide +kernel)];simp only [ne (a:="m") (by simp),ne (a:="M") (by simp),ne (a:="f") (by simp),ne (a:="F") (by simp),RH,QS,RJ]
  |taken u v d =>
   show Z0 (Z0 f ("T",u) v) ("t",v) u (s,n)=f (s,n);rw [Yx,Qa (fun z=>ne (a:="t") (by simp) z.1),Yx,Qa (fun z=>ne (a:="T") (by simp) z.1)]
  |_=>rfl
 have go:∀(r:List Ent) (f:ZI),(∀y∈f (s,n),y=n)->(x∈r.foldl Yt f (s,n)↔(x=n∧∃d g m,Ent.born n s d g m∈r)∨x∈f (s,n)):=by
  intro r
  induction r with
  |nil=>intro f _;simp
  |cons e r ih =>
   intro f hf;have e1:=st f e
   have key:(∀y∈Yt f e (s,n),y=n)∧(x∈Yt f e (s,n)↔(x=n∧∃d g m,e=.born n s d g m)∨x∈f (s,n)):=by
    cases e with
    |born n' s' d fa mo =>
     rw [show Yt f (.born n' s' d fa mo) (s,n)=Yo f s' n' (s,n) from e1];unfold Yo;by_cases z:(s,n)=(s',n')
     ·cases z;rw [Qc rfl];refine ⟨fun y hy=>by simpa using hy,⟨fun h=>.inl ⟨by simpa using h,d,fa,mo,rfl⟩,fun h=>?_⟩⟩;rcases h with h|h
      ·rw [h.1];simp
      ·rw [hf x h];simp
     ·rw [Qa z];refine ⟨hf,⟨.inr,fun h=>h.elim (fun ⟨_,d',g,m,hh⟩=>by cases hh;exact absurd rfl z) id⟩⟩
    |taken=>exact ⟨by rw [e1];exact hf,by rw [e1];exact ⟨.inr,fun h=>h.elim (fun ⟨_,d',g,m,hh⟩=>by cases hh) id⟩⟩
    |union=>exact ⟨hf,⟨.inr,fun h=>h.elim (fun ⟨_,d',g,m,hh⟩=>by cases hh) id⟩⟩
    |parted=>exact ⟨hf,⟨.inr,fun h=>h.elim (fun ⟨_,d',g,m,hh⟩=>by cases hh) id⟩⟩
    |dead=>exact ⟨hf,⟨.inr,fun h=>h.elim (fun ⟨_,d',g,m,hh⟩=>by cases hh) id⟩⟩
    |given=>exact ⟨hf,⟨.inr,fun h=>h.elim (fun ⟨_,d',g,m,hh⟩=>by cases hh) id⟩⟩
   rw [RA,ih _ key.1,key.2];constructor
   ·rintro (⟨h1,d,g,m,h2⟩|⟨h1,d,g,m,rfl⟩|h)
    ·exact .inl ⟨h1,d,g,m,QE _ h2⟩
    ·exact .inl ⟨h1,d,g,m,QD ..⟩
    ·exact .inr h
   ·rintro (⟨h1,d,g,m,h2⟩|h)
    ·rcases Qh.mp h2 with h2|h2
     ·exact .inr (.inl ⟨h1,d,g,m,h2.symm⟩)
     ·exact .inl ⟨h1,d,g,m,h2⟩
    ·exact .inr (.inr h)
 have:=go es (fun _=>[]) (fun y hy=>by cases hy);rw [show Yn es (s,n)=es.foldl Yt (fun _=>[]) (s,n) from rfl,this];simp
theorem UY {ls:Xx} {f:ZI} {l n:Str} (h:¬l="S"):ls.foldl Xk f (l,n)=f (l,n):=by
 induction ls generalizing f with
 |nil=>rfl
 |cons q r ih =>
  rw [RA,ih];unfold Xk;split
  ·rw [Yx,Qa (fun z=>h z.1),Yx,Qa (fun z=>h z.1)]
  ·rfl
theorem ZeV {ls:Xx} {f:ZI} {n x:Str}:x∈ls.foldl Xk f ("S",n)↔x∈f ("S",n)∨∃q∈ls,q.2.2.2="union"∧(q.1=(n,x)∨q.1=(x,n)):=by
 induction ls generalizing f with
 |nil=>simp
 |cons q r ih =>
  rw [RA,ih]
  have st:x∈Xk f q ("S",n)↔x∈f ("S",n)∨(q.2.2.2="union"∧(q.1=(n,x)∨q.1=(x,n))):=by
   obtain ⟨⟨a,b⟩,ar,d,k⟩:=q;unfold Xk;by_cases hu:k="union"
   ·show x∈(if k="union" then Z0 (Z0 f ("S",a) b) ("S",b) a else f) ("S",n)↔x∈f ("S",n)∨(k="union"∧((a,b)=(n,x)∨(a,b)=(x,n)));rw [Qc hu,Yx];by_cases h1:n=b
    ·subst h1;rw [Qc ⟨rfl,rfl⟩,Yx];by_cases h2:n=a
     ·subst h2;rw [Qc ⟨rfl,rfl⟩];simp [hu];exact ⟨fun h=>h.imp id Eq.symm,fun h=>h.imp id Eq.symm⟩
     ·rw [Qa (fun z=>h2 z.2)];simp [hu];constructor
      ·rintro (h|h)
       ·exact .inl h
       ·exact .inr (.inr h.symm)
      ·rintro (h|⟨h,_⟩|h)
       ·exact .inl h
       ·exact absurd h.symm h2
       ·exact .inr h.symm
    ·rw [Qa (fun z=>h1 z.2),Yx];by_cases h2:n=a
     ·subst h2;rw [Qc ⟨rfl,rfl⟩];simp [hu];constructor
      ·rintro (h|h)
       ·exact .inl h
       ·exact .inr (.inl h.symm)
      ·rintro (h|h|⟨_,h⟩)
       ·exact .inl h
       ·exact .inr h.symm
       ·exact absurd h.symm h1
     ·rw [Qa (fun z=>h2 z.2)];simp only [hu,RI,Prod.mk.injEq];exact ⟨.inl,fun h=>h.elim id fun h=>h.elim (fun z=>absurd z.1.symm h2) fun z=>absurd z.2.symm h1⟩
   ·show x∈(if k="union" then _ else f) ("S",n)↔x∈f ("S",n)∨(k="union"∧_);rw [Qa hu];exact ⟨.inl,fun h=>h.elim id fun h=>absurd h.1 hu⟩
  rw [st];constructor
  ·rintro ((h|h)|⟨q',h1,h2⟩)
   ·exact .inl h
   ·exact .inr ⟨q,QD ..,h⟩
   ·exact .inr ⟨q',QE _ h1,h2⟩
  ·rintro (h|⟨q',h1,h2⟩)
   ·exact .inl (.inl h)
   ·rcases Qh.mp h1 with rfl|h1
    ·exact .inl (.inr h2)
    ·exact .inr ⟨q',h1,h2⟩
noncomputable def dk (e:Ent):Int×Str:=(e.day,e.kind)
theorem ZmB (es:List Ent) (a b:Str):YE es (Zg a b)=(es.foldl (WV a b) none).map dk:=by
 have go:∀(r:List Ent) (g:Str×Str->Option (Int×Str)) (o:Option Ent),g (Zg a b)=o.map dk->r.foldl Wh g (Zg a b)=(r.foldl (WV a b) o).map dk:=by
  intro r
  induction r with
  |nil=>intro g o h;exact h
  |cons e r ih =>
   intro g o h;rw [RA,RA];refine ih _ _ ?_;unfold Wh WV;by_cases c:e.tie=true∧Zg e.pr.1 e.pr.2=Zg a b
   ·rw [Qc ⟨c.1,c.2.symm⟩,Qc c,h];cases o with
    |none=>rfl
    |some l =>
     show (if (dk l).1<e.day then _ else _)=Option.map dk (if l.day<e.day then _ else _);show (if l.day<e.day then some (e.day,e.kind) else some (dk l))=_;split<;>rfl
   ·rw [Qa (fun z=>c ⟨z.1,z.2.symm⟩),Qa c];exact h
 exact go es _ none rfl
theorem Zh0 (es:List Ent):YE (es.map Ent.told)=YE es:=by
 have st:∀(g:Str×Str->Option (Int×Str)) (e:Ent),Wh g e.told=Wh g e:=fun g e=>by
  cases e with
  |union a b d =>
   funext c
   show (if true=true∧c=Zg (Zg a b).1 (Zg a b).2 then _ else g c)=(if true=true∧c=Zg a b then _ else g c);rw [Vl];rfl
  |parted a b d =>
   funext c
   show (if true=true∧c=Zg (Zg a b).1 (Zg a b).2 then _ else g c)=(if true=true∧c=Zg a b then _ else g c);rw [Vl];rfl
  |_=>rfl
 unfold YE;rw [List.foldl_map];exact Qu (fun z=>es.foldl z fun _=>none) (funext fun g=>funext fun e=>st g e)
theorem ZgT {es:List Ent}:∀{c:Str×Str} {r:Int×Str},YE es c=some r->∃e∈es,e.tie=true∧c=Zg e.pr.1 e.pr.2:=by
 have go:∀(l:List Ent) (g:Str×Str->Option (Int×Str)) (R:Str×Str->Prop),(∀c r,g c=some r->R c)->(∀e∈l,e.tie=true->R (Zg e.pr.1 e.pr.2))->∀c r,l.foldl Wh g c=some r->R c:=by
  intro l
  induction l with
  |nil=>intro g R h _ c r e;exact h c r e
  |cons e l ih =>
   intro g R h hl c r hr;refine ih _ R (fun c r hc=>?_) (fun e he=>hl e (QE _ he)) c r hr;unfold Wh at hc;split at hc
   ·rename_i z;rw [z.2];exact hl e (QD ..) z.1
   ·exact h c r hc
 intro c r h;exact go es _ (fun c=>∃e∈es,e.tie=true∧c=Zg e.pr.1 e.pr.2) (fun c r z=>(by cases z)) (fun e he t=>⟨e,he,t,rfl⟩) c r h
theorem Zot {e:Ent} (h:e.tie=true):∃(x y:Str) (d:Int) (W:Str),e.row.map kV=[.str W,.str x,.str y,.int d]∧(W="union"∨W="parted")∧e.pr=(x,y)∧e.kind=W∧e.day=d:=by
 cases e with
 |union x y d=>exact ⟨x,y,d,_,rfl,.inl rfl,rfl,rfl,rfl⟩
 |parted x y d=>exact ⟨x,y,d,_,rfl,.inr rfl,rfl,rfl,rfl⟩
 |_=>cases h
theorem Zmq {e:Ent} {f:ZI} (h:e.tie=true):Yt f e=f:=by
 cases e with
 |union x y d=>rfl
 |parted x y d=>rfl
 |_=>cases h
theorem ZdT {κ α:Type} [DecidableEq κ] {q:κ×α}:∀{l:List (κ×α)},(l.map (·.1)).Nodup->q∈l->ZB q.1 l=some q.2
 |[],_,h=>by cases h
 |p::l,nd,h=>by
  obtain ⟨n1,n2⟩:=QR.mp nd;unfold ZB;rcases Qh.mp h with rfl|h
  ·rw [Qc rfl]
  ·rw [Qa (fun z=>n1 (by show p.1∈_;rw [z];exact RB (f:=(·.1)) h))];exact ZdT n2 h
theorem ZeP {pool:List Str} {es:List Ent} (gd:GdL pool es):ZaH es:=fun n s d fa mo h=>Zek (gd.d5 _ h).1
theorem ZhP {ad:Ent->List Str} (h:∀e,ad e.told=ad e) (es:List Ent):(es.map Ent.told).flatMap ad=es.flatMap ad:=by
 rw [List.flatMap_map];exact Qu (fun z=>es.flatMap z) (funext h)
structure Jn (pool:List Str) (B:Bk) (es:List Ent) (ls:Xx) (F:ZI):Prop where
 li:LI5 pool B B.kept
 hk:B.kept.map (·.1)=es.map Ent.told
 gd:GdL pool es
 kn:(ls.map (·.1)).Nodup
 la:∀c,(ZB c ls).map (·.2)=YE es c
 lke:∀c,F c=ls.foldl Xk (Yn es) c
section
variable {pool:List Str} {B:Bk} {es:List Ent} {ls:Xx} {F:ZI}
theorem Jn.known (j:Jn pool B es ls F) {n s f m:Str} {d:Int} (h:Ent.born n s d f m∈es):Known B n∧Wa B n=s:=by
 have:=UG j.hk j.gd.bu (VA.mpr h);exact ⟨this.1,this.2.1⟩
theorem Jn.born (j:Jn pool B es ls F) {n:Str} (h:Known B n):∃d f m,Ent.born n (Wa B n) d f m∈es:=by
 unfold Known at h;obtain ⟨p,hp⟩:=Option.ne_none_iff_exists'.mp h;obtain ⟨hm,hb⟩:=Zai hp;obtain ⟨e,a⟩:=p;cases e with
 |born n' s d f m =>
  cases hb;have e1:Wa B n=s:=ZaE hp rfl;have:Ent.born n s d f m∈B.kept.map (·.1):=Qj.mpr ⟨_,hm,rfl⟩;rw [j.hk] at this;rw [e1];exact ⟨d,f,m,VA.mp this⟩
 |_=>cases hb
theorem Jn.inp (j:Jn pool B es ls F) {n:Str} (h:Known B n):n∈pool:=by
 obtain ⟨d,f,m,hb⟩:=j.born h;exact (j.gd.d5 _ hb).2.2 n rfl
theorem Jn.find (j:Jn pool B es ls F) {q:(Str×Str)×Addr×Int×Str} (h:q∈ls):YE es q.1=some q.2.2:=by
 rw [←j.la];have:ZB q.1 ls=some q.2:=ZdT j.kn h;rw [this];rfl
theorem Jn.mem_in (j:Jn pool B es ls F) {c:Str×Str} {x:Str} (h:x∈F c):Known B x:=by
 have ex:∃e∈es,x∈e.named∨e.bornName=some x:=by
  rw [j.lke] at h;obtain ⟨l,n⟩:=c;by_cases e:l="S"
  ·subst e;rcases ZeV.mp h with h|⟨q,hq,_,hx⟩
   ·exact Zex _ _ h
   ·obtain ⟨e,he,ht,hs⟩:=ZgT (j.find hq);refine ⟨e,he,.inl ?_⟩
    have Zq:x=e.pr.1∨x=e.pr.2:=by
     have:Zg e.pr.1 e.pr.2=(e.pr.1,e.pr.2)∨Zg e.pr.1 e.pr.2=(e.pr.2,e.pr.1):=by unfold Zg;split<;>simp
     rcases hx with hx|hx<;>rcases this with t|t<;>rw [←hs,hx] at t<;>have t1:=Qu (·.1) t<;>have t2:=Qu (·.2) t
     ·exact .inr t2
     ·exact .inl t2
     ·exact .inl t1
     ·exact .inr t1
    cases e with
    |union a b d=>rcases Zq with rfl|rfl<;>simp [Ent.named,Ent.pr]
    |parted a b d=>rcases Zq with rfl|rfl<;>simp [Ent.named,Ent.pr]
    |_=>cases ht
  ·rw [UY e] at h;exact Zex _ _ h
 obtain ⟨e,he,h1|h1⟩:=ex
 ·obtain ⟨s,d,f,m,hb⟩:=j.gd.known e he x h1;exact (j.known (VA.mp hb)).1
 ·cases e with
  |born n s d f m=>cases h1;exact (j.known he).1
  |_=>cases h1
theorem Jn.step (j:Jn pool B es ls F) {s n:Str} (hs:s∈ZV) (kn:Known B n) (x:Str):x∈Z1 B s n↔x∈F (s,n):=by
 have so:=ZeP j.gd;have ne:=fun {l:Str} (hl:l∈Xw)=>Zbw so hl;have lks:∀l,YA B l n=(YD (es.map Ent.told)).1 (l,n):=fun l=>by rw [VH,j.li.st.lks,j.hk]
 have six:∀{l:Str} {ad:Str->Ent->List Str},V4 l=false->¬l="S"->Adds l ad->(∀e,ad n e.told=ad n e)->(∀e∈es,∀f:ZI,Yt f e (l,n)=f (l,n)++ad n e)->(x∈Z1 B l n↔x∈F (l,n)):=fun {l ad} ht nS A tl st=>by
  unfold Z1;rw [Qa (by rw [ht];decide),lks,A.all,(Wq _).mem_iff,ZhP tl,j.lke,UY nS,ZaG st]
 have tst:s="he"∨s="she"->(x∈Z1 B s n↔x∈F (s,n)):=fun h=>by
  have ht:V4 s=true:=by rcases h with rfl|rfl<;>decide +kernel
  have nS:¬s="S":=by rcases h with rfl|rfl<;>decide +kernel
  unfold Z1;rw [Qc ht,j.lke,UY nS,Zd7 h];obtain ⟨d,f,m,hb⟩:=j.born kn;by_cases e:Wa B n=s
  ·rw [Qc e];rw [e] at hb;exact ⟨fun z=>⟨by simpa using z,d,f,m,hb⟩,fun z=>by rw [z.1];simp⟩
  ·rw [Qa e];exact ⟨fun z=>(by cases z),fun ⟨_,d',f',m',hb'⟩=>absurd (j.known hb').2 e⟩
 simp only [ZV,Qh,QX,QY] at hs;rcases hs with rfl|rfl|rfl|rfl|rfl|rfl|rfl|h|h
 ·exact six (by decide +kernel) (by decide +kernel) ZgE (fun e=>by cases e<;>rfl) fun e he f=>ZdS f e n (ne (by decide +kernel) e he)
 ·exact six (by decide +kernel) (by decide +kernel) Zec (fun e=>by cases e<;>rfl) fun e he f=>Zf6 f e n (ne (by decide +kernel) e he)
 ·exact six (by decide +kernel) (by decide +kernel) Zf8 (fun e=>by cases e<;>rfl) fun e he f=>ZgB f e n (ne (by decide +kernel) e he)
 ·exact six (by decide +kernel) (by decide +kernel) Zew (fun e=>by cases e<;>rfl) fun e he f=>Zd0 f e n (ne (by decide +kernel) e he)
 ·exact six (by decide +kernel) (by decide +kernel) Zeo (fun e=>by cases e<;>rfl) fun e he f=>Zhg f e n (ne (by decide +kernel) e he)
 ·exact six (by decide +kernel) (by decide +kernel) Ze6 (fun e=>by cases e<;>rfl) fun e he f=>Zgq f e n (ne (by decide +kernel) e he)
 ·have eS:Yn es ("S",n)=[]:=by
   rw [ZaG (ad:=fun _=>[]) fun e he f=>Zmt f e n (ne (by decide +kernel) e he)];simp
  have ap:=j.li.ap';have once:=j.li.once;rw [j.hk] at ap once;unfold Z1;rw [Qa (by decide +kernel),lks,(ZkD ap).mem,Zf2 once,←ZmJ once,j.lke,ZeV,eS]
  have td:Za4 (es.map Ent.told) n x=true↔∃d,YE es (Zg n x)=some (d,("union" : Str)):=by
   rw [←Zh0,ZmB];unfold Za4;cases (es.map Ent.told).foldl (WV n x) none with
   |none=>simp
   |some e =>
    show decide (e.kind="union")=true↔∃d,some (e.day,e.kind)=some (d,("union" : Str));rw [decide_eq_true_iff];exact ⟨fun h=>⟨e.day,by rw [h]⟩,fun ⟨d,h⟩=>Qu (·.2) (Ql h)⟩
  rw [td];constructor
  ·rintro ⟨d,h⟩;rw [←j.la] at h;cases hf:ZB (Zg n x) ls with
   |none=>rw [hf] at h;cases h
   |some w =>
    rw [hf] at h;have hm:=Va hf;have hw:w.2=(d,("union" : Str)):=Ql h;refine .inr ⟨_,hm,by rw [hw],?_⟩;show Zg n x=(n,x)∨Zg n x=(x,n);unfold Zg;split<;>simp
  ·rintro (h|⟨q,hq,hu,hx⟩)
   ·cases h
   ·have hl:=j.find hq;obtain ⟨e,he,ht,hs⟩:=ZgT hl
    have e1:Zg n x=q.1:=by
     rcases hx with hx|hx
     ·rw [show Zg n x=Zg q.1.1 q.1.2 by rw [hx],hs,Vl]
     ·rw [ZcS,show Zg x n=Zg q.1.1 q.1.2 by rw [hx],hs,Vl]
    rw [e1,hl];exact ⟨q.2.2.1,by rw [←hu]⟩
 ·exact tst (.inl h)
 ·exact tst (.inr h)
theorem Jn.clo (j:Jn pool B es ls F) (l:pool.length≤60):Clo B pool:=⟨fun s hs n kn x hx=>j.mem_in ((j.step hs kn x).mp hx),fun n h=>j.inp h,l⟩
theorem Jn.inPool {ed:Ed} (j:Jn pool B es ls (lk ed)) (kn:(ed.map (·.1)).Nodup):∀q∈ed,∀x∈q.2.2,x∈pool:=fun q hq x hx=>j.inp (j.mem_in (c:=q.1) (by show x∈lk ed q.1;rw [W6 kn hq];exact hx))
theorem Jn.same (j:Jn pool B es ls F) {way:List Str} {n:Str} (kn:Known B n) (h9:∀s∈way,s∈ZV) (x:Str):ZW (Z1 B) way (·=n) x↔ZW (fun s n=>F (s,n)) way (·=n) x :=
 ZcA (R:=Known B) (fun s hs y hy x=>j.step hs hy x) (fun s hs y hy x hx=>j.mem_in ((j.step hs hy x).mp hx)) h9 (fun x e=>by rw [e];exact kn) x
end
def ZaO (K:W.Frag) (tb:Addr):Sp:=fun vs H Q E=>∃(l:Addr) (ns:List Int),vs=[.ref l]∧SqL K H l (ns.map V.int)∧ns.length≤63∧YV tb H∧∀H',YV tb H'->Q (.bl true) H'
noncomputable def Zda (p:Ent×Addr):Option V:=p.1.bornName.map V.str
theorem ZfC:∀ks:List (Ent×Addr),(ks.map Zda).filterMap id=((ks.map (·.1)).filterMap Ent.bornName).map V.str
 |[]=>rfl
 |p::ks=>by
  have ih:=ZfC ks;rw [Qr,QL,Qr,QL];unfold Zda at ih ⊢;cases h:p.1.bornName with
  |none=>simp only [Option.map_none,id];exact ih
  |some n=>simp only [G7,id,Qr];rw [ih]
theorem ZdM {es:List Ent} {n:Str} (h:n∈es.filterMap Ent.bornName):∃s d f m,Ent.born n s d f m∈es:=by
 obtain ⟨e,he,hn⟩:=Rj.mp h;cases e with
 |born n' s d f m=>cases hn;exact ⟨s,d,f,m,he⟩
 |_=>cases hn
noncomputable def Xf (P:Str->Prop):List Str:=open Classical in if h:∃xs,SrtOf P xs then h.choose else []
theorem SrtOf.the {P:Str->Prop} {xs:List Str} (h:SrtOf P xs):Xf P=xs:=by
 unfold Xf;rw [dif_pos ⟨xs,h⟩];exact (Exists.choose_spec (⟨xs,h⟩:∃xs,SrtOf P xs)).eq h fun _=>Iff.rfl
noncomputable def Y1 (B:Bk) (ws:List (Addr×List Str)) (ps:List Str):List (List Str):=ps.flatMap fun n=>ws.map fun q=>Xf (ZW (Z1 B) q.2 (·=n))
theorem Zao (L:Str->Str->List Str):∀(w:List Str) (P:Str->Prop) (x:Str),ZW L w P x↔∃y,P y∧ZW L w (·=y) x
 |[],P,x=>⟨fun h=>⟨x,h,rfl⟩,fun ⟨y,h,e⟩=>by cases e;exact h⟩
 |s::w,P,x=>by
  show ZW L w _ x↔∃y,P y∧ZW L w _ x;rw [Zao L w];constructor
  ·rintro ⟨y,⟨z,hz,m⟩,r⟩;exact ⟨z,hz,(Zao L w _ x).mpr ⟨y,⟨z,rfl,m⟩,r⟩⟩
  ·rintro ⟨z,hz,r⟩;obtain ⟨y,⟨z',e,m⟩,r'⟩:=(Zao L w _ x).mp r;exact ⟨y,⟨z,hz,by rw [←e];exact m⟩,r'⟩
theorem LamH.updO {P D:Addr} {ln co:Nat} {q:Str} {H:Hp} {o u:HO} (h:LamH P ln co q H) (e:H D=some u) (nx:∀φ,u≠.ext φ):LamH P ln co q (Zb H D o):=by
 obtain ⟨oc,h1,h2⟩:=h;have ne:∀{c:Addr} {φ:Heap->Prop},H c=some (.ext φ)->c≠D:=fun {c φ} h z=>nx φ (by rw [z,e] at h;exact Ql h);exact ⟨oc,by rw [Ze (ne h1)];exact h1,fun c' z=>by rw [Ze (ne (h2 c' z))];exact h2 c' z⟩
theorem LamH.updL {P D:Addr} {ln co:Nat} {q:Str} {H:Hp} {o:HO} {xs:List V} (h:LamH P ln co q H) (e:H D=some (.lst xs)):LamH P ln co q (Zb H D o):=LamH.updO h e fun _ z=>by cases z
theorem SameX.updL {H H':Hp} {D:Addr} {o:HO} (s:SameX H H') (n:∀u,noX u=true->H D≠some u):SameX H (Zb H' D o):=fun b u x e=>by
 rw [Ze (fun z=>n u x (by rw [←z];exact e))];exact s b u x e
theorem SameX.non {H H':Hp} {D:Addr} (s:SameX H H') (n:H' D=none):∀u,noX u=true->H D≠some u:=fun u x e=>by
 have:=s _ _ x e;rw [n] at this;cases this
theorem Ze2 {B:Bk} {ed:Ed} {way:List Str} {a z:Str} {pool:List Str} (cl:Clo B pool) (agr:∀s∈ZV,∀n,Known B n->∀x,x∈Z1 B s n↔x∈lk ed (s,n)) (h9:∀s∈way,s∈ZV) (ka:Known B a):ZW (Z1 B) way (·=a) z↔ZW (fun s n=>lk ed (s,n)) way (·=a) z :=
 ZcA (R:=Known B) (fun s hs y hy x=>agr s hs y hy x) cl.led h9 (fun x e=>by rw [e];exact ka) z
theorem BkHas.monoX {K:W.Frag} {C:Addr} {H H':Hp} {v:V} {B:Bk} (h:BkHas K C H v B) (s:SameX H H'):BkHas K C H' v B:=by
 obtain ⟨b,dx,k,bi,li,ti,su,e,h⟩:=h;exact ⟨b,dx,k,bi,li,ti,su,e,h.monoX s⟩
theorem Zgi (L:Str->Str->List Str):∀(w w':List Str) (P:Str->Prop),ZW L (w++w') P=ZW L w' (ZW L w P)
 |[],_,_=>rfl
 |_::w,w',P=>Zgi L w w' _
theorem Zko (B:Bk) (ws:List (Addr×List Str)) (ps:List Str) (n:Str):Y1 B ws (ps++[n])=Y1 B ws ps++ws.map fun q=>Xf (ZW (Z1 B) q.2 (·=n)):=by
 unfold Y1;rw [List.flatMap_append,List.flatMap_singleton]
theorem ZgG {ws:List (Addr×List Str)} {i:Nat} {v:V} (h:(ws.map fun q=>V.ref q.1)[i]?=some v):∃q,ws[i]?=some q∧v=.ref q.1:=by
 rw [Qp,QH] at h;obtain ⟨q,h,e⟩:=h;exact ⟨q,h,e.symm⟩
theorem SrtOf.few {B:Bk} {pool way:List Str} {n:Str} {xs:List Str} (h:SrtOf (ZW (Z1 B) way (·=n)) xs) (clo:Clo B pool) (w9:∀s∈way,s∈ZV) (kn:Known B n):xs.length≤60 :=
 Qn (VR h.nd fun x hx=>clo.inp _ (W5 clo.led w9 (fun x e=>by rw [e];exact kn) x ((h.mem x).mp hx))) clo.few
def OkR (B:Bk) (n:Str) (w:List Str):Prop:=SrtOf (ZW (Z1 B) w (·=n)) (Xf (ZW (Z1 B) w (·=n)))
theorem ZmU {W:List Str} {n:Nat} {z:Str} (hl:W.length=n+1) (h:W[n]?=some z):Yi (W.map V.str) (-1)=some (.str z):=by
 cases W with
 |nil=>cases h
 |cons w0 W =>
  have l1:W.length=n:=by rw [QM] at hl;omega
  obtain ⟨y,ya,yb⟩:=Zer (x:=V.str w0) (xs:=W.map V.str);rw [Qd,l1,show V.str w0::W.map V.str=(w0::W).map V.str from rfl,Qp,h] at yb;rw [Qr,ya,←yb];rfl
theorem Zn8 {W:List Str} {n:Nat} {z:Str} (h:W[n]?=some z):Yi (W.map V.str) (n:Int)=some (.str z):=Xq (by rw [Qp,h];rfl)
theorem Zn3 (ds:List (Ent×Addr)) (k:Nat) (h:k≤ds.length):Xm (Z3 ds) (some (k:Int)) none=Z3 (ds.drop k):=by
 unfold Xm;rw [show HT.sIx (Z3 ds).length 0 (some (k:Int))=k by rw [HT.sIx_nat,Wf,NF h]];rw [show HT.sIx (Z3 ds).length (Z3 ds).length none=(Z3 ds).length from rfl,NG (by simp)];unfold Z3;rw [List.map_drop]
theorem Zna (xs:List Str):Xm (xs.map V.str) (some (-2)) none=(xs.drop (xs.length-2)).map V.str:=by
 unfold Xm;rw [show HT.sIx (xs.map V.str).length 0 (some (-2))=xs.length-2 by unfold HT.sIx;rw [Qd];simp;omega];rw [show HT.sIx (xs.map V.str).length (xs.map V.str).length none=(xs.map V.str).length from rfl,NG (by simp)];rw [List.map_drop]
noncomputable def ft (k bi li ti su:Addr) (B:Bk):List Addr:=[k,bi,li,ti,su]++B.ties.map (·.2.1)
noncomputable def Wj (H:Hp) (S:List Addr):Hp:=fun c=>if c∈S then none else H c
def Uo (H:Hp) (c:Addr):Prop:=(∃w,H c=some (.dT w))∨∃w,H c=some (.dK w)
theorem Zcv (H:Hp) (S:List Addr):Same (Wj H S) H:=fun c u e=>by
 unfold Wj at e;split at e
 ·cases e
 ·exact e
theorem J6 {H:Hp} {S:List Addr} {c:Addr} (n:c∉S):Wj H S c=H c:=Qa n
theorem ZaW {H:Hp} {S:List Addr} {c:Addr} (n:c∈S):Wj H S c=none:=Qc n
noncomputable def plain:HO->Bool
 |.dT _=>false
 |.dK _=>false
 |_=>true
theorem WZ {H:Hp} {S:List Addr} {c:Addr} {o:HO} (hS:∀c∈S,Uo H c) (e:H c=some o) (p:plain o=true):Wj H S c=some o:=by
 rw [J6]
 ·exact e
 intro m;rcases hS c m with ⟨w,z⟩|⟨w,z⟩<;>rw [z] at e<;>cases e<;>cases p
theorem Zfp {K:W.Frag} {H:Hp} {S:List Addr} {a:Addr} {xs:List V} (hS:∀c∈S,Uo H c) (q:SqT K H a xs):SqT K (Wj H S) a xs:=by
 rcases q with (q|⟨o,q⟩)|q
 ·exact .inl (.inl (WZ hS q rfl))
 ·exact .inl (.inr ⟨o,WZ hS q rfl⟩)
 ·exact .inr q
theorem LamH.rest {P:Addr} {ln co:Nat} {q:Str} {H:Hp} {S:List Addr} (h:LamH P ln co q H) (hS:∀c∈S,Uo H c):LamH P ln co q (Wj H S):=by
 obtain ⟨oc,h1,h2⟩:=h;exact ⟨oc,WZ hS h1 rfl,fun c' z=>WZ hS (h2 c' z) rfl⟩
section
variable {K:W.Frag} {C:Addr} {H H':Hp} {b dx k bi li ti su b2 dx2 k2 bi2 li2 ti2 su2 y:Addr} {B B2 B':Bk}
theorem BkAt.dicts (h:BkAt K C H b dx k bi li ti su B):∀c∈ft k bi li ti su B,Uo H c:=fun c m=>by
 unfold ft at m;rcases Qm.mp m with m|m
 ·simp only [Qh,QX,QY] at m;rcases m with rfl|rfl|rfl|rfl|rfl
  ·exact .inl ⟨_,h.ke⟩
  ·exact .inr ⟨_,h.bi⟩
  ·exact .inl ⟨_,h.li⟩
  ·exact .inl ⟨_,h.ti⟩
  ·exact .inl ⟨_,h.su⟩
 ·obtain ⟨q,hq,rfl⟩:=Qj.mp m;exact .inr ⟨_,h.tt q hq⟩
theorem BkAt.rest {S:List Addr} (h:BkAt K C H b dx k bi li ti su B) (hS:∀c∈S,Uo H c) (dj:∀c∈S,c∉ft k bi li ti su B):BkAt K C (Wj H S) b dx k bi li ti su B:=by
 have g:∀{c:Addr} {o:HO},H c=some o->c∈ft k bi li ti su B->Wj H S c=some o:=fun e m=>by rw [J6 fun z=>dj _ z m];exact e
 have m5:∀{c:Addr},c∈[k,bi,li,ti,su]->c∈ft k bi li ti su B:=fun m=>QQ _ m
 exact ⟨WZ hS h.ob rfl,h.ap,h.at',g h.ke (m5 (by simp)),g h.bi (m5 (by simp)),g h.li (m5 (by simp)),g h.ti (m5 (by simp)),g h.su (m5 (by simp)),fun p hp=>Zfp hS (h.en p hp),fun q hq=>WZ hS (h.ll q hq) rfl,
  fun q hq=>g (h.tt q hq) (Q4 _ (Qj.mpr ⟨q,hq,rfl⟩))⟩
theorem J1 {Hs:Hp} (bt:But [k,bi,li,ti,su,y] H H') (hy:H y=none∨y=bi∨y∈B.ties.map (·.2.1)) (gr:GrowsT H B.ties B'.ties) (sc:Same Hs H) (fs:∀c∈ft k bi li ti su B,Hs c=none):Same Hs H'∧∀c∈ft k bi li ti su B',Hs c=none:=by
 refine ⟨fun c u e=>bt.eq c u (fun m=>?_) (sc c u e),fun c m=>?_⟩
 ·have no:c∉ft k bi li ti su B:=fun z=>by rw [fs c z] at e;cases e
  have m5:c∈[k,bi,li,ti,su]++[y]:=m;rcases Qm.mp m5 with z|z
  ·exact no (QQ _ z)
  obtain rfl:=QO.mp z;rcases hy with z|z|z
  ·rw [sc c u e] at z;cases z
  ·exact no (QQ _ (by rw [z];simp))
  ·exact no (Q4 _ z)
 ·rcases Qm.mp m with z|z
  ·exact fs c (QQ _ z)
  ·rcases gr c z with z|z
   ·exact fs c (Q4 _ z)
   ·exact ZK sc z
theorem Zhj (h:BkAt K C H b dx k bi li ti su B) (h2:BkAt K C H b2 dx2 k2 bi2 li2 ti2 su2 B2) (dj:∀c∈ft k bi li ti su B,c∉ft k2 bi2 li2 ti2 su2 B2) (bt:But [k,bi,li,ti,su,y] H H') (hy:H y=none∨y=bi∨y∈B.ties.map (·.2.1)) (gr:GrowsT H B.ties B'.ties) :
  BkAt K C H' b2 dx2 k2 bi2 li2 ti2 su2 B2∧∀c∈ft k bi li ti su B',c∉ft k2 bi2 li2 ti2 su2 B2:=by
 have r:=h2.rest h.dicts dj;obtain ⟨s,f⟩:=J1 bt hy gr (Zcv H (ft k bi li ti su B)) fun c m=>ZaW m;exact ⟨r.mono s,fun c m m2=>by rcases r.dicts c m2 with ⟨w,z⟩|⟨w,z⟩<;>rw [f c m] at z<;>cases z⟩
end
theorem Zmn {es es2:List Ent} (so:ZaH (es++es2)) {s n x:Str} (hs:s∈ZV) (ns:s≠"S") (h:x∈Yn es (s,n)):x∈Yn (es++es2) (s,n):=by
 have so1:ZaH es:=fun n s d fa mo m=>so n s d fa mo (QQ _ m)
 have go:∀{l:Str} {ad:Ent->List Str},l∈Xw->(∀(f:ZI) (e:Ent),(∀n' s d fa mo,e=.born n' s d fa mo->s≠l)->Yt f e (l,n)=f (l,n)++ad e)->x∈Yn es (l,n)->x∈Yn (es++es2) (l,n):=fun hl st h=>by
  rw [ZaG fun e he f=>st f e (Zbw so1 hl e he)] at h;rw [ZaG fun e he f=>st f e (Zbw so hl e he),List.flatMap_append];exact QQ _ h
 have hs':s="F"∨s="M"∨s="T"∨s="f"∨s="m"∨s="t"∨s="S"∨s="he"∨s="she":=by simpa [ZV] using hs
 rcases hs' with rfl|rfl|rfl|rfl|rfl|rfl|rfl|e
 ·exact go (by decide +kernel) (fun f e=>ZdS f e n) h
 ·exact go (by decide +kernel) (fun f e=>Zf6 f e n) h
 ·exact go (by decide +kernel) (fun f e=>ZgB f e n) h
 ·exact go (by decide +kernel) (fun f e=>Zd0 f e n) h
 ·exact go (by decide +kernel) (fun f e=>Zhg f e n) h
 ·exact go (by decide +kernel) (fun f e=>Zgq f e n) h
 ·exact absurd rfl ns
 ·rw [Zd7 e] at h ⊢;obtain ⟨h1,d,f,m,h2⟩:=h;exact ⟨h1,d,f,m,QQ _ h2⟩
theorem Zgm {L L':Str->Str->List Str}:∀{w:List Str} {P P':Str->Prop},(∀s∈w,∀y x,x∈L s y->x∈L' s y)->(∀x,P x->P' x)->∀x,ZW L w P x->ZW L' w P' x
 |[],_,_,_,hP,x,h=>hP x h
 |s::w,P,P',h,hP,x,r=>Zgm (w:=w) (fun t ht=>h t (QE _ ht)) (fun x ⟨y,p,m⟩=>⟨y,hP y p,h s (QD ..) y x m⟩) x r
theorem Jn.more {pool:List Str} {B B1:Bk} {es es2:List Ent} {ls ls1:Xx} {F F1:ZI} (j:Jn pool B (es++es2) ls F) (j1:Jn pool B1 es ls1 F1) {w:List Str} {n:Str} (w9:∀s∈w,s∈ZV) (ns:∀s∈w,s≠"S") (k1:Known B1 n) (kn:Known B n) (x:Str) (h:ZW (Z1 B1) w (·=n) x):ZW (Z1 B) w (·=n) x:=by
 rw [j1.same k1 w9] at h;rw [j.same kn w9];refine Zgm (fun s hs y x m=>?_) (fun _ e=>e) x h;show x∈F (s,y);have m':x∈F1 (s,y):=m;rw [j1.lke,UY (ns s hs)] at m';rw [j.lke,UY (ns s hs)];exact Zmn (ZeP j.gd) (w9 s hs) (ns s hs) m'
theorem Zfi {C b dx k bi li ti su:Addr} {H H':Hp} (nb:H b=none) (ndx:H dx=none) (keep:∀c o,Zb (Zb H dx (.own b)) b (.ins C dx []) c=some o->c≠b->H' c=some o)
  (n1:Zb (Zb H dx (.own b)) b (.ins C dx []) k=none) (n2:Zb (Zb H dx (.own b)) b (.ins C dx []) bi=none) (n3:Zb (Zb H dx (.own b)) b (.ins C dx []) li=none) (n4:Zb (Zb H dx (.own b)) b (.ins C dx []) ti=none) (n5:Zb (Zb H dx (.own b)) b (.ins C dx []) su=none) :
  Same H H'∧∀c∈ft k bi li ti su Y8,H c=none:=by
 have sb:Same H (Zb (Zb H dx (.own b)) b (.ins C dx [])):=fun c o e=>by rw [Ze (ZU e nb),Ze (ZU e ndx)];exact e
 refine ⟨fun c o e=>keep c o (sb c o e) (ZU e nb),fun c m=>?_⟩
 have m':c=k∨c=bi∨c=li∨c=ti∨c=su:=by
  have e:ft k bi li ti su Y8=[k,bi,li,ti,su]:=rfl;rw [e] at m;simpa using m
 rcases m' with rfl|rfl|rfl|rfl|rfl
 ·exact ZK sb n1
 ·exact ZK sb n2
 ·exact ZK sb n3
 ·exact ZK sb n4
 ·exact ZK sb n5
noncomputable def UM (s:Str):Option V:=if s="S" then none else some (.str s)
noncomputable def X3 (w:List Str):List Str:=w.filter fun s=>decide (s≠"S")
theorem Zgp:∀w:List Str,(w.map UM).filterMap id=(X3 w).map V.str
 |[]=>rfl
 |s::w=>by
  have ih:=Zgp w;unfold X3 at ih ⊢;rw [Qr,QL,Ry];by_cases h:s="S"
  ·rw [show UM s=none from Qc h,Qa (by simp [h])];exact ih
  ·rw [show UM s=some (.str s) from Qa h,Qc (by simp [h])];show V.str s::_=_;rw [ih];rfl
theorem ZgX {w:List Str} {s:Str} (h:s∈X3 w):s∈w∧s≠"S":=by
 unfold X3 at h;simpa using h
theorem ZfZ {H:Hp}:∀{ys:List V} {zss:List (List Str)},ys.length=zss.length->(∀(i:Nat) (y:V),ys[i]?=some y->∃(a:Addr) (zs:List Str),y=.ref a∧zss[i]?=some zs∧H a=some (.lst (zs.map V.str))) →
  ∃rs:List (Addr×List Str),ys=rs.map (fun r=>V.ref r.1)∧rs.map (·.2)=zss∧∀r∈rs,H r.1=some (.lst (r.2.map V.str))
 |[],[],_,_=>⟨[],rfl,rfl,fun _ h=>by cases h⟩
 |[],_::_,l,_=>by cases l
 |_::_,[],l,_=>by cases l
 |y::ys,zs::zss,l,h=>by
  obtain ⟨rs,e1,e2,e3⟩:=ZfZ (ys:=ys) (zss:=zss) (by simpa using l) fun i y e=>h (i+1) y e;obtain ⟨a,z,rfl,ez,ha⟩:=h 0 y rfl;obtain rfl:zs=z:=by simpa using ez
  refine ⟨(a,zs)::rs,by rw [e1];rfl,by rw [←e2];rfl,fun r hr=>?_⟩;rcases Qh.mp hr with rfl|hr
  ·exact ha
  ·exact e3 r hr
theorem JQ {K:W.Frag} {H:Hp} {D:Addr} {rs:List (Addr×List Str)} (hD:H D=some (.lst (rs.map fun r=>.ref r.1))) (h:∀r∈rs,H r.1=some (.lst (r.2.map V.str))):VQ K H (.ref D) (rs.map (·.2)):=by
 refine ⟨D,rs.map (·.1),rfl,.of (by rw [QT];exact hD),by simp,fun i a zs ha hz=>?_⟩;rw [Qp,QH] at ha hz;obtain ⟨r,e,rfl⟩:=ha;obtain ⟨r',e',rfl⟩:=hz;rw [e] at e';cases e';exact .of (h r (QB e))
theorem Zjf {B B':Bk} {ws:List (Addr×List Str)} {ps:List Str} (h:∀n∈ps,∀q∈ws,∀x,ZW (Z1 B) q.2 (·=n) x↔ZW (Z1 B') q.2 (·=n) x):Y1 B ws ps=Y1 B' ws ps:=by
 unfold Y1;rw [List.flatMap_def,List.flatMap_def];refine Qu _ (Rz fun n hn=>Rz fun q hq=>?_);rw [show ZW (Z1 B) q.2 (·=n)=ZW (Z1 B') q.2 (·=n) from funext fun x=>propext (h n hn q hq x)]
theorem ZeG (B:Bk) (a b c:Addr×List Str):∀(ps:List Str) (i:Nat),(Y1 B [a,b,c] ps)[2+i*3]?=(ps[i]?).map fun n=>Xf (ZW (Z1 B) c.2 (·=n))
 |[],i=>by simp [Y1]
 |n::ps,0=>rfl
 |n::ps,i+1=>by
  show ([_,_,_]++Y1 B [a,b,c] ps)[2+(i+1)*3]?=_;rw [RQ (by show 3≤_;omega)];show (Y1 B [a,b,c] ps)[2+(i+1)*3-3]?=_;rw [show 2+(i+1)*3-3=2+i*3 by omega,ZeG B a b c ps i];rfl
theorem ZfS {B:Bk} {a b c:Addr×List Str} {ps:List Str} {rs:List (Addr×List Str)} (e:rs.map (·.2)=Y1 B [a,b,c] ps) {i:Nat} (h:2+i*3<rs.length):∃r n,rs[2+i*3]?=some r∧ps[i]?=some n∧r.2=Xf (ZW (Z1 B) c.2 (·=n)):=by
 have d:=ZeG B a b c ps i;rw [←e,Qp,Qt h] at d;obtain ⟨n,hn,en⟩:=QH.mp d.symm;exact ⟨_,n,Qt h,hn,en.symm⟩
section
variable {K:W.Frag} {w:World} {mg:Str->Option Value}
theorem ZhI:FnScope ["thing"] ["thing"] (Zz ZcH):=ZQ
def Znm (T:Tx K w mg):Sp:=fun vs H Q E=>vs.length=1∧(∃x t,vs=[x]∧Vw K H x t∧∀H',Same H H'->Q (.bl (Vk.isI t)) H')
theorem ZlH:FnScope ["thing"] ["thing"] (Zz Zc3):=ZQ
def Zfx (T:Tx K w mg):Sp:=fun vs H Q E=>vs.length=1∧(∃x t,vs=[x]∧Vw K H x t∧∀H',Same H H'->Q (.bl (WH t)) H')
theorem ZnF:FnScope ["thing"] ["thing"] (Zz ZcI):=ZQ
def Zfn (T:Tx K w mg):Sp:=fun vs H Q E=>vs.length=1∧(∃x t,vs=[x]∧Vw K H x t∧∀H',Same H H'->Q (.bl (ZbW t)) H')
theorem Zjn:FnScope ["thing"] ["thing"] (Zz ZcC):=ZQ
def ZgS (T:Tx K w mg):Sp:=fun vs H Q E=>vs.length=1∧(∃x t,vs=[x]∧Vw K H x t∧∀H',Same H H'->Q (.bl (ZcP t)) H')
theorem Zi2:FnScope ["thing"] ["thing"] (Zz Zdi):=ZQ
def Zhe (T:Tx K w mg):Sp:=fun vs H Q E=>vs.length=1∧(∃x t,vs=[x]∧Vw K H x t∧∀H',Same H H'->Q (.bl (Vn t)) H')
theorem ZkJ:FnScope ["thing"] ["thing"] (Zz Zcu):=ZQ
def Zfl (T:Tx K w mg):Sp:=fun vs H Q E=>vs.length=1∧(∃x t,vs=[x]∧Vw K H x t∧∀H',Same H H'->Q (.bl (Jb t)) H')
theorem Zj1:FnScope ["parts","checks"] ["parts","checks"] (Zz Zdu):=ZQ
def Zi7 (T:Tx K w mg):Sp:=fun vs H Q E=>vs.length=2∧(∃a b xs ts cs,vs=[.ref a,.ref b]∧SqT K H a xs∧Vws K H xs ts∧SqT K H b (cs.map fun c=>.ref (T.ad c))∧cs.length≤10∧∀H',Same H H'->Q (.bl (XA cs ts)) H')
theorem ZbQ:FnScope ["thing","word","checks"] ["thing"] (Zz Zbt):=ZQ
def Zhz (T:Tx K w mg):Sp:=fun vs H Q E=>vs.length=1∧(∃x,vs=[x]∧((∃t,Vw K H x t∧t.isT=false∧∀H',Same H H'->Q (.bl false) H')∨∃ts,Tv K H x ts∧ts.length≤10∧∀H',Same H H'->Q (.bl (Ve ts)) H'))
theorem ZjV:FnScope ["entry"] ["entry"] (Zz Zdp):=ZQ
def Zjl (T:Tx K w mg):Sp:=fun vs H Q E=>vs.length=1∧(∃v e,vs=[v]∧EntAt K H v e∧∀H',Same H H'->Q (.bl e.tie) H')
theorem ZlI:FnScope ["entry"] ["entry"] (Zz Zb0):=ZQ
def Zi5 (T:Tx K w mg):Sp:=fun vs H Q E=>vs.length=1∧(∃v e,vs=[v]∧EntAt K H v e∧∀H' D,Same H H'->H D=none->SqL K H' D (e.named.map V.str)->Q (.ref D) H')
theorem ZjJ:FnScope ["entry"] ["entry"] (Zz ZcY):=ZQ
def ZlP (T:Tx K w mg):Sp:=fun vs H Q E=>vs.length=1∧(∃v e,vs=[v]∧EntAt K H v e∧Q (.int e.day) H)
theorem ZfP:FnScope ["entry","names"] ["entry"] (Zz Zb4):=ZQ
def Zow (T:Tx K w mg):Sp:=fun vs H Q E=>vs.length=1∧(∃v e,vs=[v]∧EntAt K H v e∧∀H' u,Same H H'->EntAt K H' u e.told->Q u H')
theorem Znf:FnScope ["entry"] ["entry"] (Zz Zdf):=ZQ
def Zlr (T:Tx K w mg):Sp:=fun vs H Q E=>vs.length=1∧(∃v e,vs=[v]∧EntAt K H v e∧∀H' p,Same H H'->H p=none->H' p=some (.tup (e.told.key.map kV))->Q (.ref p) H')
theorem Zl6:FnScope ["thing"] ["thing"] (Zz Zce):=ZQ
def Zmf (T:Tx K w mg):Sp:=fun vs H Q E=>vs.length=1∧(∃x,vs=[x]∧((∃ty,Kd K H x ty∧W.kitOne K ty (.type "str")=some false∧Q (.bl false) H)∨∃l,x=.str l∧Q (.bl (Uj l)) H))
theorem Zop:FnScope ["one","other"] ["one","other"] (Zz Zdq):=ZQ
def Zng (T:Tx K w mg):Sp:=fun vs H Q E=>vs.length=2∧(∃a b,vs=[.str a,.str b]∧∀H' p,Same H H'->H p=none->H' p=some (.tup [.str (Zg a b).1,.str (Zg a b).2])->Q (.ref p) H')
theorem ZnZ:FnScope ["self"] ["self"] (Zz ZcN):=ZQ
def ZiN (T:Tx K w mg):Sp:=fun vs H Q E=>vs.length=1∧(∃b dx,vs=[.ref b]∧H b=some (.ins T.c_Book dx [])∧∀H' k bi li ti su,BkAt K T.c_Book H' b dx k bi li ti su Y8->(∀c o,H c=some o->c≠b->H' c=some o)->H k=none->H bi=none->H li=none->H ti=none->H su=none->Q .non H')
theorem Zjw:FnScope ["self","name"] ["self","name"] (Zz Zds):=ZQ
def ZhJ (T:Tx K w mg):Sp:=fun vs H Q E=>vs.length=2∧(∃v x B,vs=[v,x]∧BkHas K T.c_Book H v B∧((∃ty,Kd K H x ty∧W.kitOne K ty (.type "str")=some false∧E (.ref T.c_NoPerson) none H)∨∃n,x=.str n∧(Z6 n B.kept=none->E (.ref T.c_NoPerson) none H)∧∀p,Z6 n B.kept=some p->Q (.ref p.2) H))
theorem ZhN:FnScope ["self","name"] ["self","name"] (Zz ZbY):=ZQ
def Zni (T:Tx K w mg):Sp:=fun vs H Q E=>vs.length=2∧(∃v x B,vs=[v,x]∧BkHas K T.c_Book H v B∧((∃ty,Kd K H x ty∧W.kitOne K ty (.type "str")=some false∧E (.ref T.c_NoPerson) none H)∨∃n,x=.str n∧(Z6 n B.kept=none->E (.ref T.c_NoPerson) none H)∧∀p,Z6 n B.kept=some p->∀n' s d f m,p.1=.born n' s d f m->Q (.str s) H))
theorem Zii:FnScope ["self","name"] ["self","name"] (Zz Zdt):=ZQ
def Zmb (T:Tx K w mg):Sp:=fun vs H Q E=>vs.length=2∧(∃v x B,vs=[v,x]∧BkHas K T.c_Book H v B∧((∃ty,Kd K H x ty∧W.kitOne K ty (.type "str")=some false∧E (.ref T.c_NoPerson) none H)∨∃n,x=.str n∧(Z6 n B.kept=none->E (.ref T.c_NoPerson) none H)∧∀p,Z6 n B.kept=some p->∀n' s d f m,p.1=.born n' s d f m->Q (.int d) H))
theorem Znq:FnScope ["self","name","sort","day"] ["self","name","sort","day"] (Zz Zby):=ZQ
def ZlX (T:Tx K w mg):Sp:=fun vs H Q E=>vs.length=4∧(∃v n s d B,vs=[v,.str n,.str s,.int d]∧BkHas K T.c_Book H v B∧(n≠""->Known B n)∧Q (.bl (XD B n s d)) H)
theorem ZdY:FnScope ["self","entry","names"] ["self","entry"] (Zz Zc1):=ZQ
def ZjD (T:Tx K w mg):Sp:=fun vs H Q E=>vs.length=2∧(∃v x B e,vs=[v,x]∧BkHas K T.c_Book H v B∧EntAt K H x e∧(∀n∈e.named,Known B n)∧∀H',Same H H'->Q (.bl (Wd B e)) H')
theorem ZeQ:FnScope ["self","entry","name"] ["self","entry"] (Zz Zc8):=ZQ
def Zk9 (T:Tx K w mg):Sp:=fun vs H Q E=>vs.length=2∧(∃v x B e,vs=[v,x]∧BkHas K T.c_Book H v B∧EntAt K H x e∧e.Ok∧XW B e=none∧∀H',Same H H'->Q .non H')
theorem ZlN:FnScope ["self","letter","begin","end"] ["self","letter","begin","end"] (Zz Zdr):=ZQ
def Zje (T:Tx K w mg):Sp:=fun vs H Q E=>vs.length=4∧(∃b dx k bi li ti su B l n m,vs=[.ref b,.str l,.str n,.str m]∧BkAt K T.c_Book H b dx k bi li ti su B∧(YA B l n).length≤61∧B.links.length≤900∧∀H' D,BkAt K T.c_Book H' b dx k bi li ti su { B with links:=Zn B.links (l,n) (D,ZD (YA B l n++[m])) }->But [li] H H'->H D=none->Q .non H')
theorem ZmE:FnScope ["self","entry"] ["self","entry"] (Zz ZdD):=ZQ
def Zmj (T:Tx K w mg):Sp:=fun vs H Q E=>vs.length=2∧(∃b dx k bi li ti su B0 B n s d f m a,vs=[.ref b,.ref a]∧B.kept=B0++[(.born n s d f m,a)]∧H b=some (.ins T.c_Book dx (WY k bi li ti su))∧H bi=some (.dK (Bk.bornD B0))∧Z6 n B0=none∧B0.length≤900∧SqT K H a ((Ent.born n s d f m).row.map kV)∧BkAt K T.c_Book (Zb H bi (.dK (Bk.bornD B.kept))) b dx k bi li ti su B∧B.links.length≤890∧(∀c,(lk B.links c).length≤61)∧∀H' ls,BkAt K T.c_Book H' b dx k bi li ti su { B with links:=ls }->(∀c,lk ls c=Xj (lk B.links) n f m c)->ls.length≤B.links.length+4->But [bi,li] H H'->Grows H B.links ls->Q .non H')
theorem Zmi:FnScope ["self","letter","name"] ["self","letter","name"] (Zz Zc0):=ZQ
def Zkg (T:Tx K w mg):Sp:=fun vs H Q E=>vs.length=3∧(∃v x y B,vs=[v,x,y]∧BkHas K T.c_Book H v B∧((∃ty,Kd K H x ty∧W.kitOne K ty (.type "str")=some false∧E (.ref T.c_NoWay) none H)∨∃l,x=.str l∧(Uj l=false->E (.ref T.c_NoWay) none H)∧(Uj l=true->((∃ty,Kd K H y ty∧W.kitOne K ty (.type "str")=some false∧E (.ref T.c_NoPerson) none H)∨∃n,y=.str n∧(Z6 n B.kept=none->E (.ref T.c_NoPerson) none H)∧(Known B n->∀H' D,Same H H'->H D=none->H' D=some (.lst ((YA B l n).map V.str))->Q (.ref D) H')))))
theorem ZcW:FnScope ["self","one","other","day","ties","days"] ["self","one","other","day"] (Zz Wx):=ZQ
def Zhv (T:Tx K w mg):Sp:=fun vs H Q E=>vs.length=4∧(∃v a c B,vs=[v,.str a,.str c,.non]∧BkHas K T.c_Book H v B∧Known B a∧Known B c∧(Yz B (Zg a c)).length≤900∧∀H',Same H H'->Q (.bl (Za7 B a c)) H')
theorem ZaU:FnScope ["self","entry","days","begin","end"] ["self","entry"] (Zz Zcd):=ZQ
def ZiZ (T:Tx K w mg):Sp:=fun vs H Q E=>vs.length=2∧(∃b dx k bi li ti su B a kd p1 p2 d,vs=[.ref b,.ref a]∧SqT K H a [.str kd,.str p1,.str p2,.int d]∧BkAt K T.c_Book H b dx k bi li ti su B∧Known B p1∧Known B p2∧(B.ties.map (·.1)).Nodup∧B.ties.length≤800∧(Yz B (Zg p1 p2)).length≤800∧B.links.length≤880∧(∀c,(lk B.links c).length≤60)∧∀H' ls ts y,BkAt K T.c_Book H' b dx k bi li ti su { B with links:=ls,ties:=ts }->(ts.map (·.1)).Nodup->ts.length≤B.ties.length+1->(∀c,YR ts c=if c=Zg p1 p2 then Zn (Yz B (Zg p1 p2)) d kd else Yz B c)->(∀c,lk ls c=ZJ (ZJ (lk B.links) (YK (Zn (Yz B (Zg p1 p2)) d kd)) p1 p2) (YK (Zn (Yz B (Zg p1 p2)) d kd)) p2 p1 c)->ls.length≤B.links.length+4->But [li,ti,y] H H'->(H y=none∨y∈B.ties.map (·.2.1))->GrowsT H B.ties ts->Grows H B.links ls->Q .non H')
theorem Zc5:FnScope ["self","entry","told","given"] ["self","entry"] (Zz Zdl):=ZQ
def Zjb (T:Tx K w mg):Sp:=fun vs H Q E=>vs.length=2∧(∃b dx k bi li ti su B x e,vs=[.ref b,x]∧BkAt K T.c_Book H b dx k bi li ti su B∧EntAt K H x e∧e.Ok∧XW B e=none∧Room1 B∧∀H' B' y,BkAt K T.c_Book H' b dx k bi li ti su B'->Put B e B'->But [k,bi,li,ti,su,y] H H'->(H y=none∨y=bi∨y∈B.ties.map (·.2.1))->Grows H B.links B'.links->GrowsT H B.ties B'.ties->Q .non H')
theorem Znx:FnScope ["thing"] ["thing"] (Zz ZbE):=ZQ
def Zk8 (T:Tx K w mg):Sp:=fun vs H Q E=>vs.length=1∧(∃x,vs=[.str x]∧Q (.bl (V4 x)) H)
theorem ZhB:FnScope ["book","step","name"] ["book","step","name"] (Zz Zb3):=ZQ
def Zkh (T:Tx K w mg):Sp:=fun vs H Q E=>vs.length=3∧(∃v s n B,vs=[v,.str s,.str n]∧BkHas K T.c_Book H v B∧s∈ZV∧Known B n∧∀H' D',Same H H'->H D'=none->H' D'=some (.lst ((Z1 B s n).map V.str))->Q (.ref D') H')
theorem V5:FnScope ["one","steps","lead","layers","step","came","name","reached"] ["one","steps","lead"] (Zz Zb9):=ZQ
def Zoh (T:Tx K w mg):Sp:=fun vs H Q E=>vs.length=3∧(∃one p f b way B pool,vs=[.str one,.ref p,.ref f]∧ZnD f b H∧SqT K H p (way.map V.str)∧(∀s∈way,s∈ZV)∧BkHas K T.c_Book H (.ref b) B∧Clo B pool∧Known B one∧way.length≤100∧∀H' D' (ds:List V) (d:Addr) (ks:List (Str×V)),Same H H'->H D'=none->H' D'=some (.lst (ds++[.ref d]))->H' d=some (.dK (ks.map fun p=>(.inr p.1,p.2)))->(ks.map (·.1)).Nodup->(∀x,x∈ks.map (·.1)↔ZW (Z1 B) way (·=one) x)->Q (.ref D') H')
theorem ZlQ:FnScope ["book","way","name"] ["book","way","name"] (Zz V6):=ZQ
def Zn0 (T:Tx K w mg):Sp:=fun vs H Q E=>vs.length=3∧(∃v p x way B,vs=[v,.ref p,x]∧BkHas K T.c_Book H v B∧YV T.tb H∧SqT K H p (way.map V.str)∧((Zmv K H B x∧E (.ref T.c_NoPerson) none H)∨∃n pool,x=.str n∧Known B n∧Clo B pool∧(∀s∈way,s∈ZV)∧way.length≤100∧∀H' D' xs,SameX H H'->YV T.tb H'->H D'=none->H' D'=some (.lst (xs.map V.str))->SrtOf (ZW (Z1 B) way (·=n)) xs->Q (.ref D') H'))
theorem Zkk:FnScope ["_law_script","_law_k"] ["_law_script","_law_k"] (Zz ZbO):=ZQ
def ZkI (T:Tx K w mg):Sp:=fun vs H Q E=>vs.length=2∧(∃(l:Addr) (ns:List Int) (k:Int),vs=[.ref l,.int k]∧SqL K H l (ns.map V.int)∧0≤k∧∀z,Q (.int z) H)
theorem WD:FnScope ["_law_cell","_law_letters","_law_size","_law_at","_law_base","_law_names_here","_law_k","_law_name","_law_j"] ["_law_cell"] (Zz ZbD):=ZQ
def ZlJ (T:Tx K w mg):Sp:=fun vs H Q E=>vs.length=1∧(∃c:Int,vs=[.int c]∧∀H' D' (ns:List Str),Same H H'->H D'=none->H' D'=some (.lst (ns.map V.str))->N14 ns->Q (.ref D') H')
theorem Zh6:FnScope ["_law_cell","_law_k","_law_way_here"] ["_law_cell","_law_k","_law_way_here"] (Zz Zcr):=ZQ
def Zir (T:Tx K w mg):Sp:=fun vs H Q E=>vs.length=3∧(∃c k w:Int,vs=[.int c,.int k,.int w]∧0≤k∧k≤42∧∀d:Int,-10 ^ 18≤d->d≤10 ^ 18->Q (.int d) H)
theorem WL:FnScope ["_law_people","_law_names_here","_law_cell","_law_day_here","_law_number","_law_older","_law_fathers","_law_mothers","_law_father","_law_mother"] ["_law_people","_law_names_here","_law_cell","_law_day_here"] (Zz Zb1):=ZQ
def Znd (T:Tx K w mg):Sp:=fun vs H Q E=>vs.length=4∧(∃(D ln:Addr) (c d:Int) (ps:List Pp) (ns:List Str),vs=[.ref D,.ref ln,.int c,.int d]∧PpAt K H D ps∧SqL K H ln (ns.map V.str)∧ns.length=24∧ps.length<24∧∀H' a n s f m,Same H H'->H a=none->SqT K H' a ((Ent.born n s d f m).row.map kV)->ns[ps.length]?=some n->(s="he"∨s="she"∨s="")->X1 ps "he" d f->X1 ps "she" d m->Q (.ref a) H')
theorem Y3:FnScope ["_law_people","_law_known","_law_cell","_law_kind","_law_order","_law_one","_law_other","_law_day_here","_law_ties","_law_tie","_law_key","_law_entry"] ["_law_people","_law_known","_law_cell","_law_kind"] (Zz Zdw):=ZQ
def ZjS (T:Tx K w mg):Sp:=fun vs H Q E=>vs.length=4∧(∃(D Dk:Addr) (c kd:Int) (ps:List Pp) (kn:List (List Zi)),vs=[.ref D,.ref Dk,.int c,.int kd]∧PpAt K H D ps∧H Dk=some (.dT (XR kn))∧2≤ps.length∧ps.length≤24∧kn.length≤100∧KnOk ps kn∧(∀p∈ps,-10 ^ 18≤p.2.2.2∧p.2.2.2≤10 ^ 18)∧(∀H',Same H H'->Q .non H')∧∀H' a e,(∀b u,b≠Dk->H b=some u->H' b=some u)->H a=none->SqT K H' a (e.row.map kV)->H' Dk=some (.dT (XR (kn++[e.told.key])))->e.told.key∉kn->DeedF ps e->Q (.ref a) H')
theorem WA:FnScope ["_law_script","_law_most","_law_names_here","_law_people","_law_known","_law_entries_here","_law_k","_law_cell","_law_kind","_law_entry"] ["_law_script","_law_most"] (Zz ZcX):=ZQ
def ZnJ (T:Tx K w mg):Sp:=fun vs H Q E=>vs.length=2∧(∃(l:Addr) (ss:List Int),vs=[.ref l,.int 30]∧SqL K H l (ss.map V.int)∧ss.length≤63∧∀H' D' ks ns,Same H H'->H D'=none->H' D'=some (.lst (Z3 ks))->W2 K H' ks->N14 ns->GdL ns (ks.map (·.1))->ks.length≤30->Q (.ref D') H')
theorem Zlh:FnScope ["_law_edges_here","_law_letter","_law_low","_law_high"] ["_law_edges_here","_law_letter","_law_low","_law_high"] (Zz ZdO):=ZQ
def Zhw (T:Tx K w mg):Sp:=fun vs H Q E=>vs.length=4∧(∃(D:Addr) (L lo hi:Str) (ed:Ed) (n:Nat),vs=[.ref D,.str L,.str lo,.str hi]∧EdAt H D ed∧EdB ed n∧n≤500∧(L="F"∨L="M"∨L="T")∧∀H' ed',EdAt H' D ed'->EdB ed' (n+2)->(∀c,lk ed' c=Z0 (Z0 (lk ed) (L,lo) hi) (Zbl L,hi) lo c)->FrE D ed H H' ed'->Q .non H')
theorem WS:FnScope ["_law_entries_here","_law_edges_here","_law_last","_law_entry","_law_letter","_law_parent","_law_pair","_law_row"] ["_law_entries_here"] (Zz ZbI):=ZQ
def Zmd (T:Tx K w mg):Sp:=fun vs H Q E=>vs.length=1∧(∃(Le:Addr) (ks:List (Ent×Addr)) (ns:List Str),vs=[.ref Le]∧SqL K H Le (Z3 ks)∧W2 K H ks∧GdL ns (ks.map (·.1))∧ks.length≤40∧∀H' D ed ls,Same H H'->H D=none->EdAt H' D ed->EdB ed 500->(ls.map (·.1)).Nodup->(∀c,(ZB c ls).map (·.2)=YE (ks.map (·.1)) c)->(∀c,lk ed c=ls.foldl Xk (Yn (ks.map (·.1))) c)->Q (.ref D) H')
theorem JB:FnScope ["_law_cell","_law_k","_law_number","_law_j"] ["_law_cell","_law_k"] (Zz ZbA):=ZQ
def ZkC (T:Tx K w mg):Sp:=fun vs H Q E=>vs.length=2∧(∃c k:Int,vs=[.int c,.int k]∧0≤k∧k≤1000∧∀z:Int,0≤z->Q (.int z) H)
theorem WW:FnScope ["_law_script","_law_many","_law_turn","_law_edges_here","_law_name","_law_some","_law_way_here","_law_j","_law_number","_law_there","_law_step"] ["_law_script","_law_many","_law_turn","_law_edges_here","_law_name"] (Zz Zcb):=ZQ
def ZiE (T:Tx K w mg):Sp:=fun vs H Q E=>vs.length=5∧(∃(l:Addr) (ss:List Int) (many turn:Int) (D:Addr) (nm:Str) (ed:Ed),vs=[.ref l,.int many,.int turn,.ref D,.str nm]∧SqL K H l (ss.map V.int)∧0≤many∧many≤12∧0≤turn∧turn≤2∧EdAt H D ed∧EdB ed 500∧∀H' p (way:List Str),Same H H'->H p=none->SqT K H' p (way.map V.str)->(∀s∈way,s∈ZV)->way.length≤12->Q (.ref p) H')
theorem VX:FnScope ["_law_edges_here","_law_way_here","_law_name","_law_names_here","_law_step","_law_found","_law_one","_law_other"] ["_law_edges_here","_law_way_here","_law_name"] (Zz ZdL):=ZQ
def ZiX (T:Tx K w mg):Sp:=fun vs H Q E=>vs.length=3∧(∃(D p:Addr) (nm:Str) (way:List Str) (ed:Ed) (pool:List Str),vs=[.ref D,.ref p,.str nm]∧EdAt H D ed∧SqT K H p (way.map V.str)∧way.length≤100∧nm∈pool∧(∀q∈ed,∀x∈q.2.2,x∈pool)∧pool.length≤60∧∀H' D' xs,Same H H'->H D'=none->H' D'=some (.lst (xs.map V.str))->SrtOf (ZW (fun s n=>lk ed (s,n)) way (·=nm)) xs->Q (.ref D') H')
theorem Zfj:FnScope ["_law_found","_law_due","_law_k"] ["_law_found","_law_due"] (Zz Zct):=ZQ
def ZkZ (T:Tx K w mg):Sp:=fun vs H Q E=>vs.length=2∧(∃(l m:Addr) (xs:List Str),vs=[.ref l,.ref m]∧SqL K H l (xs.map V.str)∧SqL K H m (xs.map V.str)∧xs.length≤100∧Q (.bl true) H)
theorem JL:FnScope ["_law_book","_law_edges_here","_law_ways","_law_people","_law_found","_law_name","_law_way_here","_law_row"] ["_law_book","_law_edges_here","_law_ways","_law_people"] (Zz ZbX):=ZQ
def Zik (T:Tx K w mg):Sp:=fun vs H Q E=>vs.length=4∧(∃(v:V) (D lw lp:Addr) (B:Bk) (ed:Ed) (pool:List Str) (ws:List (Addr×List Str)) (ps:List Str),vs=[v,.ref D,.ref lw,.ref lp]∧BkHas K T.c_Book H v B∧YV T.tb H∧EdAt H D ed∧SqL K H lw (ws.map fun q=>.ref q.1)∧(∀q∈ws,SqT K H q.1 (q.2.map V.str)∧(∀s∈q.2,s∈ZV)∧q.2.length≤24)∧SqL K H lp (ps.map V.str)∧(∀n∈ps,Known B n)∧Clo B pool∧(∀s∈ZV,∀n,Known B n->∀x,x∈Z1 B s n↔x∈lk ed (s,n))∧(∀q∈ed,∀x∈q.2.2,x∈pool)∧ws.length=3∧ps.length≤2∧∀H' D' (rs:List (Addr×List Str)),SameX H H'->YV T.tb H'->H' D'=some (.lst (rs.map fun r=>.ref r.1))->(∀r∈rs,H' r.1=some (.lst (r.2.map V.str)))->rs.map (·.2)=Y1 B ws ps->(∀m∈ps,∀q∈ws,OkR B m q.2)->Q (.ref D') H')
theorem Ze0:FnScope ["_law_book","_law_edges_here","_law_name","_law_step"] ["_law_book","_law_edges_here","_law_name"] (Zz ZbV):=ZQ
def ZjI (T:Tx K w mg):Sp:=fun vs H Q E=>vs.length=3∧(∃(v:V) (D:Addr) (nm:Str) (B:Bk) (ed:Ed) (pool:List Str),vs=[v,.ref D,.str nm]∧BkHas K T.c_Book H v B∧YV T.tb H∧EdAt H D ed∧Known B nm∧Clo B pool∧(∀s∈ZV,∀n,Known B n->∀x,x∈Z1 B s n↔x∈lk ed (s,n))∧(∀q∈ed,∀x∈q.2.2,x∈pool)∧∀H',SameX H H'->YV T.tb H'->Q (.bl true) H')
theorem ZaR:FnScope ["_law_book","_law_one","_law_other","_law_name","_law_due","_law_amid","_law_end"] ["_law_book","_law_one","_law_other","_law_name"] (Zz ZdE):=ZQ
def Zim (T:Tx K w mg):Sp:=fun vs H Q E=>vs.length=4∧(∃(v:V) (p1 p2:Addr) (nm:Str) (B:Bk) (pool w1 w2:List Str),vs=[v,.ref p1,.ref p2,.str nm]∧BkHas K T.c_Book H v B∧YV T.tb H∧SqT K H p1 (w1.map V.str)∧SqT K H p2 (w2.map V.str)∧(∀s∈w1,s∈ZV)∧(∀s∈w2,s∈ZV)∧w1.length≤12∧w2.length≤12∧Known B nm∧Clo B pool∧∀H',SameX H H'->YV T.tb H'->Q (.bl true) H')
theorem YS:FnScope ["_law_script","_law_entries_here","_law_edges_here","_law_cell","_law_at","_law_book","_law_beside","_law_entry","_law_people","_law_many","_law_one","_law_other","_law_ways","_law_first","_law_kept","_law_then","_law_k","_law_name"] ["_law_script"] (Zz ZcQ):=ZQ
def Zg6 (T:Tx K w mg):Sp:=fun vs H Q E=>vs.length=1∧(∃(l:Addr) (ss:List Int),vs=[.ref l]∧SqL K H l (ss.map V.int)∧ss.length≤63∧YV T.tb H∧∀H',YV T.tb H'->Q (.bl true) H')
abbrev Zc6 (P:Program) (base:Heap) (T:Tx K w mg):Prop:=FnOk P w K mg base (ZE P w) 1 T.Zba.a (ZG K T.Zba.a) ["thing"] (Znm T)
abbrev ZdK (P:Program) (base:Heap) (T:Tx K w mg):Prop:=FnOk P w K mg base (ZE P w) 1 T.YU.a (ZG K T.YU.a) ["thing"] (Zfx T)
abbrev ZfU (P:Program) (base:Heap) (T:Tx K w mg):Prop:=FnOk P w K mg base (ZE P w) 2 T.Xc.a (ZG K T.Xc.a) ["thing"] (Zfn T)
abbrev ZgW (P:Program) (base:Heap) (T:Tx K w mg):Prop:=FnOk P w K mg base (ZE P w) 2 T.Wk.a (ZG K T.Wk.a) ["thing"] (ZgS T)
abbrev ZgM (P:Program) (base:Heap) (T:Tx K w mg):Prop:=FnOk P w K mg base (ZE P w) 1 T.Wy.a (ZG K T.Wy.a) ["thing"] (Zhe T)
abbrev ZfT (P:Program) (base:Heap) (T:Tx K w mg):Prop:=FnOk P w K mg base (ZE P w) 2 T.Wb.a (ZG K T.Wb.a) ["thing"] (Zfl T)
abbrev ZfG (P:Program) (base:Heap) (T:Tx K w mg):Prop:=FnOk P w K mg base (ZE P w) 3 T.Zbd.a (ZG K T.Zbd.a) ["parts","checks"] (Zi7 T)
abbrev Zhc (P:Program) (base:Heap) (T:Tx K w mg):Prop:=FnOk P w K mg base (ZE P w) 4 T.Zae.a (ZG K T.Zae.a) ["thing"] (Zhz T)
abbrev Zdk (P:Program) (base:Heap) (T:Tx K w mg):Prop:=FnOk P w K mg base (ZE P w) 1 T.Zax.a (ZG K T.Zax.a) ["entry"] (Zjl T)
abbrev Zb2 (P:Program) (base:Heap) (T:Tx K w mg):Prop:=FnOk P w K mg base (ZE P w) 1 T.Zat.a (ZG K T.Zat.a) ["entry"] (Zi5 T)
abbrev Zfk (P:Program) (base:Heap) (T:Tx K w mg):Prop:=FnOk P w K mg base (ZE P w) 1 T.Zaj.a (ZG K T.Zaj.a) ["entry"] (ZlP T)
abbrev ZdC (P:Program) (base:Heap) (T:Tx K w mg):Prop:=FnOk P w K mg base (ZE P w) 2 T.ZaS.a (ZG K T.ZaS.a) ["entry"] (Zow T)
abbrev ZdB (P:Program) (base:Heap) (T:Tx K w mg):Prop:=FnOk P w K mg base (ZE P w) 3 T.Zar.a (ZG K T.Zar.a) ["entry"] (Zlr T)
abbrev Zgv (P:Program) (base:Heap) (T:Tx K w mg):Prop:=FnOk P w K mg base (ZE P w) 1 T.Zac.a (ZG K T.Zac.a) ["thing"] (Zmf T)
abbrev Zb5 (P:Program) (base:Heap) (T:Tx K w mg):Prop:=FnOk P w K mg base (ZE P w) 1 T.ZaT.a (ZG K T.ZaT.a) ["one","other"] (Zng T)
abbrev ZfQ (P:Program) (base:Heap) (T:Tx K w mg):Prop:=FnOk P w K mg base (ZE P w) 1 T.Vp.a (ZG K T.Vp.a) ["self"] (ZiN T)
abbrev UB (P:Program) (base:Heap) (T:Tx K w mg):Prop:=FnOk P w K mg base (ZE P w) 1 T.Y7.a (ZG K T.Y7.a) ["self","name"] (ZhJ T)
abbrev Zcj (P:Program) (base:Heap) (T:Tx K w mg):Prop:=FnOk P w K mg base (ZE P w) 2 T.W0.a (ZG K T.W0.a) ["self","name"] (Zni T)
abbrev ZaX (P:Program) (base:Heap) (T:Tx K w mg):Prop:=FnOk P w K mg base (ZE P w) 2 T.Xr.a (ZG K T.Xr.a) ["self","name"] (Zmb T)
abbrev Zgn (P:Program) (base:Heap) (T:Tx K w mg):Prop:=FnOk P w K mg base (ZE P w) 3 T.Vf.a (ZG K T.Vf.a) ["self","name","sort","day"] (ZlX T)
abbrev Zgx (P:Program) (base:Heap) (T:Tx K w mg):Prop:=FnOk P w K mg base (ZE P w) 4 T.UQ.a (ZG K T.UQ.a) ["self","entry"] (ZjD T)
abbrev Zfd (P:Program) (base:Heap) (T:Tx K w mg):Prop:=FnOk P w K mg base (ZE P w) 5 T.Uf.a (ZG K T.Uf.a) ["self","entry"] (Zk9 T)
abbrev Zaa (P:Program) (base:Heap) (T:Tx K w mg):Prop:=FnOk P w K mg base (ZE P w) 1 T.YX.a (ZG K T.YX.a) ["self","letter","begin","end"] (Zje T)
abbrev Zgs (P:Program) (base:Heap) (T:Tx K w mg):Prop:=FnOk P w K mg base (ZE P w) 2 T.Uw.a (ZG K T.Uw.a) ["self","entry"] (Zmj T)
abbrev Zck (P:Program) (base:Heap) (T:Tx K w mg):Prop:=FnOk P w K mg base (ZE P w) 2 T.Vc.a (ZG K T.Vc.a) ["self","letter","name"] (Zkg T)
abbrev ZeC (P:Program) (base:Heap) (T:Tx K w mg):Prop:=FnOk P w K mg base (ZE P w) 2 T.a_Book_stands T.fd_Book_stands ["self","one","other","day"] (Zhv T)
abbrev ZfX (P:Program) (base:Heap) (T:Tx K w mg):Prop:=FnOk P w K mg base (ZE P w) 3 T.UF.a (ZG K T.UF.a) ["self","entry"] (ZiZ T)
abbrev ZgF (P:Program) (base:Heap) (T:Tx K w mg):Prop:=FnOk P w K mg base (ZE P w) 6 T.WE.a (ZG K T.WE.a) ["self","entry"] (Zjb T)
abbrev Zd8 (P:Program) (base:Heap) (T:Tx K w mg):Prop:=FnOk P w K mg base (ZE P w) 1 T.ZaJ.a (ZG K T.ZaJ.a) ["thing"] (Zk8 T)
abbrev Zdn (P:Program) (base:Heap) (T:Tx K w mg):Prop:=FnOk P w K mg base (ZE P w) 3 T.Vq.a (ZG K T.Vq.a) ["book","step","name"] (Zkh T)
abbrev Zef (P:Program) (base:Heap) (T:Tx K w mg):Prop:=FnOk P w K mg base (ZE P w) 5 T.VW.a (ZG K T.VW.a) ["one","steps","lead"] (Zoh T)
abbrev ZaB (P:Program) (base:Heap) (T:Tx K w mg):Prop:=FnOk P w K mg base (ZE P w) 6 T.U9.a (ZG K T.U9.a) ["book","way","name"] (Zn0 T)
abbrev J0 (P:Program) (base:Heap) (T:Tx K w mg):Prop:=FnOk P w K mg base (ZE P w) 1 T.Zah.a (ZG K T.Zah.a) ["_law_script","_law_k"] (ZkI T)
abbrev Zet (P:Program) (base:Heap) (T:Tx K w mg):Prop:=FnOk P w K mg base (ZE P w) 1 T.Zbm.a (ZG K T.Zbm.a) ["_law_cell"] (ZlJ T)
abbrev Zhi (P:Program) (base:Heap) (T:Tx K w mg):Prop:=FnOk P w K mg base (ZE P w) 1 T.Zaf.a (ZG K T.Zaf.a) ["_law_cell","_law_k","_law_way_here"] (Zir T)
abbrev ZeK (P:Program) (base:Heap) (T:Tx K w mg):Prop:=FnOk P w K mg base (ZE P w) 1 T.Zay.a (ZG K T.Zay.a) ["_law_people","_law_names_here","_law_cell","_law_day_here"] (Znd T)
abbrev Zgb (P:Program) (base:Heap) (T:Tx K w mg):Prop:=FnOk P w K mg base (ZE P w) 1 T.J2.a (ZG K T.J2.a) ["_law_people","_law_known","_law_cell","_law_kind"] (ZjS T)
abbrev Zhl (P:Program) (base:Heap) (T:Tx K w mg):Prop:=FnOk P w K mg base (ZE P w) 2 T.Zbk.a (ZG K T.Zbk.a) ["_law_script","_law_most"] (ZnJ T)
abbrev Zeb (P:Program) (base:Heap) (T:Tx K w mg):Prop:=FnOk P w K mg base (ZE P w) 1 T.Za9.a (ZG K T.Za9.a) ["_law_edges_here","_law_letter","_law_low","_law_high"] (Zhw T)
abbrev Zf0 (P:Program) (base:Heap) (T:Tx K w mg):Prop:=FnOk P w K mg base (ZE P w) 2 T.Zaz.a (ZG K T.Zaz.a) ["_law_entries_here"] (Zmd T)
abbrev Ze9 (P:Program) (base:Heap) (T:Tx K w mg):Prop:=FnOk P w K mg base (ZE P w) 1 T.Zbo.a (ZG K T.Zbo.a) ["_law_cell","_law_k"] (ZkC T)
abbrev ZdR (P:Program) (base:Heap) (T:Tx K w mg):Prop:=FnOk P w K mg base (ZE P w) 2 T.Za5.a (ZG K T.Za5.a) ["_law_script","_law_many","_law_turn","_law_edges_here","_law_name"] (ZiE T)
abbrev Zbu (P:Program) (base:Heap) (T:Tx K w mg):Prop:=FnOk P w K mg base (ZE P w) 1 T.Zan.a (ZG K T.Zan.a) ["_law_edges_here","_law_way_here","_law_name"] (ZiX T)
abbrev Za3 (P:Program) (base:Heap) (T:Tx K w mg):Prop:=FnOk P w K mg base (ZE P w) 1 T.Zad.a (ZG K T.Zad.a) ["_law_found","_law_due"] (ZkZ T)
abbrev Zfm (P:Program) (base:Heap) (T:Tx K w mg):Prop:=FnOk P w K mg base (ZE P w) 7 T.Zbf.a (ZG K T.Zbf.a) ["_law_book","_law_edges_here","_law_ways","_law_people"] (Zik T)
abbrev ZfN (P:Program) (base:Heap) (T:Tx K w mg):Prop:=FnOk P w K mg base (ZE P w) 7 T.Zbn.a (ZG K T.Zbn.a) ["_law_book","_law_edges_here","_law_name"] (ZjI T)
abbrev ZfE (P:Program) (base:Heap) (T:Tx K w mg):Prop:=FnOk P w K mg base (ZE P w) 7 T.Zab.a (ZG K T.Zab.a) ["_law_book","_law_one","_law_other","_law_name"] (Zim T)
abbrev Zea (P:Program) (base:Heap) (T:Tx K w mg):Prop:=FnOk P w K mg base (ZE P w) 8 T.Vs.a (ZG K T.Vs.a) ["_law_script"] (Zg6 T)
theorem Znn:(["name"]:List Str).Nodup:=by decide +kernel
theorem Ziz:(["name","entry","self"]:List Str).Nodup:=by decide +kernel
theorem Zoc:(["tied_on","day"]:List Str).Nodup:=by decide +kernel
theorem ZmC:(["name","end"]:List Str).Nodup:=by decide +kernel
theorem ZlW:(["_law_k","_law_cell"]:List Str).Nodup:=by decide +kernel
theorem ZeY:(["_law_one","_law_people"]:List Str).Nodup:=by decide +kernel
theorem Zlo:(["_law_one","_law_day_here","_law_people"]:List Str).Nodup:=by decide +kernel
theorem Zio:(["_law_key"]:List Str).Nodup:=by decide +kernel
theorem Zlp:(["_law_step","_law_edges_here","_law_name"]:List Str).Nodup:=by decide +kernel
theorem ZnG:(["_law_name","_law_then","_law_k"]:List Str).Nodup:=by decide +kernel
theorem ZiL:(["_law_row"]:List Str).Nodup:=by decide +kernel
theorem Zns:(["_law_step"]:List Str).Nodup:=by decide +kernel
theorem Zlw:(["_law_entry"]:List Str).Nodup:=by decide +kernel
end
section
variable {K:W.Frag} {mg:Str->Option Value}
def spC (K:W.Frag) (f:Vk->Bool):Sp:=fun vs H Q _=>vs.length=1∧∃x t,vs=[x]∧Vw K H x t∧∀H',Same H H'->Q (.bl (f t)) H'
def Wo (T:Tx K w mg):Addr->Sp->Prop:=fun f sp=>∃c,f=T.ad c∧sp=spC K (V0 c)
theorem ZlD {P:Program} {w:World} {base:Heap} {X:Cx} (T:Tx K w mg) (h1:FnOk P w K mg base (ZE P w) 1 T.YU.a (ZG K T.YU.a) ["thing"] (Zfx T)) (h2:FnOk P w K mg base (ZE P w) 1 T.Wy.a (ZG K T.Wy.a) ["thing"] (Zhe T))
  (h3:FnOk P w K mg base (ZE P w) 2 T.Xc.a (ZG K T.Xc.a) ["thing"] (Zfn T)) (h4:FnOk P w K mg base (ZE P w) 2 T.Wk.a (ZG K T.Wk.a) ["thing"] (ZgS T)) (h5:FnOk P w K mg base (ZE P w) 2 T.Wb.a (ZG K T.Wb.a) ["thing"] (Zfl T))
  (hr:Room 2 X.A) (e1:X.prog=P) (e2:X.w=w) (e3:X.K=K) (e4:X.mg=mg) (e5:X.base=base):ZdW X (ZE P w) (Wo T):=by
 subst e1 e2 e3 e4 e5;rintro f sp ⟨c,rfl,rfl⟩;cases c with
 |name=>exact ⟨1,_,_,h1,hr.mono (by decide),T.YU.F.kp,T.YU.b⟩
 |sort=>exact ⟨1,_,_,h2,hr.mono (by decide),T.Wy.F.kp,T.Wy.b⟩
 |day=>exact ⟨2,_,_,h3,hr,T.Xc.F.kp,T.Xc.b⟩
 |amount=>exact ⟨2,_,_,h4,hr,T.Wk.F.kp,T.Wk.b⟩
 |parent=>exact ⟨2,_,_,h5,hr,T.Wb.F.kp,T.Wb.b⟩
end
section
variable {P:Program} {w:World} {K:W.Frag} {mg:Str->Option Value} {base:Heap}
theorem ZoB (T:Tx K w mg)  : Zc6 P base T:=by
 refine Fun.okX (k:=0) T.Zba.F ZhI (fun vs H Q E h=>h.1) (fun cdv A outer s H vs Q E hr h=>?_);obtain ⟨-,h⟩:=h;obtain ⟨x,t,rfl,hv,q⟩:=h;refine ⟨_,(Zm (ZA (XB (XO K (by rfl) T.n_isinstance (Za (pv 0) (Za (XV (v:=.ty "int") (by rfl) T.n_int Zcf rfl) Zc))) (XE (Zi3 (XO K (by rfl) T.n_isinstance (Za (pv 0) (Za (XV (v:=.ty "bool") (by rfl) T.n_bool ZiG rfl) Zc)))))))),?_⟩;refine ⟨_,rfl,_,.ty "int",_,_,rfl,rfl,hv.kd,kI T t,_,rfl,?_⟩;cases t with
 |int i=>exact Z4 ⟨_,rfl,_,.ty "bool",_,_,rfl,rfl,hv.kd,T.k_int_bool,_,rfl,q _ (Same.refl H)⟩
 |bl=>exact Z4 ⟨_,rfl,_,.ty "bool",_,_,rfl,rfl,hv.kd,T.k_bool_bool,_,rfl,q _ (Same.refl H)⟩
 |_=>exact ZY (q _ (Same.refl H))
theorem Zhu (T:Tx K w mg)  : ZdK P base T:=by
 refine Fun.okX (k:=0) T.YU.F ZlH (fun vs H Q E h=>h.1) (fun cdv A outer s H vs Q E hr h=>?_);obtain ⟨-,h⟩:=h;obtain ⟨x,t,rfl,hv,q⟩:=h
 refine ⟨_,(Zk (ZH (PW.pt (X4 (XZ (Xb (XO K (by rfl) T.n_isinstance (Za (pv 0) (Za (XV (v:=.ty "str") (by rfl) T.n_str Vm rfl) Zc))))) (X4 (Zx WP (ZO ZgL (by rfl) T.n_len Yd (Za (pv 0) Zc)) Zd (Zu _)) (Wu (Zx Wn (ZO ZgL (by rfl) T.n_len Yd (Za (pv 0) Zc)) Zd (Zu _)))))) (Zm (ZA YY)) ZL)
   (Zm (ZA (ZO (ZdN rfl) (by rfl) T.n_all ZbG (Za (W3 (N:=["sign"]) (cl:=[]) (σc:=fun _=>[none]) rfl (Zff (L:=[(".0",.local),("sign",.local),("LETTERS",.globalImplicit)]) (by rfl) (by decide +kernel) (by decide +kernel) (by rfl) (by rfl) (by decide) (by rfl) (by simp)) (Zht (pv 0)) (fun _ _ _=>(ZS (i:=0) JF rfl (Or.inl rfl))) (fun _ _ _=>UZ) (fun _ _ _=>(YZ Zhy (pv 0) (UP (v:=.str JA) (by rfl) T.m_LETTERS ⟨_,rfl⟩) (by rfl)))) Zc))))),?_⟩
 refine ⟨_,rfl,_,.ty "str",_,_,rfl,rfl,hv.kd,kS T t,_,rfl,?_⟩;cases t with
 |str z =>
  obtain ⟨e,hz⟩:=hv;subst e;have hs:z.length≤sizeLine:=Q1 (Zw (by omega));refine ZY ⟨_,rfl,z,rfl,hs,_,_,rfl,rfl,_,rfl,?_⟩;by_cases h1:((z.length:Nat):Int)<1
  ·rw [Qo h1]
   have e:WH (.str z)=false:=by
    rw [ZdG];rw [Qk (show ¬1≤z.length by omega)];rfl
   rw [e] at q;exact Z4 (q _ (Same.refl H))
  rw [Qk h1];refine ZY ⟨_,rfl,z,rfl,hs,_,_,rfl,rfl,_,rfl,?_⟩;by_cases h2:(8:Int)<((z.length:Nat):Int)
  ·rw [Qo h2]
   have e:WH (.str z)=false:=by
    rw [ZdG];rw [Qk (show ¬z.length≤8 by omega),Bool.and_false];rfl
   rw [e] at q;exact Z4 (q _ (Same.refl H))
  rw [Qk h2]
  have e:WH (.str z)=(z.cps.toList.map Wi).all id:=by
   rw [ZdG];rw [Qo (show 1≤z.length by omega),Qo (show z.length≤8 by omega),GN];rfl
  rw [e] at q;have hl:z.cps.size=z.length:=rfl;refine ZY ⟨_,rfl,z,rfl,?_⟩;refine ZaM ((z.cps.toList.map Wi).map V.bl) (by simp only [Qd,RN];exact R3 (Nat.le_of_eq hl) (Zw (by omega))) (fun σ=>∃o,σ=[o]) ⟨none,rfl⟩ ?_ ?_ ?_ ?_
  ·intro i H2 hi _;show i<z.cps.size;simpa using hi
  ·intro H2 _;show (((z.cps.toList.map Wi).map V.bl).length:Nat)=z.cps.size;simp
  ·rintro i σ H2 v H3 y hy ⟨o,rfl⟩ s2 ⟨e3,c,hc,ev⟩ C hC;subst e3 ev
   have ey:y=.bl (Wi c):=by
    have hc':z.cps.toList[i]?=some c:=by simpa using hc
    rw [Qp,Qp,hc'] at hy;exact (Ql hy).symm
   subst ey;exact ⟨_,rfl,_,_,rfl,rfl,hC _ _ ⟨_,rfl⟩ (Same.refl _)⟩
  ·intro D H2 hD s2 hl2;exact ⟨D,_,rfl,hl2,q _ s2⟩
 |_=>exact Z4 (q _ (Same.refl H))
theorem Zok (T:Tx K w mg) (Uh:Zc6 P base T):ZfU P base T:=by
 refine Fun.okX (k:=1) T.Xc.F ZnF (fun vs H Q E h=>h.1) (fun cdv A outer s H vs Q E hr h=>?_);obtain ⟨-,h⟩:=h;obtain ⟨x,t,rfl,hv,q⟩:=h;refine ⟨_,(Zm (ZA (XB (ZM Uh hr Zy (Za (pv 0) Zc)) (XE (YZ Zcl (ZO ZkA (by rfl) T.n_abs ZhV (Za (pv 0) Zc)) (Zo XQ Zd Zd) (Zu _)))))),?_⟩;refine ⟨_,rfl,rfl,x,t,rfl,hv,fun H1 s1=>⟨_,rfl,?_⟩⟩;cases t with
 |int i =>
  cases (show x=.int i from hv);exact Z4 ⟨_,rfl,i,rfl,_,_,rfl,rfl,(show Vb 10 18 from ⟨by decide,by decide,by decide +kernel⟩),_,_,rfl,rfl,q _ s1⟩
 |_=>exact ZY (q _ s1)
theorem ZlO (T:Tx K w mg) (Uh:Zc6 P base T):ZgW P base T:=by
 refine Fun.okX (k:=1) T.Wk.F Zjn (fun vs H Q E h=>h.1) (fun cdv A outer s H vs Q E hr h=>?_);obtain ⟨-,h⟩:=h;obtain ⟨x,t,rfl,hv,q⟩:=h;refine ⟨_,(Zm (ZA (XB (ZM Uh hr Zy (Za (pv 0) Zc)) (XB (YZ Jh (pv 0) Zd (Zu _)) (XE (YZ Zcl (pv 0) (Zo XQ Zd Zd) (Zu _))))))),?_⟩;refine ⟨_,rfl,rfl,x,t,rfl,hv,fun H1 s1=>⟨_,rfl,?_⟩⟩;cases t with
 |int i =>
  cases (show x=.int i from hv);refine Z4 ⟨_,rfl,_,_,rfl,rfl,_,rfl,?_⟩;have q1:=q _ s1;rw [ZlG] at q1;by_cases h1:1≤i
  ·rw [Qo h1] at q1 ⊢;exact Z4 ⟨_,rfl,_,_,rfl,rfl,(show Vb 10 18 from ⟨by decide,by decide,by decide +kernel⟩),_,_,rfl,rfl,q1⟩
  ·rw [Qk h1] at q1 ⊢;exact ZY q1
 |_=>exact ZY (q _ s1)
theorem ZkV (T:Tx K w mg)  : ZgM P base T:=by
 refine Fun.okX (k:=0) T.Wy.F Zi2 (fun vs H Q E h=>h.1) (fun cdv A outer s H vs Q E hr h=>?_);obtain ⟨-,h⟩:=h;obtain ⟨x,t,rfl,hv,q⟩:=h;refine ⟨_,(Zm (ZA (XB (XO K (by rfl) T.n_isinstance (Za (pv 0) (Za (XV (v:=.ty "str") (by rfl) T.n_str Vm rfl) Zc))) (XE (YZ U7 (pv 0) (ZZ (Za Zs (Za Zs (Za Zs Zc)))) (by rfl)))))),?_⟩;refine ⟨_,rfl,_,.ty "str",_,_,rfl,rfl,hv.kd,kS T t,_,rfl,?_⟩;cases t with
 |str z =>
  cases (show x=.str z from hv.1);refine Z4 ⟨_,rfl,by decide,fun p hp=>⟨p,_,rfl,.inr (.of Zf),rfl,rfl,?_⟩⟩
  have e:(if false=true then !XX (.str z) [.str "he",.str "she",.str ""] else XX (.str z) [.str "he",.str "she",.str ""])=Vn (.str z):=by
   rw [Qa (by decide)];exact Zhr z
  rw [e];exact q _ (Zj hp)
 |_=>exact ZY (q _ (Same.refl H))
theorem Zn4 (T:Tx K w mg) (Up:ZdK P base T):ZfT P base T:=by
 refine Fun.okX (k:=1) T.Wb.F ZkJ (fun vs H Q E h=>h.1) (fun cdv A outer s H vs Q E hr h=>?_);obtain ⟨-,h⟩:=h;obtain ⟨x,t,rfl,hv,q⟩:=h;refine ⟨_,(Zm (ZA (Ze3 (ZM Up hr Zy (Za (pv 0) Zc)) (XE (XB (XO K (by rfl) T.n_isinstance (Za (pv 0) (Za (XV (v:=.ty "str") (by rfl) T.n_str Vm rfl) Zc))) (XE (YZ Z5 (pv 0) Zs (Zu _)))))))),?_⟩;refine ⟨_,rfl,rfl,x,t,rfl,hv,fun H1 s1=>⟨_,rfl,?_⟩⟩;have q1:=q _ s1;unfold Jb at q1;cases hn:WH t with
 |true =>
  rw [hn] at q1;exact Z4 q1
 |false =>
  rw [hn,Bool.false_or] at q1;refine ZY ⟨_,rfl,_,.ty "str",_,_,rfl,rfl,(hv.mono s1).kd,kS T t,_,rfl,?_⟩;cases t with
  |str z =>
   cases (show x=.str z from hv.1)
   have e:decide (V.str z=V.str "")=decide (z=""):=by
    rw [Rk];simp
   exact Z4 ⟨_,rfl,rfl,by rw [e];exact q1⟩
  |_=>exact ZY q1
theorem Ziy (T:Tx K w mg) (Up:ZdK P base T) (Zbr:ZfU P base T) (ZcB:ZgW P base T) (ZcM:ZgM P base T) (ZbF:ZfT P base T):ZfG P base T:=by
 refine Fun.okX (k:=2) T.Zbd.F Zj1 (fun vs H Q E h=>h.1) (fun cdv A outer s H vs Q E hr h=>?_);obtain ⟨-,h⟩:=h;obtain ⟨a,b,xs,ts,cs,rfl,ha,hx,hb,hc,q⟩:=h
 refine ⟨_,(Zk (ZH (Zx WR (ZO Yy (by rfl) T.n_len Yd (Za (pv 0) Zc)) (ZO Yy (by rfl) T.n_len Yd (Za (pv 1) Zc)) (Zu _)) (Zm (ZA YY)) ZL)
   (Zm (ZA (ZO (ZdN rfl) (by rfl) T.n_all ZbG (Za (W3 (N:=["check","part"]) (cl:=[]) (σc:=fun _=>[none,none]) rfl (Zff (L:=[(".0",.local),("check",.local),("part",.local)]) (by rfl) (by decide +kernel) (by decide +kernel) (by rfl) (by rfl) (by decide) (by rfl) (by simp)) (Zh5 K (by rfl) T.n_zip (Za (pv 1) (Za (pv 0) Zc))) (fun _ _ _=>(Zjt (n:=2) K rfl (Wz (ZS (i:=0) nd2 rfl (Or.inl rfl)) (Wz (ZS (i:=1) nd2 rfl (Or.inl rfl)) UV)))) (fun _ _ _=>UZ) (fun _ _ _=>(Zkd (Wo:=Wo T) (i:=0) (ZlD T Up ZcM Zbr ZcB ZbF (hr.mono (by decide)) rfl rfl rfl rfl rfl) rfl (Or.inl rfl) Zy (Za (pv 1) Zc)))) Zc))))),?_⟩
 have lx:=hx.length;refine ⟨_,rfl,a,_,rfl,.inr ha,_,rfl,b,_,rfl,.inr hb,rfl,_,rfl,?_⟩
 have e0:(!decide (V.int (xs.length:Nat)=V.int ((cs.map fun c=>V.ref (T.ad c)).length:Nat)))=!decide (ts.length=cs.length):=by
  rw [lx,Qd]
  congr 1
  rw [Rk];simp only [Gr,V.int.injEq];omega
 rw [e0];unfold XA at q;by_cases hl:ts.length=cs.length
 ·rw [Qo hl] at q ⊢;rw [Gv] at q;have lo:(ZT cs ts).length=cs.length:=ZeW hl;refine ZY ⟨_,rfl,_,rfl,b,a,rfl,⟨_,hb⟩,⟨_,ha⟩,?_⟩;refine ZaM ((ZT cs ts).map V.bl) (by rw [Qd,lo];exact Zw (by omega)) (fun σ=>∃o u,σ=[o,u]) ⟨none,none,rfl⟩ ?_ ?_ ?_ ?_
  ·intro i H2 hi s2;rw [Qd,lo] at hi;have h1:i<(cs.map fun c=>V.ref (T.ad c)).length:=by rw [Qd];exact hi
   have h2:i<xs.length:=by omega
   exact ⟨_,_,_,_,s2.sqt hb,s2.sqt ha,Qt h1,Qt h2⟩
  ·intro H2 s2;exact ⟨_,s2.sqt hb,by rw [Qd,Qd,lo]⟩
  ·rintro i σ H2 v H3 y hy ⟨o,u,rfl⟩ s2 ⟨A',x1,x2,nA,rfl,f1,f2,rfl⟩ C hC;obtain ⟨c,t,e1,e2,e3⟩:=ZnI hl hy;have g1:=f1 _ (s2.sqt hb);have g2:=f2 _ (s2.sqt ha);rw [Qp,e1] at g1;have g1':x1=.ref (T.ad c):=(Ql g1).symm;obtain ⟨x,ex,vx⟩:=hx.get e2;rw [ex] at g2;have g2':x2=x:=(Ql g2).symm;subst g1' g2' e3;have sA:=Zj (o:=.tup [.ref (T.ad c),x2]) nA;refine ⟨A',_,rfl,.of Zf,rfl,?_⟩;refine ⟨_,_,rfl,_,_,rfl,rfl,?_⟩;refine ⟨_,_,rfl,⟨c,rfl,rfl⟩,_,rfl,rfl,x2,t,rfl,(vx.mono s2).mono sA,fun H5 s5=>hC _ _ ⟨_,_,rfl⟩ (sA.trans s5)⟩
  ·intro D H2 hD s2 hl2;exact ⟨D,_,rfl,hl2,q _ s2⟩
 ·rw [Qk hl] at q ⊢;exact Z4 (q _ (Same.refl H))
theorem ZjG (T:Tx K w mg) (ZcG:ZfG P base T):Zhc P base T:=by
 refine Fun.okX (k:=3) T.Zae.F ZbQ (fun vs H Q E h=>h.1) (fun cdv A outer s H vs Q E hr h=>?_);obtain ⟨-,h⟩:=h;obtain ⟨x,rfl,h⟩:=h
 refine ⟨_,(Zk (ZH (PW.pt (X4 (XZ (Xb (XO K (by rfl) T.n_isinstance (Za (pv 0) (Za (XV (v:=.ty "tuple") (by rfl) T.n_tuple ZdF rfl) Zc))))) (X4 (Zx Z5 (ZO Yy (by rfl) T.n_len Yd (Za (pv 0) Zc)) Zd (Zu _)) (Wu (XZ (Xb (XO K (by rfl) T.n_isinstance (Za (Zl Zp (pv 0) Zd (fun _ _=>rfl)) (Za (XV (v:=.ty "str") (by rfl) T.n_str Vm rfl) Zc))))))))) (Zm (ZA YY)) ZL)
   (Zk (Yu QG rfl (Uy (UP (v:=.ref T.aF) (by rfl) T.m_FORMS rfl)) (Jk rfl (Wz (ZS (i:=1) ZbQ.nd rfl (Or.inl rfl)) (Wz (ZS (i:=2) ZbQ.nd rfl (Or.inl rfl)) UV)))
    (Zm (ZH (Zx Z5 (Zl Zp (pv 0) Zd (fun _ _=>rfl)) (pv 1) (Zu _)) (Zm (ZA (ZM ZcG hr Zy (Za (Wg Zav (pv 0) (X5 Zd) WC) (Za (pv 2) Zc))))) ZL)))
   (Zm (ZA YY)))),?_⟩
 rcases h with ⟨t,hv,ht,q⟩|⟨ts,⟨a,xs,rfl,hS,hx⟩,hl,q⟩
 ·have k:=kT T t;rw [ht] at k;exact ⟨_,rfl,_,.ty "tuple",_,_,rfl,rfl,hv.kd,k,_,rfl,Z4 (q _ (Same.refl H))⟩
 refine ⟨_,rfl,_,.ty "tuple",_,_,rfl,rfl,.sqt hS,T.k_tuple_tuple,_,rfl,?_⟩;refine ZY ⟨_,rfl,a,_,rfl,.inr hS,rfl,_,rfl,?_⟩
 match xs,ts,hx with
 |[],[],_=>exact Z4 (q _ (Same.refl H))
 |x::xs,t::ts,hx =>
  have e0:decide (V.int ((x::xs).length:Nat)=V.int 0)=false:=by
   rw [QM]
   exact Qk fun z=>by
    have:=V.int.inj z;omega
  rw [e0];have at0:Yi (x::xs) 0=some x:=Xq (j:=0) rfl;refine ZY ⟨_,rfl,a,_,_,_,rfl,rfl,hS,at0,_,.ty "str",_,_,rfl,rfl,hx.1.kd,kS T t,_,rfl,?_⟩;cases t with
  |str w =>
   have ex:x=.str w:=hx.1.1;refine ZY ⟨T.aF,rfl,⟨_,T.sF _⟩,Zap (fun i σ H2=>∃v1 v2,σ=[some (.ref a),v1,v2]∧Same H H2∧∀j,j<i->∀p',Wl[j]?=some p'->w≠p'.1) ⟨none,none,rfl,Same.refl H,fun j hj=>by omega⟩ (fun _ _ _ _ _=>T.sF _) ?turn ?done⟩
   case done =>
    rintro σ H2 ⟨v1,v2,rfl,s2,b⟩
    have e:Ve (.str w::ts)=false:=by
     rw [Jv,Zkj b];rfl
    rw [e] at q;exact q _ s2
   case turn =>
    rintro i y σ H2 hy ⟨v1,v2,rfl,s2,b⟩;have hi:i<6:=(QJ.mp hy).1;have hf:Wl[i]?=some (Wl[i]'hi):=Qt hi;generalize Wl[i]'hi=p at hf;obtain ⟨P,G,e1,e2,e3⟩:=ZkK T hf;rw [hy] at e1;have ey:y=.ref P:=Ql e1;subst ey;refine ⟨P,_,rfl,e2 _,rfl,_,_,rfl,_,_,rfl,rfl,?_⟩;refine ⟨_,rfl,a,_,_,_,rfl,rfl,s2.sqt hS,at0,_,rfl,by rw [ex];rfl,_,rfl,?_⟩;rw [ex]
    have ed:decide (V.str w=V.str p.1)=decide (w=p.1):=by
     rw [Rk];simp
    rw [ed];by_cases hw:w=p.1
    ·rw [Qo hw]
     have e:Ve (.str w::ts)=XA p.2 ts:=by
      rw [Jv,ZlA hf b hw];rfl
     rw [e] at q;refine Z4 ⟨_,rfl,_,rfl,a,_,rfl,s2.sqt hS,?_,fun n hn=>?_⟩
     ·rintro ⟨z,_⟩;have:HT.sIx (x::xs).length 0 (some ((1:Nat):Int))=0:=z;rw [HT.sIx_nat,QM] at this;omega
     ·rw [Znh];have sn:=Zj (o:=.tup xs) hn;refine ⟨_,rfl,rfl,n,G,xs,ts,p.2,rfl,.of Zf,(hx.2.mono s2).mono sn,e3 _,Zkl p (QB hf),fun H5 s5=>q _ (s2.trans (sn.trans s5))⟩
    ·rw [Qk hw];refine ZY ⟨_,_,rfl,s2,fun j hj p' e'=>?_⟩;by_cases hji:j<i
     ·exact b j hji p' e'
     ·have:j=i:=by omega
      subst this;rw [hf] at e';cases e';exact hw
  |_=>exact Z4 (q _ (Same.refl H))
theorem Zou (T:Tx K w mg)  : Zdk P base T:=by
 refine Fun.okX (k:=0) T.Zax.F ZjV (fun vs H Q E h=>h.1) (fun cdv A outer s H vs Q E hr h=>?_);obtain ⟨-,h⟩:=h;obtain ⟨v,e,rfl,⟨a,rfl,hE⟩,q⟩:=h;refine ⟨_,(Zm (ZA (YZ U7 (Zl Zp (pv 0) Zd (fun _ _=>rfl)) (ZZ (Za Zs (Za Zs Zc))) (by rfl)))),?_⟩;cases e with
 |born n s d f m=>exact ⟨_,rfl,a,_,_,_,rfl,rfl,hE,Zh (j:=0) rfl,few rfl,fun p np=>⟨p,_,rfl,.inr (.of Zf),rfl,rfl,q _ (Zj np)⟩⟩
 |taken c t d=>exact ⟨_,rfl,a,_,_,_,rfl,rfl,hE,Zh (j:=0) rfl,few rfl,fun p np=>⟨p,_,rfl,.inr (.of Zf),rfl,rfl,q _ (Zj np)⟩⟩
 |union x y d=>exact ⟨_,rfl,a,_,_,_,rfl,rfl,hE,Zh (j:=0) rfl,few rfl,fun p np=>⟨p,_,rfl,.inr (.of Zf),rfl,rfl,q _ (Zj np)⟩⟩
 |parted x y d=>exact ⟨_,rfl,a,_,_,_,rfl,rfl,hE,Zh (j:=0) rfl,few rfl,fun p np=>⟨p,_,rfl,.inr (.of Zf),rfl,rfl,q _ (Zj np)⟩⟩
 |dead n d=>exact ⟨_,rfl,a,_,_,_,rfl,rfl,hE,Zh (j:=0) rfl,few rfl,fun p np=>⟨p,_,rfl,.inr (.of Zf),rfl,rfl,q _ (Zj np)⟩⟩
 |given x y z d=>exact ⟨_,rfl,a,_,_,_,rfl,rfl,hE,Zh (j:=0) rfl,few rfl,fun p np=>⟨p,_,rfl,.inr (.of Zf),rfl,rfl,q _ (Zj np)⟩⟩
theorem Zml (T:Tx K w mg)  : Zb2 P base T:=by
 refine Fun.okX (k:=0) T.Zat.F ZlI (fun vs H Q E h=>h.1) (fun cdv A outer s H vs Q E hr h=>?_);obtain ⟨-,h⟩:=h;obtain ⟨v,e,rfl,⟨a,rfl,hE⟩,q⟩:=h
 refine ⟨_,(Zk (ZH (Zx Z5 (Zl Zp (pv 0) Zd (fun _ _=>rfl)) Zs (Zu _)) (Zm (ZA (W3 rfl (Xu (N:=["name"]) [] [none] rfl (by decide +kernel) (by decide +kernel) (by rfl) (by rfl) (by rfl) (by rfl) (by rfl)) (Uy (Wg Zav (pv 0) (X5 Zd) WC)) (fun _ _ _=>(ZS (i:=0) Znn rfl (Or.inl rfl))) (fun _ _ _=>(Wc (Zx WR (pv 0) Zs (Zu _)))) (fun _ _ _=>(pv 0))))) ZL)
   (Zk (ZH (Zx Z5 (Zl Zp (pv 0) Zd (fun _ _=>rfl)) Zs (Zu _)) (Zm (ZA (Ys (Za (Zl Zp (pv 0) Zd (fun _ _=>rfl)) Zc)))) ZL)
   (Zm (ZA (Ys (Za (Zl Zp (pv 0) Zd (fun _ _=>rfl)) (Za (Zl Zp (pv 0) Zd (fun _ _=>rfl)) Zc))))))),?_⟩
 cases e with
 |born n s d f m =>
  refine ⟨_,rfl,a,_,_,_,rfl,rfl,hE,Zh (j:=0) rfl,rfl,_,rfl,Yb (by decide +kernel) ⟨_,rfl,_,rfl,?_⟩⟩;dsimp only [Je];refine Jw hE (fun h=>absurd h.1 (show ¬(4:Nat)=0 by decide)) fun H1 p s1 hp=>?_;have hp':SqT K H1 p ([f,m].map V.str):=hp;refine ⟨p,rfl,⟨_,hp'⟩,WF ([f,m].map Us) (Zw (by simp)) (fun σ=>∃v,σ=[v]) ⟨_,rfl⟩ (fun i H2 hi sm=>?go) (fun H2 sm=>?stop) (fun i σ H2 x H3 o ho hσ sm hx C hC=>?step) (fun D H2 nD sm hD=>?fin)⟩
  case go =>
   have hi':i<([f,m].map V.str).length:=hi;exact ⟨_,_,sm.sqt hp',Qt hi'⟩
  case stop=>exact ⟨_,sm.sqt hp',by simp⟩
  case step =>
   obtain ⟨v,rfl⟩:=hσ;obtain ⟨rfl,hx⟩:=hx;have e1:=hx _ (sm.sqt hp');rw [Qp] at e1 ho;obtain ⟨z,hz,rfl⟩:=QH.mp e1;rw [hz] at ho;obtain rfl:Us z=o:=Ql ho;refine ⟨_,rfl,rfl,_,rfl,?_⟩;by_cases hz0:z=""
   ·subst hz0;exact Zt (by decide +kernel) (hC _ _ ⟨_,rfl⟩ (Same.refl _))
   ·have e2:Us z=some (.str z):=Qa hz0;rw [e2] at hC;exact Yb (by rw [Xl,Qk hz0];rfl) ⟨_,rfl,hC _ _ ⟨_,rfl⟩ (Same.refl _)⟩
  case fin =>
   rw [ZfL] at hD;exact q _ D (s1.trans sm) (ZK s1 nD) (.of hD)
 |dead n d=>exact ⟨_,rfl,a,_,_,_,rfl,rfl,hE,Zh (j:=0) rfl,rfl,_,rfl,Zt (by decide +kernel) ⟨_,rfl,a,_,_,_,rfl,rfl,hE,Zh (j:=0) rfl,rfl,_,rfl,Yb (by decide +kernel) ⟨_,rfl,a,_,_,_,rfl,rfl,hE,Zh (j:=1) rfl,few rfl,fun D nD=>q _ D (Zj nD) nD (.of Zf)⟩⟩⟩
 |taken c t d=>exact ⟨_,rfl,a,_,_,_,rfl,rfl,hE,Zh (j:=0) rfl,rfl,_,rfl,Zt (by decide +kernel) ⟨_,rfl,a,_,_,_,rfl,rfl,hE,Zh (j:=0) rfl,rfl,_,rfl,Zt (by decide +kernel) ⟨_,rfl,a,_,_,_,rfl,rfl,hE,Zh (j:=1) rfl,_,rfl,a,_,_,_,rfl,rfl,hE,Zh (j:=2) rfl,few rfl,fun D nD=>q _ D (Zj nD) nD (.of Zf)⟩⟩⟩
 |union x y d=>exact ⟨_,rfl,a,_,_,_,rfl,rfl,hE,Zh (j:=0) rfl,rfl,_,rfl,Zt (by decide +kernel) ⟨_,rfl,a,_,_,_,rfl,rfl,hE,Zh (j:=0) rfl,rfl,_,rfl,Zt (by decide +kernel) ⟨_,rfl,a,_,_,_,rfl,rfl,hE,Zh (j:=1) rfl,_,rfl,a,_,_,_,rfl,rfl,hE,Zh (j:=2) rfl,few rfl,fun D nD=>q _ D (Zj nD) nD (.of Zf)⟩⟩⟩
 |parted x y d=>exact ⟨_,rfl,a,_,_,_,rfl,rfl,hE,Zh (j:=0) rfl,rfl,_,rfl,Zt (by decide +kernel) ⟨_,rfl,a,_,_,_,rfl,rfl,hE,Zh (j:=0) rfl,rfl,_,rfl,Zt (by decide +kernel) ⟨_,rfl,a,_,_,_,rfl,rfl,hE,Zh (j:=1) rfl,_,rfl,a,_,_,_,rfl,rfl,hE,Zh (j:=2) rfl,few rfl,fun D nD=>q _ D (Zj nD) nD (.of Zf)⟩⟩⟩
 |given x y z d=>exact ⟨_,rfl,a,_,_,_,rfl,rfl,hE,Zh (j:=0) rfl,rfl,_,rfl,Zt (by decide +kernel) ⟨_,rfl,a,_,_,_,rfl,rfl,hE,Zh (j:=0) rfl,rfl,_,rfl,Zt (by decide +kernel) ⟨_,rfl,a,_,_,_,rfl,rfl,hE,Zh (j:=1) rfl,_,rfl,a,_,_,_,rfl,rfl,hE,Zh (j:=2) rfl,few rfl,fun D nD=>q _ D (Zj nD) nD (.of Zf)⟩⟩⟩
theorem Zly (T:Tx K w mg)  : Zfk P base T:=by
 refine Fun.okX (k:=0) T.Zaj.F ZjJ (fun vs H Q E h=>h.1) (fun cdv A outer s H vs Q E hr h=>?_);obtain ⟨-,h⟩:=h;obtain ⟨v,e,rfl,⟨a,rfl,hE⟩,q⟩:=h
 refine ⟨_,(Zk (ZH (Zx Z5 (Zl Zp (pv 0) Zd (fun _ _=>rfl)) Zs (Zu _)) (Zm (ZA (Zl Zp (pv 0) Zd (fun _ _=>rfl)))) ZL)
   (Zm (ZA (Zl Zp (pv 0) (JO JY Zd) (fun _ _=>rfl))))),?_⟩
 cases e with
 |born n s d f m=>exact ⟨_,rfl,a,_,_,_,rfl,rfl,hE,Zh (j:=0) rfl,rfl,_,rfl,Yb (by decide +kernel) ⟨_,rfl,a,_,_,_,rfl,rfl,hE,Zh (j:=3) rfl,q⟩⟩
 |taken c t d=>exact ⟨_,rfl,a,_,_,_,rfl,rfl,hE,Zh (j:=0) rfl,rfl,_,rfl,Zt (by decide +kernel) ⟨_,rfl,_,rfl,a,_,_,_,rfl,rfl,hE,rfl,q⟩⟩
 |union x y d=>exact ⟨_,rfl,a,_,_,_,rfl,rfl,hE,Zh (j:=0) rfl,rfl,_,rfl,Zt (by decide +kernel) ⟨_,rfl,_,rfl,a,_,_,_,rfl,rfl,hE,rfl,q⟩⟩
 |parted x y d=>exact ⟨_,rfl,a,_,_,_,rfl,rfl,hE,Zh (j:=0) rfl,rfl,_,rfl,Zt (by decide +kernel) ⟨_,rfl,_,rfl,a,_,_,_,rfl,rfl,hE,rfl,q⟩⟩
 |dead n d=>exact ⟨_,rfl,a,_,_,_,rfl,rfl,hE,Zh (j:=0) rfl,rfl,_,rfl,Zt (by decide +kernel) ⟨_,rfl,_,rfl,a,_,_,_,rfl,rfl,hE,rfl,q⟩⟩
 |given x y z d=>exact ⟨_,rfl,a,_,_,_,rfl,rfl,hE,Zh (j:=0) rfl,rfl,_,rfl,Zt (by decide +kernel) ⟨_,rfl,_,rfl,a,_,_,_,rfl,rfl,hE,rfl,q⟩⟩
theorem Zkt (T:Tx K w mg) (UK:Zdk P base T):ZdC P base T:=by
 refine Fun.okX (k:=1) T.ZaS.F ZfP (fun vs H Q E h=>h.1) (fun cdv A outer s H vs Q E hr h=>?_);obtain ⟨-,h⟩:=h;obtain ⟨v,e,rfl,hx,q⟩:=h
 refine ⟨_,(Zk (ZH (XZ (Xb (ZM UK hr Zy (Za (pv 0) Zc)))) (Zm (ZA (pv 0))) ZL)
   (Zk (Zv (i:=1) ZfP.nd rfl (Or.inl rfl) (ZO (ZiR K) (by rfl) T.n_sorted U8 (Za (Wg Zav (pv 0) (X5 Zd) (X5 Zd)) Zc)))
   (Zm (ZA (ZZ (Za (Zl Zp (pv 0) Zd (fun _ _=>rfl)) (Za (Zl Ym (pv 1) Zd (fun _ _=>rfl)) (Za (Zl Ym (pv 1) Zd (fun _ _=>rfl)) (Za (Zl Zp (pv 0) Zd (fun _ _=>rfl)) Zc))))))))),?_⟩
 obtain ⟨a,rfl,hE⟩:=id hx;refine ⟨_,rfl,rfl,.ref a,e,rfl,hx,fun H1 s1=>⟨_,rfl,?_⟩⟩;have hE1:=s1.sqt hE;cases e with
 |born n s d f m=>exact Z4 ⟨_,rfl,q _ _ s1 (hx.mono s1)⟩
 |taken c t d=>exact Z4 ⟨_,rfl,q _ _ s1 (hx.mono s1)⟩
 |union x y d =>
  refine ZY ⟨_,rfl,_,rfl,_,rfl,?_⟩;refine Jw hE1 (fun h=>absurd h.1 (show ¬(1:Nat)=0 by decide)) fun H2 p s2 hp=>?_;have hp':SqT K H2 p ([x,y].map V.str):=hp;refine ⟨p,[x,y],rfl,hp',QF rfl,fun D zs nD perm so=>?_⟩;rw [Zfy perm so];have s3:=Zj (o:=.lst ([(Zg x y).1,(Zg x y).2].map V.str)) nD;have hE3:=s3.sqt (s2.sqt hE1);have hD:SqL K (Zb H2 D (.lst ([(Zg x y).1,(Zg x y).2].map V.str))) D ([(Zg x y).1,(Zg x y).2].map V.str):=.of Zf;refine ⟨_,rfl,a,_,_,_,rfl,rfl,hE3,Zh (j:=0) rfl,_,rfl,D,_,_,_,rfl,rfl,hD,Zh (j:=0) rfl,_,rfl,D,_,_,_,rfl,rfl,hD,Zh (j:=1) rfl,_,rfl,a,_,_,_,rfl,rfl,hE3,Zh (j:=3) rfl,few rfl,fun t nt=>?_⟩;exact q _ _ (s1.trans (s2.trans (s3.trans (Zj nt)))) ⟨t,rfl,.of Zf⟩
 |parted x y d =>
  refine ZY ⟨_,rfl,_,rfl,_,rfl,?_⟩;refine Jw hE1 (fun h=>absurd h.1 (show ¬(1:Nat)=0 by decide)) fun H2 p s2 hp=>?_;have hp':SqT K H2 p ([x,y].map V.str):=hp;refine ⟨p,[x,y],rfl,hp',QF rfl,fun D zs nD perm so=>?_⟩;rw [Zfy perm so];have s3:=Zj (o:=.lst ([(Zg x y).1,(Zg x y).2].map V.str)) nD;have hE3:=s3.sqt (s2.sqt hE1);have hD:SqL K (Zb H2 D (.lst ([(Zg x y).1,(Zg x y).2].map V.str))) D ([(Zg x y).1,(Zg x y).2].map V.str):=.of Zf;refine ⟨_,rfl,a,_,_,_,rfl,rfl,hE3,Zh (j:=0) rfl,_,rfl,D,_,_,_,rfl,rfl,hD,Zh (j:=0) rfl,_,rfl,D,_,_,_,rfl,rfl,hD,Zh (j:=1) rfl,_,rfl,a,_,_,_,rfl,rfl,hE3,Zh (j:=3) rfl,few rfl,fun t nt=>?_⟩;exact q _ _ (s1.trans (s2.trans (s3.trans (Zj nt)))) ⟨t,rfl,.of Zf⟩
 |dead n d=>exact Z4 ⟨_,rfl,q _ _ s1 (hx.mono s1)⟩
 |given x y z d=>exact Z4 ⟨_,rfl,q _ _ s1 (hx.mono s1)⟩
theorem ZnQ (T:Tx K w mg) (Uc:ZdC P base T):ZdB P base T:=by
 refine Fun.okX (k:=2) T.Zar.F Znf (fun vs H Q E h=>h.1) (fun cdv A outer s H vs Q E hr h=>?_);obtain ⟨-,h⟩:=h;obtain ⟨v,e,rfl,hx,q⟩:=h
 refine ⟨_,(Zk (ZH (Zx U7 (Zl Zp (pv 0) Zd (fun _ _=>rfl)) (ZZ (Za Zs (Za Zs Zc))) (by rfl)) (Zm (ZA (ZZ (Za (Zl Zp (pv 0) Zd (fun _ _=>rfl)) (Za (Zl Zp (pv 0) Zd (fun _ _=>rfl)) Zc))))) ZL)
   (Zk (ZH (Zx Z5 (Zl Zp (pv 0) Zd (fun _ _=>rfl)) Zs (Zu _)) (Zm (ZA (ZZ (Za (Zl Zp (pv 0) Zd (fun _ _=>rfl)) (Za (Zl Zp (pv 0) Zd (fun _ _=>rfl)) (Za (Zl Zp (pv 0) Zd (fun _ _=>rfl)) Zc)))))) ZL)
   (Zk (ZH (Zx Z5 (Zl Zp (pv 0) Zd (fun _ _=>rfl)) Zs (Zu _)) (Zm (ZA (ZZ (Za (Zl Zp (pv 0) Zd (fun _ _=>rfl)) (Za (Zl Zp (pv 0) Zd (fun _ _=>rfl)) (Za (Zl Zp (pv 0) Zd (fun _ _=>rfl)) (Za (Zl Zp (pv 0) Zd (fun _ _=>rfl)) Zc))))))) ZL)
   (Zm (ZA (Zo Zd9 (ZZ (Za Zs Zc)) (Wg Zav (ZM Uc hr Zy (Za (pv 0) Zc)) (X5 Zd) WC))))))),?_⟩
 obtain ⟨a,rfl,hE⟩:=id hx;cases e with
 |born n s d f m =>
  refine ⟨_,rfl,a,_,_,_,rfl,rfl,hE,Zh (j:=0) rfl,few rfl,fun p np=>⟨p,_,rfl,.inr (.of Zf),rfl,rfl,_,rfl,Yb (by decide +kernel) ?_⟩⟩;have s1:=Zj (o:=.tup [.str "born",.str "dead"]) np;have hE1:=s1.sqt hE;exact ⟨_,rfl,a,_,_,_,rfl,rfl,hE1,Zh (j:=0) rfl,_,rfl,a,_,_,_,rfl,rfl,hE1,Zh (j:=1) rfl,few rfl,fun t nt=>q _ t (s1.trans (Zj nt)) (ZK s1 nt) Zf⟩
 |taken c t d =>
  refine ⟨_,rfl,a,_,_,_,rfl,rfl,hE,Zh (j:=0) rfl,few rfl,fun p np=>⟨p,_,rfl,.inr (.of Zf),rfl,rfl,_,rfl,Zt (by decide +kernel) ?_⟩⟩;have s1:=Zj (o:=.tup [.str "born",.str "dead"]) np;have hE1:=s1.sqt hE;refine ⟨_,rfl,a,_,_,_,rfl,rfl,hE1,Zh (j:=0) rfl,rfl,_,rfl,Yb (by decide +kernel) ?_⟩;exact ⟨_,rfl,a,_,_,_,rfl,rfl,hE1,Zh (j:=0) rfl,_,rfl,a,_,_,_,rfl,rfl,hE1,Zh (j:=1) rfl,_,rfl,a,_,_,_,rfl,rfl,hE1,Zh (j:=2) rfl,few rfl,fun t nt=>q _ t (s1.trans (Zj nt)) (ZK s1 nt) Zf⟩
 |union x y d =>
  refine ⟨_,rfl,a,_,_,_,rfl,rfl,hE,Zh (j:=0) rfl,few rfl,fun p np=>⟨p,_,rfl,.inr (.of Zf),rfl,rfl,_,rfl,Zt (by decide +kernel) ?_⟩⟩;have s1:=Zj (o:=.tup [.str "born",.str "dead"]) np;have hE1:=s1.sqt hE;refine ⟨_,rfl,a,_,_,_,rfl,rfl,hE1,Zh (j:=0) rfl,rfl,_,rfl,Zt (by decide +kernel) ?_⟩;refine ⟨_,rfl,a,_,_,_,rfl,rfl,hE1,Zh (j:=0) rfl,rfl,_,rfl,Zt (by decide +kernel) ?_⟩;refine ⟨few rfl,fun t nt=>⟨_,rfl,rfl,.ref a,_,rfl,(hx.mono s1).mono (Zj nt),fun H2 u s2 hu=>?_⟩⟩;obtain ⟨b,rfl,hb⟩:=hu;refine ⟨_,rfl,?_⟩;dsimp only [Je];refine Jw hb (fun h=>absurd h.1 (show ¬(1:Nat)=0 by decide)) fun H3 c s3 hc=>?_;refine ⟨t,c,[.str "tie"],[.str (Zg x y).1,.str (Zg x y).2,.int d],rfl,rfl,.of (s3 _ _ (s2 _ _ Zf)),hc,by simp,few rfl,fun h=>absurd h (by simp),fun _ z nz=>?_⟩;have s4:=(s1.trans (Zj nt)).trans (s2.trans s3);exact q _ z (s4.trans (Zj nz)) (ZK s4 nz) Zf
 |parted x y d =>
  refine ⟨_,rfl,a,_,_,_,rfl,rfl,hE,Zh (j:=0) rfl,few rfl,fun p np=>⟨p,_,rfl,.inr (.of Zf),rfl,rfl,_,rfl,Zt (by decide +kernel) ?_⟩⟩;have s1:=Zj (o:=.tup [.str "born",.str "dead"]) np;have hE1:=s1.sqt hE;refine ⟨_,rfl,a,_,_,_,rfl,rfl,hE1,Zh (j:=0) rfl,rfl,_,rfl,Zt (by decide +kernel) ?_⟩;refine ⟨_,rfl,a,_,_,_,rfl,rfl,hE1,Zh (j:=0) rfl,rfl,_,rfl,Zt (by decide +kernel) ?_⟩;refine ⟨few rfl,fun t nt=>⟨_,rfl,rfl,.ref a,_,rfl,(hx.mono s1).mono (Zj nt),fun H2 u s2 hu=>?_⟩⟩;obtain ⟨b,rfl,hb⟩:=hu;refine ⟨_,rfl,?_⟩;dsimp only [Je];refine Jw hb (fun h=>absurd h.1 (show ¬(1:Nat)=0 by decide)) fun H3 c s3 hc=>?_;refine ⟨t,c,[.str "tie"],[.str (Zg x y).1,.str (Zg x y).2,.int d],rfl,rfl,.of (s3 _ _ (s2 _ _ Zf)),hc,by simp,few rfl,fun h=>absurd h (by simp),fun _ z nz=>?_⟩;have s4:=(s1.trans (Zj nt)).trans (s2.trans s3);exact q _ z (s4.trans (Zj nz)) (ZK s4 nz) Zf
 |dead n d =>
  refine ⟨_,rfl,a,_,_,_,rfl,rfl,hE,Zh (j:=0) rfl,few rfl,fun p np=>⟨p,_,rfl,.inr (.of Zf),rfl,rfl,_,rfl,Yb (by decide +kernel) ?_⟩⟩;have s1:=Zj (o:=.tup [.str "born",.str "dead"]) np;have hE1:=s1.sqt hE;exact ⟨_,rfl,a,_,_,_,rfl,rfl,hE1,Zh (j:=0) rfl,_,rfl,a,_,_,_,rfl,rfl,hE1,Zh (j:=1) rfl,few rfl,fun t nt=>q _ t (s1.trans (Zj nt)) (ZK s1 nt) Zf⟩
 |given x y z d =>
  refine ⟨_,rfl,a,_,_,_,rfl,rfl,hE,Zh (j:=0) rfl,few rfl,fun p np=>⟨p,_,rfl,.inr (.of Zf),rfl,rfl,_,rfl,Zt (by decide +kernel) ?_⟩⟩;have s1:=Zj (o:=.tup [.str "born",.str "dead"]) np;have hE1:=s1.sqt hE;refine ⟨_,rfl,a,_,_,_,rfl,rfl,hE1,Zh (j:=0) rfl,rfl,_,rfl,Zt (by decide +kernel) ?_⟩;refine ⟨_,rfl,a,_,_,_,rfl,rfl,hE1,Zh (j:=0) rfl,rfl,_,rfl,Yb (by decide +kernel) ?_⟩;exact ⟨_,rfl,a,_,_,_,rfl,rfl,hE1,Zh (j:=0) rfl,_,rfl,a,_,_,_,rfl,rfl,hE1,Zh (j:=1) rfl,_,rfl,a,_,_,_,rfl,rfl,hE1,Zh (j:=2) rfl,_,rfl,a,_,_,_,rfl,rfl,hE1,Zh (j:=4) rfl,few rfl,fun t nt=>q _ t (s1.trans (Zj nt)) (ZK s1 nt) Zf⟩
theorem Zl4 (T:Tx K w mg)  : Zgv P base T:=by
 refine Fun.okX (k:=0) T.Zac.F Zl6 (fun vs H Q E h=>h.1) (fun cdv A outer s H vs Q E hr h=>?_);obtain ⟨-,h⟩:=h;obtain ⟨x,rfl,h⟩:=h;refine ⟨_,(Zm (ZA (XB (XO K (by rfl) T.n_isinstance (Za (pv 0) (Za (XV (v:=.ty "str") (by rfl) T.n_str Vm rfl) Zc))) (XE (YZ U7 (pv 0) (UP (v:=.ref T.a_STEP_LETTERS) (by rfl) T.m_STEP_LETTERS rfl) (by rfl)))))),?_⟩;rcases h with ⟨ty,hk,ks,q⟩|⟨l,rfl,q⟩
 ·exact ⟨_,rfl,_,.ty "str",_,_,rfl,rfl,hk,ks,_,rfl,ZY q⟩
 refine ⟨_,rfl,_,.ty "str",_,_,rfl,rfl,.of (.str _),T.k_str_str,_,rfl,Z4 ⟨_,rfl,T.a_STEP_LETTERS,_,rfl,.inr (T.Zed _),rfl,rfl,?_⟩⟩;have e:(if false=true then !XX (.str l) (Xw.map V.str) else XX (.str l) (Xw.map V.str))=Uj l:=Zdz l Xw;rw [←e] at q;exact q
theorem ZhX (T:Tx K w mg)  : Zb5 P base T:=by
 refine Fun.okX (k:=0) T.ZaT.F Zop (fun vs H Q E h=>h.1) (fun cdv A outer s H vs Q E hr h=>?_);obtain ⟨-,h⟩:=h;obtain ⟨a,b,rfl,q⟩:=h;refine ⟨_,(Zm (ZA (ZZ (Za (ZO (Zcs rfl) (by rfl) T.n_min Ui (Za (pv 0) (Za (pv 1) Zc))) (Za (ZO (Zdh rfl) (by rfl) T.n_max Jo (Za (pv 0) (Za (pv 1) Zc))) Zc))))),?_⟩;refine ⟨_,rfl,_,rfl,_,_,rfl,_,rfl,_,rfl,_,_,rfl,few rfl,fun p np=>?_⟩;rw [ZbZ,ZbL];exact q _ p (Zj np) np Zf
theorem Zli (T:Tx K w mg)  : ZfQ P base T:=by
 refine Fun.okX (k:=0) T.Vp.F ZnZ (fun vs H Q E h=>h.1) (fun cdv A outer s H vs Q E hr h=>?_);obtain ⟨-,h⟩:=h;obtain ⟨b,dx,rfl,h0,q⟩:=h
 refine ⟨_,(Zk (Ju (pv 0) VC rfl)
   (Zk (Ju (pv 0) Vv rfl)
   (Zk (Ju (pv 0) VC rfl)
   (Zk (Ju (pv 0) VC rfl)
   (Zm (Ju (pv 0) VC rfl)))))),?_⟩
 refine fun k nk=>⟨_,rfl,b,T.c_Book,dx,[],rfl,(Ze (ZU h0 nk)).trans h0,T.cl_Book,T.na_Book_kept,Qz (m:=10) (QF rfl) (by decide),?_⟩;obtain ⟨g1,p1,s1,m1⟩:=U0 (fs:=[]) "kept" (.dT []) h0 nk;generalize hH1:Zb (Zb H k (.dT [])) b (.ins T.c_Book dx (ZF "kept" (.ref k) ([])))=H1 at *;refine fun bi nbi=>⟨_,rfl,b,T.c_Book,dx,ZF "kept" (.ref k) [],rfl,(Ze (ZU g1 nbi)).trans g1,T.cl_Book,T.na_Book_births,Qz (m:=10) (QF rfl) (by decide),?_⟩;obtain ⟨g2,p2,s2,m2⟩:=U0 (fs:=ZF "kept" (.ref k) []) "births" (.dK []) g1 nbi;generalize hH2:Zb (Zb H1 bi (.dK [])) b (.ins T.c_Book dx (ZF "births" (.ref bi) (ZF "kept" (.ref k) [])))=H2 at *;refine fun li nli=>⟨_,rfl,b,T.c_Book,dx,ZF "births" (.ref bi) (ZF "kept" (.ref k) []),rfl,(Ze (ZU g2 nli)).trans g2,T.cl_Book,T.na_Book_links,Qz (m:=10) (QF rfl) (by decide),?_⟩;obtain ⟨g3,p3,s3,m3⟩:=U0 (fs:=ZF "births" (.ref bi) (ZF "kept" (.ref k) [])) "links" (.dT []) g2 nli;generalize hH3:Zb (Zb H2 li (.dT [])) b (.ins T.c_Book dx (ZF "links" (.ref li) (ZF "births" (.ref bi) (ZF "kept" (.ref k) []))))=H3 at *;refine fun ti nti=>⟨_,rfl,b,T.c_Book,dx,ZF "links" (.ref li) (ZF "births" (.ref bi) (ZF "kept" (.ref k) [])),rfl,(Ze (ZU g3 nti)).trans g3,T.cl_Book,T.na_Book_ties,Qz (m:=10) (QF rfl) (by decide),?_⟩;obtain ⟨g4,p4,s4,m4⟩:=U0 (fs:=ZF "links" (.ref li) (ZF "births" (.ref bi) (ZF "kept" (.ref k) []))) "ties" (.dT []) g3 nti;generalize hH4:Zb (Zb H3 ti (.dT [])) b (.ins T.c_Book dx (ZF "ties" (.ref ti) (ZF "links" (.ref li) (ZF "births" (.ref bi) (ZF "kept" (.ref k) [])))))=H4 at *;refine fun su nsu=>⟨_,rfl,b,T.c_Book,dx,ZF "ties" (.ref ti) (ZF "links" (.ref li) (ZF "births" (.ref bi) (ZF "kept" (.ref k) []))),rfl,(Ze (ZU g4 nsu)).trans g4,T.cl_Book,T.na_Book_sums,Qz (m:=10) (QF rfl) (by decide),?_⟩;obtain ⟨g5,p5,s5,m5⟩:=U0 (fs:=ZF "ties" (.ref ti) (ZF "links" (.ref li) (ZF "births" (.ref bi) (ZF "kept" (.ref k) [])))) "sums" (.dT []) g4 nsu;generalize hH5:Zb (Zb H4 su (.dT [])) b (.ins T.c_Book dx (ZF "sums" (.ref su) (ZF "ties" (.ref ti) (ZF "links" (.ref li) (ZF "births" (.ref bi) (ZF "kept" (.ref k) []))))))=H5 at *;have kb:∀{c:Addr} {o:HO} {Hx:Hp},Hx c=some o->(∀fs,o≠.ins T.c_Book dx fs)->∀{fs},Hx b=some (.ins T.c_Book dx fs)->c≠b:=fun e no fs eb z=>by subst z;rw [eb] at e;cases e;exact no _ rfl
 have dT:∀fs,HO.dT []≠.ins T.c_Book dx fs:=fun _ z=>by cases z
 have dK:∀fs,HO.dK []≠.ins T.c_Book dx fs:=fun _ z=>by cases z
 have a1:=s5 _ _ (s4 _ _ (s3 _ _ (s2 _ _ p1 (kb p1 dT g1)) (kb (s2 _ _ p1 (kb p1 dT g1)) dT g2)) (kb (s3 _ _ (s2 _ _ p1 (kb p1 dT g1)) (kb (s2 _ _ p1 (kb p1 dT g1)) dT g2)) dT g3)) (kb p1 dT g1);have a2:=s5 _ _ (s4 _ _ (s3 _ _ p2 (kb p2 dK g2)) (kb p2 dK g2)) (kb p2 dK g2);have a3:=s5 _ _ (s4 _ _ p3 (kb p3 dT g3)) (kb p3 dT g3);have a4:=s5 _ _ p4 (kb p4 dT g4);rw [ZmD] at g5;have kli:k≠li:=ZU (s2 _ _ p1 (kb p1 dT g1)) nli;have kti:k≠ti:=ZU (s3 _ _ (s2 _ _ p1 (kb p1 dT g1)) (kb (s2 _ _ p1 (kb p1 dT g1)) dT g2)) nti;have ksu:k≠su:=ZU (s4 _ _ (s3 _ _ (s2 _ _ p1 (kb p1 dT g1)) (kb (s2 _ _ p1 (kb p1 dT g1)) dT g2)) (kb (s3 _ _ (s2 _ _ p1 (kb p1 dT g1)) (kb (s2 _ _ p1 (kb p1 dT g1)) dT g2)) dT g3)) nsu;have liti:li≠ti:=ZU p3 nti;have lisu:li≠su:=ZU (s4 _ _ p3 (kb p3 dT g3)) nsu;have tisu:ti≠su:=ZU p4 nsu;exact q H5 k bi li ti su ⟨g5,by simp [kli,kti,ksu,liti,lisu,tisu],by simp [Y8],a1,a2,a3,a4,p5,fun _ h=>(nomatch h),fun _ h=>(nomatch h),fun _ h=>(nomatch h)⟩ (fun c o e cb=>s5 _ _ (s4 _ _ (s3 _ _ (s2 _ _ (s1 _ _ e cb) cb) cb) cb) cb) nk (m1 _ nbi) (m1 _ (m2 _ nli)) (m1 _ (m2 _ (m3 _ nti))) (m1 _ (m2 _ (m3 _ (m4 _ nsu))))
theorem Zji (T:Tx K w mg)  : UB P base T:=by
 refine Fun.okX (k:=0) T.Y7.F Zjw (fun vs H Q E h=>h.1) (fun cdv A outer s H vs Q E hr h=>?_);obtain ⟨-,h⟩:=h;obtain ⟨v,x,B,rfl,⟨b,dx,k,bi,li,ti,su,rfl,hB⟩,h⟩:=h
 refine ⟨_,(Zk (ZH (PW.pt (X4 (XZ (Xb (XO K (by rfl) T.n_isinstance (Za (pv 1) (Za (XV (v:=.ty "str") (by rfl) T.n_str Vm rfl) Zc))))) (Wu (Jq (Zd5 (ZX hr) (pv 1) (Xd (pv 0) rfl)))))) (Zm (VN (by rfl) T.m_NoPerson T.x_NoPerson EB rfl Vx (Za Zs Zc))) ZL)
   (Zm (ZA (Xp (ZX hr) (Xd (pv 0) rfl) (pv 1) (fun _ _=>rfl))))),?_⟩
 rcases h with ⟨ty,hk,ks,qe⟩|⟨n,rfl,qe,q⟩
 ·exact ⟨_,rfl,_,.ty "str",_,_,rfl,rfl,hk,ks,_,rfl,Z4 (Z4 ⟨few rfl,qe⟩)⟩
 have dg:=DGet.k (k:=.inr n) hB.bi;rw [Zbx] at dg;refine ⟨_,rfl,_,.ty "str",_,_,rfl,rfl,.of (.str _),T.k_str_str,_,rfl,ZY ⟨_,rfl,_,rfl,b,T.c_Book,dx,_,_,rfl,hB.ob,T.cl_Book,T.na_Book_births,ZaL,bi,_,rfl,dg,_,rfl,?_⟩⟩;cases hb:Z6 n B.kept with
 |none=>exact Z4 ⟨few rfl,qe hb⟩
 |some p =>
  rw [hb] at dg;exact ZY ⟨_,rfl,b,T.c_Book,dx,_,_,rfl,hB.ob,T.cl_Book,T.na_Book_births,ZaL,_,rfl,bi,.ref p.2,rfl,dg,q p hb⟩
theorem Zib (T:Tx K w mg) (Y9:UB P base T):Zcj P base T:=by
 refine Fun.okX (k:=1) T.W0.F ZhN (fun vs H Q E h=>h.1) (fun cdv A outer s H vs Q E hr h=>?_);obtain ⟨-,h⟩:=h;obtain ⟨v,x,B,rfl,hv,h⟩:=h;refine ⟨_,(Zm (ZA (Zl Zp (Ye (pv 0) T.cl_Book T.Y7.me Y9 (hr.mono (by decide)) T.Y7.b .nil Y5 (Za (pv 1) Zc)) Zd (fun _ _=>rfl)))),?_⟩;obtain ⟨b,dx,k,bi,li,ti,su,rfl,hB⟩:=id hv;refine ⟨_,rfl,b,dx,_,rfl,hB.ob,rfl,_,rfl,rfl,.ref b,x,B,rfl,hv,?_⟩;rcases h with ⟨ty,hk,ks,qe⟩|⟨n,rfl,qe,q⟩
 ·exact .inl ⟨ty,hk,ks,qe⟩
 refine .inr ⟨n,rfl,qe,fun p hp=>?_⟩;obtain ⟨hm,hn⟩:=Zai hp;have hE:=hB.en p hm
 obtain ⟨n',s,d,f,m,he⟩:∃n' s d f m,p.1=.born n' s d f m:=by
  cases e:p.1 with
  |born n' s d f m=>exact ⟨n',s,d,f,m,rfl⟩
  |_=>rw [e] at hn;cases hn
 rw [he] at hE;exact ⟨p.2,_,_,_,rfl,rfl,hE,Zh (j:=2) rfl,q p hp n' s d f m he⟩
theorem ZnS (T:Tx K w mg) (Y9:UB P base T):ZaX P base T:=by
 refine Fun.okX (k:=1) T.Xr.F Zii (fun vs H Q E h=>h.1) (fun cdv A outer s H vs Q E hr h=>?_);obtain ⟨-,h⟩:=h;obtain ⟨v,x,B,rfl,hv,h⟩:=h;refine ⟨_,(Zm (ZA (Zl Zp (Ye (pv 0) T.cl_Book T.Y7.me Y9 (hr.mono (by decide)) T.Y7.b .nil Y5 (Za (pv 1) Zc)) Zd (fun _ _=>rfl)))),?_⟩;obtain ⟨b,dx,k,bi,li,ti,su,rfl,hB⟩:=id hv;refine ⟨_,rfl,b,dx,_,rfl,hB.ob,rfl,_,rfl,rfl,.ref b,x,B,rfl,hv,?_⟩;rcases h with ⟨ty,hk,ks,qe⟩|⟨n,rfl,qe,q⟩
 ·exact .inl ⟨ty,hk,ks,qe⟩
 refine .inr ⟨n,rfl,qe,fun p hp=>?_⟩;obtain ⟨hm,hn⟩:=Zai hp;have hE:=hB.en p hm
 obtain ⟨n',s,d,f,m,he⟩:∃n' s d f m,p.1=.born n' s d f m:=by
  cases e:p.1 with
  |born n' s d f m=>exact ⟨n',s,d,f,m,rfl⟩
  |_=>rw [e] at hn;cases hn
 rw [he] at hE;exact ⟨p.2,_,_,_,rfl,rfl,hE,Zh (j:=3) rfl,q p hp n' s d f m he⟩
theorem Zi8 (T:Tx K w mg) (Uu:Zcj P base T) (X7:ZaX P base T):Zgn P base T:=by
 refine Fun.okX (k:=2) T.Vf.F Znq (fun vs H Q E h=>h.1) (fun cdv A outer s H vs Q E hr h=>?_);obtain ⟨-,h⟩:=h;obtain ⟨v,n,s,d,B,rfl,hv,kn,q⟩:=h;refine ⟨_,(Zm (ZA (Ze3 (YZ Z5 (pv 1) Zs (Zu _)) (XE (XB (YZ Z5 (Ye (pv 0) T.cl_Book T.W0.me Uu (hr.mono (by decide)) T.W0.b .nil Y5 (Za (pv 1) Zc)) (pv 2) (Zu _)) (XE (YZ WP (Ye (pv 0) T.cl_Book T.Xr.me X7 (hr.mono (by decide)) T.Xr.b .nil Y5 (Za (pv 1) Zc)) (pv 3) (Zu _)))))))),?_⟩;obtain ⟨b,dx,k,bi,li,ti,su,rfl,hB⟩:=id hv;refine ⟨_,rfl,rfl,_,rfl,?_⟩;by_cases hn:n=""
 ·have e:XD B n s d=true:=by unfold XD;rw [Qo hn];rfl
  rw [e] at q;exact Yb (by rw [Xl];exact Qo hn) q
 refine Zt (by rw [Xl];exact Qk hn) ?_;have e0:XD B n s d=(decide (Wa B n=s)&&decide (Yk B n<d)):=by unfold XD;rw [Qk hn];rfl
 rw [e0] at q;refine ⟨_,rfl,b,dx,_,rfl,hB.ob,rfl,_,rfl,rfl,.ref b,.str n,B,rfl,hv,.inr ⟨n,rfl,fun no=>absurd no (kn hn),fun p hp n' s' d' f m he=>?_⟩⟩;rw [ZaE hp he] at q;refine ⟨_,rfl,rfl,_,rfl,?_⟩;by_cases hs:s'=s
 ·rw [Qo hs,Gv] at q;refine Yb (by rw [Xl];exact Qo hs) ?_;refine ⟨_,rfl,b,dx,_,rfl,hB.ob,rfl,_,rfl,rfl,.ref b,.str n,B,rfl,hv,.inr ⟨n,rfl,fun no=>absurd no (kn hn),fun p2 hp2 n2 s2 d2 f2 m2 he2=>?_⟩⟩;rw [JP hp2 he2] at q;exact ⟨_,rfl,_,_,rfl,rfl,q⟩
 ·rw [Qk hs,Gz] at q;exact Zt (by rw [Xl];exact Qk hs) q
theorem Zm7 (T:Tx K w mg) (UR:Zb2 P base T) (Zbz:Zfk P base T) (X7:ZaX P base T) (J8:Zgn P base T):Zgx P base T:=by
 refine Fun.okX (k:=3) T.UQ.F ZdY (fun vs H Q E h=>h.1) (fun cdv A outer s H vs Q E hr h=>?_);obtain ⟨-,h⟩:=h;obtain ⟨v,x,B,e,rfl,hv,hx,kn,q⟩:=h
 refine ⟨_,(Zk (ZH (Zx Z5 (Zl Zp (pv 1) Zd (fun _ _=>rfl)) Zs (Zu _)) (Zm (ZA (XB (Ye (pv 0) T.cl_Book T.Vf.me J8 (hr.mono (by decide)) T.Vf.b .nil Y5 (Za (Zl Zp (pv 1) Zd (fun _ _=>rfl)) (Za Zs (Za (Zl Zp (pv 1) Zd (fun _ _=>rfl)) Zc)))) (XE (Ye (pv 0) T.cl_Book T.Vf.me J8 (hr.mono (by decide)) T.Vf.b .nil Y5 (Za (Zl Zp (pv 1) Zd (fun _ _=>rfl)) (Za Zs (Za (Zl Zp (pv 1) Zd (fun _ _=>rfl)) Zc)))))))) ZL)
   (Zk (Zv (i:=2) ZdY.nd rfl (Or.inl rfl) (ZM UR hr Zy (Za (pv 1) Zc)))
   (Zk (ZH (PW.pt (WM (Zx Z5 (ZO Yy (by rfl) T.n_len Yd (Za (pv 2) Zc)) Zd (Zu _)) (WI (Zx Z5 (Zl Ym (pv 2) Zd (fun _ _=>rfl)) (Zl Ym (pv 2) Zd (fun _ _=>rfl)) (Zu _))))) (Zm (ZA YY)) ZL)
   (Zk (ZH (PW.pt (WM (Zx Z5 (Zl Zp (pv 1) Zd (fun _ _=>rfl)) Zs (Zu _)) (WI (Zx Jh (Ye (pv 0) T.cl_Book T.Xr.me X7 (hr.mono (by decide)) T.Xr.b .nil Y5 (Za (Zl Zp (pv 1) Zd (fun _ _=>rfl)) Zc)) (Ye (pv 0) T.cl_Book T.Xr.me X7 (hr.mono (by decide)) T.Xr.b .nil Y5 (Za (Zl Zp (pv 1) Zd (fun _ _=>rfl)) Zc)) (Zu _))))) (Zm (ZA YY)) ZL)
   (Zm (ZA (ZO (ZdN rfl) (by rfl) T.n_all ZbG (Za (W3 rfl (Xu (N:=["name","entry","self"]) ["self","entry"] [none,some 1,some 0] rfl (by decide +kernel) (by decide +kernel) (by rfl) (by rfl) (by rfl) (by rfl) (by rfl)) (YJ (pv 2)) (fun _ _ _=>(ZS (i:=0) Ziz rfl (Or.inl rfl))) (fun _ _ _=>UZ) (fun _ _ _=>(YZ Jh (ZM Zbz hr Zy (Za (pv 1) Zc)) (Ye (pv 2) T.cl_Book T.Xr.me X7 (hr.mono (by decide)) T.Xr.b .nil Zy (Za (pv 0) Zc)) (Zu _)))) Zc)))))))),?_⟩
 obtain ⟨b,dx,k,bi,li,ti,su,rfl,hB⟩:=id hv;obtain ⟨a,rfl,hE⟩:=id hx;by_cases hb:e.isBorn=true
 ·cases e with
  |born n s d f m =>
   have kf:f≠""->Known B f:=fun h=>kn f (by simp [Ent.named,h]);have km:m≠""->Known B m:=fun h=>kn m (by simp [Ent.named,h]);have q1:=q _ (Same.refl H);have ef:Wd B (.born n s d f m)=(XD B f "he" d&&XD B m "she" d):=rfl;rw [ef] at q1;refine ⟨_,rfl,a,_,_,_,rfl,rfl,hE,Zh (j:=0) rfl,rfl,_,rfl,Yb (by decide +kernel) ⟨_,rfl,b,dx,_,rfl,hB.ob,rfl,_,rfl,a,_,_,_,rfl,rfl,hE,Zh (j:=4) rfl,_,rfl,a,_,_,_,rfl,rfl,hE,Zh (j:=3) rfl,rfl,.ref b,f,"he",d,B,rfl,hv,kf,_,rfl,YB (fun h1=>?_) (fun h1=>?_)⟩⟩
   ·rw [h1,Gv] at q1;exact ⟨_,rfl,b,dx,_,rfl,hB.ob,rfl,_,rfl,a,_,_,_,rfl,rfl,hE,Zh (j:=5) rfl,_,rfl,a,_,_,_,rfl,rfl,hE,Zh (j:=3) rfl,rfl,.ref b,m,"she",d,B,rfl,hv,km,q1⟩
   ·rw [h1,Gz] at q1;exact q1
  |_=>cases hb
 replace hb:=Rn.mpr hb;rw [Zbp hb] at q
 have w0:∃w:Str,(e.row.map kV)[0]?=some (.str w)∧w≠"born":=by
  cases e with
  |born=>cases hb
  |_=>exact ⟨_,rfl,by decide +kernel⟩
 obtain ⟨w,hw,hwb⟩:=w0;refine ⟨_,rfl,a,_,_,_,rfl,rfl,hE,Zh hw,rfl,_,rfl,Zt (by rw [Xl];exact Qk hwb) ?_⟩;refine ⟨_,rfl,rfl,.ref a,e,rfl,hx,fun H1 D s1 nD hD=>?_⟩;dsimp only [Z2];refine YN (fun σ H2=>σ=[some (.ref b),some (.ref a),some (.ref D)]∧H2=H1∧e.same=false) (fun nx rest=>?_) (fun σ H2 hJ=>?_)
 ·cases e with
  |born=>cases hb
  |dead n d =>
   exact ⟨_,rfl,D,_,rfl,.inl hD,rfl,_,rfl,Zt rfl (ZY (rest _ _ ⟨rfl,rfl,rfl⟩))⟩
  |_ =>
   refine ⟨_,rfl,D,_,rfl,.inl hD,rfl,_,rfl,Yb rfl ⟨_,rfl,D,_,_,_,rfl,rfl,hD,Zh (j:=0) rfl,_,rfl,D,_,_,_,rfl,rfl,hD,Zh (j:=1) rfl,rfl,_,rfl,?_⟩⟩;refine YB (fun h1=>?_) (fun h1=>rest _ _ ⟨rfl,rfl,?_⟩)
   ·have q1:=q _ s1;rw [Xl] at h1;simp only [Ent.same,h1,Bool.not_true,Gz] at q1;exact q1
   ·rw [Xl] at h1;exact h1
 obtain ⟨rfl,rfl,hsame⟩:=hJ;have hv2:=hv.mono s1;have hB2:=hB.mono s1;have hE2:=s1.sqt hE;have kn2:∀n∈e.named,∀{P:Prop},Z6 n B.kept=none->P:=fun n h _ no=>absurd no (kn n h);rw [hsame] at q;refine YN (fun σ H3=>σ=[some (.ref b),some (.ref a),some (.ref D)]∧H3=H2∧e.early B=false) (fun nx rest=>?_) (fun σ H3 hJ=>?_)
 ·cases e with
  |born=>cases hb
  |taken c t d =>
   refine ⟨_,rfl,a,_,_,_,rfl,rfl,hE2,Zh (j:=0) rfl,rfl,_,rfl,Yb (by decide +kernel) ?_⟩;refine ⟨_,rfl,b,dx,_,rfl,hB2.ob,rfl,_,rfl,a,_,_,_,rfl,rfl,hE2,Zh (j:=2) rfl,rfl,.ref b,.str t,B,rfl,hv2,.inr ⟨t,rfl,kn2 t (by simp [Ent.named]),fun p hp n' s' d' f m he=>?_⟩⟩;refine ⟨_,rfl,b,dx,_,rfl,hB2.ob,rfl,_,rfl,a,_,_,_,rfl,rfl,hE2,Zh (j:=1) rfl,rfl,.ref b,.str c,B,rfl,hv2,.inr ⟨c,rfl,kn2 c (by simp [Ent.named]),fun p2 hp2 n2 s2 d2 f2 m2 he2=>?_⟩⟩;have e1:=JP hp he;have e2:=JP hp2 he2;refine ⟨_,_,rfl,rfl,_,rfl,YB (fun h1=>?_) (fun h1=>rest _ _ ⟨rfl,rfl,?_⟩)⟩
   ·have q1:=q _ s1
    have e3:(Ent.taken c t d).early B=true:=by
     show decide (Yk B c≤Yk B t)=true;rw [e1,e2];exact h1
    rw [e3] at q1;exact q1
   ·show decide (Yk B c≤Yk B t)=false;rw [e1,e2];exact h1
  |_=>exact ⟨_,rfl,a,_,_,_,rfl,rfl,hE2,Zh (j:=0) rfl,rfl,_,rfl,Zt (by decide +kernel) (ZY (rest _ _ ⟨rfl,rfl,rfl⟩))⟩
 obtain ⟨rfl,rfl,hearly⟩:=hJ;rw [hearly] at q;refine ⟨_,rfl,D,rfl,⟨_,hD⟩,ZaM (e.named.map fun n=>V.bl (decide (Yk B n≤e.day))) ?len (fun σ=>∃v,σ=[v,some (.ref a),some (.ref b)]) ⟨_,rfl⟩ (fun i H3 hi sm=>?go) (fun H3 sm=>?stop) (fun i σ H3 x H4 y hy hσ sm hx2 C hC=>?step) (fun D2 H3 nD2 sm hD2=>?fin)⟩
 case len =>
  refine Zw ?_;rw [Qd];cases e with
  |born=>cases hb
  |_=>exact QF rfl
 case go =>
  have hi':i<(e.named.map V.str).length:=by rw [Qd] at hi ⊢;exact hi
  exact ⟨_,_,sm.sql hD,Qt hi'⟩
 case stop=>exact ⟨_,sm.sql hD,by simp⟩
 case step =>
  obtain ⟨v,rfl⟩:=hσ;obtain ⟨rfl,hx3⟩:=hx2;have e1:=hx3 _ (sm.sql hD);rw [Qp] at e1 hy;obtain ⟨n,hn,rfl⟩:=QH.mp e1;rw [hn] at hy;obtain rfl:V.bl (decide (Yk B n≤e.day))=y:=Ql hy;have hB3:=hB2.mono sm;refine ⟨_,rfl,rfl,.ref a,e,rfl,hx.mono (s1.trans sm),_,rfl,b,dx,_,rfl,hB3.ob,rfl,_,rfl,rfl,.ref b,.str n,B,rfl,hv2.mono sm,.inr ⟨n,rfl,kn2 n (QB hn),fun p hp n' s' d' f m he=>⟨_,_,rfl,rfl,?_⟩⟩⟩;rw [JP hp he] at hC;exact hC _ _ ⟨_,rfl⟩ (Same.refl _)
 case fin =>
  refine ⟨D2,e.named.map fun n=>decide (Yk B n≤e.day),rfl,by rw [hD2,QT];rfl,?_⟩;have q1:=q _ (s1.trans sm);rw [GN];exact q1
theorem Zh8 (T:Tx K w mg) (Zci:Zhc P base T) (UR:Zb2 P base T) (Ub:ZdB P base T) (Y9:UB P base T) (Zc7:Zgx P base T):Zfd P base T:=by
 refine Fun.okX (k:=4) T.Uf.F ZeQ (fun vs H Q E h=>h.1) (fun cdv A outer s H vs Q E hr h=>?_);obtain ⟨-,h⟩:=h;obtain ⟨v,x,B,e,rfl,hv,hx,hok,no,q⟩:=h
 refine ⟨_,(Zk (ZH (XZ (Xb (ZM Zci hr Zy (Za (pv 1) Zc)))) (Zm (VN (by rfl) T.m_NoEntry T.x_NoEntry EB rfl Vx (Za Zs Zc))) ZL)
   (Zk (ZH (Zx Jh (ZO Zki (by rfl) T.n_len Yd (Za (Xd (pv 0) rfl) Zc)) (UP (v:=.int 400) (by rfl) T.m_MOST_ENTRIES ⟨_,rfl⟩) (Zu _)) (Zm (VN (by rfl) T.m_Full T.x_Full EB rfl Vx (Za Zs Zc))) ZL)
   (Zk (ZH (PW.pt (WM (Zx Z5 (Zl Zp (pv 1) Zd (fun _ _=>rfl)) Zs (Zu _)) (WI (Zx Jh (ZO Zbh (by rfl) T.n_len Yd (Za (Xd (pv 0) rfl) Zc)) (UP (v:=.int 60) (by rfl) T.m_MOST_PEOPLE ⟨_,rfl⟩) (Zu _))))) (Zm (VN (by rfl) T.m_Full T.x_Full EB rfl Vx (Za Zs Zc))) ZL)
   (Zk (Yu QG rfl (YJ (ZM UR hr Zy (Za (pv 1) Zc))) (ZS (i:=2) ZeQ.nd rfl (Or.inl rfl))
    (Zm (Yh (Ye (pv 0) T.cl_Book T.Y7.me Y9 (hr.mono (by decide)) T.Y7.b .nil Y5 (Za (pv 2) Zc)))))
   (Zk (ZH (Jq (ZcV (ZX hr) (ZM Ub hr Zy (Za (pv 1) Zc)) (Xd (pv 0) rfl))) (Zm (VN (by rfl) T.m_Twice T.x_Twice EB rfl Vx (Za Zs Zc))) ZL)
   (Zm (ZH (XZ (Xb (Ye (pv 0) T.cl_Book T.UQ.me Zc7 (hr.mono (by decide)) T.UQ.b .nil Y5 (Za (pv 1) Zc)))) (Zm (VN (by rfl) T.m_NoFit T.x_NoFit EB rfl Vx (Za Zs Zc))) ZL))))))),?_⟩
 obtain ⟨b,dx,k,bi,li,ti,su,rfl,hB⟩:=id hv;obtain ⟨h400,h60,kn',h1,hf⟩:=ZeS no;obtain ⟨a,rfl,hE⟩:=id hx;refine ⟨_,rfl,rfl,.ref a,rfl,.inr ⟨e.row.map JC,hok.tv hE,e.row_len,fun H1 s1=>⟨_,rfl,?_⟩⟩⟩;rw [hok.en];have hB1:=hB.mono s1;have hE1:=s1.sqt hE;have hlen:B.keptD.length=B.kept.length:=Qd ..;refine ZY ⟨_,rfl,b,T.c_Book,dx,_,_,rfl,hB1.ob,T.cl_Book,T.na_Book_kept,ZbC,k,_,rfl,hB1.ke,_,_,rfl,rfl,_,rfl,Zt (Qk (by rw [hlen];omega)) ?_⟩;dsimp only [Zbb];refine YN (fun σ H2=>σ=[some (.ref b),some (.ref a),none]∧H2=H1) (fun nx rest=>?_) (fun σ H2 hJ=>?_)
 ·cases e with
  |born n s d f m=>exact ⟨_,rfl,a,_,_,_,rfl,rfl,hE1,Zh (j:=0) rfl,rfl,_,rfl,Yb (by decide +kernel) ⟨_,rfl,b,T.c_Book,dx,_,_,rfl,hB1.ob,T.cl_Book,T.na_Book_births,ZaL,bi,_,rfl,hB1.bi,_,_,rfl,rfl,_,rfl,Zt (Qk (by have:=h60 rfl;omega)) (rest _ _ ⟨rfl,rfl⟩)⟩⟩
  |_=>exact ⟨_,rfl,a,_,_,_,rfl,rfl,hE1,Zh (j:=0) rfl,rfl,_,rfl,Zt (by decide +kernel) (ZY (rest _ _ ⟨rfl,rfl⟩))⟩
 obtain ⟨rfl,rfl⟩:=hJ;refine ⟨_,rfl,rfl,.ref a,e,rfl,hx.mono s1,fun H2 D s2 nD hD=>⟨D,rfl,⟨_,hD⟩,XH (xs:=e.named.map V.str) (fun i σ H3=>(∃v,σ=[some (.ref b),some (.ref a),v])∧Same H2 H3) ⟨⟨_,rfl⟩,Same.refl _⟩ ?sq ?turn ?done⟩⟩
 case sq =>
  rintro i σ H3 hi ⟨_,s3⟩;exact s3.sql hD
 case turn =>
  rintro i x σ H3 hx3 ⟨⟨v,rfl⟩,s3⟩;rw [Qp] at hx3;obtain ⟨n,hn,rfl⟩:=QH.mp hx3;have sa:=s1.trans (s2.trans s3);have hB3:=hB.mono sa;exact ⟨_,rfl,b,dx,_,rfl,hB3.ob,rfl,_,rfl,rfl,.ref b,.str n,B,rfl,hv.mono sa,.inr ⟨n,rfl,fun no=>absurd no (kn' n (QB hn)),fun p hp=>⟨⟨_,rfl⟩,s3⟩⟩⟩
 case done =>
  rintro σ H3 ⟨⟨v,rfl⟩,s3⟩;have sa:=s1.trans (s2.trans s3);refine ⟨_,rfl,rfl,.ref a,e,rfl,hx.mono sa,fun H4 p s4 np hp=>?_⟩;have sb:=sa.trans s4;have hB4:=hB.mono sb;have dg:=DGet.t hB4.ke hp;rw [h1] at dg;refine ⟨_,rfl,b,T.c_Book,dx,_,_,rfl,hB4.ob,T.cl_Book,T.na_Book_kept,ZbC,k,_,rfl,dg,_,rfl,ZY ?_⟩;refine ⟨_,rfl,b,dx,_,rfl,hB4.ob,rfl,_,rfl,rfl,.ref b,.ref a,B,e,rfl,hv.mono sb,hx.mono sb,kn',fun H5 s5=>⟨_,rfl,?_⟩⟩;rw [hf];exact ZY (q _ (sb.trans s5))
theorem Zkq (T:Tx K w mg)  : Zaa P base T:=by
 refine Fun.okX (k:=0) T.YX.F ZlN (fun vs H Q E h=>h.1) (fun cdv A outer s H vs Q E hr h=>?_);obtain ⟨-,h⟩:=h;obtain ⟨b,dx,k,bi,li,ti,su,B,l,n,m,rfl,hB,hl,hz,q⟩:=h;refine ⟨_,(Zm (Xz (ZX hr) (Xd (pv 0) rfl) (ZZ (Za (pv 1) (Za (pv 2) Zc))) (ZO (Zk7 K) (by rfl) T.n_sorted U8 (Za (Zo ZkX (JJ (ZX hr) (Xd (pv 0) rfl) (ZZ (Za (pv 1) (Za (pv 2) Zc))) (Ys Zc) ⟨rfl,rfl,rfl,rfl⟩) (Ys (Za (pv 3) Zc))) Zc)) rfl)),?_⟩;refine ⟨_,rfl,b,T.c_Book,dx,_,_,rfl,hB.ob,T.cl_Book,T.na_Book_links,ZaK,li,rfl,.inr ⟨_,.inl hB.li⟩,_,rfl,_,rfl,few rfl,fun t nt=>⟨few rfl,fun z nz=>?_⟩⟩;have s1:=Zj (o:=.tup [.str l,.str n]) nt;have s2:=Zj (o:=.lst []) nz;have s3:=s1.trans s2;have hz0:(Zb (Zb H t (.tup [.str l,.str n])) z (.lst [])) z=some (.lst []):=Zf;have dg:=DGet.t (k:=Zq (l,n)) (s3 _ _ hB.li) (s2 _ _ (Zf (o:=.tup [.str l,.str n])));generalize Zb (Zb H t (.tup [.str l,.str n])) z (.lst [])=H2 at *;rw [show B.linksD=B.links.map fun q=>(Zq q.1,V.ref q.2.1) from rfl,Ws] at dg
 have rest:∀(D:Addr) (H3:Hp),Same H H3->H D=none->H3 D=some (.lst ((ZD (YA B l n++[m])).map V.str))->Zfs K (Jx 0) "links" (L2.start ["self","letter","begin","end"] [.ref b,.str l,.str n,.str m]) H3 fun x H4=>(Zfq (Zcq (Jx 1) (Zcq (Jx 2) Zbv))) (L2.start ["self","letter","begin","end"] [.ref b,.str l,.str n,.str m]) H4 fun y H5=>∃a H6,x=.ref a∧DPut H5 a y (.ref D) H6∧Q .non H6:=by
  intro D H3 sA nD0 hD;have hB3:=hB.mono sA;refine ⟨_,rfl,b,T.c_Book,dx,_,_,rfl,hB3.ob,T.cl_Book,T.na_Book_links,ZaK,_,rfl,_,rfl,few rfl,fun t2 nt2=>?_⟩;have sB:=Zj (o:=.tup [.str l,.str n]) nt2;have hB4:=hB3.mono sB;refine ⟨li,_,rfl,DPut.t (k:=Zq (l,n)) hB4.li Zf ?_,?_⟩
  ·rw [show B.linksD.length=B.links.length from Qd ..];exact Zw (by omega)
  rw [show B.linksD=B.links.map fun q=>(Zq q.1,V.ref q.2.1) from rfl,UO (f:=Zq) (fun _ _=>WN) (fun p:Addr×List Str=>V.ref p.1) B.links (l,n) (D,ZD (YA B l n++[m]))];refine q _ D (hB4.links fun q hq=>?_) ((But.of [li] (sA.trans sB)).trans (But.put hB4.li (by simp))) nD0;rcases UW hq with rfl|hq
  ·exact sB _ _ hD
  ·exact hB4.ll q hq
 refine ⟨_,dg,?_⟩;cases hk:ZC (l,n) B.links with
 |none =>
   have e:YA B l n=[]:=by unfold YA;rw [hk];rfl
   have hX:H2 z=some (.lst ((YA B l n).map V.str)):=by rw [e];exact hz0
   refine ⟨_,rfl,few rfl,fun y ny=>⟨z,y,_,_,rfl,rfl,(Ze (ZU hX ny)).trans hX,Zf,?len,fun p np=>⟨p,YA B l n++[m],rfl,.of (by rw [Zf,Qq];rfl),?len2,fun D zs nD perm so=>?go⟩⟩⟩
   case len=>rw [Qd];exact Q1 (Zw (by show _+1≤1000;omega))
   case len2=>rw [Qw];show _+1<64;omega
   have s4:=(s3.trans (Zj ny)).trans ((Zj np).trans (Zj (o:=.lst (zs.map V.str)) nD));have hDD:(Zb (Zb (Zb H2 y (.lst [V.str m])) p (.lst ((YA B l n).map V.str++[V.str m]))) D (.lst (zs.map V.str))) D=some (.lst (zs.map V.str)):=Zf;rw [ZeI perm so] at hDD s4 ⊢;exact rest D _ s4 (ZK ((s3.trans (Zj ny)).trans (Zj np)) nD) hDD
 |some x =>
   have e:YA B l n=x.2:=by unfold YA;rw [hk];rfl
   obtain ⟨y0,hy0,ey⟩:=ZcR hk;have hl2:=hB.ll y0 hy0;rw [ey] at hl2;have hX:H2 x.1=some (.lst ((YA B l n).map V.str)):=by rw [e];exact (s3 _ _ hl2)
   refine ⟨_,rfl,few rfl,fun y ny=>⟨x.1,y,_,_,rfl,rfl,(Ze (ZU hX ny)).trans hX,Zf,?lenb,fun p np=>⟨p,YA B l n++[m],rfl,.of (by rw [Zf,Qq];rfl),?len2b,fun D zs nD perm so=>?gob⟩⟩⟩
   case lenb=>rw [Qd];exact Q1 (Zw (by show _+1≤1000;omega))
   case len2b=>rw [Qw];show _+1<64;omega
   have s4:=(s3.trans (Zj ny)).trans ((Zj np).trans (Zj (o:=.lst (zs.map V.str)) nD));have hDD:(Zb (Zb (Zb H2 y (.lst [V.str m])) p (.lst ((YA B l n).map V.str++[V.str m]))) D (.lst (zs.map V.str))) D=some (.lst (zs.map V.str)):=Zf;rw [ZeI perm so] at hDD s4 ⊢;exact rest D _ s4 (ZK ((s3.trans (Zj ny)).trans (Zj np)) nD) hDD
theorem Zil (T:Tx K w mg) (XI:Zaa P base T):Zgs P base T:=by
 refine Fun.okX (k:=1) T.Uw.F ZmE (fun vs H Q E h=>h.1) (fun cdv A outer s H vs Q E hr h=>?_);obtain ⟨-,h⟩:=h;obtain ⟨b,dx,k,bi,li,ti,su,B0,B,n,s,d,f,m,a,rfl,hk,hb,hbi,no,hl0,hE,hB,hz,hc,q⟩:=h
 refine ⟨_,(Zk (Xz (ZX hr) (Xd (pv 0) rfl) (Zl Zp (pv 1) Zd (fun _ _=>rfl)) (pv 1) rfl)
   (Zk (ZH (Zx WR (Zl Zp (pv 1) Zd (fun _ _=>rfl)) Zs (Zu _)) (Zk (Yh (Ye (pv 0) T.cl_Book T.YX.me XI (hr.mono (by decide)) T.YX.b .nil Zy (Za Zs (Za (Zl Zp (pv 1) Zd (fun _ _=>rfl)) (Za (Zl Zp (pv 1) Zd (fun _ _=>rfl)) Zc)))))
   (Zm (Yh (Ye (pv 0) T.cl_Book T.YX.me XI (hr.mono (by decide)) T.YX.b .nil Zy (Za Zs (Za (Zl Zp (pv 1) Zd (fun _ _=>rfl)) (Za (Zl Zp (pv 1) Zd (fun _ _=>rfl)) Zc))))))) ZL)
   (Zm (ZH (Zx WR (Zl Zp (pv 1) Zd (fun _ _=>rfl)) Zs (Zu _)) (Zk (Yh (Ye (pv 0) T.cl_Book T.YX.me XI (hr.mono (by decide)) T.YX.b .nil Zy (Za Zs (Za (Zl Zp (pv 1) Zd (fun _ _=>rfl)) (Za (Zl Zp (pv 1) Zd (fun _ _=>rfl)) Zc)))))
   (Zm (Yh (Ye (pv 0) T.cl_Book T.YX.me XI (hr.mono (by decide)) T.YX.b .nil Zy (Za Zs (Za (Zl Zp (pv 1) Zd (fun _ _=>rfl)) (Za (Zl Zp (pv 1) Zd (fun _ _=>rfl)) Zc))))))) ZL)))),?_⟩
 have hb0:ZN (Bk.bornD B0) (.inr n:Zi)=none:=by rw [Zbx,no];rfl
 refine ⟨_,rfl,_,rfl,b,T.c_Book,dx,_,_,rfl,hb,T.cl_Book,T.na_Book_births,ZaL,_,rfl,a,_,_,_,rfl,rfl,hE,Zh (j:=1) rfl,bi,_,rfl,DPut.k (k:=.inr n) hbi (Zw (Qn (Qn (ZjP B0) hl0) (by decide))),?_⟩;rw [US _ hb0,←ZnP B0 n s d f m a,←hk];have bt0:But [bi,li] H (Zb H bi (.dK (Bk.bornD B.kept))):=But.put hbi (by simp);generalize Zb H bi (.dK (Bk.bornD B.kept))=H3 at *;have hmem:(Ent.born n s d f m,a)∈B.kept:=by rw [hk];simp
 dsimp only [Zbb];refine YN (fun σ H4=>σ=[some (.ref b),some (.ref a)]∧∃ls,BkAt K T.c_Book H4 b dx k bi li ti su { B with links:=ls }∧(∀c,lk ls c=(if f="" then lk B.links else Z8 (Z8 (lk B.links) ("F",n) f) ("f",f) n) c)∧ls.length≤B.links.length+2∧But [bi,li] H H4∧Grows H B.links ls) (fun nx rest=>?_) (fun σ H4 hJ=>?_)
 ·have hE3:=hB.en _ hmem;refine ⟨_,rfl,a,_,_,_,rfl,rfl,hE3,Zh (j:=4) rfl,rfl,_,rfl,?_⟩;by_cases f0:f=""
  ·refine Zt (by show (!decide (V.str f=V.str ""))=false;rw [Xl,Qo f0];rfl) (rest _ _ ⟨rfl,B.links,hB,fun c=>by rw [Qc f0],by omega,bt0,Grows.refl _ _⟩)
  have ⟨ls,hls,hB4,hF⟩:∃ls,ls=B.links∧BkAt K T.c_Book H3 b dx k bi li ti su { B with links:=ls }∧∀c,lk ls c=lk B.links c:=⟨B.links,rfl,hB,fun c=>rfl⟩;have hz2:ls.length≤890:=by rw [hls];exact hz
  have hz3:ls.length≤B.links.length:=by rw [hls];exact Qf _
  refine Yb (by show (!decide (V.str f=V.str ""))=true;rw [Xl,Qk f0];rfl) ?_;have hE4:=hB4.en _ hmem;refine ⟨_,rfl,b,dx,_,rfl,hB4.ob,rfl,_,rfl,a,_,_,_,rfl,rfl,hE4,Zh (j:=1) rfl,_,rfl,a,_,_,_,rfl,rfl,hE4,Zh (j:=4) rfl,rfl,b,dx,k,bi,li,ti,su,{ B with links:=ls },"F",n,f,rfl,hB4,?p1,?p2,fun H5 D5 hB5 bt5 nD5=>?p3⟩
  case p1=>rw [VH,hF];exact hc _
  case p2=>show ls.length≤900;omega
  have hE5:=hB5.en _ hmem;refine ⟨_,rfl,b,dx,_,rfl,hB5.ob,rfl,_,rfl,a,_,_,_,rfl,rfl,hE5,Zh (j:=4) rfl,_,rfl,a,_,_,_,rfl,rfl,hE5,Zh (j:=1) rfl,rfl,b,dx,k,bi,li,ti,su,_,"f",f,n,rfl,hB5,?p4,?p5,fun H6 D6 hB6 bt6 nD6=>?p6⟩
  case p4 =>
   rw [VH];show (lk (Zn ls _ (D5,ZD (lk ls ("F",n)++[f]))) _).length≤61;rw [WX,JR (show Str.ofString "f"≠Str.ofString "F" by decide +kernel),hF];exact hc _
  case p5 =>
   have:=XF ls ("F",n) (D5,ZD (lk ls ("F",n)++[f]));show (Zn ls _ (D5,ZD (lk ls ("F",n)++[f]))).length≤900;omega
  refine rest _ _ ⟨rfl,_,hB6,fun c=>?_,?_,?_,((hls▸Grows.refl _ _:Grows H B.links ls).put (bt0.al _ nD5)).put (bt0.al _ (bt5.al _ nD6))⟩
  ·show lk (Zn (Zn ls ("F",n) (D5,ZD (lk ls ("F",n)++[f]))) ("f",f) (D6,ZD (lk (Zn ls ("F",n) (D5,ZD (lk ls ("F",n)++[f]))) ("f",f)++[n]))) c=_;rw [WX];rw [Qa f0];exact Jc (fun c=>(WX ..).trans (Jc hF ..)) ..
  ·have a1:=XF ls ("F",n) (D5,ZD (lk ls ("F",n)++[f]));have a2:=XF (Zn ls ("F",n) (D5,ZD (lk ls ("F",n)++[f]))) ("f",f) (D6,ZD (lk (Zn ls ("F",n) (D5,ZD (lk ls ("F",n)++[f]))) ("f",f)++[n]));show (Zn (Zn ls ("F",n) (D5,ZD (lk ls ("F",n)++[f]))) ("f",f) (D6,ZD (lk (Zn ls ("F",n) (D5,ZD (lk ls ("F",n)++[f]))) ("f",f)++[n]))).length≤_;omega
  ·exact bt0.trans ((bt5.mono (by simp)).trans (bt6.mono (by simp)))
 obtain ⟨rfl,ls,hB4,hF,hl4,bt4,gr⟩:=hJ;have hE3:=hB4.en _ hmem;refine ⟨_,rfl,a,_,_,_,rfl,rfl,hE3,Zh (j:=5) rfl,rfl,_,rfl,?_⟩;by_cases m0:m=""
 ·refine Zt (by show (!decide (V.str m=V.str ""))=false;rw [Xl,Qo m0];rfl) (q _ ls hB4 (fun c=>?_) (by omega) bt4 gr);unfold Xj;rw [Qc m0];exact hF c
 ·have h1:∀c:Str×Str,c.1≠"F"->c.1≠"f"->((if f="" then lk B.links else Z8 (Z8 (lk B.links) ("F",n) f) ("f",f) n) c).length≤61:=by
   intro c c1 c2;by_cases f0:f=""
   ·rw [Qc f0];exact hc c
   ·rw [Qa f0,JR c2,JR c1];exact hc c
  refine Yb (by show (!decide (V.str m=V.str ""))=true;rw [Xl,Qk m0];rfl) ?_;have hE4:=hB4.en _ hmem;refine ⟨_,rfl,b,dx,_,rfl,hB4.ob,rfl,_,rfl,a,_,_,_,rfl,rfl,hE4,Zh (j:=1) rfl,_,rfl,a,_,_,_,rfl,rfl,hE4,Zh (j:=5) rfl,rfl,b,dx,k,bi,li,ti,su,{ B with links:=ls },"M",n,m,rfl,hB4,?r1,?r2,fun H5 D5 hB5 bt5 nD5=>?r3⟩
  case r1=>rw [VH,hF];exact (h1 _ (show Str.ofString "M"≠Str.ofString "F" by decide +kernel) (show Str.ofString "M"≠Str.ofString "f" by decide +kernel))
  case r2=>show ls.length≤900;omega
  have hE5:=hB5.en _ hmem;refine ⟨_,rfl,b,dx,_,rfl,hB5.ob,rfl,_,rfl,a,_,_,_,rfl,rfl,hE5,Zh (j:=5) rfl,_,rfl,a,_,_,_,rfl,rfl,hE5,Zh (j:=1) rfl,rfl,b,dx,k,bi,li,ti,su,_,"m",m,n,rfl,hB5,?r4,?r5,fun H6 D6 hB6 bt6 nD6=>?r6⟩
  case r4 =>
   rw [VH];show (lk (Zn ls _ (D5,ZD (lk ls ("M",n)++[m]))) _).length≤61;rw [WX,JR (show Str.ofString "m"≠Str.ofString "M" by decide +kernel),hF];exact (h1 _ (show Str.ofString "m"≠Str.ofString "F" by decide +kernel) (show Str.ofString "m"≠Str.ofString "f" by decide +kernel))
  case r5 =>
   have:=XF ls ("M",n) (D5,ZD (lk ls ("M",n)++[m]));show (Zn ls _ (D5,ZD (lk ls ("M",n)++[m]))).length≤900;omega
  refine q _ _ hB6 (fun c=>?_) ?_ ?_ ((gr.put (bt4.al _ nD5)).put (bt4.al _ (bt5.al _ nD6)))
  ·show lk (Zn (Zn ls ("M",n) (D5,ZD (lk ls ("M",n)++[m]))) ("m",m) (D6,ZD (lk (Zn ls ("M",n) (D5,ZD (lk ls ("M",n)++[m]))) ("m",m)++[n]))) c=_;rw [WX];unfold Xj;rw [Qa m0];exact Jc (fun c=>(WX ..).trans (Jc hF ..)) ..
  ·have a1:=XF ls ("M",n) (D5,ZD (lk ls ("M",n)++[m]));have a2:=XF (Zn ls ("M",n) (D5,ZD (lk ls ("M",n)++[m]))) ("m",m) (D6,ZD (lk (Zn ls ("M",n) (D5,ZD (lk ls ("M",n)++[m]))) ("m",m)++[n]));show (Zn (Zn ls ("M",n) (D5,ZD (lk ls ("M",n)++[m]))) ("m",m) (D6,ZD (lk (Zn ls ("M",n) (D5,ZD (lk ls ("M",n)++[m]))) ("m",m)++[n]))).length≤_;omega
  ·exact bt4.trans ((bt5.mono (by simp)).trans (bt6.mono (by simp)))
theorem Zn6 (T:Tx K w mg) (Zc9:Zgv P base T) (Y9:UB P base T):Zck P base T:=by
 refine Fun.okX (k:=1) T.Vc.F Zmi (fun vs H Q E h=>h.1) (fun cdv A outer s H vs Q E hr h=>?_);obtain ⟨-,h⟩:=h;obtain ⟨v,x,y,B,rfl,hv,h⟩:=h
 refine ⟨_,(Zk (ZH (XZ (Xb (ZM Zc9 hr Zy (Za (pv 1) Zc)))) (Zm (VN (by rfl) T.m_NoWay T.x_NoWay EB rfl Vx (Za Zs Zc))) ZL)
   (Zk (Yh (Ye (pv 0) T.cl_Book T.Y7.me Y9 (hr.mono (by decide)) T.Y7.b .nil Y5 (Za (pv 2) Zc)))
   (Zm (ZA (VM Zep (by rfl) T.n_list ZaI (Za (JJ (ZX hr) (Xd (pv 0) rfl) (ZZ (Za (pv 1) (Za (pv 2) Zc))) (Ys Zc) ⟨rfl,rfl,rfl,rfl⟩) Zc)))))),?_⟩
 obtain ⟨b,dx,k,bi,li,ti,su,rfl,hB⟩:=id hv;rcases h with ⟨ty,hk,ks,qe⟩|⟨l,rfl,q1,q23⟩
 ·exact ⟨_,rfl,rfl,x,rfl,.inl ⟨ty,hk,ks,_,rfl,Z4 ⟨few rfl,qe⟩⟩⟩
 refine ⟨_,rfl,rfl,.str l,rfl,.inr ⟨l,rfl,_,rfl,?_⟩⟩;cases hl:Uj l with
 |false=>exact Z4 ⟨few rfl,q1 hl⟩
 |true =>
  refine ZY ⟨_,rfl,b,dx,_,rfl,hB.ob,rfl,_,rfl,rfl,.ref b,y,B,rfl,hv,?_⟩;rcases q23 hl with ⟨ty,hk,ks,qe⟩|⟨n,rfl,q2,q3⟩
  ·exact .inl ⟨ty,hk,ks,qe⟩
  refine .inr ⟨n,rfl,q2,fun p hp=>?_⟩;have kn:Known B n:=by unfold Known;rw [hp];simp
  refine ⟨_,rfl,b,T.c_Book,dx,_,_,rfl,hB.ob,T.cl_Book,T.na_Book_links,ZaK,li,rfl,.inr ⟨_,.inl hB.li⟩,_,rfl,_,rfl,few rfl,fun t nt=>⟨few rfl,fun z nz=>?_⟩⟩;have s1:=Zj (o:=.tup [.str l,.str n]) nt;have s2:=Zj (o:=.lst []) nz;have s3:=s1.trans s2;have dg:=DGet.t (k:=Zq (l,n)) (s3 _ _ hB.li) (s2 _ _ (Zf (o:=.tup [.str l,.str n])));rw [show B.linksD=B.links.map fun q=>(Zq q.1,V.ref q.2.1) from rfl,Ws] at dg;refine ⟨_,dg,?_⟩;cases hk:ZC (l,n) B.links with
  |none =>
   have e:YA B l n=[]:=by unfold YA;rw [hk];rfl
   rw [e] at q3;exact ⟨z,[],rfl,.inl (.of Zf),fun D nD=>q3 kn _ D (s3.trans (Zj nD)) (ZK s3 nD) Zf⟩
  |some x =>
   have e:YA B l n=x.2:=by unfold YA;rw [hk];rfl
   rw [e] at q3;obtain ⟨y,hy,ey⟩:=ZcR hk;have hl2:=hB.ll y hy;rw [ey] at hl2;exact ⟨x.1,_,rfl,.inl (.of (s3 _ _ hl2)),fun D nD=>q3 kn _ D (s3.trans (Zj nD)) (ZK s3 nD) Zf⟩
theorem Zm3 (T:Tx K w mg) (Ux:Zb5 P base T) (Y9:UB P base T):ZeC P base T:=by
 refine FunD.okX (k:=1) T.F_Book_stands ZcW (fun vs H Q E h=>h.1) (fun cdv A outer s H vs Q E hr h=>?_);obtain ⟨-,h⟩:=h;obtain ⟨v,a,c,B,rfl,hv,ka,kc,hlen,q⟩:=h
 refine ⟨_,(Zk (Yh (Ye (pv 0) T.cl_Book T.Y7.me Y9 (hr.mono (by decide)) T.Y7.b .nil Y5 (Za (pv 1) Zc)))
   (Zk (Yh (Ye (pv 0) T.cl_Book T.Y7.me Y9 (hr.mono (by decide)) T.Y7.b .nil Y5 (Za (pv 2) Zc)))
   (Zk (Zv (i:=4) ZcW.nd rfl (Or.inl rfl) (JJ (ZX hr) (Xd (pv 0) rfl) (ZM Ux hr Zy (Za (pv 1) (Za (pv 2) Zc))) Vv ⟨rfl,rfl,rfl,rfl⟩))
   (Zk (Zcc (W9 (i:=5) rfl  ZcW.nd rfl (Or.inl rfl) (Xu (N:=["tied_on","day"]) ["day"] [none,some 3] rfl (by decide +kernel) (by decide +kernel) (by rfl) (by rfl) (by rfl) (by rfl) (by rfl)) (Zdg (pv 4)) (fun _ _ _=>(ZS (i:=0) Zoc rfl (Or.inl rfl))) (fun _ _ _=>(Wc (PW.pt (X4 (Zx ZbN (pv 1) VI (Zu _)) (Wu (Zx Zcl (pv 0) (pv 1) (Zu _))))))) (fun _ _ _=>(pv 0))))
   (Zm (ZA (XB (YZ Wn (ZO Yy (by rfl) T.n_len Yd (Za (pv 5) Zc)) Zd (Zu _)) (XE (YZ Z5 (Xp (ZX hr) (pv 4) (ZO (ZkO K rfl) (by rfl) T.n_max Jo (Za (pv 5) Zc)) (fun _ _=>rfl)) Zs (Zu _)))))))))),?_⟩
 obtain ⟨b,dx,k,bi,li,ti,su,rfl,hB⟩:=id hv;refine ⟨_,rfl,b,dx,_,rfl,hB.ob,rfl,_,rfl,rfl,.ref b,.str a,B,rfl,hv,.inr ⟨a,rfl,fun no=>absurd no ka,fun p1 hp1=>?_⟩⟩;refine ⟨_,rfl,b,dx,_,rfl,hB.ob,rfl,_,rfl,rfl,.ref b,.str c,B,rfl,hv,.inr ⟨c,rfl,fun no=>absurd no kc,fun p2 hp2=>?_⟩⟩;dsimp only;refine YN (fun σ' H'=>∃d,σ'=[some (.ref b),some (.str a),some (.str c),some .non,some (.ref d),none]∧Same H H'∧H' d=some (.dK (YQ (Yz B (Zg a c))))) (fun nx hnx=>?_) ?_
 ·refine ⟨_,rfl,b,T.c_Book,dx,_,_,rfl,hB.ob,T.cl_Book,T.na_Book_ties,Zd2,ti,rfl,.inr ⟨_,.inl hB.ti⟩,_,rfl,_,rfl,rfl,a,c,rfl,fun H1 t s1 nt ht=>fun z nz=>?_⟩;have s2:=Zj (o:=.dK []) nz;have s3:=s1.trans s2;have dg:=DGet.t (k:=Zq (Zg a c)) (s3 _ _ hB.ti) (s2 _ _ ht);rw [show B.tiesD=B.ties.map fun q=>(Zq q.1,V.ref q.2.1) from rfl,Jf (f:=Zq) (fun _ _=>WN) (fun p:Addr×List (Int×Str)=>V.ref p.1)] at dg;refine ⟨_,dg,?_⟩;cases hk:ZB (Zg a c) B.ties with
  |none =>
   refine hnx _ _ ⟨z,rfl,s3,?_⟩;have e:Yz B (Zg a c)=[]:=by unfold Yz;rw [hk];rfl
   rw [e];exact Zf
  |some x =>
   refine hnx _ _ ⟨x.1,rfl,s3,?_⟩;have e:Yz B (Zg a c)=x.2:=by unfold Yz;rw [hk];rfl
   rw [e];exact s3 _ _ (hB.tt _ (Va hk))
 rintro σ' H2 ⟨d,rfl,s2,hd⟩;have est:Za7 B a c=YK (Yz B (Zg a c)):=rfl;rw [est] at q;generalize Yz B (Zg a c)=l at *;have llen:(YQ l).length=l.length:=Qd ..;refine ⟨d,YQ l,hd,_,rfl,d,YQ l,rfl,hd,fun o=>WF (l.map fun r=>some (V.int r.1)) (Zw (by rw [Qd];omega)) (fun σ=>∃w,σ=[w,some .non]) ⟨_,rfl⟩ (fun i H3 hi sm=>?go) (fun H3 sm=>?stop) (fun i σ H3 x H4 y hy hσ sm hx C hC=>?step) (fun D H3 nD sm hD=>?fin)⟩
 case go=>exact ⟨sm _ _ Zf,by rw [llen];rw [Qd] at hi;exact hi⟩
 case stop=>exact ⟨sm _ _ Zf,by rw [llen,Qd];exact Qf _⟩
 case step =>
  obtain ⟨w,rfl⟩:=hσ;obtain ⟨rfl,hx2⟩:=hx;rw [Qp] at hy;obtain ⟨r,hr2,rfl⟩:=QH.mp hy
  have ex:x=.int r.1:=by
   unfold YQ at hx2;rw [Qp,hr2] at hx2;exact (Ql hx2).symm
  subst ex;refine ⟨_,rfl,rfl,_,rfl,Yb (by rfl) (Z4 ⟨_,rfl,hC _ _ ⟨_,rfl⟩ (Same.refl _)⟩)⟩
 case fin =>
  have ef:(l.map fun r=>some (V.int r.1)).filterMap id=(l.map (·.1)).map V.int:=by
   rw [Ni,QT];exact List.filterMap_eq_map▸rfl
  rw [ef] at hD;refine ⟨o,sm _ _ Zf,?_⟩;have nDd:D≠d:=fun e=>by subst e;rw [Zf] at nD;cases nD
  have hD4:(Zb H3 d (.dK (YQ l))) D=some (.lst ((l.map (·.1)).map V.int)):=(Ze nDd).trans hD;have hd4:(Zb H3 d (.dK (YQ l))) d=some (.dK (YQ l)):=Zf
  have s4:Same H2 (Zb H3 d (.dK (YQ l))):=fun x u e=>by
   by_cases xd:x=d
   ·subst xd;rw [hd] at e;cases e;exact hd4
   ·rw [Ze xd];exact sm _ _ ((Ze xd).trans e)
  generalize Zb H3 d (.dK (YQ l))=H5 at *;refine ⟨_,rfl,D,_,rfl,.inl (.of hD4),_,_,rfl,rfl,_,rfl,?_⟩;rw [Qd,Qd];cases l with
  |nil=>exact ZY (q _ (s2.trans s4))
  |cons r0 l0 =>
   refine Yb (Qo (by rw [QM];omega)) ⟨_,rfl,_,rfl,D,(r0::l0).map (·.1),rfl,.of hD4,by simp,fun m hm hx=>?_⟩;obtain ⟨x,ex⟩:=Zi9 hm;have dg:=DGet.k (k:=.inl m) hd4;rw [show YQ (r0::l0)=(r0::l0).map fun q=>((.inl q.1:Zi),V.str q.2) from rfl,Jf (f:=(Sum.inl:Int->Zi)) Zeg V.str,ex] at dg;have q2:=q _ (s2.trans s4);rw [Zd4 hm hx ex] at q2;refine ⟨d,.str x,rfl,dg,rfl,?_⟩;rw [Xl];exact q2
theorem Zih (T:Tx K w mg) (Ux:Zb5 P base T) (XI:Zaa P base T) (Ut:Zck P base T) (ZdI:ZeC P base T):ZfX P base T:=by
 refine Fun.okX (k:=2) T.UF.F ZaU (fun vs H Q E h=>h.1) (fun cdv A outer s H vs Q E hr h=>?_);obtain ⟨-,h⟩:=h;obtain ⟨b,dx,k,bi,li,ti,su,B,a,kd,p1,p2,d,rfl,hE,hB,k1,k2,nd,tl,dl,ll,lf,q⟩:=h
 refine ⟨_,(Zk (Zv (i:=2) ZaU.nd rfl (Or.inl rfl) (JU (ZX hr) (Xd (pv 0) rfl) (ZM Ux hr Zy (Za (Zl Zp (pv 1) Zd (fun _ _=>rfl)) (Za (Zl Zp (pv 1) Zd (fun _ _=>rfl)) Zc))) Vv ⟨rfl,rfl,rfl,rfl⟩))
   (Zk (Xz (ZX hr) (pv 2) (Zl Zp (pv 1) Zd (fun _ _=>rfl)) (Zl Zp (pv 1) Zd (fun _ _=>rfl)) rfl)
   (Zm (Yu QG rfl (Uy (ZZ (Za (ZZ (Za (Zl Zp (pv 1) Zd (fun _ _=>rfl)) (Za (Zl Zp (pv 1) Zd (fun _ _=>rfl)) Zc))) (Za (ZZ (Za (Zl Zp (pv 1) Zd (fun _ _=>rfl)) (Za (Zl Zp (pv 1) Zd (fun _ _=>rfl)) Zc))) Zc)))) (Jk rfl (Wz (ZS (i:=3) ZaU.nd rfl (Or.inl rfl)) (Wz (ZS (i:=4) ZaU.nd rfl (Or.inr rfl)) UV)))
    (Zk (Xz (ZX hr) (Xd (pv 0) rfl) (ZZ (Za Zs (Za (pv 3) Zc))) (W3 rfl (Xu (N:=["name","end"]) ["end"] [none,some 4] rfl (by decide +kernel) (by decide +kernel) (by rfl) (by rfl) (by rfl) (by rfl) (by rfl)) (YJ (Ye (pv 0) T.cl_Book T.Vc.me Ut (hr.mono (by decide)) T.Vc.b .nil Zy (Za Zs (Za (pv 3) Zc)))) (fun _ _ _=>(ZS (i:=0) ZmC rfl (Or.inl rfl))) (fun _ _ _=>(Wc (Zx WR (pv 0) (pv 1) (Zu _)))) (fun _ _ _=>(pv 0))) rfl)
   (Zm (ZH (Xb (Ye (pv 0) T.cl_Book T.me_Book_stands ZdI (hr.mono (by decide)) T.b_Book_stands (.cons (show RelV V.non Value.none from rfl) .nil) Zy (Za (pv 3) (Za (pv 4) Zc)))) (Zm (Yh (Ye (pv 0) T.cl_Book T.YX.me XI (hr.mono (by decide)) T.YX.b .nil Zy (Za Zs (Za (pv 3) (Za (pv 4) Zc)))))) ZL))))))),?_⟩
 refine YN (fun σ' H'=>∃y ts,σ'=[some (.ref b),some (.ref a),some (.ref y),none,none]∧BkAt K T.c_Book H' b dx k bi li ti su { B with ties:=ts }∧(ts.map (·.1)).Nodup∧ts.length≤B.ties.length+1∧ZB (Zg p1 p2) ts=some (y,Yz B (Zg p1 p2))∧(∀c,YR ts c=Yz B c)∧But [li,ti,y] H H'∧(H y=none∨y∈B.ties.map (·.2.1))∧GrowsT H B.ties ts∧SqT K H' a [.str kd,.str p1,.str p2,.int d]) (fun nx hnx=>?_) ?_
 ·refine ⟨_,rfl,b,T.c_Book,dx,_,_,rfl,hB.ob,T.cl_Book,T.na_Book_ties,Zd2,ti,rfl,.inr ⟨_,.inl hB.ti⟩,_,rfl,a,_,_,_,rfl,rfl,hE,Zh (j:=1) rfl,_,rfl,a,_,_,_,rfl,rfl,hE,Zh (j:=2) rfl,rfl,p1,p2,rfl,fun H1 t s1 nt ht=>fun z nz=>?_⟩;have s2:=Zj (o:=.dK []) nz;have s3:=s1.trans s2;have hB1:=hB.mono s1;have hB3:=hB.mono s3;have hlen:B.tiesD.length=B.ties.length:=Qd ..;have hval:ZN B.tiesD (Zq (Zg p1 p2))=(ZB (Zg p1 p2) B.ties).map fun p=>V.ref p.1:=Jf (f:=Zq) (fun _ _=>WN) (fun p:Addr×List (Int×Str)=>V.ref p.1) _ _;refine ⟨_,Zq (Zg p1 p2),t,hB3.ti,rfl,s2 _ _ ht,by rw [hlen];exact Zw (by omega),fun v hv=>?_,fun hn=>?_⟩
  ·rw [hval] at hv;obtain ⟨x,hk,rfl⟩:=QH.mp hv;have e:Yz B (Zg p1 p2)=x.2:=by unfold Yz;rw [hk];rfl
   exact hnx _ _ ⟨x.1,B.ties,rfl,hB3,nd,by omega,by rw [hk,e],fun c=>rfl,But.of _ s3,.inr (Qj.mpr ⟨_,Va hk,rfl⟩),GrowsT.refl _ _,s3.sqt hE⟩
  ·rw [hval] at hn;have hk:ZB (Zg p1 p2) B.ties=none:=by simpa using hn
   have e:Yz B (Zg p1 p2)=[]:=by unfold Yz;rw [hk];rfl
   have zn:∀{x:Addr} {o:HO},H1 x=some o->x≠z:=fun h=>ZU h nz;refine hnx _ _ ⟨z,B.ties++[(Zg p1 p2,z,[])],rfl,hB3.newTie Zf ⟨(zn hB1.bi).symm,fun q hq=>zn (hB1.tt q hq)⟩ _,?_,by rw [Qw];exact Qf _,?_,fun c=>ZhL _ _ _ _ hk,?_,.inl (ZK s1 nz),(fun a ha=>by rw [Qq] at ha;exact (Qm.mp ha).imp id (fun ha=>by rw [show a=z by simpa using ha];exact ZK s1 nz)),?_⟩
   ·rw [Qq,Rc];refine ⟨nd,by simp,fun x hx w hw ex=>?_⟩;have ew:w=Zg p1 p2:=by simpa using hw
    subst ew ex;obtain ⟨p,hp,ep⟩:=Qj.mp hx;have:=Zau hk;rw [Nb] at this;exact absurd (Qo ep) (this p hp)
   ·rw [ZaC,hk,e];unfold ZB;rw [Qc rfl];rfl
   ·exact (But.of _ s3).trans (But.put hB3.ti (by simp))
   ·exact YH (s3.sqt hE) hB3.ti (fun _ z=>by cases z) (fun _ _ z=>by cases z)
 rintro σ' H1 ⟨y,ts,rfl,hB1,JF,tl1,hf,htf,bt1,hy0,grT,hE1⟩;generalize hl:Yz B (Zg p1 p2)=l at *;have hy:H1 y=some (.dK (YQ l)):=hB1.tt _ (Va hf);have hB2:=hB1.putTie JF hf (Zn l d kd);obtain ⟨pa1,pa2⟩:=ZgY (l':=Zn l d kd) JF hf;have grT2:GrowsT H B.ties (Zn ts (Zg p1 p2) (y,Zn l d kd)):=fun a ha=>grT a (by rw [←pa1];exact ha)
 have tl2:(Zn ts (Zg p1 p2) (y,Zn l d kd)).length=ts.length:=by
  have:=Qu List.length pa1
  rwa [Qd,Qd] at this
 have htf2:∀c,YR (Zn ts (Zg p1 p2) (y,Zn l d kd)) c=if c=Zg p1 p2 then Zn l d kd else Yz B c:=fun c=>by rw [ZkS,htf]
 have nd2:((Zn ts (Zg p1 p2) (y,Zn l d kd)).map (·.1)).Nodup:=by rw [pa2];exact JF
 have hE2:SqT K (Zb H1 y (.dK (YQ (Zn l d kd)))) a [.str kd,.str p1,.str p2,.int d]:=YH hE1 hy (fun _ z=>by cases z) (fun _ _ z=>by cases z);have bt2:But [li,ti,y] H (Zb H1 y (.dK (YQ (Zn l d kd)))):=bt1.trans (But.put hy (by simp));have dlen:(YQ l).length=l.length:=Qd ..;refine ⟨_,rfl,a,_,_,_,rfl,rfl,hE1,Zh (j:=0) rfl,_,rfl,_,rfl,a,_,_,_,rfl,rfl,hE1,Zh (j:=3) rfl,y,_,rfl,DPut.k (k:=.inl d) hy (by rw [dlen];exact Zw (by omega)),?_⟩;rw [show Yl (YQ l) (.inl d) (.str kd)=YQ (Zn l d kd) from UO (f:=(Sum.inl:Int->Zi)) Zeg V.str l d kd];generalize Zb H1 y (.dK (YQ (Zn l d kd)))=H2 at *;generalize Zn ts (Zg p1 p2) (y,Zn l d kd)=ts2 at *;generalize hst:YK (Zn l d kd)=st at *;have ldl:(Zn l d kd).length≤801:=by have:=XF l d kd;omega
 refine ⟨_,rfl,a,_,_,_,rfl,rfl,hE2,Zh (j:=1) rfl,_,rfl,a,_,_,_,rfl,rfl,hE2,Zh (j:=2) rfl,few rfl,fun t1 nt1=>?_⟩;have s1:=Zj (o:=.tup [.str p1,.str p2]) nt1;refine ⟨_,rfl,a,_,_,_,rfl,rfl,(s1.sqt hE2),Zh (j:=2) rfl,_,rfl,a,_,_,_,rfl,rfl,(s1.sqt hE2),Zh (j:=1) rfl,few rfl,fun t2 nt2=>?_⟩;have s2:=Zj (o:=.tup [.str p2,.str p1]) nt2;refine ⟨few rfl,fun t3 nt3=>?_⟩;have s3:=Zj (o:=.tup [.ref t1,.ref t2]) nt3;have s123:=s1.trans (s2.trans s3);refine ⟨t3,rfl,⟨_,.of Zf⟩,Zap (xs:=[.ref t1,.ref t2]) (fun i σ H5=>∃ls v3 v4,σ=[some (.ref b),some (.ref a),some (.ref y),v3,v4]∧BkAt K T.c_Book H5 b dx k bi li ti su { B with links:=ls,ties:=ts2 }∧(∀c,lk ls c=(match i with|0=>lk B.links|1=>ZJ (lk B.links) st p1 p2|_=>ZJ (ZJ (lk B.links) st p1 p2) st p2 p1) c)∧ls.length≤B.links.length+2*i∧But [li,ti,y] H H5∧SqT K H5 t1 [.str p1,.str p2]∧SqT K H5 t2 [.str p2,.str p1]∧SqT K H5 t3 [.ref t1,.ref t2]∧Grows H B.links ls) ?start ?list ?turn ?done⟩
 case start=>exact ⟨B.links,none,none,rfl,hB2.mono s123,fun c=>rfl,by omega,bt2.trans (But.of _ s123),(s2.trans s3).sqt (.of Zf),s3.sqt (.of Zf),.of Zf,Grows.refl _ _⟩
 case list =>
  rintro i σ H5 _ ⟨ls,v3,v4,rfl,_,_,_,_,_,_,h3,_⟩;exact h3
 case done =>
  rintro σ H5 ⟨ls,v3,v4,rfl,hB5,hlk,hls,bt5,_,_,_,gr⟩;exact q H5 ls ts2 y hB5 nd2 (by omega) htf2 hlk (by simp at hls;omega) bt5 hy0 grT2 gr
 case turn =>
  rintro i x σ H5 hx ⟨ls,v3,v4,rfl,hB5,hlk,hls,bt5,h1,h2,h3,gr⟩
  have pick:∃tq u w,x=.ref tq∧SqT K H5 tq [.str u,.str w]∧Known B u∧Known B w∧Zg u w=Zg p1 p2∧i≤1∧∀F:Str×Str->List Str,(∀c,F c=ZJ (match i with|0=>lk B.links|1=>ZJ (lk B.links) st p1 p2|_=>ZJ (ZJ (lk B.links) st p1 p2) st p2 p1) st u w c)->∀c,F c=(match i+1 with|0=>lk B.links|1=>ZJ (lk B.links) st p1 p2|_=>ZJ (ZJ (lk B.links) st p1 p2) st p2 p1) c:=by
   match i,hx with
   |0,hx=>exact ⟨t1,p1,p2,(Ql hx).symm,h1,k1,k2,rfl,by omega,fun F hF=>hF⟩
   |1,hx=>exact ⟨t2,p2,p1,(Ql hx).symm,h2,k2,k1,ZcS p2 p1,by omega,fun F hF=>hF⟩
  obtain ⟨tq,u,w,rfl,hq,ku,kw,hpr,i1,hG⟩:=pick
  have gl:∀c,((match i with|0=>lk B.links|1=>ZJ (lk B.links) st p1 p2|_=>ZJ (ZJ (lk B.links) st p1 p2) st p2 p1) c).length≤61:=by
   intro c
   match i,i1 with
   |0,_=>have:=lf c;exact NJ this
   |1,_=>exact Qn (ZcD ..) (by have:=lf c;omega)
  generalize (match i with|0=>lk B.links|1=>ZJ (lk B.links) st p1 p2|_=>ZJ (ZJ (lk B.links) st p1 p2) st p2 p1)=G at *;refine ⟨tq,_,rfl,hq,rfl,_,_,rfl,_,_,rfl,rfl,?_⟩;dsimp only [Z2];refine YN (fun σ' H'=>∃D2,σ'=[some (.ref b),some (.ref a),some (.ref y),some (.str u),some (.str w)]∧BkAt K T.c_Book H' b dx k bi li ti su { B with links:=Zn ls ("S",u) (D2,(G ("S",u)).filter fun n=>decide (n≠w)),ties:=ts2 }∧But [li,ti,y] H H'∧SqT K H' t1 [.str p1,.str p2]∧SqT K H' t2 [.str p2,.str p1]∧SqT K H' t3 [.ref t1,.ref t2]∧H D2=none) (fun nx hnx=>?_) ?_
  ·refine ⟨_,rfl,b,dx,_,rfl,hB5.ob,rfl,_,rfl,rfl,.ref b,.str "S",.str u,_,rfl,⟨b,dx,k,bi,li,ti,su,rfl,hB5⟩,.inr ⟨"S",rfl,fun h=>absurd h (by decide +kernel),fun _=>.inr ⟨u,rfl,fun no=>absurd no ku,fun _ H6 D s6 nD hD0=>?_⟩⟩⟩;have eL:YA { B with links:=ls,ties:=ts2 } "S" u=G ("S",u):=hlk ("S",u);rw [eL] at hD0;have hD:SqL K H6 D ((G ("S",u)).map V.str):=.of hD0;refine ⟨D,rfl,⟨_,hD⟩,WF ((G ("S",u)).map (Vz w)) (Zw (by rw [Qd];have:=gl ("S",u);omega)) (fun σ=>∃v,σ=[v,some (.str w)]) ⟨_,rfl⟩ (fun j H7 hj sm=>?go) (fun H7 sm=>?stop) (fun j σ H7 x H8 o ho hσ sm hx C hC=>?step) (fun D2 H7 nD2 sm hD2=>?fin)⟩
   case go=>exact ⟨_,_,sm.sql hD,Qt (by rw [Qd] at hj ⊢;exact hj)⟩
   case stop=>exact ⟨_,sm.sql hD,by rw [Qd,Qd];exact Qf _⟩
   case step =>
    obtain ⟨v,rfl⟩:=hσ;obtain ⟨rfl,hx2⟩:=hx;have e1:=hx2 _ (sm.sql hD);rw [Qp] at e1 ho;obtain ⟨n,hn,rfl⟩:=QH.mp e1;rw [hn] at ho;obtain rfl:Vz w n=o:=Ql ho;refine ⟨_,rfl,_,rfl,rfl,_,rfl,?_⟩;by_cases hz0:n=w
    ·have e2:Vz w n=none:=Qc hz0;rw [e2] at hC;exact Zt (by show (!decide (V.str n=V.str w))=false;rw [Xl,Qo hz0];rfl) (hC _ _ ⟨_,rfl⟩ (Same.refl _))
    ·have e2:Vz w n=some (.str n):=Qa hz0;rw [e2] at hC;exact Yb (by show (!decide (V.str n=V.str w))=true;rw [Xl,Qk hz0];rfl) ⟨_,rfl,hC _ _ ⟨_,rfl⟩ (Same.refl _)⟩
   case fin =>
    rw [ZfV] at hD2;have s67:=s6.trans sm;have hB7:=hB5.mono s67;refine ⟨_,rfl,b,T.c_Book,dx,_,_,rfl,hB7.ob,T.cl_Book,T.na_Book_links,ZaK,_,rfl,few rfl,fun t nt=>?_⟩;have s8:=Zj (o:=.tup [.str "S",.str u]) nt;have hB8:=hB7.mono s8;have llen:({ B with links:=ls,ties:=ts2 }:Bk).linksD.length=ls.length:=Qd ..;refine ⟨li,_,rfl,DPut.t (k:=Zq ("S",u)) hB8.li Zf (by rw [llen];exact Zw (by omega)),?_⟩;rw [show ({ B with links:=ls,ties:=ts2 }:Bk).linksD=ls.map fun q=>(Zq q.1,V.ref q.2.1) from rfl,UO (f:=Zq) (fun _ _=>WN) (fun p:Addr×List Str=>V.ref p.1) ls ("S",u) (D2,(G ("S",u)).filter fun n=>decide (n≠w))];have li8:=hB8.li;have kp:∀{c:Addr} {xs:List V},SqT K H5 c xs->SqT K (Zb (Zb H7 t (.tup [.str "S",.str u])) li (.dT ((Zn ls ("S",u) (D2,(G ("S",u)).filter fun n=>decide (n≠w))).map fun q=>(Zq q.1,V.ref q.2.1)))) c xs:=fun h=>YH ((s67.trans s8).sqt h) li8 (fun _ z=>by cases z) (fun _ _ z=>by cases z);refine hnx _ _ ⟨D2,rfl,hB8.links fun q hq=>?_,bt5.trans ((But.of _ (s67.trans s8)).trans (But.put li8 (by simp))),kp h1,kp h2,kp h3,bt5.al _ (ZK s6 nD2)⟩;rcases UW hq with rfl|hq
    ·exact s8 _ _ hD2
    ·exact hB8.ll q hq
  ·rintro σ' H6 ⟨D2,rfl,hB6,bt6,g1,g2,g3,n2⟩;have pl:=XF ls ("S",u) (D2,(G ("S",u)).filter fun n=>decide (n≠w));have lk6:∀c,lk (Zn ls ("S",u) (D2,(G ("S",u)).filter fun n=>decide (n≠w))) c=if c=(("S",u):Str×Str) then (G ("S",u)).filter (fun n=>decide (n≠w)) else G c:=fun c=>by rw [Zha,hlk]
   have et:Yz { B with links:=Zn ls ("S",u) (D2,(G ("S",u)).filter fun n=>decide (n≠w)),ties:=ts2 } (Zg u w)=Zn l d kd:=by
    rw [ZmN];show YR ts2 (Zg u w)=_;rw [htf2,Qc hpr]
   have es:Za7 { B with links:=Zn ls ("S",u) (D2,(G ("S",u)).filter fun n=>decide (n≠w)),ties:=ts2 } u w=st:=by
    unfold Za7;rw [et,hst]
   refine ⟨_,rfl,b,dx,_,rfl,hB6.ob,rfl,_,rfl,_,rfl,rfl,.ref b,u,w,_,rfl,⟨b,dx,k,bi,li,ti,su,rfl,hB6⟩,ku,kw,by rw [et];omega,fun H7 s7=>⟨_,rfl,?_⟩⟩;rw [es];have hB7:=hB6.mono s7;have bt7:=bt6.trans (But.of _ s7);refine YB (fun hs=>?_) (fun hs=>?_)
   ·have la:YA { B with links:=Zn ls ("S",u) (D2,(G ("S",u)).filter fun n=>decide (n≠w)),ties:=ts2 } "S" u=(G ("S",u)).filter fun n=>decide (n≠w):=by
     rw [VH];show lk (Zn ls ("S",u) _) ("S",u)=_;rw [lk6,Qc rfl]
    refine ⟨_,rfl,b,dx,_,rfl,hB7.ob,rfl,_,rfl,_,rfl,rfl,b,dx,k,bi,li,ti,su,_,"S",u,w,rfl,hB7,?_,?_,fun H8 D8 hB8 bt8 nD8=>?_⟩
    ·rw [la];exact Qn (GX ..) (gl _)
    ·show (Zn ls ("S",u) _).length≤900;omega
    ·have li7:=hB7.li
     have kp:∀{c:Addr} {xs:List V},SqT K H7 c xs->SqT K H8 c xs:=fun {c xs} h=>by
      rcases h with (h|⟨o,h⟩)|h
      ·exact .inl (.inl (bt8.eq _ _ (fun z=>by rw [show c=li by simpa using z,li7] at h;cases h) h))
      ·exact .inl (.inr ⟨o,bt8.eq _ _ (fun z=>by rw [show c=li by simpa using z,li7] at h;cases h) h⟩)
      ·exact .inr h
     rw [la] at hB8;refine ⟨_,_,_,rfl,hB8,hG _ fun c=>?_,?_,bt7.trans (bt8.mono (by simp)),kp (s7.sqt g1),kp (s7.sqt g2),kp (s7.sqt g3),(gr.put n2).put (bt7.al _ nD8)⟩
     ·rw [Zha];unfold ZJ;by_cases ec:c=(("S",u):Str×Str)
      ·subst ec;rw [Qc rfl,Qc rfl,Qc hs]
      ·rw [Qa ec,Qa ec,lk6,Qa ec]
     ·have p2:=XF (Zn ls ("S",u) (D2,(G ("S",u)).filter fun n=>decide (n≠w))) ("S",u) (D8,ZD ((G ("S",u)).filter (fun n=>decide (n≠w))++[w]));show (Zn (Zn ls ("S",u) _) ("S",u) _).length≤_;omega
   ·refine ⟨_,_,_,rfl,hB7,hG _ fun c=>?_,by show (Zn ls ("S",u) _).length≤_;omega,bt7,s7.sqt g1,s7.sqt g2,s7.sqt g3,gr.put n2⟩;rw [lk6];unfold ZJ;by_cases ec:c=(("S",u):Str×Str)
    ·subst ec;rw [Qc rfl,Qc rfl,Qa (by rw [hs];decide)]
    ·rw [Qa ec,Qa ec]
theorem ZjT (T:Tx K w mg) (UK:Zdk P base T) (Uc:ZdC P base T) (Ub:ZdB P base T) (ZcZ:Zfd P base T) (XI:Zaa P base T) (Zcw:Zgs P base T) (ZcO:ZfX P base T):ZgF P base T:=by
 refine Fun.okX (k:=5) T.WE.F Zc5 (fun vs H Q E h=>h.1) (fun cdv A outer s H vs Q E hr h=>?_);obtain ⟨-,h⟩:=h;obtain ⟨b,dx,k,bi,li,ti,su,B,x,e,rfl,hB,hx,ok,no,rm,q⟩:=h
 refine ⟨_,(Zk (Yh (Ye (pv 0) T.cl_Book T.Uf.me ZcZ (hr.mono (by decide)) T.Uf.b .nil Y5 (Za (pv 1) Zc)))
   (Zk (Zv (i:=2) Zc5.nd rfl (Or.inl rfl) (ZM Uc hr Zy (Za (pv 1) Zc)))
   (Zk (Xz (ZX hr) (Xd (pv 0) rfl) (ZM Ub hr Zy (Za (pv 2) Zc)) (pv 2) rfl)
   (Zm (ZH (Zx Z5 (Zl Zp (pv 2) Zd (fun _ _=>rfl)) Zs (Zu _)) (Zm (Yh (Ye (pv 0) T.cl_Book T.Uw.me Zcw (hr.mono (by decide)) T.Uw.b .nil Zy (Za (pv 2) Zc)))) (Zm (ZH (Zx Z5 (Zl Zp (pv 2) Zd (fun _ _=>rfl)) Zs (Zu _)) (Zk (Yh (Ye (pv 0) T.cl_Book T.YX.me XI (hr.mono (by decide)) T.YX.b .nil Zy (Za Zs (Za (Zl Zp (pv 2) Zd (fun _ _=>rfl)) (Za (Zl Zp (pv 2) Zd (fun _ _=>rfl)) Zc)))))
   (Zm (Yh (Ye (pv 0) T.cl_Book T.YX.me XI (hr.mono (by decide)) T.YX.b .nil Zy (Za Zs (Za (Zl Zp (pv 2) Zd (fun _ _=>rfl)) (Za (Zl Zp (pv 2) Zd (fun _ _=>rfl)) Zc))))))) (Zm (ZH (Zx Z5 (Zl Zp (pv 2) Zd (fun _ _=>rfl)) Zs (Zu _)) (Zk (Zv (i:=3) Zc5.nd rfl (Or.inl rfl) (ZZ (Za (Zl Zp (pv 2) Zd (fun _ _=>rfl)) (Za (Zl Zp (pv 2) Zd (fun _ _=>rfl)) Zc))))
   (Zm (Xz (ZX hr) (Xd (pv 0) rfl) (pv 3) (Zo YT (JJ (ZX hr) (Xd (pv 0) rfl) (pv 3) Zd ⟨rfl,rfl,rfl,rfl⟩) (Zl Zp (pv 2) Zd (fun _ _=>rfl))) rfl))) (Zm (ZH (Xb (ZM UK hr Zy (Za (pv 2) Zc))) (Zm (Yh (Ye (pv 0) T.cl_Book T.UF.me ZcO (hr.mono (by decide)) T.UF.b .nil Zy (Za (pv 2) Zc)))) ZL))))))))))),?_⟩
 refine ⟨_,rfl,b,dx,_,rfl,hB.ob,rfl,_,rfl,rfl,.ref b,x,B,e,rfl,⟨b,dx,k,bi,li,ti,su,rfl,hB⟩,hx,ok,no,fun H1 s1=>?_⟩;obtain ⟨hno,hk400,kn⟩:=Ze5 no;refine ⟨_,rfl,rfl,x,e,rfl,hx.mono s1,fun H2 u s2 hu=>?_⟩;obtain ⟨a,rfl,hA⟩:=hu;have s12:=s1.trans s2;have hB2:=hB.mono s12;have klen:B.keptD.length=B.kept.length:=Qd ..;refine ⟨_,rfl,_,rfl,b,T.c_Book,dx,_,_,rfl,hB2.ob,T.cl_Book,T.na_Book_kept,ZbC,_,rfl,rfl,.ref a,e.told,rfl,⟨a,rfl,hA⟩,fun H3 p s3 np hp=>⟨k,_,rfl,DPut.t (k:=e.told.told.key) (s3 _ _ hB2.ke) hp (by rw [klen];exact Zw (by omega)),?_⟩⟩;rw [ZaF,US _ hno];have s13:=s12.trans s3;have hB3:=hB.mono s13;have hA3:=s3.sqt hA;have kn2:∀n∈e.told.named,Known B n:=fun n hn=>kn n (Zfw e n hn);have tk:∀(e':Ent),e.told=e'->e'.told=e':=fun e' h=>by rw [←h,ZaF]
 have pt:∀{B':Bk} (e':Ent),e.told=e'->(∀c,Y2 B'.sums c=Zbj (Y2 B.sums) e' c)->(∃a,B'.kept=B.kept++[(e',a)])->(∀c,lk B'.links c=WK (lk B.links) (YR B.ties) e' c)->(∀c,YR B'.ties c=UE (YR B.ties) e' c)->(B'.ties.map (·.1)).Nodup->B'.links.length≤B.links.length+4->B'.ties.length≤B.ties.length+1->B'.sums.length≤B.sums.length+1->Put B e B':=fun {B'} e' h=>by
  subst h;exact Put.mk
 generalize e.told=e' at *;have hK:=hB3.kept (e:=e') hA3;have kb:k≠bi:=YF hB3.ke hB3.bi (fun z=>by cases z);have hA4:SqT K (Zb H3 k (.dT (B.keptD++[(e'.key,.ref a)]))) a (e'.row.map kV):=YH hA3 hB3.ke (fun _ z=>by cases z) (fun _ _ z=>by cases z);have btk:But [k,bi,li,ti,su] H (Zb H3 k (.dT (B.keptD++[(e'.key,.ref a)]))):=(But.of _ s13).trans (But.put hB3.ke (by simp));have hbi:(Zb H3 k (.dT (B.keptD++[(e'.key,.ref a)]))) bi=some (.dK (Bk.bornD B.kept)):=(Ze kb.symm).trans hB3.bi;have hob:(Zb H3 k (.dT (B.keptD++[(e'.key,.ref a)]))) b=some (.ins T.c_Book dx (WY k bi li ti su)):=(Ze (YF hB3.ob hB3.ke (fun z=>by cases z))).trans hB3.ob
 have hKn:e'.isBorn=false->BkAt K T.c_Book (Zb H3 k (.dT (B.keptD++[(e'.key,.ref a)]))) b dx k bi li ti su { B with kept:=B.kept++[(e',a)] }:=fun nb=>by
  rw [Znj nb,Zke hbi] at hK;exact hK
 have fresh:∀{y:Addr},H3 y=none->(H y=none∨∃w,H y=some (.dK w)):=fun h=>.inl (ZK s13 h);generalize hH4:Zb H3 k (.dT (B.keptD++[(e'.key,.ref a)]))=H4 at *;dsimp only;have hbiH:∃w,H bi=some (.dK w):=⟨_,hB.bi⟩;cases e' with
 |born n s d f m =>
  refine ⟨_,rfl,a,_,_,_,rfl,rfl,hA4,Zh (j:=0) rfl,rfl,_,rfl,Yb (by decide +kernel) ?_⟩;refine ⟨_,rfl,b,dx,_,rfl,hob,rfl,_,rfl,rfl,b,dx,k,bi,li,ti,su,B.kept,{ B with kept:=B.kept++[(.born n s d f m,a)] },n,s,d,f,m,a,rfl,rfl,hob,hbi,ZlY hno,by omega,hA4,hK,Qn rm.nl (by omega),fun c=>Qn (rm.ll c) (by omega),fun H5 ls hB5 hlk hls bt5 gr5=>?_⟩;exact q H5 _ bi hB5 (pt _ rfl (fun c=>rfl) ⟨a,rfl⟩ hlk (fun c=>rfl) rm.nd hls (QU _) (QU _)) ((btk.mono (by simp)).trans (bt5.mono (by simp))) (.inr (.inl rfl)) (gr5.back btk.al) (GrowsT.refl _ _)
 |taken c t d =>
  have hB4:=hKn rfl;have hmem:((.taken c t d,a):Ent×Addr)∈B.kept++[(.taken c t d,a)]:=by simp
  refine ⟨_,rfl,a,_,_,_,rfl,rfl,hA4,Zh (j:=0) rfl,rfl,_,rfl,Zt (by decide +kernel) ⟨_,rfl,a,_,_,_,rfl,rfl,hA4,Zh (j:=0) rfl,rfl,_,rfl,Yb (by decide +kernel) ?_⟩⟩;refine ⟨_,rfl,b,dx,_,rfl,hob,rfl,_,rfl,a,_,_,_,rfl,rfl,hA4,Zh (j:=1) rfl,_,rfl,a,_,_,_,rfl,rfl,hA4,Zh (j:=2) rfl,rfl,b,dx,k,bi,li,ti,su,_,"T",c,t,rfl,hB4,Qn (rm.ll _) (by omega),Qn rm.nl (by omega),fun H5 D5 hB5 bt5 nD5=>?_⟩;have hA5:=hB5.en _ hmem
  have l5:lk (Zn B.links ("T",c) (D5,ZD (lk B.links ("T",c)++[t]))) ("t",t)=lk B.links ("t",t):=by
   rw [WX];exact JR (show ("t" : Str)≠"T" by decide +kernel)
  have n5:=XF B.links ("T",c) (D5,ZD (lk B.links ("T",c)++[t]));have rl:=rm.nl;refine ⟨_,rfl,b,dx,_,rfl,hB5.ob,rfl,_,rfl,a,_,_,_,rfl,rfl,hA5,Zh (j:=2) rfl,_,rfl,a,_,_,_,rfl,rfl,hA5,Zh (j:=1) rfl,rfl,b,dx,k,bi,li,ti,su,_,"t",t,c,rfl,hB5,?_,?_,fun H6 D6 hB6 bt6 nD6=>?_⟩
  ·rw [VH];show (lk (Zn B.links ("T",c) (D5,ZD (lk B.links ("T",c)++[t]))) ("t",t)).length≤61;rw [l5];exact Qn (rm.ll _) (by omega)
  ·show (Zn B.links ("T",c) (D5,ZD (lk B.links ("T",c)++[t]))).length≤900;omega
  ·refine q H6 _ bi hB6 (pt _ rfl (fun c=>rfl) ⟨a,rfl⟩ (fun x=>?_) (fun c=>rfl) rm.nd ?_ (QU _) (QU _)) ((btk.mono (by simp)).trans ((bt5.mono (by simp)).trans (bt6.mono (by simp)))) (.inr (.inl rfl)) (((Grows.refl _ _).put (btk.al _ nD5)).put (btk.al _ (bt5.al _ nD6))) (GrowsT.refl _ _)
   ·show lk (Zn (Zn B.links ("T",c) (D5,ZD (lk B.links ("T",c)++[t]))) ("t",t) (D6,ZD (lk (Zn B.links ("T",c) (D5,ZD (lk B.links ("T",c)++[t]))) ("t",t)++[c]))) x=_;rw [WX];exact Jc (fun y=>WX ..) ..
   ·have n6:=XF (Zn B.links ("T",c) (D5,ZD (lk B.links ("T",c)++[t]))) ("t",t) (D6,ZD (lk (Zn B.links ("T",c) (D5,ZD (lk B.links ("T",c)++[t]))) ("t",t)++[c]));show (Zn (Zn B.links ("T",c) (D5,ZD (lk B.links ("T",c)++[t]))) ("t",t) (D6,ZD (lk (Zn B.links ("T",c) (D5,ZD (lk B.links ("T",c)++[t]))) ("t",t)++[c]))).length≤_;omega
 |given g t am d =>
  have hB4:=hKn rfl;have rs:=rm.ns;refine ⟨_,rfl,a,_,_,_,rfl,rfl,hA4,Zh (j:=0) rfl,rfl,_,rfl,Zt (by decide +kernel) ⟨_,rfl,a,_,_,_,rfl,rfl,hA4,Zh (j:=0) rfl,rfl,_,rfl,Zt (by decide +kernel) ⟨_,rfl,a,_,_,_,rfl,rfl,hA4,Zh (j:=0) rfl,rfl,_,rfl,Yb (by decide +kernel) ?_⟩⟩⟩;refine ⟨_,rfl,a,_,_,_,rfl,rfl,hA4,Zh (j:=1) rfl,_,rfl,a,_,_,_,rfl,rfl,hA4,Zh (j:=2) rfl,few rfl,fun pg npg=>?_⟩;have s5:=Zj (o:=.tup [.str g,.str t]) npg;have hB5:=hB4.mono s5;have hA5:=s5.sqt hA4;have dg:=DGet.t (k:=Zq (g,t)) hB5.su (Zf (o:=.tup [.str g,.str t]));have hval:ZN ({ B with kept:=B.kept++[(.given g t am d,a)] }:Bk).sumsD (Zq (g,t))=(ZB (g,t) B.sums).map V.int:=Jf (f:=Zq) (fun _ _=>WN) V.int _ _;rw [hval] at dg;have slen:({ B with kept:=B.kept++[(.given g t am d,a)] }:Bk).sumsD.length=B.sums.length:=Qd ..
  have iv:∃i:Int,((ZB (g,t) B.sums).map V.int).getD (.int 0)=.int i:=by
   cases ZB (g,t) B.sums with
   |none=>exact ⟨0,rfl⟩
   |some i=>exact ⟨i,rfl⟩
  obtain ⟨i,hi⟩:=iv;refine ⟨_,rfl,b,T.c_Book,dx,_,_,rfl,hB5.ob,T.cl_Book,T.na_Book_sums,Zg4,su,rfl,.inr ⟨_,.inl hB5.su⟩,_,rfl,_,dg,_,rfl,a,_,_,_,rfl,rfl,hA5,Zh (j:=3) rfl,i,am,hi,rfl,_,rfl,b,T.c_Book,dx,_,_,rfl,hB5.ob,T.cl_Book,T.na_Book_sums,Zg4,_,rfl,su,_,rfl,DPut.t (k:=Zq (g,t)) hB5.su (Zf (o:=.tup [.str g,.str t])) (by rw [slen];exact Zw (by omega)),?_⟩;rw [show Yl ({ B with kept:=B.kept++[(.given g t am d,a)] }:Bk).sumsD (Zq (g,t)) (V.int (i+am))=(Zn B.sums (g,t) (i+am)).map fun q=>(Zq q.1,V.int q.2) from UO (f:=Zq) (fun _ _=>WN) V.int B.sums (g,t) (i+am)]
  have ei:i=Y2 B.sums (g,t):=by
   unfold Y2;cases hf:ZB (g,t) B.sums with
   |none=>rw [hf] at hi;exact (V.int.inj hi).symm
   |some j=>rw [hf] at hi;exact (V.int.inj hi).symm
  exact q _ _ bi (hB5.sums _) (pt _ rfl (fun c=>by rw [ei];exact Zl0 B.sums g t am d c) ⟨a,rfl⟩ (fun c=>rfl) (fun c=>rfl) rm.nd (R5 ..) (QU _) (XF ..)) ((btk.mono (by simp)).trans ((But.of _ s5).trans (But.put hB5.su (by simp)))) (.inr (.inl rfl)) (Grows.refl _ _) (GrowsT.refl _ _)
 |dead n d =>
  have hB4:=hKn rfl;refine ⟨_,rfl,a,_,_,_,rfl,rfl,hA4,Zh (j:=0) rfl,rfl,_,rfl,Zt (by decide +kernel) ⟨_,rfl,a,_,_,_,rfl,rfl,hA4,Zh (j:=0) rfl,rfl,_,rfl,Zt (by decide +kernel) ⟨_,rfl,a,_,_,_,rfl,rfl,hA4,Zh (j:=0) rfl,rfl,_,rfl,Zt (by decide +kernel) ?_⟩⟩⟩;refine ⟨_,rfl,rfl,.ref a,.dead n d,rfl,⟨a,rfl,hA4⟩,fun H5 s5=>⟨_,rfl,ZY ?_⟩⟩;exact q _ _ bi (hB4.mono s5) (pt _ rfl (fun c=>rfl) ⟨a,rfl⟩ (fun c=>rfl) (fun c=>rfl) rm.nd (R5 ..) (QU _) (QU _)) ((btk.mono (by simp)).trans (But.of _ s5)) (.inr (.inl rfl)) (Grows.refl _ _) (GrowsT.refl _ _)
 |union x y d =>
  have hB4:=hKn rfl;refine ⟨_,rfl,a,_,_,_,rfl,rfl,hA4,Zh (j:=0) rfl,rfl,_,rfl,Zt (by decide +kernel) ⟨_,rfl,a,_,_,_,rfl,rfl,hA4,Zh (j:=0) rfl,rfl,_,rfl,Zt (by decide +kernel) ⟨_,rfl,a,_,_,_,rfl,rfl,hA4,Zh (j:=0) rfl,rfl,_,rfl,Zt (by decide +kernel) ?_⟩⟩⟩;refine ⟨_,rfl,rfl,.ref a,.union x y d,rfl,⟨a,rfl,hA4⟩,fun H5 s5=>⟨_,rfl,Z4 ?_⟩⟩;have hB5:=hB4.mono s5;have rl:=rm.nl;have rt:=rm.nt;refine ⟨_,rfl,b,dx,_,rfl,hB5.ob,rfl,_,rfl,rfl,b,dx,k,bi,li,ti,su,_,a,"union",x,y,d,rfl,s5.sqt hA4,hB5,(kn2 x (by simp [Ent.named])).more rfl,(kn2 y (by simp [Ent.named])).more rfl,rm.nd,Qn rm.nt (by omega),Qn (rm.tt _) (by omega),Qn rm.nl (by omega),rm.ll,fun H6 ls ts z hB6 nd6 tl6 htf hlk hls bt6 hz grT6 gr6=>?_⟩;exact q H6 _ z hB6 (pt _ rfl (fun c=>rfl) ⟨a,rfl⟩ hlk htf nd6 hls tl6 (QU _)) ((btk.mono (by simp)).trans ((But.of _ s5).trans (bt6.mono (by simp)))) (hz.imp (fun h=>btk.al _ (ZK s5 h)) .inr) (gr6.back fun a n=>btk.al a (ZK s5 n)) (grT6.back fun a n=>btk.al a (ZK s5 n))
 |parted x y d =>
  have hB4:=hKn rfl;refine ⟨_,rfl,a,_,_,_,rfl,rfl,hA4,Zh (j:=0) rfl,rfl,_,rfl,Zt (by decide +kernel) ⟨_,rfl,a,_,_,_,rfl,rfl,hA4,Zh (j:=0) rfl,rfl,_,rfl,Zt (by decide +kernel) ⟨_,rfl,a,_,_,_,rfl,rfl,hA4,Zh (j:=0) rfl,rfl,_,rfl,Zt (by decide +kernel) ?_⟩⟩⟩;refine ⟨_,rfl,rfl,.ref a,.parted x y d,rfl,⟨a,rfl,hA4⟩,fun H5 s5=>⟨_,rfl,Z4 ?_⟩⟩;have hB5:=hB4.mono s5;have rl:=rm.nl;have rt:=rm.nt;refine ⟨_,rfl,b,dx,_,rfl,hB5.ob,rfl,_,rfl,rfl,b,dx,k,bi,li,ti,su,_,a,"parted",x,y,d,rfl,s5.sqt hA4,hB5,(kn2 x (by simp [Ent.named])).more rfl,(kn2 y (by simp [Ent.named])).more rfl,rm.nd,Qn rm.nt (by omega),Qn (rm.tt _) (by omega),Qn rm.nl (by omega),rm.ll,fun H6 ls ts z hB6 nd6 tl6 htf hlk hls bt6 hz grT6 gr6=>?_⟩;exact q H6 _ z hB6 (pt _ rfl (fun c=>rfl) ⟨a,rfl⟩ hlk htf nd6 hls tl6 (QU _)) ((btk.mono (by simp)).trans ((But.of _ s5).trans (bt6.mono (by simp)))) (hz.imp (fun h=>btk.al _ (ZK s5 h)) .inr) (gr6.back fun a n=>btk.al a (ZK s5 n)) (grT6.back fun a n=>btk.al a (ZK s5 n))
theorem ZmY (T:Tx K w mg)  : Zd8 P base T:=by
 refine Fun.okX (k:=0) T.ZaJ.F Znx (fun vs H Q E h=>h.1) (fun cdv A outer s H vs Q E hr h=>?_);obtain ⟨-,h⟩:=h;obtain ⟨x,rfl,q⟩:=h;refine ⟨_,(Zm (ZA (XB (XO K (by rfl) T.n_isinstance (Za (pv 0) (Za (XV (v:=.ty "str") (by rfl) T.n_str Vm rfl) Zc))) (XE (YZ U7 (pv 0) (UP (v:=.ref T.a_TESTS) (by rfl) T.m_TESTS rfl) (by rfl)))))),?_⟩;refine ⟨_,rfl,_,.ty "str",_,_,rfl,rfl,.of (.str _),T.k_str_str,_,rfl,Z4 ⟨_,rfl,T.a_TESTS,_,rfl,.inr (T.ZdX _),rfl,rfl,?_⟩⟩;have e:(if false=true then !XX (.str x) ((["he","she"]:List Str).map V.str) else XX (.str x) ((["he","she"]:List Str).map V.str))=V4 x:=Zdz x ["he","she"];rw [←e] at q;exact q
theorem Zhq (T:Tx K w mg) (Uu:Zcj P base T) (Ut:Zck P base T) (Zc4:Zd8 P base T):Zdn P base T:=by
 refine Fun.okX (k:=2) T.Vq.F ZhB (fun vs H Q E h=>h.1) (fun cdv A outer s H vs Q E hr h=>?_);obtain ⟨-,h⟩:=h;obtain ⟨v,s,n,B,rfl,hB,hs,kn,q⟩:=h
 refine ⟨_,(Zk (ZH (Xb (ZM Zc4 hr Zy (Za (pv 1) Zc))) (Zm (ZA (ZkW (Zx Z5 (Ye (pv 0) T.cl_Book T.W0.me Uu (hr.mono (by decide)) T.W0.b .nil Y5 (Za (pv 2) Zc)) (pv 1) (Zu _)) (Ys (Za (pv 2) Zc)) (Ys Zc)))) ZL)
   (Zm (ZA (Ye (pv 0) T.cl_Book T.Vc.me Ut (hr.mono (by decide)) T.Vc.b .nil Y5 (Za (pv 1) (Za (pv 2) Zc)))))),?_⟩
 obtain ⟨b,dx,k,bi,li,ti,su,rfl,hB⟩:=hB;have hv:BkHas K T.c_Book H (.ref b) B:=⟨b,dx,k,bi,li,ti,su,rfl,hB⟩;unfold Z1 at q;refine ⟨_,rfl,rfl,_,rfl,?_⟩;dsimp only;cases ht:V4 s with
 |true =>
  rw [Qc ht] at q;refine ⟨true,rfl,Z4 ⟨_,rfl,b,dx,_,rfl,hB.ob,rfl,_,rfl,rfl,.ref b,.str n,B,rfl,hv,.inr ⟨n,rfl,fun no=>absurd no kn,fun p hp n' s' d f m ep=>?_⟩⟩⟩;rw [ZjA hp ep] at q;refine ⟨_,rfl,rfl,_,rfl,?_⟩;dsimp only;by_cases e:s'=s
  ·rw [Qc e] at q;rw [Qo (show V.str s'=V.str s by rw [e])];exact Z4 ⟨_,rfl,few rfl,fun D nD=>q _ D (Zj nD) nD Zf⟩
  ·rw [Qa e] at q;rw [Qk (show ¬V.str s'=V.str s from fun z=>e (V.str.inj z))];exact ZY ⟨few rfl,fun D nD=>q _ D (Zj nD) nD Zf⟩
 |false =>
  rw [Qa (by rw [ht];decide)] at q;refine ⟨false,rfl,ZY ⟨_,rfl,b,dx,_,rfl,hB.ob,rfl,_,rfl,_,rfl,rfl,.ref b,.str s,.str n,B,rfl,hv,.inr ⟨s,rfl,fun no=>?_,fun hl=>.inr ⟨n,rfl,fun no=>absurd no kn,fun _ H' D s1 nD hD=>q H' D s1 nD hD⟩⟩⟩⟩;exfalso;unfold Uj at no;unfold V4 at ht;have n1:s∉Xw:=Re no;have n2:s∉(["he","she"]:List Str):=Re ht;have:s∈Xw++(["he","she"]:List Str):=hs;exact (Qm.mp this).elim n1 n2
theorem Zkf (T:Tx K w mg) (JD:Zdn P base T):Zef P base T:=by
 refine Fun.okX (k:=4) T.VW.F V5 (fun vs H Q E h=>h.1) (fun cdv A outer s H vs Q E hr h=>?_);obtain ⟨-,h⟩:=h;obtain ⟨one,p,f,b,way,B,pool,rfl,lam,hp,h9,hB,cl,kn,lw,q⟩:=h
 refine ⟨_,(Zk (Zv (i:=3) V5.nd rfl (Or.inl rfl) (Ys (Za (Zif (Zon (pv 0) (pv 0) ZjZ) rfl rfl (by simp) (by decide)) Zc)))
   (Zk (Yu QG rfl (Uy (pv 1)) (ZS (i:=4) V5.nd rfl (Or.inl rfl))
    (Zk (Zv (i:=5) V5.nd rfl (Or.inl rfl) Vv)
   (Zk (Zcc (Yu QG rfl (Zdg (Zl Ym (pv 3) (JO JY Zd) (fun _ _=>rfl))) (ZS (i:=6) V5.nd rfl (Or.inl rfl))
    (Zm (Yu QG rfl (YJ (ZhE (q:=Zcx) Zog JD T.Vq.b T.Vq.m T.Vq.F.kp (hr.mono (by decide)) Zf3 (i:=2) rfl (Or.inl rfl) (Za (pv 4) (Za (pv 6) Zc)))) (ZS (i:=7) V5.nd rfl (Or.inl rfl))
    (Zm (Xz (ZX hr) (pv 5) (pv 7) (pv 6) rfl))))))
   (Zm (Yh (Wt Rq Rr Rs X9 (pv 3) (Za (pv 5) Zc)))))))
   (Zm (ZA (pv 3))))),?_⟩
 refine fun d0 nd0=>⟨_,rfl,_,rfl,Zf,[(.inr one,.str one)],rfl,QF rfl,few rfl,fun D nD=>?_⟩
 have sA:Same H (Zb (Zb H d0 (.dK [])) d0 (.dK (Uz [] [(.inr one,.str one)]))):=fun c o e=>by
  rw [Ze (ZU e nd0),Ze (ZU e nd0)];exact e
 have nDH:H D=none:=ZK sA nD;have s0:=sA.trans (Zj (o:=.lst [.ref d0]) nD);have nd0D:d0≠D:=fun z=>by rw [←z,Zf] at nD;cases nD
 refine ⟨_,rfl,p,rfl,⟨_,s0.sqt hp⟩,Zap (xs:=way.map V.str) (fun i σ Hc=>∃(ds:List V) (d:Addr) (ks:List (Str×V)) (v4 v5 v6 v7:Option V),σ=[some (.str one),some (.ref p),some (.ref f),some (.ref D),v4,v5,v6,v7]∧Same H Hc∧Hc D=some (.lst (ds++[.ref d]))∧ds.length=i∧H d=none∧Hc d=some (.dK (YM ks))∧(ks.map (·.1)).Nodup∧∀x,x∈ks.map (·.1)↔ZW (Z1 B) (way.take i) (·=one) x) ?start ?list ?turn ?done⟩
 case start=>exact ⟨[],d0,[(one,.str one)],_,_,_,_,rfl,s0,Zf,rfl,nd0,by rw [Ze nd0D,Zf];rfl,by simp,fun x=>by simp [ZW]⟩
 case list =>
  rintro i σ Hc _ ⟨ds,d,ks,v4,v5,v6,v7,rfl,sc,_⟩;exact sc.sqt hp
 case done =>
  rintro σ Hc ⟨ds,d,ks,v4,v5,v6,v7,rfl,sc,hD,dl,nd,hd,kd,mem⟩;rw [Qd,QZ] at mem;exact ⟨_,rfl,q Hc D ds d ks sc nDH hD hd kd mem⟩
 case turn =>
  rintro i y σ Hc hy ⟨ds,d,ks,v4,v5,v6,v7,rfl,sc,hD,dl,nd,hd,kd,mem⟩;obtain ⟨s,hs,rfl⟩:=Xv hy;have il:=(QJ.mp hs).1;have s9:=h9 s (QB hs);have tk:way.take (i+1)=way.take i++[s]:=by rw [Q5,hs];rfl
  have known:∀x,x∈ks.map (·.1)->Known B x:=fun x hx=>W5 (R:=Known B) cl.led (fun t ht=>h9 t (Ri ht)) (fun x e=>by rw [e];exact kn) x ((mem x).mp hx);refine fun c nc=>?_;have ncH:=ZK sc nc;have s1:=Zj (o:=.dK []) nc;have dc:d≠c:=ZU hd nc;have Dc:D≠c:=ZU hD nc;have dD:d≠D:=fun z=>by rw [z,hD] at hd;cases hd
  refine ⟨d,YM ks,s1 _ _ hd,_,rfl,1,rfl,D,_,-1,.ref d,rfl,rfl,.of (s1 _ _ hD),Zgf _ _,d,YM ks,rfl,s1 _ _ hd,fun o=>?_⟩;refine Zn2 (kvs:=YM ks) (fun j σ Hj=>∃(cs:List (Str×V)) (v6 v7:Option V),σ=[some (.str one),some (.ref p),some (.ref f),some (.ref D),some (.str s),some (.ref c),v6,v7]∧Same H Hj∧Hj D=some (.lst (ds++[.ref d]))∧Hj d=some (.frz o (.dK (YM ks)))∧Hj c=some (.dK (YM cs))∧(cs.map (·.1)).Nodup∧∀x,x∈cs.map (·.1)↔∃y,y∈(ks.map (·.1)).take j∧x∈Z1 B s y) ?st2 ?li2 ?tu2 ?do2
  case st2=>exact ⟨[],_,_,rfl,fun e u h=>by rw [Ze (fun z=>by subst z;rw [nd] at h;cases h),Ze (fun z=>by subst z;rw [ncH] at h;cases h)];exact sc _ _ h,by rw [Ze dD.symm];exact s1 _ _ hD,Zf,by rw [Ze dc.symm];exact Zf,by simp,fun x=>by simp⟩
  case li2 =>
   rintro j σ Hj _ ⟨cs,v6,v7,rfl,sj,_,hdj,_⟩;exact hdj
  case do2 =>
   rintro σ Hj ⟨cs,v6,v7,rfl,sj,hDj,hdj,hcj,ndj,memj⟩;rw [Zam,QZ] at memj;refine ⟨o,hdj,?_⟩;have hD5:(Zb Hj d (.dK (YM ks))) D=some (.lst (ds++[.ref d])):=by rw [Ze dD.symm];exact hDj
   refine ⟨_,rfl,.inl ⟨rfl,_,.of hD5⟩,_,rfl,D,_,_,rfl,rfl,hD5,Zw (by rw [Qw,dl];simp;omega),?_⟩;refine ⟨ds++[.ref d],c,cs,_,_,_,_,rfl,fun e u h=>?_,Zf,by rw [Qw,dl];rfl,ncH,?_,ndj,fun x=>?_⟩
   ·rw [Ze (fun z=>by subst z;rw [nDH] at h;cases h),Ze (fun z=>by subst z;rw [nd] at h;cases h)];exact sj _ _ h
   ·rw [Ze Dc.symm,Ze dc.symm];exact hcj
   ·rw [tk,ZcL,memj];exact ⟨fun ⟨y,hy,hx⟩=>⟨y,(mem y).mp hy,hx⟩,fun ⟨y,hy,hx⟩=>⟨y,(mem y).mpr hy,hx⟩⟩
  case tu2 =>
   rintro j pr σ Hj hpr ⟨cs,v6,v7,rfl,sj,hDj,hdj,hcj,ndj,memj⟩;rw [Qp] at hpr;obtain ⟨⟨y,vy⟩,hky,rfl⟩:=QH.mp hpr;have hyk:(ks.map (·.1))[j]?=some y:=by rw [Qp,hky];rfl
   have ky:=known y (QB hyk);have tkj:(ks.map (·.1)).take (j+1)=(ks.map (·.1)).take j++[y]:=by rw [Q5,hyk];rfl
   refine ⟨f,rfl,_,rfl,_,rfl,.str s,.str y,b,rfl,lam.same sj,rfl,.ref b,s,y,B,rfl,hB.mono sj,s9,ky,fun H2 L s2 nL hL=>⟨L,rfl,⟨_,.of hL⟩,?_⟩⟩;refine XH (xs:=(Z1 B s y).map V.str) (fun l σ Hl=>∃(cs2:List (Str×V)) (v7:Option V),σ=[some (.str one),some (.ref p),some (.ref f),some (.ref D),some (.str s),some (.ref c),some (.str y),v7]∧Same H Hl∧Hl D=some (.lst (ds++[.ref d]))∧Hl d=some (.frz o (.dK (YM ks)))∧Hl c=some (.dK (YM cs2))∧Hl L=some (.lst ((Z1 B s y).map V.str))∧(cs2.map (·.1)).Nodup∧∀x,x∈cs2.map (·.1)↔x∈cs.map (·.1)∨x∈(Z1 B s y).take l) ?st3 ?li3 ?tu3 ?do3
   case st3=>exact ⟨cs,_,rfl,sj.trans s2,s2 _ _ hDj,s2 _ _ hdj,s2 _ _ hcj,hL,ndj,fun x=>by simp⟩
   case li3 =>
    rintro l σ Hl _ ⟨cs2,v7,rfl,_,_,_,_,hLl,_⟩;exact .of hLl
   case do3 =>
    rintro σ Hl ⟨cs2,v7,rfl,sl,hDl,hdl,hcl,hLl,ndl,meml⟩;rw [Qd,QZ] at meml;refine ⟨cs2,_,_,rfl,sl,hDl,hdl,hcl,ndl,fun x=>?_⟩;rw [meml,memj,tkj];constructor
    ·rintro (⟨z,h1,h2⟩|h)
     ·exact ⟨z,QQ _ h1,h2⟩
     ·exact ⟨y,by simp,h⟩
    ·rintro ⟨z,h1,h2⟩;rcases Qm.mp h1 with h1|h1
     ·exact .inl ⟨z,h1,h2⟩
     ·rw [show z=y by simpa using h1] at h2;exact .inr h2
   case tu3 =>
    rintro l z σ Hl hz ⟨cs2,v7,rfl,sl,hDl,hdl,hcl,hLl,ndl,meml⟩;obtain ⟨x,hx,rfl⟩:=Xv hz;have tkl:(Z1 B s y).take (l+1)=(Z1 B s y).take l++[x]:=by rw [Q5,hx];rfl
    have inK:∀x∈cs2.map (·.1),Known B x:=fun x hx2=>by
     rcases (meml x).mp hx2 with h|h
     ·obtain ⟨z,h1,h2⟩:=(memj x).mp h;exact cl.led s s9 z (known z (Ri h1)) x h2
     ·exact cl.led s s9 y ky x (Ri h)
    have len2:(YM cs2).length≤60:=by rw [Zam];exact Qn (VR ndl fun x hx2=>cl.inp x (inK x hx2)) cl.few
    have cD:c≠D:=Dc.symm;refine ⟨_,rfl,_,rfl,_,rfl,c,_,rfl,DPut.k (k:=.inr x) hcl (Zw (by omega)),?_⟩;rw [ZbJ];refine ⟨Zn cs2 x (.str y),_,rfl,fun e u h=>?_,?_,?_,Zf,?_,ZaV ndl,fun x'=>?_⟩
    ·rw [Ze (fun z=>by subst z;rw [ncH] at h;cases h)];exact sl _ _ h
    ·rw [Ze Dc];exact hDl
    ·rw [Ze dc];exact hdl
    ·rw [Ze (fun z=>by rw [z,hcl] at hLl;cases hLl)];exact hLl
    ·rw [Zdy,meml,tkl,Qm,QO,or_assoc]
theorem Zlz (T:Tx K w mg) (LB:LamB base T.cc T.tb mg) (X7:ZaX P base T) (JD:Zdn P base T) (Zdo:Zef P base T):ZaB P base T:=by
 refine Fun.okL (k:=5) T.hcc T.U9.F ZlQ (fun vs H Q E h=>h.1) (fun A outer s H vs Q E hr h=>?_);obtain ⟨-,h⟩:=h;obtain ⟨v,p,x,way,B,rfl,hB,lt,hp,q⟩:=h
 refine ⟨_,(Zk (Yh (Ye (pv 0) T.cl_Book T.Xr.me X7 (hr.mono (by decide)) T.Xr.b .nil Y5 (Za (pv 2) Zc)))
   (Zm (ZA (ZO (Zb8 rfl) (by rfl) T.n_sorted U8 (Za (Zl Ym (ZiW Zdo (hr.mono (by decide)) (by rfl) T.VW.m T.VW.F.kp T.VW.b Zf3 (i:=0) rfl rfl rfl rfl rfl (Za (pv 2) (Za (pv 1) (Za (Zoq LB rfl rfl rfl rfl) Zc)))) (JO JY Zd) (fun _ _=>rfl)) Zc))))),?_⟩
 obtain ⟨b,dx,k,bi,li,ti,su,rfl,hB⟩:=hB;have hv:BkHas K T.c_Book H (.ref b) B:=⟨b,dx,k,bi,li,ti,su,rfl,hB⟩;refine ⟨_,rfl,b,dx,_,rfl,hB.ob,rfl,_,rfl,rfl,.ref b,x,B,rfl,hv,?_⟩;rcases q with ⟨nb,qe⟩|⟨n,pool,rfl,kn,cl,h9,lw,q⟩
 ·rcases nb with ⟨ty,hk,ks⟩|⟨n,rfl,no⟩
  ·exact .inl ⟨ty,hk,ks,qe⟩
  ·exact .inr ⟨n,rfl,fun _=>qe,fun p hp=>by rw [no] at hp;cases hp⟩
 refine .inr ⟨n,rfl,fun no=>absurd no kn,fun pr hpr n' s' d f m ep=>?_⟩;refine ⟨_,rfl,_,rfl,lt,fun H2 f2 pm c' ctv sx lt2 nf hf hc' fr=>⟨b,rfl,fun oc noc hoc=>?_⟩⟩;obtain ⟨cc,ecc⟩:∃z,z=s.heap.objs.size+1:=⟨_,rfl⟩;rw [←ecc] at noc hf;have sc:Same H2 (Zb H2 cc (Fz oc)):=Zj noc;rw [←ecc];refine ⟨rfl,n,p,f2,b,way,B,pool,rfl,⟨cc,oc,pm,c',ctv,sc _ _ hf,sc _ _ hc',Zf,hoc⟩,sc.sqt (sx.sqt hp),h9,⟨b,dx,k,bi,li,ti,su,rfl,(hB.monoX sx).mono sc⟩,cl,kn,lw,fun H3 D3 ds d3 ks s3 nD3 hD3 hd3 nd mem=>?_⟩;have hcc3:H3 cc=some (Fz oc):=s3 _ _ Zf;have s4:Same H2 (V2 H3 cc):=fun a u e=>by rw [WB (ZU e noc)];exact s3 _ _ (sc _ _ e)
 have known:∀x,x∈ks.map (·.1)->Known B x:=fun x hx=>W5 (R:=Known B) cl.led h9 (fun x e=>by rw [e];exact kn) x ((mem x).mp hx);have hD4:V2 H3 cc D3=some (.lst (ds++[.ref d3])):=by rw [WB (fun z=>by rw [z,hcc3] at hD3;cases hD3)];exact hD3
 have hd4:V2 H3 cc d3=some (.dK (YM ks)):=by rw [WB (fun z=>by rw [z,hcc3] at hd3;cases hd3)];exact hd3
 refine ⟨1,rfl,D3,_,-1,.ref d3,rfl,rfl,.of hD4,Zgf _ _,d3,ks,rfl,hd4,?_,fun D5 zs' nD5 hp5 Uk=>?_⟩
 ·have:=VR nd fun x hx=>cl.inp x (known x hx);have:=cl.few;rw [Qd] at *;omega
 ·have s5:=s4.trans (Zj (o:=.lst (zs'.map V.str)) nD5);exact q _ D5 zs' (sx.trans s5.x) (lt2.same s5) (fr D5 (ZK s4 nD5)) Zf ⟨Ja Uk,hp5.nodup_iff.mpr nd,fun x=>hp5.mem_iff.trans (mem x)⟩
theorem ZlB (T:Tx K w mg)  : J0 P base T:=by
 refine Fun.okX (k:=0) T.Zah.F Zkk (fun vs H Q E h=>h.1) (fun cdv A outer s H vs Q E hr h=>?_);obtain ⟨-,h⟩:=h;obtain ⟨l,ns,k,rfl,hS,hk,q⟩:=h
 refine ⟨_,(Zk (ZH (Zx WP (pv 1) (ZO Yy (by rfl) T.n_len Yd (Za (pv 0) Zc)) (Zu _)) (Zm (ZA (Zl Ym (pv 0) (pv 1) (fun _ _=>rfl)))) ZL)
   (Zm (ZA Zd))),?_⟩
 refine ⟨_,rfl,_,rfl,l,_,rfl,.inl hS,_,_,rfl,rfl,_,rfl,?_⟩;by_cases kl:k<((ns.map V.int).length:Int)
 ·rw [Qo kl];obtain ⟨j,rfl⟩:∃j:Nat,k=(j:Int):=⟨k.toNat,by omega⟩;refine Z4 ⟨_,rfl,_,rfl,l,_,_,_,rfl,rfl,hS,Xq (Zi0 (by rw [Qd] at kl;omega)),q _⟩
 ·rw [Qk kl];exact ZY (q _)
theorem ZiV (T:Tx K w mg)  : Zet P base T:=by
 refine Fun.okX (k:=0) T.Zbm.F WD (fun vs H Q E h=>h.1) (fun cdv A outer s H vs Q E hr h=>?_);obtain ⟨-,h⟩:=h;obtain ⟨c,rfl,q⟩:=h
 refine ⟨_,(Zk (Zv (i:=1) WD.nd rfl (Or.inl rfl) Zs)
   (Zk (Zv (i:=2) WD.nd rfl (Or.inl rfl) (Zo YT Zd (Zo Z9 (pv 0) Zd)))
   (Zk (Zv (i:=3) WD.nd rfl (Or.inl rfl) (Zo Z9 (Zo Y4 (pv 0) Zd) (pv 2)))
   (Zk (W9 (i:=4) rfl  WD.nd rfl (Or.inl rfl) (Xu (N:=["_law_k","_law_cell"]) ["_law_cell"] [none,some 0] rfl (by decide +kernel) (by decide +kernel) (by rfl) (by rfl) (by rfl) (by rfl) (by rfl)) (Um (by rfl) T.n_range (Za (pv 2) Zc)) (fun _ _ _=>(ZS (i:=0) ZlW rfl (Or.inl rfl))) (fun _ _ _=>UZ) (fun _ _ _=>(Zo Z9 (Zo YT (Zo Y4 (Zo Y4 (pv 1) Zd) (Zo YT (pv 0) Zd)) (Zo Wv Zd (pv 0))) Zd)))
   (Zk (Zv (i:=5) WD.nd rfl (Or.inl rfl) (Ys Zc))
   (Zk (Yu QG rfl (Um (by rfl) T.n_range (Za Zd Zc)) (ZS (i:=6) WD.nd rfl (Or.inl rfl))
    (Zk (Zv (i:=7) WD.nd rfl (Or.inl rfl) Zs)
   (Zk (Yu QG rfl (Um (by rfl) T.n_range (Za (pv 2) Zc)) (ZS (i:=8) WD.nd rfl (Or.inl rfl))
    (Zm (Zv (i:=7) WD.nd rfl (Or.inl rfl) (Zo ZgP (pv 7) (Zl ZjX (pv 1) (Zo Z9 (Zo YT (Zl Ym (pv 4) (pv 8) (fun _ _=>rfl)) (Zo Za2 (pv 6) (VM Zhn (by rfl) T.n_int Zcf (Za (YZ Z5 (pv 8) (pv 3) (Zu _)) Zc)))) Zd) (fun _ _=>rfl))))))
   (Zm (Yh (Wt Rq Rr Rs X9 (pv 5) (Za (Zo ZgP (pv 7) (Wg ZnA Zs WC (X5 (Zo Z9 (pv 6) Zd)))) Zc)))))))
   (Zm (ZA (pv 5))))))))),?_⟩
 have s0:=QI c (show (0:Int)<6 by decide);have s1:=Q0 c (show (0:Int)<6 by decide);refine ⟨_,rfl,_,_,rfl,rfl,Yq (by decide),_,_,rfl,rfl,?_⟩
 try dsimp only
 obtain ⟨n,hn⟩:∃n:Nat,1+c.fmod 6=(n:Int):=⟨(1+c.fmod 6).toNat,by omega⟩;rw [hn];have n1:1≤n∧n≤6:=by omega
 have a0:=QI (c.fdiv 6) (show (0:Int)<n by omega);have a1:=Q0 (c.fdiv 6) (show (0:Int)<n by omega);refine ⟨_,rfl,_,_,rfl,rfl,⟨by decide,YC (by decide) (by decide)⟩,_,rfl,_,_,rfl,rfl,(show (n:Int)≠0 by omega),?_⟩
 try dsimp only
 obtain ⟨p,hp⟩:∃p:Nat,(c.fdiv 6).fmod n=(p:Int):=⟨((c.fdiv 6).fmod n).toNat,by omega⟩;rw [hp];have pn:p<n:=by omega
 refine ⟨_,rfl,_,rfl,by omega,by omega,ZaM ((List.range n).map fun j=>V.int (Wp c j)) (Zw (by rw [Qd,R9];omega)) (fun σ=>∃w,σ=[w,some (.int c)]) ⟨_,rfl⟩ (fun i H3 hi sm=>?go) (fun H3 sm=>?stop) (fun i σ H3 x H4 y hy hσ sm hx C hC=>?step) (fun D2 H3 nD2 sm hD2=>?fin)⟩
 case go =>
  rw [Qd,R9] at hi;show i<(n:Int).toNat;omega
 case stop =>
  rw [Qd,R9];show (n:Int).toNat≤n;omega
 case step =>
  obtain ⟨w,rfl⟩:=hσ;obtain ⟨rfl,rfl⟩:=hx
  have il:i<n:=by
   have:=(QJ.mp hy).1
   rwa [Qd,R9] at this
  obtain rfl:V.int (Wp c i)=y:=by
   rw [Qp,NH il] at hy;exact Ql hy
  rw [show (0:Int)+(i:Int)=i from Gw _];exact ⟨_,rfl,_,_,rfl,rfl,⟨by decide,YC (by decide) (by decide)⟩,_,rfl,_,_,rfl,rfl,_,_,rfl,rfl,⟨by omega,YC (by omega) (by omega)⟩,_,rfl,_,_,rfl,rfl,.inl ⟨by decide,by decide⟩,_,_,rfl,rfl,_,_,rfl,rfl,Yq (by decide),hC _ _ ⟨_,rfl⟩ (Same.refl _)⟩
 case fin =>
 refine ⟨few rfl,fun D nD=>?_⟩;have sD:=Zj (o:=.lst []) nD;have s3D:=sm.trans sD;have D2D:D2≠D:=ZU hD2 nD;have hb:∀{Hc:Hp},Hc D2=some (.lst ((List.range n).map fun j=>V.int (Wp c j)))->SqL K Hc D2 ((List.range n).map fun j=>V.int (Wp c j)):=fun h=>.of h;refine ⟨_,rfl,by decide,by decide,UI (fun i σ Hc=>∃v6 v7 v8,σ=[some (.int c),some (.str "abcdefghijklmnopqrstuvwxyz"),some (.int n),some (.int p),some (.ref D2),some (.ref D),v6,v7,v8]∧Same H Hc∧Hc D=some (.lst (((List.range i).map (WT c n p)).map V.str))∧Hc D2=some (.lst ((List.range n).map fun j=>V.int (Wp c j)))) ⟨_,_,_,rfl,s3D,Zf,by rw [Ze D2D];exact hD2⟩ ?_ ?_⟩
 ·rintro k σ Hc hk ⟨v6,v7,v8,rfl,sc,hD,hD2c⟩;have k24:k<24:=hk;rw [show (0:Int)+(k:Int)=k from Gw _];refine ⟨_,rfl,_,rfl,by omega,by omega,UI (fun j σ Hj=>Hj=Hc∧∃v8,σ=[some (.int c),some (.str "abcdefghijklmnopqrstuvwxyz"),some (.int n),some (.int p),some (.ref D2),some (.ref D),some (.int k),some (.str ⟨(Xs c p k j).toArray⟩),v8]) ⟨rfl,_,rfl⟩ ?_ ?_⟩
  ·rintro j σ Hj hj ⟨rfl,v8,rfl⟩;have jn:j<n:=by omega
   rw [show (0:Int)+(j:Int)=j from Gw _];have atj:Yi ((List.range n).map fun j=>V.int (Wp c j)) (j:Int)=some (.int (Wp c j)):=Xq (by rw [Qp,NH jn];rfl);have bn:∀z:Int,z=0∨z=1->z.natAbs<2 ^ 1000:=fun z h=>YC (by omega) (by omega);refine ⟨_,rfl,_,rfl,_,rfl,_,rfl,D2,_,_,_,rfl,rfl,hb hD2c,atj,_,rfl,_,rfl,_,rfl,rfl,.inr ⟨_,rfl,_,_,rfl,rfl,⟨YC (by omega) (by omega),bn _ (by split<;>simp)⟩,_,_,rfl,rfl,_,_,rfl,rfl,Yq (by decide),_,_,_,rfl,rfl,few rfl,Zox _,_,_,rfl,rfl,?_,rfl,some (.int (j:Int)),?_⟩⟩
   ·exact few (by rw [Ur,Vu];show Nat.ble (j+1) 1000=true;exact Nat.ble_eq_true_of_le (by omega))
   ·show [_,_,_,_,_,_,_,some (V.str _),_]=_;rw [Zn1,Ziv];by_cases e:j=p
    ·subst e;simp
    ·have:¬((j:Int)=(p:Int)):=by omega
     simp [e,this]
  ·rintro σ Hj ⟨rfl,v8,rfl⟩;rw [show ((n:Int)).toNat=n from rfl];refine ⟨_,rfl,.inl ⟨rfl,_,.of hD⟩,_,rfl,?_⟩;dsimp only [Je];refine ⟨_,rfl,_,_,rfl,rfl,Yq (by decide),_,rfl,_,rfl,few rfl,_,_,rfl,rfl,?len,D,_,_,rfl,rfl,hD,Zw (by simp;omega),_,_,_,rfl,?same,?lst,?_⟩
   case len =>
    rw [Zhm,Ur,Ur,Vu,QW];exact few (Nat.ble_eq_true_of_le (by omega))
   case same =>
    intro a u e;rw [Ze (ZU e (ZK sm nD))];exact sc _ _ e
   case lst =>
    rw [Zf,Zhm,ZiP,List.range_succ,Qq,Qq];rfl
   ·rw [Ze D2D];exact hD2c
 ·rintro σ Hc ⟨v6,v7,v8,rfl,sc,hD,hD2c⟩;exact ⟨_,rfl,q _ D _ sc (ZK sm nD) hD (ZiH n1.1 n1.2 pn)⟩
theorem Zkp (T:Tx K w mg)  : Zhi P base T:=by
 refine Fun.okX (k:=0) T.Zaf.F Zh6 (fun vs H Q E h=>h.1) (fun cdv A outer s H vs Q E hr h=>?_);obtain ⟨-,h⟩:=h;obtain ⟨c,k,w,rfl,k0,k1,q⟩:=h
 refine ⟨_,(Zk (ZH (Zx Z5 (pv 2) Zd (Zu _)) (Zm (ZA (Zo ZaD (Zo Z9 (Zo Wv (pv 0) Zd) (Zo YT (Zo Wv Zd (Zo XQ Zd Zd)) Zd)) (Zo XQ Zd Zd)))) ZL)
   (Zk (ZH (Zx Z5 (pv 2) Zd (Zu _)) (Zm (ZA (Zo ZaD (Zo YT (Zo Za2 (Zo Wv (pv 1) Zd) (Zo XQ Zd Zd)) (Zo Z9 (pv 0) (Zo Wv Zd (Zo XQ Zd Zd)))) (Zo XQ Zd Zd)))) ZL)
   (Zm (ZA (Zo ZaD (Zo Z9 (pv 0) Zd) Zd))))),?_⟩
 have c18:Vb 10 18:=⟨by decide,by decide,by decide⟩;have c16:Vb 10 16:=⟨by decide,by decide,by decide⟩;refine ⟨_,rfl,rfl,_,rfl,YB (fun h1=>?_) (fun h1=>?_)⟩
 ·refine ⟨_,rfl,_,_,rfl,rfl,.inr ⟨by decide,by decide⟩,_,_,rfl,rfl,c18,_,_,rfl,rfl,.inl ⟨by decide,by decide⟩,_,_,rfl,rfl,_,_,rfl,rfl,Yq (by decide),_,_,rfl,rfl,c18,_,_,rfl,rfl,q _ ?_ ?_⟩
  ·have:=QI (c*1000003) (show (0:Int)<2*10 ^ (18:Int).toNat+1 by decide);show (-10 ^ 18:Int)≤_-10 ^ 18;omega
  ·have:=Q0 (c*1000003) (show (0:Int)<2*10 ^ (18:Int).toNat+1 by decide);have e:(2*10 ^ (18:Int).toNat+1:Int)=2*10 ^ 18+1:=rfl;show _-10 ^ 18≤(10 ^ 18:Int);omega
 refine ⟨_,rfl,rfl,_,rfl,YB (fun h2=>?_) (fun h2=>?_)⟩
 ·have:=QI c (show (0:Int)<3*10 ^ (16:Int).toNat by decide);have:=Q0 c (show (0:Int)<3*10 ^ (16:Int).toNat by decide);have e:(3*10 ^ (16:Int).toNat:Int)=3*10 ^ 16:=rfl;refine ⟨_,rfl,_,_,rfl,rfl,.inr ⟨by decide,by decide⟩,_,_,rfl,rfl,c16,_,_,rfl,rfl,⟨YC (by omega) (by omega),YC (by decide) (by decide)⟩,_,rfl,_,_,rfl,rfl,c16,_,_,rfl,rfl,.inl ⟨by decide,by decide⟩,_,_,rfl,rfl,Yq (by decide),_,_,rfl,rfl,_,_,rfl,rfl,c18,_,_,rfl,rfl,q _ ?_ ?_⟩
  ·show (-10 ^ 18:Int)≤k*4*10 ^ 16+_-10 ^ 18;omega
  ·show k*4*10 ^ 16+_-10 ^ 18≤(10 ^ 18:Int);omega
 ·have:=QI c (show (0:Int)<9 by decide);have:=Q0 c (show (0:Int)<9 by decide);exact ⟨_,rfl,_,_,rfl,rfl,Yq (by decide),_,_,rfl,rfl,q _ (by omega) (by omega)⟩
theorem ZnL (T:Tx K w mg)  : ZeK P base T:=by
 refine Fun.okX (k:=0) T.Zay.F WL (fun vs H Q E h=>h.1) (fun cdv A outer s H vs Q E hr h=>?_);obtain ⟨-,h⟩:=h;obtain ⟨D,ln,c,d,ps,ns,rfl,hP,hN,n24,l24,q⟩:=h
 refine ⟨_,(Zk (Zv (i:=4) WL.nd rfl (Or.inl rfl) (Zo Z9 (Zo Wv (pv 2) Zd) Zd))
   (Zk (Zcc (W9 (i:=5) rfl  WL.nd rfl (Or.inl rfl) (Xu (N:=["_law_one","_law_day_here","_law_people"]) ["_law_people","_law_day_here"] [none,some 3,some 0] rfl (by decide +kernel) (by decide +kernel) (by rfl) (by rfl) (by rfl) (by rfl) (by rfl)) (Zdg (pv 0)) (fun _ _ _=>(ZS (i:=0) Zlo rfl (Or.inl rfl))) (fun _ _ _=>(Wc (Zx WP (Zl (UN K rfl) (Xp (ZX hr) (pv 2) (pv 0) (fun _ _=>rfl)) Zd (fun _ _=>rfl)) (pv 1) (Zu _)))) (fun _ _ _=>(pv 0))))
   (Zk (W9 (i:=6) rfl  WL.nd rfl (Or.inl rfl) (Xu (N:=["_law_one","_law_people"]) ["_law_people"] [none,some 0] rfl (by decide +kernel) (by decide +kernel) (by rfl) (by rfl) (by rfl) (by rfl) (by rfl)) (YJ (pv 5)) (fun _ _ _=>(ZS (i:=0) ZeY rfl (Or.inl rfl))) (fun _ _ _=>(Wc (Zx Z5 (Zl (UN K rfl) (Xp (ZX hr) (pv 1) (pv 0) (fun _ _=>rfl)) Zd (fun _ _=>rfl)) Zs (Zu _)))) (fun _ _ _=>(pv 0)))
   (Zk (W9 (i:=7) rfl  WL.nd rfl (Or.inl rfl) (Xu (N:=["_law_one","_law_people"]) ["_law_people"] [none,some 0] rfl (by decide +kernel) (by decide +kernel) (by rfl) (by rfl) (by rfl) (by rfl) (by rfl)) (YJ (pv 5)) (fun _ _ _=>(ZS (i:=0) ZeY rfl (Or.inl rfl))) (fun _ _ _=>(Wc (Zx Z5 (Zl (UN K rfl) (Xp (ZX hr) (pv 1) (pv 0) (fun _ _=>rfl)) Zd (fun _ _=>rfl)) Zs (Zu _)))) (fun _ _ _=>(pv 0)))
   (Zk (Zv (i:=8) WL.nd rfl (Or.inl rfl) Zs)
   (Zk (Zv (i:=9) WL.nd rfl (Or.inl rfl) Zs)
   (Zk (ZH (PW.pt (WM (Zx Wn (ZO Yy (by rfl) T.n_len Yd (Za (pv 6) Zc)) Zd (Zu _)) (WI (Zx Wn (Zo Z9 (pv 4) Zd) Zd (Zu _))))) (Zm (Zv (i:=8) WL.nd rfl (Or.inl rfl) (Zl Ym (pv 6) (Zo Z9 (Zo Y4 (pv 4) Zd) (ZO Yy (by rfl) T.n_len Yd (Za (pv 6) Zc))) (fun _ _=>rfl)))) ZL)
   (Zk (ZH (PW.pt (WM (Zx Wn (ZO Yy (by rfl) T.n_len Yd (Za (pv 7) Zc)) Zd (Zu _)) (WI (Zx Wn (Zo Z9 (Zo Y4 (pv 4) Zd) Zd) Zd (Zu _))))) (Zm (Zv (i:=9) WL.nd rfl (Or.inl rfl) (Zl Ym (pv 7) (Zo Z9 (Zo Y4 (pv 4) Zd) (ZO Yy (by rfl) T.n_len Yd (Za (pv 7) Zc))) (fun _ _=>rfl)))) ZL)
   (Zm (ZA (ZZ (Za Zs (Za (Zl Ym (pv 1) (ZO Zbh (by rfl) T.n_len Yd (Za (pv 0) Zc)) (fun _ _=>rfl)) (Za (Zl Ym (Ys (Za Zs (Za Zs (Za Zs (Za Zs (Za Zs Zc)))))) (Zo Z9 (pv 2) Zd) (fun _ _=>rfl)) (Za (pv 3) (Za (pv 8) (Za (pv 9) Zc))))))))))))))))),?_⟩
 refine ⟨_,rfl,_,_,rfl,rfl,.inr ⟨by decide,by decide⟩,_,_,rfl,rfl,Yq (by decide),?_⟩;dsimp only [Z2];generalize (c*48271).fmod 2147483647=num;refine ⟨D,XC ps,hP.d,_,rfl,D,_,rfl,hP.d,fun o=>WF (ps.map (UU d)) (Zw (by rw [Qd];omega)) (fun σ=>∃w,σ=[w,some (.int d),some (.ref D)]) ⟨_,rfl⟩ (fun j H4 hj sm=>?go) (fun H4 sm=>?stop) (fun j σ H4 x H5 z hz hσ sm hx C hC=>?step) (fun D5 H5 nD5 s5 hD5=>?fin)⟩
 case go=>exact ⟨sm _ _ Zf,by rw [Qd] at hj ⊢;exact hj⟩
 case stop=>exact ⟨sm _ _ Zf,by rw [Qd,Qd];exact Qf _⟩
 case step =>
  obtain ⟨w,rfl⟩:=hσ;obtain ⟨rfl,hx2⟩:=hx;rw [Qp] at hx2 hz;obtain ⟨p,hp,rfl⟩:=QH.mp hz;rw [hp] at hx2;obtain rfl:=Ql hx2;have hm:p∈ps:=QB hp;refine ⟨_,rfl,_,rfl,D,_,rfl,PpAt.get hP.nd (.inr ⟨o,sm _ _ Zf⟩) hm,_,_,_,_,rfl,rfl,sm.sqt (Zlu hP.d (hP.t p hm)),Zh (j:=1) rfl,_,rfl,_,_,rfl,rfl,_,rfl,?_⟩;by_cases e:p.2.2.2<d
  ·rw [show UU d p=some (.str p.1) from Qc e] at hC;rw [Qo e];exact Z4 ⟨_,rfl,hC _ _ ⟨_,rfl⟩ (Same.refl _)⟩
  ·rw [show UU d p=none from Qa e] at hC;rw [Qk e];exact ZY (hC _ _ ⟨_,rfl⟩ (Same.refl _))
 case fin =>
 rw [Zes] at hD5;obtain ⟨olds,eo⟩:∃z,z=ps.filter fun p=>decide (p.2.2.2<d):=⟨_,rfl⟩;rw [←eo] at hD5;have ol:olds.length≤ps.length:=by rw [eo];exact GX ..
 have om:∀p∈olds,p∈ps∧p.2.2.2<d:=fun p hp=>by
  rw [eo] at hp;exact ⟨(Q7.mp hp).1,QC (Q7.mp hp).2⟩
 refine ⟨o,s5 _ _ Zf,?_⟩;have s1:=Zk4 hP.d s5
 have nD5H:H D5=none:=by
  by_cases z:D5=D
  ·rw [z,Zf] at nD5;cases nD5
  ·rwa [Ze z] at nD5
 have D5D:D5≠D:=fun z=>by rw [z,hP.d] at nD5H;cases nD5H
 have hO:(Zb H5 D (.dK (XC ps))) D5=some (.lst ((olds.map (·.1)).map V.str)):=by rw [Ze D5D];exact hD5
 generalize Zb H5 D (.dK (XC ps))=H1 at *;have hP1:=hP.mono s1;refine ⟨_,rfl,D5,rfl,⟨_,.of hO⟩,WF (olds.map (W1 "he")) (Zw (by rw [Qd];omega)) (fun σ=>∃w,σ=[w,some (.ref D)]) ⟨_,rfl⟩ (fun j H4 hj sm=>?go2) (fun H4 sm=>?stop2) (fun j σ H4 x H5 z hz hσ sm hx C hC=>?step2) (fun D6 H6 nD6 s6 hD6=>?fin2)⟩
 case go2=>exact ⟨_,_,sm.sql (.of hO),Qt (by rw [Qd,Qd];rw [Qd] at hj;exact hj)⟩
 case stop2=>exact ⟨_,sm.sql (.of hO),by rw [Qd,Qd,Qd];exact Qf _⟩
 case step2 =>
  obtain ⟨w,rfl⟩:=hσ;obtain ⟨rfl,hx2⟩:=hx;obtain ⟨y,hy,rfl⟩:=Xv (hx2 _ (sm.sql (.of hO)));rw [Qp] at hy hz;obtain ⟨p,hp,rfl⟩:=QH.mp hy;rw [hp] at hz;obtain rfl:=Ql hz;have hm:p∈ps:=(om p (QB hp)).1;refine ⟨_,rfl,_,rfl,D,_,rfl,PpAt.get hP.nd (.inl (sm _ _ hP1.d)) hm,_,_,_,_,rfl,rfl,sm.sqt (hP1.t p hm),Zh (j:=0) rfl,rfl,_,rfl,?_⟩;by_cases e:p.2.2.1="he"
  ·rw [show W1 "he" p=some (.str p.1) from Qc e] at hC;rw [Qo (show V.str p.2.2.1=V.str "he" by rw [e])];exact Z4 ⟨_,rfl,hC _ _ ⟨_,rfl⟩ (Same.refl _)⟩
  ·rw [show W1 "he" p=none from Qa e] at hC;rw [Qk (show ¬V.str p.2.2.1=V.str "he" from fun z=>e (V.str.inj z))];exact ZY (hC _ _ ⟨_,rfl⟩ (Same.refl _))
 case fin2 =>
 rw [Zdd] at hD6;have s2:=s1.trans s6;have hP2:=hP.mono s2;have hO2:=s6 _ _ hO;refine ⟨_,rfl,D5,rfl,⟨_,.of hO2⟩,WF (olds.map (W1 "she")) (Zw (by rw [Qd];omega)) (fun σ=>∃w,σ=[w,some (.ref D)]) ⟨_,rfl⟩ (fun j H4 hj sm=>?go3) (fun H4 sm=>?stop3) (fun j σ H4 x H5 z hz hσ sm hx C hC=>?step3) (fun D7 H7 nD7 s7 hD7=>?fin3)⟩
 case go3=>exact ⟨_,_,sm.sql (.of hO2),Qt (by rw [Qd,Qd];rw [Qd] at hj;exact hj)⟩
 case stop3=>exact ⟨_,sm.sql (.of hO2),by rw [Qd,Qd,Qd];exact Qf _⟩
 case step3 =>
  obtain ⟨w,rfl⟩:=hσ;obtain ⟨rfl,hx2⟩:=hx;obtain ⟨y,hy,rfl⟩:=Xv (hx2 _ (sm.sql (.of hO2)));rw [Qp] at hy hz;obtain ⟨p,hp,rfl⟩:=QH.mp hy;rw [hp] at hz;obtain rfl:=Ql hz;have hm:p∈ps:=(om p (QB hp)).1;refine ⟨_,rfl,_,rfl,D,_,rfl,PpAt.get hP.nd (.inl (sm _ _ hP2.d)) hm,_,_,_,_,rfl,rfl,sm.sqt (hP2.t p hm),Zh (j:=0) rfl,rfl,_,rfl,?_⟩;by_cases e:p.2.2.1="she"
  ·rw [show W1 "she" p=some (.str p.1) from Qc e] at hC;rw [Qo (show V.str p.2.2.1=V.str "she" by rw [e])];exact Z4 ⟨_,rfl,hC _ _ ⟨_,rfl⟩ (Same.refl _)⟩
  ·rw [show W1 "she" p=none from Qa e] at hC;rw [Qk (show ¬V.str p.2.2.1=V.str "she" from fun z=>e (V.str.inj z))];exact ZY (hC _ _ ⟨_,rfl⟩ (Same.refl _))
 case fin3 =>
 rw [Zdd] at hD7;have s3:=s2.trans s7;have hP3:=hP.mono s3;have hF:=s7 _ _ hD6;obtain ⟨fs,ef⟩:∃z,z=olds.filter fun p=>decide (p.2.2.1=("he" : Str)):=⟨_,rfl⟩;obtain ⟨ms,em⟩:∃z,z=olds.filter fun p=>decide (p.2.2.1=("she" : Str)):=⟨_,rfl⟩;rw [←ef] at hF;rw [←em] at hD7
 have fm:∀p∈fs,X1 ps "he" d p.1:=fun p hp=>by
  rw [ef] at hp;obtain ⟨h1,h2⟩:=Q7.mp hp;exact .inr ⟨p,(om p h1).1,rfl,QC h2,(om p h1).2⟩
 have mm:∀p∈ms,X1 ps "she" d p.1:=fun p hp=>by
  rw [em] at hp;obtain ⟨h1,h2⟩:=Q7.mp hp;exact .inr ⟨p,(om p h1).1,rfl,QC h2,(om p h1).2⟩
 rw [QT] at hF hD7;dsimp only [Z2];refine Zf1 (Zf1 ?_);refine YN (fun σ Hx=>H7=Hx∧∃f,X1 ps "he" d f∧σ=[some (.ref D),some (.ref ln),some (.int c),some (.int d),some (.int num),some (.ref D5),some (.ref D6),some (.ref D7),some (.str f),some (.str "")]) (fun nx rest=>?_) ?_
 ·refine ⟨_,rfl,D6,_,rfl,.inl (.of hF),_,_,rfl,rfl,_,rfl,YB (fun h1=>⟨_,rfl,_,_,rfl,rfl,Yq (by decide),_,_,rfl,rfl,_,rfl,YB (fun h2=>?_) (fun h2=>?_)⟩) (fun h1=>?_)⟩
  ·have l0:0<fs.length:=by
    have:=QC h1;rw [Qd] at this;omega
   obtain ⟨p,hp,ea⟩:=VF (V.str∘fun p:Pp=>p.1) fs l0 (num.fdiv 7);exact ⟨_,rfl,_,rfl,_,_,rfl,rfl,⟨by decide,YC (by decide) (by decide)⟩,_,rfl,D6,_,rfl,.inl (.of hF),_,_,rfl,rfl,(by rw [Qd];omega),D6,_,_,_,rfl,rfl,.of hF,ea,rest _ _ ⟨rfl,p.1,fm p hp,rfl⟩⟩
  ·exact rest _ _ ⟨rfl,"",.inl rfl,rfl⟩
  ·exact rest _ _ ⟨rfl,"",.inl rfl,rfl⟩
 rintro σ _ ⟨rfl,f,hf,rfl⟩;refine YN (fun σ Hx=>H7=Hx∧∃m,X1 ps "she" d m∧σ=[some (.ref D),some (.ref ln),some (.int c),some (.int d),some (.int num),some (.ref D5),some (.ref D6),some (.ref D7),some (.str f),some (.str m)]) (fun nx rest=>?_) ?_
 ·refine ⟨_,rfl,D7,_,rfl,.inl (.of hD7),_,_,rfl,rfl,_,rfl,YB (fun h1=>⟨_,rfl,_,_,rfl,rfl,⟨by decide,YC (by decide) (by decide)⟩,_,_,rfl,rfl,Yq (by decide),_,_,rfl,rfl,_,rfl,YB (fun h2=>?_) (fun h2=>?_)⟩) (fun h1=>?_)⟩
  ·have l0:0<ms.length:=by
    have:=QC h1;rw [Qd] at this;omega
   obtain ⟨p,hp,ea⟩:=VF (V.str∘fun p:Pp=>p.1) ms l0 (num.fdiv 1400);exact ⟨_,rfl,_,rfl,_,_,rfl,rfl,⟨by decide,YC (by decide) (by decide)⟩,_,rfl,D7,_,rfl,.inl (.of hD7),_,_,rfl,rfl,(by rw [Qd];omega),D7,_,_,_,rfl,rfl,.of hD7,ea,rest _ _ ⟨rfl,p.1,mm p hp,rfl⟩⟩
  ·exact rest _ _ ⟨rfl,"",.inl rfl,rfl⟩
  ·exact rest _ _ ⟨rfl,"",.inl rfl,rfl⟩
 rintro σ _ ⟨rfl,m,hm,rfl⟩;obtain ⟨s,hs,es⟩:=ZiU c;have il:ps.length<ns.length:=by omega
 have en:ns[ps.length]?=some ns[ps.length]:=Qt il;have an:Yi (ns.map V.str) ((XC ps).length:Int)=some (.str ns[ps.length]):=by rw [Qd];exact Xq (by rw [Qp,en];rfl)
 refine ⟨_,rfl,_,rfl,D,_,rfl,hP3.d,ln,_,_,_,rfl,rfl,s3.sql hN,an,few rfl,fun L nL=>⟨_,rfl,_,_,rfl,rfl,Yq (by decide),L,_,_,_,rfl,rfl,.of Zf,es,_,rfl,_,rfl,_,rfl,few rfl,fun a na=>?_⟩⟩;exact q _ a _ _ _ _ ((s3.trans (Zj nL)).trans (Zj na)) (ZK (s3.trans (Zj nL)) na) (.of Zf) en hs hf hm
theorem Zjy (T:Tx K w mg)  : Zgb P base T:=by
 refine Fun.okX (k:=0) T.J2.F Y3 (fun vs H Q E h=>h.1) (fun cdv A outer s H vs Q E hr h=>?_);obtain ⟨-,h⟩:=h;obtain ⟨D,Dk,c,kd,ps,kn,rfl,hP,hK,p2,p24,k100,ok,pd,qn,q⟩:=h
 refine ⟨_,(Zk (Zv (i:=4) Y3.nd rfl (Or.inl rfl) (VM (ZlS rfl) (by rfl) T.n_list ZaI (Za (pv 0) Zc)))
   (Zk (Zv (i:=5) Y3.nd rfl (Or.inl rfl) (Zl Ym (pv 4) (Zo Z9 (pv 2) (ZO Yy (by rfl) T.n_len Yd (Za (pv 4) Zc))) (fun _ _=>rfl)))
   (Zk (Zv (i:=6) Y3.nd rfl (Or.inl rfl) (Zl Ym (pv 4) (Zo Z9 (Zo YT (Zo YT (pv 2) Zd) (Zo Z9 (Zo Y4 (pv 2) Zd) (Zo ZaD (ZO Yy (by rfl) T.n_len Yd (Za (pv 4) Zc)) Zd))) (ZO Yy (by rfl) T.n_len Yd (Za (pv 4) Zc))) (fun _ _=>rfl)))
   (Zk (Zv (i:=7) Y3.nd rfl (Or.inl rfl) (ZO (Zcg rfl) (by rfl) T.n_min Ui (Za (Zo XQ Zd Zd) (Za (Zo YT (ZO (Zjq rfl) (by rfl) T.n_max Jo (Za (Zl Zp (Xp (ZX hr) (pv 0) (pv 5) (fun _ _=>rfl)) Zd (fun _ _=>rfl)) (Za (Zl Zp (Xp (ZX hr) (pv 0) (pv 6) (fun _ _=>rfl)) Zd (fun _ _=>rfl)) Zc))) (Zo Z9 (Zo Y4 (pv 2) Zd) (Zo XQ Zd Zd))) Zc))))
   (Zk (Ze1 (W9 (i:=8) rfl  Y3.nd rfl (Or.inl rfl) (Xu (N:=["_law_key"]) [] [none] rfl (by decide +kernel) (by decide +kernel) (by rfl) (by rfl) (by rfl) (by rfl) (by rfl)) (ZmZ (pv 1)) (fun _ _ _=>(ZS (i:=0) Zio rfl (Or.inl rfl))) (fun _ _ _=>(Wc (Zx Z5 (Zl (UN K rfl) (pv 0) Zd (fun _ _=>rfl)) Zs (Zu _)))) (fun _ _ _=>(pv 0))))
   (Zk (ZH (PW.pt (WM (Zx Wn (pv 3) Zd (Zu _)) (WI (Zx Wn (ZO Yy (by rfl) T.n_len Yd (Za (pv 8) Zc)) Zd (Zu _))))) (Zk (Zv (i:=9) Y3.nd rfl (Or.inl rfl) (Zl Ym (pv 8) (Zo Z9 (pv 2) (ZO Yy (by rfl) T.n_len Yd (Za (pv 8) Zc))) (fun _ _=>rfl)))
   (Zk (Zv (i:=5) Y3.nd rfl (Or.inl rfl) (Zl Zp (pv 9) Zd (fun _ _=>rfl)))
   (Zk (Zv (i:=6) Y3.nd rfl (Or.inl rfl) (Zl Zp (pv 9) Zd (fun _ _=>rfl)))
   (Zm (Zv (i:=7) Y3.nd rfl (Or.inl rfl) (ZO (Zcg rfl) (by rfl) T.n_min Ui (Za (Zo XQ Zd Zd) (Za (Zo YT (Zl Zp (pv 9) Zd (fun _ _=>rfl)) (Zo Z9 (Zo Y4 (pv 2) Zd) Zd)) Zc)))))))) ZL)
   (Zk (Zv (i:=10) Y3.nd rfl (Or.inl rfl) (ZZ (Za Zs (Za (ZO (Zcs rfl) (by rfl) T.n_min Ui (Za (pv 5) (Za (pv 6) Zc))) (Za (ZO (Zdh rfl) (by rfl) T.n_max Jo (Za (pv 5) (Za (pv 6) Zc))) (Za (pv 7) Zc))))))
   (Zk (Zv (i:=11) Y3.nd rfl (Or.inl rfl) (ZZ (Za (Zl Ym (Ys (Za Zs (Za Zs Zc))) (VM Zhn (by rfl) T.n_int Zcf (Za (YZ Wn (pv 3) Zd (Zu _)) Zc)) (fun _ _=>rfl)) (Za (pv 5) (Za (pv 6) (Za (pv 7) Zc))))))
   (Zk (ZH (Zx Z5 (pv 3) Zd (Zu _)) (Zk (ZH (Zx WP (Zl Zp (Xp (ZX hr) (pv 0) (pv 5) (fun _ _=>rfl)) Zd (fun _ _=>rfl)) (Zl Zp (Xp (ZX hr) (pv 0) (pv 6) (fun _ _=>rfl)) Zd (fun _ _=>rfl)) (Zu _)) (Zm (ZhT rfl Y3.nd (i:=5) (j:=6) rfl rfl (by decide) rfl rfl (Za (pv 6) (Za (pv 5) Zc)) rfl)) ZL)
   (Zk (Zv (i:=10) Y3.nd rfl (Or.inl rfl) (ZZ (Za Zs (Za (pv 5) (Za (pv 6) Zc)))))
   (Zk (Zv (i:=11) Y3.nd rfl (Or.inl rfl) (ZZ (Za Zs (Za (pv 5) (Za (pv 6) (Za (pv 7) Zc))))))
   (Zm (ZH (Zx Z5 (Zl Zp (Xp (ZX hr) (pv 0) (pv 5) (fun _ _=>rfl)) Zd (fun _ _=>rfl)) (Zl Zp (Xp (ZX hr) (pv 0) (pv 6) (fun _ _=>rfl)) Zd (fun _ _=>rfl)) (Zu _)) (Zm (ZA VI)) ZL))))) ZL)
   (Zk (ZH (PW.pt (WM (Zx Z5 (pv 3) Zd (Zu _)) (WI (Zx Z5 (Zo Z9 (pv 2) Zd) Zd (Zu _))))) (Zk (Zv (i:=10) Y3.nd rfl (Or.inl rfl) (ZZ (Za Zs (Za (pv 5) Zc))))
   (Zm (Zv (i:=11) Y3.nd rfl (Or.inl rfl) (ZZ (Za Zs (Za (pv 5) (Za (pv 7) Zc))))))) ZL)
   (Zk (ZH (Jq (ZcV (ZX hr) (pv 10) (pv 1))) (Zm (ZA VI)) ZL)
   (Zk (Xz (ZX hr) (pv 1) (pv 10) YY rfl)
   (Zm (ZA (pv 11))))))))))))))),?_⟩
 have c18:Vb 10 18:=⟨by decide,by decide,by decide⟩;have c6:Vb 10 6:=⟨by decide,by decide,by decide⟩;have eD:XC ps=(ps.map fun p=>(p.1,V.ref p.2.1)).map (fun p=>((.inr p.1:Zi),p.2)):=by rw [QT];rfl
 have en:((ps.map fun p:Pp=>(p.1,V.ref p.2.1)).map (·.1))=ps.map (·.1):=by rw [QT];rfl
 refine ⟨_,rfl,D,ps.map fun p=>(p.1,V.ref p.2.1),rfl,by rw [←eD];exact hP.d,by rw [Qd];omega,fun L nL=>?_⟩;rw [en];have s1:=Zj (o:=.lst ((ps.map (·.1)).map V.str)) nL;have hL:Zb H L (.lst ((ps.map (·.1)).map V.str)) L=some (.lst ((ps.map (·.1)).map V.str)):=Zf;dsimp only [Z2];generalize Zb H L (.lst ((ps.map (·.1)).map V.str))=H1 at *;have hPd:=s1 _ _ hP.d;have hPt:∀p∈ps,SqT K H1 p.2.1 [.str p.2.2.1,.int p.2.2.2]:=fun p hp=>s1.sqt (hP.t p hp);have hK1:=s1 _ _ hK;have el:(((ps.map (·.1)).map V.str).length:Int)=(ps.length:Int):=by rw [Qd,Qd]
 obtain ⟨p,hp,r,hr',ne,a1,a2⟩:=ZiB hP.nd p2 c;refine ⟨_,rfl,_,rfl,_,rfl,L,_,rfl,.inl (.of hL),_,_,rfl,rfl,(by omega),L,_,_,_,rfl,rfl,.of hL,a1,?_⟩;refine ⟨_,rfl,_,rfl,_,_,rfl,rfl,_,rfl,_,_,rfl,rfl,⟨by decide,YC (by decide) (by decide)⟩,_,rfl,L,_,rfl,.inl (.of hL),_,_,rfl,rfl,_,_,rfl,rfl,(by omega),_,_,rfl,rfl,_,rfl,L,_,rfl,.inl (.of hL),_,_,rfl,rfl,(by omega),L,_,_,_,rfl,rfl,.of hL,a2,?_⟩;dsimp only [Z2];refine YN (fun σ Hx=>H1=Hx∧∃day,TwoOk ps p r day∧σ=[some (.ref D),some (.ref Dk),some (.int c),some (.int kd),some (.ref L),some (.str p.1),some (.str r.1),some (.int day),none,none,none,none]) (fun nx rest=>?_) ?_
 ·refine ⟨_,_,rfl,rfl,c18,_,rfl,_,rfl,D,_,rfl,PpAt.get hP.nd (.inl hPd) hp,_,_,_,_,rfl,rfl,hPt _ hp,Zh (j:=1) rfl,_,rfl,_,rfl,D,_,rfl,PpAt.get hP.nd (.inl hPd) hr',_,_,_,_,rfl,rfl,hPt _ hr',Zh (j:=1) rfl,_,_,rfl,_,rfl,_,_,rfl,rfl,⟨by decide,YC (by decide) (by decide)⟩,_,_,rfl,rfl,c6,_,_,rfl,rfl,Yq (by decide),_,_,rfl,rfl,_,_,rfl,rest _ _ ⟨rfl,_,?Zq,rfl⟩⟩;have x0:=QI (c.fdiv 600) (show (0:Int)<10 ^ (6:Int).toNat by decide);have d1:=pd p hp;have d2:=pd r hr';have e18:(10:Int) ^ (18:Int).toNat=10 ^ 18:=rfl;rw [e18];generalize (c.fdiv 600).fmod (10 ^ (6:Int).toNat)=x at *;refine ⟨hp,hr',ne,?_,?_,?_,?_⟩<;>(repeat' split)<;>omega
 rintro σ _ ⟨rfl,day0,two0,rfl⟩;refine ⟨Dk,XR kn,hK1,_,rfl,Dk,_,rfl,hK1,fun o=>Zmm (kn.map Zb6) ZfK ?mono (Zw (by rw [Qd];omega)) (fun σ=>∃w,σ=[w]) ⟨_,rfl⟩ (fun j H4 hj sm=>?go) (fun H4 sm=>?stop) (fun j σ H4 x H5 z hz hσ sm hx C hN hS=>?step) (fun D8 ys H8 nD8 s8 hD8 hlen hys=>?fin)⟩
 case mono =>
  rintro a Ha Hb v E5 xs ⟨cc,rfl,hc⟩ hE bt;exact ⟨cc,rfl,bt _ _ (fun z=>by rw [z,hE] at hc;cases hc) hc⟩
 case go=>exact ⟨sm _ _ Zf,by rw [Qd] at hj ⊢;exact hj⟩
 case stop=>exact ⟨sm _ _ Zf,by rw [Qd,Qd];exact Qf _⟩
 case step =>
  obtain ⟨w,rfl⟩:=hσ;obtain ⟨rfl,cc,pr,hpr,rfl,hcc⟩:=hx;rw [Qp] at hpr hz;obtain ⟨k,hk,rfl⟩:=QH.mp hpr;rw [hk] at hz;obtain rfl:=Ql hz;obtain ⟨zt,kr,rfl⟩:=ok.head (QB hk);refine ⟨_,rfl,cc,_,_,_,rfl,rfl,.of hcc,Zh (j:=0) rfl,rfl,_,rfl,?_⟩;by_cases e:zt="tie"
  ·subst e;exact Yb (Qo rfl) ⟨_,rfl,hS _ rfl _ _ _ ⟨_,rfl⟩ (Same.refl _) ⟨cc,rfl,hcc⟩⟩
  ·exact Zt (Qk (show ¬V.str zt=V.str "tie" from fun z=>e (V.str.inj z))) (hN (Qa fun z=>e (Rt (Ql (QC z)))) _ _ ⟨_,rfl⟩ (Same.refl _))
 case fin =>
 rw [ZhG] at hlen hys;refine ⟨o,s8 _ _ Zf,?_⟩;have s2:=ZmL hK1 s8;have D8k:D8≠Dk:=fun z=>by rw [z,Zf] at nD8;cases nD8
 have hY:(Zb H8 Dk (.dT (XR kn))) D8=some (.lst ys):=by rw [Ze D8k];exact hD8
 have hF8:=s8 _ _ Zf
 have hys2:∀(j:Nat) (y:V) (k:List Zi),ys[j]?=some y->(kn.filter Ul)[j]?=some k->ZfK k (Zb H8 Dk (.dT (XR kn))) y:=fun j y k e1 e2=>by
  obtain ⟨cc,e3,hc⟩:=hys j y k e1 e2;exact ⟨cc,e3,by rw [Ze (fun z=>by rw [z,hF8] at hc;cases hc)];exact hc⟩
 generalize Zb H8 Dk (.dT (XR kn))=H2 at *;have s12:=s1.trans s2;have hK2:=s2 _ _ hK1;dsimp only [Z2];refine YN (fun σ Hx=>H2=Hx∧∃p r day v9,TwoOk ps p r day∧σ=[some (.ref D),some (.ref Dk),some (.int c),some (.int kd),some (.ref L),some (.str p.1),some (.str r.1),some (.int day),some (.ref D8),v9,none,none]) (fun nx rest=>?_) ?_
 ·refine ⟨_,rfl,_,_,rfl,rfl,_,rfl,YB (fun h1=>⟨_,rfl,D8,_,rfl,.inl (.of hY),_,_,rfl,rfl,_,rfl,YB (fun h2=>?_) (fun h2=>?_)⟩) (fun h1=>?_)⟩
  ·have l0:0<ys.length:=by have:=QC h2;omega
   obtain ⟨j,ej⟩:∃j:Nat,c.fmod (ys.length:Int)=(j:Int):=⟨(c.fmod (ys.length:Int)).toNat,by have:=QI c (show (0:Int)<ys.length by omega);omega⟩;have jl:j<ys.length:=by have:=Q0 c (show (0:Int)<ys.length by omega);omega
   have jl2:j<(kn.filter Ul).length:=by omega
   have ea:Yi ys (c.fmod (ys.length:Int))=some ys[j]:=by rw [ej];exact Xq (Qt jl)
   obtain ⟨cc,ec,hcc⟩:=hys2 j _ _ (Qt jl) (Qt jl2);have mk:=Q7.mp (Go jl2);obtain ⟨p',q',d',two',ek⟩:=ok.tie mk.1 mk.2;rw [ek] at hcc;rw [ec] at ea;have tt:∀{i:Nat} {x:V},[V.str "tie",.str p'.1,.str q'.1,.int d'][i]?=some x->Yi (([.inr "tie",.inr p'.1,.inr q'.1,.inl d']:List Zi).map kV) (i:Int)=some x:=fun h=>Xq h;refine ⟨_,rfl,_,rfl,_,rfl,D8,_,rfl,.inl (.of hY),_,_,rfl,rfl,(by omega),D8,_,_,_,rfl,rfl,.of hY,ea,_,rfl,cc,_,_,_,rfl,rfl,.of hcc,tt (i:=2) rfl,_,rfl,cc,_,_,_,rfl,rfl,.of hcc,tt (i:=1) rfl,_,_,rfl,rfl,c18,_,rfl,cc,_,_,_,rfl,rfl,.of hcc,tt (i:=3) rfl,_,rfl,_,_,rfl,rfl,⟨by decide,YC (by decide) (by decide)⟩,_,_,rfl,rfl,Yq (by decide),_,_,rfl,rfl,_,_,rfl,rest _ _ ⟨rfl,q',p',_,_,?two2,rfl⟩⟩;have x0:=QI (c.fdiv 40) (show (0:Int)<4 by decide);have e18:(10:Int) ^ (18:Int).toNat=10 ^ 18:=rfl;rw [e18];generalize (c.fdiv 40).fmod 4=x at *;have t1:=two'.lp;have t2:=two'.lq;have t3:=two'.lo;have t4:=two'.hi;refine ⟨two'.iq,two'.ip,two'.ne.symm,?_,?_,?_,?_⟩<;>(repeat' split)<;>omega
  ·exact rest _ _ ⟨rfl,p,r,day0,none,two0,rfl⟩
  ·exact rest _ _ ⟨rfl,p,r,day0,none,two0,rfl⟩
 rintro σ _ ⟨rfl,p,r,day,v9,Zq,rfl⟩;refine ⟨_,rfl,_,rfl,_,_,rfl,_,rfl,_,rfl,_,_,rfl,_,rfl,few rfl,fun ak nak=>?_⟩;rw [ZbZ,ZbL];dsimp only [Z2];have s3:=Zj (o:=.tup [.str "tie",.str (Zg p.1 r.1).1,.str (Zg p.1 r.1).2,.int day]) nak;have hak:Zb H2 ak (.tup [.str "tie",.str (Zg p.1 r.1).1,.str (Zg p.1 r.1).2,.int day]) ak=some (.tup [.str "tie",.str (Zg p.1 r.1).1,.str (Zg p.1 r.1).2,.int day]):=Zf;generalize Zb H2 ak (.tup [.str "tie",.str (Zg p.1 r.1).1,.str (Zg p.1 r.1).2,.int day])=H3 at *;have s13:=s12.trans s3
 let JK:St->Hp->Prop:=fun σ Hx=>Same H Hx∧∃p r day ak ae e,TwoOk ps p r day∧DeedF ps e∧Hx ak=some (.tup (e.told.key.map kV))∧SqT K Hx ae (e.row.map kV)∧H ae=none∧σ=[some (.ref D),some (.ref Dk),some (.int c),some (.int kd),some (.ref L),some (.str p.1),some (.str r.1),some (.int day),some (.ref D8),v9,some (.ref ak),some (.ref ae)]
 refine YN JK (fun nx rest=>?_) ?_
 ·refine ⟨few rfl,fun lu nlu=>⟨_,rfl,_,_,rfl,rfl,.inr ⟨_,rfl,lu,_,_,_,rfl,rfl,.of Zf,Znb _,_,rfl,_,rfl,_,rfl,few rfl,fun ae nae=>rest _ _ ⟨?_,p,r,day,ak,ae,_,Zq,Zq.tie (decide (6<kd)),?_,?_,?_,rfl⟩⟩⟩⟩
  ·exact (s13.trans (Zj nlu)).trans (Zj nae)
  ·rw [ZjN,Ze (fun z=>by rw [←z] at nae;exact absurd ((Zj nlu) _ _ hak) (by rw [nae];simp)),Ze (ZU hak nlu)];exact hak
  ·rw [Zms];exact .of Zf
  ·exact ZK (s13.trans (Zj nlu)) nae
 rintro σ H4 ⟨s4,p,r,day,ak,ae,e,Zq,de,hka,hea,nae,rfl⟩
 try dsimp only [JK]
 refine YN JK (fun nx rest=>?_) ?_
 ·refine ⟨_,rfl,rfl,_,rfl,YB (fun h1=>?_) (fun h1=>?_)⟩
  ·have hPd4:=s4 _ _ hP.d;have hPt4:∀p∈ps,SqT K H4 p.2.1 [.str p.2.2.1,.int p.2.2.2]:=fun p hp=>s4.sqt (hP.t p hp);refine YN (fun σ Hx=>H4=Hx∧∃p r,TwoOk ps p r day∧r.2.2.2≤p.2.2.2∧σ=[some (.ref D),some (.ref Dk),some (.int c),some (.int kd),some (.ref L),some (.str p.1),some (.str r.1),some (.int day),some (.ref D8),v9,some (.ref ak),some (.ref ae)]) (fun nx' rest'=>?_) ?_
   ·refine ⟨_,rfl,_,rfl,D,_,rfl,PpAt.get hP.nd (.inl hPd4) Zq.ip,_,_,_,_,rfl,rfl,hPt4 _ Zq.ip,Zh (j:=1) rfl,_,rfl,_,rfl,D,_,rfl,PpAt.get hP.nd (.inl hPd4) Zq.iq,_,_,_,_,rfl,rfl,hPt4 _ Zq.iq,Zh (j:=1) rfl,_,_,rfl,rfl,_,rfl,YB (fun h2=>?_) (fun h2=>?_)⟩
    ·exact ⟨_,rfl,_,rfl,_,_,rfl,rest' _ _ ⟨rfl,r,p,Zq.swap,Int.le_of_lt (QC h2),rfl⟩⟩
    ·exact rest' _ _ ⟨rfl,p,r,Zq,Int.not_lt.mp (Re h2),rfl⟩
   rintro σ _ ⟨rfl,p,r,Zq,le,rfl⟩;refine ⟨_,rfl,_,rfl,few rfl,fun ak2 nak2=>⟨_,rfl,_,rfl,_,rfl,few rfl,fun ae2 nae2=>?_⟩⟩;have s5:=(Zj (o:=.tup [.str "taken",.str p.1,.str r.1]) nak2).trans (Zj (o:=.tup [.str "taken",.str p.1,.str r.1,.int day]) nae2);have hk5:Zb (Zb H4 ak2 (.tup [.str "taken",.str p.1,.str r.1])) ae2 (.tup [.str "taken",.str p.1,.str r.1,.int day]) ak2=some (.tup [.str "taken",.str p.1,.str r.1]):=by rw [Ze (ZU Zf nae2),Zf]
   have he5:Zb (Zb H4 ak2 (.tup [.str "taken",.str p.1,.str r.1])) ae2 (.tup [.str "taken",.str p.1,.str r.1,.int day]) ae2=some (.tup [.str "taken",.str p.1,.str r.1,.int day]):=Zf;have n5:H ae2=none:=ZK (s4.trans (Zj nak2)) nae2;dsimp only [Z2];generalize Zb (Zb H4 ak2 (.tup [.str "taken",.str p.1,.str r.1])) ae2 (.tup [.str "taken",.str p.1,.str r.1,.int day])=H5 at *;have s45:=s4.trans s5;have hPd5:=s45 _ _ hP.d;have hPt5:∀p∈ps,SqT K H5 p.2.1 [.str p.2.2.1,.int p.2.2.2]:=fun p hp=>s45.sqt (hP.t p hp);refine ⟨_,rfl,_,rfl,D,_,rfl,PpAt.get hP.nd (.inl hPd5) Zq.ip,_,_,_,_,rfl,rfl,hPt5 _ Zq.ip,Zh (j:=1) rfl,_,rfl,_,rfl,D,_,rfl,PpAt.get hP.nd (.inl hPd5) Zq.iq,_,_,_,_,rfl,rfl,hPt5 _ Zq.iq,Zh (j:=1) rfl,rfl,_,rfl,YB (fun h2=>?_) (fun h2=>?_)⟩
   ·exact qn _ s45
   ·have nd:p.2.2.2≠r.2.2.2:=fun z=>by rw [z] at h2;exact absurd h2 (by simp)
    exact rest _ _ ⟨s45,p,r,day,ak2,ae2,_,Zq,Zq.taken hP.nd (by omega),hk5,.of he5,n5,rfl⟩
  ·exact rest _ _ ⟨s4,p,r,day,ak,ae,e,Zq,de,hka,hea,nae,rfl⟩
 rintro σ H5 ⟨s5,p,r,day,ak,ae,e,Zq,de,hka,hea,nae,rfl⟩
 try dsimp only [JK]
 refine YN JK (fun nx rest=>?_) ?_
 ·refine ⟨_,rfl,rfl,_,rfl,YB (fun h1=>⟨_,rfl,_,_,rfl,rfl,Yq (by decide),rfl,_,rfl,YB (fun h2=>?_) (fun h2=>?_)⟩) (fun h1=>?_)⟩
  ·refine ⟨_,rfl,few rfl,fun ak2 nak2=>⟨_,rfl,_,rfl,few rfl,fun ae2 nae2=>rest _ _ ⟨?_,p,r,day,ak2,ae2,_,Zq,Zq.dead,?_,.of Zf,?_,rfl⟩⟩⟩
   ·exact (s5.trans (Zj nak2)).trans (Zj nae2)
   ·rw [Ze (ZU Zf nae2),Zf];rfl
   ·exact ZK (s5.trans (Zj nak2)) nae2
  ·exact rest _ _ ⟨s5,p,r,day,ak,ae,e,Zq,de,hka,hea,nae,rfl⟩
  ·exact rest _ _ ⟨s5,p,r,day,ak,ae,e,Zq,de,hka,hea,nae,rfl⟩
 rintro σ H6 ⟨s6,p,r,day,ak,ae,e,Zq,de,hka,hea,nae,rfl⟩;have hK6:=s6 _ _ hK;refine ⟨_,rfl,_,rfl,Dk,_,rfl,DGet.t hK6 hka,_,rfl,?_⟩;by_cases mem:e.told.key∈kn
 ·rw [Zhs mem];exact Z4 (qn _ s6)
 ·rw [ZfA mem];refine ZY ⟨_,rfl,_,rfl,Dk,_,rfl,DPut.t (k:=e.told.key) hK6 hka (Zw (by rw [Qd];omega)),?_⟩;rw [US _ (ZfA mem)];refine ⟨_,rfl,q _ ae e (fun b u nb hb=>by rw [Ze nb];exact s6 _ _ hb) nae ?_ ?_ mem de⟩
  ·exact YH hea hK6 (fun _ z=>by cases z) (fun _ _ z=>by cases z)
  ·rw [Zf];unfold XR;rw [Qq];rfl
theorem Zl7 (T:Tx K w mg) (XU:J0 P base T) (Zdj:Zet P base T) (ZcJ:Zhi P base T) (Zca:ZeK P base T) (ZcT:Zgb P base T):Zhl P base T:=by
 refine Fun.okX (k:=1) T.Zbk.F WA (fun vs H Q E h=>h.1) (fun cdv A outer s H vs Q E hr h=>?_);obtain ⟨-,h⟩:=h;obtain ⟨l,ss,rfl,hl,l63,q⟩:=h
 refine ⟨_,(Zk (Zv (i:=2) WA.nd rfl (Or.inl rfl) (ZM Zdj hr Zy (Za (ZM XU hr Zy (Za (pv 0) (Za Zd Zc))) Zc)))
   (Zk (Zv (i:=3) WA.nd rfl (Or.inl rfl) Vv)
   (Zk (Zv (i:=4) WA.nd rfl (Or.inl rfl) VC)
   (Zk (Zv (i:=5) WA.nd rfl (Or.inl rfl) (Ys Zc))
   (Zk (Yu QG rfl (Zho (by rfl) T.n_range (Za Zd (Za (ZO (Zcg rfl) (by rfl) T.n_min Ui (Za (ZO Yy (by rfl) T.n_len Yd (Za (pv 0) Zc)) (Za (Zo YT Zd (pv 1)) Zc))) Zc))) (ZS (i:=6) WA.nd rfl (Or.inl rfl))
    (Zk (Zv (i:=7) WA.nd rfl (Or.inl rfl) (Zo Y4 (Zl Ym (pv 0) (pv 6) (fun _ _=>rfl)) Zd))
   (Zk (Zv (i:=8) WA.nd rfl (Or.inl rfl) (Zo Z9 (Zl Ym (pv 0) (pv 6) (fun _ _=>rfl)) Zd))
   (Zk (ZH (PW.pt (X4 (Zx WP (ZO Zbh (by rfl) T.n_len Yd (Za (pv 3) Zc)) Zd (Zu _)) (Wu (PW.pt (WM (Zx WP (pv 8) Zd (Zu _)) (WI (Zx WP (ZO Zbh (by rfl) T.n_len Yd (Za (pv 3) Zc)) Zd (Zu _)))))))) (Zk (Zv (i:=9) WA.nd rfl (Or.inl rfl) (ZM Zca hr Zy (Za (pv 3) (Za (pv 2) (Za (pv 7) (Za (ZM ZcJ hr Zy (Za (pv 7) (Za (pv 6) (Za (Zo Z9 (ZM XU hr Zy (Za (pv 0) (Za Zd Zc))) Zd) Zc)))) Zc))))))
   (Zm (Xz (ZX hr) (pv 3) (Zl Zp (pv 9) Zd (fun _ _=>rfl)) (ZZ (Za (Zl Zp (pv 9) Zd (fun _ _=>rfl)) (Za (Zl Zp (pv 9) Zd (fun _ _=>rfl)) Zc))) rfl))) (Zm (Zv (i:=9) WA.nd rfl (Or.inl rfl) (ZM ZcT hr Zy (Za (pv 3) (Za (pv 4) (Za (pv 7) (Za (pv 8) Zc))))))))
   (Zm (ZH (Zx ZmH (pv 9) VI (Zu _)) (Zm (Yh (Wt Rq Rr Rs X9 (pv 5) (Za (pv 9) Zc)))) ZL))))))
   (Zm (ZA (pv 5)))))))),?_⟩
 refine ⟨_,rfl,rfl,l,ss,0,rfl,hl,by decide,fun z0=>⟨rfl,z0,rfl,fun H1 Ln ns s1 nLn hLn N=>?_⟩⟩;refine fun D nD=>fun Dk nDk=>⟨few rfl,fun Le nLe=>?_⟩;have eD:=Zj (o:=.dK []) nD;have eDk:=Zj (o:=.dT []) nDk;have eLe:=Zj (o:=.lst []) nLe;have nDH:=ZK s1 nD;have nDkH:=ZK (s1.trans eD) nDk;have nLeH:=ZK ((s1.trans eD).trans eDk) nLe;have DkD:Dk≠D:=fun z=>by rw [z,Zf] at nDk;cases nDk
 have LeDk:Le≠Dk:=fun z=>by rw [z,Zf] at nLe;cases nLe
 have LeD:Le≠D:=fun z=>by rw [z,Ze DkD.symm,Zf] at nLe;cases nLe
 have LnD:Ln≠D:=ZU hLn nD;have DkLn:Dk≠Ln:=fun z=>by rw [z,Ze LnD] at nDk;rw [nDk] at hLn;cases hLn
 have LeLn:Le≠Ln:=fun z=>by rw [z,eDk _ _ (eD _ _ hLn)] at nLe;cases nLe
 have ln:(ss.map V.int).length=ss.length:=Qd ..;have s4:=((s1.trans eD).trans eDk).trans eLe;refine ⟨_,rfl,l,_,rfl,.inl (s4.sql hl),_,rfl,_,_,rfl,rfl,_,_,rfl,_,_,rfl,⟨by omega,by omega,by split<;>omega,by split<;>omega⟩,UI (lo:=3) (fun i σ Hc=>∃(ks:List (Ent×Addr)) (ps:List Pp) (kn:List (List Zi)) (v6 v7 v8 v9:Option V),σ=[some (.ref l),some (.int 30),some (.ref Ln),some (.ref D),some (.ref Dk),some (.ref Le),v6,v7,v8,v9]∧Same H Hc∧Hc Ln=some (.lst (ns.map V.str))∧PpAt K Hc D ps∧Hc Dk=some (.dT (XR kn))∧Hc Le=some (.lst (Z3 ks))∧W2 K Hc ks∧EI ns (ks.map (·.1)) ps kn∧ks.length≤i) ⟨[],[],[],_,_,_,_,rfl,s4,eLe _ _ (eDk _ _ (eD _ _ hLn)),⟨by rw [Ze LeD.symm,Ze DkD.symm];exact Zf,fun p hp=>(by cases hp),.nil⟩,by rw [Ze LeDk.symm];exact Zf,Zf,fun p hp=>(by cases hp),EI.start,Qf _⟩ ?turn ?done⟩
 case done =>
  rintro σ Hc ⟨ks,ps,kn,v6,v7,v8,v9,rfl,sc,hLnc,hP,hK,hLe,hR,ei,kl⟩;refine ⟨_,rfl,q _ Le ks ns sc nLeH hLe hR N ei.good ?_⟩;have:(if (3:Int)+30<((ss.map V.int).length:Int) then (3:Int)+30 else ((ss.map V.int).length:Int))≤33:=by split<;>omega
  omega
 case turn =>
  rintro i σ Hc hi ⟨ks,ps,kn,v6,v7,v8,v9,rfl,sc,hLnc,hP,hK,hLe,hR,ei,kl⟩
  have hb:3+i<ss.length∧i<30:=by
   rw [ln] at hi;split at hi<;>omega
  have ek:(3:Int)+(i:Int)=((3+i:Nat):Int):=by omega
  rw [ek];have atk:Yi (ss.map V.int) ((3+i:Nat):Int)=some (.int ss[3+i]):=Xq (by rw [Qp,Qt hb.1];rfl);refine ⟨_,rfl,_,rfl,l,_,_,_,rfl,rfl,sc.sql hl,atk,_,_,rfl,rfl,⟨by decide,YC (by decide) (by decide)⟩,_,rfl,_,rfl,l,_,_,_,rfl,rfl,sc.sql hl,atk,_,_,rfl,rfl,Yq (by decide),?_⟩;dsimp only [Z2];refine YN (fun σ Hx=>Same H Hx∧Hx Ln=some (.lst (ns.map V.str))∧∃(ps:List Pp) (kn:List (List Zi)) (v9:V),PpAt K Hx D ps∧Hx Dk=some (.dT (XR kn))∧Hx Le=some (.lst (Z3 ks))∧W2 K Hx ks∧σ=[some (.ref l),some (.int 30),some (.ref Ln),some (.ref D),some (.ref Dk),some (.ref Le),some (.int ((3+i:Nat):Int)),some (.int (ss[3+i].fdiv 9)),some (.int (ss[3+i].fmod 9)),some v9]∧((v9=.non∧EI ns (ks.map (·.1)) ps kn)∨∃a e,v9=.ref a∧SqT K Hx a (e.row.map kV)∧EI ns (ks.map (·.1)++[e]) ps kn)) (fun nx rest=>?_) ?_
  ·have pl:((XC ps).length:Int)=(ps.length:Int):=by rw [Qd]
   refine ⟨_,rfl,D,_,rfl,hP.d,_,_,rfl,rfl,_,rfl,YB (fun h1=>?b1) (fun h1=>⟨_,rfl,_,_,rfl,rfl,_,rfl,YB (fun h2=>⟨_,rfl,D,_,rfl,hP.d,_,_,rfl,rfl,_,rfl,YB (fun h3=>?b2) (fun h3=>?d1)⟩) (fun h2=>?d2)⟩)⟩
   case b1 =>
    have l24:ps.length<24:=by have:=QC h1;omega
    refine ⟨_,rfl,_,rfl,_,rfl,_,rfl,_,rfl,_,rfl,rfl,l,ss,1,rfl,sc.sql hl,by decide,fun z=>⟨_,_,rfl,rfl,Yq (by decide),rfl,_,_,_,rfl,by omega,by omega,fun d d1 d2=>⟨rfl,D,Ln,_,d,ps,ns,rfl,hP,.of hLnc,N.len,l24,fun H5 a n s f m s5 na ha hn hs hf hm=>?_⟩⟩⟩;refine ⟨_,rfl,a,_,_,_,rfl,rfl,ha,Zh (j:=2) rfl,_,rfl,a,_,_,_,rfl,rfl,ha,Zh (j:=3) rfl,few rfl,fun at' nat=>?_⟩;have s6:=s5.trans (Zj (o:=.tup [.str s,.int d]) nat);have hD6:=s6 _ _ hP.d
    have nin:n∉ps.map (·.1):=fun z=>by
     have nd':(ns.take (ps.length+1)).Nodup:=N.nd.sublist (Gf ..);rw [Q5,hn,←ei.nm] at nd';exact (Rc.mp nd').2.2 n z n (by simp) rfl
    refine ⟨_,rfl,_,rfl,a,_,_,_,rfl,rfl,(Zj nat).sqt ha,Zh (j:=1) rfl,D,_,rfl,DPut.k (k:=.inr n) hD6 (Zw (by rw [Qd];omega)),?_⟩;rw [Zfz (s:=s) (d:=d) nin];have ei':=ei.birth N (a:=at') hn l24 hs hf hm d1 d2;have pt:∀{c:Addr} {xs:List V},SqT K (Zb H5 at' (.tup [.str s,.int d])) c xs->SqT K (Zb (Zb H5 at' (.tup [.str s,.int d])) D (.dK (XC (ps++[(n,at',s,d)])))) c xs:=fun h=>YH h hD6 (fun _ z=>by cases z) (fun _ _ z=>by cases z);refine rest _ _ ⟨fun c u e=>by rw [Ze (fun z=>by rw [z,nDH] at e;cases e)];exact s6 _ _ (sc _ _ e),by rw [Ze LnD];exact s6 _ _ hLnc,_,kn,_,⟨Zf,fun p hp=>?_,ei'.nd N⟩,by rw [Ze DkD];exact s6 _ _ hK,by rw [Ze LeD];exact s6 _ _ hLe,fun p hp=>pt (s6.sqt (hR p hp)),rfl,.inr ⟨a,_,rfl,pt ((Zj nat).sqt ha),ei'⟩⟩;rcases Qm.mp hp with hp|hp
    ·exact pt (s6.sqt (hP.t p hp))
    ·rw [show p=(n,at',s,d) by simpa using hp];exact pt (.of Zf)
   case b2 =>
    have l24:ps.length<24:=by have:=QC h3;omega
    refine ⟨_,rfl,_,rfl,_,rfl,_,rfl,_,rfl,_,rfl,rfl,l,ss,1,rfl,sc.sql hl,by decide,fun z=>⟨_,_,rfl,rfl,Yq (by decide),rfl,_,_,_,rfl,by omega,by omega,fun d d1 d2=>⟨rfl,D,Ln,_,d,ps,ns,rfl,hP,.of hLnc,N.len,l24,fun H5 a n s f m s5 na ha hn hs hf hm=>?_⟩⟩⟩;refine ⟨_,rfl,a,_,_,_,rfl,rfl,ha,Zh (j:=2) rfl,_,rfl,a,_,_,_,rfl,rfl,ha,Zh (j:=3) rfl,few rfl,fun at' nat=>?_⟩;have s6:=s5.trans (Zj (o:=.tup [.str s,.int d]) nat);have hD6:=s6 _ _ hP.d
    have nin:n∉ps.map (·.1):=fun z=>by
     have nd':(ns.take (ps.length+1)).Nodup:=N.nd.sublist (Gf ..);rw [Q5,hn,←ei.nm] at nd';exact (Rc.mp nd').2.2 n z n (by simp) rfl
    refine ⟨_,rfl,_,rfl,a,_,_,_,rfl,rfl,(Zj nat).sqt ha,Zh (j:=1) rfl,D,_,rfl,DPut.k (k:=.inr n) hD6 (Zw (by rw [Qd];omega)),?_⟩;rw [Zfz (s:=s) (d:=d) nin];have ei':=ei.birth N (a:=at') hn l24 hs hf hm d1 d2;have pt:∀{c:Addr} {xs:List V},SqT K (Zb H5 at' (.tup [.str s,.int d])) c xs->SqT K (Zb (Zb H5 at' (.tup [.str s,.int d])) D (.dK (XC (ps++[(n,at',s,d)])))) c xs:=fun h=>YH h hD6 (fun _ z=>by cases z) (fun _ _ z=>by cases z);refine rest _ _ ⟨fun c u e=>by rw [Ze (fun z=>by rw [z,nDH] at e;cases e)];exact s6 _ _ (sc _ _ e),by rw [Ze LnD];exact s6 _ _ hLnc,_,kn,_,⟨Zf,fun p hp=>?_,ei'.nd N⟩,by rw [Ze DkD];exact s6 _ _ hK,by rw [Ze LeD];exact s6 _ _ hLe,fun p hp=>pt (s6.sqt (hR p hp)),rfl,.inr ⟨a,_,rfl,pt ((Zj nat).sqt ha),ei'⟩⟩;rcases Qm.mp hp with hp|hp
    ·exact pt (s6.sqt (hP.t p hp))
    ·rw [show p=(n,at',s,d) by simpa using hp];exact pt (.of Zf)
   case d1 =>
    have p2:2≤ps.length:=by have:=Re h1;omega
    refine ⟨_,rfl,_,rfl,_,rfl,_,rfl,rfl,D,Dk,_,_,ps,kn,rfl,hP,hK,p2,ei.len,by have:=ei.knl;rw [Qd] at this;omega,ei.ok,ei.pd,fun H5 s5=>rest _ _ ⟨sc.trans s5,s5 _ _ hLnc,ps,kn,_,hP.mono s5,s5 _ _ hK,s5 _ _ hLe,fun p hp=>s5.sqt (hR p hp),rfl,.inl ⟨rfl,ei⟩⟩,fun H5 a e fr na ha hK5 nk de=>rest _ _ ⟨fun c u e=>fr _ _ (fun z=>by rw [z,nDkH] at e;cases e) (sc _ _ e),fr _ _ DkLn.symm hLnc,ps,kn++[e.told.key],_,⟨fr _ _ DkD.symm hP.d,fun p hp=>Zas fr hK (hP.t p hp),hP.nd⟩,hK5,fr _ _ LeDk hLe,fun p hp=>Zas fr hK (hR p hp),rfl,.inr ⟨a,e,rfl,ha,ei.deed N de nk⟩⟩⟩
   case d2 =>
    have p2:2≤ps.length:=by have:=Re h1;omega
    refine ⟨_,rfl,_,rfl,_,rfl,_,rfl,rfl,D,Dk,_,_,ps,kn,rfl,hP,hK,p2,ei.len,by have:=ei.knl;rw [Qd] at this;omega,ei.ok,ei.pd,fun H5 s5=>rest _ _ ⟨sc.trans s5,s5 _ _ hLnc,ps,kn,_,hP.mono s5,s5 _ _ hK,s5 _ _ hLe,fun p hp=>s5.sqt (hR p hp),rfl,.inl ⟨rfl,ei⟩⟩,fun H5 a e fr na ha hK5 nk de=>rest _ _ ⟨fun c u e=>fr _ _ (fun z=>by rw [z,nDkH] at e;cases e) (sc _ _ e),fr _ _ DkLn.symm hLnc,ps,kn++[e.told.key],_,⟨fr _ _ DkD.symm hP.d,fun p hp=>Zas fr hK (hP.t p hp),hP.nd⟩,hK5,fr _ _ LeDk hLe,fun p hp=>Zas fr hK (hR p hp),rfl,.inr ⟨a,e,rfl,ha,ei.deed N de nk⟩⟩⟩
  ·rintro σ Hx ⟨sx,hLnx,ps,kn,v9,hP,hK,hLe,hR,rfl,hv⟩;rcases hv with ⟨rfl,ei⟩|⟨a,e,rfl,ha,ei⟩
   ·exact ⟨_,rfl,rfl,_,rfl,Zt (by rfl) ⟨ks,ps,kn,_,_,_,_,rfl,sx,hLnx,hP,hK,hLe,hR,ei,by omega⟩⟩
   ·refine ⟨_,rfl,rfl,_,rfl,Yb (by rfl) ⟨_,rfl,.inl ⟨rfl,_,.of hLe⟩,_,rfl,Le,_,_,rfl,rfl,hLe,Zw (by rw [Wf];omega),ks++[(e,a)],ps,kn,_,_,_,_,rfl,fun c u e=>by rw [Ze (fun z=>by rw [z,nLeH] at e;cases e)];exact sx _ _ e,?_,⟨?_,fun p hp=>?_,hP.nd⟩,?_,?_,fun p hp=>?_,?_,?_⟩⟩
    ·rw [Ze LeLn.symm];exact hLnx
    ·rw [Ze LeD.symm];exact hP.d
    ·exact YH (hP.t p hp) hLe (fun _ z=>by cases z) (fun _ _ z=>by cases z)
    ·rw [Ze LeDk.symm];exact hK
    ·rw [Zf,Zmr]
    ·rcases Qm.mp hp with hp|hp
     ·exact YH (hR p hp) hLe (fun _ z=>by cases z) (fun _ _ z=>by cases z)
     ·rw [show p=(e,a) by simpa using hp];exact YH ha hLe (fun _ z=>by cases z) (fun _ _ z=>by cases z)
    ·rw [Qq];exact ei
    ·rw [Qw];exact NI kl
theorem ZnX (T:Tx K w mg)  : Zeb P base T:=by
 refine Fun.okX (k:=0) T.Za9.F Zlh (fun vs H Q E h=>h.1) (fun cdv A outer s H vs Q E hr h=>?_);obtain ⟨-,h⟩:=h;obtain ⟨D,L,lo,hi,ed,n,rfl,hE,hb,n5,hL,q⟩:=h
 refine ⟨_,(Zk (Yh (Wt Rq Rr Rs X9 (JU (ZX hr) (pv 0) (ZZ (Za (pv 1) (Za (pv 2) Zc))) (Ys Zc) ⟨rfl,rfl,rfl,rfl⟩) (Za (pv 3) Zc)))
   (Zm (Yh (Wt Rq Rr Rs X9 (JU (ZX hr) (pv 0) (ZZ (Za (ZeU K PySem.F.plainAttrs_str PySem.F.slot_str_lower PySem.F.type_str_lower Zi6 (pv 1)) (Za (pv 3) Zc))) (Ys Zc) ⟨rfl,rfl,rfl,rfl⟩) (Za (pv 2) Zc))))),?_⟩
 refine YN (fun σ Hx=>σ=[some (.ref D),some (.str L),some (.str lo),some (.str hi)]∧Ue D ed n (L,lo) hi H Hx) (fun nx rest=>?_) ?_
 ·refine ⟨_,rfl,D,rfl,.inr ⟨_,.inl hE.d⟩,_,rfl,_,rfl,few rfl,fun t nt=>⟨few rfl,fun z nz=>?_⟩⟩;have st:=Zj (o:=.tup [.str ((L,lo):Str×Str).1,.str ((L,lo):Str×Str).2]) nt;have sz:=Zj (o:=.lst []) nz;obtain ⟨hD2,ln2,old,new⟩:=ZaY (c:=((L,lo):Str×Str)) (x:=hi) hE hb (by omega) (st.trans sz) (ZK st nz) Zf;refine ⟨Xg ed,Zq ((L,lo):Str×Str),t,hD2,rfl,sz _ _ Zf,ln2,fun v hv=>?_,fun hv=>?_⟩
  ·obtain ⟨b,xs,rfl,hb2,lx,add⟩:=old v hv;exact ⟨.inl ⟨rfl,_,.of hb2⟩,_,rfl,b,_,_,rfl,rfl,hb2,lx,rest _ _ ⟨rfl,add⟩⟩
  ·obtain ⟨hz3,add⟩:=new hv;exact ⟨.inl ⟨rfl,_,.of hz3⟩,_,rfl,z,_,_,rfl,rfl,hz3,Zw (by simp),rest _ _ ⟨rfl,add⟩⟩
 rintro σ H1 ⟨rfl,ed1,hE1,hb1,lk1,fr1⟩;have ll:L.length≤1000:=by rcases hL with rfl|rfl|rfl<;>decide +kernel
 have fin:∀H',Ue D ed1 (n+1) (Zbl L,hi) lo H1 H'->Q .non H':=fun H' ⟨ed2,hE2,hb2,lk2,fr2⟩=>q H' ed2 hE2 hb2 (fun c=>by rw [lk2,show lk ed1=Z0 (lk ed) (L,lo) hi from funext lk1]) (fr1.trans fr2);refine ⟨_,rfl,D,rfl,.inr ⟨_,.inl hE1.d⟩,_,rfl,rfl,L,rfl,rfl,ll,_,rfl,few rfl,fun t nt=>⟨few rfl,fun z nz=>?_⟩⟩;have st:=Zj (o:=.tup [.str ((Txt.lower L,hi):Str×Str).1,.str ((Txt.lower L,hi):Str×Str).2]) nt;have sz:=Zj (o:=.lst []) nz;obtain ⟨hD2,ln2,old,new⟩:=ZaY (c:=((Txt.lower L,hi):Str×Str)) (x:=lo) hE1 hb1 (by omega) (st.trans sz) (ZK st nz) Zf;refine ⟨Xg ed1,Zq ((Txt.lower L,hi):Str×Str),t,hD2,rfl,sz _ _ Zf,ln2,fun v hv=>?_,fun hv=>?_⟩
 ·obtain ⟨b,xs,rfl,hb2,lx,add⟩:=old v hv;exact ⟨.inl ⟨rfl,_,.of hb2⟩,_,rfl,b,_,_,rfl,rfl,hb2,lx,fin _ (by rw [←Zeq hL];exact add)⟩
 ·obtain ⟨hz3,add⟩:=new hv;exact ⟨.inl ⟨rfl,_,.of hz3⟩,_,rfl,z,_,_,rfl,rfl,hz3,Zw (by simp),fin _ (by rw [←Zeq hL];exact add)⟩
theorem ZmF (T:Tx K w mg) (Zbe:Zeb P base T):Zf0 P base T:=by
 refine Fun.okX (k:=1) T.Zaz.F WS (fun vs H Q E h=>h.1) (fun cdv A outer s H vs Q E hr h=>?_);obtain ⟨-,h⟩:=h;obtain ⟨Le,ks,ns,rfl,hLe,hR,gd,l40,q⟩:=h
 refine ⟨_,(Zk (Zv (i:=1) WS.nd rfl (Or.inl rfl) VC)
   (Zk (Zv (i:=2) WS.nd rfl (Or.inl rfl) VC)
   (Zk (Yu QG rfl (YJ (pv 0)) (ZS (i:=3) WS.nd rfl (Or.inl rfl))
    (Zk (ZH (Zx Z5 (Zl Zp (pv 3) Zd (fun _ _=>rfl)) Zs (Zu _)) (Zk (Xz (ZX hr) (pv 1) (ZZ (Za (Zl Zp (pv 3) Zd (fun _ _=>rfl)) (Za (Zl Zp (pv 3) Zd (fun _ _=>rfl)) Zc))) (Ys (Za (Zl Zp (pv 3) Zd (fun _ _=>rfl)) Zc)) rfl)
   (Zm (Yu QG rfl (YJ (Ys (Za (ZZ (Za Zs (Za (Zl Zp (pv 3) Zd (fun _ _=>rfl)) Zc))) (Za (ZZ (Za Zs (Za (Zl Zp (pv 3) Zd (fun _ _=>rfl)) Zc))) Zc)))) (Jk rfl (Wz (ZS (i:=4) WS.nd rfl (Or.inl rfl)) (Wz (ZS (i:=5) WS.nd rfl (Or.inl rfl)) UV)))
    (Zm (ZH (Zx WR (pv 5) Zs (Zu _)) (Zm (Yh (ZM Zbe hr Zy (Za (pv 1) (Za (pv 4) (Za (Zl Zp (pv 3) Zd (fun _ _=>rfl)) (Za (pv 5) Zc))))))) ZL))))) ZL)
   (Zk (ZH (Zx Z5 (Zl Zp (pv 3) Zd (fun _ _=>rfl)) Zs (Zu _)) (Zm (Yh (ZM Zbe hr Zy (Za (pv 1) (Za Zs (Za (Zl Zp (pv 3) Zd (fun _ _=>rfl)) (Za (Zl Zp (pv 3) Zd (fun _ _=>rfl)) Zc))))))) ZL)
   (Zm (ZH (PW.pt (X4 (Zx Z5 (Zl Zp (pv 3) Zd (fun _ _=>rfl)) Zs (Zu _)) (Wu (Zx Z5 (Zl Zp (pv 3) Zd (fun _ _=>rfl)) Zs (Zu _))))) (Zk (Zv (i:=6) WS.nd rfl (Or.inl rfl) (ZZ (Za (ZO (Zcs rfl) (by rfl) T.n_min Ui (Za (Zl Zp (pv 3) Zd (fun _ _=>rfl)) (Za (Zl Zp (pv 3) Zd (fun _ _=>rfl)) Zc))) (Za (ZO (Zdh rfl) (by rfl) T.n_max Jo (Za (Zl Zp (pv 3) Zd (fun _ _=>rfl)) (Za (Zl Zp (pv 3) Zd (fun _ _=>rfl)) Zc))) Zc))))
   (Zm (ZH (PW.pt (X4 (Jq (Zd5 (ZX hr) (pv 6) (pv 2))) (Wu (Zx WP (Zl Zp (Xp (ZX hr) (pv 2) (pv 6) (fun _ _=>rfl)) Zd (fun _ _=>rfl)) (Zl Zp (pv 3) Zd (fun _ _=>rfl)) (Zu _))))) (Zm (Xz (ZX hr) (pv 2) (pv 6) (ZZ (Za (Zl Zp (pv 3) Zd (fun _ _=>rfl)) (Za (Zl Zp (pv 3) Zd (fun _ _=>rfl)) Zc))) rfl)) ZL))) ZL)))))
   (Zk (Ze1 (Yu QG rfl (ZkU (ZeU K Nn PySem.F.slot_dict_items PySem.F.type_dict_items ZmR (pv 2))) (Jk rfl (Wz (ZS (i:=6) WS.nd rfl (Or.inl rfl)) (Wz (ZS (i:=7) WS.nd rfl (Or.inl rfl)) UV)))
    (Zm (ZH (Zx Z5 (Zl Zp (pv 7) Zd (fun _ _=>rfl)) Zs (Zu _)) (Zk (Yh (Wt Rq Rr Rs X9 (JU (ZX hr) (pv 1) (ZZ (Za Zs (Za (Zl Zp (pv 6) Zd (fun _ _=>rfl)) Zc))) (Ys Zc) ⟨rfl,rfl,rfl,rfl⟩) (Za (Zl Zp (pv 6) Zd (fun _ _=>rfl)) Zc)))
   (Zm (Yh (Wt Rq Rr Rs X9 (JU (ZX hr) (pv 1) (ZZ (Za Zs (Za (Zl Zp (pv 6) Zd (fun _ _=>rfl)) Zc))) (Ys Zc) ⟨rfl,rfl,rfl,rfl⟩) (Za (Zl Zp (pv 6) Zd (fun _ _=>rfl)) Zc))))) ZL))))
   (Zm (ZA (pv 1))))))),?_⟩
 refine fun D nD=>fun Dl nDl=>?_;have eD:=Zj (o:=.dT []) nD;have eDl:=Zj (o:=.dT []) nDl;have s0:=eD.trans eDl;have nDlH:=ZK eD nDl;have DlD:Dl≠D:=fun z=>by rw [z,Zf] at nDl;cases nDl
 refine ⟨_,rfl,Le,rfl,⟨_,s0.sql hLe⟩,XH (xs:=Z3 ks) (fun i σ Hc=>∃(ed:Ed) (ls:Xx) (v3 v4 v5 v6 v7:Option V),σ=[some (.ref Le),some (.ref D),some (.ref Dl),v3,v4,v5,v6,v7]∧Same H Hc∧EdAt Hc D ed∧EdB ed (5*i)∧(∀c,lk ed c=Yn ((ks.take i).map (·.1)) c)∧(∀b∈ed.map (·.2.1),H b=none)∧LsAt K Hc Dl ls∧(∀c,(ZB c ls).map (·.2)=YE ((ks.take i).map (·.1)) c)∧ls.length≤i) ?start ?list ?turn ?done⟩
 case start=>exact ⟨[],[],_,_,_,_,_,rfl,s0,⟨by rw [Ze DlD.symm];exact Zf,fun q hq=>(by cases hq),.nil,.nil⟩,⟨QK _,fun q hq=>(by cases hq)⟩,fun c=>rfl,fun b hb=>(by cases hb),⟨Zf,fun q hq=>(by cases hq),.nil⟩,fun c=>rfl,Qf _⟩
 case list =>
  rintro i σ Hc _ ⟨ed,ls,v3,v4,v5,v6,v7,rfl,sc,_⟩;exact sc.sql hLe
 case turn =>
  rintro i y σ Hc hy ⟨ed,ls,v3,v4,v5,v6,v7,rfl,sc,hE,hb,hlk,hn,hl,hla,ll⟩;obtain ⟨⟨e,a⟩,hp,rfl⟩:=ZaZ hy;have il:=(QJ.mp hp).1;have row:=sc.sqt (hR _ (QB hp));have tk:(ks.take (i+1)).map (·.1)=(ks.take i).map (·.1)++[e]:=Zdm hp;by_cases et:e.tie=true
  ·obtain ⟨x,y,d,W,hr,hW,epr,ekd,edy⟩:=Zot et;rw [hr] at row;have eS:∀f:ZI,Yt f e=f:=fun f=>Zmq et;rcases hW with eW|eW;refine ⟨_,rfl,a,_,_,_,rfl,rfl,row,Zh (j:=0) rfl,rfl,_,rfl,Zt (by rw [eW];decide +kernel) ⟨_,rfl,a,_,_,_,rfl,rfl,row,Zh (j:=0) rfl,rfl,_,rfl,Zt (by rw [eW];decide +kernel) ⟨_,rfl,a,_,_,_,rfl,rfl,row,Zh (j:=0) rfl,rfl,_,rfl,Yb (by rw [eW];decide +kernel) ?_⟩⟩⟩
   rotate_left
   refine ⟨_,rfl,a,_,_,_,rfl,rfl,row,Zh (j:=0) rfl,rfl,_,rfl,Zt (by rw [eW];decide +kernel) ⟨_,rfl,a,_,_,_,rfl,rfl,row,Zh (j:=0) rfl,rfl,_,rfl,Zt (by rw [eW];decide +kernel) ⟨_,rfl,a,_,_,_,rfl,rfl,row,Zh (j:=0) rfl,rfl,_,rfl,Zt (by rw [eW];decide +kernel) ⟨_,rfl,a,_,_,_,rfl,rfl,row,Zh (j:=0) rfl,rfl,_,rfl,Yb (by rw [eW];decide +kernel) ?_⟩⟩⟩⟩
   all_goals
    refine ⟨_,rfl,a,_,_,_,rfl,rfl,row,Zh (j:=1) rfl,_,rfl,a,_,_,_,rfl,rfl,row,Zh (j:=2) rfl,_,_,rfl,_,rfl,a,_,_,_,rfl,rfl,row,Zh (j:=1) rfl,_,rfl,a,_,_,_,rfl,rfl,row,Zh (j:=2) rfl,_,_,rfl,few rfl,fun tp ntp=>?_⟩;rw [ZbZ,ZbL];have s1:=Zj (o:=.tup [.str (Zg x y).1,.str (Zg x y).2]) ntp;have htp:Zb Hc tp (.tup [.str (Zg x y).1,.str (Zg x y).2]) tp=some (.tup [.str (Zg x y).1,.str (Zg x y).2]):=Zf;dsimp only [Z2];generalize Zb Hc tp (.tup [.str (Zg x y).1,.str (Zg x y).2])=H1 at *;have hl1:=hl.mono s1;have row1:=s1.sqt row;have g:=DGet.t (k:=Zq (Zg x y)) hl1.d htp;rw [ZdV] at g;have lla:=hla (Zg x y);have keep:∀c,c≠Zg x y->YE ((ks.take i).map (·.1)++[e]) c=YE ((ks.take i).map (·.1)) c:=fun c nc=>by rw [Za1];exact Qa fun z=>nc (by rw [z.2,epr])
    have put:∀(o:Option (Int×Str)),YE ((ks.take i).map (·.1)) (Zg x y)=o->(∀r,o=some r->r.1<d)->YE ((ks.take i).map (·.1)++[e]) (Zg x y)=some (d,W):=fun o ho hlt=>by
     rw [Za1];unfold Wh;rw [Qc ⟨et,by rw [epr]⟩,ho,edy,ekd];cases o with
     |none=>rfl
     |some r=>exact Qc (hlt r rfl)
    have PUT:∀(tr:Addr) (ntr:H1 tr=none),(∀r,YE ((ks.take i).map (·.1)) (Zg x y)=some r->r.1<d)->∃(ls':Xx),LsAt K (Zb (Zb H1 tr (.tup [.int d,.str W])) Dl (.dT (Yl (Xh ls) (Zq (Zg x y)) (.ref tr)))) Dl ls'∧(∀c,(ZB c ls').map (·.2)=YE ((ks.take (i+1)).map (·.1)) c)∧ls'.length≤i+1:=fun tr ntr hlt=>by
     have s2:=Zj (o:=.tup [.int d,.str W]) ntr;have hd2:=s2 _ _ hl1.d;refine ⟨Zn ls (Zg x y) (tr,d,W),⟨by rw [Zf,←Zll],fun q hq=>?_,ZaV hl.kn⟩,fun c=>?_,Qn (XF ..) (by omega)⟩
     ·rcases UW hq with rfl|hq
      ·exact YH (.of Zf) hd2 (fun _ z=>by cases z) (fun _ _ z=>by cases z)
      ·exact YH (s2.sqt (hl1.t q hq)) hd2 (fun _ z=>by cases z) (fun _ _ z=>by cases z)
     ·rw [ZdJ,tk];by_cases e:c=Zg x y
      ·subst e;rw [Qc rfl,put _ rfl hlt];rfl
      ·rw [Qa e,keep c e];exact hla c
    have FIN:∀(tr:Addr) (ntr:H1 tr=none),(∀r,YE ((ks.take i).map (·.1)) (Zg x y)=some r->r.1<d)->∃(ed:Ed) (ls1:Xx) (v3 v4' v5' v6' v7':Option V),[some (.ref Le),some (.ref D),some (.ref Dl),some (.ref a),v4,v5,some (.ref tp),v7]=[some (.ref Le),some (.ref D),some (.ref Dl),v3,v4',v5',v6',v7']∧Same H (Zb (Zb H1 tr (.tup [.int d,.str W])) Dl (.dT (Yl (Xh ls) (Zq (Zg x y)) (.ref tr))))∧EdAt (Zb (Zb H1 tr (.tup [.int d,.str W])) Dl (.dT (Yl (Xh ls) (Zq (Zg x y)) (.ref tr)))) D ed∧EdB ed (5*(i+1))∧(∀c,lk ed c=Yn ((ks.take (i+1)).map (·.1)) c)∧(∀b∈ed.map (·.2.1),H b=none)∧LsAt K (Zb (Zb H1 tr (.tup [.int d,.str W])) Dl (.dT (Yl (Xh ls) (Zq (Zg x y)) (.ref tr)))) Dl ls1∧(∀c,(ZB c ls1).map (·.2)=YE ((ks.take (i+1)).map (·.1)) c)∧ls1.length≤i+1:=fun tr ntr hlt=>by
     obtain ⟨ls',h1,h2,h3⟩:=PUT tr ntr hlt;have s2:=s1.trans (Zj (o:=.tup [.int d,.str W]) ntr);have hE2:=hE.mono s2;have hd2:=s2 _ _ hl.d;refine ⟨ed,ls',_,_,_,_,_,rfl,fun c u e=>?_,⟨?_,fun q hq=>?_,hE.an,hE.kn⟩,hb.mono (by omega),fun c=>?_,hn,h1,h2,h3⟩
     ·rw [Ze (fun z=>by rw [z,nDlH] at e;cases e)];exact s2 _ _ (sc _ _ e)
     ·rw [Ze DlD.symm];exact hE2.d
     ·rw [Ze (fun z=>by have:=hE2.l q hq;rw [z,hd2] at this;cases this)];exact hE2.l q hq
     ·rw [tk,Ua,eS];exact hlk c
    refine ⟨_,rfl,_,rfl,Dl,_,rfl,g,_,rfl,?_⟩;cases hf:ZB (Zg x y) ls with
    |none =>
     rw [hf] at lla;refine Yb (by rfl) ⟨_,rfl,a,_,_,_,rfl,rfl,row1,Zh (j:=3) rfl,_,rfl,a,_,_,_,rfl,rfl,row1,Zh (j:=0) rfl,few rfl,fun tr ntr=>⟨_,rfl,_,rfl,Dl,_,rfl,DPut.t (k:=Zq (Zg x y)) ((Zj ntr) _ _ hl1.d) ((Zj ntr) _ _ htp) (Zw (by rw [Qd];omega)),FIN tr ntr (fun r hr=>by rw [←lla] at hr;cases hr)⟩⟩
    |some w =>
     obtain ⟨ar,dd,kk⟩:=w;rw [hf] at lla g;have hm:=Va hf;refine Zt (by rfl) ⟨_,rfl,_,rfl,Dl,_,rfl,g,ar,_,_,_,rfl,rfl,hl1.t _ hm,Zh (j:=0) rfl,_,rfl,a,_,_,_,rfl,rfl,row1,Zh (j:=3) rfl,_,_,rfl,rfl,_,rfl,YB (fun h2=>?_) (fun h2=>?_)⟩
     ·refine ⟨_,rfl,a,_,_,_,rfl,rfl,row1,Zh (j:=3) rfl,_,rfl,a,_,_,_,rfl,rfl,row1,Zh (j:=0) rfl,few rfl,fun tr ntr=>⟨_,rfl,_,rfl,Dl,_,rfl,DPut.t (k:=Zq (Zg x y)) ((Zj ntr) _ _ hl1.d) ((Zj ntr) _ _ htp) (Zw (by rw [Qd];omega)),FIN tr ntr (fun r hr=>by rw [←lla] at hr;cases hr;exact QC h2)⟩⟩
     ·refine ⟨ed,ls,_,_,_,_,_,rfl,sc.trans s1,hE.mono s1,hb.mono (by omega),fun c=>?_,hn,hl1,fun c=>?_,by omega⟩
      ·rw [tk,Ua,eS];exact hlk c
      ·rw [tk,Za1];unfold Wh;by_cases e:c=Zg x y
       ·subst e;rw [Qc ⟨et,by rw [epr]⟩,←lla,edy,ekd];show _=if dd<d then _ else _;rw [Qa (Re h2),hf];rfl
       ·rw [Qa (fun z=>e (by rw [z.2,epr]))];exact hla c
  cases e with
  |dead n d =>
   refine ⟨_,rfl,a,_,_,_,rfl,rfl,row,Zh (j:=0) rfl,rfl,_,rfl,Zt (by decide +kernel) ⟨_,rfl,a,_,_,_,rfl,rfl,row,Zh (j:=0) rfl,rfl,_,rfl,Zt (by decide +kernel) ⟨_,rfl,a,_,_,_,rfl,rfl,row,Zh (j:=0) rfl,rfl,_,rfl,Zt (by decide +kernel) ⟨_,rfl,a,_,_,_,rfl,rfl,row,Zh (j:=0) rfl,rfl,_,rfl,Zt (by decide +kernel) ⟨ed,ls,_,_,_,_,_,rfl,sc,hE,hb.mono (by omega),fun c=>?_,hn,hl,fun c=>?_,by omega⟩⟩⟩⟩⟩
   ·rw [tk,Ua];exact hlk c
   ·rw [tk,ZaN rfl];exact hla c
  |given x y am d =>
   refine ⟨_,rfl,a,_,_,_,rfl,rfl,row,Zh (j:=0) rfl,rfl,_,rfl,Zt (by decide +kernel) ⟨_,rfl,a,_,_,_,rfl,rfl,row,Zh (j:=0) rfl,rfl,_,rfl,Zt (by decide +kernel) ⟨_,rfl,a,_,_,_,rfl,rfl,row,Zh (j:=0) rfl,rfl,_,rfl,Zt (by decide +kernel) ⟨_,rfl,a,_,_,_,rfl,rfl,row,Zh (j:=0) rfl,rfl,_,rfl,Zt (by decide +kernel) ⟨ed,ls,_,_,_,_,_,rfl,sc,hE,hb.mono (by omega),fun c=>?_,hn,hl,fun c=>?_,by omega⟩⟩⟩⟩⟩
   ·rw [tk,Ua];exact hlk c
   ·rw [tk,ZaN rfl];exact hla c
  |taken x y d =>
   refine ⟨_,rfl,a,_,_,_,rfl,rfl,row,Zh (j:=0) rfl,rfl,_,rfl,Zt (by decide +kernel) ⟨_,rfl,a,_,_,_,rfl,rfl,row,Zh (j:=0) rfl,rfl,_,rfl,Yb (by decide +kernel) ⟨_,rfl,_,rfl,a,_,_,_,rfl,rfl,row,Zh (j:=1) rfl,_,rfl,a,_,_,_,rfl,rfl,row,Zh (j:=2) rfl,rfl,D,"T",x,y,ed,_,rfl,hE,hb,by omega,.inr (.inr rfl),fun H1 ed1 hE1 hb1 lk1 fr1=>?_⟩⟩⟩;have row1:=fr1.sqt hE row;obtain ⟨sc1,hn1⟩:=fr1.same sc nD hn;refine ⟨_,rfl,a,_,_,_,rfl,rfl,row1,Zh (j:=0) rfl,rfl,_,rfl,Zt (by decide +kernel) ⟨_,rfl,a,_,_,_,rfl,rfl,row1,Zh (j:=0) rfl,rfl,_,rfl,Zt (by decide +kernel) ⟨ed1,ls,_,_,_,_,_,rfl,sc1,hE1,hb1.mono (by omega),fun c=>?_,hn1,fr1.ls hE DlD hl,fun c=>?_,by omega⟩⟩⟩
   ·rw [tk,Ua,lk1,show lk ed=Yn ((ks.take i).map (·.1)) from funext hlk];rfl
   ·rw [tk,ZaN rfl];exact hla c
  |union=>exact absurd rfl et
  |parted=>exact absurd rfl et
  |born n s d fa mo =>
   have row:SqT K Hc a [.str "born",.str n,.str s,.int d,.str fa,.str mo]:=row;have gt:GdL ns ((ks.take i).map (·.1)++[.born n s d fa mo]):=by rw [←tk,Gu];exact gd.take _
   obtain ⟨_,d5,_,fit⟩:=gt.last rfl
   have fresh:∀e∈(ks.take i).map (·.1),e.bornName≠some n:=fun e he z=>by
    cases e with
    |born n' s' d' f' m' =>
     cases z;exact fit.key _ (Qj.mpr ⟨_,he,rfl⟩) rfl
    |_=>cases z
   have nk:ZC (s,n) ed=none:=Zne hb (by rw [hlk];exact Zm5 (Zek d5.1) fresh);dsimp only [Z2];refine YN (fun σ Hx=>∃(ed:Ed) (v4 v5:Option V),σ=[some (.ref Le),some (.ref D),some (.ref Dl),some (.ref a),v4,v5,v6,v7]∧Same H Hx∧EdAt Hx D ed∧EdB ed (5*(i+1))∧(∀c,lk ed c=Yt (Yn ((ks.take i).map (·.1))) (.born n s d fa mo) c)∧(∀b∈ed.map (·.2.1),H b=none)∧LsAt K Hx Dl ls) (fun nx rest=>?_) ?_
   ·refine ⟨_,rfl,a,_,_,_,rfl,rfl,row,Zh (j:=0) rfl,rfl,_,rfl,Yb (by decide +kernel) ⟨_,rfl,a,_,_,_,rfl,rfl,row,Zh (j:=1) rfl,few rfl,fun z nz=>?_⟩⟩;have sz:=Zj (o:=.lst [.str n]) nz;refine ⟨_,rfl,_,rfl,a,_,_,_,rfl,rfl,(sz.sqt row),Zh (j:=2) rfl,_,rfl,a,_,_,_,rfl,rfl,(sz.sqt row),Zh (j:=1) rfl,few rfl,fun t nt=>?_⟩;have st:=Zj (o:=.tup [.str s,.str n]) nt;have szt:=sz.trans st;have ht1:Zb (Zb Hc z (.lst [.str n])) t (.tup [.str s,.str n]) t=some (.tup [.str s,.str n]):=Zf;have hz1:=st _ _ (Zf (H:=Hc) (a:=z) (o:=.lst [.str n]));generalize Zb (Zb Hc z (.lst [.str n])) t (.tup [.str s,.str n])=H1 at *;have hD1:=szt _ _ hE.d;refine ⟨D,_,rfl,DPut.t (k:=Zq (s,n)) hD1 ht1 (Zw (by rw [Qd];have:=hb.len;omega)),?_⟩;rw [US _ (by rw [Ws,nk];rfl)];have zD:z≠D:=fun e=>by rw [e,hD1] at hz1;cases hz1
    obtain ⟨ed1,hE1,hb1,lk1,fr1⟩:=Zfr (H':=Zb H1 D (.dT (Xg ed++[(Zq (s,n),.ref z)]))) (xs:=[n]) hE hb nk nz (by simp) (by simp) Zf (by rw [Ze zD];exact hz1) (fun b u nb e=>by rw [Ze nb];exact szt _ _ e) (fun b hbn=>by
     by_cases e:b=D
     ·rw [e,Zf] at hbn;cases hbn
     ·rw [Ze e] at hbn;exact ZK szt hbn)
    obtain ⟨sc1,hn1⟩:=fr1.same sc nD hn;have row1:=fr1.sqt hE row;have hl1:=fr1.ls hE DlD hl;generalize Zb H1 D (.dT (Xg ed++[(Zq (s,n),.ref z)]))=H2 at *;refine ⟨_,rfl,a,_,_,_,rfl,rfl,row1,Zh (j:=4) rfl,few rfl,fun t1 nt1=>?_⟩;have e1:=Zj (o:=.tup [.str "F",.str fa]) nt1;refine ⟨_,rfl,a,_,_,_,rfl,rfl,(e1.sqt row1),Zh (j:=5) rfl,few rfl,fun t2 nt2=>⟨few rfl,fun lp nlp=>?_⟩⟩;have e2:=Zj (o:=.tup [.str "M",.str mo]) nt2;have e3:=Zj (o:=.lst [.ref t1,.ref t2]) nlp;have ht1:=e3 _ _ (e2 _ _ (Zf (H:=H2) (a:=t1) (o:=.tup [.str "F",.str fa])));have ht2:=e3 _ _ (Zf (H:=Zb H2 t1 (.tup [.str "F",.str fa])) (a:=t2) (o:=.tup [.str "M",.str mo]));have e13:=(e1.trans e2).trans e3;have nlp1:=hE1.off (ZK (e1.trans e2) nlp);refine ⟨lp,rfl,⟨_,.of Zf⟩,XH (xs:=[.ref t1,.ref t2]) (fun j σ Hy=>∃(ed2:Ed) (v4 v5:Option V),σ=[some (.ref Le),some (.ref D),some (.ref Dl),some (.ref a),v4,v5,v6,v7]∧Same H Hy∧EdAt Hy D ed2∧EdB ed2 (5*i+1+2*j)∧(∀c,lk ed2 c=J9 (Yn ((ks.take i).map (·.1))) n s fa mo j c)∧(∀b∈ed2.map (·.2.1),H b=none)∧LsAt K Hy Dl ls∧Hy lp=some (.lst [.ref t1,.ref t2])∧lp∉ed2.map (·.2.1)∧SqT K Hy t1 [.str "F",.str fa]∧SqT K Hy t2 [.str "M",.str mo]∧SqT K Hy a [.str "born",.str n,.str s,.int d,.str fa,.str mo]) ?st ?li ?tu ?dn⟩
    case st=>exact ⟨ed1,v4,v5,rfl,sc1.trans e13,hE1.mono e13,hb1,fun c=>by rw [lk1];show _=Yo _ s n c;unfold Yo;rw [hlk],hn1,hl1.mono e13,Zf,nlp1,.of ht1,.of ht2,e13.sqt row1⟩
    case li =>
     rintro j σ Hy _ ⟨ed2,v4,v5,rfl,_,_,_,_,_,_,hlp,_⟩;exact .of hlp
    case dn =>
     rintro σ Hy ⟨ed2,v4,v5,rfl,sy,hE2,hb2,lk2,hn2,hl2,_⟩;exact rest _ _ ⟨ed2,v4,v5,rfl,sy,hE2,hb2.mono (by simp;omega),lk2,hn2,hl2⟩
    case tu =>
     rintro j x σ Hy hx ⟨ed2,v4,v5,rfl,sy,hE2,hb2,lk2,hn2,hl2,hlp,nlp2,h1,h2,h3⟩
     have pick:∃tq L l' pr,x=.ref tq∧SqT K Hy tq [.str L,.str pr]∧(L="F"∨L="M"∨L="T")∧Zbl L=l'∧j≤1∧J9 (Yn ((ks.take i).map (·.1))) n s fa mo (j+1)=Yj L l' n pr (J9 (Yn ((ks.take i).map (·.1))) n s fa mo j):=by
      match j,hx with
      |0,hx=>exact ⟨t1,"F","f",fa,(Ql hx).symm,h1,.inl rfl,by decide +kernel,by omega,rfl⟩
      |1,hx=>exact ⟨t2,"M","m",mo,(Ql hx).symm,h2,.inr (.inl rfl),by decide +kernel,by omega,rfl⟩
     obtain ⟨tq,L,l',pr,rfl,hq,hL,el,j1,eb⟩:=pick;refine ⟨tq,_,rfl,hq,rfl,_,_,rfl,_,_,rfl,rfl,?_⟩;refine ⟨_,rfl,rfl,_,rfl,?_⟩;by_cases e0:pr=""
     ·refine Zt (by rw [e0];decide +kernel) ⟨ed2,_,_,rfl,sy,hE2,hb2.mono (by omega),fun c=>?_,hn2,hl2,hlp,nlp2,h1,h2,h3⟩;rw [eb];unfold Yj;rw [Qc e0];exact lk2 c
     ·refine Yb (by show (!decide (V.str pr=V.str ""))=true;rw [Qk (fun z=>e0 (V.str.inj z))];rfl) ⟨_,rfl,_,rfl,_,rfl,a,_,_,_,rfl,rfl,h3,Zh (j:=1) rfl,_,rfl,rfl,D,L,n,pr,ed2,_,rfl,hE2,hb2,by omega,hL,fun H4 ed4 hE4 hb4 lk4 fr4=>?_⟩;obtain ⟨s4,hn4⟩:=fr4.same sy nD hn2;refine ⟨ed4,_,_,rfl,s4,hE4,hb4.mono (by omega),fun c=>?_,hn4,fr4.ls hE2 DlD hl2,fr4.fr _ _ (fun z=>by rw [z,hE2.d] at hlp;cases hlp) nlp2 hlp,(fun m=>(fr4.gr _ m).elim nlp2 fun z=>by rw [hlp] at z;cases z),fr4.sqt hE2 h1,fr4.sqt hE2 h2,fr4.sqt hE2 h3⟩;rw [lk4,eb,el,show lk ed2=J9 (Yn ((ks.take i).map (·.1))) n s fa mo j from funext lk2];unfold Yj;rw [Qa e0]
   ·rintro σ Hx ⟨ed1,w4,w5,rfl,sx,hE1,hb1,lk1,hn1,hl1⟩;have rowx:=sx.sqt (hR _ (QB hp));refine ⟨_,rfl,a,_,_,_,rfl,rfl,rowx,Zh (j:=0) rfl,rfl,_,rfl,Zt (by decide +kernel) ⟨_,rfl,a,_,_,_,rfl,rfl,rowx,Zh (j:=0) rfl,rfl,_,rfl,Zt (by decide +kernel) ⟨_,rfl,a,_,_,_,rfl,rfl,rowx,Zh (j:=0) rfl,rfl,_,rfl,Zt (by decide +kernel) ⟨ed1,ls,_,_,_,_,_,rfl,sx,hE1,hb1,fun c=>?_,hn1,hl1,fun c=>?_,by omega⟩⟩⟩⟩
    ·rw [tk,Ua];exact lk1 c
    ·rw [tk,ZaN rfl];exact hla c
 case done =>
  rintro σ Hc ⟨ed,ls,v3,v4,v5,v6,v7,rfl,sc,hE,hb,hlk,hn,hl,hla,ll⟩;rw [Wf,QZ] at hlk hla;rw [Wf] at hb ll;refine ⟨Dl,Xh ls,hl.d,_,rfl,.inr (.inr (.inl ⟨rfl,.inr ⟨_,hl.d⟩⟩)),Dl,_,rfl,rfl,hl.d,fun r nr=>⟨r,Dl,_,rfl,Zf,(Zj nr) _ _ hl.d,fun o=>?_⟩⟩;have sr:=Zj (o:=.ext (UC r Dl)) nr;have hd1:=sr _ _ hl.d;have up:∀{b:Addr} {u:HO},b≠Dl->Hc b=some u->Zb (Zb Hc r (.ext (UC r Dl))) Dl (.frz o (.dT (Xh ls))) b=some u:=fun nb e=>by rw [Ze nb];exact sr _ _ e
  refine Znu (kvs:=Xh ls) (fun i σ Hy=>∃(ed:Ed) (v6 v7:Option V),σ=[some (.ref Le),some (.ref D),some (.ref Dl),v3,v4,v5,v6,v7]∧Same H Hy∧EdAt Hy D ed∧EdB ed (200+2*i)∧(∀c,lk ed c=(ls.take i).foldl Xk (Yn (ks.map (·.1))) c)∧(∀b∈ed.map (·.2.1),H b=none)∧Hy Dl=some (.frz o (.dT (Xh ls)))∧∀q∈ls,SqT K Hy q.2.1 [.int q.2.2.1,.str q.2.2.2]) ?st ?li ?tu ?dn
  case st=>exact ⟨ed,_,_,rfl,fun b u e=>up (fun z=>by rw [z,nDlH] at e;cases e) (sc _ _ e),⟨up DlD.symm hE.d,fun q hq=>up (fun z=>by have:=hE.l q hq;rw [z,hl.d] at this;cases this) (hE.l q hq),hE.an,hE.kn⟩,hb.mono (by omega),hlk,hn,Zf,fun q hq=>YH (sr.sqt (hl.t q hq)) hd1 (fun _ z=>by cases z) (fun _ _ z=>by cases z)⟩
  case li =>
   rintro i σ Hy _ ⟨ed,v6,v7,rfl,_,_,_,_,_,hDl,_⟩;exact hDl
  case dn =>
   rintro σ Hy ⟨ed,v6,v7,rfl,sy,hE,hb,hlk,hn,hDl,ht⟩;have ll2:(Xh ls).length=ls.length:=Qd ..;rw [ll2,QZ] at hlk;refine ⟨o,hDl,_,rfl,q _ D ed ls (fun b u e=>?_) nD ⟨?_,fun q hq=>?_,hE.an,hE.kn⟩ (hb.mono (by omega)) hl.kn hla hlk⟩
   ·rw [Ze (fun z=>by rw [z,nDlH] at e;cases e)];exact sy _ _ e
   ·rw [Ze DlD.symm];exact hE.d
   ·rw [Ze (fun z=>by have:=hE.l q hq;rw [z,hDl] at this;cases this)];exact hE.l q hq
  case tu =>
   rintro i pr T c σ Hy hpr ⟨ed,v6,v7,rfl,sy,hE,hb,hlk,hn,hDl,ht⟩ nT hc;rw [Qp] at hpr;obtain ⟨q1,hq1,rfl⟩:=QH.mp hpr;have mq:=QB hq1;have il:=(QJ.mp hq1).1;have tkq:ls.take (i+1)=ls.take i++[q1]:=by rw [Q5,hq1];rfl
   have sT:=Zj (o:=.tup [.ref c,.ref q1.2.1]) nT;refine ⟨T,_,rfl,.of Zf,rfl,_,_,rfl,_,_,rfl,rfl,?_⟩;have hc2:SqT K (Zb Hy T (.tup [.ref c,.ref q1.2.1])) c [.str q1.1.1,.str q1.1.2]:=sT.sqt (.of hc);have hE2:=hE.mono sT;have hDl2:=sT _ _ hDl;have ht2:∀q∈ls,SqT K (Zb Hy T (.tup [.ref c,.ref q1.2.1])) q.2.1 [.int q.2.2.1,.str q.2.2.2]:=fun q hq=>sT.sqt (ht q hq);have s2:=sy.trans sT;generalize Zb Hy T (.tup [.ref c,.ref q1.2.1])=H2 at *;refine ⟨_,rfl,q1.2.1,_,_,_,rfl,rfl,ht2 q1 mq,Zh (j:=1) rfl,rfl,_,rfl,?_⟩;have fs:∀c,(ls.take (i+1)).foldl Xk (Yn (ks.map (·.1))) c=Xk ((ls.take i).foldl Xk (Yn (ks.map (·.1)))) q1 c:=fun c=>by rw [tkq,GZ];rfl
   by_cases eu:q1.2.2.2="union"
   ·refine Yb (Qo (by rw [eu])) ?_;refine YN (fun σ Hx=>σ=[some (.ref Le),some (.ref D),some (.ref Dl),v3,v4,v5,some (.ref c),some (.ref q1.2.1)]∧Ue D ed (200+2*i) ("S",q1.1.1) q1.1.2 H2 Hx) (fun nx rest=>?_) ?_
    ·refine ⟨_,rfl,D,rfl,.inr ⟨_,.inl hE2.d⟩,_,rfl,c,_,_,_,rfl,rfl,hc2,Zh (j:=0) rfl,few rfl,fun t nt=>⟨few rfl,fun z nz=>?_⟩⟩;have st:=Zj (o:=.tup [.str ((("S",q1.1.1):Str×Str)).1,.str ((("S",q1.1.1):Str×Str)).2]) nt;have sz:=Zj (o:=.lst []) nz;obtain ⟨hD2,ln2,old,new⟩:=ZaY (c:=(("S",q1.1.1):Str×Str)) (x:=q1.1.2) hE2 hb (by omega) (st.trans sz) (ZK st nz) Zf;refine ⟨Xg ed,Zq (("S",q1.1.1):Str×Str),t,hD2,rfl,sz _ _ Zf,ln2,fun v hv=>?_,fun hv=>?_⟩
     ·obtain ⟨b,xs,rfl,hb2,lx,add⟩:=old v hv;exact ⟨.inl ⟨rfl,_,.of hb2⟩,_,rfl,c,_,_,_,rfl,rfl,(st.trans sz).sqt hc2,Zh (j:=1) rfl,b,_,_,rfl,rfl,hb2,lx,rest _ _ ⟨rfl,add⟩⟩
     ·obtain ⟨hz3,add⟩:=new hv;exact ⟨.inl ⟨rfl,_,.of hz3⟩,_,rfl,c,_,_,_,rfl,rfl,YH ((st.trans sz).sqt hc2) hD2 (fun _ z=>by cases z) (fun _ _ z=>by cases z),Zh (j:=1) rfl,z,_,_,rfl,rfl,hz3,Zw (by simp),rest _ _ ⟨rfl,add⟩⟩
    ·rintro σ H3 ⟨rfl,ed3,hE3,hb3,lk3,fr3⟩;have hc3:=fr3.sqt hE2 hc2
     have fin:∀H',Ue D ed3 (200+2*i+1) ("S",q1.1.2) q1.1.1 H3 H'->∃(ed:Ed) (v6 v7:Option V),[some (.ref Le),some (.ref D),some (.ref Dl),v3,v4,v5,some (.ref c),some (.ref q1.2.1)]=[some (.ref Le),some (.ref D),some (.ref Dl),v3,v4,v5,v6,v7]∧Same H H'∧EdAt H' D ed∧EdB ed (200+2*(i+1))∧(∀c,lk ed c=(ls.take (i+1)).foldl Xk (Yn (ks.map (·.1))) c)∧(∀b∈ed.map (·.2.1),H b=none)∧H' Dl=some (.frz o (.dT (Xh ls)))∧∀q∈ls,SqT K H' q.2.1 [.int q.2.2.1,.str q.2.2.2]:=fun H' ⟨ed4,hE4,hb4,lk4,fr4⟩=>by
      have fr:=fr3.trans fr4;obtain ⟨s4,hn4⟩:=fr.same s2 nD hn;refine ⟨ed4,_,_,rfl,s4,hE4,hb4,fun c=>?_,hn4,fr.oth hE2 DlD hDl2 (fun _ z=>by cases z),fun q hq=>fr.sqt hE2 (ht2 q hq)⟩;rw [lk4,fs,show lk ed3=Z0 (lk ed) ("S",q1.1.1) q1.1.2 from funext lk3,show lk ed=(ls.take i).foldl Xk (Yn (ks.map (·.1))) from funext hlk];unfold Xk;rw [Qc eu]
     refine ⟨_,rfl,D,rfl,.inr ⟨_,.inl hE3.d⟩,_,rfl,c,_,_,_,rfl,rfl,hc3,Zh (j:=1) rfl,few rfl,fun t nt=>⟨few rfl,fun z nz=>?_⟩⟩;have st:=Zj (o:=.tup [.str ((("S",q1.1.2):Str×Str)).1,.str ((("S",q1.1.2):Str×Str)).2]) nt;have sz:=Zj (o:=.lst []) nz;obtain ⟨hD2,ln2,old,new⟩:=ZaY (c:=(("S",q1.1.2):Str×Str)) (x:=q1.1.1) hE3 hb3 (by omega) (st.trans sz) (ZK st nz) Zf;refine ⟨Xg ed3,Zq (("S",q1.1.2):Str×Str),t,hD2,rfl,sz _ _ Zf,ln2,fun v hv=>?_,fun hv=>?_⟩
     ·obtain ⟨b,xs,rfl,hb2,lx,add⟩:=old v hv;exact ⟨.inl ⟨rfl,_,.of hb2⟩,_,rfl,c,_,_,_,rfl,rfl,(st.trans sz).sqt hc3,Zh (j:=0) rfl,b,_,_,rfl,rfl,hb2,lx,fin _ add⟩
     ·obtain ⟨hz3,add⟩:=new hv;exact ⟨.inl ⟨rfl,_,.of hz3⟩,_,rfl,c,_,_,_,rfl,rfl,YH ((st.trans sz).sqt hc3) hD2 (fun _ z=>by cases z) (fun _ _ z=>by cases z),Zh (j:=0) rfl,z,_,_,rfl,rfl,hz3,Zw (by simp),fin _ add⟩
   ·refine Zt (Qk (fun z=>eu (V.str.inj z))) ⟨ed,_,_,rfl,s2,hE2,hb.mono (by omega),fun c=>?_,hn,hDl2,ht2⟩;rw [fs];unfold Xk;rw [Qa eu];exact hlk c
theorem ZmI (T:Tx K w mg)  : Ze9 P base T:=by
 refine Fun.okX (k:=0) T.Zbo.F JB (fun vs H Q E h=>h.1) (fun cdv A outer s H vs Q E hr h=>?_);obtain ⟨-,h⟩:=h;obtain ⟨c,k,rfl,k0,k1,q⟩:=h
 refine ⟨_,(Zk (ZH (Zx Z5 (Zo Z9 (pv 0) Zd) Zd (Zu _)) (Zk (Zv (i:=2) JB.nd rfl (Or.inl rfl) (Zo Y4 (pv 0) Zd))
   (Zk (Yu QG rfl (Um (by rfl) T.n_range (Za (Zo Z9 (pv 1) Zd) Zc)) (ZS (i:=3) JB.nd rfl (Or.inl rfl))
    (Zm (Zv (i:=2) JB.nd rfl (Or.inl rfl) (Zo Y4 (pv 2) (Zo XQ Zd Zd)))))
   (Zm (ZA (Zo Z9 (pv 2) (Zo XQ Zd Zd)))))) ZL)
   (Zk (Zv (i:=2) JB.nd rfl (Or.inl rfl) (Zo Z9 (Zo Wv (Zo YT (Zo YT (pv 0) (Zo Za2 (Zo Wv Zd (pv 1)) (pv 1))) Zd) Zd) Zd))
   (Zm (ZA (Zo Z9 (Zo Za2 (pv 2) (pv 2)) Zd))))),?_⟩
 have p24:(10:Int) ^ (24:Int).toNat=10 ^ 24:=rfl;have c24:Vb 10 24:=⟨by decide,by decide,by decide⟩;refine ⟨_,rfl,_,_,rfl,rfl,Yq (by decide),rfl,_,rfl,YB (fun h1=>?_) (fun h1=>?_)⟩
 ·refine ⟨_,rfl,_,_,rfl,rfl,⟨by decide,YC (by decide) (by decide)⟩,_,rfl,_,_,rfl,rfl,Yq (by decide),_,rfl,?_,?_,UI (fun i σ Hc=>Hc=H∧∃(n:Int) (v:Option V),σ=[some (.int c),some (.int k),some (.int n),v]) ⟨rfl,_,_,rfl⟩ ?_ ?_⟩
  ·have:=QI k (show (0:Int)<16 by decide);omega
  ·have:=Q0 k (show (0:Int)<16 by decide);omega
  ·rintro i σ Hc _ ⟨rfl,n,v,rfl⟩;exact ⟨_,rfl,_,_,rfl,rfl,c24,_,_,rfl,rfl,⟨by decide,YC (by decide) (by decide)⟩,rfl,_,_,rfl⟩
  ·rintro σ Hc ⟨rfl,n,v,rfl⟩;exact ⟨_,rfl,_,_,rfl,rfl,c24,_,_,rfl,rfl,Yq (by decide),q _ (QI _ (by decide))⟩
 ·have m0:=QI ((c+7919*k*k+1)*48271) (show (0:Int)<2147483647 by decide);have m1:=Q0 ((c+7919*k*k+1)*48271) (show (0:Int)<2147483647 by decide);exact ⟨_,rfl,_,rfl,_,_,rfl,rfl,.inl ⟨by decide,by decide⟩,_,rfl,_,_,rfl,rfl,⟨YC (by omega) (by omega),YC (by omega) (by omega)⟩,_,_,rfl,rfl,_,_,rfl,rfl,_,_,rfl,rfl,.inr ⟨by decide,by decide⟩,_,_,rfl,rfl,Yq (by decide),_,rfl,_,rfl,_,_,rfl,rfl,⟨YC (by omega) (by omega),YC (by omega) (by omega)⟩,_,_,rfl,rfl,Yq (by decide),q _ (QI _ (by decide))⟩
theorem Zka (T:Tx K w mg) (XU:J0 P base T) (Zcm:Ze9 P base T):ZdR P base T:=by
 refine Fun.okX (k:=1) T.Za5.F WW (fun vs H Q E h=>h.1) (fun cdv A outer s H vs Q E hr h=>?_);obtain ⟨-,h⟩:=h;obtain ⟨l,ss,many,turn,D,nm0,ed,rfl,hl,m0,m1,t0,t1,hE,hb,q⟩:=h
 refine ⟨_,(Zk (Zv (i:=5) WW.nd rfl (Or.inl rfl) (Ys (Za Zs (Za Zs (Za Zs (Za Zs (Za Zs (Za Zs (Za Zs (Za Zs (Za Zs Zc)))))))))))
   (Zk (Zv (i:=6) WW.nd rfl (Or.inl rfl) (Ys Zc))
   (Zk (Yu QG rfl (Um (by rfl) T.n_range (Za (pv 1) Zc)) (ZS (i:=7) WW.nd rfl (Or.inl rfl))
    (Zk (Zv (i:=8) WW.nd rfl (Or.inl rfl) (ZM Zcm hr Zy (Za (Zo YT (ZM XU hr Zy (Za (pv 0) (Za (Zo YT Zd (pv 7)) Zc))) (Zo Wv Zd (ZM XU hr Zy (Za (pv 0) (Za (Zo YT Zd (pv 7)) Zc))))) (Za (Zo YT (Zo Wv Zd (pv 7)) (pv 2)) Zc))))
   (Zk (W9 (i:=9) rfl  WW.nd rfl (Or.inl rfl) (Xu (N:=["_law_step","_law_edges_here","_law_name"]) ["_law_name","_law_edges_here"] [none,some 3,some 4] rfl (by decide +kernel) (by decide +kernel) (by rfl) (by rfl) (by rfl) (by rfl) (by rfl)) (YJ (pv 5)) (fun _ _ _=>(ZS (i:=0) Zlp rfl (Or.inl rfl))) (fun _ _ _=>(Wc (Jq (ZcV (ZX hr) (ZZ (Za (pv 0) (Za (pv 2) Zc))) (pv 1))))) (fun _ _ _=>(pv 0)))
   (Zk (Zv (i:=10) WW.nd rfl (Or.inl rfl) (Zl Ym (pv 5) (Zo Z9 (Zo Y4 (pv 8) Zd) Zd) (fun _ _=>rfl)))
   (Zk (ZH (PW.pt (WM (Zx Z5 (Zo Z9 (pv 8) Zd) Zd (Zu _)) (WI (Zx Wn (ZO Yy (by rfl) T.n_len Yd (Za (pv 9) Zc)) Zd (Zu _))))) (Zk (Zv (i:=10) WW.nd rfl (Or.inl rfl) (Zl Ym (pv 9) (Zo Z9 (Zo Y4 (pv 8) Zd) (ZO Yy (by rfl) T.n_len Yd (Za (pv 9) Zc))) (fun _ _=>rfl)))
   (Zm (Zv (i:=4) WW.nd rfl (Or.inr rfl) (Zl Ym (Xp (ZX hr) (pv 3) (ZZ (Za (pv 10) (Za (pv 4) Zc))) (fun _ _=>rfl)) (Zo Z9 (Zo Y4 (pv 8) Zd) (ZO Yy (by rfl) T.n_len Yd (Za (Xp (ZX hr) (pv 3) (ZZ (Za (pv 10) (Za (pv 4) Zc))) (fun _ _=>rfl)) Zc))) (fun _ _=>rfl))))) ZL)
   (Zm (Yh (Wt Rq Rr Rs X9 (pv 6) (Za (pv 10) Zc)))))))))
   (Zm (ZA (VM ZeJ (by rfl) T.n_tuple ZdF (Za (pv 6) Zc))))))),?_⟩
 refine ⟨few rfl,fun Ls nLs=>⟨few rfl,fun Lw nLw=>?_⟩⟩;have e1:=Zj (o:=.lst (ZV.map V.str)) nLs;have e2:=Zj (o:=.lst []) nLw;have LwLs:Lw≠Ls:=fun z=>by rw [z] at nLw;exact absurd nLw (by show ¬Zb H Ls (.lst (ZV.map V.str)) Ls=none;rw [Zf];simp)
 have nLwH:=ZK e1 nLw;refine ⟨_,rfl,_,rfl,by omega,by omega,UI (fun i σ Hc=>∃(way:List Str) (nm:Str) (v7 v8 v9 v10:Option V),σ=[some (.ref l),some (.int many),some (.int turn),some (.ref D),some (.str nm),some (.ref Ls),some (.ref Lw),v7,v8,v9,v10]∧Same H Hc∧Hc Ls=some (.lst (ZV.map V.str))∧Hc Lw=some (.lst (way.map V.str))∧(∀s∈way,s∈ZV)∧way.length=i) ⟨[],nm0,_,_,_,_,rfl,e1.trans e2,by rw [Ze LwLs.symm];exact Zf,Zf,fun s hs=>(by cases hs),rfl⟩ ?turn ?done⟩
 case done =>
  rintro σ Hc ⟨way,nm,v7,v8,v9,v10,rfl,sc,hLs,hLw,w9,wl⟩;exact ⟨_,rfl,Lw,_,rfl,.inl ⟨.of hLw,fun p np=>q _ p way (sc.trans (Zj np)) (ZK sc np) (.of Zf) w9 (by omega)⟩⟩
 case turn =>
  rintro i σ Hc hi ⟨way,nm,v7,v8,v9,v10,rfl,sc,hLs,hLw,w9,wl⟩;have hi2:(i:Int)<many:=by omega
  rw [show (0:Int)+(i:Int)=i from Gw _];refine ⟨_,rfl,_,rfl,_,_,rfl,rfl,rfl,l,ss,_,rfl,sc.sql hl,by omega,fun z1=>⟨_,rfl,_,rfl,_,_,rfl,rfl,rfl,l,ss,_,rfl,sc.sql hl,by omega,fun z2=>⟨_,_,rfl,rfl,.inl ⟨by decide,by decide⟩,_,_,rfl,rfl,_,rfl,_,_,rfl,rfl,.inl ⟨by decide,by decide⟩,_,rfl,_,_,rfl,rfl,rfl,_,_,rfl,by omega,by omega,fun num n0=>?_⟩⟩⟩;dsimp only [Z2];have hEc:=hE.mono sc;refine ⟨_,rfl,Ls,rfl,⟨_,.of hLs⟩,WF (ZV.map (Jg ed nm)) (Zw (by rw [Qd];decide)) (fun σ=>∃w,σ=[w,some (.ref D),some (.str nm)]) ⟨_,rfl⟩ (fun j H4 hj sm=>?go) (fun H4 sm=>?stop) (fun j σ H4 x H5 z hz hσ sm hx C hC=>?step) (fun D5 H5 nD5 s5 hD5=>?fin)⟩
  case go=>exact ⟨_,_,sm.sql (.of hLs),Qt (by rw [Qd];rw [Qd] at hj;exact hj)⟩
  case stop=>exact ⟨_,sm.sql (.of hLs),by rw [Qd,Qd];exact Qf _⟩
  case step =>
   obtain ⟨w,rfl⟩:=hσ;obtain ⟨rfl,hx2⟩:=hx;obtain ⟨s,hs,rfl⟩:=Xv (hx2 _ (sm.sql (.of hLs)));rw [Qp,hs] at hz;obtain rfl:=Ql hz;refine ⟨_,rfl,_,rfl,few rfl,fun t nt=>?_⟩;have st:=Zj (o:=.tup [.str s,.str nm]) nt;have g:=DGet.t (k:=Zq (s,nm)) ((sm.trans st) _ _ hEc.d) (Zf (o:=.tup [.str s,.str nm]));rw [Ws] at g;refine ⟨_,rfl,D,_,rfl,g,_,rfl,?_⟩;cases hk:ZC (s,nm) ed with
   |some y =>
    rw [show Jg ed nm s=some (.str s) from Qc (by rw [hk];rfl)] at hC;exact Yb (by rfl) ⟨_,rfl,hC _ _ ⟨_,rfl⟩ st⟩
   |none =>
    rw [show Jg ed nm s=none from Qa (by rw [hk];decide)] at hC;exact Zt (by rfl) (hC _ _ ⟨_,rfl⟩ st)
  case fin =>
  rw [Zf7] at hD5;obtain ⟨ts,et⟩:∃z,z=ZV.filter fun s=>(ZC (s,nm) ed).isSome:=⟨_,rfl⟩;rw [←et] at hD5
  have tm:∀s∈ts,s∈ZV∧∃x,ZC (s,nm) ed=some x:=fun s hs=>by
   rw [et] at hs;obtain ⟨h1,h2⟩:=Q7.mp hs;exact ⟨h1,GD.mp h2⟩
  have sc5:=sc.trans s5;have hE5:=hE.mono sc5;have hLs5:=s5 _ _ hLs;have hLw5:=s5 _ _ hLw;have b2:(2:Int)≠0∧(2:Int).natAbs<2 ^ 1000:=⟨by decide,YC (by decide) (by decide)⟩;have b40:(40:Int)≠0∧(40:Int).natAbs<2 ^ 1000:=⟨by decide,YC (by decide) (by decide)⟩;obtain ⟨st0,m9,a9⟩:=ZnE (num.fdiv 2);refine ⟨_,rfl,_,rfl,_,_,rfl,rfl,b2,_,_,rfl,rfl,Yq (by decide),Ls,_,_,_,rfl,rfl,.of hLs5,a9,?_⟩;dsimp only [Z2];refine YN (fun σ Hx=>∃(st nm:Str),st∈ZV∧Same H5 Hx∧σ=[some (.ref l),some (.int many),some (.int turn),some (.ref D),some (.str nm),some (.ref Ls),some (.ref Lw),some (.int i),some (.int num),some (.ref D5),some (.str st)]) (fun nx rest=>?_) ?_
  ·refine ⟨_,rfl,_,_,rfl,rfl,Yq (by decide),rfl,_,rfl,YB (fun h1=>⟨_,rfl,D5,_,rfl,.inl (.of hD5),_,_,rfl,rfl,_,rfl,YB (fun h2=>?_) (fun h2=>?_)⟩) (fun h1=>?_)⟩
   ·have l0:0<ts.length:=by have:=QC h2;rw [Qd] at this;omega
    obtain ⟨st,hst,ea⟩:=VF V.str ts l0 (num.fdiv 2);obtain ⟨n9,⟨b,xs⟩,hx⟩:=tm st hst;have mem:=Xy hx;have lx:=(hb.ll _ mem).1;obtain ⟨x,hxm,ex⟩:=VF V.str xs lx (num.fdiv 40);refine ⟨_,rfl,_,rfl,_,_,rfl,rfl,b2,_,rfl,D5,_,rfl,.inl (.of hD5),_,_,rfl,rfl,(by rw [Qd];omega),D5,_,_,_,rfl,rfl,.of hD5,ea,?_⟩;refine ⟨_,rfl,_,rfl,_,rfl,few rfl,fun t nt=>?_⟩;have s6:=Zj (o:=.tup [.str st,.str nm]) nt;have g:=DGet.t (k:=Zq (st,nm)) (s6 _ _ hE5.d) (Zf (o:=.tup [.str st,.str nm]));rw [Ws,hx] at g;refine ⟨D,_,rfl,g,_,rfl,_,_,rfl,rfl,b40,_,rfl,_,rfl,_,rfl,few rfl,fun t2 nt2=>?_⟩;have s7:=Zj (o:=.tup [.str st,.str nm]) nt2;have s67:=s6.trans s7;have g2:=DGet.t (k:=Zq (st,nm)) (s67 _ _ hE5.d) (Zf (o:=.tup [.str st,.str nm]));rw [Ws,hx] at g2;have hbl:=(hE5.mono s67).l _ mem;exact ⟨D,_,rfl,g2,b,_,rfl,.inl (.of hbl),_,_,rfl,rfl,(by rw [Qd];have:1≤xs.length:=lx;omega),b,_,_,_,rfl,rfl,.of hbl,ex,rest _ _ ⟨st,x,n9,s67,rfl⟩⟩
   ·exact rest _ _ ⟨st0,nm,m9,Same.refl _,rfl⟩
   ·exact rest _ _ ⟨st0,nm,m9,Same.refl _,rfl⟩
  rintro σ Hx ⟨st,nm',m9,sx,rfl⟩;have hLwx:=sx _ _ hLw5;refine ⟨_,rfl,.inl ⟨rfl,_,.of hLwx⟩,_,rfl,Lw,_,_,rfl,rfl,hLwx,Zw (by rw [Qd];omega),way++[st],nm',_,_,_,_,rfl,fun a u e=>?_,?_,?_,fun s hs=>?_,by rw [Qw,wl];rfl⟩
  ·rw [Ze (fun z=>by rw [z,nLwH] at e;cases e)];exact sx _ _ (sc5 _ _ e)
  ·rw [Ze LwLs.symm];exact sx _ _ hLs5
  ·rw [Zf,Qq];rfl
  ·rcases Qm.mp hs with hs|hs
   ·exact w9 s hs
   ·rw [show s=st by simpa using hs];exact m9
theorem ZiT (T:Tx K w mg)  : Zbu P base T:=by
 refine Fun.okX (k:=0) T.Zan.F VX (fun vs H Q E h=>h.1) (fun cdv A outer s H vs Q E hr h=>?_);obtain ⟨-,h⟩:=h;obtain ⟨D,p,nm,way,ed,pool,rfl,hE,hp,lw,nmp,ep,pl,q⟩:=h
 refine ⟨_,(Zk (Zv (i:=3) VX.nd rfl (Or.inl rfl) (Ys (Za (pv 2) Zc)))
   (Zk (Yu QG rfl (Uy (pv 1)) (ZS (i:=4) VX.nd rfl (Or.inl rfl))
    (Zk (Zv (i:=5) VX.nd rfl (Or.inl rfl) Vv)
   (Zk (Yu QG rfl (YJ (pv 3)) (ZS (i:=6) VX.nd rfl (Or.inl rfl))
    (Zm (Yu QG rfl (YJ (JJ (ZX hr) (pv 0) (ZZ (Za (pv 4) (Za (pv 6) Zc))) (Ys Zc) ⟨rfl,rfl,rfl,rfl⟩)) (ZS (i:=7) VX.nd rfl (Or.inl rfl))
    (Zm (Xz (ZX hr) (pv 5) (pv 7) YY rfl)))))
   (Zm (Zv (i:=3) VX.nd rfl (Or.inl rfl) (ZO (Zb8 rfl) (by rfl) T.n_sorted U8 (Za (pv 5) Zc)))))))
   (Zm (ZA (pv 3))))),?_⟩
 refine ⟨_,rfl,few rfl,fun L0 nL0=>⟨_,rfl,p,rfl,⟨_,(Zj nL0).sqt hp⟩,Zap (xs:=way.map V.str) (fun i σ Hc=>∃(L:Addr) (xs:List Str) (v4 v5 v6 v7:Option V),σ=[some (.ref D),some (.ref p),some (.str nm),some (.ref L),v4,v5,v6,v7]∧Same H Hc∧H L=none∧Hc L=some (.lst (xs.map V.str))∧SrtOf (ZW (fun s n=>lk ed (s,n)) (way.take i) (·=nm)) xs) ?start ?list ?turn ?done⟩⟩
 case start=>exact ⟨L0,[nm],_,_,_,_,rfl,Zj nL0,nL0,Zf,⟨by simp,by simp,fun x=>by simp [ZW]⟩⟩
 case list =>
  rintro i σ Hc _ ⟨L,xs,v4,v5,v6,v7,rfl,sc,_⟩;exact sc.sqt hp
 case done =>
  rintro σ Hc ⟨L,xs,v4,v5,v6,v7,rfl,sc,nL,hL,Xf⟩;rw [Qd,QZ] at Xf;exact ⟨_,rfl,q _ L xs sc nL hL Xf⟩
 case turn =>
  rintro i y σ Hc hy ⟨L,xs,v4,v5,v6,v7,rfl,sc,nL,hL,Xf⟩;obtain ⟨s,hs,rfl⟩:=Xv hy;have tk:way.take (i+1)=way.take i++[s]:=by rw [Q5,hs];rfl
  refine fun c nc=>?_;have ncH:=ZK sc nc;have s1:=Zj (o:=.dK []) nc;have hL1:=s1 _ _ hL;have cL:c≠L:=fun z=>by rw [z,hL] at nc;cases nc
  refine ⟨_,rfl,L,rfl,⟨_,.of hL1⟩,XH (xs:=xs.map V.str) (fun j σ Hj=>∃(cs:List (Str×V)) (v6 v7:Option V),σ=[some (.ref D),some (.ref p),some (.str nm),some (.ref L),some (.str s),some (.ref c),v6,v7]∧Same H Hj∧Hj L=some (.lst (xs.map V.str))∧Hj c=some (.dK (YM cs))∧(cs.map (·.1)).Nodup∧∀x,x∈cs.map (·.1)↔∃y,y∈xs.take j∧x∈lk ed (s,y)) ?st ?li ?tu ?dn⟩
  case st=>exact ⟨[],_,_,rfl,sc.trans s1,hL1,Zf,by simp,fun x=>by simp⟩
  case li =>
   rintro j σ Hj _ ⟨cs,v6,v7,rfl,_,hLj,_⟩;exact .of hLj
  case dn =>
   rintro σ Hj ⟨cs,v6,v7,rfl,sj,hLj,hcj,ndj,memj⟩;rw [Qd,QZ] at memj
   have few2:(cs.map (·.1)).length≤60:=Qn (VR ndj fun x hx=>by
    obtain ⟨y,_,h⟩:=(memj x).mp hx;cases hk:ZC (s,y) ed with
    |none=>rw [Uq hk] at h;cases h
    |some w=>rw [W6 hE.kn (Xy hk)] at h;exact ep _ (Xy hk) x h) pl
   refine ⟨_,rfl,c,cs,rfl,hcj,by rw [Qd] at few2;omega,fun D5 zs nD5 hp5 Uk=>⟨D5,zs,_,_,_,_,rfl,sj.trans (Zj nD5),ZK sj nD5,Zf,⟨Ja Uk,hp5.nodup_iff.mpr ndj,fun x=>?_⟩⟩⟩;rw [hp5.mem_iff,memj,tk,ZcL];exact ⟨fun ⟨y,hy,hx⟩=>⟨y,(Xf.mem y).mp hy,hx⟩,fun ⟨y,hy,hx⟩=>⟨y,(Xf.mem y).mpr hy,hx⟩⟩
  case tu =>
   rintro j y σ Hj hy ⟨cs,v6,v7,rfl,sj,hLj,hcj,ndj,memj⟩;obtain ⟨y,hyx,rfl⟩:=Xv hy;have tkj:xs.take (j+1)=xs.take j++[y]:=by rw [Q5,hyx];rfl
   refine ⟨_,rfl,D,rfl,.inr ⟨_,.inl (sj _ _ hE.d)⟩,_,rfl,_,rfl,few rfl,fun t nt=>⟨few rfl,fun z nz=>?_⟩⟩;have st:=Zj (o:=.tup [.str s,.str y]) nt;have sz:=Zj (o:=.lst []) nz;have s2:=st.trans sz;have g:=DGet.t (k:=Zq (s,y)) ((sj.trans s2) _ _ hE.d) (sz _ _ (Zf (o:=.tup [.str s,.str y])));rw [Ws] at g;have sj2:=sj.trans s2;have hz2:Zb (Zb Hj t (.tup [.str s,.str y])) z (.lst []) z=some (.lst []):=Zf;generalize Zb (Zb Hj t (.tup [.str s,.str y])) z (.lst [])=H2 at *;refine ⟨_,g,?_⟩
   obtain ⟨b,zs,eb,hb2,ez⟩:∃(b:Addr) (zs:List Str),((ZC (s,y) ed).map fun q=>V.ref q.1).getD (V.ref z)=V.ref b∧H2 b=some (.lst (zs.map V.str))∧lk ed (s,y)=zs:=by
    cases hk:ZC (s,y) ed with
    |none=>exact ⟨z,[],rfl,hz2,Uq hk⟩
    |some w=>exact ⟨w.1,w.2,rfl,(hE.mono sj2).l _ (Xy hk),W6 hE.kn (Xy hk)⟩
   have hLj2:=s2 _ _ hLj;have hcj2:=s2 _ _ hcj;have bc:b≠c:=fun e=>by rw [e,hcj2] at hb2;cases hb2
   refine ⟨b,eb,⟨_,.of hb2⟩,XH (xs:=zs.map V.str) (fun l σ Hl=>∃(cs2:List (Str×V)) (v7:Option V),σ=[some (.ref D),some (.ref p),some (.str nm),some (.ref L),some (.str s),some (.ref c),some (.str y),v7]∧Same H Hl∧Hl L=some (.lst (xs.map V.str))∧Hl c=some (.dK (YM cs2))∧Hl b=some (.lst (zs.map V.str))∧(cs2.map (·.1)).Nodup∧∀x,x∈cs2.map (·.1)↔x∈cs.map (·.1)∨x∈zs.take l) ?st3 ?li3 ?tu3 ?dn3⟩
   case st3=>exact ⟨cs,_,rfl,sj2,hLj2,hcj2,hb2,ndj,fun x=>by simp⟩
   case li3 =>
    rintro l σ Hl _ ⟨cs2,v7,rfl,_,_,_,hbl,_⟩;exact .of hbl
   case dn3 =>
    rintro σ Hl ⟨cs2,v7,rfl,sl,hLl,hcl,hbl,ndl,meml⟩;rw [Qd,QZ] at meml;refine ⟨cs2,_,_,rfl,sl,hLl,hcl,ndl,fun x=>?_⟩;rw [meml,memj,tkj];constructor
    ·rintro (⟨z,h1,h2⟩|h)
     ·exact ⟨z,QQ _ h1,h2⟩
     ·exact ⟨y,by simp,by rw [ez];exact h⟩
    ·rintro ⟨z,h1,h2⟩;rcases Qm.mp h1 with h1|h1
     ·exact .inl ⟨z,h1,h2⟩
     ·rw [show z=y by simpa using h1,ez] at h2;exact .inr h2
   case tu3 =>
    rintro l x σ Hl hx ⟨cs2,v7,rfl,sl,hLl,hcl,hbl,ndl,meml⟩;obtain ⟨x,hxz,rfl⟩:=Xv hx;have tkl:zs.take (l+1)=zs.take l++[x]:=by rw [Q5,hxz];rfl
    have inP:∀x∈cs2.map (·.1),x∈pool:=fun x hx2=>by
     have go:∀y',x∈lk ed (s,y')->x∈pool:=fun y' h=>by
      cases hk:ZC (s,y') ed with
      |none=>rw [Uq hk] at h;cases h
      |some w=>rw [W6 hE.kn (Xy hk)] at h;exact ep _ (Xy hk) x h
     rcases (meml x).mp hx2 with h|h
     ·obtain ⟨z,_,h2⟩:=(memj x).mp h;exact go z h2
     ·exact go y (by rw [ez];exact Ri h)
    have len2:(YM cs2).length≤60:=by rw [Zam];exact Qn (VR ndl inP) pl
    refine ⟨_,rfl,_,rfl,c,_,rfl,DPut.k (k:=.inr x) hcl (Zw (by omega)),?_⟩;rw [ZbJ];refine ⟨Zn cs2 x (.bl true),_,rfl,fun e u h=>?_,?_,Zf,?_,ZaV ndl,fun x'=>?_⟩
    ·rw [Ze (fun z=>by subst z;rw [ncH] at h;cases h)];exact sl _ _ h
    ·rw [Ze cL.symm];exact hLl
    ·rw [Ze bc];exact hbl
    ·rw [Zdy,meml,tkl,Qm,QO,or_assoc]
theorem ZlM (T:Tx K w mg)  : Za3 P base T:=by
 refine Fun.okX (k:=0) T.Zad.F Zfj (fun vs H Q E h=>h.1) (fun cdv A outer s H vs Q E hr h=>?_);obtain ⟨-,h⟩:=h;obtain ⟨l,m,xs,rfl,hl,hm,l100,q⟩:=h
 refine ⟨_,(Zk (ZH (PW.pt (X4 (XZ (Xb (XO K (by rfl) T.n_isinstance (Za (pv 0) (Za (XV (v:=.ty "list") (by rfl) T.n_list ZaI rfl) Zc))))) (Wu (Zx WR (ZO Yy (by rfl) T.n_len Yd (Za (pv 0) Zc)) (ZO Yy (by rfl) T.n_len Yd (Za (pv 1) Zc)) (Zu _))))) (Zm (ZA YY)) ZL)
   (Zk (Yu QG rfl (Um (by rfl) T.n_range (Za (ZO Yy (by rfl) T.n_len Yd (Za (pv 1) Zc)) Zc)) (ZS (i:=2) Zfj.nd rfl (Or.inl rfl))
    (Zm (ZH (PW.pt (X4 (XZ (Xb (XO K (by rfl) T.n_isinstance (Za (Zl Ym (pv 0) (pv 2) (fun _ _=>rfl)) (Za (XV (v:=.ty "str") (by rfl) T.n_str Vm rfl) Zc))))) (Wu (Zx WR (Zl Ym (pv 0) (pv 2) (fun _ _=>rfl)) (Zl Ym (pv 1) (pv 2) (fun _ _=>rfl)) (Zu _))))) (Zm (ZA YY)) ZL)))
   (Zm (ZA YY)))),?_⟩
 have ln:(xs.map V.str).length=xs.length:=Qd ..;refine ⟨_,rfl,_,.ty "list",_,_,rfl,rfl,.sql hl,T.kl_list,_,rfl,ZY ⟨_,rfl,l,_,rfl,.inl hl,_,rfl,m,_,rfl,.inl hm,rfl,_,rfl,?_⟩⟩;rw [Qo rfl];refine ZY ⟨_,rfl,m,_,rfl,.inl hm,_,rfl,by omega,by rw [ln];omega,UI (fun i σ Hc=>Hc=H∧∃v,σ=[some (.ref l),some (.ref m),v]) ⟨rfl,_,rfl⟩ ?_ ?_⟩
 ·rintro i σ Hc hi ⟨rfl,v,rfl⟩;have il:i<xs.length:=by rw [ln] at hi;omega
  have hx:Yi (xs.map V.str) (0+(i:Int))=some (.str xs[i]):=by rw [Gw];exact Xq (by rw [Qp,Qt il];rfl)
  refine ⟨_,rfl,_,rfl,l,_,_,_,rfl,rfl,hl,hx,_,.ty "str",_,_,rfl,rfl,.of (.str _),T.k_str_str,_,rfl,ZY ⟨_,rfl,_,rfl,l,_,_,_,rfl,rfl,hl,hx,_,rfl,_,rfl,m,_,_,_,rfl,rfl,hm,hx,rfl,_,rfl,?_⟩⟩;rw [Qo rfl];exact ZY ⟨rfl,_,rfl⟩
 ·rintro σ Hc ⟨rfl,v,rfl⟩;exact q
theorem Zku (T:Tx K w mg) (X0:ZaB P base T) (V7:Zbu P base T) (WQ:Za3 P base T):Zfm P base T:=by
 refine Fun.okX (k:=6) T.Zbf.F JL (fun vs H Q E h=>h.1) (fun cdv A outer s H vs Q E hr h=>?_);obtain ⟨-,h⟩:=h;obtain ⟨v,D,lw,lp,B,ed,pool,ws,ps,rfl,hB,lam,hE,hlw,hw,hlp,hps,clo,agr,ep,w3,p2,q⟩:=h
 refine ⟨_,(Zk (Zv (i:=4) JL.nd rfl (Or.inl rfl) (Ys Zc))
   (Zk (Yu QG rfl (YJ (pv 3)) (ZS (i:=5) JL.nd rfl (Or.inl rfl))
    (Zm (Yu QG rfl (YJ (pv 2)) (ZS (i:=6) JL.nd rfl (Or.inl rfl))
    (Zk (Zv (i:=7) JL.nd rfl (Or.inl rfl) (ZM X0 hr Zy (Za (pv 0) (Za (pv 6) (Za (pv 5) Zc)))))
   (Zk (ZH (XZ (Xb (ZM WQ hr Zy (Za (pv 7) (Za (ZM V7 hr Zy (Za (pv 1) (Za (pv 6) (Za (pv 5) Zc)))) Zc))))) (Zm (ZA VI)) ZL)
   (Zm (Yh (Wt Rq Rr Rs X9 (pv 4) (Za (pv 7) Zc)))))))))
   (Zm (ZA (pv 4))))),?_⟩
 refine ⟨few rfl,fun F nF=>?_⟩;have sF:=Zj (o:=.lst []) nF;refine ⟨_,rfl,lp,rfl,⟨_,sF.sql hlp⟩,XH (xs:=ps.map V.str) (fun i σ Hc=>∃(rs:List (Addr×List Str)) (v5 v6 v7:Option V),σ=[some v,some (.ref D),some (.ref lw),some (.ref lp),some (.ref F),v5,v6,v7]∧SameX H Hc∧YV T.tb Hc∧Hc F=some (.lst (rs.map fun r=>.ref r.1))∧(∀r∈rs,r.1≠F∧Hc r.1=some (.lst (r.2.map V.str)))∧rs.map (·.2)=Y1 B ws (ps.take i)∧∀m∈ps.take i,∀q∈ws,OkR B m q.2) ?start ?list ?turn ?done⟩
 case start=>exact ⟨[],_,_,_,rfl,sF.x,lam.same sF,Zf,fun r hr=>(by cases hr),rfl,fun m hm=>(by cases hm)⟩
 case list =>
  rintro i σ Hc _ ⟨rs,v5,v6,v7,rfl,sx,_⟩;exact sx.sql hlp
 case done =>
  rintro σ Hc ⟨rs,v5,v6,v7,rfl,sx,lx,hF,hr,er,ok⟩;rw [Qd,QZ] at er ok;exact ⟨_,rfl,q _ F rs sx lx hF (fun r h=>(hr r h).2) er ok⟩
 case turn =>
 rintro i y σ Hc hy ⟨rs,v5,v6,v7,rfl,sx,lx,hF,hr,er,ok⟩;obtain ⟨n,hn,rfl⟩:=Xv hy;have tk:ps.take (i+1)=ps.take i++[n]:=by rw [Q5,hn];rfl
 have kn:=hps n (QB hn);refine ⟨_,rfl,lw,rfl,⟨_,sx.sql hlw⟩,XH (xs:=ws.map fun q=>.ref q.1) (fun j σ Hj=>∃(rs:List (Addr×List Str)) (v6 v7:Option V),σ=[some v,some (.ref D),some (.ref lw),some (.ref lp),some (.ref F),some (.str n),v6,v7]∧SameX H Hj∧YV T.tb Hj∧Hj F=some (.lst (rs.map fun r=>.ref r.1))∧(∀r∈rs,r.1≠F∧Hj r.1=some (.lst (r.2.map V.str)))∧rs.map (·.2)=Y1 B ws (ps.take i)++((ws.take j).map fun q=>Xf (ZW (Z1 B) q.2 (·=n)))∧∀q∈ws.take j,OkR B n q.2) ?st ?li ?tu ?dn⟩
 case st=>exact ⟨rs,_,_,rfl,sx,lx,hF,hr,by rw [er];exact (Qv _).symm,fun q hq=>(by cases hq)⟩
 case li =>
  rintro j σ Hj _ ⟨rs,v6,v7,rfl,sx,_⟩;exact sx.sql hlw
 case dn =>
  rintro σ Hj ⟨rs,v6,v7,rfl,sx,lx,hF,hr,er,ok2⟩;rw [Qd,QZ] at er ok2;refine ⟨rs,_,_,_,rfl,sx,lx,hF,hr,by rw [tk,Zko,er],fun m hm=>?_⟩;rw [tk] at hm;rcases Qm.mp hm with hm|hm
  ·exact ok m hm
  ·rw [QO.mp hm];exact ok2
 case tu =>
 rintro j y σ Hj hy ⟨rs,v6,v7,rfl,sx,lx,hF,hr,er,ok2⟩;obtain ⟨p,hp,rfl⟩:=ZgG hy;obtain ⟨hpq,w9,wl⟩:=hw p (QB hp);have tkj:ws.take (j+1)=ws.take j++[p]:=by rw [Q5,hp];rfl
 dsimp only [Z2];refine ⟨_,rfl,_,rfl,_,rfl,rfl,v,p.1,.str n,p.2,B,rfl,hB.monoX sx,lx,sx.sqt hpq,.inr ⟨n,pool,rfl,kn,clo,w9,by omega,fun H6 D6 xs x6 lx6 nD6 hD6 srt6=>?_⟩⟩;have sx6:=sx.trans x6;dsimp only [Z2];refine ⟨_,rfl,_,rfl,_,rfl,_,rfl,rfl,D,p.1,n,p.2,ed,pool,rfl,hE.monoX sx6,sx6.sqt hpq,by omega,clo.inp _ kn,ep,clo.few,fun H7 D7 ys s7 nD7 hD7 srt7=>?_⟩;obtain rfl:xs=ys:=srt6.eq srt7 fun x=>Ze2 clo agr w9 kn;have xl:=srt6.few clo w9 kn;have hF7:=s7 _ _ (x6 _ _ rfl hF);have D6F:D6≠F:=fun z=>by rw [z,hF] at nD6;cases nD6
 have rl:rs.length≤100:=by
  have:=Qu List.length er;rw [Qd,Qw,Qd,QW] at this;unfold Y1 at this;rw [NK] at this;simp only [Qd] at this;rw [List.map_const',List.sum_replicate_nat,QW] at this;have a:min i ps.length*ws.length≤2*ws.length:=Nat.mul_le_mul_right _ (by omega);omega
 refine ⟨rfl,D6,D7,xs,rfl,.of (s7 _ _ hD6),.of hD7,by omega,_,rfl,Zt (by rfl) ⟨_,rfl,.inl ⟨rfl,_,.of hF7⟩,_,rfl,F,_,_,rfl,rfl,hF7,Zw (by rw [Qd];omega),?_⟩⟩;have x7:=sx6.trans s7.x;refine ⟨rs++[(D6,xs)],_,_,rfl,SameX.updL x7 (fun u _ e=>by rw [nF] at e;cases e),LamH.updL (lx6.same s7) hF7,by rw [Qq];exact Zf,fun r h=>?_,by rw [Qq,er,tkj,Qq,NE];show _++(_++[xs])=_++(_++[Xf _]);rw [srt6.the],fun z hz=>?_⟩
 rotate_left
 ·rw [tkj] at hz;rcases Qm.mp hz with hz|hz
  ·exact ok2 z hz
  ·rw [QO.mp hz];unfold OkR;rw [srt6.the];exact srt6
 rcases Qm.mp h with h|h
 ·exact ⟨(hr r h).1,by rw [Ze (hr r h).1];exact s7 _ _ (x6 _ _ rfl (hr r h).2)⟩
 obtain rfl:=QO.mp h;exact ⟨D6F,by rw [Ze D6F];exact s7 _ _ hD6⟩
theorem ZnH (T:Tx K w mg) (X0:ZaB P base T) (V7:Zbu P base T) (WQ:Za3 P base T):ZfN P base T:=by
 refine Fun.okX (k:=6) T.Zbn.F Ze0 (fun vs H Q E h=>h.1) (fun cdv A outer s H vs Q E hr h=>?_);obtain ⟨-,h⟩:=h;obtain ⟨v,D,nm,B,ed,pool,rfl,hB,lam,hE,kn,clo,agr,ep,q⟩:=h
 refine ⟨_,(Zk (Yu QG rfl (YJ (Ys (Za Zs (Za Zs (Za Zs (Za Zs (Za Zs (Za Zs (Za Zs (Za Zs (Za Zs Zc))))))))))) (ZS (i:=3) Ze0.nd rfl (Or.inl rfl))
    (Zk (Yh (Wt Rq Rr Rs X9 (ZM X0 hr Zy (Za (pv 0) (Za (ZZ (Za (pv 3) Zc)) (Za (pv 2) Zc)))) (Za Zs Zc)))
   (Zm (ZH (XZ (Xb (ZM WQ hr Zy (Za (ZM X0 hr Zy (Za (pv 0) (Za (ZZ (Za (pv 3) Zc)) (Za (pv 2) Zc)))) (Za (ZM V7 hr Zy (Za (pv 1) (Za (ZZ (Za (pv 3) Zc)) (Za (pv 2) Zc)))) Zc))))) (Zm (ZA YY)) ZL))))
   (Zm (ZA YY))),?_⟩
 refine ⟨few rfl,fun L nL=>?_⟩;have sL:=Zj (o:=.lst (ZV.map V.str)) nL;refine ⟨L,rfl,⟨_,.of Zf⟩,XH (xs:=ZV.map V.str) (fun i σ Hc=>∃(w:Option V),σ=[some v,some (.ref D),some (.str nm),w]∧SameX (Zb H L (.lst (ZV.map V.str))) Hc∧YV T.tb Hc) ?start ?list ?turn ?done⟩
 case start=>exact ⟨_,rfl,.refl _,lam.same sL⟩
 case list =>
  rintro i σ Hc _ ⟨w,rfl,sx,_⟩;exact sx.sql (.of Zf)
 case done =>
  rintro σ Hc ⟨w,rfl,sx,lx⟩;exact q _ (sL.x.trans sx) lx
 case turn =>
 rintro i y σ Hc hy ⟨w,rfl,sx,lx⟩;obtain ⟨s,hs,rfl⟩:=Xv hy;have s9:∀t∈[s],t∈ZV:=fun t ht=>by rw [QO.mp ht];exact QB hs
 have hBc:=(hB.mono sL).monoX sx;dsimp only [Z2];refine ⟨_,rfl,_,rfl,few rfl,fun t nt=>⟨_,rfl,rfl,v,t,.str nm,[s],B,rfl,hBc.mono (Zj nt),lx.same (Zj nt),.of Zf,.inr ⟨nm,pool,rfl,kn,clo,s9,by show (1:Nat)≤100;decide,fun H6 D6 xs x6 lx6 nD6 hD6 srt6=>?_⟩⟩⟩;have st:=sx.trans (Zj (o:=.tup [.str s]) nt).x;have xl:=srt6.few clo s9 kn;refine ⟨.inl ⟨rfl,_,.of hD6⟩,D6,_,_,rfl,rfl,hD6,Zw (by rw [Qd];omega),?_⟩;have x7:=SameX.updL (o:=.lst (xs.map V.str++[.str "?"])) (st.trans x6) (SameX.non st nD6);have lx7:=LamH.updL (o:=.lst (xs.map V.str++[.str "?"])) lx6 hD6;generalize Zb H6 D6 (.lst (xs.map V.str++[.str "?"]))=H7 at x7 lx7 ⊢;refine ⟨_,rfl,_,rfl,few rfl,fun t2 nt2=>⟨_,rfl,rfl,v,t2,.str nm,[s],B,rfl,((hB.mono sL).monoX x7).mono (Zj nt2),lx7.same (Zj nt2),.of Zf,.inr ⟨nm,pool,rfl,kn,clo,s9,by show (1:Nat)≤100;decide,fun H8 D8 ys x8 lx8 nD8 hD8 srt8=>?_⟩⟩⟩;have x78:=(x7.trans (Zj nt2).x).trans x8;refine ⟨_,rfl,_,rfl,few rfl,fun t3 nt3=>⟨_,rfl,rfl,D,t3,nm,[s],ed,pool,rfl,(((hE.mono sL).monoX x78).mono (Zj nt3)),.of Zf,by show (1:Nat)≤100;decide,clo.inp _ kn,ep,clo.few,fun H9 D9 zs s9' nD9 hD9 srt9=>?_⟩⟩;obtain rfl:ys=zs:=srt8.eq srt9 fun x=>Ze2 clo agr s9 kn;have yl:=srt8.few clo s9 kn;have e9:=(Zj (o:=.tup [.str s]) nt3).trans s9';exact ⟨rfl,D8,D9,ys,rfl,.of (e9 _ _ hD8),.of hD9,by omega,_,rfl,Zt (by rfl) ⟨_,rfl,x78.trans e9.x,lx8.same e9⟩⟩
theorem Zjr (T:Tx K w mg) (X0:ZaB P base T) (WQ:Za3 P base T):ZfE P base T:=by
 refine Fun.okX (k:=6) T.Zab.F ZaR (fun vs H Q E h=>h.1) (fun cdv A outer s H vs Q E hr h=>?_);obtain ⟨-,h⟩:=h;obtain ⟨v,p1,p2,nm,B,pool,w1,w2,rfl,hB,lam,h1,h2,n1,n2,l1,l2,kn,clo,q⟩:=h
 refine ⟨_,(Zk (Zv (i:=4) ZaR.nd rfl (Or.inl rfl) Vv)
   (Zk (Yu QG rfl (YJ (ZM X0 hr Zy (Za (pv 0) (Za (pv 1) (Za (pv 3) Zc))))) (ZS (i:=5) ZaR.nd rfl (Or.inl rfl))
    (Zm (Yu QG rfl (YJ (ZM X0 hr Zy (Za (pv 0) (Za (pv 2) (Za (pv 5) Zc))))) (ZS (i:=6) ZaR.nd rfl (Or.inl rfl))
    (Zm (Xz (ZX hr) (pv 4) (pv 6) YY rfl)))))
   (Zm (ZA (ZM WQ hr Zy (Za (ZM X0 hr Zy (Za (pv 0) (Za (Zo Zgj (pv 1) (pv 2)) (Za (pv 3) Zc)))) (Za (ZO (Zb8 rfl) (by rfl) T.n_sorted U8 (Za (pv 4) Zc)) Zc))))))),?_⟩
 refine fun c nc=>?_;have sc:=Zj (o:=.dK []) nc;refine ⟨_,rfl,_,rfl,_,rfl,rfl,v,p1,.str nm,w1,B,rfl,hB.mono sc,lam.same sc,sc.sqt h1,.inr ⟨nm,pool,rfl,kn,clo,n1,by omega,fun H1 L xs x1 lx1 nL hL srt1=>?_⟩⟩;have knA:∀a∈xs,Known B a:=fun a ha=>W5 clo.led n1 (fun x e=>by rw [e];exact kn) a ((srt1.mem a).mp ha);have cL:c≠L:=fun z=>by rw [←z,Zf] at nL;cases nL
 have hc1:H1 c=some (.dK []):=x1 _ _ rfl Zf;refine ⟨L,rfl,⟨_,.of hL⟩,XH (xs:=xs.map V.str) (fun i σ Hc=>∃(cs:List (Str×V)) (v5 v6:Option V),σ=[some v,some (.ref p1),some (.ref p2),some (.str nm),some (.ref c),v5,v6]∧SameX H Hc∧YV T.tb Hc∧Hc L=some (.lst (xs.map V.str))∧Hc c=some (.dK (YM cs))∧(cs.map (·.1)).Nodup∧∀x,x∈cs.map (·.1)↔∃y,y∈xs.take i∧ZW (Z1 B) w2 (·=y) x) ?start ?list ?turn ?done⟩
 case start=>exact ⟨[],_,_,rfl,sc.x.trans x1,lx1,hL,hc1,by simp,fun x=>by simp⟩
 case list =>
  rintro i σ Hc _ ⟨cs,v5,v6,rfl,_,_,hL,_⟩;exact .of hL
 case done =>
  rintro σ Hc ⟨cs,v5,v6,rfl,sx,lx,hL,hc,nd,mem⟩;rw [Qd,QZ] at mem
  have mem':∀x,x∈cs.map (·.1)↔ZW (Z1 B) (w1++w2) (·=nm) x:=fun x=>by
   rw [mem,Zgi,Zao _ w2];exact ⟨fun ⟨y,h,r⟩=>⟨y,(srt1.mem y).mp h,r⟩,fun ⟨y,h,r⟩=>⟨y,(srt1.mem y).mpr h,r⟩⟩
  have n12:∀s∈w1++w2,s∈ZV:=fun s hs=>(Qm.mp hs).elim (n1 s) (n2 s);refine ⟨_,rfl,_,rfl,_,rfl,p1,p2,_,_,rfl,rfl,sx.sqt h1,sx.sqt h2,Q1 (Zw (by simp only [Qd];omega)),fun H5 t s5 ht=>⟨_,rfl,rfl,v,t,.str nm,w1++w2,B,rfl,(hB.monoX sx).mono s5,lx.same s5,by rw [Qq];exact ht,.inr ⟨nm,pool,rfl,kn,clo,n12,by rw [Qw];omega,fun H6 D6 ys x6 lx6 nD6 hD6 srt6=>?_⟩⟩⟩;have yl:=srt6.few clo n12 kn
  have cl:cs.length≤60:=by
   have:=VR nd fun x hx=>clo.inp _ (W5 clo.led n12 (fun x e=>by rw [e];exact kn) x ((mem' x).mp hx));rw [Qd] at this;exact Qn this clo.few
  refine ⟨_,rfl,c,cs,rfl,x6 _ _ rfl (s5 _ _ hc),by omega,fun D7 zs nD7 hp7 hs7=>?_⟩;obtain rfl:ys=zs:=srt6.eq (Q:=ZW (Z1 B) (w1++w2) (·=nm)) ⟨Ja hs7,hp7.nodup_iff.mpr nd,fun x=>by rw [hp7.mem_iff,mem']⟩ fun _=>Iff.rfl;exact ⟨rfl,D6,D7,ys,rfl,.of ((Zj nD7) _ _ hD6),.of Zf,by omega,q _ ((sx.trans s5.x).trans (x6.trans (Zj nD7).x)) (lx6.same (Zj nD7))⟩
 case turn =>
 rintro i y σ Hc hy ⟨cs,v5,v6,rfl,sx,lx,hL,hc,nd,mem⟩;obtain ⟨a,ha,rfl⟩:=Xv hy;have tk:xs.take (i+1)=xs.take i++[a]:=by rw [Q5,ha];rfl
 have ka:=knA a (QB ha);dsimp only [Z2];refine ⟨_,rfl,_,rfl,_,rfl,rfl,v,p2,.str a,w2,B,rfl,hB.monoX sx,lx,sx.sqt h2,.inr ⟨a,pool,rfl,ka,clo,n2,by omega,fun H6 M zs x6 lx6 nM hM srt6=>?_⟩⟩;have cM:c≠M:=fun z=>by rw [←z,hc] at nM;cases nM
 have LM:L≠M:=fun z=>by rw [←z,hL] at nM;cases nM
 refine ⟨M,rfl,⟨_,.of hM⟩,XH (xs:=zs.map V.str) (fun j σ Hj=>∃(cs2:List (Str×V)) (v6:Option V),σ=[some v,some (.ref p1),some (.ref p2),some (.str nm),some (.ref c),some (.str a),v6]∧SameX H Hj∧YV T.tb Hj∧Hj L=some (.lst (xs.map V.str))∧Hj M=some (.lst (zs.map V.str))∧Hj c=some (.dK (YM cs2))∧(cs2.map (·.1)).Nodup∧∀x,x∈cs2.map (·.1)↔x∈cs.map (·.1)∨x∈zs.take j) ?st ?li ?tu ?dn⟩
 case st=>exact ⟨cs,_,rfl,sx.trans x6,lx6,x6 _ _ rfl hL,hM,x6 _ _ rfl hc,nd,fun x=>by simp⟩
 case li =>
  rintro j σ Hj _ ⟨cs2,v6,rfl,_,_,_,hM,_⟩;exact .of hM
 case dn =>
  rintro σ Hj ⟨cs2,v6,rfl,sj,lj,hLj,hMj,hcj,ndj,memj⟩;rw [Qd,QZ] at memj;refine ⟨cs2,_,_,rfl,sj,lj,hLj,hcj,ndj,fun x=>?_⟩;rw [memj,mem,tk,srt6.mem];constructor
  ·rintro (⟨z,h1,h2⟩|h)
   ·exact ⟨z,QQ _ h1,h2⟩
   ·exact ⟨a,by simp,h⟩
  ·rintro ⟨z,h1,h2⟩;rcases Qm.mp h1 with h1|h1
   ·exact .inl ⟨z,h1,h2⟩
   ·rw [show z=a by simpa using h1] at h2;exact .inr h2
 case tu =>
 rintro j x σ Hj hx ⟨cs2,v6,rfl,sj,lj,hLj,hMj,hcj,ndj,memj⟩;obtain ⟨x,hxz,rfl⟩:=Xv hx;have tkj:zs.take (j+1)=zs.take j++[x]:=by rw [Q5,hxz];rfl
 have inP:∀x∈cs2.map (·.1),x∈pool:=fun x hx2=>by
  rcases (memj x).mp hx2 with h|h
  ·obtain ⟨z,h1,h2⟩:=(mem x).mp h;exact clo.inp _ (W5 clo.led n2 (fun x e=>by rw [e];exact knA z (Ri h1)) x h2)
  ·exact clo.inp _ (W5 clo.led n2 (fun x e=>by rw [e];exact ka) x ((srt6.mem x).mp (Ri h)))
 have len2:(YM cs2).length≤60:=by rw [Zam];exact Qn (VR ndj inP) clo.few
 refine ⟨_,rfl,_,rfl,c,_,rfl,DPut.k (k:=.inr x) hcj (Zw (by omega)),?_⟩;rw [ZbJ];refine ⟨Zn cs2 x (.bl true),_,rfl,SameX.updL sj (fun u _ e=>by rw [nc] at e;cases e),?_,?_,?_,Zf,ZaV ndj,fun x'=>?_⟩
 ·exact LamH.updO lj hcj (fun _ z=>by cases z)
 ·rw [Ze cL.symm];exact hLj
 ·rw [Ze cM.symm];exact hMj
 ·rw [Zdy,memj,tkj,Qm,QO,or_assoc]
theorem Zjs (T:Tx K w mg) (Zak:ZfQ P base T) (JW:ZgF P base T) (XU:J0 P base T) (Zbq:Zhl P base T) (UX:Zf0 P base T) (J5:ZdR P base T) (Jl:Zfm P base T) (Zco:ZfN P base T) (ZcE:ZfE P base T):Zea P base T:=by
 refine Fun.okX (k:=7) T.Vs.F YS (fun vs H Q E h=>h.1) (fun cdv A outer s H vs Q E hr h=>?_);obtain ⟨-,h⟩:=h;obtain ⟨l,ss,rfl,hl,l63,lam,q⟩:=h
 refine ⟨_,(Zk (Zv (i:=1) YS.nd rfl (Or.inl rfl) (ZM Zbq hr Zy (Za (pv 0) (Za Zd Zc))))
   (Zk (Zv (i:=2) YS.nd rfl (Or.inl rfl) (ZM UX hr Zy (Za (pv 1) Zc)))
   (Zk (Zv (i:=3) YS.nd rfl (Or.inl rfl) (ZM XU hr Zy (Za (pv 0) (Za Zd Zc))))
   (Zk (Zv (i:=4) YS.nd rfl (Or.inl rfl) (Zo Z9 (pv 3) (Zo YT (ZO Yy (by rfl) T.n_len Yd (Za (pv 1) Zc)) Zd)))
   (Zk (Zv (i:=5) YS.nd rfl (Or.inl rfl) (Zg5 T.mk_Book Zak (hr.mono (by decide)) (by rfl) T.m_Book T.Vp.b .nil Zy))
   (Zk (Zv (i:=6) YS.nd rfl (Or.inl rfl) (Zg5 T.mk_Book Zak (hr.mono (by decide)) (by rfl) T.m_Book T.Vp.b .nil Zy))
   (Zk (Yu QG rfl (YJ (Wg V8 (pv 1) WC (X5 (pv 4)))) (ZS (i:=7) YS.nd rfl (Or.inl rfl))
    (Zk (Yh (Ye (pv 5) T.cl_Book T.WE.me JW (hr.mono (by decide)) T.WE.b .nil Zy (Za (pv 7) Zc)))
   (Zm (Yh (Ye (pv 6) T.cl_Book T.WE.me JW (hr.mono (by decide)) T.WE.b .nil Zy (Za (pv 7) Zc))))))
   (Zk (Zv (i:=8) YS.nd rfl (Or.inl rfl) (Wg V8 (W3 rfl (Xu (N:=["_law_entry"]) [] [none] rfl (by decide +kernel) (by decide +kernel) (by rfl) (by rfl) (by rfl) (by rfl) (by rfl)) (YJ (Wg V8 (pv 1) WC (X5 (pv 4)))) (fun _ _ _=>(ZS (i:=0) Zlw rfl (Or.inl rfl))) (fun _ _ _=>(Wc (Zx Z5 (Zl (UN K rfl) (pv 0) Zd (fun _ _=>rfl)) Zs (Zu _)))) (fun _ _ _=>(Zl (UN K rfl) (pv 0) Zd (fun _ _=>rfl)))) (X5 (JO JY Zd)) WC))
   (Zk (ZH (Zx (ZmK hr.units) (pv 8) (Ys Zc) (Zu _)) (Zm (ZA YY)) ZL)
   (Zk (Zv (i:=9) YS.nd rfl (Or.inl rfl) (Zo Y4 (ZM XU hr Zy (Za (pv 0) (Za Zd Zc))) Zd))
   (Zk (Zv (i:=10) YS.nd rfl (Or.inl rfl) (ZM J5 hr Zy (Za (pv 0) (Za (Zo Z9 (pv 9) Zd) (Za Zd (Za (pv 2) (Za (Zl Ym (pv 8) Zd (fun _ _=>rfl)) Zc)))))))
   (Zk (Zv (i:=11) YS.nd rfl (Or.inl rfl) (ZM J5 hr Zy (Za (pv 0) (Za (Zo Z9 (Zo Y4 (pv 9) Zd) Zd) (Za Zd (Za (pv 2) (Za (Zl Ym (pv 8) (JO JY Zd) (fun _ _=>rfl)) Zc)))))))
   (Zk (Zv (i:=12) YS.nd rfl (Or.inl rfl) (Ys (Za (pv 10) (Za (pv 11) (Za (VM ZeJ (by rfl) T.n_tuple ZdF (Za (W3 rfl (Xu (N:=["_law_step"]) [] [none] rfl (by decide +kernel) (by decide +kernel) (by rfl) (by rfl) (by rfl) (by rfl) (by rfl)) (Uy (Zo Zgj (pv 10) (pv 11))) (fun _ _ _=>(ZS (i:=0) Zns rfl (Or.inl rfl))) (fun _ _ _=>(Wc (Zx WR (pv 0) Zs (Zu _)))) (fun _ _ _=>(pv 0))) Zc)) Zc)))))
   (Zk (Zv (i:=13) YS.nd rfl (Or.inl rfl) (ZM Jl hr Zy (Za (pv 5) (Za (ZM UX hr Zy (Za (Wg V8 (pv 1) WC (X5 (pv 4))) Zc)) (Za (pv 12) (Za (pv 8) Zc))))))
   (Zk (ZH (Zx ZbN (pv 13) VI (Zu _)) (Zm (ZA YY)) ZL)
   (Zk (W9 (i:=14) rfl  YS.nd rfl (Or.inl rfl) (Xu (N:=["_law_row"]) [] [none] rfl (by decide +kernel) (by decide +kernel) (by rfl) (by rfl) (by rfl) (by rfl) (by rfl)) (YJ (pv 13)) (fun _ _ _=>(ZS (i:=0) ZiL rfl (Or.inl rfl))) (fun _ _ _=>UZ) (fun _ _ _=>(VM (ZmS K rfl) (by rfl) T.n_list ZaI (Za (pv 0) Zc))))
   (Zk (Yu QG rfl (YJ (Wg V8 (pv 1) (X5 (pv 4)) WC)) (ZS (i:=7) YS.nd rfl (Or.inl rfl))
    (Zm (Yh (Ye (pv 5) T.cl_Book T.WE.me JW (hr.mono (by decide)) T.WE.b .nil Zy (Za (pv 7) Zc)))))
   (Zk (Zv (i:=15) YS.nd rfl (Or.inr rfl) (ZM Jl hr Zy (Za (pv 5) (Za (pv 2) (Za (pv 12) (Za (pv 8) Zc))))))
   (Zk (ZH (PW.pt (X4 (Zx ZbN (pv 15) VI (Zu _)) (Wu (Zx (ZgJ hr.units) (ZM Jl hr Zy (Za (pv 6) (Za (ZM UX hr Zy (Za (Wg V8 (pv 1) WC (X5 (pv 4))) Zc)) (Za (pv 12) (Za (pv 8) Zc))))) (pv 14) (Zu _))))) (Zm (ZA YY)) ZL)
   (Zk (Yu QG rfl (ZiC (by rfl) T.n_range (Za Zd (Za (ZO Yy (by rfl) T.n_len Yd (Za (pv 14) Zc)) (Za Zd Zc)))) (ZS (i:=16) YS.nd rfl (Or.inr rfl))
    (Zm (ZH (Zx (ZgJ hr.units) (W3 rfl (Xu (N:=["_law_name","_law_then","_law_k"]) ["_law_then","_law_k"] [none,some 15,some 16] rfl (by decide +kernel) (by decide +kernel) (by rfl) (by rfl) (by rfl) (by rfl) (by rfl)) (YJ (Zl Ym (pv 14) (pv 16) (fun _ _=>rfl))) (fun _ _ _=>(ZS (i:=0) ZnG rfl (Or.inl rfl))) (fun _ _ _=>(Wc (Zx (Zj3 K rfl) (pv 0) (Zl (Zoa K rfl) (pv 1) (pv 2) (fun _ _=>rfl)) (by rfl)))) (fun _ _ _=>(pv 0))) (Ys Zc) (Zu _)) (Zm (ZA YY)) ZL)))
   (Zk (Zv (i:=17) YS.nd rfl (Or.inl rfl) (Zl Ym (pv 8) (Zo Z9 (pv 3) (ZO Yy (by rfl) T.n_len Yd (Za (pv 8) Zc))) (fun _ _=>rfl)))
   (Zm (ZA (XB (ZM Zco hr Zy (Za (pv 5) (Za (pv 2) (Za (pv 17) Zc)))) (XB (ZM ZcE hr Zy (Za (pv 5) (Za (pv 10) (Za (pv 11) (Za (pv 17) Zc))))) (XE (YZ (Zh7 hr.units) (pv 13) (pv 14) (Zu _)))))))))))))))))))))))))))),?_⟩
 refine ⟨_,rfl,rfl,l,ss,rfl,hl,l63,fun H1 Le ks ns s1 nLe hLe hR N gd k30=>?_⟩;refine ⟨_,rfl,rfl,Le,ks,ns,rfl,.of hLe,hR,gd,by omega,fun H2 De ed ls s2 nDe hE hb lnd hla hlk=>?_⟩;dsimp only [Z2];have hLe2:=s2 _ _ hLe;have hR2:W2 K H2 ks:=fun p hp=>s2.sqt (hR p hp);have hl2:=(s1.trans s2).sql hl;have lam2:=lam.same (s1.trans s2);refine ⟨_,rfl,rfl,l,ss,_,rfl,hl2,by omega,fun z=>?_⟩;refine ⟨_,rfl,_,rfl,Le,_,rfl,.inl (.of hLe2),_,_,rfl,rfl,_,_,rfl,rfl,Yq (by rw [Wf];omega),?_⟩;rw [Wf]
 obtain ⟨at_,eat,atl⟩:∃a:Nat,z.fmod ((ks.length:Int)+1)=(a:Int)∧a≤ks.length:=by
  have h0:=QI z (b:=(ks.length:Int)+1) (by omega);have h1:=Q0 z (b:=(ks.length:Int)+1) (by omega);exact ⟨(z.fmod ((ks.length:Int)+1)).toNat,by omega,by omega⟩
 dsimp only [Z2];rw [eat];refine fun b dx nb ndx nn=>⟨rfl,b,dx,rfl,Zf,fun H4 k bi li ti su hB4 keep nk nbi nli nti nsu=>⟨rfl,?_⟩⟩;obtain ⟨s4,f4⟩:=Zfi nb ndx keep nk nbi nli nti nsu;clear keep nk nbi nli nti nsu;refine fun b' dx' nb' ndx' nn'=>⟨rfl,b',dx',rfl,Zf,fun H5 k' bi' li' ti' su' hB5' keep nk nbi nli nti nsu=>⟨rfl,?_⟩⟩;obtain ⟨s5,f5⟩:=Zfi nb' ndx' keep nk nbi nli nti nsu;clear keep nk nbi nli nti nsu;have hB5:=hB4.mono s5;have hLe5:=(s4.trans s5) _ _ hLe2;dsimp only [Z2];refine ⟨_,rfl,_,rfl,_,rfl,Le,_,rfl,.of hLe5,fun Ls nLs=>?_⟩;rw [Za0 ks at_ atl];have sL:=Zj (o:=.lst (Z3 (ks.take at_))) nLs;have d1:=(hB5.mono sL).dicts;have d2:=(hB5'.mono sL).dicts;have d12:∀c∈ft k bi li ti su Y8++ft k' bi' li' ti' su' Y8,Uo (Zb H5 Ls (.lst (Z3 (ks.take at_)))) c:=fun c m=>(Qm.mp m).elim (d1 c) (d2 c);obtain ⟨Hs,eHs⟩:∃y,y=Wj (Zb H5 Ls (.lst (Z3 (ks.take at_)))) (ft k bi li ti su Y8++ft k' bi' li' ti' su' Y8):=⟨_,rfl⟩;have sHs:Same Hs (Zb H5 Ls (.lst (Z3 (ks.take at_)))):=eHs▸Zcv _ _;have fs1:∀c∈ft k bi li ti su Y8,Hs c=none:=fun c m=>by rw [eHs];exact ZaW (QQ _ m)
 have fs2:∀c∈ft k' bi' li' ti' su' Y8,Hs c=none:=fun c m=>by rw [eHs];exact ZaW (Q4 _ m)
 have dj0:∀c∈ft k bi li ti su Y8,c∉ft k' bi' li' ti' su' Y8:=fun c m m2=>by rcases hB4.dicts c m with ⟨w,e⟩|⟨w,e⟩<;>rw [f5 c m2] at e<;>cases e
 have s2s:Same H2 Hs:=fun c u e=>by
  rw [eHs,J6 fun m=>?_]
  ·exact sL c u (s5 c u (s4 c u e))
  rcases Qm.mp m with m|m
  ·rw [f4 c m] at e;cases e
  ·have:=s4 c u e;rw [f5 c m] at this;cases this
 have hLs:Hs Ls=some (.lst (Z3 (ks.take at_))):=by rw [eHs];exact WZ d12 Zf rfl
 clear eHs;refine ⟨Ls,rfl,⟨_,.of Zf⟩,XH (xs:=Z3 (ks.take at_)) (fun i σ Hc=>∃(B B':Bk) (v:Option V),σ=[some (.ref l),some (.ref Le),some (.ref De),some (.int z),some (.int at_),some (.ref b),some (.ref b'),v,none,none,none,none,none,none,none,none,none,none]∧BkAt K T.c_Book Hc b dx k bi li ti su B∧BkAt K T.c_Book Hc b' dx' k' bi' li' ti' su' B'∧(LI5 ns B B.kept∧LI5 ns B' B'.kept)∧(B.kept.map (·.1)=((ks.take i).map (·.1)).map Ent.told∧B'.kept.map (·.1)=((ks.take i).map (·.1)).map Ent.told)∧Same Hs Hc∧(∀c∈ft k bi li ti su B,Hs c=none)∧(∀c∈ft k' bi' li' ti' su' B',Hs c=none)∧∀c∈ft k bi li ti su B,c∉ft k' bi' li' ti' su' B') ?start ?list ?turn ?done⟩
 case start=>exact ⟨Y8,Y8,none,rfl,hB5.mono sL,hB5'.mono sL,⟨LI5.start ns,LI5.start ns⟩,⟨rfl,rfl⟩,sHs,fs1,fs2,dj0⟩
 case list =>
  rintro i σ Hc _ ⟨B,B',v,rfl,_,_,_,_,sc,_⟩;exact .of (sc _ _ hLs)
 case turn =>
  rintro i y σ Hc hy ⟨B,B',v,rfl,hB,hB',li5,hk,sc,g1,g2,dj⟩;obtain ⟨p,hp,rfl⟩:=ZaZ hy;obtain ⟨e,a⟩:=p
  have hp:ks[i]?=some (e,a):=by
   have il:=(QJ.mp hp).1;rw [QW] at il;rw [NL (by omega)] at hp;exact hp
  have il:=(QJ.mp hp).1;have row:=s2s.sqt (hR2 _ (QB hp));have tk:(ks.take (i+1)).map (·.1)=(ks.take i).map (·.1)++[e]:=Zdm hp;have gt:GdL ns ((ks.take i).map (·.1)++[e]):=by rw [←tk,Gu];exact gd.take _
  have hkl:∀{B:Bk},B.kept.map (·.1)=((ks.take i).map (·.1)).map Ent.told->B.kept.length≤60:=fun hk=>by
   have:=J4 hk;rw [Qd,Qd,QW] at this;omega
  have n24:=N.len;obtain ⟨no,d5,rm⟩:=GdL.ref li5.1 hk.1 gt (hkl hk.1) (by omega);refine ⟨_,rfl,b,dx,_,rfl,hB.ob,rfl,_,rfl,rfl,b,dx,k,bi,li,ti,su,B,.ref a,e,rfl,hB,⟨a,rfl,sc.sqt row⟩,d5.1,no,rm,fun H6 B6 y hB6 hput bt hy gr grT=>?_⟩;obtain ⟨li6,sb6⟩:=li5.1.put' hput d5 no;obtain ⟨sc6,g6⟩:=J1 bt hy grT sc g1;obtain ⟨hB6',dj6⟩:=Zhj hB hB' dj bt hy grT;have hk6:B6.kept.map (·.1)=((ks.take (i+1)).map (·.1)).map Ent.told:=by rw [sb6,tk,Qq,hk.1];rfl
  obtain ⟨no',d5',rm'⟩:=GdL.ref li5.2 hk.2 gt (hkl hk.2) (by omega);refine ⟨_,rfl,b',dx',_,rfl,hB6'.ob,rfl,_,rfl,rfl,b',dx',k',bi',li',ti',su',B',.ref a,e,rfl,hB6',⟨a,rfl,sc6.sqt row⟩,d5'.1,no',rm',fun H7 B7 y7 hB7 hput7 bt7 hy7 gr7 grT7=>?_⟩;obtain ⟨li7,sb7⟩:=li5.2.put' hput7 d5' no';obtain ⟨sc7,g7⟩:=J1 bt7 hy7 grT7 sc6 g2;obtain ⟨hB67,dj7⟩:=Zhj hB6' hB6 (fun c m m2=>dj6 c m2 m) bt7 hy7 grT7;have hk7:B7.kept.map (·.1)=((ks.take (i+1)).map (·.1)).map Ent.told:=by rw [sb7,tk,Qq,hk.2];rfl
  exact ⟨B6,B7,_,rfl,hB67,hB7,⟨li6,li7⟩,⟨hk6,hk7⟩,sc7,g6,g7,fun c m m2=>dj7 c m2 m⟩
 case done =>
 rintro σ Hb ⟨B,B',v,rfl,hB,hB',li5,hk,sc,g1,g2,dj⟩;rw [Wf,QW,NF atl] at hk;clear hB4 hB5 hB5' d1 d2 d12 sL sHs fs1 fs2 dj0 hLs nLs;have hEs:=hE.mono s2s;have hLes:=s2s _ _ hLe2;have hRs:W2 K Hs ks:=fun p hp=>s2s.sqt (hR2 p hp);have hls:=s2s.sql hl2;have lams:=lam2.same s2s;clear hl hLe hLe2 hLe5 hR hR2 hl2 lam lam2 hE s1 s2 s4 s5 f4 f5;have hLeb:=sc _ _ hLes;have hRb:W2 K Hb (ks.take at_):=fun p hp=>sc.sqt (hRs p (Ri hp));dsimp only [Z2];refine ⟨_,rfl,_,rfl,_,rfl,Le,_,rfl,.of hLeb,fun L8 nL8=>?_⟩;rw [Za0 ks at_ atl];obtain ⟨k1,ek1⟩:∃y,y=ks.take at_:=⟨_,rfl⟩;have k1l:k1.length≤30:=by rw [ek1,QW];omega
 rw [←ek1] at hk hRb ⊢;have s8:=Zj (o:=.lst (Z3 k1)) nL8;refine ⟨L8,rfl,⟨_,.of Zf⟩,WF (k1.map Zda) (Zw (by rw [Qd];omega)) (fun σ=>∃w,σ=[w]) ⟨_,rfl⟩ (fun j H4 hj sm=>?go) (fun H4 sm=>?stop) (fun j σ H4 x H5 z hz hσ sm hx C hC=>?step) (fun Lp H9 nLp s9 hLp=>?fin)⟩
 case go=>exact ⟨_,_,sm.sql (.of Zf),Qt (by rw [Wf];rw [Qd] at hj;exact hj)⟩
 case stop=>exact ⟨_,sm.sql (.of Zf),by rw [Qd,Wf];exact Qf _⟩
 case step =>
  obtain ⟨w,rfl⟩:=hσ;obtain ⟨rfl,hx2⟩:=hx;obtain ⟨p,hp,rfl⟩:=ZaZ (hx2 _ (sm.sql (.of Zf)));rw [Qp,hp] at hz;obtain rfl:=Ql hz;obtain ⟨e,a⟩:=p;have row:=sm.sqt (s8.sqt (hRb _ (QB hp)));cases e with
  |born n s d f m =>
   exact ⟨_,rfl,a,_,_,_,rfl,rfl,row,Zh (j:=0) rfl,rfl,_,rfl,Yb (by decide +kernel) ⟨_,rfl,a,_,_,_,rfl,rfl,row,Zh (j:=1) rfl,hC _ _ ⟨_,rfl⟩ (Same.refl _)⟩⟩
  |taken =>
   exact ⟨_,rfl,a,_,_,_,rfl,rfl,row,Zh (j:=0) rfl,rfl,_,rfl,Zt (by decide +kernel) (hC _ _ ⟨_,rfl⟩ (Same.refl _))⟩
  |union =>
   exact ⟨_,rfl,a,_,_,_,rfl,rfl,row,Zh (j:=0) rfl,rfl,_,rfl,Zt (by decide +kernel) (hC _ _ ⟨_,rfl⟩ (Same.refl _))⟩
  |parted =>
   exact ⟨_,rfl,a,_,_,_,rfl,rfl,row,Zh (j:=0) rfl,rfl,_,rfl,Zt (by decide +kernel) (hC _ _ ⟨_,rfl⟩ (Same.refl _))⟩
  |dead =>
   exact ⟨_,rfl,a,_,_,_,rfl,rfl,row,Zh (j:=0) rfl,rfl,_,rfl,Zt (by decide +kernel) (hC _ _ ⟨_,rfl⟩ (Same.refl _))⟩
  |given =>
   exact ⟨_,rfl,a,_,_,_,rfl,rfl,row,Zh (j:=0) rfl,rfl,_,rfl,Zt (by decide +kernel) (hC _ _ ⟨_,rfl⟩ (Same.refl _))⟩
 case fin =>
 rw [ZfC] at hLp;obtain ⟨pn,epn⟩:∃y,y=(k1.map (·.1)).filterMap Ent.bornName:=⟨_,rfl⟩;rw [←epn] at hLp;refine ⟨_,rfl,_,rfl,Lp,_,rfl,.of hLp,fun L9 nL9=>?_⟩;rw [Zna];obtain ⟨ps,eps⟩:∃y,y=pn.drop (pn.length-2):=⟨_,rfl⟩;rw [←eps];have s9':=Zj (o:=.lst (ps.map V.str)) nL9;have sc9:=sc.trans (s8.trans (s9.trans s9'));have hB9:=hB.mono (s8.trans (s9.trans s9'));have hB9':=hB'.mono (s8.trans (s9.trans s9'));have hL9:Zb H9 L9 (.lst (ps.map V.str)) L9=some (.lst (ps.map V.str)):=Zf;generalize Zb H9 L9 (.lst (ps.map V.str))=Hd at sc9 hB9 hB9' hL9 s9' ⊢;dsimp only [Z2];refine ⟨_,rfl,few rfl,fun Ln nLn=>⟨L9,Ln,_,rfl,rfl,(Zj nLn) _ _ hL9,Zf,_,rfl,?_⟩⟩;by_cases pne:ps=[]
 ·exact Yb (by simp [pne]) (q _ ((lams.same sc9).same (Zj nLn)))
 refine Zt (by simp [pne]) ?_;have se:=Zj (o:=.lst []) nLn;have sce:=sc9.trans se;have hBe:=hB9.mono se;have hBe':=hB9'.mono se;have hL9e:=se _ _ hL9;clear hB9 hB9' hL9 sc9 s9' s9 s8 nLp nL9 hLp;generalize Zb Hd Ln (.lst [])=He at sce hBe hBe' hL9e se ⊢;clear se nLn hB hB' sc hLeb hRb;have bigs:∀{z:Int},z≠0->-1000≤z->z≤1000->z≠0∧z.natAbs<2 ^ 1000:=fun h h1 h2=>⟨h,YC (by omega) (by omega)⟩;have m7:∀a:Int,0≤a.fmod 7∧a.fmod 7≤12:=fun a=>⟨QI _ (by decide),Int.le_of_lt (Int.lt_of_lt_of_le (Q0 _ (by decide)) (by decide))⟩;have pl2:ps.length≤2:=by rw [eps,GE];omega
 have pl0:0<ps.length:=List.length_pos_iff.mpr pne;have psp:∀n∈ps,n∈pn:=fun n hn=>List.mem_of_mem_drop (eps▸hn);obtain ⟨n0,hn0⟩:∃n,ps[0]?=some n:=⟨_,Qt pl0⟩;obtain ⟨n9,hn9⟩:∃n,ps[ps.length-1]?=some n:=⟨_,Qt (by omega)⟩;refine ⟨_,rfl,rfl,l,ss,_,rfl,sce.sql hls,by omega,fun z1=>⟨_,_,rfl,rfl,bigs (by decide) (by decide) (by decide),?_⟩⟩;dsimp only [Z2];generalize z1.fdiv 3=many;refine ⟨_,rfl,_,rfl,_,_,rfl,rfl,Yq (by decide),_,rfl,_,rfl,L9,_,_,_,rfl,rfl,.of hL9e,Zn8 hn0,rfl,l,ss,_,_,De,n0,ed,rfl,sce.sql hls,(m7 _).1,(m7 _).2,by omega,by omega,hEs.mono sce,hb,fun Hf p1 w1 sf np1 hp1 w19 w1l=>?_⟩;dsimp only [Z2];refine ⟨_,rfl,_,rfl,_,_,rfl,rfl,bigs (by decide) (by decide) (by decide),_,_,rfl,rfl,Yq (by decide),_,rfl,_,rfl,_,rfl,L9,_,_,_,rfl,rfl,.of (sf _ _ hL9e),ZmU (n:=ps.length-1) (by omega) hn9,rfl,l,ss,_,_,De,n9,ed,rfl,(sce.trans sf).sql hls,(m7 _).1,(m7 _).2,by omega,by omega,hEs.mono (sce.trans sf),hb,fun Hg p2 w2 sg np2 hp2 w29 w2l=>?_⟩;dsimp only [Z2];obtain ⟨w12,e12⟩:∃y,y=w1++w2:=⟨_,rfl⟩;have l12:w12.length≤24:=by rw [e12,Qw];omega
 have n12:∀s∈w12,s∈ZV:=fun s hs=>by rw [e12] at hs;exact (Qm.mp hs).elim (w19 s) (w29 s)
 refine ⟨_,rfl,_,rfl,_,rfl,_,rfl,p1,p2,_,_,rfl,rfl,sg.sqt hp1,hp2,Q1 (Zw (by simp only [Qd];omega)),fun Hh pc sh hpc=>?_⟩;rw [←Qq,←e12] at hpc;refine ⟨pc,rfl,⟨_,hpc⟩,WF (w12.map UM) (Zw (by rw [Qd];omega)) (fun σ=>∃w,σ=[w]) ⟨_,rfl⟩ (fun j H4 hj sm=>?go) (fun H4 sm=>?stop) (fun j σ H4 x H5 z hz hσ sm hx C hC=>?step) (fun Lc Hi nLc si hLc=>?fin)⟩
 case go=>exact ⟨_,_,sm.sqt hpc,Qt (by rw [Qd];rw [Qd] at hj;exact hj)⟩
 case stop=>exact ⟨_,sm.sqt hpc,by rw [Qd,Qd];exact Qf _⟩
 case step =>
  obtain ⟨w,rfl⟩:=hσ;obtain ⟨rfl,hx2⟩:=hx;obtain ⟨s,hs,rfl⟩:=Xv (hx2 _ (sm.sqt hpc));rw [Qp,hs] at hz;obtain rfl:=Ql hz;by_cases h:s="S"
  ·rw [show UM s=none from Qc h] at hC;exact ⟨_,rfl,rfl,_,rfl,Zt (by simp [Xi,h]) (hC _ _ ⟨_,rfl⟩ (Same.refl _))⟩
  ·rw [show UM s=some (.str s) from Qa h] at hC;exact ⟨_,rfl,rfl,_,rfl,Yb (by simp [Xi,h]) ⟨_,rfl,hC _ _ ⟨_,rfl⟩ (Same.refl _)⟩⟩
 case fin =>
 rw [Zgp] at hLc;refine ⟨Lc,_,rfl,.inl ⟨.of hLc,fun p3 np3=>?_⟩⟩;have s3:=Zj (o:=.tup ((X3 w12).map V.str)) np3;refine ⟨few rfl,fun Lw nLw=>?_⟩;obtain ⟨ws,ews⟩:∃y:List (Addr×List Str),y=[(p1,w1),(p2,w2),(p3,X3 w12)]:=⟨_,rfl⟩;have sw:=Zj (o:=.lst [.ref p1,.ref p2,.ref p3]) nLw;have s3w:=s3.trans sw;have sgw:=sh.trans (si.trans s3w);have sew:=sf.trans (sg.trans sgw);have scw:=sce.trans sew;have hBw:=hBe.mono sew;have hBw':=hBe'.mono sew;have hL9w:=sew _ _ hL9e;have hLw:Zb (Zb Hi p3 (.tup ((X3 w12).map V.str))) Lw (.lst [.ref p1,.ref p2,.ref p3]) Lw=some (.lst (ws.map fun q=>.ref q.1)):=by rw [ews];exact Zf
 have hws:∀q∈ws,SqT K (Zb (Zb Hi p3 (.tup ((X3 w12).map V.str))) Lw (.lst [.ref p1,.ref p2,.ref p3])) q.1 (q.2.map V.str)∧(∀s∈q.2,s∈ZV)∧q.2.length≤24:=fun q hq=>by
  have hq':q=(p1,w1)∨q=(p2,w2)∨q=(p3,X3 w12):=by rw [ews] at hq;simpa using hq
  rcases hq' with rfl|rfl|rfl
  ·exact ⟨(sg.trans sgw).sqt hp1,w19,by show w1.length≤24;omega⟩
  ·exact ⟨sgw.sqt hp2,w29,by show w2.length≤24;omega⟩
  ·exact ⟨sw.sqt (.of Zf),fun s hs=>n12 s (ZgX hs).1,Qn (GX _ _) l12⟩
 have w3:ws.length=3:=by rw [ews];rfl
 generalize Zb (Zb Hi p3 (.tup ((X3 w12).map V.str))) Lw (.lst [.ref p1,.ref p2,.ref p3])=Hw at scw hBw hBw' hL9w hLw hws s3w sgw sew sw ⊢;have hp1w:=(hws (p1,w1) (by rw [ews];simp)).1;have hp2w:=(hws (p2,w2) (by rw [ews];simp)).1;clear sw s3w sgw sew s3 si sh sg sf sce hBe hBe' hL9e nLw np3 nLc hLc hpc hp1 hp2 np1 np2;dsimp only [Z2];refine ⟨_,rfl,_,rfl,_,rfl,_,rfl,Le,_,rfl,.of (scw _ _ hLes),fun La nLa=>?_⟩;rw [Za0 ks at_ atl,←ek1];have sa:=Zj (o:=.lst (Z3 k1)) nLa;have rows1:∀{Hx:Hp},Same Hs Hx->W2 K Hx k1:=fun s p hp=>s.sqt (hRs p (Ri (ek1▸hp)));have gd1:GdL ns (k1.map (·.1)):=by rw [ek1,Gu];exact gd.take _
 refine ⟨rfl,La,k1,ns,rfl,.of Zf,rows1 (scw.trans sa),gd1,by omega,fun Hx D1 ed1 ls1 sx nD1 hE1 hb1 lnd1 hla1 hlk1=>?_⟩;have j1:Jn ns B (k1.map (·.1)) ls1 (lk ed1):=⟨li5.1,hk.1,gd1,lnd1,hla1,hlk1⟩;have j1':Jn ns B' (k1.map (·.1)) ls1 (lk ed1):=⟨li5.2,hk.2,gd1,lnd1,hla1,hlk1⟩;have n60:ns.length≤60:=by have:=N.len;omega
 have kn1:∀n∈ps,Known B n:=fun n hn=>by
  obtain ⟨sn,dn,fn,mn,hborn⟩:=ZdM (epn▸psp n hn);exact (j1.known hborn).1
 have kn1':∀n∈ps,Known B' n:=fun n hn=>by
  obtain ⟨sn,dn,fn,mn,hborn⟩:=ZdM (epn▸psp n hn);exact (j1'.known hborn).1
 have sax:=sa.trans sx;have hws1:∀{Hz:Hp},SameX Hw Hz->∀q∈ws,SqT K Hz q.1 (q.2.map V.str)∧(∀s∈q.2,s∈ZV)∧q.2.length≤24:=fun sz q hq=>⟨sz.sqt (hws q hq).1,(hws q hq).2⟩;refine ⟨_,rfl,_,rfl,rfl,.ref b,D1,Lw,L9,B,ed1,ns,ws,ps,rfl,⟨_,_,_,_,_,_,_,rfl,hBw.mono sax⟩,lams.same (scw.trans sax),hE1,.of (sax _ _ hLw),hws1 sax.x,.of (sax _ _ hL9w),kn1,j1.clo n60,(fun s hs n kn x=>j1.step hs kn x),j1.inPool hE1.kn,w3,pl2,fun Ht F1 rs1 x1 lx1 hF1 hr1 er1 ok1=>?_⟩;have xw1:=sax.x.trans x1;dsimp only [Z2];refine ⟨_,rfl,rfl,_,rfl,Zt (by rfl) ?_⟩
 have rl1:rs1.length≤6:=by
  have:=Qu List.length er1;rw [Qd] at this;unfold Y1 at this;rw [NK] at this;simp only [Qd] at this;rw [List.map_const',List.sum_replicate_nat,w3] at this;omega
 refine ⟨_,rfl,F1,rfl,⟨_,.of hF1⟩,Zld rs1.length (fun D i H v=>∃a r,v=.ref a∧a≠D∧rs1[i]?=some r∧H a=some (.lst (r.2.map V.str))) (fun i H H' v D ⟨a,r,e,ne,h1,h2⟩ bt=>⟨a,r,e,ne,h1,bt a _ ne h2⟩) (Zw (by omega)) (fun σ=>∃w,σ=[w]) ⟨_,rfl⟩ (fun j H4 hj sm=>?go) (fun H4 sm=>?stop) (fun D j σ H4 x H5 hD hj hσ sm hx C hC=>?step) (fun F2 ys Hk nF2 sk hF2 yl hys=>?fin)⟩
 case go=>exact ⟨_,_,sm.sql (.of hF1),Qt (by rw [Qd];exact hj)⟩
 case stop=>exact ⟨_,sm.sql (.of hF1),by rw [Qd];exact Qf _⟩
 case step =>
  obtain ⟨w,rfl⟩:=hσ;obtain ⟨rfl,hx2⟩:=hx;obtain ⟨r,hr,rfl⟩:=ZgG (hx2 _ (sm.sql (.of hF1)));exact ⟨_,rfl,r.1,_,rfl,.inl (.of (sm _ _ (hr1 r (QB hr)))),fun a na=>hC _ _ _ ⟨_,rfl⟩ (Zj na) ⟨a,r,rfl,fun z=>hD (by rw [←z];exact na),hr,Zf⟩⟩
 case fin =>
 obtain ⟨rs2,rfl,er2,hr2⟩:=ZfZ (H:=Hk) (ys:=ys) (zss:=rs1.map (·.2)) (by rw [Qd];exact yl) fun i y e=>by
  obtain ⟨a,r,e1,_,e2,e3⟩:=hys i y e;exact ⟨a,r.2,e1,by rw [Qp,e2];rfl,e3⟩
 clear hys;have xwk:=xw1.trans sk.x;have lxk:=lx1.same sk;have hF1k:=sk _ _ hF1;have hr1k:∀r∈rs1,Hk r.1=some (.lst (r.2.map V.str)):=fun r hr=>sk _ _ (hr1 r hr);have hBk:=hBw.monoX xwk;have hBk':=hBw'.monoX xwk;have xsk:SameX Hs Hk:=scw.x.trans xwk;clear hF1 hr1 x1 lx1 hBw hBw' sax sa sx nLa nD1 nF2 sk;dsimp only [Z2];refine ⟨_,rfl,_,rfl,_,rfl,Le,_,rfl,.of (xsk _ _ rfl hLes),fun Lt nLt=>?_⟩;rw [Zn3 ks at_ atl];have sL:=Zj (o:=.lst (Z3 (ks.drop at_))) nLt;have hBL:=hBk.mono sL;have dB:=hBL.dicts;obtain ⟨Hq,eHq⟩:∃y,y=Wj (Zb Hk Lt (.lst (Z3 (ks.drop at_)))) (ft k bi li ti su B):=⟨_,rfl⟩;have sHq:Same Hq (Zb Hk Lt (.lst (Z3 (ks.drop at_)))):=eHq▸Zcv _ _;have fq:∀c∈ft k bi li ti su B,Hq c=none:=fun c m=>by rw [eHq];exact ZaW m
 have xsq:SameX Hs Hq:=fun c u nx e=>by
  rw [eHq,J6 fun m=>by rw [g1 c m] at e;cases e];exact sL c u (xsk c u nx e)
 have kq:∀{c:Addr} {o:HO},Hk c=some o->plain o=true->Hq c=some o:=fun e p=>by rw [eHq];exact WZ dB (sL _ _ e) p
 have hLt:Hq Lt=some (.lst (Z3 (ks.drop at_))):=by rw [eHq];exact WZ dB Zf rfl
 have hBq':BkAt K T.c_Book Hq b' dx' k' bi' li' ti' su' B':=by rw [eHq];exact (hBk'.mono sL).rest dB dj
 have lxq:YV T.tb Hq:=by rw [eHq];exact LamH.rest (lxk.same sL) dB
 have hwq:∀q∈ws,SqT K Hq q.1 (q.2.map V.str)∧(∀s∈q.2,s∈ZV)∧q.2.length≤24:=fun q hq=>⟨by rw [eHq];exact Zfp dB (sL.sqt (xwk.sqt (hws q hq).1)),(hws q hq).2⟩;have hLwq:=kq (xwk _ _ rfl hLw) rfl;have hL9q:=kq (xwk _ _ rfl hL9w) rfl;have hF1q:=kq hF1k rfl;have hF2q:=kq hF2 rfl;have hr1q:∀r∈rs1,Hq r.1=some (.lst (r.2.map V.str)):=fun r hr=>kq (hr1k r hr) rfl;have hr2q:∀r∈rs2,Hq r.1=some (.lst (r.2.map V.str)):=fun r hr=>kq (hr2 r hr) rfl;clear eHq hws hws1 hLw hL9w hF1k hF2 hr1k hr2 lxk hBk' kq dB;have n24:=N.len;refine ⟨Lt,rfl,⟨_,.of Zf⟩,XH (xs:=Z3 (ks.drop at_)) (fun i σ Hc=>∃(B2:Bk) (v:Option V),σ=[some (.ref l),some (.ref Le),some (.ref De),some (.int z),some (.int at_),some (.ref b),some (.ref b'),v,some (.ref L9),some (.int many),some (.ref p1),some (.ref p2),some (.ref Lw),some (.ref F1),some (.ref F2),none,none,none]∧BkAt K T.c_Book Hc b dx k bi li ti su B2∧LI5 ns B2 B2.kept∧B2.kept.map (·.1)=((ks.take (at_+i)).map (·.1)).map Ent.told∧Same Hq Hc∧∀c∈ft k bi li ti su B2,Hq c=none) ?start ?list ?turn ?done⟩
 case start=>exact ⟨B,_,rfl,hBL,li5.1,by rw [hk.1,ek1];rfl,sHq,fq⟩
 case list =>
  rintro i σ Hc _ ⟨B2,v,rfl,_,_,_,sc,_⟩;exact .of (sc _ _ hLt)
 case turn =>
  rintro i y σ Hc hy ⟨B2,v,rfl,hB2,li2,hk2,sc,g2⟩;obtain ⟨p,hp,rfl⟩:=ZaZ hy;obtain ⟨e,a⟩:=p;rw [List.getElem?_drop] at hp;have il:=(QJ.mp hp).1;have row:=sc.sqt (xsq.sqt (hRs _ (QB hp)));have tk:(ks.take (at_+i+1)).map (·.1)=(ks.take (at_+i)).map (·.1)++[e]:=Zdm hp;have gt:GdL ns ((ks.take (at_+i)).map (·.1)++[e]):=by rw [←tk,Gu];exact gd.take _
  have hkl:B2.kept.length≤60:=by
   have:=J4 hk2;rw [Qd,Qd,QW] at this;omega
  obtain ⟨no,d5,rm⟩:=GdL.ref li2 hk2 gt hkl (by omega);refine ⟨_,rfl,b,dx,_,rfl,hB2.ob,rfl,_,rfl,rfl,b,dx,k,bi,li,ti,su,B2,.ref a,e,rfl,hB2,⟨a,rfl,row⟩,d5.1,no,rm,fun H6 B6 y hB6 hput bt hy gr grT=>?_⟩;obtain ⟨li6,sb6⟩:=li2.put' hput d5 no;obtain ⟨sc6,g6⟩:=J1 bt hy grT sc g2;exact ⟨B6,_,rfl,hB6,li6,by rw [sb6,show at_+(i+1)=at_+i+1 from rfl,tk,Qq,hk2];rfl,sc6,g6⟩
 case done =>
 rintro σ Hv ⟨B2,v,rfl,hB2,li2,hk2,sv,_⟩;rw [Wf,GE,show at_+(ks.length-at_)=ks.length by omega,QZ] at hk2;clear hBk hBL sL sHq fq hLt nLt xsk xwk xw1 scw g1 g2 dj;have j2:Jn ns B2 (ks.map (·.1)) ls (lk ed):=⟨li2,hk2,gd,lnd,hla,hlk⟩;have eks:ks.map (·.1)=k1.map (·.1)++(ks.drop at_).map (·.1):=by rw [ek1,←Qq,List.take_append_drop]
 have kn2:∀n∈ps,Known B2 n:=fun n hn=>by
  obtain ⟨sn,dn,fn,mn,hborn⟩:=ZdM (epn▸psp n hn);exact (j2.known (by rw [eks];exact QQ _ hborn)).1
 dsimp only [Z2];refine ⟨_,rfl,_,rfl,_,rfl,_,rfl,rfl,.ref b,De,Lw,L9,B2,ed,ns,ws,ps,rfl,⟨_,_,_,_,_,_,_,rfl,hB2⟩,lxq.same sv,(hEs.monoX xsq).mono sv,.of (sv _ _ hLwq),(fun q hq=>⟨sv.sqt (hwq q hq).1,(hwq q hq).2⟩),.of (sv _ _ hL9q),kn2,j2.clo n60,(fun s hs n kn x=>j2.step hs kn x),j2.inPool hEs.kn,w3,pl2,fun Ht F3 rs3 x3 lx3 hF3 hr3 er3 ok3=>?_⟩;have xq3:SameX Hq Ht:=sv.x.trans x3;have hB3:=hB2.monoX x3;clear x3 hB2 sv;dsimp only [Z2];refine ⟨_,rfl,rfl,_,rfl,Zt (by rfl) ?_⟩;have xs3:=xsq.trans xq3;refine ⟨_,rfl,_,rfl,_,rfl,_,rfl,Le,_,rfl,.of (xs3 _ _ rfl hLes),fun Lb nLb=>?_⟩;rw [Za0 ks at_ atl,←ek1];have sb:=Zj (o:=.lst (Z3 k1)) nLb;refine ⟨rfl,Lb,k1,ns,rfl,.of Zf,fun p hp=>sb.sqt (xs3.sqt (hRs p (Ri (ek1▸hp)))),gd1,by omega,fun Hy D4 ed4 ls4 sy nD4 hE4 hb4 lnd4 hla4 hlk4=>?_⟩;have j4:Jn ns B' (k1.map (·.1)) ls4 (lk ed4):=⟨li5.2,hk.2,gd1,lnd4,hla4,hlk4⟩;have xqy:SameX Hq Hy:=xq3.trans (sb.trans sy).x;refine ⟨_,rfl,_,rfl,rfl,.ref b',D4,Lw,L9,B',ed4,ns,ws,ps,rfl,⟨_,_,_,_,_,_,_,rfl,hBq'.monoX xqy⟩,lx3.same (sb.trans sy),hE4,.of (xqy _ _ rfl hLwq),(fun q hq=>⟨xqy.sqt (hwq q hq).1,(hwq q hq).2⟩),.of (xqy _ _ rfl hL9q),kn1',j4.clo n60,(fun s hs n kn x=>j4.step hs kn x),j4.inPool hE4.kn,w3,pl2,fun Hz F4 rs4 x4 lx4 hF4 hr4 er4 ok4=>?_⟩;have x34:SameX Ht Hz:=(sb.trans sy).x.trans x4;have xqz:SameX Hq Hz:=xq3.trans x34;have e41:rs4.map (·.2)=rs1.map (·.2):=by rw [er4,er1];exact (Zjf fun n hn q hq x=>(j1.same (kn1 n hn) (hwq q hq).2.1 x).trans (j1'.same (kn1' n hn) (hwq q hq).2.1 x).symm).symm
 have rw1:=JQ (K:=K) (xqz _ _ rfl hF1q) fun r hr=>xqz _ _ rfl (hr1q r hr);have rw2:=JQ (K:=K) (xqz _ _ rfl hF2q) fun r hr=>xqz _ _ rfl (hr2q r hr);have rw4:=JQ (K:=K) hF4 hr4;rw [er2] at rw2;rw [e41] at rw4;refine ⟨_,rfl,_,rw4,rw2,_,rfl,Zt (by rfl) ?_⟩;have hF3z:=x34 _ _ rfl hF3;have hr3z:∀r∈rs3,Hz r.1=some (.lst (r.2.map V.str)):=fun r hr=>x34 _ _ rfl (hr3 r hr);have hBz:=hB3.monoX x34;clear hF3 hr3 hB3 hE4 hF4 hr4 x34 xqy sb sy lx3 nLb nD4 rw4;dsimp only [Z2,Zbb]
 have rl2:rs2.length≤6:=by
  have:=Qu List.length er2;rw [Qd,Qd] at this;omega
 have hF2z:=xqz _ _ rfl hF2q;refine ⟨_,rfl,F2,_,rfl,.inl (.of hF2z),2,_,3,rfl,⟨by decide,by decide,by omega,by rw [Qd];omega,by decide,by decide⟩,fun m hm _=>ZjC (fun i σ Hc=>SameX Hz Hc∧YV T.tb Hc∧∃v15 v16:Option V,σ=[some (.ref l),some (.ref Le),some (.ref De),some (.int z),some (.int at_),some (.ref b),some (.ref b'),v,some (.ref L9),some (.int many),some (.ref p1),some (.ref p2),some (.ref Lw),some (.ref F1),some (.ref F2),some (.ref F3),v15,v16]) ⟨.refl _,lx4,_,_,rfl⟩ ?jt ?jd⟩
 case jt =>
  rintro i σ Hc hi ⟨sx,lx,v15,v16,rfl⟩;have hi2:=hm i hi;rw [Qd] at hi2;rw [show (2:Int)+(i:Int)*((3:Nat):Int)=((2+i*3:Nat):Int) by omega];rw [ews] at er1 er3;obtain ⟨r,n,hr,hn,er⟩:=ZfS (er2.trans er1) (i:=i) (by omega)
  have l3:rs3.length=rs2.length:=by
   have a:=Qu List.length er3;have b:=Qu List.length (er2.trans er1);unfold Y1 at a b;rw [Qd,NK] at a b;simp only [Qd,QM] at a b;omega
  obtain ⟨r3,n',hr3,hn',er3'⟩:=ZfS er3 (i:=i) (by omega);obtain rfl:n=n':=Ql (hn.symm.trans hn');have np:=QB hn;have q3:(p3,X3 w12)∈ws:=by rw [ews];simp
  have o1:SrtOf _ _:=ok1 n np _ q3;have o3:SrtOf _ _:=ok3 n np _ q3;have c9:∀s∈X3 w12,s∈ZV:=(hwq _ q3).2.1;have j2':Jn ns B2 (k1.map (·.1)++(ks.drop at_).map (·.1)) ls (lk ed):=eks▸j2
  have sub:∀s∈r.2,s∈r3.2:=fun s hs=>by
   rw [er] at hs;rw [er3'];exact (o3.mem s).mpr (j2'.more j1 c9 (fun s hs=>(ZgX hs).2) (kn1 n np) (kn2 n np) s ((o1.mem s).mp hs))
  have rl:r.2.length≤60:=by rw [er];exact o1.few (j1.clo n60) c9 (kn1 n np)
  have row:Hc r.1=some (.lst (r.2.map V.str)):=sx _ _ rfl (xqz _ _ rfl (hr2q r (QB hr)));have row3:Hc r3.1=some (.lst (r3.2.map V.str)):=sx _ _ rfl (hr3z r3 (QB hr3));have at_ref:∀{rs:List (Addr×List Str)} {j:Nat} {r:Addr×List Str},rs[j]?=some r->Yi (rs.map fun r=>V.ref r.1) (j:Int)=some (.ref r.1):=fun h=>Xq (by rw [Qp,h];rfl);dsimp only [Z2];refine ⟨_,rfl,_,rfl,F2,_,_,_,rfl,rfl,.of (sx _ _ rfl hF2z),at_ref hr,r.1,rfl,⟨_,.of row⟩,WF (r.2.map fun _=>(none:Option V)) (Zw (by rw [Qd];omega)) (fun σ=>∃w,σ=[w,some (.ref F3),some (.int ((2+i*3:Nat):Int))]) ⟨_,rfl⟩ (fun j H4 hj sm=>?go) (fun H4 sm=>?stop) (fun j σ H4 x H5 z hz hσ sm hx C hC=>?step) (fun Le2 H6 nL6 s6 hL6=>?fin)⟩
  case go=>exact ⟨_,_,sm.sql (.of row),Qt (by rw [Qd];rw [Qd] at hj;exact hj)⟩
  case stop=>exact ⟨_,sm.sql (.of row),by rw [Qd,Qd];exact Qf _⟩
  case step =>
   obtain ⟨w,rfl⟩:=hσ;obtain ⟨rfl,hx2⟩:=hx;obtain ⟨s,hs,rfl⟩:=Xv (hx2 _ (sm.sql (.of row)));rw [Qp,hs] at hz;obtain rfl:=Ql hz;exact ⟨_,rfl,_,rfl,_,rfl,F3,_,_,_,rfl,rfl,.of (sm _ _ (sx _ _ rfl hF3z)),at_ref hr3,r3.1,_,rfl,.inl (.of (sm _ _ row3)),rfl,ZkR _,_,rfl,Zt (by rw [Zdz,Qo (sub s (QB hs))];rfl) (hC _ _ ⟨_,rfl⟩ (Same.refl _))⟩
  case fin =>
  have hL6':H6 Le2=some (.lst []):=by rw [hL6,Ni];simp
  refine ⟨few rfl,fun Lz nLz=>⟨[],⟨Le2,[],rfl,.of (Zj nLz _ _ hL6'),rfl,fun i a zs e=>by cases e⟩,⟨Lz,[],rfl,.of Zf,rfl,fun i a zs e=>by cases e⟩,_,rfl,Zt (by rfl) ⟨sx.trans (s6.trans (Zj nLz)).x,(lx.same s6).same (Zj nLz),_,_,rfl⟩⟩⟩
 case jd =>
 rintro σ Hc ⟨sx,lx,v15,v16,rfl⟩;have hL9c:=sx _ _ rfl (xqz _ _ rfl hL9q);obtain ⟨nm,hnm,ea⟩:=VF V.str ps pl0 z;dsimp only [Z2];refine ⟨_,rfl,_,rfl,_,rfl,L9,_,rfl,.inl (.of hL9c),_,_,rfl,rfl,Yq (by rw [Qd];omega),L9,_,_,_,rfl,rfl,.of hL9c,ea,?_⟩;dsimp only [Z2];have hEc:=hEs.monoX ((xsq.trans xqz).trans sx);refine ⟨_,rfl,_,rfl,_,rfl,rfl,.ref b,De,nm,B2,ed,ns,rfl,⟨_,_,_,_,_,_,_,rfl,hBz.monoX sx⟩,lx,hEc,kn2 nm hnm,j2.clo n60,(fun s hs n kn x=>j2.step hs kn x),j2.inPool hEs.kn,fun Hm xm lm=>⟨_,rfl,?_⟩⟩;have sxm:=sx.trans xm;rw [Qc rfl];have xqm:=xqz.trans sxm;refine ⟨_,rfl,_,rfl,_,rfl,_,rfl,rfl,.ref b,p1,p2,nm,B2,ns,w1,w2,rfl,⟨_,_,_,_,_,_,_,rfl,hBz.monoX sxm⟩,lm,xqm.sqt (hwq (p1,w1) (by rw [ews];simp)).1,xqm.sqt (hwq (p2,w2) (by rw [ews];simp)).1,w19,w29,w1l,w2l,kn2 nm hnm,j2.clo n60,fun Hn xn ln=>⟨_,rfl,?_⟩⟩;rw [Qc rfl];have xqn:=xqm.trans xn;have rw1:=JQ (K:=K) (xqn _ _ rfl hF1q) fun r hr=>xqn _ _ rfl (hr1q r hr);have rw2:=JQ (K:=K) (xqn _ _ rfl hF2q) fun r hr=>xqn _ _ rfl (hr2q r hr);rw [er2] at rw2;exact ⟨_,rfl,_,rfl,_,rw1,rw2,q _ ln⟩
end
theorem ZmV {P:Program} {w:World} {K:W.Frag} {mg:Str->Option Value} {base:Heap} (T:Tx K w mg) (LB:LamB base T.cc T.tb mg):Zea P base T:=by
 have Uh:=ZoB (P:=P) (w:=w) (base:=base) T;have Up:=Zhu (P:=P) (w:=w) (base:=base) T;have Zbr:=Zok (P:=P) (w:=w) (base:=base) T Uh;have ZcB:=ZlO (P:=P) (w:=w) (base:=base) T Uh;have ZcM:=ZkV (P:=P) (w:=w) (base:=base) T;have ZbF:=Zn4 (P:=P) (w:=w) (base:=base) T Up;have ZcG:=Ziy (P:=P) (w:=w) (base:=base) T Up Zbr ZcB ZcM ZbF;have Zci:=ZjG (P:=P) (w:=w) (base:=base) T ZcG;have UK:=Zou (P:=P) (w:=w) (base:=base) T;have UR:=Zml (P:=P) (w:=w) (base:=base) T;have Zbz:=Zly (P:=P) (w:=w) (base:=base) T;have Uc:=Zkt (P:=P) (w:=w) (base:=base) T UK;have Ub:=ZnQ (P:=P) (w:=w) (base:=base) T Uc;have Zc9:=Zl4 (P:=P) (w:=w) (base:=base) T;have Ux:=ZhX (P:=P) (w:=w) (base:=base) T;have Zak:=Zli (P:=P) (w:=w) (base:=base) T;have Y9:=Zji (P:=P) (w:=w) (base:=base) T;have Uu:=Zib (P:=P) (w:=w) (base:=base) T Y9;have X7:=ZnS (P:=P) (w:=w) (base:=base) T Y9;have J8:=Zi8 (P:=P) (w:=w) (base:=base) T Uu X7;have Zc7:=Zm7 (P:=P) (w:=w) (base:=base) T UR Zbz X7 J8;have ZcZ:=Zh8 (P:=P) (w:=w) (base:=base) T Zci UR Ub Y9 Zc7;have XI:=Zkq (P:=P) (w:=w) (base:=base) T;have Zcw:=Zil (P:=P) (w:=w) (base:=base) T XI;have Ut:=Zn6 (P:=P) (w:=w) (base:=base) T Zc9 Y9;have ZdI:=Zm3 (P:=P) (w:=w) (base:=base) T Ux Y9;have ZcO:=Zih (P:=P) (w:=w) (base:=base) T Ux XI Ut ZdI;have JW:=ZjT (P:=P) (w:=w) (base:=base) T UK Uc Ub ZcZ XI Zcw ZcO;have Zc4:=ZmY (P:=P) (w:=w) (base:=base) T;have JD:=Zhq (P:=P) (w:=w) (base:=base) T Uu Ut Zc4;have Zdo:=Zkf (P:=P) (w:=w) (base:=base) T JD;have X0:=Zlz (P:=P) (w:=w) (base:=base) T LB X7 JD Zdo;have XU:=ZlB (P:=P) (w:=w) (base:=base) T;have Zdj:=ZiV (P:=P) (w:=w) (base:=base) T;have ZcJ:=Zkp (P:=P) (w:=w) (base:=base) T;have Zca:=ZnL (P:=P) (w:=w) (base:=base) T;have ZcT:=Zjy (P:=P) (w:=w) (base:=base) T;have Zbq:=Zl7 (P:=P) (w:=w) (base:=base) T XU Zdj ZcJ Zca ZcT;have Zbe:=ZnX (P:=P) (w:=w) (base:=base) T;have UX:=ZmF (P:=P) (w:=w) (base:=base) T Zbe;have Zcm:=ZmI (P:=P) (w:=w) (base:=base) T;have J5:=Zka (P:=P) (w:=w) (base:=base) T XU Zcm;have V7:=ZiT (P:=P) (w:=w) (base:=base) T;have WQ:=ZlM (P:=P) (w:=w) (base:=base) T;have Jl:=Zku (P:=P) (w:=w) (base:=base) T X0 V7 WQ;have Zco:=ZnH (P:=P) (w:=w) (base:=base) T X0 V7 WQ;have ZcE:=Zjr (P:=P) (w:=w) (base:=base) T X0 WQ;have ZlU:=Zjs (P:=P) (w:=w) (base:=base) T Zak JW XU Zbq UX J5 Jl Zco ZcE;exact ZlU
theorem Zk3 {K:W.Frag} {w:World} {mg:Str->Option Value} (T:Tx K w mg) {vs:List V} {H:Hp} {Q:VK} {E:XK} (h:ZaO K T.tb vs H Q E):Zg6 T vs H Q E:=by
 obtain ⟨a,ns,rfl,r⟩:=h;exact ⟨rfl,a,ns,rfl,r⟩
theorem all_mk {l:W.OpenLaw} {w:World} {K:W.Frag} {h:Heap} {mg:Str->Option Value} {fa:Addr} (X:K.In h) (G:h.Ns mainGlobals mg) (hfa:mg "law"=some (.ref fa))
  {OC_Book:Addr}
  {f0:Addr}
  {f1:Addr}
  {f2:Addr}
  {f3:Addr}
  {f4:Addr}
  {f5:Addr}
  {f6:Addr}
  {f7:Addr}
  {f8:Addr}
  {f9:Addr}
  {f10:Addr}
  {f11:Addr}
  {f12:Addr}
  {f13:Addr}
  {f14:Addr}
  {f15:Addr}
  {f16:Addr}
  {f17:Addr}
  {f18:Addr}
  {f19:Addr}
  {f20:Addr}
  {f21:Addr}
  {f22:Addr}
  {f23:Addr}
  {f24:Addr}
  {f25:Addr}
  {od25 an25:Option Addr} {sl25:Array (Option Value)} {oc25 kV25 dc25 pm25 cd25 ct25:Value}
  {DT25:Addr} {odD25:Option Addr} {nD25:Nat} {slD25:Array (Option Value)}
  {f26:Addr}
  {f27:Addr}
  {f28:Addr}
  {f29:Addr}
  {f30:Addr}
  {f31:Addr}
  {f32:Addr}
  {f33:Addr}
  {f34:Addr}
  {f35:Addr}
  {f36:Addr}
  {f37:Addr}
  {f38:Addr}
  {f39:Addr}
  {f40:Addr}
  {f41:Addr}
  {f42:Addr}
  {f43:Addr}
  {f44:Addr}
  {f45:Addr}
  {f46:Addr}
  {f47:Addr}
  {C0:Addr}
  {C1:Addr}
  {C2:Addr}
  {C3:Addr}
  {C4:Addr}
  {C5:Addr}
  {C6:Addr}
  {F0:Addr} {odF:Option Addr} {nF:Nat} {slF:Array (Option Value)} {tL:Tok}
  {P0 G0:Addr} {tp0:Tok} {odp0 odg0:Option Addr} {np0 ng0:Nat} {slp0 slg0:Array (Option Value)}
  {P1 G1:Addr} {tp1:Tok} {odp1 odg1:Option Addr} {np1 ng1:Nat} {slp1 slg1:Array (Option Value)}
  {P2 G2:Addr} {tp2:Tok} {odp2 odg2:Option Addr} {np2 ng2:Nat} {slp2 slg2:Array (Option Value)}
  {P3 G3:Addr} {tp3:Tok} {odp3 odg3:Option Addr} {np3 ng3:Nat} {slp3 slg3:Array (Option Value)}
  {P4 G4:Addr} {tp4:Tok} {odp4 odg4:Option Addr} {np4 ng4:Nat} {slp4 slg4:Array (Option Value)}
  {P5 G5:Addr} {tp5:Tok} {odp5 odg5:Option Addr} {np5 ng5:Nat} {slp5 slg5:Array (Option Value)}
  {KT0:Addr} {odT0:Option Addr} {nT0:Nat} {slT0:Array (Option Value)} {tt0_0:Tok} {tt0_1:Tok} {tt0_2:Tok} {tt0_3:Tok} {tt0_4:Tok} {tt0_5:Tok} {tt0_6:Tok}
  {KT1:Addr} {odT1:Option Addr} {nT1:Nat} {slT1:Array (Option Value)} {tt1_0:Tok} {tt1_1:Tok}
  {ti0:Tok}
  {ti1:Tok}
  {CC TB:Addr} {oF oC:Value} {dF dC:Option Addr} {sF sC:Array (Option Value)} {kVF dcF pmF ctF:Value} {anF:Option Addr} {vC:Array Value}
  (ao0:W.nsIn K mainGlobals "Book"=some (some (.ref OC_Book)))
  (a0:W.nsIn K mainGlobals "is_whole"=some (some (.ref f0)))
  (l0:DefIn K "is_whole" "is_whole" ZcH f0)
  (a1:W.nsIn K mainGlobals "is_name"=some (some (.ref f1)))
  (l1:DefIn K "is_name" "is_name" Zc3 f1)
  (a2:W.nsIn K mainGlobals "is_day"=some (some (.ref f2)))
  (l2:DefIn K "is_day" "is_day" ZcI f2)
  (a3:W.nsIn K mainGlobals "is_amount"=some (some (.ref f3)))
  (l3:DefIn K "is_amount" "is_amount" ZcC f3)
  (a4:W.nsIn K mainGlobals "is_sort"=some (some (.ref f4)))
  (l4:DefIn K "is_sort" "is_sort" Zdi f4)
  (a5:W.nsIn K mainGlobals "is_parent"=some (some (.ref f5)))
  (l5:DefIn K "is_parent" "is_parent" Zcu f5)
  (a6:W.nsIn K mainGlobals "has_form"=some (some (.ref f6)))
  (l6:DefIn K "has_form" "has_form" Zdu f6)
  (a7:W.nsIn K mainGlobals "is_entry"=some (some (.ref f7)))
  (l7:DefIn K "is_entry" "is_entry" Zbt f7)
  (a8:W.nsIn K mainGlobals "is_tie"=some (some (.ref f8)))
  (l8:DefIn K "is_tie" "is_tie" Zdp f8)
  (a9:W.nsIn K mainGlobals "named_in"=some (some (.ref f9)))
  (l9:DefIn K "named_in" "named_in" Zb0 f9)
  (a10:W.nsIn K mainGlobals "day_of"=some (some (.ref f10)))
  (l10:DefIn K "day_of" "day_of" ZcY f10)
  (a11:W.nsIn K mainGlobals "as_told"=some (some (.ref f11)))
  (l11:DefIn K "as_told" "as_told" Zb4 f11)
  (a12:W.nsIn K mainGlobals "key_of"=some (some (.ref f12)))
  (l12:DefIn K "key_of" "key_of" Zdf f12)
  (a13:W.nsIn K mainGlobals "is_letter"=some (some (.ref f13)))
  (l13:DefIn K "is_letter" "is_letter" Zce f13)
  (a14:W.nsIn K mainGlobals "pair_of"=some (some (.ref f14)))
  (l14:DefIn K "pair_of" "pair_of" Zdq f14)
  (a15:W.findIn K (.ref OC_Book) "__init__"=some (some (.ref f15))) (i15:W.isFn K (.ref f15)=true)
  (l15:DefIn K "__init__" "Book.__init__" ZcN f15)
  (a16:W.findIn K (.ref OC_Book) "birth_of"=some (some (.ref f16))) (i16:W.isFn K (.ref f16)=true)
  (l16:DefIn K "birth_of" "Book.birth_of" Zds f16)
  (a17:W.findIn K (.ref OC_Book) "sort_of"=some (some (.ref f17))) (i17:W.isFn K (.ref f17)=true)
  (l17:DefIn K "sort_of" "Book.sort_of" ZbY f17)
  (a18:W.findIn K (.ref OC_Book) "born_on"=some (some (.ref f18))) (i18:W.isFn K (.ref f18)=true)
  (l18:DefIn K "born_on" "Book.born_on" Zdt f18)
  (a19:W.findIn K (.ref OC_Book) "parent_fits"=some (some (.ref f19))) (i19:W.isFn K (.ref f19)=true)
  (l19:DefIn K "parent_fits" "Book.parent_fits" Zby f19)
  (a20:W.findIn K (.ref OC_Book) "fits"=some (some (.ref f20))) (i20:W.isFn K (.ref f20)=true)
  (l20:DefIn K "fits" "Book.fits" Zc1 f20)
  (a21:W.findIn K (.ref OC_Book) "refuse"=some (some (.ref f21))) (i21:W.isFn K (.ref f21)=true)
  (l21:DefIn K "refuse" "Book.refuse" Zc8 f21)
  (a22:W.findIn K (.ref OC_Book) "link"=some (some (.ref f22))) (i22:W.isFn K (.ref f22)=true)
  (l22:DefIn K "link" "Book.link" Zdr f22)
  (a23:W.findIn K (.ref OC_Book) "note_birth"=some (some (.ref f23))) (i23:W.isFn K (.ref f23)=true)
  (l23:DefIn K "note_birth" "Book.note_birth" ZdD f23)
  (a24:W.findIn K (.ref OC_Book) "step"=some (some (.ref f24))) (i24:W.isFn K (.ref f24)=true)
  (l24:DefIn K "step" "Book.step" Zc0 f24)
  (a25:W.findIn K (.ref OC_Book) "stands"=some (some (.ref f25))) (i25:W.isFn K (.ref f25)=true)
  (l25:K.lookup f25=some ⟨oc25,od25,.func (W.fnOf "stands" "Book.stands" (Xo Wx) (Y0 Wx) (Zz Wx) (.ref DT25) kV25 dc25 pm25 an25 cd25 ct25),sl25⟩)
  (cc25:W.codeIn K cd25 "Book.stands"=true) (k25:W.keepIn K (.ref f25)=true)
  (ldt25:K.lookup DT25=some ⟨.type "tuple",odD25,.seq #[.none] nD25,slD25⟩)
  (a26:W.findIn K (.ref OC_Book) "note_tie"=some (some (.ref f26))) (i26:W.isFn K (.ref f26)=true)
  (l26:DefIn K "note_tie" "Book.note_tie" Zcd f26)
  (a27:W.findIn K (.ref OC_Book) "put"=some (some (.ref f27))) (i27:W.isFn K (.ref f27)=true)
  (l27:DefIn K "put" "Book.put" Zdl f27)
  (a28:W.nsIn K mainGlobals "is_test"=some (some (.ref f28)))
  (l28:DefIn K "is_test" "is_test" ZbE f28)
  (a29:W.nsIn K mainGlobals "led_by_step"=some (some (.ref f29)))
  (l29:DefIn K "led_by_step" "led_by_step" Zb3 f29)
  (a30:W.nsIn K mainGlobals "layers_of"=some (some (.ref f30)))
  (l30:DefIn K "layers_of" "layers_of" Zb9 f30)
  (a31:W.nsIn K mainGlobals "reach"=some (some (.ref f31)))
  (l31:DefIn K "reach" "reach" V6 f31)
  (a32:W.nsIn K mainGlobals "_law_cell_at"=some (some (.ref f32)))
  (l32:DefIn K "_law_cell_at" "_law_cell_at" ZbO f32)
  (a33:W.nsIn K mainGlobals "_law_names"=some (some (.ref f33)))
  (l33:DefIn K "_law_names" "_law_names" ZbD f33)
  (a34:W.nsIn K mainGlobals "_law_day"=some (some (.ref f34)))
  (l34:DefIn K "_law_day" "_law_day" Zcr f34)
  (a35:W.nsIn K mainGlobals "_law_birth"=some (some (.ref f35)))
  (l35:DefIn K "_law_birth" "_law_birth" Zb1 f35)
  (a36:W.nsIn K mainGlobals "_law_deed"=some (some (.ref f36)))
  (l36:DefIn K "_law_deed" "_law_deed" Zdw f36)
  (a37:W.nsIn K mainGlobals "_law_entries"=some (some (.ref f37)))
  (l37:DefIn K "_law_entries" "_law_entries" ZcX f37)
  (a38:W.nsIn K mainGlobals "_law_lead"=some (some (.ref f38)))
  (l38:DefIn K "_law_lead" "_law_lead" ZdO f38)
  (a39:W.nsIn K mainGlobals "_law_edges"=some (some (.ref f39)))
  (l39:DefIn K "_law_edges" "_law_edges" ZbI f39)
  (a40:W.nsIn K mainGlobals "_law_mixed"=some (some (.ref f40)))
  (l40:DefIn K "_law_mixed" "_law_mixed" ZbA f40)
  (a41:W.nsIn K mainGlobals "_law_way"=some (some (.ref f41)))
  (l41:DefIn K "_law_way" "_law_way" Zcb f41)
  (a42:W.nsIn K mainGlobals "_law_reach"=some (some (.ref f42)))
  (l42:DefIn K "_law_reach" "_law_reach" ZdL f42)
  (a43:W.nsIn K mainGlobals "_law_alike"=some (some (.ref f43)))
  (l43:DefIn K "_law_alike" "_law_alike" Zct f43)
  (a44:W.nsIn K mainGlobals "_law_told"=some (some (.ref f44)))
  (l44:DefIn K "_law_told" "_law_told" ZbX f44)
  (a45:W.nsIn K mainGlobals "_law_own_lists"=some (some (.ref f45)))
  (l45:DefIn K "_law_own_lists" "_law_own_lists" ZbV f45)
  (a46:W.nsIn K mainGlobals "_law_together"=some (some (.ref f46)))
  (l46:DefIn K "_law_together" "_law_together" ZdE f46)
  (a47:W.nsIn K mainGlobals "law"=some (some (.ref f47)))
  (l47:DefIn K "law" "law" ZcQ f47)
  (pg0:W.plainGet K OC_Book Str.empty=true) (hd0:W.hasDictIn K OC_Book=true) (po0:W.plainOver K OC_Book=true) (sa0:W.findIn K (.ref OC_Book) "__setattr__"=some (some (.builtin "object.__setattr__"))) (mk0:W.makesIn K OC_Book=true) (kc0:W.keepIn K (.ref OC_Book)=true)
  (na0_kept:W.findIn K (.ref OC_Book) "kept"=some none)
  (na0_births:W.findIn K (.ref OC_Book) "births"=some none)
  (na0_links:W.findIn K (.ref OC_Book) "links"=some none)
  (na0_ties:W.findIn K (.ref OC_Book) "ties"=some none)
  (na0_sums:W.findIn K (.ref OC_Book) "sums"=some none)
  (ac0:W.nsIn K mainGlobals "HeirError"=some (some (.ref C0)))
  (ac1:W.nsIn K mainGlobals "NoEntry"=some (some (.ref C1)))
  (xc1:W.excIn K C1 XJ "ValueError.__new__"=true)
  (e1_1:W.findIn K (.ref C1) "__getattribute__"=some (some (.builtin "BaseException.__getattribute__"))) (e2_1:W.findIn K (.ref C1) "__getattr__"=some none) (e3_1:W.findIn K (.ref C1) "__class__"=some (some (.builtin "object.__class__"))) (e4_1:W.mroIn K C1 (.type "BaseException")=some true) (e5_1:W.mroIn K C1 (.type "object")=some true)
  (ac2:W.nsIn K mainGlobals "Full"=some (some (.ref C2)))
  (xc2:W.excIn K C2 XJ "ValueError.__new__"=true)
  (e1_2:W.findIn K (.ref C2) "__getattribute__"=some (some (.builtin "BaseException.__getattribute__"))) (e2_2:W.findIn K (.ref C2) "__getattr__"=some none) (e3_2:W.findIn K (.ref C2) "__class__"=some (some (.builtin "object.__class__"))) (e4_2:W.mroIn K C2 (.type "BaseException")=some true) (e5_2:W.mroIn K C2 (.type "object")=some true)
  (ac3:W.nsIn K mainGlobals "NoPerson"=some (some (.ref C3)))
  (xc3:W.excIn K C3 XJ "ValueError.__new__"=true)
  (e1_3:W.findIn K (.ref C3) "__getattribute__"=some (some (.builtin "BaseException.__getattribute__"))) (e2_3:W.findIn K (.ref C3) "__getattr__"=some none) (e3_3:W.findIn K (.ref C3) "__class__"=some (some (.builtin "object.__class__"))) (e4_3:W.mroIn K C3 (.type "BaseException")=some true) (e5_3:W.mroIn K C3 (.type "object")=some true)
  (ac4:W.nsIn K mainGlobals "Twice"=some (some (.ref C4)))
  (xc4:W.excIn K C4 XJ "ValueError.__new__"=true)
  (e1_4:W.findIn K (.ref C4) "__getattribute__"=some (some (.builtin "BaseException.__getattribute__"))) (e2_4:W.findIn K (.ref C4) "__getattr__"=some none) (e3_4:W.findIn K (.ref C4) "__class__"=some (some (.builtin "object.__class__"))) (e4_4:W.mroIn K C4 (.type "BaseException")=some true) (e5_4:W.mroIn K C4 (.type "object")=some true)
  (ac5:W.nsIn K mainGlobals "NoFit"=some (some (.ref C5)))
  (xc5:W.excIn K C5 XJ "ValueError.__new__"=true)
  (e1_5:W.findIn K (.ref C5) "__getattribute__"=some (some (.builtin "BaseException.__getattribute__"))) (e2_5:W.findIn K (.ref C5) "__getattr__"=some none) (e3_5:W.findIn K (.ref C5) "__class__"=some (some (.builtin "object.__class__"))) (e4_5:W.mroIn K C5 (.type "BaseException")=some true) (e5_5:W.mroIn K C5 (.type "object")=some true)
  (ac6:W.nsIn K mainGlobals "NoWay"=some (some (.ref C6)))
  (xc6:W.excIn K C6 XJ "ValueError.__new__"=true)
  (e1_6:W.findIn K (.ref C6) "__getattribute__"=some (some (.builtin "BaseException.__getattribute__"))) (e2_6:W.findIn K (.ref C6) "__getattr__"=some none) (e3_6:W.findIn K (.ref C6) "__class__"=some (some (.builtin "object.__class__"))) (e4_6:W.mroIn K C6 (.type "BaseException")=some true) (e5_6:W.mroIn K C6 (.type "object")=some true)
  (z_abs:W.nsIn K mainGlobals "abs"=some none)
  (z_all:W.nsIn K mainGlobals "all"=some none)
  (z_bool:W.nsIn K mainGlobals "bool"=some none)
  (z_int:W.nsIn K mainGlobals "int"=some none)
  (z_isinstance:W.nsIn K mainGlobals "isinstance"=some none)
  (z_len:W.nsIn K mainGlobals "len"=some none)
  (z_list:W.nsIn K mainGlobals "list"=some none)
  (z_max:W.nsIn K mainGlobals "max"=some none)
  (z_min:W.nsIn K mainGlobals "min"=some none)
  (z_range:W.nsIn K mainGlobals "range"=some none)
  (z_sorted:W.nsIn K mainGlobals "sorted"=some none)
  (z_str:W.nsIn K mainGlobals "str"=some none)
  (z_tuple:W.nsIn K mainGlobals "tuple"=some none)
  (z_zip:W.nsIn K mainGlobals "zip"=some none)
  (q_k_int_int:W.kitOne K (.type "int") (.type "int")=some true)
  (q_k_int_str:W.kitOne K (.type "int") (.type "str")=some false)
  (q_k_int_tuple:W.kitOne K (.type "int") (.type "tuple")=some false)
  (q_k_int_bool:W.kitOne K (.type "int") (.type "bool")=some false)
  (q_k_str_int:W.kitOne K (.type "str") (.type "int")=some false)
  (q_k_str_str:W.kitOne K (.type "str") (.type "str")=some true)
  (q_k_str_tuple:W.kitOne K (.type "str") (.type "tuple")=some false)
  (q_k_bool_int:W.kitOne K (.type "bool") (.type "int")=some true)
  (q_k_bool_str:W.kitOne K (.type "bool") (.type "str")=some false)
  (q_k_bool_tuple:W.kitOne K (.type "bool") (.type "tuple")=some false)
  (q_k_bool_bool:W.kitOne K (.type "bool") (.type "bool")=some true)
  (q_k_NoneType_int:W.kitOne K (.type "NoneType") (.type "int")=some false)
  (q_k_NoneType_str:W.kitOne K (.type "NoneType") (.type "str")=some false)
  (q_k_NoneType_tuple:W.kitOne K (.type "NoneType") (.type "tuple")=some false)
  (q_k_tuple_int:W.kitOne K (.type "tuple") (.type "int")=some false)
  (q_k_tuple_str:W.kitOne K (.type "tuple") (.type "str")=some false)
  (q_k_tuple_tuple:W.kitOne K (.type "tuple") (.type "tuple")=some true)
  (q_k_list_int:W.kitOne K (.type "list") (.type "int")=some false)
  (q_k_list_str:W.kitOne K (.type "list") (.type "str")=some false)
  (q_k_list_tuple:W.kitOne K (.type "list") (.type "tuple")=some false)
  (q_k_dict_int:W.kitOne K (.type "dict") (.type "int")=some false)
  (q_k_dict_str:W.kitOne K (.type "dict") (.type "str")=some false)
  (q_k_dict_tuple:W.kitOne K (.type "dict") (.type "tuple")=some false)
  (q_kl_list:W.kitOne K (.type "list") (.type "list")=some true)
  (q_kx_HeirError:W.kitOne K (.ref C3) (.ref C0)=some true)
  (q_kx_ValueError:W.kitOne K (.ref C3) (.type "ValueError")=some true)
  (zF:W.nsIn K mainGlobals "FORMS"=some (some (.ref F0)))
  (zL:W.nsIn K mainGlobals "LETTERS"=some (some (.str "abcdefghijklmnopqrstuvwxyz" tL)))
  (uF:K.lookup F0=some ⟨.type "tuple",odF,.seq #[.ref P0,.ref P1,.ref P2,.ref P3,.ref P4,.ref P5] nF,slF⟩)
  (up0:K.lookup P0=some ⟨.type "tuple",odp0,.seq #[.str "born" tp0,.ref G0] np0,slp0⟩)
  (up1:K.lookup P1=some ⟨.type "tuple",odp1,.seq #[.str "taken" tp1,.ref G1] np1,slp1⟩)
  (up2:K.lookup P2=some ⟨.type "tuple",odp2,.seq #[.str "union" tp2,.ref G2] np2,slp2⟩)
  (up3:K.lookup P3=some ⟨.type "tuple",odp3,.seq #[.str "parted" tp3,.ref G3] np3,slp3⟩)
  (up4:K.lookup P4=some ⟨.type "tuple",odp4,.seq #[.str "dead" tp4,.ref G4] np4,slp4⟩)
  (up5:K.lookup P5=some ⟨.type "tuple",odp5,.seq #[.str "given" tp5,.ref G5] np5,slp5⟩)
  (ug0:K.lookup G0=some ⟨.type "tuple",odg0,.seq #[.ref f1,.ref f4,.ref f2,.ref f5,.ref f5] ng0,slg0⟩)
  (ug1:K.lookup G1=some ⟨.type "tuple",odg1,.seq #[.ref f1,.ref f1,.ref f2] ng1,slg1⟩)
  (ug2:K.lookup G2=some ⟨.type "tuple",odg2,.seq #[.ref f1,.ref f1,.ref f2] ng2,slg2⟩)
  (ug3:K.lookup G3=some ⟨.type "tuple",odg3,.seq #[.ref f1,.ref f1,.ref f2] ng3,slg3⟩)
  (ug4:K.lookup G4=some ⟨.type "tuple",odg4,.seq #[.ref f1,.ref f2] ng4,slg4⟩)
  (ug5:K.lookup G5=some ⟨.type "tuple",odg5,.seq #[.ref f1,.ref f1,.ref f3,.ref f2] ng5,slg5⟩)
  (zt0:W.nsIn K mainGlobals "STEP_LETTERS"=some (some (.ref KT0)))
  (ut0:K.lookup KT0=some ⟨.type "tuple",odT0,.seq #[.str "F" tt0_0,.str "M" tt0_1,.str "T" tt0_2,.str "f" tt0_3,.str "m" tt0_4,.str "t" tt0_5,.str "S" tt0_6] nT0,slT0⟩)
  (zt1:W.nsIn K mainGlobals "TESTS"=some (some (.ref KT1)))
  (ut1:K.lookup KT1=some ⟨.type "tuple",odT1,.seq #[.str "he" tt1_0,.str "she" tt1_1] nT1,slT1⟩)
  (zi0:W.nsIn K mainGlobals "MOST_ENTRIES"=some (some (.int 400 ti0)))
  (zi1:W.nsIn K mainGlobals "MOST_PEOPLE"=some (some (.int 60 ti1)))
  (lF:K.lookup f31=some ⟨oF,dF,.func (W.fnOf "reach" "reach" (Xo V6) (Y0 V6) (Zz V6) .none kVF dcF pmF anF (.ref CC) ctF),sF⟩)
  (lC:K.lookup CC=some ⟨oC,dC,.fields vC,sC⟩)
  (vC11:vC[11]?=some (.ref TB))
  (kTB:K.lookup TB=none) :
  ∃(fd:FuncData) (cc tb:Addr),W.tabIn K "reach"=some (cc,tb)∧K.lookup tb=none∧(∀(s:Shared) (v:Value),BindsTo s fd ⟨[v],[]⟩ [("_law_script",v)])∧∀base:Heap,K.In base->base.Ns mainGlobals mg->LamB base cc tb mg->FnOk l.prog w K mg base (ZE l.prog w) 8 fa fd ["_law_script"] (ZaO K tb):=by
 have e:=hfa.symm.trans (Q6 X G a47);cases e;have T:Σ' (T:Tx K w mg),T.Vs.a=fa∧T.cc=CC∧T.tb=TB:=⟨{ c_Book:=OC_Book,Zba:=.of X G a0 l0 (fun _ _ _ _ _ _=>YW fun _=>rfl),YU:=.of X G a1 l1 (fun _ _ _ _ _ _=>YW fun _=>rfl),Xc:=.of X G a2 l2 (fun _ _ _ _ _ _=>YW fun _=>rfl),Wk:=.of X G a3 l3 (fun _ _ _ _ _ _=>YW fun _=>rfl),Wy:=.of X G a4 l4 (fun _ _ _ _ _ _=>YW fun _=>rfl),Wb:=.of X G a5 l5 (fun _ _ _ _ _ _=>YW fun _=>rfl),Zbd:=.of X G a6 l6 (fun _ _ _ _ _ _=>Xn fun _ _=>rfl),Zae:=.of X G a7 l7 (fun _ _ _ _ _ _=>YW fun _=>rfl),Zax:=.of X G a8 l8 (fun _ _ _ _ _ _=>YW fun _=>rfl),Zat:=.of X G a9 l9 (fun _ _ _ _ _ _=>YW fun _=>rfl),Zaj:=.of X G a10 l10 (fun _ _ _ _ _ _=>YW fun _=>rfl),ZaS:=.of X G a11 l11 (fun _ _ _ _ _ _=>YW fun _=>rfl),Zar:=.of X G a12 l12 (fun _ _ _ _ _ _=>YW fun _=>rfl),Zac:=.of X G a13 l13 (fun _ _ _ _ _ _=>YW fun _=>rfl),ZaT:=.of X G a14 l14 (fun _ _ _ _ _ _=>Xn fun _ _=>rfl),Vp:=.of a15 i15 l15 (fun _ _ _ _ _ _=>YW fun _=>rfl),Y7:=.of a16 i16 l16 (fun _ _ _ _ _ _=>Xn fun _ _=>rfl),W0:=.of a17 i17 l17 (fun _ _ _ _ _ _=>Xn fun _ _=>rfl),Xr:=.of a18 i18 l18 (fun _ _ _ _ _ _=>Xn fun _ _=>rfl),Vf:=.of a19 i19 l19 (fun _ _ _ _ _ _=>VY fun _ _ _ _=>rfl),UQ:=.of a20 i20 l20 (fun _ _ _ _ _ _=>Xn fun _ _=>rfl),Uf:=.of a21 i21 l21 (fun _ _ _ _ _ _=>Xn fun _ _=>rfl),YX:=.of a22 i22 l22 (fun _ _ _ _ _ _=>VY fun _ _ _ _=>rfl),Uw:=.of a23 i23 l23 (fun _ _ _ _ _ _=>Xn fun _ _=>rfl),Vc:=.of a24 i24 l24 (fun _ _ _ _ _ _=>VS fun _ _ _=>rfl),a_Book_stands:=f25,fd_Book_stands:=W.fnOf "stands" "Book.stands" (Xo Wx) (Y0 Wx) (Zz Wx) (.ref DT25) kV25 dc25 pm25 an25 cd25 ct25,dt_Book_stands:=DT25,F_Book_stands:=Zgu (st:=Wx) l25 cc25 k25,b_Book_stands:=(Zgu (st:=Wx) l25 cc25 k25).binds1 ldt25 rfl (fun _ _ _ _ _ _ us hl=>match us,hl with|[_,_,_],_=>⟨_,rfl,rfl⟩),me_Book_stands:=⟨a25,i25,k25⟩,UF:=.of a26 i26 l26 (fun _ _ _ _ _ _=>Xn fun _ _=>rfl),WE:=.of a27 i27 l27 (fun _ _ _ _ _ _=>Xn fun _ _=>rfl),ZaJ:=.of X G a28 l28 (fun _ _ _ _ _ _=>YW fun _=>rfl),Vq:=.of X G a29 l29 (fun _ _ _ _ _ _=>VS fun _ _ _=>rfl),VW:=.of X G a30 l30 (fun _ _ _ _ _ _=>VS fun _ _ _=>rfl),U9:=.of X G a31 l31 (fun _ _ _ _ _ _=>VS fun _ _ _=>rfl),Zah:=.of X G a32 l32 (fun _ _ _ _ _ _=>Xn fun _ _=>rfl),Zbm:=.of X G a33 l33 (fun _ _ _ _ _ _=>YW fun _=>rfl),Zaf:=.of X G a34 l34 (fun _ _ _ _ _ _=>VS fun _ _ _=>rfl),Zay:=.of X G a35 l35 (fun _ _ _ _ _ _=>VY fun _ _ _ _=>rfl),J2:=.of X G a36 l36 (fun _ _ _ _ _ _=>VY fun _ _ _ _=>rfl),Zbk:=.of X G a37 l37 (fun _ _ _ _ _ _=>Xn fun _ _=>rfl),Za9:=.of X G a38 l38 (fun _ _ _ _ _ _=>VY fun _ _ _ _=>rfl),Zaz:=.of X G a39 l39 (fun _ _ _ _ _ _=>YW fun _=>rfl),Zbo:=.of X G a40 l40 (fun _ _ _ _ _ _=>Xn fun _ _=>rfl),Za5:=.of X G a41 l41 (fun _ _ _ _ _ _=>un5 fun _ _ _ _ _=>rfl),Zan:=.of X G a42 l42 (fun _ _ _ _ _ _=>VS fun _ _ _=>rfl),Zad:=.of X G a43 l43 (fun _ _ _ _ _ _=>Xn fun _ _=>rfl),Zbf:=.of X G a44 l44 (fun _ _ _ _ _ _=>VY fun _ _ _ _=>rfl),Zbn:=.of X G a45 l45 (fun _ _ _ _ _ _=>VS fun _ _ _=>rfl),Zab:=.of X G a46 l46 (fun _ _ _ _ _ _=>VY fun _ _ _ _=>rfl),Vs:=.of X G a47 l47 (fun _ _ _ _ _ _=>YW fun _=>rfl),m_Book:=(Q6 X G ao0),cl_Book:=⟨pg0,hd0,po0,sa0⟩,mk_Book:=⟨mk0,a15,i15,kc0⟩,na_Book_kept:=na0_kept,na_Book_births:=na0_births,na_Book_links:=na0_links,na_Book_ties:=na0_ties,na_Book_sums:=na0_sums,c_HeirError:=C0,m_HeirError:=(Q6 X G ac0),c_NoEntry:=C1,m_NoEntry:=(Q6 X G ac1),x_NoEntry:=xc1,e_NoEntry:=⟨e1_1,e2_1,e3_1,e4_1,e5_1⟩,c_Full:=C2,m_Full:=(Q6 X G ac2),x_Full:=xc2,e_Full:=⟨e1_2,e2_2,e3_2,e4_2,e5_2⟩,c_NoPerson:=C3,m_NoPerson:=(Q6 X G ac3),x_NoPerson:=xc3,e_NoPerson:=⟨e1_3,e2_3,e3_3,e4_3,e5_3⟩,c_Twice:=C4,m_Twice:=(Q6 X G ac4),x_Twice:=xc4,e_Twice:=⟨e1_4,e2_4,e3_4,e4_4,e5_4⟩,c_NoFit:=C5,m_NoFit:=(Q6 X G ac5),x_NoFit:=xc5,e_NoFit:=⟨e1_5,e2_5,e3_5,e4_5,e5_5⟩,c_NoWay:=C6,m_NoWay:=(Q6 X G ac6),x_NoWay:=xc6,e_NoWay:=⟨e1_6,e2_6,e3_6,e4_6,e5_6⟩,n_abs:=(Q9 X G z_abs),n_all:=(Q9 X G z_all),n_bool:=(Q9 X G z_bool),n_int:=(Q9 X G z_int),n_isinstance:=(Q9 X G z_isinstance),n_len:=(Q9 X G z_len),n_list:=(Q9 X G z_list),n_max:=(Q9 X G z_max),n_min:=(Q9 X G z_min),n_range:=(Q9 X G z_range),n_sorted:=(Q9 X G z_sorted),n_str:=(Q9 X G z_str),n_tuple:=(Q9 X G z_tuple),n_zip:=(Q9 X G z_zip),k_int_int:=q_k_int_int,k_int_str:=q_k_int_str,k_int_tuple:=q_k_int_tuple,k_int_bool:=q_k_int_bool,k_str_int:=q_k_str_int,k_str_str:=q_k_str_str,k_str_tuple:=q_k_str_tuple,k_bool_int:=q_k_bool_int,k_bool_str:=q_k_bool_str,k_bool_tuple:=q_k_bool_tuple,k_bool_bool:=q_k_bool_bool,k_NoneType_int:=q_k_NoneType_int,k_NoneType_str:=q_k_NoneType_str,k_NoneType_tuple:=q_k_NoneType_tuple,k_tuple_int:=q_k_tuple_int,k_tuple_str:=q_k_tuple_str,k_tuple_tuple:=q_k_tuple_tuple,k_list_int:=q_k_list_int,k_list_str:=q_k_list_str,k_list_tuple:=q_k_list_tuple,k_dict_int:=q_k_dict_int,k_dict_str:=q_k_dict_str,k_dict_tuple:=q_k_dict_tuple,kl_list:=q_kl_list,kx_HeirError:=q_kx_HeirError,kx_ValueError:=q_kx_ValueError,aF:=F0,m_FORMS:=(Q6 X G zF),tkL:=tL,m_LETTERS:=(Q6 X G zL),p0:=P0,g0:=G0,p1:=P1,g1:=G1,p2:=P2,g2:=G2,p3:=P3,g3:=G3,p4:=P4,g4:=G4,p5:=P5,g5:=G5,sF:=fun _=>.inr ⟨_,_,_,uF,rfl,rfl,Zw (QF rfl),.cons rfl (.cons rfl (.cons rfl (.cons rfl (.cons rfl (.cons rfl .nil)))))⟩,sp0:=fun _=>.inr ⟨_,_,_,up0,rfl,rfl,Zw (QF rfl),.cons ⟨_,rfl⟩ (.cons rfl .nil)⟩,sp1:=fun _=>.inr ⟨_,_,_,up1,rfl,rfl,Zw (QF rfl),.cons ⟨_,rfl⟩ (.cons rfl .nil)⟩,sp2:=fun _=>.inr ⟨_,_,_,up2,rfl,rfl,Zw (QF rfl),.cons ⟨_,rfl⟩ (.cons rfl .nil)⟩,sp3:=fun _=>.inr ⟨_,_,_,up3,rfl,rfl,Zw (QF rfl),.cons ⟨_,rfl⟩ (.cons rfl .nil)⟩,sp4:=fun _=>.inr ⟨_,_,_,up4,rfl,rfl,Zw (QF rfl),.cons ⟨_,rfl⟩ (.cons rfl .nil)⟩,sp5:=fun _=>.inr ⟨_,_,_,up5,rfl,rfl,Zw (QF rfl),.cons ⟨_,rfl⟩ (.cons rfl .nil)⟩,sg0:=fun _=>.inr ⟨_,_,_,ug0,rfl,rfl,Zw (QF rfl),.cons rfl (.cons rfl (.cons rfl (.cons rfl (.cons rfl (.nil)))))⟩,sg1:=fun _=>.inr ⟨_,_,_,ug1,rfl,rfl,Zw (QF rfl),.cons rfl (.cons rfl (.cons rfl (.nil)))⟩,sg2:=fun _=>.inr ⟨_,_,_,ug2,rfl,rfl,Zw (QF rfl),.cons rfl (.cons rfl (.cons rfl (.nil)))⟩,sg3:=fun _=>.inr ⟨_,_,_,ug3,rfl,rfl,Zw (QF rfl),.cons rfl (.cons rfl (.cons rfl (.nil)))⟩,sg4:=fun _=>.inr ⟨_,_,_,ug4,rfl,rfl,Zw (QF rfl),.cons rfl (.cons rfl (.nil))⟩,sg5:=fun _=>.inr ⟨_,_,_,ug5,rfl,rfl,Zw (QF rfl),.cons rfl (.cons rfl (.cons rfl (.cons rfl (.nil))))⟩,a_STEP_LETTERS:=KT0,m_STEP_LETTERS:=(Q6 X G zt0),Zed:=fun _=>.inr ⟨_,_,_,ut0,rfl,rfl,Zw (QF rfl),.cons ⟨_,rfl⟩ (.cons ⟨_,rfl⟩ (.cons ⟨_,rfl⟩ (.cons ⟨_,rfl⟩ (.cons ⟨_,rfl⟩ (.cons ⟨_,rfl⟩ (.cons ⟨_,rfl⟩ (.nil)))))))⟩,a_TESTS:=KT1,m_TESTS:=(Q6 X G zt1),ZdX:=fun _=>.inr ⟨_,_,_,ut1,rfl,rfl,Zw (QF rfl),.cons ⟨_,rfl⟩ (.cons ⟨_,rfl⟩ (.nil))⟩,t_MOST_ENTRIES:=ti0,m_MOST_ENTRIES:=(Q6 X G zi0),t_MOST_PEOPLE:=ti1,m_MOST_PEOPLE:=(Q6 X G zi1),cc:=CC,tb:=TB,hcc:=⟨_,_,_,_,lF,rfl⟩ },rfl,rfl,rfl⟩;obtain ⟨T,ea,rfl,rfl⟩:=T;subst ea;refine ⟨(ZG K T.Vs.a),_,_,Zkw a31 lF rfl lC vC11,kTB,fun s v=>?_,fun base _ _ LB=>(ZmV T LB).imp fun vs H Q E z=>?_⟩
 ·obtain ⟨oc,od,kV,doc,pm,an,cdv,ct,osl,e,_⟩:=T.Vs.F.ex;rw [e];exact .of_eq rfl
 exact Zk3 T z
theorem walk {l:W.OpenLaw} {q:Program} {loose:List Str} {XP:(Str->Option Value)->Heap->Prop} {YP:World->Heap->Prop} {d:DefRec} {K:Params->W.Frag} (hn:l.most=some 63) (hdf:d.params.defaults=[]) (hrec:((PyProof.Rows.recsOf q).find? (fun e=>e.name==("reach" : Str))).isSome=true)
  (hY:∀(w:World) (h:Heap),YP w h->(K w.params).In h)
  (F:∀(w:World) (mg:Str->Option Value) (fa:Addr) (h:Heap),(K w.params).In h->h.Ns mainGlobals mg->mg d.name=some (.ref fa) →
   ∃(fd:FuncData) (cc tb:Addr),W.tabIn (K w.params) "reach"=some (cc,tb)∧(K w.params).lookup tb=none∧(∀(s:Shared) (u:Value),BindsTo s fd ⟨[u],[]⟩ [("_law_script",u)])∧∀base:Heap,(K w.params).In base->base.Ns mainGlobals mg->LamB base cc tb mg->FnOk l.prog w (K w.params) mg base (ZE l.prog w) 8 fa fd ["_law_script"] (ZaO (K w.params) tb)) :
  W.WalkO q loose XP YP l.row.toRowW d [] (fun f vs=>PySem.call f vs):=by
 obtain ⟨dd,hdd⟩:=GD.mp hrec;exact L2.walk_ofT (n:=63) (k:=8) (x:="_law_script") (CX:=fun w=>ZE l.prog w) (sp:=fun w tb=>ZaO (K w.params) tb) hn (by decide) hdf ⟨rfl,by decide,by decide⟩ hdd hY F (fun _ _ a tb ns hl hO hS=>⟨a,ns,rfl,hS,hl,hO,fun _ h=>⟨rfl,h⟩⟩) fun _ _ _ _ _ ⟨_,_,_,_,_,z⟩=>z
end K16
open PySem PySem.W PyProof.Rows
set_option maxRecDepth 100000 in
set_option maxHeartbeats 0 in
theorem PySem.Challenge.cw_heirbook_k16_whole_ways_put_together_holds : PySem.Challenge.rw_heirbook_k16_whole_ways_put_together.Holds := by
 refine K16.hd ?_
 k_fill
 refine K16.walk (l:=PySem.Challenge.rw_heirbook_k16_whole_ways_put_together) rfl rfl (by kernel_rfl) (fun w h Y=>PySem.W.km_in_of Y) ?F
 case F =>
  intro w mg fa h KX G hmg;apply K16.all_mk KX G hmg
  case ao0|a0|a1|a2|a3|a4|a5|a6|a7|a8|a9|a10|a11|a12|a13|a14|a15|i15|a16|i16|a17|i17|a18|i18|a19|i19|a20|i20|a21|i21|a22|i22|a23|i23|a24|i24|a25|i25|l25|cc25|k25|ldt25|a26|i26|a27|i27|a28|a29|a30|a31|a32|a33|a34|a35|a36|a37|a38|a39|a40|a41|a42|a43|a44|a45|a46|a47|pg0|hd0|po0|sa0|mk0|kc0|na0_kept|na0_births|na0_links|na0_ties|na0_sums|ac0|ac1|e1_1|e2_1|e3_1|e4_1|e5_1|ac2|e1_2|e2_2|e3_2|e4_2|e5_2|ac3|e1_3|e2_3|e3_3|e4_3|e5_3|ac4|e1_4|e2_4|e3_4|e4_4|e5_4|ac5|e1_5|e2_5|e3_5|e4_5|e5_5|ac6|e1_6|e2_6|e3_6|e4_6|e5_6|z_abs|z_all|z_bool|z_int|z_isinstance|z_len|z_list|z_max|z_min|z_range|z_sorted|z_str|z_tuple|z_zip|zF|zL|uF|up0|up1|up2|up3|up4|up5|ug0|ug1|ug2|ug3|ug4|ug5|zt0|ut0|zt1|ut1|zi0|zi1|lF|lC=>k_is
  case l0|l1|l2|l3|l4|l5|l6|l7|l8|l9|l10|l11|l12|l13|l14|l15|l16|l17|l18|l19|l20|l21|l22|l23|l24|l26|l27|l28|l29|l30|l31|l32|l33|l34|l35|l36|l37|l38|l39|l40|l41|l42|l43|l44|l45|l46|l47=>exact ⟨⟨_,_,_,_,_,_,_,_,_,by k_is,by k_is⟩,by k_is⟩
  case xc1|xc2|xc3|xc4|xc5|xc6=>k_exc
  case q_k_int_int|q_k_int_str|q_k_int_tuple|q_k_int_bool|q_k_str_int|q_k_str_str|q_k_str_tuple|q_k_bool_int|q_k_bool_str|q_k_bool_tuple|q_k_bool_bool|q_k_NoneType_int|q_k_NoneType_str|q_k_NoneType_tuple|q_k_tuple_int|q_k_tuple_str|q_k_tuple_tuple|q_k_list_int|q_k_list_str|q_k_list_tuple|q_k_dict_int|q_k_dict_str|q_k_dict_tuple|q_kl_list|q_kx_HeirError|q_kx_ValueError=>kit_is
  case vC11=>first|rfl|decide
  case kTB=>kernel_rfl
