import PyProof.Rows.All
import Wide.All
import OpenK.AllK
import Wide.FinOn
import Lean
import PyProof.EqAt
import PyProof.EqKinds
import PyProof.TupleCall
import PyProof.NeKinds
import PyProof.ZipIter
import PyProof.Draws
import PyProof.ConsumeWalk
import PyProof.StrCaseBound
import PyProof.StrLawsIn
import PyProof.StrLawsJoin
import PyProof.Rows.StrSplitAre
import PyProof.WalkInts
import PyProof.EnumMake
import KE.KRevSl
import PyProof.Rows.SumAny
import PyProof.Rows.SortRuns
import PyProof.Rows.SortKey
import KE.KSortTup
import KE.KDictList
import PyProof.DictValues
import PyProof.StrLawsFirst
import PyProof.AutoListH
import PyProof.AttrMissSeq
import KE.KIntText
import PyProof.Rows.CountFlat
import KE.KLam
import KE.KSortKey
import KE.KPairComp
import PySem.Challenge.RW_heirbook_k31_pieces
abbrev Qa:=@if_neg
abbrev Qb:=@PySem.wpAny_bind
abbrev Qc:=@if_pos
abbrev Qd:=@List.length_map
abbrev Qe:=@PySem.wpAny_pure
abbrev Qf:=@Nat.le_refl
abbrev Qg:=@List.mem_map
abbrev Qh:=@List.mem_cons
abbrev Qi:=@PySem.Heap.lt_size
abbrev Qj:=@PySem.Heap.get?_push_of_some
abbrev Qk:=@decide_eq_false
abbrev Ql:=@decide_eq_true
abbrev Qm:=@Nat.le_trans
abbrev Qn:=@List.mem_append
abbrev Qo:=@List.append_nil
abbrev Qp:=@List.map_append
abbrev Qq:=@congrArg
abbrev Qr:=@List.map_cons
abbrev Qs:=@PySem.Heap.get?_push_size
abbrev Qt:=@Option.some.inj
abbrev Qu:=@List.getElem?_map
abbrev Qv:=@List.size_toArray
abbrev Qw:=@Nat.ne_of_lt
abbrev Qx:=@List.length_append
abbrev Qy:=@List.mem_cons_of_mem
abbrev Qz:=@List.getElem?_eq_getElem
abbrev QA:=@List.mem_cons_self
abbrev QB:=@Bool.false_ne_true
abbrev QC:=@Nat.le_of_ble_eq_true
abbrev QD:=@Nat.lt_of_lt_of_le
abbrev QE:=@of_decide_eq_true
abbrev QF:=@List.getElem?_eq_some_iff
abbrev QG:=@List.map_map
abbrev QH:=@List.nodup_cons
abbrev QI:=@PySem.PassesOwn.leaving
abbrev QJ:=@List.length_cons
abbrev QK:=@PySem.wpAny_field
abbrev QL:=@Option.map_eq_some_iff
abbrev QM:=@PySem.W.mg_of
abbrev QN:=@Int.fmod_nonneg_of_pos
abbrev QO:=@Nat.zero_le
abbrev QP:=@List.mem_of_getElem?
abbrev QQ:=@if_false
abbrev QR:=@Nat.le_succ
abbrev QS:=@List.not_mem_nil
abbrev QT:=@or_false
abbrev QU:=@PySem.W.kia_one
abbrev QV:=@List.mem_singleton
abbrev QW:=@List.filterMap_cons
abbrev QX:=@Ne.symm
abbrev QY:=@Nat.le_of_lt
abbrev QZ:=@List.length_take
abbrev Q0:=@if_true
abbrev Q1:=@PySem.wpAny_holding
abbrev Q2:=@List.nodup_append
abbrev Q3:=@Int.fmod_lt_of_pos
abbrev Q4:=@PySem.W.mg_none_of
abbrev Q5:=@PySem.wpAny_mono
abbrev Q6:=@List.mem_append_right
abbrev Q7:=@List.mem_filter
abbrev Q8:=@PySem.wpAny_newObj_type
abbrev Q9:=@List.mem_append_left
abbrev Ra:=@PySem.Heap.size_push
abbrev Rb:=@PySem.wpAny_call_entry
abbrev Rc:=@List.any_cons
abbrev Re:=@List.take_length
abbrev Rg:=@of_decide_eq_false
abbrev Rh:=@Nat.lt_irrefl
abbrev Ri:=@List.mem_filterMap
abbrev Rj:=@Bool.eq_iff_iff
abbrev Rk:=@Bool.and_eq_true
abbrev Rl:=@Bool.eq_false_iff
abbrev Rm:=@PySem.wpAny_setField_rec
abbrev Rn:=@List.foldl_cons
abbrev Ro:=@List.take_succ
abbrev Rp:=@PySem.F.plainAttrs_list
abbrev Rq:=@PySem.F.slot_list_append
abbrev Rr:=@PySem.F.type_list_append
abbrev Rs:=@beq_iff_eq
abbrev Rt:=@List.find?_cons
abbrev Ru:=@List.all_eq_true
abbrev Rv:=@PySem.wpAny_dictEntries
abbrev Rw:=@List.mem_map_of_mem
abbrev Rx:=@PySem.wpAny_truthy_bool
abbrev Ry:=@Nat.ne_of_gt
abbrev Rz:=@Nat.lt_succ_self
abbrev RA:=@PySem.wpAny_callSpecial?_slot
abbrev RB:=@List.filterMap_append
abbrev RC:=@false_and
abbrev RD:=@true_and
abbrev RE:=@ite_self
abbrev RF:=@Prod.ext
abbrev RG:=@beq_eq_false_iff_ne
abbrev RH:=@Sum.inr.inj
abbrev RI:=@Array.length_toList
abbrev RJ:=@PySem.mem_of_lookup
abbrev RK:=@PySem.wpAny_Call_Name_kw
abbrev RL:=@PySem.W.callWith_K
abbrev RM:=@PySem.wpAny_seqItems
abbrev RN:=@Bool.or_eq_true
abbrev RO:=@List.map_congr_left
abbrev RP:=@PySem.wpAny_rule
abbrev RQ:=@PySem.sizeLine_eq
abbrev RS:=@LawfulBEq.eq_of_beq
abbrev RT:=@PySem.typeIs_str
abbrev RU:=@PySem.tupleKind_room_in1
abbrev RV:=@Nat.lt_of_le_of_lt
abbrev RW:=@PySem.Heap.SameBut.update
abbrev RX:=@Nat.le_add_right
abbrev RY:=@List.getElem?_cons_succ
abbrev RZ:=@List.getElem_of_mem
abbrev R0:=@List.filter_cons
abbrev R1:=@List.length_range
abbrev R3:=@List.mem_of_mem_take
abbrev R4:=@List.getElem_map
abbrev R5:=@PySem.wpAny_pyIter_tuple
abbrev R6:=@PySem.wpAny_passesOwn
abbrev R7:=@PySem.Calls.spliced_cons
abbrev R8:=@PySem.codeAny_mono
abbrev R9:=@List.take_sublist
abbrev Ga:=@Int.toNat_natCast
abbrev Gb:=@PySem.call_meetsIn
abbrev Gc:=@PySem.wpAny_loadPart_at
abbrev Gd:=@PySem.codeAny_builtin
abbrev Ge:=@Nat.lt_succ_of_lt
abbrev Gf:=@PySem.W.callWith_K0
abbrev Gg:=@List.getElem_mem
abbrev Gh:=@PySem.wpAny_dictEpoch
abbrev Gi:=@PySem.F.slot_dict_itemiterator_next
abbrev Gj:=@decide_eq_true_eq
abbrev Gk:=@List.any_eq_true
abbrev Gm:=@List.flatMap_cons
abbrev Gn:=@Bool.true_and
abbrev Go:=@Int.zero_add
abbrev Gp:=@PySem.Paired.length
abbrev Gq:=@List.mem_range
abbrev Gr:=@List.getElem_inj
abbrev Gs:=@PySem.wpAny_standAt
abbrev Gu:=@Bool.false_and
abbrev Gv:=@PyProof.Rows.callWith_type1
abbrev Gw:=@PySem.W.looks_findIn
abbrev Gx:=@PySem.W.kitx_list
abbrev Gy:=@List.filterMap_map
abbrev Gz:=@List.all_cons
abbrev GA:=@PySem.Calls.callWith_builtin
abbrev GB:=@PySem.Calls.evalArgs_plain
abbrev GC:=@List.length_nil
abbrev GD:=@List.map_nil
abbrev GE:=@PySem.F.slot_tuple_iterator_next
abbrev GF:=@PySem.wpAny_letGo
abbrev GG:=@PySem.wpAny_attempt
abbrev GH:=@PySem.F.slot_zip_next
abbrev GI:=@List.length_filterMap_le
abbrev GJ:=@PySem.W.methodCall_KW
abbrev GK:=@PySem.wpAny_newList
abbrev GL:=@PySem.atKey_none_of_get
abbrev GM:=@Int.le_refl
abbrev GN:=@List.find?_eq_none
abbrev GO:=@Int.mul_fdiv_add_fmod
abbrev GP:=@List.foldl_append
abbrev GQ:=@List.append_assoc
abbrev GR:=@List.cons.inj
abbrev GS:=@List.getElem?_range
abbrev GT:=@Option.map_some
abbrev GU:=@PySem.wpAny_pyIter_list
abbrev GV:=@List.any_eq_false
abbrev GW:=@PySem.Calls.spliced_nil
abbrev GX:=@List.of_mem_zip
abbrev GY:=@List.length_drop
abbrev GZ:=@PyProof.Rows.slot_tuple_getitem
abbrev G6:=@Option.isSome_map
abbrev G7:=@PySem.F.slot_dict_get
abbrev G8:=@PySem.F.plainAttrs_dict
abbrev G9:=@Bool.not_eq_true'
abbrev Na:=@PySem.F.typeOf_object_class
abbrev Nb:=@PySem.Code.quiet_builtin
abbrev Nc:=@List.forIn_cons
abbrev Nd:=@List.forIn_nil
abbrev Nf:=@PySem.wpAny_isInstance
abbrev Ng:=@PySem.Calls.call_function_entry
abbrev Nh:=@PySem.wpAny_notOrdered_dict
abbrev Ni:=@List.getElem?_cons_zero
abbrev Nj:=@Array.getElem?_toList
abbrev Nk:=@Bool.false_eq_true
abbrev Nl:=@PySem.SeqAt.RcAt.lists
abbrev Nn:=@PySem.wpAny_isOneOf_itemiter
abbrev No:=@List.lt_asymm
abbrev Np:=@List.rel_of_pairwise_cons
abbrev Nq:=@List.length_filter_le
abbrev Nr:=@List.map_take
abbrev Nt:=@List.range_succ
abbrev Nu:=@Nat.succ_le_succ
abbrev Nv:=@Nat.le_succ_of_le
abbrev Nw:=@List.getD_eq_getElem?_getD
abbrev Ny:=@Option.isSome_iff_exists
abbrev Nz:=@List.getElem?_append_right
abbrev NA:=@List.getElem?_append_left
abbrev NB:=@List.getElem?_take_of_lt
abbrev NC:=@PySem.F.entry_tuple_add
abbrev ND:=@PySem.F.args_tuple_add_2
abbrev NE:=@PySem.F.args_dict_get_3
abbrev NF:=@Option.bind_eq_some_iff
abbrev NG:=@PySem.F.slot_dict_setdefault
abbrev NH:=@PySem.F.entry_dict_itemiterator_next
abbrev NI:=@PySem.F.args_dict_itemiterator_next_1
abbrev NJ:=@Option.isSome_iff_ne_none
abbrev NK:=@List.dropLast_concat_getLast
abbrev NL:=@List.perm_ext_iff_of_nodup
abbrev NM:=@Int.mul_le_mul_of_nonneg_left
set_option Elab.async false
set_option linter.all false
namespace LR
open PySem PySem.W PyProof.Rows
noncomputable abbrev Zdk:=@Fast.tw14082659384304107361
noncomputable abbrev JE:=Fast.tw14364793385576792824
noncomputable abbrev Vz:=@Fast.tw4187177175401517315
noncomputable def allIn (p:Program) (P:Params) (s:Shared):Bool :=
 staticsOk (importedModules p.main.body) (boot_heap P) s.heap&&namesBound p s.heap&&gensDone s&&laidKept (boot_heap P) s.heap
noncomputable abbrev sA (q:Program) (loose mods:List Str) (Xt:Shared->Bool) (g0:Bool) (s:Shared) :=
 ((Vz q loose mods Xt g0 s).1,(Vz q loose mods Xt g0 s).2.1,(Vz q loose mods Xt g0 s).2.2.1,(Vz q loose mods Xt g0 s).2.2.2.1)
noncomputable abbrev sB (q:Program) (loose mods:List Str) (Xt:Shared->Bool) (g0:Bool) (s:Shared):=(Vz q loose mods Xt g0 s).2.2.2.2
noncomputable abbrev gA (q:Program) (loose:List Str):=((openGood q loose).1,(openGood q loose).2.1,(openGood q loose).2.2.1,(openGood q loose).2.2.2.1)
noncomputable abbrev gB (q:Program) (loose:List Str):=(openGood q loose).2.2.2.2
noncomputable abbrev ran (p:Program) (m:Nat) (ann:Option Value) (N:Nat) (w:World) (os:OsState):Option Shared :=
 Zdk JE p w m ann N ⟨boot_heap w.params,Array.mk [],boot_drawn,boot_toks,os⟩ (topStub p)
theorem left_run {p q:Program} {loose:List Str} {Xt:Shared->Bool} {α:Type} {Yf:Shared->α} {Ya:World->α} {N m:Nat} {g0:Bool} {ann:Option Value}
  (e:opening p=plainProg p.main.scope.names) (f:∀s,fenceModules? p s=some s) (hN:Nat.ble 600 N=true)
  (h1:∀w:World,(boot_heap w.params).isNs mainGlobals=true) (h2:∀w:World,(boot_heap w.params).objs.size=m) (h3:∀w:World,(boot_heap w.params).nsMap mainGlobals "__annotations__"=ann)
  (r1:∀(w:World) (os:OsState),(ran p m ann N w os).map (allIn p w.params)=some true)
  (r2:∀(w:World) (os:OsState),(ran p m ann N w os).map (sA q loose (importedModules p.main.body) Xt g0)=some (gA q loose))
  (r2':∀(w:World) (os:OsState),(ran p m ann N w os).map (sB q loose (importedModules p.main.body) Xt g0)=some (gB q loose))
  (r3:∀(w:World) (os:OsState),(ran p m ann N w os).map Yf=some (Ya w)):LeftO p q loose Xt Yf Ya N g0:=by
 intro w;cases hb:fencedOpening treeTable p w N with
 |none=>have z:=boot_open e hN f w;rw [hb] at z;cases z
 |some s0 =>
  have z:=boot_open e hN f w;rw [hb] at z;obtain ⟨h,gs,d,k,os⟩:=s0;injection z with z;injection z with z4 z;injection z with z5 z;injection z with z6 z7;dsimp only at z4 z5 z6 z7;subst z4 z5 z6 z7;have a:=r1 w os;have b:=r2 w os;have b':=r2' w os;have c:=r3 w os;unfold ran Zdk JE at a b b' c;unfold sA gA Vz at b;unfold sB gB Vz at b';rw [←Fast.te14082659384304107361,←Fast.te14364793385576792824] at a b b' c;rw [←Fast.te4187177175401517315] at b b';cases hs:topRun treeTable p w m ann N ⟨boot_heap w.params,Array.mk [],boot_drawn,boot_toks,os⟩ (topStub p) with
  |none=>rw [hs] at a;cases a
  |some s =>
   rw [hs] at a b b' c;injection a with a;injection b with b;injection b' with b';injection b with x1 b;injection b with x2 b;injection b with x3 x4;injection c with c;have b:openSeen q loose (importedModules p.main.body) Xt g0 s=openGood q loose:=RF x1 (RF x2 (RF x3 (RF x4 b')))
   have t:topFrom treeTable p w N ⟨boot_heap w.params,Array.mk [],boot_drawn,boot_toks,os⟩=some s:=by
    unfold topFrom;simp only [h1 w,h2 w,h3 w,hs];unfold allIn at a;show (Option.bind (some s) fun x=>_)=_;rw [Option.bind_some,a]
   show Option.map _ (Option.bind (fencedOpening treeTable p w N) _)=_;rw [hb,Option.bind_some,t,GT,b,c]
noncomputable def Zcn (st:SharedT->Thread->Option (SharedT×Thread)) (ok:Thread->Bool):Nat->SharedT->Thread->Option SharedT:=fun n =>
 Nat.rec (motive:=fun _=>SharedT->Thread->Option SharedT) (fun _ _=>none) (fun _ ih s t=>match through t with
  |true=>some s
  |false=>match ok t with
   |false=>none
   |true=>match st s t with
    |some (s',t')=>ih s' t'
    |none=>none) n
theorem ZfQ {tb:String->Option Builtin} {p:Program} {w:World} {n₀:Nat} {ann:Option Value}:∀(n:Nat) (s:SharedT) (t:Thread) (s':SharedT),Zcn (stepT (denote tb) p w) (stepOk n₀ ann) n s t=some s'->topRun tb p w n₀ ann n s.abs t=some s'.abs
 |0,_,_,_,h=>by cases h
 |n+1,s,t,s',h=>by
  have h2:(match through t with
   |true=>some s
   |false=>match stepOk n₀ ann t with
    |false=>none
    |true=>match stepT (denote tb) p w s t with
     |some (s',t')=>Zcn (stepT (denote tb) p w) (stepOk n₀ ann) n s' t'
     |none=>none)=some s':=h
  unfold topRun;cases ht:through t with
  |true=>rw [ht] at h2;cases h2;rfl
  |false =>
   rw [ht] at h2;cases hk:stepOk n₀ ann t with
   |false=>rw [hk] at h2;cases h2
   |true =>
    rw [hk] at h2;cases hs:stepT (denote tb) p w s t with
    |none=>rw [hs] at h2;cases h2
    |some r =>
     obtain ⟨s₂,t₂⟩:=r;rw [hs] at h2;rw [stepT_spec hs];exact ZfQ n s₂ t₂ s' h2
noncomputable def Zno (P:Params) (m:Nat):BT:=Nat.rec (motive:=fun _=>BT) .nil (fun i T=>T.ins i (((boot_heap P).objs[i]?).getD default)) m
noncomputable abbrev ZeM:=@Fast.tw10156331382660048174
noncomputable abbrev Zff:=@Fast.tw11892475500146522536
noncomputable abbrev fOk:=@Fast.tw6613529449190102663
noncomputable abbrev s0T (P:Params) (m:Nat) (os:OsState):SharedT:=⟨Zno P m,m,(boot_heap P).life,Array.mk [],boot_drawn,boot_toks,os⟩
noncomputable abbrev ranT (p:Program) (m:Nat) (ann:Option Value) (N:Nat) (w:World) (os:OsState):Option SharedT :=
 Zcn (ZeM (Zff JE) p w) (fOk m ann) N (s0T w.params m os) (topStub p)
theorem Zie {p:Program} {m:Nat} {ann:Option Value} {N:Nat} {w:World} {os:OsState} (hb:(s0T w.params m os).abs=⟨boot_heap w.params,Array.mk [],boot_drawn,boot_toks,os⟩) {s:SharedT} (h:ranT p m ann N w os=some s):ran p m ann N w os=some s.abs:=by
 unfold ranT ZeM Zff fOk JE at h;rw [←Fast.te10156331382660048174,←Fast.te11892475500146522536,←Fast.te6613529449190102663,←Fast.te14364793385576792824] at h;have:=ZfQ _ _ _ _ h;rw [hb] at this;unfold ran Zdk JE;rw [←Fast.te14082659384304107361,←Fast.te14364793385576792824];exact this
theorem mapT {α:Type} {p:Program} {m:Nat} {ann:Option Value} {N:Nat} {w:World} {os:OsState} (hb:(s0T w.params m os).abs=⟨boot_heap w.params,Array.mk [],boot_drawn,boot_toks,os⟩) {f:Shared->α} {a:α} (h:(ranT p m ann N w os).map (fun s=>f s.abs)=some a):(ran p m ann N w os).map f=some a:=by
 cases e:ranT p m ann N w os with
 |none=>rw [e] at h;cases h
 |some s =>
  rw [e] at h;rw [Zie hb e];exact h
end LR
namespace K31
open PySem PySem.W PyProof.Rows
abbrev rwOf:OpenLaw:=PySem.Challenge.rw_heirbook_k31_pieces
abbrev pwOf:Program:=PySem.Challenge.pw_heirbook_k31_pieces
noncomputable def vw:Program:=view pwOf [0,2,3,4,5,6,7,8,10,11,12,13,15,17,18,19,20,22,24,25,26,27,28,29,30,31,32,33,34,35,36,37,39,40,41,42,44,45,46,47,48,49,50,51,52,53,54,55,56,57]
noncomputable abbrev lo:List Str:=["FORMS"]
noncomputable abbrev xt (s:Shared):Bool:=xlAt vw [] s&&recOk (RowW.records (OpenRow.toRowW (OpenLaw.row rwOf))) s
noncomputable abbrev rn:=LR.ranT pwOf 11 (some (.ref 6)) 4665
set_option maxRecDepth 100000
set_option maxHeartbeats 0
theorem said:OpenLaw.wellSaid rwOf=true:=by kernel_rfl
theorem hb (w:World) (os:OsState):(LR.s0T w.params 11 os).abs=⟨boot_heap w.params,Array.mk [],boot_drawn,boot_toks,os⟩:=by kernel_rfl
theorem r1T (w:World) (os:OsState):(rn w os).map (fun s=>(LR.allIn pwOf w.params) s.abs)=some (true):=by kernel_rfl
theorem r1 (w:World) (os:OsState):(LR.ran pwOf 11 (some (.ref 6)) 4665 w os).map (LR.allIn pwOf w.params)=some (true):=LR.mapT (hb w os) (r1T w os)
theorem r2T (w:World) (os:OsState):(rn w os).map (fun s=>(LR.sA vw lo (importedModules pwOf.main.body) xt true) s.abs)=some (LR.gA vw lo):=by kernel_rfl
theorem r2 (w:World) (os:OsState):(LR.ran pwOf 11 (some (.ref 6)) 4665 w os).map (LR.sA vw lo (importedModules pwOf.main.body) xt true)=some (LR.gA vw lo):=LR.mapT (hb w os) (r2T w os)
theorem r3T (w:World) (os:OsState):(rn w os).map (fun s=>(LR.sB vw lo (importedModules pwOf.main.body) xt true) s.abs)=some (LR.gB vw lo):=by kernel_rfl
theorem r3 (w:World) (os:OsState):(LR.ran pwOf 11 (some (.ref 6)) 4665 w os).map (LR.sB vw lo (importedModules pwOf.main.body) xt true)=some (LR.gB vw lo):=LR.mapT (hb w os) (r3T w os)
end K31
local macro_rules
 | `(tactic| o_law)=>`(tactic| refine PySem.W.holds_law K31.said fun sd=>?_)
local macro_rules
 | `(tactic| o_head $H)=>do
  let hw:=Lean.mkIdent `hw
  let hc:=Lean.mkIdent `hc
  `(tactic| (
   refine PySem.W.holds_open (q:=K31.vw) (loose:=K31.lo) (N:=4665) (Xt:=K31.xt) (XP:=PySem.W.XL K31.vw []) (Yf:=PySem.W.Hook.obs $H)
    (Ya:=PySem.W.Hook.val $H) (YP:=PySem.W.Hook.says $H)
    (LR.left_run (p:=K31.pwOf) (m:=11) (ann:=(some (.ref 6))) ?e1 ?e2 (by decide) ?e3 ?e4 ?e5 K31.r1 K31.r2 K31.r3 ?e6)
    (PySem.W.Hook.of $H) (PySem.W.Hook.keeps $H) ?f1
    PySem.W.XL.keeps (by rfl) (by rfl) (by rfl) ?f2 ?g4 ?g5 ?g6 ?g7 ?$hw ?$hc
   case e1=>kernel_rfl
   case e2=>intro s;kernel_rfl
   case e3=>intro w;kernel_rfl
   case e4=>intro w;kernel_rfl
   case e5=>intro w;kernel_rfl
   case e6=>(intro w os;refine LR.mapT (K31.hb w os) ?_;kernel_rfl)
   case f1=>intro s e;exact PySem.W.xl_of s (Bool.and_eq_true_iff.mp e).1
   case f2=>intro s e;exact PySem.W.recFacts_of (Bool.and_eq_true_iff.mp e).2
   case g4=>rfl
   case g5=>assumption
   case g6=>decide +kernel
   case g7=>exact ⟨rfl,rfl,rfl,rfl,rfl,by decide +kernel⟩))
set_option maxRecDepth 100000 in
set_option maxHeartbeats 0 in
open_top K31.hd for PySem.Challenge.rw_heirbook_k31_pieces
set_option maxRecDepth 100000
namespace L2
open PySem PySem.Spec PyProof.Rows
abbrev Zi:=Sum Int Str
noncomputable def Ve:Zi->Value->Bool
 |.inl k,v=>Value.isInt k v
 |.inr x,v=>Value.isStrOf x v
noncomputable def Zjh (w:World):Zi->Int
 |.inl k=>hashInt k
 |.inr x=>hashStr w x
theorem XZ:∀{k:Zi} {v:Value},Ve k v=true->(∃i t,k=Sum.inl i∧v=Value.int i t)∨(∃x t,k=Sum.inr x∧v=Value.str x t)
 |.inl i,v,h=>by
  obtain ⟨t,e⟩:=Value.isInt_shape (k:=i) (v:=v) h;exact .inl ⟨i,t,rfl,e⟩
 |.inr x,v,h=>by
  obtain ⟨t,e⟩:=Value.isStrOf_shape (x:=x) (v:=v) h;exact .inr ⟨x,t,rfl,e⟩
theorem Zoo (i:Int) (t:Tok):Ve (.inl i) (.int i t)=true:=by simp [Ve,Value.isInt]
theorem Zjr (x:Str) (t:Tok):Ve (.inr x) (.str x t)=true:=by simp [Ve,Value.isStrOf]
theorem Zip (a b:Int):decide ((Sum.inl a:Zi)=Sum.inl b)=(a==b):=by
 by_cases e:a=b
 ·subst e;simp
 ·have h:¬(Sum.inl a:Zi)=Sum.inl b:=fun q=>e (Sum.inl.inj q);rw [Qk h];exact (RG.mpr e).symm
theorem Zn0 (a b:Str):decide ((Sum.inr a:Zi)=Sum.inr b)=decide (a=b):=by
 by_cases e:a=b
 ·subst e;simp
 ·have h:¬(Sum.inr a:Zi)=Sum.inr b:=fun q=>e (RH q);rw [Qk h,Qk e]
theorem Znp (a:Int) (b:Str):decide ((Sum.inl a:Zi)=Sum.inr b)=false:=Qk (fun q=>nomatch q)
theorem Zl4 (a:Str) (b:Int):decide ((Sum.inr a:Zi)=Sum.inl b)=false:=Qk (fun q=>nomatch q)
noncomputable def Z1 (prog:Program) (w:World):PySem.KeyKind prog w Zi where
 is:=Ve
 hash:=Zjh w
 inj:=fun v a b ha hb=>by
  rcases XZ ha with ⟨i,t,rfl,rfl⟩|⟨x,t,rfl,rfl⟩
  ·rcases XZ hb with ⟨j,u,rfl,e⟩|⟨y,u,rfl,e⟩
   ·injection e with e1 _;rw [e1]
   ·exact nomatch e
  ·rcases XZ hb with ⟨j,u,rfl,e⟩|⟨y,u,rfl,e⟩
   ·exact nomatch e
   ·injection e with e1 _;rw [e1]
 byValue:=fun k v h=>by
  rcases XZ h with ⟨i,t,rfl,rfl⟩|⟨x,t,rfl,rfl⟩<;>rfl
 pyHash:=fun hv h=>by
  rcases XZ hv with ⟨i,t,rfl,rfl⟩|⟨x,t,rfl,rfl⟩
  ·exact wpAny_pyHash_int h
  ·exact wpAny_pyHash_str h
 eqBool:=fun hu hv h=>by
  rcases XZ hu with ⟨i,t,rfl,rfl⟩|⟨x,t,rfl,rfl⟩
  ·rcases XZ hv with ⟨j,u,rfl,rfl⟩|⟨y,u,rfl,rfl⟩
   ·rw [Zip] at h;exact wpAny_eqBool_int h
   ·rw [Znp] at h;exact SeqAt.EqAt.int_str i t y u _ _ _ _ h
  ·rcases XZ hv with ⟨j,u,rfl,rfl⟩|⟨y,u,rfl,rfl⟩
   ·rw [Zl4] at h;exact SeqAt.EqAt.str_int x t j u _ _ _ _ h
   ·rw [Zn0] at h;exact wpAny_eqBool_str h
 «strs»:=fun k x t v h=>by
  rcases XZ h with ⟨i,u,rfl,e⟩|⟨y,u,rfl,e⟩
  ·exact nomatch e
  ·injection e with e1 _;subst e1;cases v<;>rfl
theorem Zjj (prog:Program) (w:World) (i:Int) (t:Tok):(Z1 prog w).is (.inl i) (.int i t)=true:=Zoo i t
theorem Zl0 (prog:Program) (w:World) (x:Str) (t:Tok):(Z1 prog w).is (.inr x) (.str x t)=true:=Zjr x t
inductive V where
 |non|bl (b:Bool)|int (i:Int)|str (x:Str)|byt (b:Array UInt8)|flt (b:UInt64)|ref (a:Addr)|ty (n:String)
 deriving DecidableEq
def RelV:V->Value->Prop
 |.non,u=>u=Value.none
 |.bl b,u=>u=Value.bool b
 |.int i,u=>∃t,u=Value.int i t
 |.str x,u=>∃t,u=Value.str x t
 |.byt b,u=>∃t,u=Value.bytes b t
 |.flt b,u=>∃t,u=Value.float b t
 |.ref a,u=>u=Value.ref a
 |.ty n,u=>u=Value.type n
abbrev Vals:List V->List Value->Prop:=Paired RelV
theorem Vals.length {xs:List V} {us:List Value} (r:Vals xs us):xs.length=us.length:=Gp r
theorem Vals.get:∀{xs:List V} {us:List Value} {i:Nat} {x:V},Vals xs us->xs[i]?=some x->∃u,us[i]?=some u∧RelV x u
 |_,_,_,_,.nil,e=>by simp at e
 |_,_,0,_,.cons r _,e=>by simp at e;subst e;exact ⟨_,rfl,r⟩
 |_,_,i+1,x,.cons _ t,e=>by
  obtain ⟨u,h1,h2⟩:=Vals.get (i:=i) (x:=x) t (by simpa using e);exact ⟨u,by simpa using h1,h2⟩
theorem Vals.append:∀{xs ys:List V} {us ws:List Value},Vals xs us->Vals ys ws->Vals (xs++ys) (us++ws)
 |_,_,_,_,.nil,s=>s
 |_,_,_,_,.cons r t,s=>.cons r (Vals.append t s)
theorem Vals.take:∀{xs:List V} {us:List Value} (n:Nat),Vals xs us->Vals (xs.take n) (us.take n)
 |_,_,0,_=>.nil
 |_,_,_+1,.nil=>.nil
 |_,_,n+1,.cons r t=>.cons r (Vals.take n t)
theorem Vals.drop:∀{xs:List V} {us:List Value} (n:Nat),Vals xs us->Vals (xs.drop n) (us.drop n)
 |_,_,0,r=>r
 |_,_,_+1,.nil=>.nil
 |_,_,n+1,.cons _ t=>Vals.drop n t
def RelO:Option V->Option Value->Prop
 |some v,some u=>RelV v u
 |none,none=>True
 |_,_=>False
def KV {κ:Type}:List (κ×V)->List (κ×Value)->Prop:=Paired fun (p:κ×V) (q:κ×Value)=>p.1=q.1∧RelV p.2 q.2
noncomputable def kV:Zi->V
 |.inl i=>.int i
 |.inr x=>.str x
inductive HO where
 |lst (xs:List V)
 |tup (xs:List V)
 |dK (kvs:List (Zi×V))|dT (kvs:List (List Zi×V))
 |set (S:Int->Bool) (n:Nat)
 |ins (C dx:Addr) (fs:List (Str×V))
 |own (x:Addr)
 |xd (fs:List (Str×V))
 |met (f x:Addr)
 |rng (lo hi:Int)
 |frz (o:Obj) (u:HO)
 |tbl (ps:Array Value)
 |ext (φ:Heap->Prop)
abbrev Hp:=Addr->Option HO
noncomputable def Zb (H:Hp) (a:Addr) (o:HO):Hp:=fun b=>if b=a then some o else H b
theorem Zg {H:Hp} {a:Addr} {o:HO}:Zb H a o a=some o:=by unfold Zb;rw [Qc rfl]
theorem Zh {H:Hp} {a b:Addr} {o:HO} (h:b≠a):Zb H a o b=H b:=by unfold Zb;rw [Qa h]
theorem ZeU {H:Hp} {a b:Addr} {o u:HO} (h:H a=some o) (h':H b=some u) (d:o≠u):a≠b:=by
 intro e;subst e;rw [h] at h';exact d (Qt h')
theorem ZU {H:Hp} {a b:Addr} {o:HO} (h:H a=some o) (h':H b=none):a≠b:=by
 intro e;subst e;rw [h] at h';cases h'
section
variable (P:Program) (w:World)
def ObjOk (H:Hp) (h:Heap) (a:Addr):HO->Prop
 |.lst xs=>xs.length≤sizeLine∧∃(its:List Value) (n:Nat),Vals xs its∧h.get? a=some { cls:=.type "list",data:=.seq its.toArray n }
 |.tup xs=>xs.length≤sizeLine∧∃its:List Value,Vals xs its∧IsTup h a its.toArray
 |.dK kvs=>kvs.length≤sizeLine∧(a==sysModules)=false∧∃vs,KV kvs vs∧h.DictOf (Z1 P w) a vs
 |.dT kvs => kvs.length ≤ sizeLine ∧ (a==sysModules)=false ∧ ∃xs : List (List Zi×Addr×Value),
   Paired (fun (p:List Zi×V) (q:List Zi×Addr×Value)=>p.1=q.1∧H q.2.1=some (.tup (p.1.map kV))∧RelV p.2 q.2.2) kvs xs ∧
   ∃o es ep,h.get? a=some o∧o.ExactDict∧o.data=.dict es ep∧es.toList=xs.map (entryOfKey (tupleKind (Z1 P w)))∧(xs.map (·.1)).Nodup
 |.set S n=>h.SetOf (intKind P w) a S n
 |.ins C dx fs => H dx=some (.own a) ∧ fs.length ≤ 1000 ∧ dx ≠ a ∧ h.get? a=some (W.instObj C dx) ∧
   ∃mA,h.Ns1 dx mA∧(∀f,RelO (fs.lookup f) (mA f))∧PySem.Within mA (fs.map (·.1))
 |.own _=>∃o,h.get? a=some o
 |.xd fs=>∃mA,h.Ns1 a mA∧∀f,RelO (fs.lookup f) (mA f)
 |.rng lo hi=>∃t u v,h.get? a=some { cls:=.type "range",data:=.fields #[.int lo t,.int hi u,.int 1 v] }
 |.frz o u=>h.get? a=some o∧ObjOk H h a u
 |.tbl ps=>h.get? a=some { cls:=.none,data:=.fields ps }
 |.met f x=>h.get? a=some (W.methodObj (.ref f) (.ref x))
 |.ext φ=>φ h∧(∃o,h.get? a=some o)∧∀h1 h2:Heap,φ h1->(∀o,h1.get? a=some o->h2.get? a=some o)->φ h2
def HOk (H:Hp) (h:Heap):Prop:=∀a o,H a=some o->ObjOk P w H h a o
end
section
variable {P:Program} {w:World} {H H':Hp} {h h':Heap} {a:Addr} {o:HO}
theorem ObjOk.lt (x:ObjOk P w H h a o):a<h.objs.size:=by
 cases o with
 |lst xs=>obtain ⟨_,_,_,_,e⟩:=x;exact Qi e
 |tup xs=>obtain ⟨_,_,_,p⟩:=x;exact p.lt
 |dK kvs=>obtain ⟨_,_,_,_,o,_,_,e,_⟩:=x;exact Qi e
 |dT kvs=>obtain ⟨_,_,_,_,o,_,_,e,_⟩:=x;exact Qi e
 |set S n=>obtain ⟨o,_,_,_,e,_⟩:=x;exact Qi e
 |ins C dx fs=>obtain ⟨_,_,_,e,_⟩:=x;exact Qi e
 |own y=>obtain ⟨_,e⟩:=x;exact Qi e
 |xd fs=>obtain ⟨_,⟨_,_,_,e,_⟩,_⟩:=x;exact Qi e
 |rng lo hi=>obtain ⟨_,_,_,e⟩:=x;exact Qi e
 |frz ob u=>obtain ⟨e,_⟩:=x;exact Qi e
 |tbl ps=>exact Qi (show h.get? a=some _ from x)
 |met f y=>exact Qi (show h.get? a=some _ from x)
 |ext φ=>obtain ⟨_,⟨_,e⟩,_⟩:=x;exact Qi e
theorem Paired.mapP {α β:Type} {F G:α->β->Prop}:∀{l₁:List α} {l₂:List β},Paired F l₁ l₂->(∀a b,F a b->G a b)->Paired G l₁ l₂
 |_,_,.nil,_=>.nil
 |_,_,.cons r t,f=>.cons (f _ _ r) (Paired.mapP t f)
theorem ObjOk.stay (x:ObjOk P w H h a o) (k:∀b u,(b=a∨H b=some (.own a))->h.get? b=some u->h'.get? b=some u)
  (ho:∀b,H b=some (.own a)->H' b=some (.own a)) (ht:∀b xs,H b=some (.tup xs)->H' b=some (.tup xs)):ObjOk P w H' h' a o:=by
 induction o with
 |lst xs=>obtain ⟨z,its,n,r,e⟩:=x;exact ⟨z,its,n,r,k _ _ (.inl rfl) e⟩
 |tup xs=>obtain ⟨z,its,r,ob,e,c⟩:=x;exact ⟨z,its,r,ob,k _ _ (.inl rfl) e,c⟩
 |dK kvs=>obtain ⟨z,y,vs,r,ob,es,ep,e,c⟩:=x;exact ⟨z,y,vs,r,ob,es,ep,k _ _ (.inl rfl) e,c⟩
 |dT kvs =>
  obtain ⟨z,y,xs,r,ob,es,ep,e,c⟩:=x;exact ⟨z,y,xs,Paired.mapP r fun p q z=>⟨z.1,ht _ _ z.2.1,z.2.2⟩,ob,es,ep,k _ _ (.inl rfl) e,c⟩
 |set S n=>obtain ⟨ob,es,ep,t,e,c⟩:=x;exact ⟨ob,es,ep,t,k _ _ (.inl rfl) e,c⟩
 |ins C dx fs =>
  obtain ⟨d,z,ne,e,mA,⟨od,es,ep,e2,c⟩,r⟩:=x;exact ⟨ho _ d,z,ne,k _ _ (.inl rfl) e,mA,⟨od,es,ep,k _ _ (.inr d) e2,c⟩,r⟩
 |own y=>obtain ⟨ob,e⟩:=x;exact ⟨ob,k _ _ (.inl rfl) e⟩
 |xd fs=>obtain ⟨mA,⟨od,es,ep,e,c⟩,r⟩:=x;exact ⟨mA,⟨od,es,ep,k _ _ (.inl rfl) e,c⟩,r⟩
 |rng lo hi=>obtain ⟨t,u,v,e⟩:=x;exact ⟨t,u,v,k _ _ (.inl rfl) e⟩
 |frz ob u ih=>obtain ⟨e,q⟩:=x;exact ⟨k _ _ (.inl rfl) e,ih q⟩
 |tbl ps =>
  have e:h.get? a=some { cls:=.none,data:=.fields ps }:=x;show h'.get? a=some { cls:=.none,data:=.fields ps };exact k a _ (.inl rfl) e
 |met f y =>
  have e:h.get? a=some (W.methodObj (.ref f) (.ref y)):=x;show h'.get? a=some (W.methodObj (.ref f) (.ref y));exact k a _ (.inl rfl) e
 |ext φ=>obtain ⟨p,⟨o,e⟩,st⟩:=x;exact ⟨st _ _ p fun o q=>k _ _ (.inl rfl) q,⟨o,k _ _ (.inl rfl) e⟩,st⟩
theorem HOk.lt (x:HOk P w H h) (e:H a=some o):a<h.objs.size:=(x a o e).lt
theorem HOk.fresh (x:HOk P w H h) (e:h.objs.size≤a):H a=none:=by
 cases q:H a with
 |none=>rfl
 |some u=>exact absurd (QD (x.lt q) e) (Rh _)
theorem HOk.kept (x:HOk P w H h) (k:∀b u,h.get? b=some u->h'.get? b=some u):HOk P w H h':=fun a o e =>
 (x a o e).stay (fun b u _ q=>k b u q) (fun _ q=>q) fun _ _ q=>q
theorem HOk.laid (x:HOk P w H h) (k:∀b u,h.get? b=some u->h'.get? b=some u) (hp:h.objs.size≤a) (new:ObjOk P w (Zb H a o) h' a o):HOk P w (Zb H a o) h':=fun b u e=>by
 have hn:=x.fresh hp;by_cases hb:b=a
 ·subst hb;rw [Zg] at e;cases e;exact new
 ·rw [Zh hb] at e;exact (x b u e).stay (fun c v _ q=>k c v q) (fun c q=>by rw [Zh (ZU q hn)];exact q) fun c xs q=>by rw [Zh (ZU q hn)];exact q
end
def Rd (H:Hp) (a:Addr) (u:HO):Prop:=H a=some u∨∃o,H a=some (.frz o u)
theorem Rd.ok {P:Program} {w:World} {H:Hp} {h:Heap} {a:Addr} {u:HO} (r:Rd H a u) (x:HOk P w H h):ObjOk P w H h a u:=by
 rcases r with r|⟨o,r⟩
 ·exact x a u r
 ·obtain ⟨_,q⟩:=x a _ r;exact q
def U9:Option HO->Prop
 |some (.lst _)=>True
 |some (.dK _)=>True
 |some (.dT _)=>True
 |some (.set _ _)=>True
 |some (.ins _ _ _)=>True
 |some (.ext _)=>True
 |_=>False
section
variable {P:Program} {w:World} {H:Hp} {h h':Heap} {x e:Addr} {o':HO}
theorem HOk.write (ok:HOk P w H h) (mu:U9 (H x)) (he:e=x∨H e=some (.own x)) (k:∀b u,b≠e->h.get? b=some u->h'.get? b=some u) (heo:∃u,h'.get? e=some u)
  (new:ObjOk P w (Zb H x o') h' x o'):HOk P w (Zb H x o') h':=fun b u q=>by
 have nown:∀c y,H c=some (.own y)->c≠x:=fun c y r z=>by subst z;rw [r] at mu;exact mu
 have ntup:∀c xs,H c=some (.tup xs)->c≠x:=fun c xs r z=>by subst z;rw [r] at mu;exact mu
 by_cases hb:b=x
 ·subst hb;rw [Zg] at q;cases q;exact new
 ·rw [Zh hb] at q;by_cases hbe:b=e
  ·have q':H b=some (.own x):=by
    rcases he with z|z
    ·exact absurd (hbe.trans z) hb
    ·rw [hbe];exact z
   rw [q] at q';cases q';obtain ⟨v,hv⟩:=heo;exact ⟨v,by rw [hbe];exact hv⟩
  ·refine (ok b u q).stay (fun c v hc r=>k c v ?_ r) (fun c r=>by rw [Zh (nown c b r)];exact r) fun c xs r=>by rw [Zh (ntup c xs r)];exact r
   rcases hc with rfl|hc
   ·exact hbe
   ·rintro rfl;rcases he with z|z
    ·exact nown c b hc z
    ·rw [hc] at z;cases z;exact hb rfl
end
structure Un (fs ex:List Addr) (H H':Hp) (h h':Heap):Prop where
 keep:∀b o,h.get? b=some o->H b=none->b∉fs->b∉ex->h'.get? b=some o
 slot:∀b o,h.get? b=some o->H b=none->b∈fs->b∉ex->∃sl,h'.get? b=some { o with slots:=sl }
 free:∀b o,h.get? b=some o->H b=none->b∉ex->H' b=none
 there:∀b o,h.get? b=some o->b∉ex->∃o',h'.get? b=some o'
 tups:∀b xs,H b=some (.tup xs)->H' b=some (.tup xs)
 frzs:∀b o u,H b=some (.frz o u)->H' b=some (.frz o u)
 tbls:∀b ps,H b=some (.tbl ps)->∃more,H' b=some (.tbl (ps++more))
section
variable {fs fs' ex ex':List Addr} {H H1 H2:Hp} {h h1 h2 h':Heap} {a x e:Addr} {o:HO}
theorem Un.any (u:Un fs ex H H1 h h1) {b:Addr} {ob:Obj} (q:h.get? b=some ob) (n:H b=none) (hx:b∉ex):∃sl,h1.get? b=some { ob with slots:=sl }:=by
 by_cases hb:b∈fs
 ·exact u.slot b ob q n hb hx
 ·exact ⟨ob.slots,u.keep b ob q n hb hx⟩
theorem Un.kept (k:∀b u,h.get? b=some u->h'.get? b=some u):Un fs ex H H h h' :=
 ⟨fun b ob q _ _ _=>k b ob q,fun b ob q _ _ _=>⟨ob.slots,k b ob q⟩,fun _ _ _ n _=>n,fun b ob q _=>⟨ob,k b ob q⟩,fun _ _ q=>q,fun _ _ _ q=>q,fun _ ps q=>⟨#[],by rw [q];simp⟩⟩
theorem Un.refl:Un fs ex H H h h:=Un.kept fun _ _ q=>q
theorem Un.laid (k:∀b u,h.get? b=some u->h'.get? b=some u) (hp:h.objs.size≤a) (hn:H a=none):Un fs ex H (Zb H a o) h h' where
 keep:=fun b u q _ _ _=>k b u q
 slot:=fun b u q _ _ _=>⟨u.slots,k b u q⟩
 free:=fun b u q n _=>by rw [Zh (Qw (QD (Qi q) hp))];exact n
 there:=fun b u q _=>⟨u,k b u q⟩
 tups:=fun b xs q=>by rw [Zh (ZU q hn)];exact q
 frzs:=fun b u xs q=>by rw [Zh (ZU q hn)];exact q
 tbls:=fun b ps q=>⟨#[],by rw [Zh (ZU q hn),q];simp⟩
theorem Un.write (mu:U9 (H x)) (he:e=x∨H e=some (.own x)) (k:∀b u,b≠e->h.get? b=some u->h'.get? b=some u) (heo:∃u,h'.get? e=some u):Un fs ex H (Zb H x o) h h':=by
 have hx:∀b,H b=none->b≠x:=fun b n z=>by subst z;rw [n] at mu;exact mu
 have hb:∀b,H b=none->b≠e:=fun b n z=>by
  subst z;rcases he with r|r
  ·exact hx b n r
  ·rw [n] at r;cases r
 have hm:∀b u,H b=some u->¬U9 (some u)->b≠x:=fun b u q nm z=>by subst z;rw [q] at mu;exact nm mu
 refine ⟨fun b u q n _ _=>k b u (hb b n) q,fun b u q n _ _=>⟨u.slots,k b u (hb b n) q⟩,fun b u q n _=>by rw [Zh (hx b n)];exact n,fun b u q _=>?_,
  fun b xs q=>by rw [Zh (hm b _ q fun z=>z)];exact q,fun b u xs q=>by rw [Zh (hm b _ q fun z=>z)];exact q,fun b ps q=>⟨#[],by rw [Zh (hm b _ q fun z=>z),q];simp⟩⟩
 by_cases hbe:b=e
 ·subst hbe;exact heo
 ·exact ⟨u,k b u hbe q⟩
end
noncomputable def J7 (h:Heap) (H:Hp):List Addr:=(List.range h.objs.size).filter fun a=>(H a).isSome
noncomputable def Wz (h:Heap) (H:Hp):Heap:=W.hideAll h (J7 h H)
theorem Zns (h:Heap) (H:Hp):(Wz h H).objs.size=h.objs.size:=W.hideAll_size _ _
theorem Zje {h:Heap} {H:Hp} {b:Addr} {o:Obj} (e:h.get? b=some o) (n:H b=none):(Wz h H).get? b=some o :=
 W.hideAll_get _ e fun hm=>by
  have q:(H b).isSome=true:=(Q7.mp hm).2;rw [n] at q;simp at q
theorem Zna {h:Heap} {H:Hp} {b:Addr} {o:Obj} (e:(Wz h H).get? b=some o):h.get? b=some o∧H b=none:=by
 have e':h.get? b=some o:=W.of_hideAll (J7 h H) e;refine ⟨e',?_⟩;cases q:H b with
 |none=>rfl
 |some x =>
  have hm:b∈J7 h H:=Q7.mpr ⟨Gq.mpr (Qi e'),by simp [q]⟩;have z:(Wz h H).get? b=none:=W.hideAll_none (J7 h H) hm;rw [z] at e;cases e
structure Mod (K:W.Frag) (mg:Str->Option Value) (base:Heap):Prop where
 kin:K.In base
 glob:base.Ns mainGlobals mg
 blt:∃mb,base.Ns builtinsNs mb∧∀x:Str,x≠"__name__"->mb x=bootBuiltins x
 nolimit:base.NoLimit
structure Cx where
 prog:Program
 w:World
 K:W.Frag
 mg:Str->Option Value
 base:Heap
 A:Around
 N:List Str
 s₀:Shared
 H₀:Hp
 env:Env
 outer:List Env
 stack:List Env
 ex:List Addr
 fn:Str->Bool
 calm:Bool
 pn:List (Addr×Obj)
 xe:Value->Shared->Prop
noncomputable def YJ (l:List Env):List Addr:=l.filterMap (·.frame)
noncomputable abbrev Cx.fs (X:Cx):List Addr:=YJ X.outer
def Vis (sc:Scope) (x:Str):Prop:=sc.names.lookup x=some .local∨sc.names.lookup x=some .cell∨sc.names.lookup x=some .free
def Jr (sc:Scope) (x:Str):Prop:=sc.names.lookup x=some .local∨sc.names.lookup x=some .cell
def ZmI (env:Env) (h:Heap) (m:Str->Option Value) (x:Str) (u:Value):Prop :=
 (env.kindOf x=some .local∧m x=some u)∨((env.kindOf x=some .cell∨env.kindOf x=some .free)∧∃c,env.cells.lookup x=some c∧h.IsCell c (some u))
structure Cx.Ok (X:Cx):Prop where
 mod:Mod X.K X.mg X.base
 kind:X.env.scope.kind=.function
 glob:X.env.globals=mainGlobals
 blt:X.env.builtins=builtinsNs
 above:X.s₀.heap.objs.size≤X.env.locals
 inj:∀x y c,X.env.cells.lookup x=some c->X.env.cells.lookup y=some c->x=y
 has:∀x,(X.env.kindOf x=some .cell∨X.env.kindOf x=some .free)->∃c,X.env.cells.lookup x=some c
 cab:∀x c,X.fn x=true->X.env.cells.lookup x=some c->X.s₀.heap.objs.size≤c
 hd:X.calm=true->X.A.handled=none
 frames:X.A.frames=some X.stack
 stk:X.stack=X.outer∨(X.stack=X.env::X.outer∧X.env.frame=some X.env.locals)
 exf:∀b∈X.ex,b≠X.env.locals∧∀x c,X.env.cells.lookup x=some c->c≠b
 bs:∀b o,X.base.get? b=some o->X.s₀.heap.get? b=some o∧X.H₀ b=none
 bsz:X.base.objs.size≤X.s₀.heap.objs.size
 noex:∀b o,X.base.get? b=some o->b∉X.ex
 exfs:∀b∈X.ex,b∉X.fs
 funs:X.s₀.heap.FunFrames X.base X.outer
 frf:∀b∈X.fs,X.H₀ b=none
structure Inv (X:Cx) (pins:List (Addr×Obj)) (σ:List (Option V)) (H:Hp) (s:Shared):Prop where
 ok:X.Ok
 os:s.os=X.s₀.os
 bare:AllBare s.gens
 base:Un X.fs X.ex X.H₀ H X.s₀.heap s.heap
 loc:∃m,s.heap.Ns X.env.locals m∧∀(i:Nat) (x:Str) (v:V),X.N[i]?=some x->σ[i]?=some (some v)->Vis X.env.scope x->∃u,RelV v u∧ZmI X.env s.heap m x u
 cell:∀x c,X.env.cells.lookup x=some c->∃v,s.heap.IsCell c v
 free:H X.env.locals=none
 freeC:∀x c,X.env.cells.lookup x=some c->H c=none
 pin:∀p∈X.pn++pins,s.heap.get? p.1=some p.2∧H p.1=none∧p.1≠X.env.locals∧p.1∉X.fs∧∀v,p.2.data≠.cell v
 hok:HOk X.prog X.w H s.heap
 len:σ.length=X.N.length
section
variable {X:Cx} {pins:List (Addr×Obj)} {σ:List (Option V)} {H H':Hp} {s:Shared} {h':Heap}
theorem Cx.Ok.nofr (ok:X.Ok) {b:Addr} {o:Obj} (e:X.base.get? b=some o):b∉X.fs:=fun hb=>by
 have:=(ok.funs.mem hb).1;rw [e] at this;cases this
theorem Inv.bs (I:Inv X pins σ H s):∀b o,X.base.get? b=some o->s.heap.get? b=some o∧H b=none:=fun b o e =>
 ⟨I.base.keep b o (I.ok.bs b o e).1 (I.ok.bs b o e).2 (I.ok.nofr e) (I.ok.noex b o e),I.base.free b o (I.ok.bs b o e).1 (I.ok.bs b o e).2 (I.ok.noex b o e)⟩
theorem Inv.bk (I:Inv X pins σ H s):∀b o,X.base.get? b=some o->s.heap.get? b=some o:=fun b o e=>(I.bs b o e).1
theorem Inv.mod (I:Inv X pins σ H s):Mod X.K X.mg X.base:=I.ok.mod
theorem Inv.kIn (I:Inv X pins σ H s):X.K.In s.heap:=I.ok.mod.kin.keeps I.bk
theorem Inv.lt (I:Inv X pins σ H s):X.env.locals<s.heap.objs.size:=let ⟨_,hn,_⟩:=I.loc;hn.lt
theorem Inv.sz (I:Inv X pins σ H s):X.s₀.heap.objs.size≤s.heap.objs.size:=Qm I.ok.above (QY I.lt)
theorem Inv.nofs (I:Inv X pins σ H s) {a:Addr} (h:s.heap.objs.size≤a):a∉X.fs:=fun hb=>by
 obtain ⟨_,o,ho,_⟩:=I.ok.funs.mem hb;exact absurd (QD (Qi ho) (Qm I.sz h)) (Rh _)
theorem Inv.cne (I:Inv X pins σ H s):∀x c,X.env.cells.lookup x=some c->c≠X.env.locals:=fun x c e z=>by
 obtain ⟨v,o,ho,hd⟩:=I.cell x c e;obtain ⟨m,⟨o',es,ep,ho',hd',_⟩,_⟩:=I.loc;rw [z,ho'] at ho;cases ho;rw [hd'] at hd;cases hd
theorem Inv.funs (I:Inv X pins σ H s):s.heap.FunFrames X.base X.outer:=by
 have all:∀(l:List Env),(∀b∈YJ l,b∈X.fs)->X.s₀.heap.FunFrames X.base l->s.heap.FunFrames X.base l:=by
  intro l
  induction l with
  |nil=>intro _ _;trivial
  |cons env r ih =>
   intro hs hl;obtain ⟨hk,⟨L,o,hf,hn,ho,hd⟩,hr⟩:=hl;have hL:L∈X.fs:=hs L (by unfold YJ;rw [QW,hf];exact QA);obtain ⟨sl,e⟩:=I.base.slot L o ho (I.ok.frf L hL) hL fun z=>I.ok.exfs L z hL;exact ⟨hk,⟨L,_,hf,hn,e,hd⟩,ih (fun b hb=>hs b (by unfold YJ;rw [QW,hf];exact Qy _ hb)) hr⟩
 exact all X.outer (fun _ hb=>hb) I.ok.funs
theorem Inv.stack (I:Inv X pins σ H s):s.heap.FunFrames X.base X.stack:=by
 rcases I.ok.stk with e|⟨e,hf⟩
 ·rw [e];exact I.funs
 ·rw [e];obtain ⟨m,hn,_⟩:=I.loc;refine .cons (by rw [I.ok.kind];decide) hf hn ?_ I.funs;exact Heap.get?_none_of_le (Qm I.ok.bsz I.ok.above)
theorem Inv.stkSub (I:Inv X pins σ H s):∀b∈YJ X.stack,b∈X.env.locals::X.fs:=fun b hb=>by
 rcases I.ok.stk with e|⟨e,hf⟩
 ·rw [e] at hb;exact Qy _ hb
 ·rw [e] at hb;unfold YJ at hb;rw [QW,hf] at hb;exact hb
theorem Inv.stkFree (I:Inv X pins σ H s):∀b∈YJ X.stack,H b=none:=fun b hb=>by
 rcases Qh.mp (I.stkSub b hb) with e|hb
 ·rw [e];exact I.free
 ·obtain ⟨_,o,ho,_⟩:=I.ok.funs.mem hb;exact I.base.free b o ho (I.ok.frf b hb) fun z=>I.ok.exfs b z hb
theorem Inv.step {g':Array GenState} {t':Nat} {d':Drawn} {ch:List Addr} (I:Inv X pins σ H s)
  (hch:∀b∈ch,(b∈X.ex∨X.s₀.heap.objs.size≤b)∧b≠X.env.locals∧(∀x c,X.env.cells.lookup x=some c->c≠b)∧∀p∈X.pn++pins,p.1≠b)
  (keep:∀b o,b≠X.env.locals->b∉X.fs->b∉ch->s.heap.get? b=some o->H b=none->h'.get? b=some o)
  (slot:∀b o,b≠X.env.locals->b∈X.fs->b∉ch->s.heap.get? b=some o->H b=none->∃sl,h'.get? b=some { o with slots:=sl }) (free:∀b o,b∉ch->s.heap.get? b=some o->H b=none->H' b=none)
  (there:∀b o,b∉ch->s.heap.get? b=some o->∃o',h'.get? b=some o')
  (tups:∀b xs,H b=some (.tup xs)->H' b=some (.tup xs)) (frzs:∀b o u,H b=some (.frz o u)->H' b=some (.frz o u)) (tbls:∀b ps,H b=some (.tbl ps)->∃more,H' b=some (.tbl (ps++more)))
  (ns:∀m,s.heap.Ns X.env.locals m->h'.Ns X.env.locals m) (hok:HOk X.prog X.w H' h') (hg:AllBare g') :
  Inv X pins σ H' { s with heap:=h',gens:=g',drawn:=d',toks:=t' }:=by
 have neL:∀b o,X.s₀.heap.get? b=some o->b≠X.env.locals:=fun b o e=>Qw (QD (Qi e) I.ok.above)
 have neC:∀b o,X.s₀.heap.get? b=some o->b∉X.ex->b∉ch:=fun b o e hx hb=>by
  rcases (hch b hb).1 with z|z
  ·exact hx z
  ·exact absurd (QD (Qi e) z) (Rh _)
 have cellK:∀x c,X.env.cells.lookup x=some c->∀v,s.heap.IsCell c v->h'.IsCell c v:=fun x c e v ⟨o,ho,hd⟩=>by
  have nch:c∉ch:=fun z=>(hch c z).2.2.1 x c e rfl;by_cases hc:c∈X.fs
  ·obtain ⟨sl,q⟩:=slot c o (I.cne x c e) hc nch ho (I.freeC x c e);exact ⟨_,q,hd⟩
  ·exact ⟨o,keep c o (I.cne x c e) hc nch ho (I.freeC x c e),hd⟩
 refine ⟨I.ok,I.os,hg,⟨fun b o e n hb hx=>?_,fun b o e n hb hx=>?_,fun b o e n hx=>?_,fun b o e hx=>?_,fun b xs e=>tups b xs (I.base.tups b xs e),fun b o xs e=>frzs b o xs (I.base.frzs b o xs e),fun b ps e=>?_⟩,?_,fun x c e=>?_,?_,fun x c e=>?_,fun p hp=>?_,hok,I.len⟩
 ·exact keep b o (neL b o e) hb (neC b o e hx) (I.base.keep b o e n hb hx) (I.base.free b o e n hx)
 ·obtain ⟨sl,e1⟩:=I.base.slot b o e n hb hx;obtain ⟨sl',e2⟩:=slot b _ (neL b o e) hb (neC b o e hx) e1 (I.base.free b o e n hx);exact ⟨sl',e2⟩
 ·obtain ⟨o',e1⟩:=I.base.there b o e hx;exact free b o' (neC b o e hx) e1 (I.base.free b o e n hx)
 ·obtain ⟨o',e1⟩:=I.base.there b o e hx;exact there b o' (neC b o e hx) e1
 ·obtain ⟨m1,e1⟩:=I.base.tbls b ps e;obtain ⟨m2,e2⟩:=tbls b _ e1;exact ⟨m1++m2,by rw [e2,Array.append_assoc]⟩
 ·obtain ⟨m,hn,hl⟩:=I.loc;refine ⟨m,ns m hn,fun i x v e1 e2 e3=>?_⟩;obtain ⟨u,r,l⟩:=hl i x v e1 e2 e3;refine ⟨u,r,?_⟩;rcases l with l|⟨k,c,e,z⟩
  ·exact .inl l
  ·exact .inr ⟨k,c,e,cellK x c e _ z⟩
 ·obtain ⟨v,z⟩:=I.cell x c e;exact ⟨v,cellK x c e v z⟩
 ·obtain ⟨m,⟨o,_,_,ho,_⟩,_⟩:=I.loc;exact free _ o (fun z=>(hch _ z).2.1 rfl) ho I.free
 ·obtain ⟨v,o,ho,hd⟩:=I.cell x c e;exact free c o (fun z=>(hch c z).2.2.1 x c e rfl) ho (I.freeC x c e)
 ·obtain ⟨e,n,ne,nf,d⟩:=I.pin p hp;have nch:p.1∉ch:=fun z=>(hch p.1 z).2.2.2 p hp rfl;exact ⟨keep p.1 p.2 ne nf nch e n,free p.1 p.2 nch e n,ne,nf,d⟩
theorem Inv.un {t':Nat} (I:Inv X pins σ H s) (u:Un X.fs [] H H' s.heap h') (hok:HOk X.prog X.w H' h'):Inv X pins σ H' { s with heap:=h',toks:=t' }:=by
 obtain ⟨m,⟨o,es,ep,ho,r⟩,_⟩:=id I.loc;obtain ⟨sl,hL⟩:=u.any ho I.free (by simp)
 exact I.step (g':=s.gens) (d':=s.drawn) (ch:=[]) (fun _ z=>nomatch z) (fun b o _ hb _ e n=>u.keep b o e n hb (by simp)) (fun b o _ hb _ e n=>u.slot b o e n hb (by simp)) (fun b o _ e n=>u.free b o e n (by simp)) (fun b o _ e=>u.there b o e (by simp)) u.tups u.frzs u.tbls (fun m' hm=>by
  obtain ⟨o',es',ep',ho',r'⟩:=hm;rw [ho] at ho';cases ho';exact ⟨_,es',ep',hL,r'⟩) hok I.bare
theorem Inv.call {g':Array GenState} {t':Nat} {d':Drawn} {ch:List Addr} (I:Inv X pins σ H s) (u:Un (YJ X.stack) ch H H' s.heap h') (hok:HOk X.prog X.w H' h') (hg:AllBare g')
  (hch:∀b∈ch,(b∈X.ex∨X.s₀.heap.objs.size≤b)∧b≠X.env.locals∧(∀x c,X.env.cells.lookup x=some c->c≠b)∧∀p∈X.pn++pins,p.1≠b) :
  Inv X pins σ H' { s with heap:=h',gens:=g',drawn:=d',toks:=t' }:=by
 obtain ⟨m,⟨o,es,ep,ho,r⟩,_⟩:=id I.loc;obtain ⟨sl,hL⟩:=u.any ho I.free fun z=>(hch _ z).2.1 rfl
 exact I.step (ch:=ch) hch (fun b o hL hb hc e n=>u.keep b o e n (fun z=>(Qh.mp (I.stkSub b z)).elim hL hb) hc) (fun b o _ _ hc e n=>u.any e n hc) (fun b o hc e n=>u.free b o e n hc) (fun b o hc e=>u.there b o e hc) u.tups u.frzs u.tbls (fun m' hm=>by
  obtain ⟨o',es',ep',ho',r'⟩:=hm;rw [ho] at ho';cases ho';exact ⟨_,es',ep',hL,r'⟩) hok hg
theorem Inv.turned {t':Nat} {it:Addr} (I:Inv X pins σ H s) (k:∀b o,b≠it->s.heap.get? b=some o->h'.get? b=some o) (hn:H it=none) (hL:it≠X.env.locals)
  (h1:it∈X.ex∨X.s₀.heap.objs.size≤it) (h2:∀x c,X.env.cells.lookup x=some c->c≠it) (h3:∀p∈X.pn++pins,p.1≠it):Inv X pins σ H { s with heap:=h',toks:=t' }:=by
 have nit:∀b u,H b=some u->b≠it:=fun b u e z=>by rw [z,hn] at e;cases e
 refine I.step (g':=s.gens) (d':=s.drawn) (ch:=[it]) (fun b hb=>?_) (fun b o _ _ hc e _=>k b o (fun z=>hc (by simp [z])) e) (fun b o _ _ hc e _=>⟨o.slots,k b o (fun z=>hc (by simp [z])) e⟩) (fun _ _ _ _ n=>n)
  (fun b o hc e=>⟨o,k b o (fun z=>hc (by simp [z])) e⟩) (fun _ _ e=>e) (fun _ _ _ e=>e) (fun b ps e=>⟨#[],by rw [e];simp⟩) (fun m hm=>?_) (fun b u e=>?_) I.bare
 ·have e:b=it:=by simpa using hb
  subst e;exact ⟨h1,hL,h2,h3⟩
 ·obtain ⟨o,es,ep,ho,r⟩:=hm;exact ⟨o,es,ep,k _ o (QX hL) ho,r⟩
 ·refine (I.hok b u e).stay (fun c v hc q=>k c v ?_ q) (fun _ q=>q) fun _ _ q=>q;rcases hc with z|z
  ·rw [z];exact nit b u e
  ·exact nit c _ z
theorem Inv.tok (I:Inv X pins σ H s) (t:Nat):Inv X pins σ H { s with toks:=t }:=I.un (h':=s.heap) (t':=t) Un.refl I.hok
theorem Inv.kept {t':Nat} (I:Inv X pins σ H s) (k:∀b u,s.heap.get? b=some u->h'.get? b=some u):Inv X pins σ H { s with heap:=h',toks:=t' }:=I.un (Un.kept k) (I.hok.kept k)
theorem Inv.laid {a:Addr} {o:HO} {t':Nat} (I:Inv X pins σ H s) (k:∀b u,s.heap.get? b=some u->h'.get? b=some u) (hp:s.heap.objs.size≤a) (new:ObjOk X.prog X.w (Zb H a o) h' a o) :
  Inv X pins σ (Zb H a o) { s with heap:=h',toks:=t' }:=I.un (Un.laid k hp (I.hok.fresh hp)) (I.hok.laid k hp new)
theorem Inv.write {x e:Addr} {o:HO} {t':Nat} (I:Inv X pins σ H s) (mu:U9 (H x)) (he:e=x∨H e=some (.own x)) (k:∀b u,b≠e->s.heap.get? b=some u->h'.get? b=some u) (heo:∃u,h'.get? e=some u)
  (new:ObjOk X.prog X.w (Zb H x o) h' x o):Inv X pins σ (Zb H x o) { s with heap:=h',toks:=t' }:=I.un (Un.write mu he k heo) (I.hok.write mu he k heo new)
theorem Inv.pins_of {pins':List (Addr×Obj)} (I:Inv X pins σ H s) (h:∀p∈pins',s.heap.get? p.1=some p.2∧H p.1=none∧p.1≠X.env.locals∧p.1∉X.fs∧∀v,p.2.data≠.cell v):Inv X pins' σ H s :=
 ⟨I.ok,I.os,I.bare,I.base,I.loc,I.cell,I.free,I.freeC,fun p hp=>(Qn.mp hp).elim (fun z=>I.pin p (Q9 _ z)) (h p),I.hok,I.len⟩
theorem Zgi {N:List Str} (hN:N.Nodup) {i j:Nat} {x:Str} (a:N[i]?=some x) (b:N[j]?=some x):i=j:=by
 obtain ⟨h1,e1⟩:=QF.mp a;obtain ⟨h2,e2⟩:=QF.mp b;exact (Gr hN).mp (e1.trans e2.symm)
theorem Zgy {M:Model} {A:Around} {E:Value->Shared->Prop} {i:Nat} {x:Str} {v:V} {u:Value} {Q:Unit->Shared->Prop} (I:Inv X pins σ H s) (hN:X.N.Nodup) (hi:X.N[i]?=some x) (hx:Jr X.env.scope x) (r:RelV v u)
  (h:∀s',Inv X pins (σ.set i (some v)) H s'->(∃a,Heap.SameBut a s.heap s'.heap∧(a=X.env.locals∨X.env.cells.lookup x=some a))->Q () s') (hf:X.fn x=true∨X.env.scope.names.lookup x=some .local:=by first|exact .inl rfl|exact .inr rfl|assumption):wpAny M A (storeName X.env x u) Q E s:=by
 obtain ⟨m,hn,hl⟩:=id I.loc;have hcls:(X.env.scope.kind==.class||(X.env.scope.kind==.module&&X.env.locals != X.env.globals))=false:=by rw [I.ok.kind];rfl
 have hiσ:i<σ.length:=by rw [I.len];exact (QF.mp hi).1
 have cne:=I.cne
 have tracked:∀{a:Addr} {h':Heap},(∃o,s.heap.get? a=some o∧H a=none)->Heap.SameBut a s.heap h'->HOk X.prog X.w H h':=fun {a h'} ha hs b ob e=>by
  obtain ⟨_,_,hfree⟩:=ha;refine (I.hok b ob e).stay (fun c w' hc q=>(hs.2 c ?_).trans q) (fun _ q=>q) fun _ _ q=>q;rintro rfl;rcases hc with rfl|hc
  ·rw [hfree] at e;cases e
  ·rw [hfree] at hc;cases hc
 rcases hx with hk|hk
 ·refine wpAny_storeName_local hk hn (fun h' hn' hs=>?_) hcls;obtain ⟨oL,_,_,hoL,_⟩:=id hn;refine h _ ⟨I.ok,I.os,I.bare,⟨fun b o e n hb hx=>?_,fun b o e n hb hx=>?_,I.base.free,fun b o e hx=>?_,I.base.tups,I.base.frzs,I.base.tbls⟩,⟨_,hn',fun j y v' e1 e2 e3=>?_⟩,fun y c e=>?_,I.free,I.freeC,fun p hp=>?_,tracked ⟨oL,hoL,I.free⟩ hs,by simpa using I.len⟩ ⟨_,hs,.inl rfl⟩
  ·exact (hs.2 b (Qw (QD (Qi e) I.ok.above))).trans (I.base.keep b o e n hb hx)
  ·obtain ⟨sl,e1⟩:=I.base.slot b o e n hb hx;exact ⟨sl,(hs.2 b (Qw (QD (Qi e) I.ok.above))).trans e1⟩
  ·obtain ⟨o',e1⟩:=I.base.there b o e hx;exact ⟨o',(hs.2 b (Qw (QD (Qi e) I.ok.above))).trans e1⟩
  ·by_cases hj:j=i
   ·subst hj;rw [hi] at e1;cases e1;rw [List.getElem?_set_self hiσ] at e2;cases e2;exact ⟨u,r,.inl ⟨hk,by simp⟩⟩
   ·rw [List.getElem?_set_ne (QX hj)] at e2;obtain ⟨u',r',q⟩:=hl j y v' e1 e2 e3;refine ⟨u',r',?_⟩;rcases q with ⟨k,e⟩|⟨k,c,e,z⟩
    ·refine .inl ⟨k,?_⟩;have:y≠x:=fun e=>hj (Zgi hN e1 (e▸hi));simp [this,e]
    ·exact .inr ⟨k,c,e,z.sameBut hs (cne y c e)⟩
  ·obtain ⟨w',z⟩:=I.cell y c e;exact ⟨w',z.sameBut hs (cne y c e)⟩
  ·obtain ⟨e,n,ne,nf,d⟩:=I.pin p hp;exact ⟨(hs.2 p.1 ne).trans e,n,ne,nf,d⟩
 ·have hfn:X.fn x=true:=by
   rcases hf with z|z
   ·exact z
   ·rw [z] at hk;cases hk
  obtain ⟨c,hc⟩:=I.ok.has x (.inl hk);obtain ⟨w',z⟩:=I.cell x c hc;refine wpAny_storeName_cell I.ok.kind hk hc z (fun h' hc' hs=>?_);obtain ⟨oc,hoc,hocd⟩:=id z;refine h { s with heap:=h' } ⟨I.ok,I.os,I.bare,⟨fun b o e n hb hx=>?_,fun b o e n hb hx=>?_,I.base.free,fun b o e hx=>?_,I.base.tups,I.base.frzs,I.base.tbls⟩,⟨m,hn.sameBut hs (QX (cne x c hc)),fun j y v' e1 e2 e3=>?_⟩,fun y c' e=>?_,I.free,I.freeC,fun p hp=>?_,tracked ⟨oc,hoc,I.freeC x c hc⟩ hs,by simpa using I.len⟩ ⟨c,hs,.inr hc⟩
  ·exact (hs.2 b (Qw (QD (Qi e) (I.ok.cab x c hfn hc)))).trans (I.base.keep b o e n hb hx)
  ·obtain ⟨sl,e1⟩:=I.base.slot b o e n hb hx;exact ⟨sl,(hs.2 b (Qw (QD (Qi e) (I.ok.cab x c hfn hc)))).trans e1⟩
  ·obtain ⟨o',e1⟩:=I.base.there b o e hx;exact ⟨o',(hs.2 b (Qw (QD (Qi e) (I.ok.cab x c hfn hc)))).trans e1⟩
  ·by_cases hj:j=i
   ·subst hj;rw [hi] at e1;cases e1;rw [List.getElem?_set_self hiσ] at e2;cases e2;exact ⟨u,r,.inr ⟨.inl hk,c,hc,hc'⟩⟩
   ·rw [List.getElem?_set_ne (QX hj)] at e2;obtain ⟨u',r',q⟩:=hl j y v' e1 e2 e3;refine ⟨u',r',?_⟩;rcases q with q|⟨k,c',e,z'⟩
    ·exact .inl q
    ·refine .inr ⟨k,c',e,z'.sameBut hs ?_⟩;rintro rfl;exact hj (Zgi hN e1 (I.ok.inj _ _ _ e hc▸hi))
  ·by_cases hcc:c'=c
   ·subst hcc;exact ⟨_,hc'⟩
   ·obtain ⟨w2,z2⟩:=I.cell y c' e;exact ⟨w2,z2.sameBut hs hcc⟩
  ·obtain ⟨e,n,ne,nf,d⟩:=I.pin p hp;refine ⟨(hs.2 p.1 ?_).trans e,n,ne,nf,d⟩;intro q;rw [q,hoc] at e;have q':oc=p.2:=Qt e;exact d w' (by rw [←q'];exact hocd)
theorem ZaG {M:Model} {A:Around} {E:Value->Shared->Prop} {i:Nat} {x:Str} {v:V} {u:Value} {Q:Unit->Shared->Prop} (I:Inv X pins σ H s) (hN:X.N.Nodup) (hi:X.N[i]?=some x) (hx:Jr X.env.scope x) (r:RelV v u)
  (h:∀s',Inv X pins (σ.set i (some v)) H s'->Q () s') (hf:X.fn x=true∨X.env.scope.names.lookup x=some .local:=by first|exact .inl rfl|exact .inr rfl|assumption):wpAny M A (storeName X.env x u) Q E s :=
 Zgy I hN hi hx r (fun s' I' _=>h s' I') hf
theorem Inv.call' {s':Shared} {ch:List Addr} (I:Inv X pins σ H s) (ho:s'.os=s.os) (u:Un (YJ X.stack) ch H H' s.heap s'.heap) (hok:HOk X.prog X.w H' s'.heap) (hg:AllBare s'.gens)
  (hch:∀b∈ch,(b∈X.ex∨X.s₀.heap.objs.size≤b)∧b≠X.env.locals∧(∀x c,X.env.cells.lookup x=some c->c≠b)∧∀p∈X.pn++pins,p.1≠b):Inv X pins σ H' s':=by
 obtain ⟨h',g',d',t',o'⟩:=s';have e:o'=s.os:=ho;subst e;exact I.call (g':=g') (t':=t') (d':=d') u hok hg hch
end
abbrev XK:=Value->Option Addr->Hp->Prop
abbrev St:=List (Option V)
abbrev VK:=V->Hp->Prop
abbrev TE:=St->Hp->VK->Prop
abbrev TT:=St->Hp->(Bool->Hp->Prop)->Prop
abbrev TA:=St->Hp->(List V->Hp->Prop)->Prop
structure Ends where
 nx:St->Hp->Prop
 rt:VK
 bk:St->Hp->Prop:=fun _ _=>False
 ct:St->Hp->Prop:=fun _ _=>False
abbrev TS:=Ends->St->Hp->Prop
def EP (X:Cx) (pins:List (Addr×Obj)) (σ:St) (Q:VK) (u:Value) (s':Shared):Prop:=∃v H',Inv X pins σ H' s'∧RelV v u∧Q v H'
def TP (X:Cx) (pins:List (Addr×Obj)) (σ:St) (Q:Bool->Hp->Prop) (b:Bool) (s':Shared):Prop:=∃H',Inv X pins σ H' s'∧Q b H'
def AP (X:Cx) (pins:List (Addr×Obj)) (σ:St) (Q:List V->Hp->Prop) (us:List Value) (s':Shared):Prop:=∃vs H',Inv X pins σ H' s'∧Vals vs us∧Q vs H'
def SP (X:Cx) (pins:List (Addr×Obj)) (D:Ends) (f:Flow) (s':Shared):Prop :=
 match f with
 |.next=>∃σ' H',Inv X pins σ' H' s'∧D.nx σ' H'
 |.brk=>∃σ' H',Inv X pins σ' H' s'∧D.bk σ' H'
 |.cont=>∃σ' H',Inv X pins σ' H' s'∧D.ct σ' H'
 |.ret u=>∃v σ' H',Inv X pins σ' H' s'∧RelV v u∧D.rt v H'
def PE (X:Cx) (e:Expr) (t:TE):Prop :=
 ∀(pins:List (Addr×Obj)) (s:Shared) (σ:St) (H:Hp) (Q:VK),Inv X pins σ H s->t σ H Q->wpAny (model X.prog X.w) X.A (eval e X.env) (EP X pins σ Q) X.xe s
def PT (X:Cx) (e:Expr) (t:TT):Prop :=
 ∀(pins:List (Addr×Obj)) (s:Shared) (σ:St) (H:Hp) (Q:Bool->Hp->Prop),Inv X pins σ H s->t σ H Q->wpAny (model X.prog X.w) X.A (isTrue e X.env (eval e X.env)) (TP X pins σ Q) X.xe s
def PW (X:Cx) (e:Expr) (t:TT):Prop :=
 ∀(whole:Sem Value) (pins:List (Addr×Obj)) (s:Shared) (σ:St) (H:Hp) (Q:Bool->Hp->Prop),Inv X pins σ H s->t σ H Q->wpAny (model X.prog X.w) X.A (isTrue e X.env whole) (TP X pins σ Q) X.xe s
theorem PW.pt {X:Cx} {e:Expr} {t:TT} (h:PW X e t):PT X e t:=h _
def PA (X:Cx) (es:List Expr) (t:TA):Prop :=
 ∀(pos:Pos) (pins:List (Addr×Obj)) (s:Shared) (σ:St) (H:Hp) (Q:List V->Hp->Prop),Inv X pins σ H s->t σ H Q->wpAny (model X.prog X.w) X.A (spliced (backTo pos (starEach es X.env))) (AP X pins σ Q) X.xe s
def PS (X:Cx) (st:Stmt) (t:TS):Prop :=
 ∀(pins:List (Addr×Obj)) (s:Shared) (σ:St) (H:Hp) (D:Ends),Inv X pins σ H s->t D σ H->wpAny (model X.prog X.w) X.A (exec st X.env) (SP X pins D) X.xe s
def PSs (X:Cx) (st:List Stmt) (t:TS):Prop :=
 ∀(pins:List (Addr×Obj)) (s:Shared) (σ:St) (H:Hp) (D:Ends),Inv X pins σ H s->t D σ H->wpAny (model X.prog X.w) X.A (execs st X.env) (SP X pins D) X.xe s
theorem Zo {α:Type} {t:Sem α} {Q Q':α->Shared->Prop} {M:Model} {A:Around} {E:Value->Shared->Prop} {s:Shared} (h:wpAny M A t Q E s) (hQ:∀a s,Q a s->Q' a s):wpAny M A t Q' E s:=Q5 h hQ fun _ _ x=>x
section
variable {X:Cx}
def Xo (i:Nat):TE:=fun σ H Q=>∃v,σ[i]?=some (some v)∧Q v H
def tC (v:V):TE:=fun _ H Q=>Q v H
theorem ZgQ {i:Nat} {x:Str} {pos:Pos} (hN:X.N[i]?=some x) (hv:Vis X.env.scope x) (hd:(x==("__debug__" : Str))=false:=by decide) (hcd:(x==("__classdict__" : Str))=false:=by decide):PE X (.Name x pos) (Xo i):=by
 intro pins s σ H Q I h;obtain ⟨v,e,h⟩:=h;obtain ⟨m,hn,hl⟩:=I.loc;obtain ⟨u,r,l⟩:=hl i x v hN e hv;have fin:EP X pins σ Q u s:=⟨v,H,I,r,h⟩;rcases l with ⟨hk,hm⟩|⟨hk,c,hc,hcell⟩
 ·exact wpAny_Name (wpAny_loadName_local I.ok.kind hk hn hm fin) hd
 ·rcases hk with hk|hk
  ·exact wpAny_Name (wpAny_loadName_cell I.ok.kind hk hc hcell fin) hd
  ·exact wpAny_Name (wpAny_loadName_free I.ok.kind hk hc hcell fin hcd) hd
theorem Ze {i j pos}:PE X (.Constant (.int i) j pos) (tC (.int i)):=fun _ _ _ H _ I h=>wpAny_Constant_int ⟨.int i,H,I.tok _,⟨_,rfl⟩,h⟩
theorem YW {b j pos}:PE X (.Constant (.bool b) j pos) (tC (.bl b)):=fun _ _ _ H _ I h=>Constant_bool ⟨.bl b,H,I,rfl,h⟩
theorem J6 {j pos}:PE X (.Constant .none j pos) (tC .non):=fun _ _ _ H _ I h=>Constant_none ⟨.non,H,I,rfl,h⟩
theorem Zs {x j pos}:PE X (.Constant (.str x) j pos) (tC (.str x)):=fun _ _ _ H _ I h=>Calls.Constant_str ⟨.str x,H,I.tok _,⟨_,rfl⟩,h⟩
def Gl (X:Cx) (x:Str):Prop:=X.env.kindOf x=some .globalImplicit
theorem Jo {E:Value->Shared->Prop} {pins:List (Addr×Obj)} {s:Shared} {σ:St} {H:Hp} {x:Str} {u:Value} {pos:Pos} {Q:Value->Shared->Prop} (I:Inv X pins σ H s) (hg:Gl X x) (hm:X.mg x=some u) (h:Q u s)
  (hd:(x==("__debug__" : Str))=false:=by decide):wpAny (model X.prog X.w) X.A (eval (.Name x pos) X.env) Q E s :=
 Calls.Name_function_global I.ok.kind hg (Calls.loadGlobal_global (by rw [I.ok.glob];exact I.mod.glob.keeps I.bk) hm h) hd
theorem UD {E:Value->Shared->Prop} {pins:List (Addr×Obj)} {s:Shared} {σ:St} {H:Hp} {x:Str} {u:Value} {pos:Pos} {Q:Value->Shared->Prop} (I:Inv X pins σ H s) (hg:Gl X x) (hm:X.mg x=none) (hv:bootBuiltins x=some u) (h:Q u s)
  (hn:x≠"__name__":=by decide) (hd:(x==("__debug__" : Str))=false:=by decide):wpAny (model X.prog X.w) X.A (eval (.Name x pos) X.env) Q E s:=by
 obtain ⟨mb,h1,h2⟩:=I.mod.blt;exact Calls.Name_function_global I.ok.kind hg (Calls.loadGlobal_builtin (by rw [I.ok.glob];exact I.mod.glob.keeps I.bk) hm (by rw [I.ok.blt];exact h1.keeps I.bk) ((h2 x hn).trans hv) h) hd
theorem VG {x:Str} {v:V} {u:Value} {pos:Pos} (hg:Gl X x) (hm:X.mg x=some u) (r:RelV v u) (hd:(x==("__debug__" : Str))=false:=by decide):PE X (.Name x pos) (tC v) :=
 fun _ _ _ H _ I h=>Jo I hg hm ⟨v,H,I,r,h⟩ hd
theorem Xv {x:Str} {v:V} {u:Value} {pos:Pos} (hg:Gl X x) (hm:X.mg x=none) (hv:bootBuiltins x=some u) (r:RelV v u) (hn:x≠"__name__":=by decide) (hd:(x==("__debug__" : Str))=false:=by decide):PE X (.Name x pos) (tC v) :=
 fun _ _ _ H _ I h=>UD I hg hm hv ⟨v,H,I,r,h⟩ hn hd
variable {a b:Expr} {ta tb:TE} {pos:Pos}
def PC (X:Cx) (op:CmpOp) (a b:Expr) (t:TE):Prop :=
 ∀(pins:List (Addr×Obj)) (s:Shared) (σ:St) (H:Hp) (Q:VK),Inv X pins σ H s->t σ H Q →
  wpAny (model X.prog X.w) X.A (eval a X.env) (fun v s₁=>wpAny (model X.prog X.w) X.A (eval b X.env) (fun u s₂=>wpAny (model X.prog X.w) X.A (compareOp op v u) (EP X pins σ Q) X.xe s₂) X.xe s₁) X.xe s
def tB (t:TE):TT:=fun σ H Q=>t σ H fun x H1=>∃c,x=.bl c∧Q c H1
theorem Zak {op:CmpOp} {t:TE} (h:PC X op a b t) (h1:behindInMarks op b=false:=by first|exact nobehind _ (by decide) (by decide)|rfl):PT X (.Compare a [op] [b] pos) (tB t):=by
 intro pins s σ H Q I hw;refine wpAny_isTrue_Compare1 (Zo (h pins s σ H _ I hw) fun v s1 h1=>Zo h1 fun u s2 h2=>Zo h2 fun c s3 ⟨x,H1,I1,r1,q1⟩=>?_) h1;obtain ⟨d,rfl,q⟩:=q1;cases r1;exact Rx ⟨H1,I1,q⟩
theorem YX {e:Expr} {t:TE} (h:PE X e t) (he:∀whole,isTrue e X.env whole=(do let v ←whole;standAt e.pos;holding [v] (truthy v)):=by intro _;rfl):PT X e (tB t):=by
 intro pins s σ H Q I hw;refine isTrue_plain (Zo (h pins s σ H _ I hw) fun v s1 ⟨x,H1,I1,r1,q1⟩=>?_) (he _);obtain ⟨d,rfl,q⟩:=q1;cases r1;exact Rx ⟨H1,I1,q⟩
variable {tA tB':TT} {rest:List Expr}
def ZiQ (t u:TT):TT:=fun σ H Q=>t σ H fun c H1=>if c=true then u σ H1 Q else Q false H1
def tOr (t u:TT):TT:=fun σ H Q=>t σ H fun c H1=>if c=true then Q true H1 else u σ H1 Q
def ZiS (t:TT):TT:=fun σ H Q=>t σ H fun c H1=>Q (!c) H1
theorem VP (ha:PT X a tA):PW X (.BoolOp .And [a] pos) tA:=by
 intro wh pins s σ H Q I h;refine isTrue_and (Zo (ha pins s σ H Q I h) fun c s1 e=>?_);cases c with
 |true=>exact isTrue_and_nil e
 |false=>exact e
theorem X0 (ha:PT X a tA):PW X (.BoolOp .Or [a] pos) tA:=by
 intro wh pins s σ H Q I h;refine isTrue_or (Zo (ha pins s σ H Q I h) fun c s1 e=>?_);cases c with
 |false=>exact isTrue_or_nil e
 |true=>exact e
theorem Vj (ha:PT X a tA) (hb:PW X (.BoolOp .And (b::rest) pos) tB'):PW X (.BoolOp .And (a::b::rest) pos) (ZiQ tA tB'):=by
 intro wh pins s σ H Q I h;refine isTrue_and (Zo (ha pins s σ H _ I h) fun c s1 ⟨H1,I1,q1⟩=>?_);cases c with
 |true=>exact hb wh pins s1 σ H1 Q I1 q1
 |false=>exact ⟨H1,I1,q1⟩
theorem Xp (ha:PT X a tA) (hb:PW X (.BoolOp .Or (b::rest) pos) tB'):PW X (.BoolOp .Or (a::b::rest) pos) (tOr tA tB'):=by
 intro wh pins s σ H Q I h;refine isTrue_or (Zo (ha pins s σ H _ I h) fun c s1 ⟨H1,I1,q1⟩=>?_);cases c with
 |true=>exact ⟨H1,I1,q1⟩
 |false=>exact hb wh pins s1 σ H1 Q I1 q1
theorem Xc (ha:PT X a tA):PT X (.UnaryOp .Not a pos) (ZiS tA):=by
 intro pins s σ H Q I h;exact isTrue_not (ha pins s σ H (fun c H1=>Q (!c) H1) I h)
def Zk8 (ta tb:TE):TE:=fun σ H Q=>ta σ H fun x H1=>∃c,x=.bl c∧if c=true then tb σ H1 Q else Q (.bl false) H1
def Zh9 (ta tb:TE):TE:=fun σ H Q=>ta σ H fun x H1=>∃c,x=.bl c∧if c=true then Q (.bl true) H1 else tb σ H1 Q
def Zh5 (ta:TE):TE:=fun σ H Q=>ta σ H fun x H1=>∃c,x=.bl c∧Q (.bl (!c)) H1
theorem XC {op} {t:TE} (h:PE X a t):PE X (.BoolOp op [a] pos) t:=fun pins s σ H Q I hw=>BoolOp_one (h pins s σ H Q I hw)
theorem XO (ha:PE X a ta) (hb:PE X (.BoolOp .And (b::rest) pos) tb):PE X (.BoolOp .And (a::b::rest) pos) (Zk8 ta tb):=by
 intro pins s σ H Q I h;refine BoolOp_and (Zo (ha pins s σ H _ I h) fun v s1 ⟨x,H1,I1,r1,q1⟩=>?_);obtain ⟨c,rfl,q1⟩:=q1;cases r1;refine Rx ?_;cases c with
 |true=>exact hb pins s1 σ H1 Q I1 q1
 |false=>exact ⟨.bl false,H1,I1,rfl,q1⟩
theorem Zf9 (ha:PE X a ta) (hb:PE X (.BoolOp .Or (b::rest) pos) tb):PE X (.BoolOp .Or (a::b::rest) pos) (Zh9 ta tb):=by
 intro pins s σ H Q I h;refine BoolOp_or (Zo (ha pins s σ H _ I h) fun v s1 ⟨x,H1,I1,r1,q1⟩=>?_);obtain ⟨c,rfl,q1⟩:=q1;cases r1;refine Rx ?_;cases c with
 |false=>exact hb pins s1 σ H1 Q I1 q1
 |true=>exact ⟨.bl true,H1,I1,rfl,q1⟩
theorem Zmb (ha:PE X a ta):PE X (.UnaryOp .Not a pos) (Zh5 ta):=by
 intro pins s σ H Q I h;refine UnaryOp_ (Zo (ha pins s σ H _ I h) fun v s1 ⟨x,H1,I1,r1,q1⟩=>?_);obtain ⟨c,rfl,q1⟩:=q1;cases r1;exact not_of (Rx ⟨.bl (!c),H1,I1,rfl,q1⟩)
def tIf (t:TT) (ta tb:TE):TE:=fun σ H Q=>t σ H fun c H1=>if c=true then ta σ H1 Q else tb σ H1 Q
theorem ZjI {c:Expr} (hc:PT X c tA) (ha:PE X a ta) (hb:PE X b tb):PE X (.IfExp c a b pos) (tIf tA ta tb):=by
 intro pins s σ H Q I h;refine wpAny_IfExp (Zo (hc pins s σ H _ I h) fun d s1 ⟨H1,I1,q1⟩=>?_);cases d with
 |true=>exact ha pins s1 σ H1 Q I1 q1
 |false=>exact hb pins s1 σ H1 Q I1 q1
end
def SqL (K:W.Frag) (H:Hp) (a:Addr) (xs:List V):Prop :=
 Rd H a (.lst xs) ∨
  ∃(o:Obj) (its:Array Value) (n:Nat),K.lookup a=some o∧o.cls=.type "list"∧o.dict=none∧o.data=.seq its n∧its.size≤sizeLine∧Vals xs its.toList
def SqT (K:W.Frag) (H:Hp) (a:Addr) (xs:List V):Prop :=
 Rd H a (.tup xs) ∨
  ∃(o:Obj) (its:Array Value) (n:Nat),K.lookup a=some o∧o.cls=.type "tuple"∧o.data=.seq its n∧its.size≤sizeLine∧Vals xs its.toList
noncomputable def Zmk:Value->Option V
 |.none=>some .non
 |.bool b=>some (.bl b)
 |.int i _=>some (.int i)
 |.str x _=>some (.str x)
 |.bytes b _=>some (.byt b)
 |.float b _=>some (.flt b)
 |.ref a=>some (.ref a)
 |.type n=>some (.ty n)
 |_=>none
theorem RelV.abs {x:V} {u:Value} (r:RelV x u):Zmk u=some x:=by
 cases x with
 |non=>cases r;rfl
 |bl _=>cases r;rfl
 |int _=>obtain ⟨t,rfl⟩:=r;rfl
 |str _=>obtain ⟨t,rfl⟩:=r;rfl
 |byt _=>obtain ⟨t,rfl⟩:=r;rfl
 |flt _=>obtain ⟨t,rfl⟩:=r;rfl
 |ref _=>cases r;rfl
 |ty _=>cases r;rfl
theorem RelV.inj {x y:V} {u:Value} (r:RelV x u) (q:RelV y u):x=y:=Qt (r.abs.symm.trans q.abs)
theorem Vals.inj:∀{xs ys:List V} {us:List Value},Vals xs us->Vals ys us->xs=ys
 |_,_,_,.nil,.nil=>rfl
 |_,_,_,.cons r t,.cons r' t'=>by rw [r.inj r',Vals.inj t t']
section
variable {X:Cx} {pins:List (Addr×Obj)} {σ:St} {H:Hp} {s:Shared} {a:Addr} {xs ys:List V}
theorem SqL.of {K:W.Frag} (h:H a=some (.lst xs)):SqL K H a xs:=.inl (.inl h)
theorem SqT.of {K:W.Frag} (h:H a=some (.tup xs)):SqT K H a xs:=.inl (.inl h)
theorem Inv.list (I:Inv X pins σ H s) (h:SqL X.K H a xs):∃its:List Value,Vals xs its∧PlainL s.heap a its.toArray∧xs.length≤sizeLine:=by
 rcases h with h|⟨o,its,n,hk,hc,hd,hs,hz,r⟩
 ·obtain ⟨z,its,n,r,e⟩:=h.ok I.hok;exact ⟨its,r,⟨_,n,e,rfl,rfl,rfl⟩,z⟩
 ·refine ⟨its.toList,r,⟨o,n,I.kIn a o hk,hc,hd,by simpa using hs⟩,?_⟩;have e:=r.length;simp only [RI] at e;omega
theorem Inv.tuple (I:Inv X pins σ H s) (h:SqT X.K H a xs):∃its:List Value,Vals xs its∧IsTup s.heap a its.toArray∧xs.length≤sizeLine:=by
 rcases h with h|⟨o,its,n,hk,hc,hs,hz,r⟩
 ·obtain ⟨z,its,r,p⟩:=h.ok I.hok;exact ⟨its,r,p,z⟩
 ·refine ⟨its.toList,r,⟨o,I.kIn a o hk,hc,n,by simpa using hs⟩,?_⟩;have e:=r.length;simp only [RI] at e;omega
theorem Inv.list_inj (I:Inv X pins σ H s) (h:SqL X.K H a xs) (h':SqL X.K H a ys):xs=ys:=by
 obtain ⟨its,r,⟨o,n,e,_,_,d⟩,_⟩:=I.list h;obtain ⟨its',r',⟨o',n',e',_,_,d'⟩,_⟩:=I.list h';rw [e] at e';cases e';rw [d] at d';injection d' with d1 _;have:its=its':=by simpa using Qq Array.toList d1
 subst this;exact r.inj r'
theorem Inv.tuple_inj (I:Inv X pins σ H s) (h:SqT X.K H a xs) (h':SqT X.K H a ys):xs=ys:=by
 obtain ⟨its,r,⟨o,e,_,n,d⟩,_⟩:=I.tuple h;obtain ⟨its',r',⟨o',e',_,n',d'⟩,_⟩:=I.tuple h';rw [e] at e';cases e';rw [d] at d';injection d' with d1 _;have:its=its':=by simpa using Qq Array.toList d1
 subst this;exact r.inj r'
end
section
variable {X:Cx} {pins:List (Addr×Obj)} {σ:St} {H:Hp} {s:Shared} {E:Value->Shared->Prop}
end
section
variable {X:Cx} {st:Stmt} {rest:List Stmt} {t u:TS} {e:Expr} {te:TE} {pos:Pos}
def Zc7:TS:=fun D σ H=>D.nx σ H
def Zdc (t u:TS):TS:=fun D σ H=>t { D with nx:=u D } σ H
theorem ZK:PSs X [] Zc7:=fun _ _ σ H _ I h=>wpAny_execs_nil ⟨σ,H,I,h⟩
theorem Zj (h1:PS X st t) (h2:PSs X rest u):PSs X (st::rest) (Zdc t u):=by
 intro pins s σ H D I h;refine wpAny_execs_cons (Zo (h1 pins s σ H { D with nx:=u D } I h) fun f s1 q=>?_);cases f with
 |next =>
  obtain ⟨σ',H',I',q⟩:=q;exact h2 pins s1 σ' H' D I' q
 |ret v=>exact q
 |brk=>exact q
 |cont=>exact q
theorem Zk (h1:PS X st t):PSs X [st] t:=by
 intro pins s σ H D I h;refine wpAny_execs_cons (Zo (h1 pins s σ H D I h) fun f s1 q=>?_);cases f with
 |next=>exact wpAny_execs_nil q
 |ret v=>exact q
 |brk=>exact q
 |cont=>exact q
theorem Inv.quiet {pins:List (Addr×Obj)} {σ:St} {H:Hp} {s:Shared} (I:Inv X pins σ H s):interactive X.env=false:=by simp [interactive,I.ok.kind]
def ZhN (te:TE):TS:=fun D σ H=>te σ H fun _ H1=>D.nx σ H1
theorem Yr (he:PE X e te) (hs:swapsWith e none pos.line X.env=pure false:=by rfl):PS X (.Expr e pos) (ZhN te):=by
 intro pins s σ H D I h;exact wpAny_Expr_any (Zo (he pins s σ H _ I h) fun v s1 ⟨x,H1,I1,r1,q1⟩=>⟨σ,H1,I1,q1⟩) I.quiet hs
def Zku (te:TE):TS:=fun D σ H=>te σ H D.rt
theorem Zv (he:PE X e te):PS X (.Return (some e) pos) (Zku te):=by
 intro pins s σ H D I h;exact wpAny_Return_some (Zo (he pins s σ H _ I h) fun v s1 ⟨x,H1,I1,r1,q1⟩=>⟨x,σ,H1,I1,r1,q1⟩)
def Zjq (c:TT) (t u:TS):TS:=fun D σ H=>c σ H fun b H1=>if b=true then t D σ H1 else u D σ H1
theorem ZH {c:Expr} {a b:List Stmt} {tc:TT} (hc:PT X c tc) (ha:PSs X a t) (hb:PSs X b u):PS X (.If c a b pos) (Zjq tc t u):=by
 intro pins s σ H D I h;refine wpAny_If (Zo (hc pins s σ H _ I h) fun d s1 ⟨H1,I1,q1⟩=>?_);cases d with
 |true=>exact ha pins s1 σ H1 D I1 q1
 |false=>exact hb pins s1 σ H1 D I1 q1
end
abbrev TG:=V->St->Hp->(St->Hp->Prop)->Prop
abbrev Wk:=List V->St->Hp->(St->Hp->Prop)->Prop
def PG (X:Cx) (target:Expr) (t:TG):Prop :=
 ∀(pins:List (Addr×Obj)) (s:Shared) (σ:St) (H:Hp) (v:V) (u:Value) (Q:St->Hp->Prop),Inv X pins σ H s->RelV v u->t v σ H Q →
  wpAny (model X.prog X.w) X.A (assign target X.env u) (fun _ s'=>∃σ' H',Inv X pins σ' H' s'∧Q σ' H') X.xe s
def Ug (X:Cx) (ts:List Expr) (t:Wk):Prop :=
 ∀(pins:List (Addr×Obj)) (s:Shared) (σ:St) (H:Hp) (vs:List V) (us:List Value) (Q:St->Hp->Prop),Inv X pins σ H s->Vals vs us->t vs σ H Q →
  wpAny (model X.prog X.w) X.A (assignInOrder ((assignEach ts X.env).map (·.2)) us) (fun _ s'=>∃σ' H',Inv X pins σ' H' s'∧Q σ' H') X.xe s
section
variable {X:Cx} {pos:Pos}
def Z4 (i:Nat):TG:=fun v σ H Q=>Q (σ.set i (some v)) H
theorem ZY {i:Nat} {x:Str} (hN:X.N.Nodup) (hi:X.N[i]?=some x) (hx:Jr X.env.scope x) (hf:X.fn x=true∨X.env.scope.names.lookup x=some .local:=by first|exact .inl rfl|exact .inr rfl|assumption):PG X (.Name x pos) (Z4 i):=by
 intro pins s σ H v u Q I r h;exact wpAny_assign_Name (ZaG I hN hi hx r (fun s' I'=>⟨_,H,I',h⟩) hf)
noncomputable def Zou:Wk:=fun vs σ H Q=>vs=[]∧Q σ H
noncomputable def ZmB (t:TG) (u:Wk):Wk:=fun vs σ H Q=>∃v r,vs=v::r∧t v σ H fun σ' H'=>u r σ' H' Q
theorem UE:Ug X [] Zou:=by
 intro pins s σ H vs us Q I r h;obtain ⟨e,h⟩:=h;subst e;cases r;exact assignInOrder_nil ⟨σ,H,I,h⟩
theorem XQ {e:Expr} {es:List Expr} {t:TG} {u:Wk} (h1:PG X e t) (h2:Ug X es u)
  (hs:(assignEach (e::es) X.env).map (·.2)=assign e X.env::(assignEach es X.env).map (·.2):=by rfl):Ug X (e::es) (ZmB t u):=by
 intro pins s σ H vs us Q I r h;obtain ⟨v,vr,e1,h⟩:=h;subst e1;cases r with
 |cons r rr =>
  rw [hs];refine assignInOrder_cons (Zo (h1 pins s σ H _ _ _ I r h) fun _ s1 ⟨σ1,H1,I1,q1⟩=>?_);exact h2 pins s1 σ1 H1 _ _ Q I1 rr q1
def Zd7 (K:W.Frag) (n:Nat) (t:Wk):TG:=fun v σ H Q=>∃a xs,v=.ref a∧SqT K H a xs∧xs.length=n∧t xs σ H Q
theorem Jl {es:List Expr} {k:Nat} {t:Wk} {n:Nat} (hc:X.calm=true) (h:Ug X es t)
  (hn:(assignEach es X.env).length=n:=by rfl) (hst:(assignEach es X.env).findIdx? (·.1)=none:=by rfl):PG X (.Tuple es k pos) (Zd7 X.K n t):=by
 intro pins s σ H v u Q I r hw;obtain ⟨a,xs,e1,hq,hl,hw⟩:=hw;subst e1;cases r;obtain ⟨its,rv,ht,hz⟩:=I.tuple hq;refine assign_Tuple_tuple (I.ok.hd hc) ht (by simp [hn,←hl,rv.length]) hst fun h' hx=>?_;have I1:Inv X pins σ H { s with heap:=h' }:=I.kept (t':=s.toks) fun b o e=>hx b o (Qw (Qi e)) e;exact h pins _ σ H xs _ Q I1 (by simpa using rv) hw
def JX (te:TE) (g:TG):TS:=fun D σ H=>te σ H fun x H1=>g x σ H1 D.nx
theorem Zlj {tg e:Expr} {te:TE} {g:TG} (he:PE X e te) (hg:PG X tg g) (hs:swapsWithSole [tg] e pos.line X.env=pure false:=by rfl) (hw:swappedStores [tg] e X.env=pure none:=by rfl)
  (h1:(assignEach [tg] X.env).map (·.2)=[assign tg X.env]:=by rfl):PS X (.Assign [tg] e pos) (JX te g):=by
 intro pins s σ H D I h;refine wpAny_Assign_stores (Zo (he pins s σ H _ I h) fun v s1 ⟨x,H1,I1,r1,q1⟩=>?_) hs hw;rw [h1];exact Zo (hg pins s1 σ H1 x v _ I1 r1 q1) fun _ s2 q=>q
theorem ZF {i:Nat} {x:Str} {e:Expr} {te:TE} {pos':Pos} (hN:X.N.Nodup) (hi:X.N[i]?=some x) (hx:Jr X.env.scope x) (he:PE X e te) (hs:swapsWith e (some (.Name x pos')) pos.line X.env=pure false:=by rfl) (hf:X.fn x=true∨X.env.scope.names.lookup x=some .local:=by first|exact .inl rfl|exact .inr rfl|assumption) :
  PS X (.Assign [.Name x pos'] e pos) (JX te (Z4 i)):=by
 intro pins s σ H D I h;refine wpAny_Assign_Name (Zo (he pins s σ H _ I h) fun v s1 ⟨y,H1,I1,r1,q1⟩=>?_) hs;exact ZaG I1 hN hi hx r1 (fun s2 I2=>⟨_,H1,I2,q1⟩) hf
def Zkc (i j:Nat) (ta:TA):TS:=fun D σ H=>ta σ H fun vs H1=>∃v w,vs=[v,w]∧D.nx ((σ.set i (some v)).set j (some w)) H1
theorem ZnU {i j:Nat} {x y:Str} {a b:Expr} {ta:TA} {px py pt:Pos} {kt k2 pt2} (hc:X.calm=true) (hN:X.N.Nodup) (hi:X.N[i]?=some x) (hj:X.N[j]?=some y) (hij:i≠j)
  (hx:X.env.scope.names.lookup x=some .local) (hy:X.env.scope.names.lookup y=some .local) (ha:PA X [a,b] ta)
  (hw:swappedStores [.Tuple [.Name x px,.Name y py] kt pt] (.Tuple [a,b] k2 pt2) X.env=pure (some [x,y]))
  (hs:swapsWithSole [.Tuple [.Name x px,.Name y py] kt pt] (.Tuple [a,b] k2 pt2) pos.line X.env=pure false:=by rfl) :
  PS X (.Assign [.Tuple [.Name x px,.Name y py] kt pt] (.Tuple [a,b] k2 pt2) pos) (Zkc i j ta):=by
 intro pins s σ H D I h;rw [exec_Assign_arm];refine Qb (Gs ?_);rw [hs];refine Qb (Qe ?_);rw [Qa (by decide)];refine Qb (Tuple_ (Zo (ha _ pins s σ H _ I h) fun us s1 ⟨vs,H1,I1,r1,q1⟩=>?_));obtain ⟨v,w,e1,q1⟩:=q1;subst e1
 obtain ⟨u1,u2,rfl,rv,rw'⟩:∃u1 u2,us=[u1,u2]∧RelV v u1∧RelV w u2:=by
  cases r1 with
  |cons p q =>
   cases q with
   |cons p' q' =>
    cases q';exact ⟨_,_,rfl,p,p'⟩
 refine Q8 ?_ (by show 2≤sizeLine;decide);have I2:Inv X pins σ H1 { s1 with heap:=s1.heap.push { cls:=.type "tuple",data:=.seq [u1,u2].toArray } }:=I1.kept (t':=s1.toks) fun b o e=>Qj _ e;rw [hw];refine Qb (Qe ?_);show wpAny (model X.prog X.w) X.A (do rule "assign.swapped-stores";let items ←unpackItems (.ref s1.heap.objs.size) 2 none;assignInOrder [fun v=>bindName X.env y v,fun v=>bindName X.env x v] items.reverse;pure Flow.next) _ _ _;refine Qb (RP (Qb (unpackItems_tuple (items:=#[u1,u2]) (I.ok.hd hc) (IsTup.new s1.heap _) fun h' hx'=>?_)));have I3:=I2.kept (h':=h') (t':=s1.toks) fun b o e=>hx' b o (Qw (Qi e)) e;show wpAny _ _ (assignInOrder [fun v=>bindName X.env y v,fun v=>bindName X.env x v] [u2,u1] >>= fun _=>pure Flow.next) _ _ _;refine Qb (assignInOrder_cons (wpAny_bindName (ZaG I3 hN hj (.inl hy) rw' (fun s2 I4=>?_) (.inr hy))));refine assignInOrder_cons (wpAny_bindName (ZaG I4 hN hi (.inl hx) rv (fun s3 I5=>assignInOrder_nil (Qe ?_)) (.inr hx)));rw [List.set_comm _ _ (QX hij)] at I5;exact ⟨_,H1,I5,q1⟩
end
section
variable {X:Cx} {pos:Pos}
end
structure It where
 go:Nat->Hp->Prop
 yld:Nat->Hp->V->Hp->Prop
 stop:Nat->Hp->Prop
def XM (X:Cx) (pins:List (Addr×Obj)) (H:Hp) (b:Addr):Prop :=
 H b=none∧b≠X.env.locals∧b∉X.fs∧(b∈X.ex∨X.s₀.heap.objs.size≤b)∧(∀x c,X.env.cells.lookup x=some c->c≠b)∧∀p∈X.pn++pins,p.1≠b
theorem Inv.fpOk {X:Cx} {pins:List (Addr×Obj)} {σ:St} {H H':Hp} {s:Shared} {b:Addr} (I:Inv X pins σ H s) (hb:s.heap.objs.size≤b) (hn:H' b=none):XM X pins H' b:=by
 refine ⟨hn,Ry (QD I.lt hb),I.nofs hb,.inr (Qm I.sz hb),fun x c e z=>?_,fun p hp z=>?_⟩
 ·obtain ⟨v,q⟩:=I.cell x c e;exact absurd (QD q.lt (by rw [z];exact hb)) (Rh _)
 ·exact absurd (QD (Qi (I.pin p hp).1) (by rw [z];exact hb)) (Rh _)
structure Turn (P:Program) (w:World) (K:W.Frag) (tg:Expr) (J:It) (fp:List Addr) (it:Addr) (tn:Nat->Heap->Prop):Prop where
 mem:it∈fp
 obj:∀i h,tn i h->∀b∈fp,∃o,h.get? b=some o∧∀v,o.data≠.cell v
 keep:∀i h h',tn i h->(∀b∈fp,∀o,h.get? b=some o->h'.get? b=some o)->tn i h'
 item:∀(X:Cx),X.prog=P->X.w=w->X.K=K->X.calm=true->∀(i:Nat) (pins:List (Addr×Obj)) (s:Shared) (σ:St) (H:Hp) (E:Value->Shared->Prop),Inv X pins σ H s->(∀b∈fp,XM X pins H b)->tn i s.heap->J.go i H →
  wpAny (model P w) X.A (pyNext (.ref it)) (fun r s1=>∃u,r=some u ∧
   wpAny (model P w) X.A (letOwnedTupleGo tg (.ref it) u) (fun _ s2=>∃x H',Inv X pins σ H' s2∧RelV x u∧J.yld i H x H'∧tn (i+1) s2.heap∧∀b∈fp,H' b=none) E s1) E s
 done:∀(X:Cx),X.prog=P->X.w=w->X.K=K->X.calm=true->∀(i:Nat) (pins:List (Addr×Obj)) (s:Shared) (σ:St) (H:Hp) (E:Value->Shared->Prop),Inv X pins σ H s->(∀b∈fp,XM X pins H b)->tn i s.heap->J.stop i H →
  wpAny (model P w) X.A (pyNext (.ref it)) (fun r s1=>r=none∧Inv X pins σ H s1) E s
 self:∀(A:Around) (i:Nat) (s:Shared) (Q:Value->Shared->Prop) (E:Value->Shared->Prop),tn i s.heap->Q (.ref it) s->wpAny (model P w) A (pyIter (.ref it)) Q E s
abbrev TI:=St->Hp->(It->Hp->Prop)->Prop
def PIE (X:Cx) (pins:List (Addr×Obj)) (σ:St) (tg:Expr) (R:It->Hp->Prop) (itv:Value) (s2:Shared):Prop :=
 ∃(it:Addr) (fp:List Addr) (tn:Nat->Heap->Prop) (J:It) (H':Hp),itv=.ref it∧Inv X pins σ H' s2∧Turn X.prog X.w X.K tg J fp it tn∧tn 0 s2.heap∧(∀b∈fp,XM X pins H' b)∧R J H'
def PI (X:Cx) (tg iter:Expr) (wi:TI):Prop :=
 ∀(pins:List (Addr×Obj)) (s:Shared) (σ:St) (H:Hp) (R:It->Hp->Prop),Inv X pins σ H s->wi σ H R →
  wpAny (model X.prog X.w) X.A (eval iter X.env) (fun v s1=>wpAny (model X.prog X.w) X.A (pyIter v) (PIE X pins σ tg R) X.xe s1) X.xe s
theorem JF {M:Model} {A:Around} {E:Value->Shared->Prop} {s:Shared} {tg:Expr} {it:Addr} {u:Value} {o:Obj} {n:String} {vs:Array Value} {Q:Unit->Shared->Prop} (ho:s.heap.get? it=some o) (hc:o.cls=.type n) (hd:o.data=.fields vs)
  (hn:["enumerate","zip","dict_itemiterator","dict_reverseitemiterator","odict_iterator","itertools.zip_longest","itertools.pairwise"].contains n=false) (hQ:Q () s):wpAny M A (letOwnedTupleGo tg (.ref it) u) Q E s:=by
 unfold letOwnedTupleGo
 cases tg<;>first
  |exact Qe hQ
  | (cases u<;>first
    |exact Qe hQ
    | (refine Qb (wpAny_load ho ?_)
       rw [hc,hd];show wpAny M A (if (["enumerate","zip","dict_itemiterator","dict_reverseitemiterator","odict_iterator","itertools.zip_longest","itertools.pairwise"].contains n&&vs[0]?==some (rawInt _))=true then _ else _) Q E s;rw [Qa (by intro h;rw [hn,Gu] at h;cases h)];exact Qe hQ))
noncomputable def Jp (K:W.Frag) (a:Addr):It :=
 ⟨fun i H=>∃xs x,SqL K H a xs∧xs[i]?=some x,fun i H x H'=>H'=H∧∀xs,SqL K H a xs->xs[i]?=some x,fun i H=>∃xs,SqL K H a xs∧xs.length≤i⟩
noncomputable def U2 (K:W.Frag) (a:Addr):It :=
 ⟨fun i H=>∃xs x,SqT K H a xs∧xs[i]?=some x,fun i H x H'=>H'=H∧∀xs,SqT K H a xs->xs[i]?=some x,fun i H=>∃xs,SqT K H a xs∧xs.length≤i⟩
noncomputable def Up (lo:Int) (n:Nat):It:=⟨fun i _=>i<n,fun i H x H'=>H'=H∧x=.int (lo+i),fun i _=>n≤i⟩
theorem Zl7 {P:Program} {w:World} {K:W.Frag} {tg:Expr} (a it:Addr):Turn P w K tg (Jp K a) [it] it (fun i h=>h.IsListIter it a i) where
 mem:=by simp
 obj:=fun i h st b hb=>by
  have e:b=it:=by simpa using hb
  subst e;obtain ⟨o,e,c,d⟩:=st;exact ⟨o,e,fun v z=>by rw [d] at z;cases z⟩
 keep:=fun i h h' st k=>st.at fun o e=>k it (by simp) o e
 item:=by
  intro X hP hw hK hc i pins s σ H E I hf st hg;subst hP hw hK;obtain ⟨xs,x,hq,hx⟩:=hg;obtain ⟨its,rv,p,hz⟩:=I.list hq;obtain ⟨u,hu,ru⟩:=rv.get hx;obtain ⟨f0,f1,f2,f3,f4,f5⟩:=hf it (by simp);refine wpAny_pyNext_list_item st p.isList (x:=u) (by simpa using hu) fun h' st' sb=>?_;have I1:Inv X pins σ H { s with heap:=h' }:=I.turned (t':=s.toks) (fun b o hb e=>(sb.2 b hb).trans e) f0 f1 f3 f4 f5;obtain ⟨o,e,c,d⟩:=id st';exact ⟨u,rfl,JF (s:={ s with heap:=h' }) e c d (by decide) ⟨x,H,I1,ru,⟨rfl,fun ys hy=>by rw [I.list_inj hy hq];exact hx⟩,st',fun b hb=>(hf b hb).1⟩⟩
 done:=by
  intro X hP hw hK hc i pins s σ H E I hf st hg;subst hP hw hK;obtain ⟨xs,hq,hx⟩:=hg;obtain ⟨its,rv,p,hz⟩:=I.list hq;obtain ⟨f0,f1,f2,f3,f4,f5⟩:=hf it (by simp);have hl:=rv.length;exact wpAny_pyNext_list_end (I.ok.hd hc) st p.isList (by simp;omega) fun h' eb=>⟨rfl,I.turned (t':=s.toks) (fun b o hb e=>eb b o hb e) f0 f1 f3 f4 f5⟩
 self:=fun _ _ _ _ _ st h=>wpAny_pyIter_listiter st h
theorem ZjP {P:Program} {w:World} {K:W.Frag} {tg:Expr} (a it:Addr):Turn P w K tg (U2 K a) [it] it (fun i h=>h.IsTupleIter it a i) where
 mem:=by simp
 obj:=fun i h st b hb=>by
  have e:b=it:=by simpa using hb
  subst e;obtain ⟨o,e,c,d⟩:=st;exact ⟨o,e,fun v z=>by rw [d] at z;cases z⟩
 keep:=fun i h h' st k=>st.at fun o e=>k it (by simp) o e
 item:=by
  intro X hP hw hK hc i pins s σ H E I hf st hg;subst hP hw hK;obtain ⟨xs,x,hq,hx⟩:=hg;obtain ⟨its,rv,p,hz⟩:=I.tuple hq;obtain ⟨u,hu,ru⟩:=rv.get hx;obtain ⟨f0,f1,f2,f3,f4,f5⟩:=hf it (by simp);refine wpAny_pyNext_tuple_item st (show s.heap.IsTuple a its.toArray from p) (x:=u) (by simpa using hu) fun h' st' sb=>?_;have I1:Inv X pins σ H { s with heap:=h' }:=I.turned (t':=s.toks) (fun b o hb e=>(sb.2 b hb).trans e) f0 f1 f3 f4 f5;obtain ⟨o,e,c,d⟩:=id st';exact ⟨u,rfl,JF (s:={ s with heap:=h' }) e c d (by decide) ⟨x,H,I1,ru,⟨rfl,fun ys hy=>by rw [I.tuple_inj hy hq];exact hx⟩,st',fun b hb=>(hf b hb).1⟩⟩
 done:=by
  intro X hP hw hK hc i pins s σ H E I hf st hg;subst hP hw hK;obtain ⟨xs,hq,hx⟩:=hg;obtain ⟨its,rv,p,hz⟩:=I.tuple hq;obtain ⟨f0,f1,f2,f3,f4,f5⟩:=hf it (by simp);have hl:=rv.length;exact wpAny_pyNext_tuple_end (I.ok.hd hc) st (show s.heap.IsTuple a its.toArray from p) (by simp;omega) fun h' eb=>⟨rfl,I.turned (t':=s.toks) (fun b o hb e=>eb b o hb e) f0 f1 f3 f4 f5⟩
 self:=fun _ _ _ _ _ st h=>wpAny_pyIter_tupleiter st h
theorem ZnN {P:Program} {w:World} {K:PySem.W.Frag} {tg:Expr} (it:Addr) (lo:Int) (n:Nat):Turn P w K tg (Up lo n) [it] it (fun i h=>IsRangeIter h it (lo+(i:Nat)*1) ((n:Int)-(i:Nat)) 1) where
 mem:=by simp
 obj:=fun i h st b hb=>by
  have e:b=it:=by simpa using hb
  subst e
  exact ⟨_,st,fun v z=>by
   have z':Data.fields _=Data.cell v:=z;cases z'⟩
 keep:=fun i h h' st k=>k it (by simp) _ st
 item:=by
  intro X hP hw hK hc i pins s σ H E I hf st hg;subst hP hw hK;obtain ⟨f0,f1,f2,f3,f4,f5⟩:=hf it (by simp);have W:=Walks.range (prog:=X.prog) (w:=X.w) (I.ok.hd hc) it lo 1 n;refine W.item i s _ _ hg st fun v h' tk hv st' kk=>?_;obtain ⟨t,rfl⟩:=hv;have I1:Inv X pins σ H { s with heap:=h',toks:=tk }:=I.turned (fun b o hb e=>kk b o (by simpa using hb) e) f0 f1 f3 f4 f5;refine ⟨_,rfl,JF (s:={ s with heap:=h',toks:=tk }) (n:="range_iterator") st' rfl rfl (by decide) ⟨.int (lo+i),H,I1,⟨t,?_⟩,⟨rfl,rfl⟩,st',fun b hb=>(hf b hb).1⟩⟩;rw [Int.mul_one]
 done:=by
  intro X hP hw hK hc i pins s σ H E I hf st hg;subst hP hw hK;obtain ⟨f0,f1,f2,f3,f4,f5⟩:=hf it (by simp);exact wpAny_pyNext_range_end (I.ok.hd hc) st (by have:n≤i:=hg;omega) fun h' eb=>⟨rfl,I.turned (t':=s.toks) (fun b o hb e=>eb b o hb e) f0 f1 f3 f4 f5⟩
 self:=fun _ _ _ _ _ st h=>wpAny_pyIter_rangeiter st h
section
variable {X:Cx} {tg:Expr}
def Zk3 (K:W.Frag) (tl:TE):TI:=fun σ H R=>tl σ H fun x H1=>∃a,x=.ref a∧(∃xs,SqL K H1 a xs)∧R (Jp K a) H1
def ZmA (K:W.Frag) (tl:TE):TI:=fun σ H R=>tl σ H fun x H1=>∃a,x=.ref a∧(∃xs,SqT K H1 a xs)∧R (U2 K a) H1
theorem Xe {l:Expr} {tl:TE} (hl:PE X l tl):PI X tg l (Zk3 X.K tl):=by
 intro pins s σ H R I h;refine Zo (hl pins s σ H _ I h) fun v s1 ⟨x,H1,I1,r1,q1⟩=>?_;obtain ⟨a,e,⟨xs,hq⟩,q⟩:=q1;subst e;cases r1;obtain ⟨its,rv,p,hz⟩:=I1.list hq;refine GU p.isList ?_;refine ⟨s1.heap.objs.size,[s1.heap.objs.size],_,_,H1,rfl,I1.kept (t':=s1.toks) fun b o e=>Qj _ e,Zl7 a _,⟨_,Qs _ rfl,rfl,rfl⟩,fun b hb=>?_,q⟩;have e:b=s1.heap.objs.size:=by simpa using hb
 subst e;exact I1.fpOk (Qf _) (I1.hok.fresh (Qf _))
theorem Zb8 {l:Expr} {tl:TE} (hl:PE X l tl):PI X tg l (ZmA X.K tl):=by
 intro pins s σ H R I h;refine Zo (hl pins s σ H _ I h) fun v s1 ⟨x,H1,I1,r1,q1⟩=>?_;obtain ⟨a,e,⟨xs,hq⟩,q⟩:=q1;subst e;cases r1;obtain ⟨its,rv,p,hz⟩:=I1.tuple hq;refine R5 (show s1.heap.IsTuple a its.toArray from p) ?_;refine ⟨s1.heap.objs.size,[s1.heap.objs.size],_,_,H1,rfl,I1.kept (t':=s1.toks) fun b o e=>Qj _ e,ZjP a _,⟨_,Qs _ rfl,rfl,rfl⟩,fun b hb=>?_,q⟩;have e:b=s1.heap.objs.size:=by simpa using hb
 subst e;exact I1.fpOk (Qf _) (I1.hok.fresh (Qf _))
theorem ZmT {pins:List (Addr×Obj)} {σ:St} {H:Hp} {s:Shared} {R:It->Hp->Prop} {E:Value->Shared->Prop} {lo hi:Int} {t u v:Tok} {tk:Nat} (I:Inv X pins σ H s) (h1:-(2 ^ 62)≤lo) (h2:lo<2 ^ 62) (h3:-(2 ^ 62)≤hi) (h4:hi<2 ^ 62)
  (q:R (Up lo (hi-lo).toNat) H):wpAny (model X.prog X.w) X.A (pyIter (.ref s.heap.objs.size)) (PIE X pins σ tg R) E { s with heap:=s.heap.push { cls:=.type "range",data:=.fields #[.int lo t,.int hi u,.int 1 v] },toks:=tk }:=by
 refine wpAny_pyIter_range (IsRange.new ..) (small_one h1 h2 h3 h4) ?_;have I1:Inv X pins σ H { s with heap:=s.heap.push { cls:=.type "range",data:=.fields #[.int lo t,.int hi u,.int 1 v] },toks:=tk }:=I.kept fun b o e=>Qj _ e
 refine ⟨(s.heap.push { cls:=.type "range",data:=.fields #[.int lo t,.int hi u,.int 1 v] }).objs.size,[(s.heap.push { cls:=.type "range",data:=.fields #[.int lo t,.int hi u,.int 1 v] }).objs.size],_,_,H,rfl,
  I1.kept (t':=tk) fun b o e=>Qj _ e,ZnN _ lo (hi-lo).toNat,?_,fun b hb=>?_,q⟩
 ·have e1:lo+((0:Nat):Int)*1=lo:=by simp
  have e2:(((hi-lo).toNat:Nat):Int)-((0:Nat):Int)=Builtin.Range.rangeSize lo hi 1:=by rw [rangeSize_one];split<;>omega
  show IsRangeIter _ _ (lo+((0:Nat):Int)*1) ((((hi-lo).toNat:Nat):Int)-((0:Nat):Int)) 1;rw [e1,e2];exact Qs _ rfl
 ·have e:b=(s.heap.push { cls:=.type "range",data:=.fields #[.int lo t,.int hi u,.int 1 v] }).objs.size:=by simpa using hb
  subst e;exact I1.fpOk (Qf _) (I1.hok.fresh (Qf _))
def Zlf (ta:TA):TI:=fun σ H R=>ta σ H fun vs H1=>∃j:Int,vs=[.int j]∧-(2 ^ 62)≤j∧j<2 ^ 62∧R (Up 0 j.toNat) H1
theorem VJ {a:Expr} {ta:TA} {p pos:Pos} (hg:Gl X "range") (hm:X.mg "range"=none) (ha:PA X [a] ta) (hs:starEach [a] X.env=[(false,eval a X.env)]:=by rfl):PI X tg (.Call (.Name "range" p) [a] [] pos) (Zlf ta):=by
 intro pins s σ H R I h;refine Call_ (UD I hg hm boot_range (Gv (Zo (ha pos pins s σ H _ I h) fun us s1 ⟨vs,H1,I1,r1,q1⟩=>?_) hs rfl));obtain ⟨j,e,q1,q2,q⟩:=q1;subst e;cases r1 with
 |cons r rr =>
  cases rr;obtain ⟨t,rfl⟩:=r;exact call_range_1 (ZmT I1 (by omega) (by omega) q1 q2 (by simpa using q))
def Zi6 (wi:TI) (g:TG) (tb:TS):TS:=fun D σ H=>wi σ H fun J H1=>∃W:Nat->Nat->St->Hp->Prop,(∃m,W 0 m σ H1)∧∀i m σ H,W i m σ H →
 (J.stop i H∧D.nx σ H)∨(J.go i H∧∃N:St->Hp->Prop,(∀σ' H',N σ' H'->∃m',m'<m∧W (i+1) m' σ' H')∧∀x H',J.yld i H x H'->g x σ H' fun σ2 H2=>tb { D with nx:=N,ct:=N,bk:=D.nx } σ2 H2)
noncomputable def Jq (fp:List Addr) (h:Heap):List (Addr×Obj):=fp.filterMap fun b=>(h.get? b).map fun o=>(b,o)
theorem ZaB {fp:List Addr} {h:Heap} {b:Addr} {o:Obj} (hb:b∈fp) (e:h.get? b=some o):(b,o)∈Jq fp h:=Ri.mpr ⟨b,hb,by rw [e];rfl⟩
theorem Zlr {fp:List Addr} {h:Heap} {p:Addr×Obj} (hp:p∈Jq fp h):p.1∈fp∧h.get? p.1=some p.2:=by
 obtain ⟨b,hb,e⟩:=Ri.mp hp;cases q:h.get? b with
 |none=>rw [q] at e;cases e
 |some o =>
  rw [q] at e;have e':(b,o)=p:=Qt e;subst e';exact ⟨hb,q⟩
theorem Inv.pinned {pins:List (Addr×Obj)} {σ:St} {H:Hp} {s:Shared} {fp:List Addr} (I:Inv X pins σ H s) (hf:∀b∈fp,XM X pins H b) (ho:∀b∈fp,∃o,s.heap.get? b=some o∧∀v,o.data≠.cell v):Inv X (pins++Jq fp s.heap) σ H s :=
 I.pins_of fun p hp=>(Qn.mp hp).elim (fun z=>I.pin p (Q6 _ z)) fun z=>by
  obtain ⟨hb,e⟩:=Zlr z;obtain ⟨f0,f1,f2,_⟩:=hf p.1 hb;obtain ⟨o,e',d⟩:=ho p.1 hb;rw [e] at e';cases e';exact ⟨e,f0,f1,f2,d⟩
theorem Inv.unpinned {pins pl:List (Addr×Obj)} {σ:St} {H:Hp} {s:Shared} (I:Inv X (pins++pl) σ H s):Inv X pins σ H s:=I.pins_of fun p hp=>I.pin p (Q6 _ (Q9 _ hp))
theorem YM {iter:Expr} {body:List Stmt} {wi:TI} {g:TG} {tb:TS} {pos:Pos} (hp:PassesOwn (model X.prog X.w) X.A X.env X.xe) (hc:X.calm=true) (hi:PI X tg iter wi) (hg:PG X tg g) (hb:PSs X body tb)
  (hs:∀x,foldedSetIterable iter X.env x=pure x:=by intro _;rfl):PS X (.For tg iter body [] pos) (Zi6 wi g tb):=by
 intro pins s σ H D I h;refine wpAny_For (Zo (hi pins s σ H _ I h) fun v s1 h1=>Zo h1 fun itv s2 h2=>?_) hs;obtain ⟨it,fp,tn,J,H2,e,I2,T,st2,f2,W,⟨m0,w0⟩,turn⟩:=h2;subst e;have stat:∀{H':Hp},(∀b∈fp,H' b=none)->∀b∈fp,XM X pins H' b:=fun hn b hb=>⟨hn b hb,(f2 b hb).2⟩;refine codeAny_forLoop_any (fun n s'=>∃i σ' H',Inv X pins σ' H' s'∧tn i s'.heap∧(∀b∈fp,H' b=none)∧W i n σ' H') ?_ m0 ⟨0,σ,H2,I2,st2,fun b hb=>(f2 b hb).1,w0⟩;rintro n s3 ⟨i,σ3,H3,I3,st3,fr3,w3⟩;rcases turn i n σ3 H3 w3 with ⟨stop,qn⟩|⟨go,N,hN,step⟩
 ·refine R6 hp (Zo (T.done X rfl rfl rfl hc i pins s3 σ3 H3 X.xe I3 (stat fr3) st3 stop) fun r s4 ⟨hr,I4⟩=>?_);subst hr;exact wpAny_execs_nil ⟨σ3,H3,I4,qn⟩
 ·refine R6 hp (Zo (T.item X rfl rfl rfl hc i pins s3 σ3 H3 X.xe I3 (stat fr3) st3 go) fun r s4 ⟨u,hr,h4⟩=>?_);subst hr;refine R6 hp (Zo h4 fun _ s5 ⟨x,H5,I5,r5,y5,st5,fr5⟩=>?_);have I5':=I5.pinned (stat fr5) (T.obj _ _ st5);refine R6 hp (Zo (hg _ s5 σ3 H5 x u _ I5' r5 (step x H5 y5)) fun _ s6 ⟨σ6,H6,I6,q6⟩=>?_);refine R6 hp (Zo (hb _ s6 σ6 H6 _ I6 q6) fun f s7 q7=>?_)
  have again:∀{σ7:St} {H7:Hp},Inv X (pins++Jq fp s5.heap) σ7 H7 s7->N σ7 H7->∃m,m<n∧∃i σ' H',Inv X pins σ' H' s7∧tn i s7.heap∧(∀b∈fp,H' b=none)∧W i m σ' H':=fun {σ7 H7} I7 n7=>by
   obtain ⟨m',hm,w7⟩:=hN σ7 H7 n7;refine ⟨m',hm,i+1,σ7,H7,I7.unpinned,T.keep _ _ _ st5 fun b hb o e=>(I7.pin (b,o) (Q6 _ (Q6 _ (ZaB hb e)))).1,fun b hb=>?_,w7⟩;obtain ⟨o,e,d⟩:=T.obj _ _ st5 b hb;exact (I7.pin (b,o) (Q6 _ (Q6 _ (ZaB hb e)))).2.1
  cases f with
  |next=>obtain ⟨σ7,H7,I7,n7⟩:=q7;exact again I7 n7
  |cont=>obtain ⟨σ7,H7,I7,n7⟩:=q7;exact again I7 n7
  |brk=>obtain ⟨σ7,H7,I7,q7⟩:=q7;exact ⟨σ7,H7,I7.unpinned,q7⟩
  |ret v=>obtain ⟨x7,σ7,H7,I7,r7,q7⟩:=q7;exact ⟨x7,σ7,H7,I7.unpinned,r7,q7⟩
end
theorem Wl {K:PySem.W.Frag} {a:Addr} {xs:List V} {g:TG} {tb:TS} {D:Ends} {σ:St} {H:Hp} (Pv:Nat->St->Hp->Prop) (h0:Pv 0 σ H) (hl:∀i σ H,i≤xs.length->Pv i σ H->SqL K H a xs)
  (hs:∀i x σ H,xs[i]?=some x->Pv i σ H->g x σ H fun σ2 H2=>tb { D with nx:=Pv (i+1),ct:=Pv (i+1),bk:=D.nx } σ2 H2) (hd:∀σ H,Pv xs.length σ H->D.nx σ H) :
  ∃W:Nat->Nat->St->Hp->Prop,(∃m,W 0 m σ H)∧∀i m σ H,W i m σ H →
   ((Jp K a).stop i H∧D.nx σ H)∨((Jp K a).go i H∧∃N:St->Hp->Prop,(∀σ' H',N σ' H'->∃m',m'<m∧W (i+1) m' σ' H')∧∀x H',(Jp K a).yld i H x H'->g x σ H' fun σ2 H2=>tb { D with nx:=N,ct:=N,bk:=D.nx } σ2 H2):=by
 refine ⟨fun i m σ H=>m=xs.length-i∧i≤xs.length∧Pv i σ H,⟨xs.length,by simp,QO _,h0⟩,?_⟩;rintro i m σ H ⟨rfl,hi,p⟩;have q:=hl i σ H hi p;by_cases hlt:i<xs.length
 ·refine .inr ⟨⟨xs,xs[i],q,by simp [hlt]⟩,Pv (i+1),fun σ' H' p'=>⟨xs.length-(i+1),by omega,rfl,hlt,p'⟩,fun x H' y=>?_⟩;obtain ⟨e,y⟩:=y;subst e;exact hs i x σ _ (y xs q) p
 ·have e:i=xs.length:=by omega
  subst e;exact .inl ⟨⟨xs,q,Qf _⟩,hd σ H p⟩
theorem Zfc {K:PySem.W.Frag} {a:Addr} {xs:List V} {g:TG} {tb:TS} {D:Ends} {σ:St} {H:Hp} (Pv:Nat->St->Hp->Prop) (h0:Pv 0 σ H) (hl:∀i σ H,i≤xs.length->Pv i σ H->SqT K H a xs)
  (hs:∀i x σ H,xs[i]?=some x->Pv i σ H->g x σ H fun σ2 H2=>tb { D with nx:=Pv (i+1),ct:=Pv (i+1),bk:=D.nx } σ2 H2) (hd:∀σ H,Pv xs.length σ H->D.nx σ H) :
  ∃W:Nat->Nat->St->Hp->Prop,(∃m,W 0 m σ H)∧∀i m σ H,W i m σ H →
   ((U2 K a).stop i H∧D.nx σ H)∨((U2 K a).go i H∧∃N:St->Hp->Prop,(∀σ' H',N σ' H'->∃m',m'<m∧W (i+1) m' σ' H')∧∀x H',(U2 K a).yld i H x H'->g x σ H' fun σ2 H2=>tb { D with nx:=N,ct:=N,bk:=D.nx } σ2 H2):=by
 refine ⟨fun i m σ H=>m=xs.length-i∧i≤xs.length∧Pv i σ H,⟨xs.length,by simp,QO _,h0⟩,?_⟩;rintro i m σ H ⟨rfl,hi,p⟩;have q:=hl i σ H hi p;by_cases hlt:i<xs.length
 ·refine .inr ⟨⟨xs,xs[i],q,by simp [hlt]⟩,Pv (i+1),fun σ' H' p'=>⟨xs.length-(i+1),by omega,rfl,hlt,p'⟩,fun x H' y=>?_⟩;obtain ⟨e,y⟩:=y;subst e;exact hs i x σ _ (y xs q) p
 ·have e:i=xs.length:=by omega
  subst e;exact .inl ⟨⟨xs,q,Qf _⟩,hd σ H p⟩
theorem UG {lo:Int} {n:Nat} {g:TG} {tb:TS} {D:Ends} {σ:St} {H:Hp} (Pv:Nat->St->Hp->Prop) (h0:Pv 0 σ H)
  (hs:∀i σ H,i<n->Pv i σ H->g (.int (lo+i)) σ H fun σ2 H2=>tb { D with nx:=Pv (i+1),ct:=Pv (i+1),bk:=D.nx } σ2 H2) (hd:∀σ H,Pv n σ H->D.nx σ H) :
  ∃W:Nat->Nat->St->Hp->Prop,(∃m,W 0 m σ H)∧∀i m σ H,W i m σ H →
   ((Up lo n).stop i H∧D.nx σ H)∨((Up lo n).go i H∧∃N:St->Hp->Prop,(∀σ' H',N σ' H'->∃m',m'<m∧W (i+1) m' σ' H')∧∀x H',(Up lo n).yld i H x H'->g x σ H' fun σ2 H2=>tb { D with nx:=N,ct:=N,bk:=D.nx } σ2 H2):=by
 refine ⟨fun i m σ H=>m=n-i∧i≤n∧Pv i σ H,⟨n,by simp,QO _,h0⟩,?_⟩;rintro i m σ H ⟨rfl,hi,p⟩;by_cases hlt:i<n
 ·refine .inr ⟨hlt,Pv (i+1),fun σ' H' p'=>⟨n-(i+1),by omega,rfl,hlt,p'⟩,fun x H' y=>?_⟩;obtain ⟨e,y⟩:=y;subst e y;exact hs i σ _ hlt p
 ·have e:i=n:=by omega
  subst e;exact .inl ⟨Qf _,hd σ H p⟩
abbrev R2:=V->V->Hp->VK->Prop
def Ye (X:Cx) (f:Value->Value->Sem Value) (r:R2):Prop :=
 ∀(pins:List (Addr×Obj)) (s:Shared) (σ:St) (H:Hp) (x y:V) (v u:Value) (Q:VK),Inv X pins σ H s->RelV x v->RelV y u->r x y H Q →
  wpAny (model X.prog X.w) X.A (f v u) (EP X pins σ Q) X.xe s
def UnR (X:Cx) (f:Value->Sem Value) (r:V->Hp->VK->Prop):Prop :=
 ∀(pins:List (Addr×Obj)) (s:Shared) (σ:St) (H:Hp) (x:V) (v:Value) (Q:VK),Inv X pins σ H s->RelV x v->r x H Q →
  wpAny (model X.prog X.w) X.A (f v) (EP X pins σ Q) X.xe s
def YQ (X:Cx) (f:Value) (r:List V->Hp->VK->Prop):Prop :=
 ∀(pins:List (Addr×Obj)) (s:Shared) (σ:St) (H:Hp) (xs:List V) (us:List Value) (Q:VK),Inv X pins σ H s->Vals xs us->r xs H Q →
  wpAny (model X.prog X.w) X.A (call f us) (EP X pins σ Q) X.xe s
def tOp (r:R2) (ta tb:TE):TE:=fun σ H Q=>ta σ H fun x H1=>tb σ H1 fun y H2=>r x y H2 Q
def tUn (r:V->Hp->VK->Prop) (ta:TE):TE:=fun σ H Q=>ta σ H fun x H1=>r x H1 Q
def rI (C:Int->Int->Prop) (g:Int->Int->V):R2:=fun x y H Q=>∃i j,x=.int i∧y=.int j∧C i j∧Q (g i j) H
def WY (g:Int->Int->V):R2:=fun x y H Q=>∃i j,x=.int i∧y=.int j∧Q (g i j) H
def rU (g:Int->V):V->Hp->VK->Prop:=fun x H Q=>∃i,x=.int i∧Q (g i) H
section
variable {X:Cx} {a b c:Expr} {ta tb tc:TE} {pos:Pos}
theorem Zbz (ha:PE X a ta) (hb:PE X b tb) {pins:List (Addr×Obj)} {s:Shared} {σ:St} {H:Hp} {R:V->V->Hp->Prop} (I:Inv X pins σ H s)
  (h:ta σ H fun x H1=>tb σ H1 fun y H2=>R x y H2) {Q:Value->Shared->Prop} {f:Value->Value->Sem Value}
  (hf:∀v u s2 x y H2,Inv X pins σ H2 s2->RelV x v->RelV y u->R x y H2->wpAny (model X.prog X.w) X.A (f v u) Q X.xe s2) :
  wpAny (model X.prog X.w) X.A (eval a X.env) (fun v s₁=>wpAny (model X.prog X.w) X.A (eval b X.env) (fun u s₂=>wpAny (model X.prog X.w) X.A (f v u) Q X.xe s₂) X.xe s₁) X.xe s:=by
 refine Zo (ha pins s σ H _ I h) fun v s1 ⟨x,H1,I1,r1,q1⟩=>?_;refine Zo (hb pins s1 σ H1 _ I1 q1) fun u s2 ⟨y,H2,I2,r2,q2⟩=>?_;exact hf v u s2 x y H2 I2 r1 r2 q2
theorem Zq {op:Operator} {r:R2} (ho:Ye X (binaryOp op) r) (ha:PE X a ta) (hb:PE X b tb):PE X (.BinOp a op b pos) (tOp r ta tb):=by
 intro pins s σ H Q I h;exact wpAny_BinOp (Zbz ha hb I h fun v u s2 x y H2 I2 rx ry q=>ho pins s2 σ H2 x y v u Q I2 rx ry q)
theorem ZlO {op:UnaryOp} {r:V->Hp->VK->Prop} (ho:UnR X (unaryOp op) r) (ha:PE X a ta):PE X (.UnaryOp op a pos) (tUn r ta):=by
 intro pins s σ H Q I h;exact UnaryOp_ (Zo (ha pins s σ H _ I h) fun v s1 ⟨x,H1,I1,r1,q1⟩=>ho pins s1 σ H1 x v Q I1 r1 q1)
theorem U0 {f:Value->Value->Sem Value} {C:Int->Int->Prop} {g:Int->Int->Int}
  (rule:∀(i j:Int) (t u:Tok) (s:Shared) (Q:Value->Shared->Prop) (E:Value->Shared->Prop),C i j->Q (.int (g i j) s.toks) { s with toks:=s.toks+1 }->wpAny (model X.prog X.w) X.A (f (.int i t) (.int j u)) Q E s) :
  Ye X f (rI C fun i j=>.int (g i j)):=by
 intro pins s σ H x y v u Q I rx ry h;obtain ⟨i,j,rfl,rfl,hc,q⟩:=h;obtain ⟨t,rfl⟩:=rx;obtain ⟨t',rfl⟩:=ry;exact rule i j t t' s _ _ hc ⟨.int (g i j),H,I.tok _,⟨_,rfl⟩,q⟩
theorem Zfx {f:Value->Value->Sem Value} {g:Int->Int->Int}
  (rule:∀(i j:Int) (t u:Tok) (s:Shared) (Q:Value->Shared->Prop) (E:Value->Shared->Prop),Q (.int (g i j) s.toks) { s with toks:=s.toks+1 }->wpAny (model X.prog X.w) X.A (f (.int i t) (.int j u)) Q E s) :
  Ye X f (WY fun i j=>.int (g i j)):=by
 intro pins s σ H x y v u Q I rx ry h;obtain ⟨i,j,rfl,rfl,q⟩:=h;obtain ⟨t,rfl⟩:=rx;obtain ⟨t',rfl⟩:=ry;exact rule i j t t' s _ _ ⟨.int (g i j),H,I.tok _,⟨_,rfl⟩,q⟩
theorem ZaP {f:Value->Value->Sem Value} {g:Int->Int->Bool}
  (rule:∀(i j:Int) (t u:Tok) (s:Shared) (Q:Value->Shared->Prop) (E:Value->Shared->Prop),Q (.bool (g i j)) s->wpAny (model X.prog X.w) X.A (f (.int i t) (.int j u)) Q E s) :
  Ye X f (WY fun i j=>.bl (g i j)):=by
 intro pins s σ H x y v u Q I rx ry h;obtain ⟨i,j,rfl,rfl,q⟩:=h;obtain ⟨t,rfl⟩:=rx;obtain ⟨t',rfl⟩:=ry;exact rule i j t t' s _ _ ⟨.bl (g i j),H,I,rfl,q⟩
def W0 (i j:Int):Prop:=0≤j∧j≤1000000∧i.natAbs<2 ^ 64
def CMul (i j:Int):Prop:=(-(2 ^ 64)<i∧i<2 ^ 64)∨(-(2 ^ 64)<j∧j<2 ^ 64)
theorem CMul.ok {i j:Int} (h:CMul i j):IntMulOk i j:=by
 rcases h with ⟨h1,h2⟩|⟨h1,h2⟩
 ·exact .of_left (intBits_le_64 h1 h2)
 ·exact .of_right (intBits_le_64 h1 h2)
theorem Xx:Ye X (binaryOp .Add) (WY fun i j=>.int (i+j)):=Zfx fun _ _ _ _ _ _ _ q=>add_int q
theorem Za0:Ye X (binaryOp .Sub) (WY fun i j=>.int (i-j)):=Zfx fun _ _ _ _ _ _ _ q=>sub_int q
theorem W4:Ye X (binaryOp .Mult) (rI CMul fun i j=>.int (i*j)):=U0 fun _ _ _ _ _ _ _ hc q=>mul_int q hc.ok
theorem Z6:Ye X (binaryOp .Mod) (rI (fun _ j=>j≠0) fun i j=>.int (i.fmod j)):=U0 fun _ _ _ _ _ _ _ hc q=>mod_int' hc q
theorem X7:Ye X (binaryOp .Pow) (rI W0 fun i j=>.int (i ^ j.toNat)):=U0 fun _ _ _ _ _ _ _ hc q=>pow_int_small hc.1 hc.2.1 hc.2.2 q
theorem unI {f:Value->Sem Value} {g:Int->Int}
  (rule:∀(i:Int) (t:Tok) (s:Shared) (Q:Value->Shared->Prop) (E:Value->Shared->Prop),Q (.int (g i) s.toks) { s with toks:=s.toks+1 }->wpAny (model X.prog X.w) X.A (f (.int i t)) Q E s) :
  UnR X f (rU fun i=>.int (g i)):=by
 intro pins s σ H x v Q I rx h;obtain ⟨i,rfl,q⟩:=h;obtain ⟨t,rfl⟩:=rx;exact rule i t s _ _ ⟨.int (g i),H,I.tok _,⟨_,rfl⟩,q⟩
theorem Znk:UnR X (unaryOp .USub) (rU fun i=>.int (-i)):=unI fun _ _ _ _ _ q=>neg_int q
end
noncomputable def ZeW:V->V->Bool
 |.non,.non=>true|.non,.int _=>true|.int _,.non=>true|.non,.bl _=>true|.bl _,.non=>true|.non,.str _=>true|.str _,.non=>true
 |.int _,.int _=>true|.bl _,.bl _=>true|.str _,.str _=>true|.byt _,.byt _=>true
 |.int _,.str _=>true|.str _,.int _=>true|.bl _,.str _=>true|.str _,.bl _=>true
 |_,_=>false
def rEq:R2:=fun x y H Q=>ZeW x y=true∧Q (.bl (decide (x=y))) H
def rNe:R2:=fun x y H Q=>ZeW x y=true∧Q (.bl (!decide (x=y))) H
theorem ZeA {i j:Int}:decide (V.int i=V.int j)=(i==j):=by
 rw [Rj];simp
theorem Zg6 {i j:Bool}:decide (V.bl i=V.bl j)=(i==j):=by
 rw [Rj];simp
theorem ZeO {i j:Str}:decide (V.str i=V.str j)=(i==j):=by
 rw [Rj];simp
theorem Zd4 {i j:Array UInt8}:decide (V.byt i=V.byt j)=(i.toList==j.toList):=by
 rw [Rj];cases i;cases j;simp
section
variable {X:Cx} {a b c:Expr} {ta tb tc:TE} {pos:Pos}
theorem Yc {pins:List (Addr×Obj)} {σ:St} {H:Hp} {s:Shared} {Q:VK} {k k':Bool} (I:Inv X pins σ H s) (q:Q (.bl k) H) (e:k=k'):EP X pins σ Q (.bool k') s:=by
 subst e;exact ⟨.bl k,H,I,rfl,q⟩
theorem ZX:Ye X (compareOp .Eq) rEq:=by
 intro pins s σ H x y v u Q I rx ry h;obtain ⟨hs,q⟩:=h;cases x with
 |non =>
  cases rx;cases y with
  |non=>cases ry;exact PySem.EqNone.eq_none_none (Yc I q (by simp))
  |bl j=>cases ry;exact PySem.EqNone.eq_none_bool (Yc I q (by simp))
  |int j=>obtain ⟨t',rfl⟩:=ry;exact PySem.EqNone.eq_none_int (Yc I q (by simp))
  |str j=>obtain ⟨t',rfl⟩:=ry;exact PySem.EqNone.eq_none_str (Yc I q (by simp))
  |_=>exact absurd (show false=true from hs) QB
 |bl i =>
  cases rx;cases y with
  |non=>cases ry;exact PySem.EqNone.eq_bool_none (Yc I q (by simp))
  |bl j=>cases ry;exact eq_bool (Yc I q Zg6)
  |str j=>obtain ⟨t',rfl⟩:=ry;exact PySem.EqMixed.eq_bool_str (Yc I q (by simp))
  |_=>exact absurd (show false=true from hs) QB
 |int i =>
  obtain ⟨t,rfl⟩:=rx;cases y with
  |non=>cases ry;exact PySem.EqNone.eq_int_none (Yc I q (by simp))
  |int j=>obtain ⟨t',rfl⟩:=ry;exact eq_int (Yc I q ZeA)
  |str j=>obtain ⟨t',rfl⟩:=ry;exact PySem.EqMixed.eq_int_str (Yc I q (by simp))
  |_=>exact absurd (show false=true from hs) QB
 |str i =>
  obtain ⟨t,rfl⟩:=rx;cases y with
  |non=>cases ry;exact PySem.EqNone.eq_str_none (Yc I q (by simp))
  |bl j=>cases ry;exact PySem.EqMixed.eq_str_bool (Yc I q (by simp))
  |int j=>obtain ⟨t',rfl⟩:=ry;exact PySem.EqMixed.eq_str_int (Yc I q (by simp))
  |str j=>obtain ⟨t',rfl⟩:=ry;exact eq_str (Yc I q ZeO)
  |_=>exact absurd (show false=true from hs) QB
 |byt i =>
  obtain ⟨t,rfl⟩:=rx;cases y with
  |byt j=>obtain ⟨t',rfl⟩:=ry;exact W.eq_bytes (Yc I q Zd4)
  |_=>exact absurd (show false=true from hs) QB
 |_=>cases y<;>exact absurd (show false=true from hs) QB
theorem Wv:Ye X (compareOp .NotEq) rNe:=by
 intro pins s σ H x y v u Q I rx ry h;obtain ⟨hs,q⟩:=h;cases x with
 |non =>
  cases rx;cases y with
  |non=>cases ry;exact PySem.EqNone.ne_none_none (Yc I q (by simp))
  |bl j=>cases ry;exact PySem.EqNone.ne_none_bool (Yc I q (by simp))
  |int j=>obtain ⟨t',rfl⟩:=ry;exact PySem.EqNone.ne_none_int (Yc I q (by simp))
  |str j=>obtain ⟨t',rfl⟩:=ry;exact PySem.EqNone.ne_none_str (Yc I q (by simp))
  |_=>exact absurd (show false=true from hs) QB
 |bl i =>
  cases rx;cases y with
  |non=>cases ry;exact PySem.EqNone.ne_bool_none (Yc I q (by simp))
  |bl j=>cases ry;exact ne_bool (Yc I q (Qq not Zg6))
  |str j=>obtain ⟨t',rfl⟩:=ry;exact PySem.EqMixed.ne_bool_str (Yc I q (by simp))
  |_=>exact absurd (show false=true from hs) QB
 |int i =>
  obtain ⟨t,rfl⟩:=rx;cases y with
  |non=>cases ry;exact PySem.EqNone.ne_int_none (Yc I q (by simp))
  |int j=>obtain ⟨t',rfl⟩:=ry;exact ne_int (Yc I q (Qq not ZeA))
  |str j=>obtain ⟨t',rfl⟩:=ry;exact PySem.EqMixed.ne_int_str (Yc I q (by simp))
  |_=>exact absurd (show false=true from hs) QB
 |str i =>
  obtain ⟨t,rfl⟩:=rx;cases y with
  |non=>cases ry;exact PySem.EqNone.ne_str_none (Yc I q (by simp))
  |bl j=>cases ry;exact PySem.EqMixed.ne_str_bool (Yc I q (by simp))
  |int j=>obtain ⟨t',rfl⟩:=ry;exact PySem.EqMixed.ne_str_int (Yc I q (by simp))
  |str j=>obtain ⟨t',rfl⟩:=ry;exact ne_str (Yc I q (Qq not ZeO))
  |_=>exact absurd (show false=true from hs) QB
 |byt i =>
  obtain ⟨t,rfl⟩:=rx;cases y with
  |byt j=>obtain ⟨t',rfl⟩:=ry;exact W.ne_bytes (Yc I q (Qq not Zd4))
  |_=>exact absurd (show false=true from hs) QB
 |_=>cases y<;>exact absurd (show false=true from hs) QB
theorem WE:Ye X (compareOp .Lt) (WY fun i j=>.bl (decide (i<j))):=ZaP fun _ _ _ _ _ _ _ q=>lt_int q
theorem ZcJ:Ye X (compareOp .LtE) (WY fun i j=>.bl (decide (i≤j))):=ZaP fun _ _ _ _ _ _ _ q=>le_int q
theorem WA:Ye X (compareOp .Gt) (WY fun i j=>.bl (decide (j<i))):=ZaP fun _ _ _ _ _ _ _ q=>gt_int q
theorem US:Ye X (compareOp .GtE) (WY fun i j=>.bl (decide (j≤i))):=ZaP fun _ _ _ _ _ _ _ q=>ge_int q
theorem ZjB:Ye X (compareOp .In) (fun x y H Q=>∃i j,x=.str i∧y=.str j∧Q (.bl (!(Builtin.Str.occurrences j i 0 j.length 1).isEmpty)) H):=by
 intro pins s σ H x y v u Q I rx ry h;obtain ⟨i,j,rfl,rfl,q⟩:=h;obtain ⟨t,rfl⟩:=rx;obtain ⟨t',rfl⟩:=ry;exact in_str (Yc I q rfl)
theorem ZiE:Ye X (compareOp .Is) (fun x y H Q=>y=.non∧Q (.bl (decide (x=.non))) H):=by
 intro pins s σ H x y v u Q I rx ry h;obtain ⟨rfl,q⟩:=h;cases ry;refine is_none_gen (Yc I q ?_)
 cases x<;>first
  | (cases rx;rfl)
  | (obtain ⟨t,rfl⟩:=rx;rfl)
theorem Zoy:Ye X (compareOp .IsNot) (fun x y H Q=>y=.non∧Q (.bl (!decide (x=.non))) H):=by
 intro pins s σ H x y v u Q I rx ry h;obtain ⟨rfl,q⟩:=h;cases ry;refine isnot_none_gen (Yc I q ?_)
 cases x<;>first
  | (cases rx;rfl)
  | (obtain ⟨t,rfl⟩:=rx;rfl)
theorem Zu (b:Expr) {op:CmpOp} (h:op≠.In:=by decide) (h2:op≠.NotIn:=by decide):behindInMarks op b=false:=by
 have e1:(op==CmpOp.In)=false:=by cases op<;>first|rfl|exact absurd rfl h
 have e2:(op==CmpOp.NotIn)=false:=by cases op<;>first|rfl|exact absurd rfl h2
 cases b<;>simp [behindInMarks,e1,e2]
theorem YT {op:CmpOp} {r:R2} (ho:Ye X (compareOp op) r) (ha:PE X a ta) (hb:PE X b tb) (hm:behindInMarks op b=false):PE X (.Compare a [op] [b] pos) (tOp r ta tb):=by
 intro pins s σ H Q I h;exact wpAny_Compare1 (Zbz ha hb I h fun v u s2 x y H2 I2 rx ry q=>ho pins s2 σ H2 x y v u Q I2 rx ry q) hm
def ZmF (t:TE):TT:=fun σ H Q=>t σ H fun x H'=>∃k,x=.bl k∧Q k H'
theorem ZA {op:CmpOp} {r:R2} (ho:Ye X (compareOp op) r) (ha:PE X a ta) (hb:PE X b tb) (hm:behindInMarks op b=false):PT X (.Compare a [op] [b] pos) (ZmF (tOp r ta tb)):=by
 intro pins s σ H Q I h
 refine wpAny_isTrue_Compare1 (Zo (ha pins s σ H _ I h) fun v s1 ⟨x,H1,I1,r1,q1⟩=>Zo (hb pins s1 σ H1 _ I1 q1) fun u s2 ⟨y,H2,I2,r2,q2⟩ =>
  Zo (ho pins s2 σ H2 x y v u _ I2 r1 r2 q2) fun c s3 ⟨z,H3,I3,r3,k,e,q3⟩=>?_) hm
 subst e;cases r3;exact Rx ⟨H3,I3,q3⟩
theorem Jx:(sizeLine:Nat)<2 ^ 63:=by rw [RQ];decide
theorem ZaI:Ye X (binaryOp .Add) (fun x y H Q=>∃i j,x=.str i∧y=.str j∧i.length+j.length≤sizeLine∧Q (.str (i++j)) H):=by
 intro pins s σ H x y v u Q I rx ry h;obtain ⟨i,j,rfl,rfl,hz,q⟩:=h;obtain ⟨t,rfl⟩:=rx;obtain ⟨t',rfl⟩:=ry;exact add_str (fun t' tk=>⟨.str (i++j),H,I.tok _,⟨_,rfl⟩,q⟩) hz
theorem Xr {x:V} {us:List Value} (r:Vals [x] us):∃u,us=[u]∧RelV x u:=by
 cases r with
 |cons r1 r2=>cases r2;exact ⟨_,rfl,r1⟩
theorem UM {x y:V} {us:List Value} (r:Vals [x,y] us):∃u w',us=[u,w']∧RelV x u∧RelV y w':=by
 cases r with
 |cons r1 r2 =>
  cases r2 with
  |cons r3 r4=>cases r4;exact ⟨_,_,rfl,r1,r3⟩
theorem Zkv:YQ X (.builtin "abs") (fun xs H Q=>∃i,xs=[.int i]∧Q (.int (if i<0 then -i else i)) H):=by
 intro pins s σ H xs us Q I r h;obtain ⟨i,rfl,q⟩:=h;obtain ⟨u,rfl,t,rfl⟩:=Xr r;exact call_abs_int fun u tk=>⟨.int (if i<0 then -i else i),H,I.tok _,⟨_,rfl⟩,q⟩
theorem Zk5 (hc:X.calm=true):YQ X (.builtin "max") (fun xs H Q=>∃i j,xs=[.int i,.int j]∧Q (.int (if j > i then j else i)) H):=by
 intro pins s σ H xs us Q I r h;obtain ⟨i,j,rfl,q⟩:=h;obtain ⟨u,w',rfl,⟨t,rfl⟩,⟨t',rfl⟩⟩:=UM r;refine max_two_ints (I.ok.hd hc) fun h' tk k=>⟨_,H,I.kept k,?_,q⟩;by_cases hj:j > i
 ·rw [Qc hj,Qc hj];exact ⟨_,rfl⟩
 ·rw [Qa hj,Qa hj];exact ⟨_,rfl⟩
theorem Zfq (hc:X.calm=true):YQ X (.builtin "min") (fun xs H Q=>∃i j,xs=[.int i,.int j]∧Q (.int (if j<i then j else i)) H):=by
 intro pins s σ H xs us Q I r h;obtain ⟨i,j,rfl,q⟩:=h;obtain ⟨u,w',rfl,⟨t,rfl⟩,⟨t',rfl⟩⟩:=UM r;refine min_two_ints (I.ok.hd hc) fun h' tk k=>⟨_,H,I.kept k,?_,q⟩;by_cases hj:j<i
 ·rw [Qc hj,Qc hj];exact ⟨_,rfl⟩
 ·rw [Qa hj,Qa hj];exact ⟨_,rfl⟩
theorem Zhr:YQ X (.type "int") (fun xs H Q=>(∃i,xs=[.int i]∧Q (.int i) H)∨∃k,xs=[.bl k]∧Q (.int (if k then 1 else 0)) H):=by
 intro pins s σ H xs us Q I r h;rcases h with ⟨i,rfl,q⟩|⟨k,rfl,q⟩
 ·obtain ⟨u,rfl,t,rfl⟩:=Xr r;exact call_int_int ⟨.int i,H,I,⟨_,rfl⟩,q⟩
 ·obtain ⟨u,rfl,r1⟩:=Xr r;cases r1;exact call_int_bool ⟨.int (if k then 1 else 0),H,I.tok _,⟨_,rfl⟩,q⟩
end
structure ObjM (h:Heap) (x dx C:Addr) (mA:Str->Option Value):Prop where
 obj:h.get? x=some (W.instObj C dx)
 ns:h.Ns1 dx mA
 ne:dx≠x
theorem ZiN {h:Heap} {dx:Addr} {mA:Str->Option Value} (n:h.Ns1 dx mA):∃od,h.get? dx=some od∧∀name,W.lookIn name od=some (mA name):=by
 obtain ⟨o,es,ep,ho,hd,hk,_,hm⟩:=n;refine ⟨o,ho,fun name=>?_⟩;have e:=hm name;unfold nsFind findBy at e;rw [←Array.find?_toList] at e;unfold W.lookIn;rw [hd];dsimp only;split
 ·rename_i y q;rw [q] at e;exact Qq some e
 ·rename_i q;rw [q] at e
  have a:es.toList.any (·.refKey)=false:=by
   rw [GV];intro y hy;obtain ⟨z,t,hkey⟩:=hk y (Array.mem_toList_iff.mp hy);simp [DictEntry.refKey,hkey]
  have a':¬es.toList.any (·.refKey)=true:=by rw [a];exact QB
  rw [Qa a'];exact Qq some e
theorem ObjM.look {h:Heap} {x dx C:Addr} {mA:Str->Option Value} (I:ObjM h x dx C mA):∃od,W.InstAt h x (W.instObj C dx) C (some od)∧∀name,W.lookIn name od=some (mA name) :=
 let ⟨od,ho,hl⟩:=ZiN I.ns
 ⟨od,⟨I.obj,rfl,rfl,ho⟩,hl⟩
section
variable {prog:Program} {w:World} {A:Around} {E:Value->Shared->Prop} {s:Shared} {K:W.Frag} {x dx C f:Addr} {mA:Str->Option Value} {name:Str} {v:Value}
theorem ZiK {expr:Bool} {Q:Value->Shared->Prop} (X:K.In s.heap) (I:ObjM s.heap x dx C mA) (hg:W.plainGet K C name=true) (hh:W.hasDictIn K C=true)
  (ha:W.findIn K (.ref C) name=some none) (hv:mA name=some v) (hv':W.handedIn v=true) (h:Q v { s with toks:=s.toks+1 }) :
  wpAny (model prog w) A (getAttr (.ref x) name expr) Q E s:=by
 obtain ⟨od,J,hl⟩:=I.look;exact W.get_value X J (W.plainGet_of hg).1 (W.findObj_own hh ha rfl (by rw [hl,hv])) hv' h
theorem Zid {pl:Sem Bool} {Q:Value×List Value->Shared->Prop} (X:K.In s.heap) (I:ObjM s.heap x dx C mA) (hg:W.plainGet K C name=true)
  (hf:W.findIn K (.ref C) name=some (some (.ref f))) (ht:W.isFn K (.ref f)=true) (hv:mA name=none) (h:Q (.ref f,[.ref x]) s) :
  wpAny (model prog w) A (getMethod (.ref x) name pl) Q E s:=by
 obtain ⟨od,J,hl⟩:=I.look;exact W.method_fn X J (W.plainGet_of hg).1 (W.plainGet_of hg).2 hf (Rs.mp ht) (by show (W.lookIn name od).map (·.isSome)=some false;rw [hl,hv];rfl) h
theorem Zja {ns:List Str} {Q:Unit->Shared->Prop} (X:K.In s.heap) (I:ObjM s.heap x dx C mA)
  (hs:W.findIn K (.ref C) "__setattr__"=some (some (.builtin "object.__setattr__"))) (hp:W.plainOver K C=true) (ht:W.takerIn K C name=some none) (hh:W.hasDictIn K C=true)
  (hw:PySem.Within mA ns) (hsz:ns.length≤sizeLine)
  (h:∀h',ObjM h' x dx C (fun y=>if y=name then some v else mA y)->Heap.SameBut dx s.heap h'->Q () { s with heap:=h',toks:=s.toks+2 }) :
  wpAny (model prog w) A (setAttr (.ref x) name v) Q E s:=by
 obtain ⟨od,J,hl⟩:=I.look;refine W.set_plain X J hs (W.osa_open (s:={ s with toks:=s.toks+1 }) (r:=none) X J hp ht fun b=>?_);obtain ⟨cd,hc,hd'⟩:=W.any_some hh;have hx:s.heap.get? x=some ⟨.ref C,some dx,.plain,#[]⟩:=I.obj;refine Qb (Qe (Qb (Qb (wpAny_loadPart hx (Qb (W.Looks.here (s:={ s with toks:=s.toks+1 }) (W.looks_clsIn X hc) ?_))))));rw [hd'];refine Qe (a:=some dx) (Qb (Qe (Qb ?_)));refine wpAny_nsSet1 (s:={ s with toks:=s.toks+1 }) I.ns fun h' hn2 hs2=>?_;obtain ⟨oD,esD,epD,hoD,hdD,hcD⟩:=hn2.count (PySem.Within.cons name v hw);refine Qb (wpAny_lookBehind hoD (by rw [hdD];exact pastItsLine_dict (Qm hcD (by rw [QJ];omega))) ?_);exact Qe (h _ ⟨(hs2.2 _ (QX I.ne)).trans I.obj,hn2,I.ne⟩ hs2)
theorem ZjT {R:Result->Shared->Prop} {vs:List Value} {kw:List (Str×Value)} (X:K.In s.heap) (hm:W.makesIn K C=true)
  (hi:W.findIn K (.ref C) "__init__"=some (some (.ref f))) (hf:W.typeIn K (.ref f)=some (.type "function"))
  (h:codeAny (model prog w) (A.under (.builtin "type.__call__" ⟨.ref C::vs,kw⟩)) (.call (.ref f) ⟨.ref (s.heap.objs.size+1)::vs,kw⟩) (W.InitBack (s.heap.objs.size+1) R)
   { s with heap:=(s.heap.push W.emptyDict).push (W.instObj C s.heap.objs.size) }) :
  codeAny (model prog w) A (.call (.ref C) ⟨vs,kw⟩) R s:=by
 obtain ⟨hh,g,d,t,os⟩:=s;exact W.make_core (W.makes_of X hm) (Gw X hi) (fun self=>W.bind_fn X self hf) (.inl rfl) h
end
noncomputable def ZE (f:Str) (v:V):List (Str×V)->List (Str×V)
 |[]=>[(f,v)]
 | (g,x)::r=>if g=f then (g,v)::r else (g,x)::ZE f v r
theorem Zfp (f g:Str) (v:V):∀fs:List (Str×V),(ZE f v fs).lookup g=if g=f then some v else fs.lookup g
 |[]=>by
  show List.lookup g [(f,v)]=_;by_cases h:g=f
  ·have hb:(g==f)=true:=Rs.mpr h;simp only [List.lookup,hb,Qc h]
  ·have hb:(g==f)=false:=RG.mpr h;simp only [List.lookup,hb,Qa h]
 | (k,x)::r=>by
  have ih:=Zfp f g v r;rw [show ZE f v ((k,x)::r)=(if k=f then (k,v)::r else (k,x)::ZE f v r) from rfl];by_cases hk:k=f
  ·rw [Qc hk];by_cases h:g=k
   ·have hb:(g==k)=true:=Rs.mpr h;simp only [List.lookup,hb,Qc (h.trans hk)]
   ·have hb:(g==k)=false:=RG.mpr h;simp only [List.lookup,hb,Qa (fun e:g=f=>h (e.trans hk.symm))]
  ·rw [Qa hk];by_cases h:g=k
   ·have hb:(g==k)=true:=Rs.mpr h;simp only [List.lookup,hb,Qa (fun e:g=f=>hk (h.symm.trans e))]
   ·have hb:(g==k)=false:=RG.mpr h;simp only [List.lookup,hb];exact ih
theorem Zcv (f:Str) (v:V):∀fs:List (Str×V),f∈(ZE f v fs).map (·.1)∧∀g,g∈fs.map (·.1)->g∈(ZE f v fs).map (·.1)
 |[]=>⟨by simp [ZE],fun g h=>by simp at h⟩
 | (k,x)::r=>by
  obtain ⟨i1,i2⟩:=Zcv f v r;rw [show ZE f v ((k,x)::r)=(if k=f then (k,v)::r else (k,x)::ZE f v r) from rfl];by_cases hk:k=f
  ·rw [Qc hk];subst hk;exact ⟨by simp,fun g h=>by simpa using h⟩
  ·rw [Qa hk];refine ⟨?_,fun g h=>?_⟩
   ·rw [Qr];exact Qy _ i1
   ·rw [Qr] at h ⊢;rcases Qh.mp h with e|e
    ·exact Qh.mpr (.inl e)
    ·exact Qy _ (i2 g e)
theorem ZfT (f:Str) (v:V):∀fs:List (Str×V),(ZE f v fs).length≤fs.length+1
 |[]=>by simp [ZE]
 | (k,x)::r=>by
  have ih:=ZfT f v r;rw [show ZE f v ((k,x)::r)=(if k=f then (k,v)::r else (k,x)::ZE f v r) from rfl];by_cases hk:k=f
  ·rw [Qc hk,QJ,QJ];omega
  ·rw [Qa hk,QJ,QJ];omega
theorem RelO.some_of {v:V} {o:Option Value} (r:RelO (some v) o):∃u,o=some u∧RelV v u:=by
 cases o with
 |none=>exact (show False from r).elim
 |some u=>exact ⟨u,rfl,r⟩
theorem RelO.none_of {o:Option Value} (r:RelO none o):o=none:=by
 cases o with
 |none=>rfl
 |some u=>exact (show False from r).elim
theorem Zjl {v:V} {u:Value} (r:RelV v u):W.handedIn u=true:=by
 cases v with
 |non=>cases (show u=Value.none from r);rfl
 |bl b=>cases (show u=Value.bool b from r);rfl
 |int i=>obtain ⟨t,e⟩:=(show ∃t,u=Value.int i t from r);cases e;rfl
 |str x=>obtain ⟨t,e⟩:=(show ∃t,u=Value.str x t from r);cases e;rfl
 |byt b=>obtain ⟨t,e⟩:=(show ∃t,u=Value.bytes b t from r);cases e;rfl
 |flt b=>obtain ⟨t,e⟩:=(show ∃t,u=Value.float b t from r);cases e;rfl
 |ref a=>cases (show u=Value.ref a from r);rfl
 |ty n=>cases (show u=Value.type n from r);rfl
section
variable {P:Program} {w:World} {H H':Hp} {h h':Heap} {a C dx:Addr} {fs fs':List (Str×V)}
theorem JT (hok:HOk P w H h) (e:H a=some (.ins C dx fs)):∃mA,ObjM h a dx C mA∧(∀f,RelO (fs.lookup f) (mA f))∧PySem.Within mA (fs.map (·.1))∧fs.length≤1000∧H dx=some (.own a):=by
 obtain ⟨d,z,ne,ob,mA,n,r,q⟩:=(show ObjOk P w H h a (.ins C dx fs) from hok a _ e);exact ⟨mA,⟨ob,n,ne⟩,r,q,z,d⟩
end
structure Cls (K:W.Frag) (C:Addr):Prop where
 pg:W.plainGet K C Str.empty=true
 hd:W.hasDictIn K C=true
 po:W.plainOver K C=true
 sa:W.findIn K (.ref C) "__setattr__"=some (some (.builtin "object.__setattr__"))
theorem Cls.get {K:W.Frag} {C:Addr} (c:Cls K C) (f:Str):W.plainGet K C f=true:=c.pg
def NoAttr (K:W.Frag) (C:Addr) (f:Str):Prop:=W.findIn K (.ref C) f=some none
theorem NoAttr.taker {K:W.Frag} {C:Addr} {f:Str} (n:NoAttr K C f):W.takerIn K C f=some none:=by
 unfold W.takerIn;rw [show W.findIn K (.ref C) f=some none from n];rfl
structure Meth (K:W.Frag) (C:Addr) (m:Str) (f:Addr):Prop where
 at_:W.findIn K (.ref C) m=some (some (.ref f))
 fn:W.isFn K (.ref f)=true
 kp:W.keepIn K (.ref f)=true
section
variable {X:Cx} {pins:List (Addr×Obj)} {σ:St} {H:Hp} {s:Shared} {a C dx:Addr} {fs:List (Str×V)} {f:Str} {v:V} {A:Around} {E:Value->Shared->Prop}
theorem Zmf {b:Bool} {Q:Value->Shared->Prop} (I:Inv X pins σ H s) (e:H a=some (.ins C dx fs)) (c:Cls X.K C) (n:NoAttr X.K C f) (l:fs.lookup f=some v)
  (h:∀u s',Inv X pins σ H s'->RelV v u->Q u s'):wpAny (model X.prog X.w) A (getAttr (.ref a) f b) Q E s:=by
 obtain ⟨mA,O,r,_,_,_⟩:=JT I.hok e;obtain ⟨u,hu,ru⟩:=RelO.some_of (v:=v) (o:=mA f) (by rw [←l];exact r f);exact ZiK I.kIn O (c.get f) c.hd n hu (Zjl ru) (h u _ (I.tok _) ru)
theorem WT {m:Str} {g:Addr} {pl:Sem Bool} {Q:Value×List Value->Shared->Prop} (I:Inv X pins σ H s) (e:H a=some (.ins C dx fs)) (c:Cls X.K C) (k:Meth X.K C m g) (l:fs.lookup m=none)
  (h:Q (.ref g,[.ref a]) s):wpAny (model X.prog X.w) A (getMethod (.ref a) m pl) Q E s:=by
 obtain ⟨mA,O,r,_,_,_⟩:=JT I.hok e;have hn:mA m=none:=RelO.none_of (by rw [←l];exact r m);exact Zid I.kIn O (c.get m) k.at_ k.fn hn h
theorem ZkM {y:V} {u:Value} {Q:Unit->Shared->Prop} (I:Inv X pins σ H s) (e:H a=some (.ins C dx fs)) (c:Cls X.K C) (n:NoAttr X.K C f) (hl:fs.length<1000) (ry:RelV y u)
  (h:∀s',Inv X pins σ (Zb H a (.ins C dx (ZE f y fs))) s'->Q () s'):wpAny (model X.prog X.w) A (setAttr (.ref a) f u) Q E s:=by
 obtain ⟨mA,O,r,wi,_,ho⟩:=JT I.hok e;have hz:(fs.map (·.1)).length≤sizeLine:=by rw [Qd,RQ];omega
 refine Zja I.kIn O c.sa c.po n.taker c.hd wi hz fun h' O' sb=>h _ ?_;have hd:∃o,h'.get? dx=some o:=let ⟨o,_,_,e',_⟩:=O'.ns;⟨o,e'⟩;refine I.write (x:=a) (e:=dx) (by rw [e];exact True.intro) (.inr ho) (fun b q hb z=>(sb.2 b hb).trans z) hd ?_;refine ⟨by rw [Zh O.ne];exact ho,?_,O.ne,O'.obj,_,O'.ns,fun g=>?_,fun g hg=>?_⟩
 ·have:=ZfT f y fs;omega
 ·show RelO ((ZE f y fs).lookup g) (if g=f then some u else mA g);rw [Zfp];by_cases q:g=f
  ·rw [Qc q,Qc q];exact ry
  ·rw [Qa q,Qa q];exact r g
 ·by_cases q:g=f
  ·rw [q];exact (Zcv f y fs).1
  ·refine (Zcv f y fs).2 g (wi g fun z=>hg ?_);show (if g=f then some u else mA g)=none;rw [Qa q];exact z
theorem Inv.made (I:Inv X pins σ H s):Inv X pins σ (Zb (Zb H s.heap.objs.size (.own (s.heap.objs.size+1))) (s.heap.objs.size+1) (.ins C s.heap.objs.size []))
  { s with heap:=(s.heap.push W.emptyDict).push (W.instObj C s.heap.objs.size) }:=by
 have e1:(s.heap.push W.emptyDict).get? s.heap.objs.size=some W.emptyDict:=Qs s.heap rfl
 have e2:((s.heap.push W.emptyDict).push (W.instObj C s.heap.objs.size)).get? (s.heap.objs.size+1)=some (W.instObj C s.heap.objs.size):=by
  have:=Qs (s.heap.push W.emptyDict) (o:=W.instObj C s.heap.objs.size) rfl
  rwa [Ra] at this
 have e3:(s.heap.push W.emptyDict).Ns s.heap.objs.size (fun _=>none):=⟨W.emptyDict,#[],_,e1,rfl,(fun e he=>absurd he (by simp)),fun _=>rfl⟩;have I1:=I.laid (a:=s.heap.objs.size) (o:=.own (s.heap.objs.size+1)) (h':=s.heap.push W.emptyDict) (t':=s.toks) (fun b u q=>Qj _ q) (Qf _) ⟨_,e1⟩;refine I1.laid (a:=s.heap.objs.size+1) (o:=.ins C s.heap.objs.size []) (t':=s.toks) (fun b u q=>Qj _ q) (Nat.le_of_eq (Ra _ _)) ?_;have ne:s.heap.objs.size≠s.heap.objs.size+1:=Qw (Rz _);refine ⟨by rw [Zh ne,Zg],QO _,ne,e2,fun _=>none,(Heap.Ns1.of_empty e3).at fun o q=>Qj _ q,fun _=>True.intro,fun y hy=>absurd rfl hy⟩
theorem ZlZ {prog:Program} {w:World} {env:Env} {e:Expr} {f:Str} {pos:Pos} {s:Shared} {Q:Value->Shared->Prop} (hb:attributeBase e f env (eval e env)=eval e env)
  (h:wpAny (model prog w) A (eval e env) (fun o s₁=>wpAny (model prog w) A (getAttr o f true) Q E s₁) E s):wpAny (model prog w) A (eval (.Attribute e f pos) env) Q E s :=
 Attribute_any_ h (by rw [arm_eval_Attribute,hb])
end
def ZeI (K:W.Frag) (ta:TE) (f:Str):TE:=fun σ H Q=>ta σ H fun x H1=>∃a C dx fs v,x=.ref a∧H1 a=some (.ins C dx fs)∧Cls K C∧NoAttr K C f∧fs.lookup f=some v∧Q v H1
def ZlL (K:W.Frag) (ta tv:TE) (f:Str):TS:=fun D σ H=>tv σ H fun y H1=>ta σ H1 fun x H2=>∃a C dx fs,x=.ref a∧H2 a=some (.ins C dx fs)∧Cls K C∧NoAttr K C f∧fs.length<1000 ∧
 D.nx σ (Zb H2 a (.ins C dx (ZE f y fs)))
section
variable {X:Cx} {o e value:Expr} {f:Str} {pos pos' tpos:Pos} {ta tv:TE}
theorem YD (he:PE X e ta) (hb:attributeBase e f X.env (eval e X.env)=eval e X.env):PE X (.Attribute e f pos) (ZeI X.K ta f):=by
 intro pins s σ H Q I h;refine ZlZ hb (Zo (he pins s σ H _ I h) fun u s1 ⟨x,H1,I1,rx,a,C,dx,fs,v,ex,ea,c,n,l,q⟩=>?_);subst ex;obtain rfl:u=Value.ref a:=rx;exact Zmf I1 ea c n l fun u' s2 I2 ru=>⟨v,H1,I2,ru,q⟩
theorem W5 (ha:PE X o ta) (hv:PE X value tv) (hs:swapsWith value (some (.Attribute o f pos')) pos.line X.env=pure false):PS X (.Assign [.Attribute o f pos'] value pos) (ZlL X.K ta tv f):=by
 intro pins s σ H D I h;refine plainObj_wpAny_Assign_Attribute (Zo (hv pins s σ H _ I h) fun u s1 ⟨y,H1,I1,ry,q⟩=>Zo (ha pins s1 σ H1 _ I1 q) fun ov s2 ⟨x,H2,I2,rx,a,C,dx,fs,ex,ea,c,n,l,q2⟩=>?_) hs;subst ex;obtain rfl:ov=Value.ref a:=rx;exact ZkM I2 ea c n l ry fun s3 I3=>⟨σ,_,I3,q2⟩
end
section
variable {X:Cx} {pins:List (Addr×Obj)} {σ:St} {H:Hp} {s:Shared} {A:Around} {E:Value->Shared->Prop} {Q:Value->Shared->Prop} {c:Value} {b:Bool}
inductive TyOf (K:W.Frag) (H:Hp):V->Value->Prop where
 |non:TyOf K H .non (.type "NoneType")
 |bl (x:Bool):TyOf K H (.bl x) (.type "bool")
 |int (i:Int):TyOf K H (.int i) (.type "int")
 |str (x:Str):TyOf K H (.str x) (.type "str")
 |flt (x:UInt64):TyOf K H (.flt x) (.type "float")
 |lst {a:Addr} {xs:List V} (e:H a=some (.lst xs)):TyOf K H (.ref a) (.type "list")
 |frz {a:Addr} {o:Obj} {xs:List V} (e:H a=some (.frz o (.lst xs))):TyOf K H (.ref a) (.type "list")
 |tup {a:Addr} {xs:List V} (e:H a=some (.tup xs)):TyOf K H (.ref a) (.type "tuple")
 |dK {a:Addr} {kvs:List (Zi×V)} (e:H a=some (.dK kvs)):TyOf K H (.ref a) (.type "dict")
 |dT {a:Addr} {kvs:List (List Zi×V)} (e:H a=some (.dT kvs)):TyOf K H (.ref a) (.type "dict")
 |ins {a C dx : Addr} {fs : List (Str×V)} (e : H a=some (.ins C dx fs)) (cl : Cls K C) (ha : W.findIn K (.ref C) "__class__"=some (some (.builtin "object.__class__")))
   (hn:W.specialIn K (.builtin "object.__class__") "__get__"=some (some (.builtin "getset_descriptor.__get__"))) (htk:W.takesIn K (.builtin "object.__class__")=some true)
   (hm:W.mroIn K C (.type "object")=some true):TyOf K H (.ref a) (.ref C)
theorem Zh7 {x:V} {u t:Value} (I:Inv X pins σ H s) (rx:RelV x u) (ty:TyOf X.K H x t) (e:W.kitOne X.K t c=some b) (h:∀tk,Q (.bool b) { s with toks:=tk }) :
  wpAny (model X.prog X.w) A (call (.builtin "isinstance") [u,c]) Q E s:=by
 cases ty with
 |non=>cases (show u=Value.none from rx);exact QU W.kitx_none I.kIn True.intro e (fun z=>nomatch z) h
 |bl y=>cases (show u=Value.bool y from rx);exact QU W.kitx_bool I.kIn True.intro e (fun z=>nomatch z) h
 |int i=>obtain ⟨t,q⟩:=(show ∃t,u=Value.int i t from rx);cases q;exact QU W.kitx_int I.kIn True.intro e (fun z=>nomatch z) h
 |str y=>obtain ⟨t,q⟩:=(show ∃t,u=Value.str y t from rx);cases q;exact QU W.kitx_str I.kIn True.intro e (fun z=>nomatch z) h
 |flt y=>obtain ⟨t,q⟩:=(show ∃t,u=Value.float y t from rx);cases q;exact QU W.kitx_float I.kIn True.intro e (fun z=>nomatch z) h
 |@lst a xs ea =>
  cases (show u=Value.ref a from rx);obtain ⟨_,_,n,_,h1⟩:=(show ObjOk X.prog X.w H s.heap a (.lst xs) from I.hok a _ ea);exact QU Gx I.kIn ⟨_,h1,rfl⟩ e (fun z=>nomatch z) h
 |@frz a ob xs ea =>
  cases (show u=Value.ref a from rx);obtain ⟨_,_,_,n,_,h1⟩:=(show ObjOk X.prog X.w H s.heap a (.frz ob (.lst xs)) from I.hok a _ ea);exact QU Gx I.kIn ⟨_,h1,rfl⟩ e (fun z=>nomatch z) h
 |@tup a xs ea =>
  cases (show u=Value.ref a from rx);obtain ⟨_,_,_,p⟩:=(show ObjOk X.prog X.w H s.heap a (.tup xs) from I.hok a _ ea);obtain ⟨o,h1,h2,_⟩:=p;exact QU W.kitx_tuple I.kIn ⟨o,h1,h2⟩ e (fun z=>nomatch z) h
 |@dK a kvs ea =>
  cases (show u=Value.ref a from rx);obtain ⟨_,_,vs,_,p⟩:=(show ObjOk X.prog X.w H s.heap a (.dK kvs) from I.hok a _ ea);obtain ⟨o,es,ep,h1,h2,_⟩:=p;exact QU W.kitx_dict I.kIn ⟨o,h1,h2.1⟩ e (fun z=>nomatch z) h
 |@dT a kvs ea =>
  cases (show u=Value.ref a from rx);obtain ⟨_,_,xs,_,o,es,ep,h1,h2,_⟩:=(show ObjOk X.prog X.w H s.heap a (.dT kvs) from I.hok a _ ea);exact QU W.kitx_dict I.kIn ⟨o,h1,h2.1⟩ e (fun z=>nomatch z) h
 |@ins a C dx fs ea cl ha hn htk hm =>
  cases (show u=Value.ref a from rx);obtain ⟨mA,O,_⟩:=JT I.hok ea;obtain ⟨od,J,_⟩:=O.look;exact QU (W.kitx_own (cl.get _) cl.hd ha hn htk hm) I.kIn J e (fun z=>nomatch z) h
end
structure Room (k:Nat) (A:Around):Prop where
 hd:A.handled=none
 dp:A.depth+3*k+5<recursionLimit
 un:A.units+16*k+200<cLine
theorem Room.mono {j k:Nat} {A:Around} (r:Room k A) (h:j≤k):Room j A:=⟨r.hd,by have:=r.dp;omega,by have:=r.un;omega⟩
theorem Room.deeper {k:Nat} {A:Around} (r:Room (k+1) A) (env:Env):Room k (A.deeper env) :=
 ⟨r.hd,by have:=r.dp;show A.depth+1+3*k+5<_;omega,by have:=r.un;show A.units+3+16*k+200<_;omega⟩
theorem Zmp {A:Around} {C:Addr} {us:List Value} {kw:List (Str×Value)}:(A.under (.builtin "type.__call__" ⟨.ref C::us,kw⟩)).depth=A.depth+1:=by
 first|rfl|simp [Around.under,Code.weight,Code.isCreation,Code.isGuard,Code.isCaller,Code.frames,Code.isFrame,guardIds]
theorem ZjX {A:Around} {C:Addr} {us:List Value} {kw:List (Str×Value)}:(A.under (.builtin "type.__call__" ⟨.ref C::us,kw⟩)).units=A.units+1:=by
 first|rfl|simp [Around.under,Code.cUnits,Code.frames,Code.isFrame]
theorem Room.make {k:Nat} {A:Around} (r:Room (k+1) A) (C:Addr) (us:List Value) (kw:List (Str×Value)):Room k (A.under (.builtin "type.__call__" ⟨.ref C::us,kw⟩)) :=
 ⟨r.hd,by have:=r.dp;rw [Zmp];omega,by have:=r.un;rw [ZjX];omega⟩
theorem Room.depth {k:Nat} {A:Around} (r:Room k A):A.depth<recursionLimit:=by have:=r.dp;omega
theorem Room.units {k:Nat} {A:Around} (r:Room k A):A.units+64<cLine:=by have:=r.un;omega
def UN:TA:=fun _ H Q=>Q [] H
def WF (ta:TE) (tr:TA):TA:=fun σ H Q=>ta σ H fun x H1=>tr σ H1 fun xs H2=>Q (x::xs) H2
section
variable {X:Cx} {e:Expr} {es:List Expr} {te:TE} {t:TA} {pos:Pos}
theorem Zc:PA X [] UN:=fun _ _ _ _ H Q I h=>GW ⟨[],H,I,.nil,h⟩
theorem Za (ha:PE X e te) (hr:PA X es t) (hs:starEach (e::es) X.env=(false,eval e X.env)::starEach es X.env:=by rfl):PA X (e::es) (WF te t):=by
 intro pos pins s σ H Q I h;rw [hs];show wpAny _ _ (spliced ((false,eval e X.env)::backTo pos (starEach es X.env))) _ _ s;refine R7 (Zo (ha pins s σ H _ I h) fun u s1 ⟨x,H1,I1,r1,q1⟩=>?_);exact Zo (hr pos pins s1 σ H1 _ I1 q1) fun us s2 ⟨xs,H2,I2,r2,q2⟩=>⟨x::xs,H2,I2,.cons r1 r2,q2⟩
def Zeb (t:TA):TE:=fun σ H Q=>t σ H fun xs H1=>xs.length≤sizeLine∧∀p,H1 p=none->Q (.ref p) (Zb H1 p (.tup xs))
def Zmw (t:TA):TE:=fun σ H Q=>t σ H fun xs H1=>xs.length≤sizeLine∧∀p,H1 p=none->Q (.ref p) (Zb H1 p (.lst xs))
theorem Z7 {x1} (h:PA X es t):PE X (.Tuple es x1 pos) (Zeb t):=by
 intro pins s σ H Q I hq;refine wpAny_Tuple_spliced (Zo (h pos pins s σ H _ I hq) fun us s1 ⟨xs,H1,I1,r,z,q⟩=>⟨by rw [←r.length];exact z,?_⟩);have hf:H1 s1.heap.objs.size=none:=I1.hok.fresh (Qf _);refine ⟨.ref s1.heap.objs.size,Zb H1 s1.heap.objs.size (.tup xs),I1.laid (t':=s1.toks) (fun b u e=>Qj _ e) (Qf _) ?_,rfl,q _ hf⟩;exact ⟨z,us,r,⟨_,Qs _ rfl,rfl,_,rfl⟩⟩
theorem Yt (h:PA X es t):PE X (.List es pos) (Zmw t):=by
 intro pins s σ H Q I hq;refine wpAny_List_spliced (Zo (h pos pins s σ H _ I hq) fun us s1 ⟨xs,H1,I1,r,z,q⟩=>⟨by rw [←r.length];exact z,?_⟩);have hf:H1 s1.heap.objs.size=none:=I1.hok.fresh (Qf _);refine ⟨.ref s1.heap.objs.size,Zb H1 s1.heap.objs.size (.lst xs),I1.laid (t':=s1.toks) (fun b u e=>Qj _ e) (Qf _) ?_,rfl,q _ hf⟩;exact ⟨z,us,0,r,Qs _ rfl⟩
end
abbrev Sp:=List V->Hp->VK->XK->Prop
abbrev YF:=List Env->Hp->Shared->XK->Value->Shared->Prop
structure Env0 (P:Program) (w:World) (K:W.Frag) (mg:Str->Option Value) (base:Heap) (A:Around) (outer:List Env) (s:Shared) (H:Hp):Prop where
 frames:A.frames=some outer
 mod:Mod K mg base
 bs:∀b o,base.get? b=some o->s.heap.get? b=some o∧H b=none
 bsz:base.objs.size≤s.heap.objs.size
 funs:s.heap.FunFrames base outer
 frf:∀b∈YJ outer,H b=none
 hok:HOk P w H s.heap
 bare:AllBare s.gens
def CE (outer:List Env) (P:Program) (w:World) (H:Hp) (s:Shared) (Q:VK) (u:Value) (s':Shared):Prop :=
 ∃v H',s'.os=s.os∧AllBare s'.gens∧Un (YJ outer) [] H H' s.heap s'.heap∧HOk P w H' s'.heap∧RelV v u∧Q v H'
def CR (CX:YF) (outer:List Env) (P:Program) (w:World) (H:Hp) (s:Shared) (Q:VK) (E:XK) (r:Result) (s':Shared):Prop :=
 match r with
 |.ok (.ret u)=>CE outer P w H s Q u s'
 |.ok _=>False
 |.error e=>CX outer H s E e s'
structure FnOk (P:Program) (w:World) (K:W.Frag) (mg:Str->Option Value) (base:Heap) (CX:YF) (k:Nat) (f:Addr) (fd:FuncData) (ps:List Str) (sp:Sp):Prop where
 len:∀vs H Q E,sp vs H Q E->vs.length=ps.length
 run:∀(A:Around) (outer:List Env) (s:Shared) (H:Hp) (args:Args) (us:List Value) (vs:List V) (Q:VK) (E:XK),Room k A->Env0 P w K mg base A outer s H->BindsTo s fd args (ps.zip us)->Vals vs us->sp vs H Q E →
  codeAny (model P w) A (.call (.ref f) args) (CR CX outer P w H s Q E) s
theorem FnOk.imp {P:Program} {w:World} {K:W.Frag} {mg:Str->Option Value} {base:Heap} {CX:YF} {k:Nat} {f:Addr} {fd:FuncData} {ps:List Str} {sp sp':Sp} (F:FnOk P w K mg base CX k f fd ps sp)
  (h:∀vs H Q E,sp' vs H Q E->sp vs H Q E):FnOk P w K mg base CX k f fd ps sp' :=
 ⟨fun vs H Q E q=>F.len vs H Q E (h _ _ _ _ q),fun A outer s H args us vs Q E hr he hb hv hs=>F.run A outer s H args us vs Q E hr he hb hv (h _ _ _ _ hs)⟩
theorem Env0.make {P:Program} {w:World} {K:W.Frag} {mg:Str->Option Value} {base:Heap} {A:Around} {outer:List Env} {s:Shared} {H:Hp} (e:Env0 P w K mg base A outer s H) (C:Addr) (us:List Value) (kw:List (Str×Value)) :
  Env0 P w K mg base (A.under (.builtin "type.__call__" ⟨.ref C::us,kw⟩)) outer s H:=⟨by first|exact e.frames|(simpa [Around.under,Code.envs,Code.isFrame,pushEnvs] using e.frames),e.mod,e.bs,e.bsz,e.funs,e.frf,e.hok,e.bare⟩
section
variable {X:Cx} {pins:List (Addr×Obj)} {σ:St} {H:Hp} {s s':Shared}
theorem Inv.env0 (I:Inv X pins σ H s):Env0 X.prog X.w X.K X.mg X.base X.A X.stack s H :=
 ⟨I.ok.frames,I.ok.mod,I.bs,Qm I.ok.bsz I.sz,I.stack,I.stkFree,I.hok,I.bare⟩
theorem Inv.after {Q:VK} {u:Value} (I:Inv X pins σ H s) (h:CE X.stack X.prog X.w H s Q u s'):EP X pins σ Q u s':=by
 obtain ⟨v,H',os,bare,un,hok,r,q⟩:=h;obtain ⟨hh,g,d,t,os'⟩:=s';obtain rfl:os'=s.os:=os;exact ⟨v,H',I.call (h':=hh) (g':=g) (d':=d) (t':=t) (ch:=[]) un hok bare (fun b z=>absurd z (by simp)),r,q⟩
end
def Binds (K:W.Frag) (fd:FuncData) (ps:List Str) (ds:List Value):Prop :=
 ∀(s:Shared) (us:List Value),K.In s.heap->(us++ds).length=ps.length->BindsTo s fd ⟨us,[]⟩ (ps.zip (us++ds))
theorem Binds.all {K:W.Frag} {fd:FuncData} {ps:List Str} (h:∀us:List Value,us.length=ps.length->bindArgs fd ⟨us,[]⟩=pure (ps.zip us)):Binds K fd ps []:=fun s us _ hl=>by
 rw [Qo] at hl ⊢;exact .of_eq (h us hl)
def Ze7 (CX:YF) (X:Cx) (E:XK):Prop:=∀(pins:List (Addr×Obj)) (σ:St) (H:Hp) (s:Shared) (e:Value) (s':Shared),Inv X pins σ H s->CX X.stack H s E e s'->X.xe e s'
section
variable {X:Cx} {CX:YF} {k:Nat} {f C:Addr} {fd:FuncData} {ps:List Str} {sp:Sp} {dvs:List V} {ds:List Value} {E:XK} {x m:Str} {p pos apos:Pos} {e o:Expr} {es:List Expr} {ta:TE} {t:TA}
theorem ZjF {pins:List (Addr×Obj)} {σ:St} {H:Hp} {s:Shared} {Q:VK} {us:List Value} {vs:List V} (F:FnOk X.prog X.w X.K X.mg X.base CX k f fd ps sp) (hr:Room k X.A) (hb:Binds X.K fd ps ds) (hd:Vals dvs ds) (hx:Ze7 CX X E)
  (I:Inv X pins σ H s) (r:Vals vs us) (h:sp (vs++dvs) H Q E):wpAny (model X.prog X.w) X.A (call (.ref f) us) (EP X pins σ Q) X.xe s:=by
 have r2:Vals (vs++dvs) (us++ds):=r.append hd;have hl:(us++ds).length=ps.length:=by rw [←r2.length];exact F.len _ _ _ _ h
 refine wpAny_call (R8 (F.run X.A X.stack s H ⟨us,[]⟩ (us++ds) (vs++dvs) Q E hr I.env0 (hb s us I.kIn hl) r2 h) fun r s' hq=>?_);cases r with
 |error e=>exact hx pins σ H s e s' I hq
 |ok fl =>
  cases fl with
  |ret u=>exact I.after hq
  |next=>exact False.elim hq
  |brk=>exact False.elim hq
  |cont=>exact False.elim hq
structure Mk (K:W.Frag) (C f:Addr):Prop where
 makes:W.makesIn K C=true
 init:W.findIn K (.ref C) "__init__"=some (some (.ref f))
 fn:W.isFn K (.ref f)=true
 kp:W.keepIn K (.ref C)=true
end
section
variable {X:Cx} {CX:YF} {k:Nat} {f C:Addr} {fd:FuncData} {ps ks:List Str} {sp:Sp} {E:XK} {x m:Str} {p pos apos kpos:Pos} {e o:Expr} {es:List Expr} {kws:List Keyword} {te ta:TE} {t tk:TA} {nm:Option Str}
variable {g:List Value->List Value->List Value} {gV:List V->List V->List V}
end
structure FnScope (N P:List Str) (sc:Scope):Prop where
 kind:sc.kind=.function
 co:sc.isCoroutine=false
 gen:sc.isGenerator=false
 nd:N.Nodup
 pre:N.take P.length=P
 par:∀x∈P,sc.names.lookup x=some .local∨sc.names.lookup x=some .cell
 nofree:∀y∈sc.names,y.2≠.free
theorem Zep {kindOf:Str->Option NameKind} {x:Str}:∀{binds:List (Str×Value)} {m:Str->Option Value},(∀v,(x,v)∉binds)->bindL kindOf binds m x=m x
 |[],_,_=>rfl
 | (n,v)::r,m,h=>by
  unfold bindL;rw [Zep fun w hw=>h w (Qy _ hw)];split
  ·have:x≠n:=by rintro rfl;exact h v QA
   simp [this]
  ·rfl
theorem ZfH {kindOf:Str->Option NameKind} {x:Str}:∀{binds:List (Str×Value)} {m:Str->Option Value},(∀v,(x,v)∉binds)->bindC kindOf binds m x=m x
 |[],_,_=>rfl
 | (n,v)::r,m,h=>by
  unfold bindC;rw [ZfH fun w hw=>h w (Qy _ hw)];split
  ·rfl
  ·have:x≠n:=by rintro rfl;exact h v QA
   simp [this]
theorem Zgn {kindOf:Str->Option NameKind} {x:Str} {v:Value}:∀{P:List Str} {vs:List Value} {i:Nat} {m:Str->Option Value},P.Nodup->P[i]?=some x->vs[i]?=some v->kindOf x=some .local →
  bindL kindOf (P.zip vs) m x=some v
 |[],_,_,_,_,h,_,_=>by simp at h
 |_::_,[],_,_,_,_,h,_=>by simp at h
 |p::P,w::vs,0,m,nd,h1,h2,hk=>by
  simp at h1 h2;subst h1;subst h2;show bindL kindOf ((p,w)::P.zip vs) m p=_;unfold bindL;rw [Zep fun v hv=>(QH.mp nd).1 (GX hv).1,Qc hk];simp
 |p::P,w::vs,i+1,m,nd,h1,h2,hk=>by
  show bindL kindOf ((p,w)::P.zip vs) m x=_;unfold bindL;exact Zgn (i:=i) (QH.mp nd).2 (by simpa using h1) (by simpa using h2) hk
theorem ZgL {kindOf:Str->Option NameKind} {x:Str} {v:Value}:∀{P:List Str} {vs:List Value} {i:Nat} {m:Str->Option Value},P.Nodup->P[i]?=some x->vs[i]?=some v->kindOf x≠some .local →
  bindC kindOf (P.zip vs) m x=some v
 |[],_,_,_,_,h,_,_=>by simp at h
 |_::_,[],_,_,_,_,h,_=>by simp at h
 |p::P,w::vs,0,m,nd,h1,h2,hk=>by
  simp at h1 h2;subst h1;subst h2;show bindC kindOf ((p,w)::P.zip vs) m p=_;unfold bindC;rw [ZfH fun v hv=>(QH.mp nd).1 (GX hv).1,Qa hk];simp
 |p::P,w::vs,i+1,m,nd,h1,h2,hk=>by
  show bindC kindOf ((p,w)::P.zip vs) m x=_;unfold bindC;exact ZgL (i:=i) (QH.mp nd).2 (by simpa using h1) (by simpa using h2) hk
noncomputable def start (N:List Str) (vs:List V):St:=vs.map some++List.replicate (N.length-vs.length) none
noncomputable def WQ (CX:YF) (P:Program) (w:World) (K:W.Frag) (mg:Str->Option Value) (base:Heap) (N:List Str) (qual:Str) (scope:Scope) (f:Addr) (cd:Value) (A:Around) (outer:List Env) (s:Shared) (H:Hp) (E:XK):Cx where
 prog:=P
 w:=w
 K:=K
 mg:=mg
 base:=base
 A:=A.deeper (envOfC qual scope s.heap.objs.size f cd)
 N:=N
 s₀:=s
 H₀:=H
 env:=envOfC qual scope s.heap.objs.size f cd
 outer:=outer
 stack:=envOfC qual scope s.heap.objs.size f cd::outer
 ex:=[]
 calm:=true
 fn:=fun _=>true
 pn:=[]
 xe:=fun e s'=>wpAny (model P w) (A.deeper (envOfC qual scope s.heap.objs.size f cd)) (leaving (envOfC qual scope s.heap.objs.size f cd) e) (fun _ s''=>CX outer H s E e s'') (fun e' s''=>CX outer H s E e' s'') s'
theorem Zhi {sc:Scope} {n:Nat} {x:Str} (h:sc.names.lookup x=some .cell):∃c,(cellsFrom n sc.names []).lookup x=some c:=by
 have q:=W.cellsFrom_some sc.names n [] (.inl h);exact Ny.mp q
theorem ZmE {CX:YF} {P:Program} {w:World} {K:W.Frag} {mg:Str->Option Value} {base:Heap} {N ps:List Str} {qual:Str} {scope:Scope} {f:Addr} {cd:Value} {A:Around} {outer:List Env} {s s1:Shared} {H:Hp} {E:XK} {us:List Value} {vs:List V}
  (S:FnScope N ps scope) (hd:A.handled=none) (e0:Env0 P w K mg base A outer s H) (hl:vs.length=ps.length) (r:Vals vs us)
  (x:InCallC s s.heap.objs.size (bindL (envOfC qual scope s.heap.objs.size f cd).kindOf (ps.zip us) fun _=>none) (cellsFrom (s.heap.objs.size+1) scope.names []) (bindC (envOfC qual scope s.heap.objs.size f cd).kindOf (ps.zip us) fun _=>none) s1) :
  Inv (WQ CX P w K mg base N qual scope f cd A outer s H E) [] (start N vs) H s1:=by
 have hpl:ps.length≤N.length:=by have:=Qq List.length S.pre;rw [QZ] at this;omega
 obtain ⟨h1,tk,rfl,hk⟩:=x.done;have noA:∀b:Addr,b∉(WQ CX P w K mg base N qual scope f cd A outer s H E).ex:=fun b z=>absurd (show b∈([]:List Addr) from z) (by simp)
 refine ⟨⟨e0.mod,S.kind,rfl,rfl,Qf _,fun y z c h1 h2=>?_,fun y hy=>?_,fun y c _ h=>?_,fun _=>hd,Around.frames_deeper e0.frames,.inr ⟨rfl,rfl⟩,fun b z=>absurd z (noA b),e0.bs,e0.bsz,fun b _ _=>noA b,fun b z=>absurd z (noA b),e0.funs,e0.frf⟩,
  rfl,e0.bare,Un.kept hk,⟨_,x.toInCall.ns,fun i y v h1 h2 h3=>?_⟩,fun y c h=>⟨_,x.cell y c h⟩,e0.hok.fresh (Qf _),fun y c h=>?_,fun p hp=>absurd (show p∈([]:List (Addr×Obj)) from hp) (by simp),e0.hok.kept hk,?_⟩
 ·exact name_of_addr x.apart (RJ h1) (RJ h2)
 ·have hy:scope.names.lookup y=some .cell∨scope.names.lookup y=some .free:=hy;rcases hy with hy|hy
  ·exact Zhi hy
  ·exact absurd rfl (S.nofree _ (RJ hy))
 ·exact QY (x.above y c (RJ h))
 ·have hi:i<vs.length:=by
   unfold start at h2;by_cases hi:i<vs.length
   ·exact hi
   ·rw [Nz (by simpa using hi)] at h2;rw [List.getElem?_replicate] at h2;split at h2<;>cases h2
  have ha:vs[i]?=some v:=by
   unfold start at h2;rw [NA (by simpa using hi),Qu] at h2;cases e:vs[i]? with
   |none=>rw [e] at h2;cases h2
   |some a=>rw [e] at h2;cases h2;rfl
  obtain ⟨u,hu,rv⟩:=r.get ha
  have hp:ps[i]?=some y:=by
   rw [←S.pre,NB (by omega)];exact h1
  have ndP:ps.Nodup:=by rw [←S.pre];exact S.nd.sublist (R9 _ _)
  refine ⟨u,rv,?_⟩;rcases S.par y (QP hp) with k|k
  ·exact .inl ⟨k,Zgn ndP hp hu k⟩
  ·obtain ⟨c,e⟩:=Zhi (n:=s.heap.objs.size+1) k;refine .inr ⟨.inl k,c,e,?_⟩;have q:=x.cell y c e;rw [ZgL ndP hp hu (by show scope.names.lookup y≠_;rw [k];decide)] at q;exact q
 ·exact e0.hok.fresh (QY (x.above y c (RJ h)))
 ·unfold start;show _=N.length;rw [Qx,Qd,List.length_replicate];omega
theorem ZhA {CX:YF} {P:Program} {w:World} {K:W.Frag} {mg:Str->Option Value} {base:Heap} {k:Nat} {f:Addr} {name qual:Str} {params:Arguments} {body:List Stmt} {scope:Scope} {dV kV doc pm cdv ct oc:Value} {an od:Option Addr}
  {osl:Array (Option Value)} {N ps:List Str} {sp:Sp} (lk:K.lookup f=some ⟨oc,od,.func (W.fnOf name qual params body scope dV kV doc pm an cdv ct),osl⟩) (hcd:W.codeIn K cdv qual=true) (S:FnScope N ps scope)
  (len:∀vs H Q E,sp vs H Q E->vs.length=ps.length)
  (hbody:∀(A:Around) (outer:List Env) (s:Shared) (H:Hp) (vs:List V) (Q:VK) (E:XK),Room k (A.deeper (envOfC qual scope s.heap.objs.size f cdv))->sp vs H Q E →
   ∃t,PSs (WQ CX P w K mg base N qual scope f cdv A outer s H E) body t∧t { nx:=fun _ H'=>Q .non H',rt:=Q } (start N vs) H) :
  FnOk P w K mg base CX (k+1) f (W.fnOf name qual params body scope dV kV doc pm an cdv ct) ps sp:=by
 refine ⟨len,fun A outer s H args us vs Q E hr e0 hb r hsp=>?_⟩;have hl:=len _ _ _ _ hsp;have KX:K.In s.heap:=e0.mod.kin.keeps fun b o e=>(e0.bs b o e).1;have lim:s.heap.NoLimit:=e0.mod.nolimit.keeps fun b o e=>(e0.bs b o e).1
 have hkind:∀y∈ps.zip us,scope.names.lookup y.1=some .local∨(scope.names.lookup y.1=some .cell∧((cellsFrom (s.heap.objs.size+1) scope.names []).lookup y.1).isSome=true):=fun ⟨n,v⟩ hy=>by
  rcases S.par n (GX hy).1 with q|q
  ·exact .inl q
  ·exact .inr ⟨q,W.cellsFrom_some _ _ _ (.inl q)⟩
 refine codeAny_call_function hr.depth (KX _ _ lk) rfl S.co S.gen rfl (W.codeRec_of KX hcd) (hb _ _ _ _ ?_);refine wpAny_newFunctionEnv_cells S.kind hkind fun env he s1 x=>?_;subst he;refine ⟨lim.keeps x.toInCall.keep,codeAny_func ?_⟩;obtain ⟨t,ht,hq⟩:=hbody A outer s H vs Q E (hr.deeper _) hsp;have I:Inv (WQ CX P w K mg base N qual scope f cdv A outer s H E) [] (start N vs) H s1:=ZmE S hr.hd e0 hl r x;refine Q5 (ht [] s1 (start N vs) H _ I hq) (fun fl s' hs=>?_) fun e s' hs=>hs
 have fin:∀{σ':St} {H':Hp} {v:V} {u:Value},Inv (WQ CX P w K mg base N qual scope f cdv A outer s H E) [] σ' H' s'->RelV v u->Q v H'->CE outer P w H s Q u s' :=
  fun {σ' H' v u} J rv q=>⟨v,H',J.os,J.bare,J.base,J.hok,rv,q⟩
 cases fl with
 |ret u =>
  obtain ⟨v,σ',H',J,rv,q⟩:=hs;exact fin J rv q
 |next =>
  obtain ⟨σ',H',J,q⟩:=hs;exact fin (v:=V.non) (u:=Value.none) J rfl q
 |brk =>
  obtain ⟨_,_,_,q⟩:=hs;exact False.elim q
 |cont =>
  obtain ⟨_,_,_,q⟩:=hs;exact False.elim q
section
variable {X:Cx} {x:Str} {p pos:Pos} {e:Expr} {es:List Expr} {t:TA} {id T:String} {r:List V->Hp->VK->Prop}
def tCB (r:List V->Hp->VK->Prop) (t:TA):TE:=fun σ H Q=>t σ H fun vs H1=>r vs H1 Q
theorem ZO (hc:YQ X (.builtin id) r) (hg:Gl X x) (hm:X.mg x=none) (hv:bootBuiltins x=some (.builtin id)) (ha:PA X (e::es) t) (hn:x≠"__name__":=by decide) (hdb:(x==("__debug__" : Str))=false:=by decide)
  (he:starEach (e::es) X.env=(false,eval e X.env)::starEach es X.env:=by rfl) (hpl:(backTo pos (starEach es X.env)).any (·.1)=false:=by rfl):PE X (.Call (.Name x p) (e::es) [] pos) (tCB r t):=by
 intro pins s σ H Q I h;refine RK (UD I hg hm hv ?_ hn hdb);exact PyProof.Rows.callWith_builtin1 (Zo (ha pos pins s σ H _ I h) fun us s1 ⟨vs,H1,I1,r1,q1⟩=>hc pins s1 σ H1 vs us Q I1 r1 q1) he hpl
theorem Vl (hc:YQ X (.type T) r) (hg:Gl X x) (hm:X.mg x=none) (hv:bootBuiltins x=some (.type T)) (ha:PA X (e::es) t) (hn:x≠"__name__":=by decide) (hdb:(x==("__debug__" : Str))=false:=by decide)
  (he:starEach (e::es) X.env=(false,eval e X.env)::starEach es X.env:=by rfl) (hpl:(backTo pos (starEach es X.env)).any (·.1)=false:=by rfl):PE X (.Call (.Name x p) (e::es) [] pos) (tCB r t):=by
 intro pins s σ H Q I h;refine RK (UD I hg hm hv ?_ hn hdb);exact Gv (Zo (ha pos pins s σ H _ I h) fun us s1 ⟨vs,H1,I1,r1,q1⟩=>hc pins s1 σ H1 vs us Q I1 r1 q1) he hpl
end
end L2
namespace HT
open PySem PyProof.Rows
section
open PySem.SeqAt
open PySem.AutoSeq1 (wpAny_loadPart')
open PySem.MeetsSeq PySem.MeetsSeq2 PySem.MeetsSeq3
end
section
variable {prog:Program} {w:World} {A:Around} {E:Value->Shared->Prop} {s:Shared}
theorem cat_tup {t b:Addr} {vs ws:List Value} {Q:Value->Shared->Prop} (ht:IsTup s.heap t vs.toArray) (hb:IsTup s.heap b ws.toArray) (hv:vs≠[])
  (h1:ws=[]->Q (.ref t) s) (h2:ws≠[]->Q (.ref s.heap.objs.size) { s with heap:=s.heap.push { cls:=.type "tuple",data:=.seq (vs++ws).toArray } })
  (hsz:vs.length+ws.length≤sizeLine):wpAny (model prog w) A (binaryOp .Add (.ref t) (.ref b)) Q E s:=by
 obtain ⟨⟨cls,dd,data,sl⟩,ho,hc,n,hd⟩:=id ht;obtain ⟨⟨cls2,dd2,data2,sl2⟩,ho2,hc2,n2,hd2⟩:=id hb;simp only at hc hd hc2 hd2;subst hc hd hc2 hd2;have e:vs.toArray++ws.toArray=(vs++ws).toArray:=by simp
 by_cases hw:ws=[]
 ·exact concat_meets ⟨_,ho,rfl⟩ ⟨_,ho2,rfl⟩ noFill_tuple_add seq_tuple_add PySem.F.slot_tuple_add NC (ND _ _)
   (tuple_addW1 t b vs.toArray ws.toArray n n2 dd dd2 sl sl2 (by simpa using hv) (by simp [hw])) ⟨ho,ho2,h1 hw⟩
 ·refine concat_meets ⟨_,ho,rfl⟩ ⟨_,ho2,rfl⟩ noFill_tuple_add seq_tuple_add PySem.F.slot_tuple_add NC (ND _ _)
   (tuple_addW2 t b vs.toArray ws.toArray n n2 dd dd2 sl sl2 (by simpa using hv) (by simpa using hw) (by rw [Qv,Qv];exact hsz)) ⟨ho,ho2,?_⟩
  rw [e];exact h2 hw
noncomputable def sIx (n d:Nat):Option Int->Nat
 |none=>d
 |some v=>if v<0 then (v+(n:Int)).toNat else min v.toNat n
theorem sIx_nat (n d k:Nat):sIx n d (some (k:Int))=min k n:=by
 show (if (k:Int)<0 then ((k:Int)+(n:Int)).toNat else min (k:Int).toNat n)=min k n;rw [Qa (by omega),Ga]
theorem Zn3 (n d:Nat) (hd:d≤n) (o:Option Int):sIx n d o≤n:=by
 cases o with
 |none=>exact hd
 |some v =>
  show (if v<0 then (v+(n:Int)).toNat else min v.toNat n)≤n;by_cases hv:v<0
  ·rw [Qc hv];omega
  ·rw [Qa hv];exact Nat.min_le_right _ _
theorem ZgB (v:Int) (n d:Nat):(if v<0 then max (v+(n:Int)) 0 else min v (n:Int))=((sIx n d (some v):Nat):Int):=by
 show (if v<0 then max (v+(n:Int)) 0 else min v (n:Int))=(((if v<0 then (v+(n:Int)).toNat else min v.toNat n):Nat):Int);by_cases hv:v<0
 ·simp only [Qc hv];omega
 ·simp only [Qa hv];omega
theorem Zin (lo hi:Option Int) (n:Nat):Builtin.Slice.sliceAdjust lo hi 1 (n:Int)=(((sIx n 0 lo:Nat):Int),((sIx n n hi:Nat):Int)):=by
 have h1:¬((1:Int)<0):=by omega
 unfold Builtin.Slice.sliceAdjust;simp only [h1,QQ];refine RF ?_ ?_
 ·cases lo with
  |none=>rfl
  |some v=>exact ZgB v n 0
 ·cases hi with
  |none=>rfl
  |some v=>exact ZgB v n n
theorem ZjY (i j:Nat):Builtin.Slice.slicePlaces (i:Int) (j:Int) 1=j-i:=by
 unfold Builtin.Slice.slicePlaces;have h1:(1:Int) > 0:=by omega
 simp only [h1,Q0,Int.ediv_one];split<;>omega
theorem Zec {v:Value} {o:Option Int} {Q:Option Int->Shared->Prop} (p:IsPart v o) (h:Q o s):wpAny (model prog w) A (Builtin.Slice.slicePartIndex v) Q E s:=by
 cases p with
 |none=>exact slicePart_none h
 |int i t=>exact slicePart_int h
theorem ZkL {sl:Addr} {vl vu:Value} {lo hi:Option Int} {n:Nat} {Q:Int×Int×Nat->Shared->Prop} (hs:s.heap.IsSliceOf sl vl vu .none) (pl:IsPart vl lo) (pu:IsPart vu hi)
  (h:Q (((sIx n 0 lo:Nat):Int),1,sIx n n hi-sIx n 0 lo) s):wpAny (model prog w) A (Builtin.Slice.sliceApplied (.ref sl) (pure (n:Int))) Q E s:=by
 obtain ⟨os,hos,hcs,hds⟩:=id hs;unfold Builtin.Slice.sliceApplied Builtin.Slice.sliceFields;refine Qb (Qb (QK hos hds (x:=vl) rfl (Qb (QK hos hds (x:=vu) rfl (Qb (QK hos hds (x:=.none) rfl (Qe ?_)))))));refine Qb (slicePart_none ?_);show wpAny _ _ (if ((1:Int)==0)=true then _ else _) _ _ s;rw [Qa (by decide)];refine Qb (Zec pl (Qb (Zec pu (Qb (Qe ?_)))));show wpAny _ _ (match Builtin.Slice.sliceAdjust lo hi 1 (n:Int) with|(lo,hi)=>pure (lo,(1:Int),Builtin.Slice.slicePlaces lo hi 1)) _ _ s;rw [Zin lo hi n];show wpAny _ _ (pure (((sIx n 0 lo:Nat):Int),(1:Int),Builtin.Slice.slicePlaces ((sIx n 0 lo:Nat):Int) ((sIx n n hi:Nat):Int) 1)) _ _ s;rw [ZjY];exact Qe h
theorem Zlw (xs:Array Value) (i k:Nat):((List.range k).filterMap fun (m:Nat)=>xs[((i:Int)+(m:Int)*1).toNat]?).toArray=((xs.toList.drop i).take k).toArray:=by
 have e:(fun (m:Nat)=>xs[((i:Int)+(m:Int)*1).toNat]?)=fun m=>xs[i+m]?:=by
  funext m
  have:((i:Int)+(m:Int)*1).toNat=i+m:=by omega
  rw [this]
 rw [e];have:=pick_run xs i k;rw [Gy] at this;have e2:((fun x=>xs[x]?)∘fun x=>i+x)=fun m=>xs[i+m]?:=rfl;rw [e2] at this;rw [this]
theorem getItem_tuple_cut {t sl:Addr} {items:Array Value} {vl vu:Value} {lo hi:Option Int} {Q:Value->Shared->Prop} (ht:IsTup s.heap t items) (hs:s.heap.IsSliceOf sl vl vu .none) (pl:IsPart vl lo) (pu:IsPart vu hi)
  (hw:¬(sIx items.size 0 lo=0∧sIx items.size items.size hi=items.size))
  (h:Q (.ref s.heap.objs.size) { s with heap:=s.heap.push { cls:=.type "tuple",data:=.seq ((items.toList.drop (sIx items.size 0 lo)).take (sIx items.size items.size hi-sIx items.size 0 lo)).toArray } })
  (hsz:items.size≤sizeLine):wpAny (model prog w) A (getItem (.ref t) (.ref sl)) Q E s:=by
 have htake:sizeOk (.seq ((items.toList.drop (sIx items.size 0 lo)).take (sIx items.size items.size hi-sIx items.size 0 lo)).toArray):=by
  show ((items.toList.drop (sIx items.size 0 lo)).take (sIx items.size items.size hi-sIx items.size 0 lo)).toArray.size≤sizeLine;rw [Qv,QZ,GY,RI];omega
 have hj:sIx items.size items.size hi≤items.size:=Zn3 _ _ (Qf _) hi;obtain ⟨os,hos,hcs,hds⟩:=id hs;have hTs:s.TypeIs (.ref sl) "slice":=⟨os,hos,hcs⟩;unfold getItem
 try with_reducible refine Q1 ?_
 first|refine Qb (Qe ?_)|skip
 refine Qb (wpAny_sequenceKey ht.typeIs (by decide) ?_)
 refine Qb (RA (name:=Str.ofString "__getitem__") ht.typeIs GZ
  (Rb GZ ht.typeIs entry_tuple_getitem ?_ (args_tuple_getitem _ _)))
 show wpAny _ _ (Builtin.Tuple.tupleItemsOf (.ref t) >>= _) _ _ s;refine Qb (tupleItemsOf_ ht ?_);refine Qb (wpAny_typeOf hTs ?_);rw [Qc (by decide)];refine Qb (ZkL hs pl pu ?_)
 have hno:¬((((sIx items.size 0 lo:Nat):Int)==0&&(1:Int)==1&&(sIx items.size items.size hi-sIx items.size 0 lo)==items.size)=true):=by
  intro q;rw [Rk,Rk] at q;have q1:((sIx items.size 0 lo:Nat):Int)=0:=RS q.1.1;have q2:sIx items.size items.size hi-sIx items.size 0 lo=items.size:=RS q.2;exact hw ⟨by omega,by omega⟩
 show wpAny _ _ (if (((sIx items.size 0 lo:Nat):Int)==0&&(1:Int)==1&&(sIx items.size items.size hi-sIx items.size 0 lo)==items.size)=true then _ else _) _ _ s;rw [Qa hno,Zlw]
 first
  |exact Qb (m:=Builtin.Tuple.tupleExact _) (Q8 (Qe ⟨_,rfl,Qe h⟩) htake)
  |exact Qb (m:=Builtin.Tuple.tupleExact _) (Q8 (Qb (Qe (Qe ⟨_,rfl,Qe h⟩))) htake)
  |exact Qb (Qb (m:=Builtin.Tuple.tupleExact _) (Q8 (Qe (Qe ⟨_,rfl,Qe h⟩)) htake))
  |exact Qb (Qb (m:=Builtin.Tuple.tupleExact _) (Q8 (Qe ⟨_,rfl,Qe h⟩) htake))
end
end HT
namespace L2
open PySem PySem.Spec PyProof.Rows
abbrev TO:=St->Hp->(Option Int->Hp->Prop)->Prop
def PO (X:Cx) (e:Option Expr) (t:TO):Prop :=
 ∀(pins:List (Addr×Obj)) (s:Shared) (σ:St) (H:Hp) (Q:Option Int->Hp->Prop),Inv X pins σ H s->t σ H Q →
  wpAny (model X.prog X.w) X.A (evalPart e X.env) (fun u s'=>∃o H',Inv X pins σ H' s'∧IsPart u o∧Q o H') X.xe s
def U8:TO:=fun _ H Q=>Q none H
def Zjk (t:TE):TO:=fun σ H Q=>t σ H fun x H1=>∃i,x=.int i∧Q (some i) H1
section
variable {X:Cx} {e:Expr} {te:TE} {lo hi:Option Expr} {tl th:TO} {pos p2:Pos}
theorem J2:PO X none U8:=by
 intro pins s σ H Q I h;rw [evalPart_none];exact Qe ⟨none,H,I,.none,h⟩
theorem W9 (h:PE X e te):PO X (some e) (Zjk te):=by
 intro pins s σ H Q I hw;rw [evalPart_some];refine Zo (h pins s σ H _ I hw) fun u s1 ⟨x,H1,I1,r1,q1⟩=>?_;obtain ⟨i,rfl,q⟩:=q1;obtain ⟨t,rfl⟩:=r1;exact ⟨some i,H1,I1,.int i t,q⟩
def SlR (X:Cx) (r:V->Option Int->Option Int->Hp->VK->Prop):Prop :=
 ∀(pins:List (Addr×Obj)) (s:Shared) (σ:St) (H:Hp) (x:V) (v vl vu:Value) (lo hi:Option Int) (sl:Addr) (Q:VK),Inv X pins σ H s->RelV x v->s.heap.IsSliceOf sl vl vu .none->IsPart vl lo->IsPart vu hi->r x lo hi H Q →
  ∃T id,typeLookup (.type T) "__getitem__"=pure (some (.builtin id))∧s.TypeIs v T∧wpAny (model X.prog X.w) X.A (getItem v (.ref sl)) (EP X pins σ Q) X.xe s
def tSl (r:V->Option Int->Option Int->Hp->VK->Prop) (te:TE) (tl th:TO):TE:=fun σ H Q=>te σ H fun x H1=>tl σ H1 fun l H2=>th σ H2 fun u H3=>r x l u H3 Q
theorem Ue {r:V->Option Int->Option Int->Hp->VK->Prop} (hr:SlR X r) (he:PE X e te) (hl:PO X lo tl) (hu:PO X hi th):PE X (.Subscript e (.Slice lo hi none p2) pos) (tSl r te tl th):=by
 intro pins s σ H Q I h;refine Subscript_ (Zo (he pins s σ H _ I h) fun v s1 ⟨x,H1,I1,r1,q1⟩=>?_);refine wpAny_Slice (Zo (hl pins s1 σ H1 _ I1 q1) fun vl s2 ⟨l,H2,I2,pl,q2⟩=>Zo (hu pins s2 σ H2 _ I2 q2) fun vu s3 ⟨u,H3,I3,pu,q3⟩=>?_);rw [evalPart_none];refine Qe ?_;have I4:Inv X pins σ H3 { s3 with heap:=s3.heap.push { cls:=.type "slice",data:=.fields #[vl,vu,.none] } }:=I3.kept (t':=s3.toks) fun b ob q=>Qj _ q;obtain ⟨T,id,hT,ht,hg⟩:=hr pins { s3 with heap:=s3.heap.push { cls:=.type "slice",data:=.fields #[vl,vu,.none] } } σ H3 x v vl vu l u s3.heap.objs.size Q I4 r1 (Heap.IsSliceOf.new ..) pl pu q3;show wpAny (model X.prog X.w) X.A (subscriptTail e (.Slice lo hi none p2) v (.ref s3.heap.objs.size)) (EP X pins σ Q) X.xe { s3 with heap:=s3.heap.push { cls:=.type "slice",data:=.fields #[vl,vu,.none] } };exact tail_any (ops:=[.ref s3.heap.objs.size,v]) ht hT hg (by with_unfolding_all rfl)
noncomputable def XR (xs:List V) (lo hi:Option Int):List V:=(xs.drop (HT.sIx xs.length 0 lo)).take (HT.sIx xs.length xs.length hi-HT.sIx xs.length 0 lo)
theorem Zgj (xs:List V) (lo hi:Option Int):(XR xs lo hi).length≤xs.length:=by
 unfold XR;rw [QZ,GY];omega
def ZgT (K:W.Frag):V->Option Int->Option Int->Hp->VK->Prop:=fun x lo hi H Q=>∃a xs,x=.ref a∧SqT K H a xs ∧
 ¬(HT.sIx xs.length 0 lo=0∧HT.sIx xs.length xs.length hi=xs.length)∧∀p,H p=none->Q (.ref p) (Zb H p (.tup (XR xs lo hi)))
theorem J4:SlR X (ZgT X.K):=by
 intro pins s σ H x v vl vu lo hi sl Q I rx hs pl pu h;obtain ⟨a,xs,rfl,hx,hw,q⟩:=h;cases rx;obtain ⟨its,r,ht,hz⟩:=I.tuple hx;have hlen:its.toArray.size=xs.length:=by rw [Qv];exact r.length.symm
 refine ⟨"tuple",_,GZ.lookup,ht.typeIs,?_⟩;refine HT.getItem_tuple_cut ht hs pl pu (by rw [hlen];exact hw) ?_ (by rw [hlen];exact hz);rw [hlen];refine ⟨.ref s.heap.objs.size,_,I.laid (t':=s.toks) (o:=.tup (XR xs lo hi)) (fun b ob q=>Qj _ q) (Qf _) ?_,rfl,q _ (I.hok.fresh (Qf _))⟩;exact ⟨Qm (Zgj xs lo hi) hz,_,(r.drop (HT.sIx xs.length 0 lo)).take (HT.sIx xs.length xs.length hi-HT.sIx xs.length 0 lo),IsTup.new _ _⟩
def Zi2 (K:W.Frag):R2:=fun x y H Q=>∃a b xs ys,x=.ref a∧y=.ref b∧SqT K H a xs∧SqT K H b ys∧xs≠[]∧xs.length+ys.length≤sizeLine ∧
 (ys=[]->Q (.ref a) H)∧(ys≠[]->∀p,H p=none->Q (.ref p) (Zb H p (.tup (xs++ys))))
theorem Vals.nil_iff {xs:List V} {us:List Value} (r:Vals xs us):us=[]↔xs=[]:=by
 cases r with
 |nil=>simp
 |cons _ _=>simp
theorem ZnV:Ye X (binaryOp .Add) (Zi2 X.K):=by
 intro pins s σ H x y v u Q I rx ry h;obtain ⟨a,b,xs,ys,rfl,rfl,ha,hb,hx,hz,q1,q2⟩:=h;cases rx;cases ry;obtain ⟨its,r1,p1,_⟩:=I.tuple ha;obtain ⟨its2,r2,p2,_⟩:=I.tuple hb;refine HT.cat_tup p1 p2 (fun z=>hx (r1.nil_iff.mp z)) (fun z=>⟨.ref a,H,I,rfl,q1 (r2.nil_iff.mp z)⟩) (fun z=>?_) (by rw [←r1.length,←r2.length];exact hz);refine ⟨.ref s.heap.objs.size,_,I.laid (t':=s.toks) (o:=.tup (xs++ys)) (fun b ob q=>Qj _ q) (Qf _) ?_,rfl,q2 (fun w=>z (r2.nil_iff.mpr w)) _ (I.hok.fresh (Qf _))⟩;exact ⟨by rw [Qx];exact hz,_,r1.append r2,IsTup.new _ _⟩
end
noncomputable def Ux (n:Nat) (i:Int):Option Nat:=if 0≤i then (if i<n then some i.toNat else none) else if -(n:Int)≤i then some (i+n).toNat else none
noncomputable def Yu {α:Type} (xs:List α) (i:Int):Option α:=(Ux xs.length i).bind fun j=>xs[j]?
theorem ZnH {n:Nat} {i:Int} {j:Nat} (h:Ux n i=some j):seqIndex? i n=some j∧j<n∧-(n:Int)≤i∧i<n:=by
 unfold Ux at h;by_cases h0:0≤i
 ·rw [Qc h0] at h;by_cases h1:i<n
  ·rw [Qc h1] at h;have e:i.toNat=j:=Qt h;exact ⟨by rw [seqIndex_of h0 h1,e],by omega,by omega,h1⟩
  ·rw [Qa h1] at h;cases h
 ·rw [Qa h0] at h;by_cases h1:-(n:Int)≤i
  ·rw [Qc h1] at h;have e:(i+n).toNat=j:=Qt h;exact ⟨by rw [seqIndex_neg (by omega) h1,e],by omega,h1,by omega⟩
  ·rw [Qa h1] at h;cases h
theorem ZdS {α:Type} {xs:List α} {i:Int} {v:α} (h:Yu xs i=some v):∃j,seqIndex? i xs.length=some j∧xs[j]?=some v∧j<xs.length∧-(xs.length:Int)≤i∧i<xs.length:=by
 unfold Yu at h;cases e:Ux xs.length i with
 |none=>rw [e] at h;cases h
 |some j =>
  rw [e] at h;obtain ⟨h1,h2,h3,h4⟩:=ZnH e;exact ⟨j,h1,h,h2,h3,h4⟩
theorem XI {α:Type} {xs:List α} {j:Nat} {v:α} (h:xs[j]?=some v):Yu xs (j:Int)=some v:=by
 have hj:j<xs.length:=(QF.mp h).1
 have e:Ux xs.length (j:Int)=some j:=by
  unfold Ux;rw [Qc (by omega),Qc (by omega)];simp
 unfold Yu;rw [e];exact h
def Zjs (b:Expr):Prop:=∀o i,subscripted b false o i=operate [o,i] (getItem o i)
def UW (X:Cx) (r:R2):Prop :=
 ∀(value slice:Expr) (pins:List (Addr×Obj)) (s:Shared) (σ:St) (H:Hp) (x y:V) (v u:Value) (Q:VK),Inv X pins σ H s->RelV x v->RelV y u->r x y H Q →
  subscripted slice false v u=operate [v,u] (getItem v u)->wpAny (model X.prog X.w) X.A (subscriptTail value slice v u) (EP X pins σ Q) X.xe s
def Uf (X:Cx) (id:String) (r:V->List V->Hp->VK->Prop):Prop :=
 ∀(pins:List (Addr×Obj)) (s:Shared) (σ:St) (H:Hp) (x:V) (xs:List V) (v:Value) (us:List Value) (Q:VK),Inv X pins σ H s->RelV x v->Vals xs us->r x xs H Q →
  wpAny (model X.prog X.w) X.A (call (.builtin id) (v::us)) (EP X pins σ Q) X.xe s
section
variable {X:Cx} {a b:Expr} {ta tb:TE} {pos:Pos}
theorem Zm {r:R2} (hr:UW X r) (ha:PE X a ta) (hb:PE X b tb) (hs:Zjs b):PE X (.Subscript a b pos) (tOp r ta tb):=by
 intro pins s σ H Q I h;exact Subscript_ (Zbz ha hb I h fun v u s2 x y H2 I2 rx ry q=>hr a b pins s2 σ H2 x y v u Q I2 rx ry q (hs _ _))
def ZnI (K:W.Frag):R2:=fun x y H Q=>∃p xs i v,x=.ref p∧y=.int i∧SqL K H p xs∧Yu xs i=some v∧Q v H
def ZfJ (K:W.Frag):R2:=fun x y H Q=>∃p xs i v,x=.ref p∧y=.int i∧SqT K H p xs∧Yu xs i=some v∧Q v H
def Zmy:R2:=fun x y H Q=>∃z i c,x=.str z∧y=.int i∧z.length≤sizeLine∧Yu z.cps.toList i=some c∧Q (.str ⟨#[c]⟩) H
theorem Ys:UW X (ZnI X.K):=by
 intro value slice pins s σ H x y v u Q I rx ry h hs;obtain ⟨p,xs,i,z,rfl,rfl,hq,he,q⟩:=h;cases rx;obtain ⟨t,rfl⟩:=ry;obtain ⟨its,r,pl,hz⟩:=I.list hq;obtain ⟨j,h1,h2,h3,h4,h5⟩:=ZdS he;obtain ⟨w,ew,rw'⟩:=r.get h2;have hl:=r.length;have hn:=Jx;have fin:EP X pins σ Q w s:=⟨z,H,I,rw',q⟩;by_cases h0:0≤i
 ·have hj:i.toNat=j:=by
   rw [seqIndex_of h0 h5] at h1;exact Qt h1
  exact item_listR pl.isList h0 (by omega) (by rw [hj];simpa using ew) fin hs
 ·have hj:(i+(its.toArray.size:Int)).toNat=j:=by
   rw [seqIndex_neg (by omega) h4] at h1;rw [Qv,←hl];exact Qt h1
  exact subscriptTail_builtinR (x:=w) pl.isList.typeIs slot_list_getitem.lookup
   (wpAny_getItem_list_neg (Q:=fun r s'=>r=w∧EP X pins σ Q r s') pl.isList (by omega) (by rw [Qv]<;>omega) (by omega) (by rw [hj];simpa using ew) ⟨rfl,fin⟩) hs
theorem Zp:UW X (ZfJ X.K):=by
 intro value slice pins s σ H x y v u Q I rx ry h hs;obtain ⟨p,xs,i,z,rfl,rfl,hq,he,q⟩:=h;cases rx;obtain ⟨t,rfl⟩:=ry;obtain ⟨its,r,pl,hz⟩:=I.tuple hq;obtain ⟨j,h1,h2,h3,h4,h5⟩:=ZdS he;obtain ⟨w,ew,rw'⟩:=r.get h2;have hl:=r.length;have hn:=Jx;have fin:EP X pins σ Q w s:=⟨z,H,I,rw',q⟩
 exact subscriptTail_builtinR (x:=w) pl.typeIs slot_tuple_getitem.lookup
  (getItem_tuple (j:=j) (Q:=fun r s'=>r=w∧EP X pins σ Q r s') pl (by omega) (by omega) (by rw [Qv,←hl];exact h1) (by simpa using ew) ⟨rfl,fin⟩) hs
theorem Zaa:UW X Zmy:=by
 intro value slice pins s σ H x y v u Q I rx ry h hs;obtain ⟨z,i,c,rfl,rfl,hz,he,q⟩:=h;obtain ⟨t,rfl⟩:=rx;obtain ⟨t',rfl⟩:=ry;obtain ⟨j,h1,h2,h3,h4,h5⟩:=ZdS he;have hl:z.cps.toList.length=z.length:=by simp [Str.length]
 rw [hl] at h1 h4 h5;have hn:=Jx
 exact tail_any (RT s z t) slot_str_getitem.lookup (getItem_str (c:=c) (by
  have e1:decide (i< -(2 ^ 63:Int))=false:=Qk (by omega);have e2:decide (i ≥ 2 ^ 63)=false:=Qk (by omega);rw [e1,e2,Bool.or_false]) (by rw [h1];simpa using h2) ⟨.str ⟨#[c]⟩,H,I.tok _,⟨_,rfl⟩,q⟩) hs
theorem Zmz (lo hi:Option Int) (n:Nat):(sliceBounds lo hi none n).1=((HT.sIx n 0 lo:Nat):Int)∧(sliceBounds lo hi none n).2.1=((HT.sIx n n hi:Nat):Int)∧(sliceBounds lo hi none n).2.2=1:=by
 refine ⟨?_,?_,rfl⟩
 ·cases lo with
  |none=>simp [sliceBounds,HT.sIx]
  |some i =>
   simp only [sliceBounds,HT.sIx,Option.getD_none,show (1:Int) > 0 by decide,Q0];by_cases h:i<0
   ·simp only [h,Q0]<;>omega
   ·simp only [h,QQ]<;>omega
 ·cases hi with
  |none=>simp [sliceBounds,HT.sIx]
  |some i =>
   simp only [sliceBounds,HT.sIx,Option.getD_none,show (1:Int) > 0 by decide,Q0];by_cases h:i<0
   ·simp only [h,Q0]<;>omega
   ·simp only [h,QQ]<;>omega
theorem Zop (its:List Value) (lo hi:Option Int):slicePick its.toArray lo hi none=((its.drop (HT.sIx its.length 0 lo)).take (HT.sIx its.length its.length hi-HT.sIx its.length 0 lo)).toArray:=by
 obtain ⟨h1,h2,h3⟩:=Zmz lo hi its.toArray.size;unfold slicePick;rw [h1,h2,h3];simp only [sliceRange_one,pick_run,Qv]<;>rfl
def Zni (K:W.Frag):V->Option Int->Option Int->Hp->VK->Prop:=fun x lo hi H Q=>∃a xs,x=.ref a∧SqL K H a xs∧∀p,H p=none->Q (.ref p) (Zb H p (.lst (XR xs lo hi)))
theorem Zmm:SlR X (Zni X.K):=by
 intro pins s σ H x v vl vu lo hi sl Q I rx hs pl pu h;obtain ⟨a,xs,rfl,hx,q⟩:=h;cases rx;obtain ⟨its,r,ht,hz⟩:=I.list hx;have hlen:=r.length;refine ⟨"list",_,slot_list_getitem.lookup,ht.isList.typeIs,?_⟩;refine wpAny_getItem_list_slice ht.isList hs pl pu .none (by simp) ?_ (by rw [Qv]<;>omega);rw [Zop,←hlen];refine ⟨.ref s.heap.objs.size,_,I.laid (t':=s.toks) (o:=.lst (XR xs lo hi)) (fun b ob q=>Qj _ q) (Qf _) ?_,rfl,q _ (I.hok.fresh (Qf _))⟩;exact ⟨Qm (Zgj xs lo hi) hz,_,0,(r.drop (HT.sIx xs.length 0 lo)).take (HT.sIx xs.length xs.length hi-HT.sIx xs.length 0 lo),Qs _ rfl⟩
noncomputable def WW:V->Bool
 |.non=>true
 |.bl _=>true
 |.int _=>true
 |.str _=>true
 |_=>false
noncomputable def Yq:V->V->Bool
 |.non,.non=>true
 |.bl a,.bl b=>a==b
 |.bl a,.int b=>(if a then 1 else 0)==b
 |.int a,.bl b=>a==(if b then 1 else 0)
 |.int a,.int b=>a==b
 |.str a,.str b=>a==b
 |_,_=>false
theorem Zbb {A:Around} {s:Shared} {y x:V} {u v:Value} (ry:RelV y u) (rx:RelV x v) (fy:WW y=true) (fx:WW x=true):SeqAt.EqAt A s u v (Yq y x):=by
 cases y with
 |non =>
  cases ry;cases x with
  |non=>cases rx;exact SeqAt.EqAt.same _
  |bl b=>cases rx;exact SeqAt.EqAt.none_bool b
  |int b=>obtain ⟨t,rfl⟩:=rx;exact SeqAt.EqAt.none_int b t
  |str b=>obtain ⟨t,rfl⟩:=rx;exact SeqAt.EqAt.none_str b t
  |_=>exact absurd (show false=true from fx) QB
 |bl a =>
  cases ry;cases x with
  |non=>cases rx;exact SeqAt.EqAt.bool_none a
  |bl b=>cases rx;exact SeqAt.EqAt.bool_bool a b
  |int b=>obtain ⟨t,rfl⟩:=rx;exact SeqAt.EqAt.bool_int a b t
  |str b=>obtain ⟨t,rfl⟩:=rx;exact SeqAt.EqAt.bool_str a b t
  |_=>exact absurd (show false=true from fx) QB
 |int a =>
  obtain ⟨t',rfl⟩:=ry;cases x with
  |non=>cases rx;exact SeqAt.EqAt.int_none a t'
  |bl b=>cases rx;exact SeqAt.EqAt.int_bool a t' b
  |int b=>obtain ⟨t,rfl⟩:=rx;exact SeqAt.EqAt.int_int a t' b t
  |str b=>obtain ⟨t,rfl⟩:=rx;exact SeqAt.EqAt.int_str a t' b t
  |_=>exact absurd (show false=true from fx) QB
 |str a =>
  obtain ⟨t',rfl⟩:=ry;cases x with
  |non=>cases rx;exact SeqAt.EqAt.str_none a t'
  |bl b=>cases rx;exact SeqAt.EqAt.str_bool a t' b
  |int b=>obtain ⟨t,rfl⟩:=rx;exact SeqAt.EqAt.str_int a t' b t
  |str b=>obtain ⟨t,rfl⟩:=rx;exact SeqAt.EqAt.str_str a t' b t
  |_=>exact absurd (show false=true from fx) QB
 |_=>exact absurd (show false=true from fy) QB
noncomputable def WJ (x:V) (u:Value):Bool:=match u with
 |.none=>Yq .non x
 |.bool b=>Yq (.bl b) x
 |.int i _=>Yq (.int i) x
 |.str z _=>Yq (.str z) x
 |_=>false
theorem Zfj {x y:V} {u:Value} (r:RelV y u) (f:WW y=true):WJ x u=Yq y x:=by
 cases y with
 |non=>cases r;rfl
 |bl b=>cases r;rfl
 |int i=>obtain ⟨t,rfl⟩:=r;rfl
 |str z=>obtain ⟨t,rfl⟩:=r;rfl
 |_=>exact absurd (show false=true from f) QB
theorem Zdf {x:V}:∀{xs:List V} {us:List Value},Vals xs us->xs.all WW=true->us.any (WJ x)=xs.any fun y=>Yq y x
 |_,_,.nil,_=>rfl
 |y::xs,u::us,.cons r t,f=>by
  rw [Gz,Rk] at f;rw [Rc,Rc,Zfj r f.1,Zdf t f.2]
theorem ZcG {A:Around} {s:Shared} {x:V} {v:Value} (rx:RelV x v) (fx:WW x=true):∀{xs:List V} {us:List Value},Vals xs us->xs.all WW=true->∀u∈us,SeqAt.EqAt A s u v (WJ x u)
 |_,_,.nil,_=>fun u hu=>by cases hu
 |y::xs,u::us,.cons r t,f=>fun u' hu=>by
  rw [Gz,Rk] at f;rcases Qh.mp hu with rfl|hu
  ·rw [Zfj r f.1];exact Zbb r rx f.1 fx
  ·exact ZcG rx fx t f.2 u' hu
noncomputable def XW (x:V) (xs:List V):Bool:=xs.any fun y=>Yq y x
def rIn (K:W.Frag) (neg:Bool):R2:=fun x y H Q=>∃p xs,y=.ref p∧(SqL K H p xs∨SqT K H p xs)∧WW x=true∧xs.all WW=true∧Q (.bl (if neg then !XW x xs else XW x xs)) H
theorem Js:Ye X (compareOp .In) (rIn X.K false):=by
 intro pins s σ H x y v u Q I rx ry h;obtain ⟨p,xs,rfl,hq,fx,fs,q⟩:=h;cases ry;rcases hq with hq|hq
 ·obtain ⟨its,r,pl,hz⟩:=I.list hq;refine SeqAt.in_listAt (WJ x) pl.isList (fun w hw=>ZcG rx fx r fs w (by simpa using hw)) ⟨.bl _,H,I,rfl,?_⟩;rw [show its.toArray.any (WJ x)=its.any (WJ x) by simp,Zdf r fs];exact q
 ·obtain ⟨its,r,pl,hz⟩:=I.tuple hq;refine SeqAt.in_tupleAt (WJ x) pl (fun w hw=>ZcG rx fx r fs w (by simpa using hw)) ⟨.bl _,H,I,rfl,?_⟩;rw [show its.toArray.any (WJ x)=its.any (WJ x) by simp,Zdf r fs];exact q
theorem YO:YQ X (.builtin "len") (fun xs H Q=>∃p ys,xs=[.ref p]∧(SqL X.K H p ys∨SqT X.K H p ys)∧Q (.int ys.length) H):=by
 intro pins s σ H xs us Q I r h;obtain ⟨p,ys,rfl,hq,q⟩:=h;obtain ⟨u,rfl,rx⟩:=Xr r;cases rx;have hn:=Jx;rcases hq with hq|hq
 ·obtain ⟨its,r',pl,hz⟩:=I.list hq;have hlen:=r'.length;exact Calls.call_len_list pl.isList (by simp only [Qv]<;>omega) ⟨.int ys.length,H,I.tok _,⟨s.toks+1,by rw [Qv,hlen]⟩,q⟩
 ·obtain ⟨its,r',pl,hz⟩:=I.tuple hq;have hlen:=r'.length;exact len_tuple pl (by simp only [Qv]<;>omega) ⟨.int ys.length,H,I.tok _,⟨s.toks+1,by rw [Qv,hlen]⟩,q⟩
theorem ZgO:YQ X (.builtin "len") (fun xs H Q=>∃z,xs=[.str z]∧z.length≤sizeLine∧Q (.int z.length) H):=by
 intro pins s σ H xs us Q I r h;obtain ⟨z,rfl,hz,q⟩:=h;obtain ⟨u,rfl,t,rfl⟩:=Xr r;have hn:=Jx;exact len_str (by omega) ⟨.int z.length,H,I.tok _,⟨_,rfl⟩,q⟩
theorem ZaR:YQ X (.type "list") (fun xs H Q=>∃p ys,xs=[.ref p]∧(SqL X.K H p ys∨SqT X.K H p ys)∧∀l,H l=none->Q (.ref l) (Zb H l (.lst ys))):=by
 intro pins s σ H xs us Q I r h;obtain ⟨p,ys,rfl,hq,q⟩:=h;obtain ⟨u,rfl,rx⟩:=Xr r;cases rx
 have fin : ∀(its : List Value), Vals ys its → ys.length ≤ sizeLine → ∀(h' : Heap) (c' : Nat), (∀b o', s.heap.get? b=some o' → h'.get? b=some o') →
   h'.get? s.heap.objs.size=some { cls:=.type "list",dict:=none,data:=.seq its.toArray c',slots:=#[] }->EP X pins σ Q (.ref s.heap.objs.size) { s with heap:=h' }:=fun its r' hz h' c' kp e =>
  ⟨.ref s.heap.objs.size,_,I.laid (t':=s.toks) kp (Qf _) (show ObjOk X.prog X.w _ h' _ (.lst ys) from ⟨hz,its,c',r',e⟩),rfl,q _ (I.hok.fresh (Qf _))⟩
 rcases hq with hq|hq
 ·obtain ⟨its,r',pl,hz⟩:=I.list hq;have hlen:=r'.length;obtain ⟨o,ho,hc,n,hd⟩:=pl.isList;exact call_list_seq p (.inl rfl) ho hc hd (fun h' c' kp e=>fin its r' hz h' c' kp e) (by simp only [Qv]<;>omega)
 ·obtain ⟨its,r',pl,hz⟩:=I.tuple hq;have hlen:=r'.length;obtain ⟨o,ho,hc,n,hd⟩:=pl;exact call_list_seq p (.inr rfl) ho hc hd (fun h' c' kp e=>fin its r' hz h' c' kp e) (by simp only [Qv]<;>omega)
def tyV (K:W.Frag) (T:String) (x:V) (H:Hp):Prop:=match x with
 |.str _=>T="str"
 |.int _=>T="int"
 |.ref p => (T="list" ∧ ∃xs, SqL K H p xs) ∨ (T="tuple" ∧ ∃o, K.lookup p=some o ∧ o.cls=.type "tuple" ∧ o.dict=none) ∨
   (T="dict"∧((∃kvs,H p=some (.dK kvs))∨∃kvs,H p=some (.dT kvs)))∨(T="set"∧∃S n,H p=some (.set S n))
 |_=>False
theorem ZfZ {pins:List (Addr×Obj)} {σ:St} {H:Hp} {s:Shared} {T:String} {x:V} {v:Value} (I:Inv X pins σ H s) (r:RelV x v) (ty:tyV X.K T x H) :
  s.TypeIs v T∧∀a,v=.ref a->∃ob,s.heap.get? a=some ob∧ob.dict=none:=by
 cases x with
 |str z =>
  obtain ⟨t,rfl⟩:=r;cases (show T="str" from ty);exact ⟨RT s z t,fun _ e=>nomatch e⟩
 |int i =>
  obtain ⟨t,rfl⟩:=r;cases (show T="int" from ty);exact ⟨typeIs_int s i t,fun _ e=>nomatch e⟩
 |ref p =>
  cases r;rcases ty with ⟨rfl,xs,hq⟩|⟨rfl,o,hk,hc,hd⟩|⟨rfl,hk⟩|⟨rfl,S,n,hk⟩
  ·obtain ⟨its,_,pl,_⟩:=I.list hq;refine ⟨pl.isList.typeIs,fun a e=>?_⟩;cases e;obtain ⟨o,n,e,c,hd,_⟩:=pl;exact ⟨o,e,hd⟩
  ·refine ⟨⟨o,I.kIn p o hk,hc⟩,fun a e=>?_⟩;cases e;exact ⟨o,I.kIn _ o hk,hd⟩
  ·have z:∃o,s.heap.get? p=some o∧o.ExactDict:=by
    rcases hk with ⟨kvs,hk⟩|⟨kvs,hk⟩
    ·obtain ⟨_,_,_,_,o,_,_,e,ex,_⟩:=I.hok p _ hk;exact ⟨o,e,ex⟩
    ·obtain ⟨_,_,_,_,o,_,_,e,ex,_⟩:=I.hok p _ hk;exact ⟨o,e,ex⟩
   obtain ⟨o,e,ex⟩:=z;refine ⟨⟨o,e,ex.1⟩,fun a e2=>?_⟩;cases e2;exact ⟨o,e,ex.2.1⟩
  ·obtain ⟨o,_,_,_,e,ex,_⟩:=I.hok p _ hk;refine ⟨⟨o,e,ex.1⟩,fun a e2=>?_⟩;cases e2;exact ⟨o,e,ex.2.1⟩
 |_=>exact False.elim ty
def Zft (K:W.Frag) (T:String) (r:V->List V->Hp->VK->Prop) (to:TE):TE:=fun σ H Q=>to σ H fun x H1=>tyV K T x H1∧r x [] H1 Q
def tBM (K:W.Frag) (T:String) (r:V->List V->Hp->VK->Prop) (to:TE) (t:TA):TE:=fun σ H Q=>to σ H fun x H1=>tyV K T x H1∧t σ H1 fun xs H2=>r x xs H2 Q
variable {o e:Expr} {es:List Expr} {to:TE} {t:TA} {name:Str} {apos cpos:Pos} {T id:String} {r:V->List V->Hp->VK->Prop}
theorem Zjg (pa:PlainAttrs T) (slot:Slot T name id) (hty:typeOf (.builtin id)=pure (.type "method_descriptor")) (hm:Uf X id r) (ho:PE X o to)
  (hbase:attributeBase o name X.env (eval o X.env)=eval o X.env:=by rfl) (hline:(apos.endLine==cpos.line)=true:=by rfl):PE X (.Call (.Attribute o name apos) [] [] cpos) (Zft X.K T r to):=by
 intro pins s σ H Q I h;refine wpAny_Call_method0_late hbase hline (Zo (ho pins s σ H _ I h) fun v s1 ⟨x,H1,I1,r1,ty,q1⟩=>?_);obtain ⟨h1,h2⟩:=ZfZ I1 r1 ty;exact ⟨T,id,pa,slot,hty,h1,h2,GA rfl (PySem.evalArgs_none (hm pins s1 σ H1 x [] v [] Q I1 r1 .nil q1))⟩
theorem Wi (pa:PlainAttrs T) (slot:Slot T name id) (hty:typeOf (.builtin id)=pure (.type "method_descriptor")) (hm:Uf X id r) (ho:PE X o to) (ha:PA X (e::es) t)
  (hbase:attributeBase o name X.env (eval o X.env)=eval o X.env:=by rfl)
  (hfew:((backTo cpos (starEach (e::es) X.env)).all (fun x=>!x.1)&&(backToKw cpos (keywordEach [] X.env)).all (fun x=>x.1.isSome)
   && decide ((e::es).length+([]:List Keyword).length+(if ([]:List Keyword).isEmpty then 0 else 1)<30))=true:=by rfl)
  (hline:(apos.endLine==cpos.line)=true:=by rfl) (hs:starEach (e::es) X.env=(false,eval e X.env)::starEach es X.env:=by rfl) (hplain:(backTo cpos (starEach es X.env)).any (·.1)=false:=by rfl) :
  PE X (.Call (.Attribute o name apos) (e::es) [] cpos) (tBM X.K T r to t):=by
 intro pins s σ H Q I h;refine wpAny_Call_method_late hbase hfew hline rfl (Zo (ho pins s σ H _ I h) fun v s1 ⟨x,H1,I1,r1,ty,q1⟩=>?_);obtain ⟨h1,h2⟩:=ZfZ I1 r1 ty;refine ⟨T,id,pa,slot,hty,h1,h2,?_⟩;have hA:=ha cpos pins s1 σ H1 _ I1 q1;rw [hs] at hA ⊢;refine GA (by show (false||(backTo cpos (starEach es X.env)).any (·.1))=false;rw [hplain]<;>rfl) (GB ?_);exact Zo hA fun us s2 ⟨vs,H2,I2,r2,q2⟩=>hm pins s2 σ H2 x vs v us Q I2 r1 r2 q2
/- xs.append(e),list.index on a module's tuple .. are Uf facts of 06m -/
end
def MtM (X:Cx) (id:String) (r:V->List V->Hp->VK->Prop):Prop :=
 ∀(pins:List (Addr×Obj)) (s:Shared) (σ:St) (H:Hp) (x:V) (xs:List V) (v:Value) (us:List Value) (Q:VK),Inv X pins σ H s->RelV x v->Vals xs us->r x xs H Q →
  wpAny (model X.prog X.w) X.A (call (.builtin id) (v::us)) (EP X pins σ Q) X.xe s
theorem Vals.one:∀{x:V} {us:List Value},Vals [x] us->∃u,us=[u]∧RelV x u
 |_,_,.cons r .nil=>⟨_,rfl,r⟩
section
variable {X:Cx} {pins:List (Addr×Obj)} {σ:St} {H:Hp} {s:Shared} {l b:Addr} {xs ys zs:List V}
theorem Inv.lset {its its':List Value} {n:Nat} {f:Array Value->Array Value} {t':Nat} (I:Inv X pins σ H s) (hH:H l=some (.lst xs))
  (e:s.heap.get? l=some { cls:=.type "list",data:=.seq its.toArray n }) (hf:f its.toArray=its'.toArray) (hv:Vals ys its') (hz:ys.length≤sizeLine) :
  Inv X pins σ (Zb H l (.lst ys)) { s with heap:=s.heap.update l (Obj.mapSeq f),toks:=t' }:=by
 have q:=PySem.IsL.update e f;rw [hf] at q;refine I.write (x:=l) (e:=l) (by rw [hH];exact trivial) (.inl rfl) (fun b' u hb hu=>(Heap.get?_update_other s.heap (Obj.mapSeq f) (QX hb)).trans hu) ⟨_,q⟩ ?_;exact ⟨hz,its',_,hv,q⟩
theorem Inv.lnew {its:List Value} {t':Nat} (I:Inv X pins σ H s) (hv:Vals ys its) (hz:ys.length≤sizeLine) :
  Inv X pins σ (Zb H s.heap.objs.size (.lst ys)) { s with heap:=s.heap.push { cls:=.type "list",data:=.seq its.toArray },toks:=t' } :=
 I.laid (fun _ _ q=>Qj _ q) (Qf _) ⟨hz,its,0,hv,Qs _ rfl⟩
theorem Inv.fresh (I:Inv X pins σ H s):H s.heap.objs.size=none:=I.hok.fresh (Qf _)
theorem Inv.lstM (I:Inv X pins σ H s) (hH:H l=some (.lst xs)):xs.length≤sizeLine∧∃(its:List Value) (n:Nat),Vals xs its∧xs.length=its.length∧s.heap.get? l=some { cls:=.type "list",data:=.seq its.toArray n }:=by
 obtain ⟨z,its,n,r,e⟩:=I.hok l _ hH;exact ⟨z,its,n,r,r.length,e⟩
end
section
variable {X:Cx}
def ZlE:V->List V->Hp->VK->Prop:=fun x vs H Q=>∃l xs y,x=.ref l∧vs=[y]∧H l=some (.lst xs)∧xs.length<sizeLine∧Q .non (Zb H l (.lst (xs++[y])))
theorem X4:MtM X "list.append" ZlE:=by
 intro pins s σ H x vs v us Q I rx rv h;obtain ⟨l,xs,y,rfl,rfl,hH,hz,q⟩:=h;cases rx;obtain ⟨u,rfl,ru⟩:=rv.one;obtain ⟨z,its,n,r,hl,e⟩:=I.lstM hH;refine call_meets F.slot_list_append ⟨_,e,rfl⟩ F.entry_list_append (F.args_list_append_2 _ _) (PySem.list_append l its.toArray n u (by rw [Qv];omega)) ⟨e,?_⟩;refine ⟨.non,_,I.lset (its':=its++[u]) hH e (by simp) (r.append (.cons ru .nil)) ?_,rfl,q⟩;rw [Qx,List.length_singleton];omega
def ZjG:R2:=fun x y H Q=>∃l b xs zs,x=.ref l∧y=.ref b∧H l=some (.lst xs)∧H b=some (.lst zs)∧xs.length+zs.length≤sizeLine∧∀p,H p=none->Q (.ref p) (Zb H p (.lst (xs++zs)))
theorem ZkJ:Ye X (binaryOp .Add) ZjG:=by
 intro pins s σ H x y v u Q I rx ry h;obtain ⟨l,b,xs,zs,rfl,rfl,hH,hB,hz,q⟩:=h;cases rx;cases ry;obtain ⟨z,its,n,r,hl,e⟩:=I.lstM hH;obtain ⟨z2,its2,n2,r2,hl2,e2⟩:=I.lstM hB;refine PySem.P.add_list e e2 ?_ (by rw [Qv,Qv];omega);have ea:its.toArray++its2.toArray=(its++its2).toArray:=by simp
 rw [ea];exact ⟨.ref _,_,I.lnew (t':=s.toks) (r.append r2) (by rw [Qx];omega),rfl,q _ I.fresh⟩
end
section
variable {prog:Program} {w:World} {A:Around} {E:Value->Shared->Prop} {s:Shared}
set_option maxRecDepth 100000 in
end
section
variable {X:Cx}
end
section
variable {κ:Type} [DecidableEq κ]
noncomputable def ZI (kvs:List (κ×V)) (k:κ):Option V:=(kvs.find? fun kv=>decide (kv.1=k)).map (·.2)
noncomputable def Yg (kvs:List (κ×V)) (k:κ) (v:V):List (κ×V) :=
 if (kvs.any fun kv=>decide (kv.1=k))=true then kvs.map (fun kv=>if kv.1=k then (kv.1,v) else kv) else kvs++[(k,v)]
theorem Xa {p:κ×V} {r:List (κ×V)} {k:κ} (e:p.1=k):ZI (p::r) k=some p.2:=by simp [ZI,Rt,e]
theorem XD {p:κ×V} {r:List (κ×V)} {k:κ} (e:¬p.1=k):ZI (p::r) k=ZI r k:=by simp [ZI,Rt,e]
theorem ZcV (k:κ):∀kvs:List (κ×V),(kvs.any fun kv=>decide (kv.1=k))=(ZI kvs k).isSome
 |[]=>rfl
 |p::r=>by
  rw [Rc];by_cases e:p.1=k
  ·simp only [Xa e,Ql e,Bool.true_or,Option.isSome_some]
  ·rw [XD e,Qk e,Bool.false_or];exact ZcV k r
theorem ZdK (kvs:List (κ×V)) (k:κ) (v:V):(Yg kvs k v).length≤kvs.length+1:=by
 unfold Yg;split
 ·rw [Qd];omega
 ·rw [Qx,QJ,GC];omega
theorem VQ {kvs:List (κ×V)} {k:κ} (v:V) (h:ZI kvs k=none):Yg kvs k v=kvs++[(k,v)]:=by
 unfold Yg;rw [ZcV,h];exact Qa (by decide)
theorem RelO.isSome_eq {o:Option V} {u:Option Value} (r:RelO o u):o.isSome=u.isSome:=by
 cases o with
 |none=>cases u with
  |none=>rfl
  |some _=>exact (show False from r).elim
 |some _=>cases u with
  |none=>exact (show False from r).elim
  |some _=>rfl
theorem RelO.getD {o:Option V} {u:Option Value} {d:V} {d':Value} (r:RelO o u) (rd:RelV d d'):RelV (o.getD d) (u.getD d'):=by
 cases o with
 |none=>cases u with
  |none=>exact rd
  |some _=>exact (show False from r).elim
 |some _=>cases u with
  |none=>exact (show False from r).elim
  |some _=>exact r
theorem KV.val {kvs:List (κ×V)} {vs:List (κ×Value)} (r:KV kvs vs) (k:κ):RelO (ZI kvs k) (valueAt vs k):=by
 unfold KV at r
 induction r with
 |nil=>exact True.intro
 |@cons p q ps qs h t ih =>
  obtain ⟨h1,h2⟩:=h;by_cases e:p.1=k
  ·have e':q.1=k:=h1.symm.trans e;have b:valueAt (q::qs) k=some q.2:=by simp [valueAt,Rt,e']
   rw [Xa e,b];exact h2
  ·have e':¬q.1=k:=fun z=>e (h1.trans z);have b:valueAt (q::qs) k=valueAt qs k:=by simp [valueAt,Rt,e']
   rw [XD e,b];exact ih
theorem KV.any {kvs:List (κ×V)} {vs:List (κ×Value)} (r:KV kvs vs) (k:κ):(kvs.any fun kv=>decide (kv.1=k))=vs.any fun kv=>decide (kv.1=k):=by
 unfold KV at r
 induction r with
 |nil=>rfl
 |cons h t ih=>rw [Rc,Rc,ih,h.1]
theorem KV.repl {kvs:List (κ×V)} {vs:List (κ×Value)} (r:KV kvs vs) (k:κ) {y:V} {u:Value} (ry:RelV y u) :
  KV (kvs.map fun kv=>if kv.1=k then (kv.1,y) else kv) (vs.map fun kv=>if kv.1=k then (kv.1,u) else kv):=by
 unfold KV at r ⊢
 induction r with
 |nil=>exact .nil
 |@cons p q ps qs h t ih =>
  rw [Qr,Qr];refine .cons ?_ ih;obtain ⟨h1,h2⟩:=h;by_cases e:p.1=k
  ·rw [Qc e,Qc (h1.symm.trans e)];exact ⟨h1,ry⟩
  ·rw [Qa e,Qa (fun z=>e (h1.trans z))];exact ⟨h1,h2⟩
theorem KV.put {kvs:List (κ×V)} {vs:List (κ×Value)} (r:KV kvs vs) (k:κ) {y:V} {u:Value} (ry:RelV y u):KV (Yg kvs k y) (stored vs k u):=by
 unfold Yg stored;rw [r.any k];by_cases e:(vs.any fun kv=>decide (kv.1=k))=true
 ·rw [Qc e,Qc e];exact r.repl k ry
 ·rw [Qa e,Qa e];exact Paired.snoc r ⟨rfl,ry⟩
theorem KV.length {kvs:List (κ×V)} {vs:List (κ×Value)} (r:KV kvs vs):kvs.length=vs.length:=Gp r
end
theorem VC {P:Program} {w:World} {k:Zi} {u:Value} (r:RelV (kV k) u):(Z1 P w).is k u=true:=by
 cases k with
 |inl i=>obtain ⟨t,e⟩:=(show ∃t,u=Value.int i t from r);subst e;exact Zjj P w i t
 |inr x=>obtain ⟨t,e⟩:=(show ∃t,u=Value.str x t from r);subst e;exact Zl0 P w x t
theorem Zhs {P:Program} {w:World}:∀{ks:List Zi} {us:List Value},Vals (ks.map kV) us->ItemsAre (Z1 P w) ks us
 |[],_,r=>by rw [GD] at r;cases r;exact .nil
 |k::ks,_,r=>by
  rw [Qr] at r;cases r with
  |cons h t=>exact .cons (VC h) (Zhs t)
abbrev KT (H:Hp):List (List Zi×V)->List (List Zi×Addr×Value)->Prop:=Paired fun p q=>p.1=q.1∧H q.2.1=some (.tup (p.1.map kV))∧RelV p.2 q.2.2
theorem KT.val {H:Hp} {kvs:List (List Zi×V)} {xs:List (List Zi×Addr×Value)} (r:KT H kvs xs) (k:List Zi):RelO (ZI kvs k) ((atKey xs k).map (·.2)):=by
 induction r with
 |nil=>exact True.intro
 |@cons p q ps qs h t ih =>
  obtain ⟨h1,_,h2⟩:=h;by_cases e:p.1=k
  ·have e':q.1=k:=h1.symm.trans e;have b:atKey (q::qs) k=some q.2:=by simp [atKey,Rt,e']
   rw [Xa e,b];exact h2
  ·have e':¬q.1=k:=fun z=>e (h1.trans z);have b:atKey (q::qs) k=atKey qs k:=by simp [atKey,Rt,e']
   rw [XD e,b];exact ih
theorem KT.repl {H:Hp} {kvs:List (List Zi×V)} {xs:List (List Zi×Addr×Value)} (r:KT H kvs xs) (k:List Zi) {y:V} {u:Value} (ry:RelV y u) :
  KT H (kvs.map fun kv=>if kv.1=k then (kv.1,y) else kv) (xs.map (putAt k u)):=by
 induction r with
 |nil=>exact .nil
 |@cons p q ps qs h t ih =>
  rw [Qr,Qr];refine .cons ?_ ih;obtain ⟨h1,h2,h3⟩:=h;unfold putAt;by_cases e:p.1=k
  ·rw [Qc e,Qc (h1.symm.trans e)];exact ⟨h1,h2,ry⟩
  ·rw [Qa e,Qa (fun z=>e (h1.trans z))];exact ⟨h1,h2,h3⟩
theorem KT.put {H:Hp} {kvs:List (List Zi×V)} {xs:List (List Zi×Addr×Value)} (r:KT H kvs xs) (k:List Zi) {b:Addr} {y:V} {u:Value} (hb:H b=some (.tup (k.map kV))) (ry:RelV y u) :
  KT H (Yg kvs k y) (storedH xs k b u):=by
 have e:(kvs.any fun kv=>decide (kv.1=k))=(atKey xs k).isSome:=by
  rw [ZcV,(r.val k).isSome_eq,G6]
 unfold Yg storedH;rw [e];by_cases q:(atKey xs k).isSome=true
 ·rw [Qc q,Qc q];exact r.repl k ry
 ·rw [Qa q,Qa q];exact Paired.snoc r ⟨rfl,hb,ry⟩
theorem KT.keeps {H H':Hp} {kvs:List (List Zi×V)} {xs:List (List Zi×Addr×Value)} (r:KT H kvs xs) (ht:∀b ys,H b=some (.tup ys)->H' b=some (.tup ys)):KT H' kvs xs :=
 Paired.mapP r fun _ _ z=>⟨z.1,ht _ _ z.2.1,z.2.2⟩
section
variable {P:Program} {w:World} {H:Hp} {h:Heap} {a:Addr}
theorem Zfn {u:HO} (ok:HOk P w H h) (e:Rd H a u):ObjOk P w H h a u:=e.ok ok
theorem W2 {kvs:List (Zi×V)} (ok:HOk P w H h) (e:Rd H a (.dK kvs)):kvs.length≤sizeLine∧(a==sysModules)=false∧∃vs,KV kvs vs∧h.DictOf (Z1 P w) a vs :=
 show ObjOk P w H h a (.dK kvs) from Zfn ok e
theorem WC {kvs:List (Zi×V)} (ok:HOk P w H h) (e:H a=some (.dK kvs)):kvs.length≤sizeLine∧(a==sysModules)=false∧∃vs,KV kvs vs∧h.DictOf (Z1 P w) a vs:=W2 ok (.inl e)
theorem Vv {ks:List Zi} (ok:HOk P w H h) (e:H a=some (.tup (ks.map kV))):(tupleKind (Z1 P w)).is h ks a:=by
 obtain ⟨_,its,r,o,h1,h2,n,h3⟩:=(show ObjOk P w H h a (.tup (ks.map kV)) from ok a _ e);exact ⟨o,its.toArray,n,h1,h2,h3,by simpa using Zhs r⟩
theorem Va {kvs:List (List Zi×V)} (ok:HOk P w H h) (e:Rd H a (.dT kvs)):kvs.length≤sizeLine∧(a==sysModules)=false ∧
  ∃xs,KT H kvs xs∧h.DictOfH (tupleKind (Z1 P w)) a xs:=by
 obtain ⟨z,y,xs,r,o,es,ep,h1,h2,h3,h4,h5⟩:=(show ObjOk P w H h a (.dT kvs) from Zfn ok e);refine ⟨z,y,xs,r,o,es,ep,h1,h2,h3,h4,fun x hx=>?_,h5⟩
 have all:∀{l:List (List Zi×V)} {m:List (List Zi×Addr×Value)},KT H l m->∀x∈m,(tupleKind (Z1 P w)).is h x.1 x.2.1:=by
  intro l m q
  induction q with
  |nil=>intro x hx;exact nomatch hx
  |@cons p q ps qs hq t ih =>
   intro x hx;rcases Qh.mp hx with e|hx
   ·subst e;exact Vv ok (by rw [←hq.1];exact hq.2.1)
   ·exact ih x hx
 exact all r x hx
theorem JC {kvs:List (List Zi×V)} (ok:HOk P w H h) (e:H a=some (.dT kvs)):kvs.length≤sizeLine∧(a==sysModules)=false ∧
  ∃xs,KT H kvs xs∧h.DictOfH (tupleKind (Z1 P w)) a xs:=Va ok (.inl e)
end
def DGet (H:Hp) (a:Addr) (y:V) (r:Option V):Prop :=
 (∃kvs k,Rd H a (.dK kvs)∧y=kV k∧r=ZI kvs k)∨∃kvs k b,Rd H a (.dT kvs)∧y=.ref b∧H b=some (.tup (k.map kV))∧r=ZI kvs k
def DPut (H:Hp) (a:Addr) (y v:V) (H':Hp):Prop :=
 (∃kvs k,H a=some (.dK kvs)∧y=kV k∧kvs.length<sizeLine∧H'=Zb H a (.dK (Yg kvs k v))) ∨
 ∃kvs k b,H a=some (.dT kvs)∧y=.ref b∧H b=some (.tup (k.map kV))∧kvs.length<sizeLine∧H'=Zb H a (.dT (Yg kvs k v))
theorem DGet.k {H:Hp} {a:Addr} {kvs:List (Zi×V)} {k:Zi} (e:H a=some (.dK kvs)):DGet H a (kV k) (ZI kvs k):=.inl ⟨kvs,k,.inl e,rfl,rfl⟩
theorem DGet.t {H:Hp} {a b:Addr} {kvs:List (List Zi×V)} {k:List Zi} (e:H a=some (.dT kvs)) (eb:H b=some (.tup (k.map kV))):DGet H a (.ref b) (ZI kvs k):=.inr ⟨kvs,k,b,.inl e,rfl,eb,rfl⟩
theorem DPut.k {H:Hp} {a:Addr} {kvs:List (Zi×V)} {k:Zi} {v:V} (e:H a=some (.dK kvs)) (hl:kvs.length<sizeLine):DPut H a (kV k) v (Zb H a (.dK (Yg kvs k v))):=.inl ⟨kvs,k,e,rfl,hl,rfl⟩
theorem DPut.t {H:Hp} {a b:Addr} {kvs:List (List Zi×V)} {k:List Zi} {v:V} (e:H a=some (.dT kvs)) (eb:H b=some (.tup (k.map kV))) (hl:kvs.length<sizeLine) :
  DPut H a (.ref b) v (Zb H a (.dT (Yg kvs k v))):=.inr ⟨kvs,k,b,e,rfl,eb,hl,rfl⟩
section
variable {X:Cx} {pins:List (Addr×Obj)} {σ:St} {H:Hp} {s:Shared} {a:Addr} {y v:V} {u r:Value} {o:Option V} {A:Around} {E:Value->Shared->Prop}
theorem Inv.big (I:Inv X pins σ H s):sysModules<s.heap.objs.size:=by
 have h:mainGlobals<s.heap.objs.size:=(I.mod.glob.keeps I.bk).lt;exact Nat.lt_trans (by decide) h
theorem Zmg {Q:Value->Shared->Prop} (hu:A.units+1<cLine) (I:Inv X pins σ H s) (g:DGet H a y (some v)) (ry:RelV y u) (h:∀w' s',Inv X pins σ H s'->RelV v w'->Q w' s') :
  wpAny (model X.prog X.w) A (getItem (.ref a) u) Q E s:=by
 rcases g with ⟨kvs,k,e,ey,l⟩|⟨kvs,k,b,e,ey,eb,l⟩
 ·subst ey;obtain ⟨z,hd,vs,rel,dd⟩:=W2 I.hok e;obtain ⟨w',hw,rw'⟩:=RelO.some_of (v:=v) (o:=valueAt vs k) (by rw [l];exact rel.val k);exact wpAny_getItem_of (VC ry) dd.mapOf hw (h w' _ (I.tok _) rw')
 ·subst ey;cases (show u=Value.ref b from ry);obtain ⟨z,hd,xs,rel,dd⟩:=Va I.hok e;obtain ⟨w',hw,rw'⟩:=RelO.some_of (v:=v) (o:=(atKey xs k).map (·.2)) (by rw [l];exact rel.val k);obtain ⟨p,hp,hp2⟩:=QL.mp hw;refine wpAny_getItem_heap (RU hu) (Vv I.hok eb) dd hp ?_;rw [hp2];exact h w' _ (I.tok _) rw'
theorem Zm1 {Q:Value->Shared->Prop} (hu:A.units+1<cLine) (I:Inv X pins σ H s) (g:DGet H a y o) (ry:RelV y u) (h:∀s',Inv X pins σ H s'->Q (.bool o.isSome) s') :
  wpAny (model X.prog X.w) A (compareOp .In u (.ref a)) Q E s:=by
 rcases g with ⟨kvs,k,e,ey,l⟩|⟨kvs,k,b,e,ey,eb,l⟩
 ·subst ey;obtain ⟨z,hd,vs,rel,dd⟩:=W2 I.hok e;refine wpAny_in_of (VC ry) hd dd.mapOf ?_;rw [←(rel.val k).isSome_eq,←l];exact h _ (I.tok _)
 ·subst ey;cases (show u=Value.ref b from ry);obtain ⟨z,hd,xs,rel,dd⟩:=Va I.hok e;refine wpAny_in_heap (RU hu) (Vv I.hok eb) hd dd ?_;have q:=(rel.val k).isSome_eq;rw [G6] at q;rw [←q,←l];exact h _ (I.tok _)
theorem Zk6 {Q:Value->Shared->Prop} (hu:A.units+1<cLine) (I:Inv X pins σ H s) (g:DGet H a y o) (ry:RelV y u) (h:∀s',Inv X pins σ H s'->Q (.bool (!o.isSome)) s') :
  wpAny (model X.prog X.w) A (compareOp .NotIn u (.ref a)) Q E s:=by
 rcases g with ⟨kvs,k,e,ey,l⟩|⟨kvs,k,b,e,ey,eb,l⟩
 ·subst ey;obtain ⟨z,hd,vs,rel,dd⟩:=W2 I.hok e;refine wpAny_notIn_of (VC ry) hd dd.mapOf ?_;rw [←(rel.val k).isSome_eq,←l];exact h _ (I.tok _)
 ·subst ey;cases (show u=Value.ref b from ry);obtain ⟨z,hd,xs,rel,dd⟩:=Va I.hok e;refine wpAny_notIn_heap (RU hu) (Vv I.hok eb) hd dd ?_;have q:=(rel.val k).isSome_eq;rw [G6] at q;rw [←q,←l];exact h _ (I.tok _)
theorem J3 {h':Heap} {t':Nat} {ob:HO} (I:Inv X pins σ H s) (mu:U9 (H a)) (hs:Heap.SameBut a s.heap h') (he:∃q,h'.get? a=some q) (new:ObjOk X.prog X.w (Zb H a ob) h' a ob) :
  Inv X pins σ (Zb H a ob) { s with heap:=h',toks:=t' } :=
 I.write (x:=a) (e:=a) mu (.inl rfl) (fun b q hb z=>(hs.2 b hb).trans z) he new
theorem ZeL {P:Program} {w:World} {H':Hp} {h':Heap} {kvs:List (Zi×V)} {vs:List (Zi×Value)} (z:kvs.length≤sizeLine) (hd:(a==sysModules)=false) (rel:KV kvs vs) (dd:h'.DictOf (Z1 P w) a vs) :
  ObjOk P w H' h' a (.dK kvs):=⟨z,hd,vs,rel,dd⟩
theorem Zlb {H':Hp} {Q:Unit->Shared->Prop} (hu:A.units+1<cLine) (I:Inv X pins σ H s) (g:DPut H a y v H') (ry:RelV y u) (rv:RelV v r) (h:∀s',Inv X pins σ H' s'->Q () s') :
  wpAny (model X.prog X.w) A (setItem (.ref a) u r) Q E s:=by
 rcases g with ⟨kvs,k,e,ey,l,eH⟩|⟨kvs,k,b,e,ey,eb,l,eH⟩
 ·subst ey eH;obtain ⟨z,hd,vs,rel,dd⟩:=WC I.hok e;have hz:vs.length≤sizeLine:=by rw [←rel.length];exact z
  have hl:(Yg kvs k v).length≤sizeLine:=by have:=ZdK kvs k v;omega
  refine wpAny_setItem_pairs (hsz:=hz) (VC ry) dd fun h' dd' hs=>h _ ?_;have he:∃q,h'.get? a=some q:=let ⟨q,_,_,hq,_⟩:=dd';⟨q,hq⟩;exact J3 I (by rw [e];exact True.intro) hs he (ZeL hl hd (rel.put k rv) dd')
 ·subst ey eH;cases (show u=Value.ref b from ry);obtain ⟨z,hd,xs,rel,dd⟩:=JC I.hok e;have hz:xs.length≤sizeLine:=by rw [←Gp rel];exact z
  have hl:(Yg kvs k v).length≤sizeLine:=by have:=ZdK kvs k v;omega
  refine wpAny_setItem_heap (hsz:=hz) (RU hu) (Vv I.hok eb) dd fun h' dd' hs=>h _ ?_;obtain ⟨q,es,ep,hq,h2,h3,h4,_,h5⟩:=dd';refine J3 I (by rw [e];exact True.intro) hs ⟨q,hq⟩ ⟨hl,hd,_,(rel.put k eb rv).keeps fun c ys ec=>?_,q,es,ep,hq,h2,h3,h4,h5⟩;rw [Zh (ZeU ec e (fun z=>nomatch z))];exact ec
end
section
variable {X:Cx} {pins:List (Addr×Obj)} {σ:St} {H:Hp} {s:Shared} {a:Addr} {kvs:List (Zi×V)} {k:Zi} {u:Value} {A:Around} {E:Value->Shared->Prop}
theorem ZhR {Q:Value->Shared->Prop} (I:Inv X pins σ H s) (e:Rd H a (.dK kvs)) (h:∀t s',Inv X pins σ H s'->Q (.int kvs.length t) s'):wpAny (model X.prog X.w) A (call (.builtin "len") [.ref a]) Q E s:=by
 obtain ⟨z,hd,vs,rel,dd⟩:=W2 I.hok e;refine call_len_dict hd dd (by rw [←rel.length];rw [RQ] at z;omega) ?_;rw [←rel.length];exact h _ _ (I.tok _)
end
def Zgb (i:Expr):Prop:=∀ov iv,subscripted i false ov iv=operate [ov,iv] (getItem ov iv)
theorem ZnX {prog:Program} {w:World} {A:Around} {E:Value->Shared->Prop} {s:Shared} {env:Env} {value slice:Expr} {pos:Pos} {T id:String} {Q:Value->Shared->Prop}
  (hl:typeLookup (.type T) "__getitem__"=pure (some (.builtin id))) (hs:Zgb slice)
  (h:wpAny (model prog w) A (eval value env) (fun o s₁=>wpAny (model prog w) A (eval slice env) (fun i s₂=>s₂.TypeIs o T∧wpAny (model prog w) A (getItem o i) Q E s₂) E s₁) E s) :
  wpAny (model prog w) A (eval (.Subscript value slice pos) env) Q E s:=by
 refine Subscript_ (Q5 h (fun o s₁ h₁=>Q5 h₁ (fun i s₂ h₂=>?_) fun _ _ x=>x) fun _ _ x=>x);obtain ⟨hT,h₂⟩:=h₂;unfold subscriptTail;refine Qb ?_;rw [getitemInPython_of_ne hT.not_modules];refine Qb (wpAny_specialOf hT hl ?_)
 have fin:wpAny (model prog w) A (subscripted slice false o i) (fun r s₃=>wpAny (model prog w) A (letTemporaryGo value o r >>= fun _=>pure r) Q E s₃) E s₂:=by
  rw [hs o i];exact wpAny_operating (Q5 h₂ (fun r s₃ h₃=>Qb (wpAny_letTemporaryGo (Qe h₃))) fun _ _ x=>x)
 first
  |exact Qe (Qb fin)
  |exact Qb (Qe (Qb fin))
  |exact Qb fin
theorem Zl8 {X:Cx} {pins:List (Addr×Obj)} {σ:St} {H:Hp} {s:Shared} {a:Addr} {y:V} {o:Option V} (I:Inv X pins σ H s) (g:DGet H a y o):s.TypeIs (.ref a) "dict":=by
 rcases g with ⟨kvs,k,e,_,_⟩|⟨kvs,k,b,e,_,_,_⟩
 ·obtain ⟨_,_,vs,_,dd⟩:=W2 I.hok e;exact dd.typeIs
 ·obtain ⟨_,_,xs,_,dd⟩:=Va I.hok e;exact dd.typeIs
def Ziy (td ty:TE):TE:=fun σ H Q=>td σ H fun x H1=>ty σ H1 fun y H2=>∃a v,x=.ref a∧DGet H2 a y (some v)∧Q v H2
def ZmV (ty td:TE):TE:=fun σ H Q=>ty σ H fun y H1=>td σ H1 fun x H2=>∃a o,x=.ref a∧DGet H2 a y o∧Q (.bl o.isSome) H2
def Zoh (ty td:TE):TE:=fun σ H Q=>ty σ H fun y H1=>td σ H1 fun x H2=>∃a o,x=.ref a∧DGet H2 a y o∧Q (.bl (!o.isSome)) H2
def ZkV (td ty tv:TE):TS:=fun D σ H=>tv σ H fun v H1=>td σ H1 fun x H2=>ty σ H2 fun y H3=>∃a H4,x=.ref a∧DPut H3 a y v H4∧D.nx σ H4
section
variable {X:Cx} {o i e value:Expr} {pos pos' tpos:Pos} {td ty tv:TE}
theorem Y8 (hu:X.A.units+1<cLine) (ho:PE X o td) (hi:PE X i ty) (hs:Zgb i):PE X (.Subscript o i pos) (Ziy td ty):=by
 intro pins s σ H Q I h;refine ZnX PySem.F.slot_dict_getitem.lookup hs (Zo (ho pins s σ H _ I h) fun u s1 ⟨x,H1,I1,rx,q1⟩=>Zo (hi pins s1 σ H1 _ I1 q1) fun iv s2 ⟨y,H2,I2,ry,a,v,ex,g,q2⟩=>?_);subst ex;obtain rfl:u=Value.ref a:=rx;exact ⟨Zl8 I2 g,Zmg hu I2 g ry fun w' s3 I3 rw'=>⟨v,H2,I3,rw',q2⟩⟩
theorem Zea (hu:X.A.units+1<cLine) (hi:PE X i ty) (ho:PE X o td):PC X .In i o (ZmV ty td):=by
 intro pins s σ H Q I h;refine Zo (hi pins s σ H _ I h) fun iv s1 ⟨y,H1,I1,ry,q1⟩=>Zo (ho pins s1 σ H1 _ I1 q1) fun u s2 ⟨x,H2,I2,rx,a,ov,ex,g,q2⟩=>?_;subst ex;obtain rfl:u=Value.ref a:=rx;exact Zm1 hu I2 g ry fun s3 I3=>⟨.bl ov.isSome,H2,I3,rfl,q2⟩
theorem Zg8 (hu:X.A.units+1<cLine) (hi:PE X i ty) (ho:PE X o td):PC X .NotIn i o (Zoh ty td):=by
 intro pins s σ H Q I h;refine Zo (hi pins s σ H _ I h) fun iv s1 ⟨y,H1,I1,ry,q1⟩=>Zo (ho pins s1 σ H1 _ I1 q1) fun u s2 ⟨x,H2,I2,rx,a,ov,ex,g,q2⟩=>?_;subst ex;obtain rfl:u=Value.ref a:=rx;exact Zk6 hu I2 g ry fun s3 I3=>⟨.bl (!ov.isSome),H2,I3,rfl,q2⟩
theorem Xs (hu:X.A.units+1<cLine) (ho:PE X o td) (hi:PE X i ty) (hv:PE X value tv) (hs:swapsWith value (some (.Subscript o i pos')) pos.line X.env=pure false) :
  PS X (.Assign [.Subscript o i pos'] value pos) (ZkV td ty tv):=by
 intro pins s σ H D I h;refine wpAny_Assign_Subscript (Zo (hv pins s σ H _ I h) fun r s1 ⟨v,H1,I1,rv,q1⟩=>Zo (ho pins s1 σ H1 _ I1 q1) fun u s2 ⟨x,H2,I2,rx,q2⟩=>Zo (hi pins s2 σ H2 _ I2 q2) fun iv s3 ⟨y,H3,I3,ry,a,H4,ex,g,q3⟩=>?_) hs;subst ex;obtain rfl:u=Value.ref a:=rx;exact Zlb hu I3 g ry rv fun s4 I4=>⟨σ,H4,I4,q3⟩
end
theorem Zfh {P:Program} {w:World} {H:Hp} (h:Heap) (hb:sysModules<h.objs.size):ObjOk P w H (h.push { cls:=.type "dict",data:=.dict #[] }) h.objs.size (.dK []) :=
 ⟨QO _,RG.mpr (QX (Qw hb)),[],.nil,Heap.DictOf.new h⟩
theorem ZoM {P:Program} {w:World} {H:Hp} (h:Heap) (hb:sysModules<h.objs.size):ObjOk P w H (h.push { cls:=.type "dict",data:=.dict #[] }) h.objs.size (.dT []) :=
 ⟨QO _,RG.mpr (QX (Qw hb)),[],.nil,_,#[],0,Qs _ rfl,⟨rfl,rfl,rfl⟩,rfl,rfl,List.nodup_nil⟩
def Zny:TE:=fun _ H Q=>∀p,H p=none->Q (.ref p) (Zb H p (.dK []))
def Zlk:TE:=fun _ H Q=>∀p,H p=none->Q (.ref p) (Zb H p (.dT []))
section
variable {X:Cx} {pos:Pos}
theorem Vg:PE X (.Dict [] [] pos) Zny:=fun pins s σ H Q I h =>
 wpAny_Dict_empty ⟨.ref s.heap.objs.size,_,I.laid (a:=s.heap.objs.size) (o:=.dK []) (t':=s.toks) (fun _ _ q=>Qj _ q) (Qf _) (Zfh s.heap I.big),rfl,h _ (I.hok.fresh (Qf _))⟩
theorem Vu:PE X (.Dict [] [] pos) Zlk:=fun pins s σ H Q I h =>
 wpAny_Dict_empty ⟨.ref s.heap.objs.size,_,I.laid (a:=s.heap.objs.size) (o:=.dT []) (t':=s.toks) (fun _ _ q=>Qj _ q) (Qf _) (ZoM s.heap I.big),rfl,h _ (I.hok.fresh (Qf _))⟩
end
def ZbF:List (TE×TE)->St->Hp->(List (V×V)->Hp->Prop)->Prop
 |[],_,H,Q=>Q [] H
 | (tk,tv)::r,σ,H,Q=>tk σ H fun x H1=>tv σ H1 fun y H2=>ZbF r σ H2 fun ps H3=>Q ((x,y)::ps) H3
abbrev VV:List (V×V)->List (Value×Value)->Prop:=Paired fun p q=>RelV p.1 q.1∧RelV p.2 q.2
def PPs (X:Cx) (pos:Pos) (keys:List (Option Expr)) (values:List Expr) (trs:List (TE×TE)):Prop :=
 ∀(pins:List (Addr×Obj)) (s:Shared) (σ:St) (H:Hp) (Q:List (V×V)->Hp->Prop),Inv X pins σ H s->ZbF trs σ H Q →
  wpAny (model X.prog X.w) X.A (evalPairs (pairTrees keys values X.env pos)) (fun vs s'=>∃ps H',Inv X pins σ H' s'∧VV ps vs∧Q ps H') X.xe s
theorem Zj4 {X:Cx} {pos:Pos}:PPs X pos [] [] []:=fun pins s σ H Q I h=>pairTrees_nil_walk ⟨[],H,I,.nil,h⟩
theorem Zob {X:Cx} {pos:Pos} {k v:Expr} {ks:List (Option Expr)} {vs:List Expr} {tk tv:TE} {trs:List (TE×TE)} (hk:PE X k tk) (hv:PE X v tv) (hr:PPs X pos ks vs trs) :
  PPs X pos (some k::ks) (v::vs) ((tk,tv)::trs):=fun pins s σ H Q I h =>
 pairTrees_cons_walk (Zo (hk pins s σ H _ I h) fun u s1 ⟨x,H1,I1,rx,q1⟩=>Zo (hv pins s1 σ H1 _ I1 q1) fun w2 s2 ⟨y,H2,I2,ry,q2⟩ =>
  Zo (hr pins s2 σ H2 _ I2 q2) fun ws s3 ⟨ps,H3,I3,rel,q3⟩=>⟨(x,y)::ps,H3,I3,.cons ⟨rx,ry⟩ rel,q3⟩)
noncomputable def V9 (kvs more:List (Zi×V)):List (Zi×V):=more.foldl (fun acc kv=>Yg acc kv.1 kv.2) kvs
theorem KV.merge:∀{more:List (Zi×V)} {rs:List (Zi×Value)} {kvs:List (Zi×V)} {vs:List (Zi×Value)},KV more rs->KV kvs vs->KV (V9 kvs more) (merged vs rs):=by
 intro more rs kvs vs r;unfold KV at r
 induction r generalizing kvs vs with
 |nil=>intro q;exact q
 |@cons p q ps qs h t ih =>
  intro r0
  have e:KV (Yg kvs p.1 p.2) (stored vs q.1 q.2):=by
   have:=r0.put p.1 h.2;rw [←h.1];exact this
  exact ih e
theorem ZfM:∀(more kvs:List (Zi×V)),(V9 kvs more).length≤kvs.length+more.length
 |[],kvs=>by show kvs.length≤kvs.length+0;omega
 |p::r,kvs=>by
  have h1:=ZfM r (Yg kvs p.1 p.2);have h2:=ZdK kvs p.1 p.2;show (V9 (Yg kvs p.1 p.2) r).length≤_;rw [QJ];omega
theorem ZhC {P:Program} {w:World}:∀{kvs:List (Zi×V)} {ws:List (Value×Value)},VV (kvs.map fun kv=>(kV kv.1,kv.2)) ws->∃rs,Carries (Z1 P w) ws rs∧KV kvs rs
 |[],_,r=>by rw [GD] at r;cases r;exact ⟨[],True.intro,.nil⟩
 |p::kvs,_,r=>by
  rw [Qr] at r;cases r with
  |@cons a b as bs h t =>
   obtain ⟨rs,c,q⟩:=ZhC (P:=P) (w:=w) t;obtain ⟨b1,b2⟩:=b;exact ⟨(p.1,b2)::rs,⟨VC h.1,rfl,c⟩,.cons ⟨rfl,h.2⟩ q⟩
def ZnQ (trs:List (TE×TE)):TE:=fun σ H Q=>∀p,H p=none->ZbF trs σ (Zb H p (.dK [])) fun ps H2=>H2 p=some (.dK [])∧∃kvs:List (Zi×V),ps=kvs.map (fun kv=>(kV kv.1,kv.2))∧kvs.length≤15∧Q (.ref p) (Zb H2 p (.dK (V9 [] kvs)))
theorem ZnM {X:Cx} {pos:Pos} {keys:List (Option Expr)} {values:List Expr} {trs:List (TE×TE)} (h:PPs X pos keys values trs) (hall:keys.all (·.isSome)=true) (hl:keys.length=values.length) (h0:keys≠[])
  (h15:keys.length≤15):PE X (.Dict keys values pos) (ZnQ trs):=by
 intro pins s σ H Q I q;have hn:=I.hok.fresh (Qf s.heap.objs.size);have I1:=I.laid (a:=s.heap.objs.size) (o:=.dK []) (h':=s.heap.push { cls:=.type "dict",data:=.dict #[] }) (t':=s.toks) (fun _ _ q=>Qj _ q) (Qf _) (Zfh s.heap I.big);refine wpAny_Dict_walk (knd:=Z1 X.prog X.w) hall hl h0 h15 (Zo (h pins _ σ _ _ I1 (q _ hn)) fun ws s2 ⟨ps,H2,I2,rel,e,kvs,ep,lk,q2⟩=>?_);subst ep;obtain ⟨rs,c,rk⟩:=ZhC (P:=X.prog) (w:=X.w) rel;obtain ⟨z,hd,vs0,r0,dd⟩:=WC I2.hok e;cases r0;refine ⟨rs,c,dd,fun h' dd' hs=>⟨.ref s.heap.objs.size,_,?_,rfl,q2⟩⟩
 have hz:(V9 [] kvs).length≤sizeLine:=by
  have h1:=ZfM kvs [];rw [GC] at h1;rw [RQ];omega
 have he:∃q,h'.get? s.heap.objs.size=some q:=let ⟨q,_,_,hq,_⟩:=dd';⟨q,hq⟩;exact J3 I2 (by rw [e];exact True.intro) hs he (ZeL hz hd (rk.merge .nil) dd')
structure M2 (X:Cx) (o:Expr) (m:Str) (apos:Pos) (e f:Expr) (cpos:Pos):Prop where
 base:attributeBase o m X.env (eval o X.env)=eval o X.env
 few:((backTo cpos (starEach [e,f] X.env)).all (fun x=>!x.1)&&(backToKw cpos (keywordEach [] X.env)).all (fun x=>x.1.isSome)
  && decide (([e,f]:List Expr).length+([]:List Keyword).length+(if ([]:List Keyword).isEmpty then 0 else 1)<30))=true
 line:(apos.endLine==cpos.line)=true
 trees:backTo cpos (starEach [e,f] X.env)=[(false,eval e X.env),(false,eval f X.env)]
def IsD (H:Hp) (a:Addr):Prop:=(∃kvs,Rd H a (.dK kvs))∨∃kvs,Rd H a (.dT kvs)
theorem Zee {X:Cx} {pins:List (Addr×Obj)} {σ:St} {H:Hp} {s:Shared} {a:Addr} (I:Inv X pins σ H s) (d:IsD H a) :
  s.TypeIs (.ref a) "dict"∧(∀b,Value.ref a=.ref b->∃ob,s.heap.get? b=some ob∧ob.dict=none)∧(a==sysModules)=false:=by
 rcases d with ⟨kvs,e⟩|⟨kvs,e⟩
 ·obtain ⟨_,hd,vs,_,dd⟩:=W2 I.hok e;refine ⟨dd.typeIs,fun b q=>?_,hd⟩;cases q;obtain ⟨ob,_,_,h1,h2,_⟩:=dd;exact ⟨ob,h1,h2.2.1⟩
 ·obtain ⟨_,hd,xs,_,dd⟩:=Va I.hok e;refine ⟨dd.typeIs,fun b q=>?_,hd⟩;cases q;obtain ⟨ob,_,_,h1,h2,_⟩:=dd;exact ⟨ob,h1,h2.2.1⟩
section
variable {X:Cx} {pins:List (Addr×Obj)} {σ:St} {H:Hp} {s:Shared} {a:Addr} {y d:V} {u r:Value} {o:Option V} {A:Around} {E:Value->Shared->Prop}
theorem ZjS {Q:Value->Shared->Prop} (hu:A.units+1<cLine) (I:Inv X pins σ H s) (g:DGet H a y o) (ry:RelV y u) (rd:RelV d r) (h:∀w' s',Inv X pins σ H s'->RelV (o.getD d) w'->Q w' s') :
  wpAny (model X.prog X.w) A (call (.builtin "dict.get") [.ref a,u,r]) Q E s:=by
 rcases g with ⟨kvs,k,e,ey,l⟩|⟨kvs,k,b,e,ey,eb,l⟩
 ·subst ey;obtain ⟨z,hd,vs,rel,dd⟩:=W2 I.hok e;refine Gb G7 dd.typeIs PySem.F.entry_dict_get (NE _ _ _) (meets_dict_get_default (Z1 X.prog X.w) a (VC ry) hd r) ⟨_,dd.mapOf,h _ _ (I.tok _) ?_⟩;rw [l];exact (rel.val k).getD rd
 ·subst ey;cases (show u=Value.ref b from ry);obtain ⟨z,hd,xs,rel,dd⟩:=Va I.hok e;refine Gb G7 dd.typeIs PySem.F.entry_dict_get (NE _ _ _) (meetsH_dict_get_default (tupleKind (Z1 X.prog X.w)) a b hd r) ⟨RU hu,k,xs,Vv I.hok eb,dd,h _ _ (I.tok _) ?_⟩;rw [l];exact (rel.val k).getD rd
end
def Zjy (td ty tx:TE):TE:=fun σ H Q=>td σ H fun x H1=>∃a,x=.ref a∧IsD H1 a∧ty σ H1 fun y H2=>tx σ H2 fun z H3=>∃o,DGet H3 a y o∧Q (o.getD z) H3
section
variable {X:Cx} {o e f:Expr} {apos cpos:Pos} {td ty tx:TE}
theorem U1 (hu:X.A.units+1<cLine) (ho:PE X o td) (he:PE X e ty) (hf:PE X f tx) (m:M2 X o "get" apos e f cpos):PE X (.Call (.Attribute o "get" apos) [e,f] [] cpos) (Zjy td ty tx):=by
 intro pins s σ H Q I h;refine wpAny_Call_method m.base m.few m.line G8 G7 PySem.F.type_dict_get (Zo (ho pins s σ H _ I h) fun u s1 ⟨x,H1,I1,rx,a,ex,d,q1⟩=>?_);subst ex;obtain rfl:u=Value.ref a:=rx;obtain ⟨t1,t2,_⟩:=Zee I1 d;refine ⟨t1,t2,?_⟩;rw [m.trees]
 refine GA rfl (GB (R7 (Zo (he pins s1 σ H1 _ I1 q1) fun iv s2 ⟨y,H2,I2,ry,q2⟩ =>
  R7 (Zo (hf pins s2 σ H2 _ I2 q2) fun fv s3 ⟨z,H3,I3,rz,ov,g,q3⟩=>GW ?_))))
 exact ZjS hu I3 g ry rz fun w' s4 I4 rw'=>⟨_,H3,I4,rw',q3⟩
end
section
variable {X:Cx} {pins:List (Addr×Obj)} {σ:St} {H:Hp} {s:Shared} {a:Addr} {kvs:List (Zi×V)} {A:Around} {E:Value->Shared->Prop}
end
section
variable {X:Cx} {pins:List (Addr×Obj)} {σ:St} {H:Hp} {s:Shared} {a:Addr} {y:V} {u:Value} {A:Around} {E:Value->Shared->Prop}
end
end L2
namespace Att
open PySem PySem.W PySem.Calls PyProof.Rows
theorem ZhL {P:Params} {h:Heap}:∀(ns:List Int) (vs:List Value),WellAll P h vs (ns.map WData.int)->IntsAre vs ns:=by
 intro ns
 induction ns with
 |nil =>
  intro vs w;rw [GD] at w;cases w;exact .nil
 |cons n ns ih =>
  intro vs w;rw [Qr] at w;cases w with
  |cons a b =>
   cases a;exact .cons _ _ (ih _ b)
theorem Zkq {l:OpenLaw} {n:Nat} (hn:l.most=some n) {P:Params} {h:Heap} {args:List WData} {vals:List Value}
  (hpre:l.row.toRowW.claim.pre args=true) (hwl:WellAll P h vals args) :
  ∃a vs ns,vals=[Value.ref a]∧args=[WData.list (ns.map WData.int)]∧h.get? a=some { cls:=.type "list",data:=.seq vs.toArray }∧IntsAre vs ns∧ns.length≤n:=by
 have hsh:WShape.hasAll [] args [.list .int]=true:=(pre_splitW hpre).1;have hc:l.pre.holds [] { args:=args }=true:=(pre_splitW hpre).2;obtain ⟨d,r,rfl,h1,h2⟩:=hasAllW_cons hsh;obtain rfl:=hasAllW_nil h2;obtain ⟨xs,rfl,h3⟩:=hasW_list h1;obtain ⟨ns,rfl⟩:=items_int h3
 have hlen:ns.length≤n:=by
  unfold OpenLaw.pre at hc
  have h4:(WTm.not (.lt (.lit (.int (n:Int))) (.len (.arg 0)))).holds [] { args:=[.list (ns.map .int)] }=true:=by
   have h4:=(holds_andW hc).1;rw [hn] at h4;exact h4
  have h5:=condW_of h4 (w_not (w_lt w_lit (w_len_list (w_arg rfl))));rw [Qd] at h5;refine Nat.le_of_not_lt fun q=>?_;have q':(n:Int)<((ns.length:Nat):Int):=by omega
  first
   | (rw [Ql q'] at h5;exact absurd h5 (by decide))
   | (simp at h5;omega)
 cases hwl with
 |cons w1 w2 =>
  cases w2;cases w1 with
  |list ho hall=>exact ⟨_,_,ns,rfl,rfl,ho,ZhL ns _ hall,hlen⟩
theorem Zml (l:OpenLaw) (args:List WData):l.row.toRowW.claim.post args (.bool true) args=true :=
 postW_of (r:=l.row.toRowW) (X:=(true==true))
  (show WShape.has [] (.bool true) .bool=true by first|rfl|decide|simp [WShape.has,WShape.arms,WShape.armsAll])
  (show (WTm.eq .res (.lit (.bool true))).value [] { args:=args,res:=some (.bool true),after:=args }=some (.bool (true==true)) from w_eq_bool (w_res rfl) w_lit) rfl
theorem attach_call {l:OpenLaw} {n:Nat} {q:Program} {loose:List Str} {XP:(Str->Option Value)->Heap->Prop} {YP:World->Heap->Prop} {d:DefRec}
  (hn:l.most=some n) (hdf:d.params.defaults=[])
  (call:∀(w:World) (s₀ s₁:Shared) (mg mb:Str->Option Value) (fa:Addr) (o:Obj) (pm cd doc:Value) (a:Addr) (vs:List Value) (ns:List Int),
   Ground q loose [] XP w s₀ mg mb s₁.heap->YP w s₁.heap →
   s₁.heap.get? fa=some o->o.data=.func (docDef d.name d.params d.body d.scope pm cd doc)->s₁.heap.CodeRec cd d.name->mg d.name=some (.ref fa) →
   s₁.heap.get? a=some { cls:=.type "list",data:=.seq vs.toArray }->IntsAre vs ns->ns.length≤n->s₁.gens=#[] →
   codeAny (model l.prog w) callerA (.call (.ref fa) ⟨[.ref a],[]⟩) (fun r s'=>r=.ok (.ret (.bool true))∧OldK s₁.heap s'.heap∧s'.os=s₁.os∧AllBare s'.gens) s₁) :
  WalkO q loose XP YP l.row.toRowW d [] (fun f vs=>PySem.call f vs):=by
 intro w s₀ s₁ mg mb G Y fa o pm cd doc dV kV ho hd hcd hD hmg hg args vals as hpre hlay hrd hwl hlo;obtain rfl:dV=.none:=Dflts.none hD hdf;obtain rfl:kV=.none:=Dflts.noKw hD;obtain ⟨a,vs,ns,rfl,rfl,hobj,hints,hlen⟩:=Zkq hn hpre hwl;refine enter_call (R8 (call w s₀ s₁ mg mb fa o pm cd doc a vs ns G Y ho (fd_plain hd) hcd hmg hobj hints hlen hg) fun r s' hq=>?_);obtain ⟨rfl,h2,h3,h4⟩:=hq;exact ⟨.inl ⟨.bool true,.bool true,[],rfl,fun _=>rfl,.bool true,Zml l _,fun _=>⟨List.Pairwise.nil,fun _ hm=>(nomatch hm)⟩⟩,h2,h3,h4⟩
section
variable {prog:Program} {w:World} {A:Around} {E:Value->Shared->Prop} {s:Shared} {K:Frag}
end
end Att
namespace L2
open PySem PySem.Spec PyProof.Rows
theorem Zha:∀{vs:List Value} {ns:List Int},IntsAre vs ns->Vals (ns.map V.int) vs
 |_,_,.nil=>.nil
 |_,_,.cons n t h=>.cons ⟨t,rfl⟩ (Zha h)
def Zbv (H:Hp):Prop:=∀b,H b=none∨∃o xs,H b=some (.frz o (.lst xs))
theorem Zkx {P:Program} {w:World} {K:W.Frag} {mg mb:Str->Option Value} {CX:YF} {k:Nat} {fa a:Addr} {fd:FuncData} {x:Str} {sp:Sp} {s₁:Shared} {vs:List Value} {ns:List Int}
  (KX:K.In s₁.heap) (hns:s₁.heap.Ns mainGlobals mg) (hb:s₁.heap.Ns builtinsNs mb) (hbb:∀x:Str,x≠"__name__"->mb x=bootBuiltins x) (hlim:s₁.heap.NoLimit) (hg:s₁.gens=#[])
  (ha:s₁.heap.get? a=some { cls:=.type "list",data:=.seq vs.toArray }) (hi:IntsAre vs ns) (hl:ns.length≤sizeLine) (hr:Room k callerA)
  (F:∀base:Heap,K.In base->base.Ns mainGlobals mg->FnOk P w K mg base CX k fa fd [x] sp) (hbind:∀(s:Shared) (u:Value),BindsTo s fd ⟨[u],[]⟩ [(x,u)])
  (hsp:∀H:Hp,Zbv H->SqL K H a (ns.map V.int)->sp [.ref a] H (fun v _=>v=.bl true) fun _ _ _=>False)
  (hCX:∀H e s',CX [] H s₁ (fun _ _ _=>False) e s'->False) :
  codeAny (model P w) callerA (.call (.ref fa) ⟨[.ref a],[]⟩) (fun r s'=>r=.ok (.ret (.bool true))∧OldK s₁.heap s'.heap∧s'.os=s₁.os∧AllBare s'.gens) s₁:=by
 have rv:=Zha hi;have lenV:=hi.length
 have core : ∀H : Hp, Zbv H → SqL K H a (ns.map V.int) → HOk P w H s₁.heap → (∀b, H b ≠ none → b=a) → (H a ≠ none → K.lookup a=none) →
   codeAny (model P w) callerA (.call (.ref fa) ⟨[.ref a],[]⟩) (fun r s'=>r=.ok (.ret (.bool true))∧OldK s₁.heap s'.heap∧s'.os=s₁.os∧AllBare s'.gens) s₁:=by
  intro H hO hS hok hA hK;have base_of:∀{b:Addr} {o:Obj},s₁.heap.get? b=some o->H b=none->(Wz s₁.heap H).get? b=some o:=fun e n=>Zje e n
  have noA:∀{b:Addr} {o:Obj} {es:Array DictEntry} {ep:Nat},s₁.heap.get? b=some o->o.data=.dict es ep->H b=none:=fun {b o es ep} e d=>by
   cases q:H b with
   |none=>rfl
   |some u =>
    have e':b=a:=hA b (by rw [q];simp);subst e';rw [ha] at e;cases e;have d':Data.seq vs.toArray _=Data.dict es ep:=d;cases d'
  have nsK:∀{b:Addr} {m:Str->Option Value},s₁.heap.Ns b m->(Wz s₁.heap H).Ns b m:=fun {b m} ⟨o,es,ep,e,d,r⟩=>⟨o,es,ep,base_of e (noA e d),d,r⟩
  have hKb:K.In (Wz s₁.heap H):=fun b o e=>base_of (KX b o e) (by
   cases q:H b with
   |none=>rfl
   |some u =>
    have e':b=a:=hA b (by rw [q];simp);subst e';rw [hK (by rw [q];simp)] at e;cases e)
  have hM:Mod K mg (Wz s₁.heap H):=⟨hKb,nsK hns,⟨mb,nsK hb,hbb⟩,let ⟨mc,h1,h2⟩:=hlim;⟨mc,nsK h1,h2⟩⟩;have e0:Env0 P w K mg (Wz s₁.heap H) callerA [] s₁ H:=⟨rfl,hM,fun b o e=>Zna e,Nat.le_of_eq (Zns _ _),trivial,fun b hb=>absurd (show b∈([]:List Addr) from hb) (by simp),hok,.of_eq hg⟩;refine R8 ((F _ hKb (nsK hns)).run callerA [] s₁ H ⟨[.ref a],[]⟩ [.ref a] [.ref a] _ _ hr e0 (hbind s₁ (.ref a)) (.cons rfl .nil) (hsp H hO hS)) fun r s' h=>?_;cases r with
  |error e=>exact (hCX H e s' h).elim
  |ok fl =>
   cases fl with
   |next=>exact False.elim h
   |brk=>exact False.elim h
   |cont=>exact False.elim h
   |ret u =>
    obtain ⟨v,H',os,bare,un,hok',r',q⟩:=h;have q':v=.bl true:=q;subst q';obtain rfl:u=Value.bool true:=r';refine ⟨rfl,OldK.of_keep fun b o e=>?_,os,bare⟩;cases q:H b with
    |none=>exact un.keep b o e q (by intro z;exact absurd (show b∈([]:List Addr) from z) (by simp)) (by simp)
    |some u =>
     rcases hO b with z|⟨ob,xs,z⟩
     ·rw [q] at z;cases z
     ·have z2:=un.frzs b ob _ z;obtain ⟨e1,_⟩:=hok b _ z;obtain ⟨e2,_⟩:=hok' b _ z2;rw [e] at e1;cases e1;exact e2
 cases hk:K.lookup a with
 |some o =>
  have e:=KX a o hk;rw [ha] at e;cases e;refine core (fun _=>none) (fun _=>.inl rfl) (.inr ⟨_,vs.toArray,_,hk,rfl,rfl,rfl,by rw [Qv,lenV];exact hl,by simpa using rv⟩) (fun b u z=>by have z':(none:Option HO)=some u:=z;cases z') (fun b z=>absurd rfl z) fun z=>absurd rfl z
 |none =>
  refine core (fun b=>if b=a then some (.frz { cls:=.type "list",data:=.seq vs.toArray } (.lst (ns.map V.int))) else none) (fun b=>?_) (.inl (.inr ⟨{ cls:=.type "list",data:=.seq vs.toArray },Qc rfl⟩)) (fun b u z=>?_) (fun b z=>?_) fun _=>hk
  ·by_cases hb:b=a
   ·exact .inr ⟨_,_,Qc hb⟩
   ·exact .inl (Qa hb)
  ·by_cases hb:b=a
   ·have z':=(Qc hb).symm.trans z;cases z';subst hb;exact ⟨ha,by rw [Qd];exact hl,vs,_,rv,ha⟩
   ·have z':=(Qa hb).symm.trans z;cases z'
  ·by_cases hb:b=a
   ·exact hb
   ·exact absurd (Qa hb) z
theorem walk_of {l:W.OpenLaw} {n k:Nat} {q:Program} {loose:List Str} {XP:(Str->Option Value)->Heap->Prop} {YP:World->Heap->Prop} {d:DefRec} {K:Params->W.Frag} {CX:World->YF} {sp:World->Sp} {x:Str}
  (hn:l.most=some n) (hn2:n≤sizeLine) (hdf:d.params.defaults=[]) (hr:Room k callerA)
  (hY:∀(w:World) (h:Heap),YP w h->(K w.params).In h)
  (F:∀(w:World) (mg:Str->Option Value) (fa:Addr) (h:Heap),(K w.params).In h->h.Ns mainGlobals mg->mg d.name=some (.ref fa) →
   ∃fd:FuncData,(∀(s:Shared) (u:Value),BindsTo s fd ⟨[u],[]⟩ [(x,u)]) ∧
    ∀base:Heap,(K w.params).In base->base.Ns mainGlobals mg->FnOk l.prog w (K w.params) mg base (CX w) k fa fd [x] (sp w))
  (hsp:∀(w:World) (H:Hp) (a:Addr) (ns:List Int),ns.length≤n->Zbv H->SqL (K w.params) H a (ns.map V.int)->sp w [.ref a] H (fun v _=>v=.bl true) fun _ _ _=>False)
  (hCX:∀(w:World) (H:Hp) (s:Shared) (e:Value) (s':Shared),CX w [] H s (fun _ _ _=>False) e s'->False) :
  W.WalkO q loose XP YP l.row.toRowW d [] (fun f vs=>PySem.call f vs):=by
 refine Att.attach_call hn hdf fun w s₀ s₁ mg mb fa o pm cd doc a vs ns G Y ho hd hcd hmg hobj hints hlen hg=>?_;have KX:=hY w _ Y;obtain ⟨fd,hb,hF⟩:=F w mg fa _ KX G.T.g hmg;exact Zkx KX G.T.g G.T.b G.T.builtins G.T.nolimit hg hobj hints (Qm hlen hn2) hr hF hb (fun H hO hS=>hsp w H a ns hlen hO hS) fun H e s'=>hCX w H s₁ e s'
noncomputable def Yz (s:Stmt) (j:Nat):Stmt:=match s with
 |.ClassDef _ _ _ body _ _ _ _ _ _ _=>body.getD j (.Pass ⟨0,0,0,0⟩)
 |_=>.Pass ⟨0,0,0,0⟩
noncomputable def Xu (s:Stmt):Arguments:=match s with
 |.FunctionDef _ a _ _ _ _ _ _ _ _=>a
 |_=>{ posonlyargs:=[],args:=[],vararg:=none,kwonlyargs:=[],kw_defaults:=[],kwarg:=none,defaults:=[] }
noncomputable def Xh (s:Stmt):List Stmt:=match s with
 |.FunctionDef _ _ b _ _ _ _ _ _ _=>b
 |_=>[]
noncomputable def Zw (s:Stmt):Scope:=match s with
 |.FunctionDef _ _ _ _ _ _ sc _ _ _=>sc
 |_=>{ kind:=.function,names:=[],isGenerator:=false,isCoroutine:=false }
abbrev E0:XK:=fun _ _ _=>False
structure Fun (K:W.Frag) (x qual:Str) (st:Stmt) (f:Addr) (fd:FuncData):Prop where
 ex:∃(oc:Value) (od:Option Addr) (kV doc pm:Value) (an:Option Addr) (cdv ct:Value) (osl:Array (Option Value)),
  fd=W.fnOf x qual (Xu st) (Xh st) (Zw st) .none kV doc pm an cdv ct∧K.lookup f=some ⟨oc,od,.func fd,osl⟩∧W.codeIn K cdv qual=true
 kp:W.keepIn K (.ref f)=true
section
variable {P:Program} {w:World} {K:W.Frag} {mg:Str->Option Value} {base:Heap}
theorem Fun.binds {x qual:Str} {st:Stmt} {f:Addr} {fd:FuncData} {ps:List Str} (F:Fun K x qual st f fd)
  (h:∀(kV doc pm:Value) (an:Option Addr) (cdv ct:Value) (us:List Value),us.length=ps.length->bindArgs (W.fnOf x qual (Xu st) (Xh st) (Zw st) .none kV doc pm an cdv ct) ⟨us,[]⟩=pure (ps.zip us)):Binds K fd ps []:=by
 obtain ⟨oc,od,kV,doc,pm,an,cdv,ct,osl,rfl,lk,hcd⟩:=F.ex;exact .all (h kV doc pm an cdv ct)
theorem Zkf {x qual:Str} {st:Stmt} {f:Addr} {oc:Value} {od an:Option Addr} {osl:Array (Option Value)} {kV doc pm cdv ct:Value} (l:K.lookup f=some ⟨oc,od,.func (W.fnOf x qual (Xu st) (Xh st) (Zw st) .none kV doc pm an cdv ct),osl⟩)
  (c:W.codeIn K cdv qual=true) (k:W.keepIn K (.ref f)=true):Fun K x qual st f (W.fnOf x qual (Xu st) (Xh st) (Zw st) .none kV doc pm an cdv ct):=⟨⟨oc,od,kV,doc,pm,an,cdv,ct,osl,rfl,l,c⟩,k⟩
end
theorem ZV {A:Around} {k:Nat} (hr:Room k A):A.units+1<cLine:=RV (Nat.add_le_add_left (by decide:1≤64) _) hr.units
theorem ZD {n:Nat} (h:n≤1000):n<sizeLine:=RV h (by decide)
section
variable {X:Cx}
theorem pv (i:Nat) {x:Str} {pos:Pos} (hN:X.N[i]?=some x:=by rfl) (hv:Vis X.env.scope x:=by first|exact Or.inl rfl|exact Or.inr (Or.inl rfl)|exact Or.inr (Or.inr rfl)) (hd:(x==("__debug__" : Str))=false:=by decide)
  (hcd:(x==("__classdict__" : Str))=false:=by decide):PE X (.Name x pos) (Xo i):=ZgQ hN hv hd hcd
theorem Zat:YQ X (.builtin "len") (fun xs H Q=>∃a kvs,xs=[V.ref a]∧H a=some (.dK kvs)∧Q (.int kvs.length) H):=by
 intro pins s σ H xs us Q I r h;obtain ⟨a,kvs,rfl,ha,q⟩:=h;obtain ⟨u,rfl,ru⟩:=Xr r;cases ru;exact ZhR I (.inl ha) fun t s' I'=>⟨.int kvs.length,H,I',⟨t,rfl⟩,q⟩
end
theorem ZT {A B:Prop} (h:B):if false=true then A else B:=by
 rw [Qa QB];exact h
theorem ZZ {A B:Prop} (h:A):if true=true then A else B:=by
 rw [Qc rfl];exact h
def Same (H H':Hp):Prop:=∀b o,H b=some o->H' b=some o
theorem Same.refl (H:Hp):Same H H:=fun _ _ h=>h
theorem Same.trans {H H1 H2:Hp} (a:Same H H1) (b:Same H1 H2):Same H H2:=fun c o h=>b c o (a c o h)
section
variable {κ:Type} [DecidableEq κ]
end
end L2
set_option maxHeartbeats 4000000
namespace L2
open PySem PySem.Spec PyProof.Rows
section
variable {P:Program} {w:World} {H H':Hp} {h h':Heap} {a:Addr} {o:HO}
theorem HOk.lean (x:HOk P w H h) (k:∀b u,H b≠none->h.get? b=some u->h'.get? b=some u):HOk P w H h':=fun b u e =>
 (x b u e).stay (fun c v hc q=>k c v (by
  rcases hc with rfl|hc
  ·rw [e];simp
  ·rw [hc];simp) q) (fun _ q=>q) fun _ _ q=>q
end
structure Flies (P:Program) (w:World) (outer:List Env) (H H':Hp) (s s':Shared) (e:Addr) (cls:Value):Prop where
 os:s'.os=s.os
 bare:AllBare s'.gens
 un:Un (YJ outer) [] H H' s.heap s'.heap
 fly:∃B a0,Heap.FlyingW B outer e cls a0 s'.heap∧HOk P w H' B∧(∀b o,s.heap.get? b=some o->H b=none->b∉YJ outer->B.get? b=some o) ∧
  ∀b o,s.heap.get? b=some o->b∉YJ outer->∃o',B.get? b=some o'
noncomputable def Zx (P:Program) (w:World):YF:=fun outer H s E u s'=>∃e cls H',u=.ref e∧Flies P w outer H H' s s' e cls∧E cls none H'
section
variable {X:Cx} {pins:List (Addr×Obj)} {σ:St} {H H':Hp} {s s':Shared} {e:Addr} {cls:Value}
theorem Flies.inv (f:Flies X.prog X.w X.stack H H' s s' e cls) (I:Inv X pins σ H s):Inv X pins σ H' s':=by
 obtain ⟨B,a0,fl,hB,_,_⟩:=f.fly;exact I.call' (ch:=[]) f.os f.un (hB.kept fl.1) f.bare (fun b z=>absurd z (by simp))
theorem Inv.nst (I:Inv X pins σ H s) {b:Addr} {o:Obj} (q:X.s₀.heap.get? b=some o) (hb:b∉X.fs):b∉YJ X.stack:=fun z=>by
 rcases Qh.mp (I.stkSub b z) with y|y
 ·exact absurd (QD (Qi q) I.ok.above) (by rw [y];exact Rh _)
 ·exact hb y
theorem Flies.leaves {M:Model} {Q:Unit->Shared->Prop} {E:Value->Shared->Prop} (f:Flies X.prog X.w X.stack H H' s s' e cls) (I:Inv X pins σ H s)
  (hs:X.stack=X.env::X.outer) (hf:X.env.frame=some X.env.locals) (hx:X.ex=[])
  (hQ:∀s'',Flies X.prog X.w X.outer X.H₀ H' X.s₀ s'' e cls->Q () s''):wpAny M X.A (leaving X.env (.ref e)) Q E s':=by
 have J:=f.inv I;obtain ⟨B,a0,fl,hB,kB,tB⟩:=f.fly;rw [hs] at fl;have nx:∀b:Addr,b∉X.ex:=fun b=>by rw [hx];simp
 refine wpAny_leaves_onW (by rw [I.ok.frames,hs]) hf fl fun h' fl' up=>hQ _ ?_
 have slot:∀b o,X.s₀.heap.get? b=some o->b∈X.fs->∃sl,h'.get? b=some { o with slots:=sl }:=fun b o q hb=>by
  obtain ⟨sl,e1⟩:=J.base.slot b o q (I.ok.frf b hb) hb (nx b);obtain ⟨_,o',ho',hn⟩:=J.funs.mem hb;rw [e1] at ho';cases ho';obtain ⟨sl',e2⟩:=up b _ e1 hn;exact ⟨sl',e2⟩
 have keepB:∀b o,X.s₀.heap.get? b=some o->X.H₀ b=none->b∉X.fs->B.get? b=some o:=fun b o q n hb =>
  kB b o (I.base.keep b o q n hb (nx b)) (I.base.free b o q n (nx b)) (I.nst q hb)
 have thereB:∀b o,X.s₀.heap.get? b=some o->b∉X.fs->∃o',B.get? b=some o':=fun b o q hb=>by
  obtain ⟨o1,e1⟩:=I.base.there b o q (nx b);exact tB b o1 e1 (I.nst q hb)
 refine ⟨J.os,J.bare,⟨fun b o q n hb _=>fl'.1 b o (keepB b o q n hb),fun b o q _ hb _=>slot b o q hb,fun b o q n _=>J.base.free b o q n (nx b),fun b o q _=>?_,J.base.tups,J.base.frzs,J.base.tbls⟩,
  B,a0,fl',hB,keepB,thereB⟩
 by_cases hb:b∈X.fs
 ·obtain ⟨sl,e2⟩:=slot b o q hb;exact ⟨_,e2⟩
 ·obtain ⟨o1,e1⟩:=thereB b o q hb;exact ⟨o1,fl'.1 b o1 e1⟩
theorem Zn8 {M:Model} {Q:Unit->Shared->Prop} {E:Value->Shared->Prop} {h1:Heap} {vs:List Value} (I:Inv X pins σ H s) (mk:Heap.MadeExcOf s.heap h1 e cls vs)
  (hs:X.stack=X.env::X.outer) (hf:X.env.frame=some X.env.locals) (hx:X.ex=[])
  (hQ:∀s'',Flies X.prog X.w X.outer X.H₀ H X.s₀ s'' e cls->Q () s''):wpAny M X.A (leaving X.env (.ref e)) Q E { s with heap:=h1 }:=by
 have nx:∀b:Addr,b∉X.ex:=fun b=>by rw [hx];simp
 have hid:∀b o,s.heap.get? b=some o->b∉YJ X.stack->(W.hideAll s.heap (YJ X.stack)).get? b=some o:=fun b o q n=>W.hideAll_get _ q n
 have FF:s.heap.FunFrames (W.hideAll s.heap (YJ X.stack)) X.stack :=
  W.funFrames_hide I.stack fun env he a ha=>Ri.mpr ⟨env,he,ha⟩
 have hB:HOk X.prog X.w H (W.hideAll s.heap (YJ X.stack)):=I.hok.lean fun b u n q=>hid b u q fun z=>n (I.stkFree b z);have sub:∀b o,(W.hideAll s.heap (YJ X.stack)).get? b=some o->s.heap.get? b=some o:=fun b o q=>W.of_hideAll _ q;generalize W.hideAll s.heap (YJ X.stack)=B at *;rw [hs] at FF;refine wpAny_leaves_madeW (s:={ s with heap:=h1 }) (by rw [I.ok.frames,hs]) hf sub FF mk fun h' t fl' _ _ up=>hQ _ ?_
 have slot:∀b o,X.s₀.heap.get? b=some o->b∈X.fs->∃sl,h'.get? b=some { o with slots:=sl }:=fun b o q hb=>by
  obtain ⟨sl,e1⟩:=I.base.slot b o q (I.ok.frf b hb) hb (nx b);obtain ⟨_,o',ho',hn⟩:=I.funs.mem hb;rw [e1] at ho';cases ho';obtain ⟨sl',e2⟩:=up b _ (mk.keeps _ _ e1) hn;exact ⟨sl',e2⟩
 have keepB:∀b o,X.s₀.heap.get? b=some o->X.H₀ b=none->b∉X.fs->B.get? b=some o:=fun b o q n hb =>
  hid b o (I.base.keep b o q n hb (nx b)) (I.nst q hb)
 have thereB:∀b o,X.s₀.heap.get? b=some o->b∉X.fs->∃o',B.get? b=some o':=fun b o q hb=>by
  obtain ⟨o1,e1⟩:=I.base.there b o q (nx b);exact ⟨o1,hid b o1 e1 (I.nst q hb)⟩
 refine ⟨I.os,I.bare,⟨fun b o q n hb _=>fl'.1 b o (keepB b o q n hb),fun b o q _ hb _=>slot b o q hb,fun b o q n _=>I.base.free b o q n (nx b),fun b o q _=>?_,I.base.tups,I.base.frzs,I.base.tbls⟩,
  _,_,fl',hB,keepB,thereB⟩
 by_cases hb:b∈X.fs
 ·obtain ⟨sl,e2⟩:=slot b o q hb;exact ⟨_,e2⟩
 ·obtain ⟨o1,e1⟩:=thereB b o q hb;exact ⟨o1,fl'.1 b o1 e1⟩
end
abbrev XS:=St->XK
def Xw (CX:YF) (X:Cx) (E:XS):Prop:=∀(pins:List (Addr×Obj)) (σ:St) (H:Hp) (s:Shared) (e:Value) (s':Shared),Inv X pins σ H s->CX X.stack H s (E σ) e s'->X.xe e s'
def Zfy (X:Cx) (E:XS):Prop:=∀(pins:List (Addr×Obj)) (σ:St) (H:Hp) (s:Shared) (h1:Heap) (e:Addr) (cls:Value) (vs:List Value),Inv X pins σ H s->Heap.MadeExcOf s.heap h1 e cls vs->E σ cls none H->X.xe (.ref e) { s with heap:=h1 }
theorem ZB {P:Program} {w:World} {X:Cx}:Xw (Zx P w) X (fun _=>E0):=fun _ _ _ _ _ _ _ ⟨_,_,_,_,_,z⟩=>False.elim z
section
variable {P:Program} {w:World} {K:W.Frag} {mg:Str->Option Value} {base:Heap} {N:List Str} {qual:Str} {scope:Scope} {f:Addr} {cd:Value} {A:Around} {outer:List Env} {s:Shared} {H:Hp} {E:XK}
theorem Y5:Xw (Zx P w) (WQ (Zx P w) P w K mg base N qual scope f cd A outer s H E) (fun _=>E):=by
 rintro pins σ H1 s1 u s' I ⟨e,cls,H',rfl,fl,q⟩;exact fl.leaves I rfl rfl rfl fun s'' f''=>⟨e,cls,H',rfl,f'',q⟩
theorem VR:Zfy (WQ (Zx P w) P w K mg base N qual scope f cd A outer s H E) (fun _=>E):=by
 intro pins σ H1 s1 h1 e cls vs I mk q;exact Zn8 I mk rfl rfl rfl fun s'' f''=>⟨e,cls,H1,rfl,f'',q⟩
end
section
variable {X:Cx} {CX:YF} {k:Nat} {f C:Addr} {fd:FuncData} {ps:List Str} {sp:Sp} {dvs:List V} {ds:List Value} {E:XS} {x m:Str} {p pos apos:Pos} {e o:Expr} {es:List Expr} {ta:TE} {t:TA}
def ZgN (sp:Sp) (dvs:List V) (E:XS) (t:TA):TE:=fun σ H Q=>t σ H fun vs H1=>sp (vs++dvs) H1 Q (E σ)
theorem Wu {pins:List (Addr×Obj)} {σ:St} {H:Hp} {s:Shared} {Q:VK} {us:List Value} {vs:List V} (F:FnOk X.prog X.w X.K X.mg X.base CX k f fd ps sp) (hr:Room k X.A) (hb:Binds X.K fd ps ds) (hd:Vals dvs ds) (hx:Xw CX X E)
  (I:Inv X pins σ H s) (r:Vals vs us) (h:sp (vs++dvs) H Q (E σ)):wpAny (model X.prog X.w) X.A (call (.ref f) us) (EP X pins σ Q) X.xe s:=by
 have r2:Vals (vs++dvs) (us++ds):=r.append hd;have hl:(us++ds).length=ps.length:=by rw [←r2.length];exact F.len _ _ _ _ h
 refine wpAny_call (R8 (F.run X.A X.stack s H ⟨us,[]⟩ (us++ds) (vs++dvs) Q (E σ) hr I.env0 (hb s us I.kIn hl) r2 h) fun r s' hq=>?_);cases r with
 |error e=>exact hx pins σ H s e s' I hq
 |ok fl =>
  cases fl with
  |ret u=>exact I.after hq
  |next=>exact False.elim hq
  |brk=>exact False.elim hq
  |cont=>exact False.elim hq
theorem Zik (F:FnOk X.prog X.w X.K X.mg X.base CX k f fd ps sp) (hr:Room k X.A) (hg:Gl X x) (hm:X.mg x=some (.ref f)) (hk:W.keepIn X.K (.ref f)=true) (hb:Binds X.K fd ps ds) (hd:Vals dvs ds) (hx:Xw CX X E)
  (ha:PA X (e::es) t) (hdb:(x==("__debug__" : Str))=false:=by decide) (he:starEach (e::es) X.env=(false,eval e X.env)::starEach es X.env:=by rfl) (hpl:(backTo pos (starEach es X.env)).any (·.1)=false:=by rfl) :
  PE X (.Call (.Name x p) (e::es) [] pos) (ZgN sp dvs E t):=by
 intro pins s σ H Q I h;refine RK (Jo I hg hm ?_ hdb);refine RL (h₀:=X.base) I.ok.mod.kin hk (Zo (ha pos pins s σ H _ I h) fun us s1 ⟨vs,H1,I1,r,q⟩=>⟨I1.kIn,?_⟩) he hpl;exact Wu F hr hb hd hx I1 r q
end
section
variable {K:W.Frag} {h:Heap} {C:Addr} {bmB:List Value} {newId:String}
theorem Zmt (X:K.In h) (q:W.excIn K C bmB newId=true):∃bm N nm qn bs hdct sn sub ab col dd k0 k1 k2 k3 k5 mN,
  h.get? C=some (excClassObj nm qn C N bs bm hdct sn sub ab col dd k0 k1 k2 k3 k5 newId)∧h.Ns N mN∧mN "__init__"=none∧OwnTail h bmB bm:=by
 unfold W.excIn at q;split at q
 case h_2=>cases q
 case h_1 dict0 cdat slots0 found =>
  split at q
  case h_2=>cases q
  case h_1 C1 rest0 s0 s1 s2 s3 nid s5 mroEq slEq =>
   simp only [Rk,Rs,G9] at q;have q1:=q.1.1.1.1.1;have q2:=q.1.1.1.1.2;have q3:=q.1.1.1.2;have q4:=q.1.1.2;have q5:=q.1.2;have q6:=q.2;subst q1 q2;cases cdat with
   |mk nmX basesX mroX nsX qualX hdX snX subX abX colX delX =>
    dsimp only at mroEq q3 q5 q6;subst mroEq;subst q3
    have es:slots0=#[s0,s1,s2,s3,some (.builtin nid),s5]:=by
     cases slots0 with
     |mk l=>exact Qq _ slEq
    subst es;exact ⟨rest0,nsX,nmX,qualX,basesX,hdX,snX,subX,abX,colX,dict0,s0,s1,s2,s3,s5,_,X _ _ found,.of_isNs (W.isNs_of_in X q5),W.nsMap_none_of_in X q5 q6,W.tail_of_in X q4⟩
end
section
variable {X:Cx} {x:Str} {C:Addr} {np cpos pos:Pos} {e₀:Expr} {rest:List Expr} {t:TA} {bmB:List Value} {newId B initId:String} {E:XS}
def ZnG (C:Addr) (E:XS) (t:TA):TS:=fun _ σ H=>t σ H fun vs H1=>vs.length≤sizeLine∧E σ (.ref C) none H1
theorem Vx (hg:Gl X x) (hm:X.mg x=some (.ref C)) (q:W.excIn X.K C bmB newId=true) (FB:ExcBaseFacts B newId initId bmB) (hc:X.calm=true) (hx:Zfy X E) (ha:PA X (e₀::rest) t)
  (hd:(x==("__debug__" : Str))=false:=by decide) (he:starEach (e₀::rest) X.env=(false,eval e₀ X.env)::starEach rest X.env:=by rfl) (hpl:(backTo cpos (starEach rest X.env)).any (·.1)=false:=by rfl) :
  PS X (.Raise (some (.Call (.Name x np) (e₀::rest) [] cpos)) none pos) (ZnG C E t):=by
 intro pins s σ H D I h;obtain ⟨bm,N,nm,qn,bs,hdct,sn,sub,ab,col,dd,k0,k1,k2,k3,k5,mN,hC,hN,hni,T⟩:=Zmt I.mod.kin q
 have hpl':(backTo cpos (starEach (e₀::rest) X.env)).any (·.1)=false:=by
  rw [he];exact hpl
 refine wpAny_Raise_call_subT (C:=C) (nm:=nm) (q:=qn) (N:=N) (bs:=bs) (bm:=bm) (hdct:=hdct) (sn:=sn) (sub:=sub) (ab:=ab) (col:=col) (dd:=dd) (k0:=k0) (k1:=k1) (k2:=k2)
  (k3:=k3) (k5:=k5) FB (mN:=mN) (T.hasType FB.hasBase) (I.ok.hd hc) hpl' hni (Jo I hg hm ⟨rfl,?_⟩ hd)
 have g:=ha cpos pins s σ H _ I h;rw [he] at g ⊢;refine GB (Q5 g (fun us s1 r1=>?_) fun _ _ y=>y);obtain ⟨vs,H1,I1,rv,z,q1⟩:=r1;exact ⟨rfl,by rw [←rv.length];exact z,I1.bk _ _ hC,hN.keeps I1.bk,T.keeps I1.bk,fun h1 e mk=>hx pins σ H1 s1 h1 e (.ref C) us I1 mk q1⟩
end
def Zf3 (cls:Value) (e:Addr):Heap->Prop:=fun h=>∃o vs,h.get? e=some o∧o.cls=cls∧o.data=.fields vs
noncomputable def Zhm (cls:Value) (e:Addr):HO:=.ext (Zf3 cls e)
section
variable {P:Program} {w:World} {H H':Hp} {h h':Heap} {a:Addr} {o:HO}
end
section
variable {P:Program} {w:World} {outer:List Env} {H H':Hp} {s s':Shared} {e:Addr} {cls:Value}
end
section
variable {X:Cx} {pins:List (Addr×Obj)} {σ:St} {H H':Hp} {s s':Shared} {e:Addr} {cls:Value}
end
section
variable {X:Cx} {pins pins':List (Addr×Obj)} {σ:St} {H H':Hp} {s s':Shared} {W:Value->Shared->Prop} {e:Addr}
end
section
variable {X:Cx} {body suite:List Stmt} {b₀:Stmt} {x n:Str} {C:Addr} {np hpos pos:Pos} {bmB:List Value} {newId:String} {i:Nat} {tb:XS->TS} {ts:TS}
end
structure ExcK (K:W.Frag) (C:Addr):Prop where
 ga:W.findIn K (.ref C) "__getattribute__"=some (some (.builtin "BaseException.__getattribute__"))
 gt:W.findIn K (.ref C) "__getattr__"=some none
 cl:W.findIn K (.ref C) "__class__"=some (some (.builtin "object.__class__"))
 mb:W.mroIn K C (.type "BaseException")=some true
 mo:W.mroIn K C (.type "object")=some true
section
variable {prog:Program} {w:World} {A:Around} {E:Value->Shared->Prop} {K:W.Frag} {h:Heap} {g:Array GenState} {d:Drawn} {t:Nat} {os:OsState} {a C:Addr} {ob:Obj}
theorem Zlm:(".".intercalate ("object.__class__".cutAt '.').dropLast)="object":=by decide +kernel
theorem Zm5 {R:Result->Shared->Prop} (X:K.In h) (Z:ExcK K C) (hx:h.get? a=some ob) (hc:ob.cls=.ref C) (hq:R (.ok (.ret (.ref C))) ⟨h,g,d,t,os⟩) :
  codeAny (model prog w) A (.call (.builtin "getset_descriptor.__get__") ⟨[.builtin "object.__class__",.ref a,.ref C],[]⟩) R ⟨h,g,d,t,os⟩:=by
 have k5:(⟨h,g,d,t,os⟩:Shared).TypeIs (.builtin "object.__class__") "getset_descriptor":=Na
 have mo:W.Looks (model prog w) h (isSubtype (.ref C) (.type (".".intercalate ("object.__class__".cutAt '.').dropLast))) true:=by
  rw [Zlm];exact W.looks_mroIn X Z.mo
 refine codeAny_call_builtin F.slot_gs_get.plain F.entry_gs_get (F.slot_gs_get.check _ _ _ _ _ _ _ _ k5 (F.args_gs_get _ _ _) ?_)
 repeat (any_goals (first|assumption|(with_reducible refine Gc hx ?_;rw [hc])|(with_reducible refine mo.at ?_)|wp_step))
 refine ⟨Nb _ (by decide +kernel),Gd F.entry_object_class ?_⟩
 repeat (any_goals (first|assumption|(with_reducible refine Gc hx ?_;rw [hc])|wp_step))
theorem ZhS {tk:Tok} {Q:Fin->Shared->Prop} (X:K.In h) (Z:ExcK K C) (hx:h.get? a=some ob) (hc:ob.cls=.ref C) (hq:Q (.done (.ret (.ref C))) ⟨h,g,d,t,os⟩) :
  wpAny (model prog w) A (Builtin.«object.__getattribute__» ⟨[.ref a,.str "__class__" tk],[]⟩) Q E ⟨h,g,d,t,os⟩:=by
 have k5:(⟨h,g,d,t,os⟩:Shared).TypeIs (.builtin "object.__class__") "getset_descriptor":=Na;have f5:=Na;have f6:=F.slot_gs_get.lookup;have f7:=F.slot_gs_set.lookup;have lc:=Gw (M:=model prog w) X Z.cl
 repeat (any_goals (first|assumption|(with_reducible refine Gc hx ?_;rw [hc])|(with_reducible refine lc.at ?_)|wp_step))
 refine Zm5 X Z hx hc ?_
 repeat (any_goals (first|assumption|wp_step))
theorem ZlH {M:Model} {nameV:Value} {Q:Unit->Shared->Prop} (X:K.In h) (Z:ExcK K C) (hx:h.get? a=some ob) (hc:ob.cls=.ref C) (hq:Q () ⟨h,g,d,t,os⟩) :
  wpAny M A (checkBuiltinCall "BaseException.__getattribute__" ⟨[.ref a,nameV],[]⟩) Q E ⟨h,g,d,t,os⟩:=by
 have kd:builtinKind "BaseException.__getattribute__"=some .slot:=by decide +kernel
 have sp:splitId "BaseException.__getattribute__"=some ("BaseException","__getattribute__"):=by decide +kernel
 have mb:=W.looks_mroIn (M:=M) X Z.mb;have ar:=F.args_bexc_ga (.ref a) nameV;simp only [checkBuiltinCall,kd,sp];refine Qb ?_;unfold isInstance
 repeat (first|(with_reducible refine Gc hx ?_;rw [hc])|(with_reducible refine mb.at ?_)|wp_step)
 exact hq
theorem ZiG {tk:Tok} {R:Result->Shared->Prop} (X:K.In h) (Z:ExcK K C) (hx:h.get? a=some ob) (hc:ob.cls=.ref C) (hq:R (.ok (.ret (.ref C))) ⟨h,g,d,t,os⟩) :
  codeAny (model prog w) A (.call (.builtin "BaseException.__getattribute__") ⟨[.ref a,.str "__class__" tk],[]⟩) R ⟨h,g,d,t,os⟩ :=
 codeAny_call_builtin (F.excAttr_ValueError).ga.plain F.entry_bexc_ga (ZlH X Z hx hc (ZhS X Z hx hc hq))
theorem Zic {tk:Tok} {fill expr:Bool} {Q:Value->Shared->Prop} (X:K.In h) (Z:ExcK K C) (hx:h.get? a=some ob) (hc:ob.cls=.ref C) (hq:Q (.ref C) ⟨h,g,d,t,os⟩) :
  wpAny (model prog w) A (getAttrBy (.ref a) (.str "__class__" tk) fill expr) Q E ⟨h,g,d,t,os⟩:=by
 have f3:=(F.excAttr_ValueError).ga.bind (.ref a);have y0:(expr&&onTheHeap (Value.builtin "BaseException.__getattribute__"))=false:=by cases expr<;>rfl
 have y2:(Value.builtin "BaseException.__getattribute__"==Value.builtin "object.__getattribute__")=false:=by decide +kernel
 have y1:(onTheHeap (Value.ref C)&&Value.builtin "BaseException.__getattribute__"==Value.builtin "object.__getattribute__")=false:=by rw [y2];rfl
 have lg:=Gw (M:=model prog w) X Z.ga;have lt:=Gw (M:=model prog w) X Z.gt
 repeat (any_goals (first|assumption|(with_reducible refine Gc hx ?_;rw [hc])|(with_reducible refine lg.at ?_)|(with_reducible refine lt.at ?_)|wp_step))
 refine ZiG X Z hx hc ?_
 repeat (any_goals (first|assumption|wp_step))
theorem ZnF {Q:Option Value->Shared->Prop} (X:K.In h) (Z:ExcK K C) (hx:h.get? a=some ob) (hc:ob.cls=.ref C) (hq:Q (some (.ref C)) ⟨h,g,d,t+1,os⟩) :
  wpAny (model prog w) A (getAttr? (.ref a) "__class__") Q E ⟨h,g,d,t,os⟩:=by
 unfold getAttr? getAttrBy?
 repeat (any_goals (first|assumption|with_reducible apply Zic X Z hx hc|wp_step))
end
section
variable {K:W.Frag} {a C:Addr}
theorem Zms (Z:ExcK K C):W.KitX K (.ref a) (.ref C) (Zf3 (.ref C) a) where
 ty:=fun M h X p=>by
  obtain ⟨o,vs,h1,h2,_⟩:=p;exact h2▸(W.Looks.ld h1).andThen .now
 it:=fun M h X p=>by
  obtain ⟨cd,hc,_⟩:=NF.mp Z.mo;unfold W.clsIn at hc;split at hc
  ·rename_i ho;intro A' Q' E' s' k q;unfold isType loadHead;exact Qb (wpAny_loadPart (k _ _ (X _ _ ho)) (Qe q))
  ·cases hc
 ne:=fun h tp dd its n sl X htp=>by
  obtain ⟨cd,hc,_⟩:=NF.mp Z.mo;refine Rl.mpr fun q=>?_;have e:C=tp:=Value.ref.inj (Rs.mp q);subst e;unfold W.clsIn at hc;split at hc
  ·rename_i ho;have z:=(X _ _ ho).symm.trans htp;cases z
  ·cases hc
 ca:=fun {prog w A E Q s} X p k=>by
  obtain ⟨h,g,d,t,os⟩:=s;obtain ⟨o,vs,h1,h2,_⟩:=p;exact ZnF X Z h1 h2 k
end
inductive Kd (K:W.Frag) (H:Hp):V->Value->Prop where
 |of {x:V} {t:Value} (e:TyOf K H x t):Kd K H x t
 |exc {a C:Addr} (Z:ExcK K C) (e:H a=some (Zhm (.ref C) a)):Kd K H (.ref a) (.ref C)
 |sqt {a:Addr} {xs:List V} (e:SqT K H a xs):Kd K H (.ref a) (.type "tuple")
 |sql {a:Addr} {xs:List V} (e:SqL K H a xs):Kd K H (.ref a) (.type "list")
noncomputable def isC:V->Bool
 |.ref _=>true
 |.ty _=>true
 |_=>false
noncomputable def ZdA:V->Value
 |.ref a=>.ref a
 |.ty n=>.type n
 |_=>.none
section
variable {X:Cx} {A:Around}
theorem ZjU:YQ X (.builtin "isinstance") (fun xs H Q=>∃x c t b,xs=[x,c]∧isC c=true∧Kd X.K H x t∧W.kitOne X.K t (ZdA c)=some b∧Q (.bl b) H):=by
 intro pins s σ H xs us Q I r h;obtain ⟨x,c,t,b,rfl,ic,ty,e,q⟩:=h;obtain ⟨u,v,rfl,rx,rc⟩:=UM r
 have ec:ZdA c=v:=by
  cases c with
  |ref a=>exact Eq.symm rc
  |ty n=>exact Eq.symm rc
  |_=>cases ic
 rw [ec] at e;have fin:∀tk,EP X pins σ Q (.bool b) { s with toks:=tk }:=fun tk=>⟨.bl b,H,I.tok tk,rfl,q⟩;cases ty with
 |of ty=>exact Zh7 I rx ty e fin
 |@exc a C Z ea =>
  cases (show u=Value.ref a from rx);obtain ⟨p,_,_⟩:=(show ObjOk X.prog X.w H s.heap a (Zhm (.ref C) a) from I.hok a _ ea);exact QU (Zms Z) I.kIn p e (fun z=>nomatch z) fin
 |@sqt a ys ea =>
  cases (show u=Value.ref a from rx);rcases ea with ea|⟨o,its,n,h1,h2,_⟩
  ·obtain ⟨_,_,_,p⟩:=(show ObjOk X.prog X.w H s.heap a (.tup ys) from ea.ok I.hok);obtain ⟨o,h1,h2,_⟩:=p;exact QU W.kitx_tuple I.kIn ⟨o,h1,h2⟩ e (fun z=>nomatch z) fin
  ·exact QU W.kitx_tuple I.kIn ⟨o,I.kIn _ _ h1,h2⟩ e (fun z=>nomatch z) fin
 |@sql a ys ea =>
  cases (show u=Value.ref a from rx);rcases ea with ea|⟨o,its,n,h1,h2,_⟩
  ·obtain ⟨_,_,n,_,h1⟩:=(show ObjOk X.prog X.w H s.heap a (.lst ys) from ea.ok I.hok);exact QU Gx I.kIn ⟨_,h1,rfl⟩ e (fun z=>nomatch z) fin
  ·exact QU Gx I.kIn ⟨o,I.kIn _ _ h1,h2⟩ e (fun z=>nomatch z) fin
def Zld (i j:Int):Prop:=i.natAbs<2 ^ 1000∧j.natAbs<2 ^ 1000
theorem ZgJ {x:Int} (h:x.natAbs<2 ^ 1000):Builtin.Int.intBits x≤2 ^ 20:=by
 unfold Builtin.Int.intBits;split
 ·exact QO _
 ·rename_i z
  have n:x.natAbs≠0:=by
   intro q;exact z (by rw [Int.natAbs_eq_zero.mp q];rfl)
  have:=(Nat.log2_lt n).mpr h;omega
theorem ZaQ:Ye X (binaryOp .Mult) (rI Zld fun i j=>.int (i*j)):=U0 fun _ _ _ _ _ _ _ hc q=>mul_int q (.of_bits (ZgJ hc.1) (ZgJ hc.2))
theorem Y0:Ye X (binaryOp .FloorDiv) (rI (fun _ j=>j≠0∧j.natAbs<2 ^ 1000) fun i j=>.int (i.fdiv j)):=U0 fun i j _ _ _ _ _ hc q =>
 floordiv_int hc.1 q (.inl (PyProof.noPylong_of_log2 (by
  have n:j.natAbs≠0:=fun z=>hc.1 (Int.natAbs_eq_zero.mp z);have:=(Nat.log2_lt n).mpr hc.2;omega)))
theorem Fun.okX {P:Program} {w:World} {K:W.Frag} {mg:Str->Option Value} {base:Heap} {CX:YF} {x qual:Str} {st:Stmt} {f:Addr} {fd:FuncData} {N ps:List Str} {k:Nat} {sp:Sp} (F:Fun K x qual st f fd) (S:FnScope N ps (Zw st))
  (len:∀vs H Q E,sp vs H Q E->vs.length=ps.length)
  (hbody:∀(cdv:Value) (A:Around) (outer:List Env) (s:Shared) (H:Hp) (vs:List V) (Q:VK) (E:XK),Room k (A.deeper (envOfC qual (Zw st) s.heap.objs.size f cdv))->sp vs H Q E →
   ∃t,PSs (WQ CX P w K mg base N qual (Zw st) f cdv A outer s H E) (Xh st) t∧t { nx:=fun _ H'=>Q .non H',rt:=Q } (start N vs) H):FnOk P w K mg base CX (k+1) f fd ps sp:=by
 obtain ⟨oc,od,kV,doc,pm,an,cdv,ct,osl,rfl,lk,hcd⟩:=F.ex;exact ZhA lk hcd S len fun A outer s H vs Q E hr hsp=>hbody cdv A outer s H vs Q E hr hsp
end
theorem Zdj:bootBuiltins "int"=some (.type "int"):=by decide +kernel
theorem ZlJ:bootBuiltins "bool"=some (.type "bool"):=by decide +kernel
theorem WB:bootBuiltins "str"=some (.type "str"):=by decide +kernel
theorem UR:bootBuiltins "list"=some (.type "list"):=by decide +kernel
theorem Zii:bootBuiltins "tuple"=some (.type "tuple"):=by decide +kernel
theorem Yp:bootBuiltins "len"=some (.builtin "len"):=by decide +kernel
theorem Zj5:bootBuiltins "abs"=some (.builtin "abs"):=by decide +kernel
theorem JQ:bootBuiltins "max"=some (.builtin "max"):=by decide +kernel
theorem JD:bootBuiltins "min"=some (.builtin "min"):=by decide +kernel
theorem Zk0:bootBuiltins "isinstance"=some (.builtin "isinstance"):=by decide +kernel
abbrev XG:List Value:=[.type "ValueError",.type "Exception",.type "BaseException",.type "object"]
theorem EB:ExcBaseFacts "ValueError" "ValueError.__new__" "ValueError.__init__" XG:=PySem.F.excBase_ValueError
theorem Zl {H:Hp} {p:Addr} {o:HO} (n:H p=none):Same H (Zb H p o):=fun b u e=>by
 rw [Zh (ZU e n)];exact e
theorem Same.rd {H H':Hp} (e:Same H H') {a:Addr} {u:HO} (r:Rd H a u):Rd H' a u:=by
 rcases r with r|⟨o,r⟩
 ·exact .inl (e _ _ r)
 ·exact .inr ⟨o,e _ _ r⟩
theorem Same.sqt {K:W.Frag} {H H':Hp} {a:Addr} {xs:List V} (e:Same H H') (h:SqT K H a xs):SqT K H' a xs:=by
 rcases h with h|h
 ·exact .inl (e.rd h)
 ·exact .inr h
theorem Same.sql {K:W.Frag} {H H':Hp} {a:Addr} {xs:List V} (e:Same H H') (h:SqL K H a xs):SqL K H' a xs:=by
 rcases h with h|h
 ·exact .inl (e.rd h)
 ·exact .inr h
theorem Same.ty {K:W.Frag} {H H':Hp} {x:V} {t:Value} (e:Same H H') (h:TyOf K H x t):TyOf K H' x t:=by
 cases h with
 |non=>exact .non
 |bl b=>exact .bl b
 |int i=>exact .int i
 |str y=>exact .str y
 |flt y=>exact .flt y
 |lst q=>exact .lst (e _ _ q)
 |frz q=>exact .frz (e _ _ q)
 |tup q=>exact .tup (e _ _ q)
 |dK q=>exact .dK (e _ _ q)
 |dT q=>exact .dT (e _ _ q)
 |ins q c a n tk m=>exact .ins (e _ _ q) c a n tk m
theorem Same.kd {K:W.Frag} {H H':Hp} {x:V} {t:Value} (e:Same H H') (h:Kd K H x t):Kd K H' x t:=by
 cases h with
 |of q=>exact .of (e.ty q)
 |exc Z q=>exact .exc Z (e _ _ q)
 |sqt q=>exact .sqt (e.sqt q)
 |sql q=>exact .sql (e.sql q)
def Zkh (K:W.Frag) (t:TA):TE:=fun σ H Q=>t σ H fun xs H1=>∃x c ty b,xs=[x,c]∧isC c=true∧Kd K H1 x ty∧W.kitOne K ty (ZdA c)=some b∧Q (.bl b) H1
theorem Xl {X:Cx} (K:W.Frag) {p pos:Pos} {e:Expr} {es:List Expr} {t:TA} (hg:Gl X "isinstance") (hm:X.mg "isinstance"=none) (ha:PA X (e::es) t) (hK:X.K=K:=by rfl)
  (he:starEach (e::es) X.env=(false,eval e X.env)::starEach es X.env:=by rfl) (hpl:(backTo pos (starEach es X.env)).any (·.1)=false:=by rfl):PE X (.Call (.Name "isinstance" p) (e::es) [] pos) (Zkh K t):=by
 subst hK;exact ZO (ZjU (X:=X)) hg hm Zk0 ha (by decide) (by decide) he hpl
section
variable {K:W.Frag} {H H':Hp}
end
section
variable {X:Cx} {pins:List (Addr×Obj)} {σ:St} {H:Hp} {s:Shared}
end
section
variable {X:Cx} {pins:List (Addr×Obj)} {σ:St} {H:Hp} {s:Shared}
end
section
variable {prog:Program} {w:World} {A:Around} {R:Result->Shared->Prop} {s:Shared}
theorem Zm8 {elt target iter:Expr} {ifs:List Expr} {scope:Scope} {pos:Pos} {it acc:Value} {env:Env} (J:Nat->Shared->Prop)
  (turn:∀n s,J n s->wpAny (model prog w) A (pyNext it) (fun r s1=>match r with
   |none=>R (.ok .next) s1
   |some v => wpAny (model prog w) A (letOwnedTupleGo target it v) (fun _ s2 => wpAny (model prog w) A (assign target env v) (fun _ s3 =>
     wpAny (model prog w) A (forIn ifs true fun c r=>if r=true then do let ok ←isTrue c env (eval c env);pure (ForInStep.yield ok) else pure (ForInStep.yield r)) (fun ok s4 =>
      if ok=true then wpAny (model prog w) A (eval elt env) (fun x s5=>wpAny (model prog w) A (call (.builtin "list.append") [acc,x]) (fun _ s6=>∃m,m<n∧J m s6) (fun _ _=>False) s5) (fun _ _=>False) s4
      else ∃m,m<n∧J m s4) (fun _ _=>False) s3) (fun _ _=>False) s2) (fun _ _=>False) s1) (fun _ _=>False) s)
  (n:Nat) (h:J n s):codeAny (model prog w) A (.compLoop (.ListComp elt [⟨target,iter,ifs,0⟩] scope pos) 0 it acc env) R s:=by
 refine codeAny_loop rfl J (fun n s hJ=>?_) n h;show wpAny _ A ((compTurn (.ListComp elt [⟨target,iter,ifs,0⟩] scope pos) 0 it acc env).onRaise (fun x=>do noteFrame x env;theTreesLotGoes x)) _ _ s;refine wpAny_noted ?_;rw [compTurn_list];refine Qb (Gs (Qb (Q5 (turn n s hJ) (fun r s1 h1=>?_) fun _ _ z=>z.elim)));cases r with
 |none=>exact Qe h1
 |some v =>
  refine Qb (Q5 h1 (fun _ s2 h2=>Qb (Q5 h2 (fun _ s3 h3=>Qb (Q5 h3 (fun ok s4 h4=>?_) fun _ _ z=>z.elim)) fun _ _ z=>z.elim)) fun _ _ z=>z.elim);cases ok with
  |false=>exact Qe ⟨rfl,h4⟩
  |true=>exact Qb (Qb (Q5 h4 (fun x s5 h5=>Qb (Q5 h5 (fun _ s6 h6=>Qe (Qe ⟨rfl,h6⟩)) fun _ _ z=>z.elim)) fun _ _ z=>z.elim))
end
def JP (X:Cx) (ifs:List Expr) (t:TT):Prop :=
 ∀(pins:List (Addr×Obj)) (s:Shared) (σ:St) (H:Hp) (Q:Bool->Hp->Prop),Inv X pins σ H s->t σ H Q →
  wpAny (model X.prog X.w) X.A (forIn ifs true fun c r=>if r=true then do let ok ←isTrue c X.env (eval c X.env);pure (ForInStep.yield ok) else pure (ForInStep.yield r)) (TP X pins σ Q) X.xe s
def ZgE:TT:=fun _ H Q=>Q true H
theorem Za9 {X:Cx}:JP X [] ZgE:=fun _ _ _ H _ I h=>wpAny_tests_nil ⟨H,I,h⟩
theorem Vm {X:Cx} {c:Expr} {t:TT} (h:PT X c t):JP X [c] t:=fun pins s σ H Q I q=>wpAny_tests_one (h pins s σ H Q I q)
noncomputable abbrev Cx.block (X:Cx) (N:List Str) (sc:Scope) (cl:List (Str×Addr)) (fp:List Addr) (s3:Shared) (H3:Hp):Cx :=
 { X with N:=N,s₀:=s3,H₀:=H3,env:=compEnvC sc cl s3.heap.objs.size X.env,outer:=X.stack,ex:=fp,fn:=fun _=>false,pn:=[],xe:=fun _ _=>False }
structure CompSc (X:Cx) (N:List Str) (sc:Scope) (cl:List (Str×Addr)) (σc:St->St):Prop where
 kind:sc.kind=.function
 names:∀x∈sc.names,x.2=.local->sc.names.lookup x.1=some .local
 nocell:∀y∈sc.names,y.2≠.cell
 clos:closureFor sc X.env=pure cl
 sub:∀x c,cl.lookup x=some c->X.env.cells.lookup x=some c
 has:∀x,((relabel sc X.env).names.lookup x=some .cell∨(relabel sc X.env).names.lookup x=some .free)->∃c,cl.lookup x=some c
 len:∀σ:St,(σc σ).length=N.length
 cap:∀(σ:St) (i:Nat) (x:Str) (v:V),N[i]?=some x->(σc σ)[i]?=some (some v)->((relabel sc X.env).names.lookup x=some .cell∨(relabel sc X.env).names.lookup x=some .free)∧(X.env.scope.names.lookup x=some .cell∨X.env.scope.names.lookup x=some .free)∧∃j:Nat,X.N[j]?=some x∧σ[j]?=some (some v)
def ZbT (J:It) (σ0:St) (g:TG) (tt:TT) (te:TE) (Q:VK) (H1:Hp):Prop:=∀D,H1 D=none →
 ∃W:Nat->Nat->St->List V->Hp->Prop,(∃m,W 0 m σ0 [] (Zb H1 D (.lst [])))∧∀i m σ1 ys H2,W i m σ1 ys H2->H2 D=some (.lst ys) ∧
  ((J.stop i H2∧Q (.ref D) H2)∨(J.go i H2∧∃N:St->List V->Hp->Prop,(∀σ2 ys2 H3,N σ2 ys2 H3->∃m',m'<m∧W (i+1) m' σ2 ys2 H3) ∧
   ∀x H3,J.yld i H2 x H3->g x σ1 H3 fun σ2 H4=>tt σ2 H4 fun c H5=>if c=true then te σ2 H5 fun y H6=>H6 D=some (.lst ys)∧ys.length<sizeLine∧N σ2 (ys++[y]) (Zb H6 D (.lst (ys++[y]))) else N σ2 ys H5))
def Zer (wi:TI) (σc:St->St) (g:TG) (tt:TT) (te:TE):TE:=fun σ H Q=>wi σ H fun J H1=>ZbT J (σc σ) g tt te Q H1
section
variable {X:Cx} {pins:List (Addr×Obj)} {σ:St} {H:Hp} {s:Shared} {N:List Str} {sc:Scope} {cl:List (Str×Addr)} {σc:St->St} {fp:List Addr}
theorem Inv.block (I:Inv X pins σ H s) (S:CompSc X N sc cl σc) (hf:∀b∈fp,XM X pins H b) (hlt:∀b∈fp,b<s.heap.objs.size) {h':Heap} {t':Nat} (k:∀b u,s.heap.get? b=some u->h'.get? b=some u) (hn:h'.Ns s.heap.objs.size fun _=>none) :
  Inv (X.block N sc cl fp s H) [] (σc σ) H { s with heap:=h',toks:=t' }:=by
 have kin:∀x,(X.block N sc cl fp s H).env.kindOf x=(relabel sc X.env).names.lookup x:=fun _=>rfl
 refine ⟨⟨I.ok.mod,S.kind,I.ok.glob,I.ok.blt,Qf _,fun x y c h1 h2=>I.ok.inj x y c (S.sub x c h1) (S.sub y c h2),fun x hx=>S.has x hx,fun x c z _=>(nomatch z),I.ok.hd,I.ok.frames,.inl rfl,fun b hb=>⟨Qw (hlt b hb),fun x c e=>(hf b hb).2.2.2.2.1 x c (S.sub x c e)⟩,
  I.bs,Qm I.ok.bsz I.sz,fun b o e hb=>?_,fun b hb z=>?_,I.stack,I.stkFree⟩,
  rfl,I.bare,Un.kept k,⟨_,hn,fun i x v e1 e2 e3=>?_⟩,fun x c e=>?_,I.hok.fresh (Qf _),fun x c e=>I.freeC x c (S.sub x c e),fun p hp=>absurd (show p∈([]:List (Addr×Obj)) from hp) (by simp),I.hok.kept k,S.len σ⟩
 ·rcases (hf b hb).2.2.2.1 with z|z
  ·exact I.ok.noex b o e z
  ·exact absurd (QD (Qi e) (Qm I.ok.bsz z)) (Rh _)
 ·rcases Qh.mp (I.stkSub b z) with y|y
  ·exact (hf b hb).2.1 y
  ·exact (hf b hb).2.2.1 y
 ·obtain ⟨hk,hko,j,hj,hσ⟩:=S.cap σ i x v e1 e2;obtain ⟨m,hm,hl⟩:=I.loc;obtain ⟨u,r,l⟩:=hl j x v hj hσ (by rcases hko with z|z;exact .inr (.inl z);exact .inr (.inr z));refine ⟨u,r,.inr ⟨hk,?_⟩⟩;rcases l with ⟨q,_⟩|⟨_,c,hc,q⟩
  ·have q':X.env.scope.names.lookup x=some .local:=q;rcases hko with z|z<;>(rw [z] at q';cases q')
  ·obtain ⟨c',hc'⟩:=S.has x hk;have e:=S.sub x c' hc';rw [hc] at e;cases e;exact ⟨c,hc',q.keeps k⟩
 ·obtain ⟨v,q⟩:=I.cell x c (S.sub x c e);exact ⟨v,q.keeps k⟩
end
section
variable {X:Cx} {elt tg iter:Expr} {ifs:List Expr} {sc:Scope} {pos:Pos} {N:List Str} {cl:List (Str×Addr)} {σc:St->St} {wi:TI} {g:TG} {tt:TT} {te:TE}
structure Gone (X:Cx) (pins:List (Addr×Obj)) (H:Hp) (C:Addr):Prop where
 free:H C=none
 loc:C≠X.env.locals
 new:X.s₀.heap.objs.size≤C
 cell:∀x c,X.env.cells.lookup x=some c->c≠C
 pin:∀p∈X.pn++pins,p.1≠C
theorem Inv.gone {pins:List (Addr×Obj)} {σ:St} {H:Hp} {s:Shared} {C:Addr} {h':Heap} (I:Inv X pins σ H s) (G:Gone X pins H C) (sb:Heap.SameBut C s.heap h'):Inv X pins σ H { s with heap:=h' } :=
 I.turned (t':=s.toks) (it:=C) (fun b o n q=>(sb.2 b n).trans q) G.free G.loc (.inr G.new) G.cell G.pin
theorem Zev {pins:List (Addr×Obj)} {s2:Shared} {σ:St} {H2:Hp} {Q:VK} {RR:Value->Addr->Result->Shared->Prop} {E:Value->Shared->Prop} {it:Addr} {fp:List Addr} {tn:Nat->Heap->Prop} {J:It}
  (hc:X.calm=true) (S:CompSc X N sc cl σc) (hg:∀fp s3 H3,PG (X.block N sc cl fp s3 H3) tg g) (ht:∀fp s3 H3,JP (X.block N sc cl fp s3 H3) ifs tt) (he:∀fp s3 H3,PE (X.block N sc cl fp s3 H3) elt te)
  (I2:Inv X pins σ H2 s2) (T:Turn X.prog X.w X.K tg J fp it tn) (st2:tn 0 s2.heap) (f2:∀b∈fp,XM X pins H2 b)
  (h2:∀D,H2 D=none->∃W:Nat->Nat->St->List V->Hp->Prop,(∃m,W 0 m (σc σ) [] (Zb H2 D (.lst [])))∧∀i m σ1 ys H2,W i m σ1 ys H2->H2 D=some (.lst ys) ∧
   ((J.stop i H2∧Q (.ref D) H2)∨(J.go i H2∧∃N:St->List V->Hp->Prop,(∀σ2 ys2 H3,N σ2 ys2 H3->∃m',m'<m∧W (i+1) m' σ2 ys2 H3) ∧
    ∀x H3,J.yld i H2 x H3->g x σ1 H3 fun σ2 H4=>tt σ2 H4 fun c H5=>if c=true then te σ2 H5 fun y H6=>H6 D=some (.lst ys)∧ys.length<sizeLine∧N σ2 (ys++[y]) (Zb H6 D (.lst (ys++[y]))) else N σ2 ys H5)))
  (hRR:∀D C m s7 H7,Inv X pins σ H7 s7->s7.heap.Ns C m->Gone X pins H7 C->Q (.ref D) H7->RR (.ref D) C (.ok .next) s7) :
  wpAny (model X.prog X.w) X.A (newList []) (fun acc s₃=>wpAny (model X.prog X.w) X.A (newFunctionEnv sc X.env.globals cl [] X.env.qual none .none (some X.env)) (fun cenv s₄ =>
   codeAny (model X.prog X.w) X.A (.compStart (.ListComp elt [⟨tg,iter,ifs,0⟩] sc pos) 0 (.ref it) acc { cenv with scope:=relabel sc X.env }) (RR acc cenv.locals) s₄) E s₃) E s2:=by
 refine Q8 ?_;have hD:H2 s2.heap.objs.size=none:=I2.hok.fresh (Qf _)
 have I3:Inv X pins σ (Zb H2 s2.heap.objs.size (.lst [])) { s2 with heap:=s2.heap.push { cls:=.type "list",dict:=none,data:=.seq ([]:List Value).toArray } } :=
  I2.laid (t':=s2.toks) (fun b u q=>Qj _ q) (Qf _) ⟨by decide,[],0,.nil,Qs _ rfl⟩
 have flt:∀b∈fp,b<s2.heap.objs.size:=fun b hb=>by
  obtain ⟨o,e,_⟩:=T.obj _ _ st2 b hb;exact Qi e
 obtain ⟨W,⟨m0,w0⟩,turn⟩:=h2 s2.heap.objs.size hD;have f3:∀b∈fp,XM X pins (Zb H2 s2.heap.objs.size (.lst [])) b:=fun b hb=>⟨by rw [Zh (Qw (flt b hb))];exact (f2 b hb).1,(f2 b hb).2⟩;have st3:tn 0 (s2.heap.push { cls:=.type "list",dict:=none,data:=.seq ([]:List Value).toArray }):=T.keep _ _ _ st2 fun b _ o q=>Qj _ q;have sz3:s2.heap.objs.size≤(s2.heap.push { cls:=.type "list",dict:=none,data:=.seq ([]:List Value).toArray }).objs.size:=by rw [Ra];exact QR _
 generalize s2.heap.push { cls:=.type "list",dict:=none,data:=.seq ([]:List Value).toArray }=h3 at *;generalize s2.heap.objs.size=D at *;refine wpAny_newFunctionEnv S.nocell (by intro y hy;simp at hy) (fun h4 hn4 hb4=>?_) S.kind;dsimp only at hn4 hb4 ⊢;have k4:∀b u,h3.get? b=some u->h4.get? b=some u:=fun b u q=>(hb4.2 b (Qw (Qi q))).trans (Qj _ q)
 have I4:Inv (X.block N sc cl fp { s2 with heap:=h3 } (Zb H2 D (.lst []))) [] (σc σ) (Zb H2 D (.lst [])) { s2 with heap:=h4,toks:=s2.toks+0 } :=
  I3.block S f3 (fun b hb=>QD (flt b hb) sz3) k4 hn4
 have st4:tn 0 h4:=T.keep _ _ _ st3 fun b _ o q=>k4 b o q
 have fb:∀{H':Hp},(∀b∈fp,H' b=none)->∀b∈fp,XM (X.block N sc cl fp { s2 with heap:=h3 } (Zb H2 D (.lst []))) [] H' b:=fun hn b hb =>
  ⟨hn b hb,(I4.ok.exf b hb).1,I4.ok.exfs b hb,.inl hb,(I4.ok.exf b hb).2,fun p hp=>absurd (show p∈([]:List (Addr×Obj)) from hp) (by simp)⟩
 have fin:∀{σ':St} {H':Hp} {s':Shared} {h':Heap},Inv (X.block N sc cl fp { s2 with heap:=h3 } (Zb H2 D (.lst []))) [] σ' H' s'->Heap.SameBut h3.objs.size s'.heap h'->Inv X pins σ H' { s' with heap:=h' }:=fun {σ' H' s' h'} J' sb=>by
  have lt3:∀b o,h3.get? b=some o->b≠h3.objs.size:=fun b o q=>Qw (Qi q);have lo:H' h3.objs.size=none:=J'.free
  have hk:HOk X.prog X.w H' h':=fun b u e=>(J'.hok b u e).stay (fun c v hcc q=>(sb.2 c (by
   rintro rfl;rcases hcc with z|z
   ·subst z;rw [lo] at e;cases e
   ·rw [lo] at z;cases z)).trans q) (fun _ q=>q) fun _ _ q=>q
  refine I3.call' (s':={ s' with heap:=h' }) (ch:=fp) J'.os ⟨fun b o q n hb hx=>(sb.2 b (lt3 b o q)).trans (J'.base.keep b o q n hb hx),fun b o q n hb hx=>?_,fun b o q n hx=>J'.base.free b o q n hx,fun b o q hx=>?_,J'.base.tups,J'.base.frzs,J'.base.tbls⟩ hk J'.bare fun b hb=>?_
  ·obtain ⟨sl,q1⟩:=J'.base.slot b o q n hb hx;exact ⟨sl,(sb.2 b (lt3 b o q)).trans q1⟩
  ·obtain ⟨o1,q1⟩:=J'.base.there b o q hx;exact ⟨o1,(sb.2 b (lt3 b o q)).trans q1⟩
  ·exact ⟨(f3 b hb).2.2.2.1,(f3 b hb).2.1,(f3 b hb).2.2.2.2.1,(f3 b hb).2.2.2.2.2⟩
 have loop : ∀s5 : Shared, Inv (X.block N sc cl fp { s2 with heap := h3 } (Zb H2 D (.lst []))) [] (σc σ) (Zb H2 D (.lst [])) s5 → tn 0 s5.heap →
   codeAny (model X.prog X.w) X.A (.compLoop (.ListComp elt [⟨tg,iter,ifs,0⟩] sc pos) 0 (.ref it) (.ref D) (compEnvC sc cl h3.objs.size X.env)) (RR (.ref D) h3.objs.size) s5:=fun s5 I5 st5=>by
  refine Zm8 (fun n s'=>∃i σ' ys H',Inv (X.block N sc cl fp { s2 with heap:=h3 } (Zb H2 D (.lst []))) [] σ' H' s'∧tn i s'.heap∧(∀b∈fp,H' b=none)∧W i n σ' ys H') ?_ m0 ⟨0,_,[],_,I5,st5,fun b hb=>(f3 b hb).1,w0⟩;rintro n s6 ⟨i,σ6,ys,H6,I6,st6,fr6,w6⟩;obtain ⟨hDy,step⟩:=turn i n σ6 ys H6 w6;rcases step with ⟨stop,q6⟩|⟨go,Nx,hN,step⟩
  ·refine Zo (T.done (X.block N sc cl fp { s2 with heap:=h3 } (Zb H2 D (.lst []))) rfl rfl rfl hc i [] s6 σ6 H6 (fun _ _=>False) I6 (fb fr6) st6 stop) fun r s7 ⟨hr,I7⟩=>?_;subst hr;obtain ⟨m7,hm7,_⟩:=I7.loc;refine hRR D h3.objs.size m7 s7 H6 (fin I7 ⟨rfl,fun _ _=>rfl⟩) hm7 ⟨I7.free,Ry I3.lt,I3.sz,fun x c e=>?_,fun p hp=>?_⟩ q6
   ·obtain ⟨v,z⟩:=I3.cell x c e;exact Qw z.lt
   ·exact Qw (Qi (I3.pin p hp).1)
  ·refine Zo (T.item (X.block N sc cl fp { s2 with heap:=h3 } (Zb H2 D (.lst []))) rfl rfl rfl hc i [] s6 σ6 H6 (fun _ _=>False) I6 (fb fr6) st6 go) fun r s7 ⟨u,hr,h7⟩=>?_;subst hr;refine Zo h7 fun _ s8 ⟨x,H8,I8,r8,y8,st8,fr8⟩=>?_;have I8':=I8.pinned (fb fr8) (T.obj _ _ st8);refine Zo (hg _ _ _ _ s8 σ6 H8 x u _ I8' r8 (step x H8 y8)) fun _ s9 ⟨σ9,H9,I9,q9⟩=>?_;refine Zo (ht _ _ _ _ s9 σ9 H9 _ I9 q9) fun c sA ⟨HA,IA,qA⟩=>?_
   have again : ∀{σB : St} {HB : Hp} {sB : Shared} {zs : List V}, Inv (X.block N sc cl fp { s2 with heap := h3 } (Zb H2 D (.lst []))) ([] ++ Jq fp s8.heap) σB HB sB → Nx σB zs HB →
     ∃m,m<n∧∃i σ' ys H',Inv (X.block N sc cl fp { s2 with heap:=h3 } (Zb H2 D (.lst []))) [] σ' H' sB∧tn i sB.heap∧(∀b∈fp,H' b=none)∧W i m σ' ys H':=fun {σB HB sB zs} IB nB=>by
    obtain ⟨m',hm,wB⟩:=hN σB zs HB nB;refine ⟨m',hm,i+1,σB,zs,HB,IB.unpinned,T.keep _ _ _ st8 fun b hb o e=>(IB.pin (b,o) (Q6 _ (Q6 _ (ZaB hb e)))).1,fun b hb=>?_,wB⟩;obtain ⟨o,e,d⟩:=T.obj _ _ st8 b hb;exact (IB.pin (b,o) (Q6 _ (Q6 _ (ZaB hb e)))).2.1
   cases c with
   |false=>exact again IA qA
   |true =>
    refine Zo (he _ _ _ _ sA σ9 HA _ IA qA) fun y sB ⟨yv,HB,IB,rB,dB,lB,qB⟩=>?_;exact Zo (X4 (X:=X.block N sc cl fp { s2 with heap:=h3 } (Zb H2 D (.lst []))) _ sB σ9 HB (.ref D) [yv] (.ref D) [y] (fun v H'=>v=.non∧Nx σ9 (ys++[yv]) H') IB rfl (.cons rB .nil) ⟨D,ys,yv,rfl,rfl,dB,lB,rfl,qB⟩) fun _ sC ⟨_,HC,IC,_,_,qC⟩=>again IC qC
 refine codeAny_compStart_list (loop _ I4 st4) ?_;exact T.self _ 0 _ _ _ st4 (loop _ I4 st4)
theorem JL (hc:X.calm=true) (S:CompSc X N sc cl σc) (hi:PI X tg iter wi) (hg:∀fp s3 H3,PG (X.block N sc cl fp s3 H3) tg g) (ht:∀fp s3 H3,JP (X.block N sc cl fp s3 H3) ifs tt) (he:∀fp s3 H3,PE (X.block N sc cl fp s3 H3) elt te)
  (hs:∀x,foldedSetIterable iter X.env x=pure x:=by intro _;rfl):PE X (.ListComp elt [⟨tg,iter,ifs,0⟩] sc pos) (Zer wi σc g tt te):=by
 intro pins s σ H Q I h;rw [eval_ListComp];refine wpAny_comprehension_free rfl hs S.clos S.kind S.names (Zo (hi pins s σ H _ I h) fun v s1 h1=>Zo h1 fun itv s2 h2=>?_);obtain ⟨it,fp,tn,J,H2,e,I2,T,st2,f2,h2⟩:=h2;subst e;exact Zev (Q:=Q) hc S hg ht he I2 T st2 f2 h2 fun D C m s7 H7 I7 n7 G q=>⟨m,n7,fun h' sb=>⟨.ref D,H7,I7.gone G sb,rfl,q⟩⟩
theorem V4 {i:Nat} {x:Str} {pos' spos:Pos} (hc:X.calm=true) (hN:X.N.Nodup) (hi':X.N[i]?=some x) (hx:Jr X.env.scope x) (S:CompSc X N sc cl σc) (hi:PI X tg iter wi)
  (hg:∀fp s3 H3,PG (X.block N sc cl fp s3 H3) tg g) (ht:∀fp s3 H3,JP (X.block N sc cl fp s3 H3) ifs tt) (he:∀fp s3 H3,PE (X.block N sc cl fp s3 H3) elt te)
  (hs:∀x,foldedSetIterable iter X.env x=pure x:=by intro _;rfl) (hsw:swapsWith (.ListComp elt [⟨tg,iter,ifs,0⟩] sc pos) (some (.Name x pos')) spos.line X.env=pure true:=by rfl)
  (hf:X.fn x=true∨X.env.scope.names.lookup x=some .local:=by first|exact .inl rfl|exact .inr rfl|assumption) :
  PS X (.Assign [.Name x pos'] (.ListComp elt [⟨tg,iter,ifs,0⟩] sc pos) spos) (JX (Zer wi σc g tt te) (Z4 i)):=by
 intro pins s σ H D I h;rw [exec_Assign_Name_used _ _ _ _ hsw];refine Qb (Gs (Qb ?_));show wpAny _ _ (comprehension (.ListComp elt [⟨tg,iter,ifs,0⟩] sc pos) sc X.env (firstIterPos [⟨tg,iter,ifs,0⟩] pos) (newList []) (firstAsync [⟨tg,iter,ifs,0⟩]) (firstIter [⟨tg,iter,ifs,0⟩] X.env) (some (assign (.Name x pos') X.env)) >>= fun _=>pure ()) _ _ s;refine Qb (Q5 (Q:=fun _ s'=>SP X pins D .next s') ?_ (fun _ s' q=>Qe (Qe q)) fun _ _ z=>z);refine wpAny_comprehension_free rfl hs S.clos S.kind S.names (Zo (hi pins s σ H _ I h) fun v s1 h1=>Zo h1 fun itv s2 h2=>?_);obtain ⟨it,fp,tn,J,H2,e,I2,T,st2,f2,h2⟩:=h2;subst e;refine Zev (Q:=fun v H'=>D.nx (σ.set i (some v)) H') hc S hg ht he I2 T st2 f2 h2 fun d C m s7 H7 I7 n7 G q=>?_;show wpAny _ _ (assign (.Name x pos') X.env (.ref d)) _ _ s7;refine wpAny_assign_Name (Zgy (v:=.ref d) I7 hN hi' hx rfl (fun s8 I8 ch=>?_) hf);obtain ⟨a,sb,ha⟩:=ch
 have aC:C≠a:=by
  rcases ha with z|z
  ·rw [z];exact G.loc
  ·exact (G.cell x a z).symm
 exact ⟨m,n7.sameBut sb aC,fun h' sb'=>⟨_,H7,I8.gone G sb',q⟩⟩
end
noncomputable def Itw (n:Nat) (V1:Nat->V->Prop):It:=⟨fun i _=>i<n,fun i H x H'=>H'=H∧V1 i x,fun i _=>i=n⟩
theorem Zgd {P:Program} {w:World} {K:PySem.W.Frag} {tg:Expr} {it:Addr} {n:Nat} {Pv:Nat->Value->Prop} {V1:Nat->V->Prop} {st:Nat->Heap->Prop}
  (W:∀A:Around,A.handled=none->Walks P w A it [it] [it] n Pv st) (ob:∀i h,st i h->∃o,h.get? it=some o∧∀v,o.data≠.cell v) (val:∀i v,Pv i v->∃x,RelV x v∧V1 i x)
  (own:∀i v s (M:Model) (A:Around) (E:Value->Shared->Prop) (Q:Unit->Shared->Prop),Pv i v->Q () s->wpAny M A (letOwnedTupleGo tg (.ref it) v) Q E s)
  (self:∀(A:Around) (i:Nat) (s:Shared) (Q:Value->Shared->Prop) (E:Value->Shared->Prop),st i s.heap->Q (.ref it) s->wpAny (model P w) A (pyIter (.ref it)) Q E s):Turn P w K tg (Itw n V1) [it] it st where
 mem:=by simp
 obj:=fun i h hs b hb=>by
  have e:b=it:=by simpa using hb
  subst e;exact ob i h hs
 keep:=fun i h h' hs k=>(W {} rfl).frame i h h' hs k
 item:=fun X hP hw hK hc i pins s σ H E I hf hs go=>by
  subst hP hw hK;refine (W X.A (I.ok.hd hc)).item i s _ E go hs fun v h' tk pv hs' k=>⟨v,rfl,?_⟩;obtain ⟨x,rx,vx⟩:=val i v pv;obtain ⟨f0,f1,_,f3,f4,f5⟩:=hf it (by simp);have I':Inv X pins σ H { s with heap:=h',toks:=tk }:=I.turned (it:=it) (fun b o n q=>k b o (by simpa using n) q) f0 f1 f3 f4 f5;refine own i v _ _ _ _ _ pv ⟨x,H,I',rx,⟨rfl,vx⟩,hs',fun b hb=>?_⟩;have e:b=it:=by simpa using hb
  subst e;exact f0
 done:=fun X hP hw hK hc i pins s σ H E I hf hs stop=>by
  subst hP hw hK;have e:i=n:=stop;subst e;obtain ⟨f0,f1,_,f3,f4,f5⟩:=hf it (by simp);exact (W X.A (I.ok.hd hc)).done s _ E hs fun h' tk k=>⟨rfl,I.turned (it:=it) (fun b o n q=>k b o (by simpa using n) q) f0 f1 f3 f4 f5⟩
 self:=self
def ZhI (te:TE):TI:=fun σ H R=>te σ H fun x H1=>∃z,x=.str z∧R (Itw z.cps.size fun i y=>∃c,z.cps[i]?=some c∧y=.str ⟨#[c]⟩) H1
theorem ZfB {M:Model} {A:Around} {E:Value->Shared->Prop} {s:Shared} {tg:Expr} {it:Addr} {z:Str} {t:Tok} {Q:Unit->Shared->Prop} (q:Q () s):wpAny M A (letOwnedTupleGo tg (.ref it) (.str z t)) Q E s:=by
 unfold letOwnedTupleGo;cases tg<;>exact Qe q
theorem Zlx {X:Cx} {tg e:Expr} {te:TE} (he:PE X e te):PI X tg e (ZhI te):=by
 intro pins s σ H R I h;refine Zo (he pins s σ H _ I h) fun v s1 ⟨x,H1,I1,r1,z,e1,q⟩=>?_;subst e1;obtain ⟨t,rfl⟩:=r1;have fr:H1 s1.heap.objs.size=none:=I1.hok.fresh (Qf _);by_cases low:z.cps.all (·<128)=true
 ·refine wpAny_pyIter_ascii low ⟨s1.heap.objs.size,[s1.heap.objs.size],fun i h=>h.IsStrIter s1.heap.objs.size "str_ascii_iterator" z t i,_,H1,rfl,I1.kept (t':=s1.toks) fun b u q=>Qj _ q,
   Zgd (fun A hA=>Walks.strAscii hA _ z t) (fun i h ⟨o,ho,_,hd⟩=>⟨o,ho,fun v q=>by rw [hd] at q;cases q⟩) (fun i v ⟨c,u,hc,hv⟩=>⟨.str ⟨#[c]⟩,⟨u,hv⟩,c,hc,rfl⟩) (fun i v s M A E Q ⟨c,u,_,hv⟩ hq=>by rw [hv];exact ZfB hq) fun A i s Q E hs hq=>wpAny_pyIter_striter_ascii hs hq,
   ⟨_,Qs _ rfl,rfl,rfl⟩,fun b hb=>?_,q⟩
  have e:b=s1.heap.objs.size:=by simpa using hb
  subst e;exact I1.fpOk (Qf _) fr
 ·refine wpAny_pyIter_wide (Rl.mpr low) ⟨s1.heap.objs.size,[s1.heap.objs.size],fun i h=>h.IsStrIter s1.heap.objs.size "str_iterator" z t i,_,H1,rfl,I1.kept (t':=s1.toks) fun b u q=>Qj _ q,
   Zgd (fun A hA=>Walks.strWide hA _ z t) (fun i h ⟨o,ho,_,hd⟩=>⟨o,ho,fun v q=>by rw [hd] at q;cases q⟩) (fun i v ⟨c,u,hc,hv⟩=>⟨.str ⟨#[c]⟩,⟨u,hv⟩,c,hc,rfl⟩) (fun i v s M A E Q ⟨c,u,_,hv⟩ hq=>by rw [hv];exact ZfB hq) fun A i s Q E hs hq=>wpAny_pyIter_striter_wide hs hq,
   ⟨_,Qs _ rfl,rfl,rfl⟩,fun b hb=>?_,q⟩
  have e:b=s1.heap.objs.size:=by simpa using hb
  subst e;exact I1.fpOk (Qf _) fr
section
variable {prog:Program} {w:World} {A:Around} {s:Shared}
theorem Zbx (hh:A.handled=none) (it t:Addr) (hne:t≠it) (us:Array Value) :
  Draws prog w A it [it,t] us.size (fun i v=>us[i]?=some v) (fun i h=>h.IsTupleIter it t i∧h.IsTuple t us) where
 live:=fun _ _ ⟨⟨o,e,_⟩,_⟩=>⟨o,e⟩
 frame:=fun _ _ _ ⟨⟨o,e,r⟩,⟨o',e',r'⟩⟩ k=>⟨⟨o,k it (by simp) o e,r⟩,⟨o',k t (by simp) o' e',r'⟩⟩
 item:=by
  intro i s Q E hi ⟨st,ht⟩ hQ;have e:us[i]?=some us[i]:=by simp [hi]
  obtain ⟨o,ho,c,d⟩:=id st;obtain ⟨ot,hot,_,n,dt⟩:=id ht;unfold Builtin.SmallTypes.nextOf;refine Qb (RA (name:=Str.ofString "__next__") st.typeIs GE (Rb GE st.typeIs F.entry_tuple_iterator_next ?_ (F.args_tuple_iterator_next_1 _)));unfold Builtin.«tuple_iterator.__next__»;refine Qb (m:=field (.ref it) 0) (QK ho d (x:=.ref t) rfl ?_);rw [Qa (show ¬((Value.ref t==Value.none)=true) from QB)];refine Qb (m:=field (.ref it) 1) (QK ho d (x:=.int i 0) rfl (Qb (m:=seqItems? (.ref t)) (RM hot dt ?_)));simp only [Ga,e];have sb:=RW s.heap it (Obj.mapFields (·.setIfInBounds 1 (rawInt (i+1))));exact Qb (wpAny_setField ho d (by simp) (Qe ⟨_,rfl,Qe (hQ _ _ s.toks e ⟨⟨_,Heap.get?_update_self _ ho (Obj.isFreed_of_fields (Obj.data_mapFields d _)),(Obj.cls_mapFields ..).trans c,by rw [Obj.data_mapFields d];simp [rawInt]⟩,ht.extBut sb.extBut hne⟩ sb)⟩))
 done:=by
  intro s Q E ⟨st,ht⟩ hE;have e:us[us.size]?=none:=by simp
  obtain ⟨o,ho,c,d⟩:=id st;obtain ⟨ot,hot,_,n,dt⟩:=id ht;unfold Builtin.SmallTypes.nextOf;refine Qb (RA (name:=Str.ofString "__next__") st.typeIs GE (Rb GE st.typeIs F.entry_tuple_iterator_next ?_ (F.args_tuple_iterator_next_1 _)));unfold Builtin.«tuple_iterator.__next__»;refine Qb (m:=field (.ref it) 0) (QK ho d (x:=.ref t) rfl ?_);rw [Qa (show ¬((Value.ref t==Value.none)=true) from QB)];refine Qb (m:=field (.ref it) 1) (QK ho d (x:=.int us.size 0) rfl (Qb (m:=seqItems? (.ref t)) (RM hot dt ?_)));simp only [Ga,e];refine Qb (RP (Qb (wpAny_setField ho d (by simp) ?_)));refine Qb (m:=newExc (.type "StopIteration") []) ?_;simp only [newExc,newTuple];refine Qb (Q8 (Qb (m:=firstArgMember _ _) (wpAny_of_eq (a:=Value.none) (by first|rfl|(simp only [firstArgMember];rfl)) (Q8 ?_ (by size_fits)))) (by size_fits));simp only [raiseNew];refine Qb (wpAny_handled ?_)
  first|rw [show A.in1.handled=none from hh]|rw [hh]
  exact Qb (Qe (wpAny_throw (hE _ _ (((RW ..).extBut.push _).push _) ⟨_,Qs _ rfl,rfl⟩)))
end
structure ZAp (z TI TO i1 i2:Addr) (f1 f2:List Addr):Prop where
 TIz:TI≠z
 TOz:TO≠z
 i1z:i1≠z
 i2z:i2≠z
 TITO:TI≠TO
 TIi1:TI≠i1
 TIi2:TI≠i2
 TOi1:TO≠i1
 TOi2:TO≠i2
 i12:i1≠i2
 z1:z∉f1
 z2:z∉f2
 o1:TO∉f1
 o2:TO∉f2
 b1:i2∉f1
 b2:i1∉f2
section
variable {prog:Program} {w:World} {A:Around} {E:Value->Shared->Prop} {s:Shared} {z TI TO i1 i2:Addr} {f1 f2:List Addr} {n1 n2 k1 k2:Nat} {P1 P2:Nat->Value->Prop} {S1 S2:Nat->Heap->Prop} {a b:Value}
theorem Draws.but {it c:Addr} {fp:List Addr} {n i:Nat} {P:Nat->Value->Prop} {St:Nat->Heap->Prop} {h h':Heap} (D:Draws prog w A it fp n P St) (st:St i h) (e:Heap.ExtBut c h h') (hc:c∉fp):St i h' :=
 D.frame _ _ _ st fun b hb o q=>e b o (fun x=>hc (x▸hb)) q
theorem ZnS {Q:Value->Shared->Prop} (Z:ZAp z TI TO i1 i2 f1 f2) (D1:Draws prog w A i1 f1 n1 P1 S1) (D2:Draws prog w A i2 f2 n2 P2 S2) (hz:IsZip s.heap z TI TO .none) (hTI:IsPair s.heap TI (.ref i1) (.ref i2)) (hTO:IsPair s.heap TO a b)
  (g1:S1 k1 s.heap) (g2:S2 k2 s.heap) (l1:k1<n1) (l2:k2<n2)
  (hQ:∀x y h' tk,P1 k1 x->P2 k2 y->IsZip h' z TI TO (rawInt s.heap.objs.size)->IsPair h' TO x y->S1 (k1+1) h'->S2 (k2+1) h'->IsPair h' s.heap.objs.size x y →
   (∀c o,c≠z->c≠TO->c≠i1->c≠i2->s.heap.get? c=some o->h'.get? c=some o)->Q (.ref s.heap.objs.size) { s with heap:=h',toks:=tk }) :
  wpAny (model prog w) A (Builtin.«zip.__next__» ⟨[.ref z],[]⟩) (fun fin s'=>∃v,fin=.done (.ret v)∧Q v s') E s:=by
 unfold Builtin.«zip.__next__»;refine Qb (m:=field (.ref z) 2) (QK hz rfl (x:=.bool false) rfl ?_);refine Qb (m:=field (.ref z) 3) (QK hz rfl (x:=.ref TI) rfl (Qb (RM hTI rfl ?_)));refine Qb (m:=Builtin.SmallTypes.ownedTupleIsFree (.ref z)) ?_;unfold Builtin.SmallTypes.ownedTupleIsFree;refine Qb (QK hz rfl (x:=.none) rfl (Qe ?_));simp only [Q0];refine Qb (RP (Qb (QK hz rfl (x:=.ref TO) rfl (Qb (Rm hz (by simp) fun hA zA sA=>Qb ?_)))));replace zA:IsZip hA z TI TO .ellipsis:=zA;simp only [List.zipIdx_cons,List.zipIdx_nil,Nc,Nd];refine Qb (Qb (wpAny_onRaise (Qb (m:=Builtin.SmallTypes.nextOf (.ref i1)) (D1.item k1 _ _ _ l1 (Draws.but D1 g1 sA.extBut Z.z1) fun x hB tB px gB sB=>Qe ?_))));have oB:IsPair hB TO a b:=sB.extBut _ _ Z.TOi1 (sA.extBut _ _ Z.TOz hTO);refine Qb (RM oB rfl (Qb (wpAny_updateSeq_pair oB fun hC oC sC=>Qb (GF (Qe ?_)))));replace oC:IsPair hC TO x b:=oC;refine Qb (Qb (wpAny_onRaise (Qb (m:=Builtin.SmallTypes.nextOf (.ref i2)) (D2.item k2 _ _ _ l2 (Draws.but D2 (Draws.but D2 (Draws.but D2 g2 sA.extBut Z.z2) sB.extBut Z.b2) sC.extBut Z.o2) fun y hD tD py gD sD=>Qe ?_))));have oD:IsPair hD TO x b:=sD.extBut _ _ Z.TOi2 oC;refine Qb (RM oD rfl (Qb (wpAny_updateSeq_pair oD fun hE oE sE=>Qb (GF (Qe (Qe ?_))))));replace oE:IsPair hE TO x y:=oE;have zE:IsZip hE z TI TO .ellipsis:=sE.extBut _ _ Z.TOz.symm (sD.extBut _ _ Z.i2z.symm (sC.extBut _ _ Z.TOz.symm (sB.extBut _ _ Z.i1z.symm zA)));have sz:hE.objs.size=s.heap.objs.size:=by rw [sE.1,sD.1,sC.1,sB.1,sA.1]
 have kE:∀c o,c≠z->c≠TO->c≠i1->c≠i2->s.heap.get? c=some o->hE.get? c=some o:=fun c o c1 c2 c3 c4 e=>sE.extBut _ _ c2 (sD.extBut _ _ c4 (sC.extBut _ _ c2 (sB.extBut _ _ c3 (sA.extBut _ _ c1 e))));have d1:S1 (k1+1) hE:=Draws.but D1 (Draws.but D1 (Draws.but D1 gB sC.extBut Z.o1) sD.extBut Z.b1) sE.extBut Z.o1;have d2:S2 (k2+1) hE:=Draws.but D2 gD sE.extBut Z.o2;refine Qb (RM oE rfl (Qb (wpAny_newTuple ?_)));refine Qb (m:=Builtin.SmallTypes.ownedTupleHandOut (.ref z) (.ref hE.objs.size)) ?_;unfold Builtin.SmallTypes.ownedTupleHandOut;have zF:IsZip (hE.push { cls:=.type "tuple",data:=.seq #[x,y] }) z TI TO .ellipsis:=Qj _ zE;refine Qb (Rm zF (by simp) fun hG zG sG=>?_);replace zG:IsZip hG z TI TO (rawInt hE.objs.size):=zG;refine Rm zG (by simp) fun hI zI sI=>Qe ⟨_,rfl,?_⟩;replace zI:IsZip hI z TI TO (rawInt hE.objs.size):=zI;have up:∀c o,c≠z->hE.get? c=some o->hI.get? c=some o:=fun c o c1 e=>sI.extBut _ _ c1 (sG.extBut _ _ c1 (Qj _ e));have zl:hE.objs.size≠z:=Ry (Qi zE);have tI:IsPair hI hE.objs.size x y:=sI.extBut _ _ zl (sG.extBut _ _ zl (Qs _ rfl));show Q (.ref hE.objs.size) _;rw [sz] at zI tI ⊢;exact hQ x y hI tD px py zI (up _ _ Z.TOz oE) (D1.frame _ _ _ d1 fun c hc o e=>up c o (fun q=>Z.z1 (q▸hc)) e) (D2.frame _ _ _ d2 fun c hc o e=>up c o (fun q=>Z.z2 (q▸hc)) e) tI fun c o c1 c2 c3 c4 e=>up c o c1 (kE c o c1 c2 c3 c4 e)
theorem ZiY {Q:Fin->Shared->Prop} (Z:ZAp z TI TO i1 i2 f1 f2) (D1:Draws prog w A i1 f1 n1 P1 S1) (hz:IsZip s.heap z TI TO .none) (hTI:IsPair s.heap TI (.ref i1) (.ref i2))
  (g1:S1 n1 s.heap)
  (hE:∀h' e,(∀c o,c≠z->c≠TO->c≠i1->c≠i2->s.heap.get? c=some o->h'.get? c=some o)->(∃o,h'.get? e=some o∧o.cls=.type "StopIteration")->E (.ref e) { s with heap:=h' }) :
  wpAny (model prog w) A (Builtin.«zip.__next__» ⟨[.ref z],[]⟩) Q E s:=by
 unfold Builtin.«zip.__next__»;refine Qb (m:=field (.ref z) 2) (QK hz rfl (x:=.bool false) rfl ?_);refine Qb (m:=field (.ref z) 3) (QK hz rfl (x:=.ref TI) rfl (Qb (RM hTI rfl ?_)));refine Qb (m:=Builtin.SmallTypes.ownedTupleIsFree (.ref z)) ?_;unfold Builtin.SmallTypes.ownedTupleIsFree;refine Qb (QK hz rfl (x:=.none) rfl (Qe ?_));simp only [Q0];refine Qb (RP (Qb (QK hz rfl (x:=.ref TO) rfl (Qb (Rm hz (by simp) fun hA zA sA=>Qb ?_)))));replace zA:IsZip hA z TI TO .ellipsis:=zA;simp only [List.zipIdx_cons,List.zipIdx_nil,Nc,Nd];refine Qb (Qb (wpAny_onRaise (Qb (m:=Builtin.SmallTypes.nextOf (.ref i1)) (D1.done _ _ _ (Draws.but D1 g1 sA.extBut Z.z1) fun hB e sB he=>?_))));obtain ⟨o,ho,c⟩:=he;have zB:IsZip hB z TI TO .ellipsis:=sB _ _ Z.i1z.symm zA
 have ez:e≠z:=fun q=>by
  subst q;rw [zB] at ho;cases ho;simp at c
 exact Rm zB (by simp) fun hC _ sC=>hE hC e (fun c o c1 _ c3 _ q=>sC.extBut _ _ c1 (sB _ _ c3 (sA.extBut _ _ c1 q))) ⟨o,sC.extBut _ _ ez ho,c⟩
theorem ZoK {Q:Option Value->Shared->Prop} (Z:ZAp z TI TO i1 i2 f1 f2) (D1:Draws prog w A.in1 i1 f1 n1 P1 S1) (D2:Draws prog w A.in1 i2 f2 n2 P2 S2) (hz:IsZip s.heap z TI TO .none) (hTI:IsPair s.heap TI (.ref i1) (.ref i2)) (hTO:IsPair s.heap TO a b)
  (g1:S1 k1 s.heap) (g2:S2 k2 s.heap) (l1:k1<n1) (l2:k2<n2)
  (hQ:∀x y h' tk,P1 k1 x->P2 k2 y->IsZip h' z TI TO (rawInt s.heap.objs.size)->IsPair h' TO x y->S1 (k1+1) h'->S2 (k2+1) h'->IsPair h' s.heap.objs.size x y →
   (∀c o,c≠z->c≠TO->c≠i1->c≠i2->s.heap.get? c=some o->h'.get? c=some o)->Q (some (.ref s.heap.objs.size)) { s with heap:=h',toks:=tk }) :
  wpAny (model prog w) A (pyNext (.ref z)) Q E s:=by
 have T:s.TypeIs (.ref z) "zip":=⟨_,hz,rfl⟩;unfold pyNext
 exact Qb (GG (RA (name:=Str.ofString "__next__") T GH (Rb GH T F.entry_zip_next
  (ZnS Z D1 D2 hz hTI hTO g1 g2 l1 l2 fun x y h' tk a1 a2 a3 a4 a5 a6 a7 a8=>Qe (hQ x y h' tk a1 a2 a3 a4 a5 a6 a7 a8)) (F.args_zip_next_1 _))))
theorem Zir {Q:Option Value->Shared->Prop} (Z:ZAp z TI TO i1 i2 f1 f2) (D1:Draws prog w A.in1 i1 f1 n1 P1 S1) (hz:IsZip s.heap z TI TO .none) (hTI:IsPair s.heap TI (.ref i1) (.ref i2)) (g1:S1 n1 s.heap)
  (hQ:∀h',(∀c o,c≠z->c≠TO->c≠i1->c≠i2->s.heap.get? c=some o->h'.get? c=some o)->Q none { s with heap:=h' }):wpAny (model prog w) A (pyNext (.ref z)) Q E s:=by
 have T:s.TypeIs (.ref z) "zip":=⟨_,hz,rfl⟩;unfold pyNext;refine Qb (GG (RA (name:=Str.ofString "__next__") T GH (Rb GH T F.entry_zip_next (ZiY Z D1 hz hTI g1 fun h' e k he=>?_) (F.args_zip_next_1 _))));obtain ⟨o,ho,c⟩:=he;exact Qb (Nf (T:="StopIteration") (b:=true) ⟨o,ho,c⟩ isSubtype_stop (Qe (hQ _ k)))
end
section
variable {X:Cx} {pins:List (Addr×Obj)} {σ:St} {H:Hp} {s:Shared} {h':Heap}
theorem Inv.turnedAll {t':Nat} {ch:List Addr} (I:Inv X pins σ H s) (hf:∀b∈ch,XM X pins H b) (k:∀b o,b∉ch->s.heap.get? b=some o->h'.get? b=some o):Inv X pins σ H { s with heap:=h',toks:=t' }:=by
 have nit:∀b u,H b=some u->b∉ch:=fun b u e z=>by rw [(hf b z).1] at e;cases e
 refine I.step (g':=s.gens) (d':=s.drawn) (ch:=ch) (fun b hb=>⟨(hf b hb).2.2.2.1,(hf b hb).2.1,(hf b hb).2.2.2.2⟩) (fun b o _ _ hc e _=>k b o hc e) (fun b o _ _ hc e _=>⟨o.slots,k b o hc e⟩) (fun _ _ _ _ n=>n)
  (fun b o hc e=>⟨o,k b o hc e⟩) (fun _ _ e=>e) (fun _ _ _ e=>e) (fun b ps e=>⟨#[],by rw [e];simp⟩) (fun m hm=>?_) (fun b u e=>?_) I.bare
 ·obtain ⟨o,es,ep,ho,r⟩:=hm;exact ⟨o,es,ep,k _ o (fun z=>(hf _ z).2.1 rfl) ho,r⟩
 ·refine (I.hok b u e).stay (fun c v hc q=>k c v ?_ q) (fun _ q=>q) fun _ _ q=>q;rcases hc with z|z
  ·rw [z];exact nit b u e
  ·exact nit c _ z
theorem Inv.turnedLaid {t':Nat} {ch:List Addr} {T:Addr} {o:HO} (I:Inv X pins σ H s) (hf:∀b∈ch,XM X pins H b) (k:∀b o,b∉ch->s.heap.get? b=some o->h'.get? b=some o) (hp:s.heap.objs.size≤T) (new:ObjOk X.prog X.w (Zb H T o) h' T o) :
  Inv X pins σ (Zb H T o) { s with heap:=h',toks:=t' }:=by
 have nit:∀b u,H b=some u->b∉ch:=fun b u e z=>by rw [(hf b z).1] at e;cases e
 have hn:=I.hok.fresh hp;have up:∀{b u},H b=some u->Zb H T o b=some u:=fun {b u} e=>by rw [Zh (ZU e hn)];exact e
 refine I.step (g':=s.gens) (d':=s.drawn) (ch:=ch) (fun b hb=>⟨(hf b hb).2.2.2.1,(hf b hb).2.1,(hf b hb).2.2.2.2⟩) (fun b o _ _ hc e _=>k b o hc e) (fun b o _ _ hc e _=>⟨o.slots,k b o hc e⟩) (fun b u _ e n=>?_)
  (fun b o hc e=>⟨o,k b o hc e⟩) (fun _ _ e=>up e) (fun _ _ _ e=>up e) (fun b ps e=>⟨#[],by rw [up e];simp⟩) (fun m hm=>?_) (fun b u e=>?_) I.bare
 ·rw [Zh (fun z=>absurd (Qi e) (by rw [z];exact Nat.not_lt.mpr hp))];exact n
 ·obtain ⟨o,es,ep,ho,r⟩:=hm;exact ⟨o,es,ep,k _ o (fun z=>(hf _ z).2.1 rfl) ho,r⟩
 ·by_cases hb:b=T
  ·subst hb;rw [Zg] at e;cases e;exact new
  ·rw [Zh hb] at e;refine (I.hok b u e).stay (fun c v hc q=>k c v ?_ q) (fun _ q=>up q) fun _ _ q=>up q;rcases hc with z|z
   ·rw [z];exact nit b u e
   ·exact nit c _ z
end
noncomputable def Itz (K:W.Frag) (a b:Addr):It :=
 ⟨fun i H => ∃xs ys x y, SqT K H a xs ∧ SqT K H b ys ∧ xs[i]?=some x ∧ ys[i]?=some y,
  fun i H v H'=>∃T x y,H T=none∧v=.ref T∧(∀xs,SqT K H a xs->xs[i]?=some x)∧(∀ys,SqT K H b ys->ys[i]?=some y)∧H'=Zb H T (.tup [x,y]),
  fun i H=>∃xs,SqT K H a xs∧xs.length=i⟩
def ZSt (z TI TO i1 i2 a b:Addr) (i:Nat) (h:Heap):Prop:=IsZip h z TI TO .none∧IsPair h TI (.ref i1) (.ref i2)∧(∃u v,IsPair h TO u v)∧h.IsTupleIter i1 a i∧h.IsTupleIter i2 b i
theorem ZhQ {P:Program} {w:World} {K:W.Frag} {es:List Expr} {n:Nat} {pos:Pos} {z TI TO i1 i2 a b:Addr} (Z:ZAp z TI TO i1 i2 [i1,a] [i2,b]) (ha:a≠i1) (hb:b≠i2) :
  Turn P w K (.Tuple es n pos) (Itz K a b) [z,TI,TO,i1,i2] z (ZSt z TI TO i1 i2 a b) where
 mem:=by simp
 obj:=fun i h ⟨h1,h2,⟨u,v,h3⟩,⟨o4,h4,_,d4⟩,⟨o5,h5,_,d5⟩⟩ c hc=>by
  simp only [Qh,QS,QT] at hc;rcases hc with rfl|rfl|rfl|rfl|rfl
  ·exact ⟨_,h1,fun v q=>by cases q⟩
  ·exact ⟨_,h2,fun v q=>by cases q⟩
  ·exact ⟨_,h3,fun v q=>by cases q⟩
  ·exact ⟨_,h4,fun v q=>by rw [d4] at q;cases q⟩
  ·exact ⟨_,h5,fun v q=>by rw [d5] at q;cases q⟩
 keep:=fun i h h' ⟨h1,h2,⟨u,v,h3⟩,⟨o4,h4,r4⟩,⟨o5,h5,r5⟩⟩ k =>
  ⟨k _ (by simp) _ h1,k _ (by simp) _ h2,⟨u,v,k _ (by simp) _ h3⟩,⟨o4,k _ (by simp) _ h4,r4⟩,⟨o5,k _ (by simp) _ h5,r5⟩⟩
 item:=by
  intro X hP hw hK hc i pins s σ H E I hf ⟨h1,h2,⟨u,v,h3⟩,h4,h5⟩ ⟨xs,ys,x,y,qa,qb,ex,ey⟩;subst hP hw hK;obtain ⟨as,ra,ta,la⟩:=I.tuple qa;obtain ⟨bs,rb,tb,lb⟩:=I.tuple qb;have hh:X.A.in1.handled=none:=I.ok.hd hc;have la':=ra.length;have lb':=rb.length
  have lx:i<as.toArray.size:=by
   have:=(QF.mp ex).1;simp only [Qv];omega
  have ly:i<bs.toArray.size:=by
   have:=(QF.mp ey).1;simp only [Qv];omega
  refine ZoK Z (Zbx hh i1 a ha as.toArray) (Zbx hh i2 b hb bs.toArray) h1 h2 h3 ⟨h4,ta⟩ ⟨h5,tb⟩ lx ly fun u1 u2 h' tk p1 p2 z1 o1 g1 g2 t1 k=>?_;refine ⟨_,rfl,wpAny_letOwnedTupleGo_zip z1 fun h'' z2 sb=>?_⟩;have lz:z<s.heap.objs.size:=Qi h1;have nz:s.heap.objs.size≠z:=Ry lz;obtain ⟨v1,e1,r1⟩:=ra.get ex;obtain ⟨v2,e2,r2⟩:=rb.get ey
  have q1:v1=u1:=by
   have p:as[i]?=some u1:=by simpa using p1
   rw [e1] at p;exact Qt p
  have q2:v2=u2:=by
   have p:bs[i]?=some u2:=by simpa using p2
   rw [e2] at p;exact Qt p
  subst q1 q2
  have kk:∀c o,c∉[z,TI,TO,i1,i2]->s.heap.get? c=some o->h''.get? c=some o:=fun c o hc e=>by
   simp only [Qh,QS,QT,not_or] at hc;exact sb.extBut _ _ hc.1 (k c o hc.1 hc.2.2.1 hc.2.2.2.1 hc.2.2.2.2 e)
  have tt:IsPair h'' s.heap.objs.size v1 v2:=sb.extBut _ _ nz t1;have I':=I.turnedLaid (t':=tk) (o:=.tup [x,y]) hf kk (Qf _) (show ObjOk X.prog X.w _ h'' _ (.tup [x,y]) from ⟨ZD (by simp),[v1,v2],.cons r1 (.cons r2 .nil),⟨_,tt,rfl,_,rfl⟩⟩);refine ⟨.ref s.heap.objs.size,_,I',rfl,⟨s.heap.objs.size,x,y,I.hok.fresh (Qf _),rfl,fun zs hz=>by rw [I.tuple_inj hz qa];exact ex,fun zs hz=>by rw [I.tuple_inj hz qb];exact ey,rfl⟩,?_,fun c hc=>?_⟩
  ·exact ⟨z2,sb.extBut _ _ Z.TIz (k _ _ Z.TIz Z.TITO Z.TIi1 Z.TIi2 h2),⟨_,_,sb.extBut _ _ Z.TOz o1⟩,g1.1.extBut sb.extBut Z.i1z,g2.1.extBut sb.extBut Z.i2z⟩
  ·have hlt:c<s.heap.objs.size:=by
    simp only [Qh,QS,QT] at hc;obtain ⟨o4,e4,_⟩:=h4;obtain ⟨o5,e5,_⟩:=h5;rcases hc with rfl|rfl|rfl|rfl|rfl
    ·exact lz
    ·exact Qi h2
    ·exact Qi h3
    ·exact Qi e4
    ·exact Qi e5
   rw [Zh (Qw hlt)];exact (hf c hc).1
 done:=by
  intro X hP hw hK hc i pins s σ H E I hf ⟨h1,h2,⟨u,v,h3⟩,h4,h5⟩ ⟨xs,qa,hl⟩;subst hP hw hK;obtain ⟨as,ra,ta,la⟩:=I.tuple qa;have hh:X.A.in1.handled=none:=I.ok.hd hc
  have e:i=as.toArray.size:=by
   have:=ra.length;simp only [Qv];omega
  subst e;refine Zir (f2:=[i2,b]) Z (Zbx hh i1 a ha as.toArray) h1 h2 ⟨h4,ta⟩ fun h' k=>⟨rfl,I.turnedAll (t':=s.toks) hf fun c o hc e=>?_⟩;simp only [Qh,QS,QT,not_or] at hc;exact k c o hc.1 hc.2.2.1 hc.2.2.2.1 hc.2.2.2.2 e
 self:=fun _ _ _ _ _ st h=>wpAny_pyIter_zip st.1 h
theorem Zjz {prog:Program} {w:World} {A:Around} {E:Value->Shared->Prop} {s:Shared} {a b:Addr} {us vs:Array Value} {Q:Value->Shared->Prop} (ha:s.heap.IsTuple a us) (hb:s.heap.IsTuple b vs)
  (h:∀h',ZSt (s.heap.objs.size+4) (s.heap.objs.size+2) (s.heap.objs.size+3) s.heap.objs.size (s.heap.objs.size+1) a b 0 h'->(∀c o,s.heap.get? c=some o->h'.get? c=some o)->Q (.ref (s.heap.objs.size+4)) { s with heap:=h' }) :
  wpAny (model prog w) A (call (.type "zip") [.ref a,.ref b]) Q E s:=by
 let H1:Heap:=s.heap.push { cls:=.type "tuple_iterator",data:=.fields #[.ref a,.int 0 0] }
 let H2:Heap:=H1.push { cls:=.type "tuple_iterator",data:=.fields #[.ref b,.int 0 0] }
 let H3:Heap:=H2.push { cls:=.type "tuple",data:=.seq #[.ref s.heap.objs.size,.ref H1.objs.size] }
 let H4:Heap:=H3.push { cls:=.type "tuple",data:=.seq #[.none,.none] }
 let H5:Heap:=H4.push { cls:=.type "zip",data:=.fields #[.none,.bool false,.bool false,.ref H2.objs.size,.ref H3.objs.size] }
 have m:Meets (Builtin.«zip.__new__» ⟨[.type "zip",.ref a,.ref b],[]⟩) (fun _ R s1=>s1=s∧R (.ok (.ret (.ref H4.objs.size))) { s with heap:=H5 }):=.of_wp fun prog w A R s1 hR=>by
  obtain ⟨rfl,hR⟩:=hR;obtain ⟨hp,g,d,tk,os⟩:=s1;have hsub:=sub_zip;have hL1:Heap.IsTuple (Shared.heap ⟨hp,g,d,tk,os⟩) a us:=ha;have hL2:Heap.IsTuple (Shared.heap ⟨hp.push { cls:=.type "tuple_iterator",data:=.fields #[.ref a,.int 0 0] },g,d,tk,os⟩) b vs:=Heap.IsTuple.push hb _
  wp_walk using R5 hL1,R5 hL2
  exact ⟨_,rfl,hR⟩
 refine callType_new F.called_zip (by decide) (F.typeCall_zip_2 _ _) (F.newCall_zip_2 _ _) (fun obj=>F.args_object_init_3 obj _ _) F.entry_zip_new m ⟨rfl,?_⟩;have z1:H1.objs.size=s.heap.objs.size+1:=Ra ..;have z2:H2.objs.size=s.heap.objs.size+2:=by rw [Ra,z1]
 have z3:H3.objs.size=s.heap.objs.size+3:=by rw [Ra,z2]
 have z4:H4.objs.size=s.heap.objs.size+4:=by rw [Ra,z3]
 have up5:∀c o,H4.get? c=some o->H5.get? c=some o:=fun c o e=>Qj _ e;have up4:∀c o,H3.get? c=some o->H5.get? c=some o:=fun c o e=>up5 c o (Qj _ e);have up3:∀c o,H2.get? c=some o->H5.get? c=some o:=fun c o e=>up4 c o (Qj _ e);have up2:∀c o,H1.get? c=some o->H5.get? c=some o:=fun c o e=>up3 c o (Qj _ e);have g5:H5.get? H4.objs.size=some _:=Qs _ rfl;have g4:H5.get? H3.objs.size=some _:=up5 _ _ (Qs _ rfl);have g3:H5.get? H2.objs.size=some _:=up4 _ _ (Qs _ rfl);have g2:H5.get? H1.objs.size=some _:=up3 _ _ (Qs _ rfl);have g1:H5.get? s.heap.objs.size=some _:=up2 _ _ (Qs _ rfl);show _∧_;rw [z4,z2,z3] at g5;rw [z3] at g4;rw [z2,z1] at g3;rw [z1] at g2;rw [z4];exact ⟨⟨_,g5,rfl⟩,h H5 ⟨g5,g3,⟨_,_,g4⟩,⟨_,g1,rfl,rfl⟩,⟨_,g2,rfl,rfl⟩⟩ fun c o e=>up2 c o (Qj _ e)⟩
theorem ZhO:bootBuiltins "zip"=some (.type "zip"):=by decide +kernel
theorem ZbN:bootBuiltins "all"=some (.builtin "all"):=by decide +kernel
theorem UK {c x y:Nat} (h1:c≠x) (h2:c≠y):c∉[x,y]:=fun z=>by
 rcases Qh.mp z with z|z
 ·exact h1 z
 ·exact h2 (by simpa using z)
theorem ZmX {m a b:Nat} (la:a<m) (lb:b<m):ZAp (m+4) (m+2) (m+3) m (m+1) [m,a] [m+1,b] where
 TIz:=(by omega:(m+2:Nat)≠m+4)
 TOz:=(by omega:(m+3:Nat)≠m+4)
 i1z:=(by omega:(m:Nat)≠m+4)
 i2z:=(by omega:(m+1:Nat)≠m+4)
 TITO:=(by omega:(m+2:Nat)≠m+3)
 TIi1:=(by omega:(m+2:Nat)≠m)
 TIi2:=(by omega:(m+2:Nat)≠m+1)
 TOi1:=(by omega:(m+3:Nat)≠m)
 TOi2:=(by omega:(m+3:Nat)≠m+1)
 i12:=(by omega:(m:Nat)≠m+1)
 z1:=UK (by omega) (by omega)
 z2:=UK (by omega) (by omega)
 o1:=UK (by omega) (by omega)
 o2:=UK (by omega) (by omega)
 b1:=UK (by omega) (by omega)
 b2:=UK (by omega) (by omega)
section
variable {X:Cx}
def Zkk (K:W.Frag) (ta:TA):TI:=fun σ H R=>ta σ H fun vs H1=>∃a b,vs=[.ref a,.ref b]∧(∃xs,SqT K H1 a xs)∧(∃ys,SqT K H1 b ys)∧R (Itz K a b) H1
theorem Zn2 (K:W.Frag) {e1 e2:Expr} {ta:TA} {p pos pos':Pos} {es:List Expr} {n:Nat} (hg:Gl X "zip") (hm:X.mg "zip"=none) (ha:PA X [e1,e2] ta) (hK:X.K=K:=by rfl)
  (hs:starEach [e1,e2] X.env=(false,eval e1 X.env)::starEach [e2] X.env:=by rfl) (hpl:(backTo pos (starEach [e2] X.env)).any (·.1)=false:=by rfl):PI X (.Tuple es n pos') (.Call (.Name "zip" p) [e1,e2] [] pos) (Zkk K ta):=by
 subst hK;intro pins s σ H R I h;refine RK (UD I hg hm ZhO (Gv (Zo (ha pos pins s σ H _ I h) fun us s1 ⟨vs,H1,I1,r1,q1⟩=>?_) hs hpl));obtain ⟨a,b,e,⟨xs,qa⟩,⟨ys,qb⟩,q⟩:=q1;subst e;obtain ⟨u,v,rfl,ra,rb⟩:=UM r1;cases (show u=Value.ref a from ra);cases (show v=Value.ref b from rb);obtain ⟨as,ka,ta',_⟩:=I1.tuple qa;obtain ⟨bs,kb,tb',_⟩:=I1.tuple qb;have la:a<s1.heap.objs.size:=by obtain ⟨o,e,_⟩:=ta';exact Qi e
 have lb:b<s1.heap.objs.size:=by obtain ⟨o,e,_⟩:=tb';exact Qi e
 refine Zjz ta' tb' fun h' st k=>wpAny_pyIter_zip st.1 ?_;have Z:=ZmX la lb;refine ⟨s1.heap.objs.size+4,_,_,_,H1,rfl,I1.kept (t':=s1.toks) k,ZhQ Z (Qw la) (Qw (Ge lb)),st,fun c hc=>?_,q⟩
 have hle:s1.heap.objs.size≤c:=by
  simp only [Qh,QS,QT] at hc;rcases hc with rfl|rfl|rfl|rfl|rfl
  ·exact RX _ 4
  ·exact RX _ 2
  ·exact RX _ 3
  ·exact Qf _
  ·exact RX _ 1
 have e:=I1.fpOk hle (I1.hok.fresh hle);exact e
theorem Zlt {P:Program} {w:World} {A:Around} {bs:List Bool} {us:List Value} (r:Vals (bs.map V.bl) us):TruthOf P w A (fun i v=>us.toArray[i]?=some v) (fun i=>bs.getD i false):=by
 intro i v s Q E e q;have e':us[i]?=some v:=by simpa using e
 have hl:=r.length;rw [Qd] at hl
 have lt:i<bs.length:=by
  have:=(QF.mp e').1;omega
 obtain ⟨u,e2,r2⟩:=r.get (i:=i) (x:=V.bl bs[i]) (by simp [lt]);rw [e'] at e2;cases e2;cases (show v=Value.bool bs[i] from r2);have z:bs.getD i false=bs[i]:=by simp [List.getD,lt]
 exact Rx (by rw [←z];exact q)
theorem ZeQ:∀bs:List Bool,((List.range bs.length).all fun i=>bs.getD i false)=bs.all id
 |[]=>rfl
 |b::bs=>by
  rw [QJ,List.range_succ_eq_map,Gz,List.all_map,Gz,←ZeQ bs];rfl
theorem ZdD (hc:X.calm=true):YQ X (.builtin "all") (fun xs H Q=>∃(a:Addr) (bs:List Bool),xs=[.ref a]∧H a=some (.lst (bs.map V.bl))∧Q (.bl (bs.all id)) H):=by
 intro pins s σ H xs us Q I r h;obtain ⟨a,bs,rfl,q,hq⟩:=h;obtain ⟨u,rfl,ru⟩:=Xr r;cases (show u=Value.ref a from ru);obtain ⟨its,rv,pl,hz⟩:=I.list (.inl (.inl q));have lt:a<s.heap.objs.size:=by obtain ⟨o,e,_⟩:=pl.isList;exact Qi e
 have hl:=rv.length;rw [Qd] at hl;refine call_all_walk (GU pl.isList ⟨s.heap.objs.size,_,_,_,_,_,_,rfl,Walks.list (show X.A.in1.handled=none from I.ok.hd hc) _ a (Qw lt) its.toArray,⟨⟨_,Qs _ rfl,rfl,rfl⟩,pl.isList.push _⟩,Zlt rv,fun h' tk k=>?_⟩);rw [Qv,←hl,ZeQ];exact ⟨.bl _,H,I.kept (t':=tk) fun b o e=>k b o (fun z=>absurd (Qi e) (by rw [show b=s.heap.objs.size by simpa using z];exact Rh _)) (Qj _ e),rfl,hq⟩
def ZeE (X:Cx) (CX:YF) (Wg:Addr->Sp->Prop):Prop:=∀f sp,Wg f sp->∃k fd ps,FnOk X.prog X.w X.K X.mg X.base CX k f fd ps sp∧Room k X.A∧W.keepIn X.K (.ref f)=true∧Binds X.K fd ps []
def ZjL (Wg:Addr->Sp->Prop) (i:Nat) (E:XK) (t:TA):TE:=fun σ H Q=>∃f sp,σ[i]?=some (some (.ref f))∧Wg f sp∧t σ H fun vs H1=>sp vs H1 Q E
theorem Zjp {CX:YF} {Wg:Addr->Sp->Prop} {E:XK} {i:Nat} {x:Str} {p pos:Pos} {e:Expr} {es:List Expr} {t:TA} (F:ZeE X CX Wg) (hN:X.N[i]?=some x) (hv:Vis X.env.scope x) (hx:Ze7 CX X E) (ha:PA X (e::es) t)
  (hd:(x==("__debug__" : Str))=false:=by decide) (hcd:(x==("__classdict__" : Str))=false:=by decide)
  (he:starEach (e::es) X.env=(false,eval e X.env)::starEach es X.env:=by rfl) (hpl:(backTo pos (starEach es X.env)).any (·.1)=false:=by rfl):PE X (.Call (.Name x p) (e::es) [] pos) (ZjL Wg i E t):=by
 intro pins s σ H Q I h;obtain ⟨f,sp,e1,hF,q⟩:=h;obtain ⟨k,fd,ps,Fn,hr,hk,hb⟩:=F f sp hF;refine RK (Zo (ZgQ hN hv hd hcd pins s σ H (fun v H'=>v=.ref f∧H'=H) I ⟨_,e1,rfl,rfl⟩) fun u s1 ⟨v,H1,I1,r1,e2,e3⟩=>?_);subst e2 e3;cases (show u=Value.ref f from r1);refine RL (h₀:=X.base) I1.ok.mod.kin hk (Zo (ha pos pins s1 σ H1 _ I1 q) fun us s2 ⟨vs,H2,I2,r2,q2⟩=>⟨I2.kIn,?_⟩) he hpl;exact ZjF Fn hr hb .nil hx I2 r2 (by rw [Qo];exact q2)
end
section
variable {X:Cx} {tg l:Expr} {tl:TE} (K:W.Frag) (hK:X.K=K)
include hK
theorem Jk:UW X (ZfJ K):=by subst hK;exact Zp
end
theorem Zot {X:Cx} (K:W.Frag) {es:List Expr} {k:Nat} {t:Wk} {n:Nat} {pos:Pos} (hc:X.calm=true) (h:Ug X es t) (hK:X.K=K:=by rfl)
  (hn:(assignEach es X.env).length=n:=by rfl) (hst:(assignEach es X.env).findIdx? (·.1)=none:=by rfl):PG X (.Tuple es k pos) (Zd7 K n t):=by
 subst hK;exact Jl hc h hn hst
theorem Za2 {J:It} {σ0:St} {g:TG} {te:TE} {Q:VK} {H1:Hp} (out:List V) (hn:out.length<sizeLine) (σP:St->Prop) (h0:σP σ0)
  (go:∀i H,i<out.length->Same H1 H->J.go i H) (stop:∀H,Same H1 H->J.stop out.length H)
  (step:∀i σ H x H' y,out[i]?=some y->σP σ->Same H1 H->J.yld i H x H'->∀C:V->St->Hp->Prop,(∀σ2 H6,σP σ2->Same H H6->C y σ2 H6)->g x σ H' fun σ2 H4=>te σ2 H4 fun y' H6=>C y' σ2 H6)
  (fin:∀D H',H1 D=none->Same H1 H'->H' D=some (.lst out)->Q (.ref D) H'):ZbT J σ0 g ZgE te Q H1:=by
 intro D hD
 have keep:∀{H:Hp} {o:HO},Same H1 H->Same H1 (Zb H D o):=fun {H o} e b u q=>by
  rw [Zh (ZU q hD)];exact e b u q
 refine ⟨fun i m σ ys H=>i≤out.length∧m=out.length-i∧σP σ∧ys=out.take i∧H D=some (.lst ys)∧Same H1 H,⟨_,QO _,rfl,h0,rfl,Zg,keep (Same.refl H1)⟩,?_⟩;rintro i m σ ys H ⟨hi,rfl,p,rfl,hd,sm⟩;refine ⟨hd,?_⟩;by_cases lt:i<out.length
 ·refine .inr ⟨go i H lt sm,fun σ2 ys2 H3=>σP σ2∧ys2=out.take (i+1)∧H3 D=some (.lst ys2)∧Same H1 H3,fun σ2 ys2 H3 ⟨a,b,c,d⟩=>⟨_,by omega,lt,rfl,a,b,c,d⟩,fun x H3 y=>?_⟩;have e:out[i]?=some out[i]:=by simp [lt]
  refine step i σ H x H3 out[i] e p sm y (fun y' σ2 H6=>H6 D=some (.lst (out.take i))∧(out.take i).length<sizeLine∧σP σ2∧out.take i++[y']=out.take (i+1)∧Zb H6 D (.lst (out.take i++[y'])) D=some (.lst (out.take i++[y']))∧Same H1 (Zb H6 D (.lst (out.take i++[y'])))) fun σ2 H6 p2 s6=>?_;exact ⟨s6 _ _ hd,by rw [QZ];omega,p2,by rw [List.take_add_one,e];rfl,Zg,keep (sm.trans s6)⟩
 ·have e:i=out.length:=by omega
  subst e;rw [Re] at hd;exact .inl ⟨stop H sm,fin D H hD sm hd⟩
section
variable {K:W.Frag} {H:Hp} {xs ys:List V} {a b:Addr} {Q:VK}
end
noncomputable def ZcO (js:List (Option Nat)) (σ:St):St:=js.map fun o=>match o with|none=>none|some j=>(σ[j]?).getD none
noncomputable def Jw (fr:List Str) (cells:List (Str×Addr)):List (Str×Addr):=fr.filterMap fun x=>(cells.lookup x).map fun c=>(x,c)
noncomputable def ZiT (js:List (Option Nat)) (N M:List Str) (inn out:List (Str×NameKind)):Bool :=
 (js.zip N).all fun p=>match p.1 with
  |none=>true
  |some j=>(M[j]?==some p.2)&&((inn.lookup p.2==some .cell)||(inn.lookup p.2==some .free))&&((out.lookup p.2==some .cell)||(out.lookup p.2==some .free))
theorem Zeq {L:List (Str×NameKind)} {x:Str} (h:((L.lookup x==some NameKind.cell)||(L.lookup x==some NameKind.free))=true):L.lookup x=some .cell∨L.lookup x=some .free:=by
 rw [RN] at h;rcases h with h|h
 ·exact .inl (RS h)
 ·exact .inr (RS h)
theorem ZmD {fr:List Str} {cells:List (Str×Addr)} {x:Str} (h:x∈fr) (e:(cells.lookup x).isSome=true):∃c,(Jw fr cells).lookup x=some c:=by
 obtain ⟨c,hc⟩:=Ny.mp e
 induction fr with
 |nil=>cases h
 |cons y r ih =>
  unfold Jw;rw [QW];by_cases q:y=x
  ·subst q;rw [hc];exact ⟨c,by simp⟩
  ·have hr:x∈r:=by
    rcases Qh.mp h with z|z
    ·exact absurd z.symm q
    ·exact z
   cases e2:cells.lookup y with
   |none=>exact ih hr
   |some d =>
    obtain ⟨c',hc'⟩:=ih hr;refine ⟨c',?_⟩;show List.lookup x ((y,d)::Jw r cells)=some c';rw [List.lookup_cons,RG.mpr (QX q)];exact hc'
theorem WH {X:Cx} {N:List Str} {sc:Scope} (fr:List Str) (js:List (Option Nat)) (hk:sc.kind=.function) (hn:∀x∈sc.names,x.2=.local->sc.names.lookup x.1=some .local) (hc:∀y∈sc.names,y.2≠.cell)
  (clos:closureFor sc X.env=pure (Jw fr X.env.cells)) (hall:(fr.all fun x=>(X.env.cells.lookup x).isSome)=true)
  (hhas:((relabel sc X.env).names.all fun y=>(y.2 != .cell&&y.2 != .free)||fr.contains y.1)=true) (hl:js.length=N.length) (hcap:ZiT js N X.N (relabel sc X.env).names X.env.scope.names=true) :
  CompSc X N sc (Jw fr X.env.cells) (ZcO js):=by
 have lk:∀(x:Str) (M:List (Str×NameKind)) (k:NameKind),M.lookup x=some k->(x,k)∈M:=fun x M k h=>RJ h;refine ⟨hk,hn,hc,clos,fun x c h=>?_,fun x h=>?_,fun σ=>?_,fun σ i x v e1 e2=>?_⟩
 ·have m:=RJ h;obtain ⟨y,_,e⟩:=Ri.mp m;obtain ⟨d,hd,e'⟩:=QL.mp e;cases e';exact hd
 ·have hm:x∈fr:=by
   rcases h with h|h <;>
   ·have q:=Ru.mp hhas _ (lk x _ _ h);rw [RN] at q;rcases q with q|q
    ·simp at q
    ·simpa using q
  exact ZmD hm (Ru.mp hall x hm)
 ·unfold ZcO;rw [Qd,hl]
 ·unfold ZcO at e2;rw [Qu] at e2;obtain ⟨o,ho,e2⟩:=QL.mp e2;cases o with
  |none=>cases e2
  |some j =>
   have hz:(some j,x)∈js.zip N:=by
    refine List.mem_iff_getElem?.mpr ⟨i,?_⟩;rw [List.getElem?_zip_eq_some];exact ⟨ho,e1⟩
   have q:=Ru.mp hcap _ hz;simp only [Rk] at q;refine ⟨Zeq q.1.2,Zeq q.2,j,RS q.1.1,?_⟩;replace e2:(σ[j]?).getD none=some v:=e2;cases e3:σ[j]? with
   |none=>rw [e3] at e2;cases e2
   |some o'=>rw [e3] at e2;rw [show o'=some v from e2]
theorem VE {J:It} {σ0:St} {g:TG} {tt:TT} {te:TE} {Q:VK} {H1:Hp} (ZR:List (Option V)) (hn:ZR.length<sizeLine) (σP:St->Prop) (h0:σP σ0)
  (go:∀i H,i<ZR.length->Same H1 H->J.go i H) (stop:∀H,Same H1 H->J.stop ZR.length H)
  (step:∀i σ H x H' o,ZR[i]?=some o->σP σ->Same H1 H->J.yld i H x H'->∀C:Option V->St->Hp->Prop,(∀σ2 H6,σP σ2->Same H H6->C o σ2 H6)->g x σ H' fun σ2 H4=>tt σ2 H4 fun c H5=>if c=true then te σ2 H5 fun y' H6=>C (some y') σ2 H6 else C none σ2 H5)
  (fin:∀D H',H1 D=none->Same H1 H'->H' D=some (.lst (ZR.filterMap id))->Q (.ref D) H'):ZbT J σ0 g tt te Q H1:=by
 intro D hD
 have keep:∀{H:Hp} {o:HO},Same H1 H->Same H1 (Zb H D o):=fun {H o} e b u q=>by
  rw [Zh (ZU q hD)];exact e b u q
 have fl:∀i,((ZR.take i).filterMap id).length≤ZR.length:=fun i=>Qm (GI _ _) (by rw [QZ];omega);refine ⟨fun i m σ ys H=>i≤ZR.length∧m=ZR.length-i∧σP σ∧ys=(ZR.take i).filterMap id∧H D=some (.lst ys)∧Same H1 H,⟨_,QO _,rfl,h0,rfl,Zg,keep (Same.refl H1)⟩,?_⟩;rintro i m σ ys H ⟨hi,rfl,p,rfl,hd,sm⟩;refine ⟨hd,?_⟩;by_cases lt:i<ZR.length
 ·refine .inr ⟨go i H lt sm,fun σ2 ys2 H3=>σP σ2∧ys2=(ZR.take (i+1)).filterMap id∧H3 D=some (.lst ys2)∧Same H1 H3,fun σ2 ys2 H3 ⟨a,b,c,d⟩=>⟨_,by omega,lt,rfl,a,b,c,d⟩,fun x H3 y=>?_⟩;have e:ZR[i]?=some ZR[i]:=by simp [lt]
  have tk:(ZR.take (i+1)).filterMap id=(ZR.take i).filterMap id++ZR[i].toList:=by
   rw [List.take_add_one,e];simp only [Option.toList_some,RB];cases ZR[i]<;>rfl
  refine step i σ H x H3 ZR[i] e p sm y (fun o σ2 H6=>match o with
   |some y'=>H6 D=some (.lst ((ZR.take i).filterMap id))∧((ZR.take i).filterMap id).length<sizeLine∧σP σ2∧(ZR.take i).filterMap id++[y']=(ZR.take (i+1)).filterMap id∧Zb H6 D (.lst ((ZR.take i).filterMap id++[y'])) D=some (.lst ((ZR.take i).filterMap id++[y']))∧Same H1 (Zb H6 D (.lst ((ZR.take i).filterMap id++[y'])))
   |none=>σP σ2∧(ZR.take i).filterMap id=(ZR.take (i+1)).filterMap id∧H6 D=some (.lst ((ZR.take i).filterMap id))∧Same H1 H6) fun σ2 H6 p2 s6=>?_
  rw [tk];cases hg:ZR[i] with
  |none=>exact ⟨p2,by simp,s6 _ _ hd,sm.trans s6⟩
  |some y'=>exact ⟨s6 _ _ hd,RV (fl i) hn,p2,by simp,Zg,keep (sm.trans s6)⟩
 ·have e:i=ZR.length:=by omega
  subst e;rw [Re] at hd;exact .inl ⟨stop H sm,fin D H hD sm hd⟩
end L2
namespace RevF
open PySem PySem.Spec PyProof.Rows
theorem sp:splitId "reversed.__new__"=some ("reversed","__new__"):=by rfl
section
variable {prog:Program} {w:World} {A:Around} {E:Value->Shared->Prop} {s:Shared} {a it:Addr} {us:Array Value}
end
end RevF
namespace L2
open PySem PySem.Spec PyProof.Rows
section
variable {X:Cx}
end
section
variable {prog:Program} {w:World} {A:Around} {E:Value->Shared->Prop} {s:Shared}
end
section
variable {X:Cx}
end
section
variable {X:Cx} {o e f:Expr} {apos cpos:Pos} {td ty tx:TE}
end
section
variable {X:Cx}
theorem Zlh {n:Nat} (h:n≤1000):3*n≤sizeLine:=Qm (Nat.mul_le_mul_left 3 h) (by decide)
theorem Zm3:Uf X "str.lower" (fun x xs H Q=>∃z,x=.str z∧xs=[]∧z.length≤1000∧Q (.str (Txt.lower z)) H):=by
 intro pins s σ H x xs v us Q I rx r h;obtain ⟨z,rfl,rfl,hz,q⟩:=h;obtain ⟨t,rfl⟩:=rx;cases r;exact call_gives PySem.F.slot_str_lower rfl PySem.F.entry_str_lower (PySem.F.args_str_lower_1 _) (gives_str_lower z t (fit_lower (by omega))) ⟨Qm (len_lower z) (Zlh hz),.str (Txt.lower z),H,I.tok _,⟨_,rfl⟩,q⟩
theorem ZgW (K:W.Frag) {o:Expr} {to:TE} {name:Str} {apos cpos:Pos} {T id:String} {r:V->List V->Hp->VK->Prop} (pa:PlainAttrs T) (slot:Slot T name id) (hty:typeOf (.builtin id)=pure (.type "method_descriptor")) (hm:Uf X id r) (ho:PE X o to) (hK:X.K=K:=by rfl)
  (hbase:attributeBase o name X.env (eval o X.env)=eval o X.env:=by rfl) (hline:(apos.endLine==cpos.line)=true:=by rfl):PE X (.Call (.Attribute o name apos) [] [] cpos) (Zft K T r to):=by
 subst hK;exact Zjg pa slot hty hm ho hbase hline
end
end L2
namespace RevF
open PySem PySem.Spec PyProof.Rows
section
variable {prog:Program} {w:World} {A:Around} {E:Value->Shared->Prop} {s:Shared} {a it:Addr} {us:Array Value}
end
end RevF
namespace TextM
open PySem
end TextM
namespace L2
open PySem PySem.Spec PyProof.Rows
section
variable {X:Cx}
theorem ZbB:∀{zs:List Str} {us:List Value},Vals (zs.map V.str) us->StrsAre us zs
 |[],_,.nil=>.nil
 |z::zs,_,.cons r rs=>by
  obtain ⟨t,rfl⟩:=r;exact .cons z t (ZbB rs)
theorem ZcI:100002≤sizeLine:=by decide
end
section
variable {X:Cx} {pins:List (Addr×Obj)} {σ:St} {H:Hp} {s:Shared}
end
section
variable {X:Cx}
def Zlp:V->Option Int->Option Int->Hp->VK->Prop:=fun x lo hi H Q=>∃z,x=.str z∧z.length≤sizeLine∧Q (.str (Txt.slice z lo hi)) H
theorem Zgc {v:Value} {o:Option Int} (h:IsPart v o):∃l:Option (Int×Tok),v=partValue l∧l.map (·.1)=o:=by
 cases h with
 |none=>exact ⟨none,rfl,rfl⟩
 |int i t=>exact ⟨some (i,t),rfl,rfl⟩
theorem ZiI:SlR X Zlp:=by
 intro pins s σ H x v vl vu lo hi sl Q I rx hs pl pu h;obtain ⟨z,rfl,hz,q⟩:=h;obtain ⟨t,rfl⟩:=rx;obtain ⟨l,rfl,el⟩:=Zgc pl;obtain ⟨u,rfl,eu⟩:=Zgc pu;refine ⟨"str",_,PyProof.Rows.slot_str_getitem.lookup,rfl,wpAny_getItem_str_slice (st:=none) hs rfl ?_⟩;unfold sliceMade slicePicked;rw [el,eu];show Made.post (if ((1:Int)==1&&(Builtin.Str.strSliceIndices lo hi 1 z.length).length==z.length)=true then _ else Made.str ⟨(List.filterMap (fun i=>z.cps[i]?) (Builtin.Str.strSliceIndices lo hi 1 z.length)).toArray⟩) _ _;have hle:=Txt.slice_le z lo hi;unfold Txt.slice at q hle;by_cases c:((1:Int)==1&&(Builtin.Str.strSliceIndices lo hi 1 z.length).length==z.length)=true
 ·rw [Qc c];rw [Qc c] at q;exact ⟨.str z,H,I,⟨_,rfl⟩,q⟩
 ·rw [Qa c];rw [Qa c] at q hle;exact ⟨Qm hle hz,.str _,H,I.tok _,⟨_,rfl⟩,q⟩
end
section
variable {X:Cx} {CX:YF} {k:Nat} {f C:Addr} {fd:FuncData} {ps:List Str} {sp:Sp} {dvs:List V} {ds:List Value} {E:XS} {x m:Str} {p pos apos:Pos} {e o:Expr} {es:List Expr} {ta:TE} {t:TA}
def Zf5 (C:Addr) (m:Str) (sp:Sp) (dvs:List V) (E:XS) (ta:TE) (t:TA):TE:=fun σ H Q=>ta σ H fun x H1=>∃a dx fs,x=.ref a∧H1 a=some (.ins C dx fs)∧fs.lookup m=none ∧
 t σ H1 fun vs H2=>sp (x::(vs++dvs)) H2 Q (E σ)
theorem Yj {pl:Sem Bool} (he:PE X o ta) (c:Cls X.K C) (hm:Meth X.K C m f) (F:FnOk X.prog X.w X.K X.mg X.base CX k f fd ps sp) (hr:Room k X.A) (hb:Binds X.K fd ps ds) (hd:Vals dvs ds) (hx:Xw CX X E) (ha:PA X (e::es) t)
  (hst:starEach (e::es) X.env=(false,eval e X.env)::starEach es X.env:=by rfl) (hpl:(backTo pos (starEach es X.env)).any (·.1)=false:=by rfl)
  (ht:eval (.Call (.Attribute o m apos) (e::es) [] pos) X.env=(do
   let ov ←eval o X.env
   standAt apos.atName
   let (f,first) ←holding [ov] (getMethod ov m pl)
   callWith pos f first (backTo pos (starEach (e::es) X.env)) (backToKw pos (keywordEach [] X.env))):=by rfl) :
  PE X (.Call (.Attribute o m apos) (e::es) [] pos) (Zf5 C m sp dvs E ta t):=by
 intro pins s σ H Q I h;refine GJ (pl:=pl) (Zo (he pins s σ H _ I h) fun u s1 ⟨x,H1,I1,rx,a,dx,fs,ex,ea,l,q⟩=>?_) ht;subst ex;obtain rfl:u=Value.ref a:=rx;refine WT I1 ea c hm l ?_;refine RL (first:=[.ref a]) (h₀:=X.base) I.ok.mod.kin hm.kp (Zo (ha pos pins s1 σ H1 _ I1 q) fun us s2 ⟨vs,H2,I2,r,q2⟩=>⟨I2.kIn,?_⟩) hst hpl;exact Wu (us:=.ref a::us) (vs:=.ref a::vs) F hr hb hd hx I2 (.cons rfl r) q2
theorem Zol {pl:Sem Bool} (he:PE X o ta) (c:Cls X.K C) (hm:Meth X.K C m f) (F:FnOk X.prog X.w X.K X.mg X.base CX k f fd ps sp) (hr:Room k X.A) (hb:Binds X.K fd ps ds) (hd:Vals dvs ds) (hx:Xw CX X E)
  (ht:eval (.Call (.Attribute o m apos) [] [] pos) X.env=(do
   let ov ←eval o X.env
   standAt apos.atName
   let (f,first) ←holding [ov] (getMethod ov m pl)
   callWith pos f first (backTo pos (starEach [] X.env)) (backToKw pos (keywordEach [] X.env))):=by rfl) :
  PE X (.Call (.Attribute o m apos) [] [] pos) (Zf5 C m sp dvs E ta UN):=by
 intro pins s σ H Q I h;refine GJ (pl:=pl) (Zo (he pins s σ H _ I h) fun u s1 ⟨x,H1,I1,rx,a,dx,fs,ex,ea,l,q⟩=>?_) ht;subst ex;obtain rfl:u=Value.ref a:=rx;refine WT I1 ea c hm l ?_;exact Gf (first:=[.ref a]) I1.kIn hm.kp (Wu (us:=[.ref a]) (vs:=[.ref a]) F hr hb hd hx I1 (.cons rfl .nil) q)
def ZfK (C:Addr) (sp:Sp) (dvs:List V) (E:XS) (t:TA):TE:=fun σ H Q=>t σ H fun vs H1=>∀x dx,H1 x=none->H1 dx=none->dx≠x →
 sp (.ref x::(vs++dvs)) (Zb (Zb H1 dx (.own x)) x (.ins C dx [])) (fun v H2=>v=.non∧Q (.ref x) H2) (E σ)
theorem ZfW {pins:List (Addr×Obj)} {σ:St} {H:Hp} {s:Shared} {Q:VK} {us:List Value} {vs:List V} (M:Mk X.K C f) (F:FnOk X.prog X.w X.K X.mg X.base CX k f fd ps sp) (hr:Room (k+1) X.A) (hb:Binds X.K fd ps ds) (hd:Vals dvs ds)
  (hx:Xw CX X E) (I:Inv X pins σ H s) (r:Vals vs us)
  (h:∀x dx,H x=none->H dx=none->dx≠x->sp (.ref x::(vs++dvs)) (Zb (Zb H dx (.own x)) x (.ins C dx [])) (fun v H2=>v=.non∧Q (.ref x) H2) (E σ)) :
  wpAny (model X.prog X.w) X.A (call (.ref C) us) (EP X pins σ Q) X.xe s:=by
 have hq:=h (s.heap.objs.size+1) s.heap.objs.size (I.hok.fresh (QR _)) (I.hok.fresh (Qf _)) (Qw (Rz _));have I2:=Inv.made (C:=C) I;have r2:Vals (V.ref (s.heap.objs.size+1)::(vs++dvs)) (Value.ref (s.heap.objs.size+1)::(us++ds)):=.cons rfl (r.append hd)
 have hl:(Value.ref (s.heap.objs.size+1)::us++ds).length=ps.length:=by
  have e:=r2.length;rw [F.len _ _ _ _ hq] at e;exact e.symm
 refine wpAny_call (ZjT (f:=f) I.kIn M.makes M.init (Rs.mp M.fn) (R8 (F.run _ X.stack _ _ ⟨Value.ref (s.heap.objs.size+1)::us,[]⟩ (Value.ref (s.heap.objs.size+1)::(us++ds)) _ _ (E σ) (hr.make C us [])
  (I2.env0.make C us []) (hb _ (Value.ref (s.heap.objs.size+1)::us) I2.kIn hl) r2 hq) fun r s' hq'=>?_))
 cases r with
 |error e=>exact hx pins σ _ _ e s' I2 hq'
 |ok fl =>
  cases fl with
  |ret u =>
   obtain ⟨v,H',I3,rv,ev,q3⟩:=I2.after hq';subst ev;exact ⟨rv,⟨V.ref (s.heap.objs.size+1),H',I3,rfl,q3⟩⟩
  |next=>exact False.elim hq'
  |brk=>exact False.elim hq'
  |cont=>exact False.elim hq'
theorem Zdp (M:Mk X.K C f) (F:FnOk X.prog X.w X.K X.mg X.base CX k f fd ps sp) (hr:Room (k+1) X.A) (hg:Gl X x) (hm:X.mg x=some (.ref C)) (hb:Binds X.K fd ps ds) (hd:Vals dvs ds) (hx:Xw CX X E)
  (ha:PA X (e::es) t) (hdb:(x==("__debug__" : Str))=false:=by decide) (he:starEach (e::es) X.env=(false,eval e X.env)::starEach es X.env:=by rfl) (hpl:(backTo pos (starEach es X.env)).any (·.1)=false:=by rfl) :
  PE X (.Call (.Name x p) (e::es) [] pos) (ZfK C sp dvs E t):=by
 intro pins s σ H Q I h;refine RK (Jo I hg hm ?_ hdb);refine RL (h₀:=X.base) I.ok.mod.kin M.kp (Zo (ha pos pins s σ H _ I h) fun us s1 ⟨vs,H1,I1,r,q⟩=>⟨I1.kIn,?_⟩) he hpl;exact ZfW M F hr hb hd hx I1 r q
theorem ZiX (M:Mk X.K C f) (F:FnOk X.prog X.w X.K X.mg X.base CX k f fd ps sp) (hr:Room (k+1) X.A) (hg:Gl X x) (hm:X.mg x=some (.ref C)) (hb:Binds X.K fd ps ds) (hd:Vals dvs ds) (hx:Xw CX X E)
  (hdb:(x==("__debug__" : Str))=false:=by decide):PE X (.Call (.Name x p) [] [] pos) (ZfK C sp dvs E UN):=by
 intro pins s σ H Q I h;refine RK (Jo I hg hm ?_ hdb);exact Gf I.kIn M.kp (ZfW (us:=[]) M F hr hb hd hx I .nil h)
end
section
variable {X:Cx}
theorem Wx:bootBuiltins "sorted"=some (.builtin "sorted"):=by decide +kernel
theorem JB:∀{us:List Value} {zs:List Str},StrsAre us zs->Vals (zs.map V.str) us
 |_,_,.nil=>.nil
 |_,_,.cons y t r=>.cons ⟨t,rfl⟩ (JB r)
theorem J9 (K:W.Frag) (hK:X.K=K:=by rfl):YQ X (.builtin "sorted") (fun xs H Q=>∃l zs,xs=[.ref l]∧SqL K H l (zs.map V.str)∧zs.length<64∧∀D zs',H D=none->zs'.Perm zs->sortedS zs'=true->Q (.ref D) (Zb H D (.lst (zs'.map V.str)))):=by
 subst hK;intro pins s σ H xs us Q I r h;obtain ⟨l,zs,rfl,hq,hl,q⟩:=h;obtain ⟨u,rfl,ru⟩:=Xr r;cases (show u=Value.ref l from ru);obtain ⟨its,rv,pl,hz⟩:=I.list hq;have hlen:=rv.length;rw [Qd] at hlen;refine sorted_strs pl.isList (ZbB rv) (by omega) fun out zs' so hp hs=>?_;obtain ⟨e,he⟩:=sortedAll_at s.heap its out;have hle:s.heap.objs.size≤s.heap.objs.size+1:=QR _;have hl2:zs'.length=zs.length:=hp.length_eq;refine ⟨.ref _,_,I.laid (t':=s.toks) (o:=.lst (zs'.map V.str)) (fun b u q=>sortedAll_old q) hle (show ObjOk X.prog X.w _ _ _ (.lst (zs'.map V.str)) from ⟨by rw [Qd];exact QY (ZD (by omega)),out.toList,e,JB so,he⟩),rfl,q _ zs' (I.hok.fresh hle) hp hs⟩
end
noncomputable def ZP (x y:Str):Bool:=decide (x.cps.toList<y.cps.toList)
section
variable {prog:Program} {w:World} {A:Around} {E:Value->Shared->Prop} {s:Shared}
noncomputable def YL (xs:Array (Str×Tok)):Array Value:=xs.map fun p=>.str p.1 p.2
noncomputable def XT (xs:Array (Str×Tok)) (i:Nat):Str:=(xs[i]?.map (·.1)).getD ""
theorem Ze8 {xs:Array (Str×Tok)} {i:Nat} {v:Value} (h:(YL xs)[i]?=some v):∃t,v=.str (XT xs i) t:=by
 simp only [YL,Array.getElem?_map,QL] at h;obtain ⟨p,hp,rfl⟩:=h;exact ⟨p.2,by simp [XT,hp]⟩
theorem ZmN {P:Nat->Value->Prop} (val:Nat->Str) (hval:∀i v,P i v->∃t,v=.str (val i) t):CmpOf prog w A .Gt P (fun i j=>ZP (val j) (val i)):=fun i j vi vj s Q E hi hj h=>by
 obtain ⟨t,rfl⟩:=hval i vi hi;obtain ⟨u,rfl⟩:=hval j vj hj;exact richCompare_gives (op:=.Gt) (RT s _ t) (RT s _ u) F.slot_str_gt F.entry_str_gt (F.args_str_gt_2 _ _) (gives_str_gt _ _ t u) (fun x=>nomatch x) h
theorem Zmi {P:Nat->Value->Prop} (val:Nat->Str) (hval:∀i v,P i v->∃t,v=.str (val i) t):CmpOf prog w A .Lt P (fun i j=>ZP (val i) (val j)):=fun i j vi vj s Q E hi hj h=>by
 obtain ⟨t,rfl⟩:=hval i vi hi;obtain ⟨u,rfl⟩:=hval j vj hj;exact richCompare_gives (op:=.Lt) (RT s _ t) (RT s _ u) F.slot_str_lt F.entry_str_lt (F.args_str_lt_2 _ _) (gives_str_lt _ _ t u) (fun x=>nomatch x) h
theorem Zl3 {a b:Str} {t u:Tok} {Q:Value->Shared->Prop} (hh:A.handled=none)
  (h:∀h' tk,(∀c o,s.heap.get? c=some o->h'.get? c=some o)->Q (if ZP a b=true then .str b u else .str a t) { s with heap:=h',toks:=tk }) :
  wpAny (model prog w) A (call (.builtin "max") [.str a t,.str b u]) Q E s:=by
 have hT:(s.heap.push { cls:=.type "tuple",data:=.seq #[.str a t,.str b u] }).IsTuple s.heap.objs.size (YL #[(a,t),(b,u)]):=⟨_,Qs _ rfl,rfl,0,by simp [YL]⟩;refine call_max_two (R5 hT ?_);have hsz:(s.heap.push { cls:=.type "tuple",data:=.seq #[.str a t,.str b u] }).objs.size=s.heap.objs.size+1:=Ra ..
 refine ⟨_,[_,s.heap.objs.size],[_],_,_,_,_,rfl,Walks.tuple (A:=A.in1) hh _ s.heap.objs.size (by rw [hsz];exact Qw (Rz _)) (YL #[(a,t),(b,u)]),
  ⟨⟨_,Qs _ rfl,rfl,rfl⟩,hT.push _⟩,fun c hc=>?_,by simp [YL],ZmN (XT #[(a,t),(b,u)]) (fun _ _=>Ze8),fun v h' tk hP hk=>?_⟩
 ·show c<((s.heap.push _).push _).objs.size;rw [Ra,hsz];rcases Qh.mp hc with rfl|hc
  ·rw [hsz];exact Rz _
  ·rcases Qh.mp hc with rfl|hc
   ·exact Ge (Rz _)
   ·cases hc
 ·have hold:∀c o,s.heap.get? c=some o->h'.get? c=some o:=fun c o e=>by
   refine hk c o (fun hm=>?_) (Qj _ (Qj _ e));rcases Qh.mp hm with e1|hm
   ·have:=Qi e;rw [e1,hsz] at this;exact Rh _ (Nat.lt_of_succ_lt this)
   ·cases hm
  have:=h h' tk hold
  have hv:v=if ZP a b=true then Value.str b u else Value.str a t:=by
   have hP':(YL #[(a,t),(b,u)])[argBest (fun i j=>ZP (XT #[(a,t),(b,u)] j) (XT #[(a,t),(b,u)] i)) 1]?=some v:=by
    have hsz2:(YL #[(a,t),(b,u)]).size-1=1:=by simp [YL]
    rw [←hsz2];exact hP
   have e0:argBest (fun i j=>ZP (XT #[(a,t),(b,u)] j) (XT #[(a,t),(b,u)] i)) 1=if ZP a b=true then 1 else 0:=by
    show (if _=true then 1 else 0)=_;rfl
   by_cases hba:ZP a b=true
   ·rw [e0,Qc hba] at hP';rw [Qc hba];simpa [YL] using hP'.symm
   ·rw [e0,Qa hba] at hP';rw [Qa hba];simpa [YL] using hP'.symm
  rw [hv];exact this
theorem Zke {a b:Str} {t u:Tok} {Q:Value->Shared->Prop} (hh:A.handled=none)
  (h:∀h' tk,(∀c o,s.heap.get? c=some o->h'.get? c=some o)->Q (if ZP b a=true then .str b u else .str a t) { s with heap:=h',toks:=tk }) :
  wpAny (model prog w) A (call (.builtin "min") [.str a t,.str b u]) Q E s:=by
 have hT:(s.heap.push { cls:=.type "tuple",data:=.seq #[.str a t,.str b u] }).IsTuple s.heap.objs.size (YL #[(a,t),(b,u)]):=⟨_,Qs _ rfl,rfl,0,by simp [YL]⟩;refine call_min_two (R5 hT ?_);have hsz:(s.heap.push { cls:=.type "tuple",data:=.seq #[.str a t,.str b u] }).objs.size=s.heap.objs.size+1:=Ra ..
 refine ⟨_,[_,s.heap.objs.size],[_],_,_,_,_,rfl,Walks.tuple (A:=A.in1) hh _ s.heap.objs.size (by rw [hsz];exact Qw (Rz _)) (YL #[(a,t),(b,u)]),
  ⟨⟨_,Qs _ rfl,rfl,rfl⟩,hT.push _⟩,fun c hc=>?_,by simp [YL],Zmi (XT #[(a,t),(b,u)]) (fun _ _=>Ze8),fun v h' tk hP hk=>?_⟩
 ·show c<((s.heap.push _).push _).objs.size;rw [Ra,hsz];rcases Qh.mp hc with rfl|hc
  ·rw [hsz];exact Rz _
  ·rcases Qh.mp hc with rfl|hc
   ·exact Ge (Rz _)
   ·cases hc
 ·have hold:∀c o,s.heap.get? c=some o->h'.get? c=some o:=fun c o e=>by
   refine hk c o (fun hm=>?_) (Qj _ (Qj _ e));rcases Qh.mp hm with e1|hm
   ·have:=Qi e;rw [e1,hsz] at this;exact Rh _ (Nat.lt_of_succ_lt this)
   ·cases hm
  have:=h h' tk hold
  have hv:v=if ZP b a=true then Value.str b u else Value.str a t:=by
   have hP':(YL #[(a,t),(b,u)])[argBest (fun i j=>ZP (XT #[(a,t),(b,u)] i) (XT #[(a,t),(b,u)] j)) 1]?=some v:=by
    have hsz2:(YL #[(a,t),(b,u)]).size-1=1:=by simp [YL]
    rw [←hsz2];exact hP
   have e0:argBest (fun i j=>ZP (XT #[(a,t),(b,u)] i) (XT #[(a,t),(b,u)] j)) 1=if ZP b a=true then 1 else 0:=by
    show (if _=true then 1 else 0)=_;rfl
   by_cases hba:ZP b a=true
   ·rw [e0,Qc hba] at hP';rw [Qc hba];simpa [YL] using hP'.symm
   ·rw [e0,Qa hba] at hP';rw [Qa hba];simpa [YL] using hP'.symm
  rw [hv];exact this
theorem ZjM {l:Addr} {vs:List Value} {Q:List Value->Shared->Prop} (hl:IsTup s.heap l vs.toArray)
  (h:Q vs { s with heap:=(s.heap.push (seqObj "list" #[] 0)).update s.heap.objs.size (Obj.mapSeq (·++vs.toArray)) }) (hsz:vs.length≤sizeLine) :
  wpAny (model prog w) A (collect (.ref l)) Q E s:=by
 obtain ⟨o,ho,hc,n,hd⟩:=id hl;unfold collect;refine Qb (wpAny_runValue (Gd entry_proto_collect' ?_));show wpAny _ _ (do again (.builtin "list.__iadd__" ⟨[←newList [],.ref l],[]⟩)) _ _ s;refine Qb (GK (Qe ⟨Nb _ (by decide +kernel),Gd entry_list_iadd' ?_⟩));show wpAny _ _ (Builtin.List.listExtendWith (.ref s.heap.objs.size) (.ref l) (.ref s.heap.objs.size)) _ _ { s with heap:=s.heap.push (seqObj "list" #[] 0) };unfold Builtin.List.listExtendWith;have ho':(s.heap.push (seqObj "list" #[] 0)).get? l=some o:=Qj _ ho;refine Qb (wpAny_typeOf (T:="tuple") ⟨o,ho',hc⟩ ?_);have ht:(Value.type "tuple"==Value.type "tuple")=true:=by rfl
 rw [Qc (by rw [ht];simp)];refine Qb (listItems_at ho' hd ?_);refine Qb (listItems_at (xs:=#[]) (n:=0) (Qs _ rfl) rfl ?_);rw [Qa (by simp)];refine Qb (listUpdate_at (xs:=#[]) (n:=0) (Qs _ rfl) rfl ?_ (QO _) (by show (#[]++vs.toArray).size≤sizeLine+1;simp only [Array.size_append,Qv,GC];omega));refine Qe ?_;refine Qb (wpAny_load (get?_update_seq (Qs _ rfl) _) ?_);show wpAny _ _ (pure ((#[]:Array Value)++vs.toArray).toList) Q E _;rw [show ((#[]:Array Value)++vs.toArray).toList=vs by simp];exact Qe h
theorem ZiD {x:Value} {vs:List Value} {ss:List Str} {Q:Value->Shared->Prop} (hS:StrsAre vs ss) (h64:vs.length<64)
  (hc:∀(A':Around) (Q':List Value->Shared->Prop),A'.handled=A.handled->(∀h1 tk,(∀b o,s.heap.get? b=some o->h1.get? b=some o)->s.heap.objs.size≤h1.objs.size->Q' vs { s with heap:=h1,toks:=tk })->wpAny (model prog w) A' (collect x) Q' E s)
  (h:∀h' tk a e (out:Array Value) (ss':List Str),(∀b o,s.heap.get? b=some o->h'.get? b=some o)->s.heap.objs.size≤a->h'.get? a=some (seqObj "list" out e)->StrsAre out.toList ss'->ss'.Perm ss->sortedS ss'=true->Q (.ref a) { s with heap:=h',toks:=tk }) :
  wpAny (model prog w) A (call (.builtin "sorted") [x]) Q E s:=by
 refine Ng kind_sorted plain_sorted entry_sorted (args_sorted1 _) ?_;unfold Builtin.«sorted»;refine Qb (m:=checkCount "sorted" 1 1 _) (Qe ?_);refine Qb (hc _ _ rfl fun h1 tk k1 z1=>?_);refine Qb (GK ?_);have hoL:(h1.push (seqObj "list" vs.toArray 0)).get? h1.objs.size=some (seqObj "list" vs.toArray 0):=Qs _ rfl;show wpAny _ _ _ _ _ { s with heap:=h1.push (seqObj "list" vs.toArray 0),toks:=tk };refine Qb (Q1 (Rb slot_list_sort ⟨_,hoL,rfl⟩ entry_list_sort (list_sort_treeK strKind_oneLt hoL hS.keysOf (fun v₁ v₂ rest e=>keyKind_strs (by rw [←e];exact hS)) h64 fun st' a1 a2=>⟨_,rfl,?_⟩) (args_list_sort _)));obtain ⟨ss',b1,b2,b3⟩:=sorted_out_str hS a1 a2;obtain ⟨e,he⟩:=sortedHeap_at (out:=(arrOf st').map (·.2)) hoL;refine Qe ⟨_,rfl,h _ tk _ e _ ss' (fun b o q=>?_) z1 he b1 b2 b3⟩;have q1:=k1 _ _ q;have lt:b<h1.objs.size:=Qi q1;rw [sortedHeap_old (Qw lt) (by rw [size_push'];exact Ge lt)];exact Qj _ q1
end
section
variable {X:Cx}
theorem Zbt (hc:X.calm=true):YQ X (.builtin "max") (fun xs H Q=>∃i j,xs=[.str i,.str j]∧Q (.str (if ZP i j=true then j else i)) H):=by
 intro pins s σ H xs us Q I r h;obtain ⟨i,j,rfl,q⟩:=h;obtain ⟨u,w',rfl,⟨t,rfl⟩,⟨t',rfl⟩⟩:=UM r;refine Zl3 (I.ok.hd hc) fun h' tk k=>⟨_,H,I.kept k,?_,q⟩;by_cases hj:ZP i j=true
 ·rw [Qc hj,Qc hj];exact ⟨_,rfl⟩
 ·rw [Qa hj,Qa hj];exact ⟨_,rfl⟩
theorem ZdL (hc:X.calm=true):YQ X (.builtin "min") (fun xs H Q=>∃i j,xs=[.str i,.str j]∧Q (.str (if ZP j i=true then j else i)) H):=by
 intro pins s σ H xs us Q I r h;obtain ⟨i,j,rfl,q⟩:=h;obtain ⟨u,w',rfl,⟨t,rfl⟩,⟨t',rfl⟩⟩:=UM r;refine Zke (I.ok.hd hc) fun h' tk k=>⟨_,H,I.kept k,?_,q⟩;by_cases hj:ZP j i=true
 ·rw [Qc hj,Qc hj];exact ⟨_,rfl⟩
 ·rw [Qa hj,Qa hj];exact ⟨_,rfl⟩
theorem Zor (K:W.Frag) (hK:X.K=K:=by rfl):YQ X (.builtin "sorted") (fun xs H Q=>∃l zs,xs=[.ref l]∧SqT K H l (zs.map V.str)∧zs.length<64∧∀D zs',H D=none->zs'.Perm zs->sortedS zs'=true->Q (.ref D) (Zb H D (.lst (zs'.map V.str)))):=by
 subst hK;intro pins s σ H xs us Q I r h;obtain ⟨l,zs,rfl,hq,hl,q⟩:=h;obtain ⟨u,rfl,ru⟩:=Xr r;cases (show u=Value.ref l from ru);obtain ⟨its,rv,pl,hz⟩:=I.tuple hq;have hlen:=rv.length;rw [Qd] at hlen;refine ZiD (ZbB rv) (by omega) (fun A' Q' _ q'=>ZjM pl (q' _ _ (fun b o e=>?_) ?_) (by rw [Qd] at hz;omega)) fun h' tk a e out zs' k1 z1 he so hp hs=>?_
 ·have lt:=Qi e;rw [Heap.get?_update_ne _ _ _ _ (Qw lt)];exact Qj _ e
 ·rw [Heap.size_update,size_push'];exact QR _
 have hl2:zs'.length=zs.length:=hp.length_eq;exact ⟨.ref _,_,I.laid (t':=tk) (o:=.lst (zs'.map V.str)) k1 z1 (show ObjOk X.prog X.w _ _ _ (.lst (zs'.map V.str)) from ⟨by rw [Qd];exact QY (ZD (by omega)),out.toList,e,JB so,he⟩),rfl,q _ zs' (I.hok.fresh z1) hp hs⟩
theorem ZnJ {prog:Program} {w:World} {K:Type} [DecidableEq K] (knd:HeapKind prog w K) (d:Addr) (hd:(d==sysModules)=false) :
  MeetsIn prog w (Builtin.«dict.__len__» ⟨[.ref d],[]⟩) (fun _ R s=>∃kvs,s.heap.DictOfH knd d kvs∧R (.ok (.ret (.int kvs.length s.toks))) { s with toks:=s.toks+1 }) :=
 .of_wp fun A R s ⟨kvs,hm,h⟩=>by
  obtain ⟨o,es,ep,ho,hc,hdat,he,hk,hn⟩:=hm;show wpAny _ _ (dictSize d >>= _) _ _ s;unfold dictSize;refine Qb (Qb (Rv ho hdat (Qe ?_)));show wpAny _ _ (Builtin.Dict.pendingCount d >>= _) _ _ s;refine Qb (wpAny_pendingCount_other hd ?_);refine wpAny_ret_mkInt ?_;have:es.size=kvs.length:=size_of_entries he;rw [Nat.add_zero,this];exact h
theorem ZjJ {prog:Program} {w:World} {A:Around} {E:Value->Shared->Prop} {s:Shared} {K:Type} [DecidableEq K] {knd:HeapKind prog w K} {d:Addr} {kvs:List (K×Addr×Value)} {Q:Value->Shared->Prop} (hd:(d==sysModules)=false) (hm:s.heap.DictOfH knd d kvs) (hfit:(kvs.length:Int)<2 ^ 63)
  (h:Q (.int kvs.length (s.toks+1)) { s with toks:=s.toks+1+1 }):wpAny (model prog w) A (call (.builtin "len") [.ref d]) Q E s:=by
 refine Ng kind_len plain_len entry_len (args_len1 _) ?_;unfold Builtin.«len»;refine Qb (m:=oneArg "len" _) (Qe ?_)
 refine Qb (m:=callSpecial? (.ref d) (Str.ofString "__len__")) (RA (name:=Str.ofString "__len__") hm.typeIs F.slot_dict_len
  (Gb F.slot_dict_len hm.typeIs F.entry_dict_len (F.args_dict_len_1 _) (ZnJ knd d hd) ⟨kvs,hm,?_⟩))
 show wpAny _ _ _ _ _ { s with toks:=s.toks+1 };refine Qb (Q1 (Qe ?_));refine Qb (GF ?_);show wpAny _ _ (if ((kvs.length:Nat):Int)<0 then _ else _) _ _ _;rw [Qa (by omega)];show wpAny _ _ (if ((kvs.length:Nat):Int) ≥ 2 ^ 63 then _ else _) _ _ _;rw [Qa (by omega)];exact Qb (wpAny_mkInt (Qe ⟨_,rfl,h⟩))
theorem ZlW:YQ X (.builtin "len") (fun xs H Q=>∃a kvs,xs=[V.ref a]∧H a=some (.dT kvs)∧Q (.int kvs.length) H):=by
 intro pins s σ H xs us Q I r h;obtain ⟨a,kvs,rfl,ha,q⟩:=h;obtain ⟨u,rfl,ru⟩:=Xr r;cases ru;obtain ⟨z,hd,vs,rel,dd⟩:=JC I.hok ha;refine ZjJ hd dd (by rw [←rel.length];rw [RQ] at z;omega) ?_;rw [←rel.length];exact ⟨.int kvs.length,H,I.tok _,⟨_,rfl⟩,q⟩
end
section
variable {prog:Program} {w:World} {K:Type} [DecidableEq K] {knd:HeapKind prog w K} {A:Around} {E:Value->Shared->Prop} {s:Shared}
theorem Zmu {d a:Addr} {xs:List (K×Addr×Value)} {k:K} {v:Value} {Q:Value->Shared->Prop} (hu:knd.room A) (hkey:knd.is s.heap k a) (hm:s.heap.DictOfH knd d xs) (hsz:xs.length≤sizeLine)
  (h1:∀p,atKey xs k=some p->Q p.2 { s with toks:=s.toks+knd.draws k })
  (h2:atKey xs k=none->∀h',h'.DictOfH knd d (storedH xs k a v)->Heap.SameBut d s.heap h'->Q v { s with heap:=h',toks:=s.toks+knd.draws k }) :
  wpAny (model prog w) A (dictSetDefault d (.ref a) v) Q E s:=by
 obtain ⟨o,es,ep,ho,hc,hd,he,his,hn⟩:=hm;unfold dictSetDefault
 try with_reducible refine Q1 ?_
 refine Qb (knd.pyHash hu hkey ?_);refine Qb (wpAny_dictFind_heap (s:={ s with toks:=s.toks+knd.draws k }) hu hkey ho hd he his hn ?_ ?_)
 ·intro hno;have hnot:k∉xs.map (·.1):=not_mem_keys_of_get hno
  refine Qb (RP (Qb (wpAny_updateDictKeys (hz:=by have e:=size_of_entries he;omega) (s:={ s with toks:=s.toks+knd.draws k }) ho hd (Qe (h2 (GL hno) _ ⟨_,_,ep+1,Heap.get?_update_self _ ho (Obj.isFreed_of_dict (Obj.data_mapDictKeys hd _)),
   hc.mapDictKeys _,Obj.data_mapDictKeys hd _,?_,?_,?_⟩ (RW ..))))))
  ·rw [storedH_new (GL hno)];simp [he,entryOfKey]
  ·rw [storedH_new (GL hno)];intro x hx;rcases Qn.mp hx with hx|hx
   ·exact knd.keeps (his x hx) ho hd (RW ..)
   ·simp only [QV] at hx;subst hx;exact knd.keeps hkey ho hd (RW ..)
  ·rw [storedH_new (GL hno)];rw [Qp,Q2];refine ⟨hn,by simp,?_⟩;intro x hx y hy;simp only [Qr,GD,QV] at hy;subst hy;exact fun e=>hnot (e▸hx)
 ·intro j p hj;refine Qb (Rv (s:={ s with toks:=s.toks+knd.draws k }) ho hd ?_);rw [entry_at he j,hj];exact Qb (RP (Qe (h1 p (atKey_of_get hn hj))))
theorem ZoA (d a:Addr) (hd:(d==sysModules)=false) (dflt:Value) :
  MeetsIn prog w (Builtin.«dict.setdefault» ⟨[.ref d,.ref a,dflt],[]⟩) (fun A R s=>knd.room A.in1∧∃k xs,knd.is s.heap k a∧s.heap.DictOfH knd d xs∧xs.length≤sizeLine ∧
   (∀p,atKey xs k=some p->R (.ok (.ret p.2)) { s with toks:=s.toks+knd.draws k }) ∧
   (atKey xs k=none->∀h',h'.DictOfH knd d (storedH xs k a dflt)->Heap.SameBut d s.heap h'->R (.ok (.ret dflt)) { s with heap:=h',toks:=s.toks+knd.draws k })) :=
 .of_wp fun A R s ⟨hu,k,xs,hkey,hm,hz,h1,h2⟩=>by
  unfold Builtin.«dict.setdefault»;refine Qb ?_;unfold Builtin.Dict.keyAndDefault;refine Qb (Nh hm.typeIs ?_);show wpAny _ _ (pure (d,Value.ref a,some dflt)) _ _ s;refine Qe ?_;show wpAny _ _ (if (d==sysModules)=true then _ else (dictSetDefault d (.ref a) dflt >>= _)) _ _ s;rw [Qa (by rw [hd];exact QB)];exact Qb (Zmu hu hkey hm hz (fun p hp=>Qe ⟨p.2,rfl,h1 p hp⟩) fun hn h' hm' hs'=>Qe ⟨dflt,rfl,h2 hn h' hm' hs'⟩)
end
section
variable {X:Cx} {pins:List (Addr×Obj)} {σ:St} {H:Hp} {s:Shared} {a b:Addr} {kvs:List (List Zi×V)} {k:List Zi} {d:V} {r:Value} {A:Around} {E:Value->Shared->Prop}
theorem ZjC {Q:Value->Shared->Prop} (hu:A.units+1<cLine) (I:Inv X pins σ H s) (e:H a=some (.dT kvs)) (eb:H b=some (.tup (k.map kV))) (l:kvs.length<sizeLine) (rd:RelV d r)
  (h1:∀v w' s',ZI kvs k=some v->RelV v w'->Inv X pins σ H s'->Q w' s') (h2:∀s',ZI kvs k=none->Inv X pins σ (Zb H a (.dT (kvs++[(k,d)]))) s'->Q r s') :
  wpAny (model X.prog X.w) A (call (.builtin "dict.setdefault") [.ref a,.ref b,r]) Q E s:=by
 obtain ⟨z,hd,xs,rel,dd⟩:=JC I.hok e;have hz:xs.length≤sizeLine:=by rw [←Gp rel];exact z
 have hv:=rel.val k
 refine Gb NG dd.typeIs PySem.F.entry_dict_setdefault (PySem.F.args_dict_setdefault_3 _ _ _) (ZoA (knd:=tupleKind (Z1 X.prog X.w)) a b hd r)
  ⟨RU hu,k,xs,Vv I.hok eb,dd,hz,fun p hp=>?_,fun hn h' dd' hs=>?_⟩
 ·rw [hp] at hv;cases ho:ZI kvs k with
  |none=>rw [ho] at hv;cases hv
  |some v =>
   rw [ho] at hv;exact h1 v _ _ ho hv (I.tok _)
 ·rw [hn] at hv
  have ho:ZI kvs k=none:=by
   cases ho:ZI kvs k with
   |none=>rfl
   |some v=>rw [ho] at hv;cases hv
  refine h2 _ ho ?_;have hp:=rel.put k eb rd;rw [VQ _ ho] at hp;have hl:(kvs++[(k,d)]).length≤sizeLine:=by rw [Qx];exact l
  obtain ⟨q,es,ep,hq,h2,h3,h4,_,h5⟩:=dd';refine J3 I (by rw [e];exact True.intro) hs ⟨q,hq⟩ ⟨hl,hd,_,hp.keeps fun c ys ec=>?_,q,es,ep,hq,h2,h3,h4,h5⟩;rw [Zh (ZeU ec e (fun z=>nomatch z))];exact ec
end
def ZmP (td ty tx:TE):TE:=fun σ H Q=>td σ H fun x H1=>∃a,x=.ref a∧IsD H1 a∧ty σ H1 fun y H2=>tx σ H2 fun z H3=>∃kvs k b,H3 a=some (.dT kvs)∧y=.ref b∧H3 b=some (.tup (k.map kV))∧kvs.length<sizeLine ∧
 (∀v,ZI kvs k=some v->Q v H3)∧(ZI kvs k=none->Q z (Zb H3 a (.dT (kvs++[(k,z)]))))
section
variable {X:Cx} {o e f:Expr} {apos cpos:Pos} {td ty tx:TE}
theorem Jt (hu:X.A.units+1<cLine) (ho:PE X o td) (he:PE X e ty) (hf:PE X f tx) (m:M2 X o "setdefault" apos e f cpos):PE X (.Call (.Attribute o "setdefault" apos) [e,f] [] cpos) (ZmP td ty tx):=by
 intro pins s σ H Q I h;refine wpAny_Call_method m.base m.few m.line G8 NG PySem.F.type_dict_setdefault (Zo (ho pins s σ H _ I h) fun u s1 ⟨x,H1,I1,rx,a,ex,d,q1⟩=>?_);subst ex;obtain rfl:u=Value.ref a:=rx;obtain ⟨t1,t2,_⟩:=Zee I1 d;refine ⟨t1,t2,?_⟩;rw [m.trees]
 refine GA rfl (GB (R7 (Zo (he pins s1 σ H1 _ I1 q1) fun iv s2 ⟨y,H2,I2,ry,q2⟩ =>
  R7 (Zo (hf pins s2 σ H2 _ I2 q2) fun fv s3 ⟨z,H3,I3,rz,kvs,k,b,ea,ey,eb,hl,q3,q4⟩=>GW ?_))))
 subst ey;obtain rfl:iv=Value.ref b:=ry;exact ZjC hu I3 ea eb hl rz (fun v w' s4 l rw' I4=>⟨v,H3,I4,rw',q3 v l⟩) fun s4 l I4=>⟨z,_,I4,rz,q4 l⟩
end
end L2
namespace L2
open PySem PySem.Spec PyProof.Rows PySem.W
section
variable {prog:Program} {w:World} {A:Around} {E:Value->Shared->Prop} {s:Shared} {T:String} {r d:Addr} {n:Nat} {P:Nat->Value->Prop} {OK:Heap->Prop}
theorem ZoH {Q:List Value->Shared->Prop} (K:KdlSrc prog w T r d n P OK) (hh:A.handled=none) (hok:OK s.heap) (hn:n≤sizeLine)
  (h:∀h1 tk (acc:Array Value),(∀b o,s.heap.get? b=some o->h1.get? b=some o)->s.heap.objs.size≤h1.objs.size->ItemsOf P acc n->Q acc.toList { s with heap:=h1,toks:=tk }) :
  wpAny (model prog w) A (collect (.ref r)) Q E s:=by
 have hlt:=K.there _ hok;unfold collect;refine Qb (wpAny_runValue (Gd entry_proto_collect' ?_));show wpAny _ _ (do again (.builtin "list.__iadd__" ⟨[←newList [],.ref r],[]⟩)) _ _ s;refine Qb (GK (Qe ⟨Nb _ (by decide +kernel),Gd entry_list_iadd' ?_⟩));show wpAny _ _ (Builtin.List.listExtendWith (.ref s.heap.objs.size) (.ref r) (.ref s.heap.objs.size)) _ _ { s with heap:=s.heap.push (seqObj "list" #[] 0) };have hS:(s.heap.push (seqObj "list" #[] 0)).get? s.heap.objs.size=some { cls:=.type "list",data:=.seq #[] 0 }:=Qs _ rfl;rw [Around.under_plainId (by decide +kernel)]
 refine kdl_extend (R:=fun r s'=>match r with
  |.ok (.ret v)=>wpAny (model prog w) A (match v with
   |.ref a=>do match (←load a).data with
    |.seq xs _=>pure xs.toList
    |_=>unsupported "internal:collect"
   |_=>unsupported "internal:collect") Q E s'
  |.ok _=>False
  |.error e=>E e s') (A:=A) (s:={ s with heap:=s.heap.push (seqObj "list" #[] 0) }) K hh (K.keep _ _ hok fun b _ o e=>Qj _ e) s.heap.objs.size (Ry hlt.1) (Ry hlt.2) (.ref s.heap.objs.size) 0 hS (fun h' tk acc c hk hS' hacc=>?_) hn
 refine Qb (wpAny_load hS' ?_);exact Qe (h h' tk acc (fun b o e=>hk b o (Qw (Qi e)) (Qj _ e)) (QY (Qi hS')) hacc)
theorem Zk1 {x:Value} {ss:List Str} {Q:Value->Shared->Prop} (h64:ss.length<64)
  (hc:∀(A':Around) (Q':List Value->Shared->Prop),A'.handled=A.handled->(∀vs h1 tk,StrsAre vs ss->(∀b o,s.heap.get? b=some o->h1.get? b=some o)->s.heap.objs.size≤h1.objs.size->Q' vs { s with heap:=h1,toks:=tk })->wpAny (model prog w) A' (collect x) Q' E s)
  (h:∀h' tk a e (out:Array Value) (ss':List Str),(∀b o,s.heap.get? b=some o->h'.get? b=some o)->s.heap.objs.size≤a->h'.get? a=some (seqObj "list" out e)->StrsAre out.toList ss'->ss'.Perm ss->sortedS ss'=true->Q (.ref a) { s with heap:=h',toks:=tk }) :
  wpAny (model prog w) A (call (.builtin "sorted") [x]) Q E s:=by
 refine Ng kind_sorted plain_sorted entry_sorted (args_sorted1 _) ?_;unfold Builtin.«sorted»;refine Qb (m:=checkCount "sorted" 1 1 _) (Qe ?_);refine Qb (hc _ _ rfl fun vs h1 tk hS k1 z1=>?_);refine Qb (GK ?_);have hvl:vs.length<64:=by rw [←hS.strs,Qd] at h64;exact h64
 have hoL:(h1.push (seqObj "list" vs.toArray 0)).get? h1.objs.size=some (seqObj "list" vs.toArray 0):=Qs _ rfl;show wpAny _ _ _ _ _ { s with heap:=h1.push (seqObj "list" vs.toArray 0),toks:=tk };refine Qb (Q1 (Rb slot_list_sort ⟨_,hoL,rfl⟩ entry_list_sort (list_sort_treeK strKind_oneLt hoL hS.keysOf (fun v₁ v₂ rest e=>keyKind_strs (by rw [←e];exact hS)) hvl fun st' a1 a2=>⟨_,rfl,?_⟩) (args_list_sort _)));obtain ⟨ss',b1,b2,b3⟩:=sorted_out_str hS a1 a2;obtain ⟨e,he⟩:=sortedHeap_at (out:=(arrOf st').map (·.2)) hoL;refine Qe ⟨_,rfl,h _ tk _ e _ ss' (fun b o q=>?_) z1 he b1 b2 b3⟩;have q1:=k1 _ _ q;have lt:b<h1.objs.size:=Qi q1;rw [sortedHeap_old (Qw lt) (by rw [size_push'];exact Ge lt)];exact Qj _ q1
end
section
variable {X:Cx}
theorem Zhw {P:Program} {w:World} {x:Str} {v:Value} (h:(Z1 P w).is (.inr x) v=true):∃t,v=.str x t:=by
 rcases XZ (show Ve (.inr x) v=true from h) with ⟨i,t,e,_⟩|⟨y,t,e,e2⟩
 ·cases e
 ·cases e;exact ⟨t,e2⟩
theorem ZdG:∀{vs:List Value} {ss:List Str},vs.length=ss.length->(∀(i:Nat) (v:Value),vs[i]?=some v->∃x t,ss[i]?=some x∧v=.str x t)->StrsAre vs ss
 |[],[],_,_=>.nil
 |v::vs,x::ss,hl,h=>by
  obtain ⟨y,t,e,rfl⟩:=h 0 v rfl;cases (show some x=some y from e)
  exact .cons x t (ZdG (by simpa using hl) fun i u hu=>by
   obtain ⟨z,t',e1,e2⟩:=h (i+1) u (by simpa using hu);exact ⟨z,t',by simpa using e1,e2⟩)
theorem ZaD (hc:X.calm=true):YQ X (.builtin "sorted") (fun xs H Q=>∃(l:Addr) (zs:List (Str×V)),xs=[.ref l]∧H l=some (.dK (zs.map fun p=>(.inr p.1,p.2)))∧zs.length<64∧∀D zs',H D=none->zs'.Perm (zs.map (·.1))->sortedS zs'=true->Q (.ref D) (Zb H D (.lst (zs'.map V.str)))):=by
 intro pins s σ H xs us Q I r h;obtain ⟨l,zs,rfl,hq,hl,q⟩:=h;obtain ⟨u,rfl,ru⟩:=Xr r;cases (show u=Value.ref l from ru);obtain ⟨z,hd,vs,rel,dd⟩:=WC I.hok hq;obtain ⟨ep,da⟩:=dd.dictAt;have hlen:vs.length=zs.length:=by rw [←rel.length,Qd]
 have keyAt:∀(i:Nat) (k:Zi) (x:Value),vs[i]?=some (k,x)->∃z,(zs.map (·.1))[i]?=some z∧k=.inr z:=by
  have go:∀{ys:List (Str×V)} {ws:List (Zi×Value)},KV (ys.map fun p=>((.inr p.1:Zi),p.2)) ws->∀(i:Nat) (k:Zi) (x:Value),ws[i]?=some (k,x)->∃z,(ys.map (·.1))[i]?=some z∧k=.inr z:=by
   intro ys
   induction ys with
   |nil=>intro ws r i k x e;cases r;cases e
   |cons y ys ih =>
    intro ws r i k x e;cases r with
    |cons h t =>
     cases i with
     |zero =>
      rw [Ni] at e;cases e;exact ⟨y.1,rfl,h.1.symm⟩
     |succ i =>
      rw [RY] at e;obtain ⟨z,e1,e2⟩:=ih t i k x e;exact ⟨z,by simpa using e1,e2⟩
  exact go rel
 have col:∀(acc:Array Value),ItemsOf (fun i v=>∃k x,vs[i]?=some (k,x)∧(Z1 X.prog X.w).is k v=true) acc vs.length->StrsAre acc.toList (zs.map (·.1)):=by
  intro acc hacc;refine ZdG (by rw [Qd,←hlen,RI];exact hacc.1) fun i v e=>?_;obtain ⟨k,x,e1,e2⟩:=hacc.2 i v (by rw [←Nj];exact e);obtain ⟨z,e3,rfl⟩:=keyAt i k x e1;obtain ⟨t,rfl⟩:=Zhw e2;exact ⟨z,t,e3,rfl⟩
 refine Zk1 (ss:=zs.map (·.1)) (by rw [Qd];exact hl) (fun A' Q' hA q'=>ZoH (kdl_dict hd) (by rw [hA];exact I.ok.hd hc) da (by rw [hlen];exact QY (ZD (by omega))) fun h1 tk acc k1 z1 hacc=>q' _ h1 tk (col acc hacc) k1 z1) fun h' tk a e out zs' k1 z1 he so hp hs=>?_;have hl2:zs'.length=zs.length:=by rw [hp.length_eq,Qd]
 exact ⟨.ref _,_,I.laid (t':=tk) (o:=.lst (zs'.map V.str)) k1 z1 (show ObjOk X.prog X.w _ _ _ (.lst (zs'.map V.str)) from ⟨by rw [Qd];exact QY (ZD (by omega)),out.toList,e,JB so,he⟩),rfl,q _ zs' (I.hok.fresh z1) hp hs⟩
end
end L2
namespace L2
open PySem PySem.Spec PyProof.Rows
theorem Ze9 (val:Nat->Int):∀k:Nat,argBest (fun i j=>decide (val i > val j)) k≤k∧∀i,i≤k->val i≤val (argBest (fun i j=>decide (val i > val j)) k)
 |0=>⟨Qf _,fun i hi=>by cases (show i=0 by omega);exact GM _⟩
 |k+1=>by
  obtain ⟨h1,h2⟩:=Ze9 val k;show (if decide (val (k+1) > val (argBest _ k))=true then k+1 else argBest _ k)≤k+1∧∀i,i≤k+1->val i≤val (if decide (val (k+1) > val (argBest _ k))=true then k+1 else argBest _ k);by_cases h:val (k+1) > val (argBest (fun i j=>decide (val i > val j)) k)
  ·rw [Qc (Ql h)];refine ⟨Qf _,fun i hi=>?_⟩;by_cases e:i=k+1
   ·subst e;exact GM _
   ·have:=h2 i (by omega);omega
  ·rw [Qa (by rw [Qk h];decide)];refine ⟨by omega,fun i hi=>?_⟩;by_cases e:i=k+1
   ·subst e;omega
   ·exact h2 i (by omega)
theorem ZfL:∀{us:List Value} {is:List Int},Vals (is.map V.int) us->∃ps:List (Int×Tok),us=ps.map (fun p=>Value.int p.1 p.2)∧ps.map (·.1)=is
 |us,[],r=>by cases r;exact ⟨[],rfl,rfl⟩
 |us,i::is,r=>by
  cases r with
  |cons h t =>
   obtain ⟨tk,rfl⟩:=h;obtain ⟨ps,rfl,e⟩:=ZfL t;exact ⟨(i,tk)::ps,rfl,by rw [Qr,e]⟩
section
variable {X:Cx}
theorem Zib (K:W.Frag) (hc:X.calm=true) (hK:X.K=K:=by rfl):YQ X (.builtin "max") (fun xs H Q=>∃(l:Addr) (is:List Int),xs=[.ref l]∧SqL K H l (is.map V.int)∧is≠[]∧∀m,m∈is->(∀x∈is,x≤m)->Q (.int m) H):=by
 subst hK;intro pins s σ H xs us Q I r h;obtain ⟨l,is,rfl,hq,hne,q⟩:=h;obtain ⟨u,rfl,ru⟩:=Xr r;cases (show u=Value.ref l from ru);obtain ⟨its,rv,pl,hz⟩:=I.list hq;obtain ⟨ps,rfl,rfl⟩:=ZfL rv
 have hl:s.heap.IsList l (intItems ps.toArray):=by
  have:=pl.isList
  rwa [show (ps.map fun p=>Value.int p.1 p.2).toArray=intItems ps.toArray by simp [intItems]] at this
 have hpos:0<ps.length:=List.length_pos_iff.mpr (fun e=>hne (by rw [e];rfl));refine max_intList (I.ok.hd hc) hl (by simpa using hpos) fun v h' tk e k=>?_;obtain ⟨b1,b2⟩:=Ze9 (numAt ps.toArray) (ps.toArray.size-1);obtain ⟨t,rfl⟩:=intItems_at e;generalize argBest (fun i j=>decide (numAt ps.toArray i > numAt ps.toArray j)) (ps.toArray.size-1)=n at *;have hn:n<ps.length:=by rw [Qv] at b1;omega
 have val:∀i (hi:i<ps.length),numAt ps.toArray i=(ps[i]).1:=fun i hi=>by simp [numAt,hi]
 refine ⟨.int (numAt ps.toArray n),H,I.kept k,⟨t,rfl⟩,q _ ?_ fun x hx=>?_⟩
 ·rw [val n hn];exact Qg.mpr ⟨ps[n],Gg _,rfl⟩
 ·obtain ⟨p,hp,rfl⟩:=Qg.mp hx;obtain ⟨i,hi,rfl⟩:=RZ hp;rw [←val i hi];exact b2 i (by rw [Qv];omega)
end
section
variable {X:Cx} {pins:List (Addr×Obj)} {σ:St} {H H':Hp} {s:Shared} {d:Addr} {kvs:List (Zi×V)} {o:Obj}
theorem Inv.thaw (I:Inv X pins σ H s) (e:H d=some (.frz o (.dK kvs))) (n:∀o u,X.H₀ d≠some (.frz o u)):Inv X pins σ (Zb H d (.dK kvs)) s:=by
 have ne:∀b,H b=none->b≠d:=fun b z q=>by subst q;rw [e] at z;cases z
 refine ⟨I.ok,I.os,I.bare,⟨I.base.keep,I.base.slot,fun b q h1 h2 h3=>?_,I.base.there,fun b xs h1=>?_,fun b q u h1=>?_,fun b ps h1=>?_⟩,I.loc,I.cell,?_,fun x c h1=>?_,fun p hp=>?_,fun b u h1=>?_,I.len⟩
 ·have:=I.base.free b q h1 h2 h3;rw [Zh (ne b this)];exact this
 ·have:=I.base.tups b xs h1;rw [Zh (fun z=>by subst z;rw [e] at this;cases this)];exact this
 ·have:=I.base.frzs b q u h1;rw [Zh (fun z=>by subst z;exact n _ _ h1)];exact this
 ·obtain ⟨more,this⟩:=I.base.tbls b ps h1;exact ⟨more,by rw [Zh (fun z=>by subst z;rw [e] at this;cases this)];exact this⟩
 ·rw [Zh (ne _ I.free)];exact I.free
 ·have:=I.freeC x c h1;rw [Zh (ne _ this)];exact this
 ·obtain ⟨a1,a2,a3⟩:=I.pin p hp;exact ⟨a1,by rw [Zh (ne _ a2)];exact a2,a3⟩
 ·by_cases z:b=d
  ·subst z;rw [Zg] at h1;cases h1;exact (show ObjOk X.prog X.w _ _ _ (.dK kvs) from (I.hok b _ e).2)
  ·rw [Zh z] at h1;refine (I.hok b u h1).stay (fun c v hc q=>q) (fun c q=>?_) fun c xs q=>?_
   ·rw [Zh (fun z=>by subst z;rw [e] at q;cases q)];exact q
   ·rw [Zh (fun z=>by subst z;rw [e] at q;cases q)];exact q
end
theorem Zhb:∀{kvs:List (Zi×V)} {vs:List (Zi×Value)},KV kvs vs->∀(i:Nat) (p:Zi×V),kvs[i]?=some p->∃x,vs[i]?=some (p.1,x)
 |[],_,r,i,p,e=>by cases e
 |q::kvs,_,r,i,p,e=>by
  cases r with
  |@cons _ y _ _ h t =>
   cases i with
   |zero =>
    cases (show some q=some p from e);exact ⟨y.2,by rw [Ni,h.1]⟩
   |succ i =>
    rw [RY] at e;obtain ⟨x,hx⟩:=Zhb t i p e;exact ⟨x,by rw [RY];exact hx⟩
theorem Zk2 {k:Zi} {v:Value} (h:Ve k v=true):RelV (kV k) v:=by
 rcases XZ h with ⟨i,t,rfl,rfl⟩|⟨x,t,rfl,rfl⟩
 ·exact ⟨t,rfl⟩
 ·exact ⟨t,rfl⟩
noncomputable def Itd (d:Addr) (o:Obj) (kvs:List (Zi×V)):It where
 go:=fun i H=>H d=some (.frz o (.dK kvs))∧i<kvs.length
 stop:=fun i H=>H d=some (.frz o (.dK kvs))∧kvs.length≤i
 yld:=fun i H x H'=>H'=H∧(kvs[i]?.map fun p=>kV p.1)=some x
theorem Zkm {P:Program} {w:World} {K:W.Frag} {tg:Expr} (d it:Addr) (o:Obj) (kvs:List (Zi×V)) (es:Array DictEntry) (ep:Nat) (ho:o.data=.dict es ep):Turn P w K tg (Itd d o kvs) [it] it (fun i h=>h.IsKeyIter it d i kvs.length ep) where
 mem:=by simp
 obj:=fun i h st b hb=>by
  have e:b=it:=by simpa using hb
  subst e;obtain ⟨o,e,c,d⟩:=st;exact ⟨o,e,fun v z=>by rw [d] at z;cases z⟩
 keep:=fun i h h' st k=>st.at fun o e=>k it (by simp) o e
 item:=by
  intro X hP hw hK hc i pins s σ H E I hf st hg;subst hP hw hK;obtain ⟨hq,hi⟩:=hg;obtain ⟨g1,g2⟩:=(show s.heap.get? d=some o∧ObjOk X.prog X.w H s.heap d (.dK kvs) from I.hok d _ hq);obtain ⟨z,hd,vs,rel,dd⟩:=(show kvs.length≤sizeLine∧(d==sysModules)=false∧∃vs,KV kvs vs∧s.heap.DictOf (Z1 X.prog X.w) d vs from g2);obtain ⟨o2,es2,ep2,b1,b2,b3,b4⟩:=dd;rw [g1] at b1;cases b1;rw [ho] at b3;cases b3;have da:s.heap.DictAt (Z1 X.prog X.w) d vs ep:=⟨o,es,g1,b2,ho,b4⟩;have hlen:vs.length=kvs.length:=rel.length.symm;obtain ⟨x,hx⟩:=Zhb rel i kvs[i] (Qz hi);obtain ⟨f0,f1,f2,f3,f4,f5⟩:=hf it (by simp);rw [←hlen] at st;refine wpAny_pyNext_dict_item st da hx fun key h' hkey st' sb=>?_;have I1:Inv X pins σ H { s with heap:=h' }:=I.turned (t':=s.toks) (fun b o hb e=>(sb.2 b hb).trans e) f0 f1 f3 f4 f5;rw [hlen] at st';obtain ⟨o3,e3,c3,d3⟩:=id st';exact ⟨key,rfl,JF (s:={ s with heap:=h' }) e3 c3 d3 (by decide) ⟨kV kvs[i].1,H,I1,Zk2 hkey,⟨rfl,by rw [Qz hi];rfl⟩,st',fun b hb=>(hf b hb).1⟩⟩
 done:=by
  intro X hP hw hK hc i pins s σ H E I hf st hg;subst hP hw hK;obtain ⟨hq,hi⟩:=hg;obtain ⟨g1,g2⟩:=(show s.heap.get? d=some o∧ObjOk X.prog X.w H s.heap d (.dK kvs) from I.hok d _ hq);obtain ⟨z,hd,vs,rel,dd⟩:=(show kvs.length≤sizeLine∧(d==sysModules)=false∧∃vs,KV kvs vs∧s.heap.DictOf (Z1 X.prog X.w) d vs from g2);obtain ⟨o2,es2,ep2,b1,b2,b3,b4⟩:=dd;rw [g1] at b1;cases b1;rw [ho] at b3;cases b3;have da:s.heap.DictAt (Z1 X.prog X.w) d vs ep:=⟨o,es,g1,b2,ho,b4⟩;have hlen:vs.length=kvs.length:=rel.length.symm;obtain ⟨f0,f1,f2,f3,f4,f5⟩:=hf it (by simp);rw [←hlen] at st;exact wpAny_pyNext_dict_end (I.ok.hd hc) st da (List.getElem?_eq_none (by omega)) fun h' eb=>⟨rfl,I.turned (t':=s.toks) (fun b o hb e=>eb b o hb e) f0 f1 f3 f4 f5⟩
 self:=fun _ _ _ _ _ st h=>wpAny_pyIter_keyiter st h
def ZjK (tl:TE):TI:=fun σ H R=>tl σ H fun x H1=>∃a kvs,x=.ref a∧H1 a=some (.dK kvs)∧∀o,R (Itd a o kvs) (Zb H1 a (.frz o (.dK kvs)))
theorem ZgF {X:Cx} {tg l:Expr} {tl:TE} (hl:PE X l tl):PI X tg l (ZjK tl):=by
 intro pins s σ H R I h;refine Zo (hl pins s σ H _ I h) fun v s1 ⟨x,H1,I1,r1,q1⟩=>?_;obtain ⟨a,kvs,e,ha,q⟩:=q1;subst e;cases r1;obtain ⟨z,hd,vs,rel,dd⟩:=WC I1.hok ha;obtain ⟨o,es,ep,b1,b2,b3,b4⟩:=id dd;have da:s1.heap.DictAt (Z1 X.prog X.w) a vs ep:=⟨o,es,b1,b2,b3,b4⟩;have hlen:vs.length=kvs.length:=rel.length.symm
 have If:Inv X pins σ (Zb H1 a (.frz o (.dK kvs))) s1 :=
  I1.write (x:=a) (e:=a) (o:=.frz o (.dK kvs)) (h':=s1.heap) (t':=s1.toks) (by rw [ha];exact True.intro) (.inl rfl) (fun b u _ e=>e) ⟨o,b1⟩ ⟨b1,z,hd,vs,rel,dd⟩
 refine wpAny_pyIter_dict hd da ?_;refine ⟨s1.heap.objs.size,[s1.heap.objs.size],_,_,_,rfl,If.kept (t':=s1.toks) fun b o e=>Qj _ e,Zkm a _ o kvs es ep b3,⟨_,Qs _ rfl,rfl,by rw [hlen];rfl⟩,fun b hb=>?_,q o⟩;have e:b=s1.heap.objs.size:=by simpa using hb
 subst e;exact If.fpOk (Qf _) (If.hok.fresh (Qf _))
section
variable {X:Cx}
end
section
variable {X:Cx}
end
section
variable {X:Cx}
end
def ZnA (t:TS):TS:=fun D σ H=>∃d kvs,H d=some (.dK kvs)∧t { nx:=fun σ' H'=>∃o,H' d=some (.frz o (.dK kvs))∧D.nx σ' (Zb H' d (.dK kvs)),rt:=fun _ _=>False } σ H
theorem Zfu {X:Cx} {st:Stmt} {t:TS} (hs:PS X st t):PS X st (ZnA t):=by
 intro pins s σ H D I h;obtain ⟨d,kvs,hd,h⟩:=h
 have n:∀o u,X.H₀ d≠some (.frz o u):=fun o u z=>by
  have:=I.base.frzs d o u z;rw [hd] at this;cases this
 refine Zo (hs pins s σ H _ I h) fun fl s1 q=>?_;cases fl with
 |next =>
  obtain ⟨σ1,H1,I1,o,e1,q1⟩:=q;exact ⟨σ1,_,I1.thaw e1 n,q1⟩
 |brk=>obtain ⟨σ1,H1,I1,z⟩:=q;exact z.elim
 |cont=>obtain ⟨σ1,H1,I1,z⟩:=q;exact z.elim
 |ret u=>obtain ⟨v,σ1,H1,I1,r,z⟩:=q;exact z.elim
structure FunD (K:W.Frag) (x qual:Str) (st:Stmt) (f:Addr) (fd:FuncData) (dV:Value):Prop where
 ex:∃(oc:Value) (od:Option Addr) (kV doc pm:Value) (an:Option Addr) (cdv ct:Value) (osl:Array (Option Value)),
  fd=W.fnOf x qual (Xu st) (Xh st) (Zw st) dV kV doc pm an cdv ct∧K.lookup f=some ⟨oc,od,.func fd,osl⟩∧W.codeIn K cdv qual=true
 kp:W.keepIn K (.ref f)=true
theorem FunD.okX {P:Program} {w:World} {K:W.Frag} {mg:Str->Option Value} {base:Heap} {CX:YF} {x qual:Str} {st:Stmt} {f:Addr} {fd:FuncData} {dV:Value} {N ps:List Str} {k:Nat} {sp:Sp} (F:FunD K x qual st f fd dV) (S:FnScope N ps (Zw st))
  (len:∀vs H Q E,sp vs H Q E->vs.length=ps.length)
  (hbody:∀(cdv:Value) (A:Around) (outer:List Env) (s:Shared) (H:Hp) (vs:List V) (Q:VK) (E:XK),Room k (A.deeper (envOfC qual (Zw st) s.heap.objs.size f cdv))->sp vs H Q E →
   ∃t,PSs (WQ CX P w K mg base N qual (Zw st) f cdv A outer s H E) (Xh st) t∧t { nx:=fun _ H'=>Q .non H',rt:=Q } (start N vs) H):FnOk P w K mg base CX (k+1) f fd ps sp:=by
 obtain ⟨oc,od,kV,doc,pm,an,cdv,ct,osl,rfl,lk,hcd⟩:=F.ex;exact ZhA lk hcd S len fun A outer s H vs Q E hr hsp=>hbody cdv A outer s H vs Q E hr hsp
theorem Zfv {K:W.Frag} {x qual:Str} {st:Stmt} {f:Addr} {oc:Value} {od an:Option Addr} {osl:Array (Option Value)} {dV kV doc pm cdv ct:Value} (l:K.lookup f=some ⟨oc,od,.func (W.fnOf x qual (Xu st) (Xh st) (Zw st) dV kV doc pm an cdv ct),osl⟩)
  (c:W.codeIn K cdv qual=true) (k:W.keepIn K (.ref f)=true):FunD K x qual st f (W.fnOf x qual (Xu st) (Xh st) (Zw st) dV kV doc pm an cdv ct) dV:=⟨⟨oc,od,kV,doc,pm,an,cdv,ct,osl,rfl,l,c⟩,k⟩
theorem FunD.binds1 {K:W.Frag} {x qual:Str} {st:Stmt} {f T:Addr} {fd:FuncData} {ps:List Str} {o:Obj} {n:Nat} (F:FunD K x qual st f fd (.ref T)) (ho:K.lookup T=some o) (hs:o.data=.seq #[.none] n)
  (h:∀(kV doc pm:Value) (an:Option Addr) (cdv ct:Value) (us:List Value),us.length+1=ps.length->∃k:Option (Array Value)->Sem (List (Str×Value)),
   bindArgs (W.fnOf x qual (Xu st) (Xh st) (Zw st) (.ref T) kV doc pm an cdv ct) ⟨us,[]⟩=seqItems? (.ref T) >>= k∧k (some #[.none])=pure (ps.zip (us++[.none]))):Binds K fd ps [.none]:=by
 obtain ⟨oc,od,kV,doc,pm,an,cdv,ct,osl,rfl,lk,hcd⟩:=F.ex;intro s us hin hl;rw [Qx] at hl;obtain ⟨k,h1,h2⟩:=h kV doc pm an cdv ct us hl;exact W.binds_K hin rfl ho hs h1 h2
section
variable {X:Cx} {body suite:List Stmt} {b₀:Stmt} {x n:Str} {C:Addr} {np hpos pos:Pos} {bmB:List Value} {newId:String} {i:Nat} {tb:XS->TS} {ts:TS}
end
end L2
namespace SA
open PySem PyProof.Rows
section
variable {M:Model} {A:Around} {E:Value->Shared->Prop} {s:Shared}
variable {O:KeyOrd} {key:Keyed->O.α} {D:Keyed->Prop} {kd:SortKind}
end
section
variable {M:Model} {A:Around} {E:Value->Shared->Prop} {s:Shared} {O:KeyOrd} {key:Keyed->O.α} {D:Keyed->Prop} {kd:SortKind}
end
section
variable {M:Model} {A:Around} {E:Value->Shared->Prop} {s:Shared} {O:KeyOrd} {key:Keyed->O.α} {D:Keyed->Prop} {kd:SortKind}
end
section
variable {O:KeyOrd} {key:Keyed->O.α}
end
section
variable {M:Model} {A:Around} {E:Value->Shared->Prop} {s:Shared} {O:KeyOrd} {key:Keyed->O.α} {D:Keyed->Prop} {kd:SortKind}
end
section
variable {M:Model} {A:Around} {E:Value->Shared->Prop} {s:Shared} {O:KeyOrd} {key:Keyed->O.α} {D:Keyed->Prop} {kd:SortKind}
end
section
variable {M:Model} {A:Around} {E:Value->Shared->Prop} {s:Shared} {O:KeyOrd} {key:Keyed->O.α} {D:Keyed->Prop} {kd:SortKind} {d:O.α}
end
section
variable {M:Model} {A:Around} {E:Value->Shared->Prop} {s:Shared} {O:KeyOrd} {key:Keyed->O.α} {D:Keyed->Prop} {kd:SortKind} {d:O.α}
end
section
variable {M:Model} {A:Around} {E:Value->Shared->Prop} {s:Shared} {O:KeyOrd} {key:Keyed->O.α} {D:Keyed->Prop} {kd:SortKind} {d:O.α} {a0:List Keyed}
end
section
variable {M:Model} {A:Around} {E:Value->Shared->Prop} {s:Shared} {O:KeyOrd} {key:Keyed->O.α} {D:Keyed->Prop} {kd:SortKind} {d:O.α} {a0:List Keyed}
end
end SA
namespace SA
open PySem PyProof.Rows PySem.W
section
variable {prog:Program} {w:World} {A:Around} {E:Value->Shared->Prop} {s:Shared}
end
end SA
namespace L2
open PySem PySem.Spec PyProof.Rows PySem.W
section
variable {prog:Program} {w:World} {A:Around} {E:Value->Shared->Prop} {s:Shared}
def Za5 (h:Heap) (d:Addr) (es:Array DictEntry) (ep:Nat):Prop:=∃o,h.get? d=some o∧o.cls=.type "dict"∧o.data=.dict es ep
end
end L2
namespace L2
open PySem PySem.Spec PyProof.Rows PySem.W SA
section
variable {prog:Program} {w:World} {A:Around} {E:Value->Shared->Prop} {s:Shared}
end
section
variable {X:Cx}
end
section
variable {X:Cx}
end
section
variable {X:Cx} {pins:List (Addr×Obj)} {σ:St} {H H':Hp} {s:Shared} {d:Addr} {kvs:List (List Zi×V)} {o:Obj}
theorem Inv.thawT (I:Inv X pins σ H s) (e:H d=some (.frz o (.dT kvs))) (n:∀o u,X.H₀ d≠some (.frz o u)):Inv X pins σ (Zb H d (.dT kvs)) s:=by
 have ne:∀b,H b=none->b≠d:=fun b z q=>by subst q;rw [e] at z;cases z
 refine ⟨I.ok,I.os,I.bare,⟨I.base.keep,I.base.slot,fun b q h1 h2 h3=>?_,I.base.there,fun b xs h1=>?_,fun b q u h1=>?_,fun b ps h1=>?_⟩,I.loc,I.cell,?_,fun x c h1=>?_,fun p hp=>?_,fun b u h1=>?_,I.len⟩
 ·have:=I.base.free b q h1 h2 h3;rw [Zh (ne b this)];exact this
 ·have:=I.base.tups b xs h1;rw [Zh (fun z=>by subst z;rw [e] at this;cases this)];exact this
 ·have:=I.base.frzs b q u h1;rw [Zh (fun z=>by subst z;exact n _ _ h1)];exact this
 ·obtain ⟨more,this⟩:=I.base.tbls b ps h1;exact ⟨more,by rw [Zh (fun z=>by subst z;rw [e] at this;cases this)];exact this⟩
 ·rw [Zh (ne _ I.free)];exact I.free
 ·have:=I.freeC x c h1;rw [Zh (ne _ this)];exact this
 ·obtain ⟨a1,a2,a3⟩:=I.pin p hp;exact ⟨a1,by rw [Zh (ne _ a2)];exact a2,a3⟩
 ·have st:∀{b:Addr} {u:HO},ObjOk X.prog X.w H s.heap b u->ObjOk X.prog X.w (Zb H d (.dT kvs)) s.heap b u:=fun x=>by
   refine x.stay (fun c v hc q=>q) (fun c q=>?_) fun c xs q=>?_
   ·rw [Zh (fun z=>by subst z;rw [e] at q;cases q)];exact q
   ·rw [Zh (fun z=>by subst z;rw [e] at q;cases q)];exact q
  by_cases z:b=d
  ·subst z;rw [Zg] at h1;cases h1;exact st (show ObjOk X.prog X.w H s.heap b (.dT kvs) from (I.hok b _ e).2)
  ·rw [Zh z] at h1;exact st (I.hok b u h1)
end
def ZjH (t:TS):TS:=fun D σ H=>∃d kvs,H d=some (.dT kvs)∧t { nx:=fun σ' H'=>∃o,H' d=some (.frz o (.dT kvs))∧D.nx σ' (Zb H' d (.dT kvs)),rt:=fun _ _=>False } σ H
theorem Zj7 {X:Cx} {st:Stmt} {t:TS} (hs:PS X st t):PS X st (ZjH t):=by
 intro pins s σ H D I h;obtain ⟨d,kvs,hd,h⟩:=h
 have n:∀o u,X.H₀ d≠some (.frz o u):=fun o u z=>by
  have:=I.base.frzs d o u z;rw [hd] at this;cases this
 refine Zo (hs pins s σ H _ I h) fun fl s1 q=>?_;cases fl with
 |next =>
  obtain ⟨σ1,H1,I1,o,e1,q1⟩:=q;exact ⟨σ1,_,I1.thawT e1 n,q1⟩
 |brk=>obtain ⟨σ1,H1,I1,z⟩:=q;exact z.elim
 |cont=>obtain ⟨σ1,H1,I1,z⟩:=q;exact z.elim
 |ret u=>obtain ⟨v,σ1,H1,I1,r,z⟩:=q;exact z.elim
section
variable {prog:Program} {w:World} {A:Around} {E:Value->Shared->Prop}
theorem Zet {it l:Addr} {items:Array Value} (hne:l≠it):∀(n i:Nat) (s:Shared) (Q:List Value->Shared->Prop),s.heap.IsListIter it l i->s.heap.IsList l items->i+n≤items.size →
  (∀h',h'.IsListIter it l (i+n)->Heap.SameBut it s.heap h'->Q ((items.toList.drop i).take n) { s with heap:=h' })->wpAny (model prog w) A (draw (.ref it) n) Q E s
 |0,i,s,Q,hit,_,_,hQ=>by
  show wpAny _ _ (pure []) Q E s;exact Qe (by simpa using hQ s.heap hit (Heap.SameBut.refl ..))
 |n+1,i,s,Q,hit,ht,hle,hQ=>by
  have hlt:i<items.size:=by omega
  show wpAny _ _ (pyNext (.ref it) >>= _) Q E s;refine Qb (wpAny_pyNext_list_item hit ht (x:=items[i]) (by simp [hlt]) fun h₁ hit₁ hs₁=>?_);have ht1:h₁.IsList l items:=by obtain ⟨o,ho,x⟩:=ht;exact ⟨o,hs₁.extBut l o hne ho,x⟩
  refine Qb (Q1 (Zet hne n (i+1) _ _ hit₁ ht1 (by omega) fun h₂ hit₂ hs₂=>Qe ?_));have hd:items.toList.drop i=items[i]::items.toList.drop (i+1):=by simp [List.drop_eq_getElem_cons,hlt]
  have:=hQ h₂ (by rw [show i+(n+1)=i+1+n by omega];exact hit₂) (hs₁.trans hs₂);rw [hd,List.take_succ_cons] at this;exact this
theorem ZhJ {s:Shared} {l:Addr} {items:Array Value} {Q:List Value->Shared->Prop} (hh:A.handled=none) (ht:s.heap.IsList l items)
  (hQ:∀h',Heap.ExtBut s.heap.objs.size s.heap h'->Q items.toList { s with heap:=h' }):wpAny (model prog w) A (unpackItems (.ref l) items.size none) Q E s:=by
 have hlt:l≠s.heap.objs.size:=by obtain ⟨o,ho,_⟩:=ht;exact Qw (Qi ho)
 have htp:∀{x:Obj},(s.heap.push x).IsList l items:=fun {x}=>by obtain ⟨o,ho,y⟩:=ht;exact ⟨o,Qj _ ho,y⟩
 unfold unpackItems;refine Qb ?_
 ·unfold notIterableAtAll;refine Qb (wpAny_specialOf ht.typeIs slot_list_iter.lookup ?_);refine Qe ?_;simp only [Nk,QQ];refine Qb (Q1 (GU ht ?_));refine Qb (Q1 (Zet hlt items.size 0 _ _ ⟨_,Qs _ rfl,rfl,rfl⟩ htp (by omega) fun h₁ hit₁ hs₁=>?_))
  have hall:List.take items.size (List.drop 0 items.toList)=items.toList:=by
   rw [List.drop_zero];exact List.take_of_length_le (by simp)
  rw [hall];rw [Qa (by simp)];have ht₁:h₁.IsList l items:=by obtain ⟨o,ho,y⟩:=(htp:(s.heap.push _).IsList l items);exact ⟨o,hs₁.extBut l o hlt ho,y⟩
  refine Qb (Q1 (wpAny_pyNext_list_end hh hit₁ ht₁ (by simp) fun h₂ he₂=>?_));simp only [Option.isSome_none,Nk,QQ];refine Qe (hQ h₂ fun b o hb e=>he₂ b o hb (hs₁.extBut b o hb (Qj _ e)))
end
def Zom (K:W.Frag) (n:Nat) (t:Wk):TG:=fun v σ H Q=>∃a xs,v=.ref a∧SqL K H a xs∧xs.length=n∧t xs σ H Q
theorem ZlV {X:Cx} {es:List Expr} {k:Nat} {t:Wk} {n:Nat} {pos:Pos} (hc:X.calm=true) (h:Ug X es t)
  (hn:(assignEach es X.env).length=n:=by rfl) (hst:(assignEach es X.env).findIdx? (·.1)=none:=by rfl):PG X (.Tuple es k pos) (Zom X.K n t):=by
 intro pins s σ H v u Q I r hw;obtain ⟨a,xs,e1,hq,hl,hw⟩:=hw;subst e1;cases r;obtain ⟨its,rv,ht,hz⟩:=I.list hq;rw [arm_assign_Tuple];refine Qb (Gs ?_);unfold unpack;have hn2:(assignEach es X.env).length=its.toArray.size:=by simp [hn,←hl,rv.length]
 rw [hn2,hst];refine Qb (Q1 (ZhJ (I.ok.hd hc) ht.isList fun h' hx=>?_));have I1:Inv X pins σ H { s with heap:=h' }:=I.kept (t':=s.toks) fun b o e=>hx b o (Qw (Qi e)) e;exact h pins _ σ H xs _ Q I1 (by simpa using rv) hw
end L2
namespace L2
open PySem PySem.Spec PyProof.Rows PySem.W
noncomputable def Zz (K:W.Frag) (f:Addr):FuncData:=match K.lookup f with
 |some ⟨_,_,.func fd,_⟩=>fd
 |_=>default
structure DefIn (K:W.Frag) (x q:Str) (st:Stmt) (f:Addr):Prop where
 ex:∃(oc:Value) (od:Option Addr) (kV doc pm:Value) (an:Option Addr) (cdv ct:Value) (osl:Array (Option Value)),
  K.lookup f=some ⟨oc,od,.func (fnOf x q (Xu st) (Xh st) (Zw st) .none kV doc pm an cdv ct),osl⟩∧codeIn K cdv q=true
 kp:keepIn K (.ref f)=true
theorem DefIn.fn {K:W.Frag} {x q:Str} {st:Stmt} {f:Addr} (h:DefIn K x q st f):Fun K x q st f (Zz K f):=by
 obtain ⟨oc,od,kV,doc,pm,an,cdv,ct,osl,lk,hc⟩:=h.ex;have e:Zz K f=fnOf x q (Xu st) (Xh st) (Zw st) .none kV doc pm an cdv ct:=by unfold Zz;rw [lk]
 rw [e];exact Zkf lk hc h.kp
def Zf2 (x q:Str) (st:Stmt) (ps:List Str):Prop:=∀(kV doc pm:Value) (an:Option Addr) (cdv ct:Value) (us:List Value),us.length=ps.length->bindArgs (fnOf x q (Xu st) (Xh st) (Zw st) .none kV doc pm an cdv ct) ⟨us,[]⟩=pure (ps.zip us)
structure Df (K:W.Frag) (mg:Str->Option Value) (x:Str) (st:Stmt) (ps:List Str) where
 a:Addr
 F:Fun K x x st a (Zz K a)
 b:Binds K (Zz K a) ps []
 m:mg x=some (.ref a)
structure Dm (K:W.Frag) (C:Addr) (x q:Str) (st:Stmt) (ps:List Str) where
 a:Addr
 F:Fun K x q st a (Zz K a)
 b:Binds K (Zz K a) ps []
 me:Meth K C x a
noncomputable def Df.of {K:W.Frag} {mg:Str->Option Value} {h:Heap} {x:Str} {st:Stmt} {ps:List Str} {f:Addr} (X:K.In h) (G:h.Ns mainGlobals mg) (a:nsIn K mainGlobals x=some (some (.ref f))) (l:DefIn K x x st f) (hb:Zf2 x x st ps):Df K mg x st ps:=⟨f,l.fn,l.fn.binds hb,mg_of X G a⟩
noncomputable def Dm.of {K:W.Frag} {C:Addr} {x q:Str} {st:Stmt} {ps:List Str} {f:Addr} (a:findIn K (.ref C) x=some (some (.ref f))) (i:isFn K (.ref f)=true) (l:DefIn K x q st f) (hb:Zf2 x q st ps):Dm K C x q st ps:=⟨f,l.fn,l.fn.binds hb,⟨a,i,l.kp⟩⟩
theorem YG {P:List Value->Prop} (h:∀a,P [a]):∀us,us.length=1->P us
 |[_],_=>h _
theorem Y3 {P:List Value->Prop} (h:∀a b,P [a,b]):∀us,us.length=2->P us
 |[_,_],_=>h _ _
theorem Jc {P:List Value->Prop} (h:∀a b c,P [a,b,c]):∀us,us.length=3->P us
 |[_,_,_],_=>h _ _ _
theorem WS {P:List Value->Prop} (h:∀a b c d,P [a,b,c,d]):∀us,us.length=4->P us
 |[_,_,_,_],_=>h _ _ _ _
theorem un5 {P:List Value->Prop} (h:∀a b c d e,P [a,b,c,d,e]):∀us,us.length=5->P us
 |[_,_,_,_,_],_=>h _ _ _ _ _
end L2
namespace TextG
open PySem
end TextG
namespace L2
open PySem PySem.Spec PyProof.Rows PySem.W
section
variable {X:Cx}
def Znh (g:Bool->Bool):R2:=fun x y H Q=>∃a b xs,x=.ref a∧y=.ref b∧H a=some (.lst xs)∧H b=some (.lst [])∧Q (.bl (g (decide (xs=[])))) H
theorem ZiA (hu:X.A.units+64<cLine):Ye X (compareOp .Eq) (Znh id):=by
 intro pins s σ H x y v u Q I rx ry h;obtain ⟨a,b,xs,rfl,rfl,ha,hb,q⟩:=h;cases (show v=Value.ref a from rx);cases (show u=Value.ref b from ry);obtain ⟨its,rv,z,_⟩:=I.list (SqL.of (K:=X.K) ha);obtain ⟨its2,rv2,z2,_⟩:=I.list (SqL.of (K:=X.K) hb);cases rv2;have hl:=rv.length;cases xs with
 |nil =>
  cases rv;have g:=Nl (A:=X.A) (e:=fun _=>true) z.isList z2.isList rfl (by omega) fun j h1 h2=>by simp at h1
  exact g _ _ _ _ ⟨.bl _,H,I,rfl,q⟩
 |cons x0 xs =>
  have g:=SeqAt.RcAt.lists_lengths (A:=X.A) z.isList z2.isList (by rw [Qv,←hl];rfl) (by omega);exact g _ _ _ _ ⟨.bl _,H,I,rfl,q⟩
theorem Zm9 (hc:X.calm=true):YQ X (.type "list") (fun xs H Q=>∃(l:Addr) (zs:List (Str×V)),xs=[.ref l]∧H l=some (.dK (zs.map fun p=>(.inr p.1,p.2)))∧zs.length≤1000∧∀D,H D=none->Q (.ref D) (Zb H D (.lst ((zs.map (·.1)).map V.str)))):=by
 intro pins s σ H xs us Q I r h;obtain ⟨l,zs,rfl,hq,hl,q⟩:=h;obtain ⟨u,rfl,ru⟩:=Xr r;cases (show u=Value.ref l from ru);obtain ⟨z,hd,vs,rel,dd⟩:=WC I.hok hq;obtain ⟨ep,da⟩:=dd.dictAt;have hlen:vs.length=zs.length:=by rw [←rel.length,Qd]
 have keyAt:∀(i:Nat) (k:Zi) (x:Value),vs[i]?=some (k,x)->∃z,(zs.map (·.1))[i]?=some z∧k=.inr z:=by
  have go:∀{ys:List (Str×V)} {ws:List (Zi×Value)},KV (ys.map fun p=>((.inr p.1:Zi),p.2)) ws->∀(i:Nat) (k:Zi) (x:Value),ws[i]?=some (k,x)->∃z,(ys.map (·.1))[i]?=some z∧k=.inr z:=by
   intro ys
   induction ys with
   |nil=>intro ws r i k x e;cases r;cases e
   |cons y ys ih =>
    intro ws r i k x e;cases r with
    |cons h t =>
     cases i with
     |zero =>
      rw [Ni] at e;cases e;exact ⟨y.1,rfl,h.1.symm⟩
     |succ i =>
      rw [RY] at e;obtain ⟨z,e1,e2⟩:=ih t i k x e;exact ⟨z,by simpa using e1,e2⟩
  exact go rel
 have col:∀(acc:Array Value),ItemsOf (fun i v=>∃k x,vs[i]?=some (k,x)∧(Z1 X.prog X.w).is k v=true) acc vs.length->StrsAre acc.toList (zs.map (·.1)):=by
  intro acc hacc;refine ZdG (by rw [Qd,←hlen,RI];exact hacc.1) fun i v e=>?_;obtain ⟨k,x,e1,e2⟩:=hacc.2 i v (by rw [←Nj];exact e);obtain ⟨z,e3,rfl⟩:=keyAt i k x e1;obtain ⟨t,rfl⟩:=Zhw e2;exact ⟨z,t,e3,rfl⟩
 have hs:zs.length<sizeLine:=ZD (by omega);refine kdl_call (kdl_dict hd) (I.ok.hd hc) da (by rw [hlen];omega) fun h' tk acc c k1 he hacc=>?_;exact ⟨.ref _,_,I.laid (t':=tk) (o:=.lst ((zs.map (·.1)).map V.str)) k1 (Qf _) (show ObjOk X.prog X.w _ _ _ (.lst ((zs.map (·.1)).map V.str)) from ⟨by rw [Qd,Qd];omega,acc.toList,c,JB (col acc hacc),by rw [Array.toArray_toList];exact he⟩),rfl,q _ (I.hok.fresh (Qf _))⟩
end
section
variable {X:Cx} {CX:YF} {k1 k2 k3:Nat} {f1 C1 f2 C2 f3 C3:Addr} {fd1 fd2 fd3:FuncData} {ps1 ps2 ps3:List Str} {sp1 sp2 sp3:Sp} {E:XS} {m:Str} {pos apos:Pos} {o:Expr} {ta:TE}
def Zef (C1 C2 C3:Addr) (m:Str) (sp1 sp2 sp3:Sp) (E:XS) (ta:TE):TE:=fun σ H Q=>ta σ H fun x H1=>∃a dx fs,x=.ref a∧fs.lookup m=none ∧
 ((H1 a=some (.ins C1 dx fs)∧sp1 [x] H1 Q (E σ))∨(H1 a=some (.ins C2 dx fs)∧sp2 [x] H1 Q (E σ))∨(H1 a=some (.ins C3 dx fs)∧sp3 [x] H1 Q (E σ)))
theorem ZjD {pl:Sem Bool} (he:PE X o ta) (c1:Cls X.K C1) (hm1:Meth X.K C1 m f1) (F1:FnOk X.prog X.w X.K X.mg X.base CX k1 f1 fd1 ps1 sp1) (hr1:Room k1 X.A) (hb1:Binds X.K fd1 ps1 [])
  (c2:Cls X.K C2) (hm2:Meth X.K C2 m f2) (F2:FnOk X.prog X.w X.K X.mg X.base CX k2 f2 fd2 ps2 sp2) (hr2:Room k2 X.A) (hb2:Binds X.K fd2 ps2 [])
  (c3:Cls X.K C3) (hm3:Meth X.K C3 m f3) (F3:FnOk X.prog X.w X.K X.mg X.base CX k3 f3 fd3 ps3 sp3) (hr3:Room k3 X.A) (hb3:Binds X.K fd3 ps3 []) (hx:Xw CX X E)
  (ht:eval (.Call (.Attribute o m apos) [] [] pos) X.env=(do
   let ov ←eval o X.env
   standAt apos.atName
   let (f,first) ←holding [ov] (getMethod ov m pl)
   callWith pos f first (backTo pos (starEach [] X.env)) (backToKw pos (keywordEach [] X.env))):=by rfl) :
  PE X (.Call (.Attribute o m apos) [] [] pos) (Zef C1 C2 C3 m sp1 sp2 sp3 E ta):=by
 intro pins s σ H Q I h;refine GJ (pl:=pl) (Zo (he pins s σ H _ I h) fun u s1 ⟨x,H1,I1,rx,a,dx,fs,ex,l,q⟩=>?_) ht;subst ex;obtain rfl:u=Value.ref a:=rx;rcases q with ⟨ea,q⟩|⟨ea,q⟩|⟨ea,q⟩
 ·refine WT I1 ea c1 hm1 l ?_;exact Gf (first:=[.ref a]) I1.kIn hm1.kp (Wu (us:=[.ref a]) (vs:=[.ref a]) F1 hr1 hb1 .nil hx I1 (.cons rfl .nil) q)
 ·refine WT I1 ea c2 hm2 l ?_;exact Gf (first:=[.ref a]) I1.kIn hm2.kp (Wu (us:=[.ref a]) (vs:=[.ref a]) F2 hr2 hb2 .nil hx I1 (.cons rfl .nil) q)
 ·refine WT I1 ea c3 hm3 l ?_;exact Gf (first:=[.ref a]) I1.kIn hm3.kp (Wu (us:=[.ref a]) (vs:=[.ref a]) F3 hr3 hb3 .nil hx I1 (.cons rfl .nil) q)
end
end L2
namespace L2
open PySem PySem.Spec PyProof.Rows
section
variable {prog:Program} {w:World} {A:Around} {R:Result->Shared->Prop} {s:Shared}
end
section
variable {X:Cx} {pins:List (Addr×Obj)} {σ:St} {H:Hp} {s:Shared} {N:List Str} {sc:Scope} {cl:List (Str×Addr)} {σc:St->St} {fp:List Addr}
end
section
variable {X:Cx} {elt tg iter:Expr} {ifs:List Expr} {sc:Scope} {pos:Pos} {N:List Str} {cl:List (Str×Addr)} {σc:St->St} {wi:TI} {g:TG} {tt:TT} {te:TE}
end
section
variable {M:Model} {A:Around} {E:Value->Shared->Prop} {s:Shared}
end
section
variable {X:Cx} {pins:List (Addr×Obj)} {σ:St} {H H':Hp} {s s':Shared} {e:Addr} {cls:Value}
end
section
variable {P:Program} {w:World} {K:W.Frag} {mg:Str->Option Value} {base:Heap} {N:List Str} {qual:Str} {scope:Scope} {f:Addr} {cd:Value} {A:Around} {outer:List Env} {s:Shared} {H:Hp} {E:XK}
end
section
variable {X:Cx}
end
section
variable {prog:Program} {w:World} {A:Around} {E:Value->Shared->Prop} {s:Shared}
end
section
variable {prog:Program} {w:World} {κ:Type} [DecidableEq κ] {knd:KeyKind prog w κ} {A:Around} {s:Shared}
end
section
variable {X:Cx}
end
section
variable {prog:Program} {w:World} {A:Around} {E:Value->Shared->Prop} {s:Shared}
end
section
variable {X:Cx} {pos:Pos}
variable {i o value:Expr} {ty td tv:TE} {pos':Pos}
end
end L2
namespace L2
open PySem PySem.Spec PyProof.Rows PySem.W
section
variable {X:Cx} {o i l tg:Expr} {pos:Pos} {td ty tl:TE} {K:W.Frag} {w:World} {a:Addr} {kvs:List (Zi×V)}
end
section
variable {X:Cx}
end
end L2
namespace L2
open PySem PySem.Spec PyProof.Rows PySem.W PySem.SeqAt
section
variable {prog:Program} {w:World} {A:Around} {E:Value->Shared->Prop} {s:Shared}
end
noncomputable def noX:HO->Bool
 |.ext _=>false
 |_=>true
def Zg0 (H H':Hp):Prop:=∀b u,noX u=true->H b=some u->H' b=some u
theorem Same.x {H H':Hp} (s:Same H H'):Zg0 H H':=fun b u _ e=>s b u e
section
variable {X:Cx} {pins:List (Addr×Obj)} {σ:St} {H:Hp} {s:Shared} {h':Heap}
end
section
variable {X:Cx} {e:Expr} {te:TE} {p pos kp lpos p1 p2 p3 p4:Pos} {x o q:Str} {params:Arguments} {scope:Scope} {c P cc:Addr} {i:Nat}
end
end L2
namespace L2
open PySem PySem.Spec PyProof.Rows PySem.W
end L2
namespace L2
open PySem PySem.Spec PyProof.Rows
section
variable {X:Cx}
end
section
variable {X:Cx}
end
end L2
namespace L2
open PySem PySem.Spec PyProof.Rows PySem.W
section
variable {X:Cx}
end
end L2
namespace L2
open PySem PySem.Spec PyProof.Rows PySem.W SA
section
variable {prog:Program} {w:World} {A:Around} {E:Value->Shared->Prop} {s:Shared}
end
theorem ZgX {H:Hp}:∀{kvs:List (List Zi×V)} {xs:List (List Zi×Addr×Value)},KT H kvs xs->∀(i:Nat) (p:List Zi×V),kvs[i]?=some p->∃x,xs[i]?=some x∧H x.2.1=some (.tup (p.1.map kV))∧RelV p.2 x.2.2
 |[],_,r,i,p,e=>by cases e
 |q::kvs,_,r,i,p,e=>by
  cases r with
  |@cons _ y _ _ h t =>
   cases i with
   |zero =>
    cases (show some q=some p from e);exact ⟨y,rfl,h.2.1,h.2.2⟩
   |succ i =>
    rw [RY] at e;obtain ⟨x,hx⟩:=ZgX t i p e;exact ⟨x,by rw [RY];exact hx.1,hx.2⟩
theorem Inv.freezeT {X:Cx} {pins:List (Addr×Obj)} {σ:St} {H:Hp} {s:Shared} {a:Addr} {kvs:List (List Zi×V)} (I:Inv X pins σ H s) (ha:H a=some (.dT kvs)):∃o es ep,s.heap.get? a=some o∧o.cls=.type "dict"∧o.data=.dict es ep∧es.size=kvs.length∧(a==sysModules)=false∧Inv X pins σ (Zb H a (.frz o (.dT kvs))) s:=by
 obtain ⟨z,hd,xs,rel,o,es,ep,h1,h2,h3,h4,h5⟩:=JC I.hok ha;have hes:es.size=kvs.length:=by rw [←RI,h4,Qd];exact rel.length.symm
 have fz:∀{c:Addr} {u:HO},ObjOk X.prog X.w H s.heap c u->ObjOk X.prog X.w (Zb H a (.frz o (.dT kvs))) s.heap c u:=fun x=>by
  refine x.stay (fun c v hc qe=>qe) (fun c qe=>?_) fun c ys qe=>?_
  ·rw [Zh (fun z=>by subst z;rw [ha] at qe;cases qe)];exact qe
  ·rw [Zh (fun z=>by subst z;rw [ha] at qe;cases qe)];exact qe
 exact ⟨o,es,ep,h1,h2.1,h3,hes,hd,I.write (x:=a) (e:=a) (o:=.frz o (.dT kvs)) (h':=s.heap) (t':=s.toks) (by rw [ha];exact True.intro) (.inl rfl) (fun b u _ e=>e) ⟨o,h1⟩ ⟨h1,fz (show ObjOk X.prog X.w H s.heap a (.dT kvs) from I.hok a _ ha)⟩⟩
def VY (r a:Addr) (h:Heap):Prop:=h.IsItemsView r a
section
variable {prog:Program} {w:World} {A:Around} {E:Value->Shared->Prop} {s:Shared}
theorem Zk4 {v d:Addr} {es:Array DictEntry} {ep:Nat} {Q:Value->Shared->Prop} (hv:s.heap.IsItemsView v d) (hd:Za5 s.heap d es ep)
  (q:Q (.ref s.heap.objs.size) { s with heap:=s.heap.push { cls:=.type "dict_itemiterator",data:=.fields #[.none,.bool false,.ref d,.int 0 0,.int es.size 0,.int ep 0,.none,.none] } }):wpAny (model prog w) A (pyIter (.ref v)) Q E s:=by
 have ty:=hv.typeIs;obtain ⟨ov,g1,g2,g3⟩:=hv;obtain ⟨od,d1,d2,d3⟩:=hd;have own:Builtin.Dict_items.ownsTuple "dict_itemiterator"=true:=by decide
 refine wpAny_pyIter_slot ty F.slot_dict_items_iter (Rb F.slot_dict_items_iter ty F.entry_dict_items_iter ?_ (F.args_dict_items_iter_1 _))
 delta Builtin.«dict_items.__iter__»
 refine Qb (Qe (Qb ?_))
 delta Builtin.Dict_items.dictOf
 refine Qb (QK g1 g3 (x:=.ref d) rfl (Qe (Qb ?_)))
 delta Builtin.Dict_items.newIterator
 refine Qb (Rv d1 d3 (Qb (Gh d1 d3 ?_)));simp only [own,Q0]
 refine Q8 (Qe ⟨_,rfl,"dict_itemiterator",_,⟨_,Qs _ rfl,rfl⟩,Gi.lookup,?_⟩)
  (by simp only [sizeOk,Builtin.Dict_items.ownedTupleFields,Qv,Qx,QJ,GC,RQ];omega)
 simpa [rawInt,Builtin.Dict_items.ownedTupleFields] using q
theorem ZaE {j:Addr} {Q:String->Shared->Prop} (hT:s.TypeIs (.ref j) "dict_itemiterator") (h:Q "dict_itemiterator" s):wpAny (model prog w) A (typeNameOfWhole (.ref j)) Q E s:=wpAny_typeNameOfWhole_itemiter hT h
theorem Zj9 {j d:Addr} {i ep:Nat} {es:Array DictEntry} {e:DictEntry} {ok ov:Value} {Q:Option Value->Shared->Prop} (hit:IsItemIter s.heap j d i es.size ep ok ov) (hd:Za5 s.heap d es ep) (he:es[i]?=some e)
  (q:∀h',IsItemIterOut h' j d (i+1) es.size ep e.key e.val s.heap.objs.size->h'.get? s.heap.objs.size=some { cls:=.type "tuple",data:=.seq #[e.key,e.val] } →
   (∀b o,b≠j->s.heap.get? b=some o->h'.get? b=some o)->Q (some (.ref s.heap.objs.size)) { s with heap:=h' }):wpAny (model prog w) A (pyNext (.ref j)) Q E s:=by
 obtain ⟨hp,g,dr,tk,os⟩:=s;obtain ⟨od,d1,d2,d3⟩:=hd;have ty:Shared.TypeIs ⟨hp,g,dr,tk,os⟩ (.ref j) "dict_itemiterator":=⟨_,hit,rfl⟩;have own:Builtin.Dict_items.ownsTuple "dict_itemiterator"=true:=by decide
 have hj:i<es.size:=by
  rcases Nat.lt_or_ge i es.size with h|h
  ·exact h
  ·rw [Array.getElem?_eq_none h] at he;cases he
 have hv:es[i]=e:=by rw [getElem?_pos es i hj] at he;injection he
 delta pyNext
 refine Qb (GG (RA (name:=Str.ofString "__next__") ty Gi (Rb Gi ty NH ?_ (NI _))));refine Qb (Qe (Qb (Qb (Qb (ZaE ty (Qe (Qb (wpAny_fieldsOf hit rfl ?_))))))));simp only [own,Q0];have nn:(Value.ref d==Value.none)=false:=rfl;show wpAny _ A.in1 (if (Value.ref d==Value.none)=true then _ else _) _ _ _;rw [nn,Qa QB];refine Qb (Qe (Qb (Rv d1 d3 ?_)));rw [Qa (by simp)];refine Qb (Qe (Qb (Gh d1 d3 ?_)));rw [Qa (by simp)];refine Qe ?_;simp only [show ¬((i:Int)<0) from by omega,QQ,Ga,Array.getElem?_eq_getElem hj];refine Qb (Qb (ZaE ty (Qe (Qb (Nn ty ?_)))));show wpAny _ A.in1 (setField (.ref j) 3 (rawInt ((i:Int)+1)) >>= _) _ _ _;refine Qb (Rm hit (by simp) fun ha a1 a2=>?_);replace a2:Heap.SameBut j hp ha:=a2
 replace a1:IsItemIter ha j d (i+1) es.size ep ok ov:=by
  have ez:((i+1:Nat):Int)=(i:Int)+1:=by omega
  unfold IsItemIter;rw [ez];simpa [rawInt] using a1
 have tya:Shared.TypeIs ⟨ha,g,dr,tk,os⟩ (.ref j) "dict_itemiterator":=⟨_,a1,rfl⟩;refine Qb (Q1 (Qb (Nn tya (Qb (Nn tya ?_)))));show wpAny _ A.in1 (Builtin.Dict_items.pairFromOwner (.ref j) 6 es[i].key es[i].val) _ _ ⟨ha,g,dr,tk,os⟩;rw [hv]
 delta Builtin.Dict_items.pairFromOwner
 refine Qb (wpAny_newTuple ?_);have b1:IsItemIter (ha.push { cls:=.type "tuple",data:=.seq #[e.key,e.val] }) j d (i+1) es.size ep ok ov:=Qj _ a1;generalize hb:ha.push { cls:=.type "tuple",data:=.seq #[e.key,e.val] }=hB at b1;have za:ha.objs.size=hp.objs.size:=a2.1;have lj:j<hp.objs.size:=Qi hit;have tB:hB.get? hp.objs.size=some { cls:=.type "tuple",data:=.seq #[e.key,e.val] }:=by rw [←hb,←za];exact Qs _ rfl
 have kB:∀b o,b≠j->hp.get? b=some o->hB.get? b=some o:=fun b o nb eo=>by rw [←hb];exact Qj _ (a2.extBut b o nb eo)
 show wpAny _ A.in1 (Builtin.Dict_items.ownedTupleIsFree (.ref j) >>= _) _ _ ⟨hB,g,dr,tk,os⟩;rw [za];clear hb a1 a2 tya za ha;refine Qb ?_
 delta Builtin.Dict_items.ownedTupleIsFree
 refine Qb (QK b1 rfl (x:=.none) rfl (Qe ?_));simp only [Q0];refine Qb (QK b1 rfl (x:=ok) rfl (Qb (QK b1 rfl (x:=ov) rfl ?_)));refine Qb (Rm b1 (by simp) fun hC c1 c2=>?_);replace c2:Heap.SameBut j hB hC:=c2;replace c1:IsItemIter hC j d (i+1) es.size ep e.key ov:=c1;refine Qb (Rm c1 (by simp) fun hD e1 e2=>?_);replace e2:Heap.SameBut j hC hD:=e2;replace e1:IsItemIter hD j d (i+1) es.size ep e.key e.val:=e1;refine Qb (Rm e1 (by simp) fun hE f1 f2=>?_);replace f2:Heap.SameBut j hD hE:=f2;replace f1:IsItemIterOut hE j d (i+1) es.size ep e.key e.val hp.objs.size:=f1;refine Qb (Rm f1 (by simp) fun hG g1 g2=>?_);replace g2:Heap.SameBut j hE hG:=g2;replace g1:IsItemIterOut hG j d (i+1) es.size ep e.key e.val hp.objs.size:=g1;have up:∀b o,b≠j->hB.get? b=some o->hG.get? b=some o:=fun b o nb eo=>g2.extBut b o nb (f2.extBut b o nb (e2.extBut b o nb (c2.extBut b o nb eo)));refine Qb (GF (Qe (Qe ⟨_,rfl,Qe (q hG g1 ?_ ?_)⟩)))
 ·exact up _ _ (Ry lj) tB
 ·exact fun b o nb eo=>up b o nb (kB b o nb eo)
theorem ZkR {j d:Addr} {i ep:Nat} {es:Array DictEntry} {ok ov:Value} {Q:Option Value->Shared->Prop} (hh:A.handled=none) (hit:IsItemIter s.heap j d i es.size ep ok ov) (hd:Za5 s.heap d es ep) (he:es.size≤i)
  (q:∀h',Heap.ExtBut j s.heap h'->Q none { s with heap:=h' }):wpAny (model prog w) A (pyNext (.ref j)) Q E s:=by
 obtain ⟨od,d1,d2,d3⟩:=hd;have ty:s.TypeIs (.ref j) "dict_itemiterator":=⟨_,hit,rfl⟩;have own:Builtin.Dict_items.ownsTuple "dict_itemiterator"=true:=by decide
 delta pyNext
 refine Qb (GG (RA (name:=Str.ofString "__next__") ty Gi (Rb Gi ty NH ?_ (NI _))));refine Qb (Qe (Qb (Qb (Qb (ZaE ty (Qe (Qb (wpAny_fieldsOf hit rfl ?_))))))));simp only [own,Q0];have nn:(Value.ref d==Value.none)=false:=rfl;show wpAny _ A.in1 (if (Value.ref d==Value.none)=true then _ else _) _ _ s;rw [nn,Qa QB];refine Qb (Qe (Qb (Rv d1 d3 ?_)));rw [Qa (by simp)];refine Qb (Qe (Qb (Gh d1 d3 ?_)));rw [Qa (by simp)];refine Qe ?_;simp only [show ¬((i:Int)<0) from by omega,QQ,Ga,Array.getElem?_eq_none he];refine Qb (Qb (ZaE ty (Qe ?_)));show wpAny _ A.in1 (setField (.ref j) 2 .none >>= _) _ _ s;refine Qb (wpAny_setField hit rfl (by simp) ?_);show wpAny _ A.in1 (newExc (.type "StopIteration") [] >>= _) _ _ _;refine Qb ?_;simp only [newExc,newTuple];refine Qb (Q8 (Qb (m:=firstArgMember _ _) (wpAny_of_eq (a:=Value.none) (by first|rfl|(simp only [firstArgMember];rfl)) (Q8 ?_ (by size_fits)))) (by size_fits));simp only [raiseNew];refine Qb (wpAny_handled ?_);rw [show A.in1.handled=none from hh];refine Qb (Qe (wpAny_throw ?_));refine Qb (Nf (b:=true) (T:="StopIteration") ⟨_,Qs _ rfl,rfl⟩ isSubtype_stop ?_);exact Qe (q _ (((RW ..).extBut.push _).push _))
end
theorem ZhZ {prog:Program} {w:World} {A:Around} {E:Value->Shared->Prop} {s:Shared} {d:Addr} {es:Array DictEntry} {ep:Nat} {Q:Value->Shared->Prop} (lo:(d==sysModules)=false) (hd:Za5 s.heap d es ep)
  (q:Q (.ref s.heap.objs.size) { s with heap:=s.heap.push { cls:=.type "dict_items",data:=.fields #[.ref d] } }):wpAny (model prog w) A (call (.builtin "dict.items") [.ref d]) Q E s:=by
 obtain ⟨od,d1,d2,d3⟩:=hd;have ty:s.TypeIs (.ref d) "dict":=⟨od,d1,d2⟩;refine Gb F.slot_dict_items ty F.entry_dict_items (F.args_dict_items_1 _) (S:=fun _ R s'=>s'=s∧R (.ok (.ret (.ref s'.heap.objs.size))) { s' with heap:=s'.heap.push { cls:=.type "dict_items",data:=.fields #[.ref d] } }) ?_ ⟨rfl,q⟩;refine .of_wp fun A R s' h=>?_;obtain ⟨rfl,h⟩:=h;refine Qb ?_
 delta Builtin.Dict.noArgs
 refine Qb (Nh ty ?_);show wpAny _ _ (pure d) _ _ _;refine Qe ?_;show wpAny _ _ (Builtin.Dict.showsAll d >>= _) _ _ _
 delta Builtin.Dict.showsAll
 rw [Qa (by rw [lo];exact QB)];exact Qb (Qe (Qb (Q8 (Qe ⟨_,rfl,h⟩))))
theorem ZnK {X:Cx}:Uf X "dict.items" (fun x xs H Q=>∃a kvs,x=.ref a∧xs=[]∧H a=some (.dT kvs)∧∀r,H r=none->Q (.ref r) (Zb H r (.ext (VY r a)))):=by
 intro pins s σ H x xs v us Q I rx r h;obtain ⟨a,kvs,rfl,rfl,ha,q⟩:=h;cases r;obtain rfl:v=Value.ref a:=rx;obtain ⟨z,hd,xs,rel,o,es,ep,h1,h2,h3,h4,h5⟩:=JC I.hok ha;refine ZhZ hd ⟨o,h1,h2.1,h3⟩ ⟨.ref s.heap.objs.size,_,I.laid (t':=s.toks) (o:=.ext (VY s.heap.objs.size a)) (fun b u e=>Qj _ e) (Qf _) ?_,rfl,q _ (I.hok.fresh (Qf _))⟩;have g:(s.heap.push { cls:=.type "dict_items",data:=.fields #[.ref a] }).get? s.heap.objs.size=some { cls:=.type "dict_items",data:=.fields #[.ref a] }:=Qs _ rfl;refine ⟨⟨_,g,rfl,rfl⟩,⟨_,g⟩,fun g1 g2 φ k=>?_⟩;obtain ⟨o,o1,o2⟩:=φ;exact ⟨o,k o o1,o2⟩
noncomputable def JI (d:Addr) (o:Obj) (kvs:List (List Zi×V)):It where
 go:=fun i H=>H d=some (.frz o (.dT kvs))∧i<kvs.length
 stop:=fun i H=>H d=some (.frz o (.dT kvs))∧kvs.length≤i
 yld:=fun i H v H'=>∃T c p,H T=none∧v=.ref T∧kvs[i]?=some p∧H c=some (.tup (p.1.map kV))∧H'=Zb H T (.tup [.ref c,p.2])
theorem Zme {P:Program} {w:World} {K:W.Frag} {ts:List Expr} {n:Nat} {pos:Pos} (d j:Addr) (o:Obj) (kvs:List (List Zi×V)) (es:Array DictEntry) (ep:Nat) (ho:o.data=.dict es ep) (hc:o.cls=.type "dict") (hz:es.size=kvs.length) :
  Turn P w K (.Tuple ts n pos) (JI d o kvs) [j] j (fun i h=>∃ok ov,IsItemIter h j d i es.size ep ok ov) where
 mem:=by simp
 obj:=fun i h ⟨ok,ov,st⟩ b hb=>by
  have e:b=j:=by simpa using hb
  subst e;exact ⟨_,st,fun v z=>by cases z⟩
 keep:=fun i h h' ⟨ok,ov,st⟩ k=>⟨ok,ov,k j (by simp) _ st⟩
 item:=by
  intro X hP hw hK hcalm i pins s σ H E I hf st hg;subst hP hw hK;obtain ⟨ok,ov,st⟩:=st;obtain ⟨hq,hi⟩:=hg;obtain ⟨g1,g2⟩:=(show s.heap.get? d=some o∧ObjOk X.prog X.w H s.heap d (.dT kvs) from I.hok d _ hq);obtain ⟨z,hd,xs,rel,o2,es2,ep2,h1,h2,h3,h4,h5⟩:=Va I.hok (.inr ⟨o,hq⟩);rw [g1] at h1;cases h1;rw [ho] at h3;cases h3;obtain ⟨x,hx,hxt,rx⟩:=ZgX rel i kvs[i] (Qz hi)
  have hen:∃en,es[i]?=some en∧en.key=.ref x.2.1∧en.val=x.2.2:=by
   have e1:es.toList[i]?=es[i]?:=Nj ..;rw [h4,Qu,hx] at e1;exact ⟨_,e1.symm,rfl,rfl⟩
  obtain ⟨en,hen,ek,ev⟩:=hen;have lj:j<s.heap.objs.size:=Qi st;refine Zj9 st ⟨o,g1,hc,ho⟩ hen fun h1 io tt kk=>?_;refine ⟨_,rfl,wpAny_letOwnedTupleGo_items io fun h2 st2 sb=>?_⟩;have tt2:=sb.extBut _ _ (Ry lj) tt
  have k2:∀c o,c∉[j]->s.heap.get? c=some o->h2.get? c=some o:=fun c o hc e=>by
   have nc:c≠j:=by simpa using hc
   exact sb.extBut _ _ nc (kk c o nc e)
  have I':=I.turnedLaid (t':=s.toks) (o:=.tup [.ref x.2.1,kvs[i].2]) hf k2 (Qf _) (show ObjOk X.prog X.w _ h2 _ (.tup [.ref x.2.1,kvs[i].2]) from ⟨ZD (by simp),[en.key,en.val],.cons (by rw [ek];rfl) (.cons (by rw [ev];exact rx) .nil),⟨_,tt2,rfl,_,rfl⟩⟩);refine ⟨.ref s.heap.objs.size,_,I',rfl,⟨s.heap.objs.size,x.2.1,kvs[i],I.hok.fresh (Qf _),rfl,Qz hi,hxt,rfl⟩,⟨_,_,st2⟩,fun c hc=>?_⟩;have ec:c=j:=by simpa using hc
  subst ec;rw [Zh (Qw lj)];exact (hf c (by simp)).1
 done:=by
  intro X hP hw hK hcalm i pins s σ H E I hf st hg;subst hP hw hK;obtain ⟨ok,ov,st⟩:=st;obtain ⟨hq,hi⟩:=hg;obtain ⟨g1,g2⟩:=(show s.heap.get? d=some o∧ObjOk X.prog X.w H s.heap d (.dT kvs) from I.hok d _ hq);obtain ⟨f0,f1,f2,f3,f4,f5⟩:=hf j (by simp);exact ZkR (I.ok.hd hcalm) st ⟨o,g1,hc,ho⟩ (by omega) fun h' eb=>⟨rfl,I.turned (t':=s.toks) (fun b o hb e=>eb b o hb e) f0 f1 f3 f4 f5⟩
 self:=fun _ _ _ _ _ ⟨ok,ov,st⟩ h=>kcp_self st h
def Znv (tl:TE):TI:=fun σ H R=>tl σ H fun x H1=>∃r a kvs,x=.ref r∧H1 r=some (.ext (VY r a))∧H1 a=some (.dT kvs)∧∀o,R (JI a o kvs) (Zb H1 a (.frz o (.dT kvs)))
theorem ZkW {X:Cx} {l:Expr} {tl:TE} {ts:List Expr} {n:Nat} {pos:Pos} (hl:PE X l tl):PI X (.Tuple ts n pos) l (Znv tl):=by
 intro pins s σ H R I h;refine Zo (hl pins s σ H _ I h) fun v s1 ⟨x,H1,I1,r1,q1⟩=>?_;obtain ⟨r,a,kvs,e,hr,ha,q⟩:=q1;subst e;cases r1;have hview:s1.heap.IsItemsView r a:=(show ObjOk X.prog X.w H1 s1.heap r (.ext (VY r a)) from I1.hok r _ hr).1;obtain ⟨o,es,ep,h1,h2,h3,hes,hd,If⟩:=I1.freezeT ha;refine Zk4 hview ⟨o,h1,h2,h3⟩ ?_;refine ⟨s1.heap.objs.size,[s1.heap.objs.size],_,_,_,rfl,If.kept (t':=s1.toks) fun b o e=>Qj _ e,Zme a _ o kvs es ep h3 h2 hes,⟨_,_,Qs _ rfl⟩,fun b hb=>?_,q o⟩;have e:b=s1.heap.objs.size:=by simpa using hb
 subst e;exact If.fpOk (Qf _) (If.hok.fresh (Qf _))
theorem ZkK {d:Addr} {o:Obj} {kvs:List (List Zi×V)} {g:TG} {tb:TS} {D:Ends} {σ:St} {H:Hp} (Pv:Nat->St->Hp->Prop) (h0:Pv 0 σ H) (hl:∀i σ H,i≤kvs.length->Pv i σ H->H d=some (.frz o (.dT kvs)))
  (hs:∀i p T c σ H,kvs[i]?=some p->Pv i σ H->H T=none->H c=some (.tup (p.1.map kV))->g (.ref T) σ (Zb H T (.tup [.ref c,p.2])) fun σ2 H2=>tb { D with nx:=Pv (i+1),ct:=Pv (i+1),bk:=D.nx } σ2 H2) (hd:∀σ H,Pv kvs.length σ H->D.nx σ H) :
  ∃W:Nat->Nat->St->Hp->Prop,(∃m,W 0 m σ H)∧∀i m σ H,W i m σ H →
   ((JI d o kvs).stop i H∧D.nx σ H)∨((JI d o kvs).go i H∧∃N:St->Hp->Prop,(∀σ' H',N σ' H'->∃m',m'<m∧W (i+1) m' σ' H')∧∀x H',(JI d o kvs).yld i H x H'->g x σ H' fun σ2 H2=>tb { D with nx:=N,ct:=N,bk:=D.nx } σ2 H2):=by
 refine ⟨fun i m σ H=>m=kvs.length-i∧i≤kvs.length∧Pv i σ H,⟨kvs.length,by simp,QO _,h0⟩,?_⟩;rintro i m σ H ⟨rfl,hi,p⟩;have q:=hl i σ H hi p;by_cases hlt:i<kvs.length
 ·refine .inr ⟨⟨q,hlt⟩,Pv (i+1),fun σ' H' p'=>⟨kvs.length-(i+1),by omega,rfl,hlt,p'⟩,fun x H' y=>?_⟩;obtain ⟨T,c,r,nT,rfl,hr,hc,rfl⟩:=y;exact hs i r T c σ _ hr p nT hc
 ·have e:i=kvs.length:=by omega
  subst e;exact .inl ⟨⟨q,Qf _⟩,hd σ H p⟩
end L2
namespace L2
open PySem PySem.Spec PyProof.Rows
section
variable {X:Cx}
end
def Zk7 (K:W.Frag):R2:=fun x y H Q=>∃a b,∃zs:List Str,x=.ref a∧y=.ref b∧SqL K H a (zs.map V.str)∧SqL K H b (zs.map V.str)∧Q (.bl true) H
theorem Zog {X:Cx} (hu:X.A.units+64<cLine):Ye X (compareOp .Eq) (Zk7 X.K):=by
 intro pins s σ H x y v u Q I rx ry h;obtain ⟨a,b,zs,rfl,rfl,ha,hb,q⟩:=h;cases (show v=Value.ref a from rx);cases (show u=Value.ref b from ry);obtain ⟨its,rv,z,_⟩:=I.list ha;obtain ⟨its2,rv2,z2,_⟩:=I.list hb;have e1:=rv.length;have e2:=rv2.length;rw [Qd] at e1 e2
 have g:=Nl (A:=X.A) (e:=fun _=>true) z.isList z2.isList (by simp only [Qv,←e1,←e2]) (by omega) fun j h1 h2=>by
  have j1:j<zs.length:=by rw [Qv,←e1] at h1;exact h1
  have k:(zs.map V.str)[j]?=some (.str zs[j]):=by rw [Qu,Qz j1];rfl
  obtain ⟨u1,hu1,r1⟩:=rv.get k;obtain ⟨u2,hu2,r2⟩:=rv2.get k
  have w1:its.toArray[j]=u1:=by
   have:=(QF.mp hu1).2;simpa using this
  have w2:its2.toArray[j]=u2:=by
   have:=(QF.mp hu2).2;simpa using this
  rw [w1,w2];have:=Zbb (A:=X.A.in1) (s:=s) r1 r2 rfl rfl;rw [show Yq (.str zs[j]) (.str zs[j])=true by simp [Yq]] at this;exact this
 rw [show (List.range its.toArray.size).all (fun _=>true)=true by simp] at g;exact g _ _ _ _ ⟨.bl _,H,I,rfl,q⟩
theorem ZN {N P:List Str} {sc:Scope} (h1:sc.kind=.function:=by rfl) (h2:sc.isCoroutine=false:=by rfl) (h3:sc.isGenerator=false:=by rfl) (h4:N.Nodup:=by decide +kernel) (h5:N.take P.length=P:=by rfl)
  (h6:∀x∈P,sc.names.lookup x=some .local∨sc.names.lookup x=some .cell:=by decide +kernel) (h7:∀y∈sc.names,y.2≠.free:=by decide +kernel):FnScope N P sc:=⟨h1,h2,h3,h4,h5,h6,h7⟩
section
variable {X:Cx} {CX:YF} {k n:Nat} {x:Str} {st:Stmt} {ps:List Str} {sp:Sp} {p pos:Pos} {e:Expr} {es:List Expr} {t:TA} {E:St->XK}
theorem ZW {d:Df X.K X.mg x st ps} (F:FnOk X.prog X.w X.K X.mg X.base CX k d.a (Zz X.K d.a) ps sp) (hr:Room n X.A) (hx:Xw CX X E) (ha:PA X (e::es) t) (hn:k≤n:=by decide) (hg:Gl X x:=by rfl)
  (hdb:(x==("__debug__" : Str))=false:=by decide) (he:starEach (e::es) X.env=(false,eval e X.env)::starEach es X.env:=by rfl) (hpl:(backTo pos (starEach es X.env)).any (·.1)=false:=by rfl) :
  PE X (.Call (.Name x p) (e::es) [] pos) (ZgN sp [] E t):=Zik F (hr.mono hn) hg d.m d.F.kp d.b .nil hx ha hdb he hpl
end
noncomputable def JA (lo:Int) (c n:Nat):It:=⟨fun i _=>i<n,fun i H x H'=>H'=H∧x=.int (lo+i*c),fun i _=>n≤i⟩
theorem ZmZ {P:Program} {w:World} {K:PySem.W.Frag} {tg:Expr} (it:Addr) (lo:Int) (c n:Nat):Turn P w K tg (JA lo c n) [it] it (fun i h=>IsRangeIter h it (lo+(i:Nat)*(c:Int)) ((n:Int)-(i:Nat)) c) where
 mem:=by simp
 obj:=fun i h st b hb=>by
  have e:b=it:=by simpa using hb
  subst e
  exact ⟨_,st,fun v z=>by
   have z':Data.fields _=Data.cell v:=z;cases z'⟩
 keep:=fun i h h' st k=>k it (by simp) _ st
 item:=by
  intro X hP hw hK hc i pins s σ H E I hf st hg;subst hP hw hK;obtain ⟨f0,f1,f2,f3,f4,f5⟩:=hf it (by simp);have W:=Walks.range (prog:=X.prog) (w:=X.w) (I.ok.hd hc) it lo c n;refine W.item i s _ _ hg st fun v h' tk hv st' kk=>?_;obtain ⟨t,rfl⟩:=hv;have I1:Inv X pins σ H { s with heap:=h',toks:=tk }:=I.turned (fun b o hb e=>kk b o (by simpa using hb) e) f0 f1 f3 f4 f5;exact ⟨_,rfl,JF (s:={ s with heap:=h',toks:=tk }) (n:="range_iterator") st' rfl rfl (by decide) ⟨.int (lo+i*c),H,I1,⟨t,rfl⟩,⟨rfl,rfl⟩,st',fun b hb=>(hf b hb).1⟩⟩
 done:=by
  intro X hP hw hK hc i pins s σ H E I hf st hg;subst hP hw hK;obtain ⟨f0,f1,f2,f3,f4,f5⟩:=hf it (by simp);exact wpAny_pyNext_range_end (I.ok.hd hc) st (by have:n≤i:=hg;omega) fun h' eb=>⟨rfl,I.turned (t':=s.toks) (fun b o hb e=>eb b o hb e) f0 f1 f3 f4 f5⟩
 self:=fun _ _ _ _ _ st h=>wpAny_pyIter_rangeiter st h
section
variable {X:Cx} {tg:Expr}
def Zi8 (ta:TA):TI:=fun σ H R=>ta σ H fun vs H1=>∃(i j:Int) (c:Nat),vs=[.int i,.int j,.int c]∧(0≤i∧i≤1000∧0≤j∧j≤1000∧0<c∧c≤1000)∧∀n:Nat,(∀k:Nat,k<n->i+(k:Int)*(c:Int)<j)->n≤1000->R (JA i c n) H1
theorem Znb {i j:Int} {c:Nat} (h:0≤i∧i≤1000∧0≤j∧j≤1000∧0<c∧c≤1000):∃n:Nat,Builtin.Range.rangeSize i j c=(n:Int)∧(∀k:Nat,k<n->i+(k:Int)*(c:Int)<j)∧n≤1000:=by
 obtain ⟨h1,h2,h3,h4,h5,h6⟩:=h;have cp:(0:Int)<(c:Int):=by omega
 unfold Builtin.Range.rangeSize;rw [Qc cp];by_cases ij:i<j
 ·rw [Qc ij];have q0:0≤(j-i-1)/(c:Int):=Int.ediv_nonneg (by omega) (by omega);have q1:(j-i-1)/(c:Int)≤j-i-1:=Int.ediv_le_self _ (by omega);refine ⟨((j-i-1)/(c:Int)+1).toNat,by omega,fun k hk=>?_,by omega⟩;have a:(k:Int)≤(j-i-1)/(c:Int):=by omega
  have b:=Int.mul_le_of_le_ediv cp a;omega
 ·rw [Qa ij];exact ⟨0,rfl,fun k hk=>absurd hk (Nat.not_lt_zero _),by omega⟩
theorem Ziq {a b c:Expr} {ta:TA} {p pos:Pos} (hg:Gl X "range") (hm:X.mg "range"=none) (ha:PA X [a,b,c] ta) (hs:starEach [a,b,c] X.env=[(false,eval a X.env),(false,eval b X.env),(false,eval c X.env)]:=by rfl) (hs2:starEach [b,c] X.env=[(false,eval b X.env),(false,eval c X.env)]:=by rfl) :
  PI X tg (.Call (.Name "range" p) [a,b,c] [] pos) (Zi8 ta):=by
 intro pins s σ H R I h;refine Call_ (UD I hg hm boot_range (Gv (Zo (ha pos pins s σ H _ I h) fun us s1 ⟨vs,H1,I1,r1,q1⟩=>?_) (by rw [hs,hs2]) (by rw [hs2];rfl)));obtain ⟨i,j,c,e,hb,q⟩:=q1;subst e;obtain ⟨n,hn,h1,h2⟩:=Znb hb;have q:=q n h1 h2;cases r1 with
 |cons r rr =>
 cases rr with
 |cons r' rr =>
 cases rr with
 |cons r2 rr =>
 cases rr;obtain ⟨t,rfl⟩:=r;obtain ⟨t',rfl⟩:=r';obtain ⟨t2,rfl⟩:=r2
 have sm:Builtin.Range.small i j (c:Int)=true:=by
  unfold Builtin.Range.small;rw [hn];have cp:(c:Int) > 0:=by omega
  simp only [Builtin.Range.rangeFitsLong,Rk,RN,Gj,Rs,Qc cp];omega
 refine call_range_3 (by omega) ?_ (.inl (PyProof.noPylong_small (by omega)));refine wpAny_pyIter_range (IsRange.new ..) sm ?_;have I2:=I1.kept (h':=s1.heap.push { cls:=.type "range",data:=.fields #[.int i t,.int j t',.int (c:Int) t2] }) (t':=s1.toks) fun b o e=>Qj _ e;refine ⟨_,[_],_,_,H1,rfl,I2.kept (t':=s1.toks) fun b o e=>Qj _ e,ZmZ _ i c n,?_,fun b hb=>?_,q⟩
 ·show IsRangeIter _ _ (i+((0:Nat):Int)*(c:Int)) ((n:Int)-((0:Nat):Int)) c;rw [show i+((0:Nat):Int)*(c:Int)=i by simp,show (n:Int)-((0:Nat):Int)=(n:Int) by simp,←hn];exact Qs _ rfl
 ·obtain rfl:=QV.mp hb;exact I2.fpOk (Qf _) (I2.hok.fresh (Qf _))
theorem ZiR {lo:Int} {c n:Nat} {g:TG} {tb:TS} {D:Ends} {σ:St} {H:Hp} (Pv:Nat->St->Hp->Prop) (h0:Pv 0 σ H)
  (hs:∀i σ H,i<n->Pv i σ H->g (.int (lo+i*c)) σ H fun σ2 H2=>tb { D with nx:=Pv (i+1),ct:=Pv (i+1),bk:=D.nx } σ2 H2) (hd:∀σ H,Pv n σ H->D.nx σ H) :
  ∃W:Nat->Nat->St->Hp->Prop,(∃m,W 0 m σ H)∧∀i m σ H,W i m σ H →
   ((JA lo c n).stop i H∧D.nx σ H)∨((JA lo c n).go i H∧∃N:St->Hp->Prop,(∀σ' H',N σ' H'->∃m',m'<m∧W (i+1) m' σ' H')∧∀x H',(JA lo c n).yld i H x H'->g x σ H' fun σ2 H2=>tb { D with nx:=N,ct:=N,bk:=D.nx } σ2 H2):=by
 refine ⟨fun i m σ H=>m=n-i∧i≤n∧Pv i σ H,⟨n,by simp,QO _,h0⟩,?_⟩;rintro i m σ H ⟨rfl,hi,p⟩;by_cases hlt:i<n
 ·refine .inr ⟨hlt,Pv (i+1),fun σ' H' p'=>⟨n-(i+1),by omega,rfl,hlt,p'⟩,fun x H' y=>?_⟩;obtain ⟨e,y⟩:=y;subst e y;exact hs i σ _ hlt p
 ·have e:i=n:=by omega
  subst e;exact .inl ⟨Qf _,hd σ H p⟩
end
section
variable {X:Cx}
theorem Zl5 {pins:List (Addr×Obj)} {σ:St} {H:Hp} {s:Shared} {A:Around} {a b:Addr} {zs:List Str} (I:Inv X pins σ H s) (hu:A.units+8<cLine) (ha:SqL X.K H a (zs.map V.str)) (hb:SqL X.K H b (zs.map V.str)):SeqAt.EqAt A s (.ref a) (.ref b) true:=by
 by_cases ab:a=b
 ·subst ab;exact SeqAt.EqAt.same _
 refine SeqAt.EqAt.of_refs ab ?_;obtain ⟨its,rv,z,_⟩:=I.list ha;obtain ⟨its2,rv2,z2,_⟩:=I.list hb;have e1:=rv.length;have e2:=rv2.length;rw [Qd] at e1 e2
 have g:=Nl (A:=A) (e:=fun _=>true) z.isList z2.isList (by simp only [Qv,←e1,←e2]) (by omega) fun j h1 h2=>by
  have j1:j<zs.length:=by rw [Qv,←e1] at h1;exact h1
  have k:(zs.map V.str)[j]?=some (.str zs[j]):=by rw [Qu,Qz j1];rfl
  obtain ⟨u1,hu1,r1⟩:=rv.get k;obtain ⟨u2,hu2,r2⟩:=rv2.get k
  have w1:its.toArray[j]=u1:=by
   have:=(QF.mp hu1).2;simpa using this
  have w2:its2.toArray[j]=u2:=by
   have:=(QF.mp hu2).2;simpa using this
  rw [w1,w2];have:=Zbb (A:=A.in1) (s:=s) r1 r2 rfl rfl;rw [show Yq (.str zs[j]) (.str zs[j])=true by simp [Yq]] at this;exact this
 rw [show (List.range its.toArray.size).all (fun _=>true)=true by simp] at g;exact g
end
section
variable {X:Cx} {CX:YF} {k1 k2 k3:Nat} {f1 C1 f2 C2 f3 C3:Addr} {fd1 fd2 fd3:FuncData} {ps1 ps2 ps3:List Str} {sp1 sp2 sp3:Sp} {E:XS} {m:Str} {pos apos:Pos} {o e:Expr} {es:List Expr} {ta:TE} {t:TA}
@[irreducible] def V6 (C1 C2 C3:Addr) (m:Str) (sp1 sp2 sp3:Sp) (E:XS) (ta:TE) (t:TA):TE:=fun σ H Q=>ta σ H fun x H1=>∃a dx fs,x=.ref a∧fs.lookup m=none ∧
 ((H1 a=some (.ins C1 dx fs)∧t σ H1 fun vs H2=>sp1 (x::(vs++[])) H2 Q (E σ))∨(H1 a=some (.ins C2 dx fs)∧t σ H1 fun vs H2=>sp2 (x::(vs++[])) H2 Q (E σ))∨(H1 a=some (.ins C3 dx fs)∧t σ H1 fun vs H2=>sp3 (x::(vs++[])) H2 Q (E σ)))
theorem ZaU {pl:Sem Bool} (he:PE X o ta) (c1:Cls X.K C1) (hm1:Meth X.K C1 m f1) (F1:FnOk X.prog X.w X.K X.mg X.base CX k1 f1 fd1 ps1 sp1) (hr1:Room k1 X.A) (hb1:Binds X.K fd1 ps1 [])
  (c2:Cls X.K C2) (hm2:Meth X.K C2 m f2) (F2:FnOk X.prog X.w X.K X.mg X.base CX k2 f2 fd2 ps2 sp2) (hr2:Room k2 X.A) (hb2:Binds X.K fd2 ps2 [])
  (c3:Cls X.K C3) (hm3:Meth X.K C3 m f3) (F3:FnOk X.prog X.w X.K X.mg X.base CX k3 f3 fd3 ps3 sp3) (hr3:Room k3 X.A) (hb3:Binds X.K fd3 ps3 []) (hx:Xw CX X E) (ha:PA X (e::es) t)
  (hst:starEach (e::es) X.env=(false,eval e X.env)::starEach es X.env:=by rfl) (hpl:(backTo pos (starEach es X.env)).any (·.1)=false:=by rfl)
  (ht:eval (.Call (.Attribute o m apos) (e::es) [] pos) X.env=(do
   let ov ←eval o X.env
   standAt apos.atName
   let (f,first) ←holding [ov] (getMethod ov m pl)
   callWith pos f first (backTo pos (starEach (e::es) X.env)) (backToKw pos (keywordEach [] X.env))):=by rfl) :
  PE X (.Call (.Attribute o m apos) (e::es) [] pos) (V6 C1 C2 C3 m sp1 sp2 sp3 E ta t):=by
 unfold V6;intro pins s σ H Q I h;refine GJ (pl:=pl) (Zo (he pins s σ H _ I h) fun u s1 ⟨x,H1,I1,rx,a,dx,fs,ex,l,q⟩=>?_) ht;subst ex;obtain rfl:u=Value.ref a:=rx;rcases q with ⟨ea,q⟩|⟨ea,q⟩|⟨ea,q⟩
 ·refine WT I1 ea c1 hm1 l (RL (first:=[.ref a]) (h₀:=X.base) I.ok.mod.kin hm1.kp (Zo (ha pos pins s1 σ H1 _ I1 q) fun us s2 ⟨vs,H2,I2,r,q2⟩=>⟨I2.kIn,?_⟩) hst hpl);exact Wu (us:=.ref a::us) (vs:=.ref a::vs) F1 hr1 hb1 .nil hx I2 (.cons rfl r) q2
 ·refine WT I1 ea c2 hm2 l (RL (first:=[.ref a]) (h₀:=X.base) I.ok.mod.kin hm2.kp (Zo (ha pos pins s1 σ H1 _ I1 q) fun us s2 ⟨vs,H2,I2,r,q2⟩=>⟨I2.kIn,?_⟩) hst hpl);exact Wu (us:=.ref a::us) (vs:=.ref a::vs) F2 hr2 hb2 .nil hx I2 (.cons rfl r) q2
 ·refine WT I1 ea c3 hm3 l (RL (first:=[.ref a]) (h₀:=X.base) I.ok.mod.kin hm3.kp (Zo (ha pos pins s1 σ H1 _ I1 q) fun us s2 ⟨vs,H2,I2,r,q2⟩=>⟨I2.kIn,?_⟩) hst hpl);exact Wu (us:=.ref a::us) (vs:=.ref a::vs) F3 hr3 hb3 .nil hx I2 (.cons rfl r) q2
@[irreducible] def JS (C1 C2 C3:Addr) (m:Str) (sp1 sp2 sp3:Sp) (E:XS) (ta:TE):TE:=Zef C1 C2 C3 m sp1 sp2 sp3 E ta
theorem Zby {pl:Sem Bool} (he:PE X o ta) (c1:Cls X.K C1) (hm1:Meth X.K C1 m f1) (F1:FnOk X.prog X.w X.K X.mg X.base CX k1 f1 fd1 ps1 sp1) (hr1:Room k1 X.A) (hb1:Binds X.K fd1 ps1 [])
  (c2:Cls X.K C2) (hm2:Meth X.K C2 m f2) (F2:FnOk X.prog X.w X.K X.mg X.base CX k2 f2 fd2 ps2 sp2) (hr2:Room k2 X.A) (hb2:Binds X.K fd2 ps2 [])
  (c3:Cls X.K C3) (hm3:Meth X.K C3 m f3) (F3:FnOk X.prog X.w X.K X.mg X.base CX k3 f3 fd3 ps3 sp3) (hr3:Room k3 X.A) (hb3:Binds X.K fd3 ps3 []) (hx:Xw CX X E)
  (ht:eval (.Call (.Attribute o m apos) [] [] pos) X.env=(do
   let ov ←eval o X.env
   standAt apos.atName
   let (f,first) ←holding [ov] (getMethod ov m pl)
   callWith pos f first (backTo pos (starEach [] X.env)) (backToKw pos (keywordEach [] X.env))):=by rfl) :
  PE X (.Call (.Attribute o m apos) [] [] pos) (JS C1 C2 C3 m sp1 sp2 sp3 E ta):=by
 unfold JS;exact ZjD he c1 hm1 F1 hr1 hb1 c2 hm2 F2 hr2 hb2 c3 hm3 F3 hr3 hb3 hx ht
end
section
variable {prog:Program} {w:World} {A:Around} {E:Value->Shared->Prop} {s:Shared}
theorem Znd {l b:Addr} {k:Bool} (ne:l≠b) (h:∀Q:Value->Shared->Prop,Q (.bool k) s->wpAny (model prog w) A (richCompare .Eq (.ref l) (.ref b)) Q E s) {Q:Bool->Shared->Prop} (q:Q k s):wpAny (model prog w) A (eqBool (.ref l) (.ref b)) Q E s:=by
 unfold eqBool;exact Q1 (wpAny_ite_split (fun z=>absurd (Value.ref.inj (RS z)) ne) fun _=>Qb (h _ (Rx q)))
theorem Zgw {a:Addr} {k:Zi} {v:Value} (d:s.heap.DictOf (Z1 prog w) a [(k,v)]):∃o e ep,s.heap.get? a=some o∧o.data=.dict #[e] ep∧KeysOf (Z1 prog w) #[e]∧(Z1 prog w).is k e.key=true∧e.val=v∧e.hash=(Z1 prog w).hash k:=by
 obtain ⟨o,es,ep,ho,_,hd,hk,hp,_⟩:=d;obtain ⟨es⟩:=es;cases hp with
 |@cons e _ es _ h1 h2 h3 =>
  cases h3;obtain ⟨k',hk',hh⟩:=hk e (by simp);have ek:k'=k:=(Z1 prog w).inj _ _ _ hk' h1;exact ⟨o,e,ep,ho,hd,hk,h1,h2,by rw [hh,ek]⟩
theorem Zlu {nm:String} {a b:Addr} {k:Zi} {v y:Value} (ha:(a==sysModules)=false) (hb:(b==sysModules)=false) (da:s.heap.DictOf (Z1 prog w) a [(k,v)]) (db:s.heap.DictOf (Z1 prog w) b [(k,y)])
  (he:∀(E:Value->Shared->Prop) (Q:Bool->Shared->Prop),Q true s->wpAny (model prog w) A (eqBool v y) Q E s) {Q:Bool->Shared->Prop} (q:Q true s):wpAny (model prog w) A (Builtin.Dict.samePairs nm a b) Q E s:=by
 obtain ⟨oa,ea,pa,hoa,hda,hka,ia,va,ha2⟩:=Zgw da;obtain ⟨ob,eb,pb,hob,hdb,hkb,ib,vb,hb2⟩:=Zgw db;unfold Builtin.Dict.samePairs Builtin.Dict.showsAll;rw [Qa (by rw [ha];decide),Qa (by rw [hb];decide)];refine Qb (Qe (Qb (Qe (Qb (Rv hoa hda ?_)))));refine Qb (Rv hob hdb ?_);rw [Qa (by simp)];refine Qb (Gh hoa hda (Qb ?_));rw [Std.Legacy.Range.forIn_eq_forIn_range'];rw [show List.range' [:#[ea].size].start [:#[ea].size].size [:#[ea].size].step=[0] by simp [Std.Legacy.Range.size],Nc];refine Qb (Qb (Rv hoa hda ?_));rw [show #[ea][0]?=some ea from rfl];dsimp only;have fi:(#[eb].findIdx? fun e=>(Z1 prog w).is k e.key)=some 0:=by simp [ib]
 rw [ha2];refine Qb (Q1 (Qb (wpAny_dictFind_of ia hob hdb hkb ?_)));rw [fi];refine Qb (Rv hob hdb ?_);rw [show #[eb][0]?=some eb from rfl];refine Q1 ?_;rw [va,vb];refine he _ _ ?_;rw [Qa (by decide)];refine Qb (Gh hoa hda ?_);rw [Qa (by simp)];refine Qe ?_;dsimp only;rw [Nd];exact Qe (Qe q)
theorem ZhV {a b:Addr} {k:Zi} {v y:Value} (ha:(a==sysModules)=false) (hb:(b==sysModules)=false) (da:s.heap.DictOf (Z1 prog w) a [(k,v)]) (db:s.heap.DictOf (Z1 prog w) b [(k,y)]) (hu:A.units<cLine)
  (he:∀(E:Value->Shared->Prop) (Q:Bool->Shared->Prop),Q true s->wpAny (model prog w) A.in1 (eqBool v y) Q E s) {Q:Value->Shared->Prop} (q:Q (.bool false) s):wpAny (model prog w) A (compareOp .NotEq (.ref a) (.ref b)) Q E s:=by
 have ta:=da.typeIs;have tb:=db.typeIs;refine wpAny_richCompare_same_room (op:=.NotEq) ta tb PySem.F.slot_dict_ne (Rb PySem.F.slot_dict_ne ta PySem.F.entry_dict_ne ?_ (PySem.F.args_dict_ne_2 _ _)) hu;show wpAny _ _ (Builtin.Dict.dictSlotArgs "__ne__" ⟨[.ref a,.ref b],[]⟩ >>= _) _ _ s;unfold Builtin.Dict.dictSlotArgs;refine Qb (Qb (Nh ta (Qe (Qb (Nf (T:="dict") tb PySem.F.sub_dict_dict ?_)))));simp only [Bool.not_true,Nk,QQ];exact Qb (Qe (Qb (Qe (Qb (Zlu ha hb da db he (Qe ⟨_,rfl,(fun x=>nomatch x),by simpa using q⟩))))))
end
section
variable {A:Around} {s:Shared}
theorem ZeV {kvs':List (Zi×V)} {vb:List (Zi×Value)} (r':KV kvs' vb):∀{kvs:List (Zi×V)} {va:List (Zi×Value)},KV kvs va->(∀p∈kvs,∃y,ZI kvs' p.1=some y∧∀u v,RelV p.2 u->RelV y v->SeqAt.EqAt A s u v true)->W.KeqHits A s vb va true
 |[],_,.nil,_=>.nil
 |p::kvs,(k,u)::va,.cons ⟨e,r⟩ t,h=>by
  obtain ⟨y,hy,hq⟩:=h p (QA ..);have z:=r'.val p.1;rw [hy] at z;cases hv:valueAt vb p.1 with
  |none=>rw [hv] at z;cases z
  |some v =>
   rw [hv] at z;have e':p.1=k:=e;rw [e'] at hv;exact .hit (e:=true) (b:=true) hv (hq u v r z) (ZeV r' t fun x hx=>h x (Qy _ hx))
theorem Zg3 {l:List (Zi×V)} (n:(l.map (·.1)).Nodup) {p:Zi×V} (h:p∈l):ZI l p.1=some p.2:=by
 induction l with
 |nil=>cases h
 |cons q l ih =>
  rw [Qr,QH] at n;rcases Qh.mp h with rfl|h
  ·exact Xa rfl
  ·rw [XD fun e=>n.1 (by rw [e];exact Qg.mpr ⟨p,h,rfl⟩)];exact ih n.2 h
end
abbrev Ws:=List (Str×Addr×List Str)
noncomputable def Xg (rs:Ws):List (Zi×V):=rs.map fun r=>(.inr r.1,.ref r.2.1)
noncomputable def Xm (rs:Ws):List (Str×List Str):=rs.map fun r=>(r.1,r.2.2)
def TabAt (H:Hp) (x:V) (w:Str) (d:Addr) (rs:Ws):Prop:=∃t,x=.ref t∧H t=some (.dK [(.inr w,.ref d)])∧H d=some (.dK (Xg rs))∧(∀r∈rs,H r.2.1=some (.lst (r.2.2.map V.str)))∧(rs.map (·.1)).Nodup
theorem TabAt.mono {H H':Hp} {x:V} {w:Str} {d:Addr} {rs:Ws} (h:TabAt H x w d rs) (s:Same H H'):TabAt H' x w d rs:=by
 obtain ⟨t,e,h1,h2,h3,h4⟩:=h;exact ⟨t,e,s _ _ h1,s _ _ h2,fun r hr=>s _ _ (h3 r hr),h4⟩
theorem ZeS {rs:Ws} (n:(rs.map (·.1)).Nodup):((Xg rs).map (·.1)).Nodup:=by
 unfold Xg;rw [QG,show ((fun x:Zi×V=>x.1)∘fun r:Str×Addr×List Str=>((.inr r.1:Zi),V.ref r.2.1))=(fun x:Str=>(.inr x:Zi))∘(·.1) from rfl,←QG];exact n.map _ fun a b h e=>h (RH e)
theorem Zd8 {k:Zi} {a:Addr} {vs:List (Zi×Value)} (r:KV [(k,V.ref a)] vs):vs=[(k,.ref a)]:=by
 cases r with
 |cons h t =>
  cases t;obtain ⟨e,r⟩:=h;rename_i q;obtain ⟨k',v⟩:=q;cases (show k=k' from e);cases (show v=Value.ref a from r);rfl
theorem Zmq {X:Cx} (hu:X.A.units+64<cLine):Ye X (compareOp .NotEq) (fun x y H Q=>∃w d d' rs rs',TabAt H x w d rs∧TabAt H y w d' rs'∧Xm rs=Xm rs'∧Q (.bl false) H):=by
 intro pins s σ H x y v u Q I rx ry ⟨w,d,d',rs,rs',⟨t,ex,h1,h2,h3,h4⟩,⟨t',ey,g1,g2,g3,g4⟩,ec,q⟩;subst ex ey;cases (show v=Value.ref t from rx);cases (show u=Value.ref t' from ry);obtain ⟨_,ha,va,ra,da⟩:=WC I.hok h1;obtain ⟨_,hb,vb,rb,db⟩:=WC I.hok g1;rw [Zd8 ra] at da;rw [Zd8 rb] at db;refine ZhV ha hb da db (by omega) (fun E Q q=>?_) ⟨.bl _,H,I,rfl,q⟩;by_cases dd:d=d'
 ·subst dd;exact SeqAt.EqAt.same _ _ _ _ _ q
 obtain ⟨_,ha2,va2,ra2,da2⟩:=WC I.hok h2;obtain ⟨_,hb2,vb2,rb2,db2⟩:=WC I.hok g2
 have len:va2.length=vb2.length:=by
  have a:=ra2.length;have b:=rb2.length;have c:=Qq List.length ec;unfold Xg at a b;unfold Xm at c;rw [Qd] at a b c;rw [Qd] at c;omega
 refine Znd dd (fun Q q=>W.keq_eq (r:=true) ha2 hb2 da2 db2 (by show X.A.units+1<cLine;omega) (fun _=>ZeV rb2 ra2 fun p hp=>?_) (by rw [len];simpa using q)) q;obtain ⟨r,hr,rfl⟩:=Qg.mp hp;have m:(r.1,r.2.2)∈Xm rs':=by rw [←ec];exact Qg.mpr ⟨r,hr,rfl⟩
 obtain ⟨r',hr',er⟩:=Qg.mp m;have e1:r'.1=r.1:=Qq (·.1) er;have e2:r'.2.2=r.2.2:=Qq (·.2) er;have m':((.inr r.1:Zi),V.ref r'.2.1)∈Xg rs':=by rw [←e1];exact Qg.mpr ⟨r',hr',rfl⟩
 refine ⟨.ref r'.2.1,Zg3 (ZeS g4) (p:=(.inr r.1,.ref r'.2.1)) m',fun u v ru rv=>?_⟩;cases (show u=Value.ref _ from ru);cases (show v=Value.ref _ from rv);exact Zl5 I (by show X.A.units+1+1+8<cLine;omega) (.of (h3 r hr)) (.of (by rw [←e2];exact g3 r' hr'))
theorem Zlo {X:Cx} (hu:X.A.units+64<cLine):Ye X (compareOp .NotEq) (fun x y H Q=>∃a b,∃zs:List Str,x=.ref a∧y=.ref b∧SqL X.K H a (zs.map V.str)∧SqL X.K H b (zs.map V.str)∧Q (.bl false) H):=by
 intro pins s σ H x y v u Q I rx ry ⟨a,b,zs,ex,ey,ha,hb,q⟩;subst ex ey;cases (show v=Value.ref a from rx);cases (show u=Value.ref b from ry);obtain ⟨its,rv,z,_⟩:=I.list ha;obtain ⟨its2,rv2,z2,_⟩:=I.list hb;have e1:=rv.length;have e2:=rv2.length;rw [Qd] at e1 e2
 have g:=SeqAt.RcNeAt.lists (A:=X.A) (e:=fun _=>true) z.isList z2.isList (by simp only [Qv,←e1,←e2]) (by omega) fun j h1 h2=>by
  have j1:j<zs.length:=by rw [Qv,←e1] at h1;exact h1
  have k:(zs.map V.str)[j]?=some (.str zs[j]):=by rw [Qu,Qz j1];rfl
  obtain ⟨u1,hu1,r1⟩:=rv.get k;obtain ⟨u2,hu2,r2⟩:=rv2.get k;obtain ⟨_,w1⟩:=QF.mp hu1;obtain ⟨_,w2⟩:=QF.mp hu2;have g:=Zbb (A:=X.A.in1) (s:=s) r1 r2 rfl rfl;rw [show Yq (.str zs[j]) (.str zs[j])=true by simp [Yq]] at g;simpa [w1,w2] using g
 rw [show (List.range its.toArray.size).all (fun _=>true)=true by simp] at g;exact g _ _ _ _ ⟨.bl _,H,I,rfl,q⟩
end L2
set_option exponentiation.threshold 3000
seal L2.PSs L2.PS L2.PE L2.PT L2.PW L2.PA L2.PG L2.PI L2.PO
namespace K31
open PySem L2
noncomputable def ZM (i:Nat):Stmt:=PySem.Challenge.pw_heirbook_k31_pieces.main.body.getD i (.Pass ⟨0,0,0,0⟩)
noncomputable abbrev Zbu:Stmt:=ZM 22
noncomputable abbrev ZbY:Stmt:=ZM 25
noncomputable abbrev Zbp:Stmt:=ZM 26
noncomputable abbrev ZbZ:Stmt:=ZM 27
noncomputable abbrev ZdY:Stmt:=ZM 28
noncomputable abbrev ZbJ:Stmt:=ZM 29
noncomputable abbrev ZcU:Stmt:=ZM 31
noncomputable abbrev ZdO:Stmt:=ZM 32
noncomputable abbrev ZbK:Stmt:=ZM 33
noncomputable abbrev Zcu:Stmt:=ZM 34
noncomputable abbrev Zb6:Stmt:=ZM 35
noncomputable abbrev ZcH:Stmt:=ZM 36
noncomputable abbrev Zcg:Stmt:=ZM 37
noncomputable abbrev Zcy:Stmt:=ZM 12
noncomputable abbrev Zcf:Stmt:=ZM 41
noncomputable abbrev Zdq:Stmt:=Yz (ZM 42) 0
noncomputable abbrev ZdE:Stmt:=Yz (ZM 42) 8
noncomputable abbrev Zco:Stmt:=Yz (ZM 42) 11
noncomputable abbrev ZcP:Stmt:=Yz (ZM 42) 12
noncomputable abbrev ZdC:Stmt:=Yz (ZM 42) 4
noncomputable abbrev Zbw:Stmt:=Yz (ZM 42) 3
noncomputable abbrev ZdX:Stmt:=Yz (ZM 42) 2
noncomputable abbrev ZcL:Stmt:=Yz (ZM 42) 7
noncomputable abbrev ZcW:Stmt:=Yz (ZM 42) 5
noncomputable abbrev Zdd:Stmt:=Yz (ZM 42) 16
noncomputable abbrev Wo:Stmt:=Yz (ZM 42) 14
noncomputable abbrev Zcs:Stmt:=Yz (ZM 42) 6
noncomputable abbrev Zdt:Stmt:=Yz (ZM 42) 1
noncomputable abbrev ZcZ:Stmt:=Yz (ZM 42) 10
noncomputable abbrev ZbH:Stmt:=ZM 13
noncomputable abbrev Zcx:Stmt:=ZM 15
noncomputable abbrev ZdI:Stmt:=Yz (ZM 18) 0
noncomputable abbrev ZbV:Stmt:=Yz (ZM 18) 1
noncomputable abbrev Zca:Stmt:=Yz (ZM 18) 2
noncomputable abbrev Zdb:Stmt:=Yz (ZM 19) 0
noncomputable abbrev Zdi:Stmt:=Yz (ZM 19) 1
noncomputable abbrev ZbG:Stmt:=Yz (ZM 19) 2
noncomputable abbrev Zda:Stmt:=Yz (ZM 20) 0
noncomputable abbrev Zc1:Stmt:=Yz (ZM 20) 1
noncomputable abbrev Zb9:Stmt:=Yz (ZM 20) 2
noncomputable abbrev Zb4:Stmt:=Yz (ZM 17) 0
noncomputable abbrev Zdh:Stmt:=ZM 44
noncomputable abbrev Zc2:Stmt:=ZM 45
noncomputable abbrev Zcp:Stmt:=ZM 46
noncomputable abbrev ZcE:Stmt:=ZM 47
noncomputable abbrev ZcK:Stmt:=ZM 48
noncomputable abbrev ZcT:Stmt:=ZM 49
noncomputable abbrev Zcd:Stmt:=ZM 50
noncomputable abbrev ZdM:Stmt:=ZM 51
noncomputable abbrev Zb7:Stmt:=ZM 52
noncomputable abbrev Zdx:Stmt:=ZM 53
noncomputable abbrev Zbi:Stmt:=ZM 54
noncomputable abbrev Zbg:Stmt:=ZM 55
noncomputable abbrev ZbR:Stmt:=ZM 56
noncomputable abbrev Zde:Stmt:=ZM 57
set_option genInjectivity false
set_option genSizeOf false
structure Tx (K:W.Frag) (w:World) (mg:Str->Option Value) where
 c_Book:Addr
 c_Piece:Addr
 c_Letter:Addr
 c_Test:Addr
 c_Said:Addr
 J1:Df K mg "is_whole" Zbu ["thing"]
 YU:Df K mg "is_name" ZbY ["thing"]
 Xf:Df K mg "is_day" Zbp ["thing"]
 Wb:Df K mg "is_amount" ZbZ ["thing"]
 We:Df K mg "is_sort" ZdY ["thing"]
 X6:Df K mg "is_parent" ZbJ ["thing"]
 Zal:Df K mg "has_form" ZcU ["parts","checks"]
 ZaL:Df K mg "is_entry" ZdO ["thing"]
 Zay:Df K mg "is_tie" ZbK ["entry"]
 ZaS:Df K mg "named_in" Zcu ["entry"]
 Zbc:Df K mg "day_of" Zb6 ["entry"]
 Za6:Df K mg "as_told" ZcH ["entry"]
 Zao:Df K mg "key_of" Zcg ["entry"]
 ZaM:Df K mg "is_letter" Zcy ["thing"]
 Zap:Df K mg "pair_of" Zcf ["one","other"]
 Uk:Dm K c_Book "__init__" "Book.__init__" Zdq ["self"]
 Y7:Dm K c_Book "birth_of" "Book.birth_of" ZdE ["self","name"]
 Vh:Dm K c_Book "sort_of" "Book.sort_of" Zco ["self","name"]
 XV:Dm K c_Book "born_on" "Book.born_on" ZcP ["self","name"]
 Vi:Dm K c_Book "parent_fits" "Book.parent_fits" ZdC ["self","name","sort","day"]
 Uc:Dm K c_Book "fits" "Book.fits" Zbw ["self","entry"]
 Uu:Dm K c_Book "refuse" "Book.refuse" ZdX ["self","entry"]
 YV:Dm K c_Book "link" "Book.link" ZcL ["self","letter","begin","end"]
 Ud:Dm K c_Book "note_birth" "Book.note_birth" ZcW ["self","entry"]
 Vf:Dm K c_Book "step" "Book.step" Zdd ["self","letter","name"]
 a_Book_stands:Addr
 fd_Book_stands:FuncData
 dt_Book_stands:Addr
 F_Book_stands:FunD K "stands" "Book.stands" Wo a_Book_stands fd_Book_stands (.ref dt_Book_stands)
 b_Book_stands:Binds K fd_Book_stands ["self","one","other","day"] [.none]
 UJ:Dm K c_Book "note_tie" "Book.note_tie" Zcs ["self","entry"]
 VW:Dm K c_Book "put" "Book.put" Zdt ["self","entry"]
 UQ:Dm K c_Book "people" "Book.people" ZcZ ["self"]
 JY:Df K mg "is_test" ZbH ["thing"]
 Zbd:Df K mg "led_by_step" Zcx ["book","step","name"]
 VX:Dm K c_Letter "__init__" "Letter.__init__" ZdI ["self","letter"]
 Vd:Dm K c_Letter "leads_one" "Letter.leads_one" ZbV ["self","book","table","name"]
 Wj:Dm K c_Letter "text" "Letter.text" Zca ["self"]
 Ua:Dm K c_Test "__init__" "Test.__init__" Zdb ["self","sort"]
 W1:Dm K c_Test "leads_one" "Test.leads_one" Zdi ["self","book","table","name"]
 X9:Dm K c_Test "text" "Test.text" ZbG ["self"]
 V3:Dm K c_Said "__init__" "Said.__init__" Zda ["self","word"]
 WU:Dm K c_Said "leads_one" "Said.leads_one" Zc1 ["self","book","table","name"]
 Wd:Dm K c_Said "text" "Said.text" Zb9 ["self"]
 Yw:Dm K c_Piece "leads" "Piece.leads" Zb4 ["self","book","table","names"]
 Za1:Df K mg "_law_cell_at" Zdh ["_law_script","_law_k"]
 Zaj:Df K mg "_law_names" Zc2 ["_law_cell"]
 Zab:Df K mg "_law_day" Zcp ["_law_cell","_law_k","_law_way"]
 Zau:Df K mg "_law_birth" ZcE ["_law_people","_law_names_here","_law_cell","_law_day_here"]
 ZaV:Df K mg "_law_deed" ZcK ["_law_people","_law_known","_law_cell","_law_kind"]
 Zan:Df K mg "_law_entries" ZcT ["_law_script","_law_start","_law_most"]
 JW:Df K mg "_law_lead" Zcd ["_law_edges_here","_law_letter","_law_low","_law_high"]
 Zag:Df K mg "_law_edges" ZdM ["_law_entries_here"]
 ZaY:Df K mg "_law_alike" Zb7 ["_law_found","_law_due"]
 ZaC:Df K mg "_law_mixed" Zdx ["_law_cell","_law_k"]
 Zaq:Df K mg "_law_table" Zbi ["_law_word","_law_people","_law_cell"]
 Zae:Df K mg "_law_piece" Zbg ["_law_cell","_law_word"]
 Zaw:Df K mg "_law_stands" ZbR ["_law_book","_law_edges_here","_law_people","_law_cell","_law_word"]
 Vq:Df K mg "law" Zde ["_law_script"]
 c_HeirError:Addr
 m_HeirError:mg "HeirError"=some (.ref c_HeirError)
 c_NoEntry:Addr
 m_NoEntry:mg "NoEntry"=some (.ref c_NoEntry)
 c_Full:Addr
 m_Full:mg "Full"=some (.ref c_Full)
 c_NoPerson:Addr
 m_NoPerson:mg "NoPerson"=some (.ref c_NoPerson)
 c_Twice:Addr
 m_Twice:mg "Twice"=some (.ref c_Twice)
 c_NoFit:Addr
 m_NoFit:mg "NoFit"=some (.ref c_NoFit)
 c_NoWay:Addr
 m_NoWay:mg "NoWay"=some (.ref c_NoWay)
 x_NoEntry:W.excIn K c_NoEntry XG "ValueError.__new__"=true
 e_NoEntry:ExcK K c_NoEntry
 x_Full:W.excIn K c_Full XG "ValueError.__new__"=true
 e_Full:ExcK K c_Full
 x_NoPerson:W.excIn K c_NoPerson XG "ValueError.__new__"=true
 e_NoPerson:ExcK K c_NoPerson
 x_Twice:W.excIn K c_Twice XG "ValueError.__new__"=true
 e_Twice:ExcK K c_Twice
 x_NoFit:W.excIn K c_NoFit XG "ValueError.__new__"=true
 e_NoFit:ExcK K c_NoFit
 x_NoWay:W.excIn K c_NoWay XG "ValueError.__new__"=true
 e_NoWay:ExcK K c_NoWay
 m_Book:mg "Book"=some (.ref c_Book)
 cl_Book:Cls K c_Book
 mk_Book:Mk K c_Book Uk.a
 na_Book_kept:NoAttr K c_Book "kept"
 na_Book_births:NoAttr K c_Book "births"
 na_Book_links:NoAttr K c_Book "links"
 na_Book_ties:NoAttr K c_Book "ties"
 na_Book_sums:NoAttr K c_Book "sums"
 me_Book_stands:Meth K c_Book "stands" a_Book_stands
 m_Piece:mg "Piece"=some (.ref c_Piece)
 m_Letter:mg "Letter"=some (.ref c_Letter)
 cl_Letter:Cls K c_Letter
 mk_Letter:Mk K c_Letter VX.a
 na_Letter_letter:NoAttr K c_Letter "letter"
 m_Test:mg "Test"=some (.ref c_Test)
 cl_Test:Cls K c_Test
 mk_Test:Mk K c_Test Ua.a
 na_Test_wanted:NoAttr K c_Test "wanted"
 m_Said:mg "Said"=some (.ref c_Said)
 cl_Said:Cls K c_Said
 mk_Said:Mk K c_Said V3.a
 na_Said_word:NoAttr K c_Said "word"
 n_abs:mg "abs"=none
 n_all:mg "all"=none
 n_bool:mg "bool"=none
 n_int:mg "int"=none
 n_isinstance:mg "isinstance"=none
 n_len:mg "len"=none
 n_list:mg "list"=none
 n_max:mg "max"=none
 n_min:mg "min"=none
 n_range:mg "range"=none
 n_sorted:mg "sorted"=none
 n_str:mg "str"=none
 n_tuple:mg "tuple"=none
 n_zip:mg "zip"=none
 k_int_int:W.kitOne K (.type "int") (.type "int")=some true
 k_int_str:W.kitOne K (.type "int") (.type "str")=some false
 k_int_tuple:W.kitOne K (.type "int") (.type "tuple")=some false
 k_int_bool:W.kitOne K (.type "int") (.type "bool")=some false
 k_str_int:W.kitOne K (.type "str") (.type "int")=some false
 k_str_str:W.kitOne K (.type "str") (.type "str")=some true
 k_str_tuple:W.kitOne K (.type "str") (.type "tuple")=some false
 k_bool_int:W.kitOne K (.type "bool") (.type "int")=some true
 k_bool_str:W.kitOne K (.type "bool") (.type "str")=some false
 k_bool_tuple:W.kitOne K (.type "bool") (.type "tuple")=some false
 k_bool_bool:W.kitOne K (.type "bool") (.type "bool")=some true
 k_NoneType_int:W.kitOne K (.type "NoneType") (.type "int")=some false
 k_NoneType_str:W.kitOne K (.type "NoneType") (.type "str")=some false
 k_NoneType_tuple:W.kitOne K (.type "NoneType") (.type "tuple")=some false
 k_tuple_int:W.kitOne K (.type "tuple") (.type "int")=some false
 k_tuple_str:W.kitOne K (.type "tuple") (.type "str")=some false
 k_tuple_tuple:W.kitOne K (.type "tuple") (.type "tuple")=some true
 k_list_int:W.kitOne K (.type "list") (.type "int")=some false
 k_list_str:W.kitOne K (.type "list") (.type "str")=some false
 k_list_tuple:W.kitOne K (.type "list") (.type "tuple")=some false
 k_dict_int:W.kitOne K (.type "dict") (.type "int")=some false
 k_dict_str:W.kitOne K (.type "dict") (.type "str")=some false
 k_dict_tuple:W.kitOne K (.type "dict") (.type "tuple")=some false
 kl_list:W.kitOne K (.type "list") (.type "list")=some true
 kx_HeirError:W.kitOne K (.ref c_NoPerson) (.ref c_HeirError)=some true
 kx_ValueError:W.kitOne K (.ref c_NoPerson) (.type "ValueError")=some true
 lm_Letter:W.findIn K (.ref c_Letter) "leads"=some (some (.ref Yw.a))
 ci_Letter:W.findIn K (.ref c_Letter) "__class__"=some (some (.builtin "object.__class__"))
 mo_Letter:W.mroIn K c_Letter (.type "object")=some true
 kp_Letter:W.kitOne K (.ref c_Letter) (.ref c_Piece)=some true
 lm_Test:W.findIn K (.ref c_Test) "leads"=some (some (.ref Yw.a))
 ci_Test:W.findIn K (.ref c_Test) "__class__"=some (some (.builtin "object.__class__"))
 mo_Test:W.mroIn K c_Test (.type "object")=some true
 kp_Test:W.kitOne K (.ref c_Test) (.ref c_Piece)=some true
 lm_Said:W.findIn K (.ref c_Said) "leads"=some (some (.ref Yw.a))
 ci_Said:W.findIn K (.ref c_Said) "__class__"=some (some (.builtin "object.__class__"))
 mo_Said:W.mroIn K c_Said (.type "object")=some true
 kp_Said:W.kitOne K (.ref c_Said) (.ref c_Piece)=some true
 cg:W.specialIn K (.builtin "object.__class__") "__get__"=some (some (.builtin "getset_descriptor.__get__"))
 ct:W.takesIn K (.builtin "object.__class__")=some true
 aF:Addr
 m_FORMS:mg "FORMS"=some (.ref aF)
 tkL:Tok
 m_LETTERS:mg "LETTERS"=some (.str "abcdefghijklmnopqrstuvwxyz" tkL)
 p0:Addr
 p1:Addr
 p2:Addr
 p3:Addr
 p4:Addr
 p5:Addr
 g0:Addr
 g1:Addr
 g2:Addr
 g3:Addr
 g4:Addr
 g5:Addr
 sF:∀H,SqT K H aF [.ref p0,.ref p1,.ref p2,.ref p3,.ref p4,.ref p5]
 sp0:∀H,SqT K H p0 [.str "born",.ref g0]
 sp1:∀H,SqT K H p1 [.str "taken",.ref g1]
 sp2:∀H,SqT K H p2 [.str "union",.ref g2]
 sp3:∀H,SqT K H p3 [.str "parted",.ref g3]
 sp4:∀H,SqT K H p4 [.str "dead",.ref g4]
 sp5:∀H,SqT K H p5 [.str "given",.ref g5]
 sg0:∀H,SqT K H g0 [.ref YU.a,.ref We.a,.ref Xf.a,.ref X6.a,.ref X6.a]
 sg1:∀H,SqT K H g1 [.ref YU.a,.ref YU.a,.ref Xf.a]
 sg2:∀H,SqT K H g2 [.ref YU.a,.ref YU.a,.ref Xf.a]
 sg3:∀H,SqT K H g3 [.ref YU.a,.ref YU.a,.ref Xf.a]
 sg4:∀H,SqT K H g4 [.ref YU.a,.ref Xf.a]
 sg5:∀H,SqT K H g5 [.ref YU.a,.ref YU.a,.ref Wb.a,.ref Xf.a]
 a_STEP_LETTERS:Addr
 m_STEP_LETTERS:mg "STEP_LETTERS"=some (.ref a_STEP_LETTERS)
 Zf8:∀H,SqT K H a_STEP_LETTERS [.str "F",.str "M",.str "T",.str "f",.str "m",.str "t",.str "S"]
 a_TESTS:Addr
 m_TESTS:mg "TESTS"=some (.ref a_TESTS)
 Zgm:∀H,SqT K H a_TESTS [.str "he",.str "she"]
 t_MOST_ENTRIES:Tok
 m_MOST_ENTRIES:mg "MOST_ENTRIES"=some (.int 400 t_MOST_ENTRIES)
 t_MOST_PEOPLE:Tok
 m_MOST_PEOPLE:mg "MOST_PEOPLE"=some (.int 60 t_MOST_PEOPLE)
def U3 (K:W.Frag):Sp:=fun vs H Q _=>∃(a:Addr) (ns:List Int),vs=[.ref a]∧SqL K H a (ns.map V.int)∧ns.length≤63∧∀H',Q (.bl true) H'
inductive Vk where
 |int (i:Int)|str (x:Str)|bl|non|tup|lst|dct
noncomputable def Vk.ty:Vk->Value
 |.int _=>.type "int"
 |.str _=>.type "str"
 |.bl=>.type "bool"
 |.non=>.type "NoneType"
 |.tup=>.type "tuple"
 |.lst=>.type "list"
 |.dct=>.type "dict"
noncomputable def Vk.isI:Vk->Bool
 |.int _=>true
 |_=>false
noncomputable def Vk.isB:Vk->Bool
 |.bl=>true
 |_=>false
noncomputable def Vk.isS:Vk->Bool
 |.str _=>true
 |_=>false
noncomputable def Vk.isT:Vk->Bool
 |.tup=>true
 |_=>false
def Vw (K:W.Frag) (H:Hp) (v:V):Vk->Prop
 |.int i=>v=.int i
 |.str x=>v=.str x∧x.length≤100
 |k=>Kd K H v k.ty
section
variable {K:W.Frag} {H H':Hp} {v:V} {t:Vk}
theorem Vw.kd (h:Vw K H v t):Kd K H v t.ty:=by
 cases t with
 |int i=>cases (show v=.int i from h);exact .of (.int i)
 |str x=>cases (show v=.str x from h.1);exact .of (.str x)
 |_=>exact h
theorem Vw.mono (h:Vw K H v t) (e:Same H H'):Vw K H' v t:=by
 cases t with
 |int i=>exact h
 |str x=>exact h
 |_=>exact e.kd h
end
def Vws (K:W.Frag) (H:Hp):List V->List Vk->Prop
 |[],[]=>True
 |x::xs,t::ts=>Vw K H x t∧Vws K H xs ts
 |_,_=>False
section
variable {K:W.Frag} {H H':Hp}
theorem Vws.length:∀{xs:List V} {ts:List Vk},Vws K H xs ts->xs.length=ts.length
 |[],[],_=>rfl
 |x::xs,t::ts,h=>by rw [QJ,QJ,Vws.length h.2]
theorem Vws.mono (e:Same H H'):∀{xs:List V} {ts:List Vk},Vws K H xs ts->Vws K H' xs ts
 |[],[],_=>True.intro
 |x::xs,t::ts,h=>⟨h.1.mono e,Vws.mono e h.2⟩
theorem Vws.get:∀{xs:List V} {ts:List Vk} {i:Nat} {t:Vk},Vws K H xs ts->ts[i]?=some t->∃x,xs[i]?=some x∧Vw K H x t
 |[],[],_,_,_,e=>by simp at e
 |x::xs,t::ts,0,t',h,e=>by
  cases (show some t=some t' by simpa using e);exact ⟨x,rfl,h.1⟩
 |x::xs,t::ts,i+1,t',h,e=>by
  obtain ⟨y,e1,e2⟩:=Vws.get (i:=i) h.2 (by simpa using e);exact ⟨y,by simpa using e1,e2⟩
end
def Tv (K:W.Frag) (H:Hp) (v:V) (ts:List Vk):Prop:=∃a xs,v=.ref a∧SqT K H a xs∧Vws K H xs ts
noncomputable abbrev U6:Str:="abcdefghijklmnopqrstuvwxyz"
noncomputable def X3 (c:Nat):Bool:=!(Builtin.Str.occurrences U6 ⟨#[c]⟩ 0 U6.length 1).isEmpty
noncomputable def Wr:Vk->Bool
 |.str x=>decide (1≤x.length)&&decide (x.length≤8)&&x.cps.toList.all X3
 |_=>false
noncomputable def Zbr:Vk->Bool
 |.int i=>decide ((if i<0 then -i else i)≤10 ^ 18)
 |_=>false
noncomputable def Zbh:Vk->Bool
 |.int i=>decide (1≤i)&&decide (i≤10 ^ 18)
 |_=>false
noncomputable def Vo:Vk->Bool
 |.str x=>decide (x="he")||decide (x="she")||decide (x="")
 |_=>false
noncomputable def Jb (t:Vk):Bool:=Wr t||match t with
 |.str x=>decide (x="")
 |_=>false
inductive Chk where
 |name|sort|day|amount|parent
noncomputable def VH:Chk->Vk->Bool
 |.name=>Wr
 |.sort=>Vo
 |.day=>Zbr
 |.amount=>Zbh
 |.parent=>Jb
noncomputable def Wh:List (Str×List Chk):=[("born",[.name,.sort,.day,.parent,.parent]),("taken",[.name,.name,.day]),("union",[.name,.name,.day]),("parted",[.name,.name,.day]),("dead",[.name,.day]),("given",[.name,.name,.amount,.day])]
noncomputable def WM (w:Str):Option (List Chk):=(Wh.find? fun p=>decide (w=p.1)).map (·.2)
noncomputable def ZR:List Chk->List Vk->List Bool
 |c::cs,t::ts=>VH c t::ZR cs ts
 |_,_=>[]
noncomputable def XE (cs:List Chk) (ts:List Vk):Bool:=decide (ts.length=cs.length)&&(ZR cs ts).all id
noncomputable def W7:List Vk->Bool
 |.str w::ts=>((WM w).map fun cs=>XE cs ts).getD false
 |_=>false
theorem Jh (w:Str) (ts:List Vk):W7 (.str w::ts)=((WM w).map fun cs=>XE cs ts).getD false:=rfl
structure Nm (x:Str):Prop where
 lo:1≤x.length
 hi:x.length≤8
 all:x.cps.toList.all X3=true
theorem Nm.ok {x:Str} (h:Nm x):Wr (.str x)=true:=by
 show (decide (1≤x.length)&&decide (x.length≤8)&&x.cps.toList.all X3)=true;rw [Ql h.lo,Ql h.hi,h.all];rfl
section
variable {K:W.Frag} {mg:Str->Option Value}
noncomputable def Tx.ad (T:Tx K w mg):Chk->Addr
 |.name=>T.YU.a
 |.sort=>T.We.a
 |.day=>T.Xf.a
 |.amount=>T.Wb.a
 |.parent=>T.X6.a
theorem kI (T:Tx K w mg):∀t:Vk,W.kitOne K t.ty (.type "int")=some (t.isI||t.isB)
 |.int _=>T.k_int_int
 |.str _=>T.k_str_int
 |.bl=>T.k_bool_int
 |.non=>T.k_NoneType_int
 |.tup=>T.k_tuple_int
 |.lst=>T.k_list_int
 |.dct=>T.k_dict_int
theorem kS (T:Tx K w mg):∀t:Vk,W.kitOne K t.ty (.type "str")=some t.isS
 |.int _=>T.k_int_str
 |.str _=>T.k_str_str
 |.bl=>T.k_bool_str
 |.non=>T.k_NoneType_str
 |.tup=>T.k_tuple_str
 |.lst=>T.k_list_str
 |.dct=>T.k_dict_str
theorem kT (T:Tx K w mg):∀t:Vk,W.kitOne K t.ty (.type "tuple")=some t.isT
 |.int _=>T.k_int_tuple
 |.str _=>T.k_str_tuple
 |.bl=>T.k_bool_tuple
 |.non=>T.k_NoneType_tuple
 |.tup=>T.k_tuple_tuple
 |.lst=>T.k_list_tuple
 |.dct=>T.k_dict_tuple
end
theorem ZeN {X:Cx} {N:List Str} {sc:Scope} {L:List (Str×NameKind)} {ns:St} (hk:sc.kind=.function) (hn:∀x∈sc.names,x.2=.local->sc.names.lookup x.1=some .local) (hc:∀y∈sc.names,y.2≠.cell)
  (clos:closureFor sc X.env=pure []) (e:(relabel sc X.env).names=L) (hL:∀y∈L,y.2≠.cell∧y.2≠.free) (hl:ns.length=N.length) (hs:∀o∈ns,o=none):CompSc X N sc [] (fun _=>ns):=by
 have no:∀(x:Str),¬((relabel sc X.env).names.lookup x=some .cell∨(relabel sc X.env).names.lookup x=some .free):=fun x h=>by
  rw [e] at h
  have lk:∀(M:List (Str×NameKind)) (k:NameKind),M.lookup x=some k->∃y∈M,y.2=k:=fun M k=>by
   induction M with
   |nil=>intro h;cases h
   |cons p r ih =>
    intro h;rw [List.lookup_cons] at h;split at h
    ·exact ⟨p,QA ..,Qt h⟩
    ·obtain ⟨y,hy,q⟩:=ih h;exact ⟨y,Qy _ hy,q⟩
  rcases h with h|h
  ·obtain ⟨y,hy,q⟩:=lk _ _ h;exact (hL y hy).1 q
  ·obtain ⟨y,hy,q⟩:=lk _ _ h;exact (hL y hy).2 q
 refine ⟨hk,hn,hc,clos,(fun x c (h:([]:List (Str×Addr)).lookup x=some c)=>by cases h),fun x h=>absurd h (no x),fun _=>hl,fun σ i x v e1 e2=>?_⟩;have:=hs _ (QP e2);cases this
theorem Jj:(["sign"]:List Str).Nodup:=by decide +kernel
theorem nd2:(["check","part"]:List Str).Nodup:=by decide +kernel
theorem ZlN (z:Str):XW (.str z) [.str "he",.str "she",.str ""]=Vo (.str z):=by
 unfold XW Vo;rw [Rj];simp only [Rc,List.any_nil,Yq,Bool.or_false,RN,Rs,Gj];constructor
 ·rintro (h|h|h)
  ·exact .inl (.inl h.symm)
  ·exact .inl (.inr h.symm)
  ·exact .inr h.symm
 ·rintro ((h|h)|h)
  ·exact .inl h.symm
  ·exact .inr (.inl h.symm)
  ·exact .inr (.inr h.symm)
theorem ZbS (x:Str):Wr (.str x)=(decide (1≤x.length)&&decide (x.length≤8)&&x.cps.toList.all X3):=rfl
theorem Ziz (i:Int):Zbh (.int i)=(decide (1≤i)&&decide (i≤10 ^ 18)):=rfl
theorem ZhD:∀{cs:List Chk} {ts:List Vk},ts.length=cs.length->(ZR cs ts).length=cs.length
 |[],[],_=>rfl
 |c::cs,t::ts,h=>by
  show (ZR cs ts).length+1=cs.length+1;rw [ZhD (by simpa using h)]
theorem ZoD:∀{cs:List Chk} {ts:List Vk} {i:Nat} {y:V},ts.length=cs.length->((ZR cs ts).map V.bl)[i]?=some y->∃c t,cs[i]?=some c∧ts[i]?=some t∧y=.bl (VH c t):=by
 intro cs
 induction cs with
 |nil =>
  intro ts i y h e;cases ts with
  |nil=>simp [ZR] at e
  |cons t ts=>simp at h
 |cons c cs ih =>
  intro ts i y h e;cases ts with
  |nil=>simp at h
  |cons t ts =>
   cases i with
   |zero=>exact ⟨c,t,rfl,rfl,by simpa [ZR] using e.symm⟩
   |succ i =>
    obtain ⟨c',t',e1,e2,e3⟩:=ih (ts:=ts) (i:=i) (y:=y) (by simpa using h) (by simpa [ZR] using e);exact ⟨c',t',by simpa using e1,by simpa using e2,e3⟩
theorem Ze2 {α:Type} {f:α->Bool}:∀{l:List α} {i:Nat} {p:α},l[i]?=some p->(∀j,j<i->∀p',l[j]?=some p'->f p'=false)->f p=true->l.find? f=some p
 |x::l,0,p,e,_,h=>by
  have e':x=p:=by simpa using e
  subst e';rw [Rt,h]
 |x::l,i+1,p,e,b,h=>by
  rw [Rt,b 0 (by omega) x rfl];exact Ze2 (l:=l) (i:=i) (by simpa using e) (fun j hj p' e'=>b (j+1) (by omega) p' (by simpa using e')) h
theorem ZhP {w:Str} {i:Nat} {p:Str×List Chk} (e:Wh[i]?=some p) (b:∀j,j<i->∀p',Wh[j]?=some p'->w≠p'.1) (h:w=p.1):WM w=some p.2:=by
 unfold WM;rw [Ze2 e (fun j hj p' e'=>Qk (b j hj p' e')) (Ql h)];rfl
theorem ZiC {w:Str} (b:∀j,j<6->∀p',Wh[j]?=some p'->w≠p'.1):WM w=none:=by
 unfold WM;rw [GN.mpr]
 ·rfl
 ·intro p hp;obtain ⟨j,hj,e⟩:=RZ hp;have:=b j hj p (by rw [←e];exact Qz hj);simpa using this
theorem Zl2:∀p∈Wh,p.2.length≤10:=by decide +kernel
theorem ZmR {K:W.Frag} {mg:Str->Option Value} (T:Tx K w mg) {i:Nat} {p:Str×List Chk} (e:Wh[i]?=some p) :
  ∃P G,[V.ref T.p0,.ref T.p1,.ref T.p2,.ref T.p3,.ref T.p4,.ref T.p5][i]?=some (.ref P)∧(∀H,SqT K H P [.str p.1,.ref G])∧∀H,SqT K H G (p.2.map fun c=>.ref (T.ad c)):=by
 match i,e with
 |0,e=>cases e;exact ⟨_,_,rfl,T.sp0,T.sg0⟩
 |1,e=>cases e;exact ⟨_,_,rfl,T.sp1,T.sg1⟩
 |2,e=>cases e;exact ⟨_,_,rfl,T.sp2,T.sg2⟩
 |3,e=>cases e;exact ⟨_,_,rfl,T.sp3,T.sg3⟩
 |4,e=>cases e;exact ⟨_,_,rfl,T.sp4,T.sg4⟩
 |5,e=>cases e;exact ⟨_,_,rfl,T.sp5,T.sg5⟩
 |n+6,e=>cases e
theorem ZnC (x:V) (xs:List V):XR (x::xs) (some 1) none=xs:=by
 unfold XR
 have e:HT.sIx (x::xs).length 0 (some 1)=1:=by
  show HT.sIx (x::xs).length 0 (some ((1:Nat):Int))=1;rw [HT.sIx_nat,QJ];omega
 rw [e];show (xs.take ((x::xs).length-1))=xs;simp
theorem few {n:Nat} (h:Nat.ble n 1000=true):n≤sizeLine:=QY (ZD (QC h))
theorem Yd {b:Bool} {A B:Prop} (e:b=true) (h:A):if b=true then A else B:=by rw [Qc e];exact h
theorem Zt {b:Bool} {A B:Prop} (e:b=false) (h:B):if b=true then A else B:=by rw [Qa (by rw [e];decide)];exact h
theorem Yy {b:Bool} {A B:Prop} (h1:b=true->A) (h2:b=false->B):if b=true then A else B:=by
 cases b with
 |true=>exact ZZ (h1 rfl)
 |false=>exact ZT (h2 rfl)
section
variable {K:W.Frag} {H:Hp} {xs ys:List V} {ts:List Vk} {a b:Addr} {Q:VK}
theorem UV {lo hi:Option Int} (ha:SqT K H a xs) (hn:¬(HT.sIx xs.length 0 lo=0∧HT.sIx xs.length xs.length hi=xs.length)) (h:∀H' p,Same H H'->SqT K H' p (XR xs lo hi)->Q (.ref p) H'):ZgT K (.ref a) lo hi H Q :=
 ⟨a,xs,rfl,ha,hn,fun p np=>h _ p (Zl np) (.of Zg)⟩
end
theorem Xi {x y:Str}:decide (V.str x=V.str y)=decide (x=y):=by
 rw [Rj];simp
inductive Ent where
 |born (n s:Str) (d:Int) (f m:Str)
 |taken (c t:Str) (d:Int)
 |union (a b:Str) (d:Int)
 |parted (a b:Str) (d:Int)
 |dead (n:Str) (d:Int)
 |given (g t:Str) (a d:Int)
noncomputable def Ent.row:Ent->List Zi
 |.born n s d f m=>[.inr "born",.inr n,.inr s,.inl d,.inr f,.inr m]
 |.taken c t d=>[.inr "taken",.inr c,.inr t,.inl d]
 |.union a b d=>[.inr "union",.inr a,.inr b,.inl d]
 |.parted a b d=>[.inr "parted",.inr a,.inr b,.inl d]
 |.dead n d=>[.inr "dead",.inr n,.inl d]
 |.given g t a d=>[.inr "given",.inr g,.inr t,.inl a,.inl d]
noncomputable def Ent.tie:Ent->Bool
 |.union ..=>true
 |.parted ..=>true
 |_=>false
noncomputable def Ent.named:Ent->List Str
 |.born _ _ _ f m=>[f,m].filter fun x:Str=>decide (x≠"")
 |.taken c t _=>[c,t]
 |.union a b _=>[a,b]
 |.parted a b _=>[a,b]
 |.dead n _=>[n]
 |.given g t _ _=>[g,t]
noncomputable def Ent.day:Ent->Int
 |.born _ _ d _ _=>d
 |.taken _ _ d=>d
 |.union _ _ d=>d
 |.parted _ _ d=>d
 |.dead _ d=>d
 |.given _ _ _ d=>d
def EntAt (K:W.Frag) (H:Hp) (v:V) (e:Ent):Prop:=∃a,v=.ref a∧SqT K H a (e.row.map kV)
theorem EntAt.mono {K:W.Frag} {H H':Hp} {v:V} {e:Ent} (h:EntAt K H v e) (s:Same H H'):EntAt K H' v e:=by
 obtain ⟨a,rfl,q⟩:=h;exact ⟨a,rfl,s.sqt q⟩
theorem Zf {r:List V} {j:Nat} {x:V} (h:r[j]?=some x):Yu r (j:Int)=some x:=XI h
noncomputable def Uo (x:Str):Option V:=if x="" then none else some (.str x)
theorem Zfa:∀l:List Str,(l.map Uo).filterMap id=(l.filter fun x:Str=>decide (x≠"")).map V.str
 |[]=>rfl
 |x::r=>by
  have ih:=Zfa r;by_cases h:x=""
  ·subst h;simp only [Qr,QW,R0];simpa [Uo] using ih
  ·simp only [Qr,QW,R0];simpa [Uo,h] using ih
theorem ZQ {H H1:Hp} {D:Addr} (s:Same H H1) (n:H1 D=none):H D=none:=by
 cases e:H D with
 |none=>rfl
 |some o=>rw [s D o e] at n;cases n
noncomputable def Ent.key:Ent->List Zi
 |.born n _ _ _ _=>[.inr "born",.inr n]
 |.taken c t _=>[.inr "taken",.inr c,.inr t]
 |.union a b d=>[.inr "tie",.inr a,.inr b,.inl d]
 |.parted a b d=>[.inr "tie",.inr a,.inr b,.inl d]
 |.dead n _=>[.inr "dead",.inr n]
 |.given g t _ d=>[.inr "given",.inr g,.inr t,.inl d]
noncomputable def Ent.bornName:Ent->Option Str
 |.born n _ _ _ _=>some n
 |_=>none
structure Bk where
 kept:List (Ent×Addr)
 links:List ((Str×Str)×Addr×List Str)
 ties:List ((Str×Str)×Addr×List (Int×Str))
 sums:List ((Str×Str)×Int)
noncomputable def Zr (p:Str×Str):List Zi:=[.inr p.1,.inr p.2]
noncomputable def Bk.keptD (B:Bk):List (List Zi×V):=B.kept.map fun p=>(p.1.key,.ref p.2)
noncomputable def Bk.bornD (l:List (Ent×Addr)):List (Zi×V):=l.filterMap fun p=>p.1.bornName.map fun n=>(.inr n,.ref p.2)
noncomputable def Bk.linksD (B:Bk):List (List Zi×V):=B.links.map fun q=>(Zr q.1,.ref q.2.1)
noncomputable def Bk.tiesD (B:Bk):List (List Zi×V):=B.ties.map fun q=>(Zr q.1,.ref q.2.1)
noncomputable def Bk.sumsD (B:Bk):List (List Zi×V):=B.sums.map fun q=>(Zr q.1,.int q.2)
noncomputable def Wt (k bi li ti su:Addr):List (Str×V):=[("kept",.ref k),("births",.ref bi),("links",.ref li),("ties",.ref ti),("sums",.ref su)]
structure BkAt (K:W.Frag) (C:Addr) (H:Hp) (b dx k bi li ti su:Addr) (B:Bk):Prop where
 ob:H b=some (.ins C dx (Wt k bi li ti su))
 ap:[k,li,ti,su].Nodup
 at':(bi::B.ties.map (·.2.1)).Nodup
 ke:H k=some (.dT B.keptD)
 bi:H bi=some (.dK (Bk.bornD B.kept))
 li:H li=some (.dT B.linksD)
 ti:H ti=some (.dT B.tiesD)
 su:H su=some (.dT B.sumsD)
 en:∀p∈B.kept,SqT K H p.2 (p.1.row.map kV)
 ll:∀q∈B.links,H q.2.1=some (.lst (q.2.2.map V.str))
 tt:∀q∈B.ties,H q.2.1=some (.dK (q.2.2.map fun r=>(.inl r.1,.str r.2)))
theorem BkAt.mono {K:W.Frag} {C:Addr} {H H':Hp} {b dx k bi li ti su:Addr} {B:Bk} (h:BkAt K C H b dx k bi li ti su B) (s:Same H H'):BkAt K C H' b dx k bi li ti su B :=
 ⟨s _ _ h.ob,h.ap,h.at',s _ _ h.ke,s _ _ h.bi,s _ _ h.li,s _ _ h.ti,s _ _ h.su,fun p hp=>s.sqt (h.en p hp),fun q hq=>s _ _ (h.ll q hq),fun q hq=>s _ _ (h.tt q hq)⟩
def BkHas (K:W.Frag) (C:Addr) (H:Hp) (v:V) (B:Bk):Prop:=∃b dx k bi li ti su,v=.ref b∧BkAt K C H b dx k bi li ti su B
theorem BkHas.mono {K:W.Frag} {C:Addr} {H H':Hp} {v:V} {B:Bk} (h:BkHas K C H v B) (s:Same H H'):BkHas K C H' v B:=by
 obtain ⟨b,dx,k,bi,li,ti,su,e,h⟩:=h;exact ⟨b,dx,k,bi,li,ti,su,e,h.mono s⟩
noncomputable def Z5 (n:Str):List (Ent×Addr)->Option (Ent×Addr)
 |[]=>none
 |p::r=>if p.1.bornName=some n then some p else Z5 n r
theorem ZaK {n:Str}:∀{l:List (Ent×Addr)} {p:Ent×Addr},Z5 n l=some p->p∈l∧p.1.bornName=some n
 |[],_,h=>by cases h
 |q::r,p,h=>by
  unfold Z5 at h;split at h
  ·cases h;exact ⟨QA ..,by assumption⟩
  ·obtain ⟨h1,h2⟩:=ZaK h;exact ⟨Qy _ h1,h2⟩
theorem ZdR (n:Str):∀l:List (Ent×Addr),ZI (Bk.bornD l) (.inr n:Zi)=(Z5 n l).map fun p=>.ref p.2
 |[]=>rfl
 |p::r=>by
  have ih:=ZdR n r;unfold Bk.bornD Z5;rw [QW];cases h:p.1.bornName with
  |none =>
   simp only [Option.map_none];rw [Qa (by simp)];exact ih
  |some x =>
   simp only [GT];by_cases e:x=n
   ·subst e;rw [Xa rfl,Qc rfl];rfl
   ·rw [XD (fun q=>e (RH q)),Qa (fun q=>e (Qt q))];exact ih
theorem ZdW {k bi li ti su:Addr}:(Wt k bi li ti su).lookup ("kept" : Str)=some (.ref k):=rfl
theorem Jf {k bi li ti su:Addr}:(Wt k bi li ti su).lookup ("births" : Str)=some (.ref bi):=rfl
theorem JV {k bi li ti su:Addr}:(Wt k bi li ti su).lookup ("links" : Str)=some (.ref li):=rfl
theorem Zf1 {k bi li ti su:Addr}:(Wt k bi li ti su).lookup ("ties" : Str)=some (.ref ti):=rfl
theorem Zgr {k bi li ti su:Addr}:(Wt k bi li ti su).lookup ("sums" : Str)=some (.ref su):=rfl
noncomputable def Zar (B:Bk) (n:Str):Option (Str×Int):=match Z5 n B.kept with
 |some (.born _ s d _ _,_)=>some (s,d)
 |_=>none
noncomputable def XX (B:Bk) (n:Str):Str:=((Zar B n).map (·.1)).getD ""
noncomputable def Yl (B:Bk) (n:Str):Int:=((Zar B n).map (·.2)).getD 0
theorem Zaf {B:Bk} {n n' s f m:Str} {d:Int} {p:Ent×Addr} (h:Z5 n B.kept=some p) (e:p.1=.born n' s d f m):XX B n=s:=by
 obtain ⟨e',a⟩:=p;cases e;unfold XX Zar;rw [h];rfl
theorem JG {B:Bk} {n n' s f m:Str} {d:Int} {p:Ent×Addr} (h:Z5 n B.kept=some p) (e:p.1=.born n' s d f m):Yl B n=d:=by
 obtain ⟨e',a⟩:=p;cases e;unfold Yl Zar;rw [h];rfl
noncomputable def Xy (B:Bk) (n s:Str) (d:Int):Bool:=decide (n="")||(decide (XX B n=s)&&decide (Yl B n<d))
def Known (B:Bk) (n:Str):Prop:=Z5 n B.kept≠none
noncomputable def X2 (B:Bk) (e:Ent):Bool:=match e with
 |.born _ _ d f m=>Xy B f "he" d&&Xy B m "she" d
 |.taken c t d=>decide (c≠t)&&decide (Yl B t<Yl B c)&&e.named.all fun n=>decide (Yl B n≤d)
 |.dead n d=>decide (Yl B n≤d)
 |.union a b d=>decide (a≠b)&&e.named.all fun n=>decide (Yl B n≤d)
 |.parted a b d=>decide (a≠b)&&e.named.all fun n=>decide (Yl B n≤d)
 |.given a b _ d=>decide (a≠b)&&e.named.all fun n=>decide (Yl B n≤d)
theorem YI {a b:TS} {D:Ends} {σ:St} {H:Hp} (J:St->Hp->Prop) (h1:∀nx,(∀σ H,J σ H->nx σ H)->a { D with nx:=nx } σ H) (h2:∀σ H,J σ H->b D σ H):Zdc a b D σ H:=h1 (b D) h2
noncomputable def Ent.isBorn:Ent->Bool
 |.born ..=>true
 |_=>false
noncomputable def Ent.same:Ent->Bool
 |.taken c t _=>decide (c=t)
 |.union a b _=>decide (a=b)
 |.parted a b _=>decide (a=b)
 |.given a b _ _=>decide (a=b)
 |_=>false
noncomputable def Ent.early (B:Bk):Ent->Bool
 |.taken c t _=>decide (Yl B c≤Yl B t)
 |_=>false
theorem JU {B:Bk} {e:Ent} (h:e.isBorn=false):X2 B e=(!e.same&&!e.early B&&e.named.all fun n=>decide (Yl B n≤e.day)):=by
 cases e with
 |born=>cases h
 |taken c t d =>
  unfold X2 Ent.same Ent.early;have h1:decide (c≠t)=!decide (c=t):=by simp
  have h2:decide (Yl B t<Yl B c)=!decide (Yl B c≤Yl B t):=by
   rw [Rj];simp
  simp only [h1,h2];rfl
 |dead n d =>
  simp [X2,Ent.same,Ent.early,Ent.named,Ent.day];rfl
 |_ =>
  simp [X2,Ent.same,Ent.early,Ent.day];rfl
theorem ZmU {k bi li ti su:Addr}:ZE "sums" (.ref su) (ZE "ties" (.ref ti) (ZE "links" (.ref li) (ZE "births" (.ref bi) (ZE "kept" (.ref k) []))))=Wt k bi li ti su:=by
 rfl
noncomputable def VS:Bk:=⟨[],[],[],[]⟩
theorem UT {H:Hp} {b dx C p:Addr} {fs:List (Str×V)} (f:Str) (o:HO) (h:H b=some (.ins C dx fs)) (n:H p=none) :
  (Zb (Zb H p o) b (.ins C dx (ZE f (.ref p) fs))) b=some (.ins C dx (ZE f (.ref p) fs))∧(Zb (Zb H p o) b (.ins C dx (ZE f (.ref p) fs))) p=some o ∧
  (∀c u,H c=some u->c≠b->(Zb (Zb H p o) b (.ins C dx (ZE f (.ref p) fs))) c=some u)∧∀c,(Zb (Zb H p o) b (.ins C dx (ZE f (.ref p) fs))) c=none->H c=none:=by
 have pb:p≠b:=fun e=>by subst e;rw [h] at n;cases n
 refine ⟨Zg,(Zh pb).trans Zg,fun c u e cb=>(Zh cb).trans ((Zh (ZU e n)).trans e),fun c e=>?_⟩;by_cases cb:c=b
 ·subst cb;rw [Zg] at e;cases e
 rw [Zh cb] at e;by_cases cp:c=p
 ·subst cp;exact n
 rw [Zh cp] at e;exact e
noncomputable def ZJ (c:Str×Str):List ((Str×Str)×Addr×List Str)->Option (Addr×List Str)
 |[]=>none
 |q::r=>if q.1=c then some q.2 else ZJ c r
theorem WL {a b:Str×Str} (h:Zr a=Zr b):a=b:=by
 unfold Zr at h;simp at h;exact RF h.1 h.2
theorem VB (c:Str×Str):∀l:List ((Str×Str)×Addr×List Str),ZI (l.map fun q=>(Zr q.1,V.ref q.2.1)) (Zr c)=(ZJ c l).map fun q=>.ref q.1
 |[]=>rfl
 |q::r=>by
  have ih:=VB c r;unfold ZJ;rw [Qr];by_cases e:q.1=c
  ·subst e;rw [Xa rfl,Qc rfl];rfl
  ·rw [XD (fun z=>e (WL z)),Qa e];exact ih
theorem Zcb {c:Str×Str}:∀{l:List ((Str×Str)×Addr×List Str)} {x:Addr×List Str},ZJ c l=some x->∃q∈l,q.2=x
 |[],_,h=>by cases h
 |q::r,x,h=>by
  unfold ZJ at h;split at h
  ·cases h;exact ⟨q,QA ..,rfl⟩
  ·obtain ⟨z,hz,e⟩:=Zcb h;exact ⟨z,Qy _ hz,e⟩
noncomputable def Yv (B:Bk) (l n:Str):List Str:=((ZJ (l,n) B.links).map (·.2)).getD []
noncomputable def Xn:List Str:=["F","M","T","f","m","t","S"]
noncomputable def Ul (x:Str):Bool:=decide (x∈Xn)
theorem ZeX (x:Str):∀l:List Str,XW (.str x) (l.map V.str)=decide (x∈l):=by
 intro l;unfold XW
 induction l with
 |nil=>rfl
 |cons y r ih =>
  rw [Qr,Rc,ih];by_cases h:x=y
  ·subst h;simp [Yq]
  ·simp [Yq,h,QX h]
theorem U5 {a b:Str} (h1:ZP a b=false) (h2:ZP b a=false):a=b:=by
 unfold ZP at h1 h2
 have e:a.cps.toList=b.cps.toList:=by
  have l1:=Rg h1;have l2:=Rg h2;exact List.le_antisymm (List.not_lt.mp l2) (List.not_lt.mp l1)
 obtain ⟨a⟩:=a;obtain ⟨b⟩:=b;have e2:a=b:=Array.toList_inj.mp e;rw [e2]
noncomputable def Zd (a b:Str):Str×Str:=if ZP b a=true then (b,a) else (a,b)
theorem Ze5 {a b:Str} {zs:List Str} (hp:zs.Perm [a,b]) (hs:PyProof.Rows.sortedS zs=true):zs=[(Zd a b).1,(Zd a b).2]:=by
 have hl:=hp.length_eq
 match zs,hl with
 |[x,y],_ =>
  have hs2:ZP y x=false:=by
   have h3:(!PySem.Spec.ltCps y.cps.toList x.cps.toList&&true)=true:=hs;rw [PyProof.Rows.ltCps_eq] at h3;simpa [ZP] using h3
  have hm:x∈[a,b]:=hp.subset (by simp)
  have hp2:(x=a∧y=b)∨(x=b∧y=a):=by
   rcases Qh.mp hm with rfl|hm
   ·have:=hp.cons_inv;exact .inl ⟨rfl,by simpa using this⟩
   ·have e:x=b:=by simpa using hm
    subst e;have h4:[x,y].Perm [x,a]:=hp.trans (List.Perm.swap ..);have:=h4.cons_inv;exact .inr ⟨rfl,by simpa using this⟩
  unfold Zd;rcases hp2 with ⟨rfl,rfl⟩|⟨rfl,rfl⟩
  ·rw [hs2];rfl
  ·by_cases h:ZP x y=true
   ·rw [Qc h]
   ·rw [Qa h,U5 (Rl.mpr h) hs2]
noncomputable def Ent.told:Ent->Ent
 |.union a b d=>.union (Zd a b).1 (Zd a b).2 d
 |.parted a b d=>.parted (Zd a b).1 (Zd a b).2 d
 |e=>e
theorem Zct (a b:Str):(if ZP b a=true then b else a)=(Zd a b).1:=by
 unfold Zd;by_cases h:ZP b a=true
 ·rw [Qc h,Qc h]
 ·rw [Qa h,Qa h]
theorem Zc3 (a b:Str):(if ZP a b=true then b else a)=(Zd a b).2:=by
 unfold Zd;by_cases h:ZP b a=true
 ·rw [Qc h];by_cases h2:ZP a b=true
  ·have l1:b.cps.toList<a.cps.toList:=QE h;have l2:a.cps.toList<b.cps.toList:=QE h2;exact absurd l1 (No l2)
  ·rw [Qa h2]
 ·rw [Qa h];by_cases h2:ZP a b=true
  ·rw [Qc h2]
  ·rw [Qa h2,U5 (Rl.mpr h) (Rl.mpr h2)]
noncomputable def Je:Zi->Vk
 |.inl i=>.int i
 |.inr x=>.str x
theorem ZbL {K:W.Frag} {H:Hp}:∀(l:List Zi),(∀x:Str,(.inr x:Zi)∈l->x.length≤100)->Vws K H (l.map kV) (l.map Je)
 |[],_=>trivial
 |.inl i::r,h=>⟨rfl,ZbL r fun x hx=>h x (Qy _ hx)⟩
 |.inr y::r,h=>⟨⟨rfl,h y (QA ..)⟩,ZbL r fun x hx=>h x (Qy _ hx)⟩
structure Ent.Ok (e:Ent):Prop where
 en:W7 (e.row.map Je)=true
 sh:∀x:Str,(.inr x:Zi)∈e.row->x.length≤100
theorem Ent.row_len (e:Ent):(e.row.map Je).length≤10:=by
 cases e<;>exact QC rfl
theorem Ent.Ok.tv {e:Ent} (h:e.Ok) {K:W.Frag} {H:Hp} {a:Addr} (hE:SqT K H a (e.row.map kV)):Tv K H (.ref a) (e.row.map Je):=⟨a,_,rfl,hE,ZbL _ h.sh⟩
inductive Rf where
 |full|person|twice|fit
noncomputable def Bk.full (B:Bk) (e:Ent):Bool:=decide (400≤B.kept.length)||(e.isBorn&&decide (60≤(Bk.bornD B.kept).length))
noncomputable def XY (B:Bk) (e:Ent):Option Rf :=
 if B.full e=true then some .full
 else if (e.named.all fun n=>(Z5 n B.kept).isSome)=false then some .person
 else if (ZI B.keptD e.told.key).isSome=true then some .twice
 else if X2 B e=true then none else some .fit
theorem ZfV {B:Bk} {e:Ent} (kn:∀n∈e.named,Known B n):(e.named.all fun n=>(Z5 n B.kept).isSome)=true:=by
 rw [Ru];intro n hn;have:=kn n hn;unfold Known at this;exact NJ.mpr this
theorem Zkn {B:Bk} {e:Ent} (h:B.full e=false) (kn:∀n∈e.named,Known B n) (t:(ZI B.keptD e.told.key).isSome=false) (f:X2 B e=true):XY B e=none:=by
 unfold XY;rw [h,Qa (by decide),ZfV kn,Qa (by decide),t,Qa (by decide),f,Qc rfl]
theorem Zgp {a b c:Str} (h1:ZP a b=true) (h2:ZP b c=true):ZP a c=true:=by
 unfold ZP at *;exact Ql (List.lt_trans (QE h1) (QE h2))
theorem Zjn (a:Str):ZP a a=false:=by
 unfold ZP;exact Qk (List.lt_irrefl _)
noncomputable def Yi (a b:Str):Bool:=!ZP b a
theorem ZeG {a b c:Str} (h1:Yi a b=true) (h2:Yi b c=true):Yi a c=true:=by
 unfold Yi at *;simp only [G9] at *;cases h:ZP c a with
 |false=>rfl
 |true =>
  by_cases e:a=b
  ·subst e;rw [h] at h2;cases h2
  ·have hab:ZP a b=true:=by
    cases h3:ZP a b with
    |true=>rfl
    |false=>exact absurd (U5 h3 h1) e
   rw [Zgp h hab] at h2;cases h2
theorem ZjO (a b:Str):(Yi a b||Yi b a)=true:=by
 unfold Yi;cases h:ZP b a with
 |false=>rfl
 |true =>
  cases h2:ZP a b with
  |false=>rfl
  |true=>exact absurd (Zgp h2 h) (by rw [Zjn a];decide)
noncomputable def ZC (l:List Str):List Str:=l.mergeSort Yi
theorem XA (l:List Str):(ZC l).Perm l:=List.mergeSort_perm ..
theorem W8 (l:List Str):(ZC l).Pairwise fun a b=>Yi a b=true:=List.pairwise_mergeSort (le:=Yi) (fun _ _ _=>ZeG) ZjO l
theorem JO:∀{l:List Str},PyProof.Rows.sortedS l=true->l.Pairwise fun a b=>Yi a b=true
 |[],_=>.nil
 |[x],_=>.cons (by simp) .nil
 |x::y::r,h=>by
  have h':(!PySem.Spec.ltCps y.cps.toList x.cps.toList&&PyProof.Rows.risingS y r)=true:=h;rw [Rk] at h';obtain ⟨h1,h2⟩:=h';have ih:=JO (l:=y::r) h2
  have hxy:Yi x y=true:=by
   rw [PyProof.Rows.ltCps_eq] at h1;exact h1
  refine .cons (fun z hz=>?_) ih;rcases Qh.mp hz with rfl|hz
  ·exact hxy
  ·exact ZeG hxy (Np ih hz)
theorem Uq:∀{l m:List Str},l.Perm m->(l.Pairwise fun a b=>Yi a b=true)->(m.Pairwise fun a b=>Yi a b=true)->l=m
 |[],m,p,_,_=>p.nil_eq
 |x::l,[],p,_,_=>absurd p.length_eq (by simp)
 |x::l,y::m,p,h1,h2=>by
  have e:x=y:=by
   by_cases e:x=y
   ·exact e
   have hx:x∈m:=by
    have:x∈y::m:=p.subset (QA ..);rcases Qh.mp this with h|h
    ·exact absurd h e
    ·exact h
   have hy:y∈l:=by
    have:y∈x::l:=p.symm.subset (QA ..);rcases Qh.mp this with h|h
    ·exact absurd h.symm e
    ·exact h
   have a1:=Np h1 hy;have a2:=Np h2 hx;unfold Yi at a1 a2;simp only [G9] at a1 a2;exact U5 a2 a1
  subst e;rw [Uq p.cons_inv (List.pairwise_cons.mp h1).2 (List.pairwise_cons.mp h2).2]
theorem Ju {zs l:List Str} (hp:zs.Perm l) (hs:PyProof.Rows.sortedS zs=true):zs=ZC l:=Uq (hp.trans (XA l).symm) (JO hs) (W8 l)
structure But (S:List Addr) (H H':Hp):Prop where
 eq:∀a o,a∉S->H a=some o->H' a=some o
 al:∀a,H' a=none->H a=none
theorem But.of {H H':Hp} (S:List Addr) (s:Same H H'):But S H H':=⟨fun a o _ e=>s a o e,fun a n=>ZQ s n⟩
theorem But.trans {S:List Addr} {H H' H'':Hp} (h1:But S H H') (h2:But S H' H''):But S H H'':=⟨fun a o n e=>h2.eq a o n (h1.eq a o n e),fun a n=>h1.al a (h2.al a n)⟩
theorem But.put {S:List Addr} {H:Hp} {a:Addr} {o o':HO} (e:H a=some o) (h:a∈S):But S H (Zb H a o'):=by
 refine ⟨fun c u n q=>(Zh (fun z:c=a=>n (by rw [z];exact h))).trans q,fun c n=>?_⟩;by_cases z:c=a
 ·subst z;rw [Zg] at n;cases n
 ·rw [Zh z] at n;exact n
noncomputable def Zn {κ α:Type} [DecidableEq κ] (l:List (κ×α)) (c:κ) (x:α):List (κ×α) :=
 if (l.any fun q=>decide (q.1=c))=true then l.map (fun q=>if q.1=c then (q.1,x) else q) else l++[(c,x)]
theorem V7 {κ κ' α:Type} [DecidableEq κ] [DecidableEq κ'] {f:κ->κ'} (hf:∀a b,f a=f b->a=b) (g:α->V) (l:List (κ×α)) (c:κ) (x:α) :
  Yg (l.map fun q=>(f q.1,g q.2)) (f c) (g x)=(Zn l c x).map fun q=>(f q.1,g q.2):=by
 have hd:∀a:κ,decide (f a=f c)=decide (a=c):=fun a=>by
  by_cases e:a=c
  ·subst e;simp
  ·rw [Qk e,Qk (fun z=>e (hf _ _ z))]
 unfold Yg Zn
 have e1:((l.map fun q=>(f q.1,g q.2)).any fun kv=>decide (kv.1=f c))=l.any fun q=>decide (q.1=c):=by
  rw [List.any_map];exact Qq (fun z=>l.any z) (funext fun q=>hd q.1)
 rw [e1];by_cases h:(l.any fun q=>decide (q.1=c))=true
 ·rw [Qc h,Qc h,QG,QG];refine RO fun q _=>?_;show (if f q.1=f c then (f q.1,g x) else (f q.1,g q.2))=(fun q=>(f q.1,g q.2)) (if q.1=c then (q.1,x) else q);by_cases e:q.1=c
  ·rw [Qc e,Qc (by rw [e])]
  ·rw [Qa e,Qa (fun z=>e (hf _ _ z))]
 ·rw [Qa h,Qa h,Qp];rfl
theorem Ja {κ α:Type} [DecidableEq κ] {l:List (κ×α)} {c:κ} {x:α} {q:κ×α} (h:q∈Zn l c x):q=(c,x)∨q∈l:=by
 unfold Zn at h;split at h
 ·obtain ⟨p,hp,e⟩:=Qg.mp h;split at e
  ·rename_i pc;subst e;exact .inl (by rw [pc])
  ·subst e;exact .inr hp
 ·rcases Qn.mp h with h|h
  ·exact .inr h
  ·exact .inl (by simpa using h)
theorem ZaF {k li ti su:Addr} (h:[k,li,ti,su].Nodup):k≠li∧k≠ti∧k≠su∧li≠ti∧li≠su∧ti≠su:=by
 simp at h;exact ⟨h.1.1,h.1.2.1,h.1.2.2,h.2.1.1,h.2.1.2,h.2.2⟩
theorem YC {H:Hp} {a c:Addr} {o u:HO} (h1:H a=some o) (h2:H c=some u) (n:o≠u):a≠c:=fun e=>by
 subst e;rw [h1] at h2;exact n (Qt h2)
theorem YH {K:W.Frag} {H:Hp} {a c:Addr} {xs:List V} {o o':HO} (h:SqT K H a xs) (e:H c=some o) (no:∀ys,o≠.tup ys) (nf:∀x ys,o≠.frz x ys):SqT K (Zb H c o') a xs:=by
 rcases h with h|h
 ·rcases h with h|⟨x,h⟩
  ·exact .inl (.inl ((Zh (YC h e (fun z=>no _ z.symm))).trans h))
  ·exact .inl (.inr ⟨x,(Zh (YC h e (fun z=>nf _ _ z.symm))).trans h⟩)
 ·exact .inr h
theorem BkAt.links {K:W.Frag} {C:Addr} {H:Hp} {b dx k bi li ti su:Addr} {B:Bk} (h:BkAt K C H b dx k bi li ti su B) {l:List ((Str×Str)×Addr×List Str)}
  (hl:∀q∈l,H q.2.1=some (.lst (q.2.2.map V.str))):BkAt K C (Zb H li (.dT (l.map fun q=>(Zr q.1,V.ref q.2.1)))) b dx k bi li ti su { B with links:=l }:=by
 obtain ⟨n1,n2,n3,n4,n5,n6⟩:=ZaF h.ap;have dk:∀{c:Addr} {z:List (Zi×V)},H c=some (.dK z)->c≠li:=fun e=>YC e h.li (fun z=>by cases z)
 exact ⟨(Zh (YC h.ob h.li (fun z=>by cases z))).trans h.ob,h.ap,h.at',(Zh n1).trans h.ke,(Zh (dk h.bi)).trans h.bi,Zg,(Zh n4.symm).trans h.ti,(Zh n5.symm).trans h.su,
  fun p hp=>YH (h.en p hp) h.li (fun _ z=>by cases z) (fun _ _ z=>by cases z),fun q hq=>(Zh (YC (hl q hq) h.li (fun z=>by cases z))).trans (hl q hq),fun q hq=>(Zh (dk (h.tt q hq))).trans (h.tt q hq)⟩
noncomputable def lk (ls:List ((Str×Str)×Addr×List Str)) (c:Str×Str):List Str:=((ZJ c ls).map (·.2)).getD []
noncomputable def Z3 (f:Str×Str->List Str) (c:Str×Str) (m:Str):Str×Str->List Str:=fun x=>if x=c then ZC (f c++[m]) else f x
theorem Ze6 {c:Str×Str}:∀{l:List ((Str×Str)×Addr×List Str)},(l.any fun q=>decide (q.1=c))=false->ZJ c l=none
 |[],_=>rfl
 |q::r,h=>by
  rw [Rc,Bool.or_eq_false_iff] at h;unfold ZJ;rw [Qa (Rg h.1)];exact Ze6 h.2
theorem Zbs {c:Str×Str}:∀{l m:List ((Str×Str)×Addr×List Str)},ZJ c (l++m)=(ZJ c l).or (ZJ c m)
 |[],m=>by simp [ZJ]
 |q::r,m=>by
  show (if q.1=c then some q.2 else ZJ c (r++m))=(if q.1=c then some q.2 else ZJ c r).or (ZJ c m);by_cases e:q.1=c
  ·rw [Qc e,Qc e];rfl
  ·rw [Qa e,Qa e];exact Zbs
theorem Zeh {c d:Str×Str} {x:Addr×List Str}:∀{l:List ((Str×Str)×Addr×List Str)},ZJ d (l.map fun q=>if q.1=c then (q.1,x) else q)=if d=c then (ZJ c l).map (fun _=>x) else ZJ d l
 |[]=>by by_cases e:d=c<;>simp [ZJ,e]
 |q::r=>by
  have ih:=Zeh (c:=c) (d:=d) (x:=x) (l:=r);rw [Qr];by_cases e:q.1=c
  ·rw [Qc e];by_cases e2:d=c
   ·subst e2;rw [Qc rfl];unfold ZJ;rw [Qc e,Qc e];rfl
   ·rw [Qa e2] at ih ⊢;unfold ZJ;rw [Qa (fun z=>e2 (z.symm.trans e)),Qa (fun z=>e2 (z.symm.trans e))];exact ih
  ·rw [Qa e];by_cases e2:d=c
   ·subst e2;rw [Qc rfl] at ih ⊢;unfold ZJ;rw [Qa e,Qa e];exact ih
   ·rw [Qa e2] at ih ⊢;unfold ZJ;by_cases e3:q.1=d
    ·rw [Qc e3,Qc e3]
    ·rw [Qa e3,Qa e3];exact ih
theorem ZfG (l:List ((Str×Str)×Addr×List Str)) (c d:Str×Str) (x:Addr×List Str):ZJ d (Zn l c x)=if d=c then some x else ZJ d l:=by
 unfold Zn;by_cases h:(l.any fun q=>decide (q.1=c))=true
 ·rw [Qc h,Zeh];by_cases e:d=c
  ·rw [Qc e,Qc e];cases hk:ZJ c l with
   |some y=>rfl
   |none =>
    exfalso
    have:∀{l:List ((Str×Str)×Addr×List Str)},ZJ c l=none->(l.any fun q=>decide (q.1=c))=false:=by
     intro l
     induction l with
     |nil=>intro _;rfl
     |cons q r ih =>
      intro hn;unfold ZJ at hn;by_cases e:q.1=c
      ·rw [Qc e] at hn;cases hn
      ·rw [Qa e] at hn;rw [Rc,ih hn,Qk e];rfl
    rw [this hk] at h;cases h
  ·rw [Qa e,Qa e]
 ·rw [Qa h,Zbs];by_cases e:d=c
  ·subst e;rw [Qc rfl,Ze6 (Rl.mpr h)];simp [ZJ]
  ·rw [Qa e];cases ZJ d l with
   |some y=>rfl
   |none=>simp [ZJ,QX e]
theorem WP (l:List ((Str×Str)×Addr×List Str)) (c d:Str×Str) (D:Addr) (m:Str):lk (Zn l c (D,ZC (lk l c++[m]))) d=Z3 (lk l) c m d:=by
 unfold lk Z3;rw [ZfG];by_cases e:d=c
 ·rw [Qc e,Qc e];rfl
 ·rw [Qa e,Qa e]
theorem XB {κ α:Type} [DecidableEq κ] (l:List (κ×α)) (c:κ) (x:α):(Zn l c x).length≤l.length+1:=by
 unfold Zn;split
 ·rw [Qd];omega
 ·rw [Qx];exact Qf _
theorem WD (B:Bk) (l n:Str):Yv B l n=lk B.links (l,n):=rfl
noncomputable def Xk (F:Str×Str->List Str) (n f m:Str):Str×Str->List Str :=
 let F1:=if f="" then F else Z3 (Z3 F ("F",n) f) ("f",f) n
 if m="" then F1 else Z3 (Z3 F1 ("M",n) m) ("m",m) n
theorem JM {F:Str×Str->List Str} {c d:Str×Str} {m:Str} (h:d.1≠c.1):Z3 F c m d=F d:=Qa fun e=>h (by rw [e])
theorem U7 {F G:Str×Str->List Str} (h:∀c,F c=G c) (c:Str×Str) (m:Str) (d:Str×Str):Z3 F c m d=Z3 G c m d:=by
 unfold Z3;rw [h c,h d]
theorem Zio (l:List (Ent×Addr)) (n s:Str) (d:Int) (f m:Str) (a:Addr):Bk.bornD (l++[(.born n s d f m,a)])=Bk.bornD l++[(.inr n,.ref a)]:=by
 unfold Bk.bornD;rw [RB];rfl
theorem ZhT (l:List (Ent×Addr)):(Bk.bornD l).length≤l.length:=GI ..
theorem But.mono {S S':List Addr} {H H':Hp} (h:But S H H') (i:∀a∈S,a∈S'):But S' H H':=⟨fun a o n e=>h.eq a o (fun z=>n (i a z)) e,h.al⟩
noncomputable def UU (l:List (Ent×Addr)):List (Str×V):=l.filterMap fun p=>p.1.bornName.map fun n=>(n,.ref p.2)
theorem Zhn (l:List (Ent×Addr)):Bk.bornD l=(UU l).map fun p=>(.inr p.1,p.2):=by
 unfold Bk.bornD UU;rw [List.map_filterMap]
 congr 1
 funext p
 cases p.1.bornName<;>rfl
noncomputable def Y9 (l:List (Ent×Addr)):List Str:=l.filterMap fun p=>p.1.bornName
theorem ZfE (l:List (Ent×Addr)):(UU l).map (·.1)=Y9 l:=by
 unfold Y9 UU;rw [List.map_filterMap]
 congr 1
 funext p
 cases p.1.bornName<;>rfl
def Grows (H:Hp) (ls ls':List ((Str×Str)×Addr×List Str)):Prop:=∀q∈ls',(∃p∈ls,p.2.1=q.2.1)∨H q.2.1=none
theorem Grows.refl (H:Hp) (ls:List ((Str×Str)×Addr×List Str)):Grows H ls ls:=fun q hq=>.inl ⟨q,hq,rfl⟩
theorem Grows.put {H:Hp} {ls ls':List ((Str×Str)×Addr×List Str)} {c:Str×Str} {D:Addr} {x:List Str} (g:Grows H ls ls') (n:H D=none):Grows H ls (Zn ls' c (D,x)):=fun q hq=>by
 rcases Ja hq with rfl|hq
 ·exact .inr n
 ·exact g q hq
theorem Grows.back {H H':Hp} {ls ls':List ((Str×Str)×Addr×List Str)} (g:Grows H' ls ls') (al:∀a,H' a=none->H a=none):Grows H ls ls':=fun q hq=>(g q hq).imp id (al _)
noncomputable def Zy {κ α:Type} [DecidableEq κ] (c:κ):List (κ×α)->Option α
 |[]=>none
 |q::r=>if q.1=c then some q.2 else Zy c r
theorem Zgv {κ α:Type} [DecidableEq κ] {c:κ}:∀{l:List (κ×α)},(l.any fun q=>decide (q.1=c))=false->Zy c l=none
 |[],_=>rfl
 |q::r,h=>by
  rw [Rc,Bool.or_eq_false_iff] at h;unfold Zy;rw [Qa (Rg h.1)];exact Zgv h.2
theorem Zax {κ α:Type} [DecidableEq κ] {c:κ}:∀{l:List (κ×α)},Zy c l=none->(l.any fun q=>decide (q.1=c))=false
 |[],_=>rfl
 |q::r,h=>by
  unfold Zy at h;by_cases e:q.1=c
  ·rw [Qc e] at h;cases h
  ·rw [Qa e] at h;rw [Rc,Zax h,Qk e];rfl
theorem Za7 {κ α:Type} [DecidableEq κ] {c:κ}:∀{l m:List (κ×α)},Zy c (l++m)=(Zy c l).or (Zy c m)
 |[],m=>by simp [Zy]
 |q::r,m=>by
  show (if q.1=c then some q.2 else Zy c (r++m))=(if q.1=c then some q.2 else Zy c r).or (Zy c m);by_cases e:q.1=c
  ·rw [Qc e,Qc e];rfl
  ·rw [Qa e,Qa e];exact Za7
theorem Zei {κ α:Type} [DecidableEq κ] {c d:κ} {x:α}:∀{l:List (κ×α)},Zy d (l.map fun q=>if q.1=c then (q.1,x) else q)=if d=c then (Zy c l).map (fun _=>x) else Zy d l
 |[]=>by by_cases e:d=c<;>simp [Zy,e]
 |q::r=>by
  have ih:=Zei (c:=c) (d:=d) (x:=x) (l:=r);rw [Qr];by_cases e:q.1=c
  ·rw [Qc e];by_cases e2:d=c
   ·subst e2;rw [Qc rfl];unfold Zy;rw [Qc e,Qc e];rfl
   ·rw [Qa e2] at ih ⊢;unfold Zy;rw [Qa (fun z=>e2 (z.symm.trans e)),Qa (fun z=>e2 (z.symm.trans e))];exact ih
  ·rw [Qa e];by_cases e2:d=c
   ·subst e2;rw [Qc rfl] at ih ⊢;unfold Zy;rw [Qa e,Qa e];exact ih
   ·rw [Qa e2] at ih ⊢;unfold Zy;by_cases e3:q.1=d
    ·rw [Qc e3,Qc e3]
    ·rw [Qa e3,Qa e3];exact ih
theorem ZdB {κ α:Type} [DecidableEq κ] (l:List (κ×α)) (c d:κ) (x:α):Zy d (Zn l c x)=if d=c then some x else Zy d l:=by
 unfold Zn;by_cases h:(l.any fun q=>decide (q.1=c))=true
 ·rw [Qc h,Zei];by_cases e:d=c
  ·rw [Qc e,Qc e];cases hk:Zy c l with
   |some y=>rfl
   |none=>rw [Zax hk] at h;cases h
  ·rw [Qa e,Qa e]
 ·rw [Qa h,Za7];by_cases e:d=c
  ·subst e;rw [Qc rfl,Zgv (Rl.mpr h)];simp [Zy]
  ·rw [Qa e];cases Zy d l with
   |some y=>rfl
   |none=>simp [Zy,QX e]
theorem Vb {κ α:Type} [DecidableEq κ] {c:κ}:∀{l:List (κ×α)} {x:α},Zy c l=some x->(c,x)∈l
 |[],_,h=>by cases h
 |q::r,x,h=>by
  unfold Zy at h;by_cases e:q.1=c
  ·rw [Qc e] at h;cases h;rw [←e];exact QA ..
  ·rw [Qa e] at h;exact Qy _ (Vb h)
theorem Jm {κ κ' α:Type} [DecidableEq κ] [DecidableEq κ'] {f:κ->κ'} (hf:∀a b,f a=f b->a=b) (g:α->V) (c:κ):∀l:List (κ×α),ZI (l.map fun q=>(f q.1,g q.2)) (f c)=(Zy c l).map g
 |[]=>rfl
 |q::r=>by
  have ih:=Jm hf g c r;unfold Zy;rw [Qr];by_cases e:q.1=c
  ·subst e;rw [Xa rfl,Qc rfl];rfl
  ·rw [XD (fun z=>e (hf _ _ z)),Qa e];exact ih
noncomputable def YA (B:Bk) (c:Str×Str):List (Int×Str):=((Zy c B.ties).map (·.2)).getD []
noncomputable def YK (l:List (Int×Str)):Bool:=match (l.map (·.1)).max? with
 |none=>false
 |some m=>decide (Zy m l=some ("union" : Str))
noncomputable def Zah (B:Bk) (a b:Str):Bool:=YK (YA B (Zd a b))
noncomputable def YR (l:List (Int×Str)):List (Zi×V):=l.map fun r=>(.inl r.1,.str r.2)
theorem Ze0:∀a b:Int,(.inl a:Zi)=.inl b->a=b:=fun _ _ h=>Sum.inl.inj h
theorem ZnZ {l:List (Int×Str)} {m:Int} (h:m∈l.map (·.1)):∃x,Zy m l=some x:=by
 cases e:Zy m l with
 |some x=>exact ⟨x,rfl⟩
 |none =>
  obtain ⟨q,hq,rfl⟩:=Qg.mp h;have:=Zax e;rw [GV] at this;exact absurd (Ql rfl) (this q hq)
theorem Zfk {l:List (Int×Str)} {m:Int} {x:Str} (hm:m∈l.map (·.1)) (hx:∀y∈l.map (·.1),y≤m) (e:Zy m l=some x):YK l=decide (x="union"):=by
 have h:(l.map (·.1)).max?=some m:=List.max?_eq_some_iff.mpr ⟨hm,hx⟩;unfold YK;rw [h];show decide (Zy m l=some ("union" : Str))=_;rw [e];simp
theorem J5 (a b:Str):Zd a b=Zd b a:=by
 unfold Zd;by_cases h:ZP b a=true
 ·by_cases h2:ZP a b=true
  ·have l1:b.cps.toList<a.cps.toList:=QE h;have l2:a.cps.toList<b.cps.toList:=QE h2;exact absurd l1 (No l2)
  ·rw [Qc h,Qa h2]
 ·by_cases h2:ZP a b=true
  ·rw [Qa h,Qc h2]
  ·rw [Qa h,Qa h2,U5 (Rl.mpr h) (Rl.mpr h2)]
noncomputable def ZL (F:Str×Str->List Str) (st:Bool) (x y:Str):Str×Str->List Str:=fun c =>
 if c=(("S",x):Str×Str) then (if st=true then ZC ((F c).filter (fun n=>decide (n≠y))++[y]) else (F c).filter fun n=>decide (n≠y)) else F c
noncomputable def YS (ts:List ((Str×Str)×Addr×List (Int×Str))) (c:Str×Str):List (Int×Str):=((Zy c ts).map (·.2)).getD []
theorem Zoi (B:Bk) (c:Str×Str):YA B c=YS B.ties c:=rfl
theorem ZhF {ts:List ((Str×Str)×Addr×List (Int×Str))} {c:Str×Str} {d:Addr} {l l':List (Int×Str)} (n:(ts.map (·.1)).Nodup) (h:Zy c ts=some (d,l)):(Zn ts c (d,l')).map (·.2.1)=ts.map (·.2.1)∧(Zn ts c (d,l')).map (·.1)=ts.map (·.1):=by
 have an:(ts.any fun q=>decide (q.1=c))=true:=by
  rw [Gk];exact ⟨_,Vb h,Ql rfl⟩
 unfold Zn;rw [Qc an,QG,QG];constructor
 ·refine RO fun q hq=>?_;show (if q.1=c then (q.1,(d,l')) else q).2.1=q.2.1;by_cases e:q.1=c
  ·rw [Qc e]
   have:q.2=(d,l):=by
    have go:∀{ts:List ((Str×Str)×Addr×List (Int×Str))},(ts.map (·.1)).Nodup->Zy c ts=some (d,l)->q∈ts->q.2=(d,l):=by
     intro ts
     induction ts with
     |nil=>intro _ _ h;cases h
     |cons p r ih =>
      intro n f m;rw [Qr,QH] at n;unfold Zy at f;by_cases e2:p.1=c
      ·rw [Qc e2] at f;rcases Qh.mp m with rfl|m
       ·exact Qt f
       ·exact absurd (Qg.mpr ⟨q,m,e.trans e2.symm⟩) n.1
      ·rw [Qa e2] at f;rcases Qh.mp m with rfl|m
       ·exact absurd e e2
       ·exact ih n.2 f m
    exact go n h hq
   rw [this]
  ·rw [Qa e]
 ·refine RO fun q hq=>?_;show (if q.1=c then (q.1,(d,l')) else q).1=q.1;split<;>rfl
theorem BkAt.newTie {K:W.Frag} {C:Addr} {H:Hp} {b dx k bi li ti su z:Addr} {B:Bk} (h:BkAt K C H b dx k bi li ti su B) (nz:H z=some (.dK [])) (fr:z≠bi∧∀q∈B.ties,q.2.1≠z) (c:Str×Str) :
  BkAt K C (Zb H ti (.dT (B.tiesD++[(Zr c,.ref z)]))) b dx k bi li ti su { B with ties:=B.ties++[(c,z,[])] }:=by
 obtain ⟨n1,n2,n3,n4,n5,n6⟩:=ZaF h.ap;have dk:∀{a:Addr} {w:List (Zi×V)},H a=some (.dK w)->a≠ti:=fun e=>YC e h.ti (fun z=>by cases z)
 refine ⟨(Zh (YC h.ob h.ti (fun z=>by cases z))).trans h.ob,h.ap,?_,(Zh n2).trans h.ke,(Zh (dk h.bi)).trans h.bi,(Zh n4).trans h.li,?_,(Zh n6.symm).trans h.su,fun p hp=>YH (h.en p hp) h.ti (fun _ z=>by cases z) (fun _ _ z=>by cases z),
  fun q hq=>(Zh (YC (h.ll q hq) h.ti (fun z=>by cases z))).trans (h.ll q hq),fun q hq=>?_⟩
 ·show (bi::(B.ties++[((c,z,[]):(Str×Str)×Addr×List (Int×Str))]).map (·.2.1)).Nodup;rw [Qp,←List.cons_append,Q2];refine ⟨h.at',by simp,fun a ha x hx e=>?_⟩;have ex:x=z:=by simpa using hx
  subst ex e;rcases Qh.mp ha with rfl|ha
  ·exact fr.1 rfl
  ·obtain ⟨q,hq,rfl⟩:=Qg.mp ha;exact fr.2 q hq rfl
 ·rw [Zg];show some (HO.dT _)=some (.dT ((B.ties++[((c,z,[]):(Str×Str)×Addr×List (Int×Str))]).map fun q=>(Zr q.1,V.ref q.2.1)));rw [Qp];rfl
 ·rcases Qn.mp hq with hq|hq
  ·exact (Zh (dk (h.tt q hq))).trans (h.tt q hq)
  ·have e:q=(c,z,[]):=by simpa using hq
   subst e;exact (Zh (dk nz)).trans nz
theorem BkAt.putTie {K:W.Frag} {C:Addr} {H:Hp} {b dx k bi li ti su d:Addr} {B:Bk} {c:Str×Str} {l:List (Int×Str)} (h:BkAt K C H b dx k bi li ti su B) (n:(B.ties.map (·.1)).Nodup) (f:Zy c B.ties=some (d,l)) (l':List (Int×Str)) :
  BkAt K C (Zb H d (.dK (YR l'))) b dx k bi li ti su { B with ties:=Zn B.ties c (d,l') }:=by
 have hm:=Vb f;have hd:H d=some (.dK (YR l)):=h.tt _ hm;have at2:=h.at';rw [QH] at at2;have bd:bi≠d:=fun e=>at2.1 (Qg.mpr ⟨_,hm,e.symm⟩);have dt:∀{a:Addr} {w:List (List Zi×V)},H a=some (.dT w)->a≠d:=fun e=>YC e hd (fun z=>by cases z);obtain ⟨pa1,pa2⟩:=ZhF (l':=l') n f
 refine ⟨(Zh (YC h.ob hd (fun z=>by cases z))).trans h.ob,h.ap,?_,(Zh (dt h.ke)).trans h.ke,(Zh bd).trans h.bi,(Zh (dt h.li)).trans h.li,?_,(Zh (dt h.su)).trans h.su,fun p hp=>YH (h.en p hp) hd (fun _ z=>by cases z) (fun _ _ z=>by cases z),
  fun q hq=>(Zh (YC (h.ll q hq) hd (fun z=>by cases z))).trans (h.ll q hq),fun q hq=>?_⟩
 ·show (bi::(Zn B.ties c (d,l')).map (·.2.1)).Nodup;rw [pa1];exact h.at'
 ·have e:(Zn B.ties c (d,l')).map (fun q=>(Zr q.1,V.ref q.2.1))=B.tiesD:=by
   have e1:(fun q:(Str×Str)×Addr×List (Int×Str)=>(Zr q.1,V.ref q.2.1))=(fun p:(Str×Str)×Addr=>(Zr p.1,V.ref p.2))∘fun q=>(q.1,q.2.1):=rfl
   have e2:∀ts:List ((Str×Str)×Addr×List (Int×Str)),ts.map (fun q=>(q.1,q.2.1))=(ts.map (·.1)).zip (ts.map (·.2.1)):=fun ts=>by
    induction ts with
    |nil=>rfl
    |cons q r ih=>simp [ih]
   unfold Bk.tiesD;rw [e1,←QG,←QG,e2,e2,pa1,pa2]
  rw [Zh (dt h.ti)];show H ti=some (.dT ((Zn B.ties c (d,l')).map fun q=>(Zr q.1,V.ref q.2.1)));rw [e];exact h.ti
 ·rcases Ja hq with rfl|hq2
  ·exact Zg
  ·by_cases e:q.2.1=d
   ·-- the same address: the same pair
    have:q=(c,d,l)∨q=(c,d,l'):=by
     have hnd:=(QH.mp h.at').2
     have go:∀{ts:List ((Str×Str)×Addr×List (Int×Str))},(ts.map (·.2.1)).Nodup->(c,d,l)∈ts->q∈ts->q=(c,d,l):=by
      intro ts
      induction ts with
      |nil=>intro _ h;cases h
      |cons p r ih =>
       intro n h1 h2;rw [Qr,QH] at n;rcases Qh.mp h1 with e1|h1'
       ·rcases Qh.mp h2 with e2|h2'
        ·rw [e2,e1]
        ·rw [←e1] at n;exact absurd (Qg.mpr ⟨q,h2',e⟩) n.1
       ·rcases Qh.mp h2 with e2|h2'
        ·rw [←e2] at n;exact absurd (Qg.mpr ⟨(c,d,l),h1',e.symm⟩) n.1
        ·exact ih n.2 h1' h2'
     exact .inl (go hnd hm hq2)
    rcases this with rfl|rfl
    ·-- then it was told anew
     have an:(B.ties.any fun q=>decide (q.1=c))=true:=by
      rw [Gk];exact ⟨_,hm,Ql rfl⟩
     unfold Zn at hq;rw [Qc an] at hq;obtain ⟨p,hp,ep⟩:=Qg.mp hq;by_cases pc:p.1=c
     ·rw [Qc pc] at ep
      have:l'=l:=by
       have:=Qq (fun z=>z.2.2) ep;exact this
      subst this;exact Zg
     ·rw [Qa pc] at ep;subst ep;exact absurd rfl pc
    ·exact Zg
   ·exact (Zh e).trans (h.tt q hq2)
theorem Zn5 (ts:List ((Str×Str)×Addr×List (Int×Str))) (c x:Str×Str) (d:Addr) (l:List (Int×Str)):YS (Zn ts c (d,l)) x=if x=c then l else YS ts x:=by
 unfold YS;rw [ZdB];by_cases e:x=c
 ·rw [Qc e,Qc e];rfl
 ·rw [Qa e,Qa e]
theorem ZkQ (ts:List ((Str×Str)×Addr×List (Int×Str))) (c x:Str×Str) (d:Addr) (h:Zy c ts=none):YS (ts++[(c,d,[])]) x=YS ts x:=by
 unfold YS;rw [Za7];cases e:Zy x ts with
 |some y=>rfl
 |none =>
  unfold Zy;by_cases e2:c=x
  ·rw [Qc e2];rfl
  ·rw [Qa e2];rfl
noncomputable def Vr (y:Str) (n:Str):Option V:=if n=y then none else some (.str n)
theorem ZfO (y:Str):∀l:List Str,(l.map (Vr y)).filterMap id=(l.filter fun n=>decide (n≠y)).map V.str
 |[]=>rfl
 |n::r=>by
  have ih:=ZfO y r;by_cases h:n=y
  ·subst h;simp only [Qr,QW,R0];simpa [Vr] using ih
  ·simp only [Qr,QW,R0];simpa [Vr,h] using ih
theorem ZeP (l:List ((Str×Str)×Addr×List Str)) (c d:Str×Str) (D:Addr) (z:List Str):lk (Zn l c (D,z)) d=if d=c then z else lk l d:=by
 unfold lk;rw [ZfG];by_cases e:d=c
 ·rw [Qc e,Qc e];rfl
 ·rw [Qa e,Qa e]
theorem Zdv (F:Str×Str->List Str) (st:Bool) (x y:Str) (c:Str×Str):(ZL F st x y c).length≤(F c).length+1:=by
 unfold ZL;have h:=Nq (fun n=>decide (n≠y)) (F c);split
 ·split
  ·rw [(XA _).length_eq,Qx];show _+1≤_;omega
  ·omega
 ·omega
theorem Wy (a b:Str):Zd (Zd a b).1 (Zd a b).2=Zd a b:=by
 unfold Zd;by_cases h:ZP b a=true
 ·rw [Qc h];show (if ZP a b=true then (a,b) else (b,a))=(b,a);by_cases h2:ZP a b=true
  ·have l1:b.cps.toList<a.cps.toList:=QE h;have l2:a.cps.toList<b.cps.toList:=QE h2;exact absurd l1 (No l2)
  ·rw [Qa h2]
 ·rw [Qa h];show (if ZP b a=true then (b,a) else (a,b))=(a,b);rw [Qa h]
theorem J0 (e:Ent):e.told.told=e.told:=by
 cases e with
 |union a b d=>show Ent.union (Zd (Zd a b).1 (Zd a b).2).1 (Zd (Zd a b).1 (Zd a b).2).2 d=_;rw [Wy];rfl
 |parted a b d=>show Ent.parted (Zd (Zd a b).1 (Zd a b).2).1 (Zd (Zd a b).1 (Zd a b).2).2 d=_;rw [Wy];rfl
 |_=>rfl
noncomputable def UL (F:Str×Str->List (Int×Str)):Ent->Str×Str->List (Int×Str)
 |.union a b d=>fun c=>if c=Zd a b then Zn (F (Zd a b)) d "union" else F c
 |.parted a b d=>fun c=>if c=Zd a b then Zn (F (Zd a b)) d "parted" else F c
 |_=>F
noncomputable def WG (F:Str×Str->List Str) (G:Str×Str->List (Int×Str)):Ent->Str×Str->List Str
 |.born n _ _ f m=>Xk F n f m
 |.taken c t _=>Z3 (Z3 F ("T",c) t) ("t",t) c
 |.union a b d=>ZL (ZL F (YK (Zn (G (Zd a b)) d "union")) a b) (YK (Zn (G (Zd a b)) d "union")) b a
 |.parted a b d=>ZL (ZL F (YK (Zn (G (Zd a b)) d "parted")) a b) (YK (Zn (G (Zd a b)) d "parted")) b a
 |_=>F
noncomputable def Y4 (ss:List ((Str×Str)×Int)) (c:Str×Str):Int:=(Zy c ss).getD 0
noncomputable def Zai (F:Str×Str->Int):Ent->Str×Str->Int
 |.given g t am _=>fun c=>if c=(g,t) then F c+am else F c
 |_=>F
theorem ZmM (ss:List ((Str×Str)×Int)) (g t:Str) (am d:Int) (c:Str×Str):Y4 (Zn ss (g,t) (Y4 ss (g,t)+am)) c=Zai (Y4 ss) (.given g t am d) c:=by
 show _=if c=(g,t) then Y4 ss c+am else Y4 ss c;unfold Y4;rw [ZdB];by_cases e:c=(g,t)
 ·subst e;rw [Qc rfl,Qc rfl];rfl
 ·rw [Qa e,Qa e]
def GrowsT (H:Hp) (ts ts':List ((Str×Str)×Addr×List (Int×Str))):Prop:=∀a∈ts'.map (·.2.1),a∈ts.map (·.2.1)∨H a=none
theorem GrowsT.refl (H:Hp) (ts:List ((Str×Str)×Addr×List (Int×Str))):GrowsT H ts ts:=fun _ h=>.inl h
theorem GrowsT.back {H H':Hp} {ts ts':List ((Str×Str)×Addr×List (Int×Str))} (g:GrowsT H' ts ts') (al:∀a,H' a=none->H a=none):GrowsT H ts ts':=fun a ha=>(g a ha).imp id (al a)
structure Put (B:Bk) (e:Ent) (B':Bk):Prop where
 su:∀c,Y4 B'.sums c=Zai (Y4 B.sums) e.told c
 kept:∃a,B'.kept=B.kept++[(e.told,a)]
 lks:∀c,lk B'.links c=WG (lk B.links) (YS B.ties) e.told c
 tis:∀c,YS B'.ties c=UL (YS B.ties) e.told c
 nd:(B'.ties.map (·.1)).Nodup
 nl:B'.links.length≤B.links.length+4
 nt:B'.ties.length≤B.ties.length+1
 ns:B'.sums.length≤B.sums.length+1
structure Room1 (B:Bk):Prop where
 nd:(B.ties.map (·.1)).Nodup
 nl:B.links.length≤870
 nt:B.ties.length≤790
 ns:B.sums.length≤790
 ll:∀c,(lk B.links c).length≤60
 tt:∀c,(YS B.ties c).length≤790
theorem Zmn {H:Hp} {a:Addr} {o:HO} (h:H a=some o):Zb H a o=H:=by
 funext c
 by_cases e:c=a
 ·subst e;rw [Zg,h]
 ·rw [Zh e]
theorem BkAt.kept {K:W.Frag} {C:Addr} {H:Hp} {b dx k bi li ti su a:Addr} {B:Bk} {e:Ent} (h:BkAt K C H b dx k bi li ti su B) (ha:SqT K H a (e.row.map kV)) :
  BkAt K C (Zb (Zb H k (.dT (B.keptD++[(e.key,.ref a)]))) bi (.dK (Bk.bornD (B.kept++[(e,a)])))) b dx k bi li ti su { B with kept:=B.kept++[(e,a)] }:=by
 obtain ⟨n1,n2,n3,n4,n5,n6⟩:=ZaF h.ap;have kb:k≠bi:=YC h.ke h.bi (fun z=>by cases z);have at2:=QH.mp h.at';have dt:∀{c:Addr} {w:List (List Zi×V)},H c=some (.dT w)->c≠k->(Zb (Zb H k (.dT (B.keptD++[(e.key,.ref a)]))) bi (.dK (Bk.bornD (B.kept++[(e,a)])))) c=some (.dT w):=fun hc n=>(Zh (YC hc h.bi (fun z=>by cases z))).trans ((Zh n).trans hc)
 have sq:∀{c:Addr} {xs:List V},SqT K H c xs->SqT K (Zb (Zb H k (.dT (B.keptD++[(e.key,.ref a)]))) bi (.dK (Bk.bornD (B.kept++[(e,a)])))) c xs:=fun {c xs} hc=>by
  have h1:SqT K (Zb H k (.dT (B.keptD++[(e.key,.ref a)]))) c xs:=YH hc h.ke (fun _ z=>by cases z) (fun _ _ z=>by cases z);exact YH h1 ((Zh kb.symm).trans h.bi) (fun _ z=>by cases z) (fun _ _ z=>by cases z)
 refine ⟨(Zh (YC h.ob h.bi (fun z=>by cases z))).trans ((Zh (YC h.ob h.ke (fun z=>by cases z))).trans h.ob),h.ap,h.at',(Zh kb).trans ?_,Zg,dt h.li n1.symm,dt h.ti n2.symm,dt h.su n3.symm,fun p hp=>?_,fun q hq=>?_,fun q hq=>?_⟩
 ·rw [Zg];show some (HO.dT _)=some (.dT ((B.kept++[(e,a)]).map fun p=>(p.1.key,V.ref p.2)));rw [Qp];rfl
 ·rcases Qn.mp hp with hp|hp
  ·exact sq (h.en p hp)
  ·have ep:p=(e,a):=by simpa using hp
   subst ep;exact sq ha
 ·exact (Zh (YC (h.ll q hq) h.bi (fun z=>by cases z))).trans ((Zh (YC (h.ll q hq) h.ke (fun z=>by cases z))).trans (h.ll q hq))
 ·exact (Zh (fun z=>at2.1 (Qg.mpr ⟨q,hq,z⟩))).trans ((Zh (YC (h.tt q hq) h.ke (fun z=>by cases z))).trans (h.tt q hq))
theorem Znw {l:List (Ent×Addr)} {e:Ent} {a:Addr} (h:e.isBorn=false):Bk.bornD (l++[(e,a)])=Bk.bornD l:=by
 unfold Bk.bornD;rw [RB];cases e with
 |born=>cases h
 |_=>simp [Ent.bornName]
theorem BkAt.sums {K:W.Frag} {C:Addr} {H:Hp} {b dx k bi li ti su:Addr} {B:Bk} (h:BkAt K C H b dx k bi li ti su B) (l:List ((Str×Str)×Int)) :
  BkAt K C (Zb H su (.dT (l.map fun q=>(Zr q.1,V.int q.2)))) b dx k bi li ti su { B with sums:=l }:=by
 obtain ⟨n1,n2,n3,n4,n5,n6⟩:=ZaF h.ap;have dk:∀{c:Addr} {z:List (Zi×V)},H c=some (.dK z)->c≠su:=fun e=>YC e h.su (fun z=>by cases z)
 exact ⟨(Zh (YC h.ob h.su (fun z=>by cases z))).trans h.ob,h.ap,h.at',(Zh n3).trans h.ke,(Zh (dk h.bi)).trans h.bi,(Zh n5).trans h.li,(Zh n6).trans h.ti,Zg,
  fun p hp=>YH (h.en p hp) h.su (fun _ z=>by cases z) (fun _ _ z=>by cases z),fun q hq=>(Zh (YC (h.ll q hq) h.su (fun z=>by cases z))).trans (h.ll q hq),fun q hq=>(Zh (dk (h.tt q hq))).trans (h.tt q hq)⟩
theorem Zj3 {l:List (Ent×Addr)} {n s f m:Str} {d:Int} (h:ZI (l.map fun p=>(p.1.key,V.ref p.2)) (Ent.born n s d f m).key=none):Z5 n l=none:=by
 induction l with
 |nil=>rfl
 |cons p r ih =>
  unfold Z5;rw [Qr] at h;by_cases e:p.1.bornName=some n
  ·exfalso
   have ek:p.1.key=(Ent.born n s d f m).key:=by
    cases hp:p.1 with
    |born n' s' d' f' m' =>
     rw [hp] at e;cases (show n'=n from Qt e);rfl
    |_=>rw [hp] at e;cases e
   rw [Xa ek] at h;cases h
  ·rw [Qa e];by_cases ek:p.1.key=(Ent.born n s d f m).key
   ·rw [Xa ek] at h;cases h
   ·rw [XD ek] at h;exact ih h
theorem ZfS {B:Bk} {e:Ent} (h:XY B e=none):ZI B.keptD e.told.key=none∧B.kept.length<400∧∀n∈e.named,Known B n:=by
 unfold XY at h;by_cases f:B.full e=true
 ·rw [Qc f] at h;cases h
 rw [Qa f] at h;by_cases p:(e.named.all fun n=>(Z5 n B.kept).isSome)=false
 ·rw [Qc p] at h;cases h
 rw [Qa p] at h;by_cases t:(ZI B.keptD e.told.key).isSome=true
 ·rw [Qc t] at h;cases h
 refine ⟨by simpa using t,?_,fun n hn=>?_⟩
 ·unfold Bk.full at f;simp only [RN,Gj,not_or] at f;omega
 ·have:=p;rw [Bool.not_eq_false] at this;rw [Ru] at this;have:=this n hn;unfold Known;exact NJ.mp this
theorem Zek (e:Ent) (n:Str):n∈e.told.named->n∈e.named:=by
 cases e with
 |union a b d =>
  show n∈[(Zd a b).1,(Zd a b).2]->n∈[a,b];unfold Zd;split<;>simp<;>(intro h;rcases h with h|h<;>simp [h])
 |parted a b d =>
  show n∈[(Zd a b).1,(Zd a b).2]->n∈[a,b];unfold Zd;split<;>simp<;>(intro h;rcases h with h|h<;>simp [h])
 |_=>exact id
theorem Zen (n:Str):∀(l m:List (Ent×Addr)),Z5 n (l++m)=(Z5 n l).or (Z5 n m)
 |[],m=>by simp [Z5]
 |p::r,m=>by
  show (if p.1.bornName=some n then some p else Z5 n (r++m))=(if p.1.bornName=some n then some p else Z5 n r).or (Z5 n m);by_cases e:p.1.bornName=some n
  ·rw [Qc e,Qc e];rfl
  ·rw [Qa e,Qa e];exact Zen n r m
theorem Known.more {B B':Bk} {n:Str} {l:List (Ent×Addr)} (h:Known B n) (e:B'.kept=B.kept++l):Known B' n:=by
 unfold Known at *;rw [e,Zen];cases hb:Z5 n B.kept with
 |none=>exact absurd hb h
 |some p=>simp
noncomputable def XU (i:Int):Nat:=(97+i.fmod 26).toNat
theorem Zll (i:Int):X3 (XU i)=true:=by
 have h0:=QN i (show (0:Int)<26 by decide);have h1:=Q3 i (show (0:Int)<26 by decide);obtain ⟨m,hm,hl⟩:∃m:Nat,i.fmod 26=(m:Int)∧m<26:=⟨(i.fmod 26).toNat,by omega,by omega⟩;have e:XU i=97+m:=by unfold XU;rw [hm];omega
 rw [e];have go:∀m:Fin 26,X3 (97+m.val)=true:=by decide +kernel
 exact go ⟨m,hl⟩
theorem ZjW {i j:Int} (h:XU i=XU j):i.fmod 26=j.fmod 26:=by
 have h0:=QN i (show (0:Int)<26 by decide);have h1:=QN j (show (0:Int)<26 by decide);unfold XU at h;omega
theorem Zh8 (a b:Int) (h:a.fmod 26=b.fmod 26):∃q,a-b=26*q:=by
 have e1:=GO a 26;have e2:=GO b 26;refine ⟨a.fdiv 26-b.fdiv 26,?_⟩;rw [Int.mul_sub];omega
theorem ZmL {ns:List Int} {k:Nat} (h:k<ns.length):(ns.map V.int)[k]?=some (V.int (ns.getD k 0)):=by
 simp [List.getD,Qz h,h]
theorem Zli (i:Int):Yu U6.cps.toList (i.fmod 26)=some (XU i):=by
 have h0:=QN i (show (0:Int)<26 by decide);have h1:=Q3 i (show (0:Int)<26 by decide);obtain ⟨m,hm,hl⟩:∃m:Nat,i.fmod 26=(m:Int)∧m<26:=⟨(i.fmod 26).toNat,by omega,by omega⟩;have e:XU i=97+m:=by unfold XU;rw [hm];omega
 rw [e,hm];have go:∀m:Fin 26,U6.cps.toList[m.val]?=some (97+m.val):=by decide +kernel
 exact XI (go ⟨m,hl⟩)
theorem UO (l:List Nat):(⟨l.toArray⟩:Str).length=l.length:=by
 show l.toArray.size=_;rw [Qv]
theorem Zj8 (ns:List Int) (a b:Nat):∃cs:List Int,XR (ns.map V.int) (some (a:Int)) (some (b:Int))=cs.map V.int∧cs.length=min b ns.length-min a ns.length:=by
 refine ⟨(ns.drop (min a ns.length)).take (min b ns.length-min a ns.length),?_,?_⟩
 ·unfold XR;rw [Nr,List.map_drop,Qd,HT.sIx_nat,HT.sIx_nat]
 ·rw [QZ,GY];omega
noncomputable def Xz (bs:List (Ent×Addr)):List V:=bs.map fun p=>V.ref p.2
def Uj (K:W.Frag) (H:Hp) (bs:List (Ent×Addr)):Prop:=∀p∈bs,SqT K H p.2 (p.1.row.map kV)
theorem Zck {d:Int} (h1:-10 ^ 18≤d) (h2:d≤10 ^ 18):Zbr (.int d)=true:=by
 show decide ((if d<0 then -d else d)≤10 ^ 18)=true;exact Ql (by split<;>omega)
theorem Zex {x:Str} (h:x=""∨Nm x):Jb (.str x)=true:=by
 rcases h with h|h
 ·subst h;decide +kernel
 ·unfold Jb;rw [h.ok];rfl
theorem Zh0 {s:Str} (h:s="he"∨s="she"∨s=""):Vo (.str s)=true:=by
 rcases h with h|h|h<;>subst h<;>decide +kernel
theorem Uv {x:Str} (h:Nm x):x.length≤100:=Qm h.hi (by decide)
theorem ZiU {n s f m:Str} {d:Int} (hn:Nm n) (hs:s="he"∨s="she"∨s="") (d1:-10 ^ 18≤d) (d2:d≤10 ^ 18) (hf:f=""∨Nm f) (hm:m=""∨Nm m):(Ent.born n s d f m).Ok:=by
 refine ⟨?_,fun x hx=>?_⟩
 ·show W7 [.str "born",.str n,.str s,.int d,.str f,.str m]=true;rw [Jh,show WM "born"=some [.name,.sort,.day,.parent,.parent] by rfl];show XE _ _=true;unfold XE ZR;simp [ZR,VH,hn.ok,Zh0 hs,Zck d1 d2,Zex hf,Zex hm]
 ·have hf':f.length≤100:=hf.elim (fun h=>by subst h;decide +kernel) Uv;have hm':m.length≤100:=hm.elim (fun h=>by subst h;decide +kernel) Uv;have hs':s.length≤100:=by rcases hs with h|h|h<;>subst h<;>decide +kernel
  simp only [Ent.row,Qh,QS,QT] at hx;rcases hx with h|h|h|h|h|h
  ·cases h;decide +kernel
  ·cases h;exact Uv hn
  ·cases h;exact hs'
  ·cases h
  ·cases h;exact hf'
  ·cases h;exact hm'
theorem VO {w a b:Str} {d:Int} (hw:w="taken"∨w="union"∨w="parted") (ha:Nm a) (hb:Nm b) (d1:-10 ^ 18≤d) (d2:d≤10 ^ 18):W7 [.str w,.str a,.str b,.int d]=true:=by
 rw [Jh];have:WM w=some [.name,.name,.day]:=by rcases hw with h|h|h<;>subst h<;>rfl
 rw [this];show XE _ _=true;unfold XE;simp [ZR,VH,ha.ok,hb.ok,Zck d1 d2]
theorem VN {w a b:Str} {d:Int} (hw:w.length≤100) (ha:Nm a) (hb:Nm b):∀x:Str,(.inr x:Zi)∈([.inr w,.inr a,.inr b,.inl d]:List Zi)->x.length≤100:=fun x hx=>by
 simp only [Qh,QS,QT] at hx;rcases hx with h|h|h|h
 ·cases h;exact hw
 ·cases h;exact Uv ha
 ·cases h;exact Uv hb
 ·cases h
theorem Zed {n s f m:Str} {d:Int}:∀{l:List (Ent×Addr)},Ent.born n s d f m∈l.map (·.1)->(∀{s' d' f' m'},Ent.born n s' d' f' m'∈l.map (·.1)->Ent.born n s' d' f' m'=.born n s d f m)->∃a,Z5 n l=some (.born n s d f m,a)
 |[],h,_=>by cases h
 |p::r,h,u=>by
  unfold Z5;by_cases e:p.1.bornName=some n
  ·rw [Qc e];cases hp:p.1 with
   |born n' s' d' f' m' =>
    rw [hp] at e;cases (show n'=n from Qt e);have:=u (s':=s') (d':=d') (f':=f') (m':=m') (by rw [Qr,hp];exact QA ..);refine ⟨p.2,?_⟩;rw [←this,←hp]
   |_=>rw [hp] at e;cases e
  ·rw [Qa e]
   have h':Ent.born n s d f m∈r.map (·.1):=by
    rw [Qr] at h;rcases Qh.mp h with h|h
    ·exfalso;rw [←h] at e;exact e rfl
    ·exact h
   exact Zed h' fun hm=>u (by rw [Qr];exact Qy _ hm)
abbrev ZG:=Str×Str->List Str
abbrev XJ:=Str×Str->List (Int×Str)
noncomputable def VZ (p:ZG×XJ) (e:Ent):ZG×XJ:=(WG p.1 p.2 e,UL p.2 e)
noncomputable def Yx (es:List Ent):ZG×XJ:=es.foldl VZ (fun _=>[],fun _=>[])
theorem JZ (es:List Ent) (e:Ent):Yx (es++[e])=VZ (Yx es) e:=by
 unfold Yx;rw [GP];rfl
noncomputable def VD (n:Str):Ent->List Str
 |.born n' _ _ f _=>if n'=n∧f≠"" then [f] else []
 |_=>[]
noncomputable def VM (n:Str):Ent->List Str
 |.born n' _ _ _ m=>if n'=n∧m≠"" then [m] else []
 |_=>[]
noncomputable def Vp (n:Str):Ent->List Str
 |.born n' _ _ f _=>if f=n∧f≠"" then [n'] else []
 |_=>[]
noncomputable def Vn (n:Str):Ent->List Str
 |.born n' _ _ _ m=>if m=n∧m≠"" then [n'] else []
 |_=>[]
noncomputable def Vy (n:Str):Ent->List Str
 |.taken c t _=>if c=n then [t] else []
 |_=>[]
noncomputable def VT (n:Str):Ent->List Str
 |.taken c t _=>if t=n then [c] else []
 |_=>[]
theorem Zg7 {l:List Str} (h:l.Pairwise fun a b=>Yi a b=true):ZC l=l:=Uq (XA l) (W8 l) h
theorem Zl1 (l m:List Str):ZC (ZC l++m)=ZC (l++m) :=
 Uq ((XA _).trans (((XA l).append_right m).trans (XA _).symm)) (W8 _) (W8 _)
theorem YN (F:ZG) (l n l' n' m:Str):Z3 F (l,n) m (l',n')=if l'=l∧n'=n then ZC (F (l,n)++[m]) else F (l',n'):=by
 unfold Z3;by_cases h:l'=l∧n'=n
 ·obtain ⟨rfl,rfl⟩:=h;rw [Qc rfl,Qc ⟨rfl,rfl⟩]
 ·rw [Qa (fun e=>h (by injection e with a b;exact ⟨a,b⟩)),Qa h]
theorem Ym (F:ZG) (st:Bool) (x y l n:Str) (h:l≠"S"):ZL F st x y (l,n)=F (l,n):=by
 unfold ZL;rw [Qa (fun e=>h (by injection e))]
structure Adds (l:Str) (ad:Str->Ent->List Str):Prop where
 step:∀(F:ZG) (G:XJ) (e:Ent) (n:Str),(F (l,n)).Pairwise (fun a b=>Yi a b=true)->WG F G e (l,n)=ZC (F (l,n)++ad n e)
theorem Z2 {l:List Str} (h:l.Pairwise fun a b=>Yi a b=true):l=ZC (l++[]):=by rw [Qo,Zg7 h]
theorem UZ (F:ZG) (n f m l x:Str):Xk F n f m (l,x) =
  if l="F"∧x=n∧f≠"" then ZC (F ("F",n)++[f]) else if l="f"∧x=f∧f≠"" then ZC (F ("f",f)++[n]) else
  if l="M"∧x=n∧m≠"" then ZC (F ("M",n)++[m]) else if l="m"∧x=m∧m≠"" then ZC (F ("m",m)++[n]) else F (l,x):=by
 have d1:("F" : Str)≠"f":=by decide +kernel
 have d2:("F" : Str)≠"M":=by decide +kernel
 have d3:("F" : Str)≠"m":=by decide +kernel
 have d4:("f" : Str)≠"M":=by decide +kernel
 have d5:("f" : Str)≠"m":=by decide +kernel
 have d6:("M" : Str)≠"m":=by decide +kernel
 unfold Xk;by_cases f0:f=""<;>by_cases m0:m=""<;>simp only [f0,m0,Q0,QQ,YN,ne_eq,not_true_eq_false,not_false_eq_true,and_false,and_true]
 ·by_cases h1:l="m"∧x=m
  ·obtain ⟨rfl,rfl⟩:=h1;simp [d3.symm,d5.symm,d6.symm,d6]
  ·by_cases h2:l="M"∧x=n
   ·obtain ⟨rfl,rfl⟩:=h2;simp [d6]
   ·simp [h1,h2]
 ·by_cases h1:l="f"∧x=f
  ·obtain ⟨rfl,rfl⟩:=h1;simp [d1,d1.symm]
  ·by_cases h2:l="F"∧x=n
   ·obtain ⟨rfl,rfl⟩:=h2;simp [d1]
   ·simp [h1,h2]
 ·by_cases h1:l="m"∧x=m
  ·obtain ⟨rfl,rfl⟩:=h1;simp [d3.symm,d5.symm,d6.symm,d6,d3,d5]
  ·by_cases h2:l="M"∧x=n
   ·obtain ⟨rfl,rfl⟩:=h2;simp [d6,d2,d4,d2.symm,d4.symm]
   ·by_cases h3:l="f"∧x=f
    ·obtain ⟨rfl,rfl⟩:=h3;simp [d1,d1.symm,d4,d5]
    ·by_cases h4:l="F"∧x=n
     ·obtain ⟨rfl,rfl⟩:=h4;simp [d1,d2,d3]
     ·simp [h1,h2,h3,h4]
theorem Zcj:Adds "F" VD:=⟨fun F G e n s=>by
 cases e with
 |born n' s' d f m =>
  show Xk F n' f m ("F",n)=_;rw [UZ];dsimp only [VD];by_cases h:n'=n∧f≠""
  ·rw [Qc h,Qc ⟨rfl,h.1.symm,h.2⟩,h.1]
  ·rw [Qa h,Qa (fun z=>h ⟨z.2.1.symm,z.2.2⟩),Qa (fun z=>absurd z.1 (by decide +kernel)),Qa (fun z=>absurd z.1 (by decide +kernel)),Qa (fun z=>absurd z.1 (by decide +kernel))];exact Z2 s
 |taken c t d=>show Z3 (Z3 F ("T",c) t) ("t",t) c ("F",n)=_;rw [YN,Qa (fun z=>absurd z.1 (by decide +kernel)),YN,Qa (fun z=>absurd z.1 (by decide +kernel))];exact Z2 s
 |union a b d=>show ZL _ _ _ _ _=_;rw [Ym _ _ _ _ _ _ (by decide +kernel),Ym _ _ _ _ _ _ (by decide +kernel)];exact Z2 s
 |parted a b d=>show ZL _ _ _ _ _=_;rw [Ym _ _ _ _ _ _ (by decide +kernel),Ym _ _ _ _ _ _ (by decide +kernel)];exact Z2 s
 |dead a d=>exact Z2 s
 |given a b am d=>exact Z2 s⟩
theorem ZbP:Adds "M" VM:=⟨fun F G e n s=>by
 cases e with
 |born n' s' d f m =>
  show Xk F n' f m ("M",n)=_;rw [UZ,Qa (fun z=>absurd z.1 (by decide +kernel)),Qa (fun z=>absurd z.1 (by decide +kernel))];dsimp only [VM];by_cases h:n'=n∧m≠""
  ·rw [Qc h,Qc ⟨rfl,h.1.symm,h.2⟩,h.1]
  ·rw [Qa h,Qa (fun z=>h ⟨z.2.1.symm,z.2.2⟩),Qa (fun z=>absurd z.1 (by decide +kernel))];exact Z2 s
 |taken c t d=>show Z3 (Z3 F ("T",c) t) ("t",t) c ("M",n)=_;rw [YN,Qa (fun z=>absurd z.1 (by decide +kernel)),YN,Qa (fun z=>absurd z.1 (by decide +kernel))];exact Z2 s
 |union a b d=>show ZL _ _ _ _ _=_;rw [Ym _ _ _ _ _ _ (by decide +kernel),Ym _ _ _ _ _ _ (by decide +kernel)];exact Z2 s
 |parted a b d=>show ZL _ _ _ _ _=_;rw [Ym _ _ _ _ _ _ (by decide +kernel),Ym _ _ _ _ _ _ (by decide +kernel)];exact Z2 s
 |dead a d=>exact Z2 s
 |given a b am d=>exact Z2 s⟩
theorem ZbO:Adds "f" Vp:=⟨fun F G e n s=>by
 cases e with
 |born n' s' d f m =>
  show Xk F n' f m ("f",n)=_;rw [UZ,Qa (fun z=>absurd z.1 (by decide +kernel))];dsimp only [Vp];by_cases h:f=n∧f≠""
  ·rw [Qc h,Qc ⟨rfl,h.1.symm,h.2⟩,h.1]
  ·rw [Qa h,Qa (fun z=>h ⟨z.2.1.symm,z.2.2⟩),Qa (fun z=>absurd z.1 (by decide +kernel)),Qa (fun z=>absurd z.1 (by decide +kernel))];exact Z2 s
 |taken c t d=>show Z3 (Z3 F ("T",c) t) ("t",t) c ("f",n)=_;rw [YN,Qa (fun z=>absurd z.1 (by decide +kernel)),YN,Qa (fun z=>absurd z.1 (by decide +kernel))];exact Z2 s
 |union a b d=>show ZL _ _ _ _ _=_;rw [Ym _ _ _ _ _ _ (by decide +kernel),Ym _ _ _ _ _ _ (by decide +kernel)];exact Z2 s
 |parted a b d=>show ZL _ _ _ _ _=_;rw [Ym _ _ _ _ _ _ (by decide +kernel),Ym _ _ _ _ _ _ (by decide +kernel)];exact Z2 s
 |dead a d=>exact Z2 s
 |given a b am d=>exact Z2 s⟩
theorem Zb5:Adds "m" Vn:=⟨fun F G e n s=>by
 cases e with
 |born n' s' d f m =>
  show Xk F n' f m ("m",n)=_;rw [UZ,Qa (fun z=>absurd z.1 (by decide +kernel)),Qa (fun z=>absurd z.1 (by decide +kernel)),Qa (fun z=>absurd z.1 (by decide +kernel))];dsimp only [Vn];by_cases h:m=n∧m≠""
  ·rw [Qc h,Qc ⟨rfl,h.1.symm,h.2⟩,h.1]
  ·rw [Qa h,Qa (fun z=>h ⟨z.2.1.symm,z.2.2⟩)];exact Z2 s
 |taken c t d=>show Z3 (Z3 F ("T",c) t) ("t",t) c ("m",n)=_;rw [YN,Qa (fun z=>absurd z.1 (by decide +kernel)),YN,Qa (fun z=>absurd z.1 (by decide +kernel))];exact Z2 s
 |union a b d=>show ZL _ _ _ _ _=_;rw [Ym _ _ _ _ _ _ (by decide +kernel),Ym _ _ _ _ _ _ (by decide +kernel)];exact Z2 s
 |parted a b d=>show ZL _ _ _ _ _=_;rw [Ym _ _ _ _ _ _ (by decide +kernel),Ym _ _ _ _ _ _ (by decide +kernel)];exact Z2 s
 |dead a d=>exact Z2 s
 |given a b am d=>exact Z2 s⟩
theorem JN (F:ZG) (n f m l x:Str) (h1:l≠"F") (h2:l≠"f") (h3:l≠"M") (h4:l≠"m"):Xk F n f m (l,x)=F (l,x):=by
 rw [UZ,Qa (fun z=>h1 z.1),Qa (fun z=>h2 z.1),Qa (fun z=>h3 z.1),Qa (fun z=>h4 z.1)]
theorem ZcR:Adds "T" Vy:=⟨fun F G e n s=>by
 cases e with
 |born n' s' d f m=>show Xk F n' f m ("T",n)=_;rw [JN _ _ _ _ _ _ (by decide +kernel) (by decide +kernel) (by decide +kernel) (by decide +kernel)];exact Z2 s
 |taken c t d =>
  show Z3 (Z3 F ("T",c) t) ("t",t) c ("T",n)=_;rw [YN,Qa (fun z=>absurd z.1 (by decide +kernel)),YN];dsimp only [Vy];by_cases h:c=n
  ·rw [Qc h,Qc ⟨rfl,h.symm⟩,h]
  ·rw [Qa h,Qa (fun z=>h z.2.symm)];exact Z2 s
 |union a b d=>show ZL _ _ _ _ _=_;rw [Ym _ _ _ _ _ _ (by decide +kernel),Ym _ _ _ _ _ _ (by decide +kernel)];exact Z2 s
 |parted a b d=>show ZL _ _ _ _ _=_;rw [Ym _ _ _ _ _ _ (by decide +kernel),Ym _ _ _ _ _ _ (by decide +kernel)];exact Z2 s
 |dead a d=>exact Z2 s
 |given a b am d=>exact Z2 s⟩
theorem ZcS:Adds "t" VT:=⟨fun F G e n s=>by
 cases e with
 |born n' s' d f m=>show Xk F n' f m ("t",n)=_;rw [JN _ _ _ _ _ _ (by decide +kernel) (by decide +kernel) (by decide +kernel) (by decide +kernel)];exact Z2 s
 |taken c t d =>
  show Z3 (Z3 F ("T",c) t) ("t",t) c ("t",n)=_;rw [YN];dsimp only [VT];by_cases h:t=n
  ·rw [Qc h,Qc ⟨rfl,h.symm⟩,YN,Qa (fun z=>absurd z.1 (by decide +kernel)),h]
  ·rw [Qa h,Qa (fun z=>h z.2.symm),YN,Qa (fun z=>absurd z.1 (by decide +kernel))];exact Z2 s
 |union a b d=>show ZL _ _ _ _ _=_;rw [Ym _ _ _ _ _ _ (by decide +kernel),Ym _ _ _ _ _ _ (by decide +kernel)];exact Z2 s
 |parted a b d=>show ZL _ _ _ _ _=_;rw [Ym _ _ _ _ _ _ (by decide +kernel),Ym _ _ _ _ _ _ (by decide +kernel)];exact Z2 s
 |dead a d=>exact Z2 s
 |given a b am d=>exact Z2 s⟩
theorem Adds.all {l:Str} {ad:Str->Ent->List Str} (A:Adds l ad) (n:Str):∀es:List Ent,(Yx es).1 (l,n)=ZC (es.flatMap (ad n)):=by
 intro es
 have go:∀(es:List Ent) (p:ZG×XJ) (xs:List Str),p.1 (l,n)=ZC xs->(es.foldl VZ p).1 (l,n)=ZC (xs++es.flatMap (ad n)):=by
  intro es
  induction es with
  |nil=>intro p xs h;rw [List.flatMap_nil,Qo];exact h
  |cons e es ih =>
   intro p xs h;rw [Rn,Gm,←GQ];refine ih _ (xs++ad n e) ?_;show WG p.1 p.2 e (l,n)=_;rw [A.step p.1 p.2 e n (by rw [h];exact W8 _),h,Zl1]
 exact go es _ [] (Zg7 .nil).symm
noncomputable def Ent.pr:Ent->Str×Str
 |.union a b _=>(a,b)
 |.parted a b _=>(a,b)
 |_=>("","")
noncomputable def Ent.kind:Ent->Str
 |.union ..=>"union"
 |.parted ..=>"parted"
 |_=>""
def X8 (e:Ent):Prop:=e.tie=true->e.pr.1≠e.pr.2
theorem ZcM {a b n w:Str} (h:Zd n w=Zd a b):(n=a∧w=b)∨(n=b∧w=a):=by
 unfold Zd at h;split at h<;>split at h<;>injection h with h1 h2
 ·exact .inl ⟨h2,h1⟩
 ·exact .inr ⟨h2,h1⟩
 ·exact .inr ⟨h1,h2⟩
 ·exact .inl ⟨h1,h2⟩
noncomputable def Wn (st:Bool) (L:List Str) (y:Str):List Str:=if st=true then ZC (L.filter (fun n=>decide (n≠y))++[y]) else L.filter fun n=>decide (n≠y)
theorem Zew {st:Bool} {L:List Str} {y:Str} (h:L.Pairwise fun a b=>Yi a b=true):(Wn st L y).Pairwise fun a b=>Yi a b=true:=by
 unfold Wn;split
 ·exact W8 _
 ·exact h.filter _
theorem Zhg {p:Str->Bool} {L:List Str} (h:L.Nodup):(L.filter p).Nodup:=List.Pairwise.filter p h
theorem Zeg {st:Bool} {L:List Str} {y:Str} (h:L.Nodup):(Wn st L y).Nodup:=by
 unfold Wn;split
 ·refine (XA _).symm.nodup ?_;rw [Q2];refine ⟨Zhg h,by simp,fun a ha b hb e=>?_⟩;have:b=y:=by simpa using hb
  subst this e;have:=(Q7.mp ha).2;simp at this
 ·exact Zhg h
theorem Zez {st:Bool} {L:List Str} {y w:Str}:w∈Wn st L y↔(w≠y∧w∈L)∨(w=y∧st=true):=by
 unfold Wn;by_cases h:st=true
 ·rw [Qc h,(XA _).mem_iff,Qn,Q7];simp [h,and_comm]
 ·rw [Qa h,Q7];simp [h,and_comm]
theorem Zcq (F:ZG) (st:Bool) (x y n:Str):ZL F st x y ("S",n)=if n=x then Wn st (F ("S",x)) y else F ("S",n):=by
 unfold ZL Wn;by_cases h:n=x
 ·subst h;rw [Qc rfl,Qc rfl]
 ·rw [Qa (fun e=>h (by injection e)),Qa h]
structure SOk (F:ZG) (G:XJ):Prop where
 up:∀n,(F ("S",n)).Pairwise fun a b=>Yi a b=true
 nd:∀n,(F ("S",n)).Nodup
 mem:∀n w,w∈F ("S",n)↔YK (G (Zd n w))=true
theorem Zgf {F:ZG} {G:XJ} {a b:Str} (ne:a≠b) (h:SOk F G) (l:List (Int×Str)) :
  SOk (ZL (ZL F (YK l) a b) (YK l) b a) (fun c=>if c=Zd a b then l else G c):=by
 have e:∀n,ZL (ZL F (YK l) a b) (YK l) b a ("S",n)=if n=b then Wn (YK l) (F ("S",b)) a else if n=a then Wn (YK l) (F ("S",a)) b else F ("S",n):=fun n=>by
  rw [Zcq];by_cases h1:n=b
  ·rw [Qc h1,Qc h1,Zcq,Qa ne.symm]
  ·rw [Qa h1,Qa h1,Zcq]
 refine ⟨fun n=>?_,fun n=>?_,fun n w=>?_⟩
 ·rw [e];split
  ·exact Zew (h.up _)
  ·split
   ·exact Zew (h.up _)
   ·exact h.up _
 ·rw [e];split
  ·exact Zeg (h.nd _)
  ·split
   ·exact Zeg (h.nd _)
   ·exact h.nd _
 ·rw [e];show _↔YK (if Zd n w=Zd a b then l else G (Zd n w))=true;by_cases h1:n=b
  ·subst h1;rw [Qc rfl,Zez];by_cases h2:w=a
   ·subst h2;rw [Qc (J5 n w)];simp
   ·rw [Qa (fun z=>(ZcM z).elim (fun e=>ne e.1.symm) fun e=>h2 e.2),←h.mem];simp [h2]
  ·rw [Qa h1];by_cases h3:n=a
   ·subst h3;rw [Qc rfl,Zez];by_cases h2:w=b
    ·subst h2;rw [Qc rfl];simp
    ·rw [Qa (fun z=>(ZcM z).elim (fun e=>h2 e.2) fun e=>h1 e.1),←h.mem];simp [h2]
   ·rw [Qa h3,Qa (fun z=>(ZcM z).elim (fun e=>h3 e.1) fun e=>h1 e.1),←h.mem]
theorem SOk.same {F F':ZG} {G:XJ} (h:SOk F G) (e:∀n,F' ("S",n)=F ("S",n)):SOk F' G:=⟨fun n=>by rw [e];exact h.up n,fun n=>by rw [e];exact h.nd n,fun n w=>by rw [e];exact h.mem n w⟩
theorem Zly {F:ZG} {G:XJ} {e:Ent} (ap:X8 e) (h:SOk F G):SOk (WG F G e) (UL G e):=by
 cases e with
 |union a b d=>exact Zgf (ap rfl) h _
 |parted a b d=>exact Zgf (ap rfl) h _
 |born n s d f m=>exact h.same fun n'=>JN _ _ _ _ _ _ (by decide +kernel) (by decide +kernel) (by decide +kernel) (by decide +kernel)
 |taken c t d =>
  refine h.same fun n'=>?_;show Z3 (Z3 F ("T",c) t) ("t",t) c ("S",n')=_;rw [YN,Qa (fun z=>absurd z.1 (by decide +kernel)),YN,Qa (fun z=>absurd z.1 (by decide +kernel))]
 |dead n d=>exact h.same fun n'=>rfl
 |given a b am d=>exact h.same fun n'=>rfl
theorem ZeK {es:List Ent} (h:∀e∈es,X8 e):SOk (Yx es).1 (Yx es).2:=by
 have go:∀(es:List Ent) (p:ZG×XJ),(∀e∈es,X8 e)->SOk p.1 p.2->SOk (es.foldl VZ p).1 (es.foldl VZ p).2:=by
  intro es
  induction es with
  |nil=>intro p _ h;exact h
  |cons e es ih =>
   intro p ha h;exact ih _ (fun x hx=>ha x (Qy _ hx)) (Zly (ha e (QA ..)) h)
 exact go es _ h ⟨fun n=>.nil,fun n=>.nil,fun n w=>by simp [YK]⟩
noncomputable def tl (c:Str×Str) (es:List Ent):List (Int×Str):=es.filterMap fun e=>if e.tie=true∧Zd e.pr.1 e.pr.2=c then some (e.day,e.kind) else none
theorem ZgR {l:List (Int×Str)} {d:Int} {k:Str} (h:d∉l.map (·.1)):Zn l d k=l++[(d,k)]:=by
 unfold Zn;rw [Qa];intro z;rw [Gk] at z;obtain ⟨q,hq,e⟩:=z;exact h (Qg.mpr ⟨q,hq,QE e⟩)
theorem ZlS {G:XJ} {es:List Ent} {e:Ent} (hG:∀c,G c=tl c es) (n:e.tie=true->e.day∉(tl (Zd e.pr.1 e.pr.2) es).map (·.1)) (c:Str×Str):UL G e c=tl c (es++[e]):=by
 have ap:tl c (es++[e])=tl c es++tl c [e]:=by unfold tl;rw [RB]
 rw [ap];cases e with
 |union a b d =>
  show (if c=Zd a b then Zn (G (Zd a b)) d "union" else G c)=_;by_cases h:c=Zd a b
  ·subst h;have n':d∉(tl (Zd a b) es).map (·.1):=n rfl;rw [Qc rfl,hG,ZgR n'];simp [tl,Ent.tie,Ent.pr,Ent.day,Ent.kind]
  ·rw [Qa h,hG];simp [tl,Ent.tie,Ent.pr,QX h]
 |parted a b d =>
  show (if c=Zd a b then Zn (G (Zd a b)) d "parted" else G c)=_;by_cases h:c=Zd a b
  ·subst h;have n':d∉(tl (Zd a b) es).map (·.1):=n rfl;rw [Qc rfl,hG,ZgR n'];simp [tl,Ent.tie,Ent.pr,Ent.day,Ent.kind]
  ·rw [Qa h,hG];simp [tl,Ent.tie,Ent.pr,QX h]
 |_=>rw [show UL G _ c=G c from rfl,hG];simp [tl,Ent.tie]
def Once (es:List Ent):Prop:=∀c,((tl c es).map (·.1)).Nodup
theorem Once.init {es:List Ent} {e:Ent} (h:Once (es++[e])):Once es∧(e.tie=true->e.day∉(tl (Zd e.pr.1 e.pr.2) es).map (·.1)):=by
 have ap:∀c,tl c (es++[e])=tl c es++tl c [e]:=fun c=>by unfold tl;rw [RB]
 refine ⟨fun c=>?_,fun t m=>?_⟩
 ·have:=h c;rw [ap,Qp,Q2] at this;exact this.1
 ·have:=h (Zd e.pr.1 e.pr.2);rw [ap,Qp,Q2] at this;have e1:tl (Zd e.pr.1 e.pr.2) [e]=[(e.day,e.kind)]:=by simp [tl,t]
  rw [e1] at this;exact this.2.2 _ m _ (QA ..) rfl
theorem ZgY {es:List Ent} (h:Once es) (c:Str×Str):(Yx es).2 c=tl c es:=by
 have go:∀n (es:List Ent),es.length=n->Once es->∀c,(Yx es).2 c=tl c es:=by
  intro n
  induction n with
  |zero =>
   intro es hl _ c;rw [List.length_eq_zero_iff.mp hl];rfl
  |succ n ih =>
   intro es hl ho c;obtain ⟨xs,x,rfl⟩:∃xs x,es=xs++[x]:=⟨es.dropLast,es.getLast (by intro z;rw [z] at hl;cases hl),(NK _).symm⟩;obtain ⟨o1,o2⟩:=ho.init;rw [JZ];exact ZlS (ih xs (by rw [Qx] at hl;exact Nat.succ.inj hl) o1) o2 c
 exact go _ es rfl h c
noncomputable def WK (a b:Str) (last:Option Ent) (e:Ent):Option Ent:=if e.tie=true∧Zd e.pr.1 e.pr.2=Zd a b then (match last with|none=>some e|some l=>if l.day<e.day then some e else some l) else last
noncomputable def Za8 (ds:List Ent) (a b:Str):Bool:=match ds.foldl (WK a b) none with
 |some e=>decide (e.kind="union")
 |none=>false
def UB (last:Option Ent) (l:List (Int×Str)):Prop:=match last with
 |none=>l=[]
 |some e=>(e.day,e.kind)∈l∧∀q∈l,q.1≤e.day
theorem ZkN {a b:Str} {last:Option Ent} {xs:List Ent} {e:Ent} (h:UB last (tl (Zd a b) xs)):UB (WK a b last e) (tl (Zd a b) (xs++[e])):=by
 have ap:tl (Zd a b) (xs++[e])=tl (Zd a b) xs++tl (Zd a b) [e]:=by unfold tl;rw [RB]
 rw [ap];unfold WK;by_cases c:e.tie=true∧Zd e.pr.1 e.pr.2=Zd a b
 ·rw [Qc c];have e1:tl (Zd a b) [e]=[(e.day,e.kind)]:=by unfold tl;simp [c.1,c.2]
  rw [e1];cases last with
  |none =>
   have h':tl (Zd a b) xs=[]:=h;rw [h'];exact ⟨QA ..,fun q hq=>by rw [show q=(e.day,e.kind) by simpa using hq];exact GM _⟩
  |some l =>
   obtain ⟨h1,h2⟩:=(show (l.day,l.kind)∈tl (Zd a b) xs∧∀q∈tl (Zd a b) xs,q.1≤l.day from h);by_cases lt:l.day<e.day
   ·show UB (if l.day<e.day then some e else some l) _;rw [Qc lt];refine ⟨by simp,fun q hq=>?_⟩;rcases Qn.mp hq with hq|hq
    ·have:=h2 q hq;show q.1≤e.day;omega
    ·rw [show q=(e.day,e.kind) by simpa using hq];exact GM _
   ·show UB (if l.day<e.day then some e else some l) _;rw [Qa lt];refine ⟨Qn.mpr (.inl h1),fun q hq=>?_⟩;rcases Qn.mp hq with hq|hq
    ·exact h2 q hq
    ·rw [show q=(e.day,e.kind) by simpa using hq];show e.day≤l.day;omega
 ·rw [Qa c];have e1:tl (Zd a b) [e]=[]:=by unfold tl;simp [c]
  rw [e1,Qo];exact h
theorem Zhy {a b:Str}:∀(ds xs:List Ent) (last:Option Ent),UB last (tl (Zd a b) xs)->UB (ds.foldl (WK a b) last) (tl (Zd a b) (xs++ds))
 |[],xs,last,h=>by rw [Qo];exact h
 |e::ds,xs,last,h=>by
  rw [Rn,show xs++e::ds=(xs++[e])++ds by simp];exact Zhy ds (xs++[e]) _ (ZkN h)
theorem ZkT {l:List (Int×Str)} {m:Int} {k:Str}:(l.map (·.1)).Nodup->(m,k)∈l->Zy m l=some k:=by
 induction l with
 |nil=>intro _ h;cases h
 |cons q r ih =>
  intro n h;rw [Qr,QH] at n;unfold Zy;rcases Qh.mp h with h|h
  ·rw [Qc (by rw [←h]),←h]
  ·rw [Qa (fun z=>n.1 (Qg.mpr ⟨(m,k),h,z.symm⟩))];exact ih n.2 h
theorem ZoL {ds:List Ent} (o:Once ds) (a b:Str):Za8 ds a b=YK (tl (Zd a b) ds):=by
 have h:=Zhy (a:=a) (b:=b) ds [] none rfl;rw [List.nil_append] at h;unfold Za8;cases hl:ds.foldl (WK a b) none with
 |none =>
  rw [hl] at h;rw [show tl (Zd a b) ds=[] from h];rfl
 |some e =>
  rw [hl] at h;obtain ⟨h1,h2⟩:=(show (e.day,e.kind)∈tl (Zd a b) ds∧∀q∈tl (Zd a b) ds,q.1≤e.day from h)
  have:=Zfk (l:=tl (Zd a b) ds) (m:=e.day) (x:=e.kind) (Qg.mpr ⟨_,h1,rfl⟩) (fun y hy=>by
   obtain ⟨q,hq,rfl⟩:=Qg.mp hy;exact h2 q hq) (ZkT (o _) h1)
  rw [this]
theorem Zfb (e:Ent):e.told.tie=e.tie∧Zd e.told.pr.1 e.told.pr.2=Zd e.pr.1 e.pr.2∧e.told.day=e.day∧e.told.kind=e.kind:=by
 cases e with
 |union a b d=>exact ⟨rfl,Wy a b,rfl,rfl⟩
 |parted a b d=>exact ⟨rfl,Wy a b,rfl,rfl⟩
 |_=>exact ⟨rfl,rfl,rfl,rfl⟩
theorem ZjE {e:Ent} (h:X8 e):X8 e.told:=fun t=>by
 obtain ⟨h1,h2,_,_⟩:=Zfb e;rw [h1] at t;have ne:=h t;intro z;apply ne
 have:∀a b:Str,(Zd a b).1=(Zd a b).2->a=b:=fun a b h=>by
  unfold Zd at h;split at h
  ·exact h.symm
  ·exact h
 cases e with
 |union a b d=>exact this a b z
 |parted a b d=>exact this a b z
 |_=>cases t
theorem Zd5 {f:Ent->List Str} (h:∀e,(f e).length≤1):∀l:List Ent,(l.flatMap f).length≤l.length
 |[]=>Qf _
 |e::l=>by
  rw [Gm,Qx,QJ];have:=Zd5 h l;have:=h e;omega
theorem UA (n:Str) (e:Ent):(VD n e).length≤1∧(VM n e).length≤1∧(Vp n e).length≤1∧(Vn n e).length≤1∧(Vy n e).length≤1∧(VT n e).length≤1:=by
 cases e<;>simp only [VD,VM,Vp,Vn,Vy,VT]<;>refine ⟨?_,?_,?_,?_,?_,?_⟩<;>(try split)<;>simp
theorem ZhM {es:List Ent} {l:Str} (h:l∉Xn) (n:Str):(Yx es).1 (l,n)=[]:=by
 have hh:l≠"F"∧l≠"M"∧l≠"T"∧l≠"f"∧l≠"m"∧l≠"t"∧l≠"S":=by simpa [Xn] using h
 obtain ⟨h1,h2,h3,h4,h5,h6,h7⟩:=hh
 have go:∀(es:List Ent) (p:ZG×XJ),p.1 (l,n)=[]->(es.foldl VZ p).1 (l,n)=[]:=by
  intro es
  induction es with
  |nil=>intro p h;exact h
  |cons e es ih =>
   intro p h;rw [Rn];refine ih _ ?_;show WG p.1 p.2 e (l,n)=[];cases e with
   |born n' s d f m=>show Xk p.1 n' f m (l,n)=[];rw [JN _ _ _ _ _ _ h1 h4 h2 h5];exact h
   |taken c t d=>show Z3 (Z3 p.1 ("T",c) t) ("t",t) c (l,n)=[];rw [YN,Qa (fun z=>h6 z.1),YN,Qa (fun z=>h3 z.1)];exact h
   |union a b d=>show ZL _ _ _ _ _=[];rw [Ym _ _ _ _ _ _ h7,Ym _ _ _ _ _ _ h7];exact h
   |parted a b d=>show ZL _ _ _ _ _=[];rw [Ym _ _ _ _ _ _ h7,Ym _ _ _ _ _ _ h7];exact h
   |dead a d=>exact h
   |given a b am d=>exact h
 exact go es _ rfl
structure BSt (B:Bk) (es:List Ent):Prop where
 kept:B.kept.map (·.1)=es
 lks:lk B.links=(Yx es).1
 tis:YS B.ties=(Yx es).2
 nd:(B.ties.map (·.1)).Nodup
 nl:B.links.length≤4*es.length
 nt:B.ties.length≤es.length
 ns:B.sums.length≤es.length
theorem BSt.start:BSt VS []:=⟨rfl,rfl,rfl,.nil,Qf _,Qf _,Qf _⟩
theorem BSt.put {B B':Bk} {es:List Ent} {e:Ent} (h:BSt B es) (p:Put B e B'):BSt B' (es++[e.told]):=by
 obtain ⟨a,hk⟩:=p.kept;have l1:(es++[e.told]).length=es.length+1:=by rw [Qx];rfl
 have n1:=p.nl;have n2:=p.nt;have n3:=p.ns;have m1:=h.nl;have m2:=h.nt;have m3:=h.ns;refine ⟨by rw [hk,Qp,h.kept];rfl,?_,?_,p.nd,by omega,by omega,by omega⟩
 ·funext c
  rw [JZ,p.lks,h.lks,h.tis];rfl
 ·funext c
  rw [JZ,p.tis,h.tis];rfl
theorem ZkX (c:Str×Str) (es:List Ent):(tl c es).length≤es.length:=GI ..
theorem Zd0 {κ:Type} [DecidableEq κ] {k:κ}:∀{l:List (κ×V)},(∀p∈l,p.1≠k)->ZI l k=none
 |[],_=>rfl
 |p::l,h=>by
  rw [XD (h p (QA ..))];exact Zd0 fun q hq=>h q (Qy _ hq)
theorem Zoe {B:Bk} {es:List Ent} (hk:B.kept.map (·.1)=es) {k:List Zi} (h:∀e∈es,e.key≠k):ZI B.keptD k=none:=by
 refine Zd0 fun p hp=>?_;obtain ⟨q,hq,rfl⟩:=Qg.mp hp;exact h q.1 (by rw [←hk];exact Qg.mpr ⟨q,hq,rfl⟩)
theorem Zb0 {B:Bk} {es:List Ent} (hk:B.kept.map (·.1)=es):B.kept.length=es.length:=by rw [←hk,Qd]
theorem ZdH {bs:List (Ent×Addr)} {i:Nat} {y:V} (h:(Xz bs)[i]?=some y):∃p,bs[i]?=some p∧y=.ref p.2:=by
 unfold Xz at h;rw [Qu] at h;obtain ⟨p,hp,e⟩:=QL.mp h;exact ⟨p,hp,e.symm⟩
theorem V8 (bs:List (Ent×Addr)):(Xz bs).length=bs.length:=by unfold Xz;rw [Qd]
theorem ZlD {ds:List (Ent×Addr)} {i:Nat} {p:Ent×Addr} (h:ds[i]?=some p):ds.take (i+1)=ds.take i++[p]:=by
 rw [Ro,h];rfl
theorem Zgg {bs:List (Ent×Addr)} {i:Nat} {p:Ent×Addr} (h:bs[i]?=some p):(bs.take (i+1)).map (·.1)=(bs.take i).map (·.1)++[p.1]:=by
 rw [ZlD h,Qp];rfl
theorem Znf (l:List (Ent×Addr)):(Bk.bornD l).length=(Y9 l).length:=by rw [Zhn,Qd,←ZfE,Qd]
theorem Zkj {n:Str} {d:Int} (hn:Nm n) (d1:-10 ^ 18≤d) (d2:d≤10 ^ 18):(Ent.dead n d).Ok:=by
 refine ⟨?_,fun y hy=>?_⟩
 ·show W7 [.str "dead",.str n,.int d]=true;rw [Jh,show WM "dead"=some [.name,.day] by rfl];show XE _ _=true;unfold XE;simp [ZR,VH,hn.ok,Zck d1 d2]
 ·simp only [Ent.row,Qh,QS,QT] at hy;rcases hy with h|h|h
  ·cases h;decide +kernel
  ·cases h;exact Uv hn
  ·cases h
noncomputable def amt (c:Str×Str):Ent->Int
 |.given g t am _=>if c=(g,t) then am else 0
 |_=>0
noncomputable def Jv (c:Str×Str) (es:List Ent):Int:=(es.map (amt c)).sum
theorem Zn9 (c:Str×Str) (es:List Ent) (e:Ent):Jv c (es++[e])=Jv c es+amt c e:=by
 unfold Jv;rw [Qp,List.sum_append];simp
theorem Zhu {F:Str×Str->List Str} {st:Bool} {a b:Str} (ne:a≠b) (c:Str×Str):(ZL (ZL F st a b) st b a c).length≤(F c).length+1:=by
 by_cases e:c=(("S",b):Str×Str)
 ·refine Qm (Zdv ..) ?_
  have:ZL F st a b c=F c:=by
   unfold ZL;rw [Qa];intro z;rw [e] at z;injection z with _ z2;exact ne z2.symm
  rw [this];exact Qf _
 ·have:ZL (ZL F st a b) st b a c=ZL F st a b c:=by
   show (if c=(("S",b):Str×Str) then _ else ZL F st a b c)=_;rw [Qa e]
  rw [this];exact Zdv ..
def D5 (pool:List Str) (e:Ent):Prop:=e.Ok∧(∀n∈e.named,n∈pool)∧∀n,e.bornName=some n->n∈pool
noncomputable def LBk (ks:List (Ent×Addr)):Bk:=⟨ks,[],[],[]⟩
structure KsOk (ks:List (Ent×Addr)):Prop where
 told:∀p∈ks,p.1.told=p.1
 nd:(Y9 ks).Nodup
 len:ks.length≤60
theorem Zlg {k:List Zi}:∀{l m:List (Ent×Addr)},l.map (·.1)=m.map (·.1)->(ZI (l.map fun p=>(p.1.key,V.ref p.2)) k).isSome=(ZI (m.map fun p=>(p.1.key,V.ref p.2)) k).isSome:=by
 intro l
 induction l with
 |nil=>intro m h;cases m with
  |nil=>rfl
  |cons q m=>cases h
 |cons p l ih=>intro m h;cases m with
  |nil=>cases h
  |cons q m =>
   have h1:p.1=q.1:=(GR h).1;have h2:=(GR h).2;rw [Qr,Qr];by_cases c:p.1.key=k
   ·rw [Xa (show (p.1.key,V.ref p.2).1=k from c),Xa (show q.1.key=k by rw [←h1];exact c)];rfl
   ·rw [XD (show ¬(p.1.key,V.ref p.2).1=k from c),XD (show ¬q.1.key=k by rw [←h1];exact c)];exact ih h2
theorem Zis {k:List Zi}:∀{ks:List (Ent×Addr)},(∃p∈ks,p.1.key=k)->(ZI (LBk ks).keptD k).isSome=true:=by
 intro ks
 induction ks with
 |nil=>rintro ⟨p,hp,_⟩;cases hp
 |cons q ks ih =>
  rintro ⟨p,hp,e⟩;show (ZI ((q.1.key,V.ref q.2)::(LBk ks).keptD) k).isSome=true;by_cases c:q.1.key=k
  ·rw [Xa (show (q.1.key,V.ref q.2).1=k from c)];rfl
  ·rw [XD (show ¬(q.1.key,V.ref q.2).1=k from c)];rcases Qh.mp hp with rfl|hp
   ·exact absurd e c
   ·exact ih ⟨p,hp,e⟩
theorem Zos:∀{es:List Ent},(∀e∈es,X8 e)->∀n,((Yx es).1 ("S",n)).length≤es.length:=by
 have go:∀k (es:List Ent),es.length=k->(∀e∈es,X8 e)->∀n,((Yx es).1 ("S",n)).length≤es.length:=by
  intro k
  induction k with
  |zero =>
   intro es h _ n;have:es=[]:=List.eq_nil_of_length_eq_zero h;subst this;exact Qf _
  |succ k ih =>
   intro es h ap n;have ne:es≠[]:=fun z=>by rw [z] at h;cases h
   obtain ⟨xs,e,rfl⟩:∃xs e,es=xs++[e]:=⟨_,_,(NK ne).symm⟩;have lx:xs.length=k:=by rw [Qx] at h;exact Nat.succ.inj h
   have ih:=ih xs lx (fun x hx=>ap x (Qn.mpr (.inl hx))) n;have ae:=ap e (Qn.mpr (.inr (QV.mpr rfl)));rw [JZ,Qx]
   have key:(WG (Yx xs).1 (Yx xs).2 e ("S",n)).length≤((Yx xs).1 ("S",n)).length+1:=by
    cases e with
    |born n' s d f m =>
     show (Xk (Yx xs).1 n' f m ("S",n)).length≤_;rw [JN _ _ _ _ _ _ (by decide +kernel) (by decide +kernel) (by decide +kernel) (by decide +kernel)];exact QR _
    |taken c t d =>
     show (Z3 (Z3 (Yx xs).1 ("T",c) t) ("t",t) c ("S",n)).length≤_;rw [YN,Qa (fun z=>absurd z.1 (by decide +kernel)),YN,Qa (fun z=>absurd z.1 (by decide +kernel))];exact QR _
    |union a b d=>exact Zhu (ae rfl) _
    |parted a b d=>exact Zhu (ae rfl) _
    |dead a d=>exact QR _
    |given a b am d=>exact QR _
   show (WG (Yx xs).1 (Yx xs).2 e ("S",n)).length≤xs.length+1;omega
 intro es h n;exact go es.length es rfl h n
theorem Zfi {es:List Ent} (h:∀e∈es,X8 e) (c:Str×Str):((Yx es).1 c).length≤es.length:=by
 obtain ⟨l,n⟩:=c
 have six:∀{ad:Str->Ent->List Str},Adds l ad->(∀e,(ad n e).length≤1)->((Yx es).1 (l,n)).length≤es.length:=fun A h1=>by
  rw [A.all,(XA _).length_eq];exact Zd5 h1 es
 by_cases hl:l∈Xn
 ·simp only [Xn,Qh,QS,QT] at hl;rcases hl with rfl|rfl|rfl|rfl|rfl|rfl|rfl
  ·exact six Zcj fun e=>(UA n e).1
  ·exact six ZbP fun e=>(UA n e).2.1
  ·exact six ZcR fun e=>(UA n e).2.2.2.2.1
  ·exact six ZbO fun e=>(UA n e).2.2.1
  ·exact six Zb5 fun e=>(UA n e).2.2.2.1
  ·exact six ZcS fun e=>(UA n e).2.2.2.2.2
  ·exact Zos h n
 ·rw [ZhM hl];exact QO _
theorem ZlI {ds:List Ent} (h:(ds.map fun e=>e.told.key).Nodup):Once ds:=by
 intro c
 have go:∀ds:List Ent,(ds.map fun e=>e.told.key).Nodup->((tl c ds).map (·.1)).Nodup:=by
  intro ds
  induction ds with
  |nil=>intro _;exact .nil
  |cons e ds ih =>
   intro n;rw [Qr,QH] at n;have ih:=ih n.2;unfold tl at ih ⊢;rw [QW];by_cases cc:e.tie=true∧Zd e.pr.1 e.pr.2=c
   ·rw [Qc cc];show (_::_).Nodup;rw [QH];refine ⟨fun m=>?_,ih⟩;obtain ⟨q,hq,eq⟩:=Qg.mp m;obtain ⟨x,hx,ex⟩:=Ri.mp hq;by_cases c2:x.tie=true∧Zd x.pr.1 x.pr.2=c
    ·rw [Qc c2] at ex;have:=Qt ex;subst this;refine n.1 (Qg.mpr ⟨x,hx,?_⟩)
     have kk:∀y:Ent,y.tie=true->y.told.key=[.inr "tie",.inr (Zd y.pr.1 y.pr.2).1,.inr (Zd y.pr.1 y.pr.2).2,.inl y.day]:=fun y hy=>by
      cases y with
      |union=>rfl
      |parted=>rfl
      |_=>cases hy
     rw [kk x c2.1,kk e cc.1,c2.2,cc.2,show x.day=e.day from eq]
    ·rw [Qa c2] at ex;cases ex
   ·rw [Qa cc];exact ih
 exact go ds h
structure LI5 (pool:List Str) (B:Bk) (ks:List (Ent×Addr)):Prop where
 st:BSt B (ks.map (·.1))
 sus:∀c,Y4 B.sums c=Jv c (ks.map (·.1))
 told:∀p∈ks,p.1.told=p.1
 keys:(ks.map fun p=>p.1.told.key).Nodup
 inp:∀p∈ks,∀n,p.1.bornName=some n->n∈pool
 ap:∀p∈ks,X8 p.1
theorem LI5.start (pool:List Str):LI5 pool VS []:=⟨BSt.start,fun _=>rfl,fun p hp=>(by cases hp),.nil,fun p hp=>(by cases hp),fun p hp=>(by cases hp)⟩
theorem LI5.ap' {pool:List Str} {B:Bk} {ks:List (Ent×Addr)} (h:LI5 pool B ks):∀e∈ks.map (·.1),X8 e:=fun e he=>by
 obtain ⟨p,hp,rfl⟩:=Qg.mp he;exact h.ap p hp
theorem LI5.once {pool:List Str} {B:Bk} {ks:List (Ent×Addr)} (h:LI5 pool B ks):Once (ks.map (·.1)):=by
 refine ZlI ?_;rw [QG];exact h.keys
theorem LI5.room {pool:List Str} {B:Bk} {ks:List (Ent×Addr)} (h:LI5 pool B ks) (l:ks.length≤60):Room1 B:=by
 have e:(ks.map (·.1)).length=ks.length:=Qd ..;have m1:=h.st.nl;have m2:=h.st.nt;have m3:=h.st.ns;refine ⟨h.st.nd,by omega,by omega,by omega,fun c=>?_,fun c=>?_⟩
 ·rw [h.st.lks];exact Qm (Zfi h.ap' c) (by omega)
 ·rw [h.st.tis,ZgY h.once];exact Qm (ZkX c _) (by omega)
theorem ZhX (e:Ent):e.told.bornName=e.bornName:=by cases e<;>rfl
theorem ZkF {B:Bk} {e:Ent} (h:X2 B e=true):X8 e:=fun t=>by
 cases e with
 |union a b d =>
  intro z;rw [JU rfl,show (Ent.union a b d).same=true from Ql (show a=b from z)] at h;cases h
 |parted a b d =>
  intro z;rw [JU rfl,show (Ent.parted a b d).same=true from Ql (show a=b from z)] at h;cases h
 |_=>cases t
theorem Ze3 {B:Bk} {e:Ent} (h:XY B e=none):B.kept.length<400∧(e.isBorn=true->(Bk.bornD B.kept).length<60)∧(∀n∈e.named,Known B n)∧ZI B.keptD e.told.key=none∧X2 B e=true:=by
 obtain ⟨h1,h2,h3⟩:=ZfS h;unfold XY at h;by_cases f:B.full e=true
 ·rw [Qc f] at h;cases h
 ·rw [Qa f,Qa (by rw [ZfV h3];decide),Qa (by rw [h1];decide)] at h;refine ⟨h2,fun b=>?_,h3,h1,?_⟩
  ·unfold Bk.full at f;rw [b,Gn,RN,not_or] at f;have:=f.2;rw [Gj] at this;omega
  ·cases hf:X2 B e with
   |true=>rfl
   |false=>rw [hf,Qa (by decide)] at h;cases h
theorem LI5.put {pool:List Str} {B B':Bk} {ks:List (Ent×Addr)} {e:Ent} (h:LI5 pool B ks) (p:Put B e B') (d:D5 pool e) (no:XY B e=none) (a:Addr):LI5 pool B' (ks++[(e.told,a)]):=by
 obtain ⟨_,_,_,hv,hf⟩:=Ze3 no;have st:=h.st.put p;have em:(ks++[(e.told,a)]).map (·.1)=ks.map (·.1)++[e.told]:=by rw [Qp];rfl
 rw [←em] at st;have one:∀q∈ks++[(e.told,a)],q∈ks∨q=(e.told,a):=fun q hq=>(Qn.mp hq).imp id (fun z=>by simpa using z);refine ⟨st,fun c=>?_,fun q hq=>?_,?_,fun q hq n hn=>?_,fun q hq=>?_⟩
 ·rw [p.su c,em,Zn9];generalize e.told=e' at *;cases e' with
  |given x y am d =>
   show (if c=(x,y) then Y4 B.sums c+am else Y4 B.sums c)=Jv c _+(if c=(x,y) then am else 0);rw [h.sus];split<;>simp
  |_=>rw [show Zai (Y4 B.sums) _ c=Y4 B.sums c from rfl,h.sus];exact (Int.add_zero _).symm
 ·rcases one q hq with hq|rfl
  ·exact h.told q hq
  ·exact J0 e
 ·rw [Qp,Q2];refine ⟨h.keys,by simp,fun x hx y hy z=>?_⟩;have hy':y=e.told.told.key:=by simpa using hy
  obtain ⟨q,hq,rfl⟩:=Qg.mp hx;have kn:(ZI (LBk ks).keptD e.told.key).isSome=true:=Zis ⟨q,hq,by rw [h.told q hq] at z;rw [z,hy',J0]⟩;have kv:(ZI B.keptD e.told.key).isSome=(ZI (LBk ks).keptD e.told.key).isSome:=Zlg (l:=B.kept) (m:=ks) h.st.kept;rw [kn,hv] at kv;cases kv
 ·rcases one q hq with hq|rfl
  ·exact h.inp q hq n hn
  ·exact d.2.2 n (by rw [←ZhX];exact hn)
 ·rcases one q hq with hq|rfl
  ·exact h.ap q hq
  ·exact ZjE (ZkF hf)
theorem Znt {l m:List Str} (h:l.Nodup) (s:∀x∈l,x∈m):l.length≤m.length:=by
 induction l generalizing m with
 |nil=>exact QO _
 |cons a l ih =>
  have hn:=QH.mp h;have am:=s a (QA ..);have:=ih (m:=m.erase a) hn.2 fun x hx=>(List.mem_erase_of_ne (fun z=>hn.1 (by rw [←z];exact hx))).mpr (s x (Qy _ hx));rw [List.length_erase_of_mem am] at this;have:=List.length_pos_of_mem am;rw [QJ];omega
theorem LI5.names {pool:List Str} {B:Bk} {ks:List (Ent×Addr)} (h:LI5 pool B ks):(Y9 ks).Nodup∧∀n∈Y9 ks,n∈pool:=by
 refine ⟨?_,fun n hn=>?_⟩
 ·have k:=h.keys;clear h
  induction ks with
  |nil=>exact .nil
  |cons p ks ih =>
   have kn:=QH.mp (show (p.1.told.key::ks.map fun p=>p.1.told.key).Nodup from k);have ih:=ih kn.2;unfold Y9 at ih ⊢;rw [QW];cases hb:p.1.bornName with
   |none=>exact ih
   |some n =>
    refine QH.mpr ⟨fun hm=>?_,ih⟩;obtain ⟨q,hq,eq⟩:=Ri.mp hm;refine kn.1 (Qg.mpr ⟨q,hq,?_⟩)
    have bk:∀e:Ent,e.bornName=some n->e.told.key=[.inr "born",.inr n]:=fun e he=>by
     cases e with
     |born n' s d f m=>cases he;rfl
     |_=>cases he
    rw [bk _ eq,bk _ hb]
 ·obtain ⟨q,hq,eq⟩:=Ri.mp hn;exact h.inp q hq n eq
theorem LI5.ksok {pool:List Str} {B:Bk} {ks:List (Ent×Addr)} (h:LI5 pool B ks) (l:ks.length≤60) (p33:pool.length≤33):KsOk ks∧(Y9 ks).length<60:=by
 obtain ⟨n1,n2⟩:=h.names;exact ⟨⟨h.told,n1,l⟩,RV (Znt n1 n2) (by omega)⟩
structure Fit (xs:List Ent) (e:Ent):Prop where
 kn:∀n∈e.named,∃s d f m,Ent.born n s d f m∈xs∧d≤e.day
 key:∀x∈xs,x.key≠e.told.key
 par:∀n s d f m,e=.born n s d f m->(f=""∨∃d' f' m',Ent.born f "he" d' f' m'∈xs∧d'<d)∧(m=""∨∃d' f' m',Ent.born m "she" d' f' m'∈xs∧d'<d)
 tk:∀c t d,e=.taken c t d->∀sc dc fc mc st dt ft mt,Ent.born c sc dc fc mc∈xs->Ent.born t st dt ft mt∈xs->dt<dc
 ap:e.same=false
def BU (xs:List Ent):Prop:=∀{n s d f m s' d' f' m'},Ent.born n s d f m∈xs->Ent.born n s' d' f' m'∈xs->Ent.born n s d f m=.born n s' d' f' m'
theorem Ub {B:Bk} {xs:List Ent} (h:B.kept.map (·.1)=xs) (u:BU xs) {n s f m:Str} {d:Int} (hm:Ent.born n s d f m∈xs):Known B n∧XX B n=s∧Yl B n=d:=by
 obtain ⟨a,ha⟩:=Zed (l:=B.kept) (by rw [h];exact hm) fun {s' d' f' m'} hm'=>by
  rw [h] at hm';exact u hm' hm
 exact ⟨by unfold Known;rw [ha];simp,Zaf ha rfl,JG ha rfl⟩
theorem Zkd {B:Bk} {xs:List Ent} {e:Ent} (h:B.kept.map (·.1)=xs) (u:BU xs) (l:xs.length<400) (b:e.isBorn=true->(Y9 B.kept).length<60) (f:Fit xs e):XY B e=none:=by
 have kl:=Zb0 h;refine Zkn ?_ (fun n hn=>?_) ?_ ?_
 ·unfold Bk.full;rw [Qk (show ¬400≤B.kept.length by omega),Znf];cases hb:e.isBorn with
  |false=>rfl
  |true=>rw [Qk (show ¬60≤(Y9 B.kept).length by have:=b hb;omega)];rfl
 ·obtain ⟨s,d,f',m,h1,_⟩:=f.kn n hn;exact (Ub h u h1).1
 ·rw [Zoe h f.key];rfl
 ·cases hi:e.isBorn with
  |true =>
   cases e with
   |born n s d fa mo =>
    obtain ⟨p1,p2⟩:=f.par n s d fa mo rfl
    have one:∀{x so:Str},(x=""∨∃d' f' m',Ent.born x so d' f' m'∈xs∧d'<d)->Xy B x so d=true:=fun {x so} hx=>by
     unfold Xy;rcases hx with rfl|⟨d',f',m',h1,h2⟩
     ·rfl
     ·obtain ⟨_,e1,e2⟩:=Ub h u h1;rw [e1,e2,Ql rfl,Ql h2,Gn,Bool.or_true]
    show (Xy B fa "he" d&&Xy B mo "she" d)=true;rw [one p1,one p2];rfl
   |_=>cases hi
  |false =>
   rw [JU hi,f.ap]
   have he:e.early B=false:=by
    cases e with
    |taken c t d =>
     obtain ⟨sc,dc,fc,mc,h1,_⟩:=f.kn c (by simp [Ent.named]);obtain ⟨st,dt,ft,mt,h2,_⟩:=f.kn t (by simp [Ent.named]);have h3:=f.tk c t d rfl _ _ _ _ _ _ _ _ h1 h2;show decide (Yl B c≤Yl B t)=false;rw [(Ub h u h1).2.2,(Ub h u h2).2.2];exact Qk (by omega)
    |_=>rfl
   rw [he];show (e.named.all fun n=>decide (Yl B n≤e.day))=true;rw [Ru];intro n hn;obtain ⟨s,d,f',m,h1,h2⟩:=f.kn n hn;rw [(Ub h u h1).2.2];exact Ql h2
inductive GdL (pool:List Str):List Ent->Prop
 |nil:GdL pool []
 |snoc {es:List Ent} {e:Ent} (h:GdL pool es) (d:D5 pool e) (d':D5 pool e.told) (f:Fit (es.map Ent.told) e):GdL pool (es++[e])
theorem GdL.last {pool:List Str} {l:List Ent} (h:GdL pool l) {xs:List Ent} {e:Ent} (el:l=xs++[e]):GdL pool xs∧D5 pool e∧D5 pool e.told∧Fit (xs.map Ent.told) e:=by
 cases h with
 |nil=>simp at el
 |snoc h d d' f =>
  obtain ⟨e1,e2⟩:=List.append_inj' el rfl;obtain ⟨e3,_⟩:=GR e2;subst e1 e3;exact ⟨h,d,d',f⟩
theorem GdL.take {pool:List Str} {l:List Ent} (h:GdL pool l):∀i,GdL pool (l.take i):=by
 induction h with
 |nil=>intro i;rw [List.take_nil];exact .nil
 |@snoc xs e h d d' f ih =>
  intro i;by_cases il:i≤xs.length
  ·rw [List.take_append_of_le_length il];exact ih i
  ·rw [List.take_of_length_le (by rw [Qx];show _+1≤_;omega)];exact .snoc h d d' f
theorem GdL.bu {pool:List Str} {l:List Ent} (h:GdL pool l):BU (l.map Ent.told):=by
 induction h with
 |nil=>intro n s d f m s' d' f' m' h1;cases h1
 |@snoc xs e h d5 d5' f ih =>
  intro n s d fa m s' d' f' m' h1 h2;rw [Qp] at h1 h2;have kb:∀{x:Ent} {n s f m:Str} {d:Int},x=.born n s d f m->x.key=[.inr "born",.inr n]:=fun z=>by rw [z];rfl
  rcases Qn.mp h1 with h1|h1<;>rcases Qn.mp h2 with h2|h2
  ·exact ih h1 h2
  ·have e2:=QV.mp h2;exact absurd (by rw [←e2];rfl) (f.key _ h1)
  ·have e1:=QV.mp h1;exact absurd (by rw [←e1];rfl) (f.key _ h2)
  ·rw [QV.mp h1,QV.mp h2]
theorem GdL.d5 {pool:List Str} {l:List Ent} (h:GdL pool l):∀e∈l,D5 pool e:=by
 induction h with
 |nil=>intro e he;cases he
 |snoc h d5 d' f ih =>
  intro e he;rcases Qn.mp he with he|he
  ·exact ih e he
  ·rw [QV.mp he];exact d5
theorem LI5.put' {pool:List Str} {B B':Bk} {e:Ent} (h:LI5 pool B B.kept) (p:Put B e B') (d:D5 pool e) (no:XY B e=none):LI5 pool B' B'.kept∧B'.kept.map (·.1)=B.kept.map (·.1)++[e.told]:=by
 obtain ⟨a,ha⟩:=p.kept;have z:=h.put p d no a;rw [←ha] at z;exact ⟨z,by rw [ha,Qp];rfl⟩
theorem GdL.ref {pool:List Str} {B:Bk} {es:List Ent} {e:Ent} (li:LI5 pool B B.kept) (hk:B.kept.map (·.1)=es.map Ent.told) (g:GdL pool (es++[e])) (l:B.kept.length≤60) (p33:pool.length≤33):XY B e=none∧D5 pool e∧Room1 B:=by
 obtain ⟨g0,d5,_,f⟩:=g.last rfl;have kl:=Zb0 hk;refine ⟨Zkd hk g0.bu (by rw [←kl];omega) (fun _=>(li.ksok l p33).2) f,d5,li.room l⟩
theorem VL {l:List Str} {i:Nat} {v:V} (h:(l.map V.str)[i]?=some v):∃x,l[i]?=some x∧v=.str x:=by
 rw [Qu] at h;obtain ⟨x,hx,rfl⟩:=QL.mp h;exact ⟨x,hx,rfl⟩
theorem ZdP {x y:Str} (h:x.cps.toList=y.cps.toList):x=y:=by
 obtain ⟨a⟩:=x;obtain ⟨b⟩:=y;have:a=b:=Array.toList_inj.mp h;rw [this]
theorem ZlA (L:List Nat) {k:Nat} (h:k≤L.length):Txt.slice ⟨L.toArray⟩ none (some (k:Int))=⟨(L.take k).toArray⟩:=by
 have hl:k≤(⟨L.toArray⟩:Str).length:=by rw [UO];exact h
 have e:Txt.slice ⟨L.toArray⟩ none (some (k:Int))=StrLaws.sliceText ⟨L.toArray⟩ (some ((0:Nat):Int)) (some (k:Int)):=by
  show StrLaws.sliceText _ none (some (k:Int))=_;unfold StrLaws.sliceText;rw [StrLaws.sliceIdx_none_lo];rfl
 rw [e,StrLaws.sliceText_nat _ (QO _) hl];refine ZdP ?_;simp
theorem Zc8 {a b:Str} {d:Int} (ha:Nm a) (hb:Nm b) (d1:-10 ^ 18≤d) (d2:d≤10 ^ 18):(Ent.taken a b d).Ok∧(Ent.union a b d).Ok∧(Ent.union a b d).told.Ok∧(Ent.parted a b d).Ok∧(Ent.parted a b d).told.Ok:=by
 refine ⟨⟨VO (.inl rfl) ha hb d1 d2,VN (by decide +kernel) ha hb⟩,⟨VO (.inr (.inl rfl)) ha hb d1 d2,VN (by decide +kernel) ha hb⟩,?_,⟨VO (.inr (.inr rfl)) ha hb d1 d2,VN (by decide +kernel) ha hb⟩,?_⟩
 ·show (Ent.union (Zd a b).1 (Zd a b).2 d).Ok;unfold Zd;split
  ·exact ⟨VO (.inr (.inl rfl)) hb ha d1 d2,VN (by decide +kernel) hb ha⟩
  ·exact ⟨VO (.inr (.inl rfl)) ha hb d1 d2,VN (by decide +kernel) ha hb⟩
 ·show (Ent.parted (Zd a b).1 (Zd a b).2 d).Ok;unfold Zd;split
  ·exact ⟨VO (.inr (.inr rfl)) hb ha d1 d2,VN (by decide +kernel) hb ha⟩
  ·exact ⟨VO (.inr (.inr rfl)) ha hb d1 d2,VN (by decide +kernel) ha hb⟩
theorem GdL.known {pool:List Str} {l:List Ent} (g:GdL pool l):∀e∈l,∀n∈e.named,∃s d f m,Ent.born n s d f m∈l.map Ent.told:=by
 induction g with
 |nil=>intro e he;cases he
 |@snoc xs e g d d' f ih =>
  intro x hx n hn;rw [Qp];rcases Qn.mp hx with hx|hx
  ·obtain ⟨s,d,f,m,h⟩:=ih x hx n hn;exact ⟨s,d,f,m,Qn.mpr (.inl h)⟩
  ·rw [QV.mp hx] at hn;obtain ⟨s,d,f,m,h,_⟩:=f.kn n hn;exact ⟨s,d,f,m,Qn.mpr (.inl h)⟩
noncomputable def Yb:List Str:=["F","M","T","f","m","t","S","he","she"]
noncomputable def WN (x:Str):Bool:=decide (x∈(["he","she"]:List Str))
noncomputable def Z9 (B:Bk) (s n:Str):List Str:=if WN s=true then (if XX B n=s then [n] else []) else Yv B s n
theorem Zia {l m:List Str} (h1:l.Nodup) (h2:m.Nodup) (h:∀x,x∈l↔x∈m):l.Perm m:=(NL h1 h2).mpr h
structure SrtOf (P:Str->Prop) (xs:List Str):Prop where
 up:xs.Pairwise fun a b=>Yi a b=true
 nd:xs.Nodup
 mem:∀x,x∈xs↔P x
theorem SrtOf.eq {P Q:Str->Prop} {xs ys:List Str} (h1:SrtOf P xs) (h2:SrtOf Q ys) (h:∀x,P x↔Q x):xs=ys :=
 Uq (Zia h1.nd h2.nd fun x=>(h1.mem x).trans ((h x).trans (h2.mem x).symm)) h1.up h2.up
structure Clo (B:Bk) (pool:List Str):Prop where
 led:∀s∈Yb,∀n,Known B n->∀x∈Z9 B s n,Known B x
 inp:∀n,Known B n->n∈pool
 few:pool.length≤60
theorem Jz {xs pool:List Str} (h:xs.Nodup) (s:∀x∈xs,x∈pool):xs.length≤pool.length:=List.Nodup.length_le_of_subset h s
noncomputable abbrev Wf (l:List (Str×V)):List (Zi×V):=l.map fun p=>(.inr p.1,p.2)
theorem Zhx {κ α:Type} [DecidableEq κ] (l:List (κ×α)) (c:κ) (x:α):(Zn l c x).map (·.1)=if c∈l.map (·.1) then l.map (·.1) else l.map (·.1)++[c]:=by
 unfold Zn;by_cases h:c∈l.map (·.1)
 ·have ha:(l.any fun q=>decide (q.1=c))=true:=by
   obtain ⟨q,hq,e⟩:=Qg.mp h;exact Gk.mpr ⟨q,hq,Ql e⟩
  rw [Qc ha,Qc h,QG];refine RO fun q _=>?_;show (if q.1=c then (q.1,x) else q).1=q.1;split<;>rfl
 ·have ha:¬(l.any fun q=>decide (q.1=c))=true:=fun z=>by
   obtain ⟨q,hq,e⟩:=Gk.mp z;exact h (Qg.mpr ⟨q,hq,QE e⟩)
  rw [Qa ha,Qa h,Qp];rfl
theorem ZfP (l:List (Str×V)) (c:Str) (v:V):Yg (Wf l) (.inr c) v=Wf (Zn l c v):=V7 (f:=fun s:Str=>(.inr s:Zi)) (fun a b h=>by injection h) id l c v
theorem Zc5 {κ α:Type} [DecidableEq κ] {l:List (κ×α)} {c:κ} {x:α} (h:(l.map (·.1)).Nodup):((Zn l c x).map (·.1)).Nodup:=by
 rw [Zhx];split
 ·exact h
 ·rename_i n;exact Q2.mpr ⟨h,by simp,fun a ha b hb=>by rw [show b=c by simpa using hb];exact fun e=>n (e▸ha)⟩
theorem ZeZ {κ α:Type} [DecidableEq κ] {l:List (κ×α)} {c:κ} {x:α} (y:κ):y∈(Zn l c x).map (·.1)↔y∈l.map (·.1)∨y=c:=by
 rw [Zhx];split
 ·rename_i h;exact ⟨.inl,fun z=>z.elim id fun e=>e▸h⟩
 ·rw [Qn,QV]
theorem ZgM (l:List (Str×V)):(Wf l).length=(l.map (·.1)).length:=by rw [Qd,Qd]
theorem ZhH {B:Bk} {n:Str} {p:Ent×Addr} (h:Z5 n B.kept=some p) {n' s f m:Str} {d:Int} (e:p.1=.born n' s d f m):XX B n=s:=Zaf h e
structure N14 (ns:List Str):Prop where
 len:ns.length=24
 nm:∀n∈ns,Nm n
 nd:ns.Nodup
 nz:("zzzzzzzz" : Str)∉ns
theorem YE {z:Int} (h0:-10 ^ 60≤z) (h:z≤10 ^ 60):z.natAbs<2 ^ 1000:=RV (show z.natAbs≤10 ^ 60 by omega) (by decide +kernel)
theorem Yn {j:Int} (h:j≠0):j≠0:=h
noncomputable def Wp (c:Int) (j:Nat):Int:=((c.fdiv 36).fdiv ((j:Int)+1)+5*(j:Int)).fmod 26
noncomputable def Xq (c:Int) (p k n:Nat):List Nat:=(List.range n).map fun j:Nat=>XU (Wp c j+(k:Int)*(if j=p then 1 else 0))
noncomputable def Ww (c:Int) (n p k:Nat):Str:=⟨(Xq c p k n++[97,98].take (k % 3)).toArray⟩
theorem Zng (c:Int) (p k n:Nat):Xq c p k (n+1)=Xq c p k n++[XU (Wp c n+(k:Int)*(if n=p then 1 else 0))]:=by
 unfold Xq;rw [Nt,Qp];rfl
theorem VF (c:Int) (p k n:Nat):(Xq c p k n).length=n:=by unfold Xq;rw [Qd,R1]
theorem Zij (L:List Nat) (x:Nat):(⟨L.toArray⟩:Str)++⟨#[x]⟩=⟨(L++[x]).toArray⟩:=by
 refine ZdP ?_;show (L.toArray++#[x]).toList=(L++[x]).toArray.toList;simp
theorem ZkY (L M:List Nat):(⟨L.toArray⟩:Str)++⟨M.toArray⟩=⟨(L++M).toArray⟩:=by
 refine ZdP ?_;show (L.toArray++M.toArray).toList=(L++M).toArray.toList;simp
theorem Zhz (k:Nat):Txt.slice "ab" none (some (((k:Int).fmod 3:Int)))=⟨([97,98].take (k % 3)).toArray⟩:=by
 have e:(k:Int).fmod 3=((k % 3:Nat):Int):=by rw [Int.fmod_eq_emod_of_nonneg _ (by decide)];rfl
 rw [e];exact ZlA [97,98] (show k % 3≤2 by omega)
theorem Zjo {c:Int} {n p:Nat} (h1:1≤n) (h6:n≤6) (hp:p<n):N14 ((List.range 24).map (Ww c n p)) where
 len:=by rw [Qd,R1]
 nm:=fun x hx=>by
  obtain ⟨k,_,rfl⟩:=Qg.mp hx
  have hl:(Ww c n p k).length=n+min (k % 3) 2:=by
   unfold Ww;rw [UO,Qx,VF,QZ];rfl
  refine ⟨by omega,by omega,?_⟩;show (Xq c p k n++[97,98].take (k % 3)).toArray.toList.all X3=true;rw [List.toList_toArray,List.all_append,Rk];refine ⟨Ru.mpr fun y hy=>?_,Ru.mpr fun y hy=>?_⟩
  ·unfold Xq at hy;obtain ⟨j,_,rfl⟩:=Qg.mp hy;exact Zll _
  ·have:y∈[97,98]:=R3 hy;simp only [Qh,QS,QT] at this;rcases this with rfl|rfl<;>decide +kernel
 nd:=by
  refine (List.nodup_iff_pairwise_ne.mpr ?_);rw [List.pairwise_map];refine List.Pairwise.imp_of_mem (R:=fun a b=>a<b) (fun {a b} ha hb hab e=>?_) List.pairwise_lt_range;have a24:=Gq.mp ha;have b24:=Gq.mp hb
  have g:∀k,(Xq c p k n++[97,98].take (k % 3))[p]?=some (XU (Wp c p+(k:Int))):=fun k=>by
   rw [NA (by rw [VF];exact hp)];unfold Xq;rw [Qu,GS hp];simp
  have e':(Xq c p a n++[97,98].take (a % 3))[p]?=(Xq c p b n++[97,98].take (b % 3))[p]?:=by
   have:=Qq (fun s:Str=>s.cps.toList[p]?) e;simpa [Ww] using this
  rw [g,g] at e';obtain ⟨w,hw⟩:=Zh8 _ _ (ZjW (Qt e'));omega
 nz:=fun hz=>by
  obtain ⟨k,_,e⟩:=Qg.mp hz
  have hl:(Ww c n p k).length=n+min (k % 3) 2:=by
   unfold Ww;rw [UO,Qx,VF,QZ];rfl
  rw [e] at hl;have h8:("zzzzzzzz" : Str).length=8:=by decide +kernel
  have k2:k % 3=2:=by omega
  have n6:n=6:=by omega
  have:=Qq (fun s:Str=>s.cps.toList[7]?) e
  have g:(Ww c n p k).cps.toList[7]?=some 98:=by
   show ((Xq c p k n++[97,98].take (k % 3)).toArray.toList)[7]?=_;rw [List.toList_toArray,Nz (by rw [VF];omega),VF,k2,n6];rfl
  have z:("zzzzzzzz" : Str).cps.toList[7]?=some 122:=by decide +kernel
  have t:(Ww c n p k).cps.toList[7]?=("zzzzzzzz" : Str).cps.toList[7]?:=this;rw [g,z] at t;cases t
abbrev Pp:=Str×Addr×Str×Int
noncomputable abbrev XH (ps:List Pp):List (Zi×V):=ps.map fun p=>(.inr p.1,.ref p.2.1)
structure PpAt (K:W.Frag) (H:Hp) (D:Addr) (ps:List Pp):Prop where
 d:H D=some (.dK (XH ps))
 t:∀p∈ps,SqT K H p.2.1 [.str p.2.2.1,.int p.2.2.2]
 nd:(ps.map (·.1)).Nodup
theorem PpAt.mono {K:W.Frag} {H H':Hp} {D:Addr} {ps:List Pp} (h:PpAt K H D ps) (s:Same H H'):PpAt K H' D ps:=⟨s _ _ h.d,fun p hp=>s.sqt (h.t p hp),h.nd⟩
theorem Zfr {κ α:Type} [DecidableEq κ] {f:α->κ} {g:α->V}:∀{l:List α} {p:α},(l.map f).Nodup->p∈l->ZI (l.map fun p=>(f p,g p)) (f p)=some (g p)
 |[],_,_,h=>by cases h
 |a::l,p,nd,h=>by
  obtain ⟨n1,n2⟩:=QH.mp nd;unfold ZI;rw [Qr,Rt];by_cases e:f a=f p
  ·have:p=a:=by
    rcases Qh.mp h with rfl|h
    ·rfl
    ·exact absurd (e▸Rw h) n1
   subst this;simp
  ·have hp:p∈l:=by
    rcases Qh.mp h with rfl|h
    ·exact absurd rfl e
    ·exact h
   simp only [e,decide_false];exact Zfr n2 hp
theorem ZjZ {κ α:Type} [DecidableEq κ] {f:α->κ} {g:α->V} {l:List α} {k:κ} (h:k∉l.map f):ZI (l.map fun p=>(f p,g p)) k=none:=by
 unfold ZI;rw [GN.mpr fun x hx=>?_]
 ·rfl
 ·obtain ⟨p,hp,rfl⟩:=Qg.mp hx;intro z;exact h (by rw [←QE z];exact Rw hp)
theorem Zkb {ps:List Pp} (h:(ps.map (·.1)).Nodup):(ps.map fun p=>(.inr p.1:Zi)).Nodup:=by
 rw [show (fun p:Pp=>(.inr p.1:Zi))=(fun s:Str=>(.inr s:Zi))∘(fun p:Pp=>p.1) from rfl,←QG];exact h.map _ fun a b n e=>n (RH e)
theorem PpAt.get {H:Hp} {D:Addr} {ps:List Pp} (nd:(ps.map (·.1)).Nodup) (h:Rd H D (.dK (XH ps))) {p:Pp} (hp:p∈ps):DGet H D (.str p.1) (some (.ref p.2.1)) :=
 .inl ⟨_,.inr p.1,h,rfl,(Zfr (f:=fun p:Pp=>(.inr p.1:Zi)) (g:=fun p:Pp=>V.ref p.2.1) (Zkb nd) hp).symm⟩
theorem Zh6 {H H':Hp} {d:Addr} {o:Obj} {kvs:List (Zi×V)} (h:H d=some (.dK kvs)) (s:Same (Zb H d (.frz o (.dK kvs))) H'):Same H (Zb H' d (.dK kvs)):=fun a u e=>by
 by_cases z:a=d
 ·subst z;rw [Zg,←e,h]
 ·rw [Zh z];exact s a u (by rw [Zh z];exact e)
theorem Zoz {K:W.Frag} {H:Hp} {D a:Addr} {o:Obj} {kvs:List (Zi×V)} {xs:List V} (h:H D=some (.dK kvs)) (q:SqT K H a xs):SqT K (Zb H D (.frz o (.dK kvs))) a xs:=YH q h (fun _ z=>by cases z) (fun _ _ z=>by cases z)
noncomputable def Ji (d:Int) (p:Pp):Option V:=if p.2.2.2<d then some (.str p.1) else none
theorem Zg2 (d:Int):∀ps:List Pp,(ps.map (Ji d)).filterMap id=((ps.filter fun p=>decide (p.2.2.2<d)).map (·.1)).map V.str
 |[]=>rfl
 |p::ps=>by
  have ih:=Zg2 d ps;rw [Qr,QW,R0];unfold Ji at ih ⊢;by_cases h:p.2.2.2<d
  ·rw [Qc h,Ql h];simp only [id,Q0,Qr];rw [ih]
  ·rw [Qa h,Qk h];simp only [id];exact ih
noncomputable def Vc (s:Str) (p:Pp):Option V:=if p.2.2.1=s then some (.str p.1) else none
theorem Zb1 (s:Str):∀ps:List Pp,(ps.map (Vc s)).filterMap id=((ps.filter fun p=>decide (p.2.2.1=s)).map (·.1)).map V.str
 |[]=>rfl
 |p::ps=>by
  have ih:=Zb1 s ps;rw [Qr,QW,R0];unfold Vc at ih ⊢;by_cases h:p.2.2.1=s
  ·rw [Qc h,Ql h];simp only [id,Q0,Qr];rw [ih]
  ·rw [Qa h,Qk h];simp only [id];exact ih
def XN (ps:List Pp) (s:Str) (d:Int) (f:Str):Prop:=f=""∨∃p∈ps,p.1=f∧p.2.2.1=s∧p.2.2.2<d
theorem ZaJ {α:Type} (g:α->V) (xs:List α) (h:0<xs.length) (z:Int):∃x∈xs,Yu (xs.map g) (z.fmod ((xs.map g).length:Int))=some (g x):=by
 have e:((xs.map g).length:Int)=(xs.length:Int):=by rw [Qd]
 rw [e];have h0:=QN z (show (0:Int)<xs.length by omega);have h1:=Q3 z (show (0:Int)<xs.length by omega);obtain ⟨j,hj⟩:∃j:Nat,z.fmod (xs.length:Int)=(j:Int):=⟨(z.fmod (xs.length:Int)).toNat,by omega⟩;have jl:j<xs.length:=by omega
 refine ⟨xs[j],Gg jl,?_⟩;rw [hj];exact XI (by rw [Qu,Qz jl];rfl)
noncomputable def hs5:List Str:=["he","she","he","she",""]
theorem ZlF (z:Int):∃s:Str,(s="he"∨s="she"∨s="")∧Yu [V.str "he",V.str "she",V.str "he",V.str "she",V.str ""] (z.fmod 5)=some (V.str s):=by
 obtain ⟨s,hs,e⟩:=ZaJ V.str hs5 (by decide) z;refine ⟨s,?_,e⟩;simp only [hs5,Qh,QS,QT] at hs;rcases hs with h|h|h|h|h
 ·exact .inl h
 ·exact .inr (.inl h)
 ·exact .inl h
 ·exact .inr (.inl h)
 ·exact .inr (.inr h)
theorem Zel {v:V} {i:Nat} {b:TS} {D:Ends} {σ:St} {H:Hp} (h:b D (σ.set i (some v)) H):Zdc (JX (tC v) (Z4 i)) b D σ H:=h
structure DeedF (ps:List Pp) (e:Ent):Prop where
 nb:e.isBorn=false
 kn:∀n∈e.named,∃p∈ps,p.1=n∧p.2.2.2≤e.day
 tk:∀c t d,e=.taken c t d->∀pc∈ps,∀pt∈ps,pc.1=c->pt.1=t->pt.2.2.2<pc.2.2.2
 ap:e.same=false
 lo:-10 ^ 18≤e.day
 hi:e.day≤10 ^ 18
 sort:(e.tie=true∨∃c t d,e=.taken c t d)∨∃n d,e=.dead n d
noncomputable abbrev WX (kn:List (List Zi)):List (List Zi×V):=kn.map fun k=>(k,.bl true)
def Zgq (ps:List Pp) (kn:List (List Zi)):Prop:=∀k∈kn,∃e,k=e.told.key∧DeedF ps e
theorem Zjb {ps:List Pp} (nd:(ps.map (·.1)).Nodup) (h2:2≤ps.length) (c:Int):∃p∈ps,∃q∈ps,p.1≠q.1∧Yu ((ps.map (·.1)).map V.str) (c.fmod (((ps.map (·.1)).map V.str).length:Int))=some (.str p.1) ∧
  Yu ((ps.map (·.1)).map V.str) ((c+1+(c.fdiv 24).fmod ((((ps.map (·.1)).map V.str).length:Int)-1)).fmod (((ps.map (·.1)).map V.str).length:Int))=some (.str q.1):=by
 have el:(((ps.map (·.1)).map V.str).length:Int)=(ps.length:Int):=by rw [Qd,Qd]
 rw [el];obtain ⟨n,hn⟩:∃n:Int,n=(ps.length:Int):=⟨_,rfl⟩;rw [←hn];have n2:2≤n:=by omega
 have i0:=QN c (show (0:Int)<n by omega);have i1:=Q3 c (show (0:Int)<n by omega);have r0:=QN (c.fdiv 24) (show (0:Int)<n-1 by omega);have r1:=Q3 (c.fdiv 24) (show (0:Int)<n-1 by omega);generalize (c.fdiv 24).fmod (n-1)=r at *;have j0:=QN (c+1+r) (show (0:Int)<n by omega);have j1:=Q3 (c+1+r) (show (0:Int)<n by omega)
 have ne:c.fmod n≠(c+1+r).fmod n:=fun e=>by
  have d1:=GO c n;have d2:=GO (c+1+r) n;rw [←e] at d2;have d3:n*(c+1+r).fdiv n-n*c.fdiv n=1+r:=by omega
  rw [←Int.mul_sub] at d3;generalize (c+1+r).fdiv n-c.fdiv n=w at *;have:w≤0∨1≤w:=by omega
  rcases this with hw|hw
  ·have:=NM hw (show 0≤n by omega);omega
  ·have:=NM hw (show 0≤n by omega);omega
 obtain ⟨i,hi⟩:∃i:Nat,c.fmod n=(i:Int):=⟨(c.fmod n).toNat,by omega⟩;obtain ⟨j,hj⟩:∃j:Nat,(c+1+r).fmod n=(j:Int):=⟨((c+1+r).fmod n).toNat,by omega⟩;have il:i<ps.length:=by omega
 have jl:j<ps.length:=by omega
 have at':∀{k:Nat} (h:k<ps.length),Yu ((ps.map (·.1)).map V.str) (k:Int)=some (.str ps[k].1):=fun {k} h=>XI (by rw [Qu,Qu,Qz h];rfl);refine ⟨ps[i],Gg il,ps[j],Gg jl,fun e=>?_,by rw [hi];exact at' il,by rw [hj];exact at' jl⟩;have:i=j:=(Gr (h₀:=by rw [Qd];exact il) (h₁:=by rw [Qd];exact jl) nd).mp (by rw [R4,R4];exact e);omega
structure TwoOk (ps:List Pp) (p q:Pp) (day:Int):Prop where
 ip:p∈ps
 iq:q∈ps
 ne:p.1≠q.1
 lp:p.2.2.2≤day
 lq:q.2.2.2≤day
 lo:-10 ^ 18≤day
 hi:day≤10 ^ 18
theorem TwoOk.swap {ps:List Pp} {p q:Pp} {day:Int} (h:TwoOk ps p q day):TwoOk ps q p day:=⟨h.iq,h.ip,h.ne.symm,h.lq,h.lp,h.lo,h.hi⟩
theorem TwoOk.tie {ps:List Pp} {p q:Pp} {day:Int} (h:TwoOk ps p q day) (b:Bool):DeedF ps (if b=true then .parted p.1 q.1 day else .union p.1 q.1 day):=by
 cases b with
 |false => exact ⟨rfl, fun n hn => by
   have:n=p.1∨n=q.1:=by simpa [Ent.named] using hn
   rcases this with rfl|rfl
   ·exact ⟨p,h.ip,rfl,h.lp⟩
   ·exact ⟨q,h.iq,rfl,h.lq⟩,fun _ _ _ z=>(by cases z),Qk h.ne,h.lo,h.hi,.inl (.inl rfl)⟩
 |true => exact ⟨rfl, fun n hn => by
   have:n=p.1∨n=q.1:=by simpa [Ent.named] using hn
   rcases this with rfl|rfl
   ·exact ⟨p,h.ip,rfl,h.lp⟩
   ·exact ⟨q,h.iq,rfl,h.lq⟩,fun _ _ _ z=>(by cases z),Qk h.ne,h.lo,h.hi,.inl (.inl rfl)⟩
theorem ZaW {ps:List Pp} (nd:(ps.map (·.1)).Nodup) {p q:Pp} (hp:p∈ps) (hq:q∈ps) (e:p.1=q.1):p=q:=by
 obtain ⟨i,hi,rfl⟩:=RZ hp;obtain ⟨j,hj,rfl⟩:=RZ hq;have:i=j:=(Gr (h₀:=by rw [Qd];exact hi) (h₁:=by rw [Qd];exact hj) nd).mp (by rw [R4,R4];exact e);subst this;rfl
theorem TwoOk.taken {ps:List Pp} {p q:Pp} {day:Int} (nd:(ps.map (·.1)).Nodup) (h:TwoOk ps p q day) (lt:q.2.2.2<p.2.2.2):DeedF ps (.taken p.1 q.1 day) :=
 ⟨rfl, fun n hn => by
   have:n=p.1∨n=q.1:=by simpa [Ent.named] using hn
   rcases this with rfl|rfl
   ·exact ⟨p,h.ip,rfl,h.lp⟩
   ·exact ⟨q,h.iq,rfl,h.lq⟩,fun c t d z pc hpc pt hpt e1 e2=>by
  cases z;rw [ZaW nd hpc h.ip e1,ZaW nd hpt h.iq e2];exact lt,Qk h.ne,h.lo,h.hi,.inl (.inr ⟨_,_,_,rfl⟩)⟩
theorem ZhU (b:Bool) (x y:Str) (d:Int):(if b=true then Ent.parted x y d else .union x y d).told.key=[.inr "tie",.inr (Zd x y).1,.inr (Zd x y).2,.inl d]:=by cases b<;>rfl
theorem ZiJ (b:Bool) (x y:Str) (d:Int):(if b=true then Ent.parted x y d else .union x y d).row=[.inr (if b=true then "parted" else "union"),.inr x,.inr y,.inl d]:=by cases b<;>rfl
theorem Zok (b:Bool):Yu [V.str "union",V.str "parted"] (if b=true then 1 else 0)=some (.str (if b=true then "parted" else "union")):=by cases b<;>rfl
theorem Znj {kn:List (List Zi)} {k:List Zi} (h:k∈kn):(ZI (WX kn) k).isSome=true:=by
 unfold ZI;cases e:(WX kn).find? fun kv=>decide (kv.1=k) with
 |none=>exact absurd (GN.mp e (k,.bl true) (Qg.mpr ⟨k,h,rfl⟩)) (by simp)
 |some x=>rfl
theorem ZeC {kn:List (List Zi)} {k:List Zi} (h:k∉kn):ZI (WX kn) k=none:=by
 unfold ZI;rw [GN.mpr fun x hx=>?_]
 ·rfl
 ·obtain ⟨k',hk',rfl⟩:=Qg.mp hx;intro z;exact h (by rw [←QE z];exact hk')
noncomputable def ZdN:Ent->Option (Str×Str×Int)
 |.born n s d _ _=>some (n,s,d)
 |_=>none
structure EI (ns:List Str) (es:List Ent) (ps:List Pp) (kn:List (List Zi)):Prop where
 good:GdL ns es
 born:es.filterMap ZdN=ps.map fun p=>(p.1,p.2.2)
 nm:ps.map (·.1)=ns.take ps.length
 len:ps.length≤24
 keys:∀e∈es,e.isBorn=false->e.told.key∈kn
 ok:Zgq ps kn
 pd:∀p∈ps,-10 ^ 18≤p.2.2.2∧p.2.2.2≤10 ^ 18
 knl:kn.length≤es.length
theorem EI.start {ns:List Str}:EI ns [] [] []:=⟨.nil,rfl,rfl,QO _,fun e h=>(by cases h),fun k h=>(by cases h),fun p h=>(by cases h),Qf _⟩
section
variable {ns:List Str} {es:List Ent} {ps:List Pp} {kn:List (List Zi)}
theorem Zfm {n s:Str} {d:Int}:(n,s,d)∈es.filterMap ZdN↔∃f m,Ent.born n s d f m∈es:=by
 constructor
 ·intro h;obtain ⟨e,he,eb⟩:=Ri.mp h;cases e with
  |born n' s' d' f m=>cases eb;exact ⟨f,m,he⟩
  |_=>cases eb
 ·rintro ⟨f,m,h⟩;exact Ri.mpr ⟨_,h,rfl⟩
theorem EI.of_ps (h:EI ns es ps kn) {p:Pp} (hp:p∈ps):∃f m,Ent.born p.1 p.2.2.1 p.2.2.2 f m∈es:=by
 refine Zfm.mp ?_;rw [h.born];exact Qg.mpr ⟨p,hp,rfl⟩
theorem EI.to_ps (h:EI ns es ps kn) {n s f m:Str} {d:Int} (hb:Ent.born n s d f m∈es):∃p∈ps,p.1=n∧p.2.2=(s,d):=by
 have:=Zfm.mpr ⟨f,m,hb⟩;rw [h.born] at this;obtain ⟨p,hp,e⟩:=Qg.mp this;exact ⟨p,hp,Qq (·.1) e,Qq (·.2) e⟩
theorem EI.nd (h:EI ns es ps kn) (N:N14 ns):(ps.map (·.1)).Nodup:=by rw [h.nm];exact N.nd.sublist (R9 ..)
theorem EI.mem (h:EI ns es ps kn) {p:Pp} (hp:p∈ps):p.1∈ns:=by
 have:p.1∈ps.map (·.1):=Rw hp;rw [h.nm] at this;exact R3 this
theorem Zjw {n s f m:Str} {d:Int} {e:Ent} (h:e.told=.born n s d f m):e=.born n s d f m:=by
 cases e with
 |born=>exact h
 |union=>cases h
 |parted=>cases h
 |taken=>cases h
 |dead=>cases h
 |given=>cases h
theorem Vs {n s f m:Str} {d:Int}:Ent.born n s d f m∈es.map Ent.told↔Ent.born n s d f m∈es:=by
 constructor
 ·intro h;obtain ⟨e,he,ee⟩:=Qg.mp h;rw [←Zjw ee];exact he
 ·exact fun h=>Qg.mpr ⟨_,h,rfl⟩
theorem DeedF.mono {p:Pp} {e:Ent} (h:DeedF ps e) (nd:((ps++[p]).map (·.1)).Nodup):DeedF (ps++[p]) e:=by
 refine ⟨h.nb,fun n hn=>?_,fun c t d z pc hpc pt hpt e1 e2=>?_,h.ap,h.lo,h.hi,h.sort⟩
 ·obtain ⟨q,hq,r⟩:=h.kn n hn;exact ⟨q,Q9 _ hq,r⟩
 ·obtain ⟨q1,h1,n1,_⟩:=h.kn c (by rw [z];simp [Ent.named]);obtain ⟨q2,h2,n2,_⟩:=h.kn t (by rw [z];simp [Ent.named]);have g1:=ZaW nd hpc (Q9 _ h1) (e1.trans n1.symm);have g2:=ZaW nd hpt (Q9 _ h2) (e2.trans n2.symm);rw [g1,g2];exact h.tk c t d z q1 h1 q2 h2 n1 n2
theorem DeedF.key_ne {e:Ent} (h:DeedF ps e) (n:Str):([.inr "born",.inr n]:List Zi)≠e.told.key:=fun z=>by
 have hd:∀{w:Str} {r:List Zi},e.told.key=.inr w::r->("born" : Str)=w:=fun z'=>by rw [z'] at z;exact RH (GR z).1
 cases e with
 |born=>cases h.nb
 |union=>exact absurd (hd rfl) (by decide +kernel)
 |parted=>exact absurd (hd rfl) (by decide +kernel)
 |taken=>exact absurd (hd rfl) (by decide +kernel)
 |dead=>exact absurd (hd rfl) (by decide +kernel)
 |given=>exact absurd (hd rfl) (by decide +kernel)
theorem Zko (e:Ent):e.told.isBorn=e.isBorn:=by cases e<;>rfl
theorem EI.deed (N:N14 ns) (h:EI ns es ps kn) {e:Ent} (de:DeedF ps e) (nk:e.told.key∉kn):EI ns (es++[e]) ps (kn++[e.told.key]):=by
 have nms:∀n∈e.named,Nm n∧n∈ns:=fun n hn=>by
  obtain ⟨p,hp,rfl,_⟩:=de.kn n hn;exact ⟨N.nm _ (h.mem hp),h.mem hp⟩
 have okk:e.Ok∧e.told.Ok:=by
  rcases de.sort with (t|⟨c,t,d,rfl⟩)|⟨n,d,rfl⟩
  ·cases e with
   |union a b d =>
    have k:=Zc8 (nms a (by simp [Ent.named])).1 (nms b (by simp [Ent.named])).1 de.lo de.hi;exact ⟨k.2.1,k.2.2.1⟩
   |parted a b d =>
    have k:=Zc8 (nms a (by simp [Ent.named])).1 (nms b (by simp [Ent.named])).1 de.lo de.hi;exact ⟨k.2.2.2.1,k.2.2.2.2⟩
   |_=>cases t
  ·have k:=Zc8 (nms c (by simp [Ent.named])).1 (nms t (by simp [Ent.named])).1 de.lo de.hi;exact ⟨k.1,k.1⟩
  ·have k:=Zkj (nms n (by simp [Ent.named])).1 de.lo de.hi;exact ⟨k,k⟩
 have nb:∀{x:Ent},x.isBorn=false->∀n,x.bornName=some n->n∈ns:=fun {x} hx n hn=>by
  cases x with
  |born=>cases hx
  |_=>cases hn
 have tn:∀n∈e.told.named,n∈e.named:=fun n hn=>Zek e n hn;refine ⟨.snoc h.good ⟨okk.1,fun n hn=>(nms n hn).2,nb de.nb⟩ ⟨okk.2,fun n hn=>(nms n (tn n hn)).2,nb (by rw [Zko];exact de.nb)⟩ ⟨fun n hn=>?_,fun x hx=>?_,fun n s d f m z=>?_,fun c t d z sc dc fc mc st dt ft mt h1 h2=>?_,de.ap⟩,?_,h.nm,h.len,fun x hx hb=>?_,fun k hk=>?_,h.pd,by rw [Qx,Qx];exact Nu h.knl⟩
 ·obtain ⟨p,hp,rfl,le⟩:=de.kn n hn;obtain ⟨f,m,hb⟩:=h.of_ps hp;exact ⟨_,_,f,m,Vs.mpr hb,le⟩
 ·obtain ⟨y,hy,rfl⟩:=Qg.mp hx;cases hb:y.isBorn with
  |true =>
   cases y with
   |born n s d f m=>exact de.key_ne n
   |_=>cases hb
  |false=>exact fun z=>nk (z▸h.keys y hy hb)
 ·rw [z] at de;exact absurd de.nb (by simp [Ent.isBorn])
 ·obtain ⟨p1,g1,e1,t1⟩:=h.to_ps (Vs.mp h1);obtain ⟨p2,g2,e2,t2⟩:=h.to_ps (Vs.mp h2);have:=de.tk c t d z p1 g1 p2 g2 e1 e2;rw [t1,t2] at this;exact this
 ·rw [RB,h.born]
  have:[e].filterMap ZdN=[]:=by
   cases e with
   |born=>cases de.nb
   |_=>rfl
  rw [this,Qo]
 ·rcases Qn.mp hx with hx|hx
  ·exact Q9 _ (h.keys x hx hb)
  ·rw [show x=e by simpa using hx];exact Q6 _ (by simp)
 ·rcases Qn.mp hk with hk|hk
  ·exact h.ok k hk
  ·exact ⟨e,by simpa using hk,de⟩
theorem EI.birth (N:N14 ns) (h:EI ns es ps kn) {n s f m:Str} {d:Int} {a:Addr} (hn:ns[ps.length]?=some n) (l24:ps.length<24) (hs:s="he"∨s="she"∨s="") (hf:XN ps "he" d f) (hm:XN ps "she" d m) (d1:-10 ^ 18≤d) (d2:d≤10 ^ 18) :
  EI ns (es++[.born n s d f m]) (ps++[(n,a,s,d)]) kn:=by
 have nn:n∈ns:=QP hn;have pn:∀{w x:Str},XN ps w d x->x=""∨x∈ns:=fun {w x} hx=>hx.imp id fun ⟨p,hp,e,_⟩=>e▸h.mem hp;have pm:∀{w x:Str},XN ps w d x->x=""∨Nm x:=fun hx=>(pn hx).imp id (N.nm _);have okk:=ZiU (N.nm n nn) hs d1 d2 (pm hf) (pm hm)
 have nmd:∀x∈(Ent.born n s d f m).named,(x=f∨x=m)∧x≠"":=fun x hx=>by
  obtain ⟨h1,h2⟩:=Q7.mp hx;exact ⟨by simpa using h1,QE h2⟩
 have par:∀{w x:Str},XN ps w d x->x=""∨∃d' f' m',Ent.born x w d' f' m'∈es.map Ent.told∧d'<d:=fun {w x} hx=>hx.imp id fun ⟨p,hp,e1,e2,e3⟩=>by
  obtain ⟨f',m',hb⟩:=h.of_ps hp;rw [e1,e2] at hb;exact ⟨_,f',m',Vs.mpr hb,e3⟩
 have d5:D5 ns (.born n s d f m):=⟨okk,fun x hx=>by
  obtain ⟨h1,h2⟩:=nmd x hx;rcases h1 with rfl|rfl
  ·exact (pn hf).resolve_left h2
  ·exact (pn hm).resolve_left h2,fun x hx=>by cases hx;exact nn⟩
 have nm':(ps++[(n,a,s,d)]).map (·.1)=ns.take (ps.length+1):=by rw [Qp,h.nm,Ro,hn];rfl
 have nd':((ps++[(n,a,s,d)]).map (·.1)).Nodup:=by rw [nm'];exact N.nd.sublist (R9 ..)
 refine ⟨.snoc h.good d5 d5 ⟨fun x hx=>?_,fun x hx=>?_,fun n' s' d' f' m' z=>?_,fun c t d' z=>(by cases z),rfl⟩,?_,by rw [nm',Qx];rfl,by rw [Qx];exact l24,fun x hx hb=>?_,fun k hk=>?_,fun p hp=>?_,by rw [Qx];exact Nv h.knl⟩
 ·obtain ⟨h1,h2⟩:=nmd x hx
  have go:∀{w:Str},XN ps w d x->∃s' d' f' m',Ent.born x s' d' f' m'∈es.map Ent.told∧d'≤d:=fun hx=>by
   rcases par hx with z|⟨d',f',m',hb,lt⟩
   ·exact absurd z h2
   ·exact ⟨_,d',f',m',hb,Int.le_of_lt lt⟩
  rcases h1 with rfl|rfl
  ·exact go hf
  ·exact go hm
 ·obtain ⟨y,hy,rfl⟩:=Qg.mp hx;cases hb:y.isBorn with
  |true =>
   cases y with
   |born n' s' d' f' m' =>
    intro z
    have z':n'=n:=by
     have:([.inr "born",.inr n']:List Zi)=[.inr "born",.inr n]:=z;simpa using this
    obtain ⟨p,hp,e1,_⟩:=h.to_ps hy;have m1:n∈ps.map (·.1):=Qg.mpr ⟨p,hp,e1.trans z'⟩;rw [Qp] at nd';exact (Q2.mp nd').2.2 n m1 n (by simp) rfl
   |_=>cases hb
  |false =>
   obtain ⟨e,he,de⟩:=h.ok _ (h.keys y hy hb);intro z;exact de.key_ne n (by rw [←he];exact z.symm)
 ·cases z;exact ⟨par hf,par hm⟩
 ·rw [RB,h.born,Qp];rfl
 ·rcases Qn.mp hx with hx|hx
  ·exact h.keys x hx hb
  ·rw [show x=.born n s d f m by simpa using hx] at hb;cases hb
 ·obtain ⟨e,he,de⟩:=h.ok k hk;exact ⟨e,he,de.mono nd'⟩
 ·rcases Qn.mp hp with hp|hp
  ·exact h.pd p hp
  ·rw [show p=(n,a,s,d) by simpa using hp];exact ⟨d1,d2⟩
end
theorem ZaA {K:W.Frag} {H H':Hp} {D a:Addr} {kvs:List (List Zi×V)} {xs:List V} (fr:∀b u,b≠D->H b=some u->H' b=some u) (h:H D=some (.dT kvs)) (q:SqT K H a xs):SqT K H' a xs:=by
 rcases q with (q|⟨o,q⟩)|q
 ·exact .inl (.inl (fr _ _ (fun z=>by rw [z,h] at q;cases q) q))
 ·exact .inl (.inr ⟨o,fr _ _ (fun z=>by rw [z,h] at q;cases q) q⟩)
 ·exact .inr q
theorem ZfR {ps:List Pp} {n s:Str} {a:Addr} {d:Int} (h:n∉ps.map (·.1)):Yg (XH ps) (.inr n) (.ref a)=XH (ps++[(n,a,s,d)]):=by
 rw [VQ _ (ZjZ (f:=fun p:Pp=>(.inr p.1:Zi)) (g:=fun p:Pp=>V.ref p.2.1) (fun z=>?_))]
 ·unfold XH;rw [Qp];rfl
 ·obtain ⟨p,hp,e⟩:=Qg.mp z;exact h (Qg.mpr ⟨p,hp,RH e⟩)
theorem Znz (ks:List (Ent×Addr)) (p:Ent×Addr):Xz (ks++[p])=Xz ks++[.ref p.2]:=by unfold Xz;rw [Qp];rfl
abbrev Ed:=List ((Str×Str)×Addr×List Str)
noncomputable abbrev Xd (ed:Ed):List (List Zi×V):=ed.map fun q=>(Zr q.1,.ref q.2.1)
structure EdAt (H:Hp) (D:Addr) (ed:Ed):Prop where
 d:H D=some (.dT (Xd ed))
 l:∀q∈ed,H q.2.1=some (.lst (q.2.2.map V.str))
 an:(ed.map (·.2.1)).Nodup
 kn:(ed.map (·.1)).Nodup
theorem EdAt.monoX {H H':Hp} {D:Addr} {ed:Ed} (h:EdAt H D ed) (s:Zg0 H H'):EdAt H' D ed:=⟨s _ _ rfl h.d,fun q hq=>s _ _ rfl (h.l q hq),h.an,h.kn⟩
theorem EdAt.mono {H H':Hp} {D:Addr} {ed:Ed} (h:EdAt H D ed) (s:Same H H'):EdAt H' D ed:=h.monoX s.x
structure EdB (ed:Ed) (n:Nat):Prop where
 len:ed.length≤n
 ll:∀q∈ed,1≤q.2.2.length∧q.2.2.length≤n
noncomputable def ZS (f:Str×Str->List Str) (c:Str×Str) (x:Str):Str×Str->List Str:=fun c'=>if c'=c then f c++[x] else f c'
structure FrE (D:Addr) (ed:Ed) (H H':Hp) (ed':Ed):Prop where
 fr:∀b u,b≠D->b∉ed.map (·.2.1)->H b=some u->H' b=some u
 gr:∀b∈ed'.map (·.2.1),b∈ed.map (·.2.1)∨H b=none
 al:∀b,H' b=none->H b=none
theorem FrE.trans {D:Addr} {ed ed1 ed2:Ed} {H H1 H2:Hp} (a:FrE D ed H H1 ed1) (b:FrE D ed1 H1 H2 ed2):FrE D ed H H2 ed2 where
 fr:=fun c u nd nm e=>b.fr c u nd (fun z=>(a.gr c z).elim nm fun z=>by rw [e] at z;cases z) (a.fr c u nd nm e)
 gr:=fun c hc=>(b.gr c hc).elim (a.gr c) fun z=>.inr (a.al c z)
 al:=fun c n=>a.al c (b.al c n)
theorem FrE.same {D:Addr} {ed ed':Ed} {H0 H H':Hp} (f:FrE D ed H H' ed') (s:Same H0 H) (nD:H0 D=none) (ne:∀b∈ed.map (·.2.1),H0 b=none):Same H0 H'∧∀b∈ed'.map (·.2.1),H0 b=none:=by
 refine ⟨fun b u e=>f.fr b u (fun z=>by rw [z,nD] at e;cases e) (fun z=>by rw [ne b z] at e;cases e) (s _ _ e),fun b hb=>(f.gr b hb).elim (ne b) fun z=>ZQ s z⟩
theorem W6 {ed:Ed} {c:Str×Str} {x:Addr×List Str} (h:ZJ c ed=some x):(c,x)∈ed:=by
 induction ed with
 |nil=>cases h
 |cons q r ih =>
  unfold ZJ at h;split at h
  ·rename_i e;cases h;rw [←e];exact QA ..
  ·exact Qy _ (ih h)
theorem ZgI {ed:Ed} {q:(Str×Str)×Addr×List Str} (nd:(ed.map (·.1)).Nodup) (h:q∈ed):ZJ q.1 ed=some q.2:=by
 induction ed with
 |nil=>cases h
 |cons p r ih =>
  obtain ⟨n1,n2⟩:=QH.mp nd;unfold ZJ;rcases Qh.mp h with rfl|h
  ·rw [Qc rfl]
  ·rw [Qa (fun z=>n1 (by show p.1∈_;rw [z];exact Rw (f:=(·.1)) h))];exact ih n2 h
theorem Jy {ed:Ed} {q:(Str×Str)×Addr×List Str} (nd:(ed.map (·.1)).Nodup) (h:q∈ed):lk ed q.1=q.2.2:=by unfold lk;rw [ZgI nd h];rfl
theorem Za3 {ed:Ed} {c:Str×Str} (h:ZJ c ed=none):lk ed c=[]:=by unfold lk;rw [h];rfl
theorem Zg4 {ed:Ed} {c:Str×Str} (h:ZJ c ed=none):c∉ed.map (·.1):=fun z=>by
 induction ed with
 |nil=>cases z
 |cons p r ih =>
  unfold ZJ at h;split at h
  ·cases h
  ·rename_i ne;rcases Qh.mp z with z|z
   ·exact ne z.symm
   ·exact ih h z
theorem Zoq {H:Hp} {D b:Addr} {ed:Ed} {c:Str×Str} {xs:List Str} {x:Str} {n:Nat} (h:EdAt H D ed) (hb:EdB ed n) (hc:ZJ c ed=some (b,xs)) :
  ∃ed',EdAt (Zb H b (.lst (xs.map V.str++[.str x]))) D ed'∧EdB ed' (n+1)∧(∀c',lk ed' c'=ZS (lk ed) c x c')∧FrE D ed H (Zb H b (.lst (xs.map V.str++[.str x]))) ed':=by
 have mem:=W6 hc;have hlk:lk ed c=xs:=Jy (q:=(c,b,xs)) h.kn mem
 have an:∀q∈ed,q.2.1=b->q=(c,b,xs):=fun q hq e=>by
  obtain ⟨i,hi,rfl⟩:=RZ hq;obtain ⟨j,hj,ej⟩:=RZ mem;have:i=j:=(Gr (h₀:=by rw [Qd];exact hi) (h₁:=by rw [Qd];exact hj) h.an).mp (by rw [R4,R4,ej];exact e);subst this;exact ej
 have keq:∀q∈ed,q.1=c->q=(c,b,xs):=fun q hq e=>by
  have:=ZgI h.kn hq;rw [e,hc] at this;exact RF e (Qt this).symm
 let g:(Str×Str)×Addr×List Str->(Str×Str)×Addr×List Str:=fun q=>if q.1=c then (q.1,q.2.1,q.2.2++[x]) else q
 have g1:∀q,(g q).1=q.1:=fun q=>by show (if q.1=c then _ else q).1=q.1;split<;>rfl
 have g2:∀q,(g q).2.1=q.2.1:=fun q=>by show (if q.1=c then (q.1,q.2.1,q.2.2++[x]) else q).2.1=q.2.1;split<;>rfl
 have e1:(ed.map g).map (·.1)=ed.map (·.1):=by rw [QG];exact RO fun q _=>g1 q
 have e2:(ed.map g).map (·.2.1)=ed.map (·.2.1):=by rw [QG];exact RO fun q _=>g2 q
 have ne:b≠D:=fun z=>by have:=h.l _ mem;rw [show ((c,b,xs):(Str×Str)×Addr×List Str).2.1=D from z,h.d] at this;cases this
 refine ⟨ed.map g,⟨?_,fun q hq=>?_,by rw [e2];exact h.an,by rw [e1];exact h.kn⟩,⟨by rw [Qd];exact Nv hb.len,fun q hq=>?_⟩,fun c'=>?_,⟨fun a u na nm e=>?_,fun a ha=>.inl (by rw [←e2];exact ha),fun a n=>?_⟩⟩
 ·rw [Zh ne.symm,h.d]
  congr 2
  show _=(ed.map g).map _;rw [QG];exact RO fun q _=>by show _=(Zr (g q).1,V.ref (g q).2.1);rw [g1,g2]
 ·obtain ⟨p,hp,rfl⟩:=Qg.mp hq;by_cases e:p.1=c
  ·have:=keq p hp e;subst this;show Zb H b _ (g (c,b,xs)).2.1=_;rw [g2,Zg];show _=some (HO.lst (((if c=c then (c,b,xs++[x]) else (c,b,xs)).2.2).map V.str));rw [Qc rfl,Qp];rfl
  ·rw [g2,Zh (fun z=>e (by rw [an p hp z]))];show _=some (HO.lst ((if p.1=c then (p.1,p.2.1,p.2.2++[x]) else p).2.2.map V.str));rw [Qa e];exact h.l p hp
 ·obtain ⟨p,hp,rfl⟩:=Qg.mp hq;have:=hb.ll p hp;show 1≤(if p.1=c then (p.1,p.2.1,p.2.2++[x]) else p).2.2.length∧(if p.1=c then (p.1,p.2.1,p.2.2++[x]) else p).2.2.length≤n+1;split
  ·show 1≤(p.2.2++[x]).length∧(p.2.2++[x]).length≤n+1;rw [Qx];exact ⟨by simp,by simp;omega⟩
  ·omega
 ·unfold ZS;have kn':((ed.map g).map (·.1)).Nodup:=by rw [e1];exact h.kn
  by_cases e:c'=c
  ·subst e;rw [Qc rfl,hlk];have m':g (c',b,xs)∈ed.map g:=Rw mem;have e3:g (c',b,xs)=(c',b,xs++[x]):=by show (if c'=c' then _ else _)=_;rw [Qc rfl]
   rw [e3] at m';exact Jy kn' m'
  ·rw [Qa e];cases hl:ZJ c' ed with
   |some y =>
    have m':g (c',y)∈ed.map g:=Rw (W6 hl);have e3:g (c',y)=(c',y):=by show (if c'=c then _ else _)=_;rw [Qa e]
    rw [e3] at m';rw [Jy kn' m',Jy h.kn (W6 hl)]
   |none =>
    rw [Za3 hl];refine Za3 ?_;cases hl2:ZJ c' (ed.map g) with
    |none=>rfl
    |some y =>
     have:=Rw (f:=(·.1)) (W6 hl2);rw [e1] at this;exact absurd this (Zg4 hl)
 ·rw [Zh (fun z=>nm (by rw [z];exact Rw (f:=(·.2.1)) mem))];exact e
 ·by_cases z:a=b
  ·rw [z,Zg] at n;cases n
  ·rwa [Zh z] at n
theorem Zhh {H:Hp} {D z:Addr} {ed:Ed} {c:Str×Str} {xs:List Str} {n:Nat} (h:EdAt H D ed) (hb:EdB ed n) (hc:ZJ c ed=none) (nz:H z=none) (l1:1≤xs.length) (ln:xs.length≤n+1) {H':Hp}
  (hD:H' D=some (.dT (Xd ed++[(Zr c,.ref z)]))) (hz:H' z=some (.lst (xs.map V.str))) (fr:∀b u,b≠D->H b=some u->H' b=some u) (al:∀b,H' b=none->H b=none) :
  ∃ed',EdAt H' D ed'∧EdB ed' (n+1)∧(∀c',lk ed' c'=if c'=c then xs else lk ed c')∧FrE D ed H H' ed':=by
 have nk:=Zg4 hc
 have na:z∉ed.map (·.2.1):=fun m=>by
  obtain ⟨q,hq,e⟩:=Qg.mp m;have:=h.l q hq;rw [e,nz] at this;cases this
 refine ⟨ed++[(c,z,xs)],⟨by rw [hD];show _=some (HO.dT ((ed++[(c,z,xs)]).map _));rw [Qp];rfl,fun q hq=>?_,?_,?_⟩,⟨by rw [Qx];exact Nu hb.len,fun q hq=>?_⟩,fun c'=>?_,⟨fun b u nb nm e=>fr b u nb e,fun b hb'=>?_,al⟩⟩
 ·rcases Qn.mp hq with hq|hq
  ·have:=h.l q hq;exact fr _ _ (fun y=>by rw [y,h.d] at this;cases this) this
  ·rw [show q=(c,z,xs) by simpa using hq];exact hz
 ·rw [Qp];exact Q2.mpr ⟨h.an,by simp,fun a ha b hb'=>by rw [show b=z by simpa using hb'];exact fun e=>na (e▸ha)⟩
 ·rw [Qp];exact Q2.mpr ⟨h.kn,by simp,fun a ha b hb'=>by rw [show b=c by simpa using hb'];exact fun e=>nk (e▸ha)⟩
 ·rcases Qn.mp hq with hq|hq
  ·have:=hb.ll q hq;omega
  ·rw [show q=(c,z,xs) by simpa using hq];exact ⟨l1,ln⟩
 ·unfold lk;rw [Zbs];by_cases e:c'=c
  ·subst e;rw [Qc rfl,hc];show ((ZJ c' [(c',z,xs)]).map (·.2)).getD []=xs;unfold ZJ;rw [Qc rfl];rfl
  ·rw [Qa e];have:ZJ c' [(c,z,xs)]=none:=by unfold ZJ;rw [Qa (fun y=>e y.symm)];rfl
   rw [this];cases ZJ c' ed<;>rfl
 ·rw [Qp] at hb';rcases Qn.mp hb' with hb'|hb'
  ·exact .inl hb'
  ·exact .inr (by rw [show b=z by simpa using hb'];exact nz)
noncomputable def ZaX (l:Str):Str:=if l="F" then "f" else if l="M" then "m" else "t"
theorem ZeR {l:Str} (h:l="F"∨l="M"∨l="T"):Txt.lower l=ZaX l:=by
 rcases h with rfl|rfl|rfl<;>decide +kernel
def VU (D:Addr) (ed:Ed) (n:Nat) (c:Str×Str) (x:Str) (H H':Hp):Prop:=∃ed',EdAt H' D ed'∧EdB ed' (n+1)∧(∀c',lk ed' c'=ZS (lk ed) c x c')∧FrE D ed H H' ed'
theorem FrE.pre {D:Addr} {ed ed':Ed} {H H1 H':Hp} (s:Same H H1) (f:FrE D ed H1 H' ed'):FrE D ed H H' ed':=⟨fun b u nb nm e=>f.fr b u nb nm (s _ _ e),fun b hb=>(f.gr b hb).imp id fun z=>ZQ s z,fun b z=>ZQ s (f.al b z)⟩
theorem Za4 {H H2:Hp} {D z:Addr} {ed:Ed} {n:Nat} {c:Str×Str} {x:Str} (h:EdAt H D ed) (hb:EdB ed n) (n6:n≤900) (s:Same H H2) (nz:H z=none) (hz:H2 z=some (.lst [])) :
  H2 D=some (.dT (Xd ed))∧(Xd ed).length<sizeLine ∧
  (∀v,ZI (Xd ed) (Zr c)=some v->∃(b:Addr) (xs:List Str),v=.ref b∧H2 b=some (.lst (xs.map V.str))∧(xs.map V.str).length<sizeLine∧VU D ed n c x H (Zb H2 b (.lst (xs.map V.str++[.str x])))) ∧
  (ZI (Xd ed) (Zr c)=none->(Zb H2 D (.dT (Xd ed++[(Zr c,.ref z)]))) z=some (.lst [])∧VU D ed n c x H (Zb (Zb H2 D (.dT (Xd ed++[(Zr c,.ref z)]))) z (.lst ([]++[.str x])))):=by
 have h2:=h.mono s;have zD:z≠D:=fun e=>by rw [e,h2.d] at hz;cases hz
 refine ⟨h2.d,ZD (by rw [Qd];have:=hb.len;omega),fun v hv=>?_,fun hv=>⟨by rw [Zh zD];exact hz,?_⟩⟩
 ·rw [VB] at hv;obtain ⟨⟨b,xs⟩,hx,rfl⟩:=QL.mp hv;have mem:=W6 hx;have ll:=hb.ll _ mem;obtain ⟨ed',a1,a2,a3,a4⟩:=Zoq (x:=x) h2 hb hx;exact ⟨b,xs,rfl,h2.l _ mem,ZD (by rw [Qd];have:xs.length≤n:=ll.2;omega),ed',a1,a2,a3,a4.pre s⟩
 ·rw [VB] at hv
  have hn:ZJ c ed=none:=by
   cases e:ZJ c ed with
   |none=>rfl
   |some y=>rw [e] at hv;cases hv
  obtain ⟨ed',a1,a2,a3,a4⟩:=Zhh (xs:=[x]) (H':=Zb (Zb H2 D (.dT (Xd ed++[(Zr c,.ref z)]))) z (.lst ([]++[.str x]))) h hb hn nz (by simp) (by simp) (by rw [Zh zD.symm,Zg]) Zg
   (fun b u nb e=>by rw [Zh (ZU e nz),Zh nb];exact s _ _ e) (fun b hbn=>by
    by_cases e1:b=z
    ·rw [e1,Zg] at hbn;cases hbn
    ·rw [Zh e1] at hbn;by_cases e2:b=D
     ·rw [e2,Zg] at hbn;cases hbn
     ·rw [Zh e2] at hbn;exact ZQ s hbn)
  refine ⟨ed',a1,a2,fun c'=>?_,a4⟩;rw [a3];unfold ZS;rw [Za3 hn];rfl
noncomputable def Z0 (a b n x:Str) (g:ZG):ZG:=if x="" then g else ZS (ZS g (a,n) x) (b,x) n
noncomputable def Z8 (f:ZG) (s n:Str):ZG:=fun c=>if c=(s,n) then [n] else f c
noncomputable def Yk (f:ZG):Ent->ZG
 |.born n s _ fa mo=>Z0 "M" "m" n mo (Z0 "F" "f" n fa (Z8 f s n))
 |.taken c t _=>ZS (ZS f ("T",c) t) ("t",t) c
 |_=>f
noncomputable def Yo (es:List Ent):ZG:=es.foldl Yk fun _=>[]
theorem UC (es:List Ent) (e:Ent):Yo (es++[e])=Yk (Yo es) e:=by unfold Yo;rw [GP];rfl
abbrev YZ:=List ((Str×Str)×Addr×Int×Str)
noncomputable def X1 (g:Str×Str->Option (Int×Str)) (e:Ent):Str×Str->Option (Int×Str):=fun c =>
 if e.tie=true∧c=Zd e.pr.1 e.pr.2 then (match g c with
  |none=>some (e.day,e.kind)
  |some r=>if r.1<e.day then some (e.day,e.kind) else some r) else g c
noncomputable def YB (es:List Ent):Str×Str->Option (Int×Str):=es.foldl X1 fun _=>none
theorem ZaO (es:List Ent) (e:Ent):YB (es++[e])=X1 (YB es) e:=by unfold YB;rw [GP];rfl
noncomputable abbrev Xj (ls:YZ):List (List Zi×V):=ls.map fun q=>(Zr q.1,.ref q.2.1)
structure LsAt (K:W.Frag) (H:Hp) (D:Addr) (ls:YZ):Prop where
 d:H D=some (.dT (Xj ls))
 t:∀q∈ls,SqT K H q.2.1 [.int q.2.2.1,.str q.2.2.2]
 kn:(ls.map (·.1)).Nodup
theorem LsAt.mono {K:W.Frag} {H H':Hp} {D:Addr} {ls:YZ} (h:LsAt K H D ls) (s:Same H H'):LsAt K H' D ls:=⟨s _ _ h.d,fun q hq=>s.sqt (h.t q hq),h.kn⟩
theorem ZgS (c:Str×Str):∀l:YZ,ZI (Xj l) (Zr c)=(Zy c l).map fun q=>.ref q.1
 |[]=>rfl
 |q::r=>by
  have ih:=ZgS c r;unfold Zy;show ZI ((Zr q.1,V.ref q.2.1)::Xj r) (Zr c)=_;by_cases e:q.1=c
  ·subst e;rw [Xa rfl,Qc rfl];rfl
  ·rw [XD (fun z=>e (WL z)),Qa e];exact ih
theorem FrE.sqt {K:W.Frag} {D:Addr} {ed ed':Ed} {H H':Hp} (f:FrE D ed H H' ed') (h:EdAt H D ed) {a:Addr} {xs:List V} (q:SqT K H a xs):SqT K H' a xs:=by
 have nm:∀{b:Addr} {u:HO},H b=some u->(∀ys,u≠.lst ys)->b∉ed.map (·.2.1):=fun e nl m=>by
  obtain ⟨p,hp,rfl⟩:=Qg.mp m;rw [h.l p hp] at e;cases e;exact nl _ rfl
 rcases q with (q|⟨o,q⟩)|q
 ·exact .inl (.inl (f.fr _ _ (fun z=>by rw [z,h.d] at q;cases q) (nm q fun _ z=>by cases z) q))
 ·exact .inl (.inr ⟨o,f.fr _ _ (fun z=>by rw [z,h.d] at q;cases q) (nm q fun _ z=>by cases z) q⟩)
 ·exact .inr q
theorem FrE.ls {K:W.Frag} {D Dl:Addr} {ed ed':Ed} {H H':Hp} {ls:YZ} (f:FrE D ed H H' ed') (h:EdAt H D ed) (ne:Dl≠D) (l:LsAt K H Dl ls):LsAt K H' Dl ls:=by
 refine ⟨f.fr _ _ ne (fun m=>?_) l.d,fun q hq=>f.sqt h (l.t q hq),l.kn⟩;obtain ⟨p,hp,e⟩:=Qg.mp m;have:=h.l p hp;rw [e,l.d] at this;cases this
theorem Zi5 (l:YZ) (c:Str×Str) (x:Addr×Int×Str):Yg (Xj l) (Zr c) (.ref x.1)=Xj (Zn l c x):=V7 (f:=Zr) (fun _ _=>WL) (fun x:Addr×Int×Str=>V.ref x.1) l c x
noncomputable def Y2 (f:ZG) (q:(Str×Str)×Addr×Int×Str):ZG:=if q.2.2.2="union" then ZS (ZS f ("S",q.1.1) q.1.2) ("S",q.1.2) q.1.1 else f
theorem EdB.mono {ed:Ed} {n m:Nat} (h:EdB ed n) (l:n≤m):EdB ed m:=⟨Qm h.len l,fun q hq=>⟨(h.ll q hq).1,Qm (h.ll q hq).2 l⟩⟩
theorem ZiL {ed:Ed} {n:Nat} {c:Str×Str} (hb:EdB ed n) (h:lk ed c=[]):ZJ c ed=none:=by
 cases e:ZJ c ed with
 |none=>rfl
 |some x =>
  have l:=(hb.ll _ (W6 e)).1;have z:x.2=[]:=by unfold lk at h;rw [e] at h;exact h
  rw [show ((c,x):(Str×Str)×Addr×List Str).2.2=[] from z] at l;cases l
theorem ZaT {es:List Ent} {e:Ent} (h:e.tie=false):YB (es++[e])=YB es:=by
 rw [ZaO]
 funext c
 unfold X1;rw [Qa (fun z=>by rw [h] at z;cases z.1)]
theorem ZnR {es:List Ent} {n s:Str} (hs:s="he"∨s="she"∨s="") (h:∀e∈es,e.bornName≠some n):Yo es (s,n)=[]:=by
 have go:∀(l:List Ent) (f:ZG),(∀e∈l,e.bornName≠some n)->f (s,n)=[]->l.foldl Yk f (s,n)=[]:=by
  intro l
  induction l with
  |nil=>intro f _ h0;exact h0
  |cons e r ih =>
   intro f hl h0;refine ih _ (fun e he=>hl e (Qy _ he)) ?_
   have ne:∀{a:Str},a∈(["F","f","M","m","T","t"]:List Str)->s≠a:=fun ha z=>by
    rw [z] at hs;simp only [Qh,QS,QT] at ha;rcases ha with rfl|rfl|rfl|rfl|rfl|rfl<;>exact absurd hs (by decide +kernel)
   have ad:∀{g:ZG} {a y x:Str},a∈(["F","f","M","m","T","t"]:List Str)->ZS g (a,y) x (s,n)=g (s,n):=fun {g a y x} ha=>Qa fun z=>ne ha (Qq (·.1) z);cases e with
   |born n' s' d fa mo =>
    have nn:n'≠n:=fun z=>hl _ (QA ..) (by rw [z];rfl);have b0:Z8 f s' n' (s,n)=[]:=by unfold Z8;rw [Qa (fun z=>nn (Qq (·.2) z).symm)];exact h0
    have f2:∀{u v x:Str} {g:ZG},u∈(["F","f","M","m","T","t"]:List Str)->v∈(["F","f","M","m","T","t"]:List Str)->g (s,n)=[]->Z0 u v n' x g (s,n)=[]:=fun hu hv hg=>by
     unfold Z0;split
     ·exact hg
     ·rw [ad hv,ad hu];exact hg
    exact f2 (by simp) (by simp) (f2 (by simp) (by simp) b0)
   |taken c t d=>show ZS _ _ _ _=[];rw [ad (by simp),ad (by simp)];exact h0
   |union=>exact h0
   |parted=>exact h0
   |dead=>exact h0
   |given=>exact h0
 exact go es _ h rfl
theorem Zhl {n s f m:Str} {d:Int} (h:(Ent.born n s d f m).Ok):s="he"∨s="she"∨s="":=by
 have e:=h.en;have e2:XE [.name,.sort,.day,.parent,.parent] [.str n,.str s,.int d,.str f,.str m]=true:=e;unfold XE at e2;rw [Rk] at e2;have e3:=Ru.mp e2.2 (Vo (.str s)) (by simp [ZR,VH]);have e4:(decide (s="he")||decide (s="she")||decide (s=""))=true:=e3;simpa [RN,or_assoc] using e4
theorem FrE.oth {D b:Addr} {ed ed':Ed} {H H':Hp} {u:HO} (f:FrE D ed H H' ed') (h:EdAt H D ed) (ne:b≠D) (e:H b=some u) (nl:∀ys,u≠.lst ys):H' b=some u :=
 f.fr b u ne (fun m=>by
  obtain ⟨p,hp,rfl⟩:=Qg.mp m;rw [h.l p hp] at e;cases e;exact nl _ rfl) e
theorem EdAt.off {H:Hp} {D b:Addr} {ed:Ed} (h:EdAt H D ed) (e:H b=none):b∉ed.map (·.2.1):=fun m=>by
 obtain ⟨p,hp,z⟩:=Qg.mp m;have:=h.l p hp;rw [z,e] at this;cases this
noncomputable def ZaN (F:ZG) (n s fa mo:Str):Nat->ZG
 |0=>Z8 F s n
 |1=>Z0 "F" "f" n fa (Z8 F s n)
 |_=>Z0 "M" "m" n mo (Z0 "F" "f" n fa (Z8 F s n))
theorem Yh (f:ZG) (a n x b m:Str):ZS f (a,n) x (b,m)=if b=a∧m=n then f (a,n)++[x] else f (b,m):=by
 unfold ZS;by_cases h:b=a∧m=n
 ·rw [Qc (by rw [h.1,h.2]),Qc h]
 ·rw [Qa (fun z=>h ⟨Qq (·.1) z,Qq (·.2) z⟩),Qa h]
theorem Y1 {a b:Str} (ab:¬b=a) (n' x:Str) (g:ZG) (l n:Str):Z0 a b n' x g (l,n)=if x="" then g (l,n) else if l=b∧n=x then g (l,n)++[n'] else if l=a∧n=n' then g (l,n)++[x] else g (l,n):=by
 unfold Z0;by_cases h:x=""
 ·rw [Qc h,Qc h]
 ·rw [Qa h,Qa h,Yh,Yh];by_cases h1:l=b∧n=x
  ·rw [Qc h1,Qc h1,Qa (fun z=>ab z.1),h1.1,h1.2]
  ·rw [Qa h1,Qa h1,Yh];by_cases h2:l=a∧n=n'
   ·rw [Qc h2,Qc h2,h2.1,h2.2]
   ·rw [Qa h2,Qa h2]
theorem Zey (f:ZG) (e:Ent) (n:Str) (hs:∀n' s d fa mo,e=.born n' s d fa mo->s≠"F"):Yk f e ("F",n)=f ("F",n)++VD n e:=by
 have klf:¬(("F" : Str)="f"):=by decide +kernel
 have kuM:¬(("F" : Str)="M"):=by decide +kernel
 have klm:¬(("F" : Str)="m"):=by decide +kernel
 have kuT:¬(("F" : Str)="T"):=by decide +kernel
 have klt:¬(("F" : Str)="t"):=by decide +kernel
 cases e with
 |born n' s d fa mo =>
  have h1:=hs n' s d fa mo rfl;show Z0 "M" "m" n' mo (Z0 "F" "f" n' fa (Z8 f s n')) ("F",n)=_;rw [Y1 (by decide +kernel),Y1 (by decide +kernel),show Z8 f s n' ("F",n)=f ("F",n) from Qa (fun z=>h1 (Qq (·.1) z).symm)];simp only [klf,kuM,klm,kuT,klt,RC,RD,QQ,RE];unfold VD;by_cases e1:fa=""
  ·simp [e1]
  ·by_cases e2:n=n'
   ·subst e2;simp [e1]
   ·have e3:¬n'=n:=fun z=>e2 z.symm;simp [e1,e2,e3]
 |taken c t d =>
  show ZS (ZS f ("T",c) t) ("t",t) c ("F",n)=_;rw [Yh,Qa (fun z=>klt z.1),Yh,Qa (fun z=>kuT z.1)];simp [VD]
 |union=>exact (Qo _).symm
 |parted=>exact (Qo _).symm
 |dead=>exact (Qo _).symm
 |given=>exact (Qo _).symm
theorem ZgZ (f:ZG) (e:Ent) (n:Str) (hs:∀n' s d fa mo,e=.born n' s d fa mo->s≠"f"):Yk f e ("f",n)=f ("f",n)++Vp n e:=by
 have kuF:¬(("f" : Str)="F"):=by decide +kernel
 have kuM:¬(("f" : Str)="M"):=by decide +kernel
 have klm:¬(("f" : Str)="m"):=by decide +kernel
 have kuT:¬(("f" : Str)="T"):=by decide +kernel
 have klt:¬(("f" : Str)="t"):=by decide +kernel
 cases e with
 |born n' s d fa mo =>
  have h1:=hs n' s d fa mo rfl;show Z0 "M" "m" n' mo (Z0 "F" "f" n' fa (Z8 f s n')) ("f",n)=_;rw [Y1 (by decide +kernel),Y1 (by decide +kernel),show Z8 f s n' ("f",n)=f ("f",n) from Qa (fun z=>h1 (Qq (·.1) z).symm)];simp only [kuF,kuM,klm,kuT,klt,RC,RD,QQ,RE];unfold Vp;by_cases e1:fa=""
  ·simp [e1]
  ·by_cases e2:n=fa
   ·subst e2;simp [e1]
   ·have e3:¬fa=n:=fun z=>e2 z.symm;simp [e1,e2,e3]
 |taken c t d =>
  show ZS (ZS f ("T",c) t) ("t",t) c ("f",n)=_;rw [Yh,Qa (fun z=>klt z.1),Yh,Qa (fun z=>kuT z.1)];simp [Vp]
 |union=>exact (Qo _).symm
 |parted=>exact (Qo _).symm
 |dead=>exact (Qo _).symm
 |given=>exact (Qo _).symm
theorem Zg9 (f:ZG) (e:Ent) (n:Str) (hs:∀n' s d fa mo,e=.born n' s d fa mo->s≠"M"):Yk f e ("M",n)=f ("M",n)++VM n e:=by
 have kuF:¬(("M" : Str)="F"):=by decide +kernel
 have klf:¬(("M" : Str)="f"):=by decide +kernel
 have klm:¬(("M" : Str)="m"):=by decide +kernel
 have kuT:¬(("M" : Str)="T"):=by decide +kernel
 have klt:¬(("M" : Str)="t"):=by decide +kernel
 cases e with
 |born n' s d fa mo =>
  have h1:=hs n' s d fa mo rfl;show Z0 "M" "m" n' mo (Z0 "F" "f" n' fa (Z8 f s n')) ("M",n)=_;rw [Y1 (by decide +kernel),Y1 (by decide +kernel),show Z8 f s n' ("M",n)=f ("M",n) from Qa (fun z=>h1 (Qq (·.1) z).symm)];simp only [kuF,klf,klm,kuT,klt,RC,RD,QQ,RE];unfold VM;by_cases e1:mo=""
  ·simp [e1]
  ·by_cases e2:n=n'
   ·subst e2;simp [e1]
   ·have e3:¬n'=n:=fun z=>e2 z.symm;simp [e1,e2,e3]
 |taken c t d =>
  show ZS (ZS f ("T",c) t) ("t",t) c ("M",n)=_;rw [Yh,Qa (fun z=>klt z.1),Yh,Qa (fun z=>kuT z.1)];simp [VM]
 |union=>exact (Qo _).symm
 |parted=>exact (Qo _).symm
 |dead=>exact (Qo _).symm
 |given=>exact (Qo _).symm
theorem Zf6 (f:ZG) (e:Ent) (n:Str) (hs:∀n' s d fa mo,e=.born n' s d fa mo->s≠"m"):Yk f e ("m",n)=f ("m",n)++Vn n e:=by
 have kuF:¬(("m" : Str)="F"):=by decide +kernel
 have klf:¬(("m" : Str)="f"):=by decide +kernel
 have kuM:¬(("m" : Str)="M"):=by decide +kernel
 have kuT:¬(("m" : Str)="T"):=by decide +kernel
 have klt:¬(("m" : Str)="t"):=by decide +kernel
 cases e with
 |born n' s d fa mo =>
  have h1:=hs n' s d fa mo rfl;show Z0 "M" "m" n' mo (Z0 "F" "f" n' fa (Z8 f s n')) ("m",n)=_;rw [Y1 (by decide +kernel),Y1 (by decide +kernel),show Z8 f s n' ("m",n)=f ("m",n) from Qa (fun z=>h1 (Qq (·.1) z).symm)];simp only [kuF,klf,kuM,kuT,klt,RC,RD,QQ,RE];unfold Vn;by_cases e1:mo=""
  ·simp [e1]
  ·by_cases e2:n=mo
   ·subst e2;simp [e1]
   ·have e3:¬mo=n:=fun z=>e2 z.symm;simp [e1,e2,e3]
 |taken c t d =>
  show ZS (ZS f ("T",c) t) ("t",t) c ("m",n)=_;rw [Yh,Qa (fun z=>klt z.1),Yh,Qa (fun z=>kuT z.1)];simp [Vn]
 |union=>exact (Qo _).symm
 |parted=>exact (Qo _).symm
 |dead=>exact (Qo _).symm
 |given=>exact (Qo _).symm
theorem ZgG (f:ZG) (e:Ent) (n:Str) (hs:∀n' s d fa mo,e=.born n' s d fa mo->s≠"T"):Yk f e ("T",n)=f ("T",n)++Vy n e:=by
 have kuF:¬(("T" : Str)="F"):=by decide +kernel
 have klf:¬(("T" : Str)="f"):=by decide +kernel
 have kuM:¬(("T" : Str)="M"):=by decide +kernel
 have klm:¬(("T" : Str)="m"):=by decide +kernel
 have klt:¬(("T" : Str)="t"):=by decide +kernel
 cases e with
 |born n' s d fa mo =>
  have h1:=hs n' s d fa mo rfl;show Z0 "M" "m" n' mo (Z0 "F" "f" n' fa (Z8 f s n')) ("T",n)=_;rw [Y1 (by decide +kernel),Y1 (by decide +kernel),show Z8 f s n' ("T",n)=f ("T",n) from Qa (fun z=>h1 (Qq (·.1) z).symm)];simp only [kuF,klf,kuM,klm,klt,RC,RD,QQ,RE];simp [Vy]
 |taken c t d =>
  show ZS (ZS f ("T",c) t) ("t",t) c ("T",n)=_;rw [Yh,Qa (fun z=>klt z.1),Yh];unfold Vy;by_cases e2:n=c
  ·subst e2;simp
  ·have e3:¬c=n:=fun z=>e2 z.symm;simp [e2,e3]
 |union=>exact (Qo _).symm
 |parted=>exact (Qo _).symm
 |dead=>exact (Qo _).symm
 |given=>exact (Qo _).symm
theorem ZeY (f:ZG) (e:Ent) (n:Str) (hs:∀n' s d fa mo,e=.born n' s d fa mo->s≠"t"):Yk f e ("t",n)=f ("t",n)++VT n e:=by
 have kuF:¬(("t" : Str)="F"):=by decide +kernel
 have klf:¬(("t" : Str)="f"):=by decide +kernel
 have kuM:¬(("t" : Str)="M"):=by decide +kernel
 have klm:¬(("t" : Str)="m"):=by decide +kernel
 have kuT:¬(("t" : Str)="T"):=by decide +kernel
 cases e with
 |born n' s d fa mo =>
  have h1:=hs n' s d fa mo rfl;show Z0 "M" "m" n' mo (Z0 "F" "f" n' fa (Z8 f s n')) ("t",n)=_;rw [Y1 (by decide +kernel),Y1 (by decide +kernel),show Z8 f s n' ("t",n)=f ("t",n) from Qa (fun z=>h1 (Qq (·.1) z).symm)];simp only [kuF,klf,kuM,klm,kuT,RC,RD,QQ,RE];simp [VT]
 |taken c t d =>
  show ZS (ZS f ("T",c) t) ("t",t) c ("t",n)=_;unfold VT;rw [Yh];by_cases e2:n=t
  ·subst e2;rw [Qc ⟨rfl,rfl⟩,Yh,Qa (fun z=>kuT z.1)];simp
  ·have e3:¬t=n:=fun z=>e2 z.symm;rw [Qa (fun z=>e2 z.2),Yh,Qa (fun z=>kuT z.1)];simp [e3]
 |union=>exact (Qo _).symm
 |parted=>exact (Qo _).symm
 |dead=>exact (Qo _).symm
 |given=>exact (Qo _).symm
theorem Zg1 (f:ZG) (e:Ent) (n:Str) (hs:∀n' s d fa mo,e=.born n' s d fa mo->s≠"S"):Yk f e ("S",n)=f ("S",n)++[]:=by
 have kuF:¬(("S" : Str)="F"):=by decide +kernel
 have klf:¬(("S" : Str)="f"):=by decide +kernel
 have kuM:¬(("S" : Str)="M"):=by decide +kernel
 have klm:¬(("S" : Str)="m"):=by decide +kernel
 have kuT:¬(("S" : Str)="T"):=by decide +kernel
 have klt:¬(("S" : Str)="t"):=by decide +kernel
 cases e with
 |born n' s d fa mo =>
  have h1:=hs n' s d fa mo rfl;show Z0 "M" "m" n' mo (Z0 "F" "f" n' fa (Z8 f s n')) ("S",n)=_;rw [Y1 (by decide +kernel),Y1 (by decide +kernel),show Z8 f s n' ("S",n)=f ("S",n) from Qa (fun z=>h1 (Qq (·.1) z).symm)];simp only [kuF,klf,kuM,klm,kuT,klt,RC,RD,QQ,RE];simp
 |taken c t d =>
  show ZS (ZS f ("T",c) t) ("t",t) c ("S",n)=_;rw [Yh,Qa (fun z=>klt z.1),Yh,Qa (fun z=>kuT z.1)];simp
 |union=>exact (Qo _).symm
 |parted=>exact (Qo _).symm
 |dead=>exact (Qo _).symm
 |given=>exact (Qo _).symm
def Zfs (es:List Ent):Prop:=∀n s d fa mo,Ent.born n s d fa mo∈es->s="he"∨s="she"∨s=""
theorem ZaZ {es:List Ent} {l n:Str} {ad:Ent->List Str} (st:∀e∈es,∀f:ZG,Yk f e (l,n)=f (l,n)++ad e):Yo es (l,n)=es.flatMap ad:=by
 have go:∀(r:List Ent) (f:ZG),(∀e∈r,∀f:ZG,Yk f e (l,n)=f (l,n)++ad e)->r.foldl Yk f (l,n)=f (l,n)++r.flatMap ad:=by
  intro r
  induction r with
  |nil=>intro f _;simp
  |cons e r ih =>
   intro f h;rw [Rn,ih _ (fun e he=>h e (Qy _ he)),h e (QA ..),Gm,GQ]
 rw [show Yo es (l,n)=es.foldl Yk (fun _=>[]) (l,n) from rfl,go es _ st];rfl
theorem Zf7 {es:List Ent} (h:Zfs es) {l:Str} (hl:l∈Xn):∀e∈es,∀n' s d fa mo,e=.born n' s d fa mo->s≠l:=fun e he n' s d fa mo z w=>by
 subst z w;have:=h _ _ _ _ _ he;simp only [Xn,Qh,QS,QT] at hl;rcases hl with rfl|rfl|rfl|rfl|rfl|rfl|rfl<;>exact absurd this (by decide +kernel)
theorem Zhk {es:List Ent}:∀(c:Str×Str) (x:Str),x∈Yo es c->∃e∈es,x∈e.named∨e.bornName=some x:=by
 have ad:∀{f:ZG} {c c':Str×Str} {x y:Str},x∈ZS f c y c'->x∈f c'∨x=y:=fun {f c c' x y} h=>by
  unfold ZS at h;split at h
  ·rename_i e;rcases Qn.mp h with h|h
   ·rw [e];exact .inl h
   ·exact .inr (by simpa using h)
  ·exact .inl h
 have go:∀(r:List Ent) (f:ZG) (R:Str->Prop),(∀c x,x∈f c->R x)->(∀e∈r,∀x,x∈e.named∨e.bornName=some x->R x)->∀c x,x∈r.foldl Yk f c->R x:=by
  intro r
  induction r with
  |nil=>intro f R h _ c x hx;exact h c x hx
  |cons e r ih =>
   intro f R h hr c x hx;refine ih (Yk f e) R (fun c x hx=>?_) (fun e he=>hr e (Qy _ he)) c x hx;have he:=hr e (QA ..);cases e with
   |born n s d fa mo =>
    have p1:∀{a b y:Str} {g:ZG},(∀c x,x∈g c->R x)->(y≠""->R y)->∀c x,x∈Z0 a b n y g c->R x:=fun {a b y g} hg hy c x hx=>by
     unfold Z0 at hx;split at hx
     ·exact hg c x hx
     ·rename_i ny;rcases ad hx with hx|rfl
      ·rcases ad hx with hx|rfl
       ·exact hg c x hx
       ·exact hy ny
      ·exact he _ (.inr rfl)
    refine p1 (p1 (fun c x hx=>?_) (fun ny=>he _ (.inl ?_))) (fun ny=>he _ (.inl ?_)) c x hx
    ·unfold Z8 at hx;split at hx
     ·rw [show x=n by simpa using hx];exact he _ (.inr rfl)
     ·exact h c x hx
    ·exact Q7.mpr ⟨by simp,Ql ny⟩
    ·exact Q7.mpr ⟨by simp,Ql ny⟩
   |taken u v d =>
    rcases ad (show x∈ZS (ZS f ("T",u) v) ("t",v) u c from hx) with hx|rfl
    ·rcases ad hx with hx|rfl
     ·exact h c x hx
     ·exact he _ (.inl (by simp [Ent.named]))
    ·exact he _ (.inl (by simp [Ent.named]))
   |union=>exact h c x hx
   |parted=>exact h c x hx
   |dead=>exact h c x hx
   |given=>exact h c x hx
 intro c x hx;exact go es _ (fun x=>∃e∈es,x∈e.named∨e.bornName=some x) (fun c x h=>(by cases h)) (fun e he x h=>⟨e,he,h⟩) c x hx
theorem Zma {es:List Ent} {s n x:Str} (hs:s="he"∨s="she"):x∈Yo es (s,n)↔x=n∧∃d f m,Ent.born n s d f m∈es:=by
 have ne:∀{a:Str},a∈(["F","f","M","m","T","t"]:List Str)->¬s=a:=fun ha z=>by
  rw [z] at hs;simp only [Qh,QS,QT] at ha;rcases ha with rfl|rfl|rfl|rfl|rfl|rfl<;>exact absurd hs (by decide +kernel)
 have st:∀(f:ZG) (e:Ent),Yk f e (s,n)=(match e with|.born n' s' _ _ _=>Z8 f s' n' (s,n)|_=>f (s,n)):=fun f e=>by
  cases e with
  |born n' s' d fa mo =>
   show Z0 "M" "m" n' mo (Z0 "F" "f" n' fa (Z8 f s' n')) (s,n)=Z8 f s' n' (s,n);rw [Y1 (by decide +kernel),Y1 (by decide +kernel)];simp only [ne (a:="m") (by simp),ne (a:="M") (by simp),ne (a:="f") (by simp),ne (a:="F") (by simp),RC,QQ,RE]
  |taken u v d =>
   show ZS (ZS f ("T",u) v) ("t",v) u (s,n)=f (s,n);rw [Yh,Qa (fun z=>ne (a:="t") (by simp) z.1),Yh,Qa (fun z=>ne (a:="T") (by simp) z.1)]
  |_=>rfl
 have go:∀(r:List Ent) (f:ZG),(∀y∈f (s,n),y=n)->(x∈r.foldl Yk f (s,n)↔(x=n∧∃d g m,Ent.born n s d g m∈r)∨x∈f (s,n)):=by
  intro r
  induction r with
  |nil=>intro f _;simp
  |cons e r ih =>
   intro f hf;have e1:=st f e
   have key:(∀y∈Yk f e (s,n),y=n)∧(x∈Yk f e (s,n)↔(x=n∧∃d g m,e=.born n s d g m)∨x∈f (s,n)):=by
    cases e with
    |born n' s' d fa mo =>
     rw [show Yk f (.born n' s' d fa mo) (s,n)=Z8 f s' n' (s,n) from e1];unfold Z8;by_cases z:(s,n)=(s',n')
     ·cases z;rw [Qc rfl];refine ⟨fun y hy=>by simpa using hy,⟨fun h=>.inl ⟨by simpa using h,d,fa,mo,rfl⟩,fun h=>?_⟩⟩;rcases h with h|h
      ·rw [h.1];simp
      ·rw [hf x h];simp
     ·rw [Qa z];refine ⟨hf,⟨.inr,fun h=>h.elim (fun ⟨_,d',g,m,hh⟩=>by cases hh;exact absurd rfl z) id⟩⟩
    |taken=>exact ⟨by rw [e1];exact hf,by rw [e1];exact ⟨.inr,fun h=>h.elim (fun ⟨_,d',g,m,hh⟩=>by cases hh) id⟩⟩
    |union=>exact ⟨hf,⟨.inr,fun h=>h.elim (fun ⟨_,d',g,m,hh⟩=>by cases hh) id⟩⟩
    |parted=>exact ⟨hf,⟨.inr,fun h=>h.elim (fun ⟨_,d',g,m,hh⟩=>by cases hh) id⟩⟩
    |dead=>exact ⟨hf,⟨.inr,fun h=>h.elim (fun ⟨_,d',g,m,hh⟩=>by cases hh) id⟩⟩
    |given=>exact ⟨hf,⟨.inr,fun h=>h.elim (fun ⟨_,d',g,m,hh⟩=>by cases hh) id⟩⟩
   rw [Rn,ih _ key.1,key.2];constructor
   ·rintro (⟨h1,d,g,m,h2⟩|⟨h1,d,g,m,rfl⟩|h)
    ·exact .inl ⟨h1,d,g,m,Qy _ h2⟩
    ·exact .inl ⟨h1,d,g,m,QA ..⟩
    ·exact .inr h
   ·rintro (⟨h1,d,g,m,h2⟩|h)
    ·rcases Qh.mp h2 with h2|h2
     ·exact .inr (.inl ⟨h1,d,g,m,h2.symm⟩)
     ·exact .inl ⟨h1,d,g,m,h2⟩
    ·exact .inr (.inr h)
 have:=go es (fun _=>[]) (fun y hy=>by cases hy);rw [show Yo es (s,n)=es.foldl Yk (fun _=>[]) (s,n) from rfl,this];simp
theorem U4 {ls:YZ} {f:ZG} {l n:Str} (h:¬l="S"):ls.foldl Y2 f (l,n)=f (l,n):=by
 induction ls generalizing f with
 |nil=>rfl
 |cons q r ih =>
  rw [Rn,ih];unfold Y2;split
  ·rw [Yh,Qa (fun z=>h z.1),Yh,Qa (fun z=>h z.1)]
  ·rfl
theorem ZeT {ls:YZ} {f:ZG} {n x:Str}:x∈ls.foldl Y2 f ("S",n)↔x∈f ("S",n)∨∃q∈ls,q.2.2.2="union"∧(q.1=(n,x)∨q.1=(x,n)):=by
 induction ls generalizing f with
 |nil=>simp
 |cons q r ih =>
  rw [Rn,ih]
  have st:x∈Y2 f q ("S",n)↔x∈f ("S",n)∨(q.2.2.2="union"∧(q.1=(n,x)∨q.1=(x,n))):=by
   obtain ⟨⟨a,b⟩,ar,d,k⟩:=q;unfold Y2;by_cases hu:k="union"
   ·show x∈(if k="union" then ZS (ZS f ("S",a) b) ("S",b) a else f) ("S",n)↔x∈f ("S",n)∨(k="union"∧((a,b)=(n,x)∨(a,b)=(x,n)));rw [Qc hu,Yh];by_cases h1:n=b
    ·subst h1;rw [Qc ⟨rfl,rfl⟩,Yh];by_cases h2:n=a
     ·subst h2;rw [Qc ⟨rfl,rfl⟩];simp [hu];exact ⟨fun h=>h.imp id Eq.symm,fun h=>h.imp id Eq.symm⟩
     ·rw [Qa (fun z=>h2 z.2)];simp [hu];constructor
      ·rintro (h|h)
       ·exact .inl h
       ·exact .inr (.inr h.symm)
      ·rintro (h|⟨h,_⟩|h)
       ·exact .inl h
       ·exact absurd h.symm h2
       ·exact .inr h.symm
    ·rw [Qa (fun z=>h1 z.2),Yh];by_cases h2:n=a
     ·subst h2;rw [Qc ⟨rfl,rfl⟩];simp [hu];constructor
      ·rintro (h|h)
       ·exact .inl h
       ·exact .inr (.inl h.symm)
      ·rintro (h|h|⟨_,h⟩)
       ·exact .inl h
       ·exact .inr h.symm
       ·exact absurd h.symm h1
     ·rw [Qa (fun z=>h2 z.2)];simp only [hu,RD,Prod.mk.injEq];exact ⟨.inl,fun h=>h.elim id fun h=>h.elim (fun z=>absurd z.1.symm h2) fun z=>absurd z.2.symm h1⟩
   ·show x∈(if k="union" then _ else f) ("S",n)↔x∈f ("S",n)∨(k="union"∧_);rw [Qa hu];exact ⟨.inl,fun h=>h.elim id fun h=>absurd h.1 hu⟩
  rw [st];constructor
  ·rintro ((h|h)|⟨q',h1,h2⟩)
   ·exact .inl h
   ·exact .inr ⟨q,QA ..,h⟩
   ·exact .inr ⟨q',Qy _ h1,h2⟩
  ·rintro (h|⟨q',h1,h2⟩)
   ·exact .inl (.inl h)
   ·rcases Qh.mp h1 with rfl|h1
    ·exact .inl (.inr h2)
    ·exact .inr ⟨q',h1,h2⟩
noncomputable def dk (e:Ent):Int×Str:=(e.day,e.kind)
theorem ZjA (es:List Ent) (a b:Str):YB es (Zd a b)=(es.foldl (WK a b) none).map dk:=by
 have go:∀(r:List Ent) (g:Str×Str->Option (Int×Str)) (o:Option Ent),g (Zd a b)=o.map dk->r.foldl X1 g (Zd a b)=(r.foldl (WK a b) o).map dk:=by
  intro r
  induction r with
  |nil=>intro g o h;exact h
  |cons e r ih =>
   intro g o h;rw [Rn,Rn];refine ih _ _ ?_;unfold X1 WK;by_cases c:e.tie=true∧Zd e.pr.1 e.pr.2=Zd a b
   ·rw [Qc ⟨c.1,c.2.symm⟩,Qc c,h];cases o with
    |none=>rfl
    |some l =>
     show (if (dk l).1<e.day then _ else _)=Option.map dk (if l.day<e.day then _ else _);show (if l.day<e.day then some (e.day,e.kind) else some (dk l))=_;split<;>rfl
   ·rw [Qa (fun z=>c ⟨z.1,z.2.symm⟩),Qa c];exact h
 exact go es _ none rfl
theorem Zki (es:List Ent):YB (es.map Ent.told)=YB es:=by
 have st:∀(g:Str×Str->Option (Int×Str)) (e:Ent),X1 g e.told=X1 g e:=fun g e=>by
  cases e with
  |union a b d =>
   funext c
   show (if true=true∧c=Zd (Zd a b).1 (Zd a b).2 then _ else g c)=(if true=true∧c=Zd a b then _ else g c);rw [Wy];rfl
  |parted a b d =>
   funext c
   show (if true=true∧c=Zd (Zd a b).1 (Zd a b).2 then _ else g c)=(if true=true∧c=Zd a b then _ else g c);rw [Wy];rfl
  |_=>rfl
 unfold YB;rw [List.foldl_map];exact Qq (fun z=>es.foldl z fun _=>none) (funext fun g=>funext fun e=>st g e)
theorem Zbk {es:List Ent}:∀{c:Str×Str} {r:Int×Str},YB es c=some r->∃e∈es,e.tie=true∧c=Zd e.pr.1 e.pr.2:=by
 have go:∀(l:List Ent) (g:Str×Str->Option (Int×Str)) (R:Str×Str->Prop),(∀c r,g c=some r->R c)->(∀e∈l,e.tie=true->R (Zd e.pr.1 e.pr.2))->∀c r,l.foldl X1 g c=some r->R c:=by
  intro l
  induction l with
  |nil=>intro g R h _ c r e;exact h c r e
  |cons e l ih =>
   intro g R h hl c r hr;refine ih _ R (fun c r hc=>?_) (fun e he=>hl e (Qy _ he)) c r hr;unfold X1 at hc;split at hc
   ·rename_i z;rw [z.2];exact hl e (QA ..) z.1
   ·exact h c r hc
 intro c r h;exact go es _ (fun c=>∃e∈es,e.tie=true∧c=Zd e.pr.1 e.pr.2) (fun c r z=>(by cases z)) (fun e he t=>⟨e,he,t,rfl⟩) c r h
theorem ZjQ {e:Ent} (h:e.tie=true):∃(x y:Str) (d:Int) (W:Str),e.row.map kV=[.str W,.str x,.str y,.int d]∧(W="union"∨W="parted")∧e.pr=(x,y)∧e.kind=W∧e.day=d:=by
 cases e with
 |union x y d=>exact ⟨x,y,d,_,rfl,.inl rfl,rfl,rfl,rfl⟩
 |parted x y d=>exact ⟨x,y,d,_,rfl,.inr rfl,rfl,rfl,rfl⟩
 |_=>cases h
theorem Zov {e:Ent} {f:ZG} (h:e.tie=true):Yk f e=f:=by
 cases e with
 |union x y d=>rfl
 |parted x y d=>rfl
 |_=>cases h
theorem Zd3 {κ α:Type} [DecidableEq κ] {q:κ×α}:∀{l:List (κ×α)},(l.map (·.1)).Nodup->q∈l->Zy q.1 l=some q.2
 |[],_,h=>by cases h
 |p::l,nd,h=>by
  obtain ⟨n1,n2⟩:=QH.mp nd;unfold Zy;rcases Qh.mp h with rfl|h
  ·rw [Qc rfl]
  ·rw [Qa (fun z=>n1 (by show p.1∈_;rw [z];exact Rw (f:=(·.1)) h))];exact Zd3 n2 h
theorem Zem {pool:List Str} {es:List Ent} (gd:GdL pool es):Zfs es:=fun n s d fa mo h=>Zhl (gd.d5 _ h).1
theorem Zeo {ad:Ent->List Str} (h:∀e,ad e.told=ad e) (es:List Ent):(es.map Ent.told).flatMap ad=es.flatMap ad:=by
 rw [List.flatMap_map];exact Qq (fun z=>es.flatMap z) (funext h)
structure Jn (pool:List Str) (B:Bk) (es:List Ent) (ls:YZ) (F:ZG):Prop where
 li:LI5 pool B B.kept
 hk:B.kept.map (·.1)=es.map Ent.told
 gd:GdL pool es
 kn:(ls.map (·.1)).Nodup
 la:∀c,(Zy c ls).map (·.2)=YB es c
 lke:∀c,F c=ls.foldl Y2 (Yo es) c
section
variable {pool:List Str} {B:Bk} {es:List Ent} {ls:YZ} {F:ZG}
theorem Jn.known (j:Jn pool B es ls F) {n s f m:Str} {d:Int} (h:Ent.born n s d f m∈es):Known B n∧XX B n=s:=by
 have:=Ub j.hk j.gd.bu (Vs.mpr h);exact ⟨this.1,this.2.1⟩
theorem Jn.born (j:Jn pool B es ls F) {n:Str} (h:Known B n):∃d f m,Ent.born n (XX B n) d f m∈es:=by
 unfold Known at h;obtain ⟨p,hp⟩:=Option.ne_none_iff_exists'.mp h;obtain ⟨hm,hb⟩:=ZaK hp;obtain ⟨e,a⟩:=p;cases e with
 |born n' s d f m =>
  cases hb;have e1:XX B n=s:=Zaf hp rfl;have:Ent.born n s d f m∈B.kept.map (·.1):=Qg.mpr ⟨_,hm,rfl⟩;rw [j.hk] at this;rw [e1];exact ⟨d,f,m,Vs.mp this⟩
 |_=>cases hb
theorem Jn.inp (j:Jn pool B es ls F) {n:Str} (h:Known B n):n∈pool:=by
 obtain ⟨d,f,m,hb⟩:=j.born h;exact (j.gd.d5 _ hb).2.2 n rfl
theorem Jn.find (j:Jn pool B es ls F) {q:(Str×Str)×Addr×Int×Str} (h:q∈ls):YB es q.1=some q.2.2:=by
 rw [←j.la];have:Zy q.1 ls=some q.2:=Zd3 j.kn h;rw [this];rfl
theorem Jn.mem_in (j:Jn pool B es ls F) {c:Str×Str} {x:Str} (h:x∈F c):Known B x:=by
 have ex:∃e∈es,x∈e.named∨e.bornName=some x:=by
  rw [j.lke] at h;obtain ⟨l,n⟩:=c;by_cases e:l="S"
  ·subst e;rcases ZeT.mp h with h|⟨q,hq,_,hx⟩
   ·exact Zhk _ _ h
   ·obtain ⟨e,he,ht,hs⟩:=Zbk (j.find hq);refine ⟨e,he,.inl ?_⟩
    have Zr:x=e.pr.1∨x=e.pr.2:=by
     have:Zd e.pr.1 e.pr.2=(e.pr.1,e.pr.2)∨Zd e.pr.1 e.pr.2=(e.pr.2,e.pr.1):=by unfold Zd;split<;>simp
     rcases hx with hx|hx<;>rcases this with t|t<;>rw [←hs,hx] at t<;>have t1:=Qq (·.1) t<;>have t2:=Qq (·.2) t
     ·exact .inr t2
     ·exact .inl t2
     ·exact .inl t1
     ·exact .inr t1
    cases e with
    |union a b d=>rcases Zr with rfl|rfl<;>simp [Ent.named,Ent.pr]
    |parted a b d=>rcases Zr with rfl|rfl<;>simp [Ent.named,Ent.pr]
    |_=>cases ht
  ·rw [U4 e] at h;exact Zhk _ _ h
 obtain ⟨e,he,h1|h1⟩:=ex
 ·obtain ⟨s,d,f,m,hb⟩:=j.gd.known e he x h1;exact (j.known (Vs.mp hb)).1
 ·cases e with
  |born n s d f m=>cases h1;exact (j.known he).1
  |_=>cases h1
theorem Jn.step (j:Jn pool B es ls F) {s n:Str} (hs:s∈Yb) (kn:Known B n) (x:Str):x∈Z9 B s n↔x∈F (s,n):=by
 have so:=Zem j.gd;have ne:=fun {l:Str} (hl:l∈Xn)=>Zf7 so hl;have lks:∀l,Yv B l n=(Yx (es.map Ent.told)).1 (l,n):=fun l=>by rw [WD,j.li.st.lks,j.hk]
 have six:∀{l:Str} {ad:Str->Ent->List Str},WN l=false->¬l="S"->Adds l ad->(∀e,ad n e.told=ad n e)->(∀e∈es,∀f:ZG,Yk f e (l,n)=f (l,n)++ad n e)->(x∈Z9 B l n↔x∈F (l,n)):=fun {l ad} ht nS A tl st=>by
  unfold Z9;rw [Qa (by rw [ht];decide),lks,A.all,(XA _).mem_iff,Zeo tl,j.lke,U4 nS,ZaZ st]
 have tst:s="he"∨s="she"->(x∈Z9 B s n↔x∈F (s,n)):=fun h=>by
  have ht:WN s=true:=by rcases h with rfl|rfl<;>decide +kernel
  have nS:¬s="S":=by rcases h with rfl|rfl<;>decide +kernel
  unfold Z9;rw [Qc ht,j.lke,U4 nS,Zma h];obtain ⟨d,f,m,hb⟩:=j.born kn;by_cases e:XX B n=s
  ·rw [Qc e];rw [e] at hb;exact ⟨fun z=>⟨by simpa using z,d,f,m,hb⟩,fun z=>by rw [z.1];simp⟩
  ·rw [Qa e];exact ⟨fun z=>(by cases z),fun ⟨_,d',f',m',hb'⟩=>absurd (j.known hb').2 e⟩
 simp only [Yb,Qh,QS,QT] at hs;rcases hs with rfl|rfl|rfl|rfl|rfl|rfl|rfl|h|h
 ·exact six (by decide +kernel) (by decide +kernel) Zcj (fun e=>by cases e<;>rfl) fun e he f=>Zey f e n (ne (by decide +kernel) e he)
 ·exact six (by decide +kernel) (by decide +kernel) ZbP (fun e=>by cases e<;>rfl) fun e he f=>Zg9 f e n (ne (by decide +kernel) e he)
 ·exact six (by decide +kernel) (by decide +kernel) ZcR (fun e=>by cases e<;>rfl) fun e he f=>ZgG f e n (ne (by decide +kernel) e he)
 ·exact six (by decide +kernel) (by decide +kernel) ZbO (fun e=>by cases e<;>rfl) fun e he f=>ZgZ f e n (ne (by decide +kernel) e he)
 ·exact six (by decide +kernel) (by decide +kernel) Zb5 (fun e=>by cases e<;>rfl) fun e he f=>Zf6 f e n (ne (by decide +kernel) e he)
 ·exact six (by decide +kernel) (by decide +kernel) ZcS (fun e=>by cases e<;>rfl) fun e he f=>ZeY f e n (ne (by decide +kernel) e he)
 ·have eS:Yo es ("S",n)=[]:=by
   rw [ZaZ (ad:=fun _=>[]) fun e he f=>Zg1 f e n (ne (by decide +kernel) e he)];simp
  have ap:=j.li.ap';have once:=j.li.once;rw [j.hk] at ap once;unfold Z9;rw [Qa (by decide +kernel),lks,(ZeK ap).mem,ZgY once,←ZoL once,j.lke,ZeT,eS]
  have td:Za8 (es.map Ent.told) n x=true↔∃d,YB es (Zd n x)=some (d,("union" : Str)):=by
   rw [←Zki,ZjA];unfold Za8;cases (es.map Ent.told).foldl (WK n x) none with
   |none=>simp
   |some e =>
    show decide (e.kind="union")=true↔∃d,some (e.day,e.kind)=some (d,("union" : Str));rw [decide_eq_true_iff];exact ⟨fun h=>⟨e.day,by rw [h]⟩,fun ⟨d,h⟩=>Qq (·.2) (Qt h)⟩
  rw [td];constructor
  ·rintro ⟨d,h⟩;rw [←j.la] at h;cases hf:Zy (Zd n x) ls with
   |none=>rw [hf] at h;cases h
   |some w =>
    rw [hf] at h;have hm:=Vb hf;have hw:w.2=(d,("union" : Str)):=Qt h;refine .inr ⟨_,hm,by rw [hw],?_⟩;show Zd n x=(n,x)∨Zd n x=(x,n);unfold Zd;split<;>simp
  ·rintro (h|⟨q,hq,hu,hx⟩)
   ·cases h
   ·have hl:=j.find hq;obtain ⟨e,he,ht,hs⟩:=Zbk hl
    have e1:Zd n x=q.1:=by
     rcases hx with hx|hx
     ·rw [show Zd n x=Zd q.1.1 q.1.2 by rw [hx],hs,Wy]
     ·rw [J5,show Zd x n=Zd q.1.1 q.1.2 by rw [hx],hs,Wy]
    rw [e1,hl];exact ⟨q.2.2.1,by rw [←hu]⟩
 ·exact tst (.inl h)
 ·exact tst (.inr h)
theorem Jn.clo (j:Jn pool B es ls F) (l:pool.length≤60):Clo B pool:=⟨fun s hs n kn x hx=>j.mem_in ((j.step hs kn x).mp hx),fun n h=>j.inp h,l⟩
end
noncomputable def Zbn (p:Ent×Addr):Option V:=p.1.bornName.map V.str
theorem ZfX:∀ks:List (Ent×Addr),(ks.map Zbn).filterMap id=((ks.map (·.1)).filterMap Ent.bornName).map V.str
 |[]=>rfl
 |p::ks=>by
  have ih:=ZfX ks;rw [Qr,QW,Qr,QW];unfold Zbn at ih ⊢;cases h:p.1.bornName with
  |none=>simp only [Option.map_none,id];exact ih
  |some n=>simp only [GT,id,Qr];rw [ih]
theorem ZnL {es:List Ent} {n:Str} (h:n∈es.filterMap Ent.bornName):∃s d f m,Ent.born n s d f m∈es:=by
 obtain ⟨e,he,hn⟩:=Ri.mp h;cases e with
 |born n' s d f m=>cases hn;exact ⟨s,d,f,m,he⟩
 |_=>cases hn
noncomputable def Zaz:Nat->Int->Int
 |0,z=>z
 |n+1,z=>Zaz n (z.fdiv (10 ^ 24))
noncomputable def ZaH (c k:Int):Int:=if c.fmod 2=0 then (Zaz (k.fmod 16).toNat (c.fdiv 2)).fmod (10 ^ 24) else
 (((c+7919*k*k+1)*48271).fmod 2147483647*((c+7919*k*k+1)*48271).fmod 2147483647).fmod 2147483629
theorem Zgk {rs:Ws} (n:(rs.map (·.1)).Nodup) {x:Str} {zs:List Str} (h:(x,zs)∈Xm rs):∃r∈rs,r.2.2=zs∧ZI (Xg rs) (.inr x)=some (.ref r.2.1):=by
 obtain ⟨r,hr,e⟩:=Qg.mp h;have e1:r.1=x:=Qq (·.1) e;refine ⟨r,hr,Qq (·.2) e,?_⟩;rw [←e1];exact Zg3 (ZeS n) (p:=(.inr r.1,.ref r.2.1)) (Qg.mpr ⟨r,hr,rfl⟩)
section
variable {K:W.Frag} {w:World} {mg:Str->Option Value}
def StAt (T:Tx K w mg) (H:Hp) (x:V) (s:Str):Prop:=∃a dx,x=.ref a∧(H a=some (.ins T.c_Letter dx [("letter",.str s)])∨H a=some (.ins T.c_Test dx [("wanted",.str s)]))
def SdAt (T:Tx K w mg) (H:Hp) (x:V) (u:Str):Prop:=∃a dx,x=.ref a∧H a=some (.ins T.c_Said dx [("word",.str u)])
def PcAt (T:Tx K w mg) (H:Hp) (x v t:V) (L:Str->List Str->Prop):Prop :=
 (∃s B,StAt T H x s∧s∈Yb∧BkHas K T.c_Book H v B∧∀n zs,L n zs->Known B n∧zs=Z9 B s n)∨∃u d rs,SdAt T H x u∧TabAt H t u d rs∧∀n zs,L n zs->(n,zs)∈Xm rs
theorem StAt.mono {T:Tx K w mg} {H H':Hp} {x:V} {s:Str} (h:StAt T H x s) (e:Same H H'):StAt T H' x s:=by
 obtain ⟨a,dx,rfl,h⟩:=h;exact ⟨a,dx,rfl,h.imp (e _ _) (e _ _)⟩
theorem SdAt.mono {T:Tx K w mg} {H H':Hp} {x:V} {s:Str} (h:SdAt T H x s) (e:Same H H'):SdAt T H' x s:=by
 obtain ⟨a,dx,rfl,h⟩:=h;exact ⟨a,dx,rfl,e _ _ h⟩
theorem PcAt.mono {T:Tx K w mg} {H H':Hp} {x v t:V} {L:Str->List Str->Prop} (h:PcAt T H x v t L) (e:Same H H'):PcAt T H' x v t L:=by
 rcases h with ⟨s,B,h1,h2,h3,h4⟩|⟨u,d,rs,h1,h2,h3⟩
 ·exact .inl ⟨s,B,h1.mono e,h2,h3.mono e,h4⟩
 ·exact .inr ⟨u,d,rs,h1.mono e,h2.mono e,h3⟩
def PcK (T:Tx K w mg) (H:Hp) (x:V) (sg u:Str):Prop:=(sg∈Yb∧StAt T H x sg)∨(sg=":"++u∧SdAt T H x u)
theorem PcK.isi {T:Tx K w mg} {H:Hp} {x:V} {sg u:Str} (h:PcK T H x sg u):∃ty,Kd K H x ty∧W.kitOne K ty (.ref T.c_Piece)=some true:=by
 rcases h with ⟨_,a,dx,rfl,h|h⟩|⟨_,a,dx,rfl,h⟩
 ·exact ⟨_,.of (.ins h T.cl_Letter T.ci_Letter T.cg T.ct T.mo_Letter),T.kp_Letter⟩
 ·exact ⟨_,.of (.ins h T.cl_Test T.ci_Test T.cg T.ct T.mo_Test),T.kp_Test⟩
 ·exact ⟨_,.of (.ins h T.cl_Said T.ci_Said T.cg T.ct T.mo_Said),T.kp_Said⟩
end
theorem Zoa (c:Int) (h:c.fmod 11≤8):∃s∈Yb,Yu (Yb.map V.str) (c.fmod 11)=some (.str s):=by
 have h0:=QN c (show (0:Int)<11 by decide);obtain ⟨m,em⟩:∃m:Nat,c.fmod 11=(m:Int):=⟨(c.fmod 11).toNat,by omega⟩;have ml:m<Yb.length:=by show m<9;omega
 rw [em];exact ⟨Yb[m],Gg ml,XI (by rw [Qu,Qz ml];rfl)⟩
theorem made {C a dx:Addr} {H:Hp} {fs:List (Str×V)} (na:H a=none) (nd:H dx=none):Same H (Zb (Zb (Zb H dx (.own a)) a (.ins C dx [])) a (.ins C dx fs)):=fun c u e=>by
 rw [Zh (ZU e na),Zh (ZU e na),Zh (ZU e nd)];exact e
noncomputable def Xb:Int->List Str->List Str
 |_,[]=>[]
 |z,p::ps=>if z.fmod 3=0 then p::Xb (z.fdiv 3) ps else Xb (z.fdiv 3) ps
noncomputable def X5:Int->Nat->Int
 |z,0=>z
 |z,n+1=>X5 (z.fdiv 3) n
theorem Zac:∀(z:Int) (ps:List Str),(Xb z ps).length≤ps.length
 |_,[]=>Qf _
 |z,p::ps=>by
  have:=Zac (z.fdiv 3) ps;unfold Xb;split
  ·simp only [QJ];omega
  ·simp only [QJ];omega
theorem ZdZ:∀(z:Int) (n:Nat),X5 z (n+1)=(X5 z n).fdiv 3
 |z,0=>rfl
 |z,n+1=>by
  show X5 (z.fdiv 3) (n+1)=(X5 (z.fdiv 3) n).fdiv 3;exact ZdZ _ n
theorem ZfD:∀(z:Int) (ps:List Str) (p:Str),Xb z (ps++[p])=Xb z ps++(if (X5 z ps.length).fmod 3=0 then [p] else [])
 |z,[],p=>by
  show (if z.fmod 3=0 then [p] else [])=[]++(if z.fmod 3=0 then [p] else []);rfl
 |z,q::ps,p=>by
  have ih:=ZfD (z.fdiv 3) ps p;show (if z.fmod 3=0 then q::Xb (z.fdiv 3) (ps++[p]) else Xb (z.fdiv 3) (ps++[p]))=(if z.fmod 3=0 then q::Xb (z.fdiv 3) ps else Xb (z.fdiv 3) ps)++(if (X5 (z.fdiv 3) ps.length).fmod 3=0 then [p] else []);rw [ih];split<;>rfl
noncomputable def WO (ps:List Str) (c:Int) (k:Nat):List Str:=ZC (Xb (ZaH c (1+k)) ps)
noncomputable def Vt (ps:List Str) (c:Int):List (Str×List Str):=(List.range ps.length).map fun k=>(ps.getD k "",WO ps c k)
theorem ZoO {rs:Ws} {n:Str} (h:n∉rs.map (·.1)) (D:Addr) (zs:List Str):Yg (Xg rs) (.inr n) (.ref D)=Xg (rs++[(n,D,zs)]):=by
 rw [VQ]
 ·unfold Xg;rw [Qp];rfl
 ·cases hv:ZI (Xg rs) (.inr n) with
  |none=>rfl
  |some v =>
   exfalso;unfold ZI at hv;obtain ⟨p,hp,_⟩:=QL.mp hv;have m:=List.mem_of_find?_eq_some hp;have e:p.1=Sum.inr n:=by have:=List.find?_some hp;simpa using this
   obtain ⟨r,hr,rfl⟩:=Qg.mp m;exact h (Qg.mpr ⟨r,hr,RH e⟩)
theorem Zg5 (rs:Ws):rs.map (·.1)=(Xm rs).map (·.1):=by unfold Xm;rw [QG];rfl
theorem Zd1 {ps:List Str} {c:Int} {i:Nat} (h:i≤ps.length):((List.range i).map fun k=>(ps.getD k "",WO ps c k)).map (·.1)=ps.take i:=by
 rw [QG];apply List.ext_getElem?;intro j;rw [Qu,List.getElem?_take];by_cases jl:j<i
 ·rw [GS jl,Qc jl,Qz (by omega)];show some (ps.getD j "")=_;rw [Nw,Qz (by omega)];rfl
 ·rw [List.getElem?_eq_none (by simp;omega),Qa jl];rfl
theorem ZgP {W:List Str} {n:Nat} {z:Str} (h:W[n]?=some z):Yu (W.map V.str) (n:Int)=some (.str z):=XI (by rw [Qu,h];rfl)
theorem Zfd {s:Str} (hs:s="he"∨s="she") (n:Str):∀es:List Ent,Yo es (s,n)=[]∨Yo es (s,n)=[n]:=by
 intro es
 have go:∀(es:List Ent) (f:ZG),(f (s,n)=[]∨f (s,n)=[n])->es.foldl Yk f (s,n)=[]∨es.foldl Yk f (s,n)=[n]:=by
  intro es
  induction es with
  |nil=>exact fun f h=>h
  |cons e es ih =>
   intro f h;refine ih _ ?_;have nF:s≠"F"∧s≠"f"∧s≠"M"∧s≠"m"∧s≠"T"∧s≠"t":=by rcases hs with rfl|rfl<;>decide +kernel
   obtain ⟨n1,n2,n3,n4,n5,n6⟩:=nF;cases e with
   |born n' s' d fa mo =>
    show Z0 "M" "m" n' mo (Z0 "F" "f" n' fa (Z8 f s' n')) (s,n)=[]∨Z0 "M" "m" n' mo (Z0 "F" "f" n' fa (Z8 f s' n')) (s,n)=[n]
    have p1:∀{a b:Str},¬b=a->s≠b->s≠a->∀(x:Str) (g:ZG),Z0 a b n' x g (s,n)=g (s,n):=fun ab h1 h2 x g=>by
     rw [Y1 ab];split
     ·rfl
     ·rw [Qa fun z=>h1 z.1,Qa fun z=>h2 z.1]
    have e1:Z0 "M" "m" n' mo (Z0 "F" "f" n' fa (Z8 f s' n')) (s,n)=Z8 f s' n' (s,n):=by
     rw [p1 (by decide +kernel) n4 n3,p1 (by decide +kernel) n2 n1]
    rw [e1];unfold Z8;split
    ·rename_i z;injection z with z1 z2;rw [z2];exact .inr rfl
    ·exact h
   |taken c t d =>
    show ZS (ZS f ("T",c) t) ("t",t) c (s,n)=[]∨ZS (ZS f ("T",c) t) ("t",t) c (s,n)=[n];rw [Yh,Qa fun z=>n6 z.1,Yh,Qa fun z=>n5 z.1];exact h
   |_=>exact h
 exact go es _ (.inl rfl)
noncomputable def UI (n:Str) (q:(Str×Str)×Addr×Int×Str):List Str:=if q.2.2.2="union" then (if q.1.1=n then [q.1.2] else [])++(if q.1.2=n then [q.1.1] else []) else []
theorem ZfC (n:Str):∀(ls:YZ) (f:ZG),ls.foldl Y2 f ("S",n)=f ("S",n)++ls.flatMap (UI n)
 |[],f=>(Qo _).symm
 |q::ls,f=>by
  rw [Rn,ZfC n ls,Gm,←GQ]
  congr 1
  obtain ⟨⟨a,b⟩,r⟩:=q;unfold Y2 UI;show (if r.2.2="union" then ZS (ZS f ("S",a) b) ("S",b) a else f) ("S",n)=f ("S",n)++if r.2.2="union" then (if a=n then [b] else [])++(if b=n then [a] else []) else [];split
  ·rw [Yh];by_cases h2:n=b
   ·subst h2;rw [Qc ⟨rfl,rfl⟩,Yh,Qc rfl];by_cases h1:n=a
    ·subst h1;rw [Qc ⟨rfl,rfl⟩,Qc rfl,GQ]
    ·rw [Qa fun z=>h1 z.2,Qa fun z=>h1 z.symm];rfl
   ·rw [Qa fun z=>h2 z.2,Yh];by_cases h1:n=a
    ·subst h1;rw [Qc ⟨rfl,rfl⟩,Qc rfl,Qa fun z=>h2 z.symm,Qo]
    ·rw [Qa fun z=>h1 z.2,Qa fun z=>h1 z.symm,Qa fun z=>h2 z.symm,Qo,Qo]
  ·rw [Qo]
theorem Zgh {n x:Str} {q:(Str×Str)×Addr×Int×Str} (hq:q.1=Zd q.1.1 q.1.2) (h:x∈UI n q):q.1=Zd n x:=by
 unfold UI at h;split at h
 ·rcases Qn.mp h with h|h
  ·split at h
   ·rename_i e;rw [show x=q.1.2 by simpa using h,←e];exact hq
   ·cases h
  ·split at h
   ·rename_i e;rw [show x=q.1.1 by simpa using h,←e,J5];exact hq
   ·cases h
 ·cases h
theorem ZeH (n:Str):∀{ls:YZ},(ls.map (·.1)).Nodup->(∀q∈ls,q.1=Zd q.1.1 q.1.2∧q.1.1≠q.1.2)->(ls.flatMap (UI n)).Nodup
 |[],_,_=>.nil
 |q::ls,nd,h=>by
  rw [Qr,QH] at nd;rw [Gm,Q2];have hq:=h q (QA ..);refine ⟨?_,ZeH n nd.2 fun r hr=>h r (Qy _ hr),fun x hx y hy e=>?_⟩
  ·unfold UI;split
   ·by_cases h1:q.1.1=n<;>by_cases h2:q.1.2=n
    ·exact absurd (h1.trans h2.symm) hq.2
    ·rw [Qc h1,Qa h2];simp
    ·rw [Qa h1,Qc h2];simp
    ·rw [Qa h1,Qa h2];simp
   ·exact .nil
  ·subst e;obtain ⟨r,hr,hx'⟩:=List.mem_flatMap.mp hy;have e1:=Zgh hq.1 hx;have e2:=Zgh (h r (Qy _ hr)).1 hx';exact nd.1 (Qg.mpr ⟨r,hr,e2.trans e1.symm⟩)
theorem Jn.up {pool:List Str} {B:Bk} {es:List Ent} {ls:YZ} {F:ZG} (j:Jn pool B es ls F) {s n:Str} (hs:s∈Yb) (kn:Known B n):((Z9 B s n).Pairwise fun a b=>Yi a b=true)∧(Z9 B s n).Perm (F (s,n)):=by
 have so:=Zem j.gd;have ne:=fun {l:Str} (hl:l∈Xn)=>Zf7 so hl;have lks:∀l,Yv B l n=(Yx (es.map Ent.told)).1 (l,n):=fun l=>by rw [WD,j.li.st.lks,j.hk]
 have six:∀{l:Str} {ad:Str->Ent->List Str},WN l=false->¬l="S"->Adds l ad->(∀e,ad n e.told=ad n e)->(∀e∈es,∀f:ZG,Yk f e (l,n)=f (l,n)++ad n e)->((Z9 B l n).Pairwise fun a b=>Yi a b=true)∧(Z9 B l n).Perm (F (l,n)):=fun {l ad} ht nS A tl st=>by
  unfold Z9;rw [Qa (by rw [ht];decide),lks,A.all,Zeo tl,j.lke,U4 nS,ZaZ st];exact ⟨W8 _,XA _⟩
 have tst:s="he"∨s="she"->((Z9 B s n).Pairwise fun a b=>Yi a b=true)∧(Z9 B s n).Perm (F (s,n)):=fun h=>by
  have ht:WN s=true:=by rcases h with rfl|rfl<;>decide +kernel
  have nS:¬s="S":=by rcases h with rfl|rfl<;>decide +kernel
  have m:=j.step hs kn n;rw [j.lke,U4 nS] at m ⊢;unfold Z9 at m ⊢;rw [Qc ht] at m ⊢;by_cases e:XX B n=s
  ·rw [Qc e] at m ⊢;rcases Zfd h n es with z|z
   ·rw [z] at m;simp at m
   ·rw [z];exact ⟨by simp,.refl _⟩
  ·rw [Qa e] at m ⊢;rcases Zfd h n es with z|z
   ·rw [z];exact ⟨.nil,.refl _⟩
   ·rw [z] at m;simp at m
 have hs':=hs;simp only [Yb,Qh,QS,QT] at hs;rcases hs with rfl|rfl|rfl|rfl|rfl|rfl|rfl|h|h
 ·exact six (by decide +kernel) (by decide +kernel) Zcj (fun e=>by cases e<;>rfl) fun e he f=>Zey f e n (ne (by decide +kernel) e he)
 ·exact six (by decide +kernel) (by decide +kernel) ZbP (fun e=>by cases e<;>rfl) fun e he f=>Zg9 f e n (ne (by decide +kernel) e he)
 ·exact six (by decide +kernel) (by decide +kernel) ZcR (fun e=>by cases e<;>rfl) fun e he f=>ZgG f e n (ne (by decide +kernel) e he)
 ·exact six (by decide +kernel) (by decide +kernel) ZbO (fun e=>by cases e<;>rfl) fun e he f=>ZgZ f e n (ne (by decide +kernel) e he)
 ·exact six (by decide +kernel) (by decide +kernel) Zb5 (fun e=>by cases e<;>rfl) fun e he f=>Zf6 f e n (ne (by decide +kernel) e he)
 ·exact six (by decide +kernel) (by decide +kernel) ZcS (fun e=>by cases e<;>rfl) fun e he f=>ZeY f e n (ne (by decide +kernel) e he)
 ·have eS:Yo es ("S",n)=[]:=by
   rw [ZaZ (ad:=fun _=>[]) fun e he f=>Zg1 f e n (ne (by decide +kernel) e he)];simp
  have ap:=j.li.ap';rw [j.hk] at ap;have sk:=ZeK ap
  have ndF:(F ("S",n)).Nodup:=by
   rw [j.lke,ZfC,eS];refine ZeH n j.kn fun q hq=>?_;obtain ⟨e,he,ht,es2⟩:=Zbk (j.find hq);have a:=ap e.told (Qg.mpr ⟨e,he,rfl⟩);have tt:=Zfb e;have a:=a (tt.1.trans ht);refine ⟨by rw [es2,Wy],?_⟩;rw [es2,←tt.2.1];unfold Zd;split
   ·exact a.symm
   ·exact a
  refine ⟨?_,(NL ?_ ndF).mpr fun x=>j.step hs' kn x⟩
  ·unfold Z9;rw [Qa (by decide +kernel),lks];exact sk.up n
  ·unfold Z9;rw [Qa (by decide +kernel),lks];exact sk.nd n
 ·exact tst (.inl h)
 ·exact tst (.inr h)
theorem Jn.len {pool:List Str} {B:Bk} {es:List Ent} {ls:YZ} {F:ZG} (j:Jn pool B es ls F) (s n:Str):(Z9 B s n).length≤es.length+1:=by
 unfold Z9;split
 ·split<;>simp
 ·have ap:=j.li.ap';rw [j.hk] at ap;rw [WD,j.li.st.lks,j.hk];have:=Zfi ap (s,n);rw [Qd] at this;omega
theorem ZhB {s:Str} (h:s∈Yb):s.length≤1000∧∃ch,Yu s.cps.toList 0=some ch∧¬(⟨#[ch]⟩:Str)=":":=by
 simp only [Yb,Qh,QS,QT] at h;rcases h with rfl|rfl|rfl|rfl|rfl|rfl|rfl|rfl|rfl<;>exact ⟨by decide +kernel,_,rfl,by decide +kernel⟩
theorem Zhj (u:Str):Yu ((":" : Str)++u).cps.toList 0=some 58:=by
 refine XI (j:=0) ?_;show ((":" : Str)++u).cps.toList[0]?=some 58;have e:((":" : Str)++u).cps=(":" : Str).cps++u.cps:=rfl;rw [e,Array.toList_append,show (":" : Str).cps.toList=[58] from rfl];rfl
theorem Jg (u:Str):(":" : Str)++u∉Yb:=fun h=>by
 obtain ⟨_,ch,e,n⟩:=ZhB h;rw [Zhj] at e;cases e;exact n (by decide +kernel)
theorem Zcc {x:Str}:∀{z:Int} {ps:List Str},x∈Xb z ps->x∈ps
 |_,[],h=>h
 |z,p::ps,h=>by
  unfold Xb at h;split at h
  ·rcases Qh.mp h with rfl|h
   ·exact QA ..
   ·exact Qy _ (Zcc h)
  ·exact Qy _ (Zcc h)
theorem Zm7 {ps:List Str} {c:Int} {n:Str} {zs:List Str} (h:(n,zs)∈Vt ps c):(zs.Pairwise fun a b=>Yi a b=true)∧(∀y∈zs,y∈ps)∧zs.length≤ps.length:=by
 obtain ⟨k,_,e⟩:=Qg.mp h;have e:WO ps c k=zs:=Qq (·.2) e;rw [←e];unfold WO;exact ⟨W8 _,fun y hy=>Zcc ((XA _).mem_iff.mp hy),by rw [(XA _).length_eq];exact Zac _ _⟩
theorem Zhc {ps:List Str} (c:Int) {n:Str} (h:n∈ps):∃zs,(n,zs)∈Vt ps c:=by
 obtain ⟨k,hk⟩:=List.getElem?_of_mem h;have kl:=(QF.mp hk).1;exact ⟨WO ps c k,Qg.mpr ⟨k,Gq.mpr kl,by rw [Nw,hk];rfl⟩⟩
noncomputable def Zas (ps:List Str) (c:Int) (n:Str):List Str:=open Classical in if h:∃zs,(n,zs)∈Vt ps c then h.choose else []
theorem ZbW {ps:List Str} {c:Int} {n:Str} (h:n∈ps):(n,Zas ps c n)∈Vt ps c:=by
 unfold Zas;rw [dif_pos (Zhc c h)];exact (Zhc c h).choose_spec
def Lg (B:Bk) (sg:Str) (ps:List Str) (c:Int) (n:Str) (zs:List Str):Prop:=(sg∈Yb∧Known B n∧zs=Z9 B sg n)∨(sg∉Yb∧(n,zs)∈Vt ps c)
noncomputable def fG (B:Bk) (sg:Str) (ps:List Str) (c:Int) (n:Str):List Str:=if sg∈Yb then Z9 B sg n else Zas ps c n
theorem Zc9 {B:Bk} {sg:Str} {ps:List Str} {c:Int} {n:Str} (h:sg∈Yb):fG B sg ps c n=Z9 B sg n:=Qc h
theorem Zdl {B:Bk} {sg:Str} {ps:List Str} {c:Int} {n:Str} (h:sg∉Yb):fG B sg ps c n=Zas ps c n:=Qa h
theorem Zhp {B:Bk} {sg:Str} {ps:List Str} {c:Int} {n:Str} (h:n∈ps) (kn:Known B n):Lg B sg ps c n (fG B sg ps c n):=by
 by_cases m:sg∈Yb
 ·exact .inl ⟨m,kn,Zc9 m⟩
 ·exact .inr ⟨m,by rw [Zdl m];exact ZbW h⟩
theorem ZnE {B:Bk} {ed:Ed} {sg:Str} {ps pool:List Str} {c:Int} {n:Str} (agr:∀s∈Yb,∀n,Known B n->((Z9 B s n).Pairwise fun a b=>Yi a b=true)∧(Z9 B s n).Perm (lk ed (s,n))∧(Z9 B s n).length≤60) (clo:Clo B pool) (pl:ps.length≤60) (kp:∀n∈ps,Known B n) (h:n∈ps) :
  ((fG B sg ps c n).Pairwise fun a b=>Yi a b=true)∧(∀y∈fG B sg ps c n,y∈pool)∧(fG B sg ps c n).length≤60:=by
 by_cases m:sg∈Yb
 ·rw [Zc9 m];have a:=agr sg m n (kp n h);exact ⟨a.1,fun y hy=>clo.inp _ (clo.led sg m n (kp n h) y hy),a.2.2⟩
 ·rw [Zdl m];obtain ⟨a,b,l⟩:=Zm7 (ZbW (c:=c) h);exact ⟨a,fun y hy=>clo.inp _ (kp y (b y hy)),Qm l pl⟩
section
variable {K:W.Frag} {w:World} {mg:Str->Option Value}
def Mode (T:Tx K w mg) (x:V) (sg u:Str) (ps:List Str) (c:Int) (t:V) (H:Hp):Prop:=(sg∈Yb∧StAt T H x sg)∨(sg=":"++u∧SdAt T H x u∧∃d rs,TabAt H t u d rs∧Xm rs=Vt ps c)
theorem Mode.mono {T:Tx K w mg} {x t:V} {sg u:Str} {ps:List Str} {c:Int} {H H':Hp} (h:Mode T x sg u ps c t H) (s:Same H H'):Mode T x sg u ps c t H':=by
 rcases h with ⟨h1,h2⟩|⟨h1,h2,d,rs,h3,h4⟩
 ·exact .inl ⟨h1,h2.mono s⟩
 ·exact .inr ⟨h1,h2.mono s,d,rs,h3.mono s,h4⟩
theorem Mode.pk {T:Tx K w mg} {x t:V} {sg u:Str} {ps:List Str} {c:Int} {H:Hp} (h:Mode T x sg u ps c t H):PcK T H x sg u:=h.imp id fun h=>⟨h.1,h.2.1⟩
theorem Mode.pc {T:Tx K w mg} {x t v:V} {sg u:Str} {ps:List Str} {c:Int} {H:Hp} {B:Bk} (h:Mode T x sg u ps c t H) (hB:BkHas K T.c_Book H v B):PcAt T H x v t (Lg B sg ps c):=by
 rcases h with ⟨h1,h2⟩|⟨h1,h2,d,rs,h3,h4⟩
 ·refine .inl ⟨sg,B,h2,h1,hB,fun n zs l=>?_⟩;rcases l with ⟨_,k,e⟩|⟨n,_⟩
  ·exact ⟨k,e⟩
  ·exact absurd h1 n
 ·refine .inr ⟨u,d,rs,h2,h3,fun n zs l=>?_⟩;rcases l with ⟨m,_⟩|⟨_,m⟩
  ·exact absurd (h1▸m) (Jg u)
  ·rw [h4];exact m
end
theorem Zj6 (u:Str):((":" : Str)++u).length=1+u.length:=by
 show ((":" : Str).cps++u.cps).size=_;rw [Array.size_append];rfl
noncomputable def ft (k bi li ti su:Addr) (B:Bk):List Addr:=[k,bi,li,ti,su]++B.ties.map (·.2.1)
section
variable {H H':Hp} {k bi li ti su y:Addr} {B B':Bk}
theorem Zlq {Hs:Hp} (bt:But [k,bi,li,ti,su,y] H H') (hy:H y=none∨y=bi∨y∈B.ties.map (·.2.1)) (gr:GrowsT H B.ties B'.ties) (sc:Same Hs H) (fs:∀c∈ft k bi li ti su B,Hs c=none):Same Hs H'∧∀c∈ft k bi li ti su B',Hs c=none:=by
 refine ⟨fun c u e=>bt.eq c u (fun m=>?_) (sc c u e),fun c m=>?_⟩
 ·have no:c∉ft k bi li ti su B:=fun z=>by rw [fs c z] at e;cases e
  have m5:c∈[k,bi,li,ti,su]++[y]:=m;rcases Qn.mp m5 with z|z
  ·exact no (Q9 _ z)
  obtain rfl:=QV.mp z;rcases hy with z|z|z
  ·rw [sc c u e] at z;cases z
  ·exact no (Q9 _ (by rw [z];simp))
  ·exact no (Q6 _ z)
 ·rcases Qn.mp m with z|z
  ·exact fs c (Q9 _ z)
  ·rcases gr c z with z|z
   ·exact fs c (Q6 _ z)
   ·exact ZQ sc z
end
theorem ZkI {C b dx k bi li ti su:Addr} {H H':Hp} (nb:H b=none) (ndx:H dx=none) (keep:∀c o,Zb (Zb H dx (.own b)) b (.ins C dx []) c=some o->c≠b->H' c=some o)
  (n1:Zb (Zb H dx (.own b)) b (.ins C dx []) k=none) (n2:Zb (Zb H dx (.own b)) b (.ins C dx []) bi=none) (n3:Zb (Zb H dx (.own b)) b (.ins C dx []) li=none) (n4:Zb (Zb H dx (.own b)) b (.ins C dx []) ti=none) (n5:Zb (Zb H dx (.own b)) b (.ins C dx []) su=none) :
  Same H H'∧∀c∈ft k bi li ti su VS,H c=none:=by
 have sb:Same H (Zb (Zb H dx (.own b)) b (.ins C dx [])):=fun c o e=>by rw [Zh (ZU e nb),Zh (ZU e ndx)];exact e
 refine ⟨fun c o e=>keep c o (sb c o e) (ZU e nb),fun c m=>?_⟩
 have m':c=k∨c=bi∨c=li∨c=ti∨c=su:=by
  have e:ft k bi li ti su VS=[k,bi,li,ti,su]:=rfl;rw [e] at m;simpa using m
 rcases m' with rfl|rfl|rfl|rfl|rfl
 ·exact ZQ sb n1
 ·exact ZQ sb n2
 ·exact ZQ sb n3
 ·exact ZQ sb n4
 ·exact ZQ sb n5
theorem Zjc {B:Bk} {es:List Ent} (h:B.kept.map (·.1)=es.map Ent.told):Y9 B.kept=es.filterMap Ent.bornName:=by
 have e:Y9 B.kept=(B.kept.map (·.1)).filterMap Ent.bornName:=by unfold Y9;rw [Gy];rfl
 rw [e,h,Gy,show Ent.bornName∘Ent.told=Ent.bornName from funext fun e=>by cases e<;>rfl]
section
variable {K:W.Frag} {w:World} {mg:Str->Option Value}
theorem Zit:FnScope ["thing"] ["thing"] (Zw Zbu):=ZN
def Zmx (T:Tx K w mg):Sp:=fun vs H Q E=>vs.length=1∧(∃x t,vs=[x]∧Vw K H x t∧∀H',Same H H'->Q (.bl (Vk.isI t)) H')
theorem ZlG:FnScope ["thing"] ["thing"] (Zw ZbY):=ZN
def Zgu (T:Tx K w mg):Sp:=fun vs H Q E=>vs.length=1∧(∃x t,vs=[x]∧Vw K H x t∧∀H',Same H H'->Q (.bl (Wr t)) H')
theorem ZkO:FnScope ["thing"] ["thing"] (Zw Zbp):=ZN
def Ze4 (T:Tx K w mg):Sp:=fun vs H Q E=>vs.length=1∧(∃x t,vs=[x]∧Vw K H x t∧∀H',Same H H'->Q (.bl (Zbr t)) H')
theorem Zne:FnScope ["thing"] ["thing"] (Zw ZbZ):=ZN
def Zd2 (T:Tx K w mg):Sp:=fun vs H Q E=>vs.length=1∧(∃x t,vs=[x]∧Vw K H x t∧∀H',Same H H'->Q (.bl (Zbh t)) H')
theorem Zmv:FnScope ["thing"] ["thing"] (Zw ZdY):=ZN
def Zgz (T:Tx K w mg):Sp:=fun vs H Q E=>vs.length=1∧(∃x t,vs=[x]∧Vw K H x t∧∀H',Same H H'->Q (.bl (Vo t)) H')
theorem ZiB:FnScope ["thing"] ["thing"] (Zw ZbJ):=ZN
def ZeF (T:Tx K w mg):Sp:=fun vs H Q E=>vs.length=1∧(∃x t,vs=[x]∧Vw K H x t∧∀H',Same H H'->Q (.bl (Jb t)) H')
theorem Zj0:FnScope ["parts","checks"] ["parts","checks"] (Zw ZcU):=ZN
def Zmj (T:Tx K w mg):Sp:=fun vs H Q E=>vs.length=2∧(∃a b xs ts cs,vs=[.ref a,.ref b]∧SqT K H a xs∧Vws K H xs ts∧SqT K H b (cs.map fun c=>.ref (T.ad c))∧cs.length≤10∧∀H',Same H H'->Q (.bl (XE cs ts)) H')
theorem Zce:FnScope ["thing","word","checks"] ["thing"] (Zw ZdO):=ZN
def Zl6 (T:Tx K w mg):Sp:=fun vs H Q E=>vs.length=1∧(∃x,vs=[x]∧((∃t,Vw K H x t∧t.isT=false∧∀H',Same H H'->Q (.bl false) H')∨∃ts,Tv K H x ts∧ts.length≤10∧∀H',Same H H'->Q (.bl (W7 ts)) H'))
theorem Zji:FnScope ["entry"] ["entry"] (Zw ZbK):=ZN
def Zlz (T:Tx K w mg):Sp:=fun vs H Q E=>vs.length=1∧(∃v e,vs=[v]∧EntAt K H v e∧∀H',Same H H'->Q (.bl e.tie) H')
theorem ZmO:FnScope ["entry"] ["entry"] (Zw Zcu):=ZN
def ZlK (T:Tx K w mg):Sp:=fun vs H Q E=>vs.length=1∧(∃v e,vs=[v]∧EntAt K H v e∧∀H' D,Same H H'->H D=none->SqL K H' D (e.named.map V.str)->Q (.ref D) H')
theorem Znc:FnScope ["entry"] ["entry"] (Zw Zb6):=ZN
def Zjm (T:Tx K w mg):Sp:=fun vs H Q E=>vs.length=1∧(∃v e,vs=[v]∧EntAt K H v e∧Q (.int e.day) H)
theorem ZfY:FnScope ["entry","names"] ["entry"] (Zw ZcH):=ZN
def Zlc (T:Tx K w mg):Sp:=fun vs H Q E=>vs.length=1∧(∃v e,vs=[v]∧EntAt K H v e∧∀H' u,Same H H'->EntAt K H' u e.told->Q u H')
theorem Zil:FnScope ["entry"] ["entry"] (Zw Zcg):=ZN
def Znm (T:Tx K w mg):Sp:=fun vs H Q E=>vs.length=1∧(∃v e,vs=[v]∧EntAt K H v e∧∀H' p,Same H H'->H p=none->H' p=some (.tup (e.told.key.map kV))->Q (.ref p) H')
theorem Zod:FnScope ["thing"] ["thing"] (Zw Zcy):=ZN
def Zix (T:Tx K w mg):Sp:=fun vs H Q E=>vs.length=1∧(∃x,vs=[x]∧((∃ty,Kd K H x ty∧W.kitOne K ty (.type "str")=some false∧Q (.bl false) H)∨∃l,x=.str l∧Q (.bl (Ul l)) H))
theorem ZlT:FnScope ["one","other"] ["one","other"] (Zw Zcf):=ZN
def Ziw (T:Tx K w mg):Sp:=fun vs H Q E=>vs.length=2∧(∃a b,vs=[.str a,.str b]∧∀H' p,Same H H'->H p=none->H' p=some (.tup [.str (Zd a b).1,.str (Zd a b).2])->Q (.ref p) H')
theorem Zk9:FnScope ["self"] ["self"] (Zw Zdq):=ZN
def ZiO (T:Tx K w mg):Sp:=fun vs H Q E=>vs.length=1∧(∃b dx,vs=[.ref b]∧H b=some (.ins T.c_Book dx [])∧∀H' k bi li ti su,BkAt K T.c_Book H' b dx k bi li ti su VS->(∀c o,H c=some o->c≠b->H' c=some o)->H k=none->H bi=none->H li=none->H ti=none->H su=none->Q .non H')
theorem Zmc:FnScope ["self","name"] ["self","name"] (Zw ZdE):=ZN
def Zmr (T:Tx K w mg):Sp:=fun vs H Q E=>vs.length=2∧(∃v x B,vs=[v,x]∧BkHas K T.c_Book H v B∧((∃ty,Kd K H x ty∧W.kitOne K ty (.type "str")=some false∧E (.ref T.c_NoPerson) none H)∨∃n,x=.str n∧(Z5 n B.kept=none->E (.ref T.c_NoPerson) none H)∧∀p,Z5 n B.kept=some p->Q (.ref p.2) H))
theorem Zlv:FnScope ["self","name"] ["self","name"] (Zw Zco):=ZN
def Zh4 (T:Tx K w mg):Sp:=fun vs H Q E=>vs.length=2∧(∃v x B,vs=[v,x]∧BkHas K T.c_Book H v B∧((∃ty,Kd K H x ty∧W.kitOne K ty (.type "str")=some false∧E (.ref T.c_NoPerson) none H)∨∃n,x=.str n∧(Z5 n B.kept=none->E (.ref T.c_NoPerson) none H)∧∀p,Z5 n B.kept=some p->∀n' s d f m,p.1=.born n' s d f m->Q (.str s) H))
theorem Zim:FnScope ["self","name"] ["self","name"] (Zw ZcP):=ZN
def ZoG (T:Tx K w mg):Sp:=fun vs H Q E=>vs.length=2∧(∃v x B,vs=[v,x]∧BkHas K T.c_Book H v B∧((∃ty,Kd K H x ty∧W.kitOne K ty (.type "str")=some false∧E (.ref T.c_NoPerson) none H)∨∃n,x=.str n∧(Z5 n B.kept=none->E (.ref T.c_NoPerson) none H)∧∀p,Z5 n B.kept=some p->∀n' s d f m,p.1=.born n' s d f m->Q (.int d) H))
theorem Zi1:FnScope ["self","name","sort","day"] ["self","name","sort","day"] (Zw ZdC):=ZN
def Zjv (T:Tx K w mg):Sp:=fun vs H Q E=>vs.length=4∧(∃v n s d B,vs=[v,.str n,.str s,.int d]∧BkHas K T.c_Book H v B∧(n≠""->Known B n)∧Q (.bl (Xy B n s d)) H)
theorem Zfz:FnScope ["self","entry","names"] ["self","entry"] (Zw Zbw):=ZN
def Zm0 (T:Tx K w mg):Sp:=fun vs H Q E=>vs.length=2∧(∃v x B e,vs=[v,x]∧BkHas K T.c_Book H v B∧EntAt K H x e∧(∀n∈e.named,Known B n)∧∀H',Same H H'->Q (.bl (X2 B e)) H')
theorem Zfw:FnScope ["self","entry","name"] ["self","entry"] (Zw ZdX):=ZN
def Znl (T:Tx K w mg):Sp:=fun vs H Q E=>vs.length=2∧(∃v x B e,vs=[v,x]∧BkHas K T.c_Book H v B∧EntAt K H x e∧e.Ok∧XY B e=none∧∀H',Same H H'->Q .non H')
theorem ZkA:FnScope ["self","letter","begin","end"] ["self","letter","begin","end"] (Zw ZcL):=ZN
def ZjN (T:Tx K w mg):Sp:=fun vs H Q E=>vs.length=4∧(∃b dx k bi li ti su B l n m,vs=[.ref b,.str l,.str n,.str m]∧BkAt K T.c_Book H b dx k bi li ti su B∧(Yv B l n).length≤61∧B.links.length≤900∧∀H' D,BkAt K T.c_Book H' b dx k bi li ti su { B with links:=Zn B.links (l,n) (D,ZC (Yv B l n++[m])) }->But [li] H H'->H D=none->Q .non H')
theorem ZnW:FnScope ["self","entry"] ["self","entry"] (Zw ZcW):=ZN
def Znu (T:Tx K w mg):Sp:=fun vs H Q E=>vs.length=2∧(∃b dx k bi li ti su B0 B n s d f m a,vs=[.ref b,.ref a]∧B.kept=B0++[(.born n s d f m,a)]∧H b=some (.ins T.c_Book dx (Wt k bi li ti su))∧H bi=some (.dK (Bk.bornD B0))∧Z5 n B0=none∧B0.length≤900∧SqT K H a ((Ent.born n s d f m).row.map kV)∧BkAt K T.c_Book (Zb H bi (.dK (Bk.bornD B.kept))) b dx k bi li ti su B∧B.links.length≤890∧(∀c,(lk B.links c).length≤61)∧∀H' ls,BkAt K T.c_Book H' b dx k bi li ti su { B with links:=ls }->(∀c,lk ls c=Xk (lk B.links) n f m c)->ls.length≤B.links.length+4->But [bi,li] H H'->Grows H B.links ls->Q .non H')
theorem ZhW:FnScope ["self","letter","name"] ["self","letter","name"] (Zw Zdd):=ZN
def ZhK (T:Tx K w mg):Sp:=fun vs H Q E=>vs.length=3∧(∃v x y B,vs=[v,x,y]∧BkHas K T.c_Book H v B∧((∃ty,Kd K H x ty∧W.kitOne K ty (.type "str")=some false∧E (.ref T.c_NoWay) none H)∨∃l,x=.str l∧(Ul l=false->E (.ref T.c_NoWay) none H)∧(Ul l=true->((∃ty,Kd K H y ty∧W.kitOne K ty (.type "str")=some false∧E (.ref T.c_NoPerson) none H)∨∃n,y=.str n∧(Z5 n B.kept=none->E (.ref T.c_NoPerson) none H)∧(Known B n->∀H' D,Same H H'->H D=none->H' D=some (.lst ((Yv B l n).map V.str))->Q (.ref D) H')))))
theorem Zcw:FnScope ["self","one","other","day","ties","days"] ["self","one","other","day"] (Zw Wo):=ZN
def Zkt (T:Tx K w mg):Sp:=fun vs H Q E=>vs.length=4∧(∃v a c B,vs=[v,.str a,.str c,.non]∧BkHas K T.c_Book H v B∧Known B a∧Known B c∧(YA B (Zd a c)).length≤900∧∀H',Same H H'->Q (.bl (Zah B a c)) H')
theorem Zam:FnScope ["self","entry","days","begin","end"] ["self","entry"] (Zw Zcs):=ZN
def Zkw (T:Tx K w mg):Sp:=fun vs H Q E=>vs.length=2∧(∃b dx k bi li ti su B a kd p1 p2 d,vs=[.ref b,.ref a]∧SqT K H a [.str kd,.str p1,.str p2,.int d]∧BkAt K T.c_Book H b dx k bi li ti su B∧Known B p1∧Known B p2∧(B.ties.map (·.1)).Nodup∧B.ties.length≤800∧(YA B (Zd p1 p2)).length≤800∧B.links.length≤880∧(∀c,(lk B.links c).length≤60)∧∀H' ls ts y,BkAt K T.c_Book H' b dx k bi li ti su { B with links:=ls,ties:=ts }->(ts.map (·.1)).Nodup->ts.length≤B.ties.length+1->(∀c,YS ts c=if c=Zd p1 p2 then Zn (YA B (Zd p1 p2)) d kd else YA B c)->(∀c,lk ls c=ZL (ZL (lk B.links) (YK (Zn (YA B (Zd p1 p2)) d kd)) p1 p2) (YK (Zn (YA B (Zd p1 p2)) d kd)) p2 p1 c)->ls.length≤B.links.length+4->But [li,ti,y] H H'->(H y=none∨y∈B.ties.map (·.2.1))->GrowsT H B.ties ts->Grows H B.links ls->Q .non H')
theorem Zbe:FnScope ["self","entry","told","given"] ["self","entry"] (Zw Zdt):=ZN
def Zh2 (T:Tx K w mg):Sp:=fun vs H Q E=>vs.length=2∧(∃b dx k bi li ti su B x e,vs=[.ref b,x]∧BkAt K T.c_Book H b dx k bi li ti su B∧EntAt K H x e∧e.Ok∧XY B e=none∧Room1 B∧∀H' B' y,BkAt K T.c_Book H' b dx k bi li ti su B'->Put B e B'->But [k,bi,li,ti,su,y] H H'->(H y=none∨y=bi∨y∈B.ties.map (·.2.1))->Grows H B.links B'.links->GrowsT H B.ties B'.ties->Q .non H')
theorem Zls:FnScope ["self"] ["self"] (Zw ZcZ):=ZN
def ZoC (T:Tx K w mg):Sp:=fun vs H Q E=>vs.length=1∧(∃v B,vs=[v]∧BkHas K T.c_Book H v B∧(Y9 B.kept).length<64∧∀H' D,Same H H'->H D=none->H' D=some (.lst ((ZC (Y9 B.kept)).map V.str))->Q (.ref D) H')
theorem ZlB:FnScope ["thing"] ["thing"] (Zw ZbH):=ZN
def ZjR (T:Tx K w mg):Sp:=fun vs H Q E=>vs.length=1∧(∃x,vs=[.str x]∧Q (.bl (WN x)) H)
theorem Zi3:FnScope ["book","step","name"] ["book","step","name"] (Zw Zcx):=ZN
def ZlR (T:Tx K w mg):Sp:=fun vs H Q E=>vs.length=3∧(∃v s n B,vs=[v,.str s,.str n]∧BkHas K T.c_Book H v B∧s∈Yb∧Known B n∧∀H' D',Same H H'->H D'=none->H' D'=some (.lst ((Z9 B s n).map V.str))->Q (.ref D') H')
theorem Zon:FnScope ["self","letter"] ["self","letter"] (Zw ZdI):=ZN
def Ziv (T:Tx K w mg):Sp:=fun vs H Q E=>vs.length=2∧(∃a dx x,vs=[.ref a,.str x]∧H a=some (.ins T.c_Letter dx [])∧Q .non (Zb H a (.ins T.c_Letter dx [("letter",.str x)])))
theorem Zj2:FnScope ["self","book","table","name"] ["self","book","table","name"] (Zw ZbV):=ZN
def Zdr (T:Tx K w mg):Sp:=fun vs H Q E=>vs.length=4∧(∃a dx s v t n B,vs=[.ref a,v,t,.str n]∧H a=some (.ins T.c_Letter dx [("letter",.str s)])∧BkHas K T.c_Book H v B∧s∈Yb∧Known B n∧∀H' D',Same H H'->H D'=none->H' D'=some (.lst ((Z9 B s n).map V.str))->Q (.ref D') H')
theorem ZlU:FnScope ["self"] ["self"] (Zw Zca):=ZN
def ZcC (T:Tx K w mg):Sp:=fun vs H Q E=>vs.length=1∧(∃a dx x,vs=[.ref a]∧H a=some (.ins T.c_Letter dx [("letter",.str x)])∧Q (.str x) H)
theorem ZnY:FnScope ["self","sort"] ["self","sort"] (Zw Zdb):=ZN
def Zof (T:Tx K w mg):Sp:=fun vs H Q E=>vs.length=2∧(∃a dx x,vs=[.ref a,.str x]∧H a=some (.ins T.c_Test dx [])∧Q .non (Zb H a (.ins T.c_Test dx [("wanted",.str x)])))
theorem Znr:FnScope ["self","book","table","name"] ["self","book","table","name"] (Zw Zdi):=ZN
def Zci (T:Tx K w mg):Sp:=fun vs H Q E=>vs.length=4∧(∃a dx s v t n B,vs=[.ref a,v,t,.str n]∧H a=some (.ins T.c_Test dx [("wanted",.str s)])∧BkHas K T.c_Book H v B∧s∈Yb∧Known B n∧∀H' D',Same H H'->H D'=none->H' D'=some (.lst ((Z9 B s n).map V.str))->Q (.ref D') H')
theorem Znn:FnScope ["self"] ["self"] (Zw ZbG):=ZN
def ZdJ (T:Tx K w mg):Sp:=fun vs H Q E=>vs.length=1∧(∃a dx x,vs=[.ref a]∧H a=some (.ins T.c_Test dx [("wanted",.str x)])∧Q (.str x) H)
theorem ZoJ:FnScope ["self","word"] ["self","word"] (Zw Zda):=ZN
def ZiF (T:Tx K w mg):Sp:=fun vs H Q E=>vs.length=2∧(∃a dx x,vs=[.ref a,.str x]∧H a=some (.ins T.c_Said dx [])∧Q .non (Zb H a (.ins T.c_Said dx [("word",.str x)])))
theorem ZlC:FnScope ["self","book","table","name"] ["self","book","table","name"] (Zw Zc1):=ZN
def Zch (T:Tx K w mg):Sp:=fun vs H Q E=>vs.length=4∧(∃a dx w v t n d rs zs,vs=[.ref a,v,t,.str n]∧H a=some (.ins T.c_Said dx [("word",.str w)])∧TabAt H t w d rs∧(n,zs)∈Xm rs∧∀H' D',Same H H'->H D'=none->H' D'=some (.lst (zs.map V.str))->Q (.ref D') H')
theorem ZhY:FnScope ["self"] ["self"] (Zw Zb9):=ZN
def ZbX (T:Tx K w mg):Sp:=fun vs H Q E=>vs.length=1∧(∃a dx x,vs=[.ref a]∧H a=some (.ins T.c_Said dx [("word",.str x)])∧x.length≤1000∧Q (.str (":"++x)) H)
theorem JR:FnScope ["self","book","table","names","found","name","other"] ["self","book","table","names"] (Zw Zb4):=ZN
def Wq (T:Tx K w mg):Sp:=fun vs H Q E=>vs.length=4∧(∃(x v t:V) (l:Addr) (ns:List Str) (L:Str->List Str->Prop) (f:Str->List Str) (pool:List Str),vs=[x,v,t,.ref l]∧PcAt T H x v t L∧SqL K H l (ns.map V.str)∧ns.length≤100∧(∀n∈ns,L n (f n))∧(∀n∈ns,∀y∈f n,y∈pool)∧pool.length≤60∧∀H' D' ys,Same H H'->H D'=none->H' D'=some (.lst (ys.map V.str))->SrtOf (fun y=>∃n∈ns,y∈f n) ys->Q (.ref D') H')
theorem Zi4:FnScope ["_law_script","_law_k"] ["_law_script","_law_k"] (Zw Zdh):=ZN
def Zkz (T:Tx K w mg):Sp:=fun vs H Q E=>vs.length=2∧(∃(l:Addr) (ns:List Int) (k:Int),vs=[.ref l,.int k]∧SqL K H l (ns.map V.int)∧0≤k∧∀z,Q (.int z) H)
theorem Wa:FnScope ["_law_cell","_law_letters","_law_size","_law_at","_law_base","_law_names_here","_law_k","_law_name","_law_j"] ["_law_cell"] (Zw Zc2):=ZN
def ZlQ (T:Tx K w mg):Sp:=fun vs H Q E=>vs.length=1∧(∃c:Int,vs=[.int c]∧∀H' D' (ns:List Str),Same H H'->H D'=none->H' D'=some (.lst (ns.map V.str))->N14 ns->Q (.ref D') H')
theorem ZnT:FnScope ["_law_cell","_law_k","_law_way"] ["_law_cell","_law_k","_law_way"] (Zw Zcp):=ZN
def Zn4 (T:Tx K w mg):Sp:=fun vs H Q E=>vs.length=3∧(∃c k w:Int,vs=[.int c,.int k,.int w]∧0≤k∧k≤44∧∀d:Int,-10 ^ 18≤d->d≤10 ^ 18->Q (.int d) H)
theorem WI:FnScope ["_law_people","_law_names_here","_law_cell","_law_day_here","_law_number","_law_older","_law_fathers","_law_mothers","_law_father","_law_mother"] ["_law_people","_law_names_here","_law_cell","_law_day_here"] (Zw ZcE):=ZN
def ZoB (T:Tx K w mg):Sp:=fun vs H Q E=>vs.length=4∧(∃(D ln:Addr) (c d:Int) (ps:List Pp) (ns:List Str),vs=[.ref D,.ref ln,.int c,.int d]∧PpAt K H D ps∧SqL K H ln (ns.map V.str)∧ns.length=24∧ps.length<24∧∀H' a n s f m,Same H H'->H a=none->SqT K H' a ((Ent.born n s d f m).row.map kV)->ns[ps.length]?=some n->(s="he"∨s="she"∨s="")->XN ps "he" d f->XN ps "she" d m->Q (.ref a) H')
theorem Wm:FnScope ["_law_people","_law_known","_law_cell","_law_kind","_law_order","_law_one","_law_other","_law_day_here","_law_key","_law_entry"] ["_law_people","_law_known","_law_cell","_law_kind"] (Zw ZcK):=ZN
def ZkU (T:Tx K w mg):Sp:=fun vs H Q E=>vs.length=4∧(∃(D Dk:Addr) (c kd:Int) (ps:List Pp) (kn:List (List Zi)),vs=[.ref D,.ref Dk,.int c,.int kd]∧PpAt K H D ps∧H Dk=some (.dT (WX kn))∧2≤ps.length∧ps.length≤24∧kn.length≤100∧Zgq ps kn∧(∀p∈ps,-10 ^ 18≤p.2.2.2∧p.2.2.2≤10 ^ 18)∧(∀H',Same H H'->Q .non H')∧∀H' a e,(∀b u,b≠Dk->H b=some u->H' b=some u)->H a=none->SqT K H' a (e.row.map kV)->H' Dk=some (.dT (WX (kn++[e.told.key])))->e.told.key∉kn->DeedF ps e->Q (.ref a) H')
theorem Wc:FnScope ["_law_script","_law_start","_law_most","_law_names_here","_law_people","_law_known","_law_entries_here","_law_k","_law_cell","_law_kind","_law_entry"] ["_law_script","_law_start","_law_most"] (Zw ZcT):=ZN
def ZmG (T:Tx K w mg):Sp:=fun vs H Q E=>vs.length=3∧(∃(l:Addr) (ss:List Int),vs=[.ref l,.int 3,.int 12]∧SqL K H l (ss.map V.int)∧ss.length≤63∧∀H' D' ks ns,Same H H'->H D'=none->H' D'=some (.lst (Xz ks))->Uj K H' ks->N14 ns->GdL ns (ks.map (·.1))->ks.length≤30->Q (.ref D') H')
theorem ZoF:FnScope ["_law_edges_here","_law_letter","_law_low","_law_high"] ["_law_edges_here","_law_letter","_law_low","_law_high"] (Zw Zcd):=ZN
def Zl9 (T:Tx K w mg):Sp:=fun vs H Q E=>vs.length=4∧(∃(D:Addr) (L lo hi:Str) (ed:Ed) (n:Nat),vs=[.ref D,.str L,.str lo,.str hi]∧EdAt H D ed∧EdB ed n∧n≤500∧(L="F"∨L="M"∨L="T")∧∀H' ed',EdAt H' D ed'->EdB ed' (n+2)->(∀c,lk ed' c=ZS (ZS (lk ed) (L,lo) hi) (ZaX L,hi) lo c)->FrE D ed H H' ed'->Q .non H')
theorem WR:FnScope ["_law_entries_here","_law_edges_here","_law_last","_law_entry","_law_letter","_law_parent","_law_pair","_law_row"] ["_law_entries_here"] (Zw ZdM):=ZN
def ZlM (T:Tx K w mg):Sp:=fun vs H Q E=>vs.length=1∧(∃(Le:Addr) (ks:List (Ent×Addr)) (ns:List Str),vs=[.ref Le]∧SqL K H Le (Xz ks)∧Uj K H ks∧GdL ns (ks.map (·.1))∧ks.length≤40∧∀H' D ed ls,Same H H'->H D=none->EdAt H' D ed->EdB ed 500->(ls.map (·.1)).Nodup->(∀c,(Zy c ls).map (·.2)=YB (ks.map (·.1)) c)->(∀c,lk ed c=ls.foldl Y2 (Yo (ks.map (·.1))) c)->Q (.ref D) H')
theorem Zho:FnScope ["_law_found","_law_due","_law_k"] ["_law_found","_law_due"] (Zw Zb7):=ZN
def Zky (T:Tx K w mg):Sp:=fun vs H Q E=>vs.length=2∧(∃(l m:Addr) (xs:List Str),vs=[.ref l,.ref m]∧SqL K H l (xs.map V.str)∧SqL K H m (xs.map V.str)∧xs.length≤100∧Q (.bl true) H)
theorem Jd:FnScope ["_law_cell","_law_k","_law_number","_law_j"] ["_law_cell","_law_k"] (Zw Zdx):=ZN
def Zoc (T:Tx K w mg):Sp:=fun vs H Q E=>vs.length=2∧(∃c k:Int,vs=[.int c,.int k]∧0≤k∧k≤1000∧Q (.int (ZaH c k)) H)
theorem VA:FnScope ["_law_word","_law_people","_law_cell","_law_row","_law_k","_law_number","_law_some","_law_one"] ["_law_word","_law_people","_law_cell"] (Zw Zbi):=ZN
def ZoI (T:Tx K w mg):Sp:=fun vs H Q E=>vs.length=3∧(∃(u:Str) (l:Addr) (c:Int) (ps:List Str),vs=[.str u,.ref l,.int c]∧SqL K H l (ps.map V.str)∧ps.Nodup∧ps.length≤60∧∀H' t d rs,Same H H'->TabAt H' t u d rs->Xm rs=Vt ps c->Q t H')
theorem Zfl:FnScope ["_law_cell","_law_word","_law_some"] ["_law_cell","_law_word"] (Zw Zbg):=ZN
def Zmo (T:Tx K w mg):Sp:=fun vs H Q E=>vs.length=2∧(∃(c:Int) (u:Str),vs=[.int c,.str u]∧u.length≤1000∧∀H' D' x sg,Same H H'->H' D'=some (.lst [x,.str sg])->PcK T H' x sg u->Q (.ref D') H')
theorem YY:FnScope ["_law_book","_law_edges_here","_law_people","_law_cell","_law_word","_law_piece_here","_law_sign","_law_table_here","_law_handed","_law_number","_law_k","_law_names_here","_law_due","_law_name","_law_row","_law_told","_law_one","_law_found"] ["_law_book","_law_edges_here","_law_people","_law_cell","_law_word"] (Zw ZbR):=ZN
def Zjx (T:Tx K w mg):Sp:=fun vs H Q E=>vs.length=5∧(∃(v:V) (D lp:Addr) (c:Int) (u:Str) (B:Bk) (ed:Ed) (pool ps:List Str),vs=[v,.ref D,.ref lp,.int c,.str u]∧BkHas K T.c_Book H v B∧EdAt H D ed∧SqL K H lp (ps.map V.str)∧ps.Nodup∧0<ps.length∧ps.length≤60∧u.length≤1000∧(∀n∈ps,Known B n)∧Clo B pool∧(∀s∈Yb,∀n,Known B n->((Z9 B s n).Pairwise fun a b=>Yi a b=true)∧(Z9 B s n).Perm (lk ed (s,n))∧(Z9 B s n).length≤60)∧∀H',Same H H'->Q (.bl true) H')
theorem WZ:FnScope ["_law_script","_law_entries_here","_law_edges_here","_law_people","_law_book","_law_entry","_law_word","_law_cell"] ["_law_script"] (Zw Zde):=ZN
def Zej (T:Tx K w mg):Sp:=fun vs H Q E=>vs.length=1∧(U3 K vs H Q E)
abbrev Zdy (P:Program) (base:Heap) (T:Tx K w mg):Prop:=FnOk P w K mg base (Zx P w) 1 T.J1.a (Zz K T.J1.a) ["thing"] (Zmx T)
abbrev ZcA (P:Program) (base:Heap) (T:Tx K w mg):Prop:=FnOk P w K mg base (Zx P w) 1 T.YU.a (Zz K T.YU.a) ["thing"] (Zgu T)
abbrev ZgA (P:Program) (base:Heap) (T:Tx K w mg):Prop:=FnOk P w K mg base (Zx P w) 2 T.Xf.a (Zz K T.Xf.a) ["thing"] (Ze4 T)
abbrev ZfF (P:Program) (base:Heap) (T:Tx K w mg):Prop:=FnOk P w K mg base (Zx P w) 2 T.Wb.a (Zz K T.Wb.a) ["thing"] (Zd2 T)
abbrev ZgU (P:Program) (base:Heap) (T:Tx K w mg):Prop:=FnOk P w K mg base (Zx P w) 1 T.We.a (Zz K T.We.a) ["thing"] (Zgz T)
abbrev Zgt (P:Program) (base:Heap) (T:Tx K w mg):Prop:=FnOk P w K mg base (Zx P w) 2 T.X6.a (Zz K T.X6.a) ["thing"] (ZeF T)
abbrev Zgs (P:Program) (base:Heap) (T:Tx K w mg):Prop:=FnOk P w K mg base (Zx P w) 3 T.Zal.a (Zz K T.Zal.a) ["parts","checks"] (Zmj T)
abbrev ZfU (P:Program) (base:Heap) (T:Tx K w mg):Prop:=FnOk P w K mg base (Zx P w) 4 T.ZaL.a (Zz K T.ZaL.a) ["thing"] (Zl6 T)
abbrev ZcQ (P:Program) (base:Heap) (T:Tx K w mg):Prop:=FnOk P w K mg base (Zx P w) 1 T.Zay.a (Zz K T.Zay.a) ["entry"] (Zlz T)
abbrev ZdQ (P:Program) (base:Heap) (T:Tx K w mg):Prop:=FnOk P w K mg base (Zx P w) 1 T.ZaS.a (Zz K T.ZaS.a) ["entry"] (ZlK T)
abbrev Zhv (P:Program) (base:Heap) (T:Tx K w mg):Prop:=FnOk P w K mg base (Zx P w) 1 T.Zbc.a (Zz K T.Zbc.a) ["entry"] (Zjm T)
abbrev Zb3 (P:Program) (base:Heap) (T:Tx K w mg):Prop:=FnOk P w K mg base (Zx P w) 2 T.Za6.a (Zz K T.Za6.a) ["entry"] (Zlc T)
abbrev ZdF (P:Program) (base:Heap) (T:Tx K w mg):Prop:=FnOk P w K mg base (Zx P w) 3 T.Zao.a (Zz K T.Zao.a) ["entry"] (Znm T)
abbrev Zd6 (P:Program) (base:Heap) (T:Tx K w mg):Prop:=FnOk P w K mg base (Zx P w) 1 T.ZaM.a (Zz K T.ZaM.a) ["thing"] (Zix T)
abbrev Zdu (P:Program) (base:Heap) (T:Tx K w mg):Prop:=FnOk P w K mg base (Zx P w) 1 T.Zap.a (Zz K T.Zap.a) ["one","other"] (Ziw T)
abbrev ZgK (P:Program) (base:Heap) (T:Tx K w mg):Prop:=FnOk P w K mg base (Zx P w) 1 T.Uk.a (Zz K T.Uk.a) ["self"] (ZiO T)
abbrev V2 (P:Program) (base:Heap) (T:Tx K w mg):Prop:=FnOk P w K mg base (Zx P w) 1 T.Y7.a (Zz K T.Y7.a) ["self","name"] (Zmr T)
abbrev Zbl (P:Program) (base:Heap) (T:Tx K w mg):Prop:=FnOk P w K mg base (Zx P w) 2 T.Vh.a (Zz K T.Vh.a) ["self","name"] (Zh4 T)
abbrev ZcF (P:Program) (base:Heap) (T:Tx K w mg):Prop:=FnOk P w K mg base (Zx P w) 2 T.XV.a (Zz K T.XV.a) ["self","name"] (ZoG T)
abbrev Zhe (P:Program) (base:Heap) (T:Tx K w mg):Prop:=FnOk P w K mg base (Zx P w) 3 T.Vi.a (Zz K T.Vi.a) ["self","name","sort","day"] (Zjv T)
abbrev Zga (P:Program) (base:Heap) (T:Tx K w mg):Prop:=FnOk P w K mg base (Zx P w) 4 T.Uc.a (Zz K T.Uc.a) ["self","entry"] (Zm0 T)
abbrev Zes (P:Program) (base:Heap) (T:Tx K w mg):Prop:=FnOk P w K mg base (Zx P w) 5 T.Uu.a (Zz K T.Uu.a) ["self","entry"] (Znl T)
abbrev Zav (P:Program) (base:Heap) (T:Tx K w mg):Prop:=FnOk P w K mg base (Zx P w) 1 T.YV.a (Zz K T.YV.a) ["self","letter","begin","end"] (ZjN T)
abbrev Zht (P:Program) (base:Heap) (T:Tx K w mg):Prop:=FnOk P w K mg base (Zx P w) 2 T.Ud.a (Zz K T.Ud.a) ["self","entry"] (Znu T)
abbrev Zdz (P:Program) (base:Heap) (T:Tx K w mg):Prop:=FnOk P w K mg base (Zx P w) 2 T.Vf.a (Zz K T.Vf.a) ["self","letter","name"] (ZhK T)
abbrev ZgC (P:Program) (base:Heap) (T:Tx K w mg):Prop:=FnOk P w K mg base (Zx P w) 2 T.a_Book_stands T.fd_Book_stands ["self","one","other","day"] (Zkt T)
abbrev ZeB (P:Program) (base:Heap) (T:Tx K w mg):Prop:=FnOk P w K mg base (Zx P w) 3 T.UJ.a (Zz K T.UJ.a) ["self","entry"] (Zkw T)
abbrev ZfI (P:Program) (base:Heap) (T:Tx K w mg):Prop:=FnOk P w K mg base (Zx P w) 6 T.VW.a (Zz K T.VW.a) ["self","entry"] (Zh2 T)
abbrev Zhq (P:Program) (base:Heap) (T:Tx K w mg):Prop:=FnOk P w K mg base (Zx P w) 1 T.UQ.a (Zz K T.UQ.a) ["self"] (ZoC T)
abbrev ZeD (P:Program) (base:Heap) (T:Tx K w mg):Prop:=FnOk P w K mg base (Zx P w) 1 T.JY.a (Zz K T.JY.a) ["thing"] (ZjR T)
abbrev Zc0 (P:Program) (base:Heap) (T:Tx K w mg):Prop:=FnOk P w K mg base (Zx P w) 3 T.Zbd.a (Zz K T.Zbd.a) ["book","step","name"] (ZlR T)
abbrev ZgV (P:Program) (base:Heap) (T:Tx K w mg):Prop:=FnOk P w K mg base (Zx P w) 1 T.VX.a (Zz K T.VX.a) ["self","letter"] (Ziv T)
abbrev ZbD (P:Program) (base:Heap) (T:Tx K w mg):Prop:=FnOk P w K mg base (Zx P w) 4 T.Vd.a (Zz K T.Vd.a) ["self","book","table","name"] (Zdr T)
abbrev Ze1 (P:Program) (base:Heap) (T:Tx K w mg):Prop:=FnOk P w K mg base (Zx P w) 1 T.Wj.a (Zz K T.Wj.a) ["self"] (ZcC T)
abbrev Zfo (P:Program) (base:Heap) (T:Tx K w mg):Prop:=FnOk P w K mg base (Zx P w) 1 T.Ua.a (Zz K T.Ua.a) ["self","sort"] (Zof T)
abbrev Zc4 (P:Program) (base:Heap) (T:Tx K w mg):Prop:=FnOk P w K mg base (Zx P w) 4 T.W1.a (Zz K T.W1.a) ["self","book","table","name"] (Zci T)
abbrev Zf4 (P:Program) (base:Heap) (T:Tx K w mg):Prop:=FnOk P w K mg base (Zx P w) 1 T.X9.a (Zz K T.X9.a) ["self"] (ZdJ T)
abbrev ZgH (P:Program) (base:Heap) (T:Tx K w mg):Prop:=FnOk P w K mg base (Zx P w) 1 T.V3.a (Zz K T.V3.a) ["self","word"] (ZiF T)
abbrev Zcm (P:Program) (base:Heap) (T:Tx K w mg):Prop:=FnOk P w K mg base (Zx P w) 1 T.WU.a (Zz K T.WU.a) ["self","book","table","name"] (Zch T)
abbrev Zfg (P:Program) (base:Heap) (T:Tx K w mg):Prop:=FnOk P w K mg base (Zx P w) 1 T.Wd.a (Zz K T.Wd.a) ["self"] (ZbX T)
abbrev ZeJ (P:Program) (base:Heap) (T:Tx K w mg):Prop:=FnOk P w K mg base (Zx P w) 5 T.Yw.a (Zz K T.Yw.a) ["self","book","table","names"] (Wq T)
abbrev Zcr (P:Program) (base:Heap) (T:Tx K w mg):Prop:=FnOk P w K mg base (Zx P w) 1 T.Za1.a (Zz K T.Za1.a) ["_law_script","_law_k"] (Zkz T)
abbrev ZcN (P:Program) (base:Heap) (T:Tx K w mg):Prop:=FnOk P w K mg base (Zx P w) 1 T.Zaj.a (Zz K T.Zaj.a) ["_law_cell"] (ZlQ T)
abbrev ZgD (P:Program) (base:Heap) (T:Tx K w mg):Prop:=FnOk P w K mg base (Zx P w) 1 T.Zab.a (Zz K T.Zab.a) ["_law_cell","_law_k","_law_way"] (Zn4 T)
abbrev Zge (P:Program) (base:Heap) (T:Tx K w mg):Prop:=FnOk P w K mg base (Zx P w) 1 T.Zau.a (Zz K T.Zau.a) ["_law_people","_law_names_here","_law_cell","_law_day_here"] (ZoB T)
abbrev Zhd (P:Program) (base:Heap) (T:Tx K w mg):Prop:=FnOk P w K mg base (Zx P w) 1 T.ZaV.a (Zz K T.ZaV.a) ["_law_people","_law_known","_law_cell","_law_kind"] (ZkU T)
abbrev ZfN (P:Program) (base:Heap) (T:Tx K w mg):Prop:=FnOk P w K mg base (Zx P w) 2 T.Zan.a (Zz K T.Zan.a) ["_law_script","_law_start","_law_most"] (ZmG T)
abbrev Zgl (P:Program) (base:Heap) (T:Tx K w mg):Prop:=FnOk P w K mg base (Zx P w) 1 T.JW.a (Zz K T.JW.a) ["_law_edges_here","_law_letter","_law_low","_law_high"] (Zl9 T)
abbrev ZhE (P:Program) (base:Heap) (T:Tx K w mg):Prop:=FnOk P w K mg base (Zx P w) 2 T.Zag.a (Zz K T.Zag.a) ["_law_entries_here"] (ZlM T)
abbrev Zd9 (P:Program) (base:Heap) (T:Tx K w mg):Prop:=FnOk P w K mg base (Zx P w) 1 T.ZaY.a (Zz K T.ZaY.a) ["_law_found","_law_due"] (Zky T)
abbrev Zeu (P:Program) (base:Heap) (T:Tx K w mg):Prop:=FnOk P w K mg base (Zx P w) 1 T.ZaC.a (Zz K T.ZaC.a) ["_law_cell","_law_k"] (Zoc T)
abbrev Zgx (P:Program) (base:Heap) (T:Tx K w mg):Prop:=FnOk P w K mg base (Zx P w) 2 T.Zaq.a (Zz K T.Zaq.a) ["_law_word","_law_people","_law_cell"] (ZoI T)
abbrev Zfe (P:Program) (base:Heap) (T:Tx K w mg):Prop:=FnOk P w K mg base (Zx P w) 3 T.Zae.a (Zz K T.Zae.a) ["_law_cell","_law_word"] (Zmo T)
abbrev Zf0 (P:Program) (base:Heap) (T:Tx K w mg):Prop:=FnOk P w K mg base (Zx P w) 6 T.Zaw.a (Zz K T.Zaw.a) ["_law_book","_law_edges_here","_law_people","_law_cell","_law_word"] (Zjx T)
abbrev ZfA (P:Program) (base:Heap) (T:Tx K w mg):Prop:=FnOk P w K mg base (Zx P w) 7 T.Vq.a (Zz K T.Vq.a) ["_law_script"] (Zej T)
theorem Zi7:(["name"]:List Str).Nodup:=by decide +kernel
theorem Zn6:(["name","entry","self"]:List Str).Nodup:=by decide +kernel
theorem Zju:(["tied_on","day"]:List Str).Nodup:=by decide +kernel
theorem ZiV:(["name","end"]:List Str).Nodup:=by decide +kernel
theorem Zm4:(["_law_k","_law_cell"]:List Str).Nodup:=by decide +kernel
theorem Zhf:(["_law_one","_law_people"]:List Str).Nodup:=by decide +kernel
theorem Zmd:(["_law_one","_law_day_here","_law_people"]:List Str).Nodup:=by decide +kernel
theorem ZiZ:(["_law_entry"]:List Str).Nodup:=by decide +kernel
end
section
variable {K:W.Frag} {mg:Str->Option Value}
def spC (K:W.Frag) (f:Vk->Bool):Sp:=fun vs H Q _=>vs.length=1∧∃x t,vs=[x]∧Vw K H x t∧∀H',Same H H'->Q (.bl (f t)) H'
def Wg (T:Tx K w mg):Addr->Sp->Prop:=fun f sp=>∃c,f=T.ad c∧sp=spC K (VH c)
theorem ZmS {P:Program} {w:World} {base:Heap} {X:Cx} (T:Tx K w mg) (h1:FnOk P w K mg base (Zx P w) 1 T.YU.a (Zz K T.YU.a) ["thing"] (Zgu T)) (h2:FnOk P w K mg base (Zx P w) 1 T.We.a (Zz K T.We.a) ["thing"] (Zgz T))
  (h3:FnOk P w K mg base (Zx P w) 2 T.Xf.a (Zz K T.Xf.a) ["thing"] (Ze4 T)) (h4:FnOk P w K mg base (Zx P w) 2 T.Wb.a (Zz K T.Wb.a) ["thing"] (Zd2 T)) (h5:FnOk P w K mg base (Zx P w) 2 T.X6.a (Zz K T.X6.a) ["thing"] (ZeF T))
  (hr:Room 2 X.A) (e1:X.prog=P) (e2:X.w=w) (e3:X.K=K) (e4:X.mg=mg) (e5:X.base=base):ZeE X (Zx P w) (Wg T):=by
 subst e1 e2 e3 e4 e5;rintro f sp ⟨c,rfl,rfl⟩;cases c with
 |name=>exact ⟨1,_,_,h1,hr.mono (by decide),T.YU.F.kp,T.YU.b⟩
 |sort=>exact ⟨1,_,_,h2,hr.mono (by decide),T.We.F.kp,T.We.b⟩
 |day=>exact ⟨2,_,_,h3,hr,T.Xf.F.kp,T.Xf.b⟩
 |amount=>exact ⟨2,_,_,h4,hr,T.Wb.F.kp,T.Wb.b⟩
 |parent=>exact ⟨2,_,_,h5,hr,T.X6.F.kp,T.X6.b⟩
end
section
variable {K:W.Frag} {w:World} {mg:Str->Option Value} {T:Tx K w mg} {H:Hp} {x v t:V} {Q:VK} {E:XK}
theorem Zm2 {L:Str->List Str->Prop} {n:Str} {zs:List Str} (h:PcAt T H x v t L) (hl:L n zs) (q:∀H' D',Same H H'->H D'=none->H' D'=some (.lst (zs.map V.str))->Q (.ref D') H') :
  ∃a dx fs,x=.ref a∧fs.lookup ("leads_one" : Str)=none∧((H a=some (.ins T.c_Letter dx fs)∧Zdr T [x,v,t,.str n] H Q E)∨(H a=some (.ins T.c_Test dx fs)∧Zci T [x,v,t,.str n] H Q E)∨(H a=some (.ins T.c_Said dx fs)∧Zch T [x,v,t,.str n] H Q E)):=by
 rcases h with ⟨s,B,⟨a,dx,rfl,h1|h1⟩,h2,h3,h4⟩|⟨u,d,rs,⟨a,dx,rfl,h1⟩,h2,h3⟩
 ·obtain ⟨kn,rfl⟩:=h4 n zs hl;exact ⟨a,dx,_,rfl,rfl,.inl ⟨h1,rfl,a,dx,s,v,t,n,B,rfl,h1,h3,h2,kn,q⟩⟩
 ·obtain ⟨kn,rfl⟩:=h4 n zs hl;exact ⟨a,dx,_,rfl,rfl,.inr (.inl ⟨h1,rfl,a,dx,s,v,t,n,B,rfl,h1,h3,h2,kn,q⟩)⟩
 ·exact ⟨a,dx,_,rfl,rfl,.inr (.inr ⟨h1,rfl,a,dx,u,v,t,n,d,rs,zs,rfl,h1,h2,h3 n zs hl,q⟩)⟩
theorem ZlP {L:Str->List Str->Prop} {l:V} (h:PcAt T H x v t L) (q:Wq T [x,v,t,l] H Q E) :
  ∃a dx fs,x=.ref a∧fs.lookup ("leads" : Str)=none∧((H a=some (.ins T.c_Letter dx fs)∧Wq T [x,v,t,l] H Q E)∨(H a=some (.ins T.c_Test dx fs)∧Wq T [x,v,t,l] H Q E)∨(H a=some (.ins T.c_Said dx fs)∧Wq T [x,v,t,l] H Q E)):=by
 rcases h with ⟨s,B,⟨a,dx,rfl,h1|h1⟩,_⟩|⟨u,d,rs,⟨a,dx,rfl,h1⟩,_⟩
 ·exact ⟨a,dx,_,rfl,rfl,.inl ⟨h1,q⟩⟩
 ·exact ⟨a,dx,_,rfl,rfl,.inr (.inl ⟨h1,q⟩)⟩
 ·exact ⟨a,dx,_,rfl,rfl,.inr (.inr ⟨h1,q⟩)⟩
theorem Znx {sg u:Str} (h:PcK T H x sg u) (hu:u.length≤1000) (q:Q (.str sg) H) :
  ∃a dx fs,x=.ref a∧fs.lookup ("text" : Str)=none∧((H a=some (.ins T.c_Letter dx fs)∧ZcC T [x] H Q E)∨(H a=some (.ins T.c_Test dx fs)∧ZdJ T [x] H Q E)∨(H a=some (.ins T.c_Said dx fs)∧ZbX T [x] H Q E)):=by
 rcases h with ⟨_,a,dx,rfl,h|h⟩|⟨rfl,a,dx,rfl,h⟩
 ·exact ⟨a,dx,_,rfl,rfl,.inl ⟨h,rfl,a,dx,sg,rfl,h,q⟩⟩
 ·exact ⟨a,dx,_,rfl,rfl,.inr (.inl ⟨h,rfl,a,dx,sg,rfl,h,q⟩)⟩
 ·exact ⟨a,dx,_,rfl,rfl,.inr (.inr ⟨h,rfl,a,dx,u,rfl,h,hu,q⟩)⟩
theorem ZhG {L:Str->List Str->Prop} {n:Str} {zs:List Str} {σ:St} {E:XS} {i0 i1 i2 i3:Nat} (e0:σ[i0]?=some (some x)) (e1:σ[i1]?=some (some v)) (e2:σ[i2]?=some (some t)) (e3:σ[i3]?=some (some (.str n))) (h:PcAt T H x v t L) (hl:L n zs)
  (q:∀H' D',Same H H'->H D'=none->H' D'=some (.lst (zs.map V.str))->Q (.ref D') H') :
  V6 T.c_Letter T.c_Test T.c_Said "leads_one" (Zdr T) (Zci T) (Zch T) E (Xo i0) (WF (Xo i1) (WF (Xo i2) (WF (Xo i3) UN))) σ H Q:=by
 unfold V6;obtain ⟨a,dx,fs,e,l,h⟩:=Zm2 (E:=E σ) h hl q;exact ⟨x,e0,a,dx,fs,e,l,h.imp (fun h=>⟨h.1,_,e1,_,e2,_,e3,h.2⟩) fun h=>h.imp (fun h=>⟨h.1,_,e1,_,e2,_,e3,h.2⟩) fun h=>⟨h.1,_,e1,_,e2,_,e3,h.2⟩⟩
theorem Zgo {L:Str->List Str->Prop} {l:V} {σ:St} {E:XS} {i0 i1 i2 i3:Nat} (e0:σ[i0]?=some (some x)) (e1:σ[i1]?=some (some v)) (e2:σ[i2]?=some (some t)) (e3:σ[i3]?=some (some l)) (h:PcAt T H x v t L) (q:Wq T [x,v,t,l] H Q (E σ)) :
  V6 T.c_Letter T.c_Test T.c_Said "leads" (Wq T) (Wq T) (Wq T) E (Xo i0) (WF (Xo i1) (WF (Xo i2) (WF (Xo i3) UN))) σ H Q:=by
 unfold V6;obtain ⟨a,dx,fs,e,l,h⟩:=ZlP (E:=E σ) h q;exact ⟨x,e0,a,dx,fs,e,l,h.imp (fun h=>⟨h.1,_,e1,_,e2,_,e3,h.2⟩) fun h=>h.imp (fun h=>⟨h.1,_,e1,_,e2,_,e3,h.2⟩) fun h=>⟨h.1,_,e1,_,e2,_,e3,h.2⟩⟩
theorem ZbU {sg u:Str} {σ:St} {E:XS} {i0:Nat} (e0:σ[i0]?=some (some x)) (h:PcK T H x sg u) (hu:u.length≤1000) (q:Q (.str sg) H) :
  JS T.c_Letter T.c_Test T.c_Said "text" (ZcC T) (ZdJ T) (ZbX T) E (Xo i0) σ H Q:=by
 unfold JS;exact ⟨x,e0,Znx (E:=E σ) h hu q⟩
end
section
variable {P:Program} {w:World} {K:W.Frag} {mg:Str->Option Value} {base:Heap}
theorem Zh1 (T:Tx K w mg)  : Zdy P base T:=by
 refine Fun.okX (k:=0) T.J1.F Zit (fun vs H Q E h=>h.1) (fun cdv A outer s H vs Q E hr h=>?_);obtain ⟨-,h⟩:=h;obtain ⟨x,t,rfl,hv,q⟩:=h;refine ⟨_,(Zk (Zv (XO (Xl K (by rfl) T.n_isinstance (Za (pv 0) (Za (Xv (v:=.ty "int") (by rfl) T.n_int Zdj rfl) Zc))) (XC (Zmb (Xl K (by rfl) T.n_isinstance (Za (pv 0) (Za (Xv (v:=.ty "bool") (by rfl) T.n_bool ZlJ rfl) Zc)))))))),?_⟩;refine ⟨_,rfl,_,.ty "int",_,_,rfl,rfl,hv.kd,kI T t,_,rfl,?_⟩;cases t with
 |int i=>exact ZZ ⟨_,rfl,_,.ty "bool",_,_,rfl,rfl,hv.kd,T.k_int_bool,_,rfl,q _ (Same.refl H)⟩
 |bl=>exact ZZ ⟨_,rfl,_,.ty "bool",_,_,rfl,rfl,hv.kd,T.k_bool_bool,_,rfl,q _ (Same.refl H)⟩
 |_=>exact ZT (q _ (Same.refl H))
theorem ZkD (T:Tx K w mg)  : ZcA P base T:=by
 refine Fun.okX (k:=0) T.YU.F ZlG (fun vs H Q E h=>h.1) (fun cdv A outer s H vs Q E hr h=>?_);obtain ⟨-,h⟩:=h;obtain ⟨x,t,rfl,hv,q⟩:=h
 refine ⟨_,(Zj (ZH (PW.pt (Xp (Xc (YX (Xl K (by rfl) T.n_isinstance (Za (pv 0) (Za (Xv (v:=.ty "str") (by rfl) T.n_str WB rfl) Zc))))) (Xp (ZA WE (ZO ZgO (by rfl) T.n_len Yp (Za (pv 0) Zc)) Ze (Zu _)) (X0 (ZA WA (ZO ZgO (by rfl) T.n_len Yp (Za (pv 0) Zc)) Ze (Zu _)))))) (Zk (Zv YW)) ZK)
   (Zk (Zv (ZO (ZdD rfl) (by rfl) T.n_all ZbN (Za (JL (N:=["sign"]) (cl:=[]) (σc:=fun _=>[none]) rfl (ZeN (L:=[(".0",.local),("sign",.local),("LETTERS",.globalImplicit)]) (by rfl) (by decide +kernel) (by decide +kernel) (by rfl) (by rfl) (by decide) (by rfl) (by simp)) (Zlx (pv 0)) (fun _ _ _=>(ZY (i:=0) Jj rfl (Or.inl rfl))) (fun _ _ _=>Za9) (fun _ _ _=>(YT ZjB (pv 0) (VG (v:=.str U6) (by rfl) T.m_LETTERS ⟨_,rfl⟩) (by rfl)))) Zc))))),?_⟩
 refine ⟨_,rfl,_,.ty "str",_,_,rfl,rfl,hv.kd,kS T t,_,rfl,?_⟩;cases t with
 |str z =>
  obtain ⟨e,hz⟩:=hv;subst e;have hs:z.length≤sizeLine:=QY (ZD (by omega));refine ZT ⟨_,rfl,z,rfl,hs,_,_,rfl,rfl,_,rfl,?_⟩;by_cases h1:((z.length:Nat):Int)<1
  ·rw [Ql h1]
   have e:Wr (.str z)=false:=by
    rw [ZbS];rw [Qk (show ¬1≤z.length by omega)];rfl
   rw [e] at q;exact ZZ (q _ (Same.refl H))
  rw [Qk h1];refine ZT ⟨_,rfl,z,rfl,hs,_,_,rfl,rfl,_,rfl,?_⟩;by_cases h2:(8:Int)<((z.length:Nat):Int)
  ·rw [Ql h2]
   have e:Wr (.str z)=false:=by
    rw [ZbS];rw [Qk (show ¬z.length≤8 by omega),Bool.and_false];rfl
   rw [e] at q;exact ZZ (q _ (Same.refl H))
  rw [Qk h2]
  have e:Wr (.str z)=(z.cps.toList.map X3).all id:=by
   rw [ZbS];rw [Ql (show 1≤z.length by omega),Ql (show z.length≤8 by omega),List.all_map];rfl
  rw [e] at q;have hl:z.cps.size=z.length:=rfl;refine ZT ⟨_,rfl,z,rfl,?_⟩;refine Za2 ((z.cps.toList.map X3).map V.bl) (by simp only [Qd,RI];exact RV (Nat.le_of_eq hl) (ZD (by omega))) (fun σ=>∃o,σ=[o]) ⟨none,rfl⟩ ?_ ?_ ?_ ?_
  ·intro i H2 hi _;show i<z.cps.size;simpa using hi
  ·intro H2 _;show (((z.cps.toList.map X3).map V.bl).length:Nat)=z.cps.size;simp
  ·rintro i σ H2 v H3 y hy ⟨o,rfl⟩ s2 ⟨e3,c,hc,ev⟩ C hC;subst e3 ev
   have ey:y=.bl (X3 c):=by
    have hc':z.cps.toList[i]?=some c:=by simpa using hc
    rw [Qu,Qu,hc'] at hy;exact (Qt hy).symm
   subst ey;exact ⟨_,rfl,_,_,rfl,rfl,hC _ _ ⟨_,rfl⟩ (Same.refl _)⟩
  ·intro D H2 hD s2 hl2;exact ⟨D,_,rfl,hl2,q _ s2⟩
 |_=>exact ZZ (q _ (Same.refl H))
theorem Zox (T:Tx K w mg) (UH:Zdy P base T):ZgA P base T:=by
 refine Fun.okX (k:=1) T.Xf.F ZkO (fun vs H Q E h=>h.1) (fun cdv A outer s H vs Q E hr h=>?_);obtain ⟨-,h⟩:=h;obtain ⟨x,t,rfl,hv,q⟩:=h;refine ⟨_,(Zk (Zv (XO (ZW UH hr ZB (Za (pv 0) Zc)) (XC (YT ZcJ (ZO Zkv (by rfl) T.n_abs Zj5 (Za (pv 0) Zc)) (Zq X7 Ze Ze) (Zu _)))))),?_⟩;refine ⟨_,rfl,rfl,x,t,rfl,hv,fun H1 s1=>⟨_,rfl,?_⟩⟩;cases t with
 |int i =>
  cases (show x=.int i from hv);exact ZZ ⟨_,rfl,i,rfl,_,_,rfl,rfl,(show W0 10 18 from ⟨by decide,by decide,by decide +kernel⟩),_,_,rfl,rfl,q _ s1⟩
 |_=>exact ZT (q _ s1)
theorem ZkZ (T:Tx K w mg) (UH:Zdy P base T):ZfF P base T:=by
 refine Fun.okX (k:=1) T.Wb.F Zne (fun vs H Q E h=>h.1) (fun cdv A outer s H vs Q E hr h=>?_);obtain ⟨-,h⟩:=h;obtain ⟨x,t,rfl,hv,q⟩:=h;refine ⟨_,(Zk (Zv (XO (ZW UH hr ZB (Za (pv 0) Zc)) (XO (YT US (pv 0) Ze (Zu _)) (XC (YT ZcJ (pv 0) (Zq X7 Ze Ze) (Zu _))))))),?_⟩;refine ⟨_,rfl,rfl,x,t,rfl,hv,fun H1 s1=>⟨_,rfl,?_⟩⟩;cases t with
 |int i =>
  cases (show x=.int i from hv);refine ZZ ⟨_,rfl,_,_,rfl,rfl,_,rfl,?_⟩;have q1:=q _ s1;rw [Ziz] at q1;by_cases h1:1≤i
  ·rw [Ql h1] at q1 ⊢;exact ZZ ⟨_,rfl,_,_,rfl,rfl,(show W0 10 18 from ⟨by decide,by decide,by decide +kernel⟩),_,_,rfl,rfl,q1⟩
  ·rw [Qk h1] at q1 ⊢;exact ZT q1
 |_=>exact ZT (q _ s1)
theorem Zln (T:Tx K w mg)  : ZgU P base T:=by
 refine Fun.okX (k:=0) T.We.F Zmv (fun vs H Q E h=>h.1) (fun cdv A outer s H vs Q E hr h=>?_);obtain ⟨-,h⟩:=h;obtain ⟨x,t,rfl,hv,q⟩:=h;refine ⟨_,(Zk (Zv (XO (Xl K (by rfl) T.n_isinstance (Za (pv 0) (Za (Xv (v:=.ty "str") (by rfl) T.n_str WB rfl) Zc))) (XC (YT Js (pv 0) (Z7 (Za Zs (Za Zs (Za Zs Zc)))) (by rfl)))))),?_⟩;refine ⟨_,rfl,_,.ty "str",_,_,rfl,rfl,hv.kd,kS T t,_,rfl,?_⟩;cases t with
 |str z =>
  cases (show x=.str z from hv.1);refine ZZ ⟨_,rfl,by decide,fun p hp=>⟨p,_,rfl,.inr (.of Zg),rfl,rfl,?_⟩⟩
  have e:(if false=true then !XW (.str z) [.str "he",.str "she",.str ""] else XW (.str z) [.str "he",.str "she",.str ""])=Vo (.str z):=by
   rw [Qa (by decide)];exact ZlN z
  rw [e];exact q _ (Zl hp)
 |_=>exact ZT (q _ (Same.refl H))
theorem Zla (T:Tx K w mg) (Uh:ZcA P base T):Zgt P base T:=by
 refine Fun.okX (k:=1) T.X6.F ZiB (fun vs H Q E h=>h.1) (fun cdv A outer s H vs Q E hr h=>?_);obtain ⟨-,h⟩:=h;obtain ⟨x,t,rfl,hv,q⟩:=h;refine ⟨_,(Zk (Zv (Zf9 (ZW Uh hr ZB (Za (pv 0) Zc)) (XC (XO (Xl K (by rfl) T.n_isinstance (Za (pv 0) (Za (Xv (v:=.ty "str") (by rfl) T.n_str WB rfl) Zc))) (XC (YT ZX (pv 0) Zs (Zu _)))))))),?_⟩;refine ⟨_,rfl,rfl,x,t,rfl,hv,fun H1 s1=>⟨_,rfl,?_⟩⟩;have q1:=q _ s1;unfold Jb at q1;cases hn:Wr t with
 |true =>
  rw [hn] at q1;exact ZZ q1
 |false =>
  rw [hn,Bool.false_or] at q1;refine ZT ⟨_,rfl,_,.ty "str",_,_,rfl,rfl,(hv.mono s1).kd,kS T t,_,rfl,?_⟩;cases t with
  |str z =>
   cases (show x=.str z from hv.1)
   have e:decide (V.str z=V.str "")=decide (z=""):=by
    rw [Rj];simp
   exact ZZ ⟨_,rfl,rfl,by rw [e];exact q1⟩
  |_=>exact ZT q1
theorem Zih (T:Tx K w mg) (Uh:ZcA P base T) (Zds:ZgA P base T) (ZcD:ZfF P base T) (Zdn:ZgU P base T) (Zdm:Zgt P base T):Zgs P base T:=by
 refine Fun.okX (k:=2) T.Zal.F Zj0 (fun vs H Q E h=>h.1) (fun cdv A outer s H vs Q E hr h=>?_);obtain ⟨-,h⟩:=h;obtain ⟨a,b,xs,ts,cs,rfl,ha,hx,hb,hc,q⟩:=h
 refine ⟨_,(Zj (ZH (ZA Wv (ZO YO (by rfl) T.n_len Yp (Za (pv 0) Zc)) (ZO YO (by rfl) T.n_len Yp (Za (pv 1) Zc)) (Zu _)) (Zk (Zv YW)) ZK)
   (Zk (Zv (ZO (ZdD rfl) (by rfl) T.n_all ZbN (Za (JL (N:=["check","part"]) (cl:=[]) (σc:=fun _=>[none,none]) rfl (ZeN (L:=[(".0",.local),("check",.local),("part",.local)]) (by rfl) (by decide +kernel) (by decide +kernel) (by rfl) (by rfl) (by decide) (by rfl) (by simp)) (Zn2 K (by rfl) T.n_zip (Za (pv 1) (Za (pv 0) Zc))) (fun _ _ _=>(Zot (n:=2) K rfl (XQ (ZY (i:=0) nd2 rfl (Or.inl rfl)) (XQ (ZY (i:=1) nd2 rfl (Or.inl rfl)) UE)))) (fun _ _ _=>Za9) (fun _ _ _=>(Zjp (Wg:=Wg T) (i:=0) (ZmS T Uh Zdn Zds ZcD Zdm (hr.mono (by decide)) rfl rfl rfl rfl rfl) rfl (Or.inl rfl) ZB (Za (pv 1) Zc)))) Zc))))),?_⟩
 have lx:=hx.length;refine ⟨_,rfl,a,_,rfl,.inr ha,_,rfl,b,_,rfl,.inr hb,rfl,_,rfl,?_⟩
 have e0:(!decide (V.int (xs.length:Nat)=V.int ((cs.map fun c=>V.ref (T.ad c)).length:Nat)))=!decide (ts.length=cs.length):=by
  rw [lx,Qd]
  congr 1
  rw [Rj];simp only [Gj,V.int.injEq];omega
 rw [e0];unfold XE at q;by_cases hl:ts.length=cs.length
 ·rw [Ql hl] at q ⊢;rw [Gn] at q;have lo:(ZR cs ts).length=cs.length:=ZhD hl;refine ZT ⟨_,rfl,_,rfl,b,a,rfl,⟨_,hb⟩,⟨_,ha⟩,?_⟩;refine Za2 ((ZR cs ts).map V.bl) (by rw [Qd,lo];exact ZD (by omega)) (fun σ=>∃o u,σ=[o,u]) ⟨none,none,rfl⟩ ?_ ?_ ?_ ?_
  ·intro i H2 hi s2;rw [Qd,lo] at hi;have h1:i<(cs.map fun c=>V.ref (T.ad c)).length:=by rw [Qd];exact hi
   have h2:i<xs.length:=by omega
   exact ⟨_,_,_,_,s2.sqt hb,s2.sqt ha,Qz h1,Qz h2⟩
  ·intro H2 s2;exact ⟨_,s2.sqt hb,by rw [Qd,Qd,lo]⟩
  ·rintro i σ H2 v H3 y hy ⟨o,u,rfl⟩ s2 ⟨A',x1,x2,nA,rfl,f1,f2,rfl⟩ C hC;obtain ⟨c,t,e1,e2,e3⟩:=ZoD hl hy;have g1:=f1 _ (s2.sqt hb);have g2:=f2 _ (s2.sqt ha);rw [Qu,e1] at g1;have g1':x1=.ref (T.ad c):=(Qt g1).symm;obtain ⟨x,ex,vx⟩:=hx.get e2;rw [ex] at g2;have g2':x2=x:=(Qt g2).symm;subst g1' g2' e3;have sA:=Zl (o:=.tup [.ref (T.ad c),x2]) nA;refine ⟨A',_,rfl,.of Zg,rfl,?_⟩;refine ⟨_,_,rfl,_,_,rfl,rfl,?_⟩;refine ⟨_,_,rfl,⟨c,rfl,rfl⟩,_,rfl,rfl,x2,t,rfl,(vx.mono s2).mono sA,fun H5 s5=>hC _ _ ⟨_,_,rfl⟩ (sA.trans s5)⟩
  ·intro D H2 hD s2 hl2;exact ⟨D,_,rfl,hl2,q _ s2⟩
 ·rw [Qk hl] at q ⊢;exact ZZ (q _ (Same.refl H))
theorem Zkp (T:Tx K w mg) (Zdg:Zgs P base T):ZfU P base T:=by
 refine Fun.okX (k:=3) T.ZaL.F Zce (fun vs H Q E h=>h.1) (fun cdv A outer s H vs Q E hr h=>?_);obtain ⟨-,h⟩:=h;obtain ⟨x,rfl,h⟩:=h
 refine ⟨_,(Zj (ZH (PW.pt (Xp (Xc (YX (Xl K (by rfl) T.n_isinstance (Za (pv 0) (Za (Xv (v:=.ty "tuple") (by rfl) T.n_tuple Zii rfl) Zc))))) (Xp (ZA ZX (ZO YO (by rfl) T.n_len Yp (Za (pv 0) Zc)) Ze (Zu _)) (X0 (Xc (YX (Xl K (by rfl) T.n_isinstance (Za (Zm Zp (pv 0) Ze (fun _ _=>rfl)) (Za (Xv (v:=.ty "str") (by rfl) T.n_str WB rfl) Zc))))))))) (Zk (Zv YW)) ZK)
   (Zj (YM QI rfl (Zb8 (VG (v:=.ref T.aF) (by rfl) T.m_FORMS rfl)) (Jl rfl (XQ (ZY (i:=1) Zce.nd rfl (Or.inl rfl)) (XQ (ZY (i:=2) Zce.nd rfl (Or.inl rfl)) UE)))
    (Zk (ZH (ZA ZX (Zm Zp (pv 0) Ze (fun _ _=>rfl)) (pv 1) (Zu _)) (Zk (Zv (ZW Zdg hr ZB (Za (Ue J4 (pv 0) (W9 Ze) J2) (Za (pv 2) Zc))))) ZK)))
   (Zk (Zv YW)))),?_⟩
 rcases h with ⟨t,hv,ht,q⟩|⟨ts,⟨a,xs,rfl,hS,hx⟩,hl,q⟩
 ·have k:=kT T t;rw [ht] at k;exact ⟨_,rfl,_,.ty "tuple",_,_,rfl,rfl,hv.kd,k,_,rfl,ZZ (q _ (Same.refl H))⟩
 refine ⟨_,rfl,_,.ty "tuple",_,_,rfl,rfl,.sqt hS,T.k_tuple_tuple,_,rfl,?_⟩;refine ZT ⟨_,rfl,a,_,rfl,.inr hS,rfl,_,rfl,?_⟩
 match xs,ts,hx with
 |[],[],_=>exact ZZ (q _ (Same.refl H))
 |x::xs,t::ts,hx =>
  have e0:decide (V.int ((x::xs).length:Nat)=V.int 0)=false:=by
   rw [QJ]
   exact Qk fun z=>by
    have:=V.int.inj z;omega
  rw [e0];have at0:Yu (x::xs) 0=some x:=XI (j:=0) rfl;refine ZT ⟨_,rfl,a,_,_,_,rfl,rfl,hS,at0,_,.ty "str",_,_,rfl,rfl,hx.1.kd,kS T t,_,rfl,?_⟩;cases t with
  |str w =>
   have ex:x=.str w:=hx.1.1;refine ZT ⟨T.aF,rfl,⟨_,T.sF _⟩,Zfc (fun i σ H2=>∃v1 v2,σ=[some (.ref a),v1,v2]∧Same H H2∧∀j,j<i->∀p',Wh[j]?=some p'->w≠p'.1) ⟨none,none,rfl,Same.refl H,fun j hj=>by omega⟩ (fun _ _ _ _ _=>T.sF _) ?turn ?done⟩
   case done =>
    rintro σ H2 ⟨v1,v2,rfl,s2,b⟩
    have e:W7 (.str w::ts)=false:=by
     rw [Jh,ZiC b];rfl
    rw [e] at q;exact q _ s2
   case turn =>
    rintro i y σ H2 hy ⟨v1,v2,rfl,s2,b⟩;have hi:i<6:=(QF.mp hy).1;have hf:Wh[i]?=some (Wh[i]'hi):=Qz hi;generalize Wh[i]'hi=p at hf;obtain ⟨P,G,e1,e2,e3⟩:=ZmR T hf;rw [hy] at e1;have ey:y=.ref P:=Qt e1;subst ey;refine ⟨P,_,rfl,e2 _,rfl,_,_,rfl,_,_,rfl,rfl,?_⟩;refine ⟨_,rfl,a,_,_,_,rfl,rfl,s2.sqt hS,at0,_,rfl,by rw [ex];rfl,_,rfl,?_⟩;rw [ex]
    have ed:decide (V.str w=V.str p.1)=decide (w=p.1):=by
     rw [Rj];simp
    rw [ed];by_cases hw:w=p.1
    ·rw [Ql hw]
     have e:W7 (.str w::ts)=XE p.2 ts:=by
      rw [Jh,ZhP hf b hw];rfl
     rw [e] at q;refine ZZ ⟨_,rfl,_,rfl,a,_,rfl,s2.sqt hS,?_,fun n hn=>?_⟩
     ·rintro ⟨z,_⟩;have:HT.sIx (x::xs).length 0 (some ((1:Nat):Int))=0:=z;rw [HT.sIx_nat,QJ] at this;omega
     ·rw [ZnC];have sn:=Zl (o:=.tup xs) hn;refine ⟨_,rfl,rfl,n,G,xs,ts,p.2,rfl,.of Zg,(hx.2.mono s2).mono sn,e3 _,Zl2 p (QP hf),fun H5 s5=>q _ (s2.trans (sn.trans s5))⟩
    ·rw [Qk hw];refine ZT ⟨_,_,rfl,s2,fun j hj p' e'=>?_⟩;by_cases hji:j<i
     ·exact b j hji p' e'
     ·have:j=i:=by omega
      subst this;rw [hf] at e';cases e';exact hw
  |_=>exact ZZ (q _ (Same.refl H))
theorem ZlX (T:Tx K w mg)  : ZcQ P base T:=by
 refine Fun.okX (k:=0) T.Zay.F Zji (fun vs H Q E h=>h.1) (fun cdv A outer s H vs Q E hr h=>?_);obtain ⟨-,h⟩:=h;obtain ⟨v,e,rfl,⟨a,rfl,hE⟩,q⟩:=h;refine ⟨_,(Zk (Zv (YT Js (Zm Zp (pv 0) Ze (fun _ _=>rfl)) (Z7 (Za Zs (Za Zs Zc))) (by rfl)))),?_⟩;cases e with
 |born n s d f m=>exact ⟨_,rfl,a,_,_,_,rfl,rfl,hE,Zf (j:=0) rfl,few rfl,fun p np=>⟨p,_,rfl,.inr (.of Zg),rfl,rfl,q _ (Zl np)⟩⟩
 |taken c t d=>exact ⟨_,rfl,a,_,_,_,rfl,rfl,hE,Zf (j:=0) rfl,few rfl,fun p np=>⟨p,_,rfl,.inr (.of Zg),rfl,rfl,q _ (Zl np)⟩⟩
 |union x y d=>exact ⟨_,rfl,a,_,_,_,rfl,rfl,hE,Zf (j:=0) rfl,few rfl,fun p np=>⟨p,_,rfl,.inr (.of Zg),rfl,rfl,q _ (Zl np)⟩⟩
 |parted x y d=>exact ⟨_,rfl,a,_,_,_,rfl,rfl,hE,Zf (j:=0) rfl,few rfl,fun p np=>⟨p,_,rfl,.inr (.of Zg),rfl,rfl,q _ (Zl np)⟩⟩
 |dead n d=>exact ⟨_,rfl,a,_,_,_,rfl,rfl,hE,Zf (j:=0) rfl,few rfl,fun p np=>⟨p,_,rfl,.inr (.of Zg),rfl,rfl,q _ (Zl np)⟩⟩
 |given x y z d=>exact ⟨_,rfl,a,_,_,_,rfl,rfl,hE,Zf (j:=0) rfl,few rfl,fun p np=>⟨p,_,rfl,.inr (.of Zg),rfl,rfl,q _ (Zl np)⟩⟩
theorem ZiP (T:Tx K w mg)  : ZdQ P base T:=by
 refine Fun.okX (k:=0) T.ZaS.F ZmO (fun vs H Q E h=>h.1) (fun cdv A outer s H vs Q E hr h=>?_);obtain ⟨-,h⟩:=h;obtain ⟨v,e,rfl,⟨a,rfl,hE⟩,q⟩:=h
 refine ⟨_,(Zj (ZH (ZA ZX (Zm Zp (pv 0) Ze (fun _ _=>rfl)) Zs (Zu _)) (Zk (Zv (JL rfl (WH (N:=["name"]) [] [none] rfl (by decide +kernel) (by decide +kernel) (by rfl) (by rfl) (by rfl) (by rfl) (by rfl)) (Zb8 (Ue J4 (pv 0) (W9 Ze) J2)) (fun _ _ _=>(ZY (i:=0) Zi7 rfl (Or.inl rfl))) (fun _ _ _=>(Vm (ZA Wv (pv 0) Zs (Zu _)))) (fun _ _ _=>(pv 0))))) ZK)
   (Zj (ZH (ZA ZX (Zm Zp (pv 0) Ze (fun _ _=>rfl)) Zs (Zu _)) (Zk (Zv (Yt (Za (Zm Zp (pv 0) Ze (fun _ _=>rfl)) Zc)))) ZK)
   (Zk (Zv (Yt (Za (Zm Zp (pv 0) Ze (fun _ _=>rfl)) (Za (Zm Zp (pv 0) Ze (fun _ _=>rfl)) Zc))))))),?_⟩
 cases e with
 |born n s d f m =>
  refine ⟨_,rfl,a,_,_,_,rfl,rfl,hE,Zf (j:=0) rfl,rfl,_,rfl,Yd (by decide +kernel) ⟨_,rfl,_,rfl,?_⟩⟩;dsimp only [U8];refine UV hE (fun h=>absurd h.1 (show ¬(4:Nat)=0 by decide)) fun H1 p s1 hp=>?_;have hp':SqT K H1 p ([f,m].map V.str):=hp;refine ⟨p,rfl,⟨_,hp'⟩,VE ([f,m].map Uo) (ZD (by simp)) (fun σ=>∃v,σ=[v]) ⟨_,rfl⟩ (fun i H2 hi sm=>?go) (fun H2 sm=>?stop) (fun i σ H2 x H3 o ho hσ sm hx C hC=>?step) (fun D H2 nD sm hD=>?fin)⟩
  case go =>
   have hi':i<([f,m].map V.str).length:=hi;exact ⟨_,_,sm.sqt hp',Qz hi'⟩
  case stop=>exact ⟨_,sm.sqt hp',by simp⟩
  case step =>
   obtain ⟨v,rfl⟩:=hσ;obtain ⟨rfl,hx⟩:=hx;have e1:=hx _ (sm.sqt hp');rw [Qu] at e1 ho;obtain ⟨z,hz,rfl⟩:=QL.mp e1;rw [hz] at ho;obtain rfl:Uo z=o:=Qt ho;refine ⟨_,rfl,rfl,_,rfl,?_⟩;by_cases hz0:z=""
   ·subst hz0;exact Zt (by decide +kernel) (hC _ _ ⟨_,rfl⟩ (Same.refl _))
   ·have e2:Uo z=some (.str z):=Qa hz0;rw [e2] at hC;exact Yd (by rw [Xi,Qk hz0];rfl) ⟨_,rfl,hC _ _ ⟨_,rfl⟩ (Same.refl _)⟩
  case fin =>
   rw [Zfa] at hD;exact q _ D (s1.trans sm) (ZQ s1 nD) (.of hD)
 |dead n d=>exact ⟨_,rfl,a,_,_,_,rfl,rfl,hE,Zf (j:=0) rfl,rfl,_,rfl,Zt (by decide +kernel) ⟨_,rfl,a,_,_,_,rfl,rfl,hE,Zf (j:=0) rfl,rfl,_,rfl,Yd (by decide +kernel) ⟨_,rfl,a,_,_,_,rfl,rfl,hE,Zf (j:=1) rfl,few rfl,fun D nD=>q _ D (Zl nD) nD (.of Zg)⟩⟩⟩
 |taken c t d=>exact ⟨_,rfl,a,_,_,_,rfl,rfl,hE,Zf (j:=0) rfl,rfl,_,rfl,Zt (by decide +kernel) ⟨_,rfl,a,_,_,_,rfl,rfl,hE,Zf (j:=0) rfl,rfl,_,rfl,Zt (by decide +kernel) ⟨_,rfl,a,_,_,_,rfl,rfl,hE,Zf (j:=1) rfl,_,rfl,a,_,_,_,rfl,rfl,hE,Zf (j:=2) rfl,few rfl,fun D nD=>q _ D (Zl nD) nD (.of Zg)⟩⟩⟩
 |union x y d=>exact ⟨_,rfl,a,_,_,_,rfl,rfl,hE,Zf (j:=0) rfl,rfl,_,rfl,Zt (by decide +kernel) ⟨_,rfl,a,_,_,_,rfl,rfl,hE,Zf (j:=0) rfl,rfl,_,rfl,Zt (by decide +kernel) ⟨_,rfl,a,_,_,_,rfl,rfl,hE,Zf (j:=1) rfl,_,rfl,a,_,_,_,rfl,rfl,hE,Zf (j:=2) rfl,few rfl,fun D nD=>q _ D (Zl nD) nD (.of Zg)⟩⟩⟩
 |parted x y d=>exact ⟨_,rfl,a,_,_,_,rfl,rfl,hE,Zf (j:=0) rfl,rfl,_,rfl,Zt (by decide +kernel) ⟨_,rfl,a,_,_,_,rfl,rfl,hE,Zf (j:=0) rfl,rfl,_,rfl,Zt (by decide +kernel) ⟨_,rfl,a,_,_,_,rfl,rfl,hE,Zf (j:=1) rfl,_,rfl,a,_,_,_,rfl,rfl,hE,Zf (j:=2) rfl,few rfl,fun D nD=>q _ D (Zl nD) nD (.of Zg)⟩⟩⟩
 |given x y z d=>exact ⟨_,rfl,a,_,_,_,rfl,rfl,hE,Zf (j:=0) rfl,rfl,_,rfl,Zt (by decide +kernel) ⟨_,rfl,a,_,_,_,rfl,rfl,hE,Zf (j:=0) rfl,rfl,_,rfl,Zt (by decide +kernel) ⟨_,rfl,a,_,_,_,rfl,rfl,hE,Zf (j:=1) rfl,_,rfl,a,_,_,_,rfl,rfl,hE,Zf (j:=2) rfl,few rfl,fun D nD=>q _ D (Zl nD) nD (.of Zg)⟩⟩⟩
theorem Zle (T:Tx K w mg)  : Zhv P base T:=by
 refine Fun.okX (k:=0) T.Zbc.F Znc (fun vs H Q E h=>h.1) (fun cdv A outer s H vs Q E hr h=>?_);obtain ⟨-,h⟩:=h;obtain ⟨v,e,rfl,⟨a,rfl,hE⟩,q⟩:=h
 refine ⟨_,(Zj (ZH (ZA ZX (Zm Zp (pv 0) Ze (fun _ _=>rfl)) Zs (Zu _)) (Zk (Zv (Zm Zp (pv 0) Ze (fun _ _=>rfl)))) ZK)
   (Zk (Zv (Zm Zp (pv 0) (ZlO Znk Ze) (fun _ _=>rfl))))),?_⟩
 cases e with
 |born n s d f m=>exact ⟨_,rfl,a,_,_,_,rfl,rfl,hE,Zf (j:=0) rfl,rfl,_,rfl,Yd (by decide +kernel) ⟨_,rfl,a,_,_,_,rfl,rfl,hE,Zf (j:=3) rfl,q⟩⟩
 |taken c t d=>exact ⟨_,rfl,a,_,_,_,rfl,rfl,hE,Zf (j:=0) rfl,rfl,_,rfl,Zt (by decide +kernel) ⟨_,rfl,_,rfl,a,_,_,_,rfl,rfl,hE,rfl,q⟩⟩
 |union x y d=>exact ⟨_,rfl,a,_,_,_,rfl,rfl,hE,Zf (j:=0) rfl,rfl,_,rfl,Zt (by decide +kernel) ⟨_,rfl,_,rfl,a,_,_,_,rfl,rfl,hE,rfl,q⟩⟩
 |parted x y d=>exact ⟨_,rfl,a,_,_,_,rfl,rfl,hE,Zf (j:=0) rfl,rfl,_,rfl,Zt (by decide +kernel) ⟨_,rfl,_,rfl,a,_,_,_,rfl,rfl,hE,rfl,q⟩⟩
 |dead n d=>exact ⟨_,rfl,a,_,_,_,rfl,rfl,hE,Zf (j:=0) rfl,rfl,_,rfl,Zt (by decide +kernel) ⟨_,rfl,_,rfl,a,_,_,_,rfl,rfl,hE,rfl,q⟩⟩
 |given x y z d=>exact ⟨_,rfl,a,_,_,_,rfl,rfl,hE,Zf (j:=0) rfl,rfl,_,rfl,Zt (by decide +kernel) ⟨_,rfl,_,rfl,a,_,_,_,rfl,rfl,hE,rfl,q⟩⟩
theorem Zkg (T:Tx K w mg) (UF:ZcQ P base T):Zb3 P base T:=by
 refine Fun.okX (k:=1) T.Za6.F ZfY (fun vs H Q E h=>h.1) (fun cdv A outer s H vs Q E hr h=>?_);obtain ⟨-,h⟩:=h;obtain ⟨v,e,rfl,hx,q⟩:=h
 refine ⟨_,(Zj (ZH (Xc (YX (ZW UF hr ZB (Za (pv 0) Zc)))) (Zk (Zv (pv 0))) ZK)
   (Zj (ZF (i:=1) ZfY.nd rfl (Or.inl rfl) (ZO (Zor K) (by rfl) T.n_sorted Wx (Za (Ue J4 (pv 0) (W9 Ze) (W9 Ze)) Zc)))
   (Zk (Zv (Z7 (Za (Zm Zp (pv 0) Ze (fun _ _=>rfl)) (Za (Zm Ys (pv 1) Ze (fun _ _=>rfl)) (Za (Zm Ys (pv 1) Ze (fun _ _=>rfl)) (Za (Zm Zp (pv 0) Ze (fun _ _=>rfl)) Zc))))))))),?_⟩
 obtain ⟨a,rfl,hE⟩:=id hx;refine ⟨_,rfl,rfl,.ref a,e,rfl,hx,fun H1 s1=>⟨_,rfl,?_⟩⟩;have hE1:=s1.sqt hE;cases e with
 |born n s d f m=>exact ZZ ⟨_,rfl,q _ _ s1 (hx.mono s1)⟩
 |taken c t d=>exact ZZ ⟨_,rfl,q _ _ s1 (hx.mono s1)⟩
 |union x y d =>
  refine ZT ⟨_,rfl,_,rfl,_,rfl,?_⟩;refine UV hE1 (fun h=>absurd h.1 (show ¬(1:Nat)=0 by decide)) fun H2 p s2 hp=>?_;have hp':SqT K H2 p ([x,y].map V.str):=hp;refine ⟨p,[x,y],rfl,hp',QC rfl,fun D zs nD perm so=>?_⟩;rw [Ze5 perm so];have s3:=Zl (o:=.lst ([(Zd x y).1,(Zd x y).2].map V.str)) nD;have hE3:=s3.sqt (s2.sqt hE1);have hD:SqL K (Zb H2 D (.lst ([(Zd x y).1,(Zd x y).2].map V.str))) D ([(Zd x y).1,(Zd x y).2].map V.str):=.of Zg;refine ⟨_,rfl,a,_,_,_,rfl,rfl,hE3,Zf (j:=0) rfl,_,rfl,D,_,_,_,rfl,rfl,hD,Zf (j:=0) rfl,_,rfl,D,_,_,_,rfl,rfl,hD,Zf (j:=1) rfl,_,rfl,a,_,_,_,rfl,rfl,hE3,Zf (j:=3) rfl,few rfl,fun t nt=>?_⟩;exact q _ _ (s1.trans (s2.trans (s3.trans (Zl nt)))) ⟨t,rfl,.of Zg⟩
 |parted x y d =>
  refine ZT ⟨_,rfl,_,rfl,_,rfl,?_⟩;refine UV hE1 (fun h=>absurd h.1 (show ¬(1:Nat)=0 by decide)) fun H2 p s2 hp=>?_;have hp':SqT K H2 p ([x,y].map V.str):=hp;refine ⟨p,[x,y],rfl,hp',QC rfl,fun D zs nD perm so=>?_⟩;rw [Ze5 perm so];have s3:=Zl (o:=.lst ([(Zd x y).1,(Zd x y).2].map V.str)) nD;have hE3:=s3.sqt (s2.sqt hE1);have hD:SqL K (Zb H2 D (.lst ([(Zd x y).1,(Zd x y).2].map V.str))) D ([(Zd x y).1,(Zd x y).2].map V.str):=.of Zg;refine ⟨_,rfl,a,_,_,_,rfl,rfl,hE3,Zf (j:=0) rfl,_,rfl,D,_,_,_,rfl,rfl,hD,Zf (j:=0) rfl,_,rfl,D,_,_,_,rfl,rfl,hD,Zf (j:=1) rfl,_,rfl,a,_,_,_,rfl,rfl,hE3,Zf (j:=3) rfl,few rfl,fun t nt=>?_⟩;exact q _ _ (s1.trans (s2.trans (s3.trans (Zl nt)))) ⟨t,rfl,.of Zg⟩
 |dead n d=>exact ZZ ⟨_,rfl,q _ _ s1 (hx.mono s1)⟩
 |given x y z d=>exact ZZ ⟨_,rfl,q _ _ s1 (hx.mono s1)⟩
theorem Ziu (T:Tx K w mg) (Ur:Zb3 P base T):ZdF P base T:=by
 refine Fun.okX (k:=2) T.Zao.F Zil (fun vs H Q E h=>h.1) (fun cdv A outer s H vs Q E hr h=>?_);obtain ⟨-,h⟩:=h;obtain ⟨v,e,rfl,hx,q⟩:=h
 refine ⟨_,(Zj (ZH (ZA Js (Zm Zp (pv 0) Ze (fun _ _=>rfl)) (Z7 (Za Zs (Za Zs Zc))) (by rfl)) (Zk (Zv (Z7 (Za (Zm Zp (pv 0) Ze (fun _ _=>rfl)) (Za (Zm Zp (pv 0) Ze (fun _ _=>rfl)) Zc))))) ZK)
   (Zj (ZH (ZA ZX (Zm Zp (pv 0) Ze (fun _ _=>rfl)) Zs (Zu _)) (Zk (Zv (Z7 (Za (Zm Zp (pv 0) Ze (fun _ _=>rfl)) (Za (Zm Zp (pv 0) Ze (fun _ _=>rfl)) (Za (Zm Zp (pv 0) Ze (fun _ _=>rfl)) Zc)))))) ZK)
   (Zj (ZH (ZA ZX (Zm Zp (pv 0) Ze (fun _ _=>rfl)) Zs (Zu _)) (Zk (Zv (Z7 (Za (Zm Zp (pv 0) Ze (fun _ _=>rfl)) (Za (Zm Zp (pv 0) Ze (fun _ _=>rfl)) (Za (Zm Zp (pv 0) Ze (fun _ _=>rfl)) (Za (Zm Zp (pv 0) Ze (fun _ _=>rfl)) Zc))))))) ZK)
   (Zk (Zv (Zq ZnV (Z7 (Za Zs Zc)) (Ue J4 (ZW Ur hr ZB (Za (pv 0) Zc)) (W9 Ze) J2))))))),?_⟩
 obtain ⟨a,rfl,hE⟩:=id hx;cases e with
 |born n s d f m =>
  refine ⟨_,rfl,a,_,_,_,rfl,rfl,hE,Zf (j:=0) rfl,few rfl,fun p np=>⟨p,_,rfl,.inr (.of Zg),rfl,rfl,_,rfl,Yd (by decide +kernel) ?_⟩⟩;have s1:=Zl (o:=.tup [.str "born",.str "dead"]) np;have hE1:=s1.sqt hE;exact ⟨_,rfl,a,_,_,_,rfl,rfl,hE1,Zf (j:=0) rfl,_,rfl,a,_,_,_,rfl,rfl,hE1,Zf (j:=1) rfl,few rfl,fun t nt=>q _ t (s1.trans (Zl nt)) (ZQ s1 nt) Zg⟩
 |taken c t d =>
  refine ⟨_,rfl,a,_,_,_,rfl,rfl,hE,Zf (j:=0) rfl,few rfl,fun p np=>⟨p,_,rfl,.inr (.of Zg),rfl,rfl,_,rfl,Zt (by decide +kernel) ?_⟩⟩;have s1:=Zl (o:=.tup [.str "born",.str "dead"]) np;have hE1:=s1.sqt hE;refine ⟨_,rfl,a,_,_,_,rfl,rfl,hE1,Zf (j:=0) rfl,rfl,_,rfl,Yd (by decide +kernel) ?_⟩;exact ⟨_,rfl,a,_,_,_,rfl,rfl,hE1,Zf (j:=0) rfl,_,rfl,a,_,_,_,rfl,rfl,hE1,Zf (j:=1) rfl,_,rfl,a,_,_,_,rfl,rfl,hE1,Zf (j:=2) rfl,few rfl,fun t nt=>q _ t (s1.trans (Zl nt)) (ZQ s1 nt) Zg⟩
 |union x y d =>
  refine ⟨_,rfl,a,_,_,_,rfl,rfl,hE,Zf (j:=0) rfl,few rfl,fun p np=>⟨p,_,rfl,.inr (.of Zg),rfl,rfl,_,rfl,Zt (by decide +kernel) ?_⟩⟩;have s1:=Zl (o:=.tup [.str "born",.str "dead"]) np;have hE1:=s1.sqt hE;refine ⟨_,rfl,a,_,_,_,rfl,rfl,hE1,Zf (j:=0) rfl,rfl,_,rfl,Zt (by decide +kernel) ?_⟩;refine ⟨_,rfl,a,_,_,_,rfl,rfl,hE1,Zf (j:=0) rfl,rfl,_,rfl,Zt (by decide +kernel) ?_⟩;refine ⟨few rfl,fun t nt=>⟨_,rfl,rfl,.ref a,_,rfl,(hx.mono s1).mono (Zl nt),fun H2 u s2 hu=>?_⟩⟩;obtain ⟨b,rfl,hb⟩:=hu;refine ⟨_,rfl,?_⟩;dsimp only [U8];refine UV hb (fun h=>absurd h.1 (show ¬(1:Nat)=0 by decide)) fun H3 c s3 hc=>?_;refine ⟨t,c,[.str "tie"],[.str (Zd x y).1,.str (Zd x y).2,.int d],rfl,rfl,.of (s3 _ _ (s2 _ _ Zg)),hc,by simp,few rfl,fun h=>absurd h (by simp),fun _ z nz=>?_⟩;have s4:=(s1.trans (Zl nt)).trans (s2.trans s3);exact q _ z (s4.trans (Zl nz)) (ZQ s4 nz) Zg
 |parted x y d =>
  refine ⟨_,rfl,a,_,_,_,rfl,rfl,hE,Zf (j:=0) rfl,few rfl,fun p np=>⟨p,_,rfl,.inr (.of Zg),rfl,rfl,_,rfl,Zt (by decide +kernel) ?_⟩⟩;have s1:=Zl (o:=.tup [.str "born",.str "dead"]) np;have hE1:=s1.sqt hE;refine ⟨_,rfl,a,_,_,_,rfl,rfl,hE1,Zf (j:=0) rfl,rfl,_,rfl,Zt (by decide +kernel) ?_⟩;refine ⟨_,rfl,a,_,_,_,rfl,rfl,hE1,Zf (j:=0) rfl,rfl,_,rfl,Zt (by decide +kernel) ?_⟩;refine ⟨few rfl,fun t nt=>⟨_,rfl,rfl,.ref a,_,rfl,(hx.mono s1).mono (Zl nt),fun H2 u s2 hu=>?_⟩⟩;obtain ⟨b,rfl,hb⟩:=hu;refine ⟨_,rfl,?_⟩;dsimp only [U8];refine UV hb (fun h=>absurd h.1 (show ¬(1:Nat)=0 by decide)) fun H3 c s3 hc=>?_;refine ⟨t,c,[.str "tie"],[.str (Zd x y).1,.str (Zd x y).2,.int d],rfl,rfl,.of (s3 _ _ (s2 _ _ Zg)),hc,by simp,few rfl,fun h=>absurd h (by simp),fun _ z nz=>?_⟩;have s4:=(s1.trans (Zl nt)).trans (s2.trans s3);exact q _ z (s4.trans (Zl nz)) (ZQ s4 nz) Zg
 |dead n d =>
  refine ⟨_,rfl,a,_,_,_,rfl,rfl,hE,Zf (j:=0) rfl,few rfl,fun p np=>⟨p,_,rfl,.inr (.of Zg),rfl,rfl,_,rfl,Yd (by decide +kernel) ?_⟩⟩;have s1:=Zl (o:=.tup [.str "born",.str "dead"]) np;have hE1:=s1.sqt hE;exact ⟨_,rfl,a,_,_,_,rfl,rfl,hE1,Zf (j:=0) rfl,_,rfl,a,_,_,_,rfl,rfl,hE1,Zf (j:=1) rfl,few rfl,fun t nt=>q _ t (s1.trans (Zl nt)) (ZQ s1 nt) Zg⟩
 |given x y z d =>
  refine ⟨_,rfl,a,_,_,_,rfl,rfl,hE,Zf (j:=0) rfl,few rfl,fun p np=>⟨p,_,rfl,.inr (.of Zg),rfl,rfl,_,rfl,Zt (by decide +kernel) ?_⟩⟩;have s1:=Zl (o:=.tup [.str "born",.str "dead"]) np;have hE1:=s1.sqt hE;refine ⟨_,rfl,a,_,_,_,rfl,rfl,hE1,Zf (j:=0) rfl,rfl,_,rfl,Zt (by decide +kernel) ?_⟩;refine ⟨_,rfl,a,_,_,_,rfl,rfl,hE1,Zf (j:=0) rfl,rfl,_,rfl,Yd (by decide +kernel) ?_⟩;exact ⟨_,rfl,a,_,_,_,rfl,rfl,hE1,Zf (j:=0) rfl,_,rfl,a,_,_,_,rfl,rfl,hE1,Zf (j:=1) rfl,_,rfl,a,_,_,_,rfl,rfl,hE1,Zf (j:=2) rfl,_,rfl,a,_,_,_,rfl,rfl,hE1,Zf (j:=4) rfl,few rfl,fun t nt=>q _ t (s1.trans (Zl nt)) (ZQ s1 nt) Zg⟩
theorem Zif (T:Tx K w mg)  : Zd6 P base T:=by
 refine Fun.okX (k:=0) T.ZaM.F Zod (fun vs H Q E h=>h.1) (fun cdv A outer s H vs Q E hr h=>?_);obtain ⟨-,h⟩:=h;obtain ⟨x,rfl,h⟩:=h;refine ⟨_,(Zk (Zv (XO (Xl K (by rfl) T.n_isinstance (Za (pv 0) (Za (Xv (v:=.ty "str") (by rfl) T.n_str WB rfl) Zc))) (XC (YT Js (pv 0) (VG (v:=.ref T.a_STEP_LETTERS) (by rfl) T.m_STEP_LETTERS rfl) (by rfl)))))),?_⟩;rcases h with ⟨ty,hk,ks,q⟩|⟨l,rfl,q⟩
 ·exact ⟨_,rfl,_,.ty "str",_,_,rfl,rfl,hk,ks,_,rfl,ZT q⟩
 refine ⟨_,rfl,_,.ty "str",_,_,rfl,rfl,.of (.str _),T.k_str_str,_,rfl,ZZ ⟨_,rfl,T.a_STEP_LETTERS,_,rfl,.inr (T.Zf8 _),rfl,rfl,?_⟩⟩;have e:(if false=true then !XW (.str l) (Xn.map V.str) else XW (.str l) (Xn.map V.str))=Ul l:=ZeX l Xn;rw [←e] at q;exact q
theorem ZkS (T:Tx K w mg)  : Zdu P base T:=by
 refine Fun.okX (k:=0) T.Zap.F ZlT (fun vs H Q E h=>h.1) (fun cdv A outer s H vs Q E hr h=>?_);obtain ⟨-,h⟩:=h;obtain ⟨a,b,rfl,q⟩:=h;refine ⟨_,(Zk (Zv (Z7 (Za (ZO (ZdL rfl) (by rfl) T.n_min JD (Za (pv 0) (Za (pv 1) Zc))) (Za (ZO (Zbt rfl) (by rfl) T.n_max JQ (Za (pv 0) (Za (pv 1) Zc))) Zc))))),?_⟩;refine ⟨_,rfl,_,rfl,_,_,rfl,_,rfl,_,rfl,_,_,rfl,few rfl,fun p np=>?_⟩;rw [Zct,Zc3];exact q _ p (Zl np) np Zg
theorem Zjd (T:Tx K w mg)  : ZgK P base T:=by
 refine Fun.okX (k:=0) T.Uk.F Zk9 (fun vs H Q E h=>h.1) (fun cdv A outer s H vs Q E hr h=>?_);obtain ⟨-,h⟩:=h;obtain ⟨b,dx,rfl,h0,q⟩:=h
 refine ⟨_,(Zj (W5 (pv 0) Vu rfl)
   (Zj (W5 (pv 0) Vg rfl)
   (Zj (W5 (pv 0) Vu rfl)
   (Zj (W5 (pv 0) Vu rfl)
   (Zk (W5 (pv 0) Vu rfl)))))),?_⟩
 refine fun k nk=>⟨_,rfl,b,T.c_Book,dx,[],rfl,(Zh (ZU h0 nk)).trans h0,T.cl_Book,T.na_Book_kept,QD (m:=10) (QC rfl) (by decide),?_⟩;obtain ⟨g1,p1,s1,m1⟩:=UT (fs:=[]) "kept" (.dT []) h0 nk;generalize hH1:Zb (Zb H k (.dT [])) b (.ins T.c_Book dx (ZE "kept" (.ref k) ([])))=H1 at *;refine fun bi nbi=>⟨_,rfl,b,T.c_Book,dx,ZE "kept" (.ref k) [],rfl,(Zh (ZU g1 nbi)).trans g1,T.cl_Book,T.na_Book_births,QD (m:=10) (QC rfl) (by decide),?_⟩;obtain ⟨g2,p2,s2,m2⟩:=UT (fs:=ZE "kept" (.ref k) []) "births" (.dK []) g1 nbi;generalize hH2:Zb (Zb H1 bi (.dK [])) b (.ins T.c_Book dx (ZE "births" (.ref bi) (ZE "kept" (.ref k) [])))=H2 at *;refine fun li nli=>⟨_,rfl,b,T.c_Book,dx,ZE "births" (.ref bi) (ZE "kept" (.ref k) []),rfl,(Zh (ZU g2 nli)).trans g2,T.cl_Book,T.na_Book_links,QD (m:=10) (QC rfl) (by decide),?_⟩;obtain ⟨g3,p3,s3,m3⟩:=UT (fs:=ZE "births" (.ref bi) (ZE "kept" (.ref k) [])) "links" (.dT []) g2 nli;generalize hH3:Zb (Zb H2 li (.dT [])) b (.ins T.c_Book dx (ZE "links" (.ref li) (ZE "births" (.ref bi) (ZE "kept" (.ref k) []))))=H3 at *;refine fun ti nti=>⟨_,rfl,b,T.c_Book,dx,ZE "links" (.ref li) (ZE "births" (.ref bi) (ZE "kept" (.ref k) [])),rfl,(Zh (ZU g3 nti)).trans g3,T.cl_Book,T.na_Book_ties,QD (m:=10) (QC rfl) (by decide),?_⟩;obtain ⟨g4,p4,s4,m4⟩:=UT (fs:=ZE "links" (.ref li) (ZE "births" (.ref bi) (ZE "kept" (.ref k) []))) "ties" (.dT []) g3 nti;generalize hH4:Zb (Zb H3 ti (.dT [])) b (.ins T.c_Book dx (ZE "ties" (.ref ti) (ZE "links" (.ref li) (ZE "births" (.ref bi) (ZE "kept" (.ref k) [])))))=H4 at *;refine fun su nsu=>⟨_,rfl,b,T.c_Book,dx,ZE "ties" (.ref ti) (ZE "links" (.ref li) (ZE "births" (.ref bi) (ZE "kept" (.ref k) []))),rfl,(Zh (ZU g4 nsu)).trans g4,T.cl_Book,T.na_Book_sums,QD (m:=10) (QC rfl) (by decide),?_⟩;obtain ⟨g5,p5,s5,m5⟩:=UT (fs:=ZE "ties" (.ref ti) (ZE "links" (.ref li) (ZE "births" (.ref bi) (ZE "kept" (.ref k) [])))) "sums" (.dT []) g4 nsu;generalize hH5:Zb (Zb H4 su (.dT [])) b (.ins T.c_Book dx (ZE "sums" (.ref su) (ZE "ties" (.ref ti) (ZE "links" (.ref li) (ZE "births" (.ref bi) (ZE "kept" (.ref k) []))))))=H5 at *;have kb:∀{c:Addr} {o:HO} {Hx:Hp},Hx c=some o->(∀fs,o≠.ins T.c_Book dx fs)->∀{fs},Hx b=some (.ins T.c_Book dx fs)->c≠b:=fun e no fs eb z=>by subst z;rw [eb] at e;cases e;exact no _ rfl
 have dT:∀fs,HO.dT []≠.ins T.c_Book dx fs:=fun _ z=>by cases z
 have dK:∀fs,HO.dK []≠.ins T.c_Book dx fs:=fun _ z=>by cases z
 have a1:=s5 _ _ (s4 _ _ (s3 _ _ (s2 _ _ p1 (kb p1 dT g1)) (kb (s2 _ _ p1 (kb p1 dT g1)) dT g2)) (kb (s3 _ _ (s2 _ _ p1 (kb p1 dT g1)) (kb (s2 _ _ p1 (kb p1 dT g1)) dT g2)) dT g3)) (kb p1 dT g1);have a2:=s5 _ _ (s4 _ _ (s3 _ _ p2 (kb p2 dK g2)) (kb p2 dK g2)) (kb p2 dK g2);have a3:=s5 _ _ (s4 _ _ p3 (kb p3 dT g3)) (kb p3 dT g3);have a4:=s5 _ _ p4 (kb p4 dT g4);rw [ZmU] at g5;have kli:k≠li:=ZU (s2 _ _ p1 (kb p1 dT g1)) nli;have kti:k≠ti:=ZU (s3 _ _ (s2 _ _ p1 (kb p1 dT g1)) (kb (s2 _ _ p1 (kb p1 dT g1)) dT g2)) nti;have ksu:k≠su:=ZU (s4 _ _ (s3 _ _ (s2 _ _ p1 (kb p1 dT g1)) (kb (s2 _ _ p1 (kb p1 dT g1)) dT g2)) (kb (s3 _ _ (s2 _ _ p1 (kb p1 dT g1)) (kb (s2 _ _ p1 (kb p1 dT g1)) dT g2)) dT g3)) nsu;have liti:li≠ti:=ZU p3 nti;have lisu:li≠su:=ZU (s4 _ _ p3 (kb p3 dT g3)) nsu;have tisu:ti≠su:=ZU p4 nsu;exact q H5 k bi li ti su ⟨g5,by simp [kli,kti,ksu,liti,lisu,tisu],by simp [VS],a1,a2,a3,a4,p5,fun _ h=>(nomatch h),fun _ h=>(nomatch h),fun _ h=>(nomatch h)⟩ (fun c o e cb=>s5 _ _ (s4 _ _ (s3 _ _ (s2 _ _ (s1 _ _ e cb) cb) cb) cb) cb) nk (m1 _ nbi) (m1 _ (m2 _ nli)) (m1 _ (m2 _ (m3 _ nti))) (m1 _ (m2 _ (m3 _ (m4 _ nsu))))
theorem ZiH (T:Tx K w mg)  : V2 P base T:=by
 refine Fun.okX (k:=0) T.Y7.F Zmc (fun vs H Q E h=>h.1) (fun cdv A outer s H vs Q E hr h=>?_);obtain ⟨-,h⟩:=h;obtain ⟨v,x,B,rfl,⟨b,dx,k,bi,li,ti,su,rfl,hB⟩,h⟩:=h
 refine ⟨_,(Zj (ZH (PW.pt (Xp (Xc (YX (Xl K (by rfl) T.n_isinstance (Za (pv 1) (Za (Xv (v:=.ty "str") (by rfl) T.n_str WB rfl) Zc))))) (X0 (Zak (Zg8 (ZV hr) (pv 1) (YD (pv 0) rfl)))))) (Zk (Vx (by rfl) T.m_NoPerson T.x_NoPerson EB rfl VR (Za Zs Zc))) ZK)
   (Zk (Zv (Y8 (ZV hr) (YD (pv 0) rfl) (pv 1) (fun _ _=>rfl))))),?_⟩
 rcases h with ⟨ty,hk,ks,qe⟩|⟨n,rfl,qe,q⟩
 ·exact ⟨_,rfl,_,.ty "str",_,_,rfl,rfl,hk,ks,_,rfl,ZZ (ZZ ⟨few rfl,qe⟩)⟩
 have dg:=DGet.k (k:=.inr n) hB.bi;rw [ZdR] at dg;refine ⟨_,rfl,_,.ty "str",_,_,rfl,rfl,.of (.str _),T.k_str_str,_,rfl,ZT ⟨_,rfl,_,rfl,b,T.c_Book,dx,_,_,rfl,hB.ob,T.cl_Book,T.na_Book_births,Jf,bi,_,rfl,dg,_,rfl,?_⟩⟩;cases hb:Z5 n B.kept with
 |none=>exact ZZ ⟨few rfl,qe hb⟩
 |some p =>
  rw [hb] at dg;exact ZT ⟨_,rfl,b,T.c_Book,dx,_,_,rfl,hB.ob,T.cl_Book,T.na_Book_births,Jf,_,rfl,bi,.ref p.2,rfl,dg,q p hb⟩
theorem Zjf (T:Tx K w mg) (Y6:V2 P base T):Zbl P base T:=by
 refine Fun.okX (k:=1) T.Vh.F Zlv (fun vs H Q E h=>h.1) (fun cdv A outer s H vs Q E hr h=>?_);obtain ⟨-,h⟩:=h;obtain ⟨v,x,B,rfl,hv,h⟩:=h;refine ⟨_,(Zk (Zv (Zm Zp (Yj (pv 0) T.cl_Book T.Y7.me Y6 (hr.mono (by decide)) T.Y7.b .nil Y5 (Za (pv 1) Zc)) Ze (fun _ _=>rfl)))),?_⟩;obtain ⟨b,dx,k,bi,li,ti,su,rfl,hB⟩:=id hv;refine ⟨_,rfl,b,dx,_,rfl,hB.ob,rfl,_,rfl,rfl,.ref b,x,B,rfl,hv,?_⟩;rcases h with ⟨ty,hk,ks,qe⟩|⟨n,rfl,qe,q⟩
 ·exact .inl ⟨ty,hk,ks,qe⟩
 refine .inr ⟨n,rfl,qe,fun p hp=>?_⟩;obtain ⟨hm,hn⟩:=ZaK hp;have hE:=hB.en p hm
 obtain ⟨n',s,d,f,m,he⟩:∃n' s d f m,p.1=.born n' s d f m:=by
  cases e:p.1 with
  |born n' s d f m=>exact ⟨n',s,d,f,m,rfl⟩
  |_=>rw [e] at hn;cases hn
 rw [he] at hE;exact ⟨p.2,_,_,_,rfl,rfl,hE,Zf (j:=2) rfl,q p hp n' s d f m he⟩
theorem Zkl (T:Tx K w mg) (Y6:V2 P base T):ZcF P base T:=by
 refine Fun.okX (k:=1) T.XV.F Zim (fun vs H Q E h=>h.1) (fun cdv A outer s H vs Q E hr h=>?_);obtain ⟨-,h⟩:=h;obtain ⟨v,x,B,rfl,hv,h⟩:=h;refine ⟨_,(Zk (Zv (Zm Zp (Yj (pv 0) T.cl_Book T.Y7.me Y6 (hr.mono (by decide)) T.Y7.b .nil Y5 (Za (pv 1) Zc)) Ze (fun _ _=>rfl)))),?_⟩;obtain ⟨b,dx,k,bi,li,ti,su,rfl,hB⟩:=id hv;refine ⟨_,rfl,b,dx,_,rfl,hB.ob,rfl,_,rfl,rfl,.ref b,x,B,rfl,hv,?_⟩;rcases h with ⟨ty,hk,ks,qe⟩|⟨n,rfl,qe,q⟩
 ·exact .inl ⟨ty,hk,ks,qe⟩
 refine .inr ⟨n,rfl,qe,fun p hp=>?_⟩;obtain ⟨hm,hn⟩:=ZaK hp;have hE:=hB.en p hm
 obtain ⟨n',s,d,f,m,he⟩:∃n' s d f m,p.1=.born n' s d f m:=by
  cases e:p.1 with
  |born n' s d f m=>exact ⟨n',s,d,f,m,rfl⟩
  |_=>rw [e] at hn;cases hn
 rw [he] at hE;exact ⟨p.2,_,_,_,rfl,rfl,hE,Zf (j:=3) rfl,q p hp n' s d f m he⟩
theorem ZlY (T:Tx K w mg) (V0:Zbl P base T) (W3:ZcF P base T):Zhe P base T:=by
 refine Fun.okX (k:=2) T.Vi.F Zi1 (fun vs H Q E h=>h.1) (fun cdv A outer s H vs Q E hr h=>?_);obtain ⟨-,h⟩:=h;obtain ⟨v,n,s,d,B,rfl,hv,kn,q⟩:=h;refine ⟨_,(Zk (Zv (Zf9 (YT ZX (pv 1) Zs (Zu _)) (XC (XO (YT ZX (Yj (pv 0) T.cl_Book T.Vh.me V0 (hr.mono (by decide)) T.Vh.b .nil Y5 (Za (pv 1) Zc)) (pv 2) (Zu _)) (XC (YT WE (Yj (pv 0) T.cl_Book T.XV.me W3 (hr.mono (by decide)) T.XV.b .nil Y5 (Za (pv 1) Zc)) (pv 3) (Zu _)))))))),?_⟩;obtain ⟨b,dx,k,bi,li,ti,su,rfl,hB⟩:=id hv;refine ⟨_,rfl,rfl,_,rfl,?_⟩;by_cases hn:n=""
 ·have e:Xy B n s d=true:=by unfold Xy;rw [Ql hn];rfl
  rw [e] at q;exact Yd (by rw [Xi];exact Ql hn) q
 refine Zt (by rw [Xi];exact Qk hn) ?_;have e0:Xy B n s d=(decide (XX B n=s)&&decide (Yl B n<d)):=by unfold Xy;rw [Qk hn];rfl
 rw [e0] at q;refine ⟨_,rfl,b,dx,_,rfl,hB.ob,rfl,_,rfl,rfl,.ref b,.str n,B,rfl,hv,.inr ⟨n,rfl,fun no=>absurd no (kn hn),fun p hp n' s' d' f m he=>?_⟩⟩;rw [Zaf hp he] at q;refine ⟨_,rfl,rfl,_,rfl,?_⟩;by_cases hs:s'=s
 ·rw [Ql hs,Gn] at q;refine Yd (by rw [Xi];exact Ql hs) ?_;refine ⟨_,rfl,b,dx,_,rfl,hB.ob,rfl,_,rfl,rfl,.ref b,.str n,B,rfl,hv,.inr ⟨n,rfl,fun no=>absurd no (kn hn),fun p2 hp2 n2 s2 d2 f2 m2 he2=>?_⟩⟩;rw [JG hp2 he2] at q;exact ⟨_,rfl,_,_,rfl,rfl,q⟩
 ·rw [Qk hs,Gu] at q;exact Zt (by rw [Xi];exact Qk hs) q
theorem ZmY (T:Tx K w mg) (V5:ZdQ P base T) (Zbf:Zhv P base T) (W3:ZcF P base T) (J8:Zhe P base T):Zga P base T:=by
 refine Fun.okX (k:=3) T.Uc.F Zfz (fun vs H Q E h=>h.1) (fun cdv A outer s H vs Q E hr h=>?_);obtain ⟨-,h⟩:=h;obtain ⟨v,x,B,e,rfl,hv,hx,kn,q⟩:=h
 refine ⟨_,(Zj (ZH (ZA ZX (Zm Zp (pv 1) Ze (fun _ _=>rfl)) Zs (Zu _)) (Zk (Zv (XO (Yj (pv 0) T.cl_Book T.Vi.me J8 (hr.mono (by decide)) T.Vi.b .nil Y5 (Za (Zm Zp (pv 1) Ze (fun _ _=>rfl)) (Za Zs (Za (Zm Zp (pv 1) Ze (fun _ _=>rfl)) Zc)))) (XC (Yj (pv 0) T.cl_Book T.Vi.me J8 (hr.mono (by decide)) T.Vi.b .nil Y5 (Za (Zm Zp (pv 1) Ze (fun _ _=>rfl)) (Za Zs (Za (Zm Zp (pv 1) Ze (fun _ _=>rfl)) Zc)))))))) ZK)
   (Zj (ZF (i:=2) Zfz.nd rfl (Or.inl rfl) (ZW V5 hr ZB (Za (pv 1) Zc)))
   (Zj (ZH (PW.pt (Vj (ZA ZX (ZO YO (by rfl) T.n_len Yp (Za (pv 2) Zc)) Ze (Zu _)) (VP (ZA ZX (Zm Ys (pv 2) Ze (fun _ _=>rfl)) (Zm Ys (pv 2) Ze (fun _ _=>rfl)) (Zu _))))) (Zk (Zv YW)) ZK)
   (Zj (ZH (PW.pt (Vj (ZA ZX (Zm Zp (pv 1) Ze (fun _ _=>rfl)) Zs (Zu _)) (VP (ZA US (Yj (pv 0) T.cl_Book T.XV.me W3 (hr.mono (by decide)) T.XV.b .nil Y5 (Za (Zm Zp (pv 1) Ze (fun _ _=>rfl)) Zc)) (Yj (pv 0) T.cl_Book T.XV.me W3 (hr.mono (by decide)) T.XV.b .nil Y5 (Za (Zm Zp (pv 1) Ze (fun _ _=>rfl)) Zc)) (Zu _))))) (Zk (Zv YW)) ZK)
   (Zk (Zv (ZO (ZdD rfl) (by rfl) T.n_all ZbN (Za (JL rfl (WH (N:=["name","entry","self"]) ["self","entry"] [none,some 1,some 0] rfl (by decide +kernel) (by decide +kernel) (by rfl) (by rfl) (by rfl) (by rfl) (by rfl)) (Xe (pv 2)) (fun _ _ _=>(ZY (i:=0) Zn6 rfl (Or.inl rfl))) (fun _ _ _=>Za9) (fun _ _ _=>(YT US (ZW Zbf hr ZB (Za (pv 1) Zc)) (Yj (pv 2) T.cl_Book T.XV.me W3 (hr.mono (by decide)) T.XV.b .nil ZB (Za (pv 0) Zc)) (Zu _)))) Zc)))))))),?_⟩
 obtain ⟨b,dx,k,bi,li,ti,su,rfl,hB⟩:=id hv;obtain ⟨a,rfl,hE⟩:=id hx;by_cases hb:e.isBorn=true
 ·cases e with
  |born n s d f m =>
   have kf:f≠""->Known B f:=fun h=>kn f (by simp [Ent.named,h]);have km:m≠""->Known B m:=fun h=>kn m (by simp [Ent.named,h]);have q1:=q _ (Same.refl H);have ef:X2 B (.born n s d f m)=(Xy B f "he" d&&Xy B m "she" d):=rfl;rw [ef] at q1;refine ⟨_,rfl,a,_,_,_,rfl,rfl,hE,Zf (j:=0) rfl,rfl,_,rfl,Yd (by decide +kernel) ⟨_,rfl,b,dx,_,rfl,hB.ob,rfl,_,rfl,a,_,_,_,rfl,rfl,hE,Zf (j:=4) rfl,_,rfl,a,_,_,_,rfl,rfl,hE,Zf (j:=3) rfl,rfl,.ref b,f,"he",d,B,rfl,hv,kf,_,rfl,Yy (fun h1=>?_) (fun h1=>?_)⟩⟩
   ·rw [h1,Gn] at q1;exact ⟨_,rfl,b,dx,_,rfl,hB.ob,rfl,_,rfl,a,_,_,_,rfl,rfl,hE,Zf (j:=5) rfl,_,rfl,a,_,_,_,rfl,rfl,hE,Zf (j:=3) rfl,rfl,.ref b,m,"she",d,B,rfl,hv,km,q1⟩
   ·rw [h1,Gu] at q1;exact q1
  |_=>cases hb
 replace hb:=Rl.mpr hb;rw [JU hb] at q
 have w0:∃w:Str,(e.row.map kV)[0]?=some (.str w)∧w≠"born":=by
  cases e with
  |born=>cases hb
  |_=>exact ⟨_,rfl,by decide +kernel⟩
 obtain ⟨w,hw,hwb⟩:=w0;refine ⟨_,rfl,a,_,_,_,rfl,rfl,hE,Zf hw,rfl,_,rfl,Zt (by rw [Xi];exact Qk hwb) ?_⟩;refine ⟨_,rfl,rfl,.ref a,e,rfl,hx,fun H1 D s1 nD hD=>?_⟩;dsimp only [Z4];refine YI (fun σ H2=>σ=[some (.ref b),some (.ref a),some (.ref D)]∧H2=H1∧e.same=false) (fun nx rest=>?_) (fun σ H2 hJ=>?_)
 ·cases e with
  |born=>cases hb
  |dead n d =>
   exact ⟨_,rfl,D,_,rfl,.inl hD,rfl,_,rfl,Zt rfl (ZT (rest _ _ ⟨rfl,rfl,rfl⟩))⟩
  |_ =>
   refine ⟨_,rfl,D,_,rfl,.inl hD,rfl,_,rfl,Yd rfl ⟨_,rfl,D,_,_,_,rfl,rfl,hD,Zf (j:=0) rfl,_,rfl,D,_,_,_,rfl,rfl,hD,Zf (j:=1) rfl,rfl,_,rfl,?_⟩⟩;refine Yy (fun h1=>?_) (fun h1=>rest _ _ ⟨rfl,rfl,?_⟩)
   ·have q1:=q _ s1;rw [Xi] at h1;simp only [Ent.same,h1,Bool.not_true,Gu] at q1;exact q1
   ·rw [Xi] at h1;exact h1
 obtain ⟨rfl,rfl,hsame⟩:=hJ;have hv2:=hv.mono s1;have hB2:=hB.mono s1;have hE2:=s1.sqt hE;have kn2:∀n∈e.named,∀{P:Prop},Z5 n B.kept=none->P:=fun n h _ no=>absurd no (kn n h);rw [hsame] at q;refine YI (fun σ H3=>σ=[some (.ref b),some (.ref a),some (.ref D)]∧H3=H2∧e.early B=false) (fun nx rest=>?_) (fun σ H3 hJ=>?_)
 ·cases e with
  |born=>cases hb
  |taken c t d =>
   refine ⟨_,rfl,a,_,_,_,rfl,rfl,hE2,Zf (j:=0) rfl,rfl,_,rfl,Yd (by decide +kernel) ?_⟩;refine ⟨_,rfl,b,dx,_,rfl,hB2.ob,rfl,_,rfl,a,_,_,_,rfl,rfl,hE2,Zf (j:=2) rfl,rfl,.ref b,.str t,B,rfl,hv2,.inr ⟨t,rfl,kn2 t (by simp [Ent.named]),fun p hp n' s' d' f m he=>?_⟩⟩;refine ⟨_,rfl,b,dx,_,rfl,hB2.ob,rfl,_,rfl,a,_,_,_,rfl,rfl,hE2,Zf (j:=1) rfl,rfl,.ref b,.str c,B,rfl,hv2,.inr ⟨c,rfl,kn2 c (by simp [Ent.named]),fun p2 hp2 n2 s2 d2 f2 m2 he2=>?_⟩⟩;have e1:=JG hp he;have e2:=JG hp2 he2;refine ⟨_,_,rfl,rfl,_,rfl,Yy (fun h1=>?_) (fun h1=>rest _ _ ⟨rfl,rfl,?_⟩)⟩
   ·have q1:=q _ s1
    have e3:(Ent.taken c t d).early B=true:=by
     show decide (Yl B c≤Yl B t)=true;rw [e1,e2];exact h1
    rw [e3] at q1;exact q1
   ·show decide (Yl B c≤Yl B t)=false;rw [e1,e2];exact h1
  |_=>exact ⟨_,rfl,a,_,_,_,rfl,rfl,hE2,Zf (j:=0) rfl,rfl,_,rfl,Zt (by decide +kernel) (ZT (rest _ _ ⟨rfl,rfl,rfl⟩))⟩
 obtain ⟨rfl,rfl,hearly⟩:=hJ;rw [hearly] at q;refine ⟨_,rfl,D,rfl,⟨_,hD⟩,Za2 (e.named.map fun n=>V.bl (decide (Yl B n≤e.day))) ?len (fun σ=>∃v,σ=[v,some (.ref a),some (.ref b)]) ⟨_,rfl⟩ (fun i H3 hi sm=>?go) (fun H3 sm=>?stop) (fun i σ H3 x H4 y hy hσ sm hx2 C hC=>?step) (fun D2 H3 nD2 sm hD2=>?fin)⟩
 case len =>
  refine ZD ?_;rw [Qd];cases e with
  |born=>cases hb
  |_=>exact QC rfl
 case go =>
  have hi':i<(e.named.map V.str).length:=by rw [Qd] at hi ⊢;exact hi
  exact ⟨_,_,sm.sql hD,Qz hi'⟩
 case stop=>exact ⟨_,sm.sql hD,by simp⟩
 case step =>
  obtain ⟨v,rfl⟩:=hσ;obtain ⟨rfl,hx3⟩:=hx2;have e1:=hx3 _ (sm.sql hD);rw [Qu] at e1 hy;obtain ⟨n,hn,rfl⟩:=QL.mp e1;rw [hn] at hy;obtain rfl:V.bl (decide (Yl B n≤e.day))=y:=Qt hy;have hB3:=hB2.mono sm;refine ⟨_,rfl,rfl,.ref a,e,rfl,hx.mono (s1.trans sm),_,rfl,b,dx,_,rfl,hB3.ob,rfl,_,rfl,rfl,.ref b,.str n,B,rfl,hv2.mono sm,.inr ⟨n,rfl,kn2 n (QP hn),fun p hp n' s' d' f m he=>⟨_,_,rfl,rfl,?_⟩⟩⟩;rw [JG hp he] at hC;exact hC _ _ ⟨_,rfl⟩ (Same.refl _)
 case fin =>
  refine ⟨D2,e.named.map fun n=>decide (Yl B n≤e.day),rfl,by rw [hD2,QG];rfl,?_⟩;have q1:=q _ (s1.trans sm);rw [List.all_map];exact q1
theorem Zh3 (T:Tx K w mg) (Zb2:ZfU P base T) (V5:ZdQ P base T) (Um:ZdF P base T) (Y6:V2 P base T) (Zdw:Zga P base T):Zes P base T:=by
 refine Fun.okX (k:=4) T.Uu.F Zfw (fun vs H Q E h=>h.1) (fun cdv A outer s H vs Q E hr h=>?_);obtain ⟨-,h⟩:=h;obtain ⟨v,x,B,e,rfl,hv,hx,hok,no,q⟩:=h
 refine ⟨_,(Zj (ZH (Xc (YX (ZW Zb2 hr ZB (Za (pv 1) Zc)))) (Zk (Vx (by rfl) T.m_NoEntry T.x_NoEntry EB rfl VR (Za Zs Zc))) ZK)
   (Zj (ZH (ZA US (ZO ZlW (by rfl) T.n_len Yp (Za (YD (pv 0) rfl) Zc)) (VG (v:=.int 400) (by rfl) T.m_MOST_ENTRIES ⟨_,rfl⟩) (Zu _)) (Zk (Vx (by rfl) T.m_Full T.x_Full EB rfl VR (Za Zs Zc))) ZK)
   (Zj (ZH (PW.pt (Vj (ZA ZX (Zm Zp (pv 1) Ze (fun _ _=>rfl)) Zs (Zu _)) (VP (ZA US (ZO Zat (by rfl) T.n_len Yp (Za (YD (pv 0) rfl) Zc)) (VG (v:=.int 60) (by rfl) T.m_MOST_PEOPLE ⟨_,rfl⟩) (Zu _))))) (Zk (Vx (by rfl) T.m_Full T.x_Full EB rfl VR (Za Zs Zc))) ZK)
   (Zj (YM QI rfl (Xe (ZW V5 hr ZB (Za (pv 1) Zc))) (ZY (i:=2) Zfw.nd rfl (Or.inl rfl))
    (Zk (Yr (Yj (pv 0) T.cl_Book T.Y7.me Y6 (hr.mono (by decide)) T.Y7.b .nil Y5 (Za (pv 2) Zc)))))
   (Zj (ZH (Zak (Zea (ZV hr) (ZW Um hr ZB (Za (pv 1) Zc)) (YD (pv 0) rfl))) (Zk (Vx (by rfl) T.m_Twice T.x_Twice EB rfl VR (Za Zs Zc))) ZK)
   (Zk (ZH (Xc (YX (Yj (pv 0) T.cl_Book T.Uc.me Zdw (hr.mono (by decide)) T.Uc.b .nil Y5 (Za (pv 1) Zc)))) (Zk (Vx (by rfl) T.m_NoFit T.x_NoFit EB rfl VR (Za Zs Zc))) ZK))))))),?_⟩
 obtain ⟨b,dx,k,bi,li,ti,su,rfl,hB⟩:=id hv;obtain ⟨h400,h60,kn',h1,hf⟩:=Ze3 no;obtain ⟨a,rfl,hE⟩:=id hx;refine ⟨_,rfl,rfl,.ref a,rfl,.inr ⟨e.row.map Je,hok.tv hE,e.row_len,fun H1 s1=>⟨_,rfl,?_⟩⟩⟩;rw [hok.en];have hB1:=hB.mono s1;have hE1:=s1.sqt hE;have hlen:B.keptD.length=B.kept.length:=Qd ..;refine ZT ⟨_,rfl,b,T.c_Book,dx,_,_,rfl,hB1.ob,T.cl_Book,T.na_Book_kept,ZdW,k,_,rfl,hB1.ke,_,_,rfl,rfl,_,rfl,Zt (Qk (by rw [hlen];omega)) ?_⟩;dsimp only [Zc7];refine YI (fun σ H2=>σ=[some (.ref b),some (.ref a),none]∧H2=H1) (fun nx rest=>?_) (fun σ H2 hJ=>?_)
 ·cases e with
  |born n s d f m=>exact ⟨_,rfl,a,_,_,_,rfl,rfl,hE1,Zf (j:=0) rfl,rfl,_,rfl,Yd (by decide +kernel) ⟨_,rfl,b,T.c_Book,dx,_,_,rfl,hB1.ob,T.cl_Book,T.na_Book_births,Jf,bi,_,rfl,hB1.bi,_,_,rfl,rfl,_,rfl,Zt (Qk (by have:=h60 rfl;omega)) (rest _ _ ⟨rfl,rfl⟩)⟩⟩
  |_=>exact ⟨_,rfl,a,_,_,_,rfl,rfl,hE1,Zf (j:=0) rfl,rfl,_,rfl,Zt (by decide +kernel) (ZT (rest _ _ ⟨rfl,rfl⟩))⟩
 obtain ⟨rfl,rfl⟩:=hJ;refine ⟨_,rfl,rfl,.ref a,e,rfl,hx.mono s1,fun H2 D s2 nD hD=>⟨D,rfl,⟨_,hD⟩,Wl (xs:=e.named.map V.str) (fun i σ H3=>(∃v,σ=[some (.ref b),some (.ref a),v])∧Same H2 H3) ⟨⟨_,rfl⟩,Same.refl _⟩ ?sq ?turn ?done⟩⟩
 case sq =>
  rintro i σ H3 hi ⟨_,s3⟩;exact s3.sql hD
 case turn =>
  rintro i x σ H3 hx3 ⟨⟨v,rfl⟩,s3⟩;rw [Qu] at hx3;obtain ⟨n,hn,rfl⟩:=QL.mp hx3;have sa:=s1.trans (s2.trans s3);have hB3:=hB.mono sa;exact ⟨_,rfl,b,dx,_,rfl,hB3.ob,rfl,_,rfl,rfl,.ref b,.str n,B,rfl,hv.mono sa,.inr ⟨n,rfl,fun no=>absurd no (kn' n (QP hn)),fun p hp=>⟨⟨_,rfl⟩,s3⟩⟩⟩
 case done =>
  rintro σ H3 ⟨⟨v,rfl⟩,s3⟩;have sa:=s1.trans (s2.trans s3);refine ⟨_,rfl,rfl,.ref a,e,rfl,hx.mono sa,fun H4 p s4 np hp=>?_⟩;have sb:=sa.trans s4;have hB4:=hB.mono sb;have dg:=DGet.t hB4.ke hp;rw [h1] at dg;refine ⟨_,rfl,b,T.c_Book,dx,_,_,rfl,hB4.ob,T.cl_Book,T.na_Book_kept,ZdW,k,_,rfl,dg,_,rfl,ZT ?_⟩;refine ⟨_,rfl,b,dx,_,rfl,hB4.ob,rfl,_,rfl,rfl,.ref b,.ref a,B,e,rfl,hv.mono sb,hx.mono sb,kn',fun H5 s5=>⟨_,rfl,?_⟩⟩;rw [hf];exact ZT (q _ (sb.trans s5))
theorem Zks (T:Tx K w mg)  : Zav P base T:=by
 refine Fun.okX (k:=0) T.YV.F ZkA (fun vs H Q E h=>h.1) (fun cdv A outer s H vs Q E hr h=>?_);obtain ⟨-,h⟩:=h;obtain ⟨b,dx,k,bi,li,ti,su,B,l,n,m,rfl,hB,hl,hz,q⟩:=h;refine ⟨_,(Zk (Xs (ZV hr) (YD (pv 0) rfl) (Z7 (Za (pv 1) (Za (pv 2) Zc))) (ZO (J9 K) (by rfl) T.n_sorted Wx (Za (Zq ZkJ (U1 (ZV hr) (YD (pv 0) rfl) (Z7 (Za (pv 1) (Za (pv 2) Zc))) (Yt Zc) ⟨rfl,rfl,rfl,rfl⟩) (Yt (Za (pv 3) Zc))) Zc)) rfl)),?_⟩;refine ⟨_,rfl,b,T.c_Book,dx,_,_,rfl,hB.ob,T.cl_Book,T.na_Book_links,JV,li,rfl,.inr ⟨_,.inl hB.li⟩,_,rfl,_,rfl,few rfl,fun t nt=>⟨few rfl,fun z nz=>?_⟩⟩;have s1:=Zl (o:=.tup [.str l,.str n]) nt;have s2:=Zl (o:=.lst []) nz;have s3:=s1.trans s2;have hz0:(Zb (Zb H t (.tup [.str l,.str n])) z (.lst [])) z=some (.lst []):=Zg;have dg:=DGet.t (k:=Zr (l,n)) (s3 _ _ hB.li) (s2 _ _ (Zg (o:=.tup [.str l,.str n])));generalize Zb (Zb H t (.tup [.str l,.str n])) z (.lst [])=H2 at *;rw [show B.linksD=B.links.map fun q=>(Zr q.1,V.ref q.2.1) from rfl,VB] at dg
 have rest:∀(D:Addr) (H3:Hp),Same H H3->H D=none->H3 D=some (.lst ((ZC (Yv B l n++[m])).map V.str))->ZeI K (Xo 0) "links" (L2.start ["self","letter","begin","end"] [.ref b,.str l,.str n,.str m]) H3 fun x H4=>(Zeb (WF (Xo 1) (WF (Xo 2) UN))) (L2.start ["self","letter","begin","end"] [.ref b,.str l,.str n,.str m]) H4 fun y H5=>∃a H6,x=.ref a∧DPut H5 a y (.ref D) H6∧Q .non H6:=by
  intro D H3 sA nD0 hD;have hB3:=hB.mono sA;refine ⟨_,rfl,b,T.c_Book,dx,_,_,rfl,hB3.ob,T.cl_Book,T.na_Book_links,JV,_,rfl,_,rfl,few rfl,fun t2 nt2=>?_⟩;have sB:=Zl (o:=.tup [.str l,.str n]) nt2;have hB4:=hB3.mono sB;refine ⟨li,_,rfl,DPut.t (k:=Zr (l,n)) hB4.li Zg ?_,?_⟩
  ·rw [show B.linksD.length=B.links.length from Qd ..];exact ZD (by omega)
  rw [show B.linksD=B.links.map fun q=>(Zr q.1,V.ref q.2.1) from rfl,V7 (f:=Zr) (fun _ _=>WL) (fun p:Addr×List Str=>V.ref p.1) B.links (l,n) (D,ZC (Yv B l n++[m]))];refine q _ D (hB4.links fun q hq=>?_) ((But.of [li] (sA.trans sB)).trans (But.put hB4.li (by simp))) nD0;rcases Ja hq with rfl|hq
  ·exact sB _ _ hD
  ·exact hB4.ll q hq
 refine ⟨_,dg,?_⟩;cases hk:ZJ (l,n) B.links with
 |none =>
   have e:Yv B l n=[]:=by unfold Yv;rw [hk];rfl
   have hX:H2 z=some (.lst ((Yv B l n).map V.str)):=by rw [e];exact hz0
   refine ⟨_,rfl,few rfl,fun y ny=>⟨z,y,_,_,rfl,rfl,(Zh (ZU hX ny)).trans hX,Zg,?len,fun p np=>⟨p,Yv B l n++[m],rfl,.of (by rw [Zg,Qp];rfl),?len2,fun D zs nD perm so=>?go⟩⟩⟩
   case len=>rw [Qd];exact QY (ZD (by show _+1≤1000;omega))
   case len2=>rw [Qx];show _+1<64;omega
   have s4:=(s3.trans (Zl ny)).trans ((Zl np).trans (Zl (o:=.lst (zs.map V.str)) nD));have hDD:(Zb (Zb (Zb H2 y (.lst [V.str m])) p (.lst ((Yv B l n).map V.str++[V.str m]))) D (.lst (zs.map V.str))) D=some (.lst (zs.map V.str)):=Zg;rw [Ju perm so] at hDD s4 ⊢;exact rest D _ s4 (ZQ ((s3.trans (Zl ny)).trans (Zl np)) nD) hDD
 |some x =>
   have e:Yv B l n=x.2:=by unfold Yv;rw [hk];rfl
   obtain ⟨y0,hy0,ey⟩:=Zcb hk;have hl2:=hB.ll y0 hy0;rw [ey] at hl2;have hX:H2 x.1=some (.lst ((Yv B l n).map V.str)):=by rw [e];exact (s3 _ _ hl2)
   refine ⟨_,rfl,few rfl,fun y ny=>⟨x.1,y,_,_,rfl,rfl,(Zh (ZU hX ny)).trans hX,Zg,?lenb,fun p np=>⟨p,Yv B l n++[m],rfl,.of (by rw [Zg,Qp];rfl),?len2b,fun D zs nD perm so=>?gob⟩⟩⟩
   case lenb=>rw [Qd];exact QY (ZD (by show _+1≤1000;omega))
   case len2b=>rw [Qx];show _+1<64;omega
   have s4:=(s3.trans (Zl ny)).trans ((Zl np).trans (Zl (o:=.lst (zs.map V.str)) nD));have hDD:(Zb (Zb (Zb H2 y (.lst [V.str m])) p (.lst ((Yv B l n).map V.str++[V.str m]))) D (.lst (zs.map V.str))) D=some (.lst (zs.map V.str)):=Zg;rw [Ju perm so] at hDD s4 ⊢;exact rest D _ s4 (ZQ ((s3.trans (Zl ny)).trans (Zl np)) nD) hDD
theorem ZmH (T:Tx K w mg) (XF:Zav P base T):Zht P base T:=by
 refine Fun.okX (k:=1) T.Ud.F ZnW (fun vs H Q E h=>h.1) (fun cdv A outer s H vs Q E hr h=>?_);obtain ⟨-,h⟩:=h;obtain ⟨b,dx,k,bi,li,ti,su,B0,B,n,s,d,f,m,a,rfl,hk,hb,hbi,no,hl0,hE,hB,hz,hc,q⟩:=h
 refine ⟨_,(Zj (Xs (ZV hr) (YD (pv 0) rfl) (Zm Zp (pv 1) Ze (fun _ _=>rfl)) (pv 1) rfl)
   (Zj (ZH (ZA Wv (Zm Zp (pv 1) Ze (fun _ _=>rfl)) Zs (Zu _)) (Zj (Yr (Yj (pv 0) T.cl_Book T.YV.me XF (hr.mono (by decide)) T.YV.b .nil ZB (Za Zs (Za (Zm Zp (pv 1) Ze (fun _ _=>rfl)) (Za (Zm Zp (pv 1) Ze (fun _ _=>rfl)) Zc)))))
   (Zk (Yr (Yj (pv 0) T.cl_Book T.YV.me XF (hr.mono (by decide)) T.YV.b .nil ZB (Za Zs (Za (Zm Zp (pv 1) Ze (fun _ _=>rfl)) (Za (Zm Zp (pv 1) Ze (fun _ _=>rfl)) Zc))))))) ZK)
   (Zk (ZH (ZA Wv (Zm Zp (pv 1) Ze (fun _ _=>rfl)) Zs (Zu _)) (Zj (Yr (Yj (pv 0) T.cl_Book T.YV.me XF (hr.mono (by decide)) T.YV.b .nil ZB (Za Zs (Za (Zm Zp (pv 1) Ze (fun _ _=>rfl)) (Za (Zm Zp (pv 1) Ze (fun _ _=>rfl)) Zc)))))
   (Zk (Yr (Yj (pv 0) T.cl_Book T.YV.me XF (hr.mono (by decide)) T.YV.b .nil ZB (Za Zs (Za (Zm Zp (pv 1) Ze (fun _ _=>rfl)) (Za (Zm Zp (pv 1) Ze (fun _ _=>rfl)) Zc))))))) ZK)))),?_⟩
 have hb0:ZI (Bk.bornD B0) (.inr n:Zi)=none:=by rw [ZdR,no];rfl
 refine ⟨_,rfl,_,rfl,b,T.c_Book,dx,_,_,rfl,hb,T.cl_Book,T.na_Book_births,Jf,_,rfl,a,_,_,_,rfl,rfl,hE,Zf (j:=1) rfl,bi,_,rfl,DPut.k (k:=.inr n) hbi (ZD (Qm (Qm (ZhT B0) hl0) (by decide))),?_⟩;rw [VQ _ hb0,←Zio B0 n s d f m a,←hk];have bt0:But [bi,li] H (Zb H bi (.dK (Bk.bornD B.kept))):=But.put hbi (by simp);generalize Zb H bi (.dK (Bk.bornD B.kept))=H3 at *;have hmem:(Ent.born n s d f m,a)∈B.kept:=by rw [hk];simp
 dsimp only [Zc7];refine YI (fun σ H4=>σ=[some (.ref b),some (.ref a)]∧∃ls,BkAt K T.c_Book H4 b dx k bi li ti su { B with links:=ls }∧(∀c,lk ls c=(if f="" then lk B.links else Z3 (Z3 (lk B.links) ("F",n) f) ("f",f) n) c)∧ls.length≤B.links.length+2∧But [bi,li] H H4∧Grows H B.links ls) (fun nx rest=>?_) (fun σ H4 hJ=>?_)
 ·have hE3:=hB.en _ hmem;refine ⟨_,rfl,a,_,_,_,rfl,rfl,hE3,Zf (j:=4) rfl,rfl,_,rfl,?_⟩;by_cases f0:f=""
  ·refine Zt (by show (!decide (V.str f=V.str ""))=false;rw [Xi,Ql f0];rfl) (rest _ _ ⟨rfl,B.links,hB,fun c=>by rw [Qc f0],by omega,bt0,Grows.refl _ _⟩)
  have ⟨ls,hls,hB4,hF⟩:∃ls,ls=B.links∧BkAt K T.c_Book H3 b dx k bi li ti su { B with links:=ls }∧∀c,lk ls c=lk B.links c:=⟨B.links,rfl,hB,fun c=>rfl⟩;have hz2:ls.length≤890:=by rw [hls];exact hz
  have hz3:ls.length≤B.links.length:=by rw [hls];exact Qf _
  refine Yd (by show (!decide (V.str f=V.str ""))=true;rw [Xi,Qk f0];rfl) ?_;have hE4:=hB4.en _ hmem;refine ⟨_,rfl,b,dx,_,rfl,hB4.ob,rfl,_,rfl,a,_,_,_,rfl,rfl,hE4,Zf (j:=1) rfl,_,rfl,a,_,_,_,rfl,rfl,hE4,Zf (j:=4) rfl,rfl,b,dx,k,bi,li,ti,su,{ B with links:=ls },"F",n,f,rfl,hB4,?p1,?p2,fun H5 D5 hB5 bt5 nD5=>?p3⟩
  case p1=>rw [WD,hF];exact hc _
  case p2=>show ls.length≤900;omega
  have hE5:=hB5.en _ hmem;refine ⟨_,rfl,b,dx,_,rfl,hB5.ob,rfl,_,rfl,a,_,_,_,rfl,rfl,hE5,Zf (j:=4) rfl,_,rfl,a,_,_,_,rfl,rfl,hE5,Zf (j:=1) rfl,rfl,b,dx,k,bi,li,ti,su,_,"f",f,n,rfl,hB5,?p4,?p5,fun H6 D6 hB6 bt6 nD6=>?p6⟩
  case p4 =>
   rw [WD];show (lk (Zn ls _ (D5,ZC (lk ls ("F",n)++[f]))) _).length≤61;rw [WP,JM (show Str.ofString "f"≠Str.ofString "F" by decide +kernel),hF];exact hc _
  case p5 =>
   have:=XB ls ("F",n) (D5,ZC (lk ls ("F",n)++[f]));show (Zn ls _ (D5,ZC (lk ls ("F",n)++[f]))).length≤900;omega
  refine rest _ _ ⟨rfl,_,hB6,fun c=>?_,?_,?_,((hls▸Grows.refl _ _:Grows H B.links ls).put (bt0.al _ nD5)).put (bt0.al _ (bt5.al _ nD6))⟩
  ·show lk (Zn (Zn ls ("F",n) (D5,ZC (lk ls ("F",n)++[f]))) ("f",f) (D6,ZC (lk (Zn ls ("F",n) (D5,ZC (lk ls ("F",n)++[f]))) ("f",f)++[n]))) c=_;rw [WP];rw [Qa f0];exact U7 (fun c=>(WP ..).trans (U7 hF ..)) ..
  ·have a1:=XB ls ("F",n) (D5,ZC (lk ls ("F",n)++[f]));have a2:=XB (Zn ls ("F",n) (D5,ZC (lk ls ("F",n)++[f]))) ("f",f) (D6,ZC (lk (Zn ls ("F",n) (D5,ZC (lk ls ("F",n)++[f]))) ("f",f)++[n]));show (Zn (Zn ls ("F",n) (D5,ZC (lk ls ("F",n)++[f]))) ("f",f) (D6,ZC (lk (Zn ls ("F",n) (D5,ZC (lk ls ("F",n)++[f]))) ("f",f)++[n]))).length≤_;omega
  ·exact bt0.trans ((bt5.mono (by simp)).trans (bt6.mono (by simp)))
 obtain ⟨rfl,ls,hB4,hF,hl4,bt4,gr⟩:=hJ;have hE3:=hB4.en _ hmem;refine ⟨_,rfl,a,_,_,_,rfl,rfl,hE3,Zf (j:=5) rfl,rfl,_,rfl,?_⟩;by_cases m0:m=""
 ·refine Zt (by show (!decide (V.str m=V.str ""))=false;rw [Xi,Ql m0];rfl) (q _ ls hB4 (fun c=>?_) (by omega) bt4 gr);unfold Xk;rw [Qc m0];exact hF c
 ·have h1:∀c:Str×Str,c.1≠"F"->c.1≠"f"->((if f="" then lk B.links else Z3 (Z3 (lk B.links) ("F",n) f) ("f",f) n) c).length≤61:=by
   intro c c1 c2;by_cases f0:f=""
   ·rw [Qc f0];exact hc c
   ·rw [Qa f0,JM c2,JM c1];exact hc c
  refine Yd (by show (!decide (V.str m=V.str ""))=true;rw [Xi,Qk m0];rfl) ?_;have hE4:=hB4.en _ hmem;refine ⟨_,rfl,b,dx,_,rfl,hB4.ob,rfl,_,rfl,a,_,_,_,rfl,rfl,hE4,Zf (j:=1) rfl,_,rfl,a,_,_,_,rfl,rfl,hE4,Zf (j:=5) rfl,rfl,b,dx,k,bi,li,ti,su,{ B with links:=ls },"M",n,m,rfl,hB4,?r1,?r2,fun H5 D5 hB5 bt5 nD5=>?r3⟩
  case r1=>rw [WD,hF];exact (h1 _ (show Str.ofString "M"≠Str.ofString "F" by decide +kernel) (show Str.ofString "M"≠Str.ofString "f" by decide +kernel))
  case r2=>show ls.length≤900;omega
  have hE5:=hB5.en _ hmem;refine ⟨_,rfl,b,dx,_,rfl,hB5.ob,rfl,_,rfl,a,_,_,_,rfl,rfl,hE5,Zf (j:=5) rfl,_,rfl,a,_,_,_,rfl,rfl,hE5,Zf (j:=1) rfl,rfl,b,dx,k,bi,li,ti,su,_,"m",m,n,rfl,hB5,?r4,?r5,fun H6 D6 hB6 bt6 nD6=>?r6⟩
  case r4 =>
   rw [WD];show (lk (Zn ls _ (D5,ZC (lk ls ("M",n)++[m]))) _).length≤61;rw [WP,JM (show Str.ofString "m"≠Str.ofString "M" by decide +kernel),hF];exact (h1 _ (show Str.ofString "m"≠Str.ofString "F" by decide +kernel) (show Str.ofString "m"≠Str.ofString "f" by decide +kernel))
  case r5 =>
   have:=XB ls ("M",n) (D5,ZC (lk ls ("M",n)++[m]));show (Zn ls _ (D5,ZC (lk ls ("M",n)++[m]))).length≤900;omega
  refine q _ _ hB6 (fun c=>?_) ?_ ?_ ((gr.put (bt4.al _ nD5)).put (bt4.al _ (bt5.al _ nD6)))
  ·show lk (Zn (Zn ls ("M",n) (D5,ZC (lk ls ("M",n)++[m]))) ("m",m) (D6,ZC (lk (Zn ls ("M",n) (D5,ZC (lk ls ("M",n)++[m]))) ("m",m)++[n]))) c=_;rw [WP];unfold Xk;rw [Qa m0];exact U7 (fun c=>(WP ..).trans (U7 hF ..)) ..
  ·have a1:=XB ls ("M",n) (D5,ZC (lk ls ("M",n)++[m]));have a2:=XB (Zn ls ("M",n) (D5,ZC (lk ls ("M",n)++[m]))) ("m",m) (D6,ZC (lk (Zn ls ("M",n) (D5,ZC (lk ls ("M",n)++[m]))) ("m",m)++[n]));show (Zn (Zn ls ("M",n) (D5,ZC (lk ls ("M",n)++[m]))) ("m",m) (D6,ZC (lk (Zn ls ("M",n) (D5,ZC (lk ls ("M",n)++[m]))) ("m",m)++[n]))).length≤_;omega
  ·exact bt4.trans ((bt5.mono (by simp)).trans (bt6.mono (by simp)))
theorem ZoN (T:Tx K w mg) (Zbq:Zd6 P base T) (Y6:V2 P base T):Zdz P base T:=by
 refine Fun.okX (k:=1) T.Vf.F ZhW (fun vs H Q E h=>h.1) (fun cdv A outer s H vs Q E hr h=>?_);obtain ⟨-,h⟩:=h;obtain ⟨v,x,y,B,rfl,hv,h⟩:=h
 refine ⟨_,(Zj (ZH (Xc (YX (ZW Zbq hr ZB (Za (pv 1) Zc)))) (Zk (Vx (by rfl) T.m_NoWay T.x_NoWay EB rfl VR (Za Zs Zc))) ZK)
   (Zj (Yr (Yj (pv 0) T.cl_Book T.Y7.me Y6 (hr.mono (by decide)) T.Y7.b .nil Y5 (Za (pv 2) Zc)))
   (Zk (Zv (Vl ZaR (by rfl) T.n_list UR (Za (U1 (ZV hr) (YD (pv 0) rfl) (Z7 (Za (pv 1) (Za (pv 2) Zc))) (Yt Zc) ⟨rfl,rfl,rfl,rfl⟩) Zc)))))),?_⟩
 obtain ⟨b,dx,k,bi,li,ti,su,rfl,hB⟩:=id hv;rcases h with ⟨ty,hk,ks,qe⟩|⟨l,rfl,q1,q23⟩
 ·exact ⟨_,rfl,rfl,x,rfl,.inl ⟨ty,hk,ks,_,rfl,ZZ ⟨few rfl,qe⟩⟩⟩
 refine ⟨_,rfl,rfl,.str l,rfl,.inr ⟨l,rfl,_,rfl,?_⟩⟩;cases hl:Ul l with
 |false=>exact ZZ ⟨few rfl,q1 hl⟩
 |true =>
  refine ZT ⟨_,rfl,b,dx,_,rfl,hB.ob,rfl,_,rfl,rfl,.ref b,y,B,rfl,hv,?_⟩;rcases q23 hl with ⟨ty,hk,ks,qe⟩|⟨n,rfl,q2,q3⟩
  ·exact .inl ⟨ty,hk,ks,qe⟩
  refine .inr ⟨n,rfl,q2,fun p hp=>?_⟩;have kn:Known B n:=by unfold Known;rw [hp];simp
  refine ⟨_,rfl,b,T.c_Book,dx,_,_,rfl,hB.ob,T.cl_Book,T.na_Book_links,JV,li,rfl,.inr ⟨_,.inl hB.li⟩,_,rfl,_,rfl,few rfl,fun t nt=>⟨few rfl,fun z nz=>?_⟩⟩;have s1:=Zl (o:=.tup [.str l,.str n]) nt;have s2:=Zl (o:=.lst []) nz;have s3:=s1.trans s2;have dg:=DGet.t (k:=Zr (l,n)) (s3 _ _ hB.li) (s2 _ _ (Zg (o:=.tup [.str l,.str n])));rw [show B.linksD=B.links.map fun q=>(Zr q.1,V.ref q.2.1) from rfl,VB] at dg;refine ⟨_,dg,?_⟩;cases hk:ZJ (l,n) B.links with
  |none =>
   have e:Yv B l n=[]:=by unfold Yv;rw [hk];rfl
   rw [e] at q3;exact ⟨z,[],rfl,.inl (.of Zg),fun D nD=>q3 kn _ D (s3.trans (Zl nD)) (ZQ s3 nD) Zg⟩
  |some x =>
   have e:Yv B l n=x.2:=by unfold Yv;rw [hk];rfl
   rw [e] at q3;obtain ⟨y,hy,ey⟩:=Zcb hk;have hl2:=hB.ll y hy;rw [ey] at hl2;exact ⟨x.1,_,rfl,.inl (.of (s3 _ _ hl2)),fun D nD=>q3 kn _ D (s3.trans (Zl nD)) (ZQ s3 nD) Zg⟩
theorem Zoj (T:Tx K w mg) (Uz:Zdu P base T) (Y6:V2 P base T):ZgC P base T:=by
 refine FunD.okX (k:=1) T.F_Book_stands Zcw (fun vs H Q E h=>h.1) (fun cdv A outer s H vs Q E hr h=>?_);obtain ⟨-,h⟩:=h;obtain ⟨v,a,c,B,rfl,hv,ka,kc,hlen,q⟩:=h
 refine ⟨_,(Zj (Yr (Yj (pv 0) T.cl_Book T.Y7.me Y6 (hr.mono (by decide)) T.Y7.b .nil Y5 (Za (pv 1) Zc)))
   (Zj (Yr (Yj (pv 0) T.cl_Book T.Y7.me Y6 (hr.mono (by decide)) T.Y7.b .nil Y5 (Za (pv 2) Zc)))
   (Zj (ZF (i:=4) Zcw.nd rfl (Or.inl rfl) (U1 (ZV hr) (YD (pv 0) rfl) (ZW Uz hr ZB (Za (pv 1) (Za (pv 2) Zc))) Vg ⟨rfl,rfl,rfl,rfl⟩))
   (Zj (Zfu (V4 (i:=5) rfl  Zcw.nd rfl (Or.inl rfl) (WH (N:=["tied_on","day"]) ["day"] [none,some 3] rfl (by decide +kernel) (by decide +kernel) (by rfl) (by rfl) (by rfl) (by rfl) (by rfl)) (ZgF (pv 4)) (fun _ _ _=>(ZY (i:=0) Zju rfl (Or.inl rfl))) (fun _ _ _=>(Vm (PW.pt (Xp (ZA ZiE (pv 1) J6 (Zu _)) (X0 (ZA ZcJ (pv 0) (pv 1) (Zu _))))))) (fun _ _ _=>(pv 0))))
   (Zk (Zv (XO (YT WA (ZO YO (by rfl) T.n_len Yp (Za (pv 5) Zc)) Ze (Zu _)) (XC (YT ZX (Y8 (ZV hr) (pv 4) (ZO (Zib K rfl) (by rfl) T.n_max JQ (Za (pv 5) Zc)) (fun _ _=>rfl)) Zs (Zu _)))))))))),?_⟩
 obtain ⟨b,dx,k,bi,li,ti,su,rfl,hB⟩:=id hv;refine ⟨_,rfl,b,dx,_,rfl,hB.ob,rfl,_,rfl,rfl,.ref b,.str a,B,rfl,hv,.inr ⟨a,rfl,fun no=>absurd no ka,fun p1 hp1=>?_⟩⟩;refine ⟨_,rfl,b,dx,_,rfl,hB.ob,rfl,_,rfl,rfl,.ref b,.str c,B,rfl,hv,.inr ⟨c,rfl,fun no=>absurd no kc,fun p2 hp2=>?_⟩⟩;dsimp only;refine YI (fun σ' H'=>∃d,σ'=[some (.ref b),some (.str a),some (.str c),some .non,some (.ref d),none]∧Same H H'∧H' d=some (.dK (YR (YA B (Zd a c))))) (fun nx hnx=>?_) ?_
 ·refine ⟨_,rfl,b,T.c_Book,dx,_,_,rfl,hB.ob,T.cl_Book,T.na_Book_ties,Zf1,ti,rfl,.inr ⟨_,.inl hB.ti⟩,_,rfl,_,rfl,rfl,a,c,rfl,fun H1 t s1 nt ht=>fun z nz=>?_⟩;have s2:=Zl (o:=.dK []) nz;have s3:=s1.trans s2;have dg:=DGet.t (k:=Zr (Zd a c)) (s3 _ _ hB.ti) (s2 _ _ ht);rw [show B.tiesD=B.ties.map fun q=>(Zr q.1,V.ref q.2.1) from rfl,Jm (f:=Zr) (fun _ _=>WL) (fun p:Addr×List (Int×Str)=>V.ref p.1)] at dg;refine ⟨_,dg,?_⟩;cases hk:Zy (Zd a c) B.ties with
  |none =>
   refine hnx _ _ ⟨z,rfl,s3,?_⟩;have e:YA B (Zd a c)=[]:=by unfold YA;rw [hk];rfl
   rw [e];exact Zg
  |some x =>
   refine hnx _ _ ⟨x.1,rfl,s3,?_⟩;have e:YA B (Zd a c)=x.2:=by unfold YA;rw [hk];rfl
   rw [e];exact s3 _ _ (hB.tt _ (Vb hk))
 rintro σ' H2 ⟨d,rfl,s2,hd⟩;have est:Zah B a c=YK (YA B (Zd a c)):=rfl;rw [est] at q;generalize YA B (Zd a c)=l at *;have llen:(YR l).length=l.length:=Qd ..;refine ⟨d,YR l,hd,_,rfl,d,YR l,rfl,hd,fun o=>VE (l.map fun r=>some (V.int r.1)) (ZD (by rw [Qd];omega)) (fun σ=>∃w,σ=[w,some .non]) ⟨_,rfl⟩ (fun i H3 hi sm=>?go) (fun H3 sm=>?stop) (fun i σ H3 x H4 y hy hσ sm hx C hC=>?step) (fun D H3 nD sm hD=>?fin)⟩
 case go=>exact ⟨sm _ _ Zg,by rw [llen];rw [Qd] at hi;exact hi⟩
 case stop=>exact ⟨sm _ _ Zg,by rw [llen,Qd];exact Qf _⟩
 case step =>
  obtain ⟨w,rfl⟩:=hσ;obtain ⟨rfl,hx2⟩:=hx;rw [Qu] at hy;obtain ⟨r,hr2,rfl⟩:=QL.mp hy
  have ex:x=.int r.1:=by
   unfold YR at hx2;rw [Qu,hr2] at hx2;exact (Qt hx2).symm
  subst ex;refine ⟨_,rfl,rfl,_,rfl,Yd (by rfl) (ZZ ⟨_,rfl,hC _ _ ⟨_,rfl⟩ (Same.refl _)⟩)⟩
 case fin =>
  have ef:(l.map fun r=>some (V.int r.1)).filterMap id=(l.map (·.1)).map V.int:=by
   rw [Gy,QG];exact List.filterMap_eq_map▸rfl
  rw [ef] at hD;refine ⟨o,sm _ _ Zg,?_⟩;have nDd:D≠d:=fun e=>by subst e;rw [Zg] at nD;cases nD
  have hD4:(Zb H3 d (.dK (YR l))) D=some (.lst ((l.map (·.1)).map V.int)):=(Zh nDd).trans hD;have hd4:(Zb H3 d (.dK (YR l))) d=some (.dK (YR l)):=Zg
  have s4:Same H2 (Zb H3 d (.dK (YR l))):=fun x u e=>by
   by_cases xd:x=d
   ·subst xd;rw [hd] at e;cases e;exact hd4
   ·rw [Zh xd];exact sm _ _ ((Zh xd).trans e)
  generalize Zb H3 d (.dK (YR l))=H5 at *;refine ⟨_,rfl,D,_,rfl,.inl (.of hD4),_,_,rfl,rfl,_,rfl,?_⟩;rw [Qd,Qd];cases l with
  |nil=>exact ZT (q _ (s2.trans s4))
  |cons r0 l0 =>
   refine Yd (Ql (by rw [QJ];omega)) ⟨_,rfl,_,rfl,D,(r0::l0).map (·.1),rfl,.of hD4,by simp,fun m hm hx=>?_⟩;obtain ⟨x,ex⟩:=ZnZ hm;have dg:=DGet.k (k:=.inl m) hd4;rw [show YR (r0::l0)=(r0::l0).map fun q=>((.inl q.1:Zi),V.str q.2) from rfl,Jm (f:=(Sum.inl:Int->Zi)) Ze0 V.str,ex] at dg;have q2:=q _ (s2.trans s4);rw [Zfk hm hx ex] at q2;refine ⟨d,.str x,rfl,dg,rfl,?_⟩;rw [Xi];exact q2
theorem ZnP (T:Tx K w mg) (Uz:Zdu P base T) (XF:Zav P base T) (Ui:Zdz P base T) (ZbE:ZgC P base T):ZeB P base T:=by
 refine Fun.okX (k:=2) T.UJ.F Zam (fun vs H Q E h=>h.1) (fun cdv A outer s H vs Q E hr h=>?_);obtain ⟨-,h⟩:=h;obtain ⟨b,dx,k,bi,li,ti,su,B,a,kd,p1,p2,d,rfl,hE,hB,k1,k2,nd,tl,dl,ll,lf,q⟩:=h
 refine ⟨_,(Zj (ZF (i:=2) Zam.nd rfl (Or.inl rfl) (Jt (ZV hr) (YD (pv 0) rfl) (ZW Uz hr ZB (Za (Zm Zp (pv 1) Ze (fun _ _=>rfl)) (Za (Zm Zp (pv 1) Ze (fun _ _=>rfl)) Zc))) Vg ⟨rfl,rfl,rfl,rfl⟩))
   (Zj (Xs (ZV hr) (pv 2) (Zm Zp (pv 1) Ze (fun _ _=>rfl)) (Zm Zp (pv 1) Ze (fun _ _=>rfl)) rfl)
   (Zk (YM QI rfl (Zb8 (Z7 (Za (Z7 (Za (Zm Zp (pv 1) Ze (fun _ _=>rfl)) (Za (Zm Zp (pv 1) Ze (fun _ _=>rfl)) Zc))) (Za (Z7 (Za (Zm Zp (pv 1) Ze (fun _ _=>rfl)) (Za (Zm Zp (pv 1) Ze (fun _ _=>rfl)) Zc))) Zc)))) (Jl rfl (XQ (ZY (i:=3) Zam.nd rfl (Or.inl rfl)) (XQ (ZY (i:=4) Zam.nd rfl (Or.inr rfl)) UE)))
    (Zj (Xs (ZV hr) (YD (pv 0) rfl) (Z7 (Za Zs (Za (pv 3) Zc))) (JL rfl (WH (N:=["name","end"]) ["end"] [none,some 4] rfl (by decide +kernel) (by decide +kernel) (by rfl) (by rfl) (by rfl) (by rfl) (by rfl)) (Xe (Yj (pv 0) T.cl_Book T.Vf.me Ui (hr.mono (by decide)) T.Vf.b .nil ZB (Za Zs (Za (pv 3) Zc)))) (fun _ _ _=>(ZY (i:=0) ZiV rfl (Or.inl rfl))) (fun _ _ _=>(Vm (ZA Wv (pv 0) (pv 1) (Zu _)))) (fun _ _ _=>(pv 0))) rfl)
   (Zk (ZH (YX (Yj (pv 0) T.cl_Book T.me_Book_stands ZbE (hr.mono (by decide)) T.b_Book_stands (.cons (show RelV V.non Value.none from rfl) .nil) ZB (Za (pv 3) (Za (pv 4) Zc)))) (Zk (Yr (Yj (pv 0) T.cl_Book T.YV.me XF (hr.mono (by decide)) T.YV.b .nil ZB (Za Zs (Za (pv 3) (Za (pv 4) Zc)))))) ZK))))))),?_⟩
 refine YI (fun σ' H'=>∃y ts,σ'=[some (.ref b),some (.ref a),some (.ref y),none,none]∧BkAt K T.c_Book H' b dx k bi li ti su { B with ties:=ts }∧(ts.map (·.1)).Nodup∧ts.length≤B.ties.length+1∧Zy (Zd p1 p2) ts=some (y,YA B (Zd p1 p2))∧(∀c,YS ts c=YA B c)∧But [li,ti,y] H H'∧(H y=none∨y∈B.ties.map (·.2.1))∧GrowsT H B.ties ts∧SqT K H' a [.str kd,.str p1,.str p2,.int d]) (fun nx hnx=>?_) ?_
 ·refine ⟨_,rfl,b,T.c_Book,dx,_,_,rfl,hB.ob,T.cl_Book,T.na_Book_ties,Zf1,ti,rfl,.inr ⟨_,.inl hB.ti⟩,_,rfl,a,_,_,_,rfl,rfl,hE,Zf (j:=1) rfl,_,rfl,a,_,_,_,rfl,rfl,hE,Zf (j:=2) rfl,rfl,p1,p2,rfl,fun H1 t s1 nt ht=>fun z nz=>?_⟩;have s2:=Zl (o:=.dK []) nz;have s3:=s1.trans s2;have hB1:=hB.mono s1;have hB3:=hB.mono s3;have hlen:B.tiesD.length=B.ties.length:=Qd ..;have hval:ZI B.tiesD (Zr (Zd p1 p2))=(Zy (Zd p1 p2) B.ties).map fun p=>V.ref p.1:=Jm (f:=Zr) (fun _ _=>WL) (fun p:Addr×List (Int×Str)=>V.ref p.1) _ _;refine ⟨_,Zr (Zd p1 p2),t,hB3.ti,rfl,s2 _ _ ht,by rw [hlen];exact ZD (by omega),fun v hv=>?_,fun hn=>?_⟩
  ·rw [hval] at hv;obtain ⟨x,hk,rfl⟩:=QL.mp hv;have e:YA B (Zd p1 p2)=x.2:=by unfold YA;rw [hk];rfl
   exact hnx _ _ ⟨x.1,B.ties,rfl,hB3,nd,by omega,by rw [hk,e],fun c=>rfl,But.of _ s3,.inr (Qg.mpr ⟨_,Vb hk,rfl⟩),GrowsT.refl _ _,s3.sqt hE⟩
  ·rw [hval] at hn;have hk:Zy (Zd p1 p2) B.ties=none:=by simpa using hn
   have e:YA B (Zd p1 p2)=[]:=by unfold YA;rw [hk];rfl
   have zn:∀{x:Addr} {o:HO},H1 x=some o->x≠z:=fun h=>ZU h nz;refine hnx _ _ ⟨z,B.ties++[(Zd p1 p2,z,[])],rfl,hB3.newTie Zg ⟨(zn hB1.bi).symm,fun q hq=>zn (hB1.tt q hq)⟩ _,?_,by rw [Qx];exact Qf _,?_,fun c=>ZkQ _ _ _ _ hk,?_,.inl (ZQ s1 nz),(fun a ha=>by rw [Qp] at ha;exact (Qn.mp ha).imp id (fun ha=>by rw [show a=z by simpa using ha];exact ZQ s1 nz)),?_⟩
   ·rw [Qp,Q2];refine ⟨nd,by simp,fun x hx w hw ex=>?_⟩;have ew:w=Zd p1 p2:=by simpa using hw
    subst ew ex;obtain ⟨p,hp,ep⟩:=Qg.mp hx;have:=Zax hk;rw [GV] at this;exact absurd (Ql ep) (this p hp)
   ·rw [Za7,hk,e];unfold Zy;rw [Qc rfl];rfl
   ·exact (But.of _ s3).trans (But.put hB3.ti (by simp))
   ·exact YH (s3.sqt hE) hB3.ti (fun _ z=>by cases z) (fun _ _ z=>by cases z)
 rintro σ' H1 ⟨y,ts,rfl,hB1,Jj,tl1,hf,htf,bt1,hy0,grT,hE1⟩;generalize hl:YA B (Zd p1 p2)=l at *;have hy:H1 y=some (.dK (YR l)):=hB1.tt _ (Vb hf);have hB2:=hB1.putTie Jj hf (Zn l d kd);obtain ⟨pa1,pa2⟩:=ZhF (l':=Zn l d kd) Jj hf;have grT2:GrowsT H B.ties (Zn ts (Zd p1 p2) (y,Zn l d kd)):=fun a ha=>grT a (by rw [←pa1];exact ha)
 have tl2:(Zn ts (Zd p1 p2) (y,Zn l d kd)).length=ts.length:=by
  have:=Qq List.length pa1
  rwa [Qd,Qd] at this
 have htf2:∀c,YS (Zn ts (Zd p1 p2) (y,Zn l d kd)) c=if c=Zd p1 p2 then Zn l d kd else YA B c:=fun c=>by rw [Zn5,htf]
 have nd2:((Zn ts (Zd p1 p2) (y,Zn l d kd)).map (·.1)).Nodup:=by rw [pa2];exact Jj
 have hE2:SqT K (Zb H1 y (.dK (YR (Zn l d kd)))) a [.str kd,.str p1,.str p2,.int d]:=YH hE1 hy (fun _ z=>by cases z) (fun _ _ z=>by cases z);have bt2:But [li,ti,y] H (Zb H1 y (.dK (YR (Zn l d kd)))):=bt1.trans (But.put hy (by simp));have dlen:(YR l).length=l.length:=Qd ..;refine ⟨_,rfl,a,_,_,_,rfl,rfl,hE1,Zf (j:=0) rfl,_,rfl,_,rfl,a,_,_,_,rfl,rfl,hE1,Zf (j:=3) rfl,y,_,rfl,DPut.k (k:=.inl d) hy (by rw [dlen];exact ZD (by omega)),?_⟩;rw [show Yg (YR l) (.inl d) (.str kd)=YR (Zn l d kd) from V7 (f:=(Sum.inl:Int->Zi)) Ze0 V.str l d kd];generalize Zb H1 y (.dK (YR (Zn l d kd)))=H2 at *;generalize Zn ts (Zd p1 p2) (y,Zn l d kd)=ts2 at *;generalize hst:YK (Zn l d kd)=st at *;have ldl:(Zn l d kd).length≤801:=by have:=XB l d kd;omega
 refine ⟨_,rfl,a,_,_,_,rfl,rfl,hE2,Zf (j:=1) rfl,_,rfl,a,_,_,_,rfl,rfl,hE2,Zf (j:=2) rfl,few rfl,fun t1 nt1=>?_⟩;have s1:=Zl (o:=.tup [.str p1,.str p2]) nt1;refine ⟨_,rfl,a,_,_,_,rfl,rfl,(s1.sqt hE2),Zf (j:=2) rfl,_,rfl,a,_,_,_,rfl,rfl,(s1.sqt hE2),Zf (j:=1) rfl,few rfl,fun t2 nt2=>?_⟩;have s2:=Zl (o:=.tup [.str p2,.str p1]) nt2;refine ⟨few rfl,fun t3 nt3=>?_⟩;have s3:=Zl (o:=.tup [.ref t1,.ref t2]) nt3;have s123:=s1.trans (s2.trans s3);refine ⟨t3,rfl,⟨_,.of Zg⟩,Zfc (xs:=[.ref t1,.ref t2]) (fun i σ H5=>∃ls v3 v4,σ=[some (.ref b),some (.ref a),some (.ref y),v3,v4]∧BkAt K T.c_Book H5 b dx k bi li ti su { B with links:=ls,ties:=ts2 }∧(∀c,lk ls c=(match i with|0=>lk B.links|1=>ZL (lk B.links) st p1 p2|_=>ZL (ZL (lk B.links) st p1 p2) st p2 p1) c)∧ls.length≤B.links.length+2*i∧But [li,ti,y] H H5∧SqT K H5 t1 [.str p1,.str p2]∧SqT K H5 t2 [.str p2,.str p1]∧SqT K H5 t3 [.ref t1,.ref t2]∧Grows H B.links ls) ?start ?list ?turn ?done⟩
 case start=>exact ⟨B.links,none,none,rfl,hB2.mono s123,fun c=>rfl,by omega,bt2.trans (But.of _ s123),(s2.trans s3).sqt (.of Zg),s3.sqt (.of Zg),.of Zg,Grows.refl _ _⟩
 case list =>
  rintro i σ H5 _ ⟨ls,v3,v4,rfl,_,_,_,_,_,_,h3,_⟩;exact h3
 case done =>
  rintro σ H5 ⟨ls,v3,v4,rfl,hB5,hlk,hls,bt5,_,_,_,gr⟩;exact q H5 ls ts2 y hB5 nd2 (by omega) htf2 hlk (by simp at hls;omega) bt5 hy0 grT2 gr
 case turn =>
  rintro i x σ H5 hx ⟨ls,v3,v4,rfl,hB5,hlk,hls,bt5,h1,h2,h3,gr⟩
  have pick:∃tq u w,x=.ref tq∧SqT K H5 tq [.str u,.str w]∧Known B u∧Known B w∧Zd u w=Zd p1 p2∧i≤1∧∀F:Str×Str->List Str,(∀c,F c=ZL (match i with|0=>lk B.links|1=>ZL (lk B.links) st p1 p2|_=>ZL (ZL (lk B.links) st p1 p2) st p2 p1) st u w c)->∀c,F c=(match i+1 with|0=>lk B.links|1=>ZL (lk B.links) st p1 p2|_=>ZL (ZL (lk B.links) st p1 p2) st p2 p1) c:=by
   match i,hx with
   |0,hx=>exact ⟨t1,p1,p2,(Qt hx).symm,h1,k1,k2,rfl,by omega,fun F hF=>hF⟩
   |1,hx=>exact ⟨t2,p2,p1,(Qt hx).symm,h2,k2,k1,J5 p2 p1,by omega,fun F hF=>hF⟩
  obtain ⟨tq,u,w,rfl,hq,ku,kw,hpr,i1,hG⟩:=pick
  have gl:∀c,((match i with|0=>lk B.links|1=>ZL (lk B.links) st p1 p2|_=>ZL (ZL (lk B.links) st p1 p2) st p2 p1) c).length≤61:=by
   intro c
   match i,i1 with
   |0,_=>have:=lf c;exact Nv this
   |1,_=>exact Qm (Zdv ..) (by have:=lf c;omega)
  generalize (match i with|0=>lk B.links|1=>ZL (lk B.links) st p1 p2|_=>ZL (ZL (lk B.links) st p1 p2) st p2 p1)=G at *;refine ⟨tq,_,rfl,hq,rfl,_,_,rfl,_,_,rfl,rfl,?_⟩;dsimp only [Z4];refine YI (fun σ' H'=>∃D2,σ'=[some (.ref b),some (.ref a),some (.ref y),some (.str u),some (.str w)]∧BkAt K T.c_Book H' b dx k bi li ti su { B with links:=Zn ls ("S",u) (D2,(G ("S",u)).filter fun n=>decide (n≠w)),ties:=ts2 }∧But [li,ti,y] H H'∧SqT K H' t1 [.str p1,.str p2]∧SqT K H' t2 [.str p2,.str p1]∧SqT K H' t3 [.ref t1,.ref t2]∧H D2=none) (fun nx hnx=>?_) ?_
  ·refine ⟨_,rfl,b,dx,_,rfl,hB5.ob,rfl,_,rfl,rfl,.ref b,.str "S",.str u,_,rfl,⟨b,dx,k,bi,li,ti,su,rfl,hB5⟩,.inr ⟨"S",rfl,fun h=>absurd h (by decide +kernel),fun _=>.inr ⟨u,rfl,fun no=>absurd no ku,fun _ H6 D s6 nD hD0=>?_⟩⟩⟩;have eL:Yv { B with links:=ls,ties:=ts2 } "S" u=G ("S",u):=hlk ("S",u);rw [eL] at hD0;have hD:SqL K H6 D ((G ("S",u)).map V.str):=.of hD0;refine ⟨D,rfl,⟨_,hD⟩,VE ((G ("S",u)).map (Vr w)) (ZD (by rw [Qd];have:=gl ("S",u);omega)) (fun σ=>∃v,σ=[v,some (.str w)]) ⟨_,rfl⟩ (fun j H7 hj sm=>?go) (fun H7 sm=>?stop) (fun j σ H7 x H8 o ho hσ sm hx C hC=>?step) (fun D2 H7 nD2 sm hD2=>?fin)⟩
   case go=>exact ⟨_,_,sm.sql hD,Qz (by rw [Qd] at hj ⊢;exact hj)⟩
   case stop=>exact ⟨_,sm.sql hD,by rw [Qd,Qd];exact Qf _⟩
   case step =>
    obtain ⟨v,rfl⟩:=hσ;obtain ⟨rfl,hx2⟩:=hx;have e1:=hx2 _ (sm.sql hD);rw [Qu] at e1 ho;obtain ⟨n,hn,rfl⟩:=QL.mp e1;rw [hn] at ho;obtain rfl:Vr w n=o:=Qt ho;refine ⟨_,rfl,_,rfl,rfl,_,rfl,?_⟩;by_cases hz0:n=w
    ·have e2:Vr w n=none:=Qc hz0;rw [e2] at hC;exact Zt (by show (!decide (V.str n=V.str w))=false;rw [Xi,Ql hz0];rfl) (hC _ _ ⟨_,rfl⟩ (Same.refl _))
    ·have e2:Vr w n=some (.str n):=Qa hz0;rw [e2] at hC;exact Yd (by show (!decide (V.str n=V.str w))=true;rw [Xi,Qk hz0];rfl) ⟨_,rfl,hC _ _ ⟨_,rfl⟩ (Same.refl _)⟩
   case fin =>
    rw [ZfO] at hD2;have s67:=s6.trans sm;have hB7:=hB5.mono s67;refine ⟨_,rfl,b,T.c_Book,dx,_,_,rfl,hB7.ob,T.cl_Book,T.na_Book_links,JV,_,rfl,few rfl,fun t nt=>?_⟩;have s8:=Zl (o:=.tup [.str "S",.str u]) nt;have hB8:=hB7.mono s8;have llen:({ B with links:=ls,ties:=ts2 }:Bk).linksD.length=ls.length:=Qd ..;refine ⟨li,_,rfl,DPut.t (k:=Zr ("S",u)) hB8.li Zg (by rw [llen];exact ZD (by omega)),?_⟩;rw [show ({ B with links:=ls,ties:=ts2 }:Bk).linksD=ls.map fun q=>(Zr q.1,V.ref q.2.1) from rfl,V7 (f:=Zr) (fun _ _=>WL) (fun p:Addr×List Str=>V.ref p.1) ls ("S",u) (D2,(G ("S",u)).filter fun n=>decide (n≠w))];have li8:=hB8.li;have kp:∀{c:Addr} {xs:List V},SqT K H5 c xs->SqT K (Zb (Zb H7 t (.tup [.str "S",.str u])) li (.dT ((Zn ls ("S",u) (D2,(G ("S",u)).filter fun n=>decide (n≠w))).map fun q=>(Zr q.1,V.ref q.2.1)))) c xs:=fun h=>YH ((s67.trans s8).sqt h) li8 (fun _ z=>by cases z) (fun _ _ z=>by cases z);refine hnx _ _ ⟨D2,rfl,hB8.links fun q hq=>?_,bt5.trans ((But.of _ (s67.trans s8)).trans (But.put li8 (by simp))),kp h1,kp h2,kp h3,bt5.al _ (ZQ s6 nD2)⟩;rcases Ja hq with rfl|hq
    ·exact s8 _ _ hD2
    ·exact hB8.ll q hq
  ·rintro σ' H6 ⟨D2,rfl,hB6,bt6,g1,g2,g3,n2⟩;have pl:=XB ls ("S",u) (D2,(G ("S",u)).filter fun n=>decide (n≠w));have lk6:∀c,lk (Zn ls ("S",u) (D2,(G ("S",u)).filter fun n=>decide (n≠w))) c=if c=(("S",u):Str×Str) then (G ("S",u)).filter (fun n=>decide (n≠w)) else G c:=fun c=>by rw [ZeP,hlk]
   have et:YA { B with links:=Zn ls ("S",u) (D2,(G ("S",u)).filter fun n=>decide (n≠w)),ties:=ts2 } (Zd u w)=Zn l d kd:=by
    rw [Zoi];show YS ts2 (Zd u w)=_;rw [htf2,Qc hpr]
   have es:Zah { B with links:=Zn ls ("S",u) (D2,(G ("S",u)).filter fun n=>decide (n≠w)),ties:=ts2 } u w=st:=by
    unfold Zah;rw [et,hst]
   refine ⟨_,rfl,b,dx,_,rfl,hB6.ob,rfl,_,rfl,_,rfl,rfl,.ref b,u,w,_,rfl,⟨b,dx,k,bi,li,ti,su,rfl,hB6⟩,ku,kw,by rw [et];omega,fun H7 s7=>⟨_,rfl,?_⟩⟩;rw [es];have hB7:=hB6.mono s7;have bt7:=bt6.trans (But.of _ s7);refine Yy (fun hs=>?_) (fun hs=>?_)
   ·have la:Yv { B with links:=Zn ls ("S",u) (D2,(G ("S",u)).filter fun n=>decide (n≠w)),ties:=ts2 } "S" u=(G ("S",u)).filter fun n=>decide (n≠w):=by
     rw [WD];show lk (Zn ls ("S",u) _) ("S",u)=_;rw [lk6,Qc rfl]
    refine ⟨_,rfl,b,dx,_,rfl,hB7.ob,rfl,_,rfl,_,rfl,rfl,b,dx,k,bi,li,ti,su,_,"S",u,w,rfl,hB7,?_,?_,fun H8 D8 hB8 bt8 nD8=>?_⟩
    ·rw [la];exact Qm (Nq ..) (gl _)
    ·show (Zn ls ("S",u) _).length≤900;omega
    ·have li7:=hB7.li
     have kp:∀{c:Addr} {xs:List V},SqT K H7 c xs->SqT K H8 c xs:=fun {c xs} h=>by
      rcases h with (h|⟨o,h⟩)|h
      ·exact .inl (.inl (bt8.eq _ _ (fun z=>by rw [show c=li by simpa using z,li7] at h;cases h) h))
      ·exact .inl (.inr ⟨o,bt8.eq _ _ (fun z=>by rw [show c=li by simpa using z,li7] at h;cases h) h⟩)
      ·exact .inr h
     rw [la] at hB8;refine ⟨_,_,_,rfl,hB8,hG _ fun c=>?_,?_,bt7.trans (bt8.mono (by simp)),kp (s7.sqt g1),kp (s7.sqt g2),kp (s7.sqt g3),(gr.put n2).put (bt7.al _ nD8)⟩
     ·rw [ZeP];unfold ZL;by_cases ec:c=(("S",u):Str×Str)
      ·subst ec;rw [Qc rfl,Qc rfl,Qc hs]
      ·rw [Qa ec,Qa ec,lk6,Qa ec]
     ·have p2:=XB (Zn ls ("S",u) (D2,(G ("S",u)).filter fun n=>decide (n≠w))) ("S",u) (D8,ZC ((G ("S",u)).filter (fun n=>decide (n≠w))++[w]));show (Zn (Zn ls ("S",u) _) ("S",u) _).length≤_;omega
   ·refine ⟨_,_,_,rfl,hB7,hG _ fun c=>?_,by show (Zn ls ("S",u) _).length≤_;omega,bt7,s7.sqt g1,s7.sqt g2,s7.sqt g3,gr.put n2⟩;rw [lk6];unfold ZL;by_cases ec:c=(("S",u):Str×Str)
    ·subst ec;rw [Qc rfl,Qc rfl,Qa (by rw [hs];decide)]
    ·rw [Qa ec,Qa ec]
theorem Zmh (T:Tx K w mg) (UF:ZcQ P base T) (Ur:Zb3 P base T) (Um:ZdF P base T) (Zbj:Zes P base T) (XF:Zav P base T) (ZbQ:Zht P base T) (Zbm:ZeB P base T):ZfI P base T:=by
 refine Fun.okX (k:=5) T.VW.F Zbe (fun vs H Q E h=>h.1) (fun cdv A outer s H vs Q E hr h=>?_);obtain ⟨-,h⟩:=h;obtain ⟨b,dx,k,bi,li,ti,su,B,x,e,rfl,hB,hx,ok,no,rm,q⟩:=h
 refine ⟨_,(Zj (Yr (Yj (pv 0) T.cl_Book T.Uu.me Zbj (hr.mono (by decide)) T.Uu.b .nil Y5 (Za (pv 1) Zc)))
   (Zj (ZF (i:=2) Zbe.nd rfl (Or.inl rfl) (ZW Ur hr ZB (Za (pv 1) Zc)))
   (Zj (Xs (ZV hr) (YD (pv 0) rfl) (ZW Um hr ZB (Za (pv 2) Zc)) (pv 2) rfl)
   (Zk (ZH (ZA ZX (Zm Zp (pv 2) Ze (fun _ _=>rfl)) Zs (Zu _)) (Zk (Yr (Yj (pv 0) T.cl_Book T.Ud.me ZbQ (hr.mono (by decide)) T.Ud.b .nil ZB (Za (pv 2) Zc)))) (Zk (ZH (ZA ZX (Zm Zp (pv 2) Ze (fun _ _=>rfl)) Zs (Zu _)) (Zj (Yr (Yj (pv 0) T.cl_Book T.YV.me XF (hr.mono (by decide)) T.YV.b .nil ZB (Za Zs (Za (Zm Zp (pv 2) Ze (fun _ _=>rfl)) (Za (Zm Zp (pv 2) Ze (fun _ _=>rfl)) Zc)))))
   (Zk (Yr (Yj (pv 0) T.cl_Book T.YV.me XF (hr.mono (by decide)) T.YV.b .nil ZB (Za Zs (Za (Zm Zp (pv 2) Ze (fun _ _=>rfl)) (Za (Zm Zp (pv 2) Ze (fun _ _=>rfl)) Zc))))))) (Zk (ZH (ZA ZX (Zm Zp (pv 2) Ze (fun _ _=>rfl)) Zs (Zu _)) (Zj (ZF (i:=3) Zbe.nd rfl (Or.inl rfl) (Z7 (Za (Zm Zp (pv 2) Ze (fun _ _=>rfl)) (Za (Zm Zp (pv 2) Ze (fun _ _=>rfl)) Zc))))
   (Zk (Xs (ZV hr) (YD (pv 0) rfl) (pv 3) (Zq Xx (U1 (ZV hr) (YD (pv 0) rfl) (pv 3) Ze ⟨rfl,rfl,rfl,rfl⟩) (Zm Zp (pv 2) Ze (fun _ _=>rfl))) rfl))) (Zk (ZH (YX (ZW UF hr ZB (Za (pv 2) Zc))) (Zk (Yr (Yj (pv 0) T.cl_Book T.UJ.me Zbm (hr.mono (by decide)) T.UJ.b .nil ZB (Za (pv 2) Zc)))) ZK))))))))))),?_⟩
 refine ⟨_,rfl,b,dx,_,rfl,hB.ob,rfl,_,rfl,rfl,.ref b,x,B,e,rfl,⟨b,dx,k,bi,li,ti,su,rfl,hB⟩,hx,ok,no,fun H1 s1=>?_⟩;obtain ⟨hno,hk400,kn⟩:=ZfS no;refine ⟨_,rfl,rfl,x,e,rfl,hx.mono s1,fun H2 u s2 hu=>?_⟩;obtain ⟨a,rfl,hA⟩:=hu;have s12:=s1.trans s2;have hB2:=hB.mono s12;have klen:B.keptD.length=B.kept.length:=Qd ..;refine ⟨_,rfl,_,rfl,b,T.c_Book,dx,_,_,rfl,hB2.ob,T.cl_Book,T.na_Book_kept,ZdW,_,rfl,rfl,.ref a,e.told,rfl,⟨a,rfl,hA⟩,fun H3 p s3 np hp=>⟨k,_,rfl,DPut.t (k:=e.told.told.key) (s3 _ _ hB2.ke) hp (by rw [klen];exact ZD (by omega)),?_⟩⟩;rw [J0,VQ _ hno];have s13:=s12.trans s3;have hB3:=hB.mono s13;have hA3:=s3.sqt hA;have kn2:∀n∈e.told.named,Known B n:=fun n hn=>kn n (Zek e n hn);have tk:∀(e':Ent),e.told=e'->e'.told=e':=fun e' h=>by rw [←h,J0]
 have pt:∀{B':Bk} (e':Ent),e.told=e'->(∀c,Y4 B'.sums c=Zai (Y4 B.sums) e' c)->(∃a,B'.kept=B.kept++[(e',a)])->(∀c,lk B'.links c=WG (lk B.links) (YS B.ties) e' c)->(∀c,YS B'.ties c=UL (YS B.ties) e' c)->(B'.ties.map (·.1)).Nodup->B'.links.length≤B.links.length+4->B'.ties.length≤B.ties.length+1->B'.sums.length≤B.sums.length+1->Put B e B':=fun {B'} e' h=>by
  subst h;exact Put.mk
 generalize e.told=e' at *;have hK:=hB3.kept (e:=e') hA3;have kb:k≠bi:=YC hB3.ke hB3.bi (fun z=>by cases z);have hA4:SqT K (Zb H3 k (.dT (B.keptD++[(e'.key,.ref a)]))) a (e'.row.map kV):=YH hA3 hB3.ke (fun _ z=>by cases z) (fun _ _ z=>by cases z);have btk:But [k,bi,li,ti,su] H (Zb H3 k (.dT (B.keptD++[(e'.key,.ref a)]))):=(But.of _ s13).trans (But.put hB3.ke (by simp));have hbi:(Zb H3 k (.dT (B.keptD++[(e'.key,.ref a)]))) bi=some (.dK (Bk.bornD B.kept)):=(Zh kb.symm).trans hB3.bi;have hob:(Zb H3 k (.dT (B.keptD++[(e'.key,.ref a)]))) b=some (.ins T.c_Book dx (Wt k bi li ti su)):=(Zh (YC hB3.ob hB3.ke (fun z=>by cases z))).trans hB3.ob
 have hKn:e'.isBorn=false->BkAt K T.c_Book (Zb H3 k (.dT (B.keptD++[(e'.key,.ref a)]))) b dx k bi li ti su { B with kept:=B.kept++[(e',a)] }:=fun nb=>by
  rw [Znw nb,Zmn hbi] at hK;exact hK
 have fresh:∀{y:Addr},H3 y=none->(H y=none∨∃w,H y=some (.dK w)):=fun h=>.inl (ZQ s13 h);generalize hH4:Zb H3 k (.dT (B.keptD++[(e'.key,.ref a)]))=H4 at *;dsimp only;have hbiH:∃w,H bi=some (.dK w):=⟨_,hB.bi⟩;cases e' with
 |born n s d f m =>
  refine ⟨_,rfl,a,_,_,_,rfl,rfl,hA4,Zf (j:=0) rfl,rfl,_,rfl,Yd (by decide +kernel) ?_⟩;refine ⟨_,rfl,b,dx,_,rfl,hob,rfl,_,rfl,rfl,b,dx,k,bi,li,ti,su,B.kept,{ B with kept:=B.kept++[(.born n s d f m,a)] },n,s,d,f,m,a,rfl,rfl,hob,hbi,Zj3 hno,by omega,hA4,hK,Qm rm.nl (by omega),fun c=>Qm (rm.ll c) (by omega),fun H5 ls hB5 hlk hls bt5 gr5=>?_⟩;exact q H5 _ bi hB5 (pt _ rfl (fun c=>rfl) ⟨a,rfl⟩ hlk (fun c=>rfl) rm.nd hls (QR _) (QR _)) ((btk.mono (by simp)).trans (bt5.mono (by simp))) (.inr (.inl rfl)) (gr5.back btk.al) (GrowsT.refl _ _)
 |taken c t d =>
  have hB4:=hKn rfl;have hmem:((.taken c t d,a):Ent×Addr)∈B.kept++[(.taken c t d,a)]:=by simp
  refine ⟨_,rfl,a,_,_,_,rfl,rfl,hA4,Zf (j:=0) rfl,rfl,_,rfl,Zt (by decide +kernel) ⟨_,rfl,a,_,_,_,rfl,rfl,hA4,Zf (j:=0) rfl,rfl,_,rfl,Yd (by decide +kernel) ?_⟩⟩;refine ⟨_,rfl,b,dx,_,rfl,hob,rfl,_,rfl,a,_,_,_,rfl,rfl,hA4,Zf (j:=1) rfl,_,rfl,a,_,_,_,rfl,rfl,hA4,Zf (j:=2) rfl,rfl,b,dx,k,bi,li,ti,su,_,"T",c,t,rfl,hB4,Qm (rm.ll _) (by omega),Qm rm.nl (by omega),fun H5 D5 hB5 bt5 nD5=>?_⟩;have hA5:=hB5.en _ hmem
  have l5:lk (Zn B.links ("T",c) (D5,ZC (lk B.links ("T",c)++[t]))) ("t",t)=lk B.links ("t",t):=by
   rw [WP];exact JM (show ("t" : Str)≠"T" by decide +kernel)
  have n5:=XB B.links ("T",c) (D5,ZC (lk B.links ("T",c)++[t]));have rl:=rm.nl;refine ⟨_,rfl,b,dx,_,rfl,hB5.ob,rfl,_,rfl,a,_,_,_,rfl,rfl,hA5,Zf (j:=2) rfl,_,rfl,a,_,_,_,rfl,rfl,hA5,Zf (j:=1) rfl,rfl,b,dx,k,bi,li,ti,su,_,"t",t,c,rfl,hB5,?_,?_,fun H6 D6 hB6 bt6 nD6=>?_⟩
  ·rw [WD];show (lk (Zn B.links ("T",c) (D5,ZC (lk B.links ("T",c)++[t]))) ("t",t)).length≤61;rw [l5];exact Qm (rm.ll _) (by omega)
  ·show (Zn B.links ("T",c) (D5,ZC (lk B.links ("T",c)++[t]))).length≤900;omega
  ·refine q H6 _ bi hB6 (pt _ rfl (fun c=>rfl) ⟨a,rfl⟩ (fun x=>?_) (fun c=>rfl) rm.nd ?_ (QR _) (QR _)) ((btk.mono (by simp)).trans ((bt5.mono (by simp)).trans (bt6.mono (by simp)))) (.inr (.inl rfl)) (((Grows.refl _ _).put (btk.al _ nD5)).put (btk.al _ (bt5.al _ nD6))) (GrowsT.refl _ _)
   ·show lk (Zn (Zn B.links ("T",c) (D5,ZC (lk B.links ("T",c)++[t]))) ("t",t) (D6,ZC (lk (Zn B.links ("T",c) (D5,ZC (lk B.links ("T",c)++[t]))) ("t",t)++[c]))) x=_;rw [WP];exact U7 (fun y=>WP ..) ..
   ·have n6:=XB (Zn B.links ("T",c) (D5,ZC (lk B.links ("T",c)++[t]))) ("t",t) (D6,ZC (lk (Zn B.links ("T",c) (D5,ZC (lk B.links ("T",c)++[t]))) ("t",t)++[c]));show (Zn (Zn B.links ("T",c) (D5,ZC (lk B.links ("T",c)++[t]))) ("t",t) (D6,ZC (lk (Zn B.links ("T",c) (D5,ZC (lk B.links ("T",c)++[t]))) ("t",t)++[c]))).length≤_;omega
 |given g t am d =>
  have hB4:=hKn rfl;have rs:=rm.ns;refine ⟨_,rfl,a,_,_,_,rfl,rfl,hA4,Zf (j:=0) rfl,rfl,_,rfl,Zt (by decide +kernel) ⟨_,rfl,a,_,_,_,rfl,rfl,hA4,Zf (j:=0) rfl,rfl,_,rfl,Zt (by decide +kernel) ⟨_,rfl,a,_,_,_,rfl,rfl,hA4,Zf (j:=0) rfl,rfl,_,rfl,Yd (by decide +kernel) ?_⟩⟩⟩;refine ⟨_,rfl,a,_,_,_,rfl,rfl,hA4,Zf (j:=1) rfl,_,rfl,a,_,_,_,rfl,rfl,hA4,Zf (j:=2) rfl,few rfl,fun pg npg=>?_⟩;have s5:=Zl (o:=.tup [.str g,.str t]) npg;have hB5:=hB4.mono s5;have hA5:=s5.sqt hA4;have dg:=DGet.t (k:=Zr (g,t)) hB5.su (Zg (o:=.tup [.str g,.str t]));have hval:ZI ({ B with kept:=B.kept++[(.given g t am d,a)] }:Bk).sumsD (Zr (g,t))=(Zy (g,t) B.sums).map V.int:=Jm (f:=Zr) (fun _ _=>WL) V.int _ _;rw [hval] at dg;have slen:({ B with kept:=B.kept++[(.given g t am d,a)] }:Bk).sumsD.length=B.sums.length:=Qd ..
  have iv:∃i:Int,((Zy (g,t) B.sums).map V.int).getD (.int 0)=.int i:=by
   cases Zy (g,t) B.sums with
   |none=>exact ⟨0,rfl⟩
   |some i=>exact ⟨i,rfl⟩
  obtain ⟨i,hi⟩:=iv;refine ⟨_,rfl,b,T.c_Book,dx,_,_,rfl,hB5.ob,T.cl_Book,T.na_Book_sums,Zgr,su,rfl,.inr ⟨_,.inl hB5.su⟩,_,rfl,_,dg,_,rfl,a,_,_,_,rfl,rfl,hA5,Zf (j:=3) rfl,i,am,hi,rfl,_,rfl,b,T.c_Book,dx,_,_,rfl,hB5.ob,T.cl_Book,T.na_Book_sums,Zgr,_,rfl,su,_,rfl,DPut.t (k:=Zr (g,t)) hB5.su (Zg (o:=.tup [.str g,.str t])) (by rw [slen];exact ZD (by omega)),?_⟩;rw [show Yg ({ B with kept:=B.kept++[(.given g t am d,a)] }:Bk).sumsD (Zr (g,t)) (V.int (i+am))=(Zn B.sums (g,t) (i+am)).map fun q=>(Zr q.1,V.int q.2) from V7 (f:=Zr) (fun _ _=>WL) V.int B.sums (g,t) (i+am)]
  have ei:i=Y4 B.sums (g,t):=by
   unfold Y4;cases hf:Zy (g,t) B.sums with
   |none=>rw [hf] at hi;exact (V.int.inj hi).symm
   |some j=>rw [hf] at hi;exact (V.int.inj hi).symm
  exact q _ _ bi (hB5.sums _) (pt _ rfl (fun c=>by rw [ei];exact ZmM B.sums g t am d c) ⟨a,rfl⟩ (fun c=>rfl) (fun c=>rfl) rm.nd (RX ..) (QR _) (XB ..)) ((btk.mono (by simp)).trans ((But.of _ s5).trans (But.put hB5.su (by simp)))) (.inr (.inl rfl)) (Grows.refl _ _) (GrowsT.refl _ _)
 |dead n d =>
  have hB4:=hKn rfl;refine ⟨_,rfl,a,_,_,_,rfl,rfl,hA4,Zf (j:=0) rfl,rfl,_,rfl,Zt (by decide +kernel) ⟨_,rfl,a,_,_,_,rfl,rfl,hA4,Zf (j:=0) rfl,rfl,_,rfl,Zt (by decide +kernel) ⟨_,rfl,a,_,_,_,rfl,rfl,hA4,Zf (j:=0) rfl,rfl,_,rfl,Zt (by decide +kernel) ?_⟩⟩⟩;refine ⟨_,rfl,rfl,.ref a,.dead n d,rfl,⟨a,rfl,hA4⟩,fun H5 s5=>⟨_,rfl,ZT ?_⟩⟩;exact q _ _ bi (hB4.mono s5) (pt _ rfl (fun c=>rfl) ⟨a,rfl⟩ (fun c=>rfl) (fun c=>rfl) rm.nd (RX ..) (QR _) (QR _)) ((btk.mono (by simp)).trans (But.of _ s5)) (.inr (.inl rfl)) (Grows.refl _ _) (GrowsT.refl _ _)
 |union x y d =>
  have hB4:=hKn rfl;refine ⟨_,rfl,a,_,_,_,rfl,rfl,hA4,Zf (j:=0) rfl,rfl,_,rfl,Zt (by decide +kernel) ⟨_,rfl,a,_,_,_,rfl,rfl,hA4,Zf (j:=0) rfl,rfl,_,rfl,Zt (by decide +kernel) ⟨_,rfl,a,_,_,_,rfl,rfl,hA4,Zf (j:=0) rfl,rfl,_,rfl,Zt (by decide +kernel) ?_⟩⟩⟩;refine ⟨_,rfl,rfl,.ref a,.union x y d,rfl,⟨a,rfl,hA4⟩,fun H5 s5=>⟨_,rfl,ZZ ?_⟩⟩;have hB5:=hB4.mono s5;have rl:=rm.nl;have rt:=rm.nt;refine ⟨_,rfl,b,dx,_,rfl,hB5.ob,rfl,_,rfl,rfl,b,dx,k,bi,li,ti,su,_,a,"union",x,y,d,rfl,s5.sqt hA4,hB5,(kn2 x (by simp [Ent.named])).more rfl,(kn2 y (by simp [Ent.named])).more rfl,rm.nd,Qm rm.nt (by omega),Qm (rm.tt _) (by omega),Qm rm.nl (by omega),rm.ll,fun H6 ls ts z hB6 nd6 tl6 htf hlk hls bt6 hz grT6 gr6=>?_⟩;exact q H6 _ z hB6 (pt _ rfl (fun c=>rfl) ⟨a,rfl⟩ hlk htf nd6 hls tl6 (QR _)) ((btk.mono (by simp)).trans ((But.of _ s5).trans (bt6.mono (by simp)))) (hz.imp (fun h=>btk.al _ (ZQ s5 h)) .inr) (gr6.back fun a n=>btk.al a (ZQ s5 n)) (grT6.back fun a n=>btk.al a (ZQ s5 n))
 |parted x y d =>
  have hB4:=hKn rfl;refine ⟨_,rfl,a,_,_,_,rfl,rfl,hA4,Zf (j:=0) rfl,rfl,_,rfl,Zt (by decide +kernel) ⟨_,rfl,a,_,_,_,rfl,rfl,hA4,Zf (j:=0) rfl,rfl,_,rfl,Zt (by decide +kernel) ⟨_,rfl,a,_,_,_,rfl,rfl,hA4,Zf (j:=0) rfl,rfl,_,rfl,Zt (by decide +kernel) ?_⟩⟩⟩;refine ⟨_,rfl,rfl,.ref a,.parted x y d,rfl,⟨a,rfl,hA4⟩,fun H5 s5=>⟨_,rfl,ZZ ?_⟩⟩;have hB5:=hB4.mono s5;have rl:=rm.nl;have rt:=rm.nt;refine ⟨_,rfl,b,dx,_,rfl,hB5.ob,rfl,_,rfl,rfl,b,dx,k,bi,li,ti,su,_,a,"parted",x,y,d,rfl,s5.sqt hA4,hB5,(kn2 x (by simp [Ent.named])).more rfl,(kn2 y (by simp [Ent.named])).more rfl,rm.nd,Qm rm.nt (by omega),Qm (rm.tt _) (by omega),Qm rm.nl (by omega),rm.ll,fun H6 ls ts z hB6 nd6 tl6 htf hlk hls bt6 hz grT6 gr6=>?_⟩;exact q H6 _ z hB6 (pt _ rfl (fun c=>rfl) ⟨a,rfl⟩ hlk htf nd6 hls tl6 (QR _)) ((btk.mono (by simp)).trans ((But.of _ s5).trans (bt6.mono (by simp)))) (hz.imp (fun h=>btk.al _ (ZQ s5 h)) .inr) (gr6.back fun a n=>btk.al a (ZQ s5 n)) (grT6.back fun a n=>btk.al a (ZQ s5 n))
theorem Znq (T:Tx K w mg)  : Zhq P base T:=by
 refine Fun.okX (k:=0) T.UQ.F Zls (fun vs H Q E h=>h.1) (fun cdv A outer s H vs Q E hr h=>?_);obtain ⟨-,h⟩:=h;obtain ⟨v,B,rfl,⟨b,dx,k,bi,li,ti,su,rfl,hB⟩,hl,q⟩:=h;refine ⟨_,(Zk (Zv (ZO (ZaD rfl) (by rfl) T.n_sorted Wx (Za (YD (pv 0) rfl) Zc)))),?_⟩;have hbi:=hB.bi;rw [Zhn] at hbi;rw [←ZfE] at hl q;rw [Qd] at hl;refine ⟨_,rfl,b,T.c_Book,dx,_,_,rfl,hB.ob,T.cl_Book,T.na_Book_births,Jf,bi,UU B.kept,rfl,hbi,hl,fun D zs nD perm so=>?_⟩;rw [Ju perm so];exact q _ D (Zl nD) nD Zg
theorem ZnO (T:Tx K w mg)  : ZeD P base T:=by
 refine Fun.okX (k:=0) T.JY.F ZlB (fun vs H Q E h=>h.1) (fun cdv A outer s H vs Q E hr h=>?_);obtain ⟨-,h⟩:=h;obtain ⟨x,rfl,q⟩:=h;refine ⟨_,(Zk (Zv (XO (Xl K (by rfl) T.n_isinstance (Za (pv 0) (Za (Xv (v:=.ty "str") (by rfl) T.n_str WB rfl) Zc))) (XC (YT Js (pv 0) (VG (v:=.ref T.a_TESTS) (by rfl) T.m_TESTS rfl) (by rfl)))))),?_⟩;refine ⟨_,rfl,_,.ty "str",_,_,rfl,rfl,.of (.str _),T.k_str_str,_,rfl,ZZ ⟨_,rfl,T.a_TESTS,_,rfl,.inr (T.Zgm _),rfl,rfl,?_⟩⟩;have e:(if false=true then !XW (.str x) ((["he","she"]:List Str).map V.str) else XW (.str x) ((["he","she"]:List Str).map V.str))=WN x:=ZeX x ["he","she"];rw [←e] at q;exact q
theorem ZmC (T:Tx K w mg) (V0:Zbl P base T) (Ui:Zdz P base T) (ZdV:ZeD P base T):Zc0 P base T:=by
 refine Fun.okX (k:=2) T.Zbd.F Zi3 (fun vs H Q E h=>h.1) (fun cdv A outer s H vs Q E hr h=>?_);obtain ⟨-,h⟩:=h;obtain ⟨v,s,n,B,rfl,hB,hs,kn,q⟩:=h
 refine ⟨_,(Zj (ZH (YX (ZW ZdV hr ZB (Za (pv 1) Zc))) (Zk (Zv (ZjI (ZA ZX (Yj (pv 0) T.cl_Book T.Vh.me V0 (hr.mono (by decide)) T.Vh.b .nil Y5 (Za (pv 2) Zc)) (pv 1) (Zu _)) (Yt (Za (pv 2) Zc)) (Yt Zc)))) ZK)
   (Zk (Zv (Yj (pv 0) T.cl_Book T.Vf.me Ui (hr.mono (by decide)) T.Vf.b .nil Y5 (Za (pv 1) (Za (pv 2) Zc)))))),?_⟩
 obtain ⟨b,dx,k,bi,li,ti,su,rfl,hB⟩:=hB;have hv:BkHas K T.c_Book H (.ref b) B:=⟨b,dx,k,bi,li,ti,su,rfl,hB⟩;unfold Z9 at q;refine ⟨_,rfl,rfl,_,rfl,?_⟩;dsimp only;cases ht:WN s with
 |true =>
  rw [Qc ht] at q;refine ⟨true,rfl,ZZ ⟨_,rfl,b,dx,_,rfl,hB.ob,rfl,_,rfl,rfl,.ref b,.str n,B,rfl,hv,.inr ⟨n,rfl,fun no=>absurd no kn,fun p hp n' s' d f m ep=>?_⟩⟩⟩;rw [ZhH hp ep] at q;refine ⟨_,rfl,rfl,_,rfl,?_⟩;dsimp only;by_cases e:s'=s
  ·rw [Qc e] at q;rw [Ql (show V.str s'=V.str s by rw [e])];exact ZZ ⟨_,rfl,few rfl,fun D nD=>q _ D (Zl nD) nD Zg⟩
  ·rw [Qa e] at q;rw [Qk (show ¬V.str s'=V.str s from fun z=>e (V.str.inj z))];exact ZT ⟨few rfl,fun D nD=>q _ D (Zl nD) nD Zg⟩
 |false =>
  rw [Qa (by rw [ht];decide)] at q;refine ⟨false,rfl,ZT ⟨_,rfl,b,dx,_,rfl,hB.ob,rfl,_,rfl,_,rfl,rfl,.ref b,.str s,.str n,B,rfl,hv,.inr ⟨s,rfl,fun no=>?_,fun hl=>.inr ⟨n,rfl,fun no=>absurd no kn,fun _ H' D s1 nD hD=>q H' D s1 nD hD⟩⟩⟩⟩;exfalso;unfold Ul at no;unfold WN at ht;have n1:s∉Xn:=Rg no;have n2:s∉(["he","she"]:List Str):=Rg ht;have:s∈Xn++(["he","she"]:List Str):=hs;exact (Qn.mp this).elim n1 n2
theorem ZiW (T:Tx K w mg)  : ZgV P base T:=by
 refine Fun.okX (k:=0) T.VX.F Zon (fun vs H Q E h=>h.1) (fun cdv A outer s H vs Q E hr h=>?_);obtain ⟨-,h⟩:=h;obtain ⟨b,dx,z,rfl,hb,q⟩:=h;refine ⟨_,(Zk (W5 (pv 0) (pv 1) rfl)),?_⟩;exact ⟨_,rfl,_,rfl,b,T.c_Letter,dx,[],rfl,hb,T.cl_Letter,T.na_Letter_letter,by show (0:Nat)<1000;decide,q⟩
theorem Zn1 (T:Tx K w mg) (Uy:Zc0 P base T):ZbD P base T:=by
 refine Fun.okX (k:=3) T.Vd.F Zj2 (fun vs H Q E h=>h.1) (fun cdv A outer s H vs Q E hr h=>?_);obtain ⟨-,h⟩:=h;obtain ⟨a,dx,s,v,t,n,B,rfl,ha,hB,s9,kn,q⟩:=h;refine ⟨_,(Zk (Zv (ZW Uy hr ZB (Za (pv 1) (Za (YD (pv 0) rfl) (Za (pv 3) Zc)))))),?_⟩;exact ⟨_,rfl,_,rfl,a,T.c_Letter,dx,_,_,rfl,ha,T.cl_Letter,T.na_Letter_letter,rfl,_,rfl,rfl,v,s,n,B,rfl,hB,s9,kn,q⟩
theorem Zkr (T:Tx K w mg)  : Ze1 P base T:=by
 refine Fun.okX (k:=0) T.Wj.F ZlU (fun vs H Q E h=>h.1) (fun cdv A outer s H vs Q E hr h=>?_);obtain ⟨-,h⟩:=h;obtain ⟨b,dx,z,rfl,hb,q⟩:=h;refine ⟨_,(Zk (Zv (YD (pv 0) rfl))),?_⟩;exact ⟨_,rfl,b,T.c_Letter,dx,_,_,rfl,hb,T.cl_Letter,T.na_Letter_letter,rfl,q⟩
theorem ZmK (T:Tx K w mg)  : Zfo P base T:=by
 refine Fun.okX (k:=0) T.Ua.F ZnY (fun vs H Q E h=>h.1) (fun cdv A outer s H vs Q E hr h=>?_);obtain ⟨-,h⟩:=h;obtain ⟨b,dx,z,rfl,hb,q⟩:=h;refine ⟨_,(Zk (W5 (pv 0) (pv 1) rfl)),?_⟩;exact ⟨_,rfl,_,rfl,b,T.c_Test,dx,[],rfl,hb,T.cl_Test,T.na_Test_wanted,by show (0:Nat)<1000;decide,q⟩
theorem ZkG (T:Tx K w mg) (Uy:Zc0 P base T):Zc4 P base T:=by
 refine Fun.okX (k:=3) T.W1.F Znr (fun vs H Q E h=>h.1) (fun cdv A outer s H vs Q E hr h=>?_);obtain ⟨-,h⟩:=h;obtain ⟨a,dx,s,v,t,n,B,rfl,ha,hB,s9,kn,q⟩:=h;refine ⟨_,(Zk (Zv (ZW Uy hr ZB (Za (pv 1) (Za (YD (pv 0) rfl) (Za (pv 3) Zc)))))),?_⟩;exact ⟨_,rfl,_,rfl,a,T.c_Test,dx,_,_,rfl,ha,T.cl_Test,T.na_Test_wanted,rfl,_,rfl,rfl,v,s,n,B,rfl,hB,s9,kn,q⟩
theorem Zn7 (T:Tx K w mg)  : Zf4 P base T:=by
 refine Fun.okX (k:=0) T.X9.F Znn (fun vs H Q E h=>h.1) (fun cdv A outer s H vs Q E hr h=>?_);obtain ⟨-,h⟩:=h;obtain ⟨b,dx,z,rfl,hb,q⟩:=h;refine ⟨_,(Zk (Zv (YD (pv 0) rfl))),?_⟩;exact ⟨_,rfl,b,T.c_Test,dx,_,_,rfl,hb,T.cl_Test,T.na_Test_wanted,rfl,q⟩
theorem ZkB (T:Tx K w mg)  : ZgH P base T:=by
 refine Fun.okX (k:=0) T.V3.F ZoJ (fun vs H Q E h=>h.1) (fun cdv A outer s H vs Q E hr h=>?_);obtain ⟨-,h⟩:=h;obtain ⟨b,dx,z,rfl,hb,q⟩:=h;refine ⟨_,(Zk (W5 (pv 0) (pv 1) rfl)),?_⟩;exact ⟨_,rfl,_,rfl,b,T.c_Said,dx,[],rfl,hb,T.cl_Said,T.na_Said_word,by show (0:Nat)<1000;decide,q⟩
theorem Zj1 (T:Tx K w mg)  : Zcm P base T:=by
 refine Fun.okX (k:=0) T.WU.F ZlC (fun vs H Q E h=>h.1) (fun cdv A outer s H vs Q E hr h=>?_);obtain ⟨-,h⟩:=h;obtain ⟨a,dx,u,v,t,n,d,rs,zs,rfl,ha,⟨p,rfl,h1,h2,h3,h4⟩,hm,q⟩:=h;refine ⟨_,(Zk (Zv (Vl ZaR (by rfl) T.n_list UR (Za (Y8 (ZV hr) (Y8 (ZV hr) (pv 2) (YD (pv 0) rfl) (fun _ _=>rfl)) (pv 3) (fun _ _=>rfl)) Zc)))),?_⟩;obtain ⟨r,hr,rfl,hv⟩:=Zgk h4 hm;refine ⟨_,rfl,_,rfl,a,T.c_Said,dx,_,_,rfl,ha,T.cl_Said,T.na_Said_word,rfl,p,_,rfl,(by have z:=DGet.k (k:=.inr u) h1;rw [Xa rfl] at z;exact z),_,rfl,d,_,rfl,hv▸DGet.k (k:=.inr n) h2,?_⟩;exact ⟨r.2.1,_,rfl,.inl (.of (h3 r hr)),fun l nl=>q _ l (Zl nl) nl Zg⟩
theorem ZkC (T:Tx K w mg)  : Zfg P base T:=by
 refine Fun.okX (k:=0) T.Wd.F ZhY (fun vs H Q E h=>h.1) (fun cdv A outer s H vs Q E hr h=>?_);obtain ⟨-,h⟩:=h;obtain ⟨b,dx,u,rfl,hb,hu,q⟩:=h;refine ⟨_,(Zk (Zv (Zq ZaI Zs (YD (pv 0) rfl)))),?_⟩;exact ⟨_,rfl,b,T.c_Said,dx,_,_,rfl,hb,T.cl_Said,T.na_Said_word,rfl,_,_,rfl,rfl,(by have:=ZcI;show 1+u.length≤_;omega),q⟩
theorem Zi9 (T:Tx K w mg) (Ut:ZbD P base T) (UP:Zc4 P base T) (Uw:Zcm P base T):ZeJ P base T:=by
 refine Fun.okX (k:=4) T.Yw.F JR (fun vs H Q E h=>h.1) (fun cdv A outer s H vs Q E hr h=>?_);obtain ⟨-,h⟩:=h;obtain ⟨x,v,t,l,ns,L,f,pool,rfl,hP,hl,nl,hf,hp,pl,q⟩:=h
 refine ⟨_,(Zj (ZF (i:=4) JR.nd rfl (Or.inl rfl) Vg)
   (Zj (YM QI rfl (Xe (pv 3)) (ZY (i:=5) JR.nd rfl (Or.inl rfl))
    (Zk (YM QI rfl (Xe (ZaU (pv 0) T.cl_Letter T.Vd.me Ut (hr.mono (by decide)) T.Vd.b T.cl_Test T.W1.me UP (hr.mono (by decide)) T.W1.b T.cl_Said T.WU.me Uw (hr.mono (by decide)) T.WU.b ZB (Za (pv 1) (Za (pv 2) (Za (pv 5) Zc))))) (ZY (i:=6) JR.nd rfl (Or.inl rfl))
    (Zk (Xs (ZV hr) (pv 4) (pv 6) YW rfl)))))
   (Zk (Zv (ZO (ZaD rfl) (by rfl) T.n_sorted Wx (Za (pv 4) Zc)))))),?_⟩
 refine fun c nc=>?_;have sc:=Zl (o:=.dK []) nc;refine ⟨_,rfl,l,rfl,⟨_,sc.sql hl⟩,Wl (xs:=ns.map V.str) (fun i σ Hc=>∃(cs:List (Str×V)) (v5 v6:Option V),σ=[some x,some v,some t,some (.ref l),some (.ref c),v5,v6]∧Same H Hc∧Hc c=some (.dK (Wf cs))∧(cs.map (·.1)).Nodup∧∀y,y∈cs.map (·.1)↔∃n,n∈ns.take i∧y∈f n) ?start ?list ?turn ?done⟩
 case start=>exact ⟨[],_,_,rfl,sc,Zg,by simp,fun x=>by simp⟩
 case list =>
  rintro i σ Hc _ ⟨cs,v5,v6,rfl,sx,_⟩;exact sx.sql hl
 case done =>
  rintro σ Hc ⟨cs,v5,v6,rfl,sx,hc,nd,mem⟩;rw [Qd,Re] at mem
  have cl:(cs.map (·.1)).length≤60:=Qm (Jz nd fun y hy=>by
   obtain ⟨n,hn,hy⟩:=(mem y).mp hy;exact hp n hn y hy) pl
  rw [Qd] at cl;exact ⟨_,rfl,c,cs,rfl,hc,by omega,fun D7 zs nD7 hp7 hs7=>q _ D7 zs (sx.trans (Zl nD7)) (ZQ sx nD7) Zg ⟨JO hs7,hp7.nodup_iff.mpr nd,fun y=>by rw [hp7.mem_iff,mem]⟩⟩
 case turn =>
 rintro i y σ Hc hy ⟨cs,v5,v6,rfl,sx,hc,nd,mem⟩;obtain ⟨n,hn,rfl⟩:=VL hy;have hnm:=QP hn;have tk:ns.take (i+1)=ns.take i++[n]:=by rw [Ro,hn];rfl
 dsimp only [Z4];refine ZhG (i0:=0) (i1:=1) (i2:=2) (i3:=5) (σ:=[some x,some v,some t,some (.ref l),some (.ref c),some (.str n),v6]) rfl rfl rfl rfl (hP.mono sx) (hf n hnm) fun H6 M s6 nM hM=>?_;have cM:c≠M:=fun z=>by rw [←z,hc] at nM;cases nM
 refine ⟨M,rfl,⟨_,.of hM⟩,Wl (xs:=(f n).map V.str) (fun j σ Hj=>∃(cs2:List (Str×V)) (v6:Option V),σ=[some x,some v,some t,some (.ref l),some (.ref c),some (.str n),v6]∧Same H Hj∧Hj M=some (.lst ((f n).map V.str))∧Hj c=some (.dK (Wf cs2))∧(cs2.map (·.1)).Nodup∧∀y,y∈cs2.map (·.1)↔y∈cs.map (·.1)∨y∈(f n).take j) ?st ?li ?tu ?dn⟩
 case st=>exact ⟨cs,_,rfl,sx.trans s6,hM,s6 _ _ hc,nd,fun x=>by simp⟩
 case li =>
  rintro j σ Hj _ ⟨cs2,v6,rfl,_,hM,_⟩;exact .of hM
 case dn =>
  rintro σ Hj ⟨cs2,v6,rfl,sj,hMj,hcj,ndj,memj⟩;rw [Qd,Re] at memj;refine ⟨cs2,_,_,rfl,sj,hcj,ndj,fun y=>?_⟩;rw [memj,mem,tk];constructor
  ·rintro (⟨z,h1,h2⟩|h)
   ·exact ⟨z,Q9 _ h1,h2⟩
   ·exact ⟨n,by simp,h⟩
  ·rintro ⟨z,h1,h2⟩;rcases Qn.mp h1 with h1|h1
   ·exact .inl ⟨z,h1,h2⟩
   ·rw [show z=n by simpa using h1] at h2;exact .inr h2
 case tu =>
 rintro j y σ Hj hy ⟨cs2,v6,rfl,sj,hMj,hcj,ndj,memj⟩;obtain ⟨y,hyz,rfl⟩:=VL hy;have tkj:(f n).take (j+1)=(f n).take j++[y]:=by rw [Ro,hyz];rfl
 have inP:∀x∈cs2.map (·.1),x∈pool:=fun x hx2=>by
  rcases (memj x).mp hx2 with h|h
  ·obtain ⟨z,h1,h2⟩:=(mem x).mp h;exact hp z (R3 h1) x h2
  ·exact hp n hnm x (R3 h)
 have len2:(Wf cs2).length≤60:=by rw [ZgM];exact Qm (Jz ndj inP) pl
 refine ⟨_,rfl,_,rfl,c,_,rfl,DPut.k (k:=.inr y) hcj (ZD (by omega)),?_⟩;rw [ZfP];refine ⟨Zn cs2 y (.bl true),_,rfl,fun e u h=>?_,?_,Zg,Zc5 ndj,fun x'=>?_⟩
 ·rw [Zh (fun z=>by subst z;rw [nc] at h;cases h)];exact sj _ _ h
 ·rw [Zh cM.symm];exact hMj
 ·rw [ZeZ,memj,tkj,Qn,QV,or_assoc]
theorem ZnD (T:Tx K w mg)  : Zcr P base T:=by
 refine Fun.okX (k:=0) T.Za1.F Zi4 (fun vs H Q E h=>h.1) (fun cdv A outer s H vs Q E hr h=>?_);obtain ⟨-,h⟩:=h;obtain ⟨l,ns,k,rfl,hS,hk,q⟩:=h
 refine ⟨_,(Zj (ZH (ZA WE (pv 1) (ZO YO (by rfl) T.n_len Yp (Za (pv 0) Zc)) (Zu _)) (Zk (Zv (Zm Ys (pv 0) (pv 1) (fun _ _=>rfl)))) ZK)
   (Zk (Zv Ze))),?_⟩
 refine ⟨_,rfl,_,rfl,l,_,rfl,.inl hS,_,_,rfl,rfl,_,rfl,?_⟩;by_cases kl:k<((ns.map V.int).length:Int)
 ·rw [Ql kl];obtain ⟨j,rfl⟩:∃j:Nat,k=(j:Int):=⟨k.toNat,by omega⟩;refine ZZ ⟨_,rfl,_,rfl,l,_,_,_,rfl,rfl,hS,XI (ZmL (by rw [Qd] at kl;omega)),q _⟩
 ·rw [Qk kl];exact ZT (q _)
theorem Zi0 (T:Tx K w mg)  : ZcN P base T:=by
 refine Fun.okX (k:=0) T.Zaj.F Wa (fun vs H Q E h=>h.1) (fun cdv A outer s H vs Q E hr h=>?_);obtain ⟨-,h⟩:=h;obtain ⟨c,rfl,q⟩:=h
 refine ⟨_,(Zj (ZF (i:=1) Wa.nd rfl (Or.inl rfl) Zs)
   (Zj (ZF (i:=2) Wa.nd rfl (Or.inl rfl) (Zq Xx Ze (Zq Z6 (pv 0) Ze)))
   (Zj (ZF (i:=3) Wa.nd rfl (Or.inl rfl) (Zq Z6 (Zq Y0 (pv 0) Ze) (pv 2)))
   (Zj (V4 (i:=4) rfl  Wa.nd rfl (Or.inl rfl) (WH (N:=["_law_k","_law_cell"]) ["_law_cell"] [none,some 0] rfl (by decide +kernel) (by decide +kernel) (by rfl) (by rfl) (by rfl) (by rfl) (by rfl)) (VJ (by rfl) T.n_range (Za (pv 2) Zc)) (fun _ _ _=>(ZY (i:=0) Zm4 rfl (Or.inl rfl))) (fun _ _ _=>Za9) (fun _ _ _=>(Zq Z6 (Zq Xx (Zq Y0 (Zq Y0 (pv 1) Ze) (Zq Xx (pv 0) Ze)) (Zq W4 Ze (pv 0))) Ze)))
   (Zj (ZF (i:=5) Wa.nd rfl (Or.inl rfl) (Yt Zc))
   (Zj (YM QI rfl (VJ (by rfl) T.n_range (Za Ze Zc)) (ZY (i:=6) Wa.nd rfl (Or.inl rfl))
    (Zj (ZF (i:=7) Wa.nd rfl (Or.inl rfl) Zs)
   (Zj (YM QI rfl (VJ (by rfl) T.n_range (Za (pv 2) Zc)) (ZY (i:=8) Wa.nd rfl (Or.inl rfl))
    (Zk (ZF (i:=7) Wa.nd rfl (Or.inl rfl) (Zq ZaI (pv 7) (Zm Zaa (pv 1) (Zq Z6 (Zq Xx (Zm Ys (pv 4) (pv 8) (fun _ _=>rfl)) (Zq ZaQ (pv 6) (Vl Zhr (by rfl) T.n_int Zdj (Za (YT ZX (pv 8) (pv 3) (Zu _)) Zc)))) Ze) (fun _ _=>rfl))))))
   (Zk (Yr (Wi Rp Rq Rr X4 (pv 5) (Za (Zq ZaI (pv 7) (Ue ZiI Zs J2 (W9 (Zq Z6 (pv 6) Ze)))) Zc)))))))
   (Zk (Zv (pv 5))))))))),?_⟩
 have s0:=QN c (show (0:Int)<6 by decide);have s1:=Q3 c (show (0:Int)<6 by decide);refine ⟨_,rfl,_,_,rfl,rfl,Yn (by decide),_,_,rfl,rfl,?_⟩
 try dsimp only
 obtain ⟨n,hn⟩:∃n:Nat,1+c.fmod 6=(n:Int):=⟨(1+c.fmod 6).toNat,by omega⟩;rw [hn];have n1:1≤n∧n≤6:=by omega
 have a0:=QN (c.fdiv 6) (show (0:Int)<n by omega);have a1:=Q3 (c.fdiv 6) (show (0:Int)<n by omega);refine ⟨_,rfl,_,_,rfl,rfl,⟨by decide,YE (by decide) (by decide)⟩,_,rfl,_,_,rfl,rfl,(show (n:Int)≠0 by omega),?_⟩
 try dsimp only
 obtain ⟨p,hp⟩:∃p:Nat,(c.fdiv 6).fmod n=(p:Int):=⟨((c.fdiv 6).fmod n).toNat,by omega⟩;rw [hp];have pn:p<n:=by omega
 refine ⟨_,rfl,_,rfl,by omega,by omega,Za2 ((List.range n).map fun j=>V.int (Wp c j)) (ZD (by rw [Qd,R1];omega)) (fun σ=>∃w,σ=[w,some (.int c)]) ⟨_,rfl⟩ (fun i H3 hi sm=>?go) (fun H3 sm=>?stop) (fun i σ H3 x H4 y hy hσ sm hx C hC=>?step) (fun D2 H3 nD2 sm hD2=>?fin)⟩
 case go =>
  rw [Qd,R1] at hi;show i<(n:Int).toNat;omega
 case stop =>
  rw [Qd,R1];show (n:Int).toNat≤n;omega
 case step =>
  obtain ⟨w,rfl⟩:=hσ;obtain ⟨rfl,rfl⟩:=hx
  have il:i<n:=by
   have:=(QF.mp hy).1
   rwa [Qd,R1] at this
  obtain rfl:V.int (Wp c i)=y:=by
   rw [Qu,GS il] at hy;exact Qt hy
  rw [show (0:Int)+(i:Int)=i from Go _];exact ⟨_,rfl,_,_,rfl,rfl,⟨by decide,YE (by decide) (by decide)⟩,_,rfl,_,_,rfl,rfl,_,_,rfl,rfl,⟨by omega,YE (by omega) (by omega)⟩,_,rfl,_,_,rfl,rfl,.inl ⟨by decide,by decide⟩,_,_,rfl,rfl,_,_,rfl,rfl,Yn (by decide),hC _ _ ⟨_,rfl⟩ (Same.refl _)⟩
 case fin =>
 refine ⟨few rfl,fun D nD=>?_⟩;have sD:=Zl (o:=.lst []) nD;have s3D:=sm.trans sD;have D2D:D2≠D:=ZU hD2 nD;have hb:∀{Hc:Hp},Hc D2=some (.lst ((List.range n).map fun j=>V.int (Wp c j)))->SqL K Hc D2 ((List.range n).map fun j=>V.int (Wp c j)):=fun h=>.of h;refine ⟨_,rfl,by decide,by decide,UG (fun i σ Hc=>∃v6 v7 v8,σ=[some (.int c),some (.str "abcdefghijklmnopqrstuvwxyz"),some (.int n),some (.int p),some (.ref D2),some (.ref D),v6,v7,v8]∧Same H Hc∧Hc D=some (.lst (((List.range i).map (Ww c n p)).map V.str))∧Hc D2=some (.lst ((List.range n).map fun j=>V.int (Wp c j)))) ⟨_,_,_,rfl,s3D,Zg,by rw [Zh D2D];exact hD2⟩ ?_ ?_⟩
 ·rintro k σ Hc hk ⟨v6,v7,v8,rfl,sc,hD,hD2c⟩;have k24:k<24:=hk;rw [show (0:Int)+(k:Int)=k from Go _];refine ⟨_,rfl,_,rfl,by omega,by omega,UG (fun j σ Hj=>Hj=Hc∧∃v8,σ=[some (.int c),some (.str "abcdefghijklmnopqrstuvwxyz"),some (.int n),some (.int p),some (.ref D2),some (.ref D),some (.int k),some (.str ⟨(Xq c p k j).toArray⟩),v8]) ⟨rfl,_,rfl⟩ ?_ ?_⟩
  ·rintro j σ Hj hj ⟨rfl,v8,rfl⟩;have jn:j<n:=by omega
   rw [show (0:Int)+(j:Int)=j from Go _];have atj:Yu ((List.range n).map fun j=>V.int (Wp c j)) (j:Int)=some (.int (Wp c j)):=XI (by rw [Qu,GS jn];rfl);have bn:∀z:Int,z=0∨z=1->z.natAbs<2 ^ 1000:=fun z h=>YE (by omega) (by omega);refine ⟨_,rfl,_,rfl,_,rfl,_,rfl,D2,_,_,_,rfl,rfl,hb hD2c,atj,_,rfl,_,rfl,_,rfl,rfl,.inr ⟨_,rfl,_,_,rfl,rfl,⟨YE (by omega) (by omega),bn _ (by split<;>simp)⟩,_,_,rfl,rfl,_,_,rfl,rfl,Yn (by decide),_,_,_,rfl,rfl,few rfl,Zli _,_,_,rfl,rfl,?_,rfl,some (.int (j:Int)),?_⟩⟩
   ·exact few (by rw [UO,VF];show Nat.ble (j+1) 1000=true;exact Nat.ble_eq_true_of_le (by omega))
   ·show [_,_,_,_,_,_,_,some (V.str _),_]=_;rw [Zij,Zng];by_cases e:j=p
    ·subst e;simp
    ·have:¬((j:Int)=(p:Int)):=by omega
     simp [e,this]
  ·rintro σ Hj ⟨rfl,v8,rfl⟩;rw [show ((n:Int)).toNat=n from rfl];refine ⟨_,rfl,.inl ⟨rfl,_,.of hD⟩,_,rfl,?_⟩;dsimp only [U8];refine ⟨_,rfl,_,_,rfl,rfl,Yn (by decide),_,rfl,_,rfl,few rfl,_,_,rfl,rfl,?len,D,_,_,rfl,rfl,hD,ZD (by simp;omega),_,_,_,rfl,?same,?lst,?_⟩
   case len =>
    rw [Zhz,UO,UO,VF,QZ];exact few (Nat.ble_eq_true_of_le (by omega))
   case same =>
    intro a u e;rw [Zh (ZU e (ZQ sm nD))];exact sc _ _ e
   case lst =>
    rw [Zg,Zhz,ZkY,Nt,Qp,Qp];rfl
   ·rw [Zh D2D];exact hD2c
 ·rintro σ Hc ⟨v6,v7,v8,rfl,sc,hD,hD2c⟩;exact ⟨_,rfl,q _ D _ sc (ZQ sm nD) hD (Zjo n1.1 n1.2 pn)⟩
theorem ZmJ (T:Tx K w mg)  : ZgD P base T:=by
 refine Fun.okX (k:=0) T.Zab.F ZnT (fun vs H Q E h=>h.1) (fun cdv A outer s H vs Q E hr h=>?_);obtain ⟨-,h⟩:=h;obtain ⟨c,k,w,rfl,k0,k1,q⟩:=h
 refine ⟨_,(Zj (ZH (ZA ZX (pv 2) Ze (Zu _)) (Zk (Zv (Zq Za0 (Zq Z6 (Zq W4 (pv 0) Ze) (Zq Xx (Zq W4 Ze (Zq X7 Ze Ze)) Ze)) (Zq X7 Ze Ze)))) ZK)
   (Zj (ZH (ZA ZX (pv 2) Ze (Zu _)) (Zk (Zv (Zq Za0 (Zq Xx (Zq ZaQ (Zq W4 (pv 1) Ze) (Zq X7 Ze Ze)) (Zq Z6 (pv 0) (Zq W4 Ze (Zq X7 Ze Ze)))) (Zq X7 Ze Ze)))) ZK)
   (Zk (Zv (Zq Za0 (Zq Z6 (pv 0) Ze) Ze))))),?_⟩
 have c18:W0 10 18:=⟨by decide,by decide,by decide⟩;have c16:W0 10 16:=⟨by decide,by decide,by decide⟩;refine ⟨_,rfl,rfl,_,rfl,Yy (fun h1=>?_) (fun h1=>?_)⟩
 ·refine ⟨_,rfl,_,_,rfl,rfl,.inr ⟨by decide,by decide⟩,_,_,rfl,rfl,c18,_,_,rfl,rfl,.inl ⟨by decide,by decide⟩,_,_,rfl,rfl,_,_,rfl,rfl,Yn (by decide),_,_,rfl,rfl,c18,_,_,rfl,rfl,q _ ?_ ?_⟩
  ·have:=QN (c*1000003) (show (0:Int)<2*10 ^ (18:Int).toNat+1 by decide);show (-10 ^ 18:Int)≤_-10 ^ 18;omega
  ·have:=Q3 (c*1000003) (show (0:Int)<2*10 ^ (18:Int).toNat+1 by decide);have e:(2*10 ^ (18:Int).toNat+1:Int)=2*10 ^ 18+1:=rfl;show _-10 ^ 18≤(10 ^ 18:Int);omega
 refine ⟨_,rfl,rfl,_,rfl,Yy (fun h2=>?_) (fun h2=>?_)⟩
 ·have:=QN c (show (0:Int)<3*10 ^ (16:Int).toNat by decide);have:=Q3 c (show (0:Int)<3*10 ^ (16:Int).toNat by decide);have e:(3*10 ^ (16:Int).toNat:Int)=3*10 ^ 16:=rfl;refine ⟨_,rfl,_,_,rfl,rfl,.inr ⟨by decide,by decide⟩,_,_,rfl,rfl,c16,_,_,rfl,rfl,⟨YE (by omega) (by omega),YE (by decide) (by decide)⟩,_,rfl,_,_,rfl,rfl,c16,_,_,rfl,rfl,.inl ⟨by decide,by decide⟩,_,_,rfl,rfl,Yn (by decide),_,_,rfl,rfl,_,_,rfl,rfl,c18,_,_,rfl,rfl,q _ ?_ ?_⟩
  ·show (-10 ^ 18:Int)≤k*4*10 ^ 16+_-10 ^ 18;omega
  ·show k*4*10 ^ 16+_-10 ^ 18≤(10 ^ 18:Int);omega
 ·have:=QN c (show (0:Int)<9 by decide);have:=Q3 c (show (0:Int)<9 by decide);exact ⟨_,rfl,_,_,rfl,rfl,Yn (by decide),_,_,rfl,rfl,q _ (by omega) (by omega)⟩
theorem ZkH (T:Tx K w mg)  : Zge P base T:=by
 refine Fun.okX (k:=0) T.Zau.F WI (fun vs H Q E h=>h.1) (fun cdv A outer s H vs Q E hr h=>?_);obtain ⟨-,h⟩:=h;obtain ⟨D,ln,c,d,ps,ns,rfl,hP,hN,n24,l24,q⟩:=h
 refine ⟨_,(Zj (ZF (i:=4) WI.nd rfl (Or.inl rfl) (Zq Z6 (Zq W4 (pv 2) Ze) Ze))
   (Zj (Zfu (V4 (i:=5) rfl  WI.nd rfl (Or.inl rfl) (WH (N:=["_law_one","_law_day_here","_law_people"]) ["_law_people","_law_day_here"] [none,some 3,some 0] rfl (by decide +kernel) (by decide +kernel) (by rfl) (by rfl) (by rfl) (by rfl) (by rfl)) (ZgF (pv 0)) (fun _ _ _=>(ZY (i:=0) Zmd rfl (Or.inl rfl))) (fun _ _ _=>(Vm (ZA WE (Zm (Jk K rfl) (Y8 (ZV hr) (pv 2) (pv 0) (fun _ _=>rfl)) Ze (fun _ _=>rfl)) (pv 1) (Zu _)))) (fun _ _ _=>(pv 0))))
   (Zj (V4 (i:=6) rfl  WI.nd rfl (Or.inl rfl) (WH (N:=["_law_one","_law_people"]) ["_law_people"] [none,some 0] rfl (by decide +kernel) (by decide +kernel) (by rfl) (by rfl) (by rfl) (by rfl) (by rfl)) (Xe (pv 5)) (fun _ _ _=>(ZY (i:=0) Zhf rfl (Or.inl rfl))) (fun _ _ _=>(Vm (ZA ZX (Zm (Jk K rfl) (Y8 (ZV hr) (pv 1) (pv 0) (fun _ _=>rfl)) Ze (fun _ _=>rfl)) Zs (Zu _)))) (fun _ _ _=>(pv 0)))
   (Zj (V4 (i:=7) rfl  WI.nd rfl (Or.inl rfl) (WH (N:=["_law_one","_law_people"]) ["_law_people"] [none,some 0] rfl (by decide +kernel) (by decide +kernel) (by rfl) (by rfl) (by rfl) (by rfl) (by rfl)) (Xe (pv 5)) (fun _ _ _=>(ZY (i:=0) Zhf rfl (Or.inl rfl))) (fun _ _ _=>(Vm (ZA ZX (Zm (Jk K rfl) (Y8 (ZV hr) (pv 1) (pv 0) (fun _ _=>rfl)) Ze (fun _ _=>rfl)) Zs (Zu _)))) (fun _ _ _=>(pv 0)))
   (Zj (ZF (i:=8) WI.nd rfl (Or.inl rfl) Zs)
   (Zj (ZF (i:=9) WI.nd rfl (Or.inl rfl) Zs)
   (Zj (ZH (PW.pt (Vj (ZA WA (ZO YO (by rfl) T.n_len Yp (Za (pv 6) Zc)) Ze (Zu _)) (VP (ZA WA (Zq Z6 (pv 4) Ze) Ze (Zu _))))) (Zk (ZF (i:=8) WI.nd rfl (Or.inl rfl) (Zm Ys (pv 6) (Zq Z6 (Zq Y0 (pv 4) Ze) (ZO YO (by rfl) T.n_len Yp (Za (pv 6) Zc))) (fun _ _=>rfl)))) ZK)
   (Zj (ZH (PW.pt (Vj (ZA WA (ZO YO (by rfl) T.n_len Yp (Za (pv 7) Zc)) Ze (Zu _)) (VP (ZA WA (Zq Z6 (Zq Y0 (pv 4) Ze) Ze) Ze (Zu _))))) (Zk (ZF (i:=9) WI.nd rfl (Or.inl rfl) (Zm Ys (pv 7) (Zq Z6 (Zq Y0 (pv 4) Ze) (ZO YO (by rfl) T.n_len Yp (Za (pv 7) Zc))) (fun _ _=>rfl)))) ZK)
   (Zk (Zv (Z7 (Za Zs (Za (Zm Ys (pv 1) (ZO Zat (by rfl) T.n_len Yp (Za (pv 0) Zc)) (fun _ _=>rfl)) (Za (Zm Ys (Yt (Za Zs (Za Zs (Za Zs (Za Zs (Za Zs Zc)))))) (Zq Z6 (pv 2) Ze) (fun _ _=>rfl)) (Za (pv 3) (Za (pv 8) (Za (pv 9) Zc))))))))))))))))),?_⟩
 refine ⟨_,rfl,_,_,rfl,rfl,.inr ⟨by decide,by decide⟩,_,_,rfl,rfl,Yn (by decide),?_⟩;dsimp only [Z4];generalize (c*48271).fmod 2147483647=num;refine ⟨D,XH ps,hP.d,_,rfl,D,_,rfl,hP.d,fun o=>VE (ps.map (Ji d)) (ZD (by rw [Qd];omega)) (fun σ=>∃w,σ=[w,some (.int d),some (.ref D)]) ⟨_,rfl⟩ (fun j H4 hj sm=>?go) (fun H4 sm=>?stop) (fun j σ H4 x H5 z hz hσ sm hx C hC=>?step) (fun D5 H5 nD5 s5 hD5=>?fin)⟩
 case go=>exact ⟨sm _ _ Zg,by rw [Qd] at hj ⊢;exact hj⟩
 case stop=>exact ⟨sm _ _ Zg,by rw [Qd,Qd];exact Qf _⟩
 case step =>
  obtain ⟨w,rfl⟩:=hσ;obtain ⟨rfl,hx2⟩:=hx;rw [Qu] at hx2 hz;obtain ⟨p,hp,rfl⟩:=QL.mp hz;rw [hp] at hx2;obtain rfl:=Qt hx2;have hm:p∈ps:=QP hp;refine ⟨_,rfl,_,rfl,D,_,rfl,PpAt.get hP.nd (.inr ⟨o,sm _ _ Zg⟩) hm,_,_,_,_,rfl,rfl,sm.sqt (Zoz hP.d (hP.t p hm)),Zf (j:=1) rfl,_,rfl,_,_,rfl,rfl,_,rfl,?_⟩;by_cases e:p.2.2.2<d
  ·rw [show Ji d p=some (.str p.1) from Qc e] at hC;rw [Ql e];exact ZZ ⟨_,rfl,hC _ _ ⟨_,rfl⟩ (Same.refl _)⟩
  ·rw [show Ji d p=none from Qa e] at hC;rw [Qk e];exact ZT (hC _ _ ⟨_,rfl⟩ (Same.refl _))
 case fin =>
 rw [Zg2] at hD5;obtain ⟨olds,eo⟩:∃z,z=ps.filter fun p=>decide (p.2.2.2<d):=⟨_,rfl⟩;rw [←eo] at hD5;have ol:olds.length≤ps.length:=by rw [eo];exact Nq ..
 have om:∀p∈olds,p∈ps∧p.2.2.2<d:=fun p hp=>by
  rw [eo] at hp;exact ⟨(Q7.mp hp).1,QE (Q7.mp hp).2⟩
 refine ⟨o,s5 _ _ Zg,?_⟩;have s1:=Zh6 hP.d s5
 have nD5H:H D5=none:=by
  by_cases z:D5=D
  ·rw [z,Zg] at nD5;cases nD5
  ·rwa [Zh z] at nD5
 have D5D:D5≠D:=fun z=>by rw [z,hP.d] at nD5H;cases nD5H
 have hO:(Zb H5 D (.dK (XH ps))) D5=some (.lst ((olds.map (·.1)).map V.str)):=by rw [Zh D5D];exact hD5
 generalize Zb H5 D (.dK (XH ps))=H1 at *;have hP1:=hP.mono s1;refine ⟨_,rfl,D5,rfl,⟨_,.of hO⟩,VE (olds.map (Vc "he")) (ZD (by rw [Qd];omega)) (fun σ=>∃w,σ=[w,some (.ref D)]) ⟨_,rfl⟩ (fun j H4 hj sm=>?go2) (fun H4 sm=>?stop2) (fun j σ H4 x H5 z hz hσ sm hx C hC=>?step2) (fun D6 H6 nD6 s6 hD6=>?fin2)⟩
 case go2=>exact ⟨_,_,sm.sql (.of hO),Qz (by rw [Qd,Qd];rw [Qd] at hj;exact hj)⟩
 case stop2=>exact ⟨_,sm.sql (.of hO),by rw [Qd,Qd,Qd];exact Qf _⟩
 case step2 =>
  obtain ⟨w,rfl⟩:=hσ;obtain ⟨rfl,hx2⟩:=hx;obtain ⟨y,hy,rfl⟩:=VL (hx2 _ (sm.sql (.of hO)));rw [Qu] at hy hz;obtain ⟨p,hp,rfl⟩:=QL.mp hy;rw [hp] at hz;obtain rfl:=Qt hz;have hm:p∈ps:=(om p (QP hp)).1;refine ⟨_,rfl,_,rfl,D,_,rfl,PpAt.get hP.nd (.inl (sm _ _ hP1.d)) hm,_,_,_,_,rfl,rfl,sm.sqt (hP1.t p hm),Zf (j:=0) rfl,rfl,_,rfl,?_⟩;by_cases e:p.2.2.1="he"
  ·rw [show Vc "he" p=some (.str p.1) from Qc e] at hC;rw [Ql (show V.str p.2.2.1=V.str "he" by rw [e])];exact ZZ ⟨_,rfl,hC _ _ ⟨_,rfl⟩ (Same.refl _)⟩
  ·rw [show Vc "he" p=none from Qa e] at hC;rw [Qk (show ¬V.str p.2.2.1=V.str "he" from fun z=>e (V.str.inj z))];exact ZT (hC _ _ ⟨_,rfl⟩ (Same.refl _))
 case fin2 =>
 rw [Zb1] at hD6;have s2:=s1.trans s6;have hP2:=hP.mono s2;have hO2:=s6 _ _ hO;refine ⟨_,rfl,D5,rfl,⟨_,.of hO2⟩,VE (olds.map (Vc "she")) (ZD (by rw [Qd];omega)) (fun σ=>∃w,σ=[w,some (.ref D)]) ⟨_,rfl⟩ (fun j H4 hj sm=>?go3) (fun H4 sm=>?stop3) (fun j σ H4 x H5 z hz hσ sm hx C hC=>?step3) (fun D7 H7 nD7 s7 hD7=>?fin3)⟩
 case go3=>exact ⟨_,_,sm.sql (.of hO2),Qz (by rw [Qd,Qd];rw [Qd] at hj;exact hj)⟩
 case stop3=>exact ⟨_,sm.sql (.of hO2),by rw [Qd,Qd,Qd];exact Qf _⟩
 case step3 =>
  obtain ⟨w,rfl⟩:=hσ;obtain ⟨rfl,hx2⟩:=hx;obtain ⟨y,hy,rfl⟩:=VL (hx2 _ (sm.sql (.of hO2)));rw [Qu] at hy hz;obtain ⟨p,hp,rfl⟩:=QL.mp hy;rw [hp] at hz;obtain rfl:=Qt hz;have hm:p∈ps:=(om p (QP hp)).1;refine ⟨_,rfl,_,rfl,D,_,rfl,PpAt.get hP.nd (.inl (sm _ _ hP2.d)) hm,_,_,_,_,rfl,rfl,sm.sqt (hP2.t p hm),Zf (j:=0) rfl,rfl,_,rfl,?_⟩;by_cases e:p.2.2.1="she"
  ·rw [show Vc "she" p=some (.str p.1) from Qc e] at hC;rw [Ql (show V.str p.2.2.1=V.str "she" by rw [e])];exact ZZ ⟨_,rfl,hC _ _ ⟨_,rfl⟩ (Same.refl _)⟩
  ·rw [show Vc "she" p=none from Qa e] at hC;rw [Qk (show ¬V.str p.2.2.1=V.str "she" from fun z=>e (V.str.inj z))];exact ZT (hC _ _ ⟨_,rfl⟩ (Same.refl _))
 case fin3 =>
 rw [Zb1] at hD7;have s3:=s2.trans s7;have hP3:=hP.mono s3;have hF:=s7 _ _ hD6;obtain ⟨fs,ef⟩:∃z,z=olds.filter fun p=>decide (p.2.2.1=("he" : Str)):=⟨_,rfl⟩;obtain ⟨ms,em⟩:∃z,z=olds.filter fun p=>decide (p.2.2.1=("she" : Str)):=⟨_,rfl⟩;rw [←ef] at hF;rw [←em] at hD7
 have fm:∀p∈fs,XN ps "he" d p.1:=fun p hp=>by
  rw [ef] at hp;obtain ⟨h1,h2⟩:=Q7.mp hp;exact .inr ⟨p,(om p h1).1,rfl,QE h2,(om p h1).2⟩
 have mm:∀p∈ms,XN ps "she" d p.1:=fun p hp=>by
  rw [em] at hp;obtain ⟨h1,h2⟩:=Q7.mp hp;exact .inr ⟨p,(om p h1).1,rfl,QE h2,(om p h1).2⟩
 rw [QG] at hF hD7;dsimp only [Z4];refine Zel (Zel ?_);refine YI (fun σ Hx=>H7=Hx∧∃f,XN ps "he" d f∧σ=[some (.ref D),some (.ref ln),some (.int c),some (.int d),some (.int num),some (.ref D5),some (.ref D6),some (.ref D7),some (.str f),some (.str "")]) (fun nx rest=>?_) ?_
 ·refine ⟨_,rfl,D6,_,rfl,.inl (.of hF),_,_,rfl,rfl,_,rfl,Yy (fun h1=>⟨_,rfl,_,_,rfl,rfl,Yn (by decide),_,_,rfl,rfl,_,rfl,Yy (fun h2=>?_) (fun h2=>?_)⟩) (fun h1=>?_)⟩
  ·have l0:0<fs.length:=by
    have:=QE h1;rw [Qd] at this;omega
   obtain ⟨p,hp,ea⟩:=ZaJ (V.str∘fun p:Pp=>p.1) fs l0 (num.fdiv 7);exact ⟨_,rfl,_,rfl,_,_,rfl,rfl,⟨by decide,YE (by decide) (by decide)⟩,_,rfl,D6,_,rfl,.inl (.of hF),_,_,rfl,rfl,(by rw [Qd];omega),D6,_,_,_,rfl,rfl,.of hF,ea,rest _ _ ⟨rfl,p.1,fm p hp,rfl⟩⟩
  ·exact rest _ _ ⟨rfl,"",.inl rfl,rfl⟩
  ·exact rest _ _ ⟨rfl,"",.inl rfl,rfl⟩
 rintro σ _ ⟨rfl,f,hf,rfl⟩;refine YI (fun σ Hx=>H7=Hx∧∃m,XN ps "she" d m∧σ=[some (.ref D),some (.ref ln),some (.int c),some (.int d),some (.int num),some (.ref D5),some (.ref D6),some (.ref D7),some (.str f),some (.str m)]) (fun nx rest=>?_) ?_
 ·refine ⟨_,rfl,D7,_,rfl,.inl (.of hD7),_,_,rfl,rfl,_,rfl,Yy (fun h1=>⟨_,rfl,_,_,rfl,rfl,⟨by decide,YE (by decide) (by decide)⟩,_,_,rfl,rfl,Yn (by decide),_,_,rfl,rfl,_,rfl,Yy (fun h2=>?_) (fun h2=>?_)⟩) (fun h1=>?_)⟩
  ·have l0:0<ms.length:=by
    have:=QE h1;rw [Qd] at this;omega
   obtain ⟨p,hp,ea⟩:=ZaJ (V.str∘fun p:Pp=>p.1) ms l0 (num.fdiv 1400);exact ⟨_,rfl,_,rfl,_,_,rfl,rfl,⟨by decide,YE (by decide) (by decide)⟩,_,rfl,D7,_,rfl,.inl (.of hD7),_,_,rfl,rfl,(by rw [Qd];omega),D7,_,_,_,rfl,rfl,.of hD7,ea,rest _ _ ⟨rfl,p.1,mm p hp,rfl⟩⟩
  ·exact rest _ _ ⟨rfl,"",.inl rfl,rfl⟩
  ·exact rest _ _ ⟨rfl,"",.inl rfl,rfl⟩
 rintro σ _ ⟨rfl,m,hm,rfl⟩;obtain ⟨s,hs,es⟩:=ZlF c;have il:ps.length<ns.length:=by omega
 have en:ns[ps.length]?=some ns[ps.length]:=Qz il;have an:Yu (ns.map V.str) ((XH ps).length:Int)=some (.str ns[ps.length]):=by rw [Qd];exact XI (by rw [Qu,en];rfl)
 refine ⟨_,rfl,_,rfl,D,_,rfl,hP3.d,ln,_,_,_,rfl,rfl,s3.sql hN,an,few rfl,fun L nL=>⟨_,rfl,_,_,rfl,rfl,Yn (by decide),L,_,_,_,rfl,rfl,.of Zg,es,_,rfl,_,rfl,_,rfl,few rfl,fun a na=>?_⟩⟩;exact q _ a _ _ _ _ ((s3.trans (Zl nL)).trans (Zl na)) (ZQ (s3.trans (Zl nL)) na) (.of Zg) en hs hf hm
theorem ZnB (T:Tx K w mg)  : Zhd P base T:=by
 refine Fun.okX (k:=0) T.ZaV.F Wm (fun vs H Q E h=>h.1) (fun cdv A outer s H vs Q E hr h=>?_);obtain ⟨-,h⟩:=h;obtain ⟨D,Dk,c,kd,ps,kn,rfl,hP,hK,p2,p24,k100,ok,pd,qn,q⟩:=h
 refine ⟨_,(Zj (ZF (i:=4) Wm.nd rfl (Or.inl rfl) (Vl (Zm9 rfl) (by rfl) T.n_list UR (Za (pv 0) Zc)))
   (Zj (ZF (i:=5) Wm.nd rfl (Or.inl rfl) (Zm Ys (pv 4) (Zq Z6 (pv 2) (ZO YO (by rfl) T.n_len Yp (Za (pv 4) Zc))) (fun _ _=>rfl)))
   (Zj (ZF (i:=6) Wm.nd rfl (Or.inl rfl) (Zm Ys (pv 4) (Zq Z6 (Zq Xx (Zq Xx (pv 2) Ze) (Zq Z6 (Zq Y0 (pv 2) Ze) (Zq Za0 (ZO YO (by rfl) T.n_len Yp (Za (pv 4) Zc)) Ze))) (ZO YO (by rfl) T.n_len Yp (Za (pv 4) Zc))) (fun _ _=>rfl)))
   (Zj (ZF (i:=7) Wm.nd rfl (Or.inl rfl) (ZO (Zfq rfl) (by rfl) T.n_min JD (Za (Zq X7 Ze Ze) (Za (Zq Xx (ZO (Zk5 rfl) (by rfl) T.n_max JQ (Za (Zm Zp (Y8 (ZV hr) (pv 0) (pv 5) (fun _ _=>rfl)) Ze (fun _ _=>rfl)) (Za (Zm Zp (Y8 (ZV hr) (pv 0) (pv 6) (fun _ _=>rfl)) Ze (fun _ _=>rfl)) Zc))) (Zq Z6 (Zq Y0 (pv 2) Ze) (Zq X7 Ze Ze))) Zc))))
   (Zj (ZF (i:=8) Wm.nd rfl (Or.inl rfl) (Z7 (Za Zs (Za (ZO (ZdL rfl) (by rfl) T.n_min JD (Za (pv 5) (Za (pv 6) Zc))) (Za (ZO (Zbt rfl) (by rfl) T.n_max JQ (Za (pv 5) (Za (pv 6) Zc))) (Za (pv 7) Zc))))))
   (Zj (ZF (i:=9) Wm.nd rfl (Or.inl rfl) (Z7 (Za (Zm Ys (Yt (Za Zs (Za Zs Zc))) (Vl Zhr (by rfl) T.n_int Zdj (Za (YT WA (pv 3) Ze (Zu _)) Zc)) (fun _ _=>rfl)) (Za (pv 5) (Za (pv 6) (Za (pv 7) Zc))))))
   (Zj (ZH (ZA ZX (pv 3) Ze (Zu _)) (Zj (ZH (ZA WE (Zm Zp (Y8 (ZV hr) (pv 0) (pv 5) (fun _ _=>rfl)) Ze (fun _ _=>rfl)) (Zm Zp (Y8 (ZV hr) (pv 0) (pv 6) (fun _ _=>rfl)) Ze (fun _ _=>rfl)) (Zu _)) (Zk (ZnU rfl Wm.nd (i:=5) (j:=6) rfl rfl (by decide) rfl rfl (Za (pv 6) (Za (pv 5) Zc)) rfl)) ZK)
   (Zj (ZF (i:=8) Wm.nd rfl (Or.inl rfl) (Z7 (Za Zs (Za (pv 5) (Za (pv 6) Zc)))))
   (Zj (ZF (i:=9) Wm.nd rfl (Or.inl rfl) (Z7 (Za Zs (Za (pv 5) (Za (pv 6) (Za (pv 7) Zc))))))
   (Zk (ZH (ZA ZX (Zm Zp (Y8 (ZV hr) (pv 0) (pv 5) (fun _ _=>rfl)) Ze (fun _ _=>rfl)) (Zm Zp (Y8 (ZV hr) (pv 0) (pv 6) (fun _ _=>rfl)) Ze (fun _ _=>rfl)) (Zu _)) (Zk (Zv J6)) ZK))))) ZK)
   (Zj (ZH (Zak (Zea (ZV hr) (pv 8) (pv 1))) (Zk (Zv J6)) ZK)
   (Zj (Xs (ZV hr) (pv 1) (pv 8) YW rfl)
   (Zk (Zv (pv 9)))))))))))),?_⟩
 have c18:W0 10 18:=⟨by decide,by decide,by decide⟩;have c6:W0 10 6:=⟨by decide,by decide,by decide⟩;have eD:XH ps=(ps.map fun p=>(p.1,V.ref p.2.1)).map (fun p=>((.inr p.1:Zi),p.2)):=by rw [QG];rfl
 have en:((ps.map fun p:Pp=>(p.1,V.ref p.2.1)).map (·.1))=ps.map (·.1):=by rw [QG];rfl
 refine ⟨_,rfl,D,ps.map fun p=>(p.1,V.ref p.2.1),rfl,by rw [←eD];exact hP.d,by rw [Qd];omega,fun L nL=>?_⟩;rw [en];have s1:=Zl (o:=.lst ((ps.map (·.1)).map V.str)) nL;have hL:Zb H L (.lst ((ps.map (·.1)).map V.str)) L=some (.lst ((ps.map (·.1)).map V.str)):=Zg;dsimp only [Z4];generalize Zb H L (.lst ((ps.map (·.1)).map V.str))=H1 at *;have hPd:=s1 _ _ hP.d;have hPt:∀p∈ps,SqT K H1 p.2.1 [.str p.2.2.1,.int p.2.2.2]:=fun p hp=>s1.sqt (hP.t p hp);have hK1:=s1 _ _ hK;have el:(((ps.map (·.1)).map V.str).length:Int)=(ps.length:Int):=by rw [Qd,Qd]
 obtain ⟨p,hp,r,hr',ne,a1,a2⟩:=Zjb hP.nd p2 c;refine ⟨_,rfl,_,rfl,_,rfl,L,_,rfl,.inl (.of hL),_,_,rfl,rfl,(by omega),L,_,_,_,rfl,rfl,.of hL,a1,?_⟩;refine ⟨_,rfl,_,rfl,_,_,rfl,rfl,_,rfl,_,_,rfl,rfl,⟨by decide,YE (by decide) (by decide)⟩,_,rfl,L,_,rfl,.inl (.of hL),_,_,rfl,rfl,_,_,rfl,rfl,(by omega),_,_,rfl,rfl,_,rfl,L,_,rfl,.inl (.of hL),_,_,rfl,rfl,(by omega),L,_,_,_,rfl,rfl,.of hL,a2,?_⟩;dsimp only [Z4];refine YI (fun σ Hx=>H1=Hx∧∃day,TwoOk ps p r day∧σ=[some (.ref D),some (.ref Dk),some (.int c),some (.int kd),some (.ref L),some (.str p.1),some (.str r.1),some (.int day),none,none]) (fun nx rest=>?_) ?_
 ·refine ⟨_,_,rfl,rfl,c18,_,rfl,_,rfl,D,_,rfl,PpAt.get hP.nd (.inl hPd) hp,_,_,_,_,rfl,rfl,hPt _ hp,Zf (j:=1) rfl,_,rfl,_,rfl,D,_,rfl,PpAt.get hP.nd (.inl hPd) hr',_,_,_,_,rfl,rfl,hPt _ hr',Zf (j:=1) rfl,_,_,rfl,_,rfl,_,_,rfl,rfl,⟨by decide,YE (by decide) (by decide)⟩,_,_,rfl,rfl,c6,_,_,rfl,rfl,Yn (by decide),_,_,rfl,rfl,_,_,rfl,rest _ _ ⟨rfl,_,?Zr,rfl⟩⟩;have x0:=QN (c.fdiv 600) (show (0:Int)<10 ^ (6:Int).toNat by decide);have d1:=pd p hp;have d2:=pd r hr';have e18:(10:Int) ^ (18:Int).toNat=10 ^ 18:=rfl;rw [e18];generalize (c.fdiv 600).fmod (10 ^ (6:Int).toNat)=x at *;refine ⟨hp,hr',ne,?_,?_,?_,?_⟩<;>(repeat' split)<;>omega
 rintro σ _ ⟨rfl,day,Zr,rfl⟩;refine ⟨_,rfl,_,rfl,_,_,rfl,_,rfl,_,rfl,_,_,rfl,_,rfl,few rfl,fun ak nak=>?_⟩;rw [Zct,Zc3];dsimp only [Z4];have s3:=Zl (o:=.tup [.str "tie",.str (Zd p.1 r.1).1,.str (Zd p.1 r.1).2,.int day]) nak;have hak:Zb H1 ak (.tup [.str "tie",.str (Zd p.1 r.1).1,.str (Zd p.1 r.1).2,.int day]) ak=some (.tup [.str "tie",.str (Zd p.1 r.1).1,.str (Zd p.1 r.1).2,.int day]):=Zg;generalize Zb H1 ak (.tup [.str "tie",.str (Zd p.1 r.1).1,.str (Zd p.1 r.1).2,.int day])=H3 at *;have s13:=s1.trans s3
 let JK:St->Hp->Prop:=fun σ Hx=>Same H Hx∧∃p r day ak ae e,TwoOk ps p r day∧DeedF ps e∧Hx ak=some (.tup (e.told.key.map kV))∧SqT K Hx ae (e.row.map kV)∧H ae=none∧σ=[some (.ref D),some (.ref Dk),some (.int c),some (.int kd),some (.ref L),some (.str p.1),some (.str r.1),some (.int day),some (.ref ak),some (.ref ae)]
 refine YI JK (fun nx rest=>?_) ?_
 ·refine ⟨few rfl,fun lu nlu=>⟨_,rfl,_,_,rfl,rfl,.inr ⟨_,rfl,lu,_,_,_,rfl,rfl,.of Zg,Zok _,_,rfl,_,rfl,_,rfl,few rfl,fun ae nae=>rest _ _ ⟨?_,p,r,day,ak,ae,_,Zr,Zr.tie (decide (7<kd)),?_,?_,?_,rfl⟩⟩⟩⟩
  ·exact (s13.trans (Zl nlu)).trans (Zl nae)
  ·rw [ZhU,Zh (fun z=>by rw [←z] at nae;exact absurd ((Zl nlu) _ _ hak) (by rw [nae];simp)),Zh (ZU hak nlu)];exact hak
  ·rw [ZiJ];exact .of Zg
  ·exact ZQ (s13.trans (Zl nlu)) nae
 rintro σ H4 ⟨s4,p,r,day,ak,ae,e,Zr,de,hka,hea,nae,rfl⟩
 try dsimp only [JK]
 refine YI JK (fun nx rest=>?_) ?_
 ·refine ⟨_,rfl,rfl,_,rfl,Yy (fun h1=>?_) (fun h1=>?_)⟩
  ·have hPd4:=s4 _ _ hP.d;have hPt4:∀p∈ps,SqT K H4 p.2.1 [.str p.2.2.1,.int p.2.2.2]:=fun p hp=>s4.sqt (hP.t p hp);refine YI (fun σ Hx=>H4=Hx∧∃p r,TwoOk ps p r day∧r.2.2.2≤p.2.2.2∧σ=[some (.ref D),some (.ref Dk),some (.int c),some (.int kd),some (.ref L),some (.str p.1),some (.str r.1),some (.int day),some (.ref ak),some (.ref ae)]) (fun nx' rest'=>?_) ?_
   ·refine ⟨_,rfl,_,rfl,D,_,rfl,PpAt.get hP.nd (.inl hPd4) Zr.ip,_,_,_,_,rfl,rfl,hPt4 _ Zr.ip,Zf (j:=1) rfl,_,rfl,_,rfl,D,_,rfl,PpAt.get hP.nd (.inl hPd4) Zr.iq,_,_,_,_,rfl,rfl,hPt4 _ Zr.iq,Zf (j:=1) rfl,_,_,rfl,rfl,_,rfl,Yy (fun h2=>?_) (fun h2=>?_)⟩
    ·exact ⟨_,rfl,_,rfl,_,_,rfl,rest' _ _ ⟨rfl,r,p,Zr.swap,Int.le_of_lt (QE h2),rfl⟩⟩
    ·exact rest' _ _ ⟨rfl,p,r,Zr,Int.not_lt.mp (Rg h2),rfl⟩
   rintro σ _ ⟨rfl,p,r,Zr,le,rfl⟩;refine ⟨_,rfl,_,rfl,few rfl,fun ak2 nak2=>⟨_,rfl,_,rfl,_,rfl,few rfl,fun ae2 nae2=>?_⟩⟩;have s5:=(Zl (o:=.tup [.str "taken",.str p.1,.str r.1]) nak2).trans (Zl (o:=.tup [.str "taken",.str p.1,.str r.1,.int day]) nae2);have hk5:Zb (Zb H4 ak2 (.tup [.str "taken",.str p.1,.str r.1])) ae2 (.tup [.str "taken",.str p.1,.str r.1,.int day]) ak2=some (.tup [.str "taken",.str p.1,.str r.1]):=by rw [Zh (ZU Zg nae2),Zg]
   have he5:Zb (Zb H4 ak2 (.tup [.str "taken",.str p.1,.str r.1])) ae2 (.tup [.str "taken",.str p.1,.str r.1,.int day]) ae2=some (.tup [.str "taken",.str p.1,.str r.1,.int day]):=Zg;have n5:H ae2=none:=ZQ (s4.trans (Zl nak2)) nae2;dsimp only [Z4];generalize Zb (Zb H4 ak2 (.tup [.str "taken",.str p.1,.str r.1])) ae2 (.tup [.str "taken",.str p.1,.str r.1,.int day])=H5 at *;have s45:=s4.trans s5;have hPd5:=s45 _ _ hP.d;have hPt5:∀p∈ps,SqT K H5 p.2.1 [.str p.2.2.1,.int p.2.2.2]:=fun p hp=>s45.sqt (hP.t p hp);refine ⟨_,rfl,_,rfl,D,_,rfl,PpAt.get hP.nd (.inl hPd5) Zr.ip,_,_,_,_,rfl,rfl,hPt5 _ Zr.ip,Zf (j:=1) rfl,_,rfl,_,rfl,D,_,rfl,PpAt.get hP.nd (.inl hPd5) Zr.iq,_,_,_,_,rfl,rfl,hPt5 _ Zr.iq,Zf (j:=1) rfl,rfl,_,rfl,Yy (fun h2=>?_) (fun h2=>?_)⟩
   ·exact qn _ s45
   ·have nd:p.2.2.2≠r.2.2.2:=fun z=>by rw [z] at h2;exact absurd h2 (by simp)
    exact rest _ _ ⟨s45,p,r,day,ak2,ae2,_,Zr,Zr.taken hP.nd (by omega),hk5,.of he5,n5,rfl⟩
  ·exact rest _ _ ⟨s4,p,r,day,ak,ae,e,Zr,de,hka,hea,nae,rfl⟩
 rintro σ H6 ⟨s6,p,r,day,ak,ae,e,Zr,de,hka,hea,nae,rfl⟩;have hK6:=s6 _ _ hK;refine ⟨_,rfl,_,rfl,Dk,_,rfl,DGet.t hK6 hka,_,rfl,?_⟩;by_cases mem:e.told.key∈kn
 ·rw [Znj mem];exact ZZ (qn _ s6)
 ·rw [ZeC mem];refine ZT ⟨_,rfl,_,rfl,Dk,_,rfl,DPut.t (k:=e.told.key) hK6 hka (ZD (by rw [Qd];omega)),?_⟩;rw [VQ _ (ZeC mem)];refine ⟨_,rfl,q _ ae e (fun b u nb hb=>by rw [Zh nb];exact s6 _ _ hb) nae ?_ ?_ mem de⟩
  ·exact YH hea hK6 (fun _ z=>by cases z) (fun _ _ z=>by cases z)
  ·rw [Zg];unfold WX;rw [Qp];rfl
theorem Zig (T:Tx K w mg) (VI:Zcr P base T) (Us:ZcN P base T) (Zdo:ZgD P base T) (Zcl:Zge P base T) (ZbA:Zhd P base T):ZfN P base T:=by
 refine Fun.okX (k:=1) T.Zan.F Wc (fun vs H Q E h=>h.1) (fun cdv A outer s H vs Q E hr h=>?_);obtain ⟨-,h⟩:=h;obtain ⟨l,ss,rfl,hl,l63,q⟩:=h
 refine ⟨_,(Zj (ZF (i:=3) Wc.nd rfl (Or.inl rfl) (ZW Us hr ZB (Za (ZW VI hr ZB (Za (pv 0) (Za Ze Zc))) Zc)))
   (Zj (ZF (i:=4) Wc.nd rfl (Or.inl rfl) Vg)
   (Zj (ZF (i:=5) Wc.nd rfl (Or.inl rfl) Vu)
   (Zj (ZF (i:=6) Wc.nd rfl (Or.inl rfl) (Yt Zc))
   (Zj (YM QI rfl (Ziq (by rfl) T.n_range (Za (pv 1) (Za (ZO (Zfq rfl) (by rfl) T.n_min JD (Za (ZO YO (by rfl) T.n_len Yp (Za (pv 0) Zc)) (Za Ze Zc))) (Za Ze Zc)))) (ZY (i:=7) Wc.nd rfl (Or.inl rfl))
    (Zj (ZF (i:=8) Wc.nd rfl (Or.inl rfl) (Zq Y0 (Zm Ys (pv 0) (pv 7) (fun _ _=>rfl)) Ze))
   (Zj (ZF (i:=9) Wc.nd rfl (Or.inl rfl) (Zq Z6 (Zm Ys (pv 0) (pv 7) (fun _ _=>rfl)) Ze))
   (Zj (ZH (PW.pt (Xp (ZA WE (ZO Zat (by rfl) T.n_len Yp (Za (pv 4) Zc)) Ze (Zu _)) (X0 (PW.pt (Vj (ZA WE (pv 9) Ze (Zu _)) (VP (ZA WE (ZO Zat (by rfl) T.n_len Yp (Za (pv 4) Zc)) (pv 2) (Zu _)))))))) (Zj (ZF (i:=10) Wc.nd rfl (Or.inl rfl) (ZW Zcl hr ZB (Za (pv 4) (Za (pv 3) (Za (pv 8) (Za (ZW Zdo hr ZB (Za (pv 8) (Za (pv 7) (Za (Zq Z6 (ZW VI hr ZB (Za (pv 0) (Za Ze Zc))) Ze) Zc)))) Zc))))))
   (Zk (Xs (ZV hr) (pv 4) (Zm Zp (pv 10) Ze (fun _ _=>rfl)) (Z7 (Za (Zm Zp (pv 10) Ze (fun _ _=>rfl)) (Za (Zm Zp (pv 10) Ze (fun _ _=>rfl)) Zc))) rfl))) (Zk (ZF (i:=10) Wc.nd rfl (Or.inl rfl) (ZW ZbA hr ZB (Za (pv 4) (Za (pv 5) (Za (pv 8) (Za (pv 9) Zc))))))))
   (Zk (ZH (ZA Zoy (pv 10) J6 (Zu _)) (Zk (Yr (Wi Rp Rq Rr X4 (pv 6) (Za (pv 10) Zc)))) ZK))))))
   (Zk (Zv (pv 6)))))))),?_⟩
 refine ⟨_,rfl,rfl,l,ss,0,rfl,hl,by decide,fun z0=>⟨rfl,z0,rfl,fun H1 Ln ns s1 nLn hLn N=>?_⟩⟩;refine fun D nD=>fun Dk nDk=>⟨few rfl,fun Le nLe=>?_⟩;have eD:=Zl (o:=.dK []) nD;have eDk:=Zl (o:=.dT []) nDk;have eLe:=Zl (o:=.lst []) nLe;have nDH:=ZQ s1 nD;have nDkH:=ZQ (s1.trans eD) nDk;have nLeH:=ZQ ((s1.trans eD).trans eDk) nLe;have DkD:Dk≠D:=fun z=>by rw [z,Zg] at nDk;cases nDk
 have LeDk:Le≠Dk:=fun z=>by rw [z,Zg] at nLe;cases nLe
 have LeD:Le≠D:=fun z=>by rw [z,Zh DkD.symm,Zg] at nLe;cases nLe
 have LnD:Ln≠D:=ZU hLn nD;have DkLn:Dk≠Ln:=fun z=>by rw [z,Zh LnD] at nDk;rw [nDk] at hLn;cases hLn
 have LeLn:Le≠Ln:=fun z=>by rw [z,eDk _ _ (eD _ _ hLn)] at nLe;cases nLe
 have ln:(ss.map V.int).length=ss.length:=Qd ..;have s4:=((s1.trans eD).trans eDk).trans eLe;refine ⟨_,rfl,_,rfl,l,_,rfl,.inl (s4.sql hl),_,_,rfl,3,_,2,rfl,⟨by omega,by omega,by split<;>omega,by split<;>omega,by decide,by decide⟩,fun nn hn n1=>ZiR (lo:=3) (c:=2) (fun i σ Hc=>∃(ks:List (Ent×Addr)) (ps:List Pp) (kn:List (List Zi)) (v6 v7 v8 v9:Option V),σ=[some (.ref l),some (.int 3),some (.int 12),some (.ref Ln),some (.ref D),some (.ref Dk),some (.ref Le),v6,v7,v8,v9]∧Same H Hc∧Hc Ln=some (.lst (ns.map V.str))∧PpAt K Hc D ps∧Hc Dk=some (.dT (WX kn))∧Hc Le=some (.lst (Xz ks))∧Uj K Hc ks∧EI ns (ks.map (·.1)) ps kn∧ks.length≤i) ⟨[],[],[],_,_,_,_,rfl,s4,eLe _ _ (eDk _ _ (eD _ _ hLn)),⟨by rw [Zh LeD.symm,Zh DkD.symm];exact Zg,fun p hp=>(by cases hp),.nil⟩,by rw [Zh LeDk.symm];exact Zg,Zg,fun p hp=>(by cases hp),EI.start,Qf _⟩ ?turn ?done⟩
 case done =>
  rintro σ Hc ⟨ks,ps,kn,v6,v7,v8,v9,rfl,sc,hLnc,hP,hK,hLe,hR,ei,kl⟩;refine ⟨_,rfl,q _ Le ks ns sc nLeH hLe hR N ei.good ?_⟩;rcases Nat.lt_or_ge 21 nn with h|h
  ·have:=hn 21 h;split at this<;>omega
  ·omega
 case turn =>
  rintro i σ Hc hi ⟨ks,ps,kn,v6,v7,v8,v9,rfl,sc,hLnc,hP,hK,hLe,hR,ei,kl⟩
  have hb:3+i*2<ss.length∧i<21:=by
   have:=hn i hi;rw [ln] at this;split at this<;>omega
  have ek:(3:Int)+(i:Int)*((2:Nat):Int)=((3+i*2:Nat):Int):=by omega
  rw [ek];have atk:Yu (ss.map V.int) ((3+i*2:Nat):Int)=some (.int ss[3+i*2]):=XI (by rw [Qu,Qz hb.1];rfl);refine ⟨_,rfl,_,rfl,l,_,_,_,rfl,rfl,sc.sql hl,atk,_,_,rfl,rfl,⟨by decide,YE (by decide) (by decide)⟩,_,rfl,_,rfl,l,_,_,_,rfl,rfl,sc.sql hl,atk,_,_,rfl,rfl,Yn (by decide),?_⟩;dsimp only [Z4];refine YI (fun σ Hx=>Same H Hx∧Hx Ln=some (.lst (ns.map V.str))∧∃(ps:List Pp) (kn:List (List Zi)) (v9:V),PpAt K Hx D ps∧Hx Dk=some (.dT (WX kn))∧Hx Le=some (.lst (Xz ks))∧Uj K Hx ks∧σ=[some (.ref l),some (.int 3),some (.int 12),some (.ref Ln),some (.ref D),some (.ref Dk),some (.ref Le),some (.int ((3+i*2:Nat):Int)),some (.int (ss[3+i*2].fdiv 9)),some (.int (ss[3+i*2].fmod 9)),some v9]∧((v9=.non∧EI ns (ks.map (·.1)) ps kn)∨∃a e,v9=.ref a∧SqT K Hx a (e.row.map kV)∧EI ns (ks.map (·.1)++[e]) ps kn)) (fun nx rest=>?_) ?_
  ·have pl:((XH ps).length:Int)=(ps.length:Int):=by rw [Qd]
   refine ⟨_,rfl,D,_,rfl,hP.d,_,_,rfl,rfl,_,rfl,Yy (fun h1=>?b1) (fun h1=>⟨_,rfl,_,_,rfl,rfl,_,rfl,Yy (fun h2=>⟨_,rfl,D,_,rfl,hP.d,_,rfl,_,_,rfl,rfl,_,rfl,Yy (fun h3=>?b2) (fun h3=>?d1)⟩) (fun h2=>?d2)⟩)⟩
   case b1 =>
    have l24:ps.length<24:=by have:=QE h1;omega
    refine ⟨_,rfl,_,rfl,_,rfl,_,rfl,_,rfl,_,rfl,rfl,l,ss,1,rfl,sc.sql hl,by decide,fun z=>⟨_,_,rfl,rfl,Yn (by decide),rfl,_,_,_,rfl,by omega,by omega,fun d d1 d2=>⟨rfl,D,Ln,_,d,ps,ns,rfl,hP,.of hLnc,N.len,l24,fun H5 a n s f m s5 na ha hn hs hf hm=>?_⟩⟩⟩;refine ⟨_,rfl,a,_,_,_,rfl,rfl,ha,Zf (j:=2) rfl,_,rfl,a,_,_,_,rfl,rfl,ha,Zf (j:=3) rfl,few rfl,fun at' nat=>?_⟩;have s6:=s5.trans (Zl (o:=.tup [.str s,.int d]) nat);have hD6:=s6 _ _ hP.d
    have nin:n∉ps.map (·.1):=fun z=>by
     have nd':(ns.take (ps.length+1)).Nodup:=N.nd.sublist (R9 ..);rw [Ro,hn,←ei.nm] at nd';exact (Q2.mp nd').2.2 n z n (by simp) rfl
    refine ⟨_,rfl,_,rfl,a,_,_,_,rfl,rfl,(Zl nat).sqt ha,Zf (j:=1) rfl,D,_,rfl,DPut.k (k:=.inr n) hD6 (ZD (by rw [Qd];omega)),?_⟩;rw [ZfR (s:=s) (d:=d) nin];have ei':=ei.birth N (a:=at') hn l24 hs hf hm d1 d2;have pt:∀{c:Addr} {xs:List V},SqT K (Zb H5 at' (.tup [.str s,.int d])) c xs->SqT K (Zb (Zb H5 at' (.tup [.str s,.int d])) D (.dK (XH (ps++[(n,at',s,d)])))) c xs:=fun h=>YH h hD6 (fun _ z=>by cases z) (fun _ _ z=>by cases z);refine rest _ _ ⟨fun c u e=>by rw [Zh (fun z=>by rw [z,nDH] at e;cases e)];exact s6 _ _ (sc _ _ e),by rw [Zh LnD];exact s6 _ _ hLnc,_,kn,_,⟨Zg,fun p hp=>?_,ei'.nd N⟩,by rw [Zh DkD];exact s6 _ _ hK,by rw [Zh LeD];exact s6 _ _ hLe,fun p hp=>pt (s6.sqt (hR p hp)),rfl,.inr ⟨a,_,rfl,pt ((Zl nat).sqt ha),ei'⟩⟩;rcases Qn.mp hp with hp|hp
    ·exact pt (s6.sqt (hP.t p hp))
    ·rw [show p=(n,at',s,d) by simpa using hp];exact pt (.of Zg)
   case b2 =>
    have l24:ps.length<24:=by have:=QE h3;omega
    refine ⟨_,rfl,_,rfl,_,rfl,_,rfl,_,rfl,_,rfl,rfl,l,ss,1,rfl,sc.sql hl,by decide,fun z=>⟨_,_,rfl,rfl,Yn (by decide),rfl,_,_,_,rfl,by omega,by omega,fun d d1 d2=>⟨rfl,D,Ln,_,d,ps,ns,rfl,hP,.of hLnc,N.len,l24,fun H5 a n s f m s5 na ha hn hs hf hm=>?_⟩⟩⟩;refine ⟨_,rfl,a,_,_,_,rfl,rfl,ha,Zf (j:=2) rfl,_,rfl,a,_,_,_,rfl,rfl,ha,Zf (j:=3) rfl,few rfl,fun at' nat=>?_⟩;have s6:=s5.trans (Zl (o:=.tup [.str s,.int d]) nat);have hD6:=s6 _ _ hP.d
    have nin:n∉ps.map (·.1):=fun z=>by
     have nd':(ns.take (ps.length+1)).Nodup:=N.nd.sublist (R9 ..);rw [Ro,hn,←ei.nm] at nd';exact (Q2.mp nd').2.2 n z n (by simp) rfl
    refine ⟨_,rfl,_,rfl,a,_,_,_,rfl,rfl,(Zl nat).sqt ha,Zf (j:=1) rfl,D,_,rfl,DPut.k (k:=.inr n) hD6 (ZD (by rw [Qd];omega)),?_⟩;rw [ZfR (s:=s) (d:=d) nin];have ei':=ei.birth N (a:=at') hn l24 hs hf hm d1 d2;have pt:∀{c:Addr} {xs:List V},SqT K (Zb H5 at' (.tup [.str s,.int d])) c xs->SqT K (Zb (Zb H5 at' (.tup [.str s,.int d])) D (.dK (XH (ps++[(n,at',s,d)])))) c xs:=fun h=>YH h hD6 (fun _ z=>by cases z) (fun _ _ z=>by cases z);refine rest _ _ ⟨fun c u e=>by rw [Zh (fun z=>by rw [z,nDH] at e;cases e)];exact s6 _ _ (sc _ _ e),by rw [Zh LnD];exact s6 _ _ hLnc,_,kn,_,⟨Zg,fun p hp=>?_,ei'.nd N⟩,by rw [Zh DkD];exact s6 _ _ hK,by rw [Zh LeD];exact s6 _ _ hLe,fun p hp=>pt (s6.sqt (hR p hp)),rfl,.inr ⟨a,_,rfl,pt ((Zl nat).sqt ha),ei'⟩⟩;rcases Qn.mp hp with hp|hp
    ·exact pt (s6.sqt (hP.t p hp))
    ·rw [show p=(n,at',s,d) by simpa using hp];exact pt (.of Zg)
   case d1 =>
    have p2:2≤ps.length:=by have:=Rg h1;omega
    refine ⟨_,rfl,_,rfl,_,rfl,_,rfl,rfl,D,Dk,_,_,ps,kn,rfl,hP,hK,p2,ei.len,by have:=ei.knl;rw [Qd] at this;omega,ei.ok,ei.pd,fun H5 s5=>rest _ _ ⟨sc.trans s5,s5 _ _ hLnc,ps,kn,_,hP.mono s5,s5 _ _ hK,s5 _ _ hLe,fun p hp=>s5.sqt (hR p hp),rfl,.inl ⟨rfl,ei⟩⟩,fun H5 a e fr na ha hK5 nk de=>rest _ _ ⟨fun c u e=>fr _ _ (fun z=>by rw [z,nDkH] at e;cases e) (sc _ _ e),fr _ _ DkLn.symm hLnc,ps,kn++[e.told.key],_,⟨fr _ _ DkD.symm hP.d,fun p hp=>ZaA fr hK (hP.t p hp),hP.nd⟩,hK5,fr _ _ LeDk hLe,fun p hp=>ZaA fr hK (hR p hp),rfl,.inr ⟨a,e,rfl,ha,ei.deed N de nk⟩⟩⟩
   case d2 =>
    have p2:2≤ps.length:=by have:=Rg h1;omega
    refine ⟨_,rfl,_,rfl,_,rfl,_,rfl,rfl,D,Dk,_,_,ps,kn,rfl,hP,hK,p2,ei.len,by have:=ei.knl;rw [Qd] at this;omega,ei.ok,ei.pd,fun H5 s5=>rest _ _ ⟨sc.trans s5,s5 _ _ hLnc,ps,kn,_,hP.mono s5,s5 _ _ hK,s5 _ _ hLe,fun p hp=>s5.sqt (hR p hp),rfl,.inl ⟨rfl,ei⟩⟩,fun H5 a e fr na ha hK5 nk de=>rest _ _ ⟨fun c u e=>fr _ _ (fun z=>by rw [z,nDkH] at e;cases e) (sc _ _ e),fr _ _ DkLn.symm hLnc,ps,kn++[e.told.key],_,⟨fr _ _ DkD.symm hP.d,fun p hp=>ZaA fr hK (hP.t p hp),hP.nd⟩,hK5,fr _ _ LeDk hLe,fun p hp=>ZaA fr hK (hR p hp),rfl,.inr ⟨a,e,rfl,ha,ei.deed N de nk⟩⟩⟩
  ·rintro σ Hx ⟨sx,hLnx,ps,kn,v9,hP,hK,hLe,hR,rfl,hv⟩;rcases hv with ⟨rfl,ei⟩|⟨a,e,rfl,ha,ei⟩
   ·exact ⟨_,rfl,rfl,_,rfl,Zt (by rfl) ⟨ks,ps,kn,_,_,_,_,rfl,sx,hLnx,hP,hK,hLe,hR,ei,by omega⟩⟩
   ·refine ⟨_,rfl,rfl,_,rfl,Yd (by rfl) ⟨_,rfl,.inl ⟨rfl,_,.of hLe⟩,_,rfl,Le,_,_,rfl,rfl,hLe,ZD (by rw [V8];omega),ks++[(e,a)],ps,kn,_,_,_,_,rfl,fun c u e=>by rw [Zh (fun z=>by rw [z,nLeH] at e;cases e)];exact sx _ _ e,?_,⟨?_,fun p hp=>?_,hP.nd⟩,?_,?_,fun p hp=>?_,?_,?_⟩⟩
    ·rw [Zh LeLn.symm];exact hLnx
    ·rw [Zh LeD.symm];exact hP.d
    ·exact YH (hP.t p hp) hLe (fun _ z=>by cases z) (fun _ _ z=>by cases z)
    ·rw [Zh LeDk.symm];exact hK
    ·rw [Zg,Znz]
    ·rcases Qn.mp hp with hp|hp
     ·exact YH (hR p hp) hLe (fun _ z=>by cases z) (fun _ _ z=>by cases z)
     ·rw [show p=(e,a) by simpa using hp];exact YH ha hLe (fun _ z=>by cases z) (fun _ _ z=>by cases z)
    ·rw [Qp];exact ei
    ·rw [Qx];exact Nu kl
theorem Zow (T:Tx K w mg)  : Zgl P base T:=by
 refine Fun.okX (k:=0) T.JW.F ZoF (fun vs H Q E h=>h.1) (fun cdv A outer s H vs Q E hr h=>?_);obtain ⟨-,h⟩:=h;obtain ⟨D,L,lo,hi,ed,n,rfl,hE,hb,n5,hL,q⟩:=h
 refine ⟨_,(Zj (Yr (Wi Rp Rq Rr X4 (Jt (ZV hr) (pv 0) (Z7 (Za (pv 1) (Za (pv 2) Zc))) (Yt Zc) ⟨rfl,rfl,rfl,rfl⟩) (Za (pv 3) Zc)))
   (Zk (Yr (Wi Rp Rq Rr X4 (Jt (ZV hr) (pv 0) (Z7 (Za (ZgW K PySem.F.plainAttrs_str PySem.F.slot_str_lower PySem.F.type_str_lower Zm3 (pv 1)) (Za (pv 3) Zc))) (Yt Zc) ⟨rfl,rfl,rfl,rfl⟩) (Za (pv 2) Zc))))),?_⟩
 refine YI (fun σ Hx=>σ=[some (.ref D),some (.str L),some (.str lo),some (.str hi)]∧VU D ed n (L,lo) hi H Hx) (fun nx rest=>?_) ?_
 ·refine ⟨_,rfl,D,rfl,.inr ⟨_,.inl hE.d⟩,_,rfl,_,rfl,few rfl,fun t nt=>⟨few rfl,fun z nz=>?_⟩⟩;have st:=Zl (o:=.tup [.str ((L,lo):Str×Str).1,.str ((L,lo):Str×Str).2]) nt;have sz:=Zl (o:=.lst []) nz;obtain ⟨hD2,ln2,old,new⟩:=Za4 (c:=((L,lo):Str×Str)) (x:=hi) hE hb (by omega) (st.trans sz) (ZQ st nz) Zg;refine ⟨Xd ed,Zr ((L,lo):Str×Str),t,hD2,rfl,sz _ _ Zg,ln2,fun v hv=>?_,fun hv=>?_⟩
  ·obtain ⟨b,xs,rfl,hb2,lx,add⟩:=old v hv;exact ⟨.inl ⟨rfl,_,.of hb2⟩,_,rfl,b,_,_,rfl,rfl,hb2,lx,rest _ _ ⟨rfl,add⟩⟩
  ·obtain ⟨hz3,add⟩:=new hv;exact ⟨.inl ⟨rfl,_,.of hz3⟩,_,rfl,z,_,_,rfl,rfl,hz3,ZD (by simp),rest _ _ ⟨rfl,add⟩⟩
 rintro σ H1 ⟨rfl,ed1,hE1,hb1,lk1,fr1⟩;have ll:L.length≤1000:=by rcases hL with rfl|rfl|rfl<;>decide +kernel
 have fin:∀H',VU D ed1 (n+1) (ZaX L,hi) lo H1 H'->Q .non H':=fun H' ⟨ed2,hE2,hb2,lk2,fr2⟩=>q H' ed2 hE2 hb2 (fun c=>by rw [lk2,show lk ed1=ZS (lk ed) (L,lo) hi from funext lk1]) (fr1.trans fr2);refine ⟨_,rfl,D,rfl,.inr ⟨_,.inl hE1.d⟩,_,rfl,rfl,L,rfl,rfl,ll,_,rfl,few rfl,fun t nt=>⟨few rfl,fun z nz=>?_⟩⟩;have st:=Zl (o:=.tup [.str ((Txt.lower L,hi):Str×Str).1,.str ((Txt.lower L,hi):Str×Str).2]) nt;have sz:=Zl (o:=.lst []) nz;obtain ⟨hD2,ln2,old,new⟩:=Za4 (c:=((Txt.lower L,hi):Str×Str)) (x:=lo) hE1 hb1 (by omega) (st.trans sz) (ZQ st nz) Zg;refine ⟨Xd ed1,Zr ((Txt.lower L,hi):Str×Str),t,hD2,rfl,sz _ _ Zg,ln2,fun v hv=>?_,fun hv=>?_⟩
 ·obtain ⟨b,xs,rfl,hb2,lx,add⟩:=old v hv;exact ⟨.inl ⟨rfl,_,.of hb2⟩,_,rfl,b,_,_,rfl,rfl,hb2,lx,fin _ (by rw [←ZeR hL];exact add)⟩
 ·obtain ⟨hz3,add⟩:=new hv;exact ⟨.inl ⟨rfl,_,.of hz3⟩,_,rfl,z,_,_,rfl,rfl,hz3,ZD (by simp),fin _ (by rw [←ZeR hL];exact add)⟩
theorem ZmW (T:Tx K w mg) (Zba:Zgl P base T):ZhE P base T:=by
 refine Fun.okX (k:=1) T.Zag.F WR (fun vs H Q E h=>h.1) (fun cdv A outer s H vs Q E hr h=>?_);obtain ⟨-,h⟩:=h;obtain ⟨Le,ks,ns,rfl,hLe,hR,gd,l40,q⟩:=h
 refine ⟨_,(Zj (ZF (i:=1) WR.nd rfl (Or.inl rfl) Vu)
   (Zj (ZF (i:=2) WR.nd rfl (Or.inl rfl) Vu)
   (Zj (YM QI rfl (Xe (pv 0)) (ZY (i:=3) WR.nd rfl (Or.inl rfl))
    (Zj (ZH (ZA ZX (Zm Zp (pv 3) Ze (fun _ _=>rfl)) Zs (Zu _)) (Zj (Xs (ZV hr) (pv 1) (Z7 (Za (Zm Zp (pv 3) Ze (fun _ _=>rfl)) (Za (Zm Zp (pv 3) Ze (fun _ _=>rfl)) Zc))) (Yt (Za (Zm Zp (pv 3) Ze (fun _ _=>rfl)) Zc)) rfl)
   (Zk (YM QI rfl (Xe (Yt (Za (Z7 (Za Zs (Za (Zm Zp (pv 3) Ze (fun _ _=>rfl)) Zc))) (Za (Z7 (Za Zs (Za (Zm Zp (pv 3) Ze (fun _ _=>rfl)) Zc))) Zc)))) (Jl rfl (XQ (ZY (i:=4) WR.nd rfl (Or.inl rfl)) (XQ (ZY (i:=5) WR.nd rfl (Or.inl rfl)) UE)))
    (Zk (ZH (ZA Wv (pv 5) Zs (Zu _)) (Zk (Yr (ZW Zba hr ZB (Za (pv 1) (Za (pv 4) (Za (Zm Zp (pv 3) Ze (fun _ _=>rfl)) (Za (pv 5) Zc))))))) ZK))))) ZK)
   (Zj (ZH (ZA ZX (Zm Zp (pv 3) Ze (fun _ _=>rfl)) Zs (Zu _)) (Zk (Yr (ZW Zba hr ZB (Za (pv 1) (Za Zs (Za (Zm Zp (pv 3) Ze (fun _ _=>rfl)) (Za (Zm Zp (pv 3) Ze (fun _ _=>rfl)) Zc))))))) ZK)
   (Zk (ZH (PW.pt (Xp (ZA ZX (Zm Zp (pv 3) Ze (fun _ _=>rfl)) Zs (Zu _)) (X0 (ZA ZX (Zm Zp (pv 3) Ze (fun _ _=>rfl)) Zs (Zu _))))) (Zj (ZF (i:=6) WR.nd rfl (Or.inl rfl) (Z7 (Za (ZO (ZdL rfl) (by rfl) T.n_min JD (Za (Zm Zp (pv 3) Ze (fun _ _=>rfl)) (Za (Zm Zp (pv 3) Ze (fun _ _=>rfl)) Zc))) (Za (ZO (Zbt rfl) (by rfl) T.n_max JQ (Za (Zm Zp (pv 3) Ze (fun _ _=>rfl)) (Za (Zm Zp (pv 3) Ze (fun _ _=>rfl)) Zc))) Zc))))
   (Zk (ZH (PW.pt (Xp (Zak (Zg8 (ZV hr) (pv 6) (pv 2))) (X0 (ZA WE (Zm Zp (Y8 (ZV hr) (pv 2) (pv 6) (fun _ _=>rfl)) Ze (fun _ _=>rfl)) (Zm Zp (pv 3) Ze (fun _ _=>rfl)) (Zu _))))) (Zk (Xs (ZV hr) (pv 2) (pv 6) (Z7 (Za (Zm Zp (pv 3) Ze (fun _ _=>rfl)) (Za (Zm Zp (pv 3) Ze (fun _ _=>rfl)) Zc))) rfl)) ZK))) ZK)))))
   (Zj (Zj7 (YM QI rfl (ZkW (ZgW K G8 PySem.F.slot_dict_items PySem.F.type_dict_items ZnK (pv 2))) (Jl rfl (XQ (ZY (i:=6) WR.nd rfl (Or.inl rfl)) (XQ (ZY (i:=7) WR.nd rfl (Or.inl rfl)) UE)))
    (Zk (ZH (ZA ZX (Zm Zp (pv 7) Ze (fun _ _=>rfl)) Zs (Zu _)) (Zj (Yr (Wi Rp Rq Rr X4 (Jt (ZV hr) (pv 1) (Z7 (Za Zs (Za (Zm Zp (pv 6) Ze (fun _ _=>rfl)) Zc))) (Yt Zc) ⟨rfl,rfl,rfl,rfl⟩) (Za (Zm Zp (pv 6) Ze (fun _ _=>rfl)) Zc)))
   (Zk (Yr (Wi Rp Rq Rr X4 (Jt (ZV hr) (pv 1) (Z7 (Za Zs (Za (Zm Zp (pv 6) Ze (fun _ _=>rfl)) Zc))) (Yt Zc) ⟨rfl,rfl,rfl,rfl⟩) (Za (Zm Zp (pv 6) Ze (fun _ _=>rfl)) Zc))))) ZK))))
   (Zk (Zv (pv 1))))))),?_⟩
 refine fun D nD=>fun Dl nDl=>?_;have eD:=Zl (o:=.dT []) nD;have eDl:=Zl (o:=.dT []) nDl;have s0:=eD.trans eDl;have nDlH:=ZQ eD nDl;have DlD:Dl≠D:=fun z=>by rw [z,Zg] at nDl;cases nDl
 refine ⟨_,rfl,Le,rfl,⟨_,s0.sql hLe⟩,Wl (xs:=Xz ks) (fun i σ Hc=>∃(ed:Ed) (ls:YZ) (v3 v4 v5 v6 v7:Option V),σ=[some (.ref Le),some (.ref D),some (.ref Dl),v3,v4,v5,v6,v7]∧Same H Hc∧EdAt Hc D ed∧EdB ed (5*i)∧(∀c,lk ed c=Yo ((ks.take i).map (·.1)) c)∧(∀b∈ed.map (·.2.1),H b=none)∧LsAt K Hc Dl ls∧(∀c,(Zy c ls).map (·.2)=YB ((ks.take i).map (·.1)) c)∧ls.length≤i) ?start ?list ?turn ?done⟩
 case start=>exact ⟨[],[],_,_,_,_,_,rfl,s0,⟨by rw [Zh DlD.symm];exact Zg,fun q hq=>(by cases hq),.nil,.nil⟩,⟨QO _,fun q hq=>(by cases hq)⟩,fun c=>rfl,fun b hb=>(by cases hb),⟨Zg,fun q hq=>(by cases hq),.nil⟩,fun c=>rfl,Qf _⟩
 case list =>
  rintro i σ Hc _ ⟨ed,ls,v3,v4,v5,v6,v7,rfl,sc,_⟩;exact sc.sql hLe
 case turn =>
  rintro i y σ Hc hy ⟨ed,ls,v3,v4,v5,v6,v7,rfl,sc,hE,hb,hlk,hn,hl,hla,ll⟩;obtain ⟨⟨e,a⟩,hp,rfl⟩:=ZdH hy;have il:=(QF.mp hp).1;have row:=sc.sqt (hR _ (QP hp));have tk:(ks.take (i+1)).map (·.1)=(ks.take i).map (·.1)++[e]:=Zgg hp;by_cases et:e.tie=true
  ·obtain ⟨x,y,d,W,hr,hW,epr,ekd,edy⟩:=ZjQ et;rw [hr] at row;have eS:∀f:ZG,Yk f e=f:=fun f=>Zov et;rcases hW with eW|eW;refine ⟨_,rfl,a,_,_,_,rfl,rfl,row,Zf (j:=0) rfl,rfl,_,rfl,Zt (by rw [eW];decide +kernel) ⟨_,rfl,a,_,_,_,rfl,rfl,row,Zf (j:=0) rfl,rfl,_,rfl,Zt (by rw [eW];decide +kernel) ⟨_,rfl,a,_,_,_,rfl,rfl,row,Zf (j:=0) rfl,rfl,_,rfl,Yd (by rw [eW];decide +kernel) ?_⟩⟩⟩
   rotate_left
   refine ⟨_,rfl,a,_,_,_,rfl,rfl,row,Zf (j:=0) rfl,rfl,_,rfl,Zt (by rw [eW];decide +kernel) ⟨_,rfl,a,_,_,_,rfl,rfl,row,Zf (j:=0) rfl,rfl,_,rfl,Zt (by rw [eW];decide +kernel) ⟨_,rfl,a,_,_,_,rfl,rfl,row,Zf (j:=0) rfl,rfl,_,rfl,Zt (by rw [eW];decide +kernel) ⟨_,rfl,a,_,_,_,rfl,rfl,row,Zf (j:=0) rfl,rfl,_,rfl,Yd (by rw [eW];decide +kernel) ?_⟩⟩⟩⟩
   all_goals
    refine ⟨_,rfl,a,_,_,_,rfl,rfl,row,Zf (j:=1) rfl,_,rfl,a,_,_,_,rfl,rfl,row,Zf (j:=2) rfl,_,_,rfl,_,rfl,a,_,_,_,rfl,rfl,row,Zf (j:=1) rfl,_,rfl,a,_,_,_,rfl,rfl,row,Zf (j:=2) rfl,_,_,rfl,few rfl,fun tp ntp=>?_⟩;rw [Zct,Zc3];have s1:=Zl (o:=.tup [.str (Zd x y).1,.str (Zd x y).2]) ntp;have htp:Zb Hc tp (.tup [.str (Zd x y).1,.str (Zd x y).2]) tp=some (.tup [.str (Zd x y).1,.str (Zd x y).2]):=Zg;dsimp only [Z4];generalize Zb Hc tp (.tup [.str (Zd x y).1,.str (Zd x y).2])=H1 at *;have hl1:=hl.mono s1;have row1:=s1.sqt row;have g:=DGet.t (k:=Zr (Zd x y)) hl1.d htp;rw [ZgS] at g;have lla:=hla (Zd x y);have keep:∀c,c≠Zd x y->YB ((ks.take i).map (·.1)++[e]) c=YB ((ks.take i).map (·.1)) c:=fun c nc=>by rw [ZaO];exact Qa fun z=>nc (by rw [z.2,epr])
    have put:∀(o:Option (Int×Str)),YB ((ks.take i).map (·.1)) (Zd x y)=o->(∀r,o=some r->r.1<d)->YB ((ks.take i).map (·.1)++[e]) (Zd x y)=some (d,W):=fun o ho hlt=>by
     rw [ZaO];unfold X1;rw [Qc ⟨et,by rw [epr]⟩,ho,edy,ekd];cases o with
     |none=>rfl
     |some r=>exact Qc (hlt r rfl)
    have PUT:∀(tr:Addr) (ntr:H1 tr=none),(∀r,YB ((ks.take i).map (·.1)) (Zd x y)=some r->r.1<d)->∃(ls':YZ),LsAt K (Zb (Zb H1 tr (.tup [.int d,.str W])) Dl (.dT (Yg (Xj ls) (Zr (Zd x y)) (.ref tr)))) Dl ls'∧(∀c,(Zy c ls').map (·.2)=YB ((ks.take (i+1)).map (·.1)) c)∧ls'.length≤i+1:=fun tr ntr hlt=>by
     have s2:=Zl (o:=.tup [.int d,.str W]) ntr;have hd2:=s2 _ _ hl1.d;refine ⟨Zn ls (Zd x y) (tr,d,W),⟨by rw [Zg,←Zi5],fun q hq=>?_,Zc5 hl.kn⟩,fun c=>?_,Qm (XB ..) (by omega)⟩
     ·rcases Ja hq with rfl|hq
      ·exact YH (.of Zg) hd2 (fun _ z=>by cases z) (fun _ _ z=>by cases z)
      ·exact YH (s2.sqt (hl1.t q hq)) hd2 (fun _ z=>by cases z) (fun _ _ z=>by cases z)
     ·rw [ZdB,tk];by_cases e:c=Zd x y
      ·subst e;rw [Qc rfl,put _ rfl hlt];rfl
      ·rw [Qa e,keep c e];exact hla c
    have FIN:∀(tr:Addr) (ntr:H1 tr=none),(∀r,YB ((ks.take i).map (·.1)) (Zd x y)=some r->r.1<d)->∃(ed:Ed) (ls1:YZ) (v3 v4' v5' v6' v7':Option V),[some (.ref Le),some (.ref D),some (.ref Dl),some (.ref a),v4,v5,some (.ref tp),v7]=[some (.ref Le),some (.ref D),some (.ref Dl),v3,v4',v5',v6',v7']∧Same H (Zb (Zb H1 tr (.tup [.int d,.str W])) Dl (.dT (Yg (Xj ls) (Zr (Zd x y)) (.ref tr))))∧EdAt (Zb (Zb H1 tr (.tup [.int d,.str W])) Dl (.dT (Yg (Xj ls) (Zr (Zd x y)) (.ref tr)))) D ed∧EdB ed (5*(i+1))∧(∀c,lk ed c=Yo ((ks.take (i+1)).map (·.1)) c)∧(∀b∈ed.map (·.2.1),H b=none)∧LsAt K (Zb (Zb H1 tr (.tup [.int d,.str W])) Dl (.dT (Yg (Xj ls) (Zr (Zd x y)) (.ref tr)))) Dl ls1∧(∀c,(Zy c ls1).map (·.2)=YB ((ks.take (i+1)).map (·.1)) c)∧ls1.length≤i+1:=fun tr ntr hlt=>by
     obtain ⟨ls',h1,h2,h3⟩:=PUT tr ntr hlt;have s2:=s1.trans (Zl (o:=.tup [.int d,.str W]) ntr);have hE2:=hE.mono s2;have hd2:=s2 _ _ hl.d;refine ⟨ed,ls',_,_,_,_,_,rfl,fun c u e=>?_,⟨?_,fun q hq=>?_,hE.an,hE.kn⟩,hb.mono (by omega),fun c=>?_,hn,h1,h2,h3⟩
     ·rw [Zh (fun z=>by rw [z,nDlH] at e;cases e)];exact s2 _ _ (sc _ _ e)
     ·rw [Zh DlD.symm];exact hE2.d
     ·rw [Zh (fun z=>by have:=hE2.l q hq;rw [z,hd2] at this;cases this)];exact hE2.l q hq
     ·rw [tk,UC,eS];exact hlk c
    refine ⟨_,rfl,_,rfl,Dl,_,rfl,g,_,rfl,?_⟩;cases hf:Zy (Zd x y) ls with
    |none =>
     rw [hf] at lla;refine Yd (by rfl) ⟨_,rfl,a,_,_,_,rfl,rfl,row1,Zf (j:=3) rfl,_,rfl,a,_,_,_,rfl,rfl,row1,Zf (j:=0) rfl,few rfl,fun tr ntr=>⟨_,rfl,_,rfl,Dl,_,rfl,DPut.t (k:=Zr (Zd x y)) ((Zl ntr) _ _ hl1.d) ((Zl ntr) _ _ htp) (ZD (by rw [Qd];omega)),FIN tr ntr (fun r hr=>by rw [←lla] at hr;cases hr)⟩⟩
    |some w =>
     obtain ⟨ar,dd,kk⟩:=w;rw [hf] at lla g;have hm:=Vb hf;refine Zt (by rfl) ⟨_,rfl,_,rfl,Dl,_,rfl,g,ar,_,_,_,rfl,rfl,hl1.t _ hm,Zf (j:=0) rfl,_,rfl,a,_,_,_,rfl,rfl,row1,Zf (j:=3) rfl,_,_,rfl,rfl,_,rfl,Yy (fun h2=>?_) (fun h2=>?_)⟩
     ·refine ⟨_,rfl,a,_,_,_,rfl,rfl,row1,Zf (j:=3) rfl,_,rfl,a,_,_,_,rfl,rfl,row1,Zf (j:=0) rfl,few rfl,fun tr ntr=>⟨_,rfl,_,rfl,Dl,_,rfl,DPut.t (k:=Zr (Zd x y)) ((Zl ntr) _ _ hl1.d) ((Zl ntr) _ _ htp) (ZD (by rw [Qd];omega)),FIN tr ntr (fun r hr=>by rw [←lla] at hr;cases hr;exact QE h2)⟩⟩
     ·refine ⟨ed,ls,_,_,_,_,_,rfl,sc.trans s1,hE.mono s1,hb.mono (by omega),fun c=>?_,hn,hl1,fun c=>?_,by omega⟩
      ·rw [tk,UC,eS];exact hlk c
      ·rw [tk,ZaO];unfold X1;by_cases e:c=Zd x y
       ·subst e;rw [Qc ⟨et,by rw [epr]⟩,←lla,edy,ekd];show _=if dd<d then _ else _;rw [Qa (Rg h2),hf];rfl
       ·rw [Qa (fun z=>e (by rw [z.2,epr]))];exact hla c
  cases e with
  |dead n d =>
   refine ⟨_,rfl,a,_,_,_,rfl,rfl,row,Zf (j:=0) rfl,rfl,_,rfl,Zt (by decide +kernel) ⟨_,rfl,a,_,_,_,rfl,rfl,row,Zf (j:=0) rfl,rfl,_,rfl,Zt (by decide +kernel) ⟨_,rfl,a,_,_,_,rfl,rfl,row,Zf (j:=0) rfl,rfl,_,rfl,Zt (by decide +kernel) ⟨_,rfl,a,_,_,_,rfl,rfl,row,Zf (j:=0) rfl,rfl,_,rfl,Zt (by decide +kernel) ⟨ed,ls,_,_,_,_,_,rfl,sc,hE,hb.mono (by omega),fun c=>?_,hn,hl,fun c=>?_,by omega⟩⟩⟩⟩⟩
   ·rw [tk,UC];exact hlk c
   ·rw [tk,ZaT rfl];exact hla c
  |given x y am d =>
   refine ⟨_,rfl,a,_,_,_,rfl,rfl,row,Zf (j:=0) rfl,rfl,_,rfl,Zt (by decide +kernel) ⟨_,rfl,a,_,_,_,rfl,rfl,row,Zf (j:=0) rfl,rfl,_,rfl,Zt (by decide +kernel) ⟨_,rfl,a,_,_,_,rfl,rfl,row,Zf (j:=0) rfl,rfl,_,rfl,Zt (by decide +kernel) ⟨_,rfl,a,_,_,_,rfl,rfl,row,Zf (j:=0) rfl,rfl,_,rfl,Zt (by decide +kernel) ⟨ed,ls,_,_,_,_,_,rfl,sc,hE,hb.mono (by omega),fun c=>?_,hn,hl,fun c=>?_,by omega⟩⟩⟩⟩⟩
   ·rw [tk,UC];exact hlk c
   ·rw [tk,ZaT rfl];exact hla c
  |taken x y d =>
   refine ⟨_,rfl,a,_,_,_,rfl,rfl,row,Zf (j:=0) rfl,rfl,_,rfl,Zt (by decide +kernel) ⟨_,rfl,a,_,_,_,rfl,rfl,row,Zf (j:=0) rfl,rfl,_,rfl,Yd (by decide +kernel) ⟨_,rfl,_,rfl,a,_,_,_,rfl,rfl,row,Zf (j:=1) rfl,_,rfl,a,_,_,_,rfl,rfl,row,Zf (j:=2) rfl,rfl,D,"T",x,y,ed,_,rfl,hE,hb,by omega,.inr (.inr rfl),fun H1 ed1 hE1 hb1 lk1 fr1=>?_⟩⟩⟩;have row1:=fr1.sqt hE row;obtain ⟨sc1,hn1⟩:=fr1.same sc nD hn;refine ⟨_,rfl,a,_,_,_,rfl,rfl,row1,Zf (j:=0) rfl,rfl,_,rfl,Zt (by decide +kernel) ⟨_,rfl,a,_,_,_,rfl,rfl,row1,Zf (j:=0) rfl,rfl,_,rfl,Zt (by decide +kernel) ⟨ed1,ls,_,_,_,_,_,rfl,sc1,hE1,hb1.mono (by omega),fun c=>?_,hn1,fr1.ls hE DlD hl,fun c=>?_,by omega⟩⟩⟩
   ·rw [tk,UC,lk1,show lk ed=Yo ((ks.take i).map (·.1)) from funext hlk];rfl
   ·rw [tk,ZaT rfl];exact hla c
  |union=>exact absurd rfl et
  |parted=>exact absurd rfl et
  |born n s d fa mo =>
   have row:SqT K Hc a [.str "born",.str n,.str s,.int d,.str fa,.str mo]:=row;have gt:GdL ns ((ks.take i).map (·.1)++[.born n s d fa mo]):=by rw [←tk,Nr];exact gd.take _
   obtain ⟨_,d5,_,fit⟩:=gt.last rfl
   have fresh:∀e∈(ks.take i).map (·.1),e.bornName≠some n:=fun e he z=>by
    cases e with
    |born n' s' d' f' m' =>
     cases z;exact fit.key _ (Qg.mpr ⟨_,he,rfl⟩) rfl
    |_=>cases z
   have nk:ZJ (s,n) ed=none:=ZiL hb (by rw [hlk];exact ZnR (Zhl d5.1) fresh);dsimp only [Z4];refine YI (fun σ Hx=>∃(ed:Ed) (v4 v5:Option V),σ=[some (.ref Le),some (.ref D),some (.ref Dl),some (.ref a),v4,v5,v6,v7]∧Same H Hx∧EdAt Hx D ed∧EdB ed (5*(i+1))∧(∀c,lk ed c=Yk (Yo ((ks.take i).map (·.1))) (.born n s d fa mo) c)∧(∀b∈ed.map (·.2.1),H b=none)∧LsAt K Hx Dl ls) (fun nx rest=>?_) ?_
   ·refine ⟨_,rfl,a,_,_,_,rfl,rfl,row,Zf (j:=0) rfl,rfl,_,rfl,Yd (by decide +kernel) ⟨_,rfl,a,_,_,_,rfl,rfl,row,Zf (j:=1) rfl,few rfl,fun z nz=>?_⟩⟩;have sz:=Zl (o:=.lst [.str n]) nz;refine ⟨_,rfl,_,rfl,a,_,_,_,rfl,rfl,(sz.sqt row),Zf (j:=2) rfl,_,rfl,a,_,_,_,rfl,rfl,(sz.sqt row),Zf (j:=1) rfl,few rfl,fun t nt=>?_⟩;have st:=Zl (o:=.tup [.str s,.str n]) nt;have szt:=sz.trans st;have ht1:Zb (Zb Hc z (.lst [.str n])) t (.tup [.str s,.str n]) t=some (.tup [.str s,.str n]):=Zg;have hz1:=st _ _ (Zg (H:=Hc) (a:=z) (o:=.lst [.str n]));generalize Zb (Zb Hc z (.lst [.str n])) t (.tup [.str s,.str n])=H1 at *;have hD1:=szt _ _ hE.d;refine ⟨D,_,rfl,DPut.t (k:=Zr (s,n)) hD1 ht1 (ZD (by rw [Qd];have:=hb.len;omega)),?_⟩;rw [VQ _ (by rw [VB,nk];rfl)];have zD:z≠D:=fun e=>by rw [e,hD1] at hz1;cases hz1
    obtain ⟨ed1,hE1,hb1,lk1,fr1⟩:=Zhh (H':=Zb H1 D (.dT (Xd ed++[(Zr (s,n),.ref z)]))) (xs:=[n]) hE hb nk nz (by simp) (by simp) Zg (by rw [Zh zD];exact hz1) (fun b u nb e=>by rw [Zh nb];exact szt _ _ e) (fun b hbn=>by
     by_cases e:b=D
     ·rw [e,Zg] at hbn;cases hbn
     ·rw [Zh e] at hbn;exact ZQ szt hbn)
    obtain ⟨sc1,hn1⟩:=fr1.same sc nD hn;have row1:=fr1.sqt hE row;have hl1:=fr1.ls hE DlD hl;generalize Zb H1 D (.dT (Xd ed++[(Zr (s,n),.ref z)]))=H2 at *;refine ⟨_,rfl,a,_,_,_,rfl,rfl,row1,Zf (j:=4) rfl,few rfl,fun t1 nt1=>?_⟩;have e1:=Zl (o:=.tup [.str "F",.str fa]) nt1;refine ⟨_,rfl,a,_,_,_,rfl,rfl,(e1.sqt row1),Zf (j:=5) rfl,few rfl,fun t2 nt2=>⟨few rfl,fun lp nlp=>?_⟩⟩;have e2:=Zl (o:=.tup [.str "M",.str mo]) nt2;have e3:=Zl (o:=.lst [.ref t1,.ref t2]) nlp;have ht1:=e3 _ _ (e2 _ _ (Zg (H:=H2) (a:=t1) (o:=.tup [.str "F",.str fa])));have ht2:=e3 _ _ (Zg (H:=Zb H2 t1 (.tup [.str "F",.str fa])) (a:=t2) (o:=.tup [.str "M",.str mo]));have e13:=(e1.trans e2).trans e3;have nlp1:=hE1.off (ZQ (e1.trans e2) nlp);refine ⟨lp,rfl,⟨_,.of Zg⟩,Wl (xs:=[.ref t1,.ref t2]) (fun j σ Hy=>∃(ed2:Ed) (v4 v5:Option V),σ=[some (.ref Le),some (.ref D),some (.ref Dl),some (.ref a),v4,v5,v6,v7]∧Same H Hy∧EdAt Hy D ed2∧EdB ed2 (5*i+1+2*j)∧(∀c,lk ed2 c=ZaN (Yo ((ks.take i).map (·.1))) n s fa mo j c)∧(∀b∈ed2.map (·.2.1),H b=none)∧LsAt K Hy Dl ls∧Hy lp=some (.lst [.ref t1,.ref t2])∧lp∉ed2.map (·.2.1)∧SqT K Hy t1 [.str "F",.str fa]∧SqT K Hy t2 [.str "M",.str mo]∧SqT K Hy a [.str "born",.str n,.str s,.int d,.str fa,.str mo]) ?st ?li ?tu ?dn⟩
    case st=>exact ⟨ed1,v4,v5,rfl,sc1.trans e13,hE1.mono e13,hb1,fun c=>by rw [lk1];show _=Z8 _ s n c;unfold Z8;rw [hlk],hn1,hl1.mono e13,Zg,nlp1,.of ht1,.of ht2,e13.sqt row1⟩
    case li =>
     rintro j σ Hy _ ⟨ed2,v4,v5,rfl,_,_,_,_,_,_,hlp,_⟩;exact .of hlp
    case dn =>
     rintro σ Hy ⟨ed2,v4,v5,rfl,sy,hE2,hb2,lk2,hn2,hl2,_⟩;exact rest _ _ ⟨ed2,v4,v5,rfl,sy,hE2,hb2.mono (by simp;omega),lk2,hn2,hl2⟩
    case tu =>
     rintro j x σ Hy hx ⟨ed2,v4,v5,rfl,sy,hE2,hb2,lk2,hn2,hl2,hlp,nlp2,h1,h2,h3⟩
     have pick:∃tq L l' pr,x=.ref tq∧SqT K Hy tq [.str L,.str pr]∧(L="F"∨L="M"∨L="T")∧ZaX L=l'∧j≤1∧ZaN (Yo ((ks.take i).map (·.1))) n s fa mo (j+1)=Z0 L l' n pr (ZaN (Yo ((ks.take i).map (·.1))) n s fa mo j):=by
      match j,hx with
      |0,hx=>exact ⟨t1,"F","f",fa,(Qt hx).symm,h1,.inl rfl,by decide +kernel,by omega,rfl⟩
      |1,hx=>exact ⟨t2,"M","m",mo,(Qt hx).symm,h2,.inr (.inl rfl),by decide +kernel,by omega,rfl⟩
     obtain ⟨tq,L,l',pr,rfl,hq,hL,el,j1,eb⟩:=pick;refine ⟨tq,_,rfl,hq,rfl,_,_,rfl,_,_,rfl,rfl,?_⟩;refine ⟨_,rfl,rfl,_,rfl,?_⟩;by_cases e0:pr=""
     ·refine Zt (by rw [e0];decide +kernel) ⟨ed2,_,_,rfl,sy,hE2,hb2.mono (by omega),fun c=>?_,hn2,hl2,hlp,nlp2,h1,h2,h3⟩;rw [eb];unfold Z0;rw [Qc e0];exact lk2 c
     ·refine Yd (by show (!decide (V.str pr=V.str ""))=true;rw [Qk (fun z=>e0 (V.str.inj z))];rfl) ⟨_,rfl,_,rfl,_,rfl,a,_,_,_,rfl,rfl,h3,Zf (j:=1) rfl,_,rfl,rfl,D,L,n,pr,ed2,_,rfl,hE2,hb2,by omega,hL,fun H4 ed4 hE4 hb4 lk4 fr4=>?_⟩;obtain ⟨s4,hn4⟩:=fr4.same sy nD hn2;refine ⟨ed4,_,_,rfl,s4,hE4,hb4.mono (by omega),fun c=>?_,hn4,fr4.ls hE2 DlD hl2,fr4.fr _ _ (fun z=>by rw [z,hE2.d] at hlp;cases hlp) nlp2 hlp,(fun m=>(fr4.gr _ m).elim nlp2 fun z=>by rw [hlp] at z;cases z),fr4.sqt hE2 h1,fr4.sqt hE2 h2,fr4.sqt hE2 h3⟩;rw [lk4,eb,el,show lk ed2=ZaN (Yo ((ks.take i).map (·.1))) n s fa mo j from funext lk2];unfold Z0;rw [Qa e0]
   ·rintro σ Hx ⟨ed1,w4,w5,rfl,sx,hE1,hb1,lk1,hn1,hl1⟩;have rowx:=sx.sqt (hR _ (QP hp));refine ⟨_,rfl,a,_,_,_,rfl,rfl,rowx,Zf (j:=0) rfl,rfl,_,rfl,Zt (by decide +kernel) ⟨_,rfl,a,_,_,_,rfl,rfl,rowx,Zf (j:=0) rfl,rfl,_,rfl,Zt (by decide +kernel) ⟨_,rfl,a,_,_,_,rfl,rfl,rowx,Zf (j:=0) rfl,rfl,_,rfl,Zt (by decide +kernel) ⟨ed1,ls,_,_,_,_,_,rfl,sx,hE1,hb1,fun c=>?_,hn1,hl1,fun c=>?_,by omega⟩⟩⟩⟩
    ·rw [tk,UC];exact lk1 c
    ·rw [tk,ZaT rfl];exact hla c
 case done =>
  rintro σ Hc ⟨ed,ls,v3,v4,v5,v6,v7,rfl,sc,hE,hb,hlk,hn,hl,hla,ll⟩;rw [V8,Re] at hlk hla;rw [V8] at hb ll;refine ⟨Dl,Xj ls,hl.d,_,rfl,.inr (.inr (.inl ⟨rfl,.inr ⟨_,hl.d⟩⟩)),Dl,_,rfl,rfl,hl.d,fun r nr=>⟨r,Dl,_,rfl,Zg,(Zl nr) _ _ hl.d,fun o=>?_⟩⟩;have sr:=Zl (o:=.ext (VY r Dl)) nr;have hd1:=sr _ _ hl.d;have up:∀{b:Addr} {u:HO},b≠Dl->Hc b=some u->Zb (Zb Hc r (.ext (VY r Dl))) Dl (.frz o (.dT (Xj ls))) b=some u:=fun nb e=>by rw [Zh nb];exact sr _ _ e
  refine ZkK (kvs:=Xj ls) (fun i σ Hy=>∃(ed:Ed) (v6 v7:Option V),σ=[some (.ref Le),some (.ref D),some (.ref Dl),v3,v4,v5,v6,v7]∧Same H Hy∧EdAt Hy D ed∧EdB ed (200+2*i)∧(∀c,lk ed c=(ls.take i).foldl Y2 (Yo (ks.map (·.1))) c)∧(∀b∈ed.map (·.2.1),H b=none)∧Hy Dl=some (.frz o (.dT (Xj ls)))∧∀q∈ls,SqT K Hy q.2.1 [.int q.2.2.1,.str q.2.2.2]) ?st ?li ?tu ?dn
  case st=>exact ⟨ed,_,_,rfl,fun b u e=>up (fun z=>by rw [z,nDlH] at e;cases e) (sc _ _ e),⟨up DlD.symm hE.d,fun q hq=>up (fun z=>by have:=hE.l q hq;rw [z,hl.d] at this;cases this) (hE.l q hq),hE.an,hE.kn⟩,hb.mono (by omega),hlk,hn,Zg,fun q hq=>YH (sr.sqt (hl.t q hq)) hd1 (fun _ z=>by cases z) (fun _ _ z=>by cases z)⟩
  case li =>
   rintro i σ Hy _ ⟨ed,v6,v7,rfl,_,_,_,_,_,hDl,_⟩;exact hDl
  case dn =>
   rintro σ Hy ⟨ed,v6,v7,rfl,sy,hE,hb,hlk,hn,hDl,ht⟩;have ll2:(Xj ls).length=ls.length:=Qd ..;rw [ll2,Re] at hlk;refine ⟨o,hDl,_,rfl,q _ D ed ls (fun b u e=>?_) nD ⟨?_,fun q hq=>?_,hE.an,hE.kn⟩ (hb.mono (by omega)) hl.kn hla hlk⟩
   ·rw [Zh (fun z=>by rw [z,nDlH] at e;cases e)];exact sy _ _ e
   ·rw [Zh DlD.symm];exact hE.d
   ·rw [Zh (fun z=>by have:=hE.l q hq;rw [z,hDl] at this;cases this)];exact hE.l q hq
  case tu =>
   rintro i pr T c σ Hy hpr ⟨ed,v6,v7,rfl,sy,hE,hb,hlk,hn,hDl,ht⟩ nT hc;rw [Qu] at hpr;obtain ⟨q1,hq1,rfl⟩:=QL.mp hpr;have mq:=QP hq1;have il:=(QF.mp hq1).1;have tkq:ls.take (i+1)=ls.take i++[q1]:=by rw [Ro,hq1];rfl
   have sT:=Zl (o:=.tup [.ref c,.ref q1.2.1]) nT;refine ⟨T,_,rfl,.of Zg,rfl,_,_,rfl,_,_,rfl,rfl,?_⟩;have hc2:SqT K (Zb Hy T (.tup [.ref c,.ref q1.2.1])) c [.str q1.1.1,.str q1.1.2]:=sT.sqt (.of hc);have hE2:=hE.mono sT;have hDl2:=sT _ _ hDl;have ht2:∀q∈ls,SqT K (Zb Hy T (.tup [.ref c,.ref q1.2.1])) q.2.1 [.int q.2.2.1,.str q.2.2.2]:=fun q hq=>sT.sqt (ht q hq);have s2:=sy.trans sT;generalize Zb Hy T (.tup [.ref c,.ref q1.2.1])=H2 at *;refine ⟨_,rfl,q1.2.1,_,_,_,rfl,rfl,ht2 q1 mq,Zf (j:=1) rfl,rfl,_,rfl,?_⟩;have fs:∀c,(ls.take (i+1)).foldl Y2 (Yo (ks.map (·.1))) c=Y2 ((ls.take i).foldl Y2 (Yo (ks.map (·.1)))) q1 c:=fun c=>by rw [tkq,GP];rfl
   by_cases eu:q1.2.2.2="union"
   ·refine Yd (Ql (by rw [eu])) ?_;refine YI (fun σ Hx=>σ=[some (.ref Le),some (.ref D),some (.ref Dl),v3,v4,v5,some (.ref c),some (.ref q1.2.1)]∧VU D ed (200+2*i) ("S",q1.1.1) q1.1.2 H2 Hx) (fun nx rest=>?_) ?_
    ·refine ⟨_,rfl,D,rfl,.inr ⟨_,.inl hE2.d⟩,_,rfl,c,_,_,_,rfl,rfl,hc2,Zf (j:=0) rfl,few rfl,fun t nt=>⟨few rfl,fun z nz=>?_⟩⟩;have st:=Zl (o:=.tup [.str ((("S",q1.1.1):Str×Str)).1,.str ((("S",q1.1.1):Str×Str)).2]) nt;have sz:=Zl (o:=.lst []) nz;obtain ⟨hD2,ln2,old,new⟩:=Za4 (c:=(("S",q1.1.1):Str×Str)) (x:=q1.1.2) hE2 hb (by omega) (st.trans sz) (ZQ st nz) Zg;refine ⟨Xd ed,Zr (("S",q1.1.1):Str×Str),t,hD2,rfl,sz _ _ Zg,ln2,fun v hv=>?_,fun hv=>?_⟩
     ·obtain ⟨b,xs,rfl,hb2,lx,add⟩:=old v hv;exact ⟨.inl ⟨rfl,_,.of hb2⟩,_,rfl,c,_,_,_,rfl,rfl,(st.trans sz).sqt hc2,Zf (j:=1) rfl,b,_,_,rfl,rfl,hb2,lx,rest _ _ ⟨rfl,add⟩⟩
     ·obtain ⟨hz3,add⟩:=new hv;exact ⟨.inl ⟨rfl,_,.of hz3⟩,_,rfl,c,_,_,_,rfl,rfl,YH ((st.trans sz).sqt hc2) hD2 (fun _ z=>by cases z) (fun _ _ z=>by cases z),Zf (j:=1) rfl,z,_,_,rfl,rfl,hz3,ZD (by simp),rest _ _ ⟨rfl,add⟩⟩
    ·rintro σ H3 ⟨rfl,ed3,hE3,hb3,lk3,fr3⟩;have hc3:=fr3.sqt hE2 hc2
     have fin:∀H',VU D ed3 (200+2*i+1) ("S",q1.1.2) q1.1.1 H3 H'->∃(ed:Ed) (v6 v7:Option V),[some (.ref Le),some (.ref D),some (.ref Dl),v3,v4,v5,some (.ref c),some (.ref q1.2.1)]=[some (.ref Le),some (.ref D),some (.ref Dl),v3,v4,v5,v6,v7]∧Same H H'∧EdAt H' D ed∧EdB ed (200+2*(i+1))∧(∀c,lk ed c=(ls.take (i+1)).foldl Y2 (Yo (ks.map (·.1))) c)∧(∀b∈ed.map (·.2.1),H b=none)∧H' Dl=some (.frz o (.dT (Xj ls)))∧∀q∈ls,SqT K H' q.2.1 [.int q.2.2.1,.str q.2.2.2]:=fun H' ⟨ed4,hE4,hb4,lk4,fr4⟩=>by
      have fr:=fr3.trans fr4;obtain ⟨s4,hn4⟩:=fr.same s2 nD hn;refine ⟨ed4,_,_,rfl,s4,hE4,hb4,fun c=>?_,hn4,fr.oth hE2 DlD hDl2 (fun _ z=>by cases z),fun q hq=>fr.sqt hE2 (ht2 q hq)⟩;rw [lk4,fs,show lk ed3=ZS (lk ed) ("S",q1.1.1) q1.1.2 from funext lk3,show lk ed=(ls.take i).foldl Y2 (Yo (ks.map (·.1))) from funext hlk];unfold Y2;rw [Qc eu]
     refine ⟨_,rfl,D,rfl,.inr ⟨_,.inl hE3.d⟩,_,rfl,c,_,_,_,rfl,rfl,hc3,Zf (j:=1) rfl,few rfl,fun t nt=>⟨few rfl,fun z nz=>?_⟩⟩;have st:=Zl (o:=.tup [.str ((("S",q1.1.2):Str×Str)).1,.str ((("S",q1.1.2):Str×Str)).2]) nt;have sz:=Zl (o:=.lst []) nz;obtain ⟨hD2,ln2,old,new⟩:=Za4 (c:=(("S",q1.1.2):Str×Str)) (x:=q1.1.1) hE3 hb3 (by omega) (st.trans sz) (ZQ st nz) Zg;refine ⟨Xd ed3,Zr (("S",q1.1.2):Str×Str),t,hD2,rfl,sz _ _ Zg,ln2,fun v hv=>?_,fun hv=>?_⟩
     ·obtain ⟨b,xs,rfl,hb2,lx,add⟩:=old v hv;exact ⟨.inl ⟨rfl,_,.of hb2⟩,_,rfl,c,_,_,_,rfl,rfl,(st.trans sz).sqt hc3,Zf (j:=0) rfl,b,_,_,rfl,rfl,hb2,lx,fin _ add⟩
     ·obtain ⟨hz3,add⟩:=new hv;exact ⟨.inl ⟨rfl,_,.of hz3⟩,_,rfl,c,_,_,_,rfl,rfl,YH ((st.trans sz).sqt hc3) hD2 (fun _ z=>by cases z) (fun _ _ z=>by cases z),Zf (j:=0) rfl,z,_,_,rfl,rfl,hz3,ZD (by simp),fin _ add⟩
   ·refine Zt (Qk (fun z=>eu (V.str.inj z))) ⟨ed,_,_,rfl,s2,hE2,hb.mono (by omega),fun c=>?_,hn,hDl2,ht2⟩;rw [fs];unfold Y2;rw [Qa eu];exact hlk c
theorem Zjt (T:Tx K w mg)  : Zd9 P base T:=by
 refine Fun.okX (k:=0) T.ZaY.F Zho (fun vs H Q E h=>h.1) (fun cdv A outer s H vs Q E hr h=>?_);obtain ⟨-,h⟩:=h;obtain ⟨l,m,xs,rfl,hl,hm,l100,q⟩:=h
 refine ⟨_,(Zj (ZH (PW.pt (Xp (Xc (YX (Xl K (by rfl) T.n_isinstance (Za (pv 0) (Za (Xv (v:=.ty "list") (by rfl) T.n_list UR rfl) Zc))))) (X0 (ZA Wv (ZO YO (by rfl) T.n_len Yp (Za (pv 0) Zc)) (ZO YO (by rfl) T.n_len Yp (Za (pv 1) Zc)) (Zu _))))) (Zk (Zv YW)) ZK)
   (Zj (YM QI rfl (VJ (by rfl) T.n_range (Za (ZO YO (by rfl) T.n_len Yp (Za (pv 1) Zc)) Zc)) (ZY (i:=2) Zho.nd rfl (Or.inl rfl))
    (Zk (ZH (PW.pt (Xp (Xc (YX (Xl K (by rfl) T.n_isinstance (Za (Zm Ys (pv 0) (pv 2) (fun _ _=>rfl)) (Za (Xv (v:=.ty "str") (by rfl) T.n_str WB rfl) Zc))))) (X0 (ZA Wv (Zm Ys (pv 0) (pv 2) (fun _ _=>rfl)) (Zm Ys (pv 1) (pv 2) (fun _ _=>rfl)) (Zu _))))) (Zk (Zv YW)) ZK)))
   (Zk (Zv YW)))),?_⟩
 have ln:(xs.map V.str).length=xs.length:=Qd ..;refine ⟨_,rfl,_,.ty "list",_,_,rfl,rfl,.sql hl,T.kl_list,_,rfl,ZT ⟨_,rfl,l,_,rfl,.inl hl,_,rfl,m,_,rfl,.inl hm,rfl,_,rfl,?_⟩⟩;rw [Ql rfl];refine ZT ⟨_,rfl,m,_,rfl,.inl hm,_,rfl,by omega,by rw [ln];omega,UG (fun i σ Hc=>Hc=H∧∃v,σ=[some (.ref l),some (.ref m),v]) ⟨rfl,_,rfl⟩ ?_ ?_⟩
 ·rintro i σ Hc hi ⟨rfl,v,rfl⟩;have il:i<xs.length:=by rw [ln] at hi;omega
  have hx:Yu (xs.map V.str) (0+(i:Int))=some (.str xs[i]):=by rw [Go];exact XI (by rw [Qu,Qz il];rfl)
  refine ⟨_,rfl,_,rfl,l,_,_,_,rfl,rfl,hl,hx,_,.ty "str",_,_,rfl,rfl,.of (.str _),T.k_str_str,_,rfl,ZT ⟨_,rfl,_,rfl,l,_,_,_,rfl,rfl,hl,hx,_,rfl,_,rfl,m,_,_,_,rfl,rfl,hm,hx,rfl,_,rfl,?_⟩⟩;rw [Ql rfl];exact ZT ⟨rfl,_,rfl⟩
 ·rintro σ Hc ⟨rfl,v,rfl⟩;exact q
theorem Zm6 (T:Tx K w mg)  : Zeu P base T:=by
 refine Fun.okX (k:=0) T.ZaC.F Jd (fun vs H Q E h=>h.1) (fun cdv A outer s H vs Q E hr h=>?_);obtain ⟨-,h⟩:=h;obtain ⟨c,k,rfl,k0,k1,q⟩:=h
 refine ⟨_,(Zj (ZH (ZA ZX (Zq Z6 (pv 0) Ze) Ze (Zu _)) (Zj (ZF (i:=2) Jd.nd rfl (Or.inl rfl) (Zq Y0 (pv 0) Ze))
   (Zj (YM QI rfl (VJ (by rfl) T.n_range (Za (Zq Z6 (pv 1) Ze) Zc)) (ZY (i:=3) Jd.nd rfl (Or.inl rfl))
    (Zk (ZF (i:=2) Jd.nd rfl (Or.inl rfl) (Zq Y0 (pv 2) (Zq X7 Ze Ze)))))
   (Zk (Zv (Zq Z6 (pv 2) (Zq X7 Ze Ze)))))) ZK)
   (Zj (ZF (i:=2) Jd.nd rfl (Or.inl rfl) (Zq Z6 (Zq W4 (Zq Xx (Zq Xx (pv 0) (Zq ZaQ (Zq W4 Ze (pv 1)) (pv 1))) Ze) Ze) Ze))
   (Zk (Zv (Zq Z6 (Zq ZaQ (pv 2) (pv 2)) Ze))))),?_⟩
 have p24:(10:Int) ^ (24:Int).toNat=10 ^ 24:=rfl;have c24:W0 10 24:=⟨by decide,by decide,by decide⟩;unfold ZaH at q;refine ⟨_,rfl,_,_,rfl,rfl,Yn (by decide),rfl,_,rfl,Yy (fun h1=>?_) (fun h1=>?_)⟩
 ·have h1':c.fmod 2=0:=by simpa [Yq] using h1
  rw [Qc h1'] at q;have k16:=QN k (show (0:Int)<16 by decide);refine ⟨_,rfl,_,_,rfl,rfl,⟨by decide,YE (by decide) (by decide)⟩,_,rfl,_,_,rfl,rfl,Yn (by decide),_,rfl,?_,?_,UG (fun i σ Hc=>Hc=H∧∃(n:Int) (v:Option V),σ=[some (.int c),some (.int k),some (.int n),v]∧∃m,m+i=(k.fmod 16).toNat∧Zaz m n=Zaz (k.fmod 16).toNat (c.fdiv 2)) ⟨rfl,_,_,rfl,_,rfl,rfl⟩ ?_ ?_⟩
  ·omega
  ·have:=Q3 k (show (0:Int)<16 by decide);omega
  ·rintro i σ Hc hi ⟨rfl,n,v,rfl,m,hm,e⟩;obtain ⟨m,rfl⟩:∃m',m=m'+1:=⟨m-1,by omega⟩;exact ⟨_,rfl,_,_,rfl,rfl,c24,_,_,rfl,rfl,⟨by decide,YE (by decide) (by decide)⟩,rfl,_,_,rfl,m,by omega,e⟩
  ·rintro σ Hc ⟨rfl,n,v,rfl,m,hm,e⟩;obtain rfl:m=0:=by omega
   rw [←e] at q;exact ⟨_,rfl,_,_,rfl,rfl,c24,_,_,rfl,rfl,Yn (by decide),q⟩
 ·have h1':¬c.fmod 2=0:=by simpa [Yq] using h1
  rw [Qa h1'] at q;have m0:=QN ((c+7919*k*k+1)*48271) (show (0:Int)<2147483647 by decide);have m1:=Q3 ((c+7919*k*k+1)*48271) (show (0:Int)<2147483647 by decide);exact ⟨_,rfl,_,rfl,_,_,rfl,rfl,.inl ⟨by decide,by decide⟩,_,rfl,_,_,rfl,rfl,⟨YE (by omega) (by omega),YE (by omega) (by omega)⟩,_,_,rfl,rfl,_,_,rfl,rfl,_,_,rfl,rfl,.inr ⟨by decide,by decide⟩,_,_,rfl,rfl,Yn (by decide),_,rfl,_,rfl,_,_,rfl,rfl,⟨YE (by omega) (by omega),YE (by omega) (by omega)⟩,_,_,rfl,rfl,Yn (by decide),q⟩
theorem ZmQ (T:Tx K w mg) (ZcX:Zeu P base T):Zgx P base T:=by
 refine Fun.okX (k:=1) T.Zaq.F VA (fun vs H Q E h=>h.1) (fun cdv A outer s H vs Q E hr h=>?_);obtain ⟨-,h⟩:=h;obtain ⟨u,l,c,ps,rfl,hl,nd,pl,q⟩:=h
 refine ⟨_,(Zj (ZF (i:=3) VA.nd rfl (Or.inl rfl) Vg)
   (Zj (YM QI rfl (VJ (by rfl) T.n_range (Za (ZO YO (by rfl) T.n_len Yp (Za (pv 1) Zc)) Zc)) (ZY (i:=4) VA.nd rfl (Or.inl rfl))
    (Zj (ZF (i:=5) VA.nd rfl (Or.inl rfl) (ZW ZcX hr ZB (Za (pv 2) (Za (Zq Xx Ze (pv 4)) Zc))))
   (Zj (ZF (i:=6) VA.nd rfl (Or.inl rfl) (Yt Zc))
   (Zj (YM QI rfl (Xe (pv 1)) (ZY (i:=7) VA.nd rfl (Or.inl rfl))
    (Zj (ZH (ZA ZX (Zq Z6 (pv 5) Ze) Ze (Zu _)) (Zk (Yr (Wi Rp Rq Rr X4 (pv 6) (Za (pv 7) Zc)))) ZK)
   (Zk (ZF (i:=5) VA.nd rfl (Or.inl rfl) (Zq Y0 (pv 5) Ze)))))
   (Zk (Xs (ZV hr) (pv 3) (Zm Ys (pv 1) (pv 4) (fun _ _=>rfl)) (ZO (J9 K) (by rfl) T.n_sorted Wx (Za (pv 6) Zc)) rfl))))))
   (Zk (Zv (ZnM (Zob (pv 0) (pv 3) Zj4) rfl rfl (by simp) (by decide)))))),?_⟩
 refine fun d nd'=>?_;have sd:=Zl (o:=.dK []) nd';refine ⟨_,rfl,l,_,rfl,.inl (sd.sql hl),_,rfl,by omega,by rw [Qd];omega,UG (fun i σ Hc=>∃(rs:Ws) (v4 v5 v6 v7:Option V),σ=[some (.str u),some (.ref l),some (.int c),some (.ref d),v4,v5,v6,v7]∧Same H Hc∧Hc d=some (.dK (Xg rs))∧(∀r∈rs,r.2.1≠d∧Hc r.2.1=some (.lst (r.2.2.map V.str)))∧Xm rs=(List.range i).map fun k=>(ps.getD k "",WO ps c k)) ⟨[],_,_,_,_,rfl,sd,Zg,fun r hr=>(by cases hr),rfl⟩ ?turn ?done⟩
 case done =>
  rintro σ Hc ⟨rs,v4,v5,v6,v7,rfl,sc,hd,hr,er⟩;rw [Qd] at er;have keys:rs.map (·.1)=ps:=by rw [Zg5,er];exact (Zd1 (Qf _)).trans (Re ..)
  refine fun t nt=>⟨_,rfl,_,rfl,Zg,[(.inr u,.ref d)],rfl,QC rfl,?_⟩
  have sA:Same Hc (Zb (Zb Hc t (.dK [])) t (.dK (V9 [] [(.inr u,.ref d)]))):=fun b o e=>by
   rw [Zh (ZU e nt),Zh (ZU e nt)];exact e
  exact q _ (.ref t) d rs (sc.trans sA) ⟨t,rfl,Zg,sA _ _ hd,fun r h=>sA _ _ (hr r h).2,by rw [keys];exact nd⟩ er
 case turn =>
 rintro i σ Hc hi ⟨rs,v4,v5,v6,v7,rfl,sc,hd,hr,er⟩;have il:i<ps.length:=by rw [Qd] at hi;omega
 obtain ⟨p,hp⟩:∃p,ps[i]?=some p:=⟨_,Qz il⟩;rw [show (0:Int)+(i:Int)=i from Go _];refine ⟨_,rfl,_,rfl,_,_,rfl,rfl,rfl,c,1+(i:Int),rfl,by omega,by omega,?_⟩;obtain ⟨z,ez⟩:∃z,z=ZaH c (1+(i:Int)):=⟨_,rfl⟩;rw [←ez];dsimp only [Z4];refine ⟨few rfl,fun S nS=>?_⟩;have sS:=Zl (o:=.lst []) nS;have nr:∀r∈rs,r.2.1≠S:=fun r h z=>by rw [←z,(hr r h).2] at nS;cases nS
 have dS:d≠S:=fun z=>by rw [←z,hd] at nS;cases nS
 have nSH:=ZQ sc nS;dsimp only [Z4];refine ⟨_,rfl,l,rfl,⟨_,(sc.trans sS).sql hl⟩,Wl (xs:=ps.map V.str) (fun j σ Hj=>∃v7:Option V,σ=[some (.str u),some (.ref l),some (.int c),some (.ref d),some (.int i),some (.int (X5 z j)),some (.ref S),v7]∧Same H Hj∧Hj d=some (.dK (Xg rs))∧(∀r∈rs,Hj r.2.1=some (.lst (r.2.2.map V.str)))∧Hj S=some (.lst ((Xb z (ps.take j)).map V.str))) ?st ?li ?tu ?dn⟩
 case st=>exact ⟨_,rfl,sc.trans sS,sS _ _ hd,fun r h=>sS _ _ (hr r h).2,Zg⟩
 case li =>
  rintro j σ Hj _ ⟨v7,rfl,sj,_⟩;exact sj.sql hl
 case tu =>
  rintro j y σ Hj hy ⟨v7,rfl,sj,hdj,hrj,hSj⟩;obtain ⟨p1,hp1,rfl⟩:=VL hy;have jl:=(QF.mp hp1).1;have tk:ps.take (j+1)=ps.take j++[p1]:=by rw [Ro,hp1];rfl
  have sn:=ZfD z (ps.take j) p1;rw [QZ,Nat.min_eq_left (QY jl),←tk] at sn;have lS:=Zac z (ps.take j);rw [QZ] at lS;dsimp only [Z4];refine YI (fun σ Hx=>σ=[some (.str u),some (.ref l),some (.int c),some (.ref d),some (.int i),some (.int (X5 z j)),some (.ref S),some (.str p1)]∧Same H Hx∧Hx d=some (.dK (Xg rs))∧(∀r∈rs,Hx r.2.1=some (.lst (r.2.2.map V.str)))∧Hx S=some (.lst ((Xb z (ps.take (j+1))).map V.str))) (fun nx rest=>?_) ?_
  ·refine ⟨_,rfl,_,_,rfl,rfl,Yn (by decide),rfl,_,rfl,Yy (fun h1=>?_) (fun h1=>?_)⟩
   ·have h1':(X5 z j).fmod 3=0:=by simpa [Yq] using h1
    rw [Qc h1'] at sn;refine ⟨_,rfl,.inl ⟨rfl,_,.of hSj⟩,_,rfl,S,_,_,rfl,rfl,hSj,ZD (by rw [Qd];omega),rest _ _ ⟨rfl,fun b u e=>?_,by rw [Zh dS];exact hdj,fun r h=>by rw [Zh (nr r h)];exact hrj r h,by rw [sn,Qp];exact Zg⟩⟩;rw [Zh (ZU e nSH)];exact sj b u e
   ·have h1':¬(X5 z j).fmod 3=0:=by simpa [Yq] using h1
    rw [Qa h1',Qo] at sn;exact rest _ _ ⟨rfl,sj,hdj,hrj,by rw [sn];exact hSj⟩
  rintro σ Hx ⟨rfl,sx,hdx,hrx,hSx⟩;exact ⟨_,rfl,_,_,rfl,rfl,⟨by decide,YE (by decide) (by decide)⟩,_,by rw [ZdZ];rfl,sx,hdx,hrx,hSx⟩
 case dn =>
 rintro σ Hj ⟨v7,rfl,sj,hdj,hrj,hSj⟩;rw [Qd,Re] at hSj;have lS:=Zac z ps;have keys:rs.map (·.1)=ps.take i:=by rw [Zg5,er];exact Zd1 (QY il)
 have np:p∉rs.map (·.1):=fun m=>by
  rw [keys] at m;obtain ⟨k,hk⟩:=List.getElem?_of_mem m;have kl:=(QF.mp hk).1;rw [QZ] at kl;rw [NB (by omega)] at hk;have:=(List.getElem?_inj (by omega) nd).mp (hk.trans hp.symm);omega
 have tl:(Xg rs).length≤60:=by
  have:=Qq List.length keys;unfold Xg;rw [Qd,QZ] at this;rw [Qd];omega
 refine ⟨_,rfl,S,_,rfl,.of hSj,by omega,fun D7 zs nD7 hp7 hs7=>?_⟩;have s7:=Zl (o:=.lst (zs.map V.str)) nD7;have D7d:D7≠d:=fun z=>by rw [z,hdj] at nD7;cases nD7
 refine ⟨_,rfl,_,rfl,_,rfl,l,_,_,_,rfl,rfl,(sj.trans s7).sql hl,ZgP hp,d,_,rfl,DPut.k (k:=.inr p) (s7 _ _ hdj) (ZD (by omega)),?_⟩;rw [ZoO np D7 zs];refine ⟨rs++[(p,D7,zs)],_,_,_,_,rfl,fun b u e=>?_,Zg,fun r h=>?_,?_⟩
 ·rw [Zh (ZU e nd')];exact s7 _ _ (sj b u e)
 ·rcases Qn.mp h with h|h
  ·exact ⟨(hr r h).1,by rw [Zh (hr r h).1];exact s7 _ _ (hrj r h)⟩
  ·rw [QV.mp h];exact ⟨D7d,by rw [Zh D7d];exact Zg⟩
 ·rw [Nt,Qp,←er];unfold Xm;rw [Qp];show _++[(p,zs)]=_++[(ps.getD i "",WO ps c i)];rw [show ps.getD i ""=p by rw [Nw,hp];rfl,show zs=WO ps c i by unfold WO;rw [←ez];exact Ju hp7 hs7]
theorem ZkP (T:Tx K w mg) (ZbC:ZgV P base T) (Zcz:Zfo P base T) (ZcY:ZgH P base T):Zfe P base T:=by
 refine Fun.okX (k:=2) T.Zae.F Zfl (fun vs H Q E h=>h.1) (fun cdv A outer s H vs Q E hr h=>?_);obtain ⟨-,h⟩:=h;obtain ⟨c,u,rfl,ul,q⟩:=h
 refine ⟨_,(Zj (ZF (i:=2) Zfl.nd rfl (Or.inl rfl) (Yt (Za Zs (Za Zs (Za Zs (Za Zs (Za Zs (Za Zs (Za Zs (Za Zs (Za Zs Zc)))))))))))
   (Zj (ZH (ZA WA (Zq Z6 (pv 0) Ze) Ze (Zu _)) (Zk (Zv (Yt (Za (Zdp T.mk_Said ZcY (hr.mono (by decide)) (by rfl) T.m_Said T.V3.b .nil ZB (Za (pv 1) Zc)) (Za (Zq ZaI Zs (pv 1)) Zc))))) ZK)
   (Zj (ZH (ZA WA (Zq Z6 (pv 0) Ze) Ze (Zu _)) (Zk (Zv (Yt (Za (Zdp T.mk_Test Zcz (hr.mono (by decide)) (by rfl) T.m_Test T.Ua.b .nil ZB (Za (Zm Ys (pv 2) (Zq Z6 (pv 0) Ze) (fun _ _=>rfl)) Zc)) (Za (Zm Ys (pv 2) (Zq Z6 (pv 0) Ze) (fun _ _=>rfl)) Zc))))) ZK)
   (Zk (Zv (Yt (Za (Zdp T.mk_Letter ZbC (hr.mono (by decide)) (by rfl) T.m_Letter T.VX.b .nil ZB (Za (Zm Ys (pv 2) (Zq Z6 (pv 0) Ze) (fun _ _=>rfl)) Zc)) (Za (Zm Ys (pv 2) (Zq Z6 (pv 0) Ze) (fun _ _=>rfl)) Zc)))))))),?_⟩
 refine ⟨few rfl,fun L nL=>?_⟩;have sL:=Zl (o:=.lst (Yb.map V.str)) nL;have hL:Zb H L (.lst (Yb.map V.str)) L=some (.lst (Yb.map V.str)):=Zg;refine ⟨_,rfl,_,_,rfl,rfl,Yn (by decide),_,_,rfl,rfl,_,rfl,Yy (fun h1=>?_) (fun h1=>?_)⟩
 ·refine ⟨_,rfl,fun a dx na nd ne=>⟨rfl,a,dx,u,rfl,Zg,rfl,_,rfl,_,_,rfl,rfl,(by have:=ZcI;show 1+u.length≤_;omega),few rfl,fun D nD=>?_⟩⟩;have sm:=(made (C:=T.c_Said) (fs:=[("word",.str u)]) na nd);exact q _ D (.ref a) _ (sL.trans (sm.trans (Zl nD))) Zg (.inr ⟨rfl,a,dx,rfl,Zl nD _ _ Zg⟩)
 have c8:c.fmod 11≤8:=by have:=Rg h1;omega
 obtain ⟨s,s9,ea⟩:=Zoa c c8;refine ⟨_,rfl,_,_,rfl,rfl,Yn (by decide),_,_,rfl,rfl,_,rfl,Yy (fun h2=>?_) (fun h2=>?_)⟩
 ·refine ⟨_,rfl,_,rfl,_,_,rfl,rfl,Yn (by decide),L,_,_,_,rfl,rfl,.of hL,ea,fun a dx na nd ne=>⟨rfl,a,dx,s,rfl,Zg,rfl,?_⟩⟩;have sm:=(made (C:=T.c_Test) (fs:=[("wanted",.str s)]) na nd);refine ⟨_,rfl,_,rfl,_,_,rfl,rfl,Yn (by decide),L,_,_,_,rfl,rfl,.of (sm _ _ hL),ea,few rfl,fun D nD=>?_⟩;exact q _ D (.ref a) s (sL.trans (sm.trans (Zl nD))) Zg (.inl ⟨s9,a,dx,rfl,.inr (Zl nD _ _ Zg)⟩)
 ·refine ⟨_,rfl,_,rfl,_,_,rfl,rfl,Yn (by decide),L,_,_,_,rfl,rfl,.of hL,ea,fun a dx na nd ne=>⟨rfl,a,dx,s,rfl,Zg,rfl,?_⟩⟩;have sm:=(made (C:=T.c_Letter) (fs:=[("letter",.str s)]) na nd);refine ⟨_,rfl,_,rfl,_,_,rfl,rfl,Yn (by decide),L,_,_,_,rfl,rfl,.of (sm _ _ hL),ea,few rfl,fun D nD=>?_⟩;exact q _ D (.ref a) s (sL.trans (sm.trans (Zl nD))) Zg (.inl ⟨s9,a,dx,rfl,.inl (Zl nD _ _ Zg)⟩)
theorem ZoE (T:Tx K w mg) (Ut:ZbD P base T) (JJ:Ze1 P base T) (UP:Zc4 P base T) (UY:Zf4 P base T) (Uw:Zcm P base T) (UX:Zfg P base T) (WV:ZeJ P base T) (JH:Zd9 P base T) (Zad:Zgx P base T) (ZbM:Zfe P base T):Zf0 P base T:=by
 refine Fun.okX (k:=5) T.Zaw.F YY (fun vs H Q E h=>h.1) (fun cdv A outer s H vs Q E hr h=>?_);obtain ⟨-,h⟩:=h;obtain ⟨v,D,lp,c,u,B,ed,pool,ps,rfl,hB,hE,hps,psn,ps0,psl,ul,kn,clo,agr,q⟩:=h
 refine ⟨_,(Zj (Zlj (ZW ZbM hr ZB (Za (pv 3) (Za (pv 4) Zc))) (ZlV rfl (XQ (ZY (i:=5) YY.nd rfl (Or.inl rfl)) (XQ (ZY (i:=6) YY.nd rfl (Or.inl rfl)) UE))))
   (Zj (ZH (PW.pt (Xp (Xc (YX (Xl K (by rfl) T.n_isinstance (Za (pv 5) (Za (VG (v:=.ref T.c_Piece) (by rfl) T.m_Piece rfl) Zc))))) (Xp (Xc (YX (Xl K (by rfl) T.n_isinstance (Za (Zby (pv 5) T.cl_Letter T.Wj.me JJ (hr.mono (by decide)) T.Wj.b T.cl_Test T.X9.me UY (hr.mono (by decide)) T.X9.b T.cl_Said T.Wd.me UX (hr.mono (by decide)) T.Wd.b ZB) (Za (Xv (v:=.ty "str") (by rfl) T.n_str WB rfl) Zc))))) (X0 (ZA Wv (Zby (pv 5) T.cl_Letter T.Wj.me JJ (hr.mono (by decide)) T.Wj.b T.cl_Test T.X9.me UY (hr.mono (by decide)) T.X9.b T.cl_Said T.Wd.me UX (hr.mono (by decide)) T.Wd.b ZB) (pv 6) (Zu _)))))) (Zk (Zv YW)) ZK)
   (Zj (ZF (i:=7) YY.nd rfl (Or.inl rfl) Vg)
   (Zj (ZH (ZA ZX (Zm Zaa (pv 6) Ze (fun _ _=>rfl)) Zs (Zu _)) (Zk (ZF (i:=7) YY.nd rfl (Or.inl rfl) (ZW Zad hr ZB (Za (pv 4) (Za (pv 2) (Za (Zq Y0 (pv 3) Ze) Zc)))))) ZK)
   (Zj (ZF (i:=8) YY.nd rfl (Or.inl rfl) (Yt Zc))
   (Zj (ZF (i:=9) YY.nd rfl (Or.inl rfl) (Zq Y0 (pv 3) Ze))
   (Zj (YM QI rfl (VJ (by rfl) T.n_range (Za (Zq Z6 (Zq Y0 (pv 3) Ze) Ze) Zc)) (ZY (i:=10) YY.nd rfl (Or.inl rfl))
    (Zj (Yr (Wi Rp Rq Rr X4 (pv 8) (Za (Zm Ys (pv 2) (Zq Z6 (pv 9) (ZO YO (by rfl) T.n_len Yp (Za (pv 2) Zc))) (fun _ _=>rfl)) Zc)))
   (Zk (ZF (i:=9) YY.nd rfl (Or.inl rfl) (Zq Y0 (pv 9) (ZO YO (by rfl) T.n_len Yp (Za (pv 2) Zc)))))))
   (Zj (ZF (i:=11) YY.nd rfl (Or.inl rfl) (Vl ZaR (by rfl) T.n_list UR (Za (pv 8) Zc)))
   (Zj (ZF (i:=12) YY.nd rfl (Or.inl rfl) Vg)
   (Zj (YM QI rfl (Xe (pv 11)) (ZY (i:=13) YY.nd rfl (Or.inl rfl))
    (Zj (ZF (i:=14) YY.nd rfl (Or.inl rfl) (U1 (ZV hr) (pv 1) (Z7 (Za (pv 6) (Za (pv 13) Zc))) (Yt Zc) ⟨rfl,rfl,rfl,rfl⟩))
   (Zj (ZH (ZA ZX (Zm Zaa (pv 6) Ze (fun _ _=>rfl)) Zs (Zu _)) (Zk (ZF (i:=14) YY.nd rfl (Or.inl rfl) (Vl ZaR (by rfl) T.n_list UR (Za (Y8 (ZV hr) (Y8 (ZV hr) (pv 7) (pv 4) (fun _ _=>rfl)) (pv 13) (fun _ _=>rfl)) Zc)))) ZK)
   (Zj (ZF (i:=15) YY.nd rfl (Or.inl rfl) (ZaU (pv 5) T.cl_Letter T.Vd.me Ut (hr.mono (by decide)) T.Vd.b T.cl_Test T.W1.me UP (hr.mono (by decide)) T.W1.b T.cl_Said T.WU.me Uw (hr.mono (by decide)) T.WU.b ZB (Za (pv 0) (Za (pv 7) (Za (pv 13) Zc)))))
   (Zj (ZH (Xc (YX (ZW JH hr ZB (Za (pv 15) (Za (ZO (J9 K) (by rfl) T.n_sorted Wx (Za (pv 14) Zc)) Zc))))) (Zk (Zv YW)) ZK)
   (Zj (Yr (Wi Rp Rq Rr X4 (pv 15) (Za Zs Zc)))
   (Zk (YM QI rfl (Xe (pv 14)) (ZY (i:=16) YY.nd rfl (Or.inl rfl))
    (Zk (Xs (ZV hr) (pv 12) (pv 16) YW rfl))))))))))
   (Zj (ZF (i:=17) YY.nd rfl (Or.inl rfl) (ZaU (pv 5) T.cl_Letter ⟨T.lm_Letter,T.Yw.me.fn,T.Yw.me.kp⟩ WV (hr.mono (by decide)) T.Yw.b T.cl_Test ⟨T.lm_Test,T.Yw.me.fn,T.Yw.me.kp⟩ WV (hr.mono (by decide)) T.Yw.b T.cl_Said ⟨T.lm_Said,T.Yw.me.fn,T.Yw.me.kp⟩ WV (hr.mono (by decide)) T.Yw.b ZB (Za (pv 0) (Za (pv 7) (Za (pv 8) Zc)))))
   (Zj (ZH (PW.pt (Xp (Xc (YX (ZW JH hr ZB (Za (pv 17) (Za (ZO (ZaD rfl) (by rfl) T.n_sorted Wx (Za (pv 12) Zc)) Zc))))) (X0 (ZA (Zlo hr.units) (pv 8) (pv 11) (Zu _))))) (Zk (Zv YW)) ZK)
   (Zj (Yr (Wi Rp Rq Rr X4 (pv 17) (Za Zs Zc)))
   (Zj (ZH (PW.pt (Vj (ZA ZX (Zm Zaa (pv 6) Ze (fun _ _=>rfl)) Zs (Zu _)) (VP (ZA (Zmq hr.units) (pv 7) (ZW Zad hr ZB (Za (pv 4) (Za (pv 2) (Za (Zq Y0 (pv 3) Ze) Zc)))) (Zu _))))) (Zk (Zv YW)) ZK)
   (Zk (Zv (XO (ZW JH hr ZB (Za (ZaU (pv 5) T.cl_Letter ⟨T.lm_Letter,T.Yw.me.fn,T.Yw.me.kp⟩ WV (hr.mono (by decide)) T.Yw.b T.cl_Test ⟨T.lm_Test,T.Yw.me.fn,T.Yw.me.kp⟩ WV (hr.mono (by decide)) T.Yw.b T.cl_Said ⟨T.lm_Said,T.Yw.me.fn,T.Yw.me.kp⟩ WV (hr.mono (by decide)) T.Yw.b ZB (Za (pv 0) (Za (pv 7) (Za (pv 8) Zc)))) (Za (ZO (ZaD rfl) (by rfl) T.n_sorted Wx (Za (pv 12) Zc)) Zc))) (XC (YT ZX (Zby (pv 5) T.cl_Letter T.Wj.me JJ (hr.mono (by decide)) T.Wj.b T.cl_Test T.X9.me UY (hr.mono (by decide)) T.X9.b T.cl_Said T.Wd.me UX (hr.mono (by decide)) T.Wd.b ZB) (pv 6) (Zu _)))))))))))))))))))),?_⟩
 refine ⟨_,rfl,_,rfl,rfl,c,u,rfl,ul,fun H1 Lq x sg s1 hLq pk=>?_⟩;refine ⟨Lq,_,rfl,.of hLq,rfl,_,_,rfl,_,_,rfl,rfl,?_⟩;dsimp only [Z4];obtain ⟨ty,kd,ki⟩:=pk.isi;refine ⟨_,rfl,x,.ref T.c_Piece,ty,true,rfl,rfl,kd,ki,_,rfl,ZT ?_⟩;refine ZbU (i0:=5) (σ:=[some v,some (.ref D),some (.ref lp),some (.int c),some (.str u),some x,some (.str sg),none,none,none,none,none,none,none,none,none,none,none]) rfl pk ul ?_;refine ⟨_,.ty "str",_,_,rfl,rfl,.of (.str _),T.k_str_str,_,rfl,ZT ?_⟩;refine ZbU (i0:=5) (σ:=[some v,some (.ref D),some (.ref lp),some (.int c),some (.str u),some x,some (.str sg),none,none,none,none,none,none,none,none,none,none,none]) rfl pk ul ?_;refine ⟨_,rfl,rfl,_,rfl,Zt (by simp [Yq]) ?_⟩;refine fun t0 nt0=>?_;have st0:=Zl (o:=.dK []) nt0;have c11:∀{z:Int},z=11∨z=44->z≠0∧z.natAbs<2 ^ 1000:=fun h=>by rcases h with rfl|rfl<;>exact ⟨by decide,YE (by decide) (by decide)⟩
 have fst:∃ch,sg.length≤sizeLine∧Yu sg.cps.toList 0=some ch∧((sg∈Yb∧¬(⟨#[ch]⟩:Str)=":")∨(sg=":"++u∧(⟨#[ch]⟩:Str)=":")):=by
  have lb:=ZcI;rcases pk with ⟨m,_⟩|⟨e,_⟩
  ·obtain ⟨l,ch,h1,h2⟩:=ZhB m;exact ⟨ch,by omega,h1,.inl ⟨m,h2⟩⟩
  ·refine ⟨58,?_,by rw [e];exact Zhj u,.inr ⟨e,by decide +kernel⟩⟩;rw [e,Zj6];omega
 obtain ⟨ch,sgl,sga,sgc⟩:=fst;dsimp only [Z4];refine YI (fun σ Hx=>∃t,σ=[some v,some (.ref D),some (.ref lp),some (.int c),some (.str u),some x,some (.str sg),some t,none,none,none,none,none,none,none,none,none,none]∧Same H Hx∧Mode T x sg u ps (c.fdiv 11) t Hx) (fun nx rest=>?_) ?_
 ·refine ⟨_,rfl,_,_,_,rfl,rfl,sgl,sga,rfl,_,rfl,Yy (fun h1=>?_) (fun h1=>?_)⟩
  ·have hc:(⟨#[ch]⟩:Str)=":":=by simpa [Yq] using h1
   obtain ⟨e,_⟩:=sgc.resolve_left fun z=>z.2 hc
   have sd:SdAt T H1 x u:=by
    rcases pk with ⟨m,_⟩|⟨_,h⟩
    ·rw [e] at m;exact absurd m (Jg u)
    ·exact h
   refine ⟨_,rfl,_,rfl,_,rfl,_,_,rfl,rfl,c11 (.inl rfl),rfl,u,lp,c.fdiv 11,ps,rfl,(s1.trans st0).sql hps,psn,psl,fun H3 t d rs s3 ht ec=>?_⟩;exact rest _ _ ⟨t,rfl,s1.trans (st0.trans s3),.inr ⟨e,sd.mono (st0.trans s3),d,rs,ht,ec⟩⟩
  ·have hc:¬(⟨#[ch]⟩:Str)=":":=by simpa [Yq] using h1
   obtain ⟨m,_⟩:=sgc.resolve_right fun z=>hc z.2
   have st:StAt T H1 x sg:=by
    rcases pk with ⟨_,h⟩|⟨e,_⟩
    ·exact h
    ·rw [e] at m;exact absurd m (Jg u)
   exact rest _ _ ⟨.ref t0,rfl,s1.trans st0,.inl ⟨m,st.mono st0⟩⟩
 rintro σ H3 ⟨t,rfl,s3,md⟩;refine ⟨few rfl,fun Lh nLh=>?_⟩;have sh0:=Zl (o:=.lst []) nLh;have nLhH:=ZQ s3 nLh;dsimp only [Z4];refine ⟨_,rfl,_,_,rfl,rfl,c11 (.inr rfl),?_⟩;dsimp only [Z4];have md4:=md.mono sh0;have f0:=QN (c.fdiv 11) (show (0:Int)<4 by decide);have f1:=Q3 (c.fdiv 11) (show (0:Int)<4 by decide);have pl0:((ps.map V.str).length:Int)≠0:=by rw [Qd];omega
 refine ⟨_,rfl,_,_,rfl,rfl,c11 (.inl rfl),_,_,rfl,rfl,Yn (by decide),_,rfl,by omega,by omega,UG (fun i σ Hc=>∃(hs:List Str) (z:Int) (v10:Option V),σ=[some v,some (.ref D),some (.ref lp),some (.int c),some (.str u),some x,some (.str sg),some t,some (.ref Lh),some (.int z),v10,none,none,none,none,none,none,none]∧Same H3 Hc∧Hc Lh=some (.lst (hs.map V.str))∧(∀n∈hs,n∈ps)∧hs.length=i) ⟨[],_,_,rfl,sh0,Zg,fun n hn=>(by cases hn),rfl⟩ ?ht ?hd⟩
 case ht =>
  rintro i σ Hc hi ⟨hs,z,v10,rfl,sc,hLh,hin,hsl⟩;have hpc:=(s3.trans sc).sql hps;obtain ⟨n,hn,ea⟩:=ZaJ V.str ps ps0 z;refine ⟨_,rfl,.inl ⟨rfl,_,.of hLh⟩,_,rfl,_,rfl,_,rfl,lp,_,rfl,.inl hpc,_,_,rfl,rfl,pl0,lp,_,_,_,rfl,rfl,hpc,ea,Lh,_,_,rfl,rfl,hLh,ZD (by rw [Qd];omega),?_⟩;have hpc2:SqL K (Zb Hc Lh (.lst (hs.map V.str++[.str n]))) lp (ps.map V.str):=(Same.trans s3 (fun b u e=>by rw [Zh (ZU e nLh)];exact sc b u e)).sql hps;refine ⟨_,rfl,_,rfl,lp,_,rfl,.inl hpc2,_,_,rfl,rfl,⟨pl0,YE (by rw [Qd];omega) (by rw [Qd];omega)⟩,hs++[n],_,_,rfl,fun b u e=>?_,by rw [Qp];exact Zg,fun m hm=>?_,by rw [Qx,hsl];rfl⟩
  ·rw [Zh (ZU e nLh)];exact sc b u e
  ·rcases Qn.mp hm with hm|hm
   ·exact hin m hm
   ·rw [QV.mp hm];exact hn
 case hd =>
 rintro σ Hc ⟨hs,z,v10,rfl,sc,hLh,hin,hsl⟩;have hsl:hs.length≤4:=by omega
 refine ⟨_,rfl,Lh,_,rfl,.inl (.of hLh),fun Ln nLn=>?_⟩;have sN:=Zl (o:=.lst (hs.map V.str)) nLn;have hLn:Zb Hc Ln (.lst (hs.map V.str)) Ln=some (.lst (hs.map V.str)):=Zg;have hLh4:=sN _ _ hLh;have s4:=s3.trans (sc.trans sN);have md4:=md.mono (sc.trans sN);dsimp only [Z4];generalize Zb Hc Ln (.lst (hs.map V.str))=H4 at s4 md4 hLn hLh4 ⊢;refine fun Dd nDd=>?_;dsimp only [Z4];have sD:=Zl (o:=.dK []) nDd;obtain ⟨f,ef⟩:∃f,f=fG B sg ps (c.fdiv 11):=⟨_,rfl⟩;have fup:∀n∈ps,((f n).Pairwise fun a b=>Yi a b=true)∧(∀y∈f n,y∈pool)∧(f n).length≤60:=fun n hn=>by rw [ef];exact ZnE agr clo psl kn hn
 have hEd4:=hE.mono s4;refine ⟨_,rfl,Ln,rfl,⟨_,.of (sD _ _ hLn)⟩,Wl (xs:=hs.map V.str) (fun i σ Hx=>∃(cs:List (Str×V)) (v13 v14 v15 v16:Option V),σ=[some v,some (.ref D),some (.ref lp),some (.int c),some (.str u),some x,some (.str sg),some t,some (.ref Lh),some (.int z),v10,some (.ref Ln),some (.ref Dd),v13,v14,v15,v16,none]∧Same H4 Hx∧Hx Dd=some (.dK (Wf cs))∧(cs.map (·.1)).Nodup∧∀y,y∈cs.map (·.1)↔∃n,n∈hs.take i∧y∈f n) ?start ?list ?turn ?done⟩
 case start=>exact ⟨[],_,_,_,_,rfl,sD,Zg,by simp,fun y=>by simp⟩
 case list =>
  rintro i σ Hx _ ⟨cs,v13,v14,v15,v16,rfl,sx,_⟩;exact .of (sx _ _ hLn)
 case turn =>
  rintro i y σ Hx hy ⟨cs,v13,v14,v15,v16,rfl,sx,hDd,nd,mem⟩;obtain ⟨n,hn,rfl⟩:=VL hy;have tk:hs.take (i+1)=hs.take i++[n]:=by rw [Ro,hn];rfl
  have np:=hin n (QP hn);dsimp only [Z4];refine ⟨_,rfl,D,rfl,.inr ⟨_,.inl (sx _ _ hEd4.d)⟩,_,rfl,_,rfl,few rfl,fun kt nkt=>⟨few rfl,fun z0 nz0=>?_⟩⟩;have st:=Zl (o:=.tup [.str sg,.str n]) nkt;have sz:=Zl (o:=.lst []) nz0;have s2:=st.trans sz;have g:=DGet.t (k:=Zr (sg,n)) ((sx.trans s2) _ _ hEd4.d) (sz _ _ (Zg (o:=.tup [.str sg,.str n])));rw [VB] at g;have sx2:=sx.trans s2;have hDd2:=s2 _ _ hDd;have hz2:Zb (Zb Hx kt (.tup [.str sg,.str n])) z0 (.lst []) z0=some (.lst []):=Zg;generalize Zb (Zb Hx kt (.tup [.str sg,.str n])) z0 (.lst [])=H5 at sx2 hDd2 hz2 g ⊢;refine ⟨_,g,?_⟩
  obtain ⟨b,zs,eb,hb2,ez⟩:∃(b:Addr) (zs:List Str),((ZJ (sg,n) ed).map fun q=>V.ref q.1).getD (V.ref z0)=V.ref b∧H5 b=some (.lst (zs.map V.str))∧lk ed (sg,n)=zs:=by
   cases hk:ZJ (sg,n) ed with
   |none=>exact ⟨z0,[],rfl,hz2,Za3 hk⟩
   |some w=>exact ⟨w.1,w.2,rfl,(hEd4.mono sx2).l _ (W6 hk),Jy hE.kn (W6 hk)⟩
  rw [eb];dsimp only [Z4];refine YI (fun σ Hy=>∃(r:Addr) (zs:List Str),σ=[some v,some (.ref D),some (.ref lp),some (.int c),some (.str u),some x,some (.str sg),some t,some (.ref Lh),some (.int z),v10,some (.ref Ln),some (.ref Dd),some (.str n),some (.ref r),v15,v16,none]∧Same H4 Hy∧Hy Dd=some (.dK (Wf cs))∧Hy r=some (.lst (zs.map V.str))∧zs.Perm (f n)) (fun nx rest=>?_) ?_
  ·refine ⟨_,rfl,_,_,_,rfl,rfl,sgl,sga,rfl,_,rfl,Yy (fun h1=>?_) (fun h1=>?_)⟩
   ·have hc:(⟨#[ch]⟩:Str)=":":=by simpa [Yq] using h1
    obtain ⟨e,_⟩:=sgc.resolve_left fun z=>z.2 hc;have nn:sg∉Yb:=by rw [e];exact Jg u
    obtain ⟨_,_,d,rs,⟨tt,et,t1,t2,t3,t4⟩,ec⟩:=(md4.mono sx2).resolve_left fun z=>nn z.1;have hm:(n,f n)∈Xm rs:=by rw [ec,ef,Zdl nn];exact ZbW np
    obtain ⟨r,hr,er,hv⟩:=Zgk t4 hm;refine ⟨_,rfl,_,rfl,tt,_,et,(by have z:=DGet.k (k:=.inr u) t1;rw [Xa rfl] at z;exact z),_,rfl,d,_,rfl,hv▸DGet.k (k:=.inr n) t2,r.2.1,_,rfl,.inl (.of (t3 r hr)),fun l nl=>rest _ _ ⟨l,r.2.2,rfl,sx2.trans (Zl nl),Zl nl _ _ hDd2,Zg,by rw [er]⟩⟩
   ·have hc:¬(⟨#[ch]⟩:Str)=":":=by simpa [Yq] using h1
    obtain ⟨m,_⟩:=sgc.resolve_right fun z=>hc z.2;exact rest _ _ ⟨b,zs,rfl,sx2,hDd2,hb2,by rw [←ez,ef,Zc9 m];exact (agr sg m n (kn n np)).2.1.symm⟩
  rintro σ H6 ⟨r,zs,rfl,s6,hDd6,hr6,pm⟩;have fu:=fup n np;refine ZhG (i0:=5) (i1:=0) (i2:=7) (i3:=13) (σ:=[some v,some (.ref D),some (.ref lp),some (.int c),some (.str u),some x,some (.str sg),some t,some (.ref Lh),some (.int z),v10,some (.ref Ln),some (.ref Dd),some (.str n),some (.ref r),v15,v16,none]) rfl rfl rfl rfl ((md4.mono s6).pc (hB.mono (s4.trans s6))) (Zhp np (kn n np)) fun H7 M s7 nM hM=>?_;rw [←ef] at hM;have rM:r≠M:=fun z=>by rw [←z,hr6] at nM;cases nM
  have DM:Dd≠M:=fun z=>by rw [←z,hDd6] at nM;cases nM
  have zl:zs.length≤60:=by rw [pm.length_eq];exact fu.2.2
  dsimp only [Z4];refine ⟨_,rfl,_,rfl,r,zs,rfl,.of (s7 _ _ hr6),by omega,fun D7 zs' nD7 hp7 hs7=>?_⟩;obtain rfl:zs'=f n:=Uq (hp7.trans pm) (JO hs7) fu.1;have s8:=Zl (o:=.lst ((f n).map V.str)) nD7;have hM8:=s8 _ _ hM;refine ⟨rfl,M,D7,f n,rfl,.of hM8,.of Zg,by omega,_,rfl,Zt (by rfl) ?_⟩;refine ⟨_,rfl,.inl ⟨rfl,_,.of hM8⟩,M,_,_,rfl,rfl,hM8,ZD (by rw [Qd];omega),?_⟩
  have s9:Same H6 (Zb (Zb H7 D7 (.lst ((f n).map V.str))) M (.lst ((f n).map V.str++[.str "?"]))):=fun b o e=>by
   rw [Zh (ZU e nM)];exact s8 _ _ (s7 b o e)
  have hr9:=s9 _ _ hr6;have hDd9:=s9 _ _ hDd6;have s49:=s6.trans s9;generalize Zb (Zb H7 D7 (.lst ((f n).map V.str))) M (.lst ((f n).map V.str++[.str "?"]))=H9 at hr9 hDd9 s49 ⊢;have rD:r≠Dd:=fun z=>by rw [z,hDd9] at hr9;cases hr9
  refine ⟨_,rfl,r,rfl,⟨_,.of hr9⟩,Wl (xs:=zs.map V.str) (fun j σ Hj=>∃(cs2:List (Str×V)) (v16:Option V),σ=[some v,some (.ref D),some (.ref lp),some (.int c),some (.str u),some x,some (.str sg),some t,some (.ref Lh),some (.int z),v10,some (.ref Ln),some (.ref Dd),some (.str n),some (.ref r),some (.ref M),v16,none]∧Same H4 Hj∧Hj r=some (.lst (zs.map V.str))∧Hj Dd=some (.dK (Wf cs2))∧(cs2.map (·.1)).Nodup∧∀y,y∈cs2.map (·.1)↔y∈cs.map (·.1)∨y∈zs.take j) ?st ?li ?tu ?dn⟩
  case st=>exact ⟨cs,_,rfl,s49,hr9,hDd9,nd,fun x=>by simp⟩
  case li =>
   rintro j σ Hj _ ⟨cs2,v16,rfl,_,hr,_⟩;exact .of hr
  case dn =>
   rintro σ Hj ⟨cs2,v16,rfl,sj,hrj,hcj,ndj,memj⟩;rw [Qd,Re] at memj;refine ⟨cs2,_,_,_,_,rfl,sj,hcj,ndj,fun y=>?_⟩;rw [memj,mem,tk,pm.mem_iff];constructor
   ·rintro (⟨w,h1,h2⟩|h)
    ·exact ⟨w,Q9 _ h1,h2⟩
    ·exact ⟨n,by simp,h⟩
   ·rintro ⟨w,h1,h2⟩;rcases Qn.mp h1 with h1|h1
    ·exact .inl ⟨w,h1,h2⟩
    ·rw [show w=n by simpa using h1] at h2;exact .inr h2
  case tu =>
  rintro j y σ Hj hy ⟨cs2,v16,rfl,sj,hrj,hcj,ndj,memj⟩;obtain ⟨y,hyz,rfl⟩:=VL hy;have tkj:zs.take (j+1)=zs.take j++[y]:=by rw [Ro,hyz];rfl
  have inP:∀x∈cs2.map (·.1),x∈pool:=fun x hx2=>by
   rcases (memj x).mp hx2 with h|h
   ·obtain ⟨w,h1,h2⟩:=(mem x).mp h;exact (fup w (hin w (R3 h1))).2.1 x h2
   ·exact fu.2.1 x (pm.mem_iff.mp (R3 h))
  have len2:(Wf cs2).length≤60:=by rw [ZgM];exact Qm (Jz ndj inP) clo.few
  refine ⟨_,rfl,_,rfl,Dd,_,rfl,DPut.k (k:=.inr y) hcj (ZD (by omega)),?_⟩;rw [ZfP];refine ⟨Zn cs2 y (.bl true),_,rfl,fun e o h=>?_,?_,Zg,Zc5 ndj,fun x'=>?_⟩
  ·rw [Zh (fun z=>by subst z;rw [nDd] at h;cases h)];exact sj _ _ h
  ·rw [Zh rD];exact hrj
  ·rw [ZeZ,memj,tkj,Qn,QV,or_assoc]
 case done =>
 rintro σ Hx ⟨cs,v13,v14,v15,v16,rfl,sx,hDd,nd,mem⟩;rw [Qd,Re] at mem
 have cl:(cs.map (·.1)).length≤60:=Qm (Jz nd fun y hy=>by
  obtain ⟨n,hn,hy⟩:=(mem y).mp hy;exact (fup n (hin n hn)).2.1 y hy) clo.few
 rw [Qd] at cl;have srtD:∀{zs:List Str},zs.Perm (cs.map (·.1))->PyProof.Rows.sortedS zs=true->SrtOf (fun y=>∃n∈hs,y∈f n) zs:=fun hp hs'=>⟨JO hs',hp.nodup_iff.mpr nd,fun y=>by rw [hp.mem_iff,mem]⟩
 have yl:∀{zs:List Str},SrtOf (fun y=>∃n∈hs,y∈f n) zs->zs.length≤60:=fun h=>Qm (Jz h.nd fun y hy=>by
  obtain ⟨n,hn,hy⟩:=(h.mem y).mp hy;exact (fup n (hin n hn)).2.1 y hy) clo.few
 have lead:∀{Hy:Hp} {Q:VK} {E:XK},Same H4 Hy->(∀H' D' ys,Same Hy H'->Hy D'=none->H' D'=some (.lst (ys.map V.str))->SrtOf (fun y=>∃n∈hs,y∈f n) ys->Q (.ref D') H')->Wq T [x,v,t,.ref Lh] Hy Q E:=fun sy q =>
  ⟨rfl,x,v,t,Lh,hs,Lg B sg ps (c.fdiv 11),f,pool,rfl,(md4.mono sy).pc (hB.mono (s4.trans sy)),sy.sql (.of hLh4),by omega,fun n hn=>by rw [ef];exact Zhp (hin n hn) (kn n (hin n hn)),fun n hn y hy=>(fup n (hin n hn)).2.1 y hy,clo.few,q⟩
 refine Zgo (i0:=5) (i1:=0) (i2:=7) (i3:=8) (σ:=[some v,some (.ref D),some (.ref lp),some (.int c),some (.str u),some x,some (.str sg),some t,some (.ref Lh),some (.int z),v10,some (.ref Ln),some (.ref Dd),v13,v14,v15,v16,none]) rfl rfl rfl rfl ((md4.mono sx).pc (hB.mono (s4.trans sx))) (lead sx fun H7 Lf ys s7 nLf hLf srt7=>?_);dsimp only [Z4];refine ⟨_,rfl,_,rfl,Dd,cs,rfl,s7 _ _ hDd,by omega,fun D8 zs nD8 hp8 hs8=>?_⟩;obtain rfl:ys=zs:=srt7.eq (srtD hp8 hs8) fun _=>Iff.rfl;have yl7:=yl srt7;have s8:=Zl (o:=.lst (ys.map V.str)) nD8;have hLf8:=s8 _ _ hLf;have sx8:=sx.trans (s7.trans s8);refine ⟨rfl,Lf,D8,ys,rfl,.of hLf8,.of Zg,by omega,_,rfl,ZT ?_⟩;refine ⟨_,rfl,_,rfl,Lh,Ln,hs,rfl,rfl,.of (sx8 _ _ hLh4),.of (sx8 _ _ hLn),_,rfl,Zt (by rfl) ?_⟩;refine ⟨_,rfl,.inl ⟨rfl,_,.of hLf8⟩,Lf,_,_,rfl,rfl,hLf8,ZD (by rw [Qd];omega),?_⟩
 have s9:Same Hx (Zb (Zb H7 D8 (.lst (ys.map V.str))) Lf (.lst (ys.map V.str++[.str "?"]))):=fun b o e=>by
  rw [Zh (ZU e nLf)];exact s8 _ _ (s7 b o e)
 generalize Zb (Zb H7 D8 (.lst (ys.map V.str))) Lf (.lst (ys.map V.str++[.str "?"]))=H9 at s9 ⊢;dsimp only [Z4];refine YI (fun σ Hy=>σ=[some v,some (.ref D),some (.ref lp),some (.int c),some (.str u),some x,some (.str sg),some t,some (.ref Lh),some (.int z),v10,some (.ref Ln),some (.ref Dd),v13,v14,v15,v16,some (.ref Lf)]∧Same Hx Hy) (fun nx rest=>?_) ?_
 ·refine ⟨_,rfl,_,_,_,rfl,rfl,sgl,sga,rfl,_,rfl,Yy (fun h1=>?_) (fun h1=>rest _ _ ⟨rfl,s9⟩)⟩;have hc:(⟨#[ch]⟩:Str)=":":=by simpa [Yq] using h1
  obtain ⟨e,_⟩:=sgc.resolve_left fun z=>z.2 hc;have nn:sg∉Yb:=by rw [e];exact Jg u
  obtain ⟨_,_,d,rs,ht,ec⟩:=(md4.mono (sx.trans s9)).resolve_left fun z=>nn z.1;exact ⟨_,rfl,_,rfl,_,rfl,_,rfl,_,_,rfl,rfl,c11 (.inl rfl),rfl,u,lp,c.fdiv 11,ps,rfl,(s4.trans (sx.trans s9)).sql hps,psn,psl,fun H10 t' d' rs' s10 ht' ec'=>⟨u,d,d',rs,rs',ht.mono s10,ht',ec.trans ec'.symm,_,rfl,Zt (by rfl) (rest _ _ ⟨rfl,s9.trans s10⟩)⟩⟩
 rintro σ Hy ⟨rfl,sy⟩;have sxy:=sx.trans sy;refine Zgo (i0:=5) (i1:=0) (i2:=7) (i3:=8) (σ:=[some v,some (.ref D),some (.ref lp),some (.int c),some (.str u),some x,some (.str sg),some t,some (.ref Lh),some (.int z),v10,some (.ref Ln),some (.ref Dd),v13,v14,v15,v16,some (.ref Lf)]) rfl rfl rfl rfl ((md4.mono sxy).pc (hB.mono (s4.trans sxy))) (lead sxy fun H11 L11 ws s11 nL11 hL11 srt11=>?_);refine ⟨_,rfl,Dd,cs,rfl,s11 _ _ (sy _ _ hDd),by omega,fun D12 zs nD12 hp12 hs12=>?_⟩;obtain rfl:ws=zs:=srt11.eq (srtD hp12 hs12) fun _=>Iff.rfl;have wl:=yl srt11;have s12:=Zl (o:=.lst (ws.map V.str)) nD12;have sE:=sxy.trans (s11.trans s12);refine ⟨rfl,L11,D12,ws,rfl,.of (s12 _ _ hL11),.of Zg,by omega,_,rfl,?_⟩;rw [Qc rfl];refine ZbU (i0:=5) (σ:=[some v,some (.ref D),some (.ref lp),some (.int c),some (.str u),some x,some (.str sg),some t,some (.ref Lh),some (.int z),v10,some (.ref Ln),some (.ref Dd),v13,v14,v15,v16,some (.ref Lf)]) rfl (md4.mono sE).pk ul ?_;refine ⟨_,rfl,rfl,?_⟩;rw [show decide (V.str sg=V.str sg)=true from Ql rfl];exact q _ (s4.trans sE)
theorem ZkE (T:Tx K w mg) (ZbI:ZgK P base T) (ZcB:ZfI P base T) (Zc6:Zhq P base T) (VI:Zcr P base T) (Us:ZcN P base T) (ZdU:ZfN P base T) (Zbo:ZhE P base T) (ZdT:Zf0 P base T):ZfA P base T:=by
 refine Fun.okX (k:=6) T.Vq.F WZ (fun vs H Q E h=>h.1) (fun cdv A outer s H vs Q E hr h=>?_);obtain ⟨-,h⟩:=h;obtain ⟨l,ss,rfl,hl,l63,q⟩:=h
 refine ⟨_,(Zj (ZF (i:=1) WZ.nd rfl (Or.inl rfl) (ZW ZdU hr ZB (Za (pv 0) (Za Ze (Za Ze Zc)))))
   (Zj (ZF (i:=2) WZ.nd rfl (Or.inl rfl) (ZW Zbo hr ZB (Za (pv 1) Zc)))
   (Zj (V4 (i:=3) rfl  WZ.nd rfl (Or.inl rfl) (WH (N:=["_law_entry"]) [] [none] rfl (by decide +kernel) (by decide +kernel) (by rfl) (by rfl) (by rfl) (by rfl) (by rfl)) (Xe (pv 1)) (fun _ _ _=>(ZY (i:=0) ZiZ rfl (Or.inl rfl))) (fun _ _ _=>(Vm (ZA ZX (Zm (Jk K rfl) (pv 0) Ze (fun _ _=>rfl)) Zs (Zu _)))) (fun _ _ _=>(Zm (Jk K rfl) (pv 0) Ze (fun _ _=>rfl))))
   (Zj (ZF (i:=4) WZ.nd rfl (Or.inl rfl) (ZiX T.mk_Book ZbI (hr.mono (by decide)) (by rfl) T.m_Book T.Uk.b .nil ZB))
   (Zj (YM QI rfl (Xe (pv 1)) (ZY (i:=5) WZ.nd rfl (Or.inl rfl))
    (Zk (Yr (Yj (pv 4) T.cl_Book T.VW.me ZcB (hr.mono (by decide)) T.VW.b .nil ZB (Za (pv 5) Zc)))))
   (Zj (ZH (ZA (ZiA hr.units) (pv 3) (Yt Zc) (Zu _)) (Zk (Zv YW)) ZK)
   (Zj (ZF (i:=6) WZ.nd rfl (Or.inl rfl) (Zm Ys (ZW Us hr ZB (Za (ZW VI hr ZB (Za (pv 0) (Za Ze Zc))) Zc)) Ze (fun _ _=>rfl)))
   (Zj (YM QI rfl (Xe (Ue Zmm (pv 0) (W9 Ze) (W9 Ze))) (ZY (i:=7) WZ.nd rfl (Or.inl rfl))
    (Zk (ZH (Xc (YX (ZW ZdT hr ZB (Za (pv 4) (Za (pv 2) (Za (pv 3) (Za (pv 7) (Za (pv 6) Zc)))))))) (Zk (Zv YW)) ZK)))
   (Zk (Zv (YT (Zog hr.units) (Zol (pv 4) T.cl_Book T.UQ.me Zc6 (hr.mono (by decide)) T.UQ.b .nil ZB) (ZO (J9 K) (by rfl) T.n_sorted Wx (Za (pv 3) Zc)) (Zu _)))))))))))),?_⟩
 refine ⟨_,rfl,rfl,l,ss,rfl,hl,l63,fun H1 Le ks ns s1 nLe hLe hR N gd k30=>?_⟩;refine ⟨_,rfl,rfl,Le,ks,ns,rfl,.of hLe,hR,gd,by omega,fun H2 De ed ls s2 nDe hE hb lnd hla hlk=>?_⟩;dsimp only [Z4];have hLe2:=s2 _ _ hLe;have hR2:Uj K H2 ks:=fun p hp=>s2.sqt (hR p hp);have n24:=N.len;refine ⟨_,rfl,Le,rfl,⟨_,.of hLe2⟩,VE (ks.map Zbn) (ZD (by rw [Qd];omega)) (fun σ=>∃w,σ=[w]) ⟨_,rfl⟩ (fun j H4 hj sm=>?go) (fun H4 sm=>?stop) (fun j σ H4 x H5 z hz hσ sm hx C hC=>?step) (fun Lp H3 nLp s3 hLp=>?fin)⟩
 case go=>exact ⟨_,_,sm.sql (.of hLe2),Qz (by rw [V8];rw [Qd] at hj;exact hj)⟩
 case stop=>exact ⟨_,sm.sql (.of hLe2),by rw [Qd,V8];exact Qf _⟩
 case step =>
  obtain ⟨w,rfl⟩:=hσ;obtain ⟨rfl,hx2⟩:=hx;obtain ⟨p,hp,rfl⟩:=ZdH (hx2 _ (sm.sql (.of hLe2)));rw [Qu,hp] at hz;obtain rfl:=Qt hz;obtain ⟨e,a⟩:=p;have row:=sm.sqt (hR2 _ (QP hp));cases e with
  |born n s d f m =>
   exact ⟨_,rfl,a,_,_,_,rfl,rfl,row,Zf (j:=0) rfl,rfl,_,rfl,Yd (by decide +kernel) ⟨_,rfl,a,_,_,_,rfl,rfl,row,Zf (j:=1) rfl,hC _ _ ⟨_,rfl⟩ (Same.refl _)⟩⟩
  |taken =>
   exact ⟨_,rfl,a,_,_,_,rfl,rfl,row,Zf (j:=0) rfl,rfl,_,rfl,Zt (by decide +kernel) (hC _ _ ⟨_,rfl⟩ (Same.refl _))⟩
  |union =>
   exact ⟨_,rfl,a,_,_,_,rfl,rfl,row,Zf (j:=0) rfl,rfl,_,rfl,Zt (by decide +kernel) (hC _ _ ⟨_,rfl⟩ (Same.refl _))⟩
  |parted =>
   exact ⟨_,rfl,a,_,_,_,rfl,rfl,row,Zf (j:=0) rfl,rfl,_,rfl,Zt (by decide +kernel) (hC _ _ ⟨_,rfl⟩ (Same.refl _))⟩
  |dead =>
   exact ⟨_,rfl,a,_,_,_,rfl,rfl,row,Zf (j:=0) rfl,rfl,_,rfl,Zt (by decide +kernel) (hC _ _ ⟨_,rfl⟩ (Same.refl _))⟩
  |given =>
   exact ⟨_,rfl,a,_,_,_,rfl,rfl,row,Zf (j:=0) rfl,rfl,_,rfl,Zt (by decide +kernel) (hC _ _ ⟨_,rfl⟩ (Same.refl _))⟩
 case fin =>
 rw [ZfX] at hLp;obtain ⟨pn,epn⟩:∃z,z=(ks.map (·.1)).filterMap Ent.bornName:=⟨_,rfl⟩;rw [←epn] at hLp;have hl3:=(s1.trans (s2.trans s3)).sql hl;have hLe3:=s3 _ _ hLe2;have hR3:Uj K H3 ks:=fun p hp=>s3.sqt (hR2 p hp);have hE3:=hE.mono s3;dsimp only [Z4];refine fun b dx nb ndx nn=>⟨rfl,b,dx,rfl,Zg,fun H4 k bi li ti su hB4 keep nk nbi nli nti nsu=>⟨rfl,?_⟩⟩;obtain ⟨s4,f4⟩:=ZkI nb ndx keep nk nbi nli nti nsu;clear keep nk nbi nli nti nsu;refine ⟨_,rfl,Le,rfl,⟨_,.of (s4 _ _ hLe3)⟩,Wl (xs:=Xz ks) (fun i σ Hc=>∃(B:Bk) (v:Option V),σ=[some (.ref l),some (.ref Le),some (.ref De),some (.ref Lp),some (.ref b),v,none,none]∧BkAt K T.c_Book Hc b dx k bi li ti su B∧LI5 ns B B.kept∧B.kept.map (·.1)=((ks.take i).map (·.1)).map Ent.told∧Same H3 Hc∧∀c∈ft k bi li ti su B,H3 c=none) ?start ?list ?turn ?done⟩
 case start=>exact ⟨VS,none,rfl,hB4,LI5.start ns,rfl,s4,f4⟩
 case list =>
  rintro i σ Hc _ ⟨B,v,rfl,_,_,_,sc,_⟩;exact sc.sql (.of hLe3)
 case turn =>
  rintro i y σ Hc hy ⟨B,v,rfl,hB,li5,hk,sc,g1⟩;obtain ⟨p,hp,rfl⟩:=ZdH hy;obtain ⟨e,a⟩:=p;have il:=(QF.mp hp).1;have row:=sc.sqt (hR3 _ (QP hp));have tk:(ks.take (i+1)).map (·.1)=(ks.take i).map (·.1)++[e]:=Zgg hp;have gt:GdL ns ((ks.take i).map (·.1)++[e]):=by rw [←tk,Nr];exact gd.take _
  have hkl:B.kept.length≤60:=by
   have:=Zb0 hk;rw [Qd,Qd,QZ] at this;omega
  obtain ⟨no,d5,rm⟩:=GdL.ref li5 hk gt hkl (by omega);refine ⟨_,rfl,b,dx,_,rfl,hB.ob,rfl,_,rfl,rfl,b,dx,k,bi,li,ti,su,B,.ref a,e,rfl,hB,⟨a,rfl,row⟩,d5.1,no,rm,fun H6 B6 y hB6 hput bt hy gr grT=>?_⟩;obtain ⟨li6,sb6⟩:=li5.put' hput d5 no;obtain ⟨sc6,g6⟩:=Zlq bt hy grT sc g1;exact ⟨B6,_,rfl,hB6,li6,by rw [sb6,tk,Qp,hk];rfl,sc6,g6⟩
 case done =>
 rintro σ Hb ⟨B,v,rfl,hB,li5,hk,sc,_⟩;rw [V8,Re] at hk;have j:Jn ns B (ks.map (·.1)) ls (lk ed):=⟨li5,hk,gd,lnd,hla,hlk⟩;have bn:Y9 B.kept=pn:=by rw [epn];exact Zjc hk
 have pnd:pn.Nodup:=by rw [←bn];exact li5.names.1
 have pnl:pn.length≤30:=by rw [epn];exact Qm (GI _ _) (by rw [Qd];exact k30)
 have kn:∀n∈pn,Known B n:=fun n hn=>by
  obtain ⟨sn,dn,fn,mn,hborn⟩:=ZnL (epn▸hn);exact (j.known hborn).1
 have hlb:=sc.sql hl3;have hLpb:=sc _ _ hLp;have hEb:=hE3.mono sc;clear s4 f4 hB4 s3 s2 s1 hLe hLe2 hR hR2 hl hl3 hLp hE hE3 hLe3 hR3;dsimp only [Z4];refine ⟨_,rfl,few rfl,fun L0 nL0=>⟨Lp,L0,_,rfl,rfl,(Zl nL0) _ _ hLpb,Zg,_,rfl,?_⟩⟩;by_cases pne:pn=[]
 ·exact Yd (by simp [pne]) (q _)
 refine Zt (by simp [pne]) ?_;have s0:=Zl (o:=.lst []) nL0;generalize Zb Hb L0 (.lst [])=Hd at s0 ⊢;refine ⟨_,rfl,rfl,l,ss,2,rfl,s0.sql hlb,by decide,fun z0=>⟨rfl,z0,rfl,fun H5 Ln ns2 s5 nLn hLn N2=>?_⟩⟩;obtain ⟨u,hu⟩:∃u,ns2[5]?=some u:=⟨_,Qz (by rw [N2.len];decide)⟩;have ul:u.length≤1000:=by have:=(N2.nm u (QP hu)).hi;omega
 refine ⟨Ln,_,_,_,rfl,rfl,.of hLn,ZgP (n:=5) hu,?_⟩;have sb5:=s0.trans s5;dsimp only [Z4];refine ⟨_,rfl,_,rfl,_,rfl,l,_,rfl,sb5.sql hlb,fun Lc nLc=>?_⟩;obtain ⟨cs,ecs,_⟩:=Zj8 ss 3 43;rw [show XR (ss.map V.int) (some 3) (some 43)=cs.map V.int from ecs];have sc6:=Zl (o:=.lst (cs.map V.int)) nLc;have hLc:Zb H5 Lc (.lst (cs.map V.int)) Lc=some (.lst (cs.map V.int)):=Zg;generalize Zb H5 Lc (.lst (cs.map V.int))=H6 at sc6 hLc ⊢;have sb6:=sb5.trans sc6;refine ⟨Lc,rfl,⟨_,.of hLc⟩,Wl (xs:=cs.map V.int) (fun i σ Hx=>∃w:Option V,σ=[some (.ref l),some (.ref Le),some (.ref De),some (.ref Lp),some (.ref b),v,some (.str u),w]∧Same H6 Hx) ?st ?li ?tu ?dn⟩
 case st=>exact ⟨_,rfl,.refl _⟩
 case li =>
  rintro i σ Hx _ ⟨w,rfl,sx⟩;exact .of (sx _ _ hLc)
 case tu =>
  rintro i y σ Hx hy ⟨w,rfl,sx⟩;rw [Qu] at hy;obtain ⟨c,hc,rfl⟩:=QL.mp hy;have sbx:=sb6.trans sx;dsimp only [Z4];exact ⟨_,rfl,_,rfl,_,rfl,_,rfl,_,rfl,rfl,.ref b,De,Lp,c,u,B,ed,ns,pn,rfl,⟨_,_,_,_,_,_,_,rfl,hB.mono sbx⟩,hEb.mono sbx,.of (sbx _ _ hLpb),pnd,List.length_pos_iff.mpr pne,by omega,ul,kn,j.clo (by omega),(fun s hs n hn=>⟨(j.up hs hn).1,(j.up hs hn).2,by have:=j.len s n;rw [Qd] at this;omega⟩),fun H7 s7=>⟨_,rfl,Zt (by rfl) ⟨_,rfl,sx.trans s7⟩⟩⟩
 case dn =>
 rintro σ Hx ⟨w,rfl,sx⟩;have sbx:=sb6.trans sx;have hBx:=hB.mono sbx;refine ⟨_,rfl,b,dx,_,rfl,hBx.ob,rfl,rfl,.ref b,B,rfl,⟨_,_,_,_,_,_,_,rfl,hBx⟩,by rw [bn];omega,fun H8 D8 s8 nD8 hD8=>?_⟩;rw [bn] at hD8;refine ⟨_,rfl,Lp,pn,rfl,.of (s8 _ _ (sbx _ _ hLpb)),by omega,fun D9 zs nD9 hp9 hs9=>?_⟩;obtain rfl:=Ju hp9 hs9;exact ⟨D8,D9,_,rfl,rfl,.of (Zl nD9 _ _ hD8),.of Zg,q _⟩
end
theorem ZiM {P:Program} {w:World} {K:W.Frag} {mg:Str->Option Value} {base:Heap} (T:Tx K w mg):ZfA P base T:=by
 have UH:=Zh1 (P:=P) (w:=w) (base:=base) T;have Uh:=ZkD (P:=P) (w:=w) (base:=base) T;have Zds:=Zox (P:=P) (w:=w) (base:=base) T UH;have ZcD:=ZkZ (P:=P) (w:=w) (base:=base) T UH;have Zdn:=Zln (P:=P) (w:=w) (base:=base) T;have Zdm:=Zla (P:=P) (w:=w) (base:=base) T Uh;have Zdg:=Zih (P:=P) (w:=w) (base:=base) T Uh Zds ZcD Zdn Zdm;have Zb2:=Zkp (P:=P) (w:=w) (base:=base) T Zdg;have UF:=ZlX (P:=P) (w:=w) (base:=base) T;have V5:=ZiP (P:=P) (w:=w) (base:=base) T;have Zbf:=Zle (P:=P) (w:=w) (base:=base) T;have Ur:=Zkg (P:=P) (w:=w) (base:=base) T UF;have Um:=Ziu (P:=P) (w:=w) (base:=base) T Ur;have Zbq:=Zif (P:=P) (w:=w) (base:=base) T;have Uz:=ZkS (P:=P) (w:=w) (base:=base) T;have ZbI:=Zjd (P:=P) (w:=w) (base:=base) T;have Y6:=ZiH (P:=P) (w:=w) (base:=base) T;have V0:=Zjf (P:=P) (w:=w) (base:=base) T Y6;have W3:=Zkl (P:=P) (w:=w) (base:=base) T Y6;have J8:=ZlY (P:=P) (w:=w) (base:=base) T V0 W3;have Zdw:=ZmY (P:=P) (w:=w) (base:=base) T V5 Zbf W3 J8;have Zbj:=Zh3 (P:=P) (w:=w) (base:=base) T Zb2 V5 Um Y6 Zdw;have XF:=Zks (P:=P) (w:=w) (base:=base) T;have ZbQ:=ZmH (P:=P) (w:=w) (base:=base) T XF;have Ui:=ZoN (P:=P) (w:=w) (base:=base) T Zbq Y6;have ZbE:=Zoj (P:=P) (w:=w) (base:=base) T Uz Y6;have Zbm:=ZnP (P:=P) (w:=w) (base:=base) T Uz XF Ui ZbE;have ZcB:=Zmh (P:=P) (w:=w) (base:=base) T UF Ur Um Zbj XF ZbQ Zbm;have Zc6:=Znq (P:=P) (w:=w) (base:=base) T;have ZdV:=ZnO (P:=P) (w:=w) (base:=base) T;have Uy:=ZmC (P:=P) (w:=w) (base:=base) T V0 Ui ZdV;have ZbC:=ZiW (P:=P) (w:=w) (base:=base) T;have Ut:=Zn1 (P:=P) (w:=w) (base:=base) T Uy;have JJ:=Zkr (P:=P) (w:=w) (base:=base) T;have Zcz:=ZmK (P:=P) (w:=w) (base:=base) T;have UP:=ZkG (P:=P) (w:=w) (base:=base) T Uy;have UY:=Zn7 (P:=P) (w:=w) (base:=base) T;have ZcY:=ZkB (P:=P) (w:=w) (base:=base) T;have Uw:=Zj1 (P:=P) (w:=w) (base:=base) T;have UX:=ZkC (P:=P) (w:=w) (base:=base) T;have WV:=Zi9 (P:=P) (w:=w) (base:=base) T Ut UP Uw;have VI:=ZnD (P:=P) (w:=w) (base:=base) T;have Us:=Zi0 (P:=P) (w:=w) (base:=base) T;have Zdo:=ZmJ (P:=P) (w:=w) (base:=base) T;have Zcl:=ZkH (P:=P) (w:=w) (base:=base) T;have ZbA:=ZnB (P:=P) (w:=w) (base:=base) T;have ZdU:=Zig (P:=P) (w:=w) (base:=base) T VI Us Zdo Zcl ZbA;have Zba:=Zow (P:=P) (w:=w) (base:=base) T;have Zbo:=ZmW (P:=P) (w:=w) (base:=base) T Zba;have JH:=Zjt (P:=P) (w:=w) (base:=base) T;have ZcX:=Zm6 (P:=P) (w:=w) (base:=base) T;have Zad:=ZmQ (P:=P) (w:=w) (base:=base) T ZcX;have ZbM:=ZkP (P:=P) (w:=w) (base:=base) T ZbC Zcz ZcY;have ZdT:=ZoE (P:=P) (w:=w) (base:=base) T Ut JJ UP UY Uw UX WV JH Zad ZbM;have ZjV:=ZkE (P:=P) (w:=w) (base:=base) T ZbI ZcB Zc6 VI Us ZdU Zbo ZdT;exact ZjV
theorem Zka {K:W.Frag} {w:World} {mg:Str->Option Value} (T:Tx K w mg) {vs:List V} {H:Hp} {Q:VK} {E:XK} (h:U3 K vs H Q E):Zej T vs H Q E:=by
 obtain ⟨a,ns,rfl,r⟩:=h;exact ⟨rfl,a,ns,rfl,r⟩
theorem all_mk {l:W.OpenLaw} {w:World} {K:W.Frag} {h:Heap} {mg:Str->Option Value} {fa:Addr} (X:K.In h) (G:h.Ns mainGlobals mg) (hfa:mg "law"=some (.ref fa))
  {OC_Said:Addr}
  {OC_Test:Addr}
  {OC_Letter:Addr}
  {OC_Piece:Addr}
  {OC_Book:Addr}
  {f0:Addr}
  {f1:Addr}
  {f2:Addr}
  {f3:Addr}
  {f4:Addr}
  {f5:Addr}
  {f6:Addr}
  {f7:Addr}
  {f8:Addr}
  {f9:Addr}
  {f10:Addr}
  {f11:Addr}
  {f12:Addr}
  {f13:Addr}
  {f14:Addr}
  {f15:Addr}
  {f16:Addr}
  {f17:Addr}
  {f18:Addr}
  {f19:Addr}
  {f20:Addr}
  {f21:Addr}
  {f22:Addr}
  {f23:Addr}
  {f24:Addr}
  {f25:Addr}
  {od25 an25:Option Addr} {sl25:Array (Option Value)} {oc25 kV25 dc25 pm25 cd25 ct25:Value}
  {DT25:Addr} {odD25:Option Addr} {nD25:Nat} {slD25:Array (Option Value)}
  {f26:Addr}
  {f27:Addr}
  {f28:Addr}
  {f29:Addr}
  {f30:Addr}
  {f31:Addr}
  {f32:Addr}
  {f33:Addr}
  {f34:Addr}
  {f35:Addr}
  {f36:Addr}
  {f37:Addr}
  {f38:Addr}
  {f39:Addr}
  {f40:Addr}
  {f41:Addr}
  {f42:Addr}
  {f43:Addr}
  {f44:Addr}
  {f45:Addr}
  {f46:Addr}
  {f47:Addr}
  {f48:Addr}
  {f49:Addr}
  {f50:Addr}
  {f51:Addr}
  {f52:Addr}
  {f53:Addr}
  {f54:Addr}
  {C0:Addr}
  {C1:Addr}
  {C2:Addr}
  {C3:Addr}
  {C4:Addr}
  {C5:Addr}
  {C6:Addr}
  {F0:Addr} {odF:Option Addr} {nF:Nat} {slF:Array (Option Value)} {tL:Tok}
  {P0 G0:Addr} {tp0:Tok} {odp0 odg0:Option Addr} {np0 ng0:Nat} {slp0 slg0:Array (Option Value)}
  {P1 G1:Addr} {tp1:Tok} {odp1 odg1:Option Addr} {np1 ng1:Nat} {slp1 slg1:Array (Option Value)}
  {P2 G2:Addr} {tp2:Tok} {odp2 odg2:Option Addr} {np2 ng2:Nat} {slp2 slg2:Array (Option Value)}
  {P3 G3:Addr} {tp3:Tok} {odp3 odg3:Option Addr} {np3 ng3:Nat} {slp3 slg3:Array (Option Value)}
  {P4 G4:Addr} {tp4:Tok} {odp4 odg4:Option Addr} {np4 ng4:Nat} {slp4 slg4:Array (Option Value)}
  {P5 G5:Addr} {tp5:Tok} {odp5 odg5:Option Addr} {np5 ng5:Nat} {slp5 slg5:Array (Option Value)}
  {KT0:Addr} {odT0:Option Addr} {nT0:Nat} {slT0:Array (Option Value)} {tt0_0:Tok} {tt0_1:Tok} {tt0_2:Tok} {tt0_3:Tok} {tt0_4:Tok} {tt0_5:Tok} {tt0_6:Tok}
  {KT1:Addr} {odT1:Option Addr} {nT1:Nat} {slT1:Array (Option Value)} {tt1_0:Tok} {tt1_1:Tok}
  {ti0:Tok}
  {ti1:Tok}
  (ao4:W.nsIn K mainGlobals "Said"=some (some (.ref OC_Said)))
  (ao3:W.nsIn K mainGlobals "Test"=some (some (.ref OC_Test)))
  (ao2:W.nsIn K mainGlobals "Letter"=some (some (.ref OC_Letter)))
  (ao1:W.nsIn K mainGlobals "Piece"=some (some (.ref OC_Piece)))
  (ao0:W.nsIn K mainGlobals "Book"=some (some (.ref OC_Book)))
  (a0:W.nsIn K mainGlobals "is_whole"=some (some (.ref f0)))
  (l0:DefIn K "is_whole" "is_whole" Zbu f0)
  (a1:W.nsIn K mainGlobals "is_name"=some (some (.ref f1)))
  (l1:DefIn K "is_name" "is_name" ZbY f1)
  (a2:W.nsIn K mainGlobals "is_day"=some (some (.ref f2)))
  (l2:DefIn K "is_day" "is_day" Zbp f2)
  (a3:W.nsIn K mainGlobals "is_amount"=some (some (.ref f3)))
  (l3:DefIn K "is_amount" "is_amount" ZbZ f3)
  (a4:W.nsIn K mainGlobals "is_sort"=some (some (.ref f4)))
  (l4:DefIn K "is_sort" "is_sort" ZdY f4)
  (a5:W.nsIn K mainGlobals "is_parent"=some (some (.ref f5)))
  (l5:DefIn K "is_parent" "is_parent" ZbJ f5)
  (a6:W.nsIn K mainGlobals "has_form"=some (some (.ref f6)))
  (l6:DefIn K "has_form" "has_form" ZcU f6)
  (a7:W.nsIn K mainGlobals "is_entry"=some (some (.ref f7)))
  (l7:DefIn K "is_entry" "is_entry" ZdO f7)
  (a8:W.nsIn K mainGlobals "is_tie"=some (some (.ref f8)))
  (l8:DefIn K "is_tie" "is_tie" ZbK f8)
  (a9:W.nsIn K mainGlobals "named_in"=some (some (.ref f9)))
  (l9:DefIn K "named_in" "named_in" Zcu f9)
  (a10:W.nsIn K mainGlobals "day_of"=some (some (.ref f10)))
  (l10:DefIn K "day_of" "day_of" Zb6 f10)
  (a11:W.nsIn K mainGlobals "as_told"=some (some (.ref f11)))
  (l11:DefIn K "as_told" "as_told" ZcH f11)
  (a12:W.nsIn K mainGlobals "key_of"=some (some (.ref f12)))
  (l12:DefIn K "key_of" "key_of" Zcg f12)
  (a13:W.nsIn K mainGlobals "is_letter"=some (some (.ref f13)))
  (l13:DefIn K "is_letter" "is_letter" Zcy f13)
  (a14:W.nsIn K mainGlobals "pair_of"=some (some (.ref f14)))
  (l14:DefIn K "pair_of" "pair_of" Zcf f14)
  (a15:W.findIn K (.ref OC_Book) "__init__"=some (some (.ref f15))) (i15:W.isFn K (.ref f15)=true)
  (l15:DefIn K "__init__" "Book.__init__" Zdq f15)
  (a16:W.findIn K (.ref OC_Book) "birth_of"=some (some (.ref f16))) (i16:W.isFn K (.ref f16)=true)
  (l16:DefIn K "birth_of" "Book.birth_of" ZdE f16)
  (a17:W.findIn K (.ref OC_Book) "sort_of"=some (some (.ref f17))) (i17:W.isFn K (.ref f17)=true)
  (l17:DefIn K "sort_of" "Book.sort_of" Zco f17)
  (a18:W.findIn K (.ref OC_Book) "born_on"=some (some (.ref f18))) (i18:W.isFn K (.ref f18)=true)
  (l18:DefIn K "born_on" "Book.born_on" ZcP f18)
  (a19:W.findIn K (.ref OC_Book) "parent_fits"=some (some (.ref f19))) (i19:W.isFn K (.ref f19)=true)
  (l19:DefIn K "parent_fits" "Book.parent_fits" ZdC f19)
  (a20:W.findIn K (.ref OC_Book) "fits"=some (some (.ref f20))) (i20:W.isFn K (.ref f20)=true)
  (l20:DefIn K "fits" "Book.fits" Zbw f20)
  (a21:W.findIn K (.ref OC_Book) "refuse"=some (some (.ref f21))) (i21:W.isFn K (.ref f21)=true)
  (l21:DefIn K "refuse" "Book.refuse" ZdX f21)
  (a22:W.findIn K (.ref OC_Book) "link"=some (some (.ref f22))) (i22:W.isFn K (.ref f22)=true)
  (l22:DefIn K "link" "Book.link" ZcL f22)
  (a23:W.findIn K (.ref OC_Book) "note_birth"=some (some (.ref f23))) (i23:W.isFn K (.ref f23)=true)
  (l23:DefIn K "note_birth" "Book.note_birth" ZcW f23)
  (a24:W.findIn K (.ref OC_Book) "step"=some (some (.ref f24))) (i24:W.isFn K (.ref f24)=true)
  (l24:DefIn K "step" "Book.step" Zdd f24)
  (a25:W.findIn K (.ref OC_Book) "stands"=some (some (.ref f25))) (i25:W.isFn K (.ref f25)=true)
  (l25:K.lookup f25=some ⟨oc25,od25,.func (W.fnOf "stands" "Book.stands" (Xu Wo) (Xh Wo) (Zw Wo) (.ref DT25) kV25 dc25 pm25 an25 cd25 ct25),sl25⟩)
  (cc25:W.codeIn K cd25 "Book.stands"=true) (k25:W.keepIn K (.ref f25)=true)
  (ldt25:K.lookup DT25=some ⟨.type "tuple",odD25,.seq #[.none] nD25,slD25⟩)
  (a26:W.findIn K (.ref OC_Book) "note_tie"=some (some (.ref f26))) (i26:W.isFn K (.ref f26)=true)
  (l26:DefIn K "note_tie" "Book.note_tie" Zcs f26)
  (a27:W.findIn K (.ref OC_Book) "put"=some (some (.ref f27))) (i27:W.isFn K (.ref f27)=true)
  (l27:DefIn K "put" "Book.put" Zdt f27)
  (a28:W.findIn K (.ref OC_Book) "people"=some (some (.ref f28))) (i28:W.isFn K (.ref f28)=true)
  (l28:DefIn K "people" "Book.people" ZcZ f28)
  (a29:W.nsIn K mainGlobals "is_test"=some (some (.ref f29)))
  (l29:DefIn K "is_test" "is_test" ZbH f29)
  (a30:W.nsIn K mainGlobals "led_by_step"=some (some (.ref f30)))
  (l30:DefIn K "led_by_step" "led_by_step" Zcx f30)
  (a31:W.findIn K (.ref OC_Letter) "__init__"=some (some (.ref f31))) (i31:W.isFn K (.ref f31)=true)
  (l31:DefIn K "__init__" "Letter.__init__" ZdI f31)
  (a32:W.findIn K (.ref OC_Letter) "leads_one"=some (some (.ref f32))) (i32:W.isFn K (.ref f32)=true)
  (l32:DefIn K "leads_one" "Letter.leads_one" ZbV f32)
  (a33:W.findIn K (.ref OC_Letter) "text"=some (some (.ref f33))) (i33:W.isFn K (.ref f33)=true)
  (l33:DefIn K "text" "Letter.text" Zca f33)
  (a34:W.findIn K (.ref OC_Test) "__init__"=some (some (.ref f34))) (i34:W.isFn K (.ref f34)=true)
  (l34:DefIn K "__init__" "Test.__init__" Zdb f34)
  (a35:W.findIn K (.ref OC_Test) "leads_one"=some (some (.ref f35))) (i35:W.isFn K (.ref f35)=true)
  (l35:DefIn K "leads_one" "Test.leads_one" Zdi f35)
  (a36:W.findIn K (.ref OC_Test) "text"=some (some (.ref f36))) (i36:W.isFn K (.ref f36)=true)
  (l36:DefIn K "text" "Test.text" ZbG f36)
  (a37:W.findIn K (.ref OC_Said) "__init__"=some (some (.ref f37))) (i37:W.isFn K (.ref f37)=true)
  (l37:DefIn K "__init__" "Said.__init__" Zda f37)
  (a38:W.findIn K (.ref OC_Said) "leads_one"=some (some (.ref f38))) (i38:W.isFn K (.ref f38)=true)
  (l38:DefIn K "leads_one" "Said.leads_one" Zc1 f38)
  (a39:W.findIn K (.ref OC_Said) "text"=some (some (.ref f39))) (i39:W.isFn K (.ref f39)=true)
  (l39:DefIn K "text" "Said.text" Zb9 f39)
  (a40:W.findIn K (.ref OC_Piece) "leads"=some (some (.ref f40))) (i40:W.isFn K (.ref f40)=true)
  (l40:DefIn K "leads" "Piece.leads" Zb4 f40)
  (a41:W.nsIn K mainGlobals "_law_cell_at"=some (some (.ref f41)))
  (l41:DefIn K "_law_cell_at" "_law_cell_at" Zdh f41)
  (a42:W.nsIn K mainGlobals "_law_names"=some (some (.ref f42)))
  (l42:DefIn K "_law_names" "_law_names" Zc2 f42)
  (a43:W.nsIn K mainGlobals "_law_day"=some (some (.ref f43)))
  (l43:DefIn K "_law_day" "_law_day" Zcp f43)
  (a44:W.nsIn K mainGlobals "_law_birth"=some (some (.ref f44)))
  (l44:DefIn K "_law_birth" "_law_birth" ZcE f44)
  (a45:W.nsIn K mainGlobals "_law_deed"=some (some (.ref f45)))
  (l45:DefIn K "_law_deed" "_law_deed" ZcK f45)
  (a46:W.nsIn K mainGlobals "_law_entries"=some (some (.ref f46)))
  (l46:DefIn K "_law_entries" "_law_entries" ZcT f46)
  (a47:W.nsIn K mainGlobals "_law_lead"=some (some (.ref f47)))
  (l47:DefIn K "_law_lead" "_law_lead" Zcd f47)
  (a48:W.nsIn K mainGlobals "_law_edges"=some (some (.ref f48)))
  (l48:DefIn K "_law_edges" "_law_edges" ZdM f48)
  (a49:W.nsIn K mainGlobals "_law_alike"=some (some (.ref f49)))
  (l49:DefIn K "_law_alike" "_law_alike" Zb7 f49)
  (a50:W.nsIn K mainGlobals "_law_mixed"=some (some (.ref f50)))
  (l50:DefIn K "_law_mixed" "_law_mixed" Zdx f50)
  (a51:W.nsIn K mainGlobals "_law_table"=some (some (.ref f51)))
  (l51:DefIn K "_law_table" "_law_table" Zbi f51)
  (a52:W.nsIn K mainGlobals "_law_piece"=some (some (.ref f52)))
  (l52:DefIn K "_law_piece" "_law_piece" Zbg f52)
  (a53:W.nsIn K mainGlobals "_law_stands"=some (some (.ref f53)))
  (l53:DefIn K "_law_stands" "_law_stands" ZbR f53)
  (a54:W.nsIn K mainGlobals "law"=some (some (.ref f54)))
  (l54:DefIn K "law" "law" Zde f54)
  (pg0:W.plainGet K OC_Book Str.empty=true) (hd0:W.hasDictIn K OC_Book=true) (po0:W.plainOver K OC_Book=true) (sa0:W.findIn K (.ref OC_Book) "__setattr__"=some (some (.builtin "object.__setattr__"))) (mk0:W.makesIn K OC_Book=true) (kc0:W.keepIn K (.ref OC_Book)=true)
  (na0_kept:W.findIn K (.ref OC_Book) "kept"=some none)
  (na0_births:W.findIn K (.ref OC_Book) "births"=some none)
  (na0_links:W.findIn K (.ref OC_Book) "links"=some none)
  (na0_ties:W.findIn K (.ref OC_Book) "ties"=some none)
  (na0_sums:W.findIn K (.ref OC_Book) "sums"=some none)
  (pg2:W.plainGet K OC_Letter Str.empty=true) (hd2:W.hasDictIn K OC_Letter=true) (po2:W.plainOver K OC_Letter=true) (sa2:W.findIn K (.ref OC_Letter) "__setattr__"=some (some (.builtin "object.__setattr__"))) (mk2:W.makesIn K OC_Letter=true) (kc2:W.keepIn K (.ref OC_Letter)=true)
  (na2_letter:W.findIn K (.ref OC_Letter) "letter"=some none)
  (pg3:W.plainGet K OC_Test Str.empty=true) (hd3:W.hasDictIn K OC_Test=true) (po3:W.plainOver K OC_Test=true) (sa3:W.findIn K (.ref OC_Test) "__setattr__"=some (some (.builtin "object.__setattr__"))) (mk3:W.makesIn K OC_Test=true) (kc3:W.keepIn K (.ref OC_Test)=true)
  (na3_wanted:W.findIn K (.ref OC_Test) "wanted"=some none)
  (pg4:W.plainGet K OC_Said Str.empty=true) (hd4:W.hasDictIn K OC_Said=true) (po4:W.plainOver K OC_Said=true) (sa4:W.findIn K (.ref OC_Said) "__setattr__"=some (some (.builtin "object.__setattr__"))) (mk4:W.makesIn K OC_Said=true) (kc4:W.keepIn K (.ref OC_Said)=true)
  (na4_word:W.findIn K (.ref OC_Said) "word"=some none)
  (ac0:W.nsIn K mainGlobals "HeirError"=some (some (.ref C0)))
  (ac1:W.nsIn K mainGlobals "NoEntry"=some (some (.ref C1)))
  (xc1:W.excIn K C1 XG "ValueError.__new__"=true)
  (e1_1:W.findIn K (.ref C1) "__getattribute__"=some (some (.builtin "BaseException.__getattribute__"))) (e2_1:W.findIn K (.ref C1) "__getattr__"=some none) (e3_1:W.findIn K (.ref C1) "__class__"=some (some (.builtin "object.__class__"))) (e4_1:W.mroIn K C1 (.type "BaseException")=some true) (e5_1:W.mroIn K C1 (.type "object")=some true)
  (ac2:W.nsIn K mainGlobals "Full"=some (some (.ref C2)))
  (xc2:W.excIn K C2 XG "ValueError.__new__"=true)
  (e1_2:W.findIn K (.ref C2) "__getattribute__"=some (some (.builtin "BaseException.__getattribute__"))) (e2_2:W.findIn K (.ref C2) "__getattr__"=some none) (e3_2:W.findIn K (.ref C2) "__class__"=some (some (.builtin "object.__class__"))) (e4_2:W.mroIn K C2 (.type "BaseException")=some true) (e5_2:W.mroIn K C2 (.type "object")=some true)
  (ac3:W.nsIn K mainGlobals "NoPerson"=some (some (.ref C3)))
  (xc3:W.excIn K C3 XG "ValueError.__new__"=true)
  (e1_3:W.findIn K (.ref C3) "__getattribute__"=some (some (.builtin "BaseException.__getattribute__"))) (e2_3:W.findIn K (.ref C3) "__getattr__"=some none) (e3_3:W.findIn K (.ref C3) "__class__"=some (some (.builtin "object.__class__"))) (e4_3:W.mroIn K C3 (.type "BaseException")=some true) (e5_3:W.mroIn K C3 (.type "object")=some true)
  (ac4:W.nsIn K mainGlobals "Twice"=some (some (.ref C4)))
  (xc4:W.excIn K C4 XG "ValueError.__new__"=true)
  (e1_4:W.findIn K (.ref C4) "__getattribute__"=some (some (.builtin "BaseException.__getattribute__"))) (e2_4:W.findIn K (.ref C4) "__getattr__"=some none) (e3_4:W.findIn K (.ref C4) "__class__"=some (some (.builtin "object.__class__"))) (e4_4:W.mroIn K C4 (.type "BaseException")=some true) (e5_4:W.mroIn K C4 (.type "object")=some true)
  (ac5:W.nsIn K mainGlobals "NoFit"=some (some (.ref C5)))
  (xc5:W.excIn K C5 XG "ValueError.__new__"=true)
  (e1_5:W.findIn K (.ref C5) "__getattribute__"=some (some (.builtin "BaseException.__getattribute__"))) (e2_5:W.findIn K (.ref C5) "__getattr__"=some none) (e3_5:W.findIn K (.ref C5) "__class__"=some (some (.builtin "object.__class__"))) (e4_5:W.mroIn K C5 (.type "BaseException")=some true) (e5_5:W.mroIn K C5 (.type "object")=some true)
  (ac6:W.nsIn K mainGlobals "NoWay"=some (some (.ref C6)))
  (xc6:W.excIn K C6 XG "ValueError.__new__"=true)
  (e1_6:W.findIn K (.ref C6) "__getattribute__"=some (some (.builtin "BaseException.__getattribute__"))) (e2_6:W.findIn K (.ref C6) "__getattr__"=some none) (e3_6:W.findIn K (.ref C6) "__class__"=some (some (.builtin "object.__class__"))) (e4_6:W.mroIn K C6 (.type "BaseException")=some true) (e5_6:W.mroIn K C6 (.type "object")=some true)
  (z_abs:W.nsIn K mainGlobals "abs"=some none)
  (z_all:W.nsIn K mainGlobals "all"=some none)
  (z_bool:W.nsIn K mainGlobals "bool"=some none)
  (z_int:W.nsIn K mainGlobals "int"=some none)
  (z_isinstance:W.nsIn K mainGlobals "isinstance"=some none)
  (z_len:W.nsIn K mainGlobals "len"=some none)
  (z_list:W.nsIn K mainGlobals "list"=some none)
  (z_max:W.nsIn K mainGlobals "max"=some none)
  (z_min:W.nsIn K mainGlobals "min"=some none)
  (z_range:W.nsIn K mainGlobals "range"=some none)
  (z_sorted:W.nsIn K mainGlobals "sorted"=some none)
  (z_str:W.nsIn K mainGlobals "str"=some none)
  (z_tuple:W.nsIn K mainGlobals "tuple"=some none)
  (z_zip:W.nsIn K mainGlobals "zip"=some none)
  (q_k_int_int:W.kitOne K (.type "int") (.type "int")=some true)
  (q_k_int_str:W.kitOne K (.type "int") (.type "str")=some false)
  (q_k_int_tuple:W.kitOne K (.type "int") (.type "tuple")=some false)
  (q_k_int_bool:W.kitOne K (.type "int") (.type "bool")=some false)
  (q_k_str_int:W.kitOne K (.type "str") (.type "int")=some false)
  (q_k_str_str:W.kitOne K (.type "str") (.type "str")=some true)
  (q_k_str_tuple:W.kitOne K (.type "str") (.type "tuple")=some false)
  (q_k_bool_int:W.kitOne K (.type "bool") (.type "int")=some true)
  (q_k_bool_str:W.kitOne K (.type "bool") (.type "str")=some false)
  (q_k_bool_tuple:W.kitOne K (.type "bool") (.type "tuple")=some false)
  (q_k_bool_bool:W.kitOne K (.type "bool") (.type "bool")=some true)
  (q_k_NoneType_int:W.kitOne K (.type "NoneType") (.type "int")=some false)
  (q_k_NoneType_str:W.kitOne K (.type "NoneType") (.type "str")=some false)
  (q_k_NoneType_tuple:W.kitOne K (.type "NoneType") (.type "tuple")=some false)
  (q_k_tuple_int:W.kitOne K (.type "tuple") (.type "int")=some false)
  (q_k_tuple_str:W.kitOne K (.type "tuple") (.type "str")=some false)
  (q_k_tuple_tuple:W.kitOne K (.type "tuple") (.type "tuple")=some true)
  (q_k_list_int:W.kitOne K (.type "list") (.type "int")=some false)
  (q_k_list_str:W.kitOne K (.type "list") (.type "str")=some false)
  (q_k_list_tuple:W.kitOne K (.type "list") (.type "tuple")=some false)
  (q_k_dict_int:W.kitOne K (.type "dict") (.type "int")=some false)
  (q_k_dict_str:W.kitOne K (.type "dict") (.type "str")=some false)
  (q_k_dict_tuple:W.kitOne K (.type "dict") (.type "tuple")=some false)
  (q_kl_list:W.kitOne K (.type "list") (.type "list")=some true)
  (q_kx_HeirError:W.kitOne K (.ref C3) (.ref C0)=some true)
  (q_kx_ValueError:W.kitOne K (.ref C3) (.type "ValueError")=some true)
  (y_lm_Letter:W.findIn K (.ref OC_Letter) "leads"=some (some (.ref f40)))
  (y_ci_Letter:W.findIn K (.ref OC_Letter) "__class__"=some (some (.builtin "object.__class__")))
  (y_mo_Letter:W.mroIn K OC_Letter (.type "object")=some true)
  (y_kp_Letter:W.kitOne K (.ref OC_Letter) (.ref OC_Piece)=some true)
  (y_lm_Test:W.findIn K (.ref OC_Test) "leads"=some (some (.ref f40)))
  (y_ci_Test:W.findIn K (.ref OC_Test) "__class__"=some (some (.builtin "object.__class__")))
  (y_mo_Test:W.mroIn K OC_Test (.type "object")=some true)
  (y_kp_Test:W.kitOne K (.ref OC_Test) (.ref OC_Piece)=some true)
  (y_lm_Said:W.findIn K (.ref OC_Said) "leads"=some (some (.ref f40)))
  (y_ci_Said:W.findIn K (.ref OC_Said) "__class__"=some (some (.builtin "object.__class__")))
  (y_mo_Said:W.mroIn K OC_Said (.type "object")=some true)
  (y_kp_Said:W.kitOne K (.ref OC_Said) (.ref OC_Piece)=some true)
  (y_cg:W.specialIn K (.builtin "object.__class__") "__get__"=some (some (.builtin "getset_descriptor.__get__")))
  (y_ct:W.takesIn K (.builtin "object.__class__")=some true)
  (zF:W.nsIn K mainGlobals "FORMS"=some (some (.ref F0)))
  (zL:W.nsIn K mainGlobals "LETTERS"=some (some (.str "abcdefghijklmnopqrstuvwxyz" tL)))
  (uF:K.lookup F0=some ⟨.type "tuple",odF,.seq #[.ref P0,.ref P1,.ref P2,.ref P3,.ref P4,.ref P5] nF,slF⟩)
  (up0:K.lookup P0=some ⟨.type "tuple",odp0,.seq #[.str "born" tp0,.ref G0] np0,slp0⟩)
  (up1:K.lookup P1=some ⟨.type "tuple",odp1,.seq #[.str "taken" tp1,.ref G1] np1,slp1⟩)
  (up2:K.lookup P2=some ⟨.type "tuple",odp2,.seq #[.str "union" tp2,.ref G2] np2,slp2⟩)
  (up3:K.lookup P3=some ⟨.type "tuple",odp3,.seq #[.str "parted" tp3,.ref G3] np3,slp3⟩)
  (up4:K.lookup P4=some ⟨.type "tuple",odp4,.seq #[.str "dead" tp4,.ref G4] np4,slp4⟩)
  (up5:K.lookup P5=some ⟨.type "tuple",odp5,.seq #[.str "given" tp5,.ref G5] np5,slp5⟩)
  (ug0:K.lookup G0=some ⟨.type "tuple",odg0,.seq #[.ref f1,.ref f4,.ref f2,.ref f5,.ref f5] ng0,slg0⟩)
  (ug1:K.lookup G1=some ⟨.type "tuple",odg1,.seq #[.ref f1,.ref f1,.ref f2] ng1,slg1⟩)
  (ug2:K.lookup G2=some ⟨.type "tuple",odg2,.seq #[.ref f1,.ref f1,.ref f2] ng2,slg2⟩)
  (ug3:K.lookup G3=some ⟨.type "tuple",odg3,.seq #[.ref f1,.ref f1,.ref f2] ng3,slg3⟩)
  (ug4:K.lookup G4=some ⟨.type "tuple",odg4,.seq #[.ref f1,.ref f2] ng4,slg4⟩)
  (ug5:K.lookup G5=some ⟨.type "tuple",odg5,.seq #[.ref f1,.ref f1,.ref f3,.ref f2] ng5,slg5⟩)
  (zt0:W.nsIn K mainGlobals "STEP_LETTERS"=some (some (.ref KT0)))
  (ut0:K.lookup KT0=some ⟨.type "tuple",odT0,.seq #[.str "F" tt0_0,.str "M" tt0_1,.str "T" tt0_2,.str "f" tt0_3,.str "m" tt0_4,.str "t" tt0_5,.str "S" tt0_6] nT0,slT0⟩)
  (zt1:W.nsIn K mainGlobals "TESTS"=some (some (.ref KT1)))
  (ut1:K.lookup KT1=some ⟨.type "tuple",odT1,.seq #[.str "he" tt1_0,.str "she" tt1_1] nT1,slT1⟩)
  (zi0:W.nsIn K mainGlobals "MOST_ENTRIES"=some (some (.int 400 ti0)))
  (zi1:W.nsIn K mainGlobals "MOST_PEOPLE"=some (some (.int 60 ti1))) :
  ∃fd:FuncData,(∀(s:Shared) (v:Value),BindsTo s fd ⟨[v],[]⟩ [("_law_script",v)])∧∀base:Heap,K.In base->base.Ns mainGlobals mg->FnOk l.prog w K mg base (Zx l.prog w) 7 fa fd ["_law_script"] (U3 K):=by
 have e:=hfa.symm.trans (QM X G a54);cases e;have T:Σ' (T:Tx K w mg),T.Vq.a=fa:=⟨{ c_Said:=OC_Said,c_Test:=OC_Test,c_Letter:=OC_Letter,c_Piece:=OC_Piece,c_Book:=OC_Book,J1:=.of X G a0 l0 (fun _ _ _ _ _ _=>YG fun _=>rfl),YU:=.of X G a1 l1 (fun _ _ _ _ _ _=>YG fun _=>rfl),Xf:=.of X G a2 l2 (fun _ _ _ _ _ _=>YG fun _=>rfl),Wb:=.of X G a3 l3 (fun _ _ _ _ _ _=>YG fun _=>rfl),We:=.of X G a4 l4 (fun _ _ _ _ _ _=>YG fun _=>rfl),X6:=.of X G a5 l5 (fun _ _ _ _ _ _=>YG fun _=>rfl),Zal:=.of X G a6 l6 (fun _ _ _ _ _ _=>Y3 fun _ _=>rfl),ZaL:=.of X G a7 l7 (fun _ _ _ _ _ _=>YG fun _=>rfl),Zay:=.of X G a8 l8 (fun _ _ _ _ _ _=>YG fun _=>rfl),ZaS:=.of X G a9 l9 (fun _ _ _ _ _ _=>YG fun _=>rfl),Zbc:=.of X G a10 l10 (fun _ _ _ _ _ _=>YG fun _=>rfl),Za6:=.of X G a11 l11 (fun _ _ _ _ _ _=>YG fun _=>rfl),Zao:=.of X G a12 l12 (fun _ _ _ _ _ _=>YG fun _=>rfl),ZaM:=.of X G a13 l13 (fun _ _ _ _ _ _=>YG fun _=>rfl),Zap:=.of X G a14 l14 (fun _ _ _ _ _ _=>Y3 fun _ _=>rfl),Uk:=.of a15 i15 l15 (fun _ _ _ _ _ _=>YG fun _=>rfl),Y7:=.of a16 i16 l16 (fun _ _ _ _ _ _=>Y3 fun _ _=>rfl),Vh:=.of a17 i17 l17 (fun _ _ _ _ _ _=>Y3 fun _ _=>rfl),XV:=.of a18 i18 l18 (fun _ _ _ _ _ _=>Y3 fun _ _=>rfl),Vi:=.of a19 i19 l19 (fun _ _ _ _ _ _=>WS fun _ _ _ _=>rfl),Uc:=.of a20 i20 l20 (fun _ _ _ _ _ _=>Y3 fun _ _=>rfl),Uu:=.of a21 i21 l21 (fun _ _ _ _ _ _=>Y3 fun _ _=>rfl),YV:=.of a22 i22 l22 (fun _ _ _ _ _ _=>WS fun _ _ _ _=>rfl),Ud:=.of a23 i23 l23 (fun _ _ _ _ _ _=>Y3 fun _ _=>rfl),Vf:=.of a24 i24 l24 (fun _ _ _ _ _ _=>Jc fun _ _ _=>rfl),a_Book_stands:=f25,fd_Book_stands:=W.fnOf "stands" "Book.stands" (Xu Wo) (Xh Wo) (Zw Wo) (.ref DT25) kV25 dc25 pm25 an25 cd25 ct25,dt_Book_stands:=DT25,F_Book_stands:=Zfv (st:=Wo) l25 cc25 k25,b_Book_stands:=(Zfv (st:=Wo) l25 cc25 k25).binds1 ldt25 rfl (fun _ _ _ _ _ _ us hl=>match us,hl with|[_,_,_],_=>⟨_,rfl,rfl⟩),me_Book_stands:=⟨a25,i25,k25⟩,UJ:=.of a26 i26 l26 (fun _ _ _ _ _ _=>Y3 fun _ _=>rfl),VW:=.of a27 i27 l27 (fun _ _ _ _ _ _=>Y3 fun _ _=>rfl),UQ:=.of a28 i28 l28 (fun _ _ _ _ _ _=>YG fun _=>rfl),JY:=.of X G a29 l29 (fun _ _ _ _ _ _=>YG fun _=>rfl),Zbd:=.of X G a30 l30 (fun _ _ _ _ _ _=>Jc fun _ _ _=>rfl),VX:=.of a31 i31 l31 (fun _ _ _ _ _ _=>Y3 fun _ _=>rfl),Vd:=.of a32 i32 l32 (fun _ _ _ _ _ _=>WS fun _ _ _ _=>rfl),Wj:=.of a33 i33 l33 (fun _ _ _ _ _ _=>YG fun _=>rfl),Ua:=.of a34 i34 l34 (fun _ _ _ _ _ _=>Y3 fun _ _=>rfl),W1:=.of a35 i35 l35 (fun _ _ _ _ _ _=>WS fun _ _ _ _=>rfl),X9:=.of a36 i36 l36 (fun _ _ _ _ _ _=>YG fun _=>rfl),V3:=.of a37 i37 l37 (fun _ _ _ _ _ _=>Y3 fun _ _=>rfl),WU:=.of a38 i38 l38 (fun _ _ _ _ _ _=>WS fun _ _ _ _=>rfl),Wd:=.of a39 i39 l39 (fun _ _ _ _ _ _=>YG fun _=>rfl),Yw:=.of a40 i40 l40 (fun _ _ _ _ _ _=>WS fun _ _ _ _=>rfl),Za1:=.of X G a41 l41 (fun _ _ _ _ _ _=>Y3 fun _ _=>rfl),Zaj:=.of X G a42 l42 (fun _ _ _ _ _ _=>YG fun _=>rfl),Zab:=.of X G a43 l43 (fun _ _ _ _ _ _=>Jc fun _ _ _=>rfl),Zau:=.of X G a44 l44 (fun _ _ _ _ _ _=>WS fun _ _ _ _=>rfl),ZaV:=.of X G a45 l45 (fun _ _ _ _ _ _=>WS fun _ _ _ _=>rfl),Zan:=.of X G a46 l46 (fun _ _ _ _ _ _=>Jc fun _ _ _=>rfl),JW:=.of X G a47 l47 (fun _ _ _ _ _ _=>WS fun _ _ _ _=>rfl),Zag:=.of X G a48 l48 (fun _ _ _ _ _ _=>YG fun _=>rfl),ZaY:=.of X G a49 l49 (fun _ _ _ _ _ _=>Y3 fun _ _=>rfl),ZaC:=.of X G a50 l50 (fun _ _ _ _ _ _=>Y3 fun _ _=>rfl),Zaq:=.of X G a51 l51 (fun _ _ _ _ _ _=>Jc fun _ _ _=>rfl),Zae:=.of X G a52 l52 (fun _ _ _ _ _ _=>Y3 fun _ _=>rfl),Zaw:=.of X G a53 l53 (fun _ _ _ _ _ _=>un5 fun _ _ _ _ _=>rfl),Vq:=.of X G a54 l54 (fun _ _ _ _ _ _=>YG fun _=>rfl),m_Book:=(QM X G ao0),cl_Book:=⟨pg0,hd0,po0,sa0⟩,mk_Book:=⟨mk0,a15,i15,kc0⟩,na_Book_kept:=na0_kept,na_Book_births:=na0_births,na_Book_links:=na0_links,na_Book_ties:=na0_ties,na_Book_sums:=na0_sums,m_Piece:=(QM X G ao1),m_Letter:=(QM X G ao2),cl_Letter:=⟨pg2,hd2,po2,sa2⟩,mk_Letter:=⟨mk2,a31,i31,kc2⟩,na_Letter_letter:=na2_letter,m_Test:=(QM X G ao3),cl_Test:=⟨pg3,hd3,po3,sa3⟩,mk_Test:=⟨mk3,a34,i34,kc3⟩,na_Test_wanted:=na3_wanted,m_Said:=(QM X G ao4),cl_Said:=⟨pg4,hd4,po4,sa4⟩,mk_Said:=⟨mk4,a37,i37,kc4⟩,na_Said_word:=na4_word,c_HeirError:=C0,m_HeirError:=(QM X G ac0),c_NoEntry:=C1,m_NoEntry:=(QM X G ac1),x_NoEntry:=xc1,e_NoEntry:=⟨e1_1,e2_1,e3_1,e4_1,e5_1⟩,c_Full:=C2,m_Full:=(QM X G ac2),x_Full:=xc2,e_Full:=⟨e1_2,e2_2,e3_2,e4_2,e5_2⟩,c_NoPerson:=C3,m_NoPerson:=(QM X G ac3),x_NoPerson:=xc3,e_NoPerson:=⟨e1_3,e2_3,e3_3,e4_3,e5_3⟩,c_Twice:=C4,m_Twice:=(QM X G ac4),x_Twice:=xc4,e_Twice:=⟨e1_4,e2_4,e3_4,e4_4,e5_4⟩,c_NoFit:=C5,m_NoFit:=(QM X G ac5),x_NoFit:=xc5,e_NoFit:=⟨e1_5,e2_5,e3_5,e4_5,e5_5⟩,c_NoWay:=C6,m_NoWay:=(QM X G ac6),x_NoWay:=xc6,e_NoWay:=⟨e1_6,e2_6,e3_6,e4_6,e5_6⟩,n_abs:=(Q4 X G z_abs),n_all:=(Q4 X G z_all),n_bool:=(Q4 X G z_bool),n_int:=(Q4 X G z_int),n_isinstance:=(Q4 X G z_isinstance),n_len:=(Q4 X G z_len),n_list:=(Q4 X G z_list),n_max:=(Q4 X G z_max),n_min:=(Q4 X G z_min),n_range:=(Q4 X G z_range),n_sorted:=(Q4 X G z_sorted),n_str:=(Q4 X G z_str),n_tuple:=(Q4 X G z_tuple),n_zip:=(Q4 X G z_zip),k_int_int:=q_k_int_int,k_int_str:=q_k_int_str,k_int_tuple:=q_k_int_tuple,k_int_bool:=q_k_int_bool,k_str_int:=q_k_str_int,k_str_str:=q_k_str_str,k_str_tuple:=q_k_str_tuple,k_bool_int:=q_k_bool_int,k_bool_str:=q_k_bool_str,k_bool_tuple:=q_k_bool_tuple,k_bool_bool:=q_k_bool_bool,k_NoneType_int:=q_k_NoneType_int,k_NoneType_str:=q_k_NoneType_str,k_NoneType_tuple:=q_k_NoneType_tuple,k_tuple_int:=q_k_tuple_int,k_tuple_str:=q_k_tuple_str,k_tuple_tuple:=q_k_tuple_tuple,k_list_int:=q_k_list_int,k_list_str:=q_k_list_str,k_list_tuple:=q_k_list_tuple,k_dict_int:=q_k_dict_int,k_dict_str:=q_k_dict_str,k_dict_tuple:=q_k_dict_tuple,kl_list:=q_kl_list,kx_HeirError:=q_kx_HeirError,kx_ValueError:=q_kx_ValueError,lm_Letter:=y_lm_Letter,ci_Letter:=y_ci_Letter,mo_Letter:=y_mo_Letter,kp_Letter:=y_kp_Letter,lm_Test:=y_lm_Test,ci_Test:=y_ci_Test,mo_Test:=y_mo_Test,kp_Test:=y_kp_Test,lm_Said:=y_lm_Said,ci_Said:=y_ci_Said,mo_Said:=y_mo_Said,kp_Said:=y_kp_Said,cg:=y_cg,ct:=y_ct,aF:=F0,m_FORMS:=(QM X G zF),tkL:=tL,m_LETTERS:=(QM X G zL),p0:=P0,g0:=G0,p1:=P1,g1:=G1,p2:=P2,g2:=G2,p3:=P3,g3:=G3,p4:=P4,g4:=G4,p5:=P5,g5:=G5,sF:=fun _=>.inr ⟨_,_,_,uF,rfl,rfl,ZD (QC rfl),.cons rfl (.cons rfl (.cons rfl (.cons rfl (.cons rfl (.cons rfl .nil)))))⟩,sp0:=fun _=>.inr ⟨_,_,_,up0,rfl,rfl,ZD (QC rfl),.cons ⟨_,rfl⟩ (.cons rfl .nil)⟩,sp1:=fun _=>.inr ⟨_,_,_,up1,rfl,rfl,ZD (QC rfl),.cons ⟨_,rfl⟩ (.cons rfl .nil)⟩,sp2:=fun _=>.inr ⟨_,_,_,up2,rfl,rfl,ZD (QC rfl),.cons ⟨_,rfl⟩ (.cons rfl .nil)⟩,sp3:=fun _=>.inr ⟨_,_,_,up3,rfl,rfl,ZD (QC rfl),.cons ⟨_,rfl⟩ (.cons rfl .nil)⟩,sp4:=fun _=>.inr ⟨_,_,_,up4,rfl,rfl,ZD (QC rfl),.cons ⟨_,rfl⟩ (.cons rfl .nil)⟩,sp5:=fun _=>.inr ⟨_,_,_,up5,rfl,rfl,ZD (QC rfl),.cons ⟨_,rfl⟩ (.cons rfl .nil)⟩,sg0:=fun _=>.inr ⟨_,_,_,ug0,rfl,rfl,ZD (QC rfl),.cons rfl (.cons rfl (.cons rfl (.cons rfl (.cons rfl (.nil)))))⟩,sg1:=fun _=>.inr ⟨_,_,_,ug1,rfl,rfl,ZD (QC rfl),.cons rfl (.cons rfl (.cons rfl (.nil)))⟩,sg2:=fun _=>.inr ⟨_,_,_,ug2,rfl,rfl,ZD (QC rfl),.cons rfl (.cons rfl (.cons rfl (.nil)))⟩,sg3:=fun _=>.inr ⟨_,_,_,ug3,rfl,rfl,ZD (QC rfl),.cons rfl (.cons rfl (.cons rfl (.nil)))⟩,sg4:=fun _=>.inr ⟨_,_,_,ug4,rfl,rfl,ZD (QC rfl),.cons rfl (.cons rfl (.nil))⟩,sg5:=fun _=>.inr ⟨_,_,_,ug5,rfl,rfl,ZD (QC rfl),.cons rfl (.cons rfl (.cons rfl (.cons rfl (.nil))))⟩,a_STEP_LETTERS:=KT0,m_STEP_LETTERS:=(QM X G zt0),Zf8:=fun _=>.inr ⟨_,_,_,ut0,rfl,rfl,ZD (QC rfl),.cons ⟨_,rfl⟩ (.cons ⟨_,rfl⟩ (.cons ⟨_,rfl⟩ (.cons ⟨_,rfl⟩ (.cons ⟨_,rfl⟩ (.cons ⟨_,rfl⟩ (.cons ⟨_,rfl⟩ (.nil)))))))⟩,a_TESTS:=KT1,m_TESTS:=(QM X G zt1),Zgm:=fun _=>.inr ⟨_,_,_,ut1,rfl,rfl,ZD (QC rfl),.cons ⟨_,rfl⟩ (.cons ⟨_,rfl⟩ (.nil))⟩,t_MOST_ENTRIES:=ti0,m_MOST_ENTRIES:=(QM X G zi0),t_MOST_PEOPLE:=ti1,m_MOST_PEOPLE:=(QM X G zi1) },rfl⟩;obtain ⟨T,ea⟩:=T;subst ea;refine ⟨(Zz K T.Vq.a),fun s v=>?_,fun base _ _=>(ZiM T).imp fun vs H Q E z=>?_⟩
 ·obtain ⟨oc,od,kV,doc,pm,an,cdv,ct,osl,e,_⟩:=T.Vq.F.ex;rw [e];exact .of_eq rfl
 exact Zka T z
theorem walk {l:W.OpenLaw} {q:Program} {loose:List Str} {XP:(Str->Option Value)->Heap->Prop} {YP:World->Heap->Prop} {d:DefRec} {K:Params->W.Frag} (hn:l.most=some 63) (hdf:d.params.defaults=[])
  (hY:∀(w:World) (h:Heap),YP w h->(K w.params).In h)
  (F:∀(w:World) (mg:Str->Option Value) (fa:Addr) (h:Heap),(K w.params).In h->h.Ns mainGlobals mg->mg d.name=some (.ref fa) →
   ∃fd:FuncData,(∀(s:Shared) (u:Value),BindsTo s fd ⟨[u],[]⟩ [("_law_script",u)])∧∀base:Heap,(K w.params).In base->base.Ns mainGlobals mg->FnOk l.prog w (K w.params) mg base (Zx l.prog w) 7 fa fd ["_law_script"] (U3 (K w.params))) :
  W.WalkO q loose XP YP l.row.toRowW d [] (fun f vs=>PySem.call f vs) :=
 L2.walk_of (n:=63) (k:=7) (x:="_law_script") (CX:=fun w=>Zx l.prog w) (sp:=fun w=>U3 (K w.params)) hn (by decide) hdf ⟨rfl,by decide,by decide⟩ hY F (fun _ _ a ns hl _ hS=>⟨a,ns,rfl,hS,hl,fun _=>rfl⟩) fun _ _ _ _ _ ⟨_,_,_,_,_,z⟩=>z
end K31
open PySem PySem.W PyProof.Rows
set_option maxRecDepth 100000 in
set_option maxHeartbeats 0 in
theorem PySem.Challenge.cw_heirbook_k31_pieces_holds : PySem.Challenge.rw_heirbook_k31_pieces.Holds := by
 refine K31.hd ?_
 k_fill
 refine K31.walk (l:=PySem.Challenge.rw_heirbook_k31_pieces) rfl rfl (fun w h Y=>PySem.W.kIn_of Y) ?F
 case F =>
  intro w mg fa h KX G hmg;apply K31.all_mk KX G hmg
  case ao4|ao3|ao2|ao1|ao0|a0|a1|a2|a3|a4|a5|a6|a7|a8|a9|a10|a11|a12|a13|a14|a15|i15|a16|i16|a17|i17|a18|i18|a19|i19|a20|i20|a21|i21|a22|i22|a23|i23|a24|i24|a25|i25|l25|cc25|k25|ldt25|a26|i26|a27|i27|a28|i28|a29|a30|a31|i31|a32|i32|a33|i33|a34|i34|a35|i35|a36|i36|a37|i37|a38|i38|a39|i39|a40|i40|a41|a42|a43|a44|a45|a46|a47|a48|a49|a50|a51|a52|a53|a54|pg0|hd0|po0|sa0|mk0|kc0|na0_kept|na0_births|na0_links|na0_ties|na0_sums|pg2|hd2|po2|sa2|mk2|kc2|na2_letter|pg3|hd3|po3|sa3|mk3|kc3|na3_wanted|pg4|hd4|po4|sa4|mk4|kc4|na4_word|ac0|ac1|e1_1|e2_1|e3_1|e4_1|e5_1|ac2|e1_2|e2_2|e3_2|e4_2|e5_2|ac3|e1_3|e2_3|e3_3|e4_3|e5_3|ac4|e1_4|e2_4|e3_4|e4_4|e5_4|ac5|e1_5|e2_5|e3_5|e4_5|e5_5|ac6|e1_6|e2_6|e3_6|e4_6|e5_6|z_abs|z_all|z_bool|z_int|z_isinstance|z_len|z_list|z_max|z_min|z_range|z_sorted|z_str|z_tuple|z_zip|y_lm_Letter|y_ci_Letter|y_mo_Letter|y_lm_Test|y_ci_Test|y_mo_Test|y_lm_Said|y_ci_Said|y_mo_Said|y_cg|y_ct|zF|zL|uF|up0|up1|up2|up3|up4|up5|ug0|ug1|ug2|ug3|ug4|ug5|zt0|ut0|zt1|ut1|zi0|zi1=>k_is
  case l0|l1|l2|l3|l4|l5|l6|l7|l8|l9|l10|l11|l12|l13|l14|l15|l16|l17|l18|l19|l20|l21|l22|l23|l24|l26|l27|l28|l29|l30|l31|l32|l33|l34|l35|l36|l37|l38|l39|l40|l41|l42|l43|l44|l45|l46|l47|l48|l49|l50|l51|l52|l53|l54=>exact ⟨⟨_,_,_,_,_,_,_,_,_,by k_is,by k_is⟩,by k_is⟩
  case xc1|xc2|xc3|xc4|xc5|xc6=>k_exc
  case q_k_int_int|q_k_int_str|q_k_int_tuple|q_k_int_bool|q_k_str_int|q_k_str_str|q_k_str_tuple|q_k_bool_int|q_k_bool_str|q_k_bool_tuple|q_k_bool_bool|q_k_NoneType_int|q_k_NoneType_str|q_k_NoneType_tuple|q_k_tuple_int|q_k_tuple_str|q_k_tuple_tuple|q_k_list_int|q_k_list_str|q_k_list_tuple|q_k_dict_int|q_k_dict_str|q_k_dict_tuple|q_kl_list|q_kx_HeirError|q_kx_ValueError|y_kp_Letter|y_kp_Test|y_kp_Said=>kit_is
