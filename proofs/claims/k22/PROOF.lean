import PyProof.Rows.All
import Wide.All
import OpenK.AllK
import Wide.FinOn
import Lean
import PyProof.EqAt
import PyProof.EqKinds
import PyProof.TupleCall
import PyProof.NeKinds
import PyProof.ZipIter
import PyProof.Draws
import PyProof.ConsumeWalk
import PyProof.StrCaseBound
import PyProof.StrLawsIn
import PyProof.StrLawsJoin
import PyProof.Rows.StrSplitAre
import PyProof.WalkInts
import PyProof.EnumMake
import KE.KRevSl
import PyProof.Rows.SumAny
import PyProof.Rows.SortRuns
import PyProof.Rows.SortKey
import KE.KSortTup
import KE.KDictList
import PyProof.DictValues
import PyProof.StrLawsFirst
import PyProof.AutoListH
import PyProof.AttrMissSeq
import KE.KIntText
import PyProof.Rows.CountFlat
import KE.KLam
import KE.KSortKey
import KE.KPairComp
import PySem.Challenge.RW_heirbook_k22_ways_made_wider
abbrev Qa:=@if_neg
abbrev Qb:=@if_pos
abbrev Qc:=@PySem.wpAny_bind
abbrev Qd:=@List.length_map
abbrev Qe:=@PySem.wpAny_pure
abbrev Qf:=@Nat.le_refl
abbrev Qg:=@List.mem_map
abbrev Qh:=@List.mem_cons
abbrev Qi:=@PySem.Heap.lt_size
abbrev Qj:=@PySem.Heap.get?_push_of_some
abbrev Qk:=@Nat.lt_of_lt_of_le
abbrev Ql:=@List.mem_append
abbrev Qm:=@decide_eq_false
abbrev Qn:=@List.length_append
abbrev Qo:=@Option.some.inj
abbrev Qq:=@Nat.le_trans
abbrev Qr:=@PySem.Heap.get?_push_size
abbrev Qs:=@List.map_append
abbrev Qt:=@List.map_cons
abbrev Qu:=@List.append_nil
abbrev Qv:=@List.size_toArray
abbrev Qw:=@decide_eq_true
abbrev Qx:=@List.getElem?_eq_getElem
abbrev Qy:=@congrArg
abbrev Qz:=@Nat.le_of_ble_eq_true
abbrev QA:=@List.getElem?_map
abbrev QB:=@Nat.ne_of_lt
abbrev QC:=@List.mem_cons_of_mem
abbrev QD:=@List.mem_singleton
abbrev QE:=@Nat.lt_irrefl
abbrev QF:=@List.not_mem_nil
abbrev QG:=@or_false
abbrev QH:=@List.getElem?_eq_some_iff
abbrev QI:=@List.mem_cons_self
abbrev QJ:=@Bool.false_ne_true
abbrev QK:=@List.length_cons
abbrev QL:=@List.mem_of_getElem?
abbrev QM:=@PySem.wpAny_field
abbrev QN:=@Nat.le_of_lt
abbrev QO:=@List.nodup_cons
abbrev QP:=@List.getD_eq_getElem?_getD
abbrev QQ:=@Option.map_eq_some_iff
abbrev QR:=@PySem.W.mg_of
abbrev QS:=@List.mem_append_right
abbrev QT:=@Nat.le_succ
abbrev QU:=@List.map_map
abbrev QV:=@PySem.W.kia_one
abbrev QW:=@List.nodup_append
abbrev QX:=@PySem.PassesOwn.leaving
abbrev QY:=@Ne.symm
abbrev QZ:=@Nat.zero_le
abbrev Q0:=@of_decide_eq_true
abbrev Q1:=@PySem.W.mg_none_of
abbrev Q2:=@PySem.wpAny_mono
abbrev Q3:=@List.length_take
abbrev Q4:=@List.filterMap_cons
abbrev Q5:=@if_false
abbrev Q6:=@List.foldl_cons
abbrev Q7:=@Prod.ext
abbrev Q8:=@List.mem_append_left
abbrev Q9:=@Bool.eq_iff_iff
abbrev Ra:=@PySem.Heap.size_push
abbrev Rb:=@Nat.lt_succ_self
abbrev Rc:=@PySem.wpAny_Call_Name_kw
abbrev Re:=@PySem.wpAny_call_entry
abbrev Rg:=@List.any_cons
abbrev Rh:=@PySem.wpAny_holding
abbrev Ri:=@PySem.wpAny_newObj_type
abbrev Rj:=@Bool.eq_false_iff
abbrev Rk:=@List.mem_filterMap
abbrev Rl:=@Nat.ne_of_gt
abbrev Rm:=@PySem.Calls.spliced_cons
abbrev Rn:=@PySem.wpAny_callSpecial?_slot
abbrev Ro:=@beq_eq_false_iff_ne
abbrev Rp:=@List.mem_filter
abbrev Rq:=@PySem.wpAny_Name
abbrev Rr:=@beq_iff_eq
abbrev Rs:=@List.getElem?_append_right
abbrev Rt:=@List.getElem?_append_left
abbrev Ru:=@if_true
abbrev Rv:=@Bool.and_eq_true
abbrev Rw:=@List.find?_cons
abbrev Rx:=@PySem.wpAny_of_eq
abbrev Ry:=@PySem.wpAny_setField_rec
abbrev Rz:=@List.take_length
abbrev RA:=@List.cons.inj
abbrev RB:=@false_and
abbrev RC:=@true_and
abbrev RD:=@ite_self
abbrev RE:=@PySem.F.plainAttrs_list
abbrev RF:=@PySem.F.slot_list_append
abbrev RG:=@PySem.F.type_list_append
abbrev RH:=@PySem.wpAny_truthy_bool
abbrev RI:=@PySem.wpAny_call
abbrev RJ:=@PySem.codeAny_mono
abbrev RK:=@PySem.mem_of_lookup
abbrev RL:=@List.length_drop
abbrev RM:=@Nat.lt_of_le_of_lt
abbrev RN:=@PySem.codeAny_builtin
abbrev RO:=@PySem.wpAny_seqItems
abbrev RP:=@PySem.wpAny_rule
abbrev RQ:=@List.all_eq_true
abbrev RS:=@List.length_range
abbrev RU:=@of_decide_eq_false
abbrev RV:=@List.take_of_length_le
abbrev RW:=@List.take_succ
abbrev RX:=@Sum.inr.inj
abbrev RY:=@Array.length_toList
abbrev RZ:=@PySem.sizeLine_eq
abbrev R0:=@PyProof.Rows.slot_tuple_getitem
abbrev R1:=@PySem.typeIs_str
abbrev R3:=@PySem.tupleKind_room_in1
abbrev R4:=@Nat.lt_succ_of_lt
abbrev R5:=@Nat.le_add_right
abbrev R6:=@Bool.or_eq_true
abbrev R7:=@List.filterMap_append
abbrev R8:=@PySem.wpAny_newList
abbrev R9:=@List.getElem_mem
abbrev Ga:=@List.map_congr_left
abbrev Gb:=@PySem.wpAny_pyIter_tuple
abbrev Gc:=@PyProof.Rows.callWith_type1
abbrev Gd:=@PySem.wpAny_passesOwn
abbrev Ge:=@PySem.Calls.spliced_nil
abbrev Gf:=@List.map_nil
abbrev Gg:=@List.all_cons
abbrev Gh:=@PySem.Calls.evalArgs_plain
abbrev Gi:=@PySem.W.callWith_K
abbrev Gj:=@PySem.wpAny_loadPart_at
abbrev Gk:=@PySem.Heap.SameBut.update
abbrev Gm:=@PySem.wpAny_attempt
abbrev Gn:=@PySem.typeLookup_type
abbrev Go:=@PySem.builtinLookup_eq_fast
abbrev Gp:=@PySem.isSubtype_type
abbrev Gq:=@List.getElem?_eq_none
abbrev Gr:=@List.pairwise_map
abbrev Gs:=@List.any_eq_true
abbrev Gu:=@List.append_assoc
abbrev Gv:=@Bool.true_and
abbrev Gw:=@List.mem_of_mem_take
abbrev Gx:=@PySem.Paired.length
abbrev Gy:=@List.mem_range
abbrev Gz:=@PySem.wpAny_loadName_local
abbrev GA:=@Bool.false_and
abbrev GB:=@PySem.W.looks_findIn
abbrev GC:=@PySem.W.kitx_list
abbrev GD:=@List.of_mem_zip
abbrev GE:=@Option.isSome_iff_exists
abbrev GF:=@Int.toNat_natCast
abbrev GG:=@PySem.wpAny_typeOf
abbrev GH:=@PySem.SeqAt.EqAt.same
abbrev GI:=@List.length_singleton
abbrev GJ:=@PySem.wpAny_specialOf
abbrev GK:=@PySem.call_meetsIn
abbrev GL:=@PySem.Code.quiet_builtin
abbrev GM:=@List.all_map
abbrev GN:=@List.getElem?_cons_succ
abbrev GO:=@PySem.F.slot_tuple_iterator_next
abbrev GP:=@PySem.F.slot_zip_next
abbrev GQ:=@List.lookup_cons
abbrev GR:=@PySem.atKey_none_of_get
abbrev GS:=@Int.le_refl
abbrev GT:=@decide_eq_true_eq
abbrev GU:=@List.filter_cons
abbrev GV:=@Nat.le_succ_of_le
abbrev GW:=@Nat.min_eq_left
abbrev GX:=@Option.map_some
abbrev GY:=@PySem.SeqAt.EqAt.int_str
abbrev GZ:=@PySem.SeqAt.EqAt.str_int
abbrev G6:=@PySem.Heap.get?_none_of_le
abbrev G7:=@PySem.wpAny_loadName_free
abbrev G8:=@PySem.Calls.Name_function_global
abbrev G9:=@List.any_eq_false
abbrev Na:=@List.getElem?_take_of_lt
abbrev Nb:=@PySem.noFill_tuple_add
abbrev Nc:=@PySem.F.slot_tuple_add
abbrev Nd:=@PySem.F.entry_tuple_add
abbrev Nf:=@PySem.F.args_tuple_add_2
abbrev Ng:=@PySem.Heap.get?_update_self
abbrev Nh:=@PySem.Calls.callWith_builtin
abbrev Ni:=@List.length_nil
abbrev Nj:=@Option.isSome_map
abbrev Nk:=@List.nodup_nil
abbrev Nl:=@PySem.F.slot_dict_get
abbrev Nn:=@Bool.not_eq_true'
abbrev No:=@PySem.F.typeOf_object_class
abbrev Np:=@Bool.and_false
abbrev Nq:=@List.getElem?_cons_zero
abbrev Nr:=@PySem.wpAny_newFunctionEnv
abbrev Nt:=@List.forIn_cons
abbrev Nu:=@PySem.wpAny_isInstance
abbrev Nv:=@List.take_add_one
abbrev Nw:=@List.length_filterMap_le
abbrev Ny:=@List.length_reverse
abbrev Nz:=@PyProof.Rows.entry_proto_collect'
abbrev NA:=@PySem.Calls.call_function_entry
abbrev NB:=@List.find?_eq_none
abbrev NC:=@List.dropLast_concat_getLast
abbrev ND:=@List.lt_asymm
abbrev NE:=@List.rel_of_pairwise_cons
abbrev NF:=@List.map_take
abbrev NG:=@List.map_drop
abbrev NH:=@List.foldl_append
abbrev NI:=@not_false_eq_true
abbrev NJ:=@List.flatMap_cons
abbrev NK:=@Int.fmod_nonneg_of_pos
abbrev NM:=@Int.fmod_lt_of_pos
abbrev NN:=@Option.map_eq_none_iff
abbrev NO:=@List.map_reverse
abbrev NP:=@PySem.F.slot_dict_getitem
abbrev NQ:=@PySem.F.args_dict_get_3
abbrev NR:=@PySem.F.plainAttrs_dict
abbrev NS:=@Option.bind_eq_some_iff
abbrev NT:=@PySem.F.slot_dict_setdefault
abbrev NU:=@Option.ne_none_iff_exists'
abbrev NV:=@Option.isSome_iff_ne_none
set_option Elab.async false
set_option linter.all false
namespace LR
open PySem PySem.W PyProof.Rows
noncomputable abbrev Zbu:=@Fast.tw14082659384304107361
noncomputable abbrev J5:=Fast.tw14364793385576792824
noncomputable abbrev Ut:=@Fast.tw4187177175401517315
noncomputable def allIn (p:Program) (P:Params) (s:Shared):Bool :=
 staticsOk (importedModules p.main.body) (boot_heap P) s.heap&&namesBound p s.heap&&gensDone s&&laidKept (boot_heap P) s.heap
noncomputable abbrev sA (q:Program) (loose mods:List Str) (Xt:Shared->Bool) (g0:Bool) (s:Shared) :=
 ((Ut q loose mods Xt g0 s).1,(Ut q loose mods Xt g0 s).2.1,(Ut q loose mods Xt g0 s).2.2.1,(Ut q loose mods Xt g0 s).2.2.2.1)
noncomputable abbrev sB (q:Program) (loose mods:List Str) (Xt:Shared->Bool) (g0:Bool) (s:Shared):=(Ut q loose mods Xt g0 s).2.2.2.2
noncomputable abbrev gA (q:Program) (loose:List Str):=((openGood q loose).1,(openGood q loose).2.1,(openGood q loose).2.2.1,(openGood q loose).2.2.2.1)
noncomputable abbrev gB (q:Program) (loose:List Str):=(openGood q loose).2.2.2.2
noncomputable abbrev ran (p:Program) (m:Nat) (ann:Option Value) (N:Nat) (w:World) (os:OsState):Option Shared :=
 Zbu J5 p w m ann N ⟨boot_heap w.params,Array.mk [],boot_drawn,boot_toks,os⟩ (topStub p)
theorem left_run {p q:Program} {loose:List Str} {Xt:Shared->Bool} {α:Type} {Yf:Shared->α} {Ya:World->α} {N m:Nat} {g0:Bool} {ann:Option Value}
  (e:opening p=plainProg p.main.scope.names) (f:∀s,fenceModules? p s=some s) (hN:Nat.ble 600 N=true)
  (h1:∀w:World,(boot_heap w.params).isNs mainGlobals=true) (h2:∀w:World,(boot_heap w.params).objs.size=m) (h3:∀w:World,(boot_heap w.params).nsMap mainGlobals "__annotations__"=ann)
  (r1:∀(w:World) (os:OsState),(ran p m ann N w os).map (allIn p w.params)=some true)
  (r2:∀(w:World) (os:OsState),(ran p m ann N w os).map (sA q loose (importedModules p.main.body) Xt g0)=some (gA q loose))
  (r2':∀(w:World) (os:OsState),(ran p m ann N w os).map (sB q loose (importedModules p.main.body) Xt g0)=some (gB q loose))
  (r3:∀(w:World) (os:OsState),(ran p m ann N w os).map Yf=some (Ya w)):LeftO p q loose Xt Yf Ya N g0:=by
 intro w;cases hb:fencedOpening treeTable p w N with
 |none=>have z:=boot_open e hN f w;rw [hb] at z;cases z
 |some s0 =>
  have z:=boot_open e hN f w;rw [hb] at z;obtain ⟨h,gs,d,k,os⟩:=s0;injection z with z;injection z with z4 z;injection z with z5 z;injection z with z6 z7;dsimp only at z4 z5 z6 z7;subst z4 z5 z6 z7;have a:=r1 w os;have b:=r2 w os;have b':=r2' w os;have c:=r3 w os;unfold ran Zbu J5 at a b b' c;unfold sA gA Ut at b;unfold sB gB Ut at b';rw [←Fast.te14082659384304107361,←Fast.te14364793385576792824] at a b b' c;rw [←Fast.te4187177175401517315] at b b';cases hs:topRun treeTable p w m ann N ⟨boot_heap w.params,Array.mk [],boot_drawn,boot_toks,os⟩ (topStub p) with
  |none=>rw [hs] at a;cases a
  |some s =>
   rw [hs] at a b b' c;injection a with a;injection b with b;injection b' with b';injection b with x1 b;injection b with x2 b;injection b with x3 x4;injection c with c;have b:openSeen q loose (importedModules p.main.body) Xt g0 s=openGood q loose:=Q7 x1 (Q7 x2 (Q7 x3 (Q7 x4 b')))
   have t:topFrom treeTable p w N ⟨boot_heap w.params,Array.mk [],boot_drawn,boot_toks,os⟩=some s:=by
    unfold topFrom;simp only [h1 w,h2 w,h3 w,hs];unfold allIn at a;show (Option.bind (some s) fun x=>_)=_;rw [Option.bind_some,a]
   show Option.map _ (Option.bind (fencedOpening treeTable p w N) _)=_;rw [hb,Option.bind_some,t,GX,b,c]
noncomputable def Zcr (st:SharedT->Thread->Option (SharedT×Thread)) (ok:Thread->Bool):Nat->SharedT->Thread->Option SharedT:=fun n =>
 Nat.rec (motive:=fun _=>SharedT->Thread->Option SharedT) (fun _ _=>none) (fun _ ih s t=>match through t with
  |true=>some s
  |false=>match ok t with
   |false=>none
   |true=>match st s t with
    |some (s',t')=>ih s' t'
    |none=>none) n
theorem Zia {tb:String->Option Builtin} {p:Program} {w:World} {n₀:Nat} {ann:Option Value}:∀(n:Nat) (s:SharedT) (t:Thread) (s':SharedT),Zcr (stepT (denote tb) p w) (stepOk n₀ ann) n s t=some s'->topRun tb p w n₀ ann n s.abs t=some s'.abs
 |0,_,_,_,h=>by cases h
 |n+1,s,t,s',h=>by
  have h2:(match through t with
   |true=>some s
   |false=>match stepOk n₀ ann t with
    |false=>none
    |true=>match stepT (denote tb) p w s t with
     |some (s',t')=>Zcr (stepT (denote tb) p w) (stepOk n₀ ann) n s' t'
     |none=>none)=some s':=h
  unfold topRun;cases ht:through t with
  |true=>rw [ht] at h2;cases h2;rfl
  |false =>
   rw [ht] at h2;cases hk:stepOk n₀ ann t with
   |false=>rw [hk] at h2;cases h2
   |true =>
    rw [hk] at h2;cases hs:stepT (denote tb) p w s t with
    |none=>rw [hs] at h2;cases h2
    |some r =>
     obtain ⟨s₂,t₂⟩:=r;rw [hs] at h2;rw [stepT_spec hs];exact Zia n s₂ t₂ s' h2
noncomputable def ZkF (P:Params) (m:Nat):BT:=Nat.rec (motive:=fun _=>BT) .nil (fun i T=>T.ins i (((boot_heap P).objs[i]?).getD default)) m
noncomputable abbrev Ze0:=@Fast.tw10156331382660048174
noncomputable abbrev Zgo:=@Fast.tw11892475500146522536
noncomputable abbrev fOk:=@Fast.tw6613529449190102663
noncomputable abbrev s0T (P:Params) (m:Nat) (os:OsState):SharedT:=⟨ZkF P m,m,(boot_heap P).life,Array.mk [],boot_drawn,boot_toks,os⟩
noncomputable abbrev ranT (p:Program) (m:Nat) (ann:Option Value) (N:Nat) (w:World) (os:OsState):Option SharedT :=
 Zcr (Ze0 (Zgo J5) p w) (fOk m ann) N (s0T w.params m os) (topStub p)
theorem ZlW {p:Program} {m:Nat} {ann:Option Value} {N:Nat} {w:World} {os:OsState} (hb:(s0T w.params m os).abs=⟨boot_heap w.params,Array.mk [],boot_drawn,boot_toks,os⟩) {s:SharedT} (h:ranT p m ann N w os=some s):ran p m ann N w os=some s.abs:=by
 unfold ranT Ze0 Zgo fOk J5 at h;rw [←Fast.te10156331382660048174,←Fast.te11892475500146522536,←Fast.te6613529449190102663,←Fast.te14364793385576792824] at h;have:=Zia _ _ _ _ h;rw [hb] at this;unfold ran Zbu J5;rw [←Fast.te14082659384304107361,←Fast.te14364793385576792824];exact this
theorem mapT {α:Type} {p:Program} {m:Nat} {ann:Option Value} {N:Nat} {w:World} {os:OsState} (hb:(s0T w.params m os).abs=⟨boot_heap w.params,Array.mk [],boot_drawn,boot_toks,os⟩) {f:Shared->α} {a:α} (h:(ranT p m ann N w os).map (fun s=>f s.abs)=some a):(ran p m ann N w os).map f=some a:=by
 cases e:ranT p m ann N w os with
 |none=>rw [e] at h;cases h
 |some s =>
  rw [e] at h;rw [ZlW hb e];exact h
theorem with2 {A B G:Prop} (h:A∧B->G) (z:A∧B):G:=h z
end LR
namespace K22
open PySem PySem.W PyProof.Rows
abbrev rwOf:OpenLaw:=PySem.Challenge.rw_heirbook_k22_ways_made_wider
abbrev pwOf:Program:=PySem.Challenge.pw_heirbook_k22_ways_made_wider
noncomputable def vw:Program:=view pwOf [0,2,3,4,5,6,7,8,10,12,13,14,15,16,17,18,19,20,21,22,23,24,25,27,28,29,30,32,33,34,35,37,38,39,40,41,42,43,44,46,47,48,50,51,53,54,55,56,57,58,59,60]
noncomputable abbrev lo:List Str:=["FORMS","SORT_OF_PARENT","LETTER_UP"]
noncomputable abbrev xt (s:Shared):Bool:=xlAt vw [] s&&recOk (RowW.records (OpenRow.toRowW (OpenLaw.row rwOf))) s
noncomputable abbrev rn:=LR.ranT pwOf 11 (some (.ref 6)) 4040
set_option maxRecDepth 100000
set_option maxHeartbeats 0
theorem said:OpenLaw.wellSaid rwOf=true:=by kernel_rfl
theorem hb (w:World) (os:OsState):(LR.s0T w.params 11 os).abs=⟨boot_heap w.params,Array.mk [],boot_drawn,boot_toks,os⟩:=by kernel_rfl
theorem r1F (w:World) (os:OsState):(rn (w.withFollow "special-get-raises" false) os).map (fun s=>(LR.allIn pwOf (w.withFollow "special-get-raises" false).params) s.abs)=some (true):=by kernel_rfl
theorem r1U (w:World) (os:OsState):(rn (w.withFollow "special-get-raises" true) os).map (fun s=>(LR.allIn pwOf (w.withFollow "special-get-raises" true).params) s.abs)=some (true):=by kernel_rfl
theorem r1T (w:World) (os:OsState):(rn w os).map (fun s=>(LR.allIn pwOf w.params) s.abs)=some (true):=W.byRow2 "special-get-raises" (P:=fun w=>∀os,(rn w os).map (fun s=>(LR.allIn pwOf w.params) s.abs)=some (true)) r1F r1U w os
theorem r1 (w:World) (os:OsState):(LR.ran pwOf 11 (some (.ref 6)) 4040 w os).map (LR.allIn pwOf w.params)=some (true):=LR.mapT (hb w os) (r1T w os)
theorem r2F (w:World) (os:OsState):(rn (w.withFollow "special-get-raises" false) os).map (fun s=>(LR.sA vw lo (importedModules pwOf.main.body) xt true) s.abs)=some (LR.gA vw lo):=by kernel_rfl
theorem r2U (w:World) (os:OsState):(rn (w.withFollow "special-get-raises" true) os).map (fun s=>(LR.sA vw lo (importedModules pwOf.main.body) xt true) s.abs)=some (LR.gA vw lo):=by kernel_rfl
theorem r2T (w:World) (os:OsState):(rn w os).map (fun s=>(LR.sA vw lo (importedModules pwOf.main.body) xt true) s.abs)=some (LR.gA vw lo):=W.byRow2 "special-get-raises" (P:=fun w=>∀os,(rn w os).map (fun s=>(LR.sA vw lo (importedModules pwOf.main.body) xt true) s.abs)=some (LR.gA vw lo)) r2F r2U w os
theorem r2 (w:World) (os:OsState):(LR.ran pwOf 11 (some (.ref 6)) 4040 w os).map (LR.sA vw lo (importedModules pwOf.main.body) xt true)=some (LR.gA vw lo):=LR.mapT (hb w os) (r2T w os)
theorem r3F (w:World) (os:OsState):(rn (w.withFollow "special-get-raises" false) os).map (fun s=>(LR.sB vw lo (importedModules pwOf.main.body) xt true) s.abs)=some (LR.gB vw lo):=by kernel_rfl
theorem r3U (w:World) (os:OsState):(rn (w.withFollow "special-get-raises" true) os).map (fun s=>(LR.sB vw lo (importedModules pwOf.main.body) xt true) s.abs)=some (LR.gB vw lo):=by kernel_rfl
theorem r3T (w:World) (os:OsState):(rn w os).map (fun s=>(LR.sB vw lo (importedModules pwOf.main.body) xt true) s.abs)=some (LR.gB vw lo):=W.byRow2 "special-get-raises" (P:=fun w=>∀os,(rn w os).map (fun s=>(LR.sB vw lo (importedModules pwOf.main.body) xt true) s.abs)=some (LR.gB vw lo)) r3F r3U w os
theorem r3 (w:World) (os:OsState):(LR.ran pwOf 11 (some (.ref 6)) 4040 w os).map (LR.sB vw lo (importedModules pwOf.main.body) xt true)=some (LR.gB vw lo):=LR.mapT (hb w os) (r3T w os)
end K22
local macro_rules
 | `(tactic| o_law)=>`(tactic| refine PySem.W.holds_law K22.said fun sd=>?_)
local macro_rules
 | `(tactic| o_head $H)=>do
  let hw:=Lean.mkIdent `hw
  let hc:=Lean.mkIdent `hc
  `(tactic| (
   refine' LR.with2 ?bdy ?$hc
   rotate_left 2
   intro z
   refine PySem.W.holds_open (q:=K22.vw) (loose:=K22.lo) (N:=4040) (Xt:=K22.xt) (XP:=PySem.W.XL K22.vw []) (Yf:=PySem.W.Hook.obs $H)
    (Ya:=PySem.W.Hook.val $H) (YP:=PySem.W.Hook.says $H)
    (LR.left_run (p:=K22.pwOf) (m:=11) (ann:=(some (.ref 6))) ?e1 ?e2 (by decide) ?e3 ?e4 ?e5 K22.r1 K22.r2 K22.r3 (And.left z))
    (PySem.W.Hook.of $H) (PySem.W.Hook.keeps $H) ?f1
    PySem.W.XL.keeps (by rfl) (by rfl) (by rfl) ?f2 ?g4 ?g5 ?g6 ?g7 ?$hw (And.right z)
   case e1=>kernel_rfl
   case e2=>intro s;kernel_rfl
   case e3=>intro w;kernel_rfl
   case e4=>intro w;kernel_rfl
   case e5=>intro w;kernel_rfl
   case f1=>intro s e;exact PySem.W.xl_of s (Bool.and_eq_true_iff.mp e).1
   case f2=>intro s e;exact PySem.W.recFacts_of (Bool.and_eq_true_iff.mp e).2
   case g4=>rfl
   case g5=>assumption
   case g6=>decide +kernel
   case g7=>exact ⟨rfl,rfl,rfl,rfl,rfl,by decide +kernel⟩))
set_option maxRecDepth 100000 in
set_option maxHeartbeats 0 in
open_top K22.hd for PySem.Challenge.rw_heirbook_k22_ways_made_wider
namespace K22
open PySem PySem.W PyProof.Rows
set_option maxRecDepth 100000
set_option maxHeartbeats 0
def ZbX {Q:World->OsState->Prop} {B C:Prop} (_:(∀w os,Q w os)∧B->C):Prop:=∀w os,Q w os
def Jj {Q:World->OsState->Prop} {B C:Prop} (b:Bool) (_:(∀w os,Q w os)∧B->C):Prop:=∀(w:World) (os:OsState),Q (w.withFollow "special-get-raises" b) os
theorem e6F:Jj false hd:=by (delta Jj;intro w os;refine LR.mapT (hb (w.withFollow "special-get-raises" false) os) ?_;kernel_rfl)
theorem e6U:Jj true hd:=by (delta Jj;intro w os;refine LR.mapT (hb (w.withFollow "special-get-raises" true) os) ?_;kernel_rfl)
theorem Zj6 {Q:World->OsState->Prop} {B C:Prop} (h:(∀w os,Q w os)∧B->C) (f:Jj false h) (u:Jj true h):ZbX h:=W.byRow2 "special-get-raises" (P:=fun w=>∀os,Q w os) f u
theorem e6:ZbX hd:=Zj6 hd e6F e6U
theorem join {Q:World->OsState->Prop} {B C:Prop} (h:(∀w os,Q w os)∧B->C) (e:ZbX h) (b:B):C:=h ⟨e,b⟩
end K22
set_option maxRecDepth 100000
namespace L2
open PySem PySem.Spec PyProof.Rows
abbrev Zj:=Sum Int Str
noncomputable def Vy:Zj->Value->Bool
 |.inl k,v=>Value.isInt k v
 |.inr x,v=>Value.isStrOf x v
noncomputable def Vu (w:World):Zj->Int
 |.inl k=>hashInt k
 |.inr x=>hashStr w x
theorem We:∀{k:Zj} {v:Value},Vy k v=true->(∃i t,k=Sum.inl i∧v=Value.int i t)∨(∃x t,k=Sum.inr x∧v=Value.str x t)
 |.inl i,v,h=>by
  obtain ⟨t,e⟩:=Value.isInt_shape (k:=i) (v:=v) h;exact .inl ⟨i,t,rfl,e⟩
 |.inr x,v,h=>by
  obtain ⟨t,e⟩:=Value.isStrOf_shape (x:=x) (v:=v) h;exact .inr ⟨x,t,rfl,e⟩
theorem Zml (i:Int) (t:Tok):Vy (.inl i) (.int i t)=true:=by simp [Vy,Value.isInt]
theorem Zj4 (x:Str) (t:Tok):Vy (.inr x) (.str x t)=true:=by simp [Vy,Value.isStrOf]
theorem ZnX (a b:Int):decide ((Sum.inl a:Zj)=Sum.inl b)=(a==b):=by
 by_cases e:a=b
 ·subst e;simp
 ·have h:¬(Sum.inl a:Zj)=Sum.inl b:=fun q=>e (Sum.inl.inj q);rw [Qm h];exact (Ro.mpr e).symm
theorem ZnD (a b:Str):decide ((Sum.inr a:Zj)=Sum.inr b)=decide (a=b):=by
 by_cases e:a=b
 ·subst e;simp
 ·have h:¬(Sum.inr a:Zj)=Sum.inr b:=fun q=>e (RX q);rw [Qm h,Qm e]
theorem ZjS (a:Int) (b:Str):decide ((Sum.inl a:Zj)=Sum.inr b)=false:=Qm (fun q=>nomatch q)
theorem ZnY (a:Str) (b:Int):decide ((Sum.inr a:Zj)=Sum.inl b)=false:=Qm (fun q=>nomatch q)
noncomputable def Yg (prog:Program) (w:World):PySem.KeyKind prog w Zj where
 is:=Vy
 hash:=Vu w
 inj:=fun v a b ha hb=>by
  rcases We ha with ⟨i,t,rfl,rfl⟩|⟨x,t,rfl,rfl⟩
  ·rcases We hb with ⟨j,u,rfl,e⟩|⟨y,u,rfl,e⟩
   ·injection e with e1 _;rw [e1]
   ·exact nomatch e
  ·rcases We hb with ⟨j,u,rfl,e⟩|⟨y,u,rfl,e⟩
   ·exact nomatch e
   ·injection e with e1 _;rw [e1]
 byValue:=fun k v h=>by
  rcases We h with ⟨i,t,rfl,rfl⟩|⟨x,t,rfl,rfl⟩<;>rfl
 pyHash:=fun hv h=>by
  rcases We hv with ⟨i,t,rfl,rfl⟩|⟨x,t,rfl,rfl⟩
  ·exact wpAny_pyHash_int h
  ·exact wpAny_pyHash_str h
 eqBool:=fun hu hv h=>by
  rcases We hu with ⟨i,t,rfl,rfl⟩|⟨x,t,rfl,rfl⟩
  ·rcases We hv with ⟨j,u,rfl,rfl⟩|⟨y,u,rfl,rfl⟩
   ·rw [ZnX] at h;exact wpAny_eqBool_int h
   ·rw [ZjS] at h;exact GY i t y u _ _ _ _ h
  ·rcases We hv with ⟨j,u,rfl,rfl⟩|⟨y,u,rfl,rfl⟩
   ·rw [ZnY] at h;exact GZ x t j u _ _ _ _ h
   ·rw [ZnD] at h;exact wpAny_eqBool_str h
 «strs»:=fun k x t v h=>by
  rcases We h with ⟨i,u,rfl,e⟩|⟨y,u,rfl,e⟩
  ·exact nomatch e
  ·injection e with e1 _;subst e1;cases v<;>rfl
theorem Zmm (prog:Program) (w:World) (i:Int) (t:Tok):(Yg prog w).is (.inl i) (.int i t)=true:=Zml i t
theorem Zmi (prog:Program) (w:World) (x:Str) (t:Tok):(Yg prog w).is (.inr x) (.str x t)=true:=Zj4 x t
inductive V where
 |non|bl (b:Bool)|int (i:Int)|str (x:Str)|byt (b:Array UInt8)|flt (b:UInt64)|ref (a:Addr)|ty (n:String)
 deriving DecidableEq
def RelV:V->Value->Prop
 |.non,u=>u=Value.none
 |.bl b,u=>u=Value.bool b
 |.int i,u=>∃t,u=Value.int i t
 |.str x,u=>∃t,u=Value.str x t
 |.byt b,u=>∃t,u=Value.bytes b t
 |.flt b,u=>∃t,u=Value.float b t
 |.ref a,u=>u=Value.ref a
 |.ty n,u=>u=Value.type n
abbrev Vals:List V->List Value->Prop:=Paired RelV
theorem Vals.length {xs:List V} {us:List Value} (r:Vals xs us):xs.length=us.length:=Gx r
theorem Vals.get:∀{xs:List V} {us:List Value} {i:Nat} {x:V},Vals xs us->xs[i]?=some x->∃u,us[i]?=some u∧RelV x u
 |_,_,_,_,.nil,e=>by simp at e
 |_,_,0,_,.cons r _,e=>by simp at e;subst e;exact ⟨_,rfl,r⟩
 |_,_,i+1,x,.cons _ t,e=>by
  obtain ⟨u,h1,h2⟩:=Vals.get (i:=i) (x:=x) t (by simpa using e);exact ⟨u,by simpa using h1,h2⟩
theorem Vals.set {x:V} {u:Value} (r:RelV x u):∀{xs:List V} {us:List Value} (i:Nat),Vals xs us->Vals (xs.set i x) (us.set i u)
 |_,_,_,.nil=>.nil
 |_,_,0,.cons _ t=>.cons r t
 |_,_,i+1,.cons q t=>.cons q (Vals.set r i t)
theorem Vals.append:∀{xs ys:List V} {us ws:List Value},Vals xs us->Vals ys ws->Vals (xs++ys) (us++ws)
 |_,_,_,_,.nil,s=>s
 |_,_,_,_,.cons r t,s=>.cons r (Vals.append t s)
theorem Vals.take:∀{xs:List V} {us:List Value} (n:Nat),Vals xs us->Vals (xs.take n) (us.take n)
 |_,_,0,_=>.nil
 |_,_,_+1,.nil=>.nil
 |_,_,n+1,.cons r t=>.cons r (Vals.take n t)
theorem Vals.drop:∀{xs:List V} {us:List Value} (n:Nat),Vals xs us->Vals (xs.drop n) (us.drop n)
 |_,_,0,r=>r
 |_,_,_+1,.nil=>.nil
 |_,_,n+1,.cons _ t=>Vals.drop n t
def RelO:Option V->Option Value->Prop
 |some v,some u=>RelV v u
 |none,none=>True
 |_,_=>False
def KV {κ:Type}:List (κ×V)->List (κ×Value)->Prop:=Paired fun (p:κ×V) (q:κ×Value)=>p.1=q.1∧RelV p.2 q.2
noncomputable def kV:Zj->V
 |.inl i=>.int i
 |.inr x=>.str x
inductive HO where
 |lst (xs:List V)
 |tup (xs:List V)
 |dK (kvs:List (Zj×V))|dT (kvs:List (List Zj×V))
 |set (S:Int->Bool) (n:Nat)
 |ins (C dx:Addr) (fs:List (Str×V))
 |own (x:Addr)
 |xd (fs:List (Str×V))
 |met (f x:Addr)
 |rng (lo hi:Int)
 |frz (o:Obj) (u:HO)
 |tbl (ps:Array Value)
 |ext (φ:Heap->Prop)
abbrev Hp:=Addr->Option HO
noncomputable def Zc (H:Hp) (a:Addr) (o:HO):Hp:=fun b=>if b=a then some o else H b
theorem Zf {H:Hp} {a:Addr} {o:HO}:Zc H a o a=some o:=by unfold Zc;rw [Qb rfl]
theorem Zd {H:Hp} {a b:Addr} {o:HO} (h:b≠a):Zc H a o b=H b:=by unfold Zc;rw [Qa h]
theorem ZfT {H:Hp} {a b:Addr} {o u:HO} (h:H a=some o) (h':H b=some u) (d:o≠u):a≠b:=by
 intro e;subst e;rw [h] at h';exact d (Qo h')
theorem ZF {H:Hp} {a b:Addr} {o:HO} (h:H a=some o) (h':H b=none):a≠b:=by
 intro e;subst e;rw [h] at h';cases h'
section
variable (P:Program) (w:World)
def ObjOk (H:Hp) (h:Heap) (a:Addr):HO->Prop
 |.lst xs=>xs.length≤sizeLine∧∃(its:List Value) (n:Nat),Vals xs its∧h.get? a=some { cls:=.type "list",data:=.seq its.toArray n }
 |.tup xs=>xs.length≤sizeLine∧∃its:List Value,Vals xs its∧IsTup h a its.toArray
 |.dK kvs=>kvs.length≤sizeLine∧(a==sysModules)=false∧∃vs,KV kvs vs∧h.DictOf (Yg P w) a vs
 |.dT kvs => kvs.length ≤ sizeLine ∧ (a==sysModules)=false ∧ ∃xs : List (List Zj×Addr×Value),
   Paired (fun (p:List Zj×V) (q:List Zj×Addr×Value)=>p.1=q.1∧H q.2.1=some (.tup (p.1.map kV))∧RelV p.2 q.2.2) kvs xs ∧
   ∃o es ep,h.get? a=some o∧o.ExactDict∧o.data=.dict es ep∧es.toList=xs.map (entryOfKey (tupleKind (Yg P w)))∧(xs.map (·.1)).Nodup
 |.set S n=>h.SetOf (intKind P w) a S n
 |.ins C dx fs => H dx=some (.own a) ∧ fs.length ≤ 1000 ∧ dx ≠ a ∧ h.get? a=some (W.instObj C dx) ∧
   ∃mA,h.Ns1 dx mA∧(∀f,RelO (fs.lookup f) (mA f))∧PySem.Within mA (fs.map (·.1))
 |.own _=>∃o,h.get? a=some o
 |.xd fs=>∃mA,h.Ns1 a mA∧∀f,RelO (fs.lookup f) (mA f)
 |.rng lo hi=>∃t u v,h.get? a=some { cls:=.type "range",data:=.fields #[.int lo t,.int hi u,.int 1 v] }
 |.frz o u=>h.get? a=some o∧ObjOk H h a u
 |.tbl ps=>h.get? a=some { cls:=.none,data:=.fields ps }
 |.met f x=>h.get? a=some (W.methodObj (.ref f) (.ref x))
 |.ext φ=>φ h∧(∃o,h.get? a=some o)∧∀h1 h2:Heap,φ h1->(∀o,h1.get? a=some o->h2.get? a=some o)->φ h2
def HOk (H:Hp) (h:Heap):Prop:=∀a o,H a=some o->ObjOk P w H h a o
end
section
variable {P:Program} {w:World} {H H':Hp} {h h':Heap} {a:Addr} {o:HO}
theorem ObjOk.lt (x:ObjOk P w H h a o):a<h.objs.size:=by
 cases o with
 |lst xs=>obtain ⟨_,_,_,_,e⟩:=x;exact Qi e
 |tup xs=>obtain ⟨_,_,_,p⟩:=x;exact p.lt
 |dK kvs=>obtain ⟨_,_,_,_,o,_,_,e,_⟩:=x;exact Qi e
 |dT kvs=>obtain ⟨_,_,_,_,o,_,_,e,_⟩:=x;exact Qi e
 |set S n=>obtain ⟨o,_,_,_,e,_⟩:=x;exact Qi e
 |ins C dx fs=>obtain ⟨_,_,_,e,_⟩:=x;exact Qi e
 |own y=>obtain ⟨_,e⟩:=x;exact Qi e
 |xd fs=>obtain ⟨_,⟨_,_,_,e,_⟩,_⟩:=x;exact Qi e
 |rng lo hi=>obtain ⟨_,_,_,e⟩:=x;exact Qi e
 |frz ob u=>obtain ⟨e,_⟩:=x;exact Qi e
 |tbl ps=>exact Qi (show h.get? a=some _ from x)
 |met f y=>exact Qi (show h.get? a=some _ from x)
 |ext φ=>obtain ⟨_,⟨_,e⟩,_⟩:=x;exact Qi e
theorem Paired.mapP {α β:Type} {F G:α->β->Prop}:∀{l₁:List α} {l₂:List β},Paired F l₁ l₂->(∀a b,F a b->G a b)->Paired G l₁ l₂
 |_,_,.nil,_=>.nil
 |_,_,.cons r t,f=>.cons (f _ _ r) (Paired.mapP t f)
theorem ObjOk.stay (x:ObjOk P w H h a o) (k:∀b u,(b=a∨H b=some (.own a))->h.get? b=some u->h'.get? b=some u)
  (ho:∀b,H b=some (.own a)->H' b=some (.own a)) (ht:∀b xs,H b=some (.tup xs)->H' b=some (.tup xs)):ObjOk P w H' h' a o:=by
 induction o with
 |lst xs=>obtain ⟨z,its,n,r,e⟩:=x;exact ⟨z,its,n,r,k _ _ (.inl rfl) e⟩
 |tup xs=>obtain ⟨z,its,r,ob,e,c⟩:=x;exact ⟨z,its,r,ob,k _ _ (.inl rfl) e,c⟩
 |dK kvs=>obtain ⟨z,y,vs,r,ob,es,ep,e,c⟩:=x;exact ⟨z,y,vs,r,ob,es,ep,k _ _ (.inl rfl) e,c⟩
 |dT kvs =>
  obtain ⟨z,y,xs,r,ob,es,ep,e,c⟩:=x;exact ⟨z,y,xs,Paired.mapP r fun p q z=>⟨z.1,ht _ _ z.2.1,z.2.2⟩,ob,es,ep,k _ _ (.inl rfl) e,c⟩
 |set S n=>obtain ⟨ob,es,ep,t,e,c⟩:=x;exact ⟨ob,es,ep,t,k _ _ (.inl rfl) e,c⟩
 |ins C dx fs =>
  obtain ⟨d,z,ne,e,mA,⟨od,es,ep,e2,c⟩,r⟩:=x;exact ⟨ho _ d,z,ne,k _ _ (.inl rfl) e,mA,⟨od,es,ep,k _ _ (.inr d) e2,c⟩,r⟩
 |own y=>obtain ⟨ob,e⟩:=x;exact ⟨ob,k _ _ (.inl rfl) e⟩
 |xd fs=>obtain ⟨mA,⟨od,es,ep,e,c⟩,r⟩:=x;exact ⟨mA,⟨od,es,ep,k _ _ (.inl rfl) e,c⟩,r⟩
 |rng lo hi=>obtain ⟨t,u,v,e⟩:=x;exact ⟨t,u,v,k _ _ (.inl rfl) e⟩
 |frz ob u ih=>obtain ⟨e,q⟩:=x;exact ⟨k _ _ (.inl rfl) e,ih q⟩
 |tbl ps =>
  have e:h.get? a=some { cls:=.none,data:=.fields ps }:=x;show h'.get? a=some { cls:=.none,data:=.fields ps };exact k a _ (.inl rfl) e
 |met f y =>
  have e:h.get? a=some (W.methodObj (.ref f) (.ref y)):=x;show h'.get? a=some (W.methodObj (.ref f) (.ref y));exact k a _ (.inl rfl) e
 |ext φ=>obtain ⟨p,⟨o,e⟩,st⟩:=x;exact ⟨st _ _ p fun o q=>k _ _ (.inl rfl) q,⟨o,k _ _ (.inl rfl) e⟩,st⟩
theorem HOk.lt (x:HOk P w H h) (e:H a=some o):a<h.objs.size:=(x a o e).lt
theorem HOk.fresh (x:HOk P w H h) (e:h.objs.size≤a):H a=none:=by
 cases q:H a with
 |none=>rfl
 |some u=>exact absurd (Qk (x.lt q) e) (QE _)
theorem HOk.kept (x:HOk P w H h) (k:∀b u,h.get? b=some u->h'.get? b=some u):HOk P w H h':=fun a o e =>
 (x a o e).stay (fun b u _ q=>k b u q) (fun _ q=>q) fun _ _ q=>q
theorem HOk.laid (x:HOk P w H h) (k:∀b u,h.get? b=some u->h'.get? b=some u) (hp:h.objs.size≤a) (new:ObjOk P w (Zc H a o) h' a o):HOk P w (Zc H a o) h':=fun b u e=>by
 have hn:=x.fresh hp;by_cases hb:b=a
 ·subst hb;rw [Zf] at e;cases e;exact new
 ·rw [Zd hb] at e;exact (x b u e).stay (fun c v _ q=>k c v q) (fun c q=>by rw [Zd (ZF q hn)];exact q) fun c xs q=>by rw [Zd (ZF q hn)];exact q
end
def Rd (H:Hp) (a:Addr) (u:HO):Prop:=H a=some u∨∃o,H a=some (.frz o u)
theorem Rd.ok {P:Program} {w:World} {H:Hp} {h:Heap} {a:Addr} {u:HO} (r:Rd H a u) (x:HOk P w H h):ObjOk P w H h a u:=by
 rcases r with r|⟨o,r⟩
 ·exact x a u r
 ·obtain ⟨_,q⟩:=x a _ r;exact q
def Mut:Option HO->Prop
 |some (.lst _)=>True
 |some (.dK _)=>True
 |some (.dT _)=>True
 |some (.set _ _)=>True
 |some (.ins _ _ _)=>True
 |some (.ext _)=>True
 |_=>False
section
variable {P:Program} {w:World} {H:Hp} {h h':Heap} {x e:Addr} {o':HO}
theorem HOk.write (ok:HOk P w H h) (mu:Mut (H x)) (he:e=x∨H e=some (.own x)) (k:∀b u,b≠e->h.get? b=some u->h'.get? b=some u) (heo:∃u,h'.get? e=some u)
  (new:ObjOk P w (Zc H x o') h' x o'):HOk P w (Zc H x o') h':=fun b u q=>by
 have nown:∀c y,H c=some (.own y)->c≠x:=fun c y r z=>by subst z;rw [r] at mu;exact mu
 have ntup:∀c xs,H c=some (.tup xs)->c≠x:=fun c xs r z=>by subst z;rw [r] at mu;exact mu
 by_cases hb:b=x
 ·subst hb;rw [Zf] at q;cases q;exact new
 ·rw [Zd hb] at q;by_cases hbe:b=e
  ·have q':H b=some (.own x):=by
    rcases he with z|z
    ·exact absurd (hbe.trans z) hb
    ·rw [hbe];exact z
   rw [q] at q';cases q';obtain ⟨v,hv⟩:=heo;exact ⟨v,by rw [hbe];exact hv⟩
  ·refine (ok b u q).stay (fun c v hc r=>k c v ?_ r) (fun c r=>by rw [Zd (nown c b r)];exact r) fun c xs r=>by rw [Zd (ntup c xs r)];exact r
   rcases hc with rfl|hc
   ·exact hbe
   ·rintro rfl;rcases he with z|z
    ·exact nown c b hc z
    ·rw [hc] at z;cases z;exact hb rfl
end
structure Un (fs ex:List Addr) (H H':Hp) (h h':Heap):Prop where
 keep:∀b o,h.get? b=some o->H b=none->b∉fs->b∉ex->h'.get? b=some o
 slot:∀b o,h.get? b=some o->H b=none->b∈fs->b∉ex->∃sl,h'.get? b=some { o with slots:=sl }
 free:∀b o,h.get? b=some o->H b=none->b∉ex->H' b=none
 there:∀b o,h.get? b=some o->b∉ex->∃o',h'.get? b=some o'
 tups:∀b xs,H b=some (.tup xs)->H' b=some (.tup xs)
 frzs:∀b o u,H b=some (.frz o u)->H' b=some (.frz o u)
 tbls:∀b ps,H b=some (.tbl ps)->∃more,H' b=some (.tbl (ps++more))
section
variable {fs fs' ex ex':List Addr} {H H1 H2:Hp} {h h1 h2 h':Heap} {a x e:Addr} {o:HO}
theorem Un.any (u:Un fs ex H H1 h h1) {b:Addr} {ob:Obj} (q:h.get? b=some ob) (n:H b=none) (hx:b∉ex):∃sl,h1.get? b=some { ob with slots:=sl }:=by
 by_cases hb:b∈fs
 ·exact u.slot b ob q n hb hx
 ·exact ⟨ob.slots,u.keep b ob q n hb hx⟩
theorem Un.kept (k:∀b u,h.get? b=some u->h'.get? b=some u):Un fs ex H H h h' :=
 ⟨fun b ob q _ _ _=>k b ob q,fun b ob q _ _ _=>⟨ob.slots,k b ob q⟩,fun _ _ _ n _=>n,fun b ob q _=>⟨ob,k b ob q⟩,fun _ _ q=>q,fun _ _ _ q=>q,fun _ ps q=>⟨#[],by rw [q];simp⟩⟩
theorem Un.refl:Un fs ex H H h h:=Un.kept fun _ _ q=>q
theorem Un.laid (k:∀b u,h.get? b=some u->h'.get? b=some u) (hp:h.objs.size≤a) (hn:H a=none):Un fs ex H (Zc H a o) h h' where
 keep:=fun b u q _ _ _=>k b u q
 slot:=fun b u q _ _ _=>⟨u.slots,k b u q⟩
 free:=fun b u q n _=>by rw [Zd (QB (Qk (Qi q) hp))];exact n
 there:=fun b u q _=>⟨u,k b u q⟩
 tups:=fun b xs q=>by rw [Zd (ZF q hn)];exact q
 frzs:=fun b u xs q=>by rw [Zd (ZF q hn)];exact q
 tbls:=fun b ps q=>⟨#[],by rw [Zd (ZF q hn),q];simp⟩
theorem Un.write (mu:Mut (H x)) (he:e=x∨H e=some (.own x)) (k:∀b u,b≠e->h.get? b=some u->h'.get? b=some u) (heo:∃u,h'.get? e=some u):Un fs ex H (Zc H x o) h h':=by
 have hx:∀b,H b=none->b≠x:=fun b n z=>by subst z;rw [n] at mu;exact mu
 have hb:∀b,H b=none->b≠e:=fun b n z=>by
  subst z;rcases he with r|r
  ·exact hx b n r
  ·rw [n] at r;cases r
 have hm:∀b u,H b=some u->¬Mut (some u)->b≠x:=fun b u q nm z=>by subst z;rw [q] at mu;exact nm mu
 refine ⟨fun b u q n _ _=>k b u (hb b n) q,fun b u q n _ _=>⟨u.slots,k b u (hb b n) q⟩,fun b u q n _=>by rw [Zd (hx b n)];exact n,fun b u q _=>?_,
  fun b xs q=>by rw [Zd (hm b _ q fun z=>z)];exact q,fun b u xs q=>by rw [Zd (hm b _ q fun z=>z)];exact q,fun b ps q=>⟨#[],by rw [Zd (hm b _ q fun z=>z),q];simp⟩⟩
 by_cases hbe:b=e
 ·subst hbe;exact heo
 ·exact ⟨u,k b u hbe q⟩
end
noncomputable def trk (h:Heap) (H:Hp):List Addr:=(List.range h.objs.size).filter fun a=>(H a).isSome
noncomputable def X5 (h:Heap) (H:Hp):Heap:=W.hideAll h (trk h H)
theorem Zn5 (h:Heap) (H:Hp):(X5 h H).objs.size=h.objs.size:=W.hideAll_size _ _
theorem Zl6 {h:Heap} {H:Hp} {b:Addr} {o:Obj} (e:h.get? b=some o) (n:H b=none):(X5 h H).get? b=some o :=
 W.hideAll_get _ e fun hm=>by
  have q:(H b).isSome=true:=(Rp.mp hm).2;rw [n] at q;simp at q
theorem ZkS {h:Heap} {H:Hp} {b:Addr} {o:Obj} (e:(X5 h H).get? b=some o):h.get? b=some o∧H b=none:=by
 have e':h.get? b=some o:=W.of_hideAll (trk h H) e;refine ⟨e',?_⟩;cases q:H b with
 |none=>rfl
 |some x =>
  have hm:b∈trk h H:=Rp.mpr ⟨Gy.mpr (Qi e'),by simp [q]⟩;have z:(X5 h H).get? b=none:=W.hideAll_none (trk h H) hm;rw [z] at e;cases e
noncomputable def JB (g h:Heap) (L:Addr):List (Addr×Obj):=(List.range h.objs.size).filterMap fun a=>if a=L∨(g.get? a).isSome=true then none else (h.get? a).map fun o=>(a,o)
theorem Zho {g h:Heap} {L a:Addr} {o:Obj} (h1:a≠L) (h2:g.get? a=none) (h3:h.get? a=some o):(a,o)∈JB g h L :=
 Rk.mpr ⟨a,Gy.mpr (Qi h3),by simp [h1,h2,h3]⟩
theorem Zna {g h:Heap} {L:Addr} {p:Addr×Obj} (hp:p∈JB g h L):p.1≠L∧g.get? p.1=none∧h.get? p.1=some p.2:=by
 obtain ⟨b,_,e⟩:=Rk.mp hp;split at e
 ·cases e
 ·rename_i hn;cases q:h.get? b with
  |none=>rw [q] at e;simp at e
  |some u =>
   rw [q] at e;simp only [GX,Option.some.injEq] at e;subst e;refine ⟨fun z=>hn (.inl z),?_,q⟩;show g.get? b=none;cases r:g.get? b with
   |none=>rfl
   |some v=>exact (hn (.inr (by simp [r]))).elim
theorem Zmp {g h:Heap} {L:Addr}:News g L h (JB g h L):=fun p hp=>let ⟨a,b,c⟩:=Zna hp;⟨c,a,b⟩
structure Mod (K:W.Frag) (mg:Str->Option Value) (base:Heap):Prop where
 kin:K.In base
 glob:base.Ns mainGlobals mg
 blt:∃mb,base.Ns builtinsNs mb∧∀x:Str,x≠"__name__"->mb x=bootBuiltins x
 nolimit:base.NoLimit
structure Cx where
 prog:Program
 w:World
 K:W.Frag
 mg:Str->Option Value
 base:Heap
 A:Around
 N:List Str
 s₀:Shared
 H₀:Hp
 env:Env
 outer:List Env
 stack:List Env
 ex:List Addr
 fn:Str->Bool
 calm:Bool
 pn:List (Addr×Obj)
 xe:Value->Shared->Prop
noncomputable def Yn (l:List Env):List Addr:=l.filterMap (·.frame)
noncomputable abbrev Cx.fs (X:Cx):List Addr:=Yn X.outer
def J2 (sc:Scope) (x:Str):Prop:=sc.names.lookup x=some .local∨sc.names.lookup x=some .cell∨sc.names.lookup x=some .free
def Loc (sc:Scope) (x:Str):Prop:=sc.names.lookup x=some .local∨sc.names.lookup x=some .cell
def Zk9 (env:Env) (h:Heap) (m:Str->Option Value) (x:Str) (u:Value):Prop :=
 (env.kindOf x=some .local∧m x=some u)∨((env.kindOf x=some .cell∨env.kindOf x=some .free)∧∃c,env.cells.lookup x=some c∧h.IsCell c (some u))
structure Cx.Ok (X:Cx):Prop where
 mod:Mod X.K X.mg X.base
 kind:X.env.scope.kind=.function
 glob:X.env.globals=mainGlobals
 blt:X.env.builtins=builtinsNs
 above:X.s₀.heap.objs.size≤X.env.locals
 inj:∀x y c,X.env.cells.lookup x=some c->X.env.cells.lookup y=some c->x=y
 has:∀x,(X.env.kindOf x=some .cell∨X.env.kindOf x=some .free)->∃c,X.env.cells.lookup x=some c
 cab:∀x c,X.fn x=true->X.env.cells.lookup x=some c->X.s₀.heap.objs.size≤c
 hd:X.calm=true->X.A.handled=none
 frames:X.A.frames=some X.stack
 stk:X.stack=X.outer∨(X.stack=X.env::X.outer∧X.env.frame=some X.env.locals)
 exf:∀b∈X.ex,b≠X.env.locals∧∀x c,X.env.cells.lookup x=some c->c≠b
 bs:∀b o,X.base.get? b=some o->X.s₀.heap.get? b=some o∧X.H₀ b=none
 bsz:X.base.objs.size≤X.s₀.heap.objs.size
 noex:∀b o,X.base.get? b=some o->b∉X.ex
 exfs:∀b∈X.ex,b∉X.fs
 funs:X.s₀.heap.FunFrames X.base X.outer
 frf:∀b∈X.fs,X.H₀ b=none
structure Inv (X:Cx) (pins:List (Addr×Obj)) (σ:List (Option V)) (H:Hp) (s:Shared):Prop where
 ok:X.Ok
 os:s.os=X.s₀.os
 bare:AllBare s.gens
 base:Un X.fs X.ex X.H₀ H X.s₀.heap s.heap
 loc:∃m,s.heap.Ns X.env.locals m∧∀(i:Nat) (x:Str) (v:V),X.N[i]?=some x->σ[i]?=some (some v)->J2 X.env.scope x->∃u,RelV v u∧Zk9 X.env s.heap m x u
 cell:∀x c,X.env.cells.lookup x=some c->∃v,s.heap.IsCell c v
 free:H X.env.locals=none
 freeC:∀x c,X.env.cells.lookup x=some c->H c=none
 pin:∀p∈X.pn++pins,s.heap.get? p.1=some p.2∧H p.1=none∧p.1≠X.env.locals∧p.1∉X.fs∧∀v,p.2.data≠.cell v
 hok:HOk X.prog X.w H s.heap
 len:σ.length=X.N.length
section
variable {X:Cx} {pins:List (Addr×Obj)} {σ:List (Option V)} {H H':Hp} {s:Shared} {h':Heap}
theorem Cx.Ok.nofr (ok:X.Ok) {b:Addr} {o:Obj} (e:X.base.get? b=some o):b∉X.fs:=fun hb=>by
 have:=(ok.funs.mem hb).1;rw [e] at this;cases this
theorem Inv.bs (I:Inv X pins σ H s):∀b o,X.base.get? b=some o->s.heap.get? b=some o∧H b=none:=fun b o e =>
 ⟨I.base.keep b o (I.ok.bs b o e).1 (I.ok.bs b o e).2 (I.ok.nofr e) (I.ok.noex b o e),I.base.free b o (I.ok.bs b o e).1 (I.ok.bs b o e).2 (I.ok.noex b o e)⟩
theorem Inv.bk (I:Inv X pins σ H s):∀b o,X.base.get? b=some o->s.heap.get? b=some o:=fun b o e=>(I.bs b o e).1
theorem Inv.mod (I:Inv X pins σ H s):Mod X.K X.mg X.base:=I.ok.mod
theorem Inv.kIn (I:Inv X pins σ H s):X.K.In s.heap:=I.ok.mod.kin.keeps I.bk
theorem Inv.nolimit (I:Inv X pins σ H s):s.heap.NoLimit:=I.ok.mod.nolimit.keeps I.bk
theorem Inv.fr (I:Inv X pins σ H s):∃m,Fr X.base X.env.locals s.heap m :=
 let ⟨m,hn,_⟩:=I.loc
 ⟨m,hn,I.bk,Qq I.ok.bsz I.ok.above⟩
theorem Inv.lt (I:Inv X pins σ H s):X.env.locals<s.heap.objs.size:=let ⟨_,hn,_⟩:=I.loc;hn.lt
theorem Inv.sz (I:Inv X pins σ H s):X.s₀.heap.objs.size≤s.heap.objs.size:=Qq I.ok.above (QN I.lt)
theorem Inv.nofs (I:Inv X pins σ H s) {a:Addr} (h:s.heap.objs.size≤a):a∉X.fs:=fun hb=>by
 obtain ⟨_,o,ho,_⟩:=I.ok.funs.mem hb;exact absurd (Qk (Qi ho) (Qq I.sz h)) (QE _)
theorem Inv.cne (I:Inv X pins σ H s):∀x c,X.env.cells.lookup x=some c->c≠X.env.locals:=fun x c e z=>by
 obtain ⟨v,o,ho,hd⟩:=I.cell x c e;obtain ⟨m,⟨o',es,ep,ho',hd',_⟩,_⟩:=I.loc;rw [z,ho'] at ho;cases ho;rw [hd'] at hd;cases hd
theorem Inv.funs (I:Inv X pins σ H s):s.heap.FunFrames X.base X.outer:=by
 have all:∀(l:List Env),(∀b∈Yn l,b∈X.fs)->X.s₀.heap.FunFrames X.base l->s.heap.FunFrames X.base l:=by
  intro l
  induction l with
  |nil=>intro _ _;trivial
  |cons env r ih =>
   intro hs hl;obtain ⟨hk,⟨L,o,hf,hn,ho,hd⟩,hr⟩:=hl;have hL:L∈X.fs:=hs L (by unfold Yn;rw [Q4,hf];exact QI);obtain ⟨sl,e⟩:=I.base.slot L o ho (I.ok.frf L hL) hL fun z=>I.ok.exfs L z hL;exact ⟨hk,⟨L,_,hf,hn,e,hd⟩,ih (fun b hb=>hs b (by unfold Yn;rw [Q4,hf];exact QC _ hb)) hr⟩
 exact all X.outer (fun _ hb=>hb) I.ok.funs
theorem Inv.stack (I:Inv X pins σ H s):s.heap.FunFrames X.base X.stack:=by
 rcases I.ok.stk with e|⟨e,hf⟩
 ·rw [e];exact I.funs
 ·rw [e];obtain ⟨m,hn,_⟩:=I.loc;refine .cons (by rw [I.ok.kind];decide) hf hn ?_ I.funs;exact G6 (Qq I.ok.bsz I.ok.above)
theorem Inv.stkSub (I:Inv X pins σ H s):∀b∈Yn X.stack,b∈X.env.locals::X.fs:=fun b hb=>by
 rcases I.ok.stk with e|⟨e,hf⟩
 ·rw [e] at hb;exact QC _ hb
 ·rw [e] at hb;unfold Yn at hb;rw [Q4,hf] at hb;exact hb
theorem Inv.stkFree (I:Inv X pins σ H s):∀b∈Yn X.stack,H b=none:=fun b hb=>by
 rcases Qh.mp (I.stkSub b hb) with e|hb
 ·rw [e];exact I.free
 ·obtain ⟨_,o,ho,_⟩:=I.ok.funs.mem hb;exact I.base.free b o ho (I.ok.frf b hb) fun z=>I.ok.exfs b z hb
theorem Inv.step {g':Array GenState} {t':Nat} {d':Drawn} {ch:List Addr} (I:Inv X pins σ H s)
  (hch:∀b∈ch,(b∈X.ex∨X.s₀.heap.objs.size≤b)∧b≠X.env.locals∧(∀x c,X.env.cells.lookup x=some c->c≠b)∧∀p∈X.pn++pins,p.1≠b)
  (keep:∀b o,b≠X.env.locals->b∉X.fs->b∉ch->s.heap.get? b=some o->H b=none->h'.get? b=some o)
  (slot:∀b o,b≠X.env.locals->b∈X.fs->b∉ch->s.heap.get? b=some o->H b=none->∃sl,h'.get? b=some { o with slots:=sl }) (free:∀b o,b∉ch->s.heap.get? b=some o->H b=none->H' b=none)
  (there:∀b o,b∉ch->s.heap.get? b=some o->∃o',h'.get? b=some o')
  (tups:∀b xs,H b=some (.tup xs)->H' b=some (.tup xs)) (frzs:∀b o u,H b=some (.frz o u)->H' b=some (.frz o u)) (tbls:∀b ps,H b=some (.tbl ps)->∃more,H' b=some (.tbl (ps++more)))
  (ns:∀m,s.heap.Ns X.env.locals m->h'.Ns X.env.locals m) (hok:HOk X.prog X.w H' h') (hg:AllBare g') :
  Inv X pins σ H' { s with heap:=h',gens:=g',drawn:=d',toks:=t' }:=by
 have neL:∀b o,X.s₀.heap.get? b=some o->b≠X.env.locals:=fun b o e=>QB (Qk (Qi e) I.ok.above)
 have neC:∀b o,X.s₀.heap.get? b=some o->b∉X.ex->b∉ch:=fun b o e hx hb=>by
  rcases (hch b hb).1 with z|z
  ·exact hx z
  ·exact absurd (Qk (Qi e) z) (QE _)
 have cellK:∀x c,X.env.cells.lookup x=some c->∀v,s.heap.IsCell c v->h'.IsCell c v:=fun x c e v ⟨o,ho,hd⟩=>by
  have nch:c∉ch:=fun z=>(hch c z).2.2.1 x c e rfl;by_cases hc:c∈X.fs
  ·obtain ⟨sl,q⟩:=slot c o (I.cne x c e) hc nch ho (I.freeC x c e);exact ⟨_,q,hd⟩
  ·exact ⟨o,keep c o (I.cne x c e) hc nch ho (I.freeC x c e),hd⟩
 refine ⟨I.ok,I.os,hg,⟨fun b o e n hb hx=>?_,fun b o e n hb hx=>?_,fun b o e n hx=>?_,fun b o e hx=>?_,fun b xs e=>tups b xs (I.base.tups b xs e),fun b o xs e=>frzs b o xs (I.base.frzs b o xs e),fun b ps e=>?_⟩,?_,fun x c e=>?_,?_,fun x c e=>?_,fun p hp=>?_,hok,I.len⟩
 ·exact keep b o (neL b o e) hb (neC b o e hx) (I.base.keep b o e n hb hx) (I.base.free b o e n hx)
 ·obtain ⟨sl,e1⟩:=I.base.slot b o e n hb hx;obtain ⟨sl',e2⟩:=slot b _ (neL b o e) hb (neC b o e hx) e1 (I.base.free b o e n hx);exact ⟨sl',e2⟩
 ·obtain ⟨o',e1⟩:=I.base.there b o e hx;exact free b o' (neC b o e hx) e1 (I.base.free b o e n hx)
 ·obtain ⟨o',e1⟩:=I.base.there b o e hx;exact there b o' (neC b o e hx) e1
 ·obtain ⟨m1,e1⟩:=I.base.tbls b ps e;obtain ⟨m2,e2⟩:=tbls b _ e1;exact ⟨m1++m2,by rw [e2,Array.append_assoc]⟩
 ·obtain ⟨m,hn,hl⟩:=I.loc;refine ⟨m,ns m hn,fun i x v e1 e2 e3=>?_⟩;obtain ⟨u,r,l⟩:=hl i x v e1 e2 e3;refine ⟨u,r,?_⟩;rcases l with l|⟨k,c,e,z⟩
  ·exact .inl l
  ·exact .inr ⟨k,c,e,cellK x c e _ z⟩
 ·obtain ⟨v,z⟩:=I.cell x c e;exact ⟨v,cellK x c e v z⟩
 ·obtain ⟨m,⟨o,_,_,ho,_⟩,_⟩:=I.loc;exact free _ o (fun z=>(hch _ z).2.1 rfl) ho I.free
 ·obtain ⟨v,o,ho,hd⟩:=I.cell x c e;exact free c o (fun z=>(hch c z).2.2.1 x c e rfl) ho (I.freeC x c e)
 ·obtain ⟨e,n,ne,nf,d⟩:=I.pin p hp;have nch:p.1∉ch:=fun z=>(hch p.1 z).2.2.2 p hp rfl;exact ⟨keep p.1 p.2 ne nf nch e n,free p.1 p.2 nch e n,ne,nf,d⟩
theorem Inv.un {t':Nat} (I:Inv X pins σ H s) (u:Un X.fs [] H H' s.heap h') (hok:HOk X.prog X.w H' h'):Inv X pins σ H' { s with heap:=h',toks:=t' }:=by
 obtain ⟨m,⟨o,es,ep,ho,r⟩,_⟩:=id I.loc;obtain ⟨sl,hL⟩:=u.any ho I.free (by simp)
 exact I.step (g':=s.gens) (d':=s.drawn) (ch:=[]) (fun _ z=>nomatch z) (fun b o _ hb _ e n=>u.keep b o e n hb (by simp)) (fun b o _ hb _ e n=>u.slot b o e n hb (by simp)) (fun b o _ e n=>u.free b o e n (by simp)) (fun b o _ e=>u.there b o e (by simp)) u.tups u.frzs u.tbls (fun m' hm=>by
  obtain ⟨o',es',ep',ho',r'⟩:=hm;rw [ho] at ho';cases ho';exact ⟨_,es',ep',hL,r'⟩) hok I.bare
theorem Inv.call {g':Array GenState} {t':Nat} {d':Drawn} {ch:List Addr} (I:Inv X pins σ H s) (u:Un (Yn X.stack) ch H H' s.heap h') (hok:HOk X.prog X.w H' h') (hg:AllBare g')
  (hch:∀b∈ch,(b∈X.ex∨X.s₀.heap.objs.size≤b)∧b≠X.env.locals∧(∀x c,X.env.cells.lookup x=some c->c≠b)∧∀p∈X.pn++pins,p.1≠b) :
  Inv X pins σ H' { s with heap:=h',gens:=g',drawn:=d',toks:=t' }:=by
 obtain ⟨m,⟨o,es,ep,ho,r⟩,_⟩:=id I.loc;obtain ⟨sl,hL⟩:=u.any ho I.free fun z=>(hch _ z).2.1 rfl
 exact I.step (ch:=ch) hch (fun b o hL hb hc e n=>u.keep b o e n (fun z=>(Qh.mp (I.stkSub b z)).elim hL hb) hc) (fun b o _ _ hc e n=>u.any e n hc) (fun b o hc e n=>u.free b o e n hc) (fun b o hc e=>u.there b o e hc) u.tups u.frzs u.tbls (fun m' hm=>by
  obtain ⟨o',es',ep',ho',r'⟩:=hm;rw [ho] at ho';cases ho';exact ⟨_,es',ep',hL,r'⟩) hok hg
theorem Inv.turned {t':Nat} {it:Addr} (I:Inv X pins σ H s) (k:∀b o,b≠it->s.heap.get? b=some o->h'.get? b=some o) (hn:H it=none) (hL:it≠X.env.locals)
  (h1:it∈X.ex∨X.s₀.heap.objs.size≤it) (h2:∀x c,X.env.cells.lookup x=some c->c≠it) (h3:∀p∈X.pn++pins,p.1≠it):Inv X pins σ H { s with heap:=h',toks:=t' }:=by
 have nit:∀b u,H b=some u->b≠it:=fun b u e z=>by rw [z,hn] at e;cases e
 refine I.step (g':=s.gens) (d':=s.drawn) (ch:=[it]) (fun b hb=>?_) (fun b o _ _ hc e _=>k b o (fun z=>hc (by simp [z])) e) (fun b o _ _ hc e _=>⟨o.slots,k b o (fun z=>hc (by simp [z])) e⟩) (fun _ _ _ _ n=>n)
  (fun b o hc e=>⟨o,k b o (fun z=>hc (by simp [z])) e⟩) (fun _ _ e=>e) (fun _ _ _ e=>e) (fun b ps e=>⟨#[],by rw [e];simp⟩) (fun m hm=>?_) (fun b u e=>?_) I.bare
 ·have e:b=it:=by simpa using hb
  subst e;exact ⟨h1,hL,h2,h3⟩
 ·obtain ⟨o,es,ep,ho,r⟩:=hm;exact ⟨o,es,ep,k _ o (QY hL) ho,r⟩
 ·refine (I.hok b u e).stay (fun c v hc q=>k c v ?_ q) (fun _ q=>q) fun _ _ q=>q;rcases hc with z|z
  ·rw [z];exact nit b u e
  ·exact nit c _ z
theorem Inv.tok (I:Inv X pins σ H s) (t:Nat):Inv X pins σ H { s with toks:=t }:=I.un (h':=s.heap) (t':=t) Un.refl I.hok
theorem Inv.kept {t':Nat} (I:Inv X pins σ H s) (k:∀b u,s.heap.get? b=some u->h'.get? b=some u):Inv X pins σ H { s with heap:=h',toks:=t' }:=I.un (Un.kept k) (I.hok.kept k)
theorem Inv.laid {a:Addr} {o:HO} {t':Nat} (I:Inv X pins σ H s) (k:∀b u,s.heap.get? b=some u->h'.get? b=some u) (hp:s.heap.objs.size≤a) (new:ObjOk X.prog X.w (Zc H a o) h' a o) :
  Inv X pins σ (Zc H a o) { s with heap:=h',toks:=t' }:=I.un (Un.laid k hp (I.hok.fresh hp)) (I.hok.laid k hp new)
theorem Inv.write {x e:Addr} {o:HO} {t':Nat} (I:Inv X pins σ H s) (mu:Mut (H x)) (he:e=x∨H e=some (.own x)) (k:∀b u,b≠e->s.heap.get? b=some u->h'.get? b=some u) (heo:∃u,h'.get? e=some u)
  (new:ObjOk X.prog X.w (Zc H x o) h' x o):Inv X pins σ (Zc H x o) { s with heap:=h',toks:=t' }:=I.un (Un.write mu he k heo) (I.hok.write mu he k heo new)
theorem Inv.pins_of {pins':List (Addr×Obj)} (I:Inv X pins σ H s) (h:∀p∈pins',s.heap.get? p.1=some p.2∧H p.1=none∧p.1≠X.env.locals∧p.1∉X.fs∧∀v,p.2.data≠.cell v):Inv X pins' σ H s :=
 ⟨I.ok,I.os,I.bare,I.base,I.loc,I.cell,I.free,I.freeC,fun p hp=>(Ql.mp hp).elim (fun z=>I.pin p (Q8 _ z)) (h p),I.hok,I.len⟩
theorem Zhn {N:List Str} (hN:N.Nodup) {i j:Nat} {x:Str} (a:N[i]?=some x) (b:N[j]?=some x):i=j:=by
 obtain ⟨h1,e1⟩:=QH.mp a;obtain ⟨h2,e2⟩:=QH.mp b;exact (List.getElem_inj hN).mp (e1.trans e2.symm)
theorem ZfR {M:Model} {A:Around} {E:Value->Shared->Prop} {i:Nat} {x:Str} {v:V} {u:Value} {Q:Unit->Shared->Prop} (I:Inv X pins σ H s) (hN:X.N.Nodup) (hi:X.N[i]?=some x) (hx:Loc X.env.scope x) (r:RelV v u)
  (h:∀s',Inv X pins (σ.set i (some v)) H s'->(∃a,Heap.SameBut a s.heap s'.heap∧(a=X.env.locals∨X.env.cells.lookup x=some a))->Q () s') (hf:X.fn x=true∨X.env.scope.names.lookup x=some .local:=by first|exact .inl rfl|exact .inr rfl|assumption):wpAny M A (storeName X.env x u) Q E s:=by
 obtain ⟨m,hn,hl⟩:=id I.loc;have hcls:(X.env.scope.kind==.class||(X.env.scope.kind==.module&&X.env.locals != X.env.globals))=false:=by rw [I.ok.kind];rfl
 have hiσ:i<σ.length:=by rw [I.len];exact (QH.mp hi).1
 have cne:=I.cne
 have tracked:∀{a:Addr} {h':Heap},(∃o,s.heap.get? a=some o∧H a=none)->Heap.SameBut a s.heap h'->HOk X.prog X.w H h':=fun {a h'} ha hs b ob e=>by
  obtain ⟨_,_,hfree⟩:=ha;refine (I.hok b ob e).stay (fun c w' hc q=>(hs.2 c ?_).trans q) (fun _ q=>q) fun _ _ q=>q;rintro rfl;rcases hc with rfl|hc
  ·rw [hfree] at e;cases e
  ·rw [hfree] at hc;cases hc
 rcases hx with hk|hk
 ·refine wpAny_storeName_local hk hn (fun h' hn' hs=>?_) hcls;obtain ⟨oL,_,_,hoL,_⟩:=id hn;refine h _ ⟨I.ok,I.os,I.bare,⟨fun b o e n hb hx=>?_,fun b o e n hb hx=>?_,I.base.free,fun b o e hx=>?_,I.base.tups,I.base.frzs,I.base.tbls⟩,⟨_,hn',fun j y v' e1 e2 e3=>?_⟩,fun y c e=>?_,I.free,I.freeC,fun p hp=>?_,tracked ⟨oL,hoL,I.free⟩ hs,by simpa using I.len⟩ ⟨_,hs,.inl rfl⟩
  ·exact (hs.2 b (QB (Qk (Qi e) I.ok.above))).trans (I.base.keep b o e n hb hx)
  ·obtain ⟨sl,e1⟩:=I.base.slot b o e n hb hx;exact ⟨sl,(hs.2 b (QB (Qk (Qi e) I.ok.above))).trans e1⟩
  ·obtain ⟨o',e1⟩:=I.base.there b o e hx;exact ⟨o',(hs.2 b (QB (Qk (Qi e) I.ok.above))).trans e1⟩
  ·by_cases hj:j=i
   ·subst hj;rw [hi] at e1;cases e1;rw [List.getElem?_set_self hiσ] at e2;cases e2;exact ⟨u,r,.inl ⟨hk,by simp⟩⟩
   ·rw [List.getElem?_set_ne (QY hj)] at e2;obtain ⟨u',r',q⟩:=hl j y v' e1 e2 e3;refine ⟨u',r',?_⟩;rcases q with ⟨k,e⟩|⟨k,c,e,z⟩
    ·refine .inl ⟨k,?_⟩;have:y≠x:=fun e=>hj (Zhn hN e1 (e▸hi));simp [this,e]
    ·exact .inr ⟨k,c,e,z.sameBut hs (cne y c e)⟩
  ·obtain ⟨w',z⟩:=I.cell y c e;exact ⟨w',z.sameBut hs (cne y c e)⟩
  ·obtain ⟨e,n,ne,nf,d⟩:=I.pin p hp;exact ⟨(hs.2 p.1 ne).trans e,n,ne,nf,d⟩
 ·have hfn:X.fn x=true:=by
   rcases hf with z|z
   ·exact z
   ·rw [z] at hk;cases hk
  obtain ⟨c,hc⟩:=I.ok.has x (.inl hk);obtain ⟨w',z⟩:=I.cell x c hc;refine wpAny_storeName_cell I.ok.kind hk hc z (fun h' hc' hs=>?_);obtain ⟨oc,hoc,hocd⟩:=id z;refine h { s with heap:=h' } ⟨I.ok,I.os,I.bare,⟨fun b o e n hb hx=>?_,fun b o e n hb hx=>?_,I.base.free,fun b o e hx=>?_,I.base.tups,I.base.frzs,I.base.tbls⟩,⟨m,hn.sameBut hs (QY (cne x c hc)),fun j y v' e1 e2 e3=>?_⟩,fun y c' e=>?_,I.free,I.freeC,fun p hp=>?_,tracked ⟨oc,hoc,I.freeC x c hc⟩ hs,by simpa using I.len⟩ ⟨c,hs,.inr hc⟩
  ·exact (hs.2 b (QB (Qk (Qi e) (I.ok.cab x c hfn hc)))).trans (I.base.keep b o e n hb hx)
  ·obtain ⟨sl,e1⟩:=I.base.slot b o e n hb hx;exact ⟨sl,(hs.2 b (QB (Qk (Qi e) (I.ok.cab x c hfn hc)))).trans e1⟩
  ·obtain ⟨o',e1⟩:=I.base.there b o e hx;exact ⟨o',(hs.2 b (QB (Qk (Qi e) (I.ok.cab x c hfn hc)))).trans e1⟩
  ·by_cases hj:j=i
   ·subst hj;rw [hi] at e1;cases e1;rw [List.getElem?_set_self hiσ] at e2;cases e2;exact ⟨u,r,.inr ⟨.inl hk,c,hc,hc'⟩⟩
   ·rw [List.getElem?_set_ne (QY hj)] at e2;obtain ⟨u',r',q⟩:=hl j y v' e1 e2 e3;refine ⟨u',r',?_⟩;rcases q with q|⟨k,c',e,z'⟩
    ·exact .inl q
    ·refine .inr ⟨k,c',e,z'.sameBut hs ?_⟩;rintro rfl;exact hj (Zhn hN e1 (I.ok.inj _ _ _ e hc▸hi))
  ·by_cases hcc:c'=c
   ·subst hcc;exact ⟨_,hc'⟩
   ·obtain ⟨w2,z2⟩:=I.cell y c' e;exact ⟨w2,z2.sameBut hs hcc⟩
  ·obtain ⟨e,n,ne,nf,d⟩:=I.pin p hp;refine ⟨(hs.2 p.1 ?_).trans e,n,ne,nf,d⟩;intro q;rw [q,hoc] at e;have q':oc=p.2:=Qo e;exact d w' (by rw [←q'];exact hocd)
theorem Zev {M:Model} {A:Around} {E:Value->Shared->Prop} {i:Nat} {x:Str} {v:V} {u:Value} {Q:Unit->Shared->Prop} (I:Inv X pins σ H s) (hN:X.N.Nodup) (hi:X.N[i]?=some x) (hx:Loc X.env.scope x) (r:RelV v u)
  (h:∀s',Inv X pins (σ.set i (some v)) H s'->Q () s') (hf:X.fn x=true∨X.env.scope.names.lookup x=some .local:=by first|exact .inl rfl|exact .inr rfl|assumption):wpAny M A (storeName X.env x u) Q E s :=
 ZfR I hN hi hx r (fun s' I' _=>h s' I') hf
theorem Inv.call' {s':Shared} {ch:List Addr} (I:Inv X pins σ H s) (ho:s'.os=s.os) (u:Un (Yn X.stack) ch H H' s.heap s'.heap) (hok:HOk X.prog X.w H' s'.heap) (hg:AllBare s'.gens)
  (hch:∀b∈ch,(b∈X.ex∨X.s₀.heap.objs.size≤b)∧b≠X.env.locals∧(∀x c,X.env.cells.lookup x=some c->c≠b)∧∀p∈X.pn++pins,p.1≠b):Inv X pins σ H' s':=by
 obtain ⟨h',g',d',t',o'⟩:=s';have e:o'=s.os:=ho;subst e;exact I.call (g':=g') (t':=t') (d':=d') u hok hg hch
end
abbrev XK:=Value->Option Addr->Hp->Prop
abbrev St:=List (Option V)
abbrev VK:=V->Hp->Prop
abbrev TE:=St->Hp->VK->Prop
abbrev TT:=St->Hp->(Bool->Hp->Prop)->Prop
abbrev TA:=St->Hp->(List V->Hp->Prop)->Prop
structure Ends where
 nx:St->Hp->Prop
 rt:VK
 bk:St->Hp->Prop:=fun _ _=>False
 ct:St->Hp->Prop:=fun _ _=>False
abbrev TS:=Ends->St->Hp->Prop
def EP (X:Cx) (pins:List (Addr×Obj)) (σ:St) (Q:VK) (u:Value) (s':Shared):Prop:=∃v H',Inv X pins σ H' s'∧RelV v u∧Q v H'
def TP (X:Cx) (pins:List (Addr×Obj)) (σ:St) (Q:Bool->Hp->Prop) (b:Bool) (s':Shared):Prop:=∃H',Inv X pins σ H' s'∧Q b H'
def AP (X:Cx) (pins:List (Addr×Obj)) (σ:St) (Q:List V->Hp->Prop) (us:List Value) (s':Shared):Prop:=∃vs H',Inv X pins σ H' s'∧Vals vs us∧Q vs H'
def SP (X:Cx) (pins:List (Addr×Obj)) (D:Ends) (f:Flow) (s':Shared):Prop :=
 match f with
 |.next=>∃σ' H',Inv X pins σ' H' s'∧D.nx σ' H'
 |.brk=>∃σ' H',Inv X pins σ' H' s'∧D.bk σ' H'
 |.cont=>∃σ' H',Inv X pins σ' H' s'∧D.ct σ' H'
 |.ret u=>∃v σ' H',Inv X pins σ' H' s'∧RelV v u∧D.rt v H'
def PE (X:Cx) (e:Expr) (t:TE):Prop :=
 ∀(pins:List (Addr×Obj)) (s:Shared) (σ:St) (H:Hp) (Q:VK),Inv X pins σ H s->t σ H Q->wpAny (model X.prog X.w) X.A (eval e X.env) (EP X pins σ Q) X.xe s
def PT (X:Cx) (e:Expr) (t:TT):Prop :=
 ∀(pins:List (Addr×Obj)) (s:Shared) (σ:St) (H:Hp) (Q:Bool->Hp->Prop),Inv X pins σ H s->t σ H Q->wpAny (model X.prog X.w) X.A (isTrue e X.env (eval e X.env)) (TP X pins σ Q) X.xe s
def PW (X:Cx) (e:Expr) (t:TT):Prop :=
 ∀(whole:Sem Value) (pins:List (Addr×Obj)) (s:Shared) (σ:St) (H:Hp) (Q:Bool->Hp->Prop),Inv X pins σ H s->t σ H Q->wpAny (model X.prog X.w) X.A (isTrue e X.env whole) (TP X pins σ Q) X.xe s
theorem PW.pt {X:Cx} {e:Expr} {t:TT} (h:PW X e t):PT X e t:=h _
def PA (X:Cx) (es:List Expr) (t:TA):Prop :=
 ∀(pos:Pos) (pins:List (Addr×Obj)) (s:Shared) (σ:St) (H:Hp) (Q:List V->Hp->Prop),Inv X pins σ H s->t σ H Q->wpAny (model X.prog X.w) X.A (spliced (backTo pos (starEach es X.env))) (AP X pins σ Q) X.xe s
def PS (X:Cx) (st:Stmt) (t:TS):Prop :=
 ∀(pins:List (Addr×Obj)) (s:Shared) (σ:St) (H:Hp) (D:Ends),Inv X pins σ H s->t D σ H->wpAny (model X.prog X.w) X.A (exec st X.env) (SP X pins D) X.xe s
def PSs (X:Cx) (st:List Stmt) (t:TS):Prop :=
 ∀(pins:List (Addr×Obj)) (s:Shared) (σ:St) (H:Hp) (D:Ends),Inv X pins σ H s->t D σ H->wpAny (model X.prog X.w) X.A (execs st X.env) (SP X pins D) X.xe s
theorem Zp {α:Type} {t:Sem α} {Q Q':α->Shared->Prop} {M:Model} {A:Around} {E:Value->Shared->Prop} {s:Shared} (h:wpAny M A t Q E s) (hQ:∀a s,Q a s->Q' a s):wpAny M A t Q' E s:=Q2 h hQ fun _ _ x=>x
section
variable {X:Cx}
def UN (i:Nat):TE:=fun σ H Q=>∃v,σ[i]?=some (some v)∧Q v H
def tC (v:V):TE:=fun _ H Q=>Q v H
theorem Zb2 {i:Nat} {x:Str} {pos:Pos} (hN:X.N[i]?=some x) (hv:J2 X.env.scope x) (hd:(x==("__debug__" : Str))=false:=by decide) (hcd:(x==("__classdict__" : Str))=false:=by decide):PE X (.Name x pos) (UN i):=by
 intro pins s σ H Q I h;obtain ⟨v,e,h⟩:=h;obtain ⟨m,hn,hl⟩:=I.loc;obtain ⟨u,r,l⟩:=hl i x v hN e hv;have fin:EP X pins σ Q u s:=⟨v,H,I,r,h⟩;rcases l with ⟨hk,hm⟩|⟨hk,c,hc,hcell⟩
 ·exact Rq (Gz I.ok.kind hk hn hm fin) hd
 ·rcases hk with hk|hk
  ·exact Rq (wpAny_loadName_cell I.ok.kind hk hc hcell fin) hd
  ·exact Rq (G7 I.ok.kind hk hc hcell fin hcd) hd
theorem Zi {i j pos}:PE X (.Constant (.int i) j pos) (tC (.int i)):=fun _ _ _ H _ I h=>wpAny_Constant_int ⟨.int i,H,I.tok _,⟨_,rfl⟩,h⟩
theorem YR {b j pos}:PE X (.Constant (.bool b) j pos) (tC (.bl b)):=fun _ _ _ H _ I h=>Constant_bool ⟨.bl b,H,I,rfl,h⟩
theorem ZcT {j pos}:PE X (.Constant .none j pos) (tC .non):=fun _ _ _ H _ I h=>Constant_none ⟨.non,H,I,rfl,h⟩
theorem Zh {x j pos}:PE X (.Constant (.str x) j pos) (tC (.str x)):=fun _ _ _ H _ I h=>Calls.Constant_str ⟨.str x,H,I.tok _,⟨_,rfl⟩,h⟩
def Gl (X:Cx) (x:Str):Prop:=X.env.kindOf x=some .globalImplicit
theorem JS {E:Value->Shared->Prop} {pins:List (Addr×Obj)} {s:Shared} {σ:St} {H:Hp} {x:Str} {u:Value} {pos:Pos} {Q:Value->Shared->Prop} (I:Inv X pins σ H s) (hg:Gl X x) (hm:X.mg x=some u) (h:Q u s)
  (hd:(x==("__debug__" : Str))=false:=by decide):wpAny (model X.prog X.w) X.A (eval (.Name x pos) X.env) Q E s :=
 G8 I.ok.kind hg (Calls.loadGlobal_global (by rw [I.ok.glob];exact I.mod.glob.keeps I.bk) hm h) hd
theorem VA {E:Value->Shared->Prop} {pins:List (Addr×Obj)} {s:Shared} {σ:St} {H:Hp} {x:Str} {u:Value} {pos:Pos} {Q:Value->Shared->Prop} (I:Inv X pins σ H s) (hg:Gl X x) (hm:X.mg x=none) (hv:bootBuiltins x=some u) (h:Q u s)
  (hn:x≠"__name__":=by decide) (hd:(x==("__debug__" : Str))=false:=by decide):wpAny (model X.prog X.w) X.A (eval (.Name x pos) X.env) Q E s:=by
 obtain ⟨mb,h1,h2⟩:=I.mod.blt;exact G8 I.ok.kind hg (Calls.loadGlobal_builtin (by rw [I.ok.glob];exact I.mod.glob.keeps I.bk) hm (by rw [I.ok.blt];exact h1.keeps I.bk) ((h2 x hn).trans hv) h) hd
theorem Xv {x:Str} {v:V} {u:Value} {pos:Pos} (hg:Gl X x) (hm:X.mg x=some u) (r:RelV v u) (hd:(x==("__debug__" : Str))=false:=by decide):PE X (.Name x pos) (tC v) :=
 fun _ _ _ H _ I h=>JS I hg hm ⟨v,H,I,r,h⟩ hd
theorem X8 {x:Str} {v:V} {u:Value} {pos:Pos} (hg:Gl X x) (hm:X.mg x=none) (hv:bootBuiltins x=some u) (r:RelV v u) (hn:x≠"__name__":=by decide) (hd:(x==("__debug__" : Str))=false:=by decide):PE X (.Name x pos) (tC v) :=
 fun _ _ _ H _ I h=>VA I hg hm hv ⟨v,H,I,r,h⟩ hn hd
variable {a b:Expr} {ta tb:TE} {pos:Pos}
def PC (X:Cx) (op:CmpOp) (a b:Expr) (t:TE):Prop :=
 ∀(pins:List (Addr×Obj)) (s:Shared) (σ:St) (H:Hp) (Q:VK),Inv X pins σ H s->t σ H Q →
  wpAny (model X.prog X.w) X.A (eval a X.env) (fun v s₁=>wpAny (model X.prog X.w) X.A (eval b X.env) (fun u s₂=>wpAny (model X.prog X.w) X.A (compareOp op v u) (EP X pins σ Q) X.xe s₂) X.xe s₁) X.xe s
def tB (t:TE):TT:=fun σ H Q=>t σ H fun x H1=>∃c,x=.bl c∧Q c H1
theorem UA {op:CmpOp} {t:TE} (h:PC X op a b t) (h1:behindInMarks op b=false:=by first|exact nobehind _ (by decide) (by decide)|rfl):PT X (.Compare a [op] [b] pos) (tB t):=by
 intro pins s σ H Q I hw;refine wpAny_isTrue_Compare1 (Zp (h pins s σ H _ I hw) fun v s1 h1=>Zp h1 fun u s2 h2=>Zp h2 fun c s3 ⟨x,H1,I1,r1,q1⟩=>?_) h1;obtain ⟨d,rfl,q⟩:=q1;cases r1;exact RH ⟨H1,I1,q⟩
theorem Xx {e:Expr} {t:TE} (h:PE X e t) (he:∀whole,isTrue e X.env whole=(do let v ←whole;standAt e.pos;holding [v] (truthy v)):=by intro _;rfl):PT X e (tB t):=by
 intro pins s σ H Q I hw;refine isTrue_plain (Zp (h pins s σ H _ I hw) fun v s1 ⟨x,H1,I1,r1,q1⟩=>?_) (he _);obtain ⟨d,rfl,q⟩:=q1;cases r1;exact RH ⟨H1,I1,q⟩
variable {tA tB':TT} {rest:List Expr}
def ZnC (t u:TT):TT:=fun σ H Q=>t σ H fun c H1=>if c=true then u σ H1 Q else Q false H1
def tOr (t u:TT):TT:=fun σ H Q=>t σ H fun c H1=>if c=true then Q true H1 else u σ H1 Q
def Zm4 (t:TT):TT:=fun σ H Q=>t σ H fun c H1=>Q (!c) H1
theorem VG (ha:PT X a tA):PW X (.BoolOp .And [a] pos) tA:=by
 intro wh pins s σ H Q I h;refine isTrue_and (Zp (ha pins s σ H Q I h) fun c s1 e=>?_);cases c with
 |true=>exact isTrue_and_nil e
 |false=>exact e
theorem Vo (ha:PT X a tA):PW X (.BoolOp .Or [a] pos) tA:=by
 intro wh pins s σ H Q I h;refine isTrue_or (Zp (ha pins s σ H Q I h) fun c s1 e=>?_);cases c with
 |false=>exact isTrue_or_nil e
 |true=>exact e
theorem Vh (ha:PT X a tA) (hb:PW X (.BoolOp .And (b::rest) pos) tB'):PW X (.BoolOp .And (a::b::rest) pos) (ZnC tA tB'):=by
 intro wh pins s σ H Q I h;refine isTrue_and (Zp (ha pins s σ H _ I h) fun c s1 ⟨H1,I1,q1⟩=>?_);cases c with
 |true=>exact hb wh pins s1 σ H1 Q I1 q1
 |false=>exact ⟨H1,I1,q1⟩
theorem WU (ha:PT X a tA) (hb:PW X (.BoolOp .Or (b::rest) pos) tB'):PW X (.BoolOp .Or (a::b::rest) pos) (tOr tA tB'):=by
 intro wh pins s σ H Q I h;refine isTrue_or (Zp (ha pins s σ H _ I h) fun c s1 ⟨H1,I1,q1⟩=>?_);cases c with
 |true=>exact ⟨H1,I1,q1⟩
 |false=>exact hb wh pins s1 σ H1 Q I1 q1
theorem W2 (ha:PT X a tA):PT X (.UnaryOp .Not a pos) (Zm4 tA):=by
 intro pins s σ H Q I h;exact isTrue_not (ha pins s σ H (fun c H1=>Q (!c) H1) I h)
def Zls (ta tb:TE):TE:=fun σ H Q=>ta σ H fun x H1=>∃c,x=.bl c∧if c=true then tb σ H1 Q else Q (.bl false) H1
def ZoY (ta tb:TE):TE:=fun σ H Q=>ta σ H fun x H1=>∃c,x=.bl c∧if c=true then Q (.bl true) H1 else tb σ H1 Q
def ZjZ (ta:TE):TE:=fun σ H Q=>ta σ H fun x H1=>∃c,x=.bl c∧Q (.bl (!c)) H1
theorem XI {op} {t:TE} (h:PE X a t):PE X (.BoolOp op [a] pos) t:=fun pins s σ H Q I hw=>BoolOp_one (h pins s σ H Q I hw)
theorem Wk (ha:PE X a ta) (hb:PE X (.BoolOp .And (b::rest) pos) tb):PE X (.BoolOp .And (a::b::rest) pos) (Zls ta tb):=by
 intro pins s σ H Q I h;refine BoolOp_and (Zp (ha pins s σ H _ I h) fun v s1 ⟨x,H1,I1,r1,q1⟩=>?_);obtain ⟨c,rfl,q1⟩:=q1;cases r1;refine RH ?_;cases c with
 |true=>exact hb pins s1 σ H1 Q I1 q1
 |false=>exact ⟨.bl false,H1,I1,rfl,q1⟩
theorem ZdD (ha:PE X a ta) (hb:PE X (.BoolOp .Or (b::rest) pos) tb):PE X (.BoolOp .Or (a::b::rest) pos) (ZoY ta tb):=by
 intro pins s σ H Q I h;refine BoolOp_or (Zp (ha pins s σ H _ I h) fun v s1 ⟨x,H1,I1,r1,q1⟩=>?_);obtain ⟨c,rfl,q1⟩:=q1;cases r1;refine RH ?_;cases c with
 |false=>exact hb pins s1 σ H1 Q I1 q1
 |true=>exact ⟨.bl true,H1,I1,rfl,q1⟩
theorem ZpG (ha:PE X a ta):PE X (.UnaryOp .Not a pos) (ZjZ ta):=by
 intro pins s σ H Q I h;refine UnaryOp_ (Zp (ha pins s σ H _ I h) fun v s1 ⟨x,H1,I1,r1,q1⟩=>?_);obtain ⟨c,rfl,q1⟩:=q1;cases r1;exact not_of (RH ⟨.bl (!c),H1,I1,rfl,q1⟩)
def tIf (t:TT) (ta tb:TE):TE:=fun σ H Q=>t σ H fun c H1=>if c=true then ta σ H1 Q else tb σ H1 Q
theorem Zdf {c:Expr} (hc:PT X c tA) (ha:PE X a ta) (hb:PE X b tb):PE X (.IfExp c a b pos) (tIf tA ta tb):=by
 intro pins s σ H Q I h;refine wpAny_IfExp (Zp (hc pins s σ H _ I h) fun d s1 ⟨H1,I1,q1⟩=>?_);cases d with
 |true=>exact ha pins s1 σ H1 Q I1 q1
 |false=>exact hb pins s1 σ H1 Q I1 q1
end
def SqL (K:W.Frag) (H:Hp) (a:Addr) (xs:List V):Prop :=
 Rd H a (.lst xs) ∨
  ∃(o:Obj) (its:Array Value) (n:Nat),K.lookup a=some o∧o.cls=.type "list"∧o.dict=none∧o.data=.seq its n∧its.size≤sizeLine∧Vals xs its.toList
def SqT (K:W.Frag) (H:Hp) (a:Addr) (xs:List V):Prop :=
 Rd H a (.tup xs) ∨
  ∃(o:Obj) (its:Array Value) (n:Nat),K.lookup a=some o∧o.cls=.type "tuple"∧o.data=.seq its n∧its.size≤sizeLine∧Vals xs its.toList
noncomputable def Zmn:Value->Option V
 |.none=>some .non
 |.bool b=>some (.bl b)
 |.int i _=>some (.int i)
 |.str x _=>some (.str x)
 |.bytes b _=>some (.byt b)
 |.float b _=>some (.flt b)
 |.ref a=>some (.ref a)
 |.type n=>some (.ty n)
 |_=>none
theorem RelV.abs {x:V} {u:Value} (r:RelV x u):Zmn u=some x:=by
 cases x with
 |non=>cases r;rfl
 |bl _=>cases r;rfl
 |int _=>obtain ⟨t,rfl⟩:=r;rfl
 |str _=>obtain ⟨t,rfl⟩:=r;rfl
 |byt _=>obtain ⟨t,rfl⟩:=r;rfl
 |flt _=>obtain ⟨t,rfl⟩:=r;rfl
 |ref _=>cases r;rfl
 |ty _=>cases r;rfl
theorem RelV.inj {x y:V} {u:Value} (r:RelV x u) (q:RelV y u):x=y:=Qo (r.abs.symm.trans q.abs)
theorem Vals.inj:∀{xs ys:List V} {us:List Value},Vals xs us->Vals ys us->xs=ys
 |_,_,_,.nil,.nil=>rfl
 |_,_,_,.cons r t,.cons r' t'=>by rw [r.inj r',Vals.inj t t']
section
variable {X:Cx} {pins:List (Addr×Obj)} {σ:St} {H:Hp} {s:Shared} {a:Addr} {xs ys:List V}
theorem SqL.of {K:W.Frag} (h:H a=some (.lst xs)):SqL K H a xs:=.inl (.inl h)
theorem SqT.of {K:W.Frag} (h:H a=some (.tup xs)):SqT K H a xs:=.inl (.inl h)
theorem Inv.list (I:Inv X pins σ H s) (h:SqL X.K H a xs):∃its:List Value,Vals xs its∧PlainL s.heap a its.toArray∧xs.length≤sizeLine:=by
 rcases h with h|⟨o,its,n,hk,hc,hd,hs,hz,r⟩
 ·obtain ⟨z,its,n,r,e⟩:=h.ok I.hok;exact ⟨its,r,⟨_,n,e,rfl,rfl,rfl⟩,z⟩
 ·refine ⟨its.toList,r,⟨o,n,I.kIn a o hk,hc,hd,by simpa using hs⟩,?_⟩;have e:=r.length;simp only [RY] at e;omega
theorem Inv.tuple (I:Inv X pins σ H s) (h:SqT X.K H a xs):∃its:List Value,Vals xs its∧IsTup s.heap a its.toArray∧xs.length≤sizeLine:=by
 rcases h with h|⟨o,its,n,hk,hc,hs,hz,r⟩
 ·obtain ⟨z,its,r,p⟩:=h.ok I.hok;exact ⟨its,r,p,z⟩
 ·refine ⟨its.toList,r,⟨o,I.kIn a o hk,hc,n,by simpa using hs⟩,?_⟩;have e:=r.length;simp only [RY] at e;omega
theorem Inv.list_inj (I:Inv X pins σ H s) (h:SqL X.K H a xs) (h':SqL X.K H a ys):xs=ys:=by
 obtain ⟨its,r,⟨o,n,e,_,_,d⟩,_⟩:=I.list h;obtain ⟨its',r',⟨o',n',e',_,_,d'⟩,_⟩:=I.list h';rw [e] at e';cases e';rw [d] at d';injection d' with d1 _;have:its=its':=by simpa using Qy Array.toList d1
 subst this;exact r.inj r'
theorem Inv.tuple_inj (I:Inv X pins σ H s) (h:SqT X.K H a xs) (h':SqT X.K H a ys):xs=ys:=by
 obtain ⟨its,r,⟨o,e,_,n,d⟩,_⟩:=I.tuple h;obtain ⟨its',r',⟨o',e',_,n',d'⟩,_⟩:=I.tuple h';rw [e] at e';cases e';rw [d] at d';injection d' with d1 _;have:its=its':=by simpa using Qy Array.toList d1
 subst this;exact r.inj r'
end
section
variable {X:Cx} {pins:List (Addr×Obj)} {σ:St} {H:Hp} {s:Shared} {E:Value->Shared->Prop}
end
section
variable {X:Cx} {st:Stmt} {rest:List Stmt} {t u:TS} {e:Expr} {te:TE} {pos:Pos}
def ZdH:TS:=fun D σ H=>D.nx σ H
def JY (t u:TS):TS:=fun D σ H=>t { D with nx:=u D } σ H
theorem ZT:PSs X [] ZdH:=fun _ _ σ H _ I h=>wpAny_execs_nil ⟨σ,H,I,h⟩
theorem Zn (h1:PS X st t) (h2:PSs X rest u):PSs X (st::rest) (JY t u):=by
 intro pins s σ H D I h;refine wpAny_execs_cons (Zp (h1 pins s σ H { D with nx:=u D } I h) fun f s1 q=>?_);cases f with
 |next =>
  obtain ⟨σ',H',I',q⟩:=q;exact h2 pins s1 σ' H' D I' q
 |ret v=>exact q
 |brk=>exact q
 |cont=>exact q
theorem Zk (h1:PS X st t):PSs X [st] t:=by
 intro pins s σ H D I h;refine wpAny_execs_cons (Zp (h1 pins s σ H D I h) fun f s1 q=>?_);cases f with
 |next=>exact wpAny_execs_nil q
 |ret v=>exact q
 |brk=>exact q
 |cont=>exact q
theorem Inv.quiet {pins:List (Addr×Obj)} {σ:St} {H:Hp} {s:Shared} (I:Inv X pins σ H s):interactive X.env=false:=by simp [interactive,I.ok.kind]
def ZnP (te:TE):TS:=fun D σ H=>te σ H fun _ H1=>D.nx σ H1
theorem Z8 (he:PE X e te) (hs:swapsWith e none pos.line X.env=pure false:=by rfl):PS X (.Expr e pos) (ZnP te):=by
 intro pins s σ H D I h;exact wpAny_Expr_any (Zp (he pins s σ H _ I h) fun v s1 ⟨x,H1,I1,r1,q1⟩=>⟨σ,H1,I1,q1⟩) I.quiet hs
def ZlB (te:TE):TS:=fun D σ H=>te σ H D.rt
theorem Zw (he:PE X e te):PS X (.Return (some e) pos) (ZlB te):=by
 intro pins s σ H D I h;exact wpAny_Return_some (Zp (he pins s σ H _ I h) fun v s1 ⟨x,H1,I1,r1,q1⟩=>⟨x,σ,H1,I1,r1,q1⟩)
def Zkp (c:TT) (t u:TS):TS:=fun D σ H=>c σ H fun b H1=>if b=true then t D σ H1 else u D σ H1
theorem ZJ {c:Expr} {a b:List Stmt} {tc:TT} (hc:PT X c tc) (ha:PSs X a t) (hb:PSs X b u):PS X (.If c a b pos) (Zkp tc t u):=by
 intro pins s σ H D I h;refine wpAny_If (Zp (hc pins s σ H _ I h) fun d s1 ⟨H1,I1,q1⟩=>?_);cases d with
 |true=>exact ha pins s1 σ H1 D I1 q1
 |false=>exact hb pins s1 σ H1 D I1 q1
end
abbrev TG:=V->St->Hp->(St->Hp->Prop)->Prop
abbrev Vx:=List V->St->Hp->(St->Hp->Prop)->Prop
def PG (X:Cx) (target:Expr) (t:TG):Prop :=
 ∀(pins:List (Addr×Obj)) (s:Shared) (σ:St) (H:Hp) (v:V) (u:Value) (Q:St->Hp->Prop),Inv X pins σ H s->RelV v u->t v σ H Q →
  wpAny (model X.prog X.w) X.A (assign target X.env u) (fun _ s'=>∃σ' H',Inv X pins σ' H' s'∧Q σ' H') X.xe s
def JA (X:Cx) (ts:List Expr) (t:Vx):Prop :=
 ∀(pins:List (Addr×Obj)) (s:Shared) (σ:St) (H:Hp) (vs:List V) (us:List Value) (Q:St->Hp->Prop),Inv X pins σ H s->Vals vs us->t vs σ H Q →
  wpAny (model X.prog X.w) X.A (assignInOrder ((assignEach ts X.env).map (·.2)) us) (fun _ s'=>∃σ' H',Inv X pins σ' H' s'∧Q σ' H') X.xe s
abbrev Zdo:=V->V->V->Hp->(Hp->Prop)->Prop
def Ze7 (X:Cx) (t:Zdo):Prop :=
 ∀(pins:List (Addr×Obj)) (s:Shared) (σ:St) (H:Hp) (o i v:V) (ov iv u:Value) (Q:Hp->Prop),Inv X pins σ H s->RelV o ov->RelV i iv->RelV v u->t o i v H Q →
  wpAny (model X.prog X.w) X.A (setItem ov iv u) (fun _ s'=>∃H',Inv X pins σ H' s'∧Q H') X.xe s
section
variable {X:Cx} {pos:Pos}
def Yj (i:Nat):TG:=fun v σ H Q=>Q (σ.set i (some v)) H
theorem Yo {i:Nat} {x:Str} (hN:X.N.Nodup) (hi:X.N[i]?=some x) (hx:Loc X.env.scope x) (hf:X.fn x=true∨X.env.scope.names.lookup x=some .local:=by first|exact .inl rfl|exact .inr rfl|assumption):PG X (.Name x pos) (Yj i):=by
 intro pins s σ H v u Q I r h;exact wpAny_assign_Name (Zev I hN hi hx r (fun s' I'=>⟨_,H,I',h⟩) hf)
noncomputable def Zje:Vx:=fun vs σ H Q=>vs=[]∧Q σ H
noncomputable def Zlj (t:TG) (u:Vx):Vx:=fun vs σ H Q=>∃v r,vs=v::r∧t v σ H fun σ' H'=>u r σ' H' Q
theorem Jw:JA X [] Zje:=by
 intro pins s σ H vs us Q I r h;obtain ⟨e,h⟩:=h;subst e;cases r;exact assignInOrder_nil ⟨σ,H,I,h⟩
theorem WQ {e:Expr} {es:List Expr} {t:TG} {u:Vx} (h1:PG X e t) (h2:JA X es u)
  (hs:(assignEach (e::es) X.env).map (·.2)=assign e X.env::(assignEach es X.env).map (·.2):=by rfl):JA X (e::es) (Zlj t u):=by
 intro pins s σ H vs us Q I r h;obtain ⟨v,vr,e1,h⟩:=h;subst e1;cases r with
 |cons r rr =>
  rw [hs];refine assignInOrder_cons (Zp (h1 pins s σ H _ _ _ I r h) fun _ s1 ⟨σ1,H1,I1,q1⟩=>?_);exact h2 pins s1 σ1 H1 _ _ Q I1 rr q1
def ZhO (K:W.Frag) (n:Nat) (t:Vx):TG:=fun v σ H Q=>∃a xs,v=.ref a∧SqT K H a xs∧xs.length=n∧t xs σ H Q
theorem Zaa {es:List Expr} {k:Nat} {t:Vx} {n:Nat} (hc:X.calm=true) (h:JA X es t)
  (hn:(assignEach es X.env).length=n:=by rfl) (hst:(assignEach es X.env).findIdx? (·.1)=none:=by rfl):PG X (.Tuple es k pos) (ZhO X.K n t):=by
 intro pins s σ H v u Q I r hw;obtain ⟨a,xs,e1,hq,hl,hw⟩:=hw;subst e1;cases r;obtain ⟨its,rv,ht,hz⟩:=I.tuple hq;refine assign_Tuple_tuple (I.ok.hd hc) ht (by simp [hn,←hl,rv.length]) hst fun h' hx=>?_;have I1:Inv X pins σ H { s with heap:=h' }:=I.kept (t':=s.toks) fun b o e=>hx b o (QB (Qi e)) e;exact h pins _ σ H xs _ Q I1 (by simpa using rv) hw
def Zj0 (to ti:TE) (t:Zdo):TG:=fun v σ H Q=>to σ H fun o H1=>ti σ H1 fun i H2=>t o i v H2 fun H3=>Q σ H3
theorem Zl2 {o i:Expr} {to ti:TE} {t:Zdo} (ho:PE X o to) (hi:PE X i ti) (hs:Ze7 X t)
  (ha:∀v,assign (.Subscript o i pos) X.env v=(do
   let ov ←holding [v] (eval o X.env)
   let iv ←holding [v,ov] (eval i X.env)
   standAt pos
   holding [v,ov,iv] (setItem ov iv v)
   release [v,ov,iv] []):=by intro _;rfl):PG X (.Subscript o i pos) (Zj0 to ti t):=by
 intro pins s σ H v u Q I r h;rw [ha];refine Qc (Rh (Zp (ho pins s σ H _ I h) fun ov s1 ⟨x,H1,I1,r1,q1⟩=>?_));refine Qc (Rh (Zp (hi pins s1 σ H1 _ I1 q1) fun iv s2 ⟨y,H2,I2,r2,q2⟩=>?_));refine Qc (wpAny_standAt (Qc (Rh (Zp (hs pins s2 σ H2 x y v ov iv u _ I2 r1 r2 r q2) fun _ s3 ⟨H3,I3,q3⟩=>?_))));exact wpAny_release ⟨σ,H3,I3,q3⟩
def JU (te:TE) (g:TG):TS:=fun D σ H=>te σ H fun x H1=>g x σ H1 D.nx
theorem Zm2 {tg e:Expr} {te:TE} {g:TG} (he:PE X e te) (hg:PG X tg g) (hs:swapsWithSole [tg] e pos.line X.env=pure false:=by rfl) (hw:swappedStores [tg] e X.env=pure none:=by rfl)
  (h1:(assignEach [tg] X.env).map (·.2)=[assign tg X.env]:=by rfl):PS X (.Assign [tg] e pos) (JU te g):=by
 intro pins s σ H D I h;refine wpAny_Assign_stores (Zp (he pins s σ H _ I h) fun v s1 ⟨x,H1,I1,r1,q1⟩=>?_) hs hw;rw [h1];exact Zp (hg pins s1 σ H1 x v _ I1 r1 q1) fun _ s2 q=>q
theorem ZX {i:Nat} {x:Str} {e:Expr} {te:TE} {pos':Pos} (hN:X.N.Nodup) (hi:X.N[i]?=some x) (hx:Loc X.env.scope x) (he:PE X e te) (hs:swapsWith e (some (.Name x pos')) pos.line X.env=pure false:=by rfl) (hf:X.fn x=true∨X.env.scope.names.lookup x=some .local:=by first|exact .inl rfl|exact .inr rfl|assumption) :
  PS X (.Assign [.Name x pos'] e pos) (JU te (Yj i)):=by
 intro pins s σ H D I h;refine wpAny_Assign_Name (Zp (he pins s σ H _ I h) fun v s1 ⟨y,H1,I1,r1,q1⟩=>?_) hs;exact Zev I1 hN hi hx r1 (fun s2 I2=>⟨_,H1,I2,q1⟩) hf
end
section
variable {X:Cx} {pos:Pos}
end
structure It where
 go:Nat->Hp->Prop
 yld:Nat->Hp->V->Hp->Prop
 stop:Nat->Hp->Prop
def XW (X:Cx) (pins:List (Addr×Obj)) (H:Hp) (b:Addr):Prop :=
 H b=none∧b≠X.env.locals∧b∉X.fs∧(b∈X.ex∨X.s₀.heap.objs.size≤b)∧(∀x c,X.env.cells.lookup x=some c->c≠b)∧∀p∈X.pn++pins,p.1≠b
theorem Inv.fpOk {X:Cx} {pins:List (Addr×Obj)} {σ:St} {H H':Hp} {s:Shared} {b:Addr} (I:Inv X pins σ H s) (hb:s.heap.objs.size≤b) (hn:H' b=none):XW X pins H' b:=by
 refine ⟨hn,Rl (Qk I.lt hb),I.nofs hb,.inr (Qq I.sz hb),fun x c e z=>?_,fun p hp z=>?_⟩
 ·obtain ⟨v,q⟩:=I.cell x c e;exact absurd (Qk q.lt (by rw [z];exact hb)) (QE _)
 ·exact absurd (Qk (Qi (I.pin p hp).1) (by rw [z];exact hb)) (QE _)
structure Turn (P:Program) (w:World) (K:W.Frag) (tg:Expr) (J:It) (fp:List Addr) (it:Addr) (tn:Nat->Heap->Prop):Prop where
 mem:it∈fp
 obj:∀i h,tn i h->∀b∈fp,∃o,h.get? b=some o∧∀v,o.data≠.cell v
 keep:∀i h h',tn i h->(∀b∈fp,∀o,h.get? b=some o->h'.get? b=some o)->tn i h'
 item:∀(X:Cx),X.prog=P->X.w=w->X.K=K->X.calm=true->∀(i:Nat) (pins:List (Addr×Obj)) (s:Shared) (σ:St) (H:Hp) (E:Value->Shared->Prop),Inv X pins σ H s->(∀b∈fp,XW X pins H b)->tn i s.heap->J.go i H →
  wpAny (model P w) X.A (pyNext (.ref it)) (fun r s1=>∃u,r=some u ∧
   wpAny (model P w) X.A (letOwnedTupleGo tg (.ref it) u) (fun _ s2=>∃x H',Inv X pins σ H' s2∧RelV x u∧J.yld i H x H'∧tn (i+1) s2.heap∧∀b∈fp,H' b=none) E s1) E s
 done:∀(X:Cx),X.prog=P->X.w=w->X.K=K->X.calm=true->∀(i:Nat) (pins:List (Addr×Obj)) (s:Shared) (σ:St) (H:Hp) (E:Value->Shared->Prop),Inv X pins σ H s->(∀b∈fp,XW X pins H b)->tn i s.heap->J.stop i H →
  wpAny (model P w) X.A (pyNext (.ref it)) (fun r s1=>r=none∧Inv X pins σ H s1) E s
 self:∀(A:Around) (i:Nat) (s:Shared) (Q:Value->Shared->Prop) (E:Value->Shared->Prop),tn i s.heap->Q (.ref it) s->wpAny (model P w) A (pyIter (.ref it)) Q E s
abbrev TI:=St->Hp->(It->Hp->Prop)->Prop
def PIE (X:Cx) (pins:List (Addr×Obj)) (σ:St) (tg:Expr) (R:It->Hp->Prop) (itv:Value) (s2:Shared):Prop :=
 ∃(it:Addr) (fp:List Addr) (tn:Nat->Heap->Prop) (J:It) (H':Hp),itv=.ref it∧Inv X pins σ H' s2∧Turn X.prog X.w X.K tg J fp it tn∧tn 0 s2.heap∧(∀b∈fp,XW X pins H' b)∧R J H'
def PI (X:Cx) (tg iter:Expr) (wi:TI):Prop :=
 ∀(pins:List (Addr×Obj)) (s:Shared) (σ:St) (H:Hp) (R:It->Hp->Prop),Inv X pins σ H s->wi σ H R →
  wpAny (model X.prog X.w) X.A (eval iter X.env) (fun v s1=>wpAny (model X.prog X.w) X.A (pyIter v) (PIE X pins σ tg R) X.xe s1) X.xe s
theorem JR {M:Model} {A:Around} {E:Value->Shared->Prop} {s:Shared} {tg:Expr} {it:Addr} {u:Value} {o:Obj} {n:String} {vs:Array Value} {Q:Unit->Shared->Prop} (ho:s.heap.get? it=some o) (hc:o.cls=.type n) (hd:o.data=.fields vs)
  (hn:["enumerate","zip","dict_itemiterator","dict_reverseitemiterator","odict_iterator","itertools.zip_longest","itertools.pairwise"].contains n=false) (hQ:Q () s):wpAny M A (letOwnedTupleGo tg (.ref it) u) Q E s:=by
 unfold letOwnedTupleGo
 cases tg<;>first
  |exact Qe hQ
  | (cases u<;>first
    |exact Qe hQ
    | (refine Qc (wpAny_load ho ?_)
       rw [hc,hd];show wpAny M A (if (["enumerate","zip","dict_itemiterator","dict_reverseitemiterator","odict_iterator","itertools.zip_longest","itertools.pairwise"].contains n&&vs[0]?==some (rawInt _))=true then _ else _) Q E s;rw [Qa (by intro h;rw [hn,GA] at h;cases h)];exact Qe hQ))
noncomputable def Itl (K:W.Frag) (a:Addr):It :=
 ⟨fun i H=>∃xs x,SqL K H a xs∧xs[i]?=some x,fun i H x H'=>H'=H∧∀xs,SqL K H a xs->xs[i]?=some x,fun i H=>∃xs,SqL K H a xs∧xs.length≤i⟩
noncomputable def JT (K:W.Frag) (a:Addr):It :=
 ⟨fun i H=>∃xs x,SqT K H a xs∧xs[i]?=some x,fun i H x H'=>H'=H∧∀xs,SqT K H a xs->xs[i]?=some x,fun i H=>∃xs,SqT K H a xs∧xs.length≤i⟩
noncomputable def Jg (lo:Int) (n:Nat):It:=⟨fun i _=>i<n,fun i H x H'=>H'=H∧x=.int (lo+i),fun i _=>n≤i⟩
theorem Znz {P:Program} {w:World} {K:W.Frag} {tg:Expr} (a it:Addr):Turn P w K tg (Itl K a) [it] it (fun i h=>h.IsListIter it a i) where
 mem:=by simp
 obj:=fun i h st b hb=>by
  have e:b=it:=by simpa using hb
  subst e;obtain ⟨o,e,c,d⟩:=st;exact ⟨o,e,fun v z=>by rw [d] at z;cases z⟩
 keep:=fun i h h' st k=>st.at fun o e=>k it (by simp) o e
 item:=by
  intro X hP hw hK hc i pins s σ H E I hf st hg;subst hP hw hK;obtain ⟨xs,x,hq,hx⟩:=hg;obtain ⟨its,rv,p,hz⟩:=I.list hq;obtain ⟨u,hu,ru⟩:=rv.get hx;obtain ⟨f0,f1,f2,f3,f4,f5⟩:=hf it (by simp);refine wpAny_pyNext_list_item st p.isList (x:=u) (by simpa using hu) fun h' st' sb=>?_;have I1:Inv X pins σ H { s with heap:=h' }:=I.turned (t':=s.toks) (fun b o hb e=>(sb.2 b hb).trans e) f0 f1 f3 f4 f5;obtain ⟨o,e,c,d⟩:=id st';exact ⟨u,rfl,JR (s:={ s with heap:=h' }) e c d (by decide) ⟨x,H,I1,ru,⟨rfl,fun ys hy=>by rw [I.list_inj hy hq];exact hx⟩,st',fun b hb=>(hf b hb).1⟩⟩
 done:=by
  intro X hP hw hK hc i pins s σ H E I hf st hg;subst hP hw hK;obtain ⟨xs,hq,hx⟩:=hg;obtain ⟨its,rv,p,hz⟩:=I.list hq;obtain ⟨f0,f1,f2,f3,f4,f5⟩:=hf it (by simp);have hl:=rv.length;exact wpAny_pyNext_list_end (I.ok.hd hc) st p.isList (by simp;omega) fun h' eb=>⟨rfl,I.turned (t':=s.toks) (fun b o hb e=>eb b o hb e) f0 f1 f3 f4 f5⟩
 self:=fun _ _ _ _ _ st h=>wpAny_pyIter_listiter st h
theorem ZlS {P:Program} {w:World} {K:W.Frag} {tg:Expr} (a it:Addr):Turn P w K tg (JT K a) [it] it (fun i h=>h.IsTupleIter it a i) where
 mem:=by simp
 obj:=fun i h st b hb=>by
  have e:b=it:=by simpa using hb
  subst e;obtain ⟨o,e,c,d⟩:=st;exact ⟨o,e,fun v z=>by rw [d] at z;cases z⟩
 keep:=fun i h h' st k=>st.at fun o e=>k it (by simp) o e
 item:=by
  intro X hP hw hK hc i pins s σ H E I hf st hg;subst hP hw hK;obtain ⟨xs,x,hq,hx⟩:=hg;obtain ⟨its,rv,p,hz⟩:=I.tuple hq;obtain ⟨u,hu,ru⟩:=rv.get hx;obtain ⟨f0,f1,f2,f3,f4,f5⟩:=hf it (by simp);refine wpAny_pyNext_tuple_item st (show s.heap.IsTuple a its.toArray from p) (x:=u) (by simpa using hu) fun h' st' sb=>?_;have I1:Inv X pins σ H { s with heap:=h' }:=I.turned (t':=s.toks) (fun b o hb e=>(sb.2 b hb).trans e) f0 f1 f3 f4 f5;obtain ⟨o,e,c,d⟩:=id st';exact ⟨u,rfl,JR (s:={ s with heap:=h' }) e c d (by decide) ⟨x,H,I1,ru,⟨rfl,fun ys hy=>by rw [I.tuple_inj hy hq];exact hx⟩,st',fun b hb=>(hf b hb).1⟩⟩
 done:=by
  intro X hP hw hK hc i pins s σ H E I hf st hg;subst hP hw hK;obtain ⟨xs,hq,hx⟩:=hg;obtain ⟨its,rv,p,hz⟩:=I.tuple hq;obtain ⟨f0,f1,f2,f3,f4,f5⟩:=hf it (by simp);have hl:=rv.length;exact wpAny_pyNext_tuple_end (I.ok.hd hc) st (show s.heap.IsTuple a its.toArray from p) (by simp;omega) fun h' eb=>⟨rfl,I.turned (t':=s.toks) (fun b o hb e=>eb b o hb e) f0 f1 f3 f4 f5⟩
 self:=fun _ _ _ _ _ st h=>wpAny_pyIter_tupleiter st h
theorem Zlf {P:Program} {w:World} {K:PySem.W.Frag} {tg:Expr} (it:Addr) (lo:Int) (n:Nat):Turn P w K tg (Jg lo n) [it] it (fun i h=>IsRangeIter h it (lo+(i:Nat)*1) ((n:Int)-(i:Nat)) 1) where
 mem:=by simp
 obj:=fun i h st b hb=>by
  have e:b=it:=by simpa using hb
  subst e
  exact ⟨_,st,fun v z=>by
   have z':Data.fields _=Data.cell v:=z;cases z'⟩
 keep:=fun i h h' st k=>k it (by simp) _ st
 item:=by
  intro X hP hw hK hc i pins s σ H E I hf st hg;subst hP hw hK;obtain ⟨f0,f1,f2,f3,f4,f5⟩:=hf it (by simp);have W:=Walks.range (prog:=X.prog) (w:=X.w) (I.ok.hd hc) it lo 1 n;refine W.item i s _ _ hg st fun v h' tk hv st' kk=>?_;obtain ⟨t,rfl⟩:=hv;have I1:Inv X pins σ H { s with heap:=h',toks:=tk }:=I.turned (fun b o hb e=>kk b o (by simpa using hb) e) f0 f1 f3 f4 f5;refine ⟨_,rfl,JR (s:={ s with heap:=h',toks:=tk }) (n:="range_iterator") st' rfl rfl (by decide) ⟨.int (lo+i),H,I1,⟨t,?_⟩,⟨rfl,rfl⟩,st',fun b hb=>(hf b hb).1⟩⟩;rw [Int.mul_one]
 done:=by
  intro X hP hw hK hc i pins s σ H E I hf st hg;subst hP hw hK;obtain ⟨f0,f1,f2,f3,f4,f5⟩:=hf it (by simp);exact wpAny_pyNext_range_end (I.ok.hd hc) st (by have:n≤i:=hg;omega) fun h' eb=>⟨rfl,I.turned (t':=s.toks) (fun b o hb e=>eb b o hb e) f0 f1 f3 f4 f5⟩
 self:=fun _ _ _ _ _ st h=>wpAny_pyIter_rangeiter st h
section
variable {X:Cx} {tg:Expr}
def Zmd (K:W.Frag) (tl:TE):TI:=fun σ H R=>tl σ H fun x H1=>∃a,x=.ref a∧(∃xs,SqL K H1 a xs)∧R (Itl K a) H1
def Zks (K:W.Frag) (tl:TE):TI:=fun σ H R=>tl σ H fun x H1=>∃a,x=.ref a∧(∃xs,SqT K H1 a xs)∧R (JT K a) H1
theorem WK {l:Expr} {tl:TE} (hl:PE X l tl):PI X tg l (Zmd X.K tl):=by
 intro pins s σ H R I h;refine Zp (hl pins s σ H _ I h) fun v s1 ⟨x,H1,I1,r1,q1⟩=>?_;obtain ⟨a,e,⟨xs,hq⟩,q⟩:=q1;subst e;cases r1;obtain ⟨its,rv,p,hz⟩:=I1.list hq;refine wpAny_pyIter_list p.isList ?_;refine ⟨s1.heap.objs.size,[s1.heap.objs.size],_,_,H1,rfl,I1.kept (t':=s1.toks) fun b o e=>Qj _ e,Znz a _,⟨_,Qr _ rfl,rfl,rfl⟩,fun b hb=>?_,q⟩;have e:b=s1.heap.objs.size:=by simpa using hb
 subst e;exact I1.fpOk (Qf _) (I1.hok.fresh (Qf _))
theorem U3 {l:Expr} {tl:TE} (hl:PE X l tl):PI X tg l (Zks X.K tl):=by
 intro pins s σ H R I h;refine Zp (hl pins s σ H _ I h) fun v s1 ⟨x,H1,I1,r1,q1⟩=>?_;obtain ⟨a,e,⟨xs,hq⟩,q⟩:=q1;subst e;cases r1;obtain ⟨its,rv,p,hz⟩:=I1.tuple hq;refine Gb (show s1.heap.IsTuple a its.toArray from p) ?_;refine ⟨s1.heap.objs.size,[s1.heap.objs.size],_,_,H1,rfl,I1.kept (t':=s1.toks) fun b o e=>Qj _ e,ZlS a _,⟨_,Qr _ rfl,rfl,rfl⟩,fun b hb=>?_,q⟩;have e:b=s1.heap.objs.size:=by simpa using hb
 subst e;exact I1.fpOk (Qf _) (I1.hok.fresh (Qf _))
theorem Zm1 {pins:List (Addr×Obj)} {σ:St} {H:Hp} {s:Shared} {R:It->Hp->Prop} {E:Value->Shared->Prop} {lo hi:Int} {t u v:Tok} {tk:Nat} (I:Inv X pins σ H s) (h1:-(2 ^ 62)≤lo) (h2:lo<2 ^ 62) (h3:-(2 ^ 62)≤hi) (h4:hi<2 ^ 62)
  (q:R (Jg lo (hi-lo).toNat) H):wpAny (model X.prog X.w) X.A (pyIter (.ref s.heap.objs.size)) (PIE X pins σ tg R) E { s with heap:=s.heap.push { cls:=.type "range",data:=.fields #[.int lo t,.int hi u,.int 1 v] },toks:=tk }:=by
 refine wpAny_pyIter_range (IsRange.new ..) (small_one h1 h2 h3 h4) ?_;have I1:Inv X pins σ H { s with heap:=s.heap.push { cls:=.type "range",data:=.fields #[.int lo t,.int hi u,.int 1 v] },toks:=tk }:=I.kept fun b o e=>Qj _ e
 refine ⟨(s.heap.push { cls:=.type "range",data:=.fields #[.int lo t,.int hi u,.int 1 v] }).objs.size,[(s.heap.push { cls:=.type "range",data:=.fields #[.int lo t,.int hi u,.int 1 v] }).objs.size],_,_,H,rfl,
  I1.kept (t':=tk) fun b o e=>Qj _ e,Zlf _ lo (hi-lo).toNat,?_,fun b hb=>?_,q⟩
 ·have e1:lo+((0:Nat):Int)*1=lo:=by simp
  have e2:(((hi-lo).toNat:Nat):Int)-((0:Nat):Int)=Builtin.Range.rangeSize lo hi 1:=by rw [rangeSize_one];split<;>omega
  show IsRangeIter _ _ (lo+((0:Nat):Int)*1) ((((hi-lo).toNat:Nat):Int)-((0:Nat):Int)) 1;rw [e1,e2];exact Qr _ rfl
 ·have e:b=(s.heap.push { cls:=.type "range",data:=.fields #[.int lo t,.int hi u,.int 1 v] }).objs.size:=by simpa using hb
  subst e;exact I1.fpOk (Qf _) (I1.hok.fresh (Qf _))
def Zkc (ta:TA):TI:=fun σ H R=>ta σ H fun vs H1=>∃j:Int,vs=[.int j]∧-(2 ^ 62)≤j∧j<2 ^ 62∧R (Jg 0 j.toNat) H1
theorem Zf3 {a:Expr} {ta:TA} {p pos:Pos} (hg:Gl X "range") (hm:X.mg "range"=none) (ha:PA X [a] ta) (hs:starEach [a] X.env=[(false,eval a X.env)]:=by rfl):PI X tg (.Call (.Name "range" p) [a] [] pos) (Zkc ta):=by
 intro pins s σ H R I h;refine Call_ (VA I hg hm boot_range (Gc (Zp (ha pos pins s σ H _ I h) fun us s1 ⟨vs,H1,I1,r1,q1⟩=>?_) hs rfl));obtain ⟨j,e,q1,q2,q⟩:=q1;subst e;cases r1 with
 |cons r rr =>
  cases rr;obtain ⟨t,rfl⟩:=r;exact call_range_1 (Zm1 I1 (by omega) (by omega) q1 q2 (by simpa using q))
def Zox (wi:TI) (g:TG) (tb:TS):TS:=fun D σ H=>wi σ H fun J H1=>∃W:Nat->Nat->St->Hp->Prop,(∃m,W 0 m σ H1)∧∀i m σ H,W i m σ H →
 (J.stop i H∧D.nx σ H)∨(J.go i H∧∃N:St->Hp->Prop,(∀σ' H',N σ' H'->∃m',m'<m∧W (i+1) m' σ' H')∧∀x H',J.yld i H x H'->g x σ H' fun σ2 H2=>tb { D with nx:=N,ct:=N,bk:=D.nx } σ2 H2)
noncomputable def JN (fp:List Addr) (h:Heap):List (Addr×Obj):=fp.filterMap fun b=>(h.get? b).map fun o=>(b,o)
theorem ZaS {fp:List Addr} {h:Heap} {b:Addr} {o:Obj} (hb:b∈fp) (e:h.get? b=some o):(b,o)∈JN fp h:=Rk.mpr ⟨b,hb,by rw [e];rfl⟩
theorem Zov {fp:List Addr} {h:Heap} {p:Addr×Obj} (hp:p∈JN fp h):p.1∈fp∧h.get? p.1=some p.2:=by
 obtain ⟨b,hb,e⟩:=Rk.mp hp;cases q:h.get? b with
 |none=>rw [q] at e;cases e
 |some o =>
  rw [q] at e;have e':(b,o)=p:=Qo e;subst e';exact ⟨hb,q⟩
theorem Inv.pinned {pins:List (Addr×Obj)} {σ:St} {H:Hp} {s:Shared} {fp:List Addr} (I:Inv X pins σ H s) (hf:∀b∈fp,XW X pins H b) (ho:∀b∈fp,∃o,s.heap.get? b=some o∧∀v,o.data≠.cell v):Inv X (pins++JN fp s.heap) σ H s :=
 I.pins_of fun p hp=>(Ql.mp hp).elim (fun z=>I.pin p (QS _ z)) fun z=>by
  obtain ⟨hb,e⟩:=Zov z;obtain ⟨f0,f1,f2,_⟩:=hf p.1 hb;obtain ⟨o,e',d⟩:=ho p.1 hb;rw [e] at e';cases e';exact ⟨e,f0,f1,f2,d⟩
theorem Inv.unpinned {pins pl:List (Addr×Obj)} {σ:St} {H:Hp} {s:Shared} (I:Inv X (pins++pl) σ H s):Inv X pins σ H s:=I.pins_of fun p hp=>I.pin p (QS _ (Q8 _ hp))
theorem Xg {iter:Expr} {body:List Stmt} {wi:TI} {g:TG} {tb:TS} {pos:Pos} (hp:PassesOwn (model X.prog X.w) X.A X.env X.xe) (hc:X.calm=true) (hi:PI X tg iter wi) (hg:PG X tg g) (hb:PSs X body tb)
  (hs:∀x,foldedSetIterable iter X.env x=pure x:=by intro _;rfl):PS X (.For tg iter body [] pos) (Zox wi g tb):=by
 intro pins s σ H D I h;refine wpAny_For (Zp (hi pins s σ H _ I h) fun v s1 h1=>Zp h1 fun itv s2 h2=>?_) hs;obtain ⟨it,fp,tn,J,H2,e,I2,T,st2,f2,W,⟨m0,w0⟩,turn⟩:=h2;subst e;have stat:∀{H':Hp},(∀b∈fp,H' b=none)->∀b∈fp,XW X pins H' b:=fun hn b hb=>⟨hn b hb,(f2 b hb).2⟩;refine codeAny_forLoop_any (fun n s'=>∃i σ' H',Inv X pins σ' H' s'∧tn i s'.heap∧(∀b∈fp,H' b=none)∧W i n σ' H') ?_ m0 ⟨0,σ,H2,I2,st2,fun b hb=>(f2 b hb).1,w0⟩;rintro n s3 ⟨i,σ3,H3,I3,st3,fr3,w3⟩;rcases turn i n σ3 H3 w3 with ⟨stop,qn⟩|⟨go,N,hN,step⟩
 ·refine Gd hp (Zp (T.done X rfl rfl rfl hc i pins s3 σ3 H3 X.xe I3 (stat fr3) st3 stop) fun r s4 ⟨hr,I4⟩=>?_);subst hr;exact wpAny_execs_nil ⟨σ3,H3,I4,qn⟩
 ·refine Gd hp (Zp (T.item X rfl rfl rfl hc i pins s3 σ3 H3 X.xe I3 (stat fr3) st3 go) fun r s4 ⟨u,hr,h4⟩=>?_);subst hr;refine Gd hp (Zp h4 fun _ s5 ⟨x,H5,I5,r5,y5,st5,fr5⟩=>?_);have I5':=I5.pinned (stat fr5) (T.obj _ _ st5);refine Gd hp (Zp (hg _ s5 σ3 H5 x u _ I5' r5 (step x H5 y5)) fun _ s6 ⟨σ6,H6,I6,q6⟩=>?_);refine Gd hp (Zp (hb _ s6 σ6 H6 _ I6 q6) fun f s7 q7=>?_)
  have again:∀{σ7:St} {H7:Hp},Inv X (pins++JN fp s5.heap) σ7 H7 s7->N σ7 H7->∃m,m<n∧∃i σ' H',Inv X pins σ' H' s7∧tn i s7.heap∧(∀b∈fp,H' b=none)∧W i m σ' H':=fun {σ7 H7} I7 n7=>by
   obtain ⟨m',hm,w7⟩:=hN σ7 H7 n7;refine ⟨m',hm,i+1,σ7,H7,I7.unpinned,T.keep _ _ _ st5 fun b hb o e=>(I7.pin (b,o) (QS _ (QS _ (ZaS hb e)))).1,fun b hb=>?_,w7⟩;obtain ⟨o,e,d⟩:=T.obj _ _ st5 b hb;exact (I7.pin (b,o) (QS _ (QS _ (ZaS hb e)))).2.1
  cases f with
  |next=>obtain ⟨σ7,H7,I7,n7⟩:=q7;exact again I7 n7
  |cont=>obtain ⟨σ7,H7,I7,n7⟩:=q7;exact again I7 n7
  |brk=>obtain ⟨σ7,H7,I7,q7⟩:=q7;exact ⟨σ7,H7,I7.unpinned,q7⟩
  |ret v=>obtain ⟨x7,σ7,H7,I7,r7,q7⟩:=q7;exact ⟨x7,σ7,H7,I7.unpinned,r7,q7⟩
end
theorem VF {K:PySem.W.Frag} {a:Addr} {xs:List V} {g:TG} {tb:TS} {D:Ends} {σ:St} {H:Hp} (Pv:Nat->St->Hp->Prop) (h0:Pv 0 σ H) (hl:∀i σ H,i≤xs.length->Pv i σ H->SqL K H a xs)
  (hs:∀i x σ H,xs[i]?=some x->Pv i σ H->g x σ H fun σ2 H2=>tb { D with nx:=Pv (i+1),ct:=Pv (i+1),bk:=D.nx } σ2 H2) (hd:∀σ H,Pv xs.length σ H->D.nx σ H) :
  ∃W:Nat->Nat->St->Hp->Prop,(∃m,W 0 m σ H)∧∀i m σ H,W i m σ H →
   ((Itl K a).stop i H∧D.nx σ H)∨((Itl K a).go i H∧∃N:St->Hp->Prop,(∀σ' H',N σ' H'->∃m',m'<m∧W (i+1) m' σ' H')∧∀x H',(Itl K a).yld i H x H'->g x σ H' fun σ2 H2=>tb { D with nx:=N,ct:=N,bk:=D.nx } σ2 H2):=by
 refine ⟨fun i m σ H=>m=xs.length-i∧i≤xs.length∧Pv i σ H,⟨xs.length,by simp,QZ _,h0⟩,?_⟩;rintro i m σ H ⟨rfl,hi,p⟩;have q:=hl i σ H hi p;by_cases hlt:i<xs.length
 ·refine .inr ⟨⟨xs,xs[i],q,by simp [hlt]⟩,Pv (i+1),fun σ' H' p'=>⟨xs.length-(i+1),by omega,rfl,hlt,p'⟩,fun x H' y=>?_⟩;obtain ⟨e,y⟩:=y;subst e;exact hs i x σ _ (y xs q) p
 ·have e:i=xs.length:=by omega
  subst e;exact .inl ⟨⟨xs,q,Qf _⟩,hd σ H p⟩
theorem Zac {K:PySem.W.Frag} {a:Addr} {xs:List V} {g:TG} {tb:TS} {D:Ends} {σ:St} {H:Hp} (Pv:Nat->St->Hp->Prop) (h0:Pv 0 σ H) (hl:∀i σ H,i≤xs.length->Pv i σ H->SqT K H a xs)
  (hs:∀i x σ H,xs[i]?=some x->Pv i σ H->g x σ H fun σ2 H2=>tb { D with nx:=Pv (i+1),ct:=Pv (i+1),bk:=D.nx } σ2 H2) (hd:∀σ H,Pv xs.length σ H->D.nx σ H) :
  ∃W:Nat->Nat->St->Hp->Prop,(∃m,W 0 m σ H)∧∀i m σ H,W i m σ H →
   ((JT K a).stop i H∧D.nx σ H)∨((JT K a).go i H∧∃N:St->Hp->Prop,(∀σ' H',N σ' H'->∃m',m'<m∧W (i+1) m' σ' H')∧∀x H',(JT K a).yld i H x H'->g x σ H' fun σ2 H2=>tb { D with nx:=N,ct:=N,bk:=D.nx } σ2 H2):=by
 refine ⟨fun i m σ H=>m=xs.length-i∧i≤xs.length∧Pv i σ H,⟨xs.length,by simp,QZ _,h0⟩,?_⟩;rintro i m σ H ⟨rfl,hi,p⟩;have q:=hl i σ H hi p;by_cases hlt:i<xs.length
 ·refine .inr ⟨⟨xs,xs[i],q,by simp [hlt]⟩,Pv (i+1),fun σ' H' p'=>⟨xs.length-(i+1),by omega,rfl,hlt,p'⟩,fun x H' y=>?_⟩;obtain ⟨e,y⟩:=y;subst e;exact hs i x σ _ (y xs q) p
 ·have e:i=xs.length:=by omega
  subst e;exact .inl ⟨⟨xs,q,Qf _⟩,hd σ H p⟩
theorem ZfW {lo:Int} {n:Nat} {g:TG} {tb:TS} {D:Ends} {σ:St} {H:Hp} (Pv:Nat->St->Hp->Prop) (h0:Pv 0 σ H)
  (hs:∀i σ H,i<n->Pv i σ H->g (.int (lo+i)) σ H fun σ2 H2=>tb { D with nx:=Pv (i+1),ct:=Pv (i+1),bk:=D.nx } σ2 H2) (hd:∀σ H,Pv n σ H->D.nx σ H) :
  ∃W:Nat->Nat->St->Hp->Prop,(∃m,W 0 m σ H)∧∀i m σ H,W i m σ H →
   ((Jg lo n).stop i H∧D.nx σ H)∨((Jg lo n).go i H∧∃N:St->Hp->Prop,(∀σ' H',N σ' H'->∃m',m'<m∧W (i+1) m' σ' H')∧∀x H',(Jg lo n).yld i H x H'->g x σ H' fun σ2 H2=>tb { D with nx:=N,ct:=N,bk:=D.nx } σ2 H2):=by
 refine ⟨fun i m σ H=>m=n-i∧i≤n∧Pv i σ H,⟨n,by simp,QZ _,h0⟩,?_⟩;rintro i m σ H ⟨rfl,hi,p⟩;by_cases hlt:i<n
 ·refine .inr ⟨hlt,Pv (i+1),fun σ' H' p'=>⟨n-(i+1),by omega,rfl,hlt,p'⟩,fun x H' y=>?_⟩;obtain ⟨e,y⟩:=y;subst e y;exact hs i σ _ hlt p
 ·have e:i=n:=by omega
  subst e;exact .inl ⟨Qf _,hd σ H p⟩
abbrev R2:=V->V->Hp->VK->Prop
def Yq (X:Cx) (f:Value->Value->Sem Value) (r:R2):Prop :=
 ∀(pins:List (Addr×Obj)) (s:Shared) (σ:St) (H:Hp) (x y:V) (v u:Value) (Q:VK),Inv X pins σ H s->RelV x v->RelV y u->r x y H Q →
  wpAny (model X.prog X.w) X.A (f v u) (EP X pins σ Q) X.xe s
def UnR (X:Cx) (f:Value->Sem Value) (r:V->Hp->VK->Prop):Prop :=
 ∀(pins:List (Addr×Obj)) (s:Shared) (σ:St) (H:Hp) (x:V) (v:Value) (Q:VK),Inv X pins σ H s->RelV x v->r x H Q →
  wpAny (model X.prog X.w) X.A (f v) (EP X pins σ Q) X.xe s
def Y8 (X:Cx) (f:Value) (r:List V->Hp->VK->Prop):Prop :=
 ∀(pins:List (Addr×Obj)) (s:Shared) (σ:St) (H:Hp) (xs:List V) (us:List Value) (Q:VK),Inv X pins σ H s->Vals xs us->r xs H Q →
  wpAny (model X.prog X.w) X.A (call f us) (EP X pins σ Q) X.xe s
def tOp (r:R2) (ta tb:TE):TE:=fun σ H Q=>ta σ H fun x H1=>tb σ H1 fun y H2=>r x y H2 Q
def tUn (r:V->Hp->VK->Prop) (ta:TE):TE:=fun σ H Q=>ta σ H fun x H1=>r x H1 Q
def rI (C:Int->Int->Prop) (g:Int->Int->V):R2:=fun x y H Q=>∃i j,x=.int i∧y=.int j∧C i j∧Q (g i j) H
def Vt (g:Int->Int->V):R2:=fun x y H Q=>∃i j,x=.int i∧y=.int j∧Q (g i j) H
def rU (g:Int->V):V->Hp->VK->Prop:=fun x H Q=>∃i,x=.int i∧Q (g i) H
section
variable {X:Cx} {a b c:Expr} {ta tb tc:TE} {pos:Pos}
theorem Zdp (ha:PE X a ta) (hb:PE X b tb) {pins:List (Addr×Obj)} {s:Shared} {σ:St} {H:Hp} {R:V->V->Hp->Prop} (I:Inv X pins σ H s)
  (h:ta σ H fun x H1=>tb σ H1 fun y H2=>R x y H2) {Q:Value->Shared->Prop} {f:Value->Value->Sem Value}
  (hf:∀v u s2 x y H2,Inv X pins σ H2 s2->RelV x v->RelV y u->R x y H2->wpAny (model X.prog X.w) X.A (f v u) Q X.xe s2) :
  wpAny (model X.prog X.w) X.A (eval a X.env) (fun v s₁=>wpAny (model X.prog X.w) X.A (eval b X.env) (fun u s₂=>wpAny (model X.prog X.w) X.A (f v u) Q X.xe s₂) X.xe s₁) X.xe s:=by
 refine Zp (ha pins s σ H _ I h) fun v s1 ⟨x,H1,I1,r1,q1⟩=>?_;refine Zp (hb pins s1 σ H1 _ I1 q1) fun u s2 ⟨y,H2,I2,r2,q2⟩=>?_;exact hf v u s2 x y H2 I2 r1 r2 q2
theorem ZU {op:Operator} {r:R2} (ho:Yq X (binaryOp op) r) (ha:PE X a ta) (hb:PE X b tb):PE X (.BinOp a op b pos) (tOp r ta tb):=by
 intro pins s σ H Q I h;exact wpAny_BinOp (Zdp ha hb I h fun v u s2 x y H2 I2 rx ry q=>ho pins s2 σ H2 x y v u Q I2 rx ry q)
theorem X6 {op:UnaryOp} {r:V->Hp->VK->Prop} (ho:UnR X (unaryOp op) r) (ha:PE X a ta):PE X (.UnaryOp op a pos) (tUn r ta):=by
 intro pins s σ H Q I h;exact UnaryOp_ (Zp (ha pins s σ H _ I h) fun v s1 ⟨x,H1,I1,r1,q1⟩=>ho pins s1 σ H1 x v Q I1 r1 q1)
theorem opI {f:Value->Value->Sem Value} {C:Int->Int->Prop} {g:Int->Int->Int}
  (rule:∀(i j:Int) (t u:Tok) (s:Shared) (Q:Value->Shared->Prop) (E:Value->Shared->Prop),C i j->Q (.int (g i j) s.toks) { s with toks:=s.toks+1 }->wpAny (model X.prog X.w) X.A (f (.int i t) (.int j u)) Q E s) :
  Yq X f (rI C fun i j=>.int (g i j)):=by
 intro pins s σ H x y v u Q I rx ry h;obtain ⟨i,j,rfl,rfl,hc,q⟩:=h;obtain ⟨t,rfl⟩:=rx;obtain ⟨t',rfl⟩:=ry;exact rule i j t t' s _ _ hc ⟨.int (g i j),H,I.tok _,⟨_,rfl⟩,q⟩
theorem Zge {f:Value->Value->Sem Value} {g:Int->Int->Int}
  (rule:∀(i j:Int) (t u:Tok) (s:Shared) (Q:Value->Shared->Prop) (E:Value->Shared->Prop),Q (.int (g i j) s.toks) { s with toks:=s.toks+1 }->wpAny (model X.prog X.w) X.A (f (.int i t) (.int j u)) Q E s) :
  Yq X f (Vt fun i j=>.int (g i j)):=by
 intro pins s σ H x y v u Q I rx ry h;obtain ⟨i,j,rfl,rfl,q⟩:=h;obtain ⟨t,rfl⟩:=rx;obtain ⟨t',rfl⟩:=ry;exact rule i j t t' s _ _ ⟨.int (g i j),H,I.tok _,⟨_,rfl⟩,q⟩
theorem ZaZ {f:Value->Value->Sem Value} {g:Int->Int->Bool}
  (rule:∀(i j:Int) (t u:Tok) (s:Shared) (Q:Value->Shared->Prop) (E:Value->Shared->Prop),Q (.bool (g i j)) s->wpAny (model X.prog X.w) X.A (f (.int i t) (.int j u)) Q E s) :
  Yq X f (Vt fun i j=>.bl (g i j)):=by
 intro pins s σ H x y v u Q I rx ry h;obtain ⟨i,j,rfl,rfl,q⟩:=h;obtain ⟨t,rfl⟩:=rx;obtain ⟨t',rfl⟩:=ry;exact rule i j t t' s _ _ ⟨.bl (g i j),H,I,rfl,q⟩
def ZdP (i j:Int):Prop:=0≤j∧j≤1000000∧i.natAbs<2 ^ 64
theorem Wv:Yq X (binaryOp .Add) (Vt fun i j=>.int (i+j)):=Zge fun _ _ _ _ _ _ _ q=>add_int q
theorem Zgq:Yq X (binaryOp .Sub) (Vt fun i j=>.int (i-j)):=Zge fun _ _ _ _ _ _ _ q=>sub_int q
theorem XU:Yq X (binaryOp .Mod) (rI (fun _ j=>j≠0) fun i j=>.int (i.fmod j)):=opI fun _ _ _ _ _ _ _ hc q=>mod_int' hc q
theorem Zh7:Yq X (binaryOp .Pow) (rI ZdP fun i j=>.int (i ^ j.toNat)):=opI fun _ _ _ _ _ _ _ hc q=>pow_int_small hc.1 hc.2.1 hc.2.2 q
theorem unI {f:Value->Sem Value} {g:Int->Int}
  (rule:∀(i:Int) (t:Tok) (s:Shared) (Q:Value->Shared->Prop) (E:Value->Shared->Prop),Q (.int (g i) s.toks) { s with toks:=s.toks+1 }->wpAny (model X.prog X.w) X.A (f (.int i t)) Q E s) :
  UnR X f (rU fun i=>.int (g i)):=by
 intro pins s σ H x v Q I rx h;obtain ⟨i,rfl,q⟩:=h;obtain ⟨t,rfl⟩:=rx;exact rule i t s _ _ ⟨.int (g i),H,I.tok _,⟨_,rfl⟩,q⟩
theorem Wa:UnR X (unaryOp .USub) (rU fun i=>.int (-i)):=unI fun _ _ _ _ _ q=>neg_int q
end
noncomputable def ZhP:V->V->Bool
 |.non,.non=>true|.non,.int _=>true|.int _,.non=>true|.non,.bl _=>true|.bl _,.non=>true|.non,.str _=>true|.str _,.non=>true
 |.int _,.int _=>true|.bl _,.bl _=>true|.str _,.str _=>true|.byt _,.byt _=>true
 |.int _,.str _=>true|.str _,.int _=>true|.bl _,.str _=>true|.str _,.bl _=>true
 |_,_=>false
def rEq:R2:=fun x y H Q=>ZhP x y=true∧Q (.bl (decide (x=y))) H
def rNe:R2:=fun x y H Q=>ZhP x y=true∧Q (.bl (!decide (x=y))) H
theorem Ze8 {i j:Int}:decide (V.int i=V.int j)=(i==j):=by
 rw [Q9];simp
theorem ZfV {i j:Bool}:decide (V.bl i=V.bl j)=(i==j):=by
 rw [Q9];simp
theorem Zg5 {i j:Str}:decide (V.str i=V.str j)=(i==j):=by
 rw [Q9];simp
theorem Zf9 {i j:Array UInt8}:decide (V.byt i=V.byt j)=(i.toList==j.toList):=by
 rw [Q9];cases i;cases j;simp
section
variable {X:Cx} {a b c:Expr} {ta tb tc:TE} {pos:Pos}
theorem Z6 {pins:List (Addr×Obj)} {σ:St} {H:Hp} {s:Shared} {Q:VK} {k k':Bool} (I:Inv X pins σ H s) (q:Q (.bl k) H) (e:k=k'):EP X pins σ Q (.bool k') s:=by
 subst e;exact ⟨.bl k,H,I,rfl,q⟩
theorem Yb:Yq X (compareOp .Eq) rEq:=by
 intro pins s σ H x y v u Q I rx ry h;obtain ⟨hs,q⟩:=h;cases x with
 |non =>
  cases rx;cases y with
  |non=>cases ry;exact PySem.EqNone.eq_none_none (Z6 I q (by simp))
  |bl j=>cases ry;exact PySem.EqNone.eq_none_bool (Z6 I q (by simp))
  |int j=>obtain ⟨t',rfl⟩:=ry;exact PySem.EqNone.eq_none_int (Z6 I q (by simp))
  |str j=>obtain ⟨t',rfl⟩:=ry;exact PySem.EqNone.eq_none_str (Z6 I q (by simp))
  |_=>exact absurd (show false=true from hs) QJ
 |bl i =>
  cases rx;cases y with
  |non=>cases ry;exact PySem.EqNone.eq_bool_none (Z6 I q (by simp))
  |bl j=>cases ry;exact eq_bool (Z6 I q ZfV)
  |str j=>obtain ⟨t',rfl⟩:=ry;exact PySem.EqMixed.eq_bool_str (Z6 I q (by simp))
  |_=>exact absurd (show false=true from hs) QJ
 |int i =>
  obtain ⟨t,rfl⟩:=rx;cases y with
  |non=>cases ry;exact PySem.EqNone.eq_int_none (Z6 I q (by simp))
  |int j=>obtain ⟨t',rfl⟩:=ry;exact eq_int (Z6 I q Ze8)
  |str j=>obtain ⟨t',rfl⟩:=ry;exact PySem.EqMixed.eq_int_str (Z6 I q (by simp))
  |_=>exact absurd (show false=true from hs) QJ
 |str i =>
  obtain ⟨t,rfl⟩:=rx;cases y with
  |non=>cases ry;exact PySem.EqNone.eq_str_none (Z6 I q (by simp))
  |bl j=>cases ry;exact PySem.EqMixed.eq_str_bool (Z6 I q (by simp))
  |int j=>obtain ⟨t',rfl⟩:=ry;exact PySem.EqMixed.eq_str_int (Z6 I q (by simp))
  |str j=>obtain ⟨t',rfl⟩:=ry;exact eq_str (Z6 I q Zg5)
  |_=>exact absurd (show false=true from hs) QJ
 |byt i =>
  obtain ⟨t,rfl⟩:=rx;cases y with
  |byt j=>obtain ⟨t',rfl⟩:=ry;exact W.eq_bytes (Z6 I q Zf9)
  |_=>exact absurd (show false=true from hs) QJ
 |_=>cases y<;>exact absurd (show false=true from hs) QJ
theorem XR:Yq X (compareOp .NotEq) rNe:=by
 intro pins s σ H x y v u Q I rx ry h;obtain ⟨hs,q⟩:=h;cases x with
 |non =>
  cases rx;cases y with
  |non=>cases ry;exact PySem.EqNone.ne_none_none (Z6 I q (by simp))
  |bl j=>cases ry;exact PySem.EqNone.ne_none_bool (Z6 I q (by simp))
  |int j=>obtain ⟨t',rfl⟩:=ry;exact PySem.EqNone.ne_none_int (Z6 I q (by simp))
  |str j=>obtain ⟨t',rfl⟩:=ry;exact PySem.EqNone.ne_none_str (Z6 I q (by simp))
  |_=>exact absurd (show false=true from hs) QJ
 |bl i =>
  cases rx;cases y with
  |non=>cases ry;exact PySem.EqNone.ne_bool_none (Z6 I q (by simp))
  |bl j=>cases ry;exact ne_bool (Z6 I q (Qy not ZfV))
  |str j=>obtain ⟨t',rfl⟩:=ry;exact PySem.EqMixed.ne_bool_str (Z6 I q (by simp))
  |_=>exact absurd (show false=true from hs) QJ
 |int i =>
  obtain ⟨t,rfl⟩:=rx;cases y with
  |non=>cases ry;exact PySem.EqNone.ne_int_none (Z6 I q (by simp))
  |int j=>obtain ⟨t',rfl⟩:=ry;exact ne_int (Z6 I q (Qy not Ze8))
  |str j=>obtain ⟨t',rfl⟩:=ry;exact PySem.EqMixed.ne_int_str (Z6 I q (by simp))
  |_=>exact absurd (show false=true from hs) QJ
 |str i =>
  obtain ⟨t,rfl⟩:=rx;cases y with
  |non=>cases ry;exact PySem.EqNone.ne_str_none (Z6 I q (by simp))
  |bl j=>cases ry;exact PySem.EqMixed.ne_str_bool (Z6 I q (by simp))
  |int j=>obtain ⟨t',rfl⟩:=ry;exact PySem.EqMixed.ne_str_int (Z6 I q (by simp))
  |str j=>obtain ⟨t',rfl⟩:=ry;exact ne_str (Z6 I q (Qy not Zg5))
  |_=>exact absurd (show false=true from hs) QJ
 |byt i =>
  obtain ⟨t,rfl⟩:=rx;cases y with
  |byt j=>obtain ⟨t',rfl⟩:=ry;exact W.ne_bytes (Z6 I q (Qy not Zf9))
  |_=>exact absurd (show false=true from hs) QJ
 |_=>cases y<;>exact absurd (show false=true from hs) QJ
theorem UT:Yq X (compareOp .Lt) (Vt fun i j=>.bl (decide (i<j))):=ZaZ fun _ _ _ _ _ _ _ q=>lt_int q
theorem Zda:Yq X (compareOp .LtE) (Vt fun i j=>.bl (decide (i≤j))):=ZaZ fun _ _ _ _ _ _ _ q=>le_int q
theorem ZbD:Yq X (compareOp .Gt) (Vt fun i j=>.bl (decide (j<i))):=ZaZ fun _ _ _ _ _ _ _ q=>gt_int q
theorem JM:Yq X (compareOp .GtE) (Vt fun i j=>.bl (decide (j≤i))):=ZaZ fun _ _ _ _ _ _ _ q=>ge_int q
theorem Zld:Yq X (compareOp .In) (fun x y H Q=>∃i j,x=.str i∧y=.str j∧Q (.bl (!(Builtin.Str.occurrences j i 0 j.length 1).isEmpty)) H):=by
 intro pins s σ H x y v u Q I rx ry h;obtain ⟨i,j,rfl,rfl,q⟩:=h;obtain ⟨t,rfl⟩:=rx;obtain ⟨t',rfl⟩:=ry;exact in_str (Z6 I q rfl)
theorem Zf4:Yq X (compareOp .Is) (fun x y H Q=>y=.non∧Q (.bl (decide (x=.non))) H):=by
 intro pins s σ H x y v u Q I rx ry h;obtain ⟨rfl,q⟩:=h;cases ry;refine is_none_gen (Z6 I q ?_)
 cases x<;>first
  | (cases rx;rfl)
  | (obtain ⟨t,rfl⟩:=rx;rfl)
theorem Zy (b:Expr) {op:CmpOp} (h:op≠.In:=by decide) (h2:op≠.NotIn:=by decide):behindInMarks op b=false:=by
 have e1:(op==CmpOp.In)=false:=by cases op<;>first|rfl|exact absurd rfl h
 have e2:(op==CmpOp.NotIn)=false:=by cases op<;>first|rfl|exact absurd rfl h2
 cases b<;>simp [behindInMarks,e1,e2]
theorem YZ {op:CmpOp} {r:R2} (ho:Yq X (compareOp op) r) (ha:PE X a ta) (hb:PE X b tb) (hm:behindInMarks op b=false):PE X (.Compare a [op] [b] pos) (tOp r ta tb):=by
 intro pins s σ H Q I h;exact wpAny_Compare1 (Zdp ha hb I h fun v u s2 x y H2 I2 rx ry q=>ho pins s2 σ H2 x y v u Q I2 rx ry q) hm
def ZkT (t:TE):TT:=fun σ H Q=>t σ H fun x H'=>∃k,x=.bl k∧Q k H'
theorem ZE {op:CmpOp} {r:R2} (ho:Yq X (compareOp op) r) (ha:PE X a ta) (hb:PE X b tb) (hm:behindInMarks op b=false):PT X (.Compare a [op] [b] pos) (ZkT (tOp r ta tb)):=by
 intro pins s σ H Q I h
 refine wpAny_isTrue_Compare1 (Zp (ha pins s σ H _ I h) fun v s1 ⟨x,H1,I1,r1,q1⟩=>Zp (hb pins s1 σ H1 _ I1 q1) fun u s2 ⟨y,H2,I2,r2,q2⟩ =>
  Zp (ho pins s2 σ H2 x y v u _ I2 r1 r2 q2) fun c s3 ⟨z,H3,I3,r3,k,e,q3⟩=>?_) hm
 subst e;cases r3;exact RH ⟨H3,I3,q3⟩
theorem VE:(sizeLine:Nat)<2 ^ 63:=by rw [RZ];decide
theorem Zjf:Yq X (binaryOp .Add) (fun x y H Q=>∃i j,x=.str i∧y=.str j∧i.length+j.length≤sizeLine∧Q (.str (i++j)) H):=by
 intro pins s σ H x y v u Q I rx ry h;obtain ⟨i,j,rfl,rfl,hz,q⟩:=h;obtain ⟨t,rfl⟩:=rx;obtain ⟨t',rfl⟩:=ry;exact add_str (fun t' tk=>⟨.str (i++j),H,I.tok _,⟨_,rfl⟩,q⟩) hz
theorem XE {x:V} {us:List Value} (r:Vals [x] us):∃u,us=[u]∧RelV x u:=by
 cases r with
 |cons r1 r2=>cases r2;exact ⟨_,rfl,r1⟩
theorem JJ {x y:V} {us:List Value} (r:Vals [x,y] us):∃u w',us=[u,w']∧RelV x u∧RelV y w':=by
 cases r with
 |cons r1 r2 =>
  cases r2 with
  |cons r3 r4=>cases r4;exact ⟨_,_,rfl,r1,r3⟩
theorem Zpw:Y8 X (.builtin "abs") (fun xs H Q=>∃i,xs=[.int i]∧Q (.int (if i<0 then -i else i)) H):=by
 intro pins s σ H xs us Q I r h;obtain ⟨i,rfl,q⟩:=h;obtain ⟨u,rfl,t,rfl⟩:=XE r;exact call_abs_int fun u tk=>⟨.int (if i<0 then -i else i),H,I.tok _,⟨_,rfl⟩,q⟩
end
structure ObjM (h:Heap) (x dx C:Addr) (mA:Str->Option Value):Prop where
 obj:h.get? x=some (W.instObj C dx)
 ns:h.Ns1 dx mA
 ne:dx≠x
theorem ZkG {h:Heap} {dx:Addr} {mA:Str->Option Value} (n:h.Ns1 dx mA):∃od,h.get? dx=some od∧∀name,W.lookIn name od=some (mA name):=by
 obtain ⟨o,es,ep,ho,hd,hk,_,hm⟩:=n;refine ⟨o,ho,fun name=>?_⟩;have e:=hm name;unfold nsFind findBy at e;rw [←Array.find?_toList] at e;unfold W.lookIn;rw [hd];dsimp only;split
 ·rename_i y q;rw [q] at e;exact Qy some e
 ·rename_i q;rw [q] at e
  have a:es.toList.any (·.refKey)=false:=by
   rw [G9];intro y hy;obtain ⟨z,t,hkey⟩:=hk y (Array.mem_toList_iff.mp hy);simp [DictEntry.refKey,hkey]
  have a':¬es.toList.any (·.refKey)=true:=by rw [a];exact QJ
  rw [Qa a'];exact Qy some e
theorem ObjM.look {h:Heap} {x dx C:Addr} {mA:Str->Option Value} (I:ObjM h x dx C mA):∃od,W.InstAt h x (W.instObj C dx) C (some od)∧∀name,W.lookIn name od=some (mA name) :=
 let ⟨od,ho,hl⟩:=ZkG I.ns
 ⟨od,⟨I.obj,rfl,rfl,ho⟩,hl⟩
section
variable {prog:Program} {w:World} {A:Around} {E:Value->Shared->Prop} {s:Shared} {K:W.Frag} {x dx C f:Addr} {mA:Str->Option Value} {name:Str} {v:Value}
theorem ZgX {expr:Bool} {Q:Value->Shared->Prop} (X:K.In s.heap) (I:ObjM s.heap x dx C mA) (hg:W.plainGet K C name=true) (hh:W.hasDictIn K C=true)
  (ha:W.findIn K (.ref C) name=some none) (hv:mA name=some v) (hv':W.handedIn v=true) (h:Q v { s with toks:=s.toks+1 }) :
  wpAny (model prog w) A (getAttr (.ref x) name expr) Q E s:=by
 obtain ⟨od,J,hl⟩:=I.look;exact W.get_value X J (W.plainGet_of hg).1 (W.findObj_own hh ha rfl (by rw [hl,hv])) hv' h
theorem ZoV {pl:Sem Bool} {Q:Value×List Value->Shared->Prop} (X:K.In s.heap) (I:ObjM s.heap x dx C mA) (hg:W.plainGet K C name=true)
  (hf:W.findIn K (.ref C) name=some (some (.ref f))) (ht:W.isFn K (.ref f)=true) (hv:mA name=none) (h:Q (.ref f,[.ref x]) s) :
  wpAny (model prog w) A (getMethod (.ref x) name pl) Q E s:=by
 obtain ⟨od,J,hl⟩:=I.look;exact W.method_fn X J (W.plainGet_of hg).1 (W.plainGet_of hg).2 hf (Rr.mp ht) (by show (W.lookIn name od).map (·.isSome)=some false;rw [hl,hv];rfl) h
theorem ZnH {ns:List Str} {Q:Unit->Shared->Prop} (X:K.In s.heap) (I:ObjM s.heap x dx C mA)
  (hs:W.findIn K (.ref C) "__setattr__"=some (some (.builtin "object.__setattr__"))) (hp:W.plainOver K C=true) (ht:W.takerIn K C name=some none) (hh:W.hasDictIn K C=true)
  (hw:PySem.Within mA ns) (hsz:ns.length≤sizeLine)
  (h:∀h',ObjM h' x dx C (fun y=>if y=name then some v else mA y)->Heap.SameBut dx s.heap h'->Q () { s with heap:=h',toks:=s.toks+2 }) :
  wpAny (model prog w) A (setAttr (.ref x) name v) Q E s:=by
 obtain ⟨od,J,hl⟩:=I.look;refine W.set_plain X J hs (W.osa_open (s:={ s with toks:=s.toks+1 }) (r:=none) X J hp ht fun b=>?_);obtain ⟨cd,hc,hd'⟩:=W.any_some hh;have hx:s.heap.get? x=some ⟨.ref C,some dx,.plain,#[]⟩:=I.obj;refine Qc (Qe (Qc (Qc (wpAny_loadPart hx (Qc (W.Looks.here (s:={ s with toks:=s.toks+1 }) (W.looks_clsIn X hc) ?_))))));rw [hd'];refine Qe (a:=some dx) (Qc (Qe (Qc ?_)));refine wpAny_nsSet1 (s:={ s with toks:=s.toks+1 }) I.ns fun h' hn2 hs2=>?_;obtain ⟨oD,esD,epD,hoD,hdD,hcD⟩:=hn2.count (PySem.Within.cons name v hw);refine Qc (wpAny_lookBehind hoD (by rw [hdD];exact pastItsLine_dict (Qq hcD (by rw [QK];omega))) ?_);exact Qe (h _ ⟨(hs2.2 _ (QY I.ne)).trans I.obj,hn2,I.ne⟩ hs2)
theorem Zka {R:Result->Shared->Prop} {vs:List Value} {kw:List (Str×Value)} (X:K.In s.heap) (hm:W.makesIn K C=true)
  (hi:W.findIn K (.ref C) "__init__"=some (some (.ref f))) (hf:W.typeIn K (.ref f)=some (.type "function"))
  (h:codeAny (model prog w) (A.under (.builtin "type.__call__" ⟨.ref C::vs,kw⟩)) (.call (.ref f) ⟨.ref (s.heap.objs.size+1)::vs,kw⟩) (W.InitBack (s.heap.objs.size+1) R)
   { s with heap:=(s.heap.push W.emptyDict).push (W.instObj C s.heap.objs.size) }) :
  codeAny (model prog w) A (.call (.ref C) ⟨vs,kw⟩) R s:=by
 obtain ⟨hh,g,d,t,os⟩:=s;exact W.make_core (W.makes_of X hm) (GB X hi) (fun self=>W.bind_fn X self hf) (.inl rfl) h
end
noncomputable def Zs (f:Str) (v:V):List (Str×V)->List (Str×V)
 |[]=>[(f,v)]
 | (g,x)::r=>if g=f then (g,v)::r else (g,x)::Zs f v r
theorem Zey (f g:Str) (v:V):∀fs:List (Str×V),(Zs f v fs).lookup g=if g=f then some v else fs.lookup g
 |[]=>by
  show List.lookup g [(f,v)]=_;by_cases h:g=f
  ·have hb:(g==f)=true:=Rr.mpr h;simp only [List.lookup,hb,Qb h]
  ·have hb:(g==f)=false:=Ro.mpr h;simp only [List.lookup,hb,Qa h]
 | (k,x)::r=>by
  have ih:=Zey f g v r;rw [show Zs f v ((k,x)::r)=(if k=f then (k,v)::r else (k,x)::Zs f v r) from rfl];by_cases hk:k=f
  ·rw [Qb hk];by_cases h:g=k
   ·have hb:(g==k)=true:=Rr.mpr h;simp only [List.lookup,hb,Qb (h.trans hk)]
   ·have hb:(g==k)=false:=Ro.mpr h;simp only [List.lookup,hb,Qa (fun e:g=f=>h (e.trans hk.symm))]
  ·rw [Qa hk];by_cases h:g=k
   ·have hb:(g==k)=true:=Rr.mpr h;simp only [List.lookup,hb,Qa (fun e:g=f=>hk (h.symm.trans e))]
   ·have hb:(g==k)=false:=Ro.mpr h;simp only [List.lookup,hb];exact ih
theorem Zb4 (f:Str) (v:V):∀fs:List (Str×V),f∈(Zs f v fs).map (·.1)∧∀g,g∈fs.map (·.1)->g∈(Zs f v fs).map (·.1)
 |[]=>⟨by simp [Zs],fun g h=>by simp at h⟩
 | (k,x)::r=>by
  obtain ⟨i1,i2⟩:=Zb4 f v r;rw [show Zs f v ((k,x)::r)=(if k=f then (k,v)::r else (k,x)::Zs f v r) from rfl];by_cases hk:k=f
  ·rw [Qb hk];subst hk;exact ⟨by simp,fun g h=>by simpa using h⟩
  ·rw [Qa hk];refine ⟨?_,fun g h=>?_⟩
   ·rw [Qt];exact QC _ i1
   ·rw [Qt] at h ⊢;rcases Qh.mp h with e|e
    ·exact Qh.mpr (.inl e)
    ·exact QC _ (i2 g e)
theorem ZfC (f:Str) (v:V):∀fs:List (Str×V),(Zs f v fs).length≤fs.length+1
 |[]=>by simp [Zs]
 | (k,x)::r=>by
  have ih:=ZfC f v r;rw [show Zs f v ((k,x)::r)=(if k=f then (k,v)::r else (k,x)::Zs f v r) from rfl];by_cases hk:k=f
  ·rw [Qb hk,QK,QK];omega
  ·rw [Qa hk,QK,QK];omega
theorem RelO.some_of {v:V} {o:Option Value} (r:RelO (some v) o):∃u,o=some u∧RelV v u:=by
 cases o with
 |none=>exact (show False from r).elim
 |some u=>exact ⟨u,rfl,r⟩
theorem RelO.none_of {o:Option Value} (r:RelO none o):o=none:=by
 cases o with
 |none=>rfl
 |some u=>exact (show False from r).elim
theorem Zj8 {v:V} {u:Value} (r:RelV v u):W.handedIn u=true:=by
 cases v with
 |non=>cases (show u=Value.none from r);rfl
 |bl b=>cases (show u=Value.bool b from r);rfl
 |int i=>obtain ⟨t,e⟩:=(show ∃t,u=Value.int i t from r);cases e;rfl
 |str x=>obtain ⟨t,e⟩:=(show ∃t,u=Value.str x t from r);cases e;rfl
 |byt b=>obtain ⟨t,e⟩:=(show ∃t,u=Value.bytes b t from r);cases e;rfl
 |flt b=>obtain ⟨t,e⟩:=(show ∃t,u=Value.float b t from r);cases e;rfl
 |ref a=>cases (show u=Value.ref a from r);rfl
 |ty n=>cases (show u=Value.type n from r);rfl
section
variable {P:Program} {w:World} {H H':Hp} {h h':Heap} {a C dx:Addr} {fs fs':List (Str×V)}
theorem Zao (hok:HOk P w H h) (e:H a=some (.ins C dx fs)):∃mA,ObjM h a dx C mA∧(∀f,RelO (fs.lookup f) (mA f))∧PySem.Within mA (fs.map (·.1))∧fs.length≤1000∧H dx=some (.own a):=by
 obtain ⟨d,z,ne,ob,mA,n,r,q⟩:=(show ObjOk P w H h a (.ins C dx fs) from hok a _ e);exact ⟨mA,⟨ob,n,ne⟩,r,q,z,d⟩
end
structure Cls (K:W.Frag) (C:Addr):Prop where
 pg:W.plainGet K C Str.empty=true
 hd:W.hasDictIn K C=true
 po:W.plainOver K C=true
 sa:W.findIn K (.ref C) "__setattr__"=some (some (.builtin "object.__setattr__"))
theorem Cls.get {K:W.Frag} {C:Addr} (c:Cls K C) (f:Str):W.plainGet K C f=true:=c.pg
def NoAttr (K:W.Frag) (C:Addr) (f:Str):Prop:=W.findIn K (.ref C) f=some none
theorem NoAttr.taker {K:W.Frag} {C:Addr} {f:Str} (n:NoAttr K C f):W.takerIn K C f=some none:=by
 unfold W.takerIn;rw [show W.findIn K (.ref C) f=some none from n];rfl
structure Meth (K:W.Frag) (C:Addr) (m:Str) (f:Addr):Prop where
 at_:W.findIn K (.ref C) m=some (some (.ref f))
 fn:W.isFn K (.ref f)=true
 kp:W.keepIn K (.ref f)=true
section
variable {X:Cx} {pins:List (Addr×Obj)} {σ:St} {H:Hp} {s:Shared} {a C dx:Addr} {fs:List (Str×V)} {f:Str} {v:V} {A:Around} {E:Value->Shared->Prop}
theorem ZlF {b:Bool} {Q:Value->Shared->Prop} (I:Inv X pins σ H s) (e:H a=some (.ins C dx fs)) (c:Cls X.K C) (n:NoAttr X.K C f) (l:fs.lookup f=some v)
  (h:∀u s',Inv X pins σ H s'->RelV v u->Q u s'):wpAny (model X.prog X.w) A (getAttr (.ref a) f b) Q E s:=by
 obtain ⟨mA,O,r,_,_,_⟩:=Zao I.hok e;obtain ⟨u,hu,ru⟩:=RelO.some_of (v:=v) (o:=mA f) (by rw [←l];exact r f);exact ZgX I.kIn O (c.get f) c.hd n hu (Zj8 ru) (h u _ (I.tok _) ru)
theorem Zjr {m:Str} {g:Addr} {pl:Sem Bool} {Q:Value×List Value->Shared->Prop} (I:Inv X pins σ H s) (e:H a=some (.ins C dx fs)) (c:Cls X.K C) (k:Meth X.K C m g) (l:fs.lookup m=none)
  (h:Q (.ref g,[.ref a]) s):wpAny (model X.prog X.w) A (getMethod (.ref a) m pl) Q E s:=by
 obtain ⟨mA,O,r,_,_,_⟩:=Zao I.hok e;have hn:mA m=none:=RelO.none_of (by rw [←l];exact r m);exact ZoV I.kIn O (c.get m) k.at_ k.fn hn h
theorem Znh {y:V} {u:Value} {Q:Unit->Shared->Prop} (I:Inv X pins σ H s) (e:H a=some (.ins C dx fs)) (c:Cls X.K C) (n:NoAttr X.K C f) (hl:fs.length<1000) (ry:RelV y u)
  (h:∀s',Inv X pins σ (Zc H a (.ins C dx (Zs f y fs))) s'->Q () s'):wpAny (model X.prog X.w) A (setAttr (.ref a) f u) Q E s:=by
 obtain ⟨mA,O,r,wi,_,ho⟩:=Zao I.hok e;have hz:(fs.map (·.1)).length≤sizeLine:=by rw [Qd,RZ];omega
 refine ZnH I.kIn O c.sa c.po n.taker c.hd wi hz fun h' O' sb=>h _ ?_;have hd:∃o,h'.get? dx=some o:=let ⟨o,_,_,e',_⟩:=O'.ns;⟨o,e'⟩;refine I.write (x:=a) (e:=dx) (by rw [e];exact True.intro) (.inr ho) (fun b q hb z=>(sb.2 b hb).trans z) hd ?_;refine ⟨by rw [Zd O.ne];exact ho,?_,O.ne,O'.obj,_,O'.ns,fun g=>?_,fun g hg=>?_⟩
 ·have:=ZfC f y fs;omega
 ·show RelO ((Zs f y fs).lookup g) (if g=f then some u else mA g);rw [Zey];by_cases q:g=f
  ·rw [Qb q,Qb q];exact ry
  ·rw [Qa q,Qa q];exact r g
 ·by_cases q:g=f
  ·rw [q];exact (Zb4 f y fs).1
  ·refine (Zb4 f y fs).2 g (wi g fun z=>hg ?_);show (if g=f then some u else mA g)=none;rw [Qa q];exact z
theorem Inv.made (I:Inv X pins σ H s):Inv X pins σ (Zc (Zc H s.heap.objs.size (.own (s.heap.objs.size+1))) (s.heap.objs.size+1) (.ins C s.heap.objs.size []))
  { s with heap:=(s.heap.push W.emptyDict).push (W.instObj C s.heap.objs.size) }:=by
 have e1:(s.heap.push W.emptyDict).get? s.heap.objs.size=some W.emptyDict:=Qr s.heap rfl
 have e2:((s.heap.push W.emptyDict).push (W.instObj C s.heap.objs.size)).get? (s.heap.objs.size+1)=some (W.instObj C s.heap.objs.size):=by
  have:=Qr (s.heap.push W.emptyDict) (o:=W.instObj C s.heap.objs.size) rfl
  rwa [Ra] at this
 have e3:(s.heap.push W.emptyDict).Ns s.heap.objs.size (fun _=>none):=⟨W.emptyDict,#[],_,e1,rfl,(fun e he=>absurd he (by simp)),fun _=>rfl⟩;have I1:=I.laid (a:=s.heap.objs.size) (o:=.own (s.heap.objs.size+1)) (h':=s.heap.push W.emptyDict) (t':=s.toks) (fun b u q=>Qj _ q) (Qf _) ⟨_,e1⟩;refine I1.laid (a:=s.heap.objs.size+1) (o:=.ins C s.heap.objs.size []) (t':=s.toks) (fun b u q=>Qj _ q) (Nat.le_of_eq (Ra _ _)) ?_;have ne:s.heap.objs.size≠s.heap.objs.size+1:=QB (Rb _);refine ⟨by rw [Zd ne,Zf],QZ _,ne,e2,fun _=>none,(Heap.Ns1.of_empty e3).at fun o q=>Qj _ q,fun _=>True.intro,fun y hy=>absurd rfl hy⟩
theorem ZhQ {prog:Program} {w:World} {env:Env} {e:Expr} {f:Str} {pos:Pos} {s:Shared} {Q:Value->Shared->Prop} (hb:attributeBase e f env (eval e env)=eval e env)
  (h:wpAny (model prog w) A (eval e env) (fun o s₁=>wpAny (model prog w) A (getAttr o f true) Q E s₁) E s):wpAny (model prog w) A (eval (.Attribute e f pos) env) Q E s :=
 Attribute_any_ h (by rw [arm_eval_Attribute,hb])
end
def Zeh (K:W.Frag) (ta:TE) (f:Str):TE:=fun σ H Q=>ta σ H fun x H1=>∃a C dx fs v,x=.ref a∧H1 a=some (.ins C dx fs)∧Cls K C∧NoAttr K C f∧fs.lookup f=some v∧Q v H1
def Zjw (K:W.Frag) (ta tv:TE) (f:Str):TS:=fun D σ H=>tv σ H fun y H1=>ta σ H1 fun x H2=>∃a C dx fs,x=.ref a∧H2 a=some (.ins C dx fs)∧Cls K C∧NoAttr K C f∧fs.length<1000 ∧
 D.nx σ (Zc H2 a (.ins C dx (Zs f y fs)))
section
variable {X:Cx} {o e value:Expr} {f:Str} {pos pos' tpos:Pos} {ta tv:TE}
theorem ZS (he:PE X e ta) (hb:attributeBase e f X.env (eval e X.env)=eval e X.env):PE X (.Attribute e f pos) (Zeh X.K ta f):=by
 intro pins s σ H Q I h;refine ZhQ hb (Zp (he pins s σ H _ I h) fun u s1 ⟨x,H1,I1,rx,a,C,dx,fs,v,ex,ea,c,n,l,q⟩=>?_);subst ex;obtain rfl:u=Value.ref a:=rx;exact ZlF I1 ea c n l fun u' s2 I2 ru=>⟨v,H1,I2,ru,q⟩
theorem Xp (ha:PE X o ta) (hv:PE X value tv) (hs:swapsWith value (some (.Attribute o f pos')) pos.line X.env=pure false):PS X (.Assign [.Attribute o f pos'] value pos) (Zjw X.K ta tv f):=by
 intro pins s σ H D I h;refine plainObj_wpAny_Assign_Attribute (Zp (hv pins s σ H _ I h) fun u s1 ⟨y,H1,I1,ry,q⟩=>Zp (ha pins s1 σ H1 _ I1 q) fun ov s2 ⟨x,H2,I2,rx,a,C,dx,fs,ex,ea,c,n,l,q2⟩=>?_) hs;subst ex;obtain rfl:ov=Value.ref a:=rx;exact Znh I2 ea c n l ry fun s3 I3=>⟨σ,_,I3,q2⟩
end
section
variable {X:Cx} {pins:List (Addr×Obj)} {σ:St} {H:Hp} {s:Shared} {A:Around} {E:Value->Shared->Prop} {Q:Value->Shared->Prop} {c:Value} {b:Bool}
inductive TyOf (K:W.Frag) (H:Hp):V->Value->Prop where
 |non:TyOf K H .non (.type "NoneType")
 |bl (x:Bool):TyOf K H (.bl x) (.type "bool")
 |int (i:Int):TyOf K H (.int i) (.type "int")
 |str (x:Str):TyOf K H (.str x) (.type "str")
 |flt (x:UInt64):TyOf K H (.flt x) (.type "float")
 |lst {a:Addr} {xs:List V} (e:H a=some (.lst xs)):TyOf K H (.ref a) (.type "list")
 |frz {a:Addr} {o:Obj} {xs:List V} (e:H a=some (.frz o (.lst xs))):TyOf K H (.ref a) (.type "list")
 |tup {a:Addr} {xs:List V} (e:H a=some (.tup xs)):TyOf K H (.ref a) (.type "tuple")
 |dK {a:Addr} {kvs:List (Zj×V)} (e:H a=some (.dK kvs)):TyOf K H (.ref a) (.type "dict")
 |dT {a:Addr} {kvs:List (List Zj×V)} (e:H a=some (.dT kvs)):TyOf K H (.ref a) (.type "dict")
 |ins {a C dx : Addr} {fs : List (Str×V)} (e : H a=some (.ins C dx fs)) (cl : Cls K C) (ha : W.findIn K (.ref C) "__class__"=some (some (.builtin "object.__class__")))
   (hn:W.specialIn K (.builtin "object.__class__") "__get__"=some (some (.builtin "getset_descriptor.__get__"))) (htk:W.takesIn K (.builtin "object.__class__")=some true)
   (hm:W.mroIn K C (.type "object")=some true):TyOf K H (.ref a) (.ref C)
theorem Zim {x:V} {u t:Value} (I:Inv X pins σ H s) (rx:RelV x u) (ty:TyOf X.K H x t) (e:W.kitOne X.K t c=some b) (h:∀tk,Q (.bool b) { s with toks:=tk }) :
  wpAny (model X.prog X.w) A (call (.builtin "isinstance") [u,c]) Q E s:=by
 cases ty with
 |non=>cases (show u=Value.none from rx);exact QV W.kitx_none I.kIn True.intro e (fun z=>nomatch z) h
 |bl y=>cases (show u=Value.bool y from rx);exact QV W.kitx_bool I.kIn True.intro e (fun z=>nomatch z) h
 |int i=>obtain ⟨t,q⟩:=(show ∃t,u=Value.int i t from rx);cases q;exact QV W.kitx_int I.kIn True.intro e (fun z=>nomatch z) h
 |str y=>obtain ⟨t,q⟩:=(show ∃t,u=Value.str y t from rx);cases q;exact QV W.kitx_str I.kIn True.intro e (fun z=>nomatch z) h
 |flt y=>obtain ⟨t,q⟩:=(show ∃t,u=Value.float y t from rx);cases q;exact QV W.kitx_float I.kIn True.intro e (fun z=>nomatch z) h
 |@lst a xs ea =>
  cases (show u=Value.ref a from rx);obtain ⟨_,_,n,_,h1⟩:=(show ObjOk X.prog X.w H s.heap a (.lst xs) from I.hok a _ ea);exact QV GC I.kIn ⟨_,h1,rfl⟩ e (fun z=>nomatch z) h
 |@frz a ob xs ea =>
  cases (show u=Value.ref a from rx);obtain ⟨_,_,_,n,_,h1⟩:=(show ObjOk X.prog X.w H s.heap a (.frz ob (.lst xs)) from I.hok a _ ea);exact QV GC I.kIn ⟨_,h1,rfl⟩ e (fun z=>nomatch z) h
 |@tup a xs ea =>
  cases (show u=Value.ref a from rx);obtain ⟨_,_,_,p⟩:=(show ObjOk X.prog X.w H s.heap a (.tup xs) from I.hok a _ ea);obtain ⟨o,h1,h2,_⟩:=p;exact QV W.kitx_tuple I.kIn ⟨o,h1,h2⟩ e (fun z=>nomatch z) h
 |@dK a kvs ea =>
  cases (show u=Value.ref a from rx);obtain ⟨_,_,vs,_,p⟩:=(show ObjOk X.prog X.w H s.heap a (.dK kvs) from I.hok a _ ea);obtain ⟨o,es,ep,h1,h2,_⟩:=p;exact QV W.kitx_dict I.kIn ⟨o,h1,h2.1⟩ e (fun z=>nomatch z) h
 |@dT a kvs ea =>
  cases (show u=Value.ref a from rx);obtain ⟨_,_,xs,_,o,es,ep,h1,h2,_⟩:=(show ObjOk X.prog X.w H s.heap a (.dT kvs) from I.hok a _ ea);exact QV W.kitx_dict I.kIn ⟨o,h1,h2.1⟩ e (fun z=>nomatch z) h
 |@ins a C dx fs ea cl ha hn htk hm =>
  cases (show u=Value.ref a from rx);obtain ⟨mA,O,_⟩:=Zao I.hok ea;obtain ⟨od,J,_⟩:=O.look;exact QV (W.kitx_own (cl.get _) cl.hd ha hn htk hm) I.kIn J e (fun z=>nomatch z) h
end
structure Room (k:Nat) (A:Around):Prop where
 hd:A.handled=none
 dp:A.depth+3*k+5<recursionLimit
 un:A.units+16*k+200<cLine
theorem Room.mono {j k:Nat} {A:Around} (r:Room k A) (h:j≤k):Room j A:=⟨r.hd,by have:=r.dp;omega,by have:=r.un;omega⟩
theorem Room.deeper {k:Nat} {A:Around} (r:Room (k+1) A) (env:Env):Room k (A.deeper env) :=
 ⟨r.hd,by have:=r.dp;show A.depth+1+3*k+5<_;omega,by have:=r.un;show A.units+3+16*k+200<_;omega⟩
theorem Zo8 {A:Around} {C:Addr} {us:List Value} {kw:List (Str×Value)}:(A.under (.builtin "type.__call__" ⟨.ref C::us,kw⟩)).depth=A.depth+1:=by
 first|rfl|simp [Around.under,Code.weight,Code.isCreation,Code.isGuard,Code.isCaller,Code.frames,Code.isFrame,guardIds]
theorem Zni {A:Around} {C:Addr} {us:List Value} {kw:List (Str×Value)}:(A.under (.builtin "type.__call__" ⟨.ref C::us,kw⟩)).units=A.units+1:=by
 first|rfl|simp [Around.under,Code.cUnits,Code.frames,Code.isFrame]
theorem Room.make {k:Nat} {A:Around} (r:Room (k+1) A) (C:Addr) (us:List Value) (kw:List (Str×Value)):Room k (A.under (.builtin "type.__call__" ⟨.ref C::us,kw⟩)) :=
 ⟨r.hd,by have:=r.dp;rw [Zo8];omega,by have:=r.un;rw [Zni];omega⟩
theorem Room.depth {k:Nat} {A:Around} (r:Room k A):A.depth<recursionLimit:=by have:=r.dp;omega
theorem Room.units {k:Nat} {A:Around} (r:Room k A):A.units+64<cLine:=by have:=r.un;omega
def Zdx:TA:=fun _ H Q=>Q [] H
def ZdC (ta:TE) (tr:TA):TA:=fun σ H Q=>ta σ H fun x H1=>tr σ H1 fun xs H2=>Q (x::xs) H2
section
variable {X:Cx} {e:Expr} {es:List Expr} {te:TE} {t:TA} {pos:Pos}
theorem Zb:PA X [] Zdx:=fun _ _ _ _ H Q I h=>Ge ⟨[],H,I,.nil,h⟩
theorem Za (ha:PE X e te) (hr:PA X es t) (hs:starEach (e::es) X.env=(false,eval e X.env)::starEach es X.env:=by rfl):PA X (e::es) (ZdC te t):=by
 intro pos pins s σ H Q I h;rw [hs];show wpAny _ _ (spliced ((false,eval e X.env)::backTo pos (starEach es X.env))) _ _ s;refine Rm (Zp (ha pins s σ H _ I h) fun u s1 ⟨x,H1,I1,r1,q1⟩=>?_);exact Zp (hr pos pins s1 σ H1 _ I1 q1) fun us s2 ⟨xs,H2,I2,r2,q2⟩=>⟨x::xs,H2,I2,.cons r1 r2,q2⟩
def ZhV (t:TA):TE:=fun σ H Q=>t σ H fun xs H1=>xs.length≤sizeLine∧∀p,H1 p=none->Q (.ref p) (Zc H1 p (.tup xs))
def Zjh (t:TA):TE:=fun σ H Q=>t σ H fun xs H1=>xs.length≤sizeLine∧∀p,H1 p=none->Q (.ref p) (Zc H1 p (.lst xs))
theorem ZR {x1} (h:PA X es t):PE X (.Tuple es x1 pos) (ZhV t):=by
 intro pins s σ H Q I hq;refine wpAny_Tuple_spliced (Zp (h pos pins s σ H _ I hq) fun us s1 ⟨xs,H1,I1,r,z,q⟩=>⟨by rw [←r.length];exact z,?_⟩);have hf:H1 s1.heap.objs.size=none:=I1.hok.fresh (Qf _);refine ⟨.ref s1.heap.objs.size,Zc H1 s1.heap.objs.size (.tup xs),I1.laid (t':=s1.toks) (fun b u e=>Qj _ e) (Qf _) ?_,rfl,q _ hf⟩;exact ⟨z,us,r,⟨_,Qr _ rfl,rfl,_,rfl⟩⟩
theorem YK (h:PA X es t):PE X (.List es pos) (Zjh t):=by
 intro pins s σ H Q I hq;refine wpAny_List_spliced (Zp (h pos pins s σ H _ I hq) fun us s1 ⟨xs,H1,I1,r,z,q⟩=>⟨by rw [←r.length];exact z,?_⟩);have hf:H1 s1.heap.objs.size=none:=I1.hok.fresh (Qf _);refine ⟨.ref s1.heap.objs.size,Zc H1 s1.heap.objs.size (.lst xs),I1.laid (t':=s1.toks) (fun b u e=>Qj _ e) (Qf _) ?_,rfl,q _ hf⟩;exact ⟨z,us,0,r,Qr _ rfl⟩
end
abbrev Sp:=List V->Hp->VK->XK->Prop
abbrev Yr:=List Env->Hp->Shared->XK->Value->Shared->Prop
structure Env0 (P:Program) (w:World) (K:W.Frag) (mg:Str->Option Value) (base:Heap) (A:Around) (outer:List Env) (s:Shared) (H:Hp):Prop where
 frames:A.frames=some outer
 mod:Mod K mg base
 bs:∀b o,base.get? b=some o->s.heap.get? b=some o∧H b=none
 bsz:base.objs.size≤s.heap.objs.size
 funs:s.heap.FunFrames base outer
 frf:∀b∈Yn outer,H b=none
 hok:HOk P w H s.heap
 bare:AllBare s.gens
def CE (outer:List Env) (P:Program) (w:World) (H:Hp) (s:Shared) (Q:VK) (u:Value) (s':Shared):Prop :=
 ∃v H',s'.os=s.os∧AllBare s'.gens∧Un (Yn outer) [] H H' s.heap s'.heap∧HOk P w H' s'.heap∧RelV v u∧Q v H'
def CR (CX:Yr) (outer:List Env) (P:Program) (w:World) (H:Hp) (s:Shared) (Q:VK) (E:XK) (r:Result) (s':Shared):Prop :=
 match r with
 |.ok (.ret u)=>CE outer P w H s Q u s'
 |.ok _=>False
 |.error e=>CX outer H s E e s'
structure FnOk (P:Program) (w:World) (K:W.Frag) (mg:Str->Option Value) (base:Heap) (CX:Yr) (k:Nat) (f:Addr) (fd:FuncData) (ps:List Str) (sp:Sp):Prop where
 len:∀vs H Q E,sp vs H Q E->vs.length=ps.length
 run:∀(A:Around) (outer:List Env) (s:Shared) (H:Hp) (args:Args) (us:List Value) (vs:List V) (Q:VK) (E:XK),Room k A->Env0 P w K mg base A outer s H->BindsTo s fd args (ps.zip us)->Vals vs us->sp vs H Q E →
  codeAny (model P w) A (.call (.ref f) args) (CR CX outer P w H s Q E) s
theorem FnOk.imp {P:Program} {w:World} {K:W.Frag} {mg:Str->Option Value} {base:Heap} {CX:Yr} {k:Nat} {f:Addr} {fd:FuncData} {ps:List Str} {sp sp':Sp} (F:FnOk P w K mg base CX k f fd ps sp)
  (h:∀vs H Q E,sp' vs H Q E->sp vs H Q E):FnOk P w K mg base CX k f fd ps sp' :=
 ⟨fun vs H Q E q=>F.len vs H Q E (h _ _ _ _ q),fun A outer s H args us vs Q E hr he hb hv hs=>F.run A outer s H args us vs Q E hr he hb hv (h _ _ _ _ hs)⟩
theorem Env0.make {P:Program} {w:World} {K:W.Frag} {mg:Str->Option Value} {base:Heap} {A:Around} {outer:List Env} {s:Shared} {H:Hp} (e:Env0 P w K mg base A outer s H) (C:Addr) (us:List Value) (kw:List (Str×Value)) :
  Env0 P w K mg base (A.under (.builtin "type.__call__" ⟨.ref C::us,kw⟩)) outer s H:=⟨by first|exact e.frames|(simpa [Around.under,Code.envs,Code.isFrame,pushEnvs] using e.frames),e.mod,e.bs,e.bsz,e.funs,e.frf,e.hok,e.bare⟩
section
variable {X:Cx} {pins:List (Addr×Obj)} {σ:St} {H:Hp} {s s':Shared}
theorem Inv.env0 (I:Inv X pins σ H s):Env0 X.prog X.w X.K X.mg X.base X.A X.stack s H :=
 ⟨I.ok.frames,I.ok.mod,I.bs,Qq I.ok.bsz I.sz,I.stack,I.stkFree,I.hok,I.bare⟩
theorem Inv.after {Q:VK} {u:Value} (I:Inv X pins σ H s) (h:CE X.stack X.prog X.w H s Q u s'):EP X pins σ Q u s':=by
 obtain ⟨v,H',os,bare,un,hok,r,q⟩:=h;obtain ⟨hh,g,d,t,os'⟩:=s';obtain rfl:os'=s.os:=os;exact ⟨v,H',I.call (h':=hh) (g':=g) (d':=d) (t':=t) (ch:=[]) un hok bare (fun b z=>absurd z (by simp)),r,q⟩
end
def Binds (K:W.Frag) (fd:FuncData) (ps:List Str) (ds:List Value):Prop :=
 ∀(s:Shared) (us:List Value),K.In s.heap->(us++ds).length=ps.length->BindsTo s fd ⟨us,[]⟩ (ps.zip (us++ds))
theorem Binds.all {K:W.Frag} {fd:FuncData} {ps:List Str} (h:∀us:List Value,us.length=ps.length->bindArgs fd ⟨us,[]⟩=pure (ps.zip us)):Binds K fd ps []:=fun s us _ hl=>by
 rw [Qu] at hl ⊢;exact .of_eq (h us hl)
def ZeJ (CX:Yr) (X:Cx) (E:XK):Prop:=∀(pins:List (Addr×Obj)) (σ:St) (H:Hp) (s:Shared) (e:Value) (s':Shared),Inv X pins σ H s->CX X.stack H s E e s'->X.xe e s'
section
variable {X:Cx} {CX:Yr} {k:Nat} {f C:Addr} {fd:FuncData} {ps:List Str} {sp:Sp} {dvs:List V} {ds:List Value} {E:XK} {x m:Str} {p pos apos:Pos} {e o:Expr} {es:List Expr} {ta:TE} {t:TA}
theorem Zi1 {pins:List (Addr×Obj)} {σ:St} {H:Hp} {s:Shared} {Q:VK} {us:List Value} {vs:List V} (F:FnOk X.prog X.w X.K X.mg X.base CX k f fd ps sp) (hr:Room k X.A) (hb:Binds X.K fd ps ds) (hd:Vals dvs ds) (hx:ZeJ CX X E)
  (I:Inv X pins σ H s) (r:Vals vs us) (h:sp (vs++dvs) H Q E):wpAny (model X.prog X.w) X.A (call (.ref f) us) (EP X pins σ Q) X.xe s:=by
 have r2:Vals (vs++dvs) (us++ds):=r.append hd;have hl:(us++ds).length=ps.length:=by rw [←r2.length];exact F.len _ _ _ _ h
 refine RI (RJ (F.run X.A X.stack s H ⟨us,[]⟩ (us++ds) (vs++dvs) Q E hr I.env0 (hb s us I.kIn hl) r2 h) fun r s' hq=>?_);cases r with
 |error e=>exact hx pins σ H s e s' I hq
 |ok fl =>
  cases fl with
  |ret u=>exact I.after hq
  |next=>exact False.elim hq
  |brk=>exact False.elim hq
  |cont=>exact False.elim hq
structure Mk (K:W.Frag) (C f:Addr):Prop where
 makes:W.makesIn K C=true
 init:W.findIn K (.ref C) "__init__"=some (some (.ref f))
 fn:W.isFn K (.ref f)=true
 kp:W.keepIn K (.ref C)=true
end
section
variable {X:Cx} {CX:Yr} {k:Nat} {f C:Addr} {fd:FuncData} {ps ks:List Str} {sp:Sp} {E:XK} {x m:Str} {p pos apos kpos:Pos} {e o:Expr} {es:List Expr} {kws:List Keyword} {te ta:TE} {t tk:TA} {nm:Option Str}
variable {g:List Value->List Value->List Value} {gV:List V->List V->List V}
end
structure FnScope (N P:List Str) (sc:Scope):Prop where
 kind:sc.kind=.function
 co:sc.isCoroutine=false
 gen:sc.isGenerator=false
 nd:N.Nodup
 pre:N.take P.length=P
 par:∀x∈P,sc.names.lookup x=some .local∨sc.names.lookup x=some .cell
 nofree:∀y∈sc.names,y.2≠.free
theorem Zfd {kindOf:Str->Option NameKind} {x:Str}:∀{binds:List (Str×Value)} {m:Str->Option Value},(∀v,(x,v)∉binds)->bindL kindOf binds m x=m x
 |[],_,_=>rfl
 | (n,v)::r,m,h=>by
  unfold bindL;rw [Zfd fun w hw=>h w (QC _ hw)];split
  ·have:x≠n:=by rintro rfl;exact h v QI
   simp [this]
  ·rfl
theorem Zh9 {kindOf:Str->Option NameKind} {x:Str}:∀{binds:List (Str×Value)} {m:Str->Option Value},(∀v,(x,v)∉binds)->bindC kindOf binds m x=m x
 |[],_,_=>rfl
 | (n,v)::r,m,h=>by
  unfold bindC;rw [Zh9 fun w hw=>h w (QC _ hw)];split
  ·rfl
  ·have:x≠n:=by rintro rfl;exact h v QI
   simp [this]
theorem Zea {kindOf:Str->Option NameKind} {x:Str} {v:Value}:∀{P:List Str} {vs:List Value} {i:Nat} {m:Str->Option Value},P.Nodup->P[i]?=some x->vs[i]?=some v->kindOf x=some .local →
  bindL kindOf (P.zip vs) m x=some v
 |[],_,_,_,_,h,_,_=>by simp at h
 |_::_,[],_,_,_,_,h,_=>by simp at h
 |p::P,w::vs,0,m,nd,h1,h2,hk=>by
  simp at h1 h2;subst h1;subst h2;show bindL kindOf ((p,w)::P.zip vs) m p=_;unfold bindL;rw [Zfd fun v hv=>(QO.mp nd).1 (GD hv).1,Qb hk];simp
 |p::P,w::vs,i+1,m,nd,h1,h2,hk=>by
  show bindL kindOf ((p,w)::P.zip vs) m x=_;unfold bindL;exact Zea (i:=i) (QO.mp nd).2 (by simpa using h1) (by simpa using h2) hk
theorem Zhp {kindOf:Str->Option NameKind} {x:Str} {v:Value}:∀{P:List Str} {vs:List Value} {i:Nat} {m:Str->Option Value},P.Nodup->P[i]?=some x->vs[i]?=some v->kindOf x≠some .local →
  bindC kindOf (P.zip vs) m x=some v
 |[],_,_,_,_,h,_,_=>by simp at h
 |_::_,[],_,_,_,_,h,_=>by simp at h
 |p::P,w::vs,0,m,nd,h1,h2,hk=>by
  simp at h1 h2;subst h1;subst h2;show bindC kindOf ((p,w)::P.zip vs) m p=_;unfold bindC;rw [Zh9 fun v hv=>(QO.mp nd).1 (GD hv).1,Qa hk];simp
 |p::P,w::vs,i+1,m,nd,h1,h2,hk=>by
  show bindC kindOf ((p,w)::P.zip vs) m x=_;unfold bindC;exact Zhp (i:=i) (QO.mp nd).2 (by simpa using h1) (by simpa using h2) hk
noncomputable def start (N:List Str) (vs:List V):St:=vs.map some++List.replicate (N.length-vs.length) none
noncomputable def WR (CX:Yr) (P:Program) (w:World) (K:W.Frag) (mg:Str->Option Value) (base:Heap) (N:List Str) (qual:Str) (scope:Scope) (f:Addr) (cd:Value) (A:Around) (outer:List Env) (s:Shared) (H:Hp) (E:XK):Cx where
 prog:=P
 w:=w
 K:=K
 mg:=mg
 base:=base
 A:=A.deeper (envOfC qual scope s.heap.objs.size f cd)
 N:=N
 s₀:=s
 H₀:=H
 env:=envOfC qual scope s.heap.objs.size f cd
 outer:=outer
 stack:=envOfC qual scope s.heap.objs.size f cd::outer
 ex:=[]
 calm:=true
 fn:=fun _=>true
 pn:=[]
 xe:=fun e s'=>wpAny (model P w) (A.deeper (envOfC qual scope s.heap.objs.size f cd)) (leaving (envOfC qual scope s.heap.objs.size f cd) e) (fun _ s''=>CX outer H s E e s'') (fun e' s''=>CX outer H s E e' s'') s'
theorem Zfi {sc:Scope} {n:Nat} {x:Str} (h:sc.names.lookup x=some .cell):∃c,(cellsFrom n sc.names []).lookup x=some c:=by
 have q:=W.cellsFrom_some sc.names n [] (.inl h);exact GE.mp q
theorem Zl5 {CX:Yr} {P:Program} {w:World} {K:W.Frag} {mg:Str->Option Value} {base:Heap} {N ps:List Str} {qual:Str} {scope:Scope} {f:Addr} {cd:Value} {A:Around} {outer:List Env} {s s1:Shared} {H:Hp} {E:XK} {us:List Value} {vs:List V}
  (S:FnScope N ps scope) (hd:A.handled=none) (e0:Env0 P w K mg base A outer s H) (hl:vs.length=ps.length) (r:Vals vs us)
  (x:InCallC s s.heap.objs.size (bindL (envOfC qual scope s.heap.objs.size f cd).kindOf (ps.zip us) fun _=>none) (cellsFrom (s.heap.objs.size+1) scope.names []) (bindC (envOfC qual scope s.heap.objs.size f cd).kindOf (ps.zip us) fun _=>none) s1) :
  Inv (WR CX P w K mg base N qual scope f cd A outer s H E) [] (start N vs) H s1:=by
 have hpl:ps.length≤N.length:=by have:=Qy List.length S.pre;rw [Q3] at this;omega
 obtain ⟨h1,tk,rfl,hk⟩:=x.done;have noA:∀b:Addr,b∉(WR CX P w K mg base N qual scope f cd A outer s H E).ex:=fun b z=>absurd (show b∈([]:List Addr) from z) (by simp)
 refine ⟨⟨e0.mod,S.kind,rfl,rfl,Qf _,fun y z c h1 h2=>?_,fun y hy=>?_,fun y c _ h=>?_,fun _=>hd,Around.frames_deeper e0.frames,.inr ⟨rfl,rfl⟩,fun b z=>absurd z (noA b),e0.bs,e0.bsz,fun b _ _=>noA b,fun b z=>absurd z (noA b),e0.funs,e0.frf⟩,
  rfl,e0.bare,Un.kept hk,⟨_,x.toInCall.ns,fun i y v h1 h2 h3=>?_⟩,fun y c h=>⟨_,x.cell y c h⟩,e0.hok.fresh (Qf _),fun y c h=>?_,fun p hp=>absurd (show p∈([]:List (Addr×Obj)) from hp) (by simp),e0.hok.kept hk,?_⟩
 ·exact name_of_addr x.apart (RK h1) (RK h2)
 ·have hy:scope.names.lookup y=some .cell∨scope.names.lookup y=some .free:=hy;rcases hy with hy|hy
  ·exact Zfi hy
  ·exact absurd rfl (S.nofree _ (RK hy))
 ·exact QN (x.above y c (RK h))
 ·have hi:i<vs.length:=by
   unfold start at h2;by_cases hi:i<vs.length
   ·exact hi
   ·rw [Rs (by simpa using hi)] at h2;rw [List.getElem?_replicate] at h2;split at h2<;>cases h2
  have ha:vs[i]?=some v:=by
   unfold start at h2;rw [Rt (by simpa using hi),QA] at h2;cases e:vs[i]? with
   |none=>rw [e] at h2;cases h2
   |some a=>rw [e] at h2;cases h2;rfl
  obtain ⟨u,hu,rv⟩:=r.get ha
  have hp:ps[i]?=some y:=by
   rw [←S.pre,Na (by omega)];exact h1
  have ndP:ps.Nodup:=by rw [←S.pre];exact S.nd.sublist (List.take_sublist _ _)
  refine ⟨u,rv,?_⟩;rcases S.par y (QL hp) with k|k
  ·exact .inl ⟨k,Zea ndP hp hu k⟩
  ·obtain ⟨c,e⟩:=Zfi (n:=s.heap.objs.size+1) k;refine .inr ⟨.inl k,c,e,?_⟩;have q:=x.cell y c e;rw [Zhp ndP hp hu (by show scope.names.lookup y≠_;rw [k];decide)] at q;exact q
 ·exact e0.hok.fresh (QN (x.above y c (RK h)))
 ·unfold start;show _=N.length;rw [Qn,Qd,List.length_replicate];omega
theorem Zdb {CX:Yr} {P:Program} {w:World} {K:W.Frag} {mg:Str->Option Value} {base:Heap} {k:Nat} {f:Addr} {name qual:Str} {params:Arguments} {body:List Stmt} {scope:Scope} {dV kV doc pm cdv ct oc:Value} {an od:Option Addr}
  {osl:Array (Option Value)} {N ps:List Str} {sp:Sp} (lk:K.lookup f=some ⟨oc,od,.func (W.fnOf name qual params body scope dV kV doc pm an cdv ct),osl⟩) (hcd:W.codeIn K cdv qual=true) (S:FnScope N ps scope)
  (len:∀vs H Q E,sp vs H Q E->vs.length=ps.length)
  (hbody:∀(A:Around) (outer:List Env) (s:Shared) (H:Hp) (vs:List V) (Q:VK) (E:XK),Room k (A.deeper (envOfC qual scope s.heap.objs.size f cdv))->sp vs H Q E →
   ∃t,PSs (WR CX P w K mg base N qual scope f cdv A outer s H E) body t∧t { nx:=fun _ H'=>Q .non H',rt:=Q } (start N vs) H) :
  FnOk P w K mg base CX (k+1) f (W.fnOf name qual params body scope dV kV doc pm an cdv ct) ps sp:=by
 refine ⟨len,fun A outer s H args us vs Q E hr e0 hb r hsp=>?_⟩;have hl:=len _ _ _ _ hsp;have KX:K.In s.heap:=e0.mod.kin.keeps fun b o e=>(e0.bs b o e).1;have lim:s.heap.NoLimit:=e0.mod.nolimit.keeps fun b o e=>(e0.bs b o e).1
 have hkind:∀y∈ps.zip us,scope.names.lookup y.1=some .local∨(scope.names.lookup y.1=some .cell∧((cellsFrom (s.heap.objs.size+1) scope.names []).lookup y.1).isSome=true):=fun ⟨n,v⟩ hy=>by
  rcases S.par n (GD hy).1 with q|q
  ·exact .inl q
  ·exact .inr ⟨q,W.cellsFrom_some _ _ _ (.inl q)⟩
 refine codeAny_call_function hr.depth (KX _ _ lk) rfl S.co S.gen rfl (W.codeRec_of KX hcd) (hb _ _ _ _ ?_);refine wpAny_newFunctionEnv_cells S.kind hkind fun env he s1 x=>?_;subst he;refine ⟨lim.keeps x.toInCall.keep,codeAny_func ?_⟩;obtain ⟨t,ht,hq⟩:=hbody A outer s H vs Q E (hr.deeper _) hsp;have I:Inv (WR CX P w K mg base N qual scope f cdv A outer s H E) [] (start N vs) H s1:=Zl5 S hr.hd e0 hl r x;refine Q2 (ht [] s1 (start N vs) H _ I hq) (fun fl s' hs=>?_) fun e s' hs=>hs
 have fin:∀{σ':St} {H':Hp} {v:V} {u:Value},Inv (WR CX P w K mg base N qual scope f cdv A outer s H E) [] σ' H' s'->RelV v u->Q v H'->CE outer P w H s Q u s' :=
  fun {σ' H' v u} J rv q=>⟨v,H',J.os,J.bare,J.base,J.hok,rv,q⟩
 cases fl with
 |ret u =>
  obtain ⟨v,σ',H',J,rv,q⟩:=hs;exact fin J rv q
 |next =>
  obtain ⟨σ',H',J,q⟩:=hs;exact fin (v:=V.non) (u:=Value.none) J rfl q
 |brk =>
  obtain ⟨_,_,_,q⟩:=hs;exact False.elim q
 |cont =>
  obtain ⟨_,_,_,q⟩:=hs;exact False.elim q
section
variable {X:Cx} {x:Str} {p pos:Pos} {e:Expr} {es:List Expr} {t:TA} {id T:String} {r:List V->Hp->VK->Prop}
def tCB (r:List V->Hp->VK->Prop) (t:TA):TE:=fun σ H Q=>t σ H fun vs H1=>r vs H1 Q
theorem Yk (hc:Y8 X (.builtin id) r) (hg:Gl X x) (hm:X.mg x=none) (hv:bootBuiltins x=some (.builtin id)) (ha:PA X (e::es) t) (hn:x≠"__name__":=by decide) (hdb:(x==("__debug__" : Str))=false:=by decide)
  (he:starEach (e::es) X.env=(false,eval e X.env)::starEach es X.env:=by rfl) (hpl:(backTo pos (starEach es X.env)).any (·.1)=false:=by rfl):PE X (.Call (.Name x p) (e::es) [] pos) (tCB r t):=by
 intro pins s σ H Q I h;refine Rc (VA I hg hm hv ?_ hn hdb);exact PyProof.Rows.callWith_builtin1 (Zp (ha pos pins s σ H _ I h) fun us s1 ⟨vs,H1,I1,r1,q1⟩=>hc pins s1 σ H1 vs us Q I1 r1 q1) he hpl
theorem Zc7 (hc:Y8 X (.type T) r) (hg:Gl X x) (hm:X.mg x=none) (hv:bootBuiltins x=some (.type T)) (ha:PA X (e::es) t) (hn:x≠"__name__":=by decide) (hdb:(x==("__debug__" : Str))=false:=by decide)
  (he:starEach (e::es) X.env=(false,eval e X.env)::starEach es X.env:=by rfl) (hpl:(backTo pos (starEach es X.env)).any (·.1)=false:=by rfl):PE X (.Call (.Name x p) (e::es) [] pos) (tCB r t):=by
 intro pins s σ H Q I h;refine Rc (VA I hg hm hv ?_ hn hdb);exact Gc (Zp (ha pos pins s σ H _ I h) fun us s1 ⟨vs,H1,I1,r1,q1⟩=>hc pins s1 σ H1 vs us Q I1 r1 q1) he hpl
end
end L2
namespace HT
open PySem PyProof.Rows
section
open PySem.SeqAt
open PySem.AutoSeq1 (wpAny_loadPart')
open PySem.MeetsSeq PySem.MeetsSeq2 PySem.MeetsSeq3
end
section
variable {prog:Program} {w:World} {A:Around} {E:Value->Shared->Prop} {s:Shared}
theorem cat_tup {t b:Addr} {vs ws:List Value} {Q:Value->Shared->Prop} (ht:IsTup s.heap t vs.toArray) (hb:IsTup s.heap b ws.toArray) (hv:vs≠[])
  (h1:ws=[]->Q (.ref t) s) (h2:ws≠[]->Q (.ref s.heap.objs.size) { s with heap:=s.heap.push { cls:=.type "tuple",data:=.seq (vs++ws).toArray } })
  (hsz:vs.length+ws.length≤sizeLine):wpAny (model prog w) A (binaryOp .Add (.ref t) (.ref b)) Q E s:=by
 obtain ⟨⟨cls,dd,data,sl⟩,ho,hc,n,hd⟩:=id ht;obtain ⟨⟨cls2,dd2,data2,sl2⟩,ho2,hc2,n2,hd2⟩:=id hb;simp only at hc hd hc2 hd2;subst hc hd hc2 hd2;have e:vs.toArray++ws.toArray=(vs++ws).toArray:=by simp
 by_cases hw:ws=[]
 ·exact concat_meets ⟨_,ho,rfl⟩ ⟨_,ho2,rfl⟩ Nb seq_tuple_add Nc Nd (Nf _ _)
   (tuple_addW1 t b vs.toArray ws.toArray n n2 dd dd2 sl sl2 (by simpa using hv) (by simp [hw])) ⟨ho,ho2,h1 hw⟩
 ·refine concat_meets ⟨_,ho,rfl⟩ ⟨_,ho2,rfl⟩ Nb seq_tuple_add Nc Nd (Nf _ _)
   (tuple_addW2 t b vs.toArray ws.toArray n n2 dd dd2 sl sl2 (by simpa using hv) (by simpa using hw) (by rw [Qv,Qv];exact hsz)) ⟨ho,ho2,?_⟩
  rw [e];exact h2 hw
noncomputable def sIx (n d:Nat):Option Int->Nat
 |none=>d
 |some v=>if v<0 then (v+(n:Int)).toNat else min v.toNat n
theorem sIx_none (n d:Nat):sIx n d none=d:=rfl
theorem sIx_nat (n d k:Nat):sIx n d (some (k:Int))=min k n:=by
 show (if (k:Int)<0 then ((k:Int)+(n:Int)).toNat else min (k:Int).toNat n)=min k n;rw [Qa (by omega),GF]
theorem Zo3 (n d:Nat) (hd:d≤n) (o:Option Int):sIx n d o≤n:=by
 cases o with
 |none=>exact hd
 |some v =>
  show (if v<0 then (v+(n:Int)).toNat else min v.toNat n)≤n;by_cases hv:v<0
  ·rw [Qb hv];omega
  ·rw [Qa hv];exact Nat.min_le_right _ _
theorem Zf5 (v:Int) (n d:Nat):(if v<0 then max (v+(n:Int)) 0 else min v (n:Int))=((sIx n d (some v):Nat):Int):=by
 show (if v<0 then max (v+(n:Int)) 0 else min v (n:Int))=(((if v<0 then (v+(n:Int)).toNat else min v.toNat n):Nat):Int);by_cases hv:v<0
 ·simp only [Qb hv];omega
 ·simp only [Qa hv];omega
theorem Zme (lo hi:Option Int) (n:Nat):Builtin.Slice.sliceAdjust lo hi 1 (n:Int)=(((sIx n 0 lo:Nat):Int),((sIx n n hi:Nat):Int)):=by
 have h1:¬((1:Int)<0):=by omega
 unfold Builtin.Slice.sliceAdjust;simp only [h1,Q5];refine Q7 ?_ ?_
 ·cases lo with
  |none=>rfl
  |some v=>exact Zf5 v n 0
 ·cases hi with
  |none=>rfl
  |some v=>exact Zf5 v n n
theorem Zjx (i j:Nat):Builtin.Slice.slicePlaces (i:Int) (j:Int) 1=j-i:=by
 unfold Builtin.Slice.slicePlaces;have h1:(1:Int) > 0:=by omega
 simp only [h1,Ru,Int.ediv_one];split<;>omega
theorem Zen {v:Value} {o:Option Int} {Q:Option Int->Shared->Prop} (p:IsPart v o) (h:Q o s):wpAny (model prog w) A (Builtin.Slice.slicePartIndex v) Q E s:=by
 cases p with
 |none=>exact slicePart_none h
 |int i t=>exact slicePart_int h
theorem sliceApplied_gen {sl:Addr} {vl vu:Value} {lo hi:Option Int} {n:Nat} {Q:Int×Int×Nat->Shared->Prop} (hs:s.heap.IsSliceOf sl vl vu .none) (pl:IsPart vl lo) (pu:IsPart vu hi)
  (h:Q (((sIx n 0 lo:Nat):Int),1,sIx n n hi-sIx n 0 lo) s):wpAny (model prog w) A (Builtin.Slice.sliceApplied (.ref sl) (pure (n:Int))) Q E s:=by
 obtain ⟨os,hos,hcs,hds⟩:=id hs;unfold Builtin.Slice.sliceApplied Builtin.Slice.sliceFields;refine Qc (Qc (QM hos hds (x:=vl) rfl (Qc (QM hos hds (x:=vu) rfl (Qc (QM hos hds (x:=.none) rfl (Qe ?_)))))));refine Qc (slicePart_none ?_);show wpAny _ _ (if ((1:Int)==0)=true then _ else _) _ _ s;rw [Qa (by decide)];refine Qc (Zen pl (Qc (Zen pu (Qc (Qe ?_)))));show wpAny _ _ (match Builtin.Slice.sliceAdjust lo hi 1 (n:Int) with|(lo,hi)=>pure (lo,(1:Int),Builtin.Slice.slicePlaces lo hi 1)) _ _ s;rw [Zme lo hi n];show wpAny _ _ (pure (((sIx n 0 lo:Nat):Int),(1:Int),Builtin.Slice.slicePlaces ((sIx n 0 lo:Nat):Int) ((sIx n n hi:Nat):Int) 1)) _ _ s;rw [Zjx];exact Qe h
theorem ZjU (xs:Array Value) (i k:Nat):((List.range k).filterMap fun (m:Nat)=>xs[((i:Int)+(m:Int)*1).toNat]?).toArray=((xs.toList.drop i).take k).toArray:=by
 have e:(fun (m:Nat)=>xs[((i:Int)+(m:Int)*1).toNat]?)=fun m=>xs[i+m]?:=by
  funext m
  have:((i:Int)+(m:Int)*1).toNat=i+m:=by omega
  rw [this]
 rw [e];have:=pick_run xs i k;rw [List.filterMap_map] at this;have e2:((fun x=>xs[x]?)∘fun x=>i+x)=fun m=>xs[i+m]?:=rfl;rw [e2] at this;rw [this]
theorem getItem_tuple_cut {t sl:Addr} {items:Array Value} {vl vu:Value} {lo hi:Option Int} {Q:Value->Shared->Prop} (ht:IsTup s.heap t items) (hs:s.heap.IsSliceOf sl vl vu .none) (pl:IsPart vl lo) (pu:IsPart vu hi)
  (hw:¬(sIx items.size 0 lo=0∧sIx items.size items.size hi=items.size))
  (h:Q (.ref s.heap.objs.size) { s with heap:=s.heap.push { cls:=.type "tuple",data:=.seq ((items.toList.drop (sIx items.size 0 lo)).take (sIx items.size items.size hi-sIx items.size 0 lo)).toArray } })
  (hsz:items.size≤sizeLine):wpAny (model prog w) A (getItem (.ref t) (.ref sl)) Q E s:=by
 have htake:sizeOk (.seq ((items.toList.drop (sIx items.size 0 lo)).take (sIx items.size items.size hi-sIx items.size 0 lo)).toArray):=by
  show ((items.toList.drop (sIx items.size 0 lo)).take (sIx items.size items.size hi-sIx items.size 0 lo)).toArray.size≤sizeLine;rw [Qv,Q3,RL,RY];omega
 have hj:sIx items.size items.size hi≤items.size:=Zo3 _ _ (Qf _) hi;obtain ⟨os,hos,hcs,hds⟩:=id hs;have hTs:s.TypeIs (.ref sl) "slice":=⟨os,hos,hcs⟩;unfold getItem
 try with_reducible refine Rh ?_
 first|refine Qc (Qe ?_)|skip
 refine Qc (wpAny_sequenceKey ht.typeIs (by decide) ?_)
 refine Qc (Rn (name:=Str.ofString "__getitem__") ht.typeIs R0
  (Re R0 ht.typeIs entry_tuple_getitem ?_ (args_tuple_getitem _ _)))
 show wpAny _ _ (Builtin.Tuple.tupleItemsOf (.ref t) >>= _) _ _ s;refine Qc (tupleItemsOf_ ht ?_);refine Qc (GG hTs ?_);rw [Qb (by decide)];refine Qc (sliceApplied_gen hs pl pu ?_)
 have hno:¬((((sIx items.size 0 lo:Nat):Int)==0&&(1:Int)==1&&(sIx items.size items.size hi-sIx items.size 0 lo)==items.size)=true):=by
  intro q;rw [Rv,Rv] at q;have q1:((sIx items.size 0 lo:Nat):Int)=0:=eq_of_beq q.1.1;have q2:sIx items.size items.size hi-sIx items.size 0 lo=items.size:=eq_of_beq q.2;exact hw ⟨by omega,by omega⟩
 show wpAny _ _ (if (((sIx items.size 0 lo:Nat):Int)==0&&(1:Int)==1&&(sIx items.size items.size hi-sIx items.size 0 lo)==items.size)=true then _ else _) _ _ s;rw [Qa hno,ZjU]
 first
  |exact Qc (m:=Builtin.Tuple.tupleExact _) (Ri (Qe ⟨_,rfl,Qe h⟩) htake)
  |exact Qc (m:=Builtin.Tuple.tupleExact _) (Ri (Qc (Qe (Qe ⟨_,rfl,Qe h⟩))) htake)
  |exact Qc (Qc (m:=Builtin.Tuple.tupleExact _) (Ri (Qe (Qe ⟨_,rfl,Qe h⟩)) htake))
  |exact Qc (Qc (m:=Builtin.Tuple.tupleExact _) (Ri (Qe ⟨_,rfl,Qe h⟩) htake))
end
end HT
namespace L2
open PySem PySem.Spec PyProof.Rows
abbrev TO:=St->Hp->(Option Int->Hp->Prop)->Prop
def PO (X:Cx) (e:Option Expr) (t:TO):Prop :=
 ∀(pins:List (Addr×Obj)) (s:Shared) (σ:St) (H:Hp) (Q:Option Int->Hp->Prop),Inv X pins σ H s->t σ H Q →
  wpAny (model X.prog X.w) X.A (evalPart e X.env) (fun u s'=>∃o H',Inv X pins σ H' s'∧IsPart u o∧Q o H') X.xe s
def ZaK:TO:=fun _ H Q=>Q none H
def ZlP (t:TE):TO:=fun σ H Q=>t σ H fun x H1=>∃i,x=.int i∧Q (some i) H1
theorem Znc {ns:List Int}:∀{us:List Value},Vals (ns.map V.int) us->IntsAre us ns:=by
 induction ns with
 |nil=>intro us r;rw [Gf] at r;cases r;exact .nil
 |cons n ns ih =>
  intro us r;rw [Qt] at r;cases r with
  |cons r1 r2 =>
   obtain ⟨t,e⟩:=r1;subst e;exact .cons n t (ih r2)
section
variable {X:Cx} {e:Expr} {te:TE} {lo hi:Option Expr} {tl th:TO} {pos p2:Pos}
theorem XX:PO X none ZaK:=by
 intro pins s σ H Q I h;rw [evalPart_none];exact Qe ⟨none,H,I,.none,h⟩
theorem Y0 (h:PE X e te):PO X (some e) (ZlP te):=by
 intro pins s σ H Q I hw;rw [evalPart_some];refine Zp (h pins s σ H _ I hw) fun u s1 ⟨x,H1,I1,r1,q1⟩=>?_;obtain ⟨i,rfl,q⟩:=q1;obtain ⟨t,rfl⟩:=r1;exact ⟨some i,H1,I1,.int i t,q⟩
def SlR (X:Cx) (r:V->Option Int->Option Int->Hp->VK->Prop):Prop :=
 ∀(pins:List (Addr×Obj)) (s:Shared) (σ:St) (H:Hp) (x:V) (v vl vu:Value) (lo hi:Option Int) (sl:Addr) (Q:VK),Inv X pins σ H s->RelV x v->s.heap.IsSliceOf sl vl vu .none->IsPart vl lo->IsPart vu hi->r x lo hi H Q →
  ∃T id,typeLookup (.type T) "__getitem__"=pure (some (.builtin id))∧s.TypeIs v T∧wpAny (model X.prog X.w) X.A (getItem v (.ref sl)) (EP X pins σ Q) X.xe s
def tSl (r:V->Option Int->Option Int->Hp->VK->Prop) (te:TE) (tl th:TO):TE:=fun σ H Q=>te σ H fun x H1=>tl σ H1 fun l H2=>th σ H2 fun u H3=>r x l u H3 Q
theorem Xm {r:V->Option Int->Option Int->Hp->VK->Prop} (hr:SlR X r) (he:PE X e te) (hl:PO X lo tl) (hu:PO X hi th):PE X (.Subscript e (.Slice lo hi none p2) pos) (tSl r te tl th):=by
 intro pins s σ H Q I h;refine Subscript_ (Zp (he pins s σ H _ I h) fun v s1 ⟨x,H1,I1,r1,q1⟩=>?_);refine wpAny_Slice (Zp (hl pins s1 σ H1 _ I1 q1) fun vl s2 ⟨l,H2,I2,pl,q2⟩=>Zp (hu pins s2 σ H2 _ I2 q2) fun vu s3 ⟨u,H3,I3,pu,q3⟩=>?_);rw [evalPart_none];refine Qe ?_;have I4:Inv X pins σ H3 { s3 with heap:=s3.heap.push { cls:=.type "slice",data:=.fields #[vl,vu,.none] } }:=I3.kept (t':=s3.toks) fun b ob q=>Qj _ q;obtain ⟨T,id,hT,ht,hg⟩:=hr pins { s3 with heap:=s3.heap.push { cls:=.type "slice",data:=.fields #[vl,vu,.none] } } σ H3 x v vl vu l u s3.heap.objs.size Q I4 r1 (Heap.IsSliceOf.new ..) pl pu q3;show wpAny (model X.prog X.w) X.A (subscriptTail e (.Slice lo hi none p2) v (.ref s3.heap.objs.size)) (EP X pins σ Q) X.xe { s3 with heap:=s3.heap.push { cls:=.type "slice",data:=.fields #[vl,vu,.none] } };exact tail_any (ops:=[.ref s3.heap.objs.size,v]) ht hT hg (by with_unfolding_all rfl)
noncomputable def Yi (xs:List V) (lo hi:Option Int):List V:=(xs.drop (HT.sIx xs.length 0 lo)).take (HT.sIx xs.length xs.length hi-HT.sIx xs.length 0 lo)
theorem Zfc (xs:List V) (lo hi:Option Int):(Yi xs lo hi).length≤xs.length:=by
 unfold Yi;rw [Q3,RL];omega
def Zem (K:W.Frag):V->Option Int->Option Int->Hp->VK->Prop:=fun x lo hi H Q=>∃a xs,x=.ref a∧SqT K H a xs ∧
 ¬(HT.sIx xs.length 0 lo=0∧HT.sIx xs.length xs.length hi=xs.length)∧∀p,H p=none->Q (.ref p) (Zc H p (.tup (Yi xs lo hi)))
theorem JD:SlR X (Zem X.K):=by
 intro pins s σ H x v vl vu lo hi sl Q I rx hs pl pu h;obtain ⟨a,xs,rfl,hx,hw,q⟩:=h;cases rx;obtain ⟨its,r,ht,hz⟩:=I.tuple hx;have hlen:its.toArray.size=xs.length:=by rw [Qv];exact r.length.symm
 refine ⟨"tuple",_,R0.lookup,ht.typeIs,?_⟩;refine HT.getItem_tuple_cut ht hs pl pu (by rw [hlen];exact hw) ?_ (by rw [hlen];exact hz);rw [hlen];refine ⟨.ref s.heap.objs.size,_,I.laid (t':=s.toks) (o:=.tup (Yi xs lo hi)) (fun b ob q=>Qj _ q) (Qf _) ?_,rfl,q _ (I.hok.fresh (Qf _))⟩;exact ⟨Qq (Zfc xs lo hi) hz,_,(r.drop (HT.sIx xs.length 0 lo)).take (HT.sIx xs.length xs.length hi-HT.sIx xs.length 0 lo),IsTup.new _ _⟩
def ZjA (K:W.Frag):R2:=fun x y H Q=>∃a b xs ys,x=.ref a∧y=.ref b∧SqT K H a xs∧SqT K H b ys∧xs≠[]∧xs.length+ys.length≤sizeLine ∧
 (ys=[]->Q (.ref a) H)∧(ys≠[]->∀p,H p=none->Q (.ref p) (Zc H p (.tup (xs++ys))))
theorem Vals.nil_iff {xs:List V} {us:List Value} (r:Vals xs us):us=[]↔xs=[]:=by
 cases r with
 |nil=>simp
 |cons _ _=>simp
theorem Zfh:Yq X (binaryOp .Add) (ZjA X.K):=by
 intro pins s σ H x y v u Q I rx ry h;obtain ⟨a,b,xs,ys,rfl,rfl,ha,hb,hx,hz,q1,q2⟩:=h;cases rx;cases ry;obtain ⟨its,r1,p1,_⟩:=I.tuple ha;obtain ⟨its2,r2,p2,_⟩:=I.tuple hb;refine HT.cat_tup p1 p2 (fun z=>hx (r1.nil_iff.mp z)) (fun z=>⟨.ref a,H,I,rfl,q1 (r2.nil_iff.mp z)⟩) (fun z=>?_) (by rw [←r1.length,←r2.length];exact hz);refine ⟨.ref s.heap.objs.size,_,I.laid (t':=s.toks) (o:=.tup (xs++ys)) (fun b ob q=>Qj _ q) (Qf _) ?_,rfl,q2 (fun w=>z (r2.nil_iff.mpr w)) _ (I.hok.fresh (Qf _))⟩;exact ⟨by rw [Qn];exact hz,_,r1.append r2,IsTup.new _ _⟩
end
noncomputable def Wh (n:Nat) (i:Int):Option Nat:=if 0≤i then (if i<n then some i.toNat else none) else if -(n:Int)≤i then some (i+n).toNat else none
noncomputable def Yt {α:Type} (xs:List α) (i:Int):Option α:=(Wh xs.length i).bind fun j=>xs[j]?
theorem ZfU {n:Nat} {i:Int} {j:Nat} (h:Wh n i=some j):seqIndex? i n=some j∧j<n∧-(n:Int)≤i∧i<n:=by
 unfold Wh at h;by_cases h0:0≤i
 ·rw [Qb h0] at h;by_cases h1:i<n
  ·rw [Qb h1] at h;have e:i.toNat=j:=Qo h;exact ⟨by rw [seqIndex_of h0 h1,e],by omega,by omega,h1⟩
  ·rw [Qa h1] at h;cases h
 ·rw [Qa h0] at h;by_cases h1:-(n:Int)≤i
  ·rw [Qb h1] at h;have e:(i+n).toNat=j:=Qo h;exact ⟨by rw [seqIndex_neg (by omega) h1,e],by omega,h1,by omega⟩
  ·rw [Qa h1] at h;cases h
theorem Zde {α:Type} {xs:List α} {i:Int} {v:α} (h:Yt xs i=some v):∃j,seqIndex? i xs.length=some j∧xs[j]?=some v∧j<xs.length∧-(xs.length:Int)≤i∧i<xs.length:=by
 unfold Yt at h;cases e:Wh xs.length i with
 |none=>rw [e] at h;cases h
 |some j =>
  rw [e] at h;obtain ⟨h1,h2,h3,h4⟩:=ZfU e;exact ⟨j,h1,h,h2,h3,h4⟩
theorem XM {α:Type} {xs:List α} {j:Nat} {v:α} (h:xs[j]?=some v):Yt xs (j:Int)=some v:=by
 have hj:j<xs.length:=(QH.mp h).1
 have e:Wh xs.length (j:Int)=some j:=by
  unfold Wh;rw [Qb (by omega),Qb (by omega)];simp
 unfold Yt;rw [e];exact h
theorem Zaf {α:Type} (xs:List α) (v:α):Yt (xs++[v]) (-1)=some v:=by
 have hl:(xs++[v]).length=xs.length+1:=by simp
 have e:Wh (xs++[v]).length (-1)=some xs.length:=by
  unfold Wh;rw [hl,Qa (by decide),Qb (by omega)]
  congr 1
  omega
 unfold Yt;rw [e];show (xs++[v])[xs.length]?=some v;simp
def ZgT (b:Expr):Prop:=∀o i,subscripted b false o i=operate [o,i] (getItem o i)
def IxR (X:Cx) (r:R2):Prop :=
 ∀(value slice:Expr) (pins:List (Addr×Obj)) (s:Shared) (σ:St) (H:Hp) (x y:V) (v u:Value) (Q:VK),Inv X pins σ H s->RelV x v->RelV y u->r x y H Q →
  subscripted slice false v u=operate [v,u] (getItem v u)->wpAny (model X.prog X.w) X.A (subscriptTail value slice v u) (EP X pins σ Q) X.xe s
def MtR (X:Cx) (id:String) (r:V->List V->Hp->VK->Prop):Prop :=
 ∀(pins:List (Addr×Obj)) (s:Shared) (σ:St) (H:Hp) (x:V) (xs:List V) (v:Value) (us:List Value) (Q:VK),Inv X pins σ H s->RelV x v->Vals xs us->r x xs H Q →
  wpAny (model X.prog X.w) X.A (call (.builtin id) (v::us)) (EP X pins σ Q) X.xe s
section
variable {X:Cx} {a b:Expr} {ta tb:TE} {pos:Pos}
theorem Zr {r:R2} (hr:IxR X r) (ha:PE X a ta) (hb:PE X b tb) (hs:ZgT b):PE X (.Subscript a b pos) (tOp r ta tb):=by
 intro pins s σ H Q I h;exact Subscript_ (Zdp ha hb I h fun v u s2 x y H2 I2 rx ry q=>hr a b pins s2 σ H2 x y v u Q I2 rx ry q (hs _ _))
def ZkY (K:W.Frag):R2:=fun x y H Q=>∃p xs i v,x=.ref p∧y=.int i∧SqL K H p xs∧Yt xs i=some v∧Q v H
def Zoe (K:W.Frag):R2:=fun x y H Q=>∃p xs i v,x=.ref p∧y=.int i∧SqT K H p xs∧Yt xs i=some v∧Q v H
def Zpp:R2:=fun x y H Q=>∃z i c,x=.str z∧y=.int i∧z.length≤sizeLine∧Yt z.cps.toList i=some c∧Q (.str ⟨#[c]⟩) H
theorem Yz:IxR X (ZkY X.K):=by
 intro value slice pins s σ H x y v u Q I rx ry h hs;obtain ⟨p,xs,i,z,rfl,rfl,hq,he,q⟩:=h;cases rx;obtain ⟨t,rfl⟩:=ry;obtain ⟨its,r,pl,hz⟩:=I.list hq;obtain ⟨j,h1,h2,h3,h4,h5⟩:=Zde he;obtain ⟨w,ew,rw'⟩:=r.get h2;have hl:=r.length;have hn:=VE;have fin:EP X pins σ Q w s:=⟨z,H,I,rw',q⟩;by_cases h0:0≤i
 ·have hj:i.toNat=j:=by
   rw [seqIndex_of h0 h5] at h1;exact Qo h1
  exact item_listR pl.isList h0 (by omega) (by rw [hj];simpa using ew) fin hs
 ·have hj:(i+(its.toArray.size:Int)).toNat=j:=by
   rw [seqIndex_neg (by omega) h4] at h1;rw [Qv,←hl];exact Qo h1
  exact subscriptTail_builtinR (x:=w) pl.isList.typeIs slot_list_getitem.lookup
   (wpAny_getItem_list_neg (Q:=fun r s'=>r=w∧EP X pins σ Q r s') pl.isList (by omega) (by rw [Qv]<;>omega) (by omega) (by rw [hj];simpa using ew) ⟨rfl,fin⟩) hs
theorem Zx:IxR X (Zoe X.K):=by
 intro value slice pins s σ H x y v u Q I rx ry h hs;obtain ⟨p,xs,i,z,rfl,rfl,hq,he,q⟩:=h;cases rx;obtain ⟨t,rfl⟩:=ry;obtain ⟨its,r,pl,hz⟩:=I.tuple hq;obtain ⟨j,h1,h2,h3,h4,h5⟩:=Zde he;obtain ⟨w,ew,rw'⟩:=r.get h2;have hl:=r.length;have hn:=VE;have fin:EP X pins σ Q w s:=⟨z,H,I,rw',q⟩
 exact subscriptTail_builtinR (x:=w) pl.typeIs slot_tuple_getitem.lookup
  (getItem_tuple (j:=j) (Q:=fun r s'=>r=w∧EP X pins σ Q r s') pl (by omega) (by omega) (by rw [Qv,←hl];exact h1) (by simpa using ew) ⟨rfl,fin⟩) hs
theorem ZfY:IxR X Zpp:=by
 intro value slice pins s σ H x y v u Q I rx ry h hs;obtain ⟨z,i,c,rfl,rfl,hz,he,q⟩:=h;obtain ⟨t,rfl⟩:=rx;obtain ⟨t',rfl⟩:=ry;obtain ⟨j,h1,h2,h3,h4,h5⟩:=Zde he;have hl:z.cps.toList.length=z.length:=by simp [Str.length]
 rw [hl] at h1 h4 h5;have hn:=VE
 exact tail_any (R1 s z t) slot_str_getitem.lookup (getItem_str (c:=c) (by
  have e1:decide (i< -(2 ^ 63:Int))=false:=Qm (by omega);have e2:decide (i ≥ 2 ^ 63)=false:=Qm (by omega);rw [e1,e2,Bool.or_false]) (by rw [h1];simpa using h2) ⟨.str ⟨#[c]⟩,H,I.tok _,⟨_,rfl⟩,q⟩) hs
theorem ZiC (its:List Value) (n j:Nat) (u:Value):Obj.mapSeq (·.setIfInBounds j u) { cls:=.type "list",data:=.seq its.toArray n }={ cls:=.type "list",data:=.seq (its.set j u).toArray n }:=by
 simp [Obj.mapSeq]
theorem Inv.lst {pins:List (Addr×Obj)} {σ:St} {H:Hp} {s:Shared} {p:Addr} {xs:List V} (I:Inv X pins σ H s) (h:H p=some (.lst xs)) :
  ∃(its:List Value) (n:Nat),Vals xs its∧s.heap.get? p=some { cls:=.type "list",data:=.seq its.toArray n }∧xs.length≤sizeLine:=by
 obtain ⟨z,its,n,r,e⟩:=I.hok p _ h;exact ⟨its,n,r,e,z⟩
theorem Inv.lstUpd {pins:List (Addr×Obj)} {σ:St} {H:Hp} {s:Shared} {p:Addr} {xs ys:List V} {its its':List Value} {n n':Nat} {f:Obj->Obj} (I:Inv X pins σ H s) (h:H p=some (.lst xs))
  (ho:s.heap.get? p=some { cls:=.type "list",data:=.seq its.toArray n }) (hf:f { cls:=.type "list",data:=.seq its.toArray n }={ cls:=.type "list",data:=.seq its'.toArray n' }) (r:Vals ys its') (hz:ys.length≤sizeLine) (t:Nat) :
  Inv X pins σ (Zc H p (.lst ys)) { s with heap:=s.heap.update p f,toks:=t }:=by
 have e:(s.heap.update p f).get? p=some { cls:=.type "list",data:=.seq its'.toArray n' }:=by
  rw [Ng f ho (by rw [hf]<;>rfl),hf]
 refine I.write (x:=p) (e:=p) (by rw [h];trivial) (.inl rfl) (fun b u hb q=>(Heap.get?_update_other _ _ (QY hb)).trans q) ⟨_,e⟩ ?_;exact ⟨hz,its',n',r,e⟩
def Zpq:V->V->V->Hp->(Hp->Prop)->Prop:=fun o i v H Q=>∃p xs k j,o=.ref p∧i=.int k∧H p=some (.lst xs)∧Wh xs.length k=some j∧Q (Zc H p (.lst (xs.set j v)))
theorem Zmj:Ze7 X Zpq:=by
 intro pins s σ H o i v ov iv u Q I ro ri rv h;obtain ⟨p,xs,k,j,rfl,rfl,hp,hj,q⟩:=h;cases ro;obtain ⟨t,rfl⟩:=ri;obtain ⟨its,n,r,ho,hz⟩:=I.lst hp;obtain ⟨h1,h2,h3,h4⟩:=ZfU hj;have hl:=r.length;have hn:=VE
 have I':Inv X pins σ (Zc H p (.lst (xs.set j v))) { s with heap:=s.heap.update p (Obj.mapSeq (·.setIfInBounds j u)) } :=
  I.lstUpd hp ho (ZiC its n j u) (r.set rv j) (by rw [List.length_set];exact hz) s.toks
 by_cases h0:0≤k
 ·have hk:k.toNat=j:=by
   rw [seqIndex_of h0 h4] at h1;exact Qo h1
  exact W.ki_setAt ho h0 (by omega) (by rw [Qv,←hl];exact h4) (by rw [hk];exact ⟨_,I',q⟩)
 ·have hk:(k+(its.toArray.size:Int)).toNat=j:=by
   rw [seqIndex_neg (by omega) h3] at h1;rw [Qv,←hl];exact Qo h1
  exact W.ki_setBack ho (by omega) (by rw [Qv,←hl];exact h3) (by omega) (by rw [hk];exact ⟨_,I',q⟩)
theorem ZnU (lo hi:Option Int) (n:Nat):(sliceBounds lo hi none n).1=((HT.sIx n 0 lo:Nat):Int)∧(sliceBounds lo hi none n).2.1=((HT.sIx n n hi:Nat):Int)∧(sliceBounds lo hi none n).2.2=1:=by
 refine ⟨?_,?_,rfl⟩
 ·cases lo with
  |none=>simp [sliceBounds,HT.sIx]
  |some i =>
   simp only [sliceBounds,HT.sIx,Option.getD_none,show (1:Int) > 0 by decide,Ru];by_cases h:i<0
   ·simp only [h,Ru]<;>omega
   ·simp only [h,Q5]<;>omega
 ·cases hi with
  |none=>simp [sliceBounds,HT.sIx]
  |some i =>
   simp only [sliceBounds,HT.sIx,Option.getD_none,show (1:Int) > 0 by decide,Ru];by_cases h:i<0
   ·simp only [h,Ru]<;>omega
   ·simp only [h,Q5]<;>omega
theorem Zms (its:List Value) (lo hi:Option Int):slicePick its.toArray lo hi none=((its.drop (HT.sIx its.length 0 lo)).take (HT.sIx its.length its.length hi-HT.sIx its.length 0 lo)).toArray:=by
 obtain ⟨h1,h2,h3⟩:=ZnU lo hi its.toArray.size;unfold slicePick;rw [h1,h2,h3];simp only [sliceRange_one,pick_run,Qv]<;>rfl
def Zk7 (K:W.Frag):V->Option Int->Option Int->Hp->VK->Prop:=fun x lo hi H Q=>∃a xs,x=.ref a∧SqL K H a xs∧∀p,H p=none->Q (.ref p) (Zc H p (.lst (Yi xs lo hi)))
theorem Zhe:SlR X (Zk7 X.K):=by
 intro pins s σ H x v vl vu lo hi sl Q I rx hs pl pu h;obtain ⟨a,xs,rfl,hx,q⟩:=h;cases rx;obtain ⟨its,r,ht,hz⟩:=I.list hx;have hlen:=r.length;refine ⟨"list",_,slot_list_getitem.lookup,ht.isList.typeIs,?_⟩;refine wpAny_getItem_list_slice ht.isList hs pl pu .none (by simp) ?_ (by rw [Qv]<;>omega);rw [Zms,←hlen];refine ⟨.ref s.heap.objs.size,_,I.laid (t':=s.toks) (o:=.lst (Yi xs lo hi)) (fun b ob q=>Qj _ q) (Qf _) ?_,rfl,q _ (I.hok.fresh (Qf _))⟩;exact ⟨Qq (Zfc xs lo hi) hz,_,0,(r.drop (HT.sIx xs.length 0 lo)).take (HT.sIx xs.length xs.length hi-HT.sIx xs.length 0 lo),Qr _ rfl⟩
noncomputable def Vl:V->Bool
 |.non=>true
 |.bl _=>true
 |.int _=>true
 |.str _=>true
 |_=>false
noncomputable def YM:V->V->Bool
 |.non,.non=>true
 |.bl a,.bl b=>a==b
 |.bl a,.int b=>(if a then 1 else 0)==b
 |.int a,.bl b=>a==(if b then 1 else 0)
 |.int a,.int b=>a==b
 |.str a,.str b=>a==b
 |_,_=>false
theorem Zkk {A:Around} {s:Shared} {y x:V} {u v:Value} (ry:RelV y u) (rx:RelV x v) (fy:Vl y=true) (fx:Vl x=true):SeqAt.EqAt A s u v (YM y x):=by
 cases y with
 |non =>
  cases ry;cases x with
  |non=>cases rx;exact GH _
  |bl b=>cases rx;exact SeqAt.EqAt.none_bool b
  |int b=>obtain ⟨t,rfl⟩:=rx;exact SeqAt.EqAt.none_int b t
  |str b=>obtain ⟨t,rfl⟩:=rx;exact SeqAt.EqAt.none_str b t
  |_=>exact absurd (show false=true from fx) QJ
 |bl a =>
  cases ry;cases x with
  |non=>cases rx;exact SeqAt.EqAt.bool_none a
  |bl b=>cases rx;exact SeqAt.EqAt.bool_bool a b
  |int b=>obtain ⟨t,rfl⟩:=rx;exact SeqAt.EqAt.bool_int a b t
  |str b=>obtain ⟨t,rfl⟩:=rx;exact SeqAt.EqAt.bool_str a b t
  |_=>exact absurd (show false=true from fx) QJ
 |int a =>
  obtain ⟨t',rfl⟩:=ry;cases x with
  |non=>cases rx;exact SeqAt.EqAt.int_none a t'
  |bl b=>cases rx;exact SeqAt.EqAt.int_bool a t' b
  |int b=>obtain ⟨t,rfl⟩:=rx;exact SeqAt.EqAt.int_int a t' b t
  |str b=>obtain ⟨t,rfl⟩:=rx;exact GY a t' b t
  |_=>exact absurd (show false=true from fx) QJ
 |str a =>
  obtain ⟨t',rfl⟩:=ry;cases x with
  |non=>cases rx;exact SeqAt.EqAt.str_none a t'
  |bl b=>cases rx;exact SeqAt.EqAt.str_bool a t' b
  |int b=>obtain ⟨t,rfl⟩:=rx;exact GZ a t' b t
  |str b=>obtain ⟨t,rfl⟩:=rx;exact SeqAt.EqAt.str_str a t' b t
  |_=>exact absurd (show false=true from fx) QJ
 |_=>exact absurd (show false=true from fy) QJ
noncomputable def W6 (x:V) (u:Value):Bool:=match u with
 |.none=>YM .non x
 |.bool b=>YM (.bl b) x
 |.int i _=>YM (.int i) x
 |.str z _=>YM (.str z) x
 |_=>false
theorem Zgc {x y:V} {u:Value} (r:RelV y u) (f:Vl y=true):W6 x u=YM y x:=by
 cases y with
 |non=>cases r;rfl
 |bl b=>cases r;rfl
 |int i=>obtain ⟨t,rfl⟩:=r;rfl
 |str z=>obtain ⟨t,rfl⟩:=r;rfl
 |_=>exact absurd (show false=true from f) QJ
theorem Zcx {x:V}:∀{xs:List V} {us:List Value},Vals xs us->xs.all Vl=true->us.any (W6 x)=xs.any fun y=>YM y x
 |_,_,.nil,_=>rfl
 |y::xs,u::us,.cons r t,f=>by
  rw [Gg,Rv] at f;rw [Rg,Rg,Zgc r f.1,Zcx t f.2]
theorem Zdn {A:Around} {s:Shared} {x:V} {v:Value} (rx:RelV x v) (fx:Vl x=true):∀{xs:List V} {us:List Value},Vals xs us->xs.all Vl=true->∀u∈us,SeqAt.EqAt A s u v (W6 x u)
 |_,_,.nil,_=>fun u hu=>by cases hu
 |y::xs,u::us,.cons r t,f=>fun u' hu=>by
  rw [Gg,Rv] at f;rcases Qh.mp hu with rfl|hu
  ·rw [Zgc r f.1];exact Zkk r rx f.1 fx
  ·exact Zdn rx fx t f.2 u' hu
noncomputable def XG (x:V) (xs:List V):Bool:=xs.any fun y=>YM y x
def rIn (K:W.Frag) (neg:Bool):R2:=fun x y H Q=>∃p xs,y=.ref p∧(SqL K H p xs∨SqT K H p xs)∧Vl x=true∧xs.all Vl=true∧Q (.bl (if neg then !XG x xs else XG x xs)) H
theorem V6:Yq X (compareOp .In) (rIn X.K false):=by
 intro pins s σ H x y v u Q I rx ry h;obtain ⟨p,xs,rfl,hq,fx,fs,q⟩:=h;cases ry;rcases hq with hq|hq
 ·obtain ⟨its,r,pl,hz⟩:=I.list hq;refine SeqAt.in_listAt (W6 x) pl.isList (fun w hw=>Zdn rx fx r fs w (by simpa using hw)) ⟨.bl _,H,I,rfl,?_⟩;rw [show its.toArray.any (W6 x)=its.any (W6 x) by simp,Zcx r fs];exact q
 ·obtain ⟨its,r,pl,hz⟩:=I.tuple hq;refine SeqAt.in_tupleAt (W6 x) pl (fun w hw=>Zdn rx fx r fs w (by simpa using hw)) ⟨.bl _,H,I,rfl,?_⟩;rw [show its.toArray.any (W6 x)=its.any (W6 x) by simp,Zcx r fs];exact q
theorem XA:Y8 X (.builtin "len") (fun xs H Q=>∃p ys,xs=[.ref p]∧(SqL X.K H p ys∨SqT X.K H p ys)∧Q (.int ys.length) H):=by
 intro pins s σ H xs us Q I r h;obtain ⟨p,ys,rfl,hq,q⟩:=h;obtain ⟨u,rfl,rx⟩:=XE r;cases rx;have hn:=VE;rcases hq with hq|hq
 ·obtain ⟨its,r',pl,hz⟩:=I.list hq;have hlen:=r'.length;exact Calls.call_len_list pl.isList (by simp only [Qv]<;>omega) ⟨.int ys.length,H,I.tok _,⟨s.toks+1,by rw [Qv,hlen]⟩,q⟩
 ·obtain ⟨its,r',pl,hz⟩:=I.tuple hq;have hlen:=r'.length;exact len_tuple pl (by simp only [Qv]<;>omega) ⟨.int ys.length,H,I.tok _,⟨s.toks+1,by rw [Qv,hlen]⟩,q⟩
theorem Zhk:Y8 X (.builtin "len") (fun xs H Q=>∃z,xs=[.str z]∧z.length≤sizeLine∧Q (.int z.length) H):=by
 intro pins s σ H xs us Q I r h;obtain ⟨z,rfl,hz,q⟩:=h;obtain ⟨u,rfl,t,rfl⟩:=XE r;have hn:=VE;exact len_str (by omega) ⟨.int z.length,H,I.tok _,⟨_,rfl⟩,q⟩
theorem Zjp:Y8 X (.type "list") (fun xs H Q=>∃p ys,xs=[.ref p]∧(SqL X.K H p ys∨SqT X.K H p ys)∧∀l,H l=none->Q (.ref l) (Zc H l (.lst ys))):=by
 intro pins s σ H xs us Q I r h;obtain ⟨p,ys,rfl,hq,q⟩:=h;obtain ⟨u,rfl,rx⟩:=XE r;cases rx
 have fin : ∀(its : List Value), Vals ys its → ys.length ≤ sizeLine → ∀(h' : Heap) (c' : Nat), (∀b o', s.heap.get? b=some o' → h'.get? b=some o') →
   h'.get? s.heap.objs.size=some { cls:=.type "list",dict:=none,data:=.seq its.toArray c',slots:=#[] }->EP X pins σ Q (.ref s.heap.objs.size) { s with heap:=h' }:=fun its r' hz h' c' kp e =>
  ⟨.ref s.heap.objs.size,_,I.laid (t':=s.toks) kp (Qf _) (show ObjOk X.prog X.w _ h' _ (.lst ys) from ⟨hz,its,c',r',e⟩),rfl,q _ (I.hok.fresh (Qf _))⟩
 rcases hq with hq|hq
 ·obtain ⟨its,r',pl,hz⟩:=I.list hq;have hlen:=r'.length;obtain ⟨o,ho,hc,n,hd⟩:=pl.isList;exact call_list_seq p (.inl rfl) ho hc hd (fun h' c' kp e=>fin its r' hz h' c' kp e) (by simp only [Qv]<;>omega)
 ·obtain ⟨its,r',pl,hz⟩:=I.tuple hq;have hlen:=r'.length;obtain ⟨o,ho,hc,n,hd⟩:=pl;exact call_list_seq p (.inr rfl) ho hc hd (fun h' c' kp e=>fin its r' hz h' c' kp e) (by simp only [Qv]<;>omega)
theorem Zet:Y8 X (.type "tuple") (fun xs H Q=>∃p ys,xs=[.ref p]∧((SqL X.K H p ys∧∀l,H l=none->Q (.ref l) (Zc H l (.tup ys)))∨(SqT X.K H p ys∧Q (.ref p) H))):=by
 intro pins s σ H xs us Q I r h;obtain ⟨p,ys,rfl,h⟩:=h;obtain ⟨u,rfl,rx⟩:=XE r;cases rx;rcases h with ⟨hq,q⟩|⟨hq,q⟩
 ·obtain ⟨its,r',pl,hz⟩:=I.list hq;have hlen:=r'.length;refine call_tuple_list pl.isList (fun h' kp=>?_) (by simp only [Qv]<;>omega);have I1:Inv X pins σ H { s with heap:=h' }:=I.kept (t':=s.toks) kp
  have I2:Inv X pins σ (Zc H h'.objs.size (.tup ys)) { s with heap:=h'.push { cls:=.type "tuple",data:=.seq its.toArray } } :=
   I1.laid (t':=s.toks) (fun b o e=>Qj _ e) (Qf _) (show ObjOk X.prog X.w _ _ _ (.tup ys) from ⟨hz,its,r',IsTup.new _ _⟩)
  exact ⟨.ref h'.objs.size,_,I2,rfl,q _ (I1.hok.fresh (Qf _))⟩
 ·obtain ⟨its,r',pl,hz⟩:=I.tuple hq;exact call_tuple_same pl ⟨.ref p,H,I,rfl,q⟩
def tyV (K:W.Frag) (T:String) (x:V) (H:Hp):Prop:=match x with
 |.str _=>T="str"
 |.int _=>T="int"
 |.ref p => (T="list" ∧ ∃xs, SqL K H p xs) ∨ (T="tuple" ∧ ∃o, K.lookup p=some o ∧ o.cls=.type "tuple" ∧ o.dict=none) ∨
   (T="dict"∧((∃kvs,H p=some (.dK kvs))∨∃kvs,H p=some (.dT kvs)))∨(T="set"∧∃S n,H p=some (.set S n))
 |_=>False
theorem Zly {pins:List (Addr×Obj)} {σ:St} {H:Hp} {s:Shared} {T:String} {x:V} {v:Value} (I:Inv X pins σ H s) (r:RelV x v) (ty:tyV X.K T x H) :
  s.TypeIs v T∧∀a,v=.ref a->∃ob,s.heap.get? a=some ob∧ob.dict=none:=by
 cases x with
 |str z =>
  obtain ⟨t,rfl⟩:=r;cases (show T="str" from ty);exact ⟨R1 s z t,fun _ e=>nomatch e⟩
 |int i =>
  obtain ⟨t,rfl⟩:=r;cases (show T="int" from ty);exact ⟨typeIs_int s i t,fun _ e=>nomatch e⟩
 |ref p =>
  cases r;rcases ty with ⟨rfl,xs,hq⟩|⟨rfl,o,hk,hc,hd⟩|⟨rfl,hk⟩|⟨rfl,S,n,hk⟩
  ·obtain ⟨its,_,pl,_⟩:=I.list hq;refine ⟨pl.isList.typeIs,fun a e=>?_⟩;cases e;obtain ⟨o,n,e,c,hd,_⟩:=pl;exact ⟨o,e,hd⟩
  ·refine ⟨⟨o,I.kIn p o hk,hc⟩,fun a e=>?_⟩;cases e;exact ⟨o,I.kIn _ o hk,hd⟩
  ·have z:∃o,s.heap.get? p=some o∧o.ExactDict:=by
    rcases hk with ⟨kvs,hk⟩|⟨kvs,hk⟩
    ·obtain ⟨_,_,_,_,o,_,_,e,ex,_⟩:=I.hok p _ hk;exact ⟨o,e,ex⟩
    ·obtain ⟨_,_,_,_,o,_,_,e,ex,_⟩:=I.hok p _ hk;exact ⟨o,e,ex⟩
   obtain ⟨o,e,ex⟩:=z;refine ⟨⟨o,e,ex.1⟩,fun a e2=>?_⟩;cases e2;exact ⟨o,e,ex.2.1⟩
  ·obtain ⟨o,_,_,_,e,ex,_⟩:=I.hok p _ hk;refine ⟨⟨o,e,ex.1⟩,fun a e2=>?_⟩;cases e2;exact ⟨o,e,ex.2.1⟩
 |_=>exact False.elim ty
def tBM (K:W.Frag) (T:String) (r:V->List V->Hp->VK->Prop) (to:TE) (t:TA):TE:=fun σ H Q=>to σ H fun x H1=>tyV K T x H1∧t σ H1 fun xs H2=>r x xs H2 Q
variable {o e:Expr} {es:List Expr} {to:TE} {t:TA} {name:Str} {apos cpos:Pos} {T id:String} {r:V->List V->Hp->VK->Prop}
theorem VB (pa:PlainAttrs T) (slot:Slot T name id) (hty:typeOf (.builtin id)=pure (.type "method_descriptor")) (hm:MtR X id r) (ho:PE X o to) (ha:PA X (e::es) t)
  (hbase:attributeBase o name X.env (eval o X.env)=eval o X.env:=by rfl)
  (hfew:((backTo cpos (starEach (e::es) X.env)).all (fun x=>!x.1)&&(backToKw cpos (keywordEach [] X.env)).all (fun x=>x.1.isSome)
   && decide ((e::es).length+([]:List Keyword).length+(if ([]:List Keyword).isEmpty then 0 else 1)<30))=true:=by rfl)
  (hline:(apos.endLine==cpos.line)=true:=by rfl) (hs:starEach (e::es) X.env=(false,eval e X.env)::starEach es X.env:=by rfl) (hplain:(backTo cpos (starEach es X.env)).any (·.1)=false:=by rfl) :
  PE X (.Call (.Attribute o name apos) (e::es) [] cpos) (tBM X.K T r to t):=by
 intro pins s σ H Q I h;refine wpAny_Call_method_late hbase hfew hline rfl (Zp (ho pins s σ H _ I h) fun v s1 ⟨x,H1,I1,r1,ty,q1⟩=>?_);obtain ⟨h1,h2⟩:=Zly I1 r1 ty;refine ⟨T,id,pa,slot,hty,h1,h2,?_⟩;have hA:=ha cpos pins s1 σ H1 _ I1 q1;rw [hs] at hA ⊢;refine Nh (by show (false||(backTo cpos (starEach es X.env)).any (·.1))=false;rw [hplain]<;>rfl) (Gh ?_);exact Zp hA fun us s2 ⟨vs,H2,I2,r2,q2⟩=>hm pins s2 σ H2 x vs v us Q I2 r1 r2 q2
/- xs.append(e),list.index on a module's tuple .. are MtR facts of 06m -/
end
def MtM (X:Cx) (id:String) (r:V->List V->Hp->VK->Prop):Prop :=
 ∀(pins:List (Addr×Obj)) (s:Shared) (σ:St) (H:Hp) (x:V) (xs:List V) (v:Value) (us:List Value) (Q:VK),Inv X pins σ H s->RelV x v->Vals xs us->r x xs H Q →
  wpAny (model X.prog X.w) X.A (call (.builtin id) (v::us)) (EP X pins σ Q) X.xe s
theorem Vals.one:∀{x:V} {us:List Value},Vals [x] us->∃u,us=[u]∧RelV x u
 |_,_,.cons r .nil=>⟨_,rfl,r⟩
section
variable {X:Cx} {pins:List (Addr×Obj)} {σ:St} {H:Hp} {s:Shared} {l b:Addr} {xs ys zs:List V}
theorem Inv.lset {its its':List Value} {n:Nat} {f:Array Value->Array Value} {t':Nat} (I:Inv X pins σ H s) (hH:H l=some (.lst xs))
  (e:s.heap.get? l=some { cls:=.type "list",data:=.seq its.toArray n }) (hf:f its.toArray=its'.toArray) (hv:Vals ys its') (hz:ys.length≤sizeLine) :
  Inv X pins σ (Zc H l (.lst ys)) { s with heap:=s.heap.update l (Obj.mapSeq f),toks:=t' }:=by
 have q:=PySem.IsL.update e f;rw [hf] at q;refine I.write (x:=l) (e:=l) (by rw [hH];exact trivial) (.inl rfl) (fun b' u hb hu=>(Heap.get?_update_other s.heap (Obj.mapSeq f) (QY hb)).trans hu) ⟨_,q⟩ ?_;exact ⟨hz,its',_,hv,q⟩
theorem Inv.lnew {its:List Value} {t':Nat} (I:Inv X pins σ H s) (hv:Vals ys its) (hz:ys.length≤sizeLine) :
  Inv X pins σ (Zc H s.heap.objs.size (.lst ys)) { s with heap:=s.heap.push { cls:=.type "list",data:=.seq its.toArray },toks:=t' } :=
 I.laid (fun _ _ q=>Qj _ q) (Qf _) ⟨hz,its,0,hv,Qr _ rfl⟩
theorem Inv.fresh (I:Inv X pins σ H s):H s.heap.objs.size=none:=I.hok.fresh (Qf _)
theorem Inv.lstM (I:Inv X pins σ H s) (hH:H l=some (.lst xs)):xs.length≤sizeLine∧∃(its:List Value) (n:Nat),Vals xs its∧xs.length=its.length∧s.heap.get? l=some { cls:=.type "list",data:=.seq its.toArray n }:=by
 obtain ⟨z,its,n,r,e⟩:=I.hok l _ hH;exact ⟨z,its,n,r,r.length,e⟩
end
section
variable {X:Cx}
def Zjl:V->List V->Hp->VK->Prop:=fun x vs H Q=>∃l xs y,x=.ref l∧vs=[y]∧H l=some (.lst xs)∧xs.length<sizeLine∧Q .non (Zc H l (.lst (xs++[y])))
theorem Va:MtM X "list.append" Zjl:=by
 intro pins s σ H x vs v us Q I rx rv h;obtain ⟨l,xs,y,rfl,rfl,hH,hz,q⟩:=h;cases rx;obtain ⟨u,rfl,ru⟩:=rv.one;obtain ⟨z,its,n,r,hl,e⟩:=I.lstM hH;refine call_meets F.slot_list_append ⟨_,e,rfl⟩ F.entry_list_append (F.args_list_append_2 _ _) (PySem.list_append l its.toArray n u (by rw [Qv];omega)) ⟨e,?_⟩;refine ⟨.non,_,I.lset (its':=its++[u]) hH e (by simp) (r.append (.cons ru .nil)) ?_,rfl,q⟩;rw [Qn,GI];omega
def Zmz:R2:=fun x y H Q=>∃l b xs zs,x=.ref l∧y=.ref b∧H l=some (.lst xs)∧H b=some (.lst zs)∧xs.length+zs.length≤sizeLine∧∀p,H p=none->Q (.ref p) (Zc H p (.lst (xs++zs)))
theorem ZdK:Yq X (binaryOp .Add) Zmz:=by
 intro pins s σ H x y v u Q I rx ry h;obtain ⟨l,b,xs,zs,rfl,rfl,hH,hB,hz,q⟩:=h;cases rx;cases ry;obtain ⟨z,its,n,r,hl,e⟩:=I.lstM hH;obtain ⟨z2,its2,n2,r2,hl2,e2⟩:=I.lstM hB;refine PySem.P.add_list e e2 ?_ (by rw [Qv,Qv];omega);have ea:its.toArray++its2.toArray=(its++its2).toArray:=by simp
 rw [ea];exact ⟨.ref _,_,I.lnew (t':=s.toks) (r.append r2) (by rw [Qn];omega),rfl,q _ I.fresh⟩
end
section
variable {prog:Program} {w:World} {A:Around} {E:Value->Shared->Prop} {s:Shared}
set_option maxRecDepth 100000 in
end
section
variable {X:Cx}
end
section
variable {κ:Type} [DecidableEq κ]
noncomputable def ZI (kvs:List (κ×V)) (k:κ):Option V:=(kvs.find? fun kv=>decide (kv.1=k)).map (·.2)
noncomputable def Yp (kvs:List (κ×V)) (k:κ) (v:V):List (κ×V) :=
 if (kvs.any fun kv=>decide (kv.1=k))=true then kvs.map (fun kv=>if kv.1=k then (kv.1,v) else kv) else kvs++[(k,v)]
theorem XV {p:κ×V} {r:List (κ×V)} {k:κ} (e:p.1=k):ZI (p::r) k=some p.2:=by simp [ZI,Rw,e]
theorem X0 {p:κ×V} {r:List (κ×V)} {k:κ} (e:¬p.1=k):ZI (p::r) k=ZI r k:=by simp [ZI,Rw,e]
theorem ZdE (k:κ):∀kvs:List (κ×V),(kvs.any fun kv=>decide (kv.1=k))=(ZI kvs k).isSome
 |[]=>rfl
 |p::r=>by
  rw [Rg];by_cases e:p.1=k
  ·simp only [XV e,Qw e,Bool.true_or,Option.isSome_some]
  ·rw [X0 e,Qm e,Bool.false_or];exact ZdE k r
theorem Zd7 (kvs:List (κ×V)) (k:κ) (v:V):(Yp kvs k v).length≤kvs.length+1:=by
 unfold Yp;split
 ·rw [Qd];omega
 ·rw [Qn,QK,Ni];omega
theorem ZaL {kvs:List (κ×V)} {k:κ} (v:V) (h:ZI kvs k=none):Yp kvs k v=kvs++[(k,v)]:=by
 unfold Yp;rw [ZdE,h];exact Qa (by decide)
theorem RelO.isSome_eq {o:Option V} {u:Option Value} (r:RelO o u):o.isSome=u.isSome:=by
 cases o with
 |none=>cases u with
  |none=>rfl
  |some _=>exact (show False from r).elim
 |some _=>cases u with
  |none=>exact (show False from r).elim
  |some _=>rfl
theorem RelO.getD {o:Option V} {u:Option Value} {d:V} {d':Value} (r:RelO o u) (rd:RelV d d'):RelV (o.getD d) (u.getD d'):=by
 cases o with
 |none=>cases u with
  |none=>exact rd
  |some _=>exact (show False from r).elim
 |some _=>cases u with
  |none=>exact (show False from r).elim
  |some _=>exact r
theorem KV.val {kvs:List (κ×V)} {vs:List (κ×Value)} (r:KV kvs vs) (k:κ):RelO (ZI kvs k) (valueAt vs k):=by
 unfold KV at r
 induction r with
 |nil=>exact True.intro
 |@cons p q ps qs h t ih =>
  obtain ⟨h1,h2⟩:=h;by_cases e:p.1=k
  ·have e':q.1=k:=h1.symm.trans e;have b:valueAt (q::qs) k=some q.2:=by simp [valueAt,Rw,e']
   rw [XV e,b];exact h2
  ·have e':¬q.1=k:=fun z=>e (h1.trans z);have b:valueAt (q::qs) k=valueAt qs k:=by simp [valueAt,Rw,e']
   rw [X0 e,b];exact ih
theorem KV.any {kvs:List (κ×V)} {vs:List (κ×Value)} (r:KV kvs vs) (k:κ):(kvs.any fun kv=>decide (kv.1=k))=vs.any fun kv=>decide (kv.1=k):=by
 unfold KV at r
 induction r with
 |nil=>rfl
 |cons h t ih=>rw [Rg,Rg,ih,h.1]
theorem KV.repl {kvs:List (κ×V)} {vs:List (κ×Value)} (r:KV kvs vs) (k:κ) {y:V} {u:Value} (ry:RelV y u) :
  KV (kvs.map fun kv=>if kv.1=k then (kv.1,y) else kv) (vs.map fun kv=>if kv.1=k then (kv.1,u) else kv):=by
 unfold KV at r ⊢
 induction r with
 |nil=>exact .nil
 |@cons p q ps qs h t ih =>
  rw [Qt,Qt];refine .cons ?_ ih;obtain ⟨h1,h2⟩:=h;by_cases e:p.1=k
  ·rw [Qb e,Qb (h1.symm.trans e)];exact ⟨h1,ry⟩
  ·rw [Qa e,Qa (fun z=>e (h1.trans z))];exact ⟨h1,h2⟩
theorem KV.put {kvs:List (κ×V)} {vs:List (κ×Value)} (r:KV kvs vs) (k:κ) {y:V} {u:Value} (ry:RelV y u):KV (Yp kvs k y) (stored vs k u):=by
 unfold Yp stored;rw [r.any k];by_cases e:(vs.any fun kv=>decide (kv.1=k))=true
 ·rw [Qb e,Qb e];exact r.repl k ry
 ·rw [Qa e,Qa e];exact Paired.snoc r ⟨rfl,ry⟩
theorem KV.length {kvs:List (κ×V)} {vs:List (κ×Value)} (r:KV kvs vs):kvs.length=vs.length:=Gx r
end
theorem Wg {P:Program} {w:World} {k:Zj} {u:Value} (r:RelV (kV k) u):(Yg P w).is k u=true:=by
 cases k with
 |inl i=>obtain ⟨t,e⟩:=(show ∃t,u=Value.int i t from r);subst e;exact Zmm P w i t
 |inr x=>obtain ⟨t,e⟩:=(show ∃t,u=Value.str x t from r);subst e;exact Zmi P w x t
theorem Zhu {P:Program} {w:World}:∀{ks:List Zj} {us:List Value},Vals (ks.map kV) us->ItemsAre (Yg P w) ks us
 |[],_,r=>by rw [Gf] at r;cases r;exact .nil
 |k::ks,_,r=>by
  rw [Qt] at r;cases r with
  |cons h t=>exact .cons (Wg h) (Zhu t)
abbrev KT (H:Hp):List (List Zj×V)->List (List Zj×Addr×Value)->Prop:=Paired fun p q=>p.1=q.1∧H q.2.1=some (.tup (p.1.map kV))∧RelV p.2 q.2.2
theorem KT.val {H:Hp} {kvs:List (List Zj×V)} {xs:List (List Zj×Addr×Value)} (r:KT H kvs xs) (k:List Zj):RelO (ZI kvs k) ((atKey xs k).map (·.2)):=by
 induction r with
 |nil=>exact True.intro
 |@cons p q ps qs h t ih =>
  obtain ⟨h1,_,h2⟩:=h;by_cases e:p.1=k
  ·have e':q.1=k:=h1.symm.trans e;have b:atKey (q::qs) k=some q.2:=by simp [atKey,Rw,e']
   rw [XV e,b];exact h2
  ·have e':¬q.1=k:=fun z=>e (h1.trans z);have b:atKey (q::qs) k=atKey qs k:=by simp [atKey,Rw,e']
   rw [X0 e,b];exact ih
theorem KT.repl {H:Hp} {kvs:List (List Zj×V)} {xs:List (List Zj×Addr×Value)} (r:KT H kvs xs) (k:List Zj) {y:V} {u:Value} (ry:RelV y u) :
  KT H (kvs.map fun kv=>if kv.1=k then (kv.1,y) else kv) (xs.map (putAt k u)):=by
 induction r with
 |nil=>exact .nil
 |@cons p q ps qs h t ih =>
  rw [Qt,Qt];refine .cons ?_ ih;obtain ⟨h1,h2,h3⟩:=h;unfold putAt;by_cases e:p.1=k
  ·rw [Qb e,Qb (h1.symm.trans e)];exact ⟨h1,h2,ry⟩
  ·rw [Qa e,Qa (fun z=>e (h1.trans z))];exact ⟨h1,h2,h3⟩
theorem KT.put {H:Hp} {kvs:List (List Zj×V)} {xs:List (List Zj×Addr×Value)} (r:KT H kvs xs) (k:List Zj) {b:Addr} {y:V} {u:Value} (hb:H b=some (.tup (k.map kV))) (ry:RelV y u) :
  KT H (Yp kvs k y) (storedH xs k b u):=by
 have e:(kvs.any fun kv=>decide (kv.1=k))=(atKey xs k).isSome:=by
  rw [ZdE,(r.val k).isSome_eq,Nj]
 unfold Yp storedH;rw [e];by_cases q:(atKey xs k).isSome=true
 ·rw [Qb q,Qb q];exact r.repl k ry
 ·rw [Qa q,Qa q];exact Paired.snoc r ⟨rfl,hb,ry⟩
theorem KT.keeps {H H':Hp} {kvs:List (List Zj×V)} {xs:List (List Zj×Addr×Value)} (r:KT H kvs xs) (ht:∀b ys,H b=some (.tup ys)->H' b=some (.tup ys)):KT H' kvs xs :=
 Paired.mapP r fun _ _ z=>⟨z.1,ht _ _ z.2.1,z.2.2⟩
section
variable {P:Program} {w:World} {H:Hp} {h:Heap} {a:Addr}
theorem Zgg {u:HO} (ok:HOk P w H h) (e:Rd H a u):ObjOk P w H h a u:=e.ok ok
theorem VL {kvs:List (Zj×V)} (ok:HOk P w H h) (e:Rd H a (.dK kvs)):kvs.length≤sizeLine∧(a==sysModules)=false∧∃vs,KV kvs vs∧h.DictOf (Yg P w) a vs :=
 show ObjOk P w H h a (.dK kvs) from Zgg ok e
theorem Za1 {kvs:List (Zj×V)} (ok:HOk P w H h) (e:H a=some (.dK kvs)):kvs.length≤sizeLine∧(a==sysModules)=false∧∃vs,KV kvs vs∧h.DictOf (Yg P w) a vs:=VL ok (.inl e)
theorem V9 {ks:List Zj} (ok:HOk P w H h) (e:H a=some (.tup (ks.map kV))):(tupleKind (Yg P w)).is h ks a:=by
 obtain ⟨_,its,r,o,h1,h2,n,h3⟩:=(show ObjOk P w H h a (.tup (ks.map kV)) from ok a _ e);exact ⟨o,its.toArray,n,h1,h2,h3,by simpa using Zhu r⟩
theorem Uz {kvs:List (List Zj×V)} (ok:HOk P w H h) (e:Rd H a (.dT kvs)):kvs.length≤sizeLine∧(a==sysModules)=false ∧
  ∃xs,KT H kvs xs∧h.DictOfH (tupleKind (Yg P w)) a xs:=by
 obtain ⟨z,y,xs,r,o,es,ep,h1,h2,h3,h4,h5⟩:=(show ObjOk P w H h a (.dT kvs) from Zgg ok e);refine ⟨z,y,xs,r,o,es,ep,h1,h2,h3,h4,fun x hx=>?_,h5⟩
 have all:∀{l:List (List Zj×V)} {m:List (List Zj×Addr×Value)},KT H l m->∀x∈m,(tupleKind (Yg P w)).is h x.1 x.2.1:=by
  intro l m q
  induction q with
  |nil=>intro x hx;exact nomatch hx
  |@cons p q ps qs hq t ih =>
   intro x hx;rcases Qh.mp hx with e|hx
   ·subst e;exact V9 ok (by rw [←hq.1];exact hq.2.1)
   ·exact ih x hx
 exact all r x hx
theorem ZbK {kvs:List (List Zj×V)} (ok:HOk P w H h) (e:H a=some (.dT kvs)):kvs.length≤sizeLine∧(a==sysModules)=false ∧
  ∃xs,KT H kvs xs∧h.DictOfH (tupleKind (Yg P w)) a xs:=Uz ok (.inl e)
end
def DGet (H:Hp) (a:Addr) (y:V) (r:Option V):Prop :=
 (∃kvs k,Rd H a (.dK kvs)∧y=kV k∧r=ZI kvs k)∨∃kvs k b,Rd H a (.dT kvs)∧y=.ref b∧H b=some (.tup (k.map kV))∧r=ZI kvs k
def DPut (H:Hp) (a:Addr) (y v:V) (H':Hp):Prop :=
 (∃kvs k,H a=some (.dK kvs)∧y=kV k∧kvs.length<sizeLine∧H'=Zc H a (.dK (Yp kvs k v))) ∨
 ∃kvs k b,H a=some (.dT kvs)∧y=.ref b∧H b=some (.tup (k.map kV))∧kvs.length<sizeLine∧H'=Zc H a (.dT (Yp kvs k v))
theorem DGet.k {H:Hp} {a:Addr} {kvs:List (Zj×V)} {k:Zj} (e:H a=some (.dK kvs)):DGet H a (kV k) (ZI kvs k):=.inl ⟨kvs,k,.inl e,rfl,rfl⟩
theorem DGet.t {H:Hp} {a b:Addr} {kvs:List (List Zj×V)} {k:List Zj} (e:H a=some (.dT kvs)) (eb:H b=some (.tup (k.map kV))):DGet H a (.ref b) (ZI kvs k):=.inr ⟨kvs,k,b,.inl e,rfl,eb,rfl⟩
theorem DPut.k {H:Hp} {a:Addr} {kvs:List (Zj×V)} {k:Zj} {v:V} (e:H a=some (.dK kvs)) (hl:kvs.length<sizeLine):DPut H a (kV k) v (Zc H a (.dK (Yp kvs k v))):=.inl ⟨kvs,k,e,rfl,hl,rfl⟩
theorem DPut.t {H:Hp} {a b:Addr} {kvs:List (List Zj×V)} {k:List Zj} {v:V} (e:H a=some (.dT kvs)) (eb:H b=some (.tup (k.map kV))) (hl:kvs.length<sizeLine) :
  DPut H a (.ref b) v (Zc H a (.dT (Yp kvs k v))):=.inr ⟨kvs,k,b,e,rfl,eb,hl,rfl⟩
section
variable {X:Cx} {pins:List (Addr×Obj)} {σ:St} {H:Hp} {s:Shared} {a:Addr} {y v:V} {u r:Value} {o:Option V} {A:Around} {E:Value->Shared->Prop}
theorem Inv.big (I:Inv X pins σ H s):sysModules<s.heap.objs.size:=by
 have h:mainGlobals<s.heap.objs.size:=(I.mod.glob.keeps I.bk).lt;exact Nat.lt_trans (by decide) h
theorem Zle {Q:Value->Shared->Prop} (hu:A.units+1<cLine) (I:Inv X pins σ H s) (g:DGet H a y (some v)) (ry:RelV y u) (h:∀w' s',Inv X pins σ H s'->RelV v w'->Q w' s') :
  wpAny (model X.prog X.w) A (getItem (.ref a) u) Q E s:=by
 rcases g with ⟨kvs,k,e,ey,l⟩|⟨kvs,k,b,e,ey,eb,l⟩
 ·subst ey;obtain ⟨z,hd,vs,rel,dd⟩:=VL I.hok e;obtain ⟨w',hw,rw'⟩:=RelO.some_of (v:=v) (o:=valueAt vs k) (by rw [l];exact rel.val k);exact wpAny_getItem_of (Wg ry) dd.mapOf hw (h w' _ (I.tok _) rw')
 ·subst ey;cases (show u=Value.ref b from ry);obtain ⟨z,hd,xs,rel,dd⟩:=Uz I.hok e;obtain ⟨w',hw,rw'⟩:=RelO.some_of (v:=v) (o:=(atKey xs k).map (·.2)) (by rw [l];exact rel.val k);obtain ⟨p,hp,hp2⟩:=QQ.mp hw;refine wpAny_getItem_heap (R3 hu) (V9 I.hok eb) dd hp ?_;rw [hp2];exact h w' _ (I.tok _) rw'
theorem Zkb {Q:Value->Shared->Prop} (hu:A.units+1<cLine) (I:Inv X pins σ H s) (g:DGet H a y o) (ry:RelV y u) (h:∀s',Inv X pins σ H s'->Q (.bool o.isSome) s') :
  wpAny (model X.prog X.w) A (compareOp .In u (.ref a)) Q E s:=by
 rcases g with ⟨kvs,k,e,ey,l⟩|⟨kvs,k,b,e,ey,eb,l⟩
 ·subst ey;obtain ⟨z,hd,vs,rel,dd⟩:=VL I.hok e;refine wpAny_in_of (Wg ry) hd dd.mapOf ?_;rw [←(rel.val k).isSome_eq,←l];exact h _ (I.tok _)
 ·subst ey;cases (show u=Value.ref b from ry);obtain ⟨z,hd,xs,rel,dd⟩:=Uz I.hok e;refine wpAny_in_heap (R3 hu) (V9 I.hok eb) hd dd ?_;have q:=(rel.val k).isSome_eq;rw [Nj] at q;rw [←q,←l];exact h _ (I.tok _)
theorem Zo6 {Q:Value->Shared->Prop} (hu:A.units+1<cLine) (I:Inv X pins σ H s) (g:DGet H a y o) (ry:RelV y u) (h:∀s',Inv X pins σ H s'->Q (.bool (!o.isSome)) s') :
  wpAny (model X.prog X.w) A (compareOp .NotIn u (.ref a)) Q E s:=by
 rcases g with ⟨kvs,k,e,ey,l⟩|⟨kvs,k,b,e,ey,eb,l⟩
 ·subst ey;obtain ⟨z,hd,vs,rel,dd⟩:=VL I.hok e;refine wpAny_notIn_of (Wg ry) hd dd.mapOf ?_;rw [←(rel.val k).isSome_eq,←l];exact h _ (I.tok _)
 ·subst ey;cases (show u=Value.ref b from ry);obtain ⟨z,hd,xs,rel,dd⟩:=Uz I.hok e;refine wpAny_notIn_heap (R3 hu) (V9 I.hok eb) hd dd ?_;have q:=(rel.val k).isSome_eq;rw [Nj] at q;rw [←q,←l];exact h _ (I.tok _)
theorem Zbb {h':Heap} {t':Nat} {ob:HO} (I:Inv X pins σ H s) (mu:Mut (H a)) (hs:Heap.SameBut a s.heap h') (he:∃q,h'.get? a=some q) (new:ObjOk X.prog X.w (Zc H a ob) h' a ob) :
  Inv X pins σ (Zc H a ob) { s with heap:=h',toks:=t' } :=
 I.write (x:=a) (e:=a) mu (.inl rfl) (fun b q hb z=>(hs.2 b hb).trans z) he new
theorem Zg0 {P:Program} {w:World} {H':Hp} {h':Heap} {kvs:List (Zj×V)} {vs:List (Zj×Value)} (z:kvs.length≤sizeLine) (hd:(a==sysModules)=false) (rel:KV kvs vs) (dd:h'.DictOf (Yg P w) a vs) :
  ObjOk P w H' h' a (.dK kvs):=⟨z,hd,vs,rel,dd⟩
theorem ZjE {H':Hp} {Q:Unit->Shared->Prop} (hu:A.units+1<cLine) (I:Inv X pins σ H s) (g:DPut H a y v H') (ry:RelV y u) (rv:RelV v r) (h:∀s',Inv X pins σ H' s'->Q () s') :
  wpAny (model X.prog X.w) A (setItem (.ref a) u r) Q E s:=by
 rcases g with ⟨kvs,k,e,ey,l,eH⟩|⟨kvs,k,b,e,ey,eb,l,eH⟩
 ·subst ey eH;obtain ⟨z,hd,vs,rel,dd⟩:=Za1 I.hok e;have hz:vs.length≤sizeLine:=by rw [←rel.length];exact z
  have hl:(Yp kvs k v).length≤sizeLine:=by have:=Zd7 kvs k v;omega
  refine wpAny_setItem_pairs (hsz:=hz) (Wg ry) dd fun h' dd' hs=>h _ ?_;have he:∃q,h'.get? a=some q:=let ⟨q,_,_,hq,_⟩:=dd';⟨q,hq⟩;exact Zbb I (by rw [e];exact True.intro) hs he (Zg0 hl hd (rel.put k rv) dd')
 ·subst ey eH;cases (show u=Value.ref b from ry);obtain ⟨z,hd,xs,rel,dd⟩:=ZbK I.hok e;have hz:xs.length≤sizeLine:=by rw [←Gx rel];exact z
  have hl:(Yp kvs k v).length≤sizeLine:=by have:=Zd7 kvs k v;omega
  refine wpAny_setItem_heap (hsz:=hz) (R3 hu) (V9 I.hok eb) dd fun h' dd' hs=>h _ ?_;obtain ⟨q,es,ep,hq,h2,h3,h4,_,h5⟩:=dd';refine Zbb I (by rw [e];exact True.intro) hs ⟨q,hq⟩ ⟨hl,hd,_,(rel.put k eb rv).keeps fun c ys ec=>?_,q,es,ep,hq,h2,h3,h4,h5⟩;rw [Zd (ZfT ec e (fun z=>nomatch z))];exact ec
end
section
variable {X:Cx} {pins:List (Addr×Obj)} {σ:St} {H:Hp} {s:Shared} {a:Addr} {kvs:List (Zj×V)} {k:Zj} {u:Value} {A:Around} {E:Value->Shared->Prop}
theorem Zii {Q:Value->Shared->Prop} (I:Inv X pins σ H s) (e:Rd H a (.dK kvs)) (h:∀t s',Inv X pins σ H s'->Q (.int kvs.length t) s'):wpAny (model X.prog X.w) A (call (.builtin "len") [.ref a]) Q E s:=by
 obtain ⟨z,hd,vs,rel,dd⟩:=VL I.hok e;refine call_len_dict hd dd (by rw [←rel.length];rw [RZ] at z;omega) ?_;rw [←rel.length];exact h _ _ (I.tok _)
end
def Zdv (i:Expr):Prop:=∀ov iv,subscripted i false ov iv=operate [ov,iv] (getItem ov iv)
theorem ZhJ {prog:Program} {w:World} {A:Around} {E:Value->Shared->Prop} {s:Shared} {env:Env} {value slice:Expr} {pos:Pos} {T id:String} {Q:Value->Shared->Prop}
  (hl:typeLookup (.type T) "__getitem__"=pure (some (.builtin id))) (hs:Zdv slice)
  (h:wpAny (model prog w) A (eval value env) (fun o s₁=>wpAny (model prog w) A (eval slice env) (fun i s₂=>s₂.TypeIs o T∧wpAny (model prog w) A (getItem o i) Q E s₂) E s₁) E s) :
  wpAny (model prog w) A (eval (.Subscript value slice pos) env) Q E s:=by
 refine Subscript_ (Q2 h (fun o s₁ h₁=>Q2 h₁ (fun i s₂ h₂=>?_) fun _ _ x=>x) fun _ _ x=>x);obtain ⟨hT,h₂⟩:=h₂;unfold subscriptTail;refine Qc ?_;rw [getitemInPython_of_ne hT.not_modules];refine Qc (GJ hT hl ?_)
 have fin:wpAny (model prog w) A (subscripted slice false o i) (fun r s₃=>wpAny (model prog w) A (letTemporaryGo value o r >>= fun _=>pure r) Q E s₃) E s₂:=by
  rw [hs o i];exact wpAny_operating (Q2 h₂ (fun r s₃ h₃=>Qc (wpAny_letTemporaryGo (Qe h₃))) fun _ _ x=>x)
 first
  |exact Qe (Qc fin)
  |exact Qc (Qe (Qc fin))
  |exact Qc fin
theorem Zin {X:Cx} {pins:List (Addr×Obj)} {σ:St} {H:Hp} {s:Shared} {a:Addr} {y:V} {o:Option V} (I:Inv X pins σ H s) (g:DGet H a y o):s.TypeIs (.ref a) "dict":=by
 rcases g with ⟨kvs,k,e,_,_⟩|⟨kvs,k,b,e,_,_,_⟩
 ·obtain ⟨_,_,vs,_,dd⟩:=VL I.hok e;exact dd.typeIs
 ·obtain ⟨_,_,xs,_,dd⟩:=Uz I.hok e;exact dd.typeIs
def Zfg (td ty:TE):TE:=fun σ H Q=>td σ H fun x H1=>ty σ H1 fun y H2=>∃a v,x=.ref a∧DGet H2 a y (some v)∧Q v H2
def Znq (ty td:TE):TE:=fun σ H Q=>ty σ H fun y H1=>td σ H1 fun x H2=>∃a o,x=.ref a∧DGet H2 a y o∧Q (.bl o.isSome) H2
def ZlN (ty td:TE):TE:=fun σ H Q=>ty σ H fun y H1=>td σ H1 fun x H2=>∃a o,x=.ref a∧DGet H2 a y o∧Q (.bl (!o.isSome)) H2
def Znl (td ty tv:TE):TS:=fun D σ H=>tv σ H fun v H1=>td σ H1 fun x H2=>ty σ H2 fun y H3=>∃a H4,x=.ref a∧DPut H3 a y v H4∧D.nx σ H4
section
variable {X:Cx} {o i e value:Expr} {pos pos' tpos:Pos} {td ty tv:TE}
theorem Zan (hu:X.A.units+1<cLine) (ho:PE X o td) (hi:PE X i ty) (hs:Zdv i):PE X (.Subscript o i pos) (Zfg td ty):=by
 intro pins s σ H Q I h;refine ZhJ NP.lookup hs (Zp (ho pins s σ H _ I h) fun u s1 ⟨x,H1,I1,rx,q1⟩=>Zp (hi pins s1 σ H1 _ I1 q1) fun iv s2 ⟨y,H2,I2,ry,a,v,ex,g,q2⟩=>?_);subst ex;obtain rfl:u=Value.ref a:=rx;exact ⟨Zin I2 g,Zle hu I2 g ry fun w' s3 I3 rw'=>⟨v,H2,I3,rw',q2⟩⟩
theorem Zfw (hu:X.A.units+1<cLine) (hi:PE X i ty) (ho:PE X o td):PC X .In i o (Znq ty td):=by
 intro pins s σ H Q I h;refine Zp (hi pins s σ H _ I h) fun iv s1 ⟨y,H1,I1,ry,q1⟩=>Zp (ho pins s1 σ H1 _ I1 q1) fun u s2 ⟨x,H2,I2,rx,a,ov,ex,g,q2⟩=>?_;subst ex;obtain rfl:u=Value.ref a:=rx;exact Zkb hu I2 g ry fun s3 I3=>⟨.bl ov.isSome,H2,I3,rfl,q2⟩
theorem Zef (hu:X.A.units+1<cLine) (hi:PE X i ty) (ho:PE X o td):PC X .NotIn i o (ZlN ty td):=by
 intro pins s σ H Q I h;refine Zp (hi pins s σ H _ I h) fun iv s1 ⟨y,H1,I1,ry,q1⟩=>Zp (ho pins s1 σ H1 _ I1 q1) fun u s2 ⟨x,H2,I2,rx,a,ov,ex,g,q2⟩=>?_;subst ex;obtain rfl:u=Value.ref a:=rx;exact Zo6 hu I2 g ry fun s3 I3=>⟨.bl (!ov.isSome),H2,I3,rfl,q2⟩
theorem WY (hu:X.A.units+1<cLine) (ho:PE X o td) (hi:PE X i ty) (hv:PE X value tv) (hs:swapsWith value (some (.Subscript o i pos')) pos.line X.env=pure false) :
  PS X (.Assign [.Subscript o i pos'] value pos) (Znl td ty tv):=by
 intro pins s σ H D I h;refine wpAny_Assign_Subscript (Zp (hv pins s σ H _ I h) fun r s1 ⟨v,H1,I1,rv,q1⟩=>Zp (ho pins s1 σ H1 _ I1 q1) fun u s2 ⟨x,H2,I2,rx,q2⟩=>Zp (hi pins s2 σ H2 _ I2 q2) fun iv s3 ⟨y,H3,I3,ry,a,H4,ex,g,q3⟩=>?_) hs;subst ex;obtain rfl:u=Value.ref a:=rx;exact ZjE hu I3 g ry rv fun s4 I4=>⟨σ,H4,I4,q3⟩
end
theorem Zfy {P:Program} {w:World} {H:Hp} (h:Heap) (hb:sysModules<h.objs.size):ObjOk P w H (h.push { cls:=.type "dict",data:=.dict #[] }) h.objs.size (.dK []) :=
 ⟨QZ _,Ro.mpr (QY (QB hb)),[],.nil,Heap.DictOf.new h⟩
theorem Zlw {P:Program} {w:World} {H:Hp} (h:Heap) (hb:sysModules<h.objs.size):ObjOk P w H (h.push { cls:=.type "dict",data:=.dict #[] }) h.objs.size (.dT []) :=
 ⟨QZ _,Ro.mpr (QY (QB hb)),[],.nil,_,#[],0,Qr _ rfl,⟨rfl,rfl,rfl⟩,rfl,rfl,Nk⟩
def ZoJ:TE:=fun _ H Q=>∀p,H p=none->Q (.ref p) (Zc H p (.dK []))
def ZjL:TE:=fun _ H Q=>∀p,H p=none->Q (.ref p) (Zc H p (.dT []))
section
variable {X:Cx} {pos:Pos}
theorem ZaJ:PE X (.Dict [] [] pos) ZoJ:=fun pins s σ H Q I h =>
 wpAny_Dict_empty ⟨.ref s.heap.objs.size,_,I.laid (a:=s.heap.objs.size) (o:=.dK []) (t':=s.toks) (fun _ _ q=>Qj _ q) (Qf _) (Zfy s.heap I.big),rfl,h _ (I.hok.fresh (Qf _))⟩
theorem Zah:PE X (.Dict [] [] pos) ZjL:=fun pins s σ H Q I h =>
 wpAny_Dict_empty ⟨.ref s.heap.objs.size,_,I.laid (a:=s.heap.objs.size) (o:=.dT []) (t':=s.toks) (fun _ _ q=>Qj _ q) (Qf _) (Zlw s.heap I.big),rfl,h _ (I.hok.fresh (Qf _))⟩
end
def JC:List (TE×TE)->St->Hp->(List (V×V)->Hp->Prop)->Prop
 |[],_,H,Q=>Q [] H
 | (tk,tv)::r,σ,H,Q=>tk σ H fun x H1=>tv σ H1 fun y H2=>JC r σ H2 fun ps H3=>Q ((x,y)::ps) H3
abbrev VV:List (V×V)->List (Value×Value)->Prop:=Paired fun p q=>RelV p.1 q.1∧RelV p.2 q.2
def PPs (X:Cx) (pos:Pos) (keys:List (Option Expr)) (values:List Expr) (trs:List (TE×TE)):Prop :=
 ∀(pins:List (Addr×Obj)) (s:Shared) (σ:St) (H:Hp) (Q:List (V×V)->Hp->Prop),Inv X pins σ H s->JC trs σ H Q →
  wpAny (model X.prog X.w) X.A (evalPairs (pairTrees keys values X.env pos)) (fun vs s'=>∃ps H',Inv X pins σ H' s'∧VV ps vs∧Q ps H') X.xe s
theorem Vb {X:Cx} {pos:Pos}:PPs X pos [] [] []:=fun pins s σ H Q I h=>pairTrees_nil_walk ⟨[],H,I,.nil,h⟩
theorem Z7 {X:Cx} {pos:Pos} {k v:Expr} {ks:List (Option Expr)} {vs:List Expr} {tk tv:TE} {trs:List (TE×TE)} (hk:PE X k tk) (hv:PE X v tv) (hr:PPs X pos ks vs trs) :
  PPs X pos (some k::ks) (v::vs) ((tk,tv)::trs):=fun pins s σ H Q I h =>
 pairTrees_cons_walk (Zp (hk pins s σ H _ I h) fun u s1 ⟨x,H1,I1,rx,q1⟩=>Zp (hv pins s1 σ H1 _ I1 q1) fun w2 s2 ⟨y,H2,I2,ry,q2⟩ =>
  Zp (hr pins s2 σ H2 _ I2 q2) fun ws s3 ⟨ps,H3,I3,rel,q3⟩=>⟨(x,y)::ps,H3,I3,.cons ⟨rx,ry⟩ rel,q3⟩)
noncomputable def Xj (kvs more:List (Zj×V)):List (Zj×V):=more.foldl (fun acc kv=>Yp acc kv.1 kv.2) kvs
theorem KV.merge:∀{more:List (Zj×V)} {rs:List (Zj×Value)} {kvs:List (Zj×V)} {vs:List (Zj×Value)},KV more rs->KV kvs vs->KV (Xj kvs more) (merged vs rs):=by
 intro more rs kvs vs r;unfold KV at r
 induction r generalizing kvs vs with
 |nil=>intro q;exact q
 |@cons p q ps qs h t ih =>
  intro r0
  have e:KV (Yp kvs p.1 p.2) (stored vs q.1 q.2):=by
   have:=r0.put p.1 h.2;rw [←h.1];exact this
  exact ih e
theorem ZgW:∀(more kvs:List (Zj×V)),(Xj kvs more).length≤kvs.length+more.length
 |[],kvs=>by show kvs.length≤kvs.length+0;omega
 |p::r,kvs=>by
  have h1:=ZgW r (Yp kvs p.1 p.2);have h2:=Zd7 kvs p.1 p.2;show (Xj (Yp kvs p.1 p.2) r).length≤_;rw [QK];omega
theorem ZeG {P:Program} {w:World}:∀{kvs:List (Zj×V)} {ws:List (Value×Value)},VV (kvs.map fun kv=>(kV kv.1,kv.2)) ws->∃rs,Carries (Yg P w) ws rs∧KV kvs rs
 |[],_,r=>by rw [Gf] at r;cases r;exact ⟨[],True.intro,.nil⟩
 |p::kvs,_,r=>by
  rw [Qt] at r;cases r with
  |@cons a b as bs h t =>
   obtain ⟨rs,c,q⟩:=ZeG (P:=P) (w:=w) t;obtain ⟨b1,b2⟩:=b;exact ⟨(p.1,b2)::rs,⟨Wg h.1,rfl,c⟩,.cons ⟨rfl,h.2⟩ q⟩
def ZaE (trs:List (TE×TE)):TE:=fun σ H Q=>∀p,H p=none->JC trs σ (Zc H p (.dK [])) fun ps H2=>H2 p=some (.dK [])∧∃kvs:List (Zj×V),ps=kvs.map (fun kv=>(kV kv.1,kv.2))∧kvs.length≤15∧Q (.ref p) (Zc H2 p (.dK (Xj [] kvs)))
theorem W9 {X:Cx} {pos:Pos} {keys:List (Option Expr)} {values:List Expr} {trs:List (TE×TE)} (h:PPs X pos keys values trs) (hall:keys.all (·.isSome)=true) (hl:keys.length=values.length) (h0:keys≠[])
  (h15:keys.length≤15):PE X (.Dict keys values pos) (ZaE trs):=by
 intro pins s σ H Q I q;have hn:=I.hok.fresh (Qf s.heap.objs.size);have I1:=I.laid (a:=s.heap.objs.size) (o:=.dK []) (h':=s.heap.push { cls:=.type "dict",data:=.dict #[] }) (t':=s.toks) (fun _ _ q=>Qj _ q) (Qf _) (Zfy s.heap I.big);refine wpAny_Dict_walk (knd:=Yg X.prog X.w) hall hl h0 h15 (Zp (h pins _ σ _ _ I1 (q _ hn)) fun ws s2 ⟨ps,H2,I2,rel,e,kvs,ep,lk,q2⟩=>?_);subst ep;obtain ⟨rs,c,rk⟩:=ZeG (P:=X.prog) (w:=X.w) rel;obtain ⟨z,hd,vs0,r0,dd⟩:=Za1 I2.hok e;cases r0;refine ⟨rs,c,dd,fun h' dd' hs=>⟨.ref s.heap.objs.size,_,?_,rfl,q2⟩⟩
 have hz:(Xj [] kvs).length≤sizeLine:=by
  have h1:=ZgW kvs [];rw [Ni] at h1;rw [RZ];omega
 have he:∃q,h'.get? s.heap.objs.size=some q:=let ⟨q,_,_,hq,_⟩:=dd';⟨q,hq⟩;exact Zbb I2 (by rw [e];exact True.intro) hs he (Zg0 hz hd (rk.merge .nil) dd')
structure M2 (X:Cx) (o:Expr) (m:Str) (apos:Pos) (e f:Expr) (cpos:Pos):Prop where
 base:attributeBase o m X.env (eval o X.env)=eval o X.env
 few:((backTo cpos (starEach [e,f] X.env)).all (fun x=>!x.1)&&(backToKw cpos (keywordEach [] X.env)).all (fun x=>x.1.isSome)
  && decide (([e,f]:List Expr).length+([]:List Keyword).length+(if ([]:List Keyword).isEmpty then 0 else 1)<30))=true
 line:(apos.endLine==cpos.line)=true
 trees:backTo cpos (starEach [e,f] X.env)=[(false,eval e X.env),(false,eval f X.env)]
def IsD (H:Hp) (a:Addr):Prop:=(∃kvs,Rd H a (.dK kvs))∨∃kvs,Rd H a (.dT kvs)
theorem Zgt {X:Cx} {pins:List (Addr×Obj)} {σ:St} {H:Hp} {s:Shared} {a:Addr} (I:Inv X pins σ H s) (d:IsD H a) :
  s.TypeIs (.ref a) "dict"∧(∀b,Value.ref a=.ref b->∃ob,s.heap.get? b=some ob∧ob.dict=none)∧(a==sysModules)=false:=by
 rcases d with ⟨kvs,e⟩|⟨kvs,e⟩
 ·obtain ⟨_,hd,vs,_,dd⟩:=VL I.hok e;refine ⟨dd.typeIs,fun b q=>?_,hd⟩;cases q;obtain ⟨ob,_,_,h1,h2,_⟩:=dd;exact ⟨ob,h1,h2.2.1⟩
 ·obtain ⟨_,hd,xs,_,dd⟩:=Uz I.hok e;refine ⟨dd.typeIs,fun b q=>?_,hd⟩;cases q;obtain ⟨ob,_,_,h1,h2,_⟩:=dd;exact ⟨ob,h1,h2.2.1⟩
section
variable {X:Cx} {pins:List (Addr×Obj)} {σ:St} {H:Hp} {s:Shared} {a:Addr} {y d:V} {u r:Value} {o:Option V} {A:Around} {E:Value->Shared->Prop}
theorem Zos {Q:Value->Shared->Prop} (hu:A.units+1<cLine) (I:Inv X pins σ H s) (g:DGet H a y o) (ry:RelV y u) (rd:RelV d r) (h:∀w' s',Inv X pins σ H s'->RelV (o.getD d) w'->Q w' s') :
  wpAny (model X.prog X.w) A (call (.builtin "dict.get") [.ref a,u,r]) Q E s:=by
 rcases g with ⟨kvs,k,e,ey,l⟩|⟨kvs,k,b,e,ey,eb,l⟩
 ·subst ey;obtain ⟨z,hd,vs,rel,dd⟩:=VL I.hok e;refine GK Nl dd.typeIs PySem.F.entry_dict_get (NQ _ _ _) (meets_dict_get_default (Yg X.prog X.w) a (Wg ry) hd r) ⟨_,dd.mapOf,h _ _ (I.tok _) ?_⟩;rw [l];exact (rel.val k).getD rd
 ·subst ey;cases (show u=Value.ref b from ry);obtain ⟨z,hd,xs,rel,dd⟩:=Uz I.hok e;refine GK Nl dd.typeIs PySem.F.entry_dict_get (NQ _ _ _) (meetsH_dict_get_default (tupleKind (Yg X.prog X.w)) a b hd r) ⟨R3 hu,k,xs,V9 I.hok eb,dd,h _ _ (I.tok _) ?_⟩;rw [l];exact (rel.val k).getD rd
end
def Zbv (td ty tx:TE):TE:=fun σ H Q=>td σ H fun x H1=>∃a,x=.ref a∧IsD H1 a∧ty σ H1 fun y H2=>tx σ H2 fun z H3=>∃o,DGet H3 a y o∧Q (o.getD z) H3
section
variable {X:Cx} {o e f:Expr} {apos cpos:Pos} {td ty tx:TE}
theorem Wf (hu:X.A.units+1<cLine) (ho:PE X o td) (he:PE X e ty) (hf:PE X f tx) (m:M2 X o "get" apos e f cpos):PE X (.Call (.Attribute o "get" apos) [e,f] [] cpos) (Zbv td ty tx):=by
 intro pins s σ H Q I h;refine wpAny_Call_method m.base m.few m.line NR Nl PySem.F.type_dict_get (Zp (ho pins s σ H _ I h) fun u s1 ⟨x,H1,I1,rx,a,ex,d,q1⟩=>?_);subst ex;obtain rfl:u=Value.ref a:=rx;obtain ⟨t1,t2,_⟩:=Zgt I1 d;refine ⟨t1,t2,?_⟩;rw [m.trees]
 refine Nh rfl (Gh (Rm (Zp (he pins s1 σ H1 _ I1 q1) fun iv s2 ⟨y,H2,I2,ry,q2⟩ =>
  Rm (Zp (hf pins s2 σ H2 _ I2 q2) fun fv s3 ⟨z,H3,I3,rz,ov,g,q3⟩=>Ge ?_))))
 exact Zos hu I3 g ry rz fun w' s4 I4 rw'=>⟨_,H3,I4,rw',q3⟩
end
section
variable {X:Cx} {pins:List (Addr×Obj)} {σ:St} {H:Hp} {s:Shared} {a:Addr} {kvs:List (Zj×V)} {A:Around} {E:Value->Shared->Prop}
end
section
variable {X:Cx} {pins:List (Addr×Obj)} {σ:St} {H:Hp} {s:Shared} {a:Addr} {y:V} {u:Value} {A:Around} {E:Value->Shared->Prop}
end
end L2
namespace Att
open PySem PySem.W PySem.Calls PyProof.Rows
theorem ZmV {P:Params} {h:Heap}:∀(ns:List Int) (vs:List Value),WellAll P h vs (ns.map WData.int)->IntsAre vs ns:=by
 intro ns
 induction ns with
 |nil =>
  intro vs w;rw [Gf] at w;cases w;exact .nil
 |cons n ns ih =>
  intro vs w;rw [Qt] at w;cases w with
  |cons a b =>
   cases a;exact .cons _ _ (ih _ b)
theorem Zoi {l:OpenLaw} {n:Nat} (hn:l.most=some n) {P:Params} {h:Heap} {args:List WData} {vals:List Value}
  (hpre:l.row.toRowW.claim.pre args=true) (hwl:WellAll P h vals args) :
  ∃a vs ns,vals=[Value.ref a]∧args=[WData.list (ns.map WData.int)]∧h.get? a=some { cls:=.type "list",data:=.seq vs.toArray }∧IntsAre vs ns∧ns.length≤n:=by
 have hsh:WShape.hasAll [] args [.list .int]=true:=(pre_splitW hpre).1;have hc:l.pre.holds [] { args:=args }=true:=(pre_splitW hpre).2;obtain ⟨d,r,rfl,h1,h2⟩:=hasAllW_cons hsh;obtain rfl:=hasAllW_nil h2;obtain ⟨xs,rfl,h3⟩:=hasW_list h1;obtain ⟨ns,rfl⟩:=items_int h3
 have hlen:ns.length≤n:=by
  unfold OpenLaw.pre at hc
  have h4:(WTm.not (.lt (.lit (.int (n:Int))) (.len (.arg 0)))).holds [] { args:=[.list (ns.map .int)] }=true:=by
   have h4:=(holds_andW hc).1;rw [hn] at h4;exact h4
  have h5:=condW_of h4 (w_not (w_lt w_lit (w_len_list (w_arg rfl))));rw [Qd] at h5;refine Nat.le_of_not_lt fun q=>?_;have q':(n:Int)<((ns.length:Nat):Int):=by omega
  first
   | (rw [Qw q'] at h5;exact absurd h5 (by decide))
   | (simp at h5;omega)
 cases hwl with
 |cons w1 w2 =>
  cases w2;cases w1 with
  |list ho hall=>exact ⟨_,_,ns,rfl,rfl,ho,ZmV ns _ hall,hlen⟩
theorem Znp (l:OpenLaw) (args:List WData):l.row.toRowW.claim.post args (.bool true) args=true :=
 postW_of (r:=l.row.toRowW) (X:=(true==true))
  (show WShape.has [] (.bool true) .bool=true by first|rfl|decide|simp [WShape.has,WShape.arms,WShape.armsAll])
  (show (WTm.eq .res (.lit (.bool true))).value [] { args:=args,res:=some (.bool true),after:=args }=some (.bool (true==true)) from w_eq_bool (w_res rfl) w_lit) rfl
theorem attach_call {l:OpenLaw} {n:Nat} {q:Program} {loose:List Str} {XP:(Str->Option Value)->Heap->Prop} {YP:World->Heap->Prop} {d:DefRec}
  (hn:l.most=some n) (hdf:d.params.defaults=[])
  (call:∀(w:World) (s₀ s₁:Shared) (mg mb:Str->Option Value) (fa:Addr) (o:Obj) (pm cd doc:Value) (a:Addr) (vs:List Value) (ns:List Int),
   Ground q loose [] XP w s₀ mg mb s₁.heap->YP w s₁.heap →
   s₁.heap.get? fa=some o->o.data=.func (docDef d.name d.params d.body d.scope pm cd doc)->s₁.heap.CodeRec cd d.name->mg d.name=some (.ref fa) →
   s₁.heap.get? a=some { cls:=.type "list",data:=.seq vs.toArray }->IntsAre vs ns->ns.length≤n->s₁.gens=#[] →
   codeAny (model l.prog w) callerA (.call (.ref fa) ⟨[.ref a],[]⟩) (fun r s'=>r=.ok (.ret (.bool true))∧OldK s₁.heap s'.heap∧s'.os=s₁.os∧AllBare s'.gens) s₁) :
  WalkO q loose XP YP l.row.toRowW d [] (fun f vs=>PySem.call f vs):=by
 intro w s₀ s₁ mg mb G Y fa o pm cd doc dV kV ho hd hcd hD hmg hg args vals as hpre hlay hrd hwl hlo;obtain rfl:dV=.none:=Dflts.none hD hdf;obtain rfl:kV=.none:=Dflts.noKw hD;obtain ⟨a,vs,ns,rfl,rfl,hobj,hints,hlen⟩:=Zoi hn hpre hwl;refine enter_call (RJ (call w s₀ s₁ mg mb fa o pm cd doc a vs ns G Y ho (fd_plain hd) hcd hmg hobj hints hlen hg) fun r s' hq=>?_);obtain ⟨rfl,h2,h3,h4⟩:=hq;exact ⟨.inl ⟨.bool true,.bool true,[],rfl,fun _=>rfl,.bool true,Znp l _,fun _=>⟨List.Pairwise.nil,fun _ hm=>(nomatch hm)⟩⟩,h2,h3,h4⟩
section
variable {prog:Program} {w:World} {A:Around} {E:Value->Shared->Prop} {s:Shared} {K:Frag}
end
end Att
namespace L2
open PySem PySem.Spec PyProof.Rows
theorem Zb6:∀{vs:List Value} {ns:List Int},IntsAre vs ns->Vals (ns.map V.int) vs
 |_,_,.nil=>.nil
 |_,_,.cons n t h=>.cons ⟨t,rfl⟩ (Zb6 h)
noncomputable def YY (s:Stmt) (j:Nat):Stmt:=match s with
 |.ClassDef _ _ _ body _ _ _ _ _ _ _=>body.getD j (.Pass ⟨0,0,0,0⟩)
 |_=>.Pass ⟨0,0,0,0⟩
noncomputable def Xo (s:Stmt):Arguments:=match s with
 |.FunctionDef _ a _ _ _ _ _ _ _ _=>a
 |_=>{ posonlyargs:=[],args:=[],vararg:=none,kwonlyargs:=[],kw_defaults:=[],kwarg:=none,defaults:=[] }
noncomputable def Y3 (s:Stmt):List Stmt:=match s with
 |.FunctionDef _ _ b _ _ _ _ _ _ _=>b
 |_=>[]
noncomputable def Zu (s:Stmt):Scope:=match s with
 |.FunctionDef _ _ _ _ _ _ sc _ _ _=>sc
 |_=>{ kind:=.function,names:=[],isGenerator:=false,isCoroutine:=false }
abbrev E0:XK:=fun _ _ _=>False
structure Fun (K:W.Frag) (x qual:Str) (st:Stmt) (f:Addr) (fd:FuncData):Prop where
 ex:∃(oc:Value) (od:Option Addr) (kV doc pm:Value) (an:Option Addr) (cdv ct:Value) (osl:Array (Option Value)),
  fd=W.fnOf x qual (Xo st) (Y3 st) (Zu st) .none kV doc pm an cdv ct∧K.lookup f=some ⟨oc,od,.func fd,osl⟩∧W.codeIn K cdv qual=true
 kp:W.keepIn K (.ref f)=true
section
variable {P:Program} {w:World} {K:W.Frag} {mg:Str->Option Value} {base:Heap}
theorem Fun.binds {x qual:Str} {st:Stmt} {f:Addr} {fd:FuncData} {ps:List Str} (F:Fun K x qual st f fd)
  (h:∀(kV doc pm:Value) (an:Option Addr) (cdv ct:Value) (us:List Value),us.length=ps.length->bindArgs (W.fnOf x qual (Xo st) (Y3 st) (Zu st) .none kV doc pm an cdv ct) ⟨us,[]⟩=pure (ps.zip us)):Binds K fd ps []:=by
 obtain ⟨oc,od,kV,doc,pm,an,cdv,ct,osl,rfl,lk,hcd⟩:=F.ex;exact .all (h kV doc pm an cdv ct)
theorem ZiA {x qual:Str} {st:Stmt} {f:Addr} {oc:Value} {od an:Option Addr} {osl:Array (Option Value)} {kV doc pm cdv ct:Value} (l:K.lookup f=some ⟨oc,od,.func (W.fnOf x qual (Xo st) (Y3 st) (Zu st) .none kV doc pm an cdv ct),osl⟩)
  (c:W.codeIn K cdv qual=true) (k:W.keepIn K (.ref f)=true):Fun K x qual st f (W.fnOf x qual (Xo st) (Y3 st) (Zu st) .none kV doc pm an cdv ct):=⟨⟨oc,od,kV,doc,pm,an,cdv,ct,osl,rfl,l,c⟩,k⟩
end
theorem Ye {A:Around} {k:Nat} (hr:Room k A):A.units+1<cLine:=RM (Nat.add_le_add_left (by decide:1≤64) _) hr.units
theorem ZK {n:Nat} (h:n≤1000):n<sizeLine:=RM h (by decide)
section
variable {X:Cx}
theorem pv (i:Nat) {x:Str} {pos:Pos} (hN:X.N[i]?=some x:=by rfl) (hv:J2 X.env.scope x:=by first|exact Or.inl rfl|exact Or.inr (Or.inl rfl)|exact Or.inr (Or.inr rfl)) (hd:(x==("__debug__" : Str))=false:=by decide)
  (hcd:(x==("__classdict__" : Str))=false:=by decide):PE X (.Name x pos) (UN i):=Zb2 hN hv hd hcd
theorem ZmI:Y8 X (.builtin "len") (fun xs H Q=>∃a kvs,xs=[V.ref a]∧H a=some (.dK kvs)∧Q (.int kvs.length) H):=by
 intro pins s σ H xs us Q I r h;obtain ⟨a,kvs,rfl,ha,q⟩:=h;obtain ⟨u,rfl,ru⟩:=XE r;cases ru;exact Zii I (.inl ha) fun t s' I'=>⟨.int kvs.length,H,I',⟨t,rfl⟩,q⟩
end
theorem ZW {A B:Prop} (h:B):if false=true then A else B:=by
 rw [Qa QJ];exact h
theorem Z1 {A B:Prop} (h:A):if true=true then A else B:=by
 rw [Qb rfl];exact h
def Same (H H':Hp):Prop:=∀b o,H b=some o->H' b=some o
theorem Same.refl (H:Hp):Same H H:=fun _ _ h=>h
theorem Same.trans {H H1 H2:Hp} (a:Same H H1) (b:Same H1 H2):Same H H2:=fun c o h=>b c o (a c o h)
section
variable {κ:Type} [DecidableEq κ]
end
end L2
set_option maxHeartbeats 4000000
namespace L2
open PySem PySem.Spec PyProof.Rows
section
variable {P:Program} {w:World} {H H':Hp} {h h':Heap} {a:Addr} {o:HO}
theorem HOk.lean (x:HOk P w H h) (k:∀b u,H b≠none->h.get? b=some u->h'.get? b=some u):HOk P w H h':=fun b u e =>
 (x b u e).stay (fun c v hc q=>k c v (by
  rcases hc with rfl|hc
  ·rw [e];simp
  ·rw [hc];simp) q) (fun _ q=>q) fun _ _ q=>q
end
structure Flies (P:Program) (w:World) (outer:List Env) (H H':Hp) (s s':Shared) (e:Addr) (cls:Value):Prop where
 os:s'.os=s.os
 bare:AllBare s'.gens
 un:Un (Yn outer) [] H H' s.heap s'.heap
 fly:∃B a0,Heap.FlyingW B outer e cls a0 s'.heap∧HOk P w H' B∧(∀b o,s.heap.get? b=some o->H b=none->b∉Yn outer->B.get? b=some o) ∧
  ∀b o,s.heap.get? b=some o->b∉Yn outer->∃o',B.get? b=some o'
noncomputable def Zz (P:Program) (w:World):Yr:=fun outer H s E u s'=>∃e cls H',u=.ref e∧Flies P w outer H H' s s' e cls∧E cls none H'
section
variable {X:Cx} {pins:List (Addr×Obj)} {σ:St} {H H':Hp} {s s':Shared} {e:Addr} {cls:Value}
theorem Flies.inv (f:Flies X.prog X.w X.stack H H' s s' e cls) (I:Inv X pins σ H s):Inv X pins σ H' s':=by
 obtain ⟨B,a0,fl,hB,_,_⟩:=f.fly;exact I.call' (ch:=[]) f.os f.un (hB.kept fl.1) f.bare (fun b z=>absurd z (by simp))
theorem Inv.nst (I:Inv X pins σ H s) {b:Addr} {o:Obj} (q:X.s₀.heap.get? b=some o) (hb:b∉X.fs):b∉Yn X.stack:=fun z=>by
 rcases Qh.mp (I.stkSub b z) with y|y
 ·exact absurd (Qk (Qi q) I.ok.above) (by rw [y];exact QE _)
 ·exact hb y
theorem Flies.leaves {M:Model} {Q:Unit->Shared->Prop} {E:Value->Shared->Prop} (f:Flies X.prog X.w X.stack H H' s s' e cls) (I:Inv X pins σ H s)
  (hs:X.stack=X.env::X.outer) (hf:X.env.frame=some X.env.locals) (hx:X.ex=[])
  (hQ:∀s'',Flies X.prog X.w X.outer X.H₀ H' X.s₀ s'' e cls->Q () s''):wpAny M X.A (leaving X.env (.ref e)) Q E s':=by
 have J:=f.inv I;obtain ⟨B,a0,fl,hB,kB,tB⟩:=f.fly;rw [hs] at fl;have nx:∀b:Addr,b∉X.ex:=fun b=>by rw [hx];simp
 refine wpAny_leaves_onW (by rw [I.ok.frames,hs]) hf fl fun h' fl' up=>hQ _ ?_
 have slot:∀b o,X.s₀.heap.get? b=some o->b∈X.fs->∃sl,h'.get? b=some { o with slots:=sl }:=fun b o q hb=>by
  obtain ⟨sl,e1⟩:=J.base.slot b o q (I.ok.frf b hb) hb (nx b);obtain ⟨_,o',ho',hn⟩:=J.funs.mem hb;rw [e1] at ho';cases ho';obtain ⟨sl',e2⟩:=up b _ e1 hn;exact ⟨sl',e2⟩
 have keepB:∀b o,X.s₀.heap.get? b=some o->X.H₀ b=none->b∉X.fs->B.get? b=some o:=fun b o q n hb =>
  kB b o (I.base.keep b o q n hb (nx b)) (I.base.free b o q n (nx b)) (I.nst q hb)
 have thereB:∀b o,X.s₀.heap.get? b=some o->b∉X.fs->∃o',B.get? b=some o':=fun b o q hb=>by
  obtain ⟨o1,e1⟩:=I.base.there b o q (nx b);exact tB b o1 e1 (I.nst q hb)
 refine ⟨J.os,J.bare,⟨fun b o q n hb _=>fl'.1 b o (keepB b o q n hb),fun b o q _ hb _=>slot b o q hb,fun b o q n _=>J.base.free b o q n (nx b),fun b o q _=>?_,J.base.tups,J.base.frzs,J.base.tbls⟩,
  B,a0,fl',hB,keepB,thereB⟩
 by_cases hb:b∈X.fs
 ·obtain ⟨sl,e2⟩:=slot b o q hb;exact ⟨_,e2⟩
 ·obtain ⟨o1,e1⟩:=thereB b o q hb;exact ⟨o1,fl'.1 b o1 e1⟩
theorem ZnT {M:Model} {Q:Unit->Shared->Prop} {E:Value->Shared->Prop} {h1:Heap} {vs:List Value} (I:Inv X pins σ H s) (mk:Heap.MadeExcOf s.heap h1 e cls vs)
  (hs:X.stack=X.env::X.outer) (hf:X.env.frame=some X.env.locals) (hx:X.ex=[])
  (hQ:∀s'',Flies X.prog X.w X.outer X.H₀ H X.s₀ s'' e cls->Q () s''):wpAny M X.A (leaving X.env (.ref e)) Q E { s with heap:=h1 }:=by
 have nx:∀b:Addr,b∉X.ex:=fun b=>by rw [hx];simp
 have hid:∀b o,s.heap.get? b=some o->b∉Yn X.stack->(W.hideAll s.heap (Yn X.stack)).get? b=some o:=fun b o q n=>W.hideAll_get _ q n
 have FF:s.heap.FunFrames (W.hideAll s.heap (Yn X.stack)) X.stack :=
  W.funFrames_hide I.stack fun env he a ha=>Rk.mpr ⟨env,he,ha⟩
 have hB:HOk X.prog X.w H (W.hideAll s.heap (Yn X.stack)):=I.hok.lean fun b u n q=>hid b u q fun z=>n (I.stkFree b z);have sub:∀b o,(W.hideAll s.heap (Yn X.stack)).get? b=some o->s.heap.get? b=some o:=fun b o q=>W.of_hideAll _ q;generalize W.hideAll s.heap (Yn X.stack)=B at *;rw [hs] at FF;refine wpAny_leaves_madeW (s:={ s with heap:=h1 }) (by rw [I.ok.frames,hs]) hf sub FF mk fun h' t fl' _ _ up=>hQ _ ?_
 have slot:∀b o,X.s₀.heap.get? b=some o->b∈X.fs->∃sl,h'.get? b=some { o with slots:=sl }:=fun b o q hb=>by
  obtain ⟨sl,e1⟩:=I.base.slot b o q (I.ok.frf b hb) hb (nx b);obtain ⟨_,o',ho',hn⟩:=I.funs.mem hb;rw [e1] at ho';cases ho';obtain ⟨sl',e2⟩:=up b _ (mk.keeps _ _ e1) hn;exact ⟨sl',e2⟩
 have keepB:∀b o,X.s₀.heap.get? b=some o->X.H₀ b=none->b∉X.fs->B.get? b=some o:=fun b o q n hb =>
  hid b o (I.base.keep b o q n hb (nx b)) (I.nst q hb)
 have thereB:∀b o,X.s₀.heap.get? b=some o->b∉X.fs->∃o',B.get? b=some o':=fun b o q hb=>by
  obtain ⟨o1,e1⟩:=I.base.there b o q (nx b);exact ⟨o1,hid b o1 e1 (I.nst q hb)⟩
 refine ⟨I.os,I.bare,⟨fun b o q n hb _=>fl'.1 b o (keepB b o q n hb),fun b o q _ hb _=>slot b o q hb,fun b o q n _=>I.base.free b o q n (nx b),fun b o q _=>?_,I.base.tups,I.base.frzs,I.base.tbls⟩,
  _,_,fl',hB,keepB,thereB⟩
 by_cases hb:b∈X.fs
 ·obtain ⟨sl,e2⟩:=slot b o q hb;exact ⟨_,e2⟩
 ·obtain ⟨o1,e1⟩:=thereB b o q hb;exact ⟨o1,fl'.1 b o1 e1⟩
end
abbrev XS:=St->XK
def Ue (CX:Yr) (X:Cx) (E:XS):Prop:=∀(pins:List (Addr×Obj)) (σ:St) (H:Hp) (s:Shared) (e:Value) (s':Shared),Inv X pins σ H s->CX X.stack H s (E σ) e s'->X.xe e s'
def Zgb (X:Cx) (E:XS):Prop:=∀(pins:List (Addr×Obj)) (σ:St) (H:Hp) (s:Shared) (h1:Heap) (e:Addr) (cls:Value) (vs:List Value),Inv X pins σ H s->Heap.MadeExcOf s.heap h1 e cls vs->E σ cls none H->X.xe (.ref e) { s with heap:=h1 }
theorem Zt {P:Program} {w:World} {X:Cx}:Ue (Zz P w) X (fun _=>E0):=fun _ _ _ _ _ _ _ ⟨_,_,_,_,_,z⟩=>False.elim z
section
variable {P:Program} {w:World} {K:W.Frag} {mg:Str->Option Value} {base:Heap} {N:List Str} {qual:Str} {scope:Scope} {f:Addr} {cd:Value} {A:Around} {outer:List Env} {s:Shared} {H:Hp} {E:XK}
theorem Xa:Ue (Zz P w) (WR (Zz P w) P w K mg base N qual scope f cd A outer s H E) (fun _=>E):=by
 rintro pins σ H1 s1 u s' I ⟨e,cls,H',rfl,fl,q⟩;exact fl.leaves I rfl rfl rfl fun s'' f''=>⟨e,cls,H',rfl,f'',q⟩
theorem Uk:Zgb (WR (Zz P w) P w K mg base N qual scope f cd A outer s H E) (fun _=>E):=by
 intro pins σ H1 s1 h1 e cls vs I mk q;exact ZnT I mk rfl rfl rfl fun s'' f''=>⟨e,cls,H1,rfl,f'',q⟩
end
section
variable {X:Cx} {CX:Yr} {k:Nat} {f C:Addr} {fd:FuncData} {ps:List Str} {sp:Sp} {dvs:List V} {ds:List Value} {E:XS} {x m:Str} {p pos apos:Pos} {e o:Expr} {es:List Expr} {ta:TE} {t:TA}
def ZnJ (sp:Sp) (dvs:List V) (E:XS) (t:TA):TE:=fun σ H Q=>t σ H fun vs H1=>sp (vs++dvs) H1 Q (E σ)
theorem Zgf {pins:List (Addr×Obj)} {σ:St} {H:Hp} {s:Shared} {Q:VK} {us:List Value} {vs:List V} (F:FnOk X.prog X.w X.K X.mg X.base CX k f fd ps sp) (hr:Room k X.A) (hb:Binds X.K fd ps ds) (hd:Vals dvs ds) (hx:Ue CX X E)
  (I:Inv X pins σ H s) (r:Vals vs us) (h:sp (vs++dvs) H Q (E σ)):wpAny (model X.prog X.w) X.A (call (.ref f) us) (EP X pins σ Q) X.xe s:=by
 have r2:Vals (vs++dvs) (us++ds):=r.append hd;have hl:(us++ds).length=ps.length:=by rw [←r2.length];exact F.len _ _ _ _ h
 refine RI (RJ (F.run X.A X.stack s H ⟨us,[]⟩ (us++ds) (vs++dvs) Q (E σ) hr I.env0 (hb s us I.kIn hl) r2 h) fun r s' hq=>?_);cases r with
 |error e=>exact hx pins σ H s e s' I hq
 |ok fl =>
  cases fl with
  |ret u=>exact I.after hq
  |next=>exact False.elim hq
  |brk=>exact False.elim hq
  |cont=>exact False.elim hq
theorem ZM (F:FnOk X.prog X.w X.K X.mg X.base CX k f fd ps sp) (hr:Room k X.A) (hg:Gl X x) (hm:X.mg x=some (.ref f)) (hk:W.keepIn X.K (.ref f)=true) (hb:Binds X.K fd ps ds) (hd:Vals dvs ds) (hx:Ue CX X E)
  (ha:PA X (e::es) t) (hdb:(x==("__debug__" : Str))=false:=by decide) (he:starEach (e::es) X.env=(false,eval e X.env)::starEach es X.env:=by rfl) (hpl:(backTo pos (starEach es X.env)).any (·.1)=false:=by rfl) :
  PE X (.Call (.Name x p) (e::es) [] pos) (ZnJ sp dvs E t):=by
 intro pins s σ H Q I h;refine Rc (JS I hg hm ?_ hdb);refine Gi (h₀:=X.base) I.ok.mod.kin hk (Zp (ha pos pins s σ H _ I h) fun us s1 ⟨vs,H1,I1,r,q⟩=>⟨I1.kIn,?_⟩) he hpl;exact Zgf F hr hb hd hx I1 r q
end
section
variable {K:W.Frag} {h:Heap} {C:Addr} {bmB:List Value} {newId:String}
theorem ZjY (X:K.In h) (q:W.excIn K C bmB newId=true):∃bm N nm qn bs hdct sn sub ab col dd k0 k1 k2 k3 k5 mN,
  h.get? C=some (excClassObj nm qn C N bs bm hdct sn sub ab col dd k0 k1 k2 k3 k5 newId)∧h.Ns N mN∧mN "__init__"=none∧OwnTail h bmB bm:=by
 unfold W.excIn at q;split at q
 case h_2=>cases q
 case h_1 dict0 cdat slots0 found =>
  split at q
  case h_2=>cases q
  case h_1 C1 rest0 s0 s1 s2 s3 nid s5 mroEq slEq =>
   simp only [Rv,Rr,Nn] at q;have q1:=q.1.1.1.1.1;have q2:=q.1.1.1.1.2;have q3:=q.1.1.1.2;have q4:=q.1.1.2;have q5:=q.1.2;have q6:=q.2;subst q1 q2;cases cdat with
   |mk nmX basesX mroX nsX qualX hdX snX subX abX colX delX =>
    dsimp only at mroEq q3 q5 q6;subst mroEq;subst q3
    have es:slots0=#[s0,s1,s2,s3,some (.builtin nid),s5]:=by
     cases slots0 with
     |mk l=>exact Qy _ slEq
    subst es;exact ⟨rest0,nsX,nmX,qualX,basesX,hdX,snX,subX,abX,colX,dict0,s0,s1,s2,s3,s5,_,X _ _ found,.of_isNs (W.isNs_of_in X q5),W.nsMap_none_of_in X q5 q6,W.tail_of_in X q4⟩
end
section
variable {X:Cx} {x:Str} {C:Addr} {np cpos pos:Pos} {e₀:Expr} {rest:List Expr} {t:TA} {bmB:List Value} {newId B initId:String} {E:XS}
def Zit (C:Addr) (E:XS) (t:TA):TS:=fun _ σ H=>t σ H fun vs H1=>vs.length≤sizeLine∧E σ (.ref C) none H1
theorem Uf (hg:Gl X x) (hm:X.mg x=some (.ref C)) (q:W.excIn X.K C bmB newId=true) (FB:ExcBaseFacts B newId initId bmB) (hc:X.calm=true) (hx:Zgb X E) (ha:PA X (e₀::rest) t)
  (hd:(x==("__debug__" : Str))=false:=by decide) (he:starEach (e₀::rest) X.env=(false,eval e₀ X.env)::starEach rest X.env:=by rfl) (hpl:(backTo cpos (starEach rest X.env)).any (·.1)=false:=by rfl) :
  PS X (.Raise (some (.Call (.Name x np) (e₀::rest) [] cpos)) none pos) (Zit C E t):=by
 intro pins s σ H D I h;obtain ⟨bm,N,nm,qn,bs,hdct,sn,sub,ab,col,dd,k0,k1,k2,k3,k5,mN,hC,hN,hni,T⟩:=ZjY I.mod.kin q
 have hpl':(backTo cpos (starEach (e₀::rest) X.env)).any (·.1)=false:=by
  rw [he];exact hpl
 refine wpAny_Raise_call_subT (C:=C) (nm:=nm) (q:=qn) (N:=N) (bs:=bs) (bm:=bm) (hdct:=hdct) (sn:=sn) (sub:=sub) (ab:=ab) (col:=col) (dd:=dd) (k0:=k0) (k1:=k1) (k2:=k2)
  (k3:=k3) (k5:=k5) FB (mN:=mN) (T.hasType FB.hasBase) (I.ok.hd hc) hpl' hni (JS I hg hm ⟨rfl,?_⟩ hd)
 have g:=ha cpos pins s σ H _ I h;rw [he] at g ⊢;refine Gh (Q2 g (fun us s1 r1=>?_) fun _ _ y=>y);obtain ⟨vs,H1,I1,rv,z,q1⟩:=r1;exact ⟨rfl,by rw [←rv.length];exact z,I1.bk _ _ hC,hN.keeps I1.bk,T.keeps I1.bk,fun h1 e mk=>hx pins σ H1 s1 h1 e (.ref C) us I1 mk q1⟩
end
def ZeU (cls:Value) (e:Addr):Heap->Prop:=fun h=>∃o vs,h.get? e=some o∧o.cls=cls∧o.data=.fields vs
noncomputable def ZfD (cls:Value) (e:Addr):HO:=.ext (ZeU cls e)
section
variable {P:Program} {w:World} {H H':Hp} {h h':Heap} {a:Addr} {o:HO}
end
section
variable {P:Program} {w:World} {outer:List Env} {H H':Hp} {s s':Shared} {e:Addr} {cls:Value}
end
section
variable {X:Cx} {pins:List (Addr×Obj)} {σ:St} {H H':Hp} {s s':Shared} {e:Addr} {cls:Value}
end
section
variable {X:Cx} {pins pins':List (Addr×Obj)} {σ:St} {H H':Hp} {s s':Shared} {W:Value->Shared->Prop} {e:Addr}
end
section
variable {X:Cx} {body suite:List Stmt} {b₀:Stmt} {x n:Str} {C:Addr} {np hpos pos:Pos} {bmB:List Value} {newId:String} {i:Nat} {tb:XS->TS} {ts:TS}
end
structure ExcK (K:W.Frag) (C:Addr):Prop where
 ga:W.findIn K (.ref C) "__getattribute__"=some (some (.builtin "BaseException.__getattribute__"))
 gt:W.findIn K (.ref C) "__getattr__"=some none
 cl:W.findIn K (.ref C) "__class__"=some (some (.builtin "object.__class__"))
 mb:W.mroIn K C (.type "BaseException")=some true
 mo:W.mroIn K C (.type "object")=some true
section
variable {prog:Program} {w:World} {A:Around} {E:Value->Shared->Prop} {K:W.Frag} {h:Heap} {g:Array GenState} {d:Drawn} {t:Nat} {os:OsState} {a C:Addr} {ob:Obj}
theorem Zpi:(".".intercalate ("object.__class__".cutAt '.').dropLast)="object":=by decide +kernel
theorem ZjR {R:Result->Shared->Prop} (X:K.In h) (Z:ExcK K C) (hx:h.get? a=some ob) (hc:ob.cls=.ref C) (hq:R (.ok (.ret (.ref C))) ⟨h,g,d,t,os⟩) :
  codeAny (model prog w) A (.call (.builtin "getset_descriptor.__get__") ⟨[.builtin "object.__class__",.ref a,.ref C],[]⟩) R ⟨h,g,d,t,os⟩:=by
 have k5:(⟨h,g,d,t,os⟩:Shared).TypeIs (.builtin "object.__class__") "getset_descriptor":=No
 have mo:W.Looks (model prog w) h (isSubtype (.ref C) (.type (".".intercalate ("object.__class__".cutAt '.').dropLast))) true:=by
  rw [Zpi];exact W.looks_mroIn X Z.mo
 refine codeAny_call_builtin F.slot_gs_get.plain F.entry_gs_get (F.slot_gs_get.check _ _ _ _ _ _ _ _ k5 (F.args_gs_get _ _ _) ?_)
 repeat (any_goals (first|assumption|(with_reducible refine Gj hx ?_;rw [hc])|(with_reducible refine mo.at ?_)|wp_step))
 refine ⟨GL _ (by decide +kernel),RN F.entry_object_class ?_⟩
 repeat (any_goals (first|assumption|(with_reducible refine Gj hx ?_;rw [hc])|wp_step))
theorem Zli {tk:Tok} {Q:Fin->Shared->Prop} (X:K.In h) (Z:ExcK K C) (hx:h.get? a=some ob) (hc:ob.cls=.ref C) (hq:Q (.done (.ret (.ref C))) ⟨h,g,d,t,os⟩) :
  wpAny (model prog w) A (Builtin.«object.__getattribute__» ⟨[.ref a,.str "__class__" tk],[]⟩) Q E ⟨h,g,d,t,os⟩:=by
 have k5:(⟨h,g,d,t,os⟩:Shared).TypeIs (.builtin "object.__class__") "getset_descriptor":=No;have f5:=No;have f6:=F.slot_gs_get.lookup;have f7:=F.slot_gs_set.lookup;have lc:=GB (M:=model prog w) X Z.cl
 repeat (any_goals (first|assumption|(with_reducible refine Gj hx ?_;rw [hc])|(with_reducible refine lc.at ?_)|wp_step))
 refine ZjR X Z hx hc ?_
 repeat (any_goals (first|assumption|wp_step))
theorem Znw {M:Model} {nameV:Value} {Q:Unit->Shared->Prop} (X:K.In h) (Z:ExcK K C) (hx:h.get? a=some ob) (hc:ob.cls=.ref C) (hq:Q () ⟨h,g,d,t,os⟩) :
  wpAny M A (checkBuiltinCall "BaseException.__getattribute__" ⟨[.ref a,nameV],[]⟩) Q E ⟨h,g,d,t,os⟩:=by
 have kd:builtinKind "BaseException.__getattribute__"=some .slot:=by decide +kernel
 have sp:splitId "BaseException.__getattribute__"=some ("BaseException","__getattribute__"):=by decide +kernel
 have mb:=W.looks_mroIn (M:=M) X Z.mb;have ar:=F.args_bexc_ga (.ref a) nameV;simp only [checkBuiltinCall,kd,sp];refine Qc ?_;unfold isInstance
 repeat (first|(with_reducible refine Gj hx ?_;rw [hc])|(with_reducible refine mb.at ?_)|wp_step)
 exact hq
theorem ZlQ {tk:Tok} {R:Result->Shared->Prop} (X:K.In h) (Z:ExcK K C) (hx:h.get? a=some ob) (hc:ob.cls=.ref C) (hq:R (.ok (.ret (.ref C))) ⟨h,g,d,t,os⟩) :
  codeAny (model prog w) A (.call (.builtin "BaseException.__getattribute__") ⟨[.ref a,.str "__class__" tk],[]⟩) R ⟨h,g,d,t,os⟩ :=
 codeAny_call_builtin (F.excAttr_ValueError).ga.plain F.entry_bexc_ga (Znw X Z hx hc (Zli X Z hx hc hq))
theorem Zn3 {tk:Tok} {fill expr:Bool} {Q:Value->Shared->Prop} (X:K.In h) (Z:ExcK K C) (hx:h.get? a=some ob) (hc:ob.cls=.ref C) (hq:Q (.ref C) ⟨h,g,d,t,os⟩) :
  wpAny (model prog w) A (getAttrBy (.ref a) (.str "__class__" tk) fill expr) Q E ⟨h,g,d,t,os⟩:=by
 have f3:=(F.excAttr_ValueError).ga.bind (.ref a);have y0:(expr&&onTheHeap (Value.builtin "BaseException.__getattribute__"))=false:=by cases expr<;>rfl
 have y2:(Value.builtin "BaseException.__getattribute__"==Value.builtin "object.__getattribute__")=false:=by decide +kernel
 have y1:(onTheHeap (Value.ref C)&&Value.builtin "BaseException.__getattribute__"==Value.builtin "object.__getattribute__")=false:=by rw [y2];rfl
 have lg:=GB (M:=model prog w) X Z.ga;have lt:=GB (M:=model prog w) X Z.gt
 repeat (any_goals (first|assumption|(with_reducible refine Gj hx ?_;rw [hc])|(with_reducible refine lg.at ?_)|(with_reducible refine lt.at ?_)|wp_step))
 refine ZlQ X Z hx hc ?_
 repeat (any_goals (first|assumption|wp_step))
theorem ZnO {Q:Option Value->Shared->Prop} (X:K.In h) (Z:ExcK K C) (hx:h.get? a=some ob) (hc:ob.cls=.ref C) (hq:Q (some (.ref C)) ⟨h,g,d,t+1,os⟩) :
  wpAny (model prog w) A (getAttr? (.ref a) "__class__") Q E ⟨h,g,d,t,os⟩:=by
 unfold getAttr? getAttrBy?
 repeat (any_goals (first|assumption|with_reducible apply Zn3 X Z hx hc|wp_step))
end
section
variable {K:W.Frag} {a C:Addr}
theorem ZiB (Z:ExcK K C):W.KitX K (.ref a) (.ref C) (ZeU (.ref C) a) where
 ty:=fun M h X p=>by
  obtain ⟨o,vs,h1,h2,_⟩:=p;exact h2▸(W.Looks.ld h1).andThen .now
 it:=fun M h X p=>by
  obtain ⟨cd,hc,_⟩:=NS.mp Z.mo;unfold W.clsIn at hc;split at hc
  ·rename_i ho;intro A' Q' E' s' k q;unfold isType loadHead;exact Qc (wpAny_loadPart (k _ _ (X _ _ ho)) (Qe q))
  ·cases hc
 ne:=fun h tp dd its n sl X htp=>by
  obtain ⟨cd,hc,_⟩:=NS.mp Z.mo;refine Rj.mpr fun q=>?_;have e:C=tp:=Value.ref.inj (Rr.mp q);subst e;unfold W.clsIn at hc;split at hc
  ·rename_i ho;have z:=(X _ _ ho).symm.trans htp;cases z
  ·cases hc
 ca:=fun {prog w A E Q s} X p k=>by
  obtain ⟨h,g,d,t,os⟩:=s;obtain ⟨o,vs,h1,h2,_⟩:=p;exact ZnO X Z h1 h2 k
end
inductive Kd (K:W.Frag) (H:Hp):V->Value->Prop where
 |of {x:V} {t:Value} (e:TyOf K H x t):Kd K H x t
 |exc {a C:Addr} (Z:ExcK K C) (e:H a=some (ZfD (.ref C) a)):Kd K H (.ref a) (.ref C)
 |sqt {a:Addr} {xs:List V} (e:SqT K H a xs):Kd K H (.ref a) (.type "tuple")
 |sql {a:Addr} {xs:List V} (e:SqL K H a xs):Kd K H (.ref a) (.type "list")
noncomputable def isC:V->Bool
 |.ref _=>true
 |.ty _=>true
 |_=>false
noncomputable def Zg8:V->Bool
 |.ty _=>true
 |_=>false
noncomputable def Zdl:V->Value
 |.ref a=>.ref a
 |.ty n=>.type n
 |_=>.none
section
variable {X:Cx} {A:Around}
theorem Zji:Y8 X (.builtin "isinstance") (fun xs H Q=>∃x c t b,xs=[x,c]∧isC c=true∧Kd X.K H x t∧W.kitOne X.K t (Zdl c)=some b∧Q (.bl b) H):=by
 intro pins s σ H xs us Q I r h;obtain ⟨x,c,t,b,rfl,ic,ty,e,q⟩:=h;obtain ⟨u,v,rfl,rx,rc⟩:=JJ r
 have ec:Zdl c=v:=by
  cases c with
  |ref a=>exact Eq.symm rc
  |ty n=>exact Eq.symm rc
  |_=>cases ic
 rw [ec] at e;have fin:∀tk,EP X pins σ Q (.bool b) { s with toks:=tk }:=fun tk=>⟨.bl b,H,I.tok tk,rfl,q⟩;cases ty with
 |of ty=>exact Zim I rx ty e fin
 |@exc a C Z ea =>
  cases (show u=Value.ref a from rx);obtain ⟨p,_,_⟩:=(show ObjOk X.prog X.w H s.heap a (ZfD (.ref C) a) from I.hok a _ ea);exact QV (ZiB Z) I.kIn p e (fun z=>nomatch z) fin
 |@sqt a ys ea =>
  cases (show u=Value.ref a from rx);rcases ea with ea|⟨o,its,n,h1,h2,_⟩
  ·obtain ⟨_,_,_,p⟩:=(show ObjOk X.prog X.w H s.heap a (.tup ys) from ea.ok I.hok);obtain ⟨o,h1,h2,_⟩:=p;exact QV W.kitx_tuple I.kIn ⟨o,h1,h2⟩ e (fun z=>nomatch z) fin
  ·exact QV W.kitx_tuple I.kIn ⟨o,I.kIn _ _ h1,h2⟩ e (fun z=>nomatch z) fin
 |@sql a ys ea =>
  cases (show u=Value.ref a from rx);rcases ea with ea|⟨o,its,n,h1,h2,_⟩
  ·obtain ⟨_,_,n,_,h1⟩:=(show ObjOk X.prog X.w H s.heap a (.lst ys) from ea.ok I.hok);exact QV GC I.kIn ⟨_,h1,rfl⟩ e (fun z=>nomatch z) fin
  ·exact QV GC I.kIn ⟨o,I.kIn _ _ h1,h2⟩ e (fun z=>nomatch z) fin
theorem Zpl:Yq X (compareOp .Is) (fun x y H Q=>∃k,y=.bl k∧Zg8 x=false∧Q (.bl (decide (x=.bl k))) H):=by
 intro pins s σ H x y v u Q I rx ry h;obtain ⟨k,rfl,nt,q⟩:=h;cases ry;show wpAny _ _ (do return Value.bool (←isSame v (.bool k))) _ _ s
 have e:isSame v (.bool k)=pure (decide (x=.bl k)):=by
  cases x with
  |ty n=>cases nt
  |bl c=>cases rx;cases c<;>cases k<;>rfl
  |non=>cases rx;rfl
  |ref a=>cases rx;rfl
  |_=>obtain ⟨t,rfl⟩:=rx;rfl
 rw [e];exact Qc (Qe (Qe ⟨.bl _,H,I,rfl,q⟩))
theorem J4:Yq X (compareOp .IsNot) (fun x y H Q=>∃k,y=.bl k∧Zg8 x=false∧Q (.bl (!decide (x=.bl k))) H):=by
 intro pins s σ H x y v u Q I rx ry h;obtain ⟨k,rfl,nt,q⟩:=h;cases ry;show wpAny _ _ (do return Value.bool (!(←isSame v (.bool k)))) _ _ s
 have e:isSame v (.bool k)=pure (decide (x=.bl k)):=by
  cases x with
  |ty n=>cases nt
  |bl c=>cases rx;cases c<;>cases k<;>rfl
  |non=>cases rx;rfl
  |ref a=>cases rx;rfl
  |_=>obtain ⟨t,rfl⟩:=rx;rfl
 rw [e];exact Qc (Qe (Qe ⟨.bl _,H,I,rfl,q⟩))
theorem JO:Yq X (binaryOp .FloorDiv) (rI (fun _ j=>j≠0∧j.natAbs<2 ^ 1000) fun i j=>.int (i.fdiv j)):=opI fun i j _ _ _ _ _ hc q =>
 floordiv_int hc.1 q (.inl (PyProof.noPylong_of_log2 (by
  have n:j.natAbs≠0:=fun z=>hc.1 (Int.natAbs_eq_zero.mp z);have:=(Nat.log2_lt n).mpr hc.2;omega)))
theorem Fun.okX {P:Program} {w:World} {K:W.Frag} {mg:Str->Option Value} {base:Heap} {CX:Yr} {x qual:Str} {st:Stmt} {f:Addr} {fd:FuncData} {N ps:List Str} {k:Nat} {sp:Sp} (F:Fun K x qual st f fd) (S:FnScope N ps (Zu st))
  (len:∀vs H Q E,sp vs H Q E->vs.length=ps.length)
  (hbody:∀(cdv:Value) (A:Around) (outer:List Env) (s:Shared) (H:Hp) (vs:List V) (Q:VK) (E:XK),Room k (A.deeper (envOfC qual (Zu st) s.heap.objs.size f cdv))->sp vs H Q E →
   ∃t,PSs (WR CX P w K mg base N qual (Zu st) f cdv A outer s H E) (Y3 st) t∧t { nx:=fun _ H'=>Q .non H',rt:=Q } (start N vs) H):FnOk P w K mg base CX (k+1) f fd ps sp:=by
 obtain ⟨oc,od,kV,doc,pm,an,cdv,ct,osl,rfl,lk,hcd⟩:=F.ex;exact Zdb lk hcd S len fun A outer s H vs Q E hr hsp=>hbody cdv A outer s H vs Q E hr hsp
end
theorem ZmD:bootBuiltins "int"=some (.type "int"):=by decide +kernel
theorem Zgl:bootBuiltins "bool"=some (.type "bool"):=by decide +kernel
theorem Uw:bootBuiltins "str"=some (.type "str"):=by decide +kernel
theorem Zpg:bootBuiltins "list"=some (.type "list"):=by decide +kernel
theorem Zcs:bootBuiltins "tuple"=some (.type "tuple"):=by decide +kernel
theorem Y6:bootBuiltins "len"=some (.builtin "len"):=by decide +kernel
theorem ZmP:bootBuiltins "abs"=some (.builtin "abs"):=by decide +kernel
theorem ZbC:bootBuiltins "max"=some (.builtin "max"):=by decide +kernel
theorem ZoN:bootBuiltins "min"=some (.builtin "min"):=by decide +kernel
theorem Zjj:bootBuiltins "isinstance"=some (.builtin "isinstance"):=by decide +kernel
abbrev XC:List Value:=[.type "ValueError",.type "Exception",.type "BaseException",.type "object"]
theorem EB:ExcBaseFacts "ValueError" "ValueError.__new__" "ValueError.__init__" XC:=PySem.F.excBase_ValueError
theorem Zl {H:Hp} {p:Addr} {o:HO} (n:H p=none):Same H (Zc H p o):=fun b u e=>by
 rw [Zd (ZF e n)];exact e
theorem Same.rd {H H':Hp} (e:Same H H') {a:Addr} {u:HO} (r:Rd H a u):Rd H' a u:=by
 rcases r with r|⟨o,r⟩
 ·exact .inl (e _ _ r)
 ·exact .inr ⟨o,e _ _ r⟩
theorem Same.sqt {K:W.Frag} {H H':Hp} {a:Addr} {xs:List V} (e:Same H H') (h:SqT K H a xs):SqT K H' a xs:=by
 rcases h with h|h
 ·exact .inl (e.rd h)
 ·exact .inr h
theorem Same.sql {K:W.Frag} {H H':Hp} {a:Addr} {xs:List V} (e:Same H H') (h:SqL K H a xs):SqL K H' a xs:=by
 rcases h with h|h
 ·exact .inl (e.rd h)
 ·exact .inr h
theorem Same.ty {K:W.Frag} {H H':Hp} {x:V} {t:Value} (e:Same H H') (h:TyOf K H x t):TyOf K H' x t:=by
 cases h with
 |non=>exact .non
 |bl b=>exact .bl b
 |int i=>exact .int i
 |str y=>exact .str y
 |flt y=>exact .flt y
 |lst q=>exact .lst (e _ _ q)
 |frz q=>exact .frz (e _ _ q)
 |tup q=>exact .tup (e _ _ q)
 |dK q=>exact .dK (e _ _ q)
 |dT q=>exact .dT (e _ _ q)
 |ins q c a n tk m=>exact .ins (e _ _ q) c a n tk m
theorem Same.kd {K:W.Frag} {H H':Hp} {x:V} {t:Value} (e:Same H H') (h:Kd K H x t):Kd K H' x t:=by
 cases h with
 |of q=>exact .of (e.ty q)
 |exc Z q=>exact .exc Z (e _ _ q)
 |sqt q=>exact .sqt (e.sqt q)
 |sql q=>exact .sql (e.sql q)
def ZkX (K:W.Frag) (t:TA):TE:=fun σ H Q=>t σ H fun xs H1=>∃x c ty b,xs=[x,c]∧isC c=true∧Kd K H1 x ty∧W.kitOne K ty (Zdl c)=some b∧Q (.bl b) H1
theorem Wj {X:Cx} (K:W.Frag) {p pos:Pos} {e:Expr} {es:List Expr} {t:TA} (hg:Gl X "isinstance") (hm:X.mg "isinstance"=none) (ha:PA X (e::es) t) (hK:X.K=K:=by rfl)
  (he:starEach (e::es) X.env=(false,eval e X.env)::starEach es X.env:=by rfl) (hpl:(backTo pos (starEach es X.env)).any (·.1)=false:=by rfl):PE X (.Call (.Name "isinstance" p) (e::es) [] pos) (ZkX K t):=by
 subst hK;exact Yk (Zji (X:=X)) hg hm Zjj ha (by decide) (by decide) he hpl
inductive D where
 |non|bl (b:Bool)|int (i:Int)|str (x:Str)|tup (ds:List D)|lst (ds:List D)
mutual
def Is (K:W.Frag) (H:Hp):D->V->Prop
 |.non,v=>v=.non
 |.bl b,v=>v=.bl b
 |.int i,v=>v=.int i
 |.str x,v=>v=.str x
 |.tup ds,v=>∃a xs,v=.ref a∧SqT K H a xs∧IsL K H ds xs
 |.lst ds,v=>∃a xs,v=.ref a∧SqL K H a xs∧IsL K H ds xs
def IsL (K:W.Frag) (H:Hp):List D->List V->Prop
 |[],xs=>xs=[]
 |d::ds,xs=>∃x r,xs=x::r∧Is K H d x∧IsL K H ds r
end
mutual
noncomputable def Y4:D->D->Bool
 |.non,.non=>true
 |.bl a,.bl b=>a==b
 |.bl a,.int b=>(if a then 1 else 0)==b
 |.int a,.bl b=>a==(if b then 1 else 0)
 |.int a,.int b=>a==b
 |.str a,.str b=>a==b
 |.tup a,.tup b=>Y9 a b
 |.lst a,.lst b=>Y9 a b
 |_,_=>false
noncomputable def Y9:List D->List D->Bool
 |[],[]=>true
 |x::xs,y::ys=>Y4 x y&&Y9 xs ys
 |_,_=>false
end
mutual
noncomputable def XD:D->Nat
 |.tup ds=>Xq ds+1
 |.lst ds=>Xq ds+1
 |_=>0
noncomputable def Xq:List D->Nat
 |[]=>0
 |d::ds=>max (XD d) (Xq ds)
end
section
variable {K:W.Frag} {H H':Hp}
mutual
theorem Same.is (e:Same H H'):∀(d:D) {v:V},Is K H d v->Is K H' d v
 |.non,v,h=>h
 |.bl b,v,h=>h
 |.int i,v,h=>h
 |.str x,v,h=>h
 |.tup ds,v,h=>by
  obtain ⟨a,xs,rfl,q,r⟩:=h;exact ⟨a,xs,rfl,e.sqt q,Same.isL e ds r⟩
 |.lst ds,v,h=>by
  obtain ⟨a,xs,rfl,q,r⟩:=h;exact ⟨a,xs,rfl,e.sql q,Same.isL e ds r⟩
theorem Same.isL (e:Same H H'):∀(ds:List D) {xs:List V},IsL K H ds xs->IsL K H' ds xs
 |[],xs,h=>h
 |d::ds,xs,h=>by
  obtain ⟨x,r,rfl,h1,h2⟩:=h;exact ⟨x,r,rfl,Same.is e d h1,Same.isL e ds h2⟩
end
theorem IsL.length:∀{ds:List D} {xs:List V},IsL K H ds xs->xs.length=ds.length
 |[],xs,h=>by cases (show xs=[] from h);rfl
 |d::ds,xs,h=>by
  obtain ⟨x,r,rfl,_,h2⟩:=h;rw [QK,QK,IsL.length h2]
end
section
variable {X:Cx} {pins:List (Addr×Obj)} {σ:St} {H:Hp} {s:Shared}
theorem Inv.isList (I:Inv X pins σ H s) {a:Addr} {xs:List V} (h:SqL X.K H a xs):∃its:List Value,Vals xs its∧s.heap.IsList a its.toArray:=by
 rcases h with h|⟨o,its,n,h1,h2,_,h3,_,r⟩
 ·obtain ⟨_,its,n,r,e⟩:=(show ObjOk X.prog X.w H s.heap a (.lst xs) from h.ok I.hok);exact ⟨its,r,_,e,rfl,n,rfl⟩
 ·exact ⟨its.toList,r,o,I.kIn _ _ h1,h2,n,by simpa using h3⟩
theorem Inv.isTup (I:Inv X pins σ H s) {a:Addr} {xs:List V} (h:SqT X.K H a xs):∃its:List Value,Vals xs its∧s.heap.IsTuple a its.toArray:=by
 rcases h with h|⟨o,its,n,h1,h2,h3,_,r⟩
 ·obtain ⟨_,its,r,e⟩:=(show ObjOk X.prog X.w H s.heap a (.tup xs) from h.ok I.hok);exact ⟨its,r,e⟩
 ·exact ⟨its.toList,r,o,I.kIn _ _ h1,h2,n,by simpa using h3⟩
theorem ZcK:∀{ds ds':List D},ds.length≠ds'.length->Y9 ds ds'=false
 |[],[],h=>absurd rfl h
 |[],_::_,_=>rfl
 |_::_,[],_=>rfl
 |d::ds,d'::ds',h=>by
  unfold Y9;rw [ZcK (ds:=ds) (ds':=ds') fun z=>h (by rw [QK,QK,z]),Np]
noncomputable def UQ (ds ds':List D) (j:Nat):Bool:=Y4 (ds.getD j .non) (ds'.getD j .non)
theorem ZdM:∀{ds ds':List D},ds.length=ds'.length->(List.range ds.length).all (UQ ds ds')=Y9 ds ds'
 |[],[],_=>rfl
 |[],_::_,h=>by cases h
 |_::_,[],h=>by cases h
 |d::ds,d'::ds',h=>by
  have h':ds.length=ds'.length:=by simpa using h
  rw [QK,List.range_succ_eq_map,Gg,GM];unfold Y9;rw [←ZdM h'];rfl
theorem Inv.tup_fun (I:Inv X pins σ H s) {a:Addr} {xs ys:List V} (h:SqT X.K H a xs) (h':SqT X.K H a ys):xs=ys:=by
 obtain ⟨us,r,o,e,_,n,d⟩:=I.isTup h;obtain ⟨us',r',o',e',_,n',d'⟩:=I.isTup h';rw [e] at e';cases e';rw [d] at d';injection d' with d1 _;have z:us=us':=by simpa using d1
 subst z;exact r.inj r'
theorem Inv.lst_fun (I:Inv X pins σ H s) {a:Addr} {xs ys:List V} (h:SqL X.K H a xs) (h':SqL X.K H a ys):xs=ys:=by
 obtain ⟨us,r,o,e,_,n,d⟩:=I.isList h;obtain ⟨us',r',o',e',_,n',d'⟩:=I.isList h';rw [e] at e';cases e';rw [d] at d';injection d' with d1 _;have z:us=us':=by simpa using d1
 subst z;exact r.inj r'
theorem Inv.tup_lst (I:Inv X pins σ H s) {a:Addr} {xs ys:List V} (h:SqT X.K H a xs) (h':SqL X.K H a ys):False:=by
 obtain ⟨us,r,o,e,c,_⟩:=I.isTup h;obtain ⟨us',r',o',e',c',_⟩:=I.isList h';rw [e] at e';cases e';rw [c] at c';exact absurd (Value.type.inj c') (by decide)
mutual
theorem Zjk (I:Inv X pins σ H s):∀(d d':D) {v:V},Is X.K H d v->Is X.K H d' v->d=d'
 |.non,d',v,h,h'=>by
  cases (show v=.non from h);cases d'<;>first|rfl|(obtain ⟨_,_,z,_⟩:=h';cases z;done)|cases h'
 |.bl c,d',v,h,h'=>by
  cases (show v=.bl c from h);cases d'<;>first|rfl|(obtain ⟨_,_,z,_⟩:=h';cases z;done)|(cases h';done)|(cases h';rfl)
 |.int c,d',v,h,h'=>by
  cases (show v=.int c from h);cases d'<;>first|rfl|(obtain ⟨_,_,z,_⟩:=h';cases z;done)|(cases h';done)|(cases h';rfl)
 |.str c,d',v,h,h'=>by
  cases (show v=.str c from h);cases d'<;>first|rfl|(obtain ⟨_,_,z,_⟩:=h';cases z;done)|(cases h';done)|(cases h';rfl)
 |.tup ds,d',v,h,h'=>by
  obtain ⟨a,xs,rfl,q,hl⟩:=h;cases d' with
  |tup ds' =>
   obtain ⟨a',xs',e,q',hl'⟩:=h';cases e;rw [I.tup_fun q q'] at hl;rw [Jy I ds ds' hl hl']
  |lst ds' =>
   obtain ⟨a',xs',e,q',hl'⟩:=h';cases e;exact (I.tup_lst q q').elim
  |_=>cases h'
 |.lst ds,d',v,h,h'=>by
  obtain ⟨a,xs,rfl,q,hl⟩:=h;cases d' with
  |lst ds' =>
   obtain ⟨a',xs',e,q',hl'⟩:=h';cases e;rw [I.lst_fun q q'] at hl;rw [Jy I ds ds' hl hl']
  |tup ds' =>
   obtain ⟨a',xs',e,q',hl'⟩:=h';cases e;exact (I.tup_lst q' q).elim
  |_=>cases h'
theorem Jy (I:Inv X pins σ H s):∀(ds ds':List D) {xs:List V},IsL X.K H ds xs->IsL X.K H ds' xs->ds=ds'
 |[],ds',xs,h,h'=>by
  cases (show xs=[] from h);cases ds' with
  |nil=>rfl
  |cons d r=>obtain ⟨_,_,z,_⟩:=h';cases z
 |d::ds,ds',xs,h,h'=>by
  obtain ⟨x,r,rfl,h1,h2⟩:=h;cases ds' with
  |nil=>cases h'
  |cons d' ds' =>
   obtain ⟨x',r',e,h1',h2'⟩:=h';cases e;rw [Zjk I d d' h1 h1',Jy I ds ds' h2 h2']
end
mutual
theorem Ziy:∀d:D,Y4 d d=true
 |.non=>rfl
 |.bl b=>by simp [Y4]
 |.int i=>by simp [Y4]
 |.str x=>by simp [Y4]
 |.tup ds=>by simp only [Y4];exact Zad ds
 |.lst ds=>by simp only [Y4];exact Zad ds
theorem Zad:∀ds:List D,Y9 ds ds=true
 |[]=>rfl
 |d::ds=>by simp only [Y9,Ziy d,Zad ds,Bool.and_self]
end
theorem Zba {α:Type} {l:List α} {i:Nat} {x y:α} (h:l[i]?=some x):l.getD i y=x:=by simp [List.getD,h]
theorem Zht {ds ds':List D} {xs xs':List V} {us us':List Value} {a a':Addr} {A:Around} (I:Inv X pins σ H s) (hl:IsL X.K H ds xs) (hl':IsL X.K H ds' xs') (rv:Vals xs us) (rv':Vals xs' us')
  (z:s.heap.IsTuple a us.toArray) (z':s.heap.IsTuple a' us'.toArray) (hu:A.units<cLine)
  (it:∀(j:Nat) (d d':D) (u u':Value),ds[j]?=some d->ds'[j]?=some d'->us[j]?=some u->us'[j]?=some u'->SeqAt.EqAt A.in1 s u u' (Y4 d d')):SeqAt.RcAt A s (.ref a) (.ref a') (Y9 ds ds'):=by
 have e1:us.length=ds.length:=by rw [←rv.length,hl.length]
 have e2:us'.length=ds'.length:=by rw [←rv'.length,hl'.length]
 have g:=SeqAt.RcAt.tuples (e:=UQ ds ds') z z' hu fun j h1 h2=>by
  have g1:j<ds.length:=by rw [←e1];simpa using h1
  have g2:j<ds'.length:=by rw [←e2];simpa using h2
  have k1:ds[j]?=some ds[j]:=Qx g1;have k2:ds'[j]?=some ds'[j]:=Qx g2;unfold UQ;rw [Zba k1,Zba k2];exact it j _ _ _ _ k1 k2 (by simp) (by simp)
 have en:((List.range (min us.toArray.size us'.toArray.size)).all (UQ ds ds')&&us.toArray.size==us'.toArray.size)=Y9 ds ds':=by
  simp only [Qv,e1,e2];by_cases q:ds.length=ds'.length
  ·rw [←q,Nat.min_self,ZdM q,beq_self_eq_true,Bool.and_true]
  ·rw [ZcK q,(Ro.mpr q),Np]
 rw [en] at g;exact g
theorem Zgz {ds ds':List D} {xs xs':List V} {us us':List Value} {a a':Addr} {A:Around} (I:Inv X pins σ H s) (hl:IsL X.K H ds xs) (hl':IsL X.K H ds' xs') (rv:Vals xs us) (rv':Vals xs' us')
  (z:s.heap.IsList a us.toArray) (z':s.heap.IsList a' us'.toArray) (hu:A.units<cLine)
  (it:∀(j:Nat) (d d':D) (u u':Value),ds[j]?=some d->ds'[j]?=some d'->us[j]?=some u->us'[j]?=some u'->SeqAt.EqAt A.in1 s u u' (Y4 d d')):SeqAt.RcAt A s (.ref a) (.ref a') (Y9 ds ds'):=by
 have e1:us.length=ds.length:=by rw [←rv.length,hl.length]
 have e2:us'.length=ds'.length:=by rw [←rv'.length,hl'.length]
 by_cases q:ds.length=ds'.length
 ·have g:=SeqAt.RcAt.lists (e:=UQ ds ds') z z' (by simp only [Qv,e1,e2,q]) hu fun j h1 h2=>by
   have g1:j<ds.length:=by rw [←e1];simpa using h1
   have g2:j<ds'.length:=by rw [←e2];simpa using h2
   have k1:ds[j]?=some ds[j]:=Qx g1;have k2:ds'[j]?=some ds'[j]:=Qx g2;unfold UQ;rw [Zba k1,Zba k2];exact it j _ _ _ _ k1 k2 (by simp) (by simp)
  rw [show us.toArray.size=ds.length by simp [e1],ZdM q] at g;exact g
 ·rw [ZcK q];exact SeqAt.RcAt.lists_lengths z z' (by simp only [Qv,e1,e2];exact bne_iff_ne.mpr q) hu
mutual
theorem eqD (I:Inv X pins σ H s):∀(d d':D) {v v':V} {u u':Value} {A:Around},Is X.K H d v->Is X.K H d' v'->RelV v u->RelV v' u'->A.units+XD d<cLine->SeqAt.EqAt A s u u' (Y4 d d')
 |.non,d',v,v',u,u',A,h,h',r,r',hu=>by
  cases (show v=.non from h);cases (show u=Value.none from r);cases d' with
  |non=>cases (show v'=.non from h');cases (show u'=Value.none from r');exact GH _
  |bl b=>cases (show v'=.bl b from h');cases (show u'=Value.bool b from r');exact SeqAt.EqAt.none_bool b
  |int b=>cases (show v'=.int b from h');obtain ⟨t,rfl⟩:=r';exact SeqAt.EqAt.none_int b t
  |str b=>cases (show v'=.str b from h');obtain ⟨t,rfl⟩:=r';exact SeqAt.EqAt.none_str b t
  |tup b=>obtain ⟨a,xs,rfl,q,_⟩:=h';cases r';obtain ⟨its,_,z⟩:=I.isTup q;exact SeqAt.EqAt.none_tuple z (by simpa [XD] using hu)
  |lst b=>obtain ⟨a,xs,rfl,q,_⟩:=h';cases r';obtain ⟨its,_,z⟩:=I.isList q;exact SeqAt.EqAt.none_list z (by simpa [XD] using hu)
 |.bl c,d',v,v',u,u',A,h,h',r,r',hu=>by
  cases (show v=.bl c from h);cases (show u=Value.bool c from r);cases d' with
  |non=>cases (show v'=.non from h');cases (show u'=Value.none from r');exact SeqAt.EqAt.bool_none c
  |bl b=>cases (show v'=.bl b from h');cases (show u'=Value.bool b from r');exact SeqAt.EqAt.bool_bool c b
  |int b=>cases (show v'=.int b from h');obtain ⟨t,rfl⟩:=r';exact SeqAt.EqAt.bool_int c b t
  |str b=>cases (show v'=.str b from h');obtain ⟨t,rfl⟩:=r';exact SeqAt.EqAt.bool_str c b t
  |tup b=>obtain ⟨a,xs,rfl,q,_⟩:=h';cases r';obtain ⟨its,_,z⟩:=I.isTup q;exact SeqAt.EqAt.bool_tuple c z (by simpa [XD] using hu)
  |lst b=>obtain ⟨a,xs,rfl,q,_⟩:=h';cases r';obtain ⟨its,_,z⟩:=I.isList q;exact SeqAt.EqAt.bool_list c z (by simpa [XD] using hu)
 |.int c,d',v,v',u,u',A,h,h',r,r',hu=>by
  cases (show v=.int c from h);obtain ⟨t0,rfl⟩:=r;cases d' with
  |non=>cases (show v'=.non from h');cases (show u'=Value.none from r');exact SeqAt.EqAt.int_none c t0
  |bl b=>cases (show v'=.bl b from h');cases (show u'=Value.bool b from r');exact SeqAt.EqAt.int_bool c t0 b
  |int b=>cases (show v'=.int b from h');obtain ⟨t,rfl⟩:=r';exact SeqAt.EqAt.int_int c t0 b t
  |str b=>cases (show v'=.str b from h');obtain ⟨t,rfl⟩:=r';exact GY c t0 b t
  |tup b=>obtain ⟨a,xs,rfl,q,_⟩:=h';cases r';obtain ⟨its,_,z⟩:=I.isTup q;exact SeqAt.EqAt.int_tuple c t0 z (by simpa [XD] using hu)
  |lst b=>obtain ⟨a,xs,rfl,q,_⟩:=h';cases r';obtain ⟨its,_,z⟩:=I.isList q;exact SeqAt.EqAt.int_list c t0 z (by simpa [XD] using hu)
 |.str c,d',v,v',u,u',A,h,h',r,r',hu=>by
  cases (show v=.str c from h);obtain ⟨t0,rfl⟩:=r;cases d' with
  |non=>cases (show v'=.non from h');cases (show u'=Value.none from r');exact SeqAt.EqAt.str_none c t0
  |bl b=>cases (show v'=.bl b from h');cases (show u'=Value.bool b from r');exact SeqAt.EqAt.str_bool c t0 b
  |int b=>cases (show v'=.int b from h');obtain ⟨t,rfl⟩:=r';exact GZ c t0 b t
  |str b=>cases (show v'=.str b from h');obtain ⟨t,rfl⟩:=r';exact SeqAt.EqAt.str_str c t0 b t
  |tup b=>obtain ⟨a,xs,rfl,q,_⟩:=h';cases r';obtain ⟨its,_,z⟩:=I.isTup q;exact SeqAt.EqAt.str_tuple c t0 z (by simpa [XD] using hu)
  |lst b=>obtain ⟨a,xs,rfl,q,_⟩:=h';cases r';obtain ⟨its,_,z⟩:=I.isList q;exact SeqAt.EqAt.str_list c t0 z (by simpa [XD] using hu)
 |.tup ds,d',v,v',u,u',A,h,h',r,r',hu=>by
  obtain ⟨a,xs,rfl,q,hl⟩:=h;cases (show u=Value.ref a from r);obtain ⟨its,rv,z⟩:=I.isTup q;have hu0:A.units<cLine:=by omega
  cases d' with
  |non=>cases (show v'=.non from h');cases (show u'=Value.none from r');exact SeqAt.EqAt.tuple_none z hu0
  |bl b=>cases (show v'=.bl b from h');cases (show u'=Value.bool b from r');exact SeqAt.EqAt.tuple_bool b z hu0
  |int b=>cases (show v'=.int b from h');obtain ⟨t,rfl⟩:=r';exact SeqAt.EqAt.tuple_int b t z hu0
  |str b=>cases (show v'=.str b from h');obtain ⟨t,rfl⟩:=r';exact SeqAt.EqAt.tuple_str b t z hu0
  |lst b=>obtain ⟨a2,xs2,rfl,q2,_⟩:=h';cases r';obtain ⟨its2,_,z2⟩:=I.isList q2;exact SeqAt.EqAt.tuple_list z z2 hu0
  |tup ds' =>
   obtain ⟨a2,xs2,rfl,q2,hl2⟩:=h';cases (show u'=Value.ref a2 from r');obtain ⟨its2,rv2,z2⟩:=I.isTup q2;have hu1:A.units+(Xq ds+1)<cLine:=hu;show SeqAt.EqAt A s _ _ (Y9 ds ds');by_cases ne:a=a2
   ·subst ne;rw [I.tup_fun q q2] at hl;rw [Jy I ds ds' hl hl2,Zad];exact GH _
   ·exact .of_refs ne (Zht I hl hl2 rv rv2 z z2 hu0 (eqL I ds ds' (A:=A.in1) hl hl2 rv rv2 (by show A.units+1+Xq ds<cLine;omega)))
 |.lst ds,d',v,v',u,u',A,h,h',r,r',hu=>by
  obtain ⟨a,xs,rfl,q,hl⟩:=h;cases (show u=Value.ref a from r);obtain ⟨its,rv,z⟩:=I.isList q;have hu0:A.units<cLine:=by omega
  cases d' with
  |non=>cases (show v'=.non from h');cases (show u'=Value.none from r');exact SeqAt.EqAt.list_none z hu0
  |bl b=>cases (show v'=.bl b from h');cases (show u'=Value.bool b from r');exact SeqAt.EqAt.list_bool b z hu0
  |int b=>cases (show v'=.int b from h');obtain ⟨t,rfl⟩:=r';exact SeqAt.EqAt.list_int b t z hu0
  |str b=>cases (show v'=.str b from h');obtain ⟨t,rfl⟩:=r';exact SeqAt.EqAt.list_str b t z hu0
  |tup b=>obtain ⟨a2,xs2,rfl,q2,_⟩:=h';cases r';obtain ⟨its2,_,z2⟩:=I.isTup q2;exact SeqAt.EqAt.list_tuple z z2 hu0
  |lst ds' =>
   obtain ⟨a2,xs2,rfl,q2,hl2⟩:=h';cases (show u'=Value.ref a2 from r');obtain ⟨its2,rv2,z2⟩:=I.isList q2;have hu1:A.units+(Xq ds+1)<cLine:=hu;show SeqAt.EqAt A s _ _ (Y9 ds ds');by_cases ne:a=a2
   ·subst ne;rw [I.lst_fun q q2] at hl;rw [Jy I ds ds' hl hl2,Zad];exact GH _
   ·exact .of_refs ne (Zgz I hl hl2 rv rv2 z z2 hu0 (eqL I ds ds' (A:=A.in1) hl hl2 rv rv2 (by show A.units+1+Xq ds<cLine;omega)))
theorem eqL (I:Inv X pins σ H s):∀(ds ds':List D) {xs xs':List V} {us us':List Value} {A:Around},IsL X.K H ds xs->IsL X.K H ds' xs'->Vals xs us->Vals xs' us'->A.units+Xq ds<cLine →
  ∀(j:Nat) (d d':D) (u u':Value),ds[j]?=some d->ds'[j]?=some d'->us[j]?=some u->us'[j]?=some u'->SeqAt.EqAt A s u u' (Y4 d d')
 |[],_,_,_,_,_,_,_,_,_,_,_,j,d,d',u,u',e,_,_,_=>by simp at e
 |d0::ds,ds',xs,xs',us,us',A,hl,hl',rv,rv',hu,j,d,d',u,u',e1,e2,e3,e4=>by
  obtain ⟨x,r,rfl,h1,h2⟩:=hl;cases ds' with
  |nil=>simp at e2
  |cons d0' ds' =>
   obtain ⟨x',r',rfl,h1',h2'⟩:=hl';cases rv with
   |cons ra rb =>
    cases rv' with
    |cons ra' rb' =>
     have hu1:A.units+max (XD d0) (Xq ds)<cLine:=hu;cases j with
     |zero =>
      simp only [Nq,Option.some.injEq] at e1 e2 e3 e4;subst e1 e2 e3 e4;exact eqD I _ _ h1 h1' ra ra' (by omega)
     |succ j =>
      simp only [GN] at e1 e2 e3 e4;exact eqL I ds ds' h2 h2' rb rb' (by omega) j d d' u u' e1 e2 e3 e4
end
def Zhc (K:W.Frag) (g:Bool->Bool):R2:=fun x y H Q=>∃d d',Is K H d x∧Is K H d' y∧((∃ds ds',d=.tup ds∧d'=.tup ds')∨∃ds ds',d=.lst ds∧d'=.lst ds')∧XD d≤60∧Q (.bl (g (Y4 d d'))) H
theorem ZgM (hu:X.A.units+64<cLine):Yq X (compareOp .Eq) (Zhc X.K id):=by
 intro pins s σ H x y v u Q I rx ry h;obtain ⟨d,d',h1,h2,sh,hd,q⟩:=h;rcases sh with ⟨ds,ds',rfl,rfl⟩|⟨ds,ds',rfl,rfl⟩
 ·obtain ⟨a,xs,rfl,q1,hl⟩:=h1;obtain ⟨a2,xs2,rfl,q2,hl2⟩:=h2;cases (show v=Value.ref a from rx);cases (show u=Value.ref a2 from ry);obtain ⟨its,rv,z⟩:=I.isTup q1;obtain ⟨its2,rv2,z2⟩:=I.isTup q2;have hd1:Xq ds+1≤60:=hd;exact (Zht I hl hl2 rv rv2 z z2 (by omega) (eqL I ds ds' (A:=X.A.in1) hl hl2 rv rv2 (by show X.A.units+1+Xq ds<cLine;omega))) _ _ _ _ ⟨.bl _,H,I,rfl,q⟩
 ·obtain ⟨a,xs,rfl,q1,hl⟩:=h1;obtain ⟨a2,xs2,rfl,q2,hl2⟩:=h2;cases (show v=Value.ref a from rx);cases (show u=Value.ref a2 from ry);obtain ⟨its,rv,z⟩:=I.isList q1;obtain ⟨its2,rv2,z2⟩:=I.isList q2;have hd1:Xq ds+1≤60:=hd;exact (Zgz I hl hl2 rv rv2 z z2 (by omega) (eqL I ds ds' (A:=X.A.in1) hl hl2 rv rv2 (by show X.A.units+1+Xq ds<cLine;omega))) _ _ _ _ ⟨.bl _,H,I,rfl,q⟩
end
section
variable {X:Cx} {pins:List (Addr×Obj)} {σ:St} {H:Hp} {s:Shared}
end
section
variable {prog:Program} {w:World} {A:Around} {R:Result->Shared->Prop} {s:Shared}
theorem ZmW {elt target iter:Expr} {ifs:List Expr} {scope:Scope} {pos:Pos} {it acc:Value} {env:Env} (J:Nat->Shared->Prop)
  (turn:∀n s,J n s->wpAny (model prog w) A (pyNext it) (fun r s1=>match r with
   |none=>R (.ok .next) s1
   |some v => wpAny (model prog w) A (letOwnedTupleGo target it v) (fun _ s2 => wpAny (model prog w) A (assign target env v) (fun _ s3 =>
     wpAny (model prog w) A (forIn ifs true fun c r=>if r=true then do let ok ←isTrue c env (eval c env);pure (ForInStep.yield ok) else pure (ForInStep.yield r)) (fun ok s4 =>
      if ok=true then wpAny (model prog w) A (eval elt env) (fun x s5=>wpAny (model prog w) A (call (.builtin "list.append") [acc,x]) (fun _ s6=>∃m,m<n∧J m s6) (fun _ _=>False) s5) (fun _ _=>False) s4
      else ∃m,m<n∧J m s4) (fun _ _=>False) s3) (fun _ _=>False) s2) (fun _ _=>False) s1) (fun _ _=>False) s)
  (n:Nat) (h:J n s):codeAny (model prog w) A (.compLoop (.ListComp elt [⟨target,iter,ifs,0⟩] scope pos) 0 it acc env) R s:=by
 refine codeAny_loop rfl J (fun n s hJ=>?_) n h;show wpAny _ A ((compTurn (.ListComp elt [⟨target,iter,ifs,0⟩] scope pos) 0 it acc env).onRaise (fun x=>do noteFrame x env;theTreesLotGoes x)) _ _ s;refine wpAny_noted ?_;rw [compTurn_list];refine Qc (wpAny_standAt (Qc (Q2 (turn n s hJ) (fun r s1 h1=>?_) fun _ _ z=>z.elim)));cases r with
 |none=>exact Qe h1
 |some v =>
  refine Qc (Q2 h1 (fun _ s2 h2=>Qc (Q2 h2 (fun _ s3 h3=>Qc (Q2 h3 (fun ok s4 h4=>?_) fun _ _ z=>z.elim)) fun _ _ z=>z.elim)) fun _ _ z=>z.elim);cases ok with
  |false=>exact Qe ⟨rfl,h4⟩
  |true=>exact Qc (Qc (Q2 h4 (fun x s5 h5=>Qc (Q2 h5 (fun _ s6 h6=>Qe (Qe ⟨rfl,h6⟩)) fun _ _ z=>z.elim)) fun _ _ z=>z.elim))
end
def JI (X:Cx) (ifs:List Expr) (t:TT):Prop :=
 ∀(pins:List (Addr×Obj)) (s:Shared) (σ:St) (H:Hp) (Q:Bool->Hp->Prop),Inv X pins σ H s->t σ H Q →
  wpAny (model X.prog X.w) X.A (forIn ifs true fun c r=>if r=true then do let ok ←isTrue c X.env (eval c X.env);pure (ForInStep.yield ok) else pure (ForInStep.yield r)) (TP X pins σ Q) X.xe s
def Zhb:TT:=fun _ H Q=>Q true H
theorem ZaR {X:Cx}:JI X [] Zhb:=fun _ _ _ H _ I h=>wpAny_tests_nil ⟨H,I,h⟩
theorem Zc1 {X:Cx} {c:Expr} {t:TT} (h:PT X c t):JI X [c] t:=fun pins s σ H Q I q=>wpAny_tests_one (h pins s σ H Q I q)
noncomputable abbrev Cx.block (X:Cx) (N:List Str) (sc:Scope) (cl:List (Str×Addr)) (fp:List Addr) (s3:Shared) (H3:Hp):Cx :=
 { X with N:=N,s₀:=s3,H₀:=H3,env:=compEnvC sc cl s3.heap.objs.size X.env,outer:=X.stack,ex:=fp,fn:=fun _=>false,pn:=[],xe:=fun _ _=>False }
structure CompSc (X:Cx) (N:List Str) (sc:Scope) (cl:List (Str×Addr)) (σc:St->St):Prop where
 kind:sc.kind=.function
 names:∀x∈sc.names,x.2=.local->sc.names.lookup x.1=some .local
 nocell:∀y∈sc.names,y.2≠.cell
 clos:closureFor sc X.env=pure cl
 sub:∀x c,cl.lookup x=some c->X.env.cells.lookup x=some c
 has:∀x,((relabel sc X.env).names.lookup x=some .cell∨(relabel sc X.env).names.lookup x=some .free)->∃c,cl.lookup x=some c
 len:∀σ:St,(σc σ).length=N.length
 cap:∀(σ:St) (i:Nat) (x:Str) (v:V),N[i]?=some x->(σc σ)[i]?=some (some v)->((relabel sc X.env).names.lookup x=some .cell∨(relabel sc X.env).names.lookup x=some .free)∧(X.env.scope.names.lookup x=some .cell∨X.env.scope.names.lookup x=some .free)∧∃j:Nat,X.N[j]?=some x∧σ[j]?=some (some v)
def ZcN (J:It) (σ0:St) (g:TG) (tt:TT) (te:TE) (Q:VK) (H1:Hp):Prop:=∀D,H1 D=none →
 ∃W:Nat->Nat->St->List V->Hp->Prop,(∃m,W 0 m σ0 [] (Zc H1 D (.lst [])))∧∀i m σ1 ys H2,W i m σ1 ys H2->H2 D=some (.lst ys) ∧
  ((J.stop i H2∧Q (.ref D) H2)∨(J.go i H2∧∃N:St->List V->Hp->Prop,(∀σ2 ys2 H3,N σ2 ys2 H3->∃m',m'<m∧W (i+1) m' σ2 ys2 H3) ∧
   ∀x H3,J.yld i H2 x H3->g x σ1 H3 fun σ2 H4=>tt σ2 H4 fun c H5=>if c=true then te σ2 H5 fun y H6=>H6 D=some (.lst ys)∧ys.length<sizeLine∧N σ2 (ys++[y]) (Zc H6 D (.lst (ys++[y]))) else N σ2 ys H5))
def Zgm (wi:TI) (σc:St->St) (g:TG) (tt:TT) (te:TE):TE:=fun σ H Q=>wi σ H fun J H1=>ZcN J (σc σ) g tt te Q H1
section
variable {X:Cx} {pins:List (Addr×Obj)} {σ:St} {H:Hp} {s:Shared} {N:List Str} {sc:Scope} {cl:List (Str×Addr)} {σc:St->St} {fp:List Addr}
theorem Inv.block (I:Inv X pins σ H s) (S:CompSc X N sc cl σc) (hf:∀b∈fp,XW X pins H b) (hlt:∀b∈fp,b<s.heap.objs.size) {h':Heap} {t':Nat} (k:∀b u,s.heap.get? b=some u->h'.get? b=some u) (hn:h'.Ns s.heap.objs.size fun _=>none) :
  Inv (X.block N sc cl fp s H) [] (σc σ) H { s with heap:=h',toks:=t' }:=by
 have kin:∀x,(X.block N sc cl fp s H).env.kindOf x=(relabel sc X.env).names.lookup x:=fun _=>rfl
 refine ⟨⟨I.ok.mod,S.kind,I.ok.glob,I.ok.blt,Qf _,fun x y c h1 h2=>I.ok.inj x y c (S.sub x c h1) (S.sub y c h2),fun x hx=>S.has x hx,fun x c z _=>(nomatch z),I.ok.hd,I.ok.frames,.inl rfl,fun b hb=>⟨QB (hlt b hb),fun x c e=>(hf b hb).2.2.2.2.1 x c (S.sub x c e)⟩,
  I.bs,Qq I.ok.bsz I.sz,fun b o e hb=>?_,fun b hb z=>?_,I.stack,I.stkFree⟩,
  rfl,I.bare,Un.kept k,⟨_,hn,fun i x v e1 e2 e3=>?_⟩,fun x c e=>?_,I.hok.fresh (Qf _),fun x c e=>I.freeC x c (S.sub x c e),fun p hp=>absurd (show p∈([]:List (Addr×Obj)) from hp) (by simp),I.hok.kept k,S.len σ⟩
 ·rcases (hf b hb).2.2.2.1 with z|z
  ·exact I.ok.noex b o e z
  ·exact absurd (Qk (Qi e) (Qq I.ok.bsz z)) (QE _)
 ·rcases Qh.mp (I.stkSub b z) with y|y
  ·exact (hf b hb).2.1 y
  ·exact (hf b hb).2.2.1 y
 ·obtain ⟨hk,hko,j,hj,hσ⟩:=S.cap σ i x v e1 e2;obtain ⟨m,hm,hl⟩:=I.loc;obtain ⟨u,r,l⟩:=hl j x v hj hσ (by rcases hko with z|z;exact .inr (.inl z);exact .inr (.inr z));refine ⟨u,r,.inr ⟨hk,?_⟩⟩;rcases l with ⟨q,_⟩|⟨_,c,hc,q⟩
  ·have q':X.env.scope.names.lookup x=some .local:=q;rcases hko with z|z<;>(rw [z] at q';cases q')
  ·obtain ⟨c',hc'⟩:=S.has x hk;have e:=S.sub x c' hc';rw [hc] at e;cases e;exact ⟨c,hc',q.keeps k⟩
 ·obtain ⟨v,q⟩:=I.cell x c (S.sub x c e);exact ⟨v,q.keeps k⟩
end
section
variable {X:Cx} {elt tg iter:Expr} {ifs:List Expr} {sc:Scope} {pos:Pos} {N:List Str} {cl:List (Str×Addr)} {σc:St->St} {wi:TI} {g:TG} {tt:TT} {te:TE}
structure Gone (X:Cx) (pins:List (Addr×Obj)) (H:Hp) (C:Addr):Prop where
 free:H C=none
 loc:C≠X.env.locals
 new:X.s₀.heap.objs.size≤C
 cell:∀x c,X.env.cells.lookup x=some c->c≠C
 pin:∀p∈X.pn++pins,p.1≠C
theorem Inv.gone {pins:List (Addr×Obj)} {σ:St} {H:Hp} {s:Shared} {C:Addr} {h':Heap} (I:Inv X pins σ H s) (G:Gone X pins H C) (sb:Heap.SameBut C s.heap h'):Inv X pins σ H { s with heap:=h' } :=
 I.turned (t':=s.toks) (it:=C) (fun b o n q=>(sb.2 b n).trans q) G.free G.loc (.inr G.new) G.cell G.pin
theorem ZhG {pins:List (Addr×Obj)} {s2:Shared} {σ:St} {H2:Hp} {Q:VK} {RR:Value->Addr->Result->Shared->Prop} {E:Value->Shared->Prop} {it:Addr} {fp:List Addr} {tn:Nat->Heap->Prop} {J:It}
  (hc:X.calm=true) (S:CompSc X N sc cl σc) (hg:∀fp s3 H3,PG (X.block N sc cl fp s3 H3) tg g) (ht:∀fp s3 H3,JI (X.block N sc cl fp s3 H3) ifs tt) (he:∀fp s3 H3,PE (X.block N sc cl fp s3 H3) elt te)
  (I2:Inv X pins σ H2 s2) (T:Turn X.prog X.w X.K tg J fp it tn) (st2:tn 0 s2.heap) (f2:∀b∈fp,XW X pins H2 b)
  (h2:∀D,H2 D=none->∃W:Nat->Nat->St->List V->Hp->Prop,(∃m,W 0 m (σc σ) [] (Zc H2 D (.lst [])))∧∀i m σ1 ys H2,W i m σ1 ys H2->H2 D=some (.lst ys) ∧
   ((J.stop i H2∧Q (.ref D) H2)∨(J.go i H2∧∃N:St->List V->Hp->Prop,(∀σ2 ys2 H3,N σ2 ys2 H3->∃m',m'<m∧W (i+1) m' σ2 ys2 H3) ∧
    ∀x H3,J.yld i H2 x H3->g x σ1 H3 fun σ2 H4=>tt σ2 H4 fun c H5=>if c=true then te σ2 H5 fun y H6=>H6 D=some (.lst ys)∧ys.length<sizeLine∧N σ2 (ys++[y]) (Zc H6 D (.lst (ys++[y]))) else N σ2 ys H5)))
  (hRR:∀D C m s7 H7,Inv X pins σ H7 s7->s7.heap.Ns C m->Gone X pins H7 C->Q (.ref D) H7->RR (.ref D) C (.ok .next) s7) :
  wpAny (model X.prog X.w) X.A (newList []) (fun acc s₃=>wpAny (model X.prog X.w) X.A (newFunctionEnv sc X.env.globals cl [] X.env.qual none .none (some X.env)) (fun cenv s₄ =>
   codeAny (model X.prog X.w) X.A (.compStart (.ListComp elt [⟨tg,iter,ifs,0⟩] sc pos) 0 (.ref it) acc { cenv with scope:=relabel sc X.env }) (RR acc cenv.locals) s₄) E s₃) E s2:=by
 refine Ri ?_;have hD:H2 s2.heap.objs.size=none:=I2.hok.fresh (Qf _)
 have I3:Inv X pins σ (Zc H2 s2.heap.objs.size (.lst [])) { s2 with heap:=s2.heap.push { cls:=.type "list",dict:=none,data:=.seq ([]:List Value).toArray } } :=
  I2.laid (t':=s2.toks) (fun b u q=>Qj _ q) (Qf _) ⟨by decide,[],0,.nil,Qr _ rfl⟩
 have flt:∀b∈fp,b<s2.heap.objs.size:=fun b hb=>by
  obtain ⟨o,e,_⟩:=T.obj _ _ st2 b hb;exact Qi e
 obtain ⟨W,⟨m0,w0⟩,turn⟩:=h2 s2.heap.objs.size hD;have f3:∀b∈fp,XW X pins (Zc H2 s2.heap.objs.size (.lst [])) b:=fun b hb=>⟨by rw [Zd (QB (flt b hb))];exact (f2 b hb).1,(f2 b hb).2⟩;have st3:tn 0 (s2.heap.push { cls:=.type "list",dict:=none,data:=.seq ([]:List Value).toArray }):=T.keep _ _ _ st2 fun b _ o q=>Qj _ q;have sz3:s2.heap.objs.size≤(s2.heap.push { cls:=.type "list",dict:=none,data:=.seq ([]:List Value).toArray }).objs.size:=by rw [Ra];exact QT _
 generalize s2.heap.push { cls:=.type "list",dict:=none,data:=.seq ([]:List Value).toArray }=h3 at *;generalize s2.heap.objs.size=D at *;refine Nr S.nocell (by intro y hy;simp at hy) (fun h4 hn4 hb4=>?_) S.kind;dsimp only at hn4 hb4 ⊢;have k4:∀b u,h3.get? b=some u->h4.get? b=some u:=fun b u q=>(hb4.2 b (QB (Qi q))).trans (Qj _ q)
 have I4:Inv (X.block N sc cl fp { s2 with heap:=h3 } (Zc H2 D (.lst []))) [] (σc σ) (Zc H2 D (.lst [])) { s2 with heap:=h4,toks:=s2.toks+0 } :=
  I3.block S f3 (fun b hb=>Qk (flt b hb) sz3) k4 hn4
 have st4:tn 0 h4:=T.keep _ _ _ st3 fun b _ o q=>k4 b o q
 have fb:∀{H':Hp},(∀b∈fp,H' b=none)->∀b∈fp,XW (X.block N sc cl fp { s2 with heap:=h3 } (Zc H2 D (.lst []))) [] H' b:=fun hn b hb =>
  ⟨hn b hb,(I4.ok.exf b hb).1,I4.ok.exfs b hb,.inl hb,(I4.ok.exf b hb).2,fun p hp=>absurd (show p∈([]:List (Addr×Obj)) from hp) (by simp)⟩
 have fin:∀{σ':St} {H':Hp} {s':Shared} {h':Heap},Inv (X.block N sc cl fp { s2 with heap:=h3 } (Zc H2 D (.lst []))) [] σ' H' s'->Heap.SameBut h3.objs.size s'.heap h'->Inv X pins σ H' { s' with heap:=h' }:=fun {σ' H' s' h'} J' sb=>by
  have lt3:∀b o,h3.get? b=some o->b≠h3.objs.size:=fun b o q=>QB (Qi q);have lo:H' h3.objs.size=none:=J'.free
  have hk:HOk X.prog X.w H' h':=fun b u e=>(J'.hok b u e).stay (fun c v hcc q=>(sb.2 c (by
   rintro rfl;rcases hcc with z|z
   ·subst z;rw [lo] at e;cases e
   ·rw [lo] at z;cases z)).trans q) (fun _ q=>q) fun _ _ q=>q
  refine I3.call' (s':={ s' with heap:=h' }) (ch:=fp) J'.os ⟨fun b o q n hb hx=>(sb.2 b (lt3 b o q)).trans (J'.base.keep b o q n hb hx),fun b o q n hb hx=>?_,fun b o q n hx=>J'.base.free b o q n hx,fun b o q hx=>?_,J'.base.tups,J'.base.frzs,J'.base.tbls⟩ hk J'.bare fun b hb=>?_
  ·obtain ⟨sl,q1⟩:=J'.base.slot b o q n hb hx;exact ⟨sl,(sb.2 b (lt3 b o q)).trans q1⟩
  ·obtain ⟨o1,q1⟩:=J'.base.there b o q hx;exact ⟨o1,(sb.2 b (lt3 b o q)).trans q1⟩
  ·exact ⟨(f3 b hb).2.2.2.1,(f3 b hb).2.1,(f3 b hb).2.2.2.2.1,(f3 b hb).2.2.2.2.2⟩
 have loop : ∀s5 : Shared, Inv (X.block N sc cl fp { s2 with heap := h3 } (Zc H2 D (.lst []))) [] (σc σ) (Zc H2 D (.lst [])) s5 → tn 0 s5.heap →
   codeAny (model X.prog X.w) X.A (.compLoop (.ListComp elt [⟨tg,iter,ifs,0⟩] sc pos) 0 (.ref it) (.ref D) (compEnvC sc cl h3.objs.size X.env)) (RR (.ref D) h3.objs.size) s5:=fun s5 I5 st5=>by
  refine ZmW (fun n s'=>∃i σ' ys H',Inv (X.block N sc cl fp { s2 with heap:=h3 } (Zc H2 D (.lst []))) [] σ' H' s'∧tn i s'.heap∧(∀b∈fp,H' b=none)∧W i n σ' ys H') ?_ m0 ⟨0,_,[],_,I5,st5,fun b hb=>(f3 b hb).1,w0⟩;rintro n s6 ⟨i,σ6,ys,H6,I6,st6,fr6,w6⟩;obtain ⟨hDy,step⟩:=turn i n σ6 ys H6 w6;rcases step with ⟨stop,q6⟩|⟨go,Nx,hN,step⟩
  ·refine Zp (T.done (X.block N sc cl fp { s2 with heap:=h3 } (Zc H2 D (.lst []))) rfl rfl rfl hc i [] s6 σ6 H6 (fun _ _=>False) I6 (fb fr6) st6 stop) fun r s7 ⟨hr,I7⟩=>?_;subst hr;obtain ⟨m7,hm7,_⟩:=I7.loc;refine hRR D h3.objs.size m7 s7 H6 (fin I7 ⟨rfl,fun _ _=>rfl⟩) hm7 ⟨I7.free,Rl I3.lt,I3.sz,fun x c e=>?_,fun p hp=>?_⟩ q6
   ·obtain ⟨v,z⟩:=I3.cell x c e;exact QB z.lt
   ·exact QB (Qi (I3.pin p hp).1)
  ·refine Zp (T.item (X.block N sc cl fp { s2 with heap:=h3 } (Zc H2 D (.lst []))) rfl rfl rfl hc i [] s6 σ6 H6 (fun _ _=>False) I6 (fb fr6) st6 go) fun r s7 ⟨u,hr,h7⟩=>?_;subst hr;refine Zp h7 fun _ s8 ⟨x,H8,I8,r8,y8,st8,fr8⟩=>?_;have I8':=I8.pinned (fb fr8) (T.obj _ _ st8);refine Zp (hg _ _ _ _ s8 σ6 H8 x u _ I8' r8 (step x H8 y8)) fun _ s9 ⟨σ9,H9,I9,q9⟩=>?_;refine Zp (ht _ _ _ _ s9 σ9 H9 _ I9 q9) fun c sA ⟨HA,IA,qA⟩=>?_
   have again : ∀{σB : St} {HB : Hp} {sB : Shared} {zs : List V}, Inv (X.block N sc cl fp { s2 with heap := h3 } (Zc H2 D (.lst []))) ([] ++ JN fp s8.heap) σB HB sB → Nx σB zs HB →
     ∃m,m<n∧∃i σ' ys H',Inv (X.block N sc cl fp { s2 with heap:=h3 } (Zc H2 D (.lst []))) [] σ' H' sB∧tn i sB.heap∧(∀b∈fp,H' b=none)∧W i m σ' ys H':=fun {σB HB sB zs} IB nB=>by
    obtain ⟨m',hm,wB⟩:=hN σB zs HB nB;refine ⟨m',hm,i+1,σB,zs,HB,IB.unpinned,T.keep _ _ _ st8 fun b hb o e=>(IB.pin (b,o) (QS _ (QS _ (ZaS hb e)))).1,fun b hb=>?_,wB⟩;obtain ⟨o,e,d⟩:=T.obj _ _ st8 b hb;exact (IB.pin (b,o) (QS _ (QS _ (ZaS hb e)))).2.1
   cases c with
   |false=>exact again IA qA
   |true =>
    refine Zp (he _ _ _ _ sA σ9 HA _ IA qA) fun y sB ⟨yv,HB,IB,rB,dB,lB,qB⟩=>?_;exact Zp (Va (X:=X.block N sc cl fp { s2 with heap:=h3 } (Zc H2 D (.lst []))) _ sB σ9 HB (.ref D) [yv] (.ref D) [y] (fun v H'=>v=.non∧Nx σ9 (ys++[yv]) H') IB rfl (.cons rB .nil) ⟨D,ys,yv,rfl,rfl,dB,lB,rfl,qB⟩) fun _ sC ⟨_,HC,IC,_,_,qC⟩=>again IC qC
 refine codeAny_compStart_list (loop _ I4 st4) ?_;exact T.self _ 0 _ _ _ st4 (loop _ I4 st4)
theorem U7 (hc:X.calm=true) (S:CompSc X N sc cl σc) (hi:PI X tg iter wi) (hg:∀fp s3 H3,PG (X.block N sc cl fp s3 H3) tg g) (ht:∀fp s3 H3,JI (X.block N sc cl fp s3 H3) ifs tt) (he:∀fp s3 H3,PE (X.block N sc cl fp s3 H3) elt te)
  (hs:∀x,foldedSetIterable iter X.env x=pure x:=by intro _;rfl):PE X (.ListComp elt [⟨tg,iter,ifs,0⟩] sc pos) (Zgm wi σc g tt te):=by
 intro pins s σ H Q I h;rw [eval_ListComp];refine wpAny_comprehension_free rfl hs S.clos S.kind S.names (Zp (hi pins s σ H _ I h) fun v s1 h1=>Zp h1 fun itv s2 h2=>?_);obtain ⟨it,fp,tn,J,H2,e,I2,T,st2,f2,h2⟩:=h2;subst e;exact ZhG (Q:=Q) hc S hg ht he I2 T st2 f2 h2 fun D C m s7 H7 I7 n7 G q=>⟨m,n7,fun h' sb=>⟨.ref D,H7,I7.gone G sb,rfl,q⟩⟩
theorem Zom {i:Nat} {x:Str} {pos' spos:Pos} (hc:X.calm=true) (hN:X.N.Nodup) (hi':X.N[i]?=some x) (hx:Loc X.env.scope x) (S:CompSc X N sc cl σc) (hi:PI X tg iter wi)
  (hg:∀fp s3 H3,PG (X.block N sc cl fp s3 H3) tg g) (ht:∀fp s3 H3,JI (X.block N sc cl fp s3 H3) ifs tt) (he:∀fp s3 H3,PE (X.block N sc cl fp s3 H3) elt te)
  (hs:∀x,foldedSetIterable iter X.env x=pure x:=by intro _;rfl) (hsw:swapsWith (.ListComp elt [⟨tg,iter,ifs,0⟩] sc pos) (some (.Name x pos')) spos.line X.env=pure true:=by rfl)
  (hf:X.fn x=true∨X.env.scope.names.lookup x=some .local:=by first|exact .inl rfl|exact .inr rfl|assumption) :
  PS X (.Assign [.Name x pos'] (.ListComp elt [⟨tg,iter,ifs,0⟩] sc pos) spos) (JU (Zgm wi σc g tt te) (Yj i)):=by
 intro pins s σ H D I h;rw [exec_Assign_Name_used _ _ _ _ hsw];refine Qc (wpAny_standAt (Qc ?_));show wpAny _ _ (comprehension (.ListComp elt [⟨tg,iter,ifs,0⟩] sc pos) sc X.env (firstIterPos [⟨tg,iter,ifs,0⟩] pos) (newList []) (firstAsync [⟨tg,iter,ifs,0⟩]) (firstIter [⟨tg,iter,ifs,0⟩] X.env) (some (assign (.Name x pos') X.env)) >>= fun _=>pure ()) _ _ s;refine Qc (Q2 (Q:=fun _ s'=>SP X pins D .next s') ?_ (fun _ s' q=>Qe (Qe q)) fun _ _ z=>z);refine wpAny_comprehension_free rfl hs S.clos S.kind S.names (Zp (hi pins s σ H _ I h) fun v s1 h1=>Zp h1 fun itv s2 h2=>?_);obtain ⟨it,fp,tn,J,H2,e,I2,T,st2,f2,h2⟩:=h2;subst e;refine ZhG (Q:=fun v H'=>D.nx (σ.set i (some v)) H') hc S hg ht he I2 T st2 f2 h2 fun d C m s7 H7 I7 n7 G q=>?_;show wpAny _ _ (assign (.Name x pos') X.env (.ref d)) _ _ s7;refine wpAny_assign_Name (ZfR (v:=.ref d) I7 hN hi' hx rfl (fun s8 I8 ch=>?_) hf);obtain ⟨a,sb,ha⟩:=ch
 have aC:C≠a:=by
  rcases ha with z|z
  ·rw [z];exact G.loc
  ·exact (G.cell x a z).symm
 exact ⟨m,n7.sameBut sb aC,fun h' sb'=>⟨_,H7,I8.gone G sb',q⟩⟩
end
noncomputable def Itw (n:Nat) (V1:Nat->V->Prop):It:=⟨fun i _=>i<n,fun i H x H'=>H'=H∧V1 i x,fun i _=>i=n⟩
theorem ZhR {P:Program} {w:World} {K:PySem.W.Frag} {tg:Expr} {it:Addr} {n:Nat} {Pv:Nat->Value->Prop} {V1:Nat->V->Prop} {st:Nat->Heap->Prop}
  (W:∀A:Around,A.handled=none->Walks P w A it [it] [it] n Pv st) (ob:∀i h,st i h->∃o,h.get? it=some o∧∀v,o.data≠.cell v) (val:∀i v,Pv i v->∃x,RelV x v∧V1 i x)
  (own:∀i v s (M:Model) (A:Around) (E:Value->Shared->Prop) (Q:Unit->Shared->Prop),Pv i v->Q () s->wpAny M A (letOwnedTupleGo tg (.ref it) v) Q E s)
  (self:∀(A:Around) (i:Nat) (s:Shared) (Q:Value->Shared->Prop) (E:Value->Shared->Prop),st i s.heap->Q (.ref it) s->wpAny (model P w) A (pyIter (.ref it)) Q E s):Turn P w K tg (Itw n V1) [it] it st where
 mem:=by simp
 obj:=fun i h hs b hb=>by
  have e:b=it:=by simpa using hb
  subst e;exact ob i h hs
 keep:=fun i h h' hs k=>(W {} rfl).frame i h h' hs k
 item:=fun X hP hw hK hc i pins s σ H E I hf hs go=>by
  subst hP hw hK;refine (W X.A (I.ok.hd hc)).item i s _ E go hs fun v h' tk pv hs' k=>⟨v,rfl,?_⟩;obtain ⟨x,rx,vx⟩:=val i v pv;obtain ⟨f0,f1,_,f3,f4,f5⟩:=hf it (by simp);have I':Inv X pins σ H { s with heap:=h',toks:=tk }:=I.turned (it:=it) (fun b o n q=>k b o (by simpa using n) q) f0 f1 f3 f4 f5;refine own i v _ _ _ _ _ pv ⟨x,H,I',rx,⟨rfl,vx⟩,hs',fun b hb=>?_⟩;have e:b=it:=by simpa using hb
  subst e;exact f0
 done:=fun X hP hw hK hc i pins s σ H E I hf hs stop=>by
  subst hP hw hK;have e:i=n:=stop;subst e;obtain ⟨f0,f1,_,f3,f4,f5⟩:=hf it (by simp);exact (W X.A (I.ok.hd hc)).done s _ E hs fun h' tk k=>⟨rfl,I.turned (it:=it) (fun b o n q=>k b o (by simpa using n) q) f0 f1 f3 f4 f5⟩
 self:=self
def Zpr (te:TE):TI:=fun σ H R=>te σ H fun x H1=>∃z,x=.str z∧R (Itw z.cps.size fun i y=>∃c,z.cps[i]?=some c∧y=.str ⟨#[c]⟩) H1
theorem Zf8 {M:Model} {A:Around} {E:Value->Shared->Prop} {s:Shared} {tg:Expr} {it:Addr} {z:Str} {t:Tok} {Q:Unit->Shared->Prop} (q:Q () s):wpAny M A (letOwnedTupleGo tg (.ref it) (.str z t)) Q E s:=by
 unfold letOwnedTupleGo;cases tg<;>exact Qe q
theorem Zo7 {X:Cx} {tg e:Expr} {te:TE} (he:PE X e te):PI X tg e (Zpr te):=by
 intro pins s σ H R I h;refine Zp (he pins s σ H _ I h) fun v s1 ⟨x,H1,I1,r1,z,e1,q⟩=>?_;subst e1;obtain ⟨t,rfl⟩:=r1;have fr:H1 s1.heap.objs.size=none:=I1.hok.fresh (Qf _);by_cases low:z.cps.all (·<128)=true
 ·refine wpAny_pyIter_ascii low ⟨s1.heap.objs.size,[s1.heap.objs.size],fun i h=>h.IsStrIter s1.heap.objs.size "str_ascii_iterator" z t i,_,H1,rfl,I1.kept (t':=s1.toks) fun b u q=>Qj _ q,
   ZhR (fun A hA=>Walks.strAscii hA _ z t) (fun i h ⟨o,ho,_,hd⟩=>⟨o,ho,fun v q=>by rw [hd] at q;cases q⟩) (fun i v ⟨c,u,hc,hv⟩=>⟨.str ⟨#[c]⟩,⟨u,hv⟩,c,hc,rfl⟩) (fun i v s M A E Q ⟨c,u,_,hv⟩ hq=>by rw [hv];exact Zf8 hq) fun A i s Q E hs hq=>wpAny_pyIter_striter_ascii hs hq,
   ⟨_,Qr _ rfl,rfl,rfl⟩,fun b hb=>?_,q⟩
  have e:b=s1.heap.objs.size:=by simpa using hb
  subst e;exact I1.fpOk (Qf _) fr
 ·refine wpAny_pyIter_wide (Rj.mpr low) ⟨s1.heap.objs.size,[s1.heap.objs.size],fun i h=>h.IsStrIter s1.heap.objs.size "str_iterator" z t i,_,H1,rfl,I1.kept (t':=s1.toks) fun b u q=>Qj _ q,
   ZhR (fun A hA=>Walks.strWide hA _ z t) (fun i h ⟨o,ho,_,hd⟩=>⟨o,ho,fun v q=>by rw [hd] at q;cases q⟩) (fun i v ⟨c,u,hc,hv⟩=>⟨.str ⟨#[c]⟩,⟨u,hv⟩,c,hc,rfl⟩) (fun i v s M A E Q ⟨c,u,_,hv⟩ hq=>by rw [hv];exact Zf8 hq) fun A i s Q E hs hq=>wpAny_pyIter_striter_wide hs hq,
   ⟨_,Qr _ rfl,rfl,rfl⟩,fun b hb=>?_,q⟩
  have e:b=s1.heap.objs.size:=by simpa using hb
  subst e;exact I1.fpOk (Qf _) fr
section
variable {prog:Program} {w:World} {A:Around} {s:Shared}
theorem Zdm (hh:A.handled=none) (it t:Addr) (hne:t≠it) (us:Array Value) :
  Draws prog w A it [it,t] us.size (fun i v=>us[i]?=some v) (fun i h=>h.IsTupleIter it t i∧h.IsTuple t us) where
 live:=fun _ _ ⟨⟨o,e,_⟩,_⟩=>⟨o,e⟩
 frame:=fun _ _ _ ⟨⟨o,e,r⟩,⟨o',e',r'⟩⟩ k=>⟨⟨o,k it (by simp) o e,r⟩,⟨o',k t (by simp) o' e',r'⟩⟩
 item:=by
  intro i s Q E hi ⟨st,ht⟩ hQ;have e:us[i]?=some us[i]:=by simp [hi]
  obtain ⟨o,ho,c,d⟩:=id st;obtain ⟨ot,hot,_,n,dt⟩:=id ht;unfold Builtin.SmallTypes.nextOf;refine Qc (Rn (name:=Str.ofString "__next__") st.typeIs GO (Re GO st.typeIs F.entry_tuple_iterator_next ?_ (F.args_tuple_iterator_next_1 _)));unfold Builtin.«tuple_iterator.__next__»;refine Qc (m:=field (.ref it) 0) (QM ho d (x:=.ref t) rfl ?_);rw [Qa (show ¬((Value.ref t==Value.none)=true) from QJ)];refine Qc (m:=field (.ref it) 1) (QM ho d (x:=.int i 0) rfl (Qc (m:=seqItems? (.ref t)) (RO hot dt ?_)));simp only [GF,e];have sb:=Gk s.heap it (Obj.mapFields (·.setIfInBounds 1 (rawInt (i+1))));exact Qc (wpAny_setField ho d (by simp) (Qe ⟨_,rfl,Qe (hQ _ _ s.toks e ⟨⟨_,Ng _ ho (Obj.isFreed_of_fields (Obj.data_mapFields d _)),(Obj.cls_mapFields ..).trans c,by rw [Obj.data_mapFields d];simp [rawInt]⟩,ht.extBut sb.extBut hne⟩ sb)⟩))
 done:=by
  intro s Q E ⟨st,ht⟩ hE;have e:us[us.size]?=none:=by simp
  obtain ⟨o,ho,c,d⟩:=id st;obtain ⟨ot,hot,_,n,dt⟩:=id ht;unfold Builtin.SmallTypes.nextOf;refine Qc (Rn (name:=Str.ofString "__next__") st.typeIs GO (Re GO st.typeIs F.entry_tuple_iterator_next ?_ (F.args_tuple_iterator_next_1 _)));unfold Builtin.«tuple_iterator.__next__»;refine Qc (m:=field (.ref it) 0) (QM ho d (x:=.ref t) rfl ?_);rw [Qa (show ¬((Value.ref t==Value.none)=true) from QJ)];refine Qc (m:=field (.ref it) 1) (QM ho d (x:=.int us.size 0) rfl (Qc (m:=seqItems? (.ref t)) (RO hot dt ?_)));simp only [GF,e];refine Qc (RP (Qc (wpAny_setField ho d (by simp) ?_)));refine Qc (m:=newExc (.type "StopIteration") []) ?_;simp only [newExc,newTuple];refine Qc (Ri (Qc (m:=firstArgMember _ _) (Rx (a:=Value.none) (by first|rfl|(simp only [firstArgMember];rfl)) (Ri ?_ (by size_fits)))) (by size_fits));simp only [raiseNew];refine Qc (wpAny_handled ?_)
  first|rw [show A.in1.handled=none from hh]|rw [hh]
  exact Qc (Qe (wpAny_throw (hE _ _ (((Gk ..).extBut.push _).push _) ⟨_,Qr _ rfl,rfl⟩)))
end
structure ZAp (z TI TO i1 i2:Addr) (f1 f2:List Addr):Prop where
 TIz:TI≠z
 TOz:TO≠z
 i1z:i1≠z
 i2z:i2≠z
 TITO:TI≠TO
 TIi1:TI≠i1
 TIi2:TI≠i2
 TOi1:TO≠i1
 TOi2:TO≠i2
 i12:i1≠i2
 z1:z∉f1
 z2:z∉f2
 o1:TO∉f1
 o2:TO∉f2
 b1:i2∉f1
 b2:i1∉f2
section
variable {prog:Program} {w:World} {A:Around} {E:Value->Shared->Prop} {s:Shared} {z TI TO i1 i2:Addr} {f1 f2:List Addr} {n1 n2 k1 k2:Nat} {P1 P2:Nat->Value->Prop} {S1 S2:Nat->Heap->Prop} {a b:Value}
theorem Draws.but {it c:Addr} {fp:List Addr} {n i:Nat} {P:Nat->Value->Prop} {St:Nat->Heap->Prop} {h h':Heap} (D:Draws prog w A it fp n P St) (st:St i h) (e:Heap.ExtBut c h h') (hc:c∉fp):St i h' :=
 D.frame _ _ _ st fun b hb o q=>e b o (fun x=>hc (x▸hb)) q
theorem Zkh {Q:Value->Shared->Prop} (Z:ZAp z TI TO i1 i2 f1 f2) (D1:Draws prog w A i1 f1 n1 P1 S1) (D2:Draws prog w A i2 f2 n2 P2 S2) (hz:IsZip s.heap z TI TO .none) (hTI:IsPair s.heap TI (.ref i1) (.ref i2)) (hTO:IsPair s.heap TO a b)
  (g1:S1 k1 s.heap) (g2:S2 k2 s.heap) (l1:k1<n1) (l2:k2<n2)
  (hQ:∀x y h' tk,P1 k1 x->P2 k2 y->IsZip h' z TI TO (rawInt s.heap.objs.size)->IsPair h' TO x y->S1 (k1+1) h'->S2 (k2+1) h'->IsPair h' s.heap.objs.size x y →
   (∀c o,c≠z->c≠TO->c≠i1->c≠i2->s.heap.get? c=some o->h'.get? c=some o)->Q (.ref s.heap.objs.size) { s with heap:=h',toks:=tk }) :
  wpAny (model prog w) A (Builtin.«zip.__next__» ⟨[.ref z],[]⟩) (fun fin s'=>∃v,fin=.done (.ret v)∧Q v s') E s:=by
 unfold Builtin.«zip.__next__»;refine Qc (m:=field (.ref z) 2) (QM hz rfl (x:=.bool false) rfl ?_);refine Qc (m:=field (.ref z) 3) (QM hz rfl (x:=.ref TI) rfl (Qc (RO hTI rfl ?_)));refine Qc (m:=Builtin.SmallTypes.ownedTupleIsFree (.ref z)) ?_;unfold Builtin.SmallTypes.ownedTupleIsFree;refine Qc (QM hz rfl (x:=.none) rfl (Qe ?_));simp only [Ru];refine Qc (RP (Qc (QM hz rfl (x:=.ref TO) rfl (Qc (Ry hz (by simp) fun hA zA sA=>Qc ?_)))));replace zA:IsZip hA z TI TO .ellipsis:=zA;simp only [List.zipIdx_cons,List.zipIdx_nil,Nt,List.forIn_nil];refine Qc (Qc (wpAny_onRaise (Qc (m:=Builtin.SmallTypes.nextOf (.ref i1)) (D1.item k1 _ _ _ l1 (Draws.but D1 g1 sA.extBut Z.z1) fun x hB tB px gB sB=>Qe ?_))));have oB:IsPair hB TO a b:=sB.extBut _ _ Z.TOi1 (sA.extBut _ _ Z.TOz hTO);refine Qc (RO oB rfl (Qc (wpAny_updateSeq_pair oB fun hC oC sC=>Qc (wpAny_letGo (Qe ?_)))));replace oC:IsPair hC TO x b:=oC;refine Qc (Qc (wpAny_onRaise (Qc (m:=Builtin.SmallTypes.nextOf (.ref i2)) (D2.item k2 _ _ _ l2 (Draws.but D2 (Draws.but D2 (Draws.but D2 g2 sA.extBut Z.z2) sB.extBut Z.b2) sC.extBut Z.o2) fun y hD tD py gD sD=>Qe ?_))));have oD:IsPair hD TO x b:=sD.extBut _ _ Z.TOi2 oC;refine Qc (RO oD rfl (Qc (wpAny_updateSeq_pair oD fun hE oE sE=>Qc (wpAny_letGo (Qe (Qe ?_))))));replace oE:IsPair hE TO x y:=oE;have zE:IsZip hE z TI TO .ellipsis:=sE.extBut _ _ Z.TOz.symm (sD.extBut _ _ Z.i2z.symm (sC.extBut _ _ Z.TOz.symm (sB.extBut _ _ Z.i1z.symm zA)));have sz:hE.objs.size=s.heap.objs.size:=by rw [sE.1,sD.1,sC.1,sB.1,sA.1]
 have kE:∀c o,c≠z->c≠TO->c≠i1->c≠i2->s.heap.get? c=some o->hE.get? c=some o:=fun c o c1 c2 c3 c4 e=>sE.extBut _ _ c2 (sD.extBut _ _ c4 (sC.extBut _ _ c2 (sB.extBut _ _ c3 (sA.extBut _ _ c1 e))));have d1:S1 (k1+1) hE:=Draws.but D1 (Draws.but D1 (Draws.but D1 gB sC.extBut Z.o1) sD.extBut Z.b1) sE.extBut Z.o1;have d2:S2 (k2+1) hE:=Draws.but D2 gD sE.extBut Z.o2;refine Qc (RO oE rfl (Qc (wpAny_newTuple ?_)));refine Qc (m:=Builtin.SmallTypes.ownedTupleHandOut (.ref z) (.ref hE.objs.size)) ?_;unfold Builtin.SmallTypes.ownedTupleHandOut;have zF:IsZip (hE.push { cls:=.type "tuple",data:=.seq #[x,y] }) z TI TO .ellipsis:=Qj _ zE;refine Qc (Ry zF (by simp) fun hG zG sG=>?_);replace zG:IsZip hG z TI TO (rawInt hE.objs.size):=zG;refine Ry zG (by simp) fun hI zI sI=>Qe ⟨_,rfl,?_⟩;replace zI:IsZip hI z TI TO (rawInt hE.objs.size):=zI;have up:∀c o,c≠z->hE.get? c=some o->hI.get? c=some o:=fun c o c1 e=>sI.extBut _ _ c1 (sG.extBut _ _ c1 (Qj _ e));have zl:hE.objs.size≠z:=Rl (Qi zE);have tI:IsPair hI hE.objs.size x y:=sI.extBut _ _ zl (sG.extBut _ _ zl (Qr _ rfl));show Q (.ref hE.objs.size) _;rw [sz] at zI tI ⊢;exact hQ x y hI tD px py zI (up _ _ Z.TOz oE) (D1.frame _ _ _ d1 fun c hc o e=>up c o (fun q=>Z.z1 (q▸hc)) e) (D2.frame _ _ _ d2 fun c hc o e=>up c o (fun q=>Z.z2 (q▸hc)) e) tI fun c o c1 c2 c3 c4 e=>up c o c1 (kE c o c1 c2 c3 c4 e)
theorem Zns {Q:Fin->Shared->Prop} (Z:ZAp z TI TO i1 i2 f1 f2) (D1:Draws prog w A i1 f1 n1 P1 S1) (hz:IsZip s.heap z TI TO .none) (hTI:IsPair s.heap TI (.ref i1) (.ref i2))
  (g1:S1 n1 s.heap)
  (hE:∀h' e,(∀c o,c≠z->c≠TO->c≠i1->c≠i2->s.heap.get? c=some o->h'.get? c=some o)->(∃o,h'.get? e=some o∧o.cls=.type "StopIteration")->E (.ref e) { s with heap:=h' }) :
  wpAny (model prog w) A (Builtin.«zip.__next__» ⟨[.ref z],[]⟩) Q E s:=by
 unfold Builtin.«zip.__next__»;refine Qc (m:=field (.ref z) 2) (QM hz rfl (x:=.bool false) rfl ?_);refine Qc (m:=field (.ref z) 3) (QM hz rfl (x:=.ref TI) rfl (Qc (RO hTI rfl ?_)));refine Qc (m:=Builtin.SmallTypes.ownedTupleIsFree (.ref z)) ?_;unfold Builtin.SmallTypes.ownedTupleIsFree;refine Qc (QM hz rfl (x:=.none) rfl (Qe ?_));simp only [Ru];refine Qc (RP (Qc (QM hz rfl (x:=.ref TO) rfl (Qc (Ry hz (by simp) fun hA zA sA=>Qc ?_)))));replace zA:IsZip hA z TI TO .ellipsis:=zA;simp only [List.zipIdx_cons,List.zipIdx_nil,Nt,List.forIn_nil];refine Qc (Qc (wpAny_onRaise (Qc (m:=Builtin.SmallTypes.nextOf (.ref i1)) (D1.done _ _ _ (Draws.but D1 g1 sA.extBut Z.z1) fun hB e sB he=>?_))));obtain ⟨o,ho,c⟩:=he;have zB:IsZip hB z TI TO .ellipsis:=sB _ _ Z.i1z.symm zA
 have ez:e≠z:=fun q=>by
  subst q;rw [zB] at ho;cases ho;simp at c
 exact Ry zB (by simp) fun hC _ sC=>hE hC e (fun c o c1 _ c3 _ q=>sC.extBut _ _ c1 (sB _ _ c3 (sA.extBut _ _ c1 q))) ⟨o,sC.extBut _ _ ez ho,c⟩
theorem ZmS {Q:Option Value->Shared->Prop} (Z:ZAp z TI TO i1 i2 f1 f2) (D1:Draws prog w A.in1 i1 f1 n1 P1 S1) (D2:Draws prog w A.in1 i2 f2 n2 P2 S2) (hz:IsZip s.heap z TI TO .none) (hTI:IsPair s.heap TI (.ref i1) (.ref i2)) (hTO:IsPair s.heap TO a b)
  (g1:S1 k1 s.heap) (g2:S2 k2 s.heap) (l1:k1<n1) (l2:k2<n2)
  (hQ:∀x y h' tk,P1 k1 x->P2 k2 y->IsZip h' z TI TO (rawInt s.heap.objs.size)->IsPair h' TO x y->S1 (k1+1) h'->S2 (k2+1) h'->IsPair h' s.heap.objs.size x y →
   (∀c o,c≠z->c≠TO->c≠i1->c≠i2->s.heap.get? c=some o->h'.get? c=some o)->Q (some (.ref s.heap.objs.size)) { s with heap:=h',toks:=tk }) :
  wpAny (model prog w) A (pyNext (.ref z)) Q E s:=by
 have T:s.TypeIs (.ref z) "zip":=⟨_,hz,rfl⟩;unfold pyNext
 exact Qc (Gm (Rn (name:=Str.ofString "__next__") T GP (Re GP T F.entry_zip_next
  (Zkh Z D1 D2 hz hTI hTO g1 g2 l1 l2 fun x y h' tk a1 a2 a3 a4 a5 a6 a7 a8=>Qe (hQ x y h' tk a1 a2 a3 a4 a5 a6 a7 a8)) (F.args_zip_next_1 _))))
theorem Znn {Q:Option Value->Shared->Prop} (Z:ZAp z TI TO i1 i2 f1 f2) (D1:Draws prog w A.in1 i1 f1 n1 P1 S1) (hz:IsZip s.heap z TI TO .none) (hTI:IsPair s.heap TI (.ref i1) (.ref i2)) (g1:S1 n1 s.heap)
  (hQ:∀h',(∀c o,c≠z->c≠TO->c≠i1->c≠i2->s.heap.get? c=some o->h'.get? c=some o)->Q none { s with heap:=h' }):wpAny (model prog w) A (pyNext (.ref z)) Q E s:=by
 have T:s.TypeIs (.ref z) "zip":=⟨_,hz,rfl⟩;unfold pyNext;refine Qc (Gm (Rn (name:=Str.ofString "__next__") T GP (Re GP T F.entry_zip_next (Zns Z D1 hz hTI g1 fun h' e k he=>?_) (F.args_zip_next_1 _))));obtain ⟨o,ho,c⟩:=he;exact Qc (Nu (T:="StopIteration") (b:=true) ⟨o,ho,c⟩ isSubtype_stop (Qe (hQ _ k)))
end
section
variable {X:Cx} {pins:List (Addr×Obj)} {σ:St} {H:Hp} {s:Shared} {h':Heap}
theorem Inv.turnedAll {t':Nat} {ch:List Addr} (I:Inv X pins σ H s) (hf:∀b∈ch,XW X pins H b) (k:∀b o,b∉ch->s.heap.get? b=some o->h'.get? b=some o):Inv X pins σ H { s with heap:=h',toks:=t' }:=by
 have nit:∀b u,H b=some u->b∉ch:=fun b u e z=>by rw [(hf b z).1] at e;cases e
 refine I.step (g':=s.gens) (d':=s.drawn) (ch:=ch) (fun b hb=>⟨(hf b hb).2.2.2.1,(hf b hb).2.1,(hf b hb).2.2.2.2⟩) (fun b o _ _ hc e _=>k b o hc e) (fun b o _ _ hc e _=>⟨o.slots,k b o hc e⟩) (fun _ _ _ _ n=>n)
  (fun b o hc e=>⟨o,k b o hc e⟩) (fun _ _ e=>e) (fun _ _ _ e=>e) (fun b ps e=>⟨#[],by rw [e];simp⟩) (fun m hm=>?_) (fun b u e=>?_) I.bare
 ·obtain ⟨o,es,ep,ho,r⟩:=hm;exact ⟨o,es,ep,k _ o (fun z=>(hf _ z).2.1 rfl) ho,r⟩
 ·refine (I.hok b u e).stay (fun c v hc q=>k c v ?_ q) (fun _ q=>q) fun _ _ q=>q;rcases hc with z|z
  ·rw [z];exact nit b u e
  ·exact nit c _ z
theorem Inv.turnedLaid {t':Nat} {ch:List Addr} {T:Addr} {o:HO} (I:Inv X pins σ H s) (hf:∀b∈ch,XW X pins H b) (k:∀b o,b∉ch->s.heap.get? b=some o->h'.get? b=some o) (hp:s.heap.objs.size≤T) (new:ObjOk X.prog X.w (Zc H T o) h' T o) :
  Inv X pins σ (Zc H T o) { s with heap:=h',toks:=t' }:=by
 have nit:∀b u,H b=some u->b∉ch:=fun b u e z=>by rw [(hf b z).1] at e;cases e
 have hn:=I.hok.fresh hp;have up:∀{b u},H b=some u->Zc H T o b=some u:=fun {b u} e=>by rw [Zd (ZF e hn)];exact e
 refine I.step (g':=s.gens) (d':=s.drawn) (ch:=ch) (fun b hb=>⟨(hf b hb).2.2.2.1,(hf b hb).2.1,(hf b hb).2.2.2.2⟩) (fun b o _ _ hc e _=>k b o hc e) (fun b o _ _ hc e _=>⟨o.slots,k b o hc e⟩) (fun b u _ e n=>?_)
  (fun b o hc e=>⟨o,k b o hc e⟩) (fun _ _ e=>up e) (fun _ _ _ e=>up e) (fun b ps e=>⟨#[],by rw [up e];simp⟩) (fun m hm=>?_) (fun b u e=>?_) I.bare
 ·rw [Zd (fun z=>absurd (Qi e) (by rw [z];exact Nat.not_lt.mpr hp))];exact n
 ·obtain ⟨o,es,ep,ho,r⟩:=hm;exact ⟨o,es,ep,k _ o (fun z=>(hf _ z).2.1 rfl) ho,r⟩
 ·by_cases hb:b=T
  ·subst hb;rw [Zf] at e;cases e;exact new
  ·rw [Zd hb] at e;refine (I.hok b u e).stay (fun c v hc q=>k c v ?_ q) (fun _ q=>up q) fun _ _ q=>up q;rcases hc with z|z
   ·rw [z];exact nit b u e
   ·exact nit c _ z
end
noncomputable def Itz (K:W.Frag) (a b:Addr):It :=
 ⟨fun i H => ∃xs ys x y, SqT K H a xs ∧ SqT K H b ys ∧ xs[i]?=some x ∧ ys[i]?=some y,
  fun i H v H'=>∃T x y,H T=none∧v=.ref T∧(∀xs,SqT K H a xs->xs[i]?=some x)∧(∀ys,SqT K H b ys->ys[i]?=some y)∧H'=Zc H T (.tup [x,y]),
  fun i H=>∃xs,SqT K H a xs∧xs.length=i⟩
def ZSt (z TI TO i1 i2 a b:Addr) (i:Nat) (h:Heap):Prop:=IsZip h z TI TO .none∧IsPair h TI (.ref i1) (.ref i2)∧(∃u v,IsPair h TO u v)∧h.IsTupleIter i1 a i∧h.IsTupleIter i2 b i
theorem ZlY {P:Program} {w:World} {K:W.Frag} {es:List Expr} {n:Nat} {pos:Pos} {z TI TO i1 i2 a b:Addr} (Z:ZAp z TI TO i1 i2 [i1,a] [i2,b]) (ha:a≠i1) (hb:b≠i2) :
  Turn P w K (.Tuple es n pos) (Itz K a b) [z,TI,TO,i1,i2] z (ZSt z TI TO i1 i2 a b) where
 mem:=by simp
 obj:=fun i h ⟨h1,h2,⟨u,v,h3⟩,⟨o4,h4,_,d4⟩,⟨o5,h5,_,d5⟩⟩ c hc=>by
  simp only [Qh,QF,QG] at hc;rcases hc with rfl|rfl|rfl|rfl|rfl
  ·exact ⟨_,h1,fun v q=>by cases q⟩
  ·exact ⟨_,h2,fun v q=>by cases q⟩
  ·exact ⟨_,h3,fun v q=>by cases q⟩
  ·exact ⟨_,h4,fun v q=>by rw [d4] at q;cases q⟩
  ·exact ⟨_,h5,fun v q=>by rw [d5] at q;cases q⟩
 keep:=fun i h h' ⟨h1,h2,⟨u,v,h3⟩,⟨o4,h4,r4⟩,⟨o5,h5,r5⟩⟩ k =>
  ⟨k _ (by simp) _ h1,k _ (by simp) _ h2,⟨u,v,k _ (by simp) _ h3⟩,⟨o4,k _ (by simp) _ h4,r4⟩,⟨o5,k _ (by simp) _ h5,r5⟩⟩
 item:=by
  intro X hP hw hK hc i pins s σ H E I hf ⟨h1,h2,⟨u,v,h3⟩,h4,h5⟩ ⟨xs,ys,x,y,qa,qb,ex,ey⟩;subst hP hw hK;obtain ⟨as,ra,ta,la⟩:=I.tuple qa;obtain ⟨bs,rb,tb,lb⟩:=I.tuple qb;have hh:X.A.in1.handled=none:=I.ok.hd hc;have la':=ra.length;have lb':=rb.length
  have lx:i<as.toArray.size:=by
   have:=(QH.mp ex).1;simp only [Qv];omega
  have ly:i<bs.toArray.size:=by
   have:=(QH.mp ey).1;simp only [Qv];omega
  refine ZmS Z (Zdm hh i1 a ha as.toArray) (Zdm hh i2 b hb bs.toArray) h1 h2 h3 ⟨h4,ta⟩ ⟨h5,tb⟩ lx ly fun u1 u2 h' tk p1 p2 z1 o1 g1 g2 t1 k=>?_;refine ⟨_,rfl,wpAny_letOwnedTupleGo_zip z1 fun h'' z2 sb=>?_⟩;have lz:z<s.heap.objs.size:=Qi h1;have nz:s.heap.objs.size≠z:=Rl lz;obtain ⟨v1,e1,r1⟩:=ra.get ex;obtain ⟨v2,e2,r2⟩:=rb.get ey
  have q1:v1=u1:=by
   have p:as[i]?=some u1:=by simpa using p1
   rw [e1] at p;exact Qo p
  have q2:v2=u2:=by
   have p:bs[i]?=some u2:=by simpa using p2
   rw [e2] at p;exact Qo p
  subst q1 q2
  have kk:∀c o,c∉[z,TI,TO,i1,i2]->s.heap.get? c=some o->h''.get? c=some o:=fun c o hc e=>by
   simp only [Qh,QF,QG,not_or] at hc;exact sb.extBut _ _ hc.1 (k c o hc.1 hc.2.2.1 hc.2.2.2.1 hc.2.2.2.2 e)
  have tt:IsPair h'' s.heap.objs.size v1 v2:=sb.extBut _ _ nz t1;have I':=I.turnedLaid (t':=tk) (o:=.tup [x,y]) hf kk (Qf _) (show ObjOk X.prog X.w _ h'' _ (.tup [x,y]) from ⟨ZK (by simp),[v1,v2],.cons r1 (.cons r2 .nil),⟨_,tt,rfl,_,rfl⟩⟩);refine ⟨.ref s.heap.objs.size,_,I',rfl,⟨s.heap.objs.size,x,y,I.hok.fresh (Qf _),rfl,fun zs hz=>by rw [I.tuple_inj hz qa];exact ex,fun zs hz=>by rw [I.tuple_inj hz qb];exact ey,rfl⟩,?_,fun c hc=>?_⟩
  ·exact ⟨z2,sb.extBut _ _ Z.TIz (k _ _ Z.TIz Z.TITO Z.TIi1 Z.TIi2 h2),⟨_,_,sb.extBut _ _ Z.TOz o1⟩,g1.1.extBut sb.extBut Z.i1z,g2.1.extBut sb.extBut Z.i2z⟩
  ·have hlt:c<s.heap.objs.size:=by
    simp only [Qh,QF,QG] at hc;obtain ⟨o4,e4,_⟩:=h4;obtain ⟨o5,e5,_⟩:=h5;rcases hc with rfl|rfl|rfl|rfl|rfl
    ·exact lz
    ·exact Qi h2
    ·exact Qi h3
    ·exact Qi e4
    ·exact Qi e5
   rw [Zd (QB hlt)];exact (hf c hc).1
 done:=by
  intro X hP hw hK hc i pins s σ H E I hf ⟨h1,h2,⟨u,v,h3⟩,h4,h5⟩ ⟨xs,qa,hl⟩;subst hP hw hK;obtain ⟨as,ra,ta,la⟩:=I.tuple qa;have hh:X.A.in1.handled=none:=I.ok.hd hc
  have e:i=as.toArray.size:=by
   have:=ra.length;simp only [Qv];omega
  subst e;refine Znn (f2:=[i2,b]) Z (Zdm hh i1 a ha as.toArray) h1 h2 ⟨h4,ta⟩ fun h' k=>⟨rfl,I.turnedAll (t':=s.toks) hf fun c o hc e=>?_⟩;simp only [Qh,QF,QG,not_or] at hc;exact k c o hc.1 hc.2.2.1 hc.2.2.2.1 hc.2.2.2.2 e
 self:=fun _ _ _ _ _ st h=>wpAny_pyIter_zip st.1 h
theorem ZiW {prog:Program} {w:World} {A:Around} {E:Value->Shared->Prop} {s:Shared} {a b:Addr} {us vs:Array Value} {Q:Value->Shared->Prop} (ha:s.heap.IsTuple a us) (hb:s.heap.IsTuple b vs)
  (h:∀h',ZSt (s.heap.objs.size+4) (s.heap.objs.size+2) (s.heap.objs.size+3) s.heap.objs.size (s.heap.objs.size+1) a b 0 h'->(∀c o,s.heap.get? c=some o->h'.get? c=some o)->Q (.ref (s.heap.objs.size+4)) { s with heap:=h' }) :
  wpAny (model prog w) A (call (.type "zip") [.ref a,.ref b]) Q E s:=by
 let H1:Heap:=s.heap.push { cls:=.type "tuple_iterator",data:=.fields #[.ref a,.int 0 0] }
 let H2:Heap:=H1.push { cls:=.type "tuple_iterator",data:=.fields #[.ref b,.int 0 0] }
 let H3:Heap:=H2.push { cls:=.type "tuple",data:=.seq #[.ref s.heap.objs.size,.ref H1.objs.size] }
 let H4:Heap:=H3.push { cls:=.type "tuple",data:=.seq #[.none,.none] }
 let H5:Heap:=H4.push { cls:=.type "zip",data:=.fields #[.none,.bool false,.bool false,.ref H2.objs.size,.ref H3.objs.size] }
 have m:Meets (Builtin.«zip.__new__» ⟨[.type "zip",.ref a,.ref b],[]⟩) (fun _ R s1=>s1=s∧R (.ok (.ret (.ref H4.objs.size))) { s with heap:=H5 }):=.of_wp fun prog w A R s1 hR=>by
  obtain ⟨rfl,hR⟩:=hR;obtain ⟨hp,g,d,tk,os⟩:=s1;have hsub:=sub_zip;have hL1:Heap.IsTuple (Shared.heap ⟨hp,g,d,tk,os⟩) a us:=ha;have hL2:Heap.IsTuple (Shared.heap ⟨hp.push { cls:=.type "tuple_iterator",data:=.fields #[.ref a,.int 0 0] },g,d,tk,os⟩) b vs:=Heap.IsTuple.push hb _
  wp_walk using Gb hL1,Gb hL2
  exact ⟨_,rfl,hR⟩
 refine callType_new F.called_zip (by decide) (F.typeCall_zip_2 _ _) (F.newCall_zip_2 _ _) (fun obj=>F.args_object_init_3 obj _ _) F.entry_zip_new m ⟨rfl,?_⟩;have z1:H1.objs.size=s.heap.objs.size+1:=Ra ..;have z2:H2.objs.size=s.heap.objs.size+2:=by rw [Ra,z1]
 have z3:H3.objs.size=s.heap.objs.size+3:=by rw [Ra,z2]
 have z4:H4.objs.size=s.heap.objs.size+4:=by rw [Ra,z3]
 have up5:∀c o,H4.get? c=some o->H5.get? c=some o:=fun c o e=>Qj _ e;have up4:∀c o,H3.get? c=some o->H5.get? c=some o:=fun c o e=>up5 c o (Qj _ e);have up3:∀c o,H2.get? c=some o->H5.get? c=some o:=fun c o e=>up4 c o (Qj _ e);have up2:∀c o,H1.get? c=some o->H5.get? c=some o:=fun c o e=>up3 c o (Qj _ e);have g5:H5.get? H4.objs.size=some _:=Qr _ rfl;have g4:H5.get? H3.objs.size=some _:=up5 _ _ (Qr _ rfl);have g3:H5.get? H2.objs.size=some _:=up4 _ _ (Qr _ rfl);have g2:H5.get? H1.objs.size=some _:=up3 _ _ (Qr _ rfl);have g1:H5.get? s.heap.objs.size=some _:=up2 _ _ (Qr _ rfl);show _∧_;rw [z4,z2,z3] at g5;rw [z3] at g4;rw [z2,z1] at g3;rw [z1] at g2;rw [z4];exact ⟨⟨_,g5,rfl⟩,h H5 ⟨g5,g3,⟨_,_,g4⟩,⟨_,g1,rfl,rfl⟩,⟨_,g2,rfl,rfl⟩⟩ fun c o e=>up2 c o (Qj _ e)⟩
theorem Zlx:bootBuiltins "zip"=some (.type "zip"):=by decide +kernel
theorem Zcj:bootBuiltins "all"=some (.builtin "all"):=by decide +kernel
theorem UW {c x y:Nat} (h1:c≠x) (h2:c≠y):c∉[x,y]:=fun z=>by
 rcases Qh.mp z with z|z
 ·exact h1 z
 ·exact h2 (by simpa using z)
theorem Zlq {m a b:Nat} (la:a<m) (lb:b<m):ZAp (m+4) (m+2) (m+3) m (m+1) [m,a] [m+1,b] where
 TIz:=(by omega:(m+2:Nat)≠m+4)
 TOz:=(by omega:(m+3:Nat)≠m+4)
 i1z:=(by omega:(m:Nat)≠m+4)
 i2z:=(by omega:(m+1:Nat)≠m+4)
 TITO:=(by omega:(m+2:Nat)≠m+3)
 TIi1:=(by omega:(m+2:Nat)≠m)
 TIi2:=(by omega:(m+2:Nat)≠m+1)
 TOi1:=(by omega:(m+3:Nat)≠m)
 TOi2:=(by omega:(m+3:Nat)≠m+1)
 i12:=(by omega:(m:Nat)≠m+1)
 z1:=UW (by omega) (by omega)
 z2:=UW (by omega) (by omega)
 o1:=UW (by omega) (by omega)
 o2:=UW (by omega) (by omega)
 b1:=UW (by omega) (by omega)
 b2:=UW (by omega) (by omega)
section
variable {X:Cx}
def Zkw (K:W.Frag) (ta:TA):TI:=fun σ H R=>ta σ H fun vs H1=>∃a b,vs=[.ref a,.ref b]∧(∃xs,SqT K H1 a xs)∧(∃ys,SqT K H1 b ys)∧R (Itz K a b) H1
theorem ZiD (K:W.Frag) {e1 e2:Expr} {ta:TA} {p pos pos':Pos} {es:List Expr} {n:Nat} (hg:Gl X "zip") (hm:X.mg "zip"=none) (ha:PA X [e1,e2] ta) (hK:X.K=K:=by rfl)
  (hs:starEach [e1,e2] X.env=(false,eval e1 X.env)::starEach [e2] X.env:=by rfl) (hpl:(backTo pos (starEach [e2] X.env)).any (·.1)=false:=by rfl):PI X (.Tuple es n pos') (.Call (.Name "zip" p) [e1,e2] [] pos) (Zkw K ta):=by
 subst hK;intro pins s σ H R I h;refine Rc (VA I hg hm Zlx (Gc (Zp (ha pos pins s σ H _ I h) fun us s1 ⟨vs,H1,I1,r1,q1⟩=>?_) hs hpl));obtain ⟨a,b,e,⟨xs,qa⟩,⟨ys,qb⟩,q⟩:=q1;subst e;obtain ⟨u,v,rfl,ra,rb⟩:=JJ r1;cases (show u=Value.ref a from ra);cases (show v=Value.ref b from rb);obtain ⟨as,ka,ta',_⟩:=I1.tuple qa;obtain ⟨bs,kb,tb',_⟩:=I1.tuple qb;have la:a<s1.heap.objs.size:=by obtain ⟨o,e,_⟩:=ta';exact Qi e
 have lb:b<s1.heap.objs.size:=by obtain ⟨o,e,_⟩:=tb';exact Qi e
 refine ZiW ta' tb' fun h' st k=>wpAny_pyIter_zip st.1 ?_;have Z:=Zlq la lb;refine ⟨s1.heap.objs.size+4,_,_,_,H1,rfl,I1.kept (t':=s1.toks) k,ZlY Z (QB la) (QB (R4 lb)),st,fun c hc=>?_,q⟩
 have hle:s1.heap.objs.size≤c:=by
  simp only [Qh,QF,QG] at hc;rcases hc with rfl|rfl|rfl|rfl|rfl
  ·exact R5 _ 4
  ·exact R5 _ 2
  ·exact R5 _ 3
  ·exact Qf _
  ·exact R5 _ 1
 have e:=I1.fpOk hle (I1.hok.fresh hle);exact e
theorem Zjc {P:Program} {w:World} {A:Around} {bs:List Bool} {us:List Value} (r:Vals (bs.map V.bl) us):TruthOf P w A (fun i v=>us.toArray[i]?=some v) (fun i=>bs.getD i false):=by
 intro i v s Q E e q;have e':us[i]?=some v:=by simpa using e
 have hl:=r.length;rw [Qd] at hl
 have lt:i<bs.length:=by
  have:=(QH.mp e').1;omega
 obtain ⟨u,e2,r2⟩:=r.get (i:=i) (x:=V.bl bs[i]) (by simp [lt]);rw [e'] at e2;cases e2;cases (show v=Value.bool bs[i] from r2);have z:bs.getD i false=bs[i]:=by simp [List.getD,lt]
 exact RH (by rw [←z];exact q)
theorem ZfJ:∀bs:List Bool,((List.range bs.length).all fun i=>bs.getD i false)=bs.all id
 |[]=>rfl
 |b::bs=>by
  rw [QK,List.range_succ_eq_map,Gg,GM,Gg,←ZfJ bs];rfl
theorem Zb0 (hc:X.calm=true):Y8 X (.builtin "all") (fun xs H Q=>∃(a:Addr) (bs:List Bool),xs=[.ref a]∧H a=some (.lst (bs.map V.bl))∧Q (.bl (bs.all id)) H):=by
 intro pins s σ H xs us Q I r h;obtain ⟨a,bs,rfl,q,hq⟩:=h;obtain ⟨u,rfl,ru⟩:=XE r;cases (show u=Value.ref a from ru);obtain ⟨its,rv,pl,hz⟩:=I.list (.inl (.inl q));have lt:a<s.heap.objs.size:=by obtain ⟨o,e,_⟩:=pl.isList;exact Qi e
 have hl:=rv.length;rw [Qd] at hl;refine call_all_walk (wpAny_pyIter_list pl.isList ⟨s.heap.objs.size,_,_,_,_,_,_,rfl,Walks.list (show X.A.in1.handled=none from I.ok.hd hc) _ a (QB lt) its.toArray,⟨⟨_,Qr _ rfl,rfl,rfl⟩,pl.isList.push _⟩,Zjc rv,fun h' tk k=>?_⟩);rw [Qv,←hl,ZfJ];exact ⟨.bl _,H,I.kept (t':=tk) fun b o e=>k b o (fun z=>absurd (Qi e) (by rw [show b=s.heap.objs.size by simpa using z];exact QE _)) (Qj _ e),rfl,hq⟩
def Zhq (X:Cx) (CX:Yr) (Fam:Addr->Sp->Prop):Prop:=∀f sp,Fam f sp->∃k fd ps,FnOk X.prog X.w X.K X.mg X.base CX k f fd ps sp∧Room k X.A∧W.keepIn X.K (.ref f)=true∧Binds X.K fd ps []
def ZkA (Fam:Addr->Sp->Prop) (i:Nat) (E:XK) (t:TA):TE:=fun σ H Q=>∃f sp,σ[i]?=some (some (.ref f))∧Fam f sp∧t σ H fun vs H1=>sp vs H1 Q E
theorem Zkf {CX:Yr} {Fam:Addr->Sp->Prop} {E:XK} {i:Nat} {x:Str} {p pos:Pos} {e:Expr} {es:List Expr} {t:TA} (F:Zhq X CX Fam) (hN:X.N[i]?=some x) (hv:J2 X.env.scope x) (hx:ZeJ CX X E) (ha:PA X (e::es) t)
  (hd:(x==("__debug__" : Str))=false:=by decide) (hcd:(x==("__classdict__" : Str))=false:=by decide)
  (he:starEach (e::es) X.env=(false,eval e X.env)::starEach es X.env:=by rfl) (hpl:(backTo pos (starEach es X.env)).any (·.1)=false:=by rfl):PE X (.Call (.Name x p) (e::es) [] pos) (ZkA Fam i E t):=by
 intro pins s σ H Q I h;obtain ⟨f,sp,e1,hF,q⟩:=h;obtain ⟨k,fd,ps,Fn,hr,hk,hb⟩:=F f sp hF;refine Rc (Zp (Zb2 hN hv hd hcd pins s σ H (fun v H'=>v=.ref f∧H'=H) I ⟨_,e1,rfl,rfl⟩) fun u s1 ⟨v,H1,I1,r1,e2,e3⟩=>?_);subst e2 e3;cases (show u=Value.ref f from r1);refine Gi (h₀:=X.base) I1.ok.mod.kin hk (Zp (ha pos pins s1 σ H1 _ I1 q) fun us s2 ⟨vs,H2,I2,r2,q2⟩=>⟨I2.kIn,?_⟩) he hpl;exact Zi1 Fn hr hb .nil hx I2 r2 (by rw [Qu];exact q2)
end
section
variable {X:Cx} {tg l:Expr} {tl:TE} (K:W.Frag) (hK:X.K=K)
include hK
end
theorem Zio {X:Cx} (K:W.Frag) {es:List Expr} {k:Nat} {t:Vx} {n:Nat} {pos:Pos} (hc:X.calm=true) (h:JA X es t) (hK:X.K=K:=by rfl)
  (hn:(assignEach es X.env).length=n:=by rfl) (hst:(assignEach es X.env).findIdx? (·.1)=none:=by rfl):PG X (.Tuple es k pos) (ZhO K n t):=by
 subst hK;exact Zaa hc h hn hst
theorem Za5 {J:It} {σ0:St} {g:TG} {te:TE} {Q:VK} {H1:Hp} (out:List V) (hn:out.length<sizeLine) (σP:St->Prop) (h0:σP σ0)
  (go:∀i H,i<out.length->Same H1 H->J.go i H) (stop:∀H,Same H1 H->J.stop out.length H)
  (step:∀i σ H x H' y,out[i]?=some y->σP σ->Same H1 H->J.yld i H x H'->∀C:V->St->Hp->Prop,(∀σ2 H6,σP σ2->Same H H6->C y σ2 H6)->g x σ H' fun σ2 H4=>te σ2 H4 fun y' H6=>C y' σ2 H6)
  (fin:∀D H',H1 D=none->Same H1 H'->H' D=some (.lst out)->Q (.ref D) H'):ZcN J σ0 g Zhb te Q H1:=by
 intro D hD
 have keep:∀{H:Hp} {o:HO},Same H1 H->Same H1 (Zc H D o):=fun {H o} e b u q=>by
  rw [Zd (ZF q hD)];exact e b u q
 refine ⟨fun i m σ ys H=>i≤out.length∧m=out.length-i∧σP σ∧ys=out.take i∧H D=some (.lst ys)∧Same H1 H,⟨_,QZ _,rfl,h0,rfl,Zf,keep (Same.refl H1)⟩,?_⟩;rintro i m σ ys H ⟨hi,rfl,p,rfl,hd,sm⟩;refine ⟨hd,?_⟩;by_cases lt:i<out.length
 ·refine .inr ⟨go i H lt sm,fun σ2 ys2 H3=>σP σ2∧ys2=out.take (i+1)∧H3 D=some (.lst ys2)∧Same H1 H3,fun σ2 ys2 H3 ⟨a,b,c,d⟩=>⟨_,by omega,lt,rfl,a,b,c,d⟩,fun x H3 y=>?_⟩;have e:out[i]?=some out[i]:=by simp [lt]
  refine step i σ H x H3 out[i] e p sm y (fun y' σ2 H6=>H6 D=some (.lst (out.take i))∧(out.take i).length<sizeLine∧σP σ2∧out.take i++[y']=out.take (i+1)∧Zc H6 D (.lst (out.take i++[y'])) D=some (.lst (out.take i++[y']))∧Same H1 (Zc H6 D (.lst (out.take i++[y'])))) fun σ2 H6 p2 s6=>?_;exact ⟨s6 _ _ hd,by rw [Q3];omega,p2,by rw [Nv,e];rfl,Zf,keep (sm.trans s6)⟩
 ·have e:i=out.length:=by omega
  subst e;rw [Rz] at hd;exact .inl ⟨stop H sm,fin D H hD sm hd⟩
section
variable {K:W.Frag} {H:Hp} {xs ys:List V} {a b:Addr} {Q:VK}
end
noncomputable def Zby (js:List (Option Nat)) (σ:St):St:=js.map fun o=>match o with|none=>none|some j=>(σ[j]?).getD none
noncomputable def JK (fr:List Str) (cells:List (Str×Addr)):List (Str×Addr):=fr.filterMap fun x=>(cells.lookup x).map fun c=>(x,c)
noncomputable def Zj9 (js:List (Option Nat)) (N M:List Str) (inn out:List (Str×NameKind)):Bool :=
 (js.zip N).all fun p=>match p.1 with
  |none=>true
  |some j=>(M[j]?==some p.2)&&((inn.lookup p.2==some .cell)||(inn.lookup p.2==some .free))&&((out.lookup p.2==some .cell)||(out.lookup p.2==some .free))
theorem Zf0 {L:List (Str×NameKind)} {x:Str} (h:((L.lookup x==some NameKind.cell)||(L.lookup x==some NameKind.free))=true):L.lookup x=some .cell∨L.lookup x=some .free:=by
 rw [R6] at h;rcases h with h|h
 ·exact .inl (eq_of_beq h)
 ·exact .inr (eq_of_beq h)
theorem ZkW {fr:List Str} {cells:List (Str×Addr)} {x:Str} (h:x∈fr) (e:(cells.lookup x).isSome=true):∃c,(JK fr cells).lookup x=some c:=by
 obtain ⟨c,hc⟩:=GE.mp e
 induction fr with
 |nil=>cases h
 |cons y r ih =>
  unfold JK;rw [Q4];by_cases q:y=x
  ·subst q;rw [hc];exact ⟨c,by simp⟩
  ·have hr:x∈r:=by
    rcases Qh.mp h with z|z
    ·exact absurd z.symm q
    ·exact z
   cases e2:cells.lookup y with
   |none=>exact ih hr
   |some d =>
    obtain ⟨c',hc'⟩:=ih hr;refine ⟨c',?_⟩;show List.lookup x ((y,d)::JK r cells)=some c';rw [GQ,Ro.mpr (QY q)];exact hc'
theorem Jv {X:Cx} {N:List Str} {sc:Scope} (fr:List Str) (js:List (Option Nat)) (hk:sc.kind=.function) (hn:∀x∈sc.names,x.2=.local->sc.names.lookup x.1=some .local) (hc:∀y∈sc.names,y.2≠.cell)
  (clos:closureFor sc X.env=pure (JK fr X.env.cells)) (hall:(fr.all fun x=>(X.env.cells.lookup x).isSome)=true)
  (hhas:((relabel sc X.env).names.all fun y=>(y.2 != .cell&&y.2 != .free)||fr.contains y.1)=true) (hl:js.length=N.length) (hcap:Zj9 js N X.N (relabel sc X.env).names X.env.scope.names=true) :
  CompSc X N sc (JK fr X.env.cells) (Zby js):=by
 have lk:∀(x:Str) (M:List (Str×NameKind)) (k:NameKind),M.lookup x=some k->(x,k)∈M:=fun x M k h=>RK h;refine ⟨hk,hn,hc,clos,fun x c h=>?_,fun x h=>?_,fun σ=>?_,fun σ i x v e1 e2=>?_⟩
 ·have m:=RK h;obtain ⟨y,_,e⟩:=Rk.mp m;obtain ⟨d,hd,e'⟩:=QQ.mp e;cases e';exact hd
 ·have hm:x∈fr:=by
   rcases h with h|h <;>
   ·have q:=RQ.mp hhas _ (lk x _ _ h);rw [R6] at q;rcases q with q|q
    ·simp at q
    ·simpa using q
  exact ZkW hm (RQ.mp hall x hm)
 ·unfold Zby;rw [Qd,hl]
 ·unfold Zby at e2;rw [QA] at e2;obtain ⟨o,ho,e2⟩:=QQ.mp e2;cases o with
  |none=>cases e2
  |some j =>
   have hz:(some j,x)∈js.zip N:=by
    refine List.mem_iff_getElem?.mpr ⟨i,?_⟩;rw [List.getElem?_zip_eq_some];exact ⟨ho,e1⟩
   have q:=RQ.mp hcap _ hz;simp only [Rv] at q;refine ⟨Zf0 q.1.2,Zf0 q.2,j,eq_of_beq q.1.1,?_⟩;replace e2:(σ[j]?).getD none=some v:=e2;cases e3:σ[j]? with
   |none=>rw [e3] at e2;cases e2
   |some o'=>rw [e3] at e2;rw [show o'=some v from e2]
theorem Zbo {J:It} {σ0:St} {g:TG} {tt:TT} {te:TE} {Q:VK} {H1:Hp} (ZP:List (Option V)) (hn:ZP.length<sizeLine) (σP:St->Prop) (h0:σP σ0)
  (go:∀i H,i<ZP.length->Same H1 H->J.go i H) (stop:∀H,Same H1 H->J.stop ZP.length H)
  (step:∀i σ H x H' o,ZP[i]?=some o->σP σ->Same H1 H->J.yld i H x H'->∀C:Option V->St->Hp->Prop,(∀σ2 H6,σP σ2->Same H H6->C o σ2 H6)->g x σ H' fun σ2 H4=>tt σ2 H4 fun c H5=>if c=true then te σ2 H5 fun y' H6=>C (some y') σ2 H6 else C none σ2 H5)
  (fin:∀D H',H1 D=none->Same H1 H'->H' D=some (.lst (ZP.filterMap id))->Q (.ref D) H'):ZcN J σ0 g tt te Q H1:=by
 intro D hD
 have keep:∀{H:Hp} {o:HO},Same H1 H->Same H1 (Zc H D o):=fun {H o} e b u q=>by
  rw [Zd (ZF q hD)];exact e b u q
 have fl:∀i,((ZP.take i).filterMap id).length≤ZP.length:=fun i=>Qq (Nw _ _) (by rw [Q3];omega);refine ⟨fun i m σ ys H=>i≤ZP.length∧m=ZP.length-i∧σP σ∧ys=(ZP.take i).filterMap id∧H D=some (.lst ys)∧Same H1 H,⟨_,QZ _,rfl,h0,rfl,Zf,keep (Same.refl H1)⟩,?_⟩;rintro i m σ ys H ⟨hi,rfl,p,rfl,hd,sm⟩;refine ⟨hd,?_⟩;by_cases lt:i<ZP.length
 ·refine .inr ⟨go i H lt sm,fun σ2 ys2 H3=>σP σ2∧ys2=(ZP.take (i+1)).filterMap id∧H3 D=some (.lst ys2)∧Same H1 H3,fun σ2 ys2 H3 ⟨a,b,c,d⟩=>⟨_,by omega,lt,rfl,a,b,c,d⟩,fun x H3 y=>?_⟩;have e:ZP[i]?=some ZP[i]:=by simp [lt]
  have tk:(ZP.take (i+1)).filterMap id=(ZP.take i).filterMap id++ZP[i].toList:=by
   rw [Nv,e];simp only [Option.toList_some,R7];cases ZP[i]<;>rfl
  refine step i σ H x H3 ZP[i] e p sm y (fun o σ2 H6=>match o with
   |some y'=>H6 D=some (.lst ((ZP.take i).filterMap id))∧((ZP.take i).filterMap id).length<sizeLine∧σP σ2∧(ZP.take i).filterMap id++[y']=(ZP.take (i+1)).filterMap id∧Zc H6 D (.lst ((ZP.take i).filterMap id++[y'])) D=some (.lst ((ZP.take i).filterMap id++[y']))∧Same H1 (Zc H6 D (.lst ((ZP.take i).filterMap id++[y'])))
   |none=>σP σ2∧(ZP.take i).filterMap id=(ZP.take (i+1)).filterMap id∧H6 D=some (.lst ((ZP.take i).filterMap id))∧Same H1 H6) fun σ2 H6 p2 s6=>?_
  rw [tk];cases hg:ZP[i] with
  |none=>exact ⟨p2,by simp,s6 _ _ hd,sm.trans s6⟩
  |some y'=>exact ⟨s6 _ _ hd,RM (fl i) hn,p2,by simp,Zf,keep (sm.trans s6)⟩
 ·have e:i=ZP.length:=by omega
  subst e;rw [Rz] at hd;exact .inl ⟨stop H sm,fin D H hD sm hd⟩
end L2
namespace RevF
open PySem PySem.Spec PyProof.Rows
theorem Js:Slot "reversed" (Str.ofString "__next__") "reversed.__next__" :=
 Slot.of (owner:="reversed") (n:="__next__") (by rw [Gn,Go];rfl) (by decide +kernel) (by decide +kernel) (by decide +kernel) (Or.inl (by rfl)) (by rw [Gp];rfl) (by decide +kernel)
theorem Zfb:entryFor table "reversed.__next__"=some Builtin.«reversed.__next__»:=entryFor_of_tree (by rfl)
theorem Zhs (a:Value):argsOk "reversed.__next__" ⟨[a],[]⟩:=by unfold argsOk;rfl
theorem Zfu:Slot "reversed" (Str.ofString "__iter__") "reversed.__iter__" :=
 Slot.of (owner:="reversed") (n:="__iter__") (by rw [Gn,Go];rfl) (by decide +kernel) (by decide +kernel) (by decide +kernel) (Or.inl (by rfl)) (by rw [Gp];rfl) (by decide +kernel)
theorem Zil:entryFor table "reversed.__iter__"=some Builtin.«dict_keyiterator.__iter__» :=
 entryFor_alias (id':="dict_keyiterator.__iter__") (by rfl) rfl (by decide +kernel) (by rfl)
theorem Zm8 (a:Value):argsOk "reversed.__iter__" ⟨[a],[]⟩:=by unfold argsOk;rfl
theorem Zij:Slot "reversed" (Str.ofString "__init__") "object.__init__" :=
 Slot.of (owner:="object") (n:="__init__") (by rw [Gn,Go];rfl) (by decide +kernel) (by decide +kernel) (by decide +kernel) (Or.inl (by rfl)) (by rw [Gp];rfl) (by decide +kernel)
theorem mro:mroOf (.type "reversed")=pure [.type "reversed",.type "object"]:=by rw [mroOf_type];rfl
theorem ZjB:typeLookup (.type "reversed") (Str.ofString "__new__")=pure (some (.builtin "reversed.__new__")):=by rw [Gn,Go];rfl
theorem made:Bind.madeBy (.type "reversed")=pure (some "reversed.__new__"):=madeBy_type mro ZjB (by decide +kernel)
theorem sub:isSubtype (.type "reversed") (.type "reversed")=pure true:=by rw [Gp];rfl
theorem Zju:TypeCalled "reversed" "reversed.__new__" "object.__init__" where
 notType:=by decide +kernel
 canCreate:=by decide +kernel
 mro:=⟨_,_,mro⟩
 made:=made
 plain:=by decide +kernel
 sub:=sub
 init:=Zij
theorem Zm6 (a:Value):checkTypeCall "reversed" { pos:=[a] }=pure ():=by rfl
theorem Ze2:isType (.type "reversed")=pure true:=by rfl
theorem bk:builtinKind "reversed.__new__"=some .builtinFn:=by rfl
theorem sp:splitId "reversed.__new__"=some ("reversed","__new__"):=by rfl
theorem sb:Bind.staticBase (.type "reversed")=pure (.type "reversed"):=by
 unfold Bind.staticBase;simp only [mro,pure_bind,Nt,made];rfl
theorem ZmF (a:Value):checkBuiltinCall "reversed.__new__" { pos:=[.type "reversed",a] }=pure ():=by
 unfold checkBuiltinCall;simp only [bk,sp,Ze2,sub,sb,made,pure_bind];rfl
theorem Zpn:entryFor table "reversed.__new__"=some Builtin.«reversed.__new__»:=entryFor_of_tree (by rfl)
theorem ZkD:typeLookup (.type "tuple") (Str.ofString "__reversed__")=pure none:=by rw [Gn,Go];rfl
theorem ZpB:isSubtype (.type "tuple") (.type "dict")=pure false:=by rw [Gp];rfl
theorem Ziw (a:Value):Builtin.SmallTypes.newClass "reversed" ⟨[.type "reversed",a],[]⟩=pure (.type "reversed",[a]):=by
 unfold Builtin.SmallTypes.newClass;simp only [Ze2,sub,pure_bind];rfl
section
variable {prog:Program} {w:World} {A:Around} {E:Value->Shared->Prop} {s:Shared} {a it:Addr} {us:Array Value}
def IsRev (h:Heap) (it t:Addr) (i:Int):Prop:=h.get? it=some { cls:=.type "reversed",data:=.fields #[.ref t,rawInt i] }
theorem rev_call {Q:Value->Shared->Prop} (ha:IsTup s.heap a us) (hz:(us.size:Int)<2 ^ 63)
  (h:∀tk,Q (.ref s.heap.objs.size) { s with heap:=s.heap.push { cls:=.type "reversed",data:=.fields #[.ref a,rawInt ((us.size:Int)-1)] },toks:=tk }) :
  wpAny (model prog w) A (call (.type "reversed") [.ref a]) Q E s:=by
 refine callType_new Zju (by decide) (Zm6 _) (ZmF _) (fun obj=>F.args_object_init_2 obj _) Zpn
  (S:=fun _ R s1=>s1=s∧∀tk,R (.ok (.ret (.ref s.heap.objs.size))) { s with heap:=s.heap.push { cls:=.type "reversed",data:=.fields #[.ref a,rawInt ((us.size:Int)-1)] },toks:=tk })
  (.of_wp fun prog w A R s1 hR=>?_) ⟨rfl,fun tk=>⟨⟨_,Qr _ rfl,rfl⟩,h tk⟩⟩
 obtain ⟨rfl,hR⟩:=hR;unfold Builtin.«reversed.__new__»;refine Qc (Rx (Ziw _) ?_);dsimp only;refine Qc (Rx (a:=()) (by rfl) ?_);refine Qc (Rx (a:=()) (by rfl) ?_);refine Qc (GJ ha.typeIs ZkD ?_);dsimp only;refine Qc (Qc (Nu ha.typeIs ZpB ?_));rw [Qa QJ];refine Qc (GJ ha.typeIs slot_tuple_getitem.lookup ?_);dsimp only;rw [Qb (by decide)];refine Qe ?_;rw [Qa (by decide)];refine Qc (len_tuple ha hz ?_);refine Qc (Rx (a:=some (us.size:Int)) (by rfl) ?_);dsimp only;refine Qc (m:=Builtin.SmallTypes.newRecord _ _) ?_;unfold Builtin.SmallTypes.newRecord;exact Ri (Qe ⟨_,rfl,hR _⟩) (by size_fits)
theorem rev_iter {Q:Value->Shared->Prop} {i:Int} (h:IsRev s.heap it a i) (q:Q (.ref it) s):wpAny (model prog w) A (pyIter (.ref it)) Q E s:=by
 have hT:s.TypeIs (.ref it) "reversed":=⟨_,h,rfl⟩;exact wpAny_pyIter_slot hT Zfu (Re Zfu hT Zil (id (Qe ⟨.ref it,rfl,"reversed",.builtin "reversed.__next__",hT,Js.lookup,q⟩)) (Zm8 _))
theorem rev_item {Q:Option Value->Shared->Prop} {i:Nat} {x:Value} (h:IsRev s.heap it a i) (ha:IsTup s.heap a us) (hz:(us.size:Int)<2 ^ 63) (e:us[i]?=some x)
  (q:∀h' tk,IsRev h' it a ((i:Int)-1)->Heap.SameBut it s.heap h'->Q (some x) { s with heap:=h',toks:=tk }):wpAny (model prog w) A (pyNext (.ref it)) Q E s:=by
 have hT:s.TypeIs (.ref it) "reversed":=⟨_,h,rfl⟩
 have li:i<us.size:=by
  rcases Nat.lt_or_ge i us.size with z|z
  ·exact z
  ·rw [Array.getElem?_eq_none z] at e;cases e
 unfold pyNext;refine Qc (Gm (Rn (name:=Str.ofString "__next__") hT Js (Re Js hT Zfb ?_ (Zhs _))));unfold Builtin.«reversed.__next__»;refine Qc (Rx (a:=(Value.ref it,[])) (by rfl) ?_);dsimp only;refine Qc (m:=field (.ref it) 0) (QM h rfl (x:=.ref a) rfl ?_);refine Qc (m:=field (.ref it) 1) (QM h rfl (x:=rawInt i) rfl ?_);show wpAny _ _ (if (i:Int)<0 then _ else _) _ _ _;rw [Qa (by omega)];refine Qc (GJ ha.typeIs slot_tuple_getitem.lookup ?_);rw [Qa (by decide)];refine Qc (wpAny_mkInt ?_);refine Qc (Gm (getItem_tuple (j:=i) (x:=x) (by exact ha) (by omega) (by omega) (StrLaws.seqIndex_nonneg (by omega) (by omega)) e ?_));dsimp only;refine Qc (m:=field (.ref it) 1) (QM h rfl (x:=rawInt i) rfl ?_);refine Qc (Ry h (by simp) fun h' hr sb=>Qe ⟨_,rfl,Qe ?_⟩);exact q h' _ hr sb
theorem rev_end {Q:Option Value->Shared->Prop} (h:IsRev s.heap it a (-1)) (hh:A.in1.handled=none)
  (q:∀h',(∀b o,b≠it->s.heap.get? b=some o->h'.get? b=some o)->Q none { s with heap:=h' }):wpAny (model prog w) A (pyNext (.ref it)) Q E s:=by
 have hT:s.TypeIs (.ref it) "reversed":=⟨_,h,rfl⟩;unfold pyNext;refine Qc (Gm (Rn (name:=Str.ofString "__next__") hT Js (Re Js hT Zfb ?_ (Zhs _))));unfold Builtin.«reversed.__next__»;refine Qc (Rx (a:=(Value.ref it,[])) (by rfl) ?_);dsimp only;refine Qc (m:=field (.ref it) 0) (QM h rfl (x:=.ref a) rfl ?_);refine Qc (m:=field (.ref it) 1) (QM h rfl (x:=rawInt (-1)) rfl ?_);show wpAny _ _ (if (-1:Int)<0 then _ else _) _ _ _;rw [Qb (by decide)];refine Qc (RP ?_);refine Qc (Qc (Ry h (by simp) fun h1 r1 sb1=>Ry r1 (by simp) fun h2 r2 sb2=>?_));unfold Builtin.SmallTypes.stopIteration;refine Qc (Qc (m:=newExc (.type "StopIteration") []) ?_);simp only [newExc,newTuple];refine Qc (Ri (Qc (m:=firstArgMember _ _) (Rx (a:=Value.none) (by first|rfl|(simp only [firstArgMember];rfl)) (Ri ?_ (by size_fits)))) (by size_fits));simp only [raiseNew];refine Qc (wpAny_handled ?_);rw [show A.in1.handled=none from hh];refine Qc (Qe (wpAny_throw ?_));refine Qc (Nu (T:="StopIteration") (b:=true) ⟨_,Qr _ rfl,rfl⟩ isSubtype_stop (Qe (q _ fun b o hb e=>?_)));exact Qj _ (Qj _ (sb2.extBut _ _ hb (sb1.extBut _ _ hb e)))
end
end RevF
namespace L2
open PySem PySem.Spec PyProof.Rows
theorem Zl1:bootBuiltins "reversed"=some (.type "reversed"):=by decide +kernel
noncomputable def Itv (K:W.Frag) (a:Addr) (n:Nat):It :=
 ⟨fun i H=>∃xs x,SqT K H a xs∧xs.length=n∧xs.reverse[i]?=some x,fun i H x H'=>H'=H∧∀xs,SqT K H a xs->xs.reverse[i]?=some x,fun i _=>i=n⟩
theorem ZlV {P:Program} {w:World} {K:W.Frag} {tg:Expr} (a it:Addr) (n:Nat):Turn P w K tg (Itv K a n) [it] it (fun i h=>i≤n∧RevF.IsRev h it a ((n:Int)-1-(i:Nat))) where
 mem:=by simp
 obj:=fun i h st b hb=>by
  have e:b=it:=by simpa using hb
  subst e
  exact ⟨_,st.2,fun v z=>by
   have z':Data.fields _=Data.cell v:=z;cases z'⟩
 keep:=fun i h h' st k=>⟨st.1,k it (by simp) _ st.2⟩
 item:=by
  intro X hP hw hK hc i pins s σ H E I hf st hg;subst hP hw hK;obtain ⟨xs,x,hq,hln,hx⟩:=hg;obtain ⟨its,rv,p,hz⟩:=I.tuple hq;have hl:=rv.length;have h63:=VE
  have li:i<n:=by
   have:=(QH.mp hx).1;rw [Ny] at this;omega
  have hx':xs[n-1-i]?=some x:=by
   rw [List.getElem?_reverse (by omega),hln] at hx;exact hx
  obtain ⟨u,hu,ru⟩:=rv.get hx';obtain ⟨f0,f1,f2,f3,f4,f5⟩:=hf it (by simp)
  have st':RevF.IsRev s.heap it a ((n-1-i:Nat):Int):=by
   have e:((n-1-i:Nat):Int)=(n:Int)-1-(i:Nat):=by omega
   rw [e];exact st.2
  refine RevF.rev_item st' (us:=its.toArray) p (by rw [Qv];omega) (x:=u) (by simpa using hu) fun h' tk hr sb=>?_;have I1:Inv X pins σ H { s with heap:=h',toks:=tk }:=I.turned (t':=tk) (fun b o hb e=>(sb.2 b hb).trans e) f0 f1 f3 f4 f5;refine ⟨u,rfl,JR (s:={ s with heap:=h',toks:=tk }) hr rfl rfl (by decide) ⟨x,H,I1,ru,⟨rfl,fun ys hy=>by rw [I.tuple_inj hy hq];exact hx⟩,⟨by omega,?_⟩,fun b hb=>(hf b hb).1⟩⟩;have e:((n-1-i:Nat):Int)-1=(n:Int)-1-((i+1:Nat):Int):=by omega
  rw [←e];exact hr
 done:=by
  intro X hP hw hK hc i pins s σ H E I hf st hg;subst hP hw hK;have e:i=n:=hg;subst e;obtain ⟨f0,f1,f2,f3,f4,f5⟩:=hf it (by simp)
  have st':RevF.IsRev s.heap it a (-1):=by
   have e:(i:Int)-1-(i:Nat)=-1:=by omega
   rw [←e];exact st.2
  exact RevF.rev_end st' (I.ok.hd hc) fun h' eb=>⟨rfl,I.turned (t':=s.toks) (fun b o hb e=>eb b o hb e) f0 f1 f3 f4 f5⟩
 self:=fun _ _ _ _ _ st h=>RevF.rev_iter st.2 h
section
variable {X:Cx}
def ZnB (K:W.Frag) (ta:TA):TI:=fun σ H R=>ta σ H fun vs H1=>∃a xs,vs=[.ref a]∧SqT K H1 a xs∧R (Itv K a xs.length) H1
theorem Zmw (K:W.Frag) {e1 tg:Expr} {ta:TA} {p pos:Pos} (hg:Gl X "reversed") (hm:X.mg "reversed"=none) (ha:PA X [e1] ta) (hK:X.K=K:=by rfl)
  (hs:starEach [e1] X.env=(false,eval e1 X.env)::starEach [] X.env:=by rfl) (hpl:(backTo pos (starEach [] X.env)).any (·.1)=false:=by rfl):PI X tg (.Call (.Name "reversed" p) [e1] [] pos) (ZnB K ta):=by
 subst hK;intro pins s σ H R I h;refine Rc (VA I hg hm Zl1 (Gc (Zp (ha pos pins s σ H _ I h) fun us s1 ⟨vs,H1,I1,r1,q1⟩=>?_) hs hpl));obtain ⟨a,xs,e,qa,q⟩:=q1;subst e;obtain ⟨u,rfl,ra⟩:=XE r1;cases (show u=Value.ref a from ra);obtain ⟨as,ka,ta',hz⟩:=I1.tuple qa;have hl:=ka.length;have hn:=VE;refine RevF.rev_call ta' (by rw [Qv];omega) fun tk=>?_;have e:((as.toArray.size:Nat):Int)-1=(xs.length:Int)-1-((0:Nat):Int):=by rw [Qv];omega
 rw [e];have rv0:RevF.IsRev (s1.heap.push { cls:=.type "reversed",data:=.fields #[.ref a,rawInt ((xs.length:Int)-1-((0:Nat):Int))] }) s1.heap.objs.size a ((xs.length:Int)-1-((0:Nat):Int)):=Qr _ rfl;refine RevF.rev_iter rv0 ?_;refine ⟨s1.heap.objs.size,[s1.heap.objs.size],_,_,H1,rfl,I1.kept (t':=tk) fun b o e=>Qj _ e,ZlV a _ xs.length,⟨QZ _,rv0⟩,fun b hb=>?_,q⟩;have e:b=s1.heap.objs.size:=by simpa using hb
 subst e;exact I1.fpOk (Qf _) (I1.hok.fresh (Qf _))
end
section
variable {prog:Program} {w:World} {A:Around} {E:Value->Shared->Prop} {s:Shared}
theorem Zll {t sl:Addr} {items:Array Value} {vl vu:Value} {lo hi:Option Int} {Q:Value->Shared->Prop} (ht:IsTup s.heap t items) (hs:s.heap.IsSliceOf sl vl vu .none) (pl:IsPart vl lo) (pu:IsPart vu hi)
  (hw:HT.sIx items.size 0 lo=0∧HT.sIx items.size items.size hi=items.size) (h:Q (.ref t) s):wpAny (model prog w) A (getItem (.ref t) (.ref sl)) Q E s:=by
 obtain ⟨os,hos,hcs,hds⟩:=id hs;have hTs:s.TypeIs (.ref sl) "slice":=⟨os,hos,hcs⟩;unfold getItem
 try with_reducible refine Rh ?_
 first|refine Qc (Qe ?_)|skip
 refine Qc (wpAny_sequenceKey ht.typeIs (by decide) ?_)
 refine Qc (Rn (name:=Str.ofString "__getitem__") ht.typeIs R0
  (Re R0 ht.typeIs entry_tuple_getitem ?_ (args_tuple_getitem _ _)))
 show wpAny _ _ (Builtin.Tuple.tupleItemsOf (.ref t) >>= _) _ _ s;refine Qc (tupleItemsOf_ ht ?_);refine Qc (GG hTs ?_);rw [Qb (by decide)];refine Qc (HT.sliceApplied_gen hs pl pu ?_);show wpAny _ _ (if (((HT.sIx items.size 0 lo:Nat):Int)==0&&(1:Int)==1&&(HT.sIx items.size items.size hi-HT.sIx items.size 0 lo)==items.size)=true then _ else _) _ _ s;rw [Qb (by rw [hw.1,hw.2];simp)];refine Qc (m:=Builtin.Tuple.tupleIsExact _) ?_;unfold Builtin.Tuple.tupleIsExact;refine Qc (GG ht.typeIs (Qe ?_));rw [Qb (by decide)];exact Qc (RP (Qe ⟨_,rfl,Qe h⟩))
end
def Znr (K:W.Frag):V->Option Int->Option Int->Hp->VK->Prop:=fun x lo hi H Q=>∃a xs,x=.ref a∧SqT K H a xs∧∀H' p,Same H H'->SqT K H' p (Yi xs lo hi)->Q (.ref p) H'
theorem Zo5 {xs:List V} {lo hi:Option Int} (h1:HT.sIx xs.length 0 lo=0) (h2:HT.sIx xs.length xs.length hi=xs.length):Yi xs lo hi=xs:=by
 unfold Yi;rw [h1,h2];simp
section
variable {X:Cx}
theorem WX:SlR X (Znr X.K):=by
 intro pins s σ H x v vl vu lo hi sl Q I rx hs pl pu h;obtain ⟨a,xs,rfl,hx,q⟩:=h;by_cases hw:HT.sIx xs.length 0 lo=0∧HT.sIx xs.length xs.length hi=xs.length
 ·cases rx;obtain ⟨its,r,ht,hz⟩:=I.tuple hx;have hlen:its.toArray.size=xs.length:=by rw [Qv];exact r.length.symm
  refine ⟨"tuple",_,R0.lookup,ht.typeIs,Zll ht hs pl pu (by rw [hlen];exact hw) ⟨.ref a,H,I,rfl,q H a (Same.refl H) ?_⟩⟩;rw [Zo5 hw.1 hw.2];exact hx
 ·exact JD pins s σ H (.ref a) v vl vu lo hi sl Q I rx hs pl pu ⟨a,xs,rfl,hx,hw,fun p np=>q _ p (Zl np) (.of Zf)⟩
def Znj (K:W.Frag):R2:=fun x y H Q=>∃a b xs ys,x=.ref a∧y=.ref b∧SqT K H a xs∧SqT K H b ys∧xs.length+ys.length≤sizeLine∧∀H' p,Same H H'->SqT K H' p (xs++ys)->Q (.ref p) H'
theorem U6:Yq X (binaryOp .Add) (Znj X.K):=by
 intro pins s σ H x y v u Q I rx ry h;obtain ⟨a,b,xs,ys,rfl,rfl,ha,hb,hz,q⟩:=h;by_cases hx:xs=[]
 ·subst hx;cases rx;cases ry;obtain ⟨its,r1,p1,_⟩:=I.tuple ha;obtain ⟨its2,r2,p2,_⟩:=I.tuple hb;have e:its=[]:=r1.nil_iff.mpr rfl;subst e;obtain ⟨⟨cls,dd,data,sl⟩,ho,hc,n,hd⟩:=id p1;obtain ⟨⟨cls2,dd2,data2,sl2⟩,ho2,hc2,n2,hd2⟩:=id p2;simp only at hc hd hc2 hd2;subst hc hd hc2 hd2
  exact concat_meets ⟨_,ho,rfl⟩ ⟨_,ho2,rfl⟩ Nb seq_tuple_add Nc Nd (Nf _ _)
   (tuple_addW0 a b _ its2.toArray n n2 dd dd2 sl sl2 (by simp)) ⟨ho,ho2,⟨.ref b,H,I,rfl,q H b (Same.refl H) hb⟩⟩
 ·refine Zfh pins s σ H (.ref a) (.ref b) v u Q I rx ry ⟨a,b,xs,ys,rfl,rfl,ha,hb,hx,hz,fun e=>?_,fun _ p np=>q _ p (Zl np) (.of Zf)⟩;subst e;exact q H a (Same.refl H) (by rw [Qu];exact ha)
end
def KDict (K:W.Frag) (w:World) (a:Addr) (kvs:List (Zj×V)):Prop :=
 (a==sysModules)=false∧kvs.length≤sizeLine∧(kvs.map (·.1)).Nodup∧∃(es:Array DictEntry) (ep:Nat),K.lookup a=some ⟨.type "dict",none,.dict es ep,#[]⟩ ∧
  Paired (fun (kv:Zj×V) (e:DictEntry)=>e.hash=Vu w kv.1∧RelV (kV kv.1) e.key∧RelV kv.2 e.val) kvs es.toList
theorem ZgG {K:W.Frag} {w:World} {a:Addr} {kvs:List (Zj×V)} {es:Array DictEntry} {ep:Nat} (h1:(a==sysModules)=false) (h2:kvs.length≤sizeLine) (h3:(kvs.map (·.1)).Nodup) (h4:K.lookup a=some ⟨.type "dict",none,.dict es ep,#[]⟩)
  (h5:Paired (fun (kv:Zj×V) (e:DictEntry)=>e.hash=Vu w kv.1∧RelV (kV kv.1) e.key∧RelV kv.2 e.val) kvs es.toList):KDict K w a kvs:=⟨h1,h2,h3,es,ep,h4,h5⟩
theorem KDict.dict {K:W.Frag} {P:Program} {w:World} {a:Addr} {kvs:List (Zj×V)} {h:Heap} (d:KDict K w a kvs) (k:K.In h):∃vs,KV kvs vs∧h.DictOf (Yg P w) a vs:=by
 obtain ⟨_,_,nd,es,ep,hl,pr⟩:=d
 have go:∀{l:List (Zj×V)} {m:List DictEntry},Paired (fun (kv:Zj×V) (e:DictEntry)=>e.hash=Vu w kv.1∧RelV (kV kv.1) e.key∧RelV kv.2 e.val) l m->∃vs,KV l vs∧Pairs (Yg P w) m vs∧(∀e∈m,∃k,(Yg P w).is k e.key=true∧e.hash=(Yg P w).hash k)∧vs.map (·.1)=l.map (·.1):=by
  intro l m p
  induction p with
  |nil=>exact ⟨[],.nil,.nil,by simp,rfl⟩
  |@cons kv e l m h p ih =>
   obtain ⟨vs,a1,a2,a3,a4⟩:=ih;refine ⟨(kv.1,e.val)::vs,.cons ⟨rfl,h.2.2⟩ a1,.cons (Wg h.2.1) rfl a2,fun x hx=>?_,by simp [a4]⟩;rcases Qh.mp hx with rfl|hx
   ·exact ⟨kv.1,Wg h.2.1,h.1⟩
   ·exact a3 x hx
 obtain ⟨vs,a1,a2,a3,a4⟩:=go pr;exact ⟨vs,a1,_,es,ep,k _ _ hl,⟨rfl,rfl,rfl⟩,rfl,fun e he=>a3 e (by simpa using he),a2,by rw [a4];exact nd⟩
section
variable {X:Cx} {o e f:Expr} {apos cpos:Pos} {td ty tx:TE}
end
section
variable {X:Cx}
end
end L2
namespace RevF
open PySem PySem.Spec PyProof.Rows
section
variable {prog:Program} {w:World} {A:Around} {E:Value->Shared->Prop} {s:Shared} {a it:Addr} {us:Array Value}
end
end RevF
namespace TextM
open PySem
end TextM
namespace L2
open PySem PySem.Spec PyProof.Rows
section
variable {X:Cx}
theorem ZbS:∀{zs:List Str} {us:List Value},Vals (zs.map V.str) us->StrsAre us zs
 |[],_,.nil=>.nil
 |z::zs,_,.cons r rs=>by
  obtain ⟨t,rfl⟩:=r;exact .cons z t (ZbS rs)
end
section
variable {X:Cx} {pins:List (Addr×Obj)} {σ:St} {H:Hp} {s:Shared}
end
section
variable {X:Cx}
end
section
variable {X:Cx} {CX:Yr} {k:Nat} {f C:Addr} {fd:FuncData} {ps:List Str} {sp:Sp} {dvs:List V} {ds:List Value} {E:XS} {x m:Str} {p pos apos:Pos} {e o:Expr} {es:List Expr} {ta:TE} {t:TA}
def Zkd (C:Addr) (m:Str) (sp:Sp) (dvs:List V) (E:XS) (ta:TE) (t:TA):TE:=fun σ H Q=>ta σ H fun x H1=>∃a dx fs,x=.ref a∧H1 a=some (.ins C dx fs)∧fs.lookup m=none ∧
 t σ H1 fun vs H2=>sp (x::(vs++dvs)) H2 Q (E σ)
theorem ZV {pl:Sem Bool} (he:PE X o ta) (c:Cls X.K C) (hm:Meth X.K C m f) (F:FnOk X.prog X.w X.K X.mg X.base CX k f fd ps sp) (hr:Room k X.A) (hb:Binds X.K fd ps ds) (hd:Vals dvs ds) (hx:Ue CX X E) (ha:PA X (e::es) t)
  (hst:starEach (e::es) X.env=(false,eval e X.env)::starEach es X.env:=by rfl) (hpl:(backTo pos (starEach es X.env)).any (·.1)=false:=by rfl)
  (ht:eval (.Call (.Attribute o m apos) (e::es) [] pos) X.env=(do
   let ov ←eval o X.env
   standAt apos.atName
   let (f,first) ←holding [ov] (getMethod ov m pl)
   callWith pos f first (backTo pos (starEach (e::es) X.env)) (backToKw pos (keywordEach [] X.env))):=by rfl) :
  PE X (.Call (.Attribute o m apos) (e::es) [] pos) (Zkd C m sp dvs E ta t):=by
 intro pins s σ H Q I h;refine W.methodCall_KW (pl:=pl) (Zp (he pins s σ H _ I h) fun u s1 ⟨x,H1,I1,rx,a,dx,fs,ex,ea,l,q⟩=>?_) ht;subst ex;obtain rfl:u=Value.ref a:=rx;refine Zjr I1 ea c hm l ?_;refine Gi (first:=[.ref a]) (h₀:=X.base) I.ok.mod.kin hm.kp (Zp (ha pos pins s1 σ H1 _ I1 q) fun us s2 ⟨vs,H2,I2,r,q2⟩=>⟨I2.kIn,?_⟩) hst hpl;exact Zgf (us:=.ref a::us) (vs:=.ref a::vs) F hr hb hd hx I2 (.cons rfl r) q2
def Zlr (C:Addr) (sp:Sp) (dvs:List V) (E:XS) (t:TA):TE:=fun σ H Q=>t σ H fun vs H1=>∀x dx,H1 x=none->H1 dx=none->dx≠x →
 sp (.ref x::(vs++dvs)) (Zc (Zc H1 dx (.own x)) x (.ins C dx [])) (fun v H2=>v=.non∧Q (.ref x) H2) (E σ)
theorem ZlU {pins:List (Addr×Obj)} {σ:St} {H:Hp} {s:Shared} {Q:VK} {us:List Value} {vs:List V} (M:Mk X.K C f) (F:FnOk X.prog X.w X.K X.mg X.base CX k f fd ps sp) (hr:Room (k+1) X.A) (hb:Binds X.K fd ps ds) (hd:Vals dvs ds)
  (hx:Ue CX X E) (I:Inv X pins σ H s) (r:Vals vs us)
  (h:∀x dx,H x=none->H dx=none->dx≠x->sp (.ref x::(vs++dvs)) (Zc (Zc H dx (.own x)) x (.ins C dx [])) (fun v H2=>v=.non∧Q (.ref x) H2) (E σ)) :
  wpAny (model X.prog X.w) X.A (call (.ref C) us) (EP X pins σ Q) X.xe s:=by
 have hq:=h (s.heap.objs.size+1) s.heap.objs.size (I.hok.fresh (QT _)) (I.hok.fresh (Qf _)) (QB (Rb _));have I2:=Inv.made (C:=C) I;have r2:Vals (V.ref (s.heap.objs.size+1)::(vs++dvs)) (Value.ref (s.heap.objs.size+1)::(us++ds)):=.cons rfl (r.append hd)
 have hl:(Value.ref (s.heap.objs.size+1)::us++ds).length=ps.length:=by
  have e:=r2.length;rw [F.len _ _ _ _ hq] at e;exact e.symm
 refine RI (Zka (f:=f) I.kIn M.makes M.init (Rr.mp M.fn) (RJ (F.run _ X.stack _ _ ⟨Value.ref (s.heap.objs.size+1)::us,[]⟩ (Value.ref (s.heap.objs.size+1)::(us++ds)) _ _ (E σ) (hr.make C us [])
  (I2.env0.make C us []) (hb _ (Value.ref (s.heap.objs.size+1)::us) I2.kIn hl) r2 hq) fun r s' hq'=>?_))
 cases r with
 |error e=>exact hx pins σ _ _ e s' I2 hq'
 |ok fl =>
  cases fl with
  |ret u =>
   obtain ⟨v,H',I3,rv,ev,q3⟩:=I2.after hq';subst ev;exact ⟨rv,⟨V.ref (s.heap.objs.size+1),H',I3,rfl,q3⟩⟩
  |next=>exact False.elim hq'
  |brk=>exact False.elim hq'
  |cont=>exact False.elim hq'
theorem ZeX (M:Mk X.K C f) (F:FnOk X.prog X.w X.K X.mg X.base CX k f fd ps sp) (hr:Room (k+1) X.A) (hg:Gl X x) (hm:X.mg x=some (.ref C)) (hb:Binds X.K fd ps ds) (hd:Vals dvs ds) (hx:Ue CX X E)
  (hdb:(x==("__debug__" : Str))=false:=by decide):PE X (.Call (.Name x p) [] [] pos) (Zlr C sp dvs E Zdx):=by
 intro pins s σ H Q I h;refine Rc (JS I hg hm ?_ hdb);exact W.callWith_K0 I.kIn M.kp (ZlU (us:=[]) M F hr hb hd hx I .nil h)
end
section
variable {X:Cx}
theorem Zbj:bootBuiltins "sorted"=some (.builtin "sorted"):=by decide +kernel
theorem ZaQ:∀{us:List Value} {zs:List Str},StrsAre us zs->Vals (zs.map V.str) us
 |_,_,.nil=>.nil
 |_,_,.cons y t r=>.cons ⟨t,rfl⟩ (ZaQ r)
theorem ZmJ (K:W.Frag) (hK:X.K=K:=by rfl):Y8 X (.builtin "sorted") (fun xs H Q=>∃l zs,xs=[.ref l]∧SqL K H l (zs.map V.str)∧zs.length<64∧∀D zs',H D=none->zs'.Perm zs->sortedS zs'=true->Q (.ref D) (Zc H D (.lst (zs'.map V.str)))):=by
 subst hK;intro pins s σ H xs us Q I r h;obtain ⟨l,zs,rfl,hq,hl,q⟩:=h;obtain ⟨u,rfl,ru⟩:=XE r;cases (show u=Value.ref l from ru);obtain ⟨its,rv,pl,hz⟩:=I.list hq;have hlen:=rv.length;rw [Qd] at hlen;refine sorted_strs pl.isList (ZbS rv) (by omega) fun out zs' so hp hs=>?_;obtain ⟨e,he⟩:=sortedAll_at s.heap its out;have hle:s.heap.objs.size≤s.heap.objs.size+1:=QT _;have hl2:zs'.length=zs.length:=hp.length_eq;refine ⟨.ref _,_,I.laid (t':=s.toks) (o:=.lst (zs'.map V.str)) (fun b u q=>sortedAll_old q) hle (show ObjOk X.prog X.w _ _ _ (.lst (zs'.map V.str)) from ⟨by rw [Qd];exact QN (ZK (by omega)),out.toList,e,ZaQ so,he⟩),rfl,q _ zs' (I.hok.fresh hle) hp hs⟩
end
noncomputable def ZN (x y:Str):Bool:=decide (x.cps.toList<y.cps.toList)
section
variable {prog:Program} {w:World} {A:Around} {E:Value->Shared->Prop} {s:Shared}
noncomputable def YS (xs:Array (Str×Tok)):Array Value:=xs.map fun p=>.str p.1 p.2
noncomputable def XQ (xs:Array (Str×Tok)) (i:Nat):Str:=(xs[i]?.map (·.1)).getD ""
theorem ZgE {xs:Array (Str×Tok)} {i:Nat} {v:Value} (h:(YS xs)[i]?=some v):∃t,v=.str (XQ xs i) t:=by
 simp only [YS,Array.getElem?_map,QQ] at h;obtain ⟨p,hp,rfl⟩:=h;exact ⟨p.2,by simp [XQ,hp]⟩
theorem Zpa {P:Nat->Value->Prop} (val:Nat->Str) (hval:∀i v,P i v->∃t,v=.str (val i) t):CmpOf prog w A .Gt P (fun i j=>ZN (val j) (val i)):=fun i j vi vj s Q E hi hj h=>by
 obtain ⟨t,rfl⟩:=hval i vi hi;obtain ⟨u,rfl⟩:=hval j vj hj;exact richCompare_gives (op:=.Gt) (R1 s _ t) (R1 s _ u) F.slot_str_gt F.entry_str_gt (F.args_str_gt_2 _ _) (gives_str_gt _ _ t u) (fun x=>nomatch x) h
theorem ZiZ {P:Nat->Value->Prop} (val:Nat->Str) (hval:∀i v,P i v->∃t,v=.str (val i) t):CmpOf prog w A .Lt P (fun i j=>ZN (val i) (val j)):=fun i j vi vj s Q E hi hj h=>by
 obtain ⟨t,rfl⟩:=hval i vi hi;obtain ⟨u,rfl⟩:=hval j vj hj;exact richCompare_gives (op:=.Lt) (R1 s _ t) (R1 s _ u) F.slot_str_lt F.entry_str_lt (F.args_str_lt_2 _ _) (gives_str_lt _ _ t u) (fun x=>nomatch x) h
theorem Zi6 {a b:Str} {t u:Tok} {Q:Value->Shared->Prop} (hh:A.handled=none)
  (h:∀h' tk,(∀c o,s.heap.get? c=some o->h'.get? c=some o)->Q (if ZN a b=true then .str b u else .str a t) { s with heap:=h',toks:=tk }) :
  wpAny (model prog w) A (call (.builtin "max") [.str a t,.str b u]) Q E s:=by
 have hT:(s.heap.push { cls:=.type "tuple",data:=.seq #[.str a t,.str b u] }).IsTuple s.heap.objs.size (YS #[(a,t),(b,u)]):=⟨_,Qr _ rfl,rfl,0,by simp [YS]⟩;refine call_max_two (Gb hT ?_);have hsz:(s.heap.push { cls:=.type "tuple",data:=.seq #[.str a t,.str b u] }).objs.size=s.heap.objs.size+1:=Ra ..
 refine ⟨_,[_,s.heap.objs.size],[_],_,_,_,_,rfl,Walks.tuple (A:=A.in1) hh _ s.heap.objs.size (by rw [hsz];exact QB (Rb _)) (YS #[(a,t),(b,u)]),
  ⟨⟨_,Qr _ rfl,rfl,rfl⟩,hT.push _⟩,fun c hc=>?_,by simp [YS],Zpa (XQ #[(a,t),(b,u)]) (fun _ _=>ZgE),fun v h' tk hP hk=>?_⟩
 ·show c<((s.heap.push _).push _).objs.size;rw [Ra,hsz];rcases Qh.mp hc with rfl|hc
  ·rw [hsz];exact Rb _
  ·rcases Qh.mp hc with rfl|hc
   ·exact R4 (Rb _)
   ·cases hc
 ·have hold:∀c o,s.heap.get? c=some o->h'.get? c=some o:=fun c o e=>by
   refine hk c o (fun hm=>?_) (Qj _ (Qj _ e));rcases Qh.mp hm with e1|hm
   ·have:=Qi e;rw [e1,hsz] at this;exact QE _ (Nat.lt_of_succ_lt this)
   ·cases hm
  have:=h h' tk hold
  have hv:v=if ZN a b=true then Value.str b u else Value.str a t:=by
   have hP':(YS #[(a,t),(b,u)])[argBest (fun i j=>ZN (XQ #[(a,t),(b,u)] j) (XQ #[(a,t),(b,u)] i)) 1]?=some v:=by
    have hsz2:(YS #[(a,t),(b,u)]).size-1=1:=by simp [YS]
    rw [←hsz2];exact hP
   have e0:argBest (fun i j=>ZN (XQ #[(a,t),(b,u)] j) (XQ #[(a,t),(b,u)] i)) 1=if ZN a b=true then 1 else 0:=by
    show (if _=true then 1 else 0)=_;rfl
   by_cases hba:ZN a b=true
   ·rw [e0,Qb hba] at hP';rw [Qb hba];simpa [YS] using hP'.symm
   ·rw [e0,Qa hba] at hP';rw [Qa hba];simpa [YS] using hP'.symm
  rw [hv];exact this
theorem Zlc {a b:Str} {t u:Tok} {Q:Value->Shared->Prop} (hh:A.handled=none)
  (h:∀h' tk,(∀c o,s.heap.get? c=some o->h'.get? c=some o)->Q (if ZN b a=true then .str b u else .str a t) { s with heap:=h',toks:=tk }) :
  wpAny (model prog w) A (call (.builtin "min") [.str a t,.str b u]) Q E s:=by
 have hT:(s.heap.push { cls:=.type "tuple",data:=.seq #[.str a t,.str b u] }).IsTuple s.heap.objs.size (YS #[(a,t),(b,u)]):=⟨_,Qr _ rfl,rfl,0,by simp [YS]⟩;refine call_min_two (Gb hT ?_);have hsz:(s.heap.push { cls:=.type "tuple",data:=.seq #[.str a t,.str b u] }).objs.size=s.heap.objs.size+1:=Ra ..
 refine ⟨_,[_,s.heap.objs.size],[_],_,_,_,_,rfl,Walks.tuple (A:=A.in1) hh _ s.heap.objs.size (by rw [hsz];exact QB (Rb _)) (YS #[(a,t),(b,u)]),
  ⟨⟨_,Qr _ rfl,rfl,rfl⟩,hT.push _⟩,fun c hc=>?_,by simp [YS],ZiZ (XQ #[(a,t),(b,u)]) (fun _ _=>ZgE),fun v h' tk hP hk=>?_⟩
 ·show c<((s.heap.push _).push _).objs.size;rw [Ra,hsz];rcases Qh.mp hc with rfl|hc
  ·rw [hsz];exact Rb _
  ·rcases Qh.mp hc with rfl|hc
   ·exact R4 (Rb _)
   ·cases hc
 ·have hold:∀c o,s.heap.get? c=some o->h'.get? c=some o:=fun c o e=>by
   refine hk c o (fun hm=>?_) (Qj _ (Qj _ e));rcases Qh.mp hm with e1|hm
   ·have:=Qi e;rw [e1,hsz] at this;exact QE _ (Nat.lt_of_succ_lt this)
   ·cases hm
  have:=h h' tk hold
  have hv:v=if ZN b a=true then Value.str b u else Value.str a t:=by
   have hP':(YS #[(a,t),(b,u)])[argBest (fun i j=>ZN (XQ #[(a,t),(b,u)] i) (XQ #[(a,t),(b,u)] j)) 1]?=some v:=by
    have hsz2:(YS #[(a,t),(b,u)]).size-1=1:=by simp [YS]
    rw [←hsz2];exact hP
   have e0:argBest (fun i j=>ZN (XQ #[(a,t),(b,u)] i) (XQ #[(a,t),(b,u)] j)) 1=if ZN b a=true then 1 else 0:=by
    show (if _=true then 1 else 0)=_;rfl
   by_cases hba:ZN b a=true
   ·rw [e0,Qb hba] at hP';rw [Qb hba];simpa [YS] using hP'.symm
   ·rw [e0,Qa hba] at hP';rw [Qa hba];simpa [YS] using hP'.symm
  rw [hv];exact this
theorem ZkC {l:Addr} {vs:List Value} {Q:List Value->Shared->Prop} (hl:IsTup s.heap l vs.toArray)
  (h:Q vs { s with heap:=(s.heap.push (seqObj "list" #[] 0)).update s.heap.objs.size (Obj.mapSeq (·++vs.toArray)) }) (hsz:vs.length≤sizeLine) :
  wpAny (model prog w) A (collect (.ref l)) Q E s:=by
 obtain ⟨o,ho,hc,n,hd⟩:=id hl;unfold collect;refine Qc (wpAny_runValue (RN Nz ?_));show wpAny _ _ (do again (.builtin "list.__iadd__" ⟨[←newList [],.ref l],[]⟩)) _ _ s;refine Qc (R8 (Qe ⟨GL _ (by decide +kernel),RN entry_list_iadd' ?_⟩));show wpAny _ _ (Builtin.List.listExtendWith (.ref s.heap.objs.size) (.ref l) (.ref s.heap.objs.size)) _ _ { s with heap:=s.heap.push (seqObj "list" #[] 0) };unfold Builtin.List.listExtendWith;have ho':(s.heap.push (seqObj "list" #[] 0)).get? l=some o:=Qj _ ho;refine Qc (GG (T:="tuple") ⟨o,ho',hc⟩ ?_);have ht:(Value.type "tuple"==Value.type "tuple")=true:=by rfl
 rw [Qb (by rw [ht];simp)];refine Qc (listItems_at ho' hd ?_);refine Qc (listItems_at (xs:=#[]) (n:=0) (Qr _ rfl) rfl ?_);rw [Qa (by simp)];refine Qc (listUpdate_at (xs:=#[]) (n:=0) (Qr _ rfl) rfl ?_ (QZ _) (by show (#[]++vs.toArray).size≤sizeLine+1;simp only [Array.size_append,Qv,Ni];omega));refine Qe ?_;refine Qc (wpAny_load (get?_update_seq (Qr _ rfl) _) ?_);show wpAny _ _ (pure ((#[]:Array Value)++vs.toArray).toList) Q E _;rw [show ((#[]:Array Value)++vs.toArray).toList=vs by simp];exact Qe h
theorem ZkO {x:Value} {vs:List Value} {ss:List Str} {Q:Value->Shared->Prop} (hS:StrsAre vs ss) (h64:vs.length<64)
  (hc:∀(A':Around) (Q':List Value->Shared->Prop),A'.handled=A.handled->(∀h1 tk,(∀b o,s.heap.get? b=some o->h1.get? b=some o)->s.heap.objs.size≤h1.objs.size->Q' vs { s with heap:=h1,toks:=tk })->wpAny (model prog w) A' (collect x) Q' E s)
  (h:∀h' tk a e (out:Array Value) (ss':List Str),(∀b o,s.heap.get? b=some o->h'.get? b=some o)->s.heap.objs.size≤a->h'.get? a=some (seqObj "list" out e)->StrsAre out.toList ss'->ss'.Perm ss->sortedS ss'=true->Q (.ref a) { s with heap:=h',toks:=tk }) :
  wpAny (model prog w) A (call (.builtin "sorted") [x]) Q E s:=by
 refine NA kind_sorted plain_sorted entry_sorted (args_sorted1 _) ?_;unfold Builtin.«sorted»;refine Qc (m:=checkCount "sorted" 1 1 _) (Qe ?_);refine Qc (hc _ _ rfl fun h1 tk k1 z1=>?_);refine Qc (R8 ?_);have hoL:(h1.push (seqObj "list" vs.toArray 0)).get? h1.objs.size=some (seqObj "list" vs.toArray 0):=Qr _ rfl;show wpAny _ _ _ _ _ { s with heap:=h1.push (seqObj "list" vs.toArray 0),toks:=tk };refine Qc (Rh (Re slot_list_sort ⟨_,hoL,rfl⟩ entry_list_sort (list_sort_treeK strKind_oneLt hoL hS.keysOf (fun v₁ v₂ rest e=>keyKind_strs (by rw [←e];exact hS)) h64 fun st' a1 a2=>⟨_,rfl,?_⟩) (args_list_sort _)));obtain ⟨ss',b1,b2,b3⟩:=sorted_out_str hS a1 a2;obtain ⟨e,he⟩:=sortedHeap_at (out:=(arrOf st').map (·.2)) hoL;refine Qe ⟨_,rfl,h _ tk _ e _ ss' (fun b o q=>?_) z1 he b1 b2 b3⟩;have q1:=k1 _ _ q;have lt:b<h1.objs.size:=Qi q1;rw [sortedHeap_old (QB lt) (by rw [size_push'];exact R4 lt)];exact Qj _ q1
end
section
variable {X:Cx}
theorem Zpd (hc:X.calm=true):Y8 X (.builtin "max") (fun xs H Q=>∃i j,xs=[.str i,.str j]∧Q (.str (if ZN i j=true then j else i)) H):=by
 intro pins s σ H xs us Q I r h;obtain ⟨i,j,rfl,q⟩:=h;obtain ⟨u,w',rfl,⟨t,rfl⟩,⟨t',rfl⟩⟩:=JJ r;refine Zi6 (I.ok.hd hc) fun h' tk k=>⟨_,H,I.kept k,?_,q⟩;by_cases hj:ZN i j=true
 ·rw [Qb hj,Qb hj];exact ⟨_,rfl⟩
 ·rw [Qa hj,Qa hj];exact ⟨_,rfl⟩
theorem ZnF (hc:X.calm=true):Y8 X (.builtin "min") (fun xs H Q=>∃i j,xs=[.str i,.str j]∧Q (.str (if ZN j i=true then j else i)) H):=by
 intro pins s σ H xs us Q I r h;obtain ⟨i,j,rfl,q⟩:=h;obtain ⟨u,w',rfl,⟨t,rfl⟩,⟨t',rfl⟩⟩:=JJ r;refine Zlc (I.ok.hd hc) fun h' tk k=>⟨_,H,I.kept k,?_,q⟩;by_cases hj:ZN j i=true
 ·rw [Qb hj,Qb hj];exact ⟨_,rfl⟩
 ·rw [Qa hj,Qa hj];exact ⟨_,rfl⟩
theorem ZkE (K:W.Frag) (hK:X.K=K:=by rfl):Y8 X (.builtin "sorted") (fun xs H Q=>∃l zs,xs=[.ref l]∧SqT K H l (zs.map V.str)∧zs.length<64∧∀D zs',H D=none->zs'.Perm zs->sortedS zs'=true->Q (.ref D) (Zc H D (.lst (zs'.map V.str)))):=by
 subst hK;intro pins s σ H xs us Q I r h;obtain ⟨l,zs,rfl,hq,hl,q⟩:=h;obtain ⟨u,rfl,ru⟩:=XE r;cases (show u=Value.ref l from ru);obtain ⟨its,rv,pl,hz⟩:=I.tuple hq;have hlen:=rv.length;rw [Qd] at hlen;refine ZkO (ZbS rv) (by omega) (fun A' Q' _ q'=>ZkC pl (q' _ _ (fun b o e=>?_) ?_) (by rw [Qd] at hz;omega)) fun h' tk a e out zs' k1 z1 he so hp hs=>?_
 ·have lt:=Qi e;rw [Heap.get?_update_ne _ _ _ _ (QB lt)];exact Qj _ e
 ·rw [Heap.size_update,size_push'];exact QT _
 have hl2:zs'.length=zs.length:=hp.length_eq;exact ⟨.ref _,_,I.laid (t':=tk) (o:=.lst (zs'.map V.str)) k1 z1 (show ObjOk X.prog X.w _ _ _ (.lst (zs'.map V.str)) from ⟨by rw [Qd];exact QN (ZK (by omega)),out.toList,e,ZaQ so,he⟩),rfl,q _ zs' (I.hok.fresh z1) hp hs⟩
theorem Zmg {prog:Program} {w:World} {K:Type} [DecidableEq K] (knd:HeapKind prog w K) (d:Addr) (hd:(d==sysModules)=false) :
  MeetsIn prog w (Builtin.«dict.__len__» ⟨[.ref d],[]⟩) (fun _ R s=>∃kvs,s.heap.DictOfH knd d kvs∧R (.ok (.ret (.int kvs.length s.toks))) { s with toks:=s.toks+1 }) :=
 .of_wp fun A R s ⟨kvs,hm,h⟩=>by
  obtain ⟨o,es,ep,ho,hc,hdat,he,hk,hn⟩:=hm;show wpAny _ _ (dictSize d >>= _) _ _ s;unfold dictSize;refine Qc (Qc (wpAny_dictEntries ho hdat (Qe ?_)));show wpAny _ _ (Builtin.Dict.pendingCount d >>= _) _ _ s;refine Qc (wpAny_pendingCount_other hd ?_);refine wpAny_ret_mkInt ?_;have:es.size=kvs.length:=size_of_entries he;rw [Nat.add_zero,this];exact h
theorem ZjD {prog:Program} {w:World} {A:Around} {E:Value->Shared->Prop} {s:Shared} {K:Type} [DecidableEq K] {knd:HeapKind prog w K} {d:Addr} {kvs:List (K×Addr×Value)} {Q:Value->Shared->Prop} (hd:(d==sysModules)=false) (hm:s.heap.DictOfH knd d kvs) (hfit:(kvs.length:Int)<2 ^ 63)
  (h:Q (.int kvs.length (s.toks+1)) { s with toks:=s.toks+1+1 }):wpAny (model prog w) A (call (.builtin "len") [.ref d]) Q E s:=by
 refine NA kind_len plain_len entry_len (args_len1 _) ?_;unfold Builtin.«len»;refine Qc (m:=oneArg "len" _) (Qe ?_)
 refine Qc (m:=callSpecial? (.ref d) (Str.ofString "__len__")) (Rn (name:=Str.ofString "__len__") hm.typeIs F.slot_dict_len
  (GK F.slot_dict_len hm.typeIs F.entry_dict_len (F.args_dict_len_1 _) (Zmg knd d hd) ⟨kvs,hm,?_⟩))
 show wpAny _ _ _ _ _ { s with toks:=s.toks+1 };refine Qc (Rh (Qe ?_));refine Qc (wpAny_letGo ?_);show wpAny _ _ (if ((kvs.length:Nat):Int)<0 then _ else _) _ _ _;rw [Qa (by omega)];show wpAny _ _ (if ((kvs.length:Nat):Int) ≥ 2 ^ 63 then _ else _) _ _ _;rw [Qa (by omega)];exact Qc (wpAny_mkInt (Qe ⟨_,rfl,h⟩))
theorem Zki:Y8 X (.builtin "len") (fun xs H Q=>∃a kvs,xs=[V.ref a]∧H a=some (.dT kvs)∧Q (.int kvs.length) H):=by
 intro pins s σ H xs us Q I r h;obtain ⟨a,kvs,rfl,ha,q⟩:=h;obtain ⟨u,rfl,ru⟩:=XE r;cases ru;obtain ⟨z,hd,vs,rel,dd⟩:=ZbK I.hok ha;refine ZjD hd dd (by rw [←rel.length];rw [RZ] at z;omega) ?_;rw [←rel.length];exact ⟨.int kvs.length,H,I.tok _,⟨_,rfl⟩,q⟩
end
section
variable {prog:Program} {w:World} {K:Type} [DecidableEq K] {knd:HeapKind prog w K} {A:Around} {E:Value->Shared->Prop} {s:Shared}
theorem Znu {d a:Addr} {xs:List (K×Addr×Value)} {k:K} {v:Value} {Q:Value->Shared->Prop} (hu:knd.room A) (hkey:knd.is s.heap k a) (hm:s.heap.DictOfH knd d xs) (hsz:xs.length≤sizeLine)
  (h1:∀p,atKey xs k=some p->Q p.2 { s with toks:=s.toks+knd.draws k })
  (h2:atKey xs k=none->∀h',h'.DictOfH knd d (storedH xs k a v)->Heap.SameBut d s.heap h'->Q v { s with heap:=h',toks:=s.toks+knd.draws k }) :
  wpAny (model prog w) A (dictSetDefault d (.ref a) v) Q E s:=by
 obtain ⟨o,es,ep,ho,hc,hd,he,his,hn⟩:=hm;unfold dictSetDefault
 try with_reducible refine Rh ?_
 refine Qc (knd.pyHash hu hkey ?_);refine Qc (wpAny_dictFind_heap (s:={ s with toks:=s.toks+knd.draws k }) hu hkey ho hd he his hn ?_ ?_)
 ·intro hno;have hnot:k∉xs.map (·.1):=not_mem_keys_of_get hno
  refine Qc (RP (Qc (wpAny_updateDictKeys (hz:=by have e:=size_of_entries he;omega) (s:={ s with toks:=s.toks+knd.draws k }) ho hd (Qe (h2 (GR hno) _ ⟨_,_,ep+1,Ng _ ho (Obj.isFreed_of_dict (Obj.data_mapDictKeys hd _)),
   hc.mapDictKeys _,Obj.data_mapDictKeys hd _,?_,?_,?_⟩ (Gk ..))))))
  ·rw [storedH_new (GR hno)];simp [he,entryOfKey]
  ·rw [storedH_new (GR hno)];intro x hx;rcases Ql.mp hx with hx|hx
   ·exact knd.keeps (his x hx) ho hd (Gk ..)
   ·simp only [QD] at hx;subst hx;exact knd.keeps hkey ho hd (Gk ..)
  ·rw [storedH_new (GR hno)];rw [Qs,QW];refine ⟨hn,by simp,?_⟩;intro x hx y hy;simp only [Qt,Gf,QD] at hy;subst hy;exact fun e=>hnot (e▸hx)
 ·intro j p hj;refine Qc (wpAny_dictEntries (s:={ s with toks:=s.toks+knd.draws k }) ho hd ?_);rw [entry_at he j,hj];exact Qc (RP (Qe (h1 p (atKey_of_get hn hj))))
theorem Zn1 (d a:Addr) (hd:(d==sysModules)=false) (dflt:Value) :
  MeetsIn prog w (Builtin.«dict.setdefault» ⟨[.ref d,.ref a,dflt],[]⟩) (fun A R s=>knd.room A.in1∧∃k xs,knd.is s.heap k a∧s.heap.DictOfH knd d xs∧xs.length≤sizeLine ∧
   (∀p,atKey xs k=some p->R (.ok (.ret p.2)) { s with toks:=s.toks+knd.draws k }) ∧
   (atKey xs k=none->∀h',h'.DictOfH knd d (storedH xs k a dflt)->Heap.SameBut d s.heap h'->R (.ok (.ret dflt)) { s with heap:=h',toks:=s.toks+knd.draws k })) :=
 .of_wp fun A R s ⟨hu,k,xs,hkey,hm,hz,h1,h2⟩=>by
  unfold Builtin.«dict.setdefault»;refine Qc ?_;unfold Builtin.Dict.keyAndDefault;refine Qc (wpAny_notOrdered_dict hm.typeIs ?_);show wpAny _ _ (pure (d,Value.ref a,some dflt)) _ _ s;refine Qe ?_;show wpAny _ _ (if (d==sysModules)=true then _ else (dictSetDefault d (.ref a) dflt >>= _)) _ _ s;rw [Qa (by rw [hd];exact QJ)];exact Qc (Znu hu hkey hm hz (fun p hp=>Qe ⟨p.2,rfl,h1 p hp⟩) fun hn h' hm' hs'=>Qe ⟨dflt,rfl,h2 hn h' hm' hs'⟩)
end
section
variable {X:Cx} {pins:List (Addr×Obj)} {σ:St} {H:Hp} {s:Shared} {a b:Addr} {kvs:List (List Zj×V)} {k:List Zj} {d:V} {r:Value} {A:Around} {E:Value->Shared->Prop}
theorem Zoo {Q:Value->Shared->Prop} (hu:A.units+1<cLine) (I:Inv X pins σ H s) (e:H a=some (.dT kvs)) (eb:H b=some (.tup (k.map kV))) (l:kvs.length<sizeLine) (rd:RelV d r)
  (h1:∀v w' s',ZI kvs k=some v->RelV v w'->Inv X pins σ H s'->Q w' s') (h2:∀s',ZI kvs k=none->Inv X pins σ (Zc H a (.dT (kvs++[(k,d)]))) s'->Q r s') :
  wpAny (model X.prog X.w) A (call (.builtin "dict.setdefault") [.ref a,.ref b,r]) Q E s:=by
 obtain ⟨z,hd,xs,rel,dd⟩:=ZbK I.hok e;have hz:xs.length≤sizeLine:=by rw [←Gx rel];exact z
 have hv:=rel.val k
 refine GK NT dd.typeIs PySem.F.entry_dict_setdefault (PySem.F.args_dict_setdefault_3 _ _ _) (Zn1 (knd:=tupleKind (Yg X.prog X.w)) a b hd r)
  ⟨R3 hu,k,xs,V9 I.hok eb,dd,hz,fun p hp=>?_,fun hn h' dd' hs=>?_⟩
 ·rw [hp] at hv;cases ho:ZI kvs k with
  |none=>rw [ho] at hv;cases hv
  |some v =>
   rw [ho] at hv;exact h1 v _ _ ho hv (I.tok _)
 ·rw [hn] at hv
  have ho:ZI kvs k=none:=by
   cases ho:ZI kvs k with
   |none=>rfl
   |some v=>rw [ho] at hv;cases hv
  refine h2 _ ho ?_;have hp:=rel.put k eb rd;rw [ZaL _ ho] at hp;have hl:(kvs++[(k,d)]).length≤sizeLine:=by rw [Qn];exact l
  obtain ⟨q,es,ep,hq,h2,h3,h4,_,h5⟩:=dd';refine Zbb I (by rw [e];exact True.intro) hs ⟨q,hq⟩ ⟨hl,hd,_,hp.keeps fun c ys ec=>?_,q,es,ep,hq,h2,h3,h4,h5⟩;rw [Zd (ZfT ec e (fun z=>nomatch z))];exact ec
end
def Zmu (td ty tx:TE):TE:=fun σ H Q=>td σ H fun x H1=>∃a,x=.ref a∧IsD H1 a∧ty σ H1 fun y H2=>tx σ H2 fun z H3=>∃kvs k b,H3 a=some (.dT kvs)∧y=.ref b∧H3 b=some (.tup (k.map kV))∧kvs.length<sizeLine ∧
 (∀v,ZI kvs k=some v->Q v H3)∧(ZI kvs k=none->Q z (Zc H3 a (.dT (kvs++[(k,z)]))))
section
variable {X:Cx} {o e f:Expr} {apos cpos:Pos} {td ty tx:TE}
theorem ZkL (hu:X.A.units+1<cLine) (ho:PE X o td) (he:PE X e ty) (hf:PE X f tx) (m:M2 X o "setdefault" apos e f cpos):PE X (.Call (.Attribute o "setdefault" apos) [e,f] [] cpos) (Zmu td ty tx):=by
 intro pins s σ H Q I h;refine wpAny_Call_method m.base m.few m.line NR NT PySem.F.type_dict_setdefault (Zp (ho pins s σ H _ I h) fun u s1 ⟨x,H1,I1,rx,a,ex,d,q1⟩=>?_);subst ex;obtain rfl:u=Value.ref a:=rx;obtain ⟨t1,t2,_⟩:=Zgt I1 d;refine ⟨t1,t2,?_⟩;rw [m.trees]
 refine Nh rfl (Gh (Rm (Zp (he pins s1 σ H1 _ I1 q1) fun iv s2 ⟨y,H2,I2,ry,q2⟩ =>
  Rm (Zp (hf pins s2 σ H2 _ I2 q2) fun fv s3 ⟨z,H3,I3,rz,kvs,k,b,ea,ey,eb,hl,q3,q4⟩=>Ge ?_))))
 subst ey;obtain rfl:iv=Value.ref b:=ry;exact Zoo hu I3 ea eb hl rz (fun v w' s4 l rw' I4=>⟨v,H3,I4,rw',q3 v l⟩) fun s4 l I4=>⟨z,_,I4,rz,q4 l⟩
end
end L2
namespace L2
open PySem PySem.Spec PyProof.Rows PySem.W
section
variable {prog:Program} {w:World} {A:Around} {E:Value->Shared->Prop} {s:Shared} {T:String} {r d:Addr} {n:Nat} {P:Nat->Value->Prop} {OK:Heap->Prop}
theorem ZoH {Q:List Value->Shared->Prop} (K:KdlSrc prog w T r d n P OK) (hh:A.handled=none) (hok:OK s.heap) (hn:n≤sizeLine)
  (h:∀h1 tk (acc:Array Value),(∀b o,s.heap.get? b=some o->h1.get? b=some o)->s.heap.objs.size≤h1.objs.size->ItemsOf P acc n->Q acc.toList { s with heap:=h1,toks:=tk }) :
  wpAny (model prog w) A (collect (.ref r)) Q E s:=by
 have hlt:=K.there _ hok;unfold collect;refine Qc (wpAny_runValue (RN Nz ?_));show wpAny _ _ (do again (.builtin "list.__iadd__" ⟨[←newList [],.ref r],[]⟩)) _ _ s;refine Qc (R8 (Qe ⟨GL _ (by decide +kernel),RN entry_list_iadd' ?_⟩));show wpAny _ _ (Builtin.List.listExtendWith (.ref s.heap.objs.size) (.ref r) (.ref s.heap.objs.size)) _ _ { s with heap:=s.heap.push (seqObj "list" #[] 0) };have hS:(s.heap.push (seqObj "list" #[] 0)).get? s.heap.objs.size=some { cls:=.type "list",data:=.seq #[] 0 }:=Qr _ rfl;rw [Around.under_plainId (by decide +kernel)]
 refine kdl_extend (R:=fun r s'=>match r with
  |.ok (.ret v)=>wpAny (model prog w) A (match v with
   |.ref a=>do match (←load a).data with
    |.seq xs _=>pure xs.toList
    |_=>unsupported "internal:collect"
   |_=>unsupported "internal:collect") Q E s'
  |.ok _=>False
  |.error e=>E e s') (A:=A) (s:={ s with heap:=s.heap.push (seqObj "list" #[] 0) }) K hh (K.keep _ _ hok fun b _ o e=>Qj _ e) s.heap.objs.size (Rl hlt.1) (Rl hlt.2) (.ref s.heap.objs.size) 0 hS (fun h' tk acc c hk hS' hacc=>?_) hn
 refine Qc (wpAny_load hS' ?_);exact Qe (h h' tk acc (fun b o e=>hk b o (QB (Qi e)) (Qj _ e)) (QN (Qi hS')) hacc)
theorem ZkU {x:Value} {ss:List Str} {Q:Value->Shared->Prop} (h64:ss.length<64)
  (hc:∀(A':Around) (Q':List Value->Shared->Prop),A'.handled=A.handled->(∀vs h1 tk,StrsAre vs ss->(∀b o,s.heap.get? b=some o->h1.get? b=some o)->s.heap.objs.size≤h1.objs.size->Q' vs { s with heap:=h1,toks:=tk })->wpAny (model prog w) A' (collect x) Q' E s)
  (h:∀h' tk a e (out:Array Value) (ss':List Str),(∀b o,s.heap.get? b=some o->h'.get? b=some o)->s.heap.objs.size≤a->h'.get? a=some (seqObj "list" out e)->StrsAre out.toList ss'->ss'.Perm ss->sortedS ss'=true->Q (.ref a) { s with heap:=h',toks:=tk }) :
  wpAny (model prog w) A (call (.builtin "sorted") [x]) Q E s:=by
 refine NA kind_sorted plain_sorted entry_sorted (args_sorted1 _) ?_;unfold Builtin.«sorted»;refine Qc (m:=checkCount "sorted" 1 1 _) (Qe ?_);refine Qc (hc _ _ rfl fun vs h1 tk hS k1 z1=>?_);refine Qc (R8 ?_);have hvl:vs.length<64:=by rw [←hS.strs,Qd] at h64;exact h64
 have hoL:(h1.push (seqObj "list" vs.toArray 0)).get? h1.objs.size=some (seqObj "list" vs.toArray 0):=Qr _ rfl;show wpAny _ _ _ _ _ { s with heap:=h1.push (seqObj "list" vs.toArray 0),toks:=tk };refine Qc (Rh (Re slot_list_sort ⟨_,hoL,rfl⟩ entry_list_sort (list_sort_treeK strKind_oneLt hoL hS.keysOf (fun v₁ v₂ rest e=>keyKind_strs (by rw [←e];exact hS)) hvl fun st' a1 a2=>⟨_,rfl,?_⟩) (args_list_sort _)));obtain ⟨ss',b1,b2,b3⟩:=sorted_out_str hS a1 a2;obtain ⟨e,he⟩:=sortedHeap_at (out:=(arrOf st').map (·.2)) hoL;refine Qe ⟨_,rfl,h _ tk _ e _ ss' (fun b o q=>?_) z1 he b1 b2 b3⟩;have q1:=k1 _ _ q;have lt:b<h1.objs.size:=Qi q1;rw [sortedHeap_old (QB lt) (by rw [size_push'];exact R4 lt)];exact Qj _ q1
end
section
variable {X:Cx}
theorem Zmv {P:Program} {w:World} {x:Str} {v:Value} (h:(Yg P w).is (.inr x) v=true):∃t,v=.str x t:=by
 rcases We (show Vy (.inr x) v=true from h) with ⟨i,t,e,_⟩|⟨y,t,e,e2⟩
 ·cases e
 ·cases e;exact ⟨t,e2⟩
theorem ZgN:∀{vs:List Value} {ss:List Str},vs.length=ss.length->(∀(i:Nat) (v:Value),vs[i]?=some v->∃x t,ss[i]?=some x∧v=.str x t)->StrsAre vs ss
 |[],[],_,_=>.nil
 |v::vs,x::ss,hl,h=>by
  obtain ⟨y,t,e,rfl⟩:=h 0 v rfl;cases (show some x=some y from e)
  exact .cons x t (ZgN (by simpa using hl) fun i u hu=>by
   obtain ⟨z,t',e1,e2⟩:=h (i+1) u (by simpa using hu);exact ⟨z,t',by simpa using e1,e2⟩)
theorem Zol (hc:X.calm=true):Y8 X (.builtin "sorted") (fun xs H Q=>∃(l:Addr) (zs:List (Str×V)),xs=[.ref l]∧H l=some (.dK (zs.map fun p=>(.inr p.1,p.2)))∧zs.length<64∧∀D zs',H D=none->zs'.Perm (zs.map (·.1))->sortedS zs'=true->Q (.ref D) (Zc H D (.lst (zs'.map V.str)))):=by
 intro pins s σ H xs us Q I r h;obtain ⟨l,zs,rfl,hq,hl,q⟩:=h;obtain ⟨u,rfl,ru⟩:=XE r;cases (show u=Value.ref l from ru);obtain ⟨z,hd,vs,rel,dd⟩:=Za1 I.hok hq;obtain ⟨ep,da⟩:=dd.dictAt;have hlen:vs.length=zs.length:=by rw [←rel.length,Qd]
 have keyAt:∀(i:Nat) (k:Zj) (x:Value),vs[i]?=some (k,x)->∃z,(zs.map (·.1))[i]?=some z∧k=.inr z:=by
  have go:∀{ys:List (Str×V)} {ws:List (Zj×Value)},KV (ys.map fun p=>((.inr p.1:Zj),p.2)) ws->∀(i:Nat) (k:Zj) (x:Value),ws[i]?=some (k,x)->∃z,(ys.map (·.1))[i]?=some z∧k=.inr z:=by
   intro ys
   induction ys with
   |nil=>intro ws r i k x e;cases r;cases e
   |cons y ys ih =>
    intro ws r i k x e;cases r with
    |cons h t =>
     cases i with
     |zero =>
      rw [Nq] at e;cases e;exact ⟨y.1,rfl,h.1.symm⟩
     |succ i =>
      rw [GN] at e;obtain ⟨z,e1,e2⟩:=ih t i k x e;exact ⟨z,by simpa using e1,e2⟩
  exact go rel
 have col:∀(acc:Array Value),ItemsOf (fun i v=>∃k x,vs[i]?=some (k,x)∧(Yg X.prog X.w).is k v=true) acc vs.length->StrsAre acc.toList (zs.map (·.1)):=by
  intro acc hacc;refine ZgN (by rw [Qd,←hlen,RY];exact hacc.1) fun i v e=>?_;obtain ⟨k,x,e1,e2⟩:=hacc.2 i v (by rw [←Array.getElem?_toList];exact e);obtain ⟨z,e3,rfl⟩:=keyAt i k x e1;obtain ⟨t,rfl⟩:=Zmv e2;exact ⟨z,t,e3,rfl⟩
 refine ZkU (ss:=zs.map (·.1)) (by rw [Qd];exact hl) (fun A' Q' hA q'=>ZoH (kdl_dict hd) (by rw [hA];exact I.ok.hd hc) da (by rw [hlen];exact QN (ZK (by omega))) fun h1 tk acc k1 z1 hacc=>q' _ h1 tk (col acc hacc) k1 z1) fun h' tk a e out zs' k1 z1 he so hp hs=>?_;have hl2:zs'.length=zs.length:=by rw [hp.length_eq,Qd]
 exact ⟨.ref _,_,I.laid (t':=tk) (o:=.lst (zs'.map V.str)) k1 z1 (show ObjOk X.prog X.w _ _ _ (.lst (zs'.map V.str)) from ⟨by rw [Qd];exact QN (ZK (by omega)),out.toList,e,ZaQ so,he⟩),rfl,q _ zs' (I.hok.fresh z1) hp hs⟩
end
end L2
namespace L2
open PySem PySem.Spec PyProof.Rows
theorem Zfq (val:Nat->Int):∀k:Nat,argBest (fun i j=>decide (val i > val j)) k≤k∧∀i,i≤k->val i≤val (argBest (fun i j=>decide (val i > val j)) k)
 |0=>⟨Qf _,fun i hi=>by cases (show i=0 by omega);exact GS _⟩
 |k+1=>by
  obtain ⟨h1,h2⟩:=Zfq val k;show (if decide (val (k+1) > val (argBest _ k))=true then k+1 else argBest _ k)≤k+1∧∀i,i≤k+1->val i≤val (if decide (val (k+1) > val (argBest _ k))=true then k+1 else argBest _ k);by_cases h:val (k+1) > val (argBest (fun i j=>decide (val i > val j)) k)
  ·rw [Qb (Qw h)];refine ⟨Qf _,fun i hi=>?_⟩;by_cases e:i=k+1
   ·subst e;exact GS _
   ·have:=h2 i (by omega);omega
  ·rw [Qa (by rw [Qm h];decide)];refine ⟨by omega,fun i hi=>?_⟩;by_cases e:i=k+1
   ·subst e;omega
   ·exact h2 i (by omega)
theorem Zfz:∀{us:List Value} {is:List Int},Vals (is.map V.int) us->∃ps:List (Int×Tok),us=ps.map (fun p=>Value.int p.1 p.2)∧ps.map (·.1)=is
 |us,[],r=>by cases r;exact ⟨[],rfl,rfl⟩
 |us,i::is,r=>by
  cases r with
  |cons h t =>
   obtain ⟨tk,rfl⟩:=h;obtain ⟨ps,rfl,e⟩:=Zfz t;exact ⟨(i,tk)::ps,rfl,by rw [Qt,e]⟩
section
variable {X:Cx}
theorem Zex (K:W.Frag) (hc:X.calm=true) (hK:X.K=K:=by rfl):Y8 X (.builtin "max") (fun xs H Q=>∃(l:Addr) (is:List Int),xs=[.ref l]∧SqL K H l (is.map V.int)∧is≠[]∧∀m,m∈is->(∀x∈is,x≤m)->Q (.int m) H):=by
 subst hK;intro pins s σ H xs us Q I r h;obtain ⟨l,is,rfl,hq,hne,q⟩:=h;obtain ⟨u,rfl,ru⟩:=XE r;cases (show u=Value.ref l from ru);obtain ⟨its,rv,pl,hz⟩:=I.list hq;obtain ⟨ps,rfl,rfl⟩:=Zfz rv
 have hl:s.heap.IsList l (intItems ps.toArray):=by
  have:=pl.isList
  rwa [show (ps.map fun p=>Value.int p.1 p.2).toArray=intItems ps.toArray by simp [intItems]] at this
 have hpos:0<ps.length:=List.length_pos_iff.mpr (fun e=>hne (by rw [e];rfl));refine max_intList (I.ok.hd hc) hl (by simpa using hpos) fun v h' tk e k=>?_;obtain ⟨b1,b2⟩:=Zfq (numAt ps.toArray) (ps.toArray.size-1);obtain ⟨t,rfl⟩:=intItems_at e;generalize argBest (fun i j=>decide (numAt ps.toArray i > numAt ps.toArray j)) (ps.toArray.size-1)=n at *;have hn:n<ps.length:=by rw [Qv] at b1;omega
 have val:∀i (hi:i<ps.length),numAt ps.toArray i=(ps[i]).1:=fun i hi=>by simp [numAt,hi]
 refine ⟨.int (numAt ps.toArray n),H,I.kept k,⟨t,rfl⟩,q _ ?_ fun x hx=>?_⟩
 ·rw [val n hn];exact Qg.mpr ⟨ps[n],R9 _,rfl⟩
 ·obtain ⟨p,hp,rfl⟩:=Qg.mp hx;obtain ⟨i,hi,rfl⟩:=List.getElem_of_mem hp;rw [←val i hi];exact b2 i (by rw [Qv];omega)
end
section
variable {X:Cx} {pins:List (Addr×Obj)} {σ:St} {H H':Hp} {s:Shared} {d:Addr} {kvs:List (Zj×V)} {o:Obj}
theorem Inv.thaw (I:Inv X pins σ H s) (e:H d=some (.frz o (.dK kvs))) (n:∀o u,X.H₀ d≠some (.frz o u)):Inv X pins σ (Zc H d (.dK kvs)) s:=by
 have ne:∀b,H b=none->b≠d:=fun b z q=>by subst q;rw [e] at z;cases z
 refine ⟨I.ok,I.os,I.bare,⟨I.base.keep,I.base.slot,fun b q h1 h2 h3=>?_,I.base.there,fun b xs h1=>?_,fun b q u h1=>?_,fun b ps h1=>?_⟩,I.loc,I.cell,?_,fun x c h1=>?_,fun p hp=>?_,fun b u h1=>?_,I.len⟩
 ·have:=I.base.free b q h1 h2 h3;rw [Zd (ne b this)];exact this
 ·have:=I.base.tups b xs h1;rw [Zd (fun z=>by subst z;rw [e] at this;cases this)];exact this
 ·have:=I.base.frzs b q u h1;rw [Zd (fun z=>by subst z;exact n _ _ h1)];exact this
 ·obtain ⟨more,this⟩:=I.base.tbls b ps h1;exact ⟨more,by rw [Zd (fun z=>by subst z;rw [e] at this;cases this)];exact this⟩
 ·rw [Zd (ne _ I.free)];exact I.free
 ·have:=I.freeC x c h1;rw [Zd (ne _ this)];exact this
 ·obtain ⟨a1,a2,a3⟩:=I.pin p hp;exact ⟨a1,by rw [Zd (ne _ a2)];exact a2,a3⟩
 ·by_cases z:b=d
  ·subst z;rw [Zf] at h1;cases h1;exact (show ObjOk X.prog X.w _ _ _ (.dK kvs) from (I.hok b _ e).2)
  ·rw [Zd z] at h1;refine (I.hok b u h1).stay (fun c v hc q=>q) (fun c q=>?_) fun c xs q=>?_
   ·rw [Zd (fun z=>by subst z;rw [e] at q;cases q)];exact q
   ·rw [Zd (fun z=>by subst z;rw [e] at q;cases q)];exact q
end
theorem ZgV:∀{kvs:List (Zj×V)} {vs:List (Zj×Value)},KV kvs vs->∀(i:Nat) (p:Zj×V),kvs[i]?=some p->∃x,vs[i]?=some (p.1,x)
 |[],_,r,i,p,e=>by cases e
 |q::kvs,_,r,i,p,e=>by
  cases r with
  |@cons _ y _ _ h t =>
   cases i with
   |zero =>
    cases (show some q=some p from e);exact ⟨y.2,by rw [Nq,h.1]⟩
   |succ i =>
    rw [GN] at e;obtain ⟨x,hx⟩:=ZgV t i p e;exact ⟨x,by rw [GN];exact hx⟩
theorem Zl4 {k:Zj} {v:Value} (h:Vy k v=true):RelV (kV k) v:=by
 rcases We h with ⟨i,t,rfl,rfl⟩|⟨x,t,rfl,rfl⟩
 ·exact ⟨t,rfl⟩
 ·exact ⟨t,rfl⟩
noncomputable def Itd (d:Addr) (o:Obj) (kvs:List (Zj×V)):It where
 go:=fun i H=>H d=some (.frz o (.dK kvs))∧i<kvs.length
 stop:=fun i H=>H d=some (.frz o (.dK kvs))∧kvs.length≤i
 yld:=fun i H x H'=>H'=H∧(kvs[i]?.map fun p=>kV p.1)=some x
theorem Zlo {P:Program} {w:World} {K:W.Frag} {tg:Expr} (d it:Addr) (o:Obj) (kvs:List (Zj×V)) (es:Array DictEntry) (ep:Nat) (ho:o.data=.dict es ep):Turn P w K tg (Itd d o kvs) [it] it (fun i h=>h.IsKeyIter it d i kvs.length ep) where
 mem:=by simp
 obj:=fun i h st b hb=>by
  have e:b=it:=by simpa using hb
  subst e;obtain ⟨o,e,c,d⟩:=st;exact ⟨o,e,fun v z=>by rw [d] at z;cases z⟩
 keep:=fun i h h' st k=>st.at fun o e=>k it (by simp) o e
 item:=by
  intro X hP hw hK hc i pins s σ H E I hf st hg;subst hP hw hK;obtain ⟨hq,hi⟩:=hg;obtain ⟨g1,g2⟩:=(show s.heap.get? d=some o∧ObjOk X.prog X.w H s.heap d (.dK kvs) from I.hok d _ hq);obtain ⟨z,hd,vs,rel,dd⟩:=(show kvs.length≤sizeLine∧(d==sysModules)=false∧∃vs,KV kvs vs∧s.heap.DictOf (Yg X.prog X.w) d vs from g2);obtain ⟨o2,es2,ep2,b1,b2,b3,b4⟩:=dd;rw [g1] at b1;cases b1;rw [ho] at b3;cases b3;have da:s.heap.DictAt (Yg X.prog X.w) d vs ep:=⟨o,es,g1,b2,ho,b4⟩;have hlen:vs.length=kvs.length:=rel.length.symm;obtain ⟨x,hx⟩:=ZgV rel i kvs[i] (Qx hi);obtain ⟨f0,f1,f2,f3,f4,f5⟩:=hf it (by simp);rw [←hlen] at st;refine wpAny_pyNext_dict_item st da hx fun key h' hkey st' sb=>?_;have I1:Inv X pins σ H { s with heap:=h' }:=I.turned (t':=s.toks) (fun b o hb e=>(sb.2 b hb).trans e) f0 f1 f3 f4 f5;rw [hlen] at st';obtain ⟨o3,e3,c3,d3⟩:=id st';exact ⟨key,rfl,JR (s:={ s with heap:=h' }) e3 c3 d3 (by decide) ⟨kV kvs[i].1,H,I1,Zl4 hkey,⟨rfl,by rw [Qx hi];rfl⟩,st',fun b hb=>(hf b hb).1⟩⟩
 done:=by
  intro X hP hw hK hc i pins s σ H E I hf st hg;subst hP hw hK;obtain ⟨hq,hi⟩:=hg;obtain ⟨g1,g2⟩:=(show s.heap.get? d=some o∧ObjOk X.prog X.w H s.heap d (.dK kvs) from I.hok d _ hq);obtain ⟨z,hd,vs,rel,dd⟩:=(show kvs.length≤sizeLine∧(d==sysModules)=false∧∃vs,KV kvs vs∧s.heap.DictOf (Yg X.prog X.w) d vs from g2);obtain ⟨o2,es2,ep2,b1,b2,b3,b4⟩:=dd;rw [g1] at b1;cases b1;rw [ho] at b3;cases b3;have da:s.heap.DictAt (Yg X.prog X.w) d vs ep:=⟨o,es,g1,b2,ho,b4⟩;have hlen:vs.length=kvs.length:=rel.length.symm;obtain ⟨f0,f1,f2,f3,f4,f5⟩:=hf it (by simp);rw [←hlen] at st;exact wpAny_pyNext_dict_end (I.ok.hd hc) st da (Gq (by omega)) fun h' eb=>⟨rfl,I.turned (t':=s.toks) (fun b o hb e=>eb b o hb e) f0 f1 f3 f4 f5⟩
 self:=fun _ _ _ _ _ st h=>wpAny_pyIter_keyiter st h
def Zn0 (tl:TE):TI:=fun σ H R=>tl σ H fun x H1=>∃a kvs,x=.ref a∧H1 a=some (.dK kvs)∧∀o,R (Itd a o kvs) (Zc H1 a (.frz o (.dK kvs)))
theorem ZgA {X:Cx} {tg l:Expr} {tl:TE} (hl:PE X l tl):PI X tg l (Zn0 tl):=by
 intro pins s σ H R I h;refine Zp (hl pins s σ H _ I h) fun v s1 ⟨x,H1,I1,r1,q1⟩=>?_;obtain ⟨a,kvs,e,ha,q⟩:=q1;subst e;cases r1;obtain ⟨z,hd,vs,rel,dd⟩:=Za1 I1.hok ha;obtain ⟨o,es,ep,b1,b2,b3,b4⟩:=id dd;have da:s1.heap.DictAt (Yg X.prog X.w) a vs ep:=⟨o,es,b1,b2,b3,b4⟩;have hlen:vs.length=kvs.length:=rel.length.symm
 have If:Inv X pins σ (Zc H1 a (.frz o (.dK kvs))) s1 :=
  I1.write (x:=a) (e:=a) (o:=.frz o (.dK kvs)) (h':=s1.heap) (t':=s1.toks) (by rw [ha];exact True.intro) (.inl rfl) (fun b u _ e=>e) ⟨o,b1⟩ ⟨b1,z,hd,vs,rel,dd⟩
 refine wpAny_pyIter_dict hd da ?_;refine ⟨s1.heap.objs.size,[s1.heap.objs.size],_,_,_,rfl,If.kept (t':=s1.toks) fun b o e=>Qj _ e,Zlo a _ o kvs es ep b3,⟨_,Qr _ rfl,rfl,by rw [hlen];rfl⟩,fun b hb=>?_,q o⟩;have e:b=s1.heap.objs.size:=by simpa using hb
 subst e;exact If.fpOk (Qf _) (If.hok.fresh (Qf _))
section
variable {X:Cx}
end
section
variable {X:Cx}
end
section
variable {X:Cx}
end
def Zk0 (t:TS):TS:=fun D σ H=>∃d kvs,H d=some (.dK kvs)∧t { nx:=fun σ' H'=>∃o,H' d=some (.frz o (.dK kvs))∧D.nx σ' (Zc H' d (.dK kvs)),rt:=fun _ _=>False } σ H
theorem Zfa {X:Cx} {st:Stmt} {t:TS} (hs:PS X st t):PS X st (Zk0 t):=by
 intro pins s σ H D I h;obtain ⟨d,kvs,hd,h⟩:=h
 have n:∀o u,X.H₀ d≠some (.frz o u):=fun o u z=>by
  have:=I.base.frzs d o u z;rw [hd] at this;cases this
 refine Zp (hs pins s σ H _ I h) fun fl s1 q=>?_;cases fl with
 |next =>
  obtain ⟨σ1,H1,I1,o,e1,q1⟩:=q;exact ⟨σ1,_,I1.thaw e1 n,q1⟩
 |brk=>obtain ⟨σ1,H1,I1,z⟩:=q;exact z.elim
 |cont=>obtain ⟨σ1,H1,I1,z⟩:=q;exact z.elim
 |ret u=>obtain ⟨v,σ1,H1,I1,r,z⟩:=q;exact z.elim
structure FunD (K:W.Frag) (x qual:Str) (st:Stmt) (f:Addr) (fd:FuncData) (dV:Value):Prop where
 ex:∃(oc:Value) (od:Option Addr) (kV doc pm:Value) (an:Option Addr) (cdv ct:Value) (osl:Array (Option Value)),
  fd=W.fnOf x qual (Xo st) (Y3 st) (Zu st) dV kV doc pm an cdv ct∧K.lookup f=some ⟨oc,od,.func fd,osl⟩∧W.codeIn K cdv qual=true
 kp:W.keepIn K (.ref f)=true
theorem FunD.okX {P:Program} {w:World} {K:W.Frag} {mg:Str->Option Value} {base:Heap} {CX:Yr} {x qual:Str} {st:Stmt} {f:Addr} {fd:FuncData} {dV:Value} {N ps:List Str} {k:Nat} {sp:Sp} (F:FunD K x qual st f fd dV) (S:FnScope N ps (Zu st))
  (len:∀vs H Q E,sp vs H Q E->vs.length=ps.length)
  (hbody:∀(cdv:Value) (A:Around) (outer:List Env) (s:Shared) (H:Hp) (vs:List V) (Q:VK) (E:XK),Room k (A.deeper (envOfC qual (Zu st) s.heap.objs.size f cdv))->sp vs H Q E →
   ∃t,PSs (WR CX P w K mg base N qual (Zu st) f cdv A outer s H E) (Y3 st) t∧t { nx:=fun _ H'=>Q .non H',rt:=Q } (start N vs) H):FnOk P w K mg base CX (k+1) f fd ps sp:=by
 obtain ⟨oc,od,kV,doc,pm,an,cdv,ct,osl,rfl,lk,hcd⟩:=F.ex;exact Zdb lk hcd S len fun A outer s H vs Q E hr hsp=>hbody cdv A outer s H vs Q E hr hsp
theorem Zec {K:W.Frag} {x qual:Str} {st:Stmt} {f:Addr} {oc:Value} {od an:Option Addr} {osl:Array (Option Value)} {dV kV doc pm cdv ct:Value} (l:K.lookup f=some ⟨oc,od,.func (W.fnOf x qual (Xo st) (Y3 st) (Zu st) dV kV doc pm an cdv ct),osl⟩)
  (c:W.codeIn K cdv qual=true) (k:W.keepIn K (.ref f)=true):FunD K x qual st f (W.fnOf x qual (Xo st) (Y3 st) (Zu st) dV kV doc pm an cdv ct) dV:=⟨⟨oc,od,kV,doc,pm,an,cdv,ct,osl,rfl,l,c⟩,k⟩
theorem FunD.binds1 {K:W.Frag} {x qual:Str} {st:Stmt} {f T:Addr} {fd:FuncData} {ps:List Str} {o:Obj} {n:Nat} (F:FunD K x qual st f fd (.ref T)) (ho:K.lookup T=some o) (hs:o.data=.seq #[.none] n)
  (h:∀(kV doc pm:Value) (an:Option Addr) (cdv ct:Value) (us:List Value),us.length+1=ps.length->∃k:Option (Array Value)->Sem (List (Str×Value)),
   bindArgs (W.fnOf x qual (Xo st) (Y3 st) (Zu st) (.ref T) kV doc pm an cdv ct) ⟨us,[]⟩=seqItems? (.ref T) >>= k∧k (some #[.none])=pure (ps.zip (us++[.none]))):Binds K fd ps [.none]:=by
 obtain ⟨oc,od,kV,doc,pm,an,cdv,ct,osl,rfl,lk,hcd⟩:=F.ex;intro s us hin hl;rw [Qn] at hl;obtain ⟨k,h1,h2⟩:=h kV doc pm an cdv ct us hl;exact W.binds_K hin rfl ho hs h1 h2
section
variable {X:Cx} {body suite:List Stmt} {b₀:Stmt} {x n:Str} {C:Addr} {np hpos pos:Pos} {bmB:List Value} {newId:String} {i:Nat} {tb:XS->TS} {ts:TS}
end
end L2
namespace SA
open PySem PyProof.Rows
section
variable {M:Model} {A:Around} {E:Value->Shared->Prop} {s:Shared}
variable {O:KeyOrd} {key:Keyed->O.α} {D:Keyed->Prop} {kd:SortKind}
end
section
variable {M:Model} {A:Around} {E:Value->Shared->Prop} {s:Shared} {O:KeyOrd} {key:Keyed->O.α} {D:Keyed->Prop} {kd:SortKind}
end
section
variable {M:Model} {A:Around} {E:Value->Shared->Prop} {s:Shared} {O:KeyOrd} {key:Keyed->O.α} {D:Keyed->Prop} {kd:SortKind}
end
section
variable {O:KeyOrd} {key:Keyed->O.α}
end
section
variable {M:Model} {A:Around} {E:Value->Shared->Prop} {s:Shared} {O:KeyOrd} {key:Keyed->O.α} {D:Keyed->Prop} {kd:SortKind}
end
section
variable {M:Model} {A:Around} {E:Value->Shared->Prop} {s:Shared} {O:KeyOrd} {key:Keyed->O.α} {D:Keyed->Prop} {kd:SortKind}
end
section
variable {M:Model} {A:Around} {E:Value->Shared->Prop} {s:Shared} {O:KeyOrd} {key:Keyed->O.α} {D:Keyed->Prop} {kd:SortKind} {d:O.α}
end
section
variable {M:Model} {A:Around} {E:Value->Shared->Prop} {s:Shared} {O:KeyOrd} {key:Keyed->O.α} {D:Keyed->Prop} {kd:SortKind} {d:O.α}
end
section
variable {M:Model} {A:Around} {E:Value->Shared->Prop} {s:Shared} {O:KeyOrd} {key:Keyed->O.α} {D:Keyed->Prop} {kd:SortKind} {d:O.α} {a0:List Keyed}
end
section
variable {M:Model} {A:Around} {E:Value->Shared->Prop} {s:Shared} {O:KeyOrd} {key:Keyed->O.α} {D:Keyed->Prop} {kd:SortKind} {d:O.α} {a0:List Keyed}
end
end SA
namespace SA
open PySem PyProof.Rows PySem.W
section
variable {prog:Program} {w:World} {A:Around} {E:Value->Shared->Prop} {s:Shared}
end
end SA
namespace L2
open PySem PySem.Spec PyProof.Rows PySem.W
section
variable {prog:Program} {w:World} {A:Around} {E:Value->Shared->Prop} {s:Shared}
end
end L2
namespace L2
open PySem PySem.Spec PyProof.Rows PySem.W SA
section
variable {prog:Program} {w:World} {A:Around} {E:Value->Shared->Prop} {s:Shared}
end
section
variable {X:Cx}
end
section
variable {X:Cx}
end
section
variable {X:Cx} {pins:List (Addr×Obj)} {σ:St} {H H':Hp} {s:Shared} {d:Addr} {kvs:List (List Zj×V)} {o:Obj}
end
section
variable {prog:Program} {w:World} {A:Around} {E:Value->Shared->Prop}
end
end L2
namespace L2
open PySem PySem.Spec PyProof.Rows PySem.W
noncomputable def ZA (K:W.Frag) (f:Addr):FuncData:=match K.lookup f with
 |some ⟨_,_,.func fd,_⟩=>fd
 |_=>default
structure DefIn (K:W.Frag) (x q:Str) (st:Stmt) (f:Addr):Prop where
 ex:∃(oc:Value) (od:Option Addr) (kV doc pm:Value) (an:Option Addr) (cdv ct:Value) (osl:Array (Option Value)),
  K.lookup f=some ⟨oc,od,.func (fnOf x q (Xo st) (Y3 st) (Zu st) .none kV doc pm an cdv ct),osl⟩∧codeIn K cdv q=true
 kp:keepIn K (.ref f)=true
theorem DefIn.fn {K:W.Frag} {x q:Str} {st:Stmt} {f:Addr} (h:DefIn K x q st f):Fun K x q st f (ZA K f):=by
 obtain ⟨oc,od,kV,doc,pm,an,cdv,ct,osl,lk,hc⟩:=h.ex;have e:ZA K f=fnOf x q (Xo st) (Y3 st) (Zu st) .none kV doc pm an cdv ct:=by unfold ZA;rw [lk]
 rw [e];exact ZiA lk hc h.kp
def Ze1 (x q:Str) (st:Stmt) (ps:List Str):Prop:=∀(kV doc pm:Value) (an:Option Addr) (cdv ct:Value) (us:List Value),us.length=ps.length->bindArgs (fnOf x q (Xo st) (Y3 st) (Zu st) .none kV doc pm an cdv ct) ⟨us,[]⟩=pure (ps.zip us)
structure Df (K:W.Frag) (mg:Str->Option Value) (x:Str) (st:Stmt) (ps:List Str) where
 a:Addr
 F:Fun K x x st a (ZA K a)
 b:Binds K (ZA K a) ps []
 m:mg x=some (.ref a)
structure Dm (K:W.Frag) (C:Addr) (x q:Str) (st:Stmt) (ps:List Str) where
 a:Addr
 F:Fun K x q st a (ZA K a)
 b:Binds K (ZA K a) ps []
 me:Meth K C x a
noncomputable def Df.of {K:W.Frag} {mg:Str->Option Value} {h:Heap} {x:Str} {st:Stmt} {ps:List Str} {f:Addr} (X:K.In h) (G:h.Ns mainGlobals mg) (a:nsIn K mainGlobals x=some (some (.ref f))) (l:DefIn K x x st f) (hb:Ze1 x x st ps):Df K mg x st ps:=⟨f,l.fn,l.fn.binds hb,mg_of X G a⟩
noncomputable def Dm.of {K:W.Frag} {C:Addr} {x q:Str} {st:Stmt} {ps:List Str} {f:Addr} (a:findIn K (.ref C) x=some (some (.ref f))) (i:isFn K (.ref f)=true) (l:DefIn K x q st f) (hb:Ze1 x q st ps):Dm K C x q st ps:=⟨f,l.fn,l.fn.binds hb,⟨a,i,l.kp⟩⟩
theorem Yx {P:List Value->Prop} (h:∀a,P [a]):∀us,us.length=1->P us
 |[_],_=>h _
theorem YX {P:List Value->Prop} (h:∀a b,P [a,b]):∀us,us.length=2->P us
 |[_,_],_=>h _ _
theorem VX {P:List Value->Prop} (h:∀a b c,P [a,b,c]):∀us,us.length=3->P us
 |[_,_,_],_=>h _ _ _
theorem un4 {P:List Value->Prop} (h:∀a b c d,P [a,b,c,d]):∀us,us.length=4->P us
 |[_,_,_,_],_=>h _ _ _ _
end L2
namespace TextG
open PySem
end TextG
namespace L2
open PySem PySem.Spec PyProof.Rows PySem.W
section
variable {X:Cx}
end
section
variable {X:Cx} {CX:Yr} {k1 k2 k3:Nat} {f1 C1 f2 C2 f3 C3:Addr} {fd1 fd2 fd3:FuncData} {ps1 ps2 ps3:List Str} {sp1 sp2 sp3:Sp} {E:XS} {m:Str} {pos apos:Pos} {o:Expr} {ta:TE}
end
end L2
namespace L2
open PySem PySem.Spec PyProof.Rows
section
variable {prog:Program} {w:World} {A:Around} {R:Result->Shared->Prop} {s:Shared}
end
section
variable {X:Cx} {pins:List (Addr×Obj)} {σ:St} {H:Hp} {s:Shared} {N:List Str} {sc:Scope} {cl:List (Str×Addr)} {σc:St->St} {fp:List Addr}
end
section
variable {X:Cx} {elt tg iter:Expr} {ifs:List Expr} {sc:Scope} {pos:Pos} {N:List Str} {cl:List (Str×Addr)} {σc:St->St} {wi:TI} {g:TG} {tt:TT} {te:TE}
end
section
variable {M:Model} {A:Around} {E:Value->Shared->Prop} {s:Shared}
end
section
variable {X:Cx} {pins:List (Addr×Obj)} {σ:St} {H H':Hp} {s s':Shared} {e:Addr} {cls:Value}
end
section
variable {P:Program} {w:World} {K:W.Frag} {mg:Str->Option Value} {base:Heap} {N:List Str} {qual:Str} {scope:Scope} {f:Addr} {cd:Value} {A:Around} {outer:List Env} {s:Shared} {H:Hp} {E:XK}
end
section
variable {X:Cx}
end
section
variable {prog:Program} {w:World} {A:Around} {E:Value->Shared->Prop} {s:Shared}
end
section
variable {prog:Program} {w:World} {κ:Type} [DecidableEq κ] {knd:KeyKind prog w κ} {A:Around} {s:Shared}
end
section
variable {X:Cx}
end
section
variable {prog:Program} {w:World} {A:Around} {E:Value->Shared->Prop} {s:Shared}
end
section
variable {X:Cx} {pos:Pos}
variable {i o value:Expr} {ty td tv:TE} {pos':Pos}
end
end L2
namespace L2
open PySem PySem.Spec PyProof.Rows PySem.W
section
variable {X:Cx} {o i l tg:Expr} {pos:Pos} {td ty tl:TE} {K:W.Frag} {w:World} {a:Addr} {kvs:List (Zj×V)}
theorem ZfO (d:KDict K w a kvs) (hi:PE X i ty) (ho:PE X o td) (hK:X.K=K:=by rfl) (hw:X.w=w:=by rfl):PC X .In i o (fun σ H Q=>ty σ H fun y H1=>td σ H1 fun x H2=>x=.ref a∧∃k,y=kV k∧Q (.bl (ZI kvs k).isSome) H2):=by
 subst hK hw;intro pins s σ H Q I h;refine Zp (hi pins s σ H _ I h) fun iv s1 ⟨y,H1,I1,ry,q1⟩=>Zp (ho pins s1 σ H1 _ I1 q1) fun u s2 ⟨x,H2,I2,rx,ex,k,ey,q2⟩=>?_;subst ex ey;obtain rfl:u=Value.ref a:=rx;obtain ⟨vs,rel,dd⟩:=d.dict (P:=X.prog) I2.kIn;refine wpAny_in_of (Wg ry) d.1 dd.mapOf ?_;rw [←(rel.val k).isSome_eq];exact ⟨.bl _,H2,I2.tok _,rfl,q2⟩
theorem Zaw (d:KDict K w a kvs) (ho:PE X o td) (hi:PE X i ty) (hs:Zdv i) (hK:X.K=K:=by rfl) (hw:X.w=w:=by rfl):PE X (.Subscript o i pos) (fun σ H Q=>td σ H fun x H1=>ty σ H1 fun y H2=>x=.ref a∧∃k v,y=kV k∧ZI kvs k=some v∧Q v H2):=by
 subst hK hw;intro pins s σ H Q I h;refine ZhJ NP.lookup hs (Zp (ho pins s σ H _ I h) fun u s1 ⟨x,H1,I1,rx,q1⟩=>Zp (hi pins s1 σ H1 _ I1 q1) fun iv s2 ⟨y,H2,I2,ry,ex,k,v,ey,l,q2⟩=>?_);subst ex ey;obtain rfl:u=Value.ref a:=rx;obtain ⟨vs,rel,dd⟩:=d.dict (P:=X.prog) I2.kIn;refine ⟨dd.typeIs,?_⟩;obtain ⟨w',hw,rw'⟩:=RelO.some_of (v:=v) (o:=valueAt vs k) (by rw [←l];exact rel.val k);exact wpAny_getItem_of (Wg ry) dd.mapOf hw ⟨v,H2,I2.tok _,rw',q2⟩
end
section
variable {X:Cx}
end
end L2
namespace L2
open PySem PySem.Spec PyProof.Rows PySem.W PySem.SeqAt
section
variable {prog:Program} {w:World} {A:Around} {E:Value->Shared->Prop} {s:Shared}
end
noncomputable def YV (ln co:Nat):Option Addr->Array Value
 |none=>#[]
 |some c'=>#[rawInt ln,rawInt co,.ref c']
noncomputable def Xe (P:Addr) (ln co:Nat) (oc:Option Addr):HO:=.ext fun h=>h.get? P=some (tabObj (YV ln co oc))
noncomputable def Vv (c':Addr) (q:Str):HO:=.ext fun h=>h.CodeRec (.ref c') q
def LamH (P:Addr) (ln co:Nat) (q:Str) (H:Hp):Prop:=∃oc,H P=some (Xe P ln co oc)∧∀c',oc=some c'->H c'=some (Vv c' q)
noncomputable def noX:HO->Bool
 |.ext _=>false
 |_=>true
def SameX (H H':Hp):Prop:=∀b u,noX u=true->H b=some u->H' b=some u
theorem Same.x {H H':Hp} (s:Same H H'):SameX H H':=fun b u _ e=>s b u e
theorem SameX.trans {H H1 H2:Hp} (a:SameX H H1) (b:SameX H1 H2):SameX H H2:=fun c u n e=>b c u n (a c u n e)
theorem SameX.refl (H:Hp):SameX H H:=fun _ _ _ e=>e
theorem LamH.same {P:Addr} {ln co:Nat} {q:Str} {H H':Hp} (h:LamH P ln co q H) (s:Same H H'):LamH P ln co q H':=by
 obtain ⟨oc,h1,h2⟩:=h;exact ⟨oc,s _ _ h1,fun c' e=>s _ _ (h2 c' e)⟩
theorem SameX.sql {K:W.Frag} {H H':Hp} {a:Addr} {xs:List V} (s:SameX H H') (h:SqL K H a xs):SqL K H' a xs:=by
 rcases h with (h|⟨o,h⟩)|h
 ·exact .inl (.inl (s _ _ rfl h))
 ·exact .inl (.inr ⟨o,s _ _ rfl h⟩)
 ·exact .inr h
theorem SameX.sqt {K:W.Frag} {H H':Hp} {a:Addr} {xs:List V} (s:SameX H H') (h:SqT K H a xs):SqT K H' a xs:=by
 rcases h with (h|⟨o,h⟩)|h
 ·exact .inl (.inl (s _ _ rfl h))
 ·exact .inl (.inr ⟨o,s _ _ rfl h⟩)
 ·exact .inr h
structure LamB (base:Heap) (c P:Addr) (mg:Str->Option Value):Prop where
 hd:CodeHd base c P
 bm:∃bm ob,mg "__builtins__"=some (.ref bm)∧bm≠builtinsNs∧base.get? bm=some ob∧ob.cls=.type "module"∧ob.dict=some builtinsNs∧ob.data=.plain
section
variable {X:Cx} {pins:List (Addr×Obj)} {σ:St} {H:Hp} {s:Shared} {h':Heap}
theorem ZbI {P:Addr} {ln co:Nat} {oc:Option Addr} {pr:Program} {w:World} {h:Heap} (e:h.get? P=some (tabObj (YV ln co oc))):ObjOk pr w H h P (Xe P ln co oc) :=
 ⟨e,⟨_,e⟩,fun h1 h2 p k=>k _ p⟩
theorem Zk1 {c':Addr} {q:Str} {pr:Program} {w:World} {h:Heap} (e:h.CodeRec (.ref c') q):ObjOk pr w H h c' (Vv c' q):=by
 refine ⟨e,?_,fun h1 h2 p k=>?_⟩
 ·obtain ⟨c,oc,vs,t,e1,e2,_⟩:=e;cases e1;exact ⟨_,e2⟩
 ·obtain ⟨c,oc,vs,t,e1,e2,e3⟩:=p;cases e1;exact ⟨_,oc,vs,t,rfl,k _ e2,e3⟩
theorem Inv.grow {P c':Addr} {ln co:Nat} {q:Str} {t':Nat} (I:Inv X pins σ H s) (hP:H P=some (Xe P ln co none)) (hx:Heap.ExtBut P s.heap h') (hc:s.heap.objs.size≤c') (hr:h'.CodeRec (.ref c') q)
  (ht:h'.get? P=some (tabObj #[rawInt ln,rawInt co,.ref c'])):Inv X pins σ (Zc (Zc H P (Xe P ln co (some c'))) c' (Vv c' q)) { s with heap:=h',toks:=t' }:=by
 have nP:∀b u,H b=some u->(∀φ,u≠.ext φ)->b≠P:=fun b u e n z=>by subst z;rw [hP] at e;exact n _ (Qo e).symm
 have nc:∀b u,H b=some u->b≠c':=fun b u e z=>by subst z;exact absurd (Qk (I.hok.lt e) hc) (QE _)
 have ns:∀b o,s.heap.get? b=some o->b≠c':=fun b o e z=>by subst z;exact absurd (Qk (Qi e) hc) (QE _)
 have n0:∀b,H b=none->b≠P:=fun b e z=>by subst z;rw [hP] at e;cases e
 refine I.un ⟨fun b o e n _ _=>hx b o (n0 b n) e,fun b o e n _ _=>⟨o.slots,hx b o (n0 b n) e⟩,fun b o e n _=>?_,fun b o e _=>?_,fun b xs e=>?_,fun b o u e=>?_,fun b ps e=>?_⟩ fun b u e=>?_
 ·rw [Zd (ns b o e),Zd (n0 b n)];exact n
 ·by_cases z:b=P
  ·subst z;exact ⟨_,ht⟩
  ·exact ⟨o,hx b o z e⟩
 ·rw [Zd (nc b _ e),Zd (nP b _ e fun φ z=>by cases z)];exact e
 ·rw [Zd (nc b _ e),Zd (nP b _ e fun φ z=>by cases z)];exact e
 ·exact ⟨#[],by rw [Zd (nc b _ e),Zd (nP b _ e fun φ z=>by cases z),e];simp⟩
 ·by_cases z:b=c'
  ·subst z;rw [Zf] at e;cases e;exact Zk1 hr
  rw [Zd z] at e;by_cases y:b=P
  ·subst y;rw [Zf] at e;cases e;exact ZbI (oc:=some c') ht
  rw [Zd y] at e;refine (I.hok b u e).stay (fun d v hd r=>hx d v ?_ r) (fun d r=>?_) fun d xs r=>?_
  ·rcases hd with rfl|hd
   ·exact y
   ·exact nP d _ hd fun φ z=>by cases z
  ·rw [Zd (nc d _ r),Zd (nP d _ r fun φ z=>by cases z)];exact r
  ·rw [Zd (nc d _ r),Zd (nP d _ r fun φ z=>by cases z)];exact r
end
theorem ObjOk.has {P:Program} {w:World} {H:Hp} {h:Heap} {a:Addr} {o:HO} (x:ObjOk P w H h a o):∃ob,h.get? a=some ob:=by
 cases o with
 |lst xs=>obtain ⟨_,_,_,_,e⟩:=x;exact ⟨_,e⟩
 |tup xs=>obtain ⟨_,_,_,_,e,_⟩:=x;exact ⟨_,e⟩
 |dK kvs=>obtain ⟨_,_,_,_,o,_,_,e,_⟩:=x;exact ⟨_,e⟩
 |dT kvs=>obtain ⟨_,_,_,_,o,_,_,e,_⟩:=x;exact ⟨_,e⟩
 |set S n=>obtain ⟨o,_,_,_,e,_⟩:=x;exact ⟨_,e⟩
 |ins C dx fs=>obtain ⟨_,_,_,e,_⟩:=x;exact ⟨_,e⟩
 |own y=>exact x
 |xd fs=>obtain ⟨_,⟨_,_,_,e,_⟩,_⟩:=x;exact ⟨_,e⟩
 |rng lo hi=>obtain ⟨_,_,_,e⟩:=x;exact ⟨_,e⟩
 |frz ob u=>obtain ⟨e,_⟩:=x;exact ⟨_,e⟩
 |tbl ps=>exact ⟨_,(show h.get? a=some _ from x)⟩
 |met f y=>exact ⟨_,(show h.get? a=some _ from x)⟩
 |ext φ=>obtain ⟨_,e,_⟩:=x;exact e
section
variable {X:Cx} {e:Expr} {te:TE} {p pos kp lpos p1 p2 p3 p4:Pos} {x o q:Str} {params:Arguments} {scope:Scope} {c P cc:Addr} {i:Nat}
end
end L2
namespace L2
open PySem PySem.Spec PyProof.Rows PySem.W
def ZcG (K:W.Frag) (f c:Addr):Prop:=∃oc od fd osl,K.lookup f=some ⟨oc,od,.func fd,osl⟩∧fd.code=.ref c
theorem Fun.okL {P:Program} {w:World} {K:W.Frag} {mg:Str->Option Value} {base:Heap} {CX:Yr} {x qual:Str} {st:Stmt} {f c:Addr} {fd:FuncData} {N ps:List Str} {k:Nat} {sp:Sp} (hc:ZcG K f c) (F:Fun K x qual st f fd) (S:FnScope N ps (Zu st))
  (len:∀vs H Q E,sp vs H Q E->vs.length=ps.length)
  (hbody:∀(A:Around) (outer:List Env) (s:Shared) (H:Hp) (vs:List V) (Q:VK) (E:XK),Room k (A.deeper (envOfC qual (Zu st) s.heap.objs.size f (.ref c)))->sp vs H Q E →
   ∃t,PSs (WR CX P w K mg base N qual (Zu st) f (.ref c) A outer s H E) (Y3 st) t∧t { nx:=fun _ H'=>Q .non H',rt:=Q } (start N vs) H):FnOk P w K mg base CX (k+1) f fd ps sp:=by
 obtain ⟨oc,od,kV,doc,pm,an,cdv,ct,osl,rfl,lk,hcd⟩:=F.ex;obtain ⟨oc2,od2,fd2,osl2,lk2,e⟩:=hc;rw [lk] at lk2;cases lk2;have e2:cdv=.ref c:=e;subst e2;exact Zdb lk hcd S len fun A outer s H vs Q E hr hsp=>hbody A outer s H vs Q E hr hsp
theorem ZeO {K:W.Frag} {nm:Str} {f cc tb:Addr} {oc oc2:Value} {od od2:Option Addr} {sl sl2:Array (Option Value)} {fd:FuncData} {vs:Array Value} (a:nsIn K mainGlobals nm=some (some (.ref f))) (l:K.lookup f=some ⟨oc,od,.func fd,sl⟩) (e:fd.code=.ref cc)
  (lc:K.lookup cc=some ⟨oc2,od2,.fields vs,sl2⟩) (v:vs[11]?=some (.ref tb)):tabIn K nm=some (cc,tb):=by
 unfold tabIn;rw [a];simp only;rw [l];simp only;rw [e];simp only;rw [lc];simp only;rw [v]
end L2
namespace L2
open PySem PySem.Spec PyProof.Rows
section
variable {X:Cx}
end
section
variable {X:Cx}
end
end L2
namespace L2
open PySem PySem.Spec PyProof.Rows PySem.W
noncomputable abbrev Fz (ob:Obj):HO:=.frz ob (.own 0)
noncomputable abbrev Ui (g o x y:Str) (p0 p1 p2 p3 p4:Pos):Expr:=.Call (.Name g p0) [.Name o p1,.Name x p2,.Name y p3] [] p4
structure LamOk2 (g o x y:Str) (params:Arguments) (scope:Scope) (body:Expr):Prop where
 bind:∀(qual:Str) (cl:List (Str×Addr)) (pm cd ct u v:Value),bindArgs (kla_fn "<lambda>" qual params body scope cl pm cd ct) ⟨[u,v],[]⟩=pure [(x,u),(y,v)]
 lx:scope.names.lookup x=some .local
 ly:scope.names.lookup y=some .local
 fre:scope.names.lookup o=some .free
 gl:scope.names.lookup g=some .globalImplicit
 kind:scope.kind=.function
 co:scope.isCoroutine=false
 gen:scope.isGenerator=false
 cell:∀z∈scope.names,z.2≠.cell
 xy:(x==y)=false
 db:(x==("__debug__" : Str))=false∧(y==("__debug__" : Str))=false∧(o==("__debug__" : Str))=false∧(o==("__classdict__" : Str))=false∧(g==("__debug__" : Str))=false
structure LamA (q:Str) (params:Arguments) (body:Expr) (scope:Scope) (o:Str) (f b:Addr) (H:Hp):Prop where
 ex:∃cc oc pm c' ctv,H f=some (Fz (kla_obj "<lambda>" q params body scope [(o,cc)] pm c' ctv))∧H c'=some (Vv c' q)∧H cc=some (Fz oc)∧oc.data=.cell (some (.ref b))
theorem LamA.same {q:Str} {params:Arguments} {body:Expr} {scope:Scope} {o:Str} {f b:Addr} {H H':Hp} (h:LamA q params body scope o f b H) (s:Same H H'):LamA q params body scope o f b H':=by
 obtain ⟨cc,oc,pm,c',ctv,h1,h2,h3,h4⟩:=h.ex;exact ⟨cc,oc,pm,c',ctv,s _ _ h1,s _ _ h2,s _ _ h3,h4⟩
theorem ZhU {env:Env} {L:Addr} {st:List Env} {b:Addr} (h:env.frame=some L) (hb:b∈Yn (env::st)):b=L∨b∈Yn st:=by
 unfold Yn at hb;rw [Q4,h] at hb;exact Qh.mp hb
theorem Un.back {env:Env} {L:Addr} {st:List Env} {H H':Hp} {h h1 h':Heap} (hf:env.frame=some L) (hL:L=h.objs.size) (k:∀b o,h.get? b=some o->h1.get? b=some o) (u:Un (Yn (env::st)) [] H H' h1 h'):Un (Yn st) [] H H' h h' where
 keep:=fun b o e n hb hx=>u.keep b o (k b o e) n (fun z=>by
  rcases ZhU hf z with z|z
  ·rw [z,hL] at e;exact absurd (Qi e) (QE _)
  ·exact hb z) hx
 slot:=fun b o e n hb hx=>by
  by_cases z:b∈Yn (env::st)
  ·exact u.slot b o (k b o e) n z hx
  ·exact ⟨o.slots,u.keep b o (k b o e) n z hx⟩
 free:=fun b o e n hx=>u.free b o (k b o e) n hx
 there:=fun b o e hx=>u.there b o (k b o e) hx
 tups:=u.tups
 frzs:=u.frzs
 tbls:=u.tbls
section
variable {X:Cx}
theorem Zoq {CX:Yr} {k:Nat} {g o x y q:Str} {params:Arguments} {scope:Scope} {p0 p1 p2 p3 p4:Pos} {f b fg:Addr} {fdg:FuncData} {psg:List Str} {spg:Sp} {pins:List (Addr×Obj)} {σ:St} {H:Hp} {s:Shared} {Q:VK} {u1 u2:Value} {v1 v2:V}
  (ok:LamOk2 g o x y params scope (Ui g o x y p0 p1 p2 p3 p4)) (Fg:FnOk X.prog X.w X.K X.mg X.base CX k fg fdg psg spg) (hb:Binds X.K fdg psg []) (hm:X.mg g=some (.ref fg)) (hk:keepIn X.K (.ref fg)=true) (hr:Room (k+1) X.A) (hCX:∀st H s e s',CX st H s E0 e s'->False)
  (I:Inv X pins σ H s) (r1:RelV v1 u1) (r2:RelV v2 u2) (hL:LamA q params (Ui g o x y p0 p1 p2 p3 p4) scope o f b H) (h:spg [.ref b,v1,v2] H Q E0):wpAny (model X.prog X.w) X.A (call (.ref f) [u1,u2]) (EP X pins σ Q) X.xe s:=by
 obtain ⟨cc,oc,pm,c',ctv,h1,h2,h3,h4⟩:=hL.ex;have hf:s.heap.get? f=some (kla_obj "<lambda>" q params (Ui g o x y p0 p1 p2 p3 p4) scope [(o,cc)] pm c' ctv):=(I.hok f _ h1).1;have hcd:s.heap.CodeRec (.ref c') q:=(I.hok c' _ h2).1;have hcc:s.heap.get? cc=some oc:=(I.hok cc _ h3).1;refine RI ?_;refine kla_callFunE hr.depth hf rfl ok.co ok.gen rfl hcd ?_;rw [ok.bind];refine Qe (Nr ok.cell (fun z hz=>?_) (fun hh hns hsb=>⟨I.nolimit.fresh _ hsb,?_⟩) ok.kind)
 ·have:z=(x,u1)∨z=(y,u2):=by simpa using hz
  rcases this with rfl|rfl
  ·exact ok.lx
  ·exact ok.ly
 have kp:∀b o,s.heap.get? b=some o->hh.get? b=some o:=fun b o e=>hsb.extBut b o (QB (Qi e)) (Qj _ e);show codeAny _ _ (.expr (Ui g o x y p0 p1 p2 p3 p4) (envX q scope s.heap.objs.size f (.ref c') [(o,cc)])) _ _;refine kla_codeExpr ?_
 have kg:(envX q scope s.heap.objs.size f (.ref c') [(o,cc)]).kindOf g=some .globalImplicit:=by
  first|exact ok.gl|(simp only [Env.kindOf];exact ok.gl)
 have ko:(envX q scope s.heap.objs.size f (.ref c') [(o,cc)]).kindOf o=some .free:=by
  first|exact ok.fre|(simp only [Env.kindOf];exact ok.fre)
 have kx:(envX q scope s.heap.objs.size f (.ref c') [(o,cc)]).kindOf x=some .local:=by
  first|exact ok.lx|(simp only [Env.kindOf];exact ok.lx)
 have ky:(envX q scope s.heap.objs.size f (.ref c') [(o,cc)]).kindOf y=some .local:=by
  first|exact ok.ly|(simp only [Env.kindOf];exact ok.ly)
 have hgl:hh.Ns mainGlobals X.mg:=I.mod.glob.keeps fun b o e=>kp b o (I.bk b o e)
 have lk1:([(x,u1),(y,u2)]:List (Str×Value)).reverse.lookup x=some u1:=by
  show ([(y,u2),(x,u1)]:List (Str×Value)).lookup x=some u1;rw [GQ,ok.xy];simp
 have lk2:([(x,u1),(y,u2)]:List (Str×Value)).reverse.lookup y=some u2:=by
  show ([(y,u2),(x,u1)]:List (Str×Value)).lookup y=some u2;rw [GQ];simp
 refine Rc (G8 ok.kind kg (Calls.loadGlobal_global hgl hm ?_) ok.db.2.2.2.2);refine Gi (h₀:=X.base) I.ok.mod.kin hk ?_ rfl rfl;show wpAny _ _ (spliced ((false,eval (.Name o p1) (envX q scope s.heap.objs.size f (.ref c') [(o,cc)]))::(false,eval (.Name x p2) (envX q scope s.heap.objs.size f (.ref c') [(o,cc)]))::[(false,eval (.Name y p3) (envX q scope s.heap.objs.size f (.ref c') [(o,cc)]))])) _ _ _;refine Rm (Rq (G7 ok.kind ko (by simp) ⟨oc,kp _ _ hcc,h4⟩ ?_ ok.db.2.2.2.1) ok.db.2.2.1);refine Rm (Rq (Gz (v:=u1) ok.kind kx hns lk1 ?_) ok.db.1);refine Rm (Rq (Gz (v:=u2) ok.kind ky hns lk2 (Ge ?_)) ok.db.2.1);have fr:(envX q scope s.heap.objs.size f (.ref c') [(o,cc)]).frame=some s.heap.objs.size:=rfl
 have e0:Env0 X.prog X.w X.K X.mg X.base (X.A.deeper (envX q scope s.heap.objs.size f (.ref c') [(o,cc)])) (envX q scope s.heap.objs.size f (.ref c') [(o,cc)]::X.stack) { s with heap:=hh,toks:=s.toks+[(x,u1),(y,u2)].length } H:=by
  have sz:s.heap.objs.size≤hh.objs.size:=QN hns.lt;refine ⟨Around.frames_deeper I.ok.frames,I.ok.mod,fun b o e=>⟨kp b o (I.bs b o e).1,(I.bs b o e).2⟩,Qq (Qq I.ok.bsz I.sz) sz,?_,fun b hb=>?_,I.hok.kept kp,I.bare⟩
  ·refine Heap.FunFrames.cons (by show scope.kind≠_;rw [ok.kind];decide) fr hns (G6 (Qq I.ok.bsz I.sz)) ?_;exact I.stack.of_keeps fun b o e _=>⟨o,kp b o e,rfl⟩
  ·rcases ZhU fr hb with z|z
   ·rw [z];exact I.hok.fresh (Qf _)
   ·exact I.stkFree b z
 refine ⟨I.ok.mod.kin.keeps fun b o e=>kp b o (I.bk b o e),RI (RJ (Fg.run _ _ _ H ⟨[.ref b,u1,u2],[]⟩ ([.ref b,u1,u2]++[]) [.ref b,v1,v2] Q E0 (hr.deeper _) e0 (hb _ _ (I.ok.mod.kin.keeps fun b o e=>kp b o (I.bk b o e)) (by rw [←Fg.len _ _ _ _ h];rfl)) (.cons rfl (.cons r1 (.cons r2 .nil))) h) fun r s' hq=>?_)⟩;cases r with
 |error e=>exact (hCX _ _ _ _ _ hq).elim
 |ok fl =>
  cases fl with
  |ret u =>
   obtain ⟨v,H',os,bare,un,hok,r,q⟩:=hq;exact I.after ⟨v,H',os,bare,un.back fr rfl kp,hok,r,q⟩
  |next=>exact False.elim hq
  |brk=>exact False.elim hq
  |cont=>exact False.elim hq
def ZkP (q:Str) (params:Arguments) (body:Expr) (scope:Scope) (o:Str) (spg:Sp) (i:Nat) (t:TA):TE:=fun σ H Q=>∃f,σ[i]?=some (some (.ref f))∧t σ H fun vs H1=>∃v1 v2 b,vs=[v1,v2]∧LamA q params body scope o f b H1∧spg [.ref b,v1,v2] H1 Q E0
theorem ZkI {CX:Yr} {k i:Nat} {g o x y q nm:Str} {params:Arguments} {scope:Scope} {p0 p1 p2 p3 p4 p pos:Pos} {fg:Addr} {fdg:FuncData} {psg:List Str} {spg:Sp} {e1 e2:Expr} {t:TA}
  (ok:LamOk2 g o x y params scope (Ui g o x y p0 p1 p2 p3 p4)) (Fg:FnOk X.prog X.w X.K X.mg X.base CX k fg fdg psg spg) (hb:Binds X.K fdg psg []) (hm:X.mg g=some (.ref fg)) (hk:keepIn X.K (.ref fg)=true) (hr:Room (k+1) X.A) (hCX:∀st H s e s',CX st H s E0 e s'->False)
  (hN:X.N[i]?=some nm) (hv:J2 X.env.scope nm) (ha:PA X [e1,e2] t) (hd:(nm==("__debug__" : Str))=false:=by decide) (hcd:(nm==("__classdict__" : Str))=false:=by decide)
  (he:starEach [e1,e2] X.env=(false,eval e1 X.env)::starEach [e2] X.env:=by rfl) (hpl:(backTo pos (starEach [e2] X.env)).any (·.1)=false:=by rfl) :
  PE X (.Call (.Name nm p) [e1,e2] [] pos) (ZkP q params (Ui g o x y p0 p1 p2 p3 p4) scope o spg i t):=by
 intro pins s σ H Q I h;obtain ⟨f,hσ,h⟩:=h;refine Rc (Zp (Zb2 hN hv hd hcd pins s σ H (fun v H'=>v=.ref f∧H'=H) I ⟨_,hσ,rfl,rfl⟩) fun u s1 ⟨v,H1,I1,r1,e2,e3⟩=>?_);subst e2 e3;cases (show u=Value.ref f from r1);have hA:=ha pos pins s1 σ H1 _ I1 h;rw [he] at hA ⊢;refine callWith_of (P:=fun hh=>∃fd:FuncData,hh.get? f=some { cls:=.type "function",data:=.func fd }) (by show ((false||(backTo pos (starEach [e2] X.env)).any (·.1))||false)=false;rw [hpl];rfl) (fun hh ⟨fd,e⟩=>⟨.frame,.inl rfl,(Looks.ld (part:=none) e).andThen .now⟩) (Gh (Zp hA fun us s2 ⟨vs,H2,I2,r2,q2⟩=>?_));obtain ⟨v1,v2,b,rfl,hL,hsp⟩:=q2;obtain ⟨u1,u2,rfl,ra,rb⟩:=JJ r2;refine ⟨?_,Zoq ok Fg hb hm hk hr hCX I2 ra rb hL hsp⟩;obtain ⟨cc,oc,pm,c',ctv,h1,_⟩:=hL.ex;exact ⟨_,(I2.hok f _ h1).1⟩
theorem Zhi {P:Program} {w:World} {H:Hp} {h:Heap} {a:Addr} {ob:Obj} (e:h.get? a=some ob):ObjOk P w H h a (Fz ob):=⟨e,ob,e⟩
noncomputable def Uc (H:Hp) (a:Addr):Hp:=fun b=>if b=a then none else H b
theorem WG {H:Hp} {a b:Addr} (h:b≠a):Uc H a b=H b:=Qa h
theorem Zew {H:Hp} {a:Addr}:Uc H a a=none:=Qb rfl
def Zkj (sp:Sp) (i:Nat) (cc:Addr) (t:TA):TE:=fun σ H Q=>t σ H fun vs H1=>∃b,σ[i]?=some (some (.ref b))∧∀oc:Obj,H1 cc=none->oc.data=.cell (some (.ref b))->sp vs (Zc H1 cc (Fz oc)) (fun v H2=>Q v (Uc H2 cc)) E0
theorem ZlM {CX:Yr} {k i:Nat} {x o:Str} {f cc:Addr} {fd:FuncData} {ps:List Str} {sp:Sp} {p pos:Pos} {e:Expr} {es:List Expr} {t:TA} (F:FnOk X.prog X.w X.K X.mg X.base CX k f fd ps sp) (hr:Room k X.A) (hg:Gl X x) (hm:X.mg x=some (.ref f)) (hk:W.keepIn X.K (.ref f)=true) (hb:Binds X.K fd ps []) (hCX:∀st H s e s',CX st H s E0 e s'->False)
  (hN:X.N[i]?=some o) (hck:X.env.kindOf o=some .cell) (hvis:X.env.scope.names.lookup o=some .cell) (hcc:X.env.cells.lookup o=some cc) (hfn:X.fn o=true)
  (ha:PA X (e::es) t) (hdb:(x==("__debug__" : Str))=false:=by decide) (he:starEach (e::es) X.env=(false,eval e X.env)::starEach es X.env:=by rfl) (hpl:(backTo pos (starEach es X.env)).any (·.1)=false:=by rfl) :
  PE X (.Call (.Name x p) (e::es) [] pos) (Zkj sp i cc t):=by
 intro pins s σ H Q I h;refine Rc (JS I hg hm ?_ hdb);refine Gi (h₀:=X.base) I.ok.mod.kin hk (Zp (ha pos pins s σ H _ I h) fun us s1 ⟨vs,H1,I1,r,b,hσ,q⟩=>⟨I1.kIn,?_⟩) he hpl;obtain ⟨m,hn,hl2⟩:=I1.loc;obtain ⟨u,ru,lk⟩:=hl2 i o (.ref b) hN hσ (.inr (.inl hvis));cases (show u=Value.ref b from ru)
 have hcell:s1.heap.IsCell cc (some (.ref b)):=by
  rcases lk with ⟨z,_⟩|⟨_,c2,e2,e3⟩
  ·rw [hck] at z;cases z
  ·rw [hcc] at e2;cases e2;exact e3
 obtain ⟨oc,hoc,hdc⟩:=hcell;have hno:H1 cc=none:=I1.freeC o cc hcc;have hsp:=q oc hno hdc;have e0:=I1.env0;have hL:(us++[]).length=ps.length:=by rw [Qu,←r.length];exact F.len _ _ _ _ hsp
 have nstk:cc∉Yn X.stack:=fun hb=>by
  rcases Qh.mp (I1.stkSub cc hb) with z|z
  ·exact I1.cne o cc hcc z
  ·obtain ⟨_,o1,ho,_⟩:=I1.ok.funs.mem z;exact absurd (Qk (Qi ho) (I1.ok.cab o cc hfn hcc)) (QE _)
 have e1:Env0 X.prog X.w X.K X.mg X.base X.A X.stack s1 (Zc H1 cc (Fz oc)):=by
  refine ⟨e0.frames,e0.mod,fun d o' e=>⟨(e0.bs d o' e).1,?_⟩,e0.bsz,e0.funs,fun d hd=>?_,fun d u' e=>?_,e0.bare⟩
  ·have:d≠cc:=fun z=>by
    subst z;exact absurd (Qk (Qi (I1.ok.bs _ _ e).1) (I1.ok.cab o _ hfn hcc)) (QE _)
   rw [Zd this];exact (e0.bs d o' e).2
  ·have nd:d≠cc:=fun z=>nstk (by rw [←z];exact hd);rw [Zd nd];exact e0.frf d hd
  ·by_cases z:d=cc
   ·subst z;rw [Zf] at e;cases e;exact Zhi hoc
   ·rw [Zd z] at e;refine (I1.hok d u' e).stay (fun _ _ _ r=>r) (fun d' r=>?_) fun d' xs r=>?_
    ·rw [Zd (ZF r hno)];exact r
    ·rw [Zd (ZF r hno)];exact r
 refine RI (RJ (F.run X.A X.stack s1 _ ⟨us,[]⟩ (us++[]) vs _ E0 hr e1 (hb s1 us I1.kIn hL) (by rw [Qu];exact r) hsp) fun rr s' hq=>?_);cases rr with
 |error e=>exact (hCX _ _ _ _ _ hq).elim
 |ok fl =>
  cases fl with
  |ret u =>
   obtain ⟨v,H',os,bare,un,hok,r,q⟩:=hq;have hz:H' cc=some (Fz oc):=un.frzs cc oc _ Zf;have hoc':s'.heap.get? cc=some oc:=(hok cc _ hz).1;refine I1.after ⟨v,Uc H' cc,os,bare,?_,?_,r,q⟩
   ·refine ⟨fun d o' e n hb hx=>?_,fun d o' e n hb hx=>?_,fun d o' e n hx=>?_,fun d o' e hx=>un.there d o' e hx,fun d xs e=>?_,fun d o' u' e=>?_,fun d ps e=>?_⟩
    ·by_cases z:d=cc
     ·subst z;rw [hoc] at e;cases e;exact hoc'
     ·exact un.keep d o' e (by rw [Zd z];exact n) hb hx
    ·by_cases z:d=cc
     ·subst z;rw [hoc] at e;cases e;exact ⟨oc.slots,hoc'⟩
     ·exact un.slot d o' e (by rw [Zd z];exact n) hb hx
    ·by_cases z:d=cc
     ·subst z;exact Zew
     ·rw [WG z];exact un.free d o' e (by rw [Zd z];exact n) hx
    ·have z:=ZF e hno;rw [WG z];exact un.tups d xs (by rw [Zd z];exact e)
    ·have z:=ZF e hno;rw [WG z];exact un.frzs d o' u' (by rw [Zd z];exact e)
    ·have z:=ZF e hno;obtain ⟨more,e2⟩:=un.tbls d ps (by rw [Zd z];exact e);exact ⟨more,by rw [WG z];exact e2⟩
   ·intro d u' e;by_cases z:d=cc
    ·subst z;rw [Zew] at e;cases e
    ·rw [WG z] at e;refine (hok d u' e).stay (fun _ _ _ r=>r) (fun d' r=>?_) fun d' xs r=>?_
     ·rw [WG fun y=>by subst y;rw [hz] at r;cases r];exact r
     ·rw [WG fun y=>by subst y;rw [hz] at r;cases r];exact r
  |next=>exact False.elim hq
  |brk=>exact False.elim hq
  |cont=>exact False.elim hq
end
end L2
namespace L2
open PySem PySem.Spec PyProof.Rows PySem.W SA
section
variable {prog:Program} {w:World} {A:Around} {E:Value->Shared->Prop} {s:Shared}
end
section
variable {prog:Program} {w:World} {A:Around} {E:Value->Shared->Prop} {s:Shared}
end
theorem Zmk {d:Addr} {o:Obj} {kvs:List (Zj×V)} {g:TG} {tb:TS} {D:Ends} {σ:St} {H:Hp} (Pv:Nat->St->Hp->Prop) (h0:Pv 0 σ H) (hl:∀i σ H,i≤kvs.length->Pv i σ H->H d=some (.frz o (.dK kvs)))
  (hs:∀i p σ H,kvs[i]?=some p->Pv i σ H->g (kV p.1) σ H fun σ2 H2=>tb { D with nx:=Pv (i+1),ct:=Pv (i+1),bk:=D.nx } σ2 H2) (hd:∀σ H,Pv kvs.length σ H->D.nx σ H) :
  ∃W:Nat->Nat->St->Hp->Prop,(∃m,W 0 m σ H)∧∀i m σ H,W i m σ H →
   ((Itd d o kvs).stop i H∧D.nx σ H)∨((Itd d o kvs).go i H∧∃N:St->Hp->Prop,(∀σ' H',N σ' H'->∃m',m'<m∧W (i+1) m' σ' H')∧∀x H',(Itd d o kvs).yld i H x H'->g x σ H' fun σ2 H2=>tb { D with nx:=N,ct:=N,bk:=D.nx } σ2 H2):=by
 refine ⟨fun i m σ H=>m=kvs.length-i∧i≤kvs.length∧Pv i σ H,⟨kvs.length,by simp,QZ _,h0⟩,?_⟩;rintro i m σ H ⟨rfl,hi,p⟩;have q:=hl i σ H hi p;by_cases hlt:i<kvs.length
 ·refine .inr ⟨⟨q,hlt⟩,Pv (i+1),fun σ' H' p'=>⟨kvs.length-(i+1),by omega,rfl,hlt,p'⟩,fun x H' y=>?_⟩;obtain ⟨rfl,y⟩:=y;rw [Qx hlt] at y;cases (show kV kvs[i].1=x from Qo y);exact hs i kvs[i] σ _ (Qx hlt) p
 ·have e:i=kvs.length:=by omega
  subst e;exact .inl ⟨⟨q,Qf _⟩,hd σ H p⟩
end L2
namespace L2
open PySem PySem.Spec PyProof.Rows
section
variable {X:Cx}
end
section
variable {X:Cx} {CX:Yr} {k n:Nat} {x:Str} {st:Stmt} {ps:List Str} {sp:Sp} {p pos:Pos} {e:Expr} {es:List Expr} {t:TA} {E:St->XK}
end
section
variable {X:Cx} {tg:Expr}
end
section
variable {X:Cx}
end
section
variable {X:Cx} {CX:Yr} {k1 k2 k3:Nat} {f1 C1 f2 C2 f3 C3:Addr} {fd1 fd2 fd3:FuncData} {ps1 ps2 ps3:List Str} {sp1 sp2 sp3:Sp} {E:XS} {m:Str} {pos apos:Pos} {o e:Expr} {es:List Expr} {ta:TE} {t:TA}
end
section
variable {prog:Program} {w:World} {A:Around} {E:Value->Shared->Prop} {s:Shared}
end
section
variable {A:Around} {s:Shared}
end
section
variable {X:Cx} {o e f:Expr} {apos cpos:Pos} {td ty tx:TE}
end
end L2
namespace L2
open PySem PySem.Spec PyProof.Rows PySem.W PySem.SeqAt
theorem ZmC {P:Addr} {ln co:Nat} {oc:Option Addr} {q:Str}:Xe P ln co oc≠Vv P q:=fun z=>by
 unfold Xe Vv at z;have e:=congrFun (HO.ext.inj z) { (default:Heap) with objs:=Array.replicate (P+1) (tabObj (YV ln co oc)) }
 have g:({ (default:Heap) with objs:=Array.replicate (P+1) (tabObj (YV ln co oc)) }:Heap).get? P=some (tabObj (YV ln co oc)):=by
  unfold Heap.get?;rw [show (Array.replicate (P+1) (tabObj (YV ln co oc)))[P]?=some (tabObj (YV ln co oc)) by rw [Array.getElem?_replicate,Qb (Rb P)]]
 obtain ⟨c,o2,vs,t,e1,e2,e3⟩:=e▸g;cases e1;rw [g] at e2;cases e2;obtain ⟨e4,e5⟩:=e3;cases e4;cases oc with
 |none=>cases (show (none:Option Value)=some (.str q t) from e5)
 |some c'=>cases (show some (rawInt co)=some (Value.str q t) from e5)
def Lams (P:Addr) (H H':Hp):Prop:=∀P2 ln co q,P2≠P->LamH P2 ln co q H->LamH P2 ln co q H'
theorem Lams.refl (P:Addr) (H:Hp):Lams P H H:=fun _ _ _ _ _ h=>h
theorem Lams.trans {P:Addr} {H H1 H2:Hp} (a:Lams P H H1) (b:Lams P H1 H2):Lams P H H2:=fun P2 ln co q n h=>b P2 ln co q n (a P2 ln co q n h)
theorem Same.lams {H H':Hp} (s:Same H H') (P:Addr):Lams P H H':=fun _ _ _ _ _ h=>h.same s
theorem Lams.same {P:Addr} {H H1 H2:Hp} (a:Lams P H H1) (s:Same H1 H2):Lams P H H2:=a.trans (s.lams P)
theorem Lams.of {P:Addr} {ln co:Nat} {q:Str} {H H':Hp} (h:LamH P ln co q H) (b:∀b u,b≠P->H b=some u->H' b=some u):Lams P H H':=fun P2 ln2 co2 q2 n h2=>by
 obtain ⟨oc,h1,_⟩:=h;obtain ⟨oc2,h3,h4⟩:=h2;refine ⟨oc2,b _ _ n h3,fun c' e=>b _ _ (fun z=>?_) (h4 c' e)⟩;have:=h4 c' e;rw [z,h1] at this;exact ZmC (Qo this)
section
variable {X:Cx}
def ZoA (P:Addr) (ln co:Nat) (q:Str) (params:Arguments) (body:Expr) (scope:Scope) (o:Str) (cc:Addr):TE:=fun σ H Q=>LamH P ln co q H∧∀H2 f pm c' ctv,SameX H H2->Lams P H H2->LamH P ln co q H2->H f=none->H2 f=some (Fz (kla_obj "<lambda>" q params body scope [(o,cc)] pm c' ctv))->H2 c'=some (Vv c' q)->(∀D,H2 D=none->H D=none)->Q (.ref f) H2
theorem Zou {c P cc:Addr} {o q:Str} {params:Arguments} {body:Expr} {scope:Scope} {lpos:Pos} (B:LamB X.base c P X.mg) (hcode:X.env.code=.ref c) (hcl:closureFor scope X.env=pure [(o,cc)]) (hq:X.env.qual++"<lambda>"=q) (hdef:defaultsOf params X.env=([],[])) :
  PE X (.Lambda params body scope lpos) (ZoA P lpos.line lpos.col q params body scope o cc):=by
 intro pins s σ H Q I h;obtain ⟨lam,h⟩:=h;refine kla_eval hdef ?_;rw [hq];have hgl:s.heap.Ns mainGlobals X.mg:=I.mod.glob.keeps I.bk;obtain ⟨bm,ob,b1,b2,b3,b4,b5,b6⟩:=B.bm;obtain ⟨oc,hP,hC⟩:=lam;have tabP:s.heap.get? P=some (tabObj (YV lpos.line lpos.col oc)):=(I.hok P _ hP).1
 have hgP:mainGlobals≠P:=fun z=>by
  obtain ⟨o1,es,ep,e1,hd,_⟩:=hgl;rw [z,tabP] at e1;cases e1;cases hd
 have hbP:bm≠P:=fun z=>by
  have e1:=I.bk _ _ b3;rw [z,tabP] at e1;cases e1;cases b4
 have hbG:bm≠mainGlobals:=fun z=>by
  obtain ⟨o1,es,ep,e1,hd,_⟩:=hgl;have e2:=I.bk _ _ b3;rw [z,e1] at e2;cases e2;rw [hd] at b6;cases b6
 have hBA:s.heap.BuiltinsAt X.mg P:=⟨bm,ob,b1,b2,hbG,hbP,I.bk _ _ b3,b4,b5,b6⟩;have CH:CodeHd s.heap c P:=B.hd.keeps I.bk
 have fin : ∀(h3 : Heap) (tk : Nat) (H2 : Hp) (c' : Addr) (ctv : Value), Inv X pins σ H2 { s with heap := h3, toks := tk } → H2 c'=some (Vv c' q) → SameX H H2 → Lams P H H2 → LamH P lpos.line lpos.col q H2 → (∀D, H2 D=none → H D=none) →
   EP X pins σ Q (.ref h3.objs.size) { s with heap:=h3.push (kla_obj "<lambda>" q params body scope [(o,cc)] ((X.mg "__name__").getD .none) c' ctv),toks:=tk }:=by
  intro h3 tk H2 c' ctv I3 hc' sx ls lm fr;have nf:H2 h3.objs.size=none:=I3.hok.fresh (Qf _);have I4:=I3.laid (t':=tk) (h':=h3.push (kla_obj "<lambda>" q params body scope [(o,cc)] ((X.mg "__name__").getD .none) c' ctv)) (a:=h3.objs.size) (o:=Fz (kla_obj "<lambda>" q params body scope [(o,cc)] ((X.mg "__name__").getD .none) c' ctv)) (fun b o e=>Qj _ e) (Qf _) (Zhi (Qr _ rfl));refine ⟨.ref h3.objs.size,_,I4,rfl,h _ h3.objs.size _ c' ctv (sx.trans (Zl nf).x) (ls.same (Zl nf)) (lm.same (Zl nf)) (fr _ nf) Zf ?_ fun D hD=>?_⟩
  ·rw [Zd (ZF hc' nf)];exact hc'
  ·by_cases z:D=h3.objs.size
   ·rw [z,Zf] at hD;cases hD
   ·rw [Zd z] at hD;exact fr D hD
 cases oc with
 |none =>
  refine kla_makeFunction (mg:=X.mg) hcl I.ok.glob hgl hcode CH tabP True.intro rfl hgP hBA fun c' ctv h' tk hx hge hlt hrec htb=>?_;have I2:=I.grow (t':=tk) hP hx hge hrec (by simpa [YV] using htb);refine fin h' tk _ c' ctv I2 Zf ?_ (Lams.of ⟨none,hP,hC⟩ fun b u n1 e1=>?_) ?_ ?_
  ·intro b u hu e1;have n1:b≠P:=fun z=>by subst z;rw [hP] at e1;cases e1;cases hu
   rw [Zd (fun z=>by subst z;exact absurd (Qk (I.hok.lt e1) hge) (QE _)),Zd n1];exact e1
  ·rw [Zd (fun z=>by subst z;exact absurd (Qk (I.hok.lt e1) hge) (QE _)),Zd n1];exact e1
  ·refine ⟨some c',?_,fun c2 e2=>?_⟩
   ·rw [Zd (fun z=>by subst z;exact absurd (Qk (I.hok.lt hP) hge) (QE _)),Zf]
   ·cases e2;exact Zf
  ·intro D hD;cases r:H D with
   |none=>rfl
   |some u =>
    exfalso;have n2:D≠c':=fun z=>by subst z;exact absurd (Qk (I.hok.lt r) hge) (QE _)
    rw [Zd n2] at hD;by_cases n1:D=P
    ·subst n1;rw [Zf] at hD;cases hD
    ·rw [Zd n1,r] at hD;cases hD
 |some c' =>
  have hc':=hC c' rfl;refine kla_makeFunctionHit (mg:=X.mg) hcl I.ok.glob hgl hcode CH tabP (by simp [YV,TriplesOk,rawInt]) (cv:=.ref c') (by simp [YV,codeAmong,rawInt]) hBA fun ctv h' tk hk hsz=>?_;have I2:=I.kept (t':=tk) hk;exact fin h' tk H c' ctv I2 hc' (SameX.refl _) (Lams.refl _ _) ⟨some c',hP,hC⟩ fun _ z=>z
end
theorem ZpE {P:Program} {w:World} {K:W.Frag} {mg mb:Str->Option Value} {CX:Yr} {k ln co ln2 co2:Nat} {q q2:Str} {fa a cc tb cc2 tb2:Addr} {fd:FuncData} {x:Str} {sp:Sp} {s₁:Shared} {vs:List Value} {ns:List Int}
  (KX:K.In s₁.heap) (hns:s₁.heap.Ns mainGlobals mg) (hb:s₁.heap.Ns builtinsNs mb) (hbb:∀x:Str,x≠"__name__"->mb x=bootBuiltins x) (hlim:s₁.heap.NoLimit) (hg:s₁.gens=#[])
  (ha:s₁.heap.get? a=some { cls:=.type "list",data:=.seq vs.toArray }) (hi:IntsAre vs ns) (hl:ns.length≤sizeLine) (hr:Room k callerA)
  (hC:CodeHd s₁.heap cc tb) (hT:s₁.heap.get? tb=some (tabObj #[])) (hKP:K.lookup tb=none) (hC2:CodeHd s₁.heap cc2 tb2) (hT2:s₁.heap.get? tb2=some (tabObj #[])) (hKP2:K.lookup tb2=none) (tt:tb2≠tb)
  (hbm:∃bm ob,mg "__builtins__"=some (.ref bm)∧bm≠builtinsNs∧s₁.heap.get? bm=some ob∧ob.cls=.type "module"∧ob.dict=some builtinsNs∧ob.data=.plain)
  (F:∀base:Heap,K.In base->base.Ns mainGlobals mg->LamB base cc tb mg->LamB base cc2 tb2 mg->FnOk P w K mg base CX k fa fd [x] sp) (hbind:∀(s:Shared) (u:Value),BindsTo s fd ⟨[u],[]⟩ [(x,u)])
  (hsp:∀H:Hp,LamH tb ln co q H->LamH tb2 ln2 co2 q2 H->SqL K H a (ns.map V.int)->sp [.ref a] H (fun v H'=>v=.bl true∧LamH tb ln co q H'∧LamH tb2 ln2 co2 q2 H') fun _ _ _=>False)
  (hCX:∀H e s',CX [] H s₁ (fun _ _ _=>False) e s'->False) :
  codeAny (model P w) callerA (.call (.ref fa) ⟨[.ref a],[]⟩) (fun r s'=>r=.ok (.ret (.bool true))∧OldK s₁.heap s'.heap∧s'.os=s₁.os∧AllBare s'.gens) s₁:=by
 have rv:=Zb6 hi;have lenV:=hi.length
 have core : ∀H : Hp, H tb=some (Xe tb ln co none) → H tb2=some (Xe tb2 ln2 co2 none) → SqL K H a (ns.map V.int) → HOk P w H s₁.heap → (∀b, H b ≠ none → b=tb ∨ b=tb2 ∨ (b=a ∧ ∃o xs, H b=some (.frz o (.lst xs)))) → (H a ≠ none → K.lookup a=none) →
   codeAny (model P w) callerA (.call (.ref fa) ⟨[.ref a],[]⟩) (fun r s'=>r=.ok (.ret (.bool true))∧OldK s₁.heap s'.heap∧s'.os=s₁.os∧AllBare s'.gens) s₁:=by
  intro H hO hO2 hS hok hA hK;have base_of:∀{b:Addr} {o:Obj},s₁.heap.get? b=some o->H b=none->(X5 s₁.heap H).get? b=some o:=fun e n=>Zl6 e n
  have noA:∀{b:Addr} {o:Obj},s₁.heap.get? b=some o->(∀its n,o.data≠.seq its n)->o.cls≠.none->H b=none:=fun {b o} e d hcl=>by
   cases q:H b with
   |none=>rfl
   |some u =>
    rcases hA b (by rw [q];simp) with e'|e'|⟨e',_⟩
    ·subst e';rw [hT] at e;cases e;exact absurd rfl hcl
    ·subst e';rw [hT2] at e;cases e;exact absurd rfl hcl
    ·subst e';rw [ha] at e;cases e;exact absurd rfl (d _ _)
  have noD:∀{b:Addr} {o:Obj} {es:Array DictEntry} {ep:Nat},s₁.heap.get? b=some o->o.data=.dict es ep->H b=none:=fun {b o es ep} e d=>by
   cases q:H b with
   |none=>rfl
   |some u =>
    rcases hA b (by rw [q];simp) with e'|e'|⟨e',_⟩
    ·subst e';rw [hT] at e;cases e;cases d
    ·subst e';rw [hT2] at e;cases e;cases d
    ·subst e';rw [ha] at e;cases e;have d':Data.seq vs.toArray _=Data.dict es ep:=d;cases d'
  have nsK:∀{b:Addr} {m:Str->Option Value},s₁.heap.Ns b m->(X5 s₁.heap H).Ns b m:=fun {b m} ⟨o,es,ep,e,d,r⟩=>⟨o,es,ep,base_of e (noD e d),d,r⟩
  have hKb:K.In (X5 s₁.heap H):=fun b o e=>base_of (KX b o e) (by
   cases q:H b with
   |none=>rfl
   |some u =>
    rcases hA b (by rw [q];simp) with e'|e'|⟨e',_⟩
    ·subst e';rw [hKP] at e;cases e
    ·subst e';rw [hKP2] at e;cases e
    ·subst e';rw [hK (by rw [q];simp)] at e;cases e)
  have hM:Mod K mg (X5 s₁.heap H):=⟨hKb,nsK hns,⟨mb,nsK hb,hbb⟩,let ⟨mc,h1,h2⟩:=hlim;⟨mc,nsK h1,h2⟩⟩
  have hLB:LamB (X5 s₁.heap H) cc tb mg:=by
   obtain ⟨o,vs',file,tf,flags,tg,inF,text,tt,e1,e2,e3,r⟩:=hC;obtain ⟨bm,ob,b1,b2,b3,b4,b5,b6⟩:=hbm;exact ⟨⟨o,vs',file,tf,flags,tg,inF,text,tt,base_of e1 (noA e1 (fun its n z=>by rw [e3] at z;cases z) (by rw [e2];simp)),e2,e3,r⟩,bm,ob,b1,b2,base_of b3 (noA b3 (fun its n z=>by rw [b6] at z;cases z) (by rw [b4];simp)),b4,b5,b6⟩
  have hLB2:LamB (X5 s₁.heap H) cc2 tb2 mg:=by
   obtain ⟨o,vs',file,tf,flags,tg,inF,text,tt,e1,e2,e3,r⟩:=hC2;obtain ⟨bm,ob,b1,b2,b3,b4,b5,b6⟩:=hbm;exact ⟨⟨o,vs',file,tf,flags,tg,inF,text,tt,base_of e1 (noA e1 (fun its n z=>by rw [e3] at z;cases z) (by rw [e2];simp)),e2,e3,r⟩,bm,ob,b1,b2,base_of b3 (noA b3 (fun its n z=>by rw [b6] at z;cases z) (by rw [b4];simp)),b4,b5,b6⟩
  have e0:Env0 P w K mg (X5 s₁.heap H) callerA [] s₁ H:=⟨rfl,hM,fun b o e=>ZkS e,Nat.le_of_eq (Zn5 _ _),trivial,fun b hb=>absurd (show b∈([]:List Addr) from hb) (by simp),hok,.of_eq hg⟩;refine RJ ((F _ hKb (nsK hns) hLB hLB2).run callerA [] s₁ H ⟨[.ref a],[]⟩ [.ref a] [.ref a] _ _ hr e0 (hbind s₁ (.ref a)) (.cons rfl .nil) (hsp H ⟨none,hO,fun _ z=>by cases z⟩ ⟨none,hO2,fun _ z=>by cases z⟩ hS)) fun r s' h=>?_;cases r with
  |error e=>exact (hCX H e s' h).elim
  |ok fl =>
   cases fl with
   |next=>exact False.elim h
   |brk=>exact False.elim h
   |cont=>exact False.elim h
   |ret u =>
    obtain ⟨v,H',os,bare,un,hok',r',q⟩:=h;obtain ⟨q',⟨oc,lp,_⟩,oc2,lp2,_⟩:=q;subst q';obtain rfl:u=Value.bool true:=r';have tE:s'.heap.get? tb=some (tabObj (YV ln co oc)):=(hok' tb _ lp).1;have tE2:s'.heap.get? tb2=some (tabObj (YV ln2 co2 oc2)):=(hok' tb2 _ lp2).1
    have kept:∀b o,b≠tb->b≠tb2->s₁.heap.get? b=some o->s'.heap.get? b=some o:=fun b o nb nb2 e=>by
     cases q:H b with
     |none=>exact un.keep b o e q (by intro z;exact absurd (show b∈([]:List Addr) from z) (by simp)) (by simp)
     |some u =>
      rcases hA b (by rw [q];simp) with z|z|⟨_,ob,xs,z⟩
      ·exact absurd z nb
      ·exact absurd z nb2
      ·have z2:=un.frzs b ob _ z;obtain ⟨e1,_⟩:=hok b _ z;obtain ⟨e2,_⟩:=hok' b _ z2;rw [e] at e1;cases e1;exact e2
    refine ⟨rfl,⟨fun b o e=>?_,fun b o e=>?_⟩,os,bare⟩
    ·by_cases nb:b=tb
     ·subst nb;rw [hT] at e;cases e;exact .inr (.inl ⟨(hC.tab hT).isCodeTable,rfl,#[],YV ln co oc,rfl,by rw [tE];simp⟩)
     ·by_cases nb2:b=tb2
      ·subst nb2;rw [hT2] at e;cases e;exact .inr (.inl ⟨(hC2.tab hT2).isCodeTable,rfl,#[],YV ln2 co2 oc2,rfl,by rw [tE2];simp⟩)
      ·exact .inl (kept b o nb nb2 e)
    ·by_cases nb:b=tb
     ·subst nb;exact ⟨_,tE⟩
     ·by_cases nb2:b=tb2
      ·subst nb2;exact ⟨_,tE2⟩
      ·exact ⟨o,kept b o nb nb2 e⟩
 have nat:a≠tb:=fun z=>by subst z;rw [ha] at hT;cases hT
 have nat2:a≠tb2:=fun z=>by subst z;rw [ha] at hT2;cases hT2
 have tOk:∀H:Hp,ObjOk P w H s₁.heap tb (Xe tb ln co none):=fun H=>ZbI (oc:=none) hT;have tOk2:∀H:Hp,ObjOk P w H s₁.heap tb2 (Xe tb2 ln2 co2 none):=fun H=>ZbI (oc:=none) hT2
 have ZQ : ∀H0 : Hp, (∀b u, H0 b=some u → b ≠ tb → b ≠ tb2 → b=a ∧ u=.frz { cls := .type "list", data := .seq vs.toArray } (.lst (ns.map V.int))) → SqL K (Zc (Zc H0 tb (Xe tb ln co none)) tb2 (Xe tb2 ln2 co2 none)) a (ns.map V.int) → (H0 a ≠ none → K.lookup a=none) →
   codeAny (model P w) callerA (.call (.ref fa) ⟨[.ref a],[]⟩) (fun r s'=>r=.ok (.ret (.bool true))∧OldK s₁.heap s'.heap∧s'.os=s₁.os∧AllBare s'.gens) s₁:=fun H0 h0 hS hK=>by
  have case:∀b u,Zc (Zc H0 tb (Xe tb ln co none)) tb2 (Xe tb2 ln2 co2 none) b=some u->(b=tb∧u=Xe tb ln co none)∨(b=tb2∧u=Xe tb2 ln2 co2 none)∨(b=a∧u=.frz { cls:=.type "list",data:=.seq vs.toArray } (.lst (ns.map V.int))):=fun b u e=>by
   by_cases h2:b=tb2
   ·rw [h2,Zf] at e;cases e;exact .inr (.inl ⟨h2,rfl⟩)
   ·rw [Zd h2] at e;by_cases h1:b=tb
    ·rw [h1,Zf] at e;cases e;exact .inl ⟨h1,rfl⟩
    ·rw [Zd h1] at e;exact .inr (.inr (h0 b u e h1 h2))
  refine core _ (by rw [Zd tt.symm];exact Zf) Zf hS (fun b u z=>?_) (fun b z=>?_) (fun z=>hK (by rw [Zd nat2,Zd nat] at z;exact z))
  ·rcases case b u z with ⟨rfl,rfl⟩|⟨rfl,rfl⟩|⟨rfl,rfl⟩
   ·exact tOk _
   ·exact tOk2 _
   ·exact ⟨ha,by rw [Qd];exact hl,vs,_,rv,ha⟩
  ·obtain ⟨u,hu⟩:=NU.mp z;rcases case b u hu with ⟨h,_⟩|⟨h,_⟩|⟨h,e⟩
   ·exact .inl h
   ·exact .inr (.inl h)
   ·exact .inr (.inr ⟨h,_,_,by rw [hu,e]⟩)
 cases hk:K.lookup a with
 |some o =>
  have e:=KX a o hk;rw [ha] at e;cases e;exact ZQ (fun _=>none) (fun b u z=>by cases z) (.inr ⟨_,vs.toArray,_,hk,rfl,rfl,rfl,by rw [Qv,lenV];exact hl,by simpa using rv⟩) fun z=>absurd rfl z
 |none =>
  refine ZQ (fun b=>if b=a then some (.frz { cls:=.type "list",data:=.seq vs.toArray } (.lst (ns.map V.int))) else none) (fun b u z _ _=>?_) (.inl (.inr ⟨{ cls:=.type "list",data:=.seq vs.toArray },by rw [Zd nat2,Zd nat];exact Qb rfl⟩)) fun _=>hk;by_cases hb:b=a
  ·have z':=(Qb hb).symm.trans z;cases z';exact ⟨hb,rfl⟩
  ·have z':=(Qa hb).symm.trans z;cases z'
theorem walk_ofT2 {l:W.OpenLaw} {n k ln co ln2 co2:Nat} {qn nm qn2 nm2:Str} {q:Program} {loose:List Str} {XP:(Str->Option Value)->Heap->Prop} {YP:World->Heap->Prop} {d dd dd2:DefRec} {K:Params->W.Frag} {CX:World->Yr} {sp:World->Addr->Addr->Sp} {x:Str}
  (hn:l.most=some n) (hn2:n≤sizeLine) (hdf:d.params.defaults=[]) (hr:Room k callerA) (hrec:(recsOf q).find? (fun e=>e.name==nm)=some dd) (hrec2:(recsOf q).find? (fun e=>e.name==nm2)=some dd2)
  (hY:∀(w:World) (h:Heap),YP w h->(K w.params).In h)
  (F:∀(w:World) (mg:Str->Option Value) (fa:Addr) (h:Heap),(K w.params).In h->h.Ns mainGlobals mg->mg d.name=some (.ref fa) →
   ∃(fd:FuncData) (cc tb cc2 tb2:Addr),tabIn (K w.params) nm=some (cc,tb)∧(K w.params).lookup tb=none∧tabIn (K w.params) nm2=some (cc2,tb2)∧(K w.params).lookup tb2=none∧tb2≠tb∧(∀(s:Shared) (u:Value),BindsTo s fd ⟨[u],[]⟩ [(x,u)]) ∧
    ∀base:Heap,(K w.params).In base->base.Ns mainGlobals mg->LamB base cc tb mg->LamB base cc2 tb2 mg->FnOk l.prog w (K w.params) mg base (CX w) k fa fd [x] (sp w tb tb2))
  (hsp:∀(w:World) (H:Hp) (a tb tb2:Addr) (ns:List Int),ns.length≤n->LamH tb ln co qn H->LamH tb2 ln2 co2 qn2 H->SqL (K w.params) H a (ns.map V.int)->tb2≠tb->sp w tb tb2 [.ref a] H (fun v H'=>v=.bl true∧LamH tb ln co qn H'∧LamH tb2 ln2 co2 qn2 H') fun _ _ _=>False)
  (hCX:∀(w:World) (H:Hp) (s:Shared) (e:Value) (s':Shared),CX w [] H s (fun _ _ _=>False) e s'->False) :
  W.WalkO q loose XP YP l.row.toRowW d [] (fun f vs=>PySem.call f vs):=by
 refine Att.attach_call hn hdf fun w s₀ s₁ mg mb fa o pm cd doc a vs ns G Y ho hd hcd hmg hobj hints hlen hg=>?_;have KX:=hY w _ Y;obtain ⟨fd,cc,tb,cc2,tb2,ht,hK,ht2,hK2,tt,hb,hF⟩:=F w mg fa _ KX G.T.g hmg;obtain ⟨h1,h2⟩:=tab_of G.T KX hrec ht;obtain ⟨h3,h4⟩:=tab_of G.T KX hrec2 ht2;exact ZpE (ln:=ln) (co:=co) (q:=qn) (ln2:=ln2) (co2:=co2) (q2:=qn2) KX G.T.g G.T.b G.T.builtins G.T.nolimit hg hobj hints (Qq hlen hn2) hr h1 h2 hK h3 h4 hK2 tt G.T.bmain hF hb (fun H hO hO2 hS=>hsp w H a tb tb2 ns hlen hO hO2 hS tt) fun H e s'=>hCX w H s₁ e s'
noncomputable abbrev Wz (x o f:Str) (p1 p2 p3 p4:Pos):Expr:=.Subscript (.Attribute (.Name o p1) f p2) (.Name x p3) p4
structure LamOkD (x o f:Str) (params:Arguments) (scope:Scope) (p1 p2 p3 p4:Pos):Prop where
 bind:∀(qual:Str) (cl:List (Str×Addr)) (pm cd ct v:Value),bindArgs (kla_fn "<lambda>" qual params (Wz x o f p1 p2 p3 p4) scope cl pm cd ct) ⟨[v],[]⟩=pure [(x,v)]
 loc:scope.names.lookup x=some .local
 fre:scope.names.lookup o=some .free
 kind:scope.kind=.function
 co:scope.isCoroutine=false
 gen:scope.isGenerator=false
 cell:∀y∈scope.names,y.2≠.cell
 db:(x==("__debug__" : Str))=false∧(o==("__debug__" : Str))=false∧(o==("__classdict__" : Str))=false
 base:∀(qual:Str) (L f':Addr) (c:Value) (cl:Addr),attributeBase (.Name o p1) f (envX qual scope L f' c [(o,cl)]) (eval (.Name o p1) (envX qual scope L f' c [(o,cl)]))=eval (.Name o p1) (envX qual scope L f' c [(o,cl)])
 sub:ZgT (.Name x p3)
theorem JZ:∀{vs:List Value} {ds:List Int},IntsAre vs ds->∀(i:Nat) (d:Int),ds[i]?=some d->∃t,vs[i]?=some (.int d t)
 |_,_,.nil,i,d,e=>by cases e
 |_,_,.cons n t r,0,d,e=>⟨t,by simpa using e⟩
 |_,_,.cons n t r,i+1,d,e=>by
  obtain ⟨t',h⟩:=JZ r i d (by simpa using e);exact ⟨t',by simpa using h⟩
section
variable {prog:Program} {w:World} {A:Around} {E:Value->Shared->Prop} {s:Shared}
theorem ZmB {K:W.Frag} {x o fl qual:Str} {params:Arguments} {scope:Scope} {p1 p2 p3 p4:Pos} {f cl a dx C L c':Addr} {mA:Str->Option Value} {pm ctv:Value} {vs:List Value} {ds:List Int} {d:Int} {t:Tok} {j:Nat} {Q:Value->Shared->Prop}
  (ok:LamOkD x o fl params scope p1 p2 p3 p4) (hroom:A.depth<recursionLimit) (hlim:s.heap.NoLimit) (KX:K.In s.heap)
  (hf:s.heap.get? f=some (kla_obj "<lambda>" qual params (Wz x o fl p1 p2 p3 p4) scope [(o,cl)] pm c' ctv)) (hcd:s.heap.CodeRec (.ref c') qual)
  (hc:s.heap.IsCell cl (some (.ref a))) (O:ObjM s.heap a dx C mA) (cls:Cls K C) (na:NoAttr K C fl) (hv:mA fl=some (.ref L)) (hl:PlainL s.heap L vs.toArray) (hs:IntsAre vs ds) (hd:ds[j]?=some d) (hsz:ds.length≤1000)
  (h:∀h' tk u,(∀b o,s.heap.get? b=some o->h'.get? b=some o)->Q (.int d u) { s with heap:=h',toks:=tk }) :
  wpAny (model prog w) A (call (.ref f) [.int j t]) Q E s:=by
 refine RI ?_;refine kla_callFunE hroom hf rfl ok.co ok.gen rfl hcd ?_;rw [ok.bind];refine Qe (Nr ok.cell (fun z hz=>?_) (fun h₁ hns hsb=>⟨hlim.fresh _ hsb,?_⟩) ok.kind)
 ·have:z=(x,Value.int j t):=by simpa using hz
  subst this;exact ok.loc
 have hk₁:∀b o,s.heap.get? b=some o->h₁.get? b=some o:=fun b o e=>hsb.extBut b o (QB (Qi e)) (Qj _ e);show codeAny _ _ (.expr (Wz x o fl p1 p2 p3 p4) (envX qual scope s.heap.objs.size f (.ref c') [(o,cl)])) _ _;refine kla_codeExpr ?_;obtain ⟨oc,hoc,hdc⟩:=hc
 have ko:(envX qual scope s.heap.objs.size f (.ref c') [(o,cl)]).kindOf o=some .free:=by
  first|exact ok.fre|(simp only [Env.kindOf];exact ok.fre)
 have kx:(envX qual scope s.heap.objs.size f (.ref c') [(o,cl)]).kindOf x=some .local:=by
  first|exact ok.loc|(simp only [Env.kindOf];exact ok.loc)
 obtain ⟨t',ht'⟩:=JZ hs j d hd;have hjl:j<ds.length:=(QH.mp hd).1;have hvl:=hs.length;refine Subscript_ (ZhQ (ok.base _ _ _ _ _) (Rq (G7 ok.kind ko (by simp) ⟨oc,hk₁ _ _ hoc,hdc⟩ ?_ ok.db.2.2) ok.db.2.1));refine ZgX (K:=K) (mA:=mA) (fun b o e=>hk₁ _ _ (KX b o e)) ⟨hk₁ _ _ O.obj,O.ns.keeps hk₁,O.ne⟩ (cls.get fl) cls.hd na hv rfl ?_;refine Rq (Gz (v:=.int j t) ok.kind kx hns (by simp) ?_) ok.db.1;obtain ⟨oo,n,a1,a2,a3,a4⟩:=hl;exact item_listR (items:=vs.toArray) (k:=(j:Int)) (PlainL.isList ⟨oo,n,hk₁ _ _ a1,a2,a3,a4⟩) (by omega) (by omega) (by simpa using ht') (h _ _ _ hk₁) (ok.sub _ _)
end
theorem ZgQ {g:Nat->Int}:∀{vs:List Value} {k:Nat},(∀(i:Nat) (v:Value),vs[i]?=some v->∃t,v=.int (g (k+i)) t)->IntsAre vs ((List.range' k vs.length).map g)
 |[],k,_=>.nil
 |v::vs,k,h=>by
  obtain ⟨t,rfl⟩:=h 0 v rfl;exact .cons _ t (ZgQ (k:=k+1) fun i u hu=>by rw [show k+1+i=k+(i+1) by omega];exact h (i+1) u (by simpa using hu))
section
variable {prog:Program} {w:World} {A:Around} {E:Value->Shared->Prop} {s:Shared}
theorem ZoI {Q:List Value->Shared->Prop} {r:Addr} {n:Nat} {t u v:Tok} (hh:A.handled=none) (hr:IsRange s.heap r 0 n 1 t u v) (hn:n≤1000)
  (h:∀h1 tk (vs:List Value),IntsAre vs ((List.range n).map fun i:Nat=>(i:Int))->(∀b o,s.heap.get? b=some o->h1.get? b=some o)->s.heap.objs.size≤h1.objs.size->Q vs { s with heap:=h1,toks:=tk }) :
  wpAny (model prog w) A (collect (.ref r)) Q E s:=by
 unfold collect;refine Qc (wpAny_runValue (RN Nz ?_));show wpAny _ _ (do again (.builtin "list.__iadd__" ⟨[←newList [],.ref r],[]⟩)) _ _ s;refine Qc (R8 (Qe ⟨GL _ (by decide +kernel),RN entry_list_iadd' ?_⟩));show wpAny _ _ (Builtin.List.listExtendWith (.ref s.heap.objs.size) (.ref r) (.ref s.heap.objs.size)) _ _ { s with heap:=s.heap.push (seqObj "list" #[] 0) };have hS:(s.heap.push (seqObj "list" #[] 0)).get? s.heap.objs.size=some { cls:=.type "list",data:=.seq #[] 0 }:=Qr _ rfl;rw [Around.under_plainId (by decide +kernel)]
 refine wpAny_extend_range (R:=fun r s'=>match r with
  |.ok (.ret v)=>wpAny (model prog w) A (match v with
   |.ref a=>do match (←load a).data with
    |.seq xs _=>pure xs.toList
    |_=>unsupported "internal:collect"
   |_=>unsupported "internal:collect") Q E s'
  |.ok _=>False
  |.error e=>E e s') (A:=A) (s:={ s with heap:=s.heap.push (seqObj "list" #[] 0) }) (n:=n) hh (Qj _ hr) (small_one (by omega) (by omega) (by omega) (by omega)) (by rw [rangeSize_one];split<;>omega) (by omega) s.heap.objs.size (.ref s.heap.objs.size) 0 hS (fun h' tk acc c hk hS' hacc=>?_)
 refine Qc (wpAny_load hS' ?_);refine Qe (h h' tk acc.toList ?_ (fun b o e=>hk b o (QB (Qi e)) (Qj _ e)) (QN (Qi hS')));have e:n=acc.toList.length:=by rw [RY];exact hacc.1.symm
 rw [e,List.range_eq_range'];refine ZgQ fun i v hv=>?_;obtain ⟨t,ht⟩:=hacc.2 i v (by simpa using hv);exact ⟨t,by rw [ht];simp⟩
variable {h₀:Heap} {L:Addr} {m:Str->Option Value} {news:List (Addr×Obj)} {b:Bool} {Q:Value->Shared->Prop}
theorem Zig {kz:List Int} {x f:Value} {kw:List (Str×Value)} {PV:List Value->Prop} (F:Fr h₀ L s.heap m) (N:News h₀ L s.heap news) (hPV:∀vs,PV vs->kz.length=vs.length) (h64:kz.length<64)
  (hc:∀(A':Around) (Q':List Value->Shared->Prop) (E':Value->Shared->Prop),A'.handled=A.handled->(∀vs h1 tk,PV vs->(∀b o,s.heap.get? b=some o->h1.get? b=some o)->s.heap.objs.size≤h1.objs.size->Q' vs { s with heap:=h1,toks:=tk })->wpAny (model prog w) A' (collect x) Q' E' s)
  (ha1:argsOk "sorted" ⟨[x],kw⟩) (ha2:∀x,argsOk "list.sort" ⟨[.ref x],kw⟩) (ht:∀x,Builtin.«list.sort» ⟨[.ref x],kw⟩=ksk_tree x f b)
  (turn:∀(vs:List Value),PV vs->∀(i:Nat) (v:Value) (k:Int),vs[i]?=some v->kz[i]?=some k->∀(h:Heap) (tk:Nat) (own:List (Addr×Obj)),Fr h₀ L h m->News h₀ L h (news++own) →
   wpAny (model prog w) A.in1.in1 (call f [v]) (KskEnd h₀ L m (news++own) k { s with heap:=h,toks:=tk }) (fun _ _=>False) { s with heap:=h,toks:=tk })
  (h:∀vs D h' tk out c,PV vs->Fr h₀ L h' m->News h₀ L h' ((D,seqObj "list" out c)::news)->(∀q∈news,q.1<D)->KskOut b kz vs out.toList->Q (.ref D) { s with heap:=h',toks:=tk }) :
  wpAny (model prog w) A (call (.builtin "sorted") [x] kw) Q E s:=by
 refine call_function_entry_kw kind_sorted plain_sorted entry_sorted ha1 ?_;unfold Builtin.«sorted»;refine Qc (m:=checkCount "sorted" 1 1 _) (Qe ?_);refine Qc (hc _ _ _ rfl fun vs h1 tk pv k1 z1=>?_);have hlen:=hPV vs pv;refine Qc (R8 ?_ (by rw [RZ];omega));have hoL:(h1.push (seqObj "list" vs.toArray 0)).get? h1.objs.size=some (seqObj "list" vs.toArray 0):=Qr _ rfl;have keep:∀b o,s.heap.get? b=some o->(h1.push (seqObj "list" vs.toArray 0)).get? b=some o:=fun b o q=>Qj _ (k1 b o q);have hL:L<s.heap.objs.size:=F.ns.lt;show wpAny _ _ _ _ _ { s with heap:=h1.push (seqObj "list" vs.toArray 0),toks:=tk };refine Qc (Rh (wpAny_call_entry_kw slot_list_sort ⟨_,hoL,rfl⟩ entry_list_sort ?body (ha2 _)))
 case body =>
  have ht':=ht h1.objs.size;show wpAny (model prog w) A.in1.in1 (Builtin.«list.sort» ⟨[.ref h1.objs.size],kw⟩) _ _ _;rw [ht']
  refine ksk_sort (s:={ s with heap:=h1.push (seqObj "list" vs.toArray 0),toks:=tk })
   (F.kept keep) (N.grown keep) hoL (Rl (Qk hL z1)) (G6 (Qq F.above (Qq (QN hL) z1)))
   (fun p hp=>QB (Qk (Qi (N p hp).1) z1)) hlen (by omega) (turn vs pv) fun h' tk out c F' N' k'=>⟨_,rfl,?_⟩
  exact Qe ⟨_,rfl,h vs _ h' tk out c pv F' N' (fun q hq=>Qk (Qi (N q hq).1) z1) k'⟩
end
section
variable {X:Cx}
def Zm3 (t:TA):TE:=fun σ H Q=>t σ H fun vs H1=>∃j:Int,vs=[.int j]∧-(2 ^ 62)≤j∧j<2 ^ 62∧∀r,H1 r=none->Q (.ref r) (Zc H1 r (.rng 0 j))
theorem ZiO {a:Expr} {ta:TA} {p pos:Pos} (hg:Gl X "range") (hm:X.mg "range"=none) (ha:PA X [a] ta) (hs:starEach [a] X.env=[(false,eval a X.env)]:=by rfl):PE X (.Call (.Name "range" p) [a] [] pos) (Zm3 ta):=by
 intro pins s σ H Q I h;refine Call_ (VA I hg hm boot_range (Gc (Zp (ha pos pins s σ H _ I h) fun us s1 ⟨vs,H1,I1,r1,q1⟩=>?_) hs rfl));obtain ⟨j,e,q1,q2,q⟩:=q1;subst e;cases r1 with
 |cons r rr =>
  cases rr;obtain ⟨t,rfl⟩:=r;refine call_range_1 ?_;exact ⟨.ref _,_,I1.laid (o:=.rng 0 j) (fun b o e=>Qj _ e) (Qf _) (show ObjOk X.prog X.w _ _ _ (.rng 0 j) from ⟨_,_,_,Qr _ rfl⟩),rfl,q _ (I1.hok.fresh (Qf _))⟩
end
noncomputable def Zab:Value->Int
 |.int z _=>z
 |_=>0
theorem Zha:∀{us:List Value} {zs:List Int},IntsAre us zs->us.map Zab=zs
 |_,_,.nil=>rfl
 |_,_,.cons z t r=>by rw [Qt,Zha r];rfl
theorem ZhY:∀{us:List Value},(∀u∈us,∃z t,u=Value.int z t)->IntsAre us (us.map Zab)
 |[],_=>.nil
 |u::us,h=>by
  obtain ⟨z,t,rfl⟩:=h u (by simp);exact .cons z t (ZhY fun v hv=>h v (QC _ hv))
theorem Zez:∀{us:List Value} {zs:List Int},IntsAre us zs->∀u∈us,∃z t,u=Value.int z t
 |_,_,.nil,u,h=>by cases h
 |_,_,.cons z t r,u,h=>by
  rcases Qh.mp h with e|h
  ·exact ⟨z,t,e⟩
  ·exact Zez r u h
theorem Zcd {g:Int->Int}:∀{us:List Value} {zs:List Int},IntsAre us zs->∀p∈(zs.map g).zip us,p.1=g (Zab p.2)
 |_,_,.nil,p,h=>by cases h
 |_,_,.cons z t r,p,h=>by
  rcases Qh.mp h with e|h
  ·subst e;rfl
  ·exact Zcd r p h
theorem Zip {us out:List Value} {zs:List Int} {g:Int->Int} (hs:IntsAre us zs) (ko:KskOut false (zs.map g) us out):∃zs',IntsAre out zs'∧zs'.Perm zs∧zs'.Pairwise fun a b=>g a≤g b:=by
 obtain ⟨ps,hp,rfl,hw⟩:=ko;have hl:us.length=zs.length:=hs.length;have e2:((zs.map g).zip us).map Prod.snd=us:=List.map_snd_zip (by rw [Qd];omega)
 have hm:(ps.map Prod.snd).Perm us:=by
  have:=hp.map Prod.snd;rw [e2] at this;exact this
 refine ⟨(ps.map Prod.snd).map Zab,ZhY fun u hu=>Zez hs u (hm.mem_iff.mp hu),?_,?_⟩
 ·have:=hm.map Zab;rw [Zha hs] at this;exact this
 ·rw [QU,Gr];refine hw.imp_of_mem fun {a b} ha hb q=>?_;have q':a.1≤b.1:=q;rw [Zcd hs a (hp.mem_iff.mp ha),Zcd hs b (hp.mem_iff.mp hb)] at q';exact q'
section
variable {X:Cx} {e:Expr} {te:TE} {p pos kp lpos p1 p2 p3 p4:Pos} {x o q fl:Str} {params:Arguments} {scope:Scope} {c P cc:Addr} {i:Nat}
theorem ZpA {pins:List (Addr×Obj)} {σ:St} {H:Hp} {s:Shared} {Q:Value->Shared->Prop} {E:Value->Shared->Prop} {A:Around} {f r a dx C L c':Addr} {fs:List (Str×V)} {pm ctv:Value} {n:Nat} {ds:List Int} (I:Inv X pins σ H s) (hh:A.handled=none) (ok:LamOkD x o fl params scope p1 p2 p3 p4) (hroom:A.depth<recursionLimit)
  (hf:s.heap.get? f=some (kla_obj "<lambda>" q params (Wz x o fl p1 p2 p3 p4) scope [(o,cc)] pm c' ctv)) (hcd:s.heap.CodeRec (.ref c') q) (hcL:cc≠X.env.locals) (hc'L:c'≠X.env.locals) (hfL:f≠X.env.locals)
  (hc:s.heap.IsCell cc (some (.ref a))) (ea:H a=some (.ins C dx fs)) (cls:Cls X.K C) (na:NoAttr X.K C fl) (hfl:fs.lookup fl=some (.ref L)) (hr:H r=some (.rng 0 n)) (hlen:n<64) (hL:SqL X.K H L (ds.map V.int)) (hn:ds.length=n)
  (h:∀h' tk D (zs':List Int),zs'.Perm ((List.range n).map fun i:Nat=>(i:Int))->zs'.Pairwise (fun a b=>ds.getD a.toNat 0≤ds.getD b.toNat 0)->H D=none->Inv X pins σ (Zc H D (.lst (zs'.map V.int))) { s with heap:=h',toks:=tk }->Q (.ref D) { s with heap:=h',toks:=tk }) :
  wpAny (model X.prog X.w) A (call (.builtin "sorted") [.ref r] [(Str.ofString "key",.ref f)]) Q E s:=by
 obtain ⟨m,F⟩:=I.fr;obtain ⟨ws,rw',plL,hzL⟩:=I.list hL;have hsO:IntsAre ws ds:=Znc rw';obtain ⟨tr,ur,vr,hrg⟩:=(show ObjOk X.prog X.w H s.heap r (.rng 0 n) from I.hok r _ hr);obtain ⟨mA,O,rA,_,_,hdx⟩:=Zao I.hok ea;obtain ⟨uL,huL,ruL⟩:=RelO.some_of (v:=.ref L) (o:=mA fl) (by rw [←hfl];exact rA fl);cases (show uL=Value.ref L from ruL)
 have LneL:L≠X.env.locals:=fun z=>by
  obtain ⟨oo,n,e1,_,_,e4⟩:=plL;obtain ⟨o2,es,ep,e5,e6,_⟩:=F.ns;rw [z,e5] at e1;cases e1;rw [e6] at e4;cases e4
 have keep3:∀{h:Heap} {own:List (Addr×Obj)},Fr X.base X.env.locals h m->News X.base X.env.locals h (JB X.base s.heap X.env.locals++own)->∀b ob,b≠X.env.locals->s.heap.get? b=some ob->h.get? b=some ob:=fun {h own} F' N' b ob hb eb=>by
  cases r:X.base.get? b with
  |some u =>
   have:=I.bk b u r;rw [eb] at this;cases this;exact F'.keep b _ r
  |none=>exact (N' (b,ob) (Q8 _ (Zho hb r eb))).1
 have neL:∀b u,H b=some u->b≠X.env.locals:=fun b u e1=>ZF e1 I.free;refine Zig (kz:=((List.range n).map fun i:Nat=>(i:Int)).map fun z=>ds.getD z.toNat 0) (b:=false) (f:=.ref f) (PV:=fun vs=>IntsAre vs ((List.range n).map fun i:Nat=>(i:Int))) F Zmp (fun vs hv=>by rw [hv.length,Qd]) (by rw [Qd,Qd,RS];exact hlen) (fun A' Q' E' hA hq=>ZoI (hA.trans hh) hrg (by omega) fun h1 tk vs hv k1 z1=>hq vs h1 tk hv k1 z1) (ksk_s1 _ _) (fun x=>ksk_l1 _ _) (fun x=>ksk_t1 _ _) (fun us hs j v k hv hk h1 tk own F' N'=>?_) fun us D h' tk out cE hs F' N' hD ko=>?_
 ·have jl:j<n:=by
   have:=(QH.mp hk).1;simpa using this
  obtain ⟨t,ht⟩:=JZ hs j (j:Int) (by rw [QA,List.getElem?_range jl];rfl);rw [hv] at ht;cases ht;rw [QA,QA,List.getElem?_range jl] at hk;cases hk;have dj:ds[j]?=some (ds.getD j 0):=by rw [QP,Qx (by omega)];rfl
  obtain ⟨oc,hoc,hdc⟩:=hc;obtain ⟨c2,oc2,vs2,t2,e5,e6,e7⟩:=hcd;cases e5;obtain ⟨oo,nn,a1,a2,a3,a4⟩:=plL;have kp:=keep3 F' N';refine ZmB (K:=X.K) (A:=A.in1.in1) (s:={ s with heap:=h1,toks:=tk }) (mA:=mA) (j:=j) (d:=ds.getD j 0) ok hroom ((I.mod.nolimit).keeps F'.keep) (fun b o e=>F'.keep _ _ (I.ok.mod.kin b o e)) (kp _ _ hfL hf) ⟨_,oc2,vs2,t2,rfl,kp _ _ hc'L e6,e7⟩ ⟨oc,kp _ _ hcL hoc,hdc⟩ ⟨kp _ _ (neL _ _ ea) O.obj,?ns,O.ne⟩ cls na huL ⟨oo,nn,kp _ _ LneL a1,a2,a3,a4⟩ hsO dj (by omega) fun h2 tk2 u kk=>?_
  case ns=>exact Heap.Ns1.at O.ns fun o e=>kp _ _ (neL _ _ hdx) e
  exact ⟨h2,tk2,u,rfl,rfl,F'.kept kk,N'.grown kk⟩
 ·obtain ⟨zs',so,hp,hw⟩:=Zip (g:=fun z=>ds.getD z.toNat 0) hs ko;have nD:=N' (D,seqObj "list" out cE) (QI ..);have N2:News X.base X.env.locals h' (JB X.base s.heap X.env.locals++[]):=fun p hp=>N' p (QC _ (by simpa using hp));have kp:=keep3 F' N2
  have noD:s.heap.get? D=none:=by
   cases r:s.heap.get? D with
   |none=>rfl
   |some ob=>exact absurd (hD (D,ob) (Zho nD.2.1 nD.2.2 r)) (QE _)
  have HD:H D=none:=by
   cases r:H D with
   |none=>rfl
   |some u =>
    obtain ⟨ob,e⟩:=(I.hok D u r).has;rw [noD] at e;cases e
  have neD:∀b u,H b=some u->b≠D:=fun b u e1=>ZF e1 HD;refine h h' tk D zs' hp hw HD ?_;refine I.step (g':=s.gens) (d':=s.drawn) (ch:=[]) (fun _ z=>nomatch z) (fun b ob hL _ _ e1 _=>kp b ob hL e1) (fun b ob hL _ _ e1 _=>⟨ob.slots,kp b ob hL e1⟩) (fun b ob _ e1 n=>?_) (fun b ob _ e1=>?_) (fun b xs e1=>by rw [Zd (neD b _ e1)];exact e1) (fun b ob u e1=>by rw [Zd (neD b _ e1)];exact e1) (fun b ps e1=>⟨#[],by rw [Zd (neD b _ e1),e1];simp⟩) (fun m2 hm2=>?_) (fun b u e1=>?_) I.bare
  ·rw [Zd (fun z=>by subst z;rw [noD] at e1;cases e1)];exact n
  ·by_cases hb:b=X.env.locals
   ·obtain ⟨o2,_,_,e5,_⟩:=F'.ns;exact ⟨o2,by rw [hb];exact e5⟩
   ·exact ⟨ob,kp b ob hb e1⟩
  ·rw [hm2.eq_nsMap,←F.ns.eq_nsMap];exact F'.ns
  ·by_cases hb:b=D
   ·subst hb;rw [Zf] at e1;cases e1;exact (show ObjOk X.prog X.w _ _ _ (.lst (zs'.map V.int)) from ⟨by rw [Qd,hp.length_eq,Qd,RS];exact QN (ZK (by omega)),out.toList,cE,Zb6 so,by rw [Array.toArray_toList];exact nD.1⟩)
   ·rw [Zd hb] at e1;refine (I.hok b u e1).stay (fun d v hd r=>kp d v ?_ r) (fun d r=>by rw [Zd (neD d _ r)];exact r) fun d xs r=>by rw [Zd (neD d _ r)];exact r
    rcases hd with rfl|hd
    ·exact neL d _ e1
    ·exact neL d _ hd
def ZjM (K:W.Frag) (P:Addr) (ln co:Nat) (q:Str) (te:TE) (i:Nat) (fl:Str):TE:=fun σ H Q=>te σ H fun v H1=>∃(r:Addr) (n:Nat) (a C dx:Addr) (fs:List (Str×V)) (L:Addr) (ds:List Int),v=.ref r∧H1 r=some (.rng 0 n)∧n<64∧σ[i]?=some (some (.ref a))∧H1 a=some (.ins C dx fs)∧Cls K C∧NoAttr K C fl∧fs.lookup fl=some (.ref L)∧SqL K H1 L (ds.map V.int)∧ds.length=n∧LamH P ln co q H1 ∧
 ∀H2 D (zs':List Int),zs'.Perm ((List.range n).map fun i:Nat=>(i:Int))->zs'.Pairwise (fun a b=>ds.getD a.toNat 0≤ds.getD b.toNat 0)->SameX H1 H2->Lams P H1 H2->LamH P ln co q H2->H1 D=none->H2 D=some (.lst (zs'.map V.int))->Q (.ref D) H2
theorem Ziu (K:W.Frag) (B:LamB X.base c P X.mg) (hcode:X.env.code=.ref c) (ok:LamOkD x o fl params scope p1 p2 p3 p4) (hroom:Room 0 X.A) (hcm:X.calm=true) (hg:Gl X "sorted") (hm:X.mg "sorted"=none) (he:PE X e te) (hN:X.N[i]?=some o) (hck:X.env.kindOf o=some .cell)
  (hvis:X.env.scope.names.lookup o=some .cell) (hcl:closureFor scope X.env=pure [(o,cc)]) (hcc:X.env.cells.lookup o=some cc) (hq:X.env.qual++"<lambda>"=q) (hdef:defaultsOf params X.env=([],[])) (hK:X.K=K:=by rfl)
  (hs:backTo pos (starEach [e] X.env)=[(false,eval e X.env)]:=by rfl) :
  PE X (.Call (.Name "sorted" p) [e] [⟨some "key",.Lambda params (Wz x o fl p1 p2 p3 p4) scope lpos,kp⟩] pos) (ZjM K P lpos.line lpos.col q te i fl):=by
 subst hK;intro pins s σ H Q I h;refine Rc (VA I hg hm Zbj ?_);refine PyProof.Rows.callWith_kw ?_ (by rw [hs];rfl) (by rw [hs];rfl);rw [hs];refine Rm (Zp (he pins s σ H _ I h) fun u s1 ⟨v,H1,I1,r1,q1⟩=>Ge ?_);obtain ⟨r,n,a,C,dx,fs,L,ds,ev,hr,hlen,hσ,ea,cls,na,hfl,hL,hn,lam,q2⟩:=q1;subst ev;cases (show u=Value.ref r from r1);refine PyProof.Rows.kws_cons (kla_eval hdef ?_);rw [hq];have hgl:s1.heap.Ns mainGlobals X.mg:=I1.mod.glob.keeps I1.bk;obtain ⟨bm,ob,b1,b2,b3,b4,b5,b6⟩:=B.bm;obtain ⟨oc,hP,hC⟩:=lam;have tabP:s1.heap.get? P=some (tabObj (YV lpos.line lpos.col oc)):=(I1.hok P _ hP).1
 have hgP:mainGlobals≠P:=fun z=>by
  obtain ⟨o1,es,ep,e1,hd,_⟩:=hgl;rw [z,tabP] at e1;cases e1;cases hd
 have hbP:bm≠P:=fun z=>by
  have e1:=I1.bk _ _ b3;rw [z,tabP] at e1;cases e1;cases b4
 have hbG:bm≠mainGlobals:=fun z=>by
  obtain ⟨o1,es,ep,e1,hd,_⟩:=hgl;have e2:=I1.bk _ _ b3;rw [z,e1] at e2;cases e2;rw [hd] at b6;cases b6
 have hBA:s1.heap.BuiltinsAt X.mg P:=⟨bm,ob,b1,b2,hbG,hbP,I1.bk _ _ b3,b4,b5,b6⟩
 have hcell:s1.heap.IsCell cc (some (.ref a)):=by
  obtain ⟨m,hn,hl2⟩:=I1.loc;obtain ⟨u,ru,lk⟩:=hl2 i o (.ref a) hN hσ (.inr (.inl hvis));cases (show u=Value.ref a from ru);rcases lk with ⟨z,_⟩|⟨_,c2,e2,e3⟩
  ·rw [hck] at z;cases z
  ·rw [hcc] at e2;cases e2;exact e3
 have hcL:=I1.cne o cc hcc;have Lsz:X.env.locals<s1.heap.objs.size:=I1.lt;have CH:CodeHd s1.heap c P:=B.hd.keeps I1.bk
 have fin : ∀(h3 : Heap) (tk : Nat) (H2 : Hp) (c' : Addr) (ctv : Value), Inv X pins σ H2 { s1 with heap := h3, toks := tk } → s1.heap.objs.size ≤ h3.objs.size → h3.CodeRec (.ref c') q → c' ≠ X.env.locals → h3.IsCell cc (some (.ref a)) → SameX H1 H2 → Lams P H1 H2 → LamH P lpos.line lpos.col q H2 → (∀D, H2 D=none → H1 D=none) →
   wpAny (model X.prog X.w) X.A (evalAll ((backToKw pos (keywordEach [] X.env)).map (·.2))) (fun kvs s₂=>wpAny (model X.prog X.w) X.A (call (.builtin "sorted") [.ref r] (((backToKw pos (keywordEach [⟨some "key",.Lambda params (Wz x o fl p1 p2 p3 p4) scope lpos,kp⟩] X.env)).filterMap (·.1)).zip (.ref h3.objs.size::kvs))) (EP X pins σ Q) X.xe s₂) X.xe
    { s1 with heap:=h3.push (kla_obj "<lambda>" q params (Wz x o fl p1 p2 p3 p4) scope [(o,cc)] ((X.mg "__name__").getD .none) c' ctv),toks:=tk }:=by
  intro h3 tk H2 c' ctv I3 hsz hrc hc' hce sx lms lm fr;refine PyProof.Rows.kws_nil ?_;have I4:=I3.kept (t':=tk) (h':=h3.push (kla_obj "<lambda>" q params (Wz x o fl p1 p2 p3 p4) scope [(o,cc)] ((X.mg "__name__").getD .none) c' ctv)) fun b o e=>Qj _ e
  have ck:(h3.push (kla_obj "<lambda>" q params (Wz x o fl p1 p2 p3 p4) scope [(o,cc)] ((X.mg "__name__").getD .none) c' ctv)).CodeRec (.ref c') q:=by
   obtain ⟨c2,oc2,vs2,t2,e5,e6,e7⟩:=hrc;exact ⟨c2,oc2,vs2,t2,e5,Qj _ e6,e7⟩
  have cek:(h3.push (kla_obj "<lambda>" q params (Wz x o fl p1 p2 p3 p4) scope [(o,cc)] ((X.mg "__name__").getD .none) c' ctv)).IsCell cc (some (.ref a)):=by
   obtain ⟨o9,e8,e9⟩:=hce;exact ⟨o9,Qj _ e8,e9⟩
  refine ZpA (f:=h3.objs.size) I4 (I1.ok.hd hcm) ok hroom.depth (Qr _ rfl) ck hcL hc' (Rl (Qk Lsz hsz)) cek (sx _ _ rfl ea) cls na hfl (sx _ _ rfl hr) hlen (sx.sql hL) hn fun h5 tk5 D zs' hp hw nD I5=>?_;exact ⟨.ref D,_,I5,rfl,q2 _ D zs' hp hw (sx.trans (Zl nD).x) (lms.same (Zl nD)) (lm.same (Zl nD)) (fr D nD) Zf⟩
 cases oc with
 |none =>
  refine kla_makeFunction (mg:=X.mg) hcl I1.ok.glob hgl hcode CH tabP True.intro rfl hgP hBA fun c' ctv h' tk hx hge hlt hrec htb=>?_;have I2:=I1.grow (t':=tk) hP hx hge hrec (by simpa [YV] using htb);refine fin h' tk _ c' ctv I2 (Qq hge (QN hlt)) hrec (Rl (Qk Lsz hge)) ?_ ?_ (Lams.of ⟨none,hP,hC⟩ fun b u n1 e1=>?_) ?_ ?_
  ·obtain ⟨o9,e8,e9⟩:=hcell;exact ⟨o9,hx _ _ (fun z=>by rw [z,tabP] at e8;cases e8;cases e9) e8,e9⟩
  ·intro b u hu e1;have n1:b≠P:=fun z=>by subst z;rw [hP] at e1;cases e1;cases hu
   rw [Zd (fun z=>by subst z;exact absurd (Qk (I1.hok.lt e1) hge) (QE _)),Zd n1];exact e1
  ·rw [Zd (fun z=>by subst z;exact absurd (Qk (I1.hok.lt e1) hge) (QE _)),Zd n1];exact e1
  ·refine ⟨some c',?_,fun c2 e2=>?_⟩
   ·rw [Zd (fun z=>by subst z;exact absurd (Qk (I1.hok.lt hP) hge) (QE _)),Zf]
   ·cases e2;exact Zf
  ·intro D hD;cases r:H1 D with
   |none=>rfl
   |some u =>
    exfalso;have n2:D≠c':=fun z=>by subst z;exact absurd (Qk (I1.hok.lt r) hge) (QE _)
    rw [Zd n2] at hD;by_cases n1:D=P
    ·subst n1;rw [Zf] at hD;cases hD
    ·rw [Zd n1,r] at hD;cases hD
 |some c' =>
  have hc':=hC c' rfl;have hrec:s1.heap.CodeRec (.ref c') q:=(I1.hok c' _ hc').1;refine kla_makeFunctionHit (mg:=X.mg) hcl I1.ok.glob hgl hcode CH tabP (by simp [YV,TriplesOk,rawInt]) (cv:=.ref c') (by simp [YV,codeAmong,rawInt]) hBA fun ctv h' tk hk hsz=>?_;have I2:=I1.kept (t':=tk) hk;refine fin h' tk H1 c' ctv I2 hsz ?_ (ZF hc' I1.free) ?_ (SameX.refl _) (Lams.refl _ _) ⟨some c',hP,hC⟩ fun _ z=>z
  ·obtain ⟨c2,oc2,vs2,t2,e5,e6,e7⟩:=hrec;exact ⟨c2,oc2,vs2,t2,e5,hk _ _ e6,e7⟩
  ·obtain ⟨o9,e8,e9⟩:=hcell;exact ⟨o9,hk _ _ e8,e9⟩
end
end L2
set_option exponentiation.threshold 3000
seal L2.PSs L2.PS L2.PE L2.PT L2.PW L2.PA L2.PG L2.PI L2.PO
namespace K22
open PySem L2
noncomputable def ZL (i:Nat):Stmt:=PySem.Challenge.pw_heirbook_k22_ways_made_wider.main.body.getD i (.Pass ⟨0,0,0,0⟩)
noncomputable abbrev Zdz:Stmt:=ZL 10
noncomputable abbrev ZdZ:Stmt:=ZL 13
noncomputable abbrev ZcX:Stmt:=ZL 14
noncomputable abbrev ZdB:Stmt:=ZL 15
noncomputable abbrev ZbJ:Stmt:=ZL 16
noncomputable abbrev ZbB:Stmt:=ZL 17
noncomputable abbrev Zcq:Stmt:=ZL 19
noncomputable abbrev ZdI:Stmt:=ZL 20
noncomputable abbrev ZcF:Stmt:=ZL 21
noncomputable abbrev Zdd:Stmt:=ZL 22
noncomputable abbrev Zc9:Stmt:=ZL 23
noncomputable abbrev Zc2:Stmt:=ZL 24
noncomputable abbrev ZcR:Stmt:=ZL 25
noncomputable abbrev ZcM:Stmt:=ZL 29
noncomputable abbrev ZcZ:Stmt:=ZL 34
noncomputable abbrev ZbZ:Stmt:=YY (ZL 35) 0
noncomputable abbrev ZdF:Stmt:=YY (ZL 35) 8
noncomputable abbrev ZdN:Stmt:=YY (ZL 35) 11
noncomputable abbrev ZdV:Stmt:=YY (ZL 35) 12
noncomputable abbrev ZbA:Stmt:=YY (ZL 35) 4
noncomputable abbrev ZcA:Stmt:=YY (ZL 35) 3
noncomputable abbrev ZcB:Stmt:=YY (ZL 35) 2
noncomputable abbrev Zcv:Stmt:=YY (ZL 35) 7
noncomputable abbrev ZdX:Stmt:=YY (ZL 35) 5
noncomputable abbrev Zd3:Stmt:=YY (ZL 35) 16
noncomputable abbrev WN:Stmt:=YY (ZL 35) 14
noncomputable abbrev Zcn:Stmt:=YY (ZL 35) 6
noncomputable abbrev ZcL:Stmt:=YY (ZL 35) 1
noncomputable abbrev Zck:Stmt:=ZL 30
noncomputable abbrev Zcg:Stmt:=YY (ZL 39) 0
noncomputable abbrev Zca:Stmt:=YY (ZL 39) 4
noncomputable abbrev Zci:Stmt:=YY (ZL 39) 3
noncomputable abbrev Zdt:Stmt:=YY (ZL 39) 2
noncomputable abbrev ZbE:Stmt:=YY (ZL 39) 1
noncomputable abbrev ZdO:Stmt:=ZL 40
noncomputable abbrev ZcJ:Stmt:=ZL 41
noncomputable abbrev Zds:Stmt:=ZL 42
noncomputable abbrev Jq:Stmt:=ZL 43
noncomputable abbrev ZbN:Stmt:=ZL 44
noncomputable abbrev ZdG:Stmt:=ZL 46
noncomputable abbrev Zce:Stmt:=ZL 47
noncomputable abbrev Jf:Stmt:=ZL 48
noncomputable abbrev Zcz:Stmt:=ZL 50
noncomputable abbrev ZdW:Stmt:=ZL 51
noncomputable abbrev ZcW:Stmt:=ZL 53
noncomputable abbrev ZbW:Stmt:=ZL 54
noncomputable abbrev ZcP:Stmt:=ZL 55
noncomputable abbrev Zco:Stmt:=ZL 56
noncomputable abbrev Zdr:Stmt:=ZL 57
noncomputable abbrev ZdS:Stmt:=ZL 58
noncomputable abbrev Zdg:Stmt:=ZL 59
noncomputable abbrev Zdq:Stmt:=ZL 60
set_option genInjectivity false
set_option genSizeOf false
structure Tx (K:W.Frag) (w:World) (mg:Str->Option Value) where
 c_Book:Addr
 c_Tree:Addr
 Wo:Df K mg "is_whole" Zdz ["thing"]
 YE:Df K mg "is_name" ZdZ ["thing"]
 Xn:Df K mg "is_day" ZcX ["thing"]
 WA:Df K mg "is_amount" ZdB ["thing"]
 WL:Df K mg "is_sort" ZbJ ["thing"]
 X3:Df K mg "is_parent" ZbB ["thing"]
 Uh:Df K mg "has_form" Zcq ["parts","checks"]
 Ul:Df K mg "is_entry" ZdI ["thing"]
 WF:Df K mg "is_tie" ZcF ["entry"]
 Wm:Df K mg "named_in" Zdd ["entry"]
 VZ:Df K mg "day_of" Zc9 ["entry"]
 Wn:Df K mg "as_told" Zc2 ["entry"]
 Wx:Df K mg "key_of" ZcR ["entry"]
 V7:Df K mg "is_letter" ZcM ["thing"]
 WB:Df K mg "pair_of" ZcZ ["one","other"]
 Jb:Dm K c_Book "__init__" "Book.__init__" ZbZ ["self"]
 Xh:Dm K c_Book "birth_of" "Book.birth_of" ZdF ["self","name"]
 Vr:Dm K c_Book "sort_of" "Book.sort_of" ZdN ["self","name"]
 Xy:Dm K c_Book "born_on" "Book.born_on" ZdV ["self","name"]
 Vz:Dm K c_Book "parent_fits" "Book.parent_fits" ZbA ["self","name","sort","day"]
 UC:Dm K c_Book "fits" "Book.fits" ZcA ["self","entry"]
 UD:Dm K c_Book "refuse" "Book.refuse" ZcB ["self","entry"]
 Y2:Dm K c_Book "link" "Book.link" Zcv ["self","letter","begin","end"]
 Jk:Dm K c_Book "note_birth" "Book.note_birth" ZdX ["self","entry"]
 VC:Dm K c_Book "step" "Book.step" Zd3 ["self","letter","name"]
 a_Book_stands:Addr
 fd_Book_stands:FuncData
 dt_Book_stands:Addr
 F_Book_stands:FunD K "stands" "Book.stands" WN a_Book_stands fd_Book_stands (.ref dt_Book_stands)
 b_Book_stands:Binds K fd_Book_stands ["self","one","other","day"] [.none]
 US:Dm K c_Book "note_tie" "Book.note_tie" Zcn ["self","entry"]
 WC:Dm K c_Book "put" "Book.put" ZcL ["self","entry"]
 Ws:Df K mg "is_test" Zck ["thing"]
 U1:Dm K c_Tree "__init__" "Tree.__init__" Zcg ["self"]
 WH:Dm K c_Tree "ask" "Tree.ask" Zca ["self","number","sort"]
 Xs:Dm K c_Tree "grow" "Tree.grow" Zci ["self","later"]
 UE:Dm K c_Tree "go_up" "Tree.go_up" Zdt ["self","letter"]
 UB:Dm K c_Tree "go" "Tree.go" ZbE ["self","step"]
 Yl:Df K mg "name_of" ZdO ["number"]
 Wt:Df K mg "parent_name" ZcJ ["tree","letter","number"]
 Ug:Df K mg "birth" Zds ["tree","number"]
 VN:Df K mg "book_of_tree" Jq ["tree"]
 Uy:Df K mg "book_of" ZbN ["way"]
 VW:Df K mg "led_by_step" ZdG ["book","step","name"]
 Uu:Df K mg "layers_of" Zce ["one","steps","lead"]
 VH:Df K mg "reach" Jf ["book","way","name"]
 V2:Df K mg "leads_there" Zcz ["told","way"]
 Yv:Df K mg "within" ZdW ["one","other"]
 Um:Df K mg "_law_cell_at" ZcW ["_law_script","_law_k"]
 VP:Df K mg "_law_free" ZbW ["_law_cells"]
 V3:Df K mg "_law_never" ZcP ["_law_way"]
 Wq:Df K mg "_law_back" Zco ["_law_step"]
 WE:Df K mg "_law_turned" Zdr ["_law_way"]
 XB:Df K mg "_law_first" ZdS ["_law_way","_law_start","_law_rows"]
 Ux:Df K mg "_law_wider" Zdg ["_law_way","_law_cell"]
 VU:Df K mg "law" Zdq ["_law_script"]
 c_HeirError:Addr
 m_HeirError:mg "HeirError"=some (.ref c_HeirError)
 c_NoEntry:Addr
 m_NoEntry:mg "NoEntry"=some (.ref c_NoEntry)
 c_Full:Addr
 m_Full:mg "Full"=some (.ref c_Full)
 c_NoPerson:Addr
 m_NoPerson:mg "NoPerson"=some (.ref c_NoPerson)
 c_Twice:Addr
 m_Twice:mg "Twice"=some (.ref c_Twice)
 c_NoFit:Addr
 m_NoFit:mg "NoFit"=some (.ref c_NoFit)
 c_NoWay:Addr
 m_NoWay:mg "NoWay"=some (.ref c_NoWay)
 x_NoEntry:W.excIn K c_NoEntry XC "ValueError.__new__"=true
 e_NoEntry:ExcK K c_NoEntry
 x_Full:W.excIn K c_Full XC "ValueError.__new__"=true
 e_Full:ExcK K c_Full
 x_NoPerson:W.excIn K c_NoPerson XC "ValueError.__new__"=true
 e_NoPerson:ExcK K c_NoPerson
 x_Twice:W.excIn K c_Twice XC "ValueError.__new__"=true
 e_Twice:ExcK K c_Twice
 x_NoFit:W.excIn K c_NoFit XC "ValueError.__new__"=true
 e_NoFit:ExcK K c_NoFit
 x_NoWay:W.excIn K c_NoWay XC "ValueError.__new__"=true
 e_NoWay:ExcK K c_NoWay
 m_Book:mg "Book"=some (.ref c_Book)
 cl_Book:Cls K c_Book
 mk_Book:Mk K c_Book Jb.a
 na_Book_kept:NoAttr K c_Book "kept"
 na_Book_births:NoAttr K c_Book "births"
 na_Book_links:NoAttr K c_Book "links"
 na_Book_ties:NoAttr K c_Book "ties"
 na_Book_sums:NoAttr K c_Book "sums"
 me_Book_stands:Meth K c_Book "stands" a_Book_stands
 m_Tree:mg "Tree"=some (.ref c_Tree)
 cl_Tree:Cls K c_Tree
 mk_Tree:Mk K c_Tree U1.a
 na_Tree_days:NoAttr K c_Tree "days"
 na_Tree_sorts:NoAttr K c_Tree "sorts"
 na_Tree_parents:NoAttr K c_Tree "parents"
 na_Tree_takings:NoAttr K c_Tree "takings"
 na_Tree_unions:NoAttr K c_Tree "unions"
 na_Tree_clash:NoAttr K c_Tree "clash"
 na_Tree_here:NoAttr K c_Tree "here"
 n_abs:mg "abs"=none
 n_all:mg "all"=none
 n_bool:mg "bool"=none
 n_int:mg "int"=none
 n_isinstance:mg "isinstance"=none
 n_len:mg "len"=none
 n_list:mg "list"=none
 n_max:mg "max"=none
 n_min:mg "min"=none
 n_range:mg "range"=none
 n_reversed:mg "reversed"=none
 n_sorted:mg "sorted"=none
 n_str:mg "str"=none
 n_tuple:mg "tuple"=none
 n_zip:mg "zip"=none
 k_int_int:W.kitOne K (.type "int") (.type "int")=some true
 k_int_str:W.kitOne K (.type "int") (.type "str")=some false
 k_int_tuple:W.kitOne K (.type "int") (.type "tuple")=some false
 k_int_bool:W.kitOne K (.type "int") (.type "bool")=some false
 k_str_int:W.kitOne K (.type "str") (.type "int")=some false
 k_str_str:W.kitOne K (.type "str") (.type "str")=some true
 k_str_tuple:W.kitOne K (.type "str") (.type "tuple")=some false
 k_bool_int:W.kitOne K (.type "bool") (.type "int")=some true
 k_bool_str:W.kitOne K (.type "bool") (.type "str")=some false
 k_bool_tuple:W.kitOne K (.type "bool") (.type "tuple")=some false
 k_bool_bool:W.kitOne K (.type "bool") (.type "bool")=some true
 k_NoneType_int:W.kitOne K (.type "NoneType") (.type "int")=some false
 k_NoneType_str:W.kitOne K (.type "NoneType") (.type "str")=some false
 k_NoneType_tuple:W.kitOne K (.type "NoneType") (.type "tuple")=some false
 k_tuple_int:W.kitOne K (.type "tuple") (.type "int")=some false
 k_tuple_str:W.kitOne K (.type "tuple") (.type "str")=some false
 k_tuple_tuple:W.kitOne K (.type "tuple") (.type "tuple")=some true
 k_list_int:W.kitOne K (.type "list") (.type "int")=some false
 k_list_str:W.kitOne K (.type "list") (.type "str")=some false
 k_list_tuple:W.kitOne K (.type "list") (.type "tuple")=some false
 k_dict_int:W.kitOne K (.type "dict") (.type "int")=some false
 k_dict_str:W.kitOne K (.type "dict") (.type "str")=some false
 k_dict_tuple:W.kitOne K (.type "dict") (.type "tuple")=some false
 kl_list:W.kitOne K (.type "list") (.type "list")=some true
 kx_HeirError:W.kitOne K (.ref c_NoPerson) (.ref c_HeirError)=some true
 kx_ValueError:W.kitOne K (.ref c_NoPerson) (.type "ValueError")=some true
 aF:Addr
 m_FORMS:mg "FORMS"=some (.ref aF)
 tkL:Tok
 m_LETTERS:mg "LETTERS"=some (.str "abcdefghijklmnopqrstuvwxyz" tkL)
 p0:Addr
 p1:Addr
 p2:Addr
 p3:Addr
 p4:Addr
 p5:Addr
 g0:Addr
 g1:Addr
 g2:Addr
 g3:Addr
 g4:Addr
 g5:Addr
 sF:∀H,SqT K H aF [.ref p0,.ref p1,.ref p2,.ref p3,.ref p4,.ref p5]
 sp0:∀H,SqT K H p0 [.str "born",.ref g0]
 sp1:∀H,SqT K H p1 [.str "taken",.ref g1]
 sp2:∀H,SqT K H p2 [.str "union",.ref g2]
 sp3:∀H,SqT K H p3 [.str "parted",.ref g3]
 sp4:∀H,SqT K H p4 [.str "dead",.ref g4]
 sp5:∀H,SqT K H p5 [.str "given",.ref g5]
 sg0:∀H,SqT K H g0 [.ref YE.a,.ref WL.a,.ref Xn.a,.ref X3.a,.ref X3.a]
 sg1:∀H,SqT K H g1 [.ref YE.a,.ref YE.a,.ref Xn.a]
 sg2:∀H,SqT K H g2 [.ref YE.a,.ref YE.a,.ref Xn.a]
 sg3:∀H,SqT K H g3 [.ref YE.a,.ref YE.a,.ref Xn.a]
 sg4:∀H,SqT K H g4 [.ref YE.a,.ref Xn.a]
 sg5:∀H,SqT K H g5 [.ref YE.a,.ref YE.a,.ref WA.a,.ref Xn.a]
 a_STEP_LETTERS:Addr
 m_STEP_LETTERS:mg "STEP_LETTERS"=some (.ref a_STEP_LETTERS)
 Zeq:∀H,SqT K H a_STEP_LETTERS [.str "F",.str "M",.str "T",.str "f",.str "m",.str "t",.str "S"]
 a_TESTS:Addr
 m_TESTS:mg "TESTS"=some (.ref a_TESTS)
 Zgx:∀H,SqT K H a_TESTS [.str "he",.str "she"]
 t_MOST_ENTRIES:Tok
 m_MOST_ENTRIES:mg "MOST_ENTRIES"=some (.int 400 t_MOST_ENTRIES)
 t_MOST_PEOPLE:Tok
 m_MOST_PEOPLE:mg "MOST_PEOPLE"=some (.int 60 t_MOST_PEOPLE)
 cc:Addr
 tb:Addr
 hcc:ZcG K VH.a cc
 cc2:Addr
 tb2:Addr
 hcc2:ZcG K VN.a cc2
 ttb:tb2≠tb
 a_SORT_OF_PARENT:Addr
 m_SORT_OF_PARENT:mg "SORT_OF_PARENT"=some (.ref a_SORT_OF_PARENT)
 kd_SORT_OF_PARENT:KDict K w a_SORT_OF_PARENT [(.inr "F",.str "he"),(.inr "M",.str "she")]
 a_LETTER_UP:Addr
 m_LETTER_UP:mg "LETTER_UP"=some (.ref a_LETTER_UP)
 kd_LETTER_UP:KDict K w a_LETTER_UP [(.inr "f",.str "F"),(.inr "m",.str "M")]
inductive Vk where
 |int (i:Int)|str (x:Str)|bl|non|tup|lst|dct
noncomputable def Vk.ty:Vk->Value
 |.int _=>.type "int"
 |.str _=>.type "str"
 |.bl=>.type "bool"
 |.non=>.type "NoneType"
 |.tup=>.type "tuple"
 |.lst=>.type "list"
 |.dct=>.type "dict"
noncomputable def Vk.isI:Vk->Bool
 |.int _=>true
 |_=>false
noncomputable def Vk.isB:Vk->Bool
 |.bl=>true
 |_=>false
noncomputable def Vk.isS:Vk->Bool
 |.str _=>true
 |_=>false
noncomputable def Vk.isT:Vk->Bool
 |.tup=>true
 |_=>false
def Vw (K:W.Frag) (H:Hp) (v:V):Vk->Prop
 |.int i=>v=.int i
 |.str x=>v=.str x∧x.length≤100
 |k=>Kd K H v k.ty
section
variable {K:W.Frag} {H H':Hp} {v:V} {t:Vk}
theorem Vw.kd (h:Vw K H v t):Kd K H v t.ty:=by
 cases t with
 |int i=>cases (show v=.int i from h);exact .of (.int i)
 |str x=>cases (show v=.str x from h.1);exact .of (.str x)
 |_=>exact h
theorem Vw.mono (h:Vw K H v t) (e:Same H H'):Vw K H' v t:=by
 cases t with
 |int i=>exact h
 |str x=>exact h
 |_=>exact e.kd h
end
def Vws (K:W.Frag) (H:Hp):List V->List Vk->Prop
 |[],[]=>True
 |x::xs,t::ts=>Vw K H x t∧Vws K H xs ts
 |_,_=>False
section
variable {K:W.Frag} {H H':Hp}
theorem Vws.length:∀{xs:List V} {ts:List Vk},Vws K H xs ts->xs.length=ts.length
 |[],[],_=>rfl
 |x::xs,t::ts,h=>by rw [QK,QK,Vws.length h.2]
theorem Vws.mono (e:Same H H'):∀{xs:List V} {ts:List Vk},Vws K H xs ts->Vws K H' xs ts
 |[],[],_=>True.intro
 |x::xs,t::ts,h=>⟨h.1.mono e,Vws.mono e h.2⟩
theorem Vws.get:∀{xs:List V} {ts:List Vk} {i:Nat} {t:Vk},Vws K H xs ts->ts[i]?=some t->∃x,xs[i]?=some x∧Vw K H x t
 |[],[],_,_,_,e=>by simp at e
 |x::xs,t::ts,0,t',h,e=>by
  cases (show some t=some t' by simpa using e);exact ⟨x,rfl,h.1⟩
 |x::xs,t::ts,i+1,t',h,e=>by
  obtain ⟨y,e1,e2⟩:=Vws.get (i:=i) h.2 (by simpa using e);exact ⟨y,by simpa using e1,e2⟩
end
def Tv (K:W.Frag) (H:Hp) (v:V) (ts:List Vk):Prop:=∃a xs,v=.ref a∧SqT K H a xs∧Vws K H xs ts
noncomputable abbrev Zd5:Str:="abcdefghijklmnopqrstuvwxyz"
noncomputable def W5 (c:Nat):Bool:=!(Builtin.Str.occurrences Zd5 ⟨#[c]⟩ 0 Zd5.length 1).isEmpty
noncomputable def W8:Vk->Bool
 |.str x=>decide (1≤x.length)&&decide (x.length≤8)&&x.cps.toList.all W5
 |_=>false
noncomputable def Zcl:Vk->Bool
 |.int i=>decide ((if i<0 then -i else i)≤10 ^ 18)
 |_=>false
noncomputable def ZcS:Vk->Bool
 |.int i=>decide (1≤i)&&decide (i≤10 ^ 18)
 |_=>false
noncomputable def Up:Vk->Bool
 |.str x=>decide (x="he")||decide (x="she")||decide (x="")
 |_=>false
noncomputable def JQ (t:Vk):Bool:=W8 t||match t with
 |.str x=>decide (x="")
 |_=>false
inductive Chk where
 |name|sort|day|amount|parent
noncomputable def Je:Chk->Vk->Bool
 |.name=>W8
 |.sort=>Up
 |.day=>Zcl
 |.amount=>ZcS
 |.parent=>JQ
noncomputable def WJ:List (Str×List Chk):=[("born",[.name,.sort,.day,.parent,.parent]),("taken",[.name,.name,.day]),("union",[.name,.name,.day]),("parted",[.name,.name,.day]),("dead",[.name,.day]),("given",[.name,.name,.amount,.day])]
noncomputable def Vm (w:Str):Option (List Chk):=(WJ.find? fun p=>decide (w=p.1)).map (·.2)
noncomputable def ZP:List Chk->List Vk->List Bool
 |c::cs,t::ts=>Je c t::ZP cs ts
 |_,_=>[]
noncomputable def Wi (cs:List Chk) (ts:List Vk):Bool:=decide (ts.length=cs.length)&&(ZP cs ts).all id
noncomputable def VS:List Vk->Bool
 |.str w::ts=>((Vm w).map fun cs=>Wi cs ts).getD false
 |_=>false
theorem ZaI (w:Str) (ts:List Vk):VS (.str w::ts)=((Vm w).map fun cs=>Wi cs ts).getD false:=rfl
structure Nm (x:Str):Prop where
 lo:1≤x.length
 hi:x.length≤8
 all:x.cps.toList.all W5=true
theorem Nm.ok {x:Str} (h:Nm x):W8 (.str x)=true:=by
 show (decide (1≤x.length)&&decide (x.length≤8)&&x.cps.toList.all W5)=true;rw [Qw h.lo,Qw h.hi,h.all];rfl
section
variable {K:W.Frag} {mg:Str->Option Value}
noncomputable def Tx.ad (T:Tx K w mg):Chk->Addr
 |.name=>T.YE.a
 |.sort=>T.WL.a
 |.day=>T.Xn.a
 |.amount=>T.WA.a
 |.parent=>T.X3.a
theorem kI (T:Tx K w mg):∀t:Vk,W.kitOne K t.ty (.type "int")=some (t.isI||t.isB)
 |.int _=>T.k_int_int
 |.str _=>T.k_str_int
 |.bl=>T.k_bool_int
 |.non=>T.k_NoneType_int
 |.tup=>T.k_tuple_int
 |.lst=>T.k_list_int
 |.dct=>T.k_dict_int
theorem kS (T:Tx K w mg):∀t:Vk,W.kitOne K t.ty (.type "str")=some t.isS
 |.int _=>T.k_int_str
 |.str _=>T.k_str_str
 |.bl=>T.k_bool_str
 |.non=>T.k_NoneType_str
 |.tup=>T.k_tuple_str
 |.lst=>T.k_list_str
 |.dct=>T.k_dict_str
theorem kT (T:Tx K w mg):∀t:Vk,W.kitOne K t.ty (.type "tuple")=some t.isT
 |.int _=>T.k_int_tuple
 |.str _=>T.k_str_tuple
 |.bl=>T.k_bool_tuple
 |.non=>T.k_NoneType_tuple
 |.tup=>T.k_tuple_tuple
 |.lst=>T.k_list_tuple
 |.dct=>T.k_dict_tuple
end
theorem ZfB {X:Cx} {N:List Str} {sc:Scope} {L:List (Str×NameKind)} {ns:St} (hk:sc.kind=.function) (hn:∀x∈sc.names,x.2=.local->sc.names.lookup x.1=some .local) (hc:∀y∈sc.names,y.2≠.cell)
  (clos:closureFor sc X.env=pure []) (e:(relabel sc X.env).names=L) (hL:∀y∈L,y.2≠.cell∧y.2≠.free) (hl:ns.length=N.length) (hs:∀o∈ns,o=none):CompSc X N sc [] (fun _=>ns):=by
 have no:∀(x:Str),¬((relabel sc X.env).names.lookup x=some .cell∨(relabel sc X.env).names.lookup x=some .free):=fun x h=>by
  rw [e] at h
  have lk:∀(M:List (Str×NameKind)) (k:NameKind),M.lookup x=some k->∃y∈M,y.2=k:=fun M k=>by
   induction M with
   |nil=>intro h;cases h
   |cons p r ih =>
    intro h;rw [GQ] at h;split at h
    ·exact ⟨p,QI ..,Qo h⟩
    ·obtain ⟨y,hy,q⟩:=ih h;exact ⟨y,QC _ hy,q⟩
  rcases h with h|h
  ·obtain ⟨y,hy,q⟩:=lk _ _ h;exact (hL y hy).1 q
  ·obtain ⟨y,hy,q⟩:=lk _ _ h;exact (hL y hy).2 q
 refine ⟨hk,hn,hc,clos,(fun x c (h:([]:List (Str×Addr)).lookup x=some c)=>by cases h),fun x h=>absurd h (no x),fun _=>hl,fun σ i x v e1 e2=>?_⟩;have:=hs _ (QL e2);cases this
theorem Jt:(["sign"]:List Str).Nodup:=by decide +kernel
theorem Jl:(["check","part"]:List Str).Nodup:=by decide +kernel
theorem ZoG (z:Str):XG (.str z) [.str "he",.str "she",.str ""]=Up (.str z):=by
 unfold XG Up;rw [Q9];simp only [Rg,List.any_nil,YM,Bool.or_false,R6,Rr,GT];constructor
 ·rintro (h|h|h)
  ·exact .inl (.inl h.symm)
  ·exact .inl (.inr h.symm)
  ·exact .inr h.symm
 ·rintro ((h|h)|h)
  ·exact .inl h.symm
  ·exact .inr (.inl h.symm)
  ·exact .inr (.inr h.symm)
theorem Zc8 (x:Str):W8 (.str x)=(decide (1≤x.length)&&decide (x.length≤8)&&x.cps.toList.all W5):=rfl
theorem Zn7 (i:Int):ZcS (.int i)=(decide (1≤i)&&decide (i≤10 ^ 18)):=rfl
theorem ZhB:∀{cs:List Chk} {ts:List Vk},ts.length=cs.length->(ZP cs ts).length=cs.length
 |[],[],_=>rfl
 |c::cs,t::ts,h=>by
  show (ZP cs ts).length+1=cs.length+1;rw [ZhB (by simpa using h)]
theorem ZiR:∀{cs:List Chk} {ts:List Vk} {i:Nat} {y:V},ts.length=cs.length->((ZP cs ts).map V.bl)[i]?=some y->∃c t,cs[i]?=some c∧ts[i]?=some t∧y=.bl (Je c t):=by
 intro cs
 induction cs with
 |nil =>
  intro ts i y h e;cases ts with
  |nil=>simp [ZP] at e
  |cons t ts=>simp at h
 |cons c cs ih =>
  intro ts i y h e;cases ts with
  |nil=>simp at h
  |cons t ts =>
   cases i with
   |zero=>exact ⟨c,t,rfl,rfl,by simpa [ZP] using e.symm⟩
   |succ i =>
    obtain ⟨c',t',e1,e2,e3⟩:=ih (ts:=ts) (i:=i) (y:=y) (by simpa using h) (by simpa [ZP] using e);exact ⟨c',t',by simpa using e1,by simpa using e2,e3⟩
theorem ZeB {α:Type} {f:α->Bool}:∀{l:List α} {i:Nat} {p:α},l[i]?=some p->(∀j,j<i->∀p',l[j]?=some p'->f p'=false)->f p=true->l.find? f=some p
 |x::l,0,p,e,_,h=>by
  have e':x=p:=by simpa using e
  subst e';rw [Rw,h]
 |x::l,i+1,p,e,b,h=>by
  rw [Rw,b 0 (by omega) x rfl];exact ZeB (l:=l) (i:=i) (by simpa using e) (fun j hj p' e'=>b (j+1) (by omega) p' (by simpa using e')) h
theorem ZnA {w:Str} {i:Nat} {p:Str×List Chk} (e:WJ[i]?=some p) (b:∀j,j<i->∀p',WJ[j]?=some p'->w≠p'.1) (h:w=p.1):Vm w=some p.2:=by
 unfold Vm;rw [ZeB e (fun j hj p' e'=>Qm (b j hj p' e')) (Qw h)];rfl
theorem ZiX {w:Str} (b:∀j,j<6->∀p',WJ[j]?=some p'->w≠p'.1):Vm w=none:=by
 unfold Vm;rw [NB.mpr]
 ·rfl
 ·intro p hp;obtain ⟨j,hj,e⟩:=List.getElem_of_mem hp;have:=b j hj p (by rw [←e];exact Qx hj);simpa using this
theorem ZjO:∀p∈WJ,p.2.length≤10:=by decide +kernel
theorem Zlt {K:W.Frag} {mg:Str->Option Value} (T:Tx K w mg) {i:Nat} {p:Str×List Chk} (e:WJ[i]?=some p) :
  ∃P G,[V.ref T.p0,.ref T.p1,.ref T.p2,.ref T.p3,.ref T.p4,.ref T.p5][i]?=some (.ref P)∧(∀H,SqT K H P [.str p.1,.ref G])∧∀H,SqT K H G (p.2.map fun c=>.ref (T.ad c)):=by
 match i,e with
 |0,e=>cases e;exact ⟨_,_,rfl,T.sp0,T.sg0⟩
 |1,e=>cases e;exact ⟨_,_,rfl,T.sp1,T.sg1⟩
 |2,e=>cases e;exact ⟨_,_,rfl,T.sp2,T.sg2⟩
 |3,e=>cases e;exact ⟨_,_,rfl,T.sp3,T.sg3⟩
 |4,e=>cases e;exact ⟨_,_,rfl,T.sp4,T.sg4⟩
 |5,e=>cases e;exact ⟨_,_,rfl,T.sp5,T.sg5⟩
 |n+6,e=>cases e
theorem Zla (x:V) (xs:List V):Yi (x::xs) (some 1) none=xs:=by
 unfold Yi
 have e:HT.sIx (x::xs).length 0 (some 1)=1:=by
  show HT.sIx (x::xs).length 0 (some ((1:Nat):Int))=1;rw [HT.sIx_nat,QK];omega
 rw [e];show (xs.take ((x::xs).length-1))=xs;simp
theorem few {n:Nat} (h:Nat.ble n 1000=true):n≤sizeLine:=QN (ZK (Qz h))
theorem Z4 {b:Bool} {A B:Prop} (e:b=true) (h:A):if b=true then A else B:=by rw [Qb e];exact h
theorem Zv {b:Bool} {A B:Prop} (e:b=false) (h:B):if b=true then A else B:=by rw [Qa (by rw [e];decide)];exact h
theorem Ys {b:Bool} {A B:Prop} (h1:b=true->A) (h2:b=false->B):if b=true then A else B:=by
 cases b with
 |true=>exact Z1 (h1 rfl)
 |false=>exact ZW (h2 rfl)
section
variable {K:W.Frag} {H:Hp} {xs ys:List V} {ts:List Vk} {a b:Addr} {Q:VK}
theorem J9 {lo hi:Option Int} (ha:SqT K H a xs) (hn:¬(HT.sIx xs.length 0 lo=0∧HT.sIx xs.length xs.length hi=xs.length)) (h:∀H' p,Same H H'->SqT K H' p (Yi xs lo hi)->Q (.ref p) H'):Zem K (.ref a) lo hi H Q :=
 ⟨a,xs,rfl,ha,hn,fun p np=>h _ p (Zl np) (.of Zf)⟩
end
theorem Zl0 {x:V} {xs:List V}:∃y,Yt (x::xs) (-1)=some y∧(x::xs)[xs.length]?=some y:=by
 obtain ⟨ys,y,e⟩:∃ys y,x::xs=ys++[y]:=⟨(x::xs).dropLast,(x::xs).getLast (by simp),(NC (by simp)).symm⟩;refine ⟨y,by rw [e];exact Zaf ys y,?_⟩
 have hl:xs.length=ys.length:=by
  have:=Qy List.length e;simp at this;omega
 rw [e,hl];simp
theorem Xk {x y:Str}:decide (V.str x=V.str y)=decide (x=y):=by
 rw [Q9];simp
inductive Ent where
 |born (n s:Str) (d:Int) (f m:Str)
 |taken (c t:Str) (d:Int)
 |union (a b:Str) (d:Int)
 |parted (a b:Str) (d:Int)
 |dead (n:Str) (d:Int)
 |given (g t:Str) (a d:Int)
noncomputable def Ent.row:Ent->List Zj
 |.born n s d f m=>[.inr "born",.inr n,.inr s,.inl d,.inr f,.inr m]
 |.taken c t d=>[.inr "taken",.inr c,.inr t,.inl d]
 |.union a b d=>[.inr "union",.inr a,.inr b,.inl d]
 |.parted a b d=>[.inr "parted",.inr a,.inr b,.inl d]
 |.dead n d=>[.inr "dead",.inr n,.inl d]
 |.given g t a d=>[.inr "given",.inr g,.inr t,.inl a,.inl d]
noncomputable def Ent.tie:Ent->Bool
 |.union ..=>true
 |.parted ..=>true
 |_=>false
noncomputable def Ent.named:Ent->List Str
 |.born _ _ _ f m=>[f,m].filter fun x:Str=>decide (x≠"")
 |.taken c t _=>[c,t]
 |.union a b _=>[a,b]
 |.parted a b _=>[a,b]
 |.dead n _=>[n]
 |.given g t _ _=>[g,t]
noncomputable def Ent.day:Ent->Int
 |.born _ _ d _ _=>d
 |.taken _ _ d=>d
 |.union _ _ d=>d
 |.parted _ _ d=>d
 |.dead _ d=>d
 |.given _ _ _ d=>d
def EntAt (K:W.Frag) (H:Hp) (v:V) (e:Ent):Prop:=∃a,v=.ref a∧SqT K H a (e.row.map kV)
theorem EntAt.mono {K:W.Frag} {H H':Hp} {v:V} {e:Ent} (h:EntAt K H v e) (s:Same H H'):EntAt K H' v e:=by
 obtain ⟨a,rfl,q⟩:=h;exact ⟨a,rfl,s.sqt q⟩
theorem Zm {r:List V} {j:Nat} {x:V} (h:r[j]?=some x):Yt r (j:Int)=some x:=XM h
noncomputable def UM (x:Str):Option V:=if x="" then none else some (.str x)
theorem Zfv:∀l:List Str,(l.map UM).filterMap id=(l.filter fun x:Str=>decide (x≠"")).map V.str
 |[]=>rfl
 |x::r=>by
  have ih:=Zfv r;by_cases h:x=""
  ·subst h;simp only [Qt,Q4,GU];simpa [UM] using ih
  ·simp only [Qt,Q4,GU];simpa [UM,h] using ih
theorem Z5 {H H1:Hp} {D:Addr} (s:Same H H1) (n:H1 D=none):H D=none:=by
 cases e:H D with
 |none=>rfl
 |some o=>rw [s D o e] at n;cases n
noncomputable def Ent.key:Ent->List Zj
 |.born n _ _ _ _=>[.inr "born",.inr n]
 |.taken c t _=>[.inr "taken",.inr c,.inr t]
 |.union a b d=>[.inr "tie",.inr a,.inr b,.inl d]
 |.parted a b d=>[.inr "tie",.inr a,.inr b,.inl d]
 |.dead n _=>[.inr "dead",.inr n]
 |.given g t _ d=>[.inr "given",.inr g,.inr t,.inl d]
noncomputable def Ent.bornName:Ent->Option Str
 |.born n _ _ _ _=>some n
 |_=>none
structure Bk where
 kept:List (Ent×Addr)
 links:List ((Str×Str)×Addr×List Str)
 ties:List ((Str×Str)×Addr×List (Int×Str))
 sums:List ((Str×Str)×Int)
noncomputable def ZQ (p:Str×Str):List Zj:=[.inr p.1,.inr p.2]
noncomputable def Bk.keptD (B:Bk):List (List Zj×V):=B.kept.map fun p=>(p.1.key,.ref p.2)
noncomputable def Bk.bornD (l:List (Ent×Addr)):List (Zj×V):=l.filterMap fun p=>p.1.bornName.map fun n=>(.inr n,.ref p.2)
noncomputable def Bk.linksD (B:Bk):List (List Zj×V):=B.links.map fun q=>(ZQ q.1,.ref q.2.1)
noncomputable def Bk.tiesD (B:Bk):List (List Zj×V):=B.ties.map fun q=>(ZQ q.1,.ref q.2.1)
noncomputable def Bk.sumsD (B:Bk):List (List Zj×V):=B.sums.map fun q=>(ZQ q.1,.int q.2)
noncomputable def WV (k bi li ti su:Addr):List (Str×V):=[("kept",.ref k),("births",.ref bi),("links",.ref li),("ties",.ref ti),("sums",.ref su)]
structure BkAt (K:W.Frag) (C:Addr) (H:Hp) (b dx k bi li ti su:Addr) (B:Bk):Prop where
 ob:H b=some (.ins C dx (WV k bi li ti su))
 ap:[k,li,ti,su].Nodup
 at':(bi::B.ties.map (·.2.1)).Nodup
 ke:H k=some (.dT B.keptD)
 bi:H bi=some (.dK (Bk.bornD B.kept))
 li:H li=some (.dT B.linksD)
 ti:H ti=some (.dT B.tiesD)
 su:H su=some (.dT B.sumsD)
 en:∀p∈B.kept,SqT K H p.2 (p.1.row.map kV)
 ll:∀q∈B.links,H q.2.1=some (.lst (q.2.2.map V.str))
 tt:∀q∈B.ties,H q.2.1=some (.dK (q.2.2.map fun r=>(.inl r.1,.str r.2)))
theorem BkAt.mono {K:W.Frag} {C:Addr} {H H':Hp} {b dx k bi li ti su:Addr} {B:Bk} (h:BkAt K C H b dx k bi li ti su B) (s:Same H H'):BkAt K C H' b dx k bi li ti su B :=
 ⟨s _ _ h.ob,h.ap,h.at',s _ _ h.ke,s _ _ h.bi,s _ _ h.li,s _ _ h.ti,s _ _ h.su,fun p hp=>s.sqt (h.en p hp),fun q hq=>s _ _ (h.ll q hq),fun q hq=>s _ _ (h.tt q hq)⟩
def BkHas (K:W.Frag) (C:Addr) (H:Hp) (v:V) (B:Bk):Prop:=∃b dx k bi li ti su,v=.ref b∧BkAt K C H b dx k bi li ti su B
theorem BkHas.mono {K:W.Frag} {C:Addr} {H H':Hp} {v:V} {B:Bk} (h:BkHas K C H v B) (s:Same H H'):BkHas K C H' v B:=by
 obtain ⟨b,dx,k,bi,li,ti,su,e,h⟩:=h;exact ⟨b,dx,k,bi,li,ti,su,e,h.mono s⟩
noncomputable def ZZ (n:Str):List (Ent×Addr)->Option (Ent×Addr)
 |[]=>none
 |p::r=>if p.1.bornName=some n then some p else ZZ n r
theorem Za0 {n:Str}:∀{l:List (Ent×Addr)} {p:Ent×Addr},ZZ n l=some p->p∈l∧p.1.bornName=some n
 |[],_,h=>by cases h
 |q::r,p,h=>by
  unfold ZZ at h;split at h
  ·cases h;exact ⟨QI ..,by assumption⟩
  ·obtain ⟨h1,h2⟩:=Za0 h;exact ⟨QC _ h1,h2⟩
theorem ZcV (n:Str):∀l:List (Ent×Addr),ZI (Bk.bornD l) (.inr n:Zj)=(ZZ n l).map fun p=>.ref p.2
 |[]=>rfl
 |p::r=>by
  have ih:=ZcV n r;unfold Bk.bornD ZZ;rw [Q4];cases h:p.1.bornName with
  |none =>
   simp only [Option.map_none];rw [Qa (by simp)];exact ih
  |some x =>
   simp only [GX];by_cases e:x=n
   ·subst e;rw [XV rfl,Qb rfl];rfl
   ·rw [X0 (fun q=>e (RX q)),Qa (fun q=>e (Qo q))];exact ih
theorem Zbt {k bi li ti su:Addr}:(WV k bi li ti su).lookup ("kept" : Str)=some (.ref k):=rfl
theorem Za8 {k bi li ti su:Addr}:(WV k bi li ti su).lookup ("births" : Str)=some (.ref bi):=rfl
theorem ZaD {k bi li ti su:Addr}:(WV k bi li ti su).lookup ("links" : Str)=some (.ref li):=rfl
theorem Zfe {k bi li ti su:Addr}:(WV k bi li ti su).lookup ("ties" : Str)=some (.ref ti):=rfl
theorem ZfK {k bi li ti su:Addr}:(WV k bi li ti su).lookup ("sums" : Str)=some (.ref su):=rfl
noncomputable def Zbc (B:Bk) (n:Str):Option (Str×Int):=match ZZ n B.kept with
 |some (.born _ s d _ _,_)=>some (s,d)
 |_=>none
noncomputable def X9 (B:Bk) (n:Str):Str:=((Zbc B n).map (·.1)).getD ""
noncomputable def Yh (B:Bk) (n:Str):Int:=((Zbc B n).map (·.2)).getD 0
theorem ZaW {B:Bk} {n n' s f m:Str} {d:Int} {p:Ent×Addr} (h:ZZ n B.kept=some p) (e:p.1=.born n' s d f m):X9 B n=s:=by
 obtain ⟨e',a⟩:=p;cases e;unfold X9 Zbc;rw [h];rfl
theorem Zae {B:Bk} {n n' s f m:Str} {d:Int} {p:Ent×Addr} (h:ZZ n B.kept=some p) (e:p.1=.born n' s d f m):Yh B n=d:=by
 obtain ⟨e',a⟩:=p;cases e;unfold Yh Zbc;rw [h];rfl
noncomputable def XF (B:Bk) (n s:Str) (d:Int):Bool:=decide (n="")||(decide (X9 B n=s)&&decide (Yh B n<d))
def Known (B:Bk) (n:Str):Prop:=ZZ n B.kept≠none
noncomputable def Wb (B:Bk) (e:Ent):Bool:=match e with
 |.born _ _ d f m=>XF B f "he" d&&XF B m "she" d
 |.taken c t d=>decide (c≠t)&&decide (Yh B t<Yh B c)&&e.named.all fun n=>decide (Yh B n≤d)
 |.dead n d=>decide (Yh B n≤d)
 |.union a b d=>decide (a≠b)&&e.named.all fun n=>decide (Yh B n≤d)
 |.parted a b d=>decide (a≠b)&&e.named.all fun n=>decide (Yh B n≤d)
 |.given a b _ d=>decide (a≠b)&&e.named.all fun n=>decide (Yh B n≤d)
theorem Wl {a b:TS} {D:Ends} {σ:St} {H:Hp} (J:St->Hp->Prop) (h1:∀nx,(∀σ H,J σ H->nx σ H)->a { D with nx:=nx } σ H) (h2:∀σ H,J σ H->b D σ H):JY a b D σ H:=h1 (b D) h2
noncomputable def Ent.isBorn:Ent->Bool
 |.born ..=>true
 |_=>false
noncomputable def Ent.same:Ent->Bool
 |.taken c t _=>decide (c=t)
 |.union a b _=>decide (a=b)
 |.parted a b _=>decide (a=b)
 |.given a b _ _=>decide (a=b)
 |_=>false
noncomputable def Ent.early (B:Bk):Ent->Bool
 |.taken c t _=>decide (Yh B c≤Yh B t)
 |_=>false
theorem Zbf {B:Bk} {e:Ent} (h:e.isBorn=false):Wb B e=(!e.same&&!e.early B&&e.named.all fun n=>decide (Yh B n≤e.day)):=by
 cases e with
 |born=>cases h
 |taken c t d =>
  unfold Wb Ent.same Ent.early;have h1:decide (c≠t)=!decide (c=t):=by simp
  have h2:decide (Yh B t<Yh B c)=!decide (Yh B c≤Yh B t):=by
   rw [Q9];simp
  simp only [h1,h2];rfl
 |dead n d =>
  simp [Wb,Ent.same,Ent.early,Ent.named,Ent.day];rfl
 |_ =>
  simp [Wb,Ent.same,Ent.early,Ent.day];rfl
theorem Zlh {k bi li ti su:Addr}:Zs "sums" (.ref su) (Zs "ties" (.ref ti) (Zs "links" (.ref li) (Zs "births" (.ref bi) (Zs "kept" (.ref k) []))))=WV k bi li ti su:=by
 rfl
noncomputable def Vd:Bk:=⟨[],[],[],[]⟩
theorem Ww {H:Hp} {b dx C p:Addr} {fs:List (Str×V)} (f:Str) (o:HO) (h:H b=some (.ins C dx fs)) (n:H p=none) :
  (Zc (Zc H p o) b (.ins C dx (Zs f (.ref p) fs))) b=some (.ins C dx (Zs f (.ref p) fs))∧(Zc (Zc H p o) b (.ins C dx (Zs f (.ref p) fs))) p=some o ∧
  (∀c u,H c=some u->c≠b->(Zc (Zc H p o) b (.ins C dx (Zs f (.ref p) fs))) c=some u)∧∀c,(Zc (Zc H p o) b (.ins C dx (Zs f (.ref p) fs))) c=none->H c=none:=by
 have pb:p≠b:=fun e=>by subst e;rw [h] at n;cases n
 refine ⟨Zf,(Zd pb).trans Zf,fun c u e cb=>(Zd cb).trans ((Zd (ZF e n)).trans e),fun c e=>?_⟩;by_cases cb:c=b
 ·subst cb;rw [Zf] at e;cases e
 rw [Zd cb] at e;by_cases cp:c=p
 ·subst cp;exact n
 rw [Zd cp] at e;exact e
noncomputable def Z2 (c:Str×Str):List ((Str×Str)×Addr×List Str)->Option (Addr×List Str)
 |[]=>none
 |q::r=>if q.1=c then some q.2 else Z2 c r
theorem VT {a b:Str×Str} (h:ZQ a=ZQ b):a=b:=by
 unfold ZQ at h;simp at h;exact Q7 h.1 h.2
theorem ZbF (c:Str×Str):∀l:List ((Str×Str)×Addr×List Str),ZI (l.map fun q=>(ZQ q.1,V.ref q.2.1)) (ZQ c)=(Z2 c l).map fun q=>.ref q.1
 |[]=>rfl
 |q::r=>by
  have ih:=ZbF c r;unfold Z2;rw [Qt];by_cases e:q.1=c
  ·subst e;rw [XV rfl,Qb rfl];rfl
  ·rw [X0 (fun z=>e (VT z)),Qa e];exact ih
theorem ZbT {c:Str×Str}:∀{l:List ((Str×Str)×Addr×List Str)} {x:Addr×List Str},Z2 c l=some x->∃q∈l,q.2=x
 |[],_,h=>by cases h
 |q::r,x,h=>by
  unfold Z2 at h;split at h
  ·cases h;exact ⟨q,QI ..,rfl⟩
  ·obtain ⟨z,hz,e⟩:=ZbT h;exact ⟨z,QC _ hz,e⟩
noncomputable def YA (B:Bk) (l n:Str):List Str:=((Z2 (l,n) B.links).map (·.2)).getD []
noncomputable def Xu:List Str:=["F","M","T","f","m","t","S"]
noncomputable def Ja (x:Str):Bool:=decide (x∈Xu)
theorem Zc5 (x:Str):∀l:List Str,XG (.str x) (l.map V.str)=decide (x∈l):=by
 intro l;unfold XG
 induction l with
 |nil=>rfl
 |cons y r ih =>
  rw [Qt,Rg,ih];by_cases h:x=y
  ·subst h;simp [YM]
  ·simp [YM,h,QY h]
theorem Zak {a b:Str} (h1:ZN a b=false) (h2:ZN b a=false):a=b:=by
 unfold ZN at h1 h2
 have e:a.cps.toList=b.cps.toList:=by
  have l1:=RU h1;have l2:=RU h2;exact List.le_antisymm (List.not_lt.mp l2) (List.not_lt.mp l1)
 obtain ⟨a⟩:=a;obtain ⟨b⟩:=b;have e2:a=b:=Array.toList_inj.mp e;rw [e2]
noncomputable def Ze (a b:Str):Str×Str:=if ZN b a=true then (b,a) else (a,b)
theorem ZeD {a b:Str} {zs:List Str} (hp:zs.Perm [a,b]) (hs:PyProof.Rows.sortedS zs=true):zs=[(Ze a b).1,(Ze a b).2]:=by
 have hl:=hp.length_eq
 match zs,hl with
 |[x,y],_ =>
  have hs2:ZN y x=false:=by
   have h3:(!PySem.Spec.ltCps y.cps.toList x.cps.toList&&true)=true:=hs;rw [PyProof.Rows.ltCps_eq] at h3;simpa [ZN] using h3
  have hm:x∈[a,b]:=hp.subset (by simp)
  have hp2:(x=a∧y=b)∨(x=b∧y=a):=by
   rcases Qh.mp hm with rfl|hm
   ·have:=hp.cons_inv;exact .inl ⟨rfl,by simpa using this⟩
   ·have e:x=b:=by simpa using hm
    subst e;have h4:[x,y].Perm [x,a]:=hp.trans (List.Perm.swap ..);have:=h4.cons_inv;exact .inr ⟨rfl,by simpa using this⟩
  unfold Ze;rcases hp2 with ⟨rfl,rfl⟩|⟨rfl,rfl⟩
  ·rw [hs2];rfl
  ·by_cases h:ZN x y=true
   ·rw [Qb h]
   ·rw [Qa h,Zak (Rj.mpr h) hs2]
noncomputable def Ent.told:Ent->Ent
 |.union a b d=>.union (Ze a b).1 (Ze a b).2 d
 |.parted a b d=>.parted (Ze a b).1 (Ze a b).2 d
 |e=>e
theorem Zjt (a b:Str):(if ZN b a=true then b else a)=(Ze a b).1:=by
 unfold Ze;by_cases h:ZN b a=true
 ·rw [Qb h,Qb h]
 ·rw [Qa h,Qa h]
theorem ZmY (a b:Str):(if ZN a b=true then b else a)=(Ze a b).2:=by
 unfold Ze;by_cases h:ZN b a=true
 ·rw [Qb h];by_cases h2:ZN a b=true
  ·have l1:b.cps.toList<a.cps.toList:=Q0 h;have l2:a.cps.toList<b.cps.toList:=Q0 h2;exact absurd l1 (ND l2)
  ·rw [Qa h2]
 ·rw [Qa h];by_cases h2:ZN a b=true
  ·rw [Qb h2]
  ·rw [Qa h2,Zak (Rj.mpr h) (Rj.mpr h2)]
noncomputable def J0:Zj->Vk
 |.inl i=>.int i
 |.inr x=>.str x
theorem ZbY {K:W.Frag} {H:Hp}:∀(l:List Zj),(∀x:Str,(.inr x:Zj)∈l->x.length≤100)->Vws K H (l.map kV) (l.map J0)
 |[],_=>trivial
 |.inl i::r,h=>⟨rfl,ZbY r fun x hx=>h x (QC _ hx)⟩
 |.inr y::r,h=>⟨⟨rfl,h y (QI ..)⟩,ZbY r fun x hx=>h x (QC _ hx)⟩
structure Ent.Ok (e:Ent):Prop where
 en:VS (e.row.map J0)=true
 sh:∀x:Str,(.inr x:Zj)∈e.row->x.length≤100
theorem Ent.row_len (e:Ent):(e.row.map J0).length≤10:=by
 cases e<;>exact Qz rfl
theorem Ent.Ok.tv {e:Ent} (h:e.Ok) {K:W.Frag} {H:Hp} {a:Addr} (hE:SqT K H a (e.row.map kV)):Tv K H (.ref a) (e.row.map J0):=⟨a,_,rfl,hE,ZbY _ h.sh⟩
inductive Rf where
 |full|person|twice|fit
noncomputable def Bk.full (B:Bk) (e:Ent):Bool:=decide (400≤B.kept.length)||(e.isBorn&&decide (60≤(Bk.bornD B.kept).length))
noncomputable def XY (B:Bk) (e:Ent):Option Rf :=
 if B.full e=true then some .full
 else if (e.named.all fun n=>(ZZ n B.kept).isSome)=false then some .person
 else if (ZI B.keptD e.told.key).isSome=true then some .twice
 else if Wb B e=true then none else some .fit
theorem Zg2 {B:Bk} {e:Ent} (kn:∀n∈e.named,Known B n):(e.named.all fun n=>(ZZ n B.kept).isSome)=true:=by
 rw [RQ];intro n hn;have:=kn n hn;unfold Known at this;exact NV.mpr this
theorem Zoc {B:Bk} {e:Ent} (h:B.full e=false) (kn:∀n∈e.named,Known B n) (t:(ZI B.keptD e.told.key).isSome=false) (f:Wb B e=true):XY B e=none:=by
 unfold XY;rw [h,Qa (by decide),Zg2 kn,Qa (by decide),t,Qa (by decide),f,Qb rfl]
theorem ZgC {a b c:Str} (h1:ZN a b=true) (h2:ZN b c=true):ZN a c=true:=by
 unfold ZN at *;exact Qw (List.lt_trans (Q0 h1) (Q0 h2))
theorem Zmx (a:Str):ZN a a=false:=by
 unfold ZN;exact Qm (List.lt_irrefl _)
noncomputable def YH (a b:Str):Bool:=!ZN b a
theorem Zgu {a b c:Str} (h1:YH a b=true) (h2:YH b c=true):YH a c=true:=by
 unfold YH at *;simp only [Nn] at *;cases h:ZN c a with
 |false=>rfl
 |true =>
  by_cases e:a=b
  ·subst e;rw [h] at h2;cases h2
  ·have hab:ZN a b=true:=by
    cases h3:ZN a b with
    |true=>rfl
    |false=>exact absurd (Zak h3 h1) e
   rw [ZgC h hab] at h2;cases h2
theorem Zpz (a b:Str):(YH a b||YH b a)=true:=by
 unfold YH;cases h:ZN b a with
 |false=>rfl
 |true =>
  cases h2:ZN a b with
  |false=>rfl
  |true=>exact absurd (ZgC h2 h) (by rw [Zmx a];decide)
noncomputable def ZB (l:List Str):List Str:=l.mergeSort YH
theorem WO (l:List Str):(ZB l).Perm l:=List.mergeSort_perm ..
theorem UP (l:List Str):(ZB l).Pairwise fun a b=>YH a b=true:=List.pairwise_mergeSort (le:=YH) (fun _ _ _=>Zgu) Zpz l
theorem ZcE:∀{l:List Str},PyProof.Rows.sortedS l=true->l.Pairwise fun a b=>YH a b=true
 |[],_=>.nil
 |[x],_=>.cons (by simp) .nil
 |x::y::r,h=>by
  have h':(!PySem.Spec.ltCps y.cps.toList x.cps.toList&&PyProof.Rows.risingS y r)=true:=h;rw [Rv] at h';obtain ⟨h1,h2⟩:=h';have ih:=ZcE (l:=y::r) h2
  have hxy:YH x y=true:=by
   rw [PyProof.Rows.ltCps_eq] at h1;exact h1
  refine .cons (fun z hz=>?_) ih;rcases Qh.mp hz with rfl|hz
  ·exact hxy
  ·exact Zgu hxy (NE ih hz)
theorem ZaT:∀{l m:List Str},l.Perm m->(l.Pairwise fun a b=>YH a b=true)->(m.Pairwise fun a b=>YH a b=true)->l=m
 |[],m,p,_,_=>p.nil_eq
 |x::l,[],p,_,_=>absurd p.length_eq (by simp)
 |x::l,y::m,p,h1,h2=>by
  have e:x=y:=by
   by_cases e:x=y
   ·exact e
   have hx:x∈m:=by
    have:x∈y::m:=p.subset (QI ..);rcases Qh.mp this with h|h
    ·exact absurd h e
    ·exact h
   have hy:y∈l:=by
    have:y∈x::l:=p.symm.subset (QI ..);rcases Qh.mp this with h|h
    ·exact absurd h.symm e
    ·exact h
   have a1:=NE h1 hy;have a2:=NE h2 hx;unfold YH at a1 a2;simp only [Nn] at a1 a2;exact Zak a2 a1
  subst e;rw [ZaT p.cons_inv (List.pairwise_cons.mp h1).2 (List.pairwise_cons.mp h2).2]
theorem Zfk {zs l:List Str} (hp:zs.Perm l) (hs:PyProof.Rows.sortedS zs=true):zs=ZB l:=ZaT (hp.trans (WO l).symm) (ZcE hs) (UP l)
structure But (S:List Addr) (H H':Hp):Prop where
 eq:∀a o,a∉S->H a=some o->H' a=some o
 al:∀a,H' a=none->H a=none
theorem But.of {H H':Hp} (S:List Addr) (s:Same H H'):But S H H':=⟨fun a o _ e=>s a o e,fun a n=>Z5 s n⟩
theorem But.trans {S:List Addr} {H H' H'':Hp} (h1:But S H H') (h2:But S H' H''):But S H H'':=⟨fun a o n e=>h2.eq a o n (h1.eq a o n e),fun a n=>h1.al a (h2.al a n)⟩
theorem But.put {S:List Addr} {H:Hp} {a:Addr} {o o':HO} (e:H a=some o) (h:a∈S):But S H (Zc H a o'):=by
 refine ⟨fun c u n q=>(Zd (fun z:c=a=>n (by rw [z];exact h))).trans q,fun c n=>?_⟩;by_cases z:c=a
 ·subst z;rw [Zf] at n;cases n
 ·rw [Zd z] at n;exact n
noncomputable def Zo {κ α:Type} [DecidableEq κ] (l:List (κ×α)) (c:κ) (x:α):List (κ×α) :=
 if (l.any fun q=>decide (q.1=c))=true then l.map (fun q=>if q.1=c then (q.1,x) else q) else l++[(c,x)]
theorem JV {κ κ' α:Type} [DecidableEq κ] [DecidableEq κ'] {f:κ->κ'} (hf:∀a b,f a=f b->a=b) (g:α->V) (l:List (κ×α)) (c:κ) (x:α) :
  Yp (l.map fun q=>(f q.1,g q.2)) (f c) (g x)=(Zo l c x).map fun q=>(f q.1,g q.2):=by
 have hd:∀a:κ,decide (f a=f c)=decide (a=c):=fun a=>by
  by_cases e:a=c
  ·subst e;simp
  ·rw [Qm e,Qm (fun z=>e (hf _ _ z))]
 unfold Yp Zo
 have e1:((l.map fun q=>(f q.1,g q.2)).any fun kv=>decide (kv.1=f c))=l.any fun q=>decide (q.1=c):=by
  rw [List.any_map];exact Qy (fun z=>l.any z) (funext fun q=>hd q.1)
 rw [e1];by_cases h:(l.any fun q=>decide (q.1=c))=true
 ·rw [Qb h,Qb h,QU,QU];refine Ga fun q _=>?_;show (if f q.1=f c then (f q.1,g x) else (f q.1,g q.2))=(fun q=>(f q.1,g q.2)) (if q.1=c then (q.1,x) else q);by_cases e:q.1=c
  ·rw [Qb e,Qb (by rw [e])]
  ·rw [Qa e,Qa (fun z=>e (hf _ _ z))]
 ·rw [Qa h,Qa h,Qs];rfl
theorem Zaz {κ α:Type} [DecidableEq κ] {l:List (κ×α)} {c:κ} {x:α} {q:κ×α} (h:q∈Zo l c x):q=(c,x)∨q∈l:=by
 unfold Zo at h;split at h
 ·obtain ⟨p,hp,e⟩:=Qg.mp h;split at e
  ·rename_i pc;subst e;exact .inl (by rw [pc])
  ·subst e;exact .inr hp
 ·rcases Ql.mp h with h|h
  ·exact .inr h
  ·exact .inl (by simpa using h)
theorem Za2 {k li ti su:Addr} (h:[k,li,ti,su].Nodup):k≠li∧k≠ti∧k≠su∧li≠ti∧li≠su∧ti≠su:=by
 simp at h;exact ⟨h.1.1,h.1.2.1,h.1.2.2,h.2.1.1,h.2.1.2,h.2.2⟩
theorem Z3 {H:Hp} {a c:Addr} {o u:HO} (h1:H a=some o) (h2:H c=some u) (n:o≠u):a≠c:=fun e=>by
 subst e;rw [h1] at h2;exact n (Qo h2)
theorem X4 {K:W.Frag} {H:Hp} {a c:Addr} {xs:List V} {o o':HO} (h:SqT K H a xs) (e:H c=some o) (no:∀ys,o≠.tup ys) (nf:∀x ys,o≠.frz x ys):SqT K (Zc H c o') a xs:=by
 rcases h with h|h
 ·rcases h with h|⟨x,h⟩
  ·exact .inl (.inl ((Zd (Z3 h e (fun z=>no _ z.symm))).trans h))
  ·exact .inl (.inr ⟨x,(Zd (Z3 h e (fun z=>nf _ _ z.symm))).trans h⟩)
 ·exact .inr h
theorem BkAt.links {K:W.Frag} {C:Addr} {H:Hp} {b dx k bi li ti su:Addr} {B:Bk} (h:BkAt K C H b dx k bi li ti su B) {l:List ((Str×Str)×Addr×List Str)}
  (hl:∀q∈l,H q.2.1=some (.lst (q.2.2.map V.str))):BkAt K C (Zc H li (.dT (l.map fun q=>(ZQ q.1,V.ref q.2.1)))) b dx k bi li ti su { B with links:=l }:=by
 obtain ⟨n1,n2,n3,n4,n5,n6⟩:=Za2 h.ap;have dk:∀{c:Addr} {z:List (Zj×V)},H c=some (.dK z)->c≠li:=fun e=>Z3 e h.li (fun z=>by cases z)
 exact ⟨(Zd (Z3 h.ob h.li (fun z=>by cases z))).trans h.ob,h.ap,h.at',(Zd n1).trans h.ke,(Zd (dk h.bi)).trans h.bi,Zf,(Zd n4.symm).trans h.ti,(Zd n5.symm).trans h.su,
  fun p hp=>X4 (h.en p hp) h.li (fun _ z=>by cases z) (fun _ _ z=>by cases z),fun q hq=>(Zd (Z3 (hl q hq) h.li (fun z=>by cases z))).trans (hl q hq),fun q hq=>(Zd (dk (h.tt q hq))).trans (h.tt q hq)⟩
noncomputable def lk (ls:List ((Str×Str)×Addr×List Str)) (c:Str×Str):List Str:=((Z2 c ls).map (·.2)).getD []
noncomputable def Z0 (f:Str×Str->List Str) (c:Str×Str) (m:Str):Str×Str->List Str:=fun x=>if x=c then ZB (f c++[m]) else f x
theorem ZfG {c:Str×Str}:∀{l:List ((Str×Str)×Addr×List Str)},(l.any fun q=>decide (q.1=c))=false->Z2 c l=none
 |[],_=>rfl
 |q::r,h=>by
  rw [Rg,Bool.or_eq_false_iff] at h;unfold Z2;rw [Qa (RU h.1)];exact ZfG h.2
theorem ZeF {c:Str×Str}:∀{l m:List ((Str×Str)×Addr×List Str)},Z2 c (l++m)=(Z2 c l).or (Z2 c m)
 |[],m=>by simp [Z2]
 |q::r,m=>by
  show (if q.1=c then some q.2 else Z2 c (r++m))=(if q.1=c then some q.2 else Z2 c r).or (Z2 c m);by_cases e:q.1=c
  ·rw [Qb e,Qb e];rfl
  ·rw [Qa e,Qa e];exact ZeF
theorem Zgn {c d:Str×Str} {x:Addr×List Str}:∀{l:List ((Str×Str)×Addr×List Str)},Z2 d (l.map fun q=>if q.1=c then (q.1,x) else q)=if d=c then (Z2 c l).map (fun _=>x) else Z2 d l
 |[]=>by by_cases e:d=c<;>simp [Z2,e]
 |q::r=>by
  have ih:=Zgn (c:=c) (d:=d) (x:=x) (l:=r);rw [Qt];by_cases e:q.1=c
  ·rw [Qb e];by_cases e2:d=c
   ·subst e2;rw [Qb rfl];unfold Z2;rw [Qb e,Qb e];rfl
   ·rw [Qa e2] at ih ⊢;unfold Z2;rw [Qa (fun z=>e2 (z.symm.trans e)),Qa (fun z=>e2 (z.symm.trans e))];exact ih
  ·rw [Qa e];by_cases e2:d=c
   ·subst e2;rw [Qb rfl] at ih ⊢;unfold Z2;rw [Qa e,Qa e];exact ih
   ·rw [Qa e2] at ih ⊢;unfold Z2;by_cases e3:q.1=d
    ·rw [Qb e3,Qb e3]
    ·rw [Qa e3,Qa e3];exact ih
theorem ZeR (l:List ((Str×Str)×Addr×List Str)) (c d:Str×Str) (x:Addr×List Str):Z2 d (Zo l c x)=if d=c then some x else Z2 d l:=by
 unfold Zo;by_cases h:(l.any fun q=>decide (q.1=c))=true
 ·rw [Qb h,Zgn];by_cases e:d=c
  ·rw [Qb e,Qb e];cases hk:Z2 c l with
   |some y=>rfl
   |none =>
    exfalso
    have:∀{l:List ((Str×Str)×Addr×List Str)},Z2 c l=none->(l.any fun q=>decide (q.1=c))=false:=by
     intro l
     induction l with
     |nil=>intro _;rfl
     |cons q r ih =>
      intro hn;unfold Z2 at hn;by_cases e:q.1=c
      ·rw [Qb e] at hn;cases hn
      ·rw [Qa e] at hn;rw [Rg,ih hn,Qm e];rfl
    rw [this hk] at h;cases h
  ·rw [Qa e,Qa e]
 ·rw [Qa h,ZeF];by_cases e:d=c
  ·subst e;rw [Qb rfl,ZfG (Rj.mpr h)];simp [Z2]
  ·rw [Qa e];cases Z2 d l with
   |some y=>rfl
   |none=>simp [Z2,QY e]
theorem Vi (l:List ((Str×Str)×Addr×List Str)) (c d:Str×Str) (D:Addr) (m:Str):lk (Zo l c (D,ZB (lk l c++[m]))) d=Z0 (lk l) c m d:=by
 unfold lk Z0;rw [ZeR];by_cases e:d=c
 ·rw [Qb e,Qb e];rfl
 ·rw [Qa e,Qa e]
theorem XT {κ α:Type} [DecidableEq κ] (l:List (κ×α)) (c:κ) (x:α):(Zo l c x).length≤l.length+1:=by
 unfold Zo;split
 ·rw [Qd];omega
 ·rw [Qn];exact Qf _
theorem Uj (B:Bk) (l n:Str):YA B l n=lk B.links (l,n):=rfl
noncomputable def Xl (F:Str×Str->List Str) (n f m:Str):Str×Str->List Str :=
 let F1:=if f="" then F else Z0 (Z0 F ("F",n) f) ("f",f) n
 if m="" then F1 else Z0 (Z0 F1 ("M",n) m) ("m",m) n
theorem JH {F:Str×Str->List Str} {c d:Str×Str} {m:Str} (h:d.1≠c.1):Z0 F c m d=F d:=Qa fun e=>h (by rw [e])
theorem Jz {F G:Str×Str->List Str} (h:∀c,F c=G c) (c:Str×Str) (m:Str) (d:Str×Str):Z0 F c m d=Z0 G c m d:=by
 unfold Z0;rw [h c,h d]
theorem Zpk (l:List (Ent×Addr)) (n s:Str) (d:Int) (f m:Str) (a:Addr):Bk.bornD (l++[(.born n s d f m,a)])=Bk.bornD l++[(.inr n,.ref a)]:=by
 unfold Bk.bornD;rw [R7];rfl
theorem ZlI (l:List (Ent×Addr)):(Bk.bornD l).length≤l.length:=Nw ..
theorem But.mono {S S':List Addr} {H H':Hp} (h:But S H H') (i:∀a∈S,a∈S'):But S' H H':=⟨fun a o n e=>h.eq a o (fun z=>n (i a z)) e,h.al⟩
noncomputable def ZaU (l:List (Ent×Addr)):List (Str×V):=l.filterMap fun p=>p.1.bornName.map fun n=>(n,.ref p.2)
theorem ZjP (l:List (Ent×Addr)):Bk.bornD l=(ZaU l).map fun p=>(.inr p.1,p.2):=by
 unfold Bk.bornD ZaU;rw [List.map_filterMap]
 congr 1
 funext p
 cases p.1.bornName<;>rfl
noncomputable def WM (l:List (Ent×Addr)):List Str:=l.filterMap fun p=>p.1.bornName
theorem Zot (l:List (Ent×Addr)):(ZaU l).map (·.1)=WM l:=by
 unfold WM ZaU;rw [List.map_filterMap]
 congr 1
 funext p
 cases p.1.bornName<;>rfl
def Grows (H:Hp) (ls ls':List ((Str×Str)×Addr×List Str)):Prop:=∀q∈ls',(∃p∈ls,p.2.1=q.2.1)∨H q.2.1=none
theorem Grows.refl (H:Hp) (ls:List ((Str×Str)×Addr×List Str)):Grows H ls ls:=fun q hq=>.inl ⟨q,hq,rfl⟩
theorem Grows.put {H:Hp} {ls ls':List ((Str×Str)×Addr×List Str)} {c:Str×Str} {D:Addr} {x:List Str} (g:Grows H ls ls') (n:H D=none):Grows H ls (Zo ls' c (D,x)):=fun q hq=>by
 rcases Zaz hq with rfl|hq
 ·exact .inr n
 ·exact g q hq
theorem Grows.back {H H':Hp} {ls ls':List ((Str×Str)×Addr×List Str)} (g:Grows H' ls ls') (al:∀a,H' a=none->H a=none):Grows H ls ls':=fun q hq=>(g q hq).imp id (al _)
noncomputable def ZC {κ α:Type} [DecidableEq κ] (c:κ):List (κ×α)->Option α
 |[]=>none
 |q::r=>if q.1=c then some q.2 else ZC c r
theorem Zeu {κ α:Type} [DecidableEq κ] {c:κ}:∀{l:List (κ×α)},(l.any fun q=>decide (q.1=c))=false->ZC c l=none
 |[],_=>rfl
 |q::r,h=>by
  rw [Rg,Bool.or_eq_false_iff] at h;unfold ZC;rw [Qa (RU h.1)];exact Zeu h.2
theorem Zbi {κ α:Type} [DecidableEq κ] {c:κ}:∀{l:List (κ×α)},ZC c l=none->(l.any fun q=>decide (q.1=c))=false
 |[],_=>rfl
 |q::r,h=>by
  unfold ZC at h;by_cases e:q.1=c
  ·rw [Qb e] at h;cases h
  ·rw [Qa e] at h;rw [Rg,Zbi h,Qm e];rfl
theorem ZaG {κ α:Type} [DecidableEq κ] {c:κ}:∀{l m:List (κ×α)},ZC c (l++m)=(ZC c l).or (ZC c m)
 |[],m=>by simp [ZC]
 |q::r,m=>by
  show (if q.1=c then some q.2 else ZC c (r++m))=(if q.1=c then some q.2 else ZC c r).or (ZC c m);by_cases e:q.1=c
  ·rw [Qb e,Qb e];rfl
  ·rw [Qa e,Qa e];exact ZaG
theorem ZgF {κ α:Type} [DecidableEq κ] {c d:κ} {x:α}:∀{l:List (κ×α)},ZC d (l.map fun q=>if q.1=c then (q.1,x) else q)=if d=c then (ZC c l).map (fun _=>x) else ZC d l
 |[]=>by by_cases e:d=c<;>simp [ZC,e]
 |q::r=>by
  have ih:=ZgF (c:=c) (d:=d) (x:=x) (l:=r);rw [Qt];by_cases e:q.1=c
  ·rw [Qb e];by_cases e2:d=c
   ·subst e2;rw [Qb rfl];unfold ZC;rw [Qb e,Qb e];rfl
   ·rw [Qa e2] at ih ⊢;unfold ZC;rw [Qa (fun z=>e2 (z.symm.trans e)),Qa (fun z=>e2 (z.symm.trans e))];exact ih
  ·rw [Qa e];by_cases e2:d=c
   ·subst e2;rw [Qb rfl] at ih ⊢;unfold ZC;rw [Qa e,Qa e];exact ih
   ·rw [Qa e2] at ih ⊢;unfold ZC;by_cases e3:q.1=d
    ·rw [Qb e3,Qb e3]
    ·rw [Qa e3,Qa e3];exact ih
theorem ZgZ {κ α:Type} [DecidableEq κ] (l:List (κ×α)) (c d:κ) (x:α):ZC d (Zo l c x)=if d=c then some x else ZC d l:=by
 unfold Zo;by_cases h:(l.any fun q=>decide (q.1=c))=true
 ·rw [Qb h,ZgF];by_cases e:d=c
  ·rw [Qb e,Qb e];cases hk:ZC c l with
   |some y=>rfl
   |none=>rw [Zbi hk] at h;cases h
  ·rw [Qa e,Qa e]
 ·rw [Qa h,ZaG];by_cases e:d=c
  ·subst e;rw [Qb rfl,Zeu (Rj.mpr h)];simp [ZC]
  ·rw [Qa e];cases ZC d l with
   |some y=>rfl
   |none=>simp [ZC,QY e]
theorem Ua {κ α:Type} [DecidableEq κ] {c:κ}:∀{l:List (κ×α)} {x:α},ZC c l=some x->(c,x)∈l
 |[],_,h=>by cases h
 |q::r,x,h=>by
  unfold ZC at h;by_cases e:q.1=c
  ·rw [Qb e] at h;cases h;rw [←e];exact QI ..
  ·rw [Qa e] at h;exact QC _ (Ua h)
theorem Zal {κ κ' α:Type} [DecidableEq κ] [DecidableEq κ'] {f:κ->κ'} (hf:∀a b,f a=f b->a=b) (g:α->V) (c:κ):∀l:List (κ×α),ZI (l.map fun q=>(f q.1,g q.2)) (f c)=(ZC c l).map g
 |[]=>rfl
 |q::r=>by
  have ih:=Zal hf g c r;unfold ZC;rw [Qt];by_cases e:q.1=c
  ·subst e;rw [XV rfl,Qb rfl];rfl
  ·rw [X0 (fun z=>e (hf _ _ z)),Qa e];exact ih
noncomputable def Yy (B:Bk) (c:Str×Str):List (Int×Str):=((ZC c B.ties).map (·.2)).getD []
noncomputable def YI (l:List (Int×Str)):Bool:=match (l.map (·.1)).max? with
 |none=>false
 |some m=>decide (ZC m l=some ("union" : Str))
noncomputable def Zar (B:Bk) (a b:Str):Bool:=YI (Yy B (Ze a b))
noncomputable def YN (l:List (Int×Str)):List (Zj×V):=l.map fun r=>(.inl r.1,.str r.2)
theorem Zgs:∀a b:Int,(.inl a:Zj)=.inl b->a=b:=fun _ _ h=>Sum.inl.inj h
theorem ZlX {l:List (Int×Str)} {m:Int} (h:m∈l.map (·.1)):∃x,ZC m l=some x:=by
 cases e:ZC m l with
 |some x=>exact ⟨x,rfl⟩
 |none =>
  obtain ⟨q,hq,rfl⟩:=Qg.mp h;have:=Zbi e;rw [G9] at this;exact absurd (Qw rfl) (this q hq)
theorem ZhA {l:List (Int×Str)} {m:Int} {x:Str} (hm:m∈l.map (·.1)) (hx:∀y∈l.map (·.1),y≤m) (e:ZC m l=some x):YI l=decide (x="union"):=by
 have h:(l.map (·.1)).max?=some m:=List.max?_eq_some_iff.mpr ⟨hm,hx⟩;unfold YI;rw [h];show decide (ZC m l=some ("union" : Str))=_;rw [e];simp
theorem Zcb (a b:Str):Ze a b=Ze b a:=by
 unfold Ze;by_cases h:ZN b a=true
 ·by_cases h2:ZN a b=true
  ·have l1:b.cps.toList<a.cps.toList:=Q0 h;have l2:a.cps.toList<b.cps.toList:=Q0 h2;exact absurd l1 (ND l2)
  ·rw [Qb h,Qa h2]
 ·by_cases h2:ZN a b=true
  ·rw [Qa h,Qb h2]
  ·rw [Qa h,Qa h2,Zak (Rj.mpr h) (Rj.mpr h2)]
noncomputable def ZH (F:Str×Str->List Str) (st:Bool) (x y:Str):Str×Str->List Str:=fun c =>
 if c=(("S",x):Str×Str) then (if st=true then ZB ((F c).filter (fun n=>decide (n≠y))++[y]) else (F c).filter fun n=>decide (n≠y)) else F c
noncomputable def YU (ts:List ((Str×Str)×Addr×List (Int×Str))) (c:Str×Str):List (Int×Str):=((ZC c ts).map (·.2)).getD []
theorem Zoy (B:Bk) (c:Str×Str):Yy B c=YU B.ties c:=rfl
theorem Zeb {ts:List ((Str×Str)×Addr×List (Int×Str))} {c:Str×Str} {d:Addr} {l l':List (Int×Str)} (n:(ts.map (·.1)).Nodup) (h:ZC c ts=some (d,l)):(Zo ts c (d,l')).map (·.2.1)=ts.map (·.2.1)∧(Zo ts c (d,l')).map (·.1)=ts.map (·.1):=by
 have an:(ts.any fun q=>decide (q.1=c))=true:=by
  rw [Gs];exact ⟨_,Ua h,Qw rfl⟩
 unfold Zo;rw [Qb an,QU,QU];constructor
 ·refine Ga fun q hq=>?_;show (if q.1=c then (q.1,(d,l')) else q).2.1=q.2.1;by_cases e:q.1=c
  ·rw [Qb e]
   have:q.2=(d,l):=by
    have go:∀{ts:List ((Str×Str)×Addr×List (Int×Str))},(ts.map (·.1)).Nodup->ZC c ts=some (d,l)->q∈ts->q.2=(d,l):=by
     intro ts
     induction ts with
     |nil=>intro _ _ h;cases h
     |cons p r ih =>
      intro n f m;rw [Qt,QO] at n;unfold ZC at f;by_cases e2:p.1=c
      ·rw [Qb e2] at f;rcases Qh.mp m with rfl|m
       ·exact Qo f
       ·exact absurd (Qg.mpr ⟨q,m,e.trans e2.symm⟩) n.1
      ·rw [Qa e2] at f;rcases Qh.mp m with rfl|m
       ·exact absurd e e2
       ·exact ih n.2 f m
    exact go n h hq
   rw [this]
  ·rw [Qa e]
 ·refine Ga fun q hq=>?_;show (if q.1=c then (q.1,(d,l')) else q).1=q.1;split<;>rfl
theorem BkAt.newTie {K:W.Frag} {C:Addr} {H:Hp} {b dx k bi li ti su z:Addr} {B:Bk} (h:BkAt K C H b dx k bi li ti su B) (nz:H z=some (.dK [])) (fr:z≠bi∧∀q∈B.ties,q.2.1≠z) (c:Str×Str) :
  BkAt K C (Zc H ti (.dT (B.tiesD++[(ZQ c,.ref z)]))) b dx k bi li ti su { B with ties:=B.ties++[(c,z,[])] }:=by
 obtain ⟨n1,n2,n3,n4,n5,n6⟩:=Za2 h.ap;have dk:∀{a:Addr} {w:List (Zj×V)},H a=some (.dK w)->a≠ti:=fun e=>Z3 e h.ti (fun z=>by cases z)
 refine ⟨(Zd (Z3 h.ob h.ti (fun z=>by cases z))).trans h.ob,h.ap,?_,(Zd n2).trans h.ke,(Zd (dk h.bi)).trans h.bi,(Zd n4).trans h.li,?_,(Zd n6.symm).trans h.su,fun p hp=>X4 (h.en p hp) h.ti (fun _ z=>by cases z) (fun _ _ z=>by cases z),
  fun q hq=>(Zd (Z3 (h.ll q hq) h.ti (fun z=>by cases z))).trans (h.ll q hq),fun q hq=>?_⟩
 ·show (bi::(B.ties++[((c,z,[]):(Str×Str)×Addr×List (Int×Str))]).map (·.2.1)).Nodup;rw [Qs,←List.cons_append,QW];refine ⟨h.at',by simp,fun a ha x hx e=>?_⟩;have ex:x=z:=by simpa using hx
  subst ex e;rcases Qh.mp ha with rfl|ha
  ·exact fr.1 rfl
  ·obtain ⟨q,hq,rfl⟩:=Qg.mp ha;exact fr.2 q hq rfl
 ·rw [Zf];show some (HO.dT _)=some (.dT ((B.ties++[((c,z,[]):(Str×Str)×Addr×List (Int×Str))]).map fun q=>(ZQ q.1,V.ref q.2.1)));rw [Qs];rfl
 ·rcases Ql.mp hq with hq|hq
  ·exact (Zd (dk (h.tt q hq))).trans (h.tt q hq)
  ·have e:q=(c,z,[]):=by simpa using hq
   subst e;exact (Zd (dk nz)).trans nz
theorem BkAt.putTie {K:W.Frag} {C:Addr} {H:Hp} {b dx k bi li ti su d:Addr} {B:Bk} {c:Str×Str} {l:List (Int×Str)} (h:BkAt K C H b dx k bi li ti su B) (n:(B.ties.map (·.1)).Nodup) (f:ZC c B.ties=some (d,l)) (l':List (Int×Str)) :
  BkAt K C (Zc H d (.dK (YN l'))) b dx k bi li ti su { B with ties:=Zo B.ties c (d,l') }:=by
 have hm:=Ua f;have hd:H d=some (.dK (YN l)):=h.tt _ hm;have at2:=h.at';rw [QO] at at2;have bd:bi≠d:=fun e=>at2.1 (Qg.mpr ⟨_,hm,e.symm⟩);have dt:∀{a:Addr} {w:List (List Zj×V)},H a=some (.dT w)->a≠d:=fun e=>Z3 e hd (fun z=>by cases z);obtain ⟨pa1,pa2⟩:=Zeb (l':=l') n f
 refine ⟨(Zd (Z3 h.ob hd (fun z=>by cases z))).trans h.ob,h.ap,?_,(Zd (dt h.ke)).trans h.ke,(Zd bd).trans h.bi,(Zd (dt h.li)).trans h.li,?_,(Zd (dt h.su)).trans h.su,fun p hp=>X4 (h.en p hp) hd (fun _ z=>by cases z) (fun _ _ z=>by cases z),
  fun q hq=>(Zd (Z3 (h.ll q hq) hd (fun z=>by cases z))).trans (h.ll q hq),fun q hq=>?_⟩
 ·show (bi::(Zo B.ties c (d,l')).map (·.2.1)).Nodup;rw [pa1];exact h.at'
 ·have e:(Zo B.ties c (d,l')).map (fun q=>(ZQ q.1,V.ref q.2.1))=B.tiesD:=by
   have e1:(fun q:(Str×Str)×Addr×List (Int×Str)=>(ZQ q.1,V.ref q.2.1))=(fun p:(Str×Str)×Addr=>(ZQ p.1,V.ref p.2))∘fun q=>(q.1,q.2.1):=rfl
   have e2:∀ts:List ((Str×Str)×Addr×List (Int×Str)),ts.map (fun q=>(q.1,q.2.1))=(ts.map (·.1)).zip (ts.map (·.2.1)):=fun ts=>by
    induction ts with
    |nil=>rfl
    |cons q r ih=>simp [ih]
   unfold Bk.tiesD;rw [e1,←QU,←QU,e2,e2,pa1,pa2]
  rw [Zd (dt h.ti)];show H ti=some (.dT ((Zo B.ties c (d,l')).map fun q=>(ZQ q.1,V.ref q.2.1)));rw [e];exact h.ti
 ·rcases Zaz hq with rfl|hq2
  ·exact Zf
  ·by_cases e:q.2.1=d
   ·-- the same address: the same pair
    have:q=(c,d,l)∨q=(c,d,l'):=by
     have hnd:=(QO.mp h.at').2
     have go:∀{ts:List ((Str×Str)×Addr×List (Int×Str))},(ts.map (·.2.1)).Nodup->(c,d,l)∈ts->q∈ts->q=(c,d,l):=by
      intro ts
      induction ts with
      |nil=>intro _ h;cases h
      |cons p r ih =>
       intro n h1 h2;rw [Qt,QO] at n;rcases Qh.mp h1 with e1|h1'
       ·rcases Qh.mp h2 with e2|h2'
        ·rw [e2,e1]
        ·rw [←e1] at n;exact absurd (Qg.mpr ⟨q,h2',e⟩) n.1
       ·rcases Qh.mp h2 with e2|h2'
        ·rw [←e2] at n;exact absurd (Qg.mpr ⟨(c,d,l),h1',e.symm⟩) n.1
        ·exact ih n.2 h1' h2'
     exact .inl (go hnd hm hq2)
    rcases this with rfl|rfl
    ·-- then it was told anew
     have an:(B.ties.any fun q=>decide (q.1=c))=true:=by
      rw [Gs];exact ⟨_,hm,Qw rfl⟩
     unfold Zo at hq;rw [Qb an] at hq;obtain ⟨p,hp,ep⟩:=Qg.mp hq;by_cases pc:p.1=c
     ·rw [Qb pc] at ep
      have:l'=l:=by
       have:=Qy (fun z=>z.2.2) ep;exact this
      subst this;exact Zf
     ·rw [Qa pc] at ep;subst ep;exact absurd rfl pc
    ·exact Zf
   ·exact (Zd e).trans (h.tt q hq2)
theorem ZiL (ts:List ((Str×Str)×Addr×List (Int×Str))) (c x:Str×Str) (d:Addr) (l:List (Int×Str)):YU (Zo ts c (d,l)) x=if x=c then l else YU ts x:=by
 unfold YU;rw [ZgZ];by_cases e:x=c
 ·rw [Qb e,Qb e];rfl
 ·rw [Qa e,Qa e]
theorem Zix (ts:List ((Str×Str)×Addr×List (Int×Str))) (c x:Str×Str) (d:Addr) (h:ZC c ts=none):YU (ts++[(c,d,[])]) x=YU ts x:=by
 unfold YU;rw [ZaG];cases e:ZC x ts with
 |some y=>rfl
 |none =>
  unfold ZC;by_cases e2:c=x
  ·rw [Qb e2];rfl
  ·rw [Qa e2];rfl
noncomputable def Ur (y:Str) (n:Str):Option V:=if n=y then none else some (.str n)
theorem ZhI (y:Str):∀l:List Str,(l.map (Ur y)).filterMap id=(l.filter fun n=>decide (n≠y)).map V.str
 |[]=>rfl
 |n::r=>by
  have ih:=ZhI y r;by_cases h:n=y
  ·subst h;simp only [Qt,Q4,GU];simpa [Ur] using ih
  ·simp only [Qt,Q4,GU];simpa [Ur,h] using ih
theorem ZfS (l:List ((Str×Str)×Addr×List Str)) (c d:Str×Str) (D:Addr) (z:List Str):lk (Zo l c (D,z)) d=if d=c then z else lk l d:=by
 unfold lk;rw [ZeR];by_cases e:d=c
 ·rw [Qb e,Qb e];rfl
 ·rw [Qa e,Qa e]
theorem ZbM (F:Str×Str->List Str) (st:Bool) (x y:Str) (c:Str×Str):(ZH F st x y c).length≤(F c).length+1:=by
 unfold ZH;have h:=List.length_filter_le (fun n=>decide (n≠y)) (F c);split
 ·split
  ·rw [(WO _).length_eq,Qn];show _+1≤_;omega
  ·omega
 ·omega
theorem VJ (a b:Str):Ze (Ze a b).1 (Ze a b).2=Ze a b:=by
 unfold Ze;by_cases h:ZN b a=true
 ·rw [Qb h];show (if ZN a b=true then (a,b) else (b,a))=(b,a);by_cases h2:ZN a b=true
  ·have l1:b.cps.toList<a.cps.toList:=Q0 h;have l2:a.cps.toList<b.cps.toList:=Q0 h2;exact absurd l1 (ND l2)
  ·rw [Qa h2]
 ·rw [Qa h];show (if ZN b a=true then (b,a) else (a,b))=(a,b);rw [Qa h]
theorem Zav (e:Ent):e.told.told=e.told:=by
 cases e with
 |union a b d=>show Ent.union (Ze (Ze a b).1 (Ze a b).2).1 (Ze (Ze a b).1 (Ze a b).2).2 d=_;rw [VJ];rfl
 |parted a b d=>show Ent.parted (Ze (Ze a b).1 (Ze a b).2).1 (Ze (Ze a b).1 (Ze a b).2).2 d=_;rw [VJ];rfl
 |_=>rfl
noncomputable def U8 (F:Str×Str->List (Int×Str)):Ent->Str×Str->List (Int×Str)
 |.union a b d=>fun c=>if c=Ze a b then Zo (F (Ze a b)) d "union" else F c
 |.parted a b d=>fun c=>if c=Ze a b then Zo (F (Ze a b)) d "parted" else F c
 |_=>F
noncomputable def WW (F:Str×Str->List Str) (G:Str×Str->List (Int×Str)):Ent->Str×Str->List Str
 |.born n _ _ f m=>Xl F n f m
 |.taken c t _=>Z0 (Z0 F ("T",c) t) ("t",t) c
 |.union a b d=>ZH (ZH F (YI (Zo (G (Ze a b)) d "union")) a b) (YI (Zo (G (Ze a b)) d "union")) b a
 |.parted a b d=>ZH (ZH F (YI (Zo (G (Ze a b)) d "parted")) a b) (YI (Zo (G (Ze a b)) d "parted")) b a
 |_=>F
noncomputable def Xb (ss:List ((Str×Str)×Int)) (c:Str×Str):Int:=(ZC c ss).getD 0
noncomputable def Zbg (F:Str×Str->Int):Ent->Str×Str->Int
 |.given g t am _=>fun c=>if c=(g,t) then F c+am else F c
 |_=>F
theorem ZjJ (ss:List ((Str×Str)×Int)) (g t:Str) (am d:Int) (c:Str×Str):Xb (Zo ss (g,t) (Xb ss (g,t)+am)) c=Zbg (Xb ss) (.given g t am d) c:=by
 show _=if c=(g,t) then Xb ss c+am else Xb ss c;unfold Xb;rw [ZgZ];by_cases e:c=(g,t)
 ·subst e;rw [Qb rfl,Qb rfl];rfl
 ·rw [Qa e,Qa e]
def GrowsT (H:Hp) (ts ts':List ((Str×Str)×Addr×List (Int×Str))):Prop:=∀a∈ts'.map (·.2.1),a∈ts.map (·.2.1)∨H a=none
theorem GrowsT.refl (H:Hp) (ts:List ((Str×Str)×Addr×List (Int×Str))):GrowsT H ts ts:=fun _ h=>.inl h
theorem GrowsT.back {H H':Hp} {ts ts':List ((Str×Str)×Addr×List (Int×Str))} (g:GrowsT H' ts ts') (al:∀a,H' a=none->H a=none):GrowsT H ts ts':=fun a ha=>(g a ha).imp id (al a)
structure Put (B:Bk) (e:Ent) (B':Bk):Prop where
 su:∀c,Xb B'.sums c=Zbg (Xb B.sums) e.told c
 kept:∃a,B'.kept=B.kept++[(e.told,a)]
 lks:∀c,lk B'.links c=WW (lk B.links) (YU B.ties) e.told c
 tis:∀c,YU B'.ties c=U8 (YU B.ties) e.told c
 nd:(B'.ties.map (·.1)).Nodup
 nl:B'.links.length≤B.links.length+4
 nt:B'.ties.length≤B.ties.length+1
 ns:B'.sums.length≤B.sums.length+1
structure Room1 (B:Bk):Prop where
 nd:(B.ties.map (·.1)).Nodup
 nl:B.links.length≤870
 nt:B.ties.length≤790
 ns:B.sums.length≤790
 ll:∀c,(lk B.links c).length≤60
 tt:∀c,(YU B.ties c).length≤790
theorem Zis {H:Hp} {a:Addr} {o:HO} (h:H a=some o):Zc H a o=H:=by
 funext c
 by_cases e:c=a
 ·subst e;rw [Zf,h]
 ·rw [Zd e]
theorem BkAt.kept {K:W.Frag} {C:Addr} {H:Hp} {b dx k bi li ti su a:Addr} {B:Bk} {e:Ent} (h:BkAt K C H b dx k bi li ti su B) (ha:SqT K H a (e.row.map kV)) :
  BkAt K C (Zc (Zc H k (.dT (B.keptD++[(e.key,.ref a)]))) bi (.dK (Bk.bornD (B.kept++[(e,a)])))) b dx k bi li ti su { B with kept:=B.kept++[(e,a)] }:=by
 obtain ⟨n1,n2,n3,n4,n5,n6⟩:=Za2 h.ap;have kb:k≠bi:=Z3 h.ke h.bi (fun z=>by cases z);have at2:=QO.mp h.at';have dt:∀{c:Addr} {w:List (List Zj×V)},H c=some (.dT w)->c≠k->(Zc (Zc H k (.dT (B.keptD++[(e.key,.ref a)]))) bi (.dK (Bk.bornD (B.kept++[(e,a)])))) c=some (.dT w):=fun hc n=>(Zd (Z3 hc h.bi (fun z=>by cases z))).trans ((Zd n).trans hc)
 have sq:∀{c:Addr} {xs:List V},SqT K H c xs->SqT K (Zc (Zc H k (.dT (B.keptD++[(e.key,.ref a)]))) bi (.dK (Bk.bornD (B.kept++[(e,a)])))) c xs:=fun {c xs} hc=>by
  have h1:SqT K (Zc H k (.dT (B.keptD++[(e.key,.ref a)]))) c xs:=X4 hc h.ke (fun _ z=>by cases z) (fun _ _ z=>by cases z);exact X4 h1 ((Zd kb.symm).trans h.bi) (fun _ z=>by cases z) (fun _ _ z=>by cases z)
 refine ⟨(Zd (Z3 h.ob h.bi (fun z=>by cases z))).trans ((Zd (Z3 h.ob h.ke (fun z=>by cases z))).trans h.ob),h.ap,h.at',(Zd kb).trans ?_,Zf,dt h.li n1.symm,dt h.ti n2.symm,dt h.su n3.symm,fun p hp=>?_,fun q hq=>?_,fun q hq=>?_⟩
 ·rw [Zf];show some (HO.dT _)=some (.dT ((B.kept++[(e,a)]).map fun p=>(p.1.key,V.ref p.2)));rw [Qs];rfl
 ·rcases Ql.mp hp with hp|hp
  ·exact sq (h.en p hp)
  ·have ep:p=(e,a):=by simpa using hp
   subst ep;exact sq ha
 ·exact (Zd (Z3 (h.ll q hq) h.bi (fun z=>by cases z))).trans ((Zd (Z3 (h.ll q hq) h.ke (fun z=>by cases z))).trans (h.ll q hq))
 ·exact (Zd (fun z=>at2.1 (Qg.mpr ⟨q,hq,z⟩))).trans ((Zd (Z3 (h.tt q hq) h.ke (fun z=>by cases z))).trans (h.tt q hq))
theorem ZlD {l:List (Ent×Addr)} {e:Ent} {a:Addr} (h:e.isBorn=false):Bk.bornD (l++[(e,a)])=Bk.bornD l:=by
 unfold Bk.bornD;rw [R7];cases e with
 |born=>cases h
 |_=>simp [Ent.bornName]
theorem BkAt.sums {K:W.Frag} {C:Addr} {H:Hp} {b dx k bi li ti su:Addr} {B:Bk} (h:BkAt K C H b dx k bi li ti su B) (l:List ((Str×Str)×Int)) :
  BkAt K C (Zc H su (.dT (l.map fun q=>(ZQ q.1,V.int q.2)))) b dx k bi li ti su { B with sums:=l }:=by
 obtain ⟨n1,n2,n3,n4,n5,n6⟩:=Za2 h.ap;have dk:∀{c:Addr} {z:List (Zj×V)},H c=some (.dK z)->c≠su:=fun e=>Z3 e h.su (fun z=>by cases z)
 exact ⟨(Zd (Z3 h.ob h.su (fun z=>by cases z))).trans h.ob,h.ap,h.at',(Zd n3).trans h.ke,(Zd (dk h.bi)).trans h.bi,(Zd n5).trans h.li,(Zd n6).trans h.ti,Zf,
  fun p hp=>X4 (h.en p hp) h.su (fun _ z=>by cases z) (fun _ _ z=>by cases z),fun q hq=>(Zd (Z3 (h.ll q hq) h.su (fun z=>by cases z))).trans (h.ll q hq),fun q hq=>(Zd (dk (h.tt q hq))).trans (h.tt q hq)⟩
theorem ZnS {l:List (Ent×Addr)} {n s f m:Str} {d:Int} (h:ZI (l.map fun p=>(p.1.key,V.ref p.2)) (Ent.born n s d f m).key=none):ZZ n l=none:=by
 induction l with
 |nil=>rfl
 |cons p r ih =>
  unfold ZZ;rw [Qt] at h;by_cases e:p.1.bornName=some n
  ·exfalso
   have ek:p.1.key=(Ent.born n s d f m).key:=by
    cases hp:p.1 with
    |born n' s' d' f' m' =>
     rw [hp] at e;cases (show n'=n from Qo e);rfl
    |_=>rw [hp] at e;cases e
   rw [XV ek] at h;cases h
  ·rw [Qa e];by_cases ek:p.1.key=(Ent.born n s d f m).key
   ·rw [XV ek] at h;cases h
   ·rw [X0 ek] at h;exact ih h
theorem ZeV {B:Bk} {e:Ent} (h:XY B e=none):ZI B.keptD e.told.key=none∧B.kept.length<400∧∀n∈e.named,Known B n:=by
 unfold XY at h;by_cases f:B.full e=true
 ·rw [Qb f] at h;cases h
 rw [Qa f] at h;by_cases p:(e.named.all fun n=>(ZZ n B.kept).isSome)=false
 ·rw [Qb p] at h;cases h
 rw [Qa p] at h;by_cases t:(ZI B.keptD e.told.key).isSome=true
 ·rw [Qb t] at h;cases h
 refine ⟨by simpa using t,?_,fun n hn=>?_⟩
 ·unfold Bk.full at f;simp only [R6,GT,not_or] at f;omega
 ·have:=p;rw [Bool.not_eq_false] at this;rw [RQ] at this;have:=this n hn;unfold Known;exact NV.mp this
theorem ZgO (e:Ent) (n:Str):n∈e.told.named->n∈e.named:=by
 cases e with
 |union a b d =>
  show n∈[(Ze a b).1,(Ze a b).2]->n∈[a,b];unfold Ze;split<;>simp<;>(intro h;rcases h with h|h<;>simp [h])
 |parted a b d =>
  show n∈[(Ze a b).1,(Ze a b).2]->n∈[a,b];unfold Ze;split<;>simp<;>(intro h;rcases h with h|h<;>simp [h])
 |_=>exact id
theorem ZhS (n:Str):∀(l m:List (Ent×Addr)),ZZ n (l++m)=(ZZ n l).or (ZZ n m)
 |[],m=>by simp [ZZ]
 |p::r,m=>by
  show (if p.1.bornName=some n then some p else ZZ n (r++m))=(if p.1.bornName=some n then some p else ZZ n r).or (ZZ n m);by_cases e:p.1.bornName=some n
  ·rw [Qb e,Qb e];rfl
  ·rw [Qa e,Qa e];exact ZhS n r m
theorem Known.more {B B':Bk} {n:Str} {l:List (Ent×Addr)} (h:Known B n) (e:B'.kept=B.kept++l):Known B' n:=by
 unfold Known at *;rw [e,ZhS];cases hb:ZZ n B.kept with
 |none=>exact absurd hb h
 |some p=>simp
theorem Zmr {ns:List Int} {k:Nat} (h:k<ns.length):(ns.map V.int)[k]?=some (V.int (ns.getD k 0)):=by
 simp [List.getD,Qx h,h]
theorem Zhw (ns:List Int) (a b:Nat):∃cs:List Int,Yi (ns.map V.int) (some (a:Int)) (some (b:Int))=cs.map V.int∧cs.length=min b ns.length-min a ns.length:=by
 refine ⟨(ns.drop (min a ns.length)).take (min b ns.length-min a ns.length),?_,?_⟩
 ·unfold Yi;rw [NF,NG,Qd,HT.sIx_nat,HT.sIx_nat]
 ·rw [Q3,RL];omega
theorem JZ {cs:List Int} {i:Nat} {y:V} (h:(cs.map V.int)[i]?=some y):∃z,y=.int z∧cs[i]?=some z:=by
 rw [QA] at h;obtain ⟨z,hz,e⟩:=QQ.mp h;exact ⟨z,e.symm,hz⟩
theorem ZeH {d:Int} (h1:-10 ^ 18≤d) (h2:d≤10 ^ 18):Zcl (.int d)=true:=by
 show decide ((if d<0 then -d else d)≤10 ^ 18)=true;exact Qw (by split<;>omega)
theorem ZgY {x:Str} (h:x=""∨Nm x):JQ (.str x)=true:=by
 rcases h with h|h
 ·subst h;decide +kernel
 ·unfold JQ;rw [h.ok];rfl
theorem ZnL {s:Str} (h:s="he"∨s="she"∨s=""):Up (.str s)=true:=by
 rcases h with h|h|h<;>subst h<;>decide +kernel
theorem JP {x:Str} (h:Nm x):x.length≤100:=Qq h.hi (by decide)
theorem Zpx {n s f m:Str} {d:Int} (hn:Nm n) (hs:s="he"∨s="she"∨s="") (d1:-10 ^ 18≤d) (d2:d≤10 ^ 18) (hf:f=""∨Nm f) (hm:m=""∨Nm m):(Ent.born n s d f m).Ok:=by
 refine ⟨?_,fun x hx=>?_⟩
 ·show VS [.str "born",.str n,.str s,.int d,.str f,.str m]=true;rw [ZaI,show Vm "born"=some [.name,.sort,.day,.parent,.parent] by rfl];show Wi _ _=true;unfold Wi ZP;simp [ZP,Je,hn.ok,ZnL hs,ZeH d1 d2,ZgY hf,ZgY hm]
 ·have hf':f.length≤100:=hf.elim (fun h=>by subst h;decide +kernel) JP;have hm':m.length≤100:=hm.elim (fun h=>by subst h;decide +kernel) JP;have hs':s.length≤100:=by rcases hs with h|h|h<;>subst h<;>decide +kernel
  simp only [Ent.row,Qh,QF,QG] at hx;rcases hx with h|h|h|h|h|h
  ·cases h;decide +kernel
  ·cases h;exact JP hn
  ·cases h;exact hs'
  ·cases h
  ·cases h;exact hf'
  ·cases h;exact hm'
theorem V5 {w a b:Str} {d:Int} (hw:w="taken"∨w="union"∨w="parted") (ha:Nm a) (hb:Nm b) (d1:-10 ^ 18≤d) (d2:d≤10 ^ 18):VS [.str w,.str a,.str b,.int d]=true:=by
 rw [ZaI];have:Vm w=some [.name,.name,.day]:=by rcases hw with h|h|h<;>subst h<;>rfl
 rw [this];show Wi _ _=true;unfold Wi;simp [ZP,Je,ha.ok,hb.ok,ZeH d1 d2]
theorem Ub {w a b:Str} {d:Int} (hw:w.length≤100) (ha:Nm a) (hb:Nm b):∀x:Str,(.inr x:Zj)∈([.inr w,.inr a,.inr b,.inl d]:List Zj)->x.length≤100:=fun x hx=>by
 simp only [Qh,QF,QG] at hx;rcases hx with h|h|h|h
 ·cases h;exact hw
 ·cases h;exact JP ha
 ·cases h;exact JP hb
 ·cases h
theorem ZhH {n s f m:Str} {d:Int}:∀{l:List (Ent×Addr)},Ent.born n s d f m∈l.map (·.1)->(∀{s' d' f' m'},Ent.born n s' d' f' m'∈l.map (·.1)->Ent.born n s' d' f' m'=.born n s d f m)->∃a,ZZ n l=some (.born n s d f m,a)
 |[],h,_=>by cases h
 |p::r,h,u=>by
  unfold ZZ;by_cases e:p.1.bornName=some n
  ·rw [Qb e];cases hp:p.1 with
   |born n' s' d' f' m' =>
    rw [hp] at e;cases (show n'=n from Qo e);have:=u (s':=s') (d':=d') (f':=f') (m':=m') (by rw [Qt,hp];exact QI ..);refine ⟨p.2,?_⟩;rw [←this,←hp]
   |_=>rw [hp] at e;cases e
  ·rw [Qa e]
   have h':Ent.born n s d f m∈r.map (·.1):=by
    rw [Qt] at h;rcases Qh.mp h with h|h
    ·exfalso;rw [←h] at e;exact e rfl
    ·exact h
   exact ZhH h' fun hm=>u (by rw [Qt];exact QC _ hm)
abbrev ZO:=Str×Str->List Str
abbrev XN:=Str×Str->List (Int×Str)
noncomputable def UL (p:ZO×XN) (e:Ent):ZO×XN:=(WW p.1 p.2 e,U8 p.2 e)
noncomputable def YC (es:List Ent):ZO×XN:=es.foldl UL (fun _=>[],fun _=>[])
theorem Zas (es:List Ent) (e:Ent):YC (es++[e])=UL (YC es) e:=by
 unfold YC;rw [NH];rfl
noncomputable def W7 (n:Str):Ent->List Str
 |.born n' _ _ f _=>if n'=n∧f≠"" then [f] else []
 |_=>[]
noncomputable def Ve (n:Str):Ent->List Str
 |.born n' _ _ _ m=>if n'=n∧m≠"" then [m] else []
 |_=>[]
noncomputable def W1 (n:Str):Ent->List Str
 |.born n' _ _ f _=>if f=n∧f≠"" then [n'] else []
 |_=>[]
noncomputable def Vg (n:Str):Ent->List Str
 |.born n' _ _ _ m=>if m=n∧m≠"" then [n'] else []
 |_=>[]
noncomputable def addT (n:Str):Ent->List Str
 |.taken c t _=>if c=n then [t] else []
 |_=>[]
noncomputable def VI (n:Str):Ent->List Str
 |.taken c t _=>if t=n then [c] else []
 |_=>[]
theorem ZfL {l:List Str} (h:l.Pairwise fun a b=>YH a b=true):ZB l=l:=ZaT (WO l) (UP l) h
theorem ZoQ (l m:List Str):ZB (ZB l++m)=ZB (l++m) :=
 ZaT ((WO _).trans (((WO l).append_right m).trans (WO _).symm)) (UP _) (UP _)
theorem YO (F:ZO) (l n l' n' m:Str):Z0 F (l,n) m (l',n')=if l'=l∧n'=n then ZB (F (l,n)++[m]) else F (l',n'):=by
 unfold Z0;by_cases h:l'=l∧n'=n
 ·obtain ⟨rfl,rfl⟩:=h;rw [Qb rfl,Qb ⟨rfl,rfl⟩]
 ·rw [Qa (fun e=>h (by injection e with a b;exact ⟨a,b⟩)),Qa h]
theorem Ym (F:ZO) (st:Bool) (x y l n:Str) (h:l≠"S"):ZH F st x y (l,n)=F (l,n):=by
 unfold ZH;rw [Qa (fun e=>h (by injection e))]
structure Adds (l:Str) (ad:Str->Ent->List Str):Prop where
 step:∀(F:ZO) (G:XN) (e:Ent) (n:Str),(F (l,n)).Pairwise (fun a b=>YH a b=true)->WW F G e (l,n)=ZB (F (l,n)++ad n e)
theorem ZY {l:List Str} (h:l.Pairwise fun a b=>YH a b=true):l=ZB (l++[]):=by rw [Qu,ZfL h]
theorem Zap (F:ZO) (n f m l x:Str):Xl F n f m (l,x) =
  if l="F"∧x=n∧f≠"" then ZB (F ("F",n)++[f]) else if l="f"∧x=f∧f≠"" then ZB (F ("f",f)++[n]) else
  if l="M"∧x=n∧m≠"" then ZB (F ("M",n)++[m]) else if l="m"∧x=m∧m≠"" then ZB (F ("m",m)++[n]) else F (l,x):=by
 have d1:("F" : Str)≠"f":=by decide +kernel
 have d2:("F" : Str)≠"M":=by decide +kernel
 have d3:("F" : Str)≠"m":=by decide +kernel
 have d4:("f" : Str)≠"M":=by decide +kernel
 have d5:("f" : Str)≠"m":=by decide +kernel
 have d6:("M" : Str)≠"m":=by decide +kernel
 unfold Xl;by_cases f0:f=""<;>by_cases m0:m=""<;>simp only [f0,m0,Ru,Q5,YO,ne_eq,not_true_eq_false,NI,and_false,and_true]
 ·by_cases h1:l="m"∧x=m
  ·obtain ⟨rfl,rfl⟩:=h1;simp [d3.symm,d5.symm,d6.symm,d6]
  ·by_cases h2:l="M"∧x=n
   ·obtain ⟨rfl,rfl⟩:=h2;simp [d6]
   ·simp [h1,h2]
 ·by_cases h1:l="f"∧x=f
  ·obtain ⟨rfl,rfl⟩:=h1;simp [d1,d1.symm]
  ·by_cases h2:l="F"∧x=n
   ·obtain ⟨rfl,rfl⟩:=h2;simp [d1]
   ·simp [h1,h2]
 ·by_cases h1:l="m"∧x=m
  ·obtain ⟨rfl,rfl⟩:=h1;simp [d3.symm,d5.symm,d6.symm,d6,d3,d5]
  ·by_cases h2:l="M"∧x=n
   ·obtain ⟨rfl,rfl⟩:=h2;simp [d6,d2,d4,d2.symm,d4.symm]
   ·by_cases h3:l="f"∧x=f
    ·obtain ⟨rfl,rfl⟩:=h3;simp [d1,d1.symm,d4,d5]
    ·by_cases h4:l="F"∧x=n
     ·obtain ⟨rfl,rfl⟩:=h4;simp [d1,d2,d3]
     ·simp [h1,h2,h3,h4]
theorem ZhX:Adds "F" W7:=⟨fun F G e n s=>by
 cases e with
 |born n' s' d f m =>
  show Xl F n' f m ("F",n)=_;rw [Zap];dsimp only [W7];by_cases h:n'=n∧f≠""
  ·rw [Qb h,Qb ⟨rfl,h.1.symm,h.2⟩,h.1]
  ·rw [Qa h,Qa (fun z=>h ⟨z.2.1.symm,z.2.2⟩),Qa (fun z=>absurd z.1 (by decide +kernel)),Qa (fun z=>absurd z.1 (by decide +kernel)),Qa (fun z=>absurd z.1 (by decide +kernel))];exact ZY s
 |taken c t d=>show Z0 (Z0 F ("T",c) t) ("t",t) c ("F",n)=_;rw [YO,Qa (fun z=>absurd z.1 (by decide +kernel)),YO,Qa (fun z=>absurd z.1 (by decide +kernel))];exact ZY s
 |union a b d=>show ZH _ _ _ _ _=_;rw [Ym _ _ _ _ _ _ (by decide +kernel),Ym _ _ _ _ _ _ (by decide +kernel)];exact ZY s
 |parted a b d=>show ZH _ _ _ _ _=_;rw [Ym _ _ _ _ _ _ (by decide +kernel),Ym _ _ _ _ _ _ (by decide +kernel)];exact ZY s
 |dead a d=>exact ZY s
 |given a b am d=>exact ZY s⟩
theorem Zh6:Adds "M" Ve:=⟨fun F G e n s=>by
 cases e with
 |born n' s' d f m =>
  show Xl F n' f m ("M",n)=_;rw [Zap,Qa (fun z=>absurd z.1 (by decide +kernel)),Qa (fun z=>absurd z.1 (by decide +kernel))];dsimp only [Ve];by_cases h:n'=n∧m≠""
  ·rw [Qb h,Qb ⟨rfl,h.1.symm,h.2⟩,h.1]
  ·rw [Qa h,Qa (fun z=>h ⟨z.2.1.symm,z.2.2⟩),Qa (fun z=>absurd z.1 (by decide +kernel))];exact ZY s
 |taken c t d=>show Z0 (Z0 F ("T",c) t) ("t",t) c ("M",n)=_;rw [YO,Qa (fun z=>absurd z.1 (by decide +kernel)),YO,Qa (fun z=>absurd z.1 (by decide +kernel))];exact ZY s
 |union a b d=>show ZH _ _ _ _ _=_;rw [Ym _ _ _ _ _ _ (by decide +kernel),Ym _ _ _ _ _ _ (by decide +kernel)];exact ZY s
 |parted a b d=>show ZH _ _ _ _ _=_;rw [Ym _ _ _ _ _ _ (by decide +kernel),Ym _ _ _ _ _ _ (by decide +kernel)];exact ZY s
 |dead a d=>exact ZY s
 |given a b am d=>exact ZY s⟩
theorem ZeT:Adds "f" W1:=⟨fun F G e n s=>by
 cases e with
 |born n' s' d f m =>
  show Xl F n' f m ("f",n)=_;rw [Zap,Qa (fun z=>absurd z.1 (by decide +kernel))];dsimp only [W1];by_cases h:f=n∧f≠""
  ·rw [Qb h,Qb ⟨rfl,h.1.symm,h.2⟩,h.1]
  ·rw [Qa h,Qa (fun z=>h ⟨z.2.1.symm,z.2.2⟩),Qa (fun z=>absurd z.1 (by decide +kernel)),Qa (fun z=>absurd z.1 (by decide +kernel))];exact ZY s
 |taken c t d=>show Z0 (Z0 F ("T",c) t) ("t",t) c ("f",n)=_;rw [YO,Qa (fun z=>absurd z.1 (by decide +kernel)),YO,Qa (fun z=>absurd z.1 (by decide +kernel))];exact ZY s
 |union a b d=>show ZH _ _ _ _ _=_;rw [Ym _ _ _ _ _ _ (by decide +kernel),Ym _ _ _ _ _ _ (by decide +kernel)];exact ZY s
 |parted a b d=>show ZH _ _ _ _ _=_;rw [Ym _ _ _ _ _ _ (by decide +kernel),Ym _ _ _ _ _ _ (by decide +kernel)];exact ZY s
 |dead a d=>exact ZY s
 |given a b am d=>exact ZY s⟩
theorem ZeS:Adds "m" Vg:=⟨fun F G e n s=>by
 cases e with
 |born n' s' d f m =>
  show Xl F n' f m ("m",n)=_;rw [Zap,Qa (fun z=>absurd z.1 (by decide +kernel)),Qa (fun z=>absurd z.1 (by decide +kernel)),Qa (fun z=>absurd z.1 (by decide +kernel))];dsimp only [Vg];by_cases h:m=n∧m≠""
  ·rw [Qb h,Qb ⟨rfl,h.1.symm,h.2⟩,h.1]
  ·rw [Qa h,Qa (fun z=>h ⟨z.2.1.symm,z.2.2⟩)];exact ZY s
 |taken c t d=>show Z0 (Z0 F ("T",c) t) ("t",t) c ("m",n)=_;rw [YO,Qa (fun z=>absurd z.1 (by decide +kernel)),YO,Qa (fun z=>absurd z.1 (by decide +kernel))];exact ZY s
 |union a b d=>show ZH _ _ _ _ _=_;rw [Ym _ _ _ _ _ _ (by decide +kernel),Ym _ _ _ _ _ _ (by decide +kernel)];exact ZY s
 |parted a b d=>show ZH _ _ _ _ _=_;rw [Ym _ _ _ _ _ _ (by decide +kernel),Ym _ _ _ _ _ _ (by decide +kernel)];exact ZY s
 |dead a d=>exact ZY s
 |given a b am d=>exact ZY s⟩
theorem JW (F:ZO) (n f m l x:Str) (h1:l≠"F") (h2:l≠"f") (h3:l≠"M") (h4:l≠"m"):Xl F n f m (l,x)=F (l,x):=by
 rw [Zap,Qa (fun z=>h1 z.1),Qa (fun z=>h2 z.1),Qa (fun z=>h3 z.1),Qa (fun z=>h4 z.1)]
theorem Zed:Adds "T" addT:=⟨fun F G e n s=>by
 cases e with
 |born n' s' d f m=>show Xl F n' f m ("T",n)=_;rw [JW _ _ _ _ _ _ (by decide +kernel) (by decide +kernel) (by decide +kernel) (by decide +kernel)];exact ZY s
 |taken c t d =>
  show Z0 (Z0 F ("T",c) t) ("t",t) c ("T",n)=_;rw [YO,Qa (fun z=>absurd z.1 (by decide +kernel)),YO];dsimp only [addT];by_cases h:c=n
  ·rw [Qb h,Qb ⟨rfl,h.symm⟩,h]
  ·rw [Qa h,Qa (fun z=>h z.2.symm)];exact ZY s
 |union a b d=>show ZH _ _ _ _ _=_;rw [Ym _ _ _ _ _ _ (by decide +kernel),Ym _ _ _ _ _ _ (by decide +kernel)];exact ZY s
 |parted a b d=>show ZH _ _ _ _ _=_;rw [Ym _ _ _ _ _ _ (by decide +kernel),Ym _ _ _ _ _ _ (by decide +kernel)];exact ZY s
 |dead a d=>exact ZY s
 |given a b am d=>exact ZY s⟩
theorem ZhZ:Adds "t" VI:=⟨fun F G e n s=>by
 cases e with
 |born n' s' d f m=>show Xl F n' f m ("t",n)=_;rw [JW _ _ _ _ _ _ (by decide +kernel) (by decide +kernel) (by decide +kernel) (by decide +kernel)];exact ZY s
 |taken c t d =>
  show Z0 (Z0 F ("T",c) t) ("t",t) c ("t",n)=_;rw [YO];dsimp only [VI];by_cases h:t=n
  ·rw [Qb h,Qb ⟨rfl,h.symm⟩,YO,Qa (fun z=>absurd z.1 (by decide +kernel)),h]
  ·rw [Qa h,Qa (fun z=>h z.2.symm),YO,Qa (fun z=>absurd z.1 (by decide +kernel))];exact ZY s
 |union a b d=>show ZH _ _ _ _ _=_;rw [Ym _ _ _ _ _ _ (by decide +kernel),Ym _ _ _ _ _ _ (by decide +kernel)];exact ZY s
 |parted a b d=>show ZH _ _ _ _ _=_;rw [Ym _ _ _ _ _ _ (by decide +kernel),Ym _ _ _ _ _ _ (by decide +kernel)];exact ZY s
 |dead a d=>exact ZY s
 |given a b am d=>exact ZY s⟩
theorem Adds.all {l:Str} {ad:Str->Ent->List Str} (A:Adds l ad) (n:Str):∀es:List Ent,(YC es).1 (l,n)=ZB (es.flatMap (ad n)):=by
 intro es
 have go:∀(es:List Ent) (p:ZO×XN) (xs:List Str),p.1 (l,n)=ZB xs->(es.foldl UL p).1 (l,n)=ZB (xs++es.flatMap (ad n)):=by
  intro es
  induction es with
  |nil=>intro p xs h;rw [List.flatMap_nil,Qu];exact h
  |cons e es ih =>
   intro p xs h;rw [Q6,NJ,←Gu];refine ih _ (xs++ad n e) ?_;show WW p.1 p.2 e (l,n)=_;rw [A.step p.1 p.2 e n (by rw [h];exact UP _),h,ZoQ]
 exact go es _ [] (ZfL .nil).symm
noncomputable def Ent.pr:Ent->Str×Str
 |.union a b _=>(a,b)
 |.parted a b _=>(a,b)
 |_=>("","")
noncomputable def Ent.kind:Ent->Str
 |.union ..=>"union"
 |.parted ..=>"parted"
 |_=>""
def X2 (e:Ent):Prop:=e.tie=true->e.pr.1≠e.pr.2
theorem Zdj {a b n w:Str} (h:Ze n w=Ze a b):(n=a∧w=b)∨(n=b∧w=a):=by
 unfold Ze at h;split at h<;>split at h<;>injection h with h1 h2
 ·exact .inl ⟨h2,h1⟩
 ·exact .inr ⟨h2,h1⟩
 ·exact .inr ⟨h1,h2⟩
 ·exact .inl ⟨h1,h2⟩
noncomputable def WI (st:Bool) (L:List Str) (y:Str):List Str:=if st=true then ZB (L.filter (fun n=>decide (n≠y))++[y]) else L.filter fun n=>decide (n≠y)
theorem Zgv {st:Bool} {L:List Str} {y:Str} (h:L.Pairwise fun a b=>YH a b=true):(WI st L y).Pairwise fun a b=>YH a b=true:=by
 unfold WI;split
 ·exact UP _
 ·exact h.filter _
theorem Zfn {p:Str->Bool} {L:List Str} (h:L.Nodup):(L.filter p).Nodup:=List.Pairwise.filter p h
theorem ZeZ {st:Bool} {L:List Str} {y:Str} (h:L.Nodup):(WI st L y).Nodup:=by
 unfold WI;split
 ·refine (WO _).symm.nodup ?_;rw [QW];refine ⟨Zfn h,by simp,fun a ha b hb e=>?_⟩;have:b=y:=by simpa using hb
  subst this e;have:=(Rp.mp ha).2;simp at this
 ·exact Zfn h
theorem Zfo {st:Bool} {L:List Str} {y w:Str}:w∈WI st L y↔(w≠y∧w∈L)∨(w=y∧st=true):=by
 unfold WI;by_cases h:st=true
 ·rw [Qb h,(WO _).mem_iff,Ql,Rp];simp [h,and_comm]
 ·rw [Qa h,Rp];simp [h,and_comm]
theorem Zc3 (F:ZO) (st:Bool) (x y n:Str):ZH F st x y ("S",n)=if n=x then WI st (F ("S",x)) y else F ("S",n):=by
 unfold ZH WI;by_cases h:n=x
 ·subst h;rw [Qb rfl,Qb rfl]
 ·rw [Qa (fun e=>h (by injection e)),Qa h]
structure SOk (F:ZO) (G:XN):Prop where
 up:∀n,(F ("S",n)).Pairwise fun a b=>YH a b=true
 nd:∀n,(F ("S",n)).Nodup
 mem:∀n w,w∈F ("S",n)↔YI (G (Ze n w))=true
theorem ZeW {F:ZO} {G:XN} {a b:Str} (ne:a≠b) (h:SOk F G) (l:List (Int×Str)) :
  SOk (ZH (ZH F (YI l) a b) (YI l) b a) (fun c=>if c=Ze a b then l else G c):=by
 have e:∀n,ZH (ZH F (YI l) a b) (YI l) b a ("S",n)=if n=b then WI (YI l) (F ("S",b)) a else if n=a then WI (YI l) (F ("S",a)) b else F ("S",n):=fun n=>by
  rw [Zc3];by_cases h1:n=b
  ·rw [Qb h1,Qb h1,Zc3,Qa ne.symm]
  ·rw [Qa h1,Qa h1,Zc3]
 refine ⟨fun n=>?_,fun n=>?_,fun n w=>?_⟩
 ·rw [e];split
  ·exact Zgv (h.up _)
  ·split
   ·exact Zgv (h.up _)
   ·exact h.up _
 ·rw [e];split
  ·exact ZeZ (h.nd _)
  ·split
   ·exact ZeZ (h.nd _)
   ·exact h.nd _
 ·rw [e];show _↔YI (if Ze n w=Ze a b then l else G (Ze n w))=true;by_cases h1:n=b
  ·subst h1;rw [Qb rfl,Zfo];by_cases h2:w=a
   ·subst h2;rw [Qb (Zcb n w)];simp
   ·rw [Qa (fun z=>(Zdj z).elim (fun e=>ne e.1.symm) fun e=>h2 e.2),←h.mem];simp [h2]
  ·rw [Qa h1];by_cases h3:n=a
   ·subst h3;rw [Qb rfl,Zfo];by_cases h2:w=b
    ·subst h2;rw [Qb rfl];simp
    ·rw [Qa (fun z=>(Zdj z).elim (fun e=>h2 e.2) fun e=>h1 e.1),←h.mem];simp [h2]
   ·rw [Qa h3,Qa (fun z=>(Zdj z).elim (fun e=>h3 e.1) fun e=>h1 e.1),←h.mem]
theorem SOk.same {F F':ZO} {G:XN} (h:SOk F G) (e:∀n,F' ("S",n)=F ("S",n)):SOk F' G:=⟨fun n=>by rw [e];exact h.up n,fun n=>by rw [e];exact h.nd n,fun n w=>by rw [e];exact h.mem n w⟩
theorem ZkH {F:ZO} {G:XN} {e:Ent} (ap:X2 e) (h:SOk F G):SOk (WW F G e) (U8 G e):=by
 cases e with
 |union a b d=>exact ZeW (ap rfl) h _
 |parted a b d=>exact ZeW (ap rfl) h _
 |born n s d f m=>exact h.same fun n'=>JW _ _ _ _ _ _ (by decide +kernel) (by decide +kernel) (by decide +kernel) (by decide +kernel)
 |taken c t d =>
  refine h.same fun n'=>?_;show Z0 (Z0 F ("T",c) t) ("t",t) c ("S",n')=_;rw [YO,Qa (fun z=>absurd z.1 (by decide +kernel)),YO,Qa (fun z=>absurd z.1 (by decide +kernel))]
 |dead n d=>exact h.same fun n'=>rfl
 |given a b am d=>exact h.same fun n'=>rfl
theorem ZlR {es:List Ent} (h:∀e∈es,X2 e):SOk (YC es).1 (YC es).2:=by
 have go:∀(es:List Ent) (p:ZO×XN),(∀e∈es,X2 e)->SOk p.1 p.2->SOk (es.foldl UL p).1 (es.foldl UL p).2:=by
  intro es
  induction es with
  |nil=>intro p _ h;exact h
  |cons e es ih =>
   intro p ha h;exact ih _ (fun x hx=>ha x (QC _ hx)) (ZkH (ha e (QI ..)) h)
 exact go es _ h ⟨fun n=>.nil,fun n=>.nil,fun n w=>by simp [YI]⟩
noncomputable def tl (c:Str×Str) (es:List Ent):List (Int×Str):=es.filterMap fun e=>if e.tie=true∧Ze e.pr.1 e.pr.2=c then some (e.day,e.kind) else none
theorem Zgk {l:List (Int×Str)} {d:Int} {k:Str} (h:d∉l.map (·.1)):Zo l d k=l++[(d,k)]:=by
 unfold Zo;rw [Qa];intro z;rw [Gs] at z;obtain ⟨q,hq,e⟩:=z;exact h (Qg.mpr ⟨q,hq,Q0 e⟩)
theorem ZoS {G:XN} {es:List Ent} {e:Ent} (hG:∀c,G c=tl c es) (n:e.tie=true->e.day∉(tl (Ze e.pr.1 e.pr.2) es).map (·.1)) (c:Str×Str):U8 G e c=tl c (es++[e]):=by
 have ap:tl c (es++[e])=tl c es++tl c [e]:=by unfold tl;rw [R7]
 rw [ap];cases e with
 |union a b d =>
  show (if c=Ze a b then Zo (G (Ze a b)) d "union" else G c)=_;by_cases h:c=Ze a b
  ·subst h;have n':d∉(tl (Ze a b) es).map (·.1):=n rfl;rw [Qb rfl,hG,Zgk n'];simp [tl,Ent.tie,Ent.pr,Ent.day,Ent.kind]
  ·rw [Qa h,hG];simp [tl,Ent.tie,Ent.pr,QY h]
 |parted a b d =>
  show (if c=Ze a b then Zo (G (Ze a b)) d "parted" else G c)=_;by_cases h:c=Ze a b
  ·subst h;have n':d∉(tl (Ze a b) es).map (·.1):=n rfl;rw [Qb rfl,hG,Zgk n'];simp [tl,Ent.tie,Ent.pr,Ent.day,Ent.kind]
  ·rw [Qa h,hG];simp [tl,Ent.tie,Ent.pr,QY h]
 |_=>rw [show U8 G _ c=G c from rfl,hG];simp [tl,Ent.tie]
def Once (es:List Ent):Prop:=∀c,((tl c es).map (·.1)).Nodup
theorem Once.init {es:List Ent} {e:Ent} (h:Once (es++[e])):Once es∧(e.tie=true->e.day∉(tl (Ze e.pr.1 e.pr.2) es).map (·.1)):=by
 have ap:∀c,tl c (es++[e])=tl c es++tl c [e]:=fun c=>by unfold tl;rw [R7]
 refine ⟨fun c=>?_,fun t m=>?_⟩
 ·have:=h c;rw [ap,Qs,QW] at this;exact this.1
 ·have:=h (Ze e.pr.1 e.pr.2);rw [ap,Qs,QW] at this;have e1:tl (Ze e.pr.1 e.pr.2) [e]=[(e.day,e.kind)]:=by simp [tl,t]
  rw [e1] at this;exact this.2.2 _ m _ (QI ..) rfl
theorem ZfN {es:List Ent} (h:Once es) (c:Str×Str):(YC es).2 c=tl c es:=by
 have go:∀n (es:List Ent),es.length=n->Once es->∀c,(YC es).2 c=tl c es:=by
  intro n
  induction n with
  |zero =>
   intro es hl _ c;rw [List.length_eq_zero_iff.mp hl];rfl
  |succ n ih =>
   intro es hl ho c;obtain ⟨xs,x,rfl⟩:∃xs x,es=xs++[x]:=⟨es.dropLast,es.getLast (by intro z;rw [z] at hl;cases hl),(NC _).symm⟩;obtain ⟨o1,o2⟩:=ho.init;rw [Zas];exact ZoS (ih xs (by rw [Qn] at hl;exact Nat.succ.inj hl) o1) o2 c
 exact go _ es rfl h c
noncomputable def W4 (a b:Str) (last:Option Ent) (e:Ent):Option Ent:=if e.tie=true∧Ze e.pr.1 e.pr.2=Ze a b then (match last with|none=>some e|some l=>if l.day<e.day then some e else some l) else last
noncomputable def ZaO (ds:List Ent) (a b:Str):Bool:=match ds.foldl (W4 a b) none with
 |some e=>decide (e.kind="union")
 |none=>false
def U5 (last:Option Ent) (l:List (Int×Str)):Prop:=match last with
 |none=>l=[]
 |some e=>(e.day,e.kind)∈l∧∀q∈l,q.1≤e.day
theorem Zkm {a b:Str} {last:Option Ent} {xs:List Ent} {e:Ent} (h:U5 last (tl (Ze a b) xs)):U5 (W4 a b last e) (tl (Ze a b) (xs++[e])):=by
 have ap:tl (Ze a b) (xs++[e])=tl (Ze a b) xs++tl (Ze a b) [e]:=by unfold tl;rw [R7]
 rw [ap];unfold W4;by_cases c:e.tie=true∧Ze e.pr.1 e.pr.2=Ze a b
 ·rw [Qb c];have e1:tl (Ze a b) [e]=[(e.day,e.kind)]:=by unfold tl;simp [c.1,c.2]
  rw [e1];cases last with
  |none =>
   have h':tl (Ze a b) xs=[]:=h;rw [h'];exact ⟨QI ..,fun q hq=>by rw [show q=(e.day,e.kind) by simpa using hq];exact GS _⟩
  |some l =>
   obtain ⟨h1,h2⟩:=(show (l.day,l.kind)∈tl (Ze a b) xs∧∀q∈tl (Ze a b) xs,q.1≤l.day from h);by_cases lt:l.day<e.day
   ·show U5 (if l.day<e.day then some e else some l) _;rw [Qb lt];refine ⟨by simp,fun q hq=>?_⟩;rcases Ql.mp hq with hq|hq
    ·have:=h2 q hq;show q.1≤e.day;omega
    ·rw [show q=(e.day,e.kind) by simpa using hq];exact GS _
   ·show U5 (if l.day<e.day then some e else some l) _;rw [Qa lt];refine ⟨Ql.mpr (.inl h1),fun q hq=>?_⟩;rcases Ql.mp hq with hq|hq
    ·exact h2 q hq
    ·rw [show q=(e.day,e.kind) by simpa using hq];show e.day≤l.day;omega
 ·rw [Qa c];have e1:tl (Ze a b) [e]=[]:=by unfold tl;simp [c]
  rw [e1,Qu];exact h
theorem Zhx {a b:Str}:∀(ds xs:List Ent) (last:Option Ent),U5 last (tl (Ze a b) xs)->U5 (ds.foldl (W4 a b) last) (tl (Ze a b) (xs++ds))
 |[],xs,last,h=>by rw [Qu];exact h
 |e::ds,xs,last,h=>by
  rw [Q6,show xs++e::ds=(xs++[e])++ds by simp];exact Zhx ds (xs++[e]) _ (Zkm h)
theorem Zjz {l:List (Int×Str)} {m:Int} {k:Str}:(l.map (·.1)).Nodup->(m,k)∈l->ZC m l=some k:=by
 induction l with
 |nil=>intro _ h;cases h
 |cons q r ih =>
  intro n h;rw [Qt,QO] at n;unfold ZC;rcases Qh.mp h with h|h
  ·rw [Qb (by rw [←h]),←h]
  ·rw [Qa (fun z=>n.1 (Qg.mpr ⟨(m,k),h,z.symm⟩))];exact ih n.2 h
theorem ZlL {ds:List Ent} (o:Once ds) (a b:Str):ZaO ds a b=YI (tl (Ze a b) ds):=by
 have h:=Zhx (a:=a) (b:=b) ds [] none rfl;rw [List.nil_append] at h;unfold ZaO;cases hl:ds.foldl (W4 a b) none with
 |none =>
  rw [hl] at h;rw [show tl (Ze a b) ds=[] from h];rfl
 |some e =>
  rw [hl] at h;obtain ⟨h1,h2⟩:=(show (e.day,e.kind)∈tl (Ze a b) ds∧∀q∈tl (Ze a b) ds,q.1≤e.day from h)
  have:=ZhA (l:=tl (Ze a b) ds) (m:=e.day) (x:=e.kind) (Qg.mpr ⟨_,h1,rfl⟩) (fun y hy=>by
   obtain ⟨q,hq,rfl⟩:=Qg.mp hy;exact h2 q hq) (Zjz (o _) h1)
  rw [this]
theorem Zln (e:Ent):e.told.tie=e.tie∧Ze e.told.pr.1 e.told.pr.2=Ze e.pr.1 e.pr.2∧e.told.day=e.day∧e.told.kind=e.kind:=by
 cases e with
 |union a b d=>exact ⟨rfl,VJ a b,rfl,rfl⟩
 |parted a b d=>exact ⟨rfl,VJ a b,rfl,rfl⟩
 |_=>exact ⟨rfl,rfl,rfl,rfl⟩
theorem Zmh {e:Ent} (h:X2 e):X2 e.told:=fun t=>by
 obtain ⟨h1,h2,_,_⟩:=Zln e;rw [h1] at t;have ne:=h t;intro z;apply ne
 have:∀a b:Str,(Ze a b).1=(Ze a b).2->a=b:=fun a b h=>by
  unfold Ze at h;split at h
  ·exact h.symm
  ·exact h
 cases e with
 |union a b d=>exact this a b z
 |parted a b d=>exact this a b z
 |_=>cases t
theorem Zfs {f:Ent->List Str} (h:∀e,(f e).length≤1):∀l:List Ent,(l.flatMap f).length≤l.length
 |[]=>Qf _
 |e::l=>by
  rw [NJ,Qn,QK];have:=Zfs h l;have:=h e;omega
theorem Jc (n:Str) (e:Ent):(W7 n e).length≤1∧(Ve n e).length≤1∧(W1 n e).length≤1∧(Vg n e).length≤1∧(addT n e).length≤1∧(VI n e).length≤1:=by
 cases e<;>simp only [W7,Ve,W1,Vg,addT,VI]<;>refine ⟨?_,?_,?_,?_,?_,?_⟩<;>(try split)<;>simp
theorem Zjs {es:List Ent} {l:Str} (h:l∉Xu) (n:Str):(YC es).1 (l,n)=[]:=by
 have hh:l≠"F"∧l≠"M"∧l≠"T"∧l≠"f"∧l≠"m"∧l≠"t"∧l≠"S":=by simpa [Xu] using h
 obtain ⟨h1,h2,h3,h4,h5,h6,h7⟩:=hh
 have go:∀(es:List Ent) (p:ZO×XN),p.1 (l,n)=[]->(es.foldl UL p).1 (l,n)=[]:=by
  intro es
  induction es with
  |nil=>intro p h;exact h
  |cons e es ih =>
   intro p h;rw [Q6];refine ih _ ?_;show WW p.1 p.2 e (l,n)=[];cases e with
   |born n' s d f m=>show Xl p.1 n' f m (l,n)=[];rw [JW _ _ _ _ _ _ h1 h4 h2 h5];exact h
   |taken c t d=>show Z0 (Z0 p.1 ("T",c) t) ("t",t) c (l,n)=[];rw [YO,Qa (fun z=>h6 z.1),YO,Qa (fun z=>h3 z.1)];exact h
   |union a b d=>show ZH _ _ _ _ _=[];rw [Ym _ _ _ _ _ _ h7,Ym _ _ _ _ _ _ h7];exact h
   |parted a b d=>show ZH _ _ _ _ _=[];rw [Ym _ _ _ _ _ _ h7,Ym _ _ _ _ _ _ h7];exact h
   |dead a d=>exact h
   |given a b am d=>exact h
 exact go es _ rfl
structure BSt (B:Bk) (es:List Ent):Prop where
 kept:B.kept.map (·.1)=es
 lks:lk B.links=(YC es).1
 tis:YU B.ties=(YC es).2
 nd:(B.ties.map (·.1)).Nodup
 nl:B.links.length≤4*es.length
 nt:B.ties.length≤es.length
 ns:B.sums.length≤es.length
theorem BSt.start:BSt Vd []:=⟨rfl,rfl,rfl,.nil,Qf _,Qf _,Qf _⟩
theorem BSt.put {B B':Bk} {es:List Ent} {e:Ent} (h:BSt B es) (p:Put B e B'):BSt B' (es++[e.told]):=by
 obtain ⟨a,hk⟩:=p.kept;have l1:(es++[e.told]).length=es.length+1:=by rw [Qn];rfl
 have n1:=p.nl;have n2:=p.nt;have n3:=p.ns;have m1:=h.nl;have m2:=h.nt;have m3:=h.ns;refine ⟨by rw [hk,Qs,h.kept];rfl,?_,?_,p.nd,by omega,by omega,by omega⟩
 ·funext c
  rw [Zas,p.lks,h.lks,h.tis];rfl
 ·funext c
  rw [Zas,p.tis,h.tis];rfl
theorem Zof (c:Str×Str) (es:List Ent):(tl c es).length≤es.length:=Nw ..
theorem ZhF {κ:Type} [DecidableEq κ] {k:κ}:∀{l:List (κ×V)},(∀p∈l,p.1≠k)->ZI l k=none
 |[],_=>rfl
 |p::l,h=>by
  rw [X0 (h p (QI ..))];exact ZhF fun q hq=>h q (QC _ hq)
theorem Zk5 {B:Bk} {es:List Ent} (hk:B.kept.map (·.1)=es) {k:List Zj} (h:∀e∈es,e.key≠k):ZI B.keptD k=none:=by
 refine ZhF fun p hp=>?_;obtain ⟨q,hq,rfl⟩:=Qg.mp hp;exact h q.1 (by rw [←hk];exact Qg.mpr ⟨q,hq,rfl⟩)
theorem Zfp {B:Bk} {es:List Ent} (hk:B.kept.map (·.1)=es):B.kept.length=es.length:=by rw [←hk,Qd]
theorem Zc4 {K:W.Frag} {H:Hp}:∀zs:List Str,IsL K H (zs.map D.str) (zs.map V.str)
 |[]=>rfl
 |z::zs=>⟨_,_,rfl,rfl,Zc4 zs⟩
theorem ZhE:∀zs:List Str,Xq (zs.map D.str)=0
 |[]=>rfl
 |z::zs=>by
  show max 0 (Xq (zs.map D.str))=0;rw [ZhE zs];rfl
def Zjn (K:W.Frag) (H:Hp) (B:Bk) (x:V):Prop:=(∃ty,Kd K H x ty∧W.kitOne K ty (.type "str")=some false)∨∃n,x=.str n∧ZZ n B.kept=none
theorem Zl9 (l:List (Ent×Addr)):(Bk.bornD l).length=(WM l).length:=by rw [ZjP,Qd,←Zot,Qd]
noncomputable def amt (c:Str×Str):Ent->Int
 |.given g t am _=>if c=(g,t) then am else 0
 |_=>0
noncomputable def JL (c:Str×Str) (es:List Ent):Int:=(es.map (amt c)).sum
theorem Ziv (c:Str×Str) (es:List Ent) (e:Ent):JL c (es++[e])=JL c es+amt c e:=by
 unfold JL;rw [Qs,List.sum_append];simp
theorem Zhh {F:Str×Str->List Str} {st:Bool} {a b:Str} (ne:a≠b) (c:Str×Str):(ZH (ZH F st a b) st b a c).length≤(F c).length+1:=by
 by_cases e:c=(("S",b):Str×Str)
 ·refine Qq (ZbM ..) ?_
  have:ZH F st a b c=F c:=by
   unfold ZH;rw [Qa];intro z;rw [e] at z;injection z with _ z2;exact ne z2.symm
  rw [this];exact Qf _
 ·have:ZH (ZH F st a b) st b a c=ZH F st a b c:=by
   show (if c=(("S",b):Str×Str) then _ else ZH F st a b c)=_;rw [Qa e]
  rw [this];exact ZbM ..
def D5 (pool:List Str) (e:Ent):Prop:=e.Ok∧(∀n∈e.named,n∈pool)∧∀n,e.bornName=some n->n∈pool
noncomputable def LBk (ks:List (Ent×Addr)):Bk:=⟨ks,[],[],[]⟩
structure KsOk (ks:List (Ent×Addr)):Prop where
 told:∀p∈ks,p.1.told=p.1
 nd:(WM ks).Nodup
 len:ks.length≤60
theorem Zl7 {k:List Zj}:∀{l m:List (Ent×Addr)},l.map (·.1)=m.map (·.1)->(ZI (l.map fun p=>(p.1.key,V.ref p.2)) k).isSome=(ZI (m.map fun p=>(p.1.key,V.ref p.2)) k).isSome:=by
 intro l
 induction l with
 |nil=>intro m h;cases m with
  |nil=>rfl
  |cons q m=>cases h
 |cons p l ih=>intro m h;cases m with
  |nil=>cases h
  |cons q m =>
   have h1:p.1=q.1:=(RA h).1;have h2:=(RA h).2;rw [Qt,Qt];by_cases c:p.1.key=k
   ·rw [XV (show (p.1.key,V.ref p.2).1=k from c),XV (show q.1.key=k by rw [←h1];exact c)];rfl
   ·rw [X0 (show ¬(p.1.key,V.ref p.2).1=k from c),X0 (show ¬q.1.key=k by rw [←h1];exact c)];exact ih h2
theorem Zkz {k:List Zj}:∀{ks:List (Ent×Addr)},(∃p∈ks,p.1.key=k)->(ZI (LBk ks).keptD k).isSome=true:=by
 intro ks
 induction ks with
 |nil=>rintro ⟨p,hp,_⟩;cases hp
 |cons q ks ih =>
  rintro ⟨p,hp,e⟩;show (ZI ((q.1.key,V.ref q.2)::(LBk ks).keptD) k).isSome=true;by_cases c:q.1.key=k
  ·rw [XV (show (q.1.key,V.ref q.2).1=k from c)];rfl
  ·rw [X0 (show ¬(q.1.key,V.ref q.2).1=k from c)];rcases Qh.mp hp with rfl|hp
   ·exact absurd e c
   ·exact ih ⟨p,hp,e⟩
theorem ZjK:∀{es:List Ent},(∀e∈es,X2 e)->∀n,((YC es).1 ("S",n)).length≤es.length:=by
 have go:∀k (es:List Ent),es.length=k->(∀e∈es,X2 e)->∀n,((YC es).1 ("S",n)).length≤es.length:=by
  intro k
  induction k with
  |zero =>
   intro es h _ n;have:es=[]:=List.eq_nil_of_length_eq_zero h;subst this;exact Qf _
  |succ k ih =>
   intro es h ap n;have ne:es≠[]:=fun z=>by rw [z] at h;cases h
   obtain ⟨xs,e,rfl⟩:∃xs e,es=xs++[e]:=⟨_,_,(NC ne).symm⟩;have lx:xs.length=k:=by rw [Qn] at h;exact Nat.succ.inj h
   have ih:=ih xs lx (fun x hx=>ap x (Ql.mpr (.inl hx))) n;have ae:=ap e (Ql.mpr (.inr (QD.mpr rfl)));rw [Zas,Qn]
   have key:(WW (YC xs).1 (YC xs).2 e ("S",n)).length≤((YC xs).1 ("S",n)).length+1:=by
    cases e with
    |born n' s d f m =>
     show (Xl (YC xs).1 n' f m ("S",n)).length≤_;rw [JW _ _ _ _ _ _ (by decide +kernel) (by decide +kernel) (by decide +kernel) (by decide +kernel)];exact QT _
    |taken c t d =>
     show (Z0 (Z0 (YC xs).1 ("T",c) t) ("t",t) c ("S",n)).length≤_;rw [YO,Qa (fun z=>absurd z.1 (by decide +kernel)),YO,Qa (fun z=>absurd z.1 (by decide +kernel))];exact QT _
    |union a b d=>exact Zhh (ae rfl) _
    |parted a b d=>exact Zhh (ae rfl) _
    |dead a d=>exact QT _
    |given a b am d=>exact QT _
   show (WW (YC xs).1 (YC xs).2 e ("S",n)).length≤xs.length+1;omega
 intro es h n;exact go es.length es rfl h n
theorem Zj1 {es:List Ent} (h:∀e∈es,X2 e) (c:Str×Str):((YC es).1 c).length≤es.length:=by
 obtain ⟨l,n⟩:=c
 have six:∀{ad:Str->Ent->List Str},Adds l ad->(∀e,(ad n e).length≤1)->((YC es).1 (l,n)).length≤es.length:=fun A h1=>by
  rw [A.all,(WO _).length_eq];exact Zfs h1 es
 by_cases hl:l∈Xu
 ·simp only [Xu,Qh,QF,QG] at hl;rcases hl with rfl|rfl|rfl|rfl|rfl|rfl|rfl
  ·exact six ZhX fun e=>(Jc n e).1
  ·exact six Zh6 fun e=>(Jc n e).2.1
  ·exact six Zed fun e=>(Jc n e).2.2.2.2.1
  ·exact six ZeT fun e=>(Jc n e).2.2.1
  ·exact six ZeS fun e=>(Jc n e).2.2.2.1
  ·exact six ZhZ fun e=>(Jc n e).2.2.2.2.2
  ·exact ZjK h n
 ·rw [Zjs hl];exact QZ _
theorem Zng {ds:List Ent} (h:(ds.map fun e=>e.told.key).Nodup):Once ds:=by
 intro c
 have go:∀ds:List Ent,(ds.map fun e=>e.told.key).Nodup->((tl c ds).map (·.1)).Nodup:=by
  intro ds
  induction ds with
  |nil=>intro _;exact .nil
  |cons e ds ih =>
   intro n;rw [Qt,QO] at n;have ih:=ih n.2;unfold tl at ih ⊢;rw [Q4];by_cases cc:e.tie=true∧Ze e.pr.1 e.pr.2=c
   ·rw [Qb cc];show (_::_).Nodup;rw [QO];refine ⟨fun m=>?_,ih⟩;obtain ⟨q,hq,eq⟩:=Qg.mp m;obtain ⟨x,hx,ex⟩:=Rk.mp hq;by_cases c2:x.tie=true∧Ze x.pr.1 x.pr.2=c
    ·rw [Qb c2] at ex;have:=Qo ex;subst this;refine n.1 (Qg.mpr ⟨x,hx,?_⟩)
     have kk:∀y:Ent,y.tie=true->y.told.key=[.inr "tie",.inr (Ze y.pr.1 y.pr.2).1,.inr (Ze y.pr.1 y.pr.2).2,.inl y.day]:=fun y hy=>by
      cases y with
      |union=>rfl
      |parted=>rfl
      |_=>cases hy
     rw [kk x c2.1,kk e cc.1,c2.2,cc.2,show x.day=e.day from eq]
    ·rw [Qa c2] at ex;cases ex
   ·rw [Qa cc];exact ih
 exact go ds h
structure LI5 (pool:List Str) (B:Bk) (ks:List (Ent×Addr)):Prop where
 st:BSt B (ks.map (·.1))
 sus:∀c,Xb B.sums c=JL c (ks.map (·.1))
 told:∀p∈ks,p.1.told=p.1
 keys:(ks.map fun p=>p.1.told.key).Nodup
 inp:∀p∈ks,∀n,p.1.bornName=some n->n∈pool
 ap:∀p∈ks,X2 p.1
theorem LI5.start (pool:List Str):LI5 pool Vd []:=⟨BSt.start,fun _=>rfl,fun p hp=>(by cases hp),.nil,fun p hp=>(by cases hp),fun p hp=>(by cases hp)⟩
theorem LI5.ap' {pool:List Str} {B:Bk} {ks:List (Ent×Addr)} (h:LI5 pool B ks):∀e∈ks.map (·.1),X2 e:=fun e he=>by
 obtain ⟨p,hp,rfl⟩:=Qg.mp he;exact h.ap p hp
theorem LI5.once {pool:List Str} {B:Bk} {ks:List (Ent×Addr)} (h:LI5 pool B ks):Once (ks.map (·.1)):=by
 refine Zng ?_;rw [QU];exact h.keys
theorem LI5.room {pool:List Str} {B:Bk} {ks:List (Ent×Addr)} (h:LI5 pool B ks) (l:ks.length≤60):Room1 B:=by
 have e:(ks.map (·.1)).length=ks.length:=Qd ..;have m1:=h.st.nl;have m2:=h.st.nt;have m3:=h.st.ns;refine ⟨h.st.nd,by omega,by omega,by omega,fun c=>?_,fun c=>?_⟩
 ·rw [h.st.lks];exact Qq (Zj1 h.ap' c) (by omega)
 ·rw [h.st.tis,ZfN h.once];exact Qq (Zof c _) (by omega)
theorem ZgU (e:Ent):e.told.bornName=e.bornName:=by cases e<;>rfl
theorem ZoE {B:Bk} {e:Ent} (h:Wb B e=true):X2 e:=fun t=>by
 cases e with
 |union a b d =>
  intro z;rw [Zbf rfl,show (Ent.union a b d).same=true from Qw (show a=b from z)] at h;cases h
 |parted a b d =>
  intro z;rw [Zbf rfl,show (Ent.parted a b d).same=true from Qw (show a=b from z)] at h;cases h
 |_=>cases t
theorem Zg3 {B:Bk} {e:Ent} (h:XY B e=none):B.kept.length<400∧(e.isBorn=true->(Bk.bornD B.kept).length<60)∧(∀n∈e.named,Known B n)∧ZI B.keptD e.told.key=none∧Wb B e=true:=by
 obtain ⟨h1,h2,h3⟩:=ZeV h;unfold XY at h;by_cases f:B.full e=true
 ·rw [Qb f] at h;cases h
 ·rw [Qa f,Qa (by rw [Zg2 h3];decide),Qa (by rw [h1];decide)] at h;refine ⟨h2,fun b=>?_,h3,h1,?_⟩
  ·unfold Bk.full at f;rw [b,Gv,R6,not_or] at f;have:=f.2;rw [GT] at this;omega
  ·cases hf:Wb B e with
   |true=>rfl
   |false=>rw [hf,Qa (by decide)] at h;cases h
theorem LI5.put {pool:List Str} {B B':Bk} {ks:List (Ent×Addr)} {e:Ent} (h:LI5 pool B ks) (p:Put B e B') (d:D5 pool e) (no:XY B e=none) (a:Addr):LI5 pool B' (ks++[(e.told,a)]):=by
 obtain ⟨_,_,_,hv,hf⟩:=Zg3 no;have st:=h.st.put p;have em:(ks++[(e.told,a)]).map (·.1)=ks.map (·.1)++[e.told]:=by rw [Qs];rfl
 rw [←em] at st;have one:∀q∈ks++[(e.told,a)],q∈ks∨q=(e.told,a):=fun q hq=>(Ql.mp hq).imp id (fun z=>by simpa using z);refine ⟨st,fun c=>?_,fun q hq=>?_,?_,fun q hq n hn=>?_,fun q hq=>?_⟩
 ·rw [p.su c,em,Ziv];generalize e.told=e' at *;cases e' with
  |given x y am d =>
   show (if c=(x,y) then Xb B.sums c+am else Xb B.sums c)=JL c _+(if c=(x,y) then am else 0);rw [h.sus];split<;>simp
  |_=>rw [show Zbg (Xb B.sums) _ c=Xb B.sums c from rfl,h.sus];exact (Int.add_zero _).symm
 ·rcases one q hq with hq|rfl
  ·exact h.told q hq
  ·exact Zav e
 ·rw [Qs,QW];refine ⟨h.keys,by simp,fun x hx y hy z=>?_⟩;have hy':y=e.told.told.key:=by simpa using hy
  obtain ⟨q,hq,rfl⟩:=Qg.mp hx;have kn:(ZI (LBk ks).keptD e.told.key).isSome=true:=Zkz ⟨q,hq,by rw [h.told q hq] at z;rw [z,hy',Zav]⟩;have kv:(ZI B.keptD e.told.key).isSome=(ZI (LBk ks).keptD e.told.key).isSome:=Zl7 (l:=B.kept) (m:=ks) h.st.kept;rw [kn,hv] at kv;cases kv
 ·rcases one q hq with hq|rfl
  ·exact h.inp q hq n hn
  ·exact d.2.2 n (by rw [←ZgU];exact hn)
 ·rcases one q hq with hq|rfl
  ·exact h.ap q hq
  ·exact Zmh (ZoE hf)
theorem Zi7 {l m:List Str} (h:l.Nodup) (s:∀x∈l,x∈m):l.length≤m.length:=by
 induction l generalizing m with
 |nil=>exact QZ _
 |cons a l ih =>
  have hn:=QO.mp h;have am:=s a (QI ..);have:=ih (m:=m.erase a) hn.2 fun x hx=>(List.mem_erase_of_ne (fun z=>hn.1 (by rw [←z];exact hx))).mpr (s x (QC _ hx));rw [List.length_erase_of_mem am] at this;have:=List.length_pos_of_mem am;rw [QK];omega
theorem LI5.names {pool:List Str} {B:Bk} {ks:List (Ent×Addr)} (h:LI5 pool B ks):(WM ks).Nodup∧∀n∈WM ks,n∈pool:=by
 refine ⟨?_,fun n hn=>?_⟩
 ·have k:=h.keys;clear h
  induction ks with
  |nil=>exact .nil
  |cons p ks ih =>
   have kn:=QO.mp (show (p.1.told.key::ks.map fun p=>p.1.told.key).Nodup from k);have ih:=ih kn.2;unfold WM at ih ⊢;rw [Q4];cases hb:p.1.bornName with
   |none=>exact ih
   |some n =>
    refine QO.mpr ⟨fun hm=>?_,ih⟩;obtain ⟨q,hq,eq⟩:=Rk.mp hm;refine kn.1 (Qg.mpr ⟨q,hq,?_⟩)
    have bk:∀e:Ent,e.bornName=some n->e.told.key=[.inr "born",.inr n]:=fun e he=>by
     cases e with
     |born n' s d f m=>cases he;rfl
     |_=>cases he
    rw [bk _ eq,bk _ hb]
 ·obtain ⟨q,hq,eq⟩:=Rk.mp hn;exact h.inp q hq n eq
theorem LI5.ksok {pool:List Str} {B:Bk} {ks:List (Ent×Addr)} (h:LI5 pool B ks) (l:ks.length≤60) (p33:pool.length≤33):KsOk ks∧(WM ks).length<60:=by
 obtain ⟨n1,n2⟩:=h.names;exact ⟨⟨h.told,n1,l⟩,RM (Zi7 n1 n2) (by omega)⟩
structure Fit (xs:List Ent) (e:Ent):Prop where
 kn:∀n∈e.named,∃s d f m,Ent.born n s d f m∈xs∧d≤e.day
 key:∀x∈xs,x.key≠e.told.key
 par:∀n s d f m,e=.born n s d f m->(f=""∨∃d' f' m',Ent.born f "he" d' f' m'∈xs∧d'<d)∧(m=""∨∃d' f' m',Ent.born m "she" d' f' m'∈xs∧d'<d)
 tk:∀c t d,e=.taken c t d->∀sc dc fc mc st dt ft mt,Ent.born c sc dc fc mc∈xs->Ent.born t st dt ft mt∈xs->dt<dc
 ap:e.same=false
def BU (xs:List Ent):Prop:=∀{n s d f m s' d' f' m'},Ent.born n s d f m∈xs->Ent.born n s' d' f' m'∈xs->Ent.born n s d f m=.born n s' d' f' m'
theorem Jm {B:Bk} {xs:List Ent} (h:B.kept.map (·.1)=xs) (u:BU xs) {n s f m:Str} {d:Int} (hm:Ent.born n s d f m∈xs):Known B n∧X9 B n=s∧Yh B n=d:=by
 obtain ⟨a,ha⟩:=ZhH (l:=B.kept) (by rw [h];exact hm) fun {s' d' f' m'} hm'=>by
  rw [h] at hm';exact u hm' hm
 exact ⟨by unfold Known;rw [ha];simp,ZaW ha rfl,Zae ha rfl⟩
theorem Zmc {B:Bk} {xs:List Ent} {e:Ent} (h:B.kept.map (·.1)=xs) (u:BU xs) (l:xs.length<400) (b:e.isBorn=true->(WM B.kept).length<60) (f:Fit xs e):XY B e=none:=by
 have kl:=Zfp h;refine Zoc ?_ (fun n hn=>?_) ?_ ?_
 ·unfold Bk.full;rw [Qm (show ¬400≤B.kept.length by omega),Zl9];cases hb:e.isBorn with
  |false=>rfl
  |true=>rw [Qm (show ¬60≤(WM B.kept).length by have:=b hb;omega)];rfl
 ·obtain ⟨s,d,f',m,h1,_⟩:=f.kn n hn;exact (Jm h u h1).1
 ·rw [Zk5 h f.key];rfl
 ·cases hi:e.isBorn with
  |true =>
   cases e with
   |born n s d fa mo =>
    obtain ⟨p1,p2⟩:=f.par n s d fa mo rfl
    have one:∀{x so:Str},(x=""∨∃d' f' m',Ent.born x so d' f' m'∈xs∧d'<d)->XF B x so d=true:=fun {x so} hx=>by
     unfold XF;rcases hx with rfl|⟨d',f',m',h1,h2⟩
     ·rfl
     ·obtain ⟨_,e1,e2⟩:=Jm h u h1;rw [e1,e2,Qw rfl,Qw h2,Gv,Bool.or_true]
    show (XF B fa "he" d&&XF B mo "she" d)=true;rw [one p1,one p2];rfl
   |_=>cases hi
  |false =>
   rw [Zbf hi,f.ap]
   have he:e.early B=false:=by
    cases e with
    |taken c t d =>
     obtain ⟨sc,dc,fc,mc,h1,_⟩:=f.kn c (by simp [Ent.named]);obtain ⟨st,dt,ft,mt,h2,_⟩:=f.kn t (by simp [Ent.named]);have h3:=f.tk c t d rfl _ _ _ _ _ _ _ _ h1 h2;show decide (Yh B c≤Yh B t)=false;rw [(Jm h u h1).2.2,(Jm h u h2).2.2];exact Qm (by omega)
    |_=>rfl
   rw [he];show (e.named.all fun n=>decide (Yh B n≤e.day))=true;rw [RQ];intro n hn;obtain ⟨s,d,f',m,h1,h2⟩:=f.kn n hn;rw [(Jm h u h1).2.2];exact Qw h2
inductive GdL (pool:List Str):List Ent->Prop
 |nil:GdL pool []
 |snoc {es:List Ent} {e:Ent} (h:GdL pool es) (d:D5 pool e) (d':D5 pool e.told) (f:Fit (es.map Ent.told) e):GdL pool (es++[e])
theorem GdL.last {pool:List Str} {l:List Ent} (h:GdL pool l) {xs:List Ent} {e:Ent} (el:l=xs++[e]):GdL pool xs∧D5 pool e∧D5 pool e.told∧Fit (xs.map Ent.told) e:=by
 cases h with
 |nil=>simp at el
 |snoc h d d' f =>
  obtain ⟨e1,e2⟩:=List.append_inj' el rfl;obtain ⟨e3,_⟩:=RA e2;subst e1 e3;exact ⟨h,d,d',f⟩
theorem GdL.take {pool:List Str} {l:List Ent} (h:GdL pool l):∀i,GdL pool (l.take i):=by
 induction h with
 |nil=>intro i;rw [List.take_nil];exact .nil
 |@snoc xs e h d d' f ih =>
  intro i;by_cases il:i≤xs.length
  ·rw [List.take_append_of_le_length il];exact ih i
  ·rw [RV (by rw [Qn];show _+1≤_;omega)];exact .snoc h d d' f
theorem GdL.bu {pool:List Str} {l:List Ent} (h:GdL pool l):BU (l.map Ent.told):=by
 induction h with
 |nil=>intro n s d f m s' d' f' m' h1;cases h1
 |@snoc xs e h d5 d5' f ih =>
  intro n s d fa m s' d' f' m' h1 h2;rw [Qs] at h1 h2;have kb:∀{x:Ent} {n s f m:Str} {d:Int},x=.born n s d f m->x.key=[.inr "born",.inr n]:=fun z=>by rw [z];rfl
  rcases Ql.mp h1 with h1|h1<;>rcases Ql.mp h2 with h2|h2
  ·exact ih h1 h2
  ·have e2:=QD.mp h2;exact absurd (by rw [←e2];rfl) (f.key _ h1)
  ·have e1:=QD.mp h1;exact absurd (by rw [←e1];rfl) (f.key _ h2)
  ·rw [QD.mp h1,QD.mp h2]
theorem GdL.d5 {pool:List Str} {l:List Ent} (h:GdL pool l):∀e∈l,D5 pool e:=by
 induction h with
 |nil=>intro e he;cases he
 |snoc h d5 d' f ih =>
  intro e he;rcases Ql.mp he with he|he
  ·exact ih e he
  ·rw [QD.mp he];exact d5
theorem LI5.put' {pool:List Str} {B B':Bk} {e:Ent} (h:LI5 pool B B.kept) (p:Put B e B') (d:D5 pool e) (no:XY B e=none):LI5 pool B' B'.kept∧B'.kept.map (·.1)=B.kept.map (·.1)++[e.told]:=by
 obtain ⟨a,ha⟩:=p.kept;have z:=h.put p d no a;rw [←ha] at z;exact ⟨z,by rw [ha,Qs];rfl⟩
theorem GdL.ref {pool:List Str} {B:Bk} {es:List Ent} {e:Ent} (li:LI5 pool B B.kept) (hk:B.kept.map (·.1)=es.map Ent.told) (g:GdL pool (es++[e])) (l:B.kept.length≤60) (p33:pool.length≤33):XY B e=none∧D5 pool e∧Room1 B:=by
 obtain ⟨g0,d5,_,f⟩:=g.last rfl;have kl:=Zfp hk;refine ⟨Zmc hk g0.bu (by rw [←kl];omega) (fun _=>(li.ksok l p33).2) f,d5,li.room l⟩
theorem Za9 {l:List Str} {i:Nat} {v:V} (h:(l.map V.str)[i]?=some v):∃x,l[i]?=some x∧v=.str x:=by
 rw [QA] at h;obtain ⟨x,hx,rfl⟩:=QQ.mp h;exact ⟨x,hx,rfl⟩
structure FitB (bs:List Ent) (e:Ent):Prop where
 nb:e.isBorn=false
 ok:e.Ok
 ok':e.told.Ok
 kn:∀n∈e.named,∃s d f m,Ent.born n s d f m∈bs∧d≤e.day
 tk:∀c t d,e=.taken c t d->∀sc dc fc mc st dt ft mt,Ent.born c sc dc fc mc∈bs->Ent.born t st dt ft mt∈bs->dt<dc
 ap:e.same=false
theorem GdL.more {pool:List Str}:∀{ds es bs:List Ent},GdL pool es->(∀n s d f m,Ent.born n s d f m∈es↔Ent.born n s d f m∈bs)->(∀e∈ds,FitB bs e)->((es++ds).map fun e=>e.told.key).Nodup->GdL pool (es++ds)
 |[],es,bs,g,_,_,_=>by rw [Qu];exact g
 |e::ds,es,bs,g,hb,hf,nd=>by
  have f:=hf e (QI ..)
  have bt:∀{n s f m:Str} {d:Int},Ent.born n s d f m∈es.map Ent.told↔Ent.born n s d f m∈bs:=fun {n s f m d}=>by
   rw [←hb];constructor
   ·intro h;obtain ⟨x,hx,ex⟩:=Qg.mp h;cases x with
    |born n' s' d' f' m'=>rw [←ex];exact hx
    |_=>cases ex
   ·intro h;exact Qg.mpr ⟨_,h,rfl⟩
  have inp:∀n s d f m,Ent.born n s d f m∈bs->n∈pool:=fun n s d f m h=>(g.d5 _ ((hb ..).mpr h)).2.2 n rfl;have bn:∀x:Ent,x.isBorn=false->x.bornName=none:=fun x hx=>by cases x<;>first|rfl|cases hx
  have d5:D5 pool e:=⟨f.ok,fun n hn=>by obtain ⟨s,d,fa,m,h1,_⟩:=f.kn n hn;exact inp _ _ _ _ _ h1,fun n hn=>by rw [bn e f.nb] at hn;cases hn⟩;have d5':D5 pool e.told:=⟨f.ok',fun n hn=>d5.2.1 n (ZgO e n hn),fun n hn=>by rw [ZgU] at hn;exact d5.2.2 n hn⟩
  have Jl:(es.map fun e=>e.told.key).Nodup∧∀x∈es,x.told.key≠e.told.key:=by
   rw [Qs,QW] at nd;exact ⟨nd.1,fun x hx=>nd.2.2 _ (Qg.mpr ⟨x,hx,rfl⟩) _ (by rw [Qt];exact QI ..)⟩
  have g1:GdL pool (es++[e]):=by
   refine .snoc g d5 d5' ⟨fun n hn=>?_,fun x hx=>?_,fun n s d fa m he=>?_,fun c t d he sc dc fc mc st dt ft mt h1 h2=>f.tk c t d he _ _ _ _ _ _ _ _ (bt.mp h1) (bt.mp h2),f.ap⟩
   ·obtain ⟨s,d,fa,m,h1,h2⟩:=f.kn n hn;exact ⟨s,d,fa,m,bt.mpr h1,h2⟩
   ·obtain ⟨y,hy,rfl⟩:=Qg.mp hx;exact Jl.2 y hy
   ·have:=f.nb;rw [he] at this;cases this
  have r:=GdL.more (ds:=ds) (es:=es++[e]) (bs:=bs) g1 (fun n s d fa m=>by
   rw [Ql];constructor
   ·rintro (h|h)
    ·exact (hb ..).mp h
    ·have:=f.nb;rw [←QD.mp h] at this;cases this
   ·intro h;exact .inl ((hb ..).mpr h)) (fun x hx=>hf x (QC _ hx)) (by rw [Gu];exact nd)
  rw [Gu] at r;exact r
theorem Zh1 {a b:Str} {d:Int} (ha:Nm a) (hb:Nm b) (d1:-10 ^ 18≤d) (d2:d≤10 ^ 18):(Ent.taken a b d).Ok∧(Ent.union a b d).Ok∧(Ent.union a b d).told.Ok∧(Ent.parted a b d).Ok∧(Ent.parted a b d).told.Ok:=by
 refine ⟨⟨V5 (.inl rfl) ha hb d1 d2,Ub (by decide +kernel) ha hb⟩,⟨V5 (.inr (.inl rfl)) ha hb d1 d2,Ub (by decide +kernel) ha hb⟩,?_,⟨V5 (.inr (.inr rfl)) ha hb d1 d2,Ub (by decide +kernel) ha hb⟩,?_⟩
 ·show (Ent.union (Ze a b).1 (Ze a b).2 d).Ok;unfold Ze;split
  ·exact ⟨V5 (.inr (.inl rfl)) hb ha d1 d2,Ub (by decide +kernel) hb ha⟩
  ·exact ⟨V5 (.inr (.inl rfl)) ha hb d1 d2,Ub (by decide +kernel) ha hb⟩
 ·show (Ent.parted (Ze a b).1 (Ze a b).2 d).Ok;unfold Ze;split
  ·exact ⟨V5 (.inr (.inr rfl)) hb ha d1 d2,Ub (by decide +kernel) hb ha⟩
  ·exact ⟨V5 (.inr (.inr rfl)) ha hb d1 d2,Ub (by decide +kernel) ha hb⟩
theorem GdL.keys {pool:List Str} {l:List Ent} (g:GdL pool l):(l.map fun e=>e.told.key).Nodup:=by
 induction g with
 |nil=>exact .nil
 |@snoc xs e g d d' f ih =>
  rw [Qs,QW];refine ⟨ih,by simp,fun a ha b hb z=>?_⟩;obtain ⟨x,hx,rfl⟩:=Qg.mp ha;have hb':b=e.told.key:=by simpa using hb
  exact f.key x.told (Qg.mpr ⟨x,hx,rfl⟩) (by rw [z,hb'])
theorem GdL.known {pool:List Str} {l:List Ent} (g:GdL pool l):∀e∈l,∀n∈e.named,∃s d f m,Ent.born n s d f m∈l.map Ent.told:=by
 induction g with
 |nil=>intro e he;cases he
 |@snoc xs e g d d' f ih =>
  intro x hx n hn;rw [Qs];rcases Ql.mp hx with hx|hx
  ·obtain ⟨s,d,f,m,h⟩:=ih x hx n hn;exact ⟨s,d,f,m,Ql.mpr (.inl h)⟩
  ·rw [QD.mp hx] at hn;obtain ⟨s,d,f,m,h,_⟩:=f.kn n hn;exact ⟨s,d,f,m,Ql.mpr (.inl h)⟩
noncomputable def Zq:List Str:=["F","M","T","f","m","t","S","he","she"]
noncomputable def VQ (x:Str):Bool:=decide (x∈(["he","she"]:List Str))
noncomputable def YB (B:Bk) (s n:Str):List Str:=if VQ s=true then (if X9 B n=s then [n] else []) else YA B s n
def XO (L:Str->Str->List Str):List Str->(Str->Prop)->Str->Prop
 |[],P=>P
 |s::w,P=>XO L w fun x=>∃y,P y∧x∈L s y
theorem Zf2 (L:Str->Str->List Str) (s:Str):∀(w:List Str) (P:Str->Prop),XO L (w++[s]) P=fun x=>∃y,XO L w P y∧x∈L s y
 |[],_=>rfl
 |t::w,P=>Zf2 L s w _
theorem Zdi {L:Str->Str->List Str} {R:Str->Prop} (cl:∀s∈Zq,∀y,R y->∀x∈L s y,R x):∀{w:List Str} {P:Str->Prop},(∀s∈w,s∈Zq)->(∀x,P x->R x)->∀x,XO L w P x->R x
 |[],_,_,hP,x,h=>hP x h
 |s::w,P,hw,hP,x,h=>Zdi cl (fun t ht=>hw t (QC _ ht)) (fun x ⟨y,p,m⟩=>cl s (hw s (QI ..)) y (hP y p) x m) x h
structure SrtOf (P:Str->Prop) (xs:List Str):Prop where
 up:xs.Pairwise fun a b=>YH a b=true
 nd:xs.Nodup
 mem:∀x,x∈xs↔P x
structure Clo (B:Bk) (pool:List Str):Prop where
 led:∀s∈Zq,∀n,Known B n->∀x∈YB B s n,Known B x
 inp:∀n,Known B n->n∈pool
 few:pool.length≤60
theorem Zer {xs pool:List Str} (h:xs.Nodup) (s:∀x∈xs,x∈pool):xs.length≤pool.length:=List.Nodup.length_le_of_subset h s
theorem BkAt.monoX {K:W.Frag} {C:Addr} {H H':Hp} {b dx k bi li ti su:Addr} {B:Bk} (h:BkAt K C H b dx k bi li ti su B) (s:SameX H H'):BkAt K C H' b dx k bi li ti su B :=
 ⟨s _ _ rfl h.ob,h.ap,h.at',s _ _ rfl h.ke,s _ _ rfl h.bi,s _ _ rfl h.li,s _ _ rfl h.ti,s _ _ rfl h.su,fun p hp=>s.sqt (h.en p hp),fun q hq=>s _ _ rfl (h.ll q hq),fun q hq=>s _ _ rfl (h.tt q hq)⟩
noncomputable abbrev Zd9:Arguments:=⟨[],[⟨"step",none,⟨286,46,286,50⟩⟩,⟨"begin",none,⟨286,52,286,57⟩⟩],none,[],[],none,[]⟩
noncomputable abbrev Ze6:Expr:=Ui "led_by_step" "book" "step" "begin" ⟨286,59,286,70⟩ ⟨286,71,286,75⟩ ⟨286,77,286,81⟩ ⟨286,83,286,88⟩ ⟨286,59,286,89⟩
noncomputable abbrev Zhd:Scope:=⟨.function,[("step",.local),("begin",.local),("book",.free),("led_by_step",.globalImplicit)],false,false,[]⟩
noncomputable def ZbQ:Str:=("reach" : Str)++".<locals>."++"<lambda>"
theorem Ziq:LamOk2 "led_by_step" "book" "step" "begin" Zd9 Zhd Ze6 where
 bind:=fun _ _ _ _ _ _ _=>rfl
 lx:=rfl
 ly:=rfl
 fre:=rfl
 gl:=rfl
 kind:=rfl
 co:=rfl
 gen:=rfl
 cell:=by decide +kernel
 xy:=by decide +kernel
 db:=by decide +kernel
abbrev Zoa (f b:Addr) (H:Hp):Prop:=LamA ZbQ Zd9 Ze6 Zhd "book" f b H
abbrev WD (tb:Addr) (H:Hp):Prop:=LamH tb 286 39 ZbQ H
theorem ZgK {P:Program} {w:World}:∀st H s e s',Zz P w st H s E0 e s'->False:=fun _ _ _ _ _ ⟨_,_,_,_,_,z⟩=>z
noncomputable abbrev Xw (l:List (Str×V)):List (Zj×V):=l.map fun p=>(.inr p.1,p.2)
theorem Zif {κ α:Type} [DecidableEq κ] (l:List (κ×α)) (c:κ) (x:α):(Zo l c x).map (·.1)=if c∈l.map (·.1) then l.map (·.1) else l.map (·.1)++[c]:=by
 unfold Zo;by_cases h:c∈l.map (·.1)
 ·have ha:(l.any fun q=>decide (q.1=c))=true:=by
   obtain ⟨q,hq,e⟩:=Qg.mp h;exact Gs.mpr ⟨q,hq,Qw e⟩
  rw [Qb ha,Qb h,QU];refine Ga fun q _=>?_;show (if q.1=c then (q.1,x) else q).1=q.1;split<;>rfl
 ·have ha:¬(l.any fun q=>decide (q.1=c))=true:=fun z=>by
   obtain ⟨q,hq,e⟩:=Gs.mp z;exact h (Qg.mpr ⟨q,hq,Q0 e⟩)
  rw [Qa ha,Qa h,Qs];rfl
theorem Zod (l:List (Str×V)) (c:Str) (v:V):Yp (Xw l) (.inr c) v=Xw (Zo l c v):=JV (f:=fun s:Str=>(.inr s:Zj)) (fun a b h=>by injection h) id l c v
theorem Zi2 {κ α:Type} [DecidableEq κ] {l:List (κ×α)} {c:κ} {x:α} (h:(l.map (·.1)).Nodup):((Zo l c x).map (·.1)).Nodup:=by
 rw [Zif];split
 ·exact h
 ·rename_i n;exact QW.mpr ⟨h,by simp,fun a ha b hb=>by rw [show b=c by simpa using hb];exact fun e=>n (e▸ha)⟩
theorem Znv {κ α:Type} [DecidableEq κ] {l:List (κ×α)} {c:κ} {x:α} (y:κ):y∈(Zo l c x).map (·.1)↔y∈l.map (·.1)∨y=c:=by
 rw [Zif];split
 ·rename_i h;exact ⟨.inl,fun z=>z.elim id fun e=>e▸h⟩
 ·rw [Ql,QD]
theorem Zg1 (l:List (Str×V)):(Xw l).length=(l.map (·.1)).length:=by rw [Qd,Qd]
theorem Zej (ds:List V) (d:V):Yt (ds++[d]) (-1)=some d:=by
 cases ds with
 |nil=>rfl
 |cons x xs =>
  obtain ⟨y,h1,h2⟩:=Zl0 (x:=x) (xs:=xs++[d]);rw [List.cons_append,h1];rw [show (x::(xs++[d]))=(x::xs)++[d] from rfl,Rs (by simp)] at h2;simpa using h2.symm
theorem ZiN {B:Bk} {n:Str} {p:Ent×Addr} (h:ZZ n B.kept=some p) {n' s f m:Str} {d:Int} (e:p.1=.born n' s d f m):X9 B n=s:=ZaW h e
theorem ZaN {z:Int} (h0:-10 ^ 60≤z) (h:z≤10 ^ 60):z.natAbs<2 ^ 1000:=RM (show z.natAbs≤10 ^ 60 by omega) (by decide +kernel)
theorem WP {j:Int} (h:j≠0):j≠0:=h
theorem ZhK {α:Type} (g:α->V) (xs:List α) (h:0<xs.length) (z:Int):∃x∈xs,Yt (xs.map g) (z.fmod ((xs.map g).length:Int))=some (g x):=by
 have e:((xs.map g).length:Int)=(xs.length:Int):=by rw [Qd]
 rw [e];have h0:=NK z (show (0:Int)<xs.length by omega);have h1:=NM z (show (0:Int)<xs.length by omega);obtain ⟨j,hj⟩:∃j:Nat,z.fmod (xs.length:Int)=(j:Int):=⟨(z.fmod (xs.length:Int)).toNat,by omega⟩;have jl:j<xs.length:=by omega
 refine ⟨xs[j],R9 jl,?_⟩;rw [hj];exact XM (by rw [QA,Qx jl];rfl)
section
variable {ns:List Str} {es:List Ent} {ps:List Pp} {kn:List (List Zj)}
theorem Zph {n s f m:Str} {d:Int} {e:Ent} (h:e.told=.born n s d f m):e=.born n s d f m:=by
 cases e with
 |born=>exact h
 |union=>cases h
 |parted=>cases h
 |taken=>cases h
 |dead=>cases h
 |given=>cases h
theorem JX {n s f m:Str} {d:Int}:Ent.born n s d f m∈es.map Ent.told↔Ent.born n s d f m∈es:=by
 constructor
 ·intro h;obtain ⟨e,he,ee⟩:=Qg.mp h;rw [←Zph ee];exact he
 ·exact fun h=>Qg.mpr ⟨_,h,rfl⟩
end
noncomputable def Yc (f:Str×Str->List Str) (c:Str×Str) (x:Str):Str×Str->List Str:=fun c'=>if c'=c then f c++[x] else f c'
noncomputable def YG (a b n x:Str) (g:ZO):ZO:=if x="" then g else Yc (Yc g (a,n) x) (b,x) n
noncomputable def YJ (f:ZO) (s n:Str):ZO:=fun c=>if c=(s,n) then [n] else f c
noncomputable def YD (f:ZO):Ent->ZO
 |.born n s _ fa mo=>YG "M" "m" n mo (YG "F" "f" n fa (YJ f s n))
 |.taken c t _=>Yc (Yc f ("T",c) t) ("t",t) c
 |_=>f
noncomputable def W3 (es:List Ent):ZO:=es.foldl YD fun _=>[]
abbrev J1:=List ((Str×Str)×Addr×Int×Str)
noncomputable def Xi (g:Str×Str->Option (Int×Str)) (e:Ent):Str×Str->Option (Int×Str):=fun c =>
 if e.tie=true∧c=Ze e.pr.1 e.pr.2 then (match g c with
  |none=>some (e.day,e.kind)
  |some r=>if r.1<e.day then some (e.day,e.kind) else some r) else g c
noncomputable def Wu (es:List Ent):Str×Str->Option (Int×Str):=es.foldl Xi fun _=>none
noncomputable def Ud (f:ZO) (q:(Str×Str)×Addr×Int×Str):ZO:=if q.2.2.2="union" then Yc (Yc f ("S",q.1.1) q.1.2) ("S",q.1.2) q.1.1 else f
theorem ZkQ {n s f m:Str} {d:Int} (h:(Ent.born n s d f m).Ok):s="he"∨s="she"∨s="":=by
 have e:=h.en;have e2:Wi [.name,.sort,.day,.parent,.parent] [.str n,.str s,.int d,.str f,.str m]=true:=e;unfold Wi at e2;rw [Rv] at e2;have e3:=RQ.mp e2.2 (Up (.str s)) (by simp [ZP,Je]);have e4:(decide (s="he")||decide (s="she")||decide (s=""))=true:=e3;simpa [R6,or_assoc] using e4
theorem Zoj (z:Int):∃s∈Zq,Yt (Zq.map V.str) (z.fmod 9)=some (.str s):=ZhK V.str Zq (by decide) z
theorem Yw (f:ZO) (a n x b m:Str):Yc f (a,n) x (b,m)=if b=a∧m=n then f (a,n)++[x] else f (b,m):=by
 unfold Yc;by_cases h:b=a∧m=n
 ·rw [Qb (by rw [h.1,h.2]),Qb h]
 ·rw [Qa (fun z=>h ⟨Qy (·.1) z,Qy (·.2) z⟩),Qa h]
theorem Xf {a b:Str} (ab:¬b=a) (n' x:Str) (g:ZO) (l n:Str):YG a b n' x g (l,n)=if x="" then g (l,n) else if l=b∧n=x then g (l,n)++[n'] else if l=a∧n=n' then g (l,n)++[x] else g (l,n):=by
 unfold YG;by_cases h:x=""
 ·rw [Qb h,Qb h]
 ·rw [Qa h,Qa h,Yw,Yw];by_cases h1:l=b∧n=x
  ·rw [Qb h1,Qb h1,Qa (fun z=>ab z.1),h1.1,h1.2]
  ·rw [Qa h1,Qa h1,Yw];by_cases h2:l=a∧n=n'
   ·rw [Qb h2,Qb h2,h2.1,h2.2]
   ·rw [Qa h2,Qa h2]
theorem Zg7 (f:ZO) (e:Ent) (n:Str) (hs:∀n' s d fa mo,e=.born n' s d fa mo->s≠"F"):YD f e ("F",n)=f ("F",n)++W7 n e:=by
 have klf:¬(("F" : Str)="f"):=by decide +kernel
 have kuM:¬(("F" : Str)="M"):=by decide +kernel
 have klm:¬(("F" : Str)="m"):=by decide +kernel
 have kuT:¬(("F" : Str)="T"):=by decide +kernel
 have klt:¬(("F" : Str)="t"):=by decide +kernel
 cases e with
 |born n' s d fa mo =>
  have h1:=hs n' s d fa mo rfl;show YG "M" "m" n' mo (YG "F" "f" n' fa (YJ f s n')) ("F",n)=_;rw [Xf (by decide +kernel),Xf (by decide +kernel),show YJ f s n' ("F",n)=f ("F",n) from Qa (fun z=>h1 (Qy (·.1) z).symm)];simp only [klf,kuM,klm,kuT,klt,RB,RC,Q5,RD];unfold W7;by_cases e1:fa=""
  ·simp [e1]
  ·by_cases e2:n=n'
   ·subst e2;simp [e1]
   ·have e3:¬n'=n:=fun z=>e2 z.symm;simp [e1,e2,e3]
 |taken c t d =>
  show Yc (Yc f ("T",c) t) ("t",t) c ("F",n)=_;rw [Yw,Qa (fun z=>klt z.1),Yw,Qa (fun z=>kuT z.1)];simp [W7]
 |union=>exact (Qu _).symm
 |parted=>exact (Qu _).symm
 |dead=>exact (Qu _).symm
 |given=>exact (Qu _).symm
theorem Zfm (f:ZO) (e:Ent) (n:Str) (hs:∀n' s d fa mo,e=.born n' s d fa mo->s≠"f"):YD f e ("f",n)=f ("f",n)++W1 n e:=by
 have kuF:¬(("f" : Str)="F"):=by decide +kernel
 have kuM:¬(("f" : Str)="M"):=by decide +kernel
 have klm:¬(("f" : Str)="m"):=by decide +kernel
 have kuT:¬(("f" : Str)="T"):=by decide +kernel
 have klt:¬(("f" : Str)="t"):=by decide +kernel
 cases e with
 |born n' s d fa mo =>
  have h1:=hs n' s d fa mo rfl;show YG "M" "m" n' mo (YG "F" "f" n' fa (YJ f s n')) ("f",n)=_;rw [Xf (by decide +kernel),Xf (by decide +kernel),show YJ f s n' ("f",n)=f ("f",n) from Qa (fun z=>h1 (Qy (·.1) z).symm)];simp only [kuF,kuM,klm,kuT,klt,RB,RC,Q5,RD];unfold W1;by_cases e1:fa=""
  ·simp [e1]
  ·by_cases e2:n=fa
   ·subst e2;simp [e1]
   ·have e3:¬fa=n:=fun z=>e2 z.symm;simp [e1,e2,e3]
 |taken c t d =>
  show Yc (Yc f ("T",c) t) ("t",t) c ("f",n)=_;rw [Yw,Qa (fun z=>klt z.1),Yw,Qa (fun z=>kuT z.1)];simp [W1]
 |union=>exact (Qu _).symm
 |parted=>exact (Qu _).symm
 |dead=>exact (Qu _).symm
 |given=>exact (Qu _).symm
theorem Zgw (f:ZO) (e:Ent) (n:Str) (hs:∀n' s d fa mo,e=.born n' s d fa mo->s≠"M"):YD f e ("M",n)=f ("M",n)++Ve n e:=by
 have kuF:¬(("M" : Str)="F"):=by decide +kernel
 have klf:¬(("M" : Str)="f"):=by decide +kernel
 have klm:¬(("M" : Str)="m"):=by decide +kernel
 have kuT:¬(("M" : Str)="T"):=by decide +kernel
 have klt:¬(("M" : Str)="t"):=by decide +kernel
 cases e with
 |born n' s d fa mo =>
  have h1:=hs n' s d fa mo rfl;show YG "M" "m" n' mo (YG "F" "f" n' fa (YJ f s n')) ("M",n)=_;rw [Xf (by decide +kernel),Xf (by decide +kernel),show YJ f s n' ("M",n)=f ("M",n) from Qa (fun z=>h1 (Qy (·.1) z).symm)];simp only [kuF,klf,klm,kuT,klt,RB,RC,Q5,RD];unfold Ve;by_cases e1:mo=""
  ·simp [e1]
  ·by_cases e2:n=n'
   ·subst e2;simp [e1]
   ·have e3:¬n'=n:=fun z=>e2 z.symm;simp [e1,e2,e3]
 |taken c t d =>
  show Yc (Yc f ("T",c) t) ("t",t) c ("M",n)=_;rw [Yw,Qa (fun z=>klt z.1),Yw,Qa (fun z=>kuT z.1)];simp [Ve]
 |union=>exact (Qu _).symm
 |parted=>exact (Qu _).symm
 |dead=>exact (Qu _).symm
 |given=>exact (Qu _).symm
theorem ZeC (f:ZO) (e:Ent) (n:Str) (hs:∀n' s d fa mo,e=.born n' s d fa mo->s≠"m"):YD f e ("m",n)=f ("m",n)++Vg n e:=by
 have kuF:¬(("m" : Str)="F"):=by decide +kernel
 have klf:¬(("m" : Str)="f"):=by decide +kernel
 have kuM:¬(("m" : Str)="M"):=by decide +kernel
 have kuT:¬(("m" : Str)="T"):=by decide +kernel
 have klt:¬(("m" : Str)="t"):=by decide +kernel
 cases e with
 |born n' s d fa mo =>
  have h1:=hs n' s d fa mo rfl;show YG "M" "m" n' mo (YG "F" "f" n' fa (YJ f s n')) ("m",n)=_;rw [Xf (by decide +kernel),Xf (by decide +kernel),show YJ f s n' ("m",n)=f ("m",n) from Qa (fun z=>h1 (Qy (·.1) z).symm)];simp only [kuF,klf,kuM,kuT,klt,RB,RC,Q5,RD];unfold Vg;by_cases e1:mo=""
  ·simp [e1]
  ·by_cases e2:n=mo
   ·subst e2;simp [e1]
   ·have e3:¬mo=n:=fun z=>e2 z.symm;simp [e1,e2,e3]
 |taken c t d =>
  show Yc (Yc f ("T",c) t) ("t",t) c ("m",n)=_;rw [Yw,Qa (fun z=>klt z.1),Yw,Qa (fun z=>kuT z.1)];simp [Vg]
 |union=>exact (Qu _).symm
 |parted=>exact (Qu _).symm
 |dead=>exact (Qu _).symm
 |given=>exact (Qu _).symm
theorem Zhm (f:ZO) (e:Ent) (n:Str) (hs:∀n' s d fa mo,e=.born n' s d fa mo->s≠"T"):YD f e ("T",n)=f ("T",n)++addT n e:=by
 have kuF:¬(("T" : Str)="F"):=by decide +kernel
 have klf:¬(("T" : Str)="f"):=by decide +kernel
 have kuM:¬(("T" : Str)="M"):=by decide +kernel
 have klm:¬(("T" : Str)="m"):=by decide +kernel
 have klt:¬(("T" : Str)="t"):=by decide +kernel
 cases e with
 |born n' s d fa mo =>
  have h1:=hs n' s d fa mo rfl;show YG "M" "m" n' mo (YG "F" "f" n' fa (YJ f s n')) ("T",n)=_;rw [Xf (by decide +kernel),Xf (by decide +kernel),show YJ f s n' ("T",n)=f ("T",n) from Qa (fun z=>h1 (Qy (·.1) z).symm)];simp only [kuF,klf,kuM,klm,klt,RB,RC,Q5,RD];simp [addT]
 |taken c t d =>
  show Yc (Yc f ("T",c) t) ("t",t) c ("T",n)=_;rw [Yw,Qa (fun z=>klt z.1),Yw];unfold addT;by_cases e2:n=c
  ·subst e2;simp
  ·have e3:¬c=n:=fun z=>e2 z.symm;simp [e2,e3]
 |union=>exact (Qu _).symm
 |parted=>exact (Qu _).symm
 |dead=>exact (Qu _).symm
 |given=>exact (Qu _).symm
theorem ZhD (f:ZO) (e:Ent) (n:Str) (hs:∀n' s d fa mo,e=.born n' s d fa mo->s≠"t"):YD f e ("t",n)=f ("t",n)++VI n e:=by
 have kuF:¬(("t" : Str)="F"):=by decide +kernel
 have klf:¬(("t" : Str)="f"):=by decide +kernel
 have kuM:¬(("t" : Str)="M"):=by decide +kernel
 have klm:¬(("t" : Str)="m"):=by decide +kernel
 have kuT:¬(("t" : Str)="T"):=by decide +kernel
 cases e with
 |born n' s d fa mo =>
  have h1:=hs n' s d fa mo rfl;show YG "M" "m" n' mo (YG "F" "f" n' fa (YJ f s n')) ("t",n)=_;rw [Xf (by decide +kernel),Xf (by decide +kernel),show YJ f s n' ("t",n)=f ("t",n) from Qa (fun z=>h1 (Qy (·.1) z).symm)];simp only [kuF,klf,kuM,klm,kuT,RB,RC,Q5,RD];simp [VI]
 |taken c t d =>
  show Yc (Yc f ("T",c) t) ("t",t) c ("t",n)=_;unfold VI;rw [Yw];by_cases e2:n=t
  ·subst e2;rw [Qb ⟨rfl,rfl⟩,Yw,Qa (fun z=>kuT z.1)];simp
  ·have e3:¬t=n:=fun z=>e2 z.symm;rw [Qa (fun z=>e2 z.2),Yw,Qa (fun z=>kuT z.1)];simp [e3]
 |union=>exact (Qu _).symm
 |parted=>exact (Qu _).symm
 |dead=>exact (Qu _).symm
 |given=>exact (Qu _).symm
theorem Zh5 (f:ZO) (e:Ent) (n:Str) (hs:∀n' s d fa mo,e=.born n' s d fa mo->s≠"S"):YD f e ("S",n)=f ("S",n)++[]:=by
 have kuF:¬(("S" : Str)="F"):=by decide +kernel
 have klf:¬(("S" : Str)="f"):=by decide +kernel
 have kuM:¬(("S" : Str)="M"):=by decide +kernel
 have klm:¬(("S" : Str)="m"):=by decide +kernel
 have kuT:¬(("S" : Str)="T"):=by decide +kernel
 have klt:¬(("S" : Str)="t"):=by decide +kernel
 cases e with
 |born n' s d fa mo =>
  have h1:=hs n' s d fa mo rfl;show YG "M" "m" n' mo (YG "F" "f" n' fa (YJ f s n')) ("S",n)=_;rw [Xf (by decide +kernel),Xf (by decide +kernel),show YJ f s n' ("S",n)=f ("S",n) from Qa (fun z=>h1 (Qy (·.1) z).symm)];simp only [kuF,klf,kuM,klm,kuT,klt,RB,RC,Q5,RD];simp
 |taken c t d =>
  show Yc (Yc f ("T",c) t) ("t",t) c ("S",n)=_;rw [Yw,Qa (fun z=>klt z.1),Yw,Qa (fun z=>kuT z.1)];simp
 |union=>exact (Qu _).symm
 |parted=>exact (Qu _).symm
 |dead=>exact (Qu _).symm
 |given=>exact (Qu _).symm
def Zb7 (es:List Ent):Prop:=∀n s d fa mo,Ent.born n s d fa mo∈es->s="he"∨s="she"∨s=""
theorem Za4 {es:List Ent} {l n:Str} {ad:Ent->List Str} (st:∀e∈es,∀f:ZO,YD f e (l,n)=f (l,n)++ad e):W3 es (l,n)=es.flatMap ad:=by
 have go:∀(r:List Ent) (f:ZO),(∀e∈r,∀f:ZO,YD f e (l,n)=f (l,n)++ad e)->r.foldl YD f (l,n)=f (l,n)++r.flatMap ad:=by
  intro r
  induction r with
  |nil=>intro f _;simp
  |cons e r ih =>
   intro f h;rw [Q6,ih _ (fun e he=>h e (QC _ he)),h e (QI ..),NJ,Gu]
 rw [show W3 es (l,n)=es.foldl YD (fun _=>[]) (l,n) from rfl,go es _ st];rfl
theorem ZfA {es:List Ent} (h:Zb7 es) {l:Str} (hl:l∈Xu):∀e∈es,∀n' s d fa mo,e=.born n' s d fa mo->s≠l:=fun e he n' s d fa mo z w=>by
 subst z w;have:=h _ _ _ _ _ he;simp only [Xu,Qh,QF,QG] at hl;rcases hl with rfl|rfl|rfl|rfl|rfl|rfl|rfl<;>exact absurd this (by decide +kernel)
theorem Zgi {es:List Ent}:∀(c:Str×Str) (x:Str),x∈W3 es c->∃e∈es,x∈e.named∨e.bornName=some x:=by
 have ad:∀{f:ZO} {c c':Str×Str} {x y:Str},x∈Yc f c y c'->x∈f c'∨x=y:=fun {f c c' x y} h=>by
  unfold Yc at h;split at h
  ·rename_i e;rcases Ql.mp h with h|h
   ·rw [e];exact .inl h
   ·exact .inr (by simpa using h)
  ·exact .inl h
 have go:∀(r:List Ent) (f:ZO) (R:Str->Prop),(∀c x,x∈f c->R x)->(∀e∈r,∀x,x∈e.named∨e.bornName=some x->R x)->∀c x,x∈r.foldl YD f c->R x:=by
  intro r
  induction r with
  |nil=>intro f R h _ c x hx;exact h c x hx
  |cons e r ih =>
   intro f R h hr c x hx;refine ih (YD f e) R (fun c x hx=>?_) (fun e he=>hr e (QC _ he)) c x hx;have he:=hr e (QI ..);cases e with
   |born n s d fa mo =>
    have p1:∀{a b y:Str} {g:ZO},(∀c x,x∈g c->R x)->(y≠""->R y)->∀c x,x∈YG a b n y g c->R x:=fun {a b y g} hg hy c x hx=>by
     unfold YG at hx;split at hx
     ·exact hg c x hx
     ·rename_i ny;rcases ad hx with hx|rfl
      ·rcases ad hx with hx|rfl
       ·exact hg c x hx
       ·exact hy ny
      ·exact he _ (.inr rfl)
    refine p1 (p1 (fun c x hx=>?_) (fun ny=>he _ (.inl ?_))) (fun ny=>he _ (.inl ?_)) c x hx
    ·unfold YJ at hx;split at hx
     ·rw [show x=n by simpa using hx];exact he _ (.inr rfl)
     ·exact h c x hx
    ·exact Rp.mpr ⟨by simp,Qw ny⟩
    ·exact Rp.mpr ⟨by simp,Qw ny⟩
   |taken u v d =>
    rcases ad (show x∈Yc (Yc f ("T",u) v) ("t",v) u c from hx) with hx|rfl
    ·rcases ad hx with hx|rfl
     ·exact h c x hx
     ·exact he _ (.inl (by simp [Ent.named]))
    ·exact he _ (.inl (by simp [Ent.named]))
   |union=>exact h c x hx
   |parted=>exact h c x hx
   |dead=>exact h c x hx
   |given=>exact h c x hx
 intro c x hx;exact go es _ (fun x=>∃e∈es,x∈e.named∨e.bornName=some x) (fun c x h=>(by cases h)) (fun e he x h=>⟨e,he,h⟩) c x hx
theorem ZeY {es:List Ent} {s n x:Str} (hs:s="he"∨s="she"):x∈W3 es (s,n)↔x=n∧∃d f m,Ent.born n s d f m∈es:=by
 have ne:∀{a:Str},a∈(["F","f","M","m","T","t"]:List Str)->¬s=a:=fun ha z=>by
  rw [z] at hs;simp only [Qh,QF,QG] at ha;rcases ha with rfl|rfl|rfl|rfl|rfl|rfl<;>exact absurd hs (by decide +kernel)
 have st:∀(f:ZO) (e:Ent),YD f e (s,n)=(match e with|.born n' s' _ _ _=>YJ f s' n' (s,n)|_=>f (s,n)):=fun f e=>by
  cases e with
  |born n' s' d fa mo =>
   show YG "M" "m" n' mo (YG "F" "f" n' fa (YJ f s' n')) (s,n)=YJ f s' n' (s,n);rw [Xf (by decide +kernel),Xf (by decide +kernel)];simp only [ne (a:="m") (by simp),ne (a:="M") (by simp),ne (a:="f") (by simp),ne (a:="F") (by simp),RB,Q5,RD]
  |taken u v d =>
   show Yc (Yc f ("T",u) v) ("t",v) u (s,n)=f (s,n);rw [Yw,Qa (fun z=>ne (a:="t") (by simp) z.1),Yw,Qa (fun z=>ne (a:="T") (by simp) z.1)]
  |_=>rfl
 have go:∀(r:List Ent) (f:ZO),(∀y∈f (s,n),y=n)->(x∈r.foldl YD f (s,n)↔(x=n∧∃d g m,Ent.born n s d g m∈r)∨x∈f (s,n)):=by
  intro r
  induction r with
  |nil=>intro f _;simp
  |cons e r ih =>
   intro f hf;have e1:=st f e
   have key:(∀y∈YD f e (s,n),y=n)∧(x∈YD f e (s,n)↔(x=n∧∃d g m,e=.born n s d g m)∨x∈f (s,n)):=by
    cases e with
    |born n' s' d fa mo =>
     rw [show YD f (.born n' s' d fa mo) (s,n)=YJ f s' n' (s,n) from e1];unfold YJ;by_cases z:(s,n)=(s',n')
     ·cases z;rw [Qb rfl];refine ⟨fun y hy=>by simpa using hy,⟨fun h=>.inl ⟨by simpa using h,d,fa,mo,rfl⟩,fun h=>?_⟩⟩;rcases h with h|h
      ·rw [h.1];simp
      ·rw [hf x h];simp
     ·rw [Qa z];refine ⟨hf,⟨.inr,fun h=>h.elim (fun ⟨_,d',g,m,hh⟩=>by cases hh;exact absurd rfl z) id⟩⟩
    |taken=>exact ⟨by rw [e1];exact hf,by rw [e1];exact ⟨.inr,fun h=>h.elim (fun ⟨_,d',g,m,hh⟩=>by cases hh) id⟩⟩
    |union=>exact ⟨hf,⟨.inr,fun h=>h.elim (fun ⟨_,d',g,m,hh⟩=>by cases hh) id⟩⟩
    |parted=>exact ⟨hf,⟨.inr,fun h=>h.elim (fun ⟨_,d',g,m,hh⟩=>by cases hh) id⟩⟩
    |dead=>exact ⟨hf,⟨.inr,fun h=>h.elim (fun ⟨_,d',g,m,hh⟩=>by cases hh) id⟩⟩
    |given=>exact ⟨hf,⟨.inr,fun h=>h.elim (fun ⟨_,d',g,m,hh⟩=>by cases hh) id⟩⟩
   rw [Q6,ih _ key.1,key.2];constructor
   ·rintro (⟨h1,d,g,m,h2⟩|⟨h1,d,g,m,rfl⟩|h)
    ·exact .inl ⟨h1,d,g,m,QC _ h2⟩
    ·exact .inl ⟨h1,d,g,m,QI ..⟩
    ·exact .inr h
   ·rintro (⟨h1,d,g,m,h2⟩|h)
    ·rcases Qh.mp h2 with h2|h2
     ·exact .inr (.inl ⟨h1,d,g,m,h2.symm⟩)
     ·exact .inl ⟨h1,d,g,m,h2⟩
    ·exact .inr (.inr h)
 have:=go es (fun _=>[]) (fun y hy=>by cases hy);rw [show W3 es (s,n)=es.foldl YD (fun _=>[]) (s,n) from rfl,this];simp
theorem J8 {ls:J1} {f:ZO} {l n:Str} (h:¬l="S"):ls.foldl Ud f (l,n)=f (l,n):=by
 induction ls generalizing f with
 |nil=>rfl
 |cons q r ih =>
  rw [Q6,ih];unfold Ud;split
  ·rw [Yw,Qa (fun z=>h z.1),Yw,Qa (fun z=>h z.1)]
  ·rfl
theorem ZbV {ls:J1} {f:ZO} {n x:Str}:x∈ls.foldl Ud f ("S",n)↔x∈f ("S",n)∨∃q∈ls,q.2.2.2="union"∧(q.1=(n,x)∨q.1=(x,n)):=by
 induction ls generalizing f with
 |nil=>simp
 |cons q r ih =>
  rw [Q6,ih]
  have st:x∈Ud f q ("S",n)↔x∈f ("S",n)∨(q.2.2.2="union"∧(q.1=(n,x)∨q.1=(x,n))):=by
   obtain ⟨⟨a,b⟩,ar,d,k⟩:=q;unfold Ud;by_cases hu:k="union"
   ·show x∈(if k="union" then Yc (Yc f ("S",a) b) ("S",b) a else f) ("S",n)↔x∈f ("S",n)∨(k="union"∧((a,b)=(n,x)∨(a,b)=(x,n)));rw [Qb hu,Yw];by_cases h1:n=b
    ·subst h1;rw [Qb ⟨rfl,rfl⟩,Yw];by_cases h2:n=a
     ·subst h2;rw [Qb ⟨rfl,rfl⟩];simp [hu];exact ⟨fun h=>h.imp id Eq.symm,fun h=>h.imp id Eq.symm⟩
     ·rw [Qa (fun z=>h2 z.2)];simp [hu];constructor
      ·rintro (h|h)
       ·exact .inl h
       ·exact .inr (.inr h.symm)
      ·rintro (h|⟨h,_⟩|h)
       ·exact .inl h
       ·exact absurd h.symm h2
       ·exact .inr h.symm
    ·rw [Qa (fun z=>h1 z.2),Yw];by_cases h2:n=a
     ·subst h2;rw [Qb ⟨rfl,rfl⟩];simp [hu];constructor
      ·rintro (h|h)
       ·exact .inl h
       ·exact .inr (.inl h.symm)
      ·rintro (h|h|⟨_,h⟩)
       ·exact .inl h
       ·exact .inr h.symm
       ·exact absurd h.symm h1
     ·rw [Qa (fun z=>h2 z.2)];simp only [hu,RC,Prod.mk.injEq];exact ⟨.inl,fun h=>h.elim id fun h=>h.elim (fun z=>absurd z.1.symm h2) fun z=>absurd z.2.symm h1⟩
   ·show x∈(if k="union" then _ else f) ("S",n)↔x∈f ("S",n)∨(k="union"∧_);rw [Qa hu];exact ⟨.inl,fun h=>h.elim id fun h=>absurd h.1 hu⟩
  rw [st];constructor
  ·rintro ((h|h)|⟨q',h1,h2⟩)
   ·exact .inl h
   ·exact .inr ⟨q,QI ..,h⟩
   ·exact .inr ⟨q',QC _ h1,h2⟩
  ·rintro (h|⟨q',h1,h2⟩)
   ·exact .inl (.inl h)
   ·rcases Qh.mp h1 with rfl|h1
    ·exact .inl (.inr h2)
    ·exact .inr ⟨q',h1,h2⟩
noncomputable def dk (e:Ent):Int×Str:=(e.day,e.kind)
theorem ZoW (es:List Ent) (a b:Str):Wu es (Ze a b)=(es.foldl (W4 a b) none).map dk:=by
 have go:∀(r:List Ent) (g:Str×Str->Option (Int×Str)) (o:Option Ent),g (Ze a b)=o.map dk->r.foldl Xi g (Ze a b)=(r.foldl (W4 a b) o).map dk:=by
  intro r
  induction r with
  |nil=>intro g o h;exact h
  |cons e r ih =>
   intro g o h;rw [Q6,Q6];refine ih _ _ ?_;unfold Xi W4;by_cases c:e.tie=true∧Ze e.pr.1 e.pr.2=Ze a b
   ·rw [Qb ⟨c.1,c.2.symm⟩,Qb c,h];cases o with
    |none=>rfl
    |some l =>
     show (if (dk l).1<e.day then _ else _)=Option.map dk (if l.day<e.day then _ else _);show (if l.day<e.day then some (e.day,e.kind) else some (dk l))=_;split<;>rfl
   ·rw [Qa (fun z=>c ⟨z.1,z.2.symm⟩),Qa c];exact h
 exact go es _ none rfl
theorem ZmE (es:List Ent):Wu (es.map Ent.told)=Wu es:=by
 have st:∀(g:Str×Str->Option (Int×Str)) (e:Ent),Xi g e.told=Xi g e:=fun g e=>by
  cases e with
  |union a b d =>
   funext c
   show (if true=true∧c=Ze (Ze a b).1 (Ze a b).2 then _ else g c)=(if true=true∧c=Ze a b then _ else g c);rw [VJ];rfl
  |parted a b d =>
   funext c
   show (if true=true∧c=Ze (Ze a b).1 (Ze a b).2 then _ else g c)=(if true=true∧c=Ze a b then _ else g c);rw [VJ];rfl
  |_=>rfl
 unfold Wu;rw [List.foldl_map];exact Qy (fun z=>es.foldl z fun _=>none) (funext fun g=>funext fun e=>st g e)
theorem ZeN {es:List Ent}:∀{c:Str×Str} {r:Int×Str},Wu es c=some r->∃e∈es,e.tie=true∧c=Ze e.pr.1 e.pr.2:=by
 have go:∀(l:List Ent) (g:Str×Str->Option (Int×Str)) (R:Str×Str->Prop),(∀c r,g c=some r->R c)->(∀e∈l,e.tie=true->R (Ze e.pr.1 e.pr.2))->∀c r,l.foldl Xi g c=some r->R c:=by
  intro l
  induction l with
  |nil=>intro g R h _ c r e;exact h c r e
  |cons e l ih =>
   intro g R h hl c r hr;refine ih _ R (fun c r hc=>?_) (fun e he=>hl e (QC _ he)) c r hr;unfold Xi at hc;split at hc
   ·rename_i z;rw [z.2];exact hl e (QI ..) z.1
   ·exact h c r hc
 intro c r h;exact go es _ (fun c=>∃e∈es,e.tie=true∧c=Ze e.pr.1 e.pr.2) (fun c r z=>(by cases z)) (fun e he t=>⟨e,he,t,rfl⟩) c r h
theorem Zei {κ α:Type} [DecidableEq κ] {q:κ×α}:∀{l:List (κ×α)},(l.map (·.1)).Nodup->q∈l->ZC q.1 l=some q.2
 |[],_,h=>by cases h
 |p::l,nd,h=>by
  obtain ⟨n1,n2⟩:=QO.mp nd;unfold ZC;rcases Qh.mp h with rfl|h
  ·rw [Qb rfl]
  ·rw [Qa (fun z=>n1 (by show p.1∈_;rw [z];exact List.mem_map_of_mem (f:=(·.1)) h))];exact Zei n2 h
theorem Ze4 {pool:List Str} {es:List Ent} (gd:GdL pool es):Zb7 es:=fun n s d fa mo h=>ZkQ (gd.d5 _ h).1
theorem Zpj {ad:Ent->List Str} (h:∀e,ad e.told=ad e) (es:List Ent):(es.map Ent.told).flatMap ad=es.flatMap ad:=by
 rw [List.flatMap_map];exact Qy (fun z=>es.flatMap z) (funext h)
structure Jn (pool:List Str) (B:Bk) (es:List Ent) (ls:J1) (F:ZO):Prop where
 li:LI5 pool B B.kept
 hk:B.kept.map (·.1)=es.map Ent.told
 gd:GdL pool es
 kn:(ls.map (·.1)).Nodup
 la:∀c,(ZC c ls).map (·.2)=Wu es c
 lke:∀c,F c=ls.foldl Ud (W3 es) c
section
variable {pool:List Str} {B:Bk} {es:List Ent} {ls:J1} {F:ZO}
theorem Jn.known (j:Jn pool B es ls F) {n s f m:Str} {d:Int} (h:Ent.born n s d f m∈es):Known B n∧X9 B n=s:=by
 have:=Jm j.hk j.gd.bu (JX.mpr h);exact ⟨this.1,this.2.1⟩
theorem Jn.born (j:Jn pool B es ls F) {n:Str} (h:Known B n):∃d f m,Ent.born n (X9 B n) d f m∈es:=by
 unfold Known at h;obtain ⟨p,hp⟩:=NU.mp h;obtain ⟨hm,hb⟩:=Za0 hp;obtain ⟨e,a⟩:=p;cases e with
 |born n' s d f m =>
  cases hb;have e1:X9 B n=s:=ZaW hp rfl;have:Ent.born n s d f m∈B.kept.map (·.1):=Qg.mpr ⟨_,hm,rfl⟩;rw [j.hk] at this;rw [e1];exact ⟨d,f,m,JX.mp this⟩
 |_=>cases hb
theorem Jn.inp (j:Jn pool B es ls F) {n:Str} (h:Known B n):n∈pool:=by
 obtain ⟨d,f,m,hb⟩:=j.born h;exact (j.gd.d5 _ hb).2.2 n rfl
theorem Jn.find (j:Jn pool B es ls F) {q:(Str×Str)×Addr×Int×Str} (h:q∈ls):Wu es q.1=some q.2.2:=by
 rw [←j.la];have:ZC q.1 ls=some q.2:=Zei j.kn h;rw [this];rfl
theorem Jn.mem_in (j:Jn pool B es ls F) {c:Str×Str} {x:Str} (h:x∈F c):Known B x:=by
 have ex:∃e∈es,x∈e.named∨e.bornName=some x:=by
  rw [j.lke] at h;obtain ⟨l,n⟩:=c;by_cases e:l="S"
  ·subst e;rcases ZbV.mp h with h|⟨q,hq,_,hx⟩
   ·exact Zgi _ _ h
   ·obtain ⟨e,he,ht,hs⟩:=ZeN (j.find hq);refine ⟨e,he,.inl ?_⟩
    have ZQ:x=e.pr.1∨x=e.pr.2:=by
     have:Ze e.pr.1 e.pr.2=(e.pr.1,e.pr.2)∨Ze e.pr.1 e.pr.2=(e.pr.2,e.pr.1):=by unfold Ze;split<;>simp
     rcases hx with hx|hx<;>rcases this with t|t<;>rw [←hs,hx] at t<;>have t1:=Qy (·.1) t<;>have t2:=Qy (·.2) t
     ·exact .inr t2
     ·exact .inl t2
     ·exact .inl t1
     ·exact .inr t1
    cases e with
    |union a b d=>rcases ZQ with rfl|rfl<;>simp [Ent.named,Ent.pr]
    |parted a b d=>rcases ZQ with rfl|rfl<;>simp [Ent.named,Ent.pr]
    |_=>cases ht
  ·rw [J8 e] at h;exact Zgi _ _ h
 obtain ⟨e,he,h1|h1⟩:=ex
 ·obtain ⟨s,d,f,m,hb⟩:=j.gd.known e he x h1;exact (j.known (JX.mp hb)).1
 ·cases e with
  |born n s d f m=>cases h1;exact (j.known he).1
  |_=>cases h1
theorem Jn.step (j:Jn pool B es ls F) {s n:Str} (hs:s∈Zq) (kn:Known B n) (x:Str):x∈YB B s n↔x∈F (s,n):=by
 have so:=Ze4 j.gd;have ne:=fun {l:Str} (hl:l∈Xu)=>ZfA so hl;have lks:∀l,YA B l n=(YC (es.map Ent.told)).1 (l,n):=fun l=>by rw [Uj,j.li.st.lks,j.hk]
 have six:∀{l:Str} {ad:Str->Ent->List Str},VQ l=false->¬l="S"->Adds l ad->(∀e,ad n e.told=ad n e)->(∀e∈es,∀f:ZO,YD f e (l,n)=f (l,n)++ad n e)->(x∈YB B l n↔x∈F (l,n)):=fun {l ad} ht nS A tl st=>by
  unfold YB;rw [Qa (by rw [ht];decide),lks,A.all,(WO _).mem_iff,Zpj tl,j.lke,J8 nS,Za4 st]
 have tst:s="he"∨s="she"->(x∈YB B s n↔x∈F (s,n)):=fun h=>by
  have ht:VQ s=true:=by rcases h with rfl|rfl<;>decide +kernel
  have nS:¬s="S":=by rcases h with rfl|rfl<;>decide +kernel
  unfold YB;rw [Qb ht,j.lke,J8 nS,ZeY h];obtain ⟨d,f,m,hb⟩:=j.born kn;by_cases e:X9 B n=s
  ·rw [Qb e];rw [e] at hb;exact ⟨fun z=>⟨by simpa using z,d,f,m,hb⟩,fun z=>by rw [z.1];simp⟩
  ·rw [Qa e];exact ⟨fun z=>(by cases z),fun ⟨_,d',f',m',hb'⟩=>absurd (j.known hb').2 e⟩
 simp only [Zq,Qh,QF,QG] at hs;rcases hs with rfl|rfl|rfl|rfl|rfl|rfl|rfl|h|h
 ·exact six (by decide +kernel) (by decide +kernel) ZhX (fun e=>by cases e<;>rfl) fun e he f=>Zg7 f e n (ne (by decide +kernel) e he)
 ·exact six (by decide +kernel) (by decide +kernel) Zh6 (fun e=>by cases e<;>rfl) fun e he f=>Zgw f e n (ne (by decide +kernel) e he)
 ·exact six (by decide +kernel) (by decide +kernel) Zed (fun e=>by cases e<;>rfl) fun e he f=>Zhm f e n (ne (by decide +kernel) e he)
 ·exact six (by decide +kernel) (by decide +kernel) ZeT (fun e=>by cases e<;>rfl) fun e he f=>Zfm f e n (ne (by decide +kernel) e he)
 ·exact six (by decide +kernel) (by decide +kernel) ZeS (fun e=>by cases e<;>rfl) fun e he f=>ZeC f e n (ne (by decide +kernel) e he)
 ·exact six (by decide +kernel) (by decide +kernel) ZhZ (fun e=>by cases e<;>rfl) fun e he f=>ZhD f e n (ne (by decide +kernel) e he)
 ·have eS:W3 es ("S",n)=[]:=by
   rw [Za4 (ad:=fun _=>[]) fun e he f=>Zh5 f e n (ne (by decide +kernel) e he)];simp
  have ap:=j.li.ap';have once:=j.li.once;rw [j.hk] at ap once;unfold YB;rw [Qa (by decide +kernel),lks,(ZlR ap).mem,ZfN once,←ZlL once,j.lke,ZbV,eS]
  have td:ZaO (es.map Ent.told) n x=true↔∃d,Wu es (Ze n x)=some (d,("union" : Str)):=by
   rw [←ZmE,ZoW];unfold ZaO;cases (es.map Ent.told).foldl (W4 n x) none with
   |none=>simp
   |some e =>
    show decide (e.kind="union")=true↔∃d,some (e.day,e.kind)=some (d,("union" : Str));rw [decide_eq_true_iff];exact ⟨fun h=>⟨e.day,by rw [h]⟩,fun ⟨d,h⟩=>Qy (·.2) (Qo h)⟩
  rw [td];constructor
  ·rintro ⟨d,h⟩;rw [←j.la] at h;cases hf:ZC (Ze n x) ls with
   |none=>rw [hf] at h;cases h
   |some w =>
    rw [hf] at h;have hm:=Ua hf;have hw:w.2=(d,("union" : Str)):=Qo h;refine .inr ⟨_,hm,by rw [hw],?_⟩;show Ze n x=(n,x)∨Ze n x=(x,n);unfold Ze;split<;>simp
  ·rintro (h|⟨q,hq,hu,hx⟩)
   ·cases h
   ·have hl:=j.find hq;obtain ⟨e,he,ht,hs⟩:=ZeN hl
    have e1:Ze n x=q.1:=by
     rcases hx with hx|hx
     ·rw [show Ze n x=Ze q.1.1 q.1.2 by rw [hx],hs,VJ]
     ·rw [Zcb,show Ze x n=Ze q.1.1 q.1.2 by rw [hx],hs,VJ]
    rw [e1,hl];exact ⟨q.2.2.1,by rw [←hu]⟩
 ·exact tst (.inl h)
 ·exact tst (.inr h)
theorem Jn.clo (j:Jn pool B es ls F) (l:pool.length≤60):Clo B pool:=⟨fun s hs n kn x hx=>j.mem_in ((j.step hs kn x).mp hx),fun n h=>j.inp h,l⟩
end
theorem BkAt.noE {K:W.Frag} {C:Addr} {H:Hp} {b dx k bi li ti su y:Addr} {B:Bk} (h:BkAt K C H b dx k bi li ti su B) (hy:H y=none∨y=bi∨y∈B.ties.map (·.2.1)) {c:Addr} (m:c∈[k,bi,li,ti,su,y]):∀φ,H c≠some (.ext φ):=fun φ z=>by
 simp only [Qh,QF,QG] at m;rcases m with rfl|rfl|rfl|rfl|rfl|rfl
 ·rw [h.ke] at z;cases z
 ·rw [h.bi] at z;cases z
 ·rw [h.li] at z;cases z
 ·rw [h.ti] at z;cases z
 ·rw [h.su] at z;cases z
 ·rcases hy with hy|rfl|hy
  ·rw [hy] at z;cases z
  ·rw [h.bi] at z;cases z
  ·obtain ⟨q,hq,rfl⟩:=Qg.mp hy;rw [h.tt q hq] at z;cases z
theorem LamH.but {P:Addr} {ln co:Nat} {q:Str} {S:List Addr} {H H':Hp} (h:LamH P ln co q H) (b:But S H H') (n:∀c∈S,∀φ,H c≠some (.ext φ)):LamH P ln co q H':=by
 obtain ⟨oc,h1,h2⟩:=h;exact ⟨oc,b.eq _ _ (fun m=>n _ m _ h1) h1,fun c' e=>b.eq _ _ (fun m=>n _ m _ (h2 c' e)) (h2 c' e)⟩
noncomputable def Zkx:Str:=("book_of_tree" : Str)++".<locals>."++"<lambda>"
abbrev Xr (tb:Addr) (H:Hp):Prop:=LamH tb 255 52 Zkx H
noncomputable abbrev ZjC:Arguments:=⟨[],[⟨"one",none,⟨255,59,255,62⟩⟩],none,[],[],none,[]⟩
noncomputable abbrev ZmN:Scope:=⟨.function,[("one",.local),("tree",.free)],false,false,[]⟩
theorem Zmf:LamOkD "one" "tree" "days" ZjC ZmN ⟨255,64,255,68⟩ ⟨255,64,255,73⟩ ⟨255,74,255,77⟩ ⟨255,64,255,78⟩ where
 bind:=fun _ _ _ _ _ _=>rfl
 loc:=rfl
 fre:=rfl
 kind:=rfl
 co:=rfl
 gen:=rfl
 cell:=by decide +kernel
 db:=by decide +kernel
 base:=fun _ _ _ _ _=>rfl
 sub:=fun _ _=>rfl
def Zaq (K:W.Frag) (tb tb2:Addr):Sp:=fun vs H Q E=>∃(l:Addr) (ns:List Int),vs=[.ref l]∧SqL K H l (ns.map V.int)∧ns.length≤63∧WD tb H∧Xr tb2 H∧∀H',WD tb H'->Xr tb2 H'->Q (.bl true) H'
structure Tr where
 days:List Int
 sorts:List Str
 par:List ((Str×Nat)×Nat)
 tak:List (Nat×Nat)
 uni:List (Nat×Nat)
 clash:Bool
 here:Nat
noncomputable def UO:Tr:=⟨[0],[""],[],[],[],false,0⟩
noncomputable def Wy (t:Tr) (l:Str) (c:Nat):Option Nat:=(t.par.find? fun q=>decide (q.1=(l,c))).map (·.2)
noncomputable def Tr.ask (t:Tr) (i:Nat) (s:Str):Tr:=if t.sorts.getD i ""="" then { t with sorts:=t.sorts.set i s } else if t.sorts.getD i ""=s then t else { t with clash:=true }
noncomputable def Tr.grow (t:Tr) (k:Int):Tr:={ t with days:=t.days++[t.days.getD t.here 0+k],sorts:=t.sorts++[("" : Str)],here:=t.days.length }
noncomputable def ZD (l:Str):Str:=if l="F" then "he" else "she"
noncomputable def Tr.addPar (t:Tr) (l:Str) (c p:Nat):Tr:={ t with par:=t.par++[((l,c),p)] }
noncomputable def Tr.goUp (t:Tr) (l:Str):Tr:=match Wy t l t.here with
 |some p=>{ t with here:=p }
 |none=>let u:=(t.grow (-1)).addPar l t.here t.days.length
  u.ask u.here (ZD l)
noncomputable def ZG (s:Str):Str:=if s="f" then "F" else "M"
noncomputable def Tr.go (t:Tr) (s:Str):Tr :=
 if s="he"∨s="she" then t.ask t.here s
 else if s="F"∨s="M" then t.goUp s
 else if s="f"∨s="m" then ((t.ask t.here (ZD (ZG s))).grow 1).addPar (ZG s) t.days.length t.here
 else if s="T" then { t.grow (-1) with tak:=t.tak++[(t.here,t.days.length)] }
 else if s="t" then { t.grow 1 with tak:=t.tak++[(t.days.length,t.here)] }
 else { t.grow 0 with uni:=t.uni++[(t.here,t.days.length)] }
noncomputable def YF (way:List Str):Tr:=way.foldl Tr.go UO
noncomputable def YL (ps:List ((Str×Nat)×Nat)):List (List Zj×V):=ps.map fun q=>([.inr q.1.1,.inl q.1.2],.int q.2)
def PrAt (H:Hp) (ps:List (Nat×Nat)) (vs:List V):Prop:=vs.length=ps.length∧∀(i:Nat) (p:Nat×Nat) (v:V),ps[i]?=some p->vs[i]?=some v->∃a,v=.ref a∧H a=some (.tup [.int p.1,.int p.2])
noncomputable def ZfX (dl sl pl tl ul:Addr) (t:Tr):List (Str×V):=[("days",.ref dl),("sorts",.ref sl),("parents",.ref pl),("takings",.ref tl),("unions",.ref ul),("clash",.bl t.clash),("here",.int t.here)]
structure TrAt (C:Addr) (H:Hp) (o dx dl sl pl tl ul:Addr) (t:Tr):Prop where
 ob:H o=some (.ins C dx (ZfX dl sl pl tl ul t))
 ap:[dl,sl,tl,ul].Nodup
 da:H dl=some (.lst (t.days.map V.int))
 so:H sl=some (.lst (t.sorts.map V.str))
 pa:H pl=some (.dT (YL t.par))
 ta:∃vs,H tl=some (.lst vs)∧PrAt H t.tak vs
 un:∃vs,H ul=some (.lst vs)∧PrAt H t.uni vs
structure TrOk (t:Tr):Prop where
 len:t.sorts.length=t.days.length
 he:t.here<t.days.length
 few:t.days.length≤60
 pf:t.par.length≤60
 tf:t.tak.length≤60
 uf:t.uni.length≤60
 pk:∀q∈t.par,q.1.2<t.days.length
theorem PrAt.mono {H H':Hp} {ps:List (Nat×Nat)} {vs:List V} (h:PrAt H ps vs) (s:∀a xs,H a=some (.tup xs)->H' a=some (.tup xs)):PrAt H' ps vs:=⟨h.1,fun i p v e1 e2=>by
 obtain ⟨a,ea,ha⟩:=h.2 i p v e1 e2;exact ⟨a,ea,s _ _ ha⟩⟩
theorem PrAt.snoc {H:Hp} {ps:List (Nat×Nat)} {vs:List V} (h:PrAt H ps vs) {a:Addr} {p:Nat×Nat} (e:H a=some (.tup [.int p.1,.int p.2])):PrAt H (ps++[p]) (vs++[.ref a]):=by
 refine ⟨by simp [h.1],fun i q v e1 e2=>?_⟩;by_cases l:i<ps.length
 ·rw [Rt l] at e1;rw [Rt (by rw [h.1];exact l)] at e2;exact h.2 i q v e1 e2
 ·have li:=(QH.mp e1).1;rw [Qn,GI] at li;have ei:i=ps.length:=by omega
  subst ei;rw [Rs (Qf _),Nat.sub_self] at e1;rw [Rs (by rw [h.1];exact Qf _),h.1,Nat.sub_self] at e2;cases (show p=q by simpa using e1);cases (show V.ref a=v by simpa using e2);exact ⟨a,rfl,e⟩
theorem TrAt.mono {C:Addr} {H H':Hp} {o dx dl sl pl tl ul:Addr} {t:Tr} (h:TrAt C H o dx dl sl pl tl ul t) (s:Same H H'):TrAt C H' o dx dl sl pl tl ul t:=by
 obtain ⟨vs,h1,h2⟩:=h.ta;obtain ⟨us,h3,h4⟩:=h.un;exact ⟨s _ _ h.ob,h.ap,s _ _ h.da,s _ _ h.so,s _ _ h.pa,⟨vs,s _ _ h1,h2.mono fun a xs e=>s _ _ e⟩,us,s _ _ h3,h4.mono fun a xs e=>s _ _ e⟩
section
variable {C:Addr} {H:Hp} {o dx dl sl pl tl ul:Addr} {t:Tr}
theorem TrAt.apart (h:TrAt C H o dx dl sl pl tl ul t):(o≠dl∧o≠sl∧o≠pl∧o≠tl∧o≠ul)∧(pl≠dl∧pl≠sl∧pl≠tl∧pl≠ul)∧dl≠sl∧dl≠tl∧dl≠ul∧sl≠tl∧sl≠ul∧tl≠ul:=by
 obtain ⟨vs,h1,_⟩:=h.ta;obtain ⟨us,h2,_⟩:=h.un;have n:=h.ap;simp only [QO,Qh,QF,QG,not_or,Nk,NI,and_true] at n
 exact ⟨⟨Z3 h.ob h.da (fun z=>by cases z),Z3 h.ob h.so (fun z=>by cases z),Z3 h.ob h.pa (fun z=>by cases z),Z3 h.ob h1 (fun z=>by cases z),Z3 h.ob h2 (fun z=>by cases z)⟩,
  ⟨Z3 h.pa h.da (fun z=>by cases z),Z3 h.pa h.so (fun z=>by cases z),Z3 h.pa h1 (fun z=>by cases z),Z3 h.pa h2 (fun z=>by cases z)⟩,n.1.1,n.1.2.1,n.1.2.2,n.2.1.1,n.2.1.2,n.2.2⟩
theorem Xz {H:Hp} {a b:Addr} {xs:List V} {u v:HO} (e:H a=some (.tup xs)) (hb:H b=some u) (n:∀ys,u≠.tup ys):Zc H b v a=some (.tup xs):=(Zd (Z3 e hb (fun z=>n _ z.symm))).trans e
end
section
variable {C:Addr} {H:Hp} {o dx dl sl pl tl ul:Addr} {t:Tr}
theorem TrAt.obj (h:TrAt C H o dx dl sl pl tl ul t) (c:Bool) (n:Nat):TrAt C (Zc H o (.ins C dx (ZfX dl sl pl tl ul { t with clash:=c,here:=n }))) o dx dl sl pl tl ul { t with clash:=c,here:=n }:=by
 obtain ⟨⟨a1,a2,a3,a4,a5⟩,_⟩:=h.apart;obtain ⟨vs,h1,h2⟩:=h.ta;obtain ⟨us,h3,h4⟩:=h.un;exact ⟨Zf,h.ap,(Zd a1.symm).trans h.da,(Zd a2.symm).trans h.so,(Zd a3.symm).trans h.pa,⟨vs,(Zd a4.symm).trans h1,h2.mono fun a xs e=>Xz e h.ob (fun _ z=>by cases z)⟩,us,(Zd a5.symm).trans h3,h4.mono fun a xs e=>Xz e h.ob (fun _ z=>by cases z)⟩
theorem TrAt.setS (h:TrAt C H o dx dl sl pl tl ul t) (ss:List Str):TrAt C (Zc H sl (.lst (ss.map V.str))) o dx dl sl pl tl ul { t with sorts:=ss }:=by
 obtain ⟨⟨a1,a2,a3,a4,a5⟩,⟨b1,b2,b3,b4⟩,c1,c2,c3,c4,c5,c6⟩:=h.apart;obtain ⟨vs,h1,h2⟩:=h.ta;obtain ⟨us,h3,h4⟩:=h.un;exact ⟨(Zd a2).trans h.ob,h.ap,(Zd c1).trans h.da,Zf,(Zd b2).trans h.pa,⟨vs,(Zd c4.symm).trans h1,h2.mono fun a xs e=>Xz e h.so (fun _ z=>by cases z)⟩,us,(Zd c5.symm).trans h3,h4.mono fun a xs e=>Xz e h.so (fun _ z=>by cases z)⟩
theorem TrAt.setD (h:TrAt C H o dx dl sl pl tl ul t) (ds:List Int):TrAt C (Zc H dl (.lst (ds.map V.int))) o dx dl sl pl tl ul { t with days:=ds }:=by
 obtain ⟨⟨a1,a2,a3,a4,a5⟩,⟨b1,b2,b3,b4⟩,c1,c2,c3,c4,c5,c6⟩:=h.apart;obtain ⟨vs,h1,h2⟩:=h.ta;obtain ⟨us,h3,h4⟩:=h.un;exact ⟨(Zd a1).trans h.ob,h.ap,Zf,(Zd c1.symm).trans h.so,(Zd b1).trans h.pa,⟨vs,(Zd c2.symm).trans h1,h2.mono fun a xs e=>Xz e h.da (fun _ z=>by cases z)⟩,us,(Zd c3.symm).trans h3,h4.mono fun a xs e=>Xz e h.da (fun _ z=>by cases z)⟩
theorem TrAt.setP (h:TrAt C H o dx dl sl pl tl ul t) (ps:List ((Str×Nat)×Nat)):TrAt C (Zc H pl (.dT (YL ps))) o dx dl sl pl tl ul { t with par:=ps }:=by
 obtain ⟨⟨a1,a2,a3,a4,a5⟩,⟨b1,b2,b3,b4⟩,c1,c2,c3,c4,c5,c6⟩:=h.apart;obtain ⟨vs,h1,h2⟩:=h.ta;obtain ⟨us,h3,h4⟩:=h.un;exact ⟨(Zd a3).trans h.ob,h.ap,(Zd b1.symm).trans h.da,(Zd b2.symm).trans h.so,Zf,⟨vs,(Zd b3.symm).trans h1,h2.mono fun a xs e=>Xz e h.pa (fun _ z=>by cases z)⟩,us,(Zd b4.symm).trans h3,h4.mono fun a xs e=>Xz e h.pa (fun _ z=>by cases z)⟩
theorem TrAt.addT (h:TrAt C H o dx dl sl pl tl ul t) {vs:List V} (h1:H tl=some (.lst vs)) (h2:PrAt H t.tak vs) {a:Addr} {p:Nat×Nat} (e:H a=some (.tup [.int p.1,.int p.2])):TrAt C (Zc H tl (.lst (vs++[.ref a]))) o dx dl sl pl tl ul { t with tak:=t.tak++[p] }:=by
 obtain ⟨⟨a1,a2,a3,a4,a5⟩,⟨b1,b2,b3,b4⟩,c1,c2,c3,c4,c5,c6⟩:=h.apart;obtain ⟨us,h3,h4⟩:=h.un;exact ⟨(Zd a4).trans h.ob,h.ap,(Zd c2).trans h.da,(Zd c4).trans h.so,(Zd b3).trans h.pa,⟨_,Zf,PrAt.snoc (h2.mono fun a xs e=>Xz e h1 (fun _ z=>by cases z)) (Xz e h1 (fun _ z=>by cases z))⟩,us,(Zd c6.symm).trans h3,h4.mono fun a xs e=>Xz e h1 (fun _ z=>by cases z)⟩
theorem TrAt.addU (h:TrAt C H o dx dl sl pl tl ul t) {us:List V} (h1:H ul=some (.lst us)) (h2:PrAt H t.uni us) {a:Addr} {p:Nat×Nat} (e:H a=some (.tup [.int p.1,.int p.2])):TrAt C (Zc H ul (.lst (us++[.ref a]))) o dx dl sl pl tl ul { t with uni:=t.uni++[p] }:=by
 obtain ⟨⟨a1,a2,a3,a4,a5⟩,⟨b1,b2,b3,b4⟩,c1,c2,c3,c4,c5,c6⟩:=h.apart;obtain ⟨vs,h3,h4⟩:=h.ta;exact ⟨(Zd a5).trans h.ob,h.ap,(Zd c3).trans h.da,(Zd c5).trans h.so,(Zd b4).trans h.pa,⟨vs,(Zd c6).trans h3,h4.mono fun a xs e=>Xz e h1 (fun _ z=>by cases z)⟩,_,Zf,PrAt.snoc (h2.mono fun a xs e=>Xz e h1 (fun _ z=>by cases z)) (Xz e h1 (fun _ z=>by cases z))⟩
end
theorem But.updT {S:List Addr} {H H':Hp} {a:Addr} {u:HO} (h:But S H H') (m:a∈S):But S H (Zc H' a u):=⟨fun c v n e=>by rw [Zd (fun z:c=a=>n (by rw [z];exact m))];exact h.eq c v n e,fun c n=>h.al c (by
 by_cases z:c=a
 ·rw [z,Zf] at n;cases n
 ·rw [Zd z] at n;exact n)⟩
theorem But.wide {S S':List Addr} {H H':Hp} (h:But S H H') (m:∀c∈S,c∈S'):But S' H H':=⟨fun c v n e=>h.eq c v (fun z=>n (m c z)) e,h.al⟩
theorem But.rfl' (S:List Addr) (H:Hp):But S H H:=⟨fun _ _ _ e=>e,fun _ n=>n⟩
theorem Jx (ps:List ((Str×Nat)×Nat)) (l:Str) (c:Nat):ZI (YL ps) [.inr l,.inl (c:Int)]=((ps.find? fun q=>decide (q.1=(l,c))).map (·.2)).map fun n:Nat=>V.int n:=by
 induction ps with
 |nil=>rfl
 |cons q ps ih =>
  unfold YL;rw [Qt];by_cases e:q.1=(l,c)
  ·rw [XV (by rw [e]),List.find?_cons_of_pos (by simpa using e)];rfl
  ·rw [X0 (fun z=>e (by
    have z1:=RA z;have z2:=RA z1.2;exact Q7 (RX z1.1) (by have:=Sum.inl.inj z2.1;exact Int.ofNat.inj this))),List.find?_cons_of_neg (by simpa using e)]
   exact ih
theorem ZbP {ps:List ((Str×Nat)×Nat)} {l:Str} {c p:Nat} (h:(ps.find? fun q=>decide (q.1=(l,c)))=none):Yp (YL ps) [.inr l,.inl (c:Int)] (.int p)=YL (ps++[((l,c),p)]):=by
 rw [ZaL _ (by rw [Jx,h];rfl)];unfold YL;rw [Qs];rfl
theorem Zn9 {n i:Nat} (h:i<n):Wh n (i:Int)=some i:=by
 unfold Wh;rw [Qb (Int.natCast_nonneg i),Qb (by omega)];rfl
theorem Zf1 {W:List Str} {n:Nat} {z:Str} (h:W[n]?=some z):Yt (W.map V.str) (n:Int)=some (.str z):=XM (by rw [QA,h];rfl)
theorem Y1 (t:Tr) (i:Nat) (s:Str):(t.ask i s).days=t.days∧(t.ask i s).par=t.par∧(t.ask i s).tak=t.tak∧(t.ask i s).uni=t.uni∧(t.ask i s).here=t.here∧(t.ask i s).sorts.length=t.sorts.length:=by
 unfold Tr.ask;split
 ·exact ⟨rfl,rfl,rfl,rfl,rfl,List.length_set⟩
 ·split<;>exact ⟨rfl,rfl,rfl,rfl,rfl,rfl⟩
theorem TrOk.ask {t:Tr} (h:TrOk t) (i:Nat) (s:Str):TrOk (t.ask i s):=by
 obtain ⟨a,b,c,d,e,f⟩:=Y1 t i s;exact ⟨by rw [f,a];exact h.len,by rw [e,a];exact h.he,by rw [a];exact h.few,by rw [b];exact h.pf,by rw [c];exact h.tf,by rw [d];exact h.uf,by rw [a,b];exact h.pk⟩
theorem X1 (t:Tr) (k:Int):(t.grow k).days.length=t.days.length+1:=by unfold Tr.grow;rw [Qn];rfl
theorem TrOk.grow {t:Tr} (h:TrOk t) (l:t.days.length≤59) (k:Int):TrOk (t.grow k):=⟨by rw [X1];show (t.sorts++[("" : Str)]).length=_;rw [Qn,h.len];rfl,by rw [X1];exact Rb _,by rw [X1];omega,h.pf,h.tf,h.uf,fun q hq=>by rw [X1];exact R4 (h.pk q hq)⟩
theorem TrOk.addPar {t:Tr} (h:TrOk t) (l:t.par.length≤59) (s:Str) {c:Nat} (hc:c<t.days.length) (p:Nat):TrOk (t.addPar s c p):=⟨h.len,h.he,h.few,by show (t.par++[_]).length≤60;rw [Qn];simp;omega,h.tf,h.uf,fun q hq=>by
 rcases Ql.mp hq with hq|hq
 ·exact h.pk q hq
 ·rw [QD.mp hq];exact hc⟩
theorem Zhv {t:Tr} (h:TrOk t) (l:Str):(t.par.find? fun q=>decide (q.1=(l,t.days.length)))=none:=by
 rw [NB];intro q hq z;have e:q.1=(l,t.days.length):=Q0 z;have:=h.pk q hq;rw [e] at this;exact absurd this (QE _)
theorem J7 (t:Tr) {s:Str} (h:s="he"∨s="she"):t.go s=t.ask t.here s:=by unfold Tr.go;rw [Qb h]
theorem JE (t:Tr) {s:Str} (h:s="F"∨s="M"):t.go s=t.goUp s:=by unfold Tr.go;rw [Qa (by rcases h with rfl|rfl<;>decide +kernel),Qb h]
theorem Zaj (t:Tr) {s:Str} (h:s="f"∨s="m"):t.go s=((t.ask t.here (ZD (ZG s))).grow 1).addPar (ZG s) t.days.length t.here:=by unfold Tr.go;rw [Qa (by rcases h with rfl|rfl<;>decide +kernel),Qa (by rcases h with rfl|rfl<;>decide +kernel),Qb h]
theorem Za3 (t:Tr):t.go "T"={ t.grow (-1) with tak:=t.tak++[(t.here,t.days.length)] }:=by unfold Tr.go;rw [Qa (by decide +kernel),Qa (by decide +kernel),Qa (by decide +kernel),Qb rfl]
theorem ZaF (t:Tr):t.go "t"={ t.grow 1 with tak:=t.tak++[(t.days.length,t.here)] }:=by unfold Tr.go;rw [Qa (by decide +kernel),Qa (by decide +kernel),Qa (by decide +kernel),Qa (by decide +kernel),Qb rfl]
theorem ZaM (t:Tr):t.go "S"={ t.grow 0 with uni:=t.uni++[(t.here,t.days.length)] }:=by unfold Tr.go;rw [Qa (by decide +kernel),Qa (by decide +kernel),Qa (by decide +kernel),Qa (by decide +kernel),Qa (by decide +kernel)]
noncomputable def Zg (i:Nat):Str:=⟨#[97,97+i]⟩
noncomputable def Z9 (t:Tr) (l:Str) (i:Nat):Str:=match Wy t l i with
 |some p=>Zg p
 |none=>""
noncomputable def X7 (t:Tr) (i:Nat):Ent:=.born (Zg i) (t.sorts.getD i "") (t.days.getD i 0) (Z9 t "F" i) (Z9 t "M" i)
theorem Zpb:∀n,n<26->("abcdefghijklmnopqrstuvwxyz" : Str).cps.toList[n]?=some (97+n):=by decide +kernel
theorem Zh8 {ps:List ((Str×Nat)×Nat)} {k:Str×Nat} {p:Nat} (h:(ps.find? fun q=>decide (q.1=k)).map (·.2)=some p):(k,p)∈ps:=by
 obtain ⟨q,hq,rfl⟩:=QQ.mp h;have e:q.1=k:=by have:=List.find?_some hq;exact Q0 this
 rw [←e];exact List.mem_of_find?_eq_some hq
structure TI (t:Tr) (k:Nat):Prop where
 len:t.sorts.length=t.days.length
 he:t.here<t.days.length
 n:t.days.length≤k+1
 pf:t.par.length≤k
 tf:t.tak.length≤k
 uf:t.uni.length≤k
 pn:∀q∈t.par,q.1.2<t.days.length∧q.2<t.days.length∧(q.1.1="F"∨q.1.1="M")∧t.days.getD q.2 0=t.days.getD q.1.2 0-1∧(t.clash=false->t.sorts.getD q.2 ""=ZD q.1.1)
 pnd:(t.par.map (·.1)).Nodup
 tk:∀p∈t.tak,p.1<t.days.length∧p.2<t.days.length∧t.days.getD p.2 0=t.days.getD p.1 0-1
 tnd:t.tak.Nodup
 un:∀p∈t.uni,p.1<p.2∧p.2<t.days.length
 und:t.uni.Nodup
 ss:∀s∈t.sorts,s=""∨s="he"∨s="she"
 bd:∀d∈t.days,-(k:Int)≤d∧d≤k
theorem TI.start:TI UO 0:=⟨rfl,by decide,by decide,by decide,by decide,by decide,fun q hq=>(by cases hq),.nil,fun q hq=>(by cases hq),.nil,fun q hq=>(by cases hq),.nil,by decide +kernel,by decide⟩
theorem TI.ok {t:Tr} {k:Nat} (h:TI t k) (l:k≤50):TrOk t:=⟨h.len,h.he,by have:=h.n;omega,by have:=h.pf;omega,by have:=h.tf;omega,by have:=h.uf;omega,fun q hq=>(h.pn q hq).1⟩
structure Sub (t u:Tr):Prop where
 par:∀q∈t.par,q∈u.par
 tak:∀q∈t.tak,q∈u.tak
 uni:∀q∈t.uni,q∈u.uni
 cl:u.clash=false->t.clash=false
 so:∀i,t.sorts.getD i ""≠""->u.sorts.getD i ""=t.sorts.getD i ""
theorem Sub.refl (t:Tr):Sub t t:=⟨fun _ h=>h,fun _ h=>h,fun _ h=>h,fun h=>h,fun _ _=>rfl⟩
theorem Sub.trans {t u v:Tr} (a:Sub t u) (b:Sub u v):Sub t v:=⟨fun q h=>b.par q (a.par q h),fun q h=>b.tak q (a.tak q h),fun q h=>b.uni q (a.uni q h),fun h=>a.cl (b.cl h),fun i h=>(b.so i (by rw [a.so i h];exact h)).trans (a.so i h)⟩
theorem Zd0 (l:Str):ZD l≠"":=by unfold ZD;split<;>decide +kernel
theorem ZeP (l:Str):ZD l=""∨ZD l="he"∨ZD l="she":=by unfold ZD;split<;>simp
theorem Zau {l:List Str} {i j:Nat} {s:Str}:(l.set i s).getD j ""=if i=j∧i<l.length then s else l.getD j "":=by
 rw [QP,List.getElem?_set,QP];by_cases e:i=j
 ·subst e;by_cases h:i<l.length
  ·simp [h]
  ·simp [h]
 ·simp [e]
theorem Zep {α:Type} {l:List α} {i:Nat} {x d:α} (h:i<l.length):(l++[x]).getD i d=l.getD i d:=by
 rw [QP,Rt h,QP]
theorem ZpF {α:Type} {l:List α} {x d:α}:(l++[x]).getD l.length d=x:=by
 rw [QP,Rs (Qf _),Nat.sub_self];rfl
theorem Vc {l:List Str} {i:Nat}:(l++[("" : Str)]).getD i ""=l.getD i "":=by
 rw [QP,QP,List.getElem?_append];by_cases h:i<l.length
 ·rw [Qb h]
 ·rw [Qa h,show l[i]?=none from Gq (by omega)];cases i-l.length<;>rfl
section
variable {t:Tr} {k:Nat}
theorem Zh0 (t:Tr) (i:Nat) (s:Str):∀j,t.sorts.getD j ""≠""->(t.ask i s).sorts.getD j ""=t.sorts.getD j "":=fun j h=>by
 unfold Tr.ask;split
 ·rename_i e;show (t.sorts.set i s).getD j ""=_;rw [Zau,Qa fun z:i=j∧i<t.sorts.length=>h (z.1▸e)]
 ·split<;>rfl
theorem JF {t:Tr} {i:Nat} {s:Str} (h:(t.ask i s).clash=false):t.clash=false∧(i<t.sorts.length->(t.ask i s).sorts.getD i ""=s):=by
 unfold Tr.ask at h ⊢;split at h
 ·rename_i e;refine ⟨h,fun l=>?_⟩;rw [Qb e];show (t.sorts.set i s).getD i ""=s;rw [Zau,Qb ⟨rfl,l⟩]
 ·rename_i e;split at h
  ·rename_i e2;refine ⟨h,fun l=>?_⟩;rw [Qa e,Qb e2];exact e2
  ·cases h
theorem TI.ask (h:TI t k) (i:Nat) {s:Str} (hs:s=""∨s="he"∨s="she"):TI (t.ask i s) k:=by
 obtain ⟨a,b,c,d,e,f⟩:=Y1 t i s;have hn:∀q∈t.par,t.clash=false->t.sorts.getD q.2 ""≠"":=fun q hq hc=>by rw [(h.pn q hq).2.2.2.2 hc];exact Zd0 _
 refine ⟨by rw [f,a];exact h.len,by rw [e,a];exact h.he,by rw [a];exact h.n,by rw [b];exact h.pf,by rw [c];exact h.tf,by rw [d];exact h.uf,fun q hq=>?_,by rw [b];exact h.pnd,by rw [a,c];exact h.tk,by rw [c];exact h.tnd,by rw [a,d];exact h.un,by rw [d];exact h.und,fun x hx=>?_,by rw [a];exact h.bd⟩
 ·rw [b] at hq;rw [a];obtain ⟨p1,p2,p3,p4,p5⟩:=h.pn q hq;refine ⟨p1,p2,p3,p4,fun hc=>?_⟩;have hc':=(JF hc).1;rw [Zh0 t i s q.2 (hn q hq hc')];exact p5 hc'
 ·unfold Tr.ask at hx;split at hx
  ·rcases List.mem_or_eq_of_mem_set hx with hx|hx
   ·exact h.ss x hx
   ·rw [hx];exact hs
  ·split at hx<;>exact h.ss x hx
theorem Sub.ask (t:Tr) (i:Nat) (s:Str):Sub t (t.ask i s):=by
 obtain ⟨a,b,c,d,e,f⟩:=Y1 t i s;exact ⟨fun q h=>by rw [b];exact h,fun q h=>by rw [c];exact h,fun q h=>by rw [d];exact h,fun h=>(JF h).1,Zh0 t i s⟩
theorem Sub.grow (t:Tr) (k:Int):Sub t (t.grow k):=⟨fun q h=>h,fun q h=>h,fun q h=>h,fun h=>h,fun i _=>Vc⟩
theorem TI.grow (h:TI t k) {g:Int} (hg:-1≤g∧g≤1):TI (t.grow g) (k+1):=by
 have gd:∀{i},i<t.days.length->(t.grow g).days.getD i 0=t.days.getD i 0:=fun hi=>Zep hi;have gl:=X1 t g;refine ⟨by rw [gl];show (t.sorts++[("" : Str)]).length=_;rw [Qn,h.len];rfl,by rw [gl];exact Rb _,by rw [gl];have:=h.n;omega,GV h.pf,GV h.tf,GV h.uf,fun q hq=>?_,h.pnd,fun p hp=>?_,h.tnd,fun p hp=>?_,h.und,fun x hx=>?_,fun d hd=>?_⟩
 ·obtain ⟨p1,p2,p3,p4,p5⟩:=h.pn q hq;rw [gl,gd p1,gd p2];exact ⟨by omega,by omega,p3,p4,fun hc=>(show (t.sorts++[("" : Str)]).getD q.2 ""=_ from Vc.trans (p5 hc))⟩
 ·obtain ⟨p1,p2,p3⟩:=h.tk p hp;rw [gl,gd p1,gd p2];exact ⟨by omega,by omega,p3⟩
 ·obtain ⟨p1,p2⟩:=h.un p hp;rw [gl];exact ⟨p1,by omega⟩
 ·rcases Ql.mp hx with hx|hx
  ·exact h.ss x hx
  ·exact .inl (by simpa using hx)
 ·rcases Ql.mp hd with hd|hd
  ·have:=h.bd d hd;omega
  ·have hd:d=t.days.getD t.here 0+g:=by simpa using hd
   have:=h.bd (t.days.getD t.here 0) (by rw [QP,Qx h.he];exact R9 h.he);omega
theorem Zbh (t:Tr) (g:Int):(t.grow g).days.getD t.days.length 0=t.days.getD t.here 0+g:=ZpF
theorem ZaA {t:Tr} {g:Int} {i:Nat} (h:i<t.days.length):(t.grow g).days.getD i 0=t.days.getD i 0:=Zep h
theorem TI.here' (h:TI t k) {p:Nat} (hp:p<t.days.length):TI { t with here:=p } k:=⟨h.len,hp,h.n,h.pf,h.tf,h.uf,h.pn,h.pnd,h.tk,h.tnd,h.un,h.und,h.ss,h.bd⟩
theorem TI.up (h:TI t k):TI t (k+1):=⟨h.len,h.he,by have:=h.n;omega,by have:=h.pf;omega,by have:=h.tf;omega,by have:=h.uf;omega,h.pn,h.pnd,h.tk,h.tnd,h.un,h.und,h.ss,fun d hd=>by have:=h.bd d hd;omega⟩
end
def RT (t:Tr) (s:Str) (i j:Nat):Prop :=
 if s="he"∨s="she" then i=j∧t.sorts.getD i ""=s
 else if s="F"∨s="M" then ((s,i),j)∈t.par
 else if s="f"∨s="m" then ((ZG s,j),i)∈t.par
 else if s="T" then (i,j)∈t.tak
 else if s="t" then (j,i)∈t.tak
 else (i,j)∈t.uni∨(j,i)∈t.uni
theorem XH {t:Tr} {s:Str} {i j:Nat} (h:s="he"∨s="she"):RT t s i j↔i=j∧t.sorts.getD i ""=s:=by unfold RT;rw [Qb h]
theorem XZ {t:Tr} {s:Str} {i j:Nat} (h:s="F"∨s="M"):RT t s i j↔((s,i),j)∈t.par:=by unfold RT;rw [Qa (by rcases h with rfl|rfl<;>decide +kernel),Qb h]
theorem V0 {t:Tr} {s:Str} {i j:Nat} (h:s="f"∨s="m"):RT t s i j↔((ZG s,j),i)∈t.par:=by unfold RT;rw [Qa (by rcases h with rfl|rfl<;>decide +kernel),Qa (by rcases h with rfl|rfl<;>decide +kernel),Qb h]
theorem Uq {t:Tr} {i j:Nat}:RT t "T" i j↔(i,j)∈t.tak:=by unfold RT;rw [Qa (by decide +kernel),Qa (by decide +kernel),Qa (by decide +kernel),Qb rfl]
theorem VY {t:Tr} {i j:Nat}:RT t "t" i j↔(j,i)∈t.tak:=by unfold RT;rw [Qa (by decide +kernel),Qa (by decide +kernel),Qa (by decide +kernel),Qa (by decide +kernel),Qb rfl]
theorem VO {t:Tr} {i j:Nat}:RT t "S" i j↔(i,j)∈t.uni∨(j,i)∈t.uni:=by unfold RT;rw [Qa (by decide +kernel),Qa (by decide +kernel),Qa (by decide +kernel),Qa (by decide +kernel),Qa (by decide +kernel)]
theorem Ji {s:Str} (h:s∈Zq):(s="he"∨s="she")∨(s="F"∨s="M")∨(s="f"∨s="m")∨s="T"∨s="t"∨s="S":=by
 simp only [Zq,Qh,QF,QG] at h;rcases h with h|h|h|h|h|h|h|h|h<;>simp [h]
theorem Zku {s:Str} (h:s="he"∨s="she"):s≠"":=by rcases h with rfl|rfl<;>decide +kernel
theorem RT.mono {t u:Tr} (a:Sub t u) {s:Str} (hs:s∈Zq) {i j:Nat} (h:RT t s i j):RT u s i j:=by
 rcases Ji hs with c|c|c|rfl|rfl|rfl
 ·rw [XH c] at h ⊢;refine ⟨h.1,(a.so i ?_).trans h.2⟩;rw [h.2];exact Zku c
 ·rw [XZ c] at h ⊢;exact a.par _ h
 ·rw [V0 c] at h ⊢;exact a.par _ h
 ·rw [Uq] at h ⊢;exact a.tak _ h
 ·rw [VY] at h ⊢;exact a.tak _ h
 ·rw [VO] at h ⊢;exact h.imp (a.uni _) (a.uni _)
section
variable {t:Tr} {k:Nat}
theorem TI.addPar (h:TI t (k+1)) (pf:t.par.length≤k) {l:Str} {c p:Nat} (hc:c<t.days.length) (hp:p<t.days.length) (hl:l="F"∨l="M") (hd:t.days.getD p 0=t.days.getD c 0-1) (hs:t.clash=false->t.sorts.getD p ""=ZD l) (hn:(l,c)∉t.par.map (·.1)):TI (t.addPar l c p) (k+1):=by
 refine ⟨h.len,h.he,h.n,by show (t.par++[_]).length≤_;rw [Qn];simp;omega,h.tf,h.uf,fun q hq=>?_,?_,h.tk,h.tnd,h.un,h.und,h.ss,h.bd⟩
 ·rcases Ql.mp hq with hq|hq
  ·exact h.pn q hq
  ·rw [QD.mp hq];exact ⟨hc,hp,hl,hd,hs⟩
 ·show ((t.par++[((l,c),p)]).map (·.1)).Nodup;rw [Qs,QW];refine ⟨h.pnd,by simp,fun a ha b hb e=>hn ?_⟩;have hb:b=(l,c):=by simpa using hb
  rw [←hb,←e];exact ha
theorem Sub.addPar (t:Tr) (l:Str) (c p:Nat):Sub t (t.addPar l c p):=⟨fun q h=>Q8 _ h,fun q h=>h,fun q h=>h,fun h=>h,fun _ _=>rfl⟩
theorem VM (h:TI t k) {l:Str} {c p:Nat}:Wy t l c=some p↔((l,c),p)∈t.par:=by
 refine ⟨Zh8,fun m=>?_⟩;unfold Wy
 have:∀{ps:List ((Str×Nat)×Nat)},(ps.map (·.1)).Nodup->((l,c),p)∈ps->(ps.find? fun q=>decide (q.1=(l,c))).map (·.2)=some p:=by
  intro ps
  induction ps with
  |nil=>intro _ m;cases m
  |cons q ps ih =>
   intro nd m;rw [Qt,QO] at nd;rcases Qh.mp m with rfl|m
   ·rw [List.find?_cons_of_pos (by simp)];rfl
   ·have ne:q.1≠(l,c):=fun z=>nd.1 (by rw [z];exact Qg.mpr ⟨_,m,rfl⟩);rw [List.find?_cons_of_neg (by simpa using ne)];exact ih nd.2 m
 exact this h.pnd m
theorem Zo9 (h:Wy t l c=none):(l,c)∉t.par.map (·.1):=fun m=>by
 obtain ⟨q,hq,e⟩:=Qg.mp m;have:=NN.mp h;rw [NB] at this;exact this q hq (by simpa using e)
theorem Zic (h:TI t k) {s:Str} (hs:s∈Zq):TI (t.go s) (k+1)∧Sub t (t.go s)∧((t.go s).clash=false->RT (t.go s) s t.here (t.go s).here):=by
 rcases Ji hs with c|c|c|rfl|rfl|rfl
 ·rw [J7 t c];refine ⟨(h.ask t.here (.inr c)).up,Sub.ask t t.here s,fun hc=>?_⟩;rw [XH c,(Y1 t t.here s).2.2.2.2.1];exact ⟨rfl,(JF hc).2 (by rw [h.len];exact h.he)⟩
 ·rw [JE t c];unfold Tr.goUp;cases hp:Wy t s t.here with
  |some p =>
   have m:=(VM h).mp hp;refine ⟨(h.here' (h.pn _ m).2.1).up,⟨fun q h=>h,fun q h=>h,fun q h=>h,fun h=>h,fun _ _=>rfl⟩,fun _=>?_⟩;rw [XZ c];exact m
  |none =>
   have hno:=Zo9 hp;have g:=h.grow (g:=-1) (by omega)
   have a0:(t.grow (-1)).sorts.getD t.days.length ""="":=by
    show (t.sorts++[("" : Str)]).getD t.days.length ""="";rw [Vc,QP,Gq (by rw [h.len];exact Qf _)];rfl
   have ex:((t.grow (-1)).addPar s t.here t.days.length).ask ((t.grow (-1)).addPar s t.here t.days.length).here (ZD s)=((t.grow (-1)).ask t.days.length (ZD s)).addPar s t.here t.days.length:=by
    unfold Tr.ask;rw [Qb (show ((t.grow (-1)).addPar s t.here t.days.length).sorts.getD ((t.grow (-1)).addPar s t.here t.days.length).here ""="" from a0),Qb a0];rfl
   show TI (((t.grow (-1)).addPar s t.here t.days.length).ask ((t.grow (-1)).addPar s t.here t.days.length).here (ZD s)) (k+1)∧_;rw [ex];obtain ⟨a,b,c',d,e,f⟩:=Y1 (t.grow (-1)) t.days.length (ZD s);have g2:=g.ask t.days.length (ZeP s);refine ⟨g2.addPar (by rw [b];exact h.pf) (by rw [a,X1];have:=h.he;omega) (by rw [a,X1];omega) c (by rw [a,Zbh,ZaA h.he];omega) (fun hc=>(JF hc).2 (by show t.days.length<(t.sorts++[("" : Str)]).length;rw [Qn,h.len];simp)) (by rw [b];exact hno),((Sub.grow t (-1)).trans (Sub.ask _ _ _)).trans (Sub.addPar ..),fun _=>?_⟩;rw [XZ c];refine QS _ ?_;show _∈[((s,t.here),t.days.length)];rw [show (((t.grow (-1)).ask t.days.length (ZD s)).addPar s t.here t.days.length).here=t.days.length from e];simp
 ·rw [Zaj t c];have hu:ZG s="F"∨ZG s="M":=by rcases c with rfl|rfl<;>decide +kernel
  obtain ⟨a,b,c',d,e,f⟩:=Y1 t t.here (ZD (ZG s));have g:=(h.ask t.here (ZeP (ZG s))).grow (g:=1) (by omega);have hl:((t.ask t.here (ZD (ZG s))).grow 1).days.length=t.days.length+1:=by rw [X1,a]
  refine ⟨g.addPar (by show (t.ask t.here (ZD (ZG s))).par.length≤k;rw [b];exact h.pf) (by rw [hl];omega) (by rw [hl];have:=h.he;omega) hu ?_ (fun hc=>?_) (fun m=>?_),((Sub.ask _ _ _).trans (Sub.grow _ _)).trans (Sub.addPar ..),fun _=>?_⟩
  ·have e1:((t.ask t.here (ZD (ZG s))).grow 1).days.getD t.days.length 0=t.days.getD t.here 0+1:=by
    have:=Zbh (t.ask t.here (ZD (ZG s))) 1;rw [a,e] at this;exact this
   rw [e1,ZaA (by rw [a];exact h.he),a];omega
  ·show ((t.ask t.here (ZD (ZG s))).sorts++[("" : Str)]).getD t.here ""=_;rw [Vc];exact (JF (show (t.ask t.here (ZD (ZG s))).clash=false from hc)).2 (by rw [h.len];exact h.he)
  ·obtain ⟨q,hq,eq⟩:=Qg.mp m
   have hq:q∈t.par:=by
    have:q∈(t.ask t.here (ZD (ZG s))).par:=hq;rw [b] at this;exact this
   have:=(h.pn q hq).1;rw [eq] at this;exact absurd this (QE _)
  ·rw [V0 c];refine QS _ ?_;rw [show (((t.ask t.here (ZD (ZG s))).grow 1).addPar (ZG s) t.days.length t.here).here=t.days.length from (show (t.ask t.here (ZD (ZG s))).days.length=_ by rw [a])];simp
 ·rw [Za3];have g:=h.grow (g:=-1) (by omega);refine ⟨⟨g.len,g.he,g.n,g.pf,?_,g.uf,g.pn,g.pnd,fun p hp=>?_,?_,g.un,g.und,g.ss,g.bd⟩,⟨fun q h=>h,fun q h=>Q8 _ h,fun q h=>h,fun h=>h,fun i _=>Vc⟩,fun _=>?_⟩
  ·show (t.tak++[_]).length≤_;rw [Qn];have:=h.tf;simp;omega
  ·rcases Ql.mp hp with hp|hp
   ·exact g.tk p hp
   ·rw [QD.mp hp];show t.here<(t.grow (-1)).days.length∧t.days.length<(t.grow (-1)).days.length∧(t.grow (-1)).days.getD t.days.length 0=(t.grow (-1)).days.getD t.here 0-1;rw [X1,Zbh,ZaA h.he];have:=h.he;omega
  ·show (t.tak++[_]).Nodup;rw [QW];refine ⟨h.tnd,by simp,fun x hx y hy e=>?_⟩;rw [QD.mp hy] at e;have:=(h.tk x hx).2.1;rw [e] at this;exact QE _ this
  ·rw [Uq];exact QS _ (by simp [Tr.grow])
 ·rw [ZaF];have g:=h.grow (g:=1) (by omega);refine ⟨⟨g.len,g.he,g.n,g.pf,?_,g.uf,g.pn,g.pnd,fun p hp=>?_,?_,g.un,g.und,g.ss,g.bd⟩,⟨fun q h=>h,fun q h=>Q8 _ h,fun q h=>h,fun h=>h,fun i _=>Vc⟩,fun _=>?_⟩
  ·show (t.tak++[_]).length≤_;rw [Qn];have:=h.tf;simp;omega
  ·rcases Ql.mp hp with hp|hp
   ·exact g.tk p hp
   ·rw [QD.mp hp];show t.days.length<(t.grow 1).days.length∧t.here<(t.grow 1).days.length∧(t.grow 1).days.getD t.here 0=(t.grow 1).days.getD t.days.length 0-1;rw [X1,Zbh,ZaA h.he];have:=h.he;omega
  ·show (t.tak++[_]).Nodup;rw [QW];refine ⟨h.tnd,by simp,fun x hx y hy e=>?_⟩;rw [QD.mp hy] at e;have:=(h.tk x hx).1;rw [e] at this;exact QE _ this
  ·rw [VY];exact QS _ (by simp [Tr.grow])
 ·rw [ZaM];have g:=h.grow (g:=0) (by omega);refine ⟨⟨g.len,g.he,g.n,g.pf,g.tf,?_,g.pn,g.pnd,g.tk,g.tnd,fun p hp=>?_,?_,g.ss,g.bd⟩,⟨fun q h=>h,fun q h=>h,fun q h=>Q8 _ h,fun h=>h,fun i _=>Vc⟩,fun _=>?_⟩
  ·show (t.uni++[_]).length≤_;rw [Qn];have:=h.uf;simp;omega
  ·rcases Ql.mp hp with hp|hp
   ·exact g.un p hp
   ·rw [QD.mp hp];show t.here<t.days.length∧t.days.length<(t.grow 0).days.length;rw [X1];have:=h.he;omega
  ·show (t.uni++[_]).Nodup;rw [QW];refine ⟨h.und,by simp,fun x hx y hy e=>?_⟩;rw [QD.mp hy] at e;have:=(h.un x hx).2;rw [e] at this;exact QE _ this
  ·rw [VO];exact .inl (QS _ (by simp [Tr.grow]))
end
def WT (R:Str->Nat->Nat->Prop):List Str->Nat->Nat->Prop
 |[],i,j=>i=j
 |s::w,i,j=>∃m,R s i m∧WT R w m j
theorem Jd:∀{w:List Str} {t:Tr} {k:Nat},TI t k->(∀s∈w,s∈Zq)->TI (w.foldl Tr.go t) (k+w.length)∧Sub t (w.foldl Tr.go t)∧((w.foldl Tr.go t).clash=false->WT (RT (w.foldl Tr.go t)) w t.here (w.foldl Tr.go t).here)
 |[],t,k,h,_=>⟨h,Sub.refl t,fun _=>rfl⟩
 |s::w,t,k,h,h9=>by
  obtain ⟨h1,h2,h3⟩:=Zic h (h9 s (by simp));obtain ⟨g1,g2,g3⟩:=Jd (w:=w) h1 fun x hx=>h9 x (QC _ hx);refine ⟨by rw [QK,show k+(w.length+1)=k+1+w.length by omega];exact g1,h2.trans g2,fun hc=>⟨_,RT.mono g2 (h9 s (by simp)) (h3 (g2.cl hc)),g3 hc⟩⟩
theorem Y7 {i j:Nat} (h:Zg i=Zg j):i=j:=by
 have:=Qy (fun z:Str=>z.cps.toList) h;simp [Zg] at this;exact this
theorem ZcU:∀i,i<26->1≤(Zg i).length∧(Zg i).length≤8∧(Zg i).cps.toList.all W5=true:=by decide +kernel
theorem UH {i:Nat} (h:i<26):Nm (Zg i):=⟨(ZcU i h).1,(ZcU i h).2.1,(ZcU i h).2.2⟩
theorem Zbk (i:Nat):Zg i≠"":=fun h=>by
 have:=Qy (fun z:Str=>z.cps.toList.length) h;exact absurd this (by simp [Zg];decide +kernel)
noncomputable def U0 (D:Int) (p:Nat×Nat):Ent:=.taken (Zg p.1) (Zg p.2) D
noncomputable def Wp (D:Int) (p:Nat×Nat):Ent:=.union (Zg p.1) (Zg p.2) D
noncomputable def YQ (t:Tr) (ord:List Nat):List Ent:=ord.map (X7 t)
noncomputable def Vq (t:Tr) (D:Int):List Ent:=t.tak.map (U0 D)++t.uni.map (Wp D)
structure OrdOk (t:Tr) (ord:List Nat):Prop where
 pm:ord.Perm (List.range t.days.length)
 up:ord.Pairwise fun a b=>t.days.getD a 0≤t.days.getD b 0
noncomputable def YW (t:Tr):List Str:=(List.range t.days.length).map Zg
section
variable {t:Tr} {k:Nat} {ord:List Nat}
theorem OrdOk.nd (o:OrdOk t ord):ord.Nodup:=o.pm.nodup_iff.mpr List.nodup_range
theorem OrdOk.lt (o:OrdOk t ord) {i:Nat}:i∈ord↔i<t.days.length:=by rw [o.pm.mem_iff,Gy]
theorem ZfP {i:Nat} (h:i<t.days.length):Zg i∈YW t:=Qg.mpr ⟨i,Gy.mpr h,rfl⟩
theorem J3 (h:TI t k) {l:Str} {i:Nat}:Z9 t l i=""∨∃p,((l,i),p)∈t.par∧Z9 t l i=Zg p:=by
 unfold Z9;cases hp:Wy t l i with
 |none=>exact .inl rfl
 |some p=>exact .inr ⟨p,(VM h).mp hp,rfl⟩
theorem ZaP (h:TI t k) {l:Str} {i p:Nat} (m:((l,i),p)∈t.par):Z9 t l i=Zg p:=by
 unfold Z9;rw [(VM h).mpr m]
theorem Zfx (h:TI t k) (k24:k≤24) {i:Nat} (hi:i<t.days.length):-10 ^ 18≤t.days.getD i 0∧t.days.getD i 0≤10 ^ 18:=by
 have:=h.bd (t.days.getD i 0) (by rw [QP,Qx hi];exact R9 hi);omega
theorem ZjN (h:TI t k) {i:Nat} (hi:i<t.days.length):t.sorts.getD i ""="he"∨t.sorts.getD i ""="she"∨t.sorts.getD i ""="":=by
 have hi':i<t.sorts.length:=by rw [h.len];exact hi
 have:=h.ss (t.sorts.getD i "") (by rw [QP,Qx hi'];exact R9 hi');rcases this with e|e|e
 ·exact .inr (.inr e)
 ·exact .inl e
 ·exact .inr (.inl e)
theorem Zd4 (h:TI t k) (k24:k≤24) (hc:t.clash=false) (o:OrdOk t ord):∀j,j≤ord.length->GdL (YW t) (YQ t (ord.take j))
 |0,_=>by rw [List.take_zero];exact .nil
 |j+1,hj=>by
  have ih:=Zd4 h k24 hc o j (by omega);have hx:ord[j]?=some ord[j]:=Qx (by omega);generalize ord[j]=x at hx;rw [RW,hx];have xl:x<t.days.length:=o.lt.mp (QL hx);have n26:=h.n
  have ahead':∀{l:Str} {p:Nat},((l,x),p)∈t.par->p∈ord.take j∧p<t.days.length∧t.days.getD p 0<t.days.getD x 0∧t.sorts.getD p ""=ZD l:=fun {l p} m=>by
   obtain ⟨_,p2,_,p4,p5⟩:=h.pn _ m;have p4:t.days.getD p 0=t.days.getD x 0-1:=p4;refine ⟨?_,p2,by omega,p5 hc⟩;have pm:p∈ord:=o.lt.mpr p2;obtain ⟨i,hi⟩:=List.getElem?_of_mem pm;have il:=(QH.mp hi).1;by_cases c:i<j
   ·exact QL (by rw [Na c];exact hi)
   ·exfalso;by_cases e:i=j
    ·subst e;rw [hx] at hi;cases hi;omega
    ·have:=List.pairwise_iff_getElem.mp o.up j i (by omega) il (by omega);have e1:ord[j]=x:=by have:=Qx (l:=ord) (i:=j) (by omega);rw [hx] at this;exact (Qo this).symm
     have e2:ord[i]=p:=by have:=Qx (l:=ord) (i:=i) il;rw [hi] at this;exact (Qo this).symm
     rw [e1,e2] at this;omega
  have nmd:∀y∈(X7 t x).named,∃l p,((l,x),p)∈t.par∧y=Zg p:=fun y hy=>by
   obtain ⟨h1,h2⟩:=Rp.mp hy;have h2:y≠"":=Q0 h2;have h1:y=Z9 t "F" x∨y=Z9 t "M" x:=by simpa using h1
   rcases h1 with e|e
   ·rcases J3 h (l:="F") (i:=x) with z|⟨p,m,z⟩
    ·exact absurd (e.trans z) h2
    ·exact ⟨_,p,m,e.trans z⟩
   ·rcases J3 h (l:="M") (i:=x) with z|⟨p,m,z⟩
    ·exact absurd (e.trans z) h2
    ·exact ⟨_,p,m,e.trans z⟩
  have pnm:∀l,Z9 t l x=""∨Nm (Z9 t l x):=fun l=>by
   rcases J3 h (l:=l) (i:=x) with z|⟨p,m,z⟩
   ·exact .inl z
   ·rw [z];exact .inr (UH (by have:=(h.pn _ m).2.1;omega))
  have bd:=Zfx h k24 xl
  have d5:D5 (YW t) (X7 t x):=⟨Zpx (UH (by omega)) (ZjN h xl) bd.1 bd.2 (pnm _) (pnm _),fun y hy=>by
   obtain ⟨l,p,m,rfl⟩:=nmd y hy;exact ZfP (h.pn _ m).2.1,fun y hy=>by cases hy;exact ZfP xl⟩
  have par:∀(l:Str),Z9 t l x=""∨∃d' f' m',Ent.born (Z9 t l x) (ZD l) d' f' m'∈(YQ t (ord.take j)).map Ent.told∧d'<t.days.getD x 0:=fun l=>by
   rcases J3 h (l:=l) (i:=x) with z|⟨p,m,z⟩
   ·exact .inl z
   ·obtain ⟨m1,_,m3,m4⟩:=ahead' m;refine .inr ⟨t.days.getD p 0,Z9 t "F" p,Z9 t "M" p,JX.mpr (Qg.mpr ⟨p,m1,?_⟩),m3⟩;rw [z,←m4];rfl
  show GdL (YW t) (YQ t (ord.take j++[x]));unfold YQ;rw [Qs];refine .snoc ih d5 d5 ⟨fun y hy=>?_,fun y hy=>?_,fun n' s' d' f' m' z=>?_,fun c t' d' z=>(by cases z),rfl⟩
  ·obtain ⟨l,p,m,rfl⟩:=nmd y hy;obtain ⟨m1,_,m3,_⟩:=ahead' m;exact ⟨_,_,_,_,JX.mpr (Qg.mpr ⟨p,m1,rfl⟩),Int.le_of_lt m3⟩
  ·obtain ⟨y',hy',rfl⟩:=Qg.mp hy;obtain ⟨i,hi,rfl⟩:=Qg.mp hy';intro z
   have z':Zg i=Zg x:=by
    have:([.inr "born",.inr (Zg i)]:List Zj)=[.inr "born",.inr (Zg x)]:=z;simpa using this
   obtain rfl:=Y7 z';have nd:=o.nd;obtain ⟨a,ha⟩:=List.getElem?_of_mem hi;have al:=(QH.mp ha).1;rw [Q3] at al;rw [Na (by omega)] at ha;have:=(List.getElem?_inj (by omega) nd).mp (ha.trans hx.symm);omega
  ·cases z;exact ⟨par "F",par "M"⟩
theorem Zbe (o:OrdOk t ord) {n s f m:Str} {d:Int}:Ent.born n s d f m∈YQ t ord↔∃i,i<t.days.length∧X7 t i=.born n s d f m:=by
 constructor
 ·intro h;obtain ⟨i,hi,e⟩:=Qg.mp h;exact ⟨i,o.lt.mp hi,e⟩
 ·rintro ⟨i,hi,e⟩;exact Qg.mpr ⟨i,o.lt.mpr hi,e⟩
theorem ZfH {a b c d:Nat} (ab:a<b) (cd:c<d) (h:Ze (Zg a) (Zg b)=Ze (Zg c) (Zg d)):a=c∧b=d:=by
 unfold Ze at h;split at h<;>split at h<;>(injection h with h1 h2)<;>have h1:=Y7 h1<;>have h2:=Y7 h2<;>omega
theorem ZnZ (h:TI t k) (k24:k≤24) (hc:t.clash=false) (o:OrdOk t ord) {D:Int} (hD:∀d∈t.days,d≤D) (D2:D≤10 ^ 18):GdL (YW t) (YQ t ord++Vq t D):=by
 have g:=Zd4 h k24 hc o ord.length (Qf _);rw [Rz] at g;have n26:=h.n;have dle:∀{i},i<t.days.length->t.days.getD i 0≤D:=fun {i} hi=>hD _ (by rw [QP,Qx hi];exact R9 hi);have D1:-10 ^ 18≤D:=Int.le_trans (Zfx h k24 h.he).1 (dle h.he);have kn:∀{i},i<t.days.length->∃s d f m,Ent.born (Zg i) s d f m∈YQ t ord∧d≤D:=fun {i} hi=>⟨_,_,_,_,(Zbe o).mpr ⟨i,hi,rfl⟩,dle hi⟩;refine GdL.more g (fun n s d f m=>Iff.rfl) (fun e he=>?_) ?_
 ·rcases Ql.mp he with he|he
  ·obtain ⟨p,hp,rfl⟩:=Qg.mp he;obtain ⟨p1,p2,p3⟩:=h.tk p hp;have tw:=Zh1 (UH (show p.1<26 by omega)) (UH (show p.2<26 by omega)) D1 D2;refine ⟨rfl,tw.1,tw.1,fun n hn=>?_,fun c t' d z sc dc fc mc st dt ft mt h1 h2=>?_,?_⟩
   ·have:n=Zg p.1∨n=Zg p.2:=by simpa [U0,Ent.named] using hn
    rcases this with rfl|rfl
    ·exact kn p1
    ·exact kn p2
   ·cases z;obtain ⟨i,_,e1⟩:=(Zbe o).mp h1;obtain ⟨j,_,e2⟩:=(Zbe o).mp h2;have a1:Zg i=Zg p.1:=by injection e1
    have a2:Zg j=Zg p.2:=by injection e2
    have b1:t.days.getD i 0=dc:=by injection e1
    have b2:t.days.getD j 0=dt:=by injection e2
    rw [Y7 a1] at b1;rw [Y7 a2] at b2;omega
   ·show decide (Zg p.1=Zg p.2)=false;refine Qm fun z=>?_;rw [Y7 z] at p3;omega
  ·obtain ⟨p,hp,rfl⟩:=Qg.mp he;obtain ⟨p1,p2⟩:=h.un p hp;have tw:=Zh1 (UH (show p.1<26 by omega)) (UH (show p.2<26 by omega)) D1 D2;refine ⟨rfl,tw.2.1,tw.2.2.1,fun n hn=>?_,fun c t' d z=>(by cases z),?_⟩
   ·have:n=Zg p.1∨n=Zg p.2:=by simpa [Wp,Ent.named] using hn
    rcases this with rfl|rfl
    ·exact kn (by omega)
    ·exact kn p2
   ·show decide (Zg p.1=Zg p.2)=false;refine Qm fun z=>?_;have:=Y7 z;omega
 ·rw [Qs,QW];refine ⟨g.keys,?_,fun a ha b hb e=>?_⟩
  ·unfold Vq;rw [Qs,QW];refine ⟨?_,?_,fun a ha b hb e=>?_⟩
   ·rw [QU];refine Gr.mpr (h.tnd.imp fun {a b} ne z=>ne ?_);have z:([.inr "taken",.inr (Zg a.1),.inr (Zg a.2)]:List Zj)=[.inr "taken",.inr (Zg b.1),.inr (Zg b.2)]:=z;have z1:Zg a.1=Zg b.1∧Zg a.2=Zg b.2:=by simpa using z
    exact Q7 (Y7 z1.1) (Y7 z1.2)
   ·rw [QU];refine Gr.mpr (h.und.imp_of_mem fun {a b} ha hb ne z=>ne ?_);have z:([.inr "tie",.inr (Ze (Zg a.1) (Zg a.2)).1,.inr (Ze (Zg a.1) (Zg a.2)).2,.inl D]:List Zj)=[.inr "tie",.inr (Ze (Zg b.1) (Zg b.2)).1,.inr (Ze (Zg b.1) (Zg b.2)).2,.inl D]:=z;have z1:(Ze (Zg a.1) (Zg a.2)).1=(Ze (Zg b.1) (Zg b.2)).1∧(Ze (Zg a.1) (Zg a.2)).2=(Ze (Zg b.1) (Zg b.2)).2:=by simpa using z
    have:=ZfH (h.un a ha).1 (h.un b hb).1 (Q7 z1.1 z1.2);exact Q7 this.1 this.2
   ·obtain ⟨x,hx,rfl⟩:=Qg.mp ha;obtain ⟨y,hy,rfl⟩:=Qg.mp hb;obtain ⟨p,_,rfl⟩:=Qg.mp hx;obtain ⟨q,_,rfl⟩:=Qg.mp hy;have:=(RA e).1;exact absurd (RX this) (by decide +kernel)
  ·obtain ⟨x,hx,rfl⟩:=Qg.mp ha;obtain ⟨y,hy,rfl⟩:=Qg.mp hb;obtain ⟨i,_,rfl⟩:=Qg.mp hx;rcases Ql.mp hy with hy|hy
   ·obtain ⟨q,_,rfl⟩:=Qg.mp hy;have:=(RA e).1;exact absurd (RX this) (by decide +kernel)
   ·obtain ⟨q,_,rfl⟩:=Qg.mp hy;have:=(RA e).1;exact absurd (RX this) (by decide +kernel)
end
noncomputable def J6 (t:Tr) (D:Int):J1:=t.uni.map fun p=>(Ze (Zg p.1) (Zg p.2),0,D,"union")
noncomputable def Yd (t:Tr) (ord:List Nat) (D:Int):List Ent:=YQ t ord++Vq t D
noncomputable def FT (t:Tr) (ord:List Nat) (D:Int):ZO:=(J6 t D).foldl Ud (W3 (Yd t ord D))
theorem Zee:∀{l:List Ent} {g:Str×Str->Option (Int×Str)},(∀e∈l,e.tie=false)->l.foldl Xi g=g
 |[],g,_=>rfl
 |e::l,g,h=>by
  rw [Q6,Zee fun x hx=>h x (QC _ hx)]
  funext c
  unfold Xi;rw [Qa (fun z=>by rw [h e (by simp)] at z;cases z.1)]
theorem Zh2 {D:Int}:∀(us:List (Nat×Nat)) (g:Str×Str->Option (Int×Str)),(∀c,g c=none∨g c=some (D,("union" : Str)))->∀c,(us.map (Wp D)).foldl Xi g c=if g c=none then (ZC c (us.map fun p=>(Ze (Zg p.1) (Zg p.2),(0:Addr),D,("union" : Str)))).map (·.2) else g c
 |[],g,hg,c=>by
  rcases hg c with h|h
  ·rw [Qb h];exact h
  ·rw [Qa (by rw [h];simp)];rfl
 |p::us,g,hg,c=>by
  have st:∀c,Xi g (Wp D p) c=if c=Ze (Zg p.1) (Zg p.2) then some (D,("union" : Str)) else g c:=fun c=>by
   unfold Xi;by_cases e:c=Ze (Zg p.1) (Zg p.2)
   ·rw [Qb ⟨rfl,e⟩,Qb e];rcases hg c with h|h
    ·rw [h];rfl
    ·rw [h];show (if D<D then _ else _)=_;rw [Qa (Int.lt_irrefl _)]
   ·rw [Qa (fun z=>e z.2),Qa e]
  have hg':∀c,Xi g (Wp D p) c=none∨Xi g (Wp D p) c=some (D,("union" : Str)):=fun c=>by
   rw [st c];by_cases e:c=Ze (Zg p.1) (Zg p.2)
   ·rw [Qb e];exact .inr rfl
   ·rw [Qa e];exact hg c
  rw [Qt,Q6,Zh2 us _ hg' c,st c,Qt];unfold ZC;by_cases e:c=Ze (Zg p.1) (Zg p.2)
  ·rw [Qb e,Qa (by simp),Qb e.symm];rcases hg c with h|h
   ·rw [Qb h];rfl
   ·rw [Qa (by rw [h];simp),h]
  ·rw [Qa e,Qa (show ¬(Ze (Zg p.1) (Zg p.2),(0:Addr),D,("union" : Str)).1=c from fun z=>e z.symm)];cases us<;>rfl
theorem ZnG (t:Tr) (ord:List Nat) (D:Int) (c:Str×Str):(ZC c (J6 t D)).map (·.2)=Wu (Yd t ord D) c:=by
 unfold Wu Yd Vq
 rw [←Gu,NH,Zee (l:=YQ t ord++t.tak.map (U0 D)) (fun e he=>by
  rcases Ql.mp he with h|h
  ·obtain ⟨i,_,rfl⟩:=Qg.mp h;rfl
  ·obtain ⟨i,_,rfl⟩:=Qg.mp h;rfl),show (t.uni.map (Wp D)).foldl Xi (fun _=>none) c=_ from Zh2 _ _ (fun _=>.inl rfl) c,Qb rfl]
 rfl
section
variable {t:Tr} {k:Nat} {ord:List Nat} {D:Int}
theorem ZiP (h:TI t k):((J6 t D).map (·.1)).Nodup:=by
 unfold J6;rw [QU];refine Gr.mpr (h.und.imp_of_mem fun {a b} ha hb ne z=>ne ?_);have:=ZfH (h.un a ha).1 (h.un b hb).1 z;exact Q7 this.1 this.2
theorem Us (o:OrdOk t ord) {n s f m:Str} {d:Int}:Ent.born n s d f m∈Yd t ord D↔∃i,i<t.days.length∧X7 t i=.born n s d f m:=by
 rw [←Zbe o];unfold Yd;rw [Ql];refine ⟨fun h=>h.elim id fun h=>?_,.inl⟩;rcases Ql.mp h with h|h
 ·obtain ⟨p,_,e⟩:=Qg.mp h;cases e
 ·obtain ⟨p,_,e⟩:=Qg.mp h;cases e
theorem Za6 {c x:Str} {d:Int}:Ent.taken c x d∈Yd t ord D↔∃p∈t.tak,c=Zg p.1∧x=Zg p.2∧d=D:=by
 unfold Yd Vq;rw [Ql,Ql];constructor
 ·rintro (h|h|h)
  ·obtain ⟨p,_,e⟩:=Qg.mp h;cases e
  ·obtain ⟨p,hp,e⟩:=Qg.mp h;cases e;exact ⟨p,hp,rfl,rfl,rfl⟩
  ·obtain ⟨p,_,e⟩:=Qg.mp h;cases e
 ·rintro ⟨p,hp,rfl,rfl,rfl⟩;exact .inr (.inl (Qg.mpr ⟨p,hp,rfl⟩))
theorem Zf7 (h:TI t k) {l:Str} {i:Nat} {x:Str} (ne:x≠""):Z9 t l i=x↔∃p,((l,i),p)∈t.par∧x=Zg p:=by
 constructor
 ·intro e;rcases J3 h (l:=l) (i:=i) with z|⟨p,m,z⟩
  ·exact absurd (e.symm.trans z) ne
  ·exact ⟨p,m,e.symm.trans z⟩
 ·rintro ⟨p,m,rfl⟩;exact ZaP h m
theorem Zk8 (h:TI t k) (o:OrdOk t ord) (so:Zb7 (Yd t ord D)) {s:Str} (hs:s∈Zq) {i:Nat} (hi:i<t.days.length) (x:Str):x∈FT t ord D (s,Zg i)↔∃j,j<t.days.length∧x=Zg j∧RT t s i j:=by
 have ne:=fun {l:Str} (hl:l∈Xu)=>ZfA so hl
 have six:∀{l:Str} {ad:Str->Ent->List Str},¬l="S"->(∀e∈Yd t ord D,∀f:ZO,YD f e (l,Zg i)=f (l,Zg i)++ad (Zg i) e)->(x∈FT t ord D (l,Zg i)↔∃e∈Yd t ord D,x∈ad (Zg i) e):=fun {l ad} nS st=>by
  unfold FT;rw [J8 nS,Za4 st,List.mem_flatMap]
 have up:∀{l:Str} (hl:l="F"∨l="M") {ad:Str->Ent->List Str},(∀n' s d f m,ad (Zg i) (.born n' s d f m)=if n'=Zg i∧(if l="F" then f else m)≠"" then [if l="F" then f else m] else [])->(∀e,e.isBorn=false->ad (Zg i) e=[])->((∃e∈Yd t ord D,x∈ad (Zg i) e)↔∃j,j<t.days.length∧x=Zg j∧RT t l i j):=fun {l} hl {ad} a1 a2=>by
  constructor
  ·rintro ⟨e,he,hx⟩;cases hb:e.isBorn with
   |false=>rw [a2 e hb] at hx;cases hx
   |true =>
    cases e with
    |born n' s' d' f' m' =>
     rw [a1] at hx;by_cases c:n'=Zg i∧(if l="F" then f' else m')≠""
     ·rw [Qb c] at hx;obtain ⟨i',hi',e⟩:=(Us o).mp he;have hx:x=if l="F" then f' else m':=QD.mp hx;have en:Zg i'=n':=by injection e
      have ef:Z9 t "F" i'=f':=by injection e
      have em:Z9 t "M" i'=m':=by injection e
      obtain rfl:=Y7 (en.trans c.1)
      have hx2:Z9 t l i'=x:=by
       rw [hx];rcases hl with rfl|rfl
       ·rw [Qb rfl];exact ef
       ·rw [Qa (by decide +kernel)];exact em
      obtain ⟨p,m,rfl⟩:=(Zf7 h (by rw [hx];exact c.2)).mp hx2;exact ⟨p,(h.pn _ m).2.1,rfl,(XZ hl).mpr m⟩
     ·rw [Qa c] at hx;cases hx
    |_=>cases hb
  ·rintro ⟨j,hj,rfl,r⟩;have m:=(XZ hl).mp r;refine ⟨X7 t i,(Us o).mpr ⟨i,hi,rfl⟩,?_⟩
   have e:(if l="F" then Z9 t "F" i else Z9 t "M" i)=Zg j:=by
    rcases hl with rfl|rfl
    ·rw [Qb rfl];exact ZaP h m
    ·rw [Qa (by decide +kernel)];exact ZaP h m
   show Zg j∈ad (Zg i) (.born (Zg i) _ _ _ _);rw [a1,e,Qb ⟨rfl,Zbk j⟩];simp
 have dn:∀{l:Str} (hl:l="f"∨l="m") {ad:Str->Ent->List Str},(∀n' s d f m,ad (Zg i) (.born n' s d f m)=if (if l="f" then f else m)=Zg i∧(if l="f" then f else m)≠"" then [n'] else [])->(∀e,e.isBorn=false->ad (Zg i) e=[])->((∃e∈Yd t ord D,x∈ad (Zg i) e)↔∃j,j<t.days.length∧x=Zg j∧RT t l i j):=fun {l} hl {ad} a1 a2=>by
  have pe:∀i',(if l="f" then Z9 t "F" i' else Z9 t "M" i')=Z9 t (ZG l) i':=fun i'=>by
   rcases hl with rfl|rfl
   ·rw [Qb rfl];rfl
   ·rw [Qa (by decide +kernel)];rfl
  constructor
  ·rintro ⟨e,he,hx⟩;cases hb:e.isBorn with
   |false=>rw [a2 e hb] at hx;cases hx
   |true =>
    cases e with
    |born n' s' d' f' m' =>
     rw [a1] at hx;by_cases c:(if l="f" then f' else m')=Zg i∧(if l="f" then f' else m')≠""
     ·rw [Qb c] at hx;obtain ⟨i',hi',e⟩:=(Us o).mp he;have hx:x=n':=QD.mp hx;have en:Zg i'=n':=by injection e
      have ef:Z9 t "F" i'=f':=by injection e
      have em:Z9 t "M" i'=m':=by injection e
      rw [←ef,←em,pe] at c;obtain ⟨p,m,e2⟩:=(Zf7 h (Zbk i)).mp c.1;obtain rfl:=Y7 e2;exact ⟨i',hi',hx.trans en.symm,(V0 hl).mpr m⟩
     ·rw [Qa c] at hx;cases hx
    |_=>cases hb
  ·rintro ⟨j,hj,rfl,r⟩;have m:=(V0 hl).mp r;refine ⟨X7 t j,(Us o).mpr ⟨j,hj,rfl⟩,?_⟩;show Zg j∈ad (Zg i) (.born (Zg j) _ _ _ _);rw [a1,pe,ZaP h m,Qb ⟨rfl,Zbk i⟩];simp
 have nb:∀{P:Ent->Prop},(∀c x d,P (.taken c x d))->(∀a b d,P (.union a b d))->(∀a b d,P (.parted a b d))->(∀n d,P (.dead n d))->(∀g x a d,P (.given g x a d))->∀e,e.isBorn=false->P e:=fun h1 h2 h3 h4 h5 e he=>by
  cases e with
  |born=>cases he
  |taken=>exact h1 ..
  |union=>exact h2 ..
  |parted=>exact h3 ..
  |dead=>exact h4 ..
  |given=>exact h5 ..
 have zero:∀e:Ent,e.isBorn=false->W7 (Zg i) e=[]∧Ve (Zg i) e=[]∧W1 (Zg i) e=[]∧Vg (Zg i) e=[]:=fun e he=>by
  cases e with
  |born=>cases he
  |_=>exact ⟨rfl,rfl,rfl,rfl⟩
 simp only [Zq,Qh,QF,QG] at hs;rcases hs with rfl|rfl|rfl|rfl|rfl|rfl|rfl|hh|hh
 ·rw [six (ad:=W7) (by decide +kernel) fun e he f=>Zg7 f e _ (ne (by decide +kernel) e he)];exact up (.inl rfl) (fun _ _ _ _ _=>rfl) fun e he=>(zero e he).1
 ·rw [six (ad:=Ve) (by decide +kernel) fun e he f=>Zgw f e _ (ne (by decide +kernel) e he)];exact up (.inr rfl) (fun _ _ _ _ _=>rfl) fun e he=>(zero e he).2.1
 ·rw [six (ad:=addT) (by decide +kernel) fun e he f=>Zhm f e _ (ne (by decide +kernel) e he)];constructor
  ·rintro ⟨e,he,hx⟩;cases e with
   |taken c y d =>
    obtain ⟨p,hp,rfl,rfl,_⟩:=Za6.mp he;have hx2:x∈if Zg p.1=Zg i then [Zg p.2] else []:=hx;by_cases e1:Zg p.1=Zg i
    ·rw [Qb e1] at hx2;obtain rfl:=Y7 e1;exact ⟨p.2,(h.tk p hp).2.1,QD.mp hx2,Uq.mpr hp⟩
    ·rw [Qa e1] at hx2;cases hx2
   |_=>cases hx
  ·rintro ⟨j,hj,rfl,r⟩;refine ⟨.taken (Zg i) (Zg j) D,Za6.mpr ⟨(i,j),Uq.mp r,rfl,rfl,rfl⟩,?_⟩;show Zg j∈if Zg i=Zg i then [Zg j] else [];rw [Qb rfl];simp
 ·rw [six (ad:=W1) (by decide +kernel) fun e he f=>Zfm f e _ (ne (by decide +kernel) e he)];exact dn (.inl rfl) (fun _ _ _ _ _=>rfl) fun e he=>(zero e he).2.2.1
 ·rw [six (ad:=Vg) (by decide +kernel) fun e he f=>ZeC f e _ (ne (by decide +kernel) e he)];exact dn (.inr rfl) (fun _ _ _ _ _=>rfl) fun e he=>(zero e he).2.2.2
 ·rw [six (ad:=VI) (by decide +kernel) fun e he f=>ZhD f e _ (ne (by decide +kernel) e he)];constructor
  ·rintro ⟨e,he,hx⟩;cases e with
   |taken c y d =>
    obtain ⟨p,hp,rfl,rfl,_⟩:=Za6.mp he;have hx2:x∈if Zg p.2=Zg i then [Zg p.1] else []:=hx;by_cases e1:Zg p.2=Zg i
    ·rw [Qb e1] at hx2;obtain rfl:=Y7 e1;exact ⟨p.1,(h.tk p hp).1,QD.mp hx2,VY.mpr hp⟩
    ·rw [Qa e1] at hx2;cases hx2
   |_=>cases hx
  ·rintro ⟨j,hj,rfl,r⟩;refine ⟨.taken (Zg j) (Zg i) D,Za6.mpr ⟨(j,i),VY.mp r,rfl,rfl,rfl⟩,?_⟩;show Zg j∈if Zg i=Zg i then [Zg j] else [];rw [Qb rfl];simp
 ·have eS:W3 (Yd t ord D) ("S",Zg i)=[]:=by
   rw [Za4 (ad:=fun _=>[]) fun e he f=>Zh5 f e _ (ne (by decide +kernel) e he)];simp
  unfold FT;rw [ZbV,eS];constructor
  ·rintro (z|⟨q,hq,_,hx⟩)
   ·cases z
   ·obtain ⟨p,hp,rfl⟩:=Qg.mp hq;obtain ⟨p1,p2⟩:=h.un p hp;have hx:Ze (Zg p.1) (Zg p.2)=(Zg i,x)∨Ze (Zg p.1) (Zg p.2)=(x,Zg i):=hx
    have hx:(Zg p.1=Zg i∧Zg p.2=x)∨(Zg p.2=Zg i∧Zg p.1=x):=by
     unfold Ze at hx;split at hx
     ·rcases hx with z|z
      ·injection z with a b;exact .inr ⟨a,b⟩
      ·injection z with a b;exact .inl ⟨b,a⟩
     ·rcases hx with z|z
      ·injection z with a b;exact .inl ⟨a,b⟩
      ·injection z with a b;exact .inr ⟨b,a⟩
    rcases hx with ⟨a,b⟩|⟨a,b⟩
    ·obtain rfl:=Y7 a;exact ⟨p.2,p2,b.symm,VO.mpr (.inl hp)⟩
    ·obtain rfl:=Y7 a;exact ⟨p.1,by omega,b.symm,VO.mpr (.inr hp)⟩
  ·rintro ⟨j,hj,rfl,r⟩;rcases VO.mp r with m|m
   ·refine .inr ⟨_,Qg.mpr ⟨(i,j),m,rfl⟩,rfl,?_⟩;show Ze (Zg i) (Zg j)=(Zg i,Zg j)∨Ze (Zg i) (Zg j)=(Zg j,Zg i);unfold Ze;split<;>simp
   ·refine .inr ⟨_,Qg.mpr ⟨(j,i),m,rfl⟩,rfl,?_⟩;show Ze (Zg j) (Zg i)=(Zg i,Zg j)∨Ze (Zg j) (Zg i)=(Zg j,Zg i);unfold Ze;split<;>simp
 all_goals
  have c:s="he"∨s="she":=by first|exact .inl hh|exact .inr hh
  have nS:¬s="S":=by rcases c with rfl|rfl<;>decide +kernel
  unfold FT;rw [J8 nS,ZeY c];constructor
  ·rintro ⟨rfl,d,f,m,hb⟩;obtain ⟨i',hi',e⟩:=(Us o).mp hb;have en:Zg i'=Zg i:=by injection e
   have es:t.sorts.getD i' ""=s:=by injection e
   obtain rfl:=Y7 en;exact ⟨i',hi',rfl,(XH c).mpr ⟨rfl,es⟩⟩
  ·rintro ⟨j,hj,rfl,r⟩;obtain ⟨rfl,e⟩:=(XH c).mp r;exact ⟨rfl,_,_,_,(Us o).mpr ⟨i,hi,by rw [←e];rfl⟩⟩
end
structure BT (t:Tr) (B:Bk):Prop where
 kn:∀i,i<t.days.length->Known B (Zg i)
 led:∀s∈Zq,∀i,i<t.days.length->∀x,x∈YB B s (Zg i)↔∃j,j<t.days.length∧x=Zg j∧RT t s i j
 clo:Clo B (YW t)
noncomputable def ft (k bi li ti su:Addr) (B:Bk):List Addr:=[k,bi,li,ti,su]++B.ties.map (·.2.1)
def VD (H:Hp) (c:Addr):Prop:=∀u,noX u=true->H c≠some u
theorem UV {H Hc:Hp} {c:Addr} (sx:SameX H Hc) (h:Hc c=none):VD H c:=fun u nu e=>by rw [sx c u nu e] at h;cases h
section
variable {Hs H H':Hp} {k bi li ti su y:Addr} {B B':Bk}
theorem Zd1 (bt:But [k,bi,li,ti,su,y] H H') (hy:H y=none∨y=bi∨y∈B.ties.map (·.2.1)) (gr:GrowsT H B.ties B'.ties) (sc:SameX Hs H) (fs:∀c∈ft k bi li ti su B,VD Hs c):SameX Hs H'∧∀c∈ft k bi li ti su B',VD Hs c:=by
 refine ⟨fun c u nu e=>bt.eq c u (fun m=>?_) (sc c u nu e),fun c m=>?_⟩
 ·have no:c∉ft k bi li ti su B:=fun z=>fs c z u nu e;have m5:c∈[k,bi,li,ti,su]++[y]:=m;rcases Ql.mp m5 with z|z
  ·exact no (Q8 _ z)
  obtain rfl:=QD.mp z;rcases hy with z|z|z
  ·rw [sc c u nu e] at z;cases z
  ·exact no (Q8 _ (by rw [z];simp))
  ·exact no (QS _ z)
 ·rcases Ql.mp m with z|z
  ·exact fs c (Q8 _ z)
  ·rcases gr c z with z|z
   ·exact fs c (QS _ z)
   ·exact UV sc z
end
theorem ZoD {C b dx k bi li ti su:Addr} {H H':Hp} (nb:H b=none) (ndx:H dx=none) (keep:∀c o,Zc (Zc H dx (.own b)) b (.ins C dx []) c=some o->c≠b->H' c=some o)
  (n1:Zc (Zc H dx (.own b)) b (.ins C dx []) k=none) (n2:Zc (Zc H dx (.own b)) b (.ins C dx []) bi=none) (n3:Zc (Zc H dx (.own b)) b (.ins C dx []) li=none) (n4:Zc (Zc H dx (.own b)) b (.ins C dx []) ti=none) (n5:Zc (Zc H dx (.own b)) b (.ins C dx []) su=none) :
  Same H H'∧∀c∈ft k bi li ti su Vd,VD H c:=by
 have sb:Same H (Zc (Zc H dx (.own b)) b (.ins C dx [])):=fun c o e=>by rw [Zd (ZF e nb),Zd (ZF e ndx)];exact e
 refine ⟨fun c o e=>keep c o (sb c o e) (ZF e nb),fun c m=>?_⟩
 have m':c=k∨c=bi∨c=li∨c=ti∨c=su:=by
  have e:ft k bi li ti su Vd=[k,bi,li,ti,su]:=rfl;rw [e] at m;simpa using m
 rcases m' with rfl|rfl|rfl|rfl|rfl
 ·exact UV sb.x n1
 ·exact UV sb.x n2
 ·exact UV sb.x n3
 ·exact UV sb.x n4
 ·exact UV sb.x n5
theorem TrAt.monoX {C:Addr} {H H':Hp} {o dx dl sl pl tl ul:Addr} {t:Tr} (h:TrAt C H o dx dl sl pl tl ul t) (s:SameX H H'):TrAt C H' o dx dl sl pl tl ul t:=by
 obtain ⟨vs,h1,h2⟩:=h.ta;obtain ⟨us,h3,h4⟩:=h.un;exact ⟨s _ _ rfl h.ob,h.ap,s _ _ rfl h.da,s _ _ rfl h.so,s _ _ rfl h.pa,⟨vs,s _ _ rfl h1,h2.mono fun a xs e=>s _ _ rfl e⟩,us,s _ _ rfl h3,h4.mono fun a xs e=>s _ _ rfl e⟩
theorem Lams.but {P:Addr} {S:List Addr} {Hs H H':Hp} (l:Lams P Hs H) (b:But S H H') (n:∀c∈S,∀φ,H c≠some (.ext φ)):Lams P Hs H':=fun P2 ln co q ne h=>LamH.but (l P2 ln co q ne h) b n
theorem ZlO {n:Nat} {zs:List Int} (h:zs.Perm ((List.range n).map fun i:Nat=>(i:Int))):∃ord:List Nat,zs=ord.map (fun i:Nat=>(i:Int))∧ord.Perm (List.range n):=by
 refine ⟨zs.map Int.toNat,?_,?_⟩
 ·rw [QU]
  have e:∀z∈zs,((fun i:Nat=>(i:Int))∘Int.toNat) z=z:=fun z hz=>by
   obtain ⟨i,_,rfl⟩:=Qg.mp (h.mem_iff.mp hz);rfl
  exact ((Ga e).trans (List.map_id' zs)).symm
 ·have:=h.map Int.toNat;rw [QU] at this;exact this.trans (by rw [show (Int.toNat∘fun i:Nat=>(i:Int))=id from funext fun i=>GF i,List.map_id])
theorem ZhL {es:List Ent} {i:Nat} {e:Ent} (h:es[i]?=some e):es.take (i+1)=es.take i++[e]:=by rw [RW,h];rfl
theorem Zdk (t:Tr) (ord:List Nat) (D:Int):(Yd t ord D).length=ord.length+(t.tak.length+t.uni.length):=by
 unfold Yd YQ Vq;rw [Qn,Qn,Qd,Qd,Qd]
theorem ZkN {t:Tr} {ord:List Nat} {D:Int} {i:Nat} {p:Nat×Nat} (h:t.tak[i]?=some p):(Yd t ord D)[ord.length+i]?=some (U0 D p):=by
 unfold Yd Vq YQ;rw [Rs (by rw [Qd];omega),Qd,show ord.length+i-ord.length=i by omega,Rt (by rw [Qd];exact (QH.mp h).1),QA,h];rfl
theorem Ziz {t:Tr} {ord:List Nat} {D:Int} {i:Nat} {p:Nat×Nat} (h:t.uni[i]?=some p):(Yd t ord D)[ord.length+t.tak.length+i]?=some (Wp D p):=by
 unfold Yd Vq YQ;rw [Rs (by rw [Qd];omega),Qd,show ord.length+t.tak.length+i-ord.length=t.tak.length+i by omega,Rs (by rw [Qd];omega),Qd,show t.tak.length+i-t.tak.length=i by omega,QA,h];rfl
theorem Zmo (t:Tr) (ord:List Nat) (D:Int):(Yd t ord D).take ord.length=YQ t ord:=by
 unfold Yd;exact List.take_left' (by unfold YQ;rw [Qd])
theorem Jn.tree {t:Tr} {k:Nat} {ord:List Nat} {D:Int} {B:Bk} (h:TI t k) (k24:k≤24) (o:OrdOk t ord) (gd:GdL (YW t) (Yd t ord D)) (li:LI5 (YW t) B B.kept) (hk:B.kept.map (·.1)=(Yd t ord D).map Ent.told):BT t B:=by
 have j:Jn (YW t) B (Yd t ord D) (J6 t D) (FT t ord D):=⟨li,hk,gd,ZiP h,ZnG t ord D,fun c=>rfl⟩;have kn:∀i,i<t.days.length->Known B (Zg i):=fun i hi=>(j.known ((Us o).mpr ⟨i,hi,rfl⟩)).1;refine ⟨kn,fun s hs i hi x=>(j.step hs (kn i hi) x).trans (Zk8 h o (Ze4 gd) hs hi x),j.clo ?_⟩;unfold YW;rw [Qd,RS];have:=h.n;omega
theorem ZkM (t:Tr) {s:Str} (hs:s∈Zq):(t.go s).tak.length+(t.go s).uni.length≤t.tak.length+t.uni.length+1:=by
 rcases Ji hs with c|c|c|rfl|rfl|rfl
 ·rw [J7 t c,(Y1 t t.here s).2.2.1,(Y1 t t.here s).2.2.2.1];omega
 ·rw [JE t c];unfold Tr.goUp;split
  ·show t.tak.length+t.uni.length≤_;omega
  ·show (Tr.ask _ _ _).tak.length+(Tr.ask _ _ _).uni.length≤_;rw [(Y1 _ _ _).2.2.1,(Y1 _ _ _).2.2.2.1];show t.tak.length+t.uni.length≤_;omega
 ·rw [Zaj t c];show (Tr.ask _ _ _).tak.length+(Tr.ask _ _ _).uni.length≤_;rw [(Y1 _ _ _).2.2.1,(Y1 _ _ _).2.2.2.1];omega
 ·rw [Za3];show (t.tak++[_]).length+t.uni.length≤_;rw [Qn];simp;omega
 ·rw [ZaF];show (t.tak++[_]).length+t.uni.length≤_;rw [Qn];simp;omega
 ·rw [ZaM];show t.tak.length+(t.uni++[_]).length≤_;rw [Qn];simp;omega
theorem Zhz:∀{w:List Str} {t:Tr},(∀s∈w,s∈Zq)->(w.foldl Tr.go t).tak.length+(w.foldl Tr.go t).uni.length≤t.tak.length+t.uni.length+w.length
 |[],t,_=>Qf _
 |s::w,t,h=>by
  have h1:=ZkM t (h s (by simp));have h2:=Zhz (w:=w) (t:=t.go s) fun x hx=>h x (QC _ hx);rw [Q6,QK];omega
theorem Jo {w:List Str} (h9:∀s∈w,s∈Zq):TI (YF w) w.length:=by
 have:=(Jd TI.start h9).1;rw [Nat.zero_add] at this;exact this
theorem ZoK {w:List Str} (h9:∀s∈w,s∈Zq):(YF w).tak.length+(YF w).uni.length≤w.length:=by
 have:=Zhz (t:=UO) h9;rw [show UO.tak.length+UO.uni.length+w.length=w.length from Nat.zero_add _] at this;exact this
def V8 (a b:List Str):Prop:=(YF a).clash=true∨WT (RT (YF a)) b 0 (YF a).here
theorem RT.lt {t:Tr} {k:Nat} (h:TI t k) {s:Str} (hs:s∈Zq) {i j:Nat} (hi:i<t.days.length) (r:RT t s i j):j<t.days.length:=by
 rcases Ji hs with c|c|c|rfl|rfl|rfl
 ·rw [XH c] at r;rw [←r.1];exact hi
 ·rw [XZ c] at r;exact (h.pn _ r).2.1
 ·rw [V0 c] at r;exact (h.pn _ r).1
 ·rw [Uq] at r;exact (h.tk _ r).2.1
 ·rw [VY] at r;exact (h.tk _ r).1
 ·rw [VO] at r;rcases r with r|r
  ·exact (h.un _ r).2
  ·exact Nat.lt_trans (h.un _ r).1 (h.un _ r).2
theorem Zfl {t:Tr} {B:Bk} (bt:BT t B):∀{w:List Str} {P:Str->Prop} {S:Nat->Prop},(∀s∈w,s∈Zq)->(∀x,P x↔∃i,i<t.days.length∧x=Zg i∧S i)->∀y,XO (YB B) w P y↔∃i j,i<t.days.length∧S i∧j<t.days.length∧y=Zg j∧WT (fun s a b=>b<t.days.length∧RT t s a b) w i j
 |[],P,S,_,hP,y=>by
  show P y↔_;rw [hP];exact ⟨fun ⟨i,hi,e,s⟩=>⟨i,i,hi,s,hi,e,rfl⟩,fun ⟨i,j,hi,s,hj,e,z⟩=>by cases (show i=j from z);exact ⟨i,hi,e,s⟩⟩
 |s::w,P,S,h9,hP,y=>by
  show XO (YB B) w (fun x=>∃y,P y∧x∈YB B s y) y↔_;rw [Zfl bt (w:=w) (S:=fun m=>∃i,i<t.days.length∧S i∧RT t s i m) (fun x hx=>h9 x (QC _ hx)) fun x=>?_]
  ·constructor
   ·rintro ⟨m,j,hm,⟨i,hi,si,r⟩,hj,e,w'⟩;exact ⟨i,j,hi,si,hj,e,m,⟨hm,r⟩,w'⟩
   ·rintro ⟨i,j,hi,si,hj,e,m,⟨hm,r⟩,w'⟩;exact ⟨m,j,hm,⟨i,hi,si,r⟩,hj,e,w'⟩
  ·constructor
   ·rintro ⟨z,hz,hx⟩;obtain ⟨i,hi,rfl,si⟩:=(hP z).mp hz;obtain ⟨m,hm,rfl,r⟩:=(bt.led s (h9 s (by simp)) i hi x).mp hx;exact ⟨m,hm,rfl,i,hi,si,r⟩
   ·rintro ⟨m,hm,rfl,i,hi,si,r⟩;exact ⟨Zg i,(hP _).mpr ⟨i,hi,rfl,si⟩,(bt.led s (h9 s (by simp)) i hi _).mpr ⟨m,hm,rfl,r⟩⟩
theorem Za7 {t:Tr} {k:Nat} (h:TI t k):∀{w:List Str} {i j:Nat},(∀s∈w,s∈Zq)->i<t.days.length->(WT (fun s a b=>b<t.days.length∧RT t s a b) w i j↔WT (RT t) w i j)
 |[],i,j,_,_=>Iff.rfl
 |s::w,i,j,h9,hi=>by
  constructor
  ·rintro ⟨m,⟨hm,r⟩,w'⟩;exact ⟨m,r,(Za7 h (fun x hx=>h9 x (QC _ hx)) hm).mp w'⟩
  ·rintro ⟨m,r,w'⟩;have hm:=r.lt h (h9 s (by simp)) hi;exact ⟨m,⟨hm,r⟩,(Za7 h (fun x hx=>h9 x (QC _ hx)) hm).mpr w'⟩
theorem Zn8 {t:Tr} {k:Nat} (h:TI t k) {B:Bk} (bt:BT t B) {w:List Str} (h9:∀s∈w,s∈Zq) {i j:Nat} (hi:i<t.days.length) (hj:j<t.days.length):XO (YB B) w (·=Zg i) (Zg j)↔WT (RT t) w i j:=by
 rw [Zfl bt (S:=(·=i)) h9 fun x=>⟨fun e=>⟨i,hi,e,rfl⟩,fun ⟨a,_,e,z⟩=>by rw [e,z]⟩];constructor
 ·rintro ⟨a,b,_,rfl,_,e,w'⟩;obtain rfl:=Y7 e;exact (Za7 h h9 hi).mp w'
 ·intro w';exact ⟨i,j,hi,rfl,hj,rfl,(Za7 h h9 hi).mpr w'⟩
noncomputable def Yu (s:Str):Str:=if s="F" then "f" else if s="M" then "m" else if s="T" then "t" else if s="f" then "F" else if s="m" then "M" else if s="t" then "T" else s
noncomputable def YT (w:List Str):List Str:=(w.map Yu).reverse
noncomputable def Y5 (s:Str):Str:=if s="f" then "he" else if s="m" then "she" else if s="he" then "he" else if s="she" then "she" else ""
noncomputable def Uo (s:Str):Str:=if s="F" then "he" else if s="M" then "she" else if s="he" then "he" else if s="she" then "she" else ""
noncomputable def nv (ps:Str):List Str->Bool
 |[]=>false
 |s::w=>if Y5 s≠""∧ps≠""∧Y5 s≠ps then true else nv (Uo s) w
theorem ZmT {s:Str} (h:s∈Zq):Yu s∈Zq:=(show ∀s∈Zq,Yu s∈Zq by decide +kernel) s h
theorem ZnN {s:Str} (h:s∈Zq):Yu (Yu s)=s:=(show ∀s∈Zq,Yu (Yu s)=s by decide +kernel) s h
structure VR (R:Str->Nat->Nat->Prop):Prop where
 sym:∀s∈Zq,∀i j,R s i j->R (Yu s) j i
 fF:∀i j k,R "F" i j->R "F" i k->j=k
 fM:∀i j k,R "M" i j->R "M" i k->j=k
 he:∀i j,R "F" i j->R "he" j j
 she:∀i j,R "M" i j->R "she" j j
 th:∀i j,R "he" i j->i=j
 ts:∀i j,R "she" i j->i=j
 no:∀i,R "he" i i->R "she" i i->False
theorem ZdJ {t:Tr} {k:Nat} (h:TI t k) (hc:t.clash=false):VR (RT t) where
 sym:=fun s hs i j r=>by
  rcases Ji hs with c|c|c|rfl|rfl|rfl
  ·rw [show Yu s=s by rcases c with rfl|rfl<;>rfl,XH c];rw [XH c] at r;exact ⟨r.1.symm,by rw [←r.1];exact r.2⟩
  ·rw [XZ c] at r;have c':Yu s="f"∨Yu s="m":=by rcases c with rfl|rfl<;>decide +kernel
   rw [V0 c',show ZG (Yu s)=s by rcases c with rfl|rfl<;>rfl];exact r
  ·rw [V0 c] at r;have c':Yu s="F"∨Yu s="M":=by rcases c with rfl|rfl<;>decide +kernel
   rw [XZ c',show Yu s=ZG s by rcases c with rfl|rfl<;>rfl];exact r
  ·rw [Uq] at r;exact VY.mpr r
  ·rw [VY] at r;exact Uq.mpr r
  ·rw [VO] at r;exact VO.mpr r.symm
 fF:=fun i j k r1 r2=>by
  rw [XZ (.inl rfl)] at r1 r2;have:=(VM h).mpr r1;rw [(VM h).mpr r2] at this;exact (Qo this).symm
 fM:=fun i j k r1 r2=>by
  rw [XZ (.inr rfl)] at r1 r2;have:=(VM h).mpr r1;rw [(VM h).mpr r2] at this;exact (Qo this).symm
 he:=fun i j r=>by
  rw [XZ (.inl rfl)] at r;rw [XH (.inl rfl)];exact ⟨rfl,(h.pn _ r).2.2.2.2 hc⟩
 she:=fun i j r=>by
  rw [XZ (.inr rfl)] at r;rw [XH (.inr rfl)];exact ⟨rfl,(h.pn _ r).2.2.2.2 hc⟩
 th:=fun i j r=>((XH (.inl rfl)).mp r).1
 ts:=fun i j r=>((XH (.inr rfl)).mp r).1
 no:=fun i r1 r2=>by
  have e:=((XH (.inl rfl)).mp r1).2.symm.trans ((XH (.inr rfl)).mp r2).2;exact absurd e (by decide +kernel)
def Wd (a b:List Str):Prop:=∀R,VR R->∀i j,WT R a i j->WT R b i j
theorem Wd.refl (a:List Str):Wd a a:=fun _ _ _ _ h=>h
theorem Wd.trans {a b c:List Str} (h1:Wd a b) (h2:Wd b c):Wd a c:=fun R v i j w=>h2 R v i j (h1 R v i j w)
theorem Uv {R:Str->Nat->Nat->Prop}:∀{a b:List Str} {i j:Nat},WT R (a++b) i j↔∃m,WT R a i m∧WT R b m j
 |[],b,i,j=>⟨fun h=>⟨i,rfl,h⟩,fun ⟨m,e,h⟩=>by cases (show i=m from e);exact h⟩
 |s::a,b,i,j=>by
  constructor
  ·rintro ⟨m,r,w⟩;obtain ⟨n,h1,h2⟩:=Uv.mp w;exact ⟨n,⟨m,r,h1⟩,h2⟩
  ·rintro ⟨n,⟨m,r,h1⟩,h2⟩;exact ⟨m,r,Uv.mpr ⟨n,h1,h2⟩⟩
theorem ZcQ {a b x y:List Str} (h:Wd x y):Wd (a++(x++b)) (a++(y++b)):=fun R v i j w=>by
 obtain ⟨m,h1,h2⟩:=Uv.mp w;obtain ⟨n,h3,h4⟩:=Uv.mp h2;exact Uv.mpr ⟨m,h1,Uv.mpr ⟨n,h R v _ _ h3,h4⟩⟩
theorem Zpt {s:Str} (hs:s∈Zq):Wd [s] [s,Yu s,s]:=fun R v i j ⟨m,r,e⟩=>⟨m,r,i,v.sym s hs i m r,m,r,e⟩
theorem Zg4 {s u:Str} (h:(s="f"∧u="F")∨(s="m"∧u="M")):Wd [s,u] []:=fun R v i j ⟨m,r,n,r2,e⟩=>by
 cases (show n=j from e);rcases h with ⟨rfl,rfl⟩|⟨rfl,rfl⟩
 ·exact v.fF m i _ (v.sym "f" (by decide +kernel) i m r) r2
 ·exact v.fM m i _ (v.sym "m" (by decide +kernel) i m r) r2
theorem Zjg {s:Str} (h:s="he"∨s="she"):Wd [s] []:=fun R v i j ⟨m,r,e⟩=>by
 cases (show m=j from e);rcases h with rfl|rfl
 ·exact v.th i _ r
 ·exact v.ts i _ r
theorem ZiY {s:Str} (h:s="F"∨s="M"):Wd [s] [s,ZD s]:=fun R v i j ⟨m,r,e⟩=>by
 cases (show m=j from e);rcases h with rfl|rfl
 ·exact ⟨j,r,j,v.he i j r,rfl⟩
 ·exact ⟨j,r,j,v.she i j r,rfl⟩
theorem ZcC {R:Str->Nat->Nat->Prop} (v:VR R):∀{w:List Str} {i j:Nat},(∀s∈w,s∈Zq)->WT R w i j->WT R (YT w) j i
 |[],i,j,_,e=>(show i=j from e).symm
 |s::w,i,j,h9,⟨m,r,w'⟩=>by
  have:=ZcC v (fun x hx=>h9 x (QC _ hx)) w';unfold YT at this ⊢;rw [Qt,List.reverse_cons];exact Uv.mpr ⟨m,this,i,v.sym s (h9 s (by simp)) i m r,rfl⟩
theorem Zag {w:List Str} (h:∀s∈w,s∈Zq):∀s∈YT w,s∈Zq:=fun s hs=>by
 unfold YT at hs;obtain ⟨x,hx,rfl⟩:=Qg.mp (List.mem_reverse.mp hs);exact ZmT (h x hx)
theorem ZoZ {w:List Str} (h:∀s∈w,s∈Zq):YT (YT w)=w:=by
 unfold YT;rw [NO,List.reverse_reverse,QU];exact (Ga fun s hs=>ZnN (h s hs)).trans (List.map_id' w)
theorem Zcm (w:List Str):(YT w).length=w.length:=by unfold YT;rw [Ny,Qd]
noncomputable def Vf:List (List Str):=[["F","she"],["M","f"],["he","T","t","M","he"],["f","M","F","m"],["she","he"],["m","F","she"]]
theorem ZjH {R:Str->Nat->Nat->Prop} (v:VR R) {w:List Str} (h:w∈Vf) {i j:Nat}:¬WT R w i j:=by
 have fh:∀{a b},R "f" a b->R "he" a a:=fun {a b} r=>v.he b a (v.sym "f" (by decide +kernel) a b r);have mh:∀{a b},R "m" a b->R "she" a a:=fun {a b} r=>v.she b a (v.sym "m" (by decide +kernel) a b r);have td:∀{a b},R "she" a b->R "she" a a:=fun {a b} r=>by have:=v.ts a b r;subst this;exact r
 have th:∀{a b},R "he" a b->R "he" a a:=fun {a b} r=>by have:=v.th a b r;subst this;exact r
 simp only [Vf,Qh,QF,QG] at h;rcases h with rfl|rfl|rfl|rfl|rfl|rfl
 ·rintro ⟨a,r1,b,r2,_⟩;exact v.no a (v.he _ _ r1) (td r2)
 ·rintro ⟨a,r1,b,r2,_⟩;exact v.no a (fh r2) (v.she _ _ r1)
 ·rintro ⟨a,_,b,_,c,_,d,r4,e,r5,_⟩;exact v.no d (th r5) (v.she _ _ r4)
 ·rintro ⟨a,_,b,_,c,r3,d,r4,_⟩;exact v.no c (v.he _ _ r3) (mh r4)
 ·rintro ⟨a,r1,b,r2,_⟩;have:=v.ts _ _ r1;subst this;exact v.no _ (th r2) r1
 ·rintro ⟨a,_,b,r2,c,r3,_⟩;exact v.no b (v.he _ _ r2) (td r3)
theorem ZiV {t:Tr} {k:Nat} (h:TI t k) (hc:t.clash=false) {ps:Str} (hp:t.sorts.getD t.here ""=ps) {s:Str} (hs:s∈Zq):if Y5 s≠""∧ps≠""∧Y5 s≠ps then (t.go s).clash=true else (t.go s).clash=false∧(t.go s).sorts.getD (t.go s).here ""=Uo s:=by
 have hl:t.here<t.sorts.length:=by rw [h.len];exact h.he
 have new:∀g:Int,(t.grow g).sorts.getD t.days.length ""="":=fun g=>by
  show (t.sorts++[("" : Str)]).getD t.days.length ""="";rw [Vc,QP,Gq (by rw [h.len];exact Qf _)];rfl
 have ask:∀{x:Str},x≠""->if ps≠""∧x≠ps then (t.ask t.here x).clash=true else (t.ask t.here x).clash=false∧(t.ask t.here x).sorts.getD t.here ""=x:=fun {x} hx=>by
  unfold Tr.ask;rw [hp];by_cases e:ps=""
  ·rw [Qa (fun z=>z.1 e),Qb e];refine ⟨hc,?_⟩;show (t.sorts.set t.here x).getD t.here ""=x;rw [Zau,Qb ⟨rfl,hl⟩]
  ·rw [Qa e];by_cases e2:ps=x
   ·rw [Qa (fun z=>z.2 e2.symm),Qb e2];exact ⟨hc,hp.trans e2⟩
   ·rw [Qb ⟨e,fun z=>e2 z.symm⟩,Qa e2]
 rcases Ji hs with c|c|c|rfl|rfl|rfl
 ·have w1:Y5 s=s∧Uo s=s∧s≠"":=by rcases c with rfl|rfl<;>decide +kernel
  rw [J7 t c,w1.1,w1.2.1,(Y1 t t.here s).2.2.2.2.1];have:=ask w1.2.2;by_cases z:ps≠""∧s≠ps
  ·rw [Qb z] at this;rw [Qb ⟨w1.2.2,z⟩];exact this
  ·rw [Qa z] at this;rw [Qa (fun y=>z y.2)];exact this
 ·have w1:Y5 s=""∧Uo s=ZD s:=by rcases c with rfl|rfl<;>decide +kernel
  rw [Qa (fun z=>z.1 w1.1),w1.2,JE t c];unfold Tr.goUp;cases hq:Wy t s t.here with
  |some p =>
   have m:=(VM h).mp hq;exact ⟨hc,(h.pn _ m).2.2.2.2 hc⟩
  |none =>
   have a0:=new (-1);show (Tr.ask ((t.grow (-1)).addPar s t.here t.days.length) t.days.length (ZD s)).clash=false∧(Tr.ask ((t.grow (-1)).addPar s t.here t.days.length) t.days.length (ZD s)).sorts.getD (Tr.ask ((t.grow (-1)).addPar s t.here t.days.length) t.days.length (ZD s)).here ""=ZD s;rw [(Y1 _ _ _).2.2.2.2.1];unfold Tr.ask;rw [Qb (show ((t.grow (-1)).addPar s t.here t.days.length).sorts.getD t.days.length ""="" from a0)];refine ⟨hc,?_⟩;show ((t.sorts++[("" : Str)]).set t.days.length (ZD s)).getD t.days.length ""=_;rw [Zau,Qb ⟨rfl,by rw [Qn,h.len];simp⟩]
 ·have w1:Y5 s=ZD (ZG s)∧Uo s="":=by rcases c with rfl|rfl<;>decide +kernel
  rw [Zaj t c,w1.1,w1.2];have this:=ask (Zd0 (ZG s))
  have e0:(((t.ask t.here (ZD (ZG s))).grow 1).addPar (ZG s) t.days.length t.here).sorts.getD (((t.ask t.here (ZD (ZG s))).grow 1).addPar (ZG s) t.days.length t.here).here ""="":=by
   show ((t.ask t.here (ZD (ZG s))).sorts++[("" : Str)]).getD (t.ask t.here (ZD (ZG s))).days.length ""="";rw [Vc,(Y1 _ _ _).1,QP,Gq (by rw [(Y1 _ _ _).2.2.2.2.2,h.len];exact Qf _)];rfl
  by_cases z:ps≠""∧ZD (ZG s)≠ps
  ·rw [Qb z] at this;rw [Qb ⟨Zd0 _,z⟩];exact this
  ·rw [Qa z] at this;rw [Qa (fun y=>z y.2)];exact ⟨this.1,e0⟩
 ·rw [Qa (fun z=>z.1 (by decide +kernel)),Za3];exact ⟨hc,new (-1)⟩
 ·rw [Qa (fun z=>z.1 (by decide +kernel)),ZaF];exact ⟨hc,new 1⟩
 ·rw [Qa (fun z=>z.1 (by decide +kernel)),ZaM];exact ⟨hc,new 0⟩
theorem ZfF:∀{w:List Str} {t:Tr} {k:Nat} {ps:Str},TI t k->t.clash=false->t.sorts.getD t.here ""=ps->(∀s∈w,s∈Zq)->(w.foldl Tr.go t).clash=nv ps w
 |[],t,k,ps,_,hc,_,_=>hc
 |s::w,t,k,ps,h,hc,hp,h9=>by
  have g:=ZiV h hc hp (h9 s (by simp));have h1:=(Zic h (h9 s (by simp))).1;have h9':∀x∈w,x∈Zq:=fun x hx=>h9 x (QC _ hx);unfold nv;by_cases z:Y5 s≠""∧ps≠""∧Y5 s≠ps
  ·rw [Qb z] at g ⊢;have sb:=(Jd (w:=w) h1 h9').2.1;cases e:(w.foldl Tr.go (t.go s)).clash with
   |true=>exact e
   |false=>rw [sb.cl e] at g;cases g
  ·rw [Qa z] at g ⊢;exact ZfF h1 g.1 g.2 h9'
theorem Ze9 {w:List Str} (h9:∀s∈w,s∈Zq):(YF w).clash=nv "" w:=ZfF TI.start rfl rfl h9
theorem Zj2 {w:List Str} (h9:∀s∈w,s∈Zq):V8 w w:=by
 cases hc:(YF w).clash with
 |true=>exact .inl hc
 |false=>exact .inr ((Jd TI.start h9).2.2 hc)
theorem ZhW {a b:List Str} (h9:∀s∈a,s∈Zq) (h:Wd a b):V8 a b:=by
 cases hc:(YF a).clash with
 |true=>exact .inl hc
 |false=>exact .inr (h _ (ZdJ (Jo h9) hc) _ _ ((Jd TI.start h9).2.2 hc))
theorem Zm0 {a b:List Str} (h9:∀s∈a,s∈Zq) (hb:b∈Vf):V8 a b↔nv "" a=true:=by
 rw [←Ze9 h9];refine ⟨fun h=>h.elim id fun w=>?_,.inl⟩;cases hc:(YF a).clash with
 |true=>rfl
 |false=>exact absurd w (ZjH (ZdJ (Jo h9) hc) hb)
theorem Zb8:∀w∈Vf,(∀s∈w,s∈Zq)∧w.length≤24∧nv "" w=true:=by decide +kernel
theorem Zeg {a b:List Str} (ha:a∈Vf):V8 a b:=.inl (by rw [Ze9 (Zb8 a ha).1];exact (Zb8 a ha).2.2)
theorem ZkZ {a b:List Str} (ha:∀s∈a,s∈Zq) (hb:∀s∈b,s∈Zq) (h:Wd a b):V8 (YT a) (YT b):=by
 cases hc:(YF (YT a)).clash with
 |true=>exact .inl hc
 |false =>
  have v:=ZdJ (Jo (Zag ha)) hc;have w:=(Jd TI.start (Zag ha)).2.2 hc;have w2:=ZcC v (Zag ha) w;rw [ZoZ ha] at w2;exact .inr (ZcC v hb (h _ v _ _ w2))
def Zh4 (K:W.Frag) (H:Hp) (l:Addr) (rows:List (List Str)):Prop:=∃vs,SqL K H l vs∧vs.length=rows.length∧rows.length≤10∧∀(i:Nat) (v:V) (row:List Str),vs[i]?=some v->rows[i]?=some row->row.length≤10∧∃a,v=.ref a∧SqT K H a (row.map V.str)
theorem Vs {σ:St} {H:Hp} {Q:VK} {ty tx:TE} {trs:List (TE×TE)} (kvs:List (Zj×V)) (hc:∀(H':Hp) (Qp:List (V×V)->Hp->Prop),Qp (kvs.map fun kv=>(kV kv.1,kv.2)) H'->JC trs σ H' Qp) (l:kvs.length≤15) (h:∀p H',Same H H'->H' p=some (.dK (Xj [] kvs))->ty σ H' fun y H2=>tx σ H2 fun z H3=>∃o,DGet H3 p y o∧Q (o.getD z) H3):Zbv (ZaE trs) ty tx σ H Q:=fun p np=>hc _ _ ⟨Zf,kvs,rfl,l,p,rfl,.inl ⟨_,.inl Zf⟩,h p _ (fun c u e=>by rw [Zd (ZF e np),Zd (ZF e np)];exact e) Zf⟩
noncomputable abbrev kvB:List (Zj×V):=[(.inr "F",.str "f"),(.inr "M",.str "m"),(.inr "T",.str "t"),(.inr "f",.str "F"),(.inr "m",.str "M"),(.inr "t",.str "T")]
noncomputable abbrev kvW:List (Zj×V):=[(.inr "f",.str "he"),(.inr "m",.str "she"),(.inr "he",.str "he"),(.inr "she",.str "she")]
noncomputable abbrev kvN:List (Zj×V):=[(.inr "F",.str "he"),(.inr "M",.str "she"),(.inr "he",.str "he"),(.inr "she",.str "she")]
theorem ZjG {s:Str} (h:s∈Zq):(ZI (Xj [] kvB) (.inr s)).getD (.str s)=.str (Yu s):=by
 simp only [Zq,Qh,QF,QG] at h;rcases h with rfl|rfl|rfl|rfl|rfl|rfl|rfl|rfl|rfl<;>rfl
theorem ZlA {s:Str} (h:s∈Zq):(ZI (Xj [] kvW) (.inr s)).getD (.str "")=.str (Y5 s):=by
 simp only [Zq,Qh,QF,QG] at h;rcases h with rfl|rfl|rfl|rfl|rfl|rfl|rfl|rfl|rfl<;>rfl
theorem ZhC {s:Str} (h:s∈Zq):(ZI (Xj [] kvN) (.inr s)).getD (.str "")=.str (Uo s):=by
 simp only [Zq,Qh,QF,QG] at h;rcases h with rfl|rfl|rfl|rfl|rfl|rfl|rfl|rfl|rfl<;>rfl
theorem Zid:∀a b:List Str,Y9 (a.map D.str) (b.map D.str)=decide (a=b)
 |[],[]=>rfl
 |[],_::_=>rfl
 |_::_,[]=>rfl
 |x::a,y::b=>by
  show (Y4 (.str x) (.str y)&&Y9 (a.map D.str) (b.map D.str))=_;rw [Zid a b,show Y4 (.str x) (.str y)=decide (x=y) from rfl];by_cases h:x=y<;>by_cases h2:a=b<;>simp [h,h2]
theorem ZgJ {K:W.Frag} {H:Hp} {p q:Addr} {a b:List Str} {Q:VK} (h1:SqT K H p (a.map V.str)) (h2:SqT K H q (b.map V.str)) (h:Q (.bl (decide (a=b))) H):Zhc K id (.ref p) (.ref q) H Q:=by
 refine ⟨.tup (a.map D.str),.tup (b.map D.str),⟨p,_,rfl,h1,Zc4 a⟩,⟨q,_,rfl,h2,Zc4 b⟩,.inl ⟨_,_,rfl,rfl⟩,?_,?_⟩
 ·have:=ZhE a;simp only [XD];omega
 ·show Q (.bl (Y4 (.tup (a.map D.str)) (.tup (b.map D.str)))) H;rw [show Y4 (.tup (a.map D.str)) (.tup (b.map D.str))=Y9 (a.map D.str) (b.map D.str) by simp only [Y4],Zid];exact h
theorem Zkv (a:List Str) (lo hi:Nat) (h:lo≤a.length):Yi (a.map V.str) (some (lo:Int)) (some (hi:Int))=((a.drop lo).take (hi-lo)).map V.str:=by
 unfold Yi;rw [NF,NG,Qd,HT.sIx_nat,HT.sIx_nat,GW h];by_cases e:hi≤a.length
 ·rw [GW e]
 ·rw [RV (by rw [RL,Qd];omega),RV (by rw [RL,Qd];omega)]
theorem Zay (a:List Str) (hi:Nat):Yi (a.map V.str) none (some (hi:Int))=(a.take hi).map V.str:=by
 unfold Yi;rw [Qd,HT.sIx_nat,HT.sIx_none,List.drop_zero,Nat.sub_zero,NF];by_cases e:hi≤a.length
 ·rw [GW e]
 ·rw [RV (by rw [Qd];omega),RV (by rw [Qd];omega)]
theorem Zbd (a:List Str) (lo:Nat) (h:lo≤a.length):Yi (a.map V.str) (some (lo:Int)) none=(a.drop lo).map V.str:=by
 unfold Yi;rw [Qd,HT.sIx_nat,HT.sIx_none,GW h,NG,RV (by rw [RL,Qd];omega)]
theorem Zgr {way:List Str} {i:Nat} {s:Str} (h:way[i]?=some s):way.drop i=s::way.drop (i+1):=by
 obtain ⟨hl,e⟩:=QH.mp h;rw [List.drop_eq_getElem_cons hl,e]
theorem ZeK {xs:List Str} {i:Nat} {y:V} (h:(xs.map V.str)[i]?=some y):∃z,y=.str z∧xs[i]?=some z:=by
 rw [QA] at h;obtain ⟨z,hz,e⟩:=QQ.mp h;exact ⟨z,e.symm,hz⟩
theorem ZpD (way:List Str):∃s:Str,(s=""∨s∈way)∧Yt (V.str ""::way.map V.str) (-1)=some (.str s):=by
 rcases List.eq_nil_or_concat way with rfl|⟨w,s,rfl⟩
 ·exact ⟨"",.inl rfl,Zaf [] _⟩
 ·refine ⟨s,.inr (by simp),?_⟩;rw [List.concat_eq_append,Qs];exact Zaf (V.str ""::w.map V.str) _
noncomputable abbrev kvF (s:Str):List (Zj×V):=[(.inr "F",.str "f"),(.inr "M",.str "m"),(.inr "T",.str "t"),(.inr "f",.str "F"),(.inr "m",.str "M"),(.inr "t",.str "T"),(.inr "",.str s)]
noncomputable abbrev kvH:List (Zj×V):=[(.inr "m",.str "f"),(.inr "she",.str "he")]
noncomputable abbrev kvS:List (Zj×V):=[(.inr "f",.str "m"),(.inr "he",.str "she")]
theorem ZeM {s l:Str} (hs:s∈Zq) (h:l=""∨l∈Zq):∃z∈Zq,(ZI (Xj [] (kvF s)) (.inr l)).getD (.str l)=.str z:=by
 simp only [Zq,Qh,QF,QG] at h;rcases h with rfl|rfl|rfl|rfl|rfl|rfl|rfl|rfl|rfl|rfl
 ·exact ⟨s,hs,rfl⟩
 all_goals exact ⟨_,by decide,rfl⟩
theorem Zne {l:Str} (h:l∈Zq):∃z∈Zq,(ZI (Xj [] kvH) (.inr l)).getD (.str l)=.str z:=by
 simp only [Zq,Qh,QF,QG] at h;rcases h with rfl|rfl|rfl|rfl|rfl|rfl|rfl|rfl|rfl<;>exact ⟨_,by decide,rfl⟩
theorem Zm9 {l:Str} (h:l∈Zq):∃z∈Zq,(ZI (Xj [] kvS) (.inr l)).getD (.str l)=.str z:=by
 simp only [Zq,Qh,QF,QG] at h;rcases h with rfl|rfl|rfl|rfl|rfl|rfl|rfl|rfl|rfl<;>exact ⟨_,by decide,rfl⟩
theorem ZjX {σ:St} {H:Hp} {Q:VK} {ty:TE} {trs:List (TE×TE)} (kvs:List (Zj×V)) (hc:∀(H':Hp) (Qp:List (V×V)->Hp->Prop),Qp (kvs.map fun kv=>(kV kv.1,kv.2)) H'->JC trs σ H' Qp) (l:kvs.length≤15) (h:∀p H',Same H H'->H' p=some (.dK (Xj [] kvs))->ty σ H' fun y H2=>∃a v,V.ref p=.ref a∧DGet H2 a y (some v)∧Q v H2):Zfg (ZaE trs) ty σ H Q:=fun p np=>hc _ _ ⟨Zf,kvs,rfl,l,h p _ (fun c u e=>by rw [Zd (ZF e np),Zd (ZF e np)];exact e) Zf⟩
theorem Zdw {K:W.Frag} {H:Hp} {t1 t2 L:Addr} {x y:List Str} (h1:SqT K H t1 (x.map V.str)) (h2:SqT K H t2 (y.map V.str)) (hL:SqL K H L [.ref t1,.ref t2]) (lx:x.length≤10) (ly:y.length≤10):Zh4 K H L [x,y]:=by
 refine ⟨_,hL,rfl,show 2≤10 by decide,fun i v row hv hr=>?_⟩
 match i,hv,hr with
 |0,hv,hr=>cases hv;cases hr;exact ⟨lx,t1,rfl,h1⟩
 |1,hv,hr=>cases hv;cases hr;exact ⟨ly,t2,rfl,h2⟩
 |n+2,hv,hr=>cases hv
theorem Zb1 {way x:List Str} {a n:Nat} (h:(way.drop a).take n=x):way.take a++(x++way.drop (a+n))=way:=by
 rw [←h,←List.drop_drop,List.take_append_drop,List.take_append_drop]
theorem Zbs {way:List Str} {a:Nat} {s:Str} (h:way[a]?=some s):(way.drop a).take 1=[s]:=by
 rw [Zgr h];rfl
theorem Zel {way:List Str} {a:Nat} {s:Str} (h:way[a]?=some s):way.take (a+1)=way.take a++[s]:=by
 rw [Nv,h];rfl
theorem Zor {way:List Str} {a:Nat} {s:Str} (h:way[a]?=some s) (hs:s∈Zq):Wd way (way.take (a+1)++[Yu s,s]++way.drop (a+1)):=by
 have e:=ZcQ (a:=way.take a) (b:=way.drop (a+1)) (Zpt hs);rw [Zb1 (Zbs h)] at e;rw [Zel h];simpa using e
theorem Zcy {way x:List Str} {a n:Nat} (h:(way.drop a).take n=x) (w:Wd x []):Wd way (way.take a++way.drop (a+n)):=by
 have e:=ZcQ (a:=way.take a) (b:=way.drop (a+n)) w;rw [Zb1 h] at e;exact e
theorem Zpc {way:List Str} {a:Nat} {s:Str} (h:way[a]?=some s) (hs:s="F"∨s="M"):Wd way (way.take (a+1)++[ZD s]++way.drop (a+1)):=by
 have e:=ZcQ (a:=way.take a) (b:=way.drop (a+1)) (ZiY hs);rw [Zb1 (Zbs h)] at e;rw [Zel h];simpa using e
theorem ZaX {way m:List Str} {a b:Nat} (h9:∀s∈way,s∈Zq) (hm:∀s∈m,s∈Zq):∀s∈way.take a++m++way.drop b,s∈Zq:=fun s hs=>by
 rcases Ql.mp hs with hs|hs
 ·rcases Ql.mp hs with hs|hs
  ·exact h9 s (Gw hs)
  ·exact hm s hs
 ·exact h9 s (List.mem_of_mem_drop hs)
noncomputable abbrev kvU:List (Zj×V):=[(.inr "F",.str "he"),(.inr "M",.str "she")]
theorem Zoh {s:Str} (h:s="F"∨s="M"):ZI (Xj [] kvU) (.inr s)=some (.str (ZD s)):=by
 rcases h with rfl|rfl<;>rfl
theorem Zlg {s:Str} (h:s="F"∨s="M"):ZD s∈Zq:=by
 rcases h with rfl|rfl<;>decide
theorem ZhN (x y z:List Str):x.map V.str++y.map V.str++z.map V.str=(x++y++z).map V.str:=by simp
theorem ZgR {way row:List Str} {a:Nat} {x y:Str} (m:row∈[[x],[y]]) (h:(way.drop a).take row.length=row):∃s,way[a]?=some s∧(s=x∨s=y)∧row=[s]:=by
 have g:∀s,row=[s]->way[a]?=some s:=fun s e=>by
  rw [e] at h;have:=Qy (·[0]?) h;simpa using this
 simp only [Qh,QF,QG] at m;rcases m with e|e
 ·exact ⟨x,g x e,.inl rfl,e⟩
 ·exact ⟨y,g y e,.inr rfl,e⟩
theorem U9 {n:Nat} (h:n≤1000):n≤sizeLine:=QN (ZK h)
theorem ZjT {s:Str} (h:s∈Zq):Yu s∈Zq:=by
 simp only [Zq,Qh,QF,QG] at h;rcases h with rfl|rfl|rfl|rfl|rfl|rfl|rfl|rfl|rfl<;>decide
theorem Zm7 (xs:List V) (b:Int):Yi xs none (some b)=Yi xs (some ((0:Nat):Int)) (some b):=by
 unfold Yi;rw [HT.sIx_none,HT.sIx_nat,Nat.zero_min]
structure WS (K:W.Frag) (H:Hp) (n:Nat) (ws:List (List Str×Addr)):Prop where
 sq:∀q∈ws,SqT K H q.2 (q.1.map V.str)
 ok:∀q∈ws,(∀s∈q.1,s∈Zq)∧q.1.length≤n
 nx:∀(i:Nat) (a b:List Str×Addr),ws[i]?=some a->ws[i+1]?=some b->Wd a.1 b.1
 fst:∀a:List Str×Addr,ws[0]?=some a->∀b∈ws,Wd a.1 b.1
noncomputable abbrev WZ (ws:List (List Str×Addr)):List V:=ws.map fun q=>V.ref q.2
theorem WS.one {K:W.Frag} {H:Hp} {n:Nat} {q:List Str×Addr} (h:SqT K H q.2 (q.1.map V.str)) (h9:∀s∈q.1,s∈Zq) (l:q.1.length≤n):WS K H n ([]++[q]) :=
 ⟨fun z hz=>by rw [QD.mp hz];exact h,fun z hz=>by rw [QD.mp hz];exact ⟨h9,l⟩,fun i a b ha hb=>by simp at hb,fun a ha b hb=>by
  rw [QD.mp hb,show a=q from (Qo ha).symm];exact Wd.refl _⟩
theorem WS.mono {K:W.Frag} {H H':Hp} {n m:Nat} {ws:List (List Str×Addr)} (h:WS K H n ws) (f:∀a xs,SqT K H a xs->SqT K H' a xs) (l:n≤m):WS K H' m ws :=
 ⟨fun q hq=>f _ _ (h.sq q hq),fun q hq=>⟨(h.ok q hq).1,Qq (h.ok q hq).2 l⟩,h.nx,h.fst⟩
theorem WS.snoc {K:W.Frag} {H:Hp} {n:Nat} {ws:List (List Str×Addr)} {p q:List Str×Addr} (h:WS K H n (ws++[p])) (sq:SqT K H q.2 (q.1.map V.str)) (q9:∀s∈q.1,s∈Zq) (l:q.1.length≤n) (w:Wd p.1 q.1):WS K H n ((ws++[p])++[q]):=by
 refine ⟨fun z hz=>?_,fun z hz=>?_,fun i a b ha hb=>?_,fun a ha b hb=>?_⟩
 ·rcases Ql.mp hz with hz|hz
  ·exact h.sq z hz
  ·rw [QD.mp hz];exact sq
 ·rcases Ql.mp hz with hz|hz
  ·exact h.ok z hz
  ·rw [QD.mp hz];exact ⟨q9,l⟩
 ·by_cases c:i+1<(ws++[p]).length
  ·rw [Rt (by omega)] at ha;rw [Rt c] at hb;exact h.nx i a b ha hb
  ·have l2:=(QH.mp hb).1;rw [Qn,GI] at l2;have e:i=ws.length:=by rw [Qn,GI] at c l2;omega
   subst e;have ea:a=p:=by simpa using ha.symm
   have eb:b=q:=by simpa using hb.symm
   rw [ea,eb];exact w
 ·rw [Rt (by simp)] at ha;rcases Ql.mp hb with hb|hb
  ·exact h.fst a ha b hb
  ·rw [QD.mp hb];exact Wd.trans (h.fst a ha p (by simp)) w
theorem ZkR {K:W.Frag} {H:Hp} {t1 t2 t3 t4 t5 t6:Addr} {x:List Str×Addr} (hx:x∈Vf.zip [t1,t2,t3,t4,t5,t6]) (a1:SqT K H t1 [.str "F",.str "she"]) (a2:SqT K H t2 [.str "M",.str "f"]) (a3:SqT K H t3 [.str "he",.str "T",.str "t",.str "M",.str "he"]) (a4:SqT K H t4 [.str "f",.str "M",.str "F",.str "m"]) (a5:SqT K H t5 [.str "she",.str "he"]) (a6:SqT K H t6 [.str "m",.str "F",.str "she"]):SqT K H x.2 (x.1.map V.str):=by
 simp only [Vf,List.zip_cons_cons,List.zip_nil_left,Qh,QF,QG] at hx;rcases hx with rfl|rfl|rfl|rfl|rfl|rfl
 ·exact a1
 ·exact a2
 ·exact a3
 ·exact a4
 ·exact a5
 ·exact a6
section
variable {K:W.Frag} {w:World} {mg:Str->Option Value}
theorem Zk4:FnScope ["thing"] ["thing"] (Zu Zdz):=⟨rfl,rfl,rfl,by decide +kernel,rfl,by decide +kernel,by decide +kernel⟩
def ZjW (T:Tx K w mg):Sp:=fun vs H Q E=>vs.length=1∧(∃x t,vs=[x]∧Vw K H x t∧∀H',Same H H'->Q (.bl (Vk.isI t)) H')
theorem ZiU:FnScope ["thing"] ["thing"] (Zu ZdZ):=⟨rfl,rfl,rfl,by decide +kernel,rfl,by decide +kernel,by decide +kernel⟩
def ZfE (T:Tx K w mg):Sp:=fun vs H Q E=>vs.length=1∧(∃x t,vs=[x]∧Vw K H x t∧∀H',Same H H'->Q (.bl (W8 t)) H')
theorem Znt:FnScope ["thing"] ["thing"] (Zu ZcX):=⟨rfl,rfl,rfl,by decide +kernel,rfl,by decide +kernel,by decide +kernel⟩
def ZgS (T:Tx K w mg):Sp:=fun vs H Q E=>vs.length=1∧(∃x t,vs=[x]∧Vw K H x t∧∀H',Same H H'->Q (.bl (Zcl t)) H')
theorem ZmM:FnScope ["thing"] ["thing"] (Zu ZdB):=⟨rfl,rfl,rfl,by decide +kernel,rfl,by decide +kernel,by decide +kernel⟩
def ZgB (T:Tx K w mg):Sp:=fun vs H Q E=>vs.length=1∧(∃x t,vs=[x]∧Vw K H x t∧∀H',Same H H'->Q (.bl (ZcS t)) H')
theorem Zn6:FnScope ["thing"] ["thing"] (Zu ZbJ):=⟨rfl,rfl,rfl,by decide +kernel,rfl,by decide +kernel,by decide +kernel⟩
def ZgD (T:Tx K w mg):Sp:=fun vs H Q E=>vs.length=1∧(∃x t,vs=[x]∧Vw K H x t∧∀H',Same H H'->Q (.bl (Up t)) H')
theorem ZiH:FnScope ["thing"] ["thing"] (Zu ZbB):=⟨rfl,rfl,rfl,by decide +kernel,rfl,by decide +kernel,by decide +kernel⟩
def ZgP (T:Tx K w mg):Sp:=fun vs H Q E=>vs.length=1∧(∃x t,vs=[x]∧Vw K H x t∧∀H',Same H H'->Q (.bl (JQ t)) H')
theorem Zl3:FnScope ["parts","checks"] ["parts","checks"] (Zu Zcq):=⟨rfl,rfl,rfl,by decide +kernel,rfl,by decide +kernel,by decide +kernel⟩
def Znk (T:Tx K w mg):Sp:=fun vs H Q E=>vs.length=2∧(∃a b xs ts cs,vs=[.ref a,.ref b]∧SqT K H a xs∧Vws K H xs ts∧SqT K H b (cs.map fun c=>.ref (T.ad c))∧cs.length≤10∧∀H',Same H H'->Q (.bl (Wi cs ts)) H')
theorem ZbH:FnScope ["thing","word","checks"] ["thing"] (Zu ZdI):=⟨rfl,rfl,rfl,by decide +kernel,rfl,by decide +kernel,by decide +kernel⟩
def ZoX (T:Tx K w mg):Sp:=fun vs H Q E=>vs.length=1∧(∃x,vs=[x]∧((∃t,Vw K H x t∧t.isT=false∧∀H',Same H H'->Q (.bl false) H')∨∃ts,Tv K H x ts∧ts.length≤10∧∀H',Same H H'->Q (.bl (VS ts)) H'))
theorem ZlH:FnScope ["entry"] ["entry"] (Zu ZcF):=⟨rfl,rfl,rfl,by decide +kernel,rfl,by decide +kernel,by decide +kernel⟩
def Zob (T:Tx K w mg):Sp:=fun vs H Q E=>vs.length=1∧(∃v e,vs=[v]∧EntAt K H v e∧∀H',Same H H'->Q (.bl e.tie) H')
theorem ZoT:FnScope ["entry"] ["entry"] (Zu Zdd):=⟨rfl,rfl,rfl,by decide +kernel,rfl,by decide +kernel,by decide +kernel⟩
def ZlJ (T:Tx K w mg):Sp:=fun vs H Q E=>vs.length=1∧(∃v e,vs=[v]∧EntAt K H v e∧∀H' D,Same H H'->H D=none->SqL K H' D (e.named.map V.str)->Q (.ref D) H')
theorem Zi3:FnScope ["entry"] ["entry"] (Zu Zc9):=⟨rfl,rfl,rfl,by decide +kernel,rfl,by decide +kernel,by decide +kernel⟩
def ZnV (T:Tx K w mg):Sp:=fun vs H Q E=>vs.length=1∧(∃v e,vs=[v]∧EntAt K H v e∧Q (.int e.day) H)
theorem ZgI:FnScope ["entry","names"] ["entry"] (Zu Zc2):=⟨rfl,rfl,rfl,by decide +kernel,rfl,by decide +kernel,by decide +kernel⟩
def Zo0 (T:Tx K w mg):Sp:=fun vs H Q E=>vs.length=1∧(∃v e,vs=[v]∧EntAt K H v e∧∀H' u,Same H H'->EntAt K H' u e.told->Q u H')
theorem Zi9:FnScope ["entry"] ["entry"] (Zu ZcR):=⟨rfl,rfl,rfl,by decide +kernel,rfl,by decide +kernel,by decide +kernel⟩
def Zjq (T:Tx K w mg):Sp:=fun vs H Q E=>vs.length=1∧(∃v e,vs=[v]∧EntAt K H v e∧∀H' p,Same H H'->H p=none->H' p=some (.tup (e.told.key.map kV))->Q (.ref p) H')
theorem ZmK:FnScope ["thing"] ["thing"] (Zu ZcM):=⟨rfl,rfl,rfl,by decide +kernel,rfl,by decide +kernel,by decide +kernel⟩
def ZoU (T:Tx K w mg):Sp:=fun vs H Q E=>vs.length=1∧(∃x,vs=[x]∧((∃ty,Kd K H x ty∧W.kitOne K ty (.type "str")=some false∧Q (.bl false) H)∨∃l,x=.str l∧Q (.bl (Ja l)) H))
theorem ZjI:FnScope ["one","other"] ["one","other"] (Zu ZcZ):=⟨rfl,rfl,rfl,by decide +kernel,rfl,by decide +kernel,by decide +kernel⟩
def Zpy (T:Tx K w mg):Sp:=fun vs H Q E=>vs.length=2∧(∃a b,vs=[.str a,.str b]∧∀H' p,Same H H'->H p=none->H' p=some (.tup [.str (Ze a b).1,.str (Ze a b).2])->Q (.ref p) H')
theorem ZnK:FnScope ["self"] ["self"] (Zu ZbZ):=⟨rfl,rfl,rfl,by decide +kernel,rfl,by decide +kernel,by decide +kernel⟩
def ZmO (T:Tx K w mg):Sp:=fun vs H Q E=>vs.length=1∧(∃b dx,vs=[.ref b]∧H b=some (.ins T.c_Book dx [])∧∀H' k bi li ti su,BkAt K T.c_Book H' b dx k bi li ti su Vd->(∀c o,H c=some o->c≠b->H' c=some o)->H k=none->H bi=none->H li=none->H ti=none->H su=none->Q .non H')
theorem ZmZ:FnScope ["self","name"] ["self","name"] (Zu ZdF):=⟨rfl,rfl,rfl,by decide +kernel,rfl,by decide +kernel,by decide +kernel⟩
def ZiG (T:Tx K w mg):Sp:=fun vs H Q E=>vs.length=2∧(∃v x B,vs=[v,x]∧BkHas K T.c_Book H v B∧((∃ty,Kd K H x ty∧W.kitOne K ty (.type "str")=some false∧E (.ref T.c_NoPerson) none H)∨∃n,x=.str n∧(ZZ n B.kept=none->E (.ref T.c_NoPerson) none H)∧∀p,ZZ n B.kept=some p->Q (.ref p.2) H))
theorem Zj5:FnScope ["self","name"] ["self","name"] (Zu ZdN):=⟨rfl,rfl,rfl,by decide +kernel,rfl,by decide +kernel,by decide +kernel⟩
def Zl8 (T:Tx K w mg):Sp:=fun vs H Q E=>vs.length=2∧(∃v x B,vs=[v,x]∧BkHas K T.c_Book H v B∧((∃ty,Kd K H x ty∧W.kitOne K ty (.type "str")=some false∧E (.ref T.c_NoPerson) none H)∨∃n,x=.str n∧(ZZ n B.kept=none->E (.ref T.c_NoPerson) none H)∧∀p,ZZ n B.kept=some p->∀n' s d f m,p.1=.born n' s d f m->Q (.str s) H))
theorem Zop:FnScope ["self","name"] ["self","name"] (Zu ZdV):=⟨rfl,rfl,rfl,by decide +kernel,rfl,by decide +kernel,by decide +kernel⟩
def ZkK (T:Tx K w mg):Sp:=fun vs H Q E=>vs.length=2∧(∃v x B,vs=[v,x]∧BkHas K T.c_Book H v B∧((∃ty,Kd K H x ty∧W.kitOne K ty (.type "str")=some false∧E (.ref T.c_NoPerson) none H)∨∃n,x=.str n∧(ZZ n B.kept=none->E (.ref T.c_NoPerson) none H)∧∀p,ZZ n B.kept=some p->∀n' s d f m,p.1=.born n' s d f m->Q (.int d) H))
theorem Zj7:FnScope ["self","name","sort","day"] ["self","name","sort","day"] (Zu ZbA):=⟨rfl,rfl,rfl,by decide +kernel,rfl,by decide +kernel,by decide +kernel⟩
def ZnE (T:Tx K w mg):Sp:=fun vs H Q E=>vs.length=4∧(∃v n s d B,vs=[v,.str n,.str s,.int d]∧BkHas K T.c_Book H v B∧(n≠""->Known B n)∧Q (.bl (XF B n s d)) H)
theorem ZeL:FnScope ["self","entry","names"] ["self","entry"] (Zu ZcA):=⟨rfl,rfl,rfl,by decide +kernel,rfl,by decide +kernel,by decide +kernel⟩
def ZoB (T:Tx K w mg):Sp:=fun vs H Q E=>vs.length=2∧(∃v x B e,vs=[v,x]∧BkHas K T.c_Book H v B∧EntAt K H x e∧(∀n∈e.named,Known B n)∧∀H',Same H H'->Q (.bl (Wb B e)) H')
theorem Zga:FnScope ["self","entry","name"] ["self","entry"] (Zu ZcB):=⟨rfl,rfl,rfl,by decide +kernel,rfl,by decide +kernel,by decide +kernel⟩
def ZpC (T:Tx K w mg):Sp:=fun vs H Q E=>vs.length=2∧(∃v x B e,vs=[v,x]∧BkHas K T.c_Book H v B∧EntAt K H x e∧e.Ok∧XY B e=none∧∀H',Same H H'->Q .non H')
theorem ZiK:FnScope ["self","letter","begin","end"] ["self","letter","begin","end"] (Zu Zcv):=⟨rfl,rfl,rfl,by decide +kernel,rfl,by decide +kernel,by decide +kernel⟩
def ZoL (T:Tx K w mg):Sp:=fun vs H Q E=>vs.length=4∧(∃b dx k bi li ti su B l n m,vs=[.ref b,.str l,.str n,.str m]∧BkAt K T.c_Book H b dx k bi li ti su B∧(YA B l n).length≤61∧B.links.length≤900∧∀H' D,BkAt K T.c_Book H' b dx k bi li ti su { B with links:=Zo B.links (l,n) (D,ZB (YA B l n++[m])) }->But [li] H H'->H D=none->Q .non H')
theorem Zn4:FnScope ["self","entry"] ["self","entry"] (Zu ZdX):=⟨rfl,rfl,rfl,by decide +kernel,rfl,by decide +kernel,by decide +kernel⟩
def Zkn (T:Tx K w mg):Sp:=fun vs H Q E=>vs.length=2∧(∃b dx k bi li ti su B0 B n s d f m a,vs=[.ref b,.ref a]∧B.kept=B0++[(.born n s d f m,a)]∧H b=some (.ins T.c_Book dx (WV k bi li ti su))∧H bi=some (.dK (Bk.bornD B0))∧ZZ n B0=none∧B0.length≤900∧SqT K H a ((Ent.born n s d f m).row.map kV)∧BkAt K T.c_Book (Zc H bi (.dK (Bk.bornD B.kept))) b dx k bi li ti su B∧B.links.length≤890∧(∀c,(lk B.links c).length≤61)∧∀H' ls,BkAt K T.c_Book H' b dx k bi li ti su { B with links:=ls }->(∀c,lk ls c=Xl (lk B.links) n f m c)->ls.length≤B.links.length+4->But [bi,li] H H'->Grows H B.links ls->Q .non H')
theorem Zmt:FnScope ["self","letter","name"] ["self","letter","name"] (Zu Zd3):=⟨rfl,rfl,rfl,by decide +kernel,rfl,by decide +kernel,by decide +kernel⟩
def Zjv (T:Tx K w mg):Sp:=fun vs H Q E=>vs.length=3∧(∃v x y B,vs=[v,x,y]∧BkHas K T.c_Book H v B∧((∃ty,Kd K H x ty∧W.kitOne K ty (.type "str")=some false∧E (.ref T.c_NoWay) none H)∨∃l,x=.str l∧(Ja l=false->E (.ref T.c_NoWay) none H)∧(Ja l=true->((∃ty,Kd K H y ty∧W.kitOne K ty (.type "str")=some false∧E (.ref T.c_NoPerson) none H)∨∃n,y=.str n∧(ZZ n B.kept=none->E (.ref T.c_NoPerson) none H)∧(Known B n->∀H' D,Same H H'->H D=none->H' D=some (.lst ((YA B l n).map V.str))->Q (.ref D) H')))))
theorem Zd2:FnScope ["self","one","other","day","ties","days"] ["self","one","other","day"] (Zu WN):=⟨rfl,rfl,rfl,by decide +kernel,rfl,by decide +kernel,by decide +kernel⟩
def Zlu (T:Tx K w mg):Sp:=fun vs H Q E=>vs.length=4∧(∃v a c B,vs=[v,.str a,.str c,.non]∧BkHas K T.c_Book H v B∧Known B a∧Known B c∧(Yy B (Ze a c)).length≤900∧∀H',Same H H'->Q (.bl (Zar B a c)) H')
theorem Zat:FnScope ["self","entry","days","begin","end"] ["self","entry"] (Zu Zcn):=⟨rfl,rfl,rfl,by decide +kernel,rfl,by decide +kernel,by decide +kernel⟩
def Zo4 (T:Tx K w mg):Sp:=fun vs H Q E=>vs.length=2∧(∃b dx k bi li ti su B a kd p1 p2 d,vs=[.ref b,.ref a]∧SqT K H a [.str kd,.str p1,.str p2,.int d]∧BkAt K T.c_Book H b dx k bi li ti su B∧Known B p1∧Known B p2∧(B.ties.map (·.1)).Nodup∧B.ties.length≤800∧(Yy B (Ze p1 p2)).length≤800∧B.links.length≤880∧(∀c,(lk B.links c).length≤60)∧∀H' ls ts y,BkAt K T.c_Book H' b dx k bi li ti su { B with links:=ls,ties:=ts }->(ts.map (·.1)).Nodup->ts.length≤B.ties.length+1->(∀c,YU ts c=if c=Ze p1 p2 then Zo (Yy B (Ze p1 p2)) d kd else Yy B c)->(∀c,lk ls c=ZH (ZH (lk B.links) (YI (Zo (Yy B (Ze p1 p2)) d kd)) p1 p2) (YI (Zo (Yy B (Ze p1 p2)) d kd)) p2 p1 c)->ls.length≤B.links.length+4->But [li,ti,y] H H'->(H y=none∨y∈B.ties.map (·.2.1))->GrowsT H B.ties ts->Grows H B.links ls->Q .non H')
theorem Zdh:FnScope ["self","entry","told","given"] ["self","entry"] (Zu ZcL):=⟨rfl,rfl,rfl,by decide +kernel,rfl,by decide +kernel,by decide +kernel⟩
def ZoR (T:Tx K w mg):Sp:=fun vs H Q E=>vs.length=2∧(∃b dx k bi li ti su B x e,vs=[.ref b,x]∧BkAt K T.c_Book H b dx k bi li ti su B∧EntAt K H x e∧e.Ok∧XY B e=none∧Room1 B∧∀H' B' y,BkAt K T.c_Book H' b dx k bi li ti su B'->Put B e B'->But [k,bi,li,ti,su,y] H H'->(H y=none∨y=bi∨y∈B.ties.map (·.2.1))->Grows H B.links B'.links->GrowsT H B.ties B'.ties->Q .non H')
theorem ZiT:FnScope ["thing"] ["thing"] (Zu Zck):=⟨rfl,rfl,rfl,by decide +kernel,rfl,by decide +kernel,by decide +kernel⟩
def Zi5 (T:Tx K w mg):Sp:=fun vs H Q E=>vs.length=1∧(∃x,vs=[.str x]∧Q (.bl (VQ x)) H)
theorem Zm5:FnScope ["self"] ["self"] (Zu Zcg):=⟨rfl,rfl,rfl,by decide +kernel,rfl,by decide +kernel,by decide +kernel⟩
def ZnI (T:Tx K w mg):Sp:=fun vs H Q E=>vs.length=1∧(∃o dx,vs=[.ref o]∧H o=some (.ins T.c_Tree dx [])∧∀H' dl sl pl tl ul,TrAt T.c_Tree H' o dx dl sl pl tl ul UO->But [o] H H'->H dl=none->H sl=none->H pl=none->H tl=none->H ul=none->Q .non H')
theorem Zjd:FnScope ["self","number","sort"] ["self","number","sort"] (Zu Zca):=⟨rfl,rfl,rfl,by decide +kernel,rfl,by decide +kernel,by decide +kernel⟩
def ZiM (T:Tx K w mg):Sp:=fun vs H Q E=>vs.length=3∧(∃(o dx dl sl pl tl ul:Addr) (t:Tr) (i:Nat) (s:Str),vs=[.ref o,.int i,.str s]∧TrAt T.c_Tree H o dx dl sl pl tl ul t∧i<t.sorts.length∧TrOk t∧∀H',But [o,sl] H H'->TrAt T.c_Tree H' o dx dl sl pl tl ul (t.ask i s)->Q .non H')
theorem ZnQ:FnScope ["self","later"] ["self","later"] (Zu Zci):=⟨rfl,rfl,rfl,by decide +kernel,rfl,by decide +kernel,by decide +kernel⟩
def ZoF (T:Tx K w mg):Sp:=fun vs H Q E=>vs.length=2∧(∃(o dx dl sl pl tl ul:Addr) (t:Tr) (k:Int),vs=[.ref o,.int k]∧TrAt T.c_Tree H o dx dl sl pl tl ul t∧TrOk t∧∀H',But [o,dl,sl] H H'->TrAt T.c_Tree H' o dx dl sl pl tl ul (t.grow k)->Q (.int t.days.length) H')
theorem Zib:FnScope ["self","letter","child"] ["self","letter"] (Zu Zdt):=⟨rfl,rfl,rfl,by decide +kernel,rfl,by decide +kernel,by decide +kernel⟩
def Zpe (T:Tx K w mg):Sp:=fun vs H Q E=>vs.length=2∧(∃(o dx dl sl pl tl ul:Addr) (t:Tr) (l:Str),vs=[.ref o,.str l]∧TrAt T.c_Tree H o dx dl sl pl tl ul t∧TrOk t∧t.days.length≤50∧t.par.length≤50∧(l="F"∨l="M")∧∀H',But [o,dl,sl,pl] H H'->TrAt T.c_Tree H' o dx dl sl pl tl ul (t.goUp l)->Q .non H')
theorem Zhy:FnScope ["self","step","begin"] ["self","step"] (Zu ZbE):=⟨rfl,rfl,rfl,by decide +kernel,rfl,by decide +kernel,by decide +kernel⟩
def Zpf (T:Tx K w mg):Sp:=fun vs H Q E=>vs.length=2∧(∃(o dx dl sl pl tl ul:Addr) (t:Tr) (s:Str),vs=[.ref o,.str s]∧TrAt T.c_Tree H o dx dl sl pl tl ul t∧TrOk t∧t.days.length≤50∧t.par.length≤50∧t.tak.length≤50∧t.uni.length≤50∧s∈Zq∧∀H',But [o,dl,sl,pl,tl,ul] H H'->TrAt T.c_Tree H' o dx dl sl pl tl ul (t.go s)->Q .non H')
theorem Zo2:FnScope ["number"] ["number"] (Zu ZdO):=⟨rfl,rfl,rfl,by decide +kernel,rfl,by decide +kernel,by decide +kernel⟩
def Zny (T:Tx K w mg):Sp:=fun vs H Q E=>vs.length=1∧(∃i:Nat,vs=[.int i]∧i<26∧Q (.str (Zg i)) H)
theorem Zo1:FnScope ["tree","letter","number"] ["tree","letter","number"] (Zu ZcJ):=⟨rfl,rfl,rfl,by decide +kernel,rfl,by decide +kernel,by decide +kernel⟩
def ZiI (T:Tx K w mg):Sp:=fun vs H Q E=>vs.length=3∧(∃(o dx dl sl pl tl ul:Addr) (t:Tr) (l:Str) (i:Nat),vs=[.ref o,.str l,.int i]∧TrAt T.c_Tree H o dx dl sl pl tl ul t∧(∀q∈t.par,q.2<26)∧∀H',Same H H'->Q (.str (Z9 t l i)) H')
theorem Zdc:FnScope ["tree","number","father","mother"] ["tree","number"] (Zu Zds):=⟨rfl,rfl,rfl,by decide +kernel,rfl,by decide +kernel,by decide +kernel⟩
def Zk3 (T:Tx K w mg):Sp:=fun vs H Q E=>vs.length=2∧(∃(o dx dl sl pl tl ul:Addr) (t:Tr) (i:Nat),vs=[.ref o,.int i]∧TrAt T.c_Tree H o dx dl sl pl tl ul t∧TrOk t∧(∀q∈t.par,q.2<26)∧i<t.days.length∧i<26∧∀H' a,Same H H'->H a=none->H' a=some (.tup ((X7 t i).row.map kV))->Q (.ref a) H')
theorem Vp:FnScope ["tree","book","number","day","child","taker","one","other"] ["tree"] (Zu Jq):=⟨rfl,rfl,rfl,by decide +kernel,rfl,by decide +kernel,by decide +kernel⟩
def ZmX (T:Tx K w mg):Sp:=fun vs H Q E=>vs.length=1∧(∃(o dx dl sl pl tl ul:Addr) (t:Tr) (k:Nat),vs=[.ref o]∧TrAt T.c_Tree H o dx dl sl pl tl ul t∧TI t k∧k≤24∧t.tak.length+t.uni.length≤24∧t.clash=false∧Xr T.tb2 H∧∀H' b B,SameX H H'->Lams T.tb2 H H'->Xr T.tb2 H'->BkHas K T.c_Book H' (.ref b) B->BT t B->Q (.ref b) H')
theorem Zbp:FnScope ["way","tree","step"] ["way"] (Zu ZbN):=⟨rfl,rfl,rfl,by decide +kernel,rfl,by decide +kernel,by decide +kernel⟩
def Zke (T:Tx K w mg):Sp:=fun vs H Q E=>vs.length=1∧(∃(p:Addr) (way:List Str),vs=[.ref p]∧SqT K H p (way.map V.str)∧(∀s∈way,s∈Zq)∧way.length≤24∧Xr T.tb2 H∧(∀H',SameX H H'->Lams T.tb2 H H'->Xr T.tb2 H'->(YF way).clash=true->Q .non H')∧∀H' a b B,SameX H H'->Lams T.tb2 H H'->Xr T.tb2 H'->(YF way).clash=false->H' a=some (.tup [.ref b,.str (Zg 0),.str (Zg (YF way).here)])->BkHas K T.c_Book H' (.ref b) B->BT (YF way) B->Q (.ref a) H')
theorem Zk6:FnScope ["book","step","name"] ["book","step","name"] (Zu ZdG):=⟨rfl,rfl,rfl,by decide +kernel,rfl,by decide +kernel,by decide +kernel⟩
def ZmG (T:Tx K w mg):Sp:=fun vs H Q E=>vs.length=3∧(∃v s n B,vs=[v,.str s,.str n]∧BkHas K T.c_Book H v B∧s∈Zq∧Known B n∧∀H' D',Same H H'->H D'=none->H' D'=some (.lst ((YB B s n).map V.str))->Q (.ref D') H')
theorem U4:FnScope ["one","steps","lead","layers","step","came","name","reached"] ["one","steps","lead"] (Zu Zce):=⟨rfl,rfl,rfl,by decide +kernel,rfl,by decide +kernel,by decide +kernel⟩
def Zkq (T:Tx K w mg):Sp:=fun vs H Q E=>vs.length=3∧(∃one p f b way B pool,vs=[.str one,.ref p,.ref f]∧Zoa f b H∧SqT K H p (way.map V.str)∧(∀s∈way,s∈Zq)∧BkHas K T.c_Book H (.ref b) B∧Clo B pool∧Known B one∧way.length≤100∧∀H' D' (ds:List V) (d:Addr) (ks:List (Str×V)),Same H H'->H D'=none->H' D'=some (.lst (ds++[.ref d]))->H' d=some (.dK (ks.map fun p=>(.inr p.1,p.2)))->(ks.map (·.1)).Nodup->(∀x,x∈ks.map (·.1)↔XO (YB B) way (·=one) x)->Q (.ref D') H')
theorem ZkV:FnScope ["book","way","name"] ["book","way","name"] (Zu Jf):=⟨rfl,rfl,rfl,by decide +kernel,rfl,by decide +kernel,by decide +kernel⟩
def Zpo (T:Tx K w mg):Sp:=fun vs H Q E=>vs.length=3∧(∃v p x way B,vs=[v,.ref p,x]∧BkHas K T.c_Book H v B∧WD T.tb H∧SqT K H p (way.map V.str)∧((Zjn K H B x∧E (.ref T.c_NoPerson) none H)∨∃n pool,x=.str n∧Known B n∧Clo B pool∧(∀s∈way,s∈Zq)∧way.length≤100∧∀H' D' xs,SameX H H'->Lams T.tb H H'->WD T.tb H'->H D'=none->H' D'=some (.lst (xs.map V.str))->SrtOf (XO (YB B) way (·=n)) xs->Q (.ref D') H'))
theorem Zj3:FnScope ["told","way"] ["told","way"] (Zu Zcz):=⟨rfl,rfl,rfl,by decide +kernel,rfl,by decide +kernel,by decide +kernel⟩
def Zk2 (T:Tx K w mg):Sp:=fun vs H Q E=>vs.length=2∧(∃(a p b:Addr) (x y:Str) (way pool:List Str) (B:Bk),vs=[.ref a,.ref p]∧H a=some (.tup [.ref b,.str x,.str y])∧BkHas K T.c_Book H (.ref b) B∧SqT K H p (way.map V.str)∧(∀s∈way,s∈Zq)∧way.length≤24∧Known B x∧Clo B pool∧WD T.tb H∧∀H' r,SameX H H'->Lams T.tb H H'->WD T.tb H'->(r=true↔XO (YB B) way (·=x) y)->Q (.bl r) H')
theorem Zie:FnScope ["one","other","told"] ["one","other"] (Zu ZdW):=⟨rfl,rfl,rfl,by decide +kernel,rfl,by decide +kernel,by decide +kernel⟩
def Zko (T:Tx K w mg):Sp:=fun vs H Q E=>vs.length=2∧(∃(p1 p2:Addr) (w1 w2:List Str),vs=[.ref p1,.ref p2]∧SqT K H p1 (w1.map V.str)∧(∀s∈w1,s∈Zq)∧w1.length≤24∧SqT K H p2 (w2.map V.str)∧(∀s∈w2,s∈Zq)∧w2.length≤24∧WD T.tb H∧Xr T.tb2 H∧∀H' r,SameX H H'->WD T.tb H'->Xr T.tb2 H'->(r=true↔V8 w1 w2)->Q (.bl r) H')
theorem Zma:FnScope ["_law_script","_law_k"] ["_law_script","_law_k"] (Zu ZcW):=⟨rfl,rfl,rfl,by decide +kernel,rfl,by decide +kernel,by decide +kernel⟩
def Zi0 (T:Tx K w mg):Sp:=fun vs H Q E=>vs.length=2∧(∃(l:Addr) (ns:List Int) (k:Int),vs=[.ref l,.int k]∧SqL K H l (ns.map V.int)∧0≤k∧∀z,Q (.int z) H)
theorem Wr:FnScope ["_law_cells","_law_way","_law_sort","_law_cell","_law_step","_law_last"] ["_law_cells"] (Zu ZbW):=⟨rfl,rfl,rfl,by decide +kernel,rfl,by decide +kernel,by decide +kernel⟩
def ZlZ (T:Tx K w mg):Sp:=fun vs H Q E=>vs.length=1∧(∃(l:Addr) (cs:List Int),vs=[.ref l]∧SqL K H l (cs.map V.int)∧cs.length≤12∧∀H' p' (way':List Str),Same H H'->SqT K H' p' (way'.map V.str)->(∀s∈way',s∈Zq)->way'.length=cs.length->Q (.ref p') H')
theorem Zam:FnScope ["_law_way","_law_sort","_law_step","_law_wanted"] ["_law_way"] (Zu ZcP):=⟨rfl,rfl,rfl,by decide +kernel,rfl,by decide +kernel,by decide +kernel⟩
def Zky (T:Tx K w mg):Sp:=fun vs H Q E=>vs.length=1∧(∃(p:Addr) (way:List Str),vs=[.ref p]∧SqT K H p (way.map V.str)∧(∀s∈way,s∈Zq)∧way.length≤24∧∀H',Same H H'->Q (.bl (nv "" way)) H')
theorem Zja:FnScope ["_law_step"] ["_law_step"] (Zu Zco):=⟨rfl,rfl,rfl,by decide +kernel,rfl,by decide +kernel,by decide +kernel⟩
def ZiQ (T:Tx K w mg):Sp:=fun vs H Q E=>vs.length=1∧(∃s:Str,vs=[.str s]∧s∈Zq∧∀H',Same H H'->Q (.str (Yu s)) H')
theorem ZnM:FnScope ["_law_way"] ["_law_way"] (Zu Zdr):=⟨rfl,rfl,rfl,by decide +kernel,rfl,by decide +kernel,by decide +kernel⟩
def Zoz (T:Tx K w mg):Sp:=fun vs H Q E=>vs.length=1∧(∃(p:Addr) (way:List Str),vs=[.ref p]∧SqT K H p (way.map V.str)∧(∀s∈way,s∈Zq)∧way.length≤24∧∀H' p',Same H H'->SqT K H' p' ((YT way).map V.str)->Q (.ref p') H')
theorem ZaC:FnScope ["_law_way","_law_start","_law_rows","_law_k","_law_at","_law_row"] ["_law_way","_law_start","_law_rows"] (Zu ZdS):=⟨rfl,rfl,rfl,by decide +kernel,rfl,by decide +kernel,by decide +kernel⟩
def ZoC (T:Tx K w mg):Sp:=fun vs H Q E=>vs.length=3∧(∃(p l:Addr) (st:Nat) (way:List Str) (rows:List (List Str)),vs=[.ref p,.int st,.ref l]∧SqT K H p (way.map V.str)∧(∀s∈way,s∈Zq)∧way.length≤24∧st<way.length∧Zh4 K H l rows∧∀H' (r:Int),Same H H'->(r=-1∨∃(a:Nat) (row:List Str),r=a∧a<way.length∧row∈rows∧(way.drop a).take row.length=row)->Q (.int r) H')
theorem UG:FnScope ["_law_way","_law_cell","_law_start","_law_step","_law_at"] ["_law_way","_law_cell"] (Zu Zdg):=⟨rfl,rfl,rfl,by decide +kernel,rfl,by decide +kernel,by decide +kernel⟩
def Zlm (T:Tx K w mg):Sp:=fun vs H Q E=>vs.length=2∧(∃(p:Addr) (c:Int) (way:List Str),vs=[.ref p,.int c]∧SqT K H p (way.map V.str)∧(∀s∈way,s∈Zq)∧way.length≤24∧∀H' p' (way':List Str),Same H H'->SqT K H' p' (way'.map V.str)->(∀s∈way',s∈Zq)->Wd way way'->way'.length≤way.length+2->Q (.ref p') H')
theorem Vn:FnScope ["_law_script","_law_ways","_law_cell","_law_nevers","_law_none","_law_k","_law_way","_law_found"] ["_law_script"] (Zu Zdq):=⟨rfl,rfl,rfl,by decide +kernel,rfl,by decide +kernel,by decide +kernel⟩
def Zeo (T:Tx K w mg):Sp:=fun vs H Q E=>vs.length=1∧(Zaq K T.tb T.tb2 vs H Q E)
abbrev ZbL (P:Program) (base:Heap) (T:Tx K w mg):Prop:=FnOk P w K mg base (Zz P w) 1 T.Wo.a (ZA K T.Wo.a) ["thing"] (ZjW T)
abbrev Zdy (P:Program) (base:Heap) (T:Tx K w mg):Prop:=FnOk P w K mg base (Zz P w) 1 T.YE.a (ZA K T.YE.a) ["thing"] (ZfE T)
abbrev Zff (P:Program) (base:Heap) (T:Tx K w mg):Prop:=FnOk P w K mg base (Zz P w) 2 T.Xn.a (ZA K T.Xn.a) ["thing"] (ZgS T)
abbrev Ze3 (P:Program) (base:Heap) (T:Tx K w mg):Prop:=FnOk P w K mg base (Zz P w) 2 T.WA.a (ZA K T.WA.a) ["thing"] (ZgB T)
abbrev Zek (P:Program) (base:Heap) (T:Tx K w mg):Prop:=FnOk P w K mg base (Zz P w) 1 T.WL.a (ZA K T.WL.a) ["thing"] (ZgD T)
abbrev Ze5 (P:Program) (base:Heap) (T:Tx K w mg):Prop:=FnOk P w K mg base (Zz P w) 2 T.X3.a (ZA K T.X3.a) ["thing"] (ZgP T)
abbrev Zg6 (P:Program) (base:Heap) (T:Tx K w mg):Prop:=FnOk P w K mg base (Zz P w) 3 T.Uh.a (ZA K T.Uh.a) ["parts","checks"] (Znk T)
abbrev Zg9 (P:Program) (base:Heap) (T:Tx K w mg):Prop:=FnOk P w K mg base (Zz P w) 4 T.Ul.a (ZA K T.Ul.a) ["thing"] (ZoX T)
abbrev Zbw (P:Program) (base:Heap) (T:Tx K w mg):Prop:=FnOk P w K mg base (Zz P w) 1 T.WF.a (ZA K T.WF.a) ["entry"] (Zob T)
abbrev Zbq (P:Program) (base:Heap) (T:Tx K w mg):Prop:=FnOk P w K mg base (Zz P w) 1 T.Wm.a (ZA K T.Wm.a) ["entry"] (ZlJ T)
abbrev Zhl (P:Program) (base:Heap) (T:Tx K w mg):Prop:=FnOk P w K mg base (Zz P w) 1 T.VZ.a (ZA K T.VZ.a) ["entry"] (ZnV T)
abbrev Zbn (P:Program) (base:Heap) (T:Tx K w mg):Prop:=FnOk P w K mg base (Zz P w) 2 T.Wn.a (ZA K T.Wn.a) ["entry"] (Zo0 T)
abbrev Zcu (P:Program) (base:Heap) (T:Tx K w mg):Prop:=FnOk P w K mg base (Zz P w) 3 T.Wx.a (ZA K T.Wx.a) ["entry"] (Zjq T)
abbrev ZfZ (P:Program) (base:Heap) (T:Tx K w mg):Prop:=FnOk P w K mg base (Zz P w) 1 T.V7.a (ZA K T.V7.a) ["thing"] (ZoU T)
abbrev ZdR (P:Program) (base:Heap) (T:Tx K w mg):Prop:=FnOk P w K mg base (Zz P w) 1 T.WB.a (ZA K T.WB.a) ["one","other"] (Zpy T)
abbrev ZeQ (P:Program) (base:Heap) (T:Tx K w mg):Prop:=FnOk P w K mg base (Zz P w) 1 T.Jb.a (ZA K T.Jb.a) ["self"] (ZmO T)
abbrev UX (P:Program) (base:Heap) (T:Tx K w mg):Prop:=FnOk P w K mg base (Zz P w) 1 T.Xh.a (ZA K T.Xh.a) ["self","name"] (ZiG T)
abbrev ZcI (P:Program) (base:Heap) (T:Tx K w mg):Prop:=FnOk P w K mg base (Zz P w) 2 T.Vr.a (ZA K T.Vr.a) ["self","name"] (Zl8 T)
abbrev ZaH (P:Program) (base:Heap) (T:Tx K w mg):Prop:=FnOk P w K mg base (Zz P w) 2 T.Xy.a (ZA K T.Xy.a) ["self","name"] (ZkK T)
abbrev Zgj (P:Program) (base:Heap) (T:Tx K w mg):Prop:=FnOk P w K mg base (Zz P w) 3 T.Vz.a (ZA K T.Vz.a) ["self","name","sort","day"] (ZnE T)
abbrev Zgy (P:Program) (base:Heap) (T:Tx K w mg):Prop:=FnOk P w K mg base (Zz P w) 4 T.UC.a (ZA K T.UC.a) ["self","entry"] (ZoB T)
abbrev Zgd (P:Program) (base:Heap) (T:Tx K w mg):Prop:=FnOk P w K mg base (Zz P w) 5 T.UD.a (ZA K T.UD.a) ["self","entry"] (ZpC T)
abbrev ZaV (P:Program) (base:Heap) (T:Tx K w mg):Prop:=FnOk P w K mg base (Zz P w) 1 T.Y2.a (ZA K T.Y2.a) ["self","letter","begin","end"] (ZoL T)
abbrev ZgH (P:Program) (base:Heap) (T:Tx K w mg):Prop:=FnOk P w K mg base (Zz P w) 2 T.Jk.a (ZA K T.Jk.a) ["self","entry"] (Zkn T)
abbrev ZcD (P:Program) (base:Heap) (T:Tx K w mg):Prop:=FnOk P w K mg base (Zz P w) 2 T.VC.a (ZA K T.VC.a) ["self","letter","name"] (Zjv T)
abbrev ZfM (P:Program) (base:Heap) (T:Tx K w mg):Prop:=FnOk P w K mg base (Zz P w) 2 T.a_Book_stands T.fd_Book_stands ["self","one","other","day"] (Zlu T)
abbrev Zft (P:Program) (base:Heap) (T:Tx K w mg):Prop:=FnOk P w K mg base (Zz P w) 3 T.US.a (ZA K T.US.a) ["self","entry"] (Zo4 T)
abbrev Zes (P:Program) (base:Heap) (T:Tx K w mg):Prop:=FnOk P w K mg base (Zz P w) 6 T.WC.a (ZA K T.WC.a) ["self","entry"] (ZoR T)
abbrev Zdu (P:Program) (base:Heap) (T:Tx K w mg):Prop:=FnOk P w K mg base (Zz P w) 1 T.Ws.a (ZA K T.Ws.a) ["thing"] (Zi5 T)
abbrev ZfI (P:Program) (base:Heap) (T:Tx K w mg):Prop:=FnOk P w K mg base (Zz P w) 1 T.U1.a (ZA K T.U1.a) ["self"] (ZnI T)
abbrev ZdT (P:Program) (base:Heap) (T:Tx K w mg):Prop:=FnOk P w K mg base (Zz P w) 1 T.WH.a (ZA K T.WH.a) ["self","number","sort"] (ZiM T)
abbrev ZdQ (P:Program) (base:Heap) (T:Tx K w mg):Prop:=FnOk P w K mg base (Zz P w) 1 T.Xs.a (ZA K T.Xs.a) ["self","later"] (ZoF T)
abbrev ZgL (P:Program) (base:Heap) (T:Tx K w mg):Prop:=FnOk P w K mg base (Zz P w) 2 T.UE.a (ZA K T.UE.a) ["self","letter"] (Zpe T)
abbrev ZeI (P:Program) (base:Heap) (T:Tx K w mg):Prop:=FnOk P w K mg base (Zz P w) 3 T.UB.a (ZA K T.UB.a) ["self","step"] (Zpf T)
abbrev Ju (P:Program) (base:Heap) (T:Tx K w mg):Prop:=FnOk P w K mg base (Zz P w) 1 T.Yl.a (ZA K T.Yl.a) ["number"] (Zny T)
abbrev Zfr (P:Program) (base:Heap) (T:Tx K w mg):Prop:=FnOk P w K mg base (Zz P w) 2 T.Wt.a (ZA K T.Wt.a) ["tree","letter","number"] (ZiI T)
abbrev Zf6 (P:Program) (base:Heap) (T:Tx K w mg):Prop:=FnOk P w K mg base (Zz P w) 3 T.Ug.a (ZA K T.Ug.a) ["tree","number"] (Zk3 T)
abbrev Zhj (P:Program) (base:Heap) (T:Tx K w mg):Prop:=FnOk P w K mg base (Zz P w) 7 T.VN.a (ZA K T.VN.a) ["tree"] (ZmX T)
abbrev Zgh (P:Program) (base:Heap) (T:Tx K w mg):Prop:=FnOk P w K mg base (Zz P w) 8 T.Uy.a (ZA K T.Uy.a) ["way"] (Zke T)
abbrev ZdY (P:Program) (base:Heap) (T:Tx K w mg):Prop:=FnOk P w K mg base (Zz P w) 3 T.VW.a (ZA K T.VW.a) ["book","step","name"] (ZmG T)
abbrev ZhT (P:Program) (base:Heap) (T:Tx K w mg):Prop:=FnOk P w K mg base (Zz P w) 5 T.Uu.a (ZA K T.Uu.a) ["one","steps","lead"] (Zkq T)
abbrev Zgp (P:Program) (base:Heap) (T:Tx K w mg):Prop:=FnOk P w K mg base (Zz P w) 6 T.VH.a (ZA K T.VH.a) ["book","way","name"] (Zpo T)
abbrev ZhM (P:Program) (base:Heap) (T:Tx K w mg):Prop:=FnOk P w K mg base (Zz P w) 7 T.V2.a (ZA K T.V2.a) ["told","way"] (Zk2 T)
abbrev Zhf (P:Program) (base:Heap) (T:Tx K w mg):Prop:=FnOk P w K mg base (Zz P w) 9 T.Yv.a (ZA K T.Yv.a) ["one","other"] (Zko T)
abbrev Zhr (P:Program) (base:Heap) (T:Tx K w mg):Prop:=FnOk P w K mg base (Zz P w) 1 T.Um.a (ZA K T.Um.a) ["_law_script","_law_k"] (Zi0 T)
abbrev ZeE (P:Program) (base:Heap) (T:Tx K w mg):Prop:=FnOk P w K mg base (Zz P w) 1 T.VP.a (ZA K T.VP.a) ["_law_cells"] (ZlZ T)
abbrev ZfQ (P:Program) (base:Heap) (T:Tx K w mg):Prop:=FnOk P w K mg base (Zz P w) 1 T.V3.a (ZA K T.V3.a) ["_law_way"] (Zky T)
abbrev Zcw (P:Program) (base:Heap) (T:Tx K w mg):Prop:=FnOk P w K mg base (Zz P w) 1 T.Wq.a (ZA K T.Wq.a) ["_law_step"] (ZiQ T)
abbrev Zh3 (P:Program) (base:Heap) (T:Tx K w mg):Prop:=FnOk P w K mg base (Zz P w) 2 T.WE.a (ZA K T.WE.a) ["_law_way"] (Zoz T)
abbrev ZeA (P:Program) (base:Heap) (T:Tx K w mg):Prop:=FnOk P w K mg base (Zz P w) 1 T.XB.a (ZA K T.XB.a) ["_law_way","_law_start","_law_rows"] (ZoC T)
abbrev Zfj (P:Program) (base:Heap) (T:Tx K w mg):Prop:=FnOk P w K mg base (Zz P w) 2 T.Ux.a (ZA K T.Ux.a) ["_law_way","_law_cell"] (Zlm T)
abbrev Zhg (P:Program) (base:Heap) (T:Tx K w mg):Prop:=FnOk P w K mg base (Zz P w) 10 T.VU.a (ZA K T.VU.a) ["_law_script"] (Zeo T)
theorem Zlb:(["name"]:List Str).Nodup:=by decide +kernel
theorem Zkt:(["name","entry","self"]:List Str).Nodup:=by decide +kernel
theorem Zlp:(["tied_on","day"]:List Str).Nodup:=by decide +kernel
theorem ZjQ:(["name","end"]:List Str).Nodup:=by decide +kernel
theorem Zmq:(["_law_step"]:List Str).Nodup:=by decide +kernel
end
section
variable {K:W.Frag} {mg:Str->Option Value}
def spC (K:W.Frag) (f:Vk->Bool):Sp:=fun vs H Q _=>vs.length=1∧∃x t,vs=[x]∧Vw K H x t∧∀H',Same H H'->Q (.bl (f t)) H'
def Fam (T:Tx K w mg):Addr->Sp->Prop:=fun f sp=>∃c,f=T.ad c∧sp=spC K (Je c)
theorem ZmH {P:Program} {w:World} {base:Heap} {X:Cx} (T:Tx K w mg) (h1:FnOk P w K mg base (Zz P w) 1 T.YE.a (ZA K T.YE.a) ["thing"] (ZfE T)) (h2:FnOk P w K mg base (Zz P w) 1 T.WL.a (ZA K T.WL.a) ["thing"] (ZgD T))
  (h3:FnOk P w K mg base (Zz P w) 2 T.Xn.a (ZA K T.Xn.a) ["thing"] (ZgS T)) (h4:FnOk P w K mg base (Zz P w) 2 T.WA.a (ZA K T.WA.a) ["thing"] (ZgB T)) (h5:FnOk P w K mg base (Zz P w) 2 T.X3.a (ZA K T.X3.a) ["thing"] (ZgP T))
  (hr:Room 2 X.A) (e1:X.prog=P) (e2:X.w=w) (e3:X.K=K) (e4:X.mg=mg) (e5:X.base=base):Zhq X (Zz P w) (Fam T):=by
 subst e1 e2 e3 e4 e5;rintro f sp ⟨c,rfl,rfl⟩;cases c with
 |name=>exact ⟨1,_,_,h1,hr.mono (by decide),T.YE.F.kp,T.YE.b⟩
 |sort=>exact ⟨1,_,_,h2,hr.mono (by decide),T.WL.F.kp,T.WL.b⟩
 |day=>exact ⟨2,_,_,h3,hr,T.Xn.F.kp,T.Xn.b⟩
 |amount=>exact ⟨2,_,_,h4,hr,T.WA.F.kp,T.WA.b⟩
 |parent=>exact ⟨2,_,_,h5,hr,T.X3.F.kp,T.X3.b⟩
end
section
variable {P:Program} {w:World} {K:W.Frag} {mg:Str->Option Value} {base:Heap}
theorem Znb (T:Tx K w mg)  : ZbL P base T:=by
 refine Fun.okX (k:=0) T.Wo.F Zk4 (fun vs H Q E h=>h.1) (fun cdv A outer s H vs Q E hr h=>?_);obtain ⟨-,h⟩:=h;obtain ⟨x,t,rfl,hv,q⟩:=h;refine ⟨_,(Zk (Zw (Wk (Wj K (by rfl) T.n_isinstance (Za (pv 0) (Za (X8 (v:=.ty "int") (by rfl) T.n_int ZmD rfl) Zb))) (XI (ZpG (Wj K (by rfl) T.n_isinstance (Za (pv 0) (Za (X8 (v:=.ty "bool") (by rfl) T.n_bool Zgl rfl) Zb)))))))),?_⟩;refine ⟨_,rfl,_,.ty "int",_,_,rfl,rfl,hv.kd,kI T t,_,rfl,?_⟩;cases t with
 |int i=>exact Z1 ⟨_,rfl,_,.ty "bool",_,_,rfl,rfl,hv.kd,T.k_int_bool,_,rfl,q _ (Same.refl H)⟩
 |bl=>exact Z1 ⟨_,rfl,_,.ty "bool",_,_,rfl,rfl,hv.kd,T.k_bool_bool,_,rfl,q _ (Same.refl H)⟩
 |_=>exact ZW (q _ (Same.refl H))
theorem ZnR (T:Tx K w mg)  : Zdy P base T:=by
 refine Fun.okX (k:=0) T.YE.F ZiU (fun vs H Q E h=>h.1) (fun cdv A outer s H vs Q E hr h=>?_);obtain ⟨-,h⟩:=h;obtain ⟨x,t,rfl,hv,q⟩:=h
 refine ⟨_,(Zn (ZJ (PW.pt (WU (W2 (Xx (Wj K (by rfl) T.n_isinstance (Za (pv 0) (Za (X8 (v:=.ty "str") (by rfl) T.n_str Uw rfl) Zb))))) (WU (ZE UT (Yk Zhk (by rfl) T.n_len Y6 (Za (pv 0) Zb)) Zi (Zy _)) (Vo (ZE ZbD (Yk Zhk (by rfl) T.n_len Y6 (Za (pv 0) Zb)) Zi (Zy _)))))) (Zk (Zw YR)) ZT)
   (Zk (Zw (Yk (Zb0 rfl) (by rfl) T.n_all Zcj (Za (U7 (N:=["sign"]) (cl:=[]) (σc:=fun _=>[none]) rfl (ZfB (L:=[(".0",.local),("sign",.local),("LETTERS",.globalImplicit)]) (by rfl) (by decide +kernel) (by decide +kernel) (by rfl) (by rfl) (by decide) (by rfl) (by simp)) (Zo7 (pv 0)) (fun _ _ _=>(Yo (i:=0) Jt rfl (Or.inl rfl))) (fun _ _ _=>ZaR) (fun _ _ _=>(YZ Zld (pv 0) (Xv (v:=.str Zd5) (by rfl) T.m_LETTERS ⟨_,rfl⟩) (by rfl)))) Zb))))),?_⟩
 refine ⟨_,rfl,_,.ty "str",_,_,rfl,rfl,hv.kd,kS T t,_,rfl,?_⟩;cases t with
 |str z =>
  obtain ⟨e,hz⟩:=hv;subst e;have hs:z.length≤sizeLine:=QN (ZK (by omega));refine ZW ⟨_,rfl,z,rfl,hs,_,_,rfl,rfl,_,rfl,?_⟩;by_cases h1:((z.length:Nat):Int)<1
  ·rw [Qw h1]
   have e:W8 (.str z)=false:=by
    rw [Zc8];rw [Qm (show ¬1≤z.length by omega)];rfl
   rw [e] at q;exact Z1 (q _ (Same.refl H))
  rw [Qm h1];refine ZW ⟨_,rfl,z,rfl,hs,_,_,rfl,rfl,_,rfl,?_⟩;by_cases h2:(8:Int)<((z.length:Nat):Int)
  ·rw [Qw h2]
   have e:W8 (.str z)=false:=by
    rw [Zc8];rw [Qm (show ¬z.length≤8 by omega),Np];rfl
   rw [e] at q;exact Z1 (q _ (Same.refl H))
  rw [Qm h2]
  have e:W8 (.str z)=(z.cps.toList.map W5).all id:=by
   rw [Zc8];rw [Qw (show 1≤z.length by omega),Qw (show z.length≤8 by omega),GM];rfl
  rw [e] at q;have hl:z.cps.size=z.length:=rfl;refine ZW ⟨_,rfl,z,rfl,?_⟩;refine Za5 ((z.cps.toList.map W5).map V.bl) (by simp only [Qd,RY];exact RM (Nat.le_of_eq hl) (ZK (by omega))) (fun σ=>∃o,σ=[o]) ⟨none,rfl⟩ ?_ ?_ ?_ ?_
  ·intro i H2 hi _;show i<z.cps.size;simpa using hi
  ·intro H2 _;show (((z.cps.toList.map W5).map V.bl).length:Nat)=z.cps.size;simp
  ·rintro i σ H2 v H3 y hy ⟨o,rfl⟩ s2 ⟨e3,c,hc,ev⟩ C hC;subst e3 ev
   have ey:y=.bl (W5 c):=by
    have hc':z.cps.toList[i]?=some c:=by simpa using hc
    rw [QA,QA,hc'] at hy;exact (Qo hy).symm
   subst ey;exact ⟨_,rfl,_,_,rfl,rfl,hC _ _ ⟨_,rfl⟩ (Same.refl _)⟩
  ·intro D H2 hD s2 hl2;exact ⟨D,_,rfl,hl2,q _ s2⟩
 |_=>exact Z1 (q _ (Same.refl H))
theorem Znf (T:Tx K w mg) (UY:ZbL P base T):Zff P base T:=by
 refine Fun.okX (k:=1) T.Xn.F Znt (fun vs H Q E h=>h.1) (fun cdv A outer s H vs Q E hr h=>?_);obtain ⟨-,h⟩:=h;obtain ⟨x,t,rfl,hv,q⟩:=h;refine ⟨_,(Zk (Zw (Wk (ZM UY (hr.mono (by decide)) (by rfl) T.Wo.m T.Wo.F.kp T.Wo.b .nil Zt (Za (pv 0) Zb)) (XI (YZ Zda (Yk Zpw (by rfl) T.n_abs ZmP (Za (pv 0) Zb)) (ZU Zh7 Zi Zi) (Zy _)))))),?_⟩;refine ⟨_,rfl,rfl,x,t,rfl,hv,fun H1 s1=>⟨_,rfl,?_⟩⟩;cases t with
 |int i =>
  cases (show x=.int i from hv);exact Z1 ⟨_,rfl,i,rfl,_,_,rfl,rfl,(show ZdP 10 18 from ⟨by decide,by decide,by decide +kernel⟩),_,_,rfl,rfl,q _ s1⟩
 |_=>exact ZW (q _ s1)
theorem Zpu (T:Tx K w mg) (UY:ZbL P base T):Ze3 P base T:=by
 refine Fun.okX (k:=1) T.WA.F ZmM (fun vs H Q E h=>h.1) (fun cdv A outer s H vs Q E hr h=>?_);obtain ⟨-,h⟩:=h;obtain ⟨x,t,rfl,hv,q⟩:=h;refine ⟨_,(Zk (Zw (Wk (ZM UY (hr.mono (by decide)) (by rfl) T.Wo.m T.Wo.F.kp T.Wo.b .nil Zt (Za (pv 0) Zb)) (Wk (YZ JM (pv 0) Zi (Zy _)) (XI (YZ Zda (pv 0) (ZU Zh7 Zi Zi) (Zy _))))))),?_⟩;refine ⟨_,rfl,rfl,x,t,rfl,hv,fun H1 s1=>⟨_,rfl,?_⟩⟩;cases t with
 |int i =>
  cases (show x=.int i from hv);refine Z1 ⟨_,rfl,_,_,rfl,rfl,_,rfl,?_⟩;have q1:=q _ s1;rw [Zn7] at q1;by_cases h1:1≤i
  ·rw [Qw h1] at q1 ⊢;exact Z1 ⟨_,rfl,_,_,rfl,rfl,(show ZdP 10 18 from ⟨by decide,by decide,by decide +kernel⟩),_,_,rfl,rfl,q1⟩
  ·rw [Qm h1] at q1 ⊢;exact ZW q1
 |_=>exact ZW (q _ s1)
theorem Zjy (T:Tx K w mg)  : Zek P base T:=by
 refine Fun.okX (k:=0) T.WL.F Zn6 (fun vs H Q E h=>h.1) (fun cdv A outer s H vs Q E hr h=>?_);obtain ⟨-,h⟩:=h;obtain ⟨x,t,rfl,hv,q⟩:=h;refine ⟨_,(Zk (Zw (Wk (Wj K (by rfl) T.n_isinstance (Za (pv 0) (Za (X8 (v:=.ty "str") (by rfl) T.n_str Uw rfl) Zb))) (XI (YZ V6 (pv 0) (ZR (Za Zh (Za Zh (Za Zh Zb)))) (by rfl)))))),?_⟩;refine ⟨_,rfl,_,.ty "str",_,_,rfl,rfl,hv.kd,kS T t,_,rfl,?_⟩;cases t with
 |str z =>
  cases (show x=.str z from hv.1);refine Z1 ⟨_,rfl,by decide,fun p hp=>⟨p,_,rfl,.inr (.of Zf),rfl,rfl,?_⟩⟩
  have e:(if false=true then !XG (.str z) [.str "he",.str "she",.str ""] else XG (.str z) [.str "he",.str "she",.str ""])=Up (.str z):=by
   rw [Qa (by decide)];exact ZoG z
  rw [e];exact q _ (Zl hp)
 |_=>exact ZW (q _ (Same.refl H))
theorem ZmU (T:Tx K w mg) (Jp:Zdy P base T):Ze5 P base T:=by
 refine Fun.okX (k:=1) T.X3.F ZiH (fun vs H Q E h=>h.1) (fun cdv A outer s H vs Q E hr h=>?_);obtain ⟨-,h⟩:=h;obtain ⟨x,t,rfl,hv,q⟩:=h;refine ⟨_,(Zk (Zw (ZdD (ZM Jp (hr.mono (by decide)) (by rfl) T.YE.m T.YE.F.kp T.YE.b .nil Zt (Za (pv 0) Zb)) (XI (Wk (Wj K (by rfl) T.n_isinstance (Za (pv 0) (Za (X8 (v:=.ty "str") (by rfl) T.n_str Uw rfl) Zb))) (XI (YZ Yb (pv 0) Zh (Zy _)))))))),?_⟩;refine ⟨_,rfl,rfl,x,t,rfl,hv,fun H1 s1=>⟨_,rfl,?_⟩⟩;have q1:=q _ s1;unfold JQ at q1;cases hn:W8 t with
 |true =>
  rw [hn] at q1;exact Z1 q1
 |false =>
  rw [hn,Bool.false_or] at q1;refine ZW ⟨_,rfl,_,.ty "str",_,_,rfl,rfl,(hv.mono s1).kd,kS T t,_,rfl,?_⟩;cases t with
  |str z =>
   cases (show x=.str z from hv.1)
   have e:decide (V.str z=V.str "")=decide (z=""):=by
    rw [Q9];simp
   exact Z1 ⟨_,rfl,rfl,by rw [e];exact q1⟩
  |_=>exact ZW q1
theorem ZmQ (T:Tx K w mg) (Jp:Zdy P base T) (Zb3:Zff P base T) (Zcf:Ze3 P base T) (Zbm:Zek P base T) (Zbx:Ze5 P base T):Zg6 P base T:=by
 refine Fun.okX (k:=2) T.Uh.F Zl3 (fun vs H Q E h=>h.1) (fun cdv A outer s H vs Q E hr h=>?_);obtain ⟨-,h⟩:=h;obtain ⟨a,b,xs,ts,cs,rfl,ha,hx,hb,hc,q⟩:=h
 refine ⟨_,(Zn (ZJ (ZE XR (Yk XA (by rfl) T.n_len Y6 (Za (pv 0) Zb)) (Yk XA (by rfl) T.n_len Y6 (Za (pv 1) Zb)) (Zy _)) (Zk (Zw YR)) ZT)
   (Zk (Zw (Yk (Zb0 rfl) (by rfl) T.n_all Zcj (Za (U7 (N:=["check","part"]) (cl:=[]) (σc:=fun _=>[none,none]) rfl (ZfB (L:=[(".0",.local),("check",.local),("part",.local)]) (by rfl) (by decide +kernel) (by decide +kernel) (by rfl) (by rfl) (by decide) (by rfl) (by simp)) (ZiD K (by rfl) T.n_zip (Za (pv 1) (Za (pv 0) Zb))) (fun _ _ _=>(Zio (n:=2) K rfl (WQ (Yo (i:=0) Jl rfl (Or.inl rfl)) (WQ (Yo (i:=1) Jl rfl (Or.inl rfl)) Jw)))) (fun _ _ _=>ZaR) (fun _ _ _=>(Zkf (Fam:=Fam T) (i:=0) (ZmH T Jp Zbm Zb3 Zcf Zbx (hr.mono (by decide)) rfl rfl rfl rfl rfl) rfl (Or.inl rfl) Zt (Za (pv 1) Zb)))) Zb))))),?_⟩
 have lx:=hx.length;refine ⟨_,rfl,a,_,rfl,.inr ha,_,rfl,b,_,rfl,.inr hb,rfl,_,rfl,?_⟩
 have e0:(!decide (V.int (xs.length:Nat)=V.int ((cs.map fun c=>V.ref (T.ad c)).length:Nat)))=!decide (ts.length=cs.length):=by
  rw [lx,Qd]
  congr 1
  rw [Q9];simp only [GT,V.int.injEq];omega
 rw [e0];unfold Wi at q;by_cases hl:ts.length=cs.length
 ·rw [Qw hl] at q ⊢;rw [Gv] at q;have lo:(ZP cs ts).length=cs.length:=ZhB hl;refine ZW ⟨_,rfl,_,rfl,b,a,rfl,⟨_,hb⟩,⟨_,ha⟩,?_⟩;refine Za5 ((ZP cs ts).map V.bl) (by rw [Qd,lo];exact ZK (by omega)) (fun σ=>∃o u,σ=[o,u]) ⟨none,none,rfl⟩ ?_ ?_ ?_ ?_
  ·intro i H2 hi s2;rw [Qd,lo] at hi;have h1:i<(cs.map fun c=>V.ref (T.ad c)).length:=by rw [Qd];exact hi
   have h2:i<xs.length:=by omega
   exact ⟨_,_,_,_,s2.sqt hb,s2.sqt ha,Qx h1,Qx h2⟩
  ·intro H2 s2;exact ⟨_,s2.sqt hb,by rw [Qd,Qd,lo]⟩
  ·rintro i σ H2 v H3 y hy ⟨o,u,rfl⟩ s2 ⟨A',x1,x2,nA,rfl,f1,f2,rfl⟩ C hC;obtain ⟨c,t,e1,e2,e3⟩:=ZiR hl hy;have g1:=f1 _ (s2.sqt hb);have g2:=f2 _ (s2.sqt ha);rw [QA,e1] at g1;have g1':x1=.ref (T.ad c):=(Qo g1).symm;obtain ⟨x,ex,vx⟩:=hx.get e2;rw [ex] at g2;have g2':x2=x:=(Qo g2).symm;subst g1' g2' e3;have sA:=Zl (o:=.tup [.ref (T.ad c),x2]) nA;refine ⟨A',_,rfl,.of Zf,rfl,?_⟩;refine ⟨_,_,rfl,_,_,rfl,rfl,?_⟩;refine ⟨_,_,rfl,⟨c,rfl,rfl⟩,_,rfl,rfl,x2,t,rfl,(vx.mono s2).mono sA,fun H5 s5=>hC _ _ ⟨_,_,rfl⟩ (sA.trans s5)⟩
  ·intro D H2 hD s2 hl2;exact ⟨D,_,rfl,hl2,q _ s2⟩
 ·rw [Qm hl] at q ⊢;exact Z1 (q _ (Same.refl H))
theorem Zlz (T:Tx K w mg) (Zc0:Zg6 P base T):Zg9 P base T:=by
 refine Fun.okX (k:=3) T.Ul.F ZbH (fun vs H Q E h=>h.1) (fun cdv A outer s H vs Q E hr h=>?_);obtain ⟨-,h⟩:=h;obtain ⟨x,rfl,h⟩:=h
 refine ⟨_,(Zn (ZJ (PW.pt (WU (W2 (Xx (Wj K (by rfl) T.n_isinstance (Za (pv 0) (Za (X8 (v:=.ty "tuple") (by rfl) T.n_tuple Zcs rfl) Zb))))) (WU (ZE Yb (Yk XA (by rfl) T.n_len Y6 (Za (pv 0) Zb)) Zi (Zy _)) (Vo (W2 (Xx (Wj K (by rfl) T.n_isinstance (Za (Zr Zx (pv 0) Zi (fun _ _=>rfl)) (Za (X8 (v:=.ty "str") (by rfl) T.n_str Uw rfl) Zb))))))))) (Zk (Zw YR)) ZT)
   (Zn (Xg QX rfl (U3 (Xv (v:=.ref T.aF) (by rfl) T.m_FORMS rfl)) (Zaa rfl (WQ (Yo (i:=1) ZbH.nd rfl (Or.inl rfl)) (WQ (Yo (i:=2) ZbH.nd rfl (Or.inl rfl)) Jw)))
    (Zk (ZJ (ZE Yb (Zr Zx (pv 0) Zi (fun _ _=>rfl)) (pv 1) (Zy _)) (Zk (Zw (ZM Zc0 (hr.mono (by decide)) (by rfl) T.Uh.m T.Uh.F.kp T.Uh.b .nil Zt (Za (Xm JD (pv 0) (Y0 Zi) XX) (Za (pv 2) Zb))))) ZT)))
   (Zk (Zw YR)))),?_⟩
 rcases h with ⟨t,hv,ht,q⟩|⟨ts,⟨a,xs,rfl,hS,hx⟩,hl,q⟩
 ·have k:=kT T t;rw [ht] at k;exact ⟨_,rfl,_,.ty "tuple",_,_,rfl,rfl,hv.kd,k,_,rfl,Z1 (q _ (Same.refl H))⟩
 refine ⟨_,rfl,_,.ty "tuple",_,_,rfl,rfl,.sqt hS,T.k_tuple_tuple,_,rfl,?_⟩;refine ZW ⟨_,rfl,a,_,rfl,.inr hS,rfl,_,rfl,?_⟩
 match xs,ts,hx with
 |[],[],_=>exact Z1 (q _ (Same.refl H))
 |x::xs,t::ts,hx =>
  have e0:decide (V.int ((x::xs).length:Nat)=V.int 0)=false:=by
   rw [QK]
   exact Qm fun z=>by
    have:=V.int.inj z;omega
  rw [e0];have at0:Yt (x::xs) 0=some x:=XM (j:=0) rfl;refine ZW ⟨_,rfl,a,_,_,_,rfl,rfl,hS,at0,_,.ty "str",_,_,rfl,rfl,hx.1.kd,kS T t,_,rfl,?_⟩;cases t with
  |str w =>
   have ex:x=.str w:=hx.1.1;refine ZW ⟨T.aF,rfl,⟨_,T.sF _⟩,Zac (fun i σ H2=>∃v1 v2,σ=[some (.ref a),v1,v2]∧Same H H2∧∀j,j<i->∀p',WJ[j]?=some p'->w≠p'.1) ⟨none,none,rfl,Same.refl H,fun j hj=>by omega⟩ (fun _ _ _ _ _=>T.sF _) ?turn ?done⟩
   case done =>
    rintro σ H2 ⟨v1,v2,rfl,s2,b⟩
    have e:VS (.str w::ts)=false:=by
     rw [ZaI,ZiX b];rfl
    rw [e] at q;exact q _ s2
   case turn =>
    rintro i y σ H2 hy ⟨v1,v2,rfl,s2,b⟩;have hi:i<6:=(QH.mp hy).1;have hf:WJ[i]?=some (WJ[i]'hi):=Qx hi;generalize WJ[i]'hi=p at hf;obtain ⟨P,G,e1,e2,e3⟩:=Zlt T hf;rw [hy] at e1;have ey:y=.ref P:=Qo e1;subst ey;refine ⟨P,_,rfl,e2 _,rfl,_,_,rfl,_,_,rfl,rfl,?_⟩;refine ⟨_,rfl,a,_,_,_,rfl,rfl,s2.sqt hS,at0,_,rfl,by rw [ex];rfl,_,rfl,?_⟩;rw [ex]
    have ed:decide (V.str w=V.str p.1)=decide (w=p.1):=by
     rw [Q9];simp
    rw [ed];by_cases hw:w=p.1
    ·rw [Qw hw]
     have e:VS (.str w::ts)=Wi p.2 ts:=by
      rw [ZaI,ZnA hf b hw];rfl
     rw [e] at q;refine Z1 ⟨_,rfl,_,rfl,a,_,rfl,s2.sqt hS,?_,fun n hn=>?_⟩
     ·rintro ⟨z,_⟩;have:HT.sIx (x::xs).length 0 (some ((1:Nat):Int))=0:=z;rw [HT.sIx_nat,QK] at this;omega
     ·rw [Zla];have sn:=Zl (o:=.tup xs) hn;refine ⟨_,rfl,rfl,n,G,xs,ts,p.2,rfl,.of Zf,(hx.2.mono s2).mono sn,e3 _,ZjO p (QL hf),fun H5 s5=>q _ (s2.trans (sn.trans s5))⟩
    ·rw [Qm hw];refine ZW ⟨_,_,rfl,s2,fun j hj p' e'=>?_⟩;by_cases hji:j<i
     ·exact b j hji p' e'
     ·have:j=i:=by omega
      subst this;rw [hf] at e';cases e';exact hw
  |_=>exact Z1 (q _ (Same.refl H))
theorem Zpm (T:Tx K w mg)  : Zbw P base T:=by
 refine Fun.okX (k:=0) T.WF.F ZlH (fun vs H Q E h=>h.1) (fun cdv A outer s H vs Q E hr h=>?_);obtain ⟨-,h⟩:=h;obtain ⟨v,e,rfl,⟨a,rfl,hE⟩,q⟩:=h;refine ⟨_,(Zk (Zw (YZ V6 (Zr Zx (pv 0) Zi (fun _ _=>rfl)) (ZR (Za Zh (Za Zh Zb))) (by rfl)))),?_⟩;cases e with
 |born n s d f m=>exact ⟨_,rfl,a,_,_,_,rfl,rfl,hE,Zm (j:=0) rfl,few rfl,fun p np=>⟨p,_,rfl,.inr (.of Zf),rfl,rfl,q _ (Zl np)⟩⟩
 |taken c t d=>exact ⟨_,rfl,a,_,_,_,rfl,rfl,hE,Zm (j:=0) rfl,few rfl,fun p np=>⟨p,_,rfl,.inr (.of Zf),rfl,rfl,q _ (Zl np)⟩⟩
 |union x y d=>exact ⟨_,rfl,a,_,_,_,rfl,rfl,hE,Zm (j:=0) rfl,few rfl,fun p np=>⟨p,_,rfl,.inr (.of Zf),rfl,rfl,q _ (Zl np)⟩⟩
 |parted x y d=>exact ⟨_,rfl,a,_,_,_,rfl,rfl,hE,Zm (j:=0) rfl,few rfl,fun p np=>⟨p,_,rfl,.inr (.of Zf),rfl,rfl,q _ (Zl np)⟩⟩
 |dead n d=>exact ⟨_,rfl,a,_,_,_,rfl,rfl,hE,Zm (j:=0) rfl,few rfl,fun p np=>⟨p,_,rfl,.inr (.of Zf),rfl,rfl,q _ (Zl np)⟩⟩
 |given x y z d=>exact ⟨_,rfl,a,_,_,_,rfl,rfl,hE,Zm (j:=0) rfl,few rfl,fun p np=>⟨p,_,rfl,.inr (.of Zf),rfl,rfl,q _ (Zl np)⟩⟩
theorem Zmy (T:Tx K w mg)  : Zbq P base T:=by
 refine Fun.okX (k:=0) T.Wm.F ZoT (fun vs H Q E h=>h.1) (fun cdv A outer s H vs Q E hr h=>?_);obtain ⟨-,h⟩:=h;obtain ⟨v,e,rfl,⟨a,rfl,hE⟩,q⟩:=h
 refine ⟨_,(Zn (ZJ (ZE Yb (Zr Zx (pv 0) Zi (fun _ _=>rfl)) Zh (Zy _)) (Zk (Zw (U7 rfl (Jv (N:=["name"]) [] [none] rfl (by decide +kernel) (by decide +kernel) (by rfl) (by rfl) (by rfl) (by rfl) (by rfl)) (U3 (Xm JD (pv 0) (Y0 Zi) XX)) (fun _ _ _=>(Yo (i:=0) Zlb rfl (Or.inl rfl))) (fun _ _ _=>(Zc1 (ZE XR (pv 0) Zh (Zy _)))) (fun _ _ _=>(pv 0))))) ZT)
   (Zn (ZJ (ZE Yb (Zr Zx (pv 0) Zi (fun _ _=>rfl)) Zh (Zy _)) (Zk (Zw (YK (Za (Zr Zx (pv 0) Zi (fun _ _=>rfl)) Zb)))) ZT)
   (Zk (Zw (YK (Za (Zr Zx (pv 0) Zi (fun _ _=>rfl)) (Za (Zr Zx (pv 0) Zi (fun _ _=>rfl)) Zb))))))),?_⟩
 cases e with
 |born n s d f m =>
  refine ⟨_,rfl,a,_,_,_,rfl,rfl,hE,Zm (j:=0) rfl,rfl,_,rfl,Z4 (by decide +kernel) ⟨_,rfl,_,rfl,?_⟩⟩;dsimp only [ZaK];refine J9 hE (fun h=>absurd h.1 (show ¬(4:Nat)=0 by decide)) fun H1 p s1 hp=>?_;have hp':SqT K H1 p ([f,m].map V.str):=hp;refine ⟨p,rfl,⟨_,hp'⟩,Zbo ([f,m].map UM) (ZK (by simp)) (fun σ=>∃v,σ=[v]) ⟨_,rfl⟩ (fun i H2 hi sm=>?go) (fun H2 sm=>?stop) (fun i σ H2 x H3 o ho hσ sm hx C hC=>?step) (fun D H2 nD sm hD=>?fin)⟩
  case go =>
   have hi':i<([f,m].map V.str).length:=hi;exact ⟨_,_,sm.sqt hp',Qx hi'⟩
  case stop=>exact ⟨_,sm.sqt hp',by simp⟩
  case step =>
   obtain ⟨v,rfl⟩:=hσ;obtain ⟨rfl,hx⟩:=hx;have e1:=hx _ (sm.sqt hp');rw [QA] at e1 ho;obtain ⟨z,hz,rfl⟩:=QQ.mp e1;rw [hz] at ho;obtain rfl:UM z=o:=Qo ho;refine ⟨_,rfl,rfl,_,rfl,?_⟩;by_cases hz0:z=""
   ·subst hz0;exact Zv (by decide +kernel) (hC _ _ ⟨_,rfl⟩ (Same.refl _))
   ·have e2:UM z=some (.str z):=Qa hz0;rw [e2] at hC;exact Z4 (by rw [Xk,Qm hz0];rfl) ⟨_,rfl,hC _ _ ⟨_,rfl⟩ (Same.refl _)⟩
  case fin =>
   rw [Zfv] at hD;exact q _ D (s1.trans sm) (Z5 s1 nD) (.of hD)
 |dead n d=>exact ⟨_,rfl,a,_,_,_,rfl,rfl,hE,Zm (j:=0) rfl,rfl,_,rfl,Zv (by decide +kernel) ⟨_,rfl,a,_,_,_,rfl,rfl,hE,Zm (j:=0) rfl,rfl,_,rfl,Z4 (by decide +kernel) ⟨_,rfl,a,_,_,_,rfl,rfl,hE,Zm (j:=1) rfl,few rfl,fun D nD=>q _ D (Zl nD) nD (.of Zf)⟩⟩⟩
 |taken c t d=>exact ⟨_,rfl,a,_,_,_,rfl,rfl,hE,Zm (j:=0) rfl,rfl,_,rfl,Zv (by decide +kernel) ⟨_,rfl,a,_,_,_,rfl,rfl,hE,Zm (j:=0) rfl,rfl,_,rfl,Zv (by decide +kernel) ⟨_,rfl,a,_,_,_,rfl,rfl,hE,Zm (j:=1) rfl,_,rfl,a,_,_,_,rfl,rfl,hE,Zm (j:=2) rfl,few rfl,fun D nD=>q _ D (Zl nD) nD (.of Zf)⟩⟩⟩
 |union x y d=>exact ⟨_,rfl,a,_,_,_,rfl,rfl,hE,Zm (j:=0) rfl,rfl,_,rfl,Zv (by decide +kernel) ⟨_,rfl,a,_,_,_,rfl,rfl,hE,Zm (j:=0) rfl,rfl,_,rfl,Zv (by decide +kernel) ⟨_,rfl,a,_,_,_,rfl,rfl,hE,Zm (j:=1) rfl,_,rfl,a,_,_,_,rfl,rfl,hE,Zm (j:=2) rfl,few rfl,fun D nD=>q _ D (Zl nD) nD (.of Zf)⟩⟩⟩
 |parted x y d=>exact ⟨_,rfl,a,_,_,_,rfl,rfl,hE,Zm (j:=0) rfl,rfl,_,rfl,Zv (by decide +kernel) ⟨_,rfl,a,_,_,_,rfl,rfl,hE,Zm (j:=0) rfl,rfl,_,rfl,Zv (by decide +kernel) ⟨_,rfl,a,_,_,_,rfl,rfl,hE,Zm (j:=1) rfl,_,rfl,a,_,_,_,rfl,rfl,hE,Zm (j:=2) rfl,few rfl,fun D nD=>q _ D (Zl nD) nD (.of Zf)⟩⟩⟩
 |given x y z d=>exact ⟨_,rfl,a,_,_,_,rfl,rfl,hE,Zm (j:=0) rfl,rfl,_,rfl,Zv (by decide +kernel) ⟨_,rfl,a,_,_,_,rfl,rfl,hE,Zm (j:=0) rfl,rfl,_,rfl,Zv (by decide +kernel) ⟨_,rfl,a,_,_,_,rfl,rfl,hE,Zm (j:=1) rfl,_,rfl,a,_,_,_,rfl,rfl,hE,Zm (j:=2) rfl,few rfl,fun D nD=>q _ D (Zl nD) nD (.of Zf)⟩⟩⟩
theorem ZiJ (T:Tx K w mg)  : Zhl P base T:=by
 refine Fun.okX (k:=0) T.VZ.F Zi3 (fun vs H Q E h=>h.1) (fun cdv A outer s H vs Q E hr h=>?_);obtain ⟨-,h⟩:=h;obtain ⟨v,e,rfl,⟨a,rfl,hE⟩,q⟩:=h
 refine ⟨_,(Zn (ZJ (ZE Yb (Zr Zx (pv 0) Zi (fun _ _=>rfl)) Zh (Zy _)) (Zk (Zw (Zr Zx (pv 0) Zi (fun _ _=>rfl)))) ZT)
   (Zk (Zw (Zr Zx (pv 0) (X6 Wa Zi) (fun _ _=>rfl))))),?_⟩
 cases e with
 |born n s d f m=>exact ⟨_,rfl,a,_,_,_,rfl,rfl,hE,Zm (j:=0) rfl,rfl,_,rfl,Z4 (by decide +kernel) ⟨_,rfl,a,_,_,_,rfl,rfl,hE,Zm (j:=3) rfl,q⟩⟩
 |taken c t d=>exact ⟨_,rfl,a,_,_,_,rfl,rfl,hE,Zm (j:=0) rfl,rfl,_,rfl,Zv (by decide +kernel) ⟨_,rfl,_,rfl,a,_,_,_,rfl,rfl,hE,rfl,q⟩⟩
 |union x y d=>exact ⟨_,rfl,a,_,_,_,rfl,rfl,hE,Zm (j:=0) rfl,rfl,_,rfl,Zv (by decide +kernel) ⟨_,rfl,_,rfl,a,_,_,_,rfl,rfl,hE,rfl,q⟩⟩
 |parted x y d=>exact ⟨_,rfl,a,_,_,_,rfl,rfl,hE,Zm (j:=0) rfl,rfl,_,rfl,Zv (by decide +kernel) ⟨_,rfl,_,rfl,a,_,_,_,rfl,rfl,hE,rfl,q⟩⟩
 |dead n d=>exact ⟨_,rfl,a,_,_,_,rfl,rfl,hE,Zm (j:=0) rfl,rfl,_,rfl,Zv (by decide +kernel) ⟨_,rfl,_,rfl,a,_,_,_,rfl,rfl,hE,rfl,q⟩⟩
 |given x y z d=>exact ⟨_,rfl,a,_,_,_,rfl,rfl,hE,Zm (j:=0) rfl,rfl,_,rfl,Zv (by decide +kernel) ⟨_,rfl,_,rfl,a,_,_,_,rfl,rfl,hE,rfl,q⟩⟩
theorem Zps (T:Tx K w mg) (UK:Zbw P base T):Zbn P base T:=by
 refine Fun.okX (k:=1) T.Wn.F ZgI (fun vs H Q E h=>h.1) (fun cdv A outer s H vs Q E hr h=>?_);obtain ⟨-,h⟩:=h;obtain ⟨v,e,rfl,hx,q⟩:=h
 refine ⟨_,(Zn (ZJ (W2 (Xx (ZM UK (hr.mono (by decide)) (by rfl) T.WF.m T.WF.F.kp T.WF.b .nil Zt (Za (pv 0) Zb)))) (Zk (Zw (pv 0))) ZT)
   (Zn (ZX (i:=1) ZgI.nd rfl (Or.inl rfl) (Yk (ZkE K) (by rfl) T.n_sorted Zbj (Za (Xm JD (pv 0) (Y0 Zi) (Y0 Zi)) Zb)))
   (Zk (Zw (ZR (Za (Zr Zx (pv 0) Zi (fun _ _=>rfl)) (Za (Zr Yz (pv 1) Zi (fun _ _=>rfl)) (Za (Zr Yz (pv 1) Zi (fun _ _=>rfl)) (Za (Zr Zx (pv 0) Zi (fun _ _=>rfl)) Zb))))))))),?_⟩
 obtain ⟨a,rfl,hE⟩:=id hx;refine ⟨_,rfl,rfl,.ref a,e,rfl,hx,fun H1 s1=>⟨_,rfl,?_⟩⟩;have hE1:=s1.sqt hE;cases e with
 |born n s d f m=>exact Z1 ⟨_,rfl,q _ _ s1 (hx.mono s1)⟩
 |taken c t d=>exact Z1 ⟨_,rfl,q _ _ s1 (hx.mono s1)⟩
 |union x y d =>
  refine ZW ⟨_,rfl,_,rfl,_,rfl,?_⟩;refine J9 hE1 (fun h=>absurd h.1 (show ¬(1:Nat)=0 by decide)) fun H2 p s2 hp=>?_;have hp':SqT K H2 p ([x,y].map V.str):=hp;refine ⟨p,[x,y],rfl,hp',Qz rfl,fun D zs nD perm so=>?_⟩;rw [ZeD perm so];have s3:=Zl (o:=.lst ([(Ze x y).1,(Ze x y).2].map V.str)) nD;have hE3:=s3.sqt (s2.sqt hE1);have hD:SqL K (Zc H2 D (.lst ([(Ze x y).1,(Ze x y).2].map V.str))) D ([(Ze x y).1,(Ze x y).2].map V.str):=.of Zf;refine ⟨_,rfl,a,_,_,_,rfl,rfl,hE3,Zm (j:=0) rfl,_,rfl,D,_,_,_,rfl,rfl,hD,Zm (j:=0) rfl,_,rfl,D,_,_,_,rfl,rfl,hD,Zm (j:=1) rfl,_,rfl,a,_,_,_,rfl,rfl,hE3,Zm (j:=3) rfl,few rfl,fun t nt=>?_⟩;exact q _ _ (s1.trans (s2.trans (s3.trans (Zl nt)))) ⟨t,rfl,.of Zf⟩
 |parted x y d =>
  refine ZW ⟨_,rfl,_,rfl,_,rfl,?_⟩;refine J9 hE1 (fun h=>absurd h.1 (show ¬(1:Nat)=0 by decide)) fun H2 p s2 hp=>?_;have hp':SqT K H2 p ([x,y].map V.str):=hp;refine ⟨p,[x,y],rfl,hp',Qz rfl,fun D zs nD perm so=>?_⟩;rw [ZeD perm so];have s3:=Zl (o:=.lst ([(Ze x y).1,(Ze x y).2].map V.str)) nD;have hE3:=s3.sqt (s2.sqt hE1);have hD:SqL K (Zc H2 D (.lst ([(Ze x y).1,(Ze x y).2].map V.str))) D ([(Ze x y).1,(Ze x y).2].map V.str):=.of Zf;refine ⟨_,rfl,a,_,_,_,rfl,rfl,hE3,Zm (j:=0) rfl,_,rfl,D,_,_,_,rfl,rfl,hD,Zm (j:=0) rfl,_,rfl,D,_,_,_,rfl,rfl,hD,Zm (j:=1) rfl,_,rfl,a,_,_,_,rfl,rfl,hE3,Zm (j:=3) rfl,few rfl,fun t nt=>?_⟩;exact q _ _ (s1.trans (s2.trans (s3.trans (Zl nt)))) ⟨t,rfl,.of Zf⟩
 |dead n d=>exact Z1 ⟨_,rfl,q _ _ s1 (hx.mono s1)⟩
 |given x y z d=>exact Z1 ⟨_,rfl,q _ _ s1 (hx.mono s1)⟩
theorem Znx (T:Tx K w mg) (Jh:Zbn P base T):Zcu P base T:=by
 refine Fun.okX (k:=2) T.Wx.F Zi9 (fun vs H Q E h=>h.1) (fun cdv A outer s H vs Q E hr h=>?_);obtain ⟨-,h⟩:=h;obtain ⟨v,e,rfl,hx,q⟩:=h
 refine ⟨_,(Zn (ZJ (ZE V6 (Zr Zx (pv 0) Zi (fun _ _=>rfl)) (ZR (Za Zh (Za Zh Zb))) (by rfl)) (Zk (Zw (ZR (Za (Zr Zx (pv 0) Zi (fun _ _=>rfl)) (Za (Zr Zx (pv 0) Zi (fun _ _=>rfl)) Zb))))) ZT)
   (Zn (ZJ (ZE Yb (Zr Zx (pv 0) Zi (fun _ _=>rfl)) Zh (Zy _)) (Zk (Zw (ZR (Za (Zr Zx (pv 0) Zi (fun _ _=>rfl)) (Za (Zr Zx (pv 0) Zi (fun _ _=>rfl)) (Za (Zr Zx (pv 0) Zi (fun _ _=>rfl)) Zb)))))) ZT)
   (Zn (ZJ (ZE Yb (Zr Zx (pv 0) Zi (fun _ _=>rfl)) Zh (Zy _)) (Zk (Zw (ZR (Za (Zr Zx (pv 0) Zi (fun _ _=>rfl)) (Za (Zr Zx (pv 0) Zi (fun _ _=>rfl)) (Za (Zr Zx (pv 0) Zi (fun _ _=>rfl)) (Za (Zr Zx (pv 0) Zi (fun _ _=>rfl)) Zb))))))) ZT)
   (Zk (Zw (ZU Zfh (ZR (Za Zh Zb)) (Xm JD (ZM Jh (hr.mono (by decide)) (by rfl) T.Wn.m T.Wn.F.kp T.Wn.b .nil Zt (Za (pv 0) Zb)) (Y0 Zi) XX))))))),?_⟩
 obtain ⟨a,rfl,hE⟩:=id hx;cases e with
 |born n s d f m =>
  refine ⟨_,rfl,a,_,_,_,rfl,rfl,hE,Zm (j:=0) rfl,few rfl,fun p np=>⟨p,_,rfl,.inr (.of Zf),rfl,rfl,_,rfl,Z4 (by decide +kernel) ?_⟩⟩;have s1:=Zl (o:=.tup [.str "born",.str "dead"]) np;have hE1:=s1.sqt hE;exact ⟨_,rfl,a,_,_,_,rfl,rfl,hE1,Zm (j:=0) rfl,_,rfl,a,_,_,_,rfl,rfl,hE1,Zm (j:=1) rfl,few rfl,fun t nt=>q _ t (s1.trans (Zl nt)) (Z5 s1 nt) Zf⟩
 |taken c t d =>
  refine ⟨_,rfl,a,_,_,_,rfl,rfl,hE,Zm (j:=0) rfl,few rfl,fun p np=>⟨p,_,rfl,.inr (.of Zf),rfl,rfl,_,rfl,Zv (by decide +kernel) ?_⟩⟩;have s1:=Zl (o:=.tup [.str "born",.str "dead"]) np;have hE1:=s1.sqt hE;refine ⟨_,rfl,a,_,_,_,rfl,rfl,hE1,Zm (j:=0) rfl,rfl,_,rfl,Z4 (by decide +kernel) ?_⟩;exact ⟨_,rfl,a,_,_,_,rfl,rfl,hE1,Zm (j:=0) rfl,_,rfl,a,_,_,_,rfl,rfl,hE1,Zm (j:=1) rfl,_,rfl,a,_,_,_,rfl,rfl,hE1,Zm (j:=2) rfl,few rfl,fun t nt=>q _ t (s1.trans (Zl nt)) (Z5 s1 nt) Zf⟩
 |union x y d =>
  refine ⟨_,rfl,a,_,_,_,rfl,rfl,hE,Zm (j:=0) rfl,few rfl,fun p np=>⟨p,_,rfl,.inr (.of Zf),rfl,rfl,_,rfl,Zv (by decide +kernel) ?_⟩⟩;have s1:=Zl (o:=.tup [.str "born",.str "dead"]) np;have hE1:=s1.sqt hE;refine ⟨_,rfl,a,_,_,_,rfl,rfl,hE1,Zm (j:=0) rfl,rfl,_,rfl,Zv (by decide +kernel) ?_⟩;refine ⟨_,rfl,a,_,_,_,rfl,rfl,hE1,Zm (j:=0) rfl,rfl,_,rfl,Zv (by decide +kernel) ?_⟩;refine ⟨few rfl,fun t nt=>⟨_,rfl,rfl,.ref a,_,rfl,(hx.mono s1).mono (Zl nt),fun H2 u s2 hu=>?_⟩⟩;obtain ⟨b,rfl,hb⟩:=hu;refine ⟨_,rfl,?_⟩;dsimp only [ZaK];refine J9 hb (fun h=>absurd h.1 (show ¬(1:Nat)=0 by decide)) fun H3 c s3 hc=>?_;refine ⟨t,c,[.str "tie"],[.str (Ze x y).1,.str (Ze x y).2,.int d],rfl,rfl,.of (s3 _ _ (s2 _ _ Zf)),hc,by simp,few rfl,fun h=>absurd h (by simp),fun _ z nz=>?_⟩;have s4:=(s1.trans (Zl nt)).trans (s2.trans s3);exact q _ z (s4.trans (Zl nz)) (Z5 s4 nz) Zf
 |parted x y d =>
  refine ⟨_,rfl,a,_,_,_,rfl,rfl,hE,Zm (j:=0) rfl,few rfl,fun p np=>⟨p,_,rfl,.inr (.of Zf),rfl,rfl,_,rfl,Zv (by decide +kernel) ?_⟩⟩;have s1:=Zl (o:=.tup [.str "born",.str "dead"]) np;have hE1:=s1.sqt hE;refine ⟨_,rfl,a,_,_,_,rfl,rfl,hE1,Zm (j:=0) rfl,rfl,_,rfl,Zv (by decide +kernel) ?_⟩;refine ⟨_,rfl,a,_,_,_,rfl,rfl,hE1,Zm (j:=0) rfl,rfl,_,rfl,Zv (by decide +kernel) ?_⟩;refine ⟨few rfl,fun t nt=>⟨_,rfl,rfl,.ref a,_,rfl,(hx.mono s1).mono (Zl nt),fun H2 u s2 hu=>?_⟩⟩;obtain ⟨b,rfl,hb⟩:=hu;refine ⟨_,rfl,?_⟩;dsimp only [ZaK];refine J9 hb (fun h=>absurd h.1 (show ¬(1:Nat)=0 by decide)) fun H3 c s3 hc=>?_;refine ⟨t,c,[.str "tie"],[.str (Ze x y).1,.str (Ze x y).2,.int d],rfl,rfl,.of (s3 _ _ (s2 _ _ Zf)),hc,by simp,few rfl,fun h=>absurd h (by simp),fun _ z nz=>?_⟩;have s4:=(s1.trans (Zl nt)).trans (s2.trans s3);exact q _ z (s4.trans (Zl nz)) (Z5 s4 nz) Zf
 |dead n d =>
  refine ⟨_,rfl,a,_,_,_,rfl,rfl,hE,Zm (j:=0) rfl,few rfl,fun p np=>⟨p,_,rfl,.inr (.of Zf),rfl,rfl,_,rfl,Z4 (by decide +kernel) ?_⟩⟩;have s1:=Zl (o:=.tup [.str "born",.str "dead"]) np;have hE1:=s1.sqt hE;exact ⟨_,rfl,a,_,_,_,rfl,rfl,hE1,Zm (j:=0) rfl,_,rfl,a,_,_,_,rfl,rfl,hE1,Zm (j:=1) rfl,few rfl,fun t nt=>q _ t (s1.trans (Zl nt)) (Z5 s1 nt) Zf⟩
 |given x y z d =>
  refine ⟨_,rfl,a,_,_,_,rfl,rfl,hE,Zm (j:=0) rfl,few rfl,fun p np=>⟨p,_,rfl,.inr (.of Zf),rfl,rfl,_,rfl,Zv (by decide +kernel) ?_⟩⟩;have s1:=Zl (o:=.tup [.str "born",.str "dead"]) np;have hE1:=s1.sqt hE;refine ⟨_,rfl,a,_,_,_,rfl,rfl,hE1,Zm (j:=0) rfl,rfl,_,rfl,Zv (by decide +kernel) ?_⟩;refine ⟨_,rfl,a,_,_,_,rfl,rfl,hE1,Zm (j:=0) rfl,rfl,_,rfl,Z4 (by decide +kernel) ?_⟩;exact ⟨_,rfl,a,_,_,_,rfl,rfl,hE1,Zm (j:=0) rfl,_,rfl,a,_,_,_,rfl,rfl,hE1,Zm (j:=1) rfl,_,rfl,a,_,_,_,rfl,rfl,hE1,Zm (j:=2) rfl,_,rfl,a,_,_,_,rfl,rfl,hE1,Zm (j:=4) rfl,few rfl,fun t nt=>q _ t (s1.trans (Zl nt)) (Z5 s1 nt) Zf⟩
theorem ZmL (T:Tx K w mg)  : ZfZ P base T:=by
 refine Fun.okX (k:=0) T.V7.F ZmK (fun vs H Q E h=>h.1) (fun cdv A outer s H vs Q E hr h=>?_);obtain ⟨-,h⟩:=h;obtain ⟨x,rfl,h⟩:=h;refine ⟨_,(Zk (Zw (Wk (Wj K (by rfl) T.n_isinstance (Za (pv 0) (Za (X8 (v:=.ty "str") (by rfl) T.n_str Uw rfl) Zb))) (XI (YZ V6 (pv 0) (Xv (v:=.ref T.a_STEP_LETTERS) (by rfl) T.m_STEP_LETTERS rfl) (by rfl)))))),?_⟩;rcases h with ⟨ty,hk,ks,q⟩|⟨l,rfl,q⟩
 ·exact ⟨_,rfl,_,.ty "str",_,_,rfl,rfl,hk,ks,_,rfl,ZW q⟩
 refine ⟨_,rfl,_,.ty "str",_,_,rfl,rfl,.of (.str _),T.k_str_str,_,rfl,Z1 ⟨_,rfl,T.a_STEP_LETTERS,_,rfl,.inr (T.Zeq _),rfl,rfl,?_⟩⟩;have e:(if false=true then !XG (.str l) (Xu.map V.str) else XG (.str l) (Xu.map V.str))=Ja l:=Zc5 l Xu;rw [←e] at q;exact q
theorem Zjb (T:Tx K w mg)  : ZdR P base T:=by
 refine Fun.okX (k:=0) T.WB.F ZjI (fun vs H Q E h=>h.1) (fun cdv A outer s H vs Q E hr h=>?_);obtain ⟨-,h⟩:=h;obtain ⟨a,b,rfl,q⟩:=h;refine ⟨_,(Zk (Zw (ZR (Za (Yk (ZnF rfl) (by rfl) T.n_min ZoN (Za (pv 0) (Za (pv 1) Zb))) (Za (Yk (Zpd rfl) (by rfl) T.n_max ZbC (Za (pv 0) (Za (pv 1) Zb))) Zb))))),?_⟩;refine ⟨_,rfl,_,rfl,_,_,rfl,_,rfl,_,rfl,_,_,rfl,few rfl,fun p np=>?_⟩;rw [Zjt,ZmY];exact q _ p (Zl np) np Zf
theorem ZkB (T:Tx K w mg)  : ZeQ P base T:=by
 refine Fun.okX (k:=0) T.Jb.F ZnK (fun vs H Q E h=>h.1) (fun cdv A outer s H vs Q E hr h=>?_);obtain ⟨-,h⟩:=h;obtain ⟨b,dx,rfl,h0,q⟩:=h
 refine ⟨_,(Zn (Xp (pv 0) Zah rfl)
   (Zn (Xp (pv 0) ZaJ rfl)
   (Zn (Xp (pv 0) Zah rfl)
   (Zn (Xp (pv 0) Zah rfl)
   (Zk (Xp (pv 0) Zah rfl)))))),?_⟩
 refine fun k nk=>⟨_,rfl,b,T.c_Book,dx,[],rfl,(Zd (ZF h0 nk)).trans h0,T.cl_Book,T.na_Book_kept,Qk (m:=10) (Qz rfl) (by decide),?_⟩;obtain ⟨g1,p1,s1,m1⟩:=Ww (fs:=[]) "kept" (.dT []) h0 nk;generalize hH1:Zc (Zc H k (.dT [])) b (.ins T.c_Book dx (Zs "kept" (.ref k) ([])))=H1 at *;refine fun bi nbi=>⟨_,rfl,b,T.c_Book,dx,Zs "kept" (.ref k) [],rfl,(Zd (ZF g1 nbi)).trans g1,T.cl_Book,T.na_Book_births,Qk (m:=10) (Qz rfl) (by decide),?_⟩;obtain ⟨g2,p2,s2,m2⟩:=Ww (fs:=Zs "kept" (.ref k) []) "births" (.dK []) g1 nbi;generalize hH2:Zc (Zc H1 bi (.dK [])) b (.ins T.c_Book dx (Zs "births" (.ref bi) (Zs "kept" (.ref k) [])))=H2 at *;refine fun li nli=>⟨_,rfl,b,T.c_Book,dx,Zs "births" (.ref bi) (Zs "kept" (.ref k) []),rfl,(Zd (ZF g2 nli)).trans g2,T.cl_Book,T.na_Book_links,Qk (m:=10) (Qz rfl) (by decide),?_⟩;obtain ⟨g3,p3,s3,m3⟩:=Ww (fs:=Zs "births" (.ref bi) (Zs "kept" (.ref k) [])) "links" (.dT []) g2 nli;generalize hH3:Zc (Zc H2 li (.dT [])) b (.ins T.c_Book dx (Zs "links" (.ref li) (Zs "births" (.ref bi) (Zs "kept" (.ref k) []))))=H3 at *;refine fun ti nti=>⟨_,rfl,b,T.c_Book,dx,Zs "links" (.ref li) (Zs "births" (.ref bi) (Zs "kept" (.ref k) [])),rfl,(Zd (ZF g3 nti)).trans g3,T.cl_Book,T.na_Book_ties,Qk (m:=10) (Qz rfl) (by decide),?_⟩;obtain ⟨g4,p4,s4,m4⟩:=Ww (fs:=Zs "links" (.ref li) (Zs "births" (.ref bi) (Zs "kept" (.ref k) []))) "ties" (.dT []) g3 nti;generalize hH4:Zc (Zc H3 ti (.dT [])) b (.ins T.c_Book dx (Zs "ties" (.ref ti) (Zs "links" (.ref li) (Zs "births" (.ref bi) (Zs "kept" (.ref k) [])))))=H4 at *;refine fun su nsu=>⟨_,rfl,b,T.c_Book,dx,Zs "ties" (.ref ti) (Zs "links" (.ref li) (Zs "births" (.ref bi) (Zs "kept" (.ref k) []))),rfl,(Zd (ZF g4 nsu)).trans g4,T.cl_Book,T.na_Book_sums,Qk (m:=10) (Qz rfl) (by decide),?_⟩;obtain ⟨g5,p5,s5,m5⟩:=Ww (fs:=Zs "ties" (.ref ti) (Zs "links" (.ref li) (Zs "births" (.ref bi) (Zs "kept" (.ref k) [])))) "sums" (.dT []) g4 nsu;generalize hH5:Zc (Zc H4 su (.dT [])) b (.ins T.c_Book dx (Zs "sums" (.ref su) (Zs "ties" (.ref ti) (Zs "links" (.ref li) (Zs "births" (.ref bi) (Zs "kept" (.ref k) []))))))=H5 at *;have kb:∀{c:Addr} {o:HO} {Hx:Hp},Hx c=some o->(∀fs,o≠.ins T.c_Book dx fs)->∀{fs},Hx b=some (.ins T.c_Book dx fs)->c≠b:=fun e no fs eb z=>by subst z;rw [eb] at e;cases e;exact no _ rfl
 have dT:∀fs,HO.dT []≠.ins T.c_Book dx fs:=fun _ z=>by cases z
 have dK:∀fs,HO.dK []≠.ins T.c_Book dx fs:=fun _ z=>by cases z
 have a1:=s5 _ _ (s4 _ _ (s3 _ _ (s2 _ _ p1 (kb p1 dT g1)) (kb (s2 _ _ p1 (kb p1 dT g1)) dT g2)) (kb (s3 _ _ (s2 _ _ p1 (kb p1 dT g1)) (kb (s2 _ _ p1 (kb p1 dT g1)) dT g2)) dT g3)) (kb p1 dT g1);have a2:=s5 _ _ (s4 _ _ (s3 _ _ p2 (kb p2 dK g2)) (kb p2 dK g2)) (kb p2 dK g2);have a3:=s5 _ _ (s4 _ _ p3 (kb p3 dT g3)) (kb p3 dT g3);have a4:=s5 _ _ p4 (kb p4 dT g4);rw [Zlh] at g5;have kli:k≠li:=ZF (s2 _ _ p1 (kb p1 dT g1)) nli;have kti:k≠ti:=ZF (s3 _ _ (s2 _ _ p1 (kb p1 dT g1)) (kb (s2 _ _ p1 (kb p1 dT g1)) dT g2)) nti;have ksu:k≠su:=ZF (s4 _ _ (s3 _ _ (s2 _ _ p1 (kb p1 dT g1)) (kb (s2 _ _ p1 (kb p1 dT g1)) dT g2)) (kb (s3 _ _ (s2 _ _ p1 (kb p1 dT g1)) (kb (s2 _ _ p1 (kb p1 dT g1)) dT g2)) dT g3)) nsu;have liti:li≠ti:=ZF p3 nti;have lisu:li≠su:=ZF (s4 _ _ p3 (kb p3 dT g3)) nsu;have tisu:ti≠su:=ZF p4 nsu;exact q H5 k bi li ti su ⟨g5,by simp [kli,kti,ksu,liti,lisu,tisu],by simp [Vd],a1,a2,a3,a4,p5,fun _ h=>(nomatch h),fun _ h=>(nomatch h),fun _ h=>(nomatch h)⟩ (fun c o e cb=>s5 _ _ (s4 _ _ (s3 _ _ (s2 _ _ (s1 _ _ e cb) cb) cb) cb) cb) nk (m1 _ nbi) (m1 _ (m2 _ nli)) (m1 _ (m2 _ (m3 _ nti))) (m1 _ (m2 _ (m3 _ (m4 _ nsu))))
theorem ZmA (T:Tx K w mg)  : UX P base T:=by
 refine Fun.okX (k:=0) T.Xh.F ZmZ (fun vs H Q E h=>h.1) (fun cdv A outer s H vs Q E hr h=>?_);obtain ⟨-,h⟩:=h;obtain ⟨v,x,B,rfl,⟨b,dx,k,bi,li,ti,su,rfl,hB⟩,h⟩:=h
 refine ⟨_,(Zn (ZJ (PW.pt (WU (W2 (Xx (Wj K (by rfl) T.n_isinstance (Za (pv 1) (Za (X8 (v:=.ty "str") (by rfl) T.n_str Uw rfl) Zb))))) (Vo (UA (Zef (Ye hr) (pv 1) (ZS (pv 0) rfl)))))) (Zk (Uf (by rfl) T.m_NoPerson T.x_NoPerson EB rfl Uk (Za Zh Zb))) ZT)
   (Zk (Zw (Zan (Ye hr) (ZS (pv 0) rfl) (pv 1) (fun _ _=>rfl))))),?_⟩
 rcases h with ⟨ty,hk,ks,qe⟩|⟨n,rfl,qe,q⟩
 ·exact ⟨_,rfl,_,.ty "str",_,_,rfl,rfl,hk,ks,_,rfl,Z1 (Z1 ⟨few rfl,qe⟩)⟩
 have dg:=DGet.k (k:=.inr n) hB.bi;rw [ZcV] at dg;refine ⟨_,rfl,_,.ty "str",_,_,rfl,rfl,.of (.str _),T.k_str_str,_,rfl,ZW ⟨_,rfl,_,rfl,b,T.c_Book,dx,_,_,rfl,hB.ob,T.cl_Book,T.na_Book_births,Za8,bi,_,rfl,dg,_,rfl,?_⟩⟩;cases hb:ZZ n B.kept with
 |none=>exact Z1 ⟨few rfl,qe hb⟩
 |some p =>
  rw [hb] at dg;exact ZW ⟨_,rfl,b,T.c_Book,dx,_,_,rfl,hB.ob,T.cl_Book,T.na_Book_births,Za8,_,rfl,bi,.ref p.2,rfl,dg,q p hb⟩
theorem Zog (T:Tx K w mg) (Xd:UX P base T):ZcI P base T:=by
 refine Fun.okX (k:=1) T.Vr.F Zj5 (fun vs H Q E h=>h.1) (fun cdv A outer s H vs Q E hr h=>?_);obtain ⟨-,h⟩:=h;obtain ⟨v,x,B,rfl,hv,h⟩:=h;refine ⟨_,(Zk (Zw (Zr Zx (ZV (pv 0) T.cl_Book T.Xh.me Xd (hr.mono (by decide)) T.Xh.b .nil Xa (Za (pv 1) Zb)) Zi (fun _ _=>rfl)))),?_⟩;obtain ⟨b,dx,k,bi,li,ti,su,rfl,hB⟩:=id hv;refine ⟨_,rfl,b,dx,_,rfl,hB.ob,rfl,_,rfl,rfl,.ref b,x,B,rfl,hv,?_⟩;rcases h with ⟨ty,hk,ks,qe⟩|⟨n,rfl,qe,q⟩
 ·exact .inl ⟨ty,hk,ks,qe⟩
 refine .inr ⟨n,rfl,qe,fun p hp=>?_⟩;obtain ⟨hm,hn⟩:=Za0 hp;have hE:=hB.en p hm
 obtain ⟨n',s,d,f,m,he⟩:∃n' s d f m,p.1=.born n' s d f m:=by
  cases e:p.1 with
  |born n' s d f m=>exact ⟨n',s,d,f,m,rfl⟩
  |_=>rw [e] at hn;cases hn
 rw [he] at hE;exact ⟨p.2,_,_,_,rfl,rfl,hE,Zm (j:=2) rfl,q p hp n' s d f m he⟩
theorem Znd (T:Tx K w mg) (Xd:UX P base T):ZaH P base T:=by
 refine Fun.okX (k:=1) T.Xy.F Zop (fun vs H Q E h=>h.1) (fun cdv A outer s H vs Q E hr h=>?_);obtain ⟨-,h⟩:=h;obtain ⟨v,x,B,rfl,hv,h⟩:=h;refine ⟨_,(Zk (Zw (Zr Zx (ZV (pv 0) T.cl_Book T.Xh.me Xd (hr.mono (by decide)) T.Xh.b .nil Xa (Za (pv 1) Zb)) Zi (fun _ _=>rfl)))),?_⟩;obtain ⟨b,dx,k,bi,li,ti,su,rfl,hB⟩:=id hv;refine ⟨_,rfl,b,dx,_,rfl,hB.ob,rfl,_,rfl,rfl,.ref b,x,B,rfl,hv,?_⟩;rcases h with ⟨ty,hk,ks,qe⟩|⟨n,rfl,qe,q⟩
 ·exact .inl ⟨ty,hk,ks,qe⟩
 refine .inr ⟨n,rfl,qe,fun p hp=>?_⟩;obtain ⟨hm,hn⟩:=Za0 hp;have hE:=hB.en p hm
 obtain ⟨n',s,d,f,m,he⟩:∃n' s d f m,p.1=.born n' s d f m:=by
  cases e:p.1 with
  |born n' s d f m=>exact ⟨n',s,d,f,m,rfl⟩
  |_=>rw [e] at hn;cases hn
 rw [he] at hE;exact ⟨p.2,_,_,_,rfl,rfl,hE,Zm (j:=3) rfl,q p hp n' s d f m he⟩
theorem ZmR (T:Tx K w mg) (UI:ZcI P base T) (Wc:ZaH P base T):Zgj P base T:=by
 refine Fun.okX (k:=2) T.Vz.F Zj7 (fun vs H Q E h=>h.1) (fun cdv A outer s H vs Q E hr h=>?_);obtain ⟨-,h⟩:=h;obtain ⟨v,n,s,d,B,rfl,hv,kn,q⟩:=h;refine ⟨_,(Zk (Zw (ZdD (YZ Yb (pv 1) Zh (Zy _)) (XI (Wk (YZ Yb (ZV (pv 0) T.cl_Book T.Vr.me UI (hr.mono (by decide)) T.Vr.b .nil Xa (Za (pv 1) Zb)) (pv 2) (Zy _)) (XI (YZ UT (ZV (pv 0) T.cl_Book T.Xy.me Wc (hr.mono (by decide)) T.Xy.b .nil Xa (Za (pv 1) Zb)) (pv 3) (Zy _)))))))),?_⟩;obtain ⟨b,dx,k,bi,li,ti,su,rfl,hB⟩:=id hv;refine ⟨_,rfl,rfl,_,rfl,?_⟩;by_cases hn:n=""
 ·have e:XF B n s d=true:=by unfold XF;rw [Qw hn];rfl
  rw [e] at q;exact Z4 (by rw [Xk];exact Qw hn) q
 refine Zv (by rw [Xk];exact Qm hn) ?_;have e0:XF B n s d=(decide (X9 B n=s)&&decide (Yh B n<d)):=by unfold XF;rw [Qm hn];rfl
 rw [e0] at q;refine ⟨_,rfl,b,dx,_,rfl,hB.ob,rfl,_,rfl,rfl,.ref b,.str n,B,rfl,hv,.inr ⟨n,rfl,fun no=>absurd no (kn hn),fun p hp n' s' d' f m he=>?_⟩⟩;rw [ZaW hp he] at q;refine ⟨_,rfl,rfl,_,rfl,?_⟩;by_cases hs:s'=s
 ·rw [Qw hs,Gv] at q;refine Z4 (by rw [Xk];exact Qw hs) ?_;refine ⟨_,rfl,b,dx,_,rfl,hB.ob,rfl,_,rfl,rfl,.ref b,.str n,B,rfl,hv,.inr ⟨n,rfl,fun no=>absurd no (kn hn),fun p2 hp2 n2 s2 d2 f2 m2 he2=>?_⟩⟩;rw [Zae hp2 he2] at q;exact ⟨_,rfl,_,_,rfl,rfl,q⟩
 ·rw [Qm hs,GA] at q;exact Zv (by rw [Xk];exact Qm hs) q
theorem ZiE (T:Tx K w mg) (U2:Zbq P base T) (Zbr:Zhl P base T) (Wc:ZaH P base T) (ZaB:Zgj P base T):Zgy P base T:=by
 refine Fun.okX (k:=3) T.UC.F ZeL (fun vs H Q E h=>h.1) (fun cdv A outer s H vs Q E hr h=>?_);obtain ⟨-,h⟩:=h;obtain ⟨v,x,B,e,rfl,hv,hx,kn,q⟩:=h
 refine ⟨_,(Zn (ZJ (ZE Yb (Zr Zx (pv 1) Zi (fun _ _=>rfl)) Zh (Zy _)) (Zk (Zw (Wk (ZV (pv 0) T.cl_Book T.Vz.me ZaB (hr.mono (by decide)) T.Vz.b .nil Xa (Za (Zr Zx (pv 1) Zi (fun _ _=>rfl)) (Za Zh (Za (Zr Zx (pv 1) Zi (fun _ _=>rfl)) Zb)))) (XI (ZV (pv 0) T.cl_Book T.Vz.me ZaB (hr.mono (by decide)) T.Vz.b .nil Xa (Za (Zr Zx (pv 1) Zi (fun _ _=>rfl)) (Za Zh (Za (Zr Zx (pv 1) Zi (fun _ _=>rfl)) Zb)))))))) ZT)
   (Zn (ZX (i:=2) ZeL.nd rfl (Or.inl rfl) (ZM U2 (hr.mono (by decide)) (by rfl) T.Wm.m T.Wm.F.kp T.Wm.b .nil Zt (Za (pv 1) Zb)))
   (Zn (ZJ (PW.pt (Vh (ZE Yb (Yk XA (by rfl) T.n_len Y6 (Za (pv 2) Zb)) Zi (Zy _)) (VG (ZE Yb (Zr Yz (pv 2) Zi (fun _ _=>rfl)) (Zr Yz (pv 2) Zi (fun _ _=>rfl)) (Zy _))))) (Zk (Zw YR)) ZT)
   (Zn (ZJ (PW.pt (Vh (ZE Yb (Zr Zx (pv 1) Zi (fun _ _=>rfl)) Zh (Zy _)) (VG (ZE JM (ZV (pv 0) T.cl_Book T.Xy.me Wc (hr.mono (by decide)) T.Xy.b .nil Xa (Za (Zr Zx (pv 1) Zi (fun _ _=>rfl)) Zb)) (ZV (pv 0) T.cl_Book T.Xy.me Wc (hr.mono (by decide)) T.Xy.b .nil Xa (Za (Zr Zx (pv 1) Zi (fun _ _=>rfl)) Zb)) (Zy _))))) (Zk (Zw YR)) ZT)
   (Zk (Zw (Yk (Zb0 rfl) (by rfl) T.n_all Zcj (Za (U7 rfl (Jv (N:=["name","entry","self"]) ["self","entry"] [none,some 1,some 0] rfl (by decide +kernel) (by decide +kernel) (by rfl) (by rfl) (by rfl) (by rfl) (by rfl)) (WK (pv 2)) (fun _ _ _=>(Yo (i:=0) Zkt rfl (Or.inl rfl))) (fun _ _ _=>ZaR) (fun _ _ _=>(YZ JM (ZM Zbr (hr.mono (by decide)) (by rfl) T.VZ.m T.VZ.F.kp T.VZ.b .nil Zt (Za (pv 1) Zb)) (ZV (pv 2) T.cl_Book T.Xy.me Wc (hr.mono (by decide)) T.Xy.b .nil Zt (Za (pv 0) Zb)) (Zy _)))) Zb)))))))),?_⟩
 obtain ⟨b,dx,k,bi,li,ti,su,rfl,hB⟩:=id hv;obtain ⟨a,rfl,hE⟩:=id hx;by_cases hb:e.isBorn=true
 ·cases e with
  |born n s d f m =>
   have kf:f≠""->Known B f:=fun h=>kn f (by simp [Ent.named,h]);have km:m≠""->Known B m:=fun h=>kn m (by simp [Ent.named,h]);have q1:=q _ (Same.refl H);have ef:Wb B (.born n s d f m)=(XF B f "he" d&&XF B m "she" d):=rfl;rw [ef] at q1;refine ⟨_,rfl,a,_,_,_,rfl,rfl,hE,Zm (j:=0) rfl,rfl,_,rfl,Z4 (by decide +kernel) ⟨_,rfl,b,dx,_,rfl,hB.ob,rfl,_,rfl,a,_,_,_,rfl,rfl,hE,Zm (j:=4) rfl,_,rfl,a,_,_,_,rfl,rfl,hE,Zm (j:=3) rfl,rfl,.ref b,f,"he",d,B,rfl,hv,kf,_,rfl,Ys (fun h1=>?_) (fun h1=>?_)⟩⟩
   ·rw [h1,Gv] at q1;exact ⟨_,rfl,b,dx,_,rfl,hB.ob,rfl,_,rfl,a,_,_,_,rfl,rfl,hE,Zm (j:=5) rfl,_,rfl,a,_,_,_,rfl,rfl,hE,Zm (j:=3) rfl,rfl,.ref b,m,"she",d,B,rfl,hv,km,q1⟩
   ·rw [h1,GA] at q1;exact q1
  |_=>cases hb
 replace hb:=Rj.mpr hb;rw [Zbf hb] at q
 have w0:∃w:Str,(e.row.map kV)[0]?=some (.str w)∧w≠"born":=by
  cases e with
  |born=>cases hb
  |_=>exact ⟨_,rfl,by decide +kernel⟩
 obtain ⟨w,hw,hwb⟩:=w0;refine ⟨_,rfl,a,_,_,_,rfl,rfl,hE,Zm hw,rfl,_,rfl,Zv (by rw [Xk];exact Qm hwb) ?_⟩;refine ⟨_,rfl,rfl,.ref a,e,rfl,hx,fun H1 D s1 nD hD=>?_⟩;dsimp only [Yj];refine Wl (fun σ H2=>σ=[some (.ref b),some (.ref a),some (.ref D)]∧H2=H1∧e.same=false) (fun nx rest=>?_) (fun σ H2 hJ=>?_)
 ·cases e with
  |born=>cases hb
  |dead n d =>
   exact ⟨_,rfl,D,_,rfl,.inl hD,rfl,_,rfl,Zv rfl (ZW (rest _ _ ⟨rfl,rfl,rfl⟩))⟩
  |_ =>
   refine ⟨_,rfl,D,_,rfl,.inl hD,rfl,_,rfl,Z4 rfl ⟨_,rfl,D,_,_,_,rfl,rfl,hD,Zm (j:=0) rfl,_,rfl,D,_,_,_,rfl,rfl,hD,Zm (j:=1) rfl,rfl,_,rfl,?_⟩⟩;refine Ys (fun h1=>?_) (fun h1=>rest _ _ ⟨rfl,rfl,?_⟩)
   ·have q1:=q _ s1;rw [Xk] at h1;simp only [Ent.same,h1,Bool.not_true,GA] at q1;exact q1
   ·rw [Xk] at h1;exact h1
 obtain ⟨rfl,rfl,hsame⟩:=hJ;have hv2:=hv.mono s1;have hB2:=hB.mono s1;have hE2:=s1.sqt hE;have kn2:∀n∈e.named,∀{P:Prop},ZZ n B.kept=none->P:=fun n h _ no=>absurd no (kn n h);rw [hsame] at q;refine Wl (fun σ H3=>σ=[some (.ref b),some (.ref a),some (.ref D)]∧H3=H2∧e.early B=false) (fun nx rest=>?_) (fun σ H3 hJ=>?_)
 ·cases e with
  |born=>cases hb
  |taken c t d =>
   refine ⟨_,rfl,a,_,_,_,rfl,rfl,hE2,Zm (j:=0) rfl,rfl,_,rfl,Z4 (by decide +kernel) ?_⟩;refine ⟨_,rfl,b,dx,_,rfl,hB2.ob,rfl,_,rfl,a,_,_,_,rfl,rfl,hE2,Zm (j:=2) rfl,rfl,.ref b,.str t,B,rfl,hv2,.inr ⟨t,rfl,kn2 t (by simp [Ent.named]),fun p hp n' s' d' f m he=>?_⟩⟩;refine ⟨_,rfl,b,dx,_,rfl,hB2.ob,rfl,_,rfl,a,_,_,_,rfl,rfl,hE2,Zm (j:=1) rfl,rfl,.ref b,.str c,B,rfl,hv2,.inr ⟨c,rfl,kn2 c (by simp [Ent.named]),fun p2 hp2 n2 s2 d2 f2 m2 he2=>?_⟩⟩;have e1:=Zae hp he;have e2:=Zae hp2 he2;refine ⟨_,_,rfl,rfl,_,rfl,Ys (fun h1=>?_) (fun h1=>rest _ _ ⟨rfl,rfl,?_⟩)⟩
   ·have q1:=q _ s1
    have e3:(Ent.taken c t d).early B=true:=by
     show decide (Yh B c≤Yh B t)=true;rw [e1,e2];exact h1
    rw [e3] at q1;exact q1
   ·show decide (Yh B c≤Yh B t)=false;rw [e1,e2];exact h1
  |_=>exact ⟨_,rfl,a,_,_,_,rfl,rfl,hE2,Zm (j:=0) rfl,rfl,_,rfl,Zv (by decide +kernel) (ZW (rest _ _ ⟨rfl,rfl,rfl⟩))⟩
 obtain ⟨rfl,rfl,hearly⟩:=hJ;rw [hearly] at q;refine ⟨_,rfl,D,rfl,⟨_,hD⟩,Za5 (e.named.map fun n=>V.bl (decide (Yh B n≤e.day))) ?len (fun σ=>∃v,σ=[v,some (.ref a),some (.ref b)]) ⟨_,rfl⟩ (fun i H3 hi sm=>?go) (fun H3 sm=>?stop) (fun i σ H3 x H4 y hy hσ sm hx2 C hC=>?step) (fun D2 H3 nD2 sm hD2=>?fin)⟩
 case len =>
  refine ZK ?_;rw [Qd];cases e with
  |born=>cases hb
  |_=>exact Qz rfl
 case go =>
  have hi':i<(e.named.map V.str).length:=by rw [Qd] at hi ⊢;exact hi
  exact ⟨_,_,sm.sql hD,Qx hi'⟩
 case stop=>exact ⟨_,sm.sql hD,by simp⟩
 case step =>
  obtain ⟨v,rfl⟩:=hσ;obtain ⟨rfl,hx3⟩:=hx2;have e1:=hx3 _ (sm.sql hD);rw [QA] at e1 hy;obtain ⟨n,hn,rfl⟩:=QQ.mp e1;rw [hn] at hy;obtain rfl:V.bl (decide (Yh B n≤e.day))=y:=Qo hy;have hB3:=hB2.mono sm;refine ⟨_,rfl,rfl,.ref a,e,rfl,hx.mono (s1.trans sm),_,rfl,b,dx,_,rfl,hB3.ob,rfl,_,rfl,rfl,.ref b,.str n,B,rfl,hv2.mono sm,.inr ⟨n,rfl,kn2 n (QL hn),fun p hp n' s' d' f m he=>⟨_,_,rfl,rfl,?_⟩⟩⟩;rw [Zae hp he] at hC;exact hC _ _ ⟨_,rfl⟩ (Same.refl _)
 case fin =>
  refine ⟨D2,e.named.map fun n=>decide (Yh B n≤e.day),rfl,by rw [hD2,QU];rfl,?_⟩;have q1:=q _ (s1.trans sm);rw [GM];exact q1
theorem ZjV (T:Tx K w mg) (ZbR:Zg9 P base T) (U2:Zbq P base T) (UZ:Zcu P base T) (Xd:UX P base T) (Zd8:Zgy P base T):Zgd P base T:=by
 refine Fun.okX (k:=4) T.UD.F Zga (fun vs H Q E h=>h.1) (fun cdv A outer s H vs Q E hr h=>?_);obtain ⟨-,h⟩:=h;obtain ⟨v,x,B,e,rfl,hv,hx,hok,no,q⟩:=h
 refine ⟨_,(Zn (ZJ (W2 (Xx (ZM ZbR (hr.mono (by decide)) (by rfl) T.Ul.m T.Ul.F.kp T.Ul.b .nil Zt (Za (pv 1) Zb)))) (Zk (Uf (by rfl) T.m_NoEntry T.x_NoEntry EB rfl Uk (Za Zh Zb))) ZT)
   (Zn (ZJ (ZE JM (Yk Zki (by rfl) T.n_len Y6 (Za (ZS (pv 0) rfl) Zb)) (Xv (v:=.int 400) (by rfl) T.m_MOST_ENTRIES ⟨_,rfl⟩) (Zy _)) (Zk (Uf (by rfl) T.m_Full T.x_Full EB rfl Uk (Za Zh Zb))) ZT)
   (Zn (ZJ (PW.pt (Vh (ZE Yb (Zr Zx (pv 1) Zi (fun _ _=>rfl)) Zh (Zy _)) (VG (ZE JM (Yk ZmI (by rfl) T.n_len Y6 (Za (ZS (pv 0) rfl) Zb)) (Xv (v:=.int 60) (by rfl) T.m_MOST_PEOPLE ⟨_,rfl⟩) (Zy _))))) (Zk (Uf (by rfl) T.m_Full T.x_Full EB rfl Uk (Za Zh Zb))) ZT)
   (Zn (Xg QX rfl (WK (ZM U2 (hr.mono (by decide)) (by rfl) T.Wm.m T.Wm.F.kp T.Wm.b .nil Zt (Za (pv 1) Zb))) (Yo (i:=2) Zga.nd rfl (Or.inl rfl))
    (Zk (Z8 (ZV (pv 0) T.cl_Book T.Xh.me Xd (hr.mono (by decide)) T.Xh.b .nil Xa (Za (pv 2) Zb)))))
   (Zn (ZJ (UA (Zfw (Ye hr) (ZM UZ (hr.mono (by decide)) (by rfl) T.Wx.m T.Wx.F.kp T.Wx.b .nil Zt (Za (pv 1) Zb)) (ZS (pv 0) rfl))) (Zk (Uf (by rfl) T.m_Twice T.x_Twice EB rfl Uk (Za Zh Zb))) ZT)
   (Zk (ZJ (W2 (Xx (ZV (pv 0) T.cl_Book T.UC.me Zd8 (hr.mono (by decide)) T.UC.b .nil Xa (Za (pv 1) Zb)))) (Zk (Uf (by rfl) T.m_NoFit T.x_NoFit EB rfl Uk (Za Zh Zb))) ZT))))))),?_⟩
 obtain ⟨b,dx,k,bi,li,ti,su,rfl,hB⟩:=id hv;obtain ⟨h400,h60,kn',h1,hf⟩:=Zg3 no;obtain ⟨a,rfl,hE⟩:=id hx;refine ⟨_,rfl,rfl,.ref a,rfl,.inr ⟨e.row.map J0,hok.tv hE,e.row_len,fun H1 s1=>⟨_,rfl,?_⟩⟩⟩;rw [hok.en];have hB1:=hB.mono s1;have hE1:=s1.sqt hE;have hlen:B.keptD.length=B.kept.length:=Qd ..;refine ZW ⟨_,rfl,b,T.c_Book,dx,_,_,rfl,hB1.ob,T.cl_Book,T.na_Book_kept,Zbt,k,_,rfl,hB1.ke,_,_,rfl,rfl,_,rfl,Zv (Qm (by rw [hlen];omega)) ?_⟩;dsimp only [ZdH];refine Wl (fun σ H2=>σ=[some (.ref b),some (.ref a),none]∧H2=H1) (fun nx rest=>?_) (fun σ H2 hJ=>?_)
 ·cases e with
  |born n s d f m=>exact ⟨_,rfl,a,_,_,_,rfl,rfl,hE1,Zm (j:=0) rfl,rfl,_,rfl,Z4 (by decide +kernel) ⟨_,rfl,b,T.c_Book,dx,_,_,rfl,hB1.ob,T.cl_Book,T.na_Book_births,Za8,bi,_,rfl,hB1.bi,_,_,rfl,rfl,_,rfl,Zv (Qm (by have:=h60 rfl;omega)) (rest _ _ ⟨rfl,rfl⟩)⟩⟩
  |_=>exact ⟨_,rfl,a,_,_,_,rfl,rfl,hE1,Zm (j:=0) rfl,rfl,_,rfl,Zv (by decide +kernel) (ZW (rest _ _ ⟨rfl,rfl⟩))⟩
 obtain ⟨rfl,rfl⟩:=hJ;refine ⟨_,rfl,rfl,.ref a,e,rfl,hx.mono s1,fun H2 D s2 nD hD=>⟨D,rfl,⟨_,hD⟩,VF (xs:=e.named.map V.str) (fun i σ H3=>(∃v,σ=[some (.ref b),some (.ref a),v])∧Same H2 H3) ⟨⟨_,rfl⟩,Same.refl _⟩ ?sq ?turn ?done⟩⟩
 case sq =>
  rintro i σ H3 hi ⟨_,s3⟩;exact s3.sql hD
 case turn =>
  rintro i x σ H3 hx3 ⟨⟨v,rfl⟩,s3⟩;rw [QA] at hx3;obtain ⟨n,hn,rfl⟩:=QQ.mp hx3;have sa:=s1.trans (s2.trans s3);have hB3:=hB.mono sa;exact ⟨_,rfl,b,dx,_,rfl,hB3.ob,rfl,_,rfl,rfl,.ref b,.str n,B,rfl,hv.mono sa,.inr ⟨n,rfl,fun no=>absurd no (kn' n (QL hn)),fun p hp=>⟨⟨_,rfl⟩,s3⟩⟩⟩
 case done =>
  rintro σ H3 ⟨⟨v,rfl⟩,s3⟩;have sa:=s1.trans (s2.trans s3);refine ⟨_,rfl,rfl,.ref a,e,rfl,hx.mono sa,fun H4 p s4 np hp=>?_⟩;have sb:=sa.trans s4;have hB4:=hB.mono sb;have dg:=DGet.t hB4.ke hp;rw [h1] at dg;refine ⟨_,rfl,b,T.c_Book,dx,_,_,rfl,hB4.ob,T.cl_Book,T.na_Book_kept,Zbt,k,_,rfl,dg,_,rfl,ZW ?_⟩;refine ⟨_,rfl,b,dx,_,rfl,hB4.ob,rfl,_,rfl,rfl,.ref b,.ref a,B,e,rfl,hv.mono sb,hx.mono sb,kn',fun H5 s5=>⟨_,rfl,?_⟩⟩;rw [hf];exact ZW (q _ (sb.trans s5))
theorem Zkr (T:Tx K w mg)  : ZaV P base T:=by
 refine Fun.okX (k:=0) T.Y2.F ZiK (fun vs H Q E h=>h.1) (fun cdv A outer s H vs Q E hr h=>?_);obtain ⟨-,h⟩:=h;obtain ⟨b,dx,k,bi,li,ti,su,B,l,n,m,rfl,hB,hl,hz,q⟩:=h;refine ⟨_,(Zk (WY (Ye hr) (ZS (pv 0) rfl) (ZR (Za (pv 1) (Za (pv 2) Zb))) (Yk (ZmJ K) (by rfl) T.n_sorted Zbj (Za (ZU ZdK (Wf (Ye hr) (ZS (pv 0) rfl) (ZR (Za (pv 1) (Za (pv 2) Zb))) (YK Zb) ⟨rfl,rfl,rfl,rfl⟩) (YK (Za (pv 3) Zb))) Zb)) rfl)),?_⟩;refine ⟨_,rfl,b,T.c_Book,dx,_,_,rfl,hB.ob,T.cl_Book,T.na_Book_links,ZaD,li,rfl,.inr ⟨_,.inl hB.li⟩,_,rfl,_,rfl,few rfl,fun t nt=>⟨few rfl,fun z nz=>?_⟩⟩;have s1:=Zl (o:=.tup [.str l,.str n]) nt;have s2:=Zl (o:=.lst []) nz;have s3:=s1.trans s2;have hz0:(Zc (Zc H t (.tup [.str l,.str n])) z (.lst [])) z=some (.lst []):=Zf;have dg:=DGet.t (k:=ZQ (l,n)) (s3 _ _ hB.li) (s2 _ _ (Zf (o:=.tup [.str l,.str n])));generalize Zc (Zc H t (.tup [.str l,.str n])) z (.lst [])=H2 at *;rw [show B.linksD=B.links.map fun q=>(ZQ q.1,V.ref q.2.1) from rfl,ZbF] at dg
 have rest:∀(D:Addr) (H3:Hp),Same H H3->H D=none->H3 D=some (.lst ((ZB (YA B l n++[m])).map V.str))->Zeh K (UN 0) "links" (L2.start ["self","letter","begin","end"] [.ref b,.str l,.str n,.str m]) H3 fun x H4=>(ZhV (ZdC (UN 1) (ZdC (UN 2) Zdx))) (L2.start ["self","letter","begin","end"] [.ref b,.str l,.str n,.str m]) H4 fun y H5=>∃a H6,x=.ref a∧DPut H5 a y (.ref D) H6∧Q .non H6:=by
  intro D H3 sA nD0 hD;have hB3:=hB.mono sA;refine ⟨_,rfl,b,T.c_Book,dx,_,_,rfl,hB3.ob,T.cl_Book,T.na_Book_links,ZaD,_,rfl,_,rfl,few rfl,fun t2 nt2=>?_⟩;have sB:=Zl (o:=.tup [.str l,.str n]) nt2;have hB4:=hB3.mono sB;refine ⟨li,_,rfl,DPut.t (k:=ZQ (l,n)) hB4.li Zf ?_,?_⟩
  ·rw [show B.linksD.length=B.links.length from Qd ..];exact ZK (by omega)
  rw [show B.linksD=B.links.map fun q=>(ZQ q.1,V.ref q.2.1) from rfl,JV (f:=ZQ) (fun _ _=>VT) (fun p:Addr×List Str=>V.ref p.1) B.links (l,n) (D,ZB (YA B l n++[m]))];refine q _ D (hB4.links fun q hq=>?_) ((But.of [li] (sA.trans sB)).trans (But.put hB4.li (by simp))) nD0;rcases Zaz hq with rfl|hq
  ·exact sB _ _ hD
  ·exact hB4.ll q hq
 refine ⟨_,dg,?_⟩;cases hk:Z2 (l,n) B.links with
 |none =>
   have e:YA B l n=[]:=by unfold YA;rw [hk];rfl
   have hX:H2 z=some (.lst ((YA B l n).map V.str)):=by rw [e];exact hz0
   refine ⟨_,rfl,few rfl,fun y ny=>⟨z,y,_,_,rfl,rfl,(Zd (ZF hX ny)).trans hX,Zf,?len,fun p np=>⟨p,YA B l n++[m],rfl,.of (by rw [Zf,Qs];rfl),?len2,fun D zs nD perm so=>?go⟩⟩⟩
   case len=>rw [Qd];exact QN (ZK (by show _+1≤1000;omega))
   case len2=>rw [Qn];show _+1<64;omega
   have s4:=(s3.trans (Zl ny)).trans ((Zl np).trans (Zl (o:=.lst (zs.map V.str)) nD));have hDD:(Zc (Zc (Zc H2 y (.lst [V.str m])) p (.lst ((YA B l n).map V.str++[V.str m]))) D (.lst (zs.map V.str))) D=some (.lst (zs.map V.str)):=Zf;rw [Zfk perm so] at hDD s4 ⊢;exact rest D _ s4 (Z5 ((s3.trans (Zl ny)).trans (Zl np)) nD) hDD
 |some x =>
   have e:YA B l n=x.2:=by unfold YA;rw [hk];rfl
   obtain ⟨y0,hy0,ey⟩:=ZbT hk;have hl2:=hB.ll y0 hy0;rw [ey] at hl2;have hX:H2 x.1=some (.lst ((YA B l n).map V.str)):=by rw [e];exact (s3 _ _ hl2)
   refine ⟨_,rfl,few rfl,fun y ny=>⟨x.1,y,_,_,rfl,rfl,(Zd (ZF hX ny)).trans hX,Zf,?lenb,fun p np=>⟨p,YA B l n++[m],rfl,.of (by rw [Zf,Qs];rfl),?len2b,fun D zs nD perm so=>?gob⟩⟩⟩
   case lenb=>rw [Qd];exact QN (ZK (by show _+1≤1000;omega))
   case len2b=>rw [Qn];show _+1<64;omega
   have s4:=(s3.trans (Zl ny)).trans ((Zl np).trans (Zl (o:=.lst (zs.map V.str)) nD));have hDD:(Zc (Zc (Zc H2 y (.lst [V.str m])) p (.lst ((YA B l n).map V.str++[V.str m]))) D (.lst (zs.map V.str))) D=some (.lst (zs.map V.str)):=Zf;rw [Zfk perm so] at hDD s4 ⊢;exact rest D _ s4 (Z5 ((s3.trans (Zl ny)).trans (Zl np)) nD) hDD
theorem Zjo (T:Tx K w mg) (XJ:ZaV P base T):ZgH P base T:=by
 refine Fun.okX (k:=1) T.Jk.F Zn4 (fun vs H Q E h=>h.1) (fun cdv A outer s H vs Q E hr h=>?_);obtain ⟨-,h⟩:=h;obtain ⟨b,dx,k,bi,li,ti,su,B0,B,n,s,d,f,m,a,rfl,hk,hb,hbi,no,hl0,hE,hB,hz,hc,q⟩:=h
 refine ⟨_,(Zn (WY (Ye hr) (ZS (pv 0) rfl) (Zr Zx (pv 1) Zi (fun _ _=>rfl)) (pv 1) rfl)
   (Zn (ZJ (ZE XR (Zr Zx (pv 1) Zi (fun _ _=>rfl)) Zh (Zy _)) (Zn (Z8 (ZV (pv 0) T.cl_Book T.Y2.me XJ (hr.mono (by decide)) T.Y2.b .nil Zt (Za Zh (Za (Zr Zx (pv 1) Zi (fun _ _=>rfl)) (Za (Zr Zx (pv 1) Zi (fun _ _=>rfl)) Zb)))))
   (Zk (Z8 (ZV (pv 0) T.cl_Book T.Y2.me XJ (hr.mono (by decide)) T.Y2.b .nil Zt (Za Zh (Za (Zr Zx (pv 1) Zi (fun _ _=>rfl)) (Za (Zr Zx (pv 1) Zi (fun _ _=>rfl)) Zb))))))) ZT)
   (Zk (ZJ (ZE XR (Zr Zx (pv 1) Zi (fun _ _=>rfl)) Zh (Zy _)) (Zn (Z8 (ZV (pv 0) T.cl_Book T.Y2.me XJ (hr.mono (by decide)) T.Y2.b .nil Zt (Za Zh (Za (Zr Zx (pv 1) Zi (fun _ _=>rfl)) (Za (Zr Zx (pv 1) Zi (fun _ _=>rfl)) Zb)))))
   (Zk (Z8 (ZV (pv 0) T.cl_Book T.Y2.me XJ (hr.mono (by decide)) T.Y2.b .nil Zt (Za Zh (Za (Zr Zx (pv 1) Zi (fun _ _=>rfl)) (Za (Zr Zx (pv 1) Zi (fun _ _=>rfl)) Zb))))))) ZT)))),?_⟩
 have hb0:ZI (Bk.bornD B0) (.inr n:Zj)=none:=by rw [ZcV,no];rfl
 refine ⟨_,rfl,_,rfl,b,T.c_Book,dx,_,_,rfl,hb,T.cl_Book,T.na_Book_births,Za8,_,rfl,a,_,_,_,rfl,rfl,hE,Zm (j:=1) rfl,bi,_,rfl,DPut.k (k:=.inr n) hbi (ZK (Qq (Qq (ZlI B0) hl0) (by decide))),?_⟩;rw [ZaL _ hb0,←Zpk B0 n s d f m a,←hk];have bt0:But [bi,li] H (Zc H bi (.dK (Bk.bornD B.kept))):=But.put hbi (by simp);generalize Zc H bi (.dK (Bk.bornD B.kept))=H3 at *;have hmem:(Ent.born n s d f m,a)∈B.kept:=by rw [hk];simp
 dsimp only [ZdH];refine Wl (fun σ H4=>σ=[some (.ref b),some (.ref a)]∧∃ls,BkAt K T.c_Book H4 b dx k bi li ti su { B with links:=ls }∧(∀c,lk ls c=(if f="" then lk B.links else Z0 (Z0 (lk B.links) ("F",n) f) ("f",f) n) c)∧ls.length≤B.links.length+2∧But [bi,li] H H4∧Grows H B.links ls) (fun nx rest=>?_) (fun σ H4 hJ=>?_)
 ·have hE3:=hB.en _ hmem;refine ⟨_,rfl,a,_,_,_,rfl,rfl,hE3,Zm (j:=4) rfl,rfl,_,rfl,?_⟩;by_cases f0:f=""
  ·refine Zv (by show (!decide (V.str f=V.str ""))=false;rw [Xk,Qw f0];rfl) (rest _ _ ⟨rfl,B.links,hB,fun c=>by rw [Qb f0],by omega,bt0,Grows.refl _ _⟩)
  have ⟨ls,hls,hB4,hF⟩:∃ls,ls=B.links∧BkAt K T.c_Book H3 b dx k bi li ti su { B with links:=ls }∧∀c,lk ls c=lk B.links c:=⟨B.links,rfl,hB,fun c=>rfl⟩;have hz2:ls.length≤890:=by rw [hls];exact hz
  have hz3:ls.length≤B.links.length:=by rw [hls];exact Qf _
  refine Z4 (by show (!decide (V.str f=V.str ""))=true;rw [Xk,Qm f0];rfl) ?_;have hE4:=hB4.en _ hmem;refine ⟨_,rfl,b,dx,_,rfl,hB4.ob,rfl,_,rfl,a,_,_,_,rfl,rfl,hE4,Zm (j:=1) rfl,_,rfl,a,_,_,_,rfl,rfl,hE4,Zm (j:=4) rfl,rfl,b,dx,k,bi,li,ti,su,{ B with links:=ls },"F",n,f,rfl,hB4,?p1,?p2,fun H5 D5 hB5 bt5 nD5=>?p3⟩
  case p1=>rw [Uj,hF];exact hc _
  case p2=>show ls.length≤900;omega
  have hE5:=hB5.en _ hmem;refine ⟨_,rfl,b,dx,_,rfl,hB5.ob,rfl,_,rfl,a,_,_,_,rfl,rfl,hE5,Zm (j:=4) rfl,_,rfl,a,_,_,_,rfl,rfl,hE5,Zm (j:=1) rfl,rfl,b,dx,k,bi,li,ti,su,_,"f",f,n,rfl,hB5,?p4,?p5,fun H6 D6 hB6 bt6 nD6=>?p6⟩
  case p4 =>
   rw [Uj];show (lk (Zo ls _ (D5,ZB (lk ls ("F",n)++[f]))) _).length≤61;rw [Vi,JH (show Str.ofString "f"≠Str.ofString "F" by decide +kernel),hF];exact hc _
  case p5 =>
   have:=XT ls ("F",n) (D5,ZB (lk ls ("F",n)++[f]));show (Zo ls _ (D5,ZB (lk ls ("F",n)++[f]))).length≤900;omega
  refine rest _ _ ⟨rfl,_,hB6,fun c=>?_,?_,?_,((hls▸Grows.refl _ _:Grows H B.links ls).put (bt0.al _ nD5)).put (bt0.al _ (bt5.al _ nD6))⟩
  ·show lk (Zo (Zo ls ("F",n) (D5,ZB (lk ls ("F",n)++[f]))) ("f",f) (D6,ZB (lk (Zo ls ("F",n) (D5,ZB (lk ls ("F",n)++[f]))) ("f",f)++[n]))) c=_;rw [Vi];rw [Qa f0];exact Jz (fun c=>(Vi ..).trans (Jz hF ..)) ..
  ·have a1:=XT ls ("F",n) (D5,ZB (lk ls ("F",n)++[f]));have a2:=XT (Zo ls ("F",n) (D5,ZB (lk ls ("F",n)++[f]))) ("f",f) (D6,ZB (lk (Zo ls ("F",n) (D5,ZB (lk ls ("F",n)++[f]))) ("f",f)++[n]));show (Zo (Zo ls ("F",n) (D5,ZB (lk ls ("F",n)++[f]))) ("f",f) (D6,ZB (lk (Zo ls ("F",n) (D5,ZB (lk ls ("F",n)++[f]))) ("f",f)++[n]))).length≤_;omega
  ·exact bt0.trans ((bt5.mono (by simp)).trans (bt6.mono (by simp)))
 obtain ⟨rfl,ls,hB4,hF,hl4,bt4,gr⟩:=hJ;have hE3:=hB4.en _ hmem;refine ⟨_,rfl,a,_,_,_,rfl,rfl,hE3,Zm (j:=5) rfl,rfl,_,rfl,?_⟩;by_cases m0:m=""
 ·refine Zv (by show (!decide (V.str m=V.str ""))=false;rw [Xk,Qw m0];rfl) (q _ ls hB4 (fun c=>?_) (by omega) bt4 gr);unfold Xl;rw [Qb m0];exact hF c
 ·have h1:∀c:Str×Str,c.1≠"F"->c.1≠"f"->((if f="" then lk B.links else Z0 (Z0 (lk B.links) ("F",n) f) ("f",f) n) c).length≤61:=by
   intro c c1 c2;by_cases f0:f=""
   ·rw [Qb f0];exact hc c
   ·rw [Qa f0,JH c2,JH c1];exact hc c
  refine Z4 (by show (!decide (V.str m=V.str ""))=true;rw [Xk,Qm m0];rfl) ?_;have hE4:=hB4.en _ hmem;refine ⟨_,rfl,b,dx,_,rfl,hB4.ob,rfl,_,rfl,a,_,_,_,rfl,rfl,hE4,Zm (j:=1) rfl,_,rfl,a,_,_,_,rfl,rfl,hE4,Zm (j:=5) rfl,rfl,b,dx,k,bi,li,ti,su,{ B with links:=ls },"M",n,m,rfl,hB4,?r1,?r2,fun H5 D5 hB5 bt5 nD5=>?r3⟩
  case r1=>rw [Uj,hF];exact (h1 _ (show Str.ofString "M"≠Str.ofString "F" by decide +kernel) (show Str.ofString "M"≠Str.ofString "f" by decide +kernel))
  case r2=>show ls.length≤900;omega
  have hE5:=hB5.en _ hmem;refine ⟨_,rfl,b,dx,_,rfl,hB5.ob,rfl,_,rfl,a,_,_,_,rfl,rfl,hE5,Zm (j:=5) rfl,_,rfl,a,_,_,_,rfl,rfl,hE5,Zm (j:=1) rfl,rfl,b,dx,k,bi,li,ti,su,_,"m",m,n,rfl,hB5,?r4,?r5,fun H6 D6 hB6 bt6 nD6=>?r6⟩
  case r4 =>
   rw [Uj];show (lk (Zo ls _ (D5,ZB (lk ls ("M",n)++[m]))) _).length≤61;rw [Vi,JH (show Str.ofString "m"≠Str.ofString "M" by decide +kernel),hF];exact (h1 _ (show Str.ofString "m"≠Str.ofString "F" by decide +kernel) (show Str.ofString "m"≠Str.ofString "f" by decide +kernel))
  case r5 =>
   have:=XT ls ("M",n) (D5,ZB (lk ls ("M",n)++[m]));show (Zo ls _ (D5,ZB (lk ls ("M",n)++[m]))).length≤900;omega
  refine q _ _ hB6 (fun c=>?_) ?_ ?_ ((gr.put (bt4.al _ nD5)).put (bt4.al _ (bt5.al _ nD6)))
  ·show lk (Zo (Zo ls ("M",n) (D5,ZB (lk ls ("M",n)++[m]))) ("m",m) (D6,ZB (lk (Zo ls ("M",n) (D5,ZB (lk ls ("M",n)++[m]))) ("m",m)++[n]))) c=_;rw [Vi];unfold Xl;rw [Qa m0];exact Jz (fun c=>(Vi ..).trans (Jz hF ..)) ..
  ·have a1:=XT ls ("M",n) (D5,ZB (lk ls ("M",n)++[m]));have a2:=XT (Zo ls ("M",n) (D5,ZB (lk ls ("M",n)++[m]))) ("m",m) (D6,ZB (lk (Zo ls ("M",n) (D5,ZB (lk ls ("M",n)++[m]))) ("m",m)++[n]));show (Zo (Zo ls ("M",n) (D5,ZB (lk ls ("M",n)++[m]))) ("m",m) (D6,ZB (lk (Zo ls ("M",n) (D5,ZB (lk ls ("M",n)++[m]))) ("m",m)++[n]))).length≤_;omega
  ·exact bt4.trans ((bt5.mono (by simp)).trans (bt6.mono (by simp)))
theorem ZjF (T:Tx K w mg) (Zch:ZfZ P base T) (Xd:UX P base T):ZcD P base T:=by
 refine Fun.okX (k:=1) T.VC.F Zmt (fun vs H Q E h=>h.1) (fun cdv A outer s H vs Q E hr h=>?_);obtain ⟨-,h⟩:=h;obtain ⟨v,x,y,B,rfl,hv,h⟩:=h
 refine ⟨_,(Zn (ZJ (W2 (Xx (ZM Zch (hr.mono (by decide)) (by rfl) T.V7.m T.V7.F.kp T.V7.b .nil Zt (Za (pv 1) Zb)))) (Zk (Uf (by rfl) T.m_NoWay T.x_NoWay EB rfl Uk (Za Zh Zb))) ZT)
   (Zn (Z8 (ZV (pv 0) T.cl_Book T.Xh.me Xd (hr.mono (by decide)) T.Xh.b .nil Xa (Za (pv 2) Zb)))
   (Zk (Zw (Zc7 Zjp (by rfl) T.n_list Zpg (Za (Wf (Ye hr) (ZS (pv 0) rfl) (ZR (Za (pv 1) (Za (pv 2) Zb))) (YK Zb) ⟨rfl,rfl,rfl,rfl⟩) Zb)))))),?_⟩
 obtain ⟨b,dx,k,bi,li,ti,su,rfl,hB⟩:=id hv;rcases h with ⟨ty,hk,ks,qe⟩|⟨l,rfl,q1,q23⟩
 ·exact ⟨_,rfl,rfl,x,rfl,.inl ⟨ty,hk,ks,_,rfl,Z1 ⟨few rfl,qe⟩⟩⟩
 refine ⟨_,rfl,rfl,.str l,rfl,.inr ⟨l,rfl,_,rfl,?_⟩⟩;cases hl:Ja l with
 |false=>exact Z1 ⟨few rfl,q1 hl⟩
 |true =>
  refine ZW ⟨_,rfl,b,dx,_,rfl,hB.ob,rfl,_,rfl,rfl,.ref b,y,B,rfl,hv,?_⟩;rcases q23 hl with ⟨ty,hk,ks,qe⟩|⟨n,rfl,q2,q3⟩
  ·exact .inl ⟨ty,hk,ks,qe⟩
  refine .inr ⟨n,rfl,q2,fun p hp=>?_⟩;have kn:Known B n:=by unfold Known;rw [hp];simp
  refine ⟨_,rfl,b,T.c_Book,dx,_,_,rfl,hB.ob,T.cl_Book,T.na_Book_links,ZaD,li,rfl,.inr ⟨_,.inl hB.li⟩,_,rfl,_,rfl,few rfl,fun t nt=>⟨few rfl,fun z nz=>?_⟩⟩;have s1:=Zl (o:=.tup [.str l,.str n]) nt;have s2:=Zl (o:=.lst []) nz;have s3:=s1.trans s2;have dg:=DGet.t (k:=ZQ (l,n)) (s3 _ _ hB.li) (s2 _ _ (Zf (o:=.tup [.str l,.str n])));rw [show B.linksD=B.links.map fun q=>(ZQ q.1,V.ref q.2.1) from rfl,ZbF] at dg;refine ⟨_,dg,?_⟩;cases hk:Z2 (l,n) B.links with
  |none =>
   have e:YA B l n=[]:=by unfold YA;rw [hk];rfl
   rw [e] at q3;exact ⟨z,[],rfl,.inl (.of Zf),fun D nD=>q3 kn _ D (s3.trans (Zl nD)) (Z5 s3 nD) Zf⟩
  |some x =>
   have e:YA B l n=x.2:=by unfold YA;rw [hk];rfl
   rw [e] at q3;obtain ⟨y,hy,ey⟩:=ZbT hk;have hl2:=hB.ll y hy;rw [ey] at hl2;exact ⟨x.1,_,rfl,.inl (.of (s3 _ _ hl2)),fun D nD=>q3 kn _ D (s3.trans (Zl nD)) (Z5 s3 nD) Zf⟩
theorem Zno (T:Tx K w mg) (UF:ZdR P base T) (Xd:UX P base T):ZfM P base T:=by
 refine FunD.okX (k:=1) T.F_Book_stands Zd2 (fun vs H Q E h=>h.1) (fun cdv A outer s H vs Q E hr h=>?_);obtain ⟨-,h⟩:=h;obtain ⟨v,a,c,B,rfl,hv,ka,kc,hlen,q⟩:=h
 refine ⟨_,(Zn (Z8 (ZV (pv 0) T.cl_Book T.Xh.me Xd (hr.mono (by decide)) T.Xh.b .nil Xa (Za (pv 1) Zb)))
   (Zn (Z8 (ZV (pv 0) T.cl_Book T.Xh.me Xd (hr.mono (by decide)) T.Xh.b .nil Xa (Za (pv 2) Zb)))
   (Zn (ZX (i:=4) Zd2.nd rfl (Or.inl rfl) (Wf (Ye hr) (ZS (pv 0) rfl) (ZM UF (hr.mono (by decide)) (by rfl) T.WB.m T.WB.F.kp T.WB.b .nil Zt (Za (pv 1) (Za (pv 2) Zb))) ZaJ ⟨rfl,rfl,rfl,rfl⟩))
   (Zn (Zfa (Zom (i:=5) rfl  Zd2.nd rfl (Or.inl rfl) (Jv (N:=["tied_on","day"]) ["day"] [none,some 3] rfl (by decide +kernel) (by decide +kernel) (by rfl) (by rfl) (by rfl) (by rfl) (by rfl)) (ZgA (pv 4)) (fun _ _ _=>(Yo (i:=0) Zlp rfl (Or.inl rfl))) (fun _ _ _=>(Zc1 (PW.pt (WU (ZE Zf4 (pv 1) ZcT (Zy _)) (Vo (ZE Zda (pv 0) (pv 1) (Zy _))))))) (fun _ _ _=>(pv 0))))
   (Zk (Zw (Wk (YZ ZbD (Yk XA (by rfl) T.n_len Y6 (Za (pv 5) Zb)) Zi (Zy _)) (XI (YZ Yb (Zan (Ye hr) (pv 4) (Yk (Zex K rfl) (by rfl) T.n_max ZbC (Za (pv 5) Zb)) (fun _ _=>rfl)) Zh (Zy _)))))))))),?_⟩
 obtain ⟨b,dx,k,bi,li,ti,su,rfl,hB⟩:=id hv;refine ⟨_,rfl,b,dx,_,rfl,hB.ob,rfl,_,rfl,rfl,.ref b,.str a,B,rfl,hv,.inr ⟨a,rfl,fun no=>absurd no ka,fun p1 hp1=>?_⟩⟩;refine ⟨_,rfl,b,dx,_,rfl,hB.ob,rfl,_,rfl,rfl,.ref b,.str c,B,rfl,hv,.inr ⟨c,rfl,fun no=>absurd no kc,fun p2 hp2=>?_⟩⟩;dsimp only;refine Wl (fun σ' H'=>∃d,σ'=[some (.ref b),some (.str a),some (.str c),some .non,some (.ref d),none]∧Same H H'∧H' d=some (.dK (YN (Yy B (Ze a c))))) (fun nx hnx=>?_) ?_
 ·refine ⟨_,rfl,b,T.c_Book,dx,_,_,rfl,hB.ob,T.cl_Book,T.na_Book_ties,Zfe,ti,rfl,.inr ⟨_,.inl hB.ti⟩,_,rfl,_,rfl,rfl,a,c,rfl,fun H1 t s1 nt ht=>fun z nz=>?_⟩;have s2:=Zl (o:=.dK []) nz;have s3:=s1.trans s2;have dg:=DGet.t (k:=ZQ (Ze a c)) (s3 _ _ hB.ti) (s2 _ _ ht);rw [show B.tiesD=B.ties.map fun q=>(ZQ q.1,V.ref q.2.1) from rfl,Zal (f:=ZQ) (fun _ _=>VT) (fun p:Addr×List (Int×Str)=>V.ref p.1)] at dg;refine ⟨_,dg,?_⟩;cases hk:ZC (Ze a c) B.ties with
  |none =>
   refine hnx _ _ ⟨z,rfl,s3,?_⟩;have e:Yy B (Ze a c)=[]:=by unfold Yy;rw [hk];rfl
   rw [e];exact Zf
  |some x =>
   refine hnx _ _ ⟨x.1,rfl,s3,?_⟩;have e:Yy B (Ze a c)=x.2:=by unfold Yy;rw [hk];rfl
   rw [e];exact s3 _ _ (hB.tt _ (Ua hk))
 rintro σ' H2 ⟨d,rfl,s2,hd⟩;have est:Zar B a c=YI (Yy B (Ze a c)):=rfl;rw [est] at q;generalize Yy B (Ze a c)=l at *;have llen:(YN l).length=l.length:=Qd ..;refine ⟨d,YN l,hd,_,rfl,d,YN l,rfl,hd,fun o=>Zbo (l.map fun r=>some (V.int r.1)) (ZK (by rw [Qd];omega)) (fun σ=>∃w,σ=[w,some .non]) ⟨_,rfl⟩ (fun i H3 hi sm=>?go) (fun H3 sm=>?stop) (fun i σ H3 x H4 y hy hσ sm hx C hC=>?step) (fun D H3 nD sm hD=>?fin)⟩
 case go=>exact ⟨sm _ _ Zf,by rw [llen];rw [Qd] at hi;exact hi⟩
 case stop=>exact ⟨sm _ _ Zf,by rw [llen,Qd];exact Qf _⟩
 case step =>
  obtain ⟨w,rfl⟩:=hσ;obtain ⟨rfl,hx2⟩:=hx;rw [QA] at hy;obtain ⟨r,hr2,rfl⟩:=QQ.mp hy
  have ex:x=.int r.1:=by
   unfold YN at hx2;rw [QA,hr2] at hx2;exact (Qo hx2).symm
  subst ex;refine ⟨_,rfl,rfl,_,rfl,Z4 (by rfl) (Z1 ⟨_,rfl,hC _ _ ⟨_,rfl⟩ (Same.refl _)⟩)⟩
 case fin =>
  have ef:(l.map fun r=>some (V.int r.1)).filterMap id=(l.map (·.1)).map V.int:=by
   rw [List.filterMap_map,QU];exact List.filterMap_eq_map▸rfl
  rw [ef] at hD;refine ⟨o,sm _ _ Zf,?_⟩;have nDd:D≠d:=fun e=>by subst e;rw [Zf] at nD;cases nD
  have hD4:(Zc H3 d (.dK (YN l))) D=some (.lst ((l.map (·.1)).map V.int)):=(Zd nDd).trans hD;have hd4:(Zc H3 d (.dK (YN l))) d=some (.dK (YN l)):=Zf
  have s4:Same H2 (Zc H3 d (.dK (YN l))):=fun x u e=>by
   by_cases xd:x=d
   ·subst xd;rw [hd] at e;cases e;exact hd4
   ·rw [Zd xd];exact sm _ _ ((Zd xd).trans e)
  generalize Zc H3 d (.dK (YN l))=H5 at *;refine ⟨_,rfl,D,_,rfl,.inl (.of hD4),_,_,rfl,rfl,_,rfl,?_⟩;rw [Qd,Qd];cases l with
  |nil=>exact ZW (q _ (s2.trans s4))
  |cons r0 l0 =>
   refine Z4 (Qw (by rw [QK];omega)) ⟨_,rfl,_,rfl,D,(r0::l0).map (·.1),rfl,.of hD4,by simp,fun m hm hx=>?_⟩;obtain ⟨x,ex⟩:=ZlX hm;have dg:=DGet.k (k:=.inl m) hd4;rw [show YN (r0::l0)=(r0::l0).map fun q=>((.inl q.1:Zj),V.str q.2) from rfl,Zal (f:=(Sum.inl:Int->Zj)) Zgs V.str,ex] at dg;have q2:=q _ (s2.trans s4);rw [ZhA hm hx ex] at q2;refine ⟨d,.str x,rfl,dg,rfl,?_⟩;rw [Xk];exact q2
theorem Zn2 (T:Tx K w mg) (UF:ZdR P base T) (XJ:ZaV P base T) (UJ:ZcD P base T) (Zcc:ZfM P base T):Zft P base T:=by
 refine Fun.okX (k:=2) T.US.F Zat (fun vs H Q E h=>h.1) (fun cdv A outer s H vs Q E hr h=>?_);obtain ⟨-,h⟩:=h;obtain ⟨b,dx,k,bi,li,ti,su,B,a,kd,p1,p2,d,rfl,hE,hB,k1,k2,nd,tl,dl,ll,lf,q⟩:=h
 refine ⟨_,(Zn (ZX (i:=2) Zat.nd rfl (Or.inl rfl) (ZkL (Ye hr) (ZS (pv 0) rfl) (ZM UF (hr.mono (by decide)) (by rfl) T.WB.m T.WB.F.kp T.WB.b .nil Zt (Za (Zr Zx (pv 1) Zi (fun _ _=>rfl)) (Za (Zr Zx (pv 1) Zi (fun _ _=>rfl)) Zb))) ZaJ ⟨rfl,rfl,rfl,rfl⟩))
   (Zn (WY (Ye hr) (pv 2) (Zr Zx (pv 1) Zi (fun _ _=>rfl)) (Zr Zx (pv 1) Zi (fun _ _=>rfl)) rfl)
   (Zk (Xg QX rfl (U3 (ZR (Za (ZR (Za (Zr Zx (pv 1) Zi (fun _ _=>rfl)) (Za (Zr Zx (pv 1) Zi (fun _ _=>rfl)) Zb))) (Za (ZR (Za (Zr Zx (pv 1) Zi (fun _ _=>rfl)) (Za (Zr Zx (pv 1) Zi (fun _ _=>rfl)) Zb))) Zb)))) (Zaa rfl (WQ (Yo (i:=3) Zat.nd rfl (Or.inl rfl)) (WQ (Yo (i:=4) Zat.nd rfl (Or.inr rfl)) Jw)))
    (Zn (WY (Ye hr) (ZS (pv 0) rfl) (ZR (Za Zh (Za (pv 3) Zb))) (U7 rfl (Jv (N:=["name","end"]) ["end"] [none,some 4] rfl (by decide +kernel) (by decide +kernel) (by rfl) (by rfl) (by rfl) (by rfl) (by rfl)) (WK (ZV (pv 0) T.cl_Book T.VC.me UJ (hr.mono (by decide)) T.VC.b .nil Zt (Za Zh (Za (pv 3) Zb)))) (fun _ _ _=>(Yo (i:=0) ZjQ rfl (Or.inl rfl))) (fun _ _ _=>(Zc1 (ZE XR (pv 0) (pv 1) (Zy _)))) (fun _ _ _=>(pv 0))) rfl)
   (Zk (ZJ (Xx (ZV (pv 0) T.cl_Book T.me_Book_stands Zcc (hr.mono (by decide)) T.b_Book_stands (.cons (show RelV V.non Value.none from rfl) .nil) Zt (Za (pv 3) (Za (pv 4) Zb)))) (Zk (Z8 (ZV (pv 0) T.cl_Book T.Y2.me XJ (hr.mono (by decide)) T.Y2.b .nil Zt (Za Zh (Za (pv 3) (Za (pv 4) Zb)))))) ZT))))))),?_⟩
 refine Wl (fun σ' H'=>∃y ts,σ'=[some (.ref b),some (.ref a),some (.ref y),none,none]∧BkAt K T.c_Book H' b dx k bi li ti su { B with ties:=ts }∧(ts.map (·.1)).Nodup∧ts.length≤B.ties.length+1∧ZC (Ze p1 p2) ts=some (y,Yy B (Ze p1 p2))∧(∀c,YU ts c=Yy B c)∧But [li,ti,y] H H'∧(H y=none∨y∈B.ties.map (·.2.1))∧GrowsT H B.ties ts∧SqT K H' a [.str kd,.str p1,.str p2,.int d]) (fun nx hnx=>?_) ?_
 ·refine ⟨_,rfl,b,T.c_Book,dx,_,_,rfl,hB.ob,T.cl_Book,T.na_Book_ties,Zfe,ti,rfl,.inr ⟨_,.inl hB.ti⟩,_,rfl,a,_,_,_,rfl,rfl,hE,Zm (j:=1) rfl,_,rfl,a,_,_,_,rfl,rfl,hE,Zm (j:=2) rfl,rfl,p1,p2,rfl,fun H1 t s1 nt ht=>fun z nz=>?_⟩;have s2:=Zl (o:=.dK []) nz;have s3:=s1.trans s2;have hB1:=hB.mono s1;have hB3:=hB.mono s3;have hlen:B.tiesD.length=B.ties.length:=Qd ..;have hval:ZI B.tiesD (ZQ (Ze p1 p2))=(ZC (Ze p1 p2) B.ties).map fun p=>V.ref p.1:=Zal (f:=ZQ) (fun _ _=>VT) (fun p:Addr×List (Int×Str)=>V.ref p.1) _ _;refine ⟨_,ZQ (Ze p1 p2),t,hB3.ti,rfl,s2 _ _ ht,by rw [hlen];exact ZK (by omega),fun v hv=>?_,fun hn=>?_⟩
  ·rw [hval] at hv;obtain ⟨x,hk,rfl⟩:=QQ.mp hv;have e:Yy B (Ze p1 p2)=x.2:=by unfold Yy;rw [hk];rfl
   exact hnx _ _ ⟨x.1,B.ties,rfl,hB3,nd,by omega,by rw [hk,e],fun c=>rfl,But.of _ s3,.inr (Qg.mpr ⟨_,Ua hk,rfl⟩),GrowsT.refl _ _,s3.sqt hE⟩
  ·rw [hval] at hn;have hk:ZC (Ze p1 p2) B.ties=none:=by simpa using hn
   have e:Yy B (Ze p1 p2)=[]:=by unfold Yy;rw [hk];rfl
   have zn:∀{x:Addr} {o:HO},H1 x=some o->x≠z:=fun h=>ZF h nz;refine hnx _ _ ⟨z,B.ties++[(Ze p1 p2,z,[])],rfl,hB3.newTie Zf ⟨(zn hB1.bi).symm,fun q hq=>zn (hB1.tt q hq)⟩ _,?_,by rw [Qn];exact Qf _,?_,fun c=>Zix _ _ _ _ hk,?_,.inl (Z5 s1 nz),(fun a ha=>by rw [Qs] at ha;exact (Ql.mp ha).imp id (fun ha=>by rw [show a=z by simpa using ha];exact Z5 s1 nz)),?_⟩
   ·rw [Qs,QW];refine ⟨nd,by simp,fun x hx w hw ex=>?_⟩;have ew:w=Ze p1 p2:=by simpa using hw
    subst ew ex;obtain ⟨p,hp,ep⟩:=Qg.mp hx;have:=Zbi hk;rw [G9] at this;exact absurd (Qw ep) (this p hp)
   ·rw [ZaG,hk,e];unfold ZC;rw [Qb rfl];rfl
   ·exact (But.of _ s3).trans (But.put hB3.ti (by simp))
   ·exact X4 (s3.sqt hE) hB3.ti (fun _ z=>by cases z) (fun _ _ z=>by cases z)
 rintro σ' H1 ⟨y,ts,rfl,hB1,Jt,tl1,hf,htf,bt1,hy0,grT,hE1⟩;generalize hl:Yy B (Ze p1 p2)=l at *;have hy:H1 y=some (.dK (YN l)):=hB1.tt _ (Ua hf);have hB2:=hB1.putTie Jt hf (Zo l d kd);obtain ⟨pa1,pa2⟩:=Zeb (l':=Zo l d kd) Jt hf;have grT2:GrowsT H B.ties (Zo ts (Ze p1 p2) (y,Zo l d kd)):=fun a ha=>grT a (by rw [←pa1];exact ha)
 have tl2:(Zo ts (Ze p1 p2) (y,Zo l d kd)).length=ts.length:=by
  have:=Qy List.length pa1
  rwa [Qd,Qd] at this
 have htf2:∀c,YU (Zo ts (Ze p1 p2) (y,Zo l d kd)) c=if c=Ze p1 p2 then Zo l d kd else Yy B c:=fun c=>by rw [ZiL,htf]
 have Jl:((Zo ts (Ze p1 p2) (y,Zo l d kd)).map (·.1)).Nodup:=by rw [pa2];exact Jt
 have hE2:SqT K (Zc H1 y (.dK (YN (Zo l d kd)))) a [.str kd,.str p1,.str p2,.int d]:=X4 hE1 hy (fun _ z=>by cases z) (fun _ _ z=>by cases z);have bt2:But [li,ti,y] H (Zc H1 y (.dK (YN (Zo l d kd)))):=bt1.trans (But.put hy (by simp));have dlen:(YN l).length=l.length:=Qd ..;refine ⟨_,rfl,a,_,_,_,rfl,rfl,hE1,Zm (j:=0) rfl,_,rfl,_,rfl,a,_,_,_,rfl,rfl,hE1,Zm (j:=3) rfl,y,_,rfl,DPut.k (k:=.inl d) hy (by rw [dlen];exact ZK (by omega)),?_⟩;rw [show Yp (YN l) (.inl d) (.str kd)=YN (Zo l d kd) from JV (f:=(Sum.inl:Int->Zj)) Zgs V.str l d kd];generalize Zc H1 y (.dK (YN (Zo l d kd)))=H2 at *;generalize Zo ts (Ze p1 p2) (y,Zo l d kd)=ts2 at *;generalize hst:YI (Zo l d kd)=st at *;have ldl:(Zo l d kd).length≤801:=by have:=XT l d kd;omega
 refine ⟨_,rfl,a,_,_,_,rfl,rfl,hE2,Zm (j:=1) rfl,_,rfl,a,_,_,_,rfl,rfl,hE2,Zm (j:=2) rfl,few rfl,fun t1 nt1=>?_⟩;have s1:=Zl (o:=.tup [.str p1,.str p2]) nt1;refine ⟨_,rfl,a,_,_,_,rfl,rfl,(s1.sqt hE2),Zm (j:=2) rfl,_,rfl,a,_,_,_,rfl,rfl,(s1.sqt hE2),Zm (j:=1) rfl,few rfl,fun t2 nt2=>?_⟩;have s2:=Zl (o:=.tup [.str p2,.str p1]) nt2;refine ⟨few rfl,fun t3 nt3=>?_⟩;have s3:=Zl (o:=.tup [.ref t1,.ref t2]) nt3;have s123:=s1.trans (s2.trans s3);refine ⟨t3,rfl,⟨_,.of Zf⟩,Zac (xs:=[.ref t1,.ref t2]) (fun i σ H5=>∃ls v3 v4,σ=[some (.ref b),some (.ref a),some (.ref y),v3,v4]∧BkAt K T.c_Book H5 b dx k bi li ti su { B with links:=ls,ties:=ts2 }∧(∀c,lk ls c=(match i with|0=>lk B.links|1=>ZH (lk B.links) st p1 p2|_=>ZH (ZH (lk B.links) st p1 p2) st p2 p1) c)∧ls.length≤B.links.length+2*i∧But [li,ti,y] H H5∧SqT K H5 t1 [.str p1,.str p2]∧SqT K H5 t2 [.str p2,.str p1]∧SqT K H5 t3 [.ref t1,.ref t2]∧Grows H B.links ls) ?start ?list ?turn ?done⟩
 case start=>exact ⟨B.links,none,none,rfl,hB2.mono s123,fun c=>rfl,by omega,bt2.trans (But.of _ s123),(s2.trans s3).sqt (.of Zf),s3.sqt (.of Zf),.of Zf,Grows.refl _ _⟩
 case list =>
  rintro i σ H5 _ ⟨ls,v3,v4,rfl,_,_,_,_,_,_,h3,_⟩;exact h3
 case done =>
  rintro σ H5 ⟨ls,v3,v4,rfl,hB5,hlk,hls,bt5,_,_,_,gr⟩;exact q H5 ls ts2 y hB5 Jl (by omega) htf2 hlk (by simp at hls;omega) bt5 hy0 grT2 gr
 case turn =>
  rintro i x σ H5 hx ⟨ls,v3,v4,rfl,hB5,hlk,hls,bt5,h1,h2,h3,gr⟩
  have pick:∃tq u w,x=.ref tq∧SqT K H5 tq [.str u,.str w]∧Known B u∧Known B w∧Ze u w=Ze p1 p2∧i≤1∧∀F:Str×Str->List Str,(∀c,F c=ZH (match i with|0=>lk B.links|1=>ZH (lk B.links) st p1 p2|_=>ZH (ZH (lk B.links) st p1 p2) st p2 p1) st u w c)->∀c,F c=(match i+1 with|0=>lk B.links|1=>ZH (lk B.links) st p1 p2|_=>ZH (ZH (lk B.links) st p1 p2) st p2 p1) c:=by
   match i,hx with
   |0,hx=>exact ⟨t1,p1,p2,(Qo hx).symm,h1,k1,k2,rfl,by omega,fun F hF=>hF⟩
   |1,hx=>exact ⟨t2,p2,p1,(Qo hx).symm,h2,k2,k1,Zcb p2 p1,by omega,fun F hF=>hF⟩
  obtain ⟨tq,u,w,rfl,hq,ku,kw,hpr,i1,hG⟩:=pick
  have gl:∀c,((match i with|0=>lk B.links|1=>ZH (lk B.links) st p1 p2|_=>ZH (ZH (lk B.links) st p1 p2) st p2 p1) c).length≤61:=by
   intro c
   match i,i1 with
   |0,_=>have:=lf c;exact GV this
   |1,_=>exact Qq (ZbM ..) (by have:=lf c;omega)
  generalize (match i with|0=>lk B.links|1=>ZH (lk B.links) st p1 p2|_=>ZH (ZH (lk B.links) st p1 p2) st p2 p1)=G at *;refine ⟨tq,_,rfl,hq,rfl,_,_,rfl,_,_,rfl,rfl,?_⟩;dsimp only [Yj];refine Wl (fun σ' H'=>∃D2,σ'=[some (.ref b),some (.ref a),some (.ref y),some (.str u),some (.str w)]∧BkAt K T.c_Book H' b dx k bi li ti su { B with links:=Zo ls ("S",u) (D2,(G ("S",u)).filter fun n=>decide (n≠w)),ties:=ts2 }∧But [li,ti,y] H H'∧SqT K H' t1 [.str p1,.str p2]∧SqT K H' t2 [.str p2,.str p1]∧SqT K H' t3 [.ref t1,.ref t2]∧H D2=none) (fun nx hnx=>?_) ?_
  ·refine ⟨_,rfl,b,dx,_,rfl,hB5.ob,rfl,_,rfl,rfl,.ref b,.str "S",.str u,_,rfl,⟨b,dx,k,bi,li,ti,su,rfl,hB5⟩,.inr ⟨"S",rfl,fun h=>absurd h (by decide +kernel),fun _=>.inr ⟨u,rfl,fun no=>absurd no ku,fun _ H6 D s6 nD hD0=>?_⟩⟩⟩;have eL:YA { B with links:=ls,ties:=ts2 } "S" u=G ("S",u):=hlk ("S",u);rw [eL] at hD0;have hD:SqL K H6 D ((G ("S",u)).map V.str):=.of hD0;refine ⟨D,rfl,⟨_,hD⟩,Zbo ((G ("S",u)).map (Ur w)) (ZK (by rw [Qd];have:=gl ("S",u);omega)) (fun σ=>∃v,σ=[v,some (.str w)]) ⟨_,rfl⟩ (fun j H7 hj sm=>?go) (fun H7 sm=>?stop) (fun j σ H7 x H8 o ho hσ sm hx C hC=>?step) (fun D2 H7 nD2 sm hD2=>?fin)⟩
   case go=>exact ⟨_,_,sm.sql hD,Qx (by rw [Qd] at hj ⊢;exact hj)⟩
   case stop=>exact ⟨_,sm.sql hD,by rw [Qd,Qd];exact Qf _⟩
   case step =>
    obtain ⟨v,rfl⟩:=hσ;obtain ⟨rfl,hx2⟩:=hx;have e1:=hx2 _ (sm.sql hD);rw [QA] at e1 ho;obtain ⟨n,hn,rfl⟩:=QQ.mp e1;rw [hn] at ho;obtain rfl:Ur w n=o:=Qo ho;refine ⟨_,rfl,_,rfl,rfl,_,rfl,?_⟩;by_cases hz0:n=w
    ·have e2:Ur w n=none:=Qb hz0;rw [e2] at hC;exact Zv (by show (!decide (V.str n=V.str w))=false;rw [Xk,Qw hz0];rfl) (hC _ _ ⟨_,rfl⟩ (Same.refl _))
    ·have e2:Ur w n=some (.str n):=Qa hz0;rw [e2] at hC;exact Z4 (by show (!decide (V.str n=V.str w))=true;rw [Xk,Qm hz0];rfl) ⟨_,rfl,hC _ _ ⟨_,rfl⟩ (Same.refl _)⟩
   case fin =>
    rw [ZhI] at hD2;have s67:=s6.trans sm;have hB7:=hB5.mono s67;refine ⟨_,rfl,b,T.c_Book,dx,_,_,rfl,hB7.ob,T.cl_Book,T.na_Book_links,ZaD,_,rfl,few rfl,fun t nt=>?_⟩;have s8:=Zl (o:=.tup [.str "S",.str u]) nt;have hB8:=hB7.mono s8;have llen:({ B with links:=ls,ties:=ts2 }:Bk).linksD.length=ls.length:=Qd ..;refine ⟨li,_,rfl,DPut.t (k:=ZQ ("S",u)) hB8.li Zf (by rw [llen];exact ZK (by omega)),?_⟩;rw [show ({ B with links:=ls,ties:=ts2 }:Bk).linksD=ls.map fun q=>(ZQ q.1,V.ref q.2.1) from rfl,JV (f:=ZQ) (fun _ _=>VT) (fun p:Addr×List Str=>V.ref p.1) ls ("S",u) (D2,(G ("S",u)).filter fun n=>decide (n≠w))];have li8:=hB8.li;have kp:∀{c:Addr} {xs:List V},SqT K H5 c xs->SqT K (Zc (Zc H7 t (.tup [.str "S",.str u])) li (.dT ((Zo ls ("S",u) (D2,(G ("S",u)).filter fun n=>decide (n≠w))).map fun q=>(ZQ q.1,V.ref q.2.1)))) c xs:=fun h=>X4 ((s67.trans s8).sqt h) li8 (fun _ z=>by cases z) (fun _ _ z=>by cases z);refine hnx _ _ ⟨D2,rfl,hB8.links fun q hq=>?_,bt5.trans ((But.of _ (s67.trans s8)).trans (But.put li8 (by simp))),kp h1,kp h2,kp h3,bt5.al _ (Z5 s6 nD2)⟩;rcases Zaz hq with rfl|hq
    ·exact s8 _ _ hD2
    ·exact hB8.ll q hq
  ·rintro σ' H6 ⟨D2,rfl,hB6,bt6,g1,g2,g3,n2⟩;have pl:=XT ls ("S",u) (D2,(G ("S",u)).filter fun n=>decide (n≠w));have lk6:∀c,lk (Zo ls ("S",u) (D2,(G ("S",u)).filter fun n=>decide (n≠w))) c=if c=(("S",u):Str×Str) then (G ("S",u)).filter (fun n=>decide (n≠w)) else G c:=fun c=>by rw [ZfS,hlk]
   have et:Yy { B with links:=Zo ls ("S",u) (D2,(G ("S",u)).filter fun n=>decide (n≠w)),ties:=ts2 } (Ze u w)=Zo l d kd:=by
    rw [Zoy];show YU ts2 (Ze u w)=_;rw [htf2,Qb hpr]
   have es:Zar { B with links:=Zo ls ("S",u) (D2,(G ("S",u)).filter fun n=>decide (n≠w)),ties:=ts2 } u w=st:=by
    unfold Zar;rw [et,hst]
   refine ⟨_,rfl,b,dx,_,rfl,hB6.ob,rfl,_,rfl,_,rfl,rfl,.ref b,u,w,_,rfl,⟨b,dx,k,bi,li,ti,su,rfl,hB6⟩,ku,kw,by rw [et];omega,fun H7 s7=>⟨_,rfl,?_⟩⟩;rw [es];have hB7:=hB6.mono s7;have bt7:=bt6.trans (But.of _ s7);refine Ys (fun hs=>?_) (fun hs=>?_)
   ·have la:YA { B with links:=Zo ls ("S",u) (D2,(G ("S",u)).filter fun n=>decide (n≠w)),ties:=ts2 } "S" u=(G ("S",u)).filter fun n=>decide (n≠w):=by
     rw [Uj];show lk (Zo ls ("S",u) _) ("S",u)=_;rw [lk6,Qb rfl]
    refine ⟨_,rfl,b,dx,_,rfl,hB7.ob,rfl,_,rfl,_,rfl,rfl,b,dx,k,bi,li,ti,su,_,"S",u,w,rfl,hB7,?_,?_,fun H8 D8 hB8 bt8 nD8=>?_⟩
    ·rw [la];exact Qq (List.length_filter_le ..) (gl _)
    ·show (Zo ls ("S",u) _).length≤900;omega
    ·have li7:=hB7.li
     have kp:∀{c:Addr} {xs:List V},SqT K H7 c xs->SqT K H8 c xs:=fun {c xs} h=>by
      rcases h with (h|⟨o,h⟩)|h
      ·exact .inl (.inl (bt8.eq _ _ (fun z=>by rw [show c=li by simpa using z,li7] at h;cases h) h))
      ·exact .inl (.inr ⟨o,bt8.eq _ _ (fun z=>by rw [show c=li by simpa using z,li7] at h;cases h) h⟩)
      ·exact .inr h
     rw [la] at hB8;refine ⟨_,_,_,rfl,hB8,hG _ fun c=>?_,?_,bt7.trans (bt8.mono (by simp)),kp (s7.sqt g1),kp (s7.sqt g2),kp (s7.sqt g3),(gr.put n2).put (bt7.al _ nD8)⟩
     ·rw [ZfS];unfold ZH;by_cases ec:c=(("S",u):Str×Str)
      ·subst ec;rw [Qb rfl,Qb rfl,Qb hs]
      ·rw [Qa ec,Qa ec,lk6,Qa ec]
     ·have p2:=XT (Zo ls ("S",u) (D2,(G ("S",u)).filter fun n=>decide (n≠w))) ("S",u) (D8,ZB ((G ("S",u)).filter (fun n=>decide (n≠w))++[w]));show (Zo (Zo ls ("S",u) _) ("S",u) _).length≤_;omega
   ·refine ⟨_,_,_,rfl,hB7,hG _ fun c=>?_,by show (Zo ls ("S",u) _).length≤_;omega,bt7,s7.sqt g1,s7.sqt g2,s7.sqt g3,gr.put n2⟩;rw [lk6];unfold ZH;by_cases ec:c=(("S",u):Str×Str)
    ·subst ec;rw [Qb rfl,Qb rfl,Qa (by rw [hs];decide)]
    ·rw [Qa ec,Qa ec]
theorem ZlK (T:Tx K w mg) (UK:Zbw P base T) (Jh:Zbn P base T) (UZ:Zcu P base T) (Zb5:Zgd P base T) (XJ:ZaV P base T) (Zbz:ZgH P base T) (Zbl:Zft P base T):Zes P base T:=by
 refine Fun.okX (k:=5) T.WC.F Zdh (fun vs H Q E h=>h.1) (fun cdv A outer s H vs Q E hr h=>?_);obtain ⟨-,h⟩:=h;obtain ⟨b,dx,k,bi,li,ti,su,B,x,e,rfl,hB,hx,ok,no,rm,q⟩:=h
 refine ⟨_,(Zn (Z8 (ZV (pv 0) T.cl_Book T.UD.me Zb5 (hr.mono (by decide)) T.UD.b .nil Xa (Za (pv 1) Zb)))
   (Zn (ZX (i:=2) Zdh.nd rfl (Or.inl rfl) (ZM Jh (hr.mono (by decide)) (by rfl) T.Wn.m T.Wn.F.kp T.Wn.b .nil Zt (Za (pv 1) Zb)))
   (Zn (WY (Ye hr) (ZS (pv 0) rfl) (ZM UZ (hr.mono (by decide)) (by rfl) T.Wx.m T.Wx.F.kp T.Wx.b .nil Zt (Za (pv 2) Zb)) (pv 2) rfl)
   (Zk (ZJ (ZE Yb (Zr Zx (pv 2) Zi (fun _ _=>rfl)) Zh (Zy _)) (Zk (Z8 (ZV (pv 0) T.cl_Book T.Jk.me Zbz (hr.mono (by decide)) T.Jk.b .nil Zt (Za (pv 2) Zb)))) (Zk (ZJ (ZE Yb (Zr Zx (pv 2) Zi (fun _ _=>rfl)) Zh (Zy _)) (Zn (Z8 (ZV (pv 0) T.cl_Book T.Y2.me XJ (hr.mono (by decide)) T.Y2.b .nil Zt (Za Zh (Za (Zr Zx (pv 2) Zi (fun _ _=>rfl)) (Za (Zr Zx (pv 2) Zi (fun _ _=>rfl)) Zb)))))
   (Zk (Z8 (ZV (pv 0) T.cl_Book T.Y2.me XJ (hr.mono (by decide)) T.Y2.b .nil Zt (Za Zh (Za (Zr Zx (pv 2) Zi (fun _ _=>rfl)) (Za (Zr Zx (pv 2) Zi (fun _ _=>rfl)) Zb))))))) (Zk (ZJ (ZE Yb (Zr Zx (pv 2) Zi (fun _ _=>rfl)) Zh (Zy _)) (Zn (ZX (i:=3) Zdh.nd rfl (Or.inl rfl) (ZR (Za (Zr Zx (pv 2) Zi (fun _ _=>rfl)) (Za (Zr Zx (pv 2) Zi (fun _ _=>rfl)) Zb))))
   (Zk (WY (Ye hr) (ZS (pv 0) rfl) (pv 3) (ZU Wv (Wf (Ye hr) (ZS (pv 0) rfl) (pv 3) Zi ⟨rfl,rfl,rfl,rfl⟩) (Zr Zx (pv 2) Zi (fun _ _=>rfl))) rfl))) (Zk (ZJ (Xx (ZM UK (hr.mono (by decide)) (by rfl) T.WF.m T.WF.F.kp T.WF.b .nil Zt (Za (pv 2) Zb))) (Zk (Z8 (ZV (pv 0) T.cl_Book T.US.me Zbl (hr.mono (by decide)) T.US.b .nil Zt (Za (pv 2) Zb)))) ZT))))))))))),?_⟩
 refine ⟨_,rfl,b,dx,_,rfl,hB.ob,rfl,_,rfl,rfl,.ref b,x,B,e,rfl,⟨b,dx,k,bi,li,ti,su,rfl,hB⟩,hx,ok,no,fun H1 s1=>?_⟩;obtain ⟨hno,hk400,kn⟩:=ZeV no;refine ⟨_,rfl,rfl,x,e,rfl,hx.mono s1,fun H2 u s2 hu=>?_⟩;obtain ⟨a,rfl,hA⟩:=hu;have s12:=s1.trans s2;have hB2:=hB.mono s12;have klen:B.keptD.length=B.kept.length:=Qd ..;refine ⟨_,rfl,_,rfl,b,T.c_Book,dx,_,_,rfl,hB2.ob,T.cl_Book,T.na_Book_kept,Zbt,_,rfl,rfl,.ref a,e.told,rfl,⟨a,rfl,hA⟩,fun H3 p s3 np hp=>⟨k,_,rfl,DPut.t (k:=e.told.told.key) (s3 _ _ hB2.ke) hp (by rw [klen];exact ZK (by omega)),?_⟩⟩;rw [Zav,ZaL _ hno];have s13:=s12.trans s3;have hB3:=hB.mono s13;have hA3:=s3.sqt hA;have kn2:∀n∈e.told.named,Known B n:=fun n hn=>kn n (ZgO e n hn);have tk:∀(e':Ent),e.told=e'->e'.told=e':=fun e' h=>by rw [←h,Zav]
 have pt:∀{B':Bk} (e':Ent),e.told=e'->(∀c,Xb B'.sums c=Zbg (Xb B.sums) e' c)->(∃a,B'.kept=B.kept++[(e',a)])->(∀c,lk B'.links c=WW (lk B.links) (YU B.ties) e' c)->(∀c,YU B'.ties c=U8 (YU B.ties) e' c)->(B'.ties.map (·.1)).Nodup->B'.links.length≤B.links.length+4->B'.ties.length≤B.ties.length+1->B'.sums.length≤B.sums.length+1->Put B e B':=fun {B'} e' h=>by
  subst h;exact Put.mk
 generalize e.told=e' at *;have hK:=hB3.kept (e:=e') hA3;have kb:k≠bi:=Z3 hB3.ke hB3.bi (fun z=>by cases z);have hA4:SqT K (Zc H3 k (.dT (B.keptD++[(e'.key,.ref a)]))) a (e'.row.map kV):=X4 hA3 hB3.ke (fun _ z=>by cases z) (fun _ _ z=>by cases z);have btk:But [k,bi,li,ti,su] H (Zc H3 k (.dT (B.keptD++[(e'.key,.ref a)]))):=(But.of _ s13).trans (But.put hB3.ke (by simp));have hbi:(Zc H3 k (.dT (B.keptD++[(e'.key,.ref a)]))) bi=some (.dK (Bk.bornD B.kept)):=(Zd kb.symm).trans hB3.bi;have hob:(Zc H3 k (.dT (B.keptD++[(e'.key,.ref a)]))) b=some (.ins T.c_Book dx (WV k bi li ti su)):=(Zd (Z3 hB3.ob hB3.ke (fun z=>by cases z))).trans hB3.ob
 have hKn:e'.isBorn=false->BkAt K T.c_Book (Zc H3 k (.dT (B.keptD++[(e'.key,.ref a)]))) b dx k bi li ti su { B with kept:=B.kept++[(e',a)] }:=fun nb=>by
  rw [ZlD nb,Zis hbi] at hK;exact hK
 have fresh:∀{y:Addr},H3 y=none->(H y=none∨∃w,H y=some (.dK w)):=fun h=>.inl (Z5 s13 h);generalize hH4:Zc H3 k (.dT (B.keptD++[(e'.key,.ref a)]))=H4 at *;dsimp only;have hbiH:∃w,H bi=some (.dK w):=⟨_,hB.bi⟩;cases e' with
 |born n s d f m =>
  refine ⟨_,rfl,a,_,_,_,rfl,rfl,hA4,Zm (j:=0) rfl,rfl,_,rfl,Z4 (by decide +kernel) ?_⟩;refine ⟨_,rfl,b,dx,_,rfl,hob,rfl,_,rfl,rfl,b,dx,k,bi,li,ti,su,B.kept,{ B with kept:=B.kept++[(.born n s d f m,a)] },n,s,d,f,m,a,rfl,rfl,hob,hbi,ZnS hno,by omega,hA4,hK,Qq rm.nl (by omega),fun c=>Qq (rm.ll c) (by omega),fun H5 ls hB5 hlk hls bt5 gr5=>?_⟩;exact q H5 _ bi hB5 (pt _ rfl (fun c=>rfl) ⟨a,rfl⟩ hlk (fun c=>rfl) rm.nd hls (QT _) (QT _)) ((btk.mono (by simp)).trans (bt5.mono (by simp))) (.inr (.inl rfl)) (gr5.back btk.al) (GrowsT.refl _ _)
 |taken c t d =>
  have hB4:=hKn rfl;have hmem:((.taken c t d,a):Ent×Addr)∈B.kept++[(.taken c t d,a)]:=by simp
  refine ⟨_,rfl,a,_,_,_,rfl,rfl,hA4,Zm (j:=0) rfl,rfl,_,rfl,Zv (by decide +kernel) ⟨_,rfl,a,_,_,_,rfl,rfl,hA4,Zm (j:=0) rfl,rfl,_,rfl,Z4 (by decide +kernel) ?_⟩⟩;refine ⟨_,rfl,b,dx,_,rfl,hob,rfl,_,rfl,a,_,_,_,rfl,rfl,hA4,Zm (j:=1) rfl,_,rfl,a,_,_,_,rfl,rfl,hA4,Zm (j:=2) rfl,rfl,b,dx,k,bi,li,ti,su,_,"T",c,t,rfl,hB4,Qq (rm.ll _) (by omega),Qq rm.nl (by omega),fun H5 D5 hB5 bt5 nD5=>?_⟩;have hA5:=hB5.en _ hmem
  have l5:lk (Zo B.links ("T",c) (D5,ZB (lk B.links ("T",c)++[t]))) ("t",t)=lk B.links ("t",t):=by
   rw [Vi];exact JH (show ("t" : Str)≠"T" by decide +kernel)
  have n5:=XT B.links ("T",c) (D5,ZB (lk B.links ("T",c)++[t]));have rl:=rm.nl;refine ⟨_,rfl,b,dx,_,rfl,hB5.ob,rfl,_,rfl,a,_,_,_,rfl,rfl,hA5,Zm (j:=2) rfl,_,rfl,a,_,_,_,rfl,rfl,hA5,Zm (j:=1) rfl,rfl,b,dx,k,bi,li,ti,su,_,"t",t,c,rfl,hB5,?_,?_,fun H6 D6 hB6 bt6 nD6=>?_⟩
  ·rw [Uj];show (lk (Zo B.links ("T",c) (D5,ZB (lk B.links ("T",c)++[t]))) ("t",t)).length≤61;rw [l5];exact Qq (rm.ll _) (by omega)
  ·show (Zo B.links ("T",c) (D5,ZB (lk B.links ("T",c)++[t]))).length≤900;omega
  ·refine q H6 _ bi hB6 (pt _ rfl (fun c=>rfl) ⟨a,rfl⟩ (fun x=>?_) (fun c=>rfl) rm.nd ?_ (QT _) (QT _)) ((btk.mono (by simp)).trans ((bt5.mono (by simp)).trans (bt6.mono (by simp)))) (.inr (.inl rfl)) (((Grows.refl _ _).put (btk.al _ nD5)).put (btk.al _ (bt5.al _ nD6))) (GrowsT.refl _ _)
   ·show lk (Zo (Zo B.links ("T",c) (D5,ZB (lk B.links ("T",c)++[t]))) ("t",t) (D6,ZB (lk (Zo B.links ("T",c) (D5,ZB (lk B.links ("T",c)++[t]))) ("t",t)++[c]))) x=_;rw [Vi];exact Jz (fun y=>Vi ..) ..
   ·have n6:=XT (Zo B.links ("T",c) (D5,ZB (lk B.links ("T",c)++[t]))) ("t",t) (D6,ZB (lk (Zo B.links ("T",c) (D5,ZB (lk B.links ("T",c)++[t]))) ("t",t)++[c]));show (Zo (Zo B.links ("T",c) (D5,ZB (lk B.links ("T",c)++[t]))) ("t",t) (D6,ZB (lk (Zo B.links ("T",c) (D5,ZB (lk B.links ("T",c)++[t]))) ("t",t)++[c]))).length≤_;omega
 |given g t am d =>
  have hB4:=hKn rfl;have rs:=rm.ns;refine ⟨_,rfl,a,_,_,_,rfl,rfl,hA4,Zm (j:=0) rfl,rfl,_,rfl,Zv (by decide +kernel) ⟨_,rfl,a,_,_,_,rfl,rfl,hA4,Zm (j:=0) rfl,rfl,_,rfl,Zv (by decide +kernel) ⟨_,rfl,a,_,_,_,rfl,rfl,hA4,Zm (j:=0) rfl,rfl,_,rfl,Z4 (by decide +kernel) ?_⟩⟩⟩;refine ⟨_,rfl,a,_,_,_,rfl,rfl,hA4,Zm (j:=1) rfl,_,rfl,a,_,_,_,rfl,rfl,hA4,Zm (j:=2) rfl,few rfl,fun pg npg=>?_⟩;have s5:=Zl (o:=.tup [.str g,.str t]) npg;have hB5:=hB4.mono s5;have hA5:=s5.sqt hA4;have dg:=DGet.t (k:=ZQ (g,t)) hB5.su (Zf (o:=.tup [.str g,.str t]));have hval:ZI ({ B with kept:=B.kept++[(.given g t am d,a)] }:Bk).sumsD (ZQ (g,t))=(ZC (g,t) B.sums).map V.int:=Zal (f:=ZQ) (fun _ _=>VT) V.int _ _;rw [hval] at dg;have slen:({ B with kept:=B.kept++[(.given g t am d,a)] }:Bk).sumsD.length=B.sums.length:=Qd ..
  have iv:∃i:Int,((ZC (g,t) B.sums).map V.int).getD (.int 0)=.int i:=by
   cases ZC (g,t) B.sums with
   |none=>exact ⟨0,rfl⟩
   |some i=>exact ⟨i,rfl⟩
  obtain ⟨i,hi⟩:=iv;refine ⟨_,rfl,b,T.c_Book,dx,_,_,rfl,hB5.ob,T.cl_Book,T.na_Book_sums,ZfK,su,rfl,.inr ⟨_,.inl hB5.su⟩,_,rfl,_,dg,_,rfl,a,_,_,_,rfl,rfl,hA5,Zm (j:=3) rfl,i,am,hi,rfl,_,rfl,b,T.c_Book,dx,_,_,rfl,hB5.ob,T.cl_Book,T.na_Book_sums,ZfK,_,rfl,su,_,rfl,DPut.t (k:=ZQ (g,t)) hB5.su (Zf (o:=.tup [.str g,.str t])) (by rw [slen];exact ZK (by omega)),?_⟩;rw [show Yp ({ B with kept:=B.kept++[(.given g t am d,a)] }:Bk).sumsD (ZQ (g,t)) (V.int (i+am))=(Zo B.sums (g,t) (i+am)).map fun q=>(ZQ q.1,V.int q.2) from JV (f:=ZQ) (fun _ _=>VT) V.int B.sums (g,t) (i+am)]
  have ei:i=Xb B.sums (g,t):=by
   unfold Xb;cases hf:ZC (g,t) B.sums with
   |none=>rw [hf] at hi;exact (V.int.inj hi).symm
   |some j=>rw [hf] at hi;exact (V.int.inj hi).symm
  exact q _ _ bi (hB5.sums _) (pt _ rfl (fun c=>by rw [ei];exact ZjJ B.sums g t am d c) ⟨a,rfl⟩ (fun c=>rfl) (fun c=>rfl) rm.nd (R5 ..) (QT _) (XT ..)) ((btk.mono (by simp)).trans ((But.of _ s5).trans (But.put hB5.su (by simp)))) (.inr (.inl rfl)) (Grows.refl _ _) (GrowsT.refl _ _)
 |dead n d =>
  have hB4:=hKn rfl;refine ⟨_,rfl,a,_,_,_,rfl,rfl,hA4,Zm (j:=0) rfl,rfl,_,rfl,Zv (by decide +kernel) ⟨_,rfl,a,_,_,_,rfl,rfl,hA4,Zm (j:=0) rfl,rfl,_,rfl,Zv (by decide +kernel) ⟨_,rfl,a,_,_,_,rfl,rfl,hA4,Zm (j:=0) rfl,rfl,_,rfl,Zv (by decide +kernel) ?_⟩⟩⟩;refine ⟨_,rfl,rfl,.ref a,.dead n d,rfl,⟨a,rfl,hA4⟩,fun H5 s5=>⟨_,rfl,ZW ?_⟩⟩;exact q _ _ bi (hB4.mono s5) (pt _ rfl (fun c=>rfl) ⟨a,rfl⟩ (fun c=>rfl) (fun c=>rfl) rm.nd (R5 ..) (QT _) (QT _)) ((btk.mono (by simp)).trans (But.of _ s5)) (.inr (.inl rfl)) (Grows.refl _ _) (GrowsT.refl _ _)
 |union x y d =>
  have hB4:=hKn rfl;refine ⟨_,rfl,a,_,_,_,rfl,rfl,hA4,Zm (j:=0) rfl,rfl,_,rfl,Zv (by decide +kernel) ⟨_,rfl,a,_,_,_,rfl,rfl,hA4,Zm (j:=0) rfl,rfl,_,rfl,Zv (by decide +kernel) ⟨_,rfl,a,_,_,_,rfl,rfl,hA4,Zm (j:=0) rfl,rfl,_,rfl,Zv (by decide +kernel) ?_⟩⟩⟩;refine ⟨_,rfl,rfl,.ref a,.union x y d,rfl,⟨a,rfl,hA4⟩,fun H5 s5=>⟨_,rfl,Z1 ?_⟩⟩;have hB5:=hB4.mono s5;have rl:=rm.nl;have rt:=rm.nt;refine ⟨_,rfl,b,dx,_,rfl,hB5.ob,rfl,_,rfl,rfl,b,dx,k,bi,li,ti,su,_,a,"union",x,y,d,rfl,s5.sqt hA4,hB5,(kn2 x (by simp [Ent.named])).more rfl,(kn2 y (by simp [Ent.named])).more rfl,rm.nd,Qq rm.nt (by omega),Qq (rm.tt _) (by omega),Qq rm.nl (by omega),rm.ll,fun H6 ls ts z hB6 nd6 tl6 htf hlk hls bt6 hz grT6 gr6=>?_⟩;exact q H6 _ z hB6 (pt _ rfl (fun c=>rfl) ⟨a,rfl⟩ hlk htf nd6 hls tl6 (QT _)) ((btk.mono (by simp)).trans ((But.of _ s5).trans (bt6.mono (by simp)))) (hz.imp (fun h=>btk.al _ (Z5 s5 h)) .inr) (gr6.back fun a n=>btk.al a (Z5 s5 n)) (grT6.back fun a n=>btk.al a (Z5 s5 n))
 |parted x y d =>
  have hB4:=hKn rfl;refine ⟨_,rfl,a,_,_,_,rfl,rfl,hA4,Zm (j:=0) rfl,rfl,_,rfl,Zv (by decide +kernel) ⟨_,rfl,a,_,_,_,rfl,rfl,hA4,Zm (j:=0) rfl,rfl,_,rfl,Zv (by decide +kernel) ⟨_,rfl,a,_,_,_,rfl,rfl,hA4,Zm (j:=0) rfl,rfl,_,rfl,Zv (by decide +kernel) ?_⟩⟩⟩;refine ⟨_,rfl,rfl,.ref a,.parted x y d,rfl,⟨a,rfl,hA4⟩,fun H5 s5=>⟨_,rfl,Z1 ?_⟩⟩;have hB5:=hB4.mono s5;have rl:=rm.nl;have rt:=rm.nt;refine ⟨_,rfl,b,dx,_,rfl,hB5.ob,rfl,_,rfl,rfl,b,dx,k,bi,li,ti,su,_,a,"parted",x,y,d,rfl,s5.sqt hA4,hB5,(kn2 x (by simp [Ent.named])).more rfl,(kn2 y (by simp [Ent.named])).more rfl,rm.nd,Qq rm.nt (by omega),Qq (rm.tt _) (by omega),Qq rm.nl (by omega),rm.ll,fun H6 ls ts z hB6 nd6 tl6 htf hlk hls bt6 hz grT6 gr6=>?_⟩;exact q H6 _ z hB6 (pt _ rfl (fun c=>rfl) ⟨a,rfl⟩ hlk htf nd6 hls tl6 (QT _)) ((btk.mono (by simp)).trans ((But.of _ s5).trans (bt6.mono (by simp)))) (hz.imp (fun h=>btk.al _ (Z5 s5 h)) .inr) (gr6.back fun a n=>btk.al a (Z5 s5 n)) (grT6.back fun a n=>btk.al a (Z5 s5 n))
theorem ZnW (T:Tx K w mg)  : Zdu P base T:=by
 refine Fun.okX (k:=0) T.Ws.F ZiT (fun vs H Q E h=>h.1) (fun cdv A outer s H vs Q E hr h=>?_);obtain ⟨-,h⟩:=h;obtain ⟨x,rfl,q⟩:=h;refine ⟨_,(Zk (Zw (Wk (Wj K (by rfl) T.n_isinstance (Za (pv 0) (Za (X8 (v:=.ty "str") (by rfl) T.n_str Uw rfl) Zb))) (XI (YZ V6 (pv 0) (Xv (v:=.ref T.a_TESTS) (by rfl) T.m_TESTS rfl) (by rfl)))))),?_⟩;refine ⟨_,rfl,_,.ty "str",_,_,rfl,rfl,.of (.str _),T.k_str_str,_,rfl,Z1 ⟨_,rfl,T.a_TESTS,_,rfl,.inr (T.Zgx _),rfl,rfl,?_⟩⟩;have e:(if false=true then !XG (.str x) ((["he","she"]:List Str).map V.str) else XG (.str x) ((["he","she"]:List Str).map V.str))=VQ x:=Zc5 x ["he","she"];rw [←e] at q;exact q
theorem Zkg (T:Tx K w mg)  : ZfI P base T:=by
 refine Fun.okX (k:=0) T.U1.F Zm5 (fun vs H Q E h=>h.1) (fun cdv A outer s H vs Q E hr h=>?_);obtain ⟨-,h⟩:=h;obtain ⟨o,dx,rfl,ho,q⟩:=h
 refine ⟨_,(Zn (Xp (pv 0) (YK (Za Zi Zb)) rfl)
   (Zn (Xp (pv 0) (YK (Za Zh Zb)) rfl)
   (Zn (Xp (pv 0) Zah rfl)
   (Zn (Xp (pv 0) (YK Zb) rfl)
   (Zn (Xp (pv 0) (YK Zb) rfl)
   (Zn (Xp (pv 0) YR rfl)
   (Zk (Xp (pv 0) Zi rfl)))))))),?_⟩
 refine ⟨few rfl,fun dl nd=>⟨_,rfl,o,T.c_Tree,dx,[],rfl,(Zd (ZF ho nd)).trans ho,T.cl_Tree,T.na_Tree_days,Qk (m:=10) (Qz rfl) (by decide),?_⟩⟩;obtain ⟨g1,p1,s1,m1⟩:=Ww (fs:=[]) "days" (.lst [.int 0]) ho nd;generalize Zc (Zc H dl (.lst [.int 0])) o (.ins T.c_Tree dx (Zs "days" (.ref dl) ([])))=H1 at *;refine ⟨few rfl,fun sl ns=>⟨_,rfl,o,T.c_Tree,dx,_,rfl,(Zd (ZF g1 ns)).trans g1,T.cl_Tree,T.na_Tree_sorts,Qk (m:=10) (Qz rfl) (by decide),?_⟩⟩;obtain ⟨g2,p2,s2,m2⟩:=Ww (fs:=Zs "days" (.ref dl) []) "sorts" (.lst [.str ""]) g1 ns;generalize Zc (Zc H1 sl (.lst [.str ""])) o (.ins T.c_Tree dx (Zs "sorts" (.ref sl) (Zs "days" (.ref dl) ([]))))=H2 at *;refine fun pl np=>⟨_,rfl,o,T.c_Tree,dx,_,rfl,(Zd (ZF g2 np)).trans g2,T.cl_Tree,T.na_Tree_parents,Qk (m:=10) (Qz rfl) (by decide),?_⟩;obtain ⟨g3,p3,s3,m3⟩:=Ww (fs:=Zs "sorts" (.ref sl) (Zs "days" (.ref dl) [])) "parents" (.dT []) g2 np;generalize Zc (Zc H2 pl (.dT [])) o (.ins T.c_Tree dx (Zs "parents" (.ref pl) (Zs "sorts" (.ref sl) (Zs "days" (.ref dl) ([])))))=H3 at *;refine ⟨few rfl,fun tl nt=>⟨_,rfl,o,T.c_Tree,dx,_,rfl,(Zd (ZF g3 nt)).trans g3,T.cl_Tree,T.na_Tree_takings,Qk (m:=10) (Qz rfl) (by decide),?_⟩⟩;obtain ⟨g4,p4,s4,m4⟩:=Ww (fs:=Zs "parents" (.ref pl) (Zs "sorts" (.ref sl) (Zs "days" (.ref dl) []))) "takings" (.lst []) g3 nt;generalize Zc (Zc H3 tl (.lst [])) o (.ins T.c_Tree dx (Zs "takings" (.ref tl) (Zs "parents" (.ref pl) (Zs "sorts" (.ref sl) (Zs "days" (.ref dl) ([]))))))=H4 at *;refine ⟨few rfl,fun ul nu=>⟨_,rfl,o,T.c_Tree,dx,_,rfl,(Zd (ZF g4 nu)).trans g4,T.cl_Tree,T.na_Tree_unions,Qk (m:=10) (Qz rfl) (by decide),?_⟩⟩;obtain ⟨g5,p5,s5,m5⟩:=Ww (fs:=Zs "takings" (.ref tl) (Zs "parents" (.ref pl) (Zs "sorts" (.ref sl) (Zs "days" (.ref dl) [])))) "unions" (.lst []) g4 nu;generalize Zc (Zc H4 ul (.lst [])) o (.ins T.c_Tree dx (Zs "unions" (.ref ul) (Zs "takings" (.ref tl) (Zs "parents" (.ref pl) (Zs "sorts" (.ref sl) (Zs "days" (.ref dl) ([])))))))=H5 at *;refine ⟨_,rfl,o,T.c_Tree,dx,_,rfl,g5,T.cl_Tree,T.na_Tree_clash,Qk (m:=10) (Qz rfl) (by decide),_,rfl,o,T.c_Tree,dx,_,rfl,Zf,T.cl_Tree,T.na_Tree_here,Qk (m:=10) (Qz rfl) (by decide),?_⟩;have ko:∀{c:Addr} {u:HO} {Hx:Hp} {fs:List (Str×V)},Hx c=some u->(∀fs,u≠.ins T.c_Tree dx fs)->Hx o=some (.ins T.c_Tree dx fs)->c≠o:=fun e no eb z=>by subst z;rw [eb] at e;cases e;exact no _ rfl
 have lo:∀xs fs,HO.lst xs≠.ins T.c_Tree dx fs:=fun _ _ z=>by cases z
 have d1:=s5 _ _ (s4 _ _ (s3 _ _ (s2 _ _ p1 (ko p1 (lo _) g1)) (ko p1 (lo _) g1)) (ko p1 (lo _) g1)) (ko p1 (lo _) g1);have d2:=s5 _ _ (s4 _ _ (s3 _ _ p2 (ko p2 (lo _) g2)) (ko p2 (lo _) g2)) (ko p2 (lo _) g2);have np':∀fs,HO.dT []≠.ins T.c_Tree dx fs:=fun _ z=>by cases z
 have d3:=s5 _ _ (s4 _ _ p3 (ko p3 np' g3)) (ko p3 np' g3);have d4:=s5 _ _ p4 (ko p4 (lo _) g4);have q1:=s2 _ _ p1 (ko p1 (lo _) g1);have q2:=s3 _ _ q1 (ko p1 (lo _) g1);have q3:=s4 _ _ q2 (ko p1 (lo _) g1);have r2:=s3 _ _ p2 (ko p2 (lo _) g2);have r3:=s4 _ _ r2 (ko p2 (lo _) g2);have up2:∀{c:Addr} {u:HO},H5 c=some u->c≠o->∀{x y:HO},Zc (Zc H5 o x) o y c=some u:=fun {c u} e n {x y}=>by rw [Zd n,Zd n];exact e
 refine q _ dl sl pl tl ul ⟨Zf,?_,up2 d1 (ko p1 (lo _) g1),up2 d2 (ko p2 (lo _) g2),up2 d3 (ko p3 np' g3),⟨[],up2 d4 (ko p4 (lo _) g4),rfl,fun i p v e=>by cases e⟩,[],up2 p5 (ko p5 (lo _) g5),rfl,fun i p v e=>by cases e⟩ ⟨fun c u n e=>?_,fun c n=>?_⟩ nd (m1 _ ns) (m1 _ (m2 _ np)) (m1 _ (m2 _ (m3 _ nt))) (m1 _ (m2 _ (m3 _ (m4 _ nu))))
 ·simp only [QO,Qh,QF,QG,not_or,Nk,NI,and_true];exact ⟨⟨ZF p1 ns,ZF q2 nt,ZF q3 nu⟩,⟨ZF r2 nt,ZF r3 nu⟩,ZF p4 nu⟩
 ·have n':c≠o:=by simpa using n
  exact up2 (s5 _ _ (s4 _ _ (s3 _ _ (s2 _ _ (s1 _ _ e n') n') n') n') n') n'
 ·have n':c≠o:=fun z=>by rw [z,Zf] at n;cases n
  rw [Zd n',Zd n'] at n;exact m1 _ (m2 _ (m3 _ (m4 _ (m5 _ n))))
theorem Znm (T:Tx K w mg)  : ZdT P base T:=by
 refine Fun.okX (k:=0) T.WH.F Zjd (fun vs H Q E h=>h.1) (fun cdv A outer s H vs Q E hr h=>?_);obtain ⟨-,h⟩:=h;obtain ⟨o,dx,dl,sl,pl,tl,ul,t,i,s,rfl,ht,il,ok,q⟩:=h;refine ⟨_,(Zk (ZJ (ZE Yb (Zr Yz (ZS (pv 0) rfl) (pv 1) (fun _ _=>rfl)) Zh (Zy _)) (Zk (Zm2 (pv 2) (Zl2 (ZS (pv 0) rfl) (pv 1) Zmj))) (Zk (ZJ (ZE XR (Zr Yz (ZS (pv 0) rfl) (pv 1) (fun _ _=>rfl)) (pv 2) (Zy _)) (Zk (Xp (pv 0) YR rfl)) ZT)))),?_⟩;have gd:t.sorts[i]?=some (t.sorts.getD i ""):=by rw [QP,Qx il];rfl
 have at_:=Zf1 (n:=i) gd;refine ⟨_,rfl,o,T.c_Tree,dx,_,_,rfl,ht.ob,T.cl_Tree,T.na_Tree_sorts,rfl,_,rfl,sl,_,_,_,rfl,rfl,.of ht.so,at_,rfl,_,rfl,Ys (fun h1=>?_) (fun h1=>?_)⟩
 ·have e:t.sorts.getD i ""="":=by simpa [YM] using h1
  refine ⟨_,rfl,_,rfl,o,T.c_Tree,dx,_,_,rfl,ht.ob,T.cl_Tree,T.na_Tree_sorts,rfl,_,rfl,sl,_,_,i,rfl,rfl,ht.so,Zn9 (by rw [Qd];exact il),?_⟩;rw [←List.map_set];refine q _ ((But.rfl' _ _).updT (by simp)) ?_;unfold Tr.ask;rw [Qb e];exact ht.setS _
 have e:¬t.sorts.getD i ""="":=by simpa [YM] using h1
 refine ⟨_,rfl,o,T.c_Tree,dx,_,_,rfl,ht.ob,T.cl_Tree,T.na_Tree_sorts,rfl,_,rfl,sl,_,_,_,rfl,rfl,.of ht.so,at_,_,rfl,rfl,_,rfl,Ys (fun h2=>?_) (fun h2=>?_)⟩
 ·have e2:¬t.sorts.getD i ""=s:=by simpa [YM] using h2
  refine ⟨_,rfl,o,T.c_Tree,dx,_,rfl,ht.ob,T.cl_Tree,T.na_Tree_clash,Qk (m:=10) (Qz rfl) (by decide),?_⟩;refine q _ ((But.rfl' _ _).updT (by simp)) ?_;unfold Tr.ask;rw [Qa e,Qa e2];exact ht.obj true t.here
 ·have e2:t.sorts.getD i ""=s:=by simpa [YM] using h2
  refine q _ (But.rfl' _ _) ?_;unfold Tr.ask;rw [Qa e,Qb e2];exact ht
theorem ZlG (T:Tx K w mg)  : ZdQ P base T:=by
 refine Fun.okX (k:=0) T.Xs.F ZnQ (fun vs H Q E h=>h.1) (fun cdv A outer s H vs Q E hr h=>?_);obtain ⟨-,h⟩:=h;obtain ⟨o,dx,dl,sl,pl,tl,ul,t,k,rfl,ht,ok,q⟩:=h
 refine ⟨_,(Zn (Z8 (VB RE RF RG Va (ZS (pv 0) rfl) (Za (ZU Wv (Zr Yz (ZS (pv 0) rfl) (ZS (pv 0) rfl) (fun _ _=>rfl)) (pv 1)) Zb)))
   (Zn (Z8 (VB RE RF RG Va (ZS (pv 0) rfl) (Za Zh Zb)))
   (Zn (Xp (pv 0) (ZU Zgq (Yk XA (by rfl) T.n_len Y6 (Za (ZS (pv 0) rfl) Zb)) Zi) rfl)
   (Zk (Zw (ZS (pv 0) rfl)))))),?_⟩
 have gd:t.days[t.here]?=some (t.days.getD t.here 0):=by rw [QP,Qx ok.he];rfl
 have at_:Yt (t.days.map V.int) (t.here:Int)=some (.int (t.days.getD t.here 0)):=XM (by rw [QA,gd];rfl);refine ⟨_,rfl,o,T.c_Tree,dx,_,_,rfl,ht.ob,T.cl_Tree,T.na_Tree_days,rfl,.inl ⟨rfl,_,.of ht.da⟩,_,rfl,o,T.c_Tree,dx,_,_,rfl,ht.ob,T.cl_Tree,T.na_Tree_days,rfl,_,rfl,o,T.c_Tree,dx,_,_,rfl,ht.ob,T.cl_Tree,T.na_Tree_here,rfl,dl,_,_,_,rfl,rfl,.of ht.da,at_,_,rfl,_,_,rfl,rfl,dl,_,_,rfl,rfl,ht.da,ZK (by rw [Qd];have:=ok.few;omega),?_⟩;have h1:=ht.setD (t.days++[t.days.getD t.here 0+k]);rw [Qs] at h1;have b1:But [o,dl,sl] H (Zc H dl (.lst (t.days.map V.int++[.int (t.days.getD t.here 0+k)]))):=(But.rfl' _ _).updT (by simp);have h1:TrAt T.c_Tree (Zc H dl (.lst (t.days.map V.int++[.int (t.days.getD t.here 0+k)]))) o dx dl sl pl tl ul { t with days:=t.days++[t.days.getD t.here 0+k] }:=h1;show JY _ _ _ _ (Zc H dl (.lst (t.days.map V.int++[.int (t.days.getD t.here 0+k)])));generalize Zc H dl (.lst (t.days.map V.int++[.int (t.days.getD t.here 0+k)]))=H1 at b1 h1 ⊢;refine ⟨_,rfl,o,T.c_Tree,dx,_,_,rfl,h1.ob,T.cl_Tree,T.na_Tree_sorts,rfl,.inl ⟨rfl,_,.of h1.so⟩,sl,_,_,rfl,rfl,h1.so,ZK (by show (t.sorts.map V.str).length≤_;rw [Qd,ok.len];have:=ok.few;omega),?_⟩;have h2:=h1.setS (t.sorts++[("" : Str)]);rw [Qs] at h2;have h2:TrAt T.c_Tree (Zc H1 sl (.lst (t.sorts.map V.str++[.str ""]))) o dx dl sl pl tl ul { t with days:=t.days++[t.days.getD t.here 0+k],sorts:=t.sorts++[("" : Str)] }:=h2;have b2:But [o,dl,sl] H (Zc H1 sl (.lst (t.sorts.map V.str++[.str ""]))):=b1.updT (by simp);show JY _ _ _ _ (Zc H1 sl (.lst (t.sorts.map V.str++[.str ""])));generalize Zc H1 sl (.lst (t.sorts.map V.str++[.str ""]))=H2 at b2 h2 ⊢;refine ⟨_,rfl,o,T.c_Tree,dx,_,_,rfl,h2.ob,T.cl_Tree,T.na_Tree_days,rfl,dl,_,rfl,.inl (.of h2.da),_,_,rfl,rfl,_,rfl,o,T.c_Tree,dx,_,rfl,h2.ob,T.cl_Tree,T.na_Tree_here,Qk (m:=10) (Qz rfl) (by decide),?_⟩;dsimp only;rw [show (((t.days++[t.days.getD t.here 0+k]).map V.int).length:Int)-1=(t.days.length:Int) by simp];have h3:=h2.obj t.clash t.days.length;exact ⟨_,rfl,o,T.c_Tree,dx,_,_,rfl,h3.ob,T.cl_Tree,T.na_Tree_here,rfl,q _ (b2.updT (by simp)) h3⟩
theorem ZlT (T:Tx K w mg) (V4:ZdT P base T) (W0:ZdQ P base T):ZgL P base T:=by
 refine Fun.okX (k:=1) T.UE.F Zib (fun vs H Q E h=>h.1) (fun cdv A outer s H vs Q E hr h=>?_);obtain ⟨-,h⟩:=h;obtain ⟨o,dx,dl,sl,pl,tl,ul,t,l,rfl,ht,ok,dn,pn,hl,q⟩:=h
 refine ⟨_,(Zn (ZX (i:=2) Zib.nd rfl (Or.inl rfl) (ZS (pv 0) rfl))
   (Zk (ZJ (UA (Zfw (Ye hr) (ZR (Za (pv 1) (Za (pv 2) Zb))) (ZS (pv 0) rfl))) (Zk (Xp (pv 0) (Zan (Ye hr) (ZS (pv 0) rfl) (ZR (Za (pv 1) (Za (pv 2) Zb))) (fun _ _=>rfl)) rfl)) (Zn (WY (Ye hr) (ZS (pv 0) rfl) (ZR (Za (pv 1) (Za (pv 2) Zb))) (ZV (pv 0) T.cl_Tree T.Xs.me W0 (hr.mono (by decide)) T.Xs.b .nil Zt (Za (X6 Wa Zi) Zb)) rfl)
   (Zk (Z8 (ZV (pv 0) T.cl_Tree T.WH.me V4 (hr.mono (by decide)) T.WH.b .nil Zt (Za (ZS (pv 0) rfl) (Za (Zaw T.kd_SORT_OF_PARENT (Xv (v:=.ref T.a_SORT_OF_PARENT) (by rfl) T.m_SORT_OF_PARENT rfl) (pv 1) (fun _ _=>rfl)) Zb))))))))),?_⟩
 have gk:=fun (Hx:Hp) (a:Addr) (sx:Same H Hx) (ha:Hx a=some (.tup [.str l,.int t.here]))=>DGet.t (k:=[.inr l,.inl (t.here:Int)]) (sx _ _ ht.pa) ha;refine ⟨_,rfl,o,T.c_Tree,dx,_,_,rfl,ht.ob,T.cl_Tree,T.na_Tree_here,rfl,_,rfl,_,rfl,few rfl,fun a na=>?_⟩;have sa:=Zl (o:=.tup [.str l,.int t.here]) na;have hta:=ht.mono sa;have g1:=gk _ a sa Zf;rw [Jx] at g1;refine ⟨_,rfl,o,T.c_Tree,dx,_,_,rfl,hta.ob,T.cl_Tree,T.na_Tree_parents,rfl,pl,_,rfl,g1,_,rfl,?_⟩;cases hp:Wy t l t.here with
 |some p =>
  rw [show (t.par.find? fun q=>decide (q.1=(l,t.here))).map (·.2)=some p from hp] at g1 ⊢;refine Z4 rfl ⟨_,rfl,o,T.c_Tree,dx,_,_,rfl,hta.ob,T.cl_Tree,T.na_Tree_parents,rfl,_,rfl,_,rfl,few rfl,fun a2 na2=>?_⟩;have sa2:=sa.trans (Zl (o:=.tup [.str l,.int t.here]) na2);have hta2:=ht.mono sa2;have g2:=gk _ a2 sa2 Zf;rw [Jx,show (t.par.find? fun q=>decide (q.1=(l,t.here))).map (·.2)=some p from hp] at g2;refine ⟨pl,_,rfl,g2,_,rfl,o,T.c_Tree,dx,_,rfl,hta2.ob,T.cl_Tree,T.na_Tree_here,Qk (m:=10) (Qz rfl) (by decide),?_⟩;refine q _ ((But.of _ sa2).updT (by simp)) ?_;unfold Tr.goUp;rw [hp];exact hta2.obj t.clash p
 |none =>
  have hn:(t.par.find? fun q=>decide (q.1=(l,t.here)))=none:=NN.mp hp;rw [hn] at g1 ⊢;refine Zv rfl ⟨_,rfl,o,dx,_,rfl,hta.ob,rfl,_,rfl,rfl,o,dx,dl,sl,pl,tl,ul,t,_,rfl,hta,ok,fun H2 b2 h2=>?_⟩;have sH:=(But.of [o,dl,sl,pl] sa).trans (b2.wide (S':=[o,dl,sl,pl]) (by simp));refine ⟨_,rfl,o,T.c_Tree,dx,_,_,rfl,h2.ob,T.cl_Tree,T.na_Tree_parents,rfl,_,rfl,_,rfl,few rfl,fun a3 na3=>?_⟩;have s3:=Zl (o:=.tup [.str l,.int t.here]) na3;have h3:=h2.mono s3;refine ⟨pl,_,rfl,DPut.t (k:=[.inr l,.inl (t.here:Int)]) h3.pa Zf (ZK (by show (YL t.par).length≤_;unfold YL;rw [Qd];omega)),?_⟩;rw [show Yp (YL (t.grow (-1)).par) [.inr l,.inl (t.here:Int)] (.int t.days.length)=YL (t.par++[((l,t.here),t.days.length)]) from ZbP hn];have h4:=h3.setP (t.par++[((l,t.here),t.days.length)]);have b4:=(sH.trans (But.of _ s3)).updT (a:=pl) (u:=.dT (YL (t.par++[((l,t.here),t.days.length)]))) (by simp);generalize Zc (Zc H2 a3 (.tup [.str l,.int t.here])) pl (.dT (YL (t.par++[((l,t.here),t.days.length)])))=H4 at h4 b4 ⊢;have h4:TrAt T.c_Tree H4 o dx dl sl pl tl ul ((t.grow (-1)).addPar l t.here t.days.length):=h4;have hv:ZI [((.inr "F" : Zj),V.str "he"),(.inr "M",V.str "she")] (.inr l)=some (.str (ZD l)):=by rcases hl with rfl|rfl<;>rfl
  refine ⟨_,rfl,o,dx,_,rfl,h4.ob,rfl,_,rfl,o,T.c_Tree,dx,_,_,rfl,h4.ob,T.cl_Tree,T.na_Tree_here,rfl,_,rfl,rfl,.inr l,_,rfl,hv,rfl,o,dx,dl,sl,pl,tl,ul,_,t.days.length,ZD l,rfl,h4,?_,?_,fun H5 b5 h5=>?_⟩
  ·show t.days.length<(t.sorts++[("" : Str)]).length;rw [Qn,ok.len];simp
  ·exact (ok.grow (by omega) _).addPar (by show t.par.length≤59;omega) l (by rw [X1];have:=ok.he;omega) _
  refine q _ (b4.trans (b5.wide (by simp))) ?_;unfold Tr.goUp;rw [hp];exact h5
theorem ZoP (T:Tx K w mg) (UR:Zdu P base T) (V4:ZdT P base T) (W0:ZdQ P base T) (ZcH:ZgL P base T):ZeI P base T:=by
 refine Fun.okX (k:=2) T.UB.F Zhy (fun vs H Q E h=>h.1) (fun cdv A outer s H vs Q E hr h=>?_);obtain ⟨-,h⟩:=h;obtain ⟨o,dx,dl,sl,pl,tl,ul,t,s,rfl,ht,ok,dn,pn,tn,un,hs,q⟩:=h
 refine ⟨_,(Zn (ZX (i:=2) Zhy.nd rfl (Or.inl rfl) (ZS (pv 0) rfl))
   (Zk (ZJ (Xx (ZM UR (hr.mono (by decide)) (by rfl) T.Ws.m T.Ws.F.kp T.Ws.b .nil Zt (Za (pv 1) Zb))) (Zk (Z8 (ZV (pv 0) T.cl_Tree T.WH.me V4 (hr.mono (by decide)) T.WH.b .nil Zt (Za (pv 2) (Za (pv 1) Zb))))) (Zk (ZJ (UA (ZfO T.kd_SORT_OF_PARENT (pv 1) (Xv (v:=.ref T.a_SORT_OF_PARENT) (by rfl) T.m_SORT_OF_PARENT rfl))) (Zk (Z8 (ZV (pv 0) T.cl_Tree T.UE.me ZcH (hr.mono (by decide)) T.UE.b .nil Zt (Za (pv 1) Zb)))) (Zk (ZJ (UA (ZfO T.kd_LETTER_UP (pv 1) (Xv (v:=.ref T.a_LETTER_UP) (by rfl) T.m_LETTER_UP rfl))) (Zn (Z8 (ZV (pv 0) T.cl_Tree T.WH.me V4 (hr.mono (by decide)) T.WH.b .nil Zt (Za (pv 2) (Za (Zaw T.kd_SORT_OF_PARENT (Xv (v:=.ref T.a_SORT_OF_PARENT) (by rfl) T.m_SORT_OF_PARENT rfl) (Zaw T.kd_LETTER_UP (Xv (v:=.ref T.a_LETTER_UP) (by rfl) T.m_LETTER_UP rfl) (pv 1) (fun _ _=>rfl)) (fun _ _=>rfl)) Zb))))
   (Zk (WY (Ye hr) (ZS (pv 0) rfl) (ZR (Za (Zaw T.kd_LETTER_UP (Xv (v:=.ref T.a_LETTER_UP) (by rfl) T.m_LETTER_UP rfl) (pv 1) (fun _ _=>rfl)) (Za (ZV (pv 0) T.cl_Tree T.Xs.me W0 (hr.mono (by decide)) T.Xs.b .nil Zt (Za Zi Zb)) Zb))) (pv 2) rfl))) (Zk (ZJ (ZE Yb (pv 1) Zh (Zy _)) (Zk (Z8 (VB RE RF RG Va (ZS (pv 0) rfl) (Za (ZR (Za (pv 2) (Za (ZV (pv 0) T.cl_Tree T.Xs.me W0 (hr.mono (by decide)) T.Xs.b .nil Zt (Za (X6 Wa Zi) Zb)) Zb))) Zb)))) (Zk (ZJ (ZE Yb (pv 1) Zh (Zy _)) (Zk (Z8 (VB RE RF RG Va (ZS (pv 0) rfl) (Za (ZR (Za (ZV (pv 0) T.cl_Tree T.Xs.me W0 (hr.mono (by decide)) T.Xs.b .nil Zt (Za Zi Zb)) (Za (pv 2) Zb))) Zb)))) (Zk (Z8 (VB RE RF RG Va (ZS (pv 0) rfl) (Za (ZR (Za (pv 2) (Za (ZV (pv 0) T.cl_Tree T.Xs.me W0 (hr.mono (by decide)) T.Xs.b .nil Zt (Za Zi Zb)) Zb))) Zb))))))))))))))),?_⟩
 refine ⟨_,rfl,o,T.c_Tree,dx,_,_,rfl,ht.ob,T.cl_Tree,T.na_Tree_here,rfl,?_⟩;dsimp only [Yj];simp only [Zq,Qh,QF,QG] at hs;rcases hs with rfl|rfl|rfl|rfl|rfl|rfl|rfl|rfl|rfl
 ·refine ⟨_,rfl,rfl,_,rfl,_,rfl,Zv (by decide +kernel) ⟨_,rfl,rfl,.inr _,rfl,_,rfl,Z4 (by decide +kernel) ⟨_,rfl,o,dx,_,rfl,ht.ob,rfl,_,rfl,rfl,o,dx,dl,sl,pl,tl,ul,t,_,rfl,ht,ok,dn,pn,by simp,fun H1 b1 h1=>q _ (b1.wide (by simp)) ?_⟩⟩⟩;rw [JE t (by simp)];exact h1
 ·refine ⟨_,rfl,rfl,_,rfl,_,rfl,Zv (by decide +kernel) ⟨_,rfl,rfl,.inr _,rfl,_,rfl,Z4 (by decide +kernel) ⟨_,rfl,o,dx,_,rfl,ht.ob,rfl,_,rfl,rfl,o,dx,dl,sl,pl,tl,ul,t,_,rfl,ht,ok,dn,pn,by simp,fun H1 b1 h1=>q _ (b1.wide (by simp)) ?_⟩⟩⟩;rw [JE t (by simp)];exact h1
 ·refine ⟨_,rfl,rfl,_,rfl,_,rfl,Zv (by decide +kernel) ⟨_,rfl,rfl,.inr _,rfl,_,rfl,Zv (by decide +kernel) ⟨_,rfl,rfl,.inr _,rfl,_,rfl,Zv (by decide +kernel) ⟨_,rfl,rfl,_,rfl,Z4 (by decide +kernel) ⟨_,rfl,o,T.c_Tree,dx,_,_,rfl,ht.ob,T.cl_Tree,T.na_Tree_takings,rfl,.inl ⟨rfl,_,.of ht.ta.choose_spec.1⟩,_,rfl,_,rfl,o,dx,_,rfl,ht.ob,rfl,_,rfl,rfl,o,dx,dl,sl,pl,tl,ul,t,_,rfl,ht,ok,fun H2 b2 h2=>⟨few rfl,fun a na=>?_⟩⟩⟩⟩⟩⟩;have s3:=Zl (o:=.tup [.int t.here,.int t.days.length]) na;obtain ⟨vs,k1,k2⟩:=(h2.mono s3).ta;refine ⟨tl,vs,_,rfl,rfl,k1,ZK (by rw [k2.1];show t.tak.length≤_;omega),q _ (((b2.wide (by simp)).trans (But.of _ s3)).updT (by simp)) ?_⟩;rw [Za3];exact (h2.mono s3).addT k1 k2 (p:=(t.here,t.days.length)) Zf
 ·have hk:ZI [((.inr "f" : Zj),V.str "F"),(.inr "m",V.str "M")] (.inr "f")=some (.str (ZG "f")):=by rfl
  have hk2:ZI [((.inr "F" : Zj),V.str "he"),(.inr "M",V.str "she")] (.inr (ZG "f"))=some (.str (ZD (ZG "f"))):=by rfl
  obtain ⟨ad,ap,_,_,ah,_⟩:=Y1 t t.here (ZD (ZG "f"));refine ⟨_,rfl,rfl,_,rfl,_,rfl,Zv (by decide +kernel) ⟨_,rfl,rfl,.inr _,rfl,_,rfl,Zv (by decide +kernel) ⟨_,rfl,rfl,.inr _,rfl,_,rfl,Z4 (by decide +kernel) ⟨_,rfl,o,dx,_,rfl,ht.ob,rfl,_,rfl,_,rfl,rfl,.inr _,_,rfl,hk,rfl,.inr _,_,rfl,hk2,rfl,o,dx,dl,sl,pl,tl,ul,t,t.here,_,rfl,ht,by rw [ok.len];exact ok.he,ok,fun H1 b1 h1=>?_⟩⟩⟩⟩;refine ⟨_,rfl,_,rfl,o,T.c_Tree,dx,_,_,rfl,h1.ob,T.cl_Tree,T.na_Tree_parents,rfl,_,rfl,rfl,.inr _,_,rfl,hk,_,rfl,o,dx,_,rfl,h1.ob,rfl,rfl,o,dx,dl,sl,pl,tl,ul,_,_,rfl,h1,ok.ask _ _,fun H2 b2 h2=>⟨few rfl,fun a na=>?_⟩⟩;rw [ad];have s3:=Zl (o:=.tup [.str (ZG "f"),.int t.days.length]) na;have h3:=h2.mono s3;refine ⟨pl,_,rfl,DPut.t (k:=[.inr (ZG "f"),.inl (t.days.length:Int)]) h3.pa Zf (ZK (by show (YL (t.ask t.here (ZD (ZG "f"))).par).length≤_;unfold YL;rw [Qd,ap];omega)),?_⟩;have en:((t.ask t.here (ZD (ZG "f"))).par.find? fun q=>decide (q.1=(ZG "f",t.days.length)))=none:=by rw [ap];exact Zhv ok _
  rw [show Yp (YL ((t.ask t.here (ZD (ZG "f"))).grow 1).par) [.inr (ZG "f"),.inl (t.days.length:Int)] (.int t.here)=YL ((t.ask t.here (ZD (ZG "f"))).par++[((ZG "f",t.days.length),t.here)]) from ZbP en];refine q _ ((((b1.wide (by simp)).trans (b2.wide (by simp))).trans (But.of _ s3)).updT (by simp)) ?_;rw [Zaj t (by simp)];exact h3.setP _
 ·have hk:ZI [((.inr "f" : Zj),V.str "F"),(.inr "m",V.str "M")] (.inr "m")=some (.str (ZG "m")):=by rfl
  have hk2:ZI [((.inr "F" : Zj),V.str "he"),(.inr "M",V.str "she")] (.inr (ZG "m"))=some (.str (ZD (ZG "m"))):=by rfl
  obtain ⟨ad,ap,_,_,ah,_⟩:=Y1 t t.here (ZD (ZG "m"));refine ⟨_,rfl,rfl,_,rfl,_,rfl,Zv (by decide +kernel) ⟨_,rfl,rfl,.inr _,rfl,_,rfl,Zv (by decide +kernel) ⟨_,rfl,rfl,.inr _,rfl,_,rfl,Z4 (by decide +kernel) ⟨_,rfl,o,dx,_,rfl,ht.ob,rfl,_,rfl,_,rfl,rfl,.inr _,_,rfl,hk,rfl,.inr _,_,rfl,hk2,rfl,o,dx,dl,sl,pl,tl,ul,t,t.here,_,rfl,ht,by rw [ok.len];exact ok.he,ok,fun H1 b1 h1=>?_⟩⟩⟩⟩;refine ⟨_,rfl,_,rfl,o,T.c_Tree,dx,_,_,rfl,h1.ob,T.cl_Tree,T.na_Tree_parents,rfl,_,rfl,rfl,.inr _,_,rfl,hk,_,rfl,o,dx,_,rfl,h1.ob,rfl,rfl,o,dx,dl,sl,pl,tl,ul,_,_,rfl,h1,ok.ask _ _,fun H2 b2 h2=>⟨few rfl,fun a na=>?_⟩⟩;rw [ad];have s3:=Zl (o:=.tup [.str (ZG "m"),.int t.days.length]) na;have h3:=h2.mono s3;refine ⟨pl,_,rfl,DPut.t (k:=[.inr (ZG "m"),.inl (t.days.length:Int)]) h3.pa Zf (ZK (by show (YL (t.ask t.here (ZD (ZG "m"))).par).length≤_;unfold YL;rw [Qd,ap];omega)),?_⟩;have en:((t.ask t.here (ZD (ZG "m"))).par.find? fun q=>decide (q.1=(ZG "m",t.days.length)))=none:=by rw [ap];exact Zhv ok _
  rw [show Yp (YL ((t.ask t.here (ZD (ZG "m"))).grow 1).par) [.inr (ZG "m"),.inl (t.days.length:Int)] (.int t.here)=YL ((t.ask t.here (ZD (ZG "m"))).par++[((ZG "m",t.days.length),t.here)]) from ZbP en];refine q _ ((((b1.wide (by simp)).trans (b2.wide (by simp))).trans (But.of _ s3)).updT (by simp)) ?_;rw [Zaj t (by simp)];exact h3.setP _
 ·refine ⟨_,rfl,rfl,_,rfl,_,rfl,Zv (by decide +kernel) ⟨_,rfl,rfl,.inr _,rfl,_,rfl,Zv (by decide +kernel) ⟨_,rfl,rfl,.inr _,rfl,_,rfl,Zv (by decide +kernel) ⟨_,rfl,rfl,_,rfl,Zv (by decide +kernel) ⟨_,rfl,rfl,_,rfl,Z4 (by decide +kernel) ⟨_,rfl,o,T.c_Tree,dx,_,_,rfl,ht.ob,T.cl_Tree,T.na_Tree_takings,rfl,.inl ⟨rfl,_,.of ht.ta.choose_spec.1⟩,_,rfl,o,dx,_,rfl,ht.ob,rfl,rfl,o,dx,dl,sl,pl,tl,ul,t,_,rfl,ht,ok,fun H2 b2 h2=>⟨_,rfl,few rfl,fun a na=>?_⟩⟩⟩⟩⟩⟩⟩;have s3:=Zl (o:=.tup [.int t.days.length,.int t.here]) na;obtain ⟨vs,k1,k2⟩:=(h2.mono s3).ta;refine ⟨tl,vs,_,rfl,rfl,k1,ZK (by rw [k2.1];show t.tak.length≤_;omega),q _ (((b2.wide (by simp)).trans (But.of _ s3)).updT (by simp)) ?_⟩;rw [ZaF];exact (h2.mono s3).addT k1 k2 (p:=(t.days.length,t.here)) Zf
 ·refine ⟨_,rfl,rfl,_,rfl,_,rfl,Zv (by decide +kernel) ⟨_,rfl,rfl,.inr _,rfl,_,rfl,Zv (by decide +kernel) ⟨_,rfl,rfl,.inr _,rfl,_,rfl,Zv (by decide +kernel) ⟨_,rfl,rfl,_,rfl,Zv (by decide +kernel) ⟨_,rfl,rfl,_,rfl,Zv (by decide +kernel) ⟨_,rfl,o,T.c_Tree,dx,_,_,rfl,ht.ob,T.cl_Tree,T.na_Tree_unions,rfl,.inl ⟨rfl,_,.of ht.un.choose_spec.1⟩,_,rfl,_,rfl,o,dx,_,rfl,ht.ob,rfl,rfl,o,dx,dl,sl,pl,tl,ul,t,_,rfl,ht,ok,fun H2 b2 h2=>⟨few rfl,fun a na=>?_⟩⟩⟩⟩⟩⟩⟩;have s3:=Zl (o:=.tup [.int t.here,.int t.days.length]) na;obtain ⟨vs,k1,k2⟩:=(h2.mono s3).un;refine ⟨ul,vs,_,rfl,rfl,k1,ZK (by rw [k2.1];show t.uni.length≤_;omega),q _ (((b2.wide (by simp)).trans (But.of _ s3)).updT (by simp)) ?_⟩;rw [ZaM];exact (h2.mono s3).addU k1 k2 (p:=(t.here,t.days.length)) Zf
 ·refine ⟨_,rfl,rfl,_,rfl,_,rfl,Z4 (by decide +kernel) ⟨_,rfl,o,dx,_,rfl,ht.ob,rfl,_,rfl,_,rfl,rfl,o,dx,dl,sl,pl,tl,ul,t,t.here,_,rfl,ht,by rw [ok.len];exact ok.he,ok,fun H1 b1 h1=>q _ (b1.wide (by simp)) ?_⟩⟩;rw [J7 t (by simp)];exact h1
 ·refine ⟨_,rfl,rfl,_,rfl,_,rfl,Z4 (by decide +kernel) ⟨_,rfl,o,dx,_,rfl,ht.ob,rfl,_,rfl,_,rfl,rfl,o,dx,dl,sl,pl,tl,ul,t,t.here,_,rfl,ht,by rw [ok.len];exact ok.he,ok,fun H1 b1 h1=>q _ (b1.wide (by simp)) ?_⟩⟩;rw [J7 t (by simp)];exact h1
theorem ZoO (T:Tx K w mg)  : Ju P base T:=by
 refine Fun.okX (k:=0) T.Yl.F Zo2 (fun vs H Q E h=>h.1) (fun cdv A outer s H vs Q E hr h=>?_);obtain ⟨-,h⟩:=h;obtain ⟨i,rfl,hi,q⟩:=h;refine ⟨_,(Zk (Zw (ZU Zjf (Zr ZfY (Xv (v:=.str "abcdefghijklmnopqrstuvwxyz") (by rfl) T.m_LETTERS ⟨_,rfl⟩) (ZU JO (pv 0) Zi) (fun _ _=>rfl)) (Zr ZfY (Xv (v:=.str "abcdefghijklmnopqrstuvwxyz") (by rfl) T.m_LETTERS ⟨_,rfl⟩) (ZU XU (pv 0) Zi) (fun _ _=>rfl))))),?_⟩;have e1:(i:Int).fdiv 26=0:=by rw [Int.fdiv_eq_ediv_of_nonneg _ (by decide)];omega
 have e2:(i:Int).fmod 26=i:=by rw [Int.fmod_eq_emod_of_nonneg _ (by decide)];omega
 have lz:("abcdefghijklmnopqrstuvwxyz" : Str).length≤sizeLine:=few (n:=26) (by rfl);have a0:Yt ("abcdefghijklmnopqrstuvwxyz" : Str).cps.toList 0=some 97:=by decide +kernel
 have ai:Yt ("abcdefghijklmnopqrstuvwxyz" : Str).cps.toList (i:Int)=some (97+i):=XM (Zpb i hi);refine ⟨_,rfl,_,_,rfl,rfl,⟨by decide,ZaN (by decide) (by decide)⟩,_,_,97,rfl,rfl,lz,by rw [e1];exact a0,_,rfl,_,_,rfl,rfl,WP (by decide),_,_,97+i,rfl,rfl,lz,by rw [e2];exact ai,_,_,rfl,rfl,few (n:=2) rfl,q⟩
theorem Zon (T:Tx K w mg) (Xc:Ju P base T):Zfr P base T:=by
 refine Fun.okX (k:=1) T.Wt.F Zo1 (fun vs H Q E h=>h.1) (fun cdv A outer s H vs Q E hr h=>?_);obtain ⟨-,h⟩:=h;obtain ⟨o,dx,dl,sl,pl,tl,ul,t,l,i,rfl,ht,p26,q⟩:=h
 refine ⟨_,(Zn (ZJ (UA (Zef (Ye hr) (ZR (Za (pv 1) (Za (pv 2) Zb))) (ZS (pv 0) rfl))) (Zk (Zw Zh)) ZT)
   (Zk (Zw (ZM Xc (hr.mono (by decide)) (by rfl) T.Yl.m T.Yl.F.kp T.Yl.b .nil Zt (Za (Zan (Ye hr) (ZS (pv 0) rfl) (ZR (Za (pv 1) (Za (pv 2) Zb))) (fun _ _=>rfl)) Zb))))),?_⟩
 have gk:=fun (Hx:Hp) (a:Addr) (sx:Same H Hx) (ha:Hx a=some (.tup [.str l,.int i]))=>DGet.t (k:=[.inr l,.inl (i:Int)]) (sx _ _ ht.pa) ha;refine ⟨_,rfl,_,rfl,few rfl,fun a na=>?_⟩;have sa:=Zl (o:=.tup [.str l,.int i]) na;have hta:=ht.mono sa;have g1:=gk _ a sa Zf;rw [Jx] at g1;refine ⟨_,rfl,o,T.c_Tree,dx,_,_,rfl,hta.ob,T.cl_Tree,T.na_Tree_parents,rfl,pl,_,rfl,g1,_,rfl,?_⟩;cases hp:Wy t l i with
 |some p =>
  rw [show (t.par.find? fun q=>decide (q.1=(l,i))).map (·.2)=some p from hp] at g1 ⊢;refine Zv rfl ⟨_,rfl,o,T.c_Tree,dx,_,_,rfl,hta.ob,T.cl_Tree,T.na_Tree_parents,rfl,_,rfl,_,rfl,few rfl,fun a2 na2=>?_⟩;have sa2:=sa.trans (Zl (o:=.tup [.str l,.int i]) na2);have g2:=gk _ a2 sa2 Zf;rw [Jx,show (t.par.find? fun q=>decide (q.1=(l,i))).map (·.2)=some p from hp] at g2;refine ⟨pl,_,rfl,g2,rfl,p,rfl,p26 _ (Zh8 hp),?_⟩;have e:Z9 t l i=Zg p:=by unfold Z9;rw [hp]
  rw [←e];exact q _ sa2
 |none =>
  have hn:(t.par.find? fun q=>decide (q.1=(l,i)))=none:=NN.mp hp;rw [hn] at g1 ⊢;have e:Z9 t l i="":=by unfold Z9;rw [hp]
  rw [e] at q;exact Z4 rfl (q _ sa)
theorem ZlC (T:Tx K w mg) (Xc:Ju P base T) (Zax:Zfr P base T):Zf6 P base T:=by
 refine Fun.okX (k:=2) T.Ug.F Zdc (fun vs H Q E h=>h.1) (fun cdv A outer s H vs Q E hr h=>?_);obtain ⟨-,h⟩:=h;obtain ⟨o,dx,dl,sl,pl,tl,ul,t,i,rfl,ht,ok,p26,il,i26,q⟩:=h
 refine ⟨_,(Zn (ZX (i:=2) Zdc.nd rfl (Or.inl rfl) (ZM Zax (hr.mono (by decide)) (by rfl) T.Wt.m T.Wt.F.kp T.Wt.b .nil Zt (Za (pv 0) (Za Zh (Za (pv 1) Zb)))))
   (Zn (ZX (i:=3) Zdc.nd rfl (Or.inl rfl) (ZM Zax (hr.mono (by decide)) (by rfl) T.Wt.m T.Wt.F.kp T.Wt.b .nil Zt (Za (pv 0) (Za Zh (Za (pv 1) Zb)))))
   (Zk (Zw (ZR (Za Zh (Za (ZM Xc (hr.mono (by decide)) (by rfl) T.Yl.m T.Yl.F.kp T.Yl.b .nil Zt (Za (pv 1) Zb)) (Za (Zr Yz (ZS (pv 0) rfl) (pv 1) (fun _ _=>rfl)) (Za (Zr Yz (ZS (pv 0) rfl) (pv 1) (fun _ _=>rfl)) (Za (pv 2) (Za (pv 3) Zb))))))))))),?_⟩
 have gs:t.sorts[i]?=some (t.sorts.getD i ""):=by rw [QP,Qx (by rw [ok.len];exact il)];rfl
 have gd:t.days[i]?=some (t.days.getD i 0):=by rw [QP,Qx il];rfl
 have ad:Yt (t.days.map V.int) (i:Int)=some (.int (t.days.getD i 0)):=XM (by rw [QA,gd];rfl);refine ⟨_,rfl,_,rfl,rfl,o,dx,dl,sl,pl,tl,ul,t,_,i,rfl,ht,p26,fun H1 s1=>?_⟩;have h1:=ht.mono s1;refine ⟨_,rfl,_,rfl,rfl,o,dx,dl,sl,pl,tl,ul,t,_,i,rfl,h1,p26,fun H2 s2=>?_⟩;have h2:=h1.mono s2;dsimp only [Yj];refine ⟨_,rfl,rfl,i,rfl,i26,_,rfl,o,T.c_Tree,dx,_,_,rfl,h2.ob,T.cl_Tree,T.na_Tree_sorts,rfl,_,rfl,sl,_,_,_,rfl,rfl,.of h2.so,Zf1 (n:=i) gs,_,rfl,o,T.c_Tree,dx,_,_,rfl,h2.ob,T.cl_Tree,T.na_Tree_days,rfl,_,rfl,dl,_,_,_,rfl,rfl,.of h2.da,ad,_,rfl,_,rfl,few rfl,fun a na=>?_⟩;exact q _ a ((s1.trans s2).trans (Zl na)) (Z5 (s1.trans s2) na) Zf
theorem Zok (T:Tx K w mg) (LB2:LamB base T.cc2 T.tb2 mg) (Zb9:ZeQ P base T) (Jr:Zes P base T) (Xc:Ju P base T) (Zd6:Zf6 P base T):Zhj P base T:=by
 refine Fun.okL (k:=6) T.hcc2 T.VN.F Vp (fun vs H Q E h=>h.1) (fun A outer s H vs Q E hr h=>?_);obtain ⟨-,h⟩:=h;obtain ⟨oo,dx,dl,sl,pl,tl,ul,t,k0,rfl,ht,ti0,k24,tu,hc,lam,q⟩:=h
 refine ⟨_,(Zn (ZX (i:=1) Vp.nd rfl (Or.inl rfl) (ZeX T.mk_Book Zb9 (hr.mono (by decide)) (by rfl) T.m_Book T.Jb.b .nil Zt))
   (Zn (Xg QX rfl (WK (Ziu K LB2 rfl Zmf (hr.mono (QZ _)) rfl (by rfl) T.n_sorted (ZiO (by rfl) T.n_range (Za (Yk XA (by rfl) T.n_len Y6 (Za (ZS (pv 0) rfl) Zb)) Zb)) (i:=0) rfl rfl rfl rfl rfl rfl rfl)) (Yo (i:=2) Vp.nd rfl (Or.inl rfl))
    (Zk (Z8 (ZV (pv 1) T.cl_Book T.WC.me Jr (hr.mono (by decide)) T.WC.b .nil Zt (Za (ZM Zd6 (hr.mono (by decide)) (by rfl) T.Ug.m T.Ug.F.kp T.Ug.b .nil Zt (Za (pv 0) (Za (pv 2) Zb))) Zb)))))
   (Zn (ZX (i:=3) Vp.nd rfl (Or.inl rfl) (Yk (Zex K rfl) (by rfl) T.n_max ZbC (Za (ZS (pv 0) rfl) Zb)))
   (Zn (Xg QX rfl (WK (ZS (pv 0) rfl)) (Zaa rfl (WQ (Yo (i:=4) Vp.nd rfl (Or.inl rfl)) (WQ (Yo (i:=5) Vp.nd rfl (Or.inl rfl)) Jw)))
    (Zk (Z8 (ZV (pv 1) T.cl_Book T.WC.me Jr (hr.mono (by decide)) T.WC.b .nil Zt (Za (ZR (Za Zh (Za (ZM Xc (hr.mono (by decide)) (by rfl) T.Yl.m T.Yl.F.kp T.Yl.b .nil Zt (Za (pv 4) Zb)) (Za (ZM Xc (hr.mono (by decide)) (by rfl) T.Yl.m T.Yl.F.kp T.Yl.b .nil Zt (Za (pv 5) Zb)) (Za (pv 3) Zb))))) Zb)))))
   (Zn (Xg QX rfl (WK (ZS (pv 0) rfl)) (Zaa rfl (WQ (Yo (i:=6) Vp.nd rfl (Or.inl rfl)) (WQ (Yo (i:=7) Vp.nd rfl (Or.inl rfl)) Jw)))
    (Zk (Z8 (ZV (pv 1) T.cl_Book T.WC.me Jr (hr.mono (by decide)) T.WC.b .nil Zt (Za (ZR (Za Zh (Za (ZM Xc (hr.mono (by decide)) (by rfl) T.Yl.m T.Yl.F.kp T.Yl.b .nil Zt (Za (pv 6) Zb)) (Za (ZM Xc (hr.mono (by decide)) (by rfl) T.Yl.m T.Yl.F.kp T.Yl.b .nil Zt (Za (pv 7) Zb)) (Za (pv 3) Zb))))) Zb)))))
   (Zk (Zw (pv 1)))))))),?_⟩
 refine fun b dxb nb ndx nn=>⟨rfl,b,dxb,rfl,Zf,fun H1 k bi li ti su hB1 keep nk nbi nli nti nsu=>⟨rfl,?_⟩⟩;obtain ⟨s1,f1⟩:=ZoD nb ndx keep nk nbi nli nti nsu;clear keep nk nbi nli nti nsu;have ht1:=ht.mono s1;have n25:=ti0.n;have lk:=lam.same s1;dsimp only [Yj];refine ⟨_,rfl,oo,T.c_Tree,dx,_,_,rfl,ht1.ob,T.cl_Tree,T.na_Tree_days,rfl,dl,_,rfl,.inl (.of ht1.da),_,rfl,by omega,by rw [Qd];omega,fun r nr=>?_⟩;have sr:=Zl (o:=.rng 0 ((t.days.map V.int).length:Int)) nr;refine ⟨r,t.days.length,oo,T.c_Tree,dx,_,dl,t.days,rfl,by rw [Zf,Qd],by omega,rfl,sr _ _ ht1.ob,T.cl_Tree,T.na_Tree_days,rfl,.of (sr _ _ ht1.da),rfl,lk.same sr,fun H2 Dq zs pm pw sx ls lt nDq hDq=>?_⟩;obtain ⟨ord,rfl,pm'⟩:=ZlO pm;have o:OrdOk t ord:=⟨pm',by have z:=Gr.mp pw;exact z⟩;have nDH:H Dq=none:=Z5 (s1.trans sr) nDq;obtain ⟨xsD,exs⟩:∃z,z=(ord.map fun i:Nat=>(i:Int)).map V.int:=⟨_,rfl⟩;rw [←exs] at hDq;have sHs:Same H (Zc H Dq (.lst xsD)):=Zl nDH
 have sc2:SameX (Zc H Dq (.lst xsD)) H2:=fun c u nu e=>by
  by_cases z:c=Dq
  ·rw [z,Zf] at e;cases e;rw [z];exact hDq
  ·rw [Zd z] at e;exact sx _ _ nu (sr _ _ (s1 _ _ e))
 have ls2:Lams T.tb2 H H2:=(((s1.trans sr).lams T.tb2)).trans ls;have hB2:=(hB1.mono sr).monoX sx
 have g2:∀c∈ft k bi li ti su Vd,VD (Zc H Dq (.lst xsD)) c:=fun c m u nu e=>by
  by_cases z:c=Dq
  ·have hs:∀{w:HO},H1 c=some w->False:=fun e1=>by rw [z] at e1;rw [sr _ _ e1] at nDq;cases nDq
   have m':c=k∨c=bi∨c=li∨c=ti∨c=su:=by simpa [ft,Vd] using m
   rcases m' with rfl|rfl|rfl|rfl|rfl
   ·exact hs hB1.ke
   ·exact hs hB1.bi
   ·exact hs hB1.li
   ·exact hs hB1.ti
   ·exact hs hB1.su
  ·rw [Zd z] at e;exact f1 c m u nu e
 have p26:∀q∈t.par,q.2<26:=fun q hq=>by have:=(ti0.pn q hq).2.1;omega
 have pl33:(YW t).length≤33:=by unfold YW;rw [Qd,RS];omega
 have ol:ord.length=t.days.length:=by rw [pm'.length_eq,RS]
 clear hB1 f1 ht1 lk nr;refine ⟨Dq,rfl,⟨_,.of hDq⟩,VF (xs:=xsD) (fun i σ Hc=>∃(B:Bk) (v:Option V),σ=[some (.ref oo),some (.ref b),v,none,none,none,none,none]∧BkAt K T.c_Book Hc b dxb k bi li ti su B∧LI5 (YW t) B B.kept∧B.kept.map (·.1)=(YQ t (ord.take i)).map Ent.told∧SameX (Zc H Dq (.lst xsD)) Hc∧Lams T.tb2 H Hc∧Xr T.tb2 Hc∧∀c∈ft k bi li ti su B,VD (Zc H Dq (.lst xsD)) c) ?start ?list ?turn ?done⟩
 case start=>exact ⟨Vd,none,rfl,hB2,LI5.start _,rfl,sc2,ls2,lt,g2⟩
 case list =>
  rintro i σ Hc _ ⟨B,v,rfl,_,_,_,sc,_⟩;exact .of (sc _ _ rfl Zf)
 case turn =>
  rintro i y σ Hc hy ⟨B,v,rfl,hB,li5,hk,sc,lsc,ltc,g1⟩;rw [exs,QA,QA] at hy;obtain ⟨z,hz,rfl⟩:=QQ.mp hy;obtain ⟨x,hx,rfl⟩:=QQ.mp hz;have xl:x<t.days.length:=o.lt.mp (QL hx);have il:=(QH.mp hx).1;have tk:YQ t (ord.take (i+1))=YQ t (ord.take i)++[X7 t x]:=by unfold YQ;rw [RW,hx,Qs];rfl
  have gt:GdL (YW t) (YQ t (ord.take i)++[X7 t x]):=by rw [←tk];exact Zd4 ti0 k24 hc o (i+1) (by omega)
  have hkl:B.kept.length≤60:=by
   have:=Qy List.length hk;unfold YQ at this;rw [Qd,Qd,Qd,Q3] at this;omega
  obtain ⟨no,d5,rm⟩:=GdL.ref li5 hk gt hkl pl33;have htc:=ht.monoX (sHs.x.trans sc);refine ⟨_,rfl,b,dxb,_,rfl,hB.ob,rfl,_,rfl,_,rfl,rfl,oo,dx,dl,sl,pl,tl,ul,t,x,rfl,htc,ti0.ok (by omega),p26,xl,by omega,fun Ha a sa na ha=>?_⟩;have hBa:=hB.mono sa;refine ⟨rfl,b,dxb,k,bi,li,ti,su,B,.ref a,X7 t x,rfl,hBa,⟨a,rfl,.of ha⟩,d5.1,no,rm,fun H6 B6 y hB6 hput bt hy6 gr grT=>?_⟩;obtain ⟨li6,sb6⟩:=li5.put' hput d5 no;obtain ⟨sc6,g6⟩:=Zd1 bt hy6 grT (sc.trans sa.x) g1;have nE:=fun c m=>hBa.noE hy6 (c:=c) m;exact ⟨B6,_,rfl,hB6,li6,by rw [sb6,hk,tk,Qs];rfl,sc6,Lams.but (lsc.same sa) bt nE,LamH.but (ltc.same sa) bt nE,g6⟩
 case done =>
 rintro σ Hd ⟨B,v,rfl,hB,li5,hk,sc,lsc,ltc,g1⟩;have xl:xsD.length=ord.length:=by rw [exs,Qd,Qd]
 rw [xl,Rz] at hk;have htd:=ht.monoX (sHs.x.trans sc);have dne:t.days≠[]:=fun z=>by have:=ti0.he;rw [z] at this;cases this
 refine ⟨_,rfl,oo,T.c_Tree,dx,_,_,rfl,htd.ob,T.cl_Tree,T.na_Tree_days,rfl,dl,t.days,rfl,.of htd.da,dne,fun D hD1 hD2=>?_⟩;have D2:D≤10 ^ 18:=by have:=(ti0.bd D hD1).2;omega
 have gd:=ZnZ ti0 k24 hc o hD2 D2;have gd:GdL (YW t) (Yd t ord D):=gd;obtain ⟨vsT,hT1,hT2⟩:=ht.ta;obtain ⟨vsU,hU1,hU2⟩:=ht.un;have hk:B.kept.map (·.1)=((Yd t ord D).take (ord.length+0)).map Ent.told:=by rw [Nat.add_zero,Zmo];exact hk
 dsimp only [Yj];refine ⟨_,rfl,oo,T.c_Tree,dx,_,_,rfl,htd.ob,T.cl_Tree,T.na_Tree_takings,rfl,tl,rfl,⟨_,.of (sc _ _ rfl (sHs _ _ hT1))⟩,VF (xs:=vsT) (fun i σ Hc=>∃(B:Bk) (v1 v2:Option V),σ=[some (.ref oo),some (.ref b),v,some (.int D),v1,v2,none,none]∧BkAt K T.c_Book Hc b dxb k bi li ti su B∧LI5 (YW t) B B.kept∧B.kept.map (·.1)=((Yd t ord D).take (ord.length+i)).map Ent.told∧SameX (Zc H Dq (.lst xsD)) Hc∧Lams T.tb2 H Hc∧Xr T.tb2 Hc∧∀c∈ft k bi li ti su B,VD (Zc H Dq (.lst xsD)) c) ?st ?li ?tu ?dn⟩
 case st=>exact ⟨B,_,_,rfl,hB,li5,hk,sc,lsc,ltc,g1⟩
 case li =>
  rintro i σ Hc _ ⟨B,v1,v2,rfl,_,_,_,sc,_⟩;exact .of (sc _ _ rfl (sHs _ _ hT1))
 case tu =>
  rintro i y σ Hc hy ⟨B,v1,v2,rfl,hB,li5,hk,sc,lsc,ltc,g1⟩;obtain ⟨p,hp⟩:∃p,t.tak[i]?=some p:=⟨_,Qx (by have:=(QH.mp hy).1;rw [hT2.1] at this;exact this)⟩;obtain ⟨a,rfl,ha⟩:=hT2.2 i p y hp hy;have hac:=sc _ _ rfl (sHs _ _ ha);have he:=ZkN (ord:=ord) (D:=D) hp;have tk:=ZhL he;have gt:GdL (YW t) ((Yd t ord D).take (ord.length+i)++[U0 D p]):=by rw [←tk];exact gd.take _
  have hkl:B.kept.length≤60:=by
   have:=Qy List.length hk;rw [Qd,Qd,Q3,Zdk,o.pm.length_eq,RS] at this;omega
  obtain ⟨no,d5,rm⟩:=GdL.ref li5 hk gt hkl pl33;obtain ⟨b1,b2⟩:=(⟨(ti0.tk p (QL hp)).1,(ti0.tk p (QL hp)).2.1⟩:_∧_);refine ⟨a,_,rfl,.of hac,rfl,_,_,rfl,_,_,rfl,rfl,?_⟩;dsimp only [Yj];refine ⟨_,rfl,b,dxb,_,rfl,hB.ob,rfl,_,rfl,rfl,p.1,rfl,by omega,_,rfl,rfl,p.2,rfl,by omega,_,rfl,few rfl,fun e ne=>?_⟩;have se:=Zl (o:=.tup [.str "taken",.str (Zg p.1),.str (Zg p.2),.int D]) ne;refine ⟨rfl,b,dxb,k,bi,li,ti,su,B,.ref e,U0 D p,rfl,hB.mono se,⟨e,rfl,.of Zf⟩,d5.1,no,rm,fun H6 B6 y hB6 hput bt hy6 gr grT=>?_⟩;obtain ⟨li6,sb6⟩:=li5.put' hput d5 no;obtain ⟨sc6,g6⟩:=Zd1 bt hy6 grT (sc.trans se.x) g1;have nE:=fun c m=>(hB.mono se).noE hy6 (c:=c) m;exact ⟨B6,_,_,rfl,hB6,li6,by rw [sb6,hk,show ord.length+(i+1)=ord.length+i+1 from rfl,tk,Qs];rfl,sc6,Lams.but (lsc.same se) bt nE,LamH.but (ltc.same se) bt nE,g6⟩
 case dn =>
 clear hB li5 hk sc lsc ltc g1;rintro σ He ⟨B,v1,v2,rfl,hB,li5,hk,sc,lsc,ltc,g1⟩;rw [hT2.1] at hk;have hte:=ht.monoX (sHs.x.trans sc);refine ⟨_,rfl,oo,T.c_Tree,dx,_,_,rfl,hte.ob,T.cl_Tree,T.na_Tree_unions,rfl,ul,rfl,⟨_,.of (sc _ _ rfl (sHs _ _ hU1))⟩,VF (xs:=vsU) (fun i σ Hc=>∃(B:Bk) (v1' v2':Option V),σ=[some (.ref oo),some (.ref b),v,some (.int D),v1,v2,v1',v2']∧BkAt K T.c_Book Hc b dxb k bi li ti su B∧LI5 (YW t) B B.kept∧B.kept.map (·.1)=((Yd t ord D).take (ord.length+t.tak.length+i)).map Ent.told∧SameX (Zc H Dq (.lst xsD)) Hc∧Lams T.tb2 H Hc∧Xr T.tb2 Hc∧∀c∈ft k bi li ti su B,VD (Zc H Dq (.lst xsD)) c) ?st2 ?li2 ?tu2 ?dn2⟩
 case st2=>exact ⟨B,_,_,rfl,hB,li5,hk,sc,lsc,ltc,g1⟩
 case li2 =>
  rintro i σ Hc _ ⟨B,v1,v2,rfl,_,_,_,sc,_⟩;exact .of (sc _ _ rfl (sHs _ _ hU1))
 case tu2 =>
  rintro i y σ Hc hy ⟨B,v1,v2,rfl,hB,li5,hk,sc,lsc,ltc,g1⟩;obtain ⟨p,hp⟩:∃p,t.uni[i]?=some p:=⟨_,Qx (by have:=(QH.mp hy).1;rw [hU2.1] at this;exact this)⟩;obtain ⟨a,rfl,ha⟩:=hU2.2 i p y hp hy;have hac:=sc _ _ rfl (sHs _ _ ha);have he:=Ziz (ord:=ord) (D:=D) hp;have tk:=ZhL he;have gt:GdL (YW t) ((Yd t ord D).take (ord.length+t.tak.length+i)++[Wp D p]):=by rw [←tk];exact gd.take _
  have hkl:B.kept.length≤60:=by
   have:=Qy List.length hk;rw [Qd,Qd,Q3,Zdk,o.pm.length_eq,RS] at this;omega
  obtain ⟨no,d5,rm⟩:=GdL.ref li5 hk gt hkl pl33;obtain ⟨b1,b2⟩:=(⟨Nat.lt_trans (ti0.un p (QL hp)).1 (ti0.un p (QL hp)).2,(ti0.un p (QL hp)).2⟩:_∧_);refine ⟨a,_,rfl,.of hac,rfl,_,_,rfl,_,_,rfl,rfl,?_⟩;dsimp only [Yj];refine ⟨_,rfl,b,dxb,_,rfl,hB.ob,rfl,_,rfl,rfl,p.1,rfl,by omega,_,rfl,rfl,p.2,rfl,by omega,_,rfl,few rfl,fun e ne=>?_⟩;have se:=Zl (o:=.tup [.str "union",.str (Zg p.1),.str (Zg p.2),.int D]) ne;refine ⟨rfl,b,dxb,k,bi,li,ti,su,B,.ref e,Wp D p,rfl,hB.mono se,⟨e,rfl,.of Zf⟩,d5.1,no,rm,fun H6 B6 y hB6 hput bt hy6 gr grT=>?_⟩;obtain ⟨li6,sb6⟩:=li5.put' hput d5 no;obtain ⟨sc6,g6⟩:=Zd1 bt hy6 grT (sc.trans se.x) g1;have nE:=fun c m=>(hB.mono se).noE hy6 (c:=c) m;exact ⟨B6,_,_,rfl,hB6,li6,by rw [sb6,hk,show ord.length+t.tak.length+(i+1)=ord.length+t.tak.length+i+1 from rfl,tk,Qs];rfl,sc6,Lams.but (lsc.same se) bt nE,LamH.but (ltc.same se) bt nE,g6⟩
 case dn2 =>
 clear hB li5 hk sc lsc ltc g1;rintro σ Hf ⟨B,v1',v2',rfl,hB,li5,hk,sc,lsc,ltc,g1⟩;rw [hU2.1,RV (by rw [Zdk];omega)] at hk;exact ⟨_,rfl,q _ b B (sHs.x.trans sc) lsc ltc ⟨_,_,_,_,_,_,_,rfl,hB⟩ (Jn.tree ti0 k24 o gd li5 hk)⟩
theorem Zow (T:Tx K w mg) (Zcp:ZfI P base T) (ZbU:ZeI P base T) (Xc:Ju P base T) (ZdL:Zhj P base T):Zgh P base T:=by
 refine Fun.okX (k:=7) T.Uy.F Zbp (fun vs H Q E h=>h.1) (fun cdv A outer s H vs Q E hr h=>?_);obtain ⟨-,h⟩:=h;obtain ⟨p,way,rfl,hp,h9,l24,lam,qn,qs⟩:=h
 refine ⟨_,(Zn (ZX (i:=1) Zbp.nd rfl (Or.inl rfl) (ZeX T.mk_Tree Zcp (hr.mono (by decide)) (by rfl) T.m_Tree T.U1.b .nil Zt))
   (Zn (Xg QX rfl (U3 (pv 0)) (Yo (i:=2) Zbp.nd rfl (Or.inl rfl))
    (Zk (Z8 (ZV (pv 1) T.cl_Tree T.UB.me ZbU (hr.mono (by decide)) T.UB.b .nil Zt (Za (pv 2) Zb)))))
   (Zn (ZJ (Xx (ZS (pv 1) rfl)) (Zk (Zw ZcT)) ZT)
   (Zk (Zw (ZR (Za (ZM ZdL (hr.mono (by decide)) (by rfl) T.VN.m T.VN.F.kp T.VN.b .nil Zt (Za (pv 1) Zb)) (Za (ZM Xc (hr.mono (by decide)) (by rfl) T.Yl.m T.Yl.F.kp T.Yl.b .nil Zt (Za Zi Zb)) (Za (ZM Xc (hr.mono (by decide)) (by rfl) T.Yl.m T.Yl.F.kp T.Yl.b .nil Zt (Za (ZS (pv 1) rfl) Zb)) Zb))))))))),?_⟩
 refine fun o dx no ndx nn=>⟨rfl,o,dx,rfl,Zf,fun H1 dl sl pl tl ul ht1 b1 nd ns np nt nu=>⟨rfl,?_⟩⟩;have sb:Same H (Zc (Zc H dx (.own o)) o (.ins T.c_Tree dx [])):=fun c u e=>by rw [Zd (ZF e no),Zd (ZF e ndx)];exact e
 have s1:Same H H1:=fun c u e=>b1.eq c u (by simpa using ZF e no) (sb _ _ e)
 have n6:∀c∈[o,dl,sl,pl,tl,ul],H c=none:=fun c m=>by
  simp only [Qh,QF,QG] at m;rcases m with rfl|rfl|rfl|rfl|rfl|rfl
  ·exact no
  ·exact Z5 sb nd
  ·exact Z5 sb ns
  ·exact Z5 sb np
  ·exact Z5 sb nt
  ·exact Z5 sb nu
 dsimp only [Yj];refine ⟨_,rfl,p,rfl,⟨_,s1.sqt hp⟩,Zac (xs:=way.map V.str) (fun i σ Hc=>∃v,σ=[some (.ref p),some (.ref o),v]∧TrAt T.c_Tree Hc o dx dl sl pl tl ul (YF (way.take i))∧Same H Hc) ?start ?list ?turn ?done⟩
 case start=>exact ⟨_,rfl,ht1,s1⟩
 case list =>
  rintro i σ Hc _ ⟨v,rfl,_,sc⟩;exact sc.sqt hp
 case turn =>
  rintro i y σ Hc hy ⟨v,rfl,htc,sc⟩;obtain ⟨s',hs,rfl⟩:=Za9 hy;have il:=(QH.mp hs).1;have t9:∀x∈way.take i,x∈Zq:=fun x hx=>h9 x (Gw hx);have ti:=Jo t9;have tl':(way.take i).length≤24:=by rw [Q3];omega
  have:=ti.n;have:=ti.pf;have:=ti.tf;have:=ti.uf;refine ⟨_,rfl,o,dx,_,rfl,htc.ob,rfl,_,rfl,rfl,o,dx,dl,sl,pl,tl,ul,_,s',rfl,htc,ti.ok (by omega),by omega,by omega,by omega,by omega,h9 s' (QL hs),fun H' b' h'=>⟨_,rfl,?_,fun c u e=>b'.eq c u (fun m=>by rw [n6 c m] at e;cases e) (sc _ _ e)⟩⟩;have e:YF (way.take (i+1))=(YF (way.take i)).go s':=by unfold YF;rw [RW,hs,NH];rfl
  rw [e];exact h'
 case done =>
 rintro σ Hc ⟨v,rfl,htc,sc⟩;rw [Qd,Rz] at htc;have ti:=Jo h9;have tu:=ZoK h9;have nn:=ti.n;refine ⟨_,rfl,o,T.c_Tree,dx,_,_,rfl,htc.ob,T.cl_Tree,T.na_Tree_clash,rfl,_,rfl,Ys (fun hc=>?_) (fun hc=>?_)⟩
 ·exact qn _ sc.x (sc.lams _) (lam.same sc) hc
 refine ⟨_,rfl,rfl,o,dx,dl,sl,pl,tl,ul,_,_,rfl,htc,ti,l24,by omega,hc,lam.same sc,fun H2 b B sx ls lt hB bt=>?_⟩;have ht2:=htc.monoX sx;refine ⟨rfl,0,rfl,by decide,_,rfl,o,T.c_Tree,dx,_,_,rfl,ht2.ob,T.cl_Tree,T.na_Tree_here,rfl,rfl,(YF way).here,rfl,by have:=ti.he;omega,few rfl,fun a na=>?_⟩;have sa:=Zl (o:=.tup [.ref b,.str (Zg 0),.str (Zg (YF way).here)]) na;exact qs _ a b B (sc.x.trans (sx.trans sa.x)) (((sc.lams _).trans ls).same sa) (lt.same sa) hc Zf (hB.mono sa) bt
theorem Zmb (T:Tx K w mg) (UI:ZcI P base T) (UJ:ZcD P base T) (UR:Zdu P base T):ZdY P base T:=by
 refine Fun.okX (k:=2) T.VW.F Zk6 (fun vs H Q E h=>h.1) (fun cdv A outer s H vs Q E hr h=>?_);obtain ⟨-,h⟩:=h;obtain ⟨v,s,n,B,rfl,hB,hs,kn,q⟩:=h
 refine ⟨_,(Zn (ZJ (Xx (ZM UR (hr.mono (by decide)) (by rfl) T.Ws.m T.Ws.F.kp T.Ws.b .nil Zt (Za (pv 1) Zb))) (Zk (Zw (Zdf (ZE Yb (ZV (pv 0) T.cl_Book T.Vr.me UI (hr.mono (by decide)) T.Vr.b .nil Xa (Za (pv 2) Zb)) (pv 1) (Zy _)) (YK (Za (pv 2) Zb)) (YK Zb)))) ZT)
   (Zk (Zw (ZV (pv 0) T.cl_Book T.VC.me UJ (hr.mono (by decide)) T.VC.b .nil Xa (Za (pv 1) (Za (pv 2) Zb)))))),?_⟩
 obtain ⟨b,dx,k,bi,li,ti,su,rfl,hB⟩:=hB;have hv:BkHas K T.c_Book H (.ref b) B:=⟨b,dx,k,bi,li,ti,su,rfl,hB⟩;unfold YB at q;refine ⟨_,rfl,rfl,_,rfl,?_⟩;dsimp only;cases ht:VQ s with
 |true =>
  rw [Qb ht] at q;refine ⟨true,rfl,Z1 ⟨_,rfl,b,dx,_,rfl,hB.ob,rfl,_,rfl,rfl,.ref b,.str n,B,rfl,hv,.inr ⟨n,rfl,fun no=>absurd no kn,fun p hp n' s' d f m ep=>?_⟩⟩⟩;rw [ZiN hp ep] at q;refine ⟨_,rfl,rfl,_,rfl,?_⟩;dsimp only;by_cases e:s'=s
  ·rw [Qb e] at q;rw [Qw (show V.str s'=V.str s by rw [e])];exact Z1 ⟨_,rfl,few rfl,fun D nD=>q _ D (Zl nD) nD Zf⟩
  ·rw [Qa e] at q;rw [Qm (show ¬V.str s'=V.str s from fun z=>e (V.str.inj z))];exact ZW ⟨few rfl,fun D nD=>q _ D (Zl nD) nD Zf⟩
 |false =>
  rw [Qa (by rw [ht];decide)] at q;refine ⟨false,rfl,ZW ⟨_,rfl,b,dx,_,rfl,hB.ob,rfl,_,rfl,_,rfl,rfl,.ref b,.str s,.str n,B,rfl,hv,.inr ⟨s,rfl,fun no=>?_,fun hl=>.inr ⟨n,rfl,fun no=>absurd no kn,fun _ H' D s1 nD hD=>q H' D s1 nD hD⟩⟩⟩⟩;exfalso;unfold Ja at no;unfold VQ at ht;have n1:s∉Xu:=RU no;have n2:s∉(["he","she"]:List Str):=RU ht;have:s∈Xu++(["he","she"]:List Str):=hs;exact (Ql.mp this).elim n1 n2
theorem ZiF (T:Tx K w mg) (Zai:ZdY P base T):ZhT P base T:=by
 refine Fun.okX (k:=4) T.Uu.F U4 (fun vs H Q E h=>h.1) (fun cdv A outer s H vs Q E hr h=>?_);obtain ⟨-,h⟩:=h;obtain ⟨one,p,f,b,way,B,pool,rfl,lam,hp,h9,hB,cl,kn,lw,q⟩:=h
 refine ⟨_,(Zn (ZX (i:=3) U4.nd rfl (Or.inl rfl) (YK (Za (W9 (Z7 (pv 0) (pv 0) Vb) rfl rfl (by simp) (by decide)) Zb)))
   (Zn (Xg QX rfl (U3 (pv 1)) (Yo (i:=4) U4.nd rfl (Or.inl rfl))
    (Zn (ZX (i:=5) U4.nd rfl (Or.inl rfl) ZaJ)
   (Zn (Zfa (Xg QX rfl (ZgA (Zr Yz (pv 3) (X6 Wa Zi) (fun _ _=>rfl))) (Yo (i:=6) U4.nd rfl (Or.inl rfl))
    (Zk (Xg QX rfl (WK (ZkI (q:=ZbQ) Ziq Zai T.VW.b T.VW.m T.VW.F.kp (hr.mono (by decide)) ZgK (i:=2) rfl (Or.inl rfl) (Za (pv 4) (Za (pv 6) Zb)))) (Yo (i:=7) U4.nd rfl (Or.inl rfl))
    (Zk (WY (Ye hr) (pv 5) (pv 7) (pv 6) rfl))))))
   (Zk (Z8 (VB RE RF RG Va (pv 3) (Za (pv 5) Zb)))))))
   (Zk (Zw (pv 3))))),?_⟩
 refine fun d0 nd0=>⟨_,rfl,_,rfl,Zf,[(.inr one,.str one)],rfl,Qz rfl,few rfl,fun D nD=>?_⟩
 have sA:Same H (Zc (Zc H d0 (.dK [])) d0 (.dK (Xj [] [(.inr one,.str one)]))):=fun c o e=>by
  rw [Zd (ZF e nd0),Zd (ZF e nd0)];exact e
 have nDH:H D=none:=Z5 sA nD;have s0:=sA.trans (Zl (o:=.lst [.ref d0]) nD);have nd0D:d0≠D:=fun z=>by rw [←z,Zf] at nD;cases nD
 refine ⟨_,rfl,p,rfl,⟨_,s0.sqt hp⟩,Zac (xs:=way.map V.str) (fun i σ Hc=>∃(ds:List V) (d:Addr) (ks:List (Str×V)) (v4 v5 v6 v7:Option V),σ=[some (.str one),some (.ref p),some (.ref f),some (.ref D),v4,v5,v6,v7]∧Same H Hc∧Hc D=some (.lst (ds++[.ref d]))∧ds.length=i∧H d=none∧Hc d=some (.dK (Xw ks))∧(ks.map (·.1)).Nodup∧∀x,x∈ks.map (·.1)↔XO (YB B) (way.take i) (·=one) x) ?start ?list ?turn ?done⟩
 case start=>exact ⟨[],d0,[(one,.str one)],_,_,_,_,rfl,s0,Zf,rfl,nd0,by rw [Zd nd0D,Zf];rfl,by simp,fun x=>by simp [XO]⟩
 case list =>
  rintro i σ Hc _ ⟨ds,d,ks,v4,v5,v6,v7,rfl,sc,_⟩;exact sc.sqt hp
 case done =>
  rintro σ Hc ⟨ds,d,ks,v4,v5,v6,v7,rfl,sc,hD,dl,nd,hd,kd,mem⟩;rw [Qd,Rz] at mem;exact ⟨_,rfl,q Hc D ds d ks sc nDH hD hd kd mem⟩
 case turn =>
  rintro i y σ Hc hy ⟨ds,d,ks,v4,v5,v6,v7,rfl,sc,hD,dl,nd,hd,kd,mem⟩;obtain ⟨s,hs,rfl⟩:=Za9 hy;have il:=(QH.mp hs).1;have s9:=h9 s (QL hs);have tk:way.take (i+1)=way.take i++[s]:=by rw [RW,hs];rfl
  have known:∀x,x∈ks.map (·.1)->Known B x:=fun x hx=>Zdi (R:=Known B) cl.led (fun t ht=>h9 t (Gw ht)) (fun x e=>by rw [e];exact kn) x ((mem x).mp hx);refine fun c nc=>?_;have ncH:=Z5 sc nc;have s1:=Zl (o:=.dK []) nc;have dc:d≠c:=ZF hd nc;have Dc:D≠c:=ZF hD nc;have dD:d≠D:=fun z=>by rw [z,hD] at hd;cases hd
  refine ⟨d,Xw ks,s1 _ _ hd,_,rfl,1,rfl,D,_,-1,.ref d,rfl,rfl,.of (s1 _ _ hD),Zej _ _,d,Xw ks,rfl,s1 _ _ hd,fun o=>?_⟩;refine Zmk (kvs:=Xw ks) (fun j σ Hj=>∃(cs:List (Str×V)) (v6 v7:Option V),σ=[some (.str one),some (.ref p),some (.ref f),some (.ref D),some (.str s),some (.ref c),v6,v7]∧Same H Hj∧Hj D=some (.lst (ds++[.ref d]))∧Hj d=some (.frz o (.dK (Xw ks)))∧Hj c=some (.dK (Xw cs))∧(cs.map (·.1)).Nodup∧∀x,x∈cs.map (·.1)↔∃y,y∈(ks.map (·.1)).take j∧x∈YB B s y) ?st2 ?li2 ?tu2 ?do2
  case st2=>exact ⟨[],_,_,rfl,fun e u h=>by rw [Zd (fun z=>by subst z;rw [nd] at h;cases h),Zd (fun z=>by subst z;rw [ncH] at h;cases h)];exact sc _ _ h,by rw [Zd dD.symm];exact s1 _ _ hD,Zf,by rw [Zd dc.symm];exact Zf,by simp,fun x=>by simp⟩
  case li2 =>
   rintro j σ Hj _ ⟨cs,v6,v7,rfl,sj,_,hdj,_⟩;exact hdj
  case do2 =>
   rintro σ Hj ⟨cs,v6,v7,rfl,sj,hDj,hdj,hcj,ndj,memj⟩;rw [Zg1,Rz] at memj;refine ⟨o,hdj,?_⟩;have hD5:(Zc Hj d (.dK (Xw ks))) D=some (.lst (ds++[.ref d])):=by rw [Zd dD.symm];exact hDj
   refine ⟨_,rfl,.inl ⟨rfl,_,.of hD5⟩,_,rfl,D,_,_,rfl,rfl,hD5,ZK (by rw [Qn,dl];simp;omega),?_⟩;refine ⟨ds++[.ref d],c,cs,_,_,_,_,rfl,fun e u h=>?_,Zf,by rw [Qn,dl];rfl,ncH,?_,ndj,fun x=>?_⟩
   ·rw [Zd (fun z=>by subst z;rw [nDH] at h;cases h),Zd (fun z=>by subst z;rw [nd] at h;cases h)];exact sj _ _ h
   ·rw [Zd Dc.symm,Zd dc.symm];exact hcj
   ·rw [tk,Zf2,memj];exact ⟨fun ⟨y,hy,hx⟩=>⟨y,(mem y).mp hy,hx⟩,fun ⟨y,hy,hx⟩=>⟨y,(mem y).mpr hy,hx⟩⟩
  case tu2 =>
   rintro j pr σ Hj hpr ⟨cs,v6,v7,rfl,sj,hDj,hdj,hcj,ndj,memj⟩;rw [QA] at hpr;obtain ⟨⟨y,vy⟩,hky,rfl⟩:=QQ.mp hpr;have hyk:(ks.map (·.1))[j]?=some y:=by rw [QA,hky];rfl
   have ky:=known y (QL hyk);have tkj:(ks.map (·.1)).take (j+1)=(ks.map (·.1)).take j++[y]:=by rw [RW,hyk];rfl
   refine ⟨f,rfl,_,rfl,_,rfl,.str s,.str y,b,rfl,lam.same sj,rfl,.ref b,s,y,B,rfl,hB.mono sj,s9,ky,fun H2 L s2 nL hL=>⟨L,rfl,⟨_,.of hL⟩,?_⟩⟩;refine VF (xs:=(YB B s y).map V.str) (fun l σ Hl=>∃(cs2:List (Str×V)) (v7:Option V),σ=[some (.str one),some (.ref p),some (.ref f),some (.ref D),some (.str s),some (.ref c),some (.str y),v7]∧Same H Hl∧Hl D=some (.lst (ds++[.ref d]))∧Hl d=some (.frz o (.dK (Xw ks)))∧Hl c=some (.dK (Xw cs2))∧Hl L=some (.lst ((YB B s y).map V.str))∧(cs2.map (·.1)).Nodup∧∀x,x∈cs2.map (·.1)↔x∈cs.map (·.1)∨x∈(YB B s y).take l) ?st3 ?li3 ?tu3 ?do3
   case st3=>exact ⟨cs,_,rfl,sj.trans s2,s2 _ _ hDj,s2 _ _ hdj,s2 _ _ hcj,hL,ndj,fun x=>by simp⟩
   case li3 =>
    rintro l σ Hl _ ⟨cs2,v7,rfl,_,_,_,_,hLl,_⟩;exact .of hLl
   case do3 =>
    rintro σ Hl ⟨cs2,v7,rfl,sl,hDl,hdl,hcl,hLl,ndl,meml⟩;rw [Qd,Rz] at meml;refine ⟨cs2,_,_,rfl,sl,hDl,hdl,hcl,ndl,fun x=>?_⟩;rw [meml,memj,tkj];constructor
    ·rintro (⟨z,h1,h2⟩|h)
     ·exact ⟨z,Q8 _ h1,h2⟩
     ·exact ⟨y,by simp,h⟩
    ·rintro ⟨z,h1,h2⟩;rcases Ql.mp h1 with h1|h1
     ·exact .inl ⟨z,h1,h2⟩
     ·rw [show z=y by simpa using h1] at h2;exact .inr h2
   case tu3 =>
    rintro l z σ Hl hz ⟨cs2,v7,rfl,sl,hDl,hdl,hcl,hLl,ndl,meml⟩;obtain ⟨x,hx,rfl⟩:=Za9 hz;have tkl:(YB B s y).take (l+1)=(YB B s y).take l++[x]:=by rw [RW,hx];rfl
    have inK:∀x∈cs2.map (·.1),Known B x:=fun x hx2=>by
     rcases (meml x).mp hx2 with h|h
     ·obtain ⟨z,h1,h2⟩:=(memj x).mp h;exact cl.led s s9 z (known z (Gw h1)) x h2
     ·exact cl.led s s9 y ky x (Gw h)
    have len2:(Xw cs2).length≤60:=by rw [Zg1];exact Qq (Zer ndl fun x hx2=>cl.inp x (inK x hx2)) cl.few
    have cD:c≠D:=Dc.symm;refine ⟨_,rfl,_,rfl,_,rfl,c,_,rfl,DPut.k (k:=.inr x) hcl (ZK (by omega)),?_⟩;rw [Zod];refine ⟨Zo cs2 x (.str y),_,rfl,fun e u h=>?_,?_,?_,Zf,?_,Zi2 ndl,fun x'=>?_⟩
    ·rw [Zd (fun z=>by subst z;rw [ncH] at h;cases h)];exact sl _ _ h
    ·rw [Zd Dc];exact hDl
    ·rw [Zd dc];exact hdl
    ·rw [Zd (fun z=>by rw [z,hcl] at hLl;cases hLl)];exact hLl
    ·rw [Znv,meml,tkl,Ql,QD,or_assoc]
theorem Zjm (T:Tx K w mg) (LB:LamB base T.cc T.tb mg) (Wc:ZaH P base T) (Zai:ZdY P base T) (ZcY:ZhT P base T):Zgp P base T:=by
 refine Fun.okL (k:=5) T.hcc T.VH.F ZkV (fun vs H Q E h=>h.1) (fun A outer s H vs Q E hr h=>?_);obtain ⟨-,h⟩:=h;obtain ⟨v,p,x,way,B,rfl,hB,lt,hp,q⟩:=h
 refine ⟨_,(Zn (Z8 (ZV (pv 0) T.cl_Book T.Xy.me Wc (hr.mono (by decide)) T.Xy.b .nil Xa (Za (pv 2) Zb)))
   (Zk (Zw (Yk (Zol rfl) (by rfl) T.n_sorted Zbj (Za (Zr Yz (ZlM ZcY (hr.mono (by decide)) (by rfl) T.Uu.m T.Uu.F.kp T.Uu.b ZgK (i:=0) rfl rfl rfl rfl rfl (Za (pv 2) (Za (pv 1) (Za (Zou LB rfl rfl rfl rfl) Zb)))) (X6 Wa Zi) (fun _ _=>rfl)) Zb))))),?_⟩
 obtain ⟨b,dx,k,bi,li,ti,su,rfl,hB⟩:=hB;have hv:BkHas K T.c_Book H (.ref b) B:=⟨b,dx,k,bi,li,ti,su,rfl,hB⟩;refine ⟨_,rfl,b,dx,_,rfl,hB.ob,rfl,_,rfl,rfl,.ref b,x,B,rfl,hv,?_⟩;rcases q with ⟨nb,qe⟩|⟨n,pool,rfl,kn,cl,h9,lw,q⟩
 ·rcases nb with ⟨ty,hk,ks⟩|⟨n,rfl,no⟩
  ·exact .inl ⟨ty,hk,ks,qe⟩
  ·exact .inr ⟨n,rfl,fun _=>qe,fun p hp=>by rw [no] at hp;cases hp⟩
 refine .inr ⟨n,rfl,fun no=>absurd no kn,fun pr hpr n' s' d f m ep=>?_⟩;refine ⟨_,rfl,_,rfl,lt,fun H2 f2 pm c' ctv sx ls2 lt2 nf hf hc' fr=>⟨b,rfl,fun oc noc hoc=>?_⟩⟩;obtain ⟨cc,ecc⟩:∃z,z=s.heap.objs.size+1:=⟨_,rfl⟩;rw [←ecc] at noc hf;have sc:Same H2 (Zc H2 cc (Fz oc)):=Zl noc;rw [←ecc];refine ⟨rfl,n,p,f2,b,way,B,pool,rfl,⟨cc,oc,pm,c',ctv,sc _ _ hf,sc _ _ hc',Zf,hoc⟩,sc.sqt (sx.sqt hp),h9,⟨b,dx,k,bi,li,ti,su,rfl,(hB.monoX sx).mono sc⟩,cl,kn,lw,fun H3 D3 ds d3 ks s3 nD3 hD3 hd3 nd mem=>?_⟩;have hcc3:H3 cc=some (Fz oc):=s3 _ _ Zf;have s4:Same H2 (Uc H3 cc):=fun a u e=>by rw [WG (ZF e noc)];exact s3 _ _ (sc _ _ e)
 have known:∀x,x∈ks.map (·.1)->Known B x:=fun x hx=>Zdi (R:=Known B) cl.led h9 (fun x e=>by rw [e];exact kn) x ((mem x).mp hx);have hD4:Uc H3 cc D3=some (.lst (ds++[.ref d3])):=by rw [WG (fun z=>by rw [z,hcc3] at hD3;cases hD3)];exact hD3
 have hd4:Uc H3 cc d3=some (.dK (Xw ks)):=by rw [WG (fun z=>by rw [z,hcc3] at hd3;cases hd3)];exact hd3
 refine ⟨1,rfl,D3,_,-1,.ref d3,rfl,rfl,.of hD4,Zej _ _,d3,ks,rfl,hd4,?_,fun D5 zs' nD5 hp5 hs5=>?_⟩
 ·have:=Zer nd fun x hx=>cl.inp x (known x hx);have:=cl.few;rw [Qd] at *;omega
 ·have s5:=s4.trans (Zl (o:=.lst (zs'.map V.str)) nD5);exact q _ D5 zs' (sx.trans s5.x) (ls2.same s5) (lt2.same s5) (fr D5 (Z5 s4 nD5)) Zf ⟨ZcE hs5,hp5.nodup_iff.mpr nd,fun x=>hp5.mem_iff.trans (mem x)⟩
theorem ZoM (T:Tx K w mg) (ZbO:Zgp P base T):ZhM P base T:=by
 refine Fun.okX (k:=6) T.V2.F Zj3 (fun vs H Q E h=>h.1) (fun cdv A outer s H vs Q E hr h=>?_);obtain ⟨-,h⟩:=h;obtain ⟨a,p,b,x,y,way,pool,B,rfl,ha,hB,hp,h9,l24,kn,clo,lam,q⟩:=h;refine ⟨_,(Zk (Zw (YZ V6 (Zr Zx (pv 0) Zi (fun _ _=>rfl)) (ZM ZbO (hr.mono (by decide)) (by rfl) T.VH.m T.VH.F.kp T.VH.b .nil Zt (Za (Zr Zx (pv 0) Zi (fun _ _=>rfl)) (Za (pv 1) (Za (Zr Zx (pv 0) Zi (fun _ _=>rfl)) Zb)))) (by rfl)))),?_⟩;have a0:Yt [V.ref b,V.str x,V.str y] 0=some (.ref b):=rfl;have a1:Yt [V.ref b,V.str x,V.str y] 1=some (.str x):=rfl;have a2:Yt [V.ref b,V.str x,V.str y] 2=some (.str y):=rfl;refine ⟨_,rfl,a,_,_,_,rfl,rfl,.of ha,a2,_,rfl,a,_,_,_,rfl,rfl,.of ha,a0,_,rfl,_,rfl,a,_,_,_,rfl,rfl,.of ha,a1,rfl,.ref b,p,.str x,way,B,rfl,hB,lam,hp,.inr ⟨x,pool,rfl,kn,clo,h9,by omega,fun H' D xs sx ls lt nD hD srt=>?_⟩⟩;refine ⟨D,_,rfl,.inl (.of hD),rfl,by simp [Vl],q _ _ sx ls lt ?_⟩;show XG (V.str y) (xs.map V.str)=true↔_;rw [Zc5,decide_eq_true_iff,srt.mem]
theorem ZlE (T:Tx K w mg) (ZdU:Zgh P base T) (ZdA:ZhM P base T):Zhf P base T:=by
 refine Fun.okX (k:=8) T.Yv.F Zie (fun vs H Q E h=>h.1) (fun cdv A outer s H vs Q E hr h=>?_);obtain ⟨-,h⟩:=h;obtain ⟨p1,p2,w1,w2,rfl,hp1,n1,l1,hp2,n2,l2,lam,lam2,q⟩:=h
 refine ⟨_,(Zn (ZX (i:=2) Zie.nd rfl (Or.inl rfl) (ZM ZdU (hr.mono (by decide)) (by rfl) T.Uy.m T.Uy.F.kp T.Uy.b .nil Zt (Za (pv 0) Zb)))
   (Zk (Zw (ZdD (YZ Zf4 (pv 2) ZcT (Zy _)) (XI (ZM ZdA (hr.mono (by decide)) (by rfl) T.V2.m T.V2.F.kp T.V2.b .nil Zt (Za (pv 2) (Za (pv 1) Zb)))))))),?_⟩
 refine ⟨_,rfl,rfl,p1,w1,rfl,hp1,n1,l1,lam2,fun H1 sx ls lt hc=>?_,fun H1 a b B sx ls lt hc ha hB bt=>?_⟩
 ·dsimp only [Yj];exact ⟨_,rfl,rfl,_,rfl,Z4 rfl (q _ true sx (ls _ _ _ _ T.ttb.symm lam) lt ⟨fun _=>.inl hc,fun _=>rfl⟩)⟩
 ·have ti:=Jo n1;have n0:0<(YF w1).days.length:=RM (QZ _) ti.he;dsimp only [Yj];refine ⟨_,rfl,rfl,_,rfl,Zv rfl ⟨_,rfl,_,rfl,rfl,a,p2,b,_,_,w2,_,B,rfl,ha,hB,sx.sqt hp2,n2,l2,bt.kn 0 n0,bt.clo,ls _ _ _ _ T.ttb.symm lam,fun H2 r sx2 ls2 lt2 hr=>q _ r (sx.trans sx2) lt2 (ls2 _ _ _ _ T.ttb lt) ?_⟩⟩;rw [hr,Zn8 ti bt n2 n0 ti.he];unfold V8;rw [hc];simp
theorem Zi4 (T:Tx K w mg)  : Zhr P base T:=by
 refine Fun.okX (k:=0) T.Um.F Zma (fun vs H Q E h=>h.1) (fun cdv A outer s H vs Q E hr h=>?_);obtain ⟨-,h⟩:=h;obtain ⟨l,ns,k,rfl,hS,hk,q⟩:=h
 refine ⟨_,(Zn (ZJ (ZE UT (pv 1) (Yk XA (by rfl) T.n_len Y6 (Za (pv 0) Zb)) (Zy _)) (Zk (Zw (Zr Yz (pv 0) (pv 1) (fun _ _=>rfl)))) ZT)
   (Zk (Zw Zi))),?_⟩
 refine ⟨_,rfl,_,rfl,l,_,rfl,.inl hS,_,_,rfl,rfl,_,rfl,?_⟩;by_cases kl:k<((ns.map V.int).length:Int)
 ·rw [Qw kl];obtain ⟨j,rfl⟩:∃j:Nat,k=(j:Int):=⟨k.toNat,by omega⟩;refine Z1 ⟨_,rfl,_,rfl,l,_,_,_,rfl,rfl,hS,XM (Zmr (by rw [Qd] at kl;omega)),q _⟩
 ·rw [Qm kl];exact ZW (q _)
theorem Zik (T:Tx K w mg)  : ZeE P base T:=by
 refine Fun.okX (k:=0) T.VP.F Wr (fun vs H Q E h=>h.1) (fun cdv A outer s H vs Q E hr h=>?_);obtain ⟨-,h⟩:=h;obtain ⟨l,cs,rfl,hl,l12,q⟩:=h
 refine ⟨_,(Zn (ZX (i:=1) Wr.nd rfl (Or.inl rfl) (YK Zb))
   (Zn (ZX (i:=2) Wr.nd rfl (Or.inl rfl) Zh)
   (Zn (Xg QX rfl (WK (pv 0)) (Yo (i:=3) Wr.nd rfl (Or.inl rfl))
    (Zn (ZX (i:=4) Wr.nd rfl (Or.inl rfl) (Zr Yz (YK (Za Zh (Za Zh (Za Zh (Za Zh (Za Zh (Za Zh (Za Zh (Za Zh (Za Zh Zb)))))))))) (ZU XU (ZU JO (pv 3) Zi) Zi) (fun _ _=>rfl)))
   (Zn (ZX (i:=5) Wr.nd rfl (Or.inl rfl) (Zr Yz (ZU ZdK (YK (Za Zh Zb)) (pv 1)) (X6 Wa Zi) (fun _ _=>rfl)))
   (Zn (ZJ (PW.pt (WU (ZE Yb (ZU XU (pv 3) Zi) Zi (Zy _)) (Vo (PW.pt (Vh (ZE Yb (ZU XU (pv 3) Zi) Zi (Zy _)) (VG (ZE V6 (pv 5) (ZR (Za Zh (Za Zh Zb))) (by rfl)))))))) (Zk (ZX (i:=4) Wr.nd rfl (Or.inl rfl) (Wf (Ye hr) (W9 (Z7 Zh Zh (Z7 Zh Zh (Z7 Zh Zh (Z7 Zh Zh (Z7 Zh Zh (Z7 Zh Zh (Z7 Zh (pv 4) Vb))))))) rfl rfl (by simp) (by decide)) (pv 5) (pv 5) ⟨rfl,rfl,rfl,rfl⟩))) ZT)
   (Zn (ZJ (PW.pt (Vh (ZE XR (ZU XU (ZU JO (pv 3) Zi) Zi) Zi (Zy _)) (VG (ZE Yb (pv 2) Zh (Zy _))))) (Zk (ZX (i:=4) Wr.nd rfl (Or.inl rfl) (Wf (Ye hr) (W9 (Z7 Zh Zh (Z7 Zh Zh Vb)) rfl rfl (by simp) (by decide)) (pv 4) (pv 4) ⟨rfl,rfl,rfl,rfl⟩))) ZT)
   (Zn (ZJ (PW.pt (Vh (ZE XR (ZU XU (ZU JO (pv 3) Zi) Zi) Zi (Zy _)) (VG (ZE Yb (pv 2) Zh (Zy _))))) (Zk (ZX (i:=4) Wr.nd rfl (Or.inl rfl) (Wf (Ye hr) (W9 (Z7 Zh Zh (Z7 Zh Zh Vb)) rfl rfl (by simp) (by decide)) (pv 4) (pv 4) ⟨rfl,rfl,rfl,rfl⟩))) ZT)
   (Zn (Z8 (VB RE RF RG Va (pv 1) (Za (pv 4) Zb)))
   (Zk (ZX (i:=2) Wr.nd rfl (Or.inl rfl) (Wf (Ye hr) (W9 (Z7 Zh Zh (Z7 Zh Zh (Z7 Zh Zh (Z7 Zh Zh Vb)))) rfl rfl (by simp) (by decide)) (pv 4) Zh ⟨rfl,rfl,rfl,rfl⟩))))))))))
   (Zk (Zw (Zc7 Zet (by rfl) T.n_tuple Zcs (Za (pv 1) Zb))))))),?_⟩
 refine ⟨few rfl,fun Lw nLw=>?_⟩;have e1:=Zl (o:=.lst []) nLw;refine ⟨_,rfl,l,rfl,⟨_,e1.sql hl⟩,VF (xs:=cs.map V.int) (fun i σ Hc=>∃(way:List Str) (so:Str) (v3 v4 v5:Option V),σ=[some (.ref l),some (.ref Lw),some (.str so),v3,v4,v5]∧Same H Hc∧Hc Lw=some (.lst (way.map V.str))∧(∀s∈way,s∈Zq)∧way.length=i) ?st ?li ?tu ?dn⟩
 case st=>exact ⟨[],"",_,_,_,rfl,e1,Zf,fun s hs=>(by cases hs),rfl⟩
 case li =>
  rintro i σ Hc _ ⟨way,so,v3,v4,v5,rfl,sc,_⟩;exact sc.sql hl
 case dn =>
  rintro σ Hc ⟨way,so,v3,v4,v5,rfl,sc,hLw,w9,wl⟩;rw [Qd] at wl;exact ⟨_,rfl,Lw,_,rfl,.inl ⟨.of hLw,fun p np=>q _ p way (sc.trans (Zl np)) (.of Zf) w9 wl⟩⟩
 case tu =>
 rintro i y σ Hc hy ⟨way,so,v3,v4,v5,rfl,sc,hLw,w9,wl⟩
 obtain ⟨c,rfl⟩:∃c:Int,y=.int c:=by
  rw [QA] at hy;obtain ⟨z,_,e⟩:=QQ.mp hy;exact ⟨z,e.symm⟩
 have il:i<12:=by have:=(QH.mp hy).1;rw [Qd] at this;omega
 obtain ⟨s0,m0,a0⟩:=Zoj (c.fdiv 3);obtain ⟨la,hla,ala⟩:=ZpD way;have la9:la=""∨la∈Zq:=hla.imp id (w9 la);have b3:(3:Int)≠0∧(3:Int).natAbs<2 ^ 1000:=⟨by decide,ZaN (by decide) (by decide)⟩;have b27:(27:Int)≠0∧(27:Int).natAbs<2 ^ 1000:=⟨by decide,ZaN (by decide) (by decide)⟩;dsimp only [Yj];refine ⟨few rfl,fun p1 n1=>⟨_,rfl,_,_,rfl,rfl,b3,_,_,rfl,rfl,WP (by decide),p1,_,_,_,rfl,rfl,.of Zf,a0,?_⟩⟩;refine ⟨few rfl,fun p2 n2=>?_⟩;have s2:=(Zl (o:=.lst (Zq.map V.str)) n1).trans (Zl (o:=.lst [V.str ""]) n2);refine ⟨_,rfl,p2,Lw,_,_,rfl,rfl,Zf,s2 _ _ hLw,QN (ZK (by rw [Qd,wl];simp;omega)),fun p3 n3=>⟨_,rfl,p3,_,_,_,rfl,rfl,.of Zf,ala,?_⟩⟩;have s3:=s2.trans (Zl (o:=.lst ([V.str ""]++way.map V.str)) n3);dsimp only [Yj];refine Wl (fun σ Hx=>∃st∈Zq,Same Hc Hx∧σ=[some (.ref l),some (.ref Lw),some (.str so),some (.int c),some (.str st),some (.str la)]) (fun nx rest=>?_) ?_
 ·refine ⟨_,rfl,_,_,rfl,rfl,WP (by decide),rfl,_,rfl,Ys (fun h1=>Z1 ?_) (fun h1=>⟨_,rfl,_,_,rfl,rfl,WP (by decide),rfl,_,rfl,Ys (fun h2=>⟨_,rfl,few rfl,fun p4 n4=>⟨p4,_,rfl,.inr (.of Zf),rfl,rfl,_,rfl,Ys (fun h3=>?_) (fun h3=>?_)⟩⟩) (fun h2=>ZW ?_)⟩)⟩
  ·obtain ⟨z,mz,ez⟩:=ZeM m0 la9;refine Vs (kvF s0) (fun _ _ h=>⟨_,rfl,h⟩) (show 7≤15 by decide) fun p5 H5 s5 h5=>⟨_,rfl,_,rfl,_,DGet.k (k:=.inr la) h5,?_⟩;rw [ez];exact rest _ _ ⟨z,mz,s3.trans s5,rfl⟩
  ·obtain ⟨z,mz,ez⟩:=ZeM m0 la9;refine Vs (kvF s0) (fun _ _ h=>⟨_,rfl,h⟩) (show 7≤15 by decide) fun p5 H5 s5 h5=>⟨_,rfl,_,rfl,_,DGet.k (k:=.inr la) h5,?_⟩;rw [ez];exact rest _ _ ⟨z,mz,(s3.trans (Zl n4)).trans s5,rfl⟩
  ·exact rest _ _ ⟨s0,m0,s3.trans (Zl n4),rfl⟩
  ·exact rest _ _ ⟨s0,m0,s3,rfl⟩
 rintro σ Hx ⟨st,m1,sx,rfl⟩;refine Wl (fun σ Hy=>∃st∈Zq,Same Hc Hy∧σ=[some (.ref l),some (.ref Lw),some (.str so),some (.int c),some (.str st),some (.str la)]) (fun nx rest=>?_) ?_
 ·refine ⟨_,rfl,_,_,rfl,rfl,b27,_,_,rfl,rfl,WP (by decide),rfl,_,rfl,Ys (fun h1=>⟨_,rfl,rfl,_,rfl,Ys (fun h2=>?_) (fun h2=>rest _ _ ⟨st,m1,sx,rfl⟩)⟩) (fun h1=>ZW (rest _ _ ⟨st,m1,sx,rfl⟩))⟩;obtain ⟨z,mz,ez⟩:=Zne m1;refine Vs kvH (fun _ _ h=>h) (by decide) fun p5 H5 s5 h5=>⟨_,rfl,_,rfl,_,DGet.k (k:=.inr st) h5,?_⟩;rw [ez];exact rest _ _ ⟨z,mz,sx.trans s5,rfl⟩
 clear sx m1;rintro σ Hy ⟨st,m1,sx,rfl⟩;refine Wl (fun σ Hz=>∃st∈Zq,Same Hc Hz∧σ=[some (.ref l),some (.ref Lw),some (.str so),some (.int c),some (.str st),some (.str la)]) (fun nx rest=>?_) ?_
 ·refine ⟨_,rfl,_,_,rfl,rfl,b27,_,_,rfl,rfl,WP (by decide),rfl,_,rfl,Ys (fun h1=>⟨_,rfl,rfl,_,rfl,Ys (fun h2=>?_) (fun h2=>rest _ _ ⟨st,m1,sx,rfl⟩)⟩) (fun h1=>ZW (rest _ _ ⟨st,m1,sx,rfl⟩))⟩;obtain ⟨z,mz,ez⟩:=Zm9 m1;refine Vs kvS (fun _ _ h=>h) (by decide) fun p5 H5 s5 h5=>⟨_,rfl,_,rfl,_,DGet.k (k:=.inr st) h5,?_⟩;rw [ez];exact rest _ _ ⟨z,mz,sx.trans s5,rfl⟩
 clear sx m1;rintro σ Hz ⟨st,m1,sx,rfl⟩;have hLz:=sx _ _ hLw;have scz:=sc.trans sx;refine ⟨_,rfl,.inl ⟨rfl,_,.of hLz⟩,_,rfl,Lw,_,_,rfl,rfl,hLz,ZK (by rw [Qd];omega),?_⟩;dsimp only [JU];refine Vs kvN (fun _ _ h=>h) (by decide) fun p5 H5 s5 h5=>⟨_,rfl,_,DGet.k (k:=.inr st) h5,?_⟩;rw [ZhC m1];refine ⟨way++[st],_,_,_,_,rfl,fun a u e=>s5 _ _ (by rw [Zd (fun z=>by rw [z,nLw] at e;cases e)];exact scz _ _ e),s5 _ _ (by rw [Zf,Qs];rfl),fun s hs=>?_,by rw [Qn,wl];rfl⟩;rcases Ql.mp hs with hs|hs
 ·exact w9 s hs
 ·rw [show s=st by simpa using hs];exact m1
theorem ZiS (T:Tx K w mg)  : ZfQ P base T:=by
 refine Fun.okX (k:=0) T.V3.F Zam (fun vs H Q E h=>h.1) (fun cdv A outer s H vs Q E hr h=>?_);obtain ⟨-,h⟩:=h;obtain ⟨p,way,rfl,hp,h9,l24,q⟩:=h
 refine ⟨_,(Zn (ZX (i:=1) Zam.nd rfl (Or.inl rfl) Zh)
   (Zn (Xg QX rfl (U3 (pv 0)) (Yo (i:=2) Zam.nd rfl (Or.inl rfl))
    (Zn (ZX (i:=3) Zam.nd rfl (Or.inl rfl) (Wf (Ye hr) (W9 (Z7 Zh Zh (Z7 Zh Zh (Z7 Zh Zh (Z7 Zh Zh Vb)))) rfl rfl (by simp) (by decide)) (pv 2) Zh ⟨rfl,rfl,rfl,rfl⟩))
   (Zn (ZJ (PW.pt (Vh (ZE XR (pv 3) Zh (Zy _)) (Vh (ZE XR (pv 1) Zh (Zy _)) (VG (ZE XR (pv 3) (pv 1) (Zy _)))))) (Zk (Zw YR)) ZT)
   (Zk (ZX (i:=1) Zam.nd rfl (Or.inl rfl) (Wf (Ye hr) (W9 (Z7 Zh Zh (Z7 Zh Zh (Z7 Zh Zh (Z7 Zh Zh Vb)))) rfl rfl (by simp) (by decide)) (pv 2) Zh ⟨rfl,rfl,rfl,rfl⟩))))))
   (Zk (Zw YR)))),?_⟩
 refine ⟨_,rfl,p,rfl,⟨_,hp⟩,Zac (xs:=way.map V.str) (fun i σ Hc=>∃(ps:Str) (v2 v3:Option V),σ=[some (.ref p),some (.str ps),v2,v3]∧Same H Hc∧nv "" way=nv ps (way.drop i)) ?start ?list ?turn ?done⟩
 case start=>exact ⟨"",_,_,rfl,.refl _,rfl⟩
 case list =>
  rintro i σ Hc _ ⟨ps,v2,v3,rfl,sc,_⟩;exact sc.sqt hp
 case done =>
  rintro σ Hc ⟨ps,v2,v3,rfl,sc,e⟩;rw [Qd,List.drop_length] at e;have:=q _ sc;rw [e] at this;exact this
 case turn =>
 rintro i y σ Hc hy ⟨ps,v2,v3,rfl,sc,e⟩;obtain ⟨s',hs,rfl⟩:=Za9 hy;have s9:=h9 s' (QL hs);rw [Zgr hs,show ∀w,nv ps (s'::w)=if Y5 s'≠""∧ps≠""∧Y5 s'≠ps then true else nv (Uo s') w from fun _=>rfl] at e;dsimp only [Yj,JY,JU];refine Vs kvW (fun _ _ h=>h) (by decide) fun p1 H1 s1 hp1=>⟨_,rfl,_,DGet.k (k:=.inr s') hp1,?_⟩;rw [ZlA s9]
 have rest:¬(Y5 s'≠""∧ps≠""∧Y5 s'≠ps)->Zbv (ZaE [(tC (V.str "F"),tC (V.str "he")),(tC (V.str "M"),tC (V.str "she")),(tC (V.str "he"),tC (V.str "he")),(tC (V.str "she"),tC (V.str "she"))]) (UN 2) (tC (V.str "")) [some (.ref p),some (.str ps),some (.str s'),some (.str (Y5 s'))] H1 fun v H2=>∃(ps:Str) (v2 v3:Option V),([some (.ref p),some v,some (.str s'),some (.str (Y5 s'))]:St)=[some (.ref p),some (.str ps),v2,v3]∧Same H H2∧nv "" way=nv ps (way.drop (i+1)):=fun c=>by
  refine Vs kvN (fun _ _ h=>h) (by decide) fun p2 H2 s2 hp2=>⟨_,rfl,_,DGet.k (k:=.inr s') hp2,?_⟩;rw [ZhC s9];rw [Qa c] at e;exact ⟨_,_,_,rfl,(sc.trans s1).trans s2,e⟩
 refine ⟨_,rfl,rfl,_,rfl,Ys (fun c1=>?_) (fun c1=>?_)⟩
 ·have c1:Y5 s'≠"":=by simpa [YM] using c1
  refine ⟨_,rfl,rfl,_,rfl,Ys (fun c2=>?_) (fun c2=>?_)⟩
  ·have c2:ps≠"":=by simpa [YM] using c2
   refine ⟨_,rfl,_,rfl,rfl,_,rfl,Ys (fun c3=>?_) (fun c3=>?_)⟩
   ·have c3:Y5 s'≠ps:=by simpa [YM] using c3
    rw [Qb ⟨c1,c2,c3⟩] at e;have:=q _ (sc.trans s1);rw [e] at this;exact this
   ·exact rest fun z=>z.2.2 (by simpa [YM] using c3)
  ·exact ZW (rest fun z=>z.2.1 (by simpa [YM] using c2))
 ·exact ZW (rest fun z=>z.1 (by simpa [YM] using c1))
theorem ZkJ (T:Tx K w mg)  : Zcw P base T:=by
 refine Fun.okX (k:=0) T.Wq.F Zja (fun vs H Q E h=>h.1) (fun cdv A outer s H vs Q E hr h=>?_);obtain ⟨-,h⟩:=h;obtain ⟨s,rfl,hs,q⟩:=h;refine ⟨_,(Zk (Zw (Wf (Ye hr) (W9 (Z7 Zh Zh (Z7 Zh Zh (Z7 Zh Zh (Z7 Zh Zh (Z7 Zh Zh (Z7 Zh Zh Vb)))))) rfl rfl (by simp) (by decide)) (pv 0) (pv 0) ⟨rfl,rfl,rfl,rfl⟩))),?_⟩;refine Vs kvB (fun _ _ h=>h) (by decide) fun p Hp sp hp=>⟨_,rfl,_,rfl,_,DGet.k (k:=.inr s) hp,?_⟩;rw [ZjG hs];exact q _ sp
theorem Zlk (T:Tx K w mg) (UU:Zcw P base T):Zh3 P base T:=by
 refine Fun.okX (k:=1) T.WE.F ZnM (fun vs H Q E h=>h.1) (fun cdv A outer s H vs Q E hr h=>?_);obtain ⟨-,h⟩:=h;obtain ⟨p,way,rfl,hp,h9,l24,q⟩:=h;refine ⟨_,(Zk (Zw (Zc7 Zet (by rfl) T.n_tuple Zcs (Za (U7 rfl (Jv (N:=["_law_step"]) [] [none] rfl (by decide +kernel) (by decide +kernel) (by rfl) (by rfl) (by rfl) (by rfl) (by rfl)) (Zmw K (by rfl) T.n_reversed (Za (pv 0) Zb)) (fun _ _ _=>(Yo (i:=0) Zmq rfl (Or.inl rfl))) (fun _ _ _=>ZaR) (fun _ _ _=>(ZM UU (hr.mono (by decide)) (by rfl) T.Wq.m T.Wq.F.kp T.Wq.b .nil Zt (Za (pv 0) Zb)))) Zb)))),?_⟩;have len:((YT way).map V.str).length=way.length:=by rw [Qd,Zcm]
 refine ⟨_,rfl,p,_,rfl,hp,Za5 ((YT way).map V.str) (ZK (by rw [len];omega)) (fun σ=>∃v,σ=[v]) ⟨_,rfl⟩ (fun i H2 hi sm=>?go) (fun H2 sm=>?stop) (fun i σ H2 x H3 y hy hσ sm hx C hC=>?step) (fun D H2 nD sm hD=>?fin)⟩
 case go =>
  have hi':i<(way.map V.str).reverse.length:=by rw [Ny,Qd];omega
  exact ⟨_,_,sm.sqt hp,rfl,Qx hi'⟩
 case stop =>
  show _=_;rw [len,Qd]
 case step =>
  obtain ⟨v,rfl⟩:=hσ;obtain ⟨rfl,hx⟩:=hx;have e:=hx _ (sm.sqt hp);rw [←NO] at e;obtain ⟨z,rfl,hz⟩:=ZeK e;obtain ⟨z2,rfl,hz2⟩:=ZeK hy
  have ez:z2=Yu z:=by
   have t:(YT way)[i]?=some (Yu z):=by
    unfold YT;rw [←NO,QA,hz];rfl
   rw [t] at hz2;exact (Qo hz2).symm
  subst ez;refine ⟨_,rfl,rfl,z,rfl,h9 z (List.mem_reverse.mp (QL hz)),fun H4 s4=>hC _ _ ⟨_,rfl⟩ s4⟩
 case fin =>
  exact ⟨D,_,rfl,.inl ⟨.of hD,fun l nl=>q _ l (sm.trans (Zl nl)) (.of Zf)⟩⟩
theorem Zkl (T:Tx K w mg)  : ZeA P base T:=by
 refine Fun.okX (k:=0) T.XB.F ZaC (fun vs H Q E h=>h.1) (fun cdv A outer s H vs Q E hr h=>?_);obtain ⟨-,h⟩:=h;obtain ⟨p,l,st,way,rows,rfl,hp,h9,l24,stl,hrw0,q⟩:=h
 refine ⟨_,(Zn (Xg QX rfl (Zf3 (by rfl) T.n_range (Za (Yk XA (by rfl) T.n_len Y6 (Za (pv 0) Zb)) Zb)) (Yo (i:=3) ZaC.nd rfl (Or.inl rfl))
    (Zn (ZX (i:=4) ZaC.nd rfl (Or.inl rfl) (ZU XU (ZU Wv (pv 1) (pv 3)) (Yk XA (by rfl) T.n_len Y6 (Za (pv 0) Zb))))
   (Zk (Xg QX rfl (WK (pv 2)) (Yo (i:=5) ZaC.nd rfl (Or.inl rfl))
    (Zk (ZJ (ZE (ZgM hr.units) (Xm WX (pv 0) (Y0 (pv 4)) (Y0 (ZU Wv (pv 4) (Yk XA (by rfl) T.n_len Y6 (Za (pv 5) Zb))))) (pv 5) (Zy _)) (Zk (Zw (pv 4))) ZT))))))
   (Zk (Zw (X6 Wa Zi)))),?_⟩
 obtain ⟨rv,hl,rlen,r10,hrow⟩:=hrw0;refine ⟨_,rfl,p,_,rfl,.inr hp,_,rfl,by omega,by rw [Qd];omega,ZfW (fun i σ Hc=>∃v3 v4 v5:Option V,σ=[some (.ref p),some (.int st),some (.ref l),v3,v4,v5]∧Same H Hc) ⟨_,_,_,rfl,.refl _⟩ ?jt ?jd⟩
 case jd =>
  rintro σ Hc ⟨v3,v4,v5,rfl,sc⟩;exact ⟨_,rfl,q _ _ sc (.inl rfl)⟩
 case jt =>
 rintro i σ Hc hi ⟨v3,v4,v5,rfl,sc⟩
 obtain ⟨at_,ea,al⟩:∃a:Nat,((st:Int)+(0+(i:Int))).fmod ((way.map V.str).length:Int)=a∧a<way.length:=by
  rw [Qd];have h0:(0:Int)<(way.length:Int):=by omega
  exact ⟨(((st:Int)+(0+(i:Int))).fmod (way.length:Int)).toNat,(Int.toNat_of_nonneg (NK _ h0)).symm,by have:=NM ((st:Int)+(0+(i:Int))) h0;omega⟩
 refine ⟨_,rfl,_,rfl,_,_,rfl,rfl,_,rfl,p,_,rfl,.inr (sc.sqt hp),_,_,rfl,rfl,(by rw [Qd];omega),?_⟩;dsimp only [Yj];rw [ea];refine ⟨_,rfl,l,rfl,⟨_,sc.sql hl⟩,VF (xs:=rv) (fun j σ Hd=>∃v5:Option V,σ=[some (.ref p),some (.int st),some (.ref l),some (.int (0+(i:Int))),some (.int at_),v5]∧Same H Hd) ?st ?li ?tu ?dn⟩
 case st=>exact ⟨_,rfl,sc⟩
 case li =>
  rintro j σ Hd _ ⟨v5,rfl,sd⟩;exact sd.sql hl
 case dn =>
  rintro σ Hd ⟨v5,rfl,sd⟩;exact ⟨_,_,_,rfl,sd⟩
 case tu =>
 rintro j y σ Hd hy ⟨v5,rfl,sd⟩;obtain ⟨row,hrw⟩:∃row,rows[j]?=some row:=⟨_,Qx (by rw [←rlen];exact (QH.mp hy).1)⟩;obtain ⟨rl,a,rfl,ha⟩:=hrow j y row hy hrw;dsimp only [Yj];refine ⟨_,rfl,_,rfl,_,rfl,_,rfl,_,rfl,a,_,rfl,.inr (sd.sqt ha),_,_,rfl,rfl,_,rfl,p,_,rfl,sd.sqt hp,fun H2 p2 s2 hp2=>?_⟩;rw [Qd,show (at_:Int)+(row.length:Int)=((at_+row.length:Nat):Int) by omega,Zkv _ _ _ (by omega)] at hp2;refine ⟨_,rfl,ZgJ hp2 ((sd.trans s2).sqt ha) ⟨_,rfl,Ys (fun c=>?_) (fun c=>?_)⟩⟩
 ·have c:(way.drop at_).take (at_+row.length-at_)=row:=Q0 c;rw [Nat.add_sub_cancel_left] at c;exact ⟨_,rfl,q _ _ (sd.trans s2) (.inr ⟨at_,row,rfl,al,QL hrw,c⟩)⟩
 ·exact ⟨_,rfl,sd.trans s2⟩
theorem Zir (T:Tx K w mg) (UU:Zcw P base T) (JG:ZeA P base T):Zfj P base T:=by
 refine Fun.okX (k:=1) T.Ux.F UG (fun vs H Q E h=>h.1) (fun cdv A outer s H vs Q E hr h=>?_);obtain ⟨-,h⟩:=h;obtain ⟨p,c,way,rfl,hp,h9,l24,q⟩:=h
 refine ⟨_,(Zn (ZJ (ZE (ZgM hr.units) (pv 0) (ZR Zb) (Zy _)) (Zk (Zw (pv 0))) ZT)
   (Zn (ZX (i:=2) UG.nd rfl (Or.inl rfl) (ZU XU (ZU JO (pv 1) Zi) (Yk XA (by rfl) T.n_len Y6 (Za (pv 0) Zb))))
   (Zn (ZJ (ZE Yb (ZU XU (pv 1) Zi) Zi (Zy _)) (Zn (ZX (i:=3) UG.nd rfl (Or.inl rfl) (Zr Zx (pv 0) (pv 2) (fun _ _=>rfl)))
   (Zk (Zw (ZU U6 (ZU U6 (Xm WX (pv 0) XX (Y0 (ZU Wv (pv 2) Zi))) (ZR (Za (ZM UU (hr.mono (by decide)) (by rfl) T.Wq.m T.Wq.F.kp T.Wq.b .nil Zt (Za (pv 3) Zb)) (Za (pv 3) Zb)))) (Xm WX (pv 0) (Y0 (ZU Wv (pv 2) Zi)) XX))))) ZT)
   (Zn (ZJ (ZE Yb (ZU XU (pv 1) Zi) Zi (Zy _)) (Zn (ZX (i:=4) UG.nd rfl (Or.inl rfl) (ZM JG (hr.mono (by decide)) (by rfl) T.XB.m T.XB.F.kp T.XB.b .nil Zt (Za (pv 0) (Za (pv 2) (Za (YK (Za (ZR (Za Zh (Za Zh Zb))) (Za (ZR (Za Zh (Za Zh Zb))) Zb))) Zb)))))
   (Zk (Zw (Zdf (ZE UT (pv 4) Zi (Zy _)) (pv 0) (ZU U6 (Xm WX (pv 0) XX (Y0 (pv 4))) (Xm WX (pv 0) (Y0 (ZU Wv (pv 4) Zi)) XX)))))) ZT)
   (Zn (ZJ (ZE Yb (ZU XU (pv 1) Zi) Zi (Zy _)) (Zn (ZX (i:=4) UG.nd rfl (Or.inl rfl) (ZM JG (hr.mono (by decide)) (by rfl) T.XB.m T.XB.F.kp T.XB.b .nil Zt (Za (pv 0) (Za (pv 2) (Za (YK (Za (ZR (Za Zh Zb)) (Za (ZR (Za Zh Zb)) Zb))) Zb)))))
   (Zk (Zw (Zdf (ZE UT (pv 4) Zi (Zy _)) (pv 0) (ZU U6 (Xm WX (pv 0) XX (Y0 (pv 4))) (Xm WX (pv 0) (Y0 (ZU Wv (pv 4) Zi)) XX)))))) ZT)
   (Zn (ZX (i:=4) UG.nd rfl (Or.inl rfl) (ZM JG (hr.mono (by decide)) (by rfl) T.XB.m T.XB.F.kp T.XB.b .nil Zt (Za (pv 0) (Za (pv 2) (Za (YK (Za (ZR (Za Zh Zb)) (Za (ZR (Za Zh Zb)) Zb))) Zb)))))
   (Zn (ZJ (ZE UT (pv 4) Zi (Zy _)) (Zk (Zw (pv 0))) ZT)
   (Zk (Zw (ZU U6 (ZU U6 (Xm WX (pv 0) XX (Y0 (ZU Wv (pv 4) Zi))) (ZR (Za (Zan (Ye hr) (W9 (Z7 Zh Zh (Z7 Zh Zh Vb)) rfl rfl (by simp) (by decide)) (Zr Zx (pv 0) (pv 4) (fun _ _=>rfl)) (fun _ _=>rfl)) Zb))) (Xm WX (pv 0) (Y0 (ZU Wv (pv 4) Zi)) XX))))))))))),?_⟩
 refine ⟨_,rfl,few rfl,fun p0 n0=>?_⟩;have s0:=Zl (o:=.tup []) n0;have hp0:=s0.sqt hp;refine ZgJ (b:=[]) hp0 (.of Zf) ⟨_,rfl,Ys (fun e=>?_) (fun e=>?_)⟩
 ·exact ⟨_,rfl,q _ _ way s0 hp0 h9 (Wd.refl _) (by omega)⟩
 have wl:0<way.length:=List.length_pos_iff.mpr (RU e);generalize Zc H p0 (.tup [])=H1 at s0 hp0 ⊢
 obtain ⟨a,ea,al⟩:∃a:Nat,(c.fdiv 4).fmod ((way.map V.str).length:Int)=a∧a<way.length:=by
  rw [Qd];have h0:(0:Int)<(way.length:Int):=by omega
  exact ⟨((c.fdiv 4).fmod (way.length:Int)).toNat,(Int.toNat_of_nonneg (NK _ h0)).symm,by have:=NM (c.fdiv 4) h0;omega⟩
 have b4:(4:Int)≠0∧(4:Int).natAbs<2 ^ 1000:=⟨by decide,ZaN (by decide) (by decide)⟩;refine ⟨_,rfl,_,_,rfl,rfl,b4,_,rfl,p,_,rfl,.inr hp0,_,_,rfl,rfl,(by rw [Qd];omega),?_⟩;dsimp only [Yj];rw [ea];have c1:∀z:Nat,(z:Int)+1=((z+1:Nat):Int):=fun z=>rfl;have stay:∀H',Same H1 H'->Q (.ref p) H':=fun H' s=>q _ _ way (s0.trans s) (s.sqt hp0) h9 (Wd.refl _) (by omega);refine ⟨_,rfl,_,_,rfl,rfl,WP (by decide),rfl,_,rfl,Ys (fun h1=>?_) (fun h1=>?_)⟩
 ·obtain ⟨s,hs⟩:∃s,way[a]?=some s:=⟨_,Qx al⟩;have s9:=h9 s (QL hs);refine ⟨_,rfl,_,rfl,p,_,_,_,rfl,rfl,hp0,XM (by rw [QA,hs];rfl),?_⟩;dsimp only [Yj];refine ⟨_,rfl,_,rfl,_,_,rfl,rfl,_,rfl,p,_,rfl,hp0,fun H2 p2 s2 hp2=>?_⟩;rw [c1,Zay] at hp2;refine ⟨_,rfl,rfl,s,rfl,s9,fun H3 s3=>⟨_,rfl,few rfl,fun p4 n4=>?_⟩⟩;have s24:=s3.trans (Zl (o:=.tup [.str (Yu s),.str s]) n4);refine ⟨p2,p4,_,_,rfl,rfl,s24.sqt hp2,.of Zf,U9 (by rw [Qd,Q3];simp;omega),fun H5 p5 s5 hp5=>?_⟩;have s15:=s2.trans (s24.trans s5);refine ⟨_,rfl,_,rfl,_,_,rfl,rfl,_,rfl,p,_,rfl,s15.sqt hp0,fun H6 p6 s6 hp6=>?_⟩;rw [c1,Zbd _ _ (by omega)] at hp6;refine ⟨p5,p6,_,_,rfl,rfl,s6.sqt hp5,hp6,U9 (by simp;omega),fun H7 p7 s7 hp7=>?_⟩;rw [show [V.str (Yu s),V.str s]=[Yu s,s].map V.str from rfl,ZhN] at hp7
  exact q _ _ _ (s0.trans (s15.trans (s6.trans s7))) hp7 (ZaX h9 fun z hz=>by
   simp only [Qh,QF,QG] at hz;rcases hz with rfl|rfl
   ·exact ZjT s9
   ·exact s9) (Zor hs s9) (by simp;omega)
 refine ⟨_,rfl,_,_,rfl,rfl,WP (by decide),rfl,_,rfl,Ys (fun h2=>?_) (fun h2=>?_)⟩
 ·refine ⟨_,rfl,_,rfl,few rfl,fun t1 m1=>⟨few rfl,fun t2 m2=>⟨few rfl,fun L mL=>?_⟩⟩⟩;have g1:=Zl (o:=.tup [.str "f",.str "F"]) m1;have g2:=Zl (o:=.tup [.str "m",.str "M"]) m2;have g3:=Zl (o:=.lst [.ref t1,.ref t2]) mL;have g:=g1.trans (g2.trans g3);refine ⟨rfl,p,L,a,way,[["f","F"],["m","M"]],rfl,g.sqt hp0,h9,l24,al,Zdw (x:=["f","F"]) (y:=["m","M"]) (.of ((g2.trans g3) _ _ Zf)) (.of (g3 _ _ Zf)) (.of Zf) (by decide) (by decide),fun H2 r s2 hr=>?_⟩;have s12:=g.trans s2;dsimp only [Yj];refine ⟨_,rfl,_,_,rfl,rfl,_,rfl,Ys (fun h3=>⟨_,rfl,stay _ s12⟩) (fun h3=>?_)⟩;rcases hr with rfl|⟨b,row,rfl,bl,rm,hrow⟩
  ·cases h3
  refine ⟨_,rfl,_,rfl,_,rfl,p,_,rfl,s12.sqt hp0,fun H4 p4 s4 hp4=>?_⟩;rw [Zay] at hp4;have s14:=s12.trans s4;refine ⟨_,rfl,_,rfl,_,_,rfl,rfl,_,rfl,p,_,rfl,s14.sqt hp0,fun H6 p6 s6 hp6=>?_⟩
  have bl2:b+2≤way.length:=by
   have e:=Qy List.length hrow;rw [Q3,RL] at e;have:row.length=2:=by rcases (show row=(["f","F"]:List Str)∨row=(["m","M"]:List Str) by simpa using rm) with rfl|rfl<;>rfl
   omega
  rw [show (b:Int)+2=((b+2:Nat):Int) from rfl,Zbd _ _ bl2] at hp6;refine ⟨p4,p6,_,_,rfl,rfl,s6.sqt hp4,hp6,U9 (by simp;omega),fun H7 p7 s7 hp7=>?_⟩;rw [←Qs] at hp7;refine q _ _ _ (s0.trans (s14.trans (s6.trans s7))) hp7 (by have:=ZaX (m:=[]) (a:=b) (b:=b+2) h9 (fun s hs=>by cases hs);simpa using this) ?_ (by simp;omega);rcases (show row=(["f","F"]:List Str)∨row=(["m","M"]:List Str) by simpa using rm) with rfl|rfl
  ·exact Zcy (n:=2) hrow (Zg4 (.inl ⟨rfl,rfl⟩))
  ·exact Zcy (n:=2) hrow (Zg4 (.inr ⟨rfl,rfl⟩))
 refine ⟨_,rfl,_,_,rfl,rfl,WP (by decide),rfl,_,rfl,Ys (fun h2=>?_) (fun h2=>?_)⟩
 ·refine ⟨_,rfl,_,rfl,few rfl,fun t1 m1=>⟨few rfl,fun t2 m2=>⟨few rfl,fun L mL=>?_⟩⟩⟩;have g1:=Zl (o:=.tup [.str "he"]) m1;have g2:=Zl (o:=.tup [.str "she"]) m2;have g3:=Zl (o:=.lst [.ref t1,.ref t2]) mL;have g:=g1.trans (g2.trans g3);refine ⟨rfl,p,L,a,way,[["he"],["she"]],rfl,g.sqt hp0,h9,l24,al,Zdw (x:=["he"]) (y:=["she"]) (.of ((g2.trans g3) _ _ Zf)) (.of (g3 _ _ Zf)) (.of Zf) (by decide) (by decide),fun H2 r s2 hr=>?_⟩;have s12:=g.trans s2;dsimp only [Yj];refine ⟨_,rfl,_,_,rfl,rfl,_,rfl,Ys (fun h3=>⟨_,rfl,stay _ s12⟩) (fun h3=>?_)⟩;rcases hr with rfl|⟨b,row,rfl,bl,rm,hrow⟩
  ·cases h3
  refine ⟨_,rfl,_,rfl,_,rfl,p,_,rfl,s12.sqt hp0,fun H4 p4 s4 hp4=>?_⟩;rw [Zay] at hp4;have s14:=s12.trans s4;refine ⟨_,rfl,_,rfl,_,_,rfl,rfl,_,rfl,p,_,rfl,s14.sqt hp0,fun H6 p6 s6 hp6=>?_⟩;rw [c1,Zbd _ _ (by omega)] at hp6;refine ⟨p4,p6,_,_,rfl,rfl,s6.sqt hp4,hp6,U9 (by simp;omega),fun H7 p7 s7 hp7=>?_⟩;rw [←Qs] at hp7;obtain ⟨s,hs,es,_⟩:=ZgR rm hrow;exact q _ _ _ (s0.trans (s14.trans (s6.trans s7))) hp7 (by have:=ZaX (m:=[]) (a:=b) (b:=b+1) h9 (fun s hs=>by cases hs);simpa using this) (Zcy (Zbs hs) (Zjg es)) (by simp;omega)
 refine ⟨_,rfl,_,rfl,few rfl,fun t1 m1=>⟨few rfl,fun t2 m2=>⟨few rfl,fun L mL=>?_⟩⟩⟩;have g1:=Zl (o:=.tup [.str "F"]) m1;have g2:=Zl (o:=.tup [.str "M"]) m2;have g3:=Zl (o:=.lst [.ref t1,.ref t2]) mL;have g:=g1.trans (g2.trans g3);refine ⟨rfl,p,L,a,way,[["F"],["M"]],rfl,g.sqt hp0,h9,l24,al,Zdw (x:=["F"]) (y:=["M"]) (.of ((g2.trans g3) _ _ Zf)) (.of (g3 _ _ Zf)) (.of Zf) (by decide) (by decide),fun H2 r s2 hr=>?_⟩;have s12:=g.trans s2;dsimp only [Yj];refine ⟨_,rfl,_,_,rfl,rfl,_,rfl,Ys (fun h3=>⟨_,rfl,stay _ s12⟩) (fun h3=>?_)⟩;rcases hr with rfl|⟨b,row,rfl,bl,rm,hrow⟩
 ·cases h3
 obtain ⟨s,hs,es,_⟩:=ZgR rm hrow;refine ⟨_,rfl,_,rfl,_,_,rfl,rfl,_,rfl,p,_,rfl,s12.sqt hp0,fun H4 p4 s4 hp4=>?_⟩;rw [c1,Zay] at hp4;have s14:=s12.trans s4;refine ZjX kvU (fun _ _ h=>h) (by decide) fun pd H5 s5 h5=>⟨_,rfl,_,rfl,p,_,_,_,rfl,rfl,(s14.trans s5).sqt hp0,XM (by rw [QA,hs];rfl),pd,.str (ZD s),rfl,?_,few rfl,fun p5 n5=>?_⟩
 ·have:=DGet.k (k:=.inr s) h5;rw [Zoh es] at this;exact this
 have s56:=s5.trans (Zl (o:=.tup [.str (ZD s)]) n5);refine ⟨p4,p5,_,_,rfl,rfl,s56.sqt hp4,.of Zf,U9 (by simp;omega),fun H7 p7 s7 hp7=>?_⟩;have s17:=s14.trans (s56.trans s7);refine ⟨_,rfl,_,rfl,_,_,rfl,rfl,_,rfl,p,_,rfl,s17.sqt hp0,fun H8 p8 s8 hp8=>?_⟩;rw [c1,Zbd _ _ (by omega)] at hp8;refine ⟨p7,p8,_,_,rfl,rfl,s8.sqt hp7,hp8,U9 (by simp;omega),fun H9 p9 s9 hp9=>?_⟩;rw [show [V.str (ZD s)]=[ZD s].map V.str from rfl,ZhN] at hp9
 exact q _ _ _ (s0.trans (s17.trans (s8.trans s9))) hp9 (ZaX h9 fun z hz=>by
  rw [show z=ZD s by simpa using hz];exact Zlg es) (Zpc hs es) (by simp;omega)
theorem Zlv (T:Tx K w mg) (Vj:Zhf P base T) (Zc6:Zhr P base T) (Zct:ZeE P base T) (ZcO:ZfQ P base T) (ZaY:Zh3 P base T) (ZbG:Zfj P base T):Zhg P base T:=by
 refine Fun.okX (k:=9) T.VU.F Vn (fun vs H Q E h=>h.1) (fun cdv A outer s H vs Q E hr h=>?_);obtain ⟨-,h⟩:=h;obtain ⟨l,ns,rfl,hl,l63,lam,lam2,q⟩:=h
 refine ⟨_,(Zn (ZX (i:=1) Vn.nd rfl (Or.inl rfl) (YK (Za (ZM Zct (hr.mono (by decide)) (by rfl) T.VP.m T.VP.F.kp T.VP.b .nil Zt (Za (Xm Zhe (pv 0) XX (Y0 Zi)) Zb)) Zb)))
   (Zn (Xg QX rfl (WK (Xm Zhe (pv 0) (Y0 Zi) (Y0 Zi))) (Yo (i:=2) Vn.nd rfl (Or.inl rfl))
    (Zk (Z8 (VB RE RF RG Va (pv 1) (Za (ZM ZbG (hr.mono (by decide)) (by rfl) T.Ux.m T.Ux.F.kp T.Ux.b .nil Zt (Za (Zr Yz (pv 1) (X6 Wa Zi) (fun _ _=>rfl)) (Za (pv 2) Zb))) Zb)))))
   (Zn (ZX (i:=3) Vn.nd rfl (Or.inl rfl) (YK (Za (ZR (Za Zh (Za Zh Zb))) (Za (ZR (Za Zh (Za Zh Zb))) (Za (ZR (Za Zh (Za Zh (Za Zh (Za Zh (Za Zh Zb)))))) (Za (ZR (Za Zh (Za Zh (Za Zh (Za Zh Zb))))) (Za (ZR (Za Zh (Za Zh Zb))) Zb)))))))
   (Zn (ZX (i:=4) Vn.nd rfl (Or.inl rfl) (Zr Yz (ZU ZdK (pv 3) (YK (Za (ZR (Za Zh (Za Zh (Za Zh Zb)))) Zb))) (ZU XU (ZM Zc6 (hr.mono (by decide)) (by rfl) T.Um.m T.Um.F.kp T.Um.b .nil Zt (Za (pv 0) (Za Zi Zb))) Zi) (fun _ _=>rfl)))
   (Zn (Xg QX rfl (Zf3 (by rfl) T.n_range (Za (Yk XA (by rfl) T.n_len Y6 (Za (pv 1) Zb)) Zb)) (Yo (i:=5) Vn.nd rfl (Or.inl rfl))
    (Zn (ZX (i:=6) Vn.nd rfl (Or.inl rfl) (Zr Yz (pv 1) (pv 5) (fun _ _=>rfl)))
   (Zn (ZJ (PW.pt (WU (ZE J4 (ZM Vj (hr.mono (by decide)) (by rfl) T.Yv.m T.Yv.F.kp T.Yv.b .nil Zt (Za (pv 6) (Za (pv 6) Zb))) YR (Zy _)) (Vo (PW.pt (Vh (ZE ZbD (pv 5) Zi (Zy _)) (VG (ZE J4 (ZM Vj (hr.mono (by decide)) (by rfl) T.Yv.m T.Yv.F.kp T.Yv.b .nil Zt (Za (Zr Yz (pv 1) (ZU Zgq (pv 5) Zi) (fun _ _=>rfl)) (Za (pv 6) Zb))) YR (Zy _)))))))) (Zk (Zw YR)) ZT)
   (Zn (ZX (i:=7) Vn.nd rfl (Or.inl rfl) (ZM Vj (hr.mono (by decide)) (by rfl) T.Yv.m T.Yv.F.kp T.Yv.b .nil Zt (Za (pv 6) (Za (pv 4) Zb))))
   (Zk (ZJ (PW.pt (WU (W2 (Xx (Wj K (by rfl) T.n_isinstance (Za (pv 7) (Za (X8 (v:=.ty "bool") (by rfl) T.n_bool Zgl rfl) Zb))))) (Vo (ZE XR (pv 7) (ZM ZcO (hr.mono (by decide)) (by rfl) T.V3.m T.V3.F.kp T.V3.b .nil Zt (Za (pv 6) Zb)) (Zy _))))) (Zk (Zw YR)) ZT))))))
   (Zn (ZJ (PW.pt (WU (ZE J4 (ZM Vj (hr.mono (by decide)) (by rfl) T.Yv.m T.Yv.F.kp T.Yv.b .nil Zt (Za (pv 4) (Za (Zr Yz (pv 1) Zi (fun _ _=>rfl)) Zb))) YR (Zy _)) (Vo (ZE J4 (ZM Vj (hr.mono (by decide)) (by rfl) T.Yv.m T.Yv.F.kp T.Yv.b .nil Zt (Za (pv 4) (Za (Zr Yz (pv 1) (X6 Wa Zi) (fun _ _=>rfl)) Zb))) YR (Zy _))))) (Zk (Zw YR)) ZT)
   (Zn (ZJ (ZE J4 (ZM Vj (hr.mono (by decide)) (by rfl) T.Yv.m T.Yv.F.kp T.Yv.b .nil Zt (Za (ZM ZaY (hr.mono (by decide)) (by rfl) T.WE.m T.WE.F.kp T.WE.b .nil Zt (Za (Zr Yz (pv 1) Zi (fun _ _=>rfl)) Zb)) (Za (ZM ZaY (hr.mono (by decide)) (by rfl) T.WE.m T.WE.F.kp T.WE.b .nil Zt (Za (Zr Yz (pv 1) (X6 Wa Zi) (fun _ _=>rfl)) Zb)) Zb))) YR (Zy _)) (Zk (Zw YR)) ZT)
   (Zk (Zw (YZ Zpl (ZM Vj (hr.mono (by decide)) (by rfl) T.Yv.m T.Yv.F.kp T.Yv.b .nil Zt (Za (Zr Yz (pv 1) Zi (fun _ _=>rfl)) (Za (Zr Yz (pv 1) (X6 Wa Zi) (fun _ _=>rfl)) Zb))) YR (Zy _))))))))))),?_⟩
 obtain ⟨cs,ecs,lcs⟩:=Zhw ns 0 12;obtain ⟨ds,eds,lds⟩:=Zhw ns 12 18;have e0:Yi (ns.map V.int) none (some 12)=cs.map V.int:=(Zm7 _ _).trans ecs;refine ⟨_,rfl,_,rfl,l,_,rfl,hl,fun pc nc=>?_⟩;have hpc:SqL K (Zc H pc (.lst (Yi (ns.map V.int) none (some 12)))) pc (cs.map V.int):=by rw [e0];exact .of Zf
 refine ⟨rfl,pc,cs,rfl,hpc,by omega,fun H1 p1 w1 s1 hp1 n1 l1=>⟨few rfl,fun W nW=>?_⟩⟩;have s01:=(Zl (o:=.lst (Yi (ns.map V.int) none (some 12))) nc).trans s1;have s02:=s01.trans (Zl (o:=.lst [V.ref p1]) nW);have nWH:=Z5 s01 nW;dsimp only [Yj];refine ⟨_,rfl,_,rfl,_,rfl,l,_,rfl,s02.sql hl,fun pd nd=>?_⟩;have hpd:SqL K (Zc (Zc H1 W (.lst [V.ref p1])) pd (.lst (Yi (ns.map V.int) (some 12) (some 18)))) pd (ds.map V.int):=by rw [show Yi (ns.map V.int) (some 12) (some 18)=ds.map V.int from eds];exact .of Zf
 have s3:=Zl (o:=.lst (Yi (ns.map V.int) (some 12) (some 18))) nd;have pdW:pd≠W:=fun z=>by rw [z,Zf] at nd;cases nd
 refine ⟨pd,rfl,⟨_,hpd⟩,VF (xs:=ds.map V.int) (fun i σ Hc=>∃(ws:List (List Str×Addr)) (p:List Str×Addr) (v2:Option V),σ=[some (.ref l),some (.ref W),v2,none,none,none,none,none]∧Same H Hc∧Hc W=some (.lst (WZ (ws++[p])))∧WS K Hc (12+2*i) (ws++[p])∧(ws++[p]).length=i+1∧Hc pd=some (.lst (ds.map V.int))) ?st ?li ?tu ?dn⟩
 case st=>exact ⟨[],(w1,p1),_,rfl,s02.trans s3,s3 _ _ Zf,.one (((Zl nW).trans s3).sqt hp1) n1 (by show w1.length≤_;omega),rfl,by rw [Zf];exact Qy (fun z=>some (HO.lst z)) eds⟩
 case li =>
  rintro i σ Hc _ ⟨ws,p,v2,rfl,sc,hW,wk,wl,hd⟩;exact .of hd
 case tu =>
  rintro i y σ Hc hy ⟨ws,p,v2,rfl,sc,hW,wk,wl,hd⟩;obtain ⟨c,rfl,_⟩:=JZ hy;have il:i<6:=by have:=(QH.mp hy).1;rw [Qd] at this;omega
  have pm:p∈ws++[p]:=by simp
  refine ⟨_,rfl,.inl ⟨rfl,_,.of hW⟩,_,rfl,_,rfl,W,_,_,_,rfl,rfl,.of hW,(by rw [WZ,Qs];exact Zaf _ _),_,rfl,rfl,p.2,c,p.1,rfl,wk.sq p pm,(wk.ok p pm).1,(by have:=(wk.ok p pm).2;omega),fun H2 p2 w2 s2 hp2 n2 wd l2=>⟨W,_,_,rfl,rfl,s2 _ _ hW,ZK (by rw [Qd];omega),?_⟩⟩;have f:∀a xs,SqT K H2 a xs->SqT K (Zc H2 W (.lst (WZ (ws++[p])++[.ref p2]))) a xs:=fun a xs h=>X4 h (s2 _ _ hW) (fun _ z=>by cases z) (fun _ _ z=>by cases z);refine ⟨ws++[p],(w2,p2),_,rfl,fun a u e=>?_,by rw [Zf,WZ,WZ,Qs (l₂:=[(w2,p2)])];rfl,.snoc (wk.mono (fun a xs h=>f _ _ (s2.sqt h)) (by omega)) (f _ _ hp2) n2 (by have:=(wk.ok p pm).2;show w2.length≤_;omega) wd,by rw [Qn,wl];rfl,by rw [Zd pdW];exact s2 _ _ hd⟩;rw [Zd (fun z=>by rw [z,nWH] at e;cases e)];exact s2 _ _ (sc _ _ e)
 case dn =>
 rintro σ Hc ⟨ws,p,v2,rfl,sc,hW,wk,wl,hd⟩;rw [Qd] at wl wk;replace wk:=wk.mono (m:=24) (fun _ _ h=>h) (by omega);have pm:p∈ws++[p]:=by simp
 have alast:Yt (WZ (ws++[p])) (-1)=some (.ref p.2):=by rw [WZ,Qs];exact Zaf _ _
 obtain ⟨vs,evs⟩:∃vs,vs=ws++[p]:=⟨_,rfl⟩;rw [←evs] at hW wk wl pm alast;clear evs hpd hpc;refine ⟨few rfl,fun t1 m1=>⟨few rfl,fun t2 m2=>⟨few rfl,fun t3 m3=>⟨few rfl,fun t4 m4=>⟨few rfl,fun t5 m5=>⟨few rfl,fun NL mN=>?_⟩⟩⟩⟩⟩⟩;dsimp only [Yj];refine ⟨_,rfl,few rfl,fun t6 m6=>⟨few rfl,fun L2 mL2=>?_⟩⟩;have g2:=Zl (o:=.tup [.str "M",.str "f"]) m2;have g3:=Zl (o:=.tup [.str "he",.str "T",.str "t",.str "M",.str "he"]) m3;have g4:=Zl (o:=.tup [.str "f",.str "M",.str "F",.str "m"]) m4;have g5:=Zl (o:=.tup [.str "she",.str "he"]) m5;have gN:=Zl (o:=.lst [.ref t1,.ref t2,.ref t3,.ref t4,.ref t5]) mN;have g6:=Zl (o:=.tup [.str "m",.str "F",.str "she"]) m6;have gL:=Zl (o:=.lst [.ref t6]) mL2;refine ⟨NL,L2,_,_,rfl,rfl,gL _ _ (g6 _ _ Zf),Zf,few rfl,fun L3 mL3=>?_⟩;have gM:=Zl (o:=.lst ([.ref t1,.ref t2,.ref t3,.ref t4,.ref t5]++[.ref t6])) mL3;have h6:=gL.trans gM;have hN:=gN.trans (g6.trans h6);have h5:=g5.trans hN;have h4:=g4.trans h5;have h3:=g3.trans h4;have h2:=g2.trans h3;have g:=(Zl (o:=.tup [.str "F",.str "she"]) m1).trans h2;refine ⟨_,rfl,rfl,l,ns,18,rfl,(sc.trans g).sql hl,by decide,fun z=>?_⟩;obtain ⟨x,hx,ex⟩:=ZhK (fun q:List Str×Addr=>V.ref q.2) (Vf.zip [t1,t2,t3,t4,t5,t6]) (show 0<6 by decide) z;refine ⟨_,_,rfl,rfl,WP (by decide),L3,_,_,_,rfl,rfl,.of Zf,ex,?_⟩;have xm:x.1∈Vf:=(GD (show (x.1,x.2)∈_ from hx)).1;have hxn:=ZkR (K:=K) hx (.of (h2 _ _ Zf)) (.of (h3 _ _ Zf)) (.of (h4 _ _ Zf)) (.of (h5 _ _ Zf)) (.of (hN _ _ Zf)) (.of (h6 _ _ Zf));have hWn:=g _ _ hW;have wkn:=wk.mono (fun _ _ h=>g.sqt h) (Qf _);have lan:=lam.same (sc.trans g);have lan2:=lam2.same (sc.trans g);revert hxn hWn wkn lan lan2;generalize Zc _ L3 _=Hn;intro hxn hWn wkn lan lan2;obtain ⟨x9,xl,_⟩:=Zb8 x.1 xm;clear wk hW;dsimp only [Yj];refine ⟨_,rfl,W,_,rfl,.inl (.of hWn),_,rfl,by omega,by rw [Qd];omega,ZfW (fun i σ Hd=>∃v5 v6 v7:Option V,σ=[some (.ref l),some (.ref W),v2,some (.ref NL),some (.ref x.2),v5,v6,v7]∧SameX Hn Hd∧WD T.tb Hd∧Xr T.tb2 Hd) ⟨_,_,_,rfl,.refl _,lan,lan2⟩ ?jt ?jd⟩
 case jt =>
  rintro i σ Hd hi ⟨v5,v6,v7,rfl,sx,la,la2⟩;rw [show (0:Int)+(i:Int)=i from Int.zero_add _];obtain ⟨w,hw⟩:∃w,vs[i]?=some w:=⟨_,Qx (by rw [Qd] at hi;omega)⟩;have wm:=QL hw;obtain ⟨w9,wlen⟩:=wkn.ok w wm;have wsq:=wkn.sq w wm;refine ⟨_,rfl,_,rfl,W,_,_,_,rfl,rfl,sx.sql (.of hWn),XM (by rw [QA,hw];rfl),?_⟩;dsimp only [Yj];refine Wl (fun σ H2=>σ=[some (.ref l),some (.ref W),v2,some (.ref NL),some (.ref x.2),some (.int i),some (.ref w.2),v7]∧SameX Hn H2∧WD T.tb H2∧Xr T.tb2 H2) (fun nx rest=>?_) ?_
  ·refine ⟨_,rfl,_,rfl,rfl,w.2,w.2,w.1,w.1,rfl,sx.sqt wsq,w9,wlen,sx.sqt wsq,w9,wlen,la,la2,fun H1 r sx1 la1 la21 hr=>?_⟩;obtain rfl:r=true:=hr.mpr (Zj2 w9);refine ⟨_,rfl,rfl,_,rfl,Zv (by decide) ⟨_,rfl,_,_,rfl,rfl,_,rfl,Ys (fun h0=>?_) (fun h0=>ZW (rest _ _ ⟨rfl,sx.trans sx1,la1,la21⟩))⟩⟩;have i0:0<i:=by have:=Q0 h0;omega
   obtain ⟨u,hu⟩:∃u,vs[i-1]?=some u:=⟨_,Qx (by have:=(QH.mp hw).1;omega)⟩;have um:=QL hu;obtain ⟨u9,ulen⟩:=wkn.ok u um;have sx2:=sx.trans sx1;refine ⟨_,rfl,_,rfl,_,_,rfl,rfl,W,_,_,_,rfl,rfl,sx2.sql (.of hWn),(by rw [show (i:Int)-1=((i-1:Nat):Int) by omega];exact XM (by rw [QA,hu];rfl)),_,rfl,rfl,u.2,w.2,u.1,w.1,rfl,sx2.sqt (wkn.sq u um),u9,ulen,sx2.sqt wsq,w9,wlen,la1,la21,fun H2 r sx3 la2 la22 hr=>?_⟩;obtain rfl:r=true:=hr.mpr (ZhW u9 (wkn.nx (i-1) u w hu (by rw [Nat.sub_add_cancel i0];exact hw)));exact ⟨_,rfl,rfl,_,rfl,Zv (by decide) (rest _ _ ⟨rfl,sx2.trans sx3,la2,la22⟩)⟩
  clear la la2 sx;rintro σ He ⟨rfl,sx,la,la2⟩;refine ⟨_,rfl,_,rfl,rfl,w.2,x.2,w.1,x.1,rfl,sx.sqt wsq,w9,wlen,sx.sqt hxn,x9,xl,la,la2,fun H1 r sx1 la1 la21 hr=>?_⟩;dsimp only [Yj];have er:r=nv "" w.1:=Q9.mpr (hr.trans (Zm0 w9 xm));refine ⟨_,rfl,_,.ty "bool",_,_,rfl,rfl,.of (.bl _),T.k_bool_bool,_,rfl,Zv rfl ⟨_,rfl,_,rfl,rfl,w.2,w.1,rfl,(sx.trans sx1).sqt wsq,w9,wlen,fun H2 s2=>⟨rfl,_,rfl,Zv (by rw [er];simp) ⟨_,_,_,rfl,(sx.trans sx1).trans s2.x,la1.same s2,la21.same s2⟩⟩⟩⟩
 case jd =>
 rintro σ Hd ⟨v5,v6,v7,rfl,sx,la,la2⟩;obtain ⟨f,hf⟩:∃f,vs[0]?=some f:=⟨_,Qx (by omega)⟩;have fm:=QL hf;have fat:Yt (WZ vs) 0=some (.ref f.2):=XM (j:=0) (by rw [QA,hf];rfl);obtain ⟨f9,flen⟩:=wkn.ok f fm;obtain ⟨p9,plen⟩:=wkn.ok p pm;have wfp:=wkn.fst f hf p pm;have fsq:=wkn.sq f fm;have psq:=wkn.sq p pm;have hWl:SqL K Hn W (WZ vs):=.of hWn;refine ⟨_,rfl,_,rfl,W,_,_,_,rfl,rfl,sx.sql hWl,fat,rfl,x.2,f.2,x.1,f.1,rfl,sx.sqt hxn,x9,xl,sx.sqt fsq,f9,flen,la,la2,fun H1 r sx1 la1 la21 hr=>?_⟩;obtain rfl:r=true:=hr.mpr (Zeg xm);replace sx1:=sx.trans sx1;refine ⟨_,rfl,rfl,_,rfl,Zv (by decide) ⟨_,rfl,_,rfl,_,rfl,W,_,_,_,rfl,rfl,sx1.sql hWl,alast,rfl,x.2,p.2,x.1,p.1,rfl,sx1.sqt hxn,x9,xl,sx1.sqt psq,p9,plen,la1,la21,fun H2 r sx2 la2 la22 hr=>?_⟩⟩;obtain rfl:r=true:=hr.mpr (Zeg xm);replace sx2:=sx1.trans sx2;refine ⟨_,rfl,rfl,_,rfl,Zv (by decide) ?_⟩;refine ⟨_,rfl,W,_,_,_,rfl,rfl,sx2.sql hWl,fat,rfl,f.2,f.1,rfl,sx2.sqt fsq,f9,flen,fun H3 q3 s3 hq3=>?_⟩;have sx3:=sx2.trans s3.x;refine ⟨_,rfl,_,rfl,W,_,_,_,rfl,rfl,sx3.sql hWl,alast,rfl,p.2,p.1,rfl,sx3.sqt psq,p9,plen,fun H4 q4 s4 hq4=>?_⟩;have sx4:=sx3.trans s4.x;refine ⟨rfl,q3,q4,YT f.1,YT p.1,rfl,s4.sqt hq3,Zag f9,by rw [Zcm];exact flen,hq4,Zag p9,by rw [Zcm];exact plen,(la2.same s3).same s4,(la22.same s3).same s4,fun H5 r sx5 la5 la25 hr=>?_⟩;obtain rfl:r=true:=hr.mpr (ZkZ f9 p9 wfp);replace sx5:=sx4.trans sx5;refine ⟨_,rfl,rfl,_,rfl,Zv (by decide) ?_⟩;refine ⟨_,rfl,W,_,_,_,rfl,rfl,sx5.sql hWl,fat,_,rfl,_,rfl,W,_,_,_,rfl,rfl,sx5.sql hWl,alast,rfl,f.2,p.2,f.1,p.1,rfl,sx5.sqt fsq,f9,flen,sx5.sqt psq,p9,plen,la5,la25,fun H6 r sx6 la6 la26 hr=>?_⟩;obtain rfl:r=true:=hr.mpr (ZhW f9 wfp);exact ⟨_,rfl,rfl,q _ la6 la26⟩
end
theorem Zih {P:Program} {w:World} {K:W.Frag} {mg:Str->Option Value} {base:Heap} (T:Tx K w mg) (LB:LamB base T.cc T.tb mg) (LB2:LamB base T.cc2 T.tb2 mg):Zhg P base T:=by
 have UY:=Znb (P:=P) (w:=w) (base:=base) T;have Jp:=ZnR (P:=P) (w:=w) (base:=base) T;have Zb3:=Znf (P:=P) (w:=w) (base:=base) T UY;have Zcf:=Zpu (P:=P) (w:=w) (base:=base) T UY;have Zbm:=Zjy (P:=P) (w:=w) (base:=base) T;have Zbx:=ZmU (P:=P) (w:=w) (base:=base) T Jp;have Zc0:=ZmQ (P:=P) (w:=w) (base:=base) T Jp Zb3 Zcf Zbm Zbx;have ZbR:=Zlz (P:=P) (w:=w) (base:=base) T Zc0;have UK:=Zpm (P:=P) (w:=w) (base:=base) T;have U2:=Zmy (P:=P) (w:=w) (base:=base) T;have Zbr:=ZiJ (P:=P) (w:=w) (base:=base) T;have Jh:=Zps (P:=P) (w:=w) (base:=base) T UK;have UZ:=Znx (P:=P) (w:=w) (base:=base) T Jh;have Zch:=ZmL (P:=P) (w:=w) (base:=base) T;have UF:=Zjb (P:=P) (w:=w) (base:=base) T;have Zb9:=ZkB (P:=P) (w:=w) (base:=base) T;have Xd:=ZmA (P:=P) (w:=w) (base:=base) T;have UI:=Zog (P:=P) (w:=w) (base:=base) T Xd;have Wc:=Znd (P:=P) (w:=w) (base:=base) T Xd;have ZaB:=ZmR (P:=P) (w:=w) (base:=base) T UI Wc;have Zd8:=ZiE (P:=P) (w:=w) (base:=base) T U2 Zbr Wc ZaB;have Zb5:=ZjV (P:=P) (w:=w) (base:=base) T ZbR U2 UZ Xd Zd8;have XJ:=Zkr (P:=P) (w:=w) (base:=base) T;have Zbz:=Zjo (P:=P) (w:=w) (base:=base) T XJ;have UJ:=ZjF (P:=P) (w:=w) (base:=base) T Zch Xd;have Zcc:=Zno (P:=P) (w:=w) (base:=base) T UF Xd;have Zbl:=Zn2 (P:=P) (w:=w) (base:=base) T UF XJ UJ Zcc;have Jr:=ZlK (P:=P) (w:=w) (base:=base) T UK Jh UZ Zb5 XJ Zbz Zbl;have UR:=ZnW (P:=P) (w:=w) (base:=base) T;have Zcp:=Zkg (P:=P) (w:=w) (base:=base) T;have V4:=Znm (P:=P) (w:=w) (base:=base) T;have W0:=ZlG (P:=P) (w:=w) (base:=base) T;have ZcH:=ZlT (P:=P) (w:=w) (base:=base) T V4 W0;have ZbU:=ZoP (P:=P) (w:=w) (base:=base) T UR V4 W0 ZcH;have Xc:=ZoO (P:=P) (w:=w) (base:=base) T;have Zax:=Zon (P:=P) (w:=w) (base:=base) T Xc;have Zd6:=ZlC (P:=P) (w:=w) (base:=base) T Xc Zax;have ZdL:=Zok (P:=P) (w:=w) (base:=base) T LB2 Zb9 Jr Xc Zd6;have ZdU:=Zow (P:=P) (w:=w) (base:=base) T Zcp ZbU Xc ZdL;have Zai:=Zmb (P:=P) (w:=w) (base:=base) T UI UJ UR;have ZcY:=ZiF (P:=P) (w:=w) (base:=base) T Zai;have ZbO:=Zjm (P:=P) (w:=w) (base:=base) T LB Wc Zai ZcY;have ZdA:=ZoM (P:=P) (w:=w) (base:=base) T ZbO;have Vj:=ZlE (P:=P) (w:=w) (base:=base) T ZdU ZdA;have Zc6:=Zi4 (P:=P) (w:=w) (base:=base) T;have Zct:=Zik (P:=P) (w:=w) (base:=base) T;have ZcO:=ZiS (P:=P) (w:=w) (base:=base) T;have UU:=ZkJ (P:=P) (w:=w) (base:=base) T;have ZaY:=Zlk (P:=P) (w:=w) (base:=base) T UU;have JG:=Zkl (P:=P) (w:=w) (base:=base) T;have ZbG:=Zir (P:=P) (w:=w) (base:=base) T UU JG;have Zpv:=Zlv (P:=P) (w:=w) (base:=base) T Vj Zc6 Zct ZcO ZaY ZbG;exact Zpv
theorem Zi8 {K:W.Frag} {w:World} {mg:Str->Option Value} (T:Tx K w mg) {vs:List V} {H:Hp} {Q:VK} {E:XK} (h:Zaq K T.tb T.tb2 vs H Q E):Zeo T vs H Q E:=by
 obtain ⟨a,ns,rfl,r⟩:=h;exact ⟨rfl,a,ns,rfl,r⟩
theorem all_mk {l:W.OpenLaw} {w:World} {K:W.Frag} {h:Heap} {mg:Str->Option Value} {fa:Addr} (X:K.In h) (G:h.Ns mainGlobals mg) (hfa:mg "law"=some (.ref fa))
  {OC_Tree:Addr}
  {OC_Book:Addr}
  {f0:Addr}
  {f1:Addr}
  {f2:Addr}
  {f3:Addr}
  {f4:Addr}
  {f5:Addr}
  {f6:Addr}
  {f7:Addr}
  {f8:Addr}
  {f9:Addr}
  {f10:Addr}
  {f11:Addr}
  {f12:Addr}
  {f13:Addr}
  {f14:Addr}
  {f15:Addr}
  {f16:Addr}
  {f17:Addr}
  {f18:Addr}
  {f19:Addr}
  {f20:Addr}
  {f21:Addr}
  {f22:Addr}
  {f23:Addr}
  {f24:Addr}
  {f25:Addr}
  {od25 an25:Option Addr} {sl25:Array (Option Value)} {oc25 kV25 dc25 pm25 cd25 ct25:Value}
  {DT25:Addr} {odD25:Option Addr} {nD25:Nat} {slD25:Array (Option Value)}
  {f26:Addr}
  {f27:Addr}
  {f28:Addr}
  {f29:Addr}
  {f30:Addr}
  {f31:Addr}
  {f32:Addr}
  {f33:Addr}
  {f34:Addr}
  {f35:Addr}
  {f36:Addr}
  {f37:Addr}
  {f38:Addr}
  {f39:Addr}
  {f40:Addr}
  {f41:Addr}
  {f42:Addr}
  {f43:Addr}
  {f44:Addr}
  {f45:Addr}
  {f46:Addr}
  {f47:Addr}
  {f48:Addr}
  {f49:Addr}
  {f50:Addr}
  {f51:Addr}
  {C0:Addr}
  {C1:Addr}
  {C2:Addr}
  {C3:Addr}
  {C4:Addr}
  {C5:Addr}
  {C6:Addr}
  {F0:Addr} {odF:Option Addr} {nF:Nat} {slF:Array (Option Value)} {tL:Tok}
  {P0 G0:Addr} {tp0:Tok} {odp0 odg0:Option Addr} {np0 ng0:Nat} {slp0 slg0:Array (Option Value)}
  {P1 G1:Addr} {tp1:Tok} {odp1 odg1:Option Addr} {np1 ng1:Nat} {slp1 slg1:Array (Option Value)}
  {P2 G2:Addr} {tp2:Tok} {odp2 odg2:Option Addr} {np2 ng2:Nat} {slp2 slg2:Array (Option Value)}
  {P3 G3:Addr} {tp3:Tok} {odp3 odg3:Option Addr} {np3 ng3:Nat} {slp3 slg3:Array (Option Value)}
  {P4 G4:Addr} {tp4:Tok} {odp4 odg4:Option Addr} {np4 ng4:Nat} {slp4 slg4:Array (Option Value)}
  {P5 G5:Addr} {tp5:Tok} {odp5 odg5:Option Addr} {np5 ng5:Nat} {slp5 slg5:Array (Option Value)}
  {KT0:Addr} {odT0:Option Addr} {nT0:Nat} {slT0:Array (Option Value)} {tt0_0:Tok} {tt0_1:Tok} {tt0_2:Tok} {tt0_3:Tok} {tt0_4:Tok} {tt0_5:Tok} {tt0_6:Tok}
  {KT1:Addr} {odT1:Option Addr} {nT1:Nat} {slT1:Array (Option Value)} {tt1_0:Tok} {tt1_1:Tok}
  {ti0:Tok}
  {ti1:Tok}
  {CC TB:Addr} {oF oC:Value} {dF dC:Option Addr} {sF sC:Array (Option Value)} {kVF dcF pmF ctF:Value} {anF:Option Addr} {vC:Array Value}
  {CC2 TB2:Addr} {oF2 oC2:Value} {dF2 dC2:Option Addr} {sF2 sC2:Array (Option Value)} {kVF2 dcF2 pmF2 ctF2:Value} {anF2:Option Addr} {vC2:Array Value}
  {KD0 nKD0:Addr} {tk0_0 tv0_0:Tok} {tk0_1 tv0_1:Tok}
  {KD1 nKD1:Addr} {tk1_0 tv1_0:Tok} {tk1_1 tv1_1:Tok}
  (ao1:W.nsIn K mainGlobals "Tree"=some (some (.ref OC_Tree)))
  (ao0:W.nsIn K mainGlobals "Book"=some (some (.ref OC_Book)))
  (a0:W.nsIn K mainGlobals "is_whole"=some (some (.ref f0)))
  (l0:DefIn K "is_whole" "is_whole" Zdz f0)
  (a1:W.nsIn K mainGlobals "is_name"=some (some (.ref f1)))
  (l1:DefIn K "is_name" "is_name" ZdZ f1)
  (a2:W.nsIn K mainGlobals "is_day"=some (some (.ref f2)))
  (l2:DefIn K "is_day" "is_day" ZcX f2)
  (a3:W.nsIn K mainGlobals "is_amount"=some (some (.ref f3)))
  (l3:DefIn K "is_amount" "is_amount" ZdB f3)
  (a4:W.nsIn K mainGlobals "is_sort"=some (some (.ref f4)))
  (l4:DefIn K "is_sort" "is_sort" ZbJ f4)
  (a5:W.nsIn K mainGlobals "is_parent"=some (some (.ref f5)))
  (l5:DefIn K "is_parent" "is_parent" ZbB f5)
  (a6:W.nsIn K mainGlobals "has_form"=some (some (.ref f6)))
  (l6:DefIn K "has_form" "has_form" Zcq f6)
  (a7:W.nsIn K mainGlobals "is_entry"=some (some (.ref f7)))
  (l7:DefIn K "is_entry" "is_entry" ZdI f7)
  (a8:W.nsIn K mainGlobals "is_tie"=some (some (.ref f8)))
  (l8:DefIn K "is_tie" "is_tie" ZcF f8)
  (a9:W.nsIn K mainGlobals "named_in"=some (some (.ref f9)))
  (l9:DefIn K "named_in" "named_in" Zdd f9)
  (a10:W.nsIn K mainGlobals "day_of"=some (some (.ref f10)))
  (l10:DefIn K "day_of" "day_of" Zc9 f10)
  (a11:W.nsIn K mainGlobals "as_told"=some (some (.ref f11)))
  (l11:DefIn K "as_told" "as_told" Zc2 f11)
  (a12:W.nsIn K mainGlobals "key_of"=some (some (.ref f12)))
  (l12:DefIn K "key_of" "key_of" ZcR f12)
  (a13:W.nsIn K mainGlobals "is_letter"=some (some (.ref f13)))
  (l13:DefIn K "is_letter" "is_letter" ZcM f13)
  (a14:W.nsIn K mainGlobals "pair_of"=some (some (.ref f14)))
  (l14:DefIn K "pair_of" "pair_of" ZcZ f14)
  (a15:W.findIn K (.ref OC_Book) "__init__"=some (some (.ref f15))) (i15:W.isFn K (.ref f15)=true)
  (l15:DefIn K "__init__" "Book.__init__" ZbZ f15)
  (a16:W.findIn K (.ref OC_Book) "birth_of"=some (some (.ref f16))) (i16:W.isFn K (.ref f16)=true)
  (l16:DefIn K "birth_of" "Book.birth_of" ZdF f16)
  (a17:W.findIn K (.ref OC_Book) "sort_of"=some (some (.ref f17))) (i17:W.isFn K (.ref f17)=true)
  (l17:DefIn K "sort_of" "Book.sort_of" ZdN f17)
  (a18:W.findIn K (.ref OC_Book) "born_on"=some (some (.ref f18))) (i18:W.isFn K (.ref f18)=true)
  (l18:DefIn K "born_on" "Book.born_on" ZdV f18)
  (a19:W.findIn K (.ref OC_Book) "parent_fits"=some (some (.ref f19))) (i19:W.isFn K (.ref f19)=true)
  (l19:DefIn K "parent_fits" "Book.parent_fits" ZbA f19)
  (a20:W.findIn K (.ref OC_Book) "fits"=some (some (.ref f20))) (i20:W.isFn K (.ref f20)=true)
  (l20:DefIn K "fits" "Book.fits" ZcA f20)
  (a21:W.findIn K (.ref OC_Book) "refuse"=some (some (.ref f21))) (i21:W.isFn K (.ref f21)=true)
  (l21:DefIn K "refuse" "Book.refuse" ZcB f21)
  (a22:W.findIn K (.ref OC_Book) "link"=some (some (.ref f22))) (i22:W.isFn K (.ref f22)=true)
  (l22:DefIn K "link" "Book.link" Zcv f22)
  (a23:W.findIn K (.ref OC_Book) "note_birth"=some (some (.ref f23))) (i23:W.isFn K (.ref f23)=true)
  (l23:DefIn K "note_birth" "Book.note_birth" ZdX f23)
  (a24:W.findIn K (.ref OC_Book) "step"=some (some (.ref f24))) (i24:W.isFn K (.ref f24)=true)
  (l24:DefIn K "step" "Book.step" Zd3 f24)
  (a25:W.findIn K (.ref OC_Book) "stands"=some (some (.ref f25))) (i25:W.isFn K (.ref f25)=true)
  (l25:K.lookup f25=some ⟨oc25,od25,.func (W.fnOf "stands" "Book.stands" (Xo WN) (Y3 WN) (Zu WN) (.ref DT25) kV25 dc25 pm25 an25 cd25 ct25),sl25⟩)
  (cc25:W.codeIn K cd25 "Book.stands"=true) (k25:W.keepIn K (.ref f25)=true)
  (ldt25:K.lookup DT25=some ⟨.type "tuple",odD25,.seq #[.none] nD25,slD25⟩)
  (a26:W.findIn K (.ref OC_Book) "note_tie"=some (some (.ref f26))) (i26:W.isFn K (.ref f26)=true)
  (l26:DefIn K "note_tie" "Book.note_tie" Zcn f26)
  (a27:W.findIn K (.ref OC_Book) "put"=some (some (.ref f27))) (i27:W.isFn K (.ref f27)=true)
  (l27:DefIn K "put" "Book.put" ZcL f27)
  (a28:W.nsIn K mainGlobals "is_test"=some (some (.ref f28)))
  (l28:DefIn K "is_test" "is_test" Zck f28)
  (a29:W.findIn K (.ref OC_Tree) "__init__"=some (some (.ref f29))) (i29:W.isFn K (.ref f29)=true)
  (l29:DefIn K "__init__" "Tree.__init__" Zcg f29)
  (a30:W.findIn K (.ref OC_Tree) "ask"=some (some (.ref f30))) (i30:W.isFn K (.ref f30)=true)
  (l30:DefIn K "ask" "Tree.ask" Zca f30)
  (a31:W.findIn K (.ref OC_Tree) "grow"=some (some (.ref f31))) (i31:W.isFn K (.ref f31)=true)
  (l31:DefIn K "grow" "Tree.grow" Zci f31)
  (a32:W.findIn K (.ref OC_Tree) "go_up"=some (some (.ref f32))) (i32:W.isFn K (.ref f32)=true)
  (l32:DefIn K "go_up" "Tree.go_up" Zdt f32)
  (a33:W.findIn K (.ref OC_Tree) "go"=some (some (.ref f33))) (i33:W.isFn K (.ref f33)=true)
  (l33:DefIn K "go" "Tree.go" ZbE f33)
  (a34:W.nsIn K mainGlobals "name_of"=some (some (.ref f34)))
  (l34:DefIn K "name_of" "name_of" ZdO f34)
  (a35:W.nsIn K mainGlobals "parent_name"=some (some (.ref f35)))
  (l35:DefIn K "parent_name" "parent_name" ZcJ f35)
  (a36:W.nsIn K mainGlobals "birth"=some (some (.ref f36)))
  (l36:DefIn K "birth" "birth" Zds f36)
  (a37:W.nsIn K mainGlobals "book_of_tree"=some (some (.ref f37)))
  (l37:DefIn K "book_of_tree" "book_of_tree" Jq f37)
  (a38:W.nsIn K mainGlobals "book_of"=some (some (.ref f38)))
  (l38:DefIn K "book_of" "book_of" ZbN f38)
  (a39:W.nsIn K mainGlobals "led_by_step"=some (some (.ref f39)))
  (l39:DefIn K "led_by_step" "led_by_step" ZdG f39)
  (a40:W.nsIn K mainGlobals "layers_of"=some (some (.ref f40)))
  (l40:DefIn K "layers_of" "layers_of" Zce f40)
  (a41:W.nsIn K mainGlobals "reach"=some (some (.ref f41)))
  (l41:DefIn K "reach" "reach" Jf f41)
  (a42:W.nsIn K mainGlobals "leads_there"=some (some (.ref f42)))
  (l42:DefIn K "leads_there" "leads_there" Zcz f42)
  (a43:W.nsIn K mainGlobals "within"=some (some (.ref f43)))
  (l43:DefIn K "within" "within" ZdW f43)
  (a44:W.nsIn K mainGlobals "_law_cell_at"=some (some (.ref f44)))
  (l44:DefIn K "_law_cell_at" "_law_cell_at" ZcW f44)
  (a45:W.nsIn K mainGlobals "_law_free"=some (some (.ref f45)))
  (l45:DefIn K "_law_free" "_law_free" ZbW f45)
  (a46:W.nsIn K mainGlobals "_law_never"=some (some (.ref f46)))
  (l46:DefIn K "_law_never" "_law_never" ZcP f46)
  (a47:W.nsIn K mainGlobals "_law_back"=some (some (.ref f47)))
  (l47:DefIn K "_law_back" "_law_back" Zco f47)
  (a48:W.nsIn K mainGlobals "_law_turned"=some (some (.ref f48)))
  (l48:DefIn K "_law_turned" "_law_turned" Zdr f48)
  (a49:W.nsIn K mainGlobals "_law_first"=some (some (.ref f49)))
  (l49:DefIn K "_law_first" "_law_first" ZdS f49)
  (a50:W.nsIn K mainGlobals "_law_wider"=some (some (.ref f50)))
  (l50:DefIn K "_law_wider" "_law_wider" Zdg f50)
  (a51:W.nsIn K mainGlobals "law"=some (some (.ref f51)))
  (l51:DefIn K "law" "law" Zdq f51)
  (pg0:W.plainGet K OC_Book Str.empty=true) (hd0:W.hasDictIn K OC_Book=true) (po0:W.plainOver K OC_Book=true) (sa0:W.findIn K (.ref OC_Book) "__setattr__"=some (some (.builtin "object.__setattr__"))) (mk0:W.makesIn K OC_Book=true) (kc0:W.keepIn K (.ref OC_Book)=true)
  (na0_kept:W.findIn K (.ref OC_Book) "kept"=some none)
  (na0_births:W.findIn K (.ref OC_Book) "births"=some none)
  (na0_links:W.findIn K (.ref OC_Book) "links"=some none)
  (na0_ties:W.findIn K (.ref OC_Book) "ties"=some none)
  (na0_sums:W.findIn K (.ref OC_Book) "sums"=some none)
  (pg1:W.plainGet K OC_Tree Str.empty=true) (hd1:W.hasDictIn K OC_Tree=true) (po1:W.plainOver K OC_Tree=true) (sa1:W.findIn K (.ref OC_Tree) "__setattr__"=some (some (.builtin "object.__setattr__"))) (mk1:W.makesIn K OC_Tree=true) (kc1:W.keepIn K (.ref OC_Tree)=true)
  (na1_days:W.findIn K (.ref OC_Tree) "days"=some none)
  (na1_sorts:W.findIn K (.ref OC_Tree) "sorts"=some none)
  (na1_parents:W.findIn K (.ref OC_Tree) "parents"=some none)
  (na1_takings:W.findIn K (.ref OC_Tree) "takings"=some none)
  (na1_unions:W.findIn K (.ref OC_Tree) "unions"=some none)
  (na1_clash:W.findIn K (.ref OC_Tree) "clash"=some none)
  (na1_here:W.findIn K (.ref OC_Tree) "here"=some none)
  (ac0:W.nsIn K mainGlobals "HeirError"=some (some (.ref C0)))
  (ac1:W.nsIn K mainGlobals "NoEntry"=some (some (.ref C1)))
  (xc1:W.excIn K C1 XC "ValueError.__new__"=true)
  (e1_1:W.findIn K (.ref C1) "__getattribute__"=some (some (.builtin "BaseException.__getattribute__"))) (e2_1:W.findIn K (.ref C1) "__getattr__"=some none) (e3_1:W.findIn K (.ref C1) "__class__"=some (some (.builtin "object.__class__"))) (e4_1:W.mroIn K C1 (.type "BaseException")=some true) (e5_1:W.mroIn K C1 (.type "object")=some true)
  (ac2:W.nsIn K mainGlobals "Full"=some (some (.ref C2)))
  (xc2:W.excIn K C2 XC "ValueError.__new__"=true)
  (e1_2:W.findIn K (.ref C2) "__getattribute__"=some (some (.builtin "BaseException.__getattribute__"))) (e2_2:W.findIn K (.ref C2) "__getattr__"=some none) (e3_2:W.findIn K (.ref C2) "__class__"=some (some (.builtin "object.__class__"))) (e4_2:W.mroIn K C2 (.type "BaseException")=some true) (e5_2:W.mroIn K C2 (.type "object")=some true)
  (ac3:W.nsIn K mainGlobals "NoPerson"=some (some (.ref C3)))
  (xc3:W.excIn K C3 XC "ValueError.__new__"=true)
  (e1_3:W.findIn K (.ref C3) "__getattribute__"=some (some (.builtin "BaseException.__getattribute__"))) (e2_3:W.findIn K (.ref C3) "__getattr__"=some none) (e3_3:W.findIn K (.ref C3) "__class__"=some (some (.builtin "object.__class__"))) (e4_3:W.mroIn K C3 (.type "BaseException")=some true) (e5_3:W.mroIn K C3 (.type "object")=some true)
  (ac4:W.nsIn K mainGlobals "Twice"=some (some (.ref C4)))
  (xc4:W.excIn K C4 XC "ValueError.__new__"=true)
  (e1_4:W.findIn K (.ref C4) "__getattribute__"=some (some (.builtin "BaseException.__getattribute__"))) (e2_4:W.findIn K (.ref C4) "__getattr__"=some none) (e3_4:W.findIn K (.ref C4) "__class__"=some (some (.builtin "object.__class__"))) (e4_4:W.mroIn K C4 (.type "BaseException")=some true) (e5_4:W.mroIn K C4 (.type "object")=some true)
  (ac5:W.nsIn K mainGlobals "NoFit"=some (some (.ref C5)))
  (xc5:W.excIn K C5 XC "ValueError.__new__"=true)
  (e1_5:W.findIn K (.ref C5) "__getattribute__"=some (some (.builtin "BaseException.__getattribute__"))) (e2_5:W.findIn K (.ref C5) "__getattr__"=some none) (e3_5:W.findIn K (.ref C5) "__class__"=some (some (.builtin "object.__class__"))) (e4_5:W.mroIn K C5 (.type "BaseException")=some true) (e5_5:W.mroIn K C5 (.type "object")=some true)
  (ac6:W.nsIn K mainGlobals "NoWay"=some (some (.ref C6)))
  (xc6:W.excIn K C6 XC "ValueError.__new__"=true)
  (e1_6:W.findIn K (.ref C6) "__getattribute__"=some (some (.builtin "BaseException.__getattribute__"))) (e2_6:W.findIn K (.ref C6) "__getattr__"=some none) (e3_6:W.findIn K (.ref C6) "__class__"=some (some (.builtin "object.__class__"))) (e4_6:W.mroIn K C6 (.type "BaseException")=some true) (e5_6:W.mroIn K C6 (.type "object")=some true)
  (z_abs:W.nsIn K mainGlobals "abs"=some none)
  (z_all:W.nsIn K mainGlobals "all"=some none)
  (z_bool:W.nsIn K mainGlobals "bool"=some none)
  (z_int:W.nsIn K mainGlobals "int"=some none)
  (z_isinstance:W.nsIn K mainGlobals "isinstance"=some none)
  (z_len:W.nsIn K mainGlobals "len"=some none)
  (z_list:W.nsIn K mainGlobals "list"=some none)
  (z_max:W.nsIn K mainGlobals "max"=some none)
  (z_min:W.nsIn K mainGlobals "min"=some none)
  (z_range:W.nsIn K mainGlobals "range"=some none)
  (z_reversed:W.nsIn K mainGlobals "reversed"=some none)
  (z_sorted:W.nsIn K mainGlobals "sorted"=some none)
  (z_str:W.nsIn K mainGlobals "str"=some none)
  (z_tuple:W.nsIn K mainGlobals "tuple"=some none)
  (z_zip:W.nsIn K mainGlobals "zip"=some none)
  (q_k_int_int:W.kitOne K (.type "int") (.type "int")=some true)
  (q_k_int_str:W.kitOne K (.type "int") (.type "str")=some false)
  (q_k_int_tuple:W.kitOne K (.type "int") (.type "tuple")=some false)
  (q_k_int_bool:W.kitOne K (.type "int") (.type "bool")=some false)
  (q_k_str_int:W.kitOne K (.type "str") (.type "int")=some false)
  (q_k_str_str:W.kitOne K (.type "str") (.type "str")=some true)
  (q_k_str_tuple:W.kitOne K (.type "str") (.type "tuple")=some false)
  (q_k_bool_int:W.kitOne K (.type "bool") (.type "int")=some true)
  (q_k_bool_str:W.kitOne K (.type "bool") (.type "str")=some false)
  (q_k_bool_tuple:W.kitOne K (.type "bool") (.type "tuple")=some false)
  (q_k_bool_bool:W.kitOne K (.type "bool") (.type "bool")=some true)
  (q_k_NoneType_int:W.kitOne K (.type "NoneType") (.type "int")=some false)
  (q_k_NoneType_str:W.kitOne K (.type "NoneType") (.type "str")=some false)
  (q_k_NoneType_tuple:W.kitOne K (.type "NoneType") (.type "tuple")=some false)
  (q_k_tuple_int:W.kitOne K (.type "tuple") (.type "int")=some false)
  (q_k_tuple_str:W.kitOne K (.type "tuple") (.type "str")=some false)
  (q_k_tuple_tuple:W.kitOne K (.type "tuple") (.type "tuple")=some true)
  (q_k_list_int:W.kitOne K (.type "list") (.type "int")=some false)
  (q_k_list_str:W.kitOne K (.type "list") (.type "str")=some false)
  (q_k_list_tuple:W.kitOne K (.type "list") (.type "tuple")=some false)
  (q_k_dict_int:W.kitOne K (.type "dict") (.type "int")=some false)
  (q_k_dict_str:W.kitOne K (.type "dict") (.type "str")=some false)
  (q_k_dict_tuple:W.kitOne K (.type "dict") (.type "tuple")=some false)
  (q_kl_list:W.kitOne K (.type "list") (.type "list")=some true)
  (q_kx_HeirError:W.kitOne K (.ref C3) (.ref C0)=some true)
  (q_kx_ValueError:W.kitOne K (.ref C3) (.type "ValueError")=some true)
  (zF:W.nsIn K mainGlobals "FORMS"=some (some (.ref F0)))
  (zL:W.nsIn K mainGlobals "LETTERS"=some (some (.str "abcdefghijklmnopqrstuvwxyz" tL)))
  (uF:K.lookup F0=some ⟨.type "tuple",odF,.seq #[.ref P0,.ref P1,.ref P2,.ref P3,.ref P4,.ref P5] nF,slF⟩)
  (up0:K.lookup P0=some ⟨.type "tuple",odp0,.seq #[.str "born" tp0,.ref G0] np0,slp0⟩)
  (up1:K.lookup P1=some ⟨.type "tuple",odp1,.seq #[.str "taken" tp1,.ref G1] np1,slp1⟩)
  (up2:K.lookup P2=some ⟨.type "tuple",odp2,.seq #[.str "union" tp2,.ref G2] np2,slp2⟩)
  (up3:K.lookup P3=some ⟨.type "tuple",odp3,.seq #[.str "parted" tp3,.ref G3] np3,slp3⟩)
  (up4:K.lookup P4=some ⟨.type "tuple",odp4,.seq #[.str "dead" tp4,.ref G4] np4,slp4⟩)
  (up5:K.lookup P5=some ⟨.type "tuple",odp5,.seq #[.str "given" tp5,.ref G5] np5,slp5⟩)
  (ug0:K.lookup G0=some ⟨.type "tuple",odg0,.seq #[.ref f1,.ref f4,.ref f2,.ref f5,.ref f5] ng0,slg0⟩)
  (ug1:K.lookup G1=some ⟨.type "tuple",odg1,.seq #[.ref f1,.ref f1,.ref f2] ng1,slg1⟩)
  (ug2:K.lookup G2=some ⟨.type "tuple",odg2,.seq #[.ref f1,.ref f1,.ref f2] ng2,slg2⟩)
  (ug3:K.lookup G3=some ⟨.type "tuple",odg3,.seq #[.ref f1,.ref f1,.ref f2] ng3,slg3⟩)
  (ug4:K.lookup G4=some ⟨.type "tuple",odg4,.seq #[.ref f1,.ref f2] ng4,slg4⟩)
  (ug5:K.lookup G5=some ⟨.type "tuple",odg5,.seq #[.ref f1,.ref f1,.ref f3,.ref f2] ng5,slg5⟩)
  (zt0:W.nsIn K mainGlobals "STEP_LETTERS"=some (some (.ref KT0)))
  (ut0:K.lookup KT0=some ⟨.type "tuple",odT0,.seq #[.str "F" tt0_0,.str "M" tt0_1,.str "T" tt0_2,.str "f" tt0_3,.str "m" tt0_4,.str "t" tt0_5,.str "S" tt0_6] nT0,slT0⟩)
  (zt1:W.nsIn K mainGlobals "TESTS"=some (some (.ref KT1)))
  (ut1:K.lookup KT1=some ⟨.type "tuple",odT1,.seq #[.str "he" tt1_0,.str "she" tt1_1] nT1,slT1⟩)
  (zi0:W.nsIn K mainGlobals "MOST_ENTRIES"=some (some (.int 400 ti0)))
  (zi1:W.nsIn K mainGlobals "MOST_PEOPLE"=some (some (.int 60 ti1)))
  (lF:K.lookup f41=some ⟨oF,dF,.func (W.fnOf "reach" "reach" (Xo Jf) (Y3 Jf) (Zu Jf) .none kVF dcF pmF anF (.ref CC) ctF),sF⟩)
  (lC:K.lookup CC=some ⟨oC,dC,.fields vC,sC⟩)
  (vC11:vC[11]?=some (.ref TB))
  (kTB:K.lookup TB=none)
  (lF2:K.lookup f37=some ⟨oF2,dF2,.func (W.fnOf "book_of_tree" "book_of_tree" (Xo Jq) (Y3 Jq) (Zu Jq) .none kVF2 dcF2 pmF2 anF2 (.ref CC2) ctF2),sF2⟩)
  (lC2:K.lookup CC2=some ⟨oC2,dC2,.fields vC2,sC2⟩)
  (vC211:vC2[11]?=some (.ref TB2))
  (kTB2:K.lookup TB2=none)
  (ttb:(TB2==TB)=false)
  (zD0:W.nsIn K mainGlobals "SORT_OF_PARENT"=some (some (.ref KD0)))
  (sD0:(KD0==sysModules)=false)
  (uD0:K.lookup KD0=some ⟨.type "dict",none,.dict #[⟨Vu w (.inr "F"),.str "F" tk0_0,.str "he" tv0_0⟩,⟨Vu w (.inr "M"),.str "M" tk0_1,.str "she" tv0_1⟩] nKD0,#[]⟩)
  (zD1:W.nsIn K mainGlobals "LETTER_UP"=some (some (.ref KD1)))
  (sD1:(KD1==sysModules)=false)
  (uD1:K.lookup KD1=some ⟨.type "dict",none,.dict #[⟨Vu w (.inr "f"),.str "f" tk1_0,.str "F" tv1_0⟩,⟨Vu w (.inr "m"),.str "m" tk1_1,.str "M" tv1_1⟩] nKD1,#[]⟩) :
  ∃(fd:FuncData) (cc tb cc2 tb2:Addr),W.tabIn K "reach"=some (cc,tb)∧K.lookup tb=none∧W.tabIn K "book_of_tree"=some (cc2,tb2)∧K.lookup tb2=none∧tb2≠tb∧(∀(s:Shared) (v:Value),BindsTo s fd ⟨[v],[]⟩ [("_law_script",v)])∧∀base:Heap,K.In base->base.Ns mainGlobals mg->LamB base cc tb mg->LamB base cc2 tb2 mg->FnOk l.prog w K mg base (Zz l.prog w) 10 fa fd ["_law_script"] (Zaq K tb tb2):=by
 have e:=hfa.symm.trans (QR X G a51);cases e;have T:Σ' (T:Tx K w mg),T.VU.a=fa∧T.cc=CC∧T.tb=TB∧T.cc2=CC2∧T.tb2=TB2:=⟨{ c_Tree:=OC_Tree,c_Book:=OC_Book,Wo:=.of X G a0 l0 (fun _ _ _ _ _ _=>Yx fun _=>rfl),YE:=.of X G a1 l1 (fun _ _ _ _ _ _=>Yx fun _=>rfl),Xn:=.of X G a2 l2 (fun _ _ _ _ _ _=>Yx fun _=>rfl),WA:=.of X G a3 l3 (fun _ _ _ _ _ _=>Yx fun _=>rfl),WL:=.of X G a4 l4 (fun _ _ _ _ _ _=>Yx fun _=>rfl),X3:=.of X G a5 l5 (fun _ _ _ _ _ _=>Yx fun _=>rfl),Uh:=.of X G a6 l6 (fun _ _ _ _ _ _=>YX fun _ _=>rfl),Ul:=.of X G a7 l7 (fun _ _ _ _ _ _=>Yx fun _=>rfl),WF:=.of X G a8 l8 (fun _ _ _ _ _ _=>Yx fun _=>rfl),Wm:=.of X G a9 l9 (fun _ _ _ _ _ _=>Yx fun _=>rfl),VZ:=.of X G a10 l10 (fun _ _ _ _ _ _=>Yx fun _=>rfl),Wn:=.of X G a11 l11 (fun _ _ _ _ _ _=>Yx fun _=>rfl),Wx:=.of X G a12 l12 (fun _ _ _ _ _ _=>Yx fun _=>rfl),V7:=.of X G a13 l13 (fun _ _ _ _ _ _=>Yx fun _=>rfl),WB:=.of X G a14 l14 (fun _ _ _ _ _ _=>YX fun _ _=>rfl),Jb:=.of a15 i15 l15 (fun _ _ _ _ _ _=>Yx fun _=>rfl),Xh:=.of a16 i16 l16 (fun _ _ _ _ _ _=>YX fun _ _=>rfl),Vr:=.of a17 i17 l17 (fun _ _ _ _ _ _=>YX fun _ _=>rfl),Xy:=.of a18 i18 l18 (fun _ _ _ _ _ _=>YX fun _ _=>rfl),Vz:=.of a19 i19 l19 (fun _ _ _ _ _ _=>un4 fun _ _ _ _=>rfl),UC:=.of a20 i20 l20 (fun _ _ _ _ _ _=>YX fun _ _=>rfl),UD:=.of a21 i21 l21 (fun _ _ _ _ _ _=>YX fun _ _=>rfl),Y2:=.of a22 i22 l22 (fun _ _ _ _ _ _=>un4 fun _ _ _ _=>rfl),Jk:=.of a23 i23 l23 (fun _ _ _ _ _ _=>YX fun _ _=>rfl),VC:=.of a24 i24 l24 (fun _ _ _ _ _ _=>VX fun _ _ _=>rfl),a_Book_stands:=f25,fd_Book_stands:=W.fnOf "stands" "Book.stands" (Xo WN) (Y3 WN) (Zu WN) (.ref DT25) kV25 dc25 pm25 an25 cd25 ct25,dt_Book_stands:=DT25,F_Book_stands:=Zec (st:=WN) l25 cc25 k25,b_Book_stands:=(Zec (st:=WN) l25 cc25 k25).binds1 ldt25 rfl (fun _ _ _ _ _ _ us hl=>match us,hl with|[_,_,_],_=>⟨_,rfl,rfl⟩),me_Book_stands:=⟨a25,i25,k25⟩,US:=.of a26 i26 l26 (fun _ _ _ _ _ _=>YX fun _ _=>rfl),WC:=.of a27 i27 l27 (fun _ _ _ _ _ _=>YX fun _ _=>rfl),Ws:=.of X G a28 l28 (fun _ _ _ _ _ _=>Yx fun _=>rfl),U1:=.of a29 i29 l29 (fun _ _ _ _ _ _=>Yx fun _=>rfl),WH:=.of a30 i30 l30 (fun _ _ _ _ _ _=>VX fun _ _ _=>rfl),Xs:=.of a31 i31 l31 (fun _ _ _ _ _ _=>YX fun _ _=>rfl),UE:=.of a32 i32 l32 (fun _ _ _ _ _ _=>YX fun _ _=>rfl),UB:=.of a33 i33 l33 (fun _ _ _ _ _ _=>YX fun _ _=>rfl),Yl:=.of X G a34 l34 (fun _ _ _ _ _ _=>Yx fun _=>rfl),Wt:=.of X G a35 l35 (fun _ _ _ _ _ _=>VX fun _ _ _=>rfl),Ug:=.of X G a36 l36 (fun _ _ _ _ _ _=>YX fun _ _=>rfl),VN:=.of X G a37 l37 (fun _ _ _ _ _ _=>Yx fun _=>rfl),Uy:=.of X G a38 l38 (fun _ _ _ _ _ _=>Yx fun _=>rfl),VW:=.of X G a39 l39 (fun _ _ _ _ _ _=>VX fun _ _ _=>rfl),Uu:=.of X G a40 l40 (fun _ _ _ _ _ _=>VX fun _ _ _=>rfl),VH:=.of X G a41 l41 (fun _ _ _ _ _ _=>VX fun _ _ _=>rfl),V2:=.of X G a42 l42 (fun _ _ _ _ _ _=>YX fun _ _=>rfl),Yv:=.of X G a43 l43 (fun _ _ _ _ _ _=>YX fun _ _=>rfl),Um:=.of X G a44 l44 (fun _ _ _ _ _ _=>YX fun _ _=>rfl),VP:=.of X G a45 l45 (fun _ _ _ _ _ _=>Yx fun _=>rfl),V3:=.of X G a46 l46 (fun _ _ _ _ _ _=>Yx fun _=>rfl),Wq:=.of X G a47 l47 (fun _ _ _ _ _ _=>Yx fun _=>rfl),WE:=.of X G a48 l48 (fun _ _ _ _ _ _=>Yx fun _=>rfl),XB:=.of X G a49 l49 (fun _ _ _ _ _ _=>VX fun _ _ _=>rfl),Ux:=.of X G a50 l50 (fun _ _ _ _ _ _=>YX fun _ _=>rfl),VU:=.of X G a51 l51 (fun _ _ _ _ _ _=>Yx fun _=>rfl),m_Book:=(QR X G ao0),cl_Book:=⟨pg0,hd0,po0,sa0⟩,mk_Book:=⟨mk0,a15,i15,kc0⟩,na_Book_kept:=na0_kept,na_Book_births:=na0_births,na_Book_links:=na0_links,na_Book_ties:=na0_ties,na_Book_sums:=na0_sums,m_Tree:=(QR X G ao1),cl_Tree:=⟨pg1,hd1,po1,sa1⟩,mk_Tree:=⟨mk1,a29,i29,kc1⟩,na_Tree_days:=na1_days,na_Tree_sorts:=na1_sorts,na_Tree_parents:=na1_parents,na_Tree_takings:=na1_takings,na_Tree_unions:=na1_unions,na_Tree_clash:=na1_clash,na_Tree_here:=na1_here,c_HeirError:=C0,m_HeirError:=(QR X G ac0),c_NoEntry:=C1,m_NoEntry:=(QR X G ac1),x_NoEntry:=xc1,e_NoEntry:=⟨e1_1,e2_1,e3_1,e4_1,e5_1⟩,c_Full:=C2,m_Full:=(QR X G ac2),x_Full:=xc2,e_Full:=⟨e1_2,e2_2,e3_2,e4_2,e5_2⟩,c_NoPerson:=C3,m_NoPerson:=(QR X G ac3),x_NoPerson:=xc3,e_NoPerson:=⟨e1_3,e2_3,e3_3,e4_3,e5_3⟩,c_Twice:=C4,m_Twice:=(QR X G ac4),x_Twice:=xc4,e_Twice:=⟨e1_4,e2_4,e3_4,e4_4,e5_4⟩,c_NoFit:=C5,m_NoFit:=(QR X G ac5),x_NoFit:=xc5,e_NoFit:=⟨e1_5,e2_5,e3_5,e4_5,e5_5⟩,c_NoWay:=C6,m_NoWay:=(QR X G ac6),x_NoWay:=xc6,e_NoWay:=⟨e1_6,e2_6,e3_6,e4_6,e5_6⟩,n_abs:=(Q1 X G z_abs),n_all:=(Q1 X G z_all),n_bool:=(Q1 X G z_bool),n_int:=(Q1 X G z_int),n_isinstance:=(Q1 X G z_isinstance),n_len:=(Q1 X G z_len),n_list:=(Q1 X G z_list),n_max:=(Q1 X G z_max),n_min:=(Q1 X G z_min),n_range:=(Q1 X G z_range),n_reversed:=(Q1 X G z_reversed),n_sorted:=(Q1 X G z_sorted),n_str:=(Q1 X G z_str),n_tuple:=(Q1 X G z_tuple),n_zip:=(Q1 X G z_zip),k_int_int:=q_k_int_int,k_int_str:=q_k_int_str,k_int_tuple:=q_k_int_tuple,k_int_bool:=q_k_int_bool,k_str_int:=q_k_str_int,k_str_str:=q_k_str_str,k_str_tuple:=q_k_str_tuple,k_bool_int:=q_k_bool_int,k_bool_str:=q_k_bool_str,k_bool_tuple:=q_k_bool_tuple,k_bool_bool:=q_k_bool_bool,k_NoneType_int:=q_k_NoneType_int,k_NoneType_str:=q_k_NoneType_str,k_NoneType_tuple:=q_k_NoneType_tuple,k_tuple_int:=q_k_tuple_int,k_tuple_str:=q_k_tuple_str,k_tuple_tuple:=q_k_tuple_tuple,k_list_int:=q_k_list_int,k_list_str:=q_k_list_str,k_list_tuple:=q_k_list_tuple,k_dict_int:=q_k_dict_int,k_dict_str:=q_k_dict_str,k_dict_tuple:=q_k_dict_tuple,kl_list:=q_kl_list,kx_HeirError:=q_kx_HeirError,kx_ValueError:=q_kx_ValueError,aF:=F0,m_FORMS:=(QR X G zF),tkL:=tL,m_LETTERS:=(QR X G zL),p0:=P0,g0:=G0,p1:=P1,g1:=G1,p2:=P2,g2:=G2,p3:=P3,g3:=G3,p4:=P4,g4:=G4,p5:=P5,g5:=G5,sF:=fun _=>.inr ⟨_,_,_,uF,rfl,rfl,ZK (Qz rfl),.cons rfl (.cons rfl (.cons rfl (.cons rfl (.cons rfl (.cons rfl .nil)))))⟩,sp0:=fun _=>.inr ⟨_,_,_,up0,rfl,rfl,ZK (Qz rfl),.cons ⟨_,rfl⟩ (.cons rfl .nil)⟩,sp1:=fun _=>.inr ⟨_,_,_,up1,rfl,rfl,ZK (Qz rfl),.cons ⟨_,rfl⟩ (.cons rfl .nil)⟩,sp2:=fun _=>.inr ⟨_,_,_,up2,rfl,rfl,ZK (Qz rfl),.cons ⟨_,rfl⟩ (.cons rfl .nil)⟩,sp3:=fun _=>.inr ⟨_,_,_,up3,rfl,rfl,ZK (Qz rfl),.cons ⟨_,rfl⟩ (.cons rfl .nil)⟩,sp4:=fun _=>.inr ⟨_,_,_,up4,rfl,rfl,ZK (Qz rfl),.cons ⟨_,rfl⟩ (.cons rfl .nil)⟩,sp5:=fun _=>.inr ⟨_,_,_,up5,rfl,rfl,ZK (Qz rfl),.cons ⟨_,rfl⟩ (.cons rfl .nil)⟩,sg0:=fun _=>.inr ⟨_,_,_,ug0,rfl,rfl,ZK (Qz rfl),.cons rfl (.cons rfl (.cons rfl (.cons rfl (.cons rfl (.nil)))))⟩,sg1:=fun _=>.inr ⟨_,_,_,ug1,rfl,rfl,ZK (Qz rfl),.cons rfl (.cons rfl (.cons rfl (.nil)))⟩,sg2:=fun _=>.inr ⟨_,_,_,ug2,rfl,rfl,ZK (Qz rfl),.cons rfl (.cons rfl (.cons rfl (.nil)))⟩,sg3:=fun _=>.inr ⟨_,_,_,ug3,rfl,rfl,ZK (Qz rfl),.cons rfl (.cons rfl (.cons rfl (.nil)))⟩,sg4:=fun _=>.inr ⟨_,_,_,ug4,rfl,rfl,ZK (Qz rfl),.cons rfl (.cons rfl (.nil))⟩,sg5:=fun _=>.inr ⟨_,_,_,ug5,rfl,rfl,ZK (Qz rfl),.cons rfl (.cons rfl (.cons rfl (.cons rfl (.nil))))⟩,a_STEP_LETTERS:=KT0,m_STEP_LETTERS:=(QR X G zt0),Zeq:=fun _=>.inr ⟨_,_,_,ut0,rfl,rfl,ZK (Qz rfl),.cons ⟨_,rfl⟩ (.cons ⟨_,rfl⟩ (.cons ⟨_,rfl⟩ (.cons ⟨_,rfl⟩ (.cons ⟨_,rfl⟩ (.cons ⟨_,rfl⟩ (.cons ⟨_,rfl⟩ (.nil)))))))⟩,a_TESTS:=KT1,m_TESTS:=(QR X G zt1),Zgx:=fun _=>.inr ⟨_,_,_,ut1,rfl,rfl,ZK (Qz rfl),.cons ⟨_,rfl⟩ (.cons ⟨_,rfl⟩ (.nil))⟩,t_MOST_ENTRIES:=ti0,m_MOST_ENTRIES:=(QR X G zi0),t_MOST_PEOPLE:=ti1,m_MOST_PEOPLE:=(QR X G zi1),cc:=CC,tb:=TB,hcc:=⟨_,_,_,_,lF,rfl⟩,cc2:=CC2,tb2:=TB2,hcc2:=⟨_,_,_,_,lF2,rfl⟩,ttb:=fun z=>by rw [z] at ttb;simp at ttb,a_SORT_OF_PARENT:=KD0,m_SORT_OF_PARENT:=(QR X G zD0),kd_SORT_OF_PARENT:=ZgG sD0 (few rfl) (by decide +kernel) uD0 (.cons ⟨rfl,⟨_,rfl⟩,⟨_,rfl⟩⟩ (.cons ⟨rfl,⟨_,rfl⟩,⟨_,rfl⟩⟩ (.nil))),a_LETTER_UP:=KD1,m_LETTER_UP:=(QR X G zD1),kd_LETTER_UP:=ZgG sD1 (few rfl) (by decide +kernel) uD1 (.cons ⟨rfl,⟨_,rfl⟩,⟨_,rfl⟩⟩ (.cons ⟨rfl,⟨_,rfl⟩,⟨_,rfl⟩⟩ (.nil))) },rfl,rfl,rfl,rfl,rfl⟩;have ttb:=T.1.ttb;obtain ⟨T,ea,rfl,rfl,rfl,rfl⟩:=T;subst ea;refine ⟨(ZA K T.VU.a),_,_,_,_,ZeO a41 lF rfl lC vC11,kTB,ZeO a37 lF2 rfl lC2 vC211,kTB2,T.ttb,fun s v=>?_,fun base _ _ LB LB2=>(Zih T LB LB2).imp fun vs H Q E z=>?_⟩
 ·obtain ⟨oc,od,kV,doc,pm,an,cdv,ct,osl,e,_⟩:=T.VU.F.ex;rw [e];exact .of_eq rfl
 exact Zi8 T z
theorem walk {l:W.OpenLaw} {q:Program} {loose:List Str} {XP:(Str->Option Value)->Heap->Prop} {YP:World->Heap->Prop} {d:DefRec} {K:Params->W.Frag} (hn:l.most=some 63) (hdf:d.params.defaults=[]) (hrec:((PyProof.Rows.recsOf q).find? (fun e=>e.name==("reach" : Str))).isSome=true) (hrec2:((PyProof.Rows.recsOf q).find? (fun e=>e.name==("book_of_tree" : Str))).isSome=true)
  (hY:∀(w:World) (h:Heap),YP w h->(K w.params).In h)
  (F:∀(w:World) (mg:Str->Option Value) (fa:Addr) (h:Heap),(K w.params).In h->h.Ns mainGlobals mg->mg d.name=some (.ref fa) →
   ∃(fd:FuncData) (cc tb cc2 tb2:Addr),W.tabIn (K w.params) "reach"=some (cc,tb)∧(K w.params).lookup tb=none∧W.tabIn (K w.params) "book_of_tree"=some (cc2,tb2)∧(K w.params).lookup tb2=none∧tb2≠tb∧(∀(s:Shared) (u:Value),BindsTo s fd ⟨[u],[]⟩ [("_law_script",u)])∧∀base:Heap,(K w.params).In base->base.Ns mainGlobals mg->LamB base cc tb mg->LamB base cc2 tb2 mg->FnOk l.prog w (K w.params) mg base (Zz l.prog w) 10 fa fd ["_law_script"] (Zaq (K w.params) tb tb2)) :
  W.WalkO q loose XP YP l.row.toRowW d [] (fun f vs=>PySem.call f vs):=by
 obtain ⟨dd,hdd⟩:=GE.mp hrec;obtain ⟨dd2,hdd2⟩:=GE.mp hrec2;exact L2.walk_ofT2 (n:=63) (k:=10) (x:="_law_script") (CX:=fun w=>Zz l.prog w) (sp:=fun w tb tb2=>Zaq (K w.params) tb tb2) hn (by decide) hdf ⟨rfl,by decide,by decide⟩ hdd hdd2 hY F (fun _ _ a tb tb2 ns hl hO hO2 hS tt=>⟨a,ns,rfl,hS,hl,hO,hO2,fun _ h h2=>⟨rfl,h,h2⟩⟩) fun _ _ _ _ _ ⟨_,_,_,_,_,z⟩=>z
end K22
open PySem PySem.W PyProof.Rows
set_option maxRecDepth 100000 in
set_option maxHeartbeats 0 in
theorem PySem.Challenge.cw_heirbook_k22_ways_made_wider_holds : PySem.Challenge.rw_heirbook_k22_ways_made_wider.Holds := by
 refine K22.join K22.hd K22.e6 ?_
 k_fill
 refine K22.walk (l:=PySem.Challenge.rw_heirbook_k22_ways_made_wider) rfl rfl (by kernel_rfl) (by kernel_rfl) (fun w h Y=>PySem.W.km_in_of Y) ?F
 case F =>
  intro w mg fa h KX G hmg;apply K22.all_mk KX G hmg
  case ao1|ao0|a0|a1|a2|a3|a4|a5|a6|a7|a8|a9|a10|a11|a12|a13|a14|a15|i15|a16|i16|a17|i17|a18|i18|a19|i19|a20|i20|a21|i21|a22|i22|a23|i23|a24|i24|a25|i25|l25|cc25|k25|ldt25|a26|i26|a27|i27|a28|a29|i29|a30|i30|a31|i31|a32|i32|a33|i33|a34|a35|a36|a37|a38|a39|a40|a41|a42|a43|a44|a45|a46|a47|a48|a49|a50|a51|pg0|hd0|po0|sa0|mk0|kc0|na0_kept|na0_births|na0_links|na0_ties|na0_sums|pg1|hd1|po1|sa1|mk1|kc1|na1_days|na1_sorts|na1_parents|na1_takings|na1_unions|na1_clash|na1_here|ac0|ac1|e1_1|e2_1|e3_1|e4_1|e5_1|ac2|e1_2|e2_2|e3_2|e4_2|e5_2|ac3|e1_3|e2_3|e3_3|e4_3|e5_3|ac4|e1_4|e2_4|e3_4|e4_4|e5_4|ac5|e1_5|e2_5|e3_5|e4_5|e5_5|ac6|e1_6|e2_6|e3_6|e4_6|e5_6|z_abs|z_all|z_bool|z_int|z_isinstance|z_len|z_list|z_max|z_min|z_range|z_reversed|z_sorted|z_str|z_tuple|z_zip|zF|zL|uF|up0|up1|up2|up3|up4|up5|ug0|ug1|ug2|ug3|ug4|ug5|zt0|ut0|zt1|ut1|zi0|zi1|lF|lC|lF2|lC2|zD0|uD0|zD1|uD1=>k_is
  case l0|l1|l2|l3|l4|l5|l6|l7|l8|l9|l10|l11|l12|l13|l14|l15|l16|l17|l18|l19|l20|l21|l22|l23|l24|l26|l27|l28|l29|l30|l31|l32|l33|l34|l35|l36|l37|l38|l39|l40|l41|l42|l43|l44|l45|l46|l47|l48|l49|l50|l51=>exact ⟨⟨_,_,_,_,_,_,_,_,_,by k_is,by k_is⟩,by k_is⟩
  case xc1|xc2|xc3|xc4|xc5|xc6=>k_exc
  case q_k_int_int|q_k_int_str|q_k_int_tuple|q_k_int_bool|q_k_str_int|q_k_str_str|q_k_str_tuple|q_k_bool_int|q_k_bool_str|q_k_bool_tuple|q_k_bool_bool|q_k_NoneType_int|q_k_NoneType_str|q_k_NoneType_tuple|q_k_tuple_int|q_k_tuple_str|q_k_tuple_tuple|q_k_list_int|q_k_list_str|q_k_list_tuple|q_k_dict_int|q_k_dict_str|q_k_dict_tuple|q_kl_list|q_kx_HeirError|q_kx_ValueError=>kit_is
  case vC11=>first|rfl|decide
  case kTB=>kernel_rfl
  case vC211=>first|rfl|decide
  case kTB2=>kernel_rfl
  case ttb|sD0|sD1=>first|rfl|decide
