import PyProof.Rows.All
import Wide.All
import OpenK.AllK
import Wide.FinOn
import Lean
import PyProof.EqAt
import PyProof.EqKinds
import PyProof.TupleCall
import PyProof.NeKinds
import PyProof.ZipIter
import PyProof.Draws
import PyProof.ConsumeWalk
import PyProof.StrCaseBound
import PyProof.StrLawsIn
import PyProof.StrLawsJoin
import PyProof.Rows.StrSplitAre
import PyProof.WalkInts
import PyProof.EnumMake
import KE.KRevSl
import PyProof.Rows.SumAny
import PyProof.Rows.SortRuns
import PyProof.Rows.SortKey
import KE.KSortTup
import KE.KDictList
import PyProof.DictValues
import PyProof.StrLawsFirst
import PyProof.AutoListH
import PyProof.AttrMissSeq
import KE.KIntText
import PyProof.Rows.CountFlat
import KE.KLam
import KE.KSortKey
import KE.KPairComp
import PySem.Challenge.RW_heirbook_k24_ways_that_part
local macro_rules|`(tactic|trivial)=>`(tactic|decide +kernel)
abbrev Qa:=@if_neg
abbrev Qb:=@if_pos
abbrev Qc:=@List.length_map
abbrev Qd:=@PySem.wpAny_bind
abbrev Qe:=@Nat.le_refl
abbrev Qf:=@PySem.wpAny_pure
abbrev Qg:=@List.mem_map
abbrev Qh:=@List.mem_cons
abbrev Qi:=@PySem.Heap.lt_size
abbrev Qj:=@Option.some.inj
abbrev Qk:=@PySem.Heap.get?_push_of_some
abbrev Ql:=@List.mem_append
abbrev Qm:=@Nat.lt_of_lt_of_le
abbrev Qn:=@Nat.le_trans
abbrev Qo:=@List.getElem?_map
abbrev Qq:=@List.length_append
abbrev Qr:=@decide_eq_false
abbrev Qs:=@List.getElem?_eq_getElem
abbrev Qt:=@List.append_nil
abbrev Qu:=@decide_eq_true
abbrev Qv:=@List.map_append
abbrev Qw:=@PySem.Heap.get?_push_size
abbrev Qx:=@List.map_cons
abbrev Qy:=@Nat.le_of_ble_eq_true
abbrev Qz:=@List.size_toArray
abbrev QA:=@Nat.ne_of_lt
abbrev QB:=@congrArg
abbrev QC:=@List.mem_cons_of_mem
abbrev QD:=@Nat.lt_irrefl
abbrev QE:=@List.getElem?_eq_some_iff
abbrev QF:=@Option.map_eq_some_iff
abbrev QG:=@List.mem_singleton
abbrev QH:=@List.mem_cons_self
abbrev QI:=@Bool.false_ne_true
abbrev QJ:=@List.not_mem_nil
abbrev QK:=@or_false
abbrev QL:=@List.mem_of_getElem?
abbrev QM:=@List.length_cons
abbrev QN:=@PySem.PassesOwn.leaving
abbrev QO:=@Nat.le_of_lt
abbrev QP:=@List.nodup_cons
abbrev QQ:=@Nat.le_succ
abbrev QR:=@List.map_map
abbrev QS:=@List.getD_eq_getElem?_getD
abbrev QT:=@PySem.W.mg_of
abbrev QU:=@List.mem_append_right
abbrev QV:=@Nat.zero_le
abbrev QW:=@List.length_range
abbrev QX:=@Ne.symm
abbrev QY:=@PySem.W.kia_one
abbrev QZ:=@List.nodup_append
abbrev Q0:=@PySem.F.plainAttrs_list
abbrev Q1:=@PySem.wpAny_field
abbrev Q2:=@Iff.rfl
abbrev Q3:=@PySem.W.mg_none_of
abbrev Q4:=@PySem.wpAny_mono
abbrev Q5:=@Nat.lt_succ_self
abbrev Q6:=@List.length_take
abbrev Q7:=@List.foldl_cons
abbrev Q8:=@List.take_length
abbrev Q9:=@of_decide_eq_true
abbrev Ra:=@List.mem_filterMap
abbrev Rb:=@List.filterMap_cons
abbrev Rc:=@List.mem_append_left
abbrev Re:=@if_false
abbrev Rg:=@Prod.ext
abbrev Rh:=@Bool.eq_iff_iff
abbrev Ri:=@PySem.Heap.size_push
abbrev Rj:=@List.any_cons
abbrev Rk:=@PySem.F.slot_list_append
abbrev Rl:=@PySem.F.type_list_append
abbrev Rm:=@PySem.wpAny_holding
abbrev Rn:=@List.getElem?_append_right
abbrev Ro:=@PySem.wpAny_Call_Name_kw
abbrev Rp:=@Nat.lt_of_le_of_lt
abbrev Rq:=@Bool.eq_false_iff
abbrev Rr:=@List.length_filterMap_le
abbrev Rs:=@Nat.ne_of_gt
abbrev Rt:=@PySem.Calls.spliced_cons
abbrev Ru:=@List.all_eq_true
abbrev Rv:=@List.mem_of_mem_take
abbrev Rw:=@beq_eq_false_iff_ne
abbrev Rx:=@List.mem_filter
abbrev Ry:=@PySem.wpAny_Name
abbrev Rz:=@beq_iff_eq
abbrev RA:=@if_true
abbrev RB:=@List.filterMap_map
abbrev RC:=@PySem.wpAny_call_entry
abbrev RD:=@Bool.and_eq_true
abbrev RE:=@List.find?_cons
abbrev RF:=@of_decide_eq_false
abbrev RG:=@List.cons.inj
abbrev RH:=@false_and
abbrev RI:=@true_and
abbrev RJ:=@ite_self
abbrev RK:=@PySem.wpAny_truthy_bool
abbrev RM:=@PySem.sizeLine_eq
abbrev RN:=@PySem.wpAny_call
abbrev RO:=@PySem.codeAny_mono
abbrev RP:=@PySem.mem_of_lookup
abbrev RQ:=@List.getElem?_append_left
abbrev RS:=@PySem.wpAny_callSpecial?_slot
abbrev RU:=@PySem.wpAny_newObj_type
abbrev RV:=@PySem.codeAny_builtin
abbrev RW:=@PySem.wpAny_seqItems
abbrev RX:=@List.filterMap_append
abbrev RY:=@List.getElem?_eq_none
abbrev RZ:=@List.take_succ
abbrev R0:=@Sum.inr.inj
abbrev R1:=@List.mem_range
abbrev R3:=@Array.length_toList
abbrev R4:=@Int.toNat_natCast
abbrev R5:=@PyProof.Rows.slot_tuple_getitem
abbrev R6:=@PySem.typeIs_str
abbrev R7:=@List.append_assoc
abbrev R8:=@PySem.tupleKind_room_in1
abbrev R9:=@PySem.wpAny_rule
abbrev Ga:=@Nat.lt_succ_of_lt
abbrev Gb:=@Nat.le_add_right
abbrev Gc:=@List.take_add_one
abbrev Gd:=@Bool.or_eq_true
abbrev Ge:=@PySem.wpAny_newList
abbrev Gf:=@List.getElem_mem
abbrev Gg:=@List.pairwise_map
abbrev Gh:=@PySem.F.slot_list_index
abbrev Gi:=@or_congr
abbrev Gj:=@PySem.wpAny_pyIter_tuple
abbrev Gk:=@PySem.wpAny_passesOwn
abbrev Gm:=@PySem.Calls.spliced_nil
abbrev Gn:=@List.map_nil
abbrev Go:=@List.all_cons
abbrev Gp:=@PySem.Calls.evalArgs_plain
abbrev Gq:=@List.replicate_succ
abbrev Gr:=@PySem.W.callWith_K
abbrev Gs:=@PySem.wpAny_loadPart_at
abbrev Gu:=@List.all_map
abbrev Gv:=@PySem.Heap.SameBut.update
abbrev Gw:=@PySem.wpAny_setField_rec
abbrev Gx:=@List.map_congr_left
abbrev Gy:=@List.map_filterMap
abbrev Gz:=@List.any_eq_true
abbrev GA:=@Bool.true_and
abbrev GB:=@List.take_of_length_le
abbrev GC:=@Nat.sub_self
abbrev GD:=@PySem.F.type_list_index
abbrev GE:=@PySem.Paired.length
abbrev GF:=@PySem.wpAny_loadName_local
abbrev GG:=@Bool.false_and
abbrev GH:=@PyProof.Rows.callWith_type1
abbrev GI:=@PySem.W.looks_findIn
abbrev GJ:=@PySem.W.kitx_list
abbrev GK:=@Option.isSome_iff_exists
abbrev GL:=@List.length_drop
abbrev GM:=@PySem.wpAny_typeOf
abbrev GN:=@PySem.SeqAt.EqAt.same
abbrev GO:=@List.flatten_cons
abbrev GP:=@List.length_singleton
abbrev GQ:=@PySem.call_meetsIn
abbrev GR:=@Bool.not_eq_true'
abbrev GS:=@PySem.Code.quiet_builtin
abbrev GT:=@List.getElem?_cons_succ
abbrev GU:=@PySem.F.slot_tuple_iterator_next
abbrev GV:=@PySem.F.slot_zip_next
abbrev GW:=@List.lookup_cons
abbrev GX:=@PySem.atKey_none_of_get
abbrev GY:=@Int.le_refl
abbrev GZ:=@List.getElem?_range
abbrev G6:=@decide_eq_true_eq
abbrev G7:=@List.filter_cons
abbrev G8:=@Nat.le_succ_of_le
abbrev G9:=@Option.map_some
abbrev Na:=@PySem.SeqAt.EqAt.int_str
abbrev Nb:=@PySem.SeqAt.EqAt.str_int
abbrev Nc:=@PySem.Heap.get?_none_of_le
abbrev Nd:=@PySem.wpAny_loadName_free
abbrev Nf:=@PySem.Calls.Name_function_global
abbrev Ng:=@List.any_eq_false
abbrev Nh:=@List.of_mem_zip
abbrev Ni:=@List.getElem?_take_of_lt
abbrev Nj:=@PySem.noFill_tuple_add
abbrev Nk:=@PySem.F.slot_tuple_add
abbrev Nl:=@PySem.F.entry_tuple_add
abbrev Nn:=@PySem.F.args_tuple_add_2
abbrev No:=@PySem.Heap.get?_update_self
abbrev Np:=@PySem.Calls.callWith_builtin
abbrev Nq:=@List.length_nil
abbrev Nr:=@Option.isSome_map
abbrev Nt:=@List.nodup_nil
abbrev Nu:=@PySem.F.slot_dict_get
abbrev Nv:=@PySem.F.typeOf_object_class
abbrev Nw:=@Bool.and_false
abbrev Ny:=@List.getElem?_cons_zero
abbrev Nz:=@PySem.wpAny_newFunctionEnv
abbrev NA:=@PyProof.Rows.entry_proto_collect'
abbrev NB:=@PySem.Calls.call_function_entry
abbrev NC:=@List.find?_eq_none
abbrev ND:=@List.dropLast_concat_getLast
abbrev NE:=@List.lt_asymm
abbrev NF:=@List.rel_of_pairwise_cons
abbrev NG:=@List.foldl_append
abbrev NH:=@not_false_eq_true
abbrev NI:=@List.flatMap_cons
abbrev NJ:=@Int.ofNat.inj
abbrev NK:=@Option.map_eq_none_iff
abbrev NL:=@PySem.F.slot_dict_getitem
abbrev NM:=@PySem.F.args_dict_get_3
abbrev NN:=@PySem.F.plainAttrs_dict
abbrev NO:=@Option.bind_eq_some_iff
abbrev NP:=@PySem.F.slot_dict_setdefault
abbrev NQ:=@Option.ne_none_iff_exists'
abbrev NR:=@Option.isSome_iff_ne_none
abbrev NS:=@List.Nodup.length_le_of_subset
set_option Elab.async false
set_option linter.all false
namespace LR
open PySem PySem.W PyProof.Rows
variable {N m:Nat} {ann:Option Value} {p:Program}
noncomputable abbrev ZdF:=@Fast.tw14082659384304107361
noncomputable abbrev JX:=Fast.tw14364793385576792824
noncomputable abbrev Ud:=@Fast.tw4187177175401517315
noncomputable def allIn (p:Program) (P:Params) (s:Shared):Bool :=
 staticsOk (importedModules p.main.body) (boot_heap P) s.heap&&namesBound p s.heap&&gensDone s&&laidKept (boot_heap P) s.heap
noncomputable abbrev sA (q:Program) (loose mods:List Str) (Xt:Shared->Bool) (g0:Bool) (s:Shared) :=
 ((Ud q loose mods Xt g0 s).1,(Ud q loose mods Xt g0 s).2.1,(Ud q loose mods Xt g0 s).2.2.1,(Ud q loose mods Xt g0 s).2.2.2.1)
noncomputable abbrev sB (q:Program) (loose mods:List Str) (Xt:Shared->Bool) (g0:Bool) (s:Shared):=(Ud q loose mods Xt g0 s).2.2.2.2
noncomputable abbrev gA (q:Program) (loose:List Str):=((openGood q loose).1,(openGood q loose).2.1,(openGood q loose).2.2.1,(openGood q loose).2.2.2.1)
noncomputable abbrev gB (q:Program) (loose:List Str):=(openGood q loose).2.2.2.2
noncomputable abbrev ran (p:Program) (m:Nat) (ann:Option Value) (N:Nat) (w:World) (os:OsState):Option Shared :=
 ZdF JX p w m ann N ⟨boot_heap w.params,Array.mk [],boot_drawn,boot_toks,os⟩ (topStub p)
theorem left_run {q:Program} {loose:List Str} {Xt:Shared->Bool} {α:Type} {Yf:Shared->α} {Ya:World->α} {g0:Bool} 
 (e:opening p=plainProg p.main.scope.names) (f:∀s,fenceModules? p s=some s) (hN:Nat.ble 600 N=true)
 (h1:∀w:World,(boot_heap w.params).isNs mainGlobals=true) (h2:∀w:World,(boot_heap w.params).objs.size=m) (h3:∀w:World,(boot_heap w.params).nsMap mainGlobals "__annotations__"=ann)
 (r1:∀(w:World) (os:OsState),(ran p m ann N w os).map (allIn p w.params)=some true)
 (r2:∀(w:World) (os:OsState),(ran p m ann N w os).map (sA q loose (importedModules p.main.body) Xt g0)=some (gA q loose))
 (r2':∀(w:World) (os:OsState),(ran p m ann N w os).map (sB q loose (importedModules p.main.body) Xt g0)=some (gB q loose))
 (r3:∀(w:World) (os:OsState),(ran p m ann N w os).map Yf=some (Ya w)):LeftO p q loose Xt Yf Ya N g0:=by
 intro w;cases hb:fencedOpening treeTable p w N with
 |none=>have z:=boot_open e hN f w;rw [hb] at z;cases z
 |some s0 =>
  have z:=boot_open e hN f w;rw [hb] at z;obtain ⟨h,gs,d,k,os⟩:=s0;injection z with z;injection z with z4 z;injection z with z5 z;injection z with z6 z7;dsimp only at z4 z5 z6 z7;subst z4 z5 z6 z7;have a:=r1 w os;have b:=r2 w os;have b':=r2' w os;have c:=r3 w os;unfold ran ZdF JX at a b b' c;unfold sA gA Ud at b;unfold sB gB Ud at b';rw [←Fast.te14082659384304107361,←Fast.te14364793385576792824] at a b b' c;rw [←Fast.te4187177175401517315] at b b';cases hs:topRun treeTable p w m ann N ⟨boot_heap w.params,Array.mk [],boot_drawn,boot_toks,os⟩ (topStub p) with
  |none=>rw [hs] at a;cases a
  |some s =>
   rw [hs] at a b b' c;injection a with a;injection b with b;injection b' with b';injection b with x1 b;injection b with x2 b;injection b with x3 x4;injection c with c;have b:openSeen q loose (importedModules p.main.body) Xt g0 s=openGood q loose:=Rg x1 (Rg x2 (Rg x3 (Rg x4 b')))
   have t:topFrom treeTable p w N ⟨boot_heap w.params,Array.mk [],boot_drawn,boot_toks,os⟩=some s:=by
    unfold topFrom;simp only [h1 w,h2 w,h3 w,hs];unfold allIn at a;show (Option.bind (some s) fun x=>_)=_;rw [Option.bind_some,a]
   show Option.map _ (Option.bind (fencedOpening treeTable p w N) _)=_;rw [hb,Option.bind_some,t,G9,b,c]
noncomputable def Zda (st:SharedT->Thread->Option (SharedT×Thread)) (ok:Thread->Bool):Nat->SharedT->Thread->Option SharedT:=fun n =>
 Nat.rec (motive:=fun _=>SharedT->Thread->Option SharedT) (fun _ _=>none) (fun _ ih s t=>match through t with
  |true=>some s
  |false=>match ok t with
   |false=>none
   |true=>match st s t with
    |some (s',t')=>ih s' t'
    |none=>none) n
theorem Zgq {tb:String->Option Builtin} {p:Program} {w:World} {n₀:Nat} {ann:Option Value}:∀(n:Nat) (s:SharedT) (t:Thread) (s':SharedT),Zda (stepT (denote tb) p w) (stepOk n₀ ann) n s t=some s'->topRun tb p w n₀ ann n s.abs t=some s'.abs
 |0,_,_,_,h=>by cases h
 |n+1,s,t,s',h=>by
  have h2:(match through t with
   |true=>some s
   |false=>match stepOk n₀ ann t with
    |false=>none
    |true=>match stepT (denote tb) p w s t with
     |some (s',t')=>Zda (stepT (denote tb) p w) (stepOk n₀ ann) n s' t'
     |none=>none)=some s':=h
  unfold topRun;cases ht:through t with
  |true=>rw [ht] at h2;cases h2;rfl
  |false =>
   rw [ht] at h2;cases hk:stepOk n₀ ann t with
   |false=>rw [hk] at h2;cases h2
   |true =>
    rw [hk] at h2;cases hs:stepT (denote tb) p w s t with
    |none=>rw [hs] at h2;cases h2
    |some r =>
     obtain ⟨s₂,t₂⟩:=r;rw [hs] at h2;rw [stepT_spec hs];exact Zgq n s₂ t₂ s' h2
noncomputable def ZmP (P:Params) (m:Nat):BT:=Nat.rec (motive:=fun _=>BT) .nil (fun i T=>T.ins i (((boot_heap P).objs[i]?).getD default)) m
noncomputable abbrev Ze5:=@Fast.tw10156331382660048174
noncomputable abbrev ZeQ:=@Fast.tw11892475500146522536
noncomputable abbrev fOk:=@Fast.tw6613529449190102663
noncomputable abbrev s0T (P:Params) (m:Nat) (os:OsState):SharedT:=⟨ZmP P m,m,(boot_heap P).life,Array.mk [],boot_drawn,boot_toks,os⟩
noncomputable abbrev ranT (p:Program) (m:Nat) (ann:Option Value) (N:Nat) (w:World) (os:OsState):Option SharedT :=
 Zda (Ze5 (ZeQ JX) p w) (fOk m ann) N (s0T w.params m os) (topStub p)
theorem ZnW {w:World} {os:OsState} (hb:(s0T w.params m os).abs=⟨boot_heap w.params,Array.mk [],boot_drawn,boot_toks,os⟩) {s:SharedT} (h:ranT p m ann N w os=some s):ran p m ann N w os=some s.abs:=by
 unfold ranT Ze5 ZeQ fOk JX at h;rw [←Fast.te10156331382660048174,←Fast.te11892475500146522536,←Fast.te6613529449190102663,←Fast.te14364793385576792824] at h;have:=Zgq _ _ _ _ h;rw [hb] at this;unfold ran ZdF JX;rw [←Fast.te14082659384304107361,←Fast.te14364793385576792824];exact this
theorem mapT {α:Type} {w:World} {os:OsState} (hb:(s0T w.params m os).abs=⟨boot_heap w.params,Array.mk [],boot_drawn,boot_toks,os⟩) {f:Shared->α} {a:α} (h:(ranT p m ann N w os).map (fun s=>f s.abs)=some a):(ran p m ann N w os).map f=some a:=by
 cases e:ranT p m ann N w os with
 |none=>rw [e] at h;cases h
 |some s =>
  rw [e] at h;rw [ZnW hb e];exact h
theorem with2 {A B G:Prop} (h:A∧B->G) (z:A∧B):G:=h z
end LR
namespace K24
open PySem PySem.W PyProof.Rows
abbrev rwOf:OpenLaw:=PySem.Challenge.rw_heirbook_k24_ways_that_part
abbrev pwOf:Program:=PySem.Challenge.pw_heirbook_k24_ways_that_part
noncomputable def vw:Program:=view pwOf [0,2,3,4,5,6,7,8,10,12,13,14,15,16,17,18,19,20,21,22,23,24,25,27,28,29,30,32,33,34,35,37,38,39,40,41,42,43,44,46,47,48,50,51,52,53,55,56,57,58,59,60,61]
noncomputable abbrev lo:List Str:=["FORMS","SORT_OF_PARENT","LETTER_UP"]
noncomputable abbrev xt (s:Shared):Bool:=xlAt vw [] s&&recOk (RowW.records (OpenRow.toRowW (OpenLaw.row rwOf))) s
noncomputable abbrev rn:=LR.ranT pwOf 11 (some (.ref 6)) 4077
set_option maxRecDepth 100000
set_option maxHeartbeats 0
theorem said:OpenLaw.wellSaid rwOf=true:=by kernel_rfl
theorem hb (w:World) (os:OsState):(LR.s0T w.params 11 os).abs=⟨boot_heap w.params,Array.mk [],boot_drawn,boot_toks,os⟩:=by kernel_rfl
theorem r1F (w:World) (os:OsState):(rn (w.withFollow "special-get-raises" false) os).map (fun s=>(LR.allIn pwOf (w.withFollow "special-get-raises" false).params) s.abs)=some (true):=by kernel_rfl
theorem r1U (w:World) (os:OsState):(rn (w.withFollow "special-get-raises" true) os).map (fun s=>(LR.allIn pwOf (w.withFollow "special-get-raises" true).params) s.abs)=some (true):=by kernel_rfl
theorem r1T (w:World) (os:OsState):(rn w os).map (fun s=>(LR.allIn pwOf w.params) s.abs)=some (true):=W.byRow2 "special-get-raises" (P:=fun w=>∀os,(rn w os).map (fun s=>(LR.allIn pwOf w.params) s.abs)=some (true)) r1F r1U w os
theorem r1 (w:World) (os:OsState):(LR.ran pwOf 11 (some (.ref 6)) 4077 w os).map (LR.allIn pwOf w.params)=some (true):=LR.mapT (hb w os) (r1T w os)
theorem r2F (w:World) (os:OsState):(rn (w.withFollow "special-get-raises" false) os).map (fun s=>(LR.sA vw lo (importedModules pwOf.main.body) xt true) s.abs)=some (LR.gA vw lo):=by kernel_rfl
theorem r2U (w:World) (os:OsState):(rn (w.withFollow "special-get-raises" true) os).map (fun s=>(LR.sA vw lo (importedModules pwOf.main.body) xt true) s.abs)=some (LR.gA vw lo):=by kernel_rfl
theorem r2T (w:World) (os:OsState):(rn w os).map (fun s=>(LR.sA vw lo (importedModules pwOf.main.body) xt true) s.abs)=some (LR.gA vw lo):=W.byRow2 "special-get-raises" (P:=fun w=>∀os,(rn w os).map (fun s=>(LR.sA vw lo (importedModules pwOf.main.body) xt true) s.abs)=some (LR.gA vw lo)) r2F r2U w os
theorem r2 (w:World) (os:OsState):(LR.ran pwOf 11 (some (.ref 6)) 4077 w os).map (LR.sA vw lo (importedModules pwOf.main.body) xt true)=some (LR.gA vw lo):=LR.mapT (hb w os) (r2T w os)
theorem r3F (w:World) (os:OsState):(rn (w.withFollow "special-get-raises" false) os).map (fun s=>(LR.sB vw lo (importedModules pwOf.main.body) xt true) s.abs)=some (LR.gB vw lo):=by kernel_rfl
theorem r3U (w:World) (os:OsState):(rn (w.withFollow "special-get-raises" true) os).map (fun s=>(LR.sB vw lo (importedModules pwOf.main.body) xt true) s.abs)=some (LR.gB vw lo):=by kernel_rfl
theorem r3T (w:World) (os:OsState):(rn w os).map (fun s=>(LR.sB vw lo (importedModules pwOf.main.body) xt true) s.abs)=some (LR.gB vw lo):=W.byRow2 "special-get-raises" (P:=fun w=>∀os,(rn w os).map (fun s=>(LR.sB vw lo (importedModules pwOf.main.body) xt true) s.abs)=some (LR.gB vw lo)) r3F r3U w os
theorem r3 (w:World) (os:OsState):(LR.ran pwOf 11 (some (.ref 6)) 4077 w os).map (LR.sB vw lo (importedModules pwOf.main.body) xt true)=some (LR.gB vw lo):=LR.mapT (hb w os) (r3T w os)
end K24
local macro_rules
 | `(tactic| o_law)=>`(tactic| refine PySem.W.holds_law K24.said fun sd=>?_)
local macro_rules
 | `(tactic| o_head $H)=>do
  let hw:=Lean.mkIdent `hw
  let hc:=Lean.mkIdent `hc
  `(tactic| (
   refine' LR.with2 ?bdy ?$hc
   rotate_left 2
   intro z
   refine PySem.W.holds_open (q:=K24.vw) (loose:=K24.lo) (N:=4077) (Xt:=K24.xt) (XP:=PySem.W.XL K24.vw []) (Yf:=PySem.W.Hook.obs $H)
    (Ya:=PySem.W.Hook.val $H) (YP:=PySem.W.Hook.says $H)
    (LR.left_run (p:=K24.pwOf) (m:=11) (ann:=(some (.ref 6))) ?e1 ?e2 (by decide) ?e3 ?e4 ?e5 K24.r1 K24.r2 K24.r3 (And.left z))
    (PySem.W.Hook.of $H) (PySem.W.Hook.keeps $H) ?f1
    PySem.W.XL.keeps (by rfl) (by rfl) (by rfl) ?f2 ?g4 ?g5 ?g6 ?g7 ?$hw (And.right z)
   case e1=>kernel_rfl
   case e2=>intro s;kernel_rfl
   case e3=>intro w;kernel_rfl
   case e4=>intro w;kernel_rfl
   case e5=>intro w;kernel_rfl
   case f1=>intro s e;exact PySem.W.xl_of s (Bool.and_eq_true_iff.mp e).1
   case f2=>intro s e;exact PySem.W.recFacts_of (Bool.and_eq_true_iff.mp e).2
   case g4=>rfl
   case g5=>assumption
   case g6=>trivial
   case g7=>exact ⟨rfl,rfl,rfl,rfl,rfl,by trivial⟩))
set_option maxRecDepth 100000 in
set_option maxHeartbeats 0 in
open_top K24.hd for PySem.Challenge.rw_heirbook_k24_ways_that_part
namespace K24
open PySem PySem.W PyProof.Rows
variable {B C:Prop} {Q:World->OsState->Prop}
set_option maxRecDepth 100000
set_option maxHeartbeats 0
def Zc5 (_:(∀w os,Q w os)∧B->C):Prop:=∀w os,Q w os
def Ja (b:Bool) (_:(∀w os,Q w os)∧B->C):Prop:=∀(w:World) (os:OsState),Q (w.withFollow "special-get-raises" b) os
theorem e6F:Ja false hd:=by (delta Ja;intro w os;refine LR.mapT (hb (w.withFollow "special-get-raises" false) os) ?_;kernel_rfl)
theorem e6U:Ja true hd:=by (delta Ja;intro w os;refine LR.mapT (hb (w.withFollow "special-get-raises" true) os) ?_;kernel_rfl)
theorem Zof (h:(∀w os,Q w os)∧B->C) (f:Ja false h) (u:Ja true h):Zc5 h:=W.byRow2 "special-get-raises" (P:=fun w=>∀os,Q w os) f u
theorem e6:Zc5 hd:=Zof hd e6F e6U
theorem join (h:(∀w os,Q w os)∧B->C) (e:Zc5 h) (b:B):C:=h ⟨e,b⟩
end K24
set_option maxRecDepth 100000
namespace L2
open PySem PySem.Spec PyProof.Rows
variable {C L a b dx:Addr} {A:Around} {op:CmpOp} {X:Cx} {c e tg:Expr} {fd:FuncData} {o:HO} {base h h':Heap} {H H':Hp} {pins:List (Addr×Obj)} {kw:List (Str×Value)} {ch fp:List Addr} {es:List Expr} {N ps:List Str} {xs:List V} {us:List Value} {M:Model} {i n t':Nat} {pos:Pos} {P:Program} {s:Shared} {σ:St} {m:Str} {mA:Str->Option Value} {ta te:TE} {tb:TS} {v y:V} {u:Value} {E Q:Value->Shared->Prop} {f:Value->Value->Sem Value} {K:W.Frag} {CX:Yv}
abbrev Zl:=Sum Int Str
noncomputable def VL:Zl->Value->Bool
 |.inl k,v=>Value.isInt k v
 |.inr x,v=>Value.isStrOf x v
noncomputable def Vx (w:World):Zl->Int
 |.inl k=>hashInt k
 |.inr x=>hashStr w x
theorem Wp:∀{k:Zl} {v:Value},VL k v=true->(∃i t,k=Sum.inl i∧v=Value.int i t)∨(∃x t,k=Sum.inr x∧v=Value.str x t)
 |.inl i,v,h=>by
  obtain ⟨t,e⟩:=Value.isInt_shape (k:=i) (v:=v) h;exact .inl ⟨i,t,rfl,e⟩
 |.inr x,v,h=>by
  obtain ⟨t,e⟩:=Value.isStrOf_shape (x:=x) (v:=v) h;exact .inr ⟨x,t,rfl,e⟩
theorem ZkH (i:Int) (t:Tok):VL (.inl i) (.int i t)=true:=by simp [VL,Value.isInt]
theorem ZoA (x:Str) (t:Tok):VL (.inr x) (.str x t)=true:=by simp [VL,Value.isStrOf]
theorem ZmN (a b:Int):decide ((Sum.inl a:Zl)=Sum.inl b)=(a==b):=by
 by_cases e:a=b
 ·subst e;simp
 ·have h:¬(Sum.inl a:Zl)=Sum.inl b:=fun q=>e (Sum.inl.inj q);rw [Qr h];exact (Rw.mpr e).symm
theorem Zl5 (a b:Str):decide ((Sum.inr a:Zl)=Sum.inr b)=decide (a=b):=by
 by_cases e:a=b
 ·subst e;simp
 ·have h:¬(Sum.inr a:Zl)=Sum.inr b:=fun q=>e (R0 q);rw [Qr h,Qr e]
theorem ZoP (a:Int) (b:Str):decide ((Sum.inl a:Zl)=Sum.inr b)=false:=Qr (fun q=>nomatch q)
theorem ZoZ (a:Str) (b:Int):decide ((Sum.inr a:Zl)=Sum.inl b)=false:=Qr (fun q=>nomatch q)
noncomputable def Yp (prog:Program) (w:World):PySem.KeyKind prog w Zl where
 is:=VL
 hash:=Vx w
 inj:=fun v a b ha hb=>by
  rcases Wp ha with ⟨i,t,rfl,rfl⟩|⟨x,t,rfl,rfl⟩
  ·rcases Wp hb with ⟨j,u,rfl,e⟩|⟨y,u,rfl,e⟩
   ·injection e with e1 _;rw [e1]
   ·exact nomatch e
  ·rcases Wp hb with ⟨j,u,rfl,e⟩|⟨y,u,rfl,e⟩
   ·exact nomatch e
   ·injection e with e1 _;rw [e1]
 byValue:=fun k v h=>by
  rcases Wp h with ⟨i,t,rfl,rfl⟩|⟨x,t,rfl,rfl⟩<;>rfl
 pyHash:=fun hv h=>by
  rcases Wp hv with ⟨i,t,rfl,rfl⟩|⟨x,t,rfl,rfl⟩
  ·exact wpAny_pyHash_int h
  ·exact wpAny_pyHash_str h
 eqBool:=fun hu hv h=>by
  rcases Wp hu with ⟨i,t,rfl,rfl⟩|⟨x,t,rfl,rfl⟩
  ·rcases Wp hv with ⟨j,u,rfl,rfl⟩|⟨y,u,rfl,rfl⟩
   ·rw [ZmN] at h;exact wpAny_eqBool_int h
   ·rw [ZoP] at h;exact Na i t y u _ _ _ _ h
  ·rcases Wp hv with ⟨j,u,rfl,rfl⟩|⟨y,u,rfl,rfl⟩
   ·rw [ZoZ] at h;exact Nb x t j u _ _ _ _ h
   ·rw [Zl5] at h;exact wpAny_eqBool_str h
 «strs»:=fun k x t v h=>by
  rcases Wp h with ⟨i,u,rfl,e⟩|⟨y,u,rfl,e⟩
  ·exact nomatch e
  ·injection e with e1 _;subst e1;cases v<;>rfl
theorem ZmY (prog:Program) (w:World) (i:Int) (t:Tok):(Yp prog w).is (.inl i) (.int i t)=true:=ZkH i t
theorem Zoi (prog:Program) (w:World) (x:Str) (t:Tok):(Yp prog w).is (.inr x) (.str x t)=true:=ZoA x t
inductive V where
 |non|bl (b:Bool)|int (i:Int)|str (x:Str)|byt (b:Array UInt8)|flt (b:UInt64)|ref (a:Addr)|ty (n:String)
 deriving DecidableEq
def RelV:V->Value->Prop
 |.non,u=>u=Value.none
 |.bl b,u=>u=Value.bool b
 |.int i,u=>∃t,u=Value.int i t
 |.str x,u=>∃t,u=Value.str x t
 |.byt b,u=>∃t,u=Value.bytes b t
 |.flt b,u=>∃t,u=Value.float b t
 |.ref a,u=>u=Value.ref a
 |.ty n,u=>u=Value.type n
abbrev Vals:List V->List Value->Prop:=Paired RelV
theorem Vals.length (r:Vals xs us):xs.length=us.length:=GE r
theorem Vals.get:∀{xs:List V} {us:List Value} {i:Nat} {x:V},Vals xs us->xs[i]?=some x->∃u,us[i]?=some u∧RelV x u
 |_,_,_,_,.nil,e=>by simp at e
 |_,_,0,_,.cons r _,e=>by simp at e;subst e;exact ⟨_,rfl,r⟩
 |_,_,i+1,x,.cons _ t,e=>by
  obtain ⟨u,h1,h2⟩:=Vals.get (i:=i) (x:=x) t (by simpa using e);exact ⟨u,by simpa using h1,h2⟩
theorem Vals.set {x:V} {u:Value} (r:RelV x u):∀{xs:List V} {us:List Value} (i:Nat),Vals xs us->Vals (xs.set i x) (us.set i u)
 |_,_,_,.nil=>.nil
 |_,_,0,.cons _ t=>.cons r t
 |_,_,i+1,.cons q t=>.cons q (Vals.set r i t)
theorem Vals.append:∀{xs ys:List V} {us ws:List Value},Vals xs us->Vals ys ws->Vals (xs++ys) (us++ws)
 |_,_,_,_,.nil,s=>s
 |_,_,_,_,.cons r t,s=>.cons r (Vals.append t s)
theorem Vals.take:∀{xs:List V} {us:List Value} (n:Nat),Vals xs us->Vals (xs.take n) (us.take n)
 |_,_,0,_=>.nil
 |_,_,_+1,.nil=>.nil
 |_,_,n+1,.cons r t=>.cons r (Vals.take n t)
theorem Vals.drop:∀{xs:List V} {us:List Value} (n:Nat),Vals xs us->Vals (xs.drop n) (us.drop n)
 |_,_,0,r=>r
 |_,_,_+1,.nil=>.nil
 |_,_,n+1,.cons _ t=>Vals.drop n t
def RelO:Option V->Option Value->Prop
 |some v,some u=>RelV v u
 |none,none=>True
 |_,_=>False
def KV {κ:Type}:List (κ×V)->List (κ×Value)->Prop:=Paired fun (p:κ×V) (q:κ×Value)=>p.1=q.1∧RelV p.2 q.2
noncomputable def kV:Zl->V
 |.inl i=>.int i
 |.inr x=>.str x
inductive HO where
 |lst (xs:List V)
 |tup (xs:List V)
 |dK (kvs:List (Zl×V))|dT (kvs:List (List Zl×V))
 |set (S:Int->Bool) (n:Nat)
 |ins (C dx:Addr) (fs:List (Str×V))
 |own (x:Addr)
 |xd (fs:List (Str×V))
 |met (f x:Addr)
 |rng (lo hi:Int)
 |frz (o:Obj) (u:HO)
 |tbl (ps:Array Value)
 |ext (φ:Heap->Prop)
abbrev Hp:=Addr->Option HO
noncomputable def Zc (H:Hp) (a:Addr) (o:HO):Hp:=fun b=>if b=a then some o else H b
theorem Zg:Zc H a o a=some o:=by unfold Zc;rw [Qb rfl]
theorem Zd (h:b≠a):Zc H a o b=H b:=by unfold Zc;rw [Qa h]
theorem ZiK {u:HO} (h:H a=some o) (h':H b=some u) (d:o≠u):a≠b:=by
 intro e;subst e;rw [h] at h';exact d (Qj h')
theorem ZA (h:H a=some o) (h':H b=none):a≠b:=by
 intro e;subst e;rw [h] at h';cases h'
section
variable (P:Program) (w:World)
def ObjOk (H:Hp) (h:Heap) (a:Addr):HO->Prop
 |.lst xs=>xs.length≤sizeLine∧∃(its:List Value) (n:Nat),Vals xs its∧h.get? a=some { cls:=.type "list",data:=.seq its.toArray n }
 |.tup xs=>xs.length≤sizeLine∧∃its:List Value,Vals xs its∧IsTup h a its.toArray
 |.dK kvs=>kvs.length≤sizeLine∧(a==sysModules)=false∧∃vs,KV kvs vs∧h.DictOf (Yp P w) a vs
 |.dT kvs => kvs.length ≤ sizeLine ∧ (a==sysModules)=false ∧ ∃xs : List (List Zl×Addr×Value),
   Paired (fun (p:List Zl×V) (q:List Zl×Addr×Value)=>p.1=q.1∧H q.2.1=some (.tup (p.1.map kV))∧RelV p.2 q.2.2) kvs xs ∧
   ∃o es ep,h.get? a=some o∧o.ExactDict∧o.data=.dict es ep∧es.toList=xs.map (entryOfKey (tupleKind (Yp P w)))∧(xs.map (·.1)).Nodup
 |.set S n=>h.SetOf (intKind P w) a S n
 |.ins C dx fs => H dx=some (.own a) ∧ fs.length ≤ 1000 ∧ dx ≠ a ∧ h.get? a=some (W.instObj C dx) ∧
   ∃mA,h.Ns1 dx mA∧(∀f,RelO (fs.lookup f) (mA f))∧PySem.Within mA (fs.map (·.1))
 |.own _=>∃o,h.get? a=some o
 |.xd fs=>∃mA,h.Ns1 a mA∧∀f,RelO (fs.lookup f) (mA f)
 |.rng lo hi=>∃t u v,h.get? a=some { cls:=.type "range",data:=.fields #[.int lo t,.int hi u,.int 1 v] }
 |.frz o u=>h.get? a=some o∧ObjOk H h a u
 |.tbl ps=>h.get? a=some { cls:=.none,data:=.fields ps }
 |.met f x=>h.get? a=some (W.methodObj (.ref f) (.ref x))
 |.ext φ=>φ h∧(∃o,h.get? a=some o)∧∀h1 h2:Heap,φ h1->(∀o,h1.get? a=some o->h2.get? a=some o)->φ h2
def HOk (H:Hp) (h:Heap):Prop:=∀a o,H a=some o->ObjOk P w H h a o
end
section
variable {w:World}
theorem ObjOk.lt (x:ObjOk P w H h a o):a<h.objs.size:=by
 cases o with
 |lst xs=>obtain ⟨_,_,_,_,e⟩:=x;exact Qi e
 |tup xs=>obtain ⟨_,_,_,p⟩:=x;exact p.lt
 |dK kvs=>obtain ⟨_,_,_,_,o,_,_,e,_⟩:=x;exact Qi e
 |dT kvs=>obtain ⟨_,_,_,_,o,_,_,e,_⟩:=x;exact Qi e
 |set S n=>obtain ⟨o,_,_,_,e,_⟩:=x;exact Qi e
 |ins C dx fs=>obtain ⟨_,_,_,e,_⟩:=x;exact Qi e
 |own y=>obtain ⟨_,e⟩:=x;exact Qi e
 |xd fs=>obtain ⟨_,⟨_,_,_,e,_⟩,_⟩:=x;exact Qi e
 |rng lo hi=>obtain ⟨_,_,_,e⟩:=x;exact Qi e
 |frz ob u=>obtain ⟨e,_⟩:=x;exact Qi e
 |tbl ps=>exact Qi (show h.get? a=some _ from x)
 |met f y=>exact Qi (show h.get? a=some _ from x)
 |ext φ=>obtain ⟨_,⟨_,e⟩,_⟩:=x;exact Qi e
theorem Paired.mapP {α β:Type} {F G:α->β->Prop}:∀{l₁:List α} {l₂:List β},Paired F l₁ l₂->(∀a b,F a b->G a b)->Paired G l₁ l₂
 |_,_,.nil,_=>.nil
 |_,_,.cons r t,f=>.cons (f _ _ r) (Paired.mapP t f)
theorem ObjOk.stay (x:ObjOk P w H h a o) (k:∀b u,(b=a∨H b=some (.own a))->h.get? b=some u->h'.get? b=some u)
 (ho:∀b,H b=some (.own a)->H' b=some (.own a)) (ht:∀b xs,H b=some (.tup xs)->H' b=some (.tup xs)):ObjOk P w H' h' a o:=by
 induction o with
 |lst xs=>obtain ⟨z,its,n,r,e⟩:=x;exact ⟨z,its,n,r,k _ _ (.inl rfl) e⟩
 |tup xs=>obtain ⟨z,its,r,ob,e,c⟩:=x;exact ⟨z,its,r,ob,k _ _ (.inl rfl) e,c⟩
 |dK kvs=>obtain ⟨z,y,vs,r,ob,es,ep,e,c⟩:=x;exact ⟨z,y,vs,r,ob,es,ep,k _ _ (.inl rfl) e,c⟩
 |dT kvs =>
  obtain ⟨z,y,xs,r,ob,es,ep,e,c⟩:=x;exact ⟨z,y,xs,Paired.mapP r fun p q z=>⟨z.1,ht _ _ z.2.1,z.2.2⟩,ob,es,ep,k _ _ (.inl rfl) e,c⟩
 |set S n=>obtain ⟨ob,es,ep,t,e,c⟩:=x;exact ⟨ob,es,ep,t,k _ _ (.inl rfl) e,c⟩
 |ins C dx fs =>
  obtain ⟨d,z,ne,e,mA,⟨od,es,ep,e2,c⟩,r⟩:=x;exact ⟨ho _ d,z,ne,k _ _ (.inl rfl) e,mA,⟨od,es,ep,k _ _ (.inr d) e2,c⟩,r⟩
 |own y=>obtain ⟨ob,e⟩:=x;exact ⟨ob,k _ _ (.inl rfl) e⟩
 |xd fs=>obtain ⟨mA,⟨od,es,ep,e,c⟩,r⟩:=x;exact ⟨mA,⟨od,es,ep,k _ _ (.inl rfl) e,c⟩,r⟩
 |rng lo hi=>obtain ⟨t,u,v,e⟩:=x;exact ⟨t,u,v,k _ _ (.inl rfl) e⟩
 |frz ob u ih=>obtain ⟨e,q⟩:=x;exact ⟨k _ _ (.inl rfl) e,ih q⟩
 |tbl ps =>
  have e:h.get? a=some { cls:=.none,data:=.fields ps }:=x;show h'.get? a=some { cls:=.none,data:=.fields ps };exact k a _ (.inl rfl) e
 |met f y =>
  have e:h.get? a=some (W.methodObj (.ref f) (.ref y)):=x;show h'.get? a=some (W.methodObj (.ref f) (.ref y));exact k a _ (.inl rfl) e
 |ext φ=>obtain ⟨p,⟨o,e⟩,st⟩:=x;exact ⟨st _ _ p fun o q=>k _ _ (.inl rfl) q,⟨o,k _ _ (.inl rfl) e⟩,st⟩
theorem HOk.lt (x:HOk P w H h) (e:H a=some o):a<h.objs.size:=(x a o e).lt
theorem HOk.fresh (x:HOk P w H h) (e:h.objs.size≤a):H a=none:=by
 cases q:H a with
 |none=>rfl
 |some u=>exact absurd (Qm (x.lt q) e) (QD _)
theorem HOk.kept (x:HOk P w H h) (k:∀b u,h.get? b=some u->h'.get? b=some u):HOk P w H h':=fun a o e =>
 (x a o e).stay (fun b u _ q=>k b u q) (fun _ q=>q) fun _ _ q=>q
theorem HOk.laid (x:HOk P w H h) (k:∀b u,h.get? b=some u->h'.get? b=some u) (hp:h.objs.size≤a) (new:ObjOk P w (Zc H a o) h' a o):HOk P w (Zc H a o) h':=fun b u e=>by
 have hn:=x.fresh hp;by_cases hb:b=a
 ·subst hb;rw [Zg] at e;cases e;exact new
 ·rw [Zd hb] at e;exact (x b u e).stay (fun c v _ q=>k c v q) (fun c q=>by rw [Zd (ZA q hn)];exact q) fun c xs q=>by rw [Zd (ZA q hn)];exact q
end
def Rd (H:Hp) (a:Addr) (u:HO):Prop:=H a=some u∨∃o,H a=some (.frz o u)
theorem Rd.ok {w:World} {u:HO} (r:Rd H a u) (x:HOk P w H h):ObjOk P w H h a u:=by
 rcases r with r|⟨o,r⟩
 ·exact x a u r
 ·obtain ⟨_,q⟩:=x a _ r;exact q
def Mut:Option HO->Prop
 |some (.lst _)=>True
 |some (.dK _)=>True
 |some (.dT _)=>True
 |some (.set _ _)=>True
 |some (.ins _ _ _)=>True
 |some (.ext _)=>True
 |_=>False
section
variable {w:World} {x e:Addr} {o':HO}
theorem HOk.write (ok:HOk P w H h) (mu:Mut (H x)) (he:e=x∨H e=some (.own x)) (k:∀b u,b≠e->h.get? b=some u->h'.get? b=some u) (heo:∃u,h'.get? e=some u)
 (new:ObjOk P w (Zc H x o') h' x o'):HOk P w (Zc H x o') h':=fun b u q=>by
 have nown:∀c y,H c=some (.own y)->c≠x:=fun c y r z=>by subst z;rw [r] at mu;exact mu
 have ntup:∀c xs,H c=some (.tup xs)->c≠x:=fun c xs r z=>by subst z;rw [r] at mu;exact mu
 by_cases hb:b=x
 ·subst hb;rw [Zg] at q;cases q;exact new
 ·rw [Zd hb] at q;by_cases hbe:b=e
  ·have q':H b=some (.own x):=by
    rcases he with z|z
    ·exact absurd (hbe.trans z) hb
    ·rw [hbe];exact z
   rw [q] at q';cases q';obtain ⟨v,hv⟩:=heo;exact ⟨v,by rw [hbe];exact hv⟩
  ·refine (ok b u q).stay (fun c v hc r=>k c v ?_ r) (fun c r=>by rw [Zd (nown c b r)];exact r) fun c xs r=>by rw [Zd (ntup c xs r)];exact r
   rcases hc with rfl|hc
   ·exact hbe
   ·rintro rfl;rcases he with z|z
    ·exact nown c b hc z
    ·rw [hc] at z;cases z;exact hb rfl
end
structure Un (fs ex:List Addr) (H H':Hp) (h h':Heap):Prop where
 keep:∀b o,h.get? b=some o->H b=none->b∉fs->b∉ex->h'.get? b=some o
 slot:∀b o,h.get? b=some o->H b=none->b∈fs->b∉ex->∃sl,h'.get? b=some { o with slots:=sl }
 free:∀b o,h.get? b=some o->H b=none->b∉ex->H' b=none
 there:∀b o,h.get? b=some o->b∉ex->∃o',h'.get? b=some o'
 tups:∀b xs,H b=some (.tup xs)->H' b=some (.tup xs)
 frzs:∀b o u,H b=some (.frz o u)->H' b=some (.frz o u)
 tbls:∀b ps,H b=some (.tbl ps)->∃more,H' b=some (.tbl (ps++more))
section
variable {fs fs' ex ex':List Addr} {H1 H2:Hp} {h1 h2:Heap} {x e:Addr}
theorem Un.any (u:Un fs ex H H1 h h1) {ob:Obj} (q:h.get? b=some ob) (n:H b=none) (hx:b∉ex):∃sl,h1.get? b=some { ob with slots:=sl }:=by
 by_cases hb:b∈fs
 ·exact u.slot b ob q n hb hx
 ·exact ⟨ob.slots,u.keep b ob q n hb hx⟩
theorem Un.kept (k:∀b u,h.get? b=some u->h'.get? b=some u):Un fs ex H H h h' :=
 ⟨fun b ob q _ _ _=>k b ob q,fun b ob q _ _ _=>⟨ob.slots,k b ob q⟩,fun _ _ _ n _=>n,fun b ob q _=>⟨ob,k b ob q⟩,fun _ _ q=>q,fun _ _ _ q=>q,fun _ ps q=>⟨#[],by rw [q];simp⟩⟩
theorem Un.refl:Un fs ex H H h h:=Un.kept fun _ _ q=>q
theorem Un.laid (k:∀b u,h.get? b=some u->h'.get? b=some u) (hp:h.objs.size≤a) (hn:H a=none):Un fs ex H (Zc H a o) h h' where
 keep:=fun b u q _ _ _=>k b u q
 slot:=fun b u q _ _ _=>⟨u.slots,k b u q⟩
 free:=fun b u q n _=>by rw [Zd (QA (Qm (Qi q) hp))];exact n
 there:=fun b u q _=>⟨u,k b u q⟩
 tups:=fun b xs q=>by rw [Zd (ZA q hn)];exact q
 frzs:=fun b u xs q=>by rw [Zd (ZA q hn)];exact q
 tbls:=fun b ps q=>⟨#[],by rw [Zd (ZA q hn),q];simp⟩
theorem Un.write (mu:Mut (H x)) (he:e=x∨H e=some (.own x)) (k:∀b u,b≠e->h.get? b=some u->h'.get? b=some u) (heo:∃u,h'.get? e=some u):Un fs ex H (Zc H x o) h h':=by
 have hx:∀b,H b=none->b≠x:=fun b n z=>by subst z;rw [n] at mu;exact mu
 have hb:∀b,H b=none->b≠e:=fun b n z=>by
  subst z;rcases he with r|r
  ·exact hx b n r
  ·rw [n] at r;cases r
 have hm:∀b u,H b=some u->¬Mut (some u)->b≠x:=fun b u q nm z=>by subst z;rw [q] at mu;exact nm mu
 refine ⟨fun b u q n _ _=>k b u (hb b n) q,fun b u q n _ _=>⟨u.slots,k b u (hb b n) q⟩,fun b u q n _=>by rw [Zd (hx b n)];exact n,fun b u q _=>?_,
  fun b xs q=>by rw [Zd (hm b _ q fun z=>z)];exact q,fun b u xs q=>by rw [Zd (hm b _ q fun z=>z)];exact q,fun b ps q=>⟨#[],by rw [Zd (hm b _ q fun z=>z),q];simp⟩⟩
 by_cases hbe:b=e
 ·subst hbe;exact heo
 ·exact ⟨u,k b u hbe q⟩
end
noncomputable def trk (h:Heap) (H:Hp):List Addr:=(List.range h.objs.size).filter fun a=>(H a).isSome
noncomputable def We (h:Heap) (H:Hp):Heap:=W.hideAll h (trk h H)
theorem Zln (h:Heap) (H:Hp):(We h H).objs.size=h.objs.size:=W.hideAll_size _ _
theorem Zlu {o:Obj} (e:h.get? b=some o) (n:H b=none):(We h H).get? b=some o :=
 W.hideAll_get _ e fun hm=>by
  have q:(H b).isSome=true:=(Rx.mp hm).2;rw [n] at q;simp at q
theorem Zk9 {o:Obj} (e:(We h H).get? b=some o):h.get? b=some o∧H b=none:=by
 have e':h.get? b=some o:=W.of_hideAll (trk h H) e;refine ⟨e',?_⟩;cases q:H b with
 |none=>rfl
 |some x =>
  have hm:b∈trk h H:=Rx.mpr ⟨R1.mpr (Qi e'),by simp [q]⟩;have z:(We h H).get? b=none:=W.hideAll_none (trk h H) hm;rw [z] at e;cases e
noncomputable def JZ (g h:Heap) (L:Addr):List (Addr×Obj):=(List.range h.objs.size).filterMap fun a=>if a=L∨(g.get? a).isSome=true then none else (h.get? a).map fun o=>(a,o)
theorem Zgc {g:Heap} {o:Obj} (h1:a≠L) (h2:g.get? a=none) (h3:h.get? a=some o):(a,o)∈JZ g h L :=
 Ra.mpr ⟨a,R1.mpr (Qi h3),by simp [h1,h2,h3]⟩
theorem Zpw {g:Heap} {p:Addr×Obj} (hp:p∈JZ g h L):p.1≠L∧g.get? p.1=none∧h.get? p.1=some p.2:=by
 obtain ⟨b,_,e⟩:=Ra.mp hp;split at e
 ·cases e
 ·rename_i hn;cases q:h.get? b with
  |none=>rw [q] at e;simp at e
  |some u =>
   rw [q] at e;simp only [G9,Option.some.injEq] at e;subst e;refine ⟨fun z=>hn (.inl z),?_,q⟩;show g.get? b=none;cases r:g.get? b with
   |none=>rfl
   |some v=>exact (hn (.inr (by simp [r]))).elim
theorem Zpv {g:Heap}:News g L h (JZ g h L):=fun p hp=>let ⟨a,b,c⟩:=Zpw hp;⟨c,a,b⟩
structure Mod (K:W.Frag) (mg:Str->Option Value) (base:Heap):Prop where
 kin:K.In base
 glob:base.Ns mainGlobals mg
 blt:∃mb,base.Ns builtinsNs mb∧∀x:Str,x≠"__name__"->mb x=bootBuiltins x
 nolimit:base.NoLimit
structure Cx where
 prog:Program
 w:World
 K:W.Frag
 mg:Str->Option Value
 base:Heap
 A:Around
 N:List Str
 s₀:Shared
 H₀:Hp
 env:Env
 outer:List Env
 stack:List Env
 ex:List Addr
 fn:Str->Bool
 calm:Bool
 pn:List (Addr×Obj)
 xe:Value->Shared->Prop
noncomputable def Yq (l:List Env):List Addr:=l.filterMap (·.frame)
noncomputable abbrev Cx.fs (X:Cx):List Addr:=Yq X.outer
def JF (sc:Scope) (x:Str):Prop:=sc.names.lookup x=some .local∨sc.names.lookup x=some .cell∨sc.names.lookup x=some .free
def J6 (sc:Scope) (x:Str):Prop:=sc.names.lookup x=some .local∨sc.names.lookup x=some .cell
def Zjb (env:Env) (h:Heap) (m:Str->Option Value) (x:Str) (u:Value):Prop :=
 (env.kindOf x=some .local∧m x=some u)∨((env.kindOf x=some .cell∨env.kindOf x=some .free)∧∃c,env.cells.lookup x=some c∧h.IsCell c (some u))
structure Cx.Ok (X:Cx):Prop where
 mod:Mod X.K X.mg X.base
 kind:X.env.scope.kind=.function
 glob:X.env.globals=mainGlobals
 blt:X.env.builtins=builtinsNs
 above:X.s₀.heap.objs.size≤X.env.locals
 inj:∀x y c,X.env.cells.lookup x=some c->X.env.cells.lookup y=some c->x=y
 has:∀x,(X.env.kindOf x=some .cell∨X.env.kindOf x=some .free)->∃c,X.env.cells.lookup x=some c
 cab:∀x c,X.fn x=true->X.env.cells.lookup x=some c->X.s₀.heap.objs.size≤c
 hd:X.calm=true->X.A.handled=none
 frames:X.A.frames=some X.stack
 stk:X.stack=X.outer∨(X.stack=X.env::X.outer∧X.env.frame=some X.env.locals)
 exf:∀b∈X.ex,b≠X.env.locals∧∀x c,X.env.cells.lookup x=some c->c≠b
 bs:∀b o,X.base.get? b=some o->X.s₀.heap.get? b=some o∧X.H₀ b=none
 bsz:X.base.objs.size≤X.s₀.heap.objs.size
 noex:∀b o,X.base.get? b=some o->b∉X.ex
 exfs:∀b∈X.ex,b∉X.fs
 funs:X.s₀.heap.FunFrames X.base X.outer
 frf:∀b∈X.fs,X.H₀ b=none
structure Inv (X:Cx) (pins:List (Addr×Obj)) (σ:List (Option V)) (H:Hp) (s:Shared):Prop where
 ok:X.Ok
 os:s.os=X.s₀.os
 bare:AllBare s.gens
 base:Un X.fs X.ex X.H₀ H X.s₀.heap s.heap
 loc:∃m,s.heap.Ns X.env.locals m∧∀(i:Nat) (x:Str) (v:V),X.N[i]?=some x->σ[i]?=some (some v)->JF X.env.scope x->∃u,RelV v u∧Zjb X.env s.heap m x u
 cell:∀x c,X.env.cells.lookup x=some c->∃v,s.heap.IsCell c v
 free:H X.env.locals=none
 freeC:∀x c,X.env.cells.lookup x=some c->H c=none
 pin:∀p∈X.pn++pins,s.heap.get? p.1=some p.2∧H p.1=none∧p.1≠X.env.locals∧p.1∉X.fs∧∀v,p.2.data≠.cell v
 hok:HOk X.prog X.w H s.heap
 len:σ.length=X.N.length
section
variable {σ:List (Option V)}
theorem Cx.Ok.nofr (ok:X.Ok) {o:Obj} (e:X.base.get? b=some o):b∉X.fs:=fun hb=>by
 have:=(ok.funs.mem hb).1;rw [e] at this;cases this
theorem Inv.bs (I:Inv X pins σ H s):∀b o,X.base.get? b=some o->s.heap.get? b=some o∧H b=none:=fun b o e =>
 ⟨I.base.keep b o (I.ok.bs b o e).1 (I.ok.bs b o e).2 (I.ok.nofr e) (I.ok.noex b o e),I.base.free b o (I.ok.bs b o e).1 (I.ok.bs b o e).2 (I.ok.noex b o e)⟩
theorem Inv.bk (I:Inv X pins σ H s):∀b o,X.base.get? b=some o->s.heap.get? b=some o:=fun b o e=>(I.bs b o e).1
theorem Inv.mod (I:Inv X pins σ H s):Mod X.K X.mg X.base:=I.ok.mod
theorem Inv.kIn (I:Inv X pins σ H s):X.K.In s.heap:=I.ok.mod.kin.keeps I.bk
theorem Inv.nolimit (I:Inv X pins σ H s):s.heap.NoLimit:=I.ok.mod.nolimit.keeps I.bk
theorem Inv.fr (I:Inv X pins σ H s):∃m,Fr X.base X.env.locals s.heap m :=
 let ⟨m,hn,_⟩:=I.loc
 ⟨m,hn,I.bk,Qn I.ok.bsz I.ok.above⟩
theorem Inv.lt (I:Inv X pins σ H s):X.env.locals<s.heap.objs.size:=let ⟨_,hn,_⟩:=I.loc;hn.lt
theorem Inv.sz (I:Inv X pins σ H s):X.s₀.heap.objs.size≤s.heap.objs.size:=Qn I.ok.above (QO I.lt)
theorem Inv.nofs (I:Inv X pins σ H s) (h:s.heap.objs.size≤a):a∉X.fs:=fun hb=>by
 obtain ⟨_,o,ho,_⟩:=I.ok.funs.mem hb;exact absurd (Qm (Qi ho) (Qn I.sz h)) (QD _)
theorem Inv.cne (I:Inv X pins σ H s):∀x c,X.env.cells.lookup x=some c->c≠X.env.locals:=fun x c e z=>by
 obtain ⟨v,o,ho,hd⟩:=I.cell x c e;obtain ⟨m,⟨o',es,ep,ho',hd',_⟩,_⟩:=I.loc;rw [z,ho'] at ho;cases ho;rw [hd'] at hd;cases hd
theorem Inv.funs (I:Inv X pins σ H s):s.heap.FunFrames X.base X.outer:=by
 have all:∀(l:List Env),(∀b∈Yq l,b∈X.fs)->X.s₀.heap.FunFrames X.base l->s.heap.FunFrames X.base l:=by
  intro l
  induction l with
  |nil=>intro _ _;trivial
  |cons env r ih =>
   intro hs hl;obtain ⟨hk,⟨L,o,hf,hn,ho,hd⟩,hr⟩:=hl;have hL:L∈X.fs:=hs L (by unfold Yq;rw [Rb,hf];exact QH);obtain ⟨sl,e⟩:=I.base.slot L o ho (I.ok.frf L hL) hL fun z=>I.ok.exfs L z hL;exact ⟨hk,⟨L,_,hf,hn,e,hd⟩,ih (fun b hb=>hs b (by unfold Yq;rw [Rb,hf];exact QC _ hb)) hr⟩
 exact all X.outer (fun _ hb=>hb) I.ok.funs
theorem Inv.stack (I:Inv X pins σ H s):s.heap.FunFrames X.base X.stack:=by
 rcases I.ok.stk with e|⟨e,hf⟩
 ·rw [e];exact I.funs
 ·rw [e];obtain ⟨m,hn,_⟩:=I.loc;refine .cons (by rw [I.ok.kind];decide) hf hn ?_ I.funs;exact Nc (Qn I.ok.bsz I.ok.above)
theorem Inv.stkSub (I:Inv X pins σ H s):∀b∈Yq X.stack,b∈X.env.locals::X.fs:=fun b hb=>by
 rcases I.ok.stk with e|⟨e,hf⟩
 ·rw [e] at hb;exact QC _ hb
 ·rw [e] at hb;unfold Yq at hb;rw [Rb,hf] at hb;exact hb
theorem Inv.stkFree (I:Inv X pins σ H s):∀b∈Yq X.stack,H b=none:=fun b hb=>by
 rcases Qh.mp (I.stkSub b hb) with e|hb
 ·rw [e];exact I.free
 ·obtain ⟨_,o,ho,_⟩:=I.ok.funs.mem hb;exact I.base.free b o ho (I.ok.frf b hb) fun z=>I.ok.exfs b z hb
theorem Inv.step {g':Array GenState} {d':Drawn} (I:Inv X pins σ H s)
 (hch:∀b∈ch,(b∈X.ex∨X.s₀.heap.objs.size≤b)∧b≠X.env.locals∧(∀x c,X.env.cells.lookup x=some c->c≠b)∧∀p∈X.pn++pins,p.1≠b)
 (keep:∀b o,b≠X.env.locals->b∉X.fs->b∉ch->s.heap.get? b=some o->H b=none->h'.get? b=some o)
 (slot:∀b o,b≠X.env.locals->b∈X.fs->b∉ch->s.heap.get? b=some o->H b=none->∃sl,h'.get? b=some { o with slots:=sl }) (free:∀b o,b∉ch->s.heap.get? b=some o->H b=none->H' b=none)
 (there:∀b o,b∉ch->s.heap.get? b=some o->∃o',h'.get? b=some o')
 (tups:∀b xs,H b=some (.tup xs)->H' b=some (.tup xs)) (frzs:∀b o u,H b=some (.frz o u)->H' b=some (.frz o u)) (tbls:∀b ps,H b=some (.tbl ps)->∃more,H' b=some (.tbl (ps++more)))
 (ns:∀m,s.heap.Ns X.env.locals m->h'.Ns X.env.locals m) (hok:HOk X.prog X.w H' h') (hg:AllBare g') :
  Inv X pins σ H' { s with heap:=h',gens:=g',drawn:=d',toks:=t' }:=by
 have neL:∀b o,X.s₀.heap.get? b=some o->b≠X.env.locals:=fun b o e=>QA (Qm (Qi e) I.ok.above)
 have neC:∀b o,X.s₀.heap.get? b=some o->b∉X.ex->b∉ch:=fun b o e hx hb=>by
  rcases (hch b hb).1 with z|z
  ·exact hx z
  ·exact absurd (Qm (Qi e) z) (QD _)
 have cellK:∀x c,X.env.cells.lookup x=some c->∀v,s.heap.IsCell c v->h'.IsCell c v:=fun x c e v ⟨o,ho,hd⟩=>by
  have nch:c∉ch:=fun z=>(hch c z).2.2.1 x c e rfl;by_cases hc:c∈X.fs
  ·obtain ⟨sl,q⟩:=slot c o (I.cne x c e) hc nch ho (I.freeC x c e);exact ⟨_,q,hd⟩
  ·exact ⟨o,keep c o (I.cne x c e) hc nch ho (I.freeC x c e),hd⟩
 refine ⟨I.ok,I.os,hg,⟨fun b o e n hb hx=>?_,fun b o e n hb hx=>?_,fun b o e n hx=>?_,fun b o e hx=>?_,fun b xs e=>tups b xs (I.base.tups b xs e),fun b o xs e=>frzs b o xs (I.base.frzs b o xs e),fun b ps e=>?_⟩,?_,fun x c e=>?_,?_,fun x c e=>?_,fun p hp=>?_,hok,I.len⟩
 ·exact keep b o (neL b o e) hb (neC b o e hx) (I.base.keep b o e n hb hx) (I.base.free b o e n hx)
 ·obtain ⟨sl,e1⟩:=I.base.slot b o e n hb hx;obtain ⟨sl',e2⟩:=slot b _ (neL b o e) hb (neC b o e hx) e1 (I.base.free b o e n hx);exact ⟨sl',e2⟩
 ·obtain ⟨o',e1⟩:=I.base.there b o e hx;exact free b o' (neC b o e hx) e1 (I.base.free b o e n hx)
 ·obtain ⟨o',e1⟩:=I.base.there b o e hx;exact there b o' (neC b o e hx) e1
 ·obtain ⟨m1,e1⟩:=I.base.tbls b ps e;obtain ⟨m2,e2⟩:=tbls b _ e1;exact ⟨m1++m2,by rw [e2,Array.append_assoc]⟩
 ·obtain ⟨m,hn,hl⟩:=I.loc;refine ⟨m,ns m hn,fun i x v e1 e2 e3=>?_⟩;obtain ⟨u,r,l⟩:=hl i x v e1 e2 e3;refine ⟨u,r,?_⟩;rcases l with l|⟨k,c,e,z⟩
  ·exact .inl l
  ·exact .inr ⟨k,c,e,cellK x c e _ z⟩
 ·obtain ⟨v,z⟩:=I.cell x c e;exact ⟨v,cellK x c e v z⟩
 ·obtain ⟨m,⟨o,_,_,ho,_⟩,_⟩:=I.loc;exact free _ o (fun z=>(hch _ z).2.1 rfl) ho I.free
 ·obtain ⟨v,o,ho,hd⟩:=I.cell x c e;exact free c o (fun z=>(hch c z).2.2.1 x c e rfl) ho (I.freeC x c e)
 ·obtain ⟨e,n,ne,nf,d⟩:=I.pin p hp;have nch:p.1∉ch:=fun z=>(hch p.1 z).2.2.2 p hp rfl;exact ⟨keep p.1 p.2 ne nf nch e n,free p.1 p.2 nch e n,ne,nf,d⟩
theorem Inv.un (I:Inv X pins σ H s) (u:Un X.fs [] H H' s.heap h') (hok:HOk X.prog X.w H' h'):Inv X pins σ H' { s with heap:=h',toks:=t' }:=by
 obtain ⟨m,⟨o,es,ep,ho,r⟩,_⟩:=id I.loc;obtain ⟨sl,hL⟩:=u.any ho I.free (by simp)
 exact I.step (g':=s.gens) (d':=s.drawn) (ch:=[]) (fun _ z=>nomatch z) (fun b o _ hb _ e n=>u.keep b o e n hb (by simp)) (fun b o _ hb _ e n=>u.slot b o e n hb (by simp)) (fun b o _ e n=>u.free b o e n (by simp)) (fun b o _ e=>u.there b o e (by simp)) u.tups u.frzs u.tbls (fun m' hm=>by
  obtain ⟨o',es',ep',ho',r'⟩:=hm;rw [ho] at ho';cases ho';exact ⟨_,es',ep',hL,r'⟩) hok I.bare
theorem Inv.call {g':Array GenState} {d':Drawn} (I:Inv X pins σ H s) (u:Un (Yq X.stack) ch H H' s.heap h') (hok:HOk X.prog X.w H' h') (hg:AllBare g')
 (hch:∀b∈ch,(b∈X.ex∨X.s₀.heap.objs.size≤b)∧b≠X.env.locals∧(∀x c,X.env.cells.lookup x=some c->c≠b)∧∀p∈X.pn++pins,p.1≠b) :
  Inv X pins σ H' { s with heap:=h',gens:=g',drawn:=d',toks:=t' }:=by
 obtain ⟨m,⟨o,es,ep,ho,r⟩,_⟩:=id I.loc;obtain ⟨sl,hL⟩:=u.any ho I.free fun z=>(hch _ z).2.1 rfl
 exact I.step (ch:=ch) hch (fun b o hL hb hc e n=>u.keep b o e n (fun z=>(Qh.mp (I.stkSub b z)).elim hL hb) hc) (fun b o _ _ hc e n=>u.any e n hc) (fun b o hc e n=>u.free b o e n hc) (fun b o hc e=>u.there b o e hc) u.tups u.frzs u.tbls (fun m' hm=>by
  obtain ⟨o',es',ep',ho',r'⟩:=hm;rw [ho] at ho';cases ho';exact ⟨_,es',ep',hL,r'⟩) hok hg
theorem Inv.turned {it:Addr} (I:Inv X pins σ H s) (k:∀b o,b≠it->s.heap.get? b=some o->h'.get? b=some o) (hn:H it=none) (hL:it≠X.env.locals)
 (h1:it∈X.ex∨X.s₀.heap.objs.size≤it) (h2:∀x c,X.env.cells.lookup x=some c->c≠it) (h3:∀p∈X.pn++pins,p.1≠it):Inv X pins σ H { s with heap:=h',toks:=t' }:=by
 have nit:∀b u,H b=some u->b≠it:=fun b u e z=>by rw [z,hn] at e;cases e
 refine I.step (g':=s.gens) (d':=s.drawn) (ch:=[it]) (fun b hb=>?_) (fun b o _ _ hc e _=>k b o (fun z=>hc (by simp [z])) e) (fun b o _ _ hc e _=>⟨o.slots,k b o (fun z=>hc (by simp [z])) e⟩) (fun _ _ _ _ n=>n)
  (fun b o hc e=>⟨o,k b o (fun z=>hc (by simp [z])) e⟩) (fun _ _ e=>e) (fun _ _ _ e=>e) (fun b ps e=>⟨#[],by rw [e];simp⟩) (fun m hm=>?_) (fun b u e=>?_) I.bare
 ·have e:b=it:=by simpa using hb
  subst e;exact ⟨h1,hL,h2,h3⟩
 ·obtain ⟨o,es,ep,ho,r⟩:=hm;exact ⟨o,es,ep,k _ o (QX hL) ho,r⟩
 ·refine (I.hok b u e).stay (fun c v hc q=>k c v ?_ q) (fun _ q=>q) fun _ _ q=>q;rcases hc with z|z
  ·rw [z];exact nit b u e
  ·exact nit c _ z
theorem Inv.tok (I:Inv X pins σ H s) (t:Nat):Inv X pins σ H { s with toks:=t }:=I.un (h':=s.heap) (t':=t) Un.refl I.hok
theorem Inv.kept (I:Inv X pins σ H s) (k:∀b u,s.heap.get? b=some u->h'.get? b=some u):Inv X pins σ H { s with heap:=h',toks:=t' }:=I.un (Un.kept k) (I.hok.kept k)
theorem Inv.laid (I:Inv X pins σ H s) (k:∀b u,s.heap.get? b=some u->h'.get? b=some u) (hp:s.heap.objs.size≤a) (new:ObjOk X.prog X.w (Zc H a o) h' a o) :
  Inv X pins σ (Zc H a o) { s with heap:=h',toks:=t' }:=I.un (Un.laid k hp (I.hok.fresh hp)) (I.hok.laid k hp new)
theorem Inv.write {x e:Addr} (I:Inv X pins σ H s) (mu:Mut (H x)) (he:e=x∨H e=some (.own x)) (k:∀b u,b≠e->s.heap.get? b=some u->h'.get? b=some u) (heo:∃u,h'.get? e=some u)
 (new:ObjOk X.prog X.w (Zc H x o) h' x o):Inv X pins σ (Zc H x o) { s with heap:=h',toks:=t' }:=I.un (Un.write mu he k heo) (I.hok.write mu he k heo new)
theorem Inv.pins_of {pins':List (Addr×Obj)} (I:Inv X pins σ H s) (h:∀p∈pins',s.heap.get? p.1=some p.2∧H p.1=none∧p.1≠X.env.locals∧p.1∉X.fs∧∀v,p.2.data≠.cell v):Inv X pins' σ H s :=
 ⟨I.ok,I.os,I.bare,I.base,I.loc,I.cell,I.free,I.freeC,fun p hp=>(Ql.mp hp).elim (fun z=>I.pin p (Rc _ z)) (h p),I.hok,I.len⟩
theorem Zg3 (hN:N.Nodup) {j:Nat} {x:Str} (a:N[i]?=some x) (b:N[j]?=some x):i=j:=by
 obtain ⟨h1,e1⟩:=QE.mp a;obtain ⟨h2,e2⟩:=QE.mp b;exact (List.getElem_inj hN).mp (e1.trans e2.symm)
theorem Zgr {x:Str} {Q:Unit->Shared->Prop} (I:Inv X pins σ H s) (hN:X.N.Nodup) (hi:X.N[i]?=some x) (hx:J6 X.env.scope x) (r:RelV v u)
 (h:∀s',Inv X pins (σ.set i (some v)) H s'->(∃a,Heap.SameBut a s.heap s'.heap∧(a=X.env.locals∨X.env.cells.lookup x=some a))->Q () s') (hf:X.fn x=true∨X.env.scope.names.lookup x=some .local:=by first|exact .inl rfl|exact .inr rfl|assumption):wpAny M A (storeName X.env x u) Q E s:=by
 obtain ⟨m,hn,hl⟩:=id I.loc;have hcls:(X.env.scope.kind==.class||(X.env.scope.kind==.module&&X.env.locals != X.env.globals))=false:=by rw [I.ok.kind];rfl
 have hiσ:i<σ.length:=by rw [I.len];exact (QE.mp hi).1
 have cne:=I.cne
 have tracked:∀{a:Addr} {h':Heap},(∃o,s.heap.get? a=some o∧H a=none)->Heap.SameBut a s.heap h'->HOk X.prog X.w H h':=fun {a h'} ha hs b ob e=>by
  obtain ⟨_,_,hfree⟩:=ha;refine (I.hok b ob e).stay (fun c w' hc q=>(hs.2 c ?_).trans q) (fun _ q=>q) fun _ _ q=>q;rintro rfl;rcases hc with rfl|hc
  ·rw [hfree] at e;cases e
  ·rw [hfree] at hc;cases hc
 rcases hx with hk|hk
 ·refine wpAny_storeName_local hk hn (fun h' hn' hs=>?_) hcls;obtain ⟨oL,_,_,hoL,_⟩:=id hn;refine h _ ⟨I.ok,I.os,I.bare,⟨fun b o e n hb hx=>?_,fun b o e n hb hx=>?_,I.base.free,fun b o e hx=>?_,I.base.tups,I.base.frzs,I.base.tbls⟩,⟨_,hn',fun j y v' e1 e2 e3=>?_⟩,fun y c e=>?_,I.free,I.freeC,fun p hp=>?_,tracked ⟨oL,hoL,I.free⟩ hs,by simpa using I.len⟩ ⟨_,hs,.inl rfl⟩
  ·exact (hs.2 b (QA (Qm (Qi e) I.ok.above))).trans (I.base.keep b o e n hb hx)
  ·obtain ⟨sl,e1⟩:=I.base.slot b o e n hb hx;exact ⟨sl,(hs.2 b (QA (Qm (Qi e) I.ok.above))).trans e1⟩
  ·obtain ⟨o',e1⟩:=I.base.there b o e hx;exact ⟨o',(hs.2 b (QA (Qm (Qi e) I.ok.above))).trans e1⟩
  ·by_cases hj:j=i
   ·subst hj;rw [hi] at e1;cases e1;rw [List.getElem?_set_self hiσ] at e2;cases e2;exact ⟨u,r,.inl ⟨hk,by simp⟩⟩
   ·rw [List.getElem?_set_ne (QX hj)] at e2;obtain ⟨u',r',q⟩:=hl j y v' e1 e2 e3;refine ⟨u',r',?_⟩;rcases q with ⟨k,e⟩|⟨k,c,e,z⟩
    ·refine .inl ⟨k,?_⟩;have:y≠x:=fun e=>hj (Zg3 hN e1 (e▸hi));simp [this,e]
    ·exact .inr ⟨k,c,e,z.sameBut hs (cne y c e)⟩
  ·obtain ⟨w',z⟩:=I.cell y c e;exact ⟨w',z.sameBut hs (cne y c e)⟩
  ·obtain ⟨e,n,ne,nf,d⟩:=I.pin p hp;exact ⟨(hs.2 p.1 ne).trans e,n,ne,nf,d⟩
 ·have hfn:X.fn x=true:=by
   rcases hf with z|z
   ·exact z
   ·rw [z] at hk;cases hk
  obtain ⟨c,hc⟩:=I.ok.has x (.inl hk);obtain ⟨w',z⟩:=I.cell x c hc;refine wpAny_storeName_cell I.ok.kind hk hc z (fun h' hc' hs=>?_);obtain ⟨oc,hoc,hocd⟩:=id z;refine h { s with heap:=h' } ⟨I.ok,I.os,I.bare,⟨fun b o e n hb hx=>?_,fun b o e n hb hx=>?_,I.base.free,fun b o e hx=>?_,I.base.tups,I.base.frzs,I.base.tbls⟩,⟨m,hn.sameBut hs (QX (cne x c hc)),fun j y v' e1 e2 e3=>?_⟩,fun y c' e=>?_,I.free,I.freeC,fun p hp=>?_,tracked ⟨oc,hoc,I.freeC x c hc⟩ hs,by simpa using I.len⟩ ⟨c,hs,.inr hc⟩
  ·exact (hs.2 b (QA (Qm (Qi e) (I.ok.cab x c hfn hc)))).trans (I.base.keep b o e n hb hx)
  ·obtain ⟨sl,e1⟩:=I.base.slot b o e n hb hx;exact ⟨sl,(hs.2 b (QA (Qm (Qi e) (I.ok.cab x c hfn hc)))).trans e1⟩
  ·obtain ⟨o',e1⟩:=I.base.there b o e hx;exact ⟨o',(hs.2 b (QA (Qm (Qi e) (I.ok.cab x c hfn hc)))).trans e1⟩
  ·by_cases hj:j=i
   ·subst hj;rw [hi] at e1;cases e1;rw [List.getElem?_set_self hiσ] at e2;cases e2;exact ⟨u,r,.inr ⟨.inl hk,c,hc,hc'⟩⟩
   ·rw [List.getElem?_set_ne (QX hj)] at e2;obtain ⟨u',r',q⟩:=hl j y v' e1 e2 e3;refine ⟨u',r',?_⟩;rcases q with q|⟨k,c',e,z'⟩
    ·exact .inl q
    ·refine .inr ⟨k,c',e,z'.sameBut hs ?_⟩;rintro rfl;exact hj (Zg3 hN e1 (I.ok.inj _ _ _ e hc▸hi))
  ·by_cases hcc:c'=c
   ·subst hcc;exact ⟨_,hc'⟩
   ·obtain ⟨w2,z2⟩:=I.cell y c' e;exact ⟨w2,z2.sameBut hs hcc⟩
  ·obtain ⟨e,n,ne,nf,d⟩:=I.pin p hp;refine ⟨(hs.2 p.1 ?_).trans e,n,ne,nf,d⟩;intro q;rw [q,hoc] at e;have q':oc=p.2:=Qj e;exact d w' (by rw [←q'];exact hocd)
theorem Zhx {x:Str} {Q:Unit->Shared->Prop} (I:Inv X pins σ H s) (hN:X.N.Nodup) (hi:X.N[i]?=some x) (hx:J6 X.env.scope x) (r:RelV v u)
 (h:∀s',Inv X pins (σ.set i (some v)) H s'->Q () s') (hf:X.fn x=true∨X.env.scope.names.lookup x=some .local:=by first|exact .inl rfl|exact .inr rfl|assumption):wpAny M A (storeName X.env x u) Q E s :=
 Zgr I hN hi hx r (fun s' I' _=>h s' I') hf
theorem Inv.call' {s':Shared} (I:Inv X pins σ H s) (ho:s'.os=s.os) (u:Un (Yq X.stack) ch H H' s.heap s'.heap) (hok:HOk X.prog X.w H' s'.heap) (hg:AllBare s'.gens)
 (hch:∀b∈ch,(b∈X.ex∨X.s₀.heap.objs.size≤b)∧b≠X.env.locals∧(∀x c,X.env.cells.lookup x=some c->c≠b)∧∀p∈X.pn++pins,p.1≠b):Inv X pins σ H' s':=by
 obtain ⟨h',g',d',t',o'⟩:=s';have e:o'=s.os:=ho;subst e;exact I.call (g':=g') (t':=t') (d':=d') u hok hg hch
end
abbrev XK:=Value->Option Addr->Hp->Prop
abbrev St:=List (Option V)
abbrev VK:=V->Hp->Prop
abbrev TE:=St->Hp->VK->Prop
abbrev TT:=St->Hp->(Bool->Hp->Prop)->Prop
abbrev TA:=St->Hp->(List V->Hp->Prop)->Prop
structure Ends where
 nx:St->Hp->Prop
 rt:VK
 bk:St->Hp->Prop:=fun _ _=>False
 ct:St->Hp->Prop:=fun _ _=>False
abbrev TS:=Ends->St->Hp->Prop
def EP (X:Cx) (pins:List (Addr×Obj)) (σ:St) (Q:VK) (u:Value) (s':Shared):Prop:=∃v H',Inv X pins σ H' s'∧RelV v u∧Q v H'
def TP (X:Cx) (pins:List (Addr×Obj)) (σ:St) (Q:Bool->Hp->Prop) (b:Bool) (s':Shared):Prop:=∃H',Inv X pins σ H' s'∧Q b H'
def AP (X:Cx) (pins:List (Addr×Obj)) (σ:St) (Q:List V->Hp->Prop) (us:List Value) (s':Shared):Prop:=∃vs H',Inv X pins σ H' s'∧Vals vs us∧Q vs H'
def SP (X:Cx) (pins:List (Addr×Obj)) (D:Ends) (f:Flow) (s':Shared):Prop :=
 match f with
 |.next=>∃σ' H',Inv X pins σ' H' s'∧D.nx σ' H'
 |.brk=>∃σ' H',Inv X pins σ' H' s'∧D.bk σ' H'
 |.cont=>∃σ' H',Inv X pins σ' H' s'∧D.ct σ' H'
 |.ret u=>∃v σ' H',Inv X pins σ' H' s'∧RelV v u∧D.rt v H'
def PE (X:Cx) (e:Expr) (t:TE):Prop :=
 ∀(pins:List (Addr×Obj)) (s:Shared) (σ:St) (H:Hp) (Q:VK),Inv X pins σ H s->t σ H Q->wpAny (model X.prog X.w) X.A (eval e X.env) (EP X pins σ Q) X.xe s
def PT (X:Cx) (e:Expr) (t:TT):Prop :=
 ∀(pins:List (Addr×Obj)) (s:Shared) (σ:St) (H:Hp) (Q:Bool->Hp->Prop),Inv X pins σ H s->t σ H Q->wpAny (model X.prog X.w) X.A (isTrue e X.env (eval e X.env)) (TP X pins σ Q) X.xe s
def PW (X:Cx) (e:Expr) (t:TT):Prop :=
 ∀(whole:Sem Value) (pins:List (Addr×Obj)) (s:Shared) (σ:St) (H:Hp) (Q:Bool->Hp->Prop),Inv X pins σ H s->t σ H Q->wpAny (model X.prog X.w) X.A (isTrue e X.env whole) (TP X pins σ Q) X.xe s
theorem PW.pt {t:TT} (h:PW X e t):PT X e t:=h _
def PA (X:Cx) (es:List Expr) (t:TA):Prop :=
 ∀(pos:Pos) (pins:List (Addr×Obj)) (s:Shared) (σ:St) (H:Hp) (Q:List V->Hp->Prop),Inv X pins σ H s->t σ H Q->wpAny (model X.prog X.w) X.A (spliced (backTo pos (starEach es X.env))) (AP X pins σ Q) X.xe s
def PS (X:Cx) (st:Stmt) (t:TS):Prop :=
 ∀(pins:List (Addr×Obj)) (s:Shared) (σ:St) (H:Hp) (D:Ends),Inv X pins σ H s->t D σ H->wpAny (model X.prog X.w) X.A (exec st X.env) (SP X pins D) X.xe s
def PSs (X:Cx) (st:List Stmt) (t:TS):Prop :=
 ∀(pins:List (Addr×Obj)) (s:Shared) (σ:St) (H:Hp) (D:Ends),Inv X pins σ H s->t D σ H->wpAny (model X.prog X.w) X.A (execs st X.env) (SP X pins D) X.xe s
theorem Zq {α:Type} {t:Sem α} {Q Q':α->Shared->Prop} (h:wpAny M A t Q E s) (hQ:∀a s,Q a s->Q' a s):wpAny M A t Q' E s:=Q4 h hQ fun _ _ x=>x
section
def XG (i:Nat):TE:=fun σ H Q=>∃v,σ[i]?=some (some v)∧Q v H
def tC (v:V):TE:=fun _ H Q=>Q v H
theorem Zdk {x:Str} (hN:X.N[i]?=some x) (hv:JF X.env.scope x) (hd:(x==("__debug__": Str))=false:=by decide) (hcd:(x==("__classdict__": Str))=false:=by decide):PE X (.Name x pos) (XG i):=by
 intro pins s σ H Q I h;obtain ⟨v,e,h⟩:=h;obtain ⟨m,hn,hl⟩:=I.loc;obtain ⟨u,r,l⟩:=hl i x v hN e hv;have fin:EP X pins σ Q u s:=⟨v,H,I,r,h⟩;rcases l with ⟨hk,hm⟩|⟨hk,c,hc,hcell⟩
 ·exact Ry (GF I.ok.kind hk hn hm fin) hd
 ·rcases hk with hk|hk
  ·exact Ry (wpAny_loadName_cell I.ok.kind hk hc hcell fin) hd
  ·exact Ry (Nd I.ok.kind hk hc hcell fin hcd) hd
theorem Zh {i j pos}:PE X (.Constant (.int i) j pos) (tC (.int i)):=fun _ _ _ H _ I h=>wpAny_Constant_int ⟨.int i,H,I.tok _,⟨_,rfl⟩,h⟩
theorem Xu {b j pos}:PE X (.Constant (.bool b) j pos) (tC (.bl b)):=fun _ _ _ H _ I h=>Constant_bool ⟨.bl b,H,I,rfl,h⟩
theorem Uo {j pos}:PE X (.Constant .none j pos) (tC .non):=fun _ _ _ H _ I h=>Constant_none ⟨.non,H,I,rfl,h⟩
theorem Zk {x j pos}:PE X (.Constant (.str x) j pos) (tC (.str x)):=fun _ _ _ H _ I h=>Calls.Constant_str ⟨.str x,H,I.tok _,⟨_,rfl⟩,h⟩
def Gl (X:Cx) (x:Str):Prop:=X.env.kindOf x=some .globalImplicit
theorem Zaf {x:Str} (I:Inv X pins σ H s) (hg:Gl X x) (hm:X.mg x=some u) (h:Q u s)
 (hd:(x==("__debug__": Str))=false:=by decide):wpAny (model X.prog X.w) X.A (eval (.Name x pos) X.env) Q E s :=
 Nf I.ok.kind hg (Calls.loadGlobal_global (by rw [I.ok.glob];exact I.mod.glob.keeps I.bk) hm h) hd
theorem Ub {x:Str} (I:Inv X pins σ H s) (hg:Gl X x) (hm:X.mg x=none) (hv:bootBuiltins x=some u) (h:Q u s)
 (hn:x≠"__name__":=by decide) (hd:(x==("__debug__": Str))=false:=by decide):wpAny (model X.prog X.w) X.A (eval (.Name x pos) X.env) Q E s:=by
 obtain ⟨mb,h1,h2⟩:=I.mod.blt;exact Nf I.ok.kind hg (Calls.loadGlobal_builtin (by rw [I.ok.glob];exact I.mod.glob.keeps I.bk) hm (by rw [I.ok.blt];exact h1.keeps I.bk) ((h2 x hn).trans hv) h) hd
theorem Xs {x:Str} (hg:Gl X x) (hm:X.mg x=some u) (r:RelV v u) (hd:(x==("__debug__": Str))=false:=by decide):PE X (.Name x pos) (tC v) :=
 fun _ _ _ H _ I h=>Zaf I hg hm ⟨v,H,I,r,h⟩ hd
theorem X2 {x:Str} (hg:Gl X x) (hm:X.mg x=none) (hv:bootBuiltins x=some u) (r:RelV v u) (hn:x≠"__name__":=by decide) (hd:(x==("__debug__": Str))=false:=by decide):PE X (.Name x pos) (tC v) :=
 fun _ _ _ H _ I h=>Ub I hg hm hv ⟨v,H,I,r,h⟩ hn hd
variable {a b:Expr} {tb:TE}
def PC (X:Cx) (op:CmpOp) (a b:Expr) (t:TE):Prop :=
 ∀(pins:List (Addr×Obj)) (s:Shared) (σ:St) (H:Hp) (Q:VK),Inv X pins σ H s->t σ H Q →
  wpAny (model X.prog X.w) X.A (eval a X.env) (fun v s₁=>wpAny (model X.prog X.w) X.A (eval b X.env) (fun u s₂=>wpAny (model X.prog X.w) X.A (compareOp op v u) (EP X pins σ Q) X.xe s₂) X.xe s₁) X.xe s
def tB (t:TE):TT:=fun σ H Q=>t σ H fun x H1=>∃c,x=.bl c∧Q c H1
theorem Zf2 {t:TE} (h:PC X op a b t) (h1:behindInMarks op b=false:=by first|exact nobehind _ (by decide) (by decide)|rfl):PE X (.Compare a [op] [b] pos) t:=fun pins s σ H Q I hw=>wpAny_Compare1 (h pins s σ H Q I hw) h1
theorem U0 {t:TE} (h:PC X op a b t) (h1:behindInMarks op b=false:=by first|exact nobehind _ (by decide) (by decide)|rfl):PT X (.Compare a [op] [b] pos) (tB t):=by
 intro pins s σ H Q I hw;refine wpAny_isTrue_Compare1 (Zq (h pins s σ H _ I hw) fun v s1 h1=>Zq h1 fun u s2 h2=>Zq h2 fun c s3 ⟨x,H1,I1,r1,q1⟩=>?_) h1;obtain ⟨d,rfl,q⟩:=q1;cases r1;exact RK ⟨H1,I1,q⟩
theorem YO {t:TE} (h:PE X e t) (he:∀whole,isTrue e X.env whole=(do let v ←whole;standAt e.pos;holding [v] (truthy v)):=by intro _;rfl):PT X e (tB t):=by
 intro pins s σ H Q I hw;refine isTrue_plain (Zq (h pins s σ H _ I hw) fun v s1 ⟨x,H1,I1,r1,q1⟩=>?_) (he _);obtain ⟨d,rfl,q⟩:=q1;cases r1;exact RK ⟨H1,I1,q⟩
variable {tA tB':TT} {rest:List Expr}
def Zl1 (t u:TT):TT:=fun σ H Q=>t σ H fun c H1=>if c=true then u σ H1 Q else Q false H1
def tOr (t u:TT):TT:=fun σ H Q=>t σ H fun c H1=>if c=true then Q true H1 else u σ H1 Q
def Zpq (t:TT):TT:=fun σ H Q=>t σ H fun c H1=>Q (!c) H1
theorem Vb (ha:PT X a tA):PW X (.BoolOp .And [a] pos) tA:=by
 intro wh pins s σ H Q I h;refine isTrue_and (Zq (ha pins s σ H Q I h) fun c s1 e=>?_);cases c with
 |true=>exact isTrue_and_nil e
 |false=>exact e
theorem W0 (ha:PT X a tA):PW X (.BoolOp .Or [a] pos) tA:=by
 intro wh pins s σ H Q I h;refine isTrue_or (Zq (ha pins s σ H Q I h) fun c s1 e=>?_);cases c with
 |false=>exact isTrue_or_nil e
 |true=>exact e
theorem Vc (ha:PT X a tA) (hb:PW X (.BoolOp .And (b::rest) pos) tB'):PW X (.BoolOp .And (a::b::rest) pos) (Zl1 tA tB'):=by
 intro wh pins s σ H Q I h;refine isTrue_and (Zq (ha pins s σ H _ I h) fun c s1 ⟨H1,I1,q1⟩=>?_);cases c with
 |true=>exact hb wh pins s1 σ H1 Q I1 q1
 |false=>exact ⟨H1,I1,q1⟩
theorem Xy (ha:PT X a tA) (hb:PW X (.BoolOp .Or (b::rest) pos) tB'):PW X (.BoolOp .Or (a::b::rest) pos) (tOr tA tB'):=by
 intro wh pins s σ H Q I h;refine isTrue_or (Zq (ha pins s σ H _ I h) fun c s1 ⟨H1,I1,q1⟩=>?_);cases c with
 |true=>exact ⟨H1,I1,q1⟩
 |false=>exact hb wh pins s1 σ H1 Q I1 q1
theorem XB (ha:PT X a tA):PT X (.UnaryOp .Not a pos) (Zpq tA):=by
 intro pins s σ H Q I h;exact isTrue_not (ha pins s σ H (fun c H1=>Q (!c) H1) I h)
def Zn7 (ta tb:TE):TE:=fun σ H Q=>ta σ H fun x H1=>∃c,x=.bl c∧if c=true then tb σ H1 Q else Q (.bl false) H1
def Znj (ta tb:TE):TE:=fun σ H Q=>ta σ H fun x H1=>∃c,x=.bl c∧if c=true then Q (.bl true) H1 else tb σ H1 Q
def Zkv (ta:TE):TE:=fun σ H Q=>ta σ H fun x H1=>∃c,x=.bl c∧Q (.bl (!c)) H1
theorem XJ {op} {t:TE} (h:PE X a t):PE X (.BoolOp op [a] pos) t:=fun pins s σ H Q I hw=>BoolOp_one (h pins s σ H Q I hw)
theorem X1 (ha:PE X a ta) (hb:PE X (.BoolOp .And (b::rest) pos) tb):PE X (.BoolOp .And (a::b::rest) pos) (Zn7 ta tb):=by
 intro pins s σ H Q I h;refine BoolOp_and (Zq (ha pins s σ H _ I h) fun v s1 ⟨x,H1,I1,r1,q1⟩=>?_);obtain ⟨c,rfl,q1⟩:=q1;cases r1;refine RK ?_;cases c with
 |true=>exact hb pins s1 σ H1 Q I1 q1
 |false=>exact ⟨.bl false,H1,I1,rfl,q1⟩
theorem ZbV (ha:PE X a ta) (hb:PE X (.BoolOp .Or (b::rest) pos) tb):PE X (.BoolOp .Or (a::b::rest) pos) (Znj ta tb):=by
 intro pins s σ H Q I h;refine BoolOp_or (Zq (ha pins s σ H _ I h) fun v s1 ⟨x,H1,I1,r1,q1⟩=>?_);obtain ⟨c,rfl,q1⟩:=q1;cases r1;refine RK ?_;cases c with
 |false=>exact hb pins s1 σ H1 Q I1 q1
 |true=>exact ⟨.bl true,H1,I1,rfl,q1⟩
theorem Zmf (ha:PE X a ta):PE X (.UnaryOp .Not a pos) (Zkv ta):=by
 intro pins s σ H Q I h;refine UnaryOp_ (Zq (ha pins s σ H _ I h) fun v s1 ⟨x,H1,I1,r1,q1⟩=>?_);obtain ⟨c,rfl,q1⟩:=q1;cases r1;exact not_of (RK ⟨.bl (!c),H1,I1,rfl,q1⟩)
def tIf (t:TT) (ta tb:TE):TE:=fun σ H Q=>t σ H fun c H1=>if c=true then ta σ H1 Q else tb σ H1 Q
theorem ZjC (hc:PT X c tA) (ha:PE X a ta) (hb:PE X b tb):PE X (.IfExp c a b pos) (tIf tA ta tb):=by
 intro pins s σ H Q I h;refine wpAny_IfExp (Zq (hc pins s σ H _ I h) fun d s1 ⟨H1,I1,q1⟩=>?_);cases d with
 |true=>exact ha pins s1 σ H1 Q I1 q1
 |false=>exact hb pins s1 σ H1 Q I1 q1
end
def SqL (K:W.Frag) (H:Hp) (a:Addr) (xs:List V):Prop :=
 Rd H a (.lst xs) ∨
  ∃(o:Obj) (its:Array Value) (n:Nat),K.lookup a=some o∧o.cls=.type "list"∧o.dict=none∧o.data=.seq its n∧its.size≤sizeLine∧Vals xs its.toList
def SqT (K:W.Frag) (H:Hp) (a:Addr) (xs:List V):Prop :=
 Rd H a (.tup xs) ∨
  ∃(o:Obj) (its:Array Value) (n:Nat),K.lookup a=some o∧o.cls=.type "tuple"∧o.data=.seq its n∧its.size≤sizeLine∧Vals xs its.toList
noncomputable def Zmh:Value->Option V
 |.none=>some .non
 |.bool b=>some (.bl b)
 |.int i _=>some (.int i)
 |.str x _=>some (.str x)
 |.bytes b _=>some (.byt b)
 |.float b _=>some (.flt b)
 |.ref a=>some (.ref a)
 |.type n=>some (.ty n)
 |_=>none
theorem RelV.abs {x:V} (r:RelV x u):Zmh u=some x:=by
 cases x with
 |non=>cases r;rfl
 |bl _=>cases r;rfl
 |int _=>obtain ⟨t,rfl⟩:=r;rfl
 |str _=>obtain ⟨t,rfl⟩:=r;rfl
 |byt _=>obtain ⟨t,rfl⟩:=r;rfl
 |flt _=>obtain ⟨t,rfl⟩:=r;rfl
 |ref _=>cases r;rfl
 |ty _=>cases r;rfl
theorem RelV.inj {x:V} (r:RelV x u) (q:RelV y u):x=y:=Qj (r.abs.symm.trans q.abs)
theorem Vals.inj:∀{xs ys:List V} {us:List Value},Vals xs us->Vals ys us->xs=ys
 |_,_,_,.nil,.nil=>rfl
 |_,_,_,.cons r t,.cons r' t'=>by rw [r.inj r',Vals.inj t t']
section
variable {ys:List V}
theorem SqL.of (h:H a=some (.lst xs)):SqL K H a xs:=.inl (.inl h)
theorem SqT.of (h:H a=some (.tup xs)):SqT K H a xs:=.inl (.inl h)
theorem Inv.list (I:Inv X pins σ H s) (h:SqL X.K H a xs):∃its:List Value,Vals xs its∧PlainL s.heap a its.toArray∧xs.length≤sizeLine:=by
 rcases h with h|⟨o,its,n,hk,hc,hd,hs,hz,r⟩
 ·obtain ⟨z,its,n,r,e⟩:=h.ok I.hok;exact ⟨its,r,⟨_,n,e,rfl,rfl,rfl⟩,z⟩
 ·refine ⟨its.toList,r,⟨o,n,I.kIn a o hk,hc,hd,by simpa using hs⟩,?_⟩;have e:=r.length;simp only [R3] at e;omega
theorem Inv.tuple (I:Inv X pins σ H s) (h:SqT X.K H a xs):∃its:List Value,Vals xs its∧IsTup s.heap a its.toArray∧xs.length≤sizeLine:=by
 rcases h with h|⟨o,its,n,hk,hc,hs,hz,r⟩
 ·obtain ⟨z,its,r,p⟩:=h.ok I.hok;exact ⟨its,r,p,z⟩
 ·refine ⟨its.toList,r,⟨o,I.kIn a o hk,hc,n,by simpa using hs⟩,?_⟩;have e:=r.length;simp only [R3] at e;omega
theorem Inv.list_inj (I:Inv X pins σ H s) (h:SqL X.K H a xs) (h':SqL X.K H a ys):xs=ys:=by
 obtain ⟨its,r,⟨o,n,e,_,_,d⟩,_⟩:=I.list h;obtain ⟨its',r',⟨o',n',e',_,_,d'⟩,_⟩:=I.list h';rw [e] at e';cases e';rw [d] at d';injection d' with d1 _;have:its=its':=by simpa using QB Array.toList d1
 subst this;exact r.inj r'
theorem Inv.tuple_inj (I:Inv X pins σ H s) (h:SqT X.K H a xs) (h':SqT X.K H a ys):xs=ys:=by
 obtain ⟨its,r,⟨o,e,_,n,d⟩,_⟩:=I.tuple h;obtain ⟨its',r',⟨o',e',_,n',d'⟩,_⟩:=I.tuple h';rw [e] at e';cases e';rw [d] at d';injection d' with d1 _;have:its=its':=by simpa using QB Array.toList d1
 subst this;exact r.inj r'
end
section
variable {st:Stmt} {rest:List Stmt} {t u:TS}
def Zbb:TS:=fun D σ H=>D.nx σ H
def J8 (t u:TS):TS:=fun D σ H=>t { D with nx:=u D } σ H
theorem ZV:PSs X [] Zbb:=fun _ _ σ H _ I h=>wpAny_execs_nil ⟨σ,H,I,h⟩
theorem Zm (h1:PS X st t) (h2:PSs X rest u):PSs X (st::rest) (J8 t u):=by
 intro pins s σ H D I h;refine wpAny_execs_cons (Zq (h1 pins s σ H { D with nx:=u D } I h) fun f s1 q=>?_);cases f with
 |next =>
  obtain ⟨σ',H',I',q⟩:=q;exact h2 pins s1 σ' H' D I' q
 |ret v=>exact q
 |brk=>exact q
 |cont=>exact q
theorem Zi (h1:PS X st t):PSs X [st] t:=by
 intro pins s σ H D I h;refine wpAny_execs_cons (Zq (h1 pins s σ H D I h) fun f s1 q=>?_);cases f with
 |next=>exact wpAny_execs_nil q
 |ret v=>exact q
 |brk=>exact q
 |cont=>exact q
theorem Inv.quiet (I:Inv X pins σ H s):interactive X.env=false:=by simp [interactive,I.ok.kind]
def ZoL (te:TE):TS:=fun D σ H=>te σ H fun _ H1=>D.nx σ H1
theorem Z9 (he:PE X e te) (hs:swapsWith e none pos.line X.env=pure false:=by rfl):PS X (.Expr e pos) (ZoL te):=by
 intro pins s σ H D I h;exact wpAny_Expr_any (Zq (he pins s σ H _ I h) fun v s1 ⟨x,H1,I1,r1,q1⟩=>⟨σ,H1,I1,q1⟩) I.quiet hs
def Zg8 (te:TE):TS:=fun D σ H=>te σ H D.rt
theorem Zx (he:PE X e te):PS X (.Return (some e) pos) (Zg8 te):=by
 intro pins s σ H D I h;exact wpAny_Return_some (Zq (he pins s σ H _ I h) fun v s1 ⟨x,H1,I1,r1,q1⟩=>⟨x,σ,H1,I1,r1,q1⟩)
def Zpc (c:TT) (t u:TS):TS:=fun D σ H=>c σ H fun b H1=>if b=true then t D σ H1 else u D σ H1
theorem ZJ {a b:List Stmt} {tc:TT} (hc:PT X c tc) (ha:PSs X a t) (hb:PSs X b u):PS X (.If c a b pos) (Zpc tc t u):=by
 intro pins s σ H D I h;refine wpAny_If (Zq (hc pins s σ H _ I h) fun d s1 ⟨H1,I1,q1⟩=>?_);cases d with
 |true=>exact ha pins s1 σ H1 D I1 q1
 |false=>exact hb pins s1 σ H1 D I1 q1
end
abbrev TG:=V->St->Hp->(St->Hp->Prop)->Prop
abbrev VM:=List V->St->Hp->(St->Hp->Prop)->Prop
def PG (X:Cx) (target:Expr) (t:TG):Prop :=
 ∀(pins:List (Addr×Obj)) (s:Shared) (σ:St) (H:Hp) (v:V) (u:Value) (Q:St->Hp->Prop),Inv X pins σ H s->RelV v u->t v σ H Q →
  wpAny (model X.prog X.w) X.A (assign target X.env u) (fun _ s'=>∃σ' H',Inv X pins σ' H' s'∧Q σ' H') X.xe s
def PGs (X:Cx) (ts:List Expr) (t:VM):Prop :=
 ∀(pins:List (Addr×Obj)) (s:Shared) (σ:St) (H:Hp) (vs:List V) (us:List Value) (Q:St->Hp->Prop),Inv X pins σ H s->Vals vs us->t vs σ H Q →
  wpAny (model X.prog X.w) X.A (assignInOrder ((assignEach ts X.env).map (·.2)) us) (fun _ s'=>∃σ' H',Inv X pins σ' H' s'∧Q σ' H') X.xe s
abbrev Zdm:=V->V->V->Hp->(Hp->Prop)->Prop
def ZhZ (X:Cx) (t:Zdm):Prop :=
 ∀(pins:List (Addr×Obj)) (s:Shared) (σ:St) (H:Hp) (o i v:V) (ov iv u:Value) (Q:Hp->Prop),Inv X pins σ H s->RelV o ov->RelV i iv->RelV v u->t o i v H Q →
  wpAny (model X.prog X.w) X.A (setItem ov iv u) (fun _ s'=>∃H',Inv X pins σ H' s'∧Q H') X.xe s
def ZM (i:Nat):TG:=fun v σ H Q=>Q (σ.set i (some v)) H
theorem ZR {x:Str} (hN:X.N.Nodup) (hi:X.N[i]?=some x) (hx:J6 X.env.scope x) (hf:X.fn x=true∨X.env.scope.names.lookup x=some .local:=by first|exact .inl rfl|exact .inr rfl|assumption):PG X (.Name x pos) (ZM i):=by
 intro pins s σ H v u Q I r h;exact wpAny_assign_Name (Zhx I hN hi hx r (fun s' I'=>⟨_,H,I',h⟩) hf)
noncomputable def ZcV:VM:=fun vs σ H Q=>vs=[]∧Q σ H
noncomputable def JH (t:TG) (u:VM):VM:=fun vs σ H Q=>∃v r,vs=v::r∧t v σ H fun σ' H'=>u r σ' H' Q
theorem X7:PGs X [] ZcV:=by
 intro pins s σ H vs us Q I r h;obtain ⟨e,h⟩:=h;subst e;cases r;exact assignInOrder_nil ⟨σ,H,I,h⟩
theorem Yx {t:TG} {u:VM} (h1:PG X e t) (h2:PGs X es u)
 (hs:(assignEach (e::es) X.env).map (·.2)=assign e X.env::(assignEach es X.env).map (·.2):=by rfl):PGs X (e::es) (JH t u):=by
 intro pins s σ H vs us Q I r h;obtain ⟨v,vr,e1,h⟩:=h;subst e1;cases r with
 |cons r rr =>
  rw [hs];refine assignInOrder_cons (Zq (h1 pins s σ H _ _ _ I r h) fun _ s1 ⟨σ1,H1,I1,q1⟩=>?_);exact h2 pins s1 σ1 H1 _ _ Q I1 rr q1
def Zay (K:W.Frag) (n:Nat) (t:VM):TG:=fun v σ H Q=>∃a xs,v=.ref a∧SqT K H a xs∧xs.length=n∧t xs σ H Q
theorem Vv {k:Nat} {t:VM} (hc:X.calm=true) (h:PGs X es t)
 (hn:(assignEach es X.env).length=n:=by rfl) (hst:(assignEach es X.env).findIdx? (·.1)=none:=by rfl):PG X (.Tuple es k pos) (Zay X.K n t):=by
 intro pins s σ H v u Q I r hw;obtain ⟨a,xs,e1,hq,hl,hw⟩:=hw;subst e1;cases r;obtain ⟨its,rv,ht,hz⟩:=I.tuple hq;refine assign_Tuple_tuple (I.ok.hd hc) ht (by simp [hn,←hl,rv.length]) hst fun h' hx=>?_;have I1:Inv X pins σ H { s with heap:=h' }:=I.kept (t':=s.toks) fun b o e=>hx b o (QA (Qi e)) e;exact h pins _ σ H xs _ Q I1 (by simpa using rv) hw
def ZoJ (to ti:TE) (t:Zdm):TG:=fun v σ H Q=>to σ H fun o H1=>ti σ H1 fun i H2=>t o i v H2 fun H3=>Q σ H3
theorem Zne {o i:Expr} {to ti:TE} {t:Zdm} (ho:PE X o to) (hi:PE X i ti) (hs:ZhZ X t)
 (ha:∀v,assign (.Subscript o i pos) X.env v=(do
 let ov ←holding [v] (eval o X.env)
 let iv ←holding [v,ov] (eval i X.env)
 standAt pos
 holding [v,ov,iv] (setItem ov iv v)
 release [v,ov,iv] []):=by intro _;rfl):PG X (.Subscript o i pos) (ZoJ to ti t):=by
 intro pins s σ H v u Q I r h;rw [ha];refine Qd (Rm (Zq (ho pins s σ H _ I h) fun ov s1 ⟨x,H1,I1,r1,q1⟩=>?_));refine Qd (Rm (Zq (hi pins s1 σ H1 _ I1 q1) fun iv s2 ⟨y,H2,I2,r2,q2⟩=>?_));refine Qd (wpAny_standAt (Qd (Rm (Zq (hs pins s2 σ H2 x y v ov iv u _ I2 r1 r2 r q2) fun _ s3 ⟨H3,I3,q3⟩=>?_))));exact wpAny_release ⟨σ,H3,I3,q3⟩
def JK (te:TE) (g:TG):TS:=fun D σ H=>te σ H fun x H1=>g x σ H1 D.nx
theorem Ziz {g:TG} (he:PE X e te) (hg:PG X tg g) (hs:swapsWithSole [tg] e pos.line X.env=pure false:=by rfl) (hw:swappedStores [tg] e X.env=pure none:=by rfl)
 (h1:(assignEach [tg] X.env).map (·.2)=[assign tg X.env]:=by rfl):PS X (.Assign [tg] e pos) (JK te g):=by
 intro pins s σ H D I h;refine wpAny_Assign_stores (Zq (he pins s σ H _ I h) fun v s1 ⟨x,H1,I1,r1,q1⟩=>?_) hs hw;rw [h1];exact Zq (hg pins s1 σ H1 x v _ I1 r1 q1) fun _ s2 q=>q
theorem ZP {x:Str} {pos':Pos} (hN:X.N.Nodup) (hi:X.N[i]?=some x) (hx:J6 X.env.scope x) (he:PE X e te) (hs:swapsWith e (some (.Name x pos')) pos.line X.env=pure false:=by rfl) (hf:X.fn x=true∨X.env.scope.names.lookup x=some .local:=by first|exact .inl rfl|exact .inr rfl|assumption) :
  PS X (.Assign [.Name x pos'] e pos) (JK te (ZM i)):=by
 intro pins s σ H D I h;refine wpAny_Assign_Name (Zq (he pins s σ H _ I h) fun v s1 ⟨y,H1,I1,r1,q1⟩=>?_) hs;exact Zhx I1 hN hi hx r1 (fun s2 I2=>⟨_,H1,I2,q1⟩) hf
structure It where
 go:Nat->Hp->Prop
 yld:Nat->Hp->V->Hp->Prop
 stop:Nat->Hp->Prop
def XZ (X:Cx) (pins:List (Addr×Obj)) (H:Hp) (b:Addr):Prop :=
 H b=none∧b≠X.env.locals∧b∉X.fs∧(b∈X.ex∨X.s₀.heap.objs.size≤b)∧(∀x c,X.env.cells.lookup x=some c->c≠b)∧∀p∈X.pn++pins,p.1≠b
theorem Inv.fpOk (I:Inv X pins σ H s) (hb:s.heap.objs.size≤b) (hn:H' b=none):XZ X pins H' b:=by
 refine ⟨hn,Rs (Qm I.lt hb),I.nofs hb,.inr (Qn I.sz hb),fun x c e z=>?_,fun p hp z=>?_⟩
 ·obtain ⟨v,q⟩:=I.cell x c e;exact absurd (Qm q.lt (by rw [z];exact hb)) (QD _)
 ·exact absurd (Qm (Qi (I.pin p hp).1) (by rw [z];exact hb)) (QD _)
structure Turn (P:Program) (w:World) (K:W.Frag) (tg:Expr) (J:It) (fp:List Addr) (it:Addr) (tn:Nat->Heap->Prop):Prop where
 mem:it∈fp
 obj:∀i h,tn i h->∀b∈fp,∃o,h.get? b=some o∧∀v,o.data≠.cell v
 keep:∀i h h',tn i h->(∀b∈fp,∀o,h.get? b=some o->h'.get? b=some o)->tn i h'
 item:∀(X:Cx),X.prog=P->X.w=w->X.K=K->X.calm=true->∀(i:Nat) (pins:List (Addr×Obj)) (s:Shared) (σ:St) (H:Hp) (E:Value->Shared->Prop),Inv X pins σ H s->(∀b∈fp,XZ X pins H b)->tn i s.heap->J.go i H →
  wpAny (model P w) X.A (pyNext (.ref it)) (fun r s1=>∃u,r=some u ∧
   wpAny (model P w) X.A (letOwnedTupleGo tg (.ref it) u) (fun _ s2=>∃x H',Inv X pins σ H' s2∧RelV x u∧J.yld i H x H'∧tn (i+1) s2.heap∧∀b∈fp,H' b=none) E s1) E s
 done:∀(X:Cx),X.prog=P->X.w=w->X.K=K->X.calm=true->∀(i:Nat) (pins:List (Addr×Obj)) (s:Shared) (σ:St) (H:Hp) (E:Value->Shared->Prop),Inv X pins σ H s->(∀b∈fp,XZ X pins H b)->tn i s.heap->J.stop i H →
  wpAny (model P w) X.A (pyNext (.ref it)) (fun r s1=>r=none∧Inv X pins σ H s1) E s
 self:∀(A:Around) (i:Nat) (s:Shared) (Q:Value->Shared->Prop) (E:Value->Shared->Prop),tn i s.heap->Q (.ref it) s->wpAny (model P w) A (pyIter (.ref it)) Q E s
abbrev TI:=St->Hp->(It->Hp->Prop)->Prop
def PIE (X:Cx) (pins:List (Addr×Obj)) (σ:St) (tg:Expr) (R:It->Hp->Prop) (itv:Value) (s2:Shared):Prop :=
 ∃(it:Addr) (fp:List Addr) (tn:Nat->Heap->Prop) (J:It) (H':Hp),itv=.ref it∧Inv X pins σ H' s2∧Turn X.prog X.w X.K tg J fp it tn∧tn 0 s2.heap∧(∀b∈fp,XZ X pins H' b)∧R J H'
def PI (X:Cx) (tg iter:Expr) (wi:TI):Prop :=
 ∀(pins:List (Addr×Obj)) (s:Shared) (σ:St) (H:Hp) (R:It->Hp->Prop),Inv X pins σ H s->wi σ H R →
  wpAny (model X.prog X.w) X.A (eval iter X.env) (fun v s1=>wpAny (model X.prog X.w) X.A (pyIter v) (PIE X pins σ tg R) X.xe s1) X.xe s
theorem Zbi {it:Addr} {o:Obj} {n:String} {vs:Array Value} {Q:Unit->Shared->Prop} (ho:s.heap.get? it=some o) (hc:o.cls=.type n) (hd:o.data=.fields vs)
 (hn:["enumerate","zip","dict_itemiterator","dict_reverseitemiterator","odict_iterator","itertools.zip_longest","itertools.pairwise"].contains n=false) (hQ:Q () s):wpAny M A (letOwnedTupleGo tg (.ref it) u) Q E s:=by
 unfold letOwnedTupleGo
 cases tg<;>first
  |exact Qf hQ
  | (cases u<;>first
    |exact Qf hQ
    | (refine Qd (wpAny_load ho ?_)
       rw [hc,hd];show wpAny M A (if (["enumerate","zip","dict_itemiterator","dict_reverseitemiterator","odict_iterator","itertools.zip_longest","itertools.pairwise"].contains n&&vs[0]?==some (rawInt _))=true then _ else _) Q E s;rw [Qa (by intro h;rw [hn,GG] at h;cases h)];exact Qf hQ))
noncomputable def Itl (K:W.Frag) (a:Addr):It :=
 ⟨fun i H=>∃xs x,SqL K H a xs∧xs[i]?=some x,fun i H x H'=>H'=H∧∀xs,SqL K H a xs->xs[i]?=some x,fun i H=>∃xs,SqL K H a xs∧xs.length≤i⟩
noncomputable def JJ (K:W.Frag) (a:Addr):It :=
 ⟨fun i H=>∃xs x,SqT K H a xs∧xs[i]?=some x,fun i H x H'=>H'=H∧∀xs,SqT K H a xs->xs[i]?=some x,fun i H=>∃xs,SqT K H a xs∧xs.length≤i⟩
noncomputable def Ju (lo:Int) (n:Nat):It:=⟨fun i _=>i<n,fun i H x H'=>H'=H∧x=.int (lo+i),fun i _=>n≤i⟩
theorem Zo5 {w:World} (a it:Addr):Turn P w K tg (Itl K a) [it] it (fun i h=>h.IsListIter it a i) where
 mem:=by simp
 obj:=fun i h st b hb=>by
  have e:b=it:=by simpa using hb
  subst e;obtain ⟨o,e,c,d⟩:=st;exact ⟨o,e,fun v z=>by rw [d] at z;cases z⟩
 keep:=fun i h h' st k=>st.at fun o e=>k it (by simp) o e
 item:=by
  intro X hP hw hK hc i pins s σ H E I hf st hg;subst hP hw hK;obtain ⟨xs,x,hq,hx⟩:=hg;obtain ⟨its,rv,p,hz⟩:=I.list hq;obtain ⟨u,hu,ru⟩:=rv.get hx;obtain ⟨f0,f1,f2,f3,f4,f5⟩:=hf it (by simp);refine wpAny_pyNext_list_item st p.isList (x:=u) (by simpa using hu) fun h' st' sb=>?_;have I1:Inv X pins σ H { s with heap:=h' }:=I.turned (t':=s.toks) (fun b o hb e=>(sb.2 b hb).trans e) f0 f1 f3 f4 f5;obtain ⟨o,e,c,d⟩:=id st';exact ⟨u,rfl,Zbi (s:={ s with heap:=h' }) e c d (by decide) ⟨x,H,I1,ru,⟨rfl,fun ys hy=>by rw [I.list_inj hy hq];exact hx⟩,st',fun b hb=>(hf b hb).1⟩⟩
 done:=by
  intro X hP hw hK hc i pins s σ H E I hf st hg;subst hP hw hK;obtain ⟨xs,hq,hx⟩:=hg;obtain ⟨its,rv,p,hz⟩:=I.list hq;obtain ⟨f0,f1,f2,f3,f4,f5⟩:=hf it (by simp);have hl:=rv.length;exact wpAny_pyNext_list_end (I.ok.hd hc) st p.isList (by simp;omega) fun h' eb=>⟨rfl,I.turned (t':=s.toks) (fun b o hb e=>eb b o hb e) f0 f1 f3 f4 f5⟩
 self:=fun _ _ _ _ _ st h=>wpAny_pyIter_listiter st h
theorem Zkk {w:World} (a it:Addr):Turn P w K tg (JJ K a) [it] it (fun i h=>h.IsTupleIter it a i) where
 mem:=by simp
 obj:=fun i h st b hb=>by
  have e:b=it:=by simpa using hb
  subst e;obtain ⟨o,e,c,d⟩:=st;exact ⟨o,e,fun v z=>by rw [d] at z;cases z⟩
 keep:=fun i h h' st k=>st.at fun o e=>k it (by simp) o e
 item:=by
  intro X hP hw hK hc i pins s σ H E I hf st hg;subst hP hw hK;obtain ⟨xs,x,hq,hx⟩:=hg;obtain ⟨its,rv,p,hz⟩:=I.tuple hq;obtain ⟨u,hu,ru⟩:=rv.get hx;obtain ⟨f0,f1,f2,f3,f4,f5⟩:=hf it (by simp);refine wpAny_pyNext_tuple_item st (show s.heap.IsTuple a its.toArray from p) (x:=u) (by simpa using hu) fun h' st' sb=>?_;have I1:Inv X pins σ H { s with heap:=h' }:=I.turned (t':=s.toks) (fun b o hb e=>(sb.2 b hb).trans e) f0 f1 f3 f4 f5;obtain ⟨o,e,c,d⟩:=id st';exact ⟨u,rfl,Zbi (s:={ s with heap:=h' }) e c d (by decide) ⟨x,H,I1,ru,⟨rfl,fun ys hy=>by rw [I.tuple_inj hy hq];exact hx⟩,st',fun b hb=>(hf b hb).1⟩⟩
 done:=by
  intro X hP hw hK hc i pins s σ H E I hf st hg;subst hP hw hK;obtain ⟨xs,hq,hx⟩:=hg;obtain ⟨its,rv,p,hz⟩:=I.tuple hq;obtain ⟨f0,f1,f2,f3,f4,f5⟩:=hf it (by simp);have hl:=rv.length;exact wpAny_pyNext_tuple_end (I.ok.hd hc) st (show s.heap.IsTuple a its.toArray from p) (by simp;omega) fun h' eb=>⟨rfl,I.turned (t':=s.toks) (fun b o hb e=>eb b o hb e) f0 f1 f3 f4 f5⟩
 self:=fun _ _ _ _ _ st h=>wpAny_pyIter_tupleiter st h
theorem ZoQ {w:World} {K:PySem.W.Frag} (it:Addr) (lo:Int) (n:Nat):Turn P w K tg (Ju lo n) [it] it (fun i h=>IsRangeIter h it (lo+(i:Nat)*1) ((n:Int)-(i:Nat)) 1) where
 mem:=by simp
 obj:=fun i h st b hb=>by
  have e:b=it:=by simpa using hb
  subst e
  exact ⟨_,st,fun v z=>by
   have z':Data.fields _=Data.cell v:=z;cases z'⟩
 keep:=fun i h h' st k=>k it (by simp) _ st
 item:=by
  intro X hP hw hK hc i pins s σ H E I hf st hg;subst hP hw hK;obtain ⟨f0,f1,f2,f3,f4,f5⟩:=hf it (by simp);have W:=Walks.range (prog:=X.prog) (w:=X.w) (I.ok.hd hc) it lo 1 n;refine W.item i s _ _ hg st fun v h' tk hv st' kk=>?_;obtain ⟨t,rfl⟩:=hv;have I1:Inv X pins σ H { s with heap:=h',toks:=tk }:=I.turned (fun b o hb e=>kk b o (by simpa using hb) e) f0 f1 f3 f4 f5;refine ⟨_,rfl,Zbi (s:={ s with heap:=h',toks:=tk }) (n:="range_iterator") st' rfl rfl (by decide) ⟨.int (lo+i),H,I1,⟨t,?_⟩,⟨rfl,rfl⟩,st',fun b hb=>(hf b hb).1⟩⟩;rw [Int.mul_one]
 done:=by
  intro X hP hw hK hc i pins s σ H E I hf st hg;subst hP hw hK;obtain ⟨f0,f1,f2,f3,f4,f5⟩:=hf it (by simp);exact wpAny_pyNext_range_end (I.ok.hd hc) st (by have:n≤i:=hg;omega) fun h' eb=>⟨rfl,I.turned (t':=s.toks) (fun b o hb e=>eb b o hb e) f0 f1 f3 f4 f5⟩
 self:=fun _ _ _ _ _ st h=>wpAny_pyIter_rangeiter st h
def Zel (K:W.Frag) (tl:TE):TI:=fun σ H R=>tl σ H fun x H1=>∃a,x=.ref a∧(∃xs,SqL K H1 a xs)∧R (Itl K a) H1
def ZmK (K:W.Frag) (tl:TE):TI:=fun σ H R=>tl σ H fun x H1=>∃a,x=.ref a∧(∃xs,SqT K H1 a xs)∧R (JJ K a) H1
theorem Y2 {l:Expr} {tl:TE} (hl:PE X l tl):PI X tg l (Zel X.K tl):=by
 intro pins s σ H R I h;refine Zq (hl pins s σ H _ I h) fun v s1 ⟨x,H1,I1,r1,q1⟩=>?_;obtain ⟨a,e,⟨xs,hq⟩,q⟩:=q1;subst e;cases r1;obtain ⟨its,rv,p,hz⟩:=I1.list hq;refine wpAny_pyIter_list p.isList ?_;refine ⟨s1.heap.objs.size,[s1.heap.objs.size],_,_,H1,rfl,I1.kept (t':=s1.toks) fun b o e=>Qk _ e,Zo5 a _,⟨_,Qw _ rfl,rfl,rfl⟩,fun b hb=>?_,q⟩;have e:b=s1.heap.objs.size:=by simpa using hb
 subst e;exact I1.fpOk (Qe _) (I1.hok.fresh (Qe _))
theorem VR {l:Expr} {tl:TE} (hl:PE X l tl):PI X tg l (ZmK X.K tl):=by
 intro pins s σ H R I h;refine Zq (hl pins s σ H _ I h) fun v s1 ⟨x,H1,I1,r1,q1⟩=>?_;obtain ⟨a,e,⟨xs,hq⟩,q⟩:=q1;subst e;cases r1;obtain ⟨its,rv,p,hz⟩:=I1.tuple hq;refine Gj (show s1.heap.IsTuple a its.toArray from p) ?_;refine ⟨s1.heap.objs.size,[s1.heap.objs.size],_,_,H1,rfl,I1.kept (t':=s1.toks) fun b o e=>Qk _ e,Zkk a _,⟨_,Qw _ rfl,rfl,rfl⟩,fun b hb=>?_,q⟩;have e:b=s1.heap.objs.size:=by simpa using hb
 subst e;exact I1.fpOk (Qe _) (I1.hok.fresh (Qe _))
theorem ZkA {R:It->Hp->Prop} {lo hi:Int} {t u v:Tok} {tk:Nat} (I:Inv X pins σ H s) (h1:-(2 ^ 62)≤lo) (h2:lo<2 ^ 62) (h3:-(2 ^ 62)≤hi) (h4:hi<2 ^ 62)
 (q:R (Ju lo (hi-lo).toNat) H):wpAny (model X.prog X.w) X.A (pyIter (.ref s.heap.objs.size)) (PIE X pins σ tg R) E { s with heap:=s.heap.push { cls:=.type "range",data:=.fields #[.int lo t,.int hi u,.int 1 v] },toks:=tk }:=by
 refine wpAny_pyIter_range (IsRange.new ..) (small_one h1 h2 h3 h4) ?_;have I1:Inv X pins σ H { s with heap:=s.heap.push { cls:=.type "range",data:=.fields #[.int lo t,.int hi u,.int 1 v] },toks:=tk }:=I.kept fun b o e=>Qk _ e
 refine ⟨(s.heap.push { cls:=.type "range",data:=.fields #[.int lo t,.int hi u,.int 1 v] }).objs.size,[(s.heap.push { cls:=.type "range",data:=.fields #[.int lo t,.int hi u,.int 1 v] }).objs.size],_,_,H,rfl,
  I1.kept (t':=tk) fun b o e=>Qk _ e,ZoQ _ lo (hi-lo).toNat,?_,fun b hb=>?_,q⟩
 ·have e1:lo+((0:Nat):Int)*1=lo:=by simp
  have e2:(((hi-lo).toNat:Nat):Int)-((0:Nat):Int)=Builtin.Range.rangeSize lo hi 1:=by rw [rangeSize_one];split<;>omega
  show IsRangeIter _ _ (lo+((0:Nat):Int)*1) ((((hi-lo).toNat:Nat):Int)-((0:Nat):Int)) 1;rw [e1,e2];exact Qw _ rfl
 ·have e:b=(s.heap.push { cls:=.type "range",data:=.fields #[.int lo t,.int hi u,.int 1 v] }).objs.size:=by simpa using hb
  subst e;exact I1.fpOk (Qe _) (I1.hok.fresh (Qe _))
def Zlj (ta:TA):TI:=fun σ H R=>ta σ H fun vs H1=>∃j:Int,vs=[.int j]∧-(2 ^ 62)≤j∧j<2 ^ 62∧R (Ju 0 j.toNat) H1
theorem ZcY {a:Expr} {ta:TA} {p:Pos} (hg:Gl X "range") (hm:X.mg "range"=none) (ha:PA X [a] ta) (hs:starEach [a] X.env=[(false,eval a X.env)]:=by rfl):PI X tg (.Call (.Name "range" p) [a] [] pos) (Zlj ta):=by
 intro pins s σ H R I h;refine Call_ (Ub I hg hm boot_range (GH (Zq (ha pos pins s σ H _ I h) fun us s1 ⟨vs,H1,I1,r1,q1⟩=>?_) hs rfl));obtain ⟨j,e,q1,q2,q⟩:=q1;subst e;cases r1 with
 |cons r rr =>
  cases rr;obtain ⟨t,rfl⟩:=r;exact call_range_1 (ZkA I1 (by omega) (by omega) q1 q2 (by simpa using q))
def Zoh (wi:TI) (g:TG) (tb:TS):TS:=fun D σ H=>wi σ H fun J H1=>∃W:Nat->Nat->St->Hp->Prop,(∃m,W 0 m σ H1)∧∀i m σ H,W i m σ H →
 (J.stop i H∧D.nx σ H)∨(J.go i H∧∃N:St->Hp->Prop,(∀σ' H',N σ' H'->∃m',m'<m∧W (i+1) m' σ' H')∧∀x H',J.yld i H x H'->g x σ H' fun σ2 H2=>tb { D with nx:=N,ct:=N,bk:=D.nx } σ2 H2)
noncomputable def JD (fp:List Addr) (h:Heap):List (Addr×Obj):=fp.filterMap fun b=>(h.get? b).map fun o=>(b,o)
theorem ZaW {o:Obj} (hb:b∈fp) (e:h.get? b=some o):(b,o)∈JD fp h:=Ra.mpr ⟨b,hb,by rw [e];rfl⟩
theorem ZjX {p:Addr×Obj} (hp:p∈JD fp h):p.1∈fp∧h.get? p.1=some p.2:=by
 obtain ⟨b,hb,e⟩:=Ra.mp hp;cases q:h.get? b with
 |none=>rw [q] at e;cases e
 |some o =>
  rw [q] at e;have e':(b,o)=p:=Qj e;subst e';exact ⟨hb,q⟩
theorem Inv.pinned (I:Inv X pins σ H s) (hf:∀b∈fp,XZ X pins H b) (ho:∀b∈fp,∃o,s.heap.get? b=some o∧∀v,o.data≠.cell v):Inv X (pins++JD fp s.heap) σ H s :=
 I.pins_of fun p hp=>(Ql.mp hp).elim (fun z=>I.pin p (QU _ z)) fun z=>by
  obtain ⟨hb,e⟩:=ZjX z;obtain ⟨f0,f1,f2,_⟩:=hf p.1 hb;obtain ⟨o,e',d⟩:=ho p.1 hb;rw [e] at e';cases e';exact ⟨e,f0,f1,f2,d⟩
theorem Inv.unpinned {pl:List (Addr×Obj)} (I:Inv X (pins++pl) σ H s):Inv X pins σ H s:=I.pins_of fun p hp=>I.pin p (QU _ (Rc _ hp))
theorem YJ {iter:Expr} {body:List Stmt} {wi:TI} {g:TG} (hp:PassesOwn (model X.prog X.w) X.A X.env X.xe) (hc:X.calm=true) (hi:PI X tg iter wi) (hg:PG X tg g) (hb:PSs X body tb)
 (hs:∀x,foldedSetIterable iter X.env x=pure x:=by intro _;rfl):PS X (.For tg iter body [] pos) (Zoh wi g tb):=by
 intro pins s σ H D I h;refine wpAny_For (Zq (hi pins s σ H _ I h) fun v s1 h1=>Zq h1 fun itv s2 h2=>?_) hs;obtain ⟨it,fp,tn,J,H2,e,I2,T,st2,f2,W,⟨m0,w0⟩,turn⟩:=h2;subst e;have stat:∀{H':Hp},(∀b∈fp,H' b=none)->∀b∈fp,XZ X pins H' b:=fun hn b hb=>⟨hn b hb,(f2 b hb).2⟩;refine codeAny_forLoop_any (fun n s'=>∃i σ' H',Inv X pins σ' H' s'∧tn i s'.heap∧(∀b∈fp,H' b=none)∧W i n σ' H') ?_ m0 ⟨0,σ,H2,I2,st2,fun b hb=>(f2 b hb).1,w0⟩;rintro n s3 ⟨i,σ3,H3,I3,st3,fr3,w3⟩;rcases turn i n σ3 H3 w3 with ⟨stop,qn⟩|⟨go,N,hN,step⟩
 ·refine Gk hp (Zq (T.done X rfl rfl rfl hc i pins s3 σ3 H3 X.xe I3 (stat fr3) st3 stop) fun r s4 ⟨hr,I4⟩=>?_);subst hr;exact wpAny_execs_nil ⟨σ3,H3,I4,qn⟩
 ·refine Gk hp (Zq (T.item X rfl rfl rfl hc i pins s3 σ3 H3 X.xe I3 (stat fr3) st3 go) fun r s4 ⟨u,hr,h4⟩=>?_);subst hr;refine Gk hp (Zq h4 fun _ s5 ⟨x,H5,I5,r5,y5,st5,fr5⟩=>?_);have I5':=I5.pinned (stat fr5) (T.obj _ _ st5);refine Gk hp (Zq (hg _ s5 σ3 H5 x u _ I5' r5 (step x H5 y5)) fun _ s6 ⟨σ6,H6,I6,q6⟩=>?_);refine Gk hp (Zq (hb _ s6 σ6 H6 _ I6 q6) fun f s7 q7=>?_)
  have again:∀{σ7:St} {H7:Hp},Inv X (pins++JD fp s5.heap) σ7 H7 s7->N σ7 H7->∃m,m<n∧∃i σ' H',Inv X pins σ' H' s7∧tn i s7.heap∧(∀b∈fp,H' b=none)∧W i m σ' H':=fun {σ7 H7} I7 n7=>by
   obtain ⟨m',hm,w7⟩:=hN σ7 H7 n7;refine ⟨m',hm,i+1,σ7,H7,I7.unpinned,T.keep _ _ _ st5 fun b hb o e=>(I7.pin (b,o) (QU _ (QU _ (ZaW hb e)))).1,fun b hb=>?_,w7⟩;obtain ⟨o,e,d⟩:=T.obj _ _ st5 b hb;exact (I7.pin (b,o) (QU _ (QU _ (ZaW hb e)))).2.1
  cases f with
  |next=>obtain ⟨σ7,H7,I7,n7⟩:=q7;exact again I7 n7
  |cont=>obtain ⟨σ7,H7,I7,n7⟩:=q7;exact again I7 n7
  |brk=>obtain ⟨σ7,H7,I7,q7⟩:=q7;exact ⟨σ7,H7,I7.unpinned,q7⟩
  |ret v=>obtain ⟨x7,σ7,H7,I7,r7,q7⟩:=q7;exact ⟨x7,σ7,H7,I7.unpinned,r7,q7⟩
theorem Wx {K:PySem.W.Frag} {g:TG} {D:Ends} (Pv:Nat->St->Hp->Prop) (h0:Pv 0 σ H) (hl:∀i σ H,i≤xs.length->Pv i σ H->SqL K H a xs)
 (hs:∀i x σ H,xs[i]?=some x->Pv i σ H->g x σ H fun σ2 H2=>tb { D with nx:=Pv (i+1),ct:=Pv (i+1),bk:=D.nx } σ2 H2) (hd:∀σ H,Pv xs.length σ H->D.nx σ H) :
  ∃W:Nat->Nat->St->Hp->Prop,(∃m,W 0 m σ H)∧∀i m σ H,W i m σ H →
   ((Itl K a).stop i H∧D.nx σ H)∨((Itl K a).go i H∧∃N:St->Hp->Prop,(∀σ' H',N σ' H'->∃m',m'<m∧W (i+1) m' σ' H')∧∀x H',(Itl K a).yld i H x H'->g x σ H' fun σ2 H2=>tb { D with nx:=N,ct:=N,bk:=D.nx } σ2 H2):=by
 refine ⟨fun i m σ H=>m=xs.length-i∧i≤xs.length∧Pv i σ H,⟨xs.length,by simp,QV _,h0⟩,?_⟩;rintro i m σ H ⟨rfl,hi,p⟩;have q:=hl i σ H hi p;by_cases hlt:i<xs.length
 ·refine .inr ⟨⟨xs,xs[i],q,by simp [hlt]⟩,Pv (i+1),fun σ' H' p'=>⟨xs.length-(i+1),by omega,rfl,hlt,p'⟩,fun x H' y=>?_⟩;obtain ⟨e,y⟩:=y;subst e;exact hs i x σ _ (y xs q) p
 ·have e:i=xs.length:=by omega
  subst e;exact .inl ⟨⟨xs,q,Qe _⟩,hd σ H p⟩
theorem UD {K:PySem.W.Frag} {g:TG} {D:Ends} (Pv:Nat->St->Hp->Prop) (h0:Pv 0 σ H) (hl:∀i σ H,i≤xs.length->Pv i σ H->SqT K H a xs)
 (hs:∀i x σ H,xs[i]?=some x->Pv i σ H->g x σ H fun σ2 H2=>tb { D with nx:=Pv (i+1),ct:=Pv (i+1),bk:=D.nx } σ2 H2) (hd:∀σ H,Pv xs.length σ H->D.nx σ H) :
  ∃W:Nat->Nat->St->Hp->Prop,(∃m,W 0 m σ H)∧∀i m σ H,W i m σ H →
   ((JJ K a).stop i H∧D.nx σ H)∨((JJ K a).go i H∧∃N:St->Hp->Prop,(∀σ' H',N σ' H'->∃m',m'<m∧W (i+1) m' σ' H')∧∀x H',(JJ K a).yld i H x H'->g x σ H' fun σ2 H2=>tb { D with nx:=N,ct:=N,bk:=D.nx } σ2 H2):=by
 refine ⟨fun i m σ H=>m=xs.length-i∧i≤xs.length∧Pv i σ H,⟨xs.length,by simp,QV _,h0⟩,?_⟩;rintro i m σ H ⟨rfl,hi,p⟩;have q:=hl i σ H hi p;by_cases hlt:i<xs.length
 ·refine .inr ⟨⟨xs,xs[i],q,by simp [hlt]⟩,Pv (i+1),fun σ' H' p'=>⟨xs.length-(i+1),by omega,rfl,hlt,p'⟩,fun x H' y=>?_⟩;obtain ⟨e,y⟩:=y;subst e;exact hs i x σ _ (y xs q) p
 ·have e:i=xs.length:=by omega
  subst e;exact .inl ⟨⟨xs,q,Qe _⟩,hd σ H p⟩
theorem ZeH {lo:Int} {g:TG} {D:Ends} (Pv:Nat->St->Hp->Prop) (h0:Pv 0 σ H)
 (hs:∀i σ H,i<n->Pv i σ H->g (.int (lo+i)) σ H fun σ2 H2=>tb { D with nx:=Pv (i+1),ct:=Pv (i+1),bk:=D.nx } σ2 H2) (hd:∀σ H,Pv n σ H->D.nx σ H) :
  ∃W:Nat->Nat->St->Hp->Prop,(∃m,W 0 m σ H)∧∀i m σ H,W i m σ H →
   ((Ju lo n).stop i H∧D.nx σ H)∨((Ju lo n).go i H∧∃N:St->Hp->Prop,(∀σ' H',N σ' H'->∃m',m'<m∧W (i+1) m' σ' H')∧∀x H',(Ju lo n).yld i H x H'->g x σ H' fun σ2 H2=>tb { D with nx:=N,ct:=N,bk:=D.nx } σ2 H2):=by
 refine ⟨fun i m σ H=>m=n-i∧i≤n∧Pv i σ H,⟨n,by simp,QV _,h0⟩,?_⟩;rintro i m σ H ⟨rfl,hi,p⟩;by_cases hlt:i<n
 ·refine .inr ⟨hlt,Pv (i+1),fun σ' H' p'=>⟨n-(i+1),by omega,rfl,hlt,p'⟩,fun x H' y=>?_⟩;obtain ⟨e,y⟩:=y;subst e y;exact hs i σ _ hlt p
 ·have e:i=n:=by omega
  subst e;exact .inl ⟨Qe _,hd σ H p⟩
abbrev R2:=V->V->Hp->VK->Prop
def Yl (X:Cx) (f:Value->Value->Sem Value) (r:R2):Prop :=
 ∀(pins:List (Addr×Obj)) (s:Shared) (σ:St) (H:Hp) (x y:V) (v u:Value) (Q:VK),Inv X pins σ H s->RelV x v->RelV y u->r x y H Q →
  wpAny (model X.prog X.w) X.A (f v u) (EP X pins σ Q) X.xe s
def UnR (X:Cx) (f:Value->Sem Value) (r:V->Hp->VK->Prop):Prop :=
 ∀(pins:List (Addr×Obj)) (s:Shared) (σ:St) (H:Hp) (x:V) (v:Value) (Q:VK),Inv X pins σ H s->RelV x v->r x H Q →
  wpAny (model X.prog X.w) X.A (f v) (EP X pins σ Q) X.xe s
def Y4 (X:Cx) (f:Value) (r:List V->Hp->VK->Prop):Prop :=
 ∀(pins:List (Addr×Obj)) (s:Shared) (σ:St) (H:Hp) (xs:List V) (us:List Value) (Q:VK),Inv X pins σ H s->Vals xs us->r xs H Q →
  wpAny (model X.prog X.w) X.A (call f us) (EP X pins σ Q) X.xe s
def Jc (r:R2) (ta tb:TE):TE:=fun σ H Q=>ta σ H fun x H1=>tb σ H1 fun y H2=>r x y H2 Q
def tUn (r:V->Hp->VK->Prop) (ta:TE):TE:=fun σ H Q=>ta σ H fun x H1=>r x H1 Q
def rI (C:Int->Int->Prop) (g:Int->Int->V):R2:=fun x y H Q=>∃i j,x=.int i∧y=.int j∧C i j∧Q (g i j) H
def Vz (g:Int->Int->V):R2:=fun x y H Q=>∃i j,x=.int i∧y=.int j∧Q (g i j) H
def rU (g:Int->V):V->Hp->VK->Prop:=fun x H Q=>∃i,x=.int i∧Q (g i) H
section
variable {a b:Expr} {tb tc:TE}
theorem ZdR (ha:PE X a ta) (hb:PE X b tb) {R:V->V->Hp->Prop} (I:Inv X pins σ H s)
 (h:ta σ H fun x H1=>tb σ H1 fun y H2=>R x y H2) 
 (hf:∀v u s2 x y H2,Inv X pins σ H2 s2->RelV x v->RelV y u->R x y H2->wpAny (model X.prog X.w) X.A (f v u) Q X.xe s2) :
  wpAny (model X.prog X.w) X.A (eval a X.env) (fun v s₁=>wpAny (model X.prog X.w) X.A (eval b X.env) (fun u s₂=>wpAny (model X.prog X.w) X.A (f v u) Q X.xe s₂) X.xe s₁) X.xe s:=by
 refine Zq (ha pins s σ H _ I h) fun v s1 ⟨x,H1,I1,r1,q1⟩=>?_;refine Zq (hb pins s1 σ H1 _ I1 q1) fun u s2 ⟨y,H2,I2,r2,q2⟩=>?_;exact hf v u s2 x y H2 I2 r1 r2 q2
theorem Z1 {op:Operator} {r:R2} (ho:Yl X (binaryOp op) r) (ha:PE X a ta) (hb:PE X b tb):PE X (.BinOp a op b pos) (Jc r ta tb):=by
 intro pins s σ H Q I h;exact wpAny_BinOp (ZdR ha hb I h fun v u s2 x y H2 I2 rx ry q=>ho pins s2 σ H2 x y v u Q I2 rx ry q)
theorem V4 {op:UnaryOp} {r:V->Hp->VK->Prop} (ho:UnR X (unaryOp op) r) (ha:PE X a ta):PE X (.UnaryOp op a pos) (tUn r ta):=by
 intro pins s σ H Q I h;exact UnaryOp_ (Zq (ha pins s σ H _ I h) fun v s1 ⟨x,H1,I1,r1,q1⟩=>ho pins s1 σ H1 x v Q I1 r1 q1)
theorem opI {C:Int->Int->Prop} {g:Int->Int->Int}
 (rule:∀(i j:Int) (t u:Tok) (s:Shared) (Q:Value->Shared->Prop) (E:Value->Shared->Prop),C i j->Q (.int (g i j) s.toks) { s with toks:=s.toks+1 }->wpAny (model X.prog X.w) X.A (f (.int i t) (.int j u)) Q E s) :
  Yl X f (rI C fun i j=>.int (g i j)):=by
 intro pins s σ H x y v u Q I rx ry h;obtain ⟨i,j,rfl,rfl,hc,q⟩:=h;obtain ⟨t,rfl⟩:=rx;obtain ⟨t',rfl⟩:=ry;exact rule i j t t' s _ _ hc ⟨.int (g i j),H,I.tok _,⟨_,rfl⟩,q⟩
theorem Ze0 {g:Int->Int->Int}
 (rule:∀(i j:Int) (t u:Tok) (s:Shared) (Q:Value->Shared->Prop) (E:Value->Shared->Prop),Q (.int (g i j) s.toks) { s with toks:=s.toks+1 }->wpAny (model X.prog X.w) X.A (f (.int i t) (.int j u)) Q E s) :
  Yl X f (Vz fun i j=>.int (g i j)):=by
 intro pins s σ H x y v u Q I rx ry h;obtain ⟨i,j,rfl,rfl,q⟩:=h;obtain ⟨t,rfl⟩:=rx;obtain ⟨t',rfl⟩:=ry;exact rule i j t t' s _ _ ⟨.int (g i j),H,I.tok _,⟨_,rfl⟩,q⟩
theorem Za8 {g:Int->Int->Bool}
 (rule:∀(i j:Int) (t u:Tok) (s:Shared) (Q:Value->Shared->Prop) (E:Value->Shared->Prop),Q (.bool (g i j)) s->wpAny (model X.prog X.w) X.A (f (.int i t) (.int j u)) Q E s) :
  Yl X f (Vz fun i j=>.bl (g i j)):=by
 intro pins s σ H x y v u Q I rx ry h;obtain ⟨i,j,rfl,rfl,q⟩:=h;obtain ⟨t,rfl⟩:=rx;obtain ⟨t',rfl⟩:=ry;exact rule i j t t' s _ _ ⟨.bl (g i j),H,I,rfl,q⟩
def Zcl (i j:Int):Prop:=0≤j∧j≤1000000∧i.natAbs<2 ^ 64
def CMul (i j:Int):Prop:=(-(2 ^ 64)<i∧i<2 ^ 64)∨(-(2 ^ 64)<j∧j<2 ^ 64)
theorem CMul.ok {i j:Int} (h:CMul i j):IntMulOk i j:=by
 rcases h with ⟨h1,h2⟩|⟨h1,h2⟩
 ·exact .of_left (intBits_le_64 h1 h2)
 ·exact .of_right (intBits_le_64 h1 h2)
theorem Ve:Yl X (binaryOp .Add) (Vz fun i j=>.int (i+j)):=Ze0 fun _ _ _ _ _ _ _ q=>add_int q
theorem ZmS:Yl X (binaryOp .Sub) (Vz fun i j=>.int (i-j)):=Ze0 fun _ _ _ _ _ _ _ q=>sub_int q
theorem ZgI:Yl X (binaryOp .Mult) (rI CMul fun i j=>.int (i*j)):=opI fun _ _ _ _ _ _ _ hc q=>mul_int q hc.ok
theorem Wd:Yl X (binaryOp .Mod) (rI (fun _ j=>j≠0) fun i j=>.int (i.fmod j)):=opI fun _ _ _ _ _ _ _ hc q=>mod_int' hc q
theorem ZgQ:Yl X (binaryOp .Pow) (rI Zcl fun i j=>.int (i ^ j.toNat)):=opI fun _ _ _ _ _ _ _ hc q=>pow_int_small hc.1 hc.2.1 hc.2.2 q
theorem unI {f:Value->Sem Value} {g:Int->Int}
 (rule:∀(i:Int) (t:Tok) (s:Shared) (Q:Value->Shared->Prop) (E:Value->Shared->Prop),Q (.int (g i) s.toks) { s with toks:=s.toks+1 }->wpAny (model X.prog X.w) X.A (f (.int i t)) Q E s) :
  UnR X f (rU fun i=>.int (g i)):=by
 intro pins s σ H x v Q I rx h;obtain ⟨i,rfl,q⟩:=h;obtain ⟨t,rfl⟩:=rx;exact rule i t s _ _ ⟨.int (g i),H,I.tok _,⟨_,rfl⟩,q⟩
theorem V2:UnR X (unaryOp .USub) (rU fun i=>.int (-i)):=unI fun _ _ _ _ _ q=>neg_int q
end
noncomputable def Zg5:V->V->Bool
 |.non,.non=>true|.non,.int _=>true|.int _,.non=>true|.non,.bl _=>true|.bl _,.non=>true|.non,.str _=>true|.str _,.non=>true
 |.int _,.int _=>true|.bl _,.bl _=>true|.str _,.str _=>true|.byt _,.byt _=>true
 |.int _,.str _=>true|.str _,.int _=>true|.bl _,.str _=>true|.str _,.bl _=>true
 |_,_=>false
def rEq:R2:=fun x y H Q=>Zg5 x y=true∧Q (.bl (decide (x=y))) H
def rNe:R2:=fun x y H Q=>Zg5 x y=true∧Q (.bl (!decide (x=y))) H
theorem Zgp {i j:Int}:decide (V.int i=V.int j)=(i==j):=by
 rw [Rh];simp
theorem ZfL {i j:Bool}:decide (V.bl i=V.bl j)=(i==j):=by
 rw [Rh];simp
theorem Zh1 {i j:Str}:decide (V.str i=V.str j)=(i==j):=by
 rw [Rh];simp
theorem Zhi {i j:Array UInt8}:decide (V.byt i=V.byt j)=(i.toList==j.toList):=by
 rw [Rh];cases i;cases j;simp
section
variable {a b:Expr} {tb tc:TE}
theorem Yb {Q:VK} {k k':Bool} (I:Inv X pins σ H s) (q:Q (.bl k) H) (e:k=k'):EP X pins σ Q (.bool k') s:=by
 subst e;exact ⟨.bl k,H,I,rfl,q⟩
theorem Z3:Yl X (compareOp .Eq) rEq:=by
 intro pins s σ H x y v u Q I rx ry h;obtain ⟨hs,q⟩:=h;cases x with
 |non =>
  cases rx;cases y with
  |non=>cases ry;exact PySem.EqNone.eq_none_none (Yb I q (by simp))
  |bl j=>cases ry;exact PySem.EqNone.eq_none_bool (Yb I q (by simp))
  |int j=>obtain ⟨t',rfl⟩:=ry;exact PySem.EqNone.eq_none_int (Yb I q (by simp))
  |str j=>obtain ⟨t',rfl⟩:=ry;exact PySem.EqNone.eq_none_str (Yb I q (by simp))
  |_=>exact absurd (show false=true from hs) QI
 |bl i =>
  cases rx;cases y with
  |non=>cases ry;exact PySem.EqNone.eq_bool_none (Yb I q (by simp))
  |bl j=>cases ry;exact eq_bool (Yb I q ZfL)
  |str j=>obtain ⟨t',rfl⟩:=ry;exact PySem.EqMixed.eq_bool_str (Yb I q (by simp))
  |_=>exact absurd (show false=true from hs) QI
 |int i =>
  obtain ⟨t,rfl⟩:=rx;cases y with
  |non=>cases ry;exact PySem.EqNone.eq_int_none (Yb I q (by simp))
  |int j=>obtain ⟨t',rfl⟩:=ry;exact eq_int (Yb I q Zgp)
  |str j=>obtain ⟨t',rfl⟩:=ry;exact PySem.EqMixed.eq_int_str (Yb I q (by simp))
  |_=>exact absurd (show false=true from hs) QI
 |str i =>
  obtain ⟨t,rfl⟩:=rx;cases y with
  |non=>cases ry;exact PySem.EqNone.eq_str_none (Yb I q (by simp))
  |bl j=>cases ry;exact PySem.EqMixed.eq_str_bool (Yb I q (by simp))
  |int j=>obtain ⟨t',rfl⟩:=ry;exact PySem.EqMixed.eq_str_int (Yb I q (by simp))
  |str j=>obtain ⟨t',rfl⟩:=ry;exact eq_str (Yb I q Zh1)
  |_=>exact absurd (show false=true from hs) QI
 |byt i =>
  obtain ⟨t,rfl⟩:=rx;cases y with
  |byt j=>obtain ⟨t',rfl⟩:=ry;exact W.eq_bytes (Yb I q Zhi)
  |_=>exact absurd (show false=true from hs) QI
 |_=>cases y<;>exact absurd (show false=true from hs) QI
theorem WF:Yl X (compareOp .NotEq) rNe:=by
 intro pins s σ H x y v u Q I rx ry h;obtain ⟨hs,q⟩:=h;cases x with
 |non =>
  cases rx;cases y with
  |non=>cases ry;exact PySem.EqNone.ne_none_none (Yb I q (by simp))
  |bl j=>cases ry;exact PySem.EqNone.ne_none_bool (Yb I q (by simp))
  |int j=>obtain ⟨t',rfl⟩:=ry;exact PySem.EqNone.ne_none_int (Yb I q (by simp))
  |str j=>obtain ⟨t',rfl⟩:=ry;exact PySem.EqNone.ne_none_str (Yb I q (by simp))
  |_=>exact absurd (show false=true from hs) QI
 |bl i =>
  cases rx;cases y with
  |non=>cases ry;exact PySem.EqNone.ne_bool_none (Yb I q (by simp))
  |bl j=>cases ry;exact ne_bool (Yb I q (QB not ZfL))
  |str j=>obtain ⟨t',rfl⟩:=ry;exact PySem.EqMixed.ne_bool_str (Yb I q (by simp))
  |_=>exact absurd (show false=true from hs) QI
 |int i =>
  obtain ⟨t,rfl⟩:=rx;cases y with
  |non=>cases ry;exact PySem.EqNone.ne_int_none (Yb I q (by simp))
  |int j=>obtain ⟨t',rfl⟩:=ry;exact ne_int (Yb I q (QB not Zgp))
  |str j=>obtain ⟨t',rfl⟩:=ry;exact PySem.EqMixed.ne_int_str (Yb I q (by simp))
  |_=>exact absurd (show false=true from hs) QI
 |str i =>
  obtain ⟨t,rfl⟩:=rx;cases y with
  |non=>cases ry;exact PySem.EqNone.ne_str_none (Yb I q (by simp))
  |bl j=>cases ry;exact PySem.EqMixed.ne_str_bool (Yb I q (by simp))
  |int j=>obtain ⟨t',rfl⟩:=ry;exact PySem.EqMixed.ne_str_int (Yb I q (by simp))
  |str j=>obtain ⟨t',rfl⟩:=ry;exact ne_str (Yb I q (QB not Zh1))
  |_=>exact absurd (show false=true from hs) QI
 |byt i =>
  obtain ⟨t,rfl⟩:=rx;cases y with
  |byt j=>obtain ⟨t',rfl⟩:=ry;exact W.ne_bytes (Yb I q (QB not Zhi))
  |_=>exact absurd (show false=true from hs) QI
 |_=>cases y<;>exact absurd (show false=true from hs) QI
theorem Zc9:Yl X (compareOp .Lt) (Vz fun i j=>.bl (decide (i<j))):=Za8 fun _ _ _ _ _ _ _ q=>lt_int q
theorem ZcF:Yl X (compareOp .LtE) (Vz fun i j=>.bl (decide (i≤j))):=Za8 fun _ _ _ _ _ _ _ q=>le_int q
theorem Zfr:Yl X (compareOp .Gt) (Vz fun i j=>.bl (decide (j<i))):=Za8 fun _ _ _ _ _ _ _ q=>gt_int q
theorem UR:Yl X (compareOp .GtE) (Vz fun i j=>.bl (decide (j≤i))):=Za8 fun _ _ _ _ _ _ _ q=>ge_int q
theorem ZkW:Yl X (compareOp .Lt) (fun x y H Q=>∃i j,x=.str i∧y=.str j∧Q (.bl (decide (i.cps.toList<j.cps.toList))) H):=by
 intro pins s σ H x y v u Q I rx ry h;obtain ⟨i,j,rfl,rfl,q⟩:=h;obtain ⟨t,rfl⟩:=rx;obtain ⟨t',rfl⟩:=ry;exact lt_str (Yb I q rfl)
theorem Zpm:Yl X (compareOp .In) (fun x y H Q=>∃i j,x=.str i∧y=.str j∧Q (.bl (!(Builtin.Str.occurrences j i 0 j.length 1).isEmpty)) H):=by
 intro pins s σ H x y v u Q I rx ry h;obtain ⟨i,j,rfl,rfl,q⟩:=h;obtain ⟨t,rfl⟩:=rx;obtain ⟨t',rfl⟩:=ry;exact in_str (Yb I q rfl)
theorem Zgj:Yl X (compareOp .Is) (fun x y H Q=>y=.non∧Q (.bl (decide (x=.non))) H):=by
 intro pins s σ H x y v u Q I rx ry h;obtain ⟨rfl,q⟩:=h;cases ry;refine is_none_gen (Yb I q ?_)
 cases x<;>first
  | (cases rx;rfl)
  | (obtain ⟨t,rfl⟩:=rx;rfl)
theorem Zb9:Yl X (compareOp .IsNot) (fun x y H Q=>y=.non∧Q (.bl (!decide (x=.non))) H):=by
 intro pins s σ H x y v u Q I rx ry h;obtain ⟨rfl,q⟩:=h;cases ry;refine isnot_none_gen (Yb I q ?_)
 cases x<;>first
  | (cases rx;rfl)
  | (obtain ⟨t,rfl⟩:=rx;rfl)
theorem Zy (b:Expr) (h:op≠.In:=by decide) (h2:op≠.NotIn:=by decide):behindInMarks op b=false:=by
 have e1:(op==CmpOp.In)=false:=by cases op<;>first|rfl|exact absurd rfl h
 have e2:(op==CmpOp.NotIn)=false:=by cases op<;>first|rfl|exact absurd rfl h2
 cases b<;>simp [behindInMarks,e1,e2]
theorem YM {r:R2} (ho:Yl X (compareOp op) r) (ha:PE X a ta) (hb:PE X b tb) (hm:behindInMarks op b=false):PE X (.Compare a [op] [b] pos) (Jc r ta tb):=by
 intro pins s σ H Q I h;exact wpAny_Compare1 (ZdR ha hb I h fun v u s2 x y H2 I2 rx ry q=>ho pins s2 σ H2 x y v u Q I2 rx ry q) hm
def Zcy (t:TE):TT:=fun σ H Q=>t σ H fun x H'=>∃k,x=.bl k∧Q k H'
theorem ZE {r:R2} (ho:Yl X (compareOp op) r) (ha:PE X a ta) (hb:PE X b tb) (hm:behindInMarks op b=false):PT X (.Compare a [op] [b] pos) (Zcy (Jc r ta tb)):=by
 intro pins s σ H Q I h
 refine wpAny_isTrue_Compare1 (Zq (ha pins s σ H _ I h) fun v s1 ⟨x,H1,I1,r1,q1⟩=>Zq (hb pins s1 σ H1 _ I1 q1) fun u s2 ⟨y,H2,I2,r2,q2⟩ =>
  Zq (ho pins s2 σ H2 x y v u _ I2 r1 r2 q2) fun c s3 ⟨z,H3,I3,r3,k,e,q3⟩=>?_) hm
 subst e;cases r3;exact RK ⟨H3,I3,q3⟩
theorem UZ:(sizeLine:Nat)<2 ^ 63:=by rw [RM];decide
theorem Zoq:Yl X (binaryOp .Add) (fun x y H Q=>∃i j,x=.str i∧y=.str j∧i.length+j.length≤sizeLine∧Q (.str (i++j)) H):=by
 intro pins s σ H x y v u Q I rx ry h;obtain ⟨i,j,rfl,rfl,hz,q⟩:=h;obtain ⟨t,rfl⟩:=rx;obtain ⟨t',rfl⟩:=ry;exact add_str (fun t' tk=>⟨.str (i++j),H,I.tok _,⟨_,rfl⟩,q⟩) hz
theorem Xv {x:V} (r:Vals [x] us):∃u,us=[u]∧RelV x u:=by
 cases r with
 |cons r1 r2=>cases r2;exact ⟨_,rfl,r1⟩
theorem JL {x:V} (r:Vals [x,y] us):∃u w',us=[u,w']∧RelV x u∧RelV y w':=by
 cases r with
 |cons r1 r2 =>
  cases r2 with
  |cons r3 r4=>cases r4;exact ⟨_,_,rfl,r1,r3⟩
theorem ZmR:Y4 X (.builtin "abs") (fun xs H Q=>∃i,xs=[.int i]∧Q (.int (if i<0 then -i else i)) H):=by
 intro pins s σ H xs us Q I r h;obtain ⟨i,rfl,q⟩:=h;obtain ⟨u,rfl,t,rfl⟩:=Xv r;exact call_abs_int fun u tk=>⟨.int (if i<0 then -i else i),H,I.tok _,⟨_,rfl⟩,q⟩
theorem ZdW:Y4 X (.type "int") (fun xs H Q=>(∃i,xs=[.int i]∧Q (.int i) H)∨∃k,xs=[.bl k]∧Q (.int (if k then 1 else 0)) H):=by
 intro pins s σ H xs us Q I r h;rcases h with ⟨i,rfl,q⟩|⟨k,rfl,q⟩
 ·obtain ⟨u,rfl,t,rfl⟩:=Xv r;exact call_int_int ⟨.int i,H,I,⟨_,rfl⟩,q⟩
 ·obtain ⟨u,rfl,r1⟩:=Xv r;cases r1;exact call_int_bool ⟨.int (if k then 1 else 0),H,I.tok _,⟨_,rfl⟩,q⟩
end
structure ObjM (h:Heap) (x dx C:Addr) (mA:Str->Option Value):Prop where
 obj:h.get? x=some (W.instObj C dx)
 ns:h.Ns1 dx mA
 ne:dx≠x
theorem ZkN (n:h.Ns1 dx mA):∃od,h.get? dx=some od∧∀name,W.lookIn name od=some (mA name):=by
 obtain ⟨o,es,ep,ho,hd,hk,_,hm⟩:=n;refine ⟨o,ho,fun name=>?_⟩;have e:=hm name;unfold nsFind findBy at e;rw [←Array.find?_toList] at e;unfold W.lookIn;rw [hd];dsimp only;split
 ·rename_i y q;rw [q] at e;exact QB some e
 ·rename_i q;rw [q] at e
  have a:es.toList.any (·.refKey)=false:=by
   rw [Ng];intro y hy;obtain ⟨z,t,hkey⟩:=hk y (Array.mem_toList_iff.mp hy);simp [DictEntry.refKey,hkey]
  have a':¬es.toList.any (·.refKey)=true:=by rw [a];exact QI
  rw [Qa a'];exact QB some e
theorem ObjM.look {x:Addr} (I:ObjM h x dx C mA):∃od,W.InstAt h x (W.instObj C dx) C (some od)∧∀name,W.lookIn name od=some (mA name) :=
 let ⟨od,ho,hl⟩:=ZkN I.ns
 ⟨od,⟨I.obj,rfl,rfl,ho⟩,hl⟩
section
variable {prog:Program} {w:World} {x f:Addr} {name:Str} {v:Value}
theorem Ziv {expr:Bool} (X:K.In s.heap) (I:ObjM s.heap x dx C mA) (hg:W.plainGet K C name=true) (hh:W.hasDictIn K C=true)
 (ha:W.findIn K (.ref C) name=some none) (hv:mA name=some v) (hv':W.handedIn v=true) (h:Q v { s with toks:=s.toks+1 }) :
  wpAny (model prog w) A (getAttr (.ref x) name expr) Q E s:=by
 obtain ⟨od,J,hl⟩:=I.look;exact W.get_value X J (W.plainGet_of hg).1 (W.findObj_own hh ha rfl (by rw [hl,hv])) hv' h
theorem Zpi {pl:Sem Bool} {Q:Value×List Value->Shared->Prop} (X:K.In s.heap) (I:ObjM s.heap x dx C mA) (hg:W.plainGet K C name=true)
 (hf:W.findIn K (.ref C) name=some (some (.ref f))) (ht:W.isFn K (.ref f)=true) (hv:mA name=none) (h:Q (.ref f,[.ref x]) s) :
  wpAny (model prog w) A (getMethod (.ref x) name pl) Q E s:=by
 obtain ⟨od,J,hl⟩:=I.look;exact W.method_fn X J (W.plainGet_of hg).1 (W.plainGet_of hg).2 hf (Rz.mp ht) (by show (W.lookIn name od).map (·.isSome)=some false;rw [hl,hv];rfl) h
theorem Zps {ns:List Str} {Q:Unit->Shared->Prop} (X:K.In s.heap) (I:ObjM s.heap x dx C mA)
 (hs:W.findIn K (.ref C) "__setattr__"=some (some (.builtin "object.__setattr__"))) (hp:W.plainOver K C=true) (ht:W.takerIn K C name=some none) (hh:W.hasDictIn K C=true)
 (hw:PySem.Within mA ns) (hsz:ns.length≤sizeLine)
 (h:∀h',ObjM h' x dx C (fun y=>if y=name then some v else mA y)->Heap.SameBut dx s.heap h'->Q () { s with heap:=h',toks:=s.toks+2 }) :
  wpAny (model prog w) A (setAttr (.ref x) name v) Q E s:=by
 obtain ⟨od,J,hl⟩:=I.look;refine W.set_plain X J hs (W.osa_open (s:={ s with toks:=s.toks+1 }) (r:=none) X J hp ht fun b=>?_);obtain ⟨cd,hc,hd'⟩:=W.any_some hh;have hx:s.heap.get? x=some ⟨.ref C,some dx,.plain,#[]⟩:=I.obj;refine Qd (Qf (Qd (Qd (wpAny_loadPart hx (Qd (W.Looks.here (s:={ s with toks:=s.toks+1 }) (W.looks_clsIn X hc) ?_))))));rw [hd'];refine Qf (a:=some dx) (Qd (Qf (Qd ?_)));refine wpAny_nsSet1 (s:={ s with toks:=s.toks+1 }) I.ns fun h' hn2 hs2=>?_;obtain ⟨oD,esD,epD,hoD,hdD,hcD⟩:=hn2.count (PySem.Within.cons name v hw);refine Qd (wpAny_lookBehind hoD (by rw [hdD];exact pastItsLine_dict (Qn hcD (by rw [QM];omega))) ?_);exact Qf (h _ ⟨(hs2.2 _ (QX I.ne)).trans I.obj,hn2,I.ne⟩ hs2)
theorem Zk5 {R:Result->Shared->Prop} {vs:List Value} (X:K.In s.heap) (hm:W.makesIn K C=true)
 (hi:W.findIn K (.ref C) "__init__"=some (some (.ref f))) (hf:W.typeIn K (.ref f)=some (.type "function"))
 (h:codeAny (model prog w) (A.under (.builtin "type.__call__" ⟨.ref C::vs,kw⟩)) (.call (.ref f) ⟨.ref (s.heap.objs.size+1)::vs,kw⟩) (W.InitBack (s.heap.objs.size+1) R)
 { s with heap:=(s.heap.push W.emptyDict).push (W.instObj C s.heap.objs.size) }) :
  codeAny (model prog w) A (.call (.ref C) ⟨vs,kw⟩) R s:=by
 obtain ⟨hh,g,d,t,os⟩:=s;exact W.make_core (W.makes_of X hm) (GI X hi) (fun self=>W.bind_fn X self hf) (.inl rfl) h
end
noncomputable def Zt (f:Str) (v:V):List (Str×V)->List (Str×V)
 |[]=>[(f,v)]
 | (g,x)::r=>if g=f then (g,v)::r else (g,x)::Zt f v r
theorem ZeS (f g:Str) (v:V):∀fs:List (Str×V),(Zt f v fs).lookup g=if g=f then some v else fs.lookup g
 |[]=>by
  show List.lookup g [(f,v)]=_;by_cases h:g=f
  ·have hb:(g==f)=true:=Rz.mpr h;simp only [List.lookup,hb,Qb h]
  ·have hb:(g==f)=false:=Rw.mpr h;simp only [List.lookup,hb,Qa h]
 | (k,x)::r=>by
  have ih:=ZeS f g v r;rw [show Zt f v ((k,x)::r)=(if k=f then (k,v)::r else (k,x)::Zt f v r) from rfl];by_cases hk:k=f
  ·rw [Qb hk];by_cases h:g=k
   ·have hb:(g==k)=true:=Rz.mpr h;simp only [List.lookup,hb,Qb (h.trans hk)]
   ·have hb:(g==k)=false:=Rw.mpr h;simp only [List.lookup,hb,Qa (fun e:g=f=>h (e.trans hk.symm))]
  ·rw [Qa hk];by_cases h:g=k
   ·have hb:(g==k)=true:=Rz.mpr h;simp only [List.lookup,hb,Qa (fun e:g=f=>hk (h.symm.trans e))]
   ·have hb:(g==k)=false:=Rw.mpr h;simp only [List.lookup,hb];exact ih
theorem ZbZ (f:Str) (v:V):∀fs:List (Str×V),f∈(Zt f v fs).map (·.1)∧∀g,g∈fs.map (·.1)->g∈(Zt f v fs).map (·.1)
 |[]=>⟨by simp [Zt],fun g h=>by simp at h⟩
 | (k,x)::r=>by
  obtain ⟨i1,i2⟩:=ZbZ f v r;rw [show Zt f v ((k,x)::r)=(if k=f then (k,v)::r else (k,x)::Zt f v r) from rfl];by_cases hk:k=f
  ·rw [Qb hk];subst hk;exact ⟨by simp,fun g h=>by simpa using h⟩
  ·rw [Qa hk];refine ⟨?_,fun g h=>?_⟩
   ·rw [Qx];exact QC _ i1
   ·rw [Qx] at h ⊢;rcases Qh.mp h with e|e
    ·exact Qh.mpr (.inl e)
    ·exact QC _ (i2 g e)
theorem Zip (f:Str) (v:V):∀fs:List (Str×V),(Zt f v fs).length≤fs.length+1
 |[]=>by simp [Zt]
 | (k,x)::r=>by
  have ih:=Zip f v r;rw [show Zt f v ((k,x)::r)=(if k=f then (k,v)::r else (k,x)::Zt f v r) from rfl];by_cases hk:k=f
  ·rw [Qb hk,QM,QM];omega
  ·rw [Qa hk,QM,QM];omega
theorem RelO.some_of {o:Option Value} (r:RelO (some v) o):∃u,o=some u∧RelV v u:=by
 cases o with
 |none=>exact (show False from r).elim
 |some u=>exact ⟨u,rfl,r⟩
theorem RelO.none_of {o:Option Value} (r:RelO none o):o=none:=by
 cases o with
 |none=>rfl
 |some u=>exact (show False from r).elim
theorem Zmx (r:RelV v u):W.handedIn u=true:=by
 cases v with
 |non=>cases (show u=Value.none from r);rfl
 |bl b=>cases (show u=Value.bool b from r);rfl
 |int i=>obtain ⟨t,e⟩:=(show ∃t,u=Value.int i t from r);cases e;rfl
 |str x=>obtain ⟨t,e⟩:=(show ∃t,u=Value.str x t from r);cases e;rfl
 |byt b=>obtain ⟨t,e⟩:=(show ∃t,u=Value.bytes b t from r);cases e;rfl
 |flt b=>obtain ⟨t,e⟩:=(show ∃t,u=Value.float b t from r);cases e;rfl
 |ref a=>cases (show u=Value.ref a from r);rfl
 |ty n=>cases (show u=Value.type n from r);rfl
section
variable {w:World} {fs fs':List (Str×V)}
theorem Zaw (hok:HOk P w H h) (e:H a=some (.ins C dx fs)):∃mA,ObjM h a dx C mA∧(∀f,RelO (fs.lookup f) (mA f))∧PySem.Within mA (fs.map (·.1))∧fs.length≤1000∧H dx=some (.own a):=by
 obtain ⟨d,z,ne,ob,mA,n,r,q⟩:=(show ObjOk P w H h a (.ins C dx fs) from hok a _ e);exact ⟨mA,⟨ob,n,ne⟩,r,q,z,d⟩
end
structure Cls (K:W.Frag) (C:Addr):Prop where
 pg:W.plainGet K C Str.empty=true
 hd:W.hasDictIn K C=true
 po:W.plainOver K C=true
 sa:W.findIn K (.ref C) "__setattr__"=some (some (.builtin "object.__setattr__"))
theorem Cls.get (c:Cls K C) (f:Str):W.plainGet K C f=true:=c.pg
def NoAttr (K:W.Frag) (C:Addr) (f:Str):Prop:=W.findIn K (.ref C) f=some none
theorem NoAttr.taker {f:Str} (n:NoAttr K C f):W.takerIn K C f=some none:=by
 unfold W.takerIn;rw [show W.findIn K (.ref C) f=some none from n];rfl
structure Meth (K:W.Frag) (C:Addr) (m:Str) (f:Addr):Prop where
 at_:W.findIn K (.ref C) m=some (some (.ref f))
 fn:W.isFn K (.ref f)=true
 kp:W.keepIn K (.ref f)=true
section
variable {fs:List (Str×V)} {f:Str}
theorem Zl3 {b:Bool} (I:Inv X pins σ H s) (e:H a=some (.ins C dx fs)) (c:Cls X.K C) (n:NoAttr X.K C f) (l:fs.lookup f=some v)
 (h:∀u s',Inv X pins σ H s'->RelV v u->Q u s'):wpAny (model X.prog X.w) A (getAttr (.ref a) f b) Q E s:=by
 obtain ⟨mA,O,r,_,_,_⟩:=Zaw I.hok e;obtain ⟨u,hu,ru⟩:=RelO.some_of (v:=v) (o:=mA f) (by rw [←l];exact r f);exact Ziv I.kIn O (c.get f) c.hd n hu (Zmx ru) (h u _ (I.tok _) ru)
theorem ZgM {g:Addr} {pl:Sem Bool} {Q:Value×List Value->Shared->Prop} (I:Inv X pins σ H s) (e:H a=some (.ins C dx fs)) (c:Cls X.K C) (k:Meth X.K C m g) (l:fs.lookup m=none)
 (h:Q (.ref g,[.ref a]) s):wpAny (model X.prog X.w) A (getMethod (.ref a) m pl) Q E s:=by
 obtain ⟨mA,O,r,_,_,_⟩:=Zaw I.hok e;have hn:mA m=none:=RelO.none_of (by rw [←l];exact r m);exact Zpi I.kIn O (c.get m) k.at_ k.fn hn h
theorem Zmk {Q:Unit->Shared->Prop} (I:Inv X pins σ H s) (e:H a=some (.ins C dx fs)) (c:Cls X.K C) (n:NoAttr X.K C f) (hl:fs.length<1000) (ry:RelV y u)
 (h:∀s',Inv X pins σ (Zc H a (.ins C dx (Zt f y fs))) s'->Q () s'):wpAny (model X.prog X.w) A (setAttr (.ref a) f u) Q E s:=by
 obtain ⟨mA,O,r,wi,_,ho⟩:=Zaw I.hok e;have hz:(fs.map (·.1)).length≤sizeLine:=by rw [Qc,RM];omega
 refine Zps I.kIn O c.sa c.po n.taker c.hd wi hz fun h' O' sb=>h _ ?_;have hd:∃o,h'.get? dx=some o:=let ⟨o,_,_,e',_⟩:=O'.ns;⟨o,e'⟩;refine I.write (x:=a) (e:=dx) (by rw [e];exact True.intro) (.inr ho) (fun b q hb z=>(sb.2 b hb).trans z) hd ?_;refine ⟨by rw [Zd O.ne];exact ho,?_,O.ne,O'.obj,_,O'.ns,fun g=>?_,fun g hg=>?_⟩
 ·have:=Zip f y fs;omega
 ·show RelO ((Zt f y fs).lookup g) (if g=f then some u else mA g);rw [ZeS];by_cases q:g=f
  ·rw [Qb q,Qb q];exact ry
  ·rw [Qa q,Qa q];exact r g
 ·by_cases q:g=f
  ·rw [q];exact (ZbZ f y fs).1
  ·refine (ZbZ f y fs).2 g (wi g fun z=>hg ?_);show (if g=f then some u else mA g)=none;rw [Qa q];exact z
theorem Inv.made (I:Inv X pins σ H s):Inv X pins σ (Zc (Zc H s.heap.objs.size (.own (s.heap.objs.size+1))) (s.heap.objs.size+1) (.ins C s.heap.objs.size []))
  { s with heap:=(s.heap.push W.emptyDict).push (W.instObj C s.heap.objs.size) }:=by
 have e1:(s.heap.push W.emptyDict).get? s.heap.objs.size=some W.emptyDict:=Qw s.heap rfl
 have e2:((s.heap.push W.emptyDict).push (W.instObj C s.heap.objs.size)).get? (s.heap.objs.size+1)=some (W.instObj C s.heap.objs.size):=by
  have:=Qw (s.heap.push W.emptyDict) (o:=W.instObj C s.heap.objs.size) rfl
  rwa [Ri] at this
 have e3:(s.heap.push W.emptyDict).Ns s.heap.objs.size (fun _=>none):=⟨W.emptyDict,#[],_,e1,rfl,(fun e he=>absurd he (by simp)),fun _=>rfl⟩;have I1:=I.laid (a:=s.heap.objs.size) (o:=.own (s.heap.objs.size+1)) (h':=s.heap.push W.emptyDict) (t':=s.toks) (fun b u q=>Qk _ q) (Qe _) ⟨_,e1⟩;refine I1.laid (a:=s.heap.objs.size+1) (o:=.ins C s.heap.objs.size []) (t':=s.toks) (fun b u q=>Qk _ q) (Nat.le_of_eq (Ri _ _)) ?_;have ne:s.heap.objs.size≠s.heap.objs.size+1:=QA (Q5 _);refine ⟨by rw [Zd ne,Zg],QV _,ne,e2,fun _=>none,(Heap.Ns1.of_empty e3).at fun o q=>Qk _ q,fun _=>True.intro,fun y hy=>absurd rfl hy⟩
theorem Zf5 {prog:Program} {w:World} {env:Env} {f:Str} (hb:attributeBase e f env (eval e env)=eval e env)
 (h:wpAny (model prog w) A (eval e env) (fun o s₁=>wpAny (model prog w) A (getAttr o f true) Q E s₁) E s):wpAny (model prog w) A (eval (.Attribute e f pos) env) Q E s :=
 Attribute_any_ h (by rw [arm_eval_Attribute,hb])
end
def Zht (K:W.Frag) (ta:TE) (f:Str):TE:=fun σ H Q=>ta σ H fun x H1=>∃a C dx fs v,x=.ref a∧H1 a=some (.ins C dx fs)∧Cls K C∧NoAttr K C f∧fs.lookup f=some v∧Q v H1
def Zk7 (K:W.Frag) (ta tv:TE) (f:Str):TS:=fun D σ H=>tv σ H fun y H1=>ta σ H1 fun x H2=>∃a C dx fs,x=.ref a∧H2 a=some (.ins C dx fs)∧Cls K C∧NoAttr K C f∧fs.length<1000 ∧
 D.nx σ (Zc H2 a (.ins C dx (Zt f y fs)))
section
variable {o value:Expr} {f:Str} {pos' tpos:Pos} {tv:TE}
theorem ZW (he:PE X e ta) (hb:attributeBase e f X.env (eval e X.env)=eval e X.env):PE X (.Attribute e f pos) (Zht X.K ta f):=by
 intro pins s σ H Q I h;refine Zf5 hb (Zq (he pins s σ H _ I h) fun u s1 ⟨x,H1,I1,rx,a,C,dx,fs,v,ex,ea,c,n,l,q⟩=>?_);subst ex;obtain rfl:u=Value.ref a:=rx;exact Zl3 I1 ea c n l fun u' s2 I2 ru=>⟨v,H1,I2,ru,q⟩
theorem Xl (ha:PE X o ta) (hv:PE X value tv) (hs:swapsWith value (some (.Attribute o f pos')) pos.line X.env=pure false):PS X (.Assign [.Attribute o f pos'] value pos) (Zk7 X.K ta tv f):=by
 intro pins s σ H D I h;refine plainObj_wpAny_Assign_Attribute (Zq (hv pins s σ H _ I h) fun u s1 ⟨y,H1,I1,ry,q⟩=>Zq (ha pins s1 σ H1 _ I1 q) fun ov s2 ⟨x,H2,I2,rx,a,C,dx,fs,ex,ea,c,n,l,q2⟩=>?_) hs;subst ex;obtain rfl:ov=Value.ref a:=rx;exact Zmk I2 ea c n l ry fun s3 I3=>⟨σ,_,I3,q2⟩
end
section
variable {c:Value} {b:Bool}
inductive TyOf (K:W.Frag) (H:Hp):V->Value->Prop where
 |non:TyOf K H .non (.type "NoneType")
 |bl (x:Bool):TyOf K H (.bl x) (.type "bool")
 |int (i:Int):TyOf K H (.int i) (.type "int")
 |str (x:Str):TyOf K H (.str x) (.type "str")
 |flt (x:UInt64):TyOf K H (.flt x) (.type "float")
 |lst {a:Addr} {xs:List V} (e:H a=some (.lst xs)):TyOf K H (.ref a) (.type "list")
 |frz {a:Addr} {o:Obj} {xs:List V} (e:H a=some (.frz o (.lst xs))):TyOf K H (.ref a) (.type "list")
 |tup {a:Addr} {xs:List V} (e:H a=some (.tup xs)):TyOf K H (.ref a) (.type "tuple")
 |dK {a:Addr} {kvs:List (Zl×V)} (e:H a=some (.dK kvs)):TyOf K H (.ref a) (.type "dict")
 |dT {a:Addr} {kvs:List (List Zl×V)} (e:H a=some (.dT kvs)):TyOf K H (.ref a) (.type "dict")
 |ins {a C dx : Addr} {fs : List (Str×V)} (e : H a=some (.ins C dx fs)) (cl : Cls K C) (ha : W.findIn K (.ref C) "__class__"=some (some (.builtin "object.__class__")))
   (hn:W.specialIn K (.builtin "object.__class__") "__get__"=some (some (.builtin "getset_descriptor.__get__"))) (htk:W.takesIn K (.builtin "object.__class__")=some true)
   (hm:W.mroIn K C (.type "object")=some true):TyOf K H (.ref a) (.ref C)
theorem Zop {x:V} {t:Value} (I:Inv X pins σ H s) (rx:RelV x u) (ty:TyOf X.K H x t) (e:W.kitOne X.K t c=some b) (h:∀tk,Q (.bool b) { s with toks:=tk }) :
  wpAny (model X.prog X.w) A (call (.builtin "isinstance") [u,c]) Q E s:=by
 cases ty with
 |non=>cases (show u=Value.none from rx);exact QY W.kitx_none I.kIn True.intro e (fun z=>nomatch z) h
 |bl y=>cases (show u=Value.bool y from rx);exact QY W.kitx_bool I.kIn True.intro e (fun z=>nomatch z) h
 |int i=>obtain ⟨t,q⟩:=(show ∃t,u=Value.int i t from rx);cases q;exact QY W.kitx_int I.kIn True.intro e (fun z=>nomatch z) h
 |str y=>obtain ⟨t,q⟩:=(show ∃t,u=Value.str y t from rx);cases q;exact QY W.kitx_str I.kIn True.intro e (fun z=>nomatch z) h
 |flt y=>obtain ⟨t,q⟩:=(show ∃t,u=Value.float y t from rx);cases q;exact QY W.kitx_float I.kIn True.intro e (fun z=>nomatch z) h
 |@lst a xs ea =>
  cases (show u=Value.ref a from rx);obtain ⟨_,_,n,_,h1⟩:=(show ObjOk X.prog X.w H s.heap a (.lst xs) from I.hok a _ ea);exact QY GJ I.kIn ⟨_,h1,rfl⟩ e (fun z=>nomatch z) h
 |@frz a ob xs ea =>
  cases (show u=Value.ref a from rx);obtain ⟨_,_,_,n,_,h1⟩:=(show ObjOk X.prog X.w H s.heap a (.frz ob (.lst xs)) from I.hok a _ ea);exact QY GJ I.kIn ⟨_,h1,rfl⟩ e (fun z=>nomatch z) h
 |@tup a xs ea =>
  cases (show u=Value.ref a from rx);obtain ⟨_,_,_,p⟩:=(show ObjOk X.prog X.w H s.heap a (.tup xs) from I.hok a _ ea);obtain ⟨o,h1,h2,_⟩:=p;exact QY W.kitx_tuple I.kIn ⟨o,h1,h2⟩ e (fun z=>nomatch z) h
 |@dK a kvs ea =>
  cases (show u=Value.ref a from rx);obtain ⟨_,_,vs,_,p⟩:=(show ObjOk X.prog X.w H s.heap a (.dK kvs) from I.hok a _ ea);obtain ⟨o,es,ep,h1,h2,_⟩:=p;exact QY W.kitx_dict I.kIn ⟨o,h1,h2.1⟩ e (fun z=>nomatch z) h
 |@dT a kvs ea =>
  cases (show u=Value.ref a from rx);obtain ⟨_,_,xs,_,o,es,ep,h1,h2,_⟩:=(show ObjOk X.prog X.w H s.heap a (.dT kvs) from I.hok a _ ea);exact QY W.kitx_dict I.kIn ⟨o,h1,h2.1⟩ e (fun z=>nomatch z) h
 |@ins a C dx fs ea cl ha hn htk hm =>
  cases (show u=Value.ref a from rx);obtain ⟨mA,O,_⟩:=Zaw I.hok ea;obtain ⟨od,J,_⟩:=O.look;exact QY (W.kitx_own (cl.get _) cl.hd ha hn htk hm) I.kIn J e (fun z=>nomatch z) h
end
structure Room (k:Nat) (A:Around):Prop where
 hd:A.handled=none
 dp:A.depth+3*k+5<recursionLimit
 un:A.units+16*k+200<cLine
theorem Room.mono {j k:Nat} (r:Room k A) (h:j≤k):Room j A:=⟨r.hd,by have:=r.dp;omega,by have:=r.un;omega⟩
theorem Room.deeper {k:Nat} (r:Room (k+1) A) (env:Env):Room k (A.deeper env) :=
 ⟨r.hd,by have:=r.dp;show A.depth+1+3*k+5<_;omega,by have:=r.un;show A.units+3+16*k+200<_;omega⟩
theorem Zo9:(A.under (.builtin "type.__call__" ⟨.ref C::us,kw⟩)).depth=A.depth+1:=by
 first|rfl|simp [Around.under,Code.weight,Code.isCreation,Code.isGuard,Code.isCaller,Code.frames,Code.isFrame,guardIds]
theorem Zm6:(A.under (.builtin "type.__call__" ⟨.ref C::us,kw⟩)).units=A.units+1:=by
 first|rfl|simp [Around.under,Code.cUnits,Code.frames,Code.isFrame]
theorem Room.make {k:Nat} (r:Room (k+1) A) (C:Addr) (us:List Value) (kw:List (Str×Value)):Room k (A.under (.builtin "type.__call__" ⟨.ref C::us,kw⟩)) :=
 ⟨r.hd,by have:=r.dp;rw [Zo9];omega,by have:=r.un;rw [Zm6];omega⟩
theorem Room.depth {k:Nat} (r:Room k A):A.depth<recursionLimit:=by have:=r.dp;omega
theorem Room.units {k:Nat} (r:Room k A):A.units+64<cLine:=by have:=r.un;omega
def Zas:TA:=fun _ H Q=>Q [] H
def Zax (ta:TE) (tr:TA):TA:=fun σ H Q=>ta σ H fun x H1=>tr σ H1 fun xs H2=>Q (x::xs) H2
section
variable {t:TA}
theorem Zb:PA X [] Zas:=fun _ _ _ _ H Q I h=>Gm ⟨[],H,I,.nil,h⟩
theorem Za (ha:PE X e te) (hr:PA X es t) (hs:starEach (e::es) X.env=(false,eval e X.env)::starEach es X.env:=by rfl):PA X (e::es) (Zax te t):=by
 intro pos pins s σ H Q I h;rw [hs];show wpAny _ _ (spliced ((false,eval e X.env)::backTo pos (starEach es X.env))) _ _ s;refine Rt (Zq (ha pins s σ H _ I h) fun u s1 ⟨x,H1,I1,r1,q1⟩=>?_);exact Zq (hr pos pins s1 σ H1 _ I1 q1) fun us s2 ⟨xs,H2,I2,r2,q2⟩=>⟨x::xs,H2,I2,.cons r1 r2,q2⟩
def Zge (t:TA):TE:=fun σ H Q=>t σ H fun xs H1=>xs.length≤sizeLine∧∀p,H1 p=none->Q (.ref p) (Zc H1 p (.tup xs))
def Zjg (t:TA):TE:=fun σ H Q=>t σ H fun xs H1=>xs.length≤sizeLine∧∀p,H1 p=none->Q (.ref p) (Zc H1 p (.lst xs))
theorem ZQ {x1} (h:PA X es t):PE X (.Tuple es x1 pos) (Zge t):=by
 intro pins s σ H Q I hq;refine wpAny_Tuple_spliced (Zq (h pos pins s σ H _ I hq) fun us s1 ⟨xs,H1,I1,r,z,q⟩=>⟨by rw [←r.length];exact z,?_⟩);have hf:H1 s1.heap.objs.size=none:=I1.hok.fresh (Qe _);refine ⟨.ref s1.heap.objs.size,Zc H1 s1.heap.objs.size (.tup xs),I1.laid (t':=s1.toks) (fun b u e=>Qk _ e) (Qe _) ?_,rfl,q _ hf⟩;exact ⟨z,us,r,⟨_,Qw _ rfl,rfl,_,rfl⟩⟩
theorem YD (h:PA X es t):PE X (.List es pos) (Zjg t):=by
 intro pins s σ H Q I hq;refine wpAny_List_spliced (Zq (h pos pins s σ H _ I hq) fun us s1 ⟨xs,H1,I1,r,z,q⟩=>⟨by rw [←r.length];exact z,?_⟩);have hf:H1 s1.heap.objs.size=none:=I1.hok.fresh (Qe _);refine ⟨.ref s1.heap.objs.size,Zc H1 s1.heap.objs.size (.lst xs),I1.laid (t':=s1.toks) (fun b u e=>Qk _ e) (Qe _) ?_,rfl,q _ hf⟩;exact ⟨z,us,0,r,Qw _ rfl⟩
end
abbrev Sp:=List V->Hp->VK->XK->Prop
abbrev Yv:=List Env->Hp->Shared->XK->Value->Shared->Prop
structure Env0 (P:Program) (w:World) (K:W.Frag) (mg:Str->Option Value) (base:Heap) (A:Around) (outer:List Env) (s:Shared) (H:Hp):Prop where
 frames:A.frames=some outer
 mod:Mod K mg base
 bs:∀b o,base.get? b=some o->s.heap.get? b=some o∧H b=none
 bsz:base.objs.size≤s.heap.objs.size
 funs:s.heap.FunFrames base outer
 frf:∀b∈Yq outer,H b=none
 hok:HOk P w H s.heap
 bare:AllBare s.gens
def CE (outer:List Env) (P:Program) (w:World) (H:Hp) (s:Shared) (Q:VK) (u:Value) (s':Shared):Prop :=
 ∃v H',s'.os=s.os∧AllBare s'.gens∧Un (Yq outer) [] H H' s.heap s'.heap∧HOk P w H' s'.heap∧RelV v u∧Q v H'
def CR (CX:Yv) (outer:List Env) (P:Program) (w:World) (H:Hp) (s:Shared) (Q:VK) (E:XK) (r:Result) (s':Shared):Prop :=
 match r with
 |.ok (.ret u)=>CE outer P w H s Q u s'
 |.ok _=>False
 |.error e=>CX outer H s E e s'
structure FnOk (P:Program) (w:World) (K:W.Frag) (mg:Str->Option Value) (base:Heap) (CX:Yv) (k:Nat) (f:Addr) (fd:FuncData) (ps:List Str) (sp:Sp):Prop where
 len:∀vs H Q E,sp vs H Q E->vs.length=ps.length
 run:∀(A:Around) (outer:List Env) (s:Shared) (H:Hp) (args:Args) (us:List Value) (vs:List V) (Q:VK) (E:XK),Room k A->Env0 P w K mg base A outer s H->BindsTo s fd args (ps.zip us)->Vals vs us->sp vs H Q E →
  codeAny (model P w) A (.call (.ref f) args) (CR CX outer P w H s Q E) s
theorem FnOk.imp {w:World} {mg:Str->Option Value} {k:Nat} {f:Addr} {sp sp':Sp} (F:FnOk P w K mg base CX k f fd ps sp)
 (h:∀vs H Q E,sp' vs H Q E->sp vs H Q E):FnOk P w K mg base CX k f fd ps sp' :=
 ⟨fun vs H Q E q=>F.len vs H Q E (h _ _ _ _ q),fun A outer s H args us vs Q E hr he hb hv hs=>F.run A outer s H args us vs Q E hr he hb hv (h _ _ _ _ hs)⟩
theorem Env0.make {w:World} {mg:Str->Option Value} {outer:List Env} (e:Env0 P w K mg base A outer s H) (C:Addr) (us:List Value) (kw:List (Str×Value)) :
  Env0 P w K mg base (A.under (.builtin "type.__call__" ⟨.ref C::us,kw⟩)) outer s H:=⟨by first|exact e.frames|(simpa [Around.under,Code.envs,Code.isFrame,pushEnvs] using e.frames),e.mod,e.bs,e.bsz,e.funs,e.frf,e.hok,e.bare⟩
section
variable {s':Shared}
theorem Inv.env0 (I:Inv X pins σ H s):Env0 X.prog X.w X.K X.mg X.base X.A X.stack s H :=
 ⟨I.ok.frames,I.ok.mod,I.bs,Qn I.ok.bsz I.sz,I.stack,I.stkFree,I.hok,I.bare⟩
theorem Inv.after {Q:VK} (I:Inv X pins σ H s) (h:CE X.stack X.prog X.w H s Q u s'):EP X pins σ Q u s':=by
 obtain ⟨v,H',os,bare,un,hok,r,q⟩:=h;obtain ⟨hh,g,d,t,os'⟩:=s';obtain rfl:os'=s.os:=os;exact ⟨v,H',I.call (h':=hh) (g':=g) (d':=d) (t':=t) (ch:=[]) un hok bare (fun b z=>absurd z (by simp)),r,q⟩
end
def Binds (K:W.Frag) (fd:FuncData) (ps:List Str) (ds:List Value):Prop :=
 ∀(s:Shared) (us:List Value),K.In s.heap->(us++ds).length=ps.length->BindsTo s fd ⟨us,[]⟩ (ps.zip (us++ds))
theorem Binds.all (h:∀us:List Value,us.length=ps.length->bindArgs fd ⟨us,[]⟩=pure (ps.zip us)):Binds K fd ps []:=fun s us _ hl=>by
 rw [Qt] at hl ⊢;exact .of_eq (h us hl)
def ZgD (CX:Yv) (X:Cx) (E:XK):Prop:=∀(pins:List (Addr×Obj)) (σ:St) (H:Hp) (s:Shared) (e:Value) (s':Shared),Inv X pins σ H s->CX X.stack H s E e s'->X.xe e s'
section
variable {k:Nat} {f:Addr} {sp:Sp} {dvs:List V} {ds:List Value} {E:XK} {x:Str} {p apos:Pos} {o:Expr} {t:TA}
theorem ZpF {Q:VK} {vs:List V} (F:FnOk X.prog X.w X.K X.mg X.base CX k f fd ps sp) (hr:Room k X.A) (hb:Binds X.K fd ps ds) (hd:Vals dvs ds) (hx:ZgD CX X E)
 (I:Inv X pins σ H s) (r:Vals vs us) (h:sp (vs++dvs) H Q E):wpAny (model X.prog X.w) X.A (call (.ref f) us) (EP X pins σ Q) X.xe s:=by
 have r2:Vals (vs++dvs) (us++ds):=r.append hd;have hl:(us++ds).length=ps.length:=by rw [←r2.length];exact F.len _ _ _ _ h
 refine RN (RO (F.run X.A X.stack s H ⟨us,[]⟩ (us++ds) (vs++dvs) Q E hr I.env0 (hb s us I.kIn hl) r2 h) fun r s' hq=>?_);cases r with
 |error e=>exact hx pins σ H s e s' I hq
 |ok fl =>
  cases fl with
  |ret u=>exact I.after hq
  |next=>exact False.elim hq
  |brk=>exact False.elim hq
  |cont=>exact False.elim hq
structure Mk (K:W.Frag) (C f:Addr):Prop where
 makes:W.makesIn K C=true
 init:W.findIn K (.ref C) "__init__"=some (some (.ref f))
 fn:W.isFn K (.ref f)=true
 kp:W.keepIn K (.ref C)=true
end
section
variable {k:Nat} {f:Addr} {ks:List Str} {sp:Sp} {E:XK} {x:Str} {p apos kpos:Pos} {o:Expr} {kws:List Keyword} {t tk:TA} {nm:Option Str}
variable {g:List Value->List Value->List Value} {gV:List V->List V->List V}
end
structure FnScope (N P:List Str) (sc:Scope):Prop where
 kind:sc.kind=.function
 co:sc.isCoroutine=false
 gen:sc.isGenerator=false
 nd:N.Nodup
 pre:N.take P.length=P
 par:∀x∈P,sc.names.lookup x=some .local∨sc.names.lookup x=some .cell
 nofree:∀y∈sc.names,y.2≠.free
theorem Zfi {kindOf:Str->Option NameKind} {x:Str}:∀{binds:List (Str×Value)} {m:Str->Option Value},(∀v,(x,v)∉binds)->bindL kindOf binds m x=m x
 |[],_,_=>rfl
 | (n,v)::r,m,h=>by
  unfold bindL;rw [Zfi fun w hw=>h w (QC _ hw)];split
  ·have:x≠n:=by rintro rfl;exact h v QH
   simp [this]
  ·rfl
theorem Zfo {kindOf:Str->Option NameKind} {x:Str}:∀{binds:List (Str×Value)} {m:Str->Option Value},(∀v,(x,v)∉binds)->bindC kindOf binds m x=m x
 |[],_,_=>rfl
 | (n,v)::r,m,h=>by
  unfold bindC;rw [Zfo fun w hw=>h w (QC _ hw)];split
  ·rfl
  ·have:x≠n:=by rintro rfl;exact h v QH
   simp [this]
theorem Zh7 {kindOf:Str->Option NameKind} {x:Str} {v:Value}:∀{P:List Str} {vs:List Value} {i:Nat} {m:Str->Option Value},P.Nodup->P[i]?=some x->vs[i]?=some v->kindOf x=some .local →
  bindL kindOf (P.zip vs) m x=some v
 |[],_,_,_,_,h,_,_=>by simp at h
 |_::_,[],_,_,_,_,h,_=>by simp at h
 |p::P,w::vs,0,m,nd,h1,h2,hk=>by
  simp at h1 h2;subst h1;subst h2;show bindL kindOf ((p,w)::P.zip vs) m p=_;unfold bindL;rw [Zfi fun v hv=>(QP.mp nd).1 (Nh hv).1,Qb hk];simp
 |p::P,w::vs,i+1,m,nd,h1,h2,hk=>by
  show bindL kindOf ((p,w)::P.zip vs) m x=_;unfold bindL;exact Zh7 (i:=i) (QP.mp nd).2 (by simpa using h1) (by simpa using h2) hk
theorem Zhy {kindOf:Str->Option NameKind} {x:Str} {v:Value}:∀{P:List Str} {vs:List Value} {i:Nat} {m:Str->Option Value},P.Nodup->P[i]?=some x->vs[i]?=some v->kindOf x≠some .local →
  bindC kindOf (P.zip vs) m x=some v
 |[],_,_,_,_,h,_,_=>by simp at h
 |_::_,[],_,_,_,_,h,_=>by simp at h
 |p::P,w::vs,0,m,nd,h1,h2,hk=>by
  simp at h1 h2;subst h1;subst h2;show bindC kindOf ((p,w)::P.zip vs) m p=_;unfold bindC;rw [Zfo fun v hv=>(QP.mp nd).1 (Nh hv).1,Qa hk];simp
 |p::P,w::vs,i+1,m,nd,h1,h2,hk=>by
  show bindC kindOf ((p,w)::P.zip vs) m x=_;unfold bindC;exact Zhy (i:=i) (QP.mp nd).2 (by simpa using h1) (by simpa using h2) hk
noncomputable def start (N:List Str) (vs:List V):St:=vs.map some++List.replicate (N.length-vs.length) none
noncomputable def WM (CX:Yv) (P:Program) (w:World) (K:W.Frag) (mg:Str->Option Value) (base:Heap) (N:List Str) (qual:Str) (scope:Scope) (f:Addr) (cd:Value) (A:Around) (outer:List Env) (s:Shared) (H:Hp) (E:XK):Cx where
 prog:=P
 w:=w
 K:=K
 mg:=mg
 base:=base
 A:=A.deeper (envOfC qual scope s.heap.objs.size f cd)
 N:=N
 s₀:=s
 H₀:=H
 env:=envOfC qual scope s.heap.objs.size f cd
 outer:=outer
 stack:=envOfC qual scope s.heap.objs.size f cd::outer
 ex:=[]
 calm:=true
 fn:=fun _=>true
 pn:=[]
 xe:=fun e s'=>wpAny (model P w) (A.deeper (envOfC qual scope s.heap.objs.size f cd)) (leaving (envOfC qual scope s.heap.objs.size f cd) e) (fun _ s''=>CX outer H s E e s'') (fun e' s''=>CX outer H s E e' s'') s'
theorem Zfq {sc:Scope} {x:Str} (h:sc.names.lookup x=some .cell):∃c,(cellsFrom n sc.names []).lookup x=some c:=by
 have q:=W.cellsFrom_some sc.names n [] (.inl h);exact GK.mp q
theorem ZmO {w:World} {mg:Str->Option Value} {qual:Str} {scope:Scope} {f:Addr} {cd:Value} {outer:List Env} {s1:Shared} {E:XK} {vs:List V}
 (S:FnScope N ps scope) (hd:A.handled=none) (e0:Env0 P w K mg base A outer s H) (hl:vs.length=ps.length) (r:Vals vs us)
 (x:InCallC s s.heap.objs.size (bindL (envOfC qual scope s.heap.objs.size f cd).kindOf (ps.zip us) fun _=>none) (cellsFrom (s.heap.objs.size+1) scope.names []) (bindC (envOfC qual scope s.heap.objs.size f cd).kindOf (ps.zip us) fun _=>none) s1) :
  Inv (WM CX P w K mg base N qual scope f cd A outer s H E) [] (start N vs) H s1:=by
 have hpl:ps.length≤N.length:=by have:=QB List.length S.pre;rw [Q6] at this;omega
 obtain ⟨h1,tk,rfl,hk⟩:=x.done;have noA:∀b:Addr,b∉(WM CX P w K mg base N qual scope f cd A outer s H E).ex:=fun b z=>absurd (show b∈([]:List Addr) from z) (by simp)
 refine ⟨⟨e0.mod,S.kind,rfl,rfl,Qe _,fun y z c h1 h2=>?_,fun y hy=>?_,fun y c _ h=>?_,fun _=>hd,Around.frames_deeper e0.frames,.inr ⟨rfl,rfl⟩,fun b z=>absurd z (noA b),e0.bs,e0.bsz,fun b _ _=>noA b,fun b z=>absurd z (noA b),e0.funs,e0.frf⟩,
  rfl,e0.bare,Un.kept hk,⟨_,x.toInCall.ns,fun i y v h1 h2 h3=>?_⟩,fun y c h=>⟨_,x.cell y c h⟩,e0.hok.fresh (Qe _),fun y c h=>?_,fun p hp=>absurd (show p∈([]:List (Addr×Obj)) from hp) (by simp),e0.hok.kept hk,?_⟩
 ·exact name_of_addr x.apart (RP h1) (RP h2)
 ·have hy:scope.names.lookup y=some .cell∨scope.names.lookup y=some .free:=hy;rcases hy with hy|hy
  ·exact Zfq hy
  ·exact absurd rfl (S.nofree _ (RP hy))
 ·exact QO (x.above y c (RP h))
 ·have hi:i<vs.length:=by
   unfold start at h2;by_cases hi:i<vs.length
   ·exact hi
   ·rw [Rn (by simpa using hi)] at h2;rw [List.getElem?_replicate] at h2;split at h2<;>cases h2
  have ha:vs[i]?=some v:=by
   unfold start at h2;rw [RQ (by simpa using hi),Qo] at h2;cases e:vs[i]? with
   |none=>rw [e] at h2;cases h2
   |some a=>rw [e] at h2;cases h2;rfl
  obtain ⟨u,hu,rv⟩:=r.get ha
  have hp:ps[i]?=some y:=by
   rw [←S.pre,Ni (by omega)];exact h1
  have ndP:ps.Nodup:=by rw [←S.pre];exact S.nd.sublist (List.take_sublist _ _)
  refine ⟨u,rv,?_⟩;rcases S.par y (QL hp) with k|k
  ·exact .inl ⟨k,Zh7 ndP hp hu k⟩
  ·obtain ⟨c,e⟩:=Zfq (n:=s.heap.objs.size+1) k;refine .inr ⟨.inl k,c,e,?_⟩;have q:=x.cell y c e;rw [Zhy ndP hp hu (by show scope.names.lookup y≠_;rw [k];decide)] at q;exact q
 ·exact e0.hok.fresh (QO (x.above y c (RP h)))
 ·unfold start;show _=N.length;rw [Qq,Qc,List.length_replicate];omega
theorem Zcw {w:World} {mg:Str->Option Value} {k:Nat} {f:Addr} {name qual:Str} {params:Arguments} {body:List Stmt} {scope:Scope} {dV kV doc pm cdv ct oc:Value} {an od:Option Addr}
 {osl:Array (Option Value)} {sp:Sp} (lk:K.lookup f=some ⟨oc,od,.func (W.fnOf name qual params body scope dV kV doc pm an cdv ct),osl⟩) (hcd:W.codeIn K cdv qual=true) (S:FnScope N ps scope)
 (len:∀vs H Q E,sp vs H Q E->vs.length=ps.length)
 (hbody:∀(A:Around) (outer:List Env) (s:Shared) (H:Hp) (vs:List V) (Q:VK) (E:XK),Room k (A.deeper (envOfC qual scope s.heap.objs.size f cdv))->sp vs H Q E →
 ∃t,PSs (WM CX P w K mg base N qual scope f cdv A outer s H E) body t∧t { nx:=fun _ H'=>Q .non H',rt:=Q } (start N vs) H) :
  FnOk P w K mg base CX (k+1) f (W.fnOf name qual params body scope dV kV doc pm an cdv ct) ps sp:=by
 refine ⟨len,fun A outer s H args us vs Q E hr e0 hb r hsp=>?_⟩;have hl:=len _ _ _ _ hsp;have KX:K.In s.heap:=e0.mod.kin.keeps fun b o e=>(e0.bs b o e).1;have lim:s.heap.NoLimit:=e0.mod.nolimit.keeps fun b o e=>(e0.bs b o e).1
 have hkind:∀y∈ps.zip us,scope.names.lookup y.1=some .local∨(scope.names.lookup y.1=some .cell∧((cellsFrom (s.heap.objs.size+1) scope.names []).lookup y.1).isSome=true):=fun ⟨n,v⟩ hy=>by
  rcases S.par n (Nh hy).1 with q|q
  ·exact .inl q
  ·exact .inr ⟨q,W.cellsFrom_some _ _ _ (.inl q)⟩
 refine codeAny_call_function hr.depth (KX _ _ lk) rfl S.co S.gen rfl (W.codeRec_of KX hcd) (hb _ _ _ _ ?_);refine wpAny_newFunctionEnv_cells S.kind hkind fun env he s1 x=>?_;subst he;refine ⟨lim.keeps x.toInCall.keep,codeAny_func ?_⟩;obtain ⟨t,ht,hq⟩:=hbody A outer s H vs Q E (hr.deeper _) hsp;have I:Inv (WM CX P w K mg base N qual scope f cdv A outer s H E) [] (start N vs) H s1:=ZmO S hr.hd e0 hl r x;refine Q4 (ht [] s1 (start N vs) H _ I hq) (fun fl s' hs=>?_) fun e s' hs=>hs
 have fin:∀{σ':St} {H':Hp} {v:V} {u:Value},Inv (WM CX P w K mg base N qual scope f cdv A outer s H E) [] σ' H' s'->RelV v u->Q v H'->CE outer P w H s Q u s' :=
  fun {σ' H' v u} J rv q=>⟨v,H',J.os,J.bare,J.base,J.hok,rv,q⟩
 cases fl with
 |ret u =>
  obtain ⟨v,σ',H',J,rv,q⟩:=hs;exact fin J rv q
 |next =>
  obtain ⟨σ',H',J,q⟩:=hs;exact fin (v:=V.non) (u:=Value.none) J rfl q
 |brk =>
  obtain ⟨_,_,_,q⟩:=hs;exact False.elim q
 |cont =>
  obtain ⟨_,_,_,q⟩:=hs;exact False.elim q
section
variable {x:Str} {p:Pos} {t:TA} {id T:String} {r:List V->Hp->VK->Prop}
def tCB (r:List V->Hp->VK->Prop) (t:TA):TE:=fun σ H Q=>t σ H fun vs H1=>r vs H1 Q
theorem Yi (hc:Y4 X (.builtin id) r) (hg:Gl X x) (hm:X.mg x=none) (hv:bootBuiltins x=some (.builtin id)) (ha:PA X (e::es) t) (hn:x≠"__name__":=by decide) (hdb:(x==("__debug__": Str))=false:=by decide)
 (he:starEach (e::es) X.env=(false,eval e X.env)::starEach es X.env:=by rfl) (hpl:(backTo pos (starEach es X.env)).any (·.1)=false:=by rfl):PE X (.Call (.Name x p) (e::es) [] pos) (tCB r t):=by
 intro pins s σ H Q I h;refine Ro (Ub I hg hm hv ?_ hn hdb);exact PyProof.Rows.callWith_builtin1 (Zq (ha pos pins s σ H _ I h) fun us s1 ⟨vs,H1,I1,r1,q1⟩=>hc pins s1 σ H1 vs us Q I1 r1 q1) he hpl
theorem Zar (hc:Y4 X (.type T) r) (hg:Gl X x) (hm:X.mg x=none) (hv:bootBuiltins x=some (.type T)) (ha:PA X (e::es) t) (hn:x≠"__name__":=by decide) (hdb:(x==("__debug__": Str))=false:=by decide)
 (he:starEach (e::es) X.env=(false,eval e X.env)::starEach es X.env:=by rfl) (hpl:(backTo pos (starEach es X.env)).any (·.1)=false:=by rfl):PE X (.Call (.Name x p) (e::es) [] pos) (tCB r t):=by
 intro pins s σ H Q I h;refine Ro (Ub I hg hm hv ?_ hn hdb);exact GH (Zq (ha pos pins s σ H _ I h) fun us s1 ⟨vs,H1,I1,r1,q1⟩=>hc pins s1 σ H1 vs us Q I1 r1 q1) he hpl
end
end L2
namespace HT
open PySem PyProof.Rows
section
open PySem.SeqAt
open PySem.AutoSeq1 (wpAny_loadPart')
open PySem.MeetsSeq PySem.MeetsSeq2 PySem.MeetsSeq3
end
section
variable {prog:Program} {w:World} {A:Around} {E:Value->Shared->Prop} {s:Shared}
theorem cat_tup {t b:Addr} {vs ws:List Value} {Q:Value->Shared->Prop} (ht:IsTup s.heap t vs.toArray) (hb:IsTup s.heap b ws.toArray) (hv:vs≠[])
  (h1:ws=[]->Q (.ref t) s) (h2:ws≠[]->Q (.ref s.heap.objs.size) { s with heap:=s.heap.push { cls:=.type "tuple",data:=.seq (vs++ws).toArray } })
  (hsz:vs.length+ws.length≤sizeLine):wpAny (model prog w) A (binaryOp .Add (.ref t) (.ref b)) Q E s:=by
 obtain ⟨⟨cls,dd,data,sl⟩,ho,hc,n,hd⟩:=id ht;obtain ⟨⟨cls2,dd2,data2,sl2⟩,ho2,hc2,n2,hd2⟩:=id hb;simp only at hc hd hc2 hd2;subst hc hd hc2 hd2;have e:vs.toArray++ws.toArray=(vs++ws).toArray:=by simp
 by_cases hw:ws=[]
 ·exact concat_meets ⟨_,ho,rfl⟩ ⟨_,ho2,rfl⟩ Nj seq_tuple_add Nk Nl (Nn _ _)
   (tuple_addW1 t b vs.toArray ws.toArray n n2 dd dd2 sl sl2 (by simpa using hv) (by simp [hw])) ⟨ho,ho2,h1 hw⟩
 ·refine concat_meets ⟨_,ho,rfl⟩ ⟨_,ho2,rfl⟩ Nj seq_tuple_add Nk Nl (Nn _ _)
   (tuple_addW2 t b vs.toArray ws.toArray n n2 dd dd2 sl sl2 (by simpa using hv) (by simpa using hw) (by rw [Qz,Qz];exact hsz)) ⟨ho,ho2,?_⟩
  rw [e];exact h2 hw
noncomputable def sIx (n d:Nat):Option Int->Nat
 |none=>d
 |some v=>if v<0 then (v+(n:Int)).toNat else min v.toNat n
theorem sIx_none (n d:Nat):sIx n d none=d:=rfl
theorem sIx_nat (n d k:Nat):sIx n d (some (k:Int))=min k n:=by
 show (if (k:Int)<0 then ((k:Int)+(n:Int)).toNat else min (k:Int).toNat n)=min k n;rw [Qa (by omega),R4]
theorem ZlM (n d:Nat) (hd:d≤n) (o:Option Int):sIx n d o≤n:=by
 cases o with
 |none=>exact hd
 |some v =>
  show (if v<0 then (v+(n:Int)).toNat else min v.toNat n)≤n;by_cases hv:v<0
  ·rw [Qb hv];omega
  ·rw [Qa hv];exact Nat.min_le_right _ _
theorem Zhu (v:Int) (n d:Nat):(if v<0 then max (v+(n:Int)) 0 else min v (n:Int))=((sIx n d (some v):Nat):Int):=by
 show (if v<0 then max (v+(n:Int)) 0 else min v (n:Int))=(((if v<0 then (v+(n:Int)).toNat else min v.toNat n):Nat):Int);by_cases hv:v<0
 ·simp only [Qb hv];omega
 ·simp only [Qa hv];omega
theorem Zi6 (lo hi:Option Int) (n:Nat):Builtin.Slice.sliceAdjust lo hi 1 (n:Int)=(((sIx n 0 lo:Nat):Int),((sIx n n hi:Nat):Int)):=by
 have h1:¬((1:Int)<0):=by omega
 unfold Builtin.Slice.sliceAdjust;simp only [h1,Re];refine Rg ?_ ?_
 ·cases lo with
  |none=>rfl
  |some v=>exact Zhu v n 0
 ·cases hi with
  |none=>rfl
  |some v=>exact Zhu v n n
theorem Zmi (i j:Nat):Builtin.Slice.slicePlaces (i:Int) (j:Int) 1=j-i:=by
 unfold Builtin.Slice.slicePlaces;have h1:(1:Int) > 0:=by omega
 simp only [h1,RA,Int.ediv_one];split<;>omega
theorem Zh6 {v:Value} {o:Option Int} {Q:Option Int->Shared->Prop} (p:IsPart v o) (h:Q o s):wpAny (model prog w) A (Builtin.Slice.slicePartIndex v) Q E s:=by
 cases p with
 |none=>exact slicePart_none h
 |int i t=>exact slicePart_int h
theorem sliceApplied_gen {sl:Addr} {vl vu:Value} {lo hi:Option Int} {n:Nat} {Q:Int×Int×Nat->Shared->Prop} (hs:s.heap.IsSliceOf sl vl vu .none) (pl:IsPart vl lo) (pu:IsPart vu hi)
  (h:Q (((sIx n 0 lo:Nat):Int),1,sIx n n hi-sIx n 0 lo) s):wpAny (model prog w) A (Builtin.Slice.sliceApplied (.ref sl) (pure (n:Int))) Q E s:=by
 obtain ⟨os,hos,hcs,hds⟩:=id hs;unfold Builtin.Slice.sliceApplied Builtin.Slice.sliceFields;refine Qd (Qd (Q1 hos hds (x:=vl) rfl (Qd (Q1 hos hds (x:=vu) rfl (Qd (Q1 hos hds (x:=.none) rfl (Qf ?_)))))));refine Qd (slicePart_none ?_);show wpAny _ _ (if ((1:Int)==0)=true then _ else _) _ _ s;rw [Qa (by decide)];refine Qd (Zh6 pl (Qd (Zh6 pu (Qd (Qf ?_)))));show wpAny _ _ (match Builtin.Slice.sliceAdjust lo hi 1 (n:Int) with|(lo,hi)=>pure (lo,(1:Int),Builtin.Slice.slicePlaces lo hi 1)) _ _ s;rw [Zi6 lo hi n];show wpAny _ _ (pure (((sIx n 0 lo:Nat):Int),(1:Int),Builtin.Slice.slicePlaces ((sIx n 0 lo:Nat):Int) ((sIx n n hi:Nat):Int) 1)) _ _ s;rw [Zmi];exact Qf h
theorem Zmc (xs:Array Value) (i k:Nat):((List.range k).filterMap fun (m:Nat)=>xs[((i:Int)+(m:Int)*1).toNat]?).toArray=((xs.toList.drop i).take k).toArray:=by
 have e:(fun (m:Nat)=>xs[((i:Int)+(m:Int)*1).toNat]?)=fun m=>xs[i+m]?:=by
  funext m
  have:((i:Int)+(m:Int)*1).toNat=i+m:=by omega
  rw [this]
 rw [e];have:=pick_run xs i k;rw [RB] at this;have e2:((fun x=>xs[x]?)∘fun x=>i+x)=fun m=>xs[i+m]?:=rfl;rw [e2] at this;rw [this]
theorem getItem_tuple_cut {t sl:Addr} {items:Array Value} {vl vu:Value} {lo hi:Option Int} {Q:Value->Shared->Prop} (ht:IsTup s.heap t items) (hs:s.heap.IsSliceOf sl vl vu .none) (pl:IsPart vl lo) (pu:IsPart vu hi)
  (hw:¬(sIx items.size 0 lo=0∧sIx items.size items.size hi=items.size))
  (h:Q (.ref s.heap.objs.size) { s with heap:=s.heap.push { cls:=.type "tuple",data:=.seq ((items.toList.drop (sIx items.size 0 lo)).take (sIx items.size items.size hi-sIx items.size 0 lo)).toArray } })
  (hsz:items.size≤sizeLine):wpAny (model prog w) A (getItem (.ref t) (.ref sl)) Q E s:=by
 have htake:sizeOk (.seq ((items.toList.drop (sIx items.size 0 lo)).take (sIx items.size items.size hi-sIx items.size 0 lo)).toArray):=by
  show ((items.toList.drop (sIx items.size 0 lo)).take (sIx items.size items.size hi-sIx items.size 0 lo)).toArray.size≤sizeLine;rw [Qz,Q6,GL,R3];omega
 have hj:sIx items.size items.size hi≤items.size:=ZlM _ _ (Qe _) hi;obtain ⟨os,hos,hcs,hds⟩:=id hs;have hTs:s.TypeIs (.ref sl) "slice":=⟨os,hos,hcs⟩;unfold getItem
 try with_reducible refine Rm ?_
 first|refine Qd (Qf ?_)|skip
 refine Qd (wpAny_sequenceKey ht.typeIs (by decide) ?_)
 refine Qd (RS (name:=Str.ofString "__getitem__") ht.typeIs R5
  (RC R5 ht.typeIs entry_tuple_getitem ?_ (args_tuple_getitem _ _)))
 show wpAny _ _ (Builtin.Tuple.tupleItemsOf (.ref t) >>= _) _ _ s;refine Qd (tupleItemsOf_ ht ?_);refine Qd (GM hTs ?_);rw [Qb (by decide)];refine Qd (sliceApplied_gen hs pl pu ?_)
 have hno:¬((((sIx items.size 0 lo:Nat):Int)==0&&(1:Int)==1&&(sIx items.size items.size hi-sIx items.size 0 lo)==items.size)=true):=by
  intro q;rw [RD,RD] at q;have q1:((sIx items.size 0 lo:Nat):Int)=0:=eq_of_beq q.1.1;have q2:sIx items.size items.size hi-sIx items.size 0 lo=items.size:=eq_of_beq q.2;exact hw ⟨by omega,by omega⟩
 show wpAny _ _ (if (((sIx items.size 0 lo:Nat):Int)==0&&(1:Int)==1&&(sIx items.size items.size hi-sIx items.size 0 lo)==items.size)=true then _ else _) _ _ s;rw [Qa hno,Zmc]
 first
  |exact Qd (m:=Builtin.Tuple.tupleExact _) (RU (Qf ⟨_,rfl,Qf h⟩) htake)
  |exact Qd (m:=Builtin.Tuple.tupleExact _) (RU (Qd (Qf (Qf ⟨_,rfl,Qf h⟩))) htake)
  |exact Qd (Qd (m:=Builtin.Tuple.tupleExact _) (RU (Qf (Qf ⟨_,rfl,Qf h⟩)) htake))
  |exact Qd (Qd (m:=Builtin.Tuple.tupleExact _) (RU (Qf ⟨_,rfl,Qf h⟩) htake))
end
end HT
namespace L2
open PySem PySem.Spec PyProof.Rows
variable {a b:Addr} {A:Around} {X:Cx} {e:Expr} {H H':Hp} {pins:List (Addr×Obj)} {xs:List (List Zl×Addr×Value)} {kvs:List (List Zl×V)} {its:List Value} {n t':Nat} {o:Option V} {pos:Pos} {P:Program} {s:Shared} {σ:St} {T:String} {y:V} {u:Value} {E Q:Value->Shared->Prop}
abbrev TO:=St->Hp->(Option Int->Hp->Prop)->Prop
def PO (X:Cx) (e:Option Expr) (t:TO):Prop :=
 ∀(pins:List (Addr×Obj)) (s:Shared) (σ:St) (H:Hp) (Q:Option Int->Hp->Prop),Inv X pins σ H s->t σ H Q →
  wpAny (model X.prog X.w) X.A (evalPart e X.env) (fun u s'=>∃o H',Inv X pins σ H' s'∧IsPart u o∧Q o H') X.xe s
def Zbx:TO:=fun _ H Q=>Q none H
def ZbO (t:TE):TO:=fun σ H Q=>t σ H fun x H1=>∃i,x=.int i∧Q (some i) H1
theorem ZmD {ns:List Int}:∀{us:List Value},Vals (ns.map V.int) us->IntsAre us ns:=by
 induction ns with
 |nil=>intro us r;rw [Gn] at r;cases r;exact .nil
 |cons n ns ih =>
  intro us r;rw [Qx] at r;cases r with
  |cons r1 r2 =>
   obtain ⟨t,e⟩:=r1;subst e;exact .cons n t (ih r2)
section
variable {te:TE} {lo hi:Option Expr} {tl th:TO} {p2:Pos}
theorem Wr:PO X none Zbx:=by
 intro pins s σ H Q I h;rw [evalPart_none];exact Qf ⟨none,H,I,.none,h⟩
theorem Y7 (h:PE X e te):PO X (some e) (ZbO te):=by
 intro pins s σ H Q I hw;rw [evalPart_some];refine Zq (h pins s σ H _ I hw) fun u s1 ⟨x,H1,I1,r1,q1⟩=>?_;obtain ⟨i,rfl,q⟩:=q1;obtain ⟨t,rfl⟩:=r1;exact ⟨some i,H1,I1,.int i t,q⟩
def SlR (X:Cx) (r:V->Option Int->Option Int->Hp->VK->Prop):Prop :=
 ∀(pins:List (Addr×Obj)) (s:Shared) (σ:St) (H:Hp) (x:V) (v vl vu:Value) (lo hi:Option Int) (sl:Addr) (Q:VK),Inv X pins σ H s->RelV x v->s.heap.IsSliceOf sl vl vu .none->IsPart vl lo->IsPart vu hi->r x lo hi H Q →
  ∃T id,typeLookup (.type T) "__getitem__"=pure (some (.builtin id))∧s.TypeIs v T∧wpAny (model X.prog X.w) X.A (getItem v (.ref sl)) (EP X pins σ Q) X.xe s
def tSl (r:V->Option Int->Option Int->Hp->VK->Prop) (te:TE) (tl th:TO):TE:=fun σ H Q=>te σ H fun x H1=>tl σ H1 fun l H2=>th σ H2 fun u H3=>r x l u H3 Q
theorem XA {r:V->Option Int->Option Int->Hp->VK->Prop} (hr:SlR X r) (he:PE X e te) (hl:PO X lo tl) (hu:PO X hi th):PE X (.Subscript e (.Slice lo hi none p2) pos) (tSl r te tl th):=by
 intro pins s σ H Q I h;refine Subscript_ (Zq (he pins s σ H _ I h) fun v s1 ⟨x,H1,I1,r1,q1⟩=>?_);refine wpAny_Slice (Zq (hl pins s1 σ H1 _ I1 q1) fun vl s2 ⟨l,H2,I2,pl,q2⟩=>Zq (hu pins s2 σ H2 _ I2 q2) fun vu s3 ⟨u,H3,I3,pu,q3⟩=>?_);rw [evalPart_none];refine Qf ?_;have I4:Inv X pins σ H3 { s3 with heap:=s3.heap.push { cls:=.type "slice",data:=.fields #[vl,vu,.none] } }:=I3.kept (t':=s3.toks) fun b ob q=>Qk _ q;obtain ⟨T,id,hT,ht,hg⟩:=hr pins { s3 with heap:=s3.heap.push { cls:=.type "slice",data:=.fields #[vl,vu,.none] } } σ H3 x v vl vu l u s3.heap.objs.size Q I4 r1 (Heap.IsSliceOf.new ..) pl pu q3;show wpAny (model X.prog X.w) X.A (subscriptTail e (.Slice lo hi none p2) v (.ref s3.heap.objs.size)) (EP X pins σ Q) X.xe { s3 with heap:=s3.heap.push { cls:=.type "slice",data:=.fields #[vl,vu,.none] } };exact tail_any (ops:=[.ref s3.heap.objs.size,v]) ht hT hg (by with_unfolding_all rfl)
noncomputable def YL (xs:List V) (lo hi:Option Int):List V:=(xs.drop (HT.sIx xs.length 0 lo)).take (HT.sIx xs.length xs.length hi-HT.sIx xs.length 0 lo)
theorem Zf0 (xs:List V) (lo hi:Option Int):(YL xs lo hi).length≤xs.length:=by
 unfold YL;rw [Q6,GL];omega
def ZfG (K:W.Frag):V->Option Int->Option Int->Hp->VK->Prop:=fun x lo hi H Q=>∃a xs,x=.ref a∧SqT K H a xs ∧
 ¬(HT.sIx xs.length 0 lo=0∧HT.sIx xs.length xs.length hi=xs.length)∧∀p,H p=none->Q (.ref p) (Zc H p (.tup (YL xs lo hi)))
theorem JY:SlR X (ZfG X.K):=by
 intro pins s σ H x v vl vu lo hi sl Q I rx hs pl pu h;obtain ⟨a,xs,rfl,hx,hw,q⟩:=h;cases rx;obtain ⟨its,r,ht,hz⟩:=I.tuple hx;have hlen:its.toArray.size=xs.length:=by rw [Qz];exact r.length.symm
 refine ⟨"tuple",_,R5.lookup,ht.typeIs,?_⟩;refine HT.getItem_tuple_cut ht hs pl pu (by rw [hlen];exact hw) ?_ (by rw [hlen];exact hz);rw [hlen];refine ⟨.ref s.heap.objs.size,_,I.laid (t':=s.toks) (o:=.tup (YL xs lo hi)) (fun b ob q=>Qk _ q) (Qe _) ?_,rfl,q _ (I.hok.fresh (Qe _))⟩;exact ⟨Qn (Zf0 xs lo hi) hz,_,(r.drop (HT.sIx xs.length 0 lo)).take (HT.sIx xs.length xs.length hi-HT.sIx xs.length 0 lo),IsTup.new _ _⟩
def Zj5 (K:W.Frag):R2:=fun x y H Q=>∃a b xs ys,x=.ref a∧y=.ref b∧SqT K H a xs∧SqT K H b ys∧xs≠[]∧xs.length+ys.length≤sizeLine ∧
 (ys=[]->Q (.ref a) H)∧(ys≠[]->∀p,H p=none->Q (.ref p) (Zc H p (.tup (xs++ys))))
theorem Vals.nil_iff {xs:List V} {us:List Value} (r:Vals xs us):us=[]↔xs=[]:=by
 cases r with
 |nil=>simp
 |cons _ _=>simp
theorem ZfO:Yl X (binaryOp .Add) (Zj5 X.K):=by
 intro pins s σ H x y v u Q I rx ry h;obtain ⟨a,b,xs,ys,rfl,rfl,ha,hb,hx,hz,q1,q2⟩:=h;cases rx;cases ry;obtain ⟨its,r1,p1,_⟩:=I.tuple ha;obtain ⟨its2,r2,p2,_⟩:=I.tuple hb;refine HT.cat_tup p1 p2 (fun z=>hx (r1.nil_iff.mp z)) (fun z=>⟨.ref a,H,I,rfl,q1 (r2.nil_iff.mp z)⟩) (fun z=>?_) (by rw [←r1.length,←r2.length];exact hz);refine ⟨.ref s.heap.objs.size,_,I.laid (t':=s.toks) (o:=.tup (xs++ys)) (fun b ob q=>Qk _ q) (Qe _) ?_,rfl,q2 (fun w=>z (r2.nil_iff.mpr w)) _ (I.hok.fresh (Qe _))⟩;exact ⟨by rw [Qq];exact hz,_,r1.append r2,IsTup.new _ _⟩
end
noncomputable def Wo (n:Nat) (i:Int):Option Nat:=if 0≤i then (if i<n then some i.toNat else none) else if -(n:Int)≤i then some (i+n).toNat else none
noncomputable def Yg {α:Type} (xs:List α) (i:Int):Option α:=(Wo xs.length i).bind fun j=>xs[j]?
theorem ZhK {i:Int} {j:Nat} (h:Wo n i=some j):seqIndex? i n=some j∧j<n∧-(n:Int)≤i∧i<n:=by
 unfold Wo at h;by_cases h0:0≤i
 ·rw [Qb h0] at h;by_cases h1:i<n
  ·rw [Qb h1] at h;have e:i.toNat=j:=Qj h;exact ⟨by rw [seqIndex_of h0 h1,e],by omega,by omega,h1⟩
  ·rw [Qa h1] at h;cases h
 ·rw [Qa h0] at h;by_cases h1:-(n:Int)≤i
  ·rw [Qb h1] at h;have e:(i+n).toNat=j:=Qj h;exact ⟨by rw [seqIndex_neg (by omega) h1,e],by omega,h1,by omega⟩
  ·rw [Qa h1] at h;cases h
theorem ZdN {α:Type} {xs:List α} {i:Int} {v:α} (h:Yg xs i=some v):∃j,seqIndex? i xs.length=some j∧xs[j]?=some v∧j<xs.length∧-(xs.length:Int)≤i∧i<xs.length:=by
 unfold Yg at h;cases e:Wo xs.length i with
 |none=>rw [e] at h;cases h
 |some j =>
  rw [e] at h;obtain ⟨h1,h2,h3,h4⟩:=ZhK e;exact ⟨j,h1,h,h2,h3,h4⟩
theorem XY {α:Type} {xs:List α} {j:Nat} {v:α} (h:xs[j]?=some v):Yg xs (j:Int)=some v:=by
 have hj:j<xs.length:=(QE.mp h).1
 have e:Wo xs.length (j:Int)=some j:=by
  unfold Wo;rw [Qb (by omega),Qb (by omega)];simp
 unfold Yg;rw [e];exact h
theorem ZcN {α:Type} (xs:List α) (v:α):Yg (xs++[v]) (-1)=some v:=by
 have hl:(xs++[v]).length=xs.length+1:=by simp
 have e:Wo (xs++[v]).length (-1)=some xs.length:=by
  unfold Wo;rw [hl,Qa (by decide),Qb (by omega)]
  congr 1
  omega
 unfold Yg;rw [e];show (xs++[v])[xs.length]?=some v;simp
def ZhJ (b:Expr):Prop:=∀o i,subscripted b false o i=operate [o,i] (getItem o i)
def UV (X:Cx) (r:R2):Prop :=
 ∀(value slice:Expr) (pins:List (Addr×Obj)) (s:Shared) (σ:St) (H:Hp) (x y:V) (v u:Value) (Q:VK),Inv X pins σ H s->RelV x v->RelV y u->r x y H Q →
  subscripted slice false v u=operate [v,u] (getItem v u)->wpAny (model X.prog X.w) X.A (subscriptTail value slice v u) (EP X pins σ Q) X.xe s
def MtR (X:Cx) (id:String) (r:V->List V->Hp->VK->Prop):Prop :=
 ∀(pins:List (Addr×Obj)) (s:Shared) (σ:St) (H:Hp) (x:V) (xs:List V) (v:Value) (us:List Value) (Q:VK),Inv X pins σ H s->RelV x v->Vals xs us->r x xs H Q →
  wpAny (model X.prog X.w) X.A (call (.builtin id) (v::us)) (EP X pins σ Q) X.xe s
section
variable {a b:Expr} {ta tb:TE}
theorem Zo {r:R2} (hr:UV X r) (ha:PE X a ta) (hb:PE X b tb) (hs:ZhJ b):PE X (.Subscript a b pos) (Jc r ta tb):=by
 intro pins s σ H Q I h;exact Subscript_ (ZdR ha hb I h fun v u s2 x y H2 I2 rx ry q=>hr a b pins s2 σ H2 x y v u Q I2 rx ry q (hs _ _))
def Zif (K:W.Frag):R2:=fun x y H Q=>∃p xs i v,x=.ref p∧y=.int i∧SqL K H p xs∧Yg xs i=some v∧Q v H
def Zia (K:W.Frag):R2:=fun x y H Q=>∃p xs i v,x=.ref p∧y=.int i∧SqT K H p xs∧Yg xs i=some v∧Q v H
def Zm9:R2:=fun x y H Q=>∃z i c,x=.str z∧y=.int i∧z.length≤sizeLine∧Yg z.cps.toList i=some c∧Q (.str ⟨#[c]⟩) H
theorem Yo:UV X (Zif X.K):=by
 intro value slice pins s σ H x y v u Q I rx ry h hs;obtain ⟨p,xs,i,z,rfl,rfl,hq,he,q⟩:=h;cases rx;obtain ⟨t,rfl⟩:=ry;obtain ⟨its,r,pl,hz⟩:=I.list hq;obtain ⟨j,h1,h2,h3,h4,h5⟩:=ZdN he;obtain ⟨w,ew,rw'⟩:=r.get h2;have hl:=r.length;have hn:=UZ;have fin:EP X pins σ Q w s:=⟨z,H,I,rw',q⟩;by_cases h0:0≤i
 ·have hj:i.toNat=j:=by
   rw [seqIndex_of h0 h5] at h1;exact Qj h1
  exact item_listR pl.isList h0 (by omega) (by rw [hj];simpa using ew) fin hs
 ·have hj:(i+(its.toArray.size:Int)).toNat=j:=by
   rw [seqIndex_neg (by omega) h4] at h1;rw [Qz,←hl];exact Qj h1
  exact subscriptTail_builtinR (x:=w) pl.isList.typeIs slot_list_getitem.lookup
   (wpAny_getItem_list_neg (Q:=fun r s'=>r=w∧EP X pins σ Q r s') pl.isList (by omega) (by rw [Qz]<;>omega) (by omega) (by rw [hj];simpa using ew) ⟨rfl,fin⟩) hs
theorem Zv:UV X (Zia X.K):=by
 intro value slice pins s σ H x y v u Q I rx ry h hs;obtain ⟨p,xs,i,z,rfl,rfl,hq,he,q⟩:=h;cases rx;obtain ⟨t,rfl⟩:=ry;obtain ⟨its,r,pl,hz⟩:=I.tuple hq;obtain ⟨j,h1,h2,h3,h4,h5⟩:=ZdN he;obtain ⟨w,ew,rw'⟩:=r.get h2;have hl:=r.length;have hn:=UZ;have fin:EP X pins σ Q w s:=⟨z,H,I,rw',q⟩
 exact subscriptTail_builtinR (x:=w) pl.typeIs slot_tuple_getitem.lookup
  (getItem_tuple (j:=j) (Q:=fun r s'=>r=w∧EP X pins σ Q r s') pl (by omega) (by omega) (by rw [Qz,←hl];exact h1) (by simpa using ew) ⟨rfl,fin⟩) hs
theorem Ze8:UV X Zm9:=by
 intro value slice pins s σ H x y v u Q I rx ry h hs;obtain ⟨z,i,c,rfl,rfl,hz,he,q⟩:=h;obtain ⟨t,rfl⟩:=rx;obtain ⟨t',rfl⟩:=ry;obtain ⟨j,h1,h2,h3,h4,h5⟩:=ZdN he;have hl:z.cps.toList.length=z.length:=by simp [Str.length]
 rw [hl] at h1 h4 h5;have hn:=UZ
 exact tail_any (R6 s z t) slot_str_getitem.lookup (getItem_str (c:=c) (by
  have e1:decide (i< -(2 ^ 63:Int))=false:=Qr (by omega);have e2:decide (i ≥ 2 ^ 63)=false:=Qr (by omega);rw [e1,e2,Bool.or_false]) (by rw [h1];simpa using h2) ⟨.str ⟨#[c]⟩,H,I.tok _,⟨_,rfl⟩,q⟩) hs
theorem Zlc (its:List Value) (n j:Nat) (u:Value):Obj.mapSeq (·.setIfInBounds j u) { cls:=.type "list",data:=.seq its.toArray n }={ cls:=.type "list",data:=.seq (its.set j u).toArray n }:=by
 simp [Obj.mapSeq]
theorem Inv.lst {p:Addr} {xs:List V} (I:Inv X pins σ H s) (h:H p=some (.lst xs)) :
  ∃(its:List Value) (n:Nat),Vals xs its∧s.heap.get? p=some { cls:=.type "list",data:=.seq its.toArray n }∧xs.length≤sizeLine:=by
 obtain ⟨z,its,n,r,e⟩:=I.hok p _ h;exact ⟨its,n,r,e,z⟩
theorem Inv.lstUpd {p:Addr} {xs ys:List V} {its':List Value} {n':Nat} {f:Obj->Obj} (I:Inv X pins σ H s) (h:H p=some (.lst xs))
 (ho:s.heap.get? p=some { cls:=.type "list",data:=.seq its.toArray n }) (hf:f { cls:=.type "list",data:=.seq its.toArray n }={ cls:=.type "list",data:=.seq its'.toArray n' }) (r:Vals ys its') (hz:ys.length≤sizeLine) (t:Nat) :
  Inv X pins σ (Zc H p (.lst ys)) { s with heap:=s.heap.update p f,toks:=t }:=by
 have e:(s.heap.update p f).get? p=some { cls:=.type "list",data:=.seq its'.toArray n' }:=by
  rw [No f ho (by rw [hf]<;>rfl),hf]
 refine I.write (x:=p) (e:=p) (by rw [h];trivial) (.inl rfl) (fun b u hb q=>(Heap.get?_update_other _ _ (QX hb)).trans q) ⟨_,e⟩ ?_;exact ⟨hz,its',n',r,e⟩
def Zmy:V->V->V->Hp->(Hp->Prop)->Prop:=fun o i v H Q=>∃p xs k j,o=.ref p∧i=.int k∧H p=some (.lst xs)∧Wo xs.length k=some j∧Q (Zc H p (.lst (xs.set j v)))
theorem Zpn:ZhZ X Zmy:=by
 intro pins s σ H o i v ov iv u Q I ro ri rv h;obtain ⟨p,xs,k,j,rfl,rfl,hp,hj,q⟩:=h;cases ro;obtain ⟨t,rfl⟩:=ri;obtain ⟨its,n,r,ho,hz⟩:=I.lst hp;obtain ⟨h1,h2,h3,h4⟩:=ZhK hj;have hl:=r.length;have hn:=UZ
 have I':Inv X pins σ (Zc H p (.lst (xs.set j v))) { s with heap:=s.heap.update p (Obj.mapSeq (·.setIfInBounds j u)) } :=
  I.lstUpd hp ho (Zlc its n j u) (r.set rv j) (by rw [List.length_set];exact hz) s.toks
 by_cases h0:0≤k
 ·have hk:k.toNat=j:=by
   rw [seqIndex_of h0 h4] at h1;exact Qj h1
  exact W.ki_setAt ho h0 (by omega) (by rw [Qz,←hl];exact h4) (by rw [hk];exact ⟨_,I',q⟩)
 ·have hk:(k+(its.toArray.size:Int)).toNat=j:=by
   rw [seqIndex_neg (by omega) h3] at h1;rw [Qz,←hl];exact Qj h1
  exact W.ki_setBack ho (by omega) (by rw [Qz,←hl];exact h3) (by omega) (by rw [hk];exact ⟨_,I',q⟩)
theorem Zjm (lo hi:Option Int) (n:Nat):(sliceBounds lo hi none n).1=((HT.sIx n 0 lo:Nat):Int)∧(sliceBounds lo hi none n).2.1=((HT.sIx n n hi:Nat):Int)∧(sliceBounds lo hi none n).2.2=1:=by
 refine ⟨?_,?_,rfl⟩
 ·cases lo with
  |none=>simp [sliceBounds,HT.sIx]
  |some i =>
   simp only [sliceBounds,HT.sIx,Option.getD_none,show (1:Int) > 0 by decide,RA];by_cases h:i<0
   ·simp only [h,RA]<;>omega
   ·simp only [h,Re]<;>omega
 ·cases hi with
  |none=>simp [sliceBounds,HT.sIx]
  |some i =>
   simp only [sliceBounds,HT.sIx,Option.getD_none,show (1:Int) > 0 by decide,RA];by_cases h:i<0
   ·simp only [h,RA]<;>omega
   ·simp only [h,Re]<;>omega
theorem ZlN (its:List Value) (lo hi:Option Int):slicePick its.toArray lo hi none=((its.drop (HT.sIx its.length 0 lo)).take (HT.sIx its.length its.length hi-HT.sIx its.length 0 lo)).toArray:=by
 obtain ⟨h1,h2,h3⟩:=Zjm lo hi its.toArray.size;unfold slicePick;rw [h1,h2,h3];simp only [sliceRange_one,pick_run,Qz]<;>rfl
def ZfN (K:W.Frag):V->Option Int->Option Int->Hp->VK->Prop:=fun x lo hi H Q=>∃a xs,x=.ref a∧SqL K H a xs∧∀p,H p=none->Q (.ref p) (Zc H p (.lst (YL xs lo hi)))
theorem ZaT:SlR X (ZfN X.K):=by
 intro pins s σ H x v vl vu lo hi sl Q I rx hs pl pu h;obtain ⟨a,xs,rfl,hx,q⟩:=h;cases rx;obtain ⟨its,r,ht,hz⟩:=I.list hx;have hlen:=r.length;refine ⟨"list",_,slot_list_getitem.lookup,ht.isList.typeIs,?_⟩;refine wpAny_getItem_list_slice ht.isList hs pl pu .none (by simp) ?_ (by rw [Qz]<;>omega);rw [ZlN,←hlen];refine ⟨.ref s.heap.objs.size,_,I.laid (t':=s.toks) (o:=.lst (YL xs lo hi)) (fun b ob q=>Qk _ q) (Qe _) ?_,rfl,q _ (I.hok.fresh (Qe _))⟩;exact ⟨Qn (Zf0 xs lo hi) hz,_,0,(r.drop (HT.sIx xs.length 0 lo)).take (HT.sIx xs.length xs.length hi-HT.sIx xs.length 0 lo),Qw _ rfl⟩
noncomputable def Wi:V->Bool
 |.non=>true
 |.bl _=>true
 |.int _=>true
 |.str _=>true
 |_=>false
noncomputable def Xq:V->V->Bool
 |.non,.non=>true
 |.bl a,.bl b=>a==b
 |.bl a,.int b=>(if a then 1 else 0)==b
 |.int a,.bl b=>a==(if b then 1 else 0)
 |.int a,.int b=>a==b
 |.str a,.str b=>a==b
 |_,_=>false
theorem ZmE {x:V} {v:Value} (ry:RelV y u) (rx:RelV x v) (fy:Wi y=true) (fx:Wi x=true):SeqAt.EqAt A s u v (Xq y x):=by
 cases y with
 |non =>
  cases ry;cases x with
  |non=>cases rx;exact GN _
  |bl b=>cases rx;exact SeqAt.EqAt.none_bool b
  |int b=>obtain ⟨t,rfl⟩:=rx;exact SeqAt.EqAt.none_int b t
  |str b=>obtain ⟨t,rfl⟩:=rx;exact SeqAt.EqAt.none_str b t
  |_=>exact absurd (show false=true from fx) QI
 |bl a =>
  cases ry;cases x with
  |non=>cases rx;exact SeqAt.EqAt.bool_none a
  |bl b=>cases rx;exact SeqAt.EqAt.bool_bool a b
  |int b=>obtain ⟨t,rfl⟩:=rx;exact SeqAt.EqAt.bool_int a b t
  |str b=>obtain ⟨t,rfl⟩:=rx;exact SeqAt.EqAt.bool_str a b t
  |_=>exact absurd (show false=true from fx) QI
 |int a =>
  obtain ⟨t',rfl⟩:=ry;cases x with
  |non=>cases rx;exact SeqAt.EqAt.int_none a t'
  |bl b=>cases rx;exact SeqAt.EqAt.int_bool a t' b
  |int b=>obtain ⟨t,rfl⟩:=rx;exact SeqAt.EqAt.int_int a t' b t
  |str b=>obtain ⟨t,rfl⟩:=rx;exact Na a t' b t
  |_=>exact absurd (show false=true from fx) QI
 |str a =>
  obtain ⟨t',rfl⟩:=ry;cases x with
  |non=>cases rx;exact SeqAt.EqAt.str_none a t'
  |bl b=>cases rx;exact SeqAt.EqAt.str_bool a t' b
  |int b=>obtain ⟨t,rfl⟩:=rx;exact Nb a t' b t
  |str b=>obtain ⟨t,rfl⟩:=rx;exact SeqAt.EqAt.str_str a t' b t
  |_=>exact absurd (show false=true from fx) QI
 |_=>exact absurd (show false=true from fy) QI
noncomputable def Y6 (x:V) (u:Value):Bool:=match u with
 |.none=>Xq .non x
 |.bool b=>Xq (.bl b) x
 |.int i _=>Xq (.int i) x
 |.str z _=>Xq (.str z) x
 |_=>false
theorem ZbG {x:V} (r:RelV y u) (f:Wi y=true):Y6 x u=Xq y x:=by
 cases y with
 |non=>cases r;rfl
 |bl b=>cases r;rfl
 |int i=>obtain ⟨t,rfl⟩:=r;rfl
 |str z=>obtain ⟨t,rfl⟩:=r;rfl
 |_=>exact absurd (show false=true from f) QI
theorem Zai {x:V}:∀{xs:List V} {us:List Value},Vals xs us->xs.all Wi=true->us.any (Y6 x)=xs.any fun y=>Xq y x
 |_,_,.nil,_=>rfl
 |y::xs,u::us,.cons r t,f=>by
  rw [Go,RD] at f;rw [Rj,Rj,ZbG r f.1,Zai t f.2]
theorem UG {A:Around} {s:Shared} {x:V} {v:Value} (rx:RelV x v) (fx:Wi x=true):∀{xs:List V} {us:List Value},Vals xs us->xs.all Wi=true->∀u∈us,SeqAt.EqAt A s u v (Y6 x u)
 |_,_,.nil,_=>fun u hu=>by cases hu
 |y::xs,u::us,.cons r t,f=>fun u' hu=>by
  rw [Go,RD] at f;rcases Qh.mp hu with rfl|hu
  ·rw [ZbG r f.1];exact ZmE r rx f.1 fx
  ·exact UG rx fx t f.2 u' hu
noncomputable def Xz (x:V) (xs:List V):Bool:=xs.any fun y=>Xq y x
def rIn (K:W.Frag) (neg:Bool):R2:=fun x y H Q=>∃p xs,y=.ref p∧(SqL K H p xs∨SqT K H p xs)∧Wi x=true∧xs.all Wi=true∧Q (.bl (if neg then !Xz x xs else Xz x xs)) H
theorem WQ:Yl X (compareOp .In) (rIn X.K false):=by
 intro pins s σ H x y v u Q I rx ry h;obtain ⟨p,xs,rfl,hq,fx,fs,q⟩:=h;cases ry;rcases hq with hq|hq
 ·obtain ⟨its,r,pl,hz⟩:=I.list hq;refine SeqAt.in_listAt (Y6 x) pl.isList (fun w hw=>UG rx fx r fs w (by simpa using hw)) ⟨.bl _,H,I,rfl,?_⟩;rw [show its.toArray.any (Y6 x)=its.any (Y6 x) by simp,Zai r fs];exact q
 ·obtain ⟨its,r,pl,hz⟩:=I.tuple hq;refine SeqAt.in_tupleAt (Y6 x) pl (fun w hw=>UG rx fx r fs w (by simpa using hw)) ⟨.bl _,H,I,rfl,?_⟩;rw [show its.toArray.any (Y6 x)=its.any (Y6 x) by simp,Zai r fs];exact q
theorem ZfV:Yl X (compareOp .NotIn) (rIn X.K true):=by
 intro pins s σ H x y v u Q I rx ry h;obtain ⟨p,xs,rfl,hq,fx,fs,q⟩:=h;cases ry;rcases hq with hq|hq
 ·obtain ⟨its,r,pl,hz⟩:=I.list hq;refine SeqAt.notIn_listAt (Y6 x) pl.isList (fun w hw=>UG rx fx r fs w (by simpa using hw)) ⟨.bl _,H,I,rfl,?_⟩;rw [show its.toArray.any (Y6 x)=its.any (Y6 x) by simp,Zai r fs];exact q
 ·obtain ⟨its,r,pl,hz⟩:=I.tuple hq;refine SeqAt.notIn_tupleAt (Y6 x) pl (fun w hw=>UG rx fx r fs w (by simpa using hw)) ⟨.bl _,H,I,rfl,?_⟩;rw [show its.toArray.any (Y6 x)=its.any (Y6 x) by simp,Zai r fs];exact q
theorem XR:Y4 X (.builtin "len") (fun xs H Q=>∃p ys,xs=[.ref p]∧(SqL X.K H p ys∨SqT X.K H p ys)∧Q (.int ys.length) H):=by
 intro pins s σ H xs us Q I r h;obtain ⟨p,ys,rfl,hq,q⟩:=h;obtain ⟨u,rfl,rx⟩:=Xv r;cases rx;have hn:=UZ;rcases hq with hq|hq
 ·obtain ⟨its,r',pl,hz⟩:=I.list hq;have hlen:=r'.length;exact Calls.call_len_list pl.isList (by simp only [Qz]<;>omega) ⟨.int ys.length,H,I.tok _,⟨s.toks+1,by rw [Qz,hlen]⟩,q⟩
 ·obtain ⟨its,r',pl,hz⟩:=I.tuple hq;have hlen:=r'.length;exact len_tuple pl (by simp only [Qz]<;>omega) ⟨.int ys.length,H,I.tok _,⟨s.toks+1,by rw [Qz,hlen]⟩,q⟩
theorem Zf7:Y4 X (.builtin "len") (fun xs H Q=>∃z,xs=[.str z]∧z.length≤sizeLine∧Q (.int z.length) H):=by
 intro pins s σ H xs us Q I r h;obtain ⟨z,rfl,hz,q⟩:=h;obtain ⟨u,rfl,t,rfl⟩:=Xv r;have hn:=UZ;exact len_str (by omega) ⟨.int z.length,H,I.tok _,⟨_,rfl⟩,q⟩
theorem Zoj:Y4 X (.type "list") (fun xs H Q=>∃p ys,xs=[.ref p]∧(SqL X.K H p ys∨SqT X.K H p ys)∧∀l,H l=none->Q (.ref l) (Zc H l (.lst ys))):=by
 intro pins s σ H xs us Q I r h;obtain ⟨p,ys,rfl,hq,q⟩:=h;obtain ⟨u,rfl,rx⟩:=Xv r;cases rx
 have fin : ∀(its : List Value), Vals ys its → ys.length ≤ sizeLine → ∀(h' : Heap) (c' : Nat), (∀b o', s.heap.get? b=some o' → h'.get? b=some o') →
   h'.get? s.heap.objs.size=some { cls:=.type "list",dict:=none,data:=.seq its.toArray c',slots:=#[] }->EP X pins σ Q (.ref s.heap.objs.size) { s with heap:=h' }:=fun its r' hz h' c' kp e =>
  ⟨.ref s.heap.objs.size,_,I.laid (t':=s.toks) kp (Qe _) (show ObjOk X.prog X.w _ h' _ (.lst ys) from ⟨hz,its,c',r',e⟩),rfl,q _ (I.hok.fresh (Qe _))⟩
 rcases hq with hq|hq
 ·obtain ⟨its,r',pl,hz⟩:=I.list hq;have hlen:=r'.length;obtain ⟨o,ho,hc,n,hd⟩:=pl.isList;exact call_list_seq p (.inl rfl) ho hc hd (fun h' c' kp e=>fin its r' hz h' c' kp e) (by simp only [Qz]<;>omega)
 ·obtain ⟨its,r',pl,hz⟩:=I.tuple hq;have hlen:=r'.length;obtain ⟨o,ho,hc,n,hd⟩:=pl;exact call_list_seq p (.inr rfl) ho hc hd (fun h' c' kp e=>fin its r' hz h' c' kp e) (by simp only [Qz]<;>omega)
theorem Zl8:Y4 X (.type "tuple") (fun xs H Q=>∃p ys,xs=[.ref p]∧((SqL X.K H p ys∧∀l,H l=none->Q (.ref l) (Zc H l (.tup ys)))∨(SqT X.K H p ys∧Q (.ref p) H))):=by
 intro pins s σ H xs us Q I r h;obtain ⟨p,ys,rfl,h⟩:=h;obtain ⟨u,rfl,rx⟩:=Xv r;cases rx;rcases h with ⟨hq,q⟩|⟨hq,q⟩
 ·obtain ⟨its,r',pl,hz⟩:=I.list hq;have hlen:=r'.length;refine call_tuple_list pl.isList (fun h' kp=>?_) (by simp only [Qz]<;>omega);have I1:Inv X pins σ H { s with heap:=h' }:=I.kept (t':=s.toks) kp
  have I2:Inv X pins σ (Zc H h'.objs.size (.tup ys)) { s with heap:=h'.push { cls:=.type "tuple",data:=.seq its.toArray } } :=
   I1.laid (t':=s.toks) (fun b o e=>Qk _ e) (Qe _) (show ObjOk X.prog X.w _ _ _ (.tup ys) from ⟨hz,its,r',IsTup.new _ _⟩)
  exact ⟨.ref h'.objs.size,_,I2,rfl,q _ (I1.hok.fresh (Qe _))⟩
 ·obtain ⟨its,r',pl,hz⟩:=I.tuple hq;exact call_tuple_same pl ⟨.ref p,H,I,rfl,q⟩
def tyV (K:W.Frag) (T:String) (x:V) (H:Hp):Prop:=match x with
 |.str _=>T="str"
 |.int _=>T="int"
 |.ref p => (T="list" ∧ ∃xs, SqL K H p xs) ∨ (T="tuple" ∧ ∃o, K.lookup p=some o ∧ o.cls=.type "tuple" ∧ o.dict=none) ∨
   (T="dict"∧((∃kvs,H p=some (.dK kvs))∨∃kvs,H p=some (.dT kvs)))∨(T="set"∧∃S n,H p=some (.set S n))
 |_=>False
theorem Zk0 {x:V} {v:Value} (I:Inv X pins σ H s) (r:RelV x v) (ty:tyV X.K T x H) :
  s.TypeIs v T∧∀a,v=.ref a->∃ob,s.heap.get? a=some ob∧ob.dict=none:=by
 cases x with
 |str z =>
  obtain ⟨t,rfl⟩:=r;cases (show T="str" from ty);exact ⟨R6 s z t,fun _ e=>nomatch e⟩
 |int i =>
  obtain ⟨t,rfl⟩:=r;cases (show T="int" from ty);exact ⟨typeIs_int s i t,fun _ e=>nomatch e⟩
 |ref p =>
  cases r;rcases ty with ⟨rfl,xs,hq⟩|⟨rfl,o,hk,hc,hd⟩|⟨rfl,hk⟩|⟨rfl,S,n,hk⟩
  ·obtain ⟨its,_,pl,_⟩:=I.list hq;refine ⟨pl.isList.typeIs,fun a e=>?_⟩;cases e;obtain ⟨o,n,e,c,hd,_⟩:=pl;exact ⟨o,e,hd⟩
  ·refine ⟨⟨o,I.kIn p o hk,hc⟩,fun a e=>?_⟩;cases e;exact ⟨o,I.kIn _ o hk,hd⟩
  ·have z:∃o,s.heap.get? p=some o∧o.ExactDict:=by
    rcases hk with ⟨kvs,hk⟩|⟨kvs,hk⟩
    ·obtain ⟨_,_,_,_,o,_,_,e,ex,_⟩:=I.hok p _ hk;exact ⟨o,e,ex⟩
    ·obtain ⟨_,_,_,_,o,_,_,e,ex,_⟩:=I.hok p _ hk;exact ⟨o,e,ex⟩
   obtain ⟨o,e,ex⟩:=z;refine ⟨⟨o,e,ex.1⟩,fun a e2=>?_⟩;cases e2;exact ⟨o,e,ex.2.1⟩
  ·obtain ⟨o,_,_,_,e,ex,_⟩:=I.hok p _ hk;refine ⟨⟨o,e,ex.1⟩,fun a e2=>?_⟩;cases e2;exact ⟨o,e,ex.2.1⟩
 |_=>exact False.elim ty
def tBM (K:W.Frag) (T:String) (r:V->List V->Hp->VK->Prop) (to:TE) (t:TA):TE:=fun σ H Q=>to σ H fun x H1=>tyV K T x H1∧t σ H1 fun xs H2=>r x xs H2 Q
variable {o:Expr} {es:List Expr} {to:TE} {t:TA} {name:Str} {apos cpos:Pos} {id:String} {r:V->List V->Hp->VK->Prop}
theorem Xd (pa:PlainAttrs T) (slot:Slot T name id) (hty:typeOf (.builtin id)=pure (.type "method_descriptor")) (hm:MtR X id r) (ho:PE X o to) (ha:PA X (e::es) t)
 (hbase:attributeBase o name X.env (eval o X.env)=eval o X.env:=by rfl)
 (hfew:((backTo cpos (starEach (e::es) X.env)).all (fun x=>!x.1)&&(backToKw cpos (keywordEach [] X.env)).all (fun x=>x.1.isSome)
 && decide ((e::es).length+([]:List Keyword).length+(if ([]:List Keyword).isEmpty then 0 else 1)<30))=true:=by rfl)
 (hline:(apos.endLine==cpos.line)=true:=by rfl) (hs:starEach (e::es) X.env=(false,eval e X.env)::starEach es X.env:=by rfl) (hplain:(backTo cpos (starEach es X.env)).any (·.1)=false:=by rfl) :
  PE X (.Call (.Attribute o name apos) (e::es) [] cpos) (tBM X.K T r to t):=by
 intro pins s σ H Q I h;refine wpAny_Call_method_late hbase hfew hline rfl (Zq (ho pins s σ H _ I h) fun v s1 ⟨x,H1,I1,r1,ty,q1⟩=>?_);obtain ⟨h1,h2⟩:=Zk0 I1 r1 ty;refine ⟨T,id,pa,slot,hty,h1,h2,?_⟩;have hA:=ha cpos pins s1 σ H1 _ I1 q1;rw [hs] at hA ⊢;refine Np (by show (false||(backTo cpos (starEach es X.env)).any (·.1))=false;rw [hplain]<;>rfl) (Gp ?_);exact Zq hA fun us s2 ⟨vs,H2,I2,r2,q2⟩=>hm pins s2 σ H2 x vs v us Q I2 r1 r2 q2
/- xs.append(e),list.index on a module's tuple .. are MtR facts of 06m -/
end
def MtM (X:Cx) (id:String) (r:V->List V->Hp->VK->Prop):Prop :=
 ∀(pins:List (Addr×Obj)) (s:Shared) (σ:St) (H:Hp) (x:V) (xs:List V) (v:Value) (us:List Value) (Q:VK),Inv X pins σ H s->RelV x v->Vals xs us->r x xs H Q →
  wpAny (model X.prog X.w) X.A (call (.builtin id) (v::us)) (EP X pins σ Q) X.xe s
theorem Vals.one:∀{x:V} {us:List Value},Vals [x] us->∃u,us=[u]∧RelV x u
 |_,_,.cons r .nil=>⟨_,rfl,r⟩
theorem Vals.rep {xs:List V} {us:List Value} (h:Vals xs us):∀k:Nat,Vals (List.replicate k xs).flatten (List.replicate k us).flatten
 |0=>.nil
 |k+1=>by
  rw [Gq,Gq,GO,GO];exact Vals.append h (Vals.rep h k)
theorem Zfj (its:List Value):∀(k:Nat) (acc:List Value),
  List.foldl (fun x1 x2=>x1++x2) acc.toArray (List.replicate k its.toArray)=(acc++(List.replicate k its).flatten).toArray
 |0,acc=>by simp
 |k+1,acc=>by
  have e:acc.toArray++its.toArray=(acc++its).toArray:=by simp
  have e2:(acc++its)++(List.replicate k its).flatten=acc++(List.replicate (k+1) its).flatten:=by
   rw [Gq,GO,R7]
  rw [←e2,←Zfj its k (acc++its),←e,Gq,Q7]
section
variable {l:Addr} {xs ys zs:List V}
theorem Inv.lset {its':List Value} {f:Array Value->Array Value} (I:Inv X pins σ H s) (hH:H l=some (.lst xs))
 (e:s.heap.get? l=some { cls:=.type "list",data:=.seq its.toArray n }) (hf:f its.toArray=its'.toArray) (hv:Vals ys its') (hz:ys.length≤sizeLine) :
  Inv X pins σ (Zc H l (.lst ys)) { s with heap:=s.heap.update l (Obj.mapSeq f),toks:=t' }:=by
 have q:=PySem.IsL.update e f;rw [hf] at q;refine I.write (x:=l) (e:=l) (by rw [hH];exact trivial) (.inl rfl) (fun b' u hb hu=>(Heap.get?_update_other s.heap (Obj.mapSeq f) (QX hb)).trans hu) ⟨_,q⟩ ?_;exact ⟨hz,its',_,hv,q⟩
theorem Inv.lnew (I:Inv X pins σ H s) (hv:Vals ys its) (hz:ys.length≤sizeLine) :
  Inv X pins σ (Zc H s.heap.objs.size (.lst ys)) { s with heap:=s.heap.push { cls:=.type "list",data:=.seq its.toArray },toks:=t' } :=
 I.laid (fun _ _ q=>Qk _ q) (Qe _) ⟨hz,its,0,hv,Qw _ rfl⟩
theorem Inv.fresh (I:Inv X pins σ H s):H s.heap.objs.size=none:=I.hok.fresh (Qe _)
theorem Inv.lstM (I:Inv X pins σ H s) (hH:H l=some (.lst xs)):xs.length≤sizeLine∧∃(its:List Value) (n:Nat),Vals xs its∧xs.length=its.length∧s.heap.get? l=some { cls:=.type "list",data:=.seq its.toArray n }:=by
 obtain ⟨z,its,n,r,e⟩:=I.hok l _ hH;exact ⟨z,its,n,r,r.length,e⟩
theorem Zjs (h:n≤sizeLine):Builtin.List.listTooLong n=false:=by
 unfold Builtin.List.listTooLong;exact Qr (by omega)
end
def ZnF:V->List V->Hp->VK->Prop:=fun x vs H Q=>∃l xs y,x=.ref l∧vs=[y]∧H l=some (.lst xs)∧xs.length<sizeLine∧Q .non (Zc H l (.lst (xs++[y])))
theorem X6:MtM X "list.append" ZnF:=by
 intro pins s σ H x vs v us Q I rx rv h;obtain ⟨l,xs,y,rfl,rfl,hH,hz,q⟩:=h;cases rx;obtain ⟨u,rfl,ru⟩:=rv.one;obtain ⟨z,its,n,r,hl,e⟩:=I.lstM hH;refine call_meets F.slot_list_append ⟨_,e,rfl⟩ F.entry_list_append (F.args_list_append_2 _ _) (PySem.list_append l its.toArray n u (by rw [Qz];omega)) ⟨e,?_⟩;refine ⟨.non,_,I.lset (its':=its++[u]) hH e (by simp) (r.append (.cons ru .nil)) ?_,rfl,q⟩;rw [Qq,GP];omega
def Zk3:R2:=fun x y H Q=>∃l b xs zs,x=.ref l∧y=.ref b∧H l=some (.lst xs)∧H b=some (.lst zs)∧xs.length+zs.length≤sizeLine∧∀p,H p=none->Q (.ref p) (Zc H p (.lst (xs++zs)))
theorem Za1:Yl X (binaryOp .Add) Zk3:=by
 intro pins s σ H x y v u Q I rx ry h;obtain ⟨l,b,xs,zs,rfl,rfl,hH,hB,hz,q⟩:=h;cases rx;cases ry;obtain ⟨z,its,n,r,hl,e⟩:=I.lstM hH;obtain ⟨z2,its2,n2,r2,hl2,e2⟩:=I.lstM hB;refine PySem.P.add_list e e2 ?_ (by rw [Qz,Qz];omega);have ea:its.toArray++its2.toArray=(its++its2).toArray:=by simp
 rw [ea];exact ⟨.ref _,_,I.lnew (t':=s.toks) (r.append r2) (by rw [Qq];omega),rfl,q _ I.fresh⟩
def Zmo:R2:=fun x y H Q=>∃l k xs,x=.ref l∧y=.int k∧H l=some (.lst xs)∧-(2 ^ 63)≤k∧k<2 ^ 63∧xs.length*k.toNat≤sizeLine ∧
 ∀p,H p=none->Q (.ref p) (Zc H p (.lst (List.replicate k.toNat xs).flatten))
theorem Zmm {α:Type} (xs:List α) (k:Nat):(List.replicate k xs).flatten.length=k*xs.length:=by
 induction k with
 |zero=>simp
 |succ k ih=>rw [Gq,GO,Qq,ih,Nat.succ_mul,Nat.add_comm]
theorem Zm3:Yl X (binaryOp .Mult) Zmo:=by
 intro pins s σ H x y v u Q I rx ry h;obtain ⟨l,k,xs,rfl,rfl,hH,h1,h2,hz,q⟩:=h;cases rx;obtain ⟨t,rfl⟩:=ry;obtain ⟨z,its,n,r,hl,e⟩:=I.lstM hH;have hlen:its.toArray.size*k.toNat≤sizeLine:=by rw [Qz,←hl];exact hz
 have hcap:¬its.toArray.size*k.toNat > (2 ^ 63-1)/8:=by
  have:(sizeLine:Nat)≤(2 ^ 63-1)/8:=by decide
  omega
 have hfit:¬(!Builtin.List.listFitsIndex k)=true:=by
  rw [fitsIndex_both h1 h2];exact QI
 have hlong:¬Builtin.List.listTooLong (its.toArray.size*k.toNat)=true:=by
  rw [Zjs hlen];exact QI
 have hnew:List.foldl (fun x1 x2=>x1++x2) #[] (List.replicate (if its.toArray.isEmpty=true then 0 else k.toNat) its.toArray)=(List.replicate k.toNat its).flatten.toArray:=by
  have f0:∀m:Nat,List.foldl (fun x1 x2=>x1++x2) #[] (List.replicate m its.toArray)=(List.replicate m its).flatten.toArray:=fun m=>by
   have:=Zfj its m [];rw [List.nil_append] at this;exact this
  rw [f0];cases its with
  |nil=>simp
  |cons a r'=>rw [Qa (by simp)]
 refine wpAny_binaryOp_repeat_ref (T:="list") (U:="int") (by decide) ⟨_,e,rfl⟩ (fun s'=>typeIs_int s' k t) noFill_list_mul F.fills_int_mul F.slot_int_rmul repeat_list F.slot_int_index.lookup
  (call_meets F.slot_int_rmul (typeIs_int s k t) F.entry_int_rmul (F.args_int_rmul_2 _ _) (int___rmul___int_list k t l its.toArray n)
   ⟨e,rfl,⟨_,e,rfl⟩,call_meets F.slot_list_mul ⟨_,e,rfl⟩ F.entry_list_mul (F.args_list_mul_2 _ _) (AutoListH.list___mul___list_int_3 l its.toArray n k t hfit hcap hlong) ⟨e,?_⟩⟩)
 rw [hnew];exact ⟨.ref _,_,I.lnew (t':=s.toks) (r.rep k.toNat) (by rw [Zmm,Nat.mul_comm];exact hz),rfl,q _ I.fresh⟩
section
variable {prog:Program} {w:World}
set_option maxRecDepth 100000 in
end
section
variable {κ:Type} [DecidableEq κ]
noncomputable def ZH (kvs:List (κ×V)) (k:κ):Option V:=(kvs.find? fun kv=>decide (kv.1=k)).map (·.2)
noncomputable def Ys (kvs:List (κ×V)) (k:κ) (v:V):List (κ×V) :=
 if (kvs.any fun kv=>decide (kv.1=k))=true then kvs.map (fun kv=>if kv.1=k then (kv.1,v) else kv) else kvs++[(k,v)]
theorem XQ {p:κ×V} {r:List (κ×V)} {k:κ} (e:p.1=k):ZH (p::r) k=some p.2:=by simp [ZH,RE,e]
theorem XW {p:κ×V} {r:List (κ×V)} {k:κ} (e:¬p.1=k):ZH (p::r) k=ZH r k:=by simp [ZH,RE,e]
theorem Zb0 (k:κ):∀kvs:List (κ×V),(kvs.any fun kv=>decide (kv.1=k))=(ZH kvs k).isSome
 |[]=>rfl
 |p::r=>by
  rw [Rj];by_cases e:p.1=k
  ·simp only [XQ e,Qu e,Bool.true_or,Option.isSome_some]
  ·rw [XW e,Qr e,Bool.false_or];exact Zb0 k r
theorem ZeB (kvs:List (κ×V)) (k:κ) (v:V):(Ys kvs k v).length≤kvs.length+1:=by
 unfold Ys;split
 ·rw [Qc];omega
 ·rw [Qq,QM,Nq];omega
theorem ZbB {kvs:List (κ×V)} {k:κ} (v:V) (h:ZH kvs k=none):Ys kvs k v=kvs++[(k,v)]:=by
 unfold Ys;rw [Zb0,h];exact Qa (by decide)
theorem RelO.isSome_eq {u:Option Value} (r:RelO o u):o.isSome=u.isSome:=by
 cases o with
 |none=>cases u with
  |none=>rfl
  |some _=>exact (show False from r).elim
 |some _=>cases u with
  |none=>exact (show False from r).elim
  |some _=>rfl
theorem RelO.getD {u:Option Value} {d:V} {d':Value} (r:RelO o u) (rd:RelV d d'):RelV (o.getD d) (u.getD d'):=by
 cases o with
 |none=>cases u with
  |none=>exact rd
  |some _=>exact (show False from r).elim
 |some _=>cases u with
  |none=>exact (show False from r).elim
  |some _=>exact r
theorem KV.val {kvs:List (κ×V)} {vs:List (κ×Value)} (r:KV kvs vs) (k:κ):RelO (ZH kvs k) (valueAt vs k):=by
 unfold KV at r
 induction r with
 |nil=>exact True.intro
 |@cons p q ps qs h t ih =>
  obtain ⟨h1,h2⟩:=h;by_cases e:p.1=k
  ·have e':q.1=k:=h1.symm.trans e;have b:valueAt (q::qs) k=some q.2:=by simp [valueAt,RE,e']
   rw [XQ e,b];exact h2
  ·have e':¬q.1=k:=fun z=>e (h1.trans z);have b:valueAt (q::qs) k=valueAt qs k:=by simp [valueAt,RE,e']
   rw [XW e,b];exact ih
theorem KV.any {kvs:List (κ×V)} {vs:List (κ×Value)} (r:KV kvs vs) (k:κ):(kvs.any fun kv=>decide (kv.1=k))=vs.any fun kv=>decide (kv.1=k):=by
 unfold KV at r
 induction r with
 |nil=>rfl
 |cons h t ih=>rw [Rj,Rj,ih,h.1]
theorem KV.repl {kvs:List (κ×V)} {vs:List (κ×Value)} (r:KV kvs vs) (k:κ) (ry:RelV y u) :
  KV (kvs.map fun kv=>if kv.1=k then (kv.1,y) else kv) (vs.map fun kv=>if kv.1=k then (kv.1,u) else kv):=by
 unfold KV at r ⊢
 induction r with
 |nil=>exact .nil
 |@cons p q ps qs h t ih =>
  rw [Qx,Qx];refine .cons ?_ ih;obtain ⟨h1,h2⟩:=h;by_cases e:p.1=k
  ·rw [Qb e,Qb (h1.symm.trans e)];exact ⟨h1,ry⟩
  ·rw [Qa e,Qa (fun z=>e (h1.trans z))];exact ⟨h1,h2⟩
theorem KV.put {kvs:List (κ×V)} {vs:List (κ×Value)} (r:KV kvs vs) (k:κ) (ry:RelV y u):KV (Ys kvs k y) (stored vs k u):=by
 unfold Ys stored;rw [r.any k];by_cases e:(vs.any fun kv=>decide (kv.1=k))=true
 ·rw [Qb e,Qb e];exact r.repl k ry
 ·rw [Qa e,Qa e];exact Paired.snoc r ⟨rfl,ry⟩
theorem KV.length {kvs:List (κ×V)} {vs:List (κ×Value)} (r:KV kvs vs):kvs.length=vs.length:=GE r
end
theorem Wc {w:World} {k:Zl} (r:RelV (kV k) u):(Yp P w).is k u=true:=by
 cases k with
 |inl i=>obtain ⟨t,e⟩:=(show ∃t,u=Value.int i t from r);subst e;exact ZmY P w i t
 |inr x=>obtain ⟨t,e⟩:=(show ∃t,u=Value.str x t from r);subst e;exact Zoi P w x t
theorem ZhL {P:Program} {w:World}:∀{ks:List Zl} {us:List Value},Vals (ks.map kV) us->ItemsAre (Yp P w) ks us
 |[],_,r=>by rw [Gn] at r;cases r;exact .nil
 |k::ks,_,r=>by
  rw [Qx] at r;cases r with
  |cons h t=>exact .cons (Wc h) (ZhL t)
abbrev KT (H:Hp):List (List Zl×V)->List (List Zl×Addr×Value)->Prop:=Paired fun p q=>p.1=q.1∧H q.2.1=some (.tup (p.1.map kV))∧RelV p.2 q.2.2
theorem KT.val (r:KT H kvs xs) (k:List Zl):RelO (ZH kvs k) ((atKey xs k).map (·.2)):=by
 induction r with
 |nil=>exact True.intro
 |@cons p q ps qs h t ih =>
  obtain ⟨h1,_,h2⟩:=h;by_cases e:p.1=k
  ·have e':q.1=k:=h1.symm.trans e;have b:atKey (q::qs) k=some q.2:=by simp [atKey,RE,e']
   rw [XQ e,b];exact h2
  ·have e':¬q.1=k:=fun z=>e (h1.trans z);have b:atKey (q::qs) k=atKey qs k:=by simp [atKey,RE,e']
   rw [XW e,b];exact ih
theorem KT.repl (r:KT H kvs xs) (k:List Zl) (ry:RelV y u) :
  KT H (kvs.map fun kv=>if kv.1=k then (kv.1,y) else kv) (xs.map (putAt k u)):=by
 induction r with
 |nil=>exact .nil
 |@cons p q ps qs h t ih =>
  rw [Qx,Qx];refine .cons ?_ ih;obtain ⟨h1,h2,h3⟩:=h;unfold putAt;by_cases e:p.1=k
  ·rw [Qb e,Qb (h1.symm.trans e)];exact ⟨h1,h2,ry⟩
  ·rw [Qa e,Qa (fun z=>e (h1.trans z))];exact ⟨h1,h2,h3⟩
theorem KT.put (r:KT H kvs xs) (k:List Zl) (hb:H b=some (.tup (k.map kV))) (ry:RelV y u) :
  KT H (Ys kvs k y) (storedH xs k b u):=by
 have e:(kvs.any fun kv=>decide (kv.1=k))=(atKey xs k).isSome:=by
  rw [Zb0,(r.val k).isSome_eq,Nr]
 unfold Ys storedH;rw [e];by_cases q:(atKey xs k).isSome=true
 ·rw [Qb q,Qb q];exact r.repl k ry
 ·rw [Qa q,Qa q];exact Paired.snoc r ⟨rfl,hb,ry⟩
theorem KT.keeps (r:KT H kvs xs) (ht:∀b ys,H b=some (.tup ys)->H' b=some (.tup ys)):KT H' kvs xs :=
 Paired.mapP r fun _ _ z=>⟨z.1,ht _ _ z.2.1,z.2.2⟩
section
variable {w:World} {h:Heap}
theorem Zg9 {u:HO} (ok:HOk P w H h) (e:Rd H a u):ObjOk P w H h a u:=e.ok ok
theorem VF {kvs:List (Zl×V)} (ok:HOk P w H h) (e:Rd H a (.dK kvs)):kvs.length≤sizeLine∧(a==sysModules)=false∧∃vs,KV kvs vs∧h.DictOf (Yp P w) a vs :=
 show ObjOk P w H h a (.dK kvs) from Zg9 ok e
theorem Zaz {kvs:List (Zl×V)} (ok:HOk P w H h) (e:H a=some (.dK kvs)):kvs.length≤sizeLine∧(a==sysModules)=false∧∃vs,KV kvs vs∧h.DictOf (Yp P w) a vs:=VF ok (.inl e)
theorem VU {ks:List Zl} (ok:HOk P w H h) (e:H a=some (.tup (ks.map kV))):(tupleKind (Yp P w)).is h ks a:=by
 obtain ⟨_,its,r,o,h1,h2,n,h3⟩:=(show ObjOk P w H h a (.tup (ks.map kV)) from ok a _ e);exact ⟨o,its.toArray,n,h1,h2,h3,by simpa using ZhL r⟩
theorem Ux (ok:HOk P w H h) (e:Rd H a (.dT kvs)):kvs.length≤sizeLine∧(a==sysModules)=false ∧
  ∃xs,KT H kvs xs∧h.DictOfH (tupleKind (Yp P w)) a xs:=by
 obtain ⟨z,y,xs,r,o,es,ep,h1,h2,h3,h4,h5⟩:=(show ObjOk P w H h a (.dT kvs) from Zg9 ok e);refine ⟨z,y,xs,r,o,es,ep,h1,h2,h3,h4,fun x hx=>?_,h5⟩
 have all:∀{l:List (List Zl×V)} {m:List (List Zl×Addr×Value)},KT H l m->∀x∈m,(tupleKind (Yp P w)).is h x.1 x.2.1:=by
  intro l m q
  induction q with
  |nil=>intro x hx;exact nomatch hx
  |@cons p q ps qs hq t ih =>
   intro x hx;rcases Qh.mp hx with e|hx
   ·subst e;exact VU ok (by rw [←hq.1];exact hq.2.1)
   ·exact ih x hx
 exact all r x hx
theorem Zde (ok:HOk P w H h) (e:H a=some (.dT kvs)):kvs.length≤sizeLine∧(a==sysModules)=false ∧
  ∃xs,KT H kvs xs∧h.DictOfH (tupleKind (Yp P w)) a xs:=Ux ok (.inl e)
end
def DGet (H:Hp) (a:Addr) (y:V) (r:Option V):Prop :=
 (∃kvs k,Rd H a (.dK kvs)∧y=kV k∧r=ZH kvs k)∨∃kvs k b,Rd H a (.dT kvs)∧y=.ref b∧H b=some (.tup (k.map kV))∧r=ZH kvs k
def DPut (H:Hp) (a:Addr) (y v:V) (H':Hp):Prop :=
 (∃kvs k,H a=some (.dK kvs)∧y=kV k∧kvs.length<sizeLine∧H'=Zc H a (.dK (Ys kvs k v))) ∨
 ∃kvs k b,H a=some (.dT kvs)∧y=.ref b∧H b=some (.tup (k.map kV))∧kvs.length<sizeLine∧H'=Zc H a (.dT (Ys kvs k v))
theorem DGet.k {kvs:List (Zl×V)} {k:Zl} (e:H a=some (.dK kvs)):DGet H a (kV k) (ZH kvs k):=.inl ⟨kvs,k,.inl e,rfl,rfl⟩
theorem DGet.t {k:List Zl} (e:H a=some (.dT kvs)) (eb:H b=some (.tup (k.map kV))):DGet H a (.ref b) (ZH kvs k):=.inr ⟨kvs,k,b,.inl e,rfl,eb,rfl⟩
theorem DPut.k {kvs:List (Zl×V)} {k:Zl} {v:V} (e:H a=some (.dK kvs)) (hl:kvs.length<sizeLine):DPut H a (kV k) v (Zc H a (.dK (Ys kvs k v))):=.inl ⟨kvs,k,e,rfl,hl,rfl⟩
theorem DPut.t {k:List Zl} {v:V} (e:H a=some (.dT kvs)) (eb:H b=some (.tup (k.map kV))) (hl:kvs.length<sizeLine) :
  DPut H a (.ref b) v (Zc H a (.dT (Ys kvs k v))):=.inr ⟨kvs,k,b,e,rfl,eb,hl,rfl⟩
section
variable {v:V} {r:Value}
theorem Inv.big (I:Inv X pins σ H s):sysModules<s.heap.objs.size:=by
 have h:mainGlobals<s.heap.objs.size:=(I.mod.glob.keeps I.bk).lt;exact Nat.lt_trans (by decide) h
theorem ZjG (hu:A.units+1<cLine) (I:Inv X pins σ H s) (g:DGet H a y (some v)) (ry:RelV y u) (h:∀w' s',Inv X pins σ H s'->RelV v w'->Q w' s') :
  wpAny (model X.prog X.w) A (getItem (.ref a) u) Q E s:=by
 rcases g with ⟨kvs,k,e,ey,l⟩|⟨kvs,k,b,e,ey,eb,l⟩
 ·subst ey;obtain ⟨z,hd,vs,rel,dd⟩:=VF I.hok e;obtain ⟨w',hw,rw'⟩:=RelO.some_of (v:=v) (o:=valueAt vs k) (by rw [l];exact rel.val k);exact wpAny_getItem_of (Wc ry) dd.mapOf hw (h w' _ (I.tok _) rw')
 ·subst ey;cases (show u=Value.ref b from ry);obtain ⟨z,hd,xs,rel,dd⟩:=Ux I.hok e;obtain ⟨w',hw,rw'⟩:=RelO.some_of (v:=v) (o:=(atKey xs k).map (·.2)) (by rw [l];exact rel.val k);obtain ⟨p,hp,hp2⟩:=QF.mp hw;refine wpAny_getItem_heap (R8 hu) (VU I.hok eb) dd hp ?_;rw [hp2];exact h w' _ (I.tok _) rw'
theorem ZjN (hu:A.units+1<cLine) (I:Inv X pins σ H s) (g:DGet H a y o) (ry:RelV y u) (h:∀s',Inv X pins σ H s'->Q (.bool o.isSome) s') :
  wpAny (model X.prog X.w) A (compareOp .In u (.ref a)) Q E s:=by
 rcases g with ⟨kvs,k,e,ey,l⟩|⟨kvs,k,b,e,ey,eb,l⟩
 ·subst ey;obtain ⟨z,hd,vs,rel,dd⟩:=VF I.hok e;refine wpAny_in_of (Wc ry) hd dd.mapOf ?_;rw [←(rel.val k).isSome_eq,←l];exact h _ (I.tok _)
 ·subst ey;cases (show u=Value.ref b from ry);obtain ⟨z,hd,xs,rel,dd⟩:=Ux I.hok e;refine wpAny_in_heap (R8 hu) (VU I.hok eb) hd dd ?_;have q:=(rel.val k).isSome_eq;rw [Nr] at q;rw [←q,←l];exact h _ (I.tok _)
theorem Zl0 (hu:A.units+1<cLine) (I:Inv X pins σ H s) (g:DGet H a y o) (ry:RelV y u) (h:∀s',Inv X pins σ H s'->Q (.bool (!o.isSome)) s') :
  wpAny (model X.prog X.w) A (compareOp .NotIn u (.ref a)) Q E s:=by
 rcases g with ⟨kvs,k,e,ey,l⟩|⟨kvs,k,b,e,ey,eb,l⟩
 ·subst ey;obtain ⟨z,hd,vs,rel,dd⟩:=VF I.hok e;refine wpAny_notIn_of (Wc ry) hd dd.mapOf ?_;rw [←(rel.val k).isSome_eq,←l];exact h _ (I.tok _)
 ·subst ey;cases (show u=Value.ref b from ry);obtain ⟨z,hd,xs,rel,dd⟩:=Ux I.hok e;refine wpAny_notIn_heap (R8 hu) (VU I.hok eb) hd dd ?_;have q:=(rel.val k).isSome_eq;rw [Nr] at q;rw [←q,←l];exact h _ (I.tok _)
theorem ZaK {h':Heap} {ob:HO} (I:Inv X pins σ H s) (mu:Mut (H a)) (hs:Heap.SameBut a s.heap h') (he:∃q,h'.get? a=some q) (new:ObjOk X.prog X.w (Zc H a ob) h' a ob) :
  Inv X pins σ (Zc H a ob) { s with heap:=h',toks:=t' } :=
 I.write (x:=a) (e:=a) mu (.inl rfl) (fun b q hb z=>(hs.2 b hb).trans z) he new
theorem ZgZ {w:World} {h':Heap} {kvs:List (Zl×V)} {vs:List (Zl×Value)} (z:kvs.length≤sizeLine) (hd:(a==sysModules)=false) (rel:KV kvs vs) (dd:h'.DictOf (Yp P w) a vs) :
  ObjOk P w H' h' a (.dK kvs):=⟨z,hd,vs,rel,dd⟩
theorem Znp {Q:Unit->Shared->Prop} (hu:A.units+1<cLine) (I:Inv X pins σ H s) (g:DPut H a y v H') (ry:RelV y u) (rv:RelV v r) (h:∀s',Inv X pins σ H' s'->Q () s') :
  wpAny (model X.prog X.w) A (setItem (.ref a) u r) Q E s:=by
 rcases g with ⟨kvs,k,e,ey,l,eH⟩|⟨kvs,k,b,e,ey,eb,l,eH⟩
 ·subst ey eH;obtain ⟨z,hd,vs,rel,dd⟩:=Zaz I.hok e;have hz:vs.length≤sizeLine:=by rw [←rel.length];exact z
  have hl:(Ys kvs k v).length≤sizeLine:=by have:=ZeB kvs k v;omega
  refine wpAny_setItem_pairs (hsz:=hz) (Wc ry) dd fun h' dd' hs=>h _ ?_;have he:∃q,h'.get? a=some q:=let ⟨q,_,_,hq,_⟩:=dd';⟨q,hq⟩;exact ZaK I (by rw [e];exact True.intro) hs he (ZgZ hl hd (rel.put k rv) dd')
 ·subst ey eH;cases (show u=Value.ref b from ry);obtain ⟨z,hd,xs,rel,dd⟩:=Zde I.hok e;have hz:xs.length≤sizeLine:=by rw [←GE rel];exact z
  have hl:(Ys kvs k v).length≤sizeLine:=by have:=ZeB kvs k v;omega
  refine wpAny_setItem_heap (hsz:=hz) (R8 hu) (VU I.hok eb) dd fun h' dd' hs=>h _ ?_;obtain ⟨q,es,ep,hq,h2,h3,h4,_,h5⟩:=dd';refine ZaK I (by rw [e];exact True.intro) hs ⟨q,hq⟩ ⟨hl,hd,_,(rel.put k eb rv).keeps fun c ys ec=>?_,q,es,ep,hq,h2,h3,h4,h5⟩;rw [Zd (ZiK ec e (fun z=>nomatch z))];exact ec
end
section
variable {kvs:List (Zl×V)} {k:Zl}
theorem ZkL (I:Inv X pins σ H s) (e:Rd H a (.dK kvs)) (h:∀t s',Inv X pins σ H s'->Q (.int kvs.length t) s'):wpAny (model X.prog X.w) A (call (.builtin "len") [.ref a]) Q E s:=by
 obtain ⟨z,hd,vs,rel,dd⟩:=VF I.hok e;refine call_len_dict hd dd (by rw [←rel.length];rw [RM] at z;omega) ?_;rw [←rel.length];exact h _ _ (I.tok _)
end
def Zeb (i:Expr):Prop:=∀ov iv,subscripted i false ov iv=operate [ov,iv] (getItem ov iv)
theorem Zf4 {prog:Program} {w:World} {env:Env} {value slice:Expr} {id:String} 
 (hl:typeLookup (.type T) "__getitem__"=pure (some (.builtin id))) (hs:Zeb slice)
 (h:wpAny (model prog w) A (eval value env) (fun o s₁=>wpAny (model prog w) A (eval slice env) (fun i s₂=>s₂.TypeIs o T∧wpAny (model prog w) A (getItem o i) Q E s₂) E s₁) E s) :
  wpAny (model prog w) A (eval (.Subscript value slice pos) env) Q E s:=by
 refine Subscript_ (Q4 h (fun o s₁ h₁=>Q4 h₁ (fun i s₂ h₂=>?_) fun _ _ x=>x) fun _ _ x=>x);obtain ⟨hT,h₂⟩:=h₂;unfold subscriptTail;refine Qd ?_;rw [getitemInPython_of_ne hT.not_modules];refine Qd (wpAny_specialOf hT hl ?_)
 have fin:wpAny (model prog w) A (subscripted slice false o i) (fun r s₃=>wpAny (model prog w) A (letTemporaryGo value o r >>= fun _=>pure r) Q E s₃) E s₂:=by
  rw [hs o i];exact wpAny_operating (Q4 h₂ (fun r s₃ h₃=>Qd (wpAny_letTemporaryGo (Qf h₃))) fun _ _ x=>x)
 first
  |exact Qf (Qd fin)
  |exact Qd (Qf (Qd fin))
  |exact Qd fin
theorem ZjF (I:Inv X pins σ H s) (g:DGet H a y o):s.TypeIs (.ref a) "dict":=by
 rcases g with ⟨kvs,k,e,_,_⟩|⟨kvs,k,b,e,_,_,_⟩
 ·obtain ⟨_,_,vs,_,dd⟩:=VF I.hok e;exact dd.typeIs
 ·obtain ⟨_,_,xs,_,dd⟩:=Ux I.hok e;exact dd.typeIs
def ZoM (td ty:TE):TE:=fun σ H Q=>td σ H fun x H1=>ty σ H1 fun y H2=>∃a v,x=.ref a∧DGet H2 a y (some v)∧Q v H2
def Zor (ty td:TE):TE:=fun σ H Q=>ty σ H fun y H1=>td σ H1 fun x H2=>∃a o,x=.ref a∧DGet H2 a y o∧Q (.bl o.isSome) H2
def ZoE (ty td:TE):TE:=fun σ H Q=>ty σ H fun y H1=>td σ H1 fun x H2=>∃a o,x=.ref a∧DGet H2 a y o∧Q (.bl (!o.isSome)) H2
def ZkK (td ty tv:TE):TS:=fun D σ H=>tv σ H fun v H1=>td σ H1 fun x H2=>ty σ H2 fun y H3=>∃a H4,x=.ref a∧DPut H3 a y v H4∧D.nx σ H4
section
variable {o i value:Expr} {pos' tpos:Pos} {td ty tv:TE}
theorem ZbC (hu:X.A.units+1<cLine) (ho:PE X o td) (hi:PE X i ty) (hs:Zeb i):PE X (.Subscript o i pos) (ZoM td ty):=by
 intro pins s σ H Q I h;refine Zf4 NL.lookup hs (Zq (ho pins s σ H _ I h) fun u s1 ⟨x,H1,I1,rx,q1⟩=>Zq (hi pins s1 σ H1 _ I1 q1) fun iv s2 ⟨y,H2,I2,ry,a,v,ex,g,q2⟩=>?_);subst ex;obtain rfl:u=Value.ref a:=rx;exact ⟨ZjF I2 g,ZjG hu I2 g ry fun w' s3 I3 rw'=>⟨v,H2,I3,rw',q2⟩⟩
theorem ZaQ (hu:X.A.units+1<cLine) (hi:PE X i ty) (ho:PE X o td):PC X .In i o (Zor ty td):=by
 intro pins s σ H Q I h;refine Zq (hi pins s σ H _ I h) fun iv s1 ⟨y,H1,I1,ry,q1⟩=>Zq (ho pins s1 σ H1 _ I1 q1) fun u s2 ⟨x,H2,I2,rx,a,ov,ex,g,q2⟩=>?_;subst ex;obtain rfl:u=Value.ref a:=rx;exact ZjN hu I2 g ry fun s3 I3=>⟨.bl ov.isSome,H2,I3,rfl,q2⟩
theorem ZeT (hu:X.A.units+1<cLine) (hi:PE X i ty) (ho:PE X o td):PC X .NotIn i o (ZoE ty td):=by
 intro pins s σ H Q I h;refine Zq (hi pins s σ H _ I h) fun iv s1 ⟨y,H1,I1,ry,q1⟩=>Zq (ho pins s1 σ H1 _ I1 q1) fun u s2 ⟨x,H2,I2,rx,a,ov,ex,g,q2⟩=>?_;subst ex;obtain rfl:u=Value.ref a:=rx;exact Zl0 hu I2 g ry fun s3 I3=>⟨.bl (!ov.isSome),H2,I3,rfl,q2⟩
theorem WB (hu:X.A.units+1<cLine) (ho:PE X o td) (hi:PE X i ty) (hv:PE X value tv) (hs:swapsWith value (some (.Subscript o i pos')) pos.line X.env=pure false) :
  PS X (.Assign [.Subscript o i pos'] value pos) (ZkK td ty tv):=by
 intro pins s σ H D I h;refine wpAny_Assign_Subscript (Zq (hv pins s σ H _ I h) fun r s1 ⟨v,H1,I1,rv,q1⟩=>Zq (ho pins s1 σ H1 _ I1 q1) fun u s2 ⟨x,H2,I2,rx,q2⟩=>Zq (hi pins s2 σ H2 _ I2 q2) fun iv s3 ⟨y,H3,I3,ry,a,H4,ex,g,q3⟩=>?_) hs;subst ex;obtain rfl:u=Value.ref a:=rx;exact Znp hu I3 g ry rv fun s4 I4=>⟨σ,H4,I4,q3⟩
end
theorem ZgT {w:World} (h:Heap) (hb:sysModules<h.objs.size):ObjOk P w H (h.push { cls:=.type "dict",data:=.dict #[] }) h.objs.size (.dK []) :=
 ⟨QV _,Rw.mpr (QX (QA hb)),[],.nil,Heap.DictOf.new h⟩
theorem Zkp {w:World} (h:Heap) (hb:sysModules<h.objs.size):ObjOk P w H (h.push { cls:=.type "dict",data:=.dict #[] }) h.objs.size (.dT []) :=
 ⟨QV _,Rw.mpr (QX (QA hb)),[],.nil,_,#[],0,Qw _ rfl,⟨rfl,rfl,rfl⟩,rfl,rfl,Nt⟩
def Zpy:TE:=fun _ H Q=>∀p,H p=none->Q (.ref p) (Zc H p (.dK []))
def Zo6:TE:=fun _ H Q=>∀p,H p=none->Q (.ref p) (Zc H p (.dT []))
theorem JS:PE X (.Dict [] [] pos) Zpy:=fun pins s σ H Q I h =>
 wpAny_Dict_empty ⟨.ref s.heap.objs.size,_,I.laid (a:=s.heap.objs.size) (o:=.dK []) (t':=s.toks) (fun _ _ q=>Qk _ q) (Qe _) (ZgT s.heap I.big),rfl,h _ (I.hok.fresh (Qe _))⟩
theorem Zav:PE X (.Dict [] [] pos) Zo6:=fun pins s σ H Q I h =>
 wpAny_Dict_empty ⟨.ref s.heap.objs.size,_,I.laid (a:=s.heap.objs.size) (o:=.dT []) (t':=s.toks) (fun _ _ q=>Qk _ q) (Qe _) (Zkp s.heap I.big),rfl,h _ (I.hok.fresh (Qe _))⟩
def Zbf:List (TE×TE)->St->Hp->(List (V×V)->Hp->Prop)->Prop
 |[],_,H,Q=>Q [] H
 | (tk,tv)::r,σ,H,Q=>tk σ H fun x H1=>tv σ H1 fun y H2=>Zbf r σ H2 fun ps H3=>Q ((x,y)::ps) H3
abbrev VV:List (V×V)->List (Value×Value)->Prop:=Paired fun p q=>RelV p.1 q.1∧RelV p.2 q.2
def PPs (X:Cx) (pos:Pos) (keys:List (Option Expr)) (values:List Expr) (trs:List (TE×TE)):Prop :=
 ∀(pins:List (Addr×Obj)) (s:Shared) (σ:St) (H:Hp) (Q:List (V×V)->Hp->Prop),Inv X pins σ H s->Zbf trs σ H Q →
  wpAny (model X.prog X.w) X.A (evalPairs (pairTrees keys values X.env pos)) (fun vs s'=>∃ps H',Inv X pins σ H' s'∧VV ps vs∧Q ps H') X.xe s
theorem Uu:PPs X pos [] [] []:=fun pins s σ H Q I h=>pairTrees_nil_walk ⟨[],H,I,.nil,h⟩
theorem YB {k v:Expr} {ks:List (Option Expr)} {vs:List Expr} {tk tv:TE} {trs:List (TE×TE)} (hk:PE X k tk) (hv:PE X v tv) (hr:PPs X pos ks vs trs) :
  PPs X pos (some k::ks) (v::vs) ((tk,tv)::trs):=fun pins s σ H Q I h =>
 pairTrees_cons_walk (Zq (hk pins s σ H _ I h) fun u s1 ⟨x,H1,I1,rx,q1⟩=>Zq (hv pins s1 σ H1 _ I1 q1) fun w2 s2 ⟨y,H2,I2,ry,q2⟩ =>
  Zq (hr pins s2 σ H2 _ I2 q2) fun ws s3 ⟨ps,H3,I3,rel,q3⟩=>⟨(x,y)::ps,H3,I3,.cons ⟨rx,ry⟩ rel,q3⟩)
noncomputable def XO (kvs more:List (Zl×V)):List (Zl×V):=more.foldl (fun acc kv=>Ys acc kv.1 kv.2) kvs
theorem KV.merge:∀{more:List (Zl×V)} {rs:List (Zl×Value)} {kvs:List (Zl×V)} {vs:List (Zl×Value)},KV more rs->KV kvs vs->KV (XO kvs more) (merged vs rs):=by
 intro more rs kvs vs r;unfold KV at r
 induction r generalizing kvs vs with
 |nil=>intro q;exact q
 |@cons p q ps qs h t ih =>
  intro r0
  have e:KV (Ys kvs p.1 p.2) (stored vs q.1 q.2):=by
   have:=r0.put p.1 h.2;rw [←h.1];exact this
  exact ih e
theorem ZiN:∀(more kvs:List (Zl×V)),(XO kvs more).length≤kvs.length+more.length
 |[],kvs=>by show kvs.length≤kvs.length+0;omega
 |p::r,kvs=>by
  have h1:=ZiN r (Ys kvs p.1 p.2);have h2:=ZeB kvs p.1 p.2;show (XO (Ys kvs p.1 p.2) r).length≤_;rw [QM];omega
theorem ZgN {P:Program} {w:World}:∀{kvs:List (Zl×V)} {ws:List (Value×Value)},VV (kvs.map fun kv=>(kV kv.1,kv.2)) ws->∃rs,Carries (Yp P w) ws rs∧KV kvs rs
 |[],_,r=>by rw [Gn] at r;cases r;exact ⟨[],True.intro,.nil⟩
 |p::kvs,_,r=>by
  rw [Qx] at r;cases r with
  |@cons a b as bs h t =>
   obtain ⟨rs,c,q⟩:=ZgN (P:=P) (w:=w) t;obtain ⟨b1,b2⟩:=b;exact ⟨(p.1,b2)::rs,⟨Wc h.1,rfl,c⟩,.cons ⟨rfl,h.2⟩ q⟩
def Zf1 (trs:List (TE×TE)):TE:=fun σ H Q=>∀p,H p=none->Zbf trs σ (Zc H p (.dK [])) fun ps H2=>H2 p=some (.dK [])∧∃kvs:List (Zl×V),ps=kvs.map (fun kv=>(kV kv.1,kv.2))∧kvs.length≤15∧Q (.ref p) (Zc H2 p (.dK (XO [] kvs)))
theorem UC {keys:List (Option Expr)} {values:List Expr} {trs:List (TE×TE)} (h:PPs X pos keys values trs) (hall:keys.all (·.isSome)=true) (hl:keys.length=values.length) (h0:keys≠[])
 (h15:keys.length≤15):PE X (.Dict keys values pos) (Zf1 trs):=by
 intro pins s σ H Q I q;have hn:=I.hok.fresh (Qe s.heap.objs.size);have I1:=I.laid (a:=s.heap.objs.size) (o:=.dK []) (h':=s.heap.push { cls:=.type "dict",data:=.dict #[] }) (t':=s.toks) (fun _ _ q=>Qk _ q) (Qe _) (ZgT s.heap I.big);refine wpAny_Dict_walk (knd:=Yp X.prog X.w) hall hl h0 h15 (Zq (h pins _ σ _ _ I1 (q _ hn)) fun ws s2 ⟨ps,H2,I2,rel,e,kvs,ep,lk,q2⟩=>?_);subst ep;obtain ⟨rs,c,rk⟩:=ZgN (P:=X.prog) (w:=X.w) rel;obtain ⟨z,hd,vs0,r0,dd⟩:=Zaz I2.hok e;cases r0;refine ⟨rs,c,dd,fun h' dd' hs=>⟨.ref s.heap.objs.size,_,?_,rfl,q2⟩⟩
 have hz:(XO [] kvs).length≤sizeLine:=by
  have h1:=ZiN kvs [];rw [Nq] at h1;rw [RM];omega
 have he:∃q,h'.get? s.heap.objs.size=some q:=let ⟨q,_,_,hq,_⟩:=dd';⟨q,hq⟩;exact ZaK I2 (by rw [e];exact True.intro) hs he (ZgZ hz hd (rk.merge .nil) dd')
structure M2 (X:Cx) (o:Expr) (m:Str) (apos:Pos) (e f:Expr) (cpos:Pos):Prop where
 base:attributeBase o m X.env (eval o X.env)=eval o X.env
 few:((backTo cpos (starEach [e,f] X.env)).all (fun x=>!x.1)&&(backToKw cpos (keywordEach [] X.env)).all (fun x=>x.1.isSome)
  && decide (([e,f]:List Expr).length+([]:List Keyword).length+(if ([]:List Keyword).isEmpty then 0 else 1)<30))=true
 line:(apos.endLine==cpos.line)=true
 trees:backTo cpos (starEach [e,f] X.env)=[(false,eval e X.env),(false,eval f X.env)]
def IsD (H:Hp) (a:Addr):Prop:=(∃kvs,Rd H a (.dK kvs))∨∃kvs,Rd H a (.dT kvs)
theorem Zgy (I:Inv X pins σ H s) (d:IsD H a) :
  s.TypeIs (.ref a) "dict"∧(∀b,Value.ref a=.ref b->∃ob,s.heap.get? b=some ob∧ob.dict=none)∧(a==sysModules)=false:=by
 rcases d with ⟨kvs,e⟩|⟨kvs,e⟩
 ·obtain ⟨_,hd,vs,_,dd⟩:=VF I.hok e;refine ⟨dd.typeIs,fun b q=>?_,hd⟩;cases q;obtain ⟨ob,_,_,h1,h2,_⟩:=dd;exact ⟨ob,h1,h2.2.1⟩
 ·obtain ⟨_,hd,xs,_,dd⟩:=Ux I.hok e;refine ⟨dd.typeIs,fun b q=>?_,hd⟩;cases q;obtain ⟨ob,_,_,h1,h2,_⟩:=dd;exact ⟨ob,h1,h2.2.1⟩
section
variable {d:V} {r:Value}
theorem ZlU (hu:A.units+1<cLine) (I:Inv X pins σ H s) (g:DGet H a y o) (ry:RelV y u) (rd:RelV d r) (h:∀w' s',Inv X pins σ H s'->RelV (o.getD d) w'->Q w' s') :
  wpAny (model X.prog X.w) A (call (.builtin "dict.get") [.ref a,u,r]) Q E s:=by
 rcases g with ⟨kvs,k,e,ey,l⟩|⟨kvs,k,b,e,ey,eb,l⟩
 ·subst ey;obtain ⟨z,hd,vs,rel,dd⟩:=VF I.hok e;refine GQ Nu dd.typeIs PySem.F.entry_dict_get (NM _ _ _) (meets_dict_get_default (Yp X.prog X.w) a (Wc ry) hd r) ⟨_,dd.mapOf,h _ _ (I.tok _) ?_⟩;rw [l];exact (rel.val k).getD rd
 ·subst ey;cases (show u=Value.ref b from ry);obtain ⟨z,hd,xs,rel,dd⟩:=Ux I.hok e;refine GQ Nu dd.typeIs PySem.F.entry_dict_get (NM _ _ _) (meetsH_dict_get_default (tupleKind (Yp X.prog X.w)) a b hd r) ⟨R8 hu,k,xs,VU I.hok eb,dd,h _ _ (I.tok _) ?_⟩;rw [l];exact (rel.val k).getD rd
end
def ZiC (td ty tx:TE):TE:=fun σ H Q=>td σ H fun x H1=>∃a,x=.ref a∧IsD H1 a∧ty σ H1 fun y H2=>tx σ H2 fun z H3=>∃o,DGet H3 a y o∧Q (o.getD z) H3
section
variable {o f:Expr} {apos cpos:Pos} {td ty tx:TE}
theorem Vh (hu:X.A.units+1<cLine) (ho:PE X o td) (he:PE X e ty) (hf:PE X f tx) (m:M2 X o "get" apos e f cpos):PE X (.Call (.Attribute o "get" apos) [e,f] [] cpos) (ZiC td ty tx):=by
 intro pins s σ H Q I h;refine wpAny_Call_method m.base m.few m.line NN Nu PySem.F.type_dict_get (Zq (ho pins s σ H _ I h) fun u s1 ⟨x,H1,I1,rx,a,ex,d,q1⟩=>?_);subst ex;obtain rfl:u=Value.ref a:=rx;obtain ⟨t1,t2,_⟩:=Zgy I1 d;refine ⟨t1,t2,?_⟩;rw [m.trees]
 refine Np rfl (Gp (Rt (Zq (he pins s1 σ H1 _ I1 q1) fun iv s2 ⟨y,H2,I2,ry,q2⟩ =>
  Rt (Zq (hf pins s2 σ H2 _ I2 q2) fun fv s3 ⟨z,H3,I3,rz,ov,g,q3⟩=>Gm ?_))))
 exact ZlU hu I3 g ry rz fun w' s4 I4 rw'=>⟨_,H3,I4,rw',q3⟩
end
section
variable {kvs:List (Zl×V)}
end
end L2
namespace Att
open PySem PySem.W PySem.Calls PyProof.Rows
theorem Zi8 {P:Params} {h:Heap}:∀(ns:List Int) (vs:List Value),WellAll P h vs (ns.map WData.int)->IntsAre vs ns:=by
 intro ns
 induction ns with
 |nil =>
  intro vs w;rw [Gn] at w;cases w;exact .nil
 |cons n ns ih =>
  intro vs w;rw [Qx] at w;cases w with
  |cons a b =>
   cases a;exact .cons _ _ (ih _ b)
theorem Znu {l:OpenLaw} {n:Nat} (hn:l.most=some n) {P:Params} {h:Heap} {args:List WData} {vals:List Value}
  (hpre:l.row.toRowW.claim.pre args=true) (hwl:WellAll P h vals args) :
  ∃a vs ns,vals=[Value.ref a]∧args=[WData.list (ns.map WData.int)]∧h.get? a=some { cls:=.type "list",data:=.seq vs.toArray }∧IntsAre vs ns∧ns.length≤n:=by
 have hsh:WShape.hasAll [] args [.list .int]=true:=(pre_splitW hpre).1;have hc:l.pre.holds [] { args:=args }=true:=(pre_splitW hpre).2;obtain ⟨d,r,rfl,h1,h2⟩:=hasAllW_cons hsh;obtain rfl:=hasAllW_nil h2;obtain ⟨xs,rfl,h3⟩:=hasW_list h1;obtain ⟨ns,rfl⟩:=items_int h3
 have hlen:ns.length≤n:=by
  unfold OpenLaw.pre at hc
  have h4:(WTm.not (.lt (.lit (.int (n:Int))) (.len (.arg 0)))).holds [] { args:=[.list (ns.map .int)] }=true:=by
   have h4:=(holds_andW hc).1;rw [hn] at h4;exact h4
  have h5:=condW_of h4 (w_not (w_lt w_lit (w_len_list (w_arg rfl))));rw [Qc] at h5;refine Nat.le_of_not_lt fun q=>?_;have q':(n:Int)<((ns.length:Nat):Int):=by omega
  first
   | (rw [Qu q'] at h5;exact absurd h5 (by decide))
   | (simp at h5;omega)
 cases hwl with
 |cons w1 w2 =>
  cases w2;cases w1 with
  |list ho hall=>exact ⟨_,_,ns,rfl,rfl,ho,Zi8 ns _ hall,hlen⟩
theorem Zmp (l:OpenLaw) (args:List WData):l.row.toRowW.claim.post args (.bool true) args=true :=
 postW_of (r:=l.row.toRowW) (X:=(true==true))
  (show WShape.has [] (.bool true) .bool=true by first|rfl|decide|simp [WShape.has,WShape.arms,WShape.armsAll])
  (show (WTm.eq .res (.lit (.bool true))).value [] { args:=args,res:=some (.bool true),after:=args }=some (.bool (true==true)) from w_eq_bool (w_res rfl) w_lit) rfl
theorem attach_call {l:OpenLaw} {n:Nat} {q:Program} {loose:List Str} {XP:(Str->Option Value)->Heap->Prop} {YP:World->Heap->Prop} {d:DefRec}
  (hn:l.most=some n) (hdf:d.params.defaults=[])
  (call:∀(w:World) (s₀ s₁:Shared) (mg mb:Str->Option Value) (fa:Addr) (o:Obj) (pm cd doc:Value) (a:Addr) (vs:List Value) (ns:List Int),
   Ground q loose [] XP w s₀ mg mb s₁.heap->YP w s₁.heap →
   s₁.heap.get? fa=some o->o.data=.func (docDef d.name d.params d.body d.scope pm cd doc)->s₁.heap.CodeRec cd d.name->mg d.name=some (.ref fa) →
   s₁.heap.get? a=some { cls:=.type "list",data:=.seq vs.toArray }->IntsAre vs ns->ns.length≤n->s₁.gens=#[] →
   codeAny (model l.prog w) callerA (.call (.ref fa) ⟨[.ref a],[]⟩) (fun r s'=>r=.ok (.ret (.bool true))∧OldK s₁.heap s'.heap∧s'.os=s₁.os∧AllBare s'.gens) s₁) :
  WalkO q loose XP YP l.row.toRowW d [] (fun f vs=>PySem.call f vs):=by
 intro w s₀ s₁ mg mb G Y fa o pm cd doc dV kV ho hd hcd hD hmg hg args vals as hpre hlay hrd hwl hlo;obtain rfl:dV=.none:=Dflts.none hD hdf;obtain rfl:kV=.none:=Dflts.noKw hD;obtain ⟨a,vs,ns,rfl,rfl,hobj,hints,hlen⟩:=Znu hn hpre hwl;refine enter_call (RO (call w s₀ s₁ mg mb fa o pm cd doc a vs ns G Y ho (fd_plain hd) hcd hmg hobj hints hlen hg) fun r s' hq=>?_);obtain ⟨rfl,h2,h3,h4⟩:=hq;exact ⟨.inl ⟨.bool true,.bool true,[],rfl,fun _=>rfl,.bool true,Zmp l _,fun _=>⟨List.Pairwise.nil,fun _ hm=>(nomatch hm)⟩⟩,h2,h3,h4⟩
section
variable {prog:Program} {w:World} {A:Around} {E:Value->Shared->Prop} {s:Shared} {K:Frag}
end
end Att
namespace L2
open PySem PySem.Spec PyProof.Rows
theorem Zdh:∀{vs:List Value} {ns:List Int},IntsAre vs ns->Vals (ns.map V.int) vs
 |_,_,.nil=>.nil
 |_,_,.cons n t h=>.cons ⟨t,rfl⟩ (Zdh h)
noncomputable def Y0 (s:Stmt) (j:Nat):Stmt:=match s with
 |.ClassDef _ _ _ body _ _ _ _ _ _ _=>body.getD j (.Pass ⟨0,0,0,0⟩)
 |_=>.Pass ⟨0,0,0,0⟩
noncomputable def Xn (s:Stmt):Arguments:=match s with
 |.FunctionDef _ a _ _ _ _ _ _ _ _=>a
 |_=>{ posonlyargs:=[],args:=[],vararg:=none,kwonlyargs:=[],kw_defaults:=[],kwarg:=none,defaults:=[] }
noncomputable def Y3 (s:Stmt):List Stmt:=match s with
 |.FunctionDef _ _ b _ _ _ _ _ _ _=>b
 |_=>[]
noncomputable def Zw (s:Stmt):Scope:=match s with
 |.FunctionDef _ _ _ _ _ _ sc _ _ _=>sc
 |_=>{ kind:=.function,names:=[],isGenerator:=false,isCoroutine:=false }
abbrev E0:XK:=fun _ _ _=>False
structure Fun (K:W.Frag) (x qual:Str) (st:Stmt) (f:Addr) (fd:FuncData):Prop where
 ex:∃(oc:Value) (od:Option Addr) (kV doc pm:Value) (an:Option Addr) (cdv ct:Value) (osl:Array (Option Value)),
  fd=W.fnOf x qual (Xn st) (Y3 st) (Zw st) .none kV doc pm an cdv ct∧K.lookup f=some ⟨oc,od,.func fd,osl⟩∧W.codeIn K cdv qual=true
 kp:W.keepIn K (.ref f)=true
section
variable {P:Program} {w:World} {K:W.Frag} {mg:Str->Option Value} {base:Heap}
theorem Fun.binds {x qual:Str} {st:Stmt} {f:Addr} {fd:FuncData} {ps:List Str} (F:Fun K x qual st f fd)
  (h:∀(kV doc pm:Value) (an:Option Addr) (cdv ct:Value) (us:List Value),us.length=ps.length->bindArgs (W.fnOf x qual (Xn st) (Y3 st) (Zw st) .none kV doc pm an cdv ct) ⟨us,[]⟩=pure (ps.zip us)):Binds K fd ps []:=by
 obtain ⟨oc,od,kV,doc,pm,an,cdv,ct,osl,rfl,lk,hcd⟩:=F.ex;exact .all (h kV doc pm an cdv ct)
theorem Zn3 {x qual:Str} {st:Stmt} {f:Addr} {oc:Value} {od an:Option Addr} {osl:Array (Option Value)} {kV doc pm cdv ct:Value} (l:K.lookup f=some ⟨oc,od,.func (W.fnOf x qual (Xn st) (Y3 st) (Zw st) .none kV doc pm an cdv ct),osl⟩)
  (c:W.codeIn K cdv qual=true) (k:W.keepIn K (.ref f)=true):Fun K x qual st f (W.fnOf x qual (Xn st) (Y3 st) (Zw st) .none kV doc pm an cdv ct):=⟨⟨oc,od,kV,doc,pm,an,cdv,ct,osl,rfl,l,c⟩,k⟩
end
theorem Yk {A:Around} {k:Nat} (hr:Room k A):A.units+1<cLine:=Rp (Nat.add_le_add_left (by decide:1≤64) _) hr.units
theorem ZF {n:Nat} (h:n≤1000):n<sizeLine:=Rp h (by decide)
section
variable {X:Cx}
theorem pv (i:Nat) {x:Str} {pos:Pos} (hN:X.N[i]?=some x:=by rfl) (hv:JF X.env.scope x:=by first|exact Or.inl rfl|exact Or.inr (Or.inl rfl)|exact Or.inr (Or.inr rfl)) (hd:(x==("__debug__" : Str))=false:=by decide)
  (hcd:(x==("__classdict__" : Str))=false:=by decide):PE X (.Name x pos) (XG i):=Zdk hN hv hd hcd
theorem Zow:Y4 X (.builtin "len") (fun xs H Q=>∃a kvs,xs=[V.ref a]∧H a=some (.dK kvs)∧Q (.int kvs.length) H):=by
 intro pins s σ H xs us Q I r h;obtain ⟨a,kvs,rfl,ha,q⟩:=h;obtain ⟨u,rfl,ru⟩:=Xv r;cases ru;exact ZkL I (.inl ha) fun t s' I'=>⟨.int kvs.length,H,I',⟨t,rfl⟩,q⟩
end
theorem Z0 {A B:Prop} (h:B):if false=true then A else B:=by
 rw [Qa QI];exact h
theorem Z4 {A B:Prop} (h:A):if true=true then A else B:=by
 rw [Qb rfl];exact h
def Same (H H':Hp):Prop:=∀b o,H b=some o->H' b=some o
theorem Same.refl (H:Hp):Same H H:=fun _ _ h=>h
theorem Same.trans {H H1 H2:Hp} (a:Same H H1) (b:Same H1 H2):Same H H2:=fun c o h=>b c o (a c o h)
section
variable {κ:Type} [DecidableEq κ]
end
end L2
set_option maxHeartbeats 4000000
namespace L2
open PySem PySem.Spec PyProof.Rows
variable {C a b e f it:Addr} {A:Around} {X:Cx} {tg:Expr} {o:HO} {h h':Heap} {H H':Hp} {J:It} {pins:List (Addr×Obj)} {fp:List Addr} {es:List Expr} {N:List Str} {xs ys:List V} {bmB us:List Value} {M:Model} {i n t':Nat} {Q:Option Value->Shared->Prop} {p pos:Pos} {P prog:Program} {R:Result->Shared->Prop} {sc:Scope} {s s':Shared} {newId:String} {te:TE} {tk:Tok} {cls:Value} {E:Value->Shared->Prop} {CX:Yv}
section
variable {w:World}
theorem HOk.lean (x:HOk P w H h) (k:∀b u,H b≠none->h.get? b=some u->h'.get? b=some u):HOk P w H h':=fun b u e =>
 (x b u e).stay (fun c v hc q=>k c v (by
  rcases hc with rfl|hc
  ·rw [e];simp
  ·rw [hc];simp) q) (fun _ q=>q) fun _ _ q=>q
end
structure Flies (P:Program) (w:World) (outer:List Env) (H H':Hp) (s s':Shared) (e:Addr) (cls:Value):Prop where
 os:s'.os=s.os
 bare:AllBare s'.gens
 un:Un (Yq outer) [] H H' s.heap s'.heap
 fly:∃B a0,Heap.FlyingW B outer e cls a0 s'.heap∧HOk P w H' B∧(∀b o,s.heap.get? b=some o->H b=none->b∉Yq outer->B.get? b=some o) ∧
  ∀b o,s.heap.get? b=some o->b∉Yq outer->∃o',B.get? b=some o'
noncomputable def Zz (P:Program) (w:World):Yv:=fun outer H s E u s'=>∃e cls H',u=.ref e∧Flies P w outer H H' s s' e cls∧E cls none H'
section
variable {σ:St}
theorem Flies.inv (f:Flies X.prog X.w X.stack H H' s s' e cls) (I:Inv X pins σ H s):Inv X pins σ H' s':=by
 obtain ⟨B,a0,fl,hB,_,_⟩:=f.fly;exact I.call' (ch:=[]) f.os f.un (hB.kept fl.1) f.bare (fun b z=>absurd z (by simp))
theorem Inv.nst (I:Inv X pins σ H s) {o:Obj} (q:X.s₀.heap.get? b=some o) (hb:b∉X.fs):b∉Yq X.stack:=fun z=>by
 rcases Qh.mp (I.stkSub b z) with y|y
 ·exact absurd (Qm (Qi q) I.ok.above) (by rw [y];exact QD _)
 ·exact hb y
theorem Flies.leaves {Q:Unit->Shared->Prop} (f:Flies X.prog X.w X.stack H H' s s' e cls) (I:Inv X pins σ H s)
 (hs:X.stack=X.env::X.outer) (hf:X.env.frame=some X.env.locals) (hx:X.ex=[])
 (hQ:∀s'',Flies X.prog X.w X.outer X.H₀ H' X.s₀ s'' e cls->Q () s''):wpAny M X.A (leaving X.env (.ref e)) Q E s':=by
 have J:=f.inv I;obtain ⟨B,a0,fl,hB,kB,tB⟩:=f.fly;rw [hs] at fl;have nx:∀b:Addr,b∉X.ex:=fun b=>by rw [hx];simp
 refine wpAny_leaves_onW (by rw [I.ok.frames,hs]) hf fl fun h' fl' up=>hQ _ ?_
 have slot:∀b o,X.s₀.heap.get? b=some o->b∈X.fs->∃sl,h'.get? b=some { o with slots:=sl }:=fun b o q hb=>by
  obtain ⟨sl,e1⟩:=J.base.slot b o q (I.ok.frf b hb) hb (nx b);obtain ⟨_,o',ho',hn⟩:=J.funs.mem hb;rw [e1] at ho';cases ho';obtain ⟨sl',e2⟩:=up b _ e1 hn;exact ⟨sl',e2⟩
 have keepB:∀b o,X.s₀.heap.get? b=some o->X.H₀ b=none->b∉X.fs->B.get? b=some o:=fun b o q n hb =>
  kB b o (I.base.keep b o q n hb (nx b)) (I.base.free b o q n (nx b)) (I.nst q hb)
 have thereB:∀b o,X.s₀.heap.get? b=some o->b∉X.fs->∃o',B.get? b=some o':=fun b o q hb=>by
  obtain ⟨o1,e1⟩:=I.base.there b o q (nx b);exact tB b o1 e1 (I.nst q hb)
 refine ⟨J.os,J.bare,⟨fun b o q n hb _=>fl'.1 b o (keepB b o q n hb),fun b o q _ hb _=>slot b o q hb,fun b o q n _=>J.base.free b o q n (nx b),fun b o q _=>?_,J.base.tups,J.base.frzs,J.base.tbls⟩,
  B,a0,fl',hB,keepB,thereB⟩
 by_cases hb:b∈X.fs
 ·obtain ⟨sl,e2⟩:=slot b o q hb;exact ⟨_,e2⟩
 ·obtain ⟨o1,e1⟩:=thereB b o q hb;exact ⟨o1,fl'.1 b o1 e1⟩
theorem ZoB {Q:Unit->Shared->Prop} {h1:Heap} {vs:List Value} (I:Inv X pins σ H s) (mk:Heap.MadeExcOf s.heap h1 e cls vs)
 (hs:X.stack=X.env::X.outer) (hf:X.env.frame=some X.env.locals) (hx:X.ex=[])
 (hQ:∀s'',Flies X.prog X.w X.outer X.H₀ H X.s₀ s'' e cls->Q () s''):wpAny M X.A (leaving X.env (.ref e)) Q E { s with heap:=h1 }:=by
 have nx:∀b:Addr,b∉X.ex:=fun b=>by rw [hx];simp
 have hid:∀b o,s.heap.get? b=some o->b∉Yq X.stack->(W.hideAll s.heap (Yq X.stack)).get? b=some o:=fun b o q n=>W.hideAll_get _ q n
 have FF:s.heap.FunFrames (W.hideAll s.heap (Yq X.stack)) X.stack :=
  W.funFrames_hide I.stack fun env he a ha=>Ra.mpr ⟨env,he,ha⟩
 have hB:HOk X.prog X.w H (W.hideAll s.heap (Yq X.stack)):=I.hok.lean fun b u n q=>hid b u q fun z=>n (I.stkFree b z);have sub:∀b o,(W.hideAll s.heap (Yq X.stack)).get? b=some o->s.heap.get? b=some o:=fun b o q=>W.of_hideAll _ q;generalize W.hideAll s.heap (Yq X.stack)=B at *;rw [hs] at FF;refine wpAny_leaves_madeW (s:={ s with heap:=h1 }) (by rw [I.ok.frames,hs]) hf sub FF mk fun h' t fl' _ _ up=>hQ _ ?_
 have slot:∀b o,X.s₀.heap.get? b=some o->b∈X.fs->∃sl,h'.get? b=some { o with slots:=sl }:=fun b o q hb=>by
  obtain ⟨sl,e1⟩:=I.base.slot b o q (I.ok.frf b hb) hb (nx b);obtain ⟨_,o',ho',hn⟩:=I.funs.mem hb;rw [e1] at ho';cases ho';obtain ⟨sl',e2⟩:=up b _ (mk.keeps _ _ e1) hn;exact ⟨sl',e2⟩
 have keepB:∀b o,X.s₀.heap.get? b=some o->X.H₀ b=none->b∉X.fs->B.get? b=some o:=fun b o q n hb =>
  hid b o (I.base.keep b o q n hb (nx b)) (I.nst q hb)
 have thereB:∀b o,X.s₀.heap.get? b=some o->b∉X.fs->∃o',B.get? b=some o':=fun b o q hb=>by
  obtain ⟨o1,e1⟩:=I.base.there b o q (nx b);exact ⟨o1,hid b o1 e1 (I.nst q hb)⟩
 refine ⟨I.os,I.bare,⟨fun b o q n hb _=>fl'.1 b o (keepB b o q n hb),fun b o q _ hb _=>slot b o q hb,fun b o q n _=>I.base.free b o q n (nx b),fun b o q _=>?_,I.base.tups,I.base.frzs,I.base.tbls⟩,
  _,_,fl',hB,keepB,thereB⟩
 by_cases hb:b∈X.fs
 ·obtain ⟨sl,e2⟩:=slot b o q hb;exact ⟨_,e2⟩
 ·obtain ⟨o1,e1⟩:=thereB b o q hb;exact ⟨o1,fl'.1 b o1 e1⟩
end
abbrev XS:=St->XK
def VN (CX:Yv) (X:Cx) (E:XS):Prop:=∀(pins:List (Addr×Obj)) (σ:St) (H:Hp) (s:Shared) (e:Value) (s':Shared),Inv X pins σ H s->CX X.stack H s (E σ) e s'->X.xe e s'
def ZhI (X:Cx) (E:XS):Prop:=∀(pins:List (Addr×Obj)) (σ:St) (H:Hp) (s:Shared) (h1:Heap) (e:Addr) (cls:Value) (vs:List Value),Inv X pins σ H s->Heap.MadeExcOf s.heap h1 e cls vs->E σ cls none H->X.xe (.ref e) { s with heap:=h1 }
theorem Zu {w:World}:VN (Zz P w) X (fun _=>E0):=fun _ _ _ _ _ _ _ ⟨_,_,_,_,_,z⟩=>False.elim z
section
variable {w:World} {K:W.Frag} {mg:Str->Option Value} {base:Heap} {qual:Str} {scope:Scope} {cd:Value} {outer:List Env} {E:XK}
theorem Xb:VN (Zz P w) (WM (Zz P w) P w K mg base N qual scope f cd A outer s H E) (fun _=>E):=by
 rintro pins σ H1 s1 u s' I ⟨e,cls,H',rfl,fl,q⟩;exact fl.leaves I rfl rfl rfl fun s'' f''=>⟨e,cls,H',rfl,f'',q⟩
theorem Uh:ZhI (WM (Zz P w) P w K mg base N qual scope f cd A outer s H E) (fun _=>E):=by
 intro pins σ H1 s1 h1 e cls vs I mk q;exact ZoB I mk rfl rfl rfl fun s'' f''=>⟨e,cls,H1,rfl,f'',q⟩
end
section
variable {k:Nat} {fd:FuncData} {ps:List Str} {sp:Sp} {dvs:List V} {ds:List Value} {E:XS} {x m:Str} {apos:Pos} {e o:Expr} {ta:TE} {t:TA}
def Zh8 (sp:Sp) (dvs:List V) (E:XS) (t:TA):TE:=fun σ H Q=>t σ H fun vs H1=>sp (vs++dvs) H1 Q (E σ)
theorem Zdi {σ:St} {Q:VK} {vs:List V} (F:FnOk X.prog X.w X.K X.mg X.base CX k f fd ps sp) (hr:Room k X.A) (hb:Binds X.K fd ps ds) (hd:Vals dvs ds) (hx:VN CX X E)
 (I:Inv X pins σ H s) (r:Vals vs us) (h:sp (vs++dvs) H Q (E σ)):wpAny (model X.prog X.w) X.A (call (.ref f) us) (EP X pins σ Q) X.xe s:=by
 have r2:Vals (vs++dvs) (us++ds):=r.append hd;have hl:(us++ds).length=ps.length:=by rw [←r2.length];exact F.len _ _ _ _ h
 refine RN (RO (F.run X.A X.stack s H ⟨us,[]⟩ (us++ds) (vs++dvs) Q (E σ) hr I.env0 (hb s us I.kIn hl) r2 h) fun r s' hq=>?_);cases r with
 |error e=>exact hx pins σ H s e s' I hq
 |ok fl =>
  cases fl with
  |ret u=>exact I.after hq
  |next=>exact False.elim hq
  |brk=>exact False.elim hq
  |cont=>exact False.elim hq
theorem ZO (F:FnOk X.prog X.w X.K X.mg X.base CX k f fd ps sp) (hr:Room k X.A) (hg:Gl X x) (hm:X.mg x=some (.ref f)) (hk:W.keepIn X.K (.ref f)=true) (hb:Binds X.K fd ps ds) (hd:Vals dvs ds) (hx:VN CX X E)
 (ha:PA X (e::es) t) (hdb:(x==("__debug__": Str))=false:=by decide) (he:starEach (e::es) X.env=(false,eval e X.env)::starEach es X.env:=by rfl) (hpl:(backTo pos (starEach es X.env)).any (·.1)=false:=by rfl) :
  PE X (.Call (.Name x p) (e::es) [] pos) (Zh8 sp dvs E t):=by
 intro pins s σ H Q I h;refine Ro (Zaf I hg hm ?_ hdb);refine Gr (h₀:=X.base) I.ok.mod.kin hk (Zq (ha pos pins s σ H _ I h) fun us s1 ⟨vs,H1,I1,r,q⟩=>⟨I1.kIn,?_⟩) he hpl;exact Zdi F hr hb hd hx I1 r q
end
section
variable {K:W.Frag}
theorem Zkm (X:K.In h) (q:W.excIn K C bmB newId=true):∃bm N nm qn bs hdct sn sub ab col dd k0 k1 k2 k3 k5 mN,
  h.get? C=some (excClassObj nm qn C N bs bm hdct sn sub ab col dd k0 k1 k2 k3 k5 newId)∧h.Ns N mN∧mN "__init__"=none∧OwnTail h bmB bm:=by
 unfold W.excIn at q;split at q
 case h_2=>cases q
 case h_1 dict0 cdat slots0 found =>
  split at q
  case h_2=>cases q
  case h_1 C1 rest0 s0 s1 s2 s3 nid s5 mroEq slEq =>
   simp only [RD,Rz,GR] at q;have q1:=q.1.1.1.1.1;have q2:=q.1.1.1.1.2;have q3:=q.1.1.1.2;have q4:=q.1.1.2;have q5:=q.1.2;have q6:=q.2;subst q1 q2;cases cdat with
   |mk nmX basesX mroX nsX qualX hdX snX subX abX colX delX =>
    dsimp only at mroEq q3 q5 q6;subst mroEq;subst q3
    have es:slots0=#[s0,s1,s2,s3,some (.builtin nid),s5]:=by
     cases slots0 with
     |mk l=>exact QB _ slEq
    subst es;exact ⟨rest0,nsX,nmX,qualX,basesX,hdX,snX,subX,abX,colX,dict0,s0,s1,s2,s3,s5,_,X _ _ found,.of_isNs (W.isNs_of_in X q5),W.nsMap_none_of_in X q5 q6,W.tail_of_in X q4⟩
end
section
variable {x:Str} {np cpos:Pos} {e₀:Expr} {rest:List Expr} {t:TA} {B initId:String} {E:XS}
def ZjD (C:Addr) (E:XS) (t:TA):TS:=fun _ σ H=>t σ H fun vs H1=>vs.length≤sizeLine∧E σ (.ref C) none H1
theorem Um (hg:Gl X x) (hm:X.mg x=some (.ref C)) (q:W.excIn X.K C bmB newId=true) (FB:ExcBaseFacts B newId initId bmB) (hc:X.calm=true) (hx:ZhI X E) (ha:PA X (e₀::rest) t)
 (hd:(x==("__debug__": Str))=false:=by decide) (he:starEach (e₀::rest) X.env=(false,eval e₀ X.env)::starEach rest X.env:=by rfl) (hpl:(backTo cpos (starEach rest X.env)).any (·.1)=false:=by rfl) :
  PS X (.Raise (some (.Call (.Name x np) (e₀::rest) [] cpos)) none pos) (ZjD C E t):=by
 intro pins s σ H D I h;obtain ⟨bm,N,nm,qn,bs,hdct,sn,sub,ab,col,dd,k0,k1,k2,k3,k5,mN,hC,hN,hni,T⟩:=Zkm I.mod.kin q
 have hpl':(backTo cpos (starEach (e₀::rest) X.env)).any (·.1)=false:=by
  rw [he];exact hpl
 refine wpAny_Raise_call_subT (C:=C) (nm:=nm) (q:=qn) (N:=N) (bs:=bs) (bm:=bm) (hdct:=hdct) (sn:=sn) (sub:=sub) (ab:=ab) (col:=col) (dd:=dd) (k0:=k0) (k1:=k1) (k2:=k2)
  (k3:=k3) (k5:=k5) FB (mN:=mN) (T.hasType FB.hasBase) (I.ok.hd hc) hpl' hni (Zaf I hg hm ⟨rfl,?_⟩ hd)
 have g:=ha cpos pins s σ H _ I h;rw [he] at g ⊢;refine Gp (Q4 g (fun us s1 r1=>?_) fun _ _ y=>y);obtain ⟨vs,H1,I1,rv,z,q1⟩:=r1;exact ⟨rfl,by rw [←rv.length];exact z,I1.bk _ _ hC,hN.keeps I1.bk,T.keeps I1.bk,fun h1 e mk=>hx pins σ H1 s1 h1 e (.ref C) us I1 mk q1⟩
end
def Zgf (cls:Value) (e:Addr):Heap->Prop:=fun h=>∃o vs,h.get? e=some o∧o.cls=cls∧o.data=.fields vs
noncomputable def Zis (cls:Value) (e:Addr):HO:=.ext (Zgf cls e)
section
variable {w:World}
end
section
variable {w:World} {outer:List Env}
end
section
variable {σ:St}
end
section
variable {pins':List (Addr×Obj)} {σ:St} {W:Value->Shared->Prop}
end
section
variable {body suite:List Stmt} {b₀:Stmt} {x n:Str} {np hpos:Pos} {tb:XS->TS} {ts:TS}
end
structure ExcK (K:W.Frag) (C:Addr):Prop where
 ga:W.findIn K (.ref C) "__getattribute__"=some (some (.builtin "BaseException.__getattribute__"))
 gt:W.findIn K (.ref C) "__getattr__"=some none
 cl:W.findIn K (.ref C) "__class__"=some (some (.builtin "object.__class__"))
 mb:W.mroIn K C (.type "BaseException")=some true
 mo:W.mroIn K C (.type "object")=some true
section
variable {w:World} {K:W.Frag} {g:Array GenState} {d:Drawn} {t:Nat} {os:OsState} {ob:Obj}
theorem Zmv:(".".intercalate ("object.__class__".cutAt '.').dropLast)="object":=by trivial
theorem ZmB (X:K.In h) (Z:ExcK K C) (hx:h.get? a=some ob) (hc:ob.cls=.ref C) (hq:R (.ok (.ret (.ref C))) ⟨h,g,d,t,os⟩) :
  codeAny (model prog w) A (.call (.builtin "getset_descriptor.__get__") ⟨[.builtin "object.__class__",.ref a,.ref C],[]⟩) R ⟨h,g,d,t,os⟩:=by
 have k5:(⟨h,g,d,t,os⟩:Shared).TypeIs (.builtin "object.__class__") "getset_descriptor":=Nv
 have mo:W.Looks (model prog w) h (isSubtype (.ref C) (.type (".".intercalate ("object.__class__".cutAt '.').dropLast))) true:=by
  rw [Zmv];exact W.looks_mroIn X Z.mo
 refine codeAny_call_builtin F.slot_gs_get.plain F.entry_gs_get (F.slot_gs_get.check _ _ _ _ _ _ _ _ k5 (F.args_gs_get _ _ _) ?_)
 repeat (any_goals (first|assumption|(with_reducible refine Gs hx ?_;rw [hc])|(with_reducible refine mo.at ?_)|wp_step))
 refine ⟨GS _ (by trivial),RV F.entry_object_class ?_⟩
 repeat (any_goals (first|assumption|(with_reducible refine Gs hx ?_;rw [hc])|wp_step))
theorem Zpj {Q:Fin->Shared->Prop} (X:K.In h) (Z:ExcK K C) (hx:h.get? a=some ob) (hc:ob.cls=.ref C) (hq:Q (.done (.ret (.ref C))) ⟨h,g,d,t,os⟩) :
  wpAny (model prog w) A (Builtin.«object.__getattribute__» ⟨[.ref a,.str "__class__" tk],[]⟩) Q E ⟨h,g,d,t,os⟩:=by
 have k5:(⟨h,g,d,t,os⟩:Shared).TypeIs (.builtin "object.__class__") "getset_descriptor":=Nv;have f5:=Nv;have f6:=F.slot_gs_get.lookup;have f7:=F.slot_gs_set.lookup;have lc:=GI (M:=model prog w) X Z.cl
 repeat (any_goals (first|assumption|(with_reducible refine Gs hx ?_;rw [hc])|(with_reducible refine lc.at ?_)|wp_step))
 refine ZmB X Z hx hc ?_
 repeat (any_goals (first|assumption|wp_step))
theorem Zon {nameV:Value} {Q:Unit->Shared->Prop} (X:K.In h) (Z:ExcK K C) (hx:h.get? a=some ob) (hc:ob.cls=.ref C) (hq:Q () ⟨h,g,d,t,os⟩) :
  wpAny M A (checkBuiltinCall "BaseException.__getattribute__" ⟨[.ref a,nameV],[]⟩) Q E ⟨h,g,d,t,os⟩:=by
 have kd:builtinKind "BaseException.__getattribute__"=some .slot:=by trivial
 have sp:splitId "BaseException.__getattribute__"=some ("BaseException","__getattribute__"):=by trivial
 have mb:=W.looks_mroIn (M:=M) X Z.mb;have ar:=F.args_bexc_ga (.ref a) nameV;simp only [checkBuiltinCall,kd,sp];refine Qd ?_;unfold isInstance
 repeat (first|(with_reducible refine Gs hx ?_;rw [hc])|(with_reducible refine mb.at ?_)|wp_step)
 exact hq
theorem Zpo (X:K.In h) (Z:ExcK K C) (hx:h.get? a=some ob) (hc:ob.cls=.ref C) (hq:R (.ok (.ret (.ref C))) ⟨h,g,d,t,os⟩) :
  codeAny (model prog w) A (.call (.builtin "BaseException.__getattribute__") ⟨[.ref a,.str "__class__" tk],[]⟩) R ⟨h,g,d,t,os⟩ :=
 codeAny_call_builtin (F.excAttr_ValueError).ga.plain F.entry_bexc_ga (Zon X Z hx hc (Zpj X Z hx hc hq))
theorem Zms {fill expr:Bool} {Q:Value->Shared->Prop} (X:K.In h) (Z:ExcK K C) (hx:h.get? a=some ob) (hc:ob.cls=.ref C) (hq:Q (.ref C) ⟨h,g,d,t,os⟩) :
  wpAny (model prog w) A (getAttrBy (.ref a) (.str "__class__" tk) fill expr) Q E ⟨h,g,d,t,os⟩:=by
 have f3:=(F.excAttr_ValueError).ga.bind (.ref a);have y0:(expr&&onTheHeap (Value.builtin "BaseException.__getattribute__"))=false:=by cases expr<;>rfl
 have y2:(Value.builtin "BaseException.__getattribute__"==Value.builtin "object.__getattribute__")=false:=by trivial
 have y1:(onTheHeap (Value.ref C)&&Value.builtin "BaseException.__getattribute__"==Value.builtin "object.__getattribute__")=false:=by rw [y2];rfl
 have lg:=GI (M:=model prog w) X Z.ga;have lt:=GI (M:=model prog w) X Z.gt
 repeat (any_goals (first|assumption|(with_reducible refine Gs hx ?_;rw [hc])|(with_reducible refine lg.at ?_)|(with_reducible refine lt.at ?_)|wp_step))
 refine Zpo X Z hx hc ?_
 repeat (any_goals (first|assumption|wp_step))
theorem ZkS (X:K.In h) (Z:ExcK K C) (hx:h.get? a=some ob) (hc:ob.cls=.ref C) (hq:Q (some (.ref C)) ⟨h,g,d,t+1,os⟩) :
  wpAny (model prog w) A (getAttr? (.ref a) "__class__") Q E ⟨h,g,d,t,os⟩:=by
 unfold getAttr? getAttrBy?
 repeat (any_goals (first|assumption|with_reducible apply Zms X Z hx hc|wp_step))
end
section
variable {K:W.Frag}
theorem ZnR (Z:ExcK K C):W.KitX K (.ref a) (.ref C) (Zgf (.ref C) a) where
 ty:=fun M h X p=>by
  obtain ⟨o,vs,h1,h2,_⟩:=p;exact h2▸(W.Looks.ld h1).andThen .now
 it:=fun M h X p=>by
  obtain ⟨cd,hc,_⟩:=NO.mp Z.mo;unfold W.clsIn at hc;split at hc
  ·rename_i ho;intro A' Q' E' s' k q;unfold isType loadHead;exact Qd (wpAny_loadPart (k _ _ (X _ _ ho)) (Qf q))
  ·cases hc
 ne:=fun h tp dd its n sl X htp=>by
  obtain ⟨cd,hc,_⟩:=NO.mp Z.mo;refine Rq.mpr fun q=>?_;have e:C=tp:=Value.ref.inj (Rz.mp q);subst e;unfold W.clsIn at hc;split at hc
  ·rename_i ho;have z:=(X _ _ ho).symm.trans htp;cases z
  ·cases hc
 ca:=fun {prog w A E Q s} X p k=>by
  obtain ⟨h,g,d,t,os⟩:=s;obtain ⟨o,vs,h1,h2,_⟩:=p;exact ZkS X Z h1 h2 k
end
inductive Kd (K:W.Frag) (H:Hp):V->Value->Prop where
 |of {x:V} {t:Value} (e:TyOf K H x t):Kd K H x t
 |exc {a C:Addr} (Z:ExcK K C) (e:H a=some (Zis (.ref C) a)):Kd K H (.ref a) (.ref C)
 |sqt {a:Addr} {xs:List V} (e:SqT K H a xs):Kd K H (.ref a) (.type "tuple")
 |sql {a:Addr} {xs:List V} (e:SqL K H a xs):Kd K H (.ref a) (.type "list")
noncomputable def isC:V->Bool
 |.ref _=>true
 |.ty _=>true
 |_=>false
noncomputable def Zcx:V->Value
 |.ref a=>.ref a
 |.ty n=>.type n
 |_=>.none
theorem Zi7:Y4 X (.builtin "isinstance") (fun xs H Q=>∃x c t b,xs=[x,c]∧isC c=true∧Kd X.K H x t∧W.kitOne X.K t (Zcx c)=some b∧Q (.bl b) H):=by
 intro pins s σ H xs us Q I r h;obtain ⟨x,c,t,b,rfl,ic,ty,e,q⟩:=h;obtain ⟨u,v,rfl,rx,rc⟩:=JL r
 have ec:Zcx c=v:=by
  cases c with
  |ref a=>exact Eq.symm rc
  |ty n=>exact Eq.symm rc
  |_=>cases ic
 rw [ec] at e;have fin:∀tk,EP X pins σ Q (.bool b) { s with toks:=tk }:=fun tk=>⟨.bl b,H,I.tok tk,rfl,q⟩;cases ty with
 |of ty=>exact Zop I rx ty e fin
 |@exc a C Z ea =>
  cases (show u=Value.ref a from rx);obtain ⟨p,_,_⟩:=(show ObjOk X.prog X.w H s.heap a (Zis (.ref C) a) from I.hok a _ ea);exact QY (ZnR Z) I.kIn p e (fun z=>nomatch z) fin
 |@sqt a ys ea =>
  cases (show u=Value.ref a from rx);rcases ea with ea|⟨o,its,n,h1,h2,_⟩
  ·obtain ⟨_,_,_,p⟩:=(show ObjOk X.prog X.w H s.heap a (.tup ys) from ea.ok I.hok);obtain ⟨o,h1,h2,_⟩:=p;exact QY W.kitx_tuple I.kIn ⟨o,h1,h2⟩ e (fun z=>nomatch z) fin
  ·exact QY W.kitx_tuple I.kIn ⟨o,I.kIn _ _ h1,h2⟩ e (fun z=>nomatch z) fin
 |@sql a ys ea =>
  cases (show u=Value.ref a from rx);rcases ea with ea|⟨o,its,n,h1,h2,_⟩
  ·obtain ⟨_,_,n,_,h1⟩:=(show ObjOk X.prog X.w H s.heap a (.lst ys) from ea.ok I.hok);exact QY GJ I.kIn ⟨_,h1,rfl⟩ e (fun z=>nomatch z) fin
  ·exact QY GJ I.kIn ⟨o,I.kIn _ _ h1,h2⟩ e (fun z=>nomatch z) fin
theorem ZbA:Yl X (binaryOp .FloorDiv) (rI (fun _ j=>j≠0∧j.natAbs<2 ^ 1000) fun i j=>.int (i.fdiv j)):=opI fun i j _ _ _ _ _ hc q =>
 floordiv_int hc.1 q (.inl (PyProof.noPylong_of_log2 (by
  have n:j.natAbs≠0:=fun z=>hc.1 (Int.natAbs_eq_zero.mp z);have:=(Nat.log2_lt n).mpr hc.2;omega)))
theorem Fun.okX {w:World} {K:W.Frag} {mg:Str->Option Value} {base:Heap} {x qual:Str} {st:Stmt} {fd:FuncData} {ps:List Str} {k:Nat} {sp:Sp} (F:Fun K x qual st f fd) (S:FnScope N ps (Zw st))
 (len:∀vs H Q E,sp vs H Q E->vs.length=ps.length)
 (hbody:∀(cdv:Value) (A:Around) (outer:List Env) (s:Shared) (H:Hp) (vs:List V) (Q:VK) (E:XK),Room k (A.deeper (envOfC qual (Zw st) s.heap.objs.size f cdv))->sp vs H Q E →
 ∃t,PSs (WM CX P w K mg base N qual (Zw st) f cdv A outer s H E) (Y3 st) t∧t { nx:=fun _ H'=>Q .non H',rt:=Q } (start N vs) H):FnOk P w K mg base CX (k+1) f fd ps sp:=by
 obtain ⟨oc,od,kV,doc,pm,an,cdv,ct,osl,rfl,lk,hcd⟩:=F.ex;exact Zcw lk hcd S len fun A outer s H vs Q E hr hsp=>hbody cdv A outer s H vs Q E hr hsp
theorem ZaC:bootBuiltins "int"=some (.type "int"):=by trivial
theorem ZfC:bootBuiltins "bool"=some (.type "bool"):=by trivial
theorem Uz:bootBuiltins "str"=some (.type "str"):=by trivial
theorem Zmt:bootBuiltins "list"=some (.type "list"):=by trivial
theorem ZdD:bootBuiltins "tuple"=some (.type "tuple"):=by trivial
theorem Xa:bootBuiltins "len"=some (.builtin "len"):=by trivial
theorem Zly:bootBuiltins "abs"=some (.builtin "abs"):=by trivial
theorem Zci:bootBuiltins "max"=some (.builtin "max"):=by trivial
theorem ZoV:bootBuiltins "min"=some (.builtin "min"):=by trivial
theorem Zm1:bootBuiltins "isinstance"=some (.builtin "isinstance"):=by trivial
abbrev XN:List Value:=[.type "ValueError",.type "Exception",.type "BaseException",.type "object"]
theorem EB:ExcBaseFacts "ValueError" "ValueError.__new__" "ValueError.__init__" XN:=PySem.F.excBase_ValueError
theorem Zj {p:Addr} (n:H p=none):Same H (Zc H p o):=fun b u e=>by
 rw [Zd (ZA e n)];exact e
theorem Same.rd (e:Same H H') {u:HO} (r:Rd H a u):Rd H' a u:=by
 rcases r with r|⟨o,r⟩
 ·exact .inl (e _ _ r)
 ·exact .inr ⟨o,e _ _ r⟩
theorem Same.sqt {K:W.Frag} (e:Same H H') (h:SqT K H a xs):SqT K H' a xs:=by
 rcases h with h|h
 ·exact .inl (e.rd h)
 ·exact .inr h
theorem Same.sql {K:W.Frag} (e:Same H H') (h:SqL K H a xs):SqL K H' a xs:=by
 rcases h with h|h
 ·exact .inl (e.rd h)
 ·exact .inr h
theorem Same.ty {K:W.Frag} {x:V} {t:Value} (e:Same H H') (h:TyOf K H x t):TyOf K H' x t:=by
 cases h with
 |non=>exact .non
 |bl b=>exact .bl b
 |int i=>exact .int i
 |str y=>exact .str y
 |flt y=>exact .flt y
 |lst q=>exact .lst (e _ _ q)
 |frz q=>exact .frz (e _ _ q)
 |tup q=>exact .tup (e _ _ q)
 |dK q=>exact .dK (e _ _ q)
 |dT q=>exact .dT (e _ _ q)
 |ins q c a n tk m=>exact .ins (e _ _ q) c a n tk m
theorem Same.kd {K:W.Frag} {x:V} {t:Value} (e:Same H H') (h:Kd K H x t):Kd K H' x t:=by
 cases h with
 |of q=>exact .of (e.ty q)
 |exc Z q=>exact .exc Z (e _ _ q)
 |sqt q=>exact .sqt (e.sqt q)
 |sql q=>exact .sql (e.sql q)
def Zj1 (K:W.Frag) (t:TA):TE:=fun σ H Q=>t σ H fun xs H1=>∃x c ty b,xs=[x,c]∧isC c=true∧Kd K H1 x ty∧W.kitOne K ty (Zcx c)=some b∧Q (.bl b) H1
theorem XT (K:W.Frag) {e:Expr} {t:TA} (hg:Gl X "isinstance") (hm:X.mg "isinstance"=none) (ha:PA X (e::es) t) (hK:X.K=K:=by rfl)
 (he:starEach (e::es) X.env=(false,eval e X.env)::starEach es X.env:=by rfl) (hpl:(backTo pos (starEach es X.env)).any (·.1)=false:=by rfl):PE X (.Call (.Name "isinstance" p) (e::es) [] pos) (Zj1 K t):=by
 subst hK;exact Yi (Zi7 (X:=X)) hg hm Zm1 ha (by decide) (by decide) he hpl
inductive D where
 |non|bl (b:Bool)|int (i:Int)|str (x:Str)|tup (ds:List D)|lst (ds:List D)
mutual
def Is (K:W.Frag) (H:Hp):D->V->Prop
 |.non,v=>v=.non
 |.bl b,v=>v=.bl b
 |.int i,v=>v=.int i
 |.str x,v=>v=.str x
 |.tup ds,v=>∃a xs,v=.ref a∧SqT K H a xs∧IsL K H ds xs
 |.lst ds,v=>∃a xs,v=.ref a∧SqL K H a xs∧IsL K H ds xs
def IsL (K:W.Frag) (H:Hp):List D->List V->Prop
 |[],xs=>xs=[]
 |d::ds,xs=>∃x r,xs=x::r∧Is K H d x∧IsL K H ds r
end
mutual
noncomputable def Y1:D->D->Bool
 |.non,.non=>true
 |.bl a,.bl b=>a==b
 |.bl a,.int b=>(if a then 1 else 0)==b
 |.int a,.bl b=>a==(if b then 1 else 0)
 |.int a,.int b=>a==b
 |.str a,.str b=>a==b
 |.tup a,.tup b=>Y9 a b
 |.lst a,.lst b=>Y9 a b
 |_,_=>false
noncomputable def Y9:List D->List D->Bool
 |[],[]=>true
 |x::xs,y::ys=>Y1 x y&&Y9 xs ys
 |_,_=>false
end
mutual
noncomputable def XM:D->Nat
 |.tup ds=>Xo ds+1
 |.lst ds=>Xo ds+1
 |_=>0
noncomputable def Xo:List D->Nat
 |[]=>0
 |d::ds=>max (XM d) (Xo ds)
end
section
variable {K:W.Frag}
mutual
theorem Same.is (e:Same H H'):∀(d:D) {v:V},Is K H d v->Is K H' d v
 |.non,v,h=>h
 |.bl b,v,h=>h
 |.int i,v,h=>h
 |.str x,v,h=>h
 |.tup ds,v,h=>by
  obtain ⟨a,xs,rfl,q,r⟩:=h;exact ⟨a,xs,rfl,e.sqt q,Same.isL e ds r⟩
 |.lst ds,v,h=>by
  obtain ⟨a,xs,rfl,q,r⟩:=h;exact ⟨a,xs,rfl,e.sql q,Same.isL e ds r⟩
theorem Same.isL (e:Same H H'):∀(ds:List D) {xs:List V},IsL K H ds xs->IsL K H' ds xs
 |[],xs,h=>h
 |d::ds,xs,h=>by
  obtain ⟨x,r,rfl,h1,h2⟩:=h;exact ⟨x,r,rfl,Same.is e d h1,Same.isL e ds h2⟩
end
theorem IsL.length:∀{ds:List D} {xs:List V},IsL K H ds xs->xs.length=ds.length
 |[],xs,h=>by cases (show xs=[] from h);rfl
 |d::ds,xs,h=>by
  obtain ⟨x,r,rfl,_,h2⟩:=h;rw [QM,QM,IsL.length h2]
end
section
variable {σ:St}
theorem Inv.isList (I:Inv X pins σ H s) (h:SqL X.K H a xs):∃its:List Value,Vals xs its∧s.heap.IsList a its.toArray:=by
 rcases h with h|⟨o,its,n,h1,h2,_,h3,_,r⟩
 ·obtain ⟨_,its,n,r,e⟩:=(show ObjOk X.prog X.w H s.heap a (.lst xs) from h.ok I.hok);exact ⟨its,r,_,e,rfl,n,rfl⟩
 ·exact ⟨its.toList,r,o,I.kIn _ _ h1,h2,n,by simpa using h3⟩
theorem Inv.isTup (I:Inv X pins σ H s) (h:SqT X.K H a xs):∃its:List Value,Vals xs its∧s.heap.IsTuple a its.toArray:=by
 rcases h with h|⟨o,its,n,h1,h2,h3,_,r⟩
 ·obtain ⟨_,its,r,e⟩:=(show ObjOk X.prog X.w H s.heap a (.tup xs) from h.ok I.hok);exact ⟨its,r,e⟩
 ·exact ⟨its.toList,r,o,I.kIn _ _ h1,h2,n,by simpa using h3⟩
theorem Zcr:∀{ds ds':List D},ds.length≠ds'.length->Y9 ds ds'=false
 |[],[],h=>absurd rfl h
 |[],_::_,_=>rfl
 |_::_,[],_=>rfl
 |d::ds,d'::ds',h=>by
  unfold Y9;rw [Zcr (ds:=ds) (ds':=ds') fun z=>h (by rw [QM,QM,z]),Nw]
noncomputable def UI (ds ds':List D) (j:Nat):Bool:=Y1 (ds.getD j .non) (ds'.getD j .non)
theorem Zdn:∀{ds ds':List D},ds.length=ds'.length->(List.range ds.length).all (UI ds ds')=Y9 ds ds'
 |[],[],_=>rfl
 |[],_::_,h=>by cases h
 |_::_,[],h=>by cases h
 |d::ds,d'::ds',h=>by
  have h':ds.length=ds'.length:=by simpa using h
  rw [QM,List.range_succ_eq_map,Go,Gu];unfold Y9;rw [←Zdn h'];rfl
theorem Inv.tup_fun (I:Inv X pins σ H s) (h:SqT X.K H a xs) (h':SqT X.K H a ys):xs=ys:=by
 obtain ⟨us,r,o,e,_,n,d⟩:=I.isTup h;obtain ⟨us',r',o',e',_,n',d'⟩:=I.isTup h';rw [e] at e';cases e';rw [d] at d';injection d' with d1 _;have z:us=us':=by simpa using d1
 subst z;exact r.inj r'
theorem Inv.lst_fun (I:Inv X pins σ H s) (h:SqL X.K H a xs) (h':SqL X.K H a ys):xs=ys:=by
 obtain ⟨us,r,o,e,_,n,d⟩:=I.isList h;obtain ⟨us',r',o',e',_,n',d'⟩:=I.isList h';rw [e] at e';cases e';rw [d] at d';injection d' with d1 _;have z:us=us':=by simpa using d1
 subst z;exact r.inj r'
theorem Inv.tup_lst (I:Inv X pins σ H s) (h:SqT X.K H a xs) (h':SqL X.K H a ys):False:=by
 obtain ⟨us,r,o,e,c,_⟩:=I.isTup h;obtain ⟨us',r',o',e',c',_⟩:=I.isList h';rw [e] at e';cases e';rw [c] at c';exact absurd (Value.type.inj c') (by decide)
mutual
theorem Zld (I:Inv X pins σ H s):∀(d d':D) {v:V},Is X.K H d v->Is X.K H d' v->d=d'
 |.non,d',v,h,h'=>by
  cases (show v=.non from h);cases d'<;>first|rfl|(obtain ⟨_,_,z,_⟩:=h';cases z;done)|cases h'
 |.bl c,d',v,h,h'=>by
  cases (show v=.bl c from h);cases d'<;>first|rfl|(obtain ⟨_,_,z,_⟩:=h';cases z;done)|(cases h';done)|(cases h';rfl)
 |.int c,d',v,h,h'=>by
  cases (show v=.int c from h);cases d'<;>first|rfl|(obtain ⟨_,_,z,_⟩:=h';cases z;done)|(cases h';done)|(cases h';rfl)
 |.str c,d',v,h,h'=>by
  cases (show v=.str c from h);cases d'<;>first|rfl|(obtain ⟨_,_,z,_⟩:=h';cases z;done)|(cases h';done)|(cases h';rfl)
 |.tup ds,d',v,h,h'=>by
  obtain ⟨a,xs,rfl,q,hl⟩:=h;cases d' with
  |tup ds' =>
   obtain ⟨a',xs',e,q',hl'⟩:=h';cases e;rw [I.tup_fun q q'] at hl;rw [JG I ds ds' hl hl']
  |lst ds' =>
   obtain ⟨a',xs',e,q',hl'⟩:=h';cases e;exact (I.tup_lst q q').elim
  |_=>cases h'
 |.lst ds,d',v,h,h'=>by
  obtain ⟨a,xs,rfl,q,hl⟩:=h;cases d' with
  |lst ds' =>
   obtain ⟨a',xs',e,q',hl'⟩:=h';cases e;rw [I.lst_fun q q'] at hl;rw [JG I ds ds' hl hl']
  |tup ds' =>
   obtain ⟨a',xs',e,q',hl'⟩:=h';cases e;exact (I.tup_lst q' q).elim
  |_=>cases h'
theorem JG (I:Inv X pins σ H s):∀(ds ds':List D) {xs:List V},IsL X.K H ds xs->IsL X.K H ds' xs->ds=ds'
 |[],ds',xs,h,h'=>by
  cases (show xs=[] from h);cases ds' with
  |nil=>rfl
  |cons d r=>obtain ⟨_,_,z,_⟩:=h';cases z
 |d::ds,ds',xs,h,h'=>by
  obtain ⟨x,r,rfl,h1,h2⟩:=h;cases ds' with
  |nil=>cases h'
  |cons d' ds' =>
   obtain ⟨x',r',e,h1',h2'⟩:=h';cases e;rw [Zld I d d' h1 h1',JG I ds ds' h2 h2']
end
mutual
theorem ZoI:∀d:D,Y1 d d=true
 |.non=>rfl
 |.bl b=>by simp [Y1]
 |.int i=>by simp [Y1]
 |.str x=>by simp [Y1]
 |.tup ds=>by simp only [Y1];exact Zaj ds
 |.lst ds=>by simp only [Y1];exact Zaj ds
theorem Zaj:∀ds:List D,Y9 ds ds=true
 |[]=>rfl
 |d::ds=>by simp only [Y9,ZoI d,Zaj ds,Bool.and_self]
end
theorem ZaA {α:Type} {l:List α} {x y:α} (h:l[i]?=some x):l.getD i y=x:=by simp [List.getD,h]
theorem ZiF {ds ds':List D} {xs':List V} {us':List Value} {a':Addr} (I:Inv X pins σ H s) (hl:IsL X.K H ds xs) (hl':IsL X.K H ds' xs') (rv:Vals xs us) (rv':Vals xs' us')
 (z:s.heap.IsTuple a us.toArray) (z':s.heap.IsTuple a' us'.toArray) (hu:A.units<cLine)
 (it:∀(j:Nat) (d d':D) (u u':Value),ds[j]?=some d->ds'[j]?=some d'->us[j]?=some u->us'[j]?=some u'->SeqAt.EqAt A.in1 s u u' (Y1 d d')):SeqAt.RcAt A s (.ref a) (.ref a') (Y9 ds ds'):=by
 have e1:us.length=ds.length:=by rw [←rv.length,hl.length]
 have e2:us'.length=ds'.length:=by rw [←rv'.length,hl'.length]
 have g:=SeqAt.RcAt.tuples (e:=UI ds ds') z z' hu fun j h1 h2=>by
  have g1:j<ds.length:=by rw [←e1];simpa using h1
  have g2:j<ds'.length:=by rw [←e2];simpa using h2
  have k1:ds[j]?=some ds[j]:=Qs g1;have k2:ds'[j]?=some ds'[j]:=Qs g2;unfold UI;rw [ZaA k1,ZaA k2];exact it j _ _ _ _ k1 k2 (by simp) (by simp)
 have en:((List.range (min us.toArray.size us'.toArray.size)).all (UI ds ds')&&us.toArray.size==us'.toArray.size)=Y9 ds ds':=by
  simp only [Qz,e1,e2];by_cases q:ds.length=ds'.length
  ·rw [←q,Nat.min_self,Zdn q,beq_self_eq_true,Bool.and_true]
  ·rw [Zcr q,(Rw.mpr q),Nw]
 rw [en] at g;exact g
theorem ZgS {ds ds':List D} {xs':List V} {us':List Value} {a':Addr} (I:Inv X pins σ H s) (hl:IsL X.K H ds xs) (hl':IsL X.K H ds' xs') (rv:Vals xs us) (rv':Vals xs' us')
 (z:s.heap.IsList a us.toArray) (z':s.heap.IsList a' us'.toArray) (hu:A.units<cLine)
 (it:∀(j:Nat) (d d':D) (u u':Value),ds[j]?=some d->ds'[j]?=some d'->us[j]?=some u->us'[j]?=some u'->SeqAt.EqAt A.in1 s u u' (Y1 d d')):SeqAt.RcAt A s (.ref a) (.ref a') (Y9 ds ds'):=by
 have e1:us.length=ds.length:=by rw [←rv.length,hl.length]
 have e2:us'.length=ds'.length:=by rw [←rv'.length,hl'.length]
 by_cases q:ds.length=ds'.length
 ·have g:=SeqAt.RcAt.lists (e:=UI ds ds') z z' (by simp only [Qz,e1,e2,q]) hu fun j h1 h2=>by
   have g1:j<ds.length:=by rw [←e1];simpa using h1
   have g2:j<ds'.length:=by rw [←e2];simpa using h2
   have k1:ds[j]?=some ds[j]:=Qs g1;have k2:ds'[j]?=some ds'[j]:=Qs g2;unfold UI;rw [ZaA k1,ZaA k2];exact it j _ _ _ _ k1 k2 (by simp) (by simp)
  rw [show us.toArray.size=ds.length by simp [e1],Zdn q] at g;exact g
 ·rw [Zcr q];exact SeqAt.RcAt.lists_lengths z z' (by simp only [Qz,e1,e2];exact bne_iff_ne.mpr q) hu
mutual
theorem eqD (I:Inv X pins σ H s):∀(d d':D) {v v':V} {u u':Value} {A:Around},Is X.K H d v->Is X.K H d' v'->RelV v u->RelV v' u'->A.units+XM d<cLine->SeqAt.EqAt A s u u' (Y1 d d')
 |.non,d',v,v',u,u',A,h,h',r,r',hu=>by
  cases (show v=.non from h);cases (show u=Value.none from r);cases d' with
  |non=>cases (show v'=.non from h');cases (show u'=Value.none from r');exact GN _
  |bl b=>cases (show v'=.bl b from h');cases (show u'=Value.bool b from r');exact SeqAt.EqAt.none_bool b
  |int b=>cases (show v'=.int b from h');obtain ⟨t,rfl⟩:=r';exact SeqAt.EqAt.none_int b t
  |str b=>cases (show v'=.str b from h');obtain ⟨t,rfl⟩:=r';exact SeqAt.EqAt.none_str b t
  |tup b=>obtain ⟨a,xs,rfl,q,_⟩:=h';cases r';obtain ⟨its,_,z⟩:=I.isTup q;exact SeqAt.EqAt.none_tuple z (by simpa [XM] using hu)
  |lst b=>obtain ⟨a,xs,rfl,q,_⟩:=h';cases r';obtain ⟨its,_,z⟩:=I.isList q;exact SeqAt.EqAt.none_list z (by simpa [XM] using hu)
 |.bl c,d',v,v',u,u',A,h,h',r,r',hu=>by
  cases (show v=.bl c from h);cases (show u=Value.bool c from r);cases d' with
  |non=>cases (show v'=.non from h');cases (show u'=Value.none from r');exact SeqAt.EqAt.bool_none c
  |bl b=>cases (show v'=.bl b from h');cases (show u'=Value.bool b from r');exact SeqAt.EqAt.bool_bool c b
  |int b=>cases (show v'=.int b from h');obtain ⟨t,rfl⟩:=r';exact SeqAt.EqAt.bool_int c b t
  |str b=>cases (show v'=.str b from h');obtain ⟨t,rfl⟩:=r';exact SeqAt.EqAt.bool_str c b t
  |tup b=>obtain ⟨a,xs,rfl,q,_⟩:=h';cases r';obtain ⟨its,_,z⟩:=I.isTup q;exact SeqAt.EqAt.bool_tuple c z (by simpa [XM] using hu)
  |lst b=>obtain ⟨a,xs,rfl,q,_⟩:=h';cases r';obtain ⟨its,_,z⟩:=I.isList q;exact SeqAt.EqAt.bool_list c z (by simpa [XM] using hu)
 |.int c,d',v,v',u,u',A,h,h',r,r',hu=>by
  cases (show v=.int c from h);obtain ⟨t0,rfl⟩:=r;cases d' with
  |non=>cases (show v'=.non from h');cases (show u'=Value.none from r');exact SeqAt.EqAt.int_none c t0
  |bl b=>cases (show v'=.bl b from h');cases (show u'=Value.bool b from r');exact SeqAt.EqAt.int_bool c t0 b
  |int b=>cases (show v'=.int b from h');obtain ⟨t,rfl⟩:=r';exact SeqAt.EqAt.int_int c t0 b t
  |str b=>cases (show v'=.str b from h');obtain ⟨t,rfl⟩:=r';exact Na c t0 b t
  |tup b=>obtain ⟨a,xs,rfl,q,_⟩:=h';cases r';obtain ⟨its,_,z⟩:=I.isTup q;exact SeqAt.EqAt.int_tuple c t0 z (by simpa [XM] using hu)
  |lst b=>obtain ⟨a,xs,rfl,q,_⟩:=h';cases r';obtain ⟨its,_,z⟩:=I.isList q;exact SeqAt.EqAt.int_list c t0 z (by simpa [XM] using hu)
 |.str c,d',v,v',u,u',A,h,h',r,r',hu=>by
  cases (show v=.str c from h);obtain ⟨t0,rfl⟩:=r;cases d' with
  |non=>cases (show v'=.non from h');cases (show u'=Value.none from r');exact SeqAt.EqAt.str_none c t0
  |bl b=>cases (show v'=.bl b from h');cases (show u'=Value.bool b from r');exact SeqAt.EqAt.str_bool c t0 b
  |int b=>cases (show v'=.int b from h');obtain ⟨t,rfl⟩:=r';exact Nb c t0 b t
  |str b=>cases (show v'=.str b from h');obtain ⟨t,rfl⟩:=r';exact SeqAt.EqAt.str_str c t0 b t
  |tup b=>obtain ⟨a,xs,rfl,q,_⟩:=h';cases r';obtain ⟨its,_,z⟩:=I.isTup q;exact SeqAt.EqAt.str_tuple c t0 z (by simpa [XM] using hu)
  |lst b=>obtain ⟨a,xs,rfl,q,_⟩:=h';cases r';obtain ⟨its,_,z⟩:=I.isList q;exact SeqAt.EqAt.str_list c t0 z (by simpa [XM] using hu)
 |.tup ds,d',v,v',u,u',A,h,h',r,r',hu=>by
  obtain ⟨a,xs,rfl,q,hl⟩:=h;cases (show u=Value.ref a from r);obtain ⟨its,rv,z⟩:=I.isTup q;have hu0:A.units<cLine:=by omega
  cases d' with
  |non=>cases (show v'=.non from h');cases (show u'=Value.none from r');exact SeqAt.EqAt.tuple_none z hu0
  |bl b=>cases (show v'=.bl b from h');cases (show u'=Value.bool b from r');exact SeqAt.EqAt.tuple_bool b z hu0
  |int b=>cases (show v'=.int b from h');obtain ⟨t,rfl⟩:=r';exact SeqAt.EqAt.tuple_int b t z hu0
  |str b=>cases (show v'=.str b from h');obtain ⟨t,rfl⟩:=r';exact SeqAt.EqAt.tuple_str b t z hu0
  |lst b=>obtain ⟨a2,xs2,rfl,q2,_⟩:=h';cases r';obtain ⟨its2,_,z2⟩:=I.isList q2;exact SeqAt.EqAt.tuple_list z z2 hu0
  |tup ds' =>
   obtain ⟨a2,xs2,rfl,q2,hl2⟩:=h';cases (show u'=Value.ref a2 from r');obtain ⟨its2,rv2,z2⟩:=I.isTup q2;have hu1:A.units+(Xo ds+1)<cLine:=hu;show SeqAt.EqAt A s _ _ (Y9 ds ds');by_cases ne:a=a2
   ·subst ne;rw [I.tup_fun q q2] at hl;rw [JG I ds ds' hl hl2,Zaj];exact GN _
   ·exact .of_refs ne (ZiF I hl hl2 rv rv2 z z2 hu0 (J5 I ds ds' (A:=A.in1) hl hl2 rv rv2 (by show A.units+1+Xo ds<cLine;omega)))
 |.lst ds,d',v,v',u,u',A,h,h',r,r',hu=>by
  obtain ⟨a,xs,rfl,q,hl⟩:=h;cases (show u=Value.ref a from r);obtain ⟨its,rv,z⟩:=I.isList q;have hu0:A.units<cLine:=by omega
  cases d' with
  |non=>cases (show v'=.non from h');cases (show u'=Value.none from r');exact SeqAt.EqAt.list_none z hu0
  |bl b=>cases (show v'=.bl b from h');cases (show u'=Value.bool b from r');exact SeqAt.EqAt.list_bool b z hu0
  |int b=>cases (show v'=.int b from h');obtain ⟨t,rfl⟩:=r';exact SeqAt.EqAt.list_int b t z hu0
  |str b=>cases (show v'=.str b from h');obtain ⟨t,rfl⟩:=r';exact SeqAt.EqAt.list_str b t z hu0
  |tup b=>obtain ⟨a2,xs2,rfl,q2,_⟩:=h';cases r';obtain ⟨its2,_,z2⟩:=I.isTup q2;exact SeqAt.EqAt.list_tuple z z2 hu0
  |lst ds' =>
   obtain ⟨a2,xs2,rfl,q2,hl2⟩:=h';cases (show u'=Value.ref a2 from r');obtain ⟨its2,rv2,z2⟩:=I.isList q2;have hu1:A.units+(Xo ds+1)<cLine:=hu;show SeqAt.EqAt A s _ _ (Y9 ds ds');by_cases ne:a=a2
   ·subst ne;rw [I.lst_fun q q2] at hl;rw [JG I ds ds' hl hl2,Zaj];exact GN _
   ·exact .of_refs ne (ZgS I hl hl2 rv rv2 z z2 hu0 (J5 I ds ds' (A:=A.in1) hl hl2 rv rv2 (by show A.units+1+Xo ds<cLine;omega)))
theorem J5 (I:Inv X pins σ H s):∀(ds ds':List D) {xs xs':List V} {us us':List Value} {A:Around},IsL X.K H ds xs->IsL X.K H ds' xs'->Vals xs us->Vals xs' us'->A.units+Xo ds<cLine →
  ∀(j:Nat) (d d':D) (u u':Value),ds[j]?=some d->ds'[j]?=some d'->us[j]?=some u->us'[j]?=some u'->SeqAt.EqAt A s u u' (Y1 d d')
 |[],_,_,_,_,_,_,_,_,_,_,_,j,d,d',u,u',e,_,_,_=>by simp at e
 |d0::ds,ds',xs,xs',us,us',A,hl,hl',rv,rv',hu,j,d,d',u,u',e1,e2,e3,e4=>by
  obtain ⟨x,r,rfl,h1,h2⟩:=hl;cases ds' with
  |nil=>simp at e2
  |cons d0' ds' =>
   obtain ⟨x',r',rfl,h1',h2'⟩:=hl';cases rv with
   |cons ra rb =>
    cases rv' with
    |cons ra' rb' =>
     have hu1:A.units+max (XM d0) (Xo ds)<cLine:=hu;cases j with
     |zero =>
      simp only [Ny,Option.some.injEq] at e1 e2 e3 e4;subst e1 e2 e3 e4;exact eqD I _ _ h1 h1' ra ra' (by omega)
     |succ j =>
      simp only [GT] at e1 e2 e3 e4;exact J5 I ds ds' h2 h2' rb rb' (by omega) j d d' u u' e1 e2 e3 e4
end
def ZhT (K:W.Frag) (g:Bool->Bool):R2:=fun x y H Q=>∃d d',Is K H d x∧Is K H d' y∧((∃ds ds',d=.tup ds∧d'=.tup ds')∨∃ds ds',d=.lst ds∧d'=.lst ds')∧XM d≤60∧Q (.bl (g (Y1 d d'))) H
theorem Zny (hu:X.A.units+64<cLine):Yl X (compareOp .Eq) (ZhT X.K id):=by
 intro pins s σ H x y v u Q I rx ry h;obtain ⟨d,d',h1,h2,sh,hd,q⟩:=h;rcases sh with ⟨ds,ds',rfl,rfl⟩|⟨ds,ds',rfl,rfl⟩
 ·obtain ⟨a,xs,rfl,q1,hl⟩:=h1;obtain ⟨a2,xs2,rfl,q2,hl2⟩:=h2;cases (show v=Value.ref a from rx);cases (show u=Value.ref a2 from ry);obtain ⟨its,rv,z⟩:=I.isTup q1;obtain ⟨its2,rv2,z2⟩:=I.isTup q2;have hd1:Xo ds+1≤60:=hd;exact (ZiF I hl hl2 rv rv2 z z2 (by omega) (J5 I ds ds' (A:=X.A.in1) hl hl2 rv rv2 (by show X.A.units+1+Xo ds<cLine;omega))) _ _ _ _ ⟨.bl _,H,I,rfl,q⟩
 ·obtain ⟨a,xs,rfl,q1,hl⟩:=h1;obtain ⟨a2,xs2,rfl,q2,hl2⟩:=h2;cases (show v=Value.ref a from rx);cases (show u=Value.ref a2 from ry);obtain ⟨its,rv,z⟩:=I.isList q1;obtain ⟨its2,rv2,z2⟩:=I.isList q2;have hd1:Xo ds+1≤60:=hd;exact (ZgS I hl hl2 rv rv2 z z2 (by omega) (J5 I ds ds' (A:=X.A.in1) hl hl2 rv rv2 (by show X.A.units+1+Xo ds<cLine;omega))) _ _ _ _ ⟨.bl _,H,I,rfl,q⟩
end
section
variable {σ:St}
end
section
variable {w:World}
theorem ZmV {elt target iter:Expr} {ifs:List Expr} {scope:Scope} {it acc:Value} {env:Env} (J:Nat->Shared->Prop)
 (turn:∀n s,J n s->wpAny (model prog w) A (pyNext it) (fun r s1=>match r with
 |none=>R (.ok .next) s1
 |some v => wpAny (model prog w) A (letOwnedTupleGo target it v) (fun _ s2 => wpAny (model prog w) A (assign target env v) (fun _ s3 =>
 wpAny (model prog w) A (forIn ifs true fun c r=>if r=true then do let ok ←isTrue c env (eval c env);pure (ForInStep.yield ok) else pure (ForInStep.yield r)) (fun ok s4 =>
 if ok=true then wpAny (model prog w) A (eval elt env) (fun x s5=>wpAny (model prog w) A (call (.builtin "list.append") [acc,x]) (fun _ s6=>∃m,m<n∧J m s6) (fun _ _=>False) s5) (fun _ _=>False) s4
 else ∃m,m<n∧J m s4) (fun _ _=>False) s3) (fun _ _=>False) s2) (fun _ _=>False) s1) (fun _ _=>False) s)
 (n:Nat) (h:J n s):codeAny (model prog w) A (.compLoop (.ListComp elt [⟨target,iter,ifs,0⟩] scope pos) 0 it acc env) R s:=by
 refine codeAny_loop rfl J (fun n s hJ=>?_) n h;show wpAny _ A ((compTurn (.ListComp elt [⟨target,iter,ifs,0⟩] scope pos) 0 it acc env).onRaise (fun x=>do noteFrame x env;theTreesLotGoes x)) _ _ s;refine wpAny_noted ?_;rw [compTurn_list];refine Qd (wpAny_standAt (Qd (Q4 (turn n s hJ) (fun r s1 h1=>?_) fun _ _ z=>z.elim)));cases r with
 |none=>exact Qf h1
 |some v =>
  refine Qd (Q4 h1 (fun _ s2 h2=>Qd (Q4 h2 (fun _ s3 h3=>Qd (Q4 h3 (fun ok s4 h4=>?_) fun _ _ z=>z.elim)) fun _ _ z=>z.elim)) fun _ _ z=>z.elim);cases ok with
  |false=>exact Qf ⟨rfl,h4⟩
  |true=>exact Qd (Qd (Q4 h4 (fun x s5 h5=>Qd (Q4 h5 (fun _ s6 h6=>Qf (Qf ⟨rfl,h6⟩)) fun _ _ z=>z.elim)) fun _ _ z=>z.elim))
end
def PTs (X:Cx) (ifs:List Expr) (t:TT):Prop :=
 ∀(pins:List (Addr×Obj)) (s:Shared) (σ:St) (H:Hp) (Q:Bool->Hp->Prop),Inv X pins σ H s->t σ H Q →
  wpAny (model X.prog X.w) X.A (forIn ifs true fun c r=>if r=true then do let ok ←isTrue c X.env (eval c X.env);pure (ForInStep.yield ok) else pure (ForInStep.yield r)) (TP X pins σ Q) X.xe s
def ZfM:TT:=fun _ H Q=>Q true H
theorem Za6:PTs X [] ZfM:=fun _ _ _ H _ I h=>wpAny_tests_nil ⟨H,I,h⟩
theorem Vl {c:Expr} {t:TT} (h:PT X c t):PTs X [c] t:=fun pins s σ H Q I q=>wpAny_tests_one (h pins s σ H Q I q)
noncomputable abbrev Cx.block (X:Cx) (N:List Str) (sc:Scope) (cl:List (Str×Addr)) (fp:List Addr) (s3:Shared) (H3:Hp):Cx :=
 { X with N:=N,s₀:=s3,H₀:=H3,env:=compEnvC sc cl s3.heap.objs.size X.env,outer:=X.stack,ex:=fp,fn:=fun _=>false,pn:=[],xe:=fun _ _=>False }
structure CompSc (X:Cx) (N:List Str) (sc:Scope) (cl:List (Str×Addr)) (σc:St->St):Prop where
 kind:sc.kind=.function
 names:∀x∈sc.names,x.2=.local->sc.names.lookup x.1=some .local
 nocell:∀y∈sc.names,y.2≠.cell
 clos:closureFor sc X.env=pure cl
 sub:∀x c,cl.lookup x=some c->X.env.cells.lookup x=some c
 has:∀x,((relabel sc X.env).names.lookup x=some .cell∨(relabel sc X.env).names.lookup x=some .free)->∃c,cl.lookup x=some c
 len:∀σ:St,(σc σ).length=N.length
 cap:∀(σ:St) (i:Nat) (x:Str) (v:V),N[i]?=some x->(σc σ)[i]?=some (some v)->((relabel sc X.env).names.lookup x=some .cell∨(relabel sc X.env).names.lookup x=some .free)∧(X.env.scope.names.lookup x=some .cell∨X.env.scope.names.lookup x=some .free)∧∃j:Nat,X.N[j]?=some x∧σ[j]?=some (some v)
def ZdK (J:It) (σ0:St) (g:TG) (tt:TT) (te:TE) (Q:VK) (H1:Hp):Prop:=∀D,H1 D=none →
 ∃W:Nat->Nat->St->List V->Hp->Prop,(∃m,W 0 m σ0 [] (Zc H1 D (.lst [])))∧∀i m σ1 ys H2,W i m σ1 ys H2->H2 D=some (.lst ys) ∧
  ((J.stop i H2∧Q (.ref D) H2)∨(J.go i H2∧∃N:St->List V->Hp->Prop,(∀σ2 ys2 H3,N σ2 ys2 H3->∃m',m'<m∧W (i+1) m' σ2 ys2 H3) ∧
   ∀x H3,J.yld i H2 x H3->g x σ1 H3 fun σ2 H4=>tt σ2 H4 fun c H5=>if c=true then te σ2 H5 fun y H6=>H6 D=some (.lst ys)∧ys.length<sizeLine∧N σ2 (ys++[y]) (Zc H6 D (.lst (ys++[y]))) else N σ2 ys H5))
def ZaI (wi:TI) (σc:St->St) (g:TG) (tt:TT) (te:TE):TE:=fun σ H Q=>wi σ H fun J H1=>ZdK J (σc σ) g tt te Q H1
section
variable {σ:St} {cl:List (Str×Addr)} {σc:St->St}
theorem Inv.block (I:Inv X pins σ H s) (S:CompSc X N sc cl σc) (hf:∀b∈fp,XZ X pins H b) (hlt:∀b∈fp,b<s.heap.objs.size) (k:∀b u,s.heap.get? b=some u->h'.get? b=some u) (hn:h'.Ns s.heap.objs.size fun _=>none) :
  Inv (X.block N sc cl fp s H) [] (σc σ) H { s with heap:=h',toks:=t' }:=by
 have kin:∀x,(X.block N sc cl fp s H).env.kindOf x=(relabel sc X.env).names.lookup x:=fun _=>rfl
 refine ⟨⟨I.ok.mod,S.kind,I.ok.glob,I.ok.blt,Qe _,fun x y c h1 h2=>I.ok.inj x y c (S.sub x c h1) (S.sub y c h2),fun x hx=>S.has x hx,fun x c z _=>(nomatch z),I.ok.hd,I.ok.frames,.inl rfl,fun b hb=>⟨QA (hlt b hb),fun x c e=>(hf b hb).2.2.2.2.1 x c (S.sub x c e)⟩,
  I.bs,Qn I.ok.bsz I.sz,fun b o e hb=>?_,fun b hb z=>?_,I.stack,I.stkFree⟩,
  rfl,I.bare,Un.kept k,⟨_,hn,fun i x v e1 e2 e3=>?_⟩,fun x c e=>?_,I.hok.fresh (Qe _),fun x c e=>I.freeC x c (S.sub x c e),fun p hp=>absurd (show p∈([]:List (Addr×Obj)) from hp) (by simp),I.hok.kept k,S.len σ⟩
 ·rcases (hf b hb).2.2.2.1 with z|z
  ·exact I.ok.noex b o e z
  ·exact absurd (Qm (Qi e) (Qn I.ok.bsz z)) (QD _)
 ·rcases Qh.mp (I.stkSub b z) with y|y
  ·exact (hf b hb).2.1 y
  ·exact (hf b hb).2.2.1 y
 ·obtain ⟨hk,hko,j,hj,hσ⟩:=S.cap σ i x v e1 e2;obtain ⟨m,hm,hl⟩:=I.loc;obtain ⟨u,r,l⟩:=hl j x v hj hσ (by rcases hko with z|z;exact .inr (.inl z);exact .inr (.inr z));refine ⟨u,r,.inr ⟨hk,?_⟩⟩;rcases l with ⟨q,_⟩|⟨_,c,hc,q⟩
  ·have q':X.env.scope.names.lookup x=some .local:=q;rcases hko with z|z<;>(rw [z] at q';cases q')
  ·obtain ⟨c',hc'⟩:=S.has x hk;have e:=S.sub x c' hc';rw [hc] at e;cases e;exact ⟨c,hc',q.keeps k⟩
 ·obtain ⟨v,q⟩:=I.cell x c (S.sub x c e);exact ⟨v,q.keeps k⟩
end
section
variable {elt iter:Expr} {ifs:List Expr} {cl:List (Str×Addr)} {σc:St->St} {wi:TI} {g:TG} {tt:TT}
structure Gone (X:Cx) (pins:List (Addr×Obj)) (H:Hp) (C:Addr):Prop where
 free:H C=none
 loc:C≠X.env.locals
 new:X.s₀.heap.objs.size≤C
 cell:∀x c,X.env.cells.lookup x=some c->c≠C
 pin:∀p∈X.pn++pins,p.1≠C
theorem Inv.gone {σ:St} (I:Inv X pins σ H s) (G:Gone X pins H C) (sb:Heap.SameBut C s.heap h'):Inv X pins σ H { s with heap:=h' } :=
 I.turned (t':=s.toks) (it:=C) (fun b o n q=>(sb.2 b n).trans q) G.free G.loc (.inr G.new) G.cell G.pin
theorem Zhw {s2:Shared} {σ:St} {H2:Hp} {Q:VK} {RR:Value->Addr->Result->Shared->Prop} {tn:Nat->Heap->Prop} 
 (hc:X.calm=true) (S:CompSc X N sc cl σc) (hg:∀fp s3 H3,PG (X.block N sc cl fp s3 H3) tg g) (ht:∀fp s3 H3,PTs (X.block N sc cl fp s3 H3) ifs tt) (he:∀fp s3 H3,PE (X.block N sc cl fp s3 H3) elt te)
 (I2:Inv X pins σ H2 s2) (T:Turn X.prog X.w X.K tg J fp it tn) (st2:tn 0 s2.heap) (f2:∀b∈fp,XZ X pins H2 b)
 (h2:∀D,H2 D=none->∃W:Nat->Nat->St->List V->Hp->Prop,(∃m,W 0 m (σc σ) [] (Zc H2 D (.lst [])))∧∀i m σ1 ys H2,W i m σ1 ys H2->H2 D=some (.lst ys) ∧
 ((J.stop i H2∧Q (.ref D) H2)∨(J.go i H2∧∃N:St->List V->Hp->Prop,(∀σ2 ys2 H3,N σ2 ys2 H3->∃m',m'<m∧W (i+1) m' σ2 ys2 H3) ∧
 ∀x H3,J.yld i H2 x H3->g x σ1 H3 fun σ2 H4=>tt σ2 H4 fun c H5=>if c=true then te σ2 H5 fun y H6=>H6 D=some (.lst ys)∧ys.length<sizeLine∧N σ2 (ys++[y]) (Zc H6 D (.lst (ys++[y]))) else N σ2 ys H5)))
 (hRR:∀D C m s7 H7,Inv X pins σ H7 s7->s7.heap.Ns C m->Gone X pins H7 C->Q (.ref D) H7->RR (.ref D) C (.ok .next) s7) :
  wpAny (model X.prog X.w) X.A (newList []) (fun acc s₃=>wpAny (model X.prog X.w) X.A (newFunctionEnv sc X.env.globals cl [] X.env.qual none .none (some X.env)) (fun cenv s₄ =>
   codeAny (model X.prog X.w) X.A (.compStart (.ListComp elt [⟨tg,iter,ifs,0⟩] sc pos) 0 (.ref it) acc { cenv with scope:=relabel sc X.env }) (RR acc cenv.locals) s₄) E s₃) E s2:=by
 refine RU ?_;have hD:H2 s2.heap.objs.size=none:=I2.hok.fresh (Qe _)
 have I3:Inv X pins σ (Zc H2 s2.heap.objs.size (.lst [])) { s2 with heap:=s2.heap.push { cls:=.type "list",dict:=none,data:=.seq ([]:List Value).toArray } } :=
  I2.laid (t':=s2.toks) (fun b u q=>Qk _ q) (Qe _) ⟨by decide,[],0,.nil,Qw _ rfl⟩
 have flt:∀b∈fp,b<s2.heap.objs.size:=fun b hb=>by
  obtain ⟨o,e,_⟩:=T.obj _ _ st2 b hb;exact Qi e
 obtain ⟨W,⟨m0,w0⟩,turn⟩:=h2 s2.heap.objs.size hD;have f3:∀b∈fp,XZ X pins (Zc H2 s2.heap.objs.size (.lst [])) b:=fun b hb=>⟨by rw [Zd (QA (flt b hb))];exact (f2 b hb).1,(f2 b hb).2⟩;have st3:tn 0 (s2.heap.push { cls:=.type "list",dict:=none,data:=.seq ([]:List Value).toArray }):=T.keep _ _ _ st2 fun b _ o q=>Qk _ q;have sz3:s2.heap.objs.size≤(s2.heap.push { cls:=.type "list",dict:=none,data:=.seq ([]:List Value).toArray }).objs.size:=by rw [Ri];exact QQ _
 generalize s2.heap.push { cls:=.type "list",dict:=none,data:=.seq ([]:List Value).toArray }=h3 at *;generalize s2.heap.objs.size=D at *;refine Nz S.nocell (by intro y hy;simp at hy) (fun h4 hn4 hb4=>?_) S.kind;dsimp only at hn4 hb4 ⊢;have k4:∀b u,h3.get? b=some u->h4.get? b=some u:=fun b u q=>(hb4.2 b (QA (Qi q))).trans (Qk _ q)
 have I4:Inv (X.block N sc cl fp { s2 with heap:=h3 } (Zc H2 D (.lst []))) [] (σc σ) (Zc H2 D (.lst [])) { s2 with heap:=h4,toks:=s2.toks+0 } :=
  I3.block S f3 (fun b hb=>Qm (flt b hb) sz3) k4 hn4
 have st4:tn 0 h4:=T.keep _ _ _ st3 fun b _ o q=>k4 b o q
 have fb:∀{H':Hp},(∀b∈fp,H' b=none)->∀b∈fp,XZ (X.block N sc cl fp { s2 with heap:=h3 } (Zc H2 D (.lst []))) [] H' b:=fun hn b hb =>
  ⟨hn b hb,(I4.ok.exf b hb).1,I4.ok.exfs b hb,.inl hb,(I4.ok.exf b hb).2,fun p hp=>absurd (show p∈([]:List (Addr×Obj)) from hp) (by simp)⟩
 have fin:∀{σ':St} {H':Hp} {s':Shared} {h':Heap},Inv (X.block N sc cl fp { s2 with heap:=h3 } (Zc H2 D (.lst []))) [] σ' H' s'->Heap.SameBut h3.objs.size s'.heap h'->Inv X pins σ H' { s' with heap:=h' }:=fun {σ' H' s' h'} J' sb=>by
  have lt3:∀b o,h3.get? b=some o->b≠h3.objs.size:=fun b o q=>QA (Qi q);have lo:H' h3.objs.size=none:=J'.free
  have hk:HOk X.prog X.w H' h':=fun b u e=>(J'.hok b u e).stay (fun c v hcc q=>(sb.2 c (by
   rintro rfl;rcases hcc with z|z
   ·subst z;rw [lo] at e;cases e
   ·rw [lo] at z;cases z)).trans q) (fun _ q=>q) fun _ _ q=>q
  refine I3.call' (s':={ s' with heap:=h' }) (ch:=fp) J'.os ⟨fun b o q n hb hx=>(sb.2 b (lt3 b o q)).trans (J'.base.keep b o q n hb hx),fun b o q n hb hx=>?_,fun b o q n hx=>J'.base.free b o q n hx,fun b o q hx=>?_,J'.base.tups,J'.base.frzs,J'.base.tbls⟩ hk J'.bare fun b hb=>?_
  ·obtain ⟨sl,q1⟩:=J'.base.slot b o q n hb hx;exact ⟨sl,(sb.2 b (lt3 b o q)).trans q1⟩
  ·obtain ⟨o1,q1⟩:=J'.base.there b o q hx;exact ⟨o1,(sb.2 b (lt3 b o q)).trans q1⟩
  ·exact ⟨(f3 b hb).2.2.2.1,(f3 b hb).2.1,(f3 b hb).2.2.2.2.1,(f3 b hb).2.2.2.2.2⟩
 have loop : ∀s5 : Shared, Inv (X.block N sc cl fp { s2 with heap := h3 } (Zc H2 D (.lst []))) [] (σc σ) (Zc H2 D (.lst [])) s5 → tn 0 s5.heap →
   codeAny (model X.prog X.w) X.A (.compLoop (.ListComp elt [⟨tg,iter,ifs,0⟩] sc pos) 0 (.ref it) (.ref D) (compEnvC sc cl h3.objs.size X.env)) (RR (.ref D) h3.objs.size) s5:=fun s5 I5 st5=>by
  refine ZmV (fun n s'=>∃i σ' ys H',Inv (X.block N sc cl fp { s2 with heap:=h3 } (Zc H2 D (.lst []))) [] σ' H' s'∧tn i s'.heap∧(∀b∈fp,H' b=none)∧W i n σ' ys H') ?_ m0 ⟨0,_,[],_,I5,st5,fun b hb=>(f3 b hb).1,w0⟩;rintro n s6 ⟨i,σ6,ys,H6,I6,st6,fr6,w6⟩;obtain ⟨hDy,step⟩:=turn i n σ6 ys H6 w6;rcases step with ⟨stop,q6⟩|⟨go,Nx,hN,step⟩
  ·refine Zq (T.done (X.block N sc cl fp { s2 with heap:=h3 } (Zc H2 D (.lst []))) rfl rfl rfl hc i [] s6 σ6 H6 (fun _ _=>False) I6 (fb fr6) st6 stop) fun r s7 ⟨hr,I7⟩=>?_;subst hr;obtain ⟨m7,hm7,_⟩:=I7.loc;refine hRR D h3.objs.size m7 s7 H6 (fin I7 ⟨rfl,fun _ _=>rfl⟩) hm7 ⟨I7.free,Rs I3.lt,I3.sz,fun x c e=>?_,fun p hp=>?_⟩ q6
   ·obtain ⟨v,z⟩:=I3.cell x c e;exact QA z.lt
   ·exact QA (Qi (I3.pin p hp).1)
  ·refine Zq (T.item (X.block N sc cl fp { s2 with heap:=h3 } (Zc H2 D (.lst []))) rfl rfl rfl hc i [] s6 σ6 H6 (fun _ _=>False) I6 (fb fr6) st6 go) fun r s7 ⟨u,hr,h7⟩=>?_;subst hr;refine Zq h7 fun _ s8 ⟨x,H8,I8,r8,y8,st8,fr8⟩=>?_;have I8':=I8.pinned (fb fr8) (T.obj _ _ st8);refine Zq (hg _ _ _ _ s8 σ6 H8 x u _ I8' r8 (step x H8 y8)) fun _ s9 ⟨σ9,H9,I9,q9⟩=>?_;refine Zq (ht _ _ _ _ s9 σ9 H9 _ I9 q9) fun c sA ⟨HA,IA,qA⟩=>?_
   have again : ∀{σB : St} {HB : Hp} {sB : Shared} {zs : List V}, Inv (X.block N sc cl fp { s2 with heap := h3 } (Zc H2 D (.lst []))) ([] ++ JD fp s8.heap) σB HB sB → Nx σB zs HB →
     ∃m,m<n∧∃i σ' ys H',Inv (X.block N sc cl fp { s2 with heap:=h3 } (Zc H2 D (.lst []))) [] σ' H' sB∧tn i sB.heap∧(∀b∈fp,H' b=none)∧W i m σ' ys H':=fun {σB HB sB zs} IB nB=>by
    obtain ⟨m',hm,wB⟩:=hN σB zs HB nB;refine ⟨m',hm,i+1,σB,zs,HB,IB.unpinned,T.keep _ _ _ st8 fun b hb o e=>(IB.pin (b,o) (QU _ (QU _ (ZaW hb e)))).1,fun b hb=>?_,wB⟩;obtain ⟨o,e,d⟩:=T.obj _ _ st8 b hb;exact (IB.pin (b,o) (QU _ (QU _ (ZaW hb e)))).2.1
   cases c with
   |false=>exact again IA qA
   |true =>
    refine Zq (he _ _ _ _ sA σ9 HA _ IA qA) fun y sB ⟨yv,HB,IB,rB,dB,lB,qB⟩=>?_;exact Zq (X6 (X:=X.block N sc cl fp { s2 with heap:=h3 } (Zc H2 D (.lst []))) _ sB σ9 HB (.ref D) [yv] (.ref D) [y] (fun v H'=>v=.non∧Nx σ9 (ys++[yv]) H') IB rfl (.cons rB .nil) ⟨D,ys,yv,rfl,rfl,dB,lB,rfl,qB⟩) fun _ sC ⟨_,HC,IC,_,_,qC⟩=>again IC qC
 refine codeAny_compStart_list (loop _ I4 st4) ?_;exact T.self _ 0 _ _ _ st4 (loop _ I4 st4)
theorem X9 (hc:X.calm=true) (S:CompSc X N sc cl σc) (hi:PI X tg iter wi) (hg:∀fp s3 H3,PG (X.block N sc cl fp s3 H3) tg g) (ht:∀fp s3 H3,PTs (X.block N sc cl fp s3 H3) ifs tt) (he:∀fp s3 H3,PE (X.block N sc cl fp s3 H3) elt te)
 (hs:∀x,foldedSetIterable iter X.env x=pure x:=by intro _;rfl):PE X (.ListComp elt [⟨tg,iter,ifs,0⟩] sc pos) (ZaI wi σc g tt te):=by
 intro pins s σ H Q I h;rw [eval_ListComp];refine wpAny_comprehension_free rfl hs S.clos S.kind S.names (Zq (hi pins s σ H _ I h) fun v s1 h1=>Zq h1 fun itv s2 h2=>?_);obtain ⟨it,fp,tn,J,H2,e,I2,T,st2,f2,h2⟩:=h2;subst e;exact Zhw (Q:=Q) hc S hg ht he I2 T st2 f2 h2 fun D C m s7 H7 I7 n7 G q=>⟨m,n7,fun h' sb=>⟨.ref D,H7,I7.gone G sb,rfl,q⟩⟩
theorem Zi5 {x:Str} {pos' spos:Pos} (hc:X.calm=true) (hN:X.N.Nodup) (hi':X.N[i]?=some x) (hx:J6 X.env.scope x) (S:CompSc X N sc cl σc) (hi:PI X tg iter wi)
 (hg:∀fp s3 H3,PG (X.block N sc cl fp s3 H3) tg g) (ht:∀fp s3 H3,PTs (X.block N sc cl fp s3 H3) ifs tt) (he:∀fp s3 H3,PE (X.block N sc cl fp s3 H3) elt te)
 (hs:∀x,foldedSetIterable iter X.env x=pure x:=by intro _;rfl) (hsw:swapsWith (.ListComp elt [⟨tg,iter,ifs,0⟩] sc pos) (some (.Name x pos')) spos.line X.env=pure true:=by rfl)
 (hf:X.fn x=true∨X.env.scope.names.lookup x=some .local:=by first|exact .inl rfl|exact .inr rfl|assumption) :
  PS X (.Assign [.Name x pos'] (.ListComp elt [⟨tg,iter,ifs,0⟩] sc pos) spos) (JK (ZaI wi σc g tt te) (ZM i)):=by
 intro pins s σ H D I h;rw [exec_Assign_Name_used _ _ _ _ hsw];refine Qd (wpAny_standAt (Qd ?_));show wpAny _ _ (comprehension (.ListComp elt [⟨tg,iter,ifs,0⟩] sc pos) sc X.env (firstIterPos [⟨tg,iter,ifs,0⟩] pos) (newList []) (firstAsync [⟨tg,iter,ifs,0⟩]) (firstIter [⟨tg,iter,ifs,0⟩] X.env) (some (assign (.Name x pos') X.env)) >>= fun _=>pure ()) _ _ s;refine Qd (Q4 (Q:=fun _ s'=>SP X pins D .next s') ?_ (fun _ s' q=>Qf (Qf q)) fun _ _ z=>z);refine wpAny_comprehension_free rfl hs S.clos S.kind S.names (Zq (hi pins s σ H _ I h) fun v s1 h1=>Zq h1 fun itv s2 h2=>?_);obtain ⟨it,fp,tn,J,H2,e,I2,T,st2,f2,h2⟩:=h2;subst e;refine Zhw (Q:=fun v H'=>D.nx (σ.set i (some v)) H') hc S hg ht he I2 T st2 f2 h2 fun d C m s7 H7 I7 n7 G q=>?_;show wpAny _ _ (assign (.Name x pos') X.env (.ref d)) _ _ s7;refine wpAny_assign_Name (Zgr (v:=.ref d) I7 hN hi' hx rfl (fun s8 I8 ch=>?_) hf);obtain ⟨a,sb,ha⟩:=ch
 have aC:C≠a:=by
  rcases ha with z|z
  ·rw [z];exact G.loc
  ·exact (G.cell x a z).symm
 exact ⟨m,n7.sameBut sb aC,fun h' sb'=>⟨_,H7,I8.gone G sb',q⟩⟩
end
noncomputable def Itw (n:Nat) (V1:Nat->V->Prop):It:=⟨fun i _=>i<n,fun i H x H'=>H'=H∧V1 i x,fun i _=>i=n⟩
theorem ZfY {w:World} {K:PySem.W.Frag} {Pv:Nat->Value->Prop} {V1:Nat->V->Prop} {st:Nat->Heap->Prop}
 (W:∀A:Around,A.handled=none->Walks P w A it [it] [it] n Pv st) (ob:∀i h,st i h->∃o,h.get? it=some o∧∀v,o.data≠.cell v) (val:∀i v,Pv i v->∃x,RelV x v∧V1 i x)
 (own:∀i v s (M:Model) (A:Around) (E:Value->Shared->Prop) (Q:Unit->Shared->Prop),Pv i v->Q () s->wpAny M A (letOwnedTupleGo tg (.ref it) v) Q E s)
 (self:∀(A:Around) (i:Nat) (s:Shared) (Q:Value->Shared->Prop) (E:Value->Shared->Prop),st i s.heap->Q (.ref it) s->wpAny (model P w) A (pyIter (.ref it)) Q E s):Turn P w K tg (Itw n V1) [it] it st where
 mem:=by simp
 obj:=fun i h hs b hb=>by
  have e:b=it:=by simpa using hb
  subst e;exact ob i h hs
 keep:=fun i h h' hs k=>(W {} rfl).frame i h h' hs k
 item:=fun X hP hw hK hc i pins s σ H E I hf hs go=>by
  subst hP hw hK;refine (W X.A (I.ok.hd hc)).item i s _ E go hs fun v h' tk pv hs' k=>⟨v,rfl,?_⟩;obtain ⟨x,rx,vx⟩:=val i v pv;obtain ⟨f0,f1,_,f3,f4,f5⟩:=hf it (by simp);have I':Inv X pins σ H { s with heap:=h',toks:=tk }:=I.turned (it:=it) (fun b o n q=>k b o (by simpa using n) q) f0 f1 f3 f4 f5;refine own i v _ _ _ _ _ pv ⟨x,H,I',rx,⟨rfl,vx⟩,hs',fun b hb=>?_⟩;have e:b=it:=by simpa using hb
  subst e;exact f0
 done:=fun X hP hw hK hc i pins s σ H E I hf hs stop=>by
  subst hP hw hK;have e:i=n:=stop;subst e;obtain ⟨f0,f1,_,f3,f4,f5⟩:=hf it (by simp);exact (W X.A (I.ok.hd hc)).done s _ E hs fun h' tk k=>⟨rfl,I.turned (it:=it) (fun b o n q=>k b o (by simpa using n) q) f0 f1 f3 f4 f5⟩
 self:=self
def Znl (te:TE):TI:=fun σ H R=>te σ H fun x H1=>∃z,x=.str z∧R (Itw z.cps.size fun i y=>∃c,z.cps[i]?=some c∧y=.str ⟨#[c]⟩) H1
theorem Zgl {z:Str} {t:Tok} {Q:Unit->Shared->Prop} (q:Q () s):wpAny M A (letOwnedTupleGo tg (.ref it) (.str z t)) Q E s:=by
 unfold letOwnedTupleGo;cases tg<;>exact Qf q
theorem Znf {e:Expr} (he:PE X e te):PI X tg e (Znl te):=by
 intro pins s σ H R I h;refine Zq (he pins s σ H _ I h) fun v s1 ⟨x,H1,I1,r1,z,e1,q⟩=>?_;subst e1;obtain ⟨t,rfl⟩:=r1;have fr:H1 s1.heap.objs.size=none:=I1.hok.fresh (Qe _);by_cases low:z.cps.all (·<128)=true
 ·refine wpAny_pyIter_ascii low ⟨s1.heap.objs.size,[s1.heap.objs.size],fun i h=>h.IsStrIter s1.heap.objs.size "str_ascii_iterator" z t i,_,H1,rfl,I1.kept (t':=s1.toks) fun b u q=>Qk _ q,
   ZfY (fun A hA=>Walks.strAscii hA _ z t) (fun i h ⟨o,ho,_,hd⟩=>⟨o,ho,fun v q=>by rw [hd] at q;cases q⟩) (fun i v ⟨c,u,hc,hv⟩=>⟨.str ⟨#[c]⟩,⟨u,hv⟩,c,hc,rfl⟩) (fun i v s M A E Q ⟨c,u,_,hv⟩ hq=>by rw [hv];exact Zgl hq) fun A i s Q E hs hq=>wpAny_pyIter_striter_ascii hs hq,
   ⟨_,Qw _ rfl,rfl,rfl⟩,fun b hb=>?_,q⟩
  have e:b=s1.heap.objs.size:=by simpa using hb
  subst e;exact I1.fpOk (Qe _) fr
 ·refine wpAny_pyIter_wide (Rq.mpr low) ⟨s1.heap.objs.size,[s1.heap.objs.size],fun i h=>h.IsStrIter s1.heap.objs.size "str_iterator" z t i,_,H1,rfl,I1.kept (t':=s1.toks) fun b u q=>Qk _ q,
   ZfY (fun A hA=>Walks.strWide hA _ z t) (fun i h ⟨o,ho,_,hd⟩=>⟨o,ho,fun v q=>by rw [hd] at q;cases q⟩) (fun i v ⟨c,u,hc,hv⟩=>⟨.str ⟨#[c]⟩,⟨u,hv⟩,c,hc,rfl⟩) (fun i v s M A E Q ⟨c,u,_,hv⟩ hq=>by rw [hv];exact Zgl hq) fun A i s Q E hs hq=>wpAny_pyIter_striter_wide hs hq,
   ⟨_,Qw _ rfl,rfl,rfl⟩,fun b hb=>?_,q⟩
  have e:b=s1.heap.objs.size:=by simpa using hb
  subst e;exact I1.fpOk (Qe _) fr
section
variable {w:World}
theorem Zd6 (hh:A.handled=none) (it t:Addr) (hne:t≠it) (us:Array Value) :
  Draws prog w A it [it,t] us.size (fun i v=>us[i]?=some v) (fun i h=>h.IsTupleIter it t i∧h.IsTuple t us) where
 live:=fun _ _ ⟨⟨o,e,_⟩,_⟩=>⟨o,e⟩
 frame:=fun _ _ _ ⟨⟨o,e,r⟩,⟨o',e',r'⟩⟩ k=>⟨⟨o,k it (by simp) o e,r⟩,⟨o',k t (by simp) o' e',r'⟩⟩
 item:=by
  intro i s Q E hi ⟨st,ht⟩ hQ;have e:us[i]?=some us[i]:=by simp [hi]
  obtain ⟨o,ho,c,d⟩:=id st;obtain ⟨ot,hot,_,n,dt⟩:=id ht;unfold Builtin.SmallTypes.nextOf;refine Qd (RS (name:=Str.ofString "__next__") st.typeIs GU (RC GU st.typeIs F.entry_tuple_iterator_next ?_ (F.args_tuple_iterator_next_1 _)));unfold Builtin.«tuple_iterator.__next__»;refine Qd (m:=field (.ref it) 0) (Q1 ho d (x:=.ref t) rfl ?_);rw [Qa (show ¬((Value.ref t==Value.none)=true) from QI)];refine Qd (m:=field (.ref it) 1) (Q1 ho d (x:=.int i 0) rfl (Qd (m:=seqItems? (.ref t)) (RW hot dt ?_)));simp only [R4,e];have sb:=Gv s.heap it (Obj.mapFields (·.setIfInBounds 1 (rawInt (i+1))));exact Qd (wpAny_setField ho d (by simp) (Qf ⟨_,rfl,Qf (hQ _ _ s.toks e ⟨⟨_,No _ ho (Obj.isFreed_of_fields (Obj.data_mapFields d _)),(Obj.cls_mapFields ..).trans c,by rw [Obj.data_mapFields d];simp [rawInt]⟩,ht.extBut sb.extBut hne⟩ sb)⟩))
 done:=by
  intro s Q E ⟨st,ht⟩ hE;have e:us[us.size]?=none:=by simp
  obtain ⟨o,ho,c,d⟩:=id st;obtain ⟨ot,hot,_,n,dt⟩:=id ht;unfold Builtin.SmallTypes.nextOf;refine Qd (RS (name:=Str.ofString "__next__") st.typeIs GU (RC GU st.typeIs F.entry_tuple_iterator_next ?_ (F.args_tuple_iterator_next_1 _)));unfold Builtin.«tuple_iterator.__next__»;refine Qd (m:=field (.ref it) 0) (Q1 ho d (x:=.ref t) rfl ?_);rw [Qa (show ¬((Value.ref t==Value.none)=true) from QI)];refine Qd (m:=field (.ref it) 1) (Q1 ho d (x:=.int us.size 0) rfl (Qd (m:=seqItems? (.ref t)) (RW hot dt ?_)));simp only [R4,e];refine Qd (R9 (Qd (wpAny_setField ho d (by simp) ?_)));refine Qd (m:=newExc (.type "StopIteration") []) ?_;simp only [newExc,newTuple];refine Qd (RU (Qd (m:=firstArgMember _ _) (wpAny_of_eq (a:=Value.none) (by first|rfl|(simp only [firstArgMember];rfl)) (RU ?_ (by size_fits)))) (by size_fits));simp only [raiseNew];refine Qd (wpAny_handled ?_)
  first|rw [show A.in1.handled=none from hh]|rw [hh]
  exact Qd (Qf (wpAny_throw (hE _ _ (((Gv ..).extBut.push _).push _) ⟨_,Qw _ rfl,rfl⟩)))
end
structure ZAp (z TI TO i1 i2:Addr) (f1 f2:List Addr):Prop where
 TIz:TI≠z
 TOz:TO≠z
 i1z:i1≠z
 i2z:i2≠z
 TITO:TI≠TO
 TIi1:TI≠i1
 TIi2:TI≠i2
 TOi1:TO≠i1
 TOi2:TO≠i2
 i12:i1≠i2
 z1:z∉f1
 z2:z∉f2
 o1:TO∉f1
 o2:TO∉f2
 b1:i2∉f1
 b2:i1∉f2
section
variable {w:World} {z TI TO i1 i2:Addr} {f1 f2:List Addr} {n1 n2 k1 k2:Nat} {P1 P2:Nat->Value->Prop} {S1 S2:Nat->Heap->Prop} {a b:Value}
theorem Draws.but {c:Addr} {P:Nat->Value->Prop} {St:Nat->Heap->Prop} (D:Draws prog w A it fp n P St) (st:St i h) (e:Heap.ExtBut c h h') (hc:c∉fp):St i h' :=
 D.frame _ _ _ st fun b hb o q=>e b o (fun x=>hc (x▸hb)) q
theorem Zod {Q:Value->Shared->Prop} (Z:ZAp z TI TO i1 i2 f1 f2) (D1:Draws prog w A i1 f1 n1 P1 S1) (D2:Draws prog w A i2 f2 n2 P2 S2) (hz:IsZip s.heap z TI TO .none) (hTI:IsPair s.heap TI (.ref i1) (.ref i2)) (hTO:IsPair s.heap TO a b)
 (g1:S1 k1 s.heap) (g2:S2 k2 s.heap) (l1:k1<n1) (l2:k2<n2)
 (hQ:∀x y h' tk,P1 k1 x->P2 k2 y->IsZip h' z TI TO (rawInt s.heap.objs.size)->IsPair h' TO x y->S1 (k1+1) h'->S2 (k2+1) h'->IsPair h' s.heap.objs.size x y →
 (∀c o,c≠z->c≠TO->c≠i1->c≠i2->s.heap.get? c=some o->h'.get? c=some o)->Q (.ref s.heap.objs.size) { s with heap:=h',toks:=tk }) :
  wpAny (model prog w) A (Builtin.«zip.__next__» ⟨[.ref z],[]⟩) (fun fin s'=>∃v,fin=.done (.ret v)∧Q v s') E s:=by
 unfold Builtin.«zip.__next__»;refine Qd (m:=field (.ref z) 2) (Q1 hz rfl (x:=.bool false) rfl ?_);refine Qd (m:=field (.ref z) 3) (Q1 hz rfl (x:=.ref TI) rfl (Qd (RW hTI rfl ?_)));refine Qd (m:=Builtin.SmallTypes.ownedTupleIsFree (.ref z)) ?_;unfold Builtin.SmallTypes.ownedTupleIsFree;refine Qd (Q1 hz rfl (x:=.none) rfl (Qf ?_));simp only [RA];refine Qd (R9 (Qd (Q1 hz rfl (x:=.ref TO) rfl (Qd (Gw hz (by simp) fun hA zA sA=>Qd ?_)))));replace zA:IsZip hA z TI TO .ellipsis:=zA;simp only [List.zipIdx_cons,List.zipIdx_nil,List.forIn_cons,List.forIn_nil];refine Qd (Qd (wpAny_onRaise (Qd (m:=Builtin.SmallTypes.nextOf (.ref i1)) (D1.item k1 _ _ _ l1 (Draws.but D1 g1 sA.extBut Z.z1) fun x hB tB px gB sB=>Qf ?_))));have oB:IsPair hB TO a b:=sB.extBut _ _ Z.TOi1 (sA.extBut _ _ Z.TOz hTO);refine Qd (RW oB rfl (Qd (wpAny_updateSeq_pair oB fun hC oC sC=>Qd (wpAny_letGo (Qf ?_)))));replace oC:IsPair hC TO x b:=oC;refine Qd (Qd (wpAny_onRaise (Qd (m:=Builtin.SmallTypes.nextOf (.ref i2)) (D2.item k2 _ _ _ l2 (Draws.but D2 (Draws.but D2 (Draws.but D2 g2 sA.extBut Z.z2) sB.extBut Z.b2) sC.extBut Z.o2) fun y hD tD py gD sD=>Qf ?_))));have oD:IsPair hD TO x b:=sD.extBut _ _ Z.TOi2 oC;refine Qd (RW oD rfl (Qd (wpAny_updateSeq_pair oD fun hE oE sE=>Qd (wpAny_letGo (Qf (Qf ?_))))));replace oE:IsPair hE TO x y:=oE;have zE:IsZip hE z TI TO .ellipsis:=sE.extBut _ _ Z.TOz.symm (sD.extBut _ _ Z.i2z.symm (sC.extBut _ _ Z.TOz.symm (sB.extBut _ _ Z.i1z.symm zA)));have sz:hE.objs.size=s.heap.objs.size:=by rw [sE.1,sD.1,sC.1,sB.1,sA.1]
 have kE:∀c o,c≠z->c≠TO->c≠i1->c≠i2->s.heap.get? c=some o->hE.get? c=some o:=fun c o c1 c2 c3 c4 e=>sE.extBut _ _ c2 (sD.extBut _ _ c4 (sC.extBut _ _ c2 (sB.extBut _ _ c3 (sA.extBut _ _ c1 e))));have d1:S1 (k1+1) hE:=Draws.but D1 (Draws.but D1 (Draws.but D1 gB sC.extBut Z.o1) sD.extBut Z.b1) sE.extBut Z.o1;have d2:S2 (k2+1) hE:=Draws.but D2 gD sE.extBut Z.o2;refine Qd (RW oE rfl (Qd (wpAny_newTuple ?_)));refine Qd (m:=Builtin.SmallTypes.ownedTupleHandOut (.ref z) (.ref hE.objs.size)) ?_;unfold Builtin.SmallTypes.ownedTupleHandOut;have zF:IsZip (hE.push { cls:=.type "tuple",data:=.seq #[x,y] }) z TI TO .ellipsis:=Qk _ zE;refine Qd (Gw zF (by simp) fun hG zG sG=>?_);replace zG:IsZip hG z TI TO (rawInt hE.objs.size):=zG;refine Gw zG (by simp) fun hI zI sI=>Qf ⟨_,rfl,?_⟩;replace zI:IsZip hI z TI TO (rawInt hE.objs.size):=zI;have up:∀c o,c≠z->hE.get? c=some o->hI.get? c=some o:=fun c o c1 e=>sI.extBut _ _ c1 (sG.extBut _ _ c1 (Qk _ e));have zl:hE.objs.size≠z:=Rs (Qi zE);have tI:IsPair hI hE.objs.size x y:=sI.extBut _ _ zl (sG.extBut _ _ zl (Qw _ rfl));show Q (.ref hE.objs.size) _;rw [sz] at zI tI ⊢;exact hQ x y hI tD px py zI (up _ _ Z.TOz oE) (D1.frame _ _ _ d1 fun c hc o e=>up c o (fun q=>Z.z1 (q▸hc)) e) (D2.frame _ _ _ d2 fun c hc o e=>up c o (fun q=>Z.z2 (q▸hc)) e) tI fun c o c1 c2 c3 c4 e=>up c o c1 (kE c o c1 c2 c3 c4 e)
theorem Zox {Q:Fin->Shared->Prop} (Z:ZAp z TI TO i1 i2 f1 f2) (D1:Draws prog w A i1 f1 n1 P1 S1) (hz:IsZip s.heap z TI TO .none) (hTI:IsPair s.heap TI (.ref i1) (.ref i2))
 (g1:S1 n1 s.heap)
 (hE:∀h' e,(∀c o,c≠z->c≠TO->c≠i1->c≠i2->s.heap.get? c=some o->h'.get? c=some o)->(∃o,h'.get? e=some o∧o.cls=.type "StopIteration")->E (.ref e) { s with heap:=h' }) :
  wpAny (model prog w) A (Builtin.«zip.__next__» ⟨[.ref z],[]⟩) Q E s:=by
 unfold Builtin.«zip.__next__»;refine Qd (m:=field (.ref z) 2) (Q1 hz rfl (x:=.bool false) rfl ?_);refine Qd (m:=field (.ref z) 3) (Q1 hz rfl (x:=.ref TI) rfl (Qd (RW hTI rfl ?_)));refine Qd (m:=Builtin.SmallTypes.ownedTupleIsFree (.ref z)) ?_;unfold Builtin.SmallTypes.ownedTupleIsFree;refine Qd (Q1 hz rfl (x:=.none) rfl (Qf ?_));simp only [RA];refine Qd (R9 (Qd (Q1 hz rfl (x:=.ref TO) rfl (Qd (Gw hz (by simp) fun hA zA sA=>Qd ?_)))));replace zA:IsZip hA z TI TO .ellipsis:=zA;simp only [List.zipIdx_cons,List.zipIdx_nil,List.forIn_cons,List.forIn_nil];refine Qd (Qd (wpAny_onRaise (Qd (m:=Builtin.SmallTypes.nextOf (.ref i1)) (D1.done _ _ _ (Draws.but D1 g1 sA.extBut Z.z1) fun hB e sB he=>?_))));obtain ⟨o,ho,c⟩:=he;have zB:IsZip hB z TI TO .ellipsis:=sB _ _ Z.i1z.symm zA
 have ez:e≠z:=fun q=>by
  subst q;rw [zB] at ho;cases ho;simp at c
 exact Gw zB (by simp) fun hC _ sC=>hE hC e (fun c o c1 _ c3 _ q=>sC.extBut _ _ c1 (sB _ _ c3 (sA.extBut _ _ c1 q))) ⟨o,sC.extBut _ _ ez ho,c⟩
theorem Zpg (Z:ZAp z TI TO i1 i2 f1 f2) (D1:Draws prog w A.in1 i1 f1 n1 P1 S1) (D2:Draws prog w A.in1 i2 f2 n2 P2 S2) (hz:IsZip s.heap z TI TO .none) (hTI:IsPair s.heap TI (.ref i1) (.ref i2)) (hTO:IsPair s.heap TO a b)
 (g1:S1 k1 s.heap) (g2:S2 k2 s.heap) (l1:k1<n1) (l2:k2<n2)
 (hQ:∀x y h' tk,P1 k1 x->P2 k2 y->IsZip h' z TI TO (rawInt s.heap.objs.size)->IsPair h' TO x y->S1 (k1+1) h'->S2 (k2+1) h'->IsPair h' s.heap.objs.size x y →
 (∀c o,c≠z->c≠TO->c≠i1->c≠i2->s.heap.get? c=some o->h'.get? c=some o)->Q (some (.ref s.heap.objs.size)) { s with heap:=h',toks:=tk }) :
  wpAny (model prog w) A (pyNext (.ref z)) Q E s:=by
 have T:s.TypeIs (.ref z) "zip":=⟨_,hz,rfl⟩;unfold pyNext
 exact Qd (wpAny_attempt (RS (name:=Str.ofString "__next__") T GV (RC GV T F.entry_zip_next
  (Zod Z D1 D2 hz hTI hTO g1 g2 l1 l2 fun x y h' tk a1 a2 a3 a4 a5 a6 a7 a8=>Qf (hQ x y h' tk a1 a2 a3 a4 a5 a6 a7 a8)) (F.args_zip_next_1 _))))
theorem Zn6 (Z:ZAp z TI TO i1 i2 f1 f2) (D1:Draws prog w A.in1 i1 f1 n1 P1 S1) (hz:IsZip s.heap z TI TO .none) (hTI:IsPair s.heap TI (.ref i1) (.ref i2)) (g1:S1 n1 s.heap)
 (hQ:∀h',(∀c o,c≠z->c≠TO->c≠i1->c≠i2->s.heap.get? c=some o->h'.get? c=some o)->Q none { s with heap:=h' }):wpAny (model prog w) A (pyNext (.ref z)) Q E s:=by
 have T:s.TypeIs (.ref z) "zip":=⟨_,hz,rfl⟩;unfold pyNext;refine Qd (wpAny_attempt (RS (name:=Str.ofString "__next__") T GV (RC GV T F.entry_zip_next (Zox Z D1 hz hTI g1 fun h' e k he=>?_) (F.args_zip_next_1 _))));obtain ⟨o,ho,c⟩:=he;exact Qd (wpAny_isInstance (T:="StopIteration") (b:=true) ⟨o,ho,c⟩ isSubtype_stop (Qf (hQ _ k)))
end
section
variable {σ:St}
theorem Inv.turnedAll {ch:List Addr} (I:Inv X pins σ H s) (hf:∀b∈ch,XZ X pins H b) (k:∀b o,b∉ch->s.heap.get? b=some o->h'.get? b=some o):Inv X pins σ H { s with heap:=h',toks:=t' }:=by
 have nit:∀b u,H b=some u->b∉ch:=fun b u e z=>by rw [(hf b z).1] at e;cases e
 refine I.step (g':=s.gens) (d':=s.drawn) (ch:=ch) (fun b hb=>⟨(hf b hb).2.2.2.1,(hf b hb).2.1,(hf b hb).2.2.2.2⟩) (fun b o _ _ hc e _=>k b o hc e) (fun b o _ _ hc e _=>⟨o.slots,k b o hc e⟩) (fun _ _ _ _ n=>n)
  (fun b o hc e=>⟨o,k b o hc e⟩) (fun _ _ e=>e) (fun _ _ _ e=>e) (fun b ps e=>⟨#[],by rw [e];simp⟩) (fun m hm=>?_) (fun b u e=>?_) I.bare
 ·obtain ⟨o,es,ep,ho,r⟩:=hm;exact ⟨o,es,ep,k _ o (fun z=>(hf _ z).2.1 rfl) ho,r⟩
 ·refine (I.hok b u e).stay (fun c v hc q=>k c v ?_ q) (fun _ q=>q) fun _ _ q=>q;rcases hc with z|z
  ·rw [z];exact nit b u e
  ·exact nit c _ z
theorem Inv.turnedLaid {ch:List Addr} {T:Addr} (I:Inv X pins σ H s) (hf:∀b∈ch,XZ X pins H b) (k:∀b o,b∉ch->s.heap.get? b=some o->h'.get? b=some o) (hp:s.heap.objs.size≤T) (new:ObjOk X.prog X.w (Zc H T o) h' T o) :
  Inv X pins σ (Zc H T o) { s with heap:=h',toks:=t' }:=by
 have nit:∀b u,H b=some u->b∉ch:=fun b u e z=>by rw [(hf b z).1] at e;cases e
 have hn:=I.hok.fresh hp;have up:∀{b u},H b=some u->Zc H T o b=some u:=fun {b u} e=>by rw [Zd (ZA e hn)];exact e
 refine I.step (g':=s.gens) (d':=s.drawn) (ch:=ch) (fun b hb=>⟨(hf b hb).2.2.2.1,(hf b hb).2.1,(hf b hb).2.2.2.2⟩) (fun b o _ _ hc e _=>k b o hc e) (fun b o _ _ hc e _=>⟨o.slots,k b o hc e⟩) (fun b u _ e n=>?_)
  (fun b o hc e=>⟨o,k b o hc e⟩) (fun _ _ e=>up e) (fun _ _ _ e=>up e) (fun b ps e=>⟨#[],by rw [up e];simp⟩) (fun m hm=>?_) (fun b u e=>?_) I.bare
 ·rw [Zd (fun z=>absurd (Qi e) (by rw [z];exact Nat.not_lt.mpr hp))];exact n
 ·obtain ⟨o,es,ep,ho,r⟩:=hm;exact ⟨o,es,ep,k _ o (fun z=>(hf _ z).2.1 rfl) ho,r⟩
 ·by_cases hb:b=T
  ·subst hb;rw [Zg] at e;cases e;exact new
  ·rw [Zd hb] at e;refine (I.hok b u e).stay (fun c v hc q=>k c v ?_ q) (fun _ q=>up q) fun _ _ q=>up q;rcases hc with z|z
   ·rw [z];exact nit b u e
   ·exact nit c _ z
end
noncomputable def Itz (K:W.Frag) (a b:Addr):It :=
 ⟨fun i H => ∃xs ys x y, SqT K H a xs ∧ SqT K H b ys ∧ xs[i]?=some x ∧ ys[i]?=some y,
  fun i H v H'=>∃T x y,H T=none∧v=.ref T∧(∀xs,SqT K H a xs->xs[i]?=some x)∧(∀ys,SqT K H b ys->ys[i]?=some y)∧H'=Zc H T (.tup [x,y]),
  fun i H=>∃xs,SqT K H a xs∧xs.length=i⟩
def ZSt (z TI TO i1 i2 a b:Addr) (i:Nat) (h:Heap):Prop:=IsZip h z TI TO .none∧IsPair h TI (.ref i1) (.ref i2)∧(∃u v,IsPair h TO u v)∧h.IsTupleIter i1 a i∧h.IsTupleIter i2 b i
theorem ZoO {w:World} {K:W.Frag} {z TI TO i1 i2:Addr} (Z:ZAp z TI TO i1 i2 [i1,a] [i2,b]) (ha:a≠i1) (hb:b≠i2) :
  Turn P w K (.Tuple es n pos) (Itz K a b) [z,TI,TO,i1,i2] z (ZSt z TI TO i1 i2 a b) where
 mem:=by simp
 obj:=fun i h ⟨h1,h2,⟨u,v,h3⟩,⟨o4,h4,_,d4⟩,⟨o5,h5,_,d5⟩⟩ c hc=>by
  simp only [Qh,QJ,QK] at hc;rcases hc with rfl|rfl|rfl|rfl|rfl
  ·exact ⟨_,h1,fun v q=>by cases q⟩
  ·exact ⟨_,h2,fun v q=>by cases q⟩
  ·exact ⟨_,h3,fun v q=>by cases q⟩
  ·exact ⟨_,h4,fun v q=>by rw [d4] at q;cases q⟩
  ·exact ⟨_,h5,fun v q=>by rw [d5] at q;cases q⟩
 keep:=fun i h h' ⟨h1,h2,⟨u,v,h3⟩,⟨o4,h4,r4⟩,⟨o5,h5,r5⟩⟩ k =>
  ⟨k _ (by simp) _ h1,k _ (by simp) _ h2,⟨u,v,k _ (by simp) _ h3⟩,⟨o4,k _ (by simp) _ h4,r4⟩,⟨o5,k _ (by simp) _ h5,r5⟩⟩
 item:=by
  intro X hP hw hK hc i pins s σ H E I hf ⟨h1,h2,⟨u,v,h3⟩,h4,h5⟩ ⟨xs,ys,x,y,qa,qb,ex,ey⟩;subst hP hw hK;obtain ⟨as,ra,ta,la⟩:=I.tuple qa;obtain ⟨bs,rb,tb,lb⟩:=I.tuple qb;have hh:X.A.in1.handled=none:=I.ok.hd hc;have la':=ra.length;have lb':=rb.length
  have lx:i<as.toArray.size:=by
   have:=(QE.mp ex).1;simp only [Qz];omega
  have ly:i<bs.toArray.size:=by
   have:=(QE.mp ey).1;simp only [Qz];omega
  refine Zpg Z (Zd6 hh i1 a ha as.toArray) (Zd6 hh i2 b hb bs.toArray) h1 h2 h3 ⟨h4,ta⟩ ⟨h5,tb⟩ lx ly fun u1 u2 h' tk p1 p2 z1 o1 g1 g2 t1 k=>?_;refine ⟨_,rfl,wpAny_letOwnedTupleGo_zip z1 fun h'' z2 sb=>?_⟩;have lz:z<s.heap.objs.size:=Qi h1;have nz:s.heap.objs.size≠z:=Rs lz;obtain ⟨v1,e1,r1⟩:=ra.get ex;obtain ⟨v2,e2,r2⟩:=rb.get ey
  have q1:v1=u1:=by
   have p:as[i]?=some u1:=by simpa using p1
   rw [e1] at p;exact Qj p
  have q2:v2=u2:=by
   have p:bs[i]?=some u2:=by simpa using p2
   rw [e2] at p;exact Qj p
  subst q1 q2
  have kk:∀c o,c∉[z,TI,TO,i1,i2]->s.heap.get? c=some o->h''.get? c=some o:=fun c o hc e=>by
   simp only [Qh,QJ,QK,not_or] at hc;exact sb.extBut _ _ hc.1 (k c o hc.1 hc.2.2.1 hc.2.2.2.1 hc.2.2.2.2 e)
  have tt:IsPair h'' s.heap.objs.size v1 v2:=sb.extBut _ _ nz t1;have I':=I.turnedLaid (t':=tk) (o:=.tup [x,y]) hf kk (Qe _) (show ObjOk X.prog X.w _ h'' _ (.tup [x,y]) from ⟨ZF (by simp),[v1,v2],.cons r1 (.cons r2 .nil),⟨_,tt,rfl,_,rfl⟩⟩);refine ⟨.ref s.heap.objs.size,_,I',rfl,⟨s.heap.objs.size,x,y,I.hok.fresh (Qe _),rfl,fun zs hz=>by rw [I.tuple_inj hz qa];exact ex,fun zs hz=>by rw [I.tuple_inj hz qb];exact ey,rfl⟩,?_,fun c hc=>?_⟩
  ·exact ⟨z2,sb.extBut _ _ Z.TIz (k _ _ Z.TIz Z.TITO Z.TIi1 Z.TIi2 h2),⟨_,_,sb.extBut _ _ Z.TOz o1⟩,g1.1.extBut sb.extBut Z.i1z,g2.1.extBut sb.extBut Z.i2z⟩
  ·have hlt:c<s.heap.objs.size:=by
    simp only [Qh,QJ,QK] at hc;obtain ⟨o4,e4,_⟩:=h4;obtain ⟨o5,e5,_⟩:=h5;rcases hc with rfl|rfl|rfl|rfl|rfl
    ·exact lz
    ·exact Qi h2
    ·exact Qi h3
    ·exact Qi e4
    ·exact Qi e5
   rw [Zd (QA hlt)];exact (hf c hc).1
 done:=by
  intro X hP hw hK hc i pins s σ H E I hf ⟨h1,h2,⟨u,v,h3⟩,h4,h5⟩ ⟨xs,qa,hl⟩;subst hP hw hK;obtain ⟨as,ra,ta,la⟩:=I.tuple qa;have hh:X.A.in1.handled=none:=I.ok.hd hc
  have e:i=as.toArray.size:=by
   have:=ra.length;simp only [Qz];omega
  subst e;refine Zn6 (f2:=[i2,b]) Z (Zd6 hh i1 a ha as.toArray) h1 h2 ⟨h4,ta⟩ fun h' k=>⟨rfl,I.turnedAll (t':=s.toks) hf fun c o hc e=>?_⟩;simp only [Qh,QJ,QK,not_or] at hc;exact k c o hc.1 hc.2.2.1 hc.2.2.2.1 hc.2.2.2.2 e
 self:=fun _ _ _ _ _ st h=>wpAny_pyIter_zip st.1 h
theorem Zl7 {w:World} {us vs:Array Value} {Q:Value->Shared->Prop} (ha:s.heap.IsTuple a us) (hb:s.heap.IsTuple b vs)
 (h:∀h',ZSt (s.heap.objs.size+4) (s.heap.objs.size+2) (s.heap.objs.size+3) s.heap.objs.size (s.heap.objs.size+1) a b 0 h'->(∀c o,s.heap.get? c=some o->h'.get? c=some o)->Q (.ref (s.heap.objs.size+4)) { s with heap:=h' }) :
  wpAny (model prog w) A (call (.type "zip") [.ref a,.ref b]) Q E s:=by
 let H1:Heap:=s.heap.push { cls:=.type "tuple_iterator",data:=.fields #[.ref a,.int 0 0] }
 let H2:Heap:=H1.push { cls:=.type "tuple_iterator",data:=.fields #[.ref b,.int 0 0] }
 let H3:Heap:=H2.push { cls:=.type "tuple",data:=.seq #[.ref s.heap.objs.size,.ref H1.objs.size] }
 let H4:Heap:=H3.push { cls:=.type "tuple",data:=.seq #[.none,.none] }
 let H5:Heap:=H4.push { cls:=.type "zip",data:=.fields #[.none,.bool false,.bool false,.ref H2.objs.size,.ref H3.objs.size] }
 have m:Meets (Builtin.«zip.__new__» ⟨[.type "zip",.ref a,.ref b],[]⟩) (fun _ R s1=>s1=s∧R (.ok (.ret (.ref H4.objs.size))) { s with heap:=H5 }):=.of_wp fun prog w A R s1 hR=>by
  obtain ⟨rfl,hR⟩:=hR;obtain ⟨hp,g,d,tk,os⟩:=s1;have hsub:=sub_zip;have hL1:Heap.IsTuple (Shared.heap ⟨hp,g,d,tk,os⟩) a us:=ha;have hL2:Heap.IsTuple (Shared.heap ⟨hp.push { cls:=.type "tuple_iterator",data:=.fields #[.ref a,.int 0 0] },g,d,tk,os⟩) b vs:=Heap.IsTuple.push hb _
  wp_walk using Gj hL1,Gj hL2
  exact ⟨_,rfl,hR⟩
 refine callType_new F.called_zip (by decide) (F.typeCall_zip_2 _ _) (F.newCall_zip_2 _ _) (fun obj=>F.args_object_init_3 obj _ _) F.entry_zip_new m ⟨rfl,?_⟩;have z1:H1.objs.size=s.heap.objs.size+1:=Ri ..;have z2:H2.objs.size=s.heap.objs.size+2:=by rw [Ri,z1]
 have z3:H3.objs.size=s.heap.objs.size+3:=by rw [Ri,z2]
 have z4:H4.objs.size=s.heap.objs.size+4:=by rw [Ri,z3]
 have up5:∀c o,H4.get? c=some o->H5.get? c=some o:=fun c o e=>Qk _ e;have up4:∀c o,H3.get? c=some o->H5.get? c=some o:=fun c o e=>up5 c o (Qk _ e);have up3:∀c o,H2.get? c=some o->H5.get? c=some o:=fun c o e=>up4 c o (Qk _ e);have up2:∀c o,H1.get? c=some o->H5.get? c=some o:=fun c o e=>up3 c o (Qk _ e);have g5:H5.get? H4.objs.size=some _:=Qw _ rfl;have g4:H5.get? H3.objs.size=some _:=up5 _ _ (Qw _ rfl);have g3:H5.get? H2.objs.size=some _:=up4 _ _ (Qw _ rfl);have g2:H5.get? H1.objs.size=some _:=up3 _ _ (Qw _ rfl);have g1:H5.get? s.heap.objs.size=some _:=up2 _ _ (Qw _ rfl);show _∧_;rw [z4,z2,z3] at g5;rw [z3] at g4;rw [z2,z1] at g3;rw [z1] at g2;rw [z4];exact ⟨⟨_,g5,rfl⟩,h H5 ⟨g5,g3,⟨_,_,g4⟩,⟨_,g1,rfl,rfl⟩,⟨_,g2,rfl,rfl⟩⟩ fun c o e=>up2 c o (Qk _ e)⟩
theorem Zo0:bootBuiltins "zip"=some (.type "zip"):=by trivial
theorem Zcj:bootBuiltins "all"=some (.builtin "all"):=by trivial
theorem UU {c x y:Nat} (h1:c≠x) (h2:c≠y):c∉[x,y]:=fun z=>by
 rcases Qh.mp z with z|z
 ·exact h1 z
 ·exact h2 (by simpa using z)
theorem ZkR {m a b:Nat} (la:a<m) (lb:b<m):ZAp (m+4) (m+2) (m+3) m (m+1) [m,a] [m+1,b] where
 TIz:=(by omega:(m+2:Nat)≠m+4)
 TOz:=(by omega:(m+3:Nat)≠m+4)
 i1z:=(by omega:(m:Nat)≠m+4)
 i2z:=(by omega:(m+1:Nat)≠m+4)
 TITO:=(by omega:(m+2:Nat)≠m+3)
 TIi1:=(by omega:(m+2:Nat)≠m)
 TIi2:=(by omega:(m+2:Nat)≠m+1)
 TOi1:=(by omega:(m+3:Nat)≠m)
 TOi2:=(by omega:(m+3:Nat)≠m+1)
 i12:=(by omega:(m:Nat)≠m+1)
 z1:=UU (by omega) (by omega)
 z2:=UU (by omega) (by omega)
 o1:=UU (by omega) (by omega)
 o2:=UU (by omega) (by omega)
 b1:=UU (by omega) (by omega)
 b2:=UU (by omega) (by omega)
def ZmJ (K:W.Frag) (ta:TA):TI:=fun σ H R=>ta σ H fun vs H1=>∃a b,vs=[.ref a,.ref b]∧(∃xs,SqT K H1 a xs)∧(∃ys,SqT K H1 b ys)∧R (Itz K a b) H1
theorem ZjR (K:W.Frag) {e1 e2:Expr} {ta:TA} {pos':Pos} (hg:Gl X "zip") (hm:X.mg "zip"=none) (ha:PA X [e1,e2] ta) (hK:X.K=K:=by rfl)
 (hs:starEach [e1,e2] X.env=(false,eval e1 X.env)::starEach [e2] X.env:=by rfl) (hpl:(backTo pos (starEach [e2] X.env)).any (·.1)=false:=by rfl):PI X (.Tuple es n pos') (.Call (.Name "zip" p) [e1,e2] [] pos) (ZmJ K ta):=by
 subst hK;intro pins s σ H R I h;refine Ro (Ub I hg hm Zo0 (GH (Zq (ha pos pins s σ H _ I h) fun us s1 ⟨vs,H1,I1,r1,q1⟩=>?_) hs hpl));obtain ⟨a,b,e,⟨xs,qa⟩,⟨ys,qb⟩,q⟩:=q1;subst e;obtain ⟨u,v,rfl,ra,rb⟩:=JL r1;cases (show u=Value.ref a from ra);cases (show v=Value.ref b from rb);obtain ⟨as,ka,ta',_⟩:=I1.tuple qa;obtain ⟨bs,kb,tb',_⟩:=I1.tuple qb;have la:a<s1.heap.objs.size:=by obtain ⟨o,e,_⟩:=ta';exact Qi e
 have lb:b<s1.heap.objs.size:=by obtain ⟨o,e,_⟩:=tb';exact Qi e
 refine Zl7 ta' tb' fun h' st k=>wpAny_pyIter_zip st.1 ?_;have Z:=ZkR la lb;refine ⟨s1.heap.objs.size+4,_,_,_,H1,rfl,I1.kept (t':=s1.toks) k,ZoO Z (QA la) (QA (Ga lb)),st,fun c hc=>?_,q⟩
 have hle:s1.heap.objs.size≤c:=by
  simp only [Qh,QJ,QK] at hc;rcases hc with rfl|rfl|rfl|rfl|rfl
  ·exact Gb _ 4
  ·exact Gb _ 2
  ·exact Gb _ 3
  ·exact Qe _
  ·exact Gb _ 1
 have e:=I1.fpOk hle (I1.hok.fresh hle);exact e
theorem ZnZ {w:World} {bs:List Bool} (r:Vals (bs.map V.bl) us):TruthOf P w A (fun i v=>us.toArray[i]?=some v) (fun i=>bs.getD i false):=by
 intro i v s Q E e q;have e':us[i]?=some v:=by simpa using e
 have hl:=r.length;rw [Qc] at hl
 have lt:i<bs.length:=by
  have:=(QE.mp e').1;omega
 obtain ⟨u,e2,r2⟩:=r.get (i:=i) (x:=V.bl bs[i]) (by simp [lt]);rw [e'] at e2;cases e2;cases (show v=Value.bool bs[i] from r2);have z:bs.getD i false=bs[i]:=by simp [List.getD,lt]
 exact RK (by rw [←z];exact q)
theorem ZiQ:∀bs:List Bool,((List.range bs.length).all fun i=>bs.getD i false)=bs.all id
 |[]=>rfl
 |b::bs=>by
  rw [QM,List.range_succ_eq_map,Go,Gu,Go,←ZiQ bs];rfl
theorem Zdd (hc:X.calm=true):Y4 X (.builtin "all") (fun xs H Q=>∃(a:Addr) (bs:List Bool),xs=[.ref a]∧H a=some (.lst (bs.map V.bl))∧Q (.bl (bs.all id)) H):=by
 intro pins s σ H xs us Q I r h;obtain ⟨a,bs,rfl,q,hq⟩:=h;obtain ⟨u,rfl,ru⟩:=Xv r;cases (show u=Value.ref a from ru);obtain ⟨its,rv,pl,hz⟩:=I.list (.inl (.inl q));have lt:a<s.heap.objs.size:=by obtain ⟨o,e,_⟩:=pl.isList;exact Qi e
 have hl:=rv.length;rw [Qc] at hl;refine call_all_walk (wpAny_pyIter_list pl.isList ⟨s.heap.objs.size,_,_,_,_,_,_,rfl,Walks.list (show X.A.in1.handled=none from I.ok.hd hc) _ a (QA lt) its.toArray,⟨⟨_,Qw _ rfl,rfl,rfl⟩,pl.isList.push _⟩,ZnZ rv,fun h' tk k=>?_⟩);rw [Qz,←hl,ZiQ];exact ⟨.bl _,H,I.kept (t':=tk) fun b o e=>k b o (fun z=>absurd (Qi e) (by rw [show b=s.heap.objs.size by simpa using z];exact QD _)) (Qk _ e),rfl,hq⟩
def Zfl (X:Cx) (CX:Yv) (Fam:Addr->Sp->Prop):Prop:=∀f sp,Fam f sp->∃k fd ps,FnOk X.prog X.w X.K X.mg X.base CX k f fd ps sp∧Room k X.A∧W.keepIn X.K (.ref f)=true∧Binds X.K fd ps []
def ZkV (Fam:Addr->Sp->Prop) (i:Nat) (E:XK) (t:TA):TE:=fun σ H Q=>∃f sp,σ[i]?=some (some (.ref f))∧Fam f sp∧t σ H fun vs H1=>sp vs H1 Q E
theorem Zmb {Fam:Addr->Sp->Prop} {E:XK} {x:Str} {e:Expr} {t:TA} (F:Zfl X CX Fam) (hN:X.N[i]?=some x) (hv:JF X.env.scope x) (hx:ZgD CX X E) (ha:PA X (e::es) t)
 (hd:(x==("__debug__": Str))=false:=by decide) (hcd:(x==("__classdict__": Str))=false:=by decide)
 (he:starEach (e::es) X.env=(false,eval e X.env)::starEach es X.env:=by rfl) (hpl:(backTo pos (starEach es X.env)).any (·.1)=false:=by rfl):PE X (.Call (.Name x p) (e::es) [] pos) (ZkV Fam i E t):=by
 intro pins s σ H Q I h;obtain ⟨f,sp,e1,hF,q⟩:=h;obtain ⟨k,fd,ps,Fn,hr,hk,hb⟩:=F f sp hF;refine Ro (Zq (Zdk hN hv hd hcd pins s σ H (fun v H'=>v=.ref f∧H'=H) I ⟨_,e1,rfl,rfl⟩) fun u s1 ⟨v,H1,I1,r1,e2,e3⟩=>?_);subst e2 e3;cases (show u=Value.ref f from r1);refine Gr (h₀:=X.base) I1.ok.mod.kin hk (Zq (ha pos pins s1 σ H1 _ I1 q) fun us s2 ⟨vs,H2,I2,r2,q2⟩=>⟨I2.kIn,?_⟩) he hpl;exact ZpF Fn hr hb .nil hx I2 r2 (by rw [Qt];exact q2)
section
variable {l:Expr} {tl:TE} (K:W.Frag) (hK:X.K=K)
include hK
theorem ZjQ:UV X (Zif K):=by subst hK;exact Yo
theorem ZjV:UV X (Zia K):=by subst hK;exact Zv
end
theorem J7 (K:W.Frag) {k:Nat} {t:VM} (hc:X.calm=true) (h:PGs X es t) (hK:X.K=K:=by rfl)
 (hn:(assignEach es X.env).length=n:=by rfl) (hst:(assignEach es X.env).findIdx? (·.1)=none:=by rfl):PG X (.Tuple es k pos) (Zay K n t):=by
 subst hK;exact Vv hc h hn hst
theorem Zbe {σ0:St} {g:TG} {Q:VK} {H1:Hp} (out:List V) (hn:out.length<sizeLine) (σP:St->Prop) (h0:σP σ0)
 (go:∀i H,i<out.length->Same H1 H->J.go i H) (stop:∀H,Same H1 H->J.stop out.length H)
 (step:∀i σ H x H' y,out[i]?=some y->σP σ->Same H1 H->J.yld i H x H'->∀C:V->St->Hp->Prop,(∀σ2 H6,σP σ2->Same H H6->C y σ2 H6)->g x σ H' fun σ2 H4=>te σ2 H4 fun y' H6=>C y' σ2 H6)
 (fin:∀D H',H1 D=none->Same H1 H'->H' D=some (.lst out)->Q (.ref D) H'):ZdK J σ0 g ZfM te Q H1:=by
 intro D hD
 have keep:∀{H:Hp} {o:HO},Same H1 H->Same H1 (Zc H D o):=fun {H o} e b u q=>by
  rw [Zd (ZA q hD)];exact e b u q
 refine ⟨fun i m σ ys H=>i≤out.length∧m=out.length-i∧σP σ∧ys=out.take i∧H D=some (.lst ys)∧Same H1 H,⟨_,QV _,rfl,h0,rfl,Zg,keep (Same.refl H1)⟩,?_⟩;rintro i m σ ys H ⟨hi,rfl,p,rfl,hd,sm⟩;refine ⟨hd,?_⟩;by_cases lt:i<out.length
 ·refine .inr ⟨go i H lt sm,fun σ2 ys2 H3=>σP σ2∧ys2=out.take (i+1)∧H3 D=some (.lst ys2)∧Same H1 H3,fun σ2 ys2 H3 ⟨a,b,c,d⟩=>⟨_,by omega,lt,rfl,a,b,c,d⟩,fun x H3 y=>?_⟩;have e:out[i]?=some out[i]:=by simp [lt]
  refine step i σ H x H3 out[i] e p sm y (fun y' σ2 H6=>H6 D=some (.lst (out.take i))∧(out.take i).length<sizeLine∧σP σ2∧out.take i++[y']=out.take (i+1)∧Zc H6 D (.lst (out.take i++[y'])) D=some (.lst (out.take i++[y']))∧Same H1 (Zc H6 D (.lst (out.take i++[y'])))) fun σ2 H6 p2 s6=>?_;exact ⟨s6 _ _ hd,by rw [Q6];omega,p2,by rw [Gc,e];rfl,Zg,keep (sm.trans s6)⟩
 ·have e:i=out.length:=by omega
  subst e;rw [Q8] at hd;exact .inl ⟨stop H sm,fin D H hD sm hd⟩
section
variable {K:W.Frag} {Q:VK}
end
noncomputable def Ur (js:List (Option Nat)) (σ:St):St:=js.map fun o=>match o with|none=>none|some j=>(σ[j]?).getD none
noncomputable def J0 (fr:List Str) (cells:List (Str×Addr)):List (Str×Addr):=fr.filterMap fun x=>(cells.lookup x).map fun c=>(x,c)
noncomputable def Zkb (js:List (Option Nat)) (N M:List Str) (inn out:List (Str×NameKind)):Bool :=
 (js.zip N).all fun p=>match p.1 with
  |none=>true
  |some j=>(M[j]?==some p.2)&&((inn.lookup p.2==some .cell)||(inn.lookup p.2==some .free))&&((out.lookup p.2==some .cell)||(out.lookup p.2==some .free))
theorem ZhM {L:List (Str×NameKind)} {x:Str} (h:((L.lookup x==some NameKind.cell)||(L.lookup x==some NameKind.free))=true):L.lookup x=some .cell∨L.lookup x=some .free:=by
 rw [Gd] at h;rcases h with h|h
 ·exact .inl (eq_of_beq h)
 ·exact .inr (eq_of_beq h)
theorem ZiY {fr:List Str} {cells:List (Str×Addr)} {x:Str} (h:x∈fr) (e:(cells.lookup x).isSome=true):∃c,(J0 fr cells).lookup x=some c:=by
 obtain ⟨c,hc⟩:=GK.mp e
 induction fr with
 |nil=>cases h
 |cons y r ih =>
  unfold J0;rw [Rb];by_cases q:y=x
  ·subst q;rw [hc];exact ⟨c,by simp⟩
  ·have hr:x∈r:=by
    rcases Qh.mp h with z|z
    ·exact absurd z.symm q
    ·exact z
   cases e2:cells.lookup y with
   |none=>exact ih hr
   |some d =>
    obtain ⟨c',hc'⟩:=ih hr;refine ⟨c',?_⟩;show List.lookup x ((y,d)::J0 r cells)=some c';rw [GW,Rw.mpr (QX q)];exact hc'
theorem Wm (fr:List Str) (js:List (Option Nat)) (hk:sc.kind=.function) (hn:∀x∈sc.names,x.2=.local->sc.names.lookup x.1=some .local) (hc:∀y∈sc.names,y.2≠.cell)
 (clos:closureFor sc X.env=pure (J0 fr X.env.cells)) (hall:(fr.all fun x=>(X.env.cells.lookup x).isSome)=true)
 (hhas:((relabel sc X.env).names.all fun y=>(y.2 != .cell&&y.2 != .free)||fr.contains y.1)=true) (hl:js.length=N.length) (hcap:Zkb js N X.N (relabel sc X.env).names X.env.scope.names=true) :
  CompSc X N sc (J0 fr X.env.cells) (Ur js):=by
 have lk:∀(x:Str) (M:List (Str×NameKind)) (k:NameKind),M.lookup x=some k->(x,k)∈M:=fun x M k h=>RP h;refine ⟨hk,hn,hc,clos,fun x c h=>?_,fun x h=>?_,fun σ=>?_,fun σ i x v e1 e2=>?_⟩
 ·have m:=RP h;obtain ⟨y,_,e⟩:=Ra.mp m;obtain ⟨d,hd,e'⟩:=QF.mp e;cases e';exact hd
 ·have hm:x∈fr:=by
   rcases h with h|h <;>
   ·have q:=Ru.mp hhas _ (lk x _ _ h);rw [Gd] at q;rcases q with q|q
    ·simp at q
    ·simpa using q
  exact ZiY hm (Ru.mp hall x hm)
 ·unfold Ur;rw [Qc,hl]
 ·unfold Ur at e2;rw [Qo] at e2;obtain ⟨o,ho,e2⟩:=QF.mp e2;cases o with
  |none=>cases e2
  |some j =>
   have hz:(some j,x)∈js.zip N:=by
    refine List.mem_iff_getElem?.mpr ⟨i,?_⟩;rw [List.getElem?_zip_eq_some];exact ⟨ho,e1⟩
   have q:=Ru.mp hcap _ hz;simp only [RD] at q;refine ⟨ZhM q.1.2,ZhM q.2,j,eq_of_beq q.1.1,?_⟩;replace e2:(σ[j]?).getD none=some v:=e2;cases e3:σ[j]? with
   |none=>rw [e3] at e2;cases e2
   |some o'=>rw [e3] at e2;rw [show o'=some v from e2]
theorem V9 {σ0:St} {g:TG} {tt:TT} {Q:VK} {H1:Hp} (ZU:List (Option V)) (hn:ZU.length<sizeLine) (σP:St->Prop) (h0:σP σ0)
 (go:∀i H,i<ZU.length->Same H1 H->J.go i H) (stop:∀H,Same H1 H->J.stop ZU.length H)
 (step:∀i σ H x H' o,ZU[i]?=some o->σP σ->Same H1 H->J.yld i H x H'->∀C:Option V->St->Hp->Prop,(∀σ2 H6,σP σ2->Same H H6->C o σ2 H6)->g x σ H' fun σ2 H4=>tt σ2 H4 fun c H5=>if c=true then te σ2 H5 fun y' H6=>C (some y') σ2 H6 else C none σ2 H5)
 (fin:∀D H',H1 D=none->Same H1 H'->H' D=some (.lst (ZU.filterMap id))->Q (.ref D) H'):ZdK J σ0 g tt te Q H1:=by
 intro D hD
 have keep:∀{H:Hp} {o:HO},Same H1 H->Same H1 (Zc H D o):=fun {H o} e b u q=>by
  rw [Zd (ZA q hD)];exact e b u q
 have fl:∀i,((ZU.take i).filterMap id).length≤ZU.length:=fun i=>Qn (Rr _ _) (by rw [Q6];omega);refine ⟨fun i m σ ys H=>i≤ZU.length∧m=ZU.length-i∧σP σ∧ys=(ZU.take i).filterMap id∧H D=some (.lst ys)∧Same H1 H,⟨_,QV _,rfl,h0,rfl,Zg,keep (Same.refl H1)⟩,?_⟩;rintro i m σ ys H ⟨hi,rfl,p,rfl,hd,sm⟩;refine ⟨hd,?_⟩;by_cases lt:i<ZU.length
 ·refine .inr ⟨go i H lt sm,fun σ2 ys2 H3=>σP σ2∧ys2=(ZU.take (i+1)).filterMap id∧H3 D=some (.lst ys2)∧Same H1 H3,fun σ2 ys2 H3 ⟨a,b,c,d⟩=>⟨_,by omega,lt,rfl,a,b,c,d⟩,fun x H3 y=>?_⟩;have e:ZU[i]?=some ZU[i]:=by simp [lt]
  have tk:(ZU.take (i+1)).filterMap id=(ZU.take i).filterMap id++ZU[i].toList:=by
   rw [Gc,e];simp only [Option.toList_some,RX];cases ZU[i]<;>rfl
  refine step i σ H x H3 ZU[i] e p sm y (fun o σ2 H6=>match o with
   |some y'=>H6 D=some (.lst ((ZU.take i).filterMap id))∧((ZU.take i).filterMap id).length<sizeLine∧σP σ2∧(ZU.take i).filterMap id++[y']=(ZU.take (i+1)).filterMap id∧Zc H6 D (.lst ((ZU.take i).filterMap id++[y'])) D=some (.lst ((ZU.take i).filterMap id++[y']))∧Same H1 (Zc H6 D (.lst ((ZU.take i).filterMap id++[y'])))
   |none=>σP σ2∧(ZU.take i).filterMap id=(ZU.take (i+1)).filterMap id∧H6 D=some (.lst ((ZU.take i).filterMap id))∧Same H1 H6) fun σ2 H6 p2 s6=>?_
  rw [tk];cases hg:ZU[i] with
  |none=>exact ⟨p2,by simp,s6 _ _ hd,sm.trans s6⟩
  |some y'=>exact ⟨s6 _ _ hd,Rp (fl i) hn,p2,by simp,Zg,keep (sm.trans s6)⟩
 ·have e:i=ZU.length:=by omega
  subst e;rw [Q8] at hd;exact .inl ⟨stop H sm,fin D H hD sm hd⟩
end L2
namespace RevF
open PySem PySem.Spec PyProof.Rows
theorem sp:splitId "reversed.__new__"=some ("reversed","__new__"):=by rfl
section
variable {prog:Program} {w:World} {A:Around} {E:Value->Shared->Prop} {s:Shared} {a it:Addr} {us:Array Value}
end
end RevF
namespace L2
open PySem PySem.Spec PyProof.Rows
variable {X:Cx}
section
variable {prog:Program} {w:World} {A:Around} {E:Value->Shared->Prop} {s:Shared}
theorem Zjx {t sl:Addr} {items:Array Value} {vl vu:Value} {lo hi:Option Int} {Q:Value->Shared->Prop} (ht:IsTup s.heap t items) (hs:s.heap.IsSliceOf sl vl vu .none) (pl:IsPart vl lo) (pu:IsPart vu hi)
 (hw:HT.sIx items.size 0 lo=0∧HT.sIx items.size items.size hi=items.size) (h:Q (.ref t) s):wpAny (model prog w) A (getItem (.ref t) (.ref sl)) Q E s:=by
 obtain ⟨os,hos,hcs,hds⟩:=id hs;have hTs:s.TypeIs (.ref sl) "slice":=⟨os,hos,hcs⟩;unfold getItem
 try with_reducible refine Rm ?_
 first|refine Qd (Qf ?_)|skip
 refine Qd (wpAny_sequenceKey ht.typeIs (by decide) ?_)
 refine Qd (RS (name:=Str.ofString "__getitem__") ht.typeIs R5
  (RC R5 ht.typeIs entry_tuple_getitem ?_ (args_tuple_getitem _ _)))
 show wpAny _ _ (Builtin.Tuple.tupleItemsOf (.ref t) >>= _) _ _ s;refine Qd (tupleItemsOf_ ht ?_);refine Qd (GM hTs ?_);rw [Qb (by decide)];refine Qd (HT.sliceApplied_gen hs pl pu ?_);show wpAny _ _ (if (((HT.sIx items.size 0 lo:Nat):Int)==0&&(1:Int)==1&&(HT.sIx items.size items.size hi-HT.sIx items.size 0 lo)==items.size)=true then _ else _) _ _ s;rw [Qb (by rw [hw.1,hw.2];simp)];refine Qd (m:=Builtin.Tuple.tupleIsExact _) ?_;unfold Builtin.Tuple.tupleIsExact;refine Qd (GM ht.typeIs (Qf ?_));rw [Qb (by decide)];exact Qd (R9 (Qf ⟨_,rfl,Qf h⟩))
end
def ZmT (K:W.Frag):V->Option Int->Option Int->Hp->VK->Prop:=fun x lo hi H Q=>∃a xs,x=.ref a∧SqT K H a xs∧∀H' p,Same H H'->SqT K H' p (YL xs lo hi)->Q (.ref p) H'
theorem Zmn {xs:List V} {lo hi:Option Int} (h1:HT.sIx xs.length 0 lo=0) (h2:HT.sIx xs.length xs.length hi=xs.length):YL xs lo hi=xs:=by
 unfold YL;rw [h1,h2];simp
theorem Jq:SlR X (ZmT X.K):=by
 intro pins s σ H x v vl vu lo hi sl Q I rx hs pl pu h;obtain ⟨a,xs,rfl,hx,q⟩:=h;by_cases hw:HT.sIx xs.length 0 lo=0∧HT.sIx xs.length xs.length hi=xs.length
 ·cases rx;obtain ⟨its,r,ht,hz⟩:=I.tuple hx;have hlen:its.toArray.size=xs.length:=by rw [Qz];exact r.length.symm
  refine ⟨"tuple",_,R5.lookup,ht.typeIs,Zjx ht hs pl pu (by rw [hlen];exact hw) ⟨.ref a,H,I,rfl,q H a (Same.refl H) ?_⟩⟩;rw [Zmn hw.1 hw.2];exact hx
 ·exact JY pins s σ H (.ref a) v vl vu lo hi sl Q I rx hs pl pu ⟨a,xs,rfl,hx,hw,fun p np=>q _ p (Zj np) (.of Zg)⟩
def ZkJ (K:W.Frag):R2:=fun x y H Q=>∃a b xs ys,x=.ref a∧y=.ref b∧SqT K H a xs∧SqT K H b ys∧xs.length+ys.length≤sizeLine∧∀H' p,Same H H'->SqT K H' p (xs++ys)->Q (.ref p) H'
theorem JV:Yl X (binaryOp .Add) (ZkJ X.K):=by
 intro pins s σ H x y v u Q I rx ry h;obtain ⟨a,b,xs,ys,rfl,rfl,ha,hb,hz,q⟩:=h;by_cases hx:xs=[]
 ·subst hx;cases rx;cases ry;obtain ⟨its,r1,p1,_⟩:=I.tuple ha;obtain ⟨its2,r2,p2,_⟩:=I.tuple hb;have e:its=[]:=r1.nil_iff.mpr rfl;subst e;obtain ⟨⟨cls,dd,data,sl⟩,ho,hc,n,hd⟩:=id p1;obtain ⟨⟨cls2,dd2,data2,sl2⟩,ho2,hc2,n2,hd2⟩:=id p2;simp only at hc hd hc2 hd2;subst hc hd hc2 hd2
  exact concat_meets ⟨_,ho,rfl⟩ ⟨_,ho2,rfl⟩ Nj seq_tuple_add Nk Nl (Nn _ _)
   (tuple_addW0 a b _ its2.toArray n n2 dd dd2 sl sl2 (by simp)) ⟨ho,ho2,⟨.ref b,H,I,rfl,q H b (Same.refl H) hb⟩⟩
 ·refine ZfO pins s σ H (.ref a) (.ref b) v u Q I rx ry ⟨a,b,xs,ys,rfl,rfl,ha,hb,hx,hz,fun e=>?_,fun _ p np=>q _ p (Zj np) (.of Zg)⟩;subst e;exact q H a (Same.refl H) (by rw [Qt];exact ha)
def KDict (K:W.Frag) (w:World) (a:Addr) (kvs:List (Zl×V)):Prop :=
 (a==sysModules)=false∧kvs.length≤sizeLine∧(kvs.map (·.1)).Nodup∧∃(es:Array DictEntry) (ep:Nat),K.lookup a=some ⟨.type "dict",none,.dict es ep,#[]⟩ ∧
  Paired (fun (kv:Zl×V) (e:DictEntry)=>e.hash=Vx w kv.1∧RelV (kV kv.1) e.key∧RelV kv.2 e.val) kvs es.toList
theorem ZiR {K:W.Frag} {w:World} {a:Addr} {kvs:List (Zl×V)} {es:Array DictEntry} {ep:Nat} (h1:(a==sysModules)=false) (h2:kvs.length≤sizeLine) (h3:(kvs.map (·.1)).Nodup) (h4:K.lookup a=some ⟨.type "dict",none,.dict es ep,#[]⟩)
 (h5:Paired (fun (kv:Zl×V) (e:DictEntry)=>e.hash=Vx w kv.1∧RelV (kV kv.1) e.key∧RelV kv.2 e.val) kvs es.toList):KDict K w a kvs:=⟨h1,h2,h3,es,ep,h4,h5⟩
theorem KDict.dict {K:W.Frag} {P:Program} {w:World} {a:Addr} {kvs:List (Zl×V)} {h:Heap} (d:KDict K w a kvs) (k:K.In h):∃vs,KV kvs vs∧h.DictOf (Yp P w) a vs:=by
 obtain ⟨_,_,nd,es,ep,hl,pr⟩:=d
 have go:∀{l:List (Zl×V)} {m:List DictEntry},Paired (fun (kv:Zl×V) (e:DictEntry)=>e.hash=Vx w kv.1∧RelV (kV kv.1) e.key∧RelV kv.2 e.val) l m->∃vs,KV l vs∧Pairs (Yp P w) m vs∧(∀e∈m,∃k,(Yp P w).is k e.key=true∧e.hash=(Yp P w).hash k)∧vs.map (·.1)=l.map (·.1):=by
  intro l m p
  induction p with
  |nil=>exact ⟨[],.nil,.nil,by simp,rfl⟩
  |@cons kv e l m h p ih =>
   obtain ⟨vs,a1,a2,a3,a4⟩:=ih;refine ⟨(kv.1,e.val)::vs,.cons ⟨rfl,h.2.2⟩ a1,.cons (Wc h.2.1) rfl a2,fun x hx=>?_,by simp [a4]⟩;rcases Qh.mp hx with rfl|hx
   ·exact ⟨kv.1,Wc h.2.1,h.1⟩
   ·exact a3 x hx
 obtain ⟨vs,a1,a2,a3,a4⟩:=go pr;exact ⟨vs,a1,_,es,ep,k _ _ hl,⟨rfl,rfl,rfl⟩,rfl,fun e he=>a3 e (by simpa using he),a2,by rw [a4];exact nd⟩
section
variable {o e f:Expr} {apos cpos:Pos} {td ty tx:TE}
end
end L2
namespace RevF
open PySem PySem.Spec PyProof.Rows
section
variable {prog:Program} {w:World} {A:Around} {E:Value->Shared->Prop} {s:Shared} {a it:Addr} {us:Array Value}
end
end RevF
namespace TextM
open PySem
end TextM
namespace L2
open PySem PySem.Spec PyProof.Rows
variable {A:Around} {X:Cx} {H:Hp} {pins:List (Addr×Obj)} {prog:Program} {s:Shared} {σ:St} {E Q:Value->Shared->Prop}
theorem Zdo:∀{zs:List Str} {us:List Value},Vals (zs.map V.str) us->StrsAre us zs
 |[],_,.nil=>.nil
 |z::zs,_,.cons r rs=>by
  obtain ⟨t,rfl⟩:=r;exact .cons z t (Zdo rs)
section
variable {CX:Yv} {k:Nat} {f C:Addr} {fd:FuncData} {ps:List Str} {sp:Sp} {dvs:List V} {ds:List Value} {E:XS} {x m:Str} {p pos apos:Pos} {e o:Expr} {es:List Expr} {ta:TE} {t:TA}
def Zfy (C:Addr) (m:Str) (sp:Sp) (dvs:List V) (E:XS) (ta:TE) (t:TA):TE:=fun σ H Q=>ta σ H fun x H1=>∃a dx fs,x=.ref a∧H1 a=some (.ins C dx fs)∧fs.lookup m=none ∧
 t σ H1 fun vs H2=>sp (x::(vs++dvs)) H2 Q (E σ)
theorem ZS {pl:Sem Bool} (he:PE X o ta) (c:Cls X.K C) (hm:Meth X.K C m f) (F:FnOk X.prog X.w X.K X.mg X.base CX k f fd ps sp) (hr:Room k X.A) (hb:Binds X.K fd ps ds) (hd:Vals dvs ds) (hx:VN CX X E) (ha:PA X (e::es) t)
 (hst:starEach (e::es) X.env=(false,eval e X.env)::starEach es X.env:=by rfl) (hpl:(backTo pos (starEach es X.env)).any (·.1)=false:=by rfl)
 (ht:eval (.Call (.Attribute o m apos) (e::es) [] pos) X.env=(do
 let ov ←eval o X.env
 standAt apos.atName
 let (f,first) ←holding [ov] (getMethod ov m pl)
 callWith pos f first (backTo pos (starEach (e::es) X.env)) (backToKw pos (keywordEach [] X.env))):=by rfl) :
  PE X (.Call (.Attribute o m apos) (e::es) [] pos) (Zfy C m sp dvs E ta t):=by
 intro pins s σ H Q I h;refine W.methodCall_KW (pl:=pl) (Zq (he pins s σ H _ I h) fun u s1 ⟨x,H1,I1,rx,a,dx,fs,ex,ea,l,q⟩=>?_) ht;subst ex;obtain rfl:u=Value.ref a:=rx;refine ZgM I1 ea c hm l ?_;refine Gr (first:=[.ref a]) (h₀:=X.base) I.ok.mod.kin hm.kp (Zq (ha pos pins s1 σ H1 _ I1 q) fun us s2 ⟨vs,H2,I2,r,q2⟩=>⟨I2.kIn,?_⟩) hst hpl;exact Zdi (us:=.ref a::us) (vs:=.ref a::vs) F hr hb hd hx I2 (.cons rfl r) q2
theorem ZhE {pl:Sem Bool} (he:PE X o ta) (c:Cls X.K C) (hm:Meth X.K C m f) (F:FnOk X.prog X.w X.K X.mg X.base CX k f fd ps sp) (hr:Room k X.A) (hb:Binds X.K fd ps ds) (hd:Vals dvs ds) (hx:VN CX X E)
 (ht:eval (.Call (.Attribute o m apos) [] [] pos) X.env=(do
 let ov ←eval o X.env
 standAt apos.atName
 let (f,first) ←holding [ov] (getMethod ov m pl)
 callWith pos f first (backTo pos (starEach [] X.env)) (backToKw pos (keywordEach [] X.env))):=by rfl) :
  PE X (.Call (.Attribute o m apos) [] [] pos) (Zfy C m sp dvs E ta Zas):=by
 intro pins s σ H Q I h;refine W.methodCall_KW (pl:=pl) (Zq (he pins s σ H _ I h) fun u s1 ⟨x,H1,I1,rx,a,dx,fs,ex,ea,l,q⟩=>?_) ht;subst ex;obtain rfl:u=Value.ref a:=rx;refine ZgM I1 ea c hm l ?_;exact W.callWith_K0 (first:=[.ref a]) I1.kIn hm.kp (Zdi (us:=[.ref a]) (vs:=[.ref a]) F hr hb hd hx I1 (.cons rfl .nil) q)
def Zmz (C:Addr) (sp:Sp) (dvs:List V) (E:XS) (t:TA):TE:=fun σ H Q=>t σ H fun vs H1=>∀x dx,H1 x=none->H1 dx=none->dx≠x →
 sp (.ref x::(vs++dvs)) (Zc (Zc H1 dx (.own x)) x (.ins C dx [])) (fun v H2=>v=.non∧Q (.ref x) H2) (E σ)
theorem Zog {Q:VK} {us:List Value} {vs:List V} (M:Mk X.K C f) (F:FnOk X.prog X.w X.K X.mg X.base CX k f fd ps sp) (hr:Room (k+1) X.A) (hb:Binds X.K fd ps ds) (hd:Vals dvs ds)
 (hx:VN CX X E) (I:Inv X pins σ H s) (r:Vals vs us)
 (h:∀x dx,H x=none->H dx=none->dx≠x->sp (.ref x::(vs++dvs)) (Zc (Zc H dx (.own x)) x (.ins C dx [])) (fun v H2=>v=.non∧Q (.ref x) H2) (E σ)) :
  wpAny (model X.prog X.w) X.A (call (.ref C) us) (EP X pins σ Q) X.xe s:=by
 have hq:=h (s.heap.objs.size+1) s.heap.objs.size (I.hok.fresh (QQ _)) (I.hok.fresh (Qe _)) (QA (Q5 _));have I2:=Inv.made (C:=C) I;have r2:Vals (V.ref (s.heap.objs.size+1)::(vs++dvs)) (Value.ref (s.heap.objs.size+1)::(us++ds)):=.cons rfl (r.append hd)
 have hl:(Value.ref (s.heap.objs.size+1)::us++ds).length=ps.length:=by
  have e:=r2.length;rw [F.len _ _ _ _ hq] at e;exact e.symm
 refine RN (Zk5 (f:=f) I.kIn M.makes M.init (Rz.mp M.fn) (RO (F.run _ X.stack _ _ ⟨Value.ref (s.heap.objs.size+1)::us,[]⟩ (Value.ref (s.heap.objs.size+1)::(us++ds)) _ _ (E σ) (hr.make C us [])
  (I2.env0.make C us []) (hb _ (Value.ref (s.heap.objs.size+1)::us) I2.kIn hl) r2 hq) fun r s' hq'=>?_))
 cases r with
 |error e=>exact hx pins σ _ _ e s' I2 hq'
 |ok fl =>
  cases fl with
  |ret u =>
   obtain ⟨v,H',I3,rv,ev,q3⟩:=I2.after hq';subst ev;exact ⟨rv,⟨V.ref (s.heap.objs.size+1),H',I3,rfl,q3⟩⟩
  |next=>exact False.elim hq'
  |brk=>exact False.elim hq'
  |cont=>exact False.elim hq'
theorem ZfI (M:Mk X.K C f) (F:FnOk X.prog X.w X.K X.mg X.base CX k f fd ps sp) (hr:Room (k+1) X.A) (hg:Gl X x) (hm:X.mg x=some (.ref C)) (hb:Binds X.K fd ps ds) (hd:Vals dvs ds) (hx:VN CX X E)
 (hdb:(x==("__debug__": Str))=false:=by decide):PE X (.Call (.Name x p) [] [] pos) (Zmz C sp dvs E Zas):=by
 intro pins s σ H Q I h;refine Ro (Zaf I hg hm ?_ hdb);exact W.callWith_K0 I.kIn M.kp (Zog (us:=[]) M F hr hb hd hx I .nil h)
end
theorem JM:bootBuiltins "sorted"=some (.builtin "sorted"):=by trivial
theorem ZaY:∀{us:List Value} {zs:List Str},StrsAre us zs->Vals (zs.map V.str) us
 |_,_,.nil=>.nil
 |_,_,.cons y t r=>.cons ⟨t,rfl⟩ (ZaY r)
theorem Zme (K:W.Frag) (hK:X.K=K:=by rfl):Y4 X (.builtin "sorted") (fun xs H Q=>∃l zs,xs=[.ref l]∧SqL K H l (zs.map V.str)∧zs.length<64∧∀D zs',H D=none->zs'.Perm zs->sortedS zs'=true->Q (.ref D) (Zc H D (.lst (zs'.map V.str)))):=by
 subst hK;intro pins s σ H xs us Q I r h;obtain ⟨l,zs,rfl,hq,hl,q⟩:=h;obtain ⟨u,rfl,ru⟩:=Xv r;cases (show u=Value.ref l from ru);obtain ⟨its,rv,pl,hz⟩:=I.list hq;have hlen:=rv.length;rw [Qc] at hlen;refine sorted_strs pl.isList (Zdo rv) (by omega) fun out zs' so hp hs=>?_;obtain ⟨e,he⟩:=sortedAll_at s.heap its out;have hle:s.heap.objs.size≤s.heap.objs.size+1:=QQ _;have hl2:zs'.length=zs.length:=hp.length_eq;refine ⟨.ref _,_,I.laid (t':=s.toks) (o:=.lst (zs'.map V.str)) (fun b u q=>sortedAll_old q) hle (show ObjOk X.prog X.w _ _ _ (.lst (zs'.map V.str)) from ⟨by rw [Qc];exact QO (ZF (by omega)),out.toList,e,ZaY so,he⟩),rfl,q _ zs' (I.hok.fresh hle) hp hs⟩
noncomputable def ZL (x y:Str):Bool:=decide (x.cps.toList<y.cps.toList)
section
variable {w:World}
noncomputable def YU (xs:Array (Str×Tok)):Array Value:=xs.map fun p=>.str p.1 p.2
noncomputable def X8 (xs:Array (Str×Tok)) (i:Nat):Str:=(xs[i]?.map (·.1)).getD ""
theorem Zhh {xs:Array (Str×Tok)} {i:Nat} {v:Value} (h:(YU xs)[i]?=some v):∃t,v=.str (X8 xs i) t:=by
 simp only [YU,Array.getElem?_map,QF] at h;obtain ⟨p,hp,rfl⟩:=h;exact ⟨p.2,by simp [X8,hp]⟩
theorem Zkt {P:Nat->Value->Prop} (val:Nat->Str) (hval:∀i v,P i v->∃t,v=.str (val i) t):CmpOf prog w A .Gt P (fun i j=>ZL (val j) (val i)):=fun i j vi vj s Q E hi hj h=>by
 obtain ⟨t,rfl⟩:=hval i vi hi;obtain ⟨u,rfl⟩:=hval j vj hj;exact richCompare_gives (op:=.Gt) (R6 s _ t) (R6 s _ u) F.slot_str_gt F.entry_str_gt (F.args_str_gt_2 _ _) (gives_str_gt _ _ t u) (fun x=>nomatch x) h
theorem Zj3 {P:Nat->Value->Prop} (val:Nat->Str) (hval:∀i v,P i v->∃t,v=.str (val i) t):CmpOf prog w A .Lt P (fun i j=>ZL (val i) (val j)):=fun i j vi vj s Q E hi hj h=>by
 obtain ⟨t,rfl⟩:=hval i vi hi;obtain ⟨u,rfl⟩:=hval j vj hj;exact richCompare_gives (op:=.Lt) (R6 s _ t) (R6 s _ u) F.slot_str_lt F.entry_str_lt (F.args_str_lt_2 _ _) (gives_str_lt _ _ t u) (fun x=>nomatch x) h
theorem Zpa {a b:Str} {t u:Tok} (hh:A.handled=none)
 (h:∀h' tk,(∀c o,s.heap.get? c=some o->h'.get? c=some o)->Q (if ZL a b=true then .str b u else .str a t) { s with heap:=h',toks:=tk }) :
  wpAny (model prog w) A (call (.builtin "max") [.str a t,.str b u]) Q E s:=by
 have hT:(s.heap.push { cls:=.type "tuple",data:=.seq #[.str a t,.str b u] }).IsTuple s.heap.objs.size (YU #[(a,t),(b,u)]):=⟨_,Qw _ rfl,rfl,0,by simp [YU]⟩;refine call_max_two (Gj hT ?_);have hsz:(s.heap.push { cls:=.type "tuple",data:=.seq #[.str a t,.str b u] }).objs.size=s.heap.objs.size+1:=Ri ..
 refine ⟨_,[_,s.heap.objs.size],[_],_,_,_,_,rfl,Walks.tuple (A:=A.in1) hh _ s.heap.objs.size (by rw [hsz];exact QA (Q5 _)) (YU #[(a,t),(b,u)]),
  ⟨⟨_,Qw _ rfl,rfl,rfl⟩,hT.push _⟩,fun c hc=>?_,by simp [YU],Zkt (X8 #[(a,t),(b,u)]) (fun _ _=>Zhh),fun v h' tk hP hk=>?_⟩
 ·show c<((s.heap.push _).push _).objs.size;rw [Ri,hsz];rcases Qh.mp hc with rfl|hc
  ·rw [hsz];exact Q5 _
  ·rcases Qh.mp hc with rfl|hc
   ·exact Ga (Q5 _)
   ·cases hc
 ·have hold:∀c o,s.heap.get? c=some o->h'.get? c=some o:=fun c o e=>by
   refine hk c o (fun hm=>?_) (Qk _ (Qk _ e));rcases Qh.mp hm with e1|hm
   ·have:=Qi e;rw [e1,hsz] at this;exact QD _ (Nat.lt_of_succ_lt this)
   ·cases hm
  have:=h h' tk hold
  have hv:v=if ZL a b=true then Value.str b u else Value.str a t:=by
   have hP':(YU #[(a,t),(b,u)])[argBest (fun i j=>ZL (X8 #[(a,t),(b,u)] j) (X8 #[(a,t),(b,u)] i)) 1]?=some v:=by
    have hsz2:(YU #[(a,t),(b,u)]).size-1=1:=by simp [YU]
    rw [←hsz2];exact hP
   have e0:argBest (fun i j=>ZL (X8 #[(a,t),(b,u)] j) (X8 #[(a,t),(b,u)] i)) 1=if ZL a b=true then 1 else 0:=by
    show (if _=true then 1 else 0)=_;rfl
   by_cases hba:ZL a b=true
   ·rw [e0,Qb hba] at hP';rw [Qb hba];simpa [YU] using hP'.symm
   ·rw [e0,Qa hba] at hP';rw [Qa hba];simpa [YU] using hP'.symm
  rw [hv];exact this
theorem Zn8 {a b:Str} {t u:Tok} (hh:A.handled=none)
 (h:∀h' tk,(∀c o,s.heap.get? c=some o->h'.get? c=some o)->Q (if ZL b a=true then .str b u else .str a t) { s with heap:=h',toks:=tk }) :
  wpAny (model prog w) A (call (.builtin "min") [.str a t,.str b u]) Q E s:=by
 have hT:(s.heap.push { cls:=.type "tuple",data:=.seq #[.str a t,.str b u] }).IsTuple s.heap.objs.size (YU #[(a,t),(b,u)]):=⟨_,Qw _ rfl,rfl,0,by simp [YU]⟩;refine call_min_two (Gj hT ?_);have hsz:(s.heap.push { cls:=.type "tuple",data:=.seq #[.str a t,.str b u] }).objs.size=s.heap.objs.size+1:=Ri ..
 refine ⟨_,[_,s.heap.objs.size],[_],_,_,_,_,rfl,Walks.tuple (A:=A.in1) hh _ s.heap.objs.size (by rw [hsz];exact QA (Q5 _)) (YU #[(a,t),(b,u)]),
  ⟨⟨_,Qw _ rfl,rfl,rfl⟩,hT.push _⟩,fun c hc=>?_,by simp [YU],Zj3 (X8 #[(a,t),(b,u)]) (fun _ _=>Zhh),fun v h' tk hP hk=>?_⟩
 ·show c<((s.heap.push _).push _).objs.size;rw [Ri,hsz];rcases Qh.mp hc with rfl|hc
  ·rw [hsz];exact Q5 _
  ·rcases Qh.mp hc with rfl|hc
   ·exact Ga (Q5 _)
   ·cases hc
 ·have hold:∀c o,s.heap.get? c=some o->h'.get? c=some o:=fun c o e=>by
   refine hk c o (fun hm=>?_) (Qk _ (Qk _ e));rcases Qh.mp hm with e1|hm
   ·have:=Qi e;rw [e1,hsz] at this;exact QD _ (Nat.lt_of_succ_lt this)
   ·cases hm
  have:=h h' tk hold
  have hv:v=if ZL b a=true then Value.str b u else Value.str a t:=by
   have hP':(YU #[(a,t),(b,u)])[argBest (fun i j=>ZL (X8 #[(a,t),(b,u)] i) (X8 #[(a,t),(b,u)] j)) 1]?=some v:=by
    have hsz2:(YU #[(a,t),(b,u)]).size-1=1:=by simp [YU]
    rw [←hsz2];exact hP
   have e0:argBest (fun i j=>ZL (X8 #[(a,t),(b,u)] i) (X8 #[(a,t),(b,u)] j)) 1=if ZL b a=true then 1 else 0:=by
    show (if _=true then 1 else 0)=_;rfl
   by_cases hba:ZL b a=true
   ·rw [e0,Qb hba] at hP';rw [Qb hba];simpa [YU] using hP'.symm
   ·rw [e0,Qa hba] at hP';rw [Qa hba];simpa [YU] using hP'.symm
  rw [hv];exact this
theorem ZjS {l:Addr} {vs:List Value} {Q:List Value->Shared->Prop} (hl:IsTup s.heap l vs.toArray)
 (h:Q vs { s with heap:=(s.heap.push (seqObj "list" #[] 0)).update s.heap.objs.size (Obj.mapSeq (·++vs.toArray)) }) (hsz:vs.length≤sizeLine) :
  wpAny (model prog w) A (collect (.ref l)) Q E s:=by
 obtain ⟨o,ho,hc,n,hd⟩:=id hl;unfold collect;refine Qd (wpAny_runValue (RV NA ?_));show wpAny _ _ (do again (.builtin "list.__iadd__" ⟨[←newList [],.ref l],[]⟩)) _ _ s;refine Qd (Ge (Qf ⟨GS _ (by trivial),RV entry_list_iadd' ?_⟩));show wpAny _ _ (Builtin.List.listExtendWith (.ref s.heap.objs.size) (.ref l) (.ref s.heap.objs.size)) _ _ { s with heap:=s.heap.push (seqObj "list" #[] 0) };unfold Builtin.List.listExtendWith;have ho':(s.heap.push (seqObj "list" #[] 0)).get? l=some o:=Qk _ ho;refine Qd (GM (T:="tuple") ⟨o,ho',hc⟩ ?_);have ht:(Value.type "tuple"==Value.type "tuple")=true:=by rfl
 rw [Qb (by rw [ht];simp)];refine Qd (listItems_at ho' hd ?_);refine Qd (listItems_at (xs:=#[]) (n:=0) (Qw _ rfl) rfl ?_);rw [Qa (by simp)];refine Qd (listUpdate_at (xs:=#[]) (n:=0) (Qw _ rfl) rfl ?_ (QV _) (by show (#[]++vs.toArray).size≤sizeLine+1;simp only [Array.size_append,Qz,Nq];omega));refine Qf ?_;refine Qd (wpAny_load (get?_update_seq (Qw _ rfl) _) ?_);show wpAny _ _ (pure ((#[]:Array Value)++vs.toArray).toList) Q E _;rw [show ((#[]:Array Value)++vs.toArray).toList=vs by simp];exact Qf h
theorem Zov {x:Value} {vs:List Value} {ss:List Str} (hS:StrsAre vs ss) (h64:vs.length<64)
 (hc:∀(A':Around) (Q':List Value->Shared->Prop),A'.handled=A.handled->(∀h1 tk,(∀b o,s.heap.get? b=some o->h1.get? b=some o)->s.heap.objs.size≤h1.objs.size->Q' vs { s with heap:=h1,toks:=tk })->wpAny (model prog w) A' (collect x) Q' E s)
 (h:∀h' tk a e (out:Array Value) (ss':List Str),(∀b o,s.heap.get? b=some o->h'.get? b=some o)->s.heap.objs.size≤a->h'.get? a=some (seqObj "list" out e)->StrsAre out.toList ss'->ss'.Perm ss->sortedS ss'=true->Q (.ref a) { s with heap:=h',toks:=tk }) :
  wpAny (model prog w) A (call (.builtin "sorted") [x]) Q E s:=by
 refine NB kind_sorted plain_sorted entry_sorted (args_sorted1 _) ?_;unfold Builtin.«sorted»;refine Qd (m:=checkCount "sorted" 1 1 _) (Qf ?_);refine Qd (hc _ _ rfl fun h1 tk k1 z1=>?_);refine Qd (Ge ?_);have hoL:(h1.push (seqObj "list" vs.toArray 0)).get? h1.objs.size=some (seqObj "list" vs.toArray 0):=Qw _ rfl;show wpAny _ _ _ _ _ { s with heap:=h1.push (seqObj "list" vs.toArray 0),toks:=tk };refine Qd (Rm (RC slot_list_sort ⟨_,hoL,rfl⟩ entry_list_sort (list_sort_treeK strKind_oneLt hoL hS.keysOf (fun v₁ v₂ rest e=>keyKind_strs (by rw [←e];exact hS)) h64 fun st' a1 a2=>⟨_,rfl,?_⟩) (args_list_sort _)));obtain ⟨ss',b1,b2,b3⟩:=sorted_out_str hS a1 a2;obtain ⟨e,he⟩:=sortedHeap_at (out:=(arrOf st').map (·.2)) hoL;refine Qf ⟨_,rfl,h _ tk _ e _ ss' (fun b o q=>?_) z1 he b1 b2 b3⟩;have q1:=k1 _ _ q;have lt:b<h1.objs.size:=Qi q1;rw [sortedHeap_old (QA lt) (by rw [size_push'];exact Ga lt)];exact Qk _ q1
end
theorem Zj6 (hc:X.calm=true):Y4 X (.builtin "max") (fun xs H Q=>∃i j,xs=[.str i,.str j]∧Q (.str (if ZL i j=true then j else i)) H):=by
 intro pins s σ H xs us Q I r h;obtain ⟨i,j,rfl,q⟩:=h;obtain ⟨u,w',rfl,⟨t,rfl⟩,⟨t',rfl⟩⟩:=JL r;refine Zpa (I.ok.hd hc) fun h' tk k=>⟨_,H,I.kept k,?_,q⟩;by_cases hj:ZL i j=true
 ·rw [Qb hj,Qb hj];exact ⟨_,rfl⟩
 ·rw [Qa hj,Qa hj];exact ⟨_,rfl⟩
theorem ZjP (hc:X.calm=true):Y4 X (.builtin "min") (fun xs H Q=>∃i j,xs=[.str i,.str j]∧Q (.str (if ZL j i=true then j else i)) H):=by
 intro pins s σ H xs us Q I r h;obtain ⟨i,j,rfl,q⟩:=h;obtain ⟨u,w',rfl,⟨t,rfl⟩,⟨t',rfl⟩⟩:=JL r;refine Zn8 (I.ok.hd hc) fun h' tk k=>⟨_,H,I.kept k,?_,q⟩;by_cases hj:ZL j i=true
 ·rw [Qb hj,Qb hj];exact ⟨_,rfl⟩
 ·rw [Qa hj,Qa hj];exact ⟨_,rfl⟩
theorem ZlS (K:W.Frag) (hK:X.K=K:=by rfl):Y4 X (.builtin "sorted") (fun xs H Q=>∃l zs,xs=[.ref l]∧SqT K H l (zs.map V.str)∧zs.length<64∧∀D zs',H D=none->zs'.Perm zs->sortedS zs'=true->Q (.ref D) (Zc H D (.lst (zs'.map V.str)))):=by
 subst hK;intro pins s σ H xs us Q I r h;obtain ⟨l,zs,rfl,hq,hl,q⟩:=h;obtain ⟨u,rfl,ru⟩:=Xv r;cases (show u=Value.ref l from ru);obtain ⟨its,rv,pl,hz⟩:=I.tuple hq;have hlen:=rv.length;rw [Qc] at hlen;refine Zov (Zdo rv) (by omega) (fun A' Q' _ q'=>ZjS pl (q' _ _ (fun b o e=>?_) ?_) (by rw [Qc] at hz;omega)) fun h' tk a e out zs' k1 z1 he so hp hs=>?_
 ·have lt:=Qi e;rw [Heap.get?_update_ne _ _ _ _ (QA lt)];exact Qk _ e
 ·rw [Heap.size_update,size_push'];exact QQ _
 have hl2:zs'.length=zs.length:=hp.length_eq;exact ⟨.ref _,_,I.laid (t':=tk) (o:=.lst (zs'.map V.str)) k1 z1 (show ObjOk X.prog X.w _ _ _ (.lst (zs'.map V.str)) from ⟨by rw [Qc];exact QO (ZF (by omega)),out.toList,e,ZaY so,he⟩),rfl,q _ zs' (I.hok.fresh z1) hp hs⟩
theorem Zk1 {w:World} {K:Type} [DecidableEq K] (knd:HeapKind prog w K) (d:Addr) (hd:(d==sysModules)=false) :
  MeetsIn prog w (Builtin.«dict.__len__» ⟨[.ref d],[]⟩) (fun _ R s=>∃kvs,s.heap.DictOfH knd d kvs∧R (.ok (.ret (.int kvs.length s.toks))) { s with toks:=s.toks+1 }) :=
 .of_wp fun A R s ⟨kvs,hm,h⟩=>by
  obtain ⟨o,es,ep,ho,hc,hdat,he,hk,hn⟩:=hm;show wpAny _ _ (dictSize d >>= _) _ _ s;unfold dictSize;refine Qd (Qd (wpAny_dictEntries ho hdat (Qf ?_)));show wpAny _ _ (Builtin.Dict.pendingCount d >>= _) _ _ s;refine Qd (wpAny_pendingCount_other hd ?_);refine wpAny_ret_mkInt ?_;have:es.size=kvs.length:=size_of_entries he;rw [Nat.add_zero,this];exact h
theorem ZkT {w:World} {K:Type} [DecidableEq K] {knd:HeapKind prog w K} {d:Addr} {kvs:List (K×Addr×Value)} (hd:(d==sysModules)=false) (hm:s.heap.DictOfH knd d kvs) (hfit:(kvs.length:Int)<2 ^ 63)
 (h:Q (.int kvs.length (s.toks+1)) { s with toks:=s.toks+1+1 }):wpAny (model prog w) A (call (.builtin "len") [.ref d]) Q E s:=by
 refine NB kind_len plain_len entry_len (args_len1 _) ?_;unfold Builtin.«len»;refine Qd (m:=oneArg "len" _) (Qf ?_)
 refine Qd (m:=callSpecial? (.ref d) (Str.ofString "__len__")) (RS (name:=Str.ofString "__len__") hm.typeIs F.slot_dict_len
  (GQ F.slot_dict_len hm.typeIs F.entry_dict_len (F.args_dict_len_1 _) (Zk1 knd d hd) ⟨kvs,hm,?_⟩))
 show wpAny _ _ _ _ _ { s with toks:=s.toks+1 };refine Qd (Rm (Qf ?_));refine Qd (wpAny_letGo ?_);show wpAny _ _ (if ((kvs.length:Nat):Int)<0 then _ else _) _ _ _;rw [Qa (by omega)];show wpAny _ _ (if ((kvs.length:Nat):Int) ≥ 2 ^ 63 then _ else _) _ _ _;rw [Qa (by omega)];exact Qd (wpAny_mkInt (Qf ⟨_,rfl,h⟩))
theorem Zns:Y4 X (.builtin "len") (fun xs H Q=>∃a kvs,xs=[V.ref a]∧H a=some (.dT kvs)∧Q (.int kvs.length) H):=by
 intro pins s σ H xs us Q I r h;obtain ⟨a,kvs,rfl,ha,q⟩:=h;obtain ⟨u,rfl,ru⟩:=Xv r;cases ru;obtain ⟨z,hd,vs,rel,dd⟩:=Zde I.hok ha;refine ZkT hd dd (by rw [←rel.length];rw [RM] at z;omega) ?_;rw [←rel.length];exact ⟨.int kvs.length,H,I.tok _,⟨_,rfl⟩,q⟩
section
variable {w:World} {K:Type} [DecidableEq K] {knd:HeapKind prog w K}
theorem ZnD {d a:Addr} {xs:List (K×Addr×Value)} {k:K} {v:Value} (hu:knd.room A) (hkey:knd.is s.heap k a) (hm:s.heap.DictOfH knd d xs) (hsz:xs.length≤sizeLine)
 (h1:∀p,atKey xs k=some p->Q p.2 { s with toks:=s.toks+knd.draws k })
 (h2:atKey xs k=none->∀h',h'.DictOfH knd d (storedH xs k a v)->Heap.SameBut d s.heap h'->Q v { s with heap:=h',toks:=s.toks+knd.draws k }) :
  wpAny (model prog w) A (dictSetDefault d (.ref a) v) Q E s:=by
 obtain ⟨o,es,ep,ho,hc,hd,he,his,hn⟩:=hm;unfold dictSetDefault
 try with_reducible refine Rm ?_
 refine Qd (knd.pyHash hu hkey ?_);refine Qd (wpAny_dictFind_heap (s:={ s with toks:=s.toks+knd.draws k }) hu hkey ho hd he his hn ?_ ?_)
 ·intro hno;have hnot:k∉xs.map (·.1):=not_mem_keys_of_get hno
  refine Qd (R9 (Qd (wpAny_updateDictKeys (hz:=by have e:=size_of_entries he;omega) (s:={ s with toks:=s.toks+knd.draws k }) ho hd (Qf (h2 (GX hno) _ ⟨_,_,ep+1,No _ ho (Obj.isFreed_of_dict (Obj.data_mapDictKeys hd _)),
   hc.mapDictKeys _,Obj.data_mapDictKeys hd _,?_,?_,?_⟩ (Gv ..))))))
  ·rw [storedH_new (GX hno)];simp [he,entryOfKey]
  ·rw [storedH_new (GX hno)];intro x hx;rcases Ql.mp hx with hx|hx
   ·exact knd.keeps (his x hx) ho hd (Gv ..)
   ·simp only [QG] at hx;subst hx;exact knd.keeps hkey ho hd (Gv ..)
  ·rw [storedH_new (GX hno)];rw [Qv,QZ];refine ⟨hn,by simp,?_⟩;intro x hx y hy;simp only [Qx,Gn,QG] at hy;subst hy;exact fun e=>hnot (e▸hx)
 ·intro j p hj;refine Qd (wpAny_dictEntries (s:={ s with toks:=s.toks+knd.draws k }) ho hd ?_);rw [entry_at he j,hj];exact Qd (R9 (Qf (h1 p (atKey_of_get hn hj))))
theorem Zmj (d a:Addr) (hd:(d==sysModules)=false) (dflt:Value) :
  MeetsIn prog w (Builtin.«dict.setdefault» ⟨[.ref d,.ref a,dflt],[]⟩) (fun A R s=>knd.room A.in1∧∃k xs,knd.is s.heap k a∧s.heap.DictOfH knd d xs∧xs.length≤sizeLine ∧
   (∀p,atKey xs k=some p->R (.ok (.ret p.2)) { s with toks:=s.toks+knd.draws k }) ∧
   (atKey xs k=none->∀h',h'.DictOfH knd d (storedH xs k a dflt)->Heap.SameBut d s.heap h'->R (.ok (.ret dflt)) { s with heap:=h',toks:=s.toks+knd.draws k })) :=
 .of_wp fun A R s ⟨hu,k,xs,hkey,hm,hz,h1,h2⟩=>by
  unfold Builtin.«dict.setdefault»;refine Qd ?_;unfold Builtin.Dict.keyAndDefault;refine Qd (wpAny_notOrdered_dict hm.typeIs ?_);show wpAny _ _ (pure (d,Value.ref a,some dflt)) _ _ s;refine Qf ?_;show wpAny _ _ (if (d==sysModules)=true then _ else (dictSetDefault d (.ref a) dflt >>= _)) _ _ s;rw [Qa (by rw [hd];exact QI)];exact Qd (ZnD hu hkey hm hz (fun p hp=>Qf ⟨p.2,rfl,h1 p hp⟩) fun hn h' hm' hs'=>Qf ⟨dflt,rfl,h2 hn h' hm' hs'⟩)
end
section
variable {a b:Addr} {kvs:List (List Zl×V)} {k:List Zl} {d:V} {r:Value}
theorem Zoy (hu:A.units+1<cLine) (I:Inv X pins σ H s) (e:H a=some (.dT kvs)) (eb:H b=some (.tup (k.map kV))) (l:kvs.length<sizeLine) (rd:RelV d r)
 (h1:∀v w' s',ZH kvs k=some v->RelV v w'->Inv X pins σ H s'->Q w' s') (h2:∀s',ZH kvs k=none->Inv X pins σ (Zc H a (.dT (kvs++[(k,d)]))) s'->Q r s') :
  wpAny (model X.prog X.w) A (call (.builtin "dict.setdefault") [.ref a,.ref b,r]) Q E s:=by
 obtain ⟨z,hd,xs,rel,dd⟩:=Zde I.hok e;have hz:xs.length≤sizeLine:=by rw [←GE rel];exact z
 have hv:=rel.val k
 refine GQ NP dd.typeIs PySem.F.entry_dict_setdefault (PySem.F.args_dict_setdefault_3 _ _ _) (Zmj (knd:=tupleKind (Yp X.prog X.w)) a b hd r)
  ⟨R8 hu,k,xs,VU I.hok eb,dd,hz,fun p hp=>?_,fun hn h' dd' hs=>?_⟩
 ·rw [hp] at hv;cases ho:ZH kvs k with
  |none=>rw [ho] at hv;cases hv
  |some v =>
   rw [ho] at hv;exact h1 v _ _ ho hv (I.tok _)
 ·rw [hn] at hv
  have ho:ZH kvs k=none:=by
   cases ho:ZH kvs k with
   |none=>rfl
   |some v=>rw [ho] at hv;cases hv
  refine h2 _ ho ?_;have hp:=rel.put k eb rd;rw [ZbB _ ho] at hp;have hl:(kvs++[(k,d)]).length≤sizeLine:=by rw [Qq];exact l
  obtain ⟨q,es,ep,hq,h2,h3,h4,_,h5⟩:=dd';refine ZaK I (by rw [e];exact True.intro) hs ⟨q,hq⟩ ⟨hl,hd,_,hp.keeps fun c ys ec=>?_,q,es,ep,hq,h2,h3,h4,h5⟩;rw [Zd (ZiK ec e (fun z=>nomatch z))];exact ec
end
def Znq (td ty tx:TE):TE:=fun σ H Q=>td σ H fun x H1=>∃a,x=.ref a∧IsD H1 a∧ty σ H1 fun y H2=>tx σ H2 fun z H3=>∃kvs k b,H3 a=some (.dT kvs)∧y=.ref b∧H3 b=some (.tup (k.map kV))∧kvs.length<sizeLine ∧
 (∀v,ZH kvs k=some v->Q v H3)∧(ZH kvs k=none->Q z (Zc H3 a (.dT (kvs++[(k,z)]))))
section
variable {o e f:Expr} {apos cpos:Pos} {td ty tx:TE}
theorem Zn2 (hu:X.A.units+1<cLine) (ho:PE X o td) (he:PE X e ty) (hf:PE X f tx) (m:M2 X o "setdefault" apos e f cpos):PE X (.Call (.Attribute o "setdefault" apos) [e,f] [] cpos) (Znq td ty tx):=by
 intro pins s σ H Q I h;refine wpAny_Call_method m.base m.few m.line NN NP PySem.F.type_dict_setdefault (Zq (ho pins s σ H _ I h) fun u s1 ⟨x,H1,I1,rx,a,ex,d,q1⟩=>?_);subst ex;obtain rfl:u=Value.ref a:=rx;obtain ⟨t1,t2,_⟩:=Zgy I1 d;refine ⟨t1,t2,?_⟩;rw [m.trees]
 refine Np rfl (Gp (Rt (Zq (he pins s1 σ H1 _ I1 q1) fun iv s2 ⟨y,H2,I2,ry,q2⟩ =>
  Rt (Zq (hf pins s2 σ H2 _ I2 q2) fun fv s3 ⟨z,H3,I3,rz,kvs,k,b,ea,ey,eb,hl,q3,q4⟩=>Gm ?_))))
 subst ey;obtain rfl:iv=Value.ref b:=ry;exact Zoy hu I3 ea eb hl rz (fun v w' s4 l rw' I4=>⟨v,H3,I4,rw',q3 v l⟩) fun s4 l I4=>⟨z,_,I4,rz,q4 l⟩
end
end L2
namespace L2
open PySem PySem.Spec PyProof.Rows PySem.W
section
variable {prog:Program} {w:World} {A:Around} {E:Value->Shared->Prop} {s:Shared} {T:String} {r d:Addr} {n:Nat} {P:Nat->Value->Prop} {OK:Heap->Prop}
theorem Zkj {Q:List Value->Shared->Prop} (K:KdlSrc prog w T r d n P OK) (hh:A.handled=none) (hok:OK s.heap) (hn:n≤sizeLine)
  (h:∀h1 tk (acc:Array Value),(∀b o,s.heap.get? b=some o->h1.get? b=some o)->s.heap.objs.size≤h1.objs.size->ItemsOf P acc n->Q acc.toList { s with heap:=h1,toks:=tk }) :
  wpAny (model prog w) A (collect (.ref r)) Q E s:=by
 have hlt:=K.there _ hok;unfold collect;refine Qd (wpAny_runValue (RV NA ?_));show wpAny _ _ (do again (.builtin "list.__iadd__" ⟨[←newList [],.ref r],[]⟩)) _ _ s;refine Qd (Ge (Qf ⟨GS _ (by trivial),RV entry_list_iadd' ?_⟩));show wpAny _ _ (Builtin.List.listExtendWith (.ref s.heap.objs.size) (.ref r) (.ref s.heap.objs.size)) _ _ { s with heap:=s.heap.push (seqObj "list" #[] 0) };have hS:(s.heap.push (seqObj "list" #[] 0)).get? s.heap.objs.size=some { cls:=.type "list",data:=.seq #[] 0 }:=Qw _ rfl;rw [Around.under_plainId (by trivial)]
 refine kdl_extend (R:=fun r s'=>match r with
  |.ok (.ret v)=>wpAny (model prog w) A (match v with
   |.ref a=>do match (←load a).data with
    |.seq xs _=>pure xs.toList
    |_=>unsupported "internal:collect"
   |_=>unsupported "internal:collect") Q E s'
  |.ok _=>False
  |.error e=>E e s') (A:=A) (s:={ s with heap:=s.heap.push (seqObj "list" #[] 0) }) K hh (K.keep _ _ hok fun b _ o e=>Qk _ e) s.heap.objs.size (Rs hlt.1) (Rs hlt.2) (.ref s.heap.objs.size) 0 hS (fun h' tk acc c hk hS' hacc=>?_) hn
 refine Qd (wpAny_load hS' ?_);exact Qf (h h' tk acc (fun b o e=>hk b o (QA (Qi e)) (Qk _ e)) (QO (Qi hS')) hacc)
theorem Zkq {x:Value} {ss:List Str} {Q:Value->Shared->Prop} (h64:ss.length<64)
  (hc:∀(A':Around) (Q':List Value->Shared->Prop),A'.handled=A.handled->(∀vs h1 tk,StrsAre vs ss->(∀b o,s.heap.get? b=some o->h1.get? b=some o)->s.heap.objs.size≤h1.objs.size->Q' vs { s with heap:=h1,toks:=tk })->wpAny (model prog w) A' (collect x) Q' E s)
  (h:∀h' tk a e (out:Array Value) (ss':List Str),(∀b o,s.heap.get? b=some o->h'.get? b=some o)->s.heap.objs.size≤a->h'.get? a=some (seqObj "list" out e)->StrsAre out.toList ss'->ss'.Perm ss->sortedS ss'=true->Q (.ref a) { s with heap:=h',toks:=tk }) :
  wpAny (model prog w) A (call (.builtin "sorted") [x]) Q E s:=by
 refine NB kind_sorted plain_sorted entry_sorted (args_sorted1 _) ?_;unfold Builtin.«sorted»;refine Qd (m:=checkCount "sorted" 1 1 _) (Qf ?_);refine Qd (hc _ _ rfl fun vs h1 tk hS k1 z1=>?_);refine Qd (Ge ?_);have hvl:vs.length<64:=by rw [←hS.strs,Qc] at h64;exact h64
 have hoL:(h1.push (seqObj "list" vs.toArray 0)).get? h1.objs.size=some (seqObj "list" vs.toArray 0):=Qw _ rfl;show wpAny _ _ _ _ _ { s with heap:=h1.push (seqObj "list" vs.toArray 0),toks:=tk };refine Qd (Rm (RC slot_list_sort ⟨_,hoL,rfl⟩ entry_list_sort (list_sort_treeK strKind_oneLt hoL hS.keysOf (fun v₁ v₂ rest e=>keyKind_strs (by rw [←e];exact hS)) hvl fun st' a1 a2=>⟨_,rfl,?_⟩) (args_list_sort _)));obtain ⟨ss',b1,b2,b3⟩:=sorted_out_str hS a1 a2;obtain ⟨e,he⟩:=sortedHeap_at (out:=(arrOf st').map (·.2)) hoL;refine Qf ⟨_,rfl,h _ tk _ e _ ss' (fun b o q=>?_) z1 he b1 b2 b3⟩;have q1:=k1 _ _ q;have lt:b<h1.objs.size:=Qi q1;rw [sortedHeap_old (QA lt) (by rw [size_push'];exact Ga lt)];exact Qk _ q1
end
section
variable {X:Cx}
theorem ZnJ {P:Program} {w:World} {x:Str} {v:Value} (h:(Yp P w).is (.inr x) v=true):∃t,v=.str x t:=by
 rcases Wp (show VL (.inr x) v=true from h) with ⟨i,t,e,_⟩|⟨y,t,e,e2⟩
 ·cases e
 ·cases e;exact ⟨t,e2⟩
theorem Zgt:∀{vs:List Value} {ss:List Str},vs.length=ss.length->(∀(i:Nat) (v:Value),vs[i]?=some v->∃x t,ss[i]?=some x∧v=.str x t)->StrsAre vs ss
 |[],[],_,_=>.nil
 |v::vs,x::ss,hl,h=>by
  obtain ⟨y,t,e,rfl⟩:=h 0 v rfl;cases (show some x=some y from e)
  exact .cons x t (Zgt (by simpa using hl) fun i u hu=>by
   obtain ⟨z,t',e1,e2⟩:=h (i+1) u (by simpa using hu);exact ⟨z,t',by simpa using e1,e2⟩)
theorem ZeO (hc:X.calm=true):Y4 X (.builtin "sorted") (fun xs H Q=>∃(l:Addr) (zs:List (Str×V)),xs=[.ref l]∧H l=some (.dK (zs.map fun p=>(.inr p.1,p.2)))∧zs.length<64∧∀D zs',H D=none->zs'.Perm (zs.map (·.1))->sortedS zs'=true->Q (.ref D) (Zc H D (.lst (zs'.map V.str)))):=by
 intro pins s σ H xs us Q I r h;obtain ⟨l,zs,rfl,hq,hl,q⟩:=h;obtain ⟨u,rfl,ru⟩:=Xv r;cases (show u=Value.ref l from ru);obtain ⟨z,hd,vs,rel,dd⟩:=Zaz I.hok hq;obtain ⟨ep,da⟩:=dd.dictAt;have hlen:vs.length=zs.length:=by rw [←rel.length,Qc]
 have keyAt:∀(i:Nat) (k:Zl) (x:Value),vs[i]?=some (k,x)->∃z,(zs.map (·.1))[i]?=some z∧k=.inr z:=by
  have go:∀{ys:List (Str×V)} {ws:List (Zl×Value)},KV (ys.map fun p=>((.inr p.1:Zl),p.2)) ws->∀(i:Nat) (k:Zl) (x:Value),ws[i]?=some (k,x)->∃z,(ys.map (·.1))[i]?=some z∧k=.inr z:=by
   intro ys
   induction ys with
   |nil=>intro ws r i k x e;cases r;cases e
   |cons y ys ih =>
    intro ws r i k x e;cases r with
    |cons h t =>
     cases i with
     |zero =>
      rw [Ny] at e;cases e;exact ⟨y.1,rfl,h.1.symm⟩
     |succ i =>
      rw [GT] at e;obtain ⟨z,e1,e2⟩:=ih t i k x e;exact ⟨z,by simpa using e1,e2⟩
  exact go rel
 have col:∀(acc:Array Value),ItemsOf (fun i v=>∃k x,vs[i]?=some (k,x)∧(Yp X.prog X.w).is k v=true) acc vs.length->StrsAre acc.toList (zs.map (·.1)):=by
  intro acc hacc;refine Zgt (by rw [Qc,←hlen,R3];exact hacc.1) fun i v e=>?_;obtain ⟨k,x,e1,e2⟩:=hacc.2 i v (by rw [←Array.getElem?_toList];exact e);obtain ⟨z,e3,rfl⟩:=keyAt i k x e1;obtain ⟨t,rfl⟩:=ZnJ e2;exact ⟨z,t,e3,rfl⟩
 refine Zkq (ss:=zs.map (·.1)) (by rw [Qc];exact hl) (fun A' Q' hA q'=>Zkj (kdl_dict hd) (by rw [hA];exact I.ok.hd hc) da (by rw [hlen];exact QO (ZF (by omega))) fun h1 tk acc k1 z1 hacc=>q' _ h1 tk (col acc hacc) k1 z1) fun h' tk a e out zs' k1 z1 he so hp hs=>?_;have hl2:zs'.length=zs.length:=by rw [hp.length_eq,Qc]
 exact ⟨.ref _,_,I.laid (t':=tk) (o:=.lst (zs'.map V.str)) k1 z1 (show ObjOk X.prog X.w _ _ _ (.lst (zs'.map V.str)) from ⟨by rw [Qc];exact QO (ZF (by omega)),out.toList,e,ZaY so,he⟩),rfl,q _ zs' (I.hok.fresh z1) hp hs⟩
end
end L2
namespace L2
open PySem PySem.Spec PyProof.Rows
variable {f:Addr} {X:Cx} {st:Stmt} {qual:Str} {K:W.Frag}
theorem Zgb (val:Nat->Int):∀k:Nat,argBest (fun i j=>decide (val i > val j)) k≤k∧∀i,i≤k->val i≤val (argBest (fun i j=>decide (val i > val j)) k)
 |0=>⟨Qe _,fun i hi=>by cases (show i=0 by omega);exact GY _⟩
 |k+1=>by
  obtain ⟨h1,h2⟩:=Zgb val k;show (if decide (val (k+1) > val (argBest _ k))=true then k+1 else argBest _ k)≤k+1∧∀i,i≤k+1->val i≤val (if decide (val (k+1) > val (argBest _ k))=true then k+1 else argBest _ k);by_cases h:val (k+1) > val (argBest (fun i j=>decide (val i > val j)) k)
  ·rw [Qb (Qu h)];refine ⟨Qe _,fun i hi=>?_⟩;by_cases e:i=k+1
   ·subst e;exact GY _
   ·have:=h2 i (by omega);omega
  ·rw [Qa (by rw [Qr h];decide)];refine ⟨by omega,fun i hi=>?_⟩;by_cases e:i=k+1
   ·subst e;omega
   ·exact h2 i (by omega)
theorem Zik:∀{us:List Value} {is:List Int},Vals (is.map V.int) us->∃ps:List (Int×Tok),us=ps.map (fun p=>Value.int p.1 p.2)∧ps.map (·.1)=is
 |us,[],r=>by cases r;exact ⟨[],rfl,rfl⟩
 |us,i::is,r=>by
  cases r with
  |cons h t =>
   obtain ⟨tk,rfl⟩:=h;obtain ⟨ps,rfl,e⟩:=Zik t;exact ⟨(i,tk)::ps,rfl,by rw [Qx,e]⟩
theorem Zhg (K:W.Frag) (hc:X.calm=true) (hK:X.K=K:=by rfl):Y4 X (.builtin "max") (fun xs H Q=>∃(l:Addr) (is:List Int),xs=[.ref l]∧SqL K H l (is.map V.int)∧is≠[]∧∀m,m∈is->(∀x∈is,x≤m)->Q (.int m) H):=by
 subst hK;intro pins s σ H xs us Q I r h;obtain ⟨l,is,rfl,hq,hne,q⟩:=h;obtain ⟨u,rfl,ru⟩:=Xv r;cases (show u=Value.ref l from ru);obtain ⟨its,rv,pl,hz⟩:=I.list hq;obtain ⟨ps,rfl,rfl⟩:=Zik rv
 have hl:s.heap.IsList l (intItems ps.toArray):=by
  have:=pl.isList
  rwa [show (ps.map fun p=>Value.int p.1 p.2).toArray=intItems ps.toArray by simp [intItems]] at this
 have hpos:0<ps.length:=List.length_pos_iff.mpr (fun e=>hne (by rw [e];rfl));refine max_intList (I.ok.hd hc) hl (by simpa using hpos) fun v h' tk e k=>?_;obtain ⟨b1,b2⟩:=Zgb (numAt ps.toArray) (ps.toArray.size-1);obtain ⟨t,rfl⟩:=intItems_at e;generalize argBest (fun i j=>decide (numAt ps.toArray i > numAt ps.toArray j)) (ps.toArray.size-1)=n at *;have hn:n<ps.length:=by rw [Qz] at b1;omega
 have val:∀i (hi:i<ps.length),numAt ps.toArray i=(ps[i]).1:=fun i hi=>by simp [numAt,hi]
 refine ⟨.int (numAt ps.toArray n),H,I.kept k,⟨t,rfl⟩,q _ ?_ fun x hx=>?_⟩
 ·rw [val n hn];exact Qg.mpr ⟨ps[n],Gf _,rfl⟩
 ·obtain ⟨p,hp,rfl⟩:=Qg.mp hx;obtain ⟨i,hi,rfl⟩:=List.getElem_of_mem hp;rw [←val i hi];exact b2 i (by rw [Qz];omega)
section
variable {pins:List (Addr×Obj)} {σ:St} {H H':Hp} {s:Shared} {d:Addr} {kvs:List (Zl×V)} {o:Obj}
theorem Inv.thaw (I:Inv X pins σ H s) (e:H d=some (.frz o (.dK kvs))) (n:∀o u,X.H₀ d≠some (.frz o u)):Inv X pins σ (Zc H d (.dK kvs)) s:=by
 have ne:∀b,H b=none->b≠d:=fun b z q=>by subst q;rw [e] at z;cases z
 refine ⟨I.ok,I.os,I.bare,⟨I.base.keep,I.base.slot,fun b q h1 h2 h3=>?_,I.base.there,fun b xs h1=>?_,fun b q u h1=>?_,fun b ps h1=>?_⟩,I.loc,I.cell,?_,fun x c h1=>?_,fun p hp=>?_,fun b u h1=>?_,I.len⟩
 ·have:=I.base.free b q h1 h2 h3;rw [Zd (ne b this)];exact this
 ·have:=I.base.tups b xs h1;rw [Zd (fun z=>by subst z;rw [e] at this;cases this)];exact this
 ·have:=I.base.frzs b q u h1;rw [Zd (fun z=>by subst z;exact n _ _ h1)];exact this
 ·obtain ⟨more,this⟩:=I.base.tbls b ps h1;exact ⟨more,by rw [Zd (fun z=>by subst z;rw [e] at this;cases this)];exact this⟩
 ·rw [Zd (ne _ I.free)];exact I.free
 ·have:=I.freeC x c h1;rw [Zd (ne _ this)];exact this
 ·obtain ⟨a1,a2,a3⟩:=I.pin p hp;exact ⟨a1,by rw [Zd (ne _ a2)];exact a2,a3⟩
 ·by_cases z:b=d
  ·subst z;rw [Zg] at h1;cases h1;exact (show ObjOk X.prog X.w _ _ _ (.dK kvs) from (I.hok b _ e).2)
  ·rw [Zd z] at h1;refine (I.hok b u h1).stay (fun c v hc q=>q) (fun c q=>?_) fun c xs q=>?_
   ·rw [Zd (fun z=>by subst z;rw [e] at q;cases q)];exact q
   ·rw [Zd (fun z=>by subst z;rw [e] at q;cases q)];exact q
end
theorem ZiD:∀{kvs:List (Zl×V)} {vs:List (Zl×Value)},KV kvs vs->∀(i:Nat) (p:Zl×V),kvs[i]?=some p->∃x,vs[i]?=some (p.1,x)
 |[],_,r,i,p,e=>by cases e
 |q::kvs,_,r,i,p,e=>by
  cases r with
  |@cons _ y _ _ h t =>
   cases i with
   |zero =>
    cases (show some q=some p from e);exact ⟨y.2,by rw [Ny,h.1]⟩
   |succ i =>
    rw [GT] at e;obtain ⟨x,hx⟩:=ZiD t i p e;exact ⟨x,by rw [GT];exact hx⟩
theorem ZmH {k:Zl} {v:Value} (h:VL k v=true):RelV (kV k) v:=by
 rcases Wp h with ⟨i,t,rfl,rfl⟩|⟨x,t,rfl,rfl⟩
 ·exact ⟨t,rfl⟩
 ·exact ⟨t,rfl⟩
noncomputable def Itd (d:Addr) (o:Obj) (kvs:List (Zl×V)):It where
 go:=fun i H=>H d=some (.frz o (.dK kvs))∧i<kvs.length
 stop:=fun i H=>H d=some (.frz o (.dK kvs))∧kvs.length≤i
 yld:=fun i H x H'=>H'=H∧(kvs[i]?.map fun p=>kV p.1)=some x
theorem Zm7 {P:Program} {w:World} {tg:Expr} (d it:Addr) (o:Obj) (kvs:List (Zl×V)) (es:Array DictEntry) (ep:Nat) (ho:o.data=.dict es ep):Turn P w K tg (Itd d o kvs) [it] it (fun i h=>h.IsKeyIter it d i kvs.length ep) where
 mem:=by simp
 obj:=fun i h st b hb=>by
  have e:b=it:=by simpa using hb
  subst e;obtain ⟨o,e,c,d⟩:=st;exact ⟨o,e,fun v z=>by rw [d] at z;cases z⟩
 keep:=fun i h h' st k=>st.at fun o e=>k it (by simp) o e
 item:=by
  intro X hP hw hK hc i pins s σ H E I hf st hg;subst hP hw hK;obtain ⟨hq,hi⟩:=hg;obtain ⟨g1,g2⟩:=(show s.heap.get? d=some o∧ObjOk X.prog X.w H s.heap d (.dK kvs) from I.hok d _ hq);obtain ⟨z,hd,vs,rel,dd⟩:=(show kvs.length≤sizeLine∧(d==sysModules)=false∧∃vs,KV kvs vs∧s.heap.DictOf (Yp X.prog X.w) d vs from g2);obtain ⟨o2,es2,ep2,b1,b2,b3,b4⟩:=dd;rw [g1] at b1;cases b1;rw [ho] at b3;cases b3;have da:s.heap.DictAt (Yp X.prog X.w) d vs ep:=⟨o,es,g1,b2,ho,b4⟩;have hlen:vs.length=kvs.length:=rel.length.symm;obtain ⟨x,hx⟩:=ZiD rel i kvs[i] (Qs hi);obtain ⟨f0,f1,f2,f3,f4,f5⟩:=hf it (by simp);rw [←hlen] at st;refine wpAny_pyNext_dict_item st da hx fun key h' hkey st' sb=>?_;have I1:Inv X pins σ H { s with heap:=h' }:=I.turned (t':=s.toks) (fun b o hb e=>(sb.2 b hb).trans e) f0 f1 f3 f4 f5;rw [hlen] at st';obtain ⟨o3,e3,c3,d3⟩:=id st';exact ⟨key,rfl,Zbi (s:={ s with heap:=h' }) e3 c3 d3 (by decide) ⟨kV kvs[i].1,H,I1,ZmH hkey,⟨rfl,by rw [Qs hi];rfl⟩,st',fun b hb=>(hf b hb).1⟩⟩
 done:=by
  intro X hP hw hK hc i pins s σ H E I hf st hg;subst hP hw hK;obtain ⟨hq,hi⟩:=hg;obtain ⟨g1,g2⟩:=(show s.heap.get? d=some o∧ObjOk X.prog X.w H s.heap d (.dK kvs) from I.hok d _ hq);obtain ⟨z,hd,vs,rel,dd⟩:=(show kvs.length≤sizeLine∧(d==sysModules)=false∧∃vs,KV kvs vs∧s.heap.DictOf (Yp X.prog X.w) d vs from g2);obtain ⟨o2,es2,ep2,b1,b2,b3,b4⟩:=dd;rw [g1] at b1;cases b1;rw [ho] at b3;cases b3;have da:s.heap.DictAt (Yp X.prog X.w) d vs ep:=⟨o,es,g1,b2,ho,b4⟩;have hlen:vs.length=kvs.length:=rel.length.symm;obtain ⟨f0,f1,f2,f3,f4,f5⟩:=hf it (by simp);rw [←hlen] at st;exact wpAny_pyNext_dict_end (I.ok.hd hc) st da (RY (by omega)) fun h' eb=>⟨rfl,I.turned (t':=s.toks) (fun b o hb e=>eb b o hb e) f0 f1 f3 f4 f5⟩
 self:=fun _ _ _ _ _ st h=>wpAny_pyIter_keyiter st h
def Zmw (tl:TE):TI:=fun σ H R=>tl σ H fun x H1=>∃a kvs,x=.ref a∧H1 a=some (.dK kvs)∧∀o,R (Itd a o kvs) (Zc H1 a (.frz o (.dK kvs)))
theorem Zdr {tg l:Expr} {tl:TE} (hl:PE X l tl):PI X tg l (Zmw tl):=by
 intro pins s σ H R I h;refine Zq (hl pins s σ H _ I h) fun v s1 ⟨x,H1,I1,r1,q1⟩=>?_;obtain ⟨a,kvs,e,ha,q⟩:=q1;subst e;cases r1;obtain ⟨z,hd,vs,rel,dd⟩:=Zaz I1.hok ha;obtain ⟨o,es,ep,b1,b2,b3,b4⟩:=id dd;have da:s1.heap.DictAt (Yp X.prog X.w) a vs ep:=⟨o,es,b1,b2,b3,b4⟩;have hlen:vs.length=kvs.length:=rel.length.symm
 have If:Inv X pins σ (Zc H1 a (.frz o (.dK kvs))) s1 :=
  I1.write (x:=a) (e:=a) (o:=.frz o (.dK kvs)) (h':=s1.heap) (t':=s1.toks) (by rw [ha];exact True.intro) (.inl rfl) (fun b u _ e=>e) ⟨o,b1⟩ ⟨b1,z,hd,vs,rel,dd⟩
 refine wpAny_pyIter_dict hd da ?_;refine ⟨s1.heap.objs.size,[s1.heap.objs.size],_,_,_,rfl,If.kept (t':=s1.toks) fun b o e=>Qk _ e,Zm7 a _ o kvs es ep b3,⟨_,Qw _ rfl,rfl,by rw [hlen];rfl⟩,fun b hb=>?_,q o⟩;have e:b=s1.heap.objs.size:=by simpa using hb
 subst e;exact If.fpOk (Qe _) (If.hok.fresh (Qe _))
def Znm (t:TS):TS:=fun D σ H=>∃d kvs,H d=some (.dK kvs)∧t { nx:=fun σ' H'=>∃o,H' d=some (.frz o (.dK kvs))∧D.nx σ' (Zc H' d (.dK kvs)),rt:=fun _ _=>False } σ H
theorem Zch {t:TS} (hs:PS X st t):PS X st (Znm t):=by
 intro pins s σ H D I h;obtain ⟨d,kvs,hd,h⟩:=h
 have n:∀o u,X.H₀ d≠some (.frz o u):=fun o u z=>by
  have:=I.base.frzs d o u z;rw [hd] at this;cases this
 refine Zq (hs pins s σ H _ I h) fun fl s1 q=>?_;cases fl with
 |next =>
  obtain ⟨σ1,H1,I1,o,e1,q1⟩:=q;exact ⟨σ1,_,I1.thaw e1 n,q1⟩
 |brk=>obtain ⟨σ1,H1,I1,z⟩:=q;exact z.elim
 |cont=>obtain ⟨σ1,H1,I1,z⟩:=q;exact z.elim
 |ret u=>obtain ⟨v,σ1,H1,I1,r,z⟩:=q;exact z.elim
structure FunD (K:W.Frag) (x qual:Str) (st:Stmt) (f:Addr) (fd:FuncData) (dV:Value):Prop where
 ex:∃(oc:Value) (od:Option Addr) (kV doc pm:Value) (an:Option Addr) (cdv ct:Value) (osl:Array (Option Value)),
  fd=W.fnOf x qual (Xn st) (Y3 st) (Zw st) dV kV doc pm an cdv ct∧K.lookup f=some ⟨oc,od,.func fd,osl⟩∧W.codeIn K cdv qual=true
 kp:W.keepIn K (.ref f)=true
theorem FunD.okX {P:Program} {w:World} {mg:Str->Option Value} {base:Heap} {CX:Yv} {x:Str} {fd:FuncData} {dV:Value} {N ps:List Str} {k:Nat} {sp:Sp} (F:FunD K x qual st f fd dV) (S:FnScope N ps (Zw st))
 (len:∀vs H Q E,sp vs H Q E->vs.length=ps.length)
 (hbody:∀(cdv:Value) (A:Around) (outer:List Env) (s:Shared) (H:Hp) (vs:List V) (Q:VK) (E:XK),Room k (A.deeper (envOfC qual (Zw st) s.heap.objs.size f cdv))->sp vs H Q E →
 ∃t,PSs (WM CX P w K mg base N qual (Zw st) f cdv A outer s H E) (Y3 st) t∧t { nx:=fun _ H'=>Q .non H',rt:=Q } (start N vs) H):FnOk P w K mg base CX (k+1) f fd ps sp:=by
 obtain ⟨oc,od,kV,doc,pm,an,cdv,ct,osl,rfl,lk,hcd⟩:=F.ex;exact Zcw lk hcd S len fun A outer s H vs Q E hr hsp=>hbody cdv A outer s H vs Q E hr hsp
theorem ZgX {x:Str} {oc:Value} {od an:Option Addr} {osl:Array (Option Value)} {dV kV doc pm cdv ct:Value} (l:K.lookup f=some ⟨oc,od,.func (W.fnOf x qual (Xn st) (Y3 st) (Zw st) dV kV doc pm an cdv ct),osl⟩)
 (c:W.codeIn K cdv qual=true) (k:W.keepIn K (.ref f)=true):FunD K x qual st f (W.fnOf x qual (Xn st) (Y3 st) (Zw st) dV kV doc pm an cdv ct) dV:=⟨⟨oc,od,kV,doc,pm,an,cdv,ct,osl,rfl,l,c⟩,k⟩
theorem FunD.binds1 {x:Str} {T:Addr} {fd:FuncData} {ps:List Str} {o:Obj} {n:Nat} (F:FunD K x qual st f fd (.ref T)) (ho:K.lookup T=some o) (hs:o.data=.seq #[.none] n)
 (h:∀(kV doc pm:Value) (an:Option Addr) (cdv ct:Value) (us:List Value),us.length+1=ps.length->∃k:Option (Array Value)->Sem (List (Str×Value)),
 bindArgs (W.fnOf x qual (Xn st) (Y3 st) (Zw st) (.ref T) kV doc pm an cdv ct) ⟨us,[]⟩=seqItems? (.ref T) >>= k∧k (some #[.none])=pure (ps.zip (us++[.none]))):Binds K fd ps [.none]:=by
 obtain ⟨oc,od,kV,doc,pm,an,cdv,ct,osl,rfl,lk,hcd⟩:=F.ex;intro s us hin hl;rw [Qq] at hl;obtain ⟨k,h1,h2⟩:=h kV doc pm an cdv ct us hl;exact W.binds_K hin rfl ho hs h1 h2
section
variable {body suite:List Stmt} {b₀:Stmt} {x n:Str} {C:Addr} {np hpos pos:Pos} {bmB:List Value} {newId:String} {i:Nat} {tb:XS->TS} {ts:TS}
end
end L2
namespace SA
open PySem PyProof.Rows
variable {A:Around} {O:KeyOrd} {M:Model} {s:Shared} {E:Value->Shared->Prop}
section
variable {key:Keyed->O.α} {D:Keyed->Prop} {kd:SortKind}
end
section
variable {key:Keyed->O.α} {D:Keyed->Prop} {kd:SortKind}
end
section
variable {key:Keyed->O.α} {D:Keyed->Prop} {kd:SortKind}
end
section
variable {key:Keyed->O.α}
end
section
variable {key:Keyed->O.α} {D:Keyed->Prop} {kd:SortKind}
end
section
variable {key:Keyed->O.α} {D:Keyed->Prop} {kd:SortKind}
end
section
variable {key:Keyed->O.α} {D:Keyed->Prop} {kd:SortKind} {d:O.α}
end
section
variable {key:Keyed->O.α} {D:Keyed->Prop} {kd:SortKind} {d:O.α}
end
section
variable {key:Keyed->O.α} {D:Keyed->Prop} {kd:SortKind} {d:O.α} {a0:List Keyed}
end
section
variable {key:Keyed->O.α} {D:Keyed->Prop} {kd:SortKind} {d:O.α} {a0:List Keyed}
end
end SA
namespace SA
open PySem PyProof.Rows PySem.W
section
variable {prog:Program} {w:World} {A:Around} {E:Value->Shared->Prop} {s:Shared}
end
end SA
namespace L2
open PySem PySem.Spec PyProof.Rows PySem.W
section
variable {prog:Program} {w:World} {A:Around} {E:Value->Shared->Prop} {s:Shared}
end
end L2
namespace L2
open PySem PySem.Spec PyProof.Rows PySem.W SA
variable {X:Cx}
section
variable {prog:Program} {w:World} {A:Around} {E:Value->Shared->Prop} {s:Shared}
end
section
variable {pins:List (Addr×Obj)} {σ:St} {H H':Hp} {s:Shared} {d:Addr} {kvs:List (List Zl×V)} {o:Obj}
end
section
variable {prog:Program} {w:World} {A:Around} {E:Value->Shared->Prop}
end
end L2
namespace L2
open PySem PySem.Spec PyProof.Rows PySem.W
variable {f:Addr} {P:List Value->Prop} {st:Stmt} {K:W.Frag}
noncomputable def ZC (K:W.Frag) (f:Addr):FuncData:=match K.lookup f with
 |some ⟨_,_,.func fd,_⟩=>fd
 |_=>default
structure DefIn (K:W.Frag) (x q:Str) (st:Stmt) (f:Addr):Prop where
 ex:∃(oc:Value) (od:Option Addr) (kV doc pm:Value) (an:Option Addr) (cdv ct:Value) (osl:Array (Option Value)),
  K.lookup f=some ⟨oc,od,.func (fnOf x q (Xn st) (Y3 st) (Zw st) .none kV doc pm an cdv ct),osl⟩∧codeIn K cdv q=true
 kp:keepIn K (.ref f)=true
theorem DefIn.fn {x q:Str} (h:DefIn K x q st f):Fun K x q st f (ZC K f):=by
 obtain ⟨oc,od,kV,doc,pm,an,cdv,ct,osl,lk,hc⟩:=h.ex;have e:ZC K f=fnOf x q (Xn st) (Y3 st) (Zw st) .none kV doc pm an cdv ct:=by unfold ZC;rw [lk]
 rw [e];exact Zn3 lk hc h.kp
def Zgu (x q:Str) (st:Stmt) (ps:List Str):Prop:=∀(kV doc pm:Value) (an:Option Addr) (cdv ct:Value) (us:List Value),us.length=ps.length->bindArgs (fnOf x q (Xn st) (Y3 st) (Zw st) .none kV doc pm an cdv ct) ⟨us,[]⟩=pure (ps.zip us)
structure Df (K:W.Frag) (mg:Str->Option Value) (x:Str) (st:Stmt) (ps:List Str) where
 a:Addr
 F:Fun K x x st a (ZC K a)
 b:Binds K (ZC K a) ps []
 m:mg x=some (.ref a)
structure Dm (K:W.Frag) (C:Addr) (x q:Str) (st:Stmt) (ps:List Str) where
 a:Addr
 F:Fun K x q st a (ZC K a)
 b:Binds K (ZC K a) ps []
 me:Meth K C x a
noncomputable def Df.of {mg:Str->Option Value} {h:Heap} {x:Str} {ps:List Str} (X:K.In h) (G:h.Ns mainGlobals mg) (a:nsIn K mainGlobals x=some (some (.ref f))) (l:DefIn K x x st f) (hb:Zgu x x st ps):Df K mg x st ps:=⟨f,l.fn,l.fn.binds hb,mg_of X G a⟩
noncomputable def Dm.of {C:Addr} {x q:Str} {ps:List Str} (a:findIn K (.ref C) x=some (some (.ref f))) (i:isFn K (.ref f)=true) (l:DefIn K x q st f) (hb:Zgu x q st ps):Dm K C x q st ps:=⟨f,l.fn,l.fn.binds hb,⟨a,i,l.kp⟩⟩
theorem YA (h:∀a,P [a]):∀us,us.length=1->P us
 |[_],_=>h _
theorem YY (h:∀a b,P [a,b]):∀us,us.length=2->P us
 |[_,_],_=>h _ _
theorem Vq (h:∀a b c,P [a,b,c]):∀us,us.length=3->P us
 |[_,_,_],_=>h _ _ _
theorem un4 (h:∀a b c d,P [a,b,c,d]):∀us,us.length=4->P us
 |[_,_,_,_],_=>h _ _ _ _
end L2
namespace TextG
open PySem
end TextG
namespace L2
open PySem PySem.Spec PyProof.Rows PySem.W
section
variable {X:Cx}
end
section
variable {X:Cx} {CX:Yv} {k1 k2 k3:Nat} {f1 C1 f2 C2 f3 C3:Addr} {fd1 fd2 fd3:FuncData} {ps1 ps2 ps3:List Str} {sp1 sp2 sp3:Sp} {E:XS} {m:Str} {pos apos:Pos} {o:Expr} {ta:TE}
end
end L2
namespace L2
open PySem PySem.Spec PyProof.Rows
variable {A:Around} {X:Cx} {H:Hp} {N:List Str} {prog:Program} {s:Shared} {E:Value->Shared->Prop}
section
variable {w:World} {R:Result->Shared->Prop}
end
section
variable {pins:List (Addr×Obj)} {σ:St} {sc:Scope} {cl:List (Str×Addr)} {σc:St->St} {fp:List Addr}
end
section
variable {elt tg iter:Expr} {ifs:List Expr} {sc:Scope} {pos:Pos} {cl:List (Str×Addr)} {σc:St->St} {wi:TI} {g:TG} {tt:TT} {te:TE}
end
section
variable {M:Model}
end
section
variable {pins:List (Addr×Obj)} {σ:St} {H':Hp} {s':Shared} {e:Addr} {cls:Value}
end
section
variable {P:Program} {w:World} {K:W.Frag} {mg:Str->Option Value} {base:Heap} {qual:Str} {scope:Scope} {f:Addr} {cd:Value} {outer:List Env} {E:XK}
end
section
variable {w:World}
end
section
variable {w:World} {κ:Type} [DecidableEq κ] {knd:KeyKind prog w κ}
end
section
variable {w:World}
end
section
variable {pos:Pos}
variable {i o value:Expr} {ty td tv:TE} {pos':Pos}
end
end L2
namespace L2
open PySem PySem.Spec PyProof.Rows PySem.W
section
variable {X:Cx} {o i l tg:Expr} {pos:Pos} {td ty tl:TE} {K:W.Frag} {w:World} {a:Addr} {kvs:List (Zl×V)}
theorem Zhd (d:KDict K w a kvs) (hi:PE X i ty) (ho:PE X o td) (hK:X.K=K:=by rfl) (hw:X.w=w:=by rfl):PC X .In i o (fun σ H Q=>ty σ H fun y H1=>td σ H1 fun x H2=>x=.ref a∧∃k,y=kV k∧Q (.bl (ZH kvs k).isSome) H2):=by
 subst hK hw;intro pins s σ H Q I h;refine Zq (hi pins s σ H _ I h) fun iv s1 ⟨y,H1,I1,ry,q1⟩=>Zq (ho pins s1 σ H1 _ I1 q1) fun u s2 ⟨x,H2,I2,rx,ex,k,ey,q2⟩=>?_;subst ex ey;obtain rfl:u=Value.ref a:=rx;obtain ⟨vs,rel,dd⟩:=d.dict (P:=X.prog) I2.kIn;refine wpAny_in_of (Wc ry) d.1 dd.mapOf ?_;rw [←(rel.val k).isSome_eq];exact ⟨.bl _,H2,I2.tok _,rfl,q2⟩
theorem Zbz (d:KDict K w a kvs) (ho:PE X o td) (hi:PE X i ty) (hs:Zeb i) (hK:X.K=K:=by rfl) (hw:X.w=w:=by rfl):PE X (.Subscript o i pos) (fun σ H Q=>td σ H fun x H1=>ty σ H1 fun y H2=>x=.ref a∧∃k v,y=kV k∧ZH kvs k=some v∧Q v H2):=by
 subst hK hw;intro pins s σ H Q I h;refine Zf4 NL.lookup hs (Zq (ho pins s σ H _ I h) fun u s1 ⟨x,H1,I1,rx,q1⟩=>Zq (hi pins s1 σ H1 _ I1 q1) fun iv s2 ⟨y,H2,I2,ry,ex,k,v,ey,l,q2⟩=>?_);subst ex ey;obtain rfl:u=Value.ref a:=rx;obtain ⟨vs,rel,dd⟩:=d.dict (P:=X.prog) I2.kIn;refine ⟨dd.typeIs,?_⟩;obtain ⟨w',hw,rw'⟩:=RelO.some_of (v:=v) (o:=valueAt vs k) (by rw [←l];exact rel.val k);exact wpAny_getItem_of (Wc ry) dd.mapOf hw ⟨v,H2,I2.tok _,rw',q2⟩
end
section
variable {X:Cx}
end
end L2
namespace L2
open PySem PySem.Spec PyProof.Rows PySem.W PySem.SeqAt
variable {P a:Addr} {h:Heap} {H H':Hp} {co ln:Nat} {q:Str}
section
variable {prog:Program} {w:World} {A:Around} {E:Value->Shared->Prop} {s:Shared}
end
noncomputable def YX (ln co:Nat):Option Addr->Array Value
 |none=>#[]
 |some c'=>#[rawInt ln,rawInt co,.ref c']
noncomputable def Xi (P:Addr) (ln co:Nat) (oc:Option Addr):HO:=.ext fun h=>h.get? P=some (tabObj (YX ln co oc))
noncomputable def VO (c':Addr) (q:Str):HO:=.ext fun h=>h.CodeRec (.ref c') q
def LamH (P:Addr) (ln co:Nat) (q:Str) (H:Hp):Prop:=∃oc,H P=some (Xi P ln co oc)∧∀c',oc=some c'->H c'=some (VO c' q)
noncomputable def noX:HO->Bool
 |.ext _=>false
 |_=>true
def SameX (H H':Hp):Prop:=∀b u,noX u=true->H b=some u->H' b=some u
theorem Same.x (s:Same H H'):SameX H H':=fun b u _ e=>s b u e
theorem SameX.trans {H1 H2:Hp} (a:SameX H H1) (b:SameX H1 H2):SameX H H2:=fun c u n e=>b c u n (a c u n e)
theorem SameX.refl (H:Hp):SameX H H:=fun _ _ _ e=>e
theorem LamH.same (h:LamH P ln co q H) (s:Same H H'):LamH P ln co q H':=by
 obtain ⟨oc,h1,h2⟩:=h;exact ⟨oc,s _ _ h1,fun c' e=>s _ _ (h2 c' e)⟩
theorem SameX.sql {K:W.Frag} {xs:List V} (s:SameX H H') (h:SqL K H a xs):SqL K H' a xs:=by
 rcases h with (h|⟨o,h⟩)|h
 ·exact .inl (.inl (s _ _ rfl h))
 ·exact .inl (.inr ⟨o,s _ _ rfl h⟩)
 ·exact .inr h
theorem SameX.sqt {K:W.Frag} {xs:List V} (s:SameX H H') (h:SqT K H a xs):SqT K H' a xs:=by
 rcases h with (h|⟨o,h⟩)|h
 ·exact .inl (.inl (s _ _ rfl h))
 ·exact .inl (.inr ⟨o,s _ _ rfl h⟩)
 ·exact .inr h
structure LamB (base:Heap) (c P:Addr) (mg:Str->Option Value):Prop where
 hd:CodeHd base c P
 bm:∃bm ob,mg "__builtins__"=some (.ref bm)∧bm≠builtinsNs∧base.get? bm=some ob∧ob.cls=.type "module"∧ob.dict=some builtinsNs∧ob.data=.plain
section
variable {X:Cx} {pins:List (Addr×Obj)} {σ:St} {s:Shared} {h':Heap}
theorem ZdO {oc:Option Addr} {pr:Program} {w:World} (e:h.get? P=some (tabObj (YX ln co oc))):ObjOk pr w H h P (Xi P ln co oc) :=
 ⟨e,⟨_,e⟩,fun h1 h2 p k=>k _ p⟩
theorem Zlp {c':Addr} {pr:Program} {w:World} (e:h.CodeRec (.ref c') q):ObjOk pr w H h c' (VO c' q):=by
 refine ⟨e,?_,fun h1 h2 p k=>?_⟩
 ·obtain ⟨c,oc,vs,t,e1,e2,_⟩:=e;cases e1;exact ⟨_,e2⟩
 ·obtain ⟨c,oc,vs,t,e1,e2,e3⟩:=p;cases e1;exact ⟨_,oc,vs,t,rfl,k _ e2,e3⟩
theorem Inv.grow {c':Addr} {t':Nat} (I:Inv X pins σ H s) (hP:H P=some (Xi P ln co none)) (hx:Heap.ExtBut P s.heap h') (hc:s.heap.objs.size≤c') (hr:h'.CodeRec (.ref c') q)
 (ht:h'.get? P=some (tabObj #[rawInt ln,rawInt co,.ref c'])):Inv X pins σ (Zc (Zc H P (Xi P ln co (some c'))) c' (VO c' q)) { s with heap:=h',toks:=t' }:=by
 have nP:∀b u,H b=some u->(∀φ,u≠.ext φ)->b≠P:=fun b u e n z=>by subst z;rw [hP] at e;exact n _ (Qj e).symm
 have nc:∀b u,H b=some u->b≠c':=fun b u e z=>by subst z;exact absurd (Qm (I.hok.lt e) hc) (QD _)
 have ns:∀b o,s.heap.get? b=some o->b≠c':=fun b o e z=>by subst z;exact absurd (Qm (Qi e) hc) (QD _)
 have n0:∀b,H b=none->b≠P:=fun b e z=>by subst z;rw [hP] at e;cases e
 refine I.un ⟨fun b o e n _ _=>hx b o (n0 b n) e,fun b o e n _ _=>⟨o.slots,hx b o (n0 b n) e⟩,fun b o e n _=>?_,fun b o e _=>?_,fun b xs e=>?_,fun b o u e=>?_,fun b ps e=>?_⟩ fun b u e=>?_
 ·rw [Zd (ns b o e),Zd (n0 b n)];exact n
 ·by_cases z:b=P
  ·subst z;exact ⟨_,ht⟩
  ·exact ⟨o,hx b o z e⟩
 ·rw [Zd (nc b _ e),Zd (nP b _ e fun φ z=>by cases z)];exact e
 ·rw [Zd (nc b _ e),Zd (nP b _ e fun φ z=>by cases z)];exact e
 ·exact ⟨#[],by rw [Zd (nc b _ e),Zd (nP b _ e fun φ z=>by cases z),e];simp⟩
 ·by_cases z:b=c'
  ·subst z;rw [Zg] at e;cases e;exact Zlp hr
  rw [Zd z] at e;by_cases y:b=P
  ·subst y;rw [Zg] at e;cases e;exact ZdO (oc:=some c') ht
  rw [Zd y] at e;refine (I.hok b u e).stay (fun d v hd r=>hx d v ?_ r) (fun d r=>?_) fun d xs r=>?_
  ·rcases hd with rfl|hd
   ·exact y
   ·exact nP d _ hd fun φ z=>by cases z
  ·rw [Zd (nc d _ r),Zd (nP d _ r fun φ z=>by cases z)];exact r
  ·rw [Zd (nc d _ r),Zd (nP d _ r fun φ z=>by cases z)];exact r
end
theorem ObjOk.has {P:Program} {w:World} {o:HO} (x:ObjOk P w H h a o):∃ob,h.get? a=some ob:=by
 cases o with
 |lst xs=>obtain ⟨_,_,_,_,e⟩:=x;exact ⟨_,e⟩
 |tup xs=>obtain ⟨_,_,_,_,e,_⟩:=x;exact ⟨_,e⟩
 |dK kvs=>obtain ⟨_,_,_,_,o,_,_,e,_⟩:=x;exact ⟨_,e⟩
 |dT kvs=>obtain ⟨_,_,_,_,o,_,_,e,_⟩:=x;exact ⟨_,e⟩
 |set S n=>obtain ⟨o,_,_,_,e,_⟩:=x;exact ⟨_,e⟩
 |ins C dx fs=>obtain ⟨_,_,_,e,_⟩:=x;exact ⟨_,e⟩
 |own y=>exact x
 |xd fs=>obtain ⟨_,⟨_,_,_,e,_⟩,_⟩:=x;exact ⟨_,e⟩
 |rng lo hi=>obtain ⟨_,_,_,e⟩:=x;exact ⟨_,e⟩
 |frz ob u=>obtain ⟨e,_⟩:=x;exact ⟨_,e⟩
 |tbl ps=>exact ⟨_,(show h.get? a=some _ from x)⟩
 |met f y=>exact ⟨_,(show h.get? a=some _ from x)⟩
 |ext φ=>obtain ⟨_,e,_⟩:=x;exact e
section
variable {X:Cx} {e:Expr} {te:TE} {p pos kp lpos p1 p2 p3 p4:Pos} {x o:Str} {params:Arguments} {scope:Scope} {c cc:Addr} {i:Nat}
end
end L2
namespace L2
open PySem PySem.Spec PyProof.Rows PySem.W
def Zew (K:W.Frag) (f c:Addr):Prop:=∃oc od fd osl,K.lookup f=some ⟨oc,od,.func fd,osl⟩∧fd.code=.ref c
theorem Fun.okL {P:Program} {w:World} {K:W.Frag} {mg:Str->Option Value} {base:Heap} {CX:Yv} {x qual:Str} {st:Stmt} {f c:Addr} {fd:FuncData} {N ps:List Str} {k:Nat} {sp:Sp} (hc:Zew K f c) (F:Fun K x qual st f fd) (S:FnScope N ps (Zw st))
  (len:∀vs H Q E,sp vs H Q E->vs.length=ps.length)
  (hbody:∀(A:Around) (outer:List Env) (s:Shared) (H:Hp) (vs:List V) (Q:VK) (E:XK),Room k (A.deeper (envOfC qual (Zw st) s.heap.objs.size f (.ref c)))->sp vs H Q E →
   ∃t,PSs (WM CX P w K mg base N qual (Zw st) f (.ref c) A outer s H E) (Y3 st) t∧t { nx:=fun _ H'=>Q .non H',rt:=Q } (start N vs) H):FnOk P w K mg base CX (k+1) f fd ps sp:=by
 obtain ⟨oc,od,kV,doc,pm,an,cdv,ct,osl,rfl,lk,hcd⟩:=F.ex;obtain ⟨oc2,od2,fd2,osl2,lk2,e⟩:=hc;rw [lk] at lk2;cases lk2;have e2:cdv=.ref c:=e;subst e2;exact Zcw lk hcd S len fun A outer s H vs Q E hr hsp=>hbody A outer s H vs Q E hr hsp
theorem Zhe {K:W.Frag} {nm:Str} {f cc tb:Addr} {oc oc2:Value} {od od2:Option Addr} {sl sl2:Array (Option Value)} {fd:FuncData} {vs:Array Value} (a:nsIn K mainGlobals nm=some (some (.ref f))) (l:K.lookup f=some ⟨oc,od,.func fd,sl⟩) (e:fd.code=.ref cc)
  (lc:K.lookup cc=some ⟨oc2,od2,.fields vs,sl2⟩) (v:vs[11]?=some (.ref tb)):tabIn K nm=some (cc,tb):=by
 unfold tabIn;rw [a];simp only;rw [l];simp only;rw [e];simp only;rw [lc];simp only;rw [v]
end L2
namespace L2
open PySem PySem.Spec PyProof.Rows
section
variable {X:Cx}
end
section
variable {X:Cx}
theorem Zk6 (K:W.Frag) {o e:Expr} {es:List Expr} {to:TE} {t:TA} {name:Str} {apos cpos:Pos} {T id:String} {r:V->List V->Hp->VK->Prop} (pa:PlainAttrs T) (slot:Slot T name id) (hty:typeOf (.builtin id)=pure (.type "method_descriptor")) (hm:MtR X id r) (ho:PE X o to) (ha:PA X (e::es) t) (hK:X.K=K:=by rfl)
  (hbase:attributeBase o name X.env (eval o X.env)=eval o X.env:=by rfl)
  (hfew:((backTo cpos (starEach (e::es) X.env)).all (fun x=>!x.1)&&(backToKw cpos (keywordEach [] X.env)).all (fun x=>x.1.isSome)
   && decide ((e::es).length+([]:List Keyword).length+(if ([]:List Keyword).isEmpty then 0 else 1)<30))=true:=by rfl)
  (hline:(apos.endLine==cpos.line)=true:=by rfl) (hs:starEach (e::es) X.env=(false,eval e X.env)::starEach es X.env:=by rfl) (hplain:(backTo cpos (starEach es X.env)).any (·.1)=false:=by rfl) :
  PE X (.Call (.Attribute o name apos) (e::es) [] cpos) (tBM K T r to t):=by
 subst hK;exact Xd pa slot hty hm ho ha hbase hfew hline hs hplain
end
end L2
namespace L2
open PySem PySem.Spec PyProof.Rows PySem.W
variable {a b f:Addr} {params:Arguments} {H:Hp} {scope:Scope} {o q:Str} {CX:Yv}
noncomputable abbrev Fz (ob:Obj):HO:=.frz ob (.own 0)
noncomputable abbrev Uv (g o x y:Str) (p0 p1 p2 p3 p4:Pos):Expr:=.Call (.Name g p0) [.Name o p1,.Name x p2,.Name y p3] [] p4
structure LamOk2 (g o x y:Str) (params:Arguments) (scope:Scope) (body:Expr):Prop where
 bind:∀(qual:Str) (cl:List (Str×Addr)) (pm cd ct u v:Value),bindArgs (kla_fn "<lambda>" qual params body scope cl pm cd ct) ⟨[u,v],[]⟩=pure [(x,u),(y,v)]
 lx:scope.names.lookup x=some .local
 ly:scope.names.lookup y=some .local
 fre:scope.names.lookup o=some .free
 gl:scope.names.lookup g=some .globalImplicit
 kind:scope.kind=.function
 co:scope.isCoroutine=false
 gen:scope.isGenerator=false
 cell:∀z∈scope.names,z.2≠.cell
 xy:(x==y)=false
 db:(x==("__debug__" : Str))=false∧(y==("__debug__" : Str))=false∧(o==("__debug__" : Str))=false∧(o==("__classdict__" : Str))=false∧(g==("__debug__" : Str))=false
structure LamA (q:Str) (params:Arguments) (body:Expr) (scope:Scope) (o:Str) (f b:Addr) (H:Hp):Prop where
 ex:∃cc oc pm c' ctv,H f=some (Fz (kla_obj "<lambda>" q params body scope [(o,cc)] pm c' ctv))∧H c'=some (VO c' q)∧H cc=some (Fz oc)∧oc.data=.cell (some (.ref b))
theorem LamA.same {body:Expr} {H':Hp} (h:LamA q params body scope o f b H) (s:Same H H'):LamA q params body scope o f b H':=by
 obtain ⟨cc,oc,pm,c',ctv,h1,h2,h3,h4⟩:=h.ex;exact ⟨cc,oc,pm,c',ctv,s _ _ h1,s _ _ h2,s _ _ h3,h4⟩
theorem ZgA {env:Env} {L:Addr} {st:List Env} (h:env.frame=some L) (hb:b∈Yq (env::st)):b=L∨b∈Yq st:=by
 unfold Yq at hb;rw [Rb,h] at hb;exact Qh.mp hb
theorem Un.back {env:Env} {L:Addr} {st:List Env} {H':Hp} {h h1 h':Heap} (hf:env.frame=some L) (hL:L=h.objs.size) (k:∀b o,h.get? b=some o->h1.get? b=some o) (u:Un (Yq (env::st)) [] H H' h1 h'):Un (Yq st) [] H H' h h' where
 keep:=fun b o e n hb hx=>u.keep b o (k b o e) n (fun z=>by
  rcases ZgA hf z with z|z
  ·rw [z,hL] at e;exact absurd (Qi e) (QD _)
  ·exact hb z) hx
 slot:=fun b o e n hb hx=>by
  by_cases z:b∈Yq (env::st)
  ·exact u.slot b o (k b o e) n z hx
  ·exact ⟨o.slots,u.keep b o (k b o e) n z hx⟩
 free:=fun b o e n hx=>u.free b o (k b o e) n hx
 there:=fun b o e hx=>u.there b o (k b o e) hx
 tups:=u.tups
 frzs:=u.frzs
 tbls:=u.tbls
section
variable {X:Cx}
theorem ZnY {k:Nat} {g x y:Str} {p0 p1 p2 p3 p4:Pos} {fg:Addr} {fdg:FuncData} {psg:List Str} {spg:Sp} {pins:List (Addr×Obj)} {σ:St} {s:Shared} {Q:VK} {u1 u2:Value} {v1 v2:V}
 (ok:LamOk2 g o x y params scope (Uv g o x y p0 p1 p2 p3 p4)) (Fg:FnOk X.prog X.w X.K X.mg X.base CX k fg fdg psg spg) (hb:Binds X.K fdg psg []) (hm:X.mg g=some (.ref fg)) (hk:keepIn X.K (.ref fg)=true) (hr:Room (k+1) X.A) (hCX:∀st H s e s',CX st H s E0 e s'->False)
 (I:Inv X pins σ H s) (r1:RelV v1 u1) (r2:RelV v2 u2) (hL:LamA q params (Uv g o x y p0 p1 p2 p3 p4) scope o f b H) (h:spg [.ref b,v1,v2] H Q E0):wpAny (model X.prog X.w) X.A (call (.ref f) [u1,u2]) (EP X pins σ Q) X.xe s:=by
 obtain ⟨cc,oc,pm,c',ctv,h1,h2,h3,h4⟩:=hL.ex;have hf:s.heap.get? f=some (kla_obj "<lambda>" q params (Uv g o x y p0 p1 p2 p3 p4) scope [(o,cc)] pm c' ctv):=(I.hok f _ h1).1;have hcd:s.heap.CodeRec (.ref c') q:=(I.hok c' _ h2).1;have hcc:s.heap.get? cc=some oc:=(I.hok cc _ h3).1;refine RN ?_;refine kla_callFunE hr.depth hf rfl ok.co ok.gen rfl hcd ?_;rw [ok.bind];refine Qf (Nz ok.cell (fun z hz=>?_) (fun hh hns hsb=>⟨I.nolimit.fresh _ hsb,?_⟩) ok.kind)
 ·have:z=(x,u1)∨z=(y,u2):=by simpa using hz
  rcases this with rfl|rfl
  ·exact ok.lx
  ·exact ok.ly
 have kp:∀b o,s.heap.get? b=some o->hh.get? b=some o:=fun b o e=>hsb.extBut b o (QA (Qi e)) (Qk _ e);show codeAny _ _ (.expr (Uv g o x y p0 p1 p2 p3 p4) (envX q scope s.heap.objs.size f (.ref c') [(o,cc)])) _ _;refine kla_codeExpr ?_
 have kg:(envX q scope s.heap.objs.size f (.ref c') [(o,cc)]).kindOf g=some .globalImplicit:=by
  first|exact ok.gl|(simp only [Env.kindOf];exact ok.gl)
 have ko:(envX q scope s.heap.objs.size f (.ref c') [(o,cc)]).kindOf o=some .free:=by
  first|exact ok.fre|(simp only [Env.kindOf];exact ok.fre)
 have kx:(envX q scope s.heap.objs.size f (.ref c') [(o,cc)]).kindOf x=some .local:=by
  first|exact ok.lx|(simp only [Env.kindOf];exact ok.lx)
 have ky:(envX q scope s.heap.objs.size f (.ref c') [(o,cc)]).kindOf y=some .local:=by
  first|exact ok.ly|(simp only [Env.kindOf];exact ok.ly)
 have hgl:hh.Ns mainGlobals X.mg:=I.mod.glob.keeps fun b o e=>kp b o (I.bk b o e)
 have lk1:([(x,u1),(y,u2)]:List (Str×Value)).reverse.lookup x=some u1:=by
  show ([(y,u2),(x,u1)]:List (Str×Value)).lookup x=some u1;rw [GW,ok.xy];simp
 have lk2:([(x,u1),(y,u2)]:List (Str×Value)).reverse.lookup y=some u2:=by
  show ([(y,u2),(x,u1)]:List (Str×Value)).lookup y=some u2;rw [GW];simp
 refine Ro (Nf ok.kind kg (Calls.loadGlobal_global hgl hm ?_) ok.db.2.2.2.2);refine Gr (h₀:=X.base) I.ok.mod.kin hk ?_ rfl rfl;show wpAny _ _ (spliced ((false,eval (.Name o p1) (envX q scope s.heap.objs.size f (.ref c') [(o,cc)]))::(false,eval (.Name x p2) (envX q scope s.heap.objs.size f (.ref c') [(o,cc)]))::[(false,eval (.Name y p3) (envX q scope s.heap.objs.size f (.ref c') [(o,cc)]))])) _ _ _;refine Rt (Ry (Nd ok.kind ko (by simp) ⟨oc,kp _ _ hcc,h4⟩ ?_ ok.db.2.2.2.1) ok.db.2.2.1);refine Rt (Ry (GF (v:=u1) ok.kind kx hns lk1 ?_) ok.db.1);refine Rt (Ry (GF (v:=u2) ok.kind ky hns lk2 (Gm ?_)) ok.db.2.1);have fr:(envX q scope s.heap.objs.size f (.ref c') [(o,cc)]).frame=some s.heap.objs.size:=rfl
 have e0:Env0 X.prog X.w X.K X.mg X.base (X.A.deeper (envX q scope s.heap.objs.size f (.ref c') [(o,cc)])) (envX q scope s.heap.objs.size f (.ref c') [(o,cc)]::X.stack) { s with heap:=hh,toks:=s.toks+[(x,u1),(y,u2)].length } H:=by
  have sz:s.heap.objs.size≤hh.objs.size:=QO hns.lt;refine ⟨Around.frames_deeper I.ok.frames,I.ok.mod,fun b o e=>⟨kp b o (I.bs b o e).1,(I.bs b o e).2⟩,Qn (Qn I.ok.bsz I.sz) sz,?_,fun b hb=>?_,I.hok.kept kp,I.bare⟩
  ·refine Heap.FunFrames.cons (by show scope.kind≠_;rw [ok.kind];decide) fr hns (Nc (Qn I.ok.bsz I.sz)) ?_;exact I.stack.of_keeps fun b o e _=>⟨o,kp b o e,rfl⟩
  ·rcases ZgA fr hb with z|z
   ·rw [z];exact I.hok.fresh (Qe _)
   ·exact I.stkFree b z
 refine ⟨I.ok.mod.kin.keeps fun b o e=>kp b o (I.bk b o e),RN (RO (Fg.run _ _ _ H ⟨[.ref b,u1,u2],[]⟩ ([.ref b,u1,u2]++[]) [.ref b,v1,v2] Q E0 (hr.deeper _) e0 (hb _ _ (I.ok.mod.kin.keeps fun b o e=>kp b o (I.bk b o e)) (by rw [←Fg.len _ _ _ _ h];rfl)) (.cons rfl (.cons r1 (.cons r2 .nil))) h) fun r s' hq=>?_)⟩;cases r with
 |error e=>exact (hCX _ _ _ _ _ hq).elim
 |ok fl =>
  cases fl with
  |ret u =>
   obtain ⟨v,H',os,bare,un,hok,r,q⟩:=hq;exact I.after ⟨v,H',os,bare,un.back fr rfl kp,hok,r,q⟩
  |next=>exact False.elim hq
  |brk=>exact False.elim hq
  |cont=>exact False.elim hq
def ZkE (q:Str) (params:Arguments) (body:Expr) (scope:Scope) (o:Str) (spg:Sp) (i:Nat) (t:TA):TE:=fun σ H Q=>∃f,σ[i]?=some (some (.ref f))∧t σ H fun vs H1=>∃v1 v2 b,vs=[v1,v2]∧LamA q params body scope o f b H1∧spg [.ref b,v1,v2] H1 Q E0
theorem ZnA {k i:Nat} {g x y nm:Str} {p0 p1 p2 p3 p4 p pos:Pos} {fg:Addr} {fdg:FuncData} {psg:List Str} {spg:Sp} {e1 e2:Expr} {t:TA}
 (ok:LamOk2 g o x y params scope (Uv g o x y p0 p1 p2 p3 p4)) (Fg:FnOk X.prog X.w X.K X.mg X.base CX k fg fdg psg spg) (hb:Binds X.K fdg psg []) (hm:X.mg g=some (.ref fg)) (hk:keepIn X.K (.ref fg)=true) (hr:Room (k+1) X.A) (hCX:∀st H s e s',CX st H s E0 e s'->False)
 (hN:X.N[i]?=some nm) (hv:JF X.env.scope nm) (ha:PA X [e1,e2] t) (hd:(nm==("__debug__": Str))=false:=by decide) (hcd:(nm==("__classdict__": Str))=false:=by decide)
 (he:starEach [e1,e2] X.env=(false,eval e1 X.env)::starEach [e2] X.env:=by rfl) (hpl:(backTo pos (starEach [e2] X.env)).any (·.1)=false:=by rfl) :
  PE X (.Call (.Name nm p) [e1,e2] [] pos) (ZkE q params (Uv g o x y p0 p1 p2 p3 p4) scope o spg i t):=by
 intro pins s σ H Q I h;obtain ⟨f,hσ,h⟩:=h;refine Ro (Zq (Zdk hN hv hd hcd pins s σ H (fun v H'=>v=.ref f∧H'=H) I ⟨_,hσ,rfl,rfl⟩) fun u s1 ⟨v,H1,I1,r1,e2,e3⟩=>?_);subst e2 e3;cases (show u=Value.ref f from r1);have hA:=ha pos pins s1 σ H1 _ I1 h;rw [he] at hA ⊢;refine callWith_of (P:=fun hh=>∃fd:FuncData,hh.get? f=some { cls:=.type "function",data:=.func fd }) (by show ((false||(backTo pos (starEach [e2] X.env)).any (·.1))||false)=false;rw [hpl];rfl) (fun hh ⟨fd,e⟩=>⟨.frame,.inl rfl,(Looks.ld (part:=none) e).andThen .now⟩) (Gp (Zq hA fun us s2 ⟨vs,H2,I2,r2,q2⟩=>?_));obtain ⟨v1,v2,b,rfl,hL,hsp⟩:=q2;obtain ⟨u1,u2,rfl,ra,rb⟩:=JL r2;refine ⟨?_,ZnY ok Fg hb hm hk hr hCX I2 ra rb hL hsp⟩;obtain ⟨cc,oc,pm,c',ctv,h1,_⟩:=hL.ex;exact ⟨_,(I2.hok f _ h1).1⟩
theorem Zf9 {P:Program} {w:World} {h:Heap} {ob:Obj} (e:h.get? a=some ob):ObjOk P w H h a (Fz ob):=⟨e,ob,e⟩
noncomputable def Uk (H:Hp) (a:Addr):Hp:=fun b=>if b=a then none else H b
theorem WZ (h:b≠a):Uk H a b=H b:=Qa h
theorem Zid:Uk H a a=none:=Qb rfl
def Zn5 (sp:Sp) (i:Nat) (cc:Addr) (t:TA):TE:=fun σ H Q=>t σ H fun vs H1=>∃b,σ[i]?=some (some (.ref b))∧∀oc:Obj,H1 cc=none->oc.data=.cell (some (.ref b))->sp vs (Zc H1 cc (Fz oc)) (fun v H2=>Q v (Uk H2 cc)) E0
theorem Zje {k i:Nat} {x:Str} {cc:Addr} {fd:FuncData} {ps:List Str} {sp:Sp} {p pos:Pos} {e:Expr} {es:List Expr} {t:TA} (F:FnOk X.prog X.w X.K X.mg X.base CX k f fd ps sp) (hr:Room k X.A) (hg:Gl X x) (hm:X.mg x=some (.ref f)) (hk:W.keepIn X.K (.ref f)=true) (hb:Binds X.K fd ps []) (hCX:∀st H s e s',CX st H s E0 e s'->False)
 (hN:X.N[i]?=some o) (hck:X.env.kindOf o=some .cell) (hvis:X.env.scope.names.lookup o=some .cell) (hcc:X.env.cells.lookup o=some cc) (hfn:X.fn o=true)
 (ha:PA X (e::es) t) (hdb:(x==("__debug__": Str))=false:=by decide) (he:starEach (e::es) X.env=(false,eval e X.env)::starEach es X.env:=by rfl) (hpl:(backTo pos (starEach es X.env)).any (·.1)=false:=by rfl) :
  PE X (.Call (.Name x p) (e::es) [] pos) (Zn5 sp i cc t):=by
 intro pins s σ H Q I h;refine Ro (Zaf I hg hm ?_ hdb);refine Gr (h₀:=X.base) I.ok.mod.kin hk (Zq (ha pos pins s σ H _ I h) fun us s1 ⟨vs,H1,I1,r,b,hσ,q⟩=>⟨I1.kIn,?_⟩) he hpl;obtain ⟨m,hn,hl2⟩:=I1.loc;obtain ⟨u,ru,lk⟩:=hl2 i o (.ref b) hN hσ (.inr (.inl hvis));cases (show u=Value.ref b from ru)
 have hcell:s1.heap.IsCell cc (some (.ref b)):=by
  rcases lk with ⟨z,_⟩|⟨_,c2,e2,e3⟩
  ·rw [hck] at z;cases z
  ·rw [hcc] at e2;cases e2;exact e3
 obtain ⟨oc,hoc,hdc⟩:=hcell;have hno:H1 cc=none:=I1.freeC o cc hcc;have hsp:=q oc hno hdc;have e0:=I1.env0;have hL:(us++[]).length=ps.length:=by rw [Qt,←r.length];exact F.len _ _ _ _ hsp
 have nstk:cc∉Yq X.stack:=fun hb=>by
  rcases Qh.mp (I1.stkSub cc hb) with z|z
  ·exact I1.cne o cc hcc z
  ·obtain ⟨_,o1,ho,_⟩:=I1.ok.funs.mem z;exact absurd (Qm (Qi ho) (I1.ok.cab o cc hfn hcc)) (QD _)
 have e1:Env0 X.prog X.w X.K X.mg X.base X.A X.stack s1 (Zc H1 cc (Fz oc)):=by
  refine ⟨e0.frames,e0.mod,fun d o' e=>⟨(e0.bs d o' e).1,?_⟩,e0.bsz,e0.funs,fun d hd=>?_,fun d u' e=>?_,e0.bare⟩
  ·have:d≠cc:=fun z=>by
    subst z;exact absurd (Qm (Qi (I1.ok.bs _ _ e).1) (I1.ok.cab o _ hfn hcc)) (QD _)
   rw [Zd this];exact (e0.bs d o' e).2
  ·have nd:d≠cc:=fun z=>nstk (by rw [←z];exact hd);rw [Zd nd];exact e0.frf d hd
  ·by_cases z:d=cc
   ·subst z;rw [Zg] at e;cases e;exact Zf9 hoc
   ·rw [Zd z] at e;refine (I1.hok d u' e).stay (fun _ _ _ r=>r) (fun d' r=>?_) fun d' xs r=>?_
    ·rw [Zd (ZA r hno)];exact r
    ·rw [Zd (ZA r hno)];exact r
 refine RN (RO (F.run X.A X.stack s1 _ ⟨us,[]⟩ (us++[]) vs _ E0 hr e1 (hb s1 us I1.kIn hL) (by rw [Qt];exact r) hsp) fun rr s' hq=>?_);cases rr with
 |error e=>exact (hCX _ _ _ _ _ hq).elim
 |ok fl =>
  cases fl with
  |ret u =>
   obtain ⟨v,H',os,bare,un,hok,r,q⟩:=hq;have hz:H' cc=some (Fz oc):=un.frzs cc oc _ Zg;have hoc':s'.heap.get? cc=some oc:=(hok cc _ hz).1;refine I1.after ⟨v,Uk H' cc,os,bare,?_,?_,r,q⟩
   ·refine ⟨fun d o' e n hb hx=>?_,fun d o' e n hb hx=>?_,fun d o' e n hx=>?_,fun d o' e hx=>un.there d o' e hx,fun d xs e=>?_,fun d o' u' e=>?_,fun d ps e=>?_⟩
    ·by_cases z:d=cc
     ·subst z;rw [hoc] at e;cases e;exact hoc'
     ·exact un.keep d o' e (by rw [Zd z];exact n) hb hx
    ·by_cases z:d=cc
     ·subst z;rw [hoc] at e;cases e;exact ⟨oc.slots,hoc'⟩
     ·exact un.slot d o' e (by rw [Zd z];exact n) hb hx
    ·by_cases z:d=cc
     ·subst z;exact Zid
     ·rw [WZ z];exact un.free d o' e (by rw [Zd z];exact n) hx
    ·have z:=ZA e hno;rw [WZ z];exact un.tups d xs (by rw [Zd z];exact e)
    ·have z:=ZA e hno;rw [WZ z];exact un.frzs d o' u' (by rw [Zd z];exact e)
    ·have z:=ZA e hno;obtain ⟨more,e2⟩:=un.tbls d ps (by rw [Zd z];exact e);exact ⟨more,by rw [WZ z];exact e2⟩
   ·intro d u' e;by_cases z:d=cc
    ·subst z;rw [Zid] at e;cases e
    ·rw [WZ z] at e;refine (hok d u' e).stay (fun _ _ _ r=>r) (fun d' r=>?_) fun d' xs r=>?_
     ·rw [WZ fun y=>by subst y;rw [hz] at r;cases r];exact r
     ·rw [WZ fun y=>by subst y;rw [hz] at r;cases r];exact r
  |next=>exact False.elim hq
  |brk=>exact False.elim hq
  |cont=>exact False.elim hq
end
end L2
namespace L2
open PySem PySem.Spec PyProof.Rows PySem.W SA
section
variable {prog:Program} {w:World} {A:Around} {E:Value->Shared->Prop} {s:Shared}
end
section
variable {prog:Program} {w:World} {A:Around} {E:Value->Shared->Prop} {s:Shared}
end
theorem ZhQ {d:Addr} {o:Obj} {kvs:List (Zl×V)} {g:TG} {tb:TS} {D:Ends} {σ:St} {H:Hp} (Pv:Nat->St->Hp->Prop) (h0:Pv 0 σ H) (hl:∀i σ H,i≤kvs.length->Pv i σ H->H d=some (.frz o (.dK kvs)))
  (hs:∀i p σ H,kvs[i]?=some p->Pv i σ H->g (kV p.1) σ H fun σ2 H2=>tb { D with nx:=Pv (i+1),ct:=Pv (i+1),bk:=D.nx } σ2 H2) (hd:∀σ H,Pv kvs.length σ H->D.nx σ H) :
  ∃W:Nat->Nat->St->Hp->Prop,(∃m,W 0 m σ H)∧∀i m σ H,W i m σ H →
   ((Itd d o kvs).stop i H∧D.nx σ H)∨((Itd d o kvs).go i H∧∃N:St->Hp->Prop,(∀σ' H',N σ' H'->∃m',m'<m∧W (i+1) m' σ' H')∧∀x H',(Itd d o kvs).yld i H x H'->g x σ H' fun σ2 H2=>tb { D with nx:=N,ct:=N,bk:=D.nx } σ2 H2):=by
 refine ⟨fun i m σ H=>m=kvs.length-i∧i≤kvs.length∧Pv i σ H,⟨kvs.length,by simp,QV _,h0⟩,?_⟩;rintro i m σ H ⟨rfl,hi,p⟩;have q:=hl i σ H hi p;by_cases hlt:i<kvs.length
 ·refine .inr ⟨⟨q,hlt⟩,Pv (i+1),fun σ' H' p'=>⟨kvs.length-(i+1),by omega,rfl,hlt,p'⟩,fun x H' y=>?_⟩;obtain ⟨rfl,y⟩:=y;rw [Qs hlt] at y;cases (show kV kvs[i].1=x from Qj y);exact hs i kvs[i] σ _ (Qs hlt) p
 ·have e:i=kvs.length:=by omega
  subst e;exact .inl ⟨⟨q,Qe _⟩,hd σ H p⟩
end L2
namespace L2
open PySem PySem.Spec PyProof.Rows
variable {X:Cx} {e:Expr}
section
variable {CX:Yv} {k n:Nat} {x:Str} {st:Stmt} {ps:List Str} {sp:Sp} {p pos:Pos} {es:List Expr} {t:TA} {E:St->XK}
end
section
variable {tg:Expr}
end
section
variable {CX:Yv} {k1 k2 k3:Nat} {f1 C1 f2 C2 f3 C3:Addr} {fd1 fd2 fd3:FuncData} {ps1 ps2 ps3:List Str} {sp1 sp2 sp3:Sp} {E:XS} {m:Str} {pos apos:Pos} {o:Expr} {es:List Expr} {ta:TE} {t:TA}
end
section
variable {prog:Program} {w:World} {A:Around} {E:Value->Shared->Prop} {s:Shared}
end
section
variable {A:Around} {s:Shared}
end
section
variable {o f:Expr} {apos cpos:Pos} {td ty tx:TE}
end
end L2
namespace L2
open PySem PySem.Spec PyProof.Rows PySem.W PySem.SeqAt
variable {L P a cc:Addr} {params:Arguments} {A:Around} {X:Cx} {H:Hp} {co ln n:Nat} {scope:Scope} {s:Shared} {o q:Str} {E Q:Value->Shared->Prop}
theorem Zku {oc:Option Addr}:Xi P ln co oc≠VO P q:=fun z=>by
 unfold Xi VO at z;have e:=congrFun (HO.ext.inj z) { (default:Heap) with objs:=Array.replicate (P+1) (tabObj (YX ln co oc)) }
 have g:({ (default:Heap) with objs:=Array.replicate (P+1) (tabObj (YX ln co oc)) }:Heap).get? P=some (tabObj (YX ln co oc)):=by
  unfold Heap.get?;rw [show (Array.replicate (P+1) (tabObj (YX ln co oc)))[P]?=some (tabObj (YX ln co oc)) by rw [Array.getElem?_replicate,Qb (Q5 P)]]
 obtain ⟨c,o2,vs,t,e1,e2,e3⟩:=e▸g;cases e1;rw [g] at e2;cases e2;obtain ⟨e4,e5⟩:=e3;cases e4;cases oc with
 |none=>cases (show (none:Option Value)=some (.str q t) from e5)
 |some c'=>cases (show some (rawInt co)=some (Value.str q t) from e5)
def Lams (P:Addr) (H H':Hp):Prop:=∀P2 ln co q,P2≠P->LamH P2 ln co q H->LamH P2 ln co q H'
theorem Lams.refl (P:Addr) (H:Hp):Lams P H H:=fun _ _ _ _ _ h=>h
theorem Lams.trans {H1 H2:Hp} (a:Lams P H H1) (b:Lams P H1 H2):Lams P H H2:=fun P2 ln co q n h=>b P2 ln co q n (a P2 ln co q n h)
theorem Same.lams {H':Hp} (s:Same H H') (P:Addr):Lams P H H':=fun _ _ _ _ _ h=>h.same s
theorem Lams.same {H1 H2:Hp} (a:Lams P H H1) (s:Same H1 H2):Lams P H H2:=a.trans (s.lams P)
theorem Lams.of {H':Hp} (h:LamH P ln co q H) (b:∀b u,b≠P->H b=some u->H' b=some u):Lams P H H':=fun P2 ln2 co2 q2 n h2=>by
 obtain ⟨oc,h1,_⟩:=h;obtain ⟨oc2,h3,h4⟩:=h2;refine ⟨oc2,b _ _ n h3,fun c' e=>b _ _ (fun z=>?_) (h4 c' e)⟩;have:=h4 c' e;rw [z,h1] at this;exact Zku (Qj this)
def Zou (P:Addr) (ln co:Nat) (q:Str) (params:Arguments) (body:Expr) (scope:Scope) (o:Str) (cc:Addr):TE:=fun σ H Q=>LamH P ln co q H∧∀H2 f pm c' ctv,SameX H H2->Lams P H H2->LamH P ln co q H2->H f=none->H2 f=some (Fz (kla_obj "<lambda>" q params body scope [(o,cc)] pm c' ctv))->H2 c'=some (VO c' q)->(∀D,H2 D=none->H D=none)->Q (.ref f) H2
theorem Zkz {c:Addr} {body:Expr} {lpos:Pos} (B:LamB X.base c P X.mg) (hcode:X.env.code=.ref c) (hcl:closureFor scope X.env=pure [(o,cc)]) (hq:X.env.qual++"<lambda>"=q) (hdef:defaultsOf params X.env=([],[])) :
  PE X (.Lambda params body scope lpos) (Zou P lpos.line lpos.col q params body scope o cc):=by
 intro pins s σ H Q I h;obtain ⟨lam,h⟩:=h;refine kla_eval hdef ?_;rw [hq];have hgl:s.heap.Ns mainGlobals X.mg:=I.mod.glob.keeps I.bk;obtain ⟨bm,ob,b1,b2,b3,b4,b5,b6⟩:=B.bm;obtain ⟨oc,hP,hC⟩:=lam;have tabP:s.heap.get? P=some (tabObj (YX lpos.line lpos.col oc)):=(I.hok P _ hP).1
 have hgP:mainGlobals≠P:=fun z=>by
  obtain ⟨o1,es,ep,e1,hd,_⟩:=hgl;rw [z,tabP] at e1;cases e1;cases hd
 have hbP:bm≠P:=fun z=>by
  have e1:=I.bk _ _ b3;rw [z,tabP] at e1;cases e1;cases b4
 have hbG:bm≠mainGlobals:=fun z=>by
  obtain ⟨o1,es,ep,e1,hd,_⟩:=hgl;have e2:=I.bk _ _ b3;rw [z,e1] at e2;cases e2;rw [hd] at b6;cases b6
 have hBA:s.heap.BuiltinsAt X.mg P:=⟨bm,ob,b1,b2,hbG,hbP,I.bk _ _ b3,b4,b5,b6⟩;have CH:CodeHd s.heap c P:=B.hd.keeps I.bk
 have fin : ∀(h3 : Heap) (tk : Nat) (H2 : Hp) (c' : Addr) (ctv : Value), Inv X pins σ H2 { s with heap := h3, toks := tk } → H2 c'=some (VO c' q) → SameX H H2 → Lams P H H2 → LamH P lpos.line lpos.col q H2 → (∀D, H2 D=none → H D=none) →
   EP X pins σ Q (.ref h3.objs.size) { s with heap:=h3.push (kla_obj "<lambda>" q params body scope [(o,cc)] ((X.mg "__name__").getD .none) c' ctv),toks:=tk }:=by
  intro h3 tk H2 c' ctv I3 hc' sx ls lm fr;have nf:H2 h3.objs.size=none:=I3.hok.fresh (Qe _);have I4:=I3.laid (t':=tk) (h':=h3.push (kla_obj "<lambda>" q params body scope [(o,cc)] ((X.mg "__name__").getD .none) c' ctv)) (a:=h3.objs.size) (o:=Fz (kla_obj "<lambda>" q params body scope [(o,cc)] ((X.mg "__name__").getD .none) c' ctv)) (fun b o e=>Qk _ e) (Qe _) (Zf9 (Qw _ rfl));refine ⟨.ref h3.objs.size,_,I4,rfl,h _ h3.objs.size _ c' ctv (sx.trans (Zj nf).x) (ls.same (Zj nf)) (lm.same (Zj nf)) (fr _ nf) Zg ?_ fun D hD=>?_⟩
  ·rw [Zd (ZA hc' nf)];exact hc'
  ·by_cases z:D=h3.objs.size
   ·rw [z,Zg] at hD;cases hD
   ·rw [Zd z] at hD;exact fr D hD
 cases oc with
 |none =>
  refine kla_makeFunction (mg:=X.mg) hcl I.ok.glob hgl hcode CH tabP True.intro rfl hgP hBA fun c' ctv h' tk hx hge hlt hrec htb=>?_;have I2:=I.grow (t':=tk) hP hx hge hrec (by simpa [YX] using htb);refine fin h' tk _ c' ctv I2 Zg ?_ (Lams.of ⟨none,hP,hC⟩ fun b u n1 e1=>?_) ?_ ?_
  ·intro b u hu e1;have n1:b≠P:=fun z=>by subst z;rw [hP] at e1;cases e1;cases hu
   rw [Zd (fun z=>by subst z;exact absurd (Qm (I.hok.lt e1) hge) (QD _)),Zd n1];exact e1
  ·rw [Zd (fun z=>by subst z;exact absurd (Qm (I.hok.lt e1) hge) (QD _)),Zd n1];exact e1
  ·refine ⟨some c',?_,fun c2 e2=>?_⟩
   ·rw [Zd (fun z=>by subst z;exact absurd (Qm (I.hok.lt hP) hge) (QD _)),Zg]
   ·cases e2;exact Zg
  ·intro D hD;cases r:H D with
   |none=>rfl
   |some u =>
    exfalso;have n2:D≠c':=fun z=>by subst z;exact absurd (Qm (I.hok.lt r) hge) (QD _)
    rw [Zd n2] at hD;by_cases n1:D=P
    ·subst n1;rw [Zg] at hD;cases hD
    ·rw [Zd n1,r] at hD;cases hD
 |some c' =>
  have hc':=hC c' rfl;refine kla_makeFunctionHit (mg:=X.mg) hcl I.ok.glob hgl hcode CH tabP (by simp [YX,TriplesOk,rawInt]) (cv:=.ref c') (by simp [YX,codeAmong,rawInt]) hBA fun ctv h' tk hk hsz=>?_;have I2:=I.kept (t':=tk) hk;exact fin h' tk H c' ctv I2 hc' (SameX.refl _) (Lams.refl _ _) ⟨some c',hP,hC⟩ fun _ z=>z
theorem Zmu {P:Program} {w:World} {K:W.Frag} {mg mb:Str->Option Value} {CX:Yv} {k ln2 co2:Nat} {q2:Str} {fa tb cc2 tb2:Addr} {fd:FuncData} {x:Str} {sp:Sp} {s₁:Shared} {vs:List Value} {ns:List Int}
 (KX:K.In s₁.heap) (hns:s₁.heap.Ns mainGlobals mg) (hb:s₁.heap.Ns builtinsNs mb) (hbb:∀x:Str,x≠"__name__"->mb x=bootBuiltins x) (hlim:s₁.heap.NoLimit) (hg:s₁.gens=#[])
 (ha:s₁.heap.get? a=some { cls:=.type "list",data:=.seq vs.toArray }) (hi:IntsAre vs ns) (hl:ns.length≤sizeLine) (hr:Room k callerA)
 (hC:CodeHd s₁.heap cc tb) (hT:s₁.heap.get? tb=some (tabObj #[])) (hKP:K.lookup tb=none) (hC2:CodeHd s₁.heap cc2 tb2) (hT2:s₁.heap.get? tb2=some (tabObj #[])) (hKP2:K.lookup tb2=none) (tt:tb2≠tb)
 (hbm:∃bm ob,mg "__builtins__"=some (.ref bm)∧bm≠builtinsNs∧s₁.heap.get? bm=some ob∧ob.cls=.type "module"∧ob.dict=some builtinsNs∧ob.data=.plain)
 (F:∀base:Heap,K.In base->base.Ns mainGlobals mg->LamB base cc tb mg->LamB base cc2 tb2 mg->FnOk P w K mg base CX k fa fd [x] sp) (hbind:∀(s:Shared) (u:Value),BindsTo s fd ⟨[u],[]⟩ [(x,u)])
 (hsp:∀H:Hp,LamH tb ln co q H->LamH tb2 ln2 co2 q2 H->SqL K H a (ns.map V.int)->sp [.ref a] H (fun v H'=>v=.bl true∧LamH tb ln co q H'∧LamH tb2 ln2 co2 q2 H') fun _ _ _=>False)
 (hCX:∀H e s',CX [] H s₁ (fun _ _ _=>False) e s'->False) :
  codeAny (model P w) callerA (.call (.ref fa) ⟨[.ref a],[]⟩) (fun r s'=>r=.ok (.ret (.bool true))∧OldK s₁.heap s'.heap∧s'.os=s₁.os∧AllBare s'.gens) s₁:=by
 have rv:=Zdh hi;have lenV:=hi.length
 have core : ∀H : Hp, H tb=some (Xi tb ln co none) → H tb2=some (Xi tb2 ln2 co2 none) → SqL K H a (ns.map V.int) → HOk P w H s₁.heap → (∀b, H b ≠ none → b=tb ∨ b=tb2 ∨ (b=a ∧ ∃o xs, H b=some (.frz o (.lst xs)))) → (H a ≠ none → K.lookup a=none) →
   codeAny (model P w) callerA (.call (.ref fa) ⟨[.ref a],[]⟩) (fun r s'=>r=.ok (.ret (.bool true))∧OldK s₁.heap s'.heap∧s'.os=s₁.os∧AllBare s'.gens) s₁:=by
  intro H hO hO2 hS hok hA hK;have base_of:∀{b:Addr} {o:Obj},s₁.heap.get? b=some o->H b=none->(We s₁.heap H).get? b=some o:=fun e n=>Zlu e n
  have noA:∀{b:Addr} {o:Obj},s₁.heap.get? b=some o->(∀its n,o.data≠.seq its n)->o.cls≠.none->H b=none:=fun {b o} e d hcl=>by
   cases q:H b with
   |none=>rfl
   |some u =>
    rcases hA b (by rw [q];simp) with e'|e'|⟨e',_⟩
    ·subst e';rw [hT] at e;cases e;exact absurd rfl hcl
    ·subst e';rw [hT2] at e;cases e;exact absurd rfl hcl
    ·subst e';rw [ha] at e;cases e;exact absurd rfl (d _ _)
  have noD:∀{b:Addr} {o:Obj} {es:Array DictEntry} {ep:Nat},s₁.heap.get? b=some o->o.data=.dict es ep->H b=none:=fun {b o es ep} e d=>by
   cases q:H b with
   |none=>rfl
   |some u =>
    rcases hA b (by rw [q];simp) with e'|e'|⟨e',_⟩
    ·subst e';rw [hT] at e;cases e;cases d
    ·subst e';rw [hT2] at e;cases e;cases d
    ·subst e';rw [ha] at e;cases e;have d':Data.seq vs.toArray _=Data.dict es ep:=d;cases d'
  have nsK:∀{b:Addr} {m:Str->Option Value},s₁.heap.Ns b m->(We s₁.heap H).Ns b m:=fun {b m} ⟨o,es,ep,e,d,r⟩=>⟨o,es,ep,base_of e (noD e d),d,r⟩
  have hKb:K.In (We s₁.heap H):=fun b o e=>base_of (KX b o e) (by
   cases q:H b with
   |none=>rfl
   |some u =>
    rcases hA b (by rw [q];simp) with e'|e'|⟨e',_⟩
    ·subst e';rw [hKP] at e;cases e
    ·subst e';rw [hKP2] at e;cases e
    ·subst e';rw [hK (by rw [q];simp)] at e;cases e)
  have hM:Mod K mg (We s₁.heap H):=⟨hKb,nsK hns,⟨mb,nsK hb,hbb⟩,let ⟨mc,h1,h2⟩:=hlim;⟨mc,nsK h1,h2⟩⟩
  have hLB:LamB (We s₁.heap H) cc tb mg:=by
   obtain ⟨o,vs',file,tf,flags,tg,inF,text,tt,e1,e2,e3,r⟩:=hC;obtain ⟨bm,ob,b1,b2,b3,b4,b5,b6⟩:=hbm;exact ⟨⟨o,vs',file,tf,flags,tg,inF,text,tt,base_of e1 (noA e1 (fun its n z=>by rw [e3] at z;cases z) (by rw [e2];simp)),e2,e3,r⟩,bm,ob,b1,b2,base_of b3 (noA b3 (fun its n z=>by rw [b6] at z;cases z) (by rw [b4];simp)),b4,b5,b6⟩
  have hLB2:LamB (We s₁.heap H) cc2 tb2 mg:=by
   obtain ⟨o,vs',file,tf,flags,tg,inF,text,tt,e1,e2,e3,r⟩:=hC2;obtain ⟨bm,ob,b1,b2,b3,b4,b5,b6⟩:=hbm;exact ⟨⟨o,vs',file,tf,flags,tg,inF,text,tt,base_of e1 (noA e1 (fun its n z=>by rw [e3] at z;cases z) (by rw [e2];simp)),e2,e3,r⟩,bm,ob,b1,b2,base_of b3 (noA b3 (fun its n z=>by rw [b6] at z;cases z) (by rw [b4];simp)),b4,b5,b6⟩
  have e0:Env0 P w K mg (We s₁.heap H) callerA [] s₁ H:=⟨rfl,hM,fun b o e=>Zk9 e,Nat.le_of_eq (Zln _ _),trivial,fun b hb=>absurd (show b∈([]:List Addr) from hb) (by simp),hok,.of_eq hg⟩;refine RO ((F _ hKb (nsK hns) hLB hLB2).run callerA [] s₁ H ⟨[.ref a],[]⟩ [.ref a] [.ref a] _ _ hr e0 (hbind s₁ (.ref a)) (.cons rfl .nil) (hsp H ⟨none,hO,fun _ z=>by cases z⟩ ⟨none,hO2,fun _ z=>by cases z⟩ hS)) fun r s' h=>?_;cases r with
  |error e=>exact (hCX H e s' h).elim
  |ok fl =>
   cases fl with
   |next=>exact False.elim h
   |brk=>exact False.elim h
   |cont=>exact False.elim h
   |ret u =>
    obtain ⟨v,H',os,bare,un,hok',r',q⟩:=h;obtain ⟨q',⟨oc,lp,_⟩,oc2,lp2,_⟩:=q;subst q';obtain rfl:u=Value.bool true:=r';have tE:s'.heap.get? tb=some (tabObj (YX ln co oc)):=(hok' tb _ lp).1;have tE2:s'.heap.get? tb2=some (tabObj (YX ln2 co2 oc2)):=(hok' tb2 _ lp2).1
    have kept:∀b o,b≠tb->b≠tb2->s₁.heap.get? b=some o->s'.heap.get? b=some o:=fun b o nb nb2 e=>by
     cases q:H b with
     |none=>exact un.keep b o e q (by intro z;exact absurd (show b∈([]:List Addr) from z) (by simp)) (by simp)
     |some u =>
      rcases hA b (by rw [q];simp) with z|z|⟨_,ob,xs,z⟩
      ·exact absurd z nb
      ·exact absurd z nb2
      ·have z2:=un.frzs b ob _ z;obtain ⟨e1,_⟩:=hok b _ z;obtain ⟨e2,_⟩:=hok' b _ z2;rw [e] at e1;cases e1;exact e2
    refine ⟨rfl,⟨fun b o e=>?_,fun b o e=>?_⟩,os,bare⟩
    ·by_cases nb:b=tb
     ·subst nb;rw [hT] at e;cases e;exact .inr (.inl ⟨(hC.tab hT).isCodeTable,rfl,#[],YX ln co oc,rfl,by rw [tE];simp⟩)
     ·by_cases nb2:b=tb2
      ·subst nb2;rw [hT2] at e;cases e;exact .inr (.inl ⟨(hC2.tab hT2).isCodeTable,rfl,#[],YX ln2 co2 oc2,rfl,by rw [tE2];simp⟩)
      ·exact .inl (kept b o nb nb2 e)
    ·by_cases nb:b=tb
     ·subst nb;exact ⟨_,tE⟩
     ·by_cases nb2:b=tb2
      ·subst nb2;exact ⟨_,tE2⟩
      ·exact ⟨o,kept b o nb nb2 e⟩
 have nat:a≠tb:=fun z=>by subst z;rw [ha] at hT;cases hT
 have nat2:a≠tb2:=fun z=>by subst z;rw [ha] at hT2;cases hT2
 have tOk:∀H:Hp,ObjOk P w H s₁.heap tb (Xi tb ln co none):=fun H=>ZdO (oc:=none) hT;have tOk2:∀H:Hp,ObjOk P w H s₁.heap tb2 (Xi tb2 ln2 co2 none):=fun H=>ZdO (oc:=none) hT2
 have ZT : ∀H0 : Hp, (∀b u, H0 b=some u → b ≠ tb → b ≠ tb2 → b=a ∧ u=.frz { cls := .type "list", data := .seq vs.toArray } (.lst (ns.map V.int))) → SqL K (Zc (Zc H0 tb (Xi tb ln co none)) tb2 (Xi tb2 ln2 co2 none)) a (ns.map V.int) → (H0 a ≠ none → K.lookup a=none) →
   codeAny (model P w) callerA (.call (.ref fa) ⟨[.ref a],[]⟩) (fun r s'=>r=.ok (.ret (.bool true))∧OldK s₁.heap s'.heap∧s'.os=s₁.os∧AllBare s'.gens) s₁:=fun H0 h0 hS hK=>by
  have case:∀b u,Zc (Zc H0 tb (Xi tb ln co none)) tb2 (Xi tb2 ln2 co2 none) b=some u->(b=tb∧u=Xi tb ln co none)∨(b=tb2∧u=Xi tb2 ln2 co2 none)∨(b=a∧u=.frz { cls:=.type "list",data:=.seq vs.toArray } (.lst (ns.map V.int))):=fun b u e=>by
   by_cases h2:b=tb2
   ·rw [h2,Zg] at e;cases e;exact .inr (.inl ⟨h2,rfl⟩)
   ·rw [Zd h2] at e;by_cases h1:b=tb
    ·rw [h1,Zg] at e;cases e;exact .inl ⟨h1,rfl⟩
    ·rw [Zd h1] at e;exact .inr (.inr (h0 b u e h1 h2))
  refine core _ (by rw [Zd tt.symm];exact Zg) Zg hS (fun b u z=>?_) (fun b z=>?_) (fun z=>hK (by rw [Zd nat2,Zd nat] at z;exact z))
  ·rcases case b u z with ⟨rfl,rfl⟩|⟨rfl,rfl⟩|⟨rfl,rfl⟩
   ·exact tOk _
   ·exact tOk2 _
   ·exact ⟨ha,by rw [Qc];exact hl,vs,_,rv,ha⟩
  ·obtain ⟨u,hu⟩:=NQ.mp z;rcases case b u hu with ⟨h,_⟩|⟨h,_⟩|⟨h,e⟩
   ·exact .inl h
   ·exact .inr (.inl h)
   ·exact .inr (.inr ⟨h,_,_,by rw [hu,e]⟩)
 cases hk:K.lookup a with
 |some o =>
  have e:=KX a o hk;rw [ha] at e;cases e;exact ZT (fun _=>none) (fun b u z=>by cases z) (.inr ⟨_,vs.toArray,_,hk,rfl,rfl,rfl,by rw [Qz,lenV];exact hl,by simpa using rv⟩) fun z=>absurd rfl z
 |none =>
  refine ZT (fun b=>if b=a then some (.frz { cls:=.type "list",data:=.seq vs.toArray } (.lst (ns.map V.int))) else none) (fun b u z _ _=>?_) (.inl (.inr ⟨{ cls:=.type "list",data:=.seq vs.toArray },by rw [Zd nat2,Zd nat];exact Qb rfl⟩)) fun _=>hk;by_cases hb:b=a
  ·have z':=(Qb hb).symm.trans z;cases z';exact ⟨hb,rfl⟩
  ·have z':=(Qa hb).symm.trans z;cases z'
theorem walk_ofT2 {l:W.OpenLaw} {k ln2 co2:Nat} {qn nm qn2 nm2:Str} {q:Program} {loose:List Str} {XP:(Str->Option Value)->Heap->Prop} {YP:World->Heap->Prop} {d dd dd2:DefRec} {K:Params->W.Frag} {CX:World->Yv} {sp:World->Addr->Addr->Sp} {x:Str}
 (hn:l.most=some n) (hn2:n≤sizeLine) (hdf:d.params.defaults=[]) (hr:Room k callerA) (hrec:(recsOf q).find? (fun e=>e.name==nm)=some dd) (hrec2:(recsOf q).find? (fun e=>e.name==nm2)=some dd2)
 (hY:∀(w:World) (h:Heap),YP w h->(K w.params).In h)
 (F:∀(w:World) (mg:Str->Option Value) (fa:Addr) (h:Heap),(K w.params).In h->h.Ns mainGlobals mg->mg d.name=some (.ref fa) →
 ∃(fd:FuncData) (cc tb cc2 tb2:Addr),tabIn (K w.params) nm=some (cc,tb)∧(K w.params).lookup tb=none∧tabIn (K w.params) nm2=some (cc2,tb2)∧(K w.params).lookup tb2=none∧tb2≠tb∧(∀(s:Shared) (u:Value),BindsTo s fd ⟨[u],[]⟩ [(x,u)]) ∧
 ∀base:Heap,(K w.params).In base->base.Ns mainGlobals mg->LamB base cc tb mg->LamB base cc2 tb2 mg->FnOk l.prog w (K w.params) mg base (CX w) k fa fd [x] (sp w tb tb2))
 (hsp:∀(w:World) (H:Hp) (a tb tb2:Addr) (ns:List Int),ns.length≤n->LamH tb ln co qn H->LamH tb2 ln2 co2 qn2 H->SqL (K w.params) H a (ns.map V.int)->tb2≠tb->sp w tb tb2 [.ref a] H (fun v H'=>v=.bl true∧LamH tb ln co qn H'∧LamH tb2 ln2 co2 qn2 H') fun _ _ _=>False)
 (hCX:∀(w:World) (H:Hp) (s:Shared) (e:Value) (s':Shared),CX w [] H s (fun _ _ _=>False) e s'->False) :
  W.WalkO q loose XP YP l.row.toRowW d [] (fun f vs=>PySem.call f vs):=by
 refine Att.attach_call hn hdf fun w s₀ s₁ mg mb fa o pm cd doc a vs ns G Y ho hd hcd hmg hobj hints hlen hg=>?_;have KX:=hY w _ Y;obtain ⟨fd,cc,tb,cc2,tb2,ht,hK,ht2,hK2,tt,hb,hF⟩:=F w mg fa _ KX G.T.g hmg;obtain ⟨h1,h2⟩:=tab_of G.T KX hrec ht;obtain ⟨h3,h4⟩:=tab_of G.T KX hrec2 ht2;exact Zmu (ln:=ln) (co:=co) (q:=qn) (ln2:=ln2) (co2:=co2) (q2:=qn2) KX G.T.g G.T.b G.T.builtins G.T.nolimit hg hobj hints (Qn hlen hn2) hr h1 h2 hK h3 h4 hK2 tt G.T.bmain hF hb (fun H hO hO2 hS=>hsp w H a tb tb2 ns hlen hO hO2 hS tt) fun H e s'=>hCX w H s₁ e s'
noncomputable abbrev WI (x o f:Str) (p1 p2 p3 p4:Pos):Expr:=.Subscript (.Attribute (.Name o p1) f p2) (.Name x p3) p4
structure LamOkD (x o f:Str) (params:Arguments) (scope:Scope) (p1 p2 p3 p4:Pos):Prop where
 bind:∀(qual:Str) (cl:List (Str×Addr)) (pm cd ct v:Value),bindArgs (kla_fn "<lambda>" qual params (WI x o f p1 p2 p3 p4) scope cl pm cd ct) ⟨[v],[]⟩=pure [(x,v)]
 loc:scope.names.lookup x=some .local
 fre:scope.names.lookup o=some .free
 kind:scope.kind=.function
 co:scope.isCoroutine=false
 gen:scope.isGenerator=false
 cell:∀y∈scope.names,y.2≠.cell
 db:(x==("__debug__" : Str))=false∧(o==("__debug__" : Str))=false∧(o==("__classdict__" : Str))=false
 base:∀(qual:Str) (L f':Addr) (c:Value) (cl:Addr),attributeBase (.Name o p1) f (envX qual scope L f' c [(o,cl)]) (eval (.Name o p1) (envX qual scope L f' c [(o,cl)]))=eval (.Name o p1) (envX qual scope L f' c [(o,cl)])
 sub:ZhJ (.Name x p3)
theorem Zd5:∀{vs:List Value} {ds:List Int},IntsAre vs ds->∀(i:Nat) (d:Int),ds[i]?=some d->∃t,vs[i]?=some (.int d t)
 |_,_,.nil,i,d,e=>by cases e
 |_,_,.cons n t r,0,d,e=>⟨t,by simpa using e⟩
 |_,_,.cons n t r,i+1,d,e=>by
  obtain ⟨t',h⟩:=Zd5 r i d (by simpa using e);exact ⟨t',by simpa using h⟩
section
variable {prog:Program} {w:World}
theorem Znw {K:W.Frag} {x fl qual:Str} {p1 p2 p3 p4:Pos} {f cl dx C c':Addr} {mA:Str->Option Value} {pm ctv:Value} {vs:List Value} {ds:List Int} {d:Int} {t:Tok} {j:Nat} 
 (ok:LamOkD x o fl params scope p1 p2 p3 p4) (hroom:A.depth<recursionLimit) (hlim:s.heap.NoLimit) (KX:K.In s.heap)
 (hf:s.heap.get? f=some (kla_obj "<lambda>" qual params (WI x o fl p1 p2 p3 p4) scope [(o,cl)] pm c' ctv)) (hcd:s.heap.CodeRec (.ref c') qual)
 (hc:s.heap.IsCell cl (some (.ref a))) (O:ObjM s.heap a dx C mA) (cls:Cls K C) (na:NoAttr K C fl) (hv:mA fl=some (.ref L)) (hl:PlainL s.heap L vs.toArray) (hs:IntsAre vs ds) (hd:ds[j]?=some d) (hsz:ds.length≤1000)
 (h:∀h' tk u,(∀b o,s.heap.get? b=some o->h'.get? b=some o)->Q (.int d u) { s with heap:=h',toks:=tk }) :
  wpAny (model prog w) A (call (.ref f) [.int j t]) Q E s:=by
 refine RN ?_;refine kla_callFunE hroom hf rfl ok.co ok.gen rfl hcd ?_;rw [ok.bind];refine Qf (Nz ok.cell (fun z hz=>?_) (fun h₁ hns hsb=>⟨hlim.fresh _ hsb,?_⟩) ok.kind)
 ·have:z=(x,Value.int j t):=by simpa using hz
  subst this;exact ok.loc
 have hk₁:∀b o,s.heap.get? b=some o->h₁.get? b=some o:=fun b o e=>hsb.extBut b o (QA (Qi e)) (Qk _ e);show codeAny _ _ (.expr (WI x o fl p1 p2 p3 p4) (envX qual scope s.heap.objs.size f (.ref c') [(o,cl)])) _ _;refine kla_codeExpr ?_;obtain ⟨oc,hoc,hdc⟩:=hc
 have ko:(envX qual scope s.heap.objs.size f (.ref c') [(o,cl)]).kindOf o=some .free:=by
  first|exact ok.fre|(simp only [Env.kindOf];exact ok.fre)
 have kx:(envX qual scope s.heap.objs.size f (.ref c') [(o,cl)]).kindOf x=some .local:=by
  first|exact ok.loc|(simp only [Env.kindOf];exact ok.loc)
 obtain ⟨t',ht'⟩:=Zd5 hs j d hd;have hjl:j<ds.length:=(QE.mp hd).1;have hvl:=hs.length;refine Subscript_ (Zf5 (ok.base _ _ _ _ _) (Ry (Nd ok.kind ko (by simp) ⟨oc,hk₁ _ _ hoc,hdc⟩ ?_ ok.db.2.2) ok.db.2.1));refine Ziv (K:=K) (mA:=mA) (fun b o e=>hk₁ _ _ (KX b o e)) ⟨hk₁ _ _ O.obj,O.ns.keeps hk₁,O.ne⟩ (cls.get fl) cls.hd na hv rfl ?_;refine Ry (GF (v:=.int j t) ok.kind kx hns (by simp) ?_) ok.db.1;obtain ⟨oo,n,a1,a2,a3,a4⟩:=hl;exact item_listR (items:=vs.toArray) (k:=(j:Int)) (PlainL.isList ⟨oo,n,hk₁ _ _ a1,a2,a3,a4⟩) (by omega) (by omega) (by simpa using ht') (h _ _ _ hk₁) (ok.sub _ _)
end
theorem ZiP {g:Nat->Int}:∀{vs:List Value} {k:Nat},(∀(i:Nat) (v:Value),vs[i]?=some v->∃t,v=.int (g (k+i)) t)->IntsAre vs ((List.range' k vs.length).map g)
 |[],k,_=>.nil
 |v::vs,k,h=>by
  obtain ⟨t,rfl⟩:=h 0 v rfl;exact .cons _ t (ZiP (k:=k+1) fun i u hu=>by rw [show k+1+i=k+(i+1) by omega];exact h (i+1) u (by simpa using hu))
section
variable {prog:Program} {w:World}
theorem ZjI {Q:List Value->Shared->Prop} {r:Addr} {t u v:Tok} (hh:A.handled=none) (hr:IsRange s.heap r 0 n 1 t u v) (hn:n≤1000)
 (h:∀h1 tk (vs:List Value),IntsAre vs ((List.range n).map fun i:Nat=>(i:Int))->(∀b o,s.heap.get? b=some o->h1.get? b=some o)->s.heap.objs.size≤h1.objs.size->Q vs { s with heap:=h1,toks:=tk }) :
  wpAny (model prog w) A (collect (.ref r)) Q E s:=by
 unfold collect;refine Qd (wpAny_runValue (RV NA ?_));show wpAny _ _ (do again (.builtin "list.__iadd__" ⟨[←newList [],.ref r],[]⟩)) _ _ s;refine Qd (Ge (Qf ⟨GS _ (by trivial),RV entry_list_iadd' ?_⟩));show wpAny _ _ (Builtin.List.listExtendWith (.ref s.heap.objs.size) (.ref r) (.ref s.heap.objs.size)) _ _ { s with heap:=s.heap.push (seqObj "list" #[] 0) };have hS:(s.heap.push (seqObj "list" #[] 0)).get? s.heap.objs.size=some { cls:=.type "list",data:=.seq #[] 0 }:=Qw _ rfl;rw [Around.under_plainId (by trivial)]
 refine wpAny_extend_range (R:=fun r s'=>match r with
  |.ok (.ret v)=>wpAny (model prog w) A (match v with
   |.ref a=>do match (←load a).data with
    |.seq xs _=>pure xs.toList
    |_=>unsupported "internal:collect"
   |_=>unsupported "internal:collect") Q E s'
  |.ok _=>False
  |.error e=>E e s') (A:=A) (s:={ s with heap:=s.heap.push (seqObj "list" #[] 0) }) (n:=n) hh (Qk _ hr) (small_one (by omega) (by omega) (by omega) (by omega)) (by rw [rangeSize_one];split<;>omega) (by omega) s.heap.objs.size (.ref s.heap.objs.size) 0 hS (fun h' tk acc c hk hS' hacc=>?_)
 refine Qd (wpAny_load hS' ?_);refine Qf (h h' tk acc.toList ?_ (fun b o e=>hk b o (QA (Qi e)) (Qk _ e)) (QO (Qi hS')));have e:n=acc.toList.length:=by rw [R3];exact hacc.1.symm
 rw [e,List.range_eq_range'];refine ZiP fun i v hv=>?_;obtain ⟨t,ht⟩:=hacc.2 i v (by simpa using hv);exact ⟨t,by rw [ht];simp⟩
variable {h₀:Heap} {m:Str->Option Value} {news:List (Addr×Obj)} {b:Bool}
theorem Zla {kz:List Int} {x f:Value} {kw:List (Str×Value)} {PV:List Value->Prop} (F:Fr h₀ L s.heap m) (N:News h₀ L s.heap news) (hPV:∀vs,PV vs->kz.length=vs.length) (h64:kz.length<64)
 (hc:∀(A':Around) (Q':List Value->Shared->Prop) (E':Value->Shared->Prop),A'.handled=A.handled->(∀vs h1 tk,PV vs->(∀b o,s.heap.get? b=some o->h1.get? b=some o)->s.heap.objs.size≤h1.objs.size->Q' vs { s with heap:=h1,toks:=tk })->wpAny (model prog w) A' (collect x) Q' E' s)
 (ha1:argsOk "sorted" ⟨[x],kw⟩) (ha2:∀x,argsOk "list.sort" ⟨[.ref x],kw⟩) (ht:∀x,Builtin.«list.sort» ⟨[.ref x],kw⟩=ksk_tree x f b)
 (turn:∀(vs:List Value),PV vs->∀(i:Nat) (v:Value) (k:Int),vs[i]?=some v->kz[i]?=some k->∀(h:Heap) (tk:Nat) (own:List (Addr×Obj)),Fr h₀ L h m->News h₀ L h (news++own) →
 wpAny (model prog w) A.in1.in1 (call f [v]) (KskEnd h₀ L m (news++own) k { s with heap:=h,toks:=tk }) (fun _ _=>False) { s with heap:=h,toks:=tk })
 (h:∀vs D h' tk out c,PV vs->Fr h₀ L h' m->News h₀ L h' ((D,seqObj "list" out c)::news)->(∀q∈news,q.1<D)->KskOut b kz vs out.toList->Q (.ref D) { s with heap:=h',toks:=tk }) :
  wpAny (model prog w) A (call (.builtin "sorted") [x] kw) Q E s:=by
 refine call_function_entry_kw kind_sorted plain_sorted entry_sorted ha1 ?_;unfold Builtin.«sorted»;refine Qd (m:=checkCount "sorted" 1 1 _) (Qf ?_);refine Qd (hc _ _ _ rfl fun vs h1 tk pv k1 z1=>?_);have hlen:=hPV vs pv;refine Qd (Ge ?_ (by rw [RM];omega));have hoL:(h1.push (seqObj "list" vs.toArray 0)).get? h1.objs.size=some (seqObj "list" vs.toArray 0):=Qw _ rfl;have keep:∀b o,s.heap.get? b=some o->(h1.push (seqObj "list" vs.toArray 0)).get? b=some o:=fun b o q=>Qk _ (k1 b o q);have hL:L<s.heap.objs.size:=F.ns.lt;show wpAny _ _ _ _ _ { s with heap:=h1.push (seqObj "list" vs.toArray 0),toks:=tk };refine Qd (Rm (wpAny_call_entry_kw slot_list_sort ⟨_,hoL,rfl⟩ entry_list_sort ?body (ha2 _)))
 case body =>
  have ht':=ht h1.objs.size;show wpAny (model prog w) A.in1.in1 (Builtin.«list.sort» ⟨[.ref h1.objs.size],kw⟩) _ _ _;rw [ht']
  refine ksk_sort (s:={ s with heap:=h1.push (seqObj "list" vs.toArray 0),toks:=tk })
   (F.kept keep) (N.grown keep) hoL (Rs (Qm hL z1)) (Nc (Qn F.above (Qn (QO hL) z1)))
   (fun p hp=>QA (Qm (Qi (N p hp).1) z1)) hlen (by omega) (turn vs pv) fun h' tk out c F' N' k'=>⟨_,rfl,?_⟩
  exact Qf ⟨_,rfl,h vs _ h' tk out c pv F' N' (fun q hq=>Qm (Qi (N q hq).1) z1) k'⟩
end
def ZmZ (t:TA):TE:=fun σ H Q=>t σ H fun vs H1=>∃j:Int,vs=[.int j]∧-(2 ^ 62)≤j∧j<2 ^ 62∧∀r,H1 r=none->Q (.ref r) (Zc H1 r (.rng 0 j))
theorem ZlK {a:Expr} {ta:TA} {p pos:Pos} (hg:Gl X "range") (hm:X.mg "range"=none) (ha:PA X [a] ta) (hs:starEach [a] X.env=[(false,eval a X.env)]:=by rfl):PE X (.Call (.Name "range" p) [a] [] pos) (ZmZ ta):=by
 intro pins s σ H Q I h;refine Call_ (Ub I hg hm boot_range (GH (Zq (ha pos pins s σ H _ I h) fun us s1 ⟨vs,H1,I1,r1,q1⟩=>?_) hs rfl));obtain ⟨j,e,q1,q2,q⟩:=q1;subst e;cases r1 with
 |cons r rr =>
  cases rr;obtain ⟨t,rfl⟩:=r;refine call_range_1 ?_;exact ⟨.ref _,_,I1.laid (o:=.rng 0 j) (fun b o e=>Qk _ e) (Qe _) (show ObjOk X.prog X.w _ _ _ (.rng 0 j) from ⟨_,_,_,Qw _ rfl⟩),rfl,q _ (I1.hok.fresh (Qe _))⟩
noncomputable def JW:Value->Int
 |.int z _=>z
 |_=>0
theorem Zfs:∀{us:List Value} {zs:List Int},IntsAre us zs->us.map JW=zs
 |_,_,.nil=>rfl
 |_,_,.cons z t r=>by rw [Qx,Zfs r];rfl
theorem ZgE:∀{us:List Value},(∀u∈us,∃z t,u=Value.int z t)->IntsAre us (us.map JW)
 |[],_=>.nil
 |u::us,h=>by
  obtain ⟨z,t,rfl⟩:=h u (by simp);exact .cons z t (ZgE fun v hv=>h v (QC _ hv))
theorem Ziu:∀{us:List Value} {zs:List Int},IntsAre us zs->∀u∈us,∃z t,u=Value.int z t
 |_,_,.nil,u,h=>by cases h
 |_,_,.cons z t r,u,h=>by
  rcases Qh.mp h with e|h
  ·exact ⟨z,t,e⟩
  ·exact Ziu r u h
theorem Zc6 {g:Int->Int}:∀{us:List Value} {zs:List Int},IntsAre us zs->∀p∈(zs.map g).zip us,p.1=g (JW p.2)
 |_,_,.nil,p,h=>by cases h
 |_,_,.cons z t r,p,h=>by
  rcases Qh.mp h with e|h
  ·subst e;rfl
  ·exact Zc6 r p h
theorem Zjr {us out:List Value} {zs:List Int} {g:Int->Int} (hs:IntsAre us zs) (ko:KskOut false (zs.map g) us out):∃zs',IntsAre out zs'∧zs'.Perm zs∧zs'.Pairwise fun a b=>g a≤g b:=by
 obtain ⟨ps,hp,rfl,hw⟩:=ko;have hl:us.length=zs.length:=hs.length;have e2:((zs.map g).zip us).map Prod.snd=us:=List.map_snd_zip (by rw [Qc];omega)
 have hm:(ps.map Prod.snd).Perm us:=by
  have:=hp.map Prod.snd;rw [e2] at this;exact this
 refine ⟨(ps.map Prod.snd).map JW,ZgE fun u hu=>Ziu hs u (hm.mem_iff.mp hu),?_,?_⟩
 ·have:=hm.map JW;rw [Zfs hs] at this;exact this
 ·rw [QR,Gg];refine hw.imp_of_mem fun {a b} ha hb q=>?_;have q':a.1≤b.1:=q;rw [Zc6 hs a (hp.mem_iff.mp ha),Zc6 hs b (hp.mem_iff.mp hb)] at q';exact q'
section
variable {e:Expr} {te:TE} {p pos kp lpos p1 p2 p3 p4:Pos} {x fl:Str} {c:Addr} {i:Nat}
theorem Zja {pins:List (Addr×Obj)} {σ:St} {f r dx C c':Addr} {fs:List (Str×V)} {pm ctv:Value} {ds:List Int} (I:Inv X pins σ H s) (hh:A.handled=none) (ok:LamOkD x o fl params scope p1 p2 p3 p4) (hroom:A.depth<recursionLimit)
 (hf:s.heap.get? f=some (kla_obj "<lambda>" q params (WI x o fl p1 p2 p3 p4) scope [(o,cc)] pm c' ctv)) (hcd:s.heap.CodeRec (.ref c') q) (hcL:cc≠X.env.locals) (hc'L:c'≠X.env.locals) (hfL:f≠X.env.locals)
 (hc:s.heap.IsCell cc (some (.ref a))) (ea:H a=some (.ins C dx fs)) (cls:Cls X.K C) (na:NoAttr X.K C fl) (hfl:fs.lookup fl=some (.ref L)) (hr:H r=some (.rng 0 n)) (hlen:n<64) (hL:SqL X.K H L (ds.map V.int)) (hn:ds.length=n)
 (h:∀h' tk D (zs':List Int),zs'.Perm ((List.range n).map fun i:Nat=>(i:Int))->zs'.Pairwise (fun a b=>ds.getD a.toNat 0≤ds.getD b.toNat 0)->H D=none->Inv X pins σ (Zc H D (.lst (zs'.map V.int))) { s with heap:=h',toks:=tk }->Q (.ref D) { s with heap:=h',toks:=tk }) :
  wpAny (model X.prog X.w) A (call (.builtin "sorted") [.ref r] [(Str.ofString "key",.ref f)]) Q E s:=by
 obtain ⟨m,F⟩:=I.fr;obtain ⟨ws,rw',plL,hzL⟩:=I.list hL;have hsO:IntsAre ws ds:=ZmD rw';obtain ⟨tr,ur,vr,hrg⟩:=(show ObjOk X.prog X.w H s.heap r (.rng 0 n) from I.hok r _ hr);obtain ⟨mA,O,rA,_,_,hdx⟩:=Zaw I.hok ea;obtain ⟨uL,huL,ruL⟩:=RelO.some_of (v:=.ref L) (o:=mA fl) (by rw [←hfl];exact rA fl);cases (show uL=Value.ref L from ruL)
 have LneL:L≠X.env.locals:=fun z=>by
  obtain ⟨oo,n,e1,_,_,e4⟩:=plL;obtain ⟨o2,es,ep,e5,e6,_⟩:=F.ns;rw [z,e5] at e1;cases e1;rw [e6] at e4;cases e4
 have keep3:∀{h:Heap} {own:List (Addr×Obj)},Fr X.base X.env.locals h m->News X.base X.env.locals h (JZ X.base s.heap X.env.locals++own)->∀b ob,b≠X.env.locals->s.heap.get? b=some ob->h.get? b=some ob:=fun {h own} F' N' b ob hb eb=>by
  cases r:X.base.get? b with
  |some u =>
   have:=I.bk b u r;rw [eb] at this;cases this;exact F'.keep b _ r
  |none=>exact (N' (b,ob) (Rc _ (Zgc hb r eb))).1
 have neL:∀b u,H b=some u->b≠X.env.locals:=fun b u e1=>ZA e1 I.free;refine Zla (kz:=((List.range n).map fun i:Nat=>(i:Int)).map fun z=>ds.getD z.toNat 0) (b:=false) (f:=.ref f) (PV:=fun vs=>IntsAre vs ((List.range n).map fun i:Nat=>(i:Int))) F Zpv (fun vs hv=>by rw [hv.length,Qc]) (by rw [Qc,Qc,QW];exact hlen) (fun A' Q' E' hA hq=>ZjI (hA.trans hh) hrg (by omega) fun h1 tk vs hv k1 z1=>hq vs h1 tk hv k1 z1) (ksk_s1 _ _) (fun x=>ksk_l1 _ _) (fun x=>ksk_t1 _ _) (fun us hs j v k hv hk h1 tk own F' N'=>?_) fun us D h' tk out cE hs F' N' hD ko=>?_
 ·have jl:j<n:=by
   have:=(QE.mp hk).1;simpa using this
  obtain ⟨t,ht⟩:=Zd5 hs j (j:Int) (by rw [Qo,GZ jl];rfl);rw [hv] at ht;cases ht;rw [Qo,Qo,GZ jl] at hk;cases hk;have dj:ds[j]?=some (ds.getD j 0):=by rw [QS,Qs (by omega)];rfl
  obtain ⟨oc,hoc,hdc⟩:=hc;obtain ⟨c2,oc2,vs2,t2,e5,e6,e7⟩:=hcd;cases e5;obtain ⟨oo,nn,a1,a2,a3,a4⟩:=plL;have kp:=keep3 F' N';refine Znw (K:=X.K) (A:=A.in1.in1) (s:={ s with heap:=h1,toks:=tk }) (mA:=mA) (j:=j) (d:=ds.getD j 0) ok hroom ((I.mod.nolimit).keeps F'.keep) (fun b o e=>F'.keep _ _ (I.ok.mod.kin b o e)) (kp _ _ hfL hf) ⟨_,oc2,vs2,t2,rfl,kp _ _ hc'L e6,e7⟩ ⟨oc,kp _ _ hcL hoc,hdc⟩ ⟨kp _ _ (neL _ _ ea) O.obj,?ns,O.ne⟩ cls na huL ⟨oo,nn,kp _ _ LneL a1,a2,a3,a4⟩ hsO dj (by omega) fun h2 tk2 u kk=>?_
  case ns=>exact Heap.Ns1.at O.ns fun o e=>kp _ _ (neL _ _ hdx) e
  exact ⟨h2,tk2,u,rfl,rfl,F'.kept kk,N'.grown kk⟩
 ·obtain ⟨zs',so,hp,hw⟩:=Zjr (g:=fun z=>ds.getD z.toNat 0) hs ko;have nD:=N' (D,seqObj "list" out cE) (QH ..);have N2:News X.base X.env.locals h' (JZ X.base s.heap X.env.locals++[]):=fun p hp=>N' p (QC _ (by simpa using hp));have kp:=keep3 F' N2
  have noD:s.heap.get? D=none:=by
   cases r:s.heap.get? D with
   |none=>rfl
   |some ob=>exact absurd (hD (D,ob) (Zgc nD.2.1 nD.2.2 r)) (QD _)
  have HD:H D=none:=by
   cases r:H D with
   |none=>rfl
   |some u =>
    obtain ⟨ob,e⟩:=(I.hok D u r).has;rw [noD] at e;cases e
  have neD:∀b u,H b=some u->b≠D:=fun b u e1=>ZA e1 HD;refine h h' tk D zs' hp hw HD ?_;refine I.step (g':=s.gens) (d':=s.drawn) (ch:=[]) (fun _ z=>nomatch z) (fun b ob hL _ _ e1 _=>kp b ob hL e1) (fun b ob hL _ _ e1 _=>⟨ob.slots,kp b ob hL e1⟩) (fun b ob _ e1 n=>?_) (fun b ob _ e1=>?_) (fun b xs e1=>by rw [Zd (neD b _ e1)];exact e1) (fun b ob u e1=>by rw [Zd (neD b _ e1)];exact e1) (fun b ps e1=>⟨#[],by rw [Zd (neD b _ e1),e1];simp⟩) (fun m2 hm2=>?_) (fun b u e1=>?_) I.bare
  ·rw [Zd (fun z=>by subst z;rw [noD] at e1;cases e1)];exact n
  ·by_cases hb:b=X.env.locals
   ·obtain ⟨o2,_,_,e5,_⟩:=F'.ns;exact ⟨o2,by rw [hb];exact e5⟩
   ·exact ⟨ob,kp b ob hb e1⟩
  ·rw [hm2.eq_nsMap,←F.ns.eq_nsMap];exact F'.ns
  ·by_cases hb:b=D
   ·subst hb;rw [Zg] at e1;cases e1;exact (show ObjOk X.prog X.w _ _ _ (.lst (zs'.map V.int)) from ⟨by rw [Qc,hp.length_eq,Qc,QW];exact QO (ZF (by omega)),out.toList,cE,Zdh so,by rw [Array.toArray_toList];exact nD.1⟩)
   ·rw [Zd hb] at e1;refine (I.hok b u e1).stay (fun d v hd r=>kp d v ?_ r) (fun d r=>by rw [Zd (neD d _ r)];exact r) fun d xs r=>by rw [Zd (neD d _ r)];exact r
    rcases hd with rfl|hd
    ·exact neL d _ e1
    ·exact neL d _ hd
def Zo3 (K:W.Frag) (P:Addr) (ln co:Nat) (q:Str) (te:TE) (i:Nat) (fl:Str):TE:=fun σ H Q=>te σ H fun v H1=>∃(r:Addr) (n:Nat) (a C dx:Addr) (fs:List (Str×V)) (L:Addr) (ds:List Int),v=.ref r∧H1 r=some (.rng 0 n)∧n<64∧σ[i]?=some (some (.ref a))∧H1 a=some (.ins C dx fs)∧Cls K C∧NoAttr K C fl∧fs.lookup fl=some (.ref L)∧SqL K H1 L (ds.map V.int)∧ds.length=n∧LamH P ln co q H1 ∧
 ∀H2 D (zs':List Int),zs'.Perm ((List.range n).map fun i:Nat=>(i:Int))->zs'.Pairwise (fun a b=>ds.getD a.toNat 0≤ds.getD b.toNat 0)->SameX H1 H2->Lams P H1 H2->LamH P ln co q H2->H1 D=none->H2 D=some (.lst (zs'.map V.int))->Q (.ref D) H2
theorem ZoX (K:W.Frag) (B:LamB X.base c P X.mg) (hcode:X.env.code=.ref c) (ok:LamOkD x o fl params scope p1 p2 p3 p4) (hroom:Room 0 X.A) (hcm:X.calm=true) (hg:Gl X "sorted") (hm:X.mg "sorted"=none) (he:PE X e te) (hN:X.N[i]?=some o) (hck:X.env.kindOf o=some .cell)
 (hvis:X.env.scope.names.lookup o=some .cell) (hcl:closureFor scope X.env=pure [(o,cc)]) (hcc:X.env.cells.lookup o=some cc) (hq:X.env.qual++"<lambda>"=q) (hdef:defaultsOf params X.env=([],[])) (hK:X.K=K:=by rfl)
 (hs:backTo pos (starEach [e] X.env)=[(false,eval e X.env)]:=by rfl) :
  PE X (.Call (.Name "sorted" p) [e] [⟨some "key",.Lambda params (WI x o fl p1 p2 p3 p4) scope lpos,kp⟩] pos) (Zo3 K P lpos.line lpos.col q te i fl):=by
 subst hK;intro pins s σ H Q I h;refine Ro (Ub I hg hm JM ?_);refine PyProof.Rows.callWith_kw ?_ (by rw [hs];rfl) (by rw [hs];rfl);rw [hs];refine Rt (Zq (he pins s σ H _ I h) fun u s1 ⟨v,H1,I1,r1,q1⟩=>Gm ?_);obtain ⟨r,n,a,C,dx,fs,L,ds,ev,hr,hlen,hσ,ea,cls,na,hfl,hL,hn,lam,q2⟩:=q1;subst ev;cases (show u=Value.ref r from r1);refine PyProof.Rows.kws_cons (kla_eval hdef ?_);rw [hq];have hgl:s1.heap.Ns mainGlobals X.mg:=I1.mod.glob.keeps I1.bk;obtain ⟨bm,ob,b1,b2,b3,b4,b5,b6⟩:=B.bm;obtain ⟨oc,hP,hC⟩:=lam;have tabP:s1.heap.get? P=some (tabObj (YX lpos.line lpos.col oc)):=(I1.hok P _ hP).1
 have hgP:mainGlobals≠P:=fun z=>by
  obtain ⟨o1,es,ep,e1,hd,_⟩:=hgl;rw [z,tabP] at e1;cases e1;cases hd
 have hbP:bm≠P:=fun z=>by
  have e1:=I1.bk _ _ b3;rw [z,tabP] at e1;cases e1;cases b4
 have hbG:bm≠mainGlobals:=fun z=>by
  obtain ⟨o1,es,ep,e1,hd,_⟩:=hgl;have e2:=I1.bk _ _ b3;rw [z,e1] at e2;cases e2;rw [hd] at b6;cases b6
 have hBA:s1.heap.BuiltinsAt X.mg P:=⟨bm,ob,b1,b2,hbG,hbP,I1.bk _ _ b3,b4,b5,b6⟩
 have hcell:s1.heap.IsCell cc (some (.ref a)):=by
  obtain ⟨m,hn,hl2⟩:=I1.loc;obtain ⟨u,ru,lk⟩:=hl2 i o (.ref a) hN hσ (.inr (.inl hvis));cases (show u=Value.ref a from ru);rcases lk with ⟨z,_⟩|⟨_,c2,e2,e3⟩
  ·rw [hck] at z;cases z
  ·rw [hcc] at e2;cases e2;exact e3
 have hcL:=I1.cne o cc hcc;have Lsz:X.env.locals<s1.heap.objs.size:=I1.lt;have CH:CodeHd s1.heap c P:=B.hd.keeps I1.bk
 have fin : ∀(h3 : Heap) (tk : Nat) (H2 : Hp) (c' : Addr) (ctv : Value), Inv X pins σ H2 { s1 with heap := h3, toks := tk } → s1.heap.objs.size ≤ h3.objs.size → h3.CodeRec (.ref c') q → c' ≠ X.env.locals → h3.IsCell cc (some (.ref a)) → SameX H1 H2 → Lams P H1 H2 → LamH P lpos.line lpos.col q H2 → (∀D, H2 D=none → H1 D=none) →
   wpAny (model X.prog X.w) X.A (evalAll ((backToKw pos (keywordEach [] X.env)).map (·.2))) (fun kvs s₂=>wpAny (model X.prog X.w) X.A (call (.builtin "sorted") [.ref r] (((backToKw pos (keywordEach [⟨some "key",.Lambda params (WI x o fl p1 p2 p3 p4) scope lpos,kp⟩] X.env)).filterMap (·.1)).zip (.ref h3.objs.size::kvs))) (EP X pins σ Q) X.xe s₂) X.xe
    { s1 with heap:=h3.push (kla_obj "<lambda>" q params (WI x o fl p1 p2 p3 p4) scope [(o,cc)] ((X.mg "__name__").getD .none) c' ctv),toks:=tk }:=by
  intro h3 tk H2 c' ctv I3 hsz hrc hc' hce sx lms lm fr;refine PyProof.Rows.kws_nil ?_;have I4:=I3.kept (t':=tk) (h':=h3.push (kla_obj "<lambda>" q params (WI x o fl p1 p2 p3 p4) scope [(o,cc)] ((X.mg "__name__").getD .none) c' ctv)) fun b o e=>Qk _ e
  have ck:(h3.push (kla_obj "<lambda>" q params (WI x o fl p1 p2 p3 p4) scope [(o,cc)] ((X.mg "__name__").getD .none) c' ctv)).CodeRec (.ref c') q:=by
   obtain ⟨c2,oc2,vs2,t2,e5,e6,e7⟩:=hrc;exact ⟨c2,oc2,vs2,t2,e5,Qk _ e6,e7⟩
  have cek:(h3.push (kla_obj "<lambda>" q params (WI x o fl p1 p2 p3 p4) scope [(o,cc)] ((X.mg "__name__").getD .none) c' ctv)).IsCell cc (some (.ref a)):=by
   obtain ⟨o9,e8,e9⟩:=hce;exact ⟨o9,Qk _ e8,e9⟩
  refine Zja (f:=h3.objs.size) I4 (I1.ok.hd hcm) ok hroom.depth (Qw _ rfl) ck hcL hc' (Rs (Qm Lsz hsz)) cek (sx _ _ rfl ea) cls na hfl (sx _ _ rfl hr) hlen (sx.sql hL) hn fun h5 tk5 D zs' hp hw nD I5=>?_;exact ⟨.ref D,_,I5,rfl,q2 _ D zs' hp hw (sx.trans (Zj nD).x) (lms.same (Zj nD)) (lm.same (Zj nD)) (fr D nD) Zg⟩
 cases oc with
 |none =>
  refine kla_makeFunction (mg:=X.mg) hcl I1.ok.glob hgl hcode CH tabP True.intro rfl hgP hBA fun c' ctv h' tk hx hge hlt hrec htb=>?_;have I2:=I1.grow (t':=tk) hP hx hge hrec (by simpa [YX] using htb);refine fin h' tk _ c' ctv I2 (Qn hge (QO hlt)) hrec (Rs (Qm Lsz hge)) ?_ ?_ (Lams.of ⟨none,hP,hC⟩ fun b u n1 e1=>?_) ?_ ?_
  ·obtain ⟨o9,e8,e9⟩:=hcell;exact ⟨o9,hx _ _ (fun z=>by rw [z,tabP] at e8;cases e8;cases e9) e8,e9⟩
  ·intro b u hu e1;have n1:b≠P:=fun z=>by subst z;rw [hP] at e1;cases e1;cases hu
   rw [Zd (fun z=>by subst z;exact absurd (Qm (I1.hok.lt e1) hge) (QD _)),Zd n1];exact e1
  ·rw [Zd (fun z=>by subst z;exact absurd (Qm (I1.hok.lt e1) hge) (QD _)),Zd n1];exact e1
  ·refine ⟨some c',?_,fun c2 e2=>?_⟩
   ·rw [Zd (fun z=>by subst z;exact absurd (Qm (I1.hok.lt hP) hge) (QD _)),Zg]
   ·cases e2;exact Zg
  ·intro D hD;cases r:H1 D with
   |none=>rfl
   |some u =>
    exfalso;have n2:D≠c':=fun z=>by subst z;exact absurd (Qm (I1.hok.lt r) hge) (QD _)
    rw [Zd n2] at hD;by_cases n1:D=P
    ·subst n1;rw [Zg] at hD;cases hD
    ·rw [Zd n1,r] at hD;cases hD
 |some c' =>
  have hc':=hC c' rfl;have hrec:s1.heap.CodeRec (.ref c') q:=(I1.hok c' _ hc').1;refine kla_makeFunctionHit (mg:=X.mg) hcl I1.ok.glob hgl hcode CH tabP (by simp [YX,TriplesOk,rawInt]) (cv:=.ref c') (by simp [YX,codeAmong,rawInt]) hBA fun ctv h' tk hk hsz=>?_;have I2:=I1.kept (t':=tk) hk;refine fin h' tk H1 c' ctv I2 hsz ?_ (ZA hc' I1.free) ?_ (SameX.refl _) (Lams.refl _ _) ⟨some c',hP,hC⟩ fun _ z=>z
  ·obtain ⟨c2,oc2,vs2,t2,e5,e6,e7⟩:=hrec;exact ⟨c2,oc2,vs2,t2,e5,hk _ _ e6,e7⟩
  ·obtain ⟨o9,e8,e9⟩:=hcell;exact ⟨o9,hk _ _ e8,e9⟩
end
end L2
namespace L2
open PySem PySem.Spec PyProof.Rows
section
variable {X:Cx}
open Classical in
end
end L2
namespace L2
open PySem PySem.Spec PyProof.Rows
section
variable {X:Cx}
theorem Zfv:∀{xs:List V} {us:List Value},Vals xs us->∀(i:Nat) (u:Value),us[i]?=some u->∃x,xs[i]?=some x∧RelV x u
 |_,_,.nil,i,u,e=>by cases e
 |_,_,.cons r t,0,u,e=>⟨_,rfl,by rw [←show _=u by simpa using e];exact r⟩
 |_,_,.cons r t,i+1,u,e=>by
  obtain ⟨x,h,q⟩:=Zfv t i u (by simpa using e);exact ⟨x,by simpa using h,q⟩
theorem JQ (K:W.Frag) (hK:X.K=K:=by rfl):MtR X "list.index" (fun x xs H Q=>∃(l:Addr) (zs:List Str) (y:Str) (j:Nat),x=.ref l∧xs=[.str y]∧SqL K H l (zs.map V.str)∧zs[j]?=some y∧(∀m,m<j->zs[m]?≠some y)∧Q (.int j) H):=by
 subst hK;intro pins s σ H x xs v us Q I rx r h;obtain ⟨l,zs,y,j,rfl,rfl,hq,hj,hn,q⟩:=h;obtain rfl:v=Value.ref l:=rx;obtain ⟨u,rfl,t,rfl⟩:=Xv r;obtain ⟨its,rv,pl,hz⟩:=I.list hq;obtain ⟨⟨cls,dd,data,sl⟩,ho,hc,n,hd⟩:=id pl.isList;simp only at hc hd;subst hc hd;have jl:=(QE.mp hj).1;have el:=rv.length;rw [Qc] at el hz;rw [RM] at hz;have fs:(zs.map V.str).all Wi=true:=by rw [Ru];intro w hw;obtain ⟨z,_,rfl⟩:=Qg.mp hw;rfl
 have at':∀(m:Nat) (hm:m<its.length),∃z,zs[m]?=some z∧Y6 (.str y) its[m]=decide (z=y):=fun m hm=>by
  obtain ⟨x,hx,rx⟩:=Zfv rv m _ (Qs hm);rw [Qo] at hx;obtain ⟨z,hz,rfl⟩:=QF.mp hx;refine ⟨z,hz,?_⟩;rw [ZbG rx rfl];show (z==y)=_;rw [Rh];simp
 refine call_meets Gh ⟨_,ho,rfl⟩ PySem.F.entry_list_index (PySem.F.args_list_index_2 _ _) (SeqAt.list_indexAt l its.toArray n dd sl (.str y t) (Y6 (.str y)) j (by simp;omega) (by omega) ?_ ?_) ⟨ho,fun w hw=>UG (x:=.str y) ⟨t,rfl⟩ rfl rv fs w (by simpa using hw),⟨.int _,H,I.tok _,⟨_,rfl⟩,q⟩⟩
 ·obtain ⟨z,hz,e⟩:=at' j (by omega);rw [hj] at hz;cases hz;simpa using e
 ·intro m hm lt;obtain ⟨z,hz,e⟩:=at' m (by omega);have:z≠y:=fun z'=>hn m lt (by rw [hz,z']);simpa [this] using e
end
end L2
set_option exponentiation.threshold 3000
seal L2.PSs L2.PS L2.PE L2.PT L2.PW L2.PA L2.PG L2.PI L2.PO
namespace K24
open PySem L2
variable {C U a b bi dl dx li pl sl su ti ul:Addr} {B B':Bk} {st:Bool} {e:Ent} {o u:HO} {base:Heap} {H H':Hp} {d:Int} {qs:List ((Str×Int×Int)×Addr)} {ks:List (Ent×Addr)} {l:List (Int×Str)} {ps:List (Nat×Nat)} {S:List Addr} {es xs:List Ent} {ord:List Nat} {L pool:List Str} {vs ys:List V} {i j:Nat} {p:Nat×Nat} {P:Program} {A:Prop} {σ:St} {f m n n' s y:Str} {c:Str×Str} {F:Str×Str->List Str} {v:V} {Q:VK}
noncomputable def ZK (i:Nat):Stmt:=PySem.Challenge.pw_heirbook_k24_ways_that_part.main.body.getD i (.Pass ⟨0,0,0,0⟩)
noncomputable abbrev ZdP:Stmt:=ZK 10
noncomputable abbrev ZcE:Stmt:=ZK 13
noncomputable abbrev ZbJ:Stmt:=ZK 14
noncomputable abbrev ZbM:Stmt:=ZK 15
noncomputable abbrev Zc4:Stmt:=ZK 16
noncomputable abbrev ZdJ:Stmt:=ZK 17
noncomputable abbrev Zea:Stmt:=ZK 19
noncomputable abbrev Zcg:Stmt:=ZK 20
noncomputable abbrev ZcS:Stmt:=ZK 21
noncomputable abbrev ZdU:Stmt:=ZK 22
noncomputable abbrev Zb4:Stmt:=ZK 23
noncomputable abbrev ZbW:Stmt:=ZK 24
noncomputable abbrev Zdf:Stmt:=ZK 25
noncomputable abbrev Zcs:Stmt:=ZK 29
noncomputable abbrev ZbS:Stmt:=ZK 34
noncomputable abbrev Zco:Stmt:=Y0 (ZK 35) 0
noncomputable abbrev ZdA:Stmt:=Y0 (ZK 35) 8
noncomputable abbrev ZdC:Stmt:=Y0 (ZK 35) 11
noncomputable abbrev ZcL:Stmt:=Y0 (ZK 35) 12
noncomputable abbrev Zdw:Stmt:=Y0 (ZK 35) 4
noncomputable abbrev ZcM:Stmt:=Y0 (ZK 35) 3
noncomputable abbrev ZbE:Stmt:=Y0 (ZK 35) 2
noncomputable abbrev ZcR:Stmt:=Y0 (ZK 35) 7
noncomputable abbrev Zb3:Stmt:=Y0 (ZK 35) 5
noncomputable abbrev ZdG:Stmt:=Y0 (ZK 35) 16
noncomputable abbrev WH:Stmt:=Y0 (ZK 35) 14
noncomputable abbrev Zcv:Stmt:=Y0 (ZK 35) 6
noncomputable abbrev ZbI:Stmt:=Y0 (ZK 35) 1
noncomputable abbrev ZcH:Stmt:=Y0 (ZK 35) 10
noncomputable abbrev Zem:Stmt:=ZK 30
noncomputable abbrev ZdV:Stmt:=Y0 (ZK 39) 0
noncomputable abbrev ZbP:Stmt:=Y0 (ZK 39) 4
noncomputable abbrev Zb6:Stmt:=Y0 (ZK 39) 3
noncomputable abbrev Zc1:Stmt:=Y0 (ZK 39) 2
noncomputable abbrev ZdL:Stmt:=Y0 (ZK 39) 1
noncomputable abbrev ZbK:Stmt:=ZK 40
noncomputable abbrev ZeA:Stmt:=ZK 41
noncomputable abbrev ZbF:Stmt:=ZK 42
noncomputable abbrev Jz:Stmt:=ZK 43
noncomputable abbrev Zd9:Stmt:=ZK 44
noncomputable abbrev Zep:Stmt:=ZK 46
noncomputable abbrev Zei:Stmt:=ZK 47
noncomputable abbrev U3:Stmt:=ZK 48
noncomputable abbrev Zev:Stmt:=ZK 50
noncomputable abbrev Zeg:Stmt:=ZK 51
noncomputable abbrev ZcO:Stmt:=ZK 52
noncomputable abbrev Zc7:Stmt:=ZK 53
noncomputable abbrev Zcc:Stmt:=ZK 55
noncomputable abbrev Zeq:Stmt:=ZK 56
noncomputable abbrev ZcW:Stmt:=ZK 57
noncomputable abbrev Zef:Stmt:=ZK 58
noncomputable abbrev ZcU:Stmt:=ZK 59
noncomputable abbrev Zdv:Stmt:=ZK 60
noncomputable abbrev Zej:Stmt:=ZK 61
set_option genInjectivity false
set_option genSizeOf false
structure Tx (K:W.Frag) (w:World) (mg:Str->Option Value) where
 c_Book:Addr
 c_Tree:Addr
 WO:Df K mg "is_whole" ZdP ["thing"]
 YE:Df K mg "is_name" ZcE ["thing"]
 Xw:Df K mg "is_day" ZbJ ["thing"]
 WE:Df K mg "is_amount" ZbM ["thing"]
 WG:Df K mg "is_sort" Zc4 ["thing"]
 Wg:Df K mg "is_parent" ZdJ ["thing"]
 Up:Df K mg "has_form" Zea ["parts","checks"]
 Ug:Df K mg "is_entry" Zcg ["thing"]
 WC:Df K mg "is_tie" ZcS ["entry"]
 WD:Df K mg "named_in" ZdU ["entry"]
 Uf:Df K mg "day_of" Zb4 ["entry"]
 WX:Df K mg "as_told" ZbW ["entry"]
 WA:Df K mg "key_of" Zdf ["entry"]
 V7:Df K mg "is_letter" Zcs ["thing"]
 W1:Df K mg "pair_of" ZbS ["one","other"]
 UO:Dm K c_Book "__init__" "Book.__init__" Zco ["self"]
 Xh:Dm K c_Book "birth_of" "Book.birth_of" ZdA ["self","name"]
 Wy:Dm K c_Book "sort_of" "Book.sort_of" ZdC ["self","name"]
 Xx:Dm K c_Book "born_on" "Book.born_on" ZcL ["self","name"]
 VA:Dm K c_Book "parent_fits" "Book.parent_fits" Zdw ["self","name","sort","day"]
 UY:Dm K c_Book "fits" "Book.fits" ZcM ["self","entry"]
 Jl:Dm K c_Book "refuse" "Book.refuse" ZbE ["self","entry"]
 Y5:Dm K c_Book "link" "Book.link" ZcR ["self","letter","begin","end"]
 U6:Dm K c_Book "note_birth" "Book.note_birth" Zb3 ["self","entry"]
 XE:Dm K c_Book "step" "Book.step" ZdG ["self","letter","name"]
 a_Book_stands:Addr
 fd_Book_stands:FuncData
 dt_Book_stands:Addr
 F_Book_stands:FunD K "stands" "Book.stands" WH a_Book_stands fd_Book_stands (.ref dt_Book_stands)
 b_Book_stands:Binds K fd_Book_stands ["self","one","other","day"] [.none]
 U1:Dm K c_Book "note_tie" "Book.note_tie" Zcv ["self","entry"]
 Wv:Dm K c_Book "put" "Book.put" ZbI ["self","entry"]
 VI:Dm K c_Book "people" "Book.people" ZcH ["self"]
 WY:Df K mg "is_test" Zem ["thing"]
 UM:Dm K c_Tree "__init__" "Tree.__init__" ZdV ["self"]
 WL:Dm K c_Tree "ask" "Tree.ask" ZbP ["self","number","sort"]
 XF:Dm K c_Tree "grow" "Tree.grow" Zb6 ["self","later"]
 Jx:Dm K c_Tree "go_up" "Tree.go_up" Zc1 ["self","letter"]
 UP:Dm K c_Tree "go" "Tree.go" ZdL ["self","step"]
 Yt:Df K mg "name_of" ZbK ["number"]
 WR:Df K mg "parent_name" ZeA ["tree","letter","number"]
 Uw:Df K mg "birth" ZbF ["tree","number"]
 VQ:Df K mg "book_of_tree" Jz ["tree"]
 WK:Df K mg "book_of" Zd9 ["way"]
 Uc:Df K mg "led_by_step" Zep ["book","step","name"]
 V3:Df K mg "layers_of" Zei ["one","steps","lead"]
 VJ:Df K mg "reach" U3 ["book","way","name"]
 Wt:Df K mg "leads_there" Zev ["told","way"]
 Ws:Df K mg "within" Zeg ["one","other"]
 VW:Df K mg "alike" ZcO ["one","other"]
 WS:Df K mg "parted" Zc7 ["one","other"]
 WU:Df K mg "_law_free" Zcc ["_law_cells"]
 V6:Df K mg "_law_step" Zeq ["_law_land","_law_step_here","_law_one"]
 WV:Df K mg "_law_reach" ZcW ["_law_land","_law_way","_law_one"]
 V5:Df K mg "_law_land_of" Zef ["_law_book"]
 Ut:Df K mg "_law_other" ZcU ["_law_way","_law_cells"]
 Uy:Df K mg "_law_parts" Zdv ["_law_told","_law_one","_law_other_here"]
 V8:Df K mg "law" Zej ["_law_script"]
 c_HeirError:Addr
 m_HeirError:mg "HeirError"=some (.ref c_HeirError)
 c_NoEntry:Addr
 m_NoEntry:mg "NoEntry"=some (.ref c_NoEntry)
 c_Full:Addr
 m_Full:mg "Full"=some (.ref c_Full)
 c_NoPerson:Addr
 m_NoPerson:mg "NoPerson"=some (.ref c_NoPerson)
 c_Twice:Addr
 m_Twice:mg "Twice"=some (.ref c_Twice)
 c_NoFit:Addr
 m_NoFit:mg "NoFit"=some (.ref c_NoFit)
 c_NoWay:Addr
 m_NoWay:mg "NoWay"=some (.ref c_NoWay)
 x_NoEntry:W.excIn K c_NoEntry XN "ValueError.__new__"=true
 e_NoEntry:ExcK K c_NoEntry
 x_Full:W.excIn K c_Full XN "ValueError.__new__"=true
 e_Full:ExcK K c_Full
 x_NoPerson:W.excIn K c_NoPerson XN "ValueError.__new__"=true
 e_NoPerson:ExcK K c_NoPerson
 x_Twice:W.excIn K c_Twice XN "ValueError.__new__"=true
 e_Twice:ExcK K c_Twice
 x_NoFit:W.excIn K c_NoFit XN "ValueError.__new__"=true
 e_NoFit:ExcK K c_NoFit
 x_NoWay:W.excIn K c_NoWay XN "ValueError.__new__"=true
 e_NoWay:ExcK K c_NoWay
 m_Book:mg "Book"=some (.ref c_Book)
 cl_Book:Cls K c_Book
 mk_Book:Mk K c_Book UO.a
 na_Book_kept:NoAttr K c_Book "kept"
 na_Book_births:NoAttr K c_Book "births"
 na_Book_links:NoAttr K c_Book "links"
 na_Book_ties:NoAttr K c_Book "ties"
 na_Book_sums:NoAttr K c_Book "sums"
 me_Book_stands:Meth K c_Book "stands" a_Book_stands
 m_Tree:mg "Tree"=some (.ref c_Tree)
 cl_Tree:Cls K c_Tree
 mk_Tree:Mk K c_Tree UM.a
 na_Tree_days:NoAttr K c_Tree "days"
 na_Tree_sorts:NoAttr K c_Tree "sorts"
 na_Tree_parents:NoAttr K c_Tree "parents"
 na_Tree_takings:NoAttr K c_Tree "takings"
 na_Tree_unions:NoAttr K c_Tree "unions"
 na_Tree_clash:NoAttr K c_Tree "clash"
 na_Tree_here:NoAttr K c_Tree "here"
 n_abs:mg "abs"=none
 n_all:mg "all"=none
 n_bool:mg "bool"=none
 n_int:mg "int"=none
 n_isinstance:mg "isinstance"=none
 n_len:mg "len"=none
 n_list:mg "list"=none
 n_max:mg "max"=none
 n_min:mg "min"=none
 n_range:mg "range"=none
 n_sorted:mg "sorted"=none
 n_str:mg "str"=none
 n_tuple:mg "tuple"=none
 n_zip:mg "zip"=none
 k_int_int:W.kitOne K (.type "int") (.type "int")=some true
 k_int_str:W.kitOne K (.type "int") (.type "str")=some false
 k_int_tuple:W.kitOne K (.type "int") (.type "tuple")=some false
 k_int_bool:W.kitOne K (.type "int") (.type "bool")=some false
 k_str_int:W.kitOne K (.type "str") (.type "int")=some false
 k_str_str:W.kitOne K (.type "str") (.type "str")=some true
 k_str_tuple:W.kitOne K (.type "str") (.type "tuple")=some false
 k_bool_int:W.kitOne K (.type "bool") (.type "int")=some true
 k_bool_str:W.kitOne K (.type "bool") (.type "str")=some false
 k_bool_tuple:W.kitOne K (.type "bool") (.type "tuple")=some false
 k_bool_bool:W.kitOne K (.type "bool") (.type "bool")=some true
 k_NoneType_int:W.kitOne K (.type "NoneType") (.type "int")=some false
 k_NoneType_str:W.kitOne K (.type "NoneType") (.type "str")=some false
 k_NoneType_tuple:W.kitOne K (.type "NoneType") (.type "tuple")=some false
 k_tuple_int:W.kitOne K (.type "tuple") (.type "int")=some false
 k_tuple_str:W.kitOne K (.type "tuple") (.type "str")=some false
 k_tuple_tuple:W.kitOne K (.type "tuple") (.type "tuple")=some true
 k_list_int:W.kitOne K (.type "list") (.type "int")=some false
 k_list_str:W.kitOne K (.type "list") (.type "str")=some false
 k_list_tuple:W.kitOne K (.type "list") (.type "tuple")=some false
 k_dict_int:W.kitOne K (.type "dict") (.type "int")=some false
 k_dict_str:W.kitOne K (.type "dict") (.type "str")=some false
 k_dict_tuple:W.kitOne K (.type "dict") (.type "tuple")=some false
 kl_list:W.kitOne K (.type "list") (.type "list")=some true
 kx_HeirError:W.kitOne K (.ref c_NoPerson) (.ref c_HeirError)=some true
 kx_ValueError:W.kitOne K (.ref c_NoPerson) (.type "ValueError")=some true
 ci:W.findIn K (.ref c_Book) "__class__"=some (some (.builtin "object.__class__"))
 mo:W.mroIn K c_Book (.type "object")=some true
 kp:W.kitOne K (.ref c_Book) (.ref c_Book)=some true
 cg:W.specialIn K (.builtin "object.__class__") "__get__"=some (some (.builtin "getset_descriptor.__get__"))
 ct:W.takesIn K (.builtin "object.__class__")=some true
 aF:Addr
 m_FORMS:mg "FORMS"=some (.ref aF)
 tkL:Tok
 m_LETTERS:mg "LETTERS"=some (.str "abcdefghijklmnopqrstuvwxyz" tkL)
 p0:Addr
 p1:Addr
 p2:Addr
 p3:Addr
 p4:Addr
 p5:Addr
 g0:Addr
 g1:Addr
 g2:Addr
 g3:Addr
 g4:Addr
 g5:Addr
 sF:∀H,SqT K H aF [.ref p0,.ref p1,.ref p2,.ref p3,.ref p4,.ref p5]
 sp0:∀H,SqT K H p0 [.str "born",.ref g0]
 sp1:∀H,SqT K H p1 [.str "taken",.ref g1]
 sp2:∀H,SqT K H p2 [.str "union",.ref g2]
 sp3:∀H,SqT K H p3 [.str "parted",.ref g3]
 sp4:∀H,SqT K H p4 [.str "dead",.ref g4]
 sp5:∀H,SqT K H p5 [.str "given",.ref g5]
 sg0:∀H,SqT K H g0 [.ref YE.a,.ref WG.a,.ref Xw.a,.ref Wg.a,.ref Wg.a]
 sg1:∀H,SqT K H g1 [.ref YE.a,.ref YE.a,.ref Xw.a]
 sg2:∀H,SqT K H g2 [.ref YE.a,.ref YE.a,.ref Xw.a]
 sg3:∀H,SqT K H g3 [.ref YE.a,.ref YE.a,.ref Xw.a]
 sg4:∀H,SqT K H g4 [.ref YE.a,.ref Xw.a]
 sg5:∀H,SqT K H g5 [.ref YE.a,.ref YE.a,.ref WE.a,.ref Xw.a]
 a_STEP_LETTERS:Addr
 m_STEP_LETTERS:mg "STEP_LETTERS"=some (.ref a_STEP_LETTERS)
 ZeJ:∀H,SqT K H a_STEP_LETTERS [.str "F",.str "M",.str "T",.str "f",.str "m",.str "t",.str "S"]
 a_TESTS:Addr
 m_TESTS:mg "TESTS"=some (.ref a_TESTS)
 ZhS:∀H,SqT K H a_TESTS [.str "he",.str "she"]
 t_MOST_ENTRIES:Tok
 m_MOST_ENTRIES:mg "MOST_ENTRIES"=some (.int 400 t_MOST_ENTRIES)
 t_MOST_PEOPLE:Tok
 m_MOST_PEOPLE:mg "MOST_PEOPLE"=some (.int 60 t_MOST_PEOPLE)
 cc:Addr
 tb:Addr
 hcc:Zew K VJ.a cc
 cc2:Addr
 tb2:Addr
 hcc2:Zew K VQ.a cc2
 ttb:tb2≠tb
 a_SORT_OF_PARENT:Addr
 m_SORT_OF_PARENT:mg "SORT_OF_PARENT"=some (.ref a_SORT_OF_PARENT)
 kd_SORT_OF_PARENT:KDict K w a_SORT_OF_PARENT [(.inr "F",.str "he"),(.inr "M",.str "she")]
 a_LETTER_UP:Addr
 m_LETTER_UP:mg "LETTER_UP"=some (.ref a_LETTER_UP)
 kd_LETTER_UP:KDict K w a_LETTER_UP [(.inr "f",.str "F"),(.inr "m",.str "M")]
inductive Vk where
 |int (i:Int)|str (x:Str)|bl|non|tup|lst|dct
noncomputable def Vk.ty:Vk->Value
 |.int _=>.type "int"
 |.str _=>.type "str"
 |.bl=>.type "bool"
 |.non=>.type "NoneType"
 |.tup=>.type "tuple"
 |.lst=>.type "list"
 |.dct=>.type "dict"
noncomputable def Vk.isI:Vk->Bool
 |.int _=>true
 |_=>false
noncomputable def Vk.isB:Vk->Bool
 |.bl=>true
 |_=>false
noncomputable def Vk.isS:Vk->Bool
 |.str _=>true
 |_=>false
noncomputable def Vk.isT:Vk->Bool
 |.tup=>true
 |_=>false
def Vw (K:W.Frag) (H:Hp) (v:V):Vk->Prop
 |.int i=>v=.int i
 |.str x=>v=.str x∧x.length≤100
 |k=>Kd K H v k.ty
section
variable {K:W.Frag} {t:Vk}
theorem Vw.kd (h:Vw K H v t):Kd K H v t.ty:=by
 cases t with
 |int i=>cases (show v=.int i from h);exact .of (.int i)
 |str x=>cases (show v=.str x from h.1);exact .of (.str x)
 |_=>exact h
theorem Vw.mono (h:Vw K H v t) (e:Same H H'):Vw K H' v t:=by
 cases t with
 |int i=>exact h
 |str x=>exact h
 |_=>exact e.kd h
end
def Vws (K:W.Frag) (H:Hp):List V->List Vk->Prop
 |[],[]=>True
 |x::xs,t::ts=>Vw K H x t∧Vws K H xs ts
 |_,_=>False
section
variable {K:W.Frag}
theorem Vws.length:∀{xs:List V} {ts:List Vk},Vws K H xs ts->xs.length=ts.length
 |[],[],_=>rfl
 |x::xs,t::ts,h=>by rw [QM,QM,Vws.length h.2]
theorem Vws.mono (e:Same H H'):∀{xs:List V} {ts:List Vk},Vws K H xs ts->Vws K H' xs ts
 |[],[],_=>True.intro
 |x::xs,t::ts,h=>⟨h.1.mono e,Vws.mono e h.2⟩
theorem Vws.get:∀{xs:List V} {ts:List Vk} {i:Nat} {t:Vk},Vws K H xs ts->ts[i]?=some t->∃x,xs[i]?=some x∧Vw K H x t
 |[],[],_,_,_,e=>by simp at e
 |x::xs,t::ts,0,t',h,e=>by
  cases (show some t=some t' by simpa using e);exact ⟨x,rfl,h.1⟩
 |x::xs,t::ts,i+1,t',h,e=>by
  obtain ⟨y,e1,e2⟩:=Vws.get (i:=i) h.2 (by simpa using e);exact ⟨y,by simpa using e1,e2⟩
end
def Tv (K:W.Frag) (H:Hp) (v:V) (ts:List Vk):Prop:=∃a xs,v=.ref a∧SqT K H a xs∧Vws K H xs ts
noncomputable abbrev Zdy:Str:="abcdefghijklmnopqrstuvwxyz"
noncomputable def Vo (c:Nat):Bool:=!(Builtin.Str.occurrences Zdy ⟨#[c]⟩ 0 Zdy.length 1).isEmpty
noncomputable def W9:Vk->Bool
 |.str x=>decide (1≤x.length)&&decide (x.length≤8)&&x.cps.toList.all Vo
 |_=>false
noncomputable def Zez:Vk->Bool
 |.int i=>decide ((if i<0 then -i else i)≤10 ^ 18)
 |_=>false
noncomputable def Zex:Vk->Bool
 |.int i=>decide (1≤i)&&decide (i≤10 ^ 18)
 |_=>false
noncomputable def Uq:Vk->Bool
 |.str x=>decide (x="he")||decide (x="she")||decide (x="")
 |_=>false
noncomputable def Zag (t:Vk):Bool:=W9 t||match t with
 |.str x=>decide (x="")
 |_=>false
inductive Chk where
 |name|sort|day|amount|parent
noncomputable def UJ:Chk->Vk->Bool
 |.name=>W9
 |.sort=>Uq
 |.day=>Zez
 |.amount=>Zex
 |.parent=>Zag
noncomputable def WW:List (Str×List Chk):=[("born",[.name,.sort,.day,.parent,.parent]),("taken",[.name,.name,.day]),("union",[.name,.name,.day]),("parted",[.name,.name,.day]),("dead",[.name,.day]),("given",[.name,.name,.amount,.day])]
noncomputable def VP (w:Str):Option (List Chk):=(WW.find? fun p=>decide (w=p.1)).map (·.2)
noncomputable def ZU:List Chk->List Vk->List Bool
 |c::cs,t::ts=>UJ c t::ZU cs ts
 |_,_=>[]
noncomputable def Wh (cs:List Chk) (ts:List Vk):Bool:=decide (ts.length=cs.length)&&(ZU cs ts).all id
noncomputable def UE:List Vk->Bool
 |.str w::ts=>((VP w).map fun cs=>Wh cs ts).getD false
 |_=>false
theorem Zbq (w:Str) (ts:List Vk):UE (.str w::ts)=((VP w).map fun cs=>Wh cs ts).getD false:=rfl
structure Nm (x:Str):Prop where
 lo:1≤x.length
 hi:x.length≤8
 all:x.cps.toList.all Vo=true
theorem Nm.ok {x:Str} (h:Nm x):W9 (.str x)=true:=by
 show (decide (1≤x.length)&&decide (x.length≤8)&&x.cps.toList.all Vo)=true;rw [Qu h.lo,Qu h.hi,h.all];rfl
section
variable {K:W.Frag} {mg:Str->Option Value}
noncomputable def Tx.ad (T:Tx K w mg):Chk->Addr
 |.name=>T.YE.a
 |.sort=>T.WG.a
 |.day=>T.Xw.a
 |.amount=>T.WE.a
 |.parent=>T.Wg.a
theorem kI (T:Tx K w mg):∀t:Vk,W.kitOne K t.ty (.type "int")=some (t.isI||t.isB)
 |.int _=>T.k_int_int
 |.str _=>T.k_str_int
 |.bl=>T.k_bool_int
 |.non=>T.k_NoneType_int
 |.tup=>T.k_tuple_int
 |.lst=>T.k_list_int
 |.dct=>T.k_dict_int
theorem kS (T:Tx K w mg):∀t:Vk,W.kitOne K t.ty (.type "str")=some t.isS
 |.int _=>T.k_int_str
 |.str _=>T.k_str_str
 |.bl=>T.k_bool_str
 |.non=>T.k_NoneType_str
 |.tup=>T.k_tuple_str
 |.lst=>T.k_list_str
 |.dct=>T.k_dict_str
theorem kT (T:Tx K w mg):∀t:Vk,W.kitOne K t.ty (.type "tuple")=some t.isT
 |.int _=>T.k_int_tuple
 |.str _=>T.k_str_tuple
 |.bl=>T.k_bool_tuple
 |.non=>T.k_NoneType_tuple
 |.tup=>T.k_tuple_tuple
 |.lst=>T.k_list_tuple
 |.dct=>T.k_dict_tuple
end
theorem Zho {X:Cx} {N:List Str} {sc:Scope} {L:List (Str×NameKind)} {ns:St} (hk:sc.kind=.function) (hn:∀x∈sc.names,x.2=.local->sc.names.lookup x.1=some .local) (hc:∀y∈sc.names,y.2≠.cell)
 (clos:closureFor sc X.env=pure []) (e:(relabel sc X.env).names=L) (hL:∀y∈L,y.2≠.cell∧y.2≠.free) (hl:ns.length=N.length) (hs:∀o∈ns,o=none):CompSc X N sc [] (fun _=>ns):=by
 have no:∀(x:Str),¬((relabel sc X.env).names.lookup x=some .cell∨(relabel sc X.env).names.lookup x=some .free):=fun x h=>by
  rw [e] at h
  have lk:∀(M:List (Str×NameKind)) (k:NameKind),M.lookup x=some k->∃y∈M,y.2=k:=fun M k=>by
   induction M with
   |nil=>intro h;cases h
   |cons p r ih =>
    intro h;rw [GW] at h;split at h
    ·exact ⟨p,QH ..,Qj h⟩
    ·obtain ⟨y,hy,q⟩:=ih h;exact ⟨y,QC _ hy,q⟩
  rcases h with h|h
  ·obtain ⟨y,hy,q⟩:=lk _ _ h;exact (hL y hy).1 q
  ·obtain ⟨y,hy,q⟩:=lk _ _ h;exact (hL y hy).2 q
 refine ⟨hk,hn,hc,clos,(fun x c (h:([]:List (Str×Addr)).lookup x=some c)=>by cases h),fun x h=>absurd h (no x),fun _=>hl,fun σ i x v e1 e2=>?_⟩;have:=hs _ (QL e2);cases this
theorem J4:(["sign"]:List Str).Nodup:=by trivial
theorem UN:(["check","part"]:List Str).Nodup:=by trivial
theorem Zj0 (z:Str):Xz (.str z) [.str "he",.str "she",.str ""]=Uq (.str z):=by
 unfold Xz Uq;rw [Rh];simp only [Rj,List.any_nil,Xq,Bool.or_false,Gd,Rz,G6];constructor
 ·rintro (h|h|h)
  ·exact .inl (.inl h.symm)
  ·exact .inl (.inr h.symm)
  ·exact .inr h.symm
 ·rintro ((h|h)|h)
  ·exact .inl h.symm
  ·exact .inr (.inl h.symm)
  ·exact .inr (.inr h.symm)
theorem Zec (x:Str):W9 (.str x)=(decide (1≤x.length)&&decide (x.length≤8)&&x.cps.toList.all Vo):=rfl
theorem Zjf (i:Int):Zex (.int i)=(decide (1≤i)&&decide (i≤10 ^ 18)):=rfl
theorem ZgF:∀{cs:List Chk} {ts:List Vk},ts.length=cs.length->(ZU cs ts).length=cs.length
 |[],[],_=>rfl
 |c::cs,t::ts,h=>by
  show (ZU cs ts).length+1=cs.length+1;rw [ZgF (by simpa using h)]
theorem ZiU:∀{cs:List Chk} {ts:List Vk} {i:Nat} {y:V},ts.length=cs.length->((ZU cs ts).map V.bl)[i]?=some y->∃c t,cs[i]?=some c∧ts[i]?=some t∧y=.bl (UJ c t):=by
 intro cs
 induction cs with
 |nil =>
  intro ts i y h e;cases ts with
  |nil=>simp [ZU] at e
  |cons t ts=>simp at h
 |cons c cs ih =>
  intro ts i y h e;cases ts with
  |nil=>simp at h
  |cons t ts =>
   cases i with
   |zero=>exact ⟨c,t,rfl,rfl,by simpa [ZU] using e.symm⟩
   |succ i =>
    obtain ⟨c',t',e1,e2,e3⟩:=ih (ts:=ts) (i:=i) (y:=y) (by simpa using h) (by simpa [ZU] using e);exact ⟨c',t',by simpa using e1,by simpa using e2,e3⟩
theorem Zgi {α:Type} {f:α->Bool}:∀{l:List α} {i:Nat} {p:α},l[i]?=some p->(∀j,j<i->∀p',l[j]?=some p'->f p'=false)->f p=true->l.find? f=some p
 |x::l,0,p,e,_,h=>by
  have e':x=p:=by simpa using e
  subst e';rw [RE,h]
 |x::l,i+1,p,e,b,h=>by
  rw [RE,b 0 (by omega) x rfl];exact Zgi (l:=l) (i:=i) (by simpa using e) (fun j hj p' e'=>b (j+1) (by omega) p' (by simpa using e')) h
theorem Zli {w:Str} {p:Str×List Chk} (e:WW[i]?=some p) (b:∀j,j<i->∀p',WW[j]?=some p'->w≠p'.1) (h:w=p.1):VP w=some p.2:=by
 unfold VP;rw [Zgi e (fun j hj p' e'=>Qr (b j hj p' e')) (Qu h)];rfl
theorem ZnC {w:Str} (b:∀j,j<6->∀p',WW[j]?=some p'->w≠p'.1):VP w=none:=by
 unfold VP;rw [NC.mpr]
 ·rfl
 ·intro p hp;obtain ⟨j,hj,e⟩:=List.getElem_of_mem hp;have:=b j hj p (by rw [←e];exact Qs hj);simpa using this
theorem ZjZ:∀p∈WW,p.2.length≤10:=by trivial
theorem ZkQ {K:W.Frag} {mg:Str->Option Value} (T:Tx K w mg) {p:Str×List Chk} (e:WW[i]?=some p) :
  ∃P G,[V.ref T.p0,.ref T.p1,.ref T.p2,.ref T.p3,.ref T.p4,.ref T.p5][i]?=some (.ref P)∧(∀H,SqT K H P [.str p.1,.ref G])∧∀H,SqT K H G (p.2.map fun c=>.ref (T.ad c)):=by
 match i,e with
 |0,e=>cases e;exact ⟨_,_,rfl,T.sp0,T.sg0⟩
 |1,e=>cases e;exact ⟨_,_,rfl,T.sp1,T.sg1⟩
 |2,e=>cases e;exact ⟨_,_,rfl,T.sp2,T.sg2⟩
 |3,e=>cases e;exact ⟨_,_,rfl,T.sp3,T.sg3⟩
 |4,e=>cases e;exact ⟨_,_,rfl,T.sp4,T.sg4⟩
 |5,e=>cases e;exact ⟨_,_,rfl,T.sp5,T.sg5⟩
 |n+6,e=>cases e
theorem Zlt (x:V) (xs:List V):YL (x::xs) (some 1) none=xs:=by
 unfold YL
 have e:HT.sIx (x::xs).length 0 (some 1)=1:=by
  show HT.sIx (x::xs).length 0 (some ((1:Nat):Int))=1;rw [HT.sIx_nat,QM];omega
 rw [e];show (xs.take ((x::xs).length-1))=xs;simp
theorem few {n:Nat} (h:Nat.ble n 1000=true):n≤sizeLine:=QO (ZF (Qy h))
theorem ZY {b:Bool} {B:Prop} (e:b=true) (h:A):if b=true then A else B:=by rw [Qb e];exact h
theorem Zr {b:Bool} {B:Prop} (e:b=false) (h:B):if b=true then A else B:=by rw [Qa (by rw [e];decide)];exact h
theorem YW {b:Bool} {B:Prop} (h1:b=true->A) (h2:b=false->B):if b=true then A else B:=by
 cases b with
 |true=>exact Z4 (h1 rfl)
 |false=>exact Z0 (h2 rfl)
section
variable {K:W.Frag} {xs:List V} {ts:List Vk}
theorem JN {lo hi:Option Int} (ha:SqT K H a xs) (hn:¬(HT.sIx xs.length 0 lo=0∧HT.sIx xs.length xs.length hi=xs.length)) (h:∀H' p,Same H H'->SqT K H' p (YL xs lo hi)->Q (.ref p) H'):ZfG K (.ref a) lo hi H Q :=
 ⟨a,xs,rfl,ha,hn,fun p np=>h _ p (Zj np) (.of Zg)⟩
end
theorem ZkF {x:V} {xs:List V}:∃y,Yg (x::xs) (-1)=some y∧(x::xs)[xs.length]?=some y:=by
 obtain ⟨ys,y,e⟩:∃ys y,x::xs=ys++[y]:=⟨(x::xs).dropLast,(x::xs).getLast (by simp),(ND (by simp)).symm⟩;refine ⟨y,by rw [e];exact ZcN ys y,?_⟩
 have hl:xs.length=ys.length:=by
  have:=QB List.length e;simp at this;omega
 rw [e,hl];simp
theorem Xm {x:Str}:decide (V.str x=V.str y)=decide (x=y):=by
 rw [Rh];simp
inductive Ent where
 |born (n s:Str) (d:Int) (f m:Str)
 |taken (c t:Str) (d:Int)
 |union (a b:Str) (d:Int)
 |parted (a b:Str) (d:Int)
 |dead (n:Str) (d:Int)
 |given (g t:Str) (a d:Int)
noncomputable def Ent.row:Ent->List Zl
 |.born n s d f m=>[.inr "born",.inr n,.inr s,.inl d,.inr f,.inr m]
 |.taken c t d=>[.inr "taken",.inr c,.inr t,.inl d]
 |.union a b d=>[.inr "union",.inr a,.inr b,.inl d]
 |.parted a b d=>[.inr "parted",.inr a,.inr b,.inl d]
 |.dead n d=>[.inr "dead",.inr n,.inl d]
 |.given g t a d=>[.inr "given",.inr g,.inr t,.inl a,.inl d]
noncomputable def Ent.tie:Ent->Bool
 |.union ..=>true
 |.parted ..=>true
 |_=>false
noncomputable def Ent.named:Ent->List Str
 |.born _ _ _ f m=>[f,m].filter fun x:Str=>decide (x≠"")
 |.taken c t _=>[c,t]
 |.union a b _=>[a,b]
 |.parted a b _=>[a,b]
 |.dead n _=>[n]
 |.given g t _ _=>[g,t]
noncomputable def Ent.day:Ent->Int
 |.born _ _ d _ _=>d
 |.taken _ _ d=>d
 |.union _ _ d=>d
 |.parted _ _ d=>d
 |.dead _ d=>d
 |.given _ _ _ d=>d
def EntAt (K:W.Frag) (H:Hp) (v:V) (e:Ent):Prop:=∃a,v=.ref a∧SqT K H a (e.row.map kV)
theorem EntAt.mono {K:W.Frag} (h:EntAt K H v e) (s:Same H H'):EntAt K H' v e:=by
 obtain ⟨a,rfl,q⟩:=h;exact ⟨a,rfl,s.sqt q⟩
theorem Zn {r:List V} {x:V} (h:r[j]?=some x):Yg r (j:Int)=some x:=XY h
noncomputable def U9 (x:Str):Option V:=if x="" then none else some (.str x)
theorem ZgG:∀l:List Str,(l.map U9).filterMap id=(l.filter fun x:Str=>decide (x≠"")).map V.str
 |[]=>rfl
 |x::r=>by
  have ih:=ZgG r;by_cases h:x=""
  ·subst h;simp only [Qx,Rb,G7];simpa [U9] using ih
  ·simp only [Qx,Rb,G7];simpa [U9,h] using ih
theorem ZX {H1:Hp} {D:Addr} (s:Same H H1) (n:H1 D=none):H D=none:=by
 cases e:H D with
 |none=>rfl
 |some o=>rw [s D o e] at n;cases n
noncomputable def Ent.key:Ent->List Zl
 |.born n _ _ _ _=>[.inr "born",.inr n]
 |.taken c t _=>[.inr "taken",.inr c,.inr t]
 |.union a b d=>[.inr "tie",.inr a,.inr b,.inl d]
 |.parted a b d=>[.inr "tie",.inr a,.inr b,.inl d]
 |.dead n _=>[.inr "dead",.inr n]
 |.given g t _ d=>[.inr "given",.inr g,.inr t,.inl d]
noncomputable def Ent.bornName:Ent->Option Str
 |.born n _ _ _ _=>some n
 |_=>none
structure Bk where
 kept:List (Ent×Addr)
 links:List ((Str×Str)×Addr×List Str)
 ties:List ((Str×Str)×Addr×List (Int×Str))
 sums:List ((Str×Str)×Int)
noncomputable def ZT (p:Str×Str):List Zl:=[.inr p.1,.inr p.2]
noncomputable def Bk.keptD (B:Bk):List (List Zl×V):=B.kept.map fun p=>(p.1.key,.ref p.2)
noncomputable def Bk.bornD (l:List (Ent×Addr)):List (Zl×V):=l.filterMap fun p=>p.1.bornName.map fun n=>(.inr n,.ref p.2)
noncomputable def Bk.linksD (B:Bk):List (List Zl×V):=B.links.map fun q=>(ZT q.1,.ref q.2.1)
noncomputable def Bk.tiesD (B:Bk):List (List Zl×V):=B.ties.map fun q=>(ZT q.1,.ref q.2.1)
noncomputable def Bk.sumsD (B:Bk):List (List Zl×V):=B.sums.map fun q=>(ZT q.1,.int q.2)
noncomputable def Vu (k bi li ti su:Addr):List (Str×V):=[("kept",.ref k),("births",.ref bi),("links",.ref li),("ties",.ref ti),("sums",.ref su)]
structure BkAt (K:W.Frag) (C:Addr) (H:Hp) (b dx k bi li ti su:Addr) (B:Bk):Prop where
 ob:H b=some (.ins C dx (Vu k bi li ti su))
 ap:[k,li,ti,su].Nodup
 at':(bi::B.ties.map (·.2.1)).Nodup
 ke:H k=some (.dT B.keptD)
 bi:H bi=some (.dK (Bk.bornD B.kept))
 li:H li=some (.dT B.linksD)
 ti:H ti=some (.dT B.tiesD)
 su:H su=some (.dT B.sumsD)
 en:∀p∈B.kept,SqT K H p.2 (p.1.row.map kV)
 ll:∀q∈B.links,H q.2.1=some (.lst (q.2.2.map V.str))
 tt:∀q∈B.ties,H q.2.1=some (.dK (q.2.2.map fun r=>(.inl r.1,.str r.2)))
theorem BkAt.mono {K:W.Frag} {k:Addr} (h:BkAt K C H b dx k bi li ti su B) (s:Same H H'):BkAt K C H' b dx k bi li ti su B :=
 ⟨s _ _ h.ob,h.ap,h.at',s _ _ h.ke,s _ _ h.bi,s _ _ h.li,s _ _ h.ti,s _ _ h.su,fun p hp=>s.sqt (h.en p hp),fun q hq=>s _ _ (h.ll q hq),fun q hq=>s _ _ (h.tt q hq)⟩
def BkHas (K:W.Frag) (C:Addr) (H:Hp) (v:V) (B:Bk):Prop:=∃b dx k bi li ti su,v=.ref b∧BkAt K C H b dx k bi li ti su B
theorem BkHas.mono {K:W.Frag} (h:BkHas K C H v B) (s:Same H H'):BkHas K C H' v B:=by
 obtain ⟨b,dx,k,bi,li,ti,su,e,h⟩:=h;exact ⟨b,dx,k,bi,li,ti,su,e,h.mono s⟩
noncomputable def Z7 (n:Str):List (Ent×Addr)->Option (Ent×Addr)
 |[]=>none
 |p::r=>if p.1.bornName=some n then some p else Z7 n r
theorem ZaZ {n:Str}:∀{l:List (Ent×Addr)} {p:Ent×Addr},Z7 n l=some p->p∈l∧p.1.bornName=some n
 |[],_,h=>by cases h
 |q::r,p,h=>by
  unfold Z7 at h;split at h
  ·cases h;exact ⟨QH ..,by assumption⟩
  ·obtain ⟨h1,h2⟩:=ZaZ h;exact ⟨QC _ h1,h2⟩
theorem ZcT (n:Str):∀l:List (Ent×Addr),ZH (Bk.bornD l) (.inr n:Zl)=(Z7 n l).map fun p=>.ref p.2
 |[]=>rfl
 |p::r=>by
  have ih:=ZcT n r;unfold Bk.bornD Z7;rw [Rb];cases h:p.1.bornName with
  |none =>
   simp only [Option.map_none];rw [Qa (by simp)];exact ih
  |some x =>
   simp only [G9];by_cases e:x=n
   ·subst e;rw [XQ rfl,Qb rfl];rfl
   ·rw [XW (fun q=>e (R0 q)),Qa (fun q=>e (Qj q))];exact ih
theorem ZcG {k:Addr}:(Vu k bi li ti su).lookup ("kept" : Str)=some (.ref k):=rfl
theorem JO {k:Addr}:(Vu k bi li ti su).lookup ("births" : Str)=some (.ref bi):=rfl
theorem ZaL {k:Addr}:(Vu k bi li ti su).lookup ("links" : Str)=some (.ref li):=rfl
theorem Zgv {k:Addr}:(Vu k bi li ti su).lookup ("ties" : Str)=some (.ref ti):=rfl
theorem ZgB {k:Addr}:(Vu k bi li ti su).lookup ("sums" : Str)=some (.ref su):=rfl
noncomputable def Za3 (B:Bk) (n:Str):Option (Str×Int):=match Z7 n B.kept with
 |some (.born _ s d _ _,_)=>some (s,d)
 |_=>none
noncomputable def Wa (B:Bk) (n:Str):Str:=((Za3 B n).map (·.1)).getD ""
noncomputable def Ym (B:Bk) (n:Str):Int:=((Za3 B n).map (·.2)).getD 0
theorem ZaV {p:Ent×Addr} (h:Z7 n B.kept=some p) (e:p.1=.born n' s d f m):Wa B n=s:=by
 obtain ⟨e',a⟩:=p;cases e;unfold Wa Za3;rw [h];rfl
theorem Zak {p:Ent×Addr} (h:Z7 n B.kept=some p) (e:p.1=.born n' s d f m):Ym B n=d:=by
 obtain ⟨e',a⟩:=p;cases e;unfold Ym Za3;rw [h];rfl
noncomputable def XU (B:Bk) (n s:Str) (d:Int):Bool:=decide (n="")||(decide (Wa B n=s)&&decide (Ym B n<d))
def Known (B:Bk) (n:Str):Prop:=Z7 n B.kept≠none
noncomputable def Wf (B:Bk) (e:Ent):Bool:=match e with
 |.born _ _ d f m=>XU B f "he" d&&XU B m "she" d
 |.taken c t d=>decide (c≠t)&&decide (Ym B t<Ym B c)&&e.named.all fun n=>decide (Ym B n≤d)
 |.dead n d=>decide (Ym B n≤d)
 |.union a b d=>decide (a≠b)&&e.named.all fun n=>decide (Ym B n≤d)
 |.parted a b d=>decide (a≠b)&&e.named.all fun n=>decide (Ym B n≤d)
 |.given a b _ d=>decide (a≠b)&&e.named.all fun n=>decide (Ym B n≤d)
theorem Ww {a b:TS} {D:Ends} (J:St->Hp->Prop) (h1:∀nx,(∀σ H,J σ H->nx σ H)->a { D with nx:=nx } σ H) (h2:∀σ H,J σ H->b D σ H):J8 a b D σ H:=h1 (b D) h2
noncomputable def Ent.isBorn:Ent->Bool
 |.born ..=>true
 |_=>false
noncomputable def Ent.same:Ent->Bool
 |.taken c t _=>decide (c=t)
 |.union a b _=>decide (a=b)
 |.parted a b _=>decide (a=b)
 |.given a b _ _=>decide (a=b)
 |_=>false
noncomputable def Ent.early (B:Bk):Ent->Bool
 |.taken c t _=>decide (Ym B c≤Ym B t)
 |_=>false
theorem Za5 (h:e.isBorn=false):Wf B e=(!e.same&&!e.early B&&e.named.all fun n=>decide (Ym B n≤e.day)):=by
 cases e with
 |born=>cases h
 |taken c t d =>
  unfold Wf Ent.same Ent.early;have h1:decide (c≠t)=!decide (c=t):=by simp
  have h2:decide (Ym B t<Ym B c)=!decide (Ym B c≤Ym B t):=by
   rw [Rh];simp
  simp only [h1,h2];rfl
 |dead n d =>
  simp [Wf,Ent.same,Ent.early,Ent.named,Ent.day];rfl
 |_ =>
  simp [Wf,Ent.same,Ent.early,Ent.day];rfl
theorem ZnX {k:Addr}:Zt "sums" (.ref su) (Zt "ties" (.ref ti) (Zt "links" (.ref li) (Zt "births" (.ref bi) (Zt "kept" (.ref k) []))))=Vu k bi li ti su:=by
 rfl
noncomputable def Vr:Bk:=⟨[],[],[],[]⟩
theorem Wz {p:Addr} {fs:List (Str×V)} (f:Str) (o:HO) (h:H b=some (.ins C dx fs)) (n:H p=none) :
  (Zc (Zc H p o) b (.ins C dx (Zt f (.ref p) fs))) b=some (.ins C dx (Zt f (.ref p) fs))∧(Zc (Zc H p o) b (.ins C dx (Zt f (.ref p) fs))) p=some o ∧
  (∀c u,H c=some u->c≠b->(Zc (Zc H p o) b (.ins C dx (Zt f (.ref p) fs))) c=some u)∧∀c,(Zc (Zc H p o) b (.ins C dx (Zt f (.ref p) fs))) c=none->H c=none:=by
 have pb:p≠b:=fun e=>by subst e;rw [h] at n;cases n
 refine ⟨Zg,(Zd pb).trans Zg,fun c u e cb=>(Zd cb).trans ((Zd (ZA e n)).trans e),fun c e=>?_⟩;by_cases cb:c=b
 ·subst cb;rw [Zg] at e;cases e
 rw [Zd cb] at e;by_cases cp:c=p
 ·subst cp;exact n
 rw [Zd cp] at e;exact e
noncomputable def Yc (c:Str×Str):List ((Str×Str)×Addr×List Str)->Option (Addr×List Str)
 |[]=>none
 |q::r=>if q.1=c then some q.2 else Yc c r
theorem Ui {a b:Str×Str} (h:ZT a=ZT b):a=b:=by
 unfold ZT at h;simp at h;exact Rg h.1 h.2
theorem Zer (c:Str×Str):∀l:List ((Str×Str)×Addr×List Str),ZH (l.map fun q=>(ZT q.1,V.ref q.2.1)) (ZT c)=(Yc c l).map fun q=>.ref q.1
 |[]=>rfl
 |q::r=>by
  have ih:=Zer c r;unfold Yc;rw [Qx];by_cases e:q.1=c
  ·subst e;rw [XQ rfl,Qb rfl];rfl
  ·rw [XW (fun z=>e (Ui z)),Qa e];exact ih
theorem Zb5 {c:Str×Str}:∀{l:List ((Str×Str)×Addr×List Str)} {x:Addr×List Str},Yc c l=some x->∃q∈l,q.2=x
 |[],_,h=>by cases h
 |q::r,x,h=>by
  unfold Yc at h;split at h
  ·cases h;exact ⟨q,QH ..,rfl⟩
  ·obtain ⟨z,hz,e⟩:=Zb5 h;exact ⟨z,QC _ hz,e⟩
noncomputable def Yn (B:Bk) (l n:Str):List Str:=((Yc (l,n) B.links).map (·.2)).getD []
noncomputable def XC:List Str:=["F","M","T","f","m","t","S"]
noncomputable def Vf (x:Str):Bool:=decide (x∈XC)
theorem Zbv (x:Str):∀l:List Str,Xz (.str x) (l.map V.str)=decide (x∈l):=by
 intro l;unfold Xz
 induction l with
 |nil=>rfl
 |cons y r ih =>
  rw [Qx,Rj,ih];by_cases h:x=y
  ·subst h;simp [Xq]
  ·simp [Xq,h,QX h]
theorem Zal {a b:Str} (h1:ZL a b=false) (h2:ZL b a=false):a=b:=by
 unfold ZL at h1 h2
 have e:a.cps.toList=b.cps.toList:=by
  have l1:=RF h1;have l2:=RF h2;exact List.le_antisymm (List.not_lt.mp l2) (List.not_lt.mp l1)
 obtain ⟨a⟩:=a;obtain ⟨b⟩:=b;have e2:a=b:=Array.toList_inj.mp e;rw [e2]
noncomputable def Zf (a b:Str):Str×Str:=if ZL b a=true then (b,a) else (a,b)
theorem Zhp {a b:Str} {zs:List Str} (hp:zs.Perm [a,b]) (hs:PyProof.Rows.sortedS zs=true):zs=[(Zf a b).1,(Zf a b).2]:=by
 have hl:=hp.length_eq
 match zs,hl with
 |[x,y],_ =>
  have hs2:ZL y x=false:=by
   have h3:(!PySem.Spec.ltCps y.cps.toList x.cps.toList&&true)=true:=hs;rw [PyProof.Rows.ltCps_eq] at h3;simpa [ZL] using h3
  have hm:x∈[a,b]:=hp.subset (by simp)
  have hp2:(x=a∧y=b)∨(x=b∧y=a):=by
   rcases Qh.mp hm with rfl|hm
   ·have:=hp.cons_inv;exact .inl ⟨rfl,by simpa using this⟩
   ·have e:x=b:=by simpa using hm
    subst e;have h4:[x,y].Perm [x,a]:=hp.trans (List.Perm.swap ..);have:=h4.cons_inv;exact .inr ⟨rfl,by simpa using this⟩
  unfold Zf;rcases hp2 with ⟨rfl,rfl⟩|⟨rfl,rfl⟩
  ·rw [hs2];rfl
  ·by_cases h:ZL x y=true
   ·rw [Qb h]
   ·rw [Qa h,Zal (Rq.mpr h) hs2]
noncomputable def Ent.told:Ent->Ent
 |.union a b d=>.union (Zf a b).1 (Zf a b).2 d
 |.parted a b d=>.parted (Zf a b).1 (Zf a b).2 d
 |e=>e
theorem Zpf (a b:Str):(if ZL b a=true then b else a)=(Zf a b).1:=by
 unfold Zf;by_cases h:ZL b a=true
 ·rw [Qb h,Qb h]
 ·rw [Qa h,Qa h]
theorem Znz (a b:Str):(if ZL a b=true then b else a)=(Zf a b).2:=by
 unfold Zf;by_cases h:ZL b a=true
 ·rw [Qb h];by_cases h2:ZL a b=true
  ·have l1:b.cps.toList<a.cps.toList:=Q9 h;have l2:a.cps.toList<b.cps.toList:=Q9 h2;exact absurd l1 (NE l2)
  ·rw [Qa h2]
 ·rw [Qa h];by_cases h2:ZL a b=true
  ·rw [Qb h2]
  ·rw [Qa h2,Zal (Rq.mpr h) (Rq.mpr h2)]
noncomputable def Zac:Zl->Vk
 |.inl i=>.int i
 |.inr x=>.str x
theorem Zcz {K:W.Frag} {H:Hp}:∀(l:List Zl),(∀x:Str,(.inr x:Zl)∈l->x.length≤100)->Vws K H (l.map kV) (l.map Zac)
 |[],_=>trivial
 |.inl i::r,h=>⟨rfl,Zcz r fun x hx=>h x (QC _ hx)⟩
 |.inr y::r,h=>⟨⟨rfl,h y (QH ..)⟩,Zcz r fun x hx=>h x (QC _ hx)⟩
structure Ent.Ok (e:Ent):Prop where
 en:UE (e.row.map Zac)=true
 sh:∀x:Str,(.inr x:Zl)∈e.row->x.length≤100
theorem Ent.row_len (e:Ent):(e.row.map Zac).length≤10:=by
 cases e<;>exact Qy rfl
theorem Ent.Ok.tv (h:e.Ok) {K:W.Frag} (hE:SqT K H a (e.row.map kV)):Tv K H (.ref a) (e.row.map Zac):=⟨a,_,rfl,hE,Zcz _ h.sh⟩
inductive Rf where
 |full|person|twice|fit
noncomputable def Bk.full (B:Bk) (e:Ent):Bool:=decide (400≤B.kept.length)||(e.isBorn&&decide (60≤(Bk.bornD B.kept).length))
noncomputable def X5 (B:Bk) (e:Ent):Option Rf :=
 if B.full e=true then some .full
 else if (e.named.all fun n=>(Z7 n B.kept).isSome)=false then some .person
 else if (ZH B.keptD e.told.key).isSome=true then some .twice
 else if Wf B e=true then none else some .fit
theorem ZgP (kn:∀n∈e.named,Known B n):(e.named.all fun n=>(Z7 n B.kept).isSome)=true:=by
 rw [Ru];intro n hn;have:=kn n hn;unfold Known at this;exact NR.mpr this
theorem Zlq (h:B.full e=false) (kn:∀n∈e.named,Known B n) (t:(ZH B.keptD e.told.key).isSome=false) (f:Wf B e=true):X5 B e=none:=by
 unfold X5;rw [h,Qa (by decide),ZgP kn,Qa (by decide),t,Qa (by decide),f,Qb rfl]
theorem ZgU {a b c:Str} (h1:ZL a b=true) (h2:ZL b c=true):ZL a c=true:=by
 unfold ZL at *;exact Qu (List.lt_trans (Q9 h1) (Q9 h2))
theorem ZlT (a:Str):ZL a a=false:=by
 unfold ZL;exact Qr (List.lt_irrefl _)
noncomputable def YC (a b:Str):Bool:=!ZL b a
theorem Zhj {a b c:Str} (h1:YC a b=true) (h2:YC b c=true):YC a c=true:=by
 unfold YC at *;simp only [GR] at *;cases h:ZL c a with
 |false=>rfl
 |true =>
  by_cases e:a=b
  ·subst e;rw [h] at h2;cases h2
  ·have hab:ZL a b=true:=by
    cases h3:ZL a b with
    |true=>rfl
    |false=>exact absurd (Zal h3 h1) e
   rw [ZgU h hab] at h2;cases h2
theorem Zlo (a b:Str):(YC a b||YC b a)=true:=by
 unfold YC;cases h:ZL b a with
 |false=>rfl
 |true =>
  cases h2:ZL a b with
  |false=>rfl
  |true=>exact absurd (ZgU h2 h) (by rw [ZlT a];decide)
noncomputable def ZB (l:List Str):List Str:=l.mergeSort YC
theorem Wn (l:List Str):(ZB l).Perm l:=List.mergeSort_perm ..
theorem VZ (l:List Str):(ZB l).Pairwise fun a b=>YC a b=true:=List.pairwise_mergeSort (le:=YC) (fun _ _ _=>Zhj) Zlo l
theorem Zb1:∀{l:List Str},PyProof.Rows.sortedS l=true->l.Pairwise fun a b=>YC a b=true
 |[],_=>.nil
 |[x],_=>.cons (by simp) .nil
 |x::y::r,h=>by
  have h':(!PySem.Spec.ltCps y.cps.toList x.cps.toList&&PyProof.Rows.risingS y r)=true:=h;rw [RD] at h';obtain ⟨h1,h2⟩:=h';have ih:=Zb1 (l:=y::r) h2
  have hxy:YC x y=true:=by
   rw [PyProof.Rows.ltCps_eq] at h1;exact h1
  refine .cons (fun z hz=>?_) ih;rcases Qh.mp hz with rfl|hz
  ·exact hxy
  ·exact Zhj hxy (NF ih hz)
theorem Zau:∀{l m:List Str},l.Perm m->(l.Pairwise fun a b=>YC a b=true)->(m.Pairwise fun a b=>YC a b=true)->l=m
 |[],m,p,_,_=>p.nil_eq
 |x::l,[],p,_,_=>absurd p.length_eq (by simp)
 |x::l,y::m,p,h1,h2=>by
  have e:x=y:=by
   by_cases e:x=y
   ·exact e
   have hx:x∈m:=by
    have:x∈y::m:=p.subset (QH ..);rcases Qh.mp this with h|h
    ·exact absurd h e
    ·exact h
   have hy:y∈l:=by
    have:y∈x::l:=p.symm.subset (QH ..);rcases Qh.mp this with h|h
    ·exact absurd h.symm e
    ·exact h
   have a1:=NF h1 hy;have a2:=NF h2 hx;unfold YC at a1 a2;simp only [GR] at a1 a2;exact Zal a2 a1
  subst e;rw [Zau p.cons_inv (List.pairwise_cons.mp h1).2 (List.pairwise_cons.mp h2).2]
theorem Zes {zs l:List Str} (hp:zs.Perm l) (hs:PyProof.Rows.sortedS zs=true):zs=ZB l:=Zau (hp.trans (Wn l).symm) (Zb1 hs) (VZ l)
structure But (S:List Addr) (H H':Hp):Prop where
 eq:∀a o,a∉S->H a=some o->H' a=some o
 al:∀a,H' a=none->H a=none
theorem But.of (S:List Addr) (s:Same H H'):But S H H':=⟨fun a o _ e=>s a o e,fun a n=>ZX s n⟩
theorem But.trans {H'':Hp} (h1:But S H H') (h2:But S H' H''):But S H H'':=⟨fun a o n e=>h2.eq a o n (h1.eq a o n e),fun a n=>h1.al a (h2.al a n)⟩
theorem But.put {o':HO} (e:H a=some o) (h:a∈S):But S H (Zc H a o'):=by
 refine ⟨fun c u n q=>(Zd (fun z:c=a=>n (by rw [z];exact h))).trans q,fun c n=>?_⟩;by_cases z:c=a
 ·subst z;rw [Zg] at n;cases n
 ·rw [Zd z] at n;exact n
noncomputable def Zp {κ α:Type} [DecidableEq κ] (l:List (κ×α)) (c:κ) (x:α):List (κ×α) :=
 if (l.any fun q=>decide (q.1=c))=true then l.map (fun q=>if q.1=c then (q.1,x) else q) else l++[(c,x)]
theorem U2 {κ κ' α:Type} [DecidableEq κ] [DecidableEq κ'] {f:κ->κ'} (hf:∀a b,f a=f b->a=b) (g:α->V) (l:List (κ×α)) (c:κ) (x:α) :
  Ys (l.map fun q=>(f q.1,g q.2)) (f c) (g x)=(Zp l c x).map fun q=>(f q.1,g q.2):=by
 have hd:∀a:κ,decide (f a=f c)=decide (a=c):=fun a=>by
  by_cases e:a=c
  ·subst e;simp
  ·rw [Qr e,Qr (fun z=>e (hf _ _ z))]
 unfold Ys Zp
 have e1:((l.map fun q=>(f q.1,g q.2)).any fun kv=>decide (kv.1=f c))=l.any fun q=>decide (q.1=c):=by
  rw [List.any_map];exact QB (fun z=>l.any z) (funext fun q=>hd q.1)
 rw [e1];by_cases h:(l.any fun q=>decide (q.1=c))=true
 ·rw [Qb h,Qb h,QR,QR];refine Gx fun q _=>?_;show (if f q.1=f c then (f q.1,g x) else (f q.1,g q.2))=(fun q=>(f q.1,g q.2)) (if q.1=c then (q.1,x) else q);by_cases e:q.1=c
  ·rw [Qb e,Qb (by rw [e])]
  ·rw [Qa e,Qa (fun z=>e (hf _ _ z))]
 ·rw [Qa h,Qa h,Qv];rfl
theorem ZaM {κ α:Type} [DecidableEq κ] {l:List (κ×α)} {c:κ} {x:α} {q:κ×α} (h:q∈Zp l c x):q=(c,x)∨q∈l:=by
 unfold Zp at h;split at h
 ·obtain ⟨p,hp,e⟩:=Qg.mp h;split at e
  ·rename_i pc;subst e;exact .inl (by rw [pc])
  ·subst e;exact .inr hp
 ·rcases Ql.mp h with h|h
  ·exact .inr h
  ·exact .inl (by simpa using h)
theorem ZaO {k:Addr} (h:[k,li,ti,su].Nodup):k≠li∧k≠ti∧k≠su∧li≠ti∧li≠su∧ti≠su:=by
 simp at h;exact ⟨h.1.1,h.1.2.1,h.1.2.2,h.2.1.1,h.2.1.2,h.2.2⟩
theorem Ye {c:Addr} (h1:H a=some o) (h2:H c=some u) (n:o≠u):a≠c:=fun e=>by
 subst e;rw [h1] at h2;exact n (Qj h2)
theorem Wu {K:W.Frag} {c:Addr} {xs:List V} {o':HO} (h:SqT K H a xs) (e:H c=some o) (no:∀ys,o≠.tup ys) (nf:∀x ys,o≠.frz x ys):SqT K (Zc H c o') a xs:=by
 rcases h with h|h
 ·rcases h with h|⟨x,h⟩
  ·exact .inl (.inl ((Zd (Ye h e (fun z=>no _ z.symm))).trans h))
  ·exact .inl (.inr ⟨x,(Zd (Ye h e (fun z=>nf _ _ z.symm))).trans h⟩)
 ·exact .inr h
theorem BkAt.links {K:W.Frag} {k:Addr} (h:BkAt K C H b dx k bi li ti su B) {l:List ((Str×Str)×Addr×List Str)}
 (hl:∀q∈l,H q.2.1=some (.lst (q.2.2.map V.str))):BkAt K C (Zc H li (.dT (l.map fun q=>(ZT q.1,V.ref q.2.1)))) b dx k bi li ti su { B with links:=l }:=by
 obtain ⟨n1,n2,n3,n4,n5,n6⟩:=ZaO h.ap;have dk:∀{c:Addr} {z:List (Zl×V)},H c=some (.dK z)->c≠li:=fun e=>Ye e h.li (fun z=>by cases z)
 exact ⟨(Zd (Ye h.ob h.li (fun z=>by cases z))).trans h.ob,h.ap,h.at',(Zd n1).trans h.ke,(Zd (dk h.bi)).trans h.bi,Zg,(Zd n4.symm).trans h.ti,(Zd n5.symm).trans h.su,
  fun p hp=>Wu (h.en p hp) h.li (fun _ z=>by cases z) (fun _ _ z=>by cases z),fun q hq=>(Zd (Ye (hl q hq) h.li (fun z=>by cases z))).trans (hl q hq),fun q hq=>(Zd (dk (h.tt q hq))).trans (h.tt q hq)⟩
noncomputable def lk (ls:List ((Str×Str)×Addr×List Str)) (c:Str×Str):List Str:=((Yc c ls).map (·.2)).getD []
noncomputable def Z8 (f:Str×Str->List Str) (c:Str×Str) (m:Str):Str×Str->List Str:=fun x=>if x=c then ZB (f c++[m]) else f x
theorem Zhv {c:Str×Str}:∀{l:List ((Str×Str)×Addr×List Str)},(l.any fun q=>decide (q.1=c))=false->Yc c l=none
 |[],_=>rfl
 |q::r,h=>by
  rw [Rj,Bool.or_eq_false_iff] at h;unfold Yc;rw [Qa (RF h.1)];exact Zhv h.2
theorem Ze3 {c:Str×Str}:∀{l m:List ((Str×Str)×Addr×List Str)},Yc c (l++m)=(Yc c l).or (Yc c m)
 |[],m=>by simp [Yc]
 |q::r,m=>by
  show (if q.1=c then some q.2 else Yc c (r++m))=(if q.1=c then some q.2 else Yc c r).or (Yc c m);by_cases e:q.1=c
  ·rw [Qb e,Qb e];rfl
  ·rw [Qa e,Qa e];exact Ze3
theorem Ze4 {c d:Str×Str} {x:Addr×List Str}:∀{l:List ((Str×Str)×Addr×List Str)},Yc d (l.map fun q=>if q.1=c then (q.1,x) else q)=if d=c then (Yc c l).map (fun _=>x) else Yc d l
 |[]=>by by_cases e:d=c<;>simp [Yc,e]
 |q::r=>by
  have ih:=Ze4 (c:=c) (d:=d) (x:=x) (l:=r);rw [Qx];by_cases e:q.1=c
  ·rw [Qb e];by_cases e2:d=c
   ·subst e2;rw [Qb rfl];unfold Yc;rw [Qb e,Qb e];rfl
   ·rw [Qa e2] at ih ⊢;unfold Yc;rw [Qa (fun z=>e2 (z.symm.trans e)),Qa (fun z=>e2 (z.symm.trans e))];exact ih
  ·rw [Qa e];by_cases e2:d=c
   ·subst e2;rw [Qb rfl] at ih ⊢;unfold Yc;rw [Qa e,Qa e];exact ih
   ·rw [Qa e2] at ih ⊢;unfold Yc;by_cases e3:q.1=d
    ·rw [Qb e3,Qb e3]
    ·rw [Qa e3,Qa e3];exact ih
theorem ZhU (l:List ((Str×Str)×Addr×List Str)) (c d:Str×Str) (x:Addr×List Str):Yc d (Zp l c x)=if d=c then some x else Yc d l:=by
 unfold Zp;by_cases h:(l.any fun q=>decide (q.1=c))=true
 ·rw [Qb h,Ze4];by_cases e:d=c
  ·rw [Qb e,Qb e];cases hk:Yc c l with
   |some y=>rfl
   |none =>
    exfalso
    have:∀{l:List ((Str×Str)×Addr×List Str)},Yc c l=none->(l.any fun q=>decide (q.1=c))=false:=by
     intro l
     induction l with
     |nil=>intro _;rfl
     |cons q r ih =>
      intro hn;unfold Yc at hn;by_cases e:q.1=c
      ·rw [Qb e] at hn;cases hn
      ·rw [Qa e] at hn;rw [Rj,ih hn,Qr e];rfl
    rw [this hk] at h;cases h
  ·rw [Qa e,Qa e]
 ·rw [Qa h,Ze3];by_cases e:d=c
  ·subst e;rw [Qb rfl,Zhv (Rq.mpr h)];simp [Yc]
  ·rw [Qa e];cases Yc d l with
   |some y=>rfl
   |none=>simp [Yc,QX e]
theorem Vd (l:List ((Str×Str)×Addr×List Str)) (c d:Str×Str) (D:Addr) (m:Str):lk (Zp l c (D,ZB (lk l c++[m]))) d=Z8 (lk l) c m d:=by
 unfold lk Z8;rw [ZhU];by_cases e:d=c
 ·rw [Qb e,Qb e];rfl
 ·rw [Qa e,Qa e]
theorem X3 {κ α:Type} [DecidableEq κ] (l:List (κ×α)) (c:κ) (x:α):(Zp l c x).length≤l.length+1:=by
 unfold Zp;split
 ·rw [Qc];omega
 ·rw [Qq];exact Qe _
theorem UF (B:Bk) (l n:Str):Yn B l n=lk B.links (l,n):=rfl
noncomputable def Xp (F:Str×Str->List Str) (n f m:Str):Str×Str->List Str :=
 let F1:=if f="" then F else Z8 (Z8 F ("F",n) f) ("f",f) n
 if m="" then F1 else Z8 (Z8 F1 ("M",n) m) ("m",m) n
theorem Zaq {d:Str×Str} (h:d.1≠c.1):Z8 F c m d=F d:=Qa fun e=>h (by rw [e])
theorem Zab {G:Str×Str->List Str} (h:∀c,F c=G c) (c:Str×Str) (m:Str) (d:Str×Str):Z8 F c m d=Z8 G c m d:=by
 unfold Z8;rw [h c,h d]
theorem Zjy (l:List (Ent×Addr)) (n s:Str) (d:Int) (f m:Str) (a:Addr):Bk.bornD (l++[(.born n s d f m,a)])=Bk.bornD l++[(.inr n,.ref a)]:=by
 unfold Bk.bornD;rw [RX];rfl
theorem Zph (l:List (Ent×Addr)):(Bk.bornD l).length≤l.length:=Rr ..
theorem But.mono {S':List Addr} (h:But S H H') (i:∀a∈S,a∈S'):But S' H H':=⟨fun a o n e=>h.eq a o (fun z=>n (i a z)) e,h.al⟩
noncomputable def Zam (l:List (Ent×Addr)):List (Str×V):=l.filterMap fun p=>p.1.bornName.map fun n=>(n,.ref p.2)
theorem Zg6 (l:List (Ent×Addr)):Bk.bornD l=(Zam l).map fun p=>(.inr p.1,p.2):=by
 unfold Bk.bornD Zam;rw [Gy]
 congr 1
 funext p
 cases p.1.bornName<;>rfl
noncomputable def YV (l:List (Ent×Addr)):List Str:=l.filterMap fun p=>p.1.bornName
theorem Zg4 (l:List (Ent×Addr)):(Zam l).map (·.1)=YV l:=by
 unfold YV Zam;rw [Gy]
 congr 1
 funext p
 cases p.1.bornName<;>rfl
def Grows (H:Hp) (ls ls':List ((Str×Str)×Addr×List Str)):Prop:=∀q∈ls',(∃p∈ls,p.2.1=q.2.1)∨H q.2.1=none
theorem Grows.refl (H:Hp) (ls:List ((Str×Str)×Addr×List Str)):Grows H ls ls:=fun q hq=>.inl ⟨q,hq,rfl⟩
theorem Grows.put {ls ls':List ((Str×Str)×Addr×List Str)} {D:Addr} {x:List Str} (g:Grows H ls ls') (n:H D=none):Grows H ls (Zp ls' c (D,x)):=fun q hq=>by
 rcases ZaM hq with rfl|hq
 ·exact .inr n
 ·exact g q hq
theorem Grows.back {ls ls':List ((Str×Str)×Addr×List Str)} (g:Grows H' ls ls') (al:∀a,H' a=none->H a=none):Grows H ls ls':=fun q hq=>(g q hq).imp id (al _)
noncomputable def ZD {κ α:Type} [DecidableEq κ] (c:κ):List (κ×α)->Option α
 |[]=>none
 |q::r=>if q.1=c then some q.2 else ZD c r
theorem Zh3 {κ α:Type} [DecidableEq κ] {c:κ}:∀{l:List (κ×α)},(l.any fun q=>decide (q.1=c))=false->ZD c l=none
 |[],_=>rfl
 |q::r,h=>by
  rw [Rj,Bool.or_eq_false_iff] at h;unfold ZD;rw [Qa (RF h.1)];exact Zh3 h.2
theorem ZaE {κ α:Type} [DecidableEq κ] {c:κ}:∀{l:List (κ×α)},ZD c l=none->(l.any fun q=>decide (q.1=c))=false
 |[],_=>rfl
 |q::r,h=>by
  unfold ZD at h;by_cases e:q.1=c
  ·rw [Qb e] at h;cases h
  ·rw [Qa e] at h;rw [Rj,ZaE h,Qr e];rfl
theorem Zbg {κ α:Type} [DecidableEq κ] {c:κ}:∀{l m:List (κ×α)},ZD c (l++m)=(ZD c l).or (ZD c m)
 |[],m=>by simp [ZD]
 |q::r,m=>by
  show (if q.1=c then some q.2 else ZD c (r++m))=(if q.1=c then some q.2 else ZD c r).or (ZD c m);by_cases e:q.1=c
  ·rw [Qb e,Qb e];rfl
  ·rw [Qa e,Qa e];exact Zbg
theorem ZfE {κ α:Type} [DecidableEq κ] {c d:κ} {x:α}:∀{l:List (κ×α)},ZD d (l.map fun q=>if q.1=c then (q.1,x) else q)=if d=c then (ZD c l).map (fun _=>x) else ZD d l
 |[]=>by by_cases e:d=c<;>simp [ZD,e]
 |q::r=>by
  have ih:=ZfE (c:=c) (d:=d) (x:=x) (l:=r);rw [Qx];by_cases e:q.1=c
  ·rw [Qb e];by_cases e2:d=c
   ·subst e2;rw [Qb rfl];unfold ZD;rw [Qb e,Qb e];rfl
   ·rw [Qa e2] at ih ⊢;unfold ZD;rw [Qa (fun z=>e2 (z.symm.trans e)),Qa (fun z=>e2 (z.symm.trans e))];exact ih
  ·rw [Qa e];by_cases e2:d=c
   ·subst e2;rw [Qb rfl] at ih ⊢;unfold ZD;rw [Qa e,Qa e];exact ih
   ·rw [Qa e2] at ih ⊢;unfold ZD;by_cases e3:q.1=d
    ·rw [Qb e3,Qb e3]
    ·rw [Qa e3,Qa e3];exact ih
theorem ZhX {κ α:Type} [DecidableEq κ] (l:List (κ×α)) (c d:κ) (x:α):ZD d (Zp l c x)=if d=c then some x else ZD d l:=by
 unfold Zp;by_cases h:(l.any fun q=>decide (q.1=c))=true
 ·rw [Qb h,ZfE];by_cases e:d=c
  ·rw [Qb e,Qb e];cases hk:ZD c l with
   |some y=>rfl
   |none=>rw [ZaE hk] at h;cases h
  ·rw [Qa e,Qa e]
 ·rw [Qa h,Zbg];by_cases e:d=c
  ·subst e;rw [Qb rfl,Zh3 (Rq.mpr h)];simp [ZD]
  ·rw [Qa e];cases ZD d l with
   |some y=>rfl
   |none=>simp [ZD,QX e]
theorem Ue {κ α:Type} [DecidableEq κ] {c:κ}:∀{l:List (κ×α)} {x:α},ZD c l=some x->(c,x)∈l
 |[],_,h=>by cases h
 |q::r,x,h=>by
  unfold ZD at h;by_cases e:q.1=c
  ·rw [Qb e] at h;cases h;rw [←e];exact QH ..
  ·rw [Qa e] at h;exact QC _ (Ue h)
theorem Zao {κ κ' α:Type} [DecidableEq κ] [DecidableEq κ'] {f:κ->κ'} (hf:∀a b,f a=f b->a=b) (g:α->V) (c:κ):∀l:List (κ×α),ZH (l.map fun q=>(f q.1,g q.2)) (f c)=(ZD c l).map g
 |[]=>rfl
 |q::r=>by
  have ih:=Zao hf g c r;unfold ZD;rw [Qx];by_cases e:q.1=c
  ·subst e;rw [XQ rfl,Qb rfl];rfl
  ·rw [XW (fun z=>e (hf _ _ z)),Qa e];exact ih
noncomputable def Yy (B:Bk) (c:Str×Str):List (Int×Str):=((ZD c B.ties).map (·.2)).getD []
noncomputable def YN (l:List (Int×Str)):Bool:=match (l.map (·.1)).max? with
 |none=>false
 |some m=>decide (ZD m l=some ("union" : Str))
noncomputable def Zby (B:Bk) (a b:Str):Bool:=YN (Yy B (Zf a b))
noncomputable def YR (l:List (Int×Str)):List (Zl×V):=l.map fun r=>(.inl r.1,.str r.2)
theorem ZhR:∀a b:Int,(.inl a:Zl)=.inl b->a=b:=fun _ _ h=>Sum.inl.inj h
theorem ZoN {m:Int} (h:m∈l.map (·.1)):∃x,ZD m l=some x:=by
 cases e:ZD m l with
 |some x=>exact ⟨x,rfl⟩
 |none =>
  obtain ⟨q,hq,rfl⟩:=Qg.mp h;have:=ZaE e;rw [Ng] at this;exact absurd (Qu rfl) (this q hq)
theorem Zhm {m:Int} {x:Str} (hm:m∈l.map (·.1)) (hx:∀y∈l.map (·.1),y≤m) (e:ZD m l=some x):YN l=decide (x="union"):=by
 have h:(l.map (·.1)).max?=some m:=List.max?_eq_some_iff.mpr ⟨hm,hx⟩;unfold YN;rw [h];show decide (ZD m l=some ("union" : Str))=_;rw [e];simp
theorem Zck (a b:Str):Zf a b=Zf b a:=by
 unfold Zf;by_cases h:ZL b a=true
 ·by_cases h2:ZL a b=true
  ·have l1:b.cps.toList<a.cps.toList:=Q9 h;have l2:a.cps.toList<b.cps.toList:=Q9 h2;exact absurd l1 (NE l2)
  ·rw [Qb h,Qa h2]
 ·by_cases h2:ZL a b=true
  ·rw [Qa h,Qb h2]
  ·rw [Qa h,Qa h2,Zal (Rq.mpr h) (Rq.mpr h2)]
noncomputable def ZI (F:Str×Str->List Str) (st:Bool) (x y:Str):Str×Str->List Str:=fun c =>
 if c=(("S",x):Str×Str) then (if st=true then ZB ((F c).filter (fun n=>decide (n≠y))++[y]) else (F c).filter fun n=>decide (n≠y)) else F c
noncomputable def YZ (ts:List ((Str×Str)×Addr×List (Int×Str))) (c:Str×Str):List (Int×Str):=((ZD c ts).map (·.2)).getD []
theorem ZmI (B:Bk) (c:Str×Str):Yy B c=YZ B.ties c:=rfl
theorem ZeK {ts:List ((Str×Str)×Addr×List (Int×Str))} {d:Addr} {l':List (Int×Str)} (n:(ts.map (·.1)).Nodup) (h:ZD c ts=some (d,l)):(Zp ts c (d,l')).map (·.2.1)=ts.map (·.2.1)∧(Zp ts c (d,l')).map (·.1)=ts.map (·.1):=by
 have an:(ts.any fun q=>decide (q.1=c))=true:=by
  rw [Gz];exact ⟨_,Ue h,Qu rfl⟩
 unfold Zp;rw [Qb an,QR,QR];constructor
 ·refine Gx fun q hq=>?_;show (if q.1=c then (q.1,(d,l')) else q).2.1=q.2.1;by_cases e:q.1=c
  ·rw [Qb e]
   have:q.2=(d,l):=by
    have go:∀{ts:List ((Str×Str)×Addr×List (Int×Str))},(ts.map (·.1)).Nodup->ZD c ts=some (d,l)->q∈ts->q.2=(d,l):=by
     intro ts
     induction ts with
     |nil=>intro _ _ h;cases h
     |cons p r ih =>
      intro n f m;rw [Qx,QP] at n;unfold ZD at f;by_cases e2:p.1=c
      ·rw [Qb e2] at f;rcases Qh.mp m with rfl|m
       ·exact Qj f
       ·exact absurd (Qg.mpr ⟨q,m,e.trans e2.symm⟩) n.1
      ·rw [Qa e2] at f;rcases Qh.mp m with rfl|m
       ·exact absurd e e2
       ·exact ih n.2 f m
    exact go n h hq
   rw [this]
  ·rw [Qa e]
 ·refine Gx fun q hq=>?_;show (if q.1=c then (q.1,(d,l')) else q).1=q.1;split<;>rfl
theorem BkAt.newTie {K:W.Frag} {k z:Addr} (h:BkAt K C H b dx k bi li ti su B) (nz:H z=some (.dK [])) (fr:z≠bi∧∀q∈B.ties,q.2.1≠z) (c:Str×Str) :
  BkAt K C (Zc H ti (.dT (B.tiesD++[(ZT c,.ref z)]))) b dx k bi li ti su { B with ties:=B.ties++[(c,z,[])] }:=by
 obtain ⟨n1,n2,n3,n4,n5,n6⟩:=ZaO h.ap;have dk:∀{a:Addr} {w:List (Zl×V)},H a=some (.dK w)->a≠ti:=fun e=>Ye e h.ti (fun z=>by cases z)
 refine ⟨(Zd (Ye h.ob h.ti (fun z=>by cases z))).trans h.ob,h.ap,?_,(Zd n2).trans h.ke,(Zd (dk h.bi)).trans h.bi,(Zd n4).trans h.li,?_,(Zd n6.symm).trans h.su,fun p hp=>Wu (h.en p hp) h.ti (fun _ z=>by cases z) (fun _ _ z=>by cases z),
  fun q hq=>(Zd (Ye (h.ll q hq) h.ti (fun z=>by cases z))).trans (h.ll q hq),fun q hq=>?_⟩
 ·show (bi::(B.ties++[((c,z,[]):(Str×Str)×Addr×List (Int×Str))]).map (·.2.1)).Nodup;rw [Qv,←List.cons_append,QZ];refine ⟨h.at',by simp,fun a ha x hx e=>?_⟩;have ex:x=z:=by simpa using hx
  subst ex e;rcases Qh.mp ha with rfl|ha
  ·exact fr.1 rfl
  ·obtain ⟨q,hq,rfl⟩:=Qg.mp ha;exact fr.2 q hq rfl
 ·rw [Zg];show some (HO.dT _)=some (.dT ((B.ties++[((c,z,[]):(Str×Str)×Addr×List (Int×Str))]).map fun q=>(ZT q.1,V.ref q.2.1)));rw [Qv];rfl
 ·rcases Ql.mp hq with hq|hq
  ·exact (Zd (dk (h.tt q hq))).trans (h.tt q hq)
  ·have e:q=(c,z,[]):=by simpa using hq
   subst e;exact (Zd (dk nz)).trans nz
theorem BkAt.putTie {K:W.Frag} {k d:Addr} (h:BkAt K C H b dx k bi li ti su B) (n:(B.ties.map (·.1)).Nodup) (f:ZD c B.ties=some (d,l)) (l':List (Int×Str)) :
  BkAt K C (Zc H d (.dK (YR l'))) b dx k bi li ti su { B with ties:=Zp B.ties c (d,l') }:=by
 have hm:=Ue f;have hd:H d=some (.dK (YR l)):=h.tt _ hm;have at2:=h.at';rw [QP] at at2;have bd:bi≠d:=fun e=>at2.1 (Qg.mpr ⟨_,hm,e.symm⟩);have dt:∀{a:Addr} {w:List (List Zl×V)},H a=some (.dT w)->a≠d:=fun e=>Ye e hd (fun z=>by cases z);obtain ⟨pa1,pa2⟩:=ZeK (l':=l') n f
 refine ⟨(Zd (Ye h.ob hd (fun z=>by cases z))).trans h.ob,h.ap,?_,(Zd (dt h.ke)).trans h.ke,(Zd bd).trans h.bi,(Zd (dt h.li)).trans h.li,?_,(Zd (dt h.su)).trans h.su,fun p hp=>Wu (h.en p hp) hd (fun _ z=>by cases z) (fun _ _ z=>by cases z),
  fun q hq=>(Zd (Ye (h.ll q hq) hd (fun z=>by cases z))).trans (h.ll q hq),fun q hq=>?_⟩
 ·show (bi::(Zp B.ties c (d,l')).map (·.2.1)).Nodup;rw [pa1];exact h.at'
 ·have e:(Zp B.ties c (d,l')).map (fun q=>(ZT q.1,V.ref q.2.1))=B.tiesD:=by
   have e1:(fun q:(Str×Str)×Addr×List (Int×Str)=>(ZT q.1,V.ref q.2.1))=(fun p:(Str×Str)×Addr=>(ZT p.1,V.ref p.2))∘fun q=>(q.1,q.2.1):=rfl
   have e2:∀ts:List ((Str×Str)×Addr×List (Int×Str)),ts.map (fun q=>(q.1,q.2.1))=(ts.map (·.1)).zip (ts.map (·.2.1)):=fun ts=>by
    induction ts with
    |nil=>rfl
    |cons q r ih=>simp [ih]
   unfold Bk.tiesD;rw [e1,←QR,←QR,e2,e2,pa1,pa2]
  rw [Zd (dt h.ti)];show H ti=some (.dT ((Zp B.ties c (d,l')).map fun q=>(ZT q.1,V.ref q.2.1)));rw [e];exact h.ti
 ·rcases ZaM hq with rfl|hq2
  ·exact Zg
  ·by_cases e:q.2.1=d
   ·-- the same address: the same pair
    have:q=(c,d,l)∨q=(c,d,l'):=by
     have hnd:=(QP.mp h.at').2
     have go:∀{ts:List ((Str×Str)×Addr×List (Int×Str))},(ts.map (·.2.1)).Nodup->(c,d,l)∈ts->q∈ts->q=(c,d,l):=by
      intro ts
      induction ts with
      |nil=>intro _ h;cases h
      |cons p r ih =>
       intro n h1 h2;rw [Qx,QP] at n;rcases Qh.mp h1 with e1|h1'
       ·rcases Qh.mp h2 with e2|h2'
        ·rw [e2,e1]
        ·rw [←e1] at n;exact absurd (Qg.mpr ⟨q,h2',e⟩) n.1
       ·rcases Qh.mp h2 with e2|h2'
        ·rw [←e2] at n;exact absurd (Qg.mpr ⟨(c,d,l),h1',e.symm⟩) n.1
        ·exact ih n.2 h1' h2'
     exact .inl (go hnd hm hq2)
    rcases this with rfl|rfl
    ·-- then it was told anew
     have an:(B.ties.any fun q=>decide (q.1=c))=true:=by
      rw [Gz];exact ⟨_,hm,Qu rfl⟩
     unfold Zp at hq;rw [Qb an] at hq;obtain ⟨p,hp,ep⟩:=Qg.mp hq;by_cases pc:p.1=c
     ·rw [Qb pc] at ep
      have:l'=l:=by
       have:=QB (fun z=>z.2.2) ep;exact this
      subst this;exact Zg
     ·rw [Qa pc] at ep;subst ep;exact absurd rfl pc
    ·exact Zg
   ·exact (Zd e).trans (h.tt q hq2)
theorem ZpI (ts:List ((Str×Str)×Addr×List (Int×Str))) (c x:Str×Str) (d:Addr) (l:List (Int×Str)):YZ (Zp ts c (d,l)) x=if x=c then l else YZ ts x:=by
 unfold YZ;rw [ZhX];by_cases e:x=c
 ·rw [Qb e,Qb e];rfl
 ·rw [Qa e,Qa e]
theorem Zn0 (ts:List ((Str×Str)×Addr×List (Int×Str))) (c x:Str×Str) (d:Addr) (h:ZD c ts=none):YZ (ts++[(c,d,[])]) x=YZ ts x:=by
 unfold YZ;rw [Zbg];cases e:ZD x ts with
 |some y=>rfl
 |none =>
  unfold ZD;by_cases e2:c=x
  ·rw [Qb e2];rfl
  ·rw [Qa e2];rfl
noncomputable def Uj (y:Str) (n:Str):Option V:=if n=y then none else some (.str n)
theorem ZfP (y:Str):∀l:List Str,(l.map (Uj y)).filterMap id=(l.filter fun n=>decide (n≠y)).map V.str
 |[]=>rfl
 |n::r=>by
  have ih:=ZfP y r;by_cases h:n=y
  ·subst h;simp only [Qx,Rb,G7];simpa [Uj] using ih
  ·simp only [Qx,Rb,G7];simpa [Uj,h] using ih
theorem Zg1 (l:List ((Str×Str)×Addr×List Str)) (c d:Str×Str) (D:Addr) (z:List Str):lk (Zp l c (D,z)) d=if d=c then z else lk l d:=by
 unfold lk;rw [ZhU];by_cases e:d=c
 ·rw [Qb e,Qb e];rfl
 ·rw [Qa e,Qa e]
theorem ZcJ (F:Str×Str->List Str) (st:Bool) (x y:Str) (c:Str×Str):(ZI F st x y c).length≤(F c).length+1:=by
 unfold ZI;have h:=List.length_filter_le (fun n=>decide (n≠y)) (F c);split
 ·split
  ·rw [(Wn _).length_eq,Qq];show _+1≤_;omega
  ·omega
 ·omega
theorem VE (a b:Str):Zf (Zf a b).1 (Zf a b).2=Zf a b:=by
 unfold Zf;by_cases h:ZL b a=true
 ·rw [Qb h];show (if ZL a b=true then (a,b) else (b,a))=(b,a);by_cases h2:ZL a b=true
  ·have l1:b.cps.toList<a.cps.toList:=Q9 h;have l2:a.cps.toList<b.cps.toList:=Q9 h2;exact absurd l1 (NE l2)
  ·rw [Qa h2]
 ·rw [Qa h];show (if ZL b a=true then (b,a) else (a,b))=(a,b);rw [Qa h]
theorem Zbp (e:Ent):e.told.told=e.told:=by
 cases e with
 |union a b d=>show Ent.union (Zf (Zf a b).1 (Zf a b).2).1 (Zf (Zf a b).1 (Zf a b).2).2 d=_;rw [VE];rfl
 |parted a b d=>show Ent.parted (Zf (Zf a b).1 (Zf a b).2).1 (Zf (Zf a b).1 (Zf a b).2).2 d=_;rw [VE];rfl
 |_=>rfl
noncomputable def Jo (F:Str×Str->List (Int×Str)):Ent->Str×Str->List (Int×Str)
 |.union a b d=>fun c=>if c=Zf a b then Zp (F (Zf a b)) d "union" else F c
 |.parted a b d=>fun c=>if c=Zf a b then Zp (F (Zf a b)) d "parted" else F c
 |_=>F
noncomputable def Va (F:Str×Str->List Str) (G:Str×Str->List (Int×Str)):Ent->Str×Str->List Str
 |.born n _ _ f m=>Xp F n f m
 |.taken c t _=>Z8 (Z8 F ("T",c) t) ("t",t) c
 |.union a b d=>ZI (ZI F (YN (Zp (G (Zf a b)) d "union")) a b) (YN (Zp (G (Zf a b)) d "union")) b a
 |.parted a b d=>ZI (ZI F (YN (Zp (G (Zf a b)) d "parted")) a b) (YN (Zp (G (Zf a b)) d "parted")) b a
 |_=>F
noncomputable def Y8 (ss:List ((Str×Str)×Int)) (c:Str×Str):Int:=(ZD c ss).getD 0
noncomputable def ZaD (F:Str×Str->Int):Ent->Str×Str->Int
 |.given g t am _=>fun c=>if c=(g,t) then F c+am else F c
 |_=>F
theorem Zjp (ss:List ((Str×Str)×Int)) (g t:Str) (am d:Int) (c:Str×Str):Y8 (Zp ss (g,t) (Y8 ss (g,t)+am)) c=ZaD (Y8 ss) (.given g t am d) c:=by
 show _=if c=(g,t) then Y8 ss c+am else Y8 ss c;unfold Y8;rw [ZhX];by_cases e:c=(g,t)
 ·subst e;rw [Qb rfl,Qb rfl];rfl
 ·rw [Qa e,Qa e]
def GrowsT (H:Hp) (ts ts':List ((Str×Str)×Addr×List (Int×Str))):Prop:=∀a∈ts'.map (·.2.1),a∈ts.map (·.2.1)∨H a=none
theorem GrowsT.refl (H:Hp) (ts:List ((Str×Str)×Addr×List (Int×Str))):GrowsT H ts ts:=fun _ h=>.inl h
theorem GrowsT.back {ts ts':List ((Str×Str)×Addr×List (Int×Str))} (g:GrowsT H' ts ts') (al:∀a,H' a=none->H a=none):GrowsT H ts ts':=fun a ha=>(g a ha).imp id (al a)
structure Put (B:Bk) (e:Ent) (B':Bk):Prop where
 su:∀c,Y8 B'.sums c=ZaD (Y8 B.sums) e.told c
 kept:∃a,B'.kept=B.kept++[(e.told,a)]
 lks:∀c,lk B'.links c=Va (lk B.links) (YZ B.ties) e.told c
 tis:∀c,YZ B'.ties c=Jo (YZ B.ties) e.told c
 nd:(B'.ties.map (·.1)).Nodup
 nl:B'.links.length≤B.links.length+4
 nt:B'.ties.length≤B.ties.length+1
 ns:B'.sums.length≤B.sums.length+1
structure Room1 (B:Bk):Prop where
 nd:(B.ties.map (·.1)).Nodup
 nl:B.links.length≤870
 nt:B.ties.length≤790
 ns:B.sums.length≤790
 ll:∀c,(lk B.links c).length≤60
 tt:∀c,(YZ B.ties c).length≤790
theorem ZjA (h:H a=some o):Zc H a o=H:=by
 funext c
 by_cases e:c=a
 ·subst e;rw [Zg,h]
 ·rw [Zd e]
theorem BkAt.kept {K:W.Frag} {k:Addr} (h:BkAt K C H b dx k bi li ti su B) (ha:SqT K H a (e.row.map kV)) :
  BkAt K C (Zc (Zc H k (.dT (B.keptD++[(e.key,.ref a)]))) bi (.dK (Bk.bornD (B.kept++[(e,a)])))) b dx k bi li ti su { B with kept:=B.kept++[(e,a)] }:=by
 obtain ⟨n1,n2,n3,n4,n5,n6⟩:=ZaO h.ap;have kb:k≠bi:=Ye h.ke h.bi (fun z=>by cases z);have at2:=QP.mp h.at';have dt:∀{c:Addr} {w:List (List Zl×V)},H c=some (.dT w)->c≠k->(Zc (Zc H k (.dT (B.keptD++[(e.key,.ref a)]))) bi (.dK (Bk.bornD (B.kept++[(e,a)])))) c=some (.dT w):=fun hc n=>(Zd (Ye hc h.bi (fun z=>by cases z))).trans ((Zd n).trans hc)
 have sq:∀{c:Addr} {xs:List V},SqT K H c xs->SqT K (Zc (Zc H k (.dT (B.keptD++[(e.key,.ref a)]))) bi (.dK (Bk.bornD (B.kept++[(e,a)])))) c xs:=fun {c xs} hc=>by
  have h1:SqT K (Zc H k (.dT (B.keptD++[(e.key,.ref a)]))) c xs:=Wu hc h.ke (fun _ z=>by cases z) (fun _ _ z=>by cases z);exact Wu h1 ((Zd kb.symm).trans h.bi) (fun _ z=>by cases z) (fun _ _ z=>by cases z)
 refine ⟨(Zd (Ye h.ob h.bi (fun z=>by cases z))).trans ((Zd (Ye h.ob h.ke (fun z=>by cases z))).trans h.ob),h.ap,h.at',(Zd kb).trans ?_,Zg,dt h.li n1.symm,dt h.ti n2.symm,dt h.su n3.symm,fun p hp=>?_,fun q hq=>?_,fun q hq=>?_⟩
 ·rw [Zg];show some (HO.dT _)=some (.dT ((B.kept++[(e,a)]).map fun p=>(p.1.key,V.ref p.2)));rw [Qv];rfl
 ·rcases Ql.mp hp with hp|hp
  ·exact sq (h.en p hp)
  ·have ep:p=(e,a):=by simpa using hp
   subst ep;exact sq ha
 ·exact (Zd (Ye (h.ll q hq) h.bi (fun z=>by cases z))).trans ((Zd (Ye (h.ll q hq) h.ke (fun z=>by cases z))).trans (h.ll q hq))
 ·exact (Zd (fun z=>at2.1 (Qg.mpr ⟨q,hq,z⟩))).trans ((Zd (Ye (h.tt q hq) h.ke (fun z=>by cases z))).trans (h.tt q hq))
theorem Zmg {l:List (Ent×Addr)} (h:e.isBorn=false):Bk.bornD (l++[(e,a)])=Bk.bornD l:=by
 unfold Bk.bornD;rw [RX];cases e with
 |born=>cases h
 |_=>simp [Ent.bornName]
theorem BkAt.sums {K:W.Frag} {k:Addr} (h:BkAt K C H b dx k bi li ti su B) (l:List ((Str×Str)×Int)) :
  BkAt K C (Zc H su (.dT (l.map fun q=>(ZT q.1,V.int q.2)))) b dx k bi li ti su { B with sums:=l }:=by
 obtain ⟨n1,n2,n3,n4,n5,n6⟩:=ZaO h.ap;have dk:∀{c:Addr} {z:List (Zl×V)},H c=some (.dK z)->c≠su:=fun e=>Ye e h.su (fun z=>by cases z)
 exact ⟨(Zd (Ye h.ob h.su (fun z=>by cases z))).trans h.ob,h.ap,h.at',(Zd n3).trans h.ke,(Zd (dk h.bi)).trans h.bi,(Zd n5).trans h.li,(Zd n6).trans h.ti,Zg,
  fun p hp=>Wu (h.en p hp) h.su (fun _ z=>by cases z) (fun _ _ z=>by cases z),fun q hq=>(Zd (Ye (h.ll q hq) h.su (fun z=>by cases z))).trans (h.ll q hq),fun q hq=>(Zd (dk (h.tt q hq))).trans (h.tt q hq)⟩
theorem ZlW {l:List (Ent×Addr)} (h:ZH (l.map fun p=>(p.1.key,V.ref p.2)) (Ent.born n s d f m).key=none):Z7 n l=none:=by
 induction l with
 |nil=>rfl
 |cons p r ih =>
  unfold Z7;rw [Qx] at h;by_cases e:p.1.bornName=some n
  ·exfalso
   have ek:p.1.key=(Ent.born n s d f m).key:=by
    cases hp:p.1 with
    |born n' s' d' f' m' =>
     rw [hp] at e;cases (show n'=n from Qj e);rfl
    |_=>rw [hp] at e;cases e
   rw [XQ ek] at h;cases h
  ·rw [Qa e];by_cases ek:p.1.key=(Ent.born n s d f m).key
   ·rw [XQ ek] at h;cases h
   ·rw [XW ek] at h;exact ih h
theorem ZhP (h:X5 B e=none):ZH B.keptD e.told.key=none∧B.kept.length<400∧∀n∈e.named,Known B n:=by
 unfold X5 at h;by_cases f:B.full e=true
 ·rw [Qb f] at h;cases h
 rw [Qa f] at h;by_cases p:(e.named.all fun n=>(Z7 n B.kept).isSome)=false
 ·rw [Qb p] at h;cases h
 rw [Qa p] at h;by_cases t:(ZH B.keptD e.told.key).isSome=true
 ·rw [Qb t] at h;cases h
 refine ⟨by simpa using t,?_,fun n hn=>?_⟩
 ·unfold Bk.full at f;simp only [Gd,G6,not_or] at f;omega
 ·have:=p;rw [Bool.not_eq_false] at this;rw [Ru] at this;have:=this n hn;unfold Known;exact NR.mp this
theorem Zgx (e:Ent) (n:Str):n∈e.told.named->n∈e.named:=by
 cases e with
 |union a b d =>
  show n∈[(Zf a b).1,(Zf a b).2]->n∈[a,b];unfold Zf;split<;>simp<;>(intro h;rcases h with h|h<;>simp [h])
 |parted a b d =>
  show n∈[(Zf a b).1,(Zf a b).2]->n∈[a,b];unfold Zf;split<;>simp<;>(intro h;rcases h with h|h<;>simp [h])
 |_=>exact id
theorem Zff (n:Str):∀(l m:List (Ent×Addr)),Z7 n (l++m)=(Z7 n l).or (Z7 n m)
 |[],m=>by simp [Z7]
 |p::r,m=>by
  show (if p.1.bornName=some n then some p else Z7 n (r++m))=(if p.1.bornName=some n then some p else Z7 n r).or (Z7 n m);by_cases e:p.1.bornName=some n
  ·rw [Qb e,Qb e];rfl
  ·rw [Qa e,Qa e];exact Zff n r m
theorem Known.more {l:List (Ent×Addr)} (h:Known B n) (e:B'.kept=B.kept++l):Known B' n:=by
 unfold Known at *;rw [e,Zff];cases hb:Z7 n B.kept with
 |none=>exact absurd hb h
 |some p=>simp
theorem Zgz (h1:-10 ^ 18≤d) (h2:d≤10 ^ 18):Zez (.int d)=true:=by
 show decide ((if d<0 then -d else d)≤10 ^ 18)=true;exact Qu (by split<;>omega)
theorem ZgL {x:Str} (h:x=""∨Nm x):Zag (.str x)=true:=by
 rcases h with h|h
 ·subst h;trivial
 ·unfold Zag;rw [h.ok];rfl
theorem ZnM (h:s="he"∨s="she"∨s=""):Uq (.str s)=true:=by
 rcases h with h|h|h<;>subst h<;>trivial
theorem Zat {x:Str} (h:Nm x):x.length≤100:=Qn h.hi (by decide)
theorem Znx (hn:Nm n) (hs:s="he"∨s="she"∨s="") (d1:-10 ^ 18≤d) (d2:d≤10 ^ 18) (hf:f=""∨Nm f) (hm:m=""∨Nm m):(Ent.born n s d f m).Ok:=by
 refine ⟨?_,fun x hx=>?_⟩
 ·show UE [.str "born",.str n,.str s,.int d,.str f,.str m]=true;rw [Zbq,show VP "born"=some [.name,.sort,.day,.parent,.parent] by rfl];show Wh _ _=true;unfold Wh ZU;simp [ZU,UJ,hn.ok,ZnM hs,Zgz d1 d2,ZgL hf,ZgL hm]
 ·have hf':f.length≤100:=hf.elim (fun h=>by subst h;trivial) Zat;have hm':m.length≤100:=hm.elim (fun h=>by subst h;trivial) Zat;have hs':s.length≤100:=by rcases hs with h|h|h<;>subst h<;>trivial
  simp only [Ent.row,Qh,QJ,QK] at hx;rcases hx with h|h|h|h|h|h
  ·cases h;trivial
  ·cases h;exact Zat hn
  ·cases h;exact hs'
  ·cases h
  ·cases h;exact hf'
  ·cases h;exact hm'
theorem VX {w a b:Str} (hw:w="taken"∨w="union"∨w="parted") (ha:Nm a) (hb:Nm b) (d1:-10 ^ 18≤d) (d2:d≤10 ^ 18):UE [.str w,.str a,.str b,.int d]=true:=by
 rw [Zbq];have:VP w=some [.name,.name,.day]:=by rcases hw with h|h|h<;>subst h<;>rfl
 rw [this];show Wh _ _=true;unfold Wh;simp [ZU,UJ,ha.ok,hb.ok,Zgz d1 d2]
theorem UB {w a b:Str} (hw:w.length≤100) (ha:Nm a) (hb:Nm b):∀x:Str,(.inr x:Zl)∈([.inr w,.inr a,.inr b,.inl d]:List Zl)->x.length≤100:=fun x hx=>by
 simp only [Qh,QJ,QK] at hx;rcases hx with h|h|h|h
 ·cases h;exact hw
 ·cases h;exact Zat ha
 ·cases h;exact Zat hb
 ·cases h
theorem Zgw {n s f m:Str} {d:Int}:∀{l:List (Ent×Addr)},Ent.born n s d f m∈l.map (·.1)->(∀{s' d' f' m'},Ent.born n s' d' f' m'∈l.map (·.1)->Ent.born n s' d' f' m'=.born n s d f m)->∃a,Z7 n l=some (.born n s d f m,a)
 |[],h,_=>by cases h
 |p::r,h,u=>by
  unfold Z7;by_cases e:p.1.bornName=some n
  ·rw [Qb e];cases hp:p.1 with
   |born n' s' d' f' m' =>
    rw [hp] at e;cases (show n'=n from Qj e);have:=u (s':=s') (d':=d') (f':=f') (m':=m') (by rw [Qx,hp];exact QH ..);refine ⟨p.2,?_⟩;rw [←this,←hp]
   |_=>rw [hp] at e;cases e
  ·rw [Qa e]
   have h':Ent.born n s d f m∈r.map (·.1):=by
    rw [Qx] at h;rcases Qh.mp h with h|h
    ·exfalso;rw [←h] at e;exact e rfl
    ·exact h
   exact Zgw h' fun hm=>u (by rw [Qx];exact QC _ hm)
abbrev ZN:=Str×Str->List Str
abbrev Wb:=Str×Str->List (Int×Str)
noncomputable def U8 (p:ZN×Wb) (e:Ent):ZN×Wb:=(Va p.1 p.2 e,Jo p.2 e)
noncomputable def Yz (es:List Ent):ZN×Wb:=es.foldl U8 (fun _=>[],fun _=>[])
theorem Zbn (es:List Ent) (e:Ent):Yz (es++[e])=U8 (Yz es) e:=by
 unfold Yz;rw [NG];rfl
noncomputable def Vn (n:Str):Ent->List Str
 |.born n' _ _ f _=>if n'=n∧f≠"" then [f] else []
 |_=>[]
noncomputable def W6 (n:Str):Ent->List Str
 |.born n' _ _ _ m=>if n'=n∧m≠"" then [m] else []
 |_=>[]
noncomputable def W8 (n:Str):Ent->List Str
 |.born n' _ _ f _=>if f=n∧f≠"" then [n'] else []
 |_=>[]
noncomputable def Vm (n:Str):Ent->List Str
 |.born n' _ _ _ m=>if m=n∧m≠"" then [n'] else []
 |_=>[]
noncomputable def addT (n:Str):Ent->List Str
 |.taken c t _=>if c=n then [t] else []
 |_=>[]
noncomputable def Vy (n:Str):Ent->List Str
 |.taken c t _=>if t=n then [c] else []
 |_=>[]
theorem Zfp {l:List Str} (h:l.Pairwise fun a b=>YC a b=true):ZB l=l:=Zau (Wn l) (VZ l) h
theorem Znc (l m:List Str):ZB (ZB l++m)=ZB (l++m) :=
 Zau ((Wn _).trans (((Wn l).append_right m).trans (Wn _).symm)) (VZ _) (VZ _)
theorem YT (F:ZN) (l n l' n' m:Str):Z8 F (l,n) m (l',n')=if l'=l∧n'=n then ZB (F (l,n)++[m]) else F (l',n'):=by
 unfold Z8;by_cases h:l'=l∧n'=n
 ·obtain ⟨rfl,rfl⟩:=h;rw [Qb rfl,Qb ⟨rfl,rfl⟩]
 ·rw [Qa (fun e=>h (by injection e with a b;exact ⟨a,b⟩)),Qa h]
theorem Yr (F:ZN) (st:Bool) (x y l n:Str) (h:l≠"S"):ZI F st x y (l,n)=F (l,n):=by
 unfold ZI;rw [Qa (fun e=>h (by injection e))]
structure Adds (l:Str) (ad:Str->Ent->List Str):Prop where
 step:∀(F:ZN) (G:Wb) (e:Ent) (n:Str),(F (l,n)).Pairwise (fun a b=>YC a b=true)->Va F G e (l,n)=ZB (F (l,n)++ad n e)
theorem Z6 {l:List Str} (h:l.Pairwise fun a b=>YC a b=true):l=ZB (l++[]):=by rw [Qt,Zfp h]
theorem JR (F:ZN) (n f m l x:Str):Xp F n f m (l,x) =
  if l="F"∧x=n∧f≠"" then ZB (F ("F",n)++[f]) else if l="f"∧x=f∧f≠"" then ZB (F ("f",f)++[n]) else
  if l="M"∧x=n∧m≠"" then ZB (F ("M",n)++[m]) else if l="m"∧x=m∧m≠"" then ZB (F ("m",m)++[n]) else F (l,x):=by
 have d1:("F" : Str)≠"f":=by trivial
 have d2:("F" : Str)≠"M":=by trivial
 have d3:("F" : Str)≠"m":=by trivial
 have d4:("f" : Str)≠"M":=by trivial
 have d5:("f" : Str)≠"m":=by trivial
 have d6:("M" : Str)≠"m":=by trivial
 unfold Xp;by_cases f0:f=""<;>by_cases m0:m=""<;>simp only [f0,m0,RA,Re,YT,ne_eq,not_true_eq_false,NH,and_false,and_true]
 ·by_cases h1:l="m"∧x=m
  ·obtain ⟨rfl,rfl⟩:=h1;simp [d3.symm,d5.symm,d6.symm,d6]
  ·by_cases h2:l="M"∧x=n
   ·obtain ⟨rfl,rfl⟩:=h2;simp [d6]
   ·simp [h1,h2]
 ·by_cases h1:l="f"∧x=f
  ·obtain ⟨rfl,rfl⟩:=h1;simp [d1,d1.symm]
  ·by_cases h2:l="F"∧x=n
   ·obtain ⟨rfl,rfl⟩:=h2;simp [d1]
   ·simp [h1,h2]
 ·by_cases h1:l="m"∧x=m
  ·obtain ⟨rfl,rfl⟩:=h1;simp [d3.symm,d5.symm,d6.symm,d6,d3,d5]
  ·by_cases h2:l="M"∧x=n
   ·obtain ⟨rfl,rfl⟩:=h2;simp [d6,d2,d4,d2.symm,d4.symm]
   ·by_cases h3:l="f"∧x=f
    ·obtain ⟨rfl,rfl⟩:=h3;simp [d1,d1.symm,d4,d5]
    ·by_cases h4:l="F"∧x=n
     ·obtain ⟨rfl,rfl⟩:=h4;simp [d1,d2,d3]
     ·simp [h1,h2,h3,h4]
theorem ZhY:Adds "F" Vn:=⟨fun F G e n s=>by
 cases e with
 |born n' s' d f m =>
  show Xp F n' f m ("F",n)=_;rw [JR];dsimp only [Vn];by_cases h:n'=n∧f≠""
  ·rw [Qb h,Qb ⟨rfl,h.1.symm,h.2⟩,h.1]
  ·rw [Qa h,Qa (fun z=>h ⟨z.2.1.symm,z.2.2⟩),Qa (fun z=>absurd z.1 (by trivial)),Qa (fun z=>absurd z.1 (by trivial)),Qa (fun z=>absurd z.1 (by trivial))];exact Z6 s
 |taken c t d=>show Z8 (Z8 F ("T",c) t) ("t",t) c ("F",n)=_;rw [YT,Qa (fun z=>absurd z.1 (by trivial)),YT,Qa (fun z=>absurd z.1 (by trivial))];exact Z6 s
 |union a b d=>show ZI _ _ _ _ _=_;rw [Yr _ _ _ _ _ _ (by trivial),Yr _ _ _ _ _ _ (by trivial)];exact Z6 s
 |parted a b d=>show ZI _ _ _ _ _=_;rw [Yr _ _ _ _ _ _ (by trivial),Yr _ _ _ _ _ _ (by trivial)];exact Z6 s
 |dead a d=>exact Z6 s
 |given a b am d=>exact Z6 s⟩
theorem Zh9:Adds "M" W6:=⟨fun F G e n s=>by
 cases e with
 |born n' s' d f m =>
  show Xp F n' f m ("M",n)=_;rw [JR,Qa (fun z=>absurd z.1 (by trivial)),Qa (fun z=>absurd z.1 (by trivial))];dsimp only [W6];by_cases h:n'=n∧m≠""
  ·rw [Qb h,Qb ⟨rfl,h.1.symm,h.2⟩,h.1]
  ·rw [Qa h,Qa (fun z=>h ⟨z.2.1.symm,z.2.2⟩),Qa (fun z=>absurd z.1 (by trivial))];exact Z6 s
 |taken c t d=>show Z8 (Z8 F ("T",c) t) ("t",t) c ("M",n)=_;rw [YT,Qa (fun z=>absurd z.1 (by trivial)),YT,Qa (fun z=>absurd z.1 (by trivial))];exact Z6 s
 |union a b d=>show ZI _ _ _ _ _=_;rw [Yr _ _ _ _ _ _ (by trivial),Yr _ _ _ _ _ _ (by trivial)];exact Z6 s
 |parted a b d=>show ZI _ _ _ _ _=_;rw [Yr _ _ _ _ _ _ (by trivial),Yr _ _ _ _ _ _ (by trivial)];exact Z6 s
 |dead a d=>exact Z6 s
 |given a b am d=>exact Z6 s⟩
theorem ZiA:Adds "f" W8:=⟨fun F G e n s=>by
 cases e with
 |born n' s' d f m =>
  show Xp F n' f m ("f",n)=_;rw [JR,Qa (fun z=>absurd z.1 (by trivial))];dsimp only [W8];by_cases h:f=n∧f≠""
  ·rw [Qb h,Qb ⟨rfl,h.1.symm,h.2⟩,h.1]
  ·rw [Qa h,Qa (fun z=>h ⟨z.2.1.symm,z.2.2⟩),Qa (fun z=>absurd z.1 (by trivial)),Qa (fun z=>absurd z.1 (by trivial))];exact Z6 s
 |taken c t d=>show Z8 (Z8 F ("T",c) t) ("t",t) c ("f",n)=_;rw [YT,Qa (fun z=>absurd z.1 (by trivial)),YT,Qa (fun z=>absurd z.1 (by trivial))];exact Z6 s
 |union a b d=>show ZI _ _ _ _ _=_;rw [Yr _ _ _ _ _ _ (by trivial),Yr _ _ _ _ _ _ (by trivial)];exact Z6 s
 |parted a b d=>show ZI _ _ _ _ _=_;rw [Yr _ _ _ _ _ _ (by trivial),Yr _ _ _ _ _ _ (by trivial)];exact Z6 s
 |dead a d=>exact Z6 s
 |given a b am d=>exact Z6 s⟩
theorem Zfe:Adds "m" Vm:=⟨fun F G e n s=>by
 cases e with
 |born n' s' d f m =>
  show Xp F n' f m ("m",n)=_;rw [JR,Qa (fun z=>absurd z.1 (by trivial)),Qa (fun z=>absurd z.1 (by trivial)),Qa (fun z=>absurd z.1 (by trivial))];dsimp only [Vm];by_cases h:m=n∧m≠""
  ·rw [Qb h,Qb ⟨rfl,h.1.symm,h.2⟩,h.1]
  ·rw [Qa h,Qa (fun z=>h ⟨z.2.1.symm,z.2.2⟩)];exact Z6 s
 |taken c t d=>show Z8 (Z8 F ("T",c) t) ("t",t) c ("m",n)=_;rw [YT,Qa (fun z=>absurd z.1 (by trivial)),YT,Qa (fun z=>absurd z.1 (by trivial))];exact Z6 s
 |union a b d=>show ZI _ _ _ _ _=_;rw [Yr _ _ _ _ _ _ (by trivial),Yr _ _ _ _ _ _ (by trivial)];exact Z6 s
 |parted a b d=>show ZI _ _ _ _ _=_;rw [Yr _ _ _ _ _ _ (by trivial),Yr _ _ _ _ _ _ (by trivial)];exact Z6 s
 |dead a d=>exact Z6 s
 |given a b am d=>exact Z6 s⟩
theorem JA (F:ZN) (n f m l x:Str) (h1:l≠"F") (h2:l≠"f") (h3:l≠"M") (h4:l≠"m"):Xp F n f m (l,x)=F (l,x):=by
 rw [JR,Qa (fun z=>h1 z.1),Qa (fun z=>h2 z.1),Qa (fun z=>h3 z.1),Qa (fun z=>h4 z.1)]
theorem Zfm:Adds "T" addT:=⟨fun F G e n s=>by
 cases e with
 |born n' s' d f m=>show Xp F n' f m ("T",n)=_;rw [JA _ _ _ _ _ _ (by trivial) (by trivial) (by trivial) (by trivial)];exact Z6 s
 |taken c t d =>
  show Z8 (Z8 F ("T",c) t) ("t",t) c ("T",n)=_;rw [YT,Qa (fun z=>absurd z.1 (by trivial)),YT];dsimp only [addT];by_cases h:c=n
  ·rw [Qb h,Qb ⟨rfl,h.symm⟩,h]
  ·rw [Qa h,Qa (fun z=>h z.2.symm)];exact Z6 s
 |union a b d=>show ZI _ _ _ _ _=_;rw [Yr _ _ _ _ _ _ (by trivial),Yr _ _ _ _ _ _ (by trivial)];exact Z6 s
 |parted a b d=>show ZI _ _ _ _ _=_;rw [Yr _ _ _ _ _ _ (by trivial),Yr _ _ _ _ _ _ (by trivial)];exact Z6 s
 |dead a d=>exact Z6 s
 |given a b am d=>exact Z6 s⟩
theorem ZeU:Adds "t" Vy:=⟨fun F G e n s=>by
 cases e with
 |born n' s' d f m=>show Xp F n' f m ("t",n)=_;rw [JA _ _ _ _ _ _ (by trivial) (by trivial) (by trivial) (by trivial)];exact Z6 s
 |taken c t d =>
  show Z8 (Z8 F ("T",c) t) ("t",t) c ("t",n)=_;rw [YT];dsimp only [Vy];by_cases h:t=n
  ·rw [Qb h,Qb ⟨rfl,h.symm⟩,YT,Qa (fun z=>absurd z.1 (by trivial)),h]
  ·rw [Qa h,Qa (fun z=>h z.2.symm),YT,Qa (fun z=>absurd z.1 (by trivial))];exact Z6 s
 |union a b d=>show ZI _ _ _ _ _=_;rw [Yr _ _ _ _ _ _ (by trivial),Yr _ _ _ _ _ _ (by trivial)];exact Z6 s
 |parted a b d=>show ZI _ _ _ _ _=_;rw [Yr _ _ _ _ _ _ (by trivial),Yr _ _ _ _ _ _ (by trivial)];exact Z6 s
 |dead a d=>exact Z6 s
 |given a b am d=>exact Z6 s⟩
theorem Adds.all {l:Str} {ad:Str->Ent->List Str} (A:Adds l ad) (n:Str):∀es:List Ent,(Yz es).1 (l,n)=ZB (es.flatMap (ad n)):=by
 intro es
 have go:∀(es:List Ent) (p:ZN×Wb) (xs:List Str),p.1 (l,n)=ZB xs->(es.foldl U8 p).1 (l,n)=ZB (xs++es.flatMap (ad n)):=by
  intro es
  induction es with
  |nil=>intro p xs h;rw [List.flatMap_nil,Qt];exact h
  |cons e es ih =>
   intro p xs h;rw [Q7,NI,←R7];refine ih _ (xs++ad n e) ?_;show Va p.1 p.2 e (l,n)=_;rw [A.step p.1 p.2 e n (by rw [h];exact VZ _),h,Znc]
 exact go es _ [] (Zfp .nil).symm
noncomputable def Ent.pr:Ent->Str×Str
 |.union a b _=>(a,b)
 |.parted a b _=>(a,b)
 |_=>("","")
noncomputable def Ent.kind:Ent->Str
 |.union ..=>"union"
 |.parted ..=>"parted"
 |_=>""
def Wl (e:Ent):Prop:=e.tie=true->e.pr.1≠e.pr.2
theorem Zee {a b w:Str} (h:Zf n w=Zf a b):(n=a∧w=b)∨(n=b∧w=a):=by
 unfold Zf at h;split at h<;>split at h<;>injection h with h1 h2
 ·exact .inl ⟨h2,h1⟩
 ·exact .inr ⟨h2,h1⟩
 ·exact .inr ⟨h1,h2⟩
 ·exact .inl ⟨h1,h2⟩
noncomputable def WJ (st:Bool) (L:List Str) (y:Str):List Str:=if st=true then ZB (L.filter (fun n=>decide (n≠y))++[y]) else L.filter fun n=>decide (n≠y)
theorem Zgk (h:L.Pairwise fun a b=>YC a b=true):(WJ st L y).Pairwise fun a b=>YC a b=true:=by
 unfold WJ;split
 ·exact VZ _
 ·exact h.filter _
theorem Zhr {p:Str->Bool} (h:L.Nodup):(L.filter p).Nodup:=List.Pairwise.filter p h
theorem Zfu (h:L.Nodup):(WJ st L y).Nodup:=by
 unfold WJ;split
 ·refine (Wn _).symm.nodup ?_;rw [QZ];refine ⟨Zhr h,by simp,fun a ha b hb e=>?_⟩;have:b=y:=by simpa using hb
  subst this e;have:=(Rx.mp ha).2;simp at this
 ·exact Zhr h
theorem ZiL {w:Str}:w∈WJ st L y↔(w≠y∧w∈L)∨(w=y∧st=true):=by
 unfold WJ;by_cases h:st=true
 ·rw [Qb h,(Wn _).mem_iff,Ql,Rx];simp [h,and_comm]
 ·rw [Qa h,Rx];simp [h,and_comm]
theorem ZbT (F:ZN) (st:Bool) (x y n:Str):ZI F st x y ("S",n)=if n=x then WJ st (F ("S",x)) y else F ("S",n):=by
 unfold ZI WJ;by_cases h:n=x
 ·subst h;rw [Qb rfl,Qb rfl]
 ·rw [Qa (fun e=>h (by injection e)),Qa h]
structure SOk (F:ZN) (G:Wb):Prop where
 up:∀n,(F ("S",n)).Pairwise fun a b=>YC a b=true
 nd:∀n,(F ("S",n)).Nodup
 mem:∀n w,w∈F ("S",n)↔YN (G (Zf n w))=true
theorem Zfn {F:ZN} {G:Wb} {a b:Str} (ne:a≠b) (h:SOk F G) (l:List (Int×Str)) :
  SOk (ZI (ZI F (YN l) a b) (YN l) b a) (fun c=>if c=Zf a b then l else G c):=by
 have e:∀n,ZI (ZI F (YN l) a b) (YN l) b a ("S",n)=if n=b then WJ (YN l) (F ("S",b)) a else if n=a then WJ (YN l) (F ("S",a)) b else F ("S",n):=fun n=>by
  rw [ZbT];by_cases h1:n=b
  ·rw [Qb h1,Qb h1,ZbT,Qa ne.symm]
  ·rw [Qa h1,Qa h1,ZbT]
 refine ⟨fun n=>?_,fun n=>?_,fun n w=>?_⟩
 ·rw [e];split
  ·exact Zgk (h.up _)
  ·split
   ·exact Zgk (h.up _)
   ·exact h.up _
 ·rw [e];split
  ·exact Zfu (h.nd _)
  ·split
   ·exact Zfu (h.nd _)
   ·exact h.nd _
 ·rw [e];show _↔YN (if Zf n w=Zf a b then l else G (Zf n w))=true;by_cases h1:n=b
  ·subst h1;rw [Qb rfl,ZiL];by_cases h2:w=a
   ·subst h2;rw [Qb (Zck n w)];simp
   ·rw [Qa (fun z=>(Zee z).elim (fun e=>ne e.1.symm) fun e=>h2 e.2),←h.mem];simp [h2]
  ·rw [Qa h1];by_cases h3:n=a
   ·subst h3;rw [Qb rfl,ZiL];by_cases h2:w=b
    ·subst h2;rw [Qb rfl];simp
    ·rw [Qa (fun z=>(Zee z).elim (fun e=>h2 e.2) fun e=>h1 e.1),←h.mem];simp [h2]
   ·rw [Qa h3,Qa (fun z=>(Zee z).elim (fun e=>h3 e.1) fun e=>h1 e.1),←h.mem]
theorem SOk.same {F F':ZN} {G:Wb} (h:SOk F G) (e:∀n,F' ("S",n)=F ("S",n)):SOk F' G:=⟨fun n=>by rw [e];exact h.up n,fun n=>by rw [e];exact h.nd n,fun n w=>by rw [e];exact h.mem n w⟩
theorem Zkg {F:ZN} {G:Wb} (ap:Wl e) (h:SOk F G):SOk (Va F G e) (Jo G e):=by
 cases e with
 |union a b d=>exact Zfn (ap rfl) h _
 |parted a b d=>exact Zfn (ap rfl) h _
 |born n s d f m=>exact h.same fun n'=>JA _ _ _ _ _ _ (by trivial) (by trivial) (by trivial) (by trivial)
 |taken c t d =>
  refine h.same fun n'=>?_;show Z8 (Z8 F ("T",c) t) ("t",t) c ("S",n')=_;rw [YT,Qa (fun z=>absurd z.1 (by trivial)),YT,Qa (fun z=>absurd z.1 (by trivial))]
 |dead n d=>exact h.same fun n'=>rfl
 |given a b am d=>exact h.same fun n'=>rfl
theorem ZlV (h:∀e∈es,Wl e):SOk (Yz es).1 (Yz es).2:=by
 have go:∀(es:List Ent) (p:ZN×Wb),(∀e∈es,Wl e)->SOk p.1 p.2->SOk (es.foldl U8 p).1 (es.foldl U8 p).2:=by
  intro es
  induction es with
  |nil=>intro p _ h;exact h
  |cons e es ih =>
   intro p ha h;exact ih _ (fun x hx=>ha x (QC _ hx)) (Zkg (ha e (QH ..)) h)
 exact go es _ h ⟨fun n=>.nil,fun n=>.nil,fun n w=>by simp [YN]⟩
noncomputable def tl (c:Str×Str) (es:List Ent):List (Int×Str):=es.filterMap fun e=>if e.tie=true∧Zf e.pr.1 e.pr.2=c then some (e.day,e.kind) else none
theorem ZfU {k:Str} (h:d∉l.map (·.1)):Zp l d k=l++[(d,k)]:=by
 unfold Zp;rw [Qa];intro z;rw [Gz] at z;obtain ⟨q,hq,e⟩:=z;exact h (Qg.mpr ⟨q,hq,Q9 e⟩)
theorem Zpk {G:Wb} (hG:∀c,G c=tl c es) (n:e.tie=true->e.day∉(tl (Zf e.pr.1 e.pr.2) es).map (·.1)) (c:Str×Str):Jo G e c=tl c (es++[e]):=by
 have ap:tl c (es++[e])=tl c es++tl c [e]:=by unfold tl;rw [RX]
 rw [ap];cases e with
 |union a b d =>
  show (if c=Zf a b then Zp (G (Zf a b)) d "union" else G c)=_;by_cases h:c=Zf a b
  ·subst h;have n':d∉(tl (Zf a b) es).map (·.1):=n rfl;rw [Qb rfl,hG,ZfU n'];simp [tl,Ent.tie,Ent.pr,Ent.day,Ent.kind]
  ·rw [Qa h,hG];simp [tl,Ent.tie,Ent.pr,QX h]
 |parted a b d =>
  show (if c=Zf a b then Zp (G (Zf a b)) d "parted" else G c)=_;by_cases h:c=Zf a b
  ·subst h;have n':d∉(tl (Zf a b) es).map (·.1):=n rfl;rw [Qb rfl,hG,ZfU n'];simp [tl,Ent.tie,Ent.pr,Ent.day,Ent.kind]
  ·rw [Qa h,hG];simp [tl,Ent.tie,Ent.pr,QX h]
 |_=>rw [show Jo G _ c=G c from rfl,hG];simp [tl,Ent.tie]
def Once (es:List Ent):Prop:=∀c,((tl c es).map (·.1)).Nodup
theorem Once.init (h:Once (es++[e])):Once es∧(e.tie=true->e.day∉(tl (Zf e.pr.1 e.pr.2) es).map (·.1)):=by
 have ap:∀c,tl c (es++[e])=tl c es++tl c [e]:=fun c=>by unfold tl;rw [RX]
 refine ⟨fun c=>?_,fun t m=>?_⟩
 ·have:=h c;rw [ap,Qv,QZ] at this;exact this.1
 ·have:=h (Zf e.pr.1 e.pr.2);rw [ap,Qv,QZ] at this;have e1:tl (Zf e.pr.1 e.pr.2) [e]=[(e.day,e.kind)]:=by simp [tl,t]
  rw [e1] at this;exact this.2.2 _ m _ (QH ..) rfl
theorem Zfb (h:Once es) (c:Str×Str):(Yz es).2 c=tl c es:=by
 have go:∀n (es:List Ent),es.length=n->Once es->∀c,(Yz es).2 c=tl c es:=by
  intro n
  induction n with
  |zero =>
   intro es hl _ c;rw [List.length_eq_zero_iff.mp hl];rfl
  |succ n ih =>
   intro es hl ho c;obtain ⟨xs,x,rfl⟩:∃xs x,es=xs++[x]:=⟨es.dropLast,es.getLast (by intro z;rw [z] at hl;cases hl),(ND _).symm⟩;obtain ⟨o1,o2⟩:=ho.init;rw [Zbn];exact Zpk (ih xs (by rw [Qq] at hl;exact Nat.succ.inj hl) o1) o2 c
 exact go _ es rfl h c
noncomputable def W4 (a b:Str) (last:Option Ent) (e:Ent):Option Ent:=if e.tie=true∧Zf e.pr.1 e.pr.2=Zf a b then (match last with|none=>some e|some l=>if l.day<e.day then some e else some l) else last
noncomputable def Za0 (ds:List Ent) (a b:Str):Bool:=match ds.foldl (W4 a b) none with
 |some e=>decide (e.kind="union")
 |none=>false
def UT (last:Option Ent) (l:List (Int×Str)):Prop:=match last with
 |none=>l=[]
 |some e=>(e.day,e.kind)∈l∧∀q∈l,q.1≤e.day
theorem Zlz {a b:Str} {last:Option Ent} (h:UT last (tl (Zf a b) xs)):UT (W4 a b last e) (tl (Zf a b) (xs++[e])):=by
 have ap:tl (Zf a b) (xs++[e])=tl (Zf a b) xs++tl (Zf a b) [e]:=by unfold tl;rw [RX]
 rw [ap];unfold W4;by_cases c:e.tie=true∧Zf e.pr.1 e.pr.2=Zf a b
 ·rw [Qb c];have e1:tl (Zf a b) [e]=[(e.day,e.kind)]:=by unfold tl;simp [c.1,c.2]
  rw [e1];cases last with
  |none =>
   have h':tl (Zf a b) xs=[]:=h;rw [h'];exact ⟨QH ..,fun q hq=>by rw [show q=(e.day,e.kind) by simpa using hq];exact GY _⟩
  |some l =>
   obtain ⟨h1,h2⟩:=(show (l.day,l.kind)∈tl (Zf a b) xs∧∀q∈tl (Zf a b) xs,q.1≤l.day from h);by_cases lt:l.day<e.day
   ·show UT (if l.day<e.day then some e else some l) _;rw [Qb lt];refine ⟨by simp,fun q hq=>?_⟩;rcases Ql.mp hq with hq|hq
    ·have:=h2 q hq;show q.1≤e.day;omega
    ·rw [show q=(e.day,e.kind) by simpa using hq];exact GY _
   ·show UT (if l.day<e.day then some e else some l) _;rw [Qa lt];refine ⟨Ql.mpr (.inl h1),fun q hq=>?_⟩;rcases Ql.mp hq with hq|hq
    ·exact h2 q hq
    ·rw [show q=(e.day,e.kind) by simpa using hq];show e.day≤l.day;omega
 ·rw [Qa c];have e1:tl (Zf a b) [e]=[]:=by unfold tl;simp [c]
  rw [e1,Qt];exact h
theorem ZeL {a b:Str}:∀(ds xs:List Ent) (last:Option Ent),UT last (tl (Zf a b) xs)->UT (ds.foldl (W4 a b) last) (tl (Zf a b) (xs++ds))
 |[],xs,last,h=>by rw [Qt];exact h
 |e::ds,xs,last,h=>by
  rw [Q7,show xs++e::ds=(xs++[e])++ds by simp];exact ZeL ds (xs++[e]) _ (Zlz h)
theorem Zjw {m:Int} {k:Str}:(l.map (·.1)).Nodup->(m,k)∈l->ZD m l=some k:=by
 induction l with
 |nil=>intro _ h;cases h
 |cons q r ih =>
  intro n h;rw [Qx,QP] at n;unfold ZD;rcases Qh.mp h with h|h
  ·rw [Qb (by rw [←h]),←h]
  ·rw [Qa (fun z=>n.1 (Qg.mpr ⟨(m,k),h,z.symm⟩))];exact ih n.2 h
theorem ZlG {ds:List Ent} (o:Once ds) (a b:Str):Za0 ds a b=YN (tl (Zf a b) ds):=by
 have h:=ZeL (a:=a) (b:=b) ds [] none rfl;rw [List.nil_append] at h;unfold Za0;cases hl:ds.foldl (W4 a b) none with
 |none =>
  rw [hl] at h;rw [show tl (Zf a b) ds=[] from h];rfl
 |some e =>
  rw [hl] at h;obtain ⟨h1,h2⟩:=(show (e.day,e.kind)∈tl (Zf a b) ds∧∀q∈tl (Zf a b) ds,q.1≤e.day from h)
  have:=Zhm (l:=tl (Zf a b) ds) (m:=e.day) (x:=e.kind) (Qg.mpr ⟨_,h1,rfl⟩) (fun y hy=>by
   obtain ⟨q,hq,rfl⟩:=Qg.mp hy;exact h2 q hq) (Zjw (o _) h1)
  rw [this]
theorem Znb (e:Ent):e.told.tie=e.tie∧Zf e.told.pr.1 e.told.pr.2=Zf e.pr.1 e.pr.2∧e.told.day=e.day∧e.told.kind=e.kind:=by
 cases e with
 |union a b d=>exact ⟨rfl,VE a b,rfl,rfl⟩
 |parted a b d=>exact ⟨rfl,VE a b,rfl,rfl⟩
 |_=>exact ⟨rfl,rfl,rfl,rfl⟩
theorem ZjM (h:Wl e):Wl e.told:=fun t=>by
 obtain ⟨h1,h2,_,_⟩:=Znb e;rw [h1] at t;have ne:=h t;intro z;apply ne
 have:∀a b:Str,(Zf a b).1=(Zf a b).2->a=b:=fun a b h=>by
  unfold Zf at h;split at h
  ·exact h.symm
  ·exact h
 cases e with
 |union a b d=>exact this a b z
 |parted a b d=>exact this a b z
 |_=>cases t
theorem ZeR {f:Ent->List Str} (h:∀e,(f e).length≤1):∀l:List Ent,(l.flatMap f).length≤l.length
 |[]=>Qe _
 |e::l=>by
  rw [NI,Qq,QM];have:=ZeR h l;have:=h e;omega
theorem UH (n:Str) (e:Ent):(Vn n e).length≤1∧(W6 n e).length≤1∧(W8 n e).length≤1∧(Vm n e).length≤1∧(addT n e).length≤1∧(Vy n e).length≤1:=by
 cases e<;>simp only [Vn,W6,W8,Vm,addT,Vy]<;>refine ⟨?_,?_,?_,?_,?_,?_⟩<;>(try split)<;>simp
theorem ZjE {l:Str} (h:l∉XC) (n:Str):(Yz es).1 (l,n)=[]:=by
 have hh:l≠"F"∧l≠"M"∧l≠"T"∧l≠"f"∧l≠"m"∧l≠"t"∧l≠"S":=by simpa [XC] using h
 obtain ⟨h1,h2,h3,h4,h5,h6,h7⟩:=hh
 have go:∀(es:List Ent) (p:ZN×Wb),p.1 (l,n)=[]->(es.foldl U8 p).1 (l,n)=[]:=by
  intro es
  induction es with
  |nil=>intro p h;exact h
  |cons e es ih =>
   intro p h;rw [Q7];refine ih _ ?_;show Va p.1 p.2 e (l,n)=[];cases e with
   |born n' s d f m=>show Xp p.1 n' f m (l,n)=[];rw [JA _ _ _ _ _ _ h1 h4 h2 h5];exact h
   |taken c t d=>show Z8 (Z8 p.1 ("T",c) t) ("t",t) c (l,n)=[];rw [YT,Qa (fun z=>h6 z.1),YT,Qa (fun z=>h3 z.1)];exact h
   |union a b d=>show ZI _ _ _ _ _=[];rw [Yr _ _ _ _ _ _ h7,Yr _ _ _ _ _ _ h7];exact h
   |parted a b d=>show ZI _ _ _ _ _=[];rw [Yr _ _ _ _ _ _ h7,Yr _ _ _ _ _ _ h7];exact h
   |dead a d=>exact h
   |given a b am d=>exact h
 exact go es _ rfl
structure BSt (B:Bk) (es:List Ent):Prop where
 kept:B.kept.map (·.1)=es
 lks:lk B.links=(Yz es).1
 tis:YZ B.ties=(Yz es).2
 nd:(B.ties.map (·.1)).Nodup
 nl:B.links.length≤4*es.length
 nt:B.ties.length≤es.length
 ns:B.sums.length≤es.length
theorem BSt.start:BSt Vr []:=⟨rfl,rfl,rfl,.nil,Qe _,Qe _,Qe _⟩
theorem BSt.put (h:BSt B es) (p:Put B e B'):BSt B' (es++[e.told]):=by
 obtain ⟨a,hk⟩:=p.kept;have l1:(es++[e.told]).length=es.length+1:=by rw [Qq];rfl
 have n1:=p.nl;have n2:=p.nt;have n3:=p.ns;have m1:=h.nl;have m2:=h.nt;have m3:=h.ns;refine ⟨by rw [hk,Qv,h.kept];rfl,?_,?_,p.nd,by omega,by omega,by omega⟩
 ·funext c
  rw [Zbn,p.lks,h.lks,h.tis];rfl
 ·funext c
  rw [Zbn,p.tis,h.tis];rfl
theorem ZnI (c:Str×Str) (es:List Ent):(tl c es).length≤es.length:=Rr ..
theorem Zhs {κ:Type} [DecidableEq κ] {k:κ}:∀{l:List (κ×V)},(∀p∈l,p.1≠k)->ZH l k=none
 |[],_=>rfl
 |p::l,h=>by
  rw [XW (h p (QH ..))];exact Zhs fun q hq=>h q (QC _ hq)
theorem ZlC (hk:B.kept.map (·.1)=es) {k:List Zl} (h:∀e∈es,e.key≠k):ZH B.keptD k=none:=by
 refine Zhs fun p hp=>?_;obtain ⟨q,hq,rfl⟩:=Qg.mp hp;exact h q.1 (by rw [←hk];exact Qg.mpr ⟨q,hq,rfl⟩)
theorem Zh5 (hk:B.kept.map (·.1)=es):B.kept.length=es.length:=by rw [←hk,Qc]
theorem ZbY {K:W.Frag} {H:Hp}:∀zs:List Str,IsL K H (zs.map D.str) (zs.map V.str)
 |[]=>rfl
 |z::zs=>⟨_,_,rfl,rfl,ZbY zs⟩
theorem ZhB:∀zs:List Str,Xo (zs.map D.str)=0
 |[]=>rfl
 |z::zs=>by
  show max 0 (Xo (zs.map D.str))=0;rw [ZhB zs];rfl
theorem Zfx (l:List Str):(l.map V.str).all Wi=true:=by
 rw [Gu,Ru];intro x _;rfl
def Zjt (K:W.Frag) (H:Hp) (B:Bk) (x:V):Prop:=(∃ty,Kd K H x ty∧W.kitOne K ty (.type "str")=some false)∨∃n,x=.str n∧Z7 n B.kept=none
theorem ZoC (l:List (Ent×Addr)):(Bk.bornD l).length=(YV l).length:=by rw [Zg6,Qc,←Zg4,Qc]
noncomputable def amt (c:Str×Str):Ent->Int
 |.given g t am _=>if c=(g,t) then am else 0
 |_=>0
noncomputable def J9 (c:Str×Str) (es:List Ent):Int:=(es.map (amt c)).sum
theorem Zkh (c:Str×Str) (es:List Ent) (e:Ent):J9 c (es++[e])=J9 c es+amt c e:=by
 unfold J9;rw [Qv,List.sum_append];simp
theorem Zgh {a b:Str} (ne:a≠b) (c:Str×Str):(ZI (ZI F st a b) st b a c).length≤(F c).length+1:=by
 by_cases e:c=(("S",b):Str×Str)
 ·refine Qn (ZcJ ..) ?_
  have:ZI F st a b c=F c:=by
   unfold ZI;rw [Qa];intro z;rw [e] at z;injection z with _ z2;exact ne z2.symm
  rw [this];exact Qe _
 ·have:ZI (ZI F st a b) st b a c=ZI F st a b c:=by
   show (if c=(("S",b):Str×Str) then _ else ZI F st a b c)=_;rw [Qa e]
  rw [this];exact ZcJ ..
def D5 (pool:List Str) (e:Ent):Prop:=e.Ok∧(∀n∈e.named,n∈pool)∧∀n,e.bornName=some n->n∈pool
noncomputable def LBk (ks:List (Ent×Addr)):Bk:=⟨ks,[],[],[]⟩
structure KsOk (ks:List (Ent×Addr)):Prop where
 told:∀p∈ks,p.1.told=p.1
 nd:(YV ks).Nodup
 len:ks.length≤60
theorem Zkr {k:List Zl}:∀{l m:List (Ent×Addr)},l.map (·.1)=m.map (·.1)->(ZH (l.map fun p=>(p.1.key,V.ref p.2)) k).isSome=(ZH (m.map fun p=>(p.1.key,V.ref p.2)) k).isSome:=by
 intro l
 induction l with
 |nil=>intro m h;cases m with
  |nil=>rfl
  |cons q m=>cases h
 |cons p l ih=>intro m h;cases m with
  |nil=>cases h
  |cons q m =>
   have h1:p.1=q.1:=(RG h).1;have h2:=(RG h).2;rw [Qx,Qx];by_cases c:p.1.key=k
   ·rw [XQ (show (p.1.key,V.ref p.2).1=k from c),XQ (show q.1.key=k by rw [←h1];exact c)];rfl
   ·rw [XW (show ¬(p.1.key,V.ref p.2).1=k from c),XW (show ¬q.1.key=k by rw [←h1];exact c)];exact ih h2
theorem Zoe {k:List Zl}:∀{ks:List (Ent×Addr)},(∃p∈ks,p.1.key=k)->(ZH (LBk ks).keptD k).isSome=true:=by
 intro ks
 induction ks with
 |nil=>rintro ⟨p,hp,_⟩;cases hp
 |cons q ks ih =>
  rintro ⟨p,hp,e⟩;show (ZH ((q.1.key,V.ref q.2)::(LBk ks).keptD) k).isSome=true;by_cases c:q.1.key=k
  ·rw [XQ (show (q.1.key,V.ref q.2).1=k from c)];rfl
  ·rw [XW (show ¬(q.1.key,V.ref q.2).1=k from c)];rcases Qh.mp hp with rfl|hp
   ·exact absurd e c
   ·exact ih ⟨p,hp,e⟩
theorem Zlr:∀{es:List Ent},(∀e∈es,Wl e)->∀n,((Yz es).1 ("S",n)).length≤es.length:=by
 have go:∀k (es:List Ent),es.length=k->(∀e∈es,Wl e)->∀n,((Yz es).1 ("S",n)).length≤es.length:=by
  intro k
  induction k with
  |zero =>
   intro es h _ n;have:es=[]:=List.eq_nil_of_length_eq_zero h;subst this;exact Qe _
  |succ k ih =>
   intro es h ap n;have ne:es≠[]:=fun z=>by rw [z] at h;cases h
   obtain ⟨xs,e,rfl⟩:∃xs e,es=xs++[e]:=⟨_,_,(ND ne).symm⟩;have lx:xs.length=k:=by rw [Qq] at h;exact Nat.succ.inj h
   have ih:=ih xs lx (fun x hx=>ap x (Ql.mpr (.inl hx))) n;have ae:=ap e (Ql.mpr (.inr (QG.mpr rfl)));rw [Zbn,Qq]
   have key:(Va (Yz xs).1 (Yz xs).2 e ("S",n)).length≤((Yz xs).1 ("S",n)).length+1:=by
    cases e with
    |born n' s d f m =>
     show (Xp (Yz xs).1 n' f m ("S",n)).length≤_;rw [JA _ _ _ _ _ _ (by trivial) (by trivial) (by trivial) (by trivial)];exact QQ _
    |taken c t d =>
     show (Z8 (Z8 (Yz xs).1 ("T",c) t) ("t",t) c ("S",n)).length≤_;rw [YT,Qa (fun z=>absurd z.1 (by trivial)),YT,Qa (fun z=>absurd z.1 (by trivial))];exact QQ _
    |union a b d=>exact Zgh (ae rfl) _
    |parted a b d=>exact Zgh (ae rfl) _
    |dead a d=>exact QQ _
    |given a b am d=>exact QQ _
   show (Va (Yz xs).1 (Yz xs).2 e ("S",n)).length≤xs.length+1;omega
 intro es h n;exact go es.length es rfl h n
theorem ZhW (h:∀e∈es,Wl e) (c:Str×Str):((Yz es).1 c).length≤es.length:=by
 obtain ⟨l,n⟩:=c
 have six:∀{ad:Str->Ent->List Str},Adds l ad->(∀e,(ad n e).length≤1)->((Yz es).1 (l,n)).length≤es.length:=fun A h1=>by
  rw [A.all,(Wn _).length_eq];exact ZeR h1 es
 by_cases hl:l∈XC
 ·simp only [XC,Qh,QJ,QK] at hl;rcases hl with rfl|rfl|rfl|rfl|rfl|rfl|rfl
  ·exact six ZhY fun e=>(UH n e).1
  ·exact six Zh9 fun e=>(UH n e).2.1
  ·exact six Zfm fun e=>(UH n e).2.2.2.2.1
  ·exact six ZiA fun e=>(UH n e).2.2.1
  ·exact six Zfe fun e=>(UH n e).2.2.2.1
  ·exact six ZeU fun e=>(UH n e).2.2.2.2.2
  ·exact Zlr h n
 ·rw [ZjE hl];exact QV _
theorem Znk {ds:List Ent} (h:(ds.map fun e=>e.told.key).Nodup):Once ds:=by
 intro c
 have go:∀ds:List Ent,(ds.map fun e=>e.told.key).Nodup->((tl c ds).map (·.1)).Nodup:=by
  intro ds
  induction ds with
  |nil=>intro _;exact .nil
  |cons e ds ih =>
   intro n;rw [Qx,QP] at n;have ih:=ih n.2;unfold tl at ih ⊢;rw [Rb];by_cases cc:e.tie=true∧Zf e.pr.1 e.pr.2=c
   ·rw [Qb cc];show (_::_).Nodup;rw [QP];refine ⟨fun m=>?_,ih⟩;obtain ⟨q,hq,eq⟩:=Qg.mp m;obtain ⟨x,hx,ex⟩:=Ra.mp hq;by_cases c2:x.tie=true∧Zf x.pr.1 x.pr.2=c
    ·rw [Qb c2] at ex;have:=Qj ex;subst this;refine n.1 (Qg.mpr ⟨x,hx,?_⟩)
     have kk:∀y:Ent,y.tie=true->y.told.key=[.inr "tie",.inr (Zf y.pr.1 y.pr.2).1,.inr (Zf y.pr.1 y.pr.2).2,.inl y.day]:=fun y hy=>by
      cases y with
      |union=>rfl
      |parted=>rfl
      |_=>cases hy
     rw [kk x c2.1,kk e cc.1,c2.2,cc.2,show x.day=e.day from eq]
    ·rw [Qa c2] at ex;cases ex
   ·rw [Qa cc];exact ih
 exact go ds h
structure LI5 (pool:List Str) (B:Bk) (ks:List (Ent×Addr)):Prop where
 st:BSt B (ks.map (·.1))
 sus:∀c,Y8 B.sums c=J9 c (ks.map (·.1))
 told:∀p∈ks,p.1.told=p.1
 keys:(ks.map fun p=>p.1.told.key).Nodup
 inp:∀p∈ks,∀n,p.1.bornName=some n->n∈pool
 ap:∀p∈ks,Wl p.1
theorem LI5.start (pool:List Str):LI5 pool Vr []:=⟨BSt.start,fun _=>rfl,fun p hp=>(by cases hp),.nil,fun p hp=>(by cases hp),fun p hp=>(by cases hp)⟩
theorem LI5.ap' (h:LI5 pool B ks):∀e∈ks.map (·.1),Wl e:=fun e he=>by
 obtain ⟨p,hp,rfl⟩:=Qg.mp he;exact h.ap p hp
theorem LI5.once (h:LI5 pool B ks):Once (ks.map (·.1)):=by
 refine Znk ?_;rw [QR];exact h.keys
theorem LI5.room (h:LI5 pool B ks) (l:ks.length≤60):Room1 B:=by
 have e:(ks.map (·.1)).length=ks.length:=Qc ..;have m1:=h.st.nl;have m2:=h.st.nt;have m3:=h.st.ns;refine ⟨h.st.nd,by omega,by omega,by omega,fun c=>?_,fun c=>?_⟩
 ·rw [h.st.lks];exact Qn (ZhW h.ap' c) (by omega)
 ·rw [h.st.tis,Zfb h.once];exact Qn (ZnI c _) (by omega)
theorem ZeC (e:Ent):e.told.bornName=e.bornName:=by cases e<;>rfl
theorem Zo7 (h:Wf B e=true):Wl e:=fun t=>by
 cases e with
 |union a b d =>
  intro z;rw [Za5 rfl,show (Ent.union a b d).same=true from Qu (show a=b from z)] at h;cases h
 |parted a b d =>
  intro z;rw [Za5 rfl,show (Ent.parted a b d).same=true from Qu (show a=b from z)] at h;cases h
 |_=>cases t
theorem Ze2 (h:X5 B e=none):B.kept.length<400∧(e.isBorn=true->(Bk.bornD B.kept).length<60)∧(∀n∈e.named,Known B n)∧ZH B.keptD e.told.key=none∧Wf B e=true:=by
 obtain ⟨h1,h2,h3⟩:=ZhP h;unfold X5 at h;by_cases f:B.full e=true
 ·rw [Qb f] at h;cases h
 ·rw [Qa f,Qa (by rw [ZgP h3];decide),Qa (by rw [h1];decide)] at h;refine ⟨h2,fun b=>?_,h3,h1,?_⟩
  ·unfold Bk.full at f;rw [b,GA,Gd,not_or] at f;have:=f.2;rw [G6] at this;omega
  ·cases hf:Wf B e with
   |true=>rfl
   |false=>rw [hf,Qa (by decide)] at h;cases h
theorem LI5.put (h:LI5 pool B ks) (p:Put B e B') (d:D5 pool e) (no:X5 B e=none) (a:Addr):LI5 pool B' (ks++[(e.told,a)]):=by
 obtain ⟨_,_,_,hv,hf⟩:=Ze2 no;have st:=h.st.put p;have em:(ks++[(e.told,a)]).map (·.1)=ks.map (·.1)++[e.told]:=by rw [Qv];rfl
 rw [←em] at st;have one:∀q∈ks++[(e.told,a)],q∈ks∨q=(e.told,a):=fun q hq=>(Ql.mp hq).imp id (fun z=>by simpa using z);refine ⟨st,fun c=>?_,fun q hq=>?_,?_,fun q hq n hn=>?_,fun q hq=>?_⟩
 ·rw [p.su c,em,Zkh];generalize e.told=e' at *;cases e' with
  |given x y am d =>
   show (if c=(x,y) then Y8 B.sums c+am else Y8 B.sums c)=J9 c _+(if c=(x,y) then am else 0);rw [h.sus];split<;>simp
  |_=>rw [show ZaD (Y8 B.sums) _ c=Y8 B.sums c from rfl,h.sus];exact (Int.add_zero _).symm
 ·rcases one q hq with hq|rfl
  ·exact h.told q hq
  ·exact Zbp e
 ·rw [Qv,QZ];refine ⟨h.keys,by simp,fun x hx y hy z=>?_⟩;have hy':y=e.told.told.key:=by simpa using hy
  obtain ⟨q,hq,rfl⟩:=Qg.mp hx;have kn:(ZH (LBk ks).keptD e.told.key).isSome=true:=Zoe ⟨q,hq,by rw [h.told q hq] at z;rw [z,hy',Zbp]⟩;have kv:(ZH B.keptD e.told.key).isSome=(ZH (LBk ks).keptD e.told.key).isSome:=Zkr (l:=B.kept) (m:=ks) h.st.kept;rw [kn,hv] at kv;cases kv
 ·rcases one q hq with hq|rfl
  ·exact h.inp q hq n hn
  ·exact d.2.2 n (by rw [←ZeC];exact hn)
 ·rcases one q hq with hq|rfl
  ·exact h.ap q hq
  ·exact ZjM (Zo7 hf)
theorem Zi3 {l m:List Str} (h:l.Nodup) (s:∀x∈l,x∈m):l.length≤m.length:=by
 induction l generalizing m with
 |nil=>exact QV _
 |cons a l ih =>
  have hn:=QP.mp h;have am:=s a (QH ..);have:=ih (m:=m.erase a) hn.2 fun x hx=>(List.mem_erase_of_ne (fun z=>hn.1 (by rw [←z];exact hx))).mpr (s x (QC _ hx));rw [List.length_erase_of_mem am] at this;have:=List.length_pos_of_mem am;rw [QM];omega
theorem LI5.names (h:LI5 pool B ks):(YV ks).Nodup∧∀n∈YV ks,n∈pool:=by
 refine ⟨?_,fun n hn=>?_⟩
 ·have k:=h.keys;clear h
  induction ks with
  |nil=>exact .nil
  |cons p ks ih =>
   have kn:=QP.mp (show (p.1.told.key::ks.map fun p=>p.1.told.key).Nodup from k);have ih:=ih kn.2;unfold YV at ih ⊢;rw [Rb];cases hb:p.1.bornName with
   |none=>exact ih
   |some n =>
    refine QP.mpr ⟨fun hm=>?_,ih⟩;obtain ⟨q,hq,eq⟩:=Ra.mp hm;refine kn.1 (Qg.mpr ⟨q,hq,?_⟩)
    have bk:∀e:Ent,e.bornName=some n->e.told.key=[.inr "born",.inr n]:=fun e he=>by
     cases e with
     |born n' s d f m=>cases he;rfl
     |_=>cases he
    rw [bk _ eq,bk _ hb]
 ·obtain ⟨q,hq,eq⟩:=Ra.mp hn;exact h.inp q hq n eq
theorem LI5.ksok (h:LI5 pool B ks) (l:ks.length≤60) (p33:pool.length≤33):KsOk ks∧(YV ks).length<60:=by
 obtain ⟨n1,n2⟩:=h.names;exact ⟨⟨h.told,n1,l⟩,Rp (Zi3 n1 n2) (by omega)⟩
structure Fit (xs:List Ent) (e:Ent):Prop where
 kn:∀n∈e.named,∃s d f m,Ent.born n s d f m∈xs∧d≤e.day
 key:∀x∈xs,x.key≠e.told.key
 par:∀n s d f m,e=.born n s d f m->(f=""∨∃d' f' m',Ent.born f "he" d' f' m'∈xs∧d'<d)∧(m=""∨∃d' f' m',Ent.born m "she" d' f' m'∈xs∧d'<d)
 tk:∀c t d,e=.taken c t d->∀sc dc fc mc st dt ft mt,Ent.born c sc dc fc mc∈xs->Ent.born t st dt ft mt∈xs->dt<dc
 ap:e.same=false
def BU (xs:List Ent):Prop:=∀{n s d f m s' d' f' m'},Ent.born n s d f m∈xs->Ent.born n s' d' f' m'∈xs->Ent.born n s d f m=.born n s' d' f' m'
theorem UQ (h:B.kept.map (·.1)=xs) (u:BU xs) (hm:Ent.born n s d f m∈xs):Known B n∧Wa B n=s∧Ym B n=d:=by
 obtain ⟨a,ha⟩:=Zgw (l:=B.kept) (by rw [h];exact hm) fun {s' d' f' m'} hm'=>by
  rw [h] at hm';exact u hm' hm
 exact ⟨by unfold Known;rw [ha];simp,ZaV ha rfl,Zak ha rfl⟩
theorem Zlf (h:B.kept.map (·.1)=xs) (u:BU xs) (l:xs.length<400) (b:e.isBorn=true->(YV B.kept).length<60) (f:Fit xs e):X5 B e=none:=by
 have kl:=Zh5 h;refine Zlq ?_ (fun n hn=>?_) ?_ ?_
 ·unfold Bk.full;rw [Qr (show ¬400≤B.kept.length by omega),ZoC];cases hb:e.isBorn with
  |false=>rfl
  |true=>rw [Qr (show ¬60≤(YV B.kept).length by have:=b hb;omega)];rfl
 ·obtain ⟨s,d,f',m,h1,_⟩:=f.kn n hn;exact (UQ h u h1).1
 ·rw [ZlC h f.key];rfl
 ·cases hi:e.isBorn with
  |true =>
   cases e with
   |born n s d fa mo =>
    obtain ⟨p1,p2⟩:=f.par n s d fa mo rfl
    have one:∀{x so:Str},(x=""∨∃d' f' m',Ent.born x so d' f' m'∈xs∧d'<d)->XU B x so d=true:=fun {x so} hx=>by
     unfold XU;rcases hx with rfl|⟨d',f',m',h1,h2⟩
     ·rfl
     ·obtain ⟨_,e1,e2⟩:=UQ h u h1;rw [e1,e2,Qu rfl,Qu h2,GA,Bool.or_true]
    show (XU B fa "he" d&&XU B mo "she" d)=true;rw [one p1,one p2];rfl
   |_=>cases hi
  |false =>
   rw [Za5 hi,f.ap]
   have he:e.early B=false:=by
    cases e with
    |taken c t d =>
     obtain ⟨sc,dc,fc,mc,h1,_⟩:=f.kn c (by simp [Ent.named]);obtain ⟨st,dt,ft,mt,h2,_⟩:=f.kn t (by simp [Ent.named]);have h3:=f.tk c t d rfl _ _ _ _ _ _ _ _ h1 h2;show decide (Ym B c≤Ym B t)=false;rw [(UQ h u h1).2.2,(UQ h u h2).2.2];exact Qr (by omega)
    |_=>rfl
   rw [he];show (e.named.all fun n=>decide (Ym B n≤e.day))=true;rw [Ru];intro n hn;obtain ⟨s,d,f',m,h1,h2⟩:=f.kn n hn;rw [(UQ h u h1).2.2];exact Qu h2
inductive GdL (pool:List Str):List Ent->Prop
 |nil:GdL pool []
 |snoc {es:List Ent} {e:Ent} (h:GdL pool es) (d:D5 pool e) (d':D5 pool e.told) (f:Fit (es.map Ent.told) e):GdL pool (es++[e])
theorem GdL.last {l:List Ent} (h:GdL pool l) (el:l=xs++[e]):GdL pool xs∧D5 pool e∧D5 pool e.told∧Fit (xs.map Ent.told) e:=by
 cases h with
 |nil=>simp at el
 |snoc h d d' f =>
  obtain ⟨e1,e2⟩:=List.append_inj' el rfl;obtain ⟨e3,_⟩:=RG e2;subst e1 e3;exact ⟨h,d,d',f⟩
theorem GdL.take {l:List Ent} (h:GdL pool l):∀i,GdL pool (l.take i):=by
 induction h with
 |nil=>intro i;rw [List.take_nil];exact .nil
 |@snoc xs e h d d' f ih =>
  intro i;by_cases il:i≤xs.length
  ·rw [List.take_append_of_le_length il];exact ih i
  ·rw [GB (by rw [Qq];show _+1≤_;omega)];exact .snoc h d d' f
theorem GdL.bu {l:List Ent} (h:GdL pool l):BU (l.map Ent.told):=by
 induction h with
 |nil=>intro n s d f m s' d' f' m' h1;cases h1
 |@snoc xs e h d5 d5' f ih =>
  intro n s d fa m s' d' f' m' h1 h2;rw [Qv] at h1 h2;have kb:∀{x:Ent} {n s f m:Str} {d:Int},x=.born n s d f m->x.key=[.inr "born",.inr n]:=fun z=>by rw [z];rfl
  rcases Ql.mp h1 with h1|h1<;>rcases Ql.mp h2 with h2|h2
  ·exact ih h1 h2
  ·have e2:=QG.mp h2;exact absurd (by rw [←e2];rfl) (f.key _ h1)
  ·have e1:=QG.mp h1;exact absurd (by rw [←e1];rfl) (f.key _ h2)
  ·rw [QG.mp h1,QG.mp h2]
theorem GdL.d5 {l:List Ent} (h:GdL pool l):∀e∈l,D5 pool e:=by
 induction h with
 |nil=>intro e he;cases he
 |snoc h d5 d' f ih =>
  intro e he;rcases Ql.mp he with he|he
  ·exact ih e he
  ·rw [QG.mp he];exact d5
theorem LI5.put' (h:LI5 pool B B.kept) (p:Put B e B') (d:D5 pool e) (no:X5 B e=none):LI5 pool B' B'.kept∧B'.kept.map (·.1)=B.kept.map (·.1)++[e.told]:=by
 obtain ⟨a,ha⟩:=p.kept;have z:=h.put p d no a;rw [←ha] at z;exact ⟨z,by rw [ha,Qv];rfl⟩
theorem GdL.ref (li:LI5 pool B B.kept) (hk:B.kept.map (·.1)=es.map Ent.told) (g:GdL pool (es++[e])) (l:B.kept.length≤60) (p33:pool.length≤33):X5 B e=none∧D5 pool e∧Room1 B:=by
 obtain ⟨g0,d5,_,f⟩:=g.last rfl;have kl:=Zh5 hk;refine ⟨Zlf hk g0.bu (by rw [←kl];omega) (fun _=>(li.ksok l p33).2) f,d5,li.room l⟩
theorem JT {l:List Str} (h:(l.map V.str)[i]?=some v):∃x,l[i]?=some x∧v=.str x:=by
 rw [Qo] at h;obtain ⟨x,hx,rfl⟩:=QF.mp h;exact ⟨x,hx,rfl⟩
structure FitB (bs:List Ent) (e:Ent):Prop where
 nb:e.isBorn=false
 ok:e.Ok
 ok':e.told.Ok
 kn:∀n∈e.named,∃s d f m,Ent.born n s d f m∈bs∧d≤e.day
 tk:∀c t d,e=.taken c t d->∀sc dc fc mc st dt ft mt,Ent.born c sc dc fc mc∈bs->Ent.born t st dt ft mt∈bs->dt<dc
 ap:e.same=false
theorem GdL.more {pool:List Str}:∀{ds es bs:List Ent},GdL pool es->(∀n s d f m,Ent.born n s d f m∈es↔Ent.born n s d f m∈bs)->(∀e∈ds,FitB bs e)->((es++ds).map fun e=>e.told.key).Nodup->GdL pool (es++ds)
 |[],es,bs,g,_,_,_=>by rw [Qt];exact g
 |e::ds,es,bs,g,hb,hf,nd=>by
  have f:=hf e (QH ..)
  have bt:∀{n s f m:Str} {d:Int},Ent.born n s d f m∈es.map Ent.told↔Ent.born n s d f m∈bs:=fun {n s f m d}=>by
   rw [←hb];constructor
   ·intro h;obtain ⟨x,hx,ex⟩:=Qg.mp h;cases x with
    |born n' s' d' f' m'=>rw [←ex];exact hx
    |_=>cases ex
   ·intro h;exact Qg.mpr ⟨_,h,rfl⟩
  have inp:∀n s d f m,Ent.born n s d f m∈bs->n∈pool:=fun n s d f m h=>(g.d5 _ ((hb ..).mpr h)).2.2 n rfl;have bn:∀x:Ent,x.isBorn=false->x.bornName=none:=fun x hx=>by cases x<;>first|rfl|cases hx
  have d5:D5 pool e:=⟨f.ok,fun n hn=>by obtain ⟨s,d,fa,m,h1,_⟩:=f.kn n hn;exact inp _ _ _ _ _ h1,fun n hn=>by rw [bn e f.nb] at hn;cases hn⟩;have d5':D5 pool e.told:=⟨f.ok',fun n hn=>d5.2.1 n (Zgx e n hn),fun n hn=>by rw [ZeC] at hn;exact d5.2.2 n hn⟩
  have UN:(es.map fun e=>e.told.key).Nodup∧∀x∈es,x.told.key≠e.told.key:=by
   rw [Qv,QZ] at nd;exact ⟨nd.1,fun x hx=>nd.2.2 _ (Qg.mpr ⟨x,hx,rfl⟩) _ (by rw [Qx];exact QH ..)⟩
  have g1:GdL pool (es++[e]):=by
   refine .snoc g d5 d5' ⟨fun n hn=>?_,fun x hx=>?_,fun n s d fa m he=>?_,fun c t d he sc dc fc mc st dt ft mt h1 h2=>f.tk c t d he _ _ _ _ _ _ _ _ (bt.mp h1) (bt.mp h2),f.ap⟩
   ·obtain ⟨s,d,fa,m,h1,h2⟩:=f.kn n hn;exact ⟨s,d,fa,m,bt.mpr h1,h2⟩
   ·obtain ⟨y,hy,rfl⟩:=Qg.mp hx;exact UN.2 y hy
   ·have:=f.nb;rw [he] at this;cases this
  have r:=GdL.more (ds:=ds) (es:=es++[e]) (bs:=bs) g1 (fun n s d fa m=>by
   rw [Ql];constructor
   ·rintro (h|h)
    ·exact (hb ..).mp h
    ·have:=f.nb;rw [←QG.mp h] at this;cases this
   ·intro h;exact .inl ((hb ..).mpr h)) (fun x hx=>hf x (QC _ hx)) (by rw [R7];exact nd)
  rw [R7] at r;exact r
theorem Zh2 {a b:Str} (ha:Nm a) (hb:Nm b) (d1:-10 ^ 18≤d) (d2:d≤10 ^ 18):(Ent.taken a b d).Ok∧(Ent.union a b d).Ok∧(Ent.union a b d).told.Ok∧(Ent.parted a b d).Ok∧(Ent.parted a b d).told.Ok:=by
 refine ⟨⟨VX (.inl rfl) ha hb d1 d2,UB (by trivial) ha hb⟩,⟨VX (.inr (.inl rfl)) ha hb d1 d2,UB (by trivial) ha hb⟩,?_,⟨VX (.inr (.inr rfl)) ha hb d1 d2,UB (by trivial) ha hb⟩,?_⟩
 ·show (Ent.union (Zf a b).1 (Zf a b).2 d).Ok;unfold Zf;split
  ·exact ⟨VX (.inr (.inl rfl)) hb ha d1 d2,UB (by trivial) hb ha⟩
  ·exact ⟨VX (.inr (.inl rfl)) ha hb d1 d2,UB (by trivial) ha hb⟩
 ·show (Ent.parted (Zf a b).1 (Zf a b).2 d).Ok;unfold Zf;split
  ·exact ⟨VX (.inr (.inr rfl)) hb ha d1 d2,UB (by trivial) hb ha⟩
  ·exact ⟨VX (.inr (.inr rfl)) ha hb d1 d2,UB (by trivial) ha hb⟩
theorem GdL.keys {l:List Ent} (g:GdL pool l):(l.map fun e=>e.told.key).Nodup:=by
 induction g with
 |nil=>exact .nil
 |@snoc xs e g d d' f ih =>
  rw [Qv,QZ];refine ⟨ih,by simp,fun a ha b hb z=>?_⟩;obtain ⟨x,hx,rfl⟩:=Qg.mp ha;have hb':b=e.told.key:=by simpa using hb
  exact f.key x.told (Qg.mpr ⟨x,hx,rfl⟩) (by rw [z,hb'])
theorem GdL.known {l:List Ent} (g:GdL pool l):∀e∈l,∀n∈e.named,∃s d f m,Ent.born n s d f m∈l.map Ent.told:=by
 induction g with
 |nil=>intro e he;cases he
 |@snoc xs e g d d' f ih =>
  intro x hx n hn;rw [Qv];rcases Ql.mp hx with hx|hx
  ·obtain ⟨s,d,f,m,h⟩:=ih x hx n hn;exact ⟨s,d,f,m,Ql.mpr (.inl h)⟩
  ·rw [QG.mp hx] at hn;obtain ⟨s,d,f,m,h,_⟩:=f.kn n hn;exact ⟨s,d,f,m,Ql.mpr (.inl h)⟩
noncomputable def Zs:List Str:=["F","M","T","f","m","t","S","he","she"]
noncomputable def VH (x:Str):Bool:=decide (x∈(["he","she"]:List Str))
noncomputable def Yu (B:Bk) (s n:Str):List Str:=if VH s=true then (if Wa B n=s then [n] else []) else Yn B s n
def X0 (L:Str->Str->List Str):List Str->(Str->Prop)->Str->Prop
 |[],P=>P
 |s::w,P=>X0 L w fun x=>∃y,P y∧x∈L s y
theorem ZiO (L:Str->Str->List Str) (s:Str):∀(w:List Str) (P:Str->Prop),X0 L (w++[s]) P=fun x=>∃y,X0 L w P y∧x∈L s y
 |[],_=>rfl
 |t::w,P=>ZiO L s w _
theorem ZcA {L:Str->Str->List Str} {R:Str->Prop} (cl:∀s∈Zs,∀y,R y->∀x∈L s y,R x):∀{w:List Str} {P:Str->Prop},(∀s∈w,s∈Zs)->(∀x,P x->R x)->∀x,X0 L w P x->R x
 |[],_,_,hP,x,h=>hP x h
 |s::w,P,hw,hP,x,h=>ZcA cl (fun t ht=>hw t (QC _ ht)) (fun x ⟨y,p,m⟩=>cl s (hw s (QH ..)) y (hP y p) x m) x h
structure SrtOf (P:Str->Prop) (xs:List Str):Prop where
 up:xs.Pairwise fun a b=>YC a b=true
 nd:xs.Nodup
 mem:∀x,x∈xs↔P x
structure Clo (B:Bk) (pool:List Str):Prop where
 led:∀s∈Zs,∀n,Known B n->∀x∈Yu B s n,Known B x
 inp:∀n,Known B n->n∈pool
 few:pool.length≤60
theorem Zg0 {xs:List Str} (h:xs.Nodup) (s:∀x∈xs,x∈pool):xs.length≤pool.length:=NS h s
theorem BkAt.monoX {K:W.Frag} {k:Addr} (h:BkAt K C H b dx k bi li ti su B) (s:SameX H H'):BkAt K C H' b dx k bi li ti su B :=
 ⟨s _ _ rfl h.ob,h.ap,h.at',s _ _ rfl h.ke,s _ _ rfl h.bi,s _ _ rfl h.li,s _ _ rfl h.ti,s _ _ rfl h.su,fun p hp=>s.sqt (h.en p hp),fun q hq=>s _ _ rfl (h.ll q hq),fun q hq=>s _ _ rfl (h.tt q hq)⟩
noncomputable abbrev Ziq:Arguments:=⟨[],[⟨"step",none,⟨286,46,286,50⟩⟩,⟨"begin",none,⟨286,52,286,57⟩⟩],none,[],[],none,[]⟩
noncomputable abbrev Zf8:Expr:=Uv "led_by_step" "book" "step" "begin" ⟨286,59,286,70⟩ ⟨286,71,286,75⟩ ⟨286,77,286,81⟩ ⟨286,83,286,88⟩ ⟨286,59,286,89⟩
noncomputable abbrev ZhH:Scope:=⟨.function,[("step",.local),("begin",.local),("book",.free),("led_by_step",.globalImplicit)],false,false,[]⟩
noncomputable def Zdb:Str:=("reach" : Str)++".<locals>."++"<lambda>"
theorem Zpz:LamOk2 "led_by_step" "book" "step" "begin" Ziq ZhH Zf8 where
 bind:=fun _ _ _ _ _ _ _=>rfl
 lx:=rfl
 ly:=rfl
 fre:=rfl
 gl:=rfl
 kind:=rfl
 co:=rfl
 gen:=rfl
 cell:=by trivial
 xy:=by trivial
 db:=by trivial
abbrev Zi0 (f b:Addr) (H:Hp):Prop:=LamA Zdb Ziq Zf8 ZhH "book" f b H
abbrev Xg (tb:Addr) (H:Hp):Prop:=LamH tb 286 39 Zdb H
theorem Zgs {w:World}:∀st H s e s',Zz P w st H s E0 e s'->False:=fun _ _ _ _ _ ⟨_,_,_,_,_,z⟩=>z
noncomputable abbrev XI (l:List (Str×V)):List (Zl×V):=l.map fun p=>(.inr p.1,p.2)
theorem Zfa {κ α:Type} [DecidableEq κ] (l:List (κ×α)) (c:κ) (x:α):(Zp l c x).map (·.1)=if c∈l.map (·.1) then l.map (·.1) else l.map (·.1)++[c]:=by
 unfold Zp;by_cases h:c∈l.map (·.1)
 ·have ha:(l.any fun q=>decide (q.1=c))=true:=by
   obtain ⟨q,hq,e⟩:=Qg.mp h;exact Gz.mpr ⟨q,hq,Qu e⟩
  rw [Qb ha,Qb h,QR];refine Gx fun q _=>?_;show (if q.1=c then (q.1,x) else q).1=q.1;split<;>rfl
 ·have ha:¬(l.any fun q=>decide (q.1=c))=true:=fun z=>by
   obtain ⟨q,hq,e⟩:=Gz.mp z;exact h (Qg.mpr ⟨q,hq,Q9 e⟩)
  rw [Qa ha,Qa h,Qv];rfl
theorem ZjW (l:List (Str×V)) (c:Str) (v:V):Ys (XI l) (.inr c) v=XI (Zp l c v):=U2 (f:=fun s:Str=>(.inr s:Zl)) (fun a b h=>by injection h) id l c v
theorem ZiB {κ α:Type} [DecidableEq κ] {l:List (κ×α)} {c:κ} {x:α} (h:(l.map (·.1)).Nodup):((Zp l c x).map (·.1)).Nodup:=by
 rw [Zfa];split
 ·exact h
 ·rename_i n;exact QZ.mpr ⟨h,by simp,fun a ha b hb=>by rw [show b=c by simpa using hb];exact fun e=>n (e▸ha)⟩
theorem Zij {κ α:Type} [DecidableEq κ] {l:List (κ×α)} {c:κ} {x:α} (y:κ):y∈(Zp l c x).map (·.1)↔y∈l.map (·.1)∨y=c:=by
 rw [Zfa];split
 ·rename_i h;exact ⟨.inl,fun z=>z.elim id fun e=>e▸h⟩
 ·rw [Ql,QG]
theorem ZeM (l:List (Str×V)):(XI l).length=(l.map (·.1)).length:=by rw [Qc,Qc]
theorem Ze6 (ds:List V) (d:V):Yg (ds++[d]) (-1)=some d:=by
 cases ds with
 |nil=>rfl
 |cons x xs =>
  obtain ⟨y,h1,h2⟩:=ZkF (x:=x) (xs:=xs++[d]);rw [List.cons_append,h1];rw [show (x::(xs++[d]))=(x::xs)++[d] from rfl,Rn (by simp)] at h2;simpa using h2.symm
theorem ZfQ {p:Ent×Addr} (h:Z7 n B.kept=some p) (e:p.1=.born n' s d f m):Wa B n=s:=ZaV h e
theorem ZcD {z:Int} (h0:-10 ^ 60≤z) (h:z≤10 ^ 60):z.natAbs<2 ^ 1000:=Rp (show z.natAbs≤10 ^ 60 by omega) (by trivial)
theorem US {j:Int} (h:j≠0):j≠0:=h
theorem Zn1 {α:Type} (g:α->V) (xs:List α) (h:0<xs.length) (z:Int):∃x∈xs,Yg (xs.map g) (z.fmod ((xs.map g).length:Int))=some (g x):=by
 have e:((xs.map g).length:Int)=(xs.length:Int):=by rw [Qc]
 rw [e];have h0:=Int.fmod_nonneg_of_pos z (show (0:Int)<xs.length by omega);have h1:=Int.fmod_lt_of_pos z (show (0:Int)<xs.length by omega);obtain ⟨j,hj⟩:∃j:Nat,z.fmod (xs.length:Int)=(j:Int):=⟨(z.fmod (xs.length:Int)).toNat,by omega⟩;have jl:j<xs.length:=by omega
 refine ⟨xs[j],Gf jl,?_⟩;rw [hj];exact XY (by rw [Qo,Qs jl];rfl)
section
variable {ns:List Str} {ps:List Pp} {kn:List (List Zl)}
theorem Znd (h:e.told=.born n s d f m):e=.born n s d f m:=by
 cases e with
 |born=>exact h
 |union=>cases h
 |parted=>cases h
 |taken=>cases h
 |dead=>cases h
 |given=>cases h
theorem Zaa:Ent.born n s d f m∈es.map Ent.told↔Ent.born n s d f m∈es:=by
 constructor
 ·intro h;obtain ⟨e,he,ee⟩:=Qg.mp h;rw [←Znd ee];exact he
 ·exact fun h=>Qg.mpr ⟨_,h,rfl⟩
end
noncomputable def Yj (f:Str×Str->List Str) (c:Str×Str) (x:Str):Str×Str->List Str:=fun c'=>if c'=c then f c++[x] else f c'
noncomputable def YF (a b n x:Str) (g:ZN):ZN:=if x="" then g else Yj (Yj g (a,n) x) (b,x) n
noncomputable def YI (f:ZN) (s n:Str):ZN:=fun c=>if c=(s,n) then [n] else f c
noncomputable def YG (f:ZN):Ent->ZN
 |.born n s _ fa mo=>YF "M" "m" n mo (YF "F" "f" n fa (YI f s n))
 |.taken c t _=>Yj (Yj f ("T",c) t) ("t",t) c
 |_=>f
noncomputable def Vs (es:List Ent):ZN:=es.foldl YG fun _=>[]
abbrev LsT:=List ((Str×Str)×Addr×Int×Str)
noncomputable def Xr (g:Str×Str->Option (Int×Str)) (e:Ent):Str×Str->Option (Int×Str):=fun c =>
 if e.tie=true∧c=Zf e.pr.1 e.pr.2 then (match g c with
  |none=>some (e.day,e.kind)
  |some r=>if r.1<e.day then some (e.day,e.kind) else some r) else g c
noncomputable def WN (es:List Ent):Str×Str->Option (Int×Str):=es.foldl Xr fun _=>none
noncomputable def Us (f:ZN) (q:(Str×Str)×Addr×Int×Str):ZN:=if q.2.2.2="union" then Yj (Yj f ("S",q.1.1) q.1.2) ("S",q.1.2) q.1.1 else f
theorem ZmA (h:(Ent.born n s d f m).Ok):s="he"∨s="she"∨s="":=by
 have e:=h.en;have e2:Wh [.name,.sort,.day,.parent,.parent] [.str n,.str s,.int d,.str f,.str m]=true:=e;unfold Wh at e2;rw [RD] at e2;have e3:=Ru.mp e2.2 (Uq (.str s)) (by simp [ZU,UJ]);have e4:(decide (s="he")||decide (s="she")||decide (s=""))=true:=e3;simpa [Gd,or_assoc] using e4
theorem Zfg (z:Int):∃s∈Zs,Yg (Zs.map V.str) (z.fmod 9)=some (.str s):=Zn1 V.str Zs (by decide) z
theorem Yw (f:ZN) (a n x b m:Str):Yj f (a,n) x (b,m)=if b=a∧m=n then f (a,n)++[x] else f (b,m):=by
 unfold Yj;by_cases h:b=a∧m=n
 ·rw [Qb (by rw [h.1,h.2]),Qb h]
 ·rw [Qa (fun z=>h ⟨QB (·.1) z,QB (·.2) z⟩),Qa h]
theorem Xe {a b:Str} (ab:¬b=a) (n' x:Str) (g:ZN) (l n:Str):YF a b n' x g (l,n)=if x="" then g (l,n) else if l=b∧n=x then g (l,n)++[n'] else if l=a∧n=n' then g (l,n)++[x] else g (l,n):=by
 unfold YF;by_cases h:x=""
 ·rw [Qb h,Qb h]
 ·rw [Qa h,Qa h,Yw,Yw];by_cases h1:l=b∧n=x
  ·rw [Qb h1,Qb h1,Qa (fun z=>ab z.1),h1.1,h1.2]
  ·rw [Qa h1,Qa h1,Yw];by_cases h2:l=a∧n=n'
   ·rw [Qb h2,Qb h2,h2.1,h2.2]
   ·rw [Qa h2,Qa h2]
theorem Zih (f:ZN) (e:Ent) (n:Str) (hs:∀n' s d fa mo,e=.born n' s d fa mo->s≠"F"):YG f e ("F",n)=f ("F",n)++Vn n e:=by
 have klf:¬(("F" : Str)="f"):=by trivial
 have kuM:¬(("F" : Str)="M"):=by trivial
 have klm:¬(("F" : Str)="m"):=by trivial
 have kuT:¬(("F" : Str)="T"):=by trivial
 have klt:¬(("F" : Str)="t"):=by trivial
 cases e with
 |born n' s d fa mo =>
  have h1:=hs n' s d fa mo rfl;show YF "M" "m" n' mo (YF "F" "f" n' fa (YI f s n')) ("F",n)=_;rw [Xe (by trivial),Xe (by trivial),show YI f s n' ("F",n)=f ("F",n) from Qa (fun z=>h1 (QB (·.1) z).symm)];simp only [klf,kuM,klm,kuT,klt,RH,RI,Re,RJ];unfold Vn;by_cases e1:fa=""
  ·simp [e1]
  ·by_cases e2:n=n'
   ·subst e2;simp [e1]
   ·have e3:¬n'=n:=fun z=>e2 z.symm;simp [e1,e2,e3]
 |taken c t d =>
  show Yj (Yj f ("T",c) t) ("t",t) c ("F",n)=_;rw [Yw,Qa (fun z=>klt z.1),Yw,Qa (fun z=>kuT z.1)];simp [Vn]
 |union=>exact (Qt _).symm
 |parted=>exact (Qt _).symm
 |dead=>exact (Qt _).symm
 |given=>exact (Qt _).symm
theorem Ze1 (f:ZN) (e:Ent) (n:Str) (hs:∀n' s d fa mo,e=.born n' s d fa mo->s≠"f"):YG f e ("f",n)=f ("f",n)++W8 n e:=by
 have kuF:¬(("f" : Str)="F"):=by trivial
 have kuM:¬(("f" : Str)="M"):=by trivial
 have klm:¬(("f" : Str)="m"):=by trivial
 have kuT:¬(("f" : Str)="T"):=by trivial
 have klt:¬(("f" : Str)="t"):=by trivial
 cases e with
 |born n' s d fa mo =>
  have h1:=hs n' s d fa mo rfl;show YF "M" "m" n' mo (YF "F" "f" n' fa (YI f s n')) ("f",n)=_;rw [Xe (by trivial),Xe (by trivial),show YI f s n' ("f",n)=f ("f",n) from Qa (fun z=>h1 (QB (·.1) z).symm)];simp only [kuF,kuM,klm,kuT,klt,RH,RI,Re,RJ];unfold W8;by_cases e1:fa=""
  ·simp [e1]
  ·by_cases e2:n=fa
   ·subst e2;simp [e1]
   ·have e3:¬fa=n:=fun z=>e2 z.symm;simp [e1,e2,e3]
 |taken c t d =>
  show Yj (Yj f ("T",c) t) ("t",t) c ("f",n)=_;rw [Yw,Qa (fun z=>klt z.1),Yw,Qa (fun z=>kuT z.1)];simp [W8]
 |union=>exact (Qt _).symm
 |parted=>exact (Qt _).symm
 |dead=>exact (Qt _).symm
 |given=>exact (Qt _).symm
theorem Zg2 (f:ZN) (e:Ent) (n:Str) (hs:∀n' s d fa mo,e=.born n' s d fa mo->s≠"M"):YG f e ("M",n)=f ("M",n)++W6 n e:=by
 have kuF:¬(("M" : Str)="F"):=by trivial
 have klf:¬(("M" : Str)="f"):=by trivial
 have klm:¬(("M" : Str)="m"):=by trivial
 have kuT:¬(("M" : Str)="T"):=by trivial
 have klt:¬(("M" : Str)="t"):=by trivial
 cases e with
 |born n' s d fa mo =>
  have h1:=hs n' s d fa mo rfl;show YF "M" "m" n' mo (YF "F" "f" n' fa (YI f s n')) ("M",n)=_;rw [Xe (by trivial),Xe (by trivial),show YI f s n' ("M",n)=f ("M",n) from Qa (fun z=>h1 (QB (·.1) z).symm)];simp only [kuF,klf,klm,kuT,klt,RH,RI,Re,RJ];unfold W6;by_cases e1:mo=""
  ·simp [e1]
  ·by_cases e2:n=n'
   ·subst e2;simp [e1]
   ·have e3:¬n'=n:=fun z=>e2 z.symm;simp [e1,e2,e3]
 |taken c t d =>
  show Yj (Yj f ("T",c) t) ("t",t) c ("M",n)=_;rw [Yw,Qa (fun z=>klt z.1),Yw,Qa (fun z=>kuT z.1)];simp [W6]
 |union=>exact (Qt _).symm
 |parted=>exact (Qt _).symm
 |dead=>exact (Qt _).symm
 |given=>exact (Qt _).symm
theorem ZgK (f:ZN) (e:Ent) (n:Str) (hs:∀n' s d fa mo,e=.born n' s d fa mo->s≠"m"):YG f e ("m",n)=f ("m",n)++Vm n e:=by
 have kuF:¬(("m" : Str)="F"):=by trivial
 have klf:¬(("m" : Str)="f"):=by trivial
 have kuM:¬(("m" : Str)="M"):=by trivial
 have kuT:¬(("m" : Str)="T"):=by trivial
 have klt:¬(("m" : Str)="t"):=by trivial
 cases e with
 |born n' s d fa mo =>
  have h1:=hs n' s d fa mo rfl;show YF "M" "m" n' mo (YF "F" "f" n' fa (YI f s n')) ("m",n)=_;rw [Xe (by trivial),Xe (by trivial),show YI f s n' ("m",n)=f ("m",n) from Qa (fun z=>h1 (QB (·.1) z).symm)];simp only [kuF,klf,kuM,kuT,klt,RH,RI,Re,RJ];unfold Vm;by_cases e1:mo=""
  ·simp [e1]
  ·by_cases e2:n=mo
   ·subst e2;simp [e1]
   ·have e3:¬mo=n:=fun z=>e2 z.symm;simp [e1,e2,e3]
 |taken c t d =>
  show Yj (Yj f ("T",c) t) ("t",t) c ("m",n)=_;rw [Yw,Qa (fun z=>klt z.1),Yw,Qa (fun z=>kuT z.1)];simp [Vm]
 |union=>exact (Qt _).symm
 |parted=>exact (Qt _).symm
 |dead=>exact (Qt _).symm
 |given=>exact (Qt _).symm
theorem Zf3 (f:ZN) (e:Ent) (n:Str) (hs:∀n' s d fa mo,e=.born n' s d fa mo->s≠"T"):YG f e ("T",n)=f ("T",n)++addT n e:=by
 have kuF:¬(("T" : Str)="F"):=by trivial
 have klf:¬(("T" : Str)="f"):=by trivial
 have kuM:¬(("T" : Str)="M"):=by trivial
 have klm:¬(("T" : Str)="m"):=by trivial
 have klt:¬(("T" : Str)="t"):=by trivial
 cases e with
 |born n' s d fa mo =>
  have h1:=hs n' s d fa mo rfl;show YF "M" "m" n' mo (YF "F" "f" n' fa (YI f s n')) ("T",n)=_;rw [Xe (by trivial),Xe (by trivial),show YI f s n' ("T",n)=f ("T",n) from Qa (fun z=>h1 (QB (·.1) z).symm)];simp only [kuF,klf,kuM,klm,klt,RH,RI,Re,RJ];simp [addT]
 |taken c t d =>
  show Yj (Yj f ("T",c) t) ("t",t) c ("T",n)=_;rw [Yw,Qa (fun z=>klt z.1),Yw];unfold addT;by_cases e2:n=c
  ·subst e2;simp
  ·have e3:¬c=n:=fun z=>e2 z.symm;simp [e2,e3]
 |union=>exact (Qt _).symm
 |parted=>exact (Qt _).symm
 |dead=>exact (Qt _).symm
 |given=>exact (Qt _).symm
theorem ZeZ (f:ZN) (e:Ent) (n:Str) (hs:∀n' s d fa mo,e=.born n' s d fa mo->s≠"t"):YG f e ("t",n)=f ("t",n)++Vy n e:=by
 have kuF:¬(("t" : Str)="F"):=by trivial
 have klf:¬(("t" : Str)="f"):=by trivial
 have kuM:¬(("t" : Str)="M"):=by trivial
 have klm:¬(("t" : Str)="m"):=by trivial
 have kuT:¬(("t" : Str)="T"):=by trivial
 cases e with
 |born n' s d fa mo =>
  have h1:=hs n' s d fa mo rfl;show YF "M" "m" n' mo (YF "F" "f" n' fa (YI f s n')) ("t",n)=_;rw [Xe (by trivial),Xe (by trivial),show YI f s n' ("t",n)=f ("t",n) from Qa (fun z=>h1 (QB (·.1) z).symm)];simp only [kuF,klf,kuM,klm,kuT,RH,RI,Re,RJ];simp [Vy]
 |taken c t d =>
  show Yj (Yj f ("T",c) t) ("t",t) c ("t",n)=_;unfold Vy;rw [Yw];by_cases e2:n=t
  ·subst e2;rw [Qb ⟨rfl,rfl⟩,Yw,Qa (fun z=>kuT z.1)];simp
  ·have e3:¬t=n:=fun z=>e2 z.symm;rw [Qa (fun z=>e2 z.2),Yw,Qa (fun z=>kuT z.1)];simp [e3]
 |union=>exact (Qt _).symm
 |parted=>exact (Qt _).symm
 |dead=>exact (Qt _).symm
 |given=>exact (Qt _).symm
theorem Zix (f:ZN) (e:Ent) (n:Str) (hs:∀n' s d fa mo,e=.born n' s d fa mo->s≠"S"):YG f e ("S",n)=f ("S",n)++[]:=by
 have kuF:¬(("S" : Str)="F"):=by trivial
 have klf:¬(("S" : Str)="f"):=by trivial
 have kuM:¬(("S" : Str)="M"):=by trivial
 have klm:¬(("S" : Str)="m"):=by trivial
 have kuT:¬(("S" : Str)="T"):=by trivial
 have klt:¬(("S" : Str)="t"):=by trivial
 cases e with
 |born n' s d fa mo =>
  have h1:=hs n' s d fa mo rfl;show YF "M" "m" n' mo (YF "F" "f" n' fa (YI f s n')) ("S",n)=_;rw [Xe (by trivial),Xe (by trivial),show YI f s n' ("S",n)=f ("S",n) from Qa (fun z=>h1 (QB (·.1) z).symm)];simp only [kuF,klf,kuM,klm,kuT,klt,RH,RI,Re,RJ];simp
 |taken c t d =>
  show Yj (Yj f ("T",c) t) ("t",t) c ("S",n)=_;rw [Yw,Qa (fun z=>klt z.1),Yw,Qa (fun z=>kuT z.1)];simp
 |union=>exact (Qt _).symm
 |parted=>exact (Qt _).symm
 |dead=>exact (Qt _).symm
 |given=>exact (Qt _).symm
def ZcZ (es:List Ent):Prop:=∀n s d fa mo,Ent.born n s d fa mo∈es->s="he"∨s="she"∨s=""
theorem Zbs {l:Str} {ad:Ent->List Str} (st:∀e∈es,∀f:ZN,YG f e (l,n)=f (l,n)++ad e):Vs es (l,n)=es.flatMap ad:=by
 have go:∀(r:List Ent) (f:ZN),(∀e∈r,∀f:ZN,YG f e (l,n)=f (l,n)++ad e)->r.foldl YG f (l,n)=f (l,n)++r.flatMap ad:=by
  intro r
  induction r with
  |nil=>intro f _;simp
  |cons e r ih =>
   intro f h;rw [Q7,ih _ (fun e he=>h e (QC _ he)),h e (QH ..),NI,R7]
 rw [show Vs es (l,n)=es.foldl YG (fun _=>[]) (l,n) from rfl,go es _ st];rfl
theorem ZiM (h:ZcZ es) {l:Str} (hl:l∈XC):∀e∈es,∀n' s d fa mo,e=.born n' s d fa mo->s≠l:=fun e he n' s d fa mo z w=>by
 subst z w;have:=h _ _ _ _ _ he;simp only [XC,Qh,QJ,QK] at hl;rcases hl with rfl|rfl|rfl|rfl|rfl|rfl|rfl<;>exact absurd this (by trivial)
theorem ZgW:∀(c:Str×Str) (x:Str),x∈Vs es c->∃e∈es,x∈e.named∨e.bornName=some x:=by
 have ad:∀{f:ZN} {c c':Str×Str} {x y:Str},x∈Yj f c y c'->x∈f c'∨x=y:=fun {f c c' x y} h=>by
  unfold Yj at h;split at h
  ·rename_i e;rcases Ql.mp h with h|h
   ·rw [e];exact .inl h
   ·exact .inr (by simpa using h)
  ·exact .inl h
 have go:∀(r:List Ent) (f:ZN) (R:Str->Prop),(∀c x,x∈f c->R x)->(∀e∈r,∀x,x∈e.named∨e.bornName=some x->R x)->∀c x,x∈r.foldl YG f c->R x:=by
  intro r
  induction r with
  |nil=>intro f R h _ c x hx;exact h c x hx
  |cons e r ih =>
   intro f R h hr c x hx;refine ih (YG f e) R (fun c x hx=>?_) (fun e he=>hr e (QC _ he)) c x hx;have he:=hr e (QH ..);cases e with
   |born n s d fa mo =>
    have p1:∀{a b y:Str} {g:ZN},(∀c x,x∈g c->R x)->(y≠""->R y)->∀c x,x∈YF a b n y g c->R x:=fun {a b y g} hg hy c x hx=>by
     unfold YF at hx;split at hx
     ·exact hg c x hx
     ·rename_i ny;rcases ad hx with hx|rfl
      ·rcases ad hx with hx|rfl
       ·exact hg c x hx
       ·exact hy ny
      ·exact he _ (.inr rfl)
    refine p1 (p1 (fun c x hx=>?_) (fun ny=>he _ (.inl ?_))) (fun ny=>he _ (.inl ?_)) c x hx
    ·unfold YI at hx;split at hx
     ·rw [show x=n by simpa using hx];exact he _ (.inr rfl)
     ·exact h c x hx
    ·exact Rx.mpr ⟨by simp,Qu ny⟩
    ·exact Rx.mpr ⟨by simp,Qu ny⟩
   |taken u v d =>
    rcases ad (show x∈Yj (Yj f ("T",u) v) ("t",v) u c from hx) with hx|rfl
    ·rcases ad hx with hx|rfl
     ·exact h c x hx
     ·exact he _ (.inl (by simp [Ent.named]))
    ·exact he _ (.inl (by simp [Ent.named]))
   |union=>exact h c x hx
   |parted=>exact h c x hx
   |dead=>exact h c x hx
   |given=>exact h c x hx
 intro c x hx;exact go es _ (fun x=>∃e∈es,x∈e.named∨e.bornName=some x) (fun c x h=>(by cases h)) (fun e he x h=>⟨e,he,h⟩) c x hx
theorem Zim {x:Str} (hs:s="he"∨s="she"):x∈Vs es (s,n)↔x=n∧∃d f m,Ent.born n s d f m∈es:=by
 have ne:∀{a:Str},a∈(["F","f","M","m","T","t"]:List Str)->¬s=a:=fun ha z=>by
  rw [z] at hs;simp only [Qh,QJ,QK] at ha;rcases ha with rfl|rfl|rfl|rfl|rfl|rfl<;>exact absurd hs (by trivial)
 have st:∀(f:ZN) (e:Ent),YG f e (s,n)=(match e with|.born n' s' _ _ _=>YI f s' n' (s,n)|_=>f (s,n)):=fun f e=>by
  cases e with
  |born n' s' d fa mo =>
   show YF "M" "m" n' mo (YF "F" "f" n' fa (YI f s' n')) (s,n)=YI f s' n' (s,n);rw [Xe (by trivial),Xe (by trivial)];simp only [ne (a:="m") (by simp),ne (a:="M") (by simp),ne (a:="f") (by simp),ne (a:="F") (by simp),RH,Re,RJ]
  |taken u v d =>
   show Yj (Yj f ("T",u) v) ("t",v) u (s,n)=f (s,n);rw [Yw,Qa (fun z=>ne (a:="t") (by simp) z.1),Yw,Qa (fun z=>ne (a:="T") (by simp) z.1)]
  |_=>rfl
 have go:∀(r:List Ent) (f:ZN),(∀y∈f (s,n),y=n)->(x∈r.foldl YG f (s,n)↔(x=n∧∃d g m,Ent.born n s d g m∈r)∨x∈f (s,n)):=by
  intro r
  induction r with
  |nil=>intro f _;simp
  |cons e r ih =>
   intro f hf;have e1:=st f e
   have key:(∀y∈YG f e (s,n),y=n)∧(x∈YG f e (s,n)↔(x=n∧∃d g m,e=.born n s d g m)∨x∈f (s,n)):=by
    cases e with
    |born n' s' d fa mo =>
     rw [show YG f (.born n' s' d fa mo) (s,n)=YI f s' n' (s,n) from e1];unfold YI;by_cases z:(s,n)=(s',n')
     ·cases z;rw [Qb rfl];refine ⟨fun y hy=>by simpa using hy,⟨fun h=>.inl ⟨by simpa using h,d,fa,mo,rfl⟩,fun h=>?_⟩⟩;rcases h with h|h
      ·rw [h.1];simp
      ·rw [hf x h];simp
     ·rw [Qa z];refine ⟨hf,⟨.inr,fun h=>h.elim (fun ⟨_,d',g,m,hh⟩=>by cases hh;exact absurd rfl z) id⟩⟩
    |taken=>exact ⟨by rw [e1];exact hf,by rw [e1];exact ⟨.inr,fun h=>h.elim (fun ⟨_,d',g,m,hh⟩=>by cases hh) id⟩⟩
    |union=>exact ⟨hf,⟨.inr,fun h=>h.elim (fun ⟨_,d',g,m,hh⟩=>by cases hh) id⟩⟩
    |parted=>exact ⟨hf,⟨.inr,fun h=>h.elim (fun ⟨_,d',g,m,hh⟩=>by cases hh) id⟩⟩
    |dead=>exact ⟨hf,⟨.inr,fun h=>h.elim (fun ⟨_,d',g,m,hh⟩=>by cases hh) id⟩⟩
    |given=>exact ⟨hf,⟨.inr,fun h=>h.elim (fun ⟨_,d',g,m,hh⟩=>by cases hh) id⟩⟩
   rw [Q7,ih _ key.1,key.2];constructor
   ·rintro (⟨h1,d,g,m,h2⟩|⟨h1,d,g,m,rfl⟩|h)
    ·exact .inl ⟨h1,d,g,m,QC _ h2⟩
    ·exact .inl ⟨h1,d,g,m,QH ..⟩
    ·exact .inr h
   ·rintro (⟨h1,d,g,m,h2⟩|h)
    ·rcases Qh.mp h2 with h2|h2
     ·exact .inr (.inl ⟨h1,d,g,m,h2.symm⟩)
     ·exact .inl ⟨h1,d,g,m,h2⟩
    ·exact .inr (.inr h)
 have:=go es (fun _=>[]) (fun y hy=>by cases hy);rw [show Vs es (s,n)=es.foldl YG (fun _=>[]) (s,n) from rfl,this];simp
theorem J2 {ls:LsT} {f:ZN} {l:Str} (h:¬l="S"):ls.foldl Us f (l,n)=f (l,n):=by
 induction ls generalizing f with
 |nil=>rfl
 |cons q r ih =>
  rw [Q7,ih];unfold Us;split
  ·rw [Yw,Qa (fun z=>h z.1),Yw,Qa (fun z=>h z.1)]
  ·rfl
theorem Zds {ls:LsT} {f:ZN} {x:Str}:x∈ls.foldl Us f ("S",n)↔x∈f ("S",n)∨∃q∈ls,q.2.2.2="union"∧(q.1=(n,x)∨q.1=(x,n)):=by
 induction ls generalizing f with
 |nil=>simp
 |cons q r ih =>
  rw [Q7,ih]
  have st:x∈Us f q ("S",n)↔x∈f ("S",n)∨(q.2.2.2="union"∧(q.1=(n,x)∨q.1=(x,n))):=by
   obtain ⟨⟨a,b⟩,ar,d,k⟩:=q;unfold Us;by_cases hu:k="union"
   ·show x∈(if k="union" then Yj (Yj f ("S",a) b) ("S",b) a else f) ("S",n)↔x∈f ("S",n)∨(k="union"∧((a,b)=(n,x)∨(a,b)=(x,n)));rw [Qb hu,Yw];by_cases h1:n=b
    ·subst h1;rw [Qb ⟨rfl,rfl⟩,Yw];by_cases h2:n=a
     ·subst h2;rw [Qb ⟨rfl,rfl⟩];simp [hu];exact ⟨fun h=>h.imp id Eq.symm,fun h=>h.imp id Eq.symm⟩
     ·rw [Qa (fun z=>h2 z.2)];simp [hu];constructor
      ·rintro (h|h)
       ·exact .inl h
       ·exact .inr (.inr h.symm)
      ·rintro (h|⟨h,_⟩|h)
       ·exact .inl h
       ·exact absurd h.symm h2
       ·exact .inr h.symm
    ·rw [Qa (fun z=>h1 z.2),Yw];by_cases h2:n=a
     ·subst h2;rw [Qb ⟨rfl,rfl⟩];simp [hu];constructor
      ·rintro (h|h)
       ·exact .inl h
       ·exact .inr (.inl h.symm)
      ·rintro (h|h|⟨_,h⟩)
       ·exact .inl h
       ·exact .inr h.symm
       ·exact absurd h.symm h1
     ·rw [Qa (fun z=>h2 z.2)];simp only [hu,RI,Prod.mk.injEq];exact ⟨.inl,fun h=>h.elim id fun h=>h.elim (fun z=>absurd z.1.symm h2) fun z=>absurd z.2.symm h1⟩
   ·show x∈(if k="union" then _ else f) ("S",n)↔x∈f ("S",n)∨(k="union"∧_);rw [Qa hu];exact ⟨.inl,fun h=>h.elim id fun h=>absurd h.1 hu⟩
  rw [st];constructor
  ·rintro ((h|h)|⟨q',h1,h2⟩)
   ·exact .inl h
   ·exact .inr ⟨q,QH ..,h⟩
   ·exact .inr ⟨q',QC _ h1,h2⟩
  ·rintro (h|⟨q',h1,h2⟩)
   ·exact .inl (.inl h)
   ·rcases Qh.mp h1 with rfl|h1
    ·exact .inl (.inr h2)
    ·exact .inr ⟨q',h1,h2⟩
noncomputable def dk (e:Ent):Int×Str:=(e.day,e.kind)
theorem ZlL (es:List Ent) (a b:Str):WN es (Zf a b)=(es.foldl (W4 a b) none).map dk:=by
 have go:∀(r:List Ent) (g:Str×Str->Option (Int×Str)) (o:Option Ent),g (Zf a b)=o.map dk->r.foldl Xr g (Zf a b)=(r.foldl (W4 a b) o).map dk:=by
  intro r
  induction r with
  |nil=>intro g o h;exact h
  |cons e r ih =>
   intro g o h;rw [Q7,Q7];refine ih _ _ ?_;unfold Xr W4;by_cases c:e.tie=true∧Zf e.pr.1 e.pr.2=Zf a b
   ·rw [Qb ⟨c.1,c.2.symm⟩,Qb c,h];cases o with
    |none=>rfl
    |some l =>
     show (if (dk l).1<e.day then _ else _)=Option.map dk (if l.day<e.day then _ else _);show (if l.day<e.day then some (e.day,e.kind) else some (dk l))=_;split<;>rfl
   ·rw [Qa (fun z=>c ⟨z.1,z.2.symm⟩),Qa c];exact h
 exact go es _ none rfl
theorem ZjT (es:List Ent):WN (es.map Ent.told)=WN es:=by
 have st:∀(g:Str×Str->Option (Int×Str)) (e:Ent),Xr g e.told=Xr g e:=fun g e=>by
  cases e with
  |union a b d =>
   funext c
   show (if true=true∧c=Zf (Zf a b).1 (Zf a b).2 then _ else g c)=(if true=true∧c=Zf a b then _ else g c);rw [VE];rfl
  |parted a b d =>
   funext c
   show (if true=true∧c=Zf (Zf a b).1 (Zf a b).2 then _ else g c)=(if true=true∧c=Zf a b then _ else g c);rw [VE];rfl
  |_=>rfl
 unfold WN;rw [List.foldl_map];exact QB (fun z=>es.foldl z fun _=>none) (funext fun g=>funext fun e=>st g e)
theorem ZfF:∀{c:Str×Str} {r:Int×Str},WN es c=some r->∃e∈es,e.tie=true∧c=Zf e.pr.1 e.pr.2:=by
 have go:∀(l:List Ent) (g:Str×Str->Option (Int×Str)) (R:Str×Str->Prop),(∀c r,g c=some r->R c)->(∀e∈l,e.tie=true->R (Zf e.pr.1 e.pr.2))->∀c r,l.foldl Xr g c=some r->R c:=by
  intro l
  induction l with
  |nil=>intro g R h _ c r e;exact h c r e
  |cons e l ih =>
   intro g R h hl c r hr;refine ih _ R (fun c r hc=>?_) (fun e he=>hl e (QC _ he)) c r hr;unfold Xr at hc;split at hc
   ·rename_i z;rw [z.2];exact hl e (QH ..) z.1
   ·exact h c r hc
 intro c r h;exact go es _ (fun c=>∃e∈es,e.tie=true∧c=Zf e.pr.1 e.pr.2) (fun c r z=>(by cases z)) (fun e he t=>⟨e,he,t,rfl⟩) c r h
theorem ZfJ {κ α:Type} [DecidableEq κ] {q:κ×α}:∀{l:List (κ×α)},(l.map (·.1)).Nodup->q∈l->ZD q.1 l=some q.2
 |[],_,h=>by cases h
 |p::l,nd,h=>by
  obtain ⟨n1,n2⟩:=QP.mp nd;unfold ZD;rcases Qh.mp h with rfl|h
  ·rw [Qb rfl]
  ·rw [Qa (fun z=>n1 (by show p.1∈_;rw [z];exact List.mem_map_of_mem (f:=(·.1)) h))];exact ZfJ n2 h
theorem Zic (gd:GdL pool es):ZcZ es:=fun n s d fa mo h=>ZmA (gd.d5 _ h).1
theorem Zko {ad:Ent->List Str} (h:∀e,ad e.told=ad e) (es:List Ent):(es.map Ent.told).flatMap ad=es.flatMap ad:=by
 rw [List.flatMap_map];exact QB (fun z=>es.flatMap z) (funext h)
structure Jn (pool:List Str) (B:Bk) (es:List Ent) (ls:LsT) (F:ZN):Prop where
 li:LI5 pool B B.kept
 hk:B.kept.map (·.1)=es.map Ent.told
 gd:GdL pool es
 kn:(ls.map (·.1)).Nodup
 la:∀c,(ZD c ls).map (·.2)=WN es c
 lke:∀c,F c=ls.foldl Us (Vs es) c
section
variable {ls:LsT} {F:ZN}
theorem Jn.known (j:Jn pool B es ls F) (h:Ent.born n s d f m∈es):Known B n∧Wa B n=s:=by
 have:=UQ j.hk j.gd.bu (Zaa.mpr h);exact ⟨this.1,this.2.1⟩
theorem Jn.born (j:Jn pool B es ls F) (h:Known B n):∃d f m,Ent.born n (Wa B n) d f m∈es:=by
 unfold Known at h;obtain ⟨p,hp⟩:=NQ.mp h;obtain ⟨hm,hb⟩:=ZaZ hp;obtain ⟨e,a⟩:=p;cases e with
 |born n' s d f m =>
  cases hb;have e1:Wa B n=s:=ZaV hp rfl;have:Ent.born n s d f m∈B.kept.map (·.1):=Qg.mpr ⟨_,hm,rfl⟩;rw [j.hk] at this;rw [e1];exact ⟨d,f,m,Zaa.mp this⟩
 |_=>cases hb
theorem Jn.inp (j:Jn pool B es ls F) (h:Known B n):n∈pool:=by
 obtain ⟨d,f,m,hb⟩:=j.born h;exact (j.gd.d5 _ hb).2.2 n rfl
theorem Jn.find (j:Jn pool B es ls F) {q:(Str×Str)×Addr×Int×Str} (h:q∈ls):WN es q.1=some q.2.2:=by
 rw [←j.la];have:ZD q.1 ls=some q.2:=ZfJ j.kn h;rw [this];rfl
theorem Jn.mem_in (j:Jn pool B es ls F) {x:Str} (h:x∈F c):Known B x:=by
 have ex:∃e∈es,x∈e.named∨e.bornName=some x:=by
  rw [j.lke] at h;obtain ⟨l,n⟩:=c;by_cases e:l="S"
  ·subst e;rcases Zds.mp h with h|⟨q,hq,_,hx⟩
   ·exact ZgW _ _ h
   ·obtain ⟨e,he,ht,hs⟩:=ZfF (j.find hq);refine ⟨e,he,.inl ?_⟩
    have ZT:x=e.pr.1∨x=e.pr.2:=by
     have:Zf e.pr.1 e.pr.2=(e.pr.1,e.pr.2)∨Zf e.pr.1 e.pr.2=(e.pr.2,e.pr.1):=by unfold Zf;split<;>simp
     rcases hx with hx|hx<;>rcases this with t|t<;>rw [←hs,hx] at t<;>have t1:=QB (·.1) t<;>have t2:=QB (·.2) t
     ·exact .inr t2
     ·exact .inl t2
     ·exact .inl t1
     ·exact .inr t1
    cases e with
    |union a b d=>rcases ZT with rfl|rfl<;>simp [Ent.named,Ent.pr]
    |parted a b d=>rcases ZT with rfl|rfl<;>simp [Ent.named,Ent.pr]
    |_=>cases ht
  ·rw [J2 e] at h;exact ZgW _ _ h
 obtain ⟨e,he,h1|h1⟩:=ex
 ·obtain ⟨s,d,f,m,hb⟩:=j.gd.known e he x h1;exact (j.known (Zaa.mp hb)).1
 ·cases e with
  |born n s d f m=>cases h1;exact (j.known he).1
  |_=>cases h1
theorem Jn.step (j:Jn pool B es ls F) (hs:s∈Zs) (kn:Known B n) (x:Str):x∈Yu B s n↔x∈F (s,n):=by
 have so:=Zic j.gd;have ne:=fun {l:Str} (hl:l∈XC)=>ZiM so hl;have lks:∀l,Yn B l n=(Yz (es.map Ent.told)).1 (l,n):=fun l=>by rw [UF,j.li.st.lks,j.hk]
 have six:∀{l:Str} {ad:Str->Ent->List Str},VH l=false->¬l="S"->Adds l ad->(∀e,ad n e.told=ad n e)->(∀e∈es,∀f:ZN,YG f e (l,n)=f (l,n)++ad n e)->(x∈Yu B l n↔x∈F (l,n)):=fun {l ad} ht nS A tl st=>by
  unfold Yu;rw [Qa (by rw [ht];decide),lks,A.all,(Wn _).mem_iff,Zko tl,j.lke,J2 nS,Zbs st]
 have tst:s="he"∨s="she"->(x∈Yu B s n↔x∈F (s,n)):=fun h=>by
  have ht:VH s=true:=by rcases h with rfl|rfl<;>trivial
  have nS:¬s="S":=by rcases h with rfl|rfl<;>trivial
  unfold Yu;rw [Qb ht,j.lke,J2 nS,Zim h];obtain ⟨d,f,m,hb⟩:=j.born kn;by_cases e:Wa B n=s
  ·rw [Qb e];rw [e] at hb;exact ⟨fun z=>⟨by simpa using z,d,f,m,hb⟩,fun z=>by rw [z.1];simp⟩
  ·rw [Qa e];exact ⟨fun z=>(by cases z),fun ⟨_,d',f',m',hb'⟩=>absurd (j.known hb').2 e⟩
 simp only [Zs,Qh,QJ,QK] at hs;rcases hs with rfl|rfl|rfl|rfl|rfl|rfl|rfl|h|h
 ·exact six (by trivial) (by trivial) ZhY (fun e=>by cases e<;>rfl) fun e he f=>Zih f e n (ne (by trivial) e he)
 ·exact six (by trivial) (by trivial) Zh9 (fun e=>by cases e<;>rfl) fun e he f=>Zg2 f e n (ne (by trivial) e he)
 ·exact six (by trivial) (by trivial) Zfm (fun e=>by cases e<;>rfl) fun e he f=>Zf3 f e n (ne (by trivial) e he)
 ·exact six (by trivial) (by trivial) ZiA (fun e=>by cases e<;>rfl) fun e he f=>Ze1 f e n (ne (by trivial) e he)
 ·exact six (by trivial) (by trivial) Zfe (fun e=>by cases e<;>rfl) fun e he f=>ZgK f e n (ne (by trivial) e he)
 ·exact six (by trivial) (by trivial) ZeU (fun e=>by cases e<;>rfl) fun e he f=>ZeZ f e n (ne (by trivial) e he)
 ·have eS:Vs es ("S",n)=[]:=by
   rw [Zbs (ad:=fun _=>[]) fun e he f=>Zix f e n (ne (by trivial) e he)];simp
  have ap:=j.li.ap';have once:=j.li.once;rw [j.hk] at ap once;unfold Yu;rw [Qa (by trivial),lks,(ZlV ap).mem,Zfb once,←ZlG once,j.lke,Zds,eS]
  have td:Za0 (es.map Ent.told) n x=true↔∃d,WN es (Zf n x)=some (d,("union" : Str)):=by
   rw [←ZjT,ZlL];unfold Za0;cases (es.map Ent.told).foldl (W4 n x) none with
   |none=>simp
   |some e =>
    show decide (e.kind="union")=true↔∃d,some (e.day,e.kind)=some (d,("union" : Str));rw [decide_eq_true_iff];exact ⟨fun h=>⟨e.day,by rw [h]⟩,fun ⟨d,h⟩=>QB (·.2) (Qj h)⟩
  rw [td];constructor
  ·rintro ⟨d,h⟩;rw [←j.la] at h;cases hf:ZD (Zf n x) ls with
   |none=>rw [hf] at h;cases h
   |some w =>
    rw [hf] at h;have hm:=Ue hf;have hw:w.2=(d,("union" : Str)):=Qj h;refine .inr ⟨_,hm,by rw [hw],?_⟩;show Zf n x=(n,x)∨Zf n x=(x,n);unfold Zf;split<;>simp
  ·rintro (h|⟨q,hq,hu,hx⟩)
   ·cases h
   ·have hl:=j.find hq;obtain ⟨e,he,ht,hs⟩:=ZfF hl
    have e1:Zf n x=q.1:=by
     rcases hx with hx|hx
     ·rw [show Zf n x=Zf q.1.1 q.1.2 by rw [hx],hs,VE]
     ·rw [Zck,show Zf x n=Zf q.1.1 q.1.2 by rw [hx],hs,VE]
    rw [e1,hl];exact ⟨q.2.2.1,by rw [←hu]⟩
 ·exact tst (.inl h)
 ·exact tst (.inr h)
theorem Jn.clo (j:Jn pool B es ls F) (l:pool.length≤60):Clo B pool:=⟨fun s hs n kn x hx=>j.mem_in ((j.step hs kn x).mp hx),fun n h=>j.inp h,l⟩
end
theorem BkAt.noE {K:W.Frag} {k y:Addr} (h:BkAt K C H b dx k bi li ti su B) (hy:H y=none∨y=bi∨y∈B.ties.map (·.2.1)) {c:Addr} (m:c∈[k,bi,li,ti,su,y]):∀φ,H c≠some (.ext φ):=fun φ z=>by
 simp only [Qh,QJ,QK] at m;rcases m with rfl|rfl|rfl|rfl|rfl|rfl
 ·rw [h.ke] at z;cases z
 ·rw [h.bi] at z;cases z
 ·rw [h.li] at z;cases z
 ·rw [h.ti] at z;cases z
 ·rw [h.su] at z;cases z
 ·rcases hy with hy|rfl|hy
  ·rw [hy] at z;cases z
  ·rw [h.bi] at z;cases z
  ·obtain ⟨q,hq,rfl⟩:=Qg.mp hy;rw [h.tt q hq] at z;cases z
theorem LamH.but {P:Addr} {ln co:Nat} {q:Str} (h:LamH P ln co q H) (b:But S H H') (n:∀c∈S,∀φ,H c≠some (.ext φ)):LamH P ln co q H':=by
 obtain ⟨oc,h1,h2⟩:=h;exact ⟨oc,b.eq _ _ (fun m=>n _ m _ h1) h1,fun c' e=>b.eq _ _ (fun m=>n _ m _ (h2 c' e)) (h2 c' e)⟩
noncomputable def Znt:Str:=("book_of_tree" : Str)++".<locals>."++"<lambda>"
abbrev YS (tb:Addr) (H:Hp):Prop:=LamH tb 255 52 Znt H
noncomputable abbrev ZpC:Arguments:=⟨[],[⟨"one",none,⟨255,59,255,62⟩⟩],none,[],[],none,[]⟩
noncomputable abbrev ZiZ:Scope:=⟨.function,[("one",.local),("tree",.free)],false,false,[]⟩
theorem ZlY:LamOkD "one" "tree" "days" ZpC ZiZ ⟨255,64,255,68⟩ ⟨255,64,255,73⟩ ⟨255,74,255,77⟩ ⟨255,64,255,78⟩ where
 bind:=fun _ _ _ _ _ _=>rfl
 loc:=rfl
 fre:=rfl
 kind:=rfl
 co:=rfl
 gen:=rfl
 cell:=by trivial
 db:=by trivial
 base:=fun _ _ _ _ _=>rfl
 sub:=fun _ _=>rfl
def Zae (K:W.Frag) (tb tb2:Addr):Sp:=fun vs H Q E=>∃(l:Addr) (ns:List Int),vs=[.ref l]∧SqL K H l (ns.map V.int)∧ns.length≤63∧Xg tb H∧YS tb2 H∧∀H',Xg tb H'->YS tb2 H'->Q (.bl true) H'
structure Tr where
 days:List Int
 sorts:List Str
 par:List ((Str×Nat)×Nat)
 tak:List (Nat×Nat)
 uni:List (Nat×Nat)
 clash:Bool
 here:Nat
noncomputable def U5:Tr:=⟨[0],[""],[],[],[],false,0⟩
noncomputable def Vi (t:Tr) (l:Str) (c:Nat):Option Nat:=(t.par.find? fun q=>decide (q.1=(l,c))).map (·.2)
noncomputable def Tr.ask (t:Tr) (i:Nat) (s:Str):Tr:=if t.sorts.getD i ""="" then { t with sorts:=t.sorts.set i s } else if t.sorts.getD i ""=s then t else { t with clash:=true }
noncomputable def Tr.grow (t:Tr) (k:Int):Tr:={ t with days:=t.days++[t.days.getD t.here 0+k],sorts:=t.sorts++[("" : Str)],here:=t.days.length }
noncomputable def ZZ (l:Str):Str:=if l="F" then "he" else "she"
noncomputable def Tr.addPar (t:Tr) (l:Str) (c p:Nat):Tr:={ t with par:=t.par++[((l,c),p)] }
noncomputable def Tr.goUp (t:Tr) (l:Str):Tr:=match Vi t l t.here with
 |some p=>{ t with here:=p }
 |none=>let u:=(t.grow (-1)).addPar l t.here t.days.length
  u.ask u.here (ZZ l)
noncomputable def ZG (s:Str):Str:=if s="f" then "F" else "M"
noncomputable def Tr.go (t:Tr) (s:Str):Tr :=
 if s="he"∨s="she" then t.ask t.here s
 else if s="F"∨s="M" then t.goUp s
 else if s="f"∨s="m" then ((t.ask t.here (ZZ (ZG s))).grow 1).addPar (ZG s) t.days.length t.here
 else if s="T" then { t.grow (-1) with tak:=t.tak++[(t.here,t.days.length)] }
 else if s="t" then { t.grow 1 with tak:=t.tak++[(t.days.length,t.here)] }
 else { t.grow 0 with uni:=t.uni++[(t.here,t.days.length)] }
noncomputable def Z2 (way:List Str):Tr:=way.foldl Tr.go U5
noncomputable def YH (ps:List ((Str×Nat)×Nat)):List (List Zl×V):=ps.map fun q=>([.inr q.1.1,.inl q.1.2],.int q.2)
def PrAt (H:Hp) (ps:List (Nat×Nat)) (vs:List V):Prop:=vs.length=ps.length∧∀(i:Nat) (p:Nat×Nat) (v:V),ps[i]?=some p->vs[i]?=some v->∃a,v=.ref a∧H a=some (.tup [.int p.1,.int p.2])
noncomputable def Ze9 (dl sl pl tl ul:Addr) (t:Tr):List (Str×V):=[("days",.ref dl),("sorts",.ref sl),("parents",.ref pl),("takings",.ref tl),("unions",.ref ul),("clash",.bl t.clash),("here",.int t.here)]
structure TrAt (C:Addr) (H:Hp) (o dx dl sl pl tl ul:Addr) (t:Tr):Prop where
 ob:H o=some (.ins C dx (Ze9 dl sl pl tl ul t))
 ap:[dl,sl,tl,ul].Nodup
 da:H dl=some (.lst (t.days.map V.int))
 so:H sl=some (.lst (t.sorts.map V.str))
 pa:H pl=some (.dT (YH t.par))
 ta:∃vs,H tl=some (.lst vs)∧PrAt H t.tak vs
 un:∃vs,H ul=some (.lst vs)∧PrAt H t.uni vs
structure TrOk (t:Tr):Prop where
 len:t.sorts.length=t.days.length
 he:t.here<t.days.length
 few:t.days.length≤60
 pf:t.par.length≤60
 tf:t.tak.length≤60
 uf:t.uni.length≤60
 pk:∀q∈t.par,q.1.2<t.days.length
theorem PrAt.mono (h:PrAt H ps vs) (s:∀a xs,H a=some (.tup xs)->H' a=some (.tup xs)):PrAt H' ps vs:=⟨h.1,fun i p v e1 e2=>by
 obtain ⟨a,ea,ha⟩:=h.2 i p v e1 e2;exact ⟨a,ea,s _ _ ha⟩⟩
theorem PrAt.snoc (h:PrAt H ps vs) (e:H a=some (.tup [.int p.1,.int p.2])):PrAt H (ps++[p]) (vs++[.ref a]):=by
 refine ⟨by simp [h.1],fun i q v e1 e2=>?_⟩;by_cases l:i<ps.length
 ·rw [RQ l] at e1;rw [RQ (by rw [h.1];exact l)] at e2;exact h.2 i q v e1 e2
 ·have li:=(QE.mp e1).1;rw [Qq,GP] at li;have ei:i=ps.length:=by omega
  subst ei;rw [Rn (Qe _),GC] at e1;rw [Rn (by rw [h.1];exact Qe _),h.1,GC] at e2;cases (show p=q by simpa using e1);cases (show V.ref a=v by simpa using e2);exact ⟨a,rfl,e⟩
theorem TrAt.mono {o tl:Addr} {t:Tr} (h:TrAt C H o dx dl sl pl tl ul t) (s:Same H H'):TrAt C H' o dx dl sl pl tl ul t:=by
 obtain ⟨vs,h1,h2⟩:=h.ta;obtain ⟨us,h3,h4⟩:=h.un;exact ⟨s _ _ h.ob,h.ap,s _ _ h.da,s _ _ h.so,s _ _ h.pa,⟨vs,s _ _ h1,h2.mono fun a xs e=>s _ _ e⟩,us,s _ _ h3,h4.mono fun a xs e=>s _ _ e⟩
section
variable {o tl:Addr} {t:Tr}
theorem TrAt.apart (h:TrAt C H o dx dl sl pl tl ul t):(o≠dl∧o≠sl∧o≠pl∧o≠tl∧o≠ul)∧(pl≠dl∧pl≠sl∧pl≠tl∧pl≠ul)∧dl≠sl∧dl≠tl∧dl≠ul∧sl≠tl∧sl≠ul∧tl≠ul:=by
 obtain ⟨vs,h1,_⟩:=h.ta;obtain ⟨us,h2,_⟩:=h.un;have n:=h.ap;simp only [QP,Qh,QJ,QK,not_or,Nt,NH,and_true] at n
 exact ⟨⟨Ye h.ob h.da (fun z=>by cases z),Ye h.ob h.so (fun z=>by cases z),Ye h.ob h.pa (fun z=>by cases z),Ye h.ob h1 (fun z=>by cases z),Ye h.ob h2 (fun z=>by cases z)⟩,
  ⟨Ye h.pa h.da (fun z=>by cases z),Ye h.pa h.so (fun z=>by cases z),Ye h.pa h1 (fun z=>by cases z),Ye h.pa h2 (fun z=>by cases z)⟩,n.1.1,n.1.2.1,n.1.2.2,n.2.1.1,n.2.1.2,n.2.2⟩
theorem XD {xs:List V} {v:HO} (e:H a=some (.tup xs)) (hb:H b=some u) (n:∀ys,u≠.tup ys):Zc H b v a=some (.tup xs):=(Zd (Ye e hb (fun z=>n _ z.symm))).trans e
end
section
variable {o tl:Addr} {t:Tr}
theorem TrAt.obj (h:TrAt C H o dx dl sl pl tl ul t) (c:Bool) (n:Nat):TrAt C (Zc H o (.ins C dx (Ze9 dl sl pl tl ul { t with clash:=c,here:=n }))) o dx dl sl pl tl ul { t with clash:=c,here:=n }:=by
 obtain ⟨⟨a1,a2,a3,a4,a5⟩,_⟩:=h.apart;obtain ⟨vs,h1,h2⟩:=h.ta;obtain ⟨us,h3,h4⟩:=h.un;exact ⟨Zg,h.ap,(Zd a1.symm).trans h.da,(Zd a2.symm).trans h.so,(Zd a3.symm).trans h.pa,⟨vs,(Zd a4.symm).trans h1,h2.mono fun a xs e=>XD e h.ob (fun _ z=>by cases z)⟩,us,(Zd a5.symm).trans h3,h4.mono fun a xs e=>XD e h.ob (fun _ z=>by cases z)⟩
theorem TrAt.setS (h:TrAt C H o dx dl sl pl tl ul t) (ss:List Str):TrAt C (Zc H sl (.lst (ss.map V.str))) o dx dl sl pl tl ul { t with sorts:=ss }:=by
 obtain ⟨⟨a1,a2,a3,a4,a5⟩,⟨b1,b2,b3,b4⟩,c1,c2,c3,c4,c5,c6⟩:=h.apart;obtain ⟨vs,h1,h2⟩:=h.ta;obtain ⟨us,h3,h4⟩:=h.un;exact ⟨(Zd a2).trans h.ob,h.ap,(Zd c1).trans h.da,Zg,(Zd b2).trans h.pa,⟨vs,(Zd c4.symm).trans h1,h2.mono fun a xs e=>XD e h.so (fun _ z=>by cases z)⟩,us,(Zd c5.symm).trans h3,h4.mono fun a xs e=>XD e h.so (fun _ z=>by cases z)⟩
theorem TrAt.setD (h:TrAt C H o dx dl sl pl tl ul t) (ds:List Int):TrAt C (Zc H dl (.lst (ds.map V.int))) o dx dl sl pl tl ul { t with days:=ds }:=by
 obtain ⟨⟨a1,a2,a3,a4,a5⟩,⟨b1,b2,b3,b4⟩,c1,c2,c3,c4,c5,c6⟩:=h.apart;obtain ⟨vs,h1,h2⟩:=h.ta;obtain ⟨us,h3,h4⟩:=h.un;exact ⟨(Zd a1).trans h.ob,h.ap,Zg,(Zd c1.symm).trans h.so,(Zd b1).trans h.pa,⟨vs,(Zd c2.symm).trans h1,h2.mono fun a xs e=>XD e h.da (fun _ z=>by cases z)⟩,us,(Zd c3.symm).trans h3,h4.mono fun a xs e=>XD e h.da (fun _ z=>by cases z)⟩
theorem TrAt.setP (h:TrAt C H o dx dl sl pl tl ul t) (ps:List ((Str×Nat)×Nat)):TrAt C (Zc H pl (.dT (YH ps))) o dx dl sl pl tl ul { t with par:=ps }:=by
 obtain ⟨⟨a1,a2,a3,a4,a5⟩,⟨b1,b2,b3,b4⟩,c1,c2,c3,c4,c5,c6⟩:=h.apart;obtain ⟨vs,h1,h2⟩:=h.ta;obtain ⟨us,h3,h4⟩:=h.un;exact ⟨(Zd a3).trans h.ob,h.ap,(Zd b1.symm).trans h.da,(Zd b2.symm).trans h.so,Zg,⟨vs,(Zd b3.symm).trans h1,h2.mono fun a xs e=>XD e h.pa (fun _ z=>by cases z)⟩,us,(Zd b4.symm).trans h3,h4.mono fun a xs e=>XD e h.pa (fun _ z=>by cases z)⟩
theorem TrAt.addT (h:TrAt C H o dx dl sl pl tl ul t) (h1:H tl=some (.lst vs)) (h2:PrAt H t.tak vs) (e:H a=some (.tup [.int p.1,.int p.2])):TrAt C (Zc H tl (.lst (vs++[.ref a]))) o dx dl sl pl tl ul { t with tak:=t.tak++[p] }:=by
 obtain ⟨⟨a1,a2,a3,a4,a5⟩,⟨b1,b2,b3,b4⟩,c1,c2,c3,c4,c5,c6⟩:=h.apart;obtain ⟨us,h3,h4⟩:=h.un;exact ⟨(Zd a4).trans h.ob,h.ap,(Zd c2).trans h.da,(Zd c4).trans h.so,(Zd b3).trans h.pa,⟨_,Zg,PrAt.snoc (h2.mono fun a xs e=>XD e h1 (fun _ z=>by cases z)) (XD e h1 (fun _ z=>by cases z))⟩,us,(Zd c6.symm).trans h3,h4.mono fun a xs e=>XD e h1 (fun _ z=>by cases z)⟩
theorem TrAt.addU (h:TrAt C H o dx dl sl pl tl ul t) {us:List V} (h1:H ul=some (.lst us)) (h2:PrAt H t.uni us) (e:H a=some (.tup [.int p.1,.int p.2])):TrAt C (Zc H ul (.lst (us++[.ref a]))) o dx dl sl pl tl ul { t with uni:=t.uni++[p] }:=by
 obtain ⟨⟨a1,a2,a3,a4,a5⟩,⟨b1,b2,b3,b4⟩,c1,c2,c3,c4,c5,c6⟩:=h.apart;obtain ⟨vs,h3,h4⟩:=h.ta;exact ⟨(Zd a5).trans h.ob,h.ap,(Zd c3).trans h.da,(Zd c5).trans h.so,(Zd b4).trans h.pa,⟨vs,(Zd c6).trans h3,h4.mono fun a xs e=>XD e h1 (fun _ z=>by cases z)⟩,_,Zg,PrAt.snoc (h2.mono fun a xs e=>XD e h1 (fun _ z=>by cases z)) (XD e h1 (fun _ z=>by cases z))⟩
end
theorem But.updT (h:But S H H') (m:a∈S):But S H (Zc H' a u):=⟨fun c v n e=>by rw [Zd (fun z:c=a=>n (by rw [z];exact m))];exact h.eq c v n e,fun c n=>h.al c (by
 by_cases z:c=a
 ·rw [z,Zg] at n;cases n
 ·rw [Zd z] at n;exact n)⟩
theorem But.wide {S':List Addr} (h:But S H H') (m:∀c∈S,c∈S'):But S' H H':=⟨fun c v n e=>h.eq c v (fun z=>n (m c z)) e,h.al⟩
theorem But.rfl' (S:List Addr) (H:Hp):But S H H:=⟨fun _ _ _ e=>e,fun _ n=>n⟩
theorem JU (ps:List ((Str×Nat)×Nat)) (l:Str) (c:Nat):ZH (YH ps) [.inr l,.inl (c:Int)]=((ps.find? fun q=>decide (q.1=(l,c))).map (·.2)).map fun n:Nat=>V.int n:=by
 induction ps with
 |nil=>rfl
 |cons q ps ih =>
  unfold YH;rw [Qx];by_cases e:q.1=(l,c)
  ·rw [XQ (by rw [e]),List.find?_cons_of_pos (by simpa using e)];rfl
  ·rw [XW (fun z=>e (by
    have z1:=RG z;have z2:=RG z1.2;exact Rg (R0 z1.1) (by have:=Sum.inl.inj z2.1;exact NJ this))),List.find?_cons_of_neg (by simpa using e)]
   exact ih
theorem Zb8 {ps:List ((Str×Nat)×Nat)} {l:Str} {c p:Nat} (h:(ps.find? fun q=>decide (q.1=(l,c)))=none):Ys (YH ps) [.inr l,.inl (c:Int)] (.int p)=YH (ps++[((l,c),p)]):=by
 rw [ZbB _ (by rw [JU,h];rfl)];unfold YH;rw [Qv];rfl
theorem Zlb {n:Nat} (h:i<n):Wo n (i:Int)=some i:=by
 unfold Wo;rw [Qb (Int.natCast_nonneg i),Qb (by omega)];rfl
theorem Zd1 {W:List Str} {n:Nat} {z:Str} (h:W[n]?=some z):Yg (W.map V.str) (n:Int)=some (.str z):=XY (by rw [Qo,h];rfl)
theorem XH (t:Tr) (i:Nat) (s:Str):(t.ask i s).days=t.days∧(t.ask i s).par=t.par∧(t.ask i s).tak=t.tak∧(t.ask i s).uni=t.uni∧(t.ask i s).here=t.here∧(t.ask i s).sorts.length=t.sorts.length:=by
 unfold Tr.ask;split
 ·exact ⟨rfl,rfl,rfl,rfl,rfl,List.length_set⟩
 ·split<;>exact ⟨rfl,rfl,rfl,rfl,rfl,rfl⟩
theorem TrOk.ask {t:Tr} (h:TrOk t) (i:Nat) (s:Str):TrOk (t.ask i s):=by
 obtain ⟨a,b,c,d,e,f⟩:=XH t i s;exact ⟨by rw [f,a];exact h.len,by rw [e,a];exact h.he,by rw [a];exact h.few,by rw [b];exact h.pf,by rw [c];exact h.tf,by rw [d];exact h.uf,by rw [a,b];exact h.pk⟩
theorem X4 (t:Tr) (k:Int):(t.grow k).days.length=t.days.length+1:=by unfold Tr.grow;rw [Qq];rfl
theorem TrOk.grow {t:Tr} (h:TrOk t) (l:t.days.length≤59) (k:Int):TrOk (t.grow k):=⟨by rw [X4];show (t.sorts++[("" : Str)]).length=_;rw [Qq,h.len];rfl,by rw [X4];exact Q5 _,by rw [X4];omega,h.pf,h.tf,h.uf,fun q hq=>by rw [X4];exact Ga (h.pk q hq)⟩
theorem TrOk.addPar {t:Tr} (h:TrOk t) (l:t.par.length≤59) (s:Str) {c:Nat} (hc:c<t.days.length) (p:Nat):TrOk (t.addPar s c p):=⟨h.len,h.he,h.few,by show (t.par++[_]).length≤60;rw [Qq];simp;omega,h.tf,h.uf,fun q hq=>by
 rcases Ql.mp hq with hq|hq
 ·exact h.pk q hq
 ·rw [QG.mp hq];exact hc⟩
theorem ZhA {t:Tr} (h:TrOk t) (l:Str):(t.par.find? fun q=>decide (q.1=(l,t.days.length)))=none:=by
 rw [NC];intro q hq z;have e:q.1=(l,t.days.length):=Q9 z;have:=h.pk q hq;rw [e] at this;exact absurd this (QD _)
theorem Zba (t:Tr) (h:s="he"∨s="she"):t.go s=t.ask t.here s:=by unfold Tr.go;rw [Qb h]
theorem Zbm (t:Tr) (h:s="F"∨s="M"):t.go s=t.goUp s:=by unfold Tr.go;rw [Qa (by rcases h with rfl|rfl<;>trivial),Qb h]
theorem ZaF (t:Tr) (h:s="f"∨s="m"):t.go s=((t.ask t.here (ZZ (ZG s))).grow 1).addPar (ZG s) t.days.length t.here:=by unfold Tr.go;rw [Qa (by rcases h with rfl|rfl<;>trivial),Qa (by rcases h with rfl|rfl<;>trivial),Qb h]
theorem Zcu (t:Tr):t.go "T"={ t.grow (-1) with tak:=t.tak++[(t.here,t.days.length)] }:=by unfold Tr.go;rw [Qa (by trivial),Qa (by trivial),Qa (by trivial),Qb rfl]
theorem ZbR (t:Tr):t.go "t"={ t.grow 1 with tak:=t.tak++[(t.days.length,t.here)] }:=by unfold Tr.go;rw [Qa (by trivial),Qa (by trivial),Qa (by trivial),Qa (by trivial),Qb rfl]
theorem Zcq (t:Tr):t.go "S"={ t.grow 0 with uni:=t.uni++[(t.here,t.days.length)] }:=by unfold Tr.go;rw [Qa (by trivial),Qa (by trivial),Qa (by trivial),Qa (by trivial),Qa (by trivial)]
noncomputable def Ze (i:Nat):Str:=⟨#[97,97+i]⟩
noncomputable def Yh (t:Tr) (l:Str) (i:Nat):Str:=match Vi t l i with
 |some p=>Ze p
 |none=>""
noncomputable def XV (t:Tr) (i:Nat):Ent:=.born (Ze i) (t.sorts.getD i "") (t.days.getD i 0) (Yh t "F" i) (Yh t "M" i)
theorem Zjc:∀n,n<26->("abcdefghijklmnopqrstuvwxyz" : Str).cps.toList[n]?=some (97+n):=by trivial
theorem Zgg {ps:List ((Str×Nat)×Nat)} {k:Str×Nat} {p:Nat} (h:(ps.find? fun q=>decide (q.1=k)).map (·.2)=some p):(k,p)∈ps:=by
 obtain ⟨q,hq,rfl⟩:=QF.mp h;have e:q.1=k:=by have:=List.find?_some hq;exact Q9 this
 rw [←e];exact List.mem_of_find?_eq_some hq
structure TI (t:Tr) (k:Nat):Prop where
 len:t.sorts.length=t.days.length
 he:t.here<t.days.length
 n:t.days.length≤k+1
 pf:t.par.length≤k
 tf:t.tak.length≤k
 uf:t.uni.length≤k
 pn:∀q∈t.par,q.1.2<t.days.length∧q.2<t.days.length∧(q.1.1="F"∨q.1.1="M")∧t.days.getD q.2 0=t.days.getD q.1.2 0-1∧(t.clash=false->t.sorts.getD q.2 ""=ZZ q.1.1)
 pnd:(t.par.map (·.1)).Nodup
 tk:∀p∈t.tak,p.1<t.days.length∧p.2<t.days.length∧t.days.getD p.2 0=t.days.getD p.1 0-1
 tnd:t.tak.Nodup
 un:∀p∈t.uni,p.1<p.2∧p.2<t.days.length
 und:t.uni.Nodup
 ss:∀s∈t.sorts,s=""∨s="he"∨s="she"
 bd:∀d∈t.days,-(k:Int)≤d∧d≤k
theorem TI.start:TI U5 0:=⟨rfl,by decide,by decide,by decide,by decide,by decide,fun q hq=>(by cases hq),.nil,fun q hq=>(by cases hq),.nil,fun q hq=>(by cases hq),.nil,by trivial,by decide⟩
theorem TI.ok {t:Tr} {k:Nat} (h:TI t k) (l:k≤50):TrOk t:=⟨h.len,h.he,by have:=h.n;omega,by have:=h.pf;omega,by have:=h.tf;omega,by have:=h.uf;omega,fun q hq=>(h.pn q hq).1⟩
structure Sub (t u:Tr):Prop where
 par:∀q∈t.par,q∈u.par
 tak:∀q∈t.tak,q∈u.tak
 uni:∀q∈t.uni,q∈u.uni
 cl:u.clash=false->t.clash=false
 so:∀i,t.sorts.getD i ""≠""->u.sorts.getD i ""=t.sorts.getD i ""
theorem Sub.refl (t:Tr):Sub t t:=⟨fun _ h=>h,fun _ h=>h,fun _ h=>h,fun h=>h,fun _ _=>rfl⟩
theorem Sub.trans {t u v:Tr} (a:Sub t u) (b:Sub u v):Sub t v:=⟨fun q h=>b.par q (a.par q h),fun q h=>b.tak q (a.tak q h),fun q h=>b.uni q (a.uni q h),fun h=>a.cl (b.cl h),fun i h=>(b.so i (by rw [a.so i h];exact h)).trans (a.so i h)⟩
theorem Zd7 (l:Str):ZZ l≠"":=by unfold ZZ;split<;>trivial
theorem ZeX (l:Str):ZZ l=""∨ZZ l="he"∨ZZ l="she":=by unfold ZZ;split<;>simp
theorem Zhl {l:List Str}:(l.set i s).getD j ""=if i=j∧i<l.length then s else l.getD j "":=by
 rw [QS,List.getElem?_set,QS];by_cases e:i=j
 ·subst e;by_cases h:i<l.length
  ·simp [h]
  ·simp [h]
 ·simp [e]
theorem Zhc {α:Type} {l:List α} {x d:α} (h:i<l.length):(l++[x]).getD i d=l.getD i d:=by
 rw [QS,RQ h,QS]
theorem Zi2 {α:Type} {l:List α} {x d:α}:(l++[x]).getD l.length d=x:=by
 rw [QS,Rn (Qe _),GC];rfl
theorem UA {l:List Str}:(l++[("" : Str)]).getD i ""=l.getD i "":=by
 rw [QS,QS,List.getElem?_append];by_cases h:i<l.length
 ·rw [Qb h]
 ·rw [Qa h,show l[i]?=none from RY (by omega)];cases i-l.length<;>rfl
section
variable {t:Tr} {k:Nat}
theorem Zil (t:Tr) (i:Nat) (s:Str):∀j,t.sorts.getD j ""≠""->(t.ask i s).sorts.getD j ""=t.sorts.getD j "":=fun j h=>by
 unfold Tr.ask;split
 ·rename_i e;show (t.sorts.set i s).getD j ""=_;rw [Zhl,Qa fun z:i=j∧i<t.sorts.length=>h (z.1▸e)]
 ·split<;>rfl
theorem J3 {t:Tr} (h:(t.ask i s).clash=false):t.clash=false∧(i<t.sorts.length->(t.ask i s).sorts.getD i ""=s):=by
 unfold Tr.ask at h ⊢;split at h
 ·rename_i e;refine ⟨h,fun l=>?_⟩;rw [Qb e];show (t.sorts.set i s).getD i ""=s;rw [Zhl,Qb ⟨rfl,l⟩]
 ·rename_i e;split at h
  ·rename_i e2;refine ⟨h,fun l=>?_⟩;rw [Qa e,Qb e2];exact e2
  ·cases h
theorem TI.ask (h:TI t k) (i:Nat) (hs:s=""∨s="he"∨s="she"):TI (t.ask i s) k:=by
 obtain ⟨a,b,c,d,e,f⟩:=XH t i s;have hn:∀q∈t.par,t.clash=false->t.sorts.getD q.2 ""≠"":=fun q hq hc=>by rw [(h.pn q hq).2.2.2.2 hc];exact Zd7 _
 refine ⟨by rw [f,a];exact h.len,by rw [e,a];exact h.he,by rw [a];exact h.n,by rw [b];exact h.pf,by rw [c];exact h.tf,by rw [d];exact h.uf,fun q hq=>?_,by rw [b];exact h.pnd,by rw [a,c];exact h.tk,by rw [c];exact h.tnd,by rw [a,d];exact h.un,by rw [d];exact h.und,fun x hx=>?_,by rw [a];exact h.bd⟩
 ·rw [b] at hq;rw [a];obtain ⟨p1,p2,p3,p4,p5⟩:=h.pn q hq;refine ⟨p1,p2,p3,p4,fun hc=>?_⟩;have hc':=(J3 hc).1;rw [Zil t i s q.2 (hn q hq hc')];exact p5 hc'
 ·unfold Tr.ask at hx;split at hx
  ·rcases List.mem_or_eq_of_mem_set hx with hx|hx
   ·exact h.ss x hx
   ·rw [hx];exact hs
  ·split at hx<;>exact h.ss x hx
theorem Sub.ask (t:Tr) (i:Nat) (s:Str):Sub t (t.ask i s):=by
 obtain ⟨a,b,c,d,e,f⟩:=XH t i s;exact ⟨fun q h=>by rw [b];exact h,fun q h=>by rw [c];exact h,fun q h=>by rw [d];exact h,fun h=>(J3 h).1,Zil t i s⟩
theorem Sub.grow (t:Tr) (k:Int):Sub t (t.grow k):=⟨fun q h=>h,fun q h=>h,fun q h=>h,fun h=>h,fun i _=>UA⟩
theorem TI.grow (h:TI t k) {g:Int} (hg:-1≤g∧g≤1):TI (t.grow g) (k+1):=by
 have gd:∀{i},i<t.days.length->(t.grow g).days.getD i 0=t.days.getD i 0:=fun hi=>Zhc hi;have gl:=X4 t g;refine ⟨by rw [gl];show (t.sorts++[("" : Str)]).length=_;rw [Qq,h.len];rfl,by rw [gl];exact Q5 _,by rw [gl];have:=h.n;omega,G8 h.pf,G8 h.tf,G8 h.uf,fun q hq=>?_,h.pnd,fun p hp=>?_,h.tnd,fun p hp=>?_,h.und,fun x hx=>?_,fun d hd=>?_⟩
 ·obtain ⟨p1,p2,p3,p4,p5⟩:=h.pn q hq;rw [gl,gd p1,gd p2];exact ⟨by omega,by omega,p3,p4,fun hc=>(show (t.sorts++[("" : Str)]).getD q.2 ""=_ from UA.trans (p5 hc))⟩
 ·obtain ⟨p1,p2,p3⟩:=h.tk p hp;rw [gl,gd p1,gd p2];exact ⟨by omega,by omega,p3⟩
 ·obtain ⟨p1,p2⟩:=h.un p hp;rw [gl];exact ⟨p1,by omega⟩
 ·rcases Ql.mp hx with hx|hx
  ·exact h.ss x hx
  ·exact .inl (by simpa using hx)
 ·rcases Ql.mp hd with hd|hd
  ·have:=h.bd d hd;omega
  ·have hd:d=t.days.getD t.here 0+g:=by simpa using hd
   have:=h.bd (t.days.getD t.here 0) (by rw [QS,Qs h.he];exact Gf h.he);omega
theorem Zbc (t:Tr) (g:Int):(t.grow g).days.getD t.days.length 0=t.days.getD t.here 0+g:=Zi2
theorem ZaX {t:Tr} {g:Int} (h:i<t.days.length):(t.grow g).days.getD i 0=t.days.getD i 0:=Zhc h
theorem TI.here' (h:TI t k) {p:Nat} (hp:p<t.days.length):TI { t with here:=p } k:=⟨h.len,hp,h.n,h.pf,h.tf,h.uf,h.pn,h.pnd,h.tk,h.tnd,h.un,h.und,h.ss,h.bd⟩
theorem TI.up (h:TI t k):TI t (k+1):=⟨h.len,h.he,by have:=h.n;omega,by have:=h.pf;omega,by have:=h.tf;omega,by have:=h.uf;omega,h.pn,h.pnd,h.tk,h.tnd,h.un,h.und,h.ss,fun d hd=>by have:=h.bd d hd;omega⟩
end
def RT (t:Tr) (s:Str) (i j:Nat):Prop :=
 if s="he"∨s="she" then i=j∧t.sorts.getD i ""=s
 else if s="F"∨s="M" then ((s,i),j)∈t.par
 else if s="f"∨s="m" then ((ZG s,j),i)∈t.par
 else if s="T" then (i,j)∈t.tak
 else if s="t" then (j,i)∈t.tak
 else (i,j)∈t.uni∨(j,i)∈t.uni
theorem UX {t:Tr} (h:s="he"∨s="she"):RT t s i j↔i=j∧t.sorts.getD i ""=s:=by unfold RT;rw [Qb h]
theorem W5 {t:Tr} (h:s="F"∨s="M"):RT t s i j↔((s,i),j)∈t.par:=by unfold RT;rw [Qa (by rcases h with rfl|rfl<;>trivial),Qb h]
theorem Js {t:Tr} (h:s="f"∨s="m"):RT t s i j↔((ZG s,j),i)∈t.par:=by unfold RT;rw [Qa (by rcases h with rfl|rfl<;>trivial),Qa (by rcases h with rfl|rfl<;>trivial),Qb h]
theorem VC {t:Tr}:RT t "T" i j↔(i,j)∈t.tak:=by unfold RT;rw [Qa (by trivial),Qa (by trivial),Qa (by trivial),Qb rfl]
theorem Jf {t:Tr}:RT t "t" i j↔(j,i)∈t.tak:=by unfold RT;rw [Qa (by trivial),Qa (by trivial),Qa (by trivial),Qa (by trivial),Qb rfl]
theorem W7 {t:Tr}:RT t "S" i j↔(i,j)∈t.uni∨(j,i)∈t.uni:=by unfold RT;rw [Qa (by trivial),Qa (by trivial),Qa (by trivial),Qa (by trivial),Qa (by trivial)]
theorem Ua (h:s∈Zs):(s="he"∨s="she")∨(s="F"∨s="M")∨(s="f"∨s="m")∨s="T"∨s="t"∨s="S":=by
 simp only [Zs,Qh,QJ,QK] at h;rcases h with h|h|h|h|h|h|h|h|h<;>simp [h]
theorem Zo1 (h:s="he"∨s="she"):s≠"":=by rcases h with rfl|rfl<;>trivial
theorem RT.mono {t u:Tr} (a:Sub t u) (hs:s∈Zs) (h:RT t s i j):RT u s i j:=by
 rcases Ua hs with c|c|c|rfl|rfl|rfl
 ·rw [UX c] at h ⊢;refine ⟨h.1,(a.so i ?_).trans h.2⟩;rw [h.2];exact Zo1 c
 ·rw [W5 c] at h ⊢;exact a.par _ h
 ·rw [Js c] at h ⊢;exact a.par _ h
 ·rw [VC] at h ⊢;exact a.tak _ h
 ·rw [Jf] at h ⊢;exact a.tak _ h
 ·rw [W7] at h ⊢;exact h.imp (a.uni _) (a.uni _)
section
variable {t:Tr} {k:Nat}
theorem TI.addPar (h:TI t (k+1)) (pf:t.par.length≤k) {l:Str} {c p:Nat} (hc:c<t.days.length) (hp:p<t.days.length) (hl:l="F"∨l="M") (hd:t.days.getD p 0=t.days.getD c 0-1) (hs:t.clash=false->t.sorts.getD p ""=ZZ l) (hn:(l,c)∉t.par.map (·.1)):TI (t.addPar l c p) (k+1):=by
 refine ⟨h.len,h.he,h.n,by show (t.par++[_]).length≤_;rw [Qq];simp;omega,h.tf,h.uf,fun q hq=>?_,?_,h.tk,h.tnd,h.un,h.und,h.ss,h.bd⟩
 ·rcases Ql.mp hq with hq|hq
  ·exact h.pn q hq
  ·rw [QG.mp hq];exact ⟨hc,hp,hl,hd,hs⟩
 ·show ((t.par++[((l,c),p)]).map (·.1)).Nodup;rw [Qv,QZ];refine ⟨h.pnd,by simp,fun a ha b hb e=>hn ?_⟩;have hb:b=(l,c):=by simpa using hb
  rw [←hb,←e];exact ha
theorem Sub.addPar (t:Tr) (l:Str) (c p:Nat):Sub t (t.addPar l c p):=⟨fun q h=>Rc _ h,fun q h=>h,fun q h=>h,fun h=>h,fun _ _=>rfl⟩
theorem JP (h:TI t k) {l:Str} {c p:Nat}:Vi t l c=some p↔((l,c),p)∈t.par:=by
 refine ⟨Zgg,fun m=>?_⟩;unfold Vi
 have:∀{ps:List ((Str×Nat)×Nat)},(ps.map (·.1)).Nodup->((l,c),p)∈ps->(ps.find? fun q=>decide (q.1=(l,c))).map (·.2)=some p:=by
  intro ps
  induction ps with
  |nil=>intro _ m;cases m
  |cons q ps ih =>
   intro nd m;rw [Qx,QP] at nd;rcases Qh.mp m with rfl|m
   ·rw [List.find?_cons_of_pos (by simp)];rfl
   ·have ne:q.1≠(l,c):=fun z=>nd.1 (by rw [z];exact Qg.mpr ⟨_,m,rfl⟩);rw [List.find?_cons_of_neg (by simpa using ne)];exact ih nd.2 m
 exact this h.pnd m
theorem ZjL {l:Str} {c:Nat} (h:Vi t l c=none):(l,c)∉t.par.map (·.1):=fun m=>by
 obtain ⟨q,hq,e⟩:=Qg.mp m;have:=NK.mp h;rw [NC] at this;exact this q hq (by simpa using e)
theorem Zn9 (h:TI t k) (hs:s∈Zs):TI (t.go s) (k+1)∧Sub t (t.go s)∧((t.go s).clash=false->RT (t.go s) s t.here (t.go s).here):=by
 rcases Ua hs with c|c|c|rfl|rfl|rfl
 ·rw [Zba t c];refine ⟨(h.ask t.here (.inr c)).up,Sub.ask t t.here s,fun hc=>?_⟩;rw [UX c,(XH t t.here s).2.2.2.2.1];exact ⟨rfl,(J3 hc).2 (by rw [h.len];exact h.he)⟩
 ·rw [Zbm t c];unfold Tr.goUp;cases hp:Vi t s t.here with
  |some p =>
   have m:=(JP h).mp hp;refine ⟨(h.here' (h.pn _ m).2.1).up,⟨fun q h=>h,fun q h=>h,fun q h=>h,fun h=>h,fun _ _=>rfl⟩,fun _=>?_⟩;rw [W5 c];exact m
  |none =>
   have hno:=ZjL hp;have g:=h.grow (g:=-1) (by omega)
   have a0:(t.grow (-1)).sorts.getD t.days.length ""="":=by
    show (t.sorts++[("" : Str)]).getD t.days.length ""="";rw [UA,QS,RY (by rw [h.len];exact Qe _)];rfl
   have ex:((t.grow (-1)).addPar s t.here t.days.length).ask ((t.grow (-1)).addPar s t.here t.days.length).here (ZZ s)=((t.grow (-1)).ask t.days.length (ZZ s)).addPar s t.here t.days.length:=by
    unfold Tr.ask;rw [Qb (show ((t.grow (-1)).addPar s t.here t.days.length).sorts.getD ((t.grow (-1)).addPar s t.here t.days.length).here ""="" from a0),Qb a0];rfl
   show TI (((t.grow (-1)).addPar s t.here t.days.length).ask ((t.grow (-1)).addPar s t.here t.days.length).here (ZZ s)) (k+1)∧_;rw [ex];obtain ⟨a,b,c',d,e,f⟩:=XH (t.grow (-1)) t.days.length (ZZ s);have g2:=g.ask t.days.length (ZeX s);refine ⟨g2.addPar (by rw [b];exact h.pf) (by rw [a,X4];have:=h.he;omega) (by rw [a,X4];omega) c (by rw [a,Zbc,ZaX h.he];omega) (fun hc=>(J3 hc).2 (by show t.days.length<(t.sorts++[("" : Str)]).length;rw [Qq,h.len];simp)) (by rw [b];exact hno),((Sub.grow t (-1)).trans (Sub.ask _ _ _)).trans (Sub.addPar ..),fun _=>?_⟩;rw [W5 c];refine QU _ ?_;show _∈[((s,t.here),t.days.length)];rw [show (((t.grow (-1)).ask t.days.length (ZZ s)).addPar s t.here t.days.length).here=t.days.length from e];simp
 ·rw [ZaF t c];have hu:ZG s="F"∨ZG s="M":=by rcases c with rfl|rfl<;>trivial
  obtain ⟨a,b,c',d,e,f⟩:=XH t t.here (ZZ (ZG s));have g:=(h.ask t.here (ZeX (ZG s))).grow (g:=1) (by omega);have hl:((t.ask t.here (ZZ (ZG s))).grow 1).days.length=t.days.length+1:=by rw [X4,a]
  refine ⟨g.addPar (by show (t.ask t.here (ZZ (ZG s))).par.length≤k;rw [b];exact h.pf) (by rw [hl];omega) (by rw [hl];have:=h.he;omega) hu ?_ (fun hc=>?_) (fun m=>?_),((Sub.ask _ _ _).trans (Sub.grow _ _)).trans (Sub.addPar ..),fun _=>?_⟩
  ·have e1:((t.ask t.here (ZZ (ZG s))).grow 1).days.getD t.days.length 0=t.days.getD t.here 0+1:=by
    have:=Zbc (t.ask t.here (ZZ (ZG s))) 1;rw [a,e] at this;exact this
   rw [e1,ZaX (by rw [a];exact h.he),a];omega
  ·show ((t.ask t.here (ZZ (ZG s))).sorts++[("" : Str)]).getD t.here ""=_;rw [UA];exact (J3 (show (t.ask t.here (ZZ (ZG s))).clash=false from hc)).2 (by rw [h.len];exact h.he)
  ·obtain ⟨q,hq,eq⟩:=Qg.mp m
   have hq:q∈t.par:=by
    have:q∈(t.ask t.here (ZZ (ZG s))).par:=hq;rw [b] at this;exact this
   have:=(h.pn q hq).1;rw [eq] at this;exact absurd this (QD _)
  ·rw [Js c];refine QU _ ?_;rw [show (((t.ask t.here (ZZ (ZG s))).grow 1).addPar (ZG s) t.days.length t.here).here=t.days.length from (show (t.ask t.here (ZZ (ZG s))).days.length=_ by rw [a])];simp
 ·rw [Zcu];have g:=h.grow (g:=-1) (by omega);refine ⟨⟨g.len,g.he,g.n,g.pf,?_,g.uf,g.pn,g.pnd,fun p hp=>?_,?_,g.un,g.und,g.ss,g.bd⟩,⟨fun q h=>h,fun q h=>Rc _ h,fun q h=>h,fun h=>h,fun i _=>UA⟩,fun _=>?_⟩
  ·show (t.tak++[_]).length≤_;rw [Qq];have:=h.tf;simp;omega
  ·rcases Ql.mp hp with hp|hp
   ·exact g.tk p hp
   ·rw [QG.mp hp];show t.here<(t.grow (-1)).days.length∧t.days.length<(t.grow (-1)).days.length∧(t.grow (-1)).days.getD t.days.length 0=(t.grow (-1)).days.getD t.here 0-1;rw [X4,Zbc,ZaX h.he];have:=h.he;omega
  ·show (t.tak++[_]).Nodup;rw [QZ];refine ⟨h.tnd,by simp,fun x hx y hy e=>?_⟩;rw [QG.mp hy] at e;have:=(h.tk x hx).2.1;rw [e] at this;exact QD _ this
  ·rw [VC];exact QU _ (by simp [Tr.grow])
 ·rw [ZbR];have g:=h.grow (g:=1) (by omega);refine ⟨⟨g.len,g.he,g.n,g.pf,?_,g.uf,g.pn,g.pnd,fun p hp=>?_,?_,g.un,g.und,g.ss,g.bd⟩,⟨fun q h=>h,fun q h=>Rc _ h,fun q h=>h,fun h=>h,fun i _=>UA⟩,fun _=>?_⟩
  ·show (t.tak++[_]).length≤_;rw [Qq];have:=h.tf;simp;omega
  ·rcases Ql.mp hp with hp|hp
   ·exact g.tk p hp
   ·rw [QG.mp hp];show t.days.length<(t.grow 1).days.length∧t.here<(t.grow 1).days.length∧(t.grow 1).days.getD t.here 0=(t.grow 1).days.getD t.days.length 0-1;rw [X4,Zbc,ZaX h.he];have:=h.he;omega
  ·show (t.tak++[_]).Nodup;rw [QZ];refine ⟨h.tnd,by simp,fun x hx y hy e=>?_⟩;rw [QG.mp hy] at e;have:=(h.tk x hx).1;rw [e] at this;exact QD _ this
  ·rw [Jf];exact QU _ (by simp [Tr.grow])
 ·rw [Zcq];have g:=h.grow (g:=0) (by omega);refine ⟨⟨g.len,g.he,g.n,g.pf,g.tf,?_,g.pn,g.pnd,g.tk,g.tnd,fun p hp=>?_,?_,g.ss,g.bd⟩,⟨fun q h=>h,fun q h=>h,fun q h=>Rc _ h,fun h=>h,fun i _=>UA⟩,fun _=>?_⟩
  ·show (t.uni++[_]).length≤_;rw [Qq];have:=h.uf;simp;omega
  ·rcases Ql.mp hp with hp|hp
   ·exact g.un p hp
   ·rw [QG.mp hp];show t.here<t.days.length∧t.days.length<(t.grow 0).days.length;rw [X4];have:=h.he;omega
  ·show (t.uni++[_]).Nodup;rw [QZ];refine ⟨h.und,by simp,fun x hx y hy e=>?_⟩;rw [QG.mp hy] at e;have:=(h.un x hx).2;rw [e] at this;exact QD _ this
  ·rw [W7];exact .inl (QU _ (by simp [Tr.grow]))
end
def WT (R:Str->Nat->Nat->Prop):List Str->Nat->Nat->Prop
 |[],i,j=>i=j
 |s::w,i,j=>∃m,R s i m∧WT R w m j
theorem Zeu:∀{w:List Str} {t:Tr} {k:Nat},TI t k->(∀s∈w,s∈Zs)->TI (w.foldl Tr.go t) (k+w.length)∧Sub t (w.foldl Tr.go t)∧((w.foldl Tr.go t).clash=false->WT (RT (w.foldl Tr.go t)) w t.here (w.foldl Tr.go t).here)
 |[],t,k,h,_=>⟨h,Sub.refl t,fun _=>rfl⟩
 |s::w,t,k,h,h9=>by
  obtain ⟨h1,h2,h3⟩:=Zn9 h (h9 s (by simp));obtain ⟨g1,g2,g3⟩:=Zeu (w:=w) h1 fun x hx=>h9 x (QC _ hx);refine ⟨by rw [QM,show k+(w.length+1)=k+1+w.length by omega];exact g1,h2.trans g2,fun hc=>⟨_,RT.mono g2 (h9 s (by simp)) (h3 (g2.cl hc)),g3 hc⟩⟩
theorem YQ (h:Ze i=Ze j):i=j:=by
 have:=QB (fun z:Str=>z.cps.toList) h;simp [Ze] at this;exact this
theorem Zdj:∀i,i<26->1≤(Ze i).length∧(Ze i).length≤8∧(Ze i).cps.toList.all Vo=true:=by trivial
theorem Jj (h:i<26):Nm (Ze i):=⟨(Zdj i h).1,(Zdj i h).2.1,(Zdj i h).2.2⟩
theorem Zca (i:Nat):Ze i≠"":=fun h=>by
 have:=QB (fun z:Str=>z.cps.toList.length) h;exact absurd this (by simp [Ze];trivial)
noncomputable def Ji (D:Int) (p:Nat×Nat):Ent:=.taken (Ze p.1) (Ze p.2) D
noncomputable def W2 (D:Int) (p:Nat×Nat):Ent:=.union (Ze p.1) (Ze p.2) D
noncomputable def YK (t:Tr) (ord:List Nat):List Ent:=ord.map (XV t)
noncomputable def Vg (t:Tr) (D:Int):List Ent:=t.tak.map (Ji D)++t.uni.map (W2 D)
structure OrdOk (t:Tr) (ord:List Nat):Prop where
 pm:ord.Perm (List.range t.days.length)
 up:ord.Pairwise fun a b=>t.days.getD a 0≤t.days.getD b 0
noncomputable def Z5 (t:Tr):List Str:=(List.range t.days.length).map Ze
section
variable {t:Tr} {k:Nat}
theorem OrdOk.nd (o:OrdOk t ord):ord.Nodup:=o.pm.nodup_iff.mpr List.nodup_range
theorem OrdOk.lt (o:OrdOk t ord):i∈ord↔i<t.days.length:=by rw [o.pm.mem_iff,R1]
theorem ZbU (h:i<t.days.length):Ze i∈Z5 t:=Qg.mpr ⟨i,R1.mpr h,rfl⟩
theorem JI (h:TI t k) {l:Str}:Yh t l i=""∨∃p,((l,i),p)∈t.par∧Yh t l i=Ze p:=by
 unfold Yh;cases hp:Vi t l i with
 |none=>exact .inl rfl
 |some p=>exact .inr ⟨p,(JP h).mp hp,rfl⟩
theorem Za4 (h:TI t k) {l:Str} {p:Nat} (m:((l,i),p)∈t.par):Yh t l i=Ze p:=by
 unfold Yh;rw [(JP h).mpr m]
theorem Zit (h:TI t k) (k24:k≤24) (hi:i<t.days.length):-10 ^ 18≤t.days.getD i 0∧t.days.getD i 0≤10 ^ 18:=by
 have:=h.bd (t.days.getD i 0) (by rw [QS,Qs hi];exact Gf hi);omega
theorem ZlO (h:TI t k) (hi:i<t.days.length):t.sorts.getD i ""="he"∨t.sorts.getD i ""="she"∨t.sorts.getD i ""="":=by
 have hi':i<t.sorts.length:=by rw [h.len];exact hi
 have:=h.ss (t.sorts.getD i "") (by rw [QS,Qs hi'];exact Gf hi');rcases this with e|e|e
 ·exact .inr (.inr e)
 ·exact .inl e
 ·exact .inr (.inl e)
theorem ZcI (h:TI t k) (k24:k≤24) (hc:t.clash=false) (o:OrdOk t ord):∀j,j≤ord.length->GdL (Z5 t) (YK t (ord.take j))
 |0,_=>by rw [List.take_zero];exact .nil
 |j+1,hj=>by
  have ih:=ZcI h k24 hc o j (by omega);have hx:ord[j]?=some ord[j]:=Qs (by omega);generalize ord[j]=x at hx;rw [RZ,hx];have xl:x<t.days.length:=o.lt.mp (QL hx);have n26:=h.n
  have ahead':∀{l:Str} {p:Nat},((l,x),p)∈t.par->p∈ord.take j∧p<t.days.length∧t.days.getD p 0<t.days.getD x 0∧t.sorts.getD p ""=ZZ l:=fun {l p} m=>by
   obtain ⟨_,p2,_,p4,p5⟩:=h.pn _ m;have p4:t.days.getD p 0=t.days.getD x 0-1:=p4;refine ⟨?_,p2,by omega,p5 hc⟩;have pm:p∈ord:=o.lt.mpr p2;obtain ⟨i,hi⟩:=List.getElem?_of_mem pm;have il:=(QE.mp hi).1;by_cases c:i<j
   ·exact QL (by rw [Ni c];exact hi)
   ·exfalso;by_cases e:i=j
    ·subst e;rw [hx] at hi;cases hi;omega
    ·have:=List.pairwise_iff_getElem.mp o.up j i (by omega) il (by omega);have e1:ord[j]=x:=by have:=Qs (l:=ord) (i:=j) (by omega);rw [hx] at this;exact (Qj this).symm
     have e2:ord[i]=p:=by have:=Qs (l:=ord) (i:=i) il;rw [hi] at this;exact (Qj this).symm
     rw [e1,e2] at this;omega
  have nmd:∀y∈(XV t x).named,∃l p,((l,x),p)∈t.par∧y=Ze p:=fun y hy=>by
   obtain ⟨h1,h2⟩:=Rx.mp hy;have h2:y≠"":=Q9 h2;have h1:y=Yh t "F" x∨y=Yh t "M" x:=by simpa using h1
   rcases h1 with e|e
   ·rcases JI h (l:="F") (i:=x) with z|⟨p,m,z⟩
    ·exact absurd (e.trans z) h2
    ·exact ⟨_,p,m,e.trans z⟩
   ·rcases JI h (l:="M") (i:=x) with z|⟨p,m,z⟩
    ·exact absurd (e.trans z) h2
    ·exact ⟨_,p,m,e.trans z⟩
  have pnm:∀l,Yh t l x=""∨Nm (Yh t l x):=fun l=>by
   rcases JI h (l:=l) (i:=x) with z|⟨p,m,z⟩
   ·exact .inl z
   ·rw [z];exact .inr (Jj (by have:=(h.pn _ m).2.1;omega))
  have bd:=Zit h k24 xl
  have d5:D5 (Z5 t) (XV t x):=⟨Znx (Jj (by omega)) (ZlO h xl) bd.1 bd.2 (pnm _) (pnm _),fun y hy=>by
   obtain ⟨l,p,m,rfl⟩:=nmd y hy;exact ZbU (h.pn _ m).2.1,fun y hy=>by cases hy;exact ZbU xl⟩
  have par:∀(l:Str),Yh t l x=""∨∃d' f' m',Ent.born (Yh t l x) (ZZ l) d' f' m'∈(YK t (ord.take j)).map Ent.told∧d'<t.days.getD x 0:=fun l=>by
   rcases JI h (l:=l) (i:=x) with z|⟨p,m,z⟩
   ·exact .inl z
   ·obtain ⟨m1,_,m3,m4⟩:=ahead' m;refine .inr ⟨t.days.getD p 0,Yh t "F" p,Yh t "M" p,Zaa.mpr (Qg.mpr ⟨p,m1,?_⟩),m3⟩;rw [z,←m4];rfl
  show GdL (Z5 t) (YK t (ord.take j++[x]));unfold YK;rw [Qv];refine .snoc ih d5 d5 ⟨fun y hy=>?_,fun y hy=>?_,fun n' s' d' f' m' z=>?_,fun c t' d' z=>(by cases z),rfl⟩
  ·obtain ⟨l,p,m,rfl⟩:=nmd y hy;obtain ⟨m1,_,m3,_⟩:=ahead' m;exact ⟨_,_,_,_,Zaa.mpr (Qg.mpr ⟨p,m1,rfl⟩),Int.le_of_lt m3⟩
  ·obtain ⟨y',hy',rfl⟩:=Qg.mp hy;obtain ⟨i,hi,rfl⟩:=Qg.mp hy';intro z
   have z':Ze i=Ze x:=by
    have:([.inr "born",.inr (Ze i)]:List Zl)=[.inr "born",.inr (Ze x)]:=z;simpa using this
   obtain rfl:=YQ z';have nd:=o.nd;obtain ⟨a,ha⟩:=List.getElem?_of_mem hi;have al:=(QE.mp ha).1;rw [Q6] at al;rw [Ni (by omega)] at ha;have:=(List.getElem?_inj (by omega) nd).mp (ha.trans hx.symm);omega
  ·cases z;exact ⟨par "F",par "M"⟩
theorem ZaB (o:OrdOk t ord):Ent.born n s d f m∈YK t ord↔∃i,i<t.days.length∧XV t i=.born n s d f m:=by
 constructor
 ·intro h;obtain ⟨i,hi,e⟩:=Qg.mp h;exact ⟨i,o.lt.mp hi,e⟩
 ·rintro ⟨i,hi,e⟩;exact Qg.mpr ⟨i,o.lt.mpr hi,e⟩
theorem ZiG {a b c d:Nat} (ab:a<b) (cd:c<d) (h:Zf (Ze a) (Ze b)=Zf (Ze c) (Ze d)):a=c∧b=d:=by
 unfold Zf at h;split at h<;>split at h<;>(injection h with h1 h2)<;>have h1:=YQ h1<;>have h2:=YQ h2<;>omega
theorem ZpK (h:TI t k) (k24:k≤24) (hc:t.clash=false) (o:OrdOk t ord) {D:Int} (hD:∀d∈t.days,d≤D) (D2:D≤10 ^ 18):GdL (Z5 t) (YK t ord++Vg t D):=by
 have g:=ZcI h k24 hc o ord.length (Qe _);rw [Q8] at g;have n26:=h.n;have dle:∀{i},i<t.days.length->t.days.getD i 0≤D:=fun {i} hi=>hD _ (by rw [QS,Qs hi];exact Gf hi);have D1:-10 ^ 18≤D:=Int.le_trans (Zit h k24 h.he).1 (dle h.he);have kn:∀{i},i<t.days.length->∃s d f m,Ent.born (Ze i) s d f m∈YK t ord∧d≤D:=fun {i} hi=>⟨_,_,_,_,(ZaB o).mpr ⟨i,hi,rfl⟩,dle hi⟩;refine GdL.more g (fun n s d f m=>Q2) (fun e he=>?_) ?_
 ·rcases Ql.mp he with he|he
  ·obtain ⟨p,hp,rfl⟩:=Qg.mp he;obtain ⟨p1,p2,p3⟩:=h.tk p hp;have tw:=Zh2 (Jj (show p.1<26 by omega)) (Jj (show p.2<26 by omega)) D1 D2;refine ⟨rfl,tw.1,tw.1,fun n hn=>?_,fun c t' d z sc dc fc mc st dt ft mt h1 h2=>?_,?_⟩
   ·have:n=Ze p.1∨n=Ze p.2:=by simpa [Ji,Ent.named] using hn
    rcases this with rfl|rfl
    ·exact kn p1
    ·exact kn p2
   ·cases z;obtain ⟨i,_,e1⟩:=(ZaB o).mp h1;obtain ⟨j,_,e2⟩:=(ZaB o).mp h2;have a1:Ze i=Ze p.1:=by injection e1
    have a2:Ze j=Ze p.2:=by injection e2
    have b1:t.days.getD i 0=dc:=by injection e1
    have b2:t.days.getD j 0=dt:=by injection e2
    rw [YQ a1] at b1;rw [YQ a2] at b2;omega
   ·show decide (Ze p.1=Ze p.2)=false;refine Qr fun z=>?_;rw [YQ z] at p3;omega
  ·obtain ⟨p,hp,rfl⟩:=Qg.mp he;obtain ⟨p1,p2⟩:=h.un p hp;have tw:=Zh2 (Jj (show p.1<26 by omega)) (Jj (show p.2<26 by omega)) D1 D2;refine ⟨rfl,tw.2.1,tw.2.2.1,fun n hn=>?_,fun c t' d z=>(by cases z),?_⟩
   ·have:n=Ze p.1∨n=Ze p.2:=by simpa [W2,Ent.named] using hn
    rcases this with rfl|rfl
    ·exact kn (by omega)
    ·exact kn p2
   ·show decide (Ze p.1=Ze p.2)=false;refine Qr fun z=>?_;have:=YQ z;omega
 ·rw [Qv,QZ];refine ⟨g.keys,?_,fun a ha b hb e=>?_⟩
  ·unfold Vg;rw [Qv,QZ];refine ⟨?_,?_,fun a ha b hb e=>?_⟩
   ·rw [QR];refine Gg.mpr (h.tnd.imp fun {a b} ne z=>ne ?_);have z:([.inr "taken",.inr (Ze a.1),.inr (Ze a.2)]:List Zl)=[.inr "taken",.inr (Ze b.1),.inr (Ze b.2)]:=z;have z1:Ze a.1=Ze b.1∧Ze a.2=Ze b.2:=by simpa using z
    exact Rg (YQ z1.1) (YQ z1.2)
   ·rw [QR];refine Gg.mpr (h.und.imp_of_mem fun {a b} ha hb ne z=>ne ?_);have z:([.inr "tie",.inr (Zf (Ze a.1) (Ze a.2)).1,.inr (Zf (Ze a.1) (Ze a.2)).2,.inl D]:List Zl)=[.inr "tie",.inr (Zf (Ze b.1) (Ze b.2)).1,.inr (Zf (Ze b.1) (Ze b.2)).2,.inl D]:=z;have z1:(Zf (Ze a.1) (Ze a.2)).1=(Zf (Ze b.1) (Ze b.2)).1∧(Zf (Ze a.1) (Ze a.2)).2=(Zf (Ze b.1) (Ze b.2)).2:=by simpa using z
    have:=ZiG (h.un a ha).1 (h.un b hb).1 (Rg z1.1 z1.2);exact Rg this.1 this.2
   ·obtain ⟨x,hx,rfl⟩:=Qg.mp ha;obtain ⟨y,hy,rfl⟩:=Qg.mp hb;obtain ⟨p,_,rfl⟩:=Qg.mp hx;obtain ⟨q,_,rfl⟩:=Qg.mp hy;have:=(RG e).1;exact absurd (R0 this) (by trivial)
  ·obtain ⟨x,hx,rfl⟩:=Qg.mp ha;obtain ⟨y,hy,rfl⟩:=Qg.mp hb;obtain ⟨i,_,rfl⟩:=Qg.mp hx;rcases Ql.mp hy with hy|hy
   ·obtain ⟨q,_,rfl⟩:=Qg.mp hy;have:=(RG e).1;exact absurd (R0 this) (by trivial)
   ·obtain ⟨q,_,rfl⟩:=Qg.mp hy;have:=(RG e).1;exact absurd (R0 this) (by trivial)
end
noncomputable def JC (t:Tr) (D:Int):LsT:=t.uni.map fun p=>(Zf (Ze p.1) (Ze p.2),0,D,"union")
noncomputable def Yd (t:Tr) (ord:List Nat) (D:Int):List Ent:=YK t ord++Vg t D
noncomputable def FT (t:Tr) (ord:List Nat) (D:Int):ZN:=(JC t D).foldl Us (Vs (Yd t ord D))
theorem Zhf:∀{l:List Ent} {g:Str×Str->Option (Int×Str)},(∀e∈l,e.tie=false)->l.foldl Xr g=g
 |[],g,_=>rfl
 |e::l,g,h=>by
  rw [Q7,Zhf fun x hx=>h x (QC _ hx)]
  funext c
  unfold Xr;rw [Qa (fun z=>by rw [h e (by simp)] at z;cases z.1)]
theorem Zga {D:Int}:∀(us:List (Nat×Nat)) (g:Str×Str->Option (Int×Str)),(∀c,g c=none∨g c=some (D,("union" : Str)))->∀c,(us.map (W2 D)).foldl Xr g c=if g c=none then (ZD c (us.map fun p=>(Zf (Ze p.1) (Ze p.2),(0:Addr),D,("union" : Str)))).map (·.2) else g c
 |[],g,hg,c=>by
  rcases hg c with h|h
  ·rw [Qb h];exact h
  ·rw [Qa (by rw [h];simp)];rfl
 |p::us,g,hg,c=>by
  have st:∀c,Xr g (W2 D p) c=if c=Zf (Ze p.1) (Ze p.2) then some (D,("union" : Str)) else g c:=fun c=>by
   unfold Xr;by_cases e:c=Zf (Ze p.1) (Ze p.2)
   ·rw [Qb ⟨rfl,e⟩,Qb e];rcases hg c with h|h
    ·rw [h];rfl
    ·rw [h];show (if D<D then _ else _)=_;rw [Qa (Int.lt_irrefl _)]
   ·rw [Qa (fun z=>e z.2),Qa e]
  have hg':∀c,Xr g (W2 D p) c=none∨Xr g (W2 D p) c=some (D,("union" : Str)):=fun c=>by
   rw [st c];by_cases e:c=Zf (Ze p.1) (Ze p.2)
   ·rw [Qb e];exact .inr rfl
   ·rw [Qa e];exact hg c
  rw [Qx,Q7,Zga us _ hg' c,st c,Qx];unfold ZD;by_cases e:c=Zf (Ze p.1) (Ze p.2)
  ·rw [Qb e,Qa (by simp),Qb e.symm];rcases hg c with h|h
   ·rw [Qb h];rfl
   ·rw [Qa (by rw [h];simp),h]
  ·rw [Qa e,Qa (show ¬(Zf (Ze p.1) (Ze p.2),(0:Addr),D,("union" : Str)).1=c from fun z=>e z.symm)];cases us<;>rfl
theorem ZjO (t:Tr) (ord:List Nat) (D:Int) (c:Str×Str):(ZD c (JC t D)).map (·.2)=WN (Yd t ord D) c:=by
 unfold WN Yd Vg
 rw [←R7,NG,Zhf (l:=YK t ord++t.tak.map (Ji D)) (fun e he=>by
  rcases Ql.mp he with h|h
  ·obtain ⟨i,_,rfl⟩:=Qg.mp h;rfl
  ·obtain ⟨i,_,rfl⟩:=Qg.mp h;rfl),show (t.uni.map (W2 D)).foldl Xr (fun _=>none) c=_ from Zga _ _ (fun _=>.inl rfl) c,Qb rfl]
 rfl
section
variable {t:Tr} {k:Nat} {D:Int}
theorem Zju (h:TI t k):((JC t D).map (·.1)).Nodup:=by
 unfold JC;rw [QR];refine Gg.mpr (h.und.imp_of_mem fun {a b} ha hb ne z=>ne ?_);have:=ZiG (h.un a ha).1 (h.un b hb).1 z;exact Rg this.1 this.2
theorem VB (o:OrdOk t ord):Ent.born n s d f m∈Yd t ord D↔∃i,i<t.days.length∧XV t i=.born n s d f m:=by
 rw [←ZaB o];unfold Yd;rw [Ql];refine ⟨fun h=>h.elim id fun h=>?_,.inl⟩;rcases Ql.mp h with h|h
 ·obtain ⟨p,_,e⟩:=Qg.mp h;cases e
 ·obtain ⟨p,_,e⟩:=Qg.mp h;cases e
theorem Za9 {c x:Str}:Ent.taken c x d∈Yd t ord D↔∃p∈t.tak,c=Ze p.1∧x=Ze p.2∧d=D:=by
 unfold Yd Vg;rw [Ql,Ql];constructor
 ·rintro (h|h|h)
  ·obtain ⟨p,_,e⟩:=Qg.mp h;cases e
  ·obtain ⟨p,hp,e⟩:=Qg.mp h;cases e;exact ⟨p,hp,rfl,rfl,rfl⟩
  ·obtain ⟨p,_,e⟩:=Qg.mp h;cases e
 ·rintro ⟨p,hp,rfl,rfl,rfl⟩;exact .inr (.inl (Qg.mpr ⟨p,hp,rfl⟩))
theorem ZfK (h:TI t k) {l:Str} {x:Str} (ne:x≠""):Yh t l i=x↔∃p,((l,i),p)∈t.par∧x=Ze p:=by
 constructor
 ·intro e;rcases JI h (l:=l) (i:=i) with z|⟨p,m,z⟩
  ·exact absurd (e.symm.trans z) ne
  ·exact ⟨p,m,e.symm.trans z⟩
 ·rintro ⟨p,m,rfl⟩;exact Za4 h m
theorem ZlA (h:TI t k) (o:OrdOk t ord) (so:ZcZ (Yd t ord D)) (hs:s∈Zs) (hi:i<t.days.length) (x:Str):x∈FT t ord D (s,Ze i)↔∃j,j<t.days.length∧x=Ze j∧RT t s i j:=by
 have ne:=fun {l:Str} (hl:l∈XC)=>ZiM so hl
 have six:∀{l:Str} {ad:Str->Ent->List Str},¬l="S"->(∀e∈Yd t ord D,∀f:ZN,YG f e (l,Ze i)=f (l,Ze i)++ad (Ze i) e)->(x∈FT t ord D (l,Ze i)↔∃e∈Yd t ord D,x∈ad (Ze i) e):=fun {l ad} nS st=>by
  unfold FT;rw [J2 nS,Zbs st,List.mem_flatMap]
 have up:∀{l:Str} (hl:l="F"∨l="M") {ad:Str->Ent->List Str},(∀n' s d f m,ad (Ze i) (.born n' s d f m)=if n'=Ze i∧(if l="F" then f else m)≠"" then [if l="F" then f else m] else [])->(∀e,e.isBorn=false->ad (Ze i) e=[])->((∃e∈Yd t ord D,x∈ad (Ze i) e)↔∃j,j<t.days.length∧x=Ze j∧RT t l i j):=fun {l} hl {ad} a1 a2=>by
  constructor
  ·rintro ⟨e,he,hx⟩;cases hb:e.isBorn with
   |false=>rw [a2 e hb] at hx;cases hx
   |true =>
    cases e with
    |born n' s' d' f' m' =>
     rw [a1] at hx;by_cases c:n'=Ze i∧(if l="F" then f' else m')≠""
     ·rw [Qb c] at hx;obtain ⟨i',hi',e⟩:=(VB o).mp he;have hx:x=if l="F" then f' else m':=QG.mp hx;have en:Ze i'=n':=by injection e
      have ef:Yh t "F" i'=f':=by injection e
      have em:Yh t "M" i'=m':=by injection e
      obtain rfl:=YQ (en.trans c.1)
      have hx2:Yh t l i'=x:=by
       rw [hx];rcases hl with rfl|rfl
       ·rw [Qb rfl];exact ef
       ·rw [Qa (by trivial)];exact em
      obtain ⟨p,m,rfl⟩:=(ZfK h (by rw [hx];exact c.2)).mp hx2;exact ⟨p,(h.pn _ m).2.1,rfl,(W5 hl).mpr m⟩
     ·rw [Qa c] at hx;cases hx
    |_=>cases hb
  ·rintro ⟨j,hj,rfl,r⟩;have m:=(W5 hl).mp r;refine ⟨XV t i,(VB o).mpr ⟨i,hi,rfl⟩,?_⟩
   have e:(if l="F" then Yh t "F" i else Yh t "M" i)=Ze j:=by
    rcases hl with rfl|rfl
    ·rw [Qb rfl];exact Za4 h m
    ·rw [Qa (by trivial)];exact Za4 h m
   show Ze j∈ad (Ze i) (.born (Ze i) _ _ _ _);rw [a1,e,Qb ⟨rfl,Zca j⟩];simp
 have dn:∀{l:Str} (hl:l="f"∨l="m") {ad:Str->Ent->List Str},(∀n' s d f m,ad (Ze i) (.born n' s d f m)=if (if l="f" then f else m)=Ze i∧(if l="f" then f else m)≠"" then [n'] else [])->(∀e,e.isBorn=false->ad (Ze i) e=[])->((∃e∈Yd t ord D,x∈ad (Ze i) e)↔∃j,j<t.days.length∧x=Ze j∧RT t l i j):=fun {l} hl {ad} a1 a2=>by
  have pe:∀i',(if l="f" then Yh t "F" i' else Yh t "M" i')=Yh t (ZG l) i':=fun i'=>by
   rcases hl with rfl|rfl
   ·rw [Qb rfl];rfl
   ·rw [Qa (by trivial)];rfl
  constructor
  ·rintro ⟨e,he,hx⟩;cases hb:e.isBorn with
   |false=>rw [a2 e hb] at hx;cases hx
   |true =>
    cases e with
    |born n' s' d' f' m' =>
     rw [a1] at hx;by_cases c:(if l="f" then f' else m')=Ze i∧(if l="f" then f' else m')≠""
     ·rw [Qb c] at hx;obtain ⟨i',hi',e⟩:=(VB o).mp he;have hx:x=n':=QG.mp hx;have en:Ze i'=n':=by injection e
      have ef:Yh t "F" i'=f':=by injection e
      have em:Yh t "M" i'=m':=by injection e
      rw [←ef,←em,pe] at c;obtain ⟨p,m,e2⟩:=(ZfK h (Zca i)).mp c.1;obtain rfl:=YQ e2;exact ⟨i',hi',hx.trans en.symm,(Js hl).mpr m⟩
     ·rw [Qa c] at hx;cases hx
    |_=>cases hb
  ·rintro ⟨j,hj,rfl,r⟩;have m:=(Js hl).mp r;refine ⟨XV t j,(VB o).mpr ⟨j,hj,rfl⟩,?_⟩;show Ze j∈ad (Ze i) (.born (Ze j) _ _ _ _);rw [a1,pe,Za4 h m,Qb ⟨rfl,Zca i⟩];simp
 have nb:∀{P:Ent->Prop},(∀c x d,P (.taken c x d))->(∀a b d,P (.union a b d))->(∀a b d,P (.parted a b d))->(∀n d,P (.dead n d))->(∀g x a d,P (.given g x a d))->∀e,e.isBorn=false->P e:=fun h1 h2 h3 h4 h5 e he=>by
  cases e with
  |born=>cases he
  |taken=>exact h1 ..
  |union=>exact h2 ..
  |parted=>exact h3 ..
  |dead=>exact h4 ..
  |given=>exact h5 ..
 have zero:∀e:Ent,e.isBorn=false->Vn (Ze i) e=[]∧W6 (Ze i) e=[]∧W8 (Ze i) e=[]∧Vm (Ze i) e=[]:=fun e he=>by
  cases e with
  |born=>cases he
  |_=>exact ⟨rfl,rfl,rfl,rfl⟩
 simp only [Zs,Qh,QJ,QK] at hs;rcases hs with rfl|rfl|rfl|rfl|rfl|rfl|rfl|hh|hh
 ·rw [six (ad:=Vn) (by trivial) fun e he f=>Zih f e _ (ne (by trivial) e he)];exact up (.inl rfl) (fun _ _ _ _ _=>rfl) fun e he=>(zero e he).1
 ·rw [six (ad:=W6) (by trivial) fun e he f=>Zg2 f e _ (ne (by trivial) e he)];exact up (.inr rfl) (fun _ _ _ _ _=>rfl) fun e he=>(zero e he).2.1
 ·rw [six (ad:=addT) (by trivial) fun e he f=>Zf3 f e _ (ne (by trivial) e he)];constructor
  ·rintro ⟨e,he,hx⟩;cases e with
   |taken c y d =>
    obtain ⟨p,hp,rfl,rfl,_⟩:=Za9.mp he;have hx2:x∈if Ze p.1=Ze i then [Ze p.2] else []:=hx;by_cases e1:Ze p.1=Ze i
    ·rw [Qb e1] at hx2;obtain rfl:=YQ e1;exact ⟨p.2,(h.tk p hp).2.1,QG.mp hx2,VC.mpr hp⟩
    ·rw [Qa e1] at hx2;cases hx2
   |_=>cases hx
  ·rintro ⟨j,hj,rfl,r⟩;refine ⟨.taken (Ze i) (Ze j) D,Za9.mpr ⟨(i,j),VC.mp r,rfl,rfl,rfl⟩,?_⟩;show Ze j∈if Ze i=Ze i then [Ze j] else [];rw [Qb rfl];simp
 ·rw [six (ad:=W8) (by trivial) fun e he f=>Ze1 f e _ (ne (by trivial) e he)];exact dn (.inl rfl) (fun _ _ _ _ _=>rfl) fun e he=>(zero e he).2.2.1
 ·rw [six (ad:=Vm) (by trivial) fun e he f=>ZgK f e _ (ne (by trivial) e he)];exact dn (.inr rfl) (fun _ _ _ _ _=>rfl) fun e he=>(zero e he).2.2.2
 ·rw [six (ad:=Vy) (by trivial) fun e he f=>ZeZ f e _ (ne (by trivial) e he)];constructor
  ·rintro ⟨e,he,hx⟩;cases e with
   |taken c y d =>
    obtain ⟨p,hp,rfl,rfl,_⟩:=Za9.mp he;have hx2:x∈if Ze p.2=Ze i then [Ze p.1] else []:=hx;by_cases e1:Ze p.2=Ze i
    ·rw [Qb e1] at hx2;obtain rfl:=YQ e1;exact ⟨p.1,(h.tk p hp).1,QG.mp hx2,Jf.mpr hp⟩
    ·rw [Qa e1] at hx2;cases hx2
   |_=>cases hx
  ·rintro ⟨j,hj,rfl,r⟩;refine ⟨.taken (Ze j) (Ze i) D,Za9.mpr ⟨(j,i),Jf.mp r,rfl,rfl,rfl⟩,?_⟩;show Ze j∈if Ze i=Ze i then [Ze j] else [];rw [Qb rfl];simp
 ·have eS:Vs (Yd t ord D) ("S",Ze i)=[]:=by
   rw [Zbs (ad:=fun _=>[]) fun e he f=>Zix f e _ (ne (by trivial) e he)];simp
  unfold FT;rw [Zds,eS];constructor
  ·rintro (z|⟨q,hq,_,hx⟩)
   ·cases z
   ·obtain ⟨p,hp,rfl⟩:=Qg.mp hq;obtain ⟨p1,p2⟩:=h.un p hp;have hx:Zf (Ze p.1) (Ze p.2)=(Ze i,x)∨Zf (Ze p.1) (Ze p.2)=(x,Ze i):=hx
    have hx:(Ze p.1=Ze i∧Ze p.2=x)∨(Ze p.2=Ze i∧Ze p.1=x):=by
     unfold Zf at hx;split at hx
     ·rcases hx with z|z
      ·injection z with a b;exact .inr ⟨a,b⟩
      ·injection z with a b;exact .inl ⟨b,a⟩
     ·rcases hx with z|z
      ·injection z with a b;exact .inl ⟨a,b⟩
      ·injection z with a b;exact .inr ⟨b,a⟩
    rcases hx with ⟨a,b⟩|⟨a,b⟩
    ·obtain rfl:=YQ a;exact ⟨p.2,p2,b.symm,W7.mpr (.inl hp)⟩
    ·obtain rfl:=YQ a;exact ⟨p.1,by omega,b.symm,W7.mpr (.inr hp)⟩
  ·rintro ⟨j,hj,rfl,r⟩;rcases W7.mp r with m|m
   ·refine .inr ⟨_,Qg.mpr ⟨(i,j),m,rfl⟩,rfl,?_⟩;show Zf (Ze i) (Ze j)=(Ze i,Ze j)∨Zf (Ze i) (Ze j)=(Ze j,Ze i);unfold Zf;split<;>simp
   ·refine .inr ⟨_,Qg.mpr ⟨(j,i),m,rfl⟩,rfl,?_⟩;show Zf (Ze j) (Ze i)=(Ze i,Ze j)∨Zf (Ze j) (Ze i)=(Ze j,Ze i);unfold Zf;split<;>simp
 all_goals
  have c:s="he"∨s="she":=by first|exact .inl hh|exact .inr hh
  have nS:¬s="S":=by rcases c with rfl|rfl<;>trivial
  unfold FT;rw [J2 nS,Zim c];constructor
  ·rintro ⟨rfl,d,f,m,hb⟩;obtain ⟨i',hi',e⟩:=(VB o).mp hb;have en:Ze i'=Ze i:=by injection e
   have es:t.sorts.getD i' ""=s:=by injection e
   obtain rfl:=YQ en;exact ⟨i',hi',rfl,(UX c).mpr ⟨rfl,es⟩⟩
  ·rintro ⟨j,hj,rfl,r⟩;obtain ⟨rfl,e⟩:=(UX c).mp r;exact ⟨rfl,_,_,_,(VB o).mpr ⟨i,hi,by rw [←e];rfl⟩⟩
end
structure BT (t:Tr) (B:Bk):Prop where
 kn:∀i,i<t.days.length->Known B (Ze i)
 led:∀s∈Zs,∀i,i<t.days.length->∀x,x∈Yu B s (Ze i)↔∃j,j<t.days.length∧x=Ze j∧RT t s i j
 clo:Clo B (Z5 t)
 bn:(YV B.kept).Perm (Z5 t)
 lb:∀l n,(Yn B l n).length≤t.days.length+t.tak.length+t.uni.length
 so:∀i,i<t.days.length->Wa B (Ze i)=t.sorts.getD i ""
noncomputable def ft (k bi li ti su:Addr) (B:Bk):List Addr:=[k,bi,li,ti,su]++B.ties.map (·.2.1)
def VG (H:Hp) (c:Addr):Prop:=∀u,noX u=true->H c≠some u
theorem Jh {Hc:Hp} {c:Addr} (sx:SameX H Hc) (h:Hc c=none):VG H c:=fun u nu e=>by rw [sx c u nu e] at h;cases h
section
variable {Hs:Hp} {k y:Addr}
theorem Zdp (bt:But [k,bi,li,ti,su,y] H H') (hy:H y=none∨y=bi∨y∈B.ties.map (·.2.1)) (gr:GrowsT H B.ties B'.ties) (sc:SameX Hs H) (fs:∀c∈ft k bi li ti su B,VG Hs c):SameX Hs H'∧∀c∈ft k bi li ti su B',VG Hs c:=by
 refine ⟨fun c u nu e=>bt.eq c u (fun m=>?_) (sc c u nu e),fun c m=>?_⟩
 ·have no:c∉ft k bi li ti su B:=fun z=>fs c z u nu e;have m5:c∈[k,bi,li,ti,su]++[y]:=m;rcases Ql.mp m5 with z|z
  ·exact no (Rc _ z)
  obtain rfl:=QG.mp z;rcases hy with z|z|z
  ·rw [sc c u nu e] at z;cases z
  ·exact no (Rc _ (by rw [z];simp))
  ·exact no (QU _ z)
 ·rcases Ql.mp m with z|z
  ·exact fs c (Rc _ z)
  ·rcases gr c z with z|z
   ·exact fs c (QU _ z)
   ·exact Jh sc z
end
theorem ZoH {k:Addr} (nb:H b=none) (ndx:H dx=none) (keep:∀c o,Zc (Zc H dx (.own b)) b (.ins C dx []) c=some o->c≠b->H' c=some o)
 (n1:Zc (Zc H dx (.own b)) b (.ins C dx []) k=none) (n2:Zc (Zc H dx (.own b)) b (.ins C dx []) bi=none) (n3:Zc (Zc H dx (.own b)) b (.ins C dx []) li=none) (n4:Zc (Zc H dx (.own b)) b (.ins C dx []) ti=none) (n5:Zc (Zc H dx (.own b)) b (.ins C dx []) su=none) :
  Same H H'∧∀c∈ft k bi li ti su Vr,VG H c:=by
 have sb:Same H (Zc (Zc H dx (.own b)) b (.ins C dx [])):=fun c o e=>by rw [Zd (ZA e nb),Zd (ZA e ndx)];exact e
 refine ⟨fun c o e=>keep c o (sb c o e) (ZA e nb),fun c m=>?_⟩
 have m':c=k∨c=bi∨c=li∨c=ti∨c=su:=by
  have e:ft k bi li ti su Vr=[k,bi,li,ti,su]:=rfl;rw [e] at m;simpa using m
 rcases m' with rfl|rfl|rfl|rfl|rfl
 ·exact Jh sb.x n1
 ·exact Jh sb.x n2
 ·exact Jh sb.x n3
 ·exact Jh sb.x n4
 ·exact Jh sb.x n5
theorem TrAt.monoX {o tl:Addr} {t:Tr} (h:TrAt C H o dx dl sl pl tl ul t) (s:SameX H H'):TrAt C H' o dx dl sl pl tl ul t:=by
 obtain ⟨vs,h1,h2⟩:=h.ta;obtain ⟨us,h3,h4⟩:=h.un;exact ⟨s _ _ rfl h.ob,h.ap,s _ _ rfl h.da,s _ _ rfl h.so,s _ _ rfl h.pa,⟨vs,s _ _ rfl h1,h2.mono fun a xs e=>s _ _ rfl e⟩,us,s _ _ rfl h3,h4.mono fun a xs e=>s _ _ rfl e⟩
theorem Lams.but {P:Addr} {Hs:Hp} (l:Lams P Hs H) (b:But S H H') (n:∀c∈S,∀φ,H c≠some (.ext φ)):Lams P Hs H':=fun P2 ln co q ne h=>LamH.but (l P2 ln co q ne h) b n
theorem ZnV {n:Nat} {zs:List Int} (h:zs.Perm ((List.range n).map fun i:Nat=>(i:Int))):∃ord:List Nat,zs=ord.map (fun i:Nat=>(i:Int))∧ord.Perm (List.range n):=by
 refine ⟨zs.map Int.toNat,?_,?_⟩
 ·rw [QR]
  have e:∀z∈zs,((fun i:Nat=>(i:Int))∘Int.toNat) z=z:=fun z hz=>by
   obtain ⟨i,_,rfl⟩:=Qg.mp (h.mem_iff.mp hz);rfl
  exact ((Gx e).trans (List.map_id' zs)).symm
 ·have:=h.map Int.toNat;rw [QR] at this;exact this.trans (by rw [show (Int.toNat∘fun i:Nat=>(i:Int))=id from funext fun i=>R4 i,List.map_id])
theorem ZgY (h:es[i]?=some e):es.take (i+1)=es.take i++[e]:=by rw [RZ,h];rfl
theorem Zbt (t:Tr) (ord:List Nat) (D:Int):(Yd t ord D).length=ord.length+(t.tak.length+t.uni.length):=by
 unfold Yd YK Vg;rw [Qq,Qq,Qc,Qc,Qc]
theorem Zos {t:Tr} {D:Int} (h:t.tak[i]?=some p):(Yd t ord D)[ord.length+i]?=some (Ji D p):=by
 unfold Yd Vg YK;rw [Rn (by rw [Qc];omega),Qc,show ord.length+i-ord.length=i by omega,RQ (by rw [Qc];exact (QE.mp h).1),Qo,h];rfl
theorem Zl2 {t:Tr} {D:Int} (h:t.uni[i]?=some p):(Yd t ord D)[ord.length+t.tak.length+i]?=some (W2 D p):=by
 unfold Yd Vg YK;rw [Rn (by rw [Qc];omega),Qc,show ord.length+t.tak.length+i-ord.length=t.tak.length+i by omega,Rn (by rw [Qc];omega),Qc,show t.tak.length+i-t.tak.length=i by omega,Qo,h];rfl
theorem Zok (t:Tr) (ord:List Nat) (D:Int):(Yd t ord D).take ord.length=YK t ord:=by
 unfold Yd;exact List.take_left' (by unfold YK;rw [Qc])
theorem ZpG {t:Tr} {D:Int} (o:OrdOk t ord) (hk:B.kept.map (·.1)=(Yd t ord D).map Ent.told):(YV B.kept).Perm (Z5 t):=by
 have e1:YV B.kept=(B.kept.map (·.1)).filterMap Ent.bornName:=by unfold YV;rw [RB];rfl
 have e2:(Ent.bornName∘Ent.told)=Ent.bornName:=funext ZeC;have e3:(ord.map (XV t)).filterMap Ent.bornName=ord.map Ze:=by rw [RB,show (Ent.bornName∘XV t)=fun i=>some (Ze i) from rfl,←List.filterMap_eq_map];rfl
 have e4:(Vg t D).filterMap Ent.bornName=[]:=by
  rw [List.filterMap_eq_nil_iff];intro e he;rcases Ql.mp he with he|he
  ·obtain ⟨p,_,rfl⟩:=Qg.mp he;rfl
  ·obtain ⟨p,_,rfl⟩:=Qg.mp he;rfl
 rw [e1,hk,RB,e2];unfold Yd YK;rw [RX,e3,e4,Qt];exact o.pm.map Ze
theorem ZmF {t:Tr} {k:Nat} {D:Int} (li:LI5 (Z5 t) B B.kept) (hk:B.kept.map (·.1)=(Yd t ord D).map Ent.told) (h:TI t k) (k24:k≤24) (o:OrdOk t ord) (l:Str) (n:Str):(Yn B l n).length≤t.days.length+t.tak.length+t.uni.length:=by
 show (lk B.links (l,n)).length≤_;rw [li.st.lks];refine Qn (ZhW li.ap' _) ?_;rw [hk,Qc,Zbt,o.pm.length_eq,QW];omega
theorem Jn.tree {t:Tr} {k:Nat} {D:Int} (h:TI t k) (k24:k≤24) (o:OrdOk t ord) (gd:GdL (Z5 t) (Yd t ord D)) (li:LI5 (Z5 t) B B.kept) (hk:B.kept.map (·.1)=(Yd t ord D).map Ent.told):BT t B:=by
 have j:Jn (Z5 t) B (Yd t ord D) (JC t D) (FT t ord D):=⟨li,hk,gd,Zju h,ZjO t ord D,fun c=>rfl⟩;have kn:∀i,i<t.days.length->Known B (Ze i):=fun i hi=>(j.known ((VB o).mpr ⟨i,hi,rfl⟩)).1;refine ⟨kn,fun s hs i hi x=>(j.step hs (kn i hi) x).trans (ZlA h o (Zic gd) hs hi x),j.clo ?_,ZpG o hk,ZmF li hk h k24 o,fun i hi=>(j.known ((VB o).mpr ⟨i,hi,rfl⟩)).2⟩;unfold Z5;rw [Qc,QW];have:=h.n;omega
theorem ZoR (t:Tr) (hs:s∈Zs):(t.go s).tak.length+(t.go s).uni.length≤t.tak.length+t.uni.length+1:=by
 rcases Ua hs with c|c|c|rfl|rfl|rfl
 ·rw [Zba t c,(XH t t.here s).2.2.1,(XH t t.here s).2.2.2.1];omega
 ·rw [Zbm t c];unfold Tr.goUp;split
  ·show t.tak.length+t.uni.length≤_;omega
  ·show (Tr.ask _ _ _).tak.length+(Tr.ask _ _ _).uni.length≤_;rw [(XH _ _ _).2.2.1,(XH _ _ _).2.2.2.1];show t.tak.length+t.uni.length≤_;omega
 ·rw [ZaF t c];show (Tr.ask _ _ _).tak.length+(Tr.ask _ _ _).uni.length≤_;rw [(XH _ _ _).2.2.1,(XH _ _ _).2.2.2.1];omega
 ·rw [Zcu];show (t.tak++[_]).length+t.uni.length≤_;rw [Qq];simp;omega
 ·rw [ZbR];show (t.tak++[_]).length+t.uni.length≤_;rw [Qq];simp;omega
 ·rw [Zcq];show t.tak.length+(t.uni++[_]).length≤_;rw [Qq];simp;omega
theorem ZeE:∀{w:List Str} {t:Tr},(∀s∈w,s∈Zs)->(w.foldl Tr.go t).tak.length+(w.foldl Tr.go t).uni.length≤t.tak.length+t.uni.length+w.length
 |[],t,_=>Qe _
 |s::w,t,h=>by
  have h1:=ZoR t (h s (by simp));have h2:=ZeE (w:=w) (t:=t.go s) fun x hx=>h x (QC _ hx);rw [Q7,QM];omega
theorem Zah {w:List Str} (h9:∀s∈w,s∈Zs):TI (Z2 w) w.length:=by
 have:=(Zeu TI.start h9).1;rw [Nat.zero_add] at this;exact this
theorem Zo2 {w:List Str} (h9:∀s∈w,s∈Zs):(Z2 w).tak.length+(Z2 w).uni.length≤w.length:=by
 have:=ZeE (t:=U5) h9;rw [show U5.tak.length+U5.uni.length+w.length=w.length from Nat.zero_add _] at this;exact this
def Xc (a b:List Str):Prop:=(Z2 a).clash=true∨WT (RT (Z2 a)) b 0 (Z2 a).here
theorem RT.lt {t:Tr} {k:Nat} (h:TI t k) (hs:s∈Zs) (hi:i<t.days.length) (r:RT t s i j):j<t.days.length:=by
 rcases Ua hs with c|c|c|rfl|rfl|rfl
 ·rw [UX c] at r;rw [←r.1];exact hi
 ·rw [W5 c] at r;exact (h.pn _ r).2.1
 ·rw [Js c] at r;exact (h.pn _ r).1
 ·rw [VC] at r;exact (h.tk _ r).2.1
 ·rw [Jf] at r;exact (h.tk _ r).1
 ·rw [W7] at r;rcases r with r|r
  ·exact (h.un _ r).2
  ·exact Nat.lt_trans (h.un _ r).1 (h.un _ r).2
theorem Zh4 {t:Tr} {B:Bk} (bt:BT t B):∀{w:List Str} {P:Str->Prop} {S:Nat->Prop},(∀s∈w,s∈Zs)->(∀x,P x↔∃i,i<t.days.length∧x=Ze i∧S i)->∀y,X0 (Yu B) w P y↔∃i j,i<t.days.length∧S i∧j<t.days.length∧y=Ze j∧WT (fun s a b=>b<t.days.length∧RT t s a b) w i j
 |[],P,S,_,hP,y=>by
  show P y↔_;rw [hP];exact ⟨fun ⟨i,hi,e,s⟩=>⟨i,i,hi,s,hi,e,rfl⟩,fun ⟨i,j,hi,s,hj,e,z⟩=>by cases (show i=j from z);exact ⟨i,hi,e,s⟩⟩
 |s::w,P,S,h9,hP,y=>by
  show X0 (Yu B) w (fun x=>∃y,P y∧x∈Yu B s y) y↔_;rw [Zh4 bt (w:=w) (S:=fun m=>∃i,i<t.days.length∧S i∧RT t s i m) (fun x hx=>h9 x (QC _ hx)) fun x=>?_]
  ·constructor
   ·rintro ⟨m,j,hm,⟨i,hi,si,r⟩,hj,e,w'⟩;exact ⟨i,j,hi,si,hj,e,m,⟨hm,r⟩,w'⟩
   ·rintro ⟨i,j,hi,si,hj,e,m,⟨hm,r⟩,w'⟩;exact ⟨m,j,hm,⟨i,hi,si,r⟩,hj,e,w'⟩
  ·constructor
   ·rintro ⟨z,hz,hx⟩;obtain ⟨i,hi,rfl,si⟩:=(hP z).mp hz;obtain ⟨m,hm,rfl,r⟩:=(bt.led s (h9 s (by simp)) i hi x).mp hx;exact ⟨m,hm,rfl,i,hi,si,r⟩
   ·rintro ⟨m,hm,rfl,i,hi,si,r⟩;exact ⟨Ze i,(hP _).mpr ⟨i,hi,rfl,si⟩,(bt.led s (h9 s (by simp)) i hi _).mpr ⟨m,hm,rfl,r⟩⟩
theorem Zbw {t:Tr} {k:Nat} (h:TI t k):∀{w:List Str} {i j:Nat},(∀s∈w,s∈Zs)->i<t.days.length->(WT (fun s a b=>b<t.days.length∧RT t s a b) w i j↔WT (RT t) w i j)
 |[],i,j,_,_=>Q2
 |s::w,i,j,h9,hi=>by
  constructor
  ·rintro ⟨m,⟨hm,r⟩,w'⟩;exact ⟨m,r,(Zbw h (fun x hx=>h9 x (QC _ hx)) hm).mp w'⟩
  ·rintro ⟨m,r,w'⟩;have hm:=r.lt h (h9 s (by simp)) hi;exact ⟨m,⟨hm,r⟩,(Zbw h (fun x hx=>h9 x (QC _ hx)) hm).mpr w'⟩
theorem ZeP {t:Tr} {k:Nat} (h:TI t k) (bt:BT t B) {w:List Str} (h9:∀s∈w,s∈Zs) (hi:i<t.days.length) (hj:j<t.days.length):X0 (Yu B) w (·=Ze i) (Ze j)↔WT (RT t) w i j:=by
 rw [Zh4 bt (S:=(·=i)) h9 fun x=>⟨fun e=>⟨i,hi,e,rfl⟩,fun ⟨a,_,e,z⟩=>by rw [e,z]⟩];constructor
 ·rintro ⟨a,b,_,rfl,_,e,w'⟩;obtain rfl:=YQ e;exact (Zbw h h9 hi).mp w'
 ·intro w';exact ⟨i,j,hi,rfl,hj,rfl,(Zbw h h9 hi).mpr w'⟩
noncomputable def VS (s:Str):Str:=if s="F" then "f" else if s="M" then "m" else if s="T" then "t" else if s="f" then "F" else if s="m" then "M" else if s="t" then "T" else s
noncomputable def Zpx (s:Str):Str:=if s="F" then "he" else if s="M" then "she" else if s="he" then "he" else if s="she" then "she" else ""
theorem Zdg {R:Str->Nat->Nat->Prop}:∀{a b:List Str} {i j:Nat},WT R (a++b) i j↔∃m,WT R a i m∧WT R b m j
 |[],b,i,j=>⟨fun h=>⟨i,rfl,h⟩,fun ⟨m,e,h⟩=>by cases (show i=m from e);exact h⟩
 |s::a,b,i,j=>by
  constructor
  ·rintro ⟨m,r,w⟩;obtain ⟨n,h1,h2⟩:=Zdg.mp w;exact ⟨n,⟨m,r,h1⟩,h2⟩
  ·rintro ⟨n,⟨m,r,h1⟩,h2⟩;exact ⟨m,r,Zdg.mpr ⟨n,h1,h2⟩⟩
theorem Zfd {w:List Str} (h9:∀s∈w,s∈Zs):Xc w w:=by
 cases hc:(Z2 w).clash with
 |true=>exact .inl hc
 |false=>exact .inr ((Zeu TI.start h9).2.2 hc)
theorem U4 {ty tx:TE} {trs:List (TE×TE)} (kvs:List (Zl×V)) (hc:∀(H':Hp) (Qp:List (V×V)->Hp->Prop),Qp (kvs.map fun kv=>(kV kv.1,kv.2)) H'->Zbf trs σ H' Qp) (l:kvs.length≤15) (h:∀p H',Same H H'->H' p=some (.dK (XO [] kvs))->ty σ H' fun y H2=>tx σ H2 fun z H3=>∃o,DGet H3 p y o∧Q (o.getD z) H3):ZiC (Zf1 trs) ty tx σ H Q:=fun p np=>hc _ _ ⟨Zg,kvs,rfl,l,p,rfl,.inl ⟨_,.inl Zg⟩,h p _ (fun c u e=>by rw [Zd (ZA e np),Zd (ZA e np)];exact e) Zg⟩
noncomputable abbrev kvB:List (Zl×V):=[(.inr "F",.str "f"),(.inr "M",.str "m"),(.inr "T",.str "t"),(.inr "f",.str "F"),(.inr "m",.str "M"),(.inr "t",.str "T")]
noncomputable abbrev kvN:List (Zl×V):=[(.inr "F",.str "he"),(.inr "M",.str "she"),(.inr "he",.str "he"),(.inr "she",.str "she")]
theorem Zot (h:s∈Zs):(ZH (XO [] kvB) (.inr s)).getD (.str s)=.str (VS s):=by
 simp only [Zs,Qh,QJ,QK] at h;rcases h with rfl|rfl|rfl|rfl|rfl|rfl|rfl|rfl|rfl<;>rfl
theorem ZiV (h:s∈Zs):(ZH (XO [] kvN) (.inr s)).getD (.str "")=.str (Zpx s):=by
 simp only [Zs,Qh,QJ,QK] at h;rcases h with rfl|rfl|rfl|rfl|rfl|rfl|rfl|rfl|rfl<;>rfl
theorem ZiI:∀a b:List Str,Y9 (a.map D.str) (b.map D.str)=decide (a=b)
 |[],[]=>rfl
 |[],_::_=>rfl
 |_::_,[]=>rfl
 |x::a,y::b=>by
  show (Y1 (.str x) (.str y)&&Y9 (a.map D.str) (b.map D.str))=_;rw [ZiI a b,show Y1 (.str x) (.str y)=decide (x=y) from rfl];by_cases h:x=y<;>by_cases h2:a=b<;>simp [h,h2]
theorem ZkZ {K:W.Frag} {p q:Addr} {a b:List Str} (h1:SqT K H p (a.map V.str)) (h2:SqT K H q (b.map V.str)) (h:Q (.bl (decide (a=b))) H):ZhT K id (.ref p) (.ref q) H Q:=by
 refine ⟨.tup (a.map D.str),.tup (b.map D.str),⟨p,_,rfl,h1,ZbY a⟩,⟨q,_,rfl,h2,ZbY b⟩,.inl ⟨_,_,rfl,rfl⟩,?_,?_⟩
 ·have:=ZhB a;simp only [XM];omega
 ·show Q (.bl (Y1 (.tup (a.map D.str)) (.tup (b.map D.str)))) H;rw [show Y1 (.tup (a.map D.str)) (.tup (b.map D.str))=Y9 (a.map D.str) (b.map D.str) by simp only [Y1],ZiI];exact h
theorem ZbH (a:List Str) (hi:Nat):YL (a.map V.str) none (some (hi:Int))=(a.take hi).map V.str:=by
 unfold YL;rw [Qc,HT.sIx_nat,HT.sIx_none,List.drop_zero,Nat.sub_zero,List.map_take];by_cases e:hi≤a.length
 ·rw [Nat.min_eq_left e]
 ·rw [GB (by rw [Qc];omega),GB (by rw [Qc];omega)]
theorem ZdM (a:List Str) (lo:Nat) (h:lo≤a.length):YL (a.map V.str) (some (lo:Int)) none=(a.drop lo).map V.str:=by
 unfold YL;rw [Qc,HT.sIx_nat,HT.sIx_none,Nat.min_eq_left h,List.map_drop,GB (by rw [GL,Qc];omega)]
theorem ZjY (way:List Str):∃s:Str,(s=""∨s∈way)∧Yg (V.str ""::way.map V.str) (-1)=some (.str s):=by
 rcases List.eq_nil_or_concat way with rfl|⟨w,s,rfl⟩
 ·exact ⟨"",.inl rfl,ZcN [] _⟩
 ·refine ⟨s,.inr (by simp),?_⟩;rw [List.concat_eq_append,Qv];exact ZcN (V.str ""::w.map V.str) _
noncomputable abbrev kvF (s:Str):List (Zl×V):=[(.inr "F",.str "f"),(.inr "M",.str "m"),(.inr "T",.str "t"),(.inr "f",.str "F"),(.inr "m",.str "M"),(.inr "t",.str "T"),(.inr "",.str s)]
noncomputable abbrev kvH:List (Zl×V):=[(.inr "m",.str "f"),(.inr "she",.str "he")]
noncomputable abbrev kvS:List (Zl×V):=[(.inr "f",.str "m"),(.inr "he",.str "she")]
theorem Zfw {l:Str} (hs:s∈Zs) (h:l=""∨l∈Zs):∃z∈Zs,(ZH (XO [] (kvF s)) (.inr l)).getD (.str l)=.str z:=by
 simp only [Zs,Qh,QJ,QK] at h;rcases h with rfl|rfl|rfl|rfl|rfl|rfl|rfl|rfl|rfl|rfl
 ·exact ⟨s,hs,rfl⟩
 all_goals exact ⟨_,by decide,rfl⟩
theorem Zlw {l:Str} (h:l∈Zs):∃z∈Zs,(ZH (XO [] kvH) (.inr l)).getD (.str l)=.str z:=by
 simp only [Zs,Qh,QJ,QK] at h;rcases h with rfl|rfl|rfl|rfl|rfl|rfl|rfl|rfl|rfl<;>exact ⟨_,by decide,rfl⟩
theorem ZkX {l:Str} (h:l∈Zs):∃z∈Zs,(ZH (XO [] kvS) (.inr l)).getD (.str l)=.str z:=by
 simp only [Zs,Qh,QJ,QK] at h;rcases h with rfl|rfl|rfl|rfl|rfl|rfl|rfl|rfl|rfl<;>exact ⟨_,by decide,rfl⟩
theorem Zgn {way m:List Str} {a b:Nat} (h9:∀s∈way,s∈Zs) (hm:∀s∈m,s∈Zs):∀s∈way.take a++m++way.drop b,s∈Zs:=fun s hs=>by
 rcases Ql.mp hs with hs|hs
 ·rcases Ql.mp hs with hs|hs
  ·exact h9 s (Rv hs)
  ·exact hm s hs
 ·exact h9 s (List.mem_of_mem_drop hs)
theorem Zhk (x y z:List Str):x.map V.str++y.map V.str++z.map V.str=(x++y++z).map V.str:=by simp
theorem UK {n:Nat} (h:n≤1000):n≤sizeLine:=QO (ZF h)
theorem Zi9 (h:s∈Zs):VS s∈Zs:=by
 simp only [Zs,Qh,QJ,QK] at h;rcases h with rfl|rfl|rfl|rfl|rfl|rfl|rfl|rfl|rfl<;>decide
section
variable {R:Str->Nat->Nat->Prop} {t:Tr} {k:Nat} {φ:Nat->Nat}
end
structure Ld where
 pe:List (Str×Int×Int)
 ta:List (Nat×Nat)
 un:List (Nat×Nat)
noncomputable def Ld.so (L:Ld) (i:Nat):Str:=((L.pe[i]?).map (·.1)).getD ""
noncomputable def Ld.up (L:Ld) (l:Str) (i:Nat):Int:=((L.pe[i]?).map fun p=>if l="F" then p.2.1 else p.2.2).getD (-1)
def RL (L:Ld) (s:Str) (i j:Nat):Prop :=
 if s="he"∨s="she" then i=j∧L.so i=s
 else if s="F"∨s="M" then L.up s i=j
 else if s="f"∨s="m" then L.up (ZG s) j=i
 else if s="T" then (i,j)∈L.ta
 else if s="t" then (j,i)∈L.ta
 else (i,j)∈L.un∨(j,i)∈L.un
structure LOk (L:Ld):Prop where
 n1:1≤L.pe.length
 n6:L.pe.length≤8
 up:∀l:Str,l="F"∨l="M"->∀i (j:Nat),L.up l i=j->L.so j=ZZ l
 ta:∀p∈L.ta,p.1<L.pe.length∧p.2<L.pe.length
 un:∀p∈L.un,p.1<L.pe.length∧p.2<L.pe.length
 t5:L.ta.length≤450
 u5:L.un.length≤450
section
variable {L:Ld}
theorem ZaJ (h:s="he"∨s="she"):RL L s i j↔i=j∧L.so i=s:=by unfold RL;rw [Qb h]
theorem Zbl (h:s="F"∨s="M"):RL L s i j↔L.up s i=j:=by unfold RL;rw [Qa (by rcases h with rfl|rfl<;>trivial),Qb h]
theorem Zed (h:s="f"∨s="m"):RL L s i j↔L.up (ZG s) j=i:=by unfold RL;rw [Qa (by rcases h with rfl|rfl<;>trivial),Qa (by rcases h with rfl|rfl<;>trivial),Qb h]
theorem Zd2:RL L "T" i j↔(i,j)∈L.ta:=by unfold RL;rw [Qa (by trivial),Qa (by trivial),Qa (by trivial),Qb rfl]
theorem ZbN:RL L "t" i j↔(j,i)∈L.ta:=by unfold RL;rw [Qa (by trivial),Qa (by trivial),Qa (by trivial),Qa (by trivial),Qb rfl]
theorem ZdY:RL L "S" i j↔(i,j)∈L.un∨(j,i)∈L.un:=by unfold RL;rw [Qa (by trivial),Qa (by trivial),Qa (by trivial),Qa (by trivial),Qa (by trivial)]
theorem ZdB (h:L.so i≠""):i<L.pe.length:=by
 by_cases c:i<L.pe.length
 ·exact c
 ·exact absurd (by unfold Ld.so;rw [RY (by omega)];rfl) h
theorem Zbu {l:Str} (h:L.up l i=j):i<L.pe.length:=by
 by_cases c:i<L.pe.length
 ·exact c
 ·unfold Ld.up at h;rw [RY (by omega)] at h;simp at h
theorem RL.lt (h:LOk L) (hs:s∈Zs) (r:RL L s i j):i<L.pe.length∧j<L.pe.length:=by
 rcases Ua hs with c|c|c|rfl|rfl|rfl
 ·obtain ⟨rfl,e⟩:=(ZaJ c).mp r;have:=ZdB (L:=L) (i:=i) (by rw [e];rcases c with rfl|rfl<;>decide);exact ⟨this,this⟩
 ·have e:=(Zbl c).mp r;exact ⟨Zbu e,ZdB (by rw [h.up s c i j e];exact Zd7 s)⟩
 ·have e:=(Zed c).mp r;exact ⟨ZdB (by rw [h.up (ZG s) (by rcases c with rfl|rfl<;>decide) j i e];exact Zd7 _),Zbu e⟩
 ·exact h.ta _ (Zd2.mp r)
 ·exact (h.ta _ (ZbN.mp r)).symm
 ·rcases ZdY.mp r with r|r
  ·exact h.un _ r
  ·exact (h.un _ r).symm
end
def Zft (K:W.Frag) (H:Hp) (l:Addr) (ps:List (Str×Int×Int)):Prop:=∃as:List Addr,SqL K H l (as.map V.ref)∧as.length=ps.length∧∀(i:Nat) a p,as[i]?=some a->ps[i]?=some p->SqT K H a [.str p.1,.int p.2.1,.int p.2.2]
def PrsAt (K:W.Frag) (H:Hp) (l:Addr) (ps:List (Nat×Nat)):Prop:=∃as:List Addr,SqL K H l (as.map V.ref)∧as.length=ps.length∧∀(i:Nat) a p,as[i]?=some a->ps[i]?=some p->SqT K H a [.int p.1,.int p.2]
def LdAt (K:W.Frag) (H:Hp) (a:Addr) (L:Ld):Prop:=∃P T U,SqT K H a [.ref P,.ref T,.ref U]∧Zft K H P L.pe∧PrsAt K H T L.ta∧PrsAt K H U L.un
theorem LdAt.mono {K:W.Frag} {L:Ld} (h:LdAt K H a L) (s:SameX H H'):LdAt K H' a L:=by
 obtain ⟨P,T,U,h0,⟨a1,b1,c1,d1⟩,⟨a2,b2,c2,d2⟩,⟨a3,b3,c3,d3⟩⟩:=h;exact ⟨P,T,U,s.sqt h0,⟨a1,s.sql b1,c1,fun i a p x y=>s.sqt (d1 i a p x y)⟩,⟨a2,s.sql b2,c2,fun i a p x y=>s.sqt (d2 i a p x y)⟩,⟨a3,s.sql b3,c3,fun i a p x y=>s.sqt (d3 i a p x y)⟩⟩
theorem Zhb {K:W.Frag} (h:PrsAt K H U ps) (l:ps.length≤450) {n:Nat} (e:σ[n]?=some (some (.ref U))) (e2:σ[2]?=some (some (.int i))) (q:∀D H',H D=none->Same H H'->H' D=some (.lst ((ps.filterMap fun p=>if p.1=i then some p.2 else none).map fun z:Nat=>V.int z))->Q (.ref D) H'):ZaI (Zel K (XG n)) (Ur [none,none,some 2]) (Zay K 2 (JH (ZM 0) (JH (ZM 1) ZcV))) (Zcy (Jc rEq (XG 0) (XG 2))) (XG 1) σ H Q:=by
 obtain ⟨as,hU,lU,eU⟩:=h;refine ⟨_,e,U,rfl,⟨_,hU⟩,V9 (ps.map fun p=>if p.1=i then some (V.int p.2) else none) (ZF (by rw [Qc];omega)) (fun σ=>∃v w,σ=[v,w,some (.int i)]) ⟨none,none,by simp [Ur,e2]⟩ (fun j H4 hj sm=>?go) (fun H4 sm=>?stop) (fun j σ H4 x H5 z hz hσ sm hx C hC=>?step) (fun D5 H5 nD5 s5 hD5=>?fin)⟩
 case go=>exact ⟨_,_,sm.sql hU,Qs (by rw [Qc] at hj ⊢;omega)⟩
 case stop=>exact ⟨_,sm.sql hU,by rw [Qc,Qc,lU];exact Qe _⟩
 case step =>
  obtain ⟨v,w,rfl⟩:=hσ;obtain ⟨rfl,hx2⟩:=hx;have ex:=hx2 _ (sm.sql hU);rw [Qo] at ex hz;obtain ⟨a,ha,rfl⟩:=QF.mp ex;obtain ⟨p,hp,rfl⟩:=QF.mp hz;refine ⟨a,_,rfl,sm.sqt (eU j a p ha hp),rfl,_,_,rfl,_,_,rfl,rfl,_,rfl,_,rfl,rfl,_,rfl,?_⟩;by_cases c:p.1=i
  ·rw [Qb c] at hC;exact ZY (by simp [c]) ⟨_,rfl,hC _ _ ⟨_,_,rfl⟩ (.refl _)⟩
  ·rw [Qa c] at hC;exact Zr (by simp;omega) (hC _ _ ⟨_,_,rfl⟩ (.refl _))
 case fin =>
  refine q D5 H5 nD5 s5 ?_;rw [hD5,RB,Gy]
  congr 3
  funext p
  simp only [Function.comp,id];by_cases c:p.1=i<;>simp [c]
theorem ZeV {K:W.Frag} (h:PrsAt K H U ps) (l:ps.length≤450) {n:Nat} (e:σ[n]?=some (some (.ref U))) (e2:σ[2]?=some (some (.int i))) (q:∀D H',H D=none->Same H H'->H' D=some (.lst ((ps.filterMap fun p=>if p.2=i then some p.1 else none).map fun z:Nat=>V.int z))->Q (.ref D) H'):ZaI (Zel K (XG n)) (Ur [none,none,some 2]) (Zay K 2 (JH (ZM 0) (JH (ZM 1) ZcV))) (Zcy (Jc rEq (XG 1) (XG 2))) (XG 0) σ H Q:=by
 obtain ⟨as,hU,lU,eU⟩:=h;refine ⟨_,e,U,rfl,⟨_,hU⟩,V9 (ps.map fun p=>if p.2=i then some (V.int p.1) else none) (ZF (by rw [Qc];omega)) (fun σ=>∃v w,σ=[v,w,some (.int i)]) ⟨none,none,by simp [Ur,e2]⟩ (fun j H4 hj sm=>?go) (fun H4 sm=>?stop) (fun j σ H4 x H5 z hz hσ sm hx C hC=>?step) (fun D5 H5 nD5 s5 hD5=>?fin)⟩
 case go=>exact ⟨_,_,sm.sql hU,Qs (by rw [Qc] at hj ⊢;omega)⟩
 case stop=>exact ⟨_,sm.sql hU,by rw [Qc,Qc,lU];exact Qe _⟩
 case step =>
  obtain ⟨v,w,rfl⟩:=hσ;obtain ⟨rfl,hx2⟩:=hx;have ex:=hx2 _ (sm.sql hU);rw [Qo] at ex hz;obtain ⟨a,ha,rfl⟩:=QF.mp ex;obtain ⟨p,hp,rfl⟩:=QF.mp hz;refine ⟨a,_,rfl,sm.sqt (eU j a p ha hp),rfl,_,_,rfl,_,_,rfl,rfl,_,rfl,_,rfl,rfl,_,rfl,?_⟩;by_cases c:p.2=i
  ·rw [Qb c] at hC;exact ZY (by simp [c]) ⟨_,rfl,hC _ _ ⟨_,_,rfl⟩ (.refl _)⟩
  ·rw [Qa c] at hC;exact Zr (by simp;omega) (hC _ _ ⟨_,_,rfl⟩ (.refl _))
 case fin =>
  refine q D5 H5 nD5 s5 ?_;rw [hD5,RB,Gy]
  congr 3
  funext p
  simp only [Function.comp,id];by_cases c:p.2=i<;>simp [c]
theorem PrsAt.mono {K:W.Frag} (h:PrsAt K H a ps) (s:SameX H H'):PrsAt K H' a ps:=by
 obtain ⟨a2,b2,c2,d2⟩:=h;exact ⟨a2,s.sql b2,c2,fun i a p x y=>s.sqt (d2 i a p x y)⟩
theorem ZhV:j∈(ps.filterMap fun p=>if p.1=i then some p.2 else none)↔(i,j)∈ps:=by
 rw [Ra];constructor
 ·rintro ⟨p,m,e⟩;by_cases c:p.1=i
  ·rw [Qb c] at e;rw [←c,←Qj e];exact m
  ·rw [Qa c] at e;cases e
 ·exact fun m=>⟨_,m,Qb rfl⟩
theorem ZeY:j∈(ps.filterMap fun p=>if p.2=i then some p.1 else none)↔(j,i)∈ps:=by
 rw [Ra];constructor
 ·rintro ⟨p,m,e⟩;by_cases c:p.2=i
  ·rw [Qb c] at e;rw [←c,←Qj e];exact m
  ·rw [Qa c] at e;cases e
 ·exact fun m=>⟨_,m,Qb rfl⟩
noncomputable abbrev Xk (l:List (Nat×V)):List (Zl×V):=l.map fun p=>(.inl (p.1:Int),p.2)
theorem Zml (l:List (Nat×V)) (c:Nat) (v:V):Ys (Xk l) (.inl (c:Int)) v=Xk (Zp l c v):=U2 (f:=fun s:Nat=>(.inl (s:Int):Zl)) (fun a b h=>by injection h with h;exact NJ h) id l c v
theorem ZgH (l:List (Nat×V)):(Xk l).length=(l.map (·.1)).length:=by rw [Qc,Qc]
theorem ZgO {L:Ld} (ok:LOk L):∀{w:List Str} {i j:Nat},(∀s∈w,s∈Zs)->i<L.pe.length->WT (RL L) w i j->j<L.pe.length
 |[],i,j,_,h,e=>by rw [←show i=j from e];exact h
 |s::w,i,j,h9,h,⟨m,r,q⟩=>ZgO ok (fun x hx=>h9 x (by simp [hx])) (r.lt ok (h9 s (by simp))).2 q
theorem Zob {R:Str->Nat->Nat->Prop} {w:List Str}:WT R (w++[s]) i j↔∃m,WT R w i m∧R s m j:=by
 rw [Zdg];exact ⟨fun ⟨m,a,n,r,e⟩=>⟨m,a,by rw [←show n=j from e];exact r⟩,fun ⟨m,a,r⟩=>⟨m,a,j,r,rfl⟩⟩
theorem Zle {xs:List Nat} {n:Nat} (h:xs.Nodup) (s:∀x∈xs,x<n):xs.length≤n:=by
 have:=NS (l₂:=List.range n) h fun x hx=>R1.mpr (s x hx);rw [QW] at this;exact this
theorem ZfX {zs:List Nat} {y:V} (h:(zs.map fun z:Nat=>V.int z)[i]?=some y):∃z,zs[i]?=some z∧y=.int z:=by
 rw [Qo] at h;obtain ⟨z,hz,e⟩:=QF.mp h;exact ⟨z,hz,e.symm⟩
section
variable {pe:List (Str×Int×Int)} {x:Int} {p:Str×Int×Int}
end
def QsAt {α:Type} (r:α->List V) (H:Hp) (l:Addr) (qs:List (α×Addr)):Prop:=H l=some (.lst (qs.map fun q=>V.ref q.2))∧∀q∈qs,H q.2=some (.tup (r q.1))
section
variable {α:Type} {r:α->List V} {l:Addr} {qs:List (α×Addr)}
theorem QsAt.mono (h:QsAt r H l qs) (s:Same H H'):QsAt r H' l qs:=⟨s _ _ h.1,fun q hq=>s _ _ (h.2 q hq)⟩
theorem QsAt.put (h:QsAt r H l qs) {x:α} {p:Addr} (hp:H p=some (.tup (r x))):QsAt r (Zc H l (.lst (qs.map (fun q=>V.ref q.2)++[.ref p]))) l (qs++[(x,p)]):=by
 refine ⟨by rw [Zg,Qv];rfl,fun q hq=>?_⟩
 have hq':H q.2=some (.tup (r q.1)):=by
  rcases Ql.mp hq with hq|hq
  ·exact h.2 q hq
  ·rw [QG.mp hq];exact hp
 rw [Zd (fun z=>by rw [z,h.1] at hq';cases hq')];exact hq'
theorem QsAt.other (h:QsAt r H l qs) {m:Addr} (hm:H m=some (.lst ys)) (ne:l≠m):QsAt r (Zc H m o) l qs :=
 ⟨by rw [Zd ne];exact h.1,fun q hq=>by rw [Zd (fun z=>by have:=h.2 q hq;rw [z,hm] at this;cases this)];exact h.2 q hq⟩
end
noncomputable abbrev rP (p:Str×Int×Int):List V:=[.str p.1,.int p.2.1,.int p.2.2]
noncomputable abbrev rT (p:Nat×Nat):List V:=[.int p.1,.int p.2]
theorem ZfR {α:Type} {qs:List (α×Addr)} {p:α} (h1:(qs.map (·.2))[i]?=some a) (h2:(qs.map (·.1))[i]?=some p):(p,a)∈qs:=by
 rw [Qo] at h1 h2;obtain ⟨q,hq,rfl⟩:=QF.mp h1;obtain ⟨q',hq',rfl⟩:=QF.mp h2;rw [hq] at hq';cases hq';exact QL hq
theorem QsAt.pes {K:W.Frag} {l:Addr} (h:QsAt rP H l qs):Zft K H l (qs.map (·.1)) :=
 ⟨qs.map (·.2),by rw [QR];exact .of h.1,by rw [Qc,Qc],fun _ _ _ x y=>.of (h.2 _ (ZfR x y))⟩
theorem QsAt.prs {K:W.Frag} {l:Addr} {qs:List ((Nat×Nat)×Addr)} (h:QsAt rT H l qs):PrsAt K H l (qs.map (·.1)) :=
 ⟨qs.map (·.2),by rw [QR];exact .of h.1,by rw [Qc,Qc],fun _ _ _ x y=>.of (h.2 _ (ZfR x y))⟩
theorem ZaH (ns:List Int) (lo hi:Option Int):∃cs:List Int,YL (ns.map V.int) lo hi=cs.map V.int∧cs.length=min (HT.sIx ns.length ns.length hi-HT.sIx ns.length 0 lo) (ns.length-HT.sIx ns.length 0 lo):=by
 refine ⟨(ns.drop (HT.sIx ns.length 0 lo)).take (HT.sIx ns.length ns.length hi-HT.sIx ns.length 0 lo),?_,?_⟩
 ·unfold YL;rw [List.map_take,List.map_drop,Qc]
 ·rw [Q6,GL]
theorem ZiJ (z:Int) {n:Nat} (h:0<n):∃m:Nat,m<n∧z.fmod n=m:=by
 have h0:=Int.fmod_nonneg_of_pos z (show (0:Int)<n by omega);have h1:=Int.fmod_lt_of_pos z (show (0:Int)<n by omega);exact ⟨(z.fmod n).toNat,by omega,by omega⟩
section
variable {H0:Hp} {P A p:Addr} {n m k:Nat} {as us:List ((Nat×Nat)×Addr)} {x:Nat×Nat}
end
def Vt (t:Tr) (l:Str) (i:Nat) (u:Int):Prop:=(u=-1∧∀j,((l,i),j)∉t.par)∨∃j:Nat,u=j∧((l,i),j)∈t.par
structure LdT (t:Tr) (L:Ld):Prop where
 pe:∀i,i<t.days.length->∃p,L.pe[i]?=some p∧p.1=t.sorts.getD i ""∧Vt t "F" i p.2.1∧Vt t "M" i p.2.2
 n:L.pe.length=t.days.length
 ta:∀p,p∈L.ta↔p∈t.tak
 un:∀p,p∈L.un↔p∈t.uni
section
variable {t:Tr} {k:Nat} {L:Ld}
theorem LdT.up (h:LdT t L) (ti:TI t k) {l:Str} (hl:l="F"∨l="M"):L.up l i=j↔((l,i),j)∈t.par:=by
 by_cases il:i<t.days.length
 ·obtain ⟨p,hp,_,a,b⟩:=h.pe i il
  have u:Vt t l i (L.up l i):=by
   unfold Ld.up;rw [hp];rcases hl with rfl|rfl
   ·exact a
   ·exact b
  rcases u with ⟨e,no⟩|⟨j',e,m⟩
  ·exact ⟨fun z=>by omega,fun z=>absurd z (no j)⟩
  ·refine ⟨fun z=>?_,fun z=>?_⟩
   ·obtain rfl:j'=j:=by omega
    exact m
   ·have z1:=(JP ti).mpr m;rw [(JP ti).mpr z] at z1;rw [e,Qj z1]
 ·refine ⟨fun z=>absurd (Zbu z) (by rw [h.n];exact il),fun z=>absurd (ti.pn _ z).1 il⟩
theorem LdT.so (h:LdT t L) (ti:TI t k) (i:Nat):L.so i=t.sorts.getD i "":=by
 by_cases il:i<t.days.length
 ·obtain ⟨p,hp,e,_⟩:=h.pe i il;unfold Ld.so;rw [hp,←e];rfl
 ·unfold Ld.so;rw [RY (by rw [h.n];omega),QS,RY (by rw [ti.len];omega)];rfl
theorem LdT.rl (h:LdT t L) (ti:TI t k) (hs:s∈Zs):RL L s i j↔RT t s i j:=by
 rcases Ua hs with c|c|c|rfl|rfl|rfl
 ·rw [ZaJ c,UX c,h.so ti]
 ·rw [Zbl c,W5 c,h.up ti c]
 ·rw [Zed c,Js c,h.up ti (by rcases c with rfl|rfl<;>decide)]
 ·rw [Zd2,VC,h.ta]
 ·rw [ZbN,Jf,h.ta]
 ·rw [ZdY,W7,h.un,h.un]
theorem LdT.ok (h:LdT t L) (ti:TI t k) (hc:t.clash=false) (n6:t.days.length≤8) (t5:L.ta.length≤450) (u5:L.un.length≤450):LOk L where
 n1:=by rw [h.n];exact Rp (QV _) ti.he
 n6:=by rw [h.n];exact n6
 up:=fun l hl i j e=>by rw [h.so ti];exact (ti.pn _ ((h.up ti hl).mp e)).2.2.2.2 hc
 ta:=fun p hp=>by rw [h.n];have:=ti.tk p ((h.ta p).mp hp);exact ⟨this.1,this.2.1⟩
 un:=fun p hp=>by rw [h.n];have:=ti.un p ((h.un p).mp hp);omega
 t5:=t5
 u5:=u5
theorem LdT.wt (h:LdT t L) (ti:TI t k):∀{w:List Str} {i j:Nat},(∀s∈w,s∈Zs)->(WT (RL L) w i j↔WT (RT t) w i j)
 |[],_,_,_=>Q2
 |s::w,i,j,h9=>exists_congr fun m=>and_congr (h.rl ti (h9 s (by simp))) (LdT.wt h ti fun x hx=>h9 x (by simp [hx]))
end
theorem JE {ups:List Int} (h:ups.length=2):∃u1 u2,ups=[u1,u2]:=by
 obtain _|⟨a,_|⟨b,_|⟨c,l⟩⟩⟩:=ups
 ·cases h
 ·cases h
 ·exact ⟨a,b,rfl⟩
 ·simp at h
structure Fr3 (H1:Hp) (P A U:Addr):Prop where
 nP:H1 P=none
 nA:H1 A=none
 nU:H1 U=none
 pa:P≠A
 pu:P≠U
 au:A≠U
structure LF (t:Tr) (H1:Hp) (P A U:Addr) (i m k:Nat) (PT PU:Nat×Nat->Prop) (H:Hp) (qs:List ((Str×Int×Int)×Addr)) (as us:List ((Nat×Nat)×Addr)):Prop where
 sm:Same H1 H
 hQ:QsAt rP H P qs
 hA:QsAt rT H A as
 hU:QsAt rT H U us
 lq:qs.length=i
 pe:∀(j:Nat) q,qs[j]?=some q->q.1.1=t.sorts.getD j ""∧Vt t "F" j q.1.2.1∧Vt t "M" j q.1.2.2
 ta:∀p,p∈as.map (·.1)↔PT p
 un:∀p,p∈us.map (·.1)↔PU p
 la:as.length≤m
 lu:us.length≤k
section
variable {t:Tr} {H1:Hp} {P A p:Addr} {m k:Nat} {PT PU:Nat×Nat->Prop} {as us:List ((Nat×Nat)×Addr)}
theorem LF.mono (h:LF t H1 P A U i m k PT PU H qs as us) (s:Same H H'):LF t H1 P A U i m k PT PU H' qs as us:=⟨h.sm.trans s,h.hQ.mono s,h.hA.mono s,h.hU.mono s,h.lq,h.pe,h.ta,h.un,h.la,h.lu⟩
theorem LF.cast (h:LF t H1 P A U i m k PT PU H qs as us) {m' k':Nat} {PT' PU':Nat×Nat->Prop} (lm:m≤m') (lk:k≤k') (a:∀p,PT p↔PT' p) (u:∀p,PU p↔PU' p):LF t H1 P A U i m' k' PT' PU' H qs as us:=⟨h.sm,h.hQ,h.hA,h.hU,h.lq,h.pe,fun p=>(h.ta p).trans (a p),fun p=>(h.un p).trans (u p),Qn h.la lm,Qn h.lu lk⟩
theorem Zir {α β:Type} {as:List (α×β)} {x:α} {y:β} {p:α}:p∈(as++[(x,y)]).map (·.1)↔p∈as.map (·.1)∨p=x:=by simp
theorem Zbk (h:Same H1 H) (n:H1 a=none):Same H1 (Zc H a o):=fun b u e=>by rw [Zd (ZA e n)];exact h _ _ e
theorem LF.addP (h:LF t H1 P A U i m k PT PU H qs as us) (f:Fr3 H1 P A U) {x:Str×Int×Int} (hp:H p=some (.tup (rP x))) (h0:x.1=t.sorts.getD i "") (hF:Vt t "F" i x.2.1) (hM:Vt t "M" i x.2.2):LF t H1 P A U (i+1) m k PT PU (Zc H P (.lst (qs.map (fun q=>V.ref q.2)++[.ref p]))) (qs++[(x,p)]) as us :=
 ⟨Zbk h.sm f.nP,h.hQ.put hp,h.hA.other h.hQ.1 f.pa.symm,h.hU.other h.hQ.1 f.pu.symm,by rw [Qq,h.lq];rfl,fun j q e=>by
  by_cases jl:j<qs.length
  ·rw [RQ jl] at e;exact h.pe j q e
  ·have e1:=(QE.mp e).1;rw [Qq,GP] at e1;obtain rfl:j=qs.length:=by omega
   rw [Rn (Qe _),GC] at e;obtain rfl:(x,p)=q:=Qj e;rw [h.lq];exact ⟨h0,hF,hM⟩,h.ta,h.un,h.la,h.lu⟩
theorem LF.addT (h:LF t H1 P A U i m k PT PU H qs as us) (f:Fr3 H1 P A U) {x:Nat×Nat} (hp:H p=some (.tup (rT x))):LF t H1 P A U i (m+1) k (fun p=>PT p∨p=x) PU (Zc H A (.lst (as.map (fun q=>V.ref q.2)++[.ref p]))) qs (as++[(x,p)]) us :=
 ⟨Zbk h.sm f.nA,h.hQ.other h.hA.1 f.pa,h.hA.put hp,h.hU.other h.hA.1 f.au.symm,h.lq,h.pe,fun q=>Zir.trans (Gi (h.ta q) Q2),h.un,by rw [Qq];exact Nat.succ_le_succ h.la,h.lu⟩
theorem LF.addU (h:LF t H1 P A U i m k PT PU H qs as us) (f:Fr3 H1 P A U) {x:Nat×Nat} (hp:H p=some (.tup (rT x))):LF t H1 P A U i m (k+1) PT (fun p=>PU p∨p=x) (Zc H U (.lst (us.map (fun q=>V.ref q.2)++[.ref p]))) qs as (us++[(x,p)]) :=
 ⟨Zbk h.sm f.nU,h.hQ.other h.hU.1 f.pu,h.hA.other h.hU.1 f.au,h.hU.put hp,h.lq,h.pe,h.ta,fun q=>Zir.trans (Gi (h.un q) Q2),h.la,by rw [Qq];exact Nat.succ_le_succ h.lu⟩
theorem LF.off (h:LF t H1 P A U i m k PT PU H qs as us) (f:Fr3 H1 P A U) (ha:H a=some (.lst ys)) (n:H1 a=none) (n3:P≠a∧A≠a∧U≠a):LF t H1 P A U i m k PT PU (Zc H a o) qs as us:=⟨Zbk h.sm n,h.hQ.other ha n3.1,h.hA.other ha n3.2.1,h.hU.other ha n3.2.2,h.lq,h.pe,h.ta,h.un,h.la,h.lu⟩
theorem LF.ne3 (h:LF t H1 P A U i m k PT PU H qs as us) (n:H a=none):P≠a∧A≠a∧U≠a:=⟨ZA h.hQ.1 n,ZA h.hA.1 n,ZA h.hU.1 n⟩
theorem LF.ld {K:W.Frag} (h:LF t H1 P A U i m k PT PU H qs as us) (ha:H a=some (.tup [.ref P,.ref A,.ref U])):LdAt K H a ⟨qs.map (·.1),as.map (·.1),us.map (·.1)⟩:=⟨P,A,U,.of ha,h.hQ.pes,h.hA.prs,h.hU.prs⟩
theorem LF.ldT {k0:Nat} (ti:TI t k0) (h:LF t H1 P A U t.days.length m k (fun p=>p∈t.tak∧p.1<t.days.length) (fun p=>p∈t.uni∧p.1<t.days.length) H qs as us):LdT t ⟨qs.map (·.1),as.map (·.1),us.map (·.1)⟩ where
 pe:=fun i hi=>by
  have e:=Qs (l:=qs) (i:=i) (by rw [h.lq];exact hi);exact ⟨_,by show (qs.map (·.1))[i]?=_;rw [Qo,e];rfl,h.pe i _ e⟩
 n:=by show (qs.map _).length=_;rw [Qc,h.lq]
 ta:=fun p=>(h.ta p).trans ⟨fun z=>z.1,fun z=>⟨z,(ti.tk p z).1⟩⟩
 un:=fun p=>(h.un p).trans ⟨fun z=>z.1,fun z=>⟨z,by have:=ti.un p z;omega⟩⟩
theorem V0 (h:j<t.days.length):(Z5 t)[j]?=some (Ze j):=by unfold Z5;rw [Qo,GZ h];rfl
theorem Zan {m:Nat} (h:j<t.days.length) (l:m<j):(Z5 t)[m]?≠some (Ze j):=by
 rw [V0 (by omega)];intro z;have:=YQ (Qj z);omega
theorem Zcb (i j:Nat):decide ((Ze i).cps.toList<(Ze j).cps.toList)=decide (i<j):=by
 refine decide_eq_decide.mpr ?_;show [97,97+i]<[97,97+j]↔_;simp [List.cons_lt_cons_iff]
theorem ZgC {P:Nat->Prop}:∀{zs:List Str},(∀x∈zs,∃j,x=Ze j∧P j)->∃js:List Nat,zs=js.map Ze
 |[],_=>⟨[],rfl⟩
 |z::zs,h=>by
  obtain ⟨j,e,_⟩:=h z (by simp);obtain ⟨js,e2⟩:=ZgC (zs:=zs) (P:=P) fun x hx=>h x (by simp [hx]);exact ⟨j::js,by rw [e,e2];rfl⟩
theorem Zen (bt:BT t B) {l:Str} (hl:l∈Zs.take 7) (hi:i<t.days.length):∃js:List Nat,Yn B l (Ze i)=js.map Ze∧(∀j,j∈js↔j<t.days.length∧RT t l i j)∧js.length≤t.days.length+t.tak.length+t.uni.length:=by
 have e:Yu B l (Ze i)=Yn B l (Ze i):=by
  unfold Yu;rw [Qa];exact (show ∀l∈Zs.take 7,¬VH l=true by trivial) l hl
 have h:=bt.led l (Rv hl) i hi;rw [e] at h
 obtain ⟨js,ej⟩:=ZgC (P:=fun j=>RT t l i j) (zs:=Yn B l (Ze i)) fun x hx=>by
  obtain ⟨j,_,a,b⟩:=(h x).mp hx;exact ⟨j,a,b⟩
 refine ⟨js,ej,fun j=>?_,by have:=bt.lb l (Ze i);rw [ej,Qc] at this;exact this⟩;have:=h (Ze j);rw [ej] at this;refine ⟨fun m=>?_,fun m=>?_⟩
 ·obtain ⟨j',a,b,c⟩:=this.mp (List.mem_map_of_mem m);rw [YQ b];exact ⟨a,c⟩
 ·obtain ⟨j',a,b⟩:=Qg.mp (this.mpr ⟨j,m.1,rfl,m.2⟩);rw [←YQ b];exact a
theorem VT {js:List Nat} {l:Nat} (h:js[l]?=some j) {x:Nat}:x∈js.take (l+1)↔x∈js.take l∨x=j:=by rw [Gc,h];simp
theorem Zno:(Z5 t).Pairwise fun a b=>YC a b=true:=by
 unfold Z5;rw [Gg];refine (List.pairwise_lt_range).imp fun {a b} h=>?_;show (!decide ((Ze b).cps.toList<(Ze a).cps.toList))=true;rw [Zcb,Qr (by omega)];rfl
theorem ZeI (bt:BT t B):ZB (YV B.kept)=Z5 t:=Zau ((Wn _).trans bt.bn) (VZ _) Zno
end
theorem Zd8:∀(ks:List (Nat×V)) (x:Nat),(ZH (Xk ks) (.inl (x:Int))).isSome=decide (x∈ks.map (·.1))
 |[],x=>rfl
 |q::ks,x=>by
  by_cases e:q.1=x
  ·show (ZH ((.inl (q.1:Int),q.2)::Xk ks) _).isSome=_;rw [XQ (by rw [e])];simp [e]
  ·show (ZH ((.inl (q.1:Int),q.2)::Xk ks) _).isSome=_;rw [XW (fun z=>e (by injection z with z;exact NJ z)),Zd8 ks x];simp [QX e]
def TwoW (w1 w2 w v:List Str):Prop:=(w=w1∧v=w2)∨(w=w2∧v=w1)
theorem TwoW.sym {w1 w2 w v:List Str} (h:TwoW w1 w2 w v):TwoW w2 w1 w v:=h.symm
theorem Zll {ns:List Int} {a b:Nat}:∃cs:List Int,YL (ns.map V.int) (some (a:Int)) (some (b:Int))=cs.map V.int∧cs.length≤b-a:=by
 obtain ⟨cs,e,l⟩:=ZaH ns (some (a:Int)) (some (b:Int));refine ⟨cs,e,?_⟩;rw [HT.sIx_nat,HT.sIx_nat] at l;omega
section
variable {K:W.Frag} {w:World} {mg:Str->Option Value}
theorem ZnG:FnScope ["thing"] ["thing"] (Zw ZdP):=⟨rfl,rfl,rfl,by trivial,rfl,by trivial,by trivial⟩
def Zpd (T:Tx K w mg):Sp:=fun vs H Q E=>vs.length=1∧(∃x t,vs=[x]∧Vw K H x t∧∀H',Same H H'->Q (.bl (Vk.isI t)) H')
theorem ZlJ:FnScope ["thing"] ["thing"] (Zw ZcE):=⟨rfl,rfl,rfl,by trivial,rfl,by trivial,by trivial⟩
def Zhn (T:Tx K w mg):Sp:=fun vs H Q E=>vs.length=1∧(∃x t,vs=[x]∧Vw K H x t∧∀H',Same H H'->Q (.bl (W9 t)) H')
theorem Zki:FnScope ["thing"] ["thing"] (Zw ZbJ):=⟨rfl,rfl,rfl,by trivial,rfl,by trivial,by trivial⟩
def Zhz (T:Tx K w mg):Sp:=fun vs H Q E=>vs.length=1∧(∃x t,vs=[x]∧Vw K H x t∧∀H',Same H H'->Q (.bl (Zez t)) H')
theorem ZoT:FnScope ["thing"] ["thing"] (Zw ZbM):=⟨rfl,rfl,rfl,by trivial,rfl,by trivial,by trivial⟩
def ZiE (T:Tx K w mg):Sp:=fun vs H Q E=>vs.length=1∧(∃x t,vs=[x]∧Vw K H x t∧∀H',Same H H'->Q (.bl (Zex t)) H')
theorem ZnB:FnScope ["thing"] ["thing"] (Zw Zc4):=⟨rfl,rfl,rfl,by trivial,rfl,by trivial,by trivial⟩
def Zie (T:Tx K w mg):Sp:=fun vs H Q E=>vs.length=1∧(∃x t,vs=[x]∧Vw K H x t∧∀H',Same H H'->Q (.bl (Uq t)) H')
theorem Zky:FnScope ["thing"] ["thing"] (Zw ZdJ):=⟨rfl,rfl,rfl,by trivial,rfl,by trivial,by trivial⟩
def Zgo (T:Tx K w mg):Sp:=fun vs H Q E=>vs.length=1∧(∃x t,vs=[x]∧Vw K H x t∧∀H',Same H H'->Q (.bl (Zag t)) H')
theorem Zm4:FnScope ["parts","checks"] ["parts","checks"] (Zw Zea):=⟨rfl,rfl,rfl,by trivial,rfl,by trivial,by trivial⟩
def ZlR (T:Tx K w mg):Sp:=fun vs H Q E=>vs.length=2∧(∃a b xs ts cs,vs=[.ref a,.ref b]∧SqT K H a xs∧Vws K H xs ts∧SqT K H b (cs.map fun c=>.ref (T.ad c))∧cs.length≤10∧∀H',Same H H'->Q (.bl (Wh cs ts)) H')
theorem Zce:FnScope ["thing","word","checks"] ["thing"] (Zw Zcg):=⟨rfl,rfl,rfl,by trivial,rfl,by trivial,by trivial⟩
def ZlF (T:Tx K w mg):Sp:=fun vs H Q E=>vs.length=1∧(∃x,vs=[x]∧((∃t,Vw K H x t∧t.isT=false∧∀H',Same H H'->Q (.bl false) H')∨∃ts,Tv K H x ts∧ts.length≤10∧∀H',Same H H'->Q (.bl (UE ts)) H'))
theorem ZkG:FnScope ["entry"] ["entry"] (Zw ZcS):=⟨rfl,rfl,rfl,by trivial,rfl,by trivial,by trivial⟩
def Znv (T:Tx K w mg):Sp:=fun vs H Q E=>vs.length=1∧(∃v e,vs=[v]∧EntAt K H v e∧∀H',Same H H'->Q (.bl e.tie) H')
theorem Zls:FnScope ["entry"] ["entry"] (Zw ZdU):=⟨rfl,rfl,rfl,by trivial,rfl,by trivial,by trivial⟩
def ZpB (T:Tx K w mg):Sp:=fun vs H Q E=>vs.length=1∧(∃v e,vs=[v]∧EntAt K H v e∧∀H' D,Same H H'->H D=none->SqL K H' D (e.named.map V.str)->Q (.ref D) H')
theorem ZlH:FnScope ["entry"] ["entry"] (Zw Zb4):=⟨rfl,rfl,rfl,by trivial,rfl,by trivial,by trivial⟩
def ZkO (T:Tx K w mg):Sp:=fun vs H Q E=>vs.length=1∧(∃v e,vs=[v]∧EntAt K H v e∧Q (.int e.day) H)
theorem Zfh:FnScope ["entry","names"] ["entry"] (Zw ZbW):=⟨rfl,rfl,rfl,by trivial,rfl,by trivial,by trivial⟩
def Zjl (T:Tx K w mg):Sp:=fun vs H Q E=>vs.length=1∧(∃v e,vs=[v]∧EntAt K H v e∧∀H' u,Same H H'->EntAt K H' u e.told->Q u H')
theorem ZoK:FnScope ["entry"] ["entry"] (Zw Zdf):=⟨rfl,rfl,rfl,by trivial,rfl,by trivial,by trivial⟩
def ZjH (T:Tx K w mg):Sp:=fun vs H Q E=>vs.length=1∧(∃v e,vs=[v]∧EntAt K H v e∧∀H' p,Same H H'->H p=none->H' p=some (.tup (e.told.key.map kV))->Q (.ref p) H')
theorem ZpE:FnScope ["thing"] ["thing"] (Zw Zcs):=⟨rfl,rfl,rfl,by trivial,rfl,by trivial,by trivial⟩
def ZnU (T:Tx K w mg):Sp:=fun vs H Q E=>vs.length=1∧(∃x,vs=[x]∧((∃ty,Kd K H x ty∧W.kitOne K ty (.type "str")=some false∧Q (.bl false) H)∨∃l,x=.str l∧Q (.bl (Vf l)) H))
theorem ZnL:FnScope ["one","other"] ["one","other"] (Zw ZbS):=⟨rfl,rfl,rfl,by trivial,rfl,by trivial,by trivial⟩
def Zjd (T:Tx K w mg):Sp:=fun vs H Q E=>vs.length=2∧(∃a b,vs=[.str a,.str b]∧∀H' p,Same H H'->H p=none->H' p=some (.tup [.str (Zf a b).1,.str (Zf a b).2])->Q (.ref p) H')
theorem Zjn:FnScope ["self"] ["self"] (Zw Zco):=⟨rfl,rfl,rfl,by trivial,rfl,by trivial,by trivial⟩
def ZiS (T:Tx K w mg):Sp:=fun vs H Q E=>vs.length=1∧(∃b dx,vs=[.ref b]∧H b=some (.ins T.c_Book dx [])∧∀H' k bi li ti su,BkAt K T.c_Book H' b dx k bi li ti su Vr->(∀c o,H c=some o->c≠b->H' c=some o)->H k=none->H bi=none->H li=none->H ti=none->H su=none->Q .non H')
theorem ZjJ:FnScope ["self","name"] ["self","name"] (Zw ZdA):=⟨rfl,rfl,rfl,by trivial,rfl,by trivial,by trivial⟩
def Zke (T:Tx K w mg):Sp:=fun vs H Q E=>vs.length=2∧(∃v x B,vs=[v,x]∧BkHas K T.c_Book H v B∧((∃ty,Kd K H x ty∧W.kitOne K ty (.type "str")=some false∧E (.ref T.c_NoPerson) none H)∨∃n,x=.str n∧(Z7 n B.kept=none->E (.ref T.c_NoPerson) none H)∧∀p,Z7 n B.kept=some p->Q (.ref p.2) H))
theorem Zlh:FnScope ["self","name"] ["self","name"] (Zw ZdC):=⟨rfl,rfl,rfl,by trivial,rfl,by trivial,by trivial⟩
def ZpL (T:Tx K w mg):Sp:=fun vs H Q E=>vs.length=2∧(∃v x B,vs=[v,x]∧BkHas K T.c_Book H v B∧((∃ty,Kd K H x ty∧W.kitOne K ty (.type "str")=some false∧E (.ref T.c_NoPerson) none H)∨∃n,x=.str n∧(Z7 n B.kept=none->E (.ref T.c_NoPerson) none H)∧∀p,Z7 n B.kept=some p->∀n' s d f m,p.1=.born n' s d f m->Q (.str s) H))
theorem Zm5:FnScope ["self","name"] ["self","name"] (Zw ZcL):=⟨rfl,rfl,rfl,by trivial,rfl,by trivial,by trivial⟩
def Zoa (T:Tx K w mg):Sp:=fun vs H Q E=>vs.length=2∧(∃v x B,vs=[v,x]∧BkHas K T.c_Book H v B∧((∃ty,Kd K H x ty∧W.kitOne K ty (.type "str")=some false∧E (.ref T.c_NoPerson) none H)∨∃n,x=.str n∧(Z7 n B.kept=none->E (.ref T.c_NoPerson) none H)∧∀p,Z7 n B.kept=some p->∀n' s d f m,p.1=.born n' s d f m->Q (.int d) H))
theorem ZmM:FnScope ["self","name","sort","day"] ["self","name","sort","day"] (Zw Zdw):=⟨rfl,rfl,rfl,by trivial,rfl,by trivial,by trivial⟩
def ZnT (T:Tx K w mg):Sp:=fun vs H Q E=>vs.length=4∧(∃v n s d B,vs=[v,.str n,.str s,.int d]∧BkHas K T.c_Book H v B∧(n≠""->Known B n)∧Q (.bl (XU B n s d)) H)
theorem ZfA:FnScope ["self","entry","names"] ["self","entry"] (Zw ZcM):=⟨rfl,rfl,rfl,by trivial,rfl,by trivial,by trivial⟩
def ZiT (T:Tx K w mg):Sp:=fun vs H Q E=>vs.length=2∧(∃v x B e,vs=[v,x]∧BkHas K T.c_Book H v B∧EntAt K H x e∧(∀n∈e.named,Known B n)∧∀H',Same H H'->Q (.bl (Wf B e)) H')
theorem ZgV:FnScope ["self","entry","name"] ["self","entry"] (Zw ZbE):=⟨rfl,rfl,rfl,by trivial,rfl,by trivial,by trivial⟩
def Zj2 (T:Tx K w mg):Sp:=fun vs H Q E=>vs.length=2∧(∃v x B e,vs=[v,x]∧BkHas K T.c_Book H v B∧EntAt K H x e∧e.Ok∧X5 B e=none∧∀H',Same H H'->Q .non H')
theorem Zma:FnScope ["self","letter","begin","end"] ["self","letter","begin","end"] (Zw ZcR):=⟨rfl,rfl,rfl,by trivial,rfl,by trivial,by trivial⟩
def Zji (T:Tx K w mg):Sp:=fun vs H Q E=>vs.length=4∧(∃b dx k bi li ti su B l n m,vs=[.ref b,.str l,.str n,.str m]∧BkAt K T.c_Book H b dx k bi li ti su B∧(Yn B l n).length≤61∧B.links.length≤900∧∀H' D,BkAt K T.c_Book H' b dx k bi li ti su { B with links:=Zp B.links (l,n) (D,ZB (Yn B l n++[m])) }->But [li] H H'->H D=none->Q .non H')
theorem ZmW:FnScope ["self","entry"] ["self","entry"] (Zw Zb3):=⟨rfl,rfl,rfl,by trivial,rfl,by trivial,by trivial⟩
def ZmC (T:Tx K w mg):Sp:=fun vs H Q E=>vs.length=2∧(∃b dx k bi li ti su B0 B n s d f m a,vs=[.ref b,.ref a]∧B.kept=B0++[(.born n s d f m,a)]∧H b=some (.ins T.c_Book dx (Vu k bi li ti su))∧H bi=some (.dK (Bk.bornD B0))∧Z7 n B0=none∧B0.length≤900∧SqT K H a ((Ent.born n s d f m).row.map kV)∧BkAt K T.c_Book (Zc H bi (.dK (Bk.bornD B.kept))) b dx k bi li ti su B∧B.links.length≤890∧(∀c,(lk B.links c).length≤61)∧∀H' ls,BkAt K T.c_Book H' b dx k bi li ti su { B with links:=ls }->(∀c,lk ls c=Xp (lk B.links) n f m c)->ls.length≤B.links.length+4->But [bi,li] H H'->Grows H B.links ls->Q .non H')
theorem ZpA:FnScope ["self","letter","name"] ["self","letter","name"] (Zw ZdG):=⟨rfl,rfl,rfl,by trivial,rfl,by trivial,by trivial⟩
def ZpD (T:Tx K w mg):Sp:=fun vs H Q E=>vs.length=3∧(∃v x y B,vs=[v,x,y]∧BkHas K T.c_Book H v B∧((∃ty,Kd K H x ty∧W.kitOne K ty (.type "str")=some false∧E (.ref T.c_NoWay) none H)∨∃l,x=.str l∧(Vf l=false->E (.ref T.c_NoWay) none H)∧(Vf l=true->((∃ty,Kd K H y ty∧W.kitOne K ty (.type "str")=some false∧E (.ref T.c_NoPerson) none H)∨∃n,y=.str n∧(Z7 n B.kept=none->E (.ref T.c_NoPerson) none H)∧(Known B n->∀H' D,Same H H'->H D=none->H' D=some (.lst ((Yn B l n).map V.str))->Q (.ref D) H')))))
theorem Zb7:FnScope ["self","one","other","day","ties","days"] ["self","one","other","day"] (Zw WH):=⟨rfl,rfl,rfl,by trivial,rfl,by trivial,by trivial⟩
def ZnP (T:Tx K w mg):Sp:=fun vs H Q E=>vs.length=4∧(∃v a c B,vs=[v,.str a,.str c,.non]∧BkHas K T.c_Book H v B∧Known B a∧Known B c∧(Yy B (Zf a c)).length≤900∧∀H',Same H H'->Q (.bl (Zby B a c)) H')
theorem ZbD:FnScope ["self","entry","days","begin","end"] ["self","entry"] (Zw Zcv):=⟨rfl,rfl,rfl,by trivial,rfl,by trivial,by trivial⟩
def Znh (T:Tx K w mg):Sp:=fun vs H Q E=>vs.length=2∧(∃b dx k bi li ti su B a kd p1 p2 d,vs=[.ref b,.ref a]∧SqT K H a [.str kd,.str p1,.str p2,.int d]∧BkAt K T.c_Book H b dx k bi li ti su B∧Known B p1∧Known B p2∧(B.ties.map (·.1)).Nodup∧B.ties.length≤800∧(Yy B (Zf p1 p2)).length≤800∧B.links.length≤880∧(∀c,(lk B.links c).length≤60)∧∀H' ls ts y,BkAt K T.c_Book H' b dx k bi li ti su { B with links:=ls,ties:=ts }->(ts.map (·.1)).Nodup->ts.length≤B.ties.length+1->(∀c,YZ ts c=if c=Zf p1 p2 then Zp (Yy B (Zf p1 p2)) d kd else Yy B c)->(∀c,lk ls c=ZI (ZI (lk B.links) (YN (Zp (Yy B (Zf p1 p2)) d kd)) p1 p2) (YN (Zp (Yy B (Zf p1 p2)) d kd)) p2 p1 c)->ls.length≤B.links.length+4->But [li,ti,y] H H'->(H y=none∨y∈B.ties.map (·.2.1))->GrowsT H B.ties ts->Grows H B.links ls->Q .non H')
theorem ZdE:FnScope ["self","entry","told","given"] ["self","entry"] (Zw ZbI):=⟨rfl,rfl,rfl,by trivial,rfl,by trivial,by trivial⟩
def Zoc (T:Tx K w mg):Sp:=fun vs H Q E=>vs.length=2∧(∃b dx k bi li ti su B x e,vs=[.ref b,x]∧BkAt K T.c_Book H b dx k bi li ti su B∧EntAt K H x e∧e.Ok∧X5 B e=none∧Room1 B∧∀H' B' y,BkAt K T.c_Book H' b dx k bi li ti su B'->Put B e B'->But [k,bi,li,ti,su,y] H H'->(H y=none∨y=bi∨y∈B.ties.map (·.2.1))->Grows H B.links B'.links->GrowsT H B.ties B'.ties->Q .non H')
theorem ZiX:FnScope ["self"] ["self"] (Zw ZcH):=⟨rfl,rfl,rfl,by trivial,rfl,by trivial,by trivial⟩
def Zl6 (T:Tx K w mg):Sp:=fun vs H Q E=>vs.length=1∧(∃v B,vs=[v]∧BkHas K T.c_Book H v B∧(YV B.kept).length<64∧∀H' D,Same H H'->H D=none->H' D=some (.lst ((ZB (YV B.kept)).map V.str))->Q (.ref D) H')
theorem Zl9:FnScope ["thing"] ["thing"] (Zw Zem):=⟨rfl,rfl,rfl,by trivial,rfl,by trivial,by trivial⟩
def ZmU (T:Tx K w mg):Sp:=fun vs H Q E=>vs.length=1∧(∃x,vs=[.str x]∧Q (.bl (VH x)) H)
theorem Zpu:FnScope ["self"] ["self"] (Zw ZdV):=⟨rfl,rfl,rfl,by trivial,rfl,by trivial,by trivial⟩
def ZjU (T:Tx K w mg):Sp:=fun vs H Q E=>vs.length=1∧(∃o dx,vs=[.ref o]∧H o=some (.ins T.c_Tree dx [])∧∀H' dl sl pl tl ul,TrAt T.c_Tree H' o dx dl sl pl tl ul U5->But [o] H H'->H dl=none->H sl=none->H pl=none->H tl=none->H ul=none->Q .non H')
theorem Zj7:FnScope ["self","number","sort"] ["self","number","sort"] (Zw ZbP):=⟨rfl,rfl,rfl,by trivial,rfl,by trivial,by trivial⟩
def Zk4 (T:Tx K w mg):Sp:=fun vs H Q E=>vs.length=3∧(∃(o dx dl sl pl tl ul:Addr) (t:Tr) (i:Nat) (s:Str),vs=[.ref o,.int i,.str s]∧TrAt T.c_Tree H o dx dl sl pl tl ul t∧i<t.sorts.length∧TrOk t∧∀H',But [o,sl] H H'->TrAt T.c_Tree H' o dx dl sl pl tl ul (t.ask i s)->Q .non H')
theorem ZkC:FnScope ["self","later"] ["self","later"] (Zw Zb6):=⟨rfl,rfl,rfl,by trivial,rfl,by trivial,by trivial⟩
def Zjj (T:Tx K w mg):Sp:=fun vs H Q E=>vs.length=2∧(∃(o dx dl sl pl tl ul:Addr) (t:Tr) (k:Int),vs=[.ref o,.int k]∧TrAt T.c_Tree H o dx dl sl pl tl ul t∧TrOk t∧∀H',But [o,dl,sl] H H'->TrAt T.c_Tree H' o dx dl sl pl tl ul (t.grow k)->Q (.int t.days.length) H')
theorem Zio:FnScope ["self","letter","child"] ["self","letter"] (Zw Zc1):=⟨rfl,rfl,rfl,by trivial,rfl,by trivial,by trivial⟩
def ZjK (T:Tx K w mg):Sp:=fun vs H Q E=>vs.length=2∧(∃(o dx dl sl pl tl ul:Addr) (t:Tr) (l:Str),vs=[.ref o,.str l]∧TrAt T.c_Tree H o dx dl sl pl tl ul t∧TrOk t∧t.days.length≤50∧t.par.length≤50∧(l="F"∨l="M")∧∀H',But [o,dl,sl,pl] H H'->TrAt T.c_Tree H' o dx dl sl pl tl ul (t.goUp l)->Q .non H')
theorem ZfS:FnScope ["self","step","begin"] ["self","step"] (Zw ZdL):=⟨rfl,rfl,rfl,by trivial,rfl,by trivial,by trivial⟩
def Zks (T:Tx K w mg):Sp:=fun vs H Q E=>vs.length=2∧(∃(o dx dl sl pl tl ul:Addr) (t:Tr) (s:Str),vs=[.ref o,.str s]∧TrAt T.c_Tree H o dx dl sl pl tl ul t∧TrOk t∧t.days.length≤50∧t.par.length≤50∧t.tak.length≤50∧t.uni.length≤50∧s∈Zs∧∀H',But [o,dl,sl,pl,tl,ul] H H'->TrAt T.c_Tree H' o dx dl sl pl tl ul (t.go s)->Q .non H')
theorem ZlQ:FnScope ["number"] ["number"] (Zw ZbK):=⟨rfl,rfl,rfl,by trivial,rfl,by trivial,by trivial⟩
def ZiW (T:Tx K w mg):Sp:=fun vs H Q E=>vs.length=1∧(∃i:Nat,vs=[.int i]∧i<26∧Q (.str (Ze i)) H)
theorem Zjv:FnScope ["tree","letter","number"] ["tree","letter","number"] (Zw ZeA):=⟨rfl,rfl,rfl,by trivial,rfl,by trivial,by trivial⟩
def ZlP (T:Tx K w mg):Sp:=fun vs H Q E=>vs.length=3∧(∃(o dx dl sl pl tl ul:Addr) (t:Tr) (l:Str) (i:Nat),vs=[.ref o,.str l,.int i]∧TrAt T.c_Tree H o dx dl sl pl tl ul t∧(∀q∈t.par,q.2<26)∧∀H',Same H H'->Q (.str (Yh t l i)) H')
theorem Zdx:FnScope ["tree","number","father","mother"] ["tree","number"] (Zw ZbF):=⟨rfl,rfl,rfl,by trivial,rfl,by trivial,by trivial⟩
def Zkn (T:Tx K w mg):Sp:=fun vs H Q E=>vs.length=2∧(∃(o dx dl sl pl tl ul:Addr) (t:Tr) (i:Nat),vs=[.ref o,.int i]∧TrAt T.c_Tree H o dx dl sl pl tl ul t∧TrOk t∧(∀q∈t.par,q.2<26)∧i<t.days.length∧i<26∧∀H' a,Same H H'->H a=none->H' a=some (.tup ((XV t i).row.map kV))->Q (.ref a) H')
theorem VD:FnScope ["tree","book","number","day","child","taker","one","other"] ["tree"] (Zw Jz):=⟨rfl,rfl,rfl,by trivial,rfl,by trivial,by trivial⟩
def ZpH (T:Tx K w mg):Sp:=fun vs H Q E=>vs.length=1∧(∃(o dx dl sl pl tl ul:Addr) (t:Tr) (k:Nat),vs=[.ref o]∧TrAt T.c_Tree H o dx dl sl pl tl ul t∧TI t k∧k≤24∧t.tak.length+t.uni.length≤24∧t.clash=false∧YS T.tb2 H∧∀H' b B,SameX H H'->Lams T.tb2 H H'->YS T.tb2 H'->BkHas K T.c_Book H' (.ref b) B->BT t B->Q (.ref b) H')
theorem Zdu:FnScope ["way","tree","step"] ["way"] (Zw Zd9):=⟨rfl,rfl,rfl,by trivial,rfl,by trivial,by trivial⟩
def Zna (T:Tx K w mg):Sp:=fun vs H Q E=>vs.length=1∧(∃(p:Addr) (way:List Str),vs=[.ref p]∧SqT K H p (way.map V.str)∧(∀s∈way,s∈Zs)∧way.length≤24∧YS T.tb2 H∧(∀H',SameX H H'->Lams T.tb2 H H'->YS T.tb2 H'->(Z2 way).clash=true->Q .non H')∧∀H' a b B,SameX H H'->Lams T.tb2 H H'->YS T.tb2 H'->(Z2 way).clash=false->H' a=some (.tup [.ref b,.str (Ze 0),.str (Ze (Z2 way).here)])->BkHas K T.c_Book H' (.ref b) B->BT (Z2 way) B->Q (.ref a) H')
theorem ZnK:FnScope ["book","step","name"] ["book","step","name"] (Zw Zep):=⟨rfl,rfl,rfl,by trivial,rfl,by trivial,by trivial⟩
def ZlB (T:Tx K w mg):Sp:=fun vs H Q E=>vs.length=3∧(∃v s n B,vs=[v,.str s,.str n]∧BkHas K T.c_Book H v B∧s∈Zs∧Known B n∧∀H' D',Same H H'->H D'=none->H' D'=some (.lst ((Yu B s n).map V.str))->Q (.ref D') H')
theorem Jg:FnScope ["one","steps","lead","layers","step","came","name","reached"] ["one","steps","lead"] (Zw Zei):=⟨rfl,rfl,rfl,by trivial,rfl,by trivial,by trivial⟩
def ZnE (T:Tx K w mg):Sp:=fun vs H Q E=>vs.length=3∧(∃one p f b way B pool,vs=[.str one,.ref p,.ref f]∧Zi0 f b H∧SqT K H p (way.map V.str)∧(∀s∈way,s∈Zs)∧BkHas K T.c_Book H (.ref b) B∧Clo B pool∧Known B one∧way.length≤100∧∀H' D' (ds:List V) (d:Addr) (ks:List (Str×V)),Same H H'->H D'=none->H' D'=some (.lst (ds++[.ref d]))->H' d=some (.dK (ks.map fun p=>(.inr p.1,p.2)))->(ks.map (·.1)).Nodup->(∀x,x∈ks.map (·.1)↔X0 (Yu B) way (·=one) x)->Q (.ref D') H')
theorem Zj4:FnScope ["book","way","name"] ["book","way","name"] (Zw U3):=⟨rfl,rfl,rfl,by trivial,rfl,by trivial,by trivial⟩
def ZkU (T:Tx K w mg):Sp:=fun vs H Q E=>vs.length=3∧(∃v p x way B,vs=[v,.ref p,x]∧BkHas K T.c_Book H v B∧Xg T.tb H∧SqT K H p (way.map V.str)∧((Zjt K H B x∧E (.ref T.c_NoPerson) none H)∨∃n pool,x=.str n∧Known B n∧Clo B pool∧(∀s∈way,s∈Zs)∧way.length≤100∧∀H' D' xs,SameX H H'->Lams T.tb H H'->Xg T.tb H'->H D'=none->H' D'=some (.lst (xs.map V.str))->SrtOf (X0 (Yu B) way (·=n)) xs->Q (.ref D') H'))
theorem Zol:FnScope ["told","way"] ["told","way"] (Zw Zev):=⟨rfl,rfl,rfl,by trivial,rfl,by trivial,by trivial⟩
def Znn (T:Tx K w mg):Sp:=fun vs H Q E=>vs.length=2∧(∃(a p b:Addr) (x y:Str) (way pool:List Str) (B:Bk),vs=[.ref a,.ref p]∧H a=some (.tup [.ref b,.str x,.str y])∧BkHas K T.c_Book H (.ref b) B∧SqT K H p (way.map V.str)∧(∀s∈way,s∈Zs)∧way.length≤24∧Known B x∧Clo B pool∧Xg T.tb H∧∀H' r,SameX H H'->Lams T.tb H H'->Xg T.tb H'->(r=true↔X0 (Yu B) way (·=x) y)->Q (.bl r) H')
theorem ZgR:FnScope ["one","other","told"] ["one","other"] (Zw Zeg):=⟨rfl,rfl,rfl,by trivial,rfl,by trivial,by trivial⟩
def ZlI (T:Tx K w mg):Sp:=fun vs H Q E=>vs.length=2∧(∃(p1 p2:Addr) (w1 w2:List Str),vs=[.ref p1,.ref p2]∧SqT K H p1 (w1.map V.str)∧(∀s∈w1,s∈Zs)∧w1.length≤24∧SqT K H p2 (w2.map V.str)∧(∀s∈w2,s∈Zs)∧w2.length≤24∧Xg T.tb H∧YS T.tb2 H∧∀H' r,SameX H H'->Xg T.tb H'->YS T.tb2 H'->(r=true↔Xc w1 w2)->Q (.bl r) H')
theorem Zpr:FnScope ["one","other"] ["one","other"] (Zw ZcO):=⟨rfl,rfl,rfl,by trivial,rfl,by trivial,by trivial⟩
def Znr (T:Tx K w mg):Sp:=fun vs H Q E=>vs.length=2∧(∃(p1 p2:Addr) (w1 w2:List Str),vs=[.ref p1,.ref p2]∧SqT K H p1 (w1.map V.str)∧(∀s∈w1,s∈Zs)∧w1.length≤24∧SqT K H p2 (w2.map V.str)∧(∀s∈w2,s∈Zs)∧w2.length≤24∧Xg T.tb H∧YS T.tb2 H∧∀H' r,SameX H H'->Xg T.tb H'->YS T.tb2 H'->(r=true↔Xc w1 w2∧Xc w2 w1)->Q (.bl r) H')
theorem Zbh:FnScope ["one","other","way","against","told"] ["one","other"] (Zw Zc7):=⟨rfl,rfl,rfl,by trivial,rfl,by trivial,by trivial⟩
def Zpe (T:Tx K w mg):Sp:=fun vs H Q E=>vs.length=2∧(∃(p1 p2:Addr) (w1 w2:List Str),vs=[.ref p1,.ref p2]∧SqT K H p1 (w1.map V.str)∧(∀s∈w1,s∈Zs)∧w1.length≤24∧SqT K H p2 (w2.map V.str)∧(∀s∈w2,s∈Zs)∧w2.length≤24∧Xg T.tb H∧YS T.tb2 H∧(∀H',SameX H H'->Xg T.tb H'->YS T.tb2 H'->Xc w1 w2->Xc w2 w1->Q .non H')∧∀H' a b B (w v:List Str),SameX H H'->Xg T.tb H'->YS T.tb2 H'->TwoW w1 w2 w v->(Z2 w).clash=false->¬Xc w v->H' a=some (.tup [.ref b,.str (Ze 0),.str (Ze (Z2 w).here)])->BkHas K T.c_Book H' (.ref b) B->BT (Z2 w) B->Q (.ref a) H')
theorem WP:FnScope ["_law_cells","_law_way","_law_sort","_law_cell","_law_step_here","_law_last"] ["_law_cells"] (Zw Zcc):=⟨rfl,rfl,rfl,by trivial,rfl,by trivial,by trivial⟩
def Zin (T:Tx K w mg):Sp:=fun vs H Q E=>vs.length=1∧(∃(l:Addr) (cs:List Int),vs=[.ref l]∧SqL K H l (cs.map V.int)∧cs.length≤12∧∀H' p' (way':List Str),Same H H'->SqT K H' p' (way'.map V.str)->(∀s∈way',s∈Zs)->way'.length=cs.length->Q (.ref p') H')
theorem Zbo:FnScope ["_law_land","_law_step_here","_law_one","_law_people","_law_takings","_law_unions"] ["_law_land","_law_step_here","_law_one"] (Zw Zeq):=⟨rfl,rfl,rfl,by trivial,rfl,by trivial,by trivial⟩
def ZkB (T:Tx K w mg):Sp:=fun vs H Q E=>vs.length=3∧(∃(a:Addr) (s:Str) (i:Nat) (L:Ld),vs=[.ref a,.str s,.int i]∧LdAt K H a L∧LOk L∧s∈Zs∧i<L.pe.length∧∀H' D (zs:List Nat),Same H H'->H D=none->H' D=some (.lst (zs.map fun z:Nat=>V.int z))->(∀j,j∈zs↔RL L s i j)->zs.length≤900->Q (.ref D) H')
theorem VY:FnScope ["_law_land","_law_way","_law_one","_law_found","_law_step_here","_law_ahead","_law_here","_law_there"] ["_law_land","_law_way","_law_one"] (Zw ZcW):=⟨rfl,rfl,rfl,by trivial,rfl,by trivial,by trivial⟩
def Zm0 (T:Tx K w mg):Sp:=fun vs H Q E=>vs.length=3∧(∃(a p:Addr) (way:List Str) (i:Nat) (L:Ld),vs=[.ref a,.ref p,.int i]∧LdAt K H a L∧LOk L∧SqT K H p (way.map V.str)∧(∀s∈way,s∈Zs)∧way.length≤24∧i<L.pe.length∧∀H' D (ks:List (Nat×V)),Same H H'->H D=none->H' D=some (.dK (Xk ks))->(ks.map (·.1)).Nodup->(∀j,j∈ks.map (·.1)↔WT (RL L) way i j)->Q (.ref D) H')
theorem Wq:FnScope ["_law_book","_law_names","_law_people","_law_takings","_law_unions","_law_k","_law_above","_law_letter","_law_found","_law_high","_law_other_here"] ["_law_book"] (Zw Zef):=⟨rfl,rfl,rfl,by trivial,rfl,by trivial,by trivial⟩
def ZnN (T:Tx K w mg):Sp:=fun vs H Q E=>vs.length=1∧(∃(b:Addr) (B:Bk) (t:Tr) (k:Nat),vs=[.ref b]∧BkHas K T.c_Book H (.ref b) B∧BT t B∧TI t k∧t.clash=false∧t.days.length≤8∧t.tak.length≤7∧t.uni.length≤7∧∀H' a L,Same H H'->LdAt K H' a L->LOk L->LdT t L->Q (.ref a) H')
theorem Je:FnScope ["_law_way","_law_cells","_law_at","_law_step_here","_law_back","_law_other_here","_law_out"] ["_law_way","_law_cells"] (Zw ZcU):=⟨rfl,rfl,rfl,by trivial,rfl,by trivial,by trivial⟩
def Zni (T:Tx K w mg):Sp:=fun vs H Q E=>vs.length=2∧(∃(p l:Addr) (way:List Str) (cs:List Int),vs=[.ref p,.ref l]∧SqT K H p (way.map V.str)∧(∀s∈way,s∈Zs)∧way.length≤6∧SqL K H l (cs.map V.int)∧cs.length≤9∧∀H' p' (way':List Str),Same H H'->SqT K H' p' (way'.map V.str)->(∀s∈way',s∈Zs)->way'.length≤7->Q (.ref p') H')
theorem Zad:FnScope ["_law_told","_law_one","_law_other_here","_law_names","_law_land","_law_start","_law_end"] ["_law_told","_law_one","_law_other_here"] (Zw Zdv):=⟨rfl,rfl,rfl,by trivial,rfl,by trivial,by trivial⟩
def Zmd (T:Tx K w mg):Sp:=fun vs H Q E=>vs.length=3∧(∃(a p1 p2 b:Addr) (w1 w2 w v:List Str) (B:Bk),vs=[.ref a,.ref p1,.ref p2]∧H a=some (.tup [.ref b,.str (Ze 0),.str (Ze (Z2 w).here)])∧BkHas K T.c_Book H (.ref b) B∧BT (Z2 w) B∧SqT K H p1 (w1.map V.str)∧(∀s∈w1,s∈Zs)∧w1.length≤7∧SqT K H p2 (w2.map V.str)∧(∀s∈w2,s∈Zs)∧w2.length≤7∧TwoW w1 w2 w v∧(Z2 w).clash=false∧¬Xc w v∧∀H',Same H H'->Q (.bl true) H')
theorem Vj:FnScope ["_law_script","_law_k","_law_cells","_law_one","_law_other_here","_law_both","_law_first","_law_second","_law_told"] ["_law_script"] (Zw Zej):=⟨rfl,rfl,rfl,by trivial,rfl,by trivial,by trivial⟩
def Zib (T:Tx K w mg):Sp:=fun vs H Q E=>vs.length=1∧(Zae K T.tb T.tb2 vs H Q E)
abbrev ZbX (P:Program) (base:Heap) (T:Tx K w mg):Prop:=FnOk P w K mg base (Zz P w) 1 T.WO.a (ZC K T.WO.a) ["thing"] (Zpd T)
abbrev Zcf (P:Program) (base:Heap) (T:Tx K w mg):Prop:=FnOk P w K mg base (Zz P w) 1 T.YE.a (ZC K T.YE.a) ["thing"] (Zhn T)
abbrev ZeF (P:Program) (base:Heap) (T:Tx K w mg):Prop:=FnOk P w K mg base (Zz P w) 2 T.Xw.a (ZC K T.Xw.a) ["thing"] (Zhz T)
abbrev ZfW (P:Program) (base:Heap) (T:Tx K w mg):Prop:=FnOk P w K mg base (Zz P w) 2 T.WE.a (ZC K T.WE.a) ["thing"] (ZiE T)
abbrev ZfB (P:Program) (base:Heap) (T:Tx K w mg):Prop:=FnOk P w K mg base (Zz P w) 1 T.WG.a (ZC K T.WG.a) ["thing"] (Zie T)
abbrev ZgJ (P:Program) (base:Heap) (T:Tx K w mg):Prop:=FnOk P w K mg base (Zz P w) 2 T.Wg.a (ZC K T.Wg.a) ["thing"] (Zgo T)
abbrev ZhC (P:Program) (base:Heap) (T:Tx K w mg):Prop:=FnOk P w K mg base (Zz P w) 3 T.Up.a (ZC K T.Up.a) ["parts","checks"] (ZlR T)
abbrev Zii (P:Program) (base:Heap) (T:Tx K w mg):Prop:=FnOk P w K mg base (Zz P w) 4 T.Ug.a (ZC K T.Ug.a) ["thing"] (ZlF T)
abbrev Zd3 (P:Program) (base:Heap) (T:Tx K w mg):Prop:=FnOk P w K mg base (Zz P w) 1 T.WC.a (ZC K T.WC.a) ["entry"] (Znv T)
abbrev ZdX (P:Program) (base:Heap) (T:Tx K w mg):Prop:=FnOk P w K mg base (Zz P w) 1 T.WD.a (ZC K T.WD.a) ["entry"] (ZpB T)
abbrev Zfz (P:Program) (base:Heap) (T:Tx K w mg):Prop:=FnOk P w K mg base (Zz P w) 1 T.Uf.a (ZC K T.Uf.a) ["entry"] (ZkO T)
abbrev ZdT (P:Program) (base:Heap) (T:Tx K w mg):Prop:=FnOk P w K mg base (Zz P w) 2 T.WX.a (ZC K T.WX.a) ["entry"] (Zjl T)
abbrev ZcB (P:Program) (base:Heap) (T:Tx K w mg):Prop:=FnOk P w K mg base (Zz P w) 3 T.WA.a (ZC K T.WA.a) ["entry"] (ZjH T)
abbrev ZeG (P:Program) (base:Heap) (T:Tx K w mg):Prop:=FnOk P w K mg base (Zz P w) 1 T.V7.a (ZC K T.V7.a) ["thing"] (ZnU T)
abbrev Zeh (P:Program) (base:Heap) (T:Tx K w mg):Prop:=FnOk P w K mg base (Zz P w) 1 T.W1.a (ZC K T.W1.a) ["one","other"] (Zjd T)
abbrev ZhF (P:Program) (base:Heap) (T:Tx K w mg):Prop:=FnOk P w K mg base (Zz P w) 1 T.UO.a (ZC K T.UO.a) ["self"] (ZiS T)
abbrev Jp (P:Program) (base:Heap) (T:Tx K w mg):Prop:=FnOk P w K mg base (Zz P w) 1 T.Xh.a (ZC K T.Xh.a) ["self","name"] (Zke T)
abbrev ZaS (P:Program) (base:Heap) (T:Tx K w mg):Prop:=FnOk P w K mg base (Zz P w) 2 T.Wy.a (ZC K T.Wy.a) ["self","name"] (ZpL T)
abbrev Zbr (P:Program) (base:Heap) (T:Tx K w mg):Prop:=FnOk P w K mg base (Zz P w) 2 T.Xx.a (ZC K T.Xx.a) ["self","name"] (Zoa T)
abbrev ZhD (P:Program) (base:Heap) (T:Tx K w mg):Prop:=FnOk P w K mg base (Zz P w) 3 T.VA.a (ZC K T.VA.a) ["self","name","sort","day"] (ZnT T)
abbrev Zig (P:Program) (base:Heap) (T:Tx K w mg):Prop:=FnOk P w K mg base (Zz P w) 4 T.UY.a (ZC K T.UY.a) ["self","entry"] (ZiT T)
abbrev Ziy (P:Program) (base:Heap) (T:Tx K w mg):Prop:=FnOk P w K mg base (Zz P w) 5 T.Jl.a (ZC K T.Jl.a) ["self","entry"] (Zj2 T)
abbrev Zbj (P:Program) (base:Heap) (T:Tx K w mg):Prop:=FnOk P w K mg base (Zz P w) 1 T.Y5.a (ZC K T.Y5.a) ["self","letter","begin","end"] (Zji T)
abbrev ZfT (P:Program) (base:Heap) (T:Tx K w mg):Prop:=FnOk P w K mg base (Zz P w) 2 T.U6.a (ZC K T.U6.a) ["self","entry"] (ZmC T)
abbrev Za7 (P:Program) (base:Heap) (T:Tx K w mg):Prop:=FnOk P w K mg base (Zz P w) 2 T.XE.a (ZC K T.XE.a) ["self","letter","name"] (ZpD T)
abbrev ZeW (P:Program) (base:Heap) (T:Tx K w mg):Prop:=FnOk P w K mg base (Zz P w) 2 T.a_Book_stands T.fd_Book_stands ["self","one","other","day"] (ZnP T)
abbrev ZfH (P:Program) (base:Heap) (T:Tx K w mg):Prop:=FnOk P w K mg base (Zz P w) 3 T.U1.a (ZC K T.U1.a) ["self","entry"] (Znh T)
abbrev Zhq (P:Program) (base:Heap) (T:Tx K w mg):Prop:=FnOk P w K mg base (Zz P w) 6 T.Wv.a (ZC K T.Wv.a) ["self","entry"] (Zoc T)
abbrev ZdI (P:Program) (base:Heap) (T:Tx K w mg):Prop:=FnOk P w K mg base (Zz P w) 1 T.VI.a (ZC K T.VI.a) ["self"] (Zl6 T)
abbrev ZdZ (P:Program) (base:Heap) (T:Tx K w mg):Prop:=FnOk P w K mg base (Zz P w) 1 T.WY.a (ZC K T.WY.a) ["thing"] (ZmU T)
abbrev Zha (P:Program) (base:Heap) (T:Tx K w mg):Prop:=FnOk P w K mg base (Zz P w) 1 T.UM.a (ZC K T.UM.a) ["self"] (ZjU T)
abbrev Zcm (P:Program) (base:Heap) (T:Tx K w mg):Prop:=FnOk P w K mg base (Zz P w) 1 T.WL.a (ZC K T.WL.a) ["self","number","sort"] (Zk4 T)
abbrev Zc8 (P:Program) (base:Heap) (T:Tx K w mg):Prop:=FnOk P w K mg base (Zz P w) 1 T.XF.a (ZC K T.XF.a) ["self","later"] (Zjj T)
abbrev ZeN (P:Program) (base:Heap) (T:Tx K w mg):Prop:=FnOk P w K mg base (Zz P w) 2 T.Jx.a (ZC K T.Jx.a) ["self","letter"] (ZjK T)
abbrev ZfD (P:Program) (base:Heap) (T:Tx K w mg):Prop:=FnOk P w K mg base (Zz P w) 3 T.UP.a (ZC K T.UP.a) ["self","step"] (Zks T)
abbrev Zap (P:Program) (base:Heap) (T:Tx K w mg):Prop:=FnOk P w K mg base (Zz P w) 1 T.Yt.a (ZC K T.Yt.a) ["number"] (ZiW T)
abbrev ZfZ (P:Program) (base:Heap) (T:Tx K w mg):Prop:=FnOk P w K mg base (Zz P w) 2 T.WR.a (ZC K T.WR.a) ["tree","letter","number"] (ZlP T)
abbrev ZhN (P:Program) (base:Heap) (T:Tx K w mg):Prop:=FnOk P w K mg base (Zz P w) 3 T.Uw.a (ZC K T.Uw.a) ["tree","number"] (Zkn T)
abbrev ZhO (P:Program) (base:Heap) (T:Tx K w mg):Prop:=FnOk P w K mg base (Zz P w) 7 T.VQ.a (ZC K T.VQ.a) ["tree"] (ZpH T)
abbrev ZcK (P:Program) (base:Heap) (T:Tx K w mg):Prop:=FnOk P w K mg base (Zz P w) 8 T.WK.a (ZC K T.WK.a) ["way"] (Zna T)
abbrev Zdz (P:Program) (base:Heap) (T:Tx K w mg):Prop:=FnOk P w K mg base (Zz P w) 3 T.Uc.a (ZC K T.Uc.a) ["book","step","name"] (ZlB T)
abbrev Zgd (P:Program) (base:Heap) (T:Tx K w mg):Prop:=FnOk P w K mg base (Zz P w) 5 T.V3.a (ZC K T.V3.a) ["one","steps","lead"] (ZnE T)
abbrev Zh0 (P:Program) (base:Heap) (T:Tx K w mg):Prop:=FnOk P w K mg base (Zz P w) 6 T.VJ.a (ZC K T.VJ.a) ["book","way","name"] (ZkU T)
abbrev Zet (P:Program) (base:Heap) (T:Tx K w mg):Prop:=FnOk P w K mg base (Zz P w) 7 T.Wt.a (ZC K T.Wt.a) ["told","way"] (Znn T)
abbrev Zf6 (P:Program) (base:Heap) (T:Tx K w mg):Prop:=FnOk P w K mg base (Zz P w) 9 T.Ws.a (ZC K T.Ws.a) ["one","other"] (ZlI T)
abbrev Zfk (P:Program) (base:Heap) (T:Tx K w mg):Prop:=FnOk P w K mg base (Zz P w) 10 T.VW.a (ZC K T.VW.a) ["one","other"] (Znr T)
abbrev ZiH (P:Program) (base:Heap) (T:Tx K w mg):Prop:=FnOk P w K mg base (Zz P w) 9 T.WS.a (ZC K T.WS.a) ["one","other"] (Zpe T)
abbrev ZdS (P:Program) (base:Heap) (T:Tx K w mg):Prop:=FnOk P w K mg base (Zz P w) 1 T.WU.a (ZC K T.WU.a) ["_law_cells"] (Zin T)
abbrev Ziw (P:Program) (base:Heap) (T:Tx K w mg):Prop:=FnOk P w K mg base (Zz P w) 1 T.V6.a (ZC K T.V6.a) ["_law_land","_law_step_here","_law_one"] (ZkB T)
abbrev Zfc (P:Program) (base:Heap) (T:Tx K w mg):Prop:=FnOk P w K mg base (Zz P w) 2 T.WV.a (ZC K T.WV.a) ["_law_land","_law_way","_law_one"] (Zm0 T)
abbrev Ze7 (P:Program) (base:Heap) (T:Tx K w mg):Prop:=FnOk P w K mg base (Zz P w) 3 T.V5.a (ZC K T.V5.a) ["_law_book"] (ZnN T)
abbrev ZhG (P:Program) (base:Heap) (T:Tx K w mg):Prop:=FnOk P w K mg base (Zz P w) 2 T.Ut.a (ZC K T.Ut.a) ["_law_way","_law_cells"] (Zni T)
abbrev Zgm (P:Program) (base:Heap) (T:Tx K w mg):Prop:=FnOk P w K mg base (Zz P w) 4 T.Uy.a (ZC K T.Uy.a) ["_law_told","_law_one","_law_other_here"] (Zmd T)
abbrev Zg7 (P:Program) (base:Heap) (T:Tx K w mg):Prop:=FnOk P w K mg base (Zz P w) 11 T.V8.a (ZC K T.V8.a) ["_law_script"] (Zib T)
theorem ZpJ:(["name"]:List Str).Nodup:=by trivial
theorem Zpt:(["name","entry","self"]:List Str).Nodup:=by trivial
theorem ZoY:(["tied_on","day"]:List Str).Nodup:=by trivial
theorem Zlv:(["name","end"]:List Str).Nodup:=by trivial
theorem ZaU:(["_law_a","_law_b","_law_one"]:List Str).Nodup:=by trivial
theorem Zbd:(["_law_low","_law_high","_law_one"]:List Str).Nodup:=by trivial
theorem ZkP:(["_law_k","_law_one","_law_people","_law_step_here"]:List Str).Nodup:=by trivial
theorem Zkw:(["_law_high"]:List Str).Nodup:=by trivial
theorem Zn4:(["_law_high","_law_names"]:List Str).Nodup:=by trivial
end
section
variable {K:W.Frag} {mg:Str->Option Value}
def spC (K:W.Frag) (f:Vk->Bool):Sp:=fun vs H Q _=>vs.length=1∧∃x t,vs=[x]∧Vw K H x t∧∀H',Same H H'->Q (.bl (f t)) H'
def Fam (T:Tx K w mg):Addr->Sp->Prop:=fun f sp=>∃c,f=T.ad c∧sp=spC K (UJ c)
theorem ZmL {w:World} {X:Cx} (T:Tx K w mg) (h1:FnOk P w K mg base (Zz P w) 1 T.YE.a (ZC K T.YE.a) ["thing"] (Zhn T)) (h2:FnOk P w K mg base (Zz P w) 1 T.WG.a (ZC K T.WG.a) ["thing"] (Zie T))
 (h3:FnOk P w K mg base (Zz P w) 2 T.Xw.a (ZC K T.Xw.a) ["thing"] (Zhz T)) (h4:FnOk P w K mg base (Zz P w) 2 T.WE.a (ZC K T.WE.a) ["thing"] (ZiE T)) (h5:FnOk P w K mg base (Zz P w) 2 T.Wg.a (ZC K T.Wg.a) ["thing"] (Zgo T))
 (hr:Room 2 X.A) (e1:X.prog=P) (e2:X.w=w) (e3:X.K=K) (e4:X.mg=mg) (e5:X.base=base):Zfl X (Zz P w) (Fam T):=by
 subst e1 e2 e3 e4 e5;rintro f sp ⟨c,rfl,rfl⟩;cases c with
 |name=>exact ⟨1,_,_,h1,hr.mono (by decide),T.YE.F.kp,T.YE.b⟩
 |sort=>exact ⟨1,_,_,h2,hr.mono (by decide),T.WG.F.kp,T.WG.b⟩
 |day=>exact ⟨2,_,_,h3,hr,T.Xw.F.kp,T.Xw.b⟩
 |amount=>exact ⟨2,_,_,h4,hr,T.WE.F.kp,T.WE.b⟩
 |parent=>exact ⟨2,_,_,h5,hr,T.Wg.F.kp,T.Wg.b⟩
end
section
variable {w:World} {K:W.Frag} {mg:Str->Option Value}
theorem Zkx (T:Tx K w mg)  : ZbX P base T:=by
 refine Fun.okX (k:=0) T.WO.F ZnG (fun vs H Q E h=>h.1) (fun cdv A outer s H vs Q E hr h=>?_);obtain ⟨-,h⟩:=h;obtain ⟨x,t,rfl,hv,q⟩:=h;refine ⟨_,(Zi (Zx (X1 (XT K (by rfl) T.n_isinstance (Za (pv 0) (Za (X2 (v:=.ty "int") (by rfl) T.n_int ZaC rfl) Zb))) (XJ (Zmf (XT K (by rfl) T.n_isinstance (Za (pv 0) (Za (X2 (v:=.ty "bool") (by rfl) T.n_bool ZfC rfl) Zb)))))))),?_⟩;refine ⟨_,rfl,_,.ty "int",_,_,rfl,rfl,hv.kd,kI T t,_,rfl,?_⟩;cases t with
 |int i=>exact Z4 ⟨_,rfl,_,.ty "bool",_,_,rfl,rfl,hv.kd,T.k_int_bool,_,rfl,q _ (Same.refl H)⟩
 |bl=>exact Z4 ⟨_,rfl,_,.ty "bool",_,_,rfl,rfl,hv.kd,T.k_bool_bool,_,rfl,q _ (Same.refl H)⟩
 |_=>exact Z0 (q _ (Same.refl H))
theorem Zk8 (T:Tx K w mg)  : Zcf P base T:=by
 refine Fun.okX (k:=0) T.YE.F ZlJ (fun vs H Q E h=>h.1) (fun cdv A outer s H vs Q E hr h=>?_);obtain ⟨-,h⟩:=h;obtain ⟨x,t,rfl,hv,q⟩:=h
 refine ⟨_,(Zm (ZJ (PW.pt (Xy (XB (YO (XT K (by rfl) T.n_isinstance (Za (pv 0) (Za (X2 (v:=.ty "str") (by rfl) T.n_str Uz rfl) Zb))))) (Xy (ZE Zc9 (Yi Zf7 (by rfl) T.n_len Xa (Za (pv 0) Zb)) Zh (Zy _)) (W0 (ZE Zfr (Yi Zf7 (by rfl) T.n_len Xa (Za (pv 0) Zb)) Zh (Zy _)))))) (Zi (Zx Xu)) ZV)
   (Zi (Zx (Yi (Zdd rfl) (by rfl) T.n_all Zcj (Za (X9 (N:=["sign"]) (cl:=[]) (σc:=fun _=>[none]) rfl (Zho (L:=[(".0",.local),("sign",.local),("LETTERS",.globalImplicit)]) (by rfl) (by trivial) (by trivial) (by rfl) (by rfl) (by decide) (by rfl) (by simp)) (Znf (pv 0)) (fun _ _ _=>(ZR (i:=0) J4 rfl (Or.inl rfl))) (fun _ _ _=>Za6) (fun _ _ _=>(YM Zpm (pv 0) (Xs (v:=.str Zdy) (by rfl) T.m_LETTERS ⟨_,rfl⟩) (by rfl)))) Zb))))),?_⟩
 refine ⟨_,rfl,_,.ty "str",_,_,rfl,rfl,hv.kd,kS T t,_,rfl,?_⟩;cases t with
 |str z =>
  obtain ⟨e,hz⟩:=hv;subst e;have hs:z.length≤sizeLine:=QO (ZF (by omega));refine Z0 ⟨_,rfl,z,rfl,hs,_,_,rfl,rfl,_,rfl,?_⟩;by_cases h1:((z.length:Nat):Int)<1
  ·rw [Qu h1]
   have e:W9 (.str z)=false:=by
    rw [Zec];rw [Qr (show ¬1≤z.length by omega)];rfl
   rw [e] at q;exact Z4 (q _ (Same.refl H))
  rw [Qr h1];refine Z0 ⟨_,rfl,z,rfl,hs,_,_,rfl,rfl,_,rfl,?_⟩;by_cases h2:(8:Int)<((z.length:Nat):Int)
  ·rw [Qu h2]
   have e:W9 (.str z)=false:=by
    rw [Zec];rw [Qr (show ¬z.length≤8 by omega),Nw];rfl
   rw [e] at q;exact Z4 (q _ (Same.refl H))
  rw [Qr h2]
  have e:W9 (.str z)=(z.cps.toList.map Vo).all id:=by
   rw [Zec];rw [Qu (show 1≤z.length by omega),Qu (show z.length≤8 by omega),Gu];rfl
  rw [e] at q;have hl:z.cps.size=z.length:=rfl;refine Z0 ⟨_,rfl,z,rfl,?_⟩;refine Zbe ((z.cps.toList.map Vo).map V.bl) (by simp only [Qc,R3];exact Rp (Nat.le_of_eq hl) (ZF (by omega))) (fun σ=>∃o,σ=[o]) ⟨none,rfl⟩ ?_ ?_ ?_ ?_
  ·intro i H2 hi _;show i<z.cps.size;simpa using hi
  ·intro H2 _;show (((z.cps.toList.map Vo).map V.bl).length:Nat)=z.cps.size;simp
  ·rintro i σ H2 v H3 y hy ⟨o,rfl⟩ s2 ⟨e3,c,hc,ev⟩ C hC;subst e3 ev
   have ey:y=.bl (Vo c):=by
    have hc':z.cps.toList[i]?=some c:=by simpa using hc
    rw [Qo,Qo,hc'] at hy;exact (Qj hy).symm
   subst ey;exact ⟨_,rfl,_,_,rfl,rfl,hC _ _ ⟨_,rfl⟩ (Same.refl _)⟩
  ·intro D H2 hD s2 hl2;exact ⟨D,_,rfl,hl2,q _ s2⟩
 |_=>exact Z4 (q _ (Same.refl H))
theorem Zj9 (T:Tx K w mg) (UW:ZbX P base T):ZeF P base T:=by
 refine Fun.okX (k:=1) T.Xw.F Zki (fun vs H Q E h=>h.1) (fun cdv A outer s H vs Q E hr h=>?_);obtain ⟨-,h⟩:=h;obtain ⟨x,t,rfl,hv,q⟩:=h;refine ⟨_,(Zi (Zx (X1 (ZO UW (hr.mono (by decide)) (by rfl) T.WO.m T.WO.F.kp T.WO.b .nil Zu (Za (pv 0) Zb)) (XJ (YM ZcF (Yi ZmR (by rfl) T.n_abs Zly (Za (pv 0) Zb)) (Z1 ZgQ Zh Zh) (Zy _)))))),?_⟩;refine ⟨_,rfl,rfl,x,t,rfl,hv,fun H1 s1=>⟨_,rfl,?_⟩⟩;cases t with
 |int i =>
  cases (show x=.int i from hv);exact Z4 ⟨_,rfl,i,rfl,_,_,rfl,rfl,(show Zcl 10 18 from ⟨by decide,by decide,by trivial⟩),_,_,rfl,rfl,q _ s1⟩
 |_=>exact Z0 (q _ s1)
theorem Zkd (T:Tx K w mg) (UW:ZbX P base T):ZfW P base T:=by
 refine Fun.okX (k:=1) T.WE.F ZoT (fun vs H Q E h=>h.1) (fun cdv A outer s H vs Q E hr h=>?_);obtain ⟨-,h⟩:=h;obtain ⟨x,t,rfl,hv,q⟩:=h;refine ⟨_,(Zi (Zx (X1 (ZO UW (hr.mono (by decide)) (by rfl) T.WO.m T.WO.F.kp T.WO.b .nil Zu (Za (pv 0) Zb)) (X1 (YM UR (pv 0) Zh (Zy _)) (XJ (YM ZcF (pv 0) (Z1 ZgQ Zh Zh) (Zy _))))))),?_⟩;refine ⟨_,rfl,rfl,x,t,rfl,hv,fun H1 s1=>⟨_,rfl,?_⟩⟩;cases t with
 |int i =>
  cases (show x=.int i from hv);refine Z4 ⟨_,rfl,_,_,rfl,rfl,_,rfl,?_⟩;have q1:=q _ s1;rw [Zjf] at q1;by_cases h1:1≤i
  ·rw [Qu h1] at q1 ⊢;exact Z4 ⟨_,rfl,_,_,rfl,rfl,(show Zcl 10 18 from ⟨by decide,by decide,by trivial⟩),_,_,rfl,rfl,q1⟩
  ·rw [Qr h1] at q1 ⊢;exact Z0 q1
 |_=>exact Z0 (q _ s1)
theorem ZkI (T:Tx K w mg)  : ZfB P base T:=by
 refine Fun.okX (k:=0) T.WG.F ZnB (fun vs H Q E h=>h.1) (fun cdv A outer s H vs Q E hr h=>?_);obtain ⟨-,h⟩:=h;obtain ⟨x,t,rfl,hv,q⟩:=h;refine ⟨_,(Zi (Zx (X1 (XT K (by rfl) T.n_isinstance (Za (pv 0) (Za (X2 (v:=.ty "str") (by rfl) T.n_str Uz rfl) Zb))) (XJ (YM WQ (pv 0) (ZQ (Za Zk (Za Zk (Za Zk Zb)))) (by rfl)))))),?_⟩;refine ⟨_,rfl,_,.ty "str",_,_,rfl,rfl,hv.kd,kS T t,_,rfl,?_⟩;cases t with
 |str z =>
  cases (show x=.str z from hv.1);refine Z4 ⟨_,rfl,by decide,fun p hp=>⟨p,_,rfl,.inr (.of Zg),rfl,rfl,?_⟩⟩
  have e:(if false=true then !Xz (.str z) [.str "he",.str "she",.str ""] else Xz (.str z) [.str "he",.str "she",.str ""])=Uq (.str z):=by
   rw [Qa (by decide)];exact Zj0 z
  rw [e];exact q _ (Zj hp)
 |_=>exact Z0 (q _ (Same.refl H))
theorem Zpl (T:Tx K w mg) (U7:Zcf P base T):ZgJ P base T:=by
 refine Fun.okX (k:=1) T.Wg.F Zky (fun vs H Q E h=>h.1) (fun cdv A outer s H vs Q E hr h=>?_);obtain ⟨-,h⟩:=h;obtain ⟨x,t,rfl,hv,q⟩:=h;refine ⟨_,(Zi (Zx (ZbV (ZO U7 (hr.mono (by decide)) (by rfl) T.YE.m T.YE.F.kp T.YE.b .nil Zu (Za (pv 0) Zb)) (XJ (X1 (XT K (by rfl) T.n_isinstance (Za (pv 0) (Za (X2 (v:=.ty "str") (by rfl) T.n_str Uz rfl) Zb))) (XJ (YM Z3 (pv 0) Zk (Zy _)))))))),?_⟩;refine ⟨_,rfl,rfl,x,t,rfl,hv,fun H1 s1=>⟨_,rfl,?_⟩⟩;have q1:=q _ s1;unfold Zag at q1;cases hn:W9 t with
 |true =>
  rw [hn] at q1;exact Z4 q1
 |false =>
  rw [hn,Bool.false_or] at q1;refine Z0 ⟨_,rfl,_,.ty "str",_,_,rfl,rfl,(hv.mono s1).kd,kS T t,_,rfl,?_⟩;cases t with
  |str z =>
   cases (show x=.str z from hv.1)
   have e:decide (V.str z=V.str "")=decide (z=""):=by
    rw [Rh];simp
   exact Z4 ⟨_,rfl,rfl,by rw [e];exact q1⟩
  |_=>exact Z0 q1
theorem Zom (T:Tx K w mg) (U7:Zcf P base T) (ZcC:ZeF P base T) (Zdq:ZfW P base T) (Zc3:ZfB P base T) (Zdt:ZgJ P base T):ZhC P base T:=by
 refine Fun.okX (k:=2) T.Up.F Zm4 (fun vs H Q E h=>h.1) (fun cdv A outer s H vs Q E hr h=>?_);obtain ⟨-,h⟩:=h;obtain ⟨a,b,xs,ts,cs,rfl,ha,hx,hb,hc,q⟩:=h
 refine ⟨_,(Zm (ZJ (ZE WF (Yi XR (by rfl) T.n_len Xa (Za (pv 0) Zb)) (Yi XR (by rfl) T.n_len Xa (Za (pv 1) Zb)) (Zy _)) (Zi (Zx Xu)) ZV)
   (Zi (Zx (Yi (Zdd rfl) (by rfl) T.n_all Zcj (Za (X9 (N:=["check","part"]) (cl:=[]) (σc:=fun _=>[none,none]) rfl (Zho (L:=[(".0",.local),("check",.local),("part",.local)]) (by rfl) (by trivial) (by trivial) (by rfl) (by rfl) (by decide) (by rfl) (by simp)) (ZjR K (by rfl) T.n_zip (Za (pv 1) (Za (pv 0) Zb))) (fun _ _ _=>(J7 (n:=2) K rfl (Yx (ZR (i:=0) UN rfl (Or.inl rfl)) (Yx (ZR (i:=1) UN rfl (Or.inl rfl)) X7)))) (fun _ _ _=>Za6) (fun _ _ _=>(Zmb (Fam:=Fam T) (i:=0) (ZmL T U7 Zc3 ZcC Zdq Zdt (hr.mono (by decide)) rfl rfl rfl rfl rfl) rfl (Or.inl rfl) Zu (Za (pv 1) Zb)))) Zb))))),?_⟩
 have lx:=hx.length;refine ⟨_,rfl,a,_,rfl,.inr ha,_,rfl,b,_,rfl,.inr hb,rfl,_,rfl,?_⟩
 have e0:(!decide (V.int (xs.length:Nat)=V.int ((cs.map fun c=>V.ref (T.ad c)).length:Nat)))=!decide (ts.length=cs.length):=by
  rw [lx,Qc]
  congr 1
  rw [Rh];simp only [G6,V.int.injEq];omega
 rw [e0];unfold Wh at q;by_cases hl:ts.length=cs.length
 ·rw [Qu hl] at q ⊢;rw [GA] at q;have lo:(ZU cs ts).length=cs.length:=ZgF hl;refine Z0 ⟨_,rfl,_,rfl,b,a,rfl,⟨_,hb⟩,⟨_,ha⟩,?_⟩;refine Zbe ((ZU cs ts).map V.bl) (by rw [Qc,lo];exact ZF (by omega)) (fun σ=>∃o u,σ=[o,u]) ⟨none,none,rfl⟩ ?_ ?_ ?_ ?_
  ·intro i H2 hi s2;rw [Qc,lo] at hi;have h1:i<(cs.map fun c=>V.ref (T.ad c)).length:=by rw [Qc];exact hi
   have h2:i<xs.length:=by omega
   exact ⟨_,_,_,_,s2.sqt hb,s2.sqt ha,Qs h1,Qs h2⟩
  ·intro H2 s2;exact ⟨_,s2.sqt hb,by rw [Qc,Qc,lo]⟩
  ·rintro i σ H2 v H3 y hy ⟨o,u,rfl⟩ s2 ⟨A',x1,x2,nA,rfl,f1,f2,rfl⟩ C hC;obtain ⟨c,t,e1,e2,e3⟩:=ZiU hl hy;have g1:=f1 _ (s2.sqt hb);have g2:=f2 _ (s2.sqt ha);rw [Qo,e1] at g1;have g1':x1=.ref (T.ad c):=(Qj g1).symm;obtain ⟨x,ex,vx⟩:=hx.get e2;rw [ex] at g2;have g2':x2=x:=(Qj g2).symm;subst g1' g2' e3;have sA:=Zj (o:=.tup [.ref (T.ad c),x2]) nA;refine ⟨A',_,rfl,.of Zg,rfl,?_⟩;refine ⟨_,_,rfl,_,_,rfl,rfl,?_⟩;refine ⟨_,_,rfl,⟨c,rfl,rfl⟩,_,rfl,rfl,x2,t,rfl,(vx.mono s2).mono sA,fun H5 s5=>hC _ _ ⟨_,_,rfl⟩ (sA.trans s5)⟩
  ·intro D H2 hD s2 hl2;exact ⟨D,_,rfl,hl2,q _ s2⟩
 ·rw [Qr hl] at q ⊢;exact Z4 (q _ (Same.refl H))
theorem Zjk (T:Tx K w mg) (Zd4:ZhC P base T):Zii P base T:=by
 refine Fun.okX (k:=3) T.Ug.F Zce (fun vs H Q E h=>h.1) (fun cdv A outer s H vs Q E hr h=>?_);obtain ⟨-,h⟩:=h;obtain ⟨x,rfl,h⟩:=h
 refine ⟨_,(Zm (ZJ (PW.pt (Xy (XB (YO (XT K (by rfl) T.n_isinstance (Za (pv 0) (Za (X2 (v:=.ty "tuple") (by rfl) T.n_tuple ZdD rfl) Zb))))) (Xy (ZE Z3 (Yi XR (by rfl) T.n_len Xa (Za (pv 0) Zb)) Zh (Zy _)) (W0 (XB (YO (XT K (by rfl) T.n_isinstance (Za (Zo Zv (pv 0) Zh (fun _ _=>rfl)) (Za (X2 (v:=.ty "str") (by rfl) T.n_str Uz rfl) Zb))))))))) (Zi (Zx Xu)) ZV)
   (Zm (YJ QN rfl (VR (Xs (v:=.ref T.aF) (by rfl) T.m_FORMS rfl)) (Vv rfl (Yx (ZR (i:=1) Zce.nd rfl (Or.inl rfl)) (Yx (ZR (i:=2) Zce.nd rfl (Or.inl rfl)) X7)))
    (Zi (ZJ (ZE Z3 (Zo Zv (pv 0) Zh (fun _ _=>rfl)) (pv 1) (Zy _)) (Zi (Zx (ZO Zd4 (hr.mono (by decide)) (by rfl) T.Up.m T.Up.F.kp T.Up.b .nil Zu (Za (XA JY (pv 0) (Y7 Zh) Wr) (Za (pv 2) Zb))))) ZV)))
   (Zi (Zx Xu)))),?_⟩
 rcases h with ⟨t,hv,ht,q⟩|⟨ts,⟨a,xs,rfl,hS,hx⟩,hl,q⟩
 ·have k:=kT T t;rw [ht] at k;exact ⟨_,rfl,_,.ty "tuple",_,_,rfl,rfl,hv.kd,k,_,rfl,Z4 (q _ (Same.refl H))⟩
 refine ⟨_,rfl,_,.ty "tuple",_,_,rfl,rfl,.sqt hS,T.k_tuple_tuple,_,rfl,?_⟩;refine Z0 ⟨_,rfl,a,_,rfl,.inr hS,rfl,_,rfl,?_⟩
 match xs,ts,hx with
 |[],[],_=>exact Z4 (q _ (Same.refl H))
 |x::xs,t::ts,hx =>
  have e0:decide (V.int ((x::xs).length:Nat)=V.int 0)=false:=by
   rw [QM]
   exact Qr fun z=>by
    have:=V.int.inj z;omega
  rw [e0];have at0:Yg (x::xs) 0=some x:=XY (j:=0) rfl;refine Z0 ⟨_,rfl,a,_,_,_,rfl,rfl,hS,at0,_,.ty "str",_,_,rfl,rfl,hx.1.kd,kS T t,_,rfl,?_⟩;cases t with
  |str w =>
   have ex:x=.str w:=hx.1.1;refine Z0 ⟨T.aF,rfl,⟨_,T.sF _⟩,UD (fun i σ H2=>∃v1 v2,σ=[some (.ref a),v1,v2]∧Same H H2∧∀j,j<i->∀p',WW[j]?=some p'->w≠p'.1) ⟨none,none,rfl,Same.refl H,fun j hj=>by omega⟩ (fun _ _ _ _ _=>T.sF _) ?turn ?done⟩
   case done =>
    rintro σ H2 ⟨v1,v2,rfl,s2,b⟩
    have e:UE (.str w::ts)=false:=by
     rw [Zbq,ZnC b];rfl
    rw [e] at q;exact q _ s2
   case turn =>
    rintro i y σ H2 hy ⟨v1,v2,rfl,s2,b⟩;have hi:i<6:=(QE.mp hy).1;have hf:WW[i]?=some (WW[i]'hi):=Qs hi;generalize WW[i]'hi=p at hf;obtain ⟨P,G,e1,e2,e3⟩:=ZkQ T hf;rw [hy] at e1;have ey:y=.ref P:=Qj e1;subst ey;refine ⟨P,_,rfl,e2 _,rfl,_,_,rfl,_,_,rfl,rfl,?_⟩;refine ⟨_,rfl,a,_,_,_,rfl,rfl,s2.sqt hS,at0,_,rfl,by rw [ex];rfl,_,rfl,?_⟩;rw [ex]
    have ed:decide (V.str w=V.str p.1)=decide (w=p.1):=by
     rw [Rh];simp
    rw [ed];by_cases hw:w=p.1
    ·rw [Qu hw]
     have e:UE (.str w::ts)=Wh p.2 ts:=by
      rw [Zbq,Zli hf b hw];rfl
     rw [e] at q;refine Z4 ⟨_,rfl,_,rfl,a,_,rfl,s2.sqt hS,?_,fun n hn=>?_⟩
     ·rintro ⟨z,_⟩;have:HT.sIx (x::xs).length 0 (some ((1:Nat):Int))=0:=z;rw [HT.sIx_nat,QM] at this;omega
     ·rw [Zlt];have sn:=Zj (o:=.tup xs) hn;refine ⟨_,rfl,rfl,n,G,xs,ts,p.2,rfl,.of Zg,(hx.2.mono s2).mono sn,e3 _,ZjZ p (QL hf),fun H5 s5=>q _ (s2.trans (sn.trans s5))⟩
    ·rw [Qr hw];refine Z0 ⟨_,_,rfl,s2,fun j hj p' e'=>?_⟩;by_cases hji:j<i
     ·exact b j hji p' e'
     ·have:j=i:=by omega
      subst this;rw [hf] at e';cases e';exact hw
  |_=>exact Z4 (q _ (Same.refl H))
theorem Zm2 (T:Tx K w mg)  : Zd3 P base T:=by
 refine Fun.okX (k:=0) T.WC.F ZkG (fun vs H Q E h=>h.1) (fun cdv A outer s H vs Q E hr h=>?_);obtain ⟨-,h⟩:=h;obtain ⟨v,e,rfl,⟨a,rfl,hE⟩,q⟩:=h;refine ⟨_,(Zi (Zx (YM WQ (Zo Zv (pv 0) Zh (fun _ _=>rfl)) (ZQ (Za Zk (Za Zk Zb))) (by rfl)))),?_⟩;cases e with
 |born n s d f m=>exact ⟨_,rfl,a,_,_,_,rfl,rfl,hE,Zn (j:=0) rfl,few rfl,fun p np=>⟨p,_,rfl,.inr (.of Zg),rfl,rfl,q _ (Zj np)⟩⟩
 |taken c t d=>exact ⟨_,rfl,a,_,_,_,rfl,rfl,hE,Zn (j:=0) rfl,few rfl,fun p np=>⟨p,_,rfl,.inr (.of Zg),rfl,rfl,q _ (Zj np)⟩⟩
 |union x y d=>exact ⟨_,rfl,a,_,_,_,rfl,rfl,hE,Zn (j:=0) rfl,few rfl,fun p np=>⟨p,_,rfl,.inr (.of Zg),rfl,rfl,q _ (Zj np)⟩⟩
 |parted x y d=>exact ⟨_,rfl,a,_,_,_,rfl,rfl,hE,Zn (j:=0) rfl,few rfl,fun p np=>⟨p,_,rfl,.inr (.of Zg),rfl,rfl,q _ (Zj np)⟩⟩
 |dead n d=>exact ⟨_,rfl,a,_,_,_,rfl,rfl,hE,Zn (j:=0) rfl,few rfl,fun p np=>⟨p,_,rfl,.inr (.of Zg),rfl,rfl,q _ (Zj np)⟩⟩
 |given x y z d=>exact ⟨_,rfl,a,_,_,_,rfl,rfl,hE,Zn (j:=0) rfl,few rfl,fun p np=>⟨p,_,rfl,.inr (.of Zg),rfl,rfl,q _ (Zj np)⟩⟩
theorem ZlZ (T:Tx K w mg)  : ZdX P base T:=by
 refine Fun.okX (k:=0) T.WD.F Zls (fun vs H Q E h=>h.1) (fun cdv A outer s H vs Q E hr h=>?_);obtain ⟨-,h⟩:=h;obtain ⟨v,e,rfl,⟨a,rfl,hE⟩,q⟩:=h
 refine ⟨_,(Zm (ZJ (ZE Z3 (Zo Zv (pv 0) Zh (fun _ _=>rfl)) Zk (Zy _)) (Zi (Zx (X9 rfl (Wm (N:=["name"]) [] [none] rfl (by trivial) (by trivial) (by rfl) (by rfl) (by rfl) (by rfl) (by rfl)) (VR (XA JY (pv 0) (Y7 Zh) Wr)) (fun _ _ _=>(ZR (i:=0) ZpJ rfl (Or.inl rfl))) (fun _ _ _=>(Vl (ZE WF (pv 0) Zk (Zy _)))) (fun _ _ _=>(pv 0))))) ZV)
   (Zm (ZJ (ZE Z3 (Zo Zv (pv 0) Zh (fun _ _=>rfl)) Zk (Zy _)) (Zi (Zx (YD (Za (Zo Zv (pv 0) Zh (fun _ _=>rfl)) Zb)))) ZV)
   (Zi (Zx (YD (Za (Zo Zv (pv 0) Zh (fun _ _=>rfl)) (Za (Zo Zv (pv 0) Zh (fun _ _=>rfl)) Zb))))))),?_⟩
 cases e with
 |born n s d f m =>
  refine ⟨_,rfl,a,_,_,_,rfl,rfl,hE,Zn (j:=0) rfl,rfl,_,rfl,ZY (by trivial) ⟨_,rfl,_,rfl,?_⟩⟩;dsimp only [Zbx];refine JN hE (fun h=>absurd h.1 (show ¬(4:Nat)=0 by decide)) fun H1 p s1 hp=>?_;have hp':SqT K H1 p ([f,m].map V.str):=hp;refine ⟨p,rfl,⟨_,hp'⟩,V9 ([f,m].map U9) (ZF (by simp)) (fun σ=>∃v,σ=[v]) ⟨_,rfl⟩ (fun i H2 hi sm=>?go) (fun H2 sm=>?stop) (fun i σ H2 x H3 o ho hσ sm hx C hC=>?step) (fun D H2 nD sm hD=>?fin)⟩
  case go =>
   have hi':i<([f,m].map V.str).length:=hi;exact ⟨_,_,sm.sqt hp',Qs hi'⟩
  case stop=>exact ⟨_,sm.sqt hp',by simp⟩
  case step =>
   obtain ⟨v,rfl⟩:=hσ;obtain ⟨rfl,hx⟩:=hx;have e1:=hx _ (sm.sqt hp');rw [Qo] at e1 ho;obtain ⟨z,hz,rfl⟩:=QF.mp e1;rw [hz] at ho;obtain rfl:U9 z=o:=Qj ho;refine ⟨_,rfl,rfl,_,rfl,?_⟩;by_cases hz0:z=""
   ·subst hz0;exact Zr (by trivial) (hC _ _ ⟨_,rfl⟩ (Same.refl _))
   ·have e2:U9 z=some (.str z):=Qa hz0;rw [e2] at hC;exact ZY (by rw [Xm,Qr hz0];rfl) ⟨_,rfl,hC _ _ ⟨_,rfl⟩ (Same.refl _)⟩
  case fin =>
   rw [ZgG] at hD;exact q _ D (s1.trans sm) (ZX s1 nD) (.of hD)
 |dead n d=>exact ⟨_,rfl,a,_,_,_,rfl,rfl,hE,Zn (j:=0) rfl,rfl,_,rfl,Zr (by trivial) ⟨_,rfl,a,_,_,_,rfl,rfl,hE,Zn (j:=0) rfl,rfl,_,rfl,ZY (by trivial) ⟨_,rfl,a,_,_,_,rfl,rfl,hE,Zn (j:=1) rfl,few rfl,fun D nD=>q _ D (Zj nD) nD (.of Zg)⟩⟩⟩
 |taken c t d=>exact ⟨_,rfl,a,_,_,_,rfl,rfl,hE,Zn (j:=0) rfl,rfl,_,rfl,Zr (by trivial) ⟨_,rfl,a,_,_,_,rfl,rfl,hE,Zn (j:=0) rfl,rfl,_,rfl,Zr (by trivial) ⟨_,rfl,a,_,_,_,rfl,rfl,hE,Zn (j:=1) rfl,_,rfl,a,_,_,_,rfl,rfl,hE,Zn (j:=2) rfl,few rfl,fun D nD=>q _ D (Zj nD) nD (.of Zg)⟩⟩⟩
 |union x y d=>exact ⟨_,rfl,a,_,_,_,rfl,rfl,hE,Zn (j:=0) rfl,rfl,_,rfl,Zr (by trivial) ⟨_,rfl,a,_,_,_,rfl,rfl,hE,Zn (j:=0) rfl,rfl,_,rfl,Zr (by trivial) ⟨_,rfl,a,_,_,_,rfl,rfl,hE,Zn (j:=1) rfl,_,rfl,a,_,_,_,rfl,rfl,hE,Zn (j:=2) rfl,few rfl,fun D nD=>q _ D (Zj nD) nD (.of Zg)⟩⟩⟩
 |parted x y d=>exact ⟨_,rfl,a,_,_,_,rfl,rfl,hE,Zn (j:=0) rfl,rfl,_,rfl,Zr (by trivial) ⟨_,rfl,a,_,_,_,rfl,rfl,hE,Zn (j:=0) rfl,rfl,_,rfl,Zr (by trivial) ⟨_,rfl,a,_,_,_,rfl,rfl,hE,Zn (j:=1) rfl,_,rfl,a,_,_,_,rfl,rfl,hE,Zn (j:=2) rfl,few rfl,fun D nD=>q _ D (Zj nD) nD (.of Zg)⟩⟩⟩
 |given x y z d=>exact ⟨_,rfl,a,_,_,_,rfl,rfl,hE,Zn (j:=0) rfl,rfl,_,rfl,Zr (by trivial) ⟨_,rfl,a,_,_,_,rfl,rfl,hE,Zn (j:=0) rfl,rfl,_,rfl,Zr (by trivial) ⟨_,rfl,a,_,_,_,rfl,rfl,hE,Zn (j:=1) rfl,_,rfl,a,_,_,_,rfl,rfl,hE,Zn (j:=2) rfl,few rfl,fun D nD=>q _ D (Zj nD) nD (.of Zg)⟩⟩⟩
theorem ZoF (T:Tx K w mg)  : Zfz P base T:=by
 refine Fun.okX (k:=0) T.Uf.F ZlH (fun vs H Q E h=>h.1) (fun cdv A outer s H vs Q E hr h=>?_);obtain ⟨-,h⟩:=h;obtain ⟨v,e,rfl,⟨a,rfl,hE⟩,q⟩:=h
 refine ⟨_,(Zm (ZJ (ZE Z3 (Zo Zv (pv 0) Zh (fun _ _=>rfl)) Zk (Zy _)) (Zi (Zx (Zo Zv (pv 0) Zh (fun _ _=>rfl)))) ZV)
   (Zi (Zx (Zo Zv (pv 0) (V4 V2 Zh) (fun _ _=>rfl))))),?_⟩
 cases e with
 |born n s d f m=>exact ⟨_,rfl,a,_,_,_,rfl,rfl,hE,Zn (j:=0) rfl,rfl,_,rfl,ZY (by trivial) ⟨_,rfl,a,_,_,_,rfl,rfl,hE,Zn (j:=3) rfl,q⟩⟩
 |taken c t d=>exact ⟨_,rfl,a,_,_,_,rfl,rfl,hE,Zn (j:=0) rfl,rfl,_,rfl,Zr (by trivial) ⟨_,rfl,_,rfl,a,_,_,_,rfl,rfl,hE,rfl,q⟩⟩
 |union x y d=>exact ⟨_,rfl,a,_,_,_,rfl,rfl,hE,Zn (j:=0) rfl,rfl,_,rfl,Zr (by trivial) ⟨_,rfl,_,rfl,a,_,_,_,rfl,rfl,hE,rfl,q⟩⟩
 |parted x y d=>exact ⟨_,rfl,a,_,_,_,rfl,rfl,hE,Zn (j:=0) rfl,rfl,_,rfl,Zr (by trivial) ⟨_,rfl,_,rfl,a,_,_,_,rfl,rfl,hE,rfl,q⟩⟩
 |dead n d=>exact ⟨_,rfl,a,_,_,_,rfl,rfl,hE,Zn (j:=0) rfl,rfl,_,rfl,Zr (by trivial) ⟨_,rfl,_,rfl,a,_,_,_,rfl,rfl,hE,rfl,q⟩⟩
 |given x y z d=>exact ⟨_,rfl,a,_,_,_,rfl,rfl,hE,Zn (j:=0) rfl,rfl,_,rfl,Zr (by trivial) ⟨_,rfl,_,rfl,a,_,_,_,rfl,rfl,hE,rfl,q⟩⟩
theorem ZnS (T:Tx K w mg) (Jv:Zd3 P base T):ZdT P base T:=by
 refine Fun.okX (k:=1) T.WX.F Zfh (fun vs H Q E h=>h.1) (fun cdv A outer s H vs Q E hr h=>?_);obtain ⟨-,h⟩:=h;obtain ⟨v,e,rfl,hx,q⟩:=h
 refine ⟨_,(Zm (ZJ (XB (YO (ZO Jv (hr.mono (by decide)) (by rfl) T.WC.m T.WC.F.kp T.WC.b .nil Zu (Za (pv 0) Zb)))) (Zi (Zx (pv 0))) ZV)
   (Zm (ZP (i:=1) Zfh.nd rfl (Or.inl rfl) (Yi (ZlS K) (by rfl) T.n_sorted JM (Za (XA JY (pv 0) (Y7 Zh) (Y7 Zh)) Zb)))
   (Zi (Zx (ZQ (Za (Zo Zv (pv 0) Zh (fun _ _=>rfl)) (Za (Zo Yo (pv 1) Zh (fun _ _=>rfl)) (Za (Zo Yo (pv 1) Zh (fun _ _=>rfl)) (Za (Zo Zv (pv 0) Zh (fun _ _=>rfl)) Zb))))))))),?_⟩
 obtain ⟨a,rfl,hE⟩:=id hx;refine ⟨_,rfl,rfl,.ref a,e,rfl,hx,fun H1 s1=>⟨_,rfl,?_⟩⟩;have hE1:=s1.sqt hE;cases e with
 |born n s d f m=>exact Z4 ⟨_,rfl,q _ _ s1 (hx.mono s1)⟩
 |taken c t d=>exact Z4 ⟨_,rfl,q _ _ s1 (hx.mono s1)⟩
 |union x y d =>
  refine Z0 ⟨_,rfl,_,rfl,_,rfl,?_⟩;refine JN hE1 (fun h=>absurd h.1 (show ¬(1:Nat)=0 by decide)) fun H2 p s2 hp=>?_;have hp':SqT K H2 p ([x,y].map V.str):=hp;refine ⟨p,[x,y],rfl,hp',Qy rfl,fun D zs nD perm so=>?_⟩;rw [Zhp perm so];have s3:=Zj (o:=.lst ([(Zf x y).1,(Zf x y).2].map V.str)) nD;have hE3:=s3.sqt (s2.sqt hE1);have hD:SqL K (Zc H2 D (.lst ([(Zf x y).1,(Zf x y).2].map V.str))) D ([(Zf x y).1,(Zf x y).2].map V.str):=.of Zg;refine ⟨_,rfl,a,_,_,_,rfl,rfl,hE3,Zn (j:=0) rfl,_,rfl,D,_,_,_,rfl,rfl,hD,Zn (j:=0) rfl,_,rfl,D,_,_,_,rfl,rfl,hD,Zn (j:=1) rfl,_,rfl,a,_,_,_,rfl,rfl,hE3,Zn (j:=3) rfl,few rfl,fun t nt=>?_⟩;exact q _ _ (s1.trans (s2.trans (s3.trans (Zj nt)))) ⟨t,rfl,.of Zg⟩
 |parted x y d =>
  refine Z0 ⟨_,rfl,_,rfl,_,rfl,?_⟩;refine JN hE1 (fun h=>absurd h.1 (show ¬(1:Nat)=0 by decide)) fun H2 p s2 hp=>?_;have hp':SqT K H2 p ([x,y].map V.str):=hp;refine ⟨p,[x,y],rfl,hp',Qy rfl,fun D zs nD perm so=>?_⟩;rw [Zhp perm so];have s3:=Zj (o:=.lst ([(Zf x y).1,(Zf x y).2].map V.str)) nD;have hE3:=s3.sqt (s2.sqt hE1);have hD:SqL K (Zc H2 D (.lst ([(Zf x y).1,(Zf x y).2].map V.str))) D ([(Zf x y).1,(Zf x y).2].map V.str):=.of Zg;refine ⟨_,rfl,a,_,_,_,rfl,rfl,hE3,Zn (j:=0) rfl,_,rfl,D,_,_,_,rfl,rfl,hD,Zn (j:=0) rfl,_,rfl,D,_,_,_,rfl,rfl,hD,Zn (j:=1) rfl,_,rfl,a,_,_,_,rfl,rfl,hE3,Zn (j:=3) rfl,few rfl,fun t nt=>?_⟩;exact q _ _ (s1.trans (s2.trans (s3.trans (Zj nt)))) ⟨t,rfl,.of Zg⟩
 |dead n d=>exact Z4 ⟨_,rfl,q _ _ s1 (hx.mono s1)⟩
 |given x y z d=>exact Z4 ⟨_,rfl,q _ _ s1 (hx.mono s1)⟩
theorem Zmr (T:Tx K w mg) (Jr:ZdT P base T):ZcB P base T:=by
 refine Fun.okX (k:=2) T.WA.F ZoK (fun vs H Q E h=>h.1) (fun cdv A outer s H vs Q E hr h=>?_);obtain ⟨-,h⟩:=h;obtain ⟨v,e,rfl,hx,q⟩:=h
 refine ⟨_,(Zm (ZJ (ZE WQ (Zo Zv (pv 0) Zh (fun _ _=>rfl)) (ZQ (Za Zk (Za Zk Zb))) (by rfl)) (Zi (Zx (ZQ (Za (Zo Zv (pv 0) Zh (fun _ _=>rfl)) (Za (Zo Zv (pv 0) Zh (fun _ _=>rfl)) Zb))))) ZV)
   (Zm (ZJ (ZE Z3 (Zo Zv (pv 0) Zh (fun _ _=>rfl)) Zk (Zy _)) (Zi (Zx (ZQ (Za (Zo Zv (pv 0) Zh (fun _ _=>rfl)) (Za (Zo Zv (pv 0) Zh (fun _ _=>rfl)) (Za (Zo Zv (pv 0) Zh (fun _ _=>rfl)) Zb)))))) ZV)
   (Zm (ZJ (ZE Z3 (Zo Zv (pv 0) Zh (fun _ _=>rfl)) Zk (Zy _)) (Zi (Zx (ZQ (Za (Zo Zv (pv 0) Zh (fun _ _=>rfl)) (Za (Zo Zv (pv 0) Zh (fun _ _=>rfl)) (Za (Zo Zv (pv 0) Zh (fun _ _=>rfl)) (Za (Zo Zv (pv 0) Zh (fun _ _=>rfl)) Zb))))))) ZV)
   (Zi (Zx (Z1 ZfO (ZQ (Za Zk Zb)) (XA JY (ZO Jr (hr.mono (by decide)) (by rfl) T.WX.m T.WX.F.kp T.WX.b .nil Zu (Za (pv 0) Zb)) (Y7 Zh) Wr))))))),?_⟩
 obtain ⟨a,rfl,hE⟩:=id hx;cases e with
 |born n s d f m =>
  refine ⟨_,rfl,a,_,_,_,rfl,rfl,hE,Zn (j:=0) rfl,few rfl,fun p np=>⟨p,_,rfl,.inr (.of Zg),rfl,rfl,_,rfl,ZY (by trivial) ?_⟩⟩;have s1:=Zj (o:=.tup [.str "born",.str "dead"]) np;have hE1:=s1.sqt hE;exact ⟨_,rfl,a,_,_,_,rfl,rfl,hE1,Zn (j:=0) rfl,_,rfl,a,_,_,_,rfl,rfl,hE1,Zn (j:=1) rfl,few rfl,fun t nt=>q _ t (s1.trans (Zj nt)) (ZX s1 nt) Zg⟩
 |taken c t d =>
  refine ⟨_,rfl,a,_,_,_,rfl,rfl,hE,Zn (j:=0) rfl,few rfl,fun p np=>⟨p,_,rfl,.inr (.of Zg),rfl,rfl,_,rfl,Zr (by trivial) ?_⟩⟩;have s1:=Zj (o:=.tup [.str "born",.str "dead"]) np;have hE1:=s1.sqt hE;refine ⟨_,rfl,a,_,_,_,rfl,rfl,hE1,Zn (j:=0) rfl,rfl,_,rfl,ZY (by trivial) ?_⟩;exact ⟨_,rfl,a,_,_,_,rfl,rfl,hE1,Zn (j:=0) rfl,_,rfl,a,_,_,_,rfl,rfl,hE1,Zn (j:=1) rfl,_,rfl,a,_,_,_,rfl,rfl,hE1,Zn (j:=2) rfl,few rfl,fun t nt=>q _ t (s1.trans (Zj nt)) (ZX s1 nt) Zg⟩
 |union x y d =>
  refine ⟨_,rfl,a,_,_,_,rfl,rfl,hE,Zn (j:=0) rfl,few rfl,fun p np=>⟨p,_,rfl,.inr (.of Zg),rfl,rfl,_,rfl,Zr (by trivial) ?_⟩⟩;have s1:=Zj (o:=.tup [.str "born",.str "dead"]) np;have hE1:=s1.sqt hE;refine ⟨_,rfl,a,_,_,_,rfl,rfl,hE1,Zn (j:=0) rfl,rfl,_,rfl,Zr (by trivial) ?_⟩;refine ⟨_,rfl,a,_,_,_,rfl,rfl,hE1,Zn (j:=0) rfl,rfl,_,rfl,Zr (by trivial) ?_⟩;refine ⟨few rfl,fun t nt=>⟨_,rfl,rfl,.ref a,_,rfl,(hx.mono s1).mono (Zj nt),fun H2 u s2 hu=>?_⟩⟩;obtain ⟨b,rfl,hb⟩:=hu;refine ⟨_,rfl,?_⟩;dsimp only [Zbx];refine JN hb (fun h=>absurd h.1 (show ¬(1:Nat)=0 by decide)) fun H3 c s3 hc=>?_;refine ⟨t,c,[.str "tie"],[.str (Zf x y).1,.str (Zf x y).2,.int d],rfl,rfl,.of (s3 _ _ (s2 _ _ Zg)),hc,by simp,few rfl,fun h=>absurd h (by simp),fun _ z nz=>?_⟩;have s4:=(s1.trans (Zj nt)).trans (s2.trans s3);exact q _ z (s4.trans (Zj nz)) (ZX s4 nz) Zg
 |parted x y d =>
  refine ⟨_,rfl,a,_,_,_,rfl,rfl,hE,Zn (j:=0) rfl,few rfl,fun p np=>⟨p,_,rfl,.inr (.of Zg),rfl,rfl,_,rfl,Zr (by trivial) ?_⟩⟩;have s1:=Zj (o:=.tup [.str "born",.str "dead"]) np;have hE1:=s1.sqt hE;refine ⟨_,rfl,a,_,_,_,rfl,rfl,hE1,Zn (j:=0) rfl,rfl,_,rfl,Zr (by trivial) ?_⟩;refine ⟨_,rfl,a,_,_,_,rfl,rfl,hE1,Zn (j:=0) rfl,rfl,_,rfl,Zr (by trivial) ?_⟩;refine ⟨few rfl,fun t nt=>⟨_,rfl,rfl,.ref a,_,rfl,(hx.mono s1).mono (Zj nt),fun H2 u s2 hu=>?_⟩⟩;obtain ⟨b,rfl,hb⟩:=hu;refine ⟨_,rfl,?_⟩;dsimp only [Zbx];refine JN hb (fun h=>absurd h.1 (show ¬(1:Nat)=0 by decide)) fun H3 c s3 hc=>?_;refine ⟨t,c,[.str "tie"],[.str (Zf x y).1,.str (Zf x y).2,.int d],rfl,rfl,.of (s3 _ _ (s2 _ _ Zg)),hc,by simp,few rfl,fun h=>absurd h (by simp),fun _ z nz=>?_⟩;have s4:=(s1.trans (Zj nt)).trans (s2.trans s3);exact q _ z (s4.trans (Zj nz)) (ZX s4 nz) Zg
 |dead n d =>
  refine ⟨_,rfl,a,_,_,_,rfl,rfl,hE,Zn (j:=0) rfl,few rfl,fun p np=>⟨p,_,rfl,.inr (.of Zg),rfl,rfl,_,rfl,ZY (by trivial) ?_⟩⟩;have s1:=Zj (o:=.tup [.str "born",.str "dead"]) np;have hE1:=s1.sqt hE;exact ⟨_,rfl,a,_,_,_,rfl,rfl,hE1,Zn (j:=0) rfl,_,rfl,a,_,_,_,rfl,rfl,hE1,Zn (j:=1) rfl,few rfl,fun t nt=>q _ t (s1.trans (Zj nt)) (ZX s1 nt) Zg⟩
 |given x y z d =>
  refine ⟨_,rfl,a,_,_,_,rfl,rfl,hE,Zn (j:=0) rfl,few rfl,fun p np=>⟨p,_,rfl,.inr (.of Zg),rfl,rfl,_,rfl,Zr (by trivial) ?_⟩⟩;have s1:=Zj (o:=.tup [.str "born",.str "dead"]) np;have hE1:=s1.sqt hE;refine ⟨_,rfl,a,_,_,_,rfl,rfl,hE1,Zn (j:=0) rfl,rfl,_,rfl,Zr (by trivial) ?_⟩;refine ⟨_,rfl,a,_,_,_,rfl,rfl,hE1,Zn (j:=0) rfl,rfl,_,rfl,ZY (by trivial) ?_⟩;exact ⟨_,rfl,a,_,_,_,rfl,rfl,hE1,Zn (j:=0) rfl,_,rfl,a,_,_,_,rfl,rfl,hE1,Zn (j:=1) rfl,_,rfl,a,_,_,_,rfl,rfl,hE1,Zn (j:=2) rfl,_,rfl,a,_,_,_,rfl,rfl,hE1,Zn (j:=4) rfl,few rfl,fun t nt=>q _ t (s1.trans (Zj nt)) (ZX s1 nt) Zg⟩
theorem Zpb (T:Tx K w mg)  : ZeG P base T:=by
 refine Fun.okX (k:=0) T.V7.F ZpE (fun vs H Q E h=>h.1) (fun cdv A outer s H vs Q E hr h=>?_);obtain ⟨-,h⟩:=h;obtain ⟨x,rfl,h⟩:=h;refine ⟨_,(Zi (Zx (X1 (XT K (by rfl) T.n_isinstance (Za (pv 0) (Za (X2 (v:=.ty "str") (by rfl) T.n_str Uz rfl) Zb))) (XJ (YM WQ (pv 0) (Xs (v:=.ref T.a_STEP_LETTERS) (by rfl) T.m_STEP_LETTERS rfl) (by rfl)))))),?_⟩;rcases h with ⟨ty,hk,ks,q⟩|⟨l,rfl,q⟩
 ·exact ⟨_,rfl,_,.ty "str",_,_,rfl,rfl,hk,ks,_,rfl,Z0 q⟩
 refine ⟨_,rfl,_,.ty "str",_,_,rfl,rfl,.of (.str _),T.k_str_str,_,rfl,Z4 ⟨_,rfl,T.a_STEP_LETTERS,_,rfl,.inr (T.ZeJ _),rfl,rfl,?_⟩⟩;have e:(if false=true then !Xz (.str l) (XC.map V.str) else Xz (.str l) (XC.map V.str))=Vf l:=Zbv l XC;rw [←e] at q;exact q
theorem Zjq (T:Tx K w mg)  : Zeh P base T:=by
 refine Fun.okX (k:=0) T.W1.F ZnL (fun vs H Q E h=>h.1) (fun cdv A outer s H vs Q E hr h=>?_);obtain ⟨-,h⟩:=h;obtain ⟨a,b,rfl,q⟩:=h;refine ⟨_,(Zi (Zx (ZQ (Za (Yi (ZjP rfl) (by rfl) T.n_min ZoV (Za (pv 0) (Za (pv 1) Zb))) (Za (Yi (Zj6 rfl) (by rfl) T.n_max Zci (Za (pv 0) (Za (pv 1) Zb))) Zb))))),?_⟩;refine ⟨_,rfl,_,rfl,_,_,rfl,_,rfl,_,rfl,_,_,rfl,few rfl,fun p np=>?_⟩;rw [Zpf,Znz];exact q _ p (Zj np) np Zg
theorem Zjz (T:Tx K w mg)  : ZhF P base T:=by
 refine Fun.okX (k:=0) T.UO.F Zjn (fun vs H Q E h=>h.1) (fun cdv A outer s H vs Q E hr h=>?_);obtain ⟨-,h⟩:=h;obtain ⟨b,dx,rfl,h0,q⟩:=h
 refine ⟨_,(Zm (Xl (pv 0) Zav rfl)
   (Zm (Xl (pv 0) JS rfl)
   (Zm (Xl (pv 0) Zav rfl)
   (Zm (Xl (pv 0) Zav rfl)
   (Zi (Xl (pv 0) Zav rfl)))))),?_⟩
 refine fun k nk=>⟨_,rfl,b,T.c_Book,dx,[],rfl,(Zd (ZA h0 nk)).trans h0,T.cl_Book,T.na_Book_kept,Qm (m:=10) (Qy rfl) (by decide),?_⟩;obtain ⟨g1,p1,s1,m1⟩:=Wz (fs:=[]) "kept" (.dT []) h0 nk;generalize hH1:Zc (Zc H k (.dT [])) b (.ins T.c_Book dx (Zt "kept" (.ref k) ([])))=H1 at *;refine fun bi nbi=>⟨_,rfl,b,T.c_Book,dx,Zt "kept" (.ref k) [],rfl,(Zd (ZA g1 nbi)).trans g1,T.cl_Book,T.na_Book_births,Qm (m:=10) (Qy rfl) (by decide),?_⟩;obtain ⟨g2,p2,s2,m2⟩:=Wz (fs:=Zt "kept" (.ref k) []) "births" (.dK []) g1 nbi;generalize hH2:Zc (Zc H1 bi (.dK [])) b (.ins T.c_Book dx (Zt "births" (.ref bi) (Zt "kept" (.ref k) [])))=H2 at *;refine fun li nli=>⟨_,rfl,b,T.c_Book,dx,Zt "births" (.ref bi) (Zt "kept" (.ref k) []),rfl,(Zd (ZA g2 nli)).trans g2,T.cl_Book,T.na_Book_links,Qm (m:=10) (Qy rfl) (by decide),?_⟩;obtain ⟨g3,p3,s3,m3⟩:=Wz (fs:=Zt "births" (.ref bi) (Zt "kept" (.ref k) [])) "links" (.dT []) g2 nli;generalize hH3:Zc (Zc H2 li (.dT [])) b (.ins T.c_Book dx (Zt "links" (.ref li) (Zt "births" (.ref bi) (Zt "kept" (.ref k) []))))=H3 at *;refine fun ti nti=>⟨_,rfl,b,T.c_Book,dx,Zt "links" (.ref li) (Zt "births" (.ref bi) (Zt "kept" (.ref k) [])),rfl,(Zd (ZA g3 nti)).trans g3,T.cl_Book,T.na_Book_ties,Qm (m:=10) (Qy rfl) (by decide),?_⟩;obtain ⟨g4,p4,s4,m4⟩:=Wz (fs:=Zt "links" (.ref li) (Zt "births" (.ref bi) (Zt "kept" (.ref k) []))) "ties" (.dT []) g3 nti;generalize hH4:Zc (Zc H3 ti (.dT [])) b (.ins T.c_Book dx (Zt "ties" (.ref ti) (Zt "links" (.ref li) (Zt "births" (.ref bi) (Zt "kept" (.ref k) [])))))=H4 at *;refine fun su nsu=>⟨_,rfl,b,T.c_Book,dx,Zt "ties" (.ref ti) (Zt "links" (.ref li) (Zt "births" (.ref bi) (Zt "kept" (.ref k) []))),rfl,(Zd (ZA g4 nsu)).trans g4,T.cl_Book,T.na_Book_sums,Qm (m:=10) (Qy rfl) (by decide),?_⟩;obtain ⟨g5,p5,s5,m5⟩:=Wz (fs:=Zt "ties" (.ref ti) (Zt "links" (.ref li) (Zt "births" (.ref bi) (Zt "kept" (.ref k) [])))) "sums" (.dT []) g4 nsu;generalize hH5:Zc (Zc H4 su (.dT [])) b (.ins T.c_Book dx (Zt "sums" (.ref su) (Zt "ties" (.ref ti) (Zt "links" (.ref li) (Zt "births" (.ref bi) (Zt "kept" (.ref k) []))))))=H5 at *;have kb:∀{c:Addr} {o:HO} {Hx:Hp},Hx c=some o->(∀fs,o≠.ins T.c_Book dx fs)->∀{fs},Hx b=some (.ins T.c_Book dx fs)->c≠b:=fun e no fs eb z=>by subst z;rw [eb] at e;cases e;exact no _ rfl
 have dT:∀fs,HO.dT []≠.ins T.c_Book dx fs:=fun _ z=>by cases z
 have dK:∀fs,HO.dK []≠.ins T.c_Book dx fs:=fun _ z=>by cases z
 have a1:=s5 _ _ (s4 _ _ (s3 _ _ (s2 _ _ p1 (kb p1 dT g1)) (kb (s2 _ _ p1 (kb p1 dT g1)) dT g2)) (kb (s3 _ _ (s2 _ _ p1 (kb p1 dT g1)) (kb (s2 _ _ p1 (kb p1 dT g1)) dT g2)) dT g3)) (kb p1 dT g1);have a2:=s5 _ _ (s4 _ _ (s3 _ _ p2 (kb p2 dK g2)) (kb p2 dK g2)) (kb p2 dK g2);have a3:=s5 _ _ (s4 _ _ p3 (kb p3 dT g3)) (kb p3 dT g3);have a4:=s5 _ _ p4 (kb p4 dT g4);rw [ZnX] at g5;have kli:k≠li:=ZA (s2 _ _ p1 (kb p1 dT g1)) nli;have kti:k≠ti:=ZA (s3 _ _ (s2 _ _ p1 (kb p1 dT g1)) (kb (s2 _ _ p1 (kb p1 dT g1)) dT g2)) nti;have ksu:k≠su:=ZA (s4 _ _ (s3 _ _ (s2 _ _ p1 (kb p1 dT g1)) (kb (s2 _ _ p1 (kb p1 dT g1)) dT g2)) (kb (s3 _ _ (s2 _ _ p1 (kb p1 dT g1)) (kb (s2 _ _ p1 (kb p1 dT g1)) dT g2)) dT g3)) nsu;have liti:li≠ti:=ZA p3 nti;have lisu:li≠su:=ZA (s4 _ _ p3 (kb p3 dT g3)) nsu;have tisu:ti≠su:=ZA p4 nsu;exact q H5 k bi li ti su ⟨g5,by simp [kli,kti,ksu,liti,lisu,tisu],by simp [Vr],a1,a2,a3,a4,p5,fun _ h=>(nomatch h),fun _ h=>(nomatch h),fun _ h=>(nomatch h)⟩ (fun c o e cb=>s5 _ _ (s4 _ _ (s3 _ _ (s2 _ _ (s1 _ _ e cb) cb) cb) cb) cb) nk (m1 _ nbi) (m1 _ (m2 _ nli)) (m1 _ (m2 _ (m3 _ nti))) (m1 _ (m2 _ (m3 _ (m4 _ nsu))))
theorem Zng (T:Tx K w mg)  : Jp P base T:=by
 refine Fun.okX (k:=0) T.Xh.F ZjJ (fun vs H Q E h=>h.1) (fun cdv A outer s H vs Q E hr h=>?_);obtain ⟨-,h⟩:=h;obtain ⟨v,x,B,rfl,⟨b,dx,k,bi,li,ti,su,rfl,hB⟩,h⟩:=h
 refine ⟨_,(Zm (ZJ (PW.pt (Xy (XB (YO (XT K (by rfl) T.n_isinstance (Za (pv 1) (Za (X2 (v:=.ty "str") (by rfl) T.n_str Uz rfl) Zb))))) (W0 (U0 (ZeT (Yk hr) (pv 1) (ZW (pv 0) rfl)))))) (Zi (Um (by rfl) T.m_NoPerson T.x_NoPerson EB rfl Uh (Za Zk Zb))) ZV)
   (Zi (Zx (ZbC (Yk hr) (ZW (pv 0) rfl) (pv 1) (fun _ _=>rfl))))),?_⟩
 rcases h with ⟨ty,hk,ks,qe⟩|⟨n,rfl,qe,q⟩
 ·exact ⟨_,rfl,_,.ty "str",_,_,rfl,rfl,hk,ks,_,rfl,Z4 (Z4 ⟨few rfl,qe⟩)⟩
 have dg:=DGet.k (k:=.inr n) hB.bi;rw [ZcT] at dg;refine ⟨_,rfl,_,.ty "str",_,_,rfl,rfl,.of (.str _),T.k_str_str,_,rfl,Z0 ⟨_,rfl,_,rfl,b,T.c_Book,dx,_,_,rfl,hB.ob,T.cl_Book,T.na_Book_births,JO,bi,_,rfl,dg,_,rfl,?_⟩⟩;cases hb:Z7 n B.kept with
 |none=>exact Z4 ⟨few rfl,qe hb⟩
 |some p =>
  rw [hb] at dg;exact Z0 ⟨_,rfl,b,T.c_Book,dx,_,_,rfl,hB.ob,T.cl_Book,T.na_Book_births,JO,_,rfl,bi,.ref p.2,rfl,dg,q p hb⟩
theorem ZmQ (T:Tx K w mg) (Xj:Jp P base T):ZaS P base T:=by
 refine Fun.okX (k:=1) T.Wy.F Zlh (fun vs H Q E h=>h.1) (fun cdv A outer s H vs Q E hr h=>?_);obtain ⟨-,h⟩:=h;obtain ⟨v,x,B,rfl,hv,h⟩:=h;refine ⟨_,(Zi (Zx (Zo Zv (ZS (pv 0) T.cl_Book T.Xh.me Xj (hr.mono (by decide)) T.Xh.b .nil Xb (Za (pv 1) Zb)) Zh (fun _ _=>rfl)))),?_⟩;obtain ⟨b,dx,k,bi,li,ti,su,rfl,hB⟩:=id hv;refine ⟨_,rfl,b,dx,_,rfl,hB.ob,rfl,_,rfl,rfl,.ref b,x,B,rfl,hv,?_⟩;rcases h with ⟨ty,hk,ks,qe⟩|⟨n,rfl,qe,q⟩
 ·exact .inl ⟨ty,hk,ks,qe⟩
 refine .inr ⟨n,rfl,qe,fun p hp=>?_⟩;obtain ⟨hm,hn⟩:=ZaZ hp;have hE:=hB.en p hm
 obtain ⟨n',s,d,f,m,he⟩:∃n' s d f m,p.1=.born n' s d f m:=by
  cases e:p.1 with
  |born n' s d f m=>exact ⟨n',s,d,f,m,rfl⟩
  |_=>rw [e] at hn;cases hn
 rw [he] at hE;exact ⟨p.2,_,_,_,rfl,rfl,hE,Zn (j:=2) rfl,q p hp n' s d f m he⟩
theorem Zmq (T:Tx K w mg) (Xj:Jp P base T):Zbr P base T:=by
 refine Fun.okX (k:=1) T.Xx.F Zm5 (fun vs H Q E h=>h.1) (fun cdv A outer s H vs Q E hr h=>?_);obtain ⟨-,h⟩:=h;obtain ⟨v,x,B,rfl,hv,h⟩:=h;refine ⟨_,(Zi (Zx (Zo Zv (ZS (pv 0) T.cl_Book T.Xh.me Xj (hr.mono (by decide)) T.Xh.b .nil Xb (Za (pv 1) Zb)) Zh (fun _ _=>rfl)))),?_⟩;obtain ⟨b,dx,k,bi,li,ti,su,rfl,hB⟩:=id hv;refine ⟨_,rfl,b,dx,_,rfl,hB.ob,rfl,_,rfl,rfl,.ref b,x,B,rfl,hv,?_⟩;rcases h with ⟨ty,hk,ks,qe⟩|⟨n,rfl,qe,q⟩
 ·exact .inl ⟨ty,hk,ks,qe⟩
 refine .inr ⟨n,rfl,qe,fun p hp=>?_⟩;obtain ⟨hm,hn⟩:=ZaZ hp;have hE:=hB.en p hm
 obtain ⟨n',s,d,f,m,he⟩:∃n' s d f m,p.1=.born n' s d f m:=by
  cases e:p.1 with
  |born n' s d f m=>exact ⟨n',s,d,f,m,rfl⟩
  |_=>rw [e] at hn;cases hn
 rw [he] at hE;exact ⟨p.2,_,_,_,rfl,rfl,hE,Zn (j:=3) rfl,q p hp n' s d f m he⟩
theorem ZkY (T:Tx K w mg) (W3:ZaS P base T) (Wj:Zbr P base T):ZhD P base T:=by
 refine Fun.okX (k:=2) T.VA.F ZmM (fun vs H Q E h=>h.1) (fun cdv A outer s H vs Q E hr h=>?_);obtain ⟨-,h⟩:=h;obtain ⟨v,n,s,d,B,rfl,hv,kn,q⟩:=h;refine ⟨_,(Zi (Zx (ZbV (YM Z3 (pv 1) Zk (Zy _)) (XJ (X1 (YM Z3 (ZS (pv 0) T.cl_Book T.Wy.me W3 (hr.mono (by decide)) T.Wy.b .nil Xb (Za (pv 1) Zb)) (pv 2) (Zy _)) (XJ (YM Zc9 (ZS (pv 0) T.cl_Book T.Xx.me Wj (hr.mono (by decide)) T.Xx.b .nil Xb (Za (pv 1) Zb)) (pv 3) (Zy _)))))))),?_⟩;obtain ⟨b,dx,k,bi,li,ti,su,rfl,hB⟩:=id hv;refine ⟨_,rfl,rfl,_,rfl,?_⟩;by_cases hn:n=""
 ·have e:XU B n s d=true:=by unfold XU;rw [Qu hn];rfl
  rw [e] at q;exact ZY (by rw [Xm];exact Qu hn) q
 refine Zr (by rw [Xm];exact Qr hn) ?_;have e0:XU B n s d=(decide (Wa B n=s)&&decide (Ym B n<d)):=by unfold XU;rw [Qr hn];rfl
 rw [e0] at q;refine ⟨_,rfl,b,dx,_,rfl,hB.ob,rfl,_,rfl,rfl,.ref b,.str n,B,rfl,hv,.inr ⟨n,rfl,fun no=>absurd no (kn hn),fun p hp n' s' d' f m he=>?_⟩⟩;rw [ZaV hp he] at q;refine ⟨_,rfl,rfl,_,rfl,?_⟩;by_cases hs:s'=s
 ·rw [Qu hs,GA] at q;refine ZY (by rw [Xm];exact Qu hs) ?_;refine ⟨_,rfl,b,dx,_,rfl,hB.ob,rfl,_,rfl,rfl,.ref b,.str n,B,rfl,hv,.inr ⟨n,rfl,fun no=>absurd no (kn hn),fun p2 hp2 n2 s2 d2 f2 m2 he2=>?_⟩⟩;rw [Zak hp2 he2] at q;exact ⟨_,rfl,_,_,rfl,rfl,q⟩
 ·rw [Qr hs,GG] at q;exact Zr (by rw [Xm];exact Qr hs) q
theorem Zj8 (T:Tx K w mg) (UL:ZdX P base T) (Zek:Zfz P base T) (Wj:Zbr P base T) (ZaP:ZhD P base T):Zig P base T:=by
 refine Fun.okX (k:=3) T.UY.F ZfA (fun vs H Q E h=>h.1) (fun cdv A outer s H vs Q E hr h=>?_);obtain ⟨-,h⟩:=h;obtain ⟨v,x,B,e,rfl,hv,hx,kn,q⟩:=h
 refine ⟨_,(Zm (ZJ (ZE Z3 (Zo Zv (pv 1) Zh (fun _ _=>rfl)) Zk (Zy _)) (Zi (Zx (X1 (ZS (pv 0) T.cl_Book T.VA.me ZaP (hr.mono (by decide)) T.VA.b .nil Xb (Za (Zo Zv (pv 1) Zh (fun _ _=>rfl)) (Za Zk (Za (Zo Zv (pv 1) Zh (fun _ _=>rfl)) Zb)))) (XJ (ZS (pv 0) T.cl_Book T.VA.me ZaP (hr.mono (by decide)) T.VA.b .nil Xb (Za (Zo Zv (pv 1) Zh (fun _ _=>rfl)) (Za Zk (Za (Zo Zv (pv 1) Zh (fun _ _=>rfl)) Zb)))))))) ZV)
   (Zm (ZP (i:=2) ZfA.nd rfl (Or.inl rfl) (ZO UL (hr.mono (by decide)) (by rfl) T.WD.m T.WD.F.kp T.WD.b .nil Zu (Za (pv 1) Zb)))
   (Zm (ZJ (PW.pt (Vc (ZE Z3 (Yi XR (by rfl) T.n_len Xa (Za (pv 2) Zb)) Zh (Zy _)) (Vb (ZE Z3 (Zo Yo (pv 2) Zh (fun _ _=>rfl)) (Zo Yo (pv 2) Zh (fun _ _=>rfl)) (Zy _))))) (Zi (Zx Xu)) ZV)
   (Zm (ZJ (PW.pt (Vc (ZE Z3 (Zo Zv (pv 1) Zh (fun _ _=>rfl)) Zk (Zy _)) (Vb (ZE UR (ZS (pv 0) T.cl_Book T.Xx.me Wj (hr.mono (by decide)) T.Xx.b .nil Xb (Za (Zo Zv (pv 1) Zh (fun _ _=>rfl)) Zb)) (ZS (pv 0) T.cl_Book T.Xx.me Wj (hr.mono (by decide)) T.Xx.b .nil Xb (Za (Zo Zv (pv 1) Zh (fun _ _=>rfl)) Zb)) (Zy _))))) (Zi (Zx Xu)) ZV)
   (Zi (Zx (Yi (Zdd rfl) (by rfl) T.n_all Zcj (Za (X9 rfl (Wm (N:=["name","entry","self"]) ["self","entry"] [none,some 1,some 0] rfl (by trivial) (by trivial) (by rfl) (by rfl) (by rfl) (by rfl) (by rfl)) (Y2 (pv 2)) (fun _ _ _=>(ZR (i:=0) Zpt rfl (Or.inl rfl))) (fun _ _ _=>Za6) (fun _ _ _=>(YM UR (ZO Zek (hr.mono (by decide)) (by rfl) T.Uf.m T.Uf.F.kp T.Uf.b .nil Zu (Za (pv 1) Zb)) (ZS (pv 2) T.cl_Book T.Xx.me Wj (hr.mono (by decide)) T.Xx.b .nil Zu (Za (pv 0) Zb)) (Zy _)))) Zb)))))))),?_⟩
 obtain ⟨b,dx,k,bi,li,ti,su,rfl,hB⟩:=id hv;obtain ⟨a,rfl,hE⟩:=id hx;by_cases hb:e.isBorn=true
 ·cases e with
  |born n s d f m =>
   have kf:f≠""->Known B f:=fun h=>kn f (by simp [Ent.named,h]);have km:m≠""->Known B m:=fun h=>kn m (by simp [Ent.named,h]);have q1:=q _ (Same.refl H);have ef:Wf B (.born n s d f m)=(XU B f "he" d&&XU B m "she" d):=rfl;rw [ef] at q1;refine ⟨_,rfl,a,_,_,_,rfl,rfl,hE,Zn (j:=0) rfl,rfl,_,rfl,ZY (by trivial) ⟨_,rfl,b,dx,_,rfl,hB.ob,rfl,_,rfl,a,_,_,_,rfl,rfl,hE,Zn (j:=4) rfl,_,rfl,a,_,_,_,rfl,rfl,hE,Zn (j:=3) rfl,rfl,.ref b,f,"he",d,B,rfl,hv,kf,_,rfl,YW (fun h1=>?_) (fun h1=>?_)⟩⟩
   ·rw [h1,GA] at q1;exact ⟨_,rfl,b,dx,_,rfl,hB.ob,rfl,_,rfl,a,_,_,_,rfl,rfl,hE,Zn (j:=5) rfl,_,rfl,a,_,_,_,rfl,rfl,hE,Zn (j:=3) rfl,rfl,.ref b,m,"she",d,B,rfl,hv,km,q1⟩
   ·rw [h1,GG] at q1;exact q1
  |_=>cases hb
 replace hb:=Rq.mpr hb;rw [Za5 hb] at q
 have w0:∃w:Str,(e.row.map kV)[0]?=some (.str w)∧w≠"born":=by
  cases e with
  |born=>cases hb
  |_=>exact ⟨_,rfl,by trivial⟩
 obtain ⟨w,hw,hwb⟩:=w0;refine ⟨_,rfl,a,_,_,_,rfl,rfl,hE,Zn hw,rfl,_,rfl,Zr (by rw [Xm];exact Qr hwb) ?_⟩;refine ⟨_,rfl,rfl,.ref a,e,rfl,hx,fun H1 D s1 nD hD=>?_⟩;dsimp only [ZM];refine Ww (fun σ H2=>σ=[some (.ref b),some (.ref a),some (.ref D)]∧H2=H1∧e.same=false) (fun nx rest=>?_) (fun σ H2 hJ=>?_)
 ·cases e with
  |born=>cases hb
  |dead n d =>
   exact ⟨_,rfl,D,_,rfl,.inl hD,rfl,_,rfl,Zr rfl (Z0 (rest _ _ ⟨rfl,rfl,rfl⟩))⟩
  |_ =>
   refine ⟨_,rfl,D,_,rfl,.inl hD,rfl,_,rfl,ZY rfl ⟨_,rfl,D,_,_,_,rfl,rfl,hD,Zn (j:=0) rfl,_,rfl,D,_,_,_,rfl,rfl,hD,Zn (j:=1) rfl,rfl,_,rfl,?_⟩⟩;refine YW (fun h1=>?_) (fun h1=>rest _ _ ⟨rfl,rfl,?_⟩)
   ·have q1:=q _ s1;rw [Xm] at h1;simp only [Ent.same,h1,Bool.not_true,GG] at q1;exact q1
   ·rw [Xm] at h1;exact h1
 obtain ⟨rfl,rfl,hsame⟩:=hJ;have hv2:=hv.mono s1;have hB2:=hB.mono s1;have hE2:=s1.sqt hE;have kn2:∀n∈e.named,∀{P:Prop},Z7 n B.kept=none->P:=fun n h _ no=>absurd no (kn n h);rw [hsame] at q;refine Ww (fun σ H3=>σ=[some (.ref b),some (.ref a),some (.ref D)]∧H3=H2∧e.early B=false) (fun nx rest=>?_) (fun σ H3 hJ=>?_)
 ·cases e with
  |born=>cases hb
  |taken c t d =>
   refine ⟨_,rfl,a,_,_,_,rfl,rfl,hE2,Zn (j:=0) rfl,rfl,_,rfl,ZY (by trivial) ?_⟩;refine ⟨_,rfl,b,dx,_,rfl,hB2.ob,rfl,_,rfl,a,_,_,_,rfl,rfl,hE2,Zn (j:=2) rfl,rfl,.ref b,.str t,B,rfl,hv2,.inr ⟨t,rfl,kn2 t (by simp [Ent.named]),fun p hp n' s' d' f m he=>?_⟩⟩;refine ⟨_,rfl,b,dx,_,rfl,hB2.ob,rfl,_,rfl,a,_,_,_,rfl,rfl,hE2,Zn (j:=1) rfl,rfl,.ref b,.str c,B,rfl,hv2,.inr ⟨c,rfl,kn2 c (by simp [Ent.named]),fun p2 hp2 n2 s2 d2 f2 m2 he2=>?_⟩⟩;have e1:=Zak hp he;have e2:=Zak hp2 he2;refine ⟨_,_,rfl,rfl,_,rfl,YW (fun h1=>?_) (fun h1=>rest _ _ ⟨rfl,rfl,?_⟩)⟩
   ·have q1:=q _ s1
    have e3:(Ent.taken c t d).early B=true:=by
     show decide (Ym B c≤Ym B t)=true;rw [e1,e2];exact h1
    rw [e3] at q1;exact q1
   ·show decide (Ym B c≤Ym B t)=false;rw [e1,e2];exact h1
  |_=>exact ⟨_,rfl,a,_,_,_,rfl,rfl,hE2,Zn (j:=0) rfl,rfl,_,rfl,Zr (by trivial) (Z0 (rest _ _ ⟨rfl,rfl,rfl⟩))⟩
 obtain ⟨rfl,rfl,hearly⟩:=hJ;rw [hearly] at q;refine ⟨_,rfl,D,rfl,⟨_,hD⟩,Zbe (e.named.map fun n=>V.bl (decide (Ym B n≤e.day))) ?len (fun σ=>∃v,σ=[v,some (.ref a),some (.ref b)]) ⟨_,rfl⟩ (fun i H3 hi sm=>?go) (fun H3 sm=>?stop) (fun i σ H3 x H4 y hy hσ sm hx2 C hC=>?step) (fun D2 H3 nD2 sm hD2=>?fin)⟩
 case len =>
  refine ZF ?_;rw [Qc];cases e with
  |born=>cases hb
  |_=>exact Qy rfl
 case go =>
  have hi':i<(e.named.map V.str).length:=by rw [Qc] at hi ⊢;exact hi
  exact ⟨_,_,sm.sql hD,Qs hi'⟩
 case stop=>exact ⟨_,sm.sql hD,by simp⟩
 case step =>
  obtain ⟨v,rfl⟩:=hσ;obtain ⟨rfl,hx3⟩:=hx2;have e1:=hx3 _ (sm.sql hD);rw [Qo] at e1 hy;obtain ⟨n,hn,rfl⟩:=QF.mp e1;rw [hn] at hy;obtain rfl:V.bl (decide (Ym B n≤e.day))=y:=Qj hy;have hB3:=hB2.mono sm;refine ⟨_,rfl,rfl,.ref a,e,rfl,hx.mono (s1.trans sm),_,rfl,b,dx,_,rfl,hB3.ob,rfl,_,rfl,rfl,.ref b,.str n,B,rfl,hv2.mono sm,.inr ⟨n,rfl,kn2 n (QL hn),fun p hp n' s' d' f m he=>⟨_,_,rfl,rfl,?_⟩⟩⟩;rw [Zak hp he] at hC;exact hC _ _ ⟨_,rfl⟩ (Same.refl _)
 case fin =>
  refine ⟨D2,e.named.map fun n=>decide (Ym B n≤e.day),rfl,by rw [hD2,QR];rfl,?_⟩;have q1:=q _ (s1.trans sm);rw [Gu];exact q1
theorem Zm8 (T:Tx K w mg) (Zdc:Zii P base T) (UL:ZdX P base T) (Jm:ZcB P base T) (Xj:Jp P base T) (ZcX:Zig P base T):Ziy P base T:=by
 refine Fun.okX (k:=4) T.Jl.F ZgV (fun vs H Q E h=>h.1) (fun cdv A outer s H vs Q E hr h=>?_);obtain ⟨-,h⟩:=h;obtain ⟨v,x,B,e,rfl,hv,hx,hok,no,q⟩:=h
 refine ⟨_,(Zm (ZJ (XB (YO (ZO Zdc (hr.mono (by decide)) (by rfl) T.Ug.m T.Ug.F.kp T.Ug.b .nil Zu (Za (pv 1) Zb)))) (Zi (Um (by rfl) T.m_NoEntry T.x_NoEntry EB rfl Uh (Za Zk Zb))) ZV)
   (Zm (ZJ (ZE UR (Yi Zns (by rfl) T.n_len Xa (Za (ZW (pv 0) rfl) Zb)) (Xs (v:=.int 400) (by rfl) T.m_MOST_ENTRIES ⟨_,rfl⟩) (Zy _)) (Zi (Um (by rfl) T.m_Full T.x_Full EB rfl Uh (Za Zk Zb))) ZV)
   (Zm (ZJ (PW.pt (Vc (ZE Z3 (Zo Zv (pv 1) Zh (fun _ _=>rfl)) Zk (Zy _)) (Vb (ZE UR (Yi Zow (by rfl) T.n_len Xa (Za (ZW (pv 0) rfl) Zb)) (Xs (v:=.int 60) (by rfl) T.m_MOST_PEOPLE ⟨_,rfl⟩) (Zy _))))) (Zi (Um (by rfl) T.m_Full T.x_Full EB rfl Uh (Za Zk Zb))) ZV)
   (Zm (YJ QN rfl (Y2 (ZO UL (hr.mono (by decide)) (by rfl) T.WD.m T.WD.F.kp T.WD.b .nil Zu (Za (pv 1) Zb))) (ZR (i:=2) ZgV.nd rfl (Or.inl rfl))
    (Zi (Z9 (ZS (pv 0) T.cl_Book T.Xh.me Xj (hr.mono (by decide)) T.Xh.b .nil Xb (Za (pv 2) Zb)))))
   (Zm (ZJ (U0 (ZaQ (Yk hr) (ZO Jm (hr.mono (by decide)) (by rfl) T.WA.m T.WA.F.kp T.WA.b .nil Zu (Za (pv 1) Zb)) (ZW (pv 0) rfl))) (Zi (Um (by rfl) T.m_Twice T.x_Twice EB rfl Uh (Za Zk Zb))) ZV)
   (Zi (ZJ (XB (YO (ZS (pv 0) T.cl_Book T.UY.me ZcX (hr.mono (by decide)) T.UY.b .nil Xb (Za (pv 1) Zb)))) (Zi (Um (by rfl) T.m_NoFit T.x_NoFit EB rfl Uh (Za Zk Zb))) ZV))))))),?_⟩
 obtain ⟨b,dx,k,bi,li,ti,su,rfl,hB⟩:=id hv;obtain ⟨h400,h60,kn',h1,hf⟩:=Ze2 no;obtain ⟨a,rfl,hE⟩:=id hx;refine ⟨_,rfl,rfl,.ref a,rfl,.inr ⟨e.row.map Zac,hok.tv hE,e.row_len,fun H1 s1=>⟨_,rfl,?_⟩⟩⟩;rw [hok.en];have hB1:=hB.mono s1;have hE1:=s1.sqt hE;have hlen:B.keptD.length=B.kept.length:=Qc ..;refine Z0 ⟨_,rfl,b,T.c_Book,dx,_,_,rfl,hB1.ob,T.cl_Book,T.na_Book_kept,ZcG,k,_,rfl,hB1.ke,_,_,rfl,rfl,_,rfl,Zr (Qr (by rw [hlen];omega)) ?_⟩;dsimp only [Zbb];refine Ww (fun σ H2=>σ=[some (.ref b),some (.ref a),none]∧H2=H1) (fun nx rest=>?_) (fun σ H2 hJ=>?_)
 ·cases e with
  |born n s d f m=>exact ⟨_,rfl,a,_,_,_,rfl,rfl,hE1,Zn (j:=0) rfl,rfl,_,rfl,ZY (by trivial) ⟨_,rfl,b,T.c_Book,dx,_,_,rfl,hB1.ob,T.cl_Book,T.na_Book_births,JO,bi,_,rfl,hB1.bi,_,_,rfl,rfl,_,rfl,Zr (Qr (by have:=h60 rfl;omega)) (rest _ _ ⟨rfl,rfl⟩)⟩⟩
  |_=>exact ⟨_,rfl,a,_,_,_,rfl,rfl,hE1,Zn (j:=0) rfl,rfl,_,rfl,Zr (by trivial) (Z0 (rest _ _ ⟨rfl,rfl⟩))⟩
 obtain ⟨rfl,rfl⟩:=hJ;refine ⟨_,rfl,rfl,.ref a,e,rfl,hx.mono s1,fun H2 D s2 nD hD=>⟨D,rfl,⟨_,hD⟩,Wx (xs:=e.named.map V.str) (fun i σ H3=>(∃v,σ=[some (.ref b),some (.ref a),v])∧Same H2 H3) ⟨⟨_,rfl⟩,Same.refl _⟩ ?sq ?turn ?done⟩⟩
 case sq =>
  rintro i σ H3 hi ⟨_,s3⟩;exact s3.sql hD
 case turn =>
  rintro i x σ H3 hx3 ⟨⟨v,rfl⟩,s3⟩;rw [Qo] at hx3;obtain ⟨n,hn,rfl⟩:=QF.mp hx3;have sa:=s1.trans (s2.trans s3);have hB3:=hB.mono sa;exact ⟨_,rfl,b,dx,_,rfl,hB3.ob,rfl,_,rfl,rfl,.ref b,.str n,B,rfl,hv.mono sa,.inr ⟨n,rfl,fun no=>absurd no (kn' n (QL hn)),fun p hp=>⟨⟨_,rfl⟩,s3⟩⟩⟩
 case done =>
  rintro σ H3 ⟨⟨v,rfl⟩,s3⟩;have sa:=s1.trans (s2.trans s3);refine ⟨_,rfl,rfl,.ref a,e,rfl,hx.mono sa,fun H4 p s4 np hp=>?_⟩;have sb:=sa.trans s4;have hB4:=hB.mono sb;have dg:=DGet.t hB4.ke hp;rw [h1] at dg;refine ⟨_,rfl,b,T.c_Book,dx,_,_,rfl,hB4.ob,T.cl_Book,T.na_Book_kept,ZcG,k,_,rfl,dg,_,rfl,Z0 ?_⟩;refine ⟨_,rfl,b,dx,_,rfl,hB4.ob,rfl,_,rfl,rfl,.ref b,.ref a,B,e,rfl,hv.mono sb,hx.mono sb,kn',fun H5 s5=>⟨_,rfl,?_⟩⟩;rw [hf];exact Z0 (q _ (sb.trans s5))
theorem ZnQ (T:Tx K w mg)  : Zbj P base T:=by
 refine Fun.okX (k:=0) T.Y5.F Zma (fun vs H Q E h=>h.1) (fun cdv A outer s H vs Q E hr h=>?_);obtain ⟨-,h⟩:=h;obtain ⟨b,dx,k,bi,li,ti,su,B,l,n,m,rfl,hB,hl,hz,q⟩:=h;refine ⟨_,(Zi (WB (Yk hr) (ZW (pv 0) rfl) (ZQ (Za (pv 1) (Za (pv 2) Zb))) (Yi (Zme K) (by rfl) T.n_sorted JM (Za (Z1 Za1 (Vh (Yk hr) (ZW (pv 0) rfl) (ZQ (Za (pv 1) (Za (pv 2) Zb))) (YD Zb) ⟨rfl,rfl,rfl,rfl⟩) (YD (Za (pv 3) Zb))) Zb)) rfl)),?_⟩;refine ⟨_,rfl,b,T.c_Book,dx,_,_,rfl,hB.ob,T.cl_Book,T.na_Book_links,ZaL,li,rfl,.inr ⟨_,.inl hB.li⟩,_,rfl,_,rfl,few rfl,fun t nt=>⟨few rfl,fun z nz=>?_⟩⟩;have s1:=Zj (o:=.tup [.str l,.str n]) nt;have s2:=Zj (o:=.lst []) nz;have s3:=s1.trans s2;have hz0:(Zc (Zc H t (.tup [.str l,.str n])) z (.lst [])) z=some (.lst []):=Zg;have dg:=DGet.t (k:=ZT (l,n)) (s3 _ _ hB.li) (s2 _ _ (Zg (o:=.tup [.str l,.str n])));generalize Zc (Zc H t (.tup [.str l,.str n])) z (.lst [])=H2 at *;rw [show B.linksD=B.links.map fun q=>(ZT q.1,V.ref q.2.1) from rfl,Zer] at dg
 have rest:∀(D:Addr) (H3:Hp),Same H H3->H D=none->H3 D=some (.lst ((ZB (Yn B l n++[m])).map V.str))->Zht K (XG 0) "links" (L2.start ["self","letter","begin","end"] [.ref b,.str l,.str n,.str m]) H3 fun x H4=>(Zge (Zax (XG 1) (Zax (XG 2) Zas))) (L2.start ["self","letter","begin","end"] [.ref b,.str l,.str n,.str m]) H4 fun y H5=>∃a H6,x=.ref a∧DPut H5 a y (.ref D) H6∧Q .non H6:=by
  intro D H3 sA nD0 hD;have hB3:=hB.mono sA;refine ⟨_,rfl,b,T.c_Book,dx,_,_,rfl,hB3.ob,T.cl_Book,T.na_Book_links,ZaL,_,rfl,_,rfl,few rfl,fun t2 nt2=>?_⟩;have sB:=Zj (o:=.tup [.str l,.str n]) nt2;have hB4:=hB3.mono sB;refine ⟨li,_,rfl,DPut.t (k:=ZT (l,n)) hB4.li Zg ?_,?_⟩
  ·rw [show B.linksD.length=B.links.length from Qc ..];exact ZF (by omega)
  rw [show B.linksD=B.links.map fun q=>(ZT q.1,V.ref q.2.1) from rfl,U2 (f:=ZT) (fun _ _=>Ui) (fun p:Addr×List Str=>V.ref p.1) B.links (l,n) (D,ZB (Yn B l n++[m]))];refine q _ D (hB4.links fun q hq=>?_) ((But.of [li] (sA.trans sB)).trans (But.put hB4.li (by simp))) nD0;rcases ZaM hq with rfl|hq
  ·exact sB _ _ hD
  ·exact hB4.ll q hq
 refine ⟨_,dg,?_⟩;cases hk:Yc (l,n) B.links with
 |none =>
   have e:Yn B l n=[]:=by unfold Yn;rw [hk];rfl
   have hX:H2 z=some (.lst ((Yn B l n).map V.str)):=by rw [e];exact hz0
   refine ⟨_,rfl,few rfl,fun y ny=>⟨z,y,_,_,rfl,rfl,(Zd (ZA hX ny)).trans hX,Zg,?len,fun p np=>⟨p,Yn B l n++[m],rfl,.of (by rw [Zg,Qv];rfl),?JE,fun D zs nD perm so=>?go⟩⟩⟩
   case len=>rw [Qc];exact QO (ZF (by show _+1≤1000;omega))
   case JE=>rw [Qq];show _+1<64;omega
   have s4:=(s3.trans (Zj ny)).trans ((Zj np).trans (Zj (o:=.lst (zs.map V.str)) nD));have hDD:(Zc (Zc (Zc H2 y (.lst [V.str m])) p (.lst ((Yn B l n).map V.str++[V.str m]))) D (.lst (zs.map V.str))) D=some (.lst (zs.map V.str)):=Zg;rw [Zes perm so] at hDD s4 ⊢;exact rest D _ s4 (ZX ((s3.trans (Zj ny)).trans (Zj np)) nD) hDD
 |some x =>
   have e:Yn B l n=x.2:=by unfold Yn;rw [hk];rfl
   obtain ⟨y0,hy0,ey⟩:=Zb5 hk;have hl2:=hB.ll y0 hy0;rw [ey] at hl2;have hX:H2 x.1=some (.lst ((Yn B l n).map V.str)):=by rw [e];exact (s3 _ _ hl2)
   refine ⟨_,rfl,few rfl,fun y ny=>⟨x.1,y,_,_,rfl,rfl,(Zd (ZA hX ny)).trans hX,Zg,?lenb,fun p np=>⟨p,Yn B l n++[m],rfl,.of (by rw [Zg,Qv];rfl),?len2b,fun D zs nD perm so=>?gob⟩⟩⟩
   case lenb=>rw [Qc];exact QO (ZF (by show _+1≤1000;omega))
   case len2b=>rw [Qq];show _+1<64;omega
   have s4:=(s3.trans (Zj ny)).trans ((Zj np).trans (Zj (o:=.lst (zs.map V.str)) nD));have hDD:(Zc (Zc (Zc H2 y (.lst [V.str m])) p (.lst ((Yn B l n).map V.str++[V.str m]))) D (.lst (zs.map V.str))) D=some (.lst (zs.map V.str)):=Zg;rw [Zes perm so] at hDD s4 ⊢;exact rest D _ s4 (ZX ((s3.trans (Zj ny)).trans (Zj np)) nD) hDD
theorem ZoG (T:Tx K w mg) (XX:Zbj P base T):ZfT P base T:=by
 refine Fun.okX (k:=1) T.U6.F ZmW (fun vs H Q E h=>h.1) (fun cdv A outer s H vs Q E hr h=>?_);obtain ⟨-,h⟩:=h;obtain ⟨b,dx,k,bi,li,ti,su,B0,B,n,s,d,f,m,a,rfl,hk,hb,hbi,no,hl0,hE,hB,hz,hc,q⟩:=h
 refine ⟨_,(Zm (WB (Yk hr) (ZW (pv 0) rfl) (Zo Zv (pv 1) Zh (fun _ _=>rfl)) (pv 1) rfl)
   (Zm (ZJ (ZE WF (Zo Zv (pv 1) Zh (fun _ _=>rfl)) Zk (Zy _)) (Zm (Z9 (ZS (pv 0) T.cl_Book T.Y5.me XX (hr.mono (by decide)) T.Y5.b .nil Zu (Za Zk (Za (Zo Zv (pv 1) Zh (fun _ _=>rfl)) (Za (Zo Zv (pv 1) Zh (fun _ _=>rfl)) Zb)))))
   (Zi (Z9 (ZS (pv 0) T.cl_Book T.Y5.me XX (hr.mono (by decide)) T.Y5.b .nil Zu (Za Zk (Za (Zo Zv (pv 1) Zh (fun _ _=>rfl)) (Za (Zo Zv (pv 1) Zh (fun _ _=>rfl)) Zb))))))) ZV)
   (Zi (ZJ (ZE WF (Zo Zv (pv 1) Zh (fun _ _=>rfl)) Zk (Zy _)) (Zm (Z9 (ZS (pv 0) T.cl_Book T.Y5.me XX (hr.mono (by decide)) T.Y5.b .nil Zu (Za Zk (Za (Zo Zv (pv 1) Zh (fun _ _=>rfl)) (Za (Zo Zv (pv 1) Zh (fun _ _=>rfl)) Zb)))))
   (Zi (Z9 (ZS (pv 0) T.cl_Book T.Y5.me XX (hr.mono (by decide)) T.Y5.b .nil Zu (Za Zk (Za (Zo Zv (pv 1) Zh (fun _ _=>rfl)) (Za (Zo Zv (pv 1) Zh (fun _ _=>rfl)) Zb))))))) ZV)))),?_⟩
 have hb0:ZH (Bk.bornD B0) (.inr n:Zl)=none:=by rw [ZcT,no];rfl
 refine ⟨_,rfl,_,rfl,b,T.c_Book,dx,_,_,rfl,hb,T.cl_Book,T.na_Book_births,JO,_,rfl,a,_,_,_,rfl,rfl,hE,Zn (j:=1) rfl,bi,_,rfl,DPut.k (k:=.inr n) hbi (ZF (Qn (Qn (Zph B0) hl0) (by decide))),?_⟩;rw [ZbB _ hb0,←Zjy B0 n s d f m a,←hk];have bt0:But [bi,li] H (Zc H bi (.dK (Bk.bornD B.kept))):=But.put hbi (by simp);generalize Zc H bi (.dK (Bk.bornD B.kept))=H3 at *;have hmem:(Ent.born n s d f m,a)∈B.kept:=by rw [hk];simp
 dsimp only [Zbb];refine Ww (fun σ H4=>σ=[some (.ref b),some (.ref a)]∧∃ls,BkAt K T.c_Book H4 b dx k bi li ti su { B with links:=ls }∧(∀c,lk ls c=(if f="" then lk B.links else Z8 (Z8 (lk B.links) ("F",n) f) ("f",f) n) c)∧ls.length≤B.links.length+2∧But [bi,li] H H4∧Grows H B.links ls) (fun nx rest=>?_) (fun σ H4 hJ=>?_)
 ·have hE3:=hB.en _ hmem;refine ⟨_,rfl,a,_,_,_,rfl,rfl,hE3,Zn (j:=4) rfl,rfl,_,rfl,?_⟩;by_cases f0:f=""
  ·refine Zr (by show (!decide (V.str f=V.str ""))=false;rw [Xm,Qu f0];rfl) (rest _ _ ⟨rfl,B.links,hB,fun c=>by rw [Qb f0],by omega,bt0,Grows.refl _ _⟩)
  have ⟨ls,hls,hB4,hF⟩:∃ls,ls=B.links∧BkAt K T.c_Book H3 b dx k bi li ti su { B with links:=ls }∧∀c,lk ls c=lk B.links c:=⟨B.links,rfl,hB,fun c=>rfl⟩;have hz2:ls.length≤890:=by rw [hls];exact hz
  have hz3:ls.length≤B.links.length:=by rw [hls];exact Qe _
  refine ZY (by show (!decide (V.str f=V.str ""))=true;rw [Xm,Qr f0];rfl) ?_;have hE4:=hB4.en _ hmem;refine ⟨_,rfl,b,dx,_,rfl,hB4.ob,rfl,_,rfl,a,_,_,_,rfl,rfl,hE4,Zn (j:=1) rfl,_,rfl,a,_,_,_,rfl,rfl,hE4,Zn (j:=4) rfl,rfl,b,dx,k,bi,li,ti,su,{ B with links:=ls },"F",n,f,rfl,hB4,?p1,?p2,fun H5 D5 hB5 bt5 nD5=>?p3⟩
  case p1=>rw [UF,hF];exact hc _
  case p2=>show ls.length≤900;omega
  have hE5:=hB5.en _ hmem;refine ⟨_,rfl,b,dx,_,rfl,hB5.ob,rfl,_,rfl,a,_,_,_,rfl,rfl,hE5,Zn (j:=4) rfl,_,rfl,a,_,_,_,rfl,rfl,hE5,Zn (j:=1) rfl,rfl,b,dx,k,bi,li,ti,su,_,"f",f,n,rfl,hB5,?p4,?p5,fun H6 D6 hB6 bt6 nD6=>?p6⟩
  case p4 =>
   rw [UF];show (lk (Zp ls _ (D5,ZB (lk ls ("F",n)++[f]))) _).length≤61;rw [Vd,Zaq (show Str.ofString "f"≠Str.ofString "F" by trivial),hF];exact hc _
  case p5 =>
   have:=X3 ls ("F",n) (D5,ZB (lk ls ("F",n)++[f]));show (Zp ls _ (D5,ZB (lk ls ("F",n)++[f]))).length≤900;omega
  refine rest _ _ ⟨rfl,_,hB6,fun c=>?_,?_,?_,((hls▸Grows.refl _ _:Grows H B.links ls).put (bt0.al _ nD5)).put (bt0.al _ (bt5.al _ nD6))⟩
  ·show lk (Zp (Zp ls ("F",n) (D5,ZB (lk ls ("F",n)++[f]))) ("f",f) (D6,ZB (lk (Zp ls ("F",n) (D5,ZB (lk ls ("F",n)++[f]))) ("f",f)++[n]))) c=_;rw [Vd];rw [Qa f0];exact Zab (fun c=>(Vd ..).trans (Zab hF ..)) ..
  ·have a1:=X3 ls ("F",n) (D5,ZB (lk ls ("F",n)++[f]));have a2:=X3 (Zp ls ("F",n) (D5,ZB (lk ls ("F",n)++[f]))) ("f",f) (D6,ZB (lk (Zp ls ("F",n) (D5,ZB (lk ls ("F",n)++[f]))) ("f",f)++[n]));show (Zp (Zp ls ("F",n) (D5,ZB (lk ls ("F",n)++[f]))) ("f",f) (D6,ZB (lk (Zp ls ("F",n) (D5,ZB (lk ls ("F",n)++[f]))) ("f",f)++[n]))).length≤_;omega
  ·exact bt0.trans ((bt5.mono (by simp)).trans (bt6.mono (by simp)))
 obtain ⟨rfl,ls,hB4,hF,hl4,bt4,gr⟩:=hJ;have hE3:=hB4.en _ hmem;refine ⟨_,rfl,a,_,_,_,rfl,rfl,hE3,Zn (j:=5) rfl,rfl,_,rfl,?_⟩;by_cases m0:m=""
 ·refine Zr (by show (!decide (V.str m=V.str ""))=false;rw [Xm,Qu m0];rfl) (q _ ls hB4 (fun c=>?_) (by omega) bt4 gr);unfold Xp;rw [Qb m0];exact hF c
 ·have h1:∀c:Str×Str,c.1≠"F"->c.1≠"f"->((if f="" then lk B.links else Z8 (Z8 (lk B.links) ("F",n) f) ("f",f) n) c).length≤61:=by
   intro c c1 c2;by_cases f0:f=""
   ·rw [Qb f0];exact hc c
   ·rw [Qa f0,Zaq c2,Zaq c1];exact hc c
  refine ZY (by show (!decide (V.str m=V.str ""))=true;rw [Xm,Qr m0];rfl) ?_;have hE4:=hB4.en _ hmem;refine ⟨_,rfl,b,dx,_,rfl,hB4.ob,rfl,_,rfl,a,_,_,_,rfl,rfl,hE4,Zn (j:=1) rfl,_,rfl,a,_,_,_,rfl,rfl,hE4,Zn (j:=5) rfl,rfl,b,dx,k,bi,li,ti,su,{ B with links:=ls },"M",n,m,rfl,hB4,?r1,?r2,fun H5 D5 hB5 bt5 nD5=>?r3⟩
  case r1=>rw [UF,hF];exact (h1 _ (show Str.ofString "M"≠Str.ofString "F" by trivial) (show Str.ofString "M"≠Str.ofString "f" by trivial))
  case r2=>show ls.length≤900;omega
  have hE5:=hB5.en _ hmem;refine ⟨_,rfl,b,dx,_,rfl,hB5.ob,rfl,_,rfl,a,_,_,_,rfl,rfl,hE5,Zn (j:=5) rfl,_,rfl,a,_,_,_,rfl,rfl,hE5,Zn (j:=1) rfl,rfl,b,dx,k,bi,li,ti,su,_,"m",m,n,rfl,hB5,?r4,?r5,fun H6 D6 hB6 bt6 nD6=>?r6⟩
  case r4 =>
   rw [UF];show (lk (Zp ls _ (D5,ZB (lk ls ("M",n)++[m]))) _).length≤61;rw [Vd,Zaq (show Str.ofString "m"≠Str.ofString "M" by trivial),hF];exact (h1 _ (show Str.ofString "m"≠Str.ofString "F" by trivial) (show Str.ofString "m"≠Str.ofString "f" by trivial))
  case r5 =>
   have:=X3 ls ("M",n) (D5,ZB (lk ls ("M",n)++[m]));show (Zp ls _ (D5,ZB (lk ls ("M",n)++[m]))).length≤900;omega
  refine q _ _ hB6 (fun c=>?_) ?_ ?_ ((gr.put (bt4.al _ nD5)).put (bt4.al _ (bt5.al _ nD6)))
  ·show lk (Zp (Zp ls ("M",n) (D5,ZB (lk ls ("M",n)++[m]))) ("m",m) (D6,ZB (lk (Zp ls ("M",n) (D5,ZB (lk ls ("M",n)++[m]))) ("m",m)++[n]))) c=_;rw [Vd];unfold Xp;rw [Qa m0];exact Zab (fun c=>(Vd ..).trans (Zab hF ..)) ..
  ·have a1:=X3 ls ("M",n) (D5,ZB (lk ls ("M",n)++[m]));have a2:=X3 (Zp ls ("M",n) (D5,ZB (lk ls ("M",n)++[m]))) ("m",m) (D6,ZB (lk (Zp ls ("M",n) (D5,ZB (lk ls ("M",n)++[m]))) ("m",m)++[n]));show (Zp (Zp ls ("M",n) (D5,ZB (lk ls ("M",n)++[m]))) ("m",m) (D6,ZB (lk (Zp ls ("M",n) (D5,ZB (lk ls ("M",n)++[m]))) ("m",m)++[n]))).length≤_;omega
  ·exact bt4.trans ((bt5.mono (by simp)).trans (bt6.mono (by simp)))
theorem Zlm (T:Tx K w mg) (Zc0:ZeG P base T) (Xj:Jp P base T):Za7 P base T:=by
 refine Fun.okX (k:=1) T.XE.F ZpA (fun vs H Q E h=>h.1) (fun cdv A outer s H vs Q E hr h=>?_);obtain ⟨-,h⟩:=h;obtain ⟨v,x,y,B,rfl,hv,h⟩:=h
 refine ⟨_,(Zm (ZJ (XB (YO (ZO Zc0 (hr.mono (by decide)) (by rfl) T.V7.m T.V7.F.kp T.V7.b .nil Zu (Za (pv 1) Zb)))) (Zi (Um (by rfl) T.m_NoWay T.x_NoWay EB rfl Uh (Za Zk Zb))) ZV)
   (Zm (Z9 (ZS (pv 0) T.cl_Book T.Xh.me Xj (hr.mono (by decide)) T.Xh.b .nil Xb (Za (pv 2) Zb)))
   (Zi (Zx (Zar Zoj (by rfl) T.n_list Zmt (Za (Vh (Yk hr) (ZW (pv 0) rfl) (ZQ (Za (pv 1) (Za (pv 2) Zb))) (YD Zb) ⟨rfl,rfl,rfl,rfl⟩) Zb)))))),?_⟩
 obtain ⟨b,dx,k,bi,li,ti,su,rfl,hB⟩:=id hv;rcases h with ⟨ty,hk,ks,qe⟩|⟨l,rfl,q1,q23⟩
 ·exact ⟨_,rfl,rfl,x,rfl,.inl ⟨ty,hk,ks,_,rfl,Z4 ⟨few rfl,qe⟩⟩⟩
 refine ⟨_,rfl,rfl,.str l,rfl,.inr ⟨l,rfl,_,rfl,?_⟩⟩;cases hl:Vf l with
 |false=>exact Z4 ⟨few rfl,q1 hl⟩
 |true =>
  refine Z0 ⟨_,rfl,b,dx,_,rfl,hB.ob,rfl,_,rfl,rfl,.ref b,y,B,rfl,hv,?_⟩;rcases q23 hl with ⟨ty,hk,ks,qe⟩|⟨n,rfl,q2,q3⟩
  ·exact .inl ⟨ty,hk,ks,qe⟩
  refine .inr ⟨n,rfl,q2,fun p hp=>?_⟩;have kn:Known B n:=by unfold Known;rw [hp];simp
  refine ⟨_,rfl,b,T.c_Book,dx,_,_,rfl,hB.ob,T.cl_Book,T.na_Book_links,ZaL,li,rfl,.inr ⟨_,.inl hB.li⟩,_,rfl,_,rfl,few rfl,fun t nt=>⟨few rfl,fun z nz=>?_⟩⟩;have s1:=Zj (o:=.tup [.str l,.str n]) nt;have s2:=Zj (o:=.lst []) nz;have s3:=s1.trans s2;have dg:=DGet.t (k:=ZT (l,n)) (s3 _ _ hB.li) (s2 _ _ (Zg (o:=.tup [.str l,.str n])));rw [show B.linksD=B.links.map fun q=>(ZT q.1,V.ref q.2.1) from rfl,Zer] at dg;refine ⟨_,dg,?_⟩;cases hk:Yc (l,n) B.links with
  |none =>
   have e:Yn B l n=[]:=by unfold Yn;rw [hk];rfl
   rw [e] at q3;exact ⟨z,[],rfl,.inl (.of Zg),fun D nD=>q3 kn _ D (s3.trans (Zj nD)) (ZX s3 nD) Zg⟩
  |some x =>
   have e:Yn B l n=x.2:=by unfold Yn;rw [hk];rfl
   rw [e] at q3;obtain ⟨y,hy,ey⟩:=Zb5 hk;have hl2:=hB.ll y hy;rw [ey] at hl2;exact ⟨x.1,_,rfl,.inl (.of (s3 _ _ hl2)),fun D nD=>q3 kn _ D (s3.trans (Zj nD)) (ZX s3 nD) Zg⟩
theorem ZlD (T:Tx K w mg) (Jk:Zeh P base T) (Xj:Jp P base T):ZeW P base T:=by
 refine FunD.okX (k:=1) T.F_Book_stands Zb7 (fun vs H Q E h=>h.1) (fun cdv A outer s H vs Q E hr h=>?_);obtain ⟨-,h⟩:=h;obtain ⟨v,a,c,B,rfl,hv,ka,kc,hlen,q⟩:=h
 refine ⟨_,(Zm (Z9 (ZS (pv 0) T.cl_Book T.Xh.me Xj (hr.mono (by decide)) T.Xh.b .nil Xb (Za (pv 1) Zb)))
   (Zm (Z9 (ZS (pv 0) T.cl_Book T.Xh.me Xj (hr.mono (by decide)) T.Xh.b .nil Xb (Za (pv 2) Zb)))
   (Zm (ZP (i:=4) Zb7.nd rfl (Or.inl rfl) (Vh (Yk hr) (ZW (pv 0) rfl) (ZO Jk (hr.mono (by decide)) (by rfl) T.W1.m T.W1.F.kp T.W1.b .nil Zu (Za (pv 1) (Za (pv 2) Zb))) JS ⟨rfl,rfl,rfl,rfl⟩))
   (Zm (Zch (Zi5 (i:=5) rfl  Zb7.nd rfl (Or.inl rfl) (Wm (N:=["tied_on","day"]) ["day"] [none,some 3] rfl (by trivial) (by trivial) (by rfl) (by rfl) (by rfl) (by rfl) (by rfl)) (Zdr (pv 4)) (fun _ _ _=>(ZR (i:=0) ZoY rfl (Or.inl rfl))) (fun _ _ _=>(Vl (PW.pt (Xy (ZE Zgj (pv 1) Uo (Zy _)) (W0 (ZE ZcF (pv 0) (pv 1) (Zy _))))))) (fun _ _ _=>(pv 0))))
   (Zi (Zx (X1 (YM Zfr (Yi XR (by rfl) T.n_len Xa (Za (pv 5) Zb)) Zh (Zy _)) (XJ (YM Z3 (ZbC (Yk hr) (pv 4) (Yi (Zhg K rfl) (by rfl) T.n_max Zci (Za (pv 5) Zb)) (fun _ _=>rfl)) Zk (Zy _)))))))))),?_⟩
 obtain ⟨b,dx,k,bi,li,ti,su,rfl,hB⟩:=id hv;refine ⟨_,rfl,b,dx,_,rfl,hB.ob,rfl,_,rfl,rfl,.ref b,.str a,B,rfl,hv,.inr ⟨a,rfl,fun no=>absurd no ka,fun p1 hp1=>?_⟩⟩;refine ⟨_,rfl,b,dx,_,rfl,hB.ob,rfl,_,rfl,rfl,.ref b,.str c,B,rfl,hv,.inr ⟨c,rfl,fun no=>absurd no kc,fun p2 hp2=>?_⟩⟩;dsimp only;refine Ww (fun σ' H'=>∃d,σ'=[some (.ref b),some (.str a),some (.str c),some .non,some (.ref d),none]∧Same H H'∧H' d=some (.dK (YR (Yy B (Zf a c))))) (fun nx hnx=>?_) ?_
 ·refine ⟨_,rfl,b,T.c_Book,dx,_,_,rfl,hB.ob,T.cl_Book,T.na_Book_ties,Zgv,ti,rfl,.inr ⟨_,.inl hB.ti⟩,_,rfl,_,rfl,rfl,a,c,rfl,fun H1 t s1 nt ht=>fun z nz=>?_⟩;have s2:=Zj (o:=.dK []) nz;have s3:=s1.trans s2;have dg:=DGet.t (k:=ZT (Zf a c)) (s3 _ _ hB.ti) (s2 _ _ ht);rw [show B.tiesD=B.ties.map fun q=>(ZT q.1,V.ref q.2.1) from rfl,Zao (f:=ZT) (fun _ _=>Ui) (fun p:Addr×List (Int×Str)=>V.ref p.1)] at dg;refine ⟨_,dg,?_⟩;cases hk:ZD (Zf a c) B.ties with
  |none =>
   refine hnx _ _ ⟨z,rfl,s3,?_⟩;have e:Yy B (Zf a c)=[]:=by unfold Yy;rw [hk];rfl
   rw [e];exact Zg
  |some x =>
   refine hnx _ _ ⟨x.1,rfl,s3,?_⟩;have e:Yy B (Zf a c)=x.2:=by unfold Yy;rw [hk];rfl
   rw [e];exact s3 _ _ (hB.tt _ (Ue hk))
 rintro σ' H2 ⟨d,rfl,s2,hd⟩;have est:Zby B a c=YN (Yy B (Zf a c)):=rfl;rw [est] at q;generalize Yy B (Zf a c)=l at *;have llen:(YR l).length=l.length:=Qc ..;refine ⟨d,YR l,hd,_,rfl,d,YR l,rfl,hd,fun o=>V9 (l.map fun r=>some (V.int r.1)) (ZF (by rw [Qc];omega)) (fun σ=>∃w,σ=[w,some .non]) ⟨_,rfl⟩ (fun i H3 hi sm=>?go) (fun H3 sm=>?stop) (fun i σ H3 x H4 y hy hσ sm hx C hC=>?step) (fun D H3 nD sm hD=>?fin)⟩
 case go=>exact ⟨sm _ _ Zg,by rw [llen];rw [Qc] at hi;exact hi⟩
 case stop=>exact ⟨sm _ _ Zg,by rw [llen,Qc];exact Qe _⟩
 case step =>
  obtain ⟨w,rfl⟩:=hσ;obtain ⟨rfl,hx2⟩:=hx;rw [Qo] at hy;obtain ⟨r,hr2,rfl⟩:=QF.mp hy
  have ex:x=.int r.1:=by
   unfold YR at hx2;rw [Qo,hr2] at hx2;exact (Qj hx2).symm
  subst ex;refine ⟨_,rfl,rfl,_,rfl,ZY (by rfl) (Z4 ⟨_,rfl,hC _ _ ⟨_,rfl⟩ (Same.refl _)⟩)⟩
 case fin =>
  have ef:(l.map fun r=>some (V.int r.1)).filterMap id=(l.map (·.1)).map V.int:=by
   rw [RB,QR];exact List.filterMap_eq_map▸rfl
  rw [ef] at hD;refine ⟨o,sm _ _ Zg,?_⟩;have nDd:D≠d:=fun e=>by subst e;rw [Zg] at nD;cases nD
  have hD4:(Zc H3 d (.dK (YR l))) D=some (.lst ((l.map (·.1)).map V.int)):=(Zd nDd).trans hD;have hd4:(Zc H3 d (.dK (YR l))) d=some (.dK (YR l)):=Zg
  have s4:Same H2 (Zc H3 d (.dK (YR l))):=fun x u e=>by
   by_cases xd:x=d
   ·subst xd;rw [hd] at e;cases e;exact hd4
   ·rw [Zd xd];exact sm _ _ ((Zd xd).trans e)
  generalize Zc H3 d (.dK (YR l))=H5 at *;refine ⟨_,rfl,D,_,rfl,.inl (.of hD4),_,_,rfl,rfl,_,rfl,?_⟩;rw [Qc,Qc];cases l with
  |nil=>exact Z0 (q _ (s2.trans s4))
  |cons r0 l0 =>
   refine ZY (Qu (by rw [QM];omega)) ⟨_,rfl,_,rfl,D,(r0::l0).map (·.1),rfl,.of hD4,by simp,fun m hm hx=>?_⟩;obtain ⟨x,ex⟩:=ZoN hm;have dg:=DGet.k (k:=.inl m) hd4;rw [show YR (r0::l0)=(r0::l0).map fun q=>((.inl q.1:Zl),V.str q.2) from rfl,Zao (f:=(Sum.inl:Int->Zl)) ZhR V.str,ex] at dg;have q2:=q _ (s2.trans s4);rw [Zhm hm hx ex] at q2;refine ⟨d,.str x,rfl,dg,rfl,?_⟩;rw [Xm];exact q2
theorem Zi4 (T:Tx K w mg) (Jk:Zeh P base T) (XX:Zbj P base T) (Wk:Za7 P base T) (Zct:ZeW P base T):ZfH P base T:=by
 refine Fun.okX (k:=2) T.U1.F ZbD (fun vs H Q E h=>h.1) (fun cdv A outer s H vs Q E hr h=>?_);obtain ⟨-,h⟩:=h;obtain ⟨b,dx,k,bi,li,ti,su,B,a,kd,p1,p2,d,rfl,hE,hB,k1,k2,nd,tl,dl,ll,lf,q⟩:=h
 refine ⟨_,(Zm (ZP (i:=2) ZbD.nd rfl (Or.inl rfl) (Zn2 (Yk hr) (ZW (pv 0) rfl) (ZO Jk (hr.mono (by decide)) (by rfl) T.W1.m T.W1.F.kp T.W1.b .nil Zu (Za (Zo Zv (pv 1) Zh (fun _ _=>rfl)) (Za (Zo Zv (pv 1) Zh (fun _ _=>rfl)) Zb))) JS ⟨rfl,rfl,rfl,rfl⟩))
   (Zm (WB (Yk hr) (pv 2) (Zo Zv (pv 1) Zh (fun _ _=>rfl)) (Zo Zv (pv 1) Zh (fun _ _=>rfl)) rfl)
   (Zi (YJ QN rfl (VR (ZQ (Za (ZQ (Za (Zo Zv (pv 1) Zh (fun _ _=>rfl)) (Za (Zo Zv (pv 1) Zh (fun _ _=>rfl)) Zb))) (Za (ZQ (Za (Zo Zv (pv 1) Zh (fun _ _=>rfl)) (Za (Zo Zv (pv 1) Zh (fun _ _=>rfl)) Zb))) Zb)))) (Vv rfl (Yx (ZR (i:=3) ZbD.nd rfl (Or.inl rfl)) (Yx (ZR (i:=4) ZbD.nd rfl (Or.inr rfl)) X7)))
    (Zm (WB (Yk hr) (ZW (pv 0) rfl) (ZQ (Za Zk (Za (pv 3) Zb))) (X9 rfl (Wm (N:=["name","end"]) ["end"] [none,some 4] rfl (by trivial) (by trivial) (by rfl) (by rfl) (by rfl) (by rfl) (by rfl)) (Y2 (ZS (pv 0) T.cl_Book T.XE.me Wk (hr.mono (by decide)) T.XE.b .nil Zu (Za Zk (Za (pv 3) Zb)))) (fun _ _ _=>(ZR (i:=0) Zlv rfl (Or.inl rfl))) (fun _ _ _=>(Vl (ZE WF (pv 0) (pv 1) (Zy _)))) (fun _ _ _=>(pv 0))) rfl)
   (Zi (ZJ (YO (ZS (pv 0) T.cl_Book T.me_Book_stands Zct (hr.mono (by decide)) T.b_Book_stands (.cons (show RelV V.non Value.none from rfl) .nil) Zu (Za (pv 3) (Za (pv 4) Zb)))) (Zi (Z9 (ZS (pv 0) T.cl_Book T.Y5.me XX (hr.mono (by decide)) T.Y5.b .nil Zu (Za Zk (Za (pv 3) (Za (pv 4) Zb)))))) ZV))))))),?_⟩
 refine Ww (fun σ' H'=>∃y ts,σ'=[some (.ref b),some (.ref a),some (.ref y),none,none]∧BkAt K T.c_Book H' b dx k bi li ti su { B with ties:=ts }∧(ts.map (·.1)).Nodup∧ts.length≤B.ties.length+1∧ZD (Zf p1 p2) ts=some (y,Yy B (Zf p1 p2))∧(∀c,YZ ts c=Yy B c)∧But [li,ti,y] H H'∧(H y=none∨y∈B.ties.map (·.2.1))∧GrowsT H B.ties ts∧SqT K H' a [.str kd,.str p1,.str p2,.int d]) (fun nx hnx=>?_) ?_
 ·refine ⟨_,rfl,b,T.c_Book,dx,_,_,rfl,hB.ob,T.cl_Book,T.na_Book_ties,Zgv,ti,rfl,.inr ⟨_,.inl hB.ti⟩,_,rfl,a,_,_,_,rfl,rfl,hE,Zn (j:=1) rfl,_,rfl,a,_,_,_,rfl,rfl,hE,Zn (j:=2) rfl,rfl,p1,p2,rfl,fun H1 t s1 nt ht=>fun z nz=>?_⟩;have s2:=Zj (o:=.dK []) nz;have s3:=s1.trans s2;have hB1:=hB.mono s1;have hB3:=hB.mono s3;have hlen:B.tiesD.length=B.ties.length:=Qc ..;have hval:ZH B.tiesD (ZT (Zf p1 p2))=(ZD (Zf p1 p2) B.ties).map fun p=>V.ref p.1:=Zao (f:=ZT) (fun _ _=>Ui) (fun p:Addr×List (Int×Str)=>V.ref p.1) _ _;refine ⟨_,ZT (Zf p1 p2),t,hB3.ti,rfl,s2 _ _ ht,by rw [hlen];exact ZF (by omega),fun v hv=>?_,fun hn=>?_⟩
  ·rw [hval] at hv;obtain ⟨x,hk,rfl⟩:=QF.mp hv;have e:Yy B (Zf p1 p2)=x.2:=by unfold Yy;rw [hk];rfl
   exact hnx _ _ ⟨x.1,B.ties,rfl,hB3,nd,by omega,by rw [hk,e],fun c=>rfl,But.of _ s3,.inr (Qg.mpr ⟨_,Ue hk,rfl⟩),GrowsT.refl _ _,s3.sqt hE⟩
  ·rw [hval] at hn;have hk:ZD (Zf p1 p2) B.ties=none:=by simpa using hn
   have e:Yy B (Zf p1 p2)=[]:=by unfold Yy;rw [hk];rfl
   have zn:∀{x:Addr} {o:HO},H1 x=some o->x≠z:=fun h=>ZA h nz;refine hnx _ _ ⟨z,B.ties++[(Zf p1 p2,z,[])],rfl,hB3.newTie Zg ⟨(zn hB1.bi).symm,fun q hq=>zn (hB1.tt q hq)⟩ _,?_,by rw [Qq];exact Qe _,?_,fun c=>Zn0 _ _ _ _ hk,?_,.inl (ZX s1 nz),(fun a ha=>by rw [Qv] at ha;exact (Ql.mp ha).imp id (fun ha=>by rw [show a=z by simpa using ha];exact ZX s1 nz)),?_⟩
   ·rw [Qv,QZ];refine ⟨nd,by simp,fun x hx w hw ex=>?_⟩;have ew:w=Zf p1 p2:=by simpa using hw
    subst ew ex;obtain ⟨p,hp,ep⟩:=Qg.mp hx;have:=ZaE hk;rw [Ng] at this;exact absurd (Qu ep) (this p hp)
   ·rw [Zbg,hk,e];unfold ZD;rw [Qb rfl];rfl
   ·exact (But.of _ s3).trans (But.put hB3.ti (by simp))
   ·exact Wu (s3.sqt hE) hB3.ti (fun _ z=>by cases z) (fun _ _ z=>by cases z)
 rintro σ' H1 ⟨y,ts,rfl,hB1,J4,tl1,hf,htf,bt1,hy0,grT,hE1⟩;generalize hl:Yy B (Zf p1 p2)=l at *;have hy:H1 y=some (.dK (YR l)):=hB1.tt _ (Ue hf);have hB2:=hB1.putTie J4 hf (Zp l d kd);obtain ⟨pa1,pa2⟩:=ZeK (l':=Zp l d kd) J4 hf;have grT2:GrowsT H B.ties (Zp ts (Zf p1 p2) (y,Zp l d kd)):=fun a ha=>grT a (by rw [←pa1];exact ha)
 have tl2:(Zp ts (Zf p1 p2) (y,Zp l d kd)).length=ts.length:=by
  have:=QB List.length pa1
  rwa [Qc,Qc] at this
 have htf2:∀c,YZ (Zp ts (Zf p1 p2) (y,Zp l d kd)) c=if c=Zf p1 p2 then Zp l d kd else Yy B c:=fun c=>by rw [ZpI,htf]
 have UN:((Zp ts (Zf p1 p2) (y,Zp l d kd)).map (·.1)).Nodup:=by rw [pa2];exact J4
 have hE2:SqT K (Zc H1 y (.dK (YR (Zp l d kd)))) a [.str kd,.str p1,.str p2,.int d]:=Wu hE1 hy (fun _ z=>by cases z) (fun _ _ z=>by cases z);have bt2:But [li,ti,y] H (Zc H1 y (.dK (YR (Zp l d kd)))):=bt1.trans (But.put hy (by simp));have dlen:(YR l).length=l.length:=Qc ..;refine ⟨_,rfl,a,_,_,_,rfl,rfl,hE1,Zn (j:=0) rfl,_,rfl,_,rfl,a,_,_,_,rfl,rfl,hE1,Zn (j:=3) rfl,y,_,rfl,DPut.k (k:=.inl d) hy (by rw [dlen];exact ZF (by omega)),?_⟩;rw [show Ys (YR l) (.inl d) (.str kd)=YR (Zp l d kd) from U2 (f:=(Sum.inl:Int->Zl)) ZhR V.str l d kd];generalize Zc H1 y (.dK (YR (Zp l d kd)))=H2 at *;generalize Zp ts (Zf p1 p2) (y,Zp l d kd)=ts2 at *;generalize hst:YN (Zp l d kd)=st at *;have ldl:(Zp l d kd).length≤801:=by have:=X3 l d kd;omega
 refine ⟨_,rfl,a,_,_,_,rfl,rfl,hE2,Zn (j:=1) rfl,_,rfl,a,_,_,_,rfl,rfl,hE2,Zn (j:=2) rfl,few rfl,fun t1 nt1=>?_⟩;have s1:=Zj (o:=.tup [.str p1,.str p2]) nt1;refine ⟨_,rfl,a,_,_,_,rfl,rfl,(s1.sqt hE2),Zn (j:=2) rfl,_,rfl,a,_,_,_,rfl,rfl,(s1.sqt hE2),Zn (j:=1) rfl,few rfl,fun t2 nt2=>?_⟩;have s2:=Zj (o:=.tup [.str p2,.str p1]) nt2;refine ⟨few rfl,fun t3 nt3=>?_⟩;have s3:=Zj (o:=.tup [.ref t1,.ref t2]) nt3;have s123:=s1.trans (s2.trans s3);refine ⟨t3,rfl,⟨_,.of Zg⟩,UD (xs:=[.ref t1,.ref t2]) (fun i σ H5=>∃ls v3 v4,σ=[some (.ref b),some (.ref a),some (.ref y),v3,v4]∧BkAt K T.c_Book H5 b dx k bi li ti su { B with links:=ls,ties:=ts2 }∧(∀c,lk ls c=(match i with|0=>lk B.links|1=>ZI (lk B.links) st p1 p2|_=>ZI (ZI (lk B.links) st p1 p2) st p2 p1) c)∧ls.length≤B.links.length+2*i∧But [li,ti,y] H H5∧SqT K H5 t1 [.str p1,.str p2]∧SqT K H5 t2 [.str p2,.str p1]∧SqT K H5 t3 [.ref t1,.ref t2]∧Grows H B.links ls) ?start ?list ?turn ?done⟩
 case start=>exact ⟨B.links,none,none,rfl,hB2.mono s123,fun c=>rfl,by omega,bt2.trans (But.of _ s123),(s2.trans s3).sqt (.of Zg),s3.sqt (.of Zg),.of Zg,Grows.refl _ _⟩
 case list =>
  rintro i σ H5 _ ⟨ls,v3,v4,rfl,_,_,_,_,_,_,h3,_⟩;exact h3
 case done =>
  rintro σ H5 ⟨ls,v3,v4,rfl,hB5,hlk,hls,bt5,_,_,_,gr⟩;exact q H5 ls ts2 y hB5 UN (by omega) htf2 hlk (by simp at hls;omega) bt5 hy0 grT2 gr
 case turn =>
  rintro i x σ H5 hx ⟨ls,v3,v4,rfl,hB5,hlk,hls,bt5,h1,h2,h3,gr⟩
  have pick:∃tq u w,x=.ref tq∧SqT K H5 tq [.str u,.str w]∧Known B u∧Known B w∧Zf u w=Zf p1 p2∧i≤1∧∀F:Str×Str->List Str,(∀c,F c=ZI (match i with|0=>lk B.links|1=>ZI (lk B.links) st p1 p2|_=>ZI (ZI (lk B.links) st p1 p2) st p2 p1) st u w c)->∀c,F c=(match i+1 with|0=>lk B.links|1=>ZI (lk B.links) st p1 p2|_=>ZI (ZI (lk B.links) st p1 p2) st p2 p1) c:=by
   match i,hx with
   |0,hx=>exact ⟨t1,p1,p2,(Qj hx).symm,h1,k1,k2,rfl,by omega,fun F hF=>hF⟩
   |1,hx=>exact ⟨t2,p2,p1,(Qj hx).symm,h2,k2,k1,Zck p2 p1,by omega,fun F hF=>hF⟩
  obtain ⟨tq,u,w,rfl,hq,ku,kw,hpr,i1,hG⟩:=pick
  have gl:∀c,((match i with|0=>lk B.links|1=>ZI (lk B.links) st p1 p2|_=>ZI (ZI (lk B.links) st p1 p2) st p2 p1) c).length≤61:=by
   intro c
   match i,i1 with
   |0,_=>have:=lf c;exact G8 this
   |1,_=>exact Qn (ZcJ ..) (by have:=lf c;omega)
  generalize (match i with|0=>lk B.links|1=>ZI (lk B.links) st p1 p2|_=>ZI (ZI (lk B.links) st p1 p2) st p2 p1)=G at *;refine ⟨tq,_,rfl,hq,rfl,_,_,rfl,_,_,rfl,rfl,?_⟩;dsimp only [ZM];refine Ww (fun σ' H'=>∃D2,σ'=[some (.ref b),some (.ref a),some (.ref y),some (.str u),some (.str w)]∧BkAt K T.c_Book H' b dx k bi li ti su { B with links:=Zp ls ("S",u) (D2,(G ("S",u)).filter fun n=>decide (n≠w)),ties:=ts2 }∧But [li,ti,y] H H'∧SqT K H' t1 [.str p1,.str p2]∧SqT K H' t2 [.str p2,.str p1]∧SqT K H' t3 [.ref t1,.ref t2]∧H D2=none) (fun nx hnx=>?_) ?_
  ·refine ⟨_,rfl,b,dx,_,rfl,hB5.ob,rfl,_,rfl,rfl,.ref b,.str "S",.str u,_,rfl,⟨b,dx,k,bi,li,ti,su,rfl,hB5⟩,.inr ⟨"S",rfl,fun h=>absurd h (by trivial),fun _=>.inr ⟨u,rfl,fun no=>absurd no ku,fun _ H6 D s6 nD hD0=>?_⟩⟩⟩;have eL:Yn { B with links:=ls,ties:=ts2 } "S" u=G ("S",u):=hlk ("S",u);rw [eL] at hD0;have hD:SqL K H6 D ((G ("S",u)).map V.str):=.of hD0;refine ⟨D,rfl,⟨_,hD⟩,V9 ((G ("S",u)).map (Uj w)) (ZF (by rw [Qc];have:=gl ("S",u);omega)) (fun σ=>∃v,σ=[v,some (.str w)]) ⟨_,rfl⟩ (fun j H7 hj sm=>?go) (fun H7 sm=>?stop) (fun j σ H7 x H8 o ho hσ sm hx C hC=>?step) (fun D2 H7 nD2 sm hD2=>?fin)⟩
   case go=>exact ⟨_,_,sm.sql hD,Qs (by rw [Qc] at hj ⊢;exact hj)⟩
   case stop=>exact ⟨_,sm.sql hD,by rw [Qc,Qc];exact Qe _⟩
   case step =>
    obtain ⟨v,rfl⟩:=hσ;obtain ⟨rfl,hx2⟩:=hx;have e1:=hx2 _ (sm.sql hD);rw [Qo] at e1 ho;obtain ⟨n,hn,rfl⟩:=QF.mp e1;rw [hn] at ho;obtain rfl:Uj w n=o:=Qj ho;refine ⟨_,rfl,_,rfl,rfl,_,rfl,?_⟩;by_cases hz0:n=w
    ·have e2:Uj w n=none:=Qb hz0;rw [e2] at hC;exact Zr (by show (!decide (V.str n=V.str w))=false;rw [Xm,Qu hz0];rfl) (hC _ _ ⟨_,rfl⟩ (Same.refl _))
    ·have e2:Uj w n=some (.str n):=Qa hz0;rw [e2] at hC;exact ZY (by show (!decide (V.str n=V.str w))=true;rw [Xm,Qr hz0];rfl) ⟨_,rfl,hC _ _ ⟨_,rfl⟩ (Same.refl _)⟩
   case fin =>
    rw [ZfP] at hD2;have s67:=s6.trans sm;have hB7:=hB5.mono s67;refine ⟨_,rfl,b,T.c_Book,dx,_,_,rfl,hB7.ob,T.cl_Book,T.na_Book_links,ZaL,_,rfl,few rfl,fun t nt=>?_⟩;have s8:=Zj (o:=.tup [.str "S",.str u]) nt;have hB8:=hB7.mono s8;have llen:({ B with links:=ls,ties:=ts2 }:Bk).linksD.length=ls.length:=Qc ..;refine ⟨li,_,rfl,DPut.t (k:=ZT ("S",u)) hB8.li Zg (by rw [llen];exact ZF (by omega)),?_⟩;rw [show ({ B with links:=ls,ties:=ts2 }:Bk).linksD=ls.map fun q=>(ZT q.1,V.ref q.2.1) from rfl,U2 (f:=ZT) (fun _ _=>Ui) (fun p:Addr×List Str=>V.ref p.1) ls ("S",u) (D2,(G ("S",u)).filter fun n=>decide (n≠w))];have li8:=hB8.li;have kp:∀{c:Addr} {xs:List V},SqT K H5 c xs->SqT K (Zc (Zc H7 t (.tup [.str "S",.str u])) li (.dT ((Zp ls ("S",u) (D2,(G ("S",u)).filter fun n=>decide (n≠w))).map fun q=>(ZT q.1,V.ref q.2.1)))) c xs:=fun h=>Wu ((s67.trans s8).sqt h) li8 (fun _ z=>by cases z) (fun _ _ z=>by cases z);refine hnx _ _ ⟨D2,rfl,hB8.links fun q hq=>?_,bt5.trans ((But.of _ (s67.trans s8)).trans (But.put li8 (by simp))),kp h1,kp h2,kp h3,bt5.al _ (ZX s6 nD2)⟩;rcases ZaM hq with rfl|hq
    ·exact s8 _ _ hD2
    ·exact hB8.ll q hq
  ·rintro σ' H6 ⟨D2,rfl,hB6,bt6,g1,g2,g3,n2⟩;have pl:=X3 ls ("S",u) (D2,(G ("S",u)).filter fun n=>decide (n≠w));have lk6:∀c,lk (Zp ls ("S",u) (D2,(G ("S",u)).filter fun n=>decide (n≠w))) c=if c=(("S",u):Str×Str) then (G ("S",u)).filter (fun n=>decide (n≠w)) else G c:=fun c=>by rw [Zg1,hlk]
   have et:Yy { B with links:=Zp ls ("S",u) (D2,(G ("S",u)).filter fun n=>decide (n≠w)),ties:=ts2 } (Zf u w)=Zp l d kd:=by
    rw [ZmI];show YZ ts2 (Zf u w)=_;rw [htf2,Qb hpr]
   have es:Zby { B with links:=Zp ls ("S",u) (D2,(G ("S",u)).filter fun n=>decide (n≠w)),ties:=ts2 } u w=st:=by
    unfold Zby;rw [et,hst]
   refine ⟨_,rfl,b,dx,_,rfl,hB6.ob,rfl,_,rfl,_,rfl,rfl,.ref b,u,w,_,rfl,⟨b,dx,k,bi,li,ti,su,rfl,hB6⟩,ku,kw,by rw [et];omega,fun H7 s7=>⟨_,rfl,?_⟩⟩;rw [es];have hB7:=hB6.mono s7;have bt7:=bt6.trans (But.of _ s7);refine YW (fun hs=>?_) (fun hs=>?_)
   ·have la:Yn { B with links:=Zp ls ("S",u) (D2,(G ("S",u)).filter fun n=>decide (n≠w)),ties:=ts2 } "S" u=(G ("S",u)).filter fun n=>decide (n≠w):=by
     rw [UF];show lk (Zp ls ("S",u) _) ("S",u)=_;rw [lk6,Qb rfl]
    refine ⟨_,rfl,b,dx,_,rfl,hB7.ob,rfl,_,rfl,_,rfl,rfl,b,dx,k,bi,li,ti,su,_,"S",u,w,rfl,hB7,?_,?_,fun H8 D8 hB8 bt8 nD8=>?_⟩
    ·rw [la];exact Qn (List.length_filter_le ..) (gl _)
    ·show (Zp ls ("S",u) _).length≤900;omega
    ·have li7:=hB7.li
     have kp:∀{c:Addr} {xs:List V},SqT K H7 c xs->SqT K H8 c xs:=fun {c xs} h=>by
      rcases h with (h|⟨o,h⟩)|h
      ·exact .inl (.inl (bt8.eq _ _ (fun z=>by rw [show c=li by simpa using z,li7] at h;cases h) h))
      ·exact .inl (.inr ⟨o,bt8.eq _ _ (fun z=>by rw [show c=li by simpa using z,li7] at h;cases h) h⟩)
      ·exact .inr h
     rw [la] at hB8;refine ⟨_,_,_,rfl,hB8,hG _ fun c=>?_,?_,bt7.trans (bt8.mono (by simp)),kp (s7.sqt g1),kp (s7.sqt g2),kp (s7.sqt g3),(gr.put n2).put (bt7.al _ nD8)⟩
     ·rw [Zg1];unfold ZI;by_cases ec:c=(("S",u):Str×Str)
      ·subst ec;rw [Qb rfl,Qb rfl,Qb hs]
      ·rw [Qa ec,Qa ec,lk6,Qa ec]
     ·have p2:=X3 (Zp ls ("S",u) (D2,(G ("S",u)).filter fun n=>decide (n≠w))) ("S",u) (D8,ZB ((G ("S",u)).filter (fun n=>decide (n≠w))++[w]));show (Zp (Zp ls ("S",u) _) ("S",u) _).length≤_;omega
   ·refine ⟨_,_,_,rfl,hB7,hG _ fun c=>?_,by show (Zp ls ("S",u) _).length≤_;omega,bt7,s7.sqt g1,s7.sqt g2,s7.sqt g3,gr.put n2⟩;rw [lk6];unfold ZI;by_cases ec:c=(("S",u):Str×Str)
    ·subst ec;rw [Qb rfl,Qb rfl,Qa (by rw [hs];decide)]
    ·rw [Qa ec,Qa ec]
theorem ZlX (T:Tx K w mg) (Jv:Zd3 P base T) (Jr:ZdT P base T) (Jm:ZcB P base T) (ZcP:Ziy P base T) (XX:Zbj P base T) (Zcn:ZfT P base T) (Zey:ZfH P base T):Zhq P base T:=by
 refine Fun.okX (k:=5) T.Wv.F ZdE (fun vs H Q E h=>h.1) (fun cdv A outer s H vs Q E hr h=>?_);obtain ⟨-,h⟩:=h;obtain ⟨b,dx,k,bi,li,ti,su,B,x,e,rfl,hB,hx,ok,no,rm,q⟩:=h
 refine ⟨_,(Zm (Z9 (ZS (pv 0) T.cl_Book T.Jl.me ZcP (hr.mono (by decide)) T.Jl.b .nil Xb (Za (pv 1) Zb)))
   (Zm (ZP (i:=2) ZdE.nd rfl (Or.inl rfl) (ZO Jr (hr.mono (by decide)) (by rfl) T.WX.m T.WX.F.kp T.WX.b .nil Zu (Za (pv 1) Zb)))
   (Zm (WB (Yk hr) (ZW (pv 0) rfl) (ZO Jm (hr.mono (by decide)) (by rfl) T.WA.m T.WA.F.kp T.WA.b .nil Zu (Za (pv 2) Zb)) (pv 2) rfl)
   (Zi (ZJ (ZE Z3 (Zo Zv (pv 2) Zh (fun _ _=>rfl)) Zk (Zy _)) (Zi (Z9 (ZS (pv 0) T.cl_Book T.U6.me Zcn (hr.mono (by decide)) T.U6.b .nil Zu (Za (pv 2) Zb)))) (Zi (ZJ (ZE Z3 (Zo Zv (pv 2) Zh (fun _ _=>rfl)) Zk (Zy _)) (Zm (Z9 (ZS (pv 0) T.cl_Book T.Y5.me XX (hr.mono (by decide)) T.Y5.b .nil Zu (Za Zk (Za (Zo Zv (pv 2) Zh (fun _ _=>rfl)) (Za (Zo Zv (pv 2) Zh (fun _ _=>rfl)) Zb)))))
   (Zi (Z9 (ZS (pv 0) T.cl_Book T.Y5.me XX (hr.mono (by decide)) T.Y5.b .nil Zu (Za Zk (Za (Zo Zv (pv 2) Zh (fun _ _=>rfl)) (Za (Zo Zv (pv 2) Zh (fun _ _=>rfl)) Zb))))))) (Zi (ZJ (ZE Z3 (Zo Zv (pv 2) Zh (fun _ _=>rfl)) Zk (Zy _)) (Zm (ZP (i:=3) ZdE.nd rfl (Or.inl rfl) (ZQ (Za (Zo Zv (pv 2) Zh (fun _ _=>rfl)) (Za (Zo Zv (pv 2) Zh (fun _ _=>rfl)) Zb))))
   (Zi (WB (Yk hr) (ZW (pv 0) rfl) (pv 3) (Z1 Ve (Vh (Yk hr) (ZW (pv 0) rfl) (pv 3) Zh ⟨rfl,rfl,rfl,rfl⟩) (Zo Zv (pv 2) Zh (fun _ _=>rfl))) rfl))) (Zi (ZJ (YO (ZO Jv (hr.mono (by decide)) (by rfl) T.WC.m T.WC.F.kp T.WC.b .nil Zu (Za (pv 2) Zb))) (Zi (Z9 (ZS (pv 0) T.cl_Book T.U1.me Zey (hr.mono (by decide)) T.U1.b .nil Zu (Za (pv 2) Zb)))) ZV))))))))))),?_⟩
 refine ⟨_,rfl,b,dx,_,rfl,hB.ob,rfl,_,rfl,rfl,.ref b,x,B,e,rfl,⟨b,dx,k,bi,li,ti,su,rfl,hB⟩,hx,ok,no,fun H1 s1=>?_⟩;obtain ⟨hno,hk400,kn⟩:=ZhP no;refine ⟨_,rfl,rfl,x,e,rfl,hx.mono s1,fun H2 u s2 hu=>?_⟩;obtain ⟨a,rfl,hA⟩:=hu;have s12:=s1.trans s2;have hB2:=hB.mono s12;have klen:B.keptD.length=B.kept.length:=Qc ..;refine ⟨_,rfl,_,rfl,b,T.c_Book,dx,_,_,rfl,hB2.ob,T.cl_Book,T.na_Book_kept,ZcG,_,rfl,rfl,.ref a,e.told,rfl,⟨a,rfl,hA⟩,fun H3 p s3 np hp=>⟨k,_,rfl,DPut.t (k:=e.told.told.key) (s3 _ _ hB2.ke) hp (by rw [klen];exact ZF (by omega)),?_⟩⟩;rw [Zbp,ZbB _ hno];have s13:=s12.trans s3;have hB3:=hB.mono s13;have hA3:=s3.sqt hA;have kn2:∀n∈e.told.named,Known B n:=fun n hn=>kn n (Zgx e n hn);have tk:∀(e':Ent),e.told=e'->e'.told=e':=fun e' h=>by rw [←h,Zbp]
 have pt:∀{B':Bk} (e':Ent),e.told=e'->(∀c,Y8 B'.sums c=ZaD (Y8 B.sums) e' c)->(∃a,B'.kept=B.kept++[(e',a)])->(∀c,lk B'.links c=Va (lk B.links) (YZ B.ties) e' c)->(∀c,YZ B'.ties c=Jo (YZ B.ties) e' c)->(B'.ties.map (·.1)).Nodup->B'.links.length≤B.links.length+4->B'.ties.length≤B.ties.length+1->B'.sums.length≤B.sums.length+1->Put B e B':=fun {B'} e' h=>by
  subst h;exact Put.mk
 generalize e.told=e' at *;have hK:=hB3.kept (e:=e') hA3;have kb:k≠bi:=Ye hB3.ke hB3.bi (fun z=>by cases z);have hA4:SqT K (Zc H3 k (.dT (B.keptD++[(e'.key,.ref a)]))) a (e'.row.map kV):=Wu hA3 hB3.ke (fun _ z=>by cases z) (fun _ _ z=>by cases z);have btk:But [k,bi,li,ti,su] H (Zc H3 k (.dT (B.keptD++[(e'.key,.ref a)]))):=(But.of _ s13).trans (But.put hB3.ke (by simp));have hbi:(Zc H3 k (.dT (B.keptD++[(e'.key,.ref a)]))) bi=some (.dK (Bk.bornD B.kept)):=(Zd kb.symm).trans hB3.bi;have hob:(Zc H3 k (.dT (B.keptD++[(e'.key,.ref a)]))) b=some (.ins T.c_Book dx (Vu k bi li ti su)):=(Zd (Ye hB3.ob hB3.ke (fun z=>by cases z))).trans hB3.ob
 have hKn:e'.isBorn=false->BkAt K T.c_Book (Zc H3 k (.dT (B.keptD++[(e'.key,.ref a)]))) b dx k bi li ti su { B with kept:=B.kept++[(e',a)] }:=fun nb=>by
  rw [Zmg nb,ZjA hbi] at hK;exact hK
 have fresh:∀{y:Addr},H3 y=none->(H y=none∨∃w,H y=some (.dK w)):=fun h=>.inl (ZX s13 h);generalize hH4:Zc H3 k (.dT (B.keptD++[(e'.key,.ref a)]))=H4 at *;dsimp only;have hbiH:∃w,H bi=some (.dK w):=⟨_,hB.bi⟩;cases e' with
 |born n s d f m =>
  refine ⟨_,rfl,a,_,_,_,rfl,rfl,hA4,Zn (j:=0) rfl,rfl,_,rfl,ZY (by trivial) ?_⟩;refine ⟨_,rfl,b,dx,_,rfl,hob,rfl,_,rfl,rfl,b,dx,k,bi,li,ti,su,B.kept,{ B with kept:=B.kept++[(.born n s d f m,a)] },n,s,d,f,m,a,rfl,rfl,hob,hbi,ZlW hno,by omega,hA4,hK,Qn rm.nl (by omega),fun c=>Qn (rm.ll c) (by omega),fun H5 ls hB5 hlk hls bt5 gr5=>?_⟩;exact q H5 _ bi hB5 (pt _ rfl (fun c=>rfl) ⟨a,rfl⟩ hlk (fun c=>rfl) rm.nd hls (QQ _) (QQ _)) ((btk.mono (by simp)).trans (bt5.mono (by simp))) (.inr (.inl rfl)) (gr5.back btk.al) (GrowsT.refl _ _)
 |taken c t d =>
  have hB4:=hKn rfl;have hmem:((.taken c t d,a):Ent×Addr)∈B.kept++[(.taken c t d,a)]:=by simp
  refine ⟨_,rfl,a,_,_,_,rfl,rfl,hA4,Zn (j:=0) rfl,rfl,_,rfl,Zr (by trivial) ⟨_,rfl,a,_,_,_,rfl,rfl,hA4,Zn (j:=0) rfl,rfl,_,rfl,ZY (by trivial) ?_⟩⟩;refine ⟨_,rfl,b,dx,_,rfl,hob,rfl,_,rfl,a,_,_,_,rfl,rfl,hA4,Zn (j:=1) rfl,_,rfl,a,_,_,_,rfl,rfl,hA4,Zn (j:=2) rfl,rfl,b,dx,k,bi,li,ti,su,_,"T",c,t,rfl,hB4,Qn (rm.ll _) (by omega),Qn rm.nl (by omega),fun H5 D5 hB5 bt5 nD5=>?_⟩;have hA5:=hB5.en _ hmem
  have l5:lk (Zp B.links ("T",c) (D5,ZB (lk B.links ("T",c)++[t]))) ("t",t)=lk B.links ("t",t):=by
   rw [Vd];exact Zaq (show ("t" : Str)≠"T" by trivial)
  have n5:=X3 B.links ("T",c) (D5,ZB (lk B.links ("T",c)++[t]));have rl:=rm.nl;refine ⟨_,rfl,b,dx,_,rfl,hB5.ob,rfl,_,rfl,a,_,_,_,rfl,rfl,hA5,Zn (j:=2) rfl,_,rfl,a,_,_,_,rfl,rfl,hA5,Zn (j:=1) rfl,rfl,b,dx,k,bi,li,ti,su,_,"t",t,c,rfl,hB5,?_,?_,fun H6 D6 hB6 bt6 nD6=>?_⟩
  ·rw [UF];show (lk (Zp B.links ("T",c) (D5,ZB (lk B.links ("T",c)++[t]))) ("t",t)).length≤61;rw [l5];exact Qn (rm.ll _) (by omega)
  ·show (Zp B.links ("T",c) (D5,ZB (lk B.links ("T",c)++[t]))).length≤900;omega
  ·refine q H6 _ bi hB6 (pt _ rfl (fun c=>rfl) ⟨a,rfl⟩ (fun x=>?_) (fun c=>rfl) rm.nd ?_ (QQ _) (QQ _)) ((btk.mono (by simp)).trans ((bt5.mono (by simp)).trans (bt6.mono (by simp)))) (.inr (.inl rfl)) (((Grows.refl _ _).put (btk.al _ nD5)).put (btk.al _ (bt5.al _ nD6))) (GrowsT.refl _ _)
   ·show lk (Zp (Zp B.links ("T",c) (D5,ZB (lk B.links ("T",c)++[t]))) ("t",t) (D6,ZB (lk (Zp B.links ("T",c) (D5,ZB (lk B.links ("T",c)++[t]))) ("t",t)++[c]))) x=_;rw [Vd];exact Zab (fun y=>Vd ..) ..
   ·have n6:=X3 (Zp B.links ("T",c) (D5,ZB (lk B.links ("T",c)++[t]))) ("t",t) (D6,ZB (lk (Zp B.links ("T",c) (D5,ZB (lk B.links ("T",c)++[t]))) ("t",t)++[c]));show (Zp (Zp B.links ("T",c) (D5,ZB (lk B.links ("T",c)++[t]))) ("t",t) (D6,ZB (lk (Zp B.links ("T",c) (D5,ZB (lk B.links ("T",c)++[t]))) ("t",t)++[c]))).length≤_;omega
 |given g t am d =>
  have hB4:=hKn rfl;have rs:=rm.ns;refine ⟨_,rfl,a,_,_,_,rfl,rfl,hA4,Zn (j:=0) rfl,rfl,_,rfl,Zr (by trivial) ⟨_,rfl,a,_,_,_,rfl,rfl,hA4,Zn (j:=0) rfl,rfl,_,rfl,Zr (by trivial) ⟨_,rfl,a,_,_,_,rfl,rfl,hA4,Zn (j:=0) rfl,rfl,_,rfl,ZY (by trivial) ?_⟩⟩⟩;refine ⟨_,rfl,a,_,_,_,rfl,rfl,hA4,Zn (j:=1) rfl,_,rfl,a,_,_,_,rfl,rfl,hA4,Zn (j:=2) rfl,few rfl,fun pg npg=>?_⟩;have s5:=Zj (o:=.tup [.str g,.str t]) npg;have hB5:=hB4.mono s5;have hA5:=s5.sqt hA4;have dg:=DGet.t (k:=ZT (g,t)) hB5.su (Zg (o:=.tup [.str g,.str t]));have hval:ZH ({ B with kept:=B.kept++[(.given g t am d,a)] }:Bk).sumsD (ZT (g,t))=(ZD (g,t) B.sums).map V.int:=Zao (f:=ZT) (fun _ _=>Ui) V.int _ _;rw [hval] at dg;have slen:({ B with kept:=B.kept++[(.given g t am d,a)] }:Bk).sumsD.length=B.sums.length:=Qc ..
  have iv:∃i:Int,((ZD (g,t) B.sums).map V.int).getD (.int 0)=.int i:=by
   cases ZD (g,t) B.sums with
   |none=>exact ⟨0,rfl⟩
   |some i=>exact ⟨i,rfl⟩
  obtain ⟨i,hi⟩:=iv;refine ⟨_,rfl,b,T.c_Book,dx,_,_,rfl,hB5.ob,T.cl_Book,T.na_Book_sums,ZgB,su,rfl,.inr ⟨_,.inl hB5.su⟩,_,rfl,_,dg,_,rfl,a,_,_,_,rfl,rfl,hA5,Zn (j:=3) rfl,i,am,hi,rfl,_,rfl,b,T.c_Book,dx,_,_,rfl,hB5.ob,T.cl_Book,T.na_Book_sums,ZgB,_,rfl,su,_,rfl,DPut.t (k:=ZT (g,t)) hB5.su (Zg (o:=.tup [.str g,.str t])) (by rw [slen];exact ZF (by omega)),?_⟩;rw [show Ys ({ B with kept:=B.kept++[(.given g t am d,a)] }:Bk).sumsD (ZT (g,t)) (V.int (i+am))=(Zp B.sums (g,t) (i+am)).map fun q=>(ZT q.1,V.int q.2) from U2 (f:=ZT) (fun _ _=>Ui) V.int B.sums (g,t) (i+am)]
  have ei:i=Y8 B.sums (g,t):=by
   unfold Y8;cases hf:ZD (g,t) B.sums with
   |none=>rw [hf] at hi;exact (V.int.inj hi).symm
   |some j=>rw [hf] at hi;exact (V.int.inj hi).symm
  exact q _ _ bi (hB5.sums _) (pt _ rfl (fun c=>by rw [ei];exact Zjp B.sums g t am d c) ⟨a,rfl⟩ (fun c=>rfl) (fun c=>rfl) rm.nd (Gb ..) (QQ _) (X3 ..)) ((btk.mono (by simp)).trans ((But.of _ s5).trans (But.put hB5.su (by simp)))) (.inr (.inl rfl)) (Grows.refl _ _) (GrowsT.refl _ _)
 |dead n d =>
  have hB4:=hKn rfl;refine ⟨_,rfl,a,_,_,_,rfl,rfl,hA4,Zn (j:=0) rfl,rfl,_,rfl,Zr (by trivial) ⟨_,rfl,a,_,_,_,rfl,rfl,hA4,Zn (j:=0) rfl,rfl,_,rfl,Zr (by trivial) ⟨_,rfl,a,_,_,_,rfl,rfl,hA4,Zn (j:=0) rfl,rfl,_,rfl,Zr (by trivial) ?_⟩⟩⟩;refine ⟨_,rfl,rfl,.ref a,.dead n d,rfl,⟨a,rfl,hA4⟩,fun H5 s5=>⟨_,rfl,Z0 ?_⟩⟩;exact q _ _ bi (hB4.mono s5) (pt _ rfl (fun c=>rfl) ⟨a,rfl⟩ (fun c=>rfl) (fun c=>rfl) rm.nd (Gb ..) (QQ _) (QQ _)) ((btk.mono (by simp)).trans (But.of _ s5)) (.inr (.inl rfl)) (Grows.refl _ _) (GrowsT.refl _ _)
 |union x y d =>
  have hB4:=hKn rfl;refine ⟨_,rfl,a,_,_,_,rfl,rfl,hA4,Zn (j:=0) rfl,rfl,_,rfl,Zr (by trivial) ⟨_,rfl,a,_,_,_,rfl,rfl,hA4,Zn (j:=0) rfl,rfl,_,rfl,Zr (by trivial) ⟨_,rfl,a,_,_,_,rfl,rfl,hA4,Zn (j:=0) rfl,rfl,_,rfl,Zr (by trivial) ?_⟩⟩⟩;refine ⟨_,rfl,rfl,.ref a,.union x y d,rfl,⟨a,rfl,hA4⟩,fun H5 s5=>⟨_,rfl,Z4 ?_⟩⟩;have hB5:=hB4.mono s5;have rl:=rm.nl;have rt:=rm.nt;refine ⟨_,rfl,b,dx,_,rfl,hB5.ob,rfl,_,rfl,rfl,b,dx,k,bi,li,ti,su,_,a,"union",x,y,d,rfl,s5.sqt hA4,hB5,(kn2 x (by simp [Ent.named])).more rfl,(kn2 y (by simp [Ent.named])).more rfl,rm.nd,Qn rm.nt (by omega),Qn (rm.tt _) (by omega),Qn rm.nl (by omega),rm.ll,fun H6 ls ts z hB6 nd6 tl6 htf hlk hls bt6 hz grT6 gr6=>?_⟩;exact q H6 _ z hB6 (pt _ rfl (fun c=>rfl) ⟨a,rfl⟩ hlk htf nd6 hls tl6 (QQ _)) ((btk.mono (by simp)).trans ((But.of _ s5).trans (bt6.mono (by simp)))) (hz.imp (fun h=>btk.al _ (ZX s5 h)) .inr) (gr6.back fun a n=>btk.al a (ZX s5 n)) (grT6.back fun a n=>btk.al a (ZX s5 n))
 |parted x y d =>
  have hB4:=hKn rfl;refine ⟨_,rfl,a,_,_,_,rfl,rfl,hA4,Zn (j:=0) rfl,rfl,_,rfl,Zr (by trivial) ⟨_,rfl,a,_,_,_,rfl,rfl,hA4,Zn (j:=0) rfl,rfl,_,rfl,Zr (by trivial) ⟨_,rfl,a,_,_,_,rfl,rfl,hA4,Zn (j:=0) rfl,rfl,_,rfl,Zr (by trivial) ?_⟩⟩⟩;refine ⟨_,rfl,rfl,.ref a,.parted x y d,rfl,⟨a,rfl,hA4⟩,fun H5 s5=>⟨_,rfl,Z4 ?_⟩⟩;have hB5:=hB4.mono s5;have rl:=rm.nl;have rt:=rm.nt;refine ⟨_,rfl,b,dx,_,rfl,hB5.ob,rfl,_,rfl,rfl,b,dx,k,bi,li,ti,su,_,a,"parted",x,y,d,rfl,s5.sqt hA4,hB5,(kn2 x (by simp [Ent.named])).more rfl,(kn2 y (by simp [Ent.named])).more rfl,rm.nd,Qn rm.nt (by omega),Qn (rm.tt _) (by omega),Qn rm.nl (by omega),rm.ll,fun H6 ls ts z hB6 nd6 tl6 htf hlk hls bt6 hz grT6 gr6=>?_⟩;exact q H6 _ z hB6 (pt _ rfl (fun c=>rfl) ⟨a,rfl⟩ hlk htf nd6 hls tl6 (QQ _)) ((btk.mono (by simp)).trans ((But.of _ s5).trans (bt6.mono (by simp)))) (hz.imp (fun h=>btk.al _ (ZX s5 h)) .inr) (gr6.back fun a n=>btk.al a (ZX s5 n)) (grT6.back fun a n=>btk.al a (ZX s5 n))
theorem Zo8 (T:Tx K w mg)  : ZdI P base T:=by
 refine Fun.okX (k:=0) T.VI.F ZiX (fun vs H Q E h=>h.1) (fun cdv A outer s H vs Q E hr h=>?_);obtain ⟨-,h⟩:=h;obtain ⟨v,B,rfl,⟨b,dx,k,bi,li,ti,su,rfl,hB⟩,hl,q⟩:=h;refine ⟨_,(Zi (Zx (Yi (ZeO rfl) (by rfl) T.n_sorted JM (Za (ZW (pv 0) rfl) Zb)))),?_⟩;have hbi:=hB.bi;rw [Zg6] at hbi;rw [←Zg4] at hl q;rw [Qc] at hl;refine ⟨_,rfl,b,T.c_Book,dx,_,_,rfl,hB.ob,T.cl_Book,T.na_Book_births,JO,bi,Zam B.kept,rfl,hbi,hl,fun D zs nD perm so=>?_⟩;rw [Zes perm so];exact q _ D (Zj nD) nD Zg
theorem Zoz (T:Tx K w mg)  : ZdZ P base T:=by
 refine Fun.okX (k:=0) T.WY.F Zl9 (fun vs H Q E h=>h.1) (fun cdv A outer s H vs Q E hr h=>?_);obtain ⟨-,h⟩:=h;obtain ⟨x,rfl,q⟩:=h;refine ⟨_,(Zi (Zx (X1 (XT K (by rfl) T.n_isinstance (Za (pv 0) (Za (X2 (v:=.ty "str") (by rfl) T.n_str Uz rfl) Zb))) (XJ (YM WQ (pv 0) (Xs (v:=.ref T.a_TESTS) (by rfl) T.m_TESTS rfl) (by rfl)))))),?_⟩;refine ⟨_,rfl,_,.ty "str",_,_,rfl,rfl,.of (.str _),T.k_str_str,_,rfl,Z4 ⟨_,rfl,T.a_TESTS,_,rfl,.inr (T.ZhS _),rfl,rfl,?_⟩⟩;have e:(if false=true then !Xz (.str x) ((["he","she"]:List Str).map V.str) else Xz (.str x) ((["he","she"]:List Str).map V.str))=VH x:=Zbv x ["he","she"];rw [←e] at q;exact q
theorem Zjh (T:Tx K w mg)  : Zha P base T:=by
 refine Fun.okX (k:=0) T.UM.F Zpu (fun vs H Q E h=>h.1) (fun cdv A outer s H vs Q E hr h=>?_);obtain ⟨-,h⟩:=h;obtain ⟨o,dx,rfl,ho,q⟩:=h
 refine ⟨_,(Zm (Xl (pv 0) (YD (Za Zh Zb)) rfl)
   (Zm (Xl (pv 0) (YD (Za Zk Zb)) rfl)
   (Zm (Xl (pv 0) Zav rfl)
   (Zm (Xl (pv 0) (YD Zb) rfl)
   (Zm (Xl (pv 0) (YD Zb) rfl)
   (Zm (Xl (pv 0) Xu rfl)
   (Zi (Xl (pv 0) Zh rfl)))))))),?_⟩
 refine ⟨few rfl,fun dl nd=>⟨_,rfl,o,T.c_Tree,dx,[],rfl,(Zd (ZA ho nd)).trans ho,T.cl_Tree,T.na_Tree_days,Qm (m:=10) (Qy rfl) (by decide),?_⟩⟩;obtain ⟨g1,p1,s1,m1⟩:=Wz (fs:=[]) "days" (.lst [.int 0]) ho nd;generalize Zc (Zc H dl (.lst [.int 0])) o (.ins T.c_Tree dx (Zt "days" (.ref dl) ([])))=H1 at *;refine ⟨few rfl,fun sl ns=>⟨_,rfl,o,T.c_Tree,dx,_,rfl,(Zd (ZA g1 ns)).trans g1,T.cl_Tree,T.na_Tree_sorts,Qm (m:=10) (Qy rfl) (by decide),?_⟩⟩;obtain ⟨g2,p2,s2,m2⟩:=Wz (fs:=Zt "days" (.ref dl) []) "sorts" (.lst [.str ""]) g1 ns;generalize Zc (Zc H1 sl (.lst [.str ""])) o (.ins T.c_Tree dx (Zt "sorts" (.ref sl) (Zt "days" (.ref dl) ([]))))=H2 at *;refine fun pl np=>⟨_,rfl,o,T.c_Tree,dx,_,rfl,(Zd (ZA g2 np)).trans g2,T.cl_Tree,T.na_Tree_parents,Qm (m:=10) (Qy rfl) (by decide),?_⟩;obtain ⟨g3,p3,s3,m3⟩:=Wz (fs:=Zt "sorts" (.ref sl) (Zt "days" (.ref dl) [])) "parents" (.dT []) g2 np;generalize Zc (Zc H2 pl (.dT [])) o (.ins T.c_Tree dx (Zt "parents" (.ref pl) (Zt "sorts" (.ref sl) (Zt "days" (.ref dl) ([])))))=H3 at *;refine ⟨few rfl,fun tl nt=>⟨_,rfl,o,T.c_Tree,dx,_,rfl,(Zd (ZA g3 nt)).trans g3,T.cl_Tree,T.na_Tree_takings,Qm (m:=10) (Qy rfl) (by decide),?_⟩⟩;obtain ⟨g4,p4,s4,m4⟩:=Wz (fs:=Zt "parents" (.ref pl) (Zt "sorts" (.ref sl) (Zt "days" (.ref dl) []))) "takings" (.lst []) g3 nt;generalize Zc (Zc H3 tl (.lst [])) o (.ins T.c_Tree dx (Zt "takings" (.ref tl) (Zt "parents" (.ref pl) (Zt "sorts" (.ref sl) (Zt "days" (.ref dl) ([]))))))=H4 at *;refine ⟨few rfl,fun ul nu=>⟨_,rfl,o,T.c_Tree,dx,_,rfl,(Zd (ZA g4 nu)).trans g4,T.cl_Tree,T.na_Tree_unions,Qm (m:=10) (Qy rfl) (by decide),?_⟩⟩;obtain ⟨g5,p5,s5,m5⟩:=Wz (fs:=Zt "takings" (.ref tl) (Zt "parents" (.ref pl) (Zt "sorts" (.ref sl) (Zt "days" (.ref dl) [])))) "unions" (.lst []) g4 nu;generalize Zc (Zc H4 ul (.lst [])) o (.ins T.c_Tree dx (Zt "unions" (.ref ul) (Zt "takings" (.ref tl) (Zt "parents" (.ref pl) (Zt "sorts" (.ref sl) (Zt "days" (.ref dl) ([])))))))=H5 at *;refine ⟨_,rfl,o,T.c_Tree,dx,_,rfl,g5,T.cl_Tree,T.na_Tree_clash,Qm (m:=10) (Qy rfl) (by decide),_,rfl,o,T.c_Tree,dx,_,rfl,Zg,T.cl_Tree,T.na_Tree_here,Qm (m:=10) (Qy rfl) (by decide),?_⟩;have ko:∀{c:Addr} {u:HO} {Hx:Hp} {fs:List (Str×V)},Hx c=some u->(∀fs,u≠.ins T.c_Tree dx fs)->Hx o=some (.ins T.c_Tree dx fs)->c≠o:=fun e no eb z=>by subst z;rw [eb] at e;cases e;exact no _ rfl
 have lo:∀xs fs,HO.lst xs≠.ins T.c_Tree dx fs:=fun _ _ z=>by cases z
 have d1:=s5 _ _ (s4 _ _ (s3 _ _ (s2 _ _ p1 (ko p1 (lo _) g1)) (ko p1 (lo _) g1)) (ko p1 (lo _) g1)) (ko p1 (lo _) g1);have d2:=s5 _ _ (s4 _ _ (s3 _ _ p2 (ko p2 (lo _) g2)) (ko p2 (lo _) g2)) (ko p2 (lo _) g2);have np':∀fs,HO.dT []≠.ins T.c_Tree dx fs:=fun _ z=>by cases z
 have d3:=s5 _ _ (s4 _ _ p3 (ko p3 np' g3)) (ko p3 np' g3);have d4:=s5 _ _ p4 (ko p4 (lo _) g4);have q1:=s2 _ _ p1 (ko p1 (lo _) g1);have q2:=s3 _ _ q1 (ko p1 (lo _) g1);have q3:=s4 _ _ q2 (ko p1 (lo _) g1);have r2:=s3 _ _ p2 (ko p2 (lo _) g2);have r3:=s4 _ _ r2 (ko p2 (lo _) g2);have up2:∀{c:Addr} {u:HO},H5 c=some u->c≠o->∀{x y:HO},Zc (Zc H5 o x) o y c=some u:=fun {c u} e n {x y}=>by rw [Zd n,Zd n];exact e
 refine q _ dl sl pl tl ul ⟨Zg,?_,up2 d1 (ko p1 (lo _) g1),up2 d2 (ko p2 (lo _) g2),up2 d3 (ko p3 np' g3),⟨[],up2 d4 (ko p4 (lo _) g4),rfl,fun i p v e=>by cases e⟩,[],up2 p5 (ko p5 (lo _) g5),rfl,fun i p v e=>by cases e⟩ ⟨fun c u n e=>?_,fun c n=>?_⟩ nd (m1 _ ns) (m1 _ (m2 _ np)) (m1 _ (m2 _ (m3 _ nt))) (m1 _ (m2 _ (m3 _ (m4 _ nu))))
 ·simp only [QP,Qh,QJ,QK,not_or,Nt,NH,and_true];exact ⟨⟨ZA p1 ns,ZA q2 nt,ZA q3 nu⟩,⟨ZA r2 nt,ZA r3 nu⟩,ZA p4 nu⟩
 ·have n':c≠o:=by simpa using n
  exact up2 (s5 _ _ (s4 _ _ (s3 _ _ (s2 _ _ (s1 _ _ e n') n') n') n') n') n'
 ·have n':c≠o:=fun z=>by rw [z,Zg] at n;cases n
  rw [Zd n',Zd n'] at n;exact m1 _ (m2 _ (m3 _ (m4 _ (m5 _ n))))
theorem ZmX (T:Tx K w mg)  : Zcm P base T:=by
 refine Fun.okX (k:=0) T.WL.F Zj7 (fun vs H Q E h=>h.1) (fun cdv A outer s H vs Q E hr h=>?_);obtain ⟨-,h⟩:=h;obtain ⟨o,dx,dl,sl,pl,tl,ul,t,i,s,rfl,ht,il,ok,q⟩:=h;refine ⟨_,(Zi (ZJ (ZE Z3 (Zo Yo (ZW (pv 0) rfl) (pv 1) (fun _ _=>rfl)) Zk (Zy _)) (Zi (Ziz (pv 2) (Zne (ZW (pv 0) rfl) (pv 1) Zpn))) (Zi (ZJ (ZE WF (Zo Yo (ZW (pv 0) rfl) (pv 1) (fun _ _=>rfl)) (pv 2) (Zy _)) (Zi (Xl (pv 0) Xu rfl)) ZV)))),?_⟩;have gd:t.sorts[i]?=some (t.sorts.getD i ""):=by rw [QS,Qs il];rfl
 have at_:=Zd1 (n:=i) gd;refine ⟨_,rfl,o,T.c_Tree,dx,_,_,rfl,ht.ob,T.cl_Tree,T.na_Tree_sorts,rfl,_,rfl,sl,_,_,_,rfl,rfl,.of ht.so,at_,rfl,_,rfl,YW (fun h1=>?_) (fun h1=>?_)⟩
 ·have e:t.sorts.getD i ""="":=by simpa [Xq] using h1
  refine ⟨_,rfl,_,rfl,o,T.c_Tree,dx,_,_,rfl,ht.ob,T.cl_Tree,T.na_Tree_sorts,rfl,_,rfl,sl,_,_,i,rfl,rfl,ht.so,Zlb (by rw [Qc];exact il),?_⟩;rw [←List.map_set];refine q _ ((But.rfl' _ _).updT (by simp)) ?_;unfold Tr.ask;rw [Qb e];exact ht.setS _
 have e:¬t.sorts.getD i ""="":=by simpa [Xq] using h1
 refine ⟨_,rfl,o,T.c_Tree,dx,_,_,rfl,ht.ob,T.cl_Tree,T.na_Tree_sorts,rfl,_,rfl,sl,_,_,_,rfl,rfl,.of ht.so,at_,_,rfl,rfl,_,rfl,YW (fun h2=>?_) (fun h2=>?_)⟩
 ·have e2:¬t.sorts.getD i ""=s:=by simpa [Xq] using h2
  refine ⟨_,rfl,o,T.c_Tree,dx,_,rfl,ht.ob,T.cl_Tree,T.na_Tree_clash,Qm (m:=10) (Qy rfl) (by decide),?_⟩;refine q _ ((But.rfl' _ _).updT (by simp)) ?_;unfold Tr.ask;rw [Qa e,Qa e2];exact ht.obj true t.here
 ·have e2:t.sorts.getD i ""=s:=by simpa [Xq] using h2
  refine q _ (But.rfl' _ _) ?_;unfold Tr.ask;rw [Qa e,Qb e2];exact ht
theorem Zjo (T:Tx K w mg)  : Zc8 P base T:=by
 refine Fun.okX (k:=0) T.XF.F ZkC (fun vs H Q E h=>h.1) (fun cdv A outer s H vs Q E hr h=>?_);obtain ⟨-,h⟩:=h;obtain ⟨o,dx,dl,sl,pl,tl,ul,t,k,rfl,ht,ok,q⟩:=h
 refine ⟨_,(Zm (Z9 (Xd Q0 Rk Rl X6 (ZW (pv 0) rfl) (Za (Z1 Ve (Zo Yo (ZW (pv 0) rfl) (ZW (pv 0) rfl) (fun _ _=>rfl)) (pv 1)) Zb)))
   (Zm (Z9 (Xd Q0 Rk Rl X6 (ZW (pv 0) rfl) (Za Zk Zb)))
   (Zm (Xl (pv 0) (Z1 ZmS (Yi XR (by rfl) T.n_len Xa (Za (ZW (pv 0) rfl) Zb)) Zh) rfl)
   (Zi (Zx (ZW (pv 0) rfl)))))),?_⟩
 have gd:t.days[t.here]?=some (t.days.getD t.here 0):=by rw [QS,Qs ok.he];rfl
 have at_:Yg (t.days.map V.int) (t.here:Int)=some (.int (t.days.getD t.here 0)):=XY (by rw [Qo,gd];rfl);refine ⟨_,rfl,o,T.c_Tree,dx,_,_,rfl,ht.ob,T.cl_Tree,T.na_Tree_days,rfl,.inl ⟨rfl,_,.of ht.da⟩,_,rfl,o,T.c_Tree,dx,_,_,rfl,ht.ob,T.cl_Tree,T.na_Tree_days,rfl,_,rfl,o,T.c_Tree,dx,_,_,rfl,ht.ob,T.cl_Tree,T.na_Tree_here,rfl,dl,_,_,_,rfl,rfl,.of ht.da,at_,_,rfl,_,_,rfl,rfl,dl,_,_,rfl,rfl,ht.da,ZF (by rw [Qc];have:=ok.few;omega),?_⟩;have h1:=ht.setD (t.days++[t.days.getD t.here 0+k]);rw [Qv] at h1;have b1:But [o,dl,sl] H (Zc H dl (.lst (t.days.map V.int++[.int (t.days.getD t.here 0+k)]))):=(But.rfl' _ _).updT (by simp);have h1:TrAt T.c_Tree (Zc H dl (.lst (t.days.map V.int++[.int (t.days.getD t.here 0+k)]))) o dx dl sl pl tl ul { t with days:=t.days++[t.days.getD t.here 0+k] }:=h1;show J8 _ _ _ _ (Zc H dl (.lst (t.days.map V.int++[.int (t.days.getD t.here 0+k)])));generalize Zc H dl (.lst (t.days.map V.int++[.int (t.days.getD t.here 0+k)]))=H1 at b1 h1 ⊢;refine ⟨_,rfl,o,T.c_Tree,dx,_,_,rfl,h1.ob,T.cl_Tree,T.na_Tree_sorts,rfl,.inl ⟨rfl,_,.of h1.so⟩,sl,_,_,rfl,rfl,h1.so,ZF (by show (t.sorts.map V.str).length≤_;rw [Qc,ok.len];have:=ok.few;omega),?_⟩;have h2:=h1.setS (t.sorts++[("" : Str)]);rw [Qv] at h2;have h2:TrAt T.c_Tree (Zc H1 sl (.lst (t.sorts.map V.str++[.str ""]))) o dx dl sl pl tl ul { t with days:=t.days++[t.days.getD t.here 0+k],sorts:=t.sorts++[("" : Str)] }:=h2;have b2:But [o,dl,sl] H (Zc H1 sl (.lst (t.sorts.map V.str++[.str ""]))):=b1.updT (by simp);show J8 _ _ _ _ (Zc H1 sl (.lst (t.sorts.map V.str++[.str ""])));generalize Zc H1 sl (.lst (t.sorts.map V.str++[.str ""]))=H2 at b2 h2 ⊢;refine ⟨_,rfl,o,T.c_Tree,dx,_,_,rfl,h2.ob,T.cl_Tree,T.na_Tree_days,rfl,dl,_,rfl,.inl (.of h2.da),_,_,rfl,rfl,_,rfl,o,T.c_Tree,dx,_,rfl,h2.ob,T.cl_Tree,T.na_Tree_here,Qm (m:=10) (Qy rfl) (by decide),?_⟩;dsimp only;rw [show (((t.days++[t.days.getD t.here 0+k]).map V.int).length:Int)-1=(t.days.length:Int) by simp];have h3:=h2.obj t.clash t.days.length;exact ⟨_,rfl,o,T.c_Tree,dx,_,_,rfl,h3.ob,T.cl_Tree,T.na_Tree_here,rfl,q _ (b2.updT (by simp)) h3⟩
theorem Zlk (T:Tx K w mg) (Ul:Zcm P base T) (Vp:Zc8 P base T):ZeN P base T:=by
 refine Fun.okX (k:=1) T.Jx.F Zio (fun vs H Q E h=>h.1) (fun cdv A outer s H vs Q E hr h=>?_);obtain ⟨-,h⟩:=h;obtain ⟨o,dx,dl,sl,pl,tl,ul,t,l,rfl,ht,ok,dn,pn,hl,q⟩:=h
 refine ⟨_,(Zm (ZP (i:=2) Zio.nd rfl (Or.inl rfl) (ZW (pv 0) rfl))
   (Zi (ZJ (U0 (ZaQ (Yk hr) (ZQ (Za (pv 1) (Za (pv 2) Zb))) (ZW (pv 0) rfl))) (Zi (Xl (pv 0) (ZbC (Yk hr) (ZW (pv 0) rfl) (ZQ (Za (pv 1) (Za (pv 2) Zb))) (fun _ _=>rfl)) rfl)) (Zm (WB (Yk hr) (ZW (pv 0) rfl) (ZQ (Za (pv 1) (Za (pv 2) Zb))) (ZS (pv 0) T.cl_Tree T.XF.me Vp (hr.mono (by decide)) T.XF.b .nil Zu (Za (V4 V2 Zh) Zb)) rfl)
   (Zi (Z9 (ZS (pv 0) T.cl_Tree T.WL.me Ul (hr.mono (by decide)) T.WL.b .nil Zu (Za (ZW (pv 0) rfl) (Za (Zbz T.kd_SORT_OF_PARENT (Xs (v:=.ref T.a_SORT_OF_PARENT) (by rfl) T.m_SORT_OF_PARENT rfl) (pv 1) (fun _ _=>rfl)) Zb))))))))),?_⟩
 have gk:=fun (Hx:Hp) (a:Addr) (sx:Same H Hx) (ha:Hx a=some (.tup [.str l,.int t.here]))=>DGet.t (k:=[.inr l,.inl (t.here:Int)]) (sx _ _ ht.pa) ha;refine ⟨_,rfl,o,T.c_Tree,dx,_,_,rfl,ht.ob,T.cl_Tree,T.na_Tree_here,rfl,_,rfl,_,rfl,few rfl,fun a na=>?_⟩;have sa:=Zj (o:=.tup [.str l,.int t.here]) na;have hta:=ht.mono sa;have g1:=gk _ a sa Zg;rw [JU] at g1;refine ⟨_,rfl,o,T.c_Tree,dx,_,_,rfl,hta.ob,T.cl_Tree,T.na_Tree_parents,rfl,pl,_,rfl,g1,_,rfl,?_⟩;cases hp:Vi t l t.here with
 |some p =>
  rw [show (t.par.find? fun q=>decide (q.1=(l,t.here))).map (·.2)=some p from hp] at g1 ⊢;refine ZY rfl ⟨_,rfl,o,T.c_Tree,dx,_,_,rfl,hta.ob,T.cl_Tree,T.na_Tree_parents,rfl,_,rfl,_,rfl,few rfl,fun a2 na2=>?_⟩;have sa2:=sa.trans (Zj (o:=.tup [.str l,.int t.here]) na2);have hta2:=ht.mono sa2;have g2:=gk _ a2 sa2 Zg;rw [JU,show (t.par.find? fun q=>decide (q.1=(l,t.here))).map (·.2)=some p from hp] at g2;refine ⟨pl,_,rfl,g2,_,rfl,o,T.c_Tree,dx,_,rfl,hta2.ob,T.cl_Tree,T.na_Tree_here,Qm (m:=10) (Qy rfl) (by decide),?_⟩;refine q _ ((But.of _ sa2).updT (by simp)) ?_;unfold Tr.goUp;rw [hp];exact hta2.obj t.clash p
 |none =>
  have hn:(t.par.find? fun q=>decide (q.1=(l,t.here)))=none:=NK.mp hp;rw [hn] at g1 ⊢;refine Zr rfl ⟨_,rfl,o,dx,_,rfl,hta.ob,rfl,_,rfl,rfl,o,dx,dl,sl,pl,tl,ul,t,_,rfl,hta,ok,fun H2 b2 h2=>?_⟩;have sH:=(But.of [o,dl,sl,pl] sa).trans (b2.wide (S':=[o,dl,sl,pl]) (by simp));refine ⟨_,rfl,o,T.c_Tree,dx,_,_,rfl,h2.ob,T.cl_Tree,T.na_Tree_parents,rfl,_,rfl,_,rfl,few rfl,fun a3 na3=>?_⟩;have s3:=Zj (o:=.tup [.str l,.int t.here]) na3;have h3:=h2.mono s3;refine ⟨pl,_,rfl,DPut.t (k:=[.inr l,.inl (t.here:Int)]) h3.pa Zg (ZF (by show (YH t.par).length≤_;unfold YH;rw [Qc];omega)),?_⟩;rw [show Ys (YH (t.grow (-1)).par) [.inr l,.inl (t.here:Int)] (.int t.days.length)=YH (t.par++[((l,t.here),t.days.length)]) from Zb8 hn];have h4:=h3.setP (t.par++[((l,t.here),t.days.length)]);have b4:=(sH.trans (But.of _ s3)).updT (a:=pl) (u:=.dT (YH (t.par++[((l,t.here),t.days.length)]))) (by simp);generalize Zc (Zc H2 a3 (.tup [.str l,.int t.here])) pl (.dT (YH (t.par++[((l,t.here),t.days.length)])))=H4 at h4 b4 ⊢;have h4:TrAt T.c_Tree H4 o dx dl sl pl tl ul ((t.grow (-1)).addPar l t.here t.days.length):=h4;have hv:ZH [((.inr "F" : Zl),V.str "he"),(.inr "M",V.str "she")] (.inr l)=some (.str (ZZ l)):=by rcases hl with rfl|rfl<;>rfl
  refine ⟨_,rfl,o,dx,_,rfl,h4.ob,rfl,_,rfl,o,T.c_Tree,dx,_,_,rfl,h4.ob,T.cl_Tree,T.na_Tree_here,rfl,_,rfl,rfl,.inr l,_,rfl,hv,rfl,o,dx,dl,sl,pl,tl,ul,_,t.days.length,ZZ l,rfl,h4,?_,?_,fun H5 b5 h5=>?_⟩
  ·show t.days.length<(t.sorts++[("" : Str)]).length;rw [Qq,ok.len];simp
  ·exact (ok.grow (by omega) _).addPar (by show t.par.length≤59;omega) l (by rw [X4];have:=ok.he;omega) _
  refine q _ (b4.trans (b5.wide (by simp))) ?_;unfold Tr.goUp;rw [hp];exact h5
theorem ZnH (T:Tx K w mg) (Jy:ZdZ P base T) (Ul:Zcm P base T) (Vp:Zc8 P base T) (ZdQ:ZeN P base T):ZfD P base T:=by
 refine Fun.okX (k:=2) T.UP.F ZfS (fun vs H Q E h=>h.1) (fun cdv A outer s H vs Q E hr h=>?_);obtain ⟨-,h⟩:=h;obtain ⟨o,dx,dl,sl,pl,tl,ul,t,s,rfl,ht,ok,dn,pn,tn,un,hs,q⟩:=h
 refine ⟨_,(Zm (ZP (i:=2) ZfS.nd rfl (Or.inl rfl) (ZW (pv 0) rfl))
   (Zi (ZJ (YO (ZO Jy (hr.mono (by decide)) (by rfl) T.WY.m T.WY.F.kp T.WY.b .nil Zu (Za (pv 1) Zb))) (Zi (Z9 (ZS (pv 0) T.cl_Tree T.WL.me Ul (hr.mono (by decide)) T.WL.b .nil Zu (Za (pv 2) (Za (pv 1) Zb))))) (Zi (ZJ (U0 (Zhd T.kd_SORT_OF_PARENT (pv 1) (Xs (v:=.ref T.a_SORT_OF_PARENT) (by rfl) T.m_SORT_OF_PARENT rfl))) (Zi (Z9 (ZS (pv 0) T.cl_Tree T.Jx.me ZdQ (hr.mono (by decide)) T.Jx.b .nil Zu (Za (pv 1) Zb)))) (Zi (ZJ (U0 (Zhd T.kd_LETTER_UP (pv 1) (Xs (v:=.ref T.a_LETTER_UP) (by rfl) T.m_LETTER_UP rfl))) (Zm (Z9 (ZS (pv 0) T.cl_Tree T.WL.me Ul (hr.mono (by decide)) T.WL.b .nil Zu (Za (pv 2) (Za (Zbz T.kd_SORT_OF_PARENT (Xs (v:=.ref T.a_SORT_OF_PARENT) (by rfl) T.m_SORT_OF_PARENT rfl) (Zbz T.kd_LETTER_UP (Xs (v:=.ref T.a_LETTER_UP) (by rfl) T.m_LETTER_UP rfl) (pv 1) (fun _ _=>rfl)) (fun _ _=>rfl)) Zb))))
   (Zi (WB (Yk hr) (ZW (pv 0) rfl) (ZQ (Za (Zbz T.kd_LETTER_UP (Xs (v:=.ref T.a_LETTER_UP) (by rfl) T.m_LETTER_UP rfl) (pv 1) (fun _ _=>rfl)) (Za (ZS (pv 0) T.cl_Tree T.XF.me Vp (hr.mono (by decide)) T.XF.b .nil Zu (Za Zh Zb)) Zb))) (pv 2) rfl))) (Zi (ZJ (ZE Z3 (pv 1) Zk (Zy _)) (Zi (Z9 (Xd Q0 Rk Rl X6 (ZW (pv 0) rfl) (Za (ZQ (Za (pv 2) (Za (ZS (pv 0) T.cl_Tree T.XF.me Vp (hr.mono (by decide)) T.XF.b .nil Zu (Za (V4 V2 Zh) Zb)) Zb))) Zb)))) (Zi (ZJ (ZE Z3 (pv 1) Zk (Zy _)) (Zi (Z9 (Xd Q0 Rk Rl X6 (ZW (pv 0) rfl) (Za (ZQ (Za (ZS (pv 0) T.cl_Tree T.XF.me Vp (hr.mono (by decide)) T.XF.b .nil Zu (Za Zh Zb)) (Za (pv 2) Zb))) Zb)))) (Zi (Z9 (Xd Q0 Rk Rl X6 (ZW (pv 0) rfl) (Za (ZQ (Za (pv 2) (Za (ZS (pv 0) T.cl_Tree T.XF.me Vp (hr.mono (by decide)) T.XF.b .nil Zu (Za Zh Zb)) Zb))) Zb))))))))))))))),?_⟩
 refine ⟨_,rfl,o,T.c_Tree,dx,_,_,rfl,ht.ob,T.cl_Tree,T.na_Tree_here,rfl,?_⟩;dsimp only [ZM];simp only [Zs,Qh,QJ,QK] at hs;rcases hs with rfl|rfl|rfl|rfl|rfl|rfl|rfl|rfl|rfl
 ·refine ⟨_,rfl,rfl,_,rfl,_,rfl,Zr (by trivial) ⟨_,rfl,rfl,.inr _,rfl,_,rfl,ZY (by trivial) ⟨_,rfl,o,dx,_,rfl,ht.ob,rfl,_,rfl,rfl,o,dx,dl,sl,pl,tl,ul,t,_,rfl,ht,ok,dn,pn,by simp,fun H1 b1 h1=>q _ (b1.wide (by simp)) ?_⟩⟩⟩;rw [Zbm t (by simp)];exact h1
 ·refine ⟨_,rfl,rfl,_,rfl,_,rfl,Zr (by trivial) ⟨_,rfl,rfl,.inr _,rfl,_,rfl,ZY (by trivial) ⟨_,rfl,o,dx,_,rfl,ht.ob,rfl,_,rfl,rfl,o,dx,dl,sl,pl,tl,ul,t,_,rfl,ht,ok,dn,pn,by simp,fun H1 b1 h1=>q _ (b1.wide (by simp)) ?_⟩⟩⟩;rw [Zbm t (by simp)];exact h1
 ·refine ⟨_,rfl,rfl,_,rfl,_,rfl,Zr (by trivial) ⟨_,rfl,rfl,.inr _,rfl,_,rfl,Zr (by trivial) ⟨_,rfl,rfl,.inr _,rfl,_,rfl,Zr (by trivial) ⟨_,rfl,rfl,_,rfl,ZY (by trivial) ⟨_,rfl,o,T.c_Tree,dx,_,_,rfl,ht.ob,T.cl_Tree,T.na_Tree_takings,rfl,.inl ⟨rfl,_,.of ht.ta.choose_spec.1⟩,_,rfl,_,rfl,o,dx,_,rfl,ht.ob,rfl,_,rfl,rfl,o,dx,dl,sl,pl,tl,ul,t,_,rfl,ht,ok,fun H2 b2 h2=>⟨few rfl,fun a na=>?_⟩⟩⟩⟩⟩⟩;have s3:=Zj (o:=.tup [.int t.here,.int t.days.length]) na;obtain ⟨vs,k1,k2⟩:=(h2.mono s3).ta;refine ⟨tl,vs,_,rfl,rfl,k1,ZF (by rw [k2.1];show t.tak.length≤_;omega),q _ (((b2.wide (by simp)).trans (But.of _ s3)).updT (by simp)) ?_⟩;rw [Zcu];exact (h2.mono s3).addT k1 k2 (p:=(t.here,t.days.length)) Zg
 ·have hk:ZH [((.inr "f" : Zl),V.str "F"),(.inr "m",V.str "M")] (.inr "f")=some (.str (ZG "f")):=by rfl
  have hk2:ZH [((.inr "F" : Zl),V.str "he"),(.inr "M",V.str "she")] (.inr (ZG "f"))=some (.str (ZZ (ZG "f"))):=by rfl
  obtain ⟨ad,ap,_,_,ah,_⟩:=XH t t.here (ZZ (ZG "f"));refine ⟨_,rfl,rfl,_,rfl,_,rfl,Zr (by trivial) ⟨_,rfl,rfl,.inr _,rfl,_,rfl,Zr (by trivial) ⟨_,rfl,rfl,.inr _,rfl,_,rfl,ZY (by trivial) ⟨_,rfl,o,dx,_,rfl,ht.ob,rfl,_,rfl,_,rfl,rfl,.inr _,_,rfl,hk,rfl,.inr _,_,rfl,hk2,rfl,o,dx,dl,sl,pl,tl,ul,t,t.here,_,rfl,ht,by rw [ok.len];exact ok.he,ok,fun H1 b1 h1=>?_⟩⟩⟩⟩;refine ⟨_,rfl,_,rfl,o,T.c_Tree,dx,_,_,rfl,h1.ob,T.cl_Tree,T.na_Tree_parents,rfl,_,rfl,rfl,.inr _,_,rfl,hk,_,rfl,o,dx,_,rfl,h1.ob,rfl,rfl,o,dx,dl,sl,pl,tl,ul,_,_,rfl,h1,ok.ask _ _,fun H2 b2 h2=>⟨few rfl,fun a na=>?_⟩⟩;rw [ad];have s3:=Zj (o:=.tup [.str (ZG "f"),.int t.days.length]) na;have h3:=h2.mono s3;refine ⟨pl,_,rfl,DPut.t (k:=[.inr (ZG "f"),.inl (t.days.length:Int)]) h3.pa Zg (ZF (by show (YH (t.ask t.here (ZZ (ZG "f"))).par).length≤_;unfold YH;rw [Qc,ap];omega)),?_⟩;have en:((t.ask t.here (ZZ (ZG "f"))).par.find? fun q=>decide (q.1=(ZG "f",t.days.length)))=none:=by rw [ap];exact ZhA ok _
  rw [show Ys (YH ((t.ask t.here (ZZ (ZG "f"))).grow 1).par) [.inr (ZG "f"),.inl (t.days.length:Int)] (.int t.here)=YH ((t.ask t.here (ZZ (ZG "f"))).par++[((ZG "f",t.days.length),t.here)]) from Zb8 en];refine q _ ((((b1.wide (by simp)).trans (b2.wide (by simp))).trans (But.of _ s3)).updT (by simp)) ?_;rw [ZaF t (by simp)];exact h3.setP _
 ·have hk:ZH [((.inr "f" : Zl),V.str "F"),(.inr "m",V.str "M")] (.inr "m")=some (.str (ZG "m")):=by rfl
  have hk2:ZH [((.inr "F" : Zl),V.str "he"),(.inr "M",V.str "she")] (.inr (ZG "m"))=some (.str (ZZ (ZG "m"))):=by rfl
  obtain ⟨ad,ap,_,_,ah,_⟩:=XH t t.here (ZZ (ZG "m"));refine ⟨_,rfl,rfl,_,rfl,_,rfl,Zr (by trivial) ⟨_,rfl,rfl,.inr _,rfl,_,rfl,Zr (by trivial) ⟨_,rfl,rfl,.inr _,rfl,_,rfl,ZY (by trivial) ⟨_,rfl,o,dx,_,rfl,ht.ob,rfl,_,rfl,_,rfl,rfl,.inr _,_,rfl,hk,rfl,.inr _,_,rfl,hk2,rfl,o,dx,dl,sl,pl,tl,ul,t,t.here,_,rfl,ht,by rw [ok.len];exact ok.he,ok,fun H1 b1 h1=>?_⟩⟩⟩⟩;refine ⟨_,rfl,_,rfl,o,T.c_Tree,dx,_,_,rfl,h1.ob,T.cl_Tree,T.na_Tree_parents,rfl,_,rfl,rfl,.inr _,_,rfl,hk,_,rfl,o,dx,_,rfl,h1.ob,rfl,rfl,o,dx,dl,sl,pl,tl,ul,_,_,rfl,h1,ok.ask _ _,fun H2 b2 h2=>⟨few rfl,fun a na=>?_⟩⟩;rw [ad];have s3:=Zj (o:=.tup [.str (ZG "m"),.int t.days.length]) na;have h3:=h2.mono s3;refine ⟨pl,_,rfl,DPut.t (k:=[.inr (ZG "m"),.inl (t.days.length:Int)]) h3.pa Zg (ZF (by show (YH (t.ask t.here (ZZ (ZG "m"))).par).length≤_;unfold YH;rw [Qc,ap];omega)),?_⟩;have en:((t.ask t.here (ZZ (ZG "m"))).par.find? fun q=>decide (q.1=(ZG "m",t.days.length)))=none:=by rw [ap];exact ZhA ok _
  rw [show Ys (YH ((t.ask t.here (ZZ (ZG "m"))).grow 1).par) [.inr (ZG "m"),.inl (t.days.length:Int)] (.int t.here)=YH ((t.ask t.here (ZZ (ZG "m"))).par++[((ZG "m",t.days.length),t.here)]) from Zb8 en];refine q _ ((((b1.wide (by simp)).trans (b2.wide (by simp))).trans (But.of _ s3)).updT (by simp)) ?_;rw [ZaF t (by simp)];exact h3.setP _
 ·refine ⟨_,rfl,rfl,_,rfl,_,rfl,Zr (by trivial) ⟨_,rfl,rfl,.inr _,rfl,_,rfl,Zr (by trivial) ⟨_,rfl,rfl,.inr _,rfl,_,rfl,Zr (by trivial) ⟨_,rfl,rfl,_,rfl,Zr (by trivial) ⟨_,rfl,rfl,_,rfl,ZY (by trivial) ⟨_,rfl,o,T.c_Tree,dx,_,_,rfl,ht.ob,T.cl_Tree,T.na_Tree_takings,rfl,.inl ⟨rfl,_,.of ht.ta.choose_spec.1⟩,_,rfl,o,dx,_,rfl,ht.ob,rfl,rfl,o,dx,dl,sl,pl,tl,ul,t,_,rfl,ht,ok,fun H2 b2 h2=>⟨_,rfl,few rfl,fun a na=>?_⟩⟩⟩⟩⟩⟩⟩;have s3:=Zj (o:=.tup [.int t.days.length,.int t.here]) na;obtain ⟨vs,k1,k2⟩:=(h2.mono s3).ta;refine ⟨tl,vs,_,rfl,rfl,k1,ZF (by rw [k2.1];show t.tak.length≤_;omega),q _ (((b2.wide (by simp)).trans (But.of _ s3)).updT (by simp)) ?_⟩;rw [ZbR];exact (h2.mono s3).addT k1 k2 (p:=(t.days.length,t.here)) Zg
 ·refine ⟨_,rfl,rfl,_,rfl,_,rfl,Zr (by trivial) ⟨_,rfl,rfl,.inr _,rfl,_,rfl,Zr (by trivial) ⟨_,rfl,rfl,.inr _,rfl,_,rfl,Zr (by trivial) ⟨_,rfl,rfl,_,rfl,Zr (by trivial) ⟨_,rfl,rfl,_,rfl,Zr (by trivial) ⟨_,rfl,o,T.c_Tree,dx,_,_,rfl,ht.ob,T.cl_Tree,T.na_Tree_unions,rfl,.inl ⟨rfl,_,.of ht.un.choose_spec.1⟩,_,rfl,_,rfl,o,dx,_,rfl,ht.ob,rfl,rfl,o,dx,dl,sl,pl,tl,ul,t,_,rfl,ht,ok,fun H2 b2 h2=>⟨few rfl,fun a na=>?_⟩⟩⟩⟩⟩⟩⟩;have s3:=Zj (o:=.tup [.int t.here,.int t.days.length]) na;obtain ⟨vs,k1,k2⟩:=(h2.mono s3).un;refine ⟨ul,vs,_,rfl,rfl,k1,ZF (by rw [k2.1];show t.uni.length≤_;omega),q _ (((b2.wide (by simp)).trans (But.of _ s3)).updT (by simp)) ?_⟩;rw [Zcq];exact (h2.mono s3).addU k1 k2 (p:=(t.here,t.days.length)) Zg
 ·refine ⟨_,rfl,rfl,_,rfl,_,rfl,ZY (by trivial) ⟨_,rfl,o,dx,_,rfl,ht.ob,rfl,_,rfl,_,rfl,rfl,o,dx,dl,sl,pl,tl,ul,t,t.here,_,rfl,ht,by rw [ok.len];exact ok.he,ok,fun H1 b1 h1=>q _ (b1.wide (by simp)) ?_⟩⟩;rw [Zba t (by simp)];exact h1
 ·refine ⟨_,rfl,rfl,_,rfl,_,rfl,ZY (by trivial) ⟨_,rfl,o,dx,_,rfl,ht.ob,rfl,_,rfl,_,rfl,rfl,o,dx,dl,sl,pl,tl,ul,t,t.here,_,rfl,ht,by rw [ok.len];exact ok.he,ok,fun H1 b1 h1=>q _ (b1.wide (by simp)) ?_⟩⟩;rw [Zba t (by simp)];exact h1
theorem Zlx (T:Tx K w mg)  : Zap P base T:=by
 refine Fun.okX (k:=0) T.Yt.F ZlQ (fun vs H Q E h=>h.1) (fun cdv A outer s H vs Q E hr h=>?_);obtain ⟨-,h⟩:=h;obtain ⟨i,rfl,hi,q⟩:=h;refine ⟨_,(Zi (Zx (Z1 Zoq (Zo Ze8 (Xs (v:=.str "abcdefghijklmnopqrstuvwxyz") (by rfl) T.m_LETTERS ⟨_,rfl⟩) (Z1 ZbA (pv 0) Zh) (fun _ _=>rfl)) (Zo Ze8 (Xs (v:=.str "abcdefghijklmnopqrstuvwxyz") (by rfl) T.m_LETTERS ⟨_,rfl⟩) (Z1 Wd (pv 0) Zh) (fun _ _=>rfl))))),?_⟩;have e1:(i:Int).fdiv 26=0:=by rw [Int.fdiv_eq_ediv_of_nonneg _ (by decide)];omega
 have e2:(i:Int).fmod 26=i:=by rw [Int.fmod_eq_emod_of_nonneg _ (by decide)];omega
 have lz:("abcdefghijklmnopqrstuvwxyz" : Str).length≤sizeLine:=few (n:=26) (by rfl);have a0:Yg ("abcdefghijklmnopqrstuvwxyz" : Str).cps.toList 0=some 97:=by trivial
 have ai:Yg ("abcdefghijklmnopqrstuvwxyz" : Str).cps.toList (i:Int)=some (97+i):=XY (Zjc i hi);refine ⟨_,rfl,_,_,rfl,rfl,⟨by decide,ZcD (by decide) (by decide)⟩,_,_,97,rfl,rfl,lz,by rw [e1];exact a0,_,rfl,_,_,rfl,rfl,US (by decide),_,_,97+i,rfl,rfl,lz,by rw [e2];exact ai,_,_,rfl,rfl,few (n:=2) rfl,q⟩
theorem Zkl (T:Tx K w mg) (Xf:Zap P base T):ZfZ P base T:=by
 refine Fun.okX (k:=1) T.WR.F Zjv (fun vs H Q E h=>h.1) (fun cdv A outer s H vs Q E hr h=>?_);obtain ⟨-,h⟩:=h;obtain ⟨o,dx,dl,sl,pl,tl,ul,t,l,i,rfl,ht,p26,q⟩:=h
 refine ⟨_,(Zm (ZJ (U0 (ZeT (Yk hr) (ZQ (Za (pv 1) (Za (pv 2) Zb))) (ZW (pv 0) rfl))) (Zi (Zx Zk)) ZV)
   (Zi (Zx (ZO Xf (hr.mono (by decide)) (by rfl) T.Yt.m T.Yt.F.kp T.Yt.b .nil Zu (Za (ZbC (Yk hr) (ZW (pv 0) rfl) (ZQ (Za (pv 1) (Za (pv 2) Zb))) (fun _ _=>rfl)) Zb))))),?_⟩
 have gk:=fun (Hx:Hp) (a:Addr) (sx:Same H Hx) (ha:Hx a=some (.tup [.str l,.int i]))=>DGet.t (k:=[.inr l,.inl (i:Int)]) (sx _ _ ht.pa) ha;refine ⟨_,rfl,_,rfl,few rfl,fun a na=>?_⟩;have sa:=Zj (o:=.tup [.str l,.int i]) na;have hta:=ht.mono sa;have g1:=gk _ a sa Zg;rw [JU] at g1;refine ⟨_,rfl,o,T.c_Tree,dx,_,_,rfl,hta.ob,T.cl_Tree,T.na_Tree_parents,rfl,pl,_,rfl,g1,_,rfl,?_⟩;cases hp:Vi t l i with
 |some p =>
  rw [show (t.par.find? fun q=>decide (q.1=(l,i))).map (·.2)=some p from hp] at g1 ⊢;refine Zr rfl ⟨_,rfl,o,T.c_Tree,dx,_,_,rfl,hta.ob,T.cl_Tree,T.na_Tree_parents,rfl,_,rfl,_,rfl,few rfl,fun a2 na2=>?_⟩;have sa2:=sa.trans (Zj (o:=.tup [.str l,.int i]) na2);have g2:=gk _ a2 sa2 Zg;rw [JU,show (t.par.find? fun q=>decide (q.1=(l,i))).map (·.2)=some p from hp] at g2;refine ⟨pl,_,rfl,g2,rfl,p,rfl,p26 _ (Zgg hp),?_⟩;have e:Yh t l i=Ze p:=by unfold Yh;rw [hp]
  rw [←e];exact q _ sa2
 |none =>
  have hn:(t.par.find? fun q=>decide (q.1=(l,i)))=none:=NK.mp hp;rw [hn] at g1 ⊢;have e:Yh t l i="":=by unfold Yh;rw [hp]
  rw [e] at q;exact ZY rfl (q _ sa)
theorem ZmG (T:Tx K w mg) (Xf:Zap P base T) (ZaR:ZfZ P base T):ZhN P base T:=by
 refine Fun.okX (k:=2) T.Uw.F Zdx (fun vs H Q E h=>h.1) (fun cdv A outer s H vs Q E hr h=>?_);obtain ⟨-,h⟩:=h;obtain ⟨o,dx,dl,sl,pl,tl,ul,t,i,rfl,ht,ok,p26,il,i26,q⟩:=h
 refine ⟨_,(Zm (ZP (i:=2) Zdx.nd rfl (Or.inl rfl) (ZO ZaR (hr.mono (by decide)) (by rfl) T.WR.m T.WR.F.kp T.WR.b .nil Zu (Za (pv 0) (Za Zk (Za (pv 1) Zb)))))
   (Zm (ZP (i:=3) Zdx.nd rfl (Or.inl rfl) (ZO ZaR (hr.mono (by decide)) (by rfl) T.WR.m T.WR.F.kp T.WR.b .nil Zu (Za (pv 0) (Za Zk (Za (pv 1) Zb)))))
   (Zi (Zx (ZQ (Za Zk (Za (ZO Xf (hr.mono (by decide)) (by rfl) T.Yt.m T.Yt.F.kp T.Yt.b .nil Zu (Za (pv 1) Zb)) (Za (Zo Yo (ZW (pv 0) rfl) (pv 1) (fun _ _=>rfl)) (Za (Zo Yo (ZW (pv 0) rfl) (pv 1) (fun _ _=>rfl)) (Za (pv 2) (Za (pv 3) Zb))))))))))),?_⟩
 have gs:t.sorts[i]?=some (t.sorts.getD i ""):=by rw [QS,Qs (by rw [ok.len];exact il)];rfl
 have gd:t.days[i]?=some (t.days.getD i 0):=by rw [QS,Qs il];rfl
 have ad:Yg (t.days.map V.int) (i:Int)=some (.int (t.days.getD i 0)):=XY (by rw [Qo,gd];rfl);refine ⟨_,rfl,_,rfl,rfl,o,dx,dl,sl,pl,tl,ul,t,_,i,rfl,ht,p26,fun H1 s1=>?_⟩;have h1:=ht.mono s1;refine ⟨_,rfl,_,rfl,rfl,o,dx,dl,sl,pl,tl,ul,t,_,i,rfl,h1,p26,fun H2 s2=>?_⟩;have h2:=h1.mono s2;dsimp only [ZM];refine ⟨_,rfl,rfl,i,rfl,i26,_,rfl,o,T.c_Tree,dx,_,_,rfl,h2.ob,T.cl_Tree,T.na_Tree_sorts,rfl,_,rfl,sl,_,_,_,rfl,rfl,.of h2.so,Zd1 (n:=i) gs,_,rfl,o,T.c_Tree,dx,_,_,rfl,h2.ob,T.cl_Tree,T.na_Tree_days,rfl,_,rfl,dl,_,_,_,rfl,rfl,.of h2.da,ad,_,rfl,_,rfl,few rfl,fun a na=>?_⟩;exact q _ a ((s1.trans s2).trans (Zj na)) (ZX (s1.trans s2) na) Zg
theorem Zlg (T:Tx K w mg) (LB2:LamB base T.cc2 T.tb2 mg) (ZdH:ZhF P base T) (JB:Zhq P base T) (Xf:Zap P base T) (Zb2:ZhN P base T):ZhO P base T:=by
 refine Fun.okL (k:=6) T.hcc2 T.VQ.F VD (fun vs H Q E h=>h.1) (fun A outer s H vs Q E hr h=>?_);obtain ⟨-,h⟩:=h;obtain ⟨oo,dx,dl,sl,pl,tl,ul,t,k0,rfl,ht,ti0,k24,tu,hc,lam,q⟩:=h
 refine ⟨_,(Zm (ZP (i:=1) VD.nd rfl (Or.inl rfl) (ZfI T.mk_Book ZdH (hr.mono (by decide)) (by rfl) T.m_Book T.UO.b .nil Zu))
   (Zm (YJ QN rfl (Y2 (ZoX K LB2 rfl ZlY (hr.mono (QV _)) rfl (by rfl) T.n_sorted (ZlK (by rfl) T.n_range (Za (Yi XR (by rfl) T.n_len Xa (Za (ZW (pv 0) rfl) Zb)) Zb)) (i:=0) rfl rfl rfl rfl rfl rfl rfl)) (ZR (i:=2) VD.nd rfl (Or.inl rfl))
    (Zi (Z9 (ZS (pv 1) T.cl_Book T.Wv.me JB (hr.mono (by decide)) T.Wv.b .nil Zu (Za (ZO Zb2 (hr.mono (by decide)) (by rfl) T.Uw.m T.Uw.F.kp T.Uw.b .nil Zu (Za (pv 0) (Za (pv 2) Zb))) Zb)))))
   (Zm (ZP (i:=3) VD.nd rfl (Or.inl rfl) (Yi (Zhg K rfl) (by rfl) T.n_max Zci (Za (ZW (pv 0) rfl) Zb)))
   (Zm (YJ QN rfl (Y2 (ZW (pv 0) rfl)) (Vv rfl (Yx (ZR (i:=4) VD.nd rfl (Or.inl rfl)) (Yx (ZR (i:=5) VD.nd rfl (Or.inl rfl)) X7)))
    (Zi (Z9 (ZS (pv 1) T.cl_Book T.Wv.me JB (hr.mono (by decide)) T.Wv.b .nil Zu (Za (ZQ (Za Zk (Za (ZO Xf (hr.mono (by decide)) (by rfl) T.Yt.m T.Yt.F.kp T.Yt.b .nil Zu (Za (pv 4) Zb)) (Za (ZO Xf (hr.mono (by decide)) (by rfl) T.Yt.m T.Yt.F.kp T.Yt.b .nil Zu (Za (pv 5) Zb)) (Za (pv 3) Zb))))) Zb)))))
   (Zm (YJ QN rfl (Y2 (ZW (pv 0) rfl)) (Vv rfl (Yx (ZR (i:=6) VD.nd rfl (Or.inl rfl)) (Yx (ZR (i:=7) VD.nd rfl (Or.inl rfl)) X7)))
    (Zi (Z9 (ZS (pv 1) T.cl_Book T.Wv.me JB (hr.mono (by decide)) T.Wv.b .nil Zu (Za (ZQ (Za Zk (Za (ZO Xf (hr.mono (by decide)) (by rfl) T.Yt.m T.Yt.F.kp T.Yt.b .nil Zu (Za (pv 6) Zb)) (Za (ZO Xf (hr.mono (by decide)) (by rfl) T.Yt.m T.Yt.F.kp T.Yt.b .nil Zu (Za (pv 7) Zb)) (Za (pv 3) Zb))))) Zb)))))
   (Zi (Zx (pv 1)))))))),?_⟩
 refine fun b dxb nb ndx nn=>⟨rfl,b,dxb,rfl,Zg,fun H1 k bi li ti su hB1 keep nk nbi nli nti nsu=>⟨rfl,?_⟩⟩;obtain ⟨s1,f1⟩:=ZoH nb ndx keep nk nbi nli nti nsu;clear keep nk nbi nli nti nsu;have ht1:=ht.mono s1;have n25:=ti0.n;have lk:=lam.same s1;dsimp only [ZM];refine ⟨_,rfl,oo,T.c_Tree,dx,_,_,rfl,ht1.ob,T.cl_Tree,T.na_Tree_days,rfl,dl,_,rfl,.inl (.of ht1.da),_,rfl,by omega,by rw [Qc];omega,fun r nr=>?_⟩;have sr:=Zj (o:=.rng 0 ((t.days.map V.int).length:Int)) nr;refine ⟨r,t.days.length,oo,T.c_Tree,dx,_,dl,t.days,rfl,by rw [Zg,Qc],by omega,rfl,sr _ _ ht1.ob,T.cl_Tree,T.na_Tree_days,rfl,.of (sr _ _ ht1.da),rfl,lk.same sr,fun H2 Dq zs pm pw sx ls lt nDq hDq=>?_⟩;obtain ⟨ord,rfl,pm'⟩:=ZnV pm;have o:OrdOk t ord:=⟨pm',by have z:=Gg.mp pw;exact z⟩;have nDH:H Dq=none:=ZX (s1.trans sr) nDq;obtain ⟨xsD,exs⟩:∃z,z=(ord.map fun i:Nat=>(i:Int)).map V.int:=⟨_,rfl⟩;rw [←exs] at hDq;have sHs:Same H (Zc H Dq (.lst xsD)):=Zj nDH
 have sc2:SameX (Zc H Dq (.lst xsD)) H2:=fun c u nu e=>by
  by_cases z:c=Dq
  ·rw [z,Zg] at e;cases e;rw [z];exact hDq
  ·rw [Zd z] at e;exact sx _ _ nu (sr _ _ (s1 _ _ e))
 have ls2:Lams T.tb2 H H2:=(((s1.trans sr).lams T.tb2)).trans ls;have hB2:=(hB1.mono sr).monoX sx
 have g2:∀c∈ft k bi li ti su Vr,VG (Zc H Dq (.lst xsD)) c:=fun c m u nu e=>by
  by_cases z:c=Dq
  ·have hs:∀{w:HO},H1 c=some w->False:=fun e1=>by rw [z] at e1;rw [sr _ _ e1] at nDq;cases nDq
   have m':c=k∨c=bi∨c=li∨c=ti∨c=su:=by simpa [ft,Vr] using m
   rcases m' with rfl|rfl|rfl|rfl|rfl
   ·exact hs hB1.ke
   ·exact hs hB1.bi
   ·exact hs hB1.li
   ·exact hs hB1.ti
   ·exact hs hB1.su
  ·rw [Zd z] at e;exact f1 c m u nu e
 have p26:∀q∈t.par,q.2<26:=fun q hq=>by have:=(ti0.pn q hq).2.1;omega
 have pl33:(Z5 t).length≤33:=by unfold Z5;rw [Qc,QW];omega
 have ol:ord.length=t.days.length:=by rw [pm'.length_eq,QW]
 clear hB1 f1 ht1 lk nr;refine ⟨Dq,rfl,⟨_,.of hDq⟩,Wx (xs:=xsD) (fun i σ Hc=>∃(B:Bk) (v:Option V),σ=[some (.ref oo),some (.ref b),v,none,none,none,none,none]∧BkAt K T.c_Book Hc b dxb k bi li ti su B∧LI5 (Z5 t) B B.kept∧B.kept.map (·.1)=(YK t (ord.take i)).map Ent.told∧SameX (Zc H Dq (.lst xsD)) Hc∧Lams T.tb2 H Hc∧YS T.tb2 Hc∧∀c∈ft k bi li ti su B,VG (Zc H Dq (.lst xsD)) c) ?start ?list ?turn ?done⟩
 case start=>exact ⟨Vr,none,rfl,hB2,LI5.start _,rfl,sc2,ls2,lt,g2⟩
 case list =>
  rintro i σ Hc _ ⟨B,v,rfl,_,_,_,sc,_⟩;exact .of (sc _ _ rfl Zg)
 case turn =>
  rintro i y σ Hc hy ⟨B,v,rfl,hB,li5,hk,sc,lsc,ltc,g1⟩;rw [exs,Qo,Qo] at hy;obtain ⟨z,hz,rfl⟩:=QF.mp hy;obtain ⟨x,hx,rfl⟩:=QF.mp hz;have xl:x<t.days.length:=o.lt.mp (QL hx);have il:=(QE.mp hx).1;have tk:YK t (ord.take (i+1))=YK t (ord.take i)++[XV t x]:=by unfold YK;rw [RZ,hx,Qv];rfl
  have gt:GdL (Z5 t) (YK t (ord.take i)++[XV t x]):=by rw [←tk];exact ZcI ti0 k24 hc o (i+1) (by omega)
  have hkl:B.kept.length≤60:=by
   have:=QB List.length hk;unfold YK at this;rw [Qc,Qc,Qc,Q6] at this;omega
  obtain ⟨no,d5,rm⟩:=GdL.ref li5 hk gt hkl pl33;have htc:=ht.monoX (sHs.x.trans sc);refine ⟨_,rfl,b,dxb,_,rfl,hB.ob,rfl,_,rfl,_,rfl,rfl,oo,dx,dl,sl,pl,tl,ul,t,x,rfl,htc,ti0.ok (by omega),p26,xl,by omega,fun Ha a sa na ha=>?_⟩;have hBa:=hB.mono sa;refine ⟨rfl,b,dxb,k,bi,li,ti,su,B,.ref a,XV t x,rfl,hBa,⟨a,rfl,.of ha⟩,d5.1,no,rm,fun H6 B6 y hB6 hput bt hy6 gr grT=>?_⟩;obtain ⟨li6,sb6⟩:=li5.put' hput d5 no;obtain ⟨sc6,g6⟩:=Zdp bt hy6 grT (sc.trans sa.x) g1;have nE:=fun c m=>hBa.noE hy6 (c:=c) m;exact ⟨B6,_,rfl,hB6,li6,by rw [sb6,hk,tk,Qv];rfl,sc6,Lams.but (lsc.same sa) bt nE,LamH.but (ltc.same sa) bt nE,g6⟩
 case done =>
 rintro σ Hd ⟨B,v,rfl,hB,li5,hk,sc,lsc,ltc,g1⟩;have xl:xsD.length=ord.length:=by rw [exs,Qc,Qc]
 rw [xl,Q8] at hk;have htd:=ht.monoX (sHs.x.trans sc);have dne:t.days≠[]:=fun z=>by have:=ti0.he;rw [z] at this;cases this
 refine ⟨_,rfl,oo,T.c_Tree,dx,_,_,rfl,htd.ob,T.cl_Tree,T.na_Tree_days,rfl,dl,t.days,rfl,.of htd.da,dne,fun D hD1 hD2=>?_⟩;have D2:D≤10 ^ 18:=by have:=(ti0.bd D hD1).2;omega
 have gd:=ZpK ti0 k24 hc o hD2 D2;have gd:GdL (Z5 t) (Yd t ord D):=gd;obtain ⟨vsT,hT1,hT2⟩:=ht.ta;obtain ⟨vsU,hU1,hU2⟩:=ht.un;have hk:B.kept.map (·.1)=((Yd t ord D).take (ord.length+0)).map Ent.told:=by rw [Nat.add_zero,Zok];exact hk
 dsimp only [ZM];refine ⟨_,rfl,oo,T.c_Tree,dx,_,_,rfl,htd.ob,T.cl_Tree,T.na_Tree_takings,rfl,tl,rfl,⟨_,.of (sc _ _ rfl (sHs _ _ hT1))⟩,Wx (xs:=vsT) (fun i σ Hc=>∃(B:Bk) (v1 v2:Option V),σ=[some (.ref oo),some (.ref b),v,some (.int D),v1,v2,none,none]∧BkAt K T.c_Book Hc b dxb k bi li ti su B∧LI5 (Z5 t) B B.kept∧B.kept.map (·.1)=((Yd t ord D).take (ord.length+i)).map Ent.told∧SameX (Zc H Dq (.lst xsD)) Hc∧Lams T.tb2 H Hc∧YS T.tb2 Hc∧∀c∈ft k bi li ti su B,VG (Zc H Dq (.lst xsD)) c) ?st ?li ?tu ?dn⟩
 case st=>exact ⟨B,_,_,rfl,hB,li5,hk,sc,lsc,ltc,g1⟩
 case li =>
  rintro i σ Hc _ ⟨B,v1,v2,rfl,_,_,_,sc,_⟩;exact .of (sc _ _ rfl (sHs _ _ hT1))
 case tu =>
  rintro i y σ Hc hy ⟨B,v1,v2,rfl,hB,li5,hk,sc,lsc,ltc,g1⟩;obtain ⟨p,hp⟩:∃p,t.tak[i]?=some p:=⟨_,Qs (by have:=(QE.mp hy).1;rw [hT2.1] at this;exact this)⟩;obtain ⟨a,rfl,ha⟩:=hT2.2 i p y hp hy;have hac:=sc _ _ rfl (sHs _ _ ha);have he:=Zos (ord:=ord) (D:=D) hp;have tk:=ZgY he;have gt:GdL (Z5 t) ((Yd t ord D).take (ord.length+i)++[Ji D p]):=by rw [←tk];exact gd.take _
  have hkl:B.kept.length≤60:=by
   have:=QB List.length hk;rw [Qc,Qc,Q6,Zbt,o.pm.length_eq,QW] at this;omega
  obtain ⟨no,d5,rm⟩:=GdL.ref li5 hk gt hkl pl33;obtain ⟨b1,b2⟩:=(⟨(ti0.tk p (QL hp)).1,(ti0.tk p (QL hp)).2.1⟩:_∧_);refine ⟨a,_,rfl,.of hac,rfl,_,_,rfl,_,_,rfl,rfl,?_⟩;dsimp only [ZM];refine ⟨_,rfl,b,dxb,_,rfl,hB.ob,rfl,_,rfl,rfl,p.1,rfl,by omega,_,rfl,rfl,p.2,rfl,by omega,_,rfl,few rfl,fun e ne=>?_⟩;have se:=Zj (o:=.tup [.str "taken",.str (Ze p.1),.str (Ze p.2),.int D]) ne;refine ⟨rfl,b,dxb,k,bi,li,ti,su,B,.ref e,Ji D p,rfl,hB.mono se,⟨e,rfl,.of Zg⟩,d5.1,no,rm,fun H6 B6 y hB6 hput bt hy6 gr grT=>?_⟩;obtain ⟨li6,sb6⟩:=li5.put' hput d5 no;obtain ⟨sc6,g6⟩:=Zdp bt hy6 grT (sc.trans se.x) g1;have nE:=fun c m=>(hB.mono se).noE hy6 (c:=c) m;exact ⟨B6,_,_,rfl,hB6,li6,by rw [sb6,hk,show ord.length+(i+1)=ord.length+i+1 from rfl,tk,Qv];rfl,sc6,Lams.but (lsc.same se) bt nE,LamH.but (ltc.same se) bt nE,g6⟩
 case dn =>
 clear hB li5 hk sc lsc ltc g1;rintro σ He ⟨B,v1,v2,rfl,hB,li5,hk,sc,lsc,ltc,g1⟩;rw [hT2.1] at hk;have hte:=ht.monoX (sHs.x.trans sc);refine ⟨_,rfl,oo,T.c_Tree,dx,_,_,rfl,hte.ob,T.cl_Tree,T.na_Tree_unions,rfl,ul,rfl,⟨_,.of (sc _ _ rfl (sHs _ _ hU1))⟩,Wx (xs:=vsU) (fun i σ Hc=>∃(B:Bk) (v1' v2':Option V),σ=[some (.ref oo),some (.ref b),v,some (.int D),v1,v2,v1',v2']∧BkAt K T.c_Book Hc b dxb k bi li ti su B∧LI5 (Z5 t) B B.kept∧B.kept.map (·.1)=((Yd t ord D).take (ord.length+t.tak.length+i)).map Ent.told∧SameX (Zc H Dq (.lst xsD)) Hc∧Lams T.tb2 H Hc∧YS T.tb2 Hc∧∀c∈ft k bi li ti su B,VG (Zc H Dq (.lst xsD)) c) ?st2 ?li2 ?tu2 ?dn2⟩
 case st2=>exact ⟨B,_,_,rfl,hB,li5,hk,sc,lsc,ltc,g1⟩
 case li2 =>
  rintro i σ Hc _ ⟨B,v1,v2,rfl,_,_,_,sc,_⟩;exact .of (sc _ _ rfl (sHs _ _ hU1))
 case tu2 =>
  rintro i y σ Hc hy ⟨B,v1,v2,rfl,hB,li5,hk,sc,lsc,ltc,g1⟩;obtain ⟨p,hp⟩:∃p,t.uni[i]?=some p:=⟨_,Qs (by have:=(QE.mp hy).1;rw [hU2.1] at this;exact this)⟩;obtain ⟨a,rfl,ha⟩:=hU2.2 i p y hp hy;have hac:=sc _ _ rfl (sHs _ _ ha);have he:=Zl2 (ord:=ord) (D:=D) hp;have tk:=ZgY he;have gt:GdL (Z5 t) ((Yd t ord D).take (ord.length+t.tak.length+i)++[W2 D p]):=by rw [←tk];exact gd.take _
  have hkl:B.kept.length≤60:=by
   have:=QB List.length hk;rw [Qc,Qc,Q6,Zbt,o.pm.length_eq,QW] at this;omega
  obtain ⟨no,d5,rm⟩:=GdL.ref li5 hk gt hkl pl33;obtain ⟨b1,b2⟩:=(⟨Nat.lt_trans (ti0.un p (QL hp)).1 (ti0.un p (QL hp)).2,(ti0.un p (QL hp)).2⟩:_∧_);refine ⟨a,_,rfl,.of hac,rfl,_,_,rfl,_,_,rfl,rfl,?_⟩;dsimp only [ZM];refine ⟨_,rfl,b,dxb,_,rfl,hB.ob,rfl,_,rfl,rfl,p.1,rfl,by omega,_,rfl,rfl,p.2,rfl,by omega,_,rfl,few rfl,fun e ne=>?_⟩;have se:=Zj (o:=.tup [.str "union",.str (Ze p.1),.str (Ze p.2),.int D]) ne;refine ⟨rfl,b,dxb,k,bi,li,ti,su,B,.ref e,W2 D p,rfl,hB.mono se,⟨e,rfl,.of Zg⟩,d5.1,no,rm,fun H6 B6 y hB6 hput bt hy6 gr grT=>?_⟩;obtain ⟨li6,sb6⟩:=li5.put' hput d5 no;obtain ⟨sc6,g6⟩:=Zdp bt hy6 grT (sc.trans se.x) g1;have nE:=fun c m=>(hB.mono se).noE hy6 (c:=c) m;exact ⟨B6,_,_,rfl,hB6,li6,by rw [sb6,hk,show ord.length+t.tak.length+(i+1)=ord.length+t.tak.length+i+1 from rfl,tk,Qv];rfl,sc6,Lams.but (lsc.same se) bt nE,LamH.but (ltc.same se) bt nE,g6⟩
 case dn2 =>
 clear hB li5 hk sc lsc ltc g1;rintro σ Hf ⟨B,v1',v2',rfl,hB,li5,hk,sc,lsc,ltc,g1⟩;rw [hU2.1,GB (by rw [Zbt];omega)] at hk;exact ⟨_,rfl,q _ b B (sHs.x.trans sc) lsc ltc ⟨_,_,_,_,_,_,_,rfl,hB⟩ (Jn.tree ti0 k24 o gd li5 hk)⟩
theorem Zka (T:Tx K w mg) (Zeo:Zha P base T) (ZbL:ZfD P base T) (Xf:Zap P base T) (Zcp:ZhO P base T):ZcK P base T:=by
 refine Fun.okX (k:=7) T.WK.F Zdu (fun vs H Q E h=>h.1) (fun cdv A outer s H vs Q E hr h=>?_);obtain ⟨-,h⟩:=h;obtain ⟨p,way,rfl,hp,h9,l24,lam,qn,qs⟩:=h
 refine ⟨_,(Zm (ZP (i:=1) Zdu.nd rfl (Or.inl rfl) (ZfI T.mk_Tree Zeo (hr.mono (by decide)) (by rfl) T.m_Tree T.UM.b .nil Zu))
   (Zm (YJ QN rfl (VR (pv 0)) (ZR (i:=2) Zdu.nd rfl (Or.inl rfl))
    (Zi (Z9 (ZS (pv 1) T.cl_Tree T.UP.me ZbL (hr.mono (by decide)) T.UP.b .nil Zu (Za (pv 2) Zb)))))
   (Zm (ZJ (YO (ZW (pv 1) rfl)) (Zi (Zx Uo)) ZV)
   (Zi (Zx (ZQ (Za (ZO Zcp (hr.mono (by decide)) (by rfl) T.VQ.m T.VQ.F.kp T.VQ.b .nil Zu (Za (pv 1) Zb)) (Za (ZO Xf (hr.mono (by decide)) (by rfl) T.Yt.m T.Yt.F.kp T.Yt.b .nil Zu (Za Zh Zb)) (Za (ZO Xf (hr.mono (by decide)) (by rfl) T.Yt.m T.Yt.F.kp T.Yt.b .nil Zu (Za (ZW (pv 1) rfl) Zb)) Zb))))))))),?_⟩
 refine fun o dx no ndx nn=>⟨rfl,o,dx,rfl,Zg,fun H1 dl sl pl tl ul ht1 b1 nd ns np nt nu=>⟨rfl,?_⟩⟩;have sb:Same H (Zc (Zc H dx (.own o)) o (.ins T.c_Tree dx [])):=fun c u e=>by rw [Zd (ZA e no),Zd (ZA e ndx)];exact e
 have s1:Same H H1:=fun c u e=>b1.eq c u (by simpa using ZA e no) (sb _ _ e)
 have n6:∀c∈[o,dl,sl,pl,tl,ul],H c=none:=fun c m=>by
  simp only [Qh,QJ,QK] at m;rcases m with rfl|rfl|rfl|rfl|rfl|rfl
  ·exact no
  ·exact ZX sb nd
  ·exact ZX sb ns
  ·exact ZX sb np
  ·exact ZX sb nt
  ·exact ZX sb nu
 dsimp only [ZM];refine ⟨_,rfl,p,rfl,⟨_,s1.sqt hp⟩,UD (xs:=way.map V.str) (fun i σ Hc=>∃v,σ=[some (.ref p),some (.ref o),v]∧TrAt T.c_Tree Hc o dx dl sl pl tl ul (Z2 (way.take i))∧Same H Hc) ?start ?list ?turn ?done⟩
 case start=>exact ⟨_,rfl,ht1,s1⟩
 case list =>
  rintro i σ Hc _ ⟨v,rfl,_,sc⟩;exact sc.sqt hp
 case turn =>
  rintro i y σ Hc hy ⟨v,rfl,htc,sc⟩;obtain ⟨s',hs,rfl⟩:=JT hy;have il:=(QE.mp hs).1;have t9:∀x∈way.take i,x∈Zs:=fun x hx=>h9 x (Rv hx);have ti:=Zah t9;have tl':(way.take i).length≤24:=by rw [Q6];omega
  have:=ti.n;have:=ti.pf;have:=ti.tf;have:=ti.uf;refine ⟨_,rfl,o,dx,_,rfl,htc.ob,rfl,_,rfl,rfl,o,dx,dl,sl,pl,tl,ul,_,s',rfl,htc,ti.ok (by omega),by omega,by omega,by omega,by omega,h9 s' (QL hs),fun H' b' h'=>⟨_,rfl,?_,fun c u e=>b'.eq c u (fun m=>by rw [n6 c m] at e;cases e) (sc _ _ e)⟩⟩;have e:Z2 (way.take (i+1))=(Z2 (way.take i)).go s':=by unfold Z2;rw [RZ,hs,NG];rfl
  rw [e];exact h'
 case done =>
 rintro σ Hc ⟨v,rfl,htc,sc⟩;rw [Qc,Q8] at htc;have ti:=Zah h9;have tu:=Zo2 h9;have nn:=ti.n;refine ⟨_,rfl,o,T.c_Tree,dx,_,_,rfl,htc.ob,T.cl_Tree,T.na_Tree_clash,rfl,_,rfl,YW (fun hc=>?_) (fun hc=>?_)⟩
 ·exact qn _ sc.x (sc.lams _) (lam.same sc) hc
 refine ⟨_,rfl,rfl,o,dx,dl,sl,pl,tl,ul,_,_,rfl,htc,ti,l24,by omega,hc,lam.same sc,fun H2 b B sx ls lt hB bt=>?_⟩;have ht2:=htc.monoX sx;refine ⟨rfl,0,rfl,by decide,_,rfl,o,T.c_Tree,dx,_,_,rfl,ht2.ob,T.cl_Tree,T.na_Tree_here,rfl,rfl,(Z2 way).here,rfl,by have:=ti.he;omega,few rfl,fun a na=>?_⟩;have sa:=Zj (o:=.tup [.ref b,.str (Ze 0),.str (Ze (Z2 way).here)]) na;exact qs _ a b B (sc.x.trans (sx.trans sa.x)) (((sc.lams _).trans ls).same sa) (lt.same sa) hc Zg (hB.mono sa) bt
theorem ZoD (T:Tx K w mg) (W3:ZaS P base T) (Wk:Za7 P base T) (Jy:ZdZ P base T):Zdz P base T:=by
 refine Fun.okX (k:=2) T.Uc.F ZnK (fun vs H Q E h=>h.1) (fun cdv A outer s H vs Q E hr h=>?_);obtain ⟨-,h⟩:=h;obtain ⟨v,s,n,B,rfl,hB,hs,kn,q⟩:=h
 refine ⟨_,(Zm (ZJ (YO (ZO Jy (hr.mono (by decide)) (by rfl) T.WY.m T.WY.F.kp T.WY.b .nil Zu (Za (pv 1) Zb))) (Zi (Zx (ZjC (ZE Z3 (ZS (pv 0) T.cl_Book T.Wy.me W3 (hr.mono (by decide)) T.Wy.b .nil Xb (Za (pv 2) Zb)) (pv 1) (Zy _)) (YD (Za (pv 2) Zb)) (YD Zb)))) ZV)
   (Zi (Zx (ZS (pv 0) T.cl_Book T.XE.me Wk (hr.mono (by decide)) T.XE.b .nil Xb (Za (pv 1) (Za (pv 2) Zb)))))),?_⟩
 obtain ⟨b,dx,k,bi,li,ti,su,rfl,hB⟩:=hB;have hv:BkHas K T.c_Book H (.ref b) B:=⟨b,dx,k,bi,li,ti,su,rfl,hB⟩;unfold Yu at q;refine ⟨_,rfl,rfl,_,rfl,?_⟩;dsimp only;cases ht:VH s with
 |true =>
  rw [Qb ht] at q;refine ⟨true,rfl,Z4 ⟨_,rfl,b,dx,_,rfl,hB.ob,rfl,_,rfl,rfl,.ref b,.str n,B,rfl,hv,.inr ⟨n,rfl,fun no=>absurd no kn,fun p hp n' s' d f m ep=>?_⟩⟩⟩;rw [ZfQ hp ep] at q;refine ⟨_,rfl,rfl,_,rfl,?_⟩;dsimp only;by_cases e:s'=s
  ·rw [Qb e] at q;rw [Qu (show V.str s'=V.str s by rw [e])];exact Z4 ⟨_,rfl,few rfl,fun D nD=>q _ D (Zj nD) nD Zg⟩
  ·rw [Qa e] at q;rw [Qr (show ¬V.str s'=V.str s from fun z=>e (V.str.inj z))];exact Z0 ⟨few rfl,fun D nD=>q _ D (Zj nD) nD Zg⟩
 |false =>
  rw [Qa (by rw [ht];decide)] at q;refine ⟨false,rfl,Z0 ⟨_,rfl,b,dx,_,rfl,hB.ob,rfl,_,rfl,_,rfl,rfl,.ref b,.str s,.str n,B,rfl,hv,.inr ⟨s,rfl,fun no=>?_,fun hl=>.inr ⟨n,rfl,fun no=>absurd no kn,fun _ H' D s1 nD hD=>q H' D s1 nD hD⟩⟩⟩⟩;exfalso;unfold Vf at no;unfold VH at ht;have n1:s∉XC:=RF no;have n2:s∉(["he","she"]:List Str):=RF ht;have:s∈XC++(["he","she"]:List Str):=hs;exact (Ql.mp this).elim n1 n2
theorem Zk2 (T:Tx K w mg) (J1:Zdz P base T):Zgd P base T:=by
 refine Fun.okX (k:=4) T.V3.F Jg (fun vs H Q E h=>h.1) (fun cdv A outer s H vs Q E hr h=>?_);obtain ⟨-,h⟩:=h;obtain ⟨one,p,f,b,way,B,pool,rfl,lam,hp,h9,hB,cl,kn,lw,q⟩:=h
 refine ⟨_,(Zm (ZP (i:=3) Jg.nd rfl (Or.inl rfl) (YD (Za (UC (YB (pv 0) (pv 0) Uu) rfl rfl (by simp) (by decide)) Zb)))
   (Zm (YJ QN rfl (VR (pv 1)) (ZR (i:=4) Jg.nd rfl (Or.inl rfl))
    (Zm (ZP (i:=5) Jg.nd rfl (Or.inl rfl) JS)
   (Zm (Zch (YJ QN rfl (Zdr (Zo Yo (pv 3) (V4 V2 Zh) (fun _ _=>rfl))) (ZR (i:=6) Jg.nd rfl (Or.inl rfl))
    (Zi (YJ QN rfl (Y2 (ZnA (q:=Zdb) Zpz J1 T.Uc.b T.Uc.m T.Uc.F.kp (hr.mono (by decide)) Zgs (i:=2) rfl (Or.inl rfl) (Za (pv 4) (Za (pv 6) Zb)))) (ZR (i:=7) Jg.nd rfl (Or.inl rfl))
    (Zi (WB (Yk hr) (pv 5) (pv 7) (pv 6) rfl))))))
   (Zi (Z9 (Xd Q0 Rk Rl X6 (pv 3) (Za (pv 5) Zb)))))))
   (Zi (Zx (pv 3))))),?_⟩
 refine fun d0 nd0=>⟨_,rfl,_,rfl,Zg,[(.inr one,.str one)],rfl,Qy rfl,few rfl,fun D nD=>?_⟩
 have sA:Same H (Zc (Zc H d0 (.dK [])) d0 (.dK (XO [] [(.inr one,.str one)]))):=fun c o e=>by
  rw [Zd (ZA e nd0),Zd (ZA e nd0)];exact e
 have nDH:H D=none:=ZX sA nD;have s0:=sA.trans (Zj (o:=.lst [.ref d0]) nD);have nd0D:d0≠D:=fun z=>by rw [←z,Zg] at nD;cases nD
 refine ⟨_,rfl,p,rfl,⟨_,s0.sqt hp⟩,UD (xs:=way.map V.str) (fun i σ Hc=>∃(ds:List V) (d:Addr) (ks:List (Str×V)) (v4 v5 v6 v7:Option V),σ=[some (.str one),some (.ref p),some (.ref f),some (.ref D),v4,v5,v6,v7]∧Same H Hc∧Hc D=some (.lst (ds++[.ref d]))∧ds.length=i∧H d=none∧Hc d=some (.dK (XI ks))∧(ks.map (·.1)).Nodup∧∀x,x∈ks.map (·.1)↔X0 (Yu B) (way.take i) (·=one) x) ?start ?list ?turn ?done⟩
 case start=>exact ⟨[],d0,[(one,.str one)],_,_,_,_,rfl,s0,Zg,rfl,nd0,by rw [Zd nd0D,Zg];rfl,by simp,fun x=>by simp [X0]⟩
 case list =>
  rintro i σ Hc _ ⟨ds,d,ks,v4,v5,v6,v7,rfl,sc,_⟩;exact sc.sqt hp
 case done =>
  rintro σ Hc ⟨ds,d,ks,v4,v5,v6,v7,rfl,sc,hD,dl,nd,hd,kd,mem⟩;rw [Qc,Q8] at mem;exact ⟨_,rfl,q Hc D ds d ks sc nDH hD hd kd mem⟩
 case turn =>
  rintro i y σ Hc hy ⟨ds,d,ks,v4,v5,v6,v7,rfl,sc,hD,dl,nd,hd,kd,mem⟩;obtain ⟨s,hs,rfl⟩:=JT hy;have il:=(QE.mp hs).1;have s9:=h9 s (QL hs);have tk:way.take (i+1)=way.take i++[s]:=by rw [RZ,hs];rfl
  have known:∀x,x∈ks.map (·.1)->Known B x:=fun x hx=>ZcA (R:=Known B) cl.led (fun t ht=>h9 t (Rv ht)) (fun x e=>by rw [e];exact kn) x ((mem x).mp hx);refine fun c nc=>?_;have ncH:=ZX sc nc;have s1:=Zj (o:=.dK []) nc;have dc:d≠c:=ZA hd nc;have Dc:D≠c:=ZA hD nc;have dD:d≠D:=fun z=>by rw [z,hD] at hd;cases hd
  refine ⟨d,XI ks,s1 _ _ hd,_,rfl,1,rfl,D,_,-1,.ref d,rfl,rfl,.of (s1 _ _ hD),Ze6 _ _,d,XI ks,rfl,s1 _ _ hd,fun o=>?_⟩;refine ZhQ (kvs:=XI ks) (fun j σ Hj=>∃(cs:List (Str×V)) (v6 v7:Option V),σ=[some (.str one),some (.ref p),some (.ref f),some (.ref D),some (.str s),some (.ref c),v6,v7]∧Same H Hj∧Hj D=some (.lst (ds++[.ref d]))∧Hj d=some (.frz o (.dK (XI ks)))∧Hj c=some (.dK (XI cs))∧(cs.map (·.1)).Nodup∧∀x,x∈cs.map (·.1)↔∃y,y∈(ks.map (·.1)).take j∧x∈Yu B s y) ?st2 ?li2 ?tu2 ?do2
  case st2=>exact ⟨[],_,_,rfl,fun e u h=>by rw [Zd (fun z=>by subst z;rw [nd] at h;cases h),Zd (fun z=>by subst z;rw [ncH] at h;cases h)];exact sc _ _ h,by rw [Zd dD.symm];exact s1 _ _ hD,Zg,by rw [Zd dc.symm];exact Zg,by simp,fun x=>by simp⟩
  case li2 =>
   rintro j σ Hj _ ⟨cs,v6,v7,rfl,sj,_,hdj,_⟩;exact hdj
  case do2 =>
   rintro σ Hj ⟨cs,v6,v7,rfl,sj,hDj,hdj,hcj,ndj,memj⟩;rw [ZeM,Q8] at memj;refine ⟨o,hdj,?_⟩;have hD5:(Zc Hj d (.dK (XI ks))) D=some (.lst (ds++[.ref d])):=by rw [Zd dD.symm];exact hDj
   refine ⟨_,rfl,.inl ⟨rfl,_,.of hD5⟩,_,rfl,D,_,_,rfl,rfl,hD5,ZF (by rw [Qq,dl];simp;omega),?_⟩;refine ⟨ds++[.ref d],c,cs,_,_,_,_,rfl,fun e u h=>?_,Zg,by rw [Qq,dl];rfl,ncH,?_,ndj,fun x=>?_⟩
   ·rw [Zd (fun z=>by subst z;rw [nDH] at h;cases h),Zd (fun z=>by subst z;rw [nd] at h;cases h)];exact sj _ _ h
   ·rw [Zd Dc.symm,Zd dc.symm];exact hcj
   ·rw [tk,ZiO,memj];exact ⟨fun ⟨y,hy,hx⟩=>⟨y,(mem y).mp hy,hx⟩,fun ⟨y,hy,hx⟩=>⟨y,(mem y).mpr hy,hx⟩⟩
  case tu2 =>
   rintro j pr σ Hj hpr ⟨cs,v6,v7,rfl,sj,hDj,hdj,hcj,ndj,memj⟩;rw [Qo] at hpr;obtain ⟨⟨y,vy⟩,hky,rfl⟩:=QF.mp hpr;have hyk:(ks.map (·.1))[j]?=some y:=by rw [Qo,hky];rfl
   have ky:=known y (QL hyk);have tkj:(ks.map (·.1)).take (j+1)=(ks.map (·.1)).take j++[y]:=by rw [RZ,hyk];rfl
   refine ⟨f,rfl,_,rfl,_,rfl,.str s,.str y,b,rfl,lam.same sj,rfl,.ref b,s,y,B,rfl,hB.mono sj,s9,ky,fun H2 L s2 nL hL=>⟨L,rfl,⟨_,.of hL⟩,?_⟩⟩;refine Wx (xs:=(Yu B s y).map V.str) (fun l σ Hl=>∃(cs2:List (Str×V)) (v7:Option V),σ=[some (.str one),some (.ref p),some (.ref f),some (.ref D),some (.str s),some (.ref c),some (.str y),v7]∧Same H Hl∧Hl D=some (.lst (ds++[.ref d]))∧Hl d=some (.frz o (.dK (XI ks)))∧Hl c=some (.dK (XI cs2))∧Hl L=some (.lst ((Yu B s y).map V.str))∧(cs2.map (·.1)).Nodup∧∀x,x∈cs2.map (·.1)↔x∈cs.map (·.1)∨x∈(Yu B s y).take l) ?st3 ?li3 ?tu3 ?do3
   case st3=>exact ⟨cs,_,rfl,sj.trans s2,s2 _ _ hDj,s2 _ _ hdj,s2 _ _ hcj,hL,ndj,fun x=>by simp⟩
   case li3 =>
    rintro l σ Hl _ ⟨cs2,v7,rfl,_,_,_,_,hLl,_⟩;exact .of hLl
   case do3 =>
    rintro σ Hl ⟨cs2,v7,rfl,sl,hDl,hdl,hcl,hLl,ndl,meml⟩;rw [Qc,Q8] at meml;refine ⟨cs2,_,_,rfl,sl,hDl,hdl,hcl,ndl,fun x=>?_⟩;rw [meml,memj,tkj];constructor
    ·rintro (⟨z,h1,h2⟩|h)
     ·exact ⟨z,Rc _ h1,h2⟩
     ·exact ⟨y,by simp,h⟩
    ·rintro ⟨z,h1,h2⟩;rcases Ql.mp h1 with h1|h1
     ·exact .inl ⟨z,h1,h2⟩
     ·rw [show z=y by simpa using h1] at h2;exact .inr h2
   case tu3 =>
    rintro l z σ Hl hz ⟨cs2,v7,rfl,sl,hDl,hdl,hcl,hLl,ndl,meml⟩;obtain ⟨x,hx,rfl⟩:=JT hz;have tkl:(Yu B s y).take (l+1)=(Yu B s y).take l++[x]:=by rw [RZ,hx];rfl
    have inK:∀x∈cs2.map (·.1),Known B x:=fun x hx2=>by
     rcases (meml x).mp hx2 with h|h
     ·obtain ⟨z,h1,h2⟩:=(memj x).mp h;exact cl.led s s9 z (known z (Rv h1)) x h2
     ·exact cl.led s s9 y ky x (Rv h)
    have JE:(XI cs2).length≤60:=by rw [ZeM];exact Qn (Zg0 ndl fun x hx2=>cl.inp x (inK x hx2)) cl.few
    have cD:c≠D:=Dc.symm;refine ⟨_,rfl,_,rfl,_,rfl,c,_,rfl,DPut.k (k:=.inr x) hcl (ZF (by omega)),?_⟩;rw [ZjW];refine ⟨Zp cs2 x (.str y),_,rfl,fun e u h=>?_,?_,?_,Zg,?_,ZiB ndl,fun x'=>?_⟩
    ·rw [Zd (fun z=>by subst z;rw [ncH] at h;cases h)];exact sl _ _ h
    ·rw [Zd Dc];exact hDl
    ·rw [Zd dc];exact hdl
    ·rw [Zd (fun z=>by rw [z,hcl] at hLl;cases hLl)];exact hLl
    ·rw [Zij,meml,tkl,Ql,QG,or_assoc]
theorem ZkD (T:Tx K w mg) (LB:LamB base T.cc T.tb mg) (Wj:Zbr P base T) (J1:Zdz P base T) (Zd0:Zgd P base T):Zh0 P base T:=by
 refine Fun.okL (k:=5) T.hcc T.VJ.F Zj4 (fun vs H Q E h=>h.1) (fun A outer s H vs Q E hr h=>?_);obtain ⟨-,h⟩:=h;obtain ⟨v,p,x,way,B,rfl,hB,lt,hp,q⟩:=h
 refine ⟨_,(Zm (Z9 (ZS (pv 0) T.cl_Book T.Xx.me Wj (hr.mono (by decide)) T.Xx.b .nil Xb (Za (pv 2) Zb)))
   (Zi (Zx (Yi (ZeO rfl) (by rfl) T.n_sorted JM (Za (Zo Yo (Zje Zd0 (hr.mono (by decide)) (by rfl) T.V3.m T.V3.F.kp T.V3.b Zgs (i:=0) rfl rfl rfl rfl rfl (Za (pv 2) (Za (pv 1) (Za (Zkz LB rfl rfl rfl rfl) Zb)))) (V4 V2 Zh) (fun _ _=>rfl)) Zb))))),?_⟩
 obtain ⟨b,dx,k,bi,li,ti,su,rfl,hB⟩:=hB;have hv:BkHas K T.c_Book H (.ref b) B:=⟨b,dx,k,bi,li,ti,su,rfl,hB⟩;refine ⟨_,rfl,b,dx,_,rfl,hB.ob,rfl,_,rfl,rfl,.ref b,x,B,rfl,hv,?_⟩;rcases q with ⟨nb,qe⟩|⟨n,pool,rfl,kn,cl,h9,lw,q⟩
 ·rcases nb with ⟨ty,hk,ks⟩|⟨n,rfl,no⟩
  ·exact .inl ⟨ty,hk,ks,qe⟩
  ·exact .inr ⟨n,rfl,fun _=>qe,fun p hp=>by rw [no] at hp;cases hp⟩
 refine .inr ⟨n,rfl,fun no=>absurd no kn,fun pr hpr n' s' d f m ep=>?_⟩;refine ⟨_,rfl,_,rfl,lt,fun H2 f2 pm c' ctv sx ls2 lt2 nf hf hc' fr=>⟨b,rfl,fun oc noc hoc=>?_⟩⟩;obtain ⟨cc,ecc⟩:∃z,z=s.heap.objs.size+1:=⟨_,rfl⟩;rw [←ecc] at noc hf;have sc:Same H2 (Zc H2 cc (Fz oc)):=Zj noc;rw [←ecc];refine ⟨rfl,n,p,f2,b,way,B,pool,rfl,⟨cc,oc,pm,c',ctv,sc _ _ hf,sc _ _ hc',Zg,hoc⟩,sc.sqt (sx.sqt hp),h9,⟨b,dx,k,bi,li,ti,su,rfl,(hB.monoX sx).mono sc⟩,cl,kn,lw,fun H3 D3 ds d3 ks s3 nD3 hD3 hd3 nd mem=>?_⟩;have hcc3:H3 cc=some (Fz oc):=s3 _ _ Zg;have s4:Same H2 (Uk H3 cc):=fun a u e=>by rw [WZ (ZA e noc)];exact s3 _ _ (sc _ _ e)
 have known:∀x,x∈ks.map (·.1)->Known B x:=fun x hx=>ZcA (R:=Known B) cl.led h9 (fun x e=>by rw [e];exact kn) x ((mem x).mp hx);have hD4:Uk H3 cc D3=some (.lst (ds++[.ref d3])):=by rw [WZ (fun z=>by rw [z,hcc3] at hD3;cases hD3)];exact hD3
 have hd4:Uk H3 cc d3=some (.dK (XI ks)):=by rw [WZ (fun z=>by rw [z,hcc3] at hd3;cases hd3)];exact hd3
 refine ⟨1,rfl,D3,_,-1,.ref d3,rfl,rfl,.of hD4,Ze6 _ _,d3,ks,rfl,hd4,?_,fun D5 zs' nD5 hp5 hs5=>?_⟩
 ·have:=Zg0 nd fun x hx=>cl.inp x (known x hx);have:=cl.few;rw [Qc] at *;omega
 ·have s5:=s4.trans (Zj (o:=.lst (zs'.map V.str)) nD5);exact q _ D5 zs' (sx.trans s5.x) (ls2.same s5) (lt2.same s5) (fr D5 (ZX s4 nD5)) Zg ⟨Zb1 hs5,hp5.nodup_iff.mpr nd,fun x=>hp5.mem_iff.trans (mem x)⟩
theorem Zkf (T:Tx K w mg) (ZcQ:Zh0 P base T):Zet P base T:=by
 refine Fun.okX (k:=6) T.Wt.F Zol (fun vs H Q E h=>h.1) (fun cdv A outer s H vs Q E hr h=>?_);obtain ⟨-,h⟩:=h;obtain ⟨a,p,b,x,y,way,pool,B,rfl,ha,hB,hp,h9,l24,kn,clo,lam,q⟩:=h;refine ⟨_,(Zi (Zx (YM WQ (Zo Zv (pv 0) Zh (fun _ _=>rfl)) (ZO ZcQ (hr.mono (by decide)) (by rfl) T.VJ.m T.VJ.F.kp T.VJ.b .nil Zu (Za (Zo Zv (pv 0) Zh (fun _ _=>rfl)) (Za (pv 1) (Za (Zo Zv (pv 0) Zh (fun _ _=>rfl)) Zb)))) (by rfl)))),?_⟩;have a0:Yg [V.ref b,V.str x,V.str y] 0=some (.ref b):=rfl;have a1:Yg [V.ref b,V.str x,V.str y] 1=some (.str x):=rfl;have a2:Yg [V.ref b,V.str x,V.str y] 2=some (.str y):=rfl;refine ⟨_,rfl,a,_,_,_,rfl,rfl,.of ha,a2,_,rfl,a,_,_,_,rfl,rfl,.of ha,a0,_,rfl,_,rfl,a,_,_,_,rfl,rfl,.of ha,a1,rfl,.ref b,p,.str x,way,B,rfl,hB,lam,hp,.inr ⟨x,pool,rfl,kn,clo,h9,by omega,fun H' D xs sx ls lt nD hD srt=>?_⟩⟩;refine ⟨D,_,rfl,.inl (.of hD),rfl,by simp [Wi],q _ _ sx ls lt ?_⟩;show Xz (V.str y) (xs.map V.str)=true↔_;rw [Zbv,decide_eq_true_iff,srt.mem]
theorem Zo4 (T:Tx K w mg) (Jt:ZcK P base T) (Jd:Zet P base T):Zf6 P base T:=by
 refine Fun.okX (k:=8) T.Ws.F ZgR (fun vs H Q E h=>h.1) (fun cdv A outer s H vs Q E hr h=>?_);obtain ⟨-,h⟩:=h;obtain ⟨p1,p2,w1,w2,rfl,hp1,n1,l1,hp2,n2,l2,lam,lam2,q⟩:=h
 refine ⟨_,(Zm (ZP (i:=2) ZgR.nd rfl (Or.inl rfl) (ZO Jt (hr.mono (by decide)) (by rfl) T.WK.m T.WK.F.kp T.WK.b .nil Zu (Za (pv 0) Zb)))
   (Zi (Zx (ZbV (YM Zgj (pv 2) Uo (Zy _)) (XJ (ZO Jd (hr.mono (by decide)) (by rfl) T.Wt.m T.Wt.F.kp T.Wt.b .nil Zu (Za (pv 2) (Za (pv 1) Zb)))))))),?_⟩
 refine ⟨_,rfl,rfl,p1,w1,rfl,hp1,n1,l1,lam2,fun H1 sx ls lt hc=>?_,fun H1 a b B sx ls lt hc ha hB bt=>?_⟩
 ·dsimp only [ZM];exact ⟨_,rfl,rfl,_,rfl,ZY rfl (q _ true sx (ls _ _ _ _ T.ttb.symm lam) lt ⟨fun _=>.inl hc,fun _=>rfl⟩)⟩
 ·have ti:=Zah n1;have n0:0<(Z2 w1).days.length:=Rp (QV _) ti.he;dsimp only [ZM];refine ⟨_,rfl,rfl,_,rfl,Zr rfl ⟨_,rfl,_,rfl,rfl,a,p2,b,_,_,w2,_,B,rfl,ha,hB,sx.sqt hp2,n2,l2,bt.kn 0 n0,bt.clo,ls _ _ _ _ T.ttb.symm lam,fun H2 r sx2 ls2 lt2 hr=>q _ r (sx.trans sx2) lt2 (ls2 _ _ _ _ T.ttb lt) ?_⟩⟩;rw [hr,ZeP ti bt n2 n0 ti.he];unfold Xc;rw [hc];simp
theorem ZoS (T:Tx K w mg) (Za2:Zf6 P base T):Zfk P base T:=by
 refine Fun.okX (k:=9) T.VW.F Zpr (fun vs H Q E h=>h.1) (fun cdv A outer s H vs Q E hr h=>?_);obtain ⟨-,h⟩:=h;obtain ⟨p1,p2,w1,w2,rfl,hp1,n1,l1,hp2,n2,l2,lam,lam2,q⟩:=h;refine ⟨_,(Zi (Zx (X1 (ZO Za2 (hr.mono (by decide)) (by rfl) T.Ws.m T.Ws.F.kp T.Ws.b .nil Zu (Za (pv 0) (Za (pv 1) Zb))) (XJ (ZO Za2 (hr.mono (by decide)) (by rfl) T.Ws.m T.Ws.F.kp T.Ws.b .nil Zu (Za (pv 1) (Za (pv 0) Zb))))))),?_⟩;refine ⟨_,rfl,_,rfl,rfl,p1,p2,w1,w2,rfl,hp1,n1,l1,hp2,n2,l2,lam,lam2,fun H1 r sx la la2 hr=>⟨_,rfl,YW (fun e=>?_) (fun e=>?_)⟩⟩
 ·exact ⟨_,rfl,_,rfl,rfl,p2,p1,w2,w1,rfl,sx.sqt hp2,n2,l2,sx.sqt hp1,n1,l1,la,la2,fun H2 r2 sx2 la3 la4 hr2=>q _ r2 (sx.trans sx2) la3 la4 ⟨fun z=>⟨hr.mp e,hr2.mp z⟩,fun z=>hr2.mpr z.2⟩⟩
 ·exact q _ false sx la la2 ⟨fun z=>(by cases z),fun z=>by rw [hr.mpr z.1] at e;cases e⟩
theorem ZnO (T:Tx K w mg) (Jt:ZcK P base T) (Jd:Zet P base T):ZiH P base T:=by
 refine Fun.okX (k:=8) T.WS.F Zbh (fun vs H Q E h=>h.1) (fun cdv A outer s H vs Q E hr h=>?_);obtain ⟨-,h⟩:=h;obtain ⟨p1,p2,w1,w2,rfl,hp1,n1,l1,hp2,n2,l2,lam,lam2,qn,q⟩:=h
 refine ⟨_,(Zm (YJ QN rfl (VR (ZQ (Za (ZQ (Za (pv 0) (Za (pv 1) Zb))) (Za (ZQ (Za (pv 1) (Za (pv 0) Zb))) Zb)))) (Vv rfl (Yx (ZR (i:=2) Zbh.nd rfl (Or.inl rfl)) (Yx (ZR (i:=3) Zbh.nd rfl (Or.inl rfl)) X7)))
    (Zm (ZP (i:=4) Zbh.nd rfl (Or.inl rfl) (ZO Jt (hr.mono (by decide)) (by rfl) T.WK.m T.WK.F.kp T.WK.b .nil Zu (Za (pv 2) Zb)))
   (Zi (ZJ (PW.pt (Vc (ZE Zb9 (pv 4) Uo (Zy _)) (Vb (XB (YO (ZO Jd (hr.mono (by decide)) (by rfl) T.Wt.m T.Wt.F.kp T.Wt.b .nil Zu (Za (pv 4) (Za (pv 3) Zb)))))))) (Zi (Zx (pv 4))) ZV))))
   (Zi (Zx Uo))),?_⟩
 refine ⟨_,rfl,_,rfl,few rfl,fun t1 m1=>⟨_,rfl,_,rfl,few rfl,fun t2 m2=>⟨few rfl,fun t0 m0=>?_⟩⟩⟩;have g1:=Zj (o:=.tup [.ref p1,.ref p2]) m1;have g2:=Zj (o:=.tup [.ref p2,.ref p1]) m2;have g0:=Zj (o:=.tup [.ref t1,.ref t2]) m0;have g:=g1.trans (g2.trans g0);have h1:=(g2.trans g0) _ _ (Zg (H:=H) (a:=t1) (o:=.tup [.ref p1,.ref p2]));have h2:=g0 _ _ (Zg (a:=t2) (o:=.tup [.ref p2,.ref p1]));refine ⟨t0,rfl,⟨_,.of Zg⟩,UD (xs:=[.ref t1,.ref t2]) (fun k σ Hc=>∃v2 v3 v4:Option V,σ=[some (.ref p1),some (.ref p2),v2,v3,v4]∧SameX (Zc (Zc (Zc H t1 (.tup [.ref p1,.ref p2])) t2 (.tup [.ref p2,.ref p1])) t0 (.tup [.ref t1,.ref t2])) Hc∧Xg T.tb Hc∧YS T.tb2 Hc∧(1≤k->Xc w1 w2)∧(2≤k->Xc w2 w1)) ?st ?li ?tu ?dn⟩
 case st=>exact ⟨_,_,_,rfl,.refl _,lam.same g,lam2.same g,fun z=>(by omega),fun z=>(by omega)⟩
 case li =>
  rintro k σ Hc _ ⟨v2,v3,v4,rfl,sc,_⟩;exact .of (sc _ _ rfl Zg)
 case dn =>
  rintro σ Hc ⟨v2,v3,v4,rfl,sc,la,lb,i1,i2⟩;exact qn _ (g.x.trans sc) la lb (i1 (show 1≤2 by decide)) (i2 (show 2≤2 by decide))
 case tu =>
 rintro k y σ Hc hy ⟨v2,v3,v4,rfl,sc,la,lb,i1,i2⟩;have gsc:=g.x.trans sc
 obtain ⟨tt,q1,q2,w,v,rfl,htt,hq1,hq2,n9,m9,wl,vl,tw,k0,k1⟩:∃(tt q1 q2:Addr) (w v:List Str),y=.ref tt∧Hc tt=some (.tup [.ref q1,.ref q2])∧SqT K Hc q1 (w.map V.str)∧SqT K Hc q2 (v.map V.str)∧(∀s∈w,s∈Zs)∧(∀s∈v,s∈Zs)∧w.length≤24∧v.length≤24∧TwoW w1 w2 w v∧(Xc w v->1≤k+1->Xc w1 w2)∧(Xc w v->2≤k+1->Xc w2 w1):=by
  match k,hy with
  |0,hy=>exact ⟨t1,p1,p2,w1,w2,(Qj hy).symm,sc _ _ rfl h1,gsc.sqt hp1,gsc.sqt hp2,n1,n2,l1,l2,.inl ⟨rfl,rfl⟩,fun z _=>z,fun _ z=>(by omega)⟩
  |1,hy=>exact ⟨t2,p2,p1,w2,w1,(Qj hy).symm,sc _ _ rfl h2,gsc.sqt hp2,gsc.sqt hp1,n2,n1,l2,l1,.inr ⟨rfl,rfl⟩,fun _ _=>i1 (by decide),fun z _=>z⟩
  |k+2,hy=>cases hy
 refine ⟨tt,_,rfl,.of htt,rfl,_,_,rfl,_,_,rfl,rfl,?_⟩;dsimp only;refine ⟨_,rfl,rfl,q1,w,rfl,hq1,n9,wl,lb,fun H1 sx ls lt hc=>?_,fun H1 a b B sx ls lt hc ha hB bt=>?_⟩
 ·dsimp only [ZM];exact ⟨_,rfl,rfl,_,rfl,Zr rfl (Z0 ⟨_,_,_,rfl,sc.trans sx,ls _ _ _ _ T.ttb.symm la,lt,k0 (.inl hc),k1 (.inl hc)⟩)⟩
 ·have ti:=Zah n9;have n0:0<(Z2 w).days.length:=Rp (QV _) ti.he;dsimp only [ZM];refine ⟨_,rfl,rfl,_,rfl,ZY rfl ⟨_,rfl,_,rfl,rfl,a,q2,b,_,_,v,_,B,rfl,ha,hB,sx.sqt hq2,m9,vl,bt.kn 0 n0,bt.clo,ls _ _ _ _ T.ttb.symm la,fun H2 r sx2 ls2 lt2 hr=>⟨_,rfl,?_⟩⟩⟩;rw [ZeP ti bt m9 n0 ti.he] at hr;have lt3:=ls2 _ _ _ _ T.ttb lt;cases r with
  |true=>exact Z0 ⟨_,_,_,rfl,sc.trans (sx.trans sx2),lt2,lt3,k0 (.inr (hr.mp rfl)),k1 (.inr (hr.mp rfl))⟩
  |false =>
   obtain ⟨b',dx,kk,bi,li,ti',su,e0,hB0⟩:=hB
   exact Z4 ⟨_,rfl,q _ a b B w v (gsc.trans (sx.trans sx2)) lt2 lt3 tw hc (fun z=>by
    rcases z with z|z
    ·rw [hc] at z;cases z
    ·cases hr.mpr z) (sx2 _ _ rfl ha) ⟨b',dx,kk,bi,li,ti',su,e0,hB0.monoX sx2⟩ bt⟩
theorem ZlE (T:Tx K w mg)  : ZdS P base T:=by
 refine Fun.okX (k:=0) T.WU.F WP (fun vs H Q E h=>h.1) (fun cdv A outer s H vs Q E hr h=>?_);obtain ⟨-,h⟩:=h;obtain ⟨l,cs,rfl,hl,l12,q⟩:=h
 refine ⟨_,(Zm (ZP (i:=1) WP.nd rfl (Or.inl rfl) (YD Zb))
   (Zm (ZP (i:=2) WP.nd rfl (Or.inl rfl) Zk)
   (Zm (YJ QN rfl (Y2 (pv 0)) (ZR (i:=3) WP.nd rfl (Or.inl rfl))
    (Zm (ZP (i:=4) WP.nd rfl (Or.inl rfl) (Zo Yo (YD (Za Zk (Za Zk (Za Zk (Za Zk (Za Zk (Za Zk (Za Zk (Za Zk (Za Zk Zb)))))))))) (Z1 Wd (Z1 ZbA (pv 3) Zh) Zh) (fun _ _=>rfl)))
   (Zm (ZP (i:=5) WP.nd rfl (Or.inl rfl) (Zo Yo (Z1 Za1 (YD (Za Zk Zb)) (pv 1)) (V4 V2 Zh) (fun _ _=>rfl)))
   (Zm (ZJ (PW.pt (Xy (ZE Z3 (Z1 Wd (pv 3) Zh) Zh (Zy _)) (W0 (PW.pt (Vc (ZE Z3 (Z1 Wd (pv 3) Zh) Zh (Zy _)) (Vb (ZE WQ (pv 5) (ZQ (Za Zk (Za Zk Zb))) (by rfl)))))))) (Zi (ZP (i:=4) WP.nd rfl (Or.inl rfl) (Vh (Yk hr) (UC (YB Zk Zk (YB Zk Zk (YB Zk Zk (YB Zk Zk (YB Zk Zk (YB Zk Zk (YB Zk (pv 4) Uu))))))) rfl rfl (by simp) (by decide)) (pv 5) (pv 5) ⟨rfl,rfl,rfl,rfl⟩))) ZV)
   (Zm (ZJ (PW.pt (Vc (ZE WF (Z1 Wd (Z1 ZbA (pv 3) Zh) Zh) Zh (Zy _)) (Vb (ZE Z3 (pv 2) Zk (Zy _))))) (Zi (ZP (i:=4) WP.nd rfl (Or.inl rfl) (Vh (Yk hr) (UC (YB Zk Zk (YB Zk Zk Uu)) rfl rfl (by simp) (by decide)) (pv 4) (pv 4) ⟨rfl,rfl,rfl,rfl⟩))) ZV)
   (Zm (ZJ (PW.pt (Vc (ZE WF (Z1 Wd (Z1 ZbA (pv 3) Zh) Zh) Zh (Zy _)) (Vb (ZE Z3 (pv 2) Zk (Zy _))))) (Zi (ZP (i:=4) WP.nd rfl (Or.inl rfl) (Vh (Yk hr) (UC (YB Zk Zk (YB Zk Zk Uu)) rfl rfl (by simp) (by decide)) (pv 4) (pv 4) ⟨rfl,rfl,rfl,rfl⟩))) ZV)
   (Zm (Z9 (Xd Q0 Rk Rl X6 (pv 1) (Za (pv 4) Zb)))
   (Zi (ZP (i:=2) WP.nd rfl (Or.inl rfl) (Vh (Yk hr) (UC (YB Zk Zk (YB Zk Zk (YB Zk Zk (YB Zk Zk Uu)))) rfl rfl (by simp) (by decide)) (pv 4) Zk ⟨rfl,rfl,rfl,rfl⟩))))))))))
   (Zi (Zx (Zar Zl8 (by rfl) T.n_tuple ZdD (Za (pv 1) Zb))))))),?_⟩
 refine ⟨few rfl,fun Lw nLw=>?_⟩;have e1:=Zj (o:=.lst []) nLw;refine ⟨_,rfl,l,rfl,⟨_,e1.sql hl⟩,Wx (xs:=cs.map V.int) (fun i σ Hc=>∃(way:List Str) (so:Str) (v3 v4 v5:Option V),σ=[some (.ref l),some (.ref Lw),some (.str so),v3,v4,v5]∧Same H Hc∧Hc Lw=some (.lst (way.map V.str))∧(∀s∈way,s∈Zs)∧way.length=i) ?st ?li ?tu ?dn⟩
 case st=>exact ⟨[],"",_,_,_,rfl,e1,Zg,fun s hs=>(by cases hs),rfl⟩
 case li =>
  rintro i σ Hc _ ⟨way,so,v3,v4,v5,rfl,sc,_⟩;exact sc.sql hl
 case dn =>
  rintro σ Hc ⟨way,so,v3,v4,v5,rfl,sc,hLw,w9,wl⟩;rw [Qc] at wl;exact ⟨_,rfl,Lw,_,rfl,.inl ⟨.of hLw,fun p np=>q _ p way (sc.trans (Zj np)) (.of Zg) w9 wl⟩⟩
 case tu =>
 rintro i y σ Hc hy ⟨way,so,v3,v4,v5,rfl,sc,hLw,w9,wl⟩
 obtain ⟨c,rfl⟩:∃c:Int,y=.int c:=by
  rw [Qo] at hy;obtain ⟨z,_,e⟩:=QF.mp hy;exact ⟨z,e.symm⟩
 have il:i<12:=by have:=(QE.mp hy).1;rw [Qc] at this;omega
 obtain ⟨s0,m0,a0⟩:=Zfg (c.fdiv 3);obtain ⟨la,hla,ala⟩:=ZjY way;have la9:la=""∨la∈Zs:=hla.imp id (w9 la);have b3:(3:Int)≠0∧(3:Int).natAbs<2 ^ 1000:=⟨by decide,ZcD (by decide) (by decide)⟩;have b27:(27:Int)≠0∧(27:Int).natAbs<2 ^ 1000:=⟨by decide,ZcD (by decide) (by decide)⟩;dsimp only [ZM];refine ⟨few rfl,fun p1 n1=>⟨_,rfl,_,_,rfl,rfl,b3,_,_,rfl,rfl,US (by decide),p1,_,_,_,rfl,rfl,.of Zg,a0,?_⟩⟩;refine ⟨few rfl,fun p2 n2=>?_⟩;have s2:=(Zj (o:=.lst (Zs.map V.str)) n1).trans (Zj (o:=.lst [V.str ""]) n2);refine ⟨_,rfl,p2,Lw,_,_,rfl,rfl,Zg,s2 _ _ hLw,QO (ZF (by rw [Qc,wl];simp;omega)),fun p3 n3=>⟨_,rfl,p3,_,_,_,rfl,rfl,.of Zg,ala,?_⟩⟩;have s3:=s2.trans (Zj (o:=.lst ([V.str ""]++way.map V.str)) n3);dsimp only [ZM];refine Ww (fun σ Hx=>∃st∈Zs,Same Hc Hx∧σ=[some (.ref l),some (.ref Lw),some (.str so),some (.int c),some (.str st),some (.str la)]) (fun nx rest=>?_) ?_
 ·refine ⟨_,rfl,_,_,rfl,rfl,US (by decide),rfl,_,rfl,YW (fun h1=>Z4 ?_) (fun h1=>⟨_,rfl,_,_,rfl,rfl,US (by decide),rfl,_,rfl,YW (fun h2=>⟨_,rfl,few rfl,fun p4 n4=>⟨p4,_,rfl,.inr (.of Zg),rfl,rfl,_,rfl,YW (fun h3=>?_) (fun h3=>?_)⟩⟩) (fun h2=>Z0 ?_)⟩)⟩
  ·obtain ⟨z,mz,ez⟩:=Zfw m0 la9;refine U4 (kvF s0) (fun _ _ h=>⟨_,rfl,h⟩) (show 7≤15 by decide) fun p5 H5 s5 h5=>⟨_,rfl,_,rfl,_,DGet.k (k:=.inr la) h5,?_⟩;rw [ez];exact rest _ _ ⟨z,mz,s3.trans s5,rfl⟩
  ·obtain ⟨z,mz,ez⟩:=Zfw m0 la9;refine U4 (kvF s0) (fun _ _ h=>⟨_,rfl,h⟩) (show 7≤15 by decide) fun p5 H5 s5 h5=>⟨_,rfl,_,rfl,_,DGet.k (k:=.inr la) h5,?_⟩;rw [ez];exact rest _ _ ⟨z,mz,(s3.trans (Zj n4)).trans s5,rfl⟩
  ·exact rest _ _ ⟨s0,m0,s3.trans (Zj n4),rfl⟩
  ·exact rest _ _ ⟨s0,m0,s3,rfl⟩
 rintro σ Hx ⟨st,m1,sx,rfl⟩;refine Ww (fun σ Hy=>∃st∈Zs,Same Hc Hy∧σ=[some (.ref l),some (.ref Lw),some (.str so),some (.int c),some (.str st),some (.str la)]) (fun nx rest=>?_) ?_
 ·refine ⟨_,rfl,_,_,rfl,rfl,b27,_,_,rfl,rfl,US (by decide),rfl,_,rfl,YW (fun h1=>⟨_,rfl,rfl,_,rfl,YW (fun h2=>?_) (fun h2=>rest _ _ ⟨st,m1,sx,rfl⟩)⟩) (fun h1=>Z0 (rest _ _ ⟨st,m1,sx,rfl⟩))⟩;obtain ⟨z,mz,ez⟩:=Zlw m1;refine U4 kvH (fun _ _ h=>h) (by decide) fun p5 H5 s5 h5=>⟨_,rfl,_,rfl,_,DGet.k (k:=.inr st) h5,?_⟩;rw [ez];exact rest _ _ ⟨z,mz,sx.trans s5,rfl⟩
 clear sx m1;rintro σ Hy ⟨st,m1,sx,rfl⟩;refine Ww (fun σ Hz=>∃st∈Zs,Same Hc Hz∧σ=[some (.ref l),some (.ref Lw),some (.str so),some (.int c),some (.str st),some (.str la)]) (fun nx rest=>?_) ?_
 ·refine ⟨_,rfl,_,_,rfl,rfl,b27,_,_,rfl,rfl,US (by decide),rfl,_,rfl,YW (fun h1=>⟨_,rfl,rfl,_,rfl,YW (fun h2=>?_) (fun h2=>rest _ _ ⟨st,m1,sx,rfl⟩)⟩) (fun h1=>Z0 (rest _ _ ⟨st,m1,sx,rfl⟩))⟩;obtain ⟨z,mz,ez⟩:=ZkX m1;refine U4 kvS (fun _ _ h=>h) (by decide) fun p5 H5 s5 h5=>⟨_,rfl,_,rfl,_,DGet.k (k:=.inr st) h5,?_⟩;rw [ez];exact rest _ _ ⟨z,mz,sx.trans s5,rfl⟩
 clear sx m1;rintro σ Hz ⟨st,m1,sx,rfl⟩;have hLz:=sx _ _ hLw;have scz:=sc.trans sx;refine ⟨_,rfl,.inl ⟨rfl,_,.of hLz⟩,_,rfl,Lw,_,_,rfl,rfl,hLz,ZF (by rw [Qc];omega),?_⟩;dsimp only [JK];refine U4 kvN (fun _ _ h=>h) (by decide) fun p5 H5 s5 h5=>⟨_,rfl,_,DGet.k (k:=.inr st) h5,?_⟩;rw [ZiV m1];refine ⟨way++[st],_,_,_,_,rfl,fun a u e=>s5 _ _ (by rw [Zd (fun z=>by rw [z,nLw] at e;cases e)];exact scz _ _ e),s5 _ _ (by rw [Zg,Qv];rfl),fun s hs=>?_,by rw [Qq,wl];rfl⟩;rcases Ql.mp hs with hs|hs
 ·exact w9 s hs
 ·rw [show s=st by simpa using hs];exact m1
theorem Zoo (T:Tx K w mg)  : Ziw P base T:=by
 refine Fun.okX (k:=0) T.V6.F Zbo (fun vs H Q E h=>h.1) (fun cdv A outer s H vs Q E hr h=>?_);obtain ⟨-,h⟩:=h;obtain ⟨a,s,i,L,rfl,hL,ok,s9,il,q⟩:=h
 refine ⟨_,(Zm (Ziz (pv 0) (Vv rfl (Yx (ZR (i:=3) Zbo.nd rfl (Or.inr rfl)) (Yx (ZR (i:=4) Zbo.nd rfl (Or.inl rfl)) (Yx (ZR (i:=5) Zbo.nd rfl (Or.inl rfl)) X7)))))
   (Zm (ZJ (ZE WQ (pv 1) (ZQ (Za Zk (Za Zk Zb))) (by rfl)) (Zi (Zx (Z1 Zm3 (YD (Za (pv 2) Zb)) (Zar ZdW (by rfl) T.n_int ZaC (Za (YM Z3 (Zo Zv (Zo Yo (pv 3) (pv 2) (fun _ _=>rfl)) Zh (fun _ _=>rfl)) (pv 1) (Zy _)) Zb))))) ZV)
   (Zm (ZJ (ZE WQ (pv 1) (ZQ (Za Zk (Za Zk Zb))) (by rfl)) (Zi (Zx (X9 rfl (Wm (N:=["_law_high"]) [] [none] rfl (by trivial) (by trivial) (by rfl) (by rfl) (by rfl) (by rfl) (by rfl)) (Y2 (YD (Za (Zo Zv (Zo Yo (pv 3) (pv 2) (fun _ _=>rfl)) (Z1 Ve Zh (Zar ZdW (by rfl) T.n_int ZaC (Za (YM Z3 (pv 1) Zk (Zy _)) Zb))) (fun _ _=>rfl)) Zb))) (fun _ _ _=>(ZR (i:=0) Zkw rfl (Or.inl rfl))) (fun _ _ _=>(Vl (ZE UR (pv 0) Zh (Zy _)))) (fun _ _ _=>(pv 0))))) ZV)
   (Zm (ZJ (ZE WQ (pv 1) (ZQ (Za Zk (Za Zk Zb))) (by rfl)) (Zi (Zx (X9 rfl (Wm (N:=["_law_k","_law_one","_law_people","_law_step_here"]) ["_law_step_here","_law_people","_law_one"] [none,some 2,some 3,some 1] rfl (by trivial) (by trivial) (by rfl) (by rfl) (by rfl) (by rfl) (by rfl)) (ZcY (by rfl) T.n_range (Za (Yi XR (by rfl) T.n_len Xa (Za (pv 3) Zb)) Zb)) (fun _ _ _=>(ZR (i:=0) ZkP rfl (Or.inl rfl))) (fun _ _ _=>(Vl (ZE Z3 (Zo (ZjV K rfl) (Zo (ZjQ K rfl) (pv 2) (pv 0) (fun _ _=>rfl)) (Z1 Ve Zh (Zar ZdW (by rfl) T.n_int ZaC (Za (YM Z3 (pv 3) Zk (Zy _)) Zb))) (fun _ _=>rfl)) (pv 1) (Zy _)))) (fun _ _ _=>(pv 0))))) ZV)
   (Zm (ZJ (ZE Z3 (pv 1) Zk (Zy _)) (Zi (Zx (X9 rfl (Wm (N:=["_law_low","_law_high","_law_one"]) ["_law_one"] [none,none,some 2] rfl (by trivial) (by trivial) (by rfl) (by rfl) (by rfl) (by rfl) (by rfl)) (Y2 (pv 4)) (fun _ _ _=>(J7 (n:=2) K rfl (Yx (ZR (i:=0) Zbd rfl (Or.inl rfl)) (Yx (ZR (i:=1) Zbd rfl (Or.inl rfl)) X7)))) (fun _ _ _=>(Vl (ZE Z3 (pv 0) (pv 2) (Zy _)))) (fun _ _ _=>(pv 1))))) ZV)
   (Zm (ZJ (ZE Z3 (pv 1) Zk (Zy _)) (Zi (Zx (X9 rfl (Wm (N:=["_law_low","_law_high","_law_one"]) ["_law_one"] [none,none,some 2] rfl (by trivial) (by trivial) (by rfl) (by rfl) (by rfl) (by rfl) (by rfl)) (Y2 (pv 4)) (fun _ _ _=>(J7 (n:=2) K rfl (Yx (ZR (i:=0) Zbd rfl (Or.inl rfl)) (Yx (ZR (i:=1) Zbd rfl (Or.inl rfl)) X7)))) (fun _ _ _=>(Vl (ZE Z3 (pv 1) (pv 2) (Zy _)))) (fun _ _ _=>(pv 0))))) ZV)
   (Zi (Zx (Z1 Za1 (X9 rfl (Wm (N:=["_law_a","_law_b","_law_one"]) ["_law_one"] [none,none,some 2] rfl (by trivial) (by trivial) (by rfl) (by rfl) (by rfl) (by rfl) (by rfl)) (Y2 (pv 5)) (fun _ _ _=>(J7 (n:=2) K rfl (Yx (ZR (i:=0) ZaU rfl (Or.inl rfl)) (Yx (ZR (i:=1) ZaU rfl (Or.inl rfl)) X7)))) (fun _ _ _=>(Vl (ZE Z3 (pv 0) (pv 2) (Zy _)))) (fun _ _ _=>(pv 1))) (X9 rfl (Wm (N:=["_law_a","_law_b","_law_one"]) ["_law_one"] [none,none,some 2] rfl (by trivial) (by trivial) (by rfl) (by rfl) (by rfl) (by rfl) (by rfl)) (Y2 (pv 5)) (fun _ _ _=>(J7 (n:=2) K rfl (Yx (ZR (i:=0) ZaU rfl (Or.inl rfl)) (Yx (ZR (i:=1) ZaU rfl (Or.inl rfl)) X7)))) (fun _ _ _=>(Vl (ZE Z3 (pv 1) (pv 2) (Zy _)))) (fun _ _ _=>(pv 0)))))))))))),?_⟩
 obtain ⟨P,T',U,h0,hP,hT,hU⟩:=hL;obtain ⟨ps,hPl,lP,eP⟩:=id hP;obtain ⟨p,hp⟩:∃p,L.pe[i]?=some p:=⟨_,Qs il⟩;obtain ⟨ai,hai⟩:∃a,ps[i]?=some a:=⟨_,Qs (by omega)⟩;have esi:L.so i=p.1:=by unfold Ld.so;rw [hp];rfl
 have sqi:=eP i ai p hai hp;have pat:Yg (ps.map V.ref) (i:Int)=some (.ref ai):=XY (by rw [Qo,hai];rfl);refine ⟨_,rfl,a,_,rfl,h0,rfl,_,_,rfl,_,_,rfl,_,_,rfl,rfl,?_⟩;dsimp only [ZM];refine ⟨_,rfl,few rfl,fun t1 m1=>⟨t1,_,rfl,.inr (.of Zg),rfl,rfl,_,rfl,?_⟩⟩;have g1:=Zj (o:=.tup [.str "he",.str "she"]) m1;rcases Ua s9 with c|c|c|c|c|c
 ·refine ZY (by rcases c with rfl|rfl<;>decide) ⟨_,rfl,few rfl,fun D1 n1=>?_⟩;have g2:=g1.trans (Zj (o:=.lst [.int i]) n1);refine ⟨_,rfl,_,rfl,P,_,_,_,rfl,rfl,g2.sql hPl,pat,ai,_,_,_,rfl,rfl,g2.sqt sqi,rfl,_,rfl,rfl,.inr ⟨_,rfl,D1,_,_,rfl,rfl,Zg,?_⟩⟩;by_cases e:p.1=s
  ·rw [show decide (V.str p.1=V.str s)=true by simp [e]];exact ⟨by decide,by decide,few rfl,fun D nD=>q _ D [i] (g2.trans (Zj nD)) (ZX g2 nD) Zg (fun j=>by rw [ZaJ c,esi];simp [e];omega) (by simp)⟩
  ·rw [show decide (V.str p.1=V.str s)=false by simp [e]];exact ⟨by decide,by decide,few rfl,fun D nD=>q _ D [] (g2.trans (Zj nD)) (ZX g2 nD) Zg (fun j=>by rw [ZaJ c,esi];simp [e]) (by simp)⟩
 ·refine Zr (by rcases c with rfl|rfl<;>decide) ⟨_,rfl,few rfl,fun t2 m2=>⟨t2,_,rfl,.inr (.of Zg),rfl,rfl,_,rfl,ZY (by rcases c with rfl|rfl<;>decide) ?_⟩⟩;have g2:=g1.trans (Zj (o:=.tup [.str "F",.str "M"]) m2)
  have aup:Yg [V.str p.1,.int p.2.1,.int p.2.2] (1+(if decide (V.str s=V.str "M")=true then 1 else 0))=some (.int (L.up s i)):=by
   unfold Ld.up;rw [hp];rcases c with rfl|rfl<;>rfl
  refine ⟨_,rfl,_,rfl,P,_,_,_,rfl,rfl,g2.sql hPl,pat,_,rfl,rfl,.inr ⟨_,rfl,_,_,rfl,rfl,ai,_,_,_,rfl,rfl,g2.sqt sqi,aup,few rfl,fun D1 n1=>⟨D1,rfl,⟨_,.of Zg⟩,V9 [if 0≤L.up s i then some (.int (L.up s i)) else none] (ZF (by simp)) (fun σ=>∃v,σ=[v]) ⟨none,rfl⟩ (fun j H4 hj sm=>?go) (fun H4 sm=>?stop) (fun j σ H4 x H5 z hz hσ sm hx C hC=>?step) (fun D5 H5 nD5 s5 hD5=>?fin)⟩⟩⟩
  case go=>exact ⟨_,_,sm.sql (.of Zg),Qs (by exact hj)⟩
  case stop=>exact ⟨_,sm.sql (.of Zg),Qe _⟩
  case step =>
   obtain ⟨v,rfl⟩:=hσ;obtain ⟨rfl,hx2⟩:=hx;have ex:=hx2 _ (sm.sql (.of Zg));have j0:j=0:=by have:=(QE.mp hz).1;simp at this;omega
   subst j0;obtain rfl:=Qj ex;obtain rfl:=Qj hz;refine ⟨_,rfl,_,_,rfl,rfl,_,rfl,?_⟩;by_cases e:0≤L.up s i
   ·rw [Qb e] at hC;exact ZY (Qu e) ⟨_,rfl,hC _ _ ⟨_,rfl⟩ (.refl _)⟩
   ·rw [Qa e] at hC;exact Zr (Qr e) (hC _ _ ⟨_,rfl⟩ (.refl _))
  case fin =>
   have g3:=g2.trans (Zj (o:=.lst [.int (L.up s i)]) n1);by_cases e:0≤L.up s i
   ·rw [Qb e] at hD5;exact q _ D5 [(L.up s i).toNat] (g3.trans s5) (ZX g3 nD5) (by rw [hD5];simp [Int.toNat_of_nonneg e]) (fun j=>by rw [Zbl c];simp;omega) (by simp)
   ·rw [Qa e] at hD5;exact q _ D5 [] (g3.trans s5) (ZX g3 nD5) (by rw [hD5];rfl) (fun j=>by rw [Zbl c];simp;omega) (by simp)
 all_goals refine Zr (by first|(subst c;decide)|(rcases c with rfl|rfl<;>decide)) ⟨_,rfl,few rfl,fun t2 m2=>⟨t2,_,rfl,.inr (.of Zg),rfl,rfl,_,rfl,Zr (by first|(subst c;decide)|(rcases c with rfl|rfl<;>decide)) ⟨_,rfl,few rfl,fun t3 m3=>⟨t3,_,rfl,.inr (.of Zg),rfl,rfl,_,rfl,?_⟩⟩⟩⟩
 all_goals have g3:=(g1.trans (Zj (o:=.tup [.str "F",.str "M"]) m2)).trans (Zj (o:=.tup [.str "f",.str "m"]) m3)
 ·refine ZY (by rcases c with rfl|rfl<;>decide) ⟨_,rfl,P,_,rfl,.inl (g3.sql hPl),_,rfl,by omega,by rw [Qc];have:=ok.n6;omega,V9 ((List.range L.pe.length).map fun k=>if L.up (ZG s) k=i then some (.int k) else none) (ZF (by rw [Qc,QW];have:=ok.n6;omega)) (fun σ=>∃v,σ=[v,some (.int i),some (.ref P),some (.str s)]) ⟨none,rfl⟩ (fun j H4 hj sm=>?go) (fun H4 sm=>?stop) (fun j σ H4 x H5 z hz hσ sm hx C hC=>?step) (fun D5 H5 nD5 s5 hD5=>?fin)⟩
  case go=>show j<_;rw [Qc,QW] at hj;rw [Qc];omega
  case stop=>show _≤_;rw [Qc,Qc,QW];omega
  case step =>
   obtain ⟨v,rfl⟩:=hσ;obtain ⟨rfl,rfl⟩:=hx;have jl:=(QE.mp hz).1;rw [Qc,QW] at jl;rw [Qo,GZ jl] at hz;obtain rfl:=Qj hz;obtain ⟨pj,hpj⟩:∃p,L.pe[j]?=some p:=⟨_,Qs jl⟩;obtain ⟨aj,haj⟩:∃a,ps[j]?=some a:=⟨_,Qs (by omega)⟩
   have aup:Yg [V.str pj.1,.int pj.2.1,.int pj.2.2] (1+(if decide (V.str s=V.str "m")=true then 1 else 0))=some (.int (L.up (ZG s) j)):=by
    unfold Ld.up;rw [hpj];rcases c with rfl|rfl<;>rfl
   rw [show (0:Int)+(j:Int)=j from Int.zero_add _];have g4:=g3.trans sm;refine ⟨_,rfl,_,rfl,P,_,_,_,rfl,rfl,g4.sql hPl,XY (by rw [Qo,haj];rfl),_,rfl,rfl,.inr ⟨_,rfl,_,_,rfl,rfl,aj,_,_,_,rfl,rfl,g4.sqt (eP j aj pj haj hpj),aup,_,rfl,rfl,_,rfl,?_⟩⟩;dsimp only at hC;by_cases e:L.up (ZG s) j=i
   ·rw [Qb e] at hC;exact ZY (by simp [e]) ⟨_,rfl,hC _ _ ⟨_,rfl⟩ (.refl _)⟩
   ·rw [Qa e] at hC;exact Zr (by simp [e]) (hC _ _ ⟨_,rfl⟩ (.refl _))
  case fin =>
   refine q _ D5 ((List.range L.pe.length).filterMap fun k=>if L.up (ZG s) k=i then some k else none) (g3.trans s5) (ZX g3 nD5) ?_ (fun j=>?_) ?_
   ·rw [hD5,RB,Gy]
    congr 3
    funext k
    simp only [Function.comp,id];by_cases e:L.up (ZG s) k=i<;>simp [e]
   ·rw [Zed c,Ra];constructor
    ·rintro ⟨k,_,e⟩;by_cases e2:L.up (ZG s) k=i
     ·rw [Qb e2] at e;rw [←Qj e];exact e2
     ·rw [Qa e2] at e;cases e
    ·exact fun e=>⟨j,R1.mpr (Zbu e),Qb e⟩
   ·have:=Rr (fun k=>if L.up (ZG s) k=i then some k else none) (List.range L.pe.length);rw [QW] at this;have:=ok.n6;omega
 all_goals have t5:=ok.t5
 all_goals have u5:=ok.u5
 ·subst c;refine Zr (by decide) ⟨_,rfl,rfl,_,rfl,ZY (by decide) (Zhb (hT.mono g3.x) (by omega) rfl rfl fun D5 H5 nD5 s5 hD5=>q _ D5 _ (g3.trans s5) (ZX g3 nD5) hD5 (fun j=>?_) ?_)⟩
  ·rw [Zd2];exact ZhV
  ·exact Qn (Rr _ _) (by omega)
 ·subst c;refine Zr (by decide) ⟨_,rfl,rfl,_,rfl,Zr (by decide) ⟨_,rfl,rfl,_,rfl,ZY (by decide) (ZeV (hT.mono g3.x) (by omega) rfl rfl fun D5 H5 nD5 s5 hD5=>q _ D5 _ (g3.trans s5) (ZX g3 nD5) hD5 (fun j=>?_) ?_)⟩⟩
  ·rw [ZbN];exact ZeY
  ·exact Qn (Rr _ _) (by omega)
 ·subst c;refine Zr (by decide) ⟨_,rfl,rfl,_,rfl,Zr (by decide) ⟨_,rfl,rfl,_,rfl,Zr (by decide) (Zhb (hU.mono g3.x) (by omega) rfl rfl fun D5 H5 nD5 s5 hD5=>ZeV (hU.mono (g3.trans s5).x) (by omega) rfl rfl fun D6 H6 nD6 s6 hD6=>⟨D5,D6,_,_,rfl,rfl,s6 _ _ hD5,hD6,?_,fun D nD=>q _ D _ ((g3.trans (s5.trans s6)).trans (Zj nD)) (ZX (g3.trans (s5.trans s6)) nD) (by rw [Zg,←Qv]) (fun j=>?_) ?_⟩)⟩⟩
  ·have a1:=Rr (fun p:Nat×Nat=>if p.1=i then some p.2 else none) L.un;have a2:=Rr (fun p:Nat×Nat=>if p.2=i then some p.1 else none) L.un;rw [Qc,Qc];exact QO (ZF (by omega))
  ·rw [ZdY,Ql];exact Gi ZhV ZeY
  ·have a1:=Rr (fun p:Nat×Nat=>if p.1=i then some p.2 else none) L.un;have a2:=Rr (fun p:Nat×Nat=>if p.2=i then some p.1 else none) L.un;rw [Qq];omega
theorem Zpp (T:Tx K w mg) (Zcd:Ziw P base T):Zfc P base T:=by
 refine Fun.okX (k:=1) T.WV.F VY (fun vs H Q E h=>h.1) (fun cdv A outer s H vs Q E hr h=>?_);obtain ⟨-,h⟩:=h;obtain ⟨a,p,way,i0,L,rfl,hL,ok,hp,h9,l24,i0l,q⟩:=h
 refine ⟨_,(Zm (ZP (i:=3) VY.nd rfl (Or.inl rfl) (UC (YB (pv 2) Xu Uu) rfl rfl (by simp) (by decide)))
   (Zm (YJ QN rfl (VR (pv 1)) (ZR (i:=4) VY.nd rfl (Or.inl rfl))
    (Zm (ZP (i:=5) VY.nd rfl (Or.inl rfl) JS)
   (Zm (Zch (YJ QN rfl (Zdr (pv 3)) (ZR (i:=6) VY.nd rfl (Or.inl rfl))
    (Zi (YJ QN rfl (Y2 (ZO Zcd (hr.mono (by decide)) (by rfl) T.V6.m T.V6.F.kp T.V6.b .nil Zu (Za (pv 0) (Za (pv 4) (Za (pv 6) Zb))))) (ZR (i:=7) VY.nd rfl (Or.inl rfl))
    (Zi (WB (Yk hr) (pv 5) (pv 7) Xu rfl))))))
   (Zi (ZP (i:=3) VY.nd rfl (Or.inl rfl) (pv 5))))))
   (Zi (Zx (pv 3))))),?_⟩
 refine fun d0 nd0=>⟨_,rfl,Zg,[(.inl (i0:Int),.bl true)],rfl,Qy rfl,?_⟩
 have sA:Same H (Zc (Zc H d0 (.dK [])) d0 (.dK (XO [] [(.inl (i0:Int),.bl true)]))):=fun c o e=>by
  rw [Zd (ZA e nd0),Zd (ZA e nd0)];exact e
 dsimp only [ZM];refine ⟨_,rfl,p,rfl,⟨_,sA.sqt hp⟩,UD (xs:=way.map V.str) (fun i σ Hc=>∃(d:Addr) (ks:List (Nat×V)) (v4 v5 v6 v7:Option V),σ=[some (.ref a),some (.ref p),some (.int i0),some (.ref d),v4,v5,v6,v7]∧Same H Hc∧H d=none∧Hc d=some (.dK (Xk ks))∧(ks.map (·.1)).Nodup∧∀x,x∈ks.map (·.1)↔WT (RL L) (way.take i) i0 x) ?start ?list ?turn ?done⟩
 case start=>exact ⟨d0,[(i0,.bl true)],_,_,_,_,rfl,sA,nd0,Zg,by simp,fun x=>by simp [WT];exact eq_comm⟩
 case list =>
  rintro i σ Hc _ ⟨d,ks,v4,v5,v6,v7,rfl,sc,_⟩;exact sc.sqt hp
 case done =>
  rintro σ Hc ⟨d,ks,v4,v5,v6,v7,rfl,sc,nd,hd,kd,mem⟩;rw [Qc,Q8] at mem;exact ⟨_,rfl,q Hc d ks sc nd hd kd mem⟩
 case turn =>
  rintro i y σ Hc hy ⟨d,ks,v4,v5,v6,v7,rfl,sc,nd,hd,kd,mem⟩;obtain ⟨s,hs,rfl⟩:=JT hy;have il:=(QE.mp hs).1;have s9:=h9 s (QL hs);have tk:way.take (i+1)=way.take i++[s]:=by rw [Gc,hs];rfl
  have known:∀x,x∈ks.map (·.1)->x<L.pe.length:=fun x hx=>ZgO ok (fun t ht=>h9 t (Rv ht)) i0l ((mem x).mp hx);refine fun c nc=>?_;have ncH:=ZX sc nc;have s1:=Zj (o:=.dK []) nc;have dc:d≠c:=ZA hd nc;refine ⟨d,Xk ks,s1 _ _ hd,_,rfl,d,Xk ks,rfl,s1 _ _ hd,fun o=>?_⟩;refine ZhQ (kvs:=Xk ks) (fun j σ Hj=>∃(cs:List (Nat×V)) (v6 v7:Option V),σ=[some (.ref a),some (.ref p),some (.int i0),some (.ref d),some (.str s),some (.ref c),v6,v7]∧Same H Hj∧Hj d=some (.frz o (.dK (Xk ks)))∧Hj c=some (.dK (Xk cs))∧(cs.map (·.1)).Nodup∧∀x,x∈cs.map (·.1)↔∃y,y∈(ks.map (·.1)).take j∧RL L s y x) ?st2 ?li2 ?tu2 ?do2
  case st2=>exact ⟨[],_,_,rfl,fun e u h=>by rw [Zd (fun z=>by subst z;rw [nd] at h;cases h),Zd (fun z=>by subst z;rw [ncH] at h;cases h)];exact sc _ _ h,Zg,by rw [Zd dc.symm];exact Zg,by simp,fun x=>by simp⟩
  case li2 =>
   rintro j σ Hj _ ⟨cs,v6,v7,rfl,sj,hdj,_⟩;exact hdj
  case do2 =>
   rintro σ Hj ⟨cs,v6,v7,rfl,sj,hdj,hcj,ndj,memj⟩;rw [ZgH,Q8] at memj;refine ⟨o,hdj,?_⟩;refine ⟨_,rfl,c,cs,_,_,_,_,rfl,fun e u h=>?_,ncH,?_,ndj,fun x=>?_⟩
   ·rw [Zd (fun z=>by subst z;rw [nd] at h;cases h)];exact sj _ _ h
   ·rw [Zd dc.symm];exact hcj
   ·rw [tk,Zob,memj];exact ⟨fun ⟨y,hy,hx⟩=>⟨y,(mem y).mp hy,hx⟩,fun ⟨y,hy,hx⟩=>⟨y,(mem y).mpr hy,hx⟩⟩
  case tu2 =>
   rintro j pr σ Hj hpr ⟨cs,v6,v7,rfl,sj,hdj,hcj,ndj,memj⟩;rw [Qo] at hpr;obtain ⟨⟨y,vy⟩,hky,rfl⟩:=QF.mp hpr;have hyk:(ks.map (·.1))[j]?=some y:=by rw [Qo,hky];rfl
   have ky:=known y (QL hyk);have tkj:(ks.map (·.1)).take (j+1)=(ks.map (·.1)).take j++[y]:=by rw [Gc,hyk];rfl
   refine ⟨_,rfl,_,rfl,_,rfl,rfl,a,s,y,L,rfl,hL.mono sj.x,ok,s9,ky,fun H2 D zs s2 nD hD mz lz=>⟨D,rfl,⟨_,.of hD⟩,?_⟩⟩;refine Wx (xs:=zs.map fun z:Nat=>V.int z) (fun l σ Hl=>∃(cs2:List (Nat×V)) (v7:Option V),σ=[some (.ref a),some (.ref p),some (.int i0),some (.ref d),some (.str s),some (.ref c),some (.int y),v7]∧Same H Hl∧Hl d=some (.frz o (.dK (Xk ks)))∧Hl c=some (.dK (Xk cs2))∧Hl D=some (.lst (zs.map fun z:Nat=>V.int z))∧(cs2.map (·.1)).Nodup∧∀x,x∈cs2.map (·.1)↔x∈cs.map (·.1)∨x∈zs.take l) ?st3 ?li3 ?tu3 ?do3
   case st3=>exact ⟨cs,_,rfl,sj.trans s2,s2 _ _ hdj,s2 _ _ hcj,hD,ndj,fun x=>by simp⟩
   case li3 =>
    rintro l σ Hl _ ⟨cs2,v7,rfl,_,_,_,hLl,_⟩;exact .of hLl
   case do3 =>
    rintro σ Hl ⟨cs2,v7,rfl,sl,hdl,hcl,hLl,ndl,meml⟩;rw [Qc,Q8] at meml;refine ⟨cs2,_,_,rfl,sl,hdl,hcl,ndl,fun x=>?_⟩;rw [meml,memj,tkj,mz];constructor
    ·rintro (⟨z,h1,h2⟩|h)
     ·exact ⟨z,Rc _ h1,h2⟩
     ·exact ⟨y,by simp,h⟩
    ·rintro ⟨z,h1,h2⟩;rcases Ql.mp h1 with h1|h1
     ·exact .inl ⟨z,h1,h2⟩
     ·rw [show z=y by simpa using h1] at h2;exact .inr h2
   case tu3 =>
    rintro l z σ Hl hz ⟨cs2,v7,rfl,sl,hdl,hcl,hLl,ndl,meml⟩;obtain ⟨x,hx,rfl⟩:=ZfX hz;have tkl:zs.take (l+1)=zs.take l++[x]:=by rw [Gc,hx];rfl
    have inK:∀x∈cs2.map (·.1),x<L.pe.length:=fun x hx2=>by
     rcases (meml x).mp hx2 with h|h
     ·obtain ⟨z,h1,h2⟩:=(memj x).mp h;exact (h2.lt ok s9).2
     ·exact (((mz x).mp (Rv h)).lt ok s9).2
    have JE:(Xk cs2).length≤8:=by rw [ZgH];exact Qn (Zle ndl inK) ok.n6
    refine ⟨_,rfl,_,rfl,c,_,rfl,DPut.k (k:=.inl (x:Int)) hcl (ZF (by omega)),?_⟩;rw [Zml];refine ⟨Zp cs2 x (.bl true),_,rfl,fun e u h=>?_,?_,Zg,?_,ZiB ndl,fun x'=>?_⟩
    ·rw [Zd (fun z=>by subst z;rw [ncH] at h;cases h)];exact sl _ _ h
    ·rw [Zd dc];exact hdl
    ·rw [Zd (fun z=>by rw [z,hcl] at hLl;cases hLl)];exact hLl
    ·rw [Zij,meml,tkl,Ql,QG,or_assoc]
theorem Zl4 (T:Tx K w mg) (W3:ZaS P base T) (Wk:Za7 P base T) (Jb:ZdI P base T):Ze7 P base T:=by
 refine Fun.okX (k:=2) T.V5.F Wq (fun vs H Q E h=>h.1) (fun cdv A outer s H vs Q E hr h=>?_);obtain ⟨-,h⟩:=h;obtain ⟨b,B,t,k0,rfl,hv,bt,ti,hc,n6,tl7,ul7,q⟩:=h
 refine ⟨_,(Zm (ZP (i:=1) Wq.nd rfl (Or.inr rfl) (ZhE (pv 0) T.cl_Book T.VI.me Jb (hr.mono (by decide)) T.VI.b .nil Zu))
   (Zm (ZP (i:=2) Wq.nd rfl (Or.inl rfl) (YD Zb))
   (Zm (ZP (i:=3) Wq.nd rfl (Or.inl rfl) (YD Zb))
   (Zm (ZP (i:=4) Wq.nd rfl (Or.inl rfl) (YD Zb))
   (Zm (YJ QN rfl (ZcY (by rfl) T.n_range (Za (Yi XR (by rfl) T.n_len Xa (Za (pv 1) Zb)) Zb)) (ZR (i:=5) Wq.nd rfl (Or.inl rfl))
    (Zm (ZP (i:=6) Wq.nd rfl (Or.inl rfl) (YD Zb))
   (Zm (YJ QN rfl (VR (ZQ (Za Zk (Za Zk Zb)))) (ZR (i:=7) Wq.nd rfl (Or.inl rfl))
    (Zm (ZP (i:=8) Wq.nd rfl (Or.inl rfl) (ZS (pv 0) T.cl_Book T.XE.me Wk (hr.mono (by decide)) T.XE.b .nil Zu (Za (pv 7) (Za (Zo Yo (pv 1) (pv 5) (fun _ _=>rfl)) Zb))))
   (Zi (Z9 (Xd Q0 Rk Rl X6 (pv 6) (Za (Zo Yo (Z1 Za1 (X9 rfl (Wm (N:=["_law_high","_law_names"]) ["_law_names"] [none,some 1] rfl (by trivial) (by trivial) (by rfl) (by rfl) (by rfl) (by rfl) (by rfl)) (Y2 (pv 8)) (fun _ _ _=>(ZR (i:=0) Zn4 rfl (Or.inl rfl))) (fun _ _ _=>Za6) (fun _ _ _=>(Zk6 K Q0 Gh GD (JQ K) (pv 1) (Za (pv 0) Zb)))) (YD (Za (V4 V2 Zh) Zb))) Zh (fun _ _=>rfl)) Zb))))))
   (Zm (Z9 (Xd Q0 Rk Rl X6 (pv 2) (Za (ZQ (Za (ZS (pv 0) T.cl_Book T.Wy.me W3 (hr.mono (by decide)) T.Wy.b .nil Zu (Za (Zo Yo (pv 1) (pv 5) (fun _ _=>rfl)) Zb)) (Za (Zo Yo (pv 6) Zh (fun _ _=>rfl)) (Za (Zo Yo (pv 6) Zh (fun _ _=>rfl)) Zb)))) Zb)))
   (Zm (YJ QN rfl (Y2 (ZS (pv 0) T.cl_Book T.XE.me Wk (hr.mono (by decide)) T.XE.b .nil Zu (Za Zk (Za (Zo Yo (pv 1) (pv 5) (fun _ _=>rfl)) Zb)))) (ZR (i:=9) Wq.nd rfl (Or.inl rfl))
    (Zi (Z9 (Xd Q0 Rk Rl X6 (pv 3) (Za (ZQ (Za (pv 5) (Za (Xd Q0 Gh GD (JQ K) (pv 1) (Za (pv 9) Zb)) Zb))) Zb)))))
   (Zi (YJ QN rfl (Y2 (ZS (pv 0) T.cl_Book T.XE.me Wk (hr.mono (by decide)) T.XE.b .nil Zu (Za Zk (Za (Zo Yo (pv 1) (pv 5) (fun _ _=>rfl)) Zb)))) (ZR (i:=10) Wq.nd rfl (Or.inl rfl))
    (Zi (ZJ (ZE ZkW (Zo Yo (pv 1) (pv 5) (fun _ _=>rfl)) (pv 10) (Zy _)) (Zi (Z9 (Xd Q0 Rk Rl X6 (pv 4) (Za (ZQ (Za (pv 5) (Za (Xd Q0 Gh GD (JQ K) (pv 1) (Za (pv 10) Zb)) Zb))) Zb)))) ZV)))))))))
   (Zi (Zx (ZQ (Za (pv 2) (Za (pv 3) (Za (pv 4) Zb))))))))))),?_⟩
 obtain ⟨b',dx,kk,bi,li,ti',su,e0,hB⟩:=id hv;cases e0;have bl:(YV B.kept).length<64:=by rw [bt.bn.length_eq];unfold Z5;rw [Qc,QW];omega
 refine ⟨_,rfl,b,dx,_,rfl,hB.ob,rfl,rfl,.ref b,B,rfl,hv,bl,fun H1 N s1 nN hN=>?_⟩;rw [ZeI bt] at hN;dsimp only [ZM];refine ⟨few rfl,fun P nP=>?_⟩;dsimp only [ZM];refine ⟨few rfl,fun Ta nT=>?_⟩;dsimp only [ZM];refine ⟨few rfl,fun U nU=>?_⟩;dsimp only [ZM];have gP:=Zj (o:=.lst []) nP;have gT:=Zj (o:=.lst []) nT;have gU:=Zj (o:=.lst []) nU;have f3:Fr3 H1 P Ta U:=⟨nP,ZX gP nT,ZX (gP.trans gT) nU,ZA Zg nT,ZA (gT _ _ Zg) nU,ZA Zg nU⟩;have hB1:=hB.mono s1;have pl:((Z5 t).map V.str).length=t.days.length:=by unfold Z5;rw [Qc,Qc,QW]
 have lf0:LF t H1 P Ta U 0 (22*0) (22*0) (fun p=>p∈t.tak∧p.1<0) (fun p=>p∈t.uni∧p.1<0) (Zc (Zc (Zc H1 P (.lst [])) Ta (.lst [])) U (.lst [])) [] [] []:=⟨gP.trans (gT.trans gU),⟨(gT.trans gU) _ _ Zg,fun q hq=>(by cases hq)⟩,⟨gU _ _ Zg,fun q hq=>(by cases hq)⟩,⟨Zg,fun q hq=>(by cases hq)⟩,rfl,fun j q e=>(by cases e),fun p=>⟨fun z=>(by cases z),fun z=>(by omega)⟩,fun p=>⟨fun z=>(by cases z),fun z=>(by omega)⟩,Qe _,Qe _⟩;refine ⟨_,rfl,N,_,rfl,.inl (.of (lf0.sm _ _ hN)),_,rfl,by omega,by omega,ZeH (fun i σ Hc=>∃(qs:List ((Str×Int×Int)×Addr)) (as us:List ((Nat×Nat)×Addr)) (v5 v6 v7 v8 v9 v10:Option V),σ=[some (.ref b),some (.ref N),some (.ref P),some (.ref Ta),some (.ref U),v5,v6,v7,v8,v9,v10]∧LF t H1 P Ta U i (22*i) (22*i) (fun p=>p∈t.tak∧p.1<i) (fun p=>p∈t.uni∧p.1<i) Hc qs as us) ⟨[],[],[],_,_,_,_,_,_,rfl,lf0⟩ ?jt ?jd⟩
 case jd =>
  rintro σ Hc ⟨qs,as,us,v5,v6,v7,v8,v9,v10,rfl,lf⟩;rw [R4,pl] at lf;have la:=lf.la;have lu:=lf.lu;exact ⟨_,rfl,_,rfl,_,rfl,few rfl,fun a na=>q _ a _ (s1.trans (lf.sm.trans (Zj na))) ((lf.mono (Zj na)).ld Zg) ((lf.ldT ti).ok ti hc n6 (by show (as.map _).length≤_;rw [Qc];omega) (by show (us.map _).length≤_;rw [Qc];omega)) (lf.ldT ti)⟩
 case jt =>
 clear lf0;rintro i σ Hc hi ⟨qs,as,us,v5,v6,v7,v8,v9,v10,rfl,lf⟩;rw [R4,pl] at hi;have il:i<t.days.length:=hi;have at_i:Yg ((Z5 t).map V.str) (i:Int)=some (.str (Ze i)):=Zd1 (V0 il);rw [show (0:Int)+(i:Int)=i from Int.zero_add _];dsimp only [ZM];refine ⟨few rfl,fun Ab nAb=>?_⟩;have ne3:=lf.ne3 nAb;have nAb1:=ZX lf.sm nAb;have lfa:=lf.mono (Zj (o:=.lst []) nAb);dsimp only [ZM];refine ⟨few rfl,fun t2 nt2=>⟨t2,rfl,⟨_,.of Zg⟩,UD (xs:=(["F","M"]:List Str).map V.str) (fun m σ Hd=>∃(ups:List Int) (v7 v8:Option V),σ=[some (.ref b),some (.ref N),some (.ref P),some (.ref Ta),some (.ref U),some (.int i),some (.ref Ab),v7,v8,v9,v10]∧LF t H1 P Ta U i (22*i) (22*i) (fun p=>p∈t.tak∧p.1<i) (fun p=>p∈t.uni∧p.1<i) Hd qs as us∧Hd Ab=some (.lst (ups.map V.int))∧Hd t2=some (.tup ((["F","M"]:List Str).map V.str))∧ups.length=m∧∀(r:Nat) x l,ups[r]?=some x->(["F","M"]:List Str)[r]?=some l->Vt t l i x) ?st2 ?li2 ?tu2 ?dn2⟩⟩
 case st2=>exact ⟨[],_,_,rfl,lfa.mono (Zj nt2),(Zj nt2) _ _ Zg,Zg,rfl,fun r x l e=>(by cases e)⟩
 case li2 =>
  rintro m σ Hd _ ⟨ups,v7,v8,rfl,_,_,h,_⟩;exact .of h
 case tu2 =>
  rintro m y σ Hd hy ⟨ups,v7,v8,rfl,lf2,hAb,ht2,lu2,hu2⟩;obtain ⟨l,hl,rfl⟩:=JT hy;have lFM:l="F"∨l="M":=by simpa using QL hl
  have l7:l∈Zs.take 7:=by rcases lFM with rfl|rfl<;>trivial
  have ml:m<2:=(QE.mp hl).1;obtain ⟨js,ejs,mjs,ljs⟩:=Zen bt l7 il;replace ljs:js.length≤22:=Qn ljs (by omega);have hB2:=hB1.mono lf2.sm;have hN2:=lf2.sm _ _ hN;dsimp only [ZM];refine ⟨_,rfl,b,dx,_,rfl,hB2.ob,rfl,_,rfl,_,rfl,_,rfl,N,_,_,_,rfl,rfl,.of hN2,at_i,rfl,.ref b,.str l,.str (Ze i),B,rfl,⟨b,dx,kk,bi,li,ti',su,rfl,hB2⟩,.inr ⟨l,rfl,fun z=>absurd z ((show ∀l∈Zs.take 7,¬Vf l=false by trivial) _ l7),fun _=>.inr ⟨Ze i,rfl,fun z=>absurd z (bt.kn i il),fun _ H3 D s3 nD hD=>?_⟩⟩⟩;rw [ejs] at hD;dsimp only [ZM];have hAb3:=s3 _ _ hAb;have hN3:=s3 _ _ hN2;refine ⟨_,rfl,.inl ⟨rfl,_,.of hAb3⟩,_,rfl,D,rfl,⟨_,.of hD⟩,Zbe (js.map fun j:Nat=>V.int j) (ZF (by rw [Qc];omega)) (fun σ=>∃v,σ=[v,some (.ref N)]) ⟨none,rfl⟩ (fun j H4 hj sm=>?go) (fun H4 sm=>?stop) (fun j σ H4 x H5 y hy hσ sm hx C hC=>?step) (fun D5 H5 nD5 s5 hD5=>?fin)⟩
  case go=>exact ⟨_,_,sm.sql (.of hD),Qs (by rw [Qc] at hj ⊢;rw [Qc];exact hj)⟩
  case stop=>exact ⟨_,sm.sql (.of hD),by rw [Qc,Qc,Qc];exact Qe _⟩
  case step =>
   obtain ⟨v,rfl⟩:=hσ;obtain ⟨rfl,hx2⟩:=hx;have ex:=hx2 _ (sm.sql (.of hD));rw [Qo,Qo] at ex;obtain ⟨j',hj',rfl⟩:=ZfX hy;rw [hj'] at ex;obtain rfl:=Qj ex;have jl:=((mjs j').mp (QL hj')).1;have hN4:=sm _ _ hN3;exact ⟨_,rfl,.inl ⟨rfl,_,.of hN4⟩,_,rfl,N,Z5 t,Ze j',j',rfl,rfl,.of hN4,V0 jl,fun m lm=>Zan jl lm,hC _ _ ⟨_,rfl⟩ (.refl _)⟩
  case fin =>
   obtain ⟨u,a0,hu⟩:∃u:Int,Yg ((js.map fun j:Nat=>V.int j)++[V.int (-1)]) 0=some (.int u)∧Vt t l i u:=by
    cases js with
    |nil=>exact ⟨-1,rfl,.inl ⟨rfl,fun j hj=>by have:=(mjs j).mpr ⟨(ti.pn _ hj).2.1,(W5 lFM).mpr hj⟩;cases this⟩⟩
    |cons j js=>exact ⟨j,(show Yg _ ((0:Nat):Int)=some _ from XY rfl),.inr ⟨j,rfl,(W5 lFM).mp ((mjs j).mp (by simp)).2⟩⟩
   refine ⟨_,rfl,few rfl,fun D6 n6'=>⟨D5,D6,_,_,rfl,rfl,(Zj n6') _ _ hD5,Zg,UK (by rw [Qc];simp;omega),fun D7 n7=>?_⟩⟩;have s7:=s3.trans (s5.trans ((Zj (o:=.lst [.int (-1)]) n6').trans (Zj (o:=.lst ((js.map fun j:Nat=>V.int j)++[V.int (-1)])) n7)));have hAb7:=s7 _ _ hAb;refine ⟨D7,_,_,_,rfl,rfl,.of Zg,a0,Ab,_,_,rfl,rfl,hAb7,ZF (by rw [Qc];omega),ups++[u],_,_,rfl,(lf2.mono s7).off f3 hAb7 nAb1 ne3,by rw [Zg,Qv];rfl,by rw [Zd (fun z=>by rw [z,hAb] at ht2;cases ht2)];exact s7 _ _ ht2,by rw [Qq,lu2];rfl,fun r x l' e1 e2=>?_⟩;by_cases rl:r<ups.length
   ·rw [RQ rl] at e1;exact hu2 r x l' e1 e2
   ·have rr:=(QE.mp e1).1;rw [Qq,GP] at rr;obtain rfl:r=ups.length:=by omega
    rw [Rn (Qe _),GC] at e1;obtain rfl:u=x:=Qj e1;rw [lu2,hl] at e2;obtain rfl:l=l':=Qj e2;exact hu
 case dn2 =>
 rintro σ Hd ⟨ups,v7,v8,rfl,lf2,hAb,_,lu2,hu2⟩;obtain ⟨u1,u2,rfl⟩:=JE lu2;have hB2:=hB1.mono lf2.sm;have hN2:=lf2.sm _ _ hN;dsimp only;refine ⟨_,rfl,.inl ⟨rfl,_,.of lf2.hQ.1⟩,_,rfl,b,dx,_,rfl,hB2.ob,rfl,_,rfl,_,rfl,N,_,_,_,rfl,rfl,.of hN2,at_i,rfl,.ref b,.str (Ze i),B,rfl,⟨b,dx,kk,bi,li,ti',su,rfl,hB2⟩,.inr ⟨Ze i,rfl,fun z=>absurd z (bt.kn i il),fun p hp n' s' d f m ep=>?_⟩⟩;have es:s'=t.sorts.getD i "":=by rw [←bt.so i il,ZfQ hp ep]
 refine ⟨_,rfl,Ab,_,_,_,rfl,rfl,.of hAb,rfl,_,rfl,Ab,_,_,_,rfl,rfl,.of hAb,rfl,few rfl,fun p np=>?_⟩;have lf3:=lf2.mono (Zj (o:=.tup [.str s',.int u1,.int u2]) np);refine ⟨P,_,_,rfl,rfl,lf3.hQ.1,ZF (by rw [Qc,lf3.lq];omega),?_⟩;have lf4:=lf3.addP f3 (x:=(s',u1,u2)) Zg es (hu2 0 u1 "F" rfl rfl) (hu2 1 u2 "M" rfl rfl);clear lf2 lf3 hAb hB2 hN2 lu2 hu2 lfa lf;obtain ⟨He,eHe⟩:∃He,He=Zc (Zc Hd p (.tup [.str s',.int u1,.int u2])) P (.lst (qs.map (fun q=>V.ref q.2)++[.ref p])):=⟨_,rfl⟩;rw [←eHe] at lf4;rw [←eHe];clear eHe;have hB2:=hB1.mono lf4.sm;have hN2:=lf4.sm _ _ hN;have l7:("T" : Str)∈Zs.take 7:=by trivial
 obtain ⟨js,ejs,mjs,ljs⟩:=Zen bt l7 il;replace ljs:js.length≤22:=Qn ljs (by omega);refine ⟨_,rfl,b,dx,_,rfl,hB2.ob,rfl,_,rfl,_,rfl,N,_,_,_,rfl,rfl,.of hN2,at_i,rfl,.ref b,.str "T",.str (Ze i),B,rfl,⟨b,dx,kk,bi,li,ti',su,rfl,hB2⟩,.inr ⟨"T",rfl,fun z=>absurd z ((show ∀l∈Zs.take 7,¬Vf l=false by trivial) _ l7),fun _=>.inr ⟨Ze i,rfl,fun z=>absurd z (bt.kn i il),fun _ H3 D s3 nD hD=>⟨D,rfl,⟨_,.of hD⟩,Wx (xs:=(js.map Ze).map V.str) (fun l σ Hf=>∃(as:List ((Nat×Nat)×Addr)) (v9:Option V),σ=[some (.ref b),some (.ref N),some (.ref P),some (.ref Ta),some (.ref U),some (.int i),some (.ref Ab),v7,v8,v9,v10]∧LF t H1 P Ta U (i+1) (22*i+l) (22*i) (fun p=>(p∈t.tak∧p.1<i)∨∃j∈js.take l,p=(i,j)) (fun p=>p∈t.uni∧p.1<i) Hf (qs++[((s',u1,u2),p)]) as us∧Hf D=some (.lst ((js.map Ze).map V.str))) ?st3 ?li3 ?tu3 ?dn3⟩⟩⟩⟩
 all_goals rw [ejs] at hD
 case st3=>exact ⟨as,_,rfl,(lf4.mono s3).cast (Qe _) (Qe _) (fun p=>by simp) (fun p=>Q2),hD⟩
 case li3 =>
  rintro l σ Hf _ ⟨as,v9,rfl,_,hD⟩;exact .of hD
 case tu3 =>
  have DT:D≠Ta:=fun z=>by rw [z,lf4.hA.1] at nD;cases nD
  clear hD nD s3;rintro l y σ Hf hy ⟨as,v9,rfl,lf5,hD⟩;rw [Qo,Qo] at hy;obtain ⟨x,hx,rfl⟩:=QF.mp hy;obtain ⟨j,hj,rfl⟩:=QF.mp hx;have jl:=((mjs j).mp (QL hj)).1;have ll:=(QE.mp hj).1;have hN3:=lf5.sm _ _ hN;have la:=lf5.la;dsimp only [ZM];refine ⟨_,rfl,.inl ⟨rfl,_,.of lf5.hA.1⟩,_,rfl,_,rfl,.inl ⟨rfl,_,.of hN3⟩,_,rfl,N,Z5 t,Ze j,j,rfl,rfl,.of hN3,V0 jl,fun m lm=>Zan jl lm,few rfl,fun p np=>?_⟩;have lf6:=lf5.mono (Zj (o:=.tup (rT (i,j))) np);refine ⟨Ta,_,_,rfl,rfl,lf6.hA.1,ZF (by rw [Qc];omega),as++[((i,j),p)],_,rfl,(lf6.addT f3 Zg).cast (Qe _) (Qe _) (fun p=>?_) (fun p=>Q2),by rw [Zd DT];exact (Zj np) _ _ hD⟩;rw [or_assoc];refine Gi Q2 ⟨fun z=>?_,fun ⟨x,hx,e⟩=>?_⟩
  ·rcases z with ⟨x,hx,e⟩|e
   ·exact ⟨x,(VT hj).mpr (.inl hx),e⟩
   ·exact ⟨j,(VT hj).mpr (.inr rfl),e⟩
  ·rcases (VT hj).mp hx with hx|rfl
   ·exact .inl ⟨x,hx,e⟩
   ·exact .inr e
 case dn3 =>
 clear lf4 hB2 hN2 hD nD s3;rintro σ Hf ⟨as,v9,rfl,lf5,_⟩
 have lf6:=lf5.cast (m':=22*(i+1)) (k':=22*i) (PT':=fun p=>p∈t.tak∧p.1<i+1) (PU':=fun p=>p∈t.uni∧p.1<i) (by rw [Qc,Qc];omega) (Qe _) (fun p=>by
  rw [Qc,Qc,Q8];refine ⟨fun z=>?_,fun z=>?_⟩
  ·rcases z with z|⟨j,hj,rfl⟩
   ·exact ⟨z.1,by omega⟩
   ·exact ⟨VC.mp ((mjs j).mp hj).2,Q5 _⟩
  ·by_cases c:p.1<i
   ·exact .inl ⟨z.1,c⟩
   ·obtain ⟨a,c2⟩:=p;obtain rfl:a=i:=by have:=z.2;simp at this c;omega
    exact .inr ⟨c2,(mjs c2).mpr ⟨(ti.tk _ z.1).2.1,VC.mpr z.1⟩,rfl⟩) (fun p=>Q2)
 clear lf5 mjs ljs ejs l7;have hB2:=hB1.mono lf6.sm;have hN2:=lf6.sm _ _ hN;have l7:("S" : Str)∈Zs.take 7:=by trivial
 obtain ⟨js,ejs,mjs,ljs⟩:=Zen bt l7 il;replace ljs:js.length≤22:=Qn ljs (by omega);refine ⟨_,rfl,b,dx,_,rfl,hB2.ob,rfl,_,rfl,_,rfl,N,_,_,_,rfl,rfl,.of hN2,at_i,rfl,.ref b,.str "S",.str (Ze i),B,rfl,⟨b,dx,kk,bi,li,ti',su,rfl,hB2⟩,.inr ⟨"S",rfl,fun z=>absurd z ((show ∀l∈Zs.take 7,¬Vf l=false by trivial) _ l7),fun _=>.inr ⟨Ze i,rfl,fun z=>absurd z (bt.kn i il),fun _ H3 D s3 nD hD=>⟨D,rfl,⟨_,.of hD⟩,Wx (xs:=(js.map Ze).map V.str) (fun l σ Hf=>∃(us:List ((Nat×Nat)×Addr)) (v10:Option V),σ=[some (.ref b),some (.ref N),some (.ref P),some (.ref Ta),some (.ref U),some (.int i),some (.ref Ab),v7,v8,v9,v10]∧LF t H1 P Ta U (i+1) (22*(i+1)) (22*i+l) (fun p=>p∈t.tak∧p.1<i+1) (fun p=>(p∈t.uni∧p.1<i)∨∃j∈js.take l,i<j∧p=(i,j)) Hf (qs++[((s',u1,u2),p)]) as us∧Hf D=some (.lst ((js.map Ze).map V.str))) ?st4 ?li4 ?tu4 ?dn4⟩⟩⟩⟩
 all_goals rw [ejs] at hD
 case st4=>exact ⟨us,_,rfl,(lf6.mono s3).cast (Qe _) (Qe _) (fun p=>Q2) (fun p=>by simp),hD⟩
 case li4 =>
  rintro l σ Hf _ ⟨us,v10,rfl,_,hD⟩;exact .of hD
 case tu4 =>
  have DU:D≠U:=fun z=>by rw [z,lf6.hU.1] at nD;cases nD
  clear hD nD s3;rintro l y σ Hf hy ⟨us,v10,rfl,lf5,hD⟩;rw [Qo,Qo] at hy;obtain ⟨x,hx,rfl⟩:=QF.mp hy;obtain ⟨j,hj,rfl⟩:=QF.mp hx;have jl:=((mjs j).mp (QL hj)).1;have ll:=(QE.mp hj).1;have hN3:=lf5.sm _ _ hN;have lu:=lf5.lu;dsimp only [ZM];refine ⟨_,rfl,_,rfl,N,_,_,_,rfl,rfl,.of hN3,at_i,_,rfl,_,_,rfl,rfl,_,rfl,?_⟩;by_cases ij:i<j
  ·refine ZY (by rw [Zcb];exact Qu ij) ⟨_,rfl,.inl ⟨rfl,_,.of lf5.hU.1⟩,_,rfl,_,rfl,.inl ⟨rfl,_,.of hN3⟩,_,rfl,N,Z5 t,Ze j,j,rfl,rfl,.of hN3,V0 jl,fun m lm=>Zan jl lm,few rfl,fun p np=>?_⟩;have lf7:=lf5.mono (Zj (o:=.tup (rT (i,j))) np);refine ⟨U,_,_,rfl,rfl,lf7.hU.1,ZF (by rw [Qc];omega),us++[((i,j),p)],_,rfl,(lf7.addU f3 Zg).cast (Qe _) (Qe _) (fun p=>Q2) (fun p=>?_),by rw [Zd DU];exact (Zj np) _ _ hD⟩;rw [or_assoc];refine Gi Q2 ⟨fun z=>?_,fun ⟨x,hx,e⟩=>?_⟩
   ·rcases z with ⟨x,hx,e⟩|e
    ·exact ⟨x,(VT hj).mpr (.inl hx),e⟩
    ·exact ⟨j,(VT hj).mpr (.inr rfl),ij,e⟩
   ·rcases (VT hj).mp hx with hx|rfl
    ·exact .inl ⟨x,hx,e⟩
    ·exact .inr e.2
  ·refine Zr (by rw [Zcb];exact Qr ij) ⟨us,_,rfl,lf5.cast (Qe _) (QQ _) (fun p=>Q2) (fun p=>Gi Q2 ⟨fun ⟨x,hx,e⟩=>⟨x,(VT hj).mpr (.inl hx),e⟩,fun ⟨x,hx,e⟩=>?_⟩),hD⟩;rcases (VT hj).mp hx with hx|rfl
   ·exact ⟨x,hx,e⟩
   ·exact absurd e.1 ij
 case dn4 =>
 clear lf6 hB2 hN2 hD nD s3;rintro σ Hf ⟨us,v10,rfl,lf5,_⟩;refine ⟨_,as,us,_,_,_,_,_,_,rfl,lf5.cast (Qe _) (by rw [Qc,Qc];omega) (fun p=>Q2) fun p=>?_⟩;rw [Qc,Qc,Q8];refine ⟨fun z=>?_,fun z=>?_⟩
 ·rcases z with z|⟨j,hj,ij,rfl⟩
  ·exact ⟨z.1,by omega⟩
  ·rcases W7.mp ((mjs j).mp hj).2 with r|r
   ·exact ⟨r,Q5 _⟩
   ·have:=(ti.un _ r).1;simp at this;omega
 ·by_cases c:p.1<i
  ·exact .inl ⟨z.1,c⟩
  ·obtain ⟨a,c2⟩:=p;obtain rfl:a=i:=by have:=z.2;simp at this c;omega
   have un:=ti.un _ z.1;exact .inr ⟨c2,(mjs c2).mpr ⟨un.2,W7.mpr (.inl z.1)⟩,un.1,rfl⟩
theorem Zi1 (T:Tx K w mg) (Jw:ZdS P base T):ZhG P base T:=by
 refine Fun.okX (k:=1) T.Ut.F Je (fun vs H Q E h=>h.1) (fun cdv A outer s H vs Q E hr h=>?_);obtain ⟨-,h⟩:=h;obtain ⟨p,l,way,cs,rfl,hp,h9,l6,hl,l9,q⟩:=h
 refine ⟨_,(Zm (ZJ (PW.pt (Xy (ZE Zc9 (Yi XR (by rfl) T.n_len Xa (Za (pv 1) Zb)) Zh (Zy _)) (Xy (ZE (Zny hr.units) (pv 0) (ZQ Zb) (Zy _)) (W0 (ZE Z3 (Z1 Wd (Zo Yo (pv 1) Zh (fun _ _=>rfl)) Zh) Zh (Zy _)))))) (Zi (Zx (ZO Jw (hr.mono (by decide)) (by rfl) T.WU.m T.WU.F.kp T.WU.b .nil Zu (Za (XA ZaT (pv 1) (Y7 Zh) (Y7 Zh)) Zb)))) ZV)
   (Zm (ZP (i:=2) Je.nd rfl (Or.inl rfl) (Z1 Wd (Zo Yo (pv 1) Zh (fun _ _=>rfl)) (Yi XR (by rfl) T.n_len Xa (Za (pv 0) Zb))))
   (Zm (ZP (i:=3) Je.nd rfl (Or.inl rfl) (Zo Zv (ZQ (Za Zk (Za Zk (Za Zk (Za Zk (Za Zk (Za Zk (Za Zk (Za Zk (Za Zk Zb)))))))))) (Z1 Wd (Zo Yo (pv 1) Zh (fun _ _=>rfl)) Zh) (fun _ _=>rfl)))
   (Zm (ZJ (ZE Z3 (Z1 Wd (Zo Yo (pv 1) Zh (fun _ _=>rfl)) Zh) Zh (Zy _)) (Zi (Zx (Z1 JV (Z1 JV (XA Jq (pv 0) Wr (Y7 (pv 2))) (ZQ (Za (pv 3) Zb))) (XA Jq (pv 0) (Y7 (Z1 Ve (pv 2) Zh)) Wr)))) ZV)
   (Zm (ZP (i:=4) Je.nd rfl (Or.inl rfl) (Vh (Yk hr) (UC (YB Zk Zk (YB Zk Zk (YB Zk Zk (YB Zk Zk (YB Zk Zk (YB Zk Zk Uu)))))) rfl rfl (by simp) (by decide)) (Zo Zv (pv 0) (pv 2) (fun _ _=>rfl)) (Zo Zv (pv 0) (pv 2) (fun _ _=>rfl)) ⟨rfl,rfl,rfl,rfl⟩))
   (Zm (ZP (i:=5) Je.nd rfl (Or.inl rfl) (Z1 JV (Z1 JV (XA Jq (pv 0) Wr (Y7 (Z1 Ve (pv 2) Zh))) (ZQ (Za (pv 4) (Za (Zo Zv (pv 0) (pv 2) (fun _ _=>rfl)) Zb)))) (XA Jq (pv 0) (Y7 (Z1 Ve (pv 2) Zh)) Wr)))
   (Zm (ZP (i:=6) Je.nd rfl (Or.inl rfl) (Z1 Wd (Zo Yo (pv 1) Zh (fun _ _=>rfl)) (Yi XR (by rfl) T.n_len Xa (Za (pv 5) Zb))))
   (Zi (Zx (Z1 JV (XA Jq (pv 5) Wr (Y7 (pv 6))) (XA Jq (pv 5) (Y7 (Z1 Ve (pv 6) Zh)) Wr))))))))))),?_⟩
 obtain ⟨fs,efs,lfs⟩:=Zll (ns:=cs) (a:=1) (b:=7)
 have free:∀nx Hx,Same H Hx->Zg8 (Zh8 (Zin T) [] (fun x=>E0) (Zax (tSl (ZfN K) (XG 1) (ZbO (tC (V.int 1))) (ZbO (tC (V.int 7)))) Zas)) { nx:=nx,rt:=Q } [some (.ref p),some (.ref l),none,none,none,none,none] Hx:=fun nx Hx sx=>by
  refine ⟨_,rfl,_,rfl,_,rfl,l,_,rfl,sx.sql hl,fun D nD=>⟨rfl,D,fs,rfl,by rw [←efs];exact .of Zg,(by omega),fun H1 p1 w1 s1 hp1 n1 ln=>q _ p1 w1 (sx.trans ((Zj nD).trans s1)) hp1 n1 (by omega)⟩⟩
 refine ⟨_,rfl,l,_,rfl,.inl hl,_,_,rfl,rfl,_,rfl,YW (fun _=>Z4 (free _ _ (.refl _))) (fun c4=>⟨_,rfl,few rfl,fun p0 n0=>?_⟩)⟩;have s0:=Zj (o:=.tup []) n0;refine ZkZ (b:=[]) (s0.sqt hp) (.of Zg) ⟨_,rfl,YW (fun _=>Z4 (free _ _ s0)) (fun e=>?_)⟩;have wl:0<way.length:=List.length_pos_iff.mpr (RF e);have cl:4≤cs.length:=by have:=RF c4;rw [Qc] at this;omega
 have ca:∀i,i<cs.length->∃c:Int,Yg (cs.map V.int) (i:Int)=some (.int c):=fun i hi=>⟨_,XY (by rw [Qo,Qs hi];rfl)⟩;obtain ⟨k0,a0⟩:=ca 0 (by omega);obtain ⟨k1,a1⟩:=ca 1 (by omega);obtain ⟨k2,a2⟩:=ca 2 (by omega);obtain ⟨k3,a3⟩:=ca 3 (by omega);have h3:(3:Int)≠0:=by decide
 refine ⟨_,rfl,l,_,_,_,rfl,rfl,s0.sql hl,a0,_,_,rfl,rfl,h3,rfl,_,rfl,YW (fun _=>free _ _ s0) (fun _=>?_)⟩;generalize Zc H p0 (.tup [])=H1 at s0 ⊢;have hp1:=s0.sqt hp;have hl1:=s0.sql hl;obtain ⟨a,al,ea⟩:=ZiJ k1 (n:=(way.map V.str).length) (by rw [Qc];exact wl);rw [Qc] at al;refine ⟨_,rfl,l,_,_,_,rfl,rfl,hl1,a1,_,rfl,p,_,rfl,.inr hp1,_,_,rfl,rfl,(by rw [Qc];omega),?_⟩;dsimp only [ZM];rw [ea];obtain ⟨s,s9,es⟩:=Zfg k2;refine ⟨few rfl,fun t9 n9=>⟨_,rfl,l,_,_,_,rfl,rfl,(Zj n9).sql hl1,a2,_,_,rfl,rfl,(show (9:Int)≠0 by decide),t9,_,_,_,rfl,rfl,.of Zg,es,?_⟩⟩;have s1:=s0.trans (Zj (o:=.tup [.str "F",.str "M",.str "T",.str "f",.str "m",.str "t",.str "S",.str "he",.str "she"]) n9);generalize Zc H1 t9 (.tup [.str "F",.str "M",.str "T",.str "f",.str "m",.str "t",.str "S",.str "he",.str "she"])=H2 at s1 ⊢;replace hp1:=s1.sqt hp;replace hl1:=s1.sql hl;clear n9;dsimp only [ZM];have c1:∀z:Nat,(z:Int)+1=((z+1:Nat):Int):=fun z=>rfl;obtain ⟨u,hu⟩:∃s,way[a]?=some s:=⟨_,Qs al⟩;have u9:=h9 u (QL hu);have au:Yg (way.map V.str) (a:Int)=some (.str u):=XY (by rw [Qo,hu];rfl);refine ⟨_,rfl,l,_,_,_,rfl,rfl,hl1,a0,_,_,rfl,rfl,h3,rfl,_,rfl,YW (fun _=>?_) (fun _=>?_)⟩
 ·refine ⟨_,rfl,_,rfl,_,rfl,p,_,rfl,hp1,fun H3 p3 s3 hp3=>⟨_,rfl,few rfl,fun p4 n4=>?_⟩⟩;rw [ZbH] at hp3;have g4:=Zj (o:=.tup [.str s]) n4;refine ⟨p3,p4,_,_,rfl,rfl,g4.sqt hp3,.of Zg,UK (by rw [Qc,Q6];simp;omega),fun H5 p5 s5 hp5=>?_⟩;have s15:=s3.trans (g4.trans s5);refine ⟨_,rfl,_,rfl,_,_,rfl,rfl,_,rfl,p,_,rfl,s15.sqt hp1,fun H6 p6 s6 hp6=>?_⟩;rw [c1,ZdM _ _ (by omega)] at hp6;refine ⟨p5,p6,_,_,rfl,rfl,s6.sqt hp5,hp6,UK (by simp;omega),fun H7 p7 s7 hp7=>?_⟩;rw [show [V.str s]=[s].map V.str from rfl,Zhk] at hp7;exact q _ _ _ (s1.trans (s15.trans (s6.trans s7))) hp7 (Zgn h9 fun z hz=>by rw [QG.mp hz];exact s9) (by simp;omega)
 dsimp only [Zbb,ZM,J8,JK];refine U4 kvB (fun _ _ h=>h) (by decide) fun pd Hd sd hd=>?_;have hpd:=sd.sqt hp1;refine ⟨_,rfl,_,rfl,p,_,_,_,rfl,rfl,hpd,au,_,rfl,_,rfl,p,_,_,_,rfl,rfl,hpd,au,_,DGet.k (k:=.inr u) hd,?_⟩;rw [Zot u9];refine ⟨_,rfl,_,rfl,_,_,rfl,rfl,_,rfl,p,_,rfl,hpd,fun H3 p3 s3 hp3=>⟨_,rfl,_,rfl,_,rfl,p,_,_,_,rfl,rfl,s3.sqt hpd,au,few rfl,fun p4 n4=>?_⟩⟩;rw [c1,ZbH] at hp3;have g4:=Zj (o:=.tup [.str (VS u),.str u]) n4;refine ⟨p3,p4,_,_,rfl,rfl,g4.sqt hp3,.of Zg,UK (by rw [Qc,Q6];simp;omega),fun H5 p5 s5 hp5=>?_⟩;have s15:=s3.trans (g4.trans s5);refine ⟨_,rfl,_,rfl,_,_,rfl,rfl,_,rfl,p,_,rfl,s15.sqt hpd,fun H6 p6 s6 hp6=>?_⟩;rw [c1,ZdM _ _ (by omega)] at hp6;refine ⟨p5,p6,_,_,rfl,rfl,s6.sqt hp5,hp6,UK (by simp;omega),fun H7 p7 s7 hp7=>?_⟩;rw [show [V.str (VS u),V.str u]=[VS u,u].map V.str from rfl,Zhk] at hp7
 have o9:∀z∈way.take (a+1)++[VS u,u]++way.drop (a+1),z∈Zs:=Zgn h9 fun z hz=>by
  simp only [Qh,QJ,QK] at hz;rcases hz with rfl|rfl
  ·exact Zi9 u9
  ·exact u9
 have ol:(way.take (a+1)++[VS u,u]++way.drop (a+1)).length=way.length+2:=by simp;omega
 obtain ⟨o,eo⟩:∃o,o=way.take (a+1)++[VS u,u]++way.drop (a+1):=⟨_,rfl⟩;rw [←eo] at hp7 o9 ol;have s17:=s1.trans (sd.trans (s15.trans (s6.trans s7)))
 try dsimp only [ZM]
 obtain ⟨b,bl,eb⟩:=ZiJ k3 (n:=(o.map V.str).length) (by rw [Qc];omega);rw [Qc] at bl;refine ⟨_,rfl,l,_,_,_,rfl,rfl,s17.sql hl,a3,_,rfl,p7,_,rfl,.inr hp7,_,_,rfl,rfl,(by rw [Qc];omega),?_⟩
 try dsimp only [ZM]
 rw [eb];refine ⟨_,rfl,_,rfl,_,rfl,p7,_,rfl,hp7,fun H8 p8 s8 hp8=>?_⟩;rw [ZbH] at hp8;refine ⟨_,rfl,_,rfl,_,_,rfl,rfl,_,rfl,p7,_,rfl,s8.sqt hp7,fun H9 p9 s9' hp9=>?_⟩;rw [c1,ZdM _ _ (by omega)] at hp9;refine ⟨p8,p9,_,_,rfl,rfl,s9'.sqt hp8,hp9,UK (by simp;omega),fun Ha pa sa hpa=>?_⟩;rw [←Qv] at hpa;refine q _ _ _ (s17.trans (s8.trans (s9'.trans sa))) hpa (fun z hz=>?_) (by simp;omega);rcases Ql.mp hz with hz|hz
 ·exact o9 z (Rv hz)
 ·exact o9 z (List.mem_of_mem_drop hz)
theorem ZkM (T:Tx K w mg) (Jb:ZdI P base T) (ZaN:Zfc P base T) (ZbQ:Ze7 P base T):Zgm P base T:=by
 refine Fun.okX (k:=3) T.Uy.F Zad (fun vs H Q E h=>h.1) (fun cdv A outer s H vs Q E hr h=>?_);obtain ⟨-,h⟩:=h;obtain ⟨a,p1,p2,b,w1,w2,w,v,B,rfl,ha,hB,bt,hp1,n1,l1,hp2,n2,l2,tw,hc,ni,q⟩:=h
 refine ⟨_,(Zm (ZJ (PW.pt (Xy (XB (YO (XT K (by rfl) T.n_isinstance (Za (pv 0) (Za (X2 (v:=.ty "tuple") (by rfl) T.n_tuple ZdD rfl) Zb))))) (Xy (ZE WF (Yi XR (by rfl) T.n_len Xa (Za (pv 0) Zb)) Zh (Zy _)) (W0 (XB (YO (XT K (by rfl) T.n_isinstance (Za (Zo Zv (pv 0) Zh (fun _ _=>rfl)) (Za (Xs (v:=.ref T.c_Book) (by rfl) T.m_Book rfl) Zb))))))))) (Zi (Zx Xu)) ZV)
   (Zm (ZP (i:=3) Zad.nd rfl (Or.inl rfl) (ZhE (Zo Zv (pv 0) Zh (fun _ _=>rfl)) T.cl_Book T.VI.me Jb (hr.mono (by decide)) T.VI.b .nil Zu))
   (Zm (ZJ (PW.pt (Xy (ZE ZfV (Zo Zv (pv 0) Zh (fun _ _=>rfl)) (pv 3) (by rfl)) (W0 (ZE ZfV (Zo Zv (pv 0) Zh (fun _ _=>rfl)) (pv 3) (by rfl))))) (Zi (Zx Xu)) ZV)
   (Zm (ZP (i:=4) Zad.nd rfl (Or.inl rfl) (ZO ZbQ (hr.mono (by decide)) (by rfl) T.V5.m T.V5.F.kp T.V5.b .nil Zu (Za (Zo Zv (pv 0) Zh (fun _ _=>rfl)) Zb)))
   (Zm (ZP (i:=5) Zad.nd rfl (Or.inl rfl) (Xd Q0 Gh GD (JQ K) (pv 3) (Za (Zo Zv (pv 0) Zh (fun _ _=>rfl)) Zb)))
   (Zm (ZP (i:=6) Zad.nd rfl (Or.inl rfl) (Xd Q0 Gh GD (JQ K) (pv 3) (Za (Zo Zv (pv 0) Zh (fun _ _=>rfl)) Zb)))
   (Zi (Zx (YM WF (Zf2 (ZaQ (Yk hr) (pv 6) (ZO ZaN (hr.mono (by decide)) (by rfl) T.WV.m T.WV.F.kp T.WV.b .nil Zu (Za (pv 4) (Za (pv 1) (Za (pv 5) Zb)))))) (Zf2 (ZaQ (Yk hr) (pv 6) (ZO ZaN (hr.mono (by decide)) (by rfl) T.WV.m T.WV.F.kp T.WV.b .nil Zu (Za (pv 4) (Za (pv 2) (Za (pv 5) Zb)))))) (Zy _)))))))))),?_⟩
 obtain ⟨b',dx,kk,bi,li,ti',su,e0,hB0⟩:=id hB;cases e0;have n9:(∀s∈w,s∈Zs)∧w.length≤7:=by rcases tw with ⟨rfl,_⟩|⟨rfl,_⟩<;>exact ⟨by assumption,by assumption⟩
 have ti:=Zah n9.1;have l7:=n9.2;have n0:0<(Z2 w).days.length:=Rp (QV _) ti.he;have n8:=ti.n;have tl7:=ti.tf;have ul7:=ti.uf;have bl:(YV B.kept).length<64:=by rw [bt.bn.length_eq];unfold Z5;rw [Qc,QW];omega
 refine ⟨_,rfl,_,.ty "tuple",_,_,rfl,rfl,.sqt (.of ha),T.k_tuple_tuple,_,rfl,Zr rfl ⟨_,rfl,a,_,rfl,.inr (.of ha),rfl,_,rfl,Zr (by simp) ⟨_,rfl,a,_,_,_,rfl,rfl,.of ha,rfl,_,.ref T.c_Book,_,_,rfl,rfl,.of (.ins hB0.ob T.cl_Book T.ci T.cg T.ct T.mo),T.kp,_,rfl,Zr rfl ?_⟩⟩⟩;refine ⟨_,rfl,a,_,_,_,rfl,rfl,.of ha,rfl,b,dx,_,rfl,hB0.ob,rfl,rfl,.ref b,B,rfl,hB,bl,fun H2 N s2 nN hN=>?_⟩;rw [ZeI bt] at hN;have ha2:=s2 _ _ ha;dsimp only [ZM];have inn:∀{i:Nat},i<(Z2 w).days.length->(!Xz (.str (Ze i)) ((Z5 (Z2 w)).map V.str))=false:=fun h=>by rw [Zbv,Qu (ZbU h)];rfl
 refine ⟨_,rfl,a,_,_,_,rfl,rfl,.of ha2,rfl,_,rfl,N,_,rfl,.inl (.of hN),rfl,Zfx _,_,rfl,Zr (inn n0) ⟨_,rfl,a,_,_,_,rfl,rfl,.of ha2,rfl,_,rfl,N,_,rfl,.inl (.of hN),rfl,Zfx _,_,rfl,Zr (inn ti.he) ?_⟩⟩;refine ⟨_,rfl,a,_,_,_,rfl,rfl,.of ha2,rfl,rfl,b,B,Z2 w,w.length,rfl,hB.mono s2,bt,ti,hc,(by omega),(by omega),(by omega),fun H3 La L s3 hL ok lt3=>?_⟩;have hN3:=s3 _ _ hN;have ha3:=s3 _ _ ha2;dsimp only [ZM];refine ⟨_,rfl,.inl ⟨rfl,_,.of hN3⟩,_,rfl,a,_,_,_,rfl,rfl,.of ha3,rfl,N,_,Ze 0,0,rfl,rfl,.of hN3,V0 n0,fun m lm=>Zan n0 lm,?_⟩;dsimp only [ZM];refine ⟨_,rfl,.inl ⟨rfl,_,.of hN3⟩,_,rfl,a,_,_,_,rfl,rfl,.of ha3,rfl,N,_,Ze (Z2 w).here,(Z2 w).here,rfl,rfl,.of hN3,V0 ti.he,fun m lm=>Zan ti.he lm,?_⟩;dsimp only [ZM];have g3:=s2.trans s3;refine ⟨_,rfl,_,rfl,_,rfl,_,rfl,rfl,La,p1,w1,0,L,rfl,hL,ok,g3.sqt hp1,n1,(by omega),(by rw [lt3.n];exact n0),fun H4 D1 ks s4 nD hD kd mem=>⟨D1,_,rfl,DGet.k (k:=.inl ((Z2 w).here:Int)) hD,?_⟩⟩;refine ⟨_,rfl,_,rfl,_,rfl,_,rfl,rfl,La,p2,w2,0,L,rfl,hL.mono s4.x,ok,(g3.trans s4).sqt hp2,n2,(by omega),(by rw [lt3.n];exact n0),fun H5 D2 js s5 nD2 hD2 kd2 mem2=>⟨D2,_,rfl,DGet.k (k:=.inl ((Z2 w).here:Int)) hD2,rfl,?_⟩⟩;rw [Zd8,Zd8];have sf:WT (RT (Z2 w)) w 0 (Z2 w).here:=(Zfd n9.1).resolve_left fun z=>by rw [hc] at z;cases z
 have no:¬WT (RT (Z2 w)) v 0 (Z2 w).here:=fun z=>ni (.inr z)
 have e:((Z2 w).here∈ks.map (·.1))≠((Z2 w).here∈js.map (·.1)):=by
  rw [propext (mem _),propext (mem2 _),propext (lt3.wt ti n1),propext (lt3.wt ti n2)];rcases tw with ⟨rfl,rfl⟩|⟨rfl,rfl⟩
  ·exact fun z=>no (z▸sf)
  ·exact fun z=>no (z▸sf)
 rw [show (!decide (V.bl (decide ((Z2 w).here∈ks.map (·.1)))=V.bl (decide ((Z2 w).here∈js.map (·.1)))))=true from by
  rw [GR,decide_eq_false_iff_not];intro z;injection z with z;exact e (propext (decide_eq_decide.mp z))]
 exact q _ (g3.trans (s4.trans s5))
theorem ZoW (T:Tx K w mg) (ZeD:Zfk P base T) (ZaG:ZiH P base T) (Jw:ZdS P base T) (Zdl:ZhG P base T) (Zc2:Zgm P base T):Zg7 P base T:=by
 refine Fun.okX (k:=10) T.V8.F Vj (fun vs H Q E h=>h.1) (fun cdv A outer s H vs Q E hr h=>?_);obtain ⟨-,h⟩:=h;obtain ⟨l,ns,rfl,hl,l63,lam,lam2,q⟩:=h
 refine ⟨_,(Zm (YJ QN rfl (ZcY (by rfl) T.n_range (Za Zh Zb)) (ZR (i:=1) Vj.nd rfl (Or.inl rfl))
    (Zm (ZP (i:=2) Vj.nd rfl (Or.inl rfl) (XA ZaT (pv 0) (Y7 (Z1 ZgI Zh (pv 1))) (Y7 (Z1 Ve (Z1 ZgI Zh (pv 1)) Zh))))
   (Zm (ZP (i:=3) Vj.nd rfl (Or.inl rfl) (ZO Jw (hr.mono (by decide)) (by rfl) T.WU.m T.WU.F.kp T.WU.b .nil Zu (Za (XA ZaT (pv 2) Wr (Y7 Zh)) Zb)))
   (Zm (ZP (i:=4) Vj.nd rfl (Or.inl rfl) (ZO Zdl (hr.mono (by decide)) (by rfl) T.Ut.m T.Ut.F.kp T.Ut.b .nil Zu (Za (pv 3) (Za (XA ZaT (pv 2) (Y7 Zh) Wr) Zb))))
   (Zm (ZP (i:=5) Vj.nd rfl (Or.inl rfl) (ZO ZeD (hr.mono (by decide)) (by rfl) T.VW.m T.VW.F.kp T.VW.b .nil Zu (Za (pv 3) (Za (pv 4) Zb))))
   (Zm (ZJ (PW.pt (Xy (XB (YO (XT K (by rfl) T.n_isinstance (Za (pv 5) (Za (X2 (v:=.ty "bool") (by rfl) T.n_bool ZfC rfl) Zb))))) (W0 (ZE Zb9 (ZO ZaG (hr.mono (by decide)) (by rfl) T.WS.m T.WS.F.kp T.WS.b .nil Zu (Za (pv 3) (Za (pv 3) Zb))) Uo (Zy _))))) (Zi (Zx Xu)) ZV)
   (Zi (YJ QN rfl (Y2 (YD (Za (ZQ (Za (pv 3) (Za (pv 4) Zb))) (Za (ZQ (Za (pv 4) (Za (pv 3) Zb))) Zb)))) (Vv rfl (Yx (ZR (i:=6) Vj.nd rfl (Or.inl rfl)) (Yx (ZR (i:=7) Vj.nd rfl (Or.inl rfl)) X7)))
    (Zm (ZP (i:=8) Vj.nd rfl (Or.inl rfl) (ZO ZaG (hr.mono (by decide)) (by rfl) T.WS.m T.WS.F.kp T.WS.b .nil Zu (Za (pv 6) (Za (pv 7) Zb))))
   (Zi (ZJ (PW.pt (Xy (PW.pt (Vc (YO (pv 5)) (Vb (ZE Zb9 (pv 8) Uo (Zy _))))) (W0 (PW.pt (Vc (XB (YO (pv 5))) (Vb (XB (YO (ZO Zc2 (hr.mono (by decide)) (by rfl) T.Uy.m T.Uy.F.kp T.Uy.b .nil Zu (Za (pv 8) (Za (pv 3) (Za (pv 4) Zb)))))))))))) (Zi (Zx Xu)) ZV)))))))))))
   (Zi (Zx Xu))),?_⟩
 refine ⟨_,rfl,by decide,by decide,ZeH (fun i σ Hc=>∃v1 v2 v3 v4 v5 v6 v7 v8:Option V,σ=[some (.ref l),v1,v2,v3,v4,v5,v6,v7,v8]∧SameX H Hc∧Xg T.tb Hc∧YS T.tb2 Hc) ⟨_,_,_,_,_,_,_,_,rfl,.refl _,lam,lam2⟩ ?jt ?jd⟩
 case jd =>
  rintro σ Hc ⟨v1,v2,v3,v4,v5,v6,v7,v8,rfl,sc,l1,l2⟩;exact q _ l1 l2
 case jt =>
 rintro i σ Hc hi ⟨v1,v2,v3,v4,v5,v6,v7,v8,rfl,sc,l1,l2⟩;rw [show (0:Int)+(i:Int)=i from Int.zero_add _];dsimp only [ZM];obtain ⟨cs,ecs,lcs⟩:=ZaH ns (some (15*(i:Int))) (some (15*(i:Int)+15));rw [show 15*(i:Int)+15=((15*i+15:Nat):Int) by omega,show 15*(i:Int)=((15*i:Nat):Int) by omega,HT.sIx_nat,HT.sIx_nat] at lcs;have cm:CMul 15 (i:Int):=.inl ⟨by decide,by decide⟩;refine ⟨_,rfl,_,rfl,_,_,rfl,rfl,cm,_,rfl,_,rfl,_,_,rfl,rfl,cm,_,_,rfl,rfl,_,rfl,l,_,rfl,sc.sql hl,fun C nC=>?_⟩;rw [ecs];have s1:=Zj (o:=.lst (cs.map V.int)) nC;have hC:(Zc Hc C (.lst (cs.map V.int))) C=some (.lst (cs.map V.int)):=Zg;generalize Zc Hc C (.lst (cs.map V.int))=Hd at s1 hC ⊢;replace l1:=l1.same s1;replace l2:=l2.same s1;replace sc:=sc.trans s1.x;clear s1 nC;dsimp only [ZM];obtain ⟨d6,ed6,ld6⟩:=ZaH cs none (some ((6:Nat):Int));obtain ⟨d9,ed9,ld9⟩:=ZaH cs (some ((6:Nat):Int)) none;rw [HT.sIx_none,HT.sIx_nat] at ld6 ld9;refine ⟨_,rfl,_,rfl,C,_,rfl,.of hC,fun D1 n1=>?_⟩;rw [show YL (cs.map V.int) none (some 6)=d6.map V.int from ed6];have s1:=Zj (o:=.lst (d6.map V.int)) n1;refine ⟨rfl,D1,d6,rfl,.of Zg,(by omega),fun H1 p1 w1 s2 hp1 n9 e1=>?_⟩;dsimp only [ZM];have s3:=s1.trans s2;refine ⟨_,rfl,_,rfl,_,rfl,C,_,rfl,.of (s3 _ _ hC),fun D2 n2=>?_⟩;rw [show YL (cs.map V.int) (some 6) none=d9.map V.int from ed9];have g2:=Zj (o:=.lst (d9.map V.int)) n2;refine ⟨rfl,p1,D2,w1,d9,rfl,g2.sqt hp1,n9,(by omega),.of Zg,(by omega),fun H2 p2 w2 s4 hp2 m9 e2=>?_⟩;replace hp1:=(g2.trans s4).sqt hp1;have s5:=s3.trans (g2.trans s4);replace l1:=l1.same s5;replace l2:=l2.same s5;replace sc:=sc.trans s5.x;clear s5 s4 g2 s3 s2 s1 hC;dsimp only [ZM];refine ⟨_,rfl,_,rfl,rfl,p1,p2,w1,w2,rfl,hp1,n9,(by omega),hp2,m9,(by omega),l1,l2,fun H3 r sx3 la lb hr=>?_⟩;replace hp1:=sx3.sqt hp1;replace hp2:=sx3.sqt hp2;dsimp only [ZM]
 have own:∀{w v:List Str},TwoW w1 w1 w v->¬Xc w v->False:=fun {w v} tw ni=>by
  rcases tw with ⟨rfl,rfl⟩|⟨rfl,rfl⟩<;>exact ni (Zfd n9)
 refine ⟨_,rfl,_,.ty "bool",_,_,rfl,rfl,.of (.bl _),T.k_bool_bool,_,rfl,Zr rfl ⟨_,rfl,_,rfl,rfl,p1,p1,w1,w1,rfl,hp1,n9,(by omega),hp1,n9,(by omega),la,lb,fun H4 sx4 la4 lb4 _ _=>⟨rfl,_,rfl,Zr rfl ?_⟩,fun H4 a b B w v sx4 la4 lb4 tw hc ni=>(own tw ni).elim⟩⟩;replace hp1:=sx4.sqt hp1;replace hp2:=sx4.sqt hp2;replace sc:=sc.trans (sx3.trans sx4);refine ⟨_,rfl,_,rfl,few rfl,fun t1 m1=>⟨_,rfl,_,rfl,few rfl,fun t2 m2=>⟨few rfl,fun t0 m0=>?_⟩⟩⟩;have g1:=Zj (o:=.tup [.ref p1,.ref p2]) m1;have g2:=Zj (o:=.tup [.ref p2,.ref p1]) m2;have g0:=Zj (o:=.lst [.ref t1,.ref t2]) m0;have g:=g1.trans (g2.trans g0);have h1:=(g2.trans g0) _ _ (Zg (H:=H4) (a:=t1) (o:=.tup [.ref p1,.ref p2]));have h2:=g0 _ _ (Zg (a:=t2) (o:=.tup [.ref p2,.ref p1]));refine ⟨t0,rfl,⟨_,.of Zg⟩,Wx (xs:=[.ref t1,.ref t2]) (fun k σ Hc=>∃v6 v7 v8:Option V,σ=[some (.ref l),some (.int i),some (.ref C),some (.ref p1),some (.ref p2),some (.bl r),v6,v7,v8]∧SameX (Zc (Zc (Zc H4 t1 (.tup [.ref p1,.ref p2])) t2 (.tup [.ref p2,.ref p1])) t0 (.lst [.ref t1,.ref t2])) Hc∧Xg T.tb Hc∧YS T.tb2 Hc) ?st ?li ?tu ?dn⟩
 case st=>exact ⟨_,_,_,rfl,.refl _,la4.same g,lb4.same g⟩
 case li =>
  rintro k σ Hc _ ⟨v6,v7,v8,rfl,sk,_⟩;exact .of (sk _ _ rfl Zg)
 case dn =>
  rintro σ Hc ⟨v6,v7,v8,rfl,sk,la,lb⟩;exact ⟨_,_,_,_,_,_,_,_,rfl,sc.trans (g.x.trans sk),la,lb⟩
 case tu =>
 rintro k y σ Hc hy ⟨v6,v7,v8,rfl,sk,la,lb⟩;have gsk:=g.x.trans sk
 obtain ⟨tt,q1,q2,w,v,rfl,htt,hq1,hq2,k9,j9,wl,vl,tw⟩:∃(tt q1 q2:Addr) (w v:List Str),y=.ref tt∧Hc tt=some (.tup [.ref q1,.ref q2])∧SqT K Hc q1 (w.map V.str)∧SqT K Hc q2 (v.map V.str)∧(∀s∈w,s∈Zs)∧(∀s∈v,s∈Zs)∧w.length≤7∧v.length≤7∧TwoW w1 w2 w v:=by
  match k,hy with
  |0,hy=>exact ⟨t1,p1,p2,w1,w2,(Qj hy).symm,sk _ _ rfl h1,gsk.sqt hp1,gsk.sqt hp2,n9,m9,(by omega),e2,.inl ⟨rfl,rfl⟩⟩
  |1,hy=>exact ⟨t2,p2,p1,w2,w1,(Qj hy).symm,sk _ _ rfl h2,gsk.sqt hp2,gsk.sqt hp1,m9,n9,e2,(by omega),.inr ⟨rfl,rfl⟩⟩
  |k+2,hy=>cases hy
 refine ⟨tt,_,rfl,.of htt,rfl,_,_,rfl,_,_,rfl,rfl,?_⟩;dsimp only;refine ⟨_,rfl,_,rfl,rfl,q1,q2,w,v,rfl,hq1,k9,(by omega),hq2,j9,(by omega),la,lb,fun H5 sx5 la5 lb5 i1 i2=>?_,fun H5 a b B w' v' sx5 la5 lb5 tw' hc ni ha hB bt=>?_⟩
 ·dsimp only [ZM];obtain rfl:r=true:=hr.mpr (by rcases tw with ⟨rfl,rfl⟩|⟨rfl,rfl⟩<;>first|exact ⟨i1,i2⟩|exact ⟨i2,i1⟩);exact ⟨_,rfl,_,rfl,Z4 ⟨_,rfl,rfl,_,rfl,Zr rfl ⟨_,rfl,_,rfl,Z0 (Z0 ⟨_,_,_,rfl,sk.trans sx5,la5,lb5⟩)⟩⟩⟩
 ·dsimp only [ZM]
  have tw2:TwoW w1 w2 w' v':=by
   rcases tw with ⟨rfl,rfl⟩|⟨rfl,rfl⟩
   ·exact tw'
   ·exact tw'.sym
  obtain rfl:r=false:=by
   cases r with
   |false=>rfl
   |true =>
    obtain ⟨x,y⟩:=hr.mp rfl;rcases tw2 with ⟨rfl,rfl⟩|⟨rfl,rfl⟩
    ·exact absurd x ni
    ·exact absurd y ni
  have gs5:=gsk.trans sx5;exact ⟨_,rfl,_,rfl,Z0 (Z0 ⟨_,rfl,_,rfl,Z4 ⟨_,rfl,_,rfl,_,rfl,rfl,a,p1,p2,b,w1,w2,w',v',B,rfl,ha,hB,bt,gs5.sqt hp1,n9,(by omega),gs5.sqt hp2,m9,e2,tw2,hc,ni,fun H6 s6=>⟨_,rfl,Z0 ⟨_,_,_,rfl,sk.trans (sx5.trans s6.x),la5.same s6,lb5.same s6⟩⟩⟩⟩)⟩
end
theorem ZoU {w:World} {K:W.Frag} {mg:Str->Option Value} (T:Tx K w mg) (LB:LamB base T.cc T.tb mg) (LB2:LamB base T.cc2 T.tb2 mg):Zg7 P base T:=by
 have UW:=Zkx (P:=P) (w:=w) (base:=base) T;have U7:=Zk8 (P:=P) (w:=w) (base:=base) T;have ZcC:=Zj9 (P:=P) (w:=w) (base:=base) T UW;have Zdq:=Zkd (P:=P) (w:=w) (base:=base) T UW;have Zc3:=ZkI (P:=P) (w:=w) (base:=base) T;have Zdt:=Zpl (P:=P) (w:=w) (base:=base) T U7;have Zd4:=Zom (P:=P) (w:=w) (base:=base) T U7 ZcC Zdq Zc3 Zdt;have Zdc:=Zjk (P:=P) (w:=w) (base:=base) T Zd4;have Jv:=Zm2 (P:=P) (w:=w) (base:=base) T;have UL:=ZlZ (P:=P) (w:=w) (base:=base) T;have Zek:=ZoF (P:=P) (w:=w) (base:=base) T;have Jr:=ZnS (P:=P) (w:=w) (base:=base) T Jv;have Jm:=Zmr (P:=P) (w:=w) (base:=base) T Jr;have Zc0:=Zpb (P:=P) (w:=w) (base:=base) T;have Jk:=Zjq (P:=P) (w:=w) (base:=base) T;have ZdH:=Zjz (P:=P) (w:=w) (base:=base) T;have Xj:=Zng (P:=P) (w:=w) (base:=base) T;have W3:=ZmQ (P:=P) (w:=w) (base:=base) T Xj;have Wj:=Zmq (P:=P) (w:=w) (base:=base) T Xj;have ZaP:=ZkY (P:=P) (w:=w) (base:=base) T W3 Wj;have ZcX:=Zj8 (P:=P) (w:=w) (base:=base) T UL Zek Wj ZaP;have ZcP:=Zm8 (P:=P) (w:=w) (base:=base) T Zdc UL Jm Xj ZcX;have XX:=ZnQ (P:=P) (w:=w) (base:=base) T;have Zcn:=ZoG (P:=P) (w:=w) (base:=base) T XX;have Wk:=Zlm (P:=P) (w:=w) (base:=base) T Zc0 Xj;have Zct:=ZlD (P:=P) (w:=w) (base:=base) T Jk Xj;have Zey:=Zi4 (P:=P) (w:=w) (base:=base) T Jk XX Wk Zct;have JB:=ZlX (P:=P) (w:=w) (base:=base) T Jv Jr Jm ZcP XX Zcn Zey;have Jb:=Zo8 (P:=P) (w:=w) (base:=base) T;have Jy:=Zoz (P:=P) (w:=w) (base:=base) T;have Zeo:=Zjh (P:=P) (w:=w) (base:=base) T;have Ul:=ZmX (P:=P) (w:=w) (base:=base) T;have Vp:=Zjo (P:=P) (w:=w) (base:=base) T;have ZdQ:=Zlk (P:=P) (w:=w) (base:=base) T Ul Vp;have ZbL:=ZnH (P:=P) (w:=w) (base:=base) T Jy Ul Vp ZdQ;have Xf:=Zlx (P:=P) (w:=w) (base:=base) T;have ZaR:=Zkl (P:=P) (w:=w) (base:=base) T Xf;have Zb2:=ZmG (P:=P) (w:=w) (base:=base) T Xf ZaR;have Zcp:=Zlg (P:=P) (w:=w) (base:=base) T LB2 ZdH JB Xf Zb2;have Jt:=Zka (P:=P) (w:=w) (base:=base) T Zeo ZbL Xf Zcp;have J1:=ZoD (P:=P) (w:=w) (base:=base) T W3 Wk Jy;have Zd0:=Zk2 (P:=P) (w:=w) (base:=base) T J1;have ZcQ:=ZkD (P:=P) (w:=w) (base:=base) T LB Wj J1 Zd0;have Jd:=Zkf (P:=P) (w:=w) (base:=base) T ZcQ;have Za2:=Zo4 (P:=P) (w:=w) (base:=base) T Jt Jd;have ZeD:=ZoS (P:=P) (w:=w) (base:=base) T Za2;have ZaG:=ZnO (P:=P) (w:=w) (base:=base) T Jt Jd;have Jw:=ZlE (P:=P) (w:=w) (base:=base) T;have Zcd:=Zoo (P:=P) (w:=w) (base:=base) T;have ZaN:=Zpp (P:=P) (w:=w) (base:=base) T Zcd;have ZbQ:=Zl4 (P:=P) (w:=w) (base:=base) T W3 Wk Jb;have Zdl:=Zi1 (P:=P) (w:=w) (base:=base) T Jw;have Zc2:=ZkM (P:=P) (w:=w) (base:=base) T Jb ZaN ZbQ;have Zkc:=ZoW (P:=P) (w:=w) (base:=base) T ZeD ZaG Jw Zdl Zc2;exact Zkc
theorem ZjB {K:W.Frag} {w:World} {mg:Str->Option Value} (T:Tx K w mg) {E:XK} (h:Zae K T.tb T.tb2 vs H Q E):Zib T vs H Q E:=by
 obtain ⟨a,ns,rfl,r⟩:=h;exact ⟨rfl,a,ns,rfl,r⟩
theorem all_mk {l:W.OpenLaw} {w:World} {K:W.Frag} {h:Heap} {mg:Str->Option Value} {fa:Addr} (X:K.In h) (G:h.Ns mainGlobals mg) (hfa:mg "law"=some (.ref fa))
 {OC_Tree:Addr}
 {OC_Book:Addr}
 {f0:Addr}
 {f1:Addr}
 {f2:Addr}
 {f3:Addr}
 {f4:Addr}
 {f5:Addr}
 {f6:Addr}
 {f7:Addr}
 {f8:Addr}
 {f9:Addr}
 {f10:Addr}
 {f11:Addr}
 {f12:Addr}
 {f13:Addr}
 {f14:Addr}
 {f15:Addr}
 {f16:Addr}
 {f17:Addr}
 {f18:Addr}
 {f19:Addr}
 {f20:Addr}
 {f21:Addr}
 {f22:Addr}
 {f23:Addr}
 {f24:Addr}
 {f25:Addr}
 {od25 an25:Option Addr} {sl25:Array (Option Value)} {oc25 kV25 dc25 pm25 cd25 ct25:Value}
 {DT25:Addr} {odD25:Option Addr} {nD25:Nat} {slD25:Array (Option Value)}
 {f26:Addr}
 {f27:Addr}
 {f28:Addr}
 {f29:Addr}
 {f30:Addr}
 {f31:Addr}
 {f32:Addr}
 {f33:Addr}
 {f34:Addr}
 {f35:Addr}
 {f36:Addr}
 {f37:Addr}
 {f38:Addr}
 {f39:Addr}
 {f40:Addr}
 {f41:Addr}
 {f42:Addr}
 {f43:Addr}
 {f44:Addr}
 {f45:Addr}
 {f46:Addr}
 {f47:Addr}
 {f48:Addr}
 {f49:Addr}
 {f50:Addr}
 {f51:Addr}
 {f52:Addr}
 {f53:Addr}
 {C0:Addr}
 {C1:Addr}
 {C2:Addr}
 {C3:Addr}
 {C4:Addr}
 {C5:Addr}
 {C6:Addr}
 {F0:Addr} {odF:Option Addr} {nF:Nat} {slF:Array (Option Value)} {tL:Tok}
 {P0 G0:Addr} {tp0:Tok} {odp0 odg0:Option Addr} {np0 ng0:Nat} {slp0 slg0:Array (Option Value)}
 {P1 G1:Addr} {tp1:Tok} {odp1 odg1:Option Addr} {np1 ng1:Nat} {slp1 slg1:Array (Option Value)}
 {P2 G2:Addr} {tp2:Tok} {odp2 odg2:Option Addr} {np2 ng2:Nat} {slp2 slg2:Array (Option Value)}
 {P3 G3:Addr} {tp3:Tok} {odp3 odg3:Option Addr} {np3 ng3:Nat} {slp3 slg3:Array (Option Value)}
 {P4 G4:Addr} {tp4:Tok} {odp4 odg4:Option Addr} {np4 ng4:Nat} {slp4 slg4:Array (Option Value)}
 {P5 G5:Addr} {tp5:Tok} {odp5 odg5:Option Addr} {np5 ng5:Nat} {slp5 slg5:Array (Option Value)}
 {KT0:Addr} {odT0:Option Addr} {nT0:Nat} {slT0:Array (Option Value)} {tt0_0:Tok} {tt0_1:Tok} {tt0_2:Tok} {tt0_3:Tok} {tt0_4:Tok} {tt0_5:Tok} {tt0_6:Tok}
 {KT1:Addr} {odT1:Option Addr} {nT1:Nat} {slT1:Array (Option Value)} {tt1_0:Tok} {tt1_1:Tok}
 {ti0:Tok}
 {ti1:Tok}
 {CC TB:Addr} {oF oC:Value} {dF dC:Option Addr} {sF sC:Array (Option Value)} {kVF dcF pmF ctF:Value} {anF:Option Addr} {vC:Array Value}
 {CC2 TB2:Addr} {oF2 oC2:Value} {dF2 dC2:Option Addr} {sF2 sC2:Array (Option Value)} {kVF2 dcF2 pmF2 ctF2:Value} {anF2:Option Addr} {vC2:Array Value}
 {KD0 nKD0:Addr} {tk0_0 tv0_0:Tok} {tk0_1 tv0_1:Tok}
 {KD1 nKD1:Addr} {tk1_0 tv1_0:Tok} {tk1_1 tv1_1:Tok}
 (ao1:W.nsIn K mainGlobals "Tree"=some (some (.ref OC_Tree)))
 (ao0:W.nsIn K mainGlobals "Book"=some (some (.ref OC_Book)))
 (a0:W.nsIn K mainGlobals "is_whole"=some (some (.ref f0)))
 (l0:DefIn K "is_whole" "is_whole" ZdP f0)
 (a1:W.nsIn K mainGlobals "is_name"=some (some (.ref f1)))
 (l1:DefIn K "is_name" "is_name" ZcE f1)
 (a2:W.nsIn K mainGlobals "is_day"=some (some (.ref f2)))
 (l2:DefIn K "is_day" "is_day" ZbJ f2)
 (a3:W.nsIn K mainGlobals "is_amount"=some (some (.ref f3)))
 (l3:DefIn K "is_amount" "is_amount" ZbM f3)
 (a4:W.nsIn K mainGlobals "is_sort"=some (some (.ref f4)))
 (l4:DefIn K "is_sort" "is_sort" Zc4 f4)
 (a5:W.nsIn K mainGlobals "is_parent"=some (some (.ref f5)))
 (l5:DefIn K "is_parent" "is_parent" ZdJ f5)
 (a6:W.nsIn K mainGlobals "has_form"=some (some (.ref f6)))
 (l6:DefIn K "has_form" "has_form" Zea f6)
 (a7:W.nsIn K mainGlobals "is_entry"=some (some (.ref f7)))
 (l7:DefIn K "is_entry" "is_entry" Zcg f7)
 (a8:W.nsIn K mainGlobals "is_tie"=some (some (.ref f8)))
 (l8:DefIn K "is_tie" "is_tie" ZcS f8)
 (a9:W.nsIn K mainGlobals "named_in"=some (some (.ref f9)))
 (l9:DefIn K "named_in" "named_in" ZdU f9)
 (a10:W.nsIn K mainGlobals "day_of"=some (some (.ref f10)))
 (l10:DefIn K "day_of" "day_of" Zb4 f10)
 (a11:W.nsIn K mainGlobals "as_told"=some (some (.ref f11)))
 (l11:DefIn K "as_told" "as_told" ZbW f11)
 (a12:W.nsIn K mainGlobals "key_of"=some (some (.ref f12)))
 (l12:DefIn K "key_of" "key_of" Zdf f12)
 (a13:W.nsIn K mainGlobals "is_letter"=some (some (.ref f13)))
 (l13:DefIn K "is_letter" "is_letter" Zcs f13)
 (a14:W.nsIn K mainGlobals "pair_of"=some (some (.ref f14)))
 (l14:DefIn K "pair_of" "pair_of" ZbS f14)
 (a15:W.findIn K (.ref OC_Book) "__init__"=some (some (.ref f15))) (i15:W.isFn K (.ref f15)=true)
 (l15:DefIn K "__init__" "Book.__init__" Zco f15)
 (a16:W.findIn K (.ref OC_Book) "birth_of"=some (some (.ref f16))) (i16:W.isFn K (.ref f16)=true)
 (l16:DefIn K "birth_of" "Book.birth_of" ZdA f16)
 (a17:W.findIn K (.ref OC_Book) "sort_of"=some (some (.ref f17))) (i17:W.isFn K (.ref f17)=true)
 (l17:DefIn K "sort_of" "Book.sort_of" ZdC f17)
 (a18:W.findIn K (.ref OC_Book) "born_on"=some (some (.ref f18))) (i18:W.isFn K (.ref f18)=true)
 (l18:DefIn K "born_on" "Book.born_on" ZcL f18)
 (a19:W.findIn K (.ref OC_Book) "parent_fits"=some (some (.ref f19))) (i19:W.isFn K (.ref f19)=true)
 (l19:DefIn K "parent_fits" "Book.parent_fits" Zdw f19)
 (a20:W.findIn K (.ref OC_Book) "fits"=some (some (.ref f20))) (i20:W.isFn K (.ref f20)=true)
 (l20:DefIn K "fits" "Book.fits" ZcM f20)
 (a21:W.findIn K (.ref OC_Book) "refuse"=some (some (.ref f21))) (i21:W.isFn K (.ref f21)=true)
 (l21:DefIn K "refuse" "Book.refuse" ZbE f21)
 (a22:W.findIn K (.ref OC_Book) "link"=some (some (.ref f22))) (i22:W.isFn K (.ref f22)=true)
 (l22:DefIn K "link" "Book.link" ZcR f22)
 (a23:W.findIn K (.ref OC_Book) "note_birth"=some (some (.ref f23))) (i23:W.isFn K (.ref f23)=true)
 (l23:DefIn K "note_birth" "Book.note_birth" Zb3 f23)
 (a24:W.findIn K (.ref OC_Book) "step"=some (some (.ref f24))) (i24:W.isFn K (.ref f24)=true)
 (l24:DefIn K "step" "Book.step" ZdG f24)
 (a25:W.findIn K (.ref OC_Book) "stands"=some (some (.ref f25))) (i25:W.isFn K (.ref f25)=true)
 (l25:K.lookup f25=some ⟨oc25,od25,.func (W.fnOf "stands" "Book.stands" (Xn WH) (Y3 WH) (Zw WH) (.ref DT25) kV25 dc25 pm25 an25 cd25 ct25),sl25⟩)
 (cc25:W.codeIn K cd25 "Book.stands"=true) (k25:W.keepIn K (.ref f25)=true)
 (ldt25:K.lookup DT25=some ⟨.type "tuple",odD25,.seq #[.none] nD25,slD25⟩)
 (a26:W.findIn K (.ref OC_Book) "note_tie"=some (some (.ref f26))) (i26:W.isFn K (.ref f26)=true)
 (l26:DefIn K "note_tie" "Book.note_tie" Zcv f26)
 (a27:W.findIn K (.ref OC_Book) "put"=some (some (.ref f27))) (i27:W.isFn K (.ref f27)=true)
 (l27:DefIn K "put" "Book.put" ZbI f27)
 (a28:W.findIn K (.ref OC_Book) "people"=some (some (.ref f28))) (i28:W.isFn K (.ref f28)=true)
 (l28:DefIn K "people" "Book.people" ZcH f28)
 (a29:W.nsIn K mainGlobals "is_test"=some (some (.ref f29)))
 (l29:DefIn K "is_test" "is_test" Zem f29)
 (a30:W.findIn K (.ref OC_Tree) "__init__"=some (some (.ref f30))) (i30:W.isFn K (.ref f30)=true)
 (l30:DefIn K "__init__" "Tree.__init__" ZdV f30)
 (a31:W.findIn K (.ref OC_Tree) "ask"=some (some (.ref f31))) (i31:W.isFn K (.ref f31)=true)
 (l31:DefIn K "ask" "Tree.ask" ZbP f31)
 (a32:W.findIn K (.ref OC_Tree) "grow"=some (some (.ref f32))) (i32:W.isFn K (.ref f32)=true)
 (l32:DefIn K "grow" "Tree.grow" Zb6 f32)
 (a33:W.findIn K (.ref OC_Tree) "go_up"=some (some (.ref f33))) (i33:W.isFn K (.ref f33)=true)
 (l33:DefIn K "go_up" "Tree.go_up" Zc1 f33)
 (a34:W.findIn K (.ref OC_Tree) "go"=some (some (.ref f34))) (i34:W.isFn K (.ref f34)=true)
 (l34:DefIn K "go" "Tree.go" ZdL f34)
 (a35:W.nsIn K mainGlobals "name_of"=some (some (.ref f35)))
 (l35:DefIn K "name_of" "name_of" ZbK f35)
 (a36:W.nsIn K mainGlobals "parent_name"=some (some (.ref f36)))
 (l36:DefIn K "parent_name" "parent_name" ZeA f36)
 (a37:W.nsIn K mainGlobals "birth"=some (some (.ref f37)))
 (l37:DefIn K "birth" "birth" ZbF f37)
 (a38:W.nsIn K mainGlobals "book_of_tree"=some (some (.ref f38)))
 (l38:DefIn K "book_of_tree" "book_of_tree" Jz f38)
 (a39:W.nsIn K mainGlobals "book_of"=some (some (.ref f39)))
 (l39:DefIn K "book_of" "book_of" Zd9 f39)
 (a40:W.nsIn K mainGlobals "led_by_step"=some (some (.ref f40)))
 (l40:DefIn K "led_by_step" "led_by_step" Zep f40)
 (a41:W.nsIn K mainGlobals "layers_of"=some (some (.ref f41)))
 (l41:DefIn K "layers_of" "layers_of" Zei f41)
 (a42:W.nsIn K mainGlobals "reach"=some (some (.ref f42)))
 (l42:DefIn K "reach" "reach" U3 f42)
 (a43:W.nsIn K mainGlobals "leads_there"=some (some (.ref f43)))
 (l43:DefIn K "leads_there" "leads_there" Zev f43)
 (a44:W.nsIn K mainGlobals "within"=some (some (.ref f44)))
 (l44:DefIn K "within" "within" Zeg f44)
 (a45:W.nsIn K mainGlobals "alike"=some (some (.ref f45)))
 (l45:DefIn K "alike" "alike" ZcO f45)
 (a46:W.nsIn K mainGlobals "parted"=some (some (.ref f46)))
 (l46:DefIn K "parted" "parted" Zc7 f46)
 (a47:W.nsIn K mainGlobals "_law_free"=some (some (.ref f47)))
 (l47:DefIn K "_law_free" "_law_free" Zcc f47)
 (a48:W.nsIn K mainGlobals "_law_step"=some (some (.ref f48)))
 (l48:DefIn K "_law_step" "_law_step" Zeq f48)
 (a49:W.nsIn K mainGlobals "_law_reach"=some (some (.ref f49)))
 (l49:DefIn K "_law_reach" "_law_reach" ZcW f49)
 (a50:W.nsIn K mainGlobals "_law_land_of"=some (some (.ref f50)))
 (l50:DefIn K "_law_land_of" "_law_land_of" Zef f50)
 (a51:W.nsIn K mainGlobals "_law_other"=some (some (.ref f51)))
 (l51:DefIn K "_law_other" "_law_other" ZcU f51)
 (a52:W.nsIn K mainGlobals "_law_parts"=some (some (.ref f52)))
 (l52:DefIn K "_law_parts" "_law_parts" Zdv f52)
 (a53:W.nsIn K mainGlobals "law"=some (some (.ref f53)))
 (l53:DefIn K "law" "law" Zej f53)
 (pg0:W.plainGet K OC_Book Str.empty=true) (hd0:W.hasDictIn K OC_Book=true) (po0:W.plainOver K OC_Book=true) (sa0:W.findIn K (.ref OC_Book) "__setattr__"=some (some (.builtin "object.__setattr__"))) (mk0:W.makesIn K OC_Book=true) (kc0:W.keepIn K (.ref OC_Book)=true)
 (na0_kept:W.findIn K (.ref OC_Book) "kept"=some none)
 (na0_births:W.findIn K (.ref OC_Book) "births"=some none)
 (na0_links:W.findIn K (.ref OC_Book) "links"=some none)
 (na0_ties:W.findIn K (.ref OC_Book) "ties"=some none)
 (na0_sums:W.findIn K (.ref OC_Book) "sums"=some none)
 (pg1:W.plainGet K OC_Tree Str.empty=true) (hd1:W.hasDictIn K OC_Tree=true) (po1:W.plainOver K OC_Tree=true) (sa1:W.findIn K (.ref OC_Tree) "__setattr__"=some (some (.builtin "object.__setattr__"))) (mk1:W.makesIn K OC_Tree=true) (kc1:W.keepIn K (.ref OC_Tree)=true)
 (na1_days:W.findIn K (.ref OC_Tree) "days"=some none)
 (na1_sorts:W.findIn K (.ref OC_Tree) "sorts"=some none)
 (na1_parents:W.findIn K (.ref OC_Tree) "parents"=some none)
 (na1_takings:W.findIn K (.ref OC_Tree) "takings"=some none)
 (na1_unions:W.findIn K (.ref OC_Tree) "unions"=some none)
 (na1_clash:W.findIn K (.ref OC_Tree) "clash"=some none)
 (na1_here:W.findIn K (.ref OC_Tree) "here"=some none)
 (ac0:W.nsIn K mainGlobals "HeirError"=some (some (.ref C0)))
 (ac1:W.nsIn K mainGlobals "NoEntry"=some (some (.ref C1)))
 (xc1:W.excIn K C1 XN "ValueError.__new__"=true)
 (e1_1:W.findIn K (.ref C1) "__getattribute__"=some (some (.builtin "BaseException.__getattribute__"))) (e2_1:W.findIn K (.ref C1) "__getattr__"=some none) (e3_1:W.findIn K (.ref C1) "__class__"=some (some (.builtin "object.__class__"))) (e4_1:W.mroIn K C1 (.type "BaseException")=some true) (e5_1:W.mroIn K C1 (.type "object")=some true)
 (ac2:W.nsIn K mainGlobals "Full"=some (some (.ref C2)))
 (xc2:W.excIn K C2 XN "ValueError.__new__"=true)
 (e1_2:W.findIn K (.ref C2) "__getattribute__"=some (some (.builtin "BaseException.__getattribute__"))) (e2_2:W.findIn K (.ref C2) "__getattr__"=some none) (e3_2:W.findIn K (.ref C2) "__class__"=some (some (.builtin "object.__class__"))) (e4_2:W.mroIn K C2 (.type "BaseException")=some true) (e5_2:W.mroIn K C2 (.type "object")=some true)
 (ac3:W.nsIn K mainGlobals "NoPerson"=some (some (.ref C3)))
 (xc3:W.excIn K C3 XN "ValueError.__new__"=true)
 (e1_3:W.findIn K (.ref C3) "__getattribute__"=some (some (.builtin "BaseException.__getattribute__"))) (e2_3:W.findIn K (.ref C3) "__getattr__"=some none) (e3_3:W.findIn K (.ref C3) "__class__"=some (some (.builtin "object.__class__"))) (e4_3:W.mroIn K C3 (.type "BaseException")=some true) (e5_3:W.mroIn K C3 (.type "object")=some true)
 (ac4:W.nsIn K mainGlobals "Twice"=some (some (.ref C4)))
 (xc4:W.excIn K C4 XN "ValueError.__new__"=true)
 (e1_4:W.findIn K (.ref C4) "__getattribute__"=some (some (.builtin "BaseException.__getattribute__"))) (e2_4:W.findIn K (.ref C4) "__getattr__"=some none) (e3_4:W.findIn K (.ref C4) "__class__"=some (some (.builtin "object.__class__"))) (e4_4:W.mroIn K C4 (.type "BaseException")=some true) (e5_4:W.mroIn K C4 (.type "object")=some true)
 (ac5:W.nsIn K mainGlobals "NoFit"=some (some (.ref C5)))
 (xc5:W.excIn K C5 XN "ValueError.__new__"=true)
 (e1_5:W.findIn K (.ref C5) "__getattribute__"=some (some (.builtin "BaseException.__getattribute__"))) (e2_5:W.findIn K (.ref C5) "__getattr__"=some none) (e3_5:W.findIn K (.ref C5) "__class__"=some (some (.builtin "object.__class__"))) (e4_5:W.mroIn K C5 (.type "BaseException")=some true) (e5_5:W.mroIn K C5 (.type "object")=some true)
 (ac6:W.nsIn K mainGlobals "NoWay"=some (some (.ref C6)))
 (xc6:W.excIn K C6 XN "ValueError.__new__"=true)
 (e1_6:W.findIn K (.ref C6) "__getattribute__"=some (some (.builtin "BaseException.__getattribute__"))) (e2_6:W.findIn K (.ref C6) "__getattr__"=some none) (e3_6:W.findIn K (.ref C6) "__class__"=some (some (.builtin "object.__class__"))) (e4_6:W.mroIn K C6 (.type "BaseException")=some true) (e5_6:W.mroIn K C6 (.type "object")=some true)
 (z_abs:W.nsIn K mainGlobals "abs"=some none)
 (z_all:W.nsIn K mainGlobals "all"=some none)
 (z_bool:W.nsIn K mainGlobals "bool"=some none)
 (z_int:W.nsIn K mainGlobals "int"=some none)
 (z_isinstance:W.nsIn K mainGlobals "isinstance"=some none)
 (z_len:W.nsIn K mainGlobals "len"=some none)
 (z_list:W.nsIn K mainGlobals "list"=some none)
 (z_max:W.nsIn K mainGlobals "max"=some none)
 (z_min:W.nsIn K mainGlobals "min"=some none)
 (z_range:W.nsIn K mainGlobals "range"=some none)
 (z_sorted:W.nsIn K mainGlobals "sorted"=some none)
 (z_str:W.nsIn K mainGlobals "str"=some none)
 (z_tuple:W.nsIn K mainGlobals "tuple"=some none)
 (z_zip:W.nsIn K mainGlobals "zip"=some none)
 (q_k_int_int:W.kitOne K (.type "int") (.type "int")=some true)
 (q_k_int_str:W.kitOne K (.type "int") (.type "str")=some false)
 (q_k_int_tuple:W.kitOne K (.type "int") (.type "tuple")=some false)
 (q_k_int_bool:W.kitOne K (.type "int") (.type "bool")=some false)
 (q_k_str_int:W.kitOne K (.type "str") (.type "int")=some false)
 (q_k_str_str:W.kitOne K (.type "str") (.type "str")=some true)
 (q_k_str_tuple:W.kitOne K (.type "str") (.type "tuple")=some false)
 (q_k_bool_int:W.kitOne K (.type "bool") (.type "int")=some true)
 (q_k_bool_str:W.kitOne K (.type "bool") (.type "str")=some false)
 (q_k_bool_tuple:W.kitOne K (.type "bool") (.type "tuple")=some false)
 (q_k_bool_bool:W.kitOne K (.type "bool") (.type "bool")=some true)
 (q_k_NoneType_int:W.kitOne K (.type "NoneType") (.type "int")=some false)
 (q_k_NoneType_str:W.kitOne K (.type "NoneType") (.type "str")=some false)
 (q_k_NoneType_tuple:W.kitOne K (.type "NoneType") (.type "tuple")=some false)
 (q_k_tuple_int:W.kitOne K (.type "tuple") (.type "int")=some false)
 (q_k_tuple_str:W.kitOne K (.type "tuple") (.type "str")=some false)
 (q_k_tuple_tuple:W.kitOne K (.type "tuple") (.type "tuple")=some true)
 (q_k_list_int:W.kitOne K (.type "list") (.type "int")=some false)
 (q_k_list_str:W.kitOne K (.type "list") (.type "str")=some false)
 (q_k_list_tuple:W.kitOne K (.type "list") (.type "tuple")=some false)
 (q_k_dict_int:W.kitOne K (.type "dict") (.type "int")=some false)
 (q_k_dict_str:W.kitOne K (.type "dict") (.type "str")=some false)
 (q_k_dict_tuple:W.kitOne K (.type "dict") (.type "tuple")=some false)
 (q_kl_list:W.kitOne K (.type "list") (.type "list")=some true)
 (q_kx_HeirError:W.kitOne K (.ref C3) (.ref C0)=some true)
 (q_kx_ValueError:W.kitOne K (.ref C3) (.type "ValueError")=some true)
 (y_ci:W.findIn K (.ref OC_Book) "__class__"=some (some (.builtin "object.__class__")))
 (y_mo:W.mroIn K OC_Book (.type "object")=some true)
 (y_kp:W.kitOne K (.ref OC_Book) (.ref OC_Book)=some true)
 (y_cg:W.specialIn K (.builtin "object.__class__") "__get__"=some (some (.builtin "getset_descriptor.__get__")))
 (y_ct:W.takesIn K (.builtin "object.__class__")=some true)
 (zF:W.nsIn K mainGlobals "FORMS"=some (some (.ref F0)))
 (zL:W.nsIn K mainGlobals "LETTERS"=some (some (.str "abcdefghijklmnopqrstuvwxyz" tL)))
 (uF:K.lookup F0=some ⟨.type "tuple",odF,.seq #[.ref P0,.ref P1,.ref P2,.ref P3,.ref P4,.ref P5] nF,slF⟩)
 (up0:K.lookup P0=some ⟨.type "tuple",odp0,.seq #[.str "born" tp0,.ref G0] np0,slp0⟩)
 (up1:K.lookup P1=some ⟨.type "tuple",odp1,.seq #[.str "taken" tp1,.ref G1] np1,slp1⟩)
 (up2:K.lookup P2=some ⟨.type "tuple",odp2,.seq #[.str "union" tp2,.ref G2] np2,slp2⟩)
 (up3:K.lookup P3=some ⟨.type "tuple",odp3,.seq #[.str "parted" tp3,.ref G3] np3,slp3⟩)
 (up4:K.lookup P4=some ⟨.type "tuple",odp4,.seq #[.str "dead" tp4,.ref G4] np4,slp4⟩)
 (up5:K.lookup P5=some ⟨.type "tuple",odp5,.seq #[.str "given" tp5,.ref G5] np5,slp5⟩)
 (ug0:K.lookup G0=some ⟨.type "tuple",odg0,.seq #[.ref f1,.ref f4,.ref f2,.ref f5,.ref f5] ng0,slg0⟩)
 (ug1:K.lookup G1=some ⟨.type "tuple",odg1,.seq #[.ref f1,.ref f1,.ref f2] ng1,slg1⟩)
 (ug2:K.lookup G2=some ⟨.type "tuple",odg2,.seq #[.ref f1,.ref f1,.ref f2] ng2,slg2⟩)
 (ug3:K.lookup G3=some ⟨.type "tuple",odg3,.seq #[.ref f1,.ref f1,.ref f2] ng3,slg3⟩)
 (ug4:K.lookup G4=some ⟨.type "tuple",odg4,.seq #[.ref f1,.ref f2] ng4,slg4⟩)
 (ug5:K.lookup G5=some ⟨.type "tuple",odg5,.seq #[.ref f1,.ref f1,.ref f3,.ref f2] ng5,slg5⟩)
 (zt0:W.nsIn K mainGlobals "STEP_LETTERS"=some (some (.ref KT0)))
 (ut0:K.lookup KT0=some ⟨.type "tuple",odT0,.seq #[.str "F" tt0_0,.str "M" tt0_1,.str "T" tt0_2,.str "f" tt0_3,.str "m" tt0_4,.str "t" tt0_5,.str "S" tt0_6] nT0,slT0⟩)
 (zt1:W.nsIn K mainGlobals "TESTS"=some (some (.ref KT1)))
 (ut1:K.lookup KT1=some ⟨.type "tuple",odT1,.seq #[.str "he" tt1_0,.str "she" tt1_1] nT1,slT1⟩)
 (zi0:W.nsIn K mainGlobals "MOST_ENTRIES"=some (some (.int 400 ti0)))
 (zi1:W.nsIn K mainGlobals "MOST_PEOPLE"=some (some (.int 60 ti1)))
 (lF:K.lookup f42=some ⟨oF,dF,.func (W.fnOf "reach" "reach" (Xn U3) (Y3 U3) (Zw U3) .none kVF dcF pmF anF (.ref CC) ctF),sF⟩)
 (lC:K.lookup CC=some ⟨oC,dC,.fields vC,sC⟩)
 (vC11:vC[11]?=some (.ref TB))
 (kTB:K.lookup TB=none)
 (lF2:K.lookup f38=some ⟨oF2,dF2,.func (W.fnOf "book_of_tree" "book_of_tree" (Xn Jz) (Y3 Jz) (Zw Jz) .none kVF2 dcF2 pmF2 anF2 (.ref CC2) ctF2),sF2⟩)
 (lC2:K.lookup CC2=some ⟨oC2,dC2,.fields vC2,sC2⟩)
 (vC211:vC2[11]?=some (.ref TB2))
 (kTB2:K.lookup TB2=none)
 (ttb:(TB2==TB)=false)
 (zD0:W.nsIn K mainGlobals "SORT_OF_PARENT"=some (some (.ref KD0)))
 (sD0:(KD0==sysModules)=false)
 (uD0:K.lookup KD0=some ⟨.type "dict",none,.dict #[⟨Vx w (.inr "F"),.str "F" tk0_0,.str "he" tv0_0⟩,⟨Vx w (.inr "M"),.str "M" tk0_1,.str "she" tv0_1⟩] nKD0,#[]⟩)
 (zD1:W.nsIn K mainGlobals "LETTER_UP"=some (some (.ref KD1)))
 (sD1:(KD1==sysModules)=false)
 (uD1:K.lookup KD1=some ⟨.type "dict",none,.dict #[⟨Vx w (.inr "f"),.str "f" tk1_0,.str "F" tv1_0⟩,⟨Vx w (.inr "m"),.str "m" tk1_1,.str "M" tv1_1⟩] nKD1,#[]⟩) :
  ∃(fd:FuncData) (cc tb cc2 tb2:Addr),W.tabIn K "reach"=some (cc,tb)∧K.lookup tb=none∧W.tabIn K "book_of_tree"=some (cc2,tb2)∧K.lookup tb2=none∧tb2≠tb∧(∀(s:Shared) (v:Value),BindsTo s fd ⟨[v],[]⟩ [("_law_script",v)])∧∀base:Heap,K.In base->base.Ns mainGlobals mg->LamB base cc tb mg->LamB base cc2 tb2 mg->FnOk l.prog w K mg base (Zz l.prog w) 11 fa fd ["_law_script"] (Zae K tb tb2):=by
 have e:=hfa.symm.trans (QT X G a53);cases e;have T:Σ' (T:Tx K w mg),T.V8.a=fa∧T.cc=CC∧T.tb=TB∧T.cc2=CC2∧T.tb2=TB2:=⟨{ c_Tree:=OC_Tree,c_Book:=OC_Book,WO:=.of X G a0 l0 (fun _ _ _ _ _ _=>YA fun _=>rfl),YE:=.of X G a1 l1 (fun _ _ _ _ _ _=>YA fun _=>rfl),Xw:=.of X G a2 l2 (fun _ _ _ _ _ _=>YA fun _=>rfl),WE:=.of X G a3 l3 (fun _ _ _ _ _ _=>YA fun _=>rfl),WG:=.of X G a4 l4 (fun _ _ _ _ _ _=>YA fun _=>rfl),Wg:=.of X G a5 l5 (fun _ _ _ _ _ _=>YA fun _=>rfl),Up:=.of X G a6 l6 (fun _ _ _ _ _ _=>YY fun _ _=>rfl),Ug:=.of X G a7 l7 (fun _ _ _ _ _ _=>YA fun _=>rfl),WC:=.of X G a8 l8 (fun _ _ _ _ _ _=>YA fun _=>rfl),WD:=.of X G a9 l9 (fun _ _ _ _ _ _=>YA fun _=>rfl),Uf:=.of X G a10 l10 (fun _ _ _ _ _ _=>YA fun _=>rfl),WX:=.of X G a11 l11 (fun _ _ _ _ _ _=>YA fun _=>rfl),WA:=.of X G a12 l12 (fun _ _ _ _ _ _=>YA fun _=>rfl),V7:=.of X G a13 l13 (fun _ _ _ _ _ _=>YA fun _=>rfl),W1:=.of X G a14 l14 (fun _ _ _ _ _ _=>YY fun _ _=>rfl),UO:=.of a15 i15 l15 (fun _ _ _ _ _ _=>YA fun _=>rfl),Xh:=.of a16 i16 l16 (fun _ _ _ _ _ _=>YY fun _ _=>rfl),Wy:=.of a17 i17 l17 (fun _ _ _ _ _ _=>YY fun _ _=>rfl),Xx:=.of a18 i18 l18 (fun _ _ _ _ _ _=>YY fun _ _=>rfl),VA:=.of a19 i19 l19 (fun _ _ _ _ _ _=>un4 fun _ _ _ _=>rfl),UY:=.of a20 i20 l20 (fun _ _ _ _ _ _=>YY fun _ _=>rfl),Jl:=.of a21 i21 l21 (fun _ _ _ _ _ _=>YY fun _ _=>rfl),Y5:=.of a22 i22 l22 (fun _ _ _ _ _ _=>un4 fun _ _ _ _=>rfl),U6:=.of a23 i23 l23 (fun _ _ _ _ _ _=>YY fun _ _=>rfl),XE:=.of a24 i24 l24 (fun _ _ _ _ _ _=>Vq fun _ _ _=>rfl),a_Book_stands:=f25,fd_Book_stands:=W.fnOf "stands" "Book.stands" (Xn WH) (Y3 WH) (Zw WH) (.ref DT25) kV25 dc25 pm25 an25 cd25 ct25,dt_Book_stands:=DT25,F_Book_stands:=ZgX (st:=WH) l25 cc25 k25,b_Book_stands:=(ZgX (st:=WH) l25 cc25 k25).binds1 ldt25 rfl (fun _ _ _ _ _ _ us hl=>match us,hl with|[_,_,_],_=>⟨_,rfl,rfl⟩),me_Book_stands:=⟨a25,i25,k25⟩,U1:=.of a26 i26 l26 (fun _ _ _ _ _ _=>YY fun _ _=>rfl),Wv:=.of a27 i27 l27 (fun _ _ _ _ _ _=>YY fun _ _=>rfl),VI:=.of a28 i28 l28 (fun _ _ _ _ _ _=>YA fun _=>rfl),WY:=.of X G a29 l29 (fun _ _ _ _ _ _=>YA fun _=>rfl),UM:=.of a30 i30 l30 (fun _ _ _ _ _ _=>YA fun _=>rfl),WL:=.of a31 i31 l31 (fun _ _ _ _ _ _=>Vq fun _ _ _=>rfl),XF:=.of a32 i32 l32 (fun _ _ _ _ _ _=>YY fun _ _=>rfl),Jx:=.of a33 i33 l33 (fun _ _ _ _ _ _=>YY fun _ _=>rfl),UP:=.of a34 i34 l34 (fun _ _ _ _ _ _=>YY fun _ _=>rfl),Yt:=.of X G a35 l35 (fun _ _ _ _ _ _=>YA fun _=>rfl),WR:=.of X G a36 l36 (fun _ _ _ _ _ _=>Vq fun _ _ _=>rfl),Uw:=.of X G a37 l37 (fun _ _ _ _ _ _=>YY fun _ _=>rfl),VQ:=.of X G a38 l38 (fun _ _ _ _ _ _=>YA fun _=>rfl),WK:=.of X G a39 l39 (fun _ _ _ _ _ _=>YA fun _=>rfl),Uc:=.of X G a40 l40 (fun _ _ _ _ _ _=>Vq fun _ _ _=>rfl),V3:=.of X G a41 l41 (fun _ _ _ _ _ _=>Vq fun _ _ _=>rfl),VJ:=.of X G a42 l42 (fun _ _ _ _ _ _=>Vq fun _ _ _=>rfl),Wt:=.of X G a43 l43 (fun _ _ _ _ _ _=>YY fun _ _=>rfl),Ws:=.of X G a44 l44 (fun _ _ _ _ _ _=>YY fun _ _=>rfl),VW:=.of X G a45 l45 (fun _ _ _ _ _ _=>YY fun _ _=>rfl),WS:=.of X G a46 l46 (fun _ _ _ _ _ _=>YY fun _ _=>rfl),WU:=.of X G a47 l47 (fun _ _ _ _ _ _=>YA fun _=>rfl),V6:=.of X G a48 l48 (fun _ _ _ _ _ _=>Vq fun _ _ _=>rfl),WV:=.of X G a49 l49 (fun _ _ _ _ _ _=>Vq fun _ _ _=>rfl),V5:=.of X G a50 l50 (fun _ _ _ _ _ _=>YA fun _=>rfl),Ut:=.of X G a51 l51 (fun _ _ _ _ _ _=>YY fun _ _=>rfl),Uy:=.of X G a52 l52 (fun _ _ _ _ _ _=>Vq fun _ _ _=>rfl),V8:=.of X G a53 l53 (fun _ _ _ _ _ _=>YA fun _=>rfl),m_Book:=(QT X G ao0),cl_Book:=⟨pg0,hd0,po0,sa0⟩,mk_Book:=⟨mk0,a15,i15,kc0⟩,na_Book_kept:=na0_kept,na_Book_births:=na0_births,na_Book_links:=na0_links,na_Book_ties:=na0_ties,na_Book_sums:=na0_sums,m_Tree:=(QT X G ao1),cl_Tree:=⟨pg1,hd1,po1,sa1⟩,mk_Tree:=⟨mk1,a30,i30,kc1⟩,na_Tree_days:=na1_days,na_Tree_sorts:=na1_sorts,na_Tree_parents:=na1_parents,na_Tree_takings:=na1_takings,na_Tree_unions:=na1_unions,na_Tree_clash:=na1_clash,na_Tree_here:=na1_here,c_HeirError:=C0,m_HeirError:=(QT X G ac0),c_NoEntry:=C1,m_NoEntry:=(QT X G ac1),x_NoEntry:=xc1,e_NoEntry:=⟨e1_1,e2_1,e3_1,e4_1,e5_1⟩,c_Full:=C2,m_Full:=(QT X G ac2),x_Full:=xc2,e_Full:=⟨e1_2,e2_2,e3_2,e4_2,e5_2⟩,c_NoPerson:=C3,m_NoPerson:=(QT X G ac3),x_NoPerson:=xc3,e_NoPerson:=⟨e1_3,e2_3,e3_3,e4_3,e5_3⟩,c_Twice:=C4,m_Twice:=(QT X G ac4),x_Twice:=xc4,e_Twice:=⟨e1_4,e2_4,e3_4,e4_4,e5_4⟩,c_NoFit:=C5,m_NoFit:=(QT X G ac5),x_NoFit:=xc5,e_NoFit:=⟨e1_5,e2_5,e3_5,e4_5,e5_5⟩,c_NoWay:=C6,m_NoWay:=(QT X G ac6),x_NoWay:=xc6,e_NoWay:=⟨e1_6,e2_6,e3_6,e4_6,e5_6⟩,n_abs:=(Q3 X G z_abs),n_all:=(Q3 X G z_all),n_bool:=(Q3 X G z_bool),n_int:=(Q3 X G z_int),n_isinstance:=(Q3 X G z_isinstance),n_len:=(Q3 X G z_len),n_list:=(Q3 X G z_list),n_max:=(Q3 X G z_max),n_min:=(Q3 X G z_min),n_range:=(Q3 X G z_range),n_sorted:=(Q3 X G z_sorted),n_str:=(Q3 X G z_str),n_tuple:=(Q3 X G z_tuple),n_zip:=(Q3 X G z_zip),k_int_int:=q_k_int_int,k_int_str:=q_k_int_str,k_int_tuple:=q_k_int_tuple,k_int_bool:=q_k_int_bool,k_str_int:=q_k_str_int,k_str_str:=q_k_str_str,k_str_tuple:=q_k_str_tuple,k_bool_int:=q_k_bool_int,k_bool_str:=q_k_bool_str,k_bool_tuple:=q_k_bool_tuple,k_bool_bool:=q_k_bool_bool,k_NoneType_int:=q_k_NoneType_int,k_NoneType_str:=q_k_NoneType_str,k_NoneType_tuple:=q_k_NoneType_tuple,k_tuple_int:=q_k_tuple_int,k_tuple_str:=q_k_tuple_str,k_tuple_tuple:=q_k_tuple_tuple,k_list_int:=q_k_list_int,k_list_str:=q_k_list_str,k_list_tuple:=q_k_list_tuple,k_dict_int:=q_k_dict_int,k_dict_str:=q_k_dict_str,k_dict_tuple:=q_k_dict_tuple,kl_list:=q_kl_list,kx_HeirError:=q_kx_HeirError,kx_ValueError:=q_kx_ValueError,ci:=y_ci,mo:=y_mo,kp:=y_kp,cg:=y_cg,ct:=y_ct,aF:=F0,m_FORMS:=(QT X G zF),tkL:=tL,m_LETTERS:=(QT X G zL),p0:=P0,g0:=G0,p1:=P1,g1:=G1,p2:=P2,g2:=G2,p3:=P3,g3:=G3,p4:=P4,g4:=G4,p5:=P5,g5:=G5,sF:=fun _=>.inr ⟨_,_,_,uF,rfl,rfl,ZF (Qy rfl),.cons rfl (.cons rfl (.cons rfl (.cons rfl (.cons rfl (.cons rfl .nil)))))⟩,sp0:=fun _=>.inr ⟨_,_,_,up0,rfl,rfl,ZF (Qy rfl),.cons ⟨_,rfl⟩ (.cons rfl .nil)⟩,sp1:=fun _=>.inr ⟨_,_,_,up1,rfl,rfl,ZF (Qy rfl),.cons ⟨_,rfl⟩ (.cons rfl .nil)⟩,sp2:=fun _=>.inr ⟨_,_,_,up2,rfl,rfl,ZF (Qy rfl),.cons ⟨_,rfl⟩ (.cons rfl .nil)⟩,sp3:=fun _=>.inr ⟨_,_,_,up3,rfl,rfl,ZF (Qy rfl),.cons ⟨_,rfl⟩ (.cons rfl .nil)⟩,sp4:=fun _=>.inr ⟨_,_,_,up4,rfl,rfl,ZF (Qy rfl),.cons ⟨_,rfl⟩ (.cons rfl .nil)⟩,sp5:=fun _=>.inr ⟨_,_,_,up5,rfl,rfl,ZF (Qy rfl),.cons ⟨_,rfl⟩ (.cons rfl .nil)⟩,sg0:=fun _=>.inr ⟨_,_,_,ug0,rfl,rfl,ZF (Qy rfl),.cons rfl (.cons rfl (.cons rfl (.cons rfl (.cons rfl (.nil)))))⟩,sg1:=fun _=>.inr ⟨_,_,_,ug1,rfl,rfl,ZF (Qy rfl),.cons rfl (.cons rfl (.cons rfl (.nil)))⟩,sg2:=fun _=>.inr ⟨_,_,_,ug2,rfl,rfl,ZF (Qy rfl),.cons rfl (.cons rfl (.cons rfl (.nil)))⟩,sg3:=fun _=>.inr ⟨_,_,_,ug3,rfl,rfl,ZF (Qy rfl),.cons rfl (.cons rfl (.cons rfl (.nil)))⟩,sg4:=fun _=>.inr ⟨_,_,_,ug4,rfl,rfl,ZF (Qy rfl),.cons rfl (.cons rfl (.nil))⟩,sg5:=fun _=>.inr ⟨_,_,_,ug5,rfl,rfl,ZF (Qy rfl),.cons rfl (.cons rfl (.cons rfl (.cons rfl (.nil))))⟩,a_STEP_LETTERS:=KT0,m_STEP_LETTERS:=(QT X G zt0),ZeJ:=fun _=>.inr ⟨_,_,_,ut0,rfl,rfl,ZF (Qy rfl),.cons ⟨_,rfl⟩ (.cons ⟨_,rfl⟩ (.cons ⟨_,rfl⟩ (.cons ⟨_,rfl⟩ (.cons ⟨_,rfl⟩ (.cons ⟨_,rfl⟩ (.cons ⟨_,rfl⟩ (.nil)))))))⟩,a_TESTS:=KT1,m_TESTS:=(QT X G zt1),ZhS:=fun _=>.inr ⟨_,_,_,ut1,rfl,rfl,ZF (Qy rfl),.cons ⟨_,rfl⟩ (.cons ⟨_,rfl⟩ (.nil))⟩,t_MOST_ENTRIES:=ti0,m_MOST_ENTRIES:=(QT X G zi0),t_MOST_PEOPLE:=ti1,m_MOST_PEOPLE:=(QT X G zi1),cc:=CC,tb:=TB,hcc:=⟨_,_,_,_,lF,rfl⟩,cc2:=CC2,tb2:=TB2,hcc2:=⟨_,_,_,_,lF2,rfl⟩,ttb:=fun z=>by rw [z] at ttb;simp at ttb,a_SORT_OF_PARENT:=KD0,m_SORT_OF_PARENT:=(QT X G zD0),kd_SORT_OF_PARENT:=ZiR sD0 (few rfl) (by trivial) uD0 (.cons ⟨rfl,⟨_,rfl⟩,⟨_,rfl⟩⟩ (.cons ⟨rfl,⟨_,rfl⟩,⟨_,rfl⟩⟩ (.nil))),a_LETTER_UP:=KD1,m_LETTER_UP:=(QT X G zD1),kd_LETTER_UP:=ZiR sD1 (few rfl) (by trivial) uD1 (.cons ⟨rfl,⟨_,rfl⟩,⟨_,rfl⟩⟩ (.cons ⟨rfl,⟨_,rfl⟩,⟨_,rfl⟩⟩ (.nil))) },rfl,rfl,rfl,rfl,rfl⟩;have ttb:=T.1.ttb;obtain ⟨T,ea,rfl,rfl,rfl,rfl⟩:=T;subst ea;refine ⟨(ZC K T.V8.a),_,_,_,_,Zhe a42 lF rfl lC vC11,kTB,Zhe a38 lF2 rfl lC2 vC211,kTB2,T.ttb,fun s v=>?_,fun base _ _ LB LB2=>(ZoU T LB LB2).imp fun vs H Q E z=>?_⟩
 ·obtain ⟨oc,od,kV,doc,pm,an,cdv,ct,osl,e,_⟩:=T.V8.F.ex;rw [e];exact .of_eq rfl
 exact ZjB T z
theorem walk {l:W.OpenLaw} {q:Program} {loose:List Str} {XP:(Str->Option Value)->Heap->Prop} {YP:World->Heap->Prop} {d:DefRec} {K:Params->W.Frag} (hn:l.most=some 63) (hdf:d.params.defaults=[]) (hrec:((PyProof.Rows.recsOf q).find? (fun e=>e.name==("reach": Str))).isSome=true) (hrec2:((PyProof.Rows.recsOf q).find? (fun e=>e.name==("book_of_tree": Str))).isSome=true)
 (hY:∀(w:World) (h:Heap),YP w h->(K w.params).In h)
 (F:∀(w:World) (mg:Str->Option Value) (fa:Addr) (h:Heap),(K w.params).In h->h.Ns mainGlobals mg->mg d.name=some (.ref fa) →
 ∃(fd:FuncData) (cc tb cc2 tb2:Addr),W.tabIn (K w.params) "reach"=some (cc,tb)∧(K w.params).lookup tb=none∧W.tabIn (K w.params) "book_of_tree"=some (cc2,tb2)∧(K w.params).lookup tb2=none∧tb2≠tb∧(∀(s:Shared) (u:Value),BindsTo s fd ⟨[u],[]⟩ [("_law_script",u)])∧∀base:Heap,(K w.params).In base->base.Ns mainGlobals mg->LamB base cc tb mg->LamB base cc2 tb2 mg->FnOk l.prog w (K w.params) mg base (Zz l.prog w) 11 fa fd ["_law_script"] (Zae (K w.params) tb tb2)) :
  W.WalkO q loose XP YP l.row.toRowW d [] (fun f vs=>PySem.call f vs):=by
 obtain ⟨dd,hdd⟩:=GK.mp hrec;obtain ⟨dd2,hdd2⟩:=GK.mp hrec2;exact L2.walk_ofT2 (n:=63) (k:=11) (x:="_law_script") (CX:=fun w=>Zz l.prog w) (sp:=fun w tb tb2=>Zae (K w.params) tb tb2) hn (by decide) hdf ⟨rfl,by decide,by decide⟩ hdd hdd2 hY F (fun _ _ a tb tb2 ns hl hO hO2 hS tt=>⟨a,ns,rfl,hS,hl,hO,hO2,fun _ h h2=>⟨rfl,h,h2⟩⟩) fun _ _ _ _ _ ⟨_,_,_,_,_,z⟩=>z
end K24
open PySem PySem.W PyProof.Rows
set_option maxRecDepth 100000 in
set_option maxHeartbeats 0 in
theorem PySem.Challenge.cw_heirbook_k24_ways_that_part_holds : PySem.Challenge.rw_heirbook_k24_ways_that_part.Holds := by
 refine K24.join K24.hd K24.e6 ?_
 k_fill
 refine K24.walk (l:=PySem.Challenge.rw_heirbook_k24_ways_that_part) rfl rfl (by kernel_rfl) (by kernel_rfl) (fun w h Y=>PySem.W.km_in_of Y) ?F
 case F =>
  intro w mg fa h KX G hmg;apply K24.all_mk KX G hmg
  case ao1|ao0|a0|a1|a2|a3|a4|a5|a6|a7|a8|a9|a10|a11|a12|a13|a14|a15|i15|a16|i16|a17|i17|a18|i18|a19|i19|a20|i20|a21|i21|a22|i22|a23|i23|a24|i24|a25|i25|l25|cc25|k25|ldt25|a26|i26|a27|i27|a28|i28|a29|a30|i30|a31|i31|a32|i32|a33|i33|a34|i34|a35|a36|a37|a38|a39|a40|a41|a42|a43|a44|a45|a46|a47|a48|a49|a50|a51|a52|a53|pg0|hd0|po0|sa0|mk0|kc0|na0_kept|na0_births|na0_links|na0_ties|na0_sums|pg1|hd1|po1|sa1|mk1|kc1|na1_days|na1_sorts|na1_parents|na1_takings|na1_unions|na1_clash|na1_here|ac0|ac1|e1_1|e2_1|e3_1|e4_1|e5_1|ac2|e1_2|e2_2|e3_2|e4_2|e5_2|ac3|e1_3|e2_3|e3_3|e4_3|e5_3|ac4|e1_4|e2_4|e3_4|e4_4|e5_4|ac5|e1_5|e2_5|e3_5|e4_5|e5_5|ac6|e1_6|e2_6|e3_6|e4_6|e5_6|z_abs|z_all|z_bool|z_int|z_isinstance|z_len|z_list|z_max|z_min|z_range|z_sorted|z_str|z_tuple|z_zip|y_ci|y_mo|y_cg|y_ct|zF|zL|uF|up0|up1|up2|up3|up4|up5|ug0|ug1|ug2|ug3|ug4|ug5|zt0|ut0|zt1|ut1|zi0|zi1|lF|lC|lF2|lC2|zD0|uD0|zD1|uD1=>k_is
  case l0|l1|l2|l3|l4|l5|l6|l7|l8|l9|l10|l11|l12|l13|l14|l15|l16|l17|l18|l19|l20|l21|l22|l23|l24|l26|l27|l28|l29|l30|l31|l32|l33|l34|l35|l36|l37|l38|l39|l40|l41|l42|l43|l44|l45|l46|l47|l48|l49|l50|l51|l52|l53=>exact ⟨⟨_,_,_,_,_,_,_,_,_,by k_is,by k_is⟩,by k_is⟩
  case xc1|xc2|xc3|xc4|xc5|xc6=>k_exc
  case q_k_int_int|q_k_int_str|q_k_int_tuple|q_k_int_bool|q_k_str_int|q_k_str_str|q_k_str_tuple|q_k_bool_int|q_k_bool_str|q_k_bool_tuple|q_k_bool_bool|q_k_NoneType_int|q_k_NoneType_str|q_k_NoneType_tuple|q_k_tuple_int|q_k_tuple_str|q_k_tuple_tuple|q_k_list_int|q_k_list_str|q_k_list_tuple|q_k_dict_int|q_k_dict_str|q_k_dict_tuple|q_kl_list|q_kx_HeirError|q_kx_ValueError|y_kp=>kit_is
  case vC11=>first|rfl|decide
  case kTB=>kernel_rfl
  case vC211=>first|rfl|decide
  case kTB2=>kernel_rfl
  case ttb|sD0|sD1=>first|rfl|decide
