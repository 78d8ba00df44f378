import PyProof.Rows.All
import Wide.All
import OpenK.AllK
import Wide.FinOn
import Lean
import PyProof.EqAt
import PyProof.EqKinds
import PyProof.TupleCall
import PyProof.NeKinds
import PyProof.ZipIter
import PyProof.Draws
import PyProof.ConsumeWalk
import PyProof.StrCaseBound
import PyProof.StrLawsIn
import PyProof.StrLawsJoin
import PyProof.Rows.StrSplitAre
import PyProof.WalkInts
import PyProof.EnumMake
import KE.KRevSl
import PyProof.Rows.SumAny
import PyProof.Rows.SortRuns
import PyProof.Rows.SortKey
import KE.KSortTup
import KE.KDictList
import PyProof.DictValues
import PyProof.StrLawsFirst
import PyProof.AutoListH
import PyProof.AttrMissSeq
import KE.KIntText
import PyProof.Rows.CountFlat
import KE.KLam
import KE.KSortKey
import KE.KPairComp
import PySem.Challenge.RW_heirbook_k25_whole_the_freest_book
local macro_rules|`(tactic|trivial)=>`(tactic|decide +kernel)
abbrev Qa:=@if_neg
abbrev Qb:=@if_pos
abbrev Qc:=@List.length_map
abbrev Qd:=@PySem.wpAny_bind
abbrev Qe:=@Nat.le_refl
abbrev Qf:=@PySem.wpAny_pure
abbrev Qg:=@List.mem_map
abbrev Qh:=@List.mem_append
abbrev Qi:=@PySem.Heap.lt_size
abbrev Qj:=@List.mem_cons
abbrev Qk:=@Nat.le_trans
abbrev Ql:=@PySem.Heap.get?_push_of_some
abbrev Qm:=@List.length_append
abbrev Qn:=@Option.some.inj
abbrev Qo:=@List.map_append
abbrev Qp:=@List.getElem?_map
abbrev Qq:=@Nat.lt_of_lt_of_le
abbrev Qr:=@List.mem_singleton
abbrev Qs:=@decide_eq_false
abbrev Qt:=@List.getElem?_eq_getElem
abbrev Qu:=@PySem.Heap.get?_push_size
abbrev Qv:=@List.size_toArray
abbrev Qw:=@List.map_cons
abbrev Qx:=@decide_eq_true
abbrev Qy:=@Nat.le_of_ble_eq_true
abbrev Qz:=@List.getElem?_eq_some_iff
abbrev QA:=@Nat.ne_of_lt
abbrev QB:=@congrArg
abbrev QC:=@Option.map_eq_some_iff
abbrev QD:=@List.mem_cons_of_mem
abbrev QE:=@List.mem_of_getElem?
abbrev QF:=@Nat.lt_irrefl
abbrev QG:=@Bool.false_ne_true
abbrev QH:=@PySem.PassesOwn.leaving
abbrev QI:=@List.mem_cons_self
abbrev QJ:=@List.length_cons
abbrev QK:=@PySem.F.plainAttrs_list
abbrev QL:=@List.mem_append_right
abbrev QM:=@PySem.wpAny_field
abbrev QN:=@List.not_mem_nil
abbrev QO:=@or_false
abbrev QP:=@List.map_map
abbrev QQ:=@List.getD_eq_getElem?_getD
abbrev QR:=@Nat.le_of_lt
abbrev QS:=@List.nodup_cons
abbrev QT:=@Nat.zero_le
abbrev QU:=@List.append_nil
abbrev QV:=@Nat.le_succ
abbrev QW:=@List.nodup_append
abbrev QX:=@List.length_range
abbrev QY:=@List.mem_append_left
abbrev QZ:=@PySem.W.kia_one
abbrev Q0:=@Iff.rfl
abbrev Q1:=@PySem.F.slot_list_append
abbrev Q2:=@PySem.F.type_list_append
abbrev Q3:=@PySem.W.mg_none_of
abbrev Q4:=@Ne.symm
abbrev Q5:=@PySem.wpAny_holding
abbrev Q6:=@if_false
abbrev Q7:=@List.take_length
abbrev Q8:=@of_decide_eq_true
abbrev Q9:=@Nat.lt_succ_self
abbrev Ra:=@List.any_cons
abbrev Rb:=@List.foldl_cons
abbrev Rc:=@List.mem_filterMap
abbrev Re:=@List.filterMap_cons
abbrev Rg:=@PySem.wpAny_mono
abbrev Rh:=@Prod.ext
abbrev Ri:=@Bool.eq_iff_iff
abbrev Rj:=@PySem.Heap.size_push
abbrev Rk:=@List.length_take
abbrev Rl:=@PySem.wpAny_Call_Name_kw
abbrev Rm:=@Bool.eq_false_iff
abbrev Rn:=@List.length_filterMap_le
abbrev Ro:=@PySem.W.mg_of
abbrev Rp:=@List.getElem?_append_right
abbrev Rq:=@PySem.wpAny_call_entry
abbrev Rr:=@PySem.wpAny_newObj_type
abbrev Rs:=@List.length_singleton
abbrev Rt:=@Nat.lt_of_le_of_lt
abbrev Ru:=@List.mem_of_mem_take
abbrev Rv:=@Nat.ne_of_gt
abbrev Rw:=@PySem.Calls.spliced_cons
abbrev Rx:=@List.filterMap_map
abbrev Ry:=@List.all_eq_true
abbrev Rz:=@beq_eq_false_iff_ne
abbrev RC:=@List.mem_filter
abbrev RD:=@PySem.wpAny_Name
abbrev RE:=@List.getElem?_append_left
abbrev RF:=@if_true
abbrev RG:=@PySem.wpAny_callSpecial?_slot
abbrev RH:=@List.find?_cons
abbrev RJ:=@PySem.wpAny_of_eq
abbrev RK:=@PySem.wpAny_setField_rec
abbrev RM:=@List.take_add_one
abbrev RN:=@List.getElem?_eq_none
abbrev RO:=@List.cons.inj
abbrev RP:=@false_and
abbrev RQ:=@true_and
abbrev RS:=@ite_self
abbrev RU:=@PySem.wpAny_truthy_bool
abbrev RV:=@PySem.wpAny_passesOwn
abbrev RW:=@PySem.sizeLine_eq
abbrev RX:=@beq_iff_eq
abbrev RY:=@PySem.wpAny_call
abbrev RZ:=@PySem.codeAny_mono
abbrev R0:=@PySem.mem_of_lookup
abbrev R1:=@Bool.and_eq_true
abbrev R3:=@PySem.codeAny_builtin
abbrev R4:=@PySem.wpAny_seqItems
abbrev R5:=@List.filterMap_append
abbrev R6:=@List.getElem_mem
abbrev R7:=@List.take_succ
abbrev R8:=@Sum.inr.inj
abbrev R9:=@List.mem_range
abbrev Ga:=@Array.length_toList
abbrev Gb:=@Int.toNat_natCast
abbrev Gc:=@PySem.typeIs_str
abbrev Gd:=@List.append_assoc
abbrev Ge:=@PySem.tupleKind_room_in1
abbrev Gf:=@PySem.wpAny_rule
abbrev Gg:=@Nat.lt_succ_of_lt
abbrev Gh:=@Bool.or_eq_true
abbrev Gi:=@PySem.wpAny_newList
abbrev Gj:=@List.pairwise_map
abbrev Gk:=@PySem.F.slot_list_index
abbrev Gm:=@of_decide_eq_false
abbrev Gn:=@List.map_congr_left
abbrev Go:=@List.map_filterMap
abbrev Gp:=@or_congr
abbrev Gq:=@PySem.wpAny_pyIter_tuple
abbrev Gr:=@PyProof.Rows.callWith_type1
abbrev Gs:=@PySem.Calls.spliced_nil
abbrev Gu:=@List.map_nil
abbrev Gv:=@List.all_cons
abbrev Gw:=@List.replicate_succ
abbrev Gx:=@PySem.wpAny_specialOf
abbrev Gy:=@PySem.W.callWith_K
abbrev Gz:=@PySem.wpAny_loadPart_at
abbrev GA:=@List.all_map
abbrev GB:=@PySem.Heap.SameBut.update
abbrev GC:=@PySem.wpAny_attempt
abbrev GD:=@PySem.typeLookup_type
abbrev GE:=@PySem.builtinLookup_eq_fast
abbrev GF:=@PySem.isSubtype_type
abbrev GG:=@List.any_eq_true
abbrev GH:=@Bool.true_and
abbrev GI:=@List.mem_map_of_mem
abbrev GJ:=@Nat.sub_self
abbrev GK:=@Int.zero_add
abbrev GL:=@PySem.F.type_list_index
abbrev GM:=@PySem.Paired.length
abbrev GN:=@PySem.wpAny_loadName_local
abbrev GO:=@PySem.wpAny_execs_nil
abbrev GP:=@PySem.wpAny_standAt
abbrev GQ:=@Bool.false_and
abbrev GR:=@PySem.W.looks_findIn
abbrev GS:=@PySem.W.kitx_list
abbrev GT:=@Option.isSome_iff_exists
abbrev GU:=@PySem.concat_meets
abbrev GV:=@PySem.SeqAt.EqAt.same
abbrev GW:=@PySem.Calls.evalArgs_plain
abbrev GX:=@List.flatten_cons
abbrev GY:=@List.length_nil
abbrev GZ:=@PySem.call_meetsIn
abbrev G6:=@PySem.Code.quiet_builtin
abbrev G7:=@List.getElem?_cons_succ
abbrev G8:=@PySem.F.slot_tuple_iterator_next
abbrev G9:=@PySem.F.slot_zip_next
abbrev Na:=@Nat.le_add_right
abbrev Nb:=@List.lookup_cons
abbrev Nc:=@PySem.atKey_none_of_get
abbrev Nd:=@Int.le_refl
abbrev Nf:=@List.take_of_length_le
abbrev Ng:=@List.getElem?_range
abbrev Nh:=@decide_eq_true_eq
abbrev Ni:=@List.filter_cons
abbrev Nj:=@Int.ofNat.inj
abbrev Nk:=@Nat.le_succ_of_le
abbrev Nl:=@List.length_mapIdx
abbrev Nn:=@Nat.succ_le_succ
abbrev No:=@Nat.min_le_left
abbrev Np:=@Option.map_some
abbrev Nq:=@PySem.SeqAt.EqAt.int_str
abbrev Nr:=@PySem.SeqAt.EqAt.str_int
abbrev Nt:=@PySem.Heap.get?_none_of_le
abbrev Nu:=@PySem.wpAny_loadName_free
abbrev Nv:=@PySem.Calls.Name_function_global
abbrev Nw:=@PySem.wpAny_pyIter_list
abbrev Ny:=@List.any_eq_false
abbrev Nz:=@List.of_mem_zip
abbrev NA:=@List.getElem?_take_of_lt
abbrev NB:=@PySem.noFill_tuple_add
abbrev NC:=@PySem.F.slot_tuple_add
abbrev ND:=@PySem.F.entry_tuple_add
abbrev NE:=@PySem.F.args_tuple_add_2
abbrev NF:=@List.length_drop
abbrev NG:=@PyProof.Rows.slot_tuple_getitem
abbrev NH:=@PySem.Heap.get?_update_self
abbrev NJ:=@PySem.Calls.callWith_builtin
abbrev NK:=@Option.isSome_map
abbrev NL:=@List.nodup_nil
abbrev NM:=@PySem.F.slot_dict_get
abbrev NN:=@PySem.F.typeOf_object_class
abbrev NO:=@Bool.and_false
abbrev NP:=@List.getElem?_cons_zero
abbrev NQ:=@PySem.wpAny_newFunctionEnv
abbrev NR:=@List.forIn_cons
abbrev NS:=@PySem.wpAny_isInstance
abbrev NT:=@List.length_reverse
abbrev NU:=@PyProof.Rows.entry_proto_collect'
abbrev NV:=@PySem.Calls.call_function_entry
abbrev NX:=@List.find?_eq_none
abbrev NY:=@List.dropLast_concat_getLast
abbrev NZ:=@List.lt_asymm
abbrev N0:=@List.rel_of_pairwise_cons
abbrev N1:=@List.foldl_append
abbrev N3:=@not_false_eq_true
abbrev N4:=@List.flatMap_cons
abbrev N5:=@Option.map_eq_none_iff
abbrev N6:=@List.map_reverse
abbrev N7:=@List.getElem?_mapIdx
abbrev N8:=@PySem.F.slot_dict_getitem
abbrev N9:=@PySem.F.args_dict_get_3
abbrev Ma:=@PySem.F.plainAttrs_dict
abbrev Mb:=@Option.bind_eq_some_iff
abbrev Mc:=@PySem.F.slot_dict_setdefault
abbrev Md:=@List.drop_eq_getElem_cons
abbrev Me:=@Option.ne_none_iff_exists'
abbrev Mf:=@Option.isSome_iff_ne_none
abbrev Mg:=@List.Nodup.length_le_of_subset
abbrev Mh:=@List.mem_of_find?_eq_some
set_option Elab.async false
set_option linter.all false
set_option compiler.extract_closed false
namespace LR
open PySem PySem.W PyProof.Rows
variable {N m:Nat} {ann:Option Value} {p:Program}
noncomputable abbrev _cr:=@Fast.tw14082659384304107361
noncomputable abbrev Jt:=Fast.tw14364793385576792824
noncomputable abbrev Ue:=@Fast.tw4187177175401517315
noncomputable def allIn (p:Program) (P:Params) (s:Shared):Bool :=
 staticsOk (importedModules p.main.body) (boot_heap P) s.heap&&namesBound p s.heap&&gensDone s&&laidKept (boot_heap P) s.heap
noncomputable abbrev sA (q:Program) (loose mods:List Str) (Xt:Shared->Bool) (g0:Bool) (s:Shared) :=
 ((Ue q loose mods Xt g0 s).1,(Ue q loose mods Xt g0 s).2.1,(Ue q loose mods Xt g0 s).2.2.1,(Ue q loose mods Xt g0 s).2.2.2.1)
noncomputable abbrev sB (q:Program) (loose mods:List Str) (Xt:Shared->Bool) (g0:Bool) (s:Shared):=(Ue q loose mods Xt g0 s).2.2.2.2
noncomputable abbrev gA (q:Program) (loose:List Str):=((openGood q loose).1,(openGood q loose).2.1,(openGood q loose).2.2.1,(openGood q loose).2.2.2.1)
noncomputable abbrev gB (q:Program) (loose:List Str):=(openGood q loose).2.2.2.2
noncomputable abbrev ran (p:Program) (m:Nat) (ann:Option Value) (N:Nat) (w:World) (os:OsState):Option Shared :=
 _cr Jt p w m ann N ⟨boot_heap w.params,Array.mk [],boot_drawn,boot_toks,os⟩ (topStub p)
theorem left_run {q:Program} {loose:List Str} {Xt:Shared->Bool} {α:Type} {Yf:Shared->α} {Ya:World->α} {g0:Bool} 
 (e:opening p=plainProg p.main.scope.names) (f:∀s,fenceModules? p s=some s) (hN:Nat.ble 600 N=true)
 (h1:∀w:World,(boot_heap w.params).isNs mainGlobals=true) (h2:∀w:World,(boot_heap w.params).objs.size=m) (h3:∀w:World,(boot_heap w.params).nsMap mainGlobals "__annotations__"=ann)
 (r1:∀(w:World) (os:OsState),(ran p m ann N w os).map (allIn p w.params)=some true)
 (r2:∀(w:World) (os:OsState),(ran p m ann N w os).map (sA q loose (importedModules p.main.body) Xt g0)=some (gA q loose))
 (r2':∀(w:World) (os:OsState),(ran p m ann N w os).map (sB q loose (importedModules p.main.body) Xt g0)=some (gB q loose))
 (r3:∀(w:World) (os:OsState),(ran p m ann N w os).map Yf=some (Ya w)):LeftO p q loose Xt Yf Ya N g0:=by
 intro w;cases hb:fencedOpening treeTable p w N with
 |none=>have z:=boot_open e hN f w;rw [hb] at z;cases z
 |some s0 =>
  have z:=boot_open e hN f w;rw [hb] at z;obtain ⟨h,gs,d,k,os⟩:=s0;injection z with z;injection z with z4 z;injection z with z5 z;injection z with z6 z7;dsimp only at z4 z5 z6 z7;subst z4 z5 z6 z7;have a:=r1 w os;have b:=r2 w os;have b':=r2' w os;have c:=r3 w os;unfold ran _cr Jt at a b b' c;unfold sA gA Ue at b;unfold sB gB Ue at b';rw [←Fast.te14082659384304107361,←Fast.te14364793385576792824] at a b b' c;rw [←Fast.te4187177175401517315] at b b';cases hs:topRun treeTable p w m ann N ⟨boot_heap w.params,Array.mk [],boot_drawn,boot_toks,os⟩ (topStub p) with
  |none=>rw [hs] at a;cases a
  |some s =>
   rw [hs] at a b b' c;injection a with a;injection b with b;injection b' with b';injection b with x1 b;injection b with x2 b;injection b with x3 x4;injection c with c;have b:openSeen q loose (importedModules p.main.body) Xt g0 s=openGood q loose:=Rh x1 (Rh x2 (Rh x3 (Rh x4 b')))
   have t:topFrom treeTable p w N ⟨boot_heap w.params,Array.mk [],boot_drawn,boot_toks,os⟩=some s:=by
    unfold topFrom;simp only [h1 w,h2 w,h3 w,hs];unfold allIn at a;show (Option.bind (some s) fun x=>_)=_;rw [Option.bind_some,a]
   show Option.map _ (Option.bind (fencedOpening treeTable p w N) _)=_;rw [hb,Option.bind_some,t,Np,b,c]
noncomputable def _dj (st:SharedT->Thread->Option (SharedT×Thread)) (ok:Thread->Bool):Nat->SharedT->Thread->Option SharedT:=fun n =>
 Nat.rec (motive:=fun _=>SharedT->Thread->Option SharedT) (fun _ _=>none) (fun _ ih s t=>match through t with
  |true=>some s
  |false=>match ok t with
   |false=>none
   |true=>match st s t with
    |some (s',t')=>ih s' t'
    |none=>none) n
theorem _f9 {tb:String->Option Builtin} {p:Program} {w:World} {n₀:Nat} {ann:Option Value}:∀(n:Nat) (s:SharedT) (t:Thread) (s':SharedT),_dj (stepT (denote tb) p w) (stepOk n₀ ann) n s t=some s'->topRun tb p w n₀ ann n s.abs t=some s'.abs
 |0,_,_,_,h=>by cases h
 |n+1,s,t,s',h=>by
  have h2:(match through t with
   |true=>some s
   |false=>match stepOk n₀ ann t with
    |false=>none
    |true=>match stepT (denote tb) p w s t with
     |some (s',t')=>_dj (stepT (denote tb) p w) (stepOk n₀ ann) n s' t'
     |none=>none)=some s':=h
  unfold topRun;cases ht:through t with
  |true=>rw [ht] at h2;cases h2;rfl
  |false =>
   rw [ht] at h2;cases hk:stepOk n₀ ann t with
   |false=>rw [hk] at h2;cases h2
   |true =>
    rw [hk] at h2;cases hs:stepT (denote tb) p w s t with
    |none=>rw [hs] at h2;cases h2
    |some r =>
     obtain ⟨s₂,t₂⟩:=r;rw [hs] at h2;rw [stepT_spec hs];exact _f9 n s₂ t₂ s' h2
noncomputable def _p1 (P:Params) (m:Nat):BT:=Nat.rec (motive:=fun _=>BT) .nil (fun i T=>T.ins i (((boot_heap P).objs[i]?).getD default)) m
noncomputable abbrev _fY:=@Fast.tw10156331382660048174
noncomputable abbrev _hI:=@Fast.tw11892475500146522536
noncomputable abbrev fOk:=@Fast.tw6613529449190102663
noncomputable abbrev s0T (P:Params) (m:Nat) (os:OsState):SharedT:=⟨_p1 P m,m,(boot_heap P).life,Array.mk [],boot_drawn,boot_toks,os⟩
noncomputable abbrev ranT (p:Program) (m:Nat) (ann:Option Value) (N:Nat) (w:World) (os:OsState):Option SharedT :=
 _dj (_fY (_hI Jt) p w) (fOk m ann) N (s0T w.params m os) (topStub p)
theorem _kU {w:World} {os:OsState} (hb:(s0T w.params m os).abs=⟨boot_heap w.params,Array.mk [],boot_drawn,boot_toks,os⟩) {s:SharedT} (h:ranT p m ann N w os=some s):ran p m ann N w os=some s.abs:=by
 unfold ranT _fY _hI fOk Jt at h;rw [←Fast.te10156331382660048174,←Fast.te11892475500146522536,←Fast.te6613529449190102663,←Fast.te14364793385576792824] at h;have:=_f9 _ _ _ _ h;rw [hb] at this;unfold ran _cr Jt;rw [←Fast.te14082659384304107361,←Fast.te14364793385576792824];exact this
theorem mapT {α:Type} {w:World} {os:OsState} (hb:(s0T w.params m os).abs=⟨boot_heap w.params,Array.mk [],boot_drawn,boot_toks,os⟩) {f:Shared->α} {a:α} (h:(ranT p m ann N w os).map (fun s=>f s.abs)=some a):(ran p m ann N w os).map f=some a:=by
 cases e:ranT p m ann N w os with
 |none=>rw [e] at h;cases h
 |some s =>
  rw [e] at h;rw [_kU hb e];exact h
theorem with2 {A B G:Prop} (h:A∧B->G) (z:A∧B):G:=h z
end LR
namespace K25
open PySem PySem.W PyProof.Rows
abbrev rwOf:OpenLaw:=PySem.Challenge.rw_heirbook_k25_whole_the_freest_book
abbrev pwOf:Program:=PySem.Challenge.pw_heirbook_k25_whole_the_freest_book
noncomputable def vw:Program:=view pwOf [0,2,3,4,5,6,7,8,10,12,13,14,15,16,17,18,19,20,21,22,23,24,25,27,28,29,30,32,33,34,35,37,38,39,40,41,42,43,44,46,47,48,50,51,53,54,55,56,57,58,59,60,61]
noncomputable abbrev lo:List Str:=["FORMS","SORT_OF_PARENT","LETTER_UP"]
noncomputable abbrev xt (s:Shared):Bool:=xlAt vw [] s&&recOk (RowW.records (OpenRow.toRowW (OpenLaw.row rwOf))) s
noncomputable abbrev rn:=LR.ranT pwOf 11 (some (.ref 6)) 4063
set_option maxRecDepth 100000
set_option maxHeartbeats 0
theorem said:OpenLaw.wellSaid rwOf=true:=by kernel_rfl
theorem hb (w:World) (os:OsState):(LR.s0T w.params 11 os).abs=⟨boot_heap w.params,Array.mk [],boot_drawn,boot_toks,os⟩:=by kernel_rfl
theorem r1F (w:World) (os:OsState):(rn (w.withFollow "special-get-raises" false) os).map (fun s=>(LR.allIn pwOf (w.withFollow "special-get-raises" false).params) s.abs)=some (true):=by kernel_rfl
theorem r1U (w:World) (os:OsState):(rn (w.withFollow "special-get-raises" true) os).map (fun s=>(LR.allIn pwOf (w.withFollow "special-get-raises" true).params) s.abs)=some (true):=by kernel_rfl
theorem r1T (w:World) (os:OsState):(rn w os).map (fun s=>(LR.allIn pwOf w.params) s.abs)=some (true):=W.byRow2 "special-get-raises" (P:=fun w=>∀os,(rn w os).map (fun s=>(LR.allIn pwOf w.params) s.abs)=some (true)) r1F r1U w os
theorem r1 (w:World) (os:OsState):(LR.ran pwOf 11 (some (.ref 6)) 4063 w os).map (LR.allIn pwOf w.params)=some (true):=LR.mapT (hb w os) (r1T w os)
theorem r2F (w:World) (os:OsState):(rn (w.withFollow "special-get-raises" false) os).map (fun s=>(LR.sA vw lo (importedModules pwOf.main.body) xt true) s.abs)=some (LR.gA vw lo):=by kernel_rfl
theorem r2U (w:World) (os:OsState):(rn (w.withFollow "special-get-raises" true) os).map (fun s=>(LR.sA vw lo (importedModules pwOf.main.body) xt true) s.abs)=some (LR.gA vw lo):=by kernel_rfl
theorem r2T (w:World) (os:OsState):(rn w os).map (fun s=>(LR.sA vw lo (importedModules pwOf.main.body) xt true) s.abs)=some (LR.gA vw lo):=W.byRow2 "special-get-raises" (P:=fun w=>∀os,(rn w os).map (fun s=>(LR.sA vw lo (importedModules pwOf.main.body) xt true) s.abs)=some (LR.gA vw lo)) r2F r2U w os
theorem r2 (w:World) (os:OsState):(LR.ran pwOf 11 (some (.ref 6)) 4063 w os).map (LR.sA vw lo (importedModules pwOf.main.body) xt true)=some (LR.gA vw lo):=LR.mapT (hb w os) (r2T w os)
theorem r3F (w:World) (os:OsState):(rn (w.withFollow "special-get-raises" false) os).map (fun s=>(LR.sB vw lo (importedModules pwOf.main.body) xt true) s.abs)=some (LR.gB vw lo):=by kernel_rfl
theorem r3U (w:World) (os:OsState):(rn (w.withFollow "special-get-raises" true) os).map (fun s=>(LR.sB vw lo (importedModules pwOf.main.body) xt true) s.abs)=some (LR.gB vw lo):=by kernel_rfl
theorem r3T (w:World) (os:OsState):(rn w os).map (fun s=>(LR.sB vw lo (importedModules pwOf.main.body) xt true) s.abs)=some (LR.gB vw lo):=W.byRow2 "special-get-raises" (P:=fun w=>∀os,(rn w os).map (fun s=>(LR.sB vw lo (importedModules pwOf.main.body) xt true) s.abs)=some (LR.gB vw lo)) r3F r3U w os
theorem r3 (w:World) (os:OsState):(LR.ran pwOf 11 (some (.ref 6)) 4063 w os).map (LR.sB vw lo (importedModules pwOf.main.body) xt true)=some (LR.gB vw lo):=LR.mapT (hb w os) (r3T w os)
end K25
local macro_rules
 | `(tactic| o_law)=>`(tactic| refine PySem.W.holds_law K25.said fun sd=>?_)
local macro_rules
 | `(tactic| o_head $H)=>do
  let hw:=Lean.mkIdent `hw
  let hc:=Lean.mkIdent `hc
  `(tactic| (
   refine' LR.with2 ?bdy ?$hc
   rotate_left 2
   intro z
   refine PySem.W.holds_open (q:=K25.vw) (loose:=K25.lo) (N:=4063) (Xt:=K25.xt) (XP:=PySem.W.XL K25.vw []) (Yf:=PySem.W.Hook.obs $H)
    (Ya:=PySem.W.Hook.val $H) (YP:=PySem.W.Hook.says $H)
    (LR.left_run (p:=K25.pwOf) (m:=11) (ann:=(some (.ref 6))) ?e1 ?e2 (by decide) ?e3 ?e4 ?e5 K25.r1 K25.r2 K25.r3 (And.left z))
    (PySem.W.Hook.of $H) (PySem.W.Hook.keeps $H) ?f1
    PySem.W.XL.keeps (by rfl) (by rfl) (by rfl) ?f2 ?g4 ?g5 ?g6 ?g7 ?$hw (And.right z)
   case e1=>kernel_rfl
   case e2=>intro s;kernel_rfl
   case e3=>intro w;kernel_rfl
   case e4=>intro w;kernel_rfl
   case e5=>intro w;kernel_rfl
   case f1=>intro s e;exact PySem.W.xl_of s (Bool.and_eq_true_iff.mp e).1
   case f2=>intro s e;exact PySem.W.recFacts_of (Bool.and_eq_true_iff.mp e).2
   case g4=>rfl
   case g5=>assumption
   case g6=>trivial
   case g7=>exact ⟨rfl,rfl,rfl,rfl,rfl,by trivial⟩))
set_option maxRecDepth 100000 in
set_option maxHeartbeats 0 in
open_top K25.hd for PySem.Challenge.rw_heirbook_k25_whole_the_freest_book
namespace K25
open PySem PySem.W PyProof.Rows
variable {B C:Prop} {Q:World->OsState->Prop}
set_option maxRecDepth 100000
set_option maxHeartbeats 0
def _cK (_:(∀w os,Q w os)∧B->C):Prop:=∀w os,Q w os
def Ux (b:Bool) (_:(∀w os,Q w os)∧B->C):Prop:=∀(w:World) (os:OsState),Q (w.withFollow "special-get-raises" b) os
theorem e6F:Ux false hd:=by (delta Ux;intro w os;refine LR.mapT (hb (w.withFollow "special-get-raises" false) os) ?_;kernel_rfl)
theorem e6U:Ux true hd:=by (delta Ux;intro w os;refine LR.mapT (hb (w.withFollow "special-get-raises" true) os) ?_;kernel_rfl)
theorem _m5 (h:(∀w os,Q w os)∧B->C) (f:Ux false h) (u:Ux true h):_cK h:=W.byRow2 "special-get-raises" (P:=fun w=>∀os,Q w os) f u
theorem e6:_cK hd:=_m5 hd e6F e6U
theorem join (h:(∀w os,Q w os)∧B->C) (e:_cK h) (b:B):C:=h ⟨e,b⟩
end K25
set_option maxRecDepth 100000
namespace L2
open PySem PySem.Spec PyProof.Rows
variable {C L a b dx:Addr} {A:Around} {op:CmpOp} {X:Cx} {c e tg:Expr} {fd:FuncData} {o:HO} {base h h':Heap} {H H':Hp} {pins:List (Addr×Obj)} {kw:List (Str×Value)} {ch fp:List Addr} {es:List Expr} {body:List Stmt} {N ps:List Str} {xs:List V} {us:List Value} {M:Model} {i n t':Nat} {pos:Pos} {P:Program} {s:Shared} {σ:St} {m:Str} {mA:Str->Option Value} {ta te:TE} {tb:TS} {v y:V} {u:Value} {E Q:Value->Shared->Prop} {f:Value->Value->Sem Value} {K:W.Frag} {CX:Yn}
abbrev _l:=Sum Int Str
noncomputable def Vl:_l->Value->Bool
 |.inl k,v=>Value.isInt k v
 |.inr x,v=>Value.isStrOf x v
noncomputable def Vo (w:World):_l->Int
 |.inl k=>hashInt k
 |.inr x=>hashStr w x
theorem X9:∀{k:_l} {v:Value},Vl k v=true->(∃i t,k=Sum.inl i∧v=Value.int i t)∨(∃x t,k=Sum.inr x∧v=Value.str x t)
 |.inl i,v,h=>by
  obtain ⟨t,e⟩:=Value.isInt_shape (k:=i) (v:=v) h;exact .inl ⟨i,t,rfl,e⟩
 |.inr x,v,h=>by
  obtain ⟨t,e⟩:=Value.isStrOf_shape (x:=x) (v:=v) h;exact .inr ⟨x,t,rfl,e⟩
theorem _oo (i:Int) (t:Tok):Vl (.inl i) (.int i t)=true:=by simp [Vl,Value.isInt]
theorem _kx (x:Str) (t:Tok):Vl (.inr x) (.str x t)=true:=by simp [Vl,Value.isStrOf]
theorem _m6 (a b:Int):decide ((Sum.inl a:_l)=Sum.inl b)=(a==b):=by
 by_cases e:a=b
 ·subst e;simp
 ·have h:¬(Sum.inl a:_l)=Sum.inl b:=fun q=>e (Sum.inl.inj q);rw [Qs h];exact (Rz.mpr e).symm
theorem _nr (a b:Str):decide ((Sum.inr a:_l)=Sum.inr b)=decide (a=b):=by
 by_cases e:a=b
 ·subst e;simp
 ·have h:¬(Sum.inr a:_l)=Sum.inr b:=fun q=>e (R8 q);rw [Qs h,Qs e]
theorem _oF (a:Int) (b:Str):decide ((Sum.inl a:_l)=Sum.inr b)=false:=Qs (fun q=>nomatch q)
theorem _lg (a:Str) (b:Int):decide ((Sum.inr a:_l)=Sum.inl b)=false:=Qs (fun q=>nomatch q)
noncomputable def Yi (prog:Program) (w:World):PySem.KeyKind prog w _l where
 is:=Vl
 hash:=Vo w
 inj:=fun v a b ha hb=>by
  rcases X9 ha with ⟨i,t,rfl,rfl⟩|⟨x,t,rfl,rfl⟩
  ·rcases X9 hb with ⟨j,u,rfl,e⟩|⟨y,u,rfl,e⟩
   ·injection e with e1 _;rw [e1]
   ·exact nomatch e
  ·rcases X9 hb with ⟨j,u,rfl,e⟩|⟨y,u,rfl,e⟩
   ·exact nomatch e
   ·injection e with e1 _;rw [e1]
 byValue:=fun k v h=>by
  rcases X9 h with ⟨i,t,rfl,rfl⟩|⟨x,t,rfl,rfl⟩<;>rfl
 pyHash:=fun hv h=>by
  rcases X9 hv with ⟨i,t,rfl,rfl⟩|⟨x,t,rfl,rfl⟩
  ·exact wpAny_pyHash_int h
  ·exact wpAny_pyHash_str h
 eqBool:=fun hu hv h=>by
  rcases X9 hu with ⟨i,t,rfl,rfl⟩|⟨x,t,rfl,rfl⟩
  ·rcases X9 hv with ⟨j,u,rfl,rfl⟩|⟨y,u,rfl,rfl⟩
   ·rw [_m6] at h;exact wpAny_eqBool_int h
   ·rw [_oF] at h;exact Nq i t y u _ _ _ _ h
  ·rcases X9 hv with ⟨j,u,rfl,rfl⟩|⟨y,u,rfl,rfl⟩
   ·rw [_lg] at h;exact Nr x t j u _ _ _ _ h
   ·rw [_nr] at h;exact wpAny_eqBool_str h
 «strs»:=fun k x t v h=>by
  rcases X9 h with ⟨i,u,rfl,e⟩|⟨y,u,rfl,e⟩
  ·exact nomatch e
  ·injection e with e1 _;subst e1;cases v<;>rfl
theorem _lB (prog:Program) (w:World) (i:Int) (t:Tok):(Yi prog w).is (.inl i) (.int i t)=true:=_oo i t
theorem _op (prog:Program) (w:World) (x:Str) (t:Tok):(Yi prog w).is (.inr x) (.str x t)=true:=_kx x t
inductive V where
 |non|bl (b:Bool)|int (i:Int)|str (x:Str)|byt (b:Array UInt8)|flt (b:UInt64)|ref (a:Addr)|ty (n:String)
 deriving DecidableEq
def RelV:V->Value->Prop
 |.non,u=>u=Value.none
 |.bl b,u=>u=Value.bool b
 |.int i,u=>∃t,u=Value.int i t
 |.str x,u=>∃t,u=Value.str x t
 |.byt b,u=>∃t,u=Value.bytes b t
 |.flt b,u=>∃t,u=Value.float b t
 |.ref a,u=>u=Value.ref a
 |.ty n,u=>u=Value.type n
abbrev Vals:List V->List Value->Prop:=Paired RelV
theorem Vals.length (r:Vals xs us):xs.length=us.length:=GM r
theorem Vals.get:∀{xs:List V} {us:List Value} {i:Nat} {x:V},Vals xs us->xs[i]?=some x->∃u,us[i]?=some u∧RelV x u
 |_,_,_,_,.nil,e=>by simp at e
 |_,_,0,_,.cons r _,e=>by simp at e;subst e;exact ⟨_,rfl,r⟩
 |_,_,i+1,x,.cons _ t,e=>by
  obtain ⟨u,h1,h2⟩:=Vals.get (i:=i) (x:=x) t (by simpa using e);exact ⟨u,by simpa using h1,h2⟩
theorem Vals.set {x:V} {u:Value} (r:RelV x u):∀{xs:List V} {us:List Value} (i:Nat),Vals xs us->Vals (xs.set i x) (us.set i u)
 |_,_,_,.nil=>.nil
 |_,_,0,.cons _ t=>.cons r t
 |_,_,i+1,.cons q t=>.cons q (Vals.set r i t)
theorem Vals.append:∀{xs ys:List V} {us ws:List Value},Vals xs us->Vals ys ws->Vals (xs++ys) (us++ws)
 |_,_,_,_,.nil,s=>s
 |_,_,_,_,.cons r t,s=>.cons r (Vals.append t s)
theorem Vals.take:∀{xs:List V} {us:List Value} (n:Nat),Vals xs us->Vals (xs.take n) (us.take n)
 |_,_,0,_=>.nil
 |_,_,_+1,.nil=>.nil
 |_,_,n+1,.cons r t=>.cons r (Vals.take n t)
theorem Vals.drop:∀{xs:List V} {us:List Value} (n:Nat),Vals xs us->Vals (xs.drop n) (us.drop n)
 |_,_,0,r=>r
 |_,_,_+1,.nil=>.nil
 |_,_,n+1,.cons _ t=>Vals.drop n t
def RelO:Option V->Option Value->Prop
 |some v,some u=>RelV v u
 |none,none=>True
 |_,_=>False
def KV {κ:Type}:List (κ×V)->List (κ×Value)->Prop:=Paired fun (p:κ×V) (q:κ×Value)=>p.1=q.1∧RelV p.2 q.2
noncomputable def kV:_l->V
 |.inl i=>.int i
 |.inr x=>.str x
inductive HO where
 |lst (xs:List V)
 |tup (xs:List V)
 |dK (kvs:List (_l×V))|dT (kvs:List (List _l×V))
 |set (S:Int->Bool) (n:Nat)
 |ins (C dx:Addr) (fs:List (Str×V))
 |own (x:Addr)
 |xd (fs:List (Str×V))
 |met (f x:Addr)
 |rng (lo hi:Int)
 |frz (o:Obj) (u:HO)
 |tbl (ps:Array Value)
 |ext (φ:Heap->Prop)
abbrev Hp:=Addr->Option HO
noncomputable def _c (H:Hp) (a:Addr) (o:HO):Hp:=fun b=>if b=a then some o else H b
theorem _f:_c H a o a=some o:=by unfold _c;rw [Qb rfl]
theorem _d (h:b≠a):_c H a o b=H b:=by unfold _c;rw [Qa h]
theorem _hG {u:HO} (h:H a=some o) (h':H b=some u) (d:o≠u):a≠b:=by
 intro e;subst e;rw [h] at h';exact d (Qn h')
theorem _t (h:H a=some o) (h':H b=none):a≠b:=by
 intro e;subst e;rw [h] at h';cases h'
section
variable (P:Program) (w:World)
def ObjOk (H:Hp) (h:Heap) (a:Addr):HO->Prop
 |.lst xs=>xs.length≤sizeLine∧∃(its:List Value) (n:Nat),Vals xs its∧h.get? a=some { cls:=.type "list",data:=.seq its.toArray n }
 |.tup xs=>xs.length≤sizeLine∧∃its:List Value,Vals xs its∧IsTup h a its.toArray
 |.dK kvs=>kvs.length≤sizeLine∧(a==sysModules)=false∧∃vs,KV kvs vs∧h.DictOf (Yi P w) a vs
 |.dT kvs => kvs.length ≤ sizeLine ∧ (a==sysModules)=false ∧ ∃xs : List (List _l×Addr×Value),
   Paired (fun (p:List _l×V) (q:List _l×Addr×Value)=>p.1=q.1∧H q.2.1=some (.tup (p.1.map kV))∧RelV p.2 q.2.2) kvs xs ∧
   ∃o es ep,h.get? a=some o∧o.ExactDict∧o.data=.dict es ep∧es.toList=xs.map (entryOfKey (tupleKind (Yi P w)))∧(xs.map (·.1)).Nodup
 |.set S n=>h.SetOf (intKind P w) a S n
 |.ins C dx fs => H dx=some (.own a) ∧ fs.length ≤ 1000 ∧ dx ≠ a ∧ h.get? a=some (W.instObj C dx) ∧
   ∃mA,h.Ns1 dx mA∧(∀f,RelO (fs.lookup f) (mA f))∧PySem.Within mA (fs.map (·.1))
 |.own _=>∃o,h.get? a=some o
 |.xd fs=>∃mA,h.Ns1 a mA∧∀f,RelO (fs.lookup f) (mA f)
 |.rng lo hi=>∃t u v,h.get? a=some { cls:=.type "range",data:=.fields #[.int lo t,.int hi u,.int 1 v] }
 |.frz o u=>h.get? a=some o∧ObjOk H h a u
 |.tbl ps=>h.get? a=some { cls:=.none,data:=.fields ps }
 |.met f x=>h.get? a=some (W.methodObj (.ref f) (.ref x))
 |.ext φ=>φ h∧(∃o,h.get? a=some o)∧∀h1 h2:Heap,φ h1->(∀o,h1.get? a=some o->h2.get? a=some o)->φ h2
def HOk (H:Hp) (h:Heap):Prop:=∀a o,H a=some o->ObjOk P w H h a o
end
section
variable {w:World}
theorem ObjOk.lt (x:ObjOk P w H h a o):a<h.objs.size:=by
 cases o with
 |lst xs=>obtain ⟨_,_,_,_,e⟩:=x;exact Qi e
 |tup xs=>obtain ⟨_,_,_,p⟩:=x;exact p.lt
 |dK kvs=>obtain ⟨_,_,_,_,o,_,_,e,_⟩:=x;exact Qi e
 |dT kvs=>obtain ⟨_,_,_,_,o,_,_,e,_⟩:=x;exact Qi e
 |set S n=>obtain ⟨o,_,_,_,e,_⟩:=x;exact Qi e
 |ins C dx fs=>obtain ⟨_,_,_,e,_⟩:=x;exact Qi e
 |own y=>obtain ⟨_,e⟩:=x;exact Qi e
 |xd fs=>obtain ⟨_,⟨_,_,_,e,_⟩,_⟩:=x;exact Qi e
 |rng lo hi=>obtain ⟨_,_,_,e⟩:=x;exact Qi e
 |frz ob u=>obtain ⟨e,_⟩:=x;exact Qi e
 |tbl ps=>exact Qi (show h.get? a=some _ from x)
 |met f y=>exact Qi (show h.get? a=some _ from x)
 |ext φ=>obtain ⟨_,⟨_,e⟩,_⟩:=x;exact Qi e
theorem Paired.mapP {α β:Type} {F G:α->β->Prop}:∀{l₁:List α} {l₂:List β},Paired F l₁ l₂->(∀a b,F a b->G a b)->Paired G l₁ l₂
 |_,_,.nil,_=>.nil
 |_,_,.cons r t,f=>.cons (f _ _ r) (Paired.mapP t f)
theorem ObjOk.stay (x:ObjOk P w H h a o) (k:∀b u,(b=a∨H b=some (.own a))->h.get? b=some u->h'.get? b=some u)
 (ho:∀b,H b=some (.own a)->H' b=some (.own a)) (ht:∀b xs,H b=some (.tup xs)->H' b=some (.tup xs)):ObjOk P w H' h' a o:=by
 induction o with
 |lst xs=>obtain ⟨z,its,n,r,e⟩:=x;exact ⟨z,its,n,r,k _ _ (.inl rfl) e⟩
 |tup xs=>obtain ⟨z,its,r,ob,e,c⟩:=x;exact ⟨z,its,r,ob,k _ _ (.inl rfl) e,c⟩
 |dK kvs=>obtain ⟨z,y,vs,r,ob,es,ep,e,c⟩:=x;exact ⟨z,y,vs,r,ob,es,ep,k _ _ (.inl rfl) e,c⟩
 |dT kvs =>
  obtain ⟨z,y,xs,r,ob,es,ep,e,c⟩:=x;exact ⟨z,y,xs,Paired.mapP r fun p q z=>⟨z.1,ht _ _ z.2.1,z.2.2⟩,ob,es,ep,k _ _ (.inl rfl) e,c⟩
 |set S n=>obtain ⟨ob,es,ep,t,e,c⟩:=x;exact ⟨ob,es,ep,t,k _ _ (.inl rfl) e,c⟩
 |ins C dx fs =>
  obtain ⟨d,z,ne,e,mA,⟨od,es,ep,e2,c⟩,r⟩:=x;exact ⟨ho _ d,z,ne,k _ _ (.inl rfl) e,mA,⟨od,es,ep,k _ _ (.inr d) e2,c⟩,r⟩
 |own y=>obtain ⟨ob,e⟩:=x;exact ⟨ob,k _ _ (.inl rfl) e⟩
 |xd fs=>obtain ⟨mA,⟨od,es,ep,e,c⟩,r⟩:=x;exact ⟨mA,⟨od,es,ep,k _ _ (.inl rfl) e,c⟩,r⟩
 |rng lo hi=>obtain ⟨t,u,v,e⟩:=x;exact ⟨t,u,v,k _ _ (.inl rfl) e⟩
 |frz ob u ih=>obtain ⟨e,q⟩:=x;exact ⟨k _ _ (.inl rfl) e,ih q⟩
 |tbl ps =>
  have e:h.get? a=some { cls:=.none,data:=.fields ps }:=x;show h'.get? a=some { cls:=.none,data:=.fields ps };exact k a _ (.inl rfl) e
 |met f y =>
  have e:h.get? a=some (W.methodObj (.ref f) (.ref y)):=x;show h'.get? a=some (W.methodObj (.ref f) (.ref y));exact k a _ (.inl rfl) e
 |ext φ=>obtain ⟨p,⟨o,e⟩,st⟩:=x;exact ⟨st _ _ p fun o q=>k _ _ (.inl rfl) q,⟨o,k _ _ (.inl rfl) e⟩,st⟩
theorem HOk.lt (x:HOk P w H h) (e:H a=some o):a<h.objs.size:=(x a o e).lt
theorem HOk.fresh (x:HOk P w H h) (e:h.objs.size≤a):H a=none:=by
 cases q:H a with
 |none=>rfl
 |some u=>exact absurd (Qq (x.lt q) e) (QF _)
theorem HOk.kept (x:HOk P w H h) (k:∀b u,h.get? b=some u->h'.get? b=some u):HOk P w H h':=fun a o e =>
 (x a o e).stay (fun b u _ q=>k b u q) (fun _ q=>q) fun _ _ q=>q
theorem HOk.laid (x:HOk P w H h) (k:∀b u,h.get? b=some u->h'.get? b=some u) (hp:h.objs.size≤a) (new:ObjOk P w (_c H a o) h' a o):HOk P w (_c H a o) h':=fun b u e=>by
 have hn:=x.fresh hp;by_cases hb:b=a
 ·subst hb;rw [_f] at e;cases e;exact new
 ·rw [_d hb] at e;exact (x b u e).stay (fun c v _ q=>k c v q) (fun c q=>by rw [_d (_t q hn)];exact q) fun c xs q=>by rw [_d (_t q hn)];exact q
end
def Rd (H:Hp) (a:Addr) (u:HO):Prop:=H a=some u∨∃o,H a=some (.frz o u)
theorem Rd.ok {w:World} {u:HO} (r:Rd H a u) (x:HOk P w H h):ObjOk P w H h a u:=by
 rcases r with r|⟨o,r⟩
 ·exact x a u r
 ·obtain ⟨_,q⟩:=x a _ r;exact q
def Ju:Option HO->Prop
 |some (.lst _)=>True
 |some (.dK _)=>True
 |some (.dT _)=>True
 |some (.set _ _)=>True
 |some (.ins _ _ _)=>True
 |some (.ext _)=>True
 |_=>False
section
variable {w:World} {x e:Addr} {o':HO}
theorem HOk.write (ok:HOk P w H h) (mu:Ju (H x)) (he:e=x∨H e=some (.own x)) (k:∀b u,b≠e->h.get? b=some u->h'.get? b=some u) (heo:∃u,h'.get? e=some u)
 (new:ObjOk P w (_c H x o') h' x o'):HOk P w (_c H x o') h':=fun b u q=>by
 have nown:∀c y,H c=some (.own y)->c≠x:=fun c y r z=>by subst z;rw [r] at mu;exact mu
 have ntup:∀c xs,H c=some (.tup xs)->c≠x:=fun c xs r z=>by subst z;rw [r] at mu;exact mu
 by_cases hb:b=x
 ·subst hb;rw [_f] at q;cases q;exact new
 ·rw [_d hb] at q;by_cases hbe:b=e
  ·have q':H b=some (.own x):=by
    rcases he with z|z
    ·exact absurd (hbe.trans z) hb
    ·rw [hbe];exact z
   rw [q] at q';cases q';obtain ⟨v,hv⟩:=heo;exact ⟨v,by rw [hbe];exact hv⟩
  ·refine (ok b u q).stay (fun c v hc r=>k c v ?_ r) (fun c r=>by rw [_d (nown c b r)];exact r) fun c xs r=>by rw [_d (ntup c xs r)];exact r
   rcases hc with rfl|hc
   ·exact hbe
   ·rintro rfl;rcases he with z|z
    ·exact nown c b hc z
    ·rw [hc] at z;cases z;exact hb rfl
end
structure Un (fs ex:List Addr) (H H':Hp) (h h':Heap):Prop where
 keep:∀b o,h.get? b=some o->H b=none->b∉fs->b∉ex->h'.get? b=some o
 slot:∀b o,h.get? b=some o->H b=none->b∈fs->b∉ex->∃sl,h'.get? b=some { o with slots:=sl }
 free:∀b o,h.get? b=some o->H b=none->b∉ex->H' b=none
 there:∀b o,h.get? b=some o->b∉ex->∃o',h'.get? b=some o'
 tups:∀b xs,H b=some (.tup xs)->H' b=some (.tup xs)
 frzs:∀b o u,H b=some (.frz o u)->H' b=some (.frz o u)
 tbls:∀b ps,H b=some (.tbl ps)->∃more,H' b=some (.tbl (ps++more))
section
variable {fs fs' ex ex':List Addr} {H1 H2:Hp} {h1 h2:Heap} {x e:Addr}
theorem Un.any (u:Un fs ex H H1 h h1) {ob:Obj} (q:h.get? b=some ob) (n:H b=none) (hx:b∉ex):∃sl,h1.get? b=some { ob with slots:=sl }:=by
 by_cases hb:b∈fs
 ·exact u.slot b ob q n hb hx
 ·exact ⟨ob.slots,u.keep b ob q n hb hx⟩
theorem Un.kept (k:∀b u,h.get? b=some u->h'.get? b=some u):Un fs ex H H h h' :=
 ⟨fun b ob q _ _ _=>k b ob q,fun b ob q _ _ _=>⟨ob.slots,k b ob q⟩,fun _ _ _ n _=>n,fun b ob q _=>⟨ob,k b ob q⟩,fun _ _ q=>q,fun _ _ _ q=>q,fun _ ps q=>⟨#[],by rw [q];simp⟩⟩
theorem Un.refl:Un fs ex H H h h:=Un.kept fun _ _ q=>q
theorem Un.laid (k:∀b u,h.get? b=some u->h'.get? b=some u) (hp:h.objs.size≤a) (hn:H a=none):Un fs ex H (_c H a o) h h' where
 keep:=fun b u q _ _ _=>k b u q
 slot:=fun b u q _ _ _=>⟨u.slots,k b u q⟩
 free:=fun b u q n _=>by rw [_d (QA (Qq (Qi q) hp))];exact n
 there:=fun b u q _=>⟨u,k b u q⟩
 tups:=fun b xs q=>by rw [_d (_t q hn)];exact q
 frzs:=fun b u xs q=>by rw [_d (_t q hn)];exact q
 tbls:=fun b ps q=>⟨#[],by rw [_d (_t q hn),q];simp⟩
theorem Un.write (mu:Ju (H x)) (he:e=x∨H e=some (.own x)) (k:∀b u,b≠e->h.get? b=some u->h'.get? b=some u) (heo:∃u,h'.get? e=some u):Un fs ex H (_c H x o) h h':=by
 have hx:∀b,H b=none->b≠x:=fun b n z=>by subst z;rw [n] at mu;exact mu
 have hb:∀b,H b=none->b≠e:=fun b n z=>by
  subst z;rcases he with r|r
  ·exact hx b n r
  ·rw [n] at r;cases r
 have hm:∀b u,H b=some u->¬Ju (some u)->b≠x:=fun b u q nm z=>by subst z;rw [q] at mu;exact nm mu
 refine ⟨fun b u q n _ _=>k b u (hb b n) q,fun b u q n _ _=>⟨u.slots,k b u (hb b n) q⟩,fun b u q n _=>by rw [_d (hx b n)];exact n,fun b u q _=>?_,
  fun b xs q=>by rw [_d (hm b _ q fun z=>z)];exact q,fun b u xs q=>by rw [_d (hm b _ q fun z=>z)];exact q,fun b ps q=>⟨#[],by rw [_d (hm b _ q fun z=>z),q];simp⟩⟩
 by_cases hbe:b=e
 ·subst hbe;exact heo
 ·exact ⟨u,k b u hbe q⟩
end
noncomputable def trk (h:Heap) (H:Hp):List Addr:=(List.range h.objs.size).filter fun a=>(H a).isSome
noncomputable def Wr (h:Heap) (H:Hp):Heap:=W.hideAll h (trk h H)
theorem _n7 (h:Heap) (H:Hp):(Wr h H).objs.size=h.objs.size:=W.hideAll_size _ _
theorem _mT {o:Obj} (e:h.get? b=some o) (n:H b=none):(Wr h H).get? b=some o :=
 W.hideAll_get _ e fun hm=>by
  have q:(H b).isSome=true:=(RC.mp hm).2;rw [n] at q;simp at q
theorem _js {o:Obj} (e:(Wr h H).get? b=some o):h.get? b=some o∧H b=none:=by
 have e':h.get? b=some o:=W.of_hideAll (trk h H) e;refine ⟨e',?_⟩;cases q:H b with
 |none=>rfl
 |some x =>
  have hm:b∈trk h H:=RC.mpr ⟨R9.mpr (Qi e'),by simp [q]⟩;have z:(Wr h H).get? b=none:=W.hideAll_none (trk h H) hm;rw [z] at e;cases e
noncomputable def JI (g h:Heap) (L:Addr):List (Addr×Obj):=(List.range h.objs.size).filterMap fun a=>if a=L∨(g.get? a).isSome=true then none else (h.get? a).map fun o=>(a,o)
theorem _gc {g:Heap} {o:Obj} (h1:a≠L) (h2:g.get? a=none) (h3:h.get? a=some o):(a,o)∈JI g h L :=
 Rc.mpr ⟨a,R9.mpr (Qi h3),by simp [h1,h2,h3]⟩
theorem _kf {g:Heap} {p:Addr×Obj} (hp:p∈JI g h L):p.1≠L∧g.get? p.1=none∧h.get? p.1=some p.2:=by
 obtain ⟨b,_,e⟩:=Rc.mp hp;split at e
 ·cases e
 ·rename_i hn;cases q:h.get? b with
  |none=>rw [q] at e;simp at e
  |some u =>
   rw [q] at e;simp only [Np,Option.some.injEq] at e;subst e;refine ⟨fun z=>hn (.inl z),?_,q⟩;show g.get? b=none;cases r:g.get? b with
   |none=>rfl
   |some v=>exact (hn (.inr (by simp [r]))).elim
theorem _k6 {g:Heap}:News g L h (JI g h L):=fun p hp=>let ⟨a,b,c⟩:=_kf hp;⟨c,a,b⟩
structure Mod (K:W.Frag) (mg:Str->Option Value) (base:Heap):Prop where
 kin:K.In base
 glob:base.Ns mainGlobals mg
 blt:∃mb,base.Ns builtinsNs mb∧∀x:Str,x≠"__name__"->mb x=bootBuiltins x
 nolimit:base.NoLimit
structure Cx where
 prog:Program
 w:World
 K:W.Frag
 mg:Str->Option Value
 base:Heap
 A:Around
 N:List Str
 s₀:Shared
 H₀:Hp
 env:Env
 outer:List Env
 stack:List Env
 ex:List Addr
 fn:Str->Bool
 calm:Bool
 pn:List (Addr×Obj)
 xe:Value->Shared->Prop
noncomputable def YH (l:List Env):List Addr:=l.filterMap (·.frame)
noncomputable abbrev Cx.fs (X:Cx):List Addr:=YH X.outer
def JG (sc:Scope) (x:Str):Prop:=sc.names.lookup x=some .local∨sc.names.lookup x=some .cell∨sc.names.lookup x=some .free
def Jv (sc:Scope) (x:Str):Prop:=sc.names.lookup x=some .local∨sc.names.lookup x=some .cell
def _k8 (env:Env) (h:Heap) (m:Str->Option Value) (x:Str) (u:Value):Prop :=
 (env.kindOf x=some .local∧m x=some u)∨((env.kindOf x=some .cell∨env.kindOf x=some .free)∧∃c,env.cells.lookup x=some c∧h.IsCell c (some u))
structure Cx.Ok (X:Cx):Prop where
 mod:Mod X.K X.mg X.base
 kind:X.env.scope.kind=.function
 glob:X.env.globals=mainGlobals
 blt:X.env.builtins=builtinsNs
 above:X.s₀.heap.objs.size≤X.env.locals
 inj:∀x y c,X.env.cells.lookup x=some c->X.env.cells.lookup y=some c->x=y
 has:∀x,(X.env.kindOf x=some .cell∨X.env.kindOf x=some .free)->∃c,X.env.cells.lookup x=some c
 cab:∀x c,X.fn x=true->X.env.cells.lookup x=some c->X.s₀.heap.objs.size≤c
 hd:X.calm=true->X.A.handled=none
 frames:X.A.frames=some X.stack
 stk:X.stack=X.outer∨(X.stack=X.env::X.outer∧X.env.frame=some X.env.locals)
 exf:∀b∈X.ex,b≠X.env.locals∧∀x c,X.env.cells.lookup x=some c->c≠b
 bs:∀b o,X.base.get? b=some o->X.s₀.heap.get? b=some o∧X.H₀ b=none
 bsz:X.base.objs.size≤X.s₀.heap.objs.size
 noex:∀b o,X.base.get? b=some o->b∉X.ex
 exfs:∀b∈X.ex,b∉X.fs
 funs:X.s₀.heap.FunFrames X.base X.outer
 frf:∀b∈X.fs,X.H₀ b=none
structure Inv (X:Cx) (pins:List (Addr×Obj)) (σ:List (Option V)) (H:Hp) (s:Shared):Prop where
 ok:X.Ok
 os:s.os=X.s₀.os
 bare:AllBare s.gens
 base:Un X.fs X.ex X.H₀ H X.s₀.heap s.heap
 loc:∃m,s.heap.Ns X.env.locals m∧∀(i:Nat) (x:Str) (v:V),X.N[i]?=some x->σ[i]?=some (some v)->JG X.env.scope x->∃u,RelV v u∧_k8 X.env s.heap m x u
 cell:∀x c,X.env.cells.lookup x=some c->∃v,s.heap.IsCell c v
 free:H X.env.locals=none
 freeC:∀x c,X.env.cells.lookup x=some c->H c=none
 pin:∀p∈X.pn++pins,s.heap.get? p.1=some p.2∧H p.1=none∧p.1≠X.env.locals∧p.1∉X.fs∧∀v,p.2.data≠.cell v
 hok:HOk X.prog X.w H s.heap
 len:σ.length=X.N.length
section
variable {σ:List (Option V)}
theorem Cx.Ok.nofr (ok:X.Ok) {o:Obj} (e:X.base.get? b=some o):b∉X.fs:=fun hb=>by
 have:=(ok.funs.mem hb).1;rw [e] at this;cases this
theorem Inv.bs (I:Inv X pins σ H s):∀b o,X.base.get? b=some o->s.heap.get? b=some o∧H b=none:=fun b o e =>
 ⟨I.base.keep b o (I.ok.bs b o e).1 (I.ok.bs b o e).2 (I.ok.nofr e) (I.ok.noex b o e),I.base.free b o (I.ok.bs b o e).1 (I.ok.bs b o e).2 (I.ok.noex b o e)⟩
theorem Inv.bk (I:Inv X pins σ H s):∀b o,X.base.get? b=some o->s.heap.get? b=some o:=fun b o e=>(I.bs b o e).1
theorem Inv.mod (I:Inv X pins σ H s):Mod X.K X.mg X.base:=I.ok.mod
theorem Inv.kIn (I:Inv X pins σ H s):X.K.In s.heap:=I.ok.mod.kin.keeps I.bk
theorem Inv.nolimit (I:Inv X pins σ H s):s.heap.NoLimit:=I.ok.mod.nolimit.keeps I.bk
theorem Inv.fr (I:Inv X pins σ H s):∃m,Fr X.base X.env.locals s.heap m :=
 let ⟨m,hn,_⟩:=I.loc
 ⟨m,hn,I.bk,Qk I.ok.bsz I.ok.above⟩
theorem Inv.lt (I:Inv X pins σ H s):X.env.locals<s.heap.objs.size:=let ⟨_,hn,_⟩:=I.loc;hn.lt
theorem Inv.sz (I:Inv X pins σ H s):X.s₀.heap.objs.size≤s.heap.objs.size:=Qk I.ok.above (QR I.lt)
theorem Inv.nofs (I:Inv X pins σ H s) (h:s.heap.objs.size≤a):a∉X.fs:=fun hb=>by
 obtain ⟨_,o,ho,_⟩:=I.ok.funs.mem hb;exact absurd (Qq (Qi ho) (Qk I.sz h)) (QF _)
theorem Inv.cne (I:Inv X pins σ H s):∀x c,X.env.cells.lookup x=some c->c≠X.env.locals:=fun x c e z=>by
 obtain ⟨v,o,ho,hd⟩:=I.cell x c e;obtain ⟨m,⟨o',es,ep,ho',hd',_⟩,_⟩:=I.loc;rw [z,ho'] at ho;cases ho;rw [hd'] at hd;cases hd
theorem Inv.funs (I:Inv X pins σ H s):s.heap.FunFrames X.base X.outer:=by
 have all:∀(l:List Env),(∀b∈YH l,b∈X.fs)->X.s₀.heap.FunFrames X.base l->s.heap.FunFrames X.base l:=by
  intro l
  induction l with
  |nil=>intro _ _;trivial
  |cons env r ih =>
   intro hs hl;obtain ⟨hk,⟨L,o,hf,hn,ho,hd⟩,hr⟩:=hl;have hL:L∈X.fs:=hs L (by unfold YH;rw [Re,hf];exact QI);obtain ⟨sl,e⟩:=I.base.slot L o ho (I.ok.frf L hL) hL fun z=>I.ok.exfs L z hL;exact ⟨hk,⟨L,_,hf,hn,e,hd⟩,ih (fun b hb=>hs b (by unfold YH;rw [Re,hf];exact QD _ hb)) hr⟩
 exact all X.outer (fun _ hb=>hb) I.ok.funs
theorem Inv.stack (I:Inv X pins σ H s):s.heap.FunFrames X.base X.stack:=by
 rcases I.ok.stk with e|⟨e,hf⟩
 ·rw [e];exact I.funs
 ·rw [e];obtain ⟨m,hn,_⟩:=I.loc;refine .cons (by rw [I.ok.kind];decide) hf hn ?_ I.funs;exact Nt (Qk I.ok.bsz I.ok.above)
theorem Inv.stkSub (I:Inv X pins σ H s):∀b∈YH X.stack,b∈X.env.locals::X.fs:=fun b hb=>by
 rcases I.ok.stk with e|⟨e,hf⟩
 ·rw [e] at hb;exact QD _ hb
 ·rw [e] at hb;unfold YH at hb;rw [Re,hf] at hb;exact hb
theorem Inv.stkFree (I:Inv X pins σ H s):∀b∈YH X.stack,H b=none:=fun b hb=>by
 rcases Qj.mp (I.stkSub b hb) with e|hb
 ·rw [e];exact I.free
 ·obtain ⟨_,o,ho,_⟩:=I.ok.funs.mem hb;exact I.base.free b o ho (I.ok.frf b hb) fun z=>I.ok.exfs b z hb
theorem Inv.step {g':Array GenState} {d':Drawn} (I:Inv X pins σ H s)
 (hch:∀b∈ch,(b∈X.ex∨X.s₀.heap.objs.size≤b)∧b≠X.env.locals∧(∀x c,X.env.cells.lookup x=some c->c≠b)∧∀p∈X.pn++pins,p.1≠b)
 (keep:∀b o,b≠X.env.locals->b∉X.fs->b∉ch->s.heap.get? b=some o->H b=none->h'.get? b=some o)
 (slot:∀b o,b≠X.env.locals->b∈X.fs->b∉ch->s.heap.get? b=some o->H b=none->∃sl,h'.get? b=some { o with slots:=sl }) (free:∀b o,b∉ch->s.heap.get? b=some o->H b=none->H' b=none)
 (there:∀b o,b∉ch->s.heap.get? b=some o->∃o',h'.get? b=some o')
 (tups:∀b xs,H b=some (.tup xs)->H' b=some (.tup xs)) (frzs:∀b o u,H b=some (.frz o u)->H' b=some (.frz o u)) (tbls:∀b ps,H b=some (.tbl ps)->∃more,H' b=some (.tbl (ps++more)))
 (ns:∀m,s.heap.Ns X.env.locals m->h'.Ns X.env.locals m) (hok:HOk X.prog X.w H' h') (hg:AllBare g') :
  Inv X pins σ H' { s with heap:=h',gens:=g',drawn:=d',toks:=t' }:=by
 have neL:∀b o,X.s₀.heap.get? b=some o->b≠X.env.locals:=fun b o e=>QA (Qq (Qi e) I.ok.above)
 have neC:∀b o,X.s₀.heap.get? b=some o->b∉X.ex->b∉ch:=fun b o e hx hb=>by
  rcases (hch b hb).1 with z|z
  ·exact hx z
  ·exact absurd (Qq (Qi e) z) (QF _)
 have cellK:∀x c,X.env.cells.lookup x=some c->∀v,s.heap.IsCell c v->h'.IsCell c v:=fun x c e v ⟨o,ho,hd⟩=>by
  have nch:c∉ch:=fun z=>(hch c z).2.2.1 x c e rfl;by_cases hc:c∈X.fs
  ·obtain ⟨sl,q⟩:=slot c o (I.cne x c e) hc nch ho (I.freeC x c e);exact ⟨_,q,hd⟩
  ·exact ⟨o,keep c o (I.cne x c e) hc nch ho (I.freeC x c e),hd⟩
 refine ⟨I.ok,I.os,hg,⟨fun b o e n hb hx=>?_,fun b o e n hb hx=>?_,fun b o e n hx=>?_,fun b o e hx=>?_,fun b xs e=>tups b xs (I.base.tups b xs e),fun b o xs e=>frzs b o xs (I.base.frzs b o xs e),fun b ps e=>?_⟩,?_,fun x c e=>?_,?_,fun x c e=>?_,fun p hp=>?_,hok,I.len⟩
 ·exact keep b o (neL b o e) hb (neC b o e hx) (I.base.keep b o e n hb hx) (I.base.free b o e n hx)
 ·obtain ⟨sl,e1⟩:=I.base.slot b o e n hb hx;obtain ⟨sl',e2⟩:=slot b _ (neL b o e) hb (neC b o e hx) e1 (I.base.free b o e n hx);exact ⟨sl',e2⟩
 ·obtain ⟨o',e1⟩:=I.base.there b o e hx;exact free b o' (neC b o e hx) e1 (I.base.free b o e n hx)
 ·obtain ⟨o',e1⟩:=I.base.there b o e hx;exact there b o' (neC b o e hx) e1
 ·obtain ⟨m1,e1⟩:=I.base.tbls b ps e;obtain ⟨m2,e2⟩:=tbls b _ e1;exact ⟨m1++m2,by rw [e2,Array.append_assoc]⟩
 ·obtain ⟨m,hn,hl⟩:=I.loc;refine ⟨m,ns m hn,fun i x v e1 e2 e3=>?_⟩;obtain ⟨u,r,l⟩:=hl i x v e1 e2 e3;refine ⟨u,r,?_⟩;rcases l with l|⟨k,c,e,z⟩
  ·exact .inl l
  ·exact .inr ⟨k,c,e,cellK x c e _ z⟩
 ·obtain ⟨v,z⟩:=I.cell x c e;exact ⟨v,cellK x c e v z⟩
 ·obtain ⟨m,⟨o,_,_,ho,_⟩,_⟩:=I.loc;exact free _ o (fun z=>(hch _ z).2.1 rfl) ho I.free
 ·obtain ⟨v,o,ho,hd⟩:=I.cell x c e;exact free c o (fun z=>(hch c z).2.2.1 x c e rfl) ho (I.freeC x c e)
 ·obtain ⟨e,n,ne,nf,d⟩:=I.pin p hp;have nch:p.1∉ch:=fun z=>(hch p.1 z).2.2.2 p hp rfl;exact ⟨keep p.1 p.2 ne nf nch e n,free p.1 p.2 nch e n,ne,nf,d⟩
theorem Inv.un (I:Inv X pins σ H s) (u:Un X.fs [] H H' s.heap h') (hok:HOk X.prog X.w H' h'):Inv X pins σ H' { s with heap:=h',toks:=t' }:=by
 obtain ⟨m,⟨o,es,ep,ho,r⟩,_⟩:=id I.loc;obtain ⟨sl,hL⟩:=u.any ho I.free (by simp)
 exact I.step (g':=s.gens) (d':=s.drawn) (ch:=[]) (fun _ z=>nomatch z) (fun b o _ hb _ e n=>u.keep b o e n hb (by simp)) (fun b o _ hb _ e n=>u.slot b o e n hb (by simp)) (fun b o _ e n=>u.free b o e n (by simp)) (fun b o _ e=>u.there b o e (by simp)) u.tups u.frzs u.tbls (fun m' hm=>by
  obtain ⟨o',es',ep',ho',r'⟩:=hm;rw [ho] at ho';cases ho';exact ⟨_,es',ep',hL,r'⟩) hok I.bare
theorem Inv.call {g':Array GenState} {d':Drawn} (I:Inv X pins σ H s) (u:Un (YH X.stack) ch H H' s.heap h') (hok:HOk X.prog X.w H' h') (hg:AllBare g')
 (hch:∀b∈ch,(b∈X.ex∨X.s₀.heap.objs.size≤b)∧b≠X.env.locals∧(∀x c,X.env.cells.lookup x=some c->c≠b)∧∀p∈X.pn++pins,p.1≠b) :
  Inv X pins σ H' { s with heap:=h',gens:=g',drawn:=d',toks:=t' }:=by
 obtain ⟨m,⟨o,es,ep,ho,r⟩,_⟩:=id I.loc;obtain ⟨sl,hL⟩:=u.any ho I.free fun z=>(hch _ z).2.1 rfl
 exact I.step (ch:=ch) hch (fun b o hL hb hc e n=>u.keep b o e n (fun z=>(Qj.mp (I.stkSub b z)).elim hL hb) hc) (fun b o _ _ hc e n=>u.any e n hc) (fun b o hc e n=>u.free b o e n hc) (fun b o hc e=>u.there b o e hc) u.tups u.frzs u.tbls (fun m' hm=>by
  obtain ⟨o',es',ep',ho',r'⟩:=hm;rw [ho] at ho';cases ho';exact ⟨_,es',ep',hL,r'⟩) hok hg
theorem Inv.turned {it:Addr} (I:Inv X pins σ H s) (k:∀b o,b≠it->s.heap.get? b=some o->h'.get? b=some o) (hn:H it=none) (hL:it≠X.env.locals)
 (h1:it∈X.ex∨X.s₀.heap.objs.size≤it) (h2:∀x c,X.env.cells.lookup x=some c->c≠it) (h3:∀p∈X.pn++pins,p.1≠it):Inv X pins σ H { s with heap:=h',toks:=t' }:=by
 have nit:∀b u,H b=some u->b≠it:=fun b u e z=>by rw [z,hn] at e;cases e
 refine I.step (g':=s.gens) (d':=s.drawn) (ch:=[it]) (fun b hb=>?_) (fun b o _ _ hc e _=>k b o (fun z=>hc (by simp [z])) e) (fun b o _ _ hc e _=>⟨o.slots,k b o (fun z=>hc (by simp [z])) e⟩) (fun _ _ _ _ n=>n)
  (fun b o hc e=>⟨o,k b o (fun z=>hc (by simp [z])) e⟩) (fun _ _ e=>e) (fun _ _ _ e=>e) (fun b ps e=>⟨#[],by rw [e];simp⟩) (fun m hm=>?_) (fun b u e=>?_) I.bare
 ·have e:b=it:=by simpa using hb
  subst e;exact ⟨h1,hL,h2,h3⟩
 ·obtain ⟨o,es,ep,ho,r⟩:=hm;exact ⟨o,es,ep,k _ o (Q4 hL) ho,r⟩
 ·refine (I.hok b u e).stay (fun c v hc q=>k c v ?_ q) (fun _ q=>q) fun _ _ q=>q;rcases hc with z|z
  ·rw [z];exact nit b u e
  ·exact nit c _ z
theorem Inv.tok (I:Inv X pins σ H s) (t:Nat):Inv X pins σ H { s with toks:=t }:=I.un (h':=s.heap) (t':=t) Un.refl I.hok
theorem Inv.kept (I:Inv X pins σ H s) (k:∀b u,s.heap.get? b=some u->h'.get? b=some u):Inv X pins σ H { s with heap:=h',toks:=t' }:=I.un (Un.kept k) (I.hok.kept k)
theorem Inv.laid (I:Inv X pins σ H s) (k:∀b u,s.heap.get? b=some u->h'.get? b=some u) (hp:s.heap.objs.size≤a) (new:ObjOk X.prog X.w (_c H a o) h' a o) :
  Inv X pins σ (_c H a o) { s with heap:=h',toks:=t' }:=I.un (Un.laid k hp (I.hok.fresh hp)) (I.hok.laid k hp new)
theorem Inv.write {x e:Addr} (I:Inv X pins σ H s) (mu:Ju (H x)) (he:e=x∨H e=some (.own x)) (k:∀b u,b≠e->s.heap.get? b=some u->h'.get? b=some u) (heo:∃u,h'.get? e=some u)
 (new:ObjOk X.prog X.w (_c H x o) h' x o):Inv X pins σ (_c H x o) { s with heap:=h',toks:=t' }:=I.un (Un.write mu he k heo) (I.hok.write mu he k heo new)
theorem Inv.pins_of {pins':List (Addr×Obj)} (I:Inv X pins σ H s) (h:∀p∈pins',s.heap.get? p.1=some p.2∧H p.1=none∧p.1≠X.env.locals∧p.1∉X.fs∧∀v,p.2.data≠.cell v):Inv X pins' σ H s :=
 ⟨I.ok,I.os,I.bare,I.base,I.loc,I.cell,I.free,I.freeC,fun p hp=>(Qh.mp hp).elim (fun z=>I.pin p (QY _ z)) (h p),I.hok,I.len⟩
theorem _hv (hN:N.Nodup) {j:Nat} {x:Str} (a:N[i]?=some x) (b:N[j]?=some x):i=j:=by
 obtain ⟨h1,e1⟩:=Qz.mp a;obtain ⟨h2,e2⟩:=Qz.mp b;exact (List.getElem_inj hN).mp (e1.trans e2.symm)
theorem _ii {x:Str} {Q:Unit->Shared->Prop} (I:Inv X pins σ H s) (hN:X.N.Nodup) (hi:X.N[i]?=some x) (hx:Jv X.env.scope x) (r:RelV v u)
 (h:∀s',Inv X pins (σ.set i (some v)) H s'->(∃a,Heap.SameBut a s.heap s'.heap∧(a=X.env.locals∨X.env.cells.lookup x=some a))->Q () s') (hf:X.fn x=true∨X.env.scope.names.lookup x=some .local:=by first|exact .inl rfl|exact .inr rfl|assumption):wpAny M A (storeName X.env x u) Q E s:=by
 obtain ⟨m,hn,hl⟩:=id I.loc;have hcls:(X.env.scope.kind==.class||(X.env.scope.kind==.module&&X.env.locals != X.env.globals))=false:=by rw [I.ok.kind];rfl
 have hiσ:i<σ.length:=by rw [I.len];exact (Qz.mp hi).1
 have cne:=I.cne
 have tracked:∀{a:Addr} {h':Heap},(∃o,s.heap.get? a=some o∧H a=none)->Heap.SameBut a s.heap h'->HOk X.prog X.w H h':=fun {a h'} ha hs b ob e=>by
  obtain ⟨_,_,hfree⟩:=ha;refine (I.hok b ob e).stay (fun c w' hc q=>(hs.2 c ?_).trans q) (fun _ q=>q) fun _ _ q=>q;rintro rfl;rcases hc with rfl|hc
  ·rw [hfree] at e;cases e
  ·rw [hfree] at hc;cases hc
 rcases hx with hk|hk
 ·refine wpAny_storeName_local hk hn (fun h' hn' hs=>?_) hcls;obtain ⟨oL,_,_,hoL,_⟩:=id hn;refine h _ ⟨I.ok,I.os,I.bare,⟨fun b o e n hb hx=>?_,fun b o e n hb hx=>?_,I.base.free,fun b o e hx=>?_,I.base.tups,I.base.frzs,I.base.tbls⟩,⟨_,hn',fun j y v' e1 e2 e3=>?_⟩,fun y c e=>?_,I.free,I.freeC,fun p hp=>?_,tracked ⟨oL,hoL,I.free⟩ hs,by simpa using I.len⟩ ⟨_,hs,.inl rfl⟩
  ·exact (hs.2 b (QA (Qq (Qi e) I.ok.above))).trans (I.base.keep b o e n hb hx)
  ·obtain ⟨sl,e1⟩:=I.base.slot b o e n hb hx;exact ⟨sl,(hs.2 b (QA (Qq (Qi e) I.ok.above))).trans e1⟩
  ·obtain ⟨o',e1⟩:=I.base.there b o e hx;exact ⟨o',(hs.2 b (QA (Qq (Qi e) I.ok.above))).trans e1⟩
  ·by_cases hj:j=i
   ·subst hj;rw [hi] at e1;cases e1;rw [List.getElem?_set_self hiσ] at e2;cases e2;exact ⟨u,r,.inl ⟨hk,by simp⟩⟩
   ·rw [List.getElem?_set_ne (Q4 hj)] at e2;obtain ⟨u',r',q⟩:=hl j y v' e1 e2 e3;refine ⟨u',r',?_⟩;rcases q with ⟨k,e⟩|⟨k,c,e,z⟩
    ·refine .inl ⟨k,?_⟩;have:y≠x:=fun e=>hj (_hv hN e1 (e▸hi));simp [this,e]
    ·exact .inr ⟨k,c,e,z.sameBut hs (cne y c e)⟩
  ·obtain ⟨w',z⟩:=I.cell y c e;exact ⟨w',z.sameBut hs (cne y c e)⟩
  ·obtain ⟨e,n,ne,nf,d⟩:=I.pin p hp;exact ⟨(hs.2 p.1 ne).trans e,n,ne,nf,d⟩
 ·have hfn:X.fn x=true:=by
   rcases hf with z|z
   ·exact z
   ·rw [z] at hk;cases hk
  obtain ⟨c,hc⟩:=I.ok.has x (.inl hk);obtain ⟨w',z⟩:=I.cell x c hc;refine wpAny_storeName_cell I.ok.kind hk hc z (fun h' hc' hs=>?_);obtain ⟨oc,hoc,hocd⟩:=id z;refine h { s with heap:=h' } ⟨I.ok,I.os,I.bare,⟨fun b o e n hb hx=>?_,fun b o e n hb hx=>?_,I.base.free,fun b o e hx=>?_,I.base.tups,I.base.frzs,I.base.tbls⟩,⟨m,hn.sameBut hs (Q4 (cne x c hc)),fun j y v' e1 e2 e3=>?_⟩,fun y c' e=>?_,I.free,I.freeC,fun p hp=>?_,tracked ⟨oc,hoc,I.freeC x c hc⟩ hs,by simpa using I.len⟩ ⟨c,hs,.inr hc⟩
  ·exact (hs.2 b (QA (Qq (Qi e) (I.ok.cab x c hfn hc)))).trans (I.base.keep b o e n hb hx)
  ·obtain ⟨sl,e1⟩:=I.base.slot b o e n hb hx;exact ⟨sl,(hs.2 b (QA (Qq (Qi e) (I.ok.cab x c hfn hc)))).trans e1⟩
  ·obtain ⟨o',e1⟩:=I.base.there b o e hx;exact ⟨o',(hs.2 b (QA (Qq (Qi e) (I.ok.cab x c hfn hc)))).trans e1⟩
  ·by_cases hj:j=i
   ·subst hj;rw [hi] at e1;cases e1;rw [List.getElem?_set_self hiσ] at e2;cases e2;exact ⟨u,r,.inr ⟨.inl hk,c,hc,hc'⟩⟩
   ·rw [List.getElem?_set_ne (Q4 hj)] at e2;obtain ⟨u',r',q⟩:=hl j y v' e1 e2 e3;refine ⟨u',r',?_⟩;rcases q with q|⟨k,c',e,z'⟩
    ·exact .inl q
    ·refine .inr ⟨k,c',e,z'.sameBut hs ?_⟩;rintro rfl;exact hj (_hv hN e1 (I.ok.inj _ _ _ e hc▸hi))
  ·by_cases hcc:c'=c
   ·subst hcc;exact ⟨_,hc'⟩
   ·obtain ⟨w2,z2⟩:=I.cell y c' e;exact ⟨w2,z2.sameBut hs hcc⟩
  ·obtain ⟨e,n,ne,nf,d⟩:=I.pin p hp;refine ⟨(hs.2 p.1 ?_).trans e,n,ne,nf,d⟩;intro q;rw [q,hoc] at e;have q':oc=p.2:=Qn e;exact d w' (by rw [←q'];exact hocd)
theorem _hL {x:Str} {Q:Unit->Shared->Prop} (I:Inv X pins σ H s) (hN:X.N.Nodup) (hi:X.N[i]?=some x) (hx:Jv X.env.scope x) (r:RelV v u)
 (h:∀s',Inv X pins (σ.set i (some v)) H s'->Q () s') (hf:X.fn x=true∨X.env.scope.names.lookup x=some .local:=by first|exact .inl rfl|exact .inr rfl|assumption):wpAny M A (storeName X.env x u) Q E s :=
 _ii I hN hi hx r (fun s' I' _=>h s' I') hf
theorem Inv.call' {s':Shared} (I:Inv X pins σ H s) (ho:s'.os=s.os) (u:Un (YH X.stack) ch H H' s.heap s'.heap) (hok:HOk X.prog X.w H' s'.heap) (hg:AllBare s'.gens)
 (hch:∀b∈ch,(b∈X.ex∨X.s₀.heap.objs.size≤b)∧b≠X.env.locals∧(∀x c,X.env.cells.lookup x=some c->c≠b)∧∀p∈X.pn++pins,p.1≠b):Inv X pins σ H' s':=by
 obtain ⟨h',g',d',t',o'⟩:=s';have e:o'=s.os:=ho;subst e;exact I.call (g':=g') (t':=t') (d':=d') u hok hg hch
end
abbrev XK:=Value->Option Addr->Hp->Prop
abbrev St:=List (Option V)
abbrev VK:=V->Hp->Prop
abbrev TE:=St->Hp->VK->Prop
abbrev TT:=St->Hp->(Bool->Hp->Prop)->Prop
abbrev TA:=St->Hp->(List V->Hp->Prop)->Prop
structure Ends where
 nx:St->Hp->Prop
 rt:VK
 bk:St->Hp->Prop:=fun _ _=>False
 ct:St->Hp->Prop:=fun _ _=>False
abbrev TS:=Ends->St->Hp->Prop
def EP (X:Cx) (pins:List (Addr×Obj)) (σ:St) (Q:VK) (u:Value) (s':Shared):Prop:=∃v H',Inv X pins σ H' s'∧RelV v u∧Q v H'
def TP (X:Cx) (pins:List (Addr×Obj)) (σ:St) (Q:Bool->Hp->Prop) (b:Bool) (s':Shared):Prop:=∃H',Inv X pins σ H' s'∧Q b H'
def AP (X:Cx) (pins:List (Addr×Obj)) (σ:St) (Q:List V->Hp->Prop) (us:List Value) (s':Shared):Prop:=∃vs H',Inv X pins σ H' s'∧Vals vs us∧Q vs H'
def SP (X:Cx) (pins:List (Addr×Obj)) (D:Ends) (f:Flow) (s':Shared):Prop :=
 match f with
 |.next=>∃σ' H',Inv X pins σ' H' s'∧D.nx σ' H'
 |.brk=>∃σ' H',Inv X pins σ' H' s'∧D.bk σ' H'
 |.cont=>∃σ' H',Inv X pins σ' H' s'∧D.ct σ' H'
 |.ret u=>∃v σ' H',Inv X pins σ' H' s'∧RelV v u∧D.rt v H'
def PE (X:Cx) (e:Expr) (t:TE):Prop :=
 ∀(pins:List (Addr×Obj)) (s:Shared) (σ:St) (H:Hp) (Q:VK),Inv X pins σ H s->t σ H Q->wpAny (model X.prog X.w) X.A (eval e X.env) (EP X pins σ Q) X.xe s
def PT (X:Cx) (e:Expr) (t:TT):Prop :=
 ∀(pins:List (Addr×Obj)) (s:Shared) (σ:St) (H:Hp) (Q:Bool->Hp->Prop),Inv X pins σ H s->t σ H Q->wpAny (model X.prog X.w) X.A (isTrue e X.env (eval e X.env)) (TP X pins σ Q) X.xe s
def PW (X:Cx) (e:Expr) (t:TT):Prop :=
 ∀(whole:Sem Value) (pins:List (Addr×Obj)) (s:Shared) (σ:St) (H:Hp) (Q:Bool->Hp->Prop),Inv X pins σ H s->t σ H Q->wpAny (model X.prog X.w) X.A (isTrue e X.env whole) (TP X pins σ Q) X.xe s
theorem PW.pt {t:TT} (h:PW X e t):PT X e t:=h _
def PA (X:Cx) (es:List Expr) (t:TA):Prop :=
 ∀(pos:Pos) (pins:List (Addr×Obj)) (s:Shared) (σ:St) (H:Hp) (Q:List V->Hp->Prop),Inv X pins σ H s->t σ H Q->wpAny (model X.prog X.w) X.A (spliced (backTo pos (starEach es X.env))) (AP X pins σ Q) X.xe s
def PS (X:Cx) (st:Stmt) (t:TS):Prop :=
 ∀(pins:List (Addr×Obj)) (s:Shared) (σ:St) (H:Hp) (D:Ends),Inv X pins σ H s->t D σ H->wpAny (model X.prog X.w) X.A (exec st X.env) (SP X pins D) X.xe s
def PSs (X:Cx) (st:List Stmt) (t:TS):Prop :=
 ∀(pins:List (Addr×Obj)) (s:Shared) (σ:St) (H:Hp) (D:Ends),Inv X pins σ H s->t D σ H->wpAny (model X.prog X.w) X.A (execs st X.env) (SP X pins D) X.xe s
theorem _m {α:Type} {t:Sem α} {Q Q':α->Shared->Prop} (h:wpAny M A t Q E s) (hQ:∀a s,Q a s->Q' a s):wpAny M A t Q' E s:=Rg h hQ fun _ _ x=>x
section
def YT (i:Nat):TE:=fun σ H Q=>∃v,σ[i]?=some (some v)∧Q v H
def tC (v:V):TE:=fun _ H Q=>Q v H
theorem _dy {x:Str} (hN:X.N[i]?=some x) (hv:JG X.env.scope x) (hd:(x==("__debug__": Str))=false:=by decide) (hcd:(x==("__classdict__": Str))=false:=by decide):PE X (.Name x pos) (YT i):=by
 intro pins s σ H Q I h;obtain ⟨v,e,h⟩:=h;obtain ⟨m,hn,hl⟩:=I.loc;obtain ⟨u,r,l⟩:=hl i x v hN e hv;have fin:EP X pins σ Q u s:=⟨v,H,I,r,h⟩;rcases l with ⟨hk,hm⟩|⟨hk,c,hc,hcell⟩
 ·exact RD (GN I.ok.kind hk hn hm fin) hd
 ·rcases hk with hk|hk
  ·exact RD (wpAny_loadName_cell I.ok.kind hk hc hcell fin) hd
  ·exact RD (Nu I.ok.kind hk hc hcell fin hcd) hd
theorem _j {i j pos}:PE X (.Constant (.int i) j pos) (tC (.int i)):=fun _ _ _ H _ I h=>wpAny_Constant_int ⟨.int i,H,I.tok _,⟨_,rfl⟩,h⟩
theorem Xg {b j pos}:PE X (.Constant (.bool b) j pos) (tC (.bl b)):=fun _ _ _ H _ I h=>Constant_bool ⟨.bl b,H,I,rfl,h⟩
theorem Um {j pos}:PE X (.Constant .none j pos) (tC .non):=fun _ _ _ H _ I h=>Constant_none ⟨.non,H,I,rfl,h⟩
theorem _p {x j pos}:PE X (.Constant (.str x) j pos) (tC (.str x)):=fun _ _ _ H _ I h=>Calls.Constant_str ⟨.str x,H,I.tok _,⟨_,rfl⟩,h⟩
def Gl (X:Cx) (x:Str):Prop:=X.env.kindOf x=some .globalImplicit
theorem _aT {x:Str} (I:Inv X pins σ H s) (hg:Gl X x) (hm:X.mg x=some u) (h:Q u s)
 (hd:(x==("__debug__": Str))=false:=by decide):wpAny (model X.prog X.w) X.A (eval (.Name x pos) X.env) Q E s :=
 Nv I.ok.kind hg (Calls.loadGlobal_global (by rw [I.ok.glob];exact I.mod.glob.keeps I.bk) hm h) hd
theorem Vs {x:Str} (I:Inv X pins σ H s) (hg:Gl X x) (hm:X.mg x=none) (hv:bootBuiltins x=some u) (h:Q u s)
 (hn:x≠"__name__":=by decide) (hd:(x==("__debug__": Str))=false:=by decide):wpAny (model X.prog X.w) X.A (eval (.Name x pos) X.env) Q E s:=by
 obtain ⟨mb,h1,h2⟩:=I.mod.blt;exact Nv I.ok.kind hg (Calls.loadGlobal_builtin (by rw [I.ok.glob];exact I.mod.glob.keeps I.bk) hm (by rw [I.ok.blt];exact h1.keeps I.bk) ((h2 x hn).trans hv) h) hd
theorem Xv {x:Str} (hg:Gl X x) (hm:X.mg x=some u) (r:RelV v u) (hd:(x==("__debug__": Str))=false:=by decide):PE X (.Name x pos) (tC v) :=
 fun _ _ _ H _ I h=>_aT I hg hm ⟨v,H,I,r,h⟩ hd
theorem Wi {x:Str} (hg:Gl X x) (hm:X.mg x=none) (hv:bootBuiltins x=some u) (r:RelV v u) (hn:x≠"__name__":=by decide) (hd:(x==("__debug__": Str))=false:=by decide):PE X (.Name x pos) (tC v) :=
 fun _ _ _ H _ I h=>Vs I hg hm hv ⟨v,H,I,r,h⟩ hn hd
variable {a b:Expr} {tb:TE}
def PC (X:Cx) (op:CmpOp) (a b:Expr) (t:TE):Prop :=
 ∀(pins:List (Addr×Obj)) (s:Shared) (σ:St) (H:Hp) (Q:VK),Inv X pins σ H s->t σ H Q →
  wpAny (model X.prog X.w) X.A (eval a X.env) (fun v s₁=>wpAny (model X.prog X.w) X.A (eval b X.env) (fun u s₂=>wpAny (model X.prog X.w) X.A (compareOp op v u) (EP X pins σ Q) X.xe s₂) X.xe s₁) X.xe s
def tB (t:TE):TT:=fun σ H Q=>t σ H fun x H1=>∃c,x=.bl c∧Q c H1
theorem WK {t:TE} (h:PC X op a b t) (h1:behindInMarks op b=false:=by first|exact nobehind _ (by decide) (by decide)|rfl):PT X (.Compare a [op] [b] pos) (tB t):=by
 intro pins s σ H Q I hw;refine wpAny_isTrue_Compare1 (_m (h pins s σ H _ I hw) fun v s1 h1=>_m h1 fun u s2 h2=>_m h2 fun c s3 ⟨x,H1,I1,r1,q1⟩=>?_) h1;obtain ⟨d,rfl,q⟩:=q1;cases r1;exact RU ⟨H1,I1,q⟩
theorem Xx {t:TE} (h:PE X e t) (he:∀whole,isTrue e X.env whole=(do let v ←whole;standAt e.pos;holding [v] (truthy v)):=by intro _;rfl):PT X e (tB t):=by
 intro pins s σ H Q I hw;refine isTrue_plain (_m (h pins s σ H _ I hw) fun v s1 ⟨x,H1,I1,r1,q1⟩=>?_) (he _);obtain ⟨d,rfl,q⟩:=q1;cases r1;exact RU ⟨H1,I1,q⟩
variable {tA tB':TT} {rest:List Expr}
def _kR (t u:TT):TT:=fun σ H Q=>t σ H fun c H1=>if c=true then u σ H1 Q else Q false H1
def tOr (t u:TT):TT:=fun σ H Q=>t σ H fun c H1=>if c=true then Q true H1 else u σ H1 Q
def _lQ (t:TT):TT:=fun σ H Q=>t σ H fun c H1=>Q (!c) H1
theorem UJ (ha:PT X a tA):PW X (.BoolOp .And [a] pos) tA:=by
 intro wh pins s σ H Q I h;refine isTrue_and (_m (ha pins s σ H Q I h) fun c s1 e=>?_);cases c with
 |true=>exact isTrue_and_nil e
 |false=>exact e
theorem VX (ha:PT X a tA):PW X (.BoolOp .Or [a] pos) tA:=by
 intro wh pins s σ H Q I h;refine isTrue_or (_m (ha pins s σ H Q I h) fun c s1 e=>?_);cases c with
 |false=>exact isTrue_or_nil e
 |true=>exact e
theorem UC (ha:PT X a tA) (hb:PW X (.BoolOp .And (b::rest) pos) tB'):PW X (.BoolOp .And (a::b::rest) pos) (_kR tA tB'):=by
 intro wh pins s σ H Q I h;refine isTrue_and (_m (ha pins s σ H _ I h) fun c s1 ⟨H1,I1,q1⟩=>?_);cases c with
 |true=>exact hb wh pins s1 σ H1 Q I1 q1
 |false=>exact ⟨H1,I1,q1⟩
theorem W2 (ha:PT X a tA) (hb:PW X (.BoolOp .Or (b::rest) pos) tB'):PW X (.BoolOp .Or (a::b::rest) pos) (tOr tA tB'):=by
 intro wh pins s σ H Q I h;refine isTrue_or (_m (ha pins s σ H _ I h) fun c s1 ⟨H1,I1,q1⟩=>?_);cases c with
 |true=>exact ⟨H1,I1,q1⟩
 |false=>exact hb wh pins s1 σ H1 Q I1 q1
theorem WQ (ha:PT X a tA):PT X (.UnaryOp .Not a pos) (_lQ tA):=by
 intro pins s σ H Q I h;exact isTrue_not (ha pins s σ H (fun c H1=>Q (!c) H1) I h)
def _qB (ta tb:TE):TE:=fun σ H Q=>ta σ H fun x H1=>∃c,x=.bl c∧if c=true then tb σ H1 Q else Q (.bl false) H1
def _ot (ta tb:TE):TE:=fun σ H Q=>ta σ H fun x H1=>∃c,x=.bl c∧if c=true then Q (.bl true) H1 else tb σ H1 Q
def _mO (ta:TE):TE:=fun σ H Q=>ta σ H fun x H1=>∃c,x=.bl c∧Q (.bl (!c)) H1
theorem XG {op} {t:TE} (h:PE X a t):PE X (.BoolOp op [a] pos) t:=fun pins s σ H Q I hw=>BoolOp_one (h pins s σ H Q I hw)
theorem X6 (ha:PE X a ta) (hb:PE X (.BoolOp .And (b::rest) pos) tb):PE X (.BoolOp .And (a::b::rest) pos) (_qB ta tb):=by
 intro pins s σ H Q I h;refine BoolOp_and (_m (ha pins s σ H _ I h) fun v s1 ⟨x,H1,I1,r1,q1⟩=>?_);obtain ⟨c,rfl,q1⟩:=q1;cases r1;refine RU ?_;cases c with
 |true=>exact hb pins s1 σ H1 Q I1 q1
 |false=>exact ⟨.bl false,H1,I1,rfl,q1⟩
theorem _cB (ha:PE X a ta) (hb:PE X (.BoolOp .Or (b::rest) pos) tb):PE X (.BoolOp .Or (a::b::rest) pos) (_ot ta tb):=by
 intro pins s σ H Q I h;refine BoolOp_or (_m (ha pins s σ H _ I h) fun v s1 ⟨x,H1,I1,r1,q1⟩=>?_);obtain ⟨c,rfl,q1⟩:=q1;cases r1;refine RU ?_;cases c with
 |false=>exact hb pins s1 σ H1 Q I1 q1
 |true=>exact ⟨.bl true,H1,I1,rfl,q1⟩
theorem _kP (ha:PE X a ta):PE X (.UnaryOp .Not a pos) (_mO ta):=by
 intro pins s σ H Q I h;refine UnaryOp_ (_m (ha pins s σ H _ I h) fun v s1 ⟨x,H1,I1,r1,q1⟩=>?_);obtain ⟨c,rfl,q1⟩:=q1;cases r1;exact not_of (RU ⟨.bl (!c),H1,I1,rfl,q1⟩)
def tIf (t:TT) (ta tb:TE):TE:=fun σ H Q=>t σ H fun c H1=>if c=true then ta σ H1 Q else tb σ H1 Q
theorem _mP (hc:PT X c tA) (ha:PE X a ta) (hb:PE X b tb):PE X (.IfExp c a b pos) (tIf tA ta tb):=by
 intro pins s σ H Q I h;refine wpAny_IfExp (_m (hc pins s σ H _ I h) fun d s1 ⟨H1,I1,q1⟩=>?_);cases d with
 |true=>exact ha pins s1 σ H1 Q I1 q1
 |false=>exact hb pins s1 σ H1 Q I1 q1
end
def SqL (K:W.Frag) (H:Hp) (a:Addr) (xs:List V):Prop :=
 Rd H a (.lst xs) ∨
  ∃(o:Obj) (its:Array Value) (n:Nat),K.lookup a=some o∧o.cls=.type "list"∧o.dict=none∧o.data=.seq its n∧its.size≤sizeLine∧Vals xs its.toList
def SqT (K:W.Frag) (H:Hp) (a:Addr) (xs:List V):Prop :=
 Rd H a (.tup xs) ∨
  ∃(o:Obj) (its:Array Value) (n:Nat),K.lookup a=some o∧o.cls=.type "tuple"∧o.data=.seq its n∧its.size≤sizeLine∧Vals xs its.toList
noncomputable def _ka:Value->Option V
 |.none=>some .non
 |.bool b=>some (.bl b)
 |.int i _=>some (.int i)
 |.str x _=>some (.str x)
 |.bytes b _=>some (.byt b)
 |.float b _=>some (.flt b)
 |.ref a=>some (.ref a)
 |.type n=>some (.ty n)
 |_=>none
theorem RelV.abs {x:V} (r:RelV x u):_ka u=some x:=by
 cases x with
 |non=>cases r;rfl
 |bl _=>cases r;rfl
 |int _=>obtain ⟨t,rfl⟩:=r;rfl
 |str _=>obtain ⟨t,rfl⟩:=r;rfl
 |byt _=>obtain ⟨t,rfl⟩:=r;rfl
 |flt _=>obtain ⟨t,rfl⟩:=r;rfl
 |ref _=>cases r;rfl
 |ty _=>cases r;rfl
theorem RelV.inj {x:V} (r:RelV x u) (q:RelV y u):x=y:=Qn (r.abs.symm.trans q.abs)
theorem Vals.inj:∀{xs ys:List V} {us:List Value},Vals xs us->Vals ys us->xs=ys
 |_,_,_,.nil,.nil=>rfl
 |_,_,_,.cons r t,.cons r' t'=>by rw [r.inj r',Vals.inj t t']
section
variable {ys:List V}
theorem SqL.of (h:H a=some (.lst xs)):SqL K H a xs:=.inl (.inl h)
theorem SqT.of (h:H a=some (.tup xs)):SqT K H a xs:=.inl (.inl h)
theorem Inv.list (I:Inv X pins σ H s) (h:SqL X.K H a xs):∃its:List Value,Vals xs its∧PlainL s.heap a its.toArray∧xs.length≤sizeLine:=by
 rcases h with h|⟨o,its,n,hk,hc,hd,hs,hz,r⟩
 ·obtain ⟨z,its,n,r,e⟩:=h.ok I.hok;exact ⟨its,r,⟨_,n,e,rfl,rfl,rfl⟩,z⟩
 ·refine ⟨its.toList,r,⟨o,n,I.kIn a o hk,hc,hd,by simpa using hs⟩,?_⟩;have e:=r.length;simp only [Ga] at e;omega
theorem Inv.tuple (I:Inv X pins σ H s) (h:SqT X.K H a xs):∃its:List Value,Vals xs its∧IsTup s.heap a its.toArray∧xs.length≤sizeLine:=by
 rcases h with h|⟨o,its,n,hk,hc,hs,hz,r⟩
 ·obtain ⟨z,its,r,p⟩:=h.ok I.hok;exact ⟨its,r,p,z⟩
 ·refine ⟨its.toList,r,⟨o,I.kIn a o hk,hc,n,by simpa using hs⟩,?_⟩;have e:=r.length;simp only [Ga] at e;omega
theorem Inv.list_inj (I:Inv X pins σ H s) (h:SqL X.K H a xs) (h':SqL X.K H a ys):xs=ys:=by
 obtain ⟨its,r,⟨o,n,e,_,_,d⟩,_⟩:=I.list h;obtain ⟨its',r',⟨o',n',e',_,_,d'⟩,_⟩:=I.list h';rw [e] at e';cases e';rw [d] at d';injection d' with d1 _;have:its=its':=by simpa using QB Array.toList d1
 subst this;exact r.inj r'
theorem Inv.tuple_inj (I:Inv X pins σ H s) (h:SqT X.K H a xs) (h':SqT X.K H a ys):xs=ys:=by
 obtain ⟨its,r,⟨o,e,_,n,d⟩,_⟩:=I.tuple h;obtain ⟨its',r',⟨o',e',_,n',d'⟩,_⟩:=I.tuple h';rw [e] at e';cases e';rw [d] at d';injection d' with d1 _;have:its=its':=by simpa using QB Array.toList d1
 subst this;exact r.inj r'
end
section
variable {st:Stmt} {rest:List Stmt} {t u:TS}
def _eh:TS:=fun D σ H=>D.nx σ H
def _by (t u:TS):TS:=fun D σ H=>t { D with nx:=u D } σ H
theorem _P:PSs X [] _eh:=fun _ _ σ H _ I h=>GO ⟨σ,H,I,h⟩
theorem _k (h1:PS X st t) (h2:PSs X rest u):PSs X (st::rest) (_by t u):=by
 intro pins s σ H D I h;refine wpAny_execs_cons (_m (h1 pins s σ H { D with nx:=u D } I h) fun f s1 q=>?_);cases f with
 |next =>
  obtain ⟨σ',H',I',q⟩:=q;exact h2 pins s1 σ' H' D I' q
 |ret v=>exact q
 |brk=>exact q
 |cont=>exact q
theorem _i (h1:PS X st t):PSs X [st] t:=by
 intro pins s σ H D I h;refine wpAny_execs_cons (_m (h1 pins s σ H D I h) fun f s1 q=>?_);cases f with
 |next=>exact GO q
 |ret v=>exact q
 |brk=>exact q
 |cont=>exact q
theorem Inv.quiet (I:Inv X pins σ H s):interactive X.env=false:=by simp [interactive,I.ok.kind]
def _pf (te:TE):TS:=fun D σ H=>te σ H fun _ H1=>D.nx σ H1
theorem _Y (he:PE X e te) (hs:swapsWith e none pos.line X.env=pure false:=by rfl):PS X (.Expr e pos) (_pf te):=by
 intro pins s σ H D I h;exact wpAny_Expr_any (_m (he pins s σ H _ I h) fun v s1 ⟨x,H1,I1,r1,q1⟩=>⟨σ,H1,I1,q1⟩) I.quiet hs
def _fW (te:TE):TS:=fun D σ H=>te σ H D.rt
theorem _w (he:PE X e te):PS X (.Return (some e) pos) (_fW te):=by
 intro pins s σ H D I h;exact wpAny_Return_some (_m (he pins s σ H _ I h) fun v s1 ⟨x,H1,I1,r1,q1⟩=>⟨x,σ,H1,I1,r1,q1⟩)
def _kj (c:TT) (t u:TS):TS:=fun D σ H=>c σ H fun b H1=>if b=true then t D σ H1 else u D σ H1
theorem _G {a b:List Stmt} {tc:TT} (hc:PT X c tc) (ha:PSs X a t) (hb:PSs X b u):PS X (.If c a b pos) (_kj tc t u):=by
 intro pins s σ H D I h;refine wpAny_If (_m (hc pins s σ H _ I h) fun d s1 ⟨H1,I1,q1⟩=>?_);cases d with
 |true=>exact ha pins s1 σ H1 D I1 q1
 |false=>exact hb pins s1 σ H1 D I1 q1
end
abbrev TG:=V->St->Hp->(St->Hp->Prop)->Prop
abbrev WI:=List V->St->Hp->(St->Hp->Prop)->Prop
def PG (X:Cx) (target:Expr) (t:TG):Prop :=
 ∀(pins:List (Addr×Obj)) (s:Shared) (σ:St) (H:Hp) (v:V) (u:Value) (Q:St->Hp->Prop),Inv X pins σ H s->RelV v u->t v σ H Q →
  wpAny (model X.prog X.w) X.A (assign target X.env u) (fun _ s'=>∃σ' H',Inv X pins σ' H' s'∧Q σ' H') X.xe s
def Us (X:Cx) (ts:List Expr) (t:WI):Prop :=
 ∀(pins:List (Addr×Obj)) (s:Shared) (σ:St) (H:Hp) (vs:List V) (us:List Value) (Q:St->Hp->Prop),Inv X pins σ H s->Vals vs us->t vs σ H Q →
  wpAny (model X.prog X.w) X.A (assignInOrder ((assignEach ts X.env).map (·.2)) us) (fun _ s'=>∃σ' H',Inv X pins σ' H' s'∧Q σ' H') X.xe s
abbrev _d0:=V->V->V->Hp->(Hp->Prop)->Prop
def _ih (X:Cx) (t:_d0):Prop :=
 ∀(pins:List (Addr×Obj)) (s:Shared) (σ:St) (H:Hp) (o i v:V) (ov iv u:Value) (Q:Hp->Prop),Inv X pins σ H s->RelV o ov->RelV i iv->RelV v u->t o i v H Q →
  wpAny (model X.prog X.w) X.A (setItem ov iv u) (fun _ s'=>∃H',Inv X pins σ H' s'∧Q H') X.xe s
def _B (i:Nat):TG:=fun v σ H Q=>Q (σ.set i (some v)) H
theorem _D {x:Str} (hN:X.N.Nodup) (hi:X.N[i]?=some x) (hx:Jv X.env.scope x) (hf:X.fn x=true∨X.env.scope.names.lookup x=some .local:=by first|exact .inl rfl|exact .inr rfl|assumption):PG X (.Name x pos) (_B i):=by
 intro pins s σ H v u Q I r h;exact wpAny_assign_Name (_hL I hN hi hx r (fun s' I'=>⟨_,H,I',h⟩) hf)
noncomputable def _cW:WI:=fun vs σ H Q=>vs=[]∧Q σ H
noncomputable def J0 (t:TG) (u:WI):WI:=fun vs σ H Q=>∃v r,vs=v::r∧t v σ H fun σ' H'=>u r σ' H' Q
theorem X0:Us X [] _cW:=by
 intro pins s σ H vs us Q I r h;obtain ⟨e,h⟩:=h;subst e;cases r;exact assignInOrder_nil ⟨σ,H,I,h⟩
theorem Yp {t:TG} {u:WI} (h1:PG X e t) (h2:Us X es u)
 (hs:(assignEach (e::es) X.env).map (·.2)=assign e X.env::(assignEach es X.env).map (·.2):=by rfl):Us X (e::es) (J0 t u):=by
 intro pins s σ H vs us Q I r h;obtain ⟨v,vr,e1,h⟩:=h;subst e1;cases r with
 |cons r rr =>
  rw [hs];refine assignInOrder_cons (_m (h1 pins s σ H _ _ _ I r h) fun _ s1 ⟨σ1,H1,I1,q1⟩=>?_);exact h2 pins s1 σ1 H1 _ _ Q I1 rr q1
def _aq (K:W.Frag) (n:Nat) (t:WI):TG:=fun v σ H Q=>∃a xs,v=.ref a∧SqT K H a xs∧xs.length=n∧t xs σ H Q
theorem Uf {k:Nat} {t:WI} (hc:X.calm=true) (h:Us X es t)
 (hn:(assignEach es X.env).length=n:=by rfl) (hst:(assignEach es X.env).findIdx? (·.1)=none:=by rfl):PG X (.Tuple es k pos) (_aq X.K n t):=by
 intro pins s σ H v u Q I r hw;obtain ⟨a,xs,e1,hq,hl,hw⟩:=hw;subst e1;cases r;obtain ⟨its,rv,ht,hz⟩:=I.tuple hq;refine assign_Tuple_tuple (I.ok.hd hc) ht (by simp [hn,←hl,rv.length]) hst fun h' hx=>?_;have I1:Inv X pins σ H { s with heap:=h' }:=I.kept (t':=s.toks) fun b o e=>hx b o (QA (Qi e)) e;exact h pins _ σ H xs _ Q I1 (by simpa using rv) hw
def _mX (to ti:TE) (t:_d0):TG:=fun v σ H Q=>to σ H fun o H1=>ti σ H1 fun i H2=>t o i v H2 fun H3=>Q σ H3
theorem _kW {o i:Expr} {to ti:TE} {t:_d0} (ho:PE X o to) (hi:PE X i ti) (hs:_ih X t)
 (ha:∀v,assign (.Subscript o i pos) X.env v=(do
 let ov ←holding [v] (eval o X.env)
 let iv ←holding [v,ov] (eval i X.env)
 standAt pos
 holding [v,ov,iv] (setItem ov iv v)
 release [v,ov,iv] []):=by intro _;rfl):PG X (.Subscript o i pos) (_mX to ti t):=by
 intro pins s σ H v u Q I r h;rw [ha];refine Qd (Q5 (_m (ho pins s σ H _ I h) fun ov s1 ⟨x,H1,I1,r1,q1⟩=>?_));refine Qd (Q5 (_m (hi pins s1 σ H1 _ I1 q1) fun iv s2 ⟨y,H2,I2,r2,q2⟩=>?_));refine Qd (GP (Qd (Q5 (_m (hs pins s2 σ H2 x y v ov iv u _ I2 r1 r2 r q2) fun _ s3 ⟨H3,I3,q3⟩=>?_))));exact wpAny_release ⟨σ,H3,I3,q3⟩
def _d8 (te:TE) (g:TG):TS:=fun D σ H=>te σ H fun x H1=>g x σ H1 D.nx
theorem _bd {g:TG} (he:PE X e te) (hg:PG X tg g) (hs:swapsWithSole [tg] e pos.line X.env=pure false:=by rfl) (hw:swappedStores [tg] e X.env=pure none:=by rfl)
 (h1:(assignEach [tg] X.env).map (·.2)=[assign tg X.env]:=by rfl):PS X (.Assign [tg] e pos) (_d8 te g):=by
 intro pins s σ H D I h;refine wpAny_Assign_stores (_m (he pins s σ H _ I h) fun v s1 ⟨x,H1,I1,r1,q1⟩=>?_) hs hw;rw [h1];exact _m (hg pins s1 σ H1 x v _ I1 r1 q1) fun _ s2 q=>q
theorem _H {x:Str} {pos':Pos} (hN:X.N.Nodup) (hi:X.N[i]?=some x) (hx:Jv X.env.scope x) (he:PE X e te) (hs:swapsWith e (some (.Name x pos')) pos.line X.env=pure false:=by rfl) (hf:X.fn x=true∨X.env.scope.names.lookup x=some .local:=by first|exact .inl rfl|exact .inr rfl|assumption) :
  PS X (.Assign [.Name x pos'] e pos) (_d8 te (_B i)):=by
 intro pins s σ H D I h;refine wpAny_Assign_Name (_m (he pins s σ H _ I h) fun v s1 ⟨y,H1,I1,r1,q1⟩=>?_) hs;exact _hL I1 hN hi hx r1 (fun s2 I2=>⟨_,H1,I2,q1⟩) hf
def _md (c:TT) (tb:TS):TS:=fun D σ H=>∃W:Nat->St->Hp->Prop,(∃m,W m σ H)∧∀m σ H,W m σ H →
 c σ H fun b H1=>if b=true then ∃N:St->Hp->Prop,(∀σ' H',N σ' H'->∃m',m'<m∧W m' σ' H')∧tb { D with nx:=N,ct:=N,bk:=D.nx } σ H1 else D.nx σ H1
theorem _jn {tc:TT} (hp:PassesOwn (model X.prog X.w) X.A X.env X.xe) (hc:PT X c tc) (hb:PSs X body tb):PS X (.While c body [] pos) (_md tc tb):=by
 intro pins s σ H D I h;obtain ⟨W,⟨m0,w0⟩,turn⟩:=h;refine wpAny_While (codeAny_whileLoop (fun n s'=>∃σ' H',Inv X pins σ' H' s'∧W n σ' H') ?_ m0 ⟨σ,H,I,w0⟩);rintro n s1 ⟨σ1,H1,I1,w1⟩;refine RV hp (_m (hc pins s1 σ1 H1 _ I1 (turn n σ1 H1 w1)) fun b s2 ⟨H2,I2,q2⟩=>?_);cases b with
 |true =>
  obtain ⟨N,hN,q2⟩:=q2;rw [Qb rfl];refine RV hp (_m (hb pins s2 σ1 H2 _ I2 q2) fun f s3 q3=>?_);cases f with
  |next =>
   obtain ⟨σ3,H3,I3,n3⟩:=q3;obtain ⟨m',hm,w3⟩:=hN σ3 H3 n3;exact ⟨m',hm,σ3,H3,I3,w3⟩
  |cont =>
   obtain ⟨σ3,H3,I3,n3⟩:=q3;obtain ⟨m',hm,w3⟩:=hN σ3 H3 n3;exact ⟨m',hm,σ3,H3,I3,w3⟩
  |brk=>exact q3
  |ret v=>exact q3
 |false =>
  rw [Qa QG];exact GO ⟨σ1,H2,I2,q2⟩
structure It where
 go:Nat->Hp->Prop
 yld:Nat->Hp->V->Hp->Prop
 stop:Nat->Hp->Prop
def XX (X:Cx) (pins:List (Addr×Obj)) (H:Hp) (b:Addr):Prop :=
 H b=none∧b≠X.env.locals∧b∉X.fs∧(b∈X.ex∨X.s₀.heap.objs.size≤b)∧(∀x c,X.env.cells.lookup x=some c->c≠b)∧∀p∈X.pn++pins,p.1≠b
theorem Inv.fpOk (I:Inv X pins σ H s) (hb:s.heap.objs.size≤b) (hn:H' b=none):XX X pins H' b:=by
 refine ⟨hn,Rv (Qq I.lt hb),I.nofs hb,.inr (Qk I.sz hb),fun x c e z=>?_,fun p hp z=>?_⟩
 ·obtain ⟨v,q⟩:=I.cell x c e;exact absurd (Qq q.lt (by rw [z];exact hb)) (QF _)
 ·exact absurd (Qq (Qi (I.pin p hp).1) (by rw [z];exact hb)) (QF _)
structure Turn (P:Program) (w:World) (K:W.Frag) (tg:Expr) (J:It) (fp:List Addr) (it:Addr) (tn:Nat->Heap->Prop):Prop where
 mem:it∈fp
 obj:∀i h,tn i h->∀b∈fp,∃o,h.get? b=some o∧∀v,o.data≠.cell v
 keep:∀i h h',tn i h->(∀b∈fp,∀o,h.get? b=some o->h'.get? b=some o)->tn i h'
 item:∀(X:Cx),X.prog=P->X.w=w->X.K=K->X.calm=true->∀(i:Nat) (pins:List (Addr×Obj)) (s:Shared) (σ:St) (H:Hp) (E:Value->Shared->Prop),Inv X pins σ H s->(∀b∈fp,XX X pins H b)->tn i s.heap->J.go i H →
  wpAny (model P w) X.A (pyNext (.ref it)) (fun r s1=>∃u,r=some u ∧
   wpAny (model P w) X.A (letOwnedTupleGo tg (.ref it) u) (fun _ s2=>∃x H',Inv X pins σ H' s2∧RelV x u∧J.yld i H x H'∧tn (i+1) s2.heap∧∀b∈fp,H' b=none) E s1) E s
 done:∀(X:Cx),X.prog=P->X.w=w->X.K=K->X.calm=true->∀(i:Nat) (pins:List (Addr×Obj)) (s:Shared) (σ:St) (H:Hp) (E:Value->Shared->Prop),Inv X pins σ H s->(∀b∈fp,XX X pins H b)->tn i s.heap->J.stop i H →
  wpAny (model P w) X.A (pyNext (.ref it)) (fun r s1=>r=none∧Inv X pins σ H s1) E s
 self:∀(A:Around) (i:Nat) (s:Shared) (Q:Value->Shared->Prop) (E:Value->Shared->Prop),tn i s.heap->Q (.ref it) s->wpAny (model P w) A (pyIter (.ref it)) Q E s
abbrev TI:=St->Hp->(It->Hp->Prop)->Prop
def PIE (X:Cx) (pins:List (Addr×Obj)) (σ:St) (tg:Expr) (R:It->Hp->Prop) (itv:Value) (s2:Shared):Prop :=
 ∃(it:Addr) (fp:List Addr) (tn:Nat->Heap->Prop) (J:It) (H':Hp),itv=.ref it∧Inv X pins σ H' s2∧Turn X.prog X.w X.K tg J fp it tn∧tn 0 s2.heap∧(∀b∈fp,XX X pins H' b)∧R J H'
def PI (X:Cx) (tg iter:Expr) (wi:TI):Prop :=
 ∀(pins:List (Addr×Obj)) (s:Shared) (σ:St) (H:Hp) (R:It->Hp->Prop),Inv X pins σ H s->wi σ H R →
  wpAny (model X.prog X.w) X.A (eval iter X.env) (fun v s1=>wpAny (model X.prog X.w) X.A (pyIter v) (PIE X pins σ tg R) X.xe s1) X.xe s
theorem Ji {it:Addr} {o:Obj} {n:String} {vs:Array Value} {Q:Unit->Shared->Prop} (ho:s.heap.get? it=some o) (hc:o.cls=.type n) (hd:o.data=.fields vs)
 (hn:["enumerate","zip","dict_itemiterator","dict_reverseitemiterator","odict_iterator","itertools.zip_longest","itertools.pairwise"].contains n=false) (hQ:Q () s):wpAny M A (letOwnedTupleGo tg (.ref it) u) Q E s:=by
 unfold letOwnedTupleGo
 cases tg<;>first
  |exact Qf hQ
  | (cases u<;>first
    |exact Qf hQ
    | (refine Qd (wpAny_load ho ?_)
       rw [hc,hd];show wpAny M A (if (["enumerate","zip","dict_itemiterator","dict_reverseitemiterator","odict_iterator","itertools.zip_longest","itertools.pairwise"].contains n&&vs[0]?==some (rawInt _))=true then _ else _) Q E s;rw [Qa (by intro h;rw [hn,GQ] at h;cases h)];exact Qf hQ))
noncomputable def JM (K:W.Frag) (a:Addr):It :=
 ⟨fun i H=>∃xs x,SqL K H a xs∧xs[i]?=some x,fun i H x H'=>H'=H∧∀xs,SqL K H a xs->xs[i]?=some x,fun i H=>∃xs,SqL K H a xs∧xs.length≤i⟩
noncomputable def Itt (K:W.Frag) (a:Addr):It :=
 ⟨fun i H=>∃xs x,SqT K H a xs∧xs[i]?=some x,fun i H x H'=>H'=H∧∀xs,SqT K H a xs->xs[i]?=some x,fun i H=>∃xs,SqT K H a xs∧xs.length≤i⟩
noncomputable def Uk (lo:Int) (n:Nat):It:=⟨fun i _=>i<n,fun i H x H'=>H'=H∧x=.int (lo+i),fun i _=>n≤i⟩
theorem _qy {w:World} (a it:Addr):Turn P w K tg (JM K a) [it] it (fun i h=>h.IsListIter it a i) where
 mem:=by simp
 obj:=fun i h st b hb=>by
  have e:b=it:=by simpa using hb
  subst e;obtain ⟨o,e,c,d⟩:=st;exact ⟨o,e,fun v z=>by rw [d] at z;cases z⟩
 keep:=fun i h h' st k=>st.at fun o e=>k it (by simp) o e
 item:=by
  intro X hP hw hK hc i pins s σ H E I hf st hg;subst hP hw hK;obtain ⟨xs,x,hq,hx⟩:=hg;obtain ⟨its,rv,p,hz⟩:=I.list hq;obtain ⟨u,hu,ru⟩:=rv.get hx;obtain ⟨f0,f1,f2,f3,f4,f5⟩:=hf it (by simp);refine wpAny_pyNext_list_item st p.isList (x:=u) (by simpa using hu) fun h' st' sb=>?_;have I1:Inv X pins σ H { s with heap:=h' }:=I.turned (t':=s.toks) (fun b o hb e=>(sb.2 b hb).trans e) f0 f1 f3 f4 f5;obtain ⟨o,e,c,d⟩:=id st';exact ⟨u,rfl,Ji (s:={ s with heap:=h' }) e c d (by decide) ⟨x,H,I1,ru,⟨rfl,fun ys hy=>by rw [I.list_inj hy hq];exact hx⟩,st',fun b hb=>(hf b hb).1⟩⟩
 done:=by
  intro X hP hw hK hc i pins s σ H E I hf st hg;subst hP hw hK;obtain ⟨xs,hq,hx⟩:=hg;obtain ⟨its,rv,p,hz⟩:=I.list hq;obtain ⟨f0,f1,f2,f3,f4,f5⟩:=hf it (by simp);have hl:=rv.length;exact wpAny_pyNext_list_end (I.ok.hd hc) st p.isList (by simp;omega) fun h' eb=>⟨rfl,I.turned (t':=s.toks) (fun b o hb e=>eb b o hb e) f0 f1 f3 f4 f5⟩
 self:=fun _ _ _ _ _ st h=>wpAny_pyIter_listiter st h
theorem _oB {w:World} (a it:Addr):Turn P w K tg (Itt K a) [it] it (fun i h=>h.IsTupleIter it a i) where
 mem:=by simp
 obj:=fun i h st b hb=>by
  have e:b=it:=by simpa using hb
  subst e;obtain ⟨o,e,c,d⟩:=st;exact ⟨o,e,fun v z=>by rw [d] at z;cases z⟩
 keep:=fun i h h' st k=>st.at fun o e=>k it (by simp) o e
 item:=by
  intro X hP hw hK hc i pins s σ H E I hf st hg;subst hP hw hK;obtain ⟨xs,x,hq,hx⟩:=hg;obtain ⟨its,rv,p,hz⟩:=I.tuple hq;obtain ⟨u,hu,ru⟩:=rv.get hx;obtain ⟨f0,f1,f2,f3,f4,f5⟩:=hf it (by simp);refine wpAny_pyNext_tuple_item st (show s.heap.IsTuple a its.toArray from p) (x:=u) (by simpa using hu) fun h' st' sb=>?_;have I1:Inv X pins σ H { s with heap:=h' }:=I.turned (t':=s.toks) (fun b o hb e=>(sb.2 b hb).trans e) f0 f1 f3 f4 f5;obtain ⟨o,e,c,d⟩:=id st';exact ⟨u,rfl,Ji (s:={ s with heap:=h' }) e c d (by decide) ⟨x,H,I1,ru,⟨rfl,fun ys hy=>by rw [I.tuple_inj hy hq];exact hx⟩,st',fun b hb=>(hf b hb).1⟩⟩
 done:=by
  intro X hP hw hK hc i pins s σ H E I hf st hg;subst hP hw hK;obtain ⟨xs,hq,hx⟩:=hg;obtain ⟨its,rv,p,hz⟩:=I.tuple hq;obtain ⟨f0,f1,f2,f3,f4,f5⟩:=hf it (by simp);have hl:=rv.length;exact wpAny_pyNext_tuple_end (I.ok.hd hc) st (show s.heap.IsTuple a its.toArray from p) (by simp;omega) fun h' eb=>⟨rfl,I.turned (t':=s.toks) (fun b o hb e=>eb b o hb e) f0 f1 f3 f4 f5⟩
 self:=fun _ _ _ _ _ st h=>wpAny_pyIter_tupleiter st h
theorem _ps {w:World} {K:PySem.W.Frag} (it:Addr) (lo:Int) (n:Nat):Turn P w K tg (Uk lo n) [it] it (fun i h=>IsRangeIter h it (lo+(i:Nat)*1) ((n:Int)-(i:Nat)) 1) where
 mem:=by simp
 obj:=fun i h st b hb=>by
  have e:b=it:=by simpa using hb
  subst e
  exact ⟨_,st,fun v z=>by
   have z':Data.fields _=Data.cell v:=z;cases z'⟩
 keep:=fun i h h' st k=>k it (by simp) _ st
 item:=by
  intro X hP hw hK hc i pins s σ H E I hf st hg;subst hP hw hK;obtain ⟨f0,f1,f2,f3,f4,f5⟩:=hf it (by simp);have W:=Walks.range (prog:=X.prog) (w:=X.w) (I.ok.hd hc) it lo 1 n;refine W.item i s _ _ hg st fun v h' tk hv st' kk=>?_;obtain ⟨t,rfl⟩:=hv;have I1:Inv X pins σ H { s with heap:=h',toks:=tk }:=I.turned (fun b o hb e=>kk b o (by simpa using hb) e) f0 f1 f3 f4 f5;refine ⟨_,rfl,Ji (s:={ s with heap:=h',toks:=tk }) (n:="range_iterator") st' rfl rfl (by decide) ⟨.int (lo+i),H,I1,⟨t,?_⟩,⟨rfl,rfl⟩,st',fun b hb=>(hf b hb).1⟩⟩;rw [Int.mul_one]
 done:=by
  intro X hP hw hK hc i pins s σ H E I hf st hg;subst hP hw hK;obtain ⟨f0,f1,f2,f3,f4,f5⟩:=hf it (by simp);exact wpAny_pyNext_range_end (I.ok.hd hc) st (by have:n≤i:=hg;omega) fun h' eb=>⟨rfl,I.turned (t':=s.toks) (fun b o hb e=>eb b o hb e) f0 f1 f3 f4 f5⟩
 self:=fun _ _ _ _ _ st h=>wpAny_pyIter_rangeiter st h
def _dF (K:W.Frag) (tl:TE):TI:=fun σ H R=>tl σ H fun x H1=>∃a,x=.ref a∧(∃xs,SqL K H1 a xs)∧R (JM K a) H1
def _o9 (K:W.Frag) (tl:TE):TI:=fun σ H R=>tl σ H fun x H1=>∃a,x=.ref a∧(∃xs,SqT K H1 a xs)∧R (Itt K a) H1
theorem YF {l:Expr} {tl:TE} (hl:PE X l tl):PI X tg l (_dF X.K tl):=by
 intro pins s σ H R I h;refine _m (hl pins s σ H _ I h) fun v s1 ⟨x,H1,I1,r1,q1⟩=>?_;obtain ⟨a,e,⟨xs,hq⟩,q⟩:=q1;subst e;cases r1;obtain ⟨its,rv,p,hz⟩:=I1.list hq;refine Nw p.isList ?_;refine ⟨s1.heap.objs.size,[s1.heap.objs.size],_,_,H1,rfl,I1.kept (t':=s1.toks) fun b o e=>Ql _ e,_qy a _,⟨_,Qu _ rfl,rfl,rfl⟩,fun b hb=>?_,q⟩;have e:b=s1.heap.objs.size:=by simpa using hb
 subst e;exact I1.fpOk (Qe _) (I1.hok.fresh (Qe _))
theorem W4 {l:Expr} {tl:TE} (hl:PE X l tl):PI X tg l (_o9 X.K tl):=by
 intro pins s σ H R I h;refine _m (hl pins s σ H _ I h) fun v s1 ⟨x,H1,I1,r1,q1⟩=>?_;obtain ⟨a,e,⟨xs,hq⟩,q⟩:=q1;subst e;cases r1;obtain ⟨its,rv,p,hz⟩:=I1.tuple hq;refine Gq (show s1.heap.IsTuple a its.toArray from p) ?_;refine ⟨s1.heap.objs.size,[s1.heap.objs.size],_,_,H1,rfl,I1.kept (t':=s1.toks) fun b o e=>Ql _ e,_oB a _,⟨_,Qu _ rfl,rfl,rfl⟩,fun b hb=>?_,q⟩;have e:b=s1.heap.objs.size:=by simpa using hb
 subst e;exact I1.fpOk (Qe _) (I1.hok.fresh (Qe _))
theorem _l0 {R:It->Hp->Prop} {lo hi:Int} {t u v:Tok} {tk:Nat} (I:Inv X pins σ H s) (h1:-(2 ^ 62)≤lo) (h2:lo<2 ^ 62) (h3:-(2 ^ 62)≤hi) (h4:hi<2 ^ 62)
 (q:R (Uk lo (hi-lo).toNat) H):wpAny (model X.prog X.w) X.A (pyIter (.ref s.heap.objs.size)) (PIE X pins σ tg R) E { s with heap:=s.heap.push { cls:=.type "range",data:=.fields #[.int lo t,.int hi u,.int 1 v] },toks:=tk }:=by
 refine wpAny_pyIter_range (IsRange.new ..) (small_one h1 h2 h3 h4) ?_;have I1:Inv X pins σ H { s with heap:=s.heap.push { cls:=.type "range",data:=.fields #[.int lo t,.int hi u,.int 1 v] },toks:=tk }:=I.kept fun b o e=>Ql _ e
 refine ⟨(s.heap.push { cls:=.type "range",data:=.fields #[.int lo t,.int hi u,.int 1 v] }).objs.size,[(s.heap.push { cls:=.type "range",data:=.fields #[.int lo t,.int hi u,.int 1 v] }).objs.size],_,_,H,rfl,
  I1.kept (t':=tk) fun b o e=>Ql _ e,_ps _ lo (hi-lo).toNat,?_,fun b hb=>?_,q⟩
 ·have e1:lo+((0:Nat):Int)*1=lo:=by simp
  have e2:(((hi-lo).toNat:Nat):Int)-((0:Nat):Int)=Builtin.Range.rangeSize lo hi 1:=by rw [rangeSize_one];split<;>omega
  show IsRangeIter _ _ (lo+((0:Nat):Int)*1) ((((hi-lo).toNat:Nat):Int)-((0:Nat):Int)) 1;rw [e1,e2];exact Qu _ rfl
 ·have e:b=(s.heap.push { cls:=.type "range",data:=.fields #[.int lo t,.int hi u,.int 1 v] }).objs.size:=by simpa using hb
  subst e;exact I1.fpOk (Qe _) (I1.hok.fresh (Qe _))
def _ik (ta:TA):TI:=fun σ H R=>ta σ H fun vs H1=>∃j:Int,vs=[.int j]∧-(2 ^ 62)≤j∧j<2 ^ 62∧R (Uk 0 j.toNat) H1
theorem UK {a:Expr} {ta:TA} {p:Pos} (hg:Gl X "range") (hm:X.mg "range"=none) (ha:PA X [a] ta) (hs:starEach [a] X.env=[(false,eval a X.env)]:=by rfl):PI X tg (.Call (.Name "range" p) [a] [] pos) (_ik ta):=by
 intro pins s σ H R I h;refine Call_ (Vs I hg hm boot_range (Gr (_m (ha pos pins s σ H _ I h) fun us s1 ⟨vs,H1,I1,r1,q1⟩=>?_) hs rfl));obtain ⟨j,e,q1,q2,q⟩:=q1;subst e;cases r1 with
 |cons r rr =>
  cases rr;obtain ⟨t,rfl⟩:=r;exact call_range_1 (_l0 I1 (by omega) (by omega) q1 q2 (by simpa using q))
def _mR (wi:TI) (g:TG) (tb:TS):TS:=fun D σ H=>wi σ H fun J H1=>∃W:Nat->Nat->St->Hp->Prop,(∃m,W 0 m σ H1)∧∀i m σ H,W i m σ H →
 (J.stop i H∧D.nx σ H)∨(J.go i H∧∃N:St->Hp->Prop,(∀σ' H',N σ' H'->∃m',m'<m∧W (i+1) m' σ' H')∧∀x H',J.yld i H x H'->g x σ H' fun σ2 H2=>tb { D with nx:=N,ct:=N,bk:=D.nx } σ2 H2)
noncomputable def JE (fp:List Addr) (h:Heap):List (Addr×Obj):=fp.filterMap fun b=>(h.get? b).map fun o=>(b,o)
theorem _a2 {o:Obj} (hb:b∈fp) (e:h.get? b=some o):(b,o)∈JE fp h:=Rc.mpr ⟨b,hb,by rw [e];rfl⟩
theorem _jP {p:Addr×Obj} (hp:p∈JE fp h):p.1∈fp∧h.get? p.1=some p.2:=by
 obtain ⟨b,hb,e⟩:=Rc.mp hp;cases q:h.get? b with
 |none=>rw [q] at e;cases e
 |some o =>
  rw [q] at e;have e':(b,o)=p:=Qn e;subst e';exact ⟨hb,q⟩
theorem Inv.pinned (I:Inv X pins σ H s) (hf:∀b∈fp,XX X pins H b) (ho:∀b∈fp,∃o,s.heap.get? b=some o∧∀v,o.data≠.cell v):Inv X (pins++JE fp s.heap) σ H s :=
 I.pins_of fun p hp=>(Qh.mp hp).elim (fun z=>I.pin p (QL _ z)) fun z=>by
  obtain ⟨hb,e⟩:=_jP z;obtain ⟨f0,f1,f2,_⟩:=hf p.1 hb;obtain ⟨o,e',d⟩:=ho p.1 hb;rw [e] at e';cases e';exact ⟨e,f0,f1,f2,d⟩
theorem Inv.unpinned {pl:List (Addr×Obj)} (I:Inv X (pins++pl) σ H s):Inv X pins σ H s:=I.pins_of fun p hp=>I.pin p (QL _ (QY _ hp))
theorem Yq {iter:Expr} {wi:TI} {g:TG} (hp:PassesOwn (model X.prog X.w) X.A X.env X.xe) (hc:X.calm=true) (hi:PI X tg iter wi) (hg:PG X tg g) (hb:PSs X body tb)
 (hs:∀x,foldedSetIterable iter X.env x=pure x:=by intro _;rfl):PS X (.For tg iter body [] pos) (_mR wi g tb):=by
 intro pins s σ H D I h;refine wpAny_For (_m (hi pins s σ H _ I h) fun v s1 h1=>_m h1 fun itv s2 h2=>?_) hs;obtain ⟨it,fp,tn,J,H2,e,I2,T,st2,f2,W,⟨m0,w0⟩,turn⟩:=h2;subst e;have stat:∀{H':Hp},(∀b∈fp,H' b=none)->∀b∈fp,XX X pins H' b:=fun hn b hb=>⟨hn b hb,(f2 b hb).2⟩;refine codeAny_forLoop_any (fun n s'=>∃i σ' H',Inv X pins σ' H' s'∧tn i s'.heap∧(∀b∈fp,H' b=none)∧W i n σ' H') ?_ m0 ⟨0,σ,H2,I2,st2,fun b hb=>(f2 b hb).1,w0⟩;rintro n s3 ⟨i,σ3,H3,I3,st3,fr3,w3⟩;rcases turn i n σ3 H3 w3 with ⟨stop,qn⟩|⟨go,N,hN,step⟩
 ·refine RV hp (_m (T.done X rfl rfl rfl hc i pins s3 σ3 H3 X.xe I3 (stat fr3) st3 stop) fun r s4 ⟨hr,I4⟩=>?_);subst hr;exact GO ⟨σ3,H3,I4,qn⟩
 ·refine RV hp (_m (T.item X rfl rfl rfl hc i pins s3 σ3 H3 X.xe I3 (stat fr3) st3 go) fun r s4 ⟨u,hr,h4⟩=>?_);subst hr;refine RV hp (_m h4 fun _ s5 ⟨x,H5,I5,r5,y5,st5,fr5⟩=>?_);have I5':=I5.pinned (stat fr5) (T.obj _ _ st5);refine RV hp (_m (hg _ s5 σ3 H5 x u _ I5' r5 (step x H5 y5)) fun _ s6 ⟨σ6,H6,I6,q6⟩=>?_);refine RV hp (_m (hb _ s6 σ6 H6 _ I6 q6) fun f s7 q7=>?_)
  have again:∀{σ7:St} {H7:Hp},Inv X (pins++JE fp s5.heap) σ7 H7 s7->N σ7 H7->∃m,m<n∧∃i σ' H',Inv X pins σ' H' s7∧tn i s7.heap∧(∀b∈fp,H' b=none)∧W i m σ' H':=fun {σ7 H7} I7 n7=>by
   obtain ⟨m',hm,w7⟩:=hN σ7 H7 n7;refine ⟨m',hm,i+1,σ7,H7,I7.unpinned,T.keep _ _ _ st5 fun b hb o e=>(I7.pin (b,o) (QL _ (QL _ (_a2 hb e)))).1,fun b hb=>?_,w7⟩;obtain ⟨o,e,d⟩:=T.obj _ _ st5 b hb;exact (I7.pin (b,o) (QL _ (QL _ (_a2 hb e)))).2.1
  cases f with
  |next=>obtain ⟨σ7,H7,I7,n7⟩:=q7;exact again I7 n7
  |cont=>obtain ⟨σ7,H7,I7,n7⟩:=q7;exact again I7 n7
  |brk=>obtain ⟨σ7,H7,I7,q7⟩:=q7;exact ⟨σ7,H7,I7.unpinned,q7⟩
  |ret v=>obtain ⟨x7,σ7,H7,I7,r7,q7⟩:=q7;exact ⟨x7,σ7,H7,I7.unpinned,r7,q7⟩
theorem XH {K:PySem.W.Frag} {g:TG} {D:Ends} (Pv:Nat->St->Hp->Prop) (h0:Pv 0 σ H) (hl:∀i σ H,i≤xs.length->Pv i σ H->SqL K H a xs)
 (hs:∀i x σ H,xs[i]?=some x->Pv i σ H->g x σ H fun σ2 H2=>tb { D with nx:=Pv (i+1),ct:=Pv (i+1),bk:=D.nx } σ2 H2) (hd:∀σ H,Pv xs.length σ H->D.nx σ H) :
  ∃W:Nat->Nat->St->Hp->Prop,(∃m,W 0 m σ H)∧∀i m σ H,W i m σ H →
   ((JM K a).stop i H∧D.nx σ H)∨((JM K a).go i H∧∃N:St->Hp->Prop,(∀σ' H',N σ' H'->∃m',m'<m∧W (i+1) m' σ' H')∧∀x H',(JM K a).yld i H x H'->g x σ H' fun σ2 H2=>tb { D with nx:=N,ct:=N,bk:=D.nx } σ2 H2):=by
 refine ⟨fun i m σ H=>m=xs.length-i∧i≤xs.length∧Pv i σ H,⟨xs.length,by simp,QT _,h0⟩,?_⟩;rintro i m σ H ⟨rfl,hi,p⟩;have q:=hl i σ H hi p;by_cases hlt:i<xs.length
 ·refine .inr ⟨⟨xs,xs[i],q,by simp [hlt]⟩,Pv (i+1),fun σ' H' p'=>⟨xs.length-(i+1),by omega,rfl,hlt,p'⟩,fun x H' y=>?_⟩;obtain ⟨e,y⟩:=y;subst e;exact hs i x σ _ (y xs q) p
 ·have e:i=xs.length:=by omega
  subst e;exact .inl ⟨⟨xs,q,Qe _⟩,hd σ H p⟩
theorem VH {K:PySem.W.Frag} {g:TG} {D:Ends} (Pv:Nat->St->Hp->Prop) (h0:Pv 0 σ H) (hl:∀i σ H,i≤xs.length->Pv i σ H->SqT K H a xs)
 (hs:∀i x σ H,xs[i]?=some x->Pv i σ H->g x σ H fun σ2 H2=>tb { D with nx:=Pv (i+1),ct:=Pv (i+1),bk:=D.nx } σ2 H2) (hd:∀σ H,Pv xs.length σ H->D.nx σ H) :
  ∃W:Nat->Nat->St->Hp->Prop,(∃m,W 0 m σ H)∧∀i m σ H,W i m σ H →
   ((Itt K a).stop i H∧D.nx σ H)∨((Itt K a).go i H∧∃N:St->Hp->Prop,(∀σ' H',N σ' H'->∃m',m'<m∧W (i+1) m' σ' H')∧∀x H',(Itt K a).yld i H x H'->g x σ H' fun σ2 H2=>tb { D with nx:=N,ct:=N,bk:=D.nx } σ2 H2):=by
 refine ⟨fun i m σ H=>m=xs.length-i∧i≤xs.length∧Pv i σ H,⟨xs.length,by simp,QT _,h0⟩,?_⟩;rintro i m σ H ⟨rfl,hi,p⟩;have q:=hl i σ H hi p;by_cases hlt:i<xs.length
 ·refine .inr ⟨⟨xs,xs[i],q,by simp [hlt]⟩,Pv (i+1),fun σ' H' p'=>⟨xs.length-(i+1),by omega,rfl,hlt,p'⟩,fun x H' y=>?_⟩;obtain ⟨e,y⟩:=y;subst e;exact hs i x σ _ (y xs q) p
 ·have e:i=xs.length:=by omega
  subst e;exact .inl ⟨⟨xs,q,Qe _⟩,hd σ H p⟩
theorem _ev {lo:Int} {g:TG} {D:Ends} (Pv:Nat->St->Hp->Prop) (h0:Pv 0 σ H)
 (hs:∀i σ H,i<n->Pv i σ H->g (.int (lo+i)) σ H fun σ2 H2=>tb { D with nx:=Pv (i+1),ct:=Pv (i+1),bk:=D.nx } σ2 H2) (hd:∀σ H,Pv n σ H->D.nx σ H) :
  ∃W:Nat->Nat->St->Hp->Prop,(∃m,W 0 m σ H)∧∀i m σ H,W i m σ H →
   ((Uk lo n).stop i H∧D.nx σ H)∨((Uk lo n).go i H∧∃N:St->Hp->Prop,(∀σ' H',N σ' H'->∃m',m'<m∧W (i+1) m' σ' H')∧∀x H',(Uk lo n).yld i H x H'->g x σ H' fun σ2 H2=>tb { D with nx:=N,ct:=N,bk:=D.nx } σ2 H2):=by
 refine ⟨fun i m σ H=>m=n-i∧i≤n∧Pv i σ H,⟨n,by simp,QT _,h0⟩,?_⟩;rintro i m σ H ⟨rfl,hi,p⟩;by_cases hlt:i<n
 ·refine .inr ⟨hlt,Pv (i+1),fun σ' H' p'=>⟨n-(i+1),by omega,rfl,hlt,p'⟩,fun x H' y=>?_⟩;obtain ⟨e,y⟩:=y;subst e y;exact hs i σ _ hlt p
 ·have e:i=n:=by omega
  subst e;exact .inl ⟨Qe _,hd σ H p⟩
abbrev R2:=V->V->Hp->VK->Prop
def _9 (X:Cx) (f:Value->Value->Sem Value) (r:R2):Prop :=
 ∀(pins:List (Addr×Obj)) (s:Shared) (σ:St) (H:Hp) (x y:V) (v u:Value) (Q:VK),Inv X pins σ H s->RelV x v->RelV y u->r x y H Q →
  wpAny (model X.prog X.w) X.A (f v u) (EP X pins σ Q) X.xe s
def UnR (X:Cx) (f:Value->Sem Value) (r:V->Hp->VK->Prop):Prop :=
 ∀(pins:List (Addr×Obj)) (s:Shared) (σ:St) (H:Hp) (x:V) (v:Value) (Q:VK),Inv X pins σ H s->RelV x v->r x H Q →
  wpAny (model X.prog X.w) X.A (f v) (EP X pins σ Q) X.xe s
def YE (X:Cx) (f:Value) (r:List V->Hp->VK->Prop):Prop :=
 ∀(pins:List (Addr×Obj)) (s:Shared) (σ:St) (H:Hp) (xs:List V) (us:List Value) (Q:VK),Inv X pins σ H s->Vals xs us->r xs H Q →
  wpAny (model X.prog X.w) X.A (call f us) (EP X pins σ Q) X.xe s
def WY (r:R2) (ta tb:TE):TE:=fun σ H Q=>ta σ H fun x H1=>tb σ H1 fun y H2=>r x y H2 Q
def tUn (r:V->Hp->VK->Prop) (ta:TE):TE:=fun σ H Q=>ta σ H fun x H1=>r x H1 Q
def rI (C:Int->Int->Prop) (g:Int->Int->V):R2:=fun x y H Q=>∃i j,x=.int i∧y=.int j∧C i j∧Q (g i j) H
def VC (g:Int->Int->V):R2:=fun x y H Q=>∃i j,x=.int i∧y=.int j∧Q (g i j) H
def rU (g:Int->V):V->Hp->VK->Prop:=fun x H Q=>∃i,x=.int i∧Q (g i) H
section
variable {a b:Expr} {tb tc:TE}
theorem _b9 (ha:PE X a ta) (hb:PE X b tb) {R:V->V->Hp->Prop} (I:Inv X pins σ H s)
 (h:ta σ H fun x H1=>tb σ H1 fun y H2=>R x y H2) 
 (hf:∀v u s2 x y H2,Inv X pins σ H2 s2->RelV x v->RelV y u->R x y H2->wpAny (model X.prog X.w) X.A (f v u) Q X.xe s2) :
  wpAny (model X.prog X.w) X.A (eval a X.env) (fun v s₁=>wpAny (model X.prog X.w) X.A (eval b X.env) (fun u s₂=>wpAny (model X.prog X.w) X.A (f v u) Q X.xe s₂) X.xe s₁) X.xe s:=by
 refine _m (ha pins s σ H _ I h) fun v s1 ⟨x,H1,I1,r1,q1⟩=>?_;refine _m (hb pins s1 σ H1 _ I1 q1) fun u s2 ⟨y,H2,I2,r2,q2⟩=>?_;exact hf v u s2 x y H2 I2 r1 r2 q2
theorem _S {op:Operator} {r:R2} (ho:_9 X (binaryOp op) r) (ha:PE X a ta) (hb:PE X b tb):PE X (.BinOp a op b pos) (WY r ta tb):=by
 intro pins s σ H Q I h;exact wpAny_BinOp (_b9 ha hb I h fun v u s2 x y H2 I2 rx ry q=>ho pins s2 σ H2 x y v u Q I2 rx ry q)
theorem Vv {op:UnaryOp} {r:V->Hp->VK->Prop} (ho:UnR X (unaryOp op) r) (ha:PE X a ta):PE X (.UnaryOp op a pos) (tUn r ta):=by
 intro pins s σ H Q I h;exact UnaryOp_ (_m (ha pins s σ H _ I h) fun v s1 ⟨x,H1,I1,r1,q1⟩=>ho pins s1 σ H1 x v Q I1 r1 q1)
theorem opI {C:Int->Int->Prop} {g:Int->Int->Int}
 (rule:∀(i j:Int) (t u:Tok) (s:Shared) (Q:Value->Shared->Prop) (E:Value->Shared->Prop),C i j->Q (.int (g i j) s.toks) { s with toks:=s.toks+1 }->wpAny (model X.prog X.w) X.A (f (.int i t) (.int j u)) Q E s) :
  _9 X f (rI C fun i j=>.int (g i j)):=by
 intro pins s σ H x y v u Q I rx ry h;obtain ⟨i,j,rfl,rfl,hc,q⟩:=h;obtain ⟨t,rfl⟩:=rx;obtain ⟨t',rfl⟩:=ry;exact rule i j t t' s _ _ hc ⟨.int (g i j),H,I.tok _,⟨_,rfl⟩,q⟩
theorem _iJ {g:Int->Int->Int}
 (rule:∀(i j:Int) (t u:Tok) (s:Shared) (Q:Value->Shared->Prop) (E:Value->Shared->Prop),Q (.int (g i j) s.toks) { s with toks:=s.toks+1 }->wpAny (model X.prog X.w) X.A (f (.int i t) (.int j u)) Q E s) :
  _9 X f (VC fun i j=>.int (g i j)):=by
 intro pins s σ H x y v u Q I rx ry h;obtain ⟨i,j,rfl,rfl,q⟩:=h;obtain ⟨t,rfl⟩:=rx;obtain ⟨t',rfl⟩:=ry;exact rule i j t t' s _ _ ⟨.int (g i j),H,I.tok _,⟨_,rfl⟩,q⟩
theorem _aV {g:Int->Int->Bool}
 (rule:∀(i j:Int) (t u:Tok) (s:Shared) (Q:Value->Shared->Prop) (E:Value->Shared->Prop),Q (.bool (g i j)) s->wpAny (model X.prog X.w) X.A (f (.int i t) (.int j u)) Q E s) :
  _9 X f (VC fun i j=>.bl (g i j)):=by
 intro pins s σ H x y v u Q I rx ry h;obtain ⟨i,j,rfl,rfl,q⟩:=h;obtain ⟨t,rfl⟩:=rx;obtain ⟨t',rfl⟩:=ry;exact rule i j t t' s _ _ ⟨.bl (g i j),H,I,rfl,q⟩
def _eB (i j:Int):Prop:=0≤j∧j≤1000000∧i.natAbs<2 ^ 64
def CMul (i j:Int):Prop:=(-(2 ^ 64)<i∧i<2 ^ 64)∨(-(2 ^ 64)<j∧j<2 ^ 64)
theorem CMul.ok {i j:Int} (h:CMul i j):IntMulOk i j:=by
 rcases h with ⟨h1,h2⟩|⟨h1,h2⟩
 ·exact .of_left (intBits_le_64 h1 h2)
 ·exact .of_right (intBits_le_64 h1 h2)
theorem Vn:_9 X (binaryOp .Add) (VC fun i j=>.int (i+j)):=_iJ fun _ _ _ _ _ _ _ q=>add_int q
theorem _h1:_9 X (binaryOp .Sub) (VC fun i j=>.int (i-j)):=_iJ fun _ _ _ _ _ _ _ q=>sub_int q
theorem _im:_9 X (binaryOp .Mult) (rI CMul fun i j=>.int (i*j)):=opI fun _ _ _ _ _ _ _ hc q=>mul_int q hc.ok
theorem XR:_9 X (binaryOp .Mod) (rI (fun _ j=>j≠0) fun i j=>.int (i.fmod j)):=opI fun _ _ _ _ _ _ _ hc q=>mod_int' hc q
theorem _gH:_9 X (binaryOp .Pow) (rI _eB fun i j=>.int (i ^ j.toNat)):=opI fun _ _ _ _ _ _ _ hc q=>pow_int_small hc.1 hc.2.1 hc.2.2 q
theorem unI {f:Value->Sem Value} {g:Int->Int}
 (rule:∀(i:Int) (t:Tok) (s:Shared) (Q:Value->Shared->Prop) (E:Value->Shared->Prop),Q (.int (g i) s.toks) { s with toks:=s.toks+1 }->wpAny (model X.prog X.w) X.A (f (.int i t)) Q E s) :
  UnR X f (rU fun i=>.int (g i)):=by
 intro pins s σ H x v Q I rx h;obtain ⟨i,rfl,q⟩:=h;obtain ⟨t,rfl⟩:=rx;exact rule i t s _ _ ⟨.int (g i),H,I.tok _,⟨_,rfl⟩,q⟩
theorem Vy:UnR X (unaryOp .USub) (rU fun i=>.int (-i)):=unI fun _ _ _ _ _ q=>neg_int q
end
noncomputable def _gR:V->V->Bool
 |.non,.non=>true|.non,.int _=>true|.int _,.non=>true|.non,.bl _=>true|.bl _,.non=>true|.non,.str _=>true|.str _,.non=>true
 |.int _,.int _=>true|.bl _,.bl _=>true|.str _,.str _=>true|.byt _,.byt _=>true
 |.int _,.str _=>true|.str _,.int _=>true|.bl _,.str _=>true|.str _,.bl _=>true
 |_,_=>false
def rEq:R2:=fun x y H Q=>_gR x y=true∧Q (.bl (decide (x=y))) H
def rNe:R2:=fun x y H Q=>_gR x y=true∧Q (.bl (!decide (x=y))) H
theorem _ic {i j:Int}:decide (V.int i=V.int j)=(i==j):=by
 rw [Ri];simp
theorem _g5 {i j:Bool}:decide (V.bl i=V.bl j)=(i==j):=by
 rw [Ri];simp
theorem _in {i j:Str}:decide (V.str i=V.str j)=(i==j):=by
 rw [Ri];simp
theorem _gW {i j:Array UInt8}:decide (V.byt i=V.byt j)=(i.toList==j.toList):=by
 rw [Ri];cases i;cases j;simp
section
variable {a b:Expr} {tb tc:TE}
theorem _7 {Q:VK} {k k':Bool} (I:Inv X pins σ H s) (q:Q (.bl k) H) (e:k=k'):EP X pins σ Q (.bool k') s:=by
 subst e;exact ⟨.bl k,H,I,rfl,q⟩
theorem _1:_9 X (compareOp .Eq) rEq:=by
 intro pins s σ H x y v u Q I rx ry h;obtain ⟨hs,q⟩:=h;cases x with
 |non =>
  cases rx;cases y with
  |non=>cases ry;exact PySem.EqNone.eq_none_none (_7 I q (by simp))
  |bl j=>cases ry;exact PySem.EqNone.eq_none_bool (_7 I q (by simp))
  |int j=>obtain ⟨t',rfl⟩:=ry;exact PySem.EqNone.eq_none_int (_7 I q (by simp))
  |str j=>obtain ⟨t',rfl⟩:=ry;exact PySem.EqNone.eq_none_str (_7 I q (by simp))
  |_=>exact absurd (show false=true from hs) QG
 |bl i =>
  cases rx;cases y with
  |non=>cases ry;exact PySem.EqNone.eq_bool_none (_7 I q (by simp))
  |bl j=>cases ry;exact eq_bool (_7 I q _g5)
  |str j=>obtain ⟨t',rfl⟩:=ry;exact PySem.EqMixed.eq_bool_str (_7 I q (by simp))
  |_=>exact absurd (show false=true from hs) QG
 |int i =>
  obtain ⟨t,rfl⟩:=rx;cases y with
  |non=>cases ry;exact PySem.EqNone.eq_int_none (_7 I q (by simp))
  |int j=>obtain ⟨t',rfl⟩:=ry;exact eq_int (_7 I q _ic)
  |str j=>obtain ⟨t',rfl⟩:=ry;exact PySem.EqMixed.eq_int_str (_7 I q (by simp))
  |_=>exact absurd (show false=true from hs) QG
 |str i =>
  obtain ⟨t,rfl⟩:=rx;cases y with
  |non=>cases ry;exact PySem.EqNone.eq_str_none (_7 I q (by simp))
  |bl j=>cases ry;exact PySem.EqMixed.eq_str_bool (_7 I q (by simp))
  |int j=>obtain ⟨t',rfl⟩:=ry;exact PySem.EqMixed.eq_str_int (_7 I q (by simp))
  |str j=>obtain ⟨t',rfl⟩:=ry;exact eq_str (_7 I q _in)
  |_=>exact absurd (show false=true from hs) QG
 |byt i =>
  obtain ⟨t,rfl⟩:=rx;cases y with
  |byt j=>obtain ⟨t',rfl⟩:=ry;exact W.eq_bytes (_7 I q _gW)
  |_=>exact absurd (show false=true from hs) QG
 |_=>cases y<;>exact absurd (show false=true from hs) QG
theorem VP:_9 X (compareOp .NotEq) rNe:=by
 intro pins s σ H x y v u Q I rx ry h;obtain ⟨hs,q⟩:=h;cases x with
 |non =>
  cases rx;cases y with
  |non=>cases ry;exact PySem.EqNone.ne_none_none (_7 I q (by simp))
  |bl j=>cases ry;exact PySem.EqNone.ne_none_bool (_7 I q (by simp))
  |int j=>obtain ⟨t',rfl⟩:=ry;exact PySem.EqNone.ne_none_int (_7 I q (by simp))
  |str j=>obtain ⟨t',rfl⟩:=ry;exact PySem.EqNone.ne_none_str (_7 I q (by simp))
  |_=>exact absurd (show false=true from hs) QG
 |bl i =>
  cases rx;cases y with
  |non=>cases ry;exact PySem.EqNone.ne_bool_none (_7 I q (by simp))
  |bl j=>cases ry;exact ne_bool (_7 I q (QB not _g5))
  |str j=>obtain ⟨t',rfl⟩:=ry;exact PySem.EqMixed.ne_bool_str (_7 I q (by simp))
  |_=>exact absurd (show false=true from hs) QG
 |int i =>
  obtain ⟨t,rfl⟩:=rx;cases y with
  |non=>cases ry;exact PySem.EqNone.ne_int_none (_7 I q (by simp))
  |int j=>obtain ⟨t',rfl⟩:=ry;exact ne_int (_7 I q (QB not _ic))
  |str j=>obtain ⟨t',rfl⟩:=ry;exact PySem.EqMixed.ne_int_str (_7 I q (by simp))
  |_=>exact absurd (show false=true from hs) QG
 |str i =>
  obtain ⟨t,rfl⟩:=rx;cases y with
  |non=>cases ry;exact PySem.EqNone.ne_str_none (_7 I q (by simp))
  |bl j=>cases ry;exact PySem.EqMixed.ne_str_bool (_7 I q (by simp))
  |int j=>obtain ⟨t',rfl⟩:=ry;exact PySem.EqMixed.ne_str_int (_7 I q (by simp))
  |str j=>obtain ⟨t',rfl⟩:=ry;exact ne_str (_7 I q (QB not _in))
  |_=>exact absurd (show false=true from hs) QG
 |byt i =>
  obtain ⟨t,rfl⟩:=rx;cases y with
  |byt j=>obtain ⟨t',rfl⟩:=ry;exact W.ne_bytes (_7 I q (QB not _gW))
  |_=>exact absurd (show false=true from hs) QG
 |_=>cases y<;>exact absurd (show false=true from hs) QG
theorem _hp:_9 X (compareOp .Lt) (VC fun i j=>.bl (decide (i<j))):=_aV fun _ _ _ _ _ _ _ q=>lt_int q
theorem _bG:_9 X (compareOp .LtE) (VC fun i j=>.bl (decide (i≤j))):=_aV fun _ _ _ _ _ _ _ q=>le_int q
theorem _dO:_9 X (compareOp .Gt) (VC fun i j=>.bl (decide (j<i))):=_aV fun _ _ _ _ _ _ _ q=>gt_int q
theorem Uh:_9 X (compareOp .GtE) (VC fun i j=>.bl (decide (j≤i))):=_aV fun _ _ _ _ _ _ _ q=>ge_int q
theorem _m0:_9 X (compareOp .Lt) (fun x y H Q=>∃i j,x=.str i∧y=.str j∧Q (.bl (decide (i.cps.toList<j.cps.toList))) H):=by
 intro pins s σ H x y v u Q I rx ry h;obtain ⟨i,j,rfl,rfl,q⟩:=h;obtain ⟨t,rfl⟩:=rx;obtain ⟨t',rfl⟩:=ry;exact lt_str (_7 I q rfl)
theorem _qi:_9 X (compareOp .In) (fun x y H Q=>∃i j,x=.str i∧y=.str j∧Q (.bl (!(Builtin.Str.occurrences j i 0 j.length 1).isEmpty)) H):=by
 intro pins s σ H x y v u Q I rx ry h;obtain ⟨i,j,rfl,rfl,q⟩:=h;obtain ⟨t,rfl⟩:=rx;obtain ⟨t',rfl⟩:=ry;exact in_str (_7 I q rfl)
theorem _eo:_9 X (compareOp .Is) (fun x y H Q=>y=.non∧Q (.bl (decide (x=.non))) H):=by
 intro pins s σ H x y v u Q I rx ry h;obtain ⟨rfl,q⟩:=h;cases ry;refine is_none_gen (_7 I q ?_)
 cases x<;>first
  | (cases rx;rfl)
  | (obtain ⟨t,rfl⟩:=rx;rfl)
theorem _z (b:Expr) (h:op≠.In:=by decide) (h2:op≠.NotIn:=by decide):behindInMarks op b=false:=by
 have e1:(op==CmpOp.In)=false:=by cases op<;>first|rfl|exact absurd rfl h
 have e2:(op==CmpOp.NotIn)=false:=by cases op<;>first|rfl|exact absurd rfl h2
 cases b<;>simp [behindInMarks,e1,e2]
theorem YM {r:R2} (ho:_9 X (compareOp op) r) (ha:PE X a ta) (hb:PE X b tb) (hm:behindInMarks op b=false):PE X (.Compare a [op] [b] pos) (WY r ta tb):=by
 intro pins s σ H Q I h;exact wpAny_Compare1 (_b9 ha hb I h fun v u s2 x y H2 I2 rx ry q=>ho pins s2 σ H2 x y v u Q I2 rx ry q) hm
def _bh (t:TE):TT:=fun σ H Q=>t σ H fun x H'=>∃k,x=.bl k∧Q k H'
theorem _C {r:R2} (ho:_9 X (compareOp op) r) (ha:PE X a ta) (hb:PE X b tb) (hm:behindInMarks op b=false):PT X (.Compare a [op] [b] pos) (_bh (WY r ta tb)):=by
 intro pins s σ H Q I h
 refine wpAny_isTrue_Compare1 (_m (ha pins s σ H _ I h) fun v s1 ⟨x,H1,I1,r1,q1⟩=>_m (hb pins s1 σ H1 _ I1 q1) fun u s2 ⟨y,H2,I2,r2,q2⟩ =>
  _m (ho pins s2 σ H2 x y v u _ I2 r1 r2 q2) fun c s3 ⟨z,H3,I3,r3,k,e,q3⟩=>?_) hm
 subst e;cases r3;exact RU ⟨H3,I3,q3⟩
theorem VD:(sizeLine:Nat)<2 ^ 63:=by rw [RW];decide
theorem _n2:_9 X (binaryOp .Add) (fun x y H Q=>∃i j,x=.str i∧y=.str j∧i.length+j.length≤sizeLine∧Q (.str (i++j)) H):=by
 intro pins s σ H x y v u Q I rx ry h;obtain ⟨i,j,rfl,rfl,hz,q⟩:=h;obtain ⟨t,rfl⟩:=rx;obtain ⟨t',rfl⟩:=ry;exact add_str (fun t' tk=>⟨.str (i++j),H,I.tok _,⟨_,rfl⟩,q⟩) hz
theorem Y8 {x:V} (r:Vals [x] us):∃u,us=[u]∧RelV x u:=by
 cases r with
 |cons r1 r2=>cases r2;exact ⟨_,rfl,r1⟩
theorem VN {x:V} (r:Vals [x,y] us):∃u w',us=[u,w']∧RelV x u∧RelV y w':=by
 cases r with
 |cons r1 r2 =>
  cases r2 with
  |cons r3 r4=>cases r4;exact ⟨_,_,rfl,r1,r3⟩
theorem _kI:YE X (.builtin "abs") (fun xs H Q=>∃i,xs=[.int i]∧Q (.int (if i<0 then -i else i)) H):=by
 intro pins s σ H xs us Q I r h;obtain ⟨i,rfl,q⟩:=h;obtain ⟨u,rfl,t,rfl⟩:=Y8 r;exact call_abs_int fun u tk=>⟨.int (if i<0 then -i else i),H,I.tok _,⟨_,rfl⟩,q⟩
theorem _l4 (hc:X.calm=true):YE X (.builtin "max") (fun xs H Q=>∃i j,xs=[.int i,.int j]∧Q (.int (if j > i then j else i)) H):=by
 intro pins s σ H xs us Q I r h;obtain ⟨i,j,rfl,q⟩:=h;obtain ⟨u,w',rfl,⟨t,rfl⟩,⟨t',rfl⟩⟩:=VN r;refine max_two_ints (I.ok.hd hc) fun h' tk k=>⟨_,H,I.kept k,?_,q⟩;by_cases hj:j > i
 ·rw [Qb hj,Qb hj];exact ⟨_,rfl⟩
 ·rw [Qa hj,Qa hj];exact ⟨_,rfl⟩
theorem _mJ (hc:X.calm=true):YE X (.builtin "min") (fun xs H Q=>∃i j,xs=[.int i,.int j]∧Q (.int (if j<i then j else i)) H):=by
 intro pins s σ H xs us Q I r h;obtain ⟨i,j,rfl,q⟩:=h;obtain ⟨u,w',rfl,⟨t,rfl⟩,⟨t',rfl⟩⟩:=VN r;refine min_two_ints (I.ok.hd hc) fun h' tk k=>⟨_,H,I.kept k,?_,q⟩;by_cases hj:j<i
 ·rw [Qb hj,Qb hj];exact ⟨_,rfl⟩
 ·rw [Qa hj,Qa hj];exact ⟨_,rfl⟩
theorem _eU:YE X (.type "int") (fun xs H Q=>(∃i,xs=[.int i]∧Q (.int i) H)∨∃k,xs=[.bl k]∧Q (.int (if k then 1 else 0)) H):=by
 intro pins s σ H xs us Q I r h;rcases h with ⟨i,rfl,q⟩|⟨k,rfl,q⟩
 ·obtain ⟨u,rfl,t,rfl⟩:=Y8 r;exact call_int_int ⟨.int i,H,I,⟨_,rfl⟩,q⟩
 ·obtain ⟨u,rfl,r1⟩:=Y8 r;cases r1;exact call_int_bool ⟨.int (if k then 1 else 0),H,I.tok _,⟨_,rfl⟩,q⟩
end
structure ObjM (h:Heap) (x dx C:Addr) (mA:Str->Option Value):Prop where
 obj:h.get? x=some (W.instObj C dx)
 ns:h.Ns1 dx mA
 ne:dx≠x
theorem _jY (n:h.Ns1 dx mA):∃od,h.get? dx=some od∧∀name,W.lookIn name od=some (mA name):=by
 obtain ⟨o,es,ep,ho,hd,hk,_,hm⟩:=n;refine ⟨o,ho,fun name=>?_⟩;have e:=hm name;unfold nsFind findBy at e;rw [←Array.find?_toList] at e;unfold W.lookIn;rw [hd];dsimp only;split
 ·rename_i y q;rw [q] at e;exact QB some e
 ·rename_i q;rw [q] at e
  have a:es.toList.any (·.refKey)=false:=by
   rw [Ny];intro y hy;obtain ⟨z,t,hkey⟩:=hk y (Array.mem_toList_iff.mp hy);simp [DictEntry.refKey,hkey]
  have a':¬es.toList.any (·.refKey)=true:=by rw [a];exact QG
  rw [Qa a'];exact QB some e
theorem ObjM.look {x:Addr} (I:ObjM h x dx C mA):∃od,W.InstAt h x (W.instObj C dx) C (some od)∧∀name,W.lookIn name od=some (mA name) :=
 let ⟨od,ho,hl⟩:=_jY I.ns
 ⟨od,⟨I.obj,rfl,rfl,ho⟩,hl⟩
section
variable {prog:Program} {w:World} {x f:Addr} {name:Str} {v:Value}
theorem _hF {expr:Bool} (X:K.In s.heap) (I:ObjM s.heap x dx C mA) (hg:W.plainGet K C name=true) (hh:W.hasDictIn K C=true)
 (ha:W.findIn K (.ref C) name=some none) (hv:mA name=some v) (hv':W.handedIn v=true) (h:Q v { s with toks:=s.toks+1 }) :
  wpAny (model prog w) A (getAttr (.ref x) name expr) Q E s:=by
 obtain ⟨od,J,hl⟩:=I.look;exact W.get_value X J (W.plainGet_of hg).1 (W.findObj_own hh ha rfl (by rw [hl,hv])) hv' h
theorem _n4 {pl:Sem Bool} {Q:Value×List Value->Shared->Prop} (X:K.In s.heap) (I:ObjM s.heap x dx C mA) (hg:W.plainGet K C name=true)
 (hf:W.findIn K (.ref C) name=some (some (.ref f))) (ht:W.isFn K (.ref f)=true) (hv:mA name=none) (h:Q (.ref f,[.ref x]) s) :
  wpAny (model prog w) A (getMethod (.ref x) name pl) Q E s:=by
 obtain ⟨od,J,hl⟩:=I.look;exact W.method_fn X J (W.plainGet_of hg).1 (W.plainGet_of hg).2 hf (RX.mp ht) (by show (W.lookIn name od).map (·.isSome)=some false;rw [hl,hv];rfl) h
theorem _k5 {ns:List Str} {Q:Unit->Shared->Prop} (X:K.In s.heap) (I:ObjM s.heap x dx C mA)
 (hs:W.findIn K (.ref C) "__setattr__"=some (some (.builtin "object.__setattr__"))) (hp:W.plainOver K C=true) (ht:W.takerIn K C name=some none) (hh:W.hasDictIn K C=true)
 (hw:PySem.Within mA ns) (hsz:ns.length≤sizeLine)
 (h:∀h',ObjM h' x dx C (fun y=>if y=name then some v else mA y)->Heap.SameBut dx s.heap h'->Q () { s with heap:=h',toks:=s.toks+2 }) :
  wpAny (model prog w) A (setAttr (.ref x) name v) Q E s:=by
 obtain ⟨od,J,hl⟩:=I.look;refine W.set_plain X J hs (W.osa_open (s:={ s with toks:=s.toks+1 }) (r:=none) X J hp ht fun b=>?_);obtain ⟨cd,hc,hd'⟩:=W.any_some hh;have hx:s.heap.get? x=some ⟨.ref C,some dx,.plain,#[]⟩:=I.obj;refine Qd (Qf (Qd (Qd (wpAny_loadPart hx (Qd (W.Looks.here (s:={ s with toks:=s.toks+1 }) (W.looks_clsIn X hc) ?_))))));rw [hd'];refine Qf (a:=some dx) (Qd (Qf (Qd ?_)));refine wpAny_nsSet1 (s:={ s with toks:=s.toks+1 }) I.ns fun h' hn2 hs2=>?_;obtain ⟨oD,esD,epD,hoD,hdD,hcD⟩:=hn2.count (PySem.Within.cons name v hw);refine Qd (wpAny_lookBehind hoD (by rw [hdD];exact pastItsLine_dict (Qk hcD (by rw [QJ];omega))) ?_);exact Qf (h _ ⟨(hs2.2 _ (Q4 I.ne)).trans I.obj,hn2,I.ne⟩ hs2)
theorem _li {R:Result->Shared->Prop} {vs:List Value} (X:K.In s.heap) (hm:W.makesIn K C=true)
 (hi:W.findIn K (.ref C) "__init__"=some (some (.ref f))) (hf:W.typeIn K (.ref f)=some (.type "function"))
 (h:codeAny (model prog w) (A.under (.builtin "type.__call__" ⟨.ref C::vs,kw⟩)) (.call (.ref f) ⟨.ref (s.heap.objs.size+1)::vs,kw⟩) (W.InitBack (s.heap.objs.size+1) R)
 { s with heap:=(s.heap.push W.emptyDict).push (W.instObj C s.heap.objs.size) }) :
  codeAny (model prog w) A (.call (.ref C) ⟨vs,kw⟩) R s:=by
 obtain ⟨hh,g,d,t,os⟩:=s;exact W.make_core (W.makes_of X hm) (GR X hi) (fun self=>W.bind_fn X self hf) (.inl rfl) h
end
noncomputable def _q (f:Str) (v:V):List (Str×V)->List (Str×V)
 |[]=>[(f,v)]
 | (g,x)::r=>if g=f then (g,v)::r else (g,x)::_q f v r
theorem _iq (f g:Str) (v:V):∀fs:List (Str×V),(_q f v fs).lookup g=if g=f then some v else fs.lookup g
 |[]=>by
  show List.lookup g [(f,v)]=_;by_cases h:g=f
  ·have hb:(g==f)=true:=RX.mpr h;simp only [List.lookup,hb,Qb h]
  ·have hb:(g==f)=false:=Rz.mpr h;simp only [List.lookup,hb,Qa h]
 | (k,x)::r=>by
  have ih:=_iq f g v r;rw [show _q f v ((k,x)::r)=(if k=f then (k,v)::r else (k,x)::_q f v r) from rfl];by_cases hk:k=f
  ·rw [Qb hk];by_cases h:g=k
   ·have hb:(g==k)=true:=RX.mpr h;simp only [List.lookup,hb,Qb (h.trans hk)]
   ·have hb:(g==k)=false:=Rz.mpr h;simp only [List.lookup,hb,Qa (fun e:g=f=>h (e.trans hk.symm))]
  ·rw [Qa hk];by_cases h:g=k
   ·have hb:(g==k)=true:=RX.mpr h;simp only [List.lookup,hb,Qa (fun e:g=f=>hk (h.symm.trans e))]
   ·have hb:(g==k)=false:=Rz.mpr h;simp only [List.lookup,hb];exact ih
theorem _dz (f:Str) (v:V):∀fs:List (Str×V),f∈(_q f v fs).map (·.1)∧∀g,g∈fs.map (·.1)->g∈(_q f v fs).map (·.1)
 |[]=>⟨by simp [_q],fun g h=>by simp at h⟩
 | (k,x)::r=>by
  obtain ⟨i1,i2⟩:=_dz f v r;rw [show _q f v ((k,x)::r)=(if k=f then (k,v)::r else (k,x)::_q f v r) from rfl];by_cases hk:k=f
  ·rw [Qb hk];subst hk;exact ⟨by simp,fun g h=>by simpa using h⟩
  ·rw [Qa hk];refine ⟨?_,fun g h=>?_⟩
   ·rw [Qw];exact QD _ i1
   ·rw [Qw] at h ⊢;rcases Qj.mp h with e|e
    ·exact Qj.mpr (.inl e)
    ·exact QD _ (i2 g e)
theorem _gy (f:Str) (v:V):∀fs:List (Str×V),(_q f v fs).length≤fs.length+1
 |[]=>by simp [_q]
 | (k,x)::r=>by
  have ih:=_gy f v r;rw [show _q f v ((k,x)::r)=(if k=f then (k,v)::r else (k,x)::_q f v r) from rfl];by_cases hk:k=f
  ·rw [Qb hk,QJ,QJ];omega
  ·rw [Qa hk,QJ,QJ];omega
theorem RelO.some_of {o:Option Value} (r:RelO (some v) o):∃u,o=some u∧RelV v u:=by
 cases o with
 |none=>exact (show False from r).elim
 |some u=>exact ⟨u,rfl,r⟩
theorem RelO.none_of {o:Option Value} (r:RelO none o):o=none:=by
 cases o with
 |none=>rfl
 |some u=>exact (show False from r).elim
theorem _oa (r:RelV v u):W.handedIn u=true:=by
 cases v with
 |non=>cases (show u=Value.none from r);rfl
 |bl b=>cases (show u=Value.bool b from r);rfl
 |int i=>obtain ⟨t,e⟩:=(show ∃t,u=Value.int i t from r);cases e;rfl
 |str x=>obtain ⟨t,e⟩:=(show ∃t,u=Value.str x t from r);cases e;rfl
 |byt b=>obtain ⟨t,e⟩:=(show ∃t,u=Value.bytes b t from r);cases e;rfl
 |flt b=>obtain ⟨t,e⟩:=(show ∃t,u=Value.float b t from r);cases e;rfl
 |ref a=>cases (show u=Value.ref a from r);rfl
 |ty n=>cases (show u=Value.type n from r);rfl
section
variable {w:World} {fs fs':List (Str×V)}
theorem J1 (hok:HOk P w H h) (e:H a=some (.ins C dx fs)):∃mA,ObjM h a dx C mA∧(∀f,RelO (fs.lookup f) (mA f))∧PySem.Within mA (fs.map (·.1))∧fs.length≤1000∧H dx=some (.own a):=by
 obtain ⟨d,z,ne,ob,mA,n,r,q⟩:=(show ObjOk P w H h a (.ins C dx fs) from hok a _ e);exact ⟨mA,⟨ob,n,ne⟩,r,q,z,d⟩
end
structure Cls (K:W.Frag) (C:Addr):Prop where
 pg:W.plainGet K C Str.empty=true
 hd:W.hasDictIn K C=true
 po:W.plainOver K C=true
 sa:W.findIn K (.ref C) "__setattr__"=some (some (.builtin "object.__setattr__"))
theorem Cls.get (c:Cls K C) (f:Str):W.plainGet K C f=true:=c.pg
def NoAttr (K:W.Frag) (C:Addr) (f:Str):Prop:=W.findIn K (.ref C) f=some none
theorem NoAttr.taker {f:Str} (n:NoAttr K C f):W.takerIn K C f=some none:=by
 unfold W.takerIn;rw [show W.findIn K (.ref C) f=some none from n];rfl
structure Meth (K:W.Frag) (C:Addr) (m:Str) (f:Addr):Prop where
 at_:W.findIn K (.ref C) m=some (some (.ref f))
 fn:W.isFn K (.ref f)=true
 kp:W.keepIn K (.ref f)=true
section
variable {fs:List (Str×V)} {f:Str}
theorem _nD {b:Bool} (I:Inv X pins σ H s) (e:H a=some (.ins C dx fs)) (c:Cls X.K C) (n:NoAttr X.K C f) (l:fs.lookup f=some v)
 (h:∀u s',Inv X pins σ H s'->RelV v u->Q u s'):wpAny (model X.prog X.w) A (getAttr (.ref a) f b) Q E s:=by
 obtain ⟨mA,O,r,_,_,_⟩:=J1 I.hok e;obtain ⟨u,hu,ru⟩:=RelO.some_of (v:=v) (o:=mA f) (by rw [←l];exact r f);exact _hF I.kIn O (c.get f) c.hd n hu (_oa ru) (h u _ (I.tok _) ru)
theorem _gN {g:Addr} {pl:Sem Bool} {Q:Value×List Value->Shared->Prop} (I:Inv X pins σ H s) (e:H a=some (.ins C dx fs)) (c:Cls X.K C) (k:Meth X.K C m g) (l:fs.lookup m=none)
 (h:Q (.ref g,[.ref a]) s):wpAny (model X.prog X.w) A (getMethod (.ref a) m pl) Q E s:=by
 obtain ⟨mA,O,r,_,_,_⟩:=J1 I.hok e;have hn:mA m=none:=RelO.none_of (by rw [←l];exact r m);exact _n4 I.kIn O (c.get m) k.at_ k.fn hn h
theorem _pJ {Q:Unit->Shared->Prop} (I:Inv X pins σ H s) (e:H a=some (.ins C dx fs)) (c:Cls X.K C) (n:NoAttr X.K C f) (hl:fs.length<1000) (ry:RelV y u)
 (h:∀s',Inv X pins σ (_c H a (.ins C dx (_q f y fs))) s'->Q () s'):wpAny (model X.prog X.w) A (setAttr (.ref a) f u) Q E s:=by
 obtain ⟨mA,O,r,wi,_,ho⟩:=J1 I.hok e;have hz:(fs.map (·.1)).length≤sizeLine:=by rw [Qc,RW];omega
 refine _k5 I.kIn O c.sa c.po n.taker c.hd wi hz fun h' O' sb=>h _ ?_;have hd:∃o,h'.get? dx=some o:=let ⟨o,_,_,e',_⟩:=O'.ns;⟨o,e'⟩;refine I.write (x:=a) (e:=dx) (by rw [e];exact True.intro) (.inr ho) (fun b q hb z=>(sb.2 b hb).trans z) hd ?_;refine ⟨by rw [_d O.ne];exact ho,?_,O.ne,O'.obj,_,O'.ns,fun g=>?_,fun g hg=>?_⟩
 ·have:=_gy f y fs;omega
 ·show RelO ((_q f y fs).lookup g) (if g=f then some u else mA g);rw [_iq];by_cases q:g=f
  ·rw [Qb q,Qb q];exact ry
  ·rw [Qa q,Qa q];exact r g
 ·by_cases q:g=f
  ·rw [q];exact (_dz f y fs).1
  ·refine (_dz f y fs).2 g (wi g fun z=>hg ?_);show (if g=f then some u else mA g)=none;rw [Qa q];exact z
theorem Inv.made (I:Inv X pins σ H s):Inv X pins σ (_c (_c H s.heap.objs.size (.own (s.heap.objs.size+1))) (s.heap.objs.size+1) (.ins C s.heap.objs.size []))
  { s with heap:=(s.heap.push W.emptyDict).push (W.instObj C s.heap.objs.size) }:=by
 have e1:(s.heap.push W.emptyDict).get? s.heap.objs.size=some W.emptyDict:=Qu s.heap rfl
 have e2:((s.heap.push W.emptyDict).push (W.instObj C s.heap.objs.size)).get? (s.heap.objs.size+1)=some (W.instObj C s.heap.objs.size):=by
  have:=Qu (s.heap.push W.emptyDict) (o:=W.instObj C s.heap.objs.size) rfl
  rwa [Rj] at this
 have e3:(s.heap.push W.emptyDict).Ns s.heap.objs.size (fun _=>none):=⟨W.emptyDict,#[],_,e1,rfl,(fun e he=>absurd he (by simp)),fun _=>rfl⟩;have I1:=I.laid (a:=s.heap.objs.size) (o:=.own (s.heap.objs.size+1)) (h':=s.heap.push W.emptyDict) (t':=s.toks) (fun b u q=>Ql _ q) (Qe _) ⟨_,e1⟩;refine I1.laid (a:=s.heap.objs.size+1) (o:=.ins C s.heap.objs.size []) (t':=s.toks) (fun b u q=>Ql _ q) (Nat.le_of_eq (Rj _ _)) ?_;have ne:s.heap.objs.size≠s.heap.objs.size+1:=QA (Q9 _);refine ⟨by rw [_d ne,_f],QT _,ne,e2,fun _=>none,(Heap.Ns1.of_empty e3).at fun o q=>Ql _ q,fun _=>True.intro,fun y hy=>absurd rfl hy⟩
theorem _h9 {prog:Program} {w:World} {env:Env} {f:Str} (hb:attributeBase e f env (eval e env)=eval e env)
 (h:wpAny (model prog w) A (eval e env) (fun o s₁=>wpAny (model prog w) A (getAttr o f true) Q E s₁) E s):wpAny (model prog w) A (eval (.Attribute e f pos) env) Q E s :=
 Attribute_any_ h (by rw [arm_eval_Attribute,hb])
end
def _gz (K:W.Frag) (ta:TE) (f:Str):TE:=fun σ H Q=>ta σ H fun x H1=>∃a C dx fs v,x=.ref a∧H1 a=some (.ins C dx fs)∧Cls K C∧NoAttr K C f∧fs.lookup f=some v∧Q v H1
def _ow (K:W.Frag) (ta tv:TE) (f:Str):TS:=fun D σ H=>tv σ H fun y H1=>ta σ H1 fun x H2=>∃a C dx fs,x=.ref a∧H2 a=some (.ins C dx fs)∧Cls K C∧NoAttr K C f∧fs.length<1000 ∧
 D.nx σ (_c H2 a (.ins C dx (_q f y fs)))
section
variable {o value:Expr} {f:Str} {pos' tpos:Pos} {tv:TE}
theorem _T (he:PE X e ta) (hb:attributeBase e f X.env (eval e X.env)=eval e X.env):PE X (.Attribute e f pos) (_gz X.K ta f):=by
 intro pins s σ H Q I h;refine _h9 hb (_m (he pins s σ H _ I h) fun u s1 ⟨x,H1,I1,rx,a,C,dx,fs,v,ex,ea,c,n,l,q⟩=>?_);subst ex;obtain rfl:u=Value.ref a:=rx;exact _nD I1 ea c n l fun u' s2 I2 ru=>⟨v,H1,I2,ru,q⟩
theorem Xk (ha:PE X o ta) (hv:PE X value tv) (hs:swapsWith value (some (.Attribute o f pos')) pos.line X.env=pure false):PS X (.Assign [.Attribute o f pos'] value pos) (_ow X.K ta tv f):=by
 intro pins s σ H D I h;refine plainObj_wpAny_Assign_Attribute (_m (hv pins s σ H _ I h) fun u s1 ⟨y,H1,I1,ry,q⟩=>_m (ha pins s1 σ H1 _ I1 q) fun ov s2 ⟨x,H2,I2,rx,a,C,dx,fs,ex,ea,c,n,l,q2⟩=>?_) hs;subst ex;obtain rfl:ov=Value.ref a:=rx;exact _pJ I2 ea c n l ry fun s3 I3=>⟨σ,_,I3,q2⟩
end
section
variable {c:Value} {b:Bool}
inductive TyOf (K:W.Frag) (H:Hp):V->Value->Prop where
 |non:TyOf K H .non (.type "NoneType")
 |bl (x:Bool):TyOf K H (.bl x) (.type "bool")
 |int (i:Int):TyOf K H (.int i) (.type "int")
 |str (x:Str):TyOf K H (.str x) (.type "str")
 |flt (x:UInt64):TyOf K H (.flt x) (.type "float")
 |lst {a:Addr} {xs:List V} (e:H a=some (.lst xs)):TyOf K H (.ref a) (.type "list")
 |frz {a:Addr} {o:Obj} {xs:List V} (e:H a=some (.frz o (.lst xs))):TyOf K H (.ref a) (.type "list")
 |tup {a:Addr} {xs:List V} (e:H a=some (.tup xs)):TyOf K H (.ref a) (.type "tuple")
 |dK {a:Addr} {kvs:List (_l×V)} (e:H a=some (.dK kvs)):TyOf K H (.ref a) (.type "dict")
 |dT {a:Addr} {kvs:List (List _l×V)} (e:H a=some (.dT kvs)):TyOf K H (.ref a) (.type "dict")
 |ins {a C dx : Addr} {fs : List (Str×V)} (e : H a=some (.ins C dx fs)) (cl : Cls K C) (ha : W.findIn K (.ref C) "__class__"=some (some (.builtin "object.__class__")))
   (hn:W.specialIn K (.builtin "object.__class__") "__get__"=some (some (.builtin "getset_descriptor.__get__"))) (htk:W.takesIn K (.builtin "object.__class__")=some true)
   (hm:W.mroIn K C (.type "object")=some true):TyOf K H (.ref a) (.ref C)
theorem _or {x:V} {t:Value} (I:Inv X pins σ H s) (rx:RelV x u) (ty:TyOf X.K H x t) (e:W.kitOne X.K t c=some b) (h:∀tk,Q (.bool b) { s with toks:=tk }) :
  wpAny (model X.prog X.w) A (call (.builtin "isinstance") [u,c]) Q E s:=by
 cases ty with
 |non=>cases (show u=Value.none from rx);exact QZ W.kitx_none I.kIn True.intro e (fun z=>nomatch z) h
 |bl y=>cases (show u=Value.bool y from rx);exact QZ W.kitx_bool I.kIn True.intro e (fun z=>nomatch z) h
 |int i=>obtain ⟨t,q⟩:=(show ∃t,u=Value.int i t from rx);cases q;exact QZ W.kitx_int I.kIn True.intro e (fun z=>nomatch z) h
 |str y=>obtain ⟨t,q⟩:=(show ∃t,u=Value.str y t from rx);cases q;exact QZ W.kitx_str I.kIn True.intro e (fun z=>nomatch z) h
 |flt y=>obtain ⟨t,q⟩:=(show ∃t,u=Value.float y t from rx);cases q;exact QZ W.kitx_float I.kIn True.intro e (fun z=>nomatch z) h
 |@lst a xs ea =>
  cases (show u=Value.ref a from rx);obtain ⟨_,_,n,_,h1⟩:=(show ObjOk X.prog X.w H s.heap a (.lst xs) from I.hok a _ ea);exact QZ GS I.kIn ⟨_,h1,rfl⟩ e (fun z=>nomatch z) h
 |@frz a ob xs ea =>
  cases (show u=Value.ref a from rx);obtain ⟨_,_,_,n,_,h1⟩:=(show ObjOk X.prog X.w H s.heap a (.frz ob (.lst xs)) from I.hok a _ ea);exact QZ GS I.kIn ⟨_,h1,rfl⟩ e (fun z=>nomatch z) h
 |@tup a xs ea =>
  cases (show u=Value.ref a from rx);obtain ⟨_,_,_,p⟩:=(show ObjOk X.prog X.w H s.heap a (.tup xs) from I.hok a _ ea);obtain ⟨o,h1,h2,_⟩:=p;exact QZ W.kitx_tuple I.kIn ⟨o,h1,h2⟩ e (fun z=>nomatch z) h
 |@dK a kvs ea =>
  cases (show u=Value.ref a from rx);obtain ⟨_,_,vs,_,p⟩:=(show ObjOk X.prog X.w H s.heap a (.dK kvs) from I.hok a _ ea);obtain ⟨o,es,ep,h1,h2,_⟩:=p;exact QZ W.kitx_dict I.kIn ⟨o,h1,h2.1⟩ e (fun z=>nomatch z) h
 |@dT a kvs ea =>
  cases (show u=Value.ref a from rx);obtain ⟨_,_,xs,_,o,es,ep,h1,h2,_⟩:=(show ObjOk X.prog X.w H s.heap a (.dT kvs) from I.hok a _ ea);exact QZ W.kitx_dict I.kIn ⟨o,h1,h2.1⟩ e (fun z=>nomatch z) h
 |@ins a C dx fs ea cl ha hn htk hm =>
  cases (show u=Value.ref a from rx);obtain ⟨mA,O,_⟩:=J1 I.hok ea;obtain ⟨od,J,_⟩:=O.look;exact QZ (W.kitx_own (cl.get _) cl.hd ha hn htk hm) I.kIn J e (fun z=>nomatch z) h
end
structure Room (k:Nat) (A:Around):Prop where
 hd:A.handled=none
 dp:A.depth+3*k+5<recursionLimit
 un:A.units+16*k+200<cLine
theorem Room.mono {j k:Nat} (r:Room k A) (h:j≤k):Room j A:=⟨r.hd,by have:=r.dp;omega,by have:=r.un;omega⟩
theorem Room.deeper {k:Nat} (r:Room (k+1) A) (env:Env):Room k (A.deeper env) :=
 ⟨r.hd,by have:=r.dp;show A.depth+1+3*k+5<_;omega,by have:=r.un;show A.units+3+16*k+200<_;omega⟩
theorem _nO:(A.under (.builtin "type.__call__" ⟨.ref C::us,kw⟩)).depth=A.depth+1:=by
 first|rfl|simp [Around.under,Code.weight,Code.isCreation,Code.isGuard,Code.isCaller,Code.frames,Code.isFrame,guardIds]
theorem _oj:(A.under (.builtin "type.__call__" ⟨.ref C::us,kw⟩)).units=A.units+1:=by
 first|rfl|simp [Around.under,Code.cUnits,Code.frames,Code.isFrame]
theorem Room.make {k:Nat} (r:Room (k+1) A) (C:Addr) (us:List Value) (kw:List (Str×Value)):Room k (A.under (.builtin "type.__call__" ⟨.ref C::us,kw⟩)) :=
 ⟨r.hd,by have:=r.dp;rw [_nO];omega,by have:=r.un;rw [_oj];omega⟩
theorem Room.depth {k:Nat} (r:Room k A):A.depth<recursionLimit:=by have:=r.dp;omega
theorem Room.units {k:Nat} (r:Room k A):A.units+64<cLine:=by have:=r.un;omega
def VU:TA:=fun _ H Q=>Q [] H
def Jy (ta:TE) (tr:TA):TA:=fun σ H Q=>ta σ H fun x H1=>tr σ H1 fun xs H2=>Q (x::xs) H2
section
variable {t:TA}
theorem _b:PA X [] VU:=fun _ _ _ _ H Q I h=>Gs ⟨[],H,I,.nil,h⟩
theorem _a (ha:PE X e te) (hr:PA X es t) (hs:starEach (e::es) X.env=(false,eval e X.env)::starEach es X.env:=by rfl):PA X (e::es) (Jy te t):=by
 intro pos pins s σ H Q I h;rw [hs];show wpAny _ _ (spliced ((false,eval e X.env)::backTo pos (starEach es X.env))) _ _ s;refine Rw (_m (ha pins s σ H _ I h) fun u s1 ⟨x,H1,I1,r1,q1⟩=>?_);exact _m (hr pos pins s1 σ H1 _ I1 q1) fun us s2 ⟨xs,H2,I2,r2,q2⟩=>⟨x::xs,H2,I2,.cons r1 r2,q2⟩
def _d1 (t:TA):TE:=fun σ H Q=>t σ H fun xs H1=>xs.length≤sizeLine∧∀p,H1 p=none->Q (.ref p) (_c H1 p (.tup xs))
def _qC (t:TA):TE:=fun σ H Q=>t σ H fun xs H1=>xs.length≤sizeLine∧∀p,H1 p=none->Q (.ref p) (_c H1 p (.lst xs))
theorem _R {x1} (h:PA X es t):PE X (.Tuple es x1 pos) (_d1 t):=by
 intro pins s σ H Q I hq;refine wpAny_Tuple_spliced (_m (h pos pins s σ H _ I hq) fun us s1 ⟨xs,H1,I1,r,z,q⟩=>⟨by rw [←r.length];exact z,?_⟩);have hf:H1 s1.heap.objs.size=none:=I1.hok.fresh (Qe _);refine ⟨.ref s1.heap.objs.size,_c H1 s1.heap.objs.size (.tup xs),I1.laid (t':=s1.toks) (fun b u e=>Ql _ e) (Qe _) ?_,rfl,q _ hf⟩;exact ⟨z,us,r,⟨_,Qu _ rfl,rfl,_,rfl⟩⟩
theorem _4 (h:PA X es t):PE X (.List es pos) (_qC t):=by
 intro pins s σ H Q I hq;refine wpAny_List_spliced (_m (h pos pins s σ H _ I hq) fun us s1 ⟨xs,H1,I1,r,z,q⟩=>⟨by rw [←r.length];exact z,?_⟩);have hf:H1 s1.heap.objs.size=none:=I1.hok.fresh (Qe _);refine ⟨.ref s1.heap.objs.size,_c H1 s1.heap.objs.size (.lst xs),I1.laid (t':=s1.toks) (fun b u e=>Ql _ e) (Qe _) ?_,rfl,q _ hf⟩;exact ⟨z,us,0,r,Qu _ rfl⟩
end
abbrev Sp:=List V->Hp->VK->XK->Prop
abbrev Yn:=List Env->Hp->Shared->XK->Value->Shared->Prop
structure Env0 (P:Program) (w:World) (K:W.Frag) (mg:Str->Option Value) (base:Heap) (A:Around) (outer:List Env) (s:Shared) (H:Hp):Prop where
 frames:A.frames=some outer
 mod:Mod K mg base
 bs:∀b o,base.get? b=some o->s.heap.get? b=some o∧H b=none
 bsz:base.objs.size≤s.heap.objs.size
 funs:s.heap.FunFrames base outer
 frf:∀b∈YH outer,H b=none
 hok:HOk P w H s.heap
 bare:AllBare s.gens
def CE (outer:List Env) (P:Program) (w:World) (H:Hp) (s:Shared) (Q:VK) (u:Value) (s':Shared):Prop :=
 ∃v H',s'.os=s.os∧AllBare s'.gens∧Un (YH outer) [] H H' s.heap s'.heap∧HOk P w H' s'.heap∧RelV v u∧Q v H'
def CR (CX:Yn) (outer:List Env) (P:Program) (w:World) (H:Hp) (s:Shared) (Q:VK) (E:XK) (r:Result) (s':Shared):Prop :=
 match r with
 |.ok (.ret u)=>CE outer P w H s Q u s'
 |.ok _=>False
 |.error e=>CX outer H s E e s'
structure FnOk (P:Program) (w:World) (K:W.Frag) (mg:Str->Option Value) (base:Heap) (CX:Yn) (k:Nat) (f:Addr) (fd:FuncData) (ps:List Str) (sp:Sp):Prop where
 len:∀vs H Q E,sp vs H Q E->vs.length=ps.length
 run:∀(A:Around) (outer:List Env) (s:Shared) (H:Hp) (args:Args) (us:List Value) (vs:List V) (Q:VK) (E:XK),Room k A->Env0 P w K mg base A outer s H->BindsTo s fd args (ps.zip us)->Vals vs us->sp vs H Q E →
  codeAny (model P w) A (.call (.ref f) args) (CR CX outer P w H s Q E) s
theorem FnOk.imp {w:World} {mg:Str->Option Value} {k:Nat} {f:Addr} {sp sp':Sp} (F:FnOk P w K mg base CX k f fd ps sp)
 (h:∀vs H Q E,sp' vs H Q E->sp vs H Q E):FnOk P w K mg base CX k f fd ps sp' :=
 ⟨fun vs H Q E q=>F.len vs H Q E (h _ _ _ _ q),fun A outer s H args us vs Q E hr he hb hv hs=>F.run A outer s H args us vs Q E hr he hb hv (h _ _ _ _ hs)⟩
theorem Env0.make {w:World} {mg:Str->Option Value} {outer:List Env} (e:Env0 P w K mg base A outer s H) (C:Addr) (us:List Value) (kw:List (Str×Value)) :
  Env0 P w K mg base (A.under (.builtin "type.__call__" ⟨.ref C::us,kw⟩)) outer s H:=⟨by first|exact e.frames|(simpa [Around.under,Code.envs,Code.isFrame,pushEnvs] using e.frames),e.mod,e.bs,e.bsz,e.funs,e.frf,e.hok,e.bare⟩
section
variable {s':Shared}
theorem Inv.env0 (I:Inv X pins σ H s):Env0 X.prog X.w X.K X.mg X.base X.A X.stack s H :=
 ⟨I.ok.frames,I.ok.mod,I.bs,Qk I.ok.bsz I.sz,I.stack,I.stkFree,I.hok,I.bare⟩
theorem Inv.after {Q:VK} (I:Inv X pins σ H s) (h:CE X.stack X.prog X.w H s Q u s'):EP X pins σ Q u s':=by
 obtain ⟨v,H',os,bare,un,hok,r,q⟩:=h;obtain ⟨hh,g,d,t,os'⟩:=s';obtain rfl:os'=s.os:=os;exact ⟨v,H',I.call (h':=hh) (g':=g) (d':=d) (t':=t) (ch:=[]) un hok bare (fun b z=>absurd z (by simp)),r,q⟩
end
def Binds (K:W.Frag) (fd:FuncData) (ps:List Str) (ds:List Value):Prop :=
 ∀(s:Shared) (us:List Value),K.In s.heap->(us++ds).length=ps.length->BindsTo s fd ⟨us,[]⟩ (ps.zip (us++ds))
theorem Binds.all (h:∀us:List Value,us.length=ps.length->bindArgs fd ⟨us,[]⟩=pure (ps.zip us)):Binds K fd ps []:=fun s us _ hl=>by
 rw [QU] at hl ⊢;exact .of_eq (h us hl)
def _fR (CX:Yn) (X:Cx) (E:XK):Prop:=∀(pins:List (Addr×Obj)) (σ:St) (H:Hp) (s:Shared) (e:Value) (s':Shared),Inv X pins σ H s->CX X.stack H s E e s'->X.xe e s'
section
variable {k:Nat} {f:Addr} {sp:Sp} {dvs:List V} {ds:List Value} {E:XK} {x:Str} {p apos:Pos} {o:Expr} {t:TA}
theorem _kg {Q:VK} {vs:List V} (F:FnOk X.prog X.w X.K X.mg X.base CX k f fd ps sp) (hr:Room k X.A) (hb:Binds X.K fd ps ds) (hd:Vals dvs ds) (hx:_fR CX X E)
 (I:Inv X pins σ H s) (r:Vals vs us) (h:sp (vs++dvs) H Q E):wpAny (model X.prog X.w) X.A (call (.ref f) us) (EP X pins σ Q) X.xe s:=by
 have r2:Vals (vs++dvs) (us++ds):=r.append hd;have hl:(us++ds).length=ps.length:=by rw [←r2.length];exact F.len _ _ _ _ h
 refine RY (RZ (F.run X.A X.stack s H ⟨us,[]⟩ (us++ds) (vs++dvs) Q E hr I.env0 (hb s us I.kIn hl) r2 h) fun r s' hq=>?_);cases r with
 |error e=>exact hx pins σ H s e s' I hq
 |ok fl =>
  cases fl with
  |ret u=>exact I.after hq
  |next=>exact False.elim hq
  |brk=>exact False.elim hq
  |cont=>exact False.elim hq
structure Mk (K:W.Frag) (C f:Addr):Prop where
 makes:W.makesIn K C=true
 init:W.findIn K (.ref C) "__init__"=some (some (.ref f))
 fn:W.isFn K (.ref f)=true
 kp:W.keepIn K (.ref C)=true
end
section
variable {k:Nat} {f:Addr} {ks:List Str} {sp:Sp} {E:XK} {x:Str} {p apos kpos:Pos} {o:Expr} {kws:List Keyword} {t tk:TA} {nm:Option Str}
variable {g:List Value->List Value->List Value} {gV:List V->List V->List V}
end
structure FnScope (N P:List Str) (sc:Scope):Prop where
 kind:sc.kind=.function
 co:sc.isCoroutine=false
 gen:sc.isGenerator=false
 nd:N.Nodup
 pre:N.take P.length=P
 par:∀x∈P,sc.names.lookup x=some .local∨sc.names.lookup x=some .cell
 nofree:∀y∈sc.names,y.2≠.free
theorem _ja {kindOf:Str->Option NameKind} {x:Str}:∀{binds:List (Str×Value)} {m:Str->Option Value},(∀v,(x,v)∉binds)->bindL kindOf binds m x=m x
 |[],_,_=>rfl
 | (n,v)::r,m,h=>by
  unfold bindL;rw [_ja fun w hw=>h w (QD _ hw)];split
  ·have:x≠n:=by rintro rfl;exact h v QI
   simp [this]
  ·rfl
theorem _id {kindOf:Str->Option NameKind} {x:Str}:∀{binds:List (Str×Value)} {m:Str->Option Value},(∀v,(x,v)∉binds)->bindC kindOf binds m x=m x
 |[],_,_=>rfl
 | (n,v)::r,m,h=>by
  unfold bindC;rw [_id fun w hw=>h w (QD _ hw)];split
  ·rfl
  ·have:x≠n:=by rintro rfl;exact h v QI
   simp [this]
theorem _g7 {kindOf:Str->Option NameKind} {x:Str} {v:Value}:∀{P:List Str} {vs:List Value} {i:Nat} {m:Str->Option Value},P.Nodup->P[i]?=some x->vs[i]?=some v->kindOf x=some .local →
  bindL kindOf (P.zip vs) m x=some v
 |[],_,_,_,_,h,_,_=>by simp at h
 |_::_,[],_,_,_,_,h,_=>by simp at h
 |p::P,w::vs,0,m,nd,h1,h2,hk=>by
  simp at h1 h2;subst h1;subst h2;show bindL kindOf ((p,w)::P.zip vs) m p=_;unfold bindL;rw [_ja fun v hv=>(QS.mp nd).1 (Nz hv).1,Qb hk];simp
 |p::P,w::vs,i+1,m,nd,h1,h2,hk=>by
  show bindL kindOf ((p,w)::P.zip vs) m x=_;unfold bindL;exact _g7 (i:=i) (QS.mp nd).2 (by simpa using h1) (by simpa using h2) hk
theorem _gT {kindOf:Str->Option NameKind} {x:Str} {v:Value}:∀{P:List Str} {vs:List Value} {i:Nat} {m:Str->Option Value},P.Nodup->P[i]?=some x->vs[i]?=some v->kindOf x≠some .local →
  bindC kindOf (P.zip vs) m x=some v
 |[],_,_,_,_,h,_,_=>by simp at h
 |_::_,[],_,_,_,_,h,_=>by simp at h
 |p::P,w::vs,0,m,nd,h1,h2,hk=>by
  simp at h1 h2;subst h1;subst h2;show bindC kindOf ((p,w)::P.zip vs) m p=_;unfold bindC;rw [_id fun v hv=>(QS.mp nd).1 (Nz hv).1,Qa hk];simp
 |p::P,w::vs,i+1,m,nd,h1,h2,hk=>by
  show bindC kindOf ((p,w)::P.zip vs) m x=_;unfold bindC;exact _gT (i:=i) (QS.mp nd).2 (by simpa using h1) (by simpa using h2) hk
noncomputable def start (N:List Str) (vs:List V):St:=vs.map some++List.replicate (N.length-vs.length) none
noncomputable def Vg (CX:Yn) (P:Program) (w:World) (K:W.Frag) (mg:Str->Option Value) (base:Heap) (N:List Str) (qual:Str) (scope:Scope) (f:Addr) (cd:Value) (A:Around) (outer:List Env) (s:Shared) (H:Hp) (E:XK):Cx where
 prog:=P
 w:=w
 K:=K
 mg:=mg
 base:=base
 A:=A.deeper (envOfC qual scope s.heap.objs.size f cd)
 N:=N
 s₀:=s
 H₀:=H
 env:=envOfC qual scope s.heap.objs.size f cd
 outer:=outer
 stack:=envOfC qual scope s.heap.objs.size f cd::outer
 ex:=[]
 calm:=true
 fn:=fun _=>true
 pn:=[]
 xe:=fun e s'=>wpAny (model P w) (A.deeper (envOfC qual scope s.heap.objs.size f cd)) (leaving (envOfC qual scope s.heap.objs.size f cd) e) (fun _ s''=>CX outer H s E e s'') (fun e' s''=>CX outer H s E e' s'') s'
theorem _hn {sc:Scope} {x:Str} (h:sc.names.lookup x=some .cell):∃c,(cellsFrom n sc.names []).lookup x=some c:=by
 have q:=W.cellsFrom_some sc.names n [] (.inl h);exact GT.mp q
theorem _kC {w:World} {mg:Str->Option Value} {qual:Str} {scope:Scope} {f:Addr} {cd:Value} {outer:List Env} {s1:Shared} {E:XK} {vs:List V}
 (S:FnScope N ps scope) (hd:A.handled=none) (e0:Env0 P w K mg base A outer s H) (hl:vs.length=ps.length) (r:Vals vs us)
 (x:InCallC s s.heap.objs.size (bindL (envOfC qual scope s.heap.objs.size f cd).kindOf (ps.zip us) fun _=>none) (cellsFrom (s.heap.objs.size+1) scope.names []) (bindC (envOfC qual scope s.heap.objs.size f cd).kindOf (ps.zip us) fun _=>none) s1) :
  Inv (Vg CX P w K mg base N qual scope f cd A outer s H E) [] (start N vs) H s1:=by
 have hpl:ps.length≤N.length:=by have:=QB List.length S.pre;rw [Rk] at this;omega
 obtain ⟨h1,tk,rfl,hk⟩:=x.done;have noA:∀b:Addr,b∉(Vg CX P w K mg base N qual scope f cd A outer s H E).ex:=fun b z=>absurd (show b∈([]:List Addr) from z) (by simp)
 refine ⟨⟨e0.mod,S.kind,rfl,rfl,Qe _,fun y z c h1 h2=>?_,fun y hy=>?_,fun y c _ h=>?_,fun _=>hd,Around.frames_deeper e0.frames,.inr ⟨rfl,rfl⟩,fun b z=>absurd z (noA b),e0.bs,e0.bsz,fun b _ _=>noA b,fun b z=>absurd z (noA b),e0.funs,e0.frf⟩,
  rfl,e0.bare,Un.kept hk,⟨_,x.toInCall.ns,fun i y v h1 h2 h3=>?_⟩,fun y c h=>⟨_,x.cell y c h⟩,e0.hok.fresh (Qe _),fun y c h=>?_,fun p hp=>absurd (show p∈([]:List (Addr×Obj)) from hp) (by simp),e0.hok.kept hk,?_⟩
 ·exact name_of_addr x.apart (R0 h1) (R0 h2)
 ·have hy:scope.names.lookup y=some .cell∨scope.names.lookup y=some .free:=hy;rcases hy with hy|hy
  ·exact _hn hy
  ·exact absurd rfl (S.nofree _ (R0 hy))
 ·exact QR (x.above y c (R0 h))
 ·have hi:i<vs.length:=by
   unfold start at h2;by_cases hi:i<vs.length
   ·exact hi
   ·rw [Rp (by simpa using hi)] at h2;rw [List.getElem?_replicate] at h2;split at h2<;>cases h2
  have ha:vs[i]?=some v:=by
   unfold start at h2;rw [RE (by simpa using hi),Qp] at h2;cases e:vs[i]? with
   |none=>rw [e] at h2;cases h2
   |some a=>rw [e] at h2;cases h2;rfl
  obtain ⟨u,hu,rv⟩:=r.get ha
  have hp:ps[i]?=some y:=by
   rw [←S.pre,NA (by omega)];exact h1
  have ndP:ps.Nodup:=by rw [←S.pre];exact S.nd.sublist (List.take_sublist _ _)
  refine ⟨u,rv,?_⟩;rcases S.par y (QE hp) with k|k
  ·exact .inl ⟨k,_g7 ndP hp hu k⟩
  ·obtain ⟨c,e⟩:=_hn (n:=s.heap.objs.size+1) k;refine .inr ⟨.inl k,c,e,?_⟩;have q:=x.cell y c e;rw [_gT ndP hp hu (by show scope.names.lookup y≠_;rw [k];decide)] at q;exact q
 ·exact e0.hok.fresh (QR (x.above y c (R0 h)))
 ·unfold start;show _=N.length;rw [Qm,Qc,List.length_replicate];omega
theorem _fm {w:World} {mg:Str->Option Value} {k:Nat} {f:Addr} {name qual:Str} {params:Arguments} {scope:Scope} {dV kV doc pm cdv ct oc:Value} {an od:Option Addr}
 {osl:Array (Option Value)} {sp:Sp} (lk:K.lookup f=some ⟨oc,od,.func (W.fnOf name qual params body scope dV kV doc pm an cdv ct),osl⟩) (hcd:W.codeIn K cdv qual=true) (S:FnScope N ps scope)
 (len:∀vs H Q E,sp vs H Q E->vs.length=ps.length)
 (hbody:∀(A:Around) (outer:List Env) (s:Shared) (H:Hp) (vs:List V) (Q:VK) (E:XK),Room k (A.deeper (envOfC qual scope s.heap.objs.size f cdv))->sp vs H Q E →
 ∃t,PSs (Vg CX P w K mg base N qual scope f cdv A outer s H E) body t∧t { nx:=fun _ H'=>Q .non H',rt:=Q } (start N vs) H) :
  FnOk P w K mg base CX (k+1) f (W.fnOf name qual params body scope dV kV doc pm an cdv ct) ps sp:=by
 refine ⟨len,fun A outer s H args us vs Q E hr e0 hb r hsp=>?_⟩;have hl:=len _ _ _ _ hsp;have KX:K.In s.heap:=e0.mod.kin.keeps fun b o e=>(e0.bs b o e).1;have lim:s.heap.NoLimit:=e0.mod.nolimit.keeps fun b o e=>(e0.bs b o e).1
 have hkind:∀y∈ps.zip us,scope.names.lookup y.1=some .local∨(scope.names.lookup y.1=some .cell∧((cellsFrom (s.heap.objs.size+1) scope.names []).lookup y.1).isSome=true):=fun ⟨n,v⟩ hy=>by
  rcases S.par n (Nz hy).1 with q|q
  ·exact .inl q
  ·exact .inr ⟨q,W.cellsFrom_some _ _ _ (.inl q)⟩
 refine codeAny_call_function hr.depth (KX _ _ lk) rfl S.co S.gen rfl (W.codeRec_of KX hcd) (hb _ _ _ _ ?_);refine wpAny_newFunctionEnv_cells S.kind hkind fun env he s1 x=>?_;subst he;refine ⟨lim.keeps x.toInCall.keep,codeAny_func ?_⟩;obtain ⟨t,ht,hq⟩:=hbody A outer s H vs Q E (hr.deeper _) hsp;have I:Inv (Vg CX P w K mg base N qual scope f cdv A outer s H E) [] (start N vs) H s1:=_kC S hr.hd e0 hl r x;refine Rg (ht [] s1 (start N vs) H _ I hq) (fun fl s' hs=>?_) fun e s' hs=>hs
 have fin:∀{σ':St} {H':Hp} {v:V} {u:Value},Inv (Vg CX P w K mg base N qual scope f cdv A outer s H E) [] σ' H' s'->RelV v u->Q v H'->CE outer P w H s Q u s' :=
  fun {σ' H' v u} J rv q=>⟨v,H',J.os,J.bare,J.base,J.hok,rv,q⟩
 cases fl with
 |ret u =>
  obtain ⟨v,σ',H',J,rv,q⟩:=hs;exact fin J rv q
 |next =>
  obtain ⟨σ',H',J,q⟩:=hs;exact fin (v:=V.non) (u:=Value.none) J rfl q
 |brk =>
  obtain ⟨_,_,_,q⟩:=hs;exact False.elim q
 |cont =>
  obtain ⟨_,_,_,q⟩:=hs;exact False.elim q
section
variable {x:Str} {p:Pos} {t:TA} {id T:String} {r:List V->Hp->VK->Prop}
def tCB (r:List V->Hp->VK->Prop) (t:TA):TE:=fun σ H Q=>t σ H fun vs H1=>r vs H1 Q
theorem _X (hc:YE X (.builtin id) r) (hg:Gl X x) (hm:X.mg x=none) (hv:bootBuiltins x=some (.builtin id)) (ha:PA X (e::es) t) (hn:x≠"__name__":=by decide) (hdb:(x==("__debug__": Str))=false:=by decide)
 (he:starEach (e::es) X.env=(false,eval e X.env)::starEach es X.env:=by rfl) (hpl:(backTo pos (starEach es X.env)).any (·.1)=false:=by rfl):PE X (.Call (.Name x p) (e::es) [] pos) (tCB r t):=by
 intro pins s σ H Q I h;refine Rl (Vs I hg hm hv ?_ hn hdb);exact PyProof.Rows.callWith_builtin1 (_m (ha pos pins s σ H _ I h) fun us s1 ⟨vs,H1,I1,r1,q1⟩=>hc pins s1 σ H1 vs us Q I1 r1 q1) he hpl
theorem UW (hc:YE X (.type T) r) (hg:Gl X x) (hm:X.mg x=none) (hv:bootBuiltins x=some (.type T)) (ha:PA X (e::es) t) (hn:x≠"__name__":=by decide) (hdb:(x==("__debug__": Str))=false:=by decide)
 (he:starEach (e::es) X.env=(false,eval e X.env)::starEach es X.env:=by rfl) (hpl:(backTo pos (starEach es X.env)).any (·.1)=false:=by rfl):PE X (.Call (.Name x p) (e::es) [] pos) (tCB r t):=by
 intro pins s σ H Q I h;refine Rl (Vs I hg hm hv ?_ hn hdb);exact Gr (_m (ha pos pins s σ H _ I h) fun us s1 ⟨vs,H1,I1,r1,q1⟩=>hc pins s1 σ H1 vs us Q I1 r1 q1) he hpl
end
end L2
namespace HT
open PySem PyProof.Rows
section
open PySem.SeqAt
open PySem.AutoSeq1 (wpAny_loadPart')
open PySem.MeetsSeq PySem.MeetsSeq2 PySem.MeetsSeq3
end
section
variable {prog:Program} {w:World} {A:Around} {E:Value->Shared->Prop} {s:Shared}
theorem cat_tup {t b:Addr} {vs ws:List Value} {Q:Value->Shared->Prop} (ht:IsTup s.heap t vs.toArray) (hb:IsTup s.heap b ws.toArray) (hv:vs≠[])
  (h1:ws=[]->Q (.ref t) s) (h2:ws≠[]->Q (.ref s.heap.objs.size) { s with heap:=s.heap.push { cls:=.type "tuple",data:=.seq (vs++ws).toArray } })
  (hsz:vs.length+ws.length≤sizeLine):wpAny (model prog w) A (binaryOp .Add (.ref t) (.ref b)) Q E s:=by
 obtain ⟨⟨cls,dd,data,sl⟩,ho,hc,n,hd⟩:=id ht;obtain ⟨⟨cls2,dd2,data2,sl2⟩,ho2,hc2,n2,hd2⟩:=id hb;simp only at hc hd hc2 hd2;subst hc hd hc2 hd2;have e:vs.toArray++ws.toArray=(vs++ws).toArray:=by simp
 by_cases hw:ws=[]
 ·exact GU ⟨_,ho,rfl⟩ ⟨_,ho2,rfl⟩ NB seq_tuple_add NC ND (NE _ _)
   (tuple_addW1 t b vs.toArray ws.toArray n n2 dd dd2 sl sl2 (by simpa using hv) (by simp [hw])) ⟨ho,ho2,h1 hw⟩
 ·refine GU ⟨_,ho,rfl⟩ ⟨_,ho2,rfl⟩ NB seq_tuple_add NC ND (NE _ _)
   (tuple_addW2 t b vs.toArray ws.toArray n n2 dd dd2 sl sl2 (by simpa using hv) (by simpa using hw) (by rw [Qv,Qv];exact hsz)) ⟨ho,ho2,?_⟩
  rw [e];exact h2 hw
noncomputable def sIx (n d:Nat):Option Int->Nat
 |none=>d
 |some v=>if v<0 then (v+(n:Int)).toNat else min v.toNat n
theorem sIx_none (n d:Nat):sIx n d none=d:=rfl
theorem sIx_nat (n d k:Nat):sIx n d (some (k:Int))=min k n:=by
 show (if (k:Int)<0 then ((k:Int)+(n:Int)).toNat else min (k:Int).toNat n)=min k n;rw [Qa (by omega),Gb]
theorem _mz (n d:Nat) (hd:d≤n) (o:Option Int):sIx n d o≤n:=by
 cases o with
 |none=>exact hd
 |some v =>
  show (if v<0 then (v+(n:Int)).toNat else min v.toNat n)≤n;by_cases hv:v<0
  ·rw [Qb hv];omega
  ·rw [Qa hv];exact Nat.min_le_right _ _
theorem _gG (v:Int) (n d:Nat):(if v<0 then max (v+(n:Int)) 0 else min v (n:Int))=((sIx n d (some v):Nat):Int):=by
 show (if v<0 then max (v+(n:Int)) 0 else min v (n:Int))=(((if v<0 then (v+(n:Int)).toNat else min v.toNat n):Nat):Int);by_cases hv:v<0
 ·simp only [Qb hv];omega
 ·simp only [Qa hv];omega
theorem _lj (lo hi:Option Int) (n:Nat):Builtin.Slice.sliceAdjust lo hi 1 (n:Int)=(((sIx n 0 lo:Nat):Int),((sIx n n hi:Nat):Int)):=by
 have h1:¬((1:Int)<0):=by omega
 unfold Builtin.Slice.sliceAdjust;simp only [h1,Q6];refine Rh ?_ ?_
 ·cases lo with
  |none=>rfl
  |some v=>exact _gG v n 0
 ·cases hi with
  |none=>rfl
  |some v=>exact _gG v n n
theorem _k3 (i j:Nat):Builtin.Slice.slicePlaces (i:Int) (j:Int) 1=j-i:=by
 unfold Builtin.Slice.slicePlaces;have h1:(1:Int) > 0:=by omega
 simp only [h1,RF,Int.ediv_one];split<;>omega
theorem _f8 {v:Value} {o:Option Int} {Q:Option Int->Shared->Prop} (p:IsPart v o) (h:Q o s):wpAny (model prog w) A (Builtin.Slice.slicePartIndex v) Q E s:=by
 cases p with
 |none=>exact slicePart_none h
 |int i t=>exact slicePart_int h
theorem _mZ {sl:Addr} {vl vu:Value} {lo hi:Option Int} {n:Nat} {Q:Int×Int×Nat->Shared->Prop} (hs:s.heap.IsSliceOf sl vl vu .none) (pl:IsPart vl lo) (pu:IsPart vu hi)
  (h:Q (((sIx n 0 lo:Nat):Int),1,sIx n n hi-sIx n 0 lo) s):wpAny (model prog w) A (Builtin.Slice.sliceApplied (.ref sl) (pure (n:Int))) Q E s:=by
 obtain ⟨os,hos,hcs,hds⟩:=id hs;unfold Builtin.Slice.sliceApplied Builtin.Slice.sliceFields;refine Qd (Qd (QM hos hds (x:=vl) rfl (Qd (QM hos hds (x:=vu) rfl (Qd (QM hos hds (x:=.none) rfl (Qf ?_)))))));refine Qd (slicePart_none ?_);show wpAny _ _ (if ((1:Int)==0)=true then _ else _) _ _ s;rw [Qa (by decide)];refine Qd (_f8 pl (Qd (_f8 pu (Qd (Qf ?_)))));show wpAny _ _ (match Builtin.Slice.sliceAdjust lo hi 1 (n:Int) with|(lo,hi)=>pure (lo,(1:Int),Builtin.Slice.slicePlaces lo hi 1)) _ _ s;rw [_lj lo hi n];show wpAny _ _ (pure (((sIx n 0 lo:Nat):Int),(1:Int),Builtin.Slice.slicePlaces ((sIx n 0 lo:Nat):Int) ((sIx n n hi:Nat):Int) 1)) _ _ s;rw [_k3];exact Qf h
theorem _og (xs:Array Value) (i k:Nat):((List.range k).filterMap fun (m:Nat)=>xs[((i:Int)+(m:Int)*1).toNat]?).toArray=((xs.toList.drop i).take k).toArray:=by
 have e:(fun (m:Nat)=>xs[((i:Int)+(m:Int)*1).toNat]?)=fun m=>xs[i+m]?:=by
  funext m
  have:((i:Int)+(m:Int)*1).toNat=i+m:=by omega
  rw [this]
 rw [e];have:=pick_run xs i k;rw [Rx] at this;have e2:((fun x=>xs[x]?)∘fun x=>i+x)=fun m=>xs[i+m]?:=rfl;rw [e2] at this;rw [this]
theorem getItem_tuple_cut {t sl:Addr} {items:Array Value} {vl vu:Value} {lo hi:Option Int} {Q:Value->Shared->Prop} (ht:IsTup s.heap t items) (hs:s.heap.IsSliceOf sl vl vu .none) (pl:IsPart vl lo) (pu:IsPart vu hi)
  (hw:¬(sIx items.size 0 lo=0∧sIx items.size items.size hi=items.size))
  (h:Q (.ref s.heap.objs.size) { s with heap:=s.heap.push { cls:=.type "tuple",data:=.seq ((items.toList.drop (sIx items.size 0 lo)).take (sIx items.size items.size hi-sIx items.size 0 lo)).toArray } })
  (hsz:items.size≤sizeLine):wpAny (model prog w) A (getItem (.ref t) (.ref sl)) Q E s:=by
 have htake:sizeOk (.seq ((items.toList.drop (sIx items.size 0 lo)).take (sIx items.size items.size hi-sIx items.size 0 lo)).toArray):=by
  show ((items.toList.drop (sIx items.size 0 lo)).take (sIx items.size items.size hi-sIx items.size 0 lo)).toArray.size≤sizeLine;rw [Qv,Rk,NF,Ga];omega
 have hj:sIx items.size items.size hi≤items.size:=_mz _ _ (Qe _) hi;obtain ⟨os,hos,hcs,hds⟩:=id hs;have hTs:s.TypeIs (.ref sl) "slice":=⟨os,hos,hcs⟩;unfold getItem
 try with_reducible refine Q5 ?_
 first|refine Qd (Qf ?_)|skip
 refine Qd (wpAny_sequenceKey ht.typeIs (by decide) ?_)
 refine Qd (RG (name:=Str.ofString "__getitem__") ht.typeIs NG
  (Rq NG ht.typeIs entry_tuple_getitem ?_ (args_tuple_getitem _ _)))
 show wpAny _ _ (Builtin.Tuple.tupleItemsOf (.ref t) >>= _) _ _ s;refine Qd (tupleItemsOf_ ht ?_);refine Qd (wpAny_typeOf hTs ?_);rw [Qb (by decide)];refine Qd (_mZ hs pl pu ?_)
 have hno:¬((((sIx items.size 0 lo:Nat):Int)==0&&(1:Int)==1&&(sIx items.size items.size hi-sIx items.size 0 lo)==items.size)=true):=by
  intro q;rw [R1,R1] at q;have q1:((sIx items.size 0 lo:Nat):Int)=0:=eq_of_beq q.1.1;have q2:sIx items.size items.size hi-sIx items.size 0 lo=items.size:=eq_of_beq q.2;exact hw ⟨by omega,by omega⟩
 show wpAny _ _ (if (((sIx items.size 0 lo:Nat):Int)==0&&(1:Int)==1&&(sIx items.size items.size hi-sIx items.size 0 lo)==items.size)=true then _ else _) _ _ s;rw [Qa hno,_og]
 first
  |exact Qd (m:=Builtin.Tuple.tupleExact _) (Rr (Qf ⟨_,rfl,Qf h⟩) htake)
  |exact Qd (m:=Builtin.Tuple.tupleExact _) (Rr (Qd (Qf (Qf ⟨_,rfl,Qf h⟩))) htake)
  |exact Qd (Qd (m:=Builtin.Tuple.tupleExact _) (Rr (Qf (Qf ⟨_,rfl,Qf h⟩)) htake))
  |exact Qd (Qd (m:=Builtin.Tuple.tupleExact _) (Rr (Qf ⟨_,rfl,Qf h⟩) htake))
end
end HT
namespace L2
open PySem PySem.Spec PyProof.Rows
variable {a b:Addr} {A:Around} {X:Cx} {e:Expr} {H H':Hp} {pins:List (Addr×Obj)} {xs:List (List _l×Addr×Value)} {kvs:List (List _l×V)} {its:List Value} {n t':Nat} {o:Option V} {pos:Pos} {P:Program} {s:Shared} {σ:St} {T:String} {y:V} {u:Value} {E Q:Value->Shared->Prop}
abbrev TO:=St->Hp->(Option Int->Hp->Prop)->Prop
def PO (X:Cx) (e:Option Expr) (t:TO):Prop :=
 ∀(pins:List (Addr×Obj)) (s:Shared) (σ:St) (H:Hp) (Q:Option Int->Hp->Prop),Inv X pins σ H s->t σ H Q →
  wpAny (model X.prog X.w) X.A (evalPart e X.env) (fun u s'=>∃o H',Inv X pins σ H' s'∧IsPart u o∧Q o H') X.xe s
def _eO:TO:=fun _ H Q=>Q none H
def _p0 (t:TE):TO:=fun σ H Q=>t σ H fun x H1=>∃i,x=.int i∧Q (some i) H1
theorem _pr {ns:List Int}:∀{us:List Value},Vals (ns.map V.int) us->IntsAre us ns:=by
 induction ns with
 |nil=>intro us r;rw [Gu] at r;cases r;exact .nil
 |cons n ns ih =>
  intro us r;rw [Qw] at r;cases r with
  |cons r1 r2 =>
   obtain ⟨t,e⟩:=r1;subst e;exact .cons n t (ih r2)
section
variable {te:TE} {lo hi:Option Expr} {tl th:TO} {p2:Pos}
theorem VY:PO X none _eO:=by
 intro pins s σ H Q I h;rw [evalPart_none];exact Qf ⟨none,H,I,.none,h⟩
theorem XM (h:PE X e te):PO X (some e) (_p0 te):=by
 intro pins s σ H Q I hw;rw [evalPart_some];refine _m (h pins s σ H _ I hw) fun u s1 ⟨x,H1,I1,r1,q1⟩=>?_;obtain ⟨i,rfl,q⟩:=q1;obtain ⟨t,rfl⟩:=r1;exact ⟨some i,H1,I1,.int i t,q⟩
def SlR (X:Cx) (r:V->Option Int->Option Int->Hp->VK->Prop):Prop :=
 ∀(pins:List (Addr×Obj)) (s:Shared) (σ:St) (H:Hp) (x:V) (v vl vu:Value) (lo hi:Option Int) (sl:Addr) (Q:VK),Inv X pins σ H s->RelV x v->s.heap.IsSliceOf sl vl vu .none->IsPart vl lo->IsPart vu hi->r x lo hi H Q →
  ∃T id,typeLookup (.type T) "__getitem__"=pure (some (.builtin id))∧s.TypeIs v T∧wpAny (model X.prog X.w) X.A (getItem v (.ref sl)) (EP X pins σ Q) X.xe s
def tSl (r:V->Option Int->Option Int->Hp->VK->Prop) (te:TE) (tl th:TO):TE:=fun σ H Q=>te σ H fun x H1=>tl σ H1 fun l H2=>th σ H2 fun u H3=>r x l u H3 Q
theorem WA {r:V->Option Int->Option Int->Hp->VK->Prop} (hr:SlR X r) (he:PE X e te) (hl:PO X lo tl) (hu:PO X hi th):PE X (.Subscript e (.Slice lo hi none p2) pos) (tSl r te tl th):=by
 intro pins s σ H Q I h;refine Subscript_ (_m (he pins s σ H _ I h) fun v s1 ⟨x,H1,I1,r1,q1⟩=>?_);refine wpAny_Slice (_m (hl pins s1 σ H1 _ I1 q1) fun vl s2 ⟨l,H2,I2,pl,q2⟩=>_m (hu pins s2 σ H2 _ I2 q2) fun vu s3 ⟨u,H3,I3,pu,q3⟩=>?_);rw [evalPart_none];refine Qf ?_;have I4:Inv X pins σ H3 { s3 with heap:=s3.heap.push { cls:=.type "slice",data:=.fields #[vl,vu,.none] } }:=I3.kept (t':=s3.toks) fun b ob q=>Ql _ q;obtain ⟨T,id,hT,ht,hg⟩:=hr pins { s3 with heap:=s3.heap.push { cls:=.type "slice",data:=.fields #[vl,vu,.none] } } σ H3 x v vl vu l u s3.heap.objs.size Q I4 r1 (Heap.IsSliceOf.new ..) pl pu q3;show wpAny (model X.prog X.w) X.A (subscriptTail e (.Slice lo hi none p2) v (.ref s3.heap.objs.size)) (EP X pins σ Q) X.xe { s3 with heap:=s3.heap.push { cls:=.type "slice",data:=.fields #[vl,vu,.none] } };exact tail_any (ops:=[.ref s3.heap.objs.size,v]) ht hT hg (by with_unfolding_all rfl)
noncomputable def YG (xs:List V) (lo hi:Option Int):List V:=(xs.drop (HT.sIx xs.length 0 lo)).take (HT.sIx xs.length xs.length hi-HT.sIx xs.length 0 lo)
theorem _hQ (xs:List V) (lo hi:Option Int):(YG xs lo hi).length≤xs.length:=by
 unfold YG;rw [Rk,NF];omega
def _gF (K:W.Frag):V->Option Int->Option Int->Hp->VK->Prop:=fun x lo hi H Q=>∃a xs,x=.ref a∧SqT K H a xs ∧
 ¬(HT.sIx xs.length 0 lo=0∧HT.sIx xs.length xs.length hi=xs.length)∧∀p,H p=none->Q (.ref p) (_c H p (.tup (YG xs lo hi)))
theorem _bu:SlR X (_gF X.K):=by
 intro pins s σ H x v vl vu lo hi sl Q I rx hs pl pu h;obtain ⟨a,xs,rfl,hx,hw,q⟩:=h;cases rx;obtain ⟨its,r,ht,hz⟩:=I.tuple hx;have hlen:its.toArray.size=xs.length:=by rw [Qv];exact r.length.symm
 refine ⟨"tuple",_,NG.lookup,ht.typeIs,?_⟩;refine HT.getItem_tuple_cut ht hs pl pu (by rw [hlen];exact hw) ?_ (by rw [hlen];exact hz);rw [hlen];refine ⟨.ref s.heap.objs.size,_,I.laid (t':=s.toks) (o:=.tup (YG xs lo hi)) (fun b ob q=>Ql _ q) (Qe _) ?_,rfl,q _ (I.hok.fresh (Qe _))⟩;exact ⟨Qk (_hQ xs lo hi) hz,_,(r.drop (HT.sIx xs.length 0 lo)).take (HT.sIx xs.length xs.length hi-HT.sIx xs.length 0 lo),IsTup.new _ _⟩
def _nv (K:W.Frag):R2:=fun x y H Q=>∃a b xs ys,x=.ref a∧y=.ref b∧SqT K H a xs∧SqT K H b ys∧xs≠[]∧xs.length+ys.length≤sizeLine ∧
 (ys=[]->Q (.ref a) H)∧(ys≠[]->∀p,H p=none->Q (.ref p) (_c H p (.tup (xs++ys))))
theorem Vals.nil_iff {xs:List V} {us:List Value} (r:Vals xs us):us=[]↔xs=[]:=by
 cases r with
 |nil=>simp
 |cons _ _=>simp
theorem _g3:_9 X (binaryOp .Add) (_nv X.K):=by
 intro pins s σ H x y v u Q I rx ry h;obtain ⟨a,b,xs,ys,rfl,rfl,ha,hb,hx,hz,q1,q2⟩:=h;cases rx;cases ry;obtain ⟨its,r1,p1,_⟩:=I.tuple ha;obtain ⟨its2,r2,p2,_⟩:=I.tuple hb;refine HT.cat_tup p1 p2 (fun z=>hx (r1.nil_iff.mp z)) (fun z=>⟨.ref a,H,I,rfl,q1 (r2.nil_iff.mp z)⟩) (fun z=>?_) (by rw [←r1.length,←r2.length];exact hz);refine ⟨.ref s.heap.objs.size,_,I.laid (t':=s.toks) (o:=.tup (xs++ys)) (fun b ob q=>Ql _ q) (Qe _) ?_,rfl,q2 (fun w=>z (r2.nil_iff.mpr w)) _ (I.hok.fresh (Qe _))⟩;exact ⟨by rw [Qm];exact hz,_,r1.append r2,IsTup.new _ _⟩
end
noncomputable def Wa (n:Nat) (i:Int):Option Nat:=if 0≤i then (if i<n then some i.toNat else none) else if -(n:Int)≤i then some (i+n).toNat else none
noncomputable def Yk {α:Type} (xs:List α) (i:Int):Option α:=(Wa xs.length i).bind fun j=>xs[j]?
theorem _ir {i:Int} {j:Nat} (h:Wa n i=some j):seqIndex? i n=some j∧j<n∧-(n:Int)≤i∧i<n:=by
 unfold Wa at h;by_cases h0:0≤i
 ·rw [Qb h0] at h;by_cases h1:i<n
  ·rw [Qb h1] at h;have e:i.toNat=j:=Qn h;exact ⟨by rw [seqIndex_of h0 h1,e],by omega,by omega,h1⟩
  ·rw [Qa h1] at h;cases h
 ·rw [Qa h0] at h;by_cases h1:-(n:Int)≤i
  ·rw [Qb h1] at h;have e:(i+n).toNat=j:=Qn h;exact ⟨by rw [seqIndex_neg (by omega) h1,e],by omega,h1,by omega⟩
  ·rw [Qa h1] at h;cases h
theorem _e1 {α:Type} {xs:List α} {i:Int} {v:α} (h:Yk xs i=some v):∃j,seqIndex? i xs.length=some j∧xs[j]?=some v∧j<xs.length∧-(xs.length:Int)≤i∧i<xs.length:=by
 unfold Yk at h;cases e:Wa xs.length i with
 |none=>rw [e] at h;cases h
 |some j =>
  rw [e] at h;obtain ⟨h1,h2,h3,h4⟩:=_ir e;exact ⟨j,h1,h,h2,h3,h4⟩
theorem Wg {α:Type} {xs:List α} {j:Nat} {v:α} (h:xs[j]?=some v):Yk xs (j:Int)=some v:=by
 have hj:j<xs.length:=(Qz.mp h).1
 have e:Wa xs.length (j:Int)=some j:=by
  unfold Wa;rw [Qb (by omega),Qb (by omega)];simp
 unfold Yk;rw [e];exact h
theorem _kr {α:Type} (xs:List α) (v:α):Yk (xs++[v]) (-1)=some v:=by
 have hl:(xs++[v]).length=xs.length+1:=by simp
 have e:Wa (xs++[v]).length (-1)=some xs.length:=by
  unfold Wa;rw [hl,Qa (by decide),Qb (by omega)]
  congr 1
  omega
 unfold Yk;rw [e];show (xs++[v])[xs.length]?=some v;simp
def _jg (b:Expr):Prop:=∀o i,subscripted b false o i=operate [o,i] (getItem o i)
def Uq (X:Cx) (r:R2):Prop :=
 ∀(value slice:Expr) (pins:List (Addr×Obj)) (s:Shared) (σ:St) (H:Hp) (x y:V) (v u:Value) (Q:VK),Inv X pins σ H s->RelV x v->RelV y u->r x y H Q →
  subscripted slice false v u=operate [v,u] (getItem v u)->wpAny (model X.prog X.w) X.A (subscriptTail value slice v u) (EP X pins σ Q) X.xe s
def MtR (X:Cx) (id:String) (r:V->List V->Hp->VK->Prop):Prop :=
 ∀(pins:List (Addr×Obj)) (s:Shared) (σ:St) (H:Hp) (x:V) (xs:List V) (v:Value) (us:List Value) (Q:VK),Inv X pins σ H s->RelV x v->Vals xs us->r x xs H Q →
  wpAny (model X.prog X.w) X.A (call (.builtin id) (v::us)) (EP X pins σ Q) X.xe s
section
variable {a b:Expr} {ta tb:TE}
theorem _n {r:R2} (hr:Uq X r) (ha:PE X a ta) (hb:PE X b tb) (hs:_jg b):PE X (.Subscript a b pos) (WY r ta tb):=by
 intro pins s σ H Q I h;exact Subscript_ (_b9 ha hb I h fun v u s2 x y H2 I2 rx ry q=>hr a b pins s2 σ H2 x y v u Q I2 rx ry q (hs _ _))
def _fC (K:W.Frag):R2:=fun x y H Q=>∃p xs i v,x=.ref p∧y=.int i∧SqL K H p xs∧Yk xs i=some v∧Q v H
def _ez (K:W.Frag):R2:=fun x y H Q=>∃p xs i v,x=.ref p∧y=.int i∧SqT K H p xs∧Yk xs i=some v∧Q v H
def _ov:R2:=fun x y H Q=>∃z i c,x=.str z∧y=.int i∧z.length≤sizeLine∧Yk z.cps.toList i=some c∧Q (.str ⟨#[c]⟩) H
theorem Yl:Uq X (_fC X.K):=by
 intro value slice pins s σ H x y v u Q I rx ry h hs;obtain ⟨p,xs,i,z,rfl,rfl,hq,he,q⟩:=h;cases rx;obtain ⟨t,rfl⟩:=ry;obtain ⟨its,r,pl,hz⟩:=I.list hq;obtain ⟨j,h1,h2,h3,h4,h5⟩:=_e1 he;obtain ⟨w,ew,rw'⟩:=r.get h2;have hl:=r.length;have hn:=VD;have fin:EP X pins σ Q w s:=⟨z,H,I,rw',q⟩;by_cases h0:0≤i
 ·have hj:i.toNat=j:=by
   rw [seqIndex_of h0 h5] at h1;exact Qn h1
  exact item_listR pl.isList h0 (by omega) (by rw [hj];simpa using ew) fin hs
 ·have hj:(i+(its.toArray.size:Int)).toNat=j:=by
   rw [seqIndex_neg (by omega) h4] at h1;rw [Qv,←hl];exact Qn h1
  exact subscriptTail_builtinR (x:=w) pl.isList.typeIs slot_list_getitem.lookup
   (wpAny_getItem_list_neg (Q:=fun r s'=>r=w∧EP X pins σ Q r s') pl.isList (by omega) (by rw [Qv]<;>omega) (by omega) (by rw [hj];simpa using ew) ⟨rfl,fin⟩) hs
theorem _v:Uq X (_ez X.K):=by
 intro value slice pins s σ H x y v u Q I rx ry h hs;obtain ⟨p,xs,i,z,rfl,rfl,hq,he,q⟩:=h;cases rx;obtain ⟨t,rfl⟩:=ry;obtain ⟨its,r,pl,hz⟩:=I.tuple hq;obtain ⟨j,h1,h2,h3,h4,h5⟩:=_e1 he;obtain ⟨w,ew,rw'⟩:=r.get h2;have hl:=r.length;have hn:=VD;have fin:EP X pins σ Q w s:=⟨z,H,I,rw',q⟩
 exact subscriptTail_builtinR (x:=w) pl.typeIs slot_tuple_getitem.lookup
  (getItem_tuple (j:=j) (Q:=fun r s'=>r=w∧EP X pins σ Q r s') pl (by omega) (by omega) (by rw [Qv,←hl];exact h1) (by simpa using ew) ⟨rfl,fin⟩) hs
theorem _iB:Uq X _ov:=by
 intro value slice pins s σ H x y v u Q I rx ry h hs;obtain ⟨z,i,c,rfl,rfl,hz,he,q⟩:=h;obtain ⟨t,rfl⟩:=rx;obtain ⟨t',rfl⟩:=ry;obtain ⟨j,h1,h2,h3,h4,h5⟩:=_e1 he;have hl:z.cps.toList.length=z.length:=by simp [Str.length]
 rw [hl] at h1 h4 h5;have hn:=VD
 exact tail_any (Gc s z t) slot_str_getitem.lookup (getItem_str (c:=c) (by
  have e1:decide (i< -(2 ^ 63:Int))=false:=Qs (by omega);have e2:decide (i ≥ 2 ^ 63)=false:=Qs (by omega);rw [e1,e2,Bool.or_false]) (by rw [h1];simpa using h2) ⟨.str ⟨#[c]⟩,H,I.tok _,⟨_,rfl⟩,q⟩) hs
theorem _j4 (its:List Value) (n j:Nat) (u:Value):Obj.mapSeq (·.setIfInBounds j u) { cls:=.type "list",data:=.seq its.toArray n }={ cls:=.type "list",data:=.seq (its.set j u).toArray n }:=by
 simp [Obj.mapSeq]
theorem Inv.lst {p:Addr} {xs:List V} (I:Inv X pins σ H s) (h:H p=some (.lst xs)) :
  ∃(its:List Value) (n:Nat),Vals xs its∧s.heap.get? p=some { cls:=.type "list",data:=.seq its.toArray n }∧xs.length≤sizeLine:=by
 obtain ⟨z,its,n,r,e⟩:=I.hok p _ h;exact ⟨its,n,r,e,z⟩
theorem Inv.lstUpd {p:Addr} {xs ys:List V} {its':List Value} {n':Nat} {f:Obj->Obj} (I:Inv X pins σ H s) (h:H p=some (.lst xs))
 (ho:s.heap.get? p=some { cls:=.type "list",data:=.seq its.toArray n }) (hf:f { cls:=.type "list",data:=.seq its.toArray n }={ cls:=.type "list",data:=.seq its'.toArray n' }) (r:Vals ys its') (hz:ys.length≤sizeLine) (t:Nat) :
  Inv X pins σ (_c H p (.lst ys)) { s with heap:=s.heap.update p f,toks:=t }:=by
 have e:(s.heap.update p f).get? p=some { cls:=.type "list",data:=.seq its'.toArray n' }:=by
  rw [NH f ho (by rw [hf]<;>rfl),hf]
 refine I.write (x:=p) (e:=p) (by rw [h];trivial) (.inl rfl) (fun b u hb q=>(Heap.get?_update_other _ _ (Q4 hb)).trans q) ⟨_,e⟩ ?_;exact ⟨hz,its',n',r,e⟩
def _ms:V->V->V->Hp->(Hp->Prop)->Prop:=fun o i v H Q=>∃p xs k j,o=.ref p∧i=.int k∧H p=some (.lst xs)∧Wa xs.length k=some j∧Q (_c H p (.lst (xs.set j v)))
theorem _nJ:_ih X _ms:=by
 intro pins s σ H o i v ov iv u Q I ro ri rv h;obtain ⟨p,xs,k,j,rfl,rfl,hp,hj,q⟩:=h;cases ro;obtain ⟨t,rfl⟩:=ri;obtain ⟨its,n,r,ho,hz⟩:=I.lst hp;obtain ⟨h1,h2,h3,h4⟩:=_ir hj;have hl:=r.length;have hn:=VD
 have I':Inv X pins σ (_c H p (.lst (xs.set j v))) { s with heap:=s.heap.update p (Obj.mapSeq (·.setIfInBounds j u)) } :=
  I.lstUpd hp ho (_j4 its n j u) (r.set rv j) (by rw [List.length_set];exact hz) s.toks
 by_cases h0:0≤k
 ·have hk:k.toNat=j:=by
   rw [seqIndex_of h0 h4] at h1;exact Qn h1
  exact W.ki_setAt ho h0 (by omega) (by rw [Qv,←hl];exact h4) (by rw [hk];exact ⟨_,I',q⟩)
 ·have hk:(k+(its.toArray.size:Int)).toNat=j:=by
   rw [seqIndex_neg (by omega) h3] at h1;rw [Qv,←hl];exact Qn h1
  exact W.ki_setBack ho (by omega) (by rw [Qv,←hl];exact h3) (by omega) (by rw [hk];exact ⟨_,I',q⟩)
theorem _qb (lo hi:Option Int) (n:Nat):(sliceBounds lo hi none n).1=((HT.sIx n 0 lo:Nat):Int)∧(sliceBounds lo hi none n).2.1=((HT.sIx n n hi:Nat):Int)∧(sliceBounds lo hi none n).2.2=1:=by
 refine ⟨?_,?_,rfl⟩
 ·cases lo with
  |none=>simp [sliceBounds,HT.sIx]
  |some i =>
   simp only [sliceBounds,HT.sIx,Option.getD_none,show (1:Int) > 0 by decide,RF];by_cases h:i<0
   ·simp only [h,RF]<;>omega
   ·simp only [h,Q6]<;>omega
 ·cases hi with
  |none=>simp [sliceBounds,HT.sIx]
  |some i =>
   simp only [sliceBounds,HT.sIx,Option.getD_none,show (1:Int) > 0 by decide,RF];by_cases h:i<0
   ·simp only [h,RF]<;>omega
   ·simp only [h,Q6]<;>omega
theorem _n3 (its:List Value) (lo hi:Option Int):slicePick its.toArray lo hi none=((its.drop (HT.sIx its.length 0 lo)).take (HT.sIx its.length its.length hi-HT.sIx its.length 0 lo)).toArray:=by
 obtain ⟨h1,h2,h3⟩:=_qb lo hi its.toArray.size;unfold slicePick;rw [h1,h2,h3];simp only [sliceRange_one,pick_run,Qv]<;>rfl
def _lc (K:W.Frag):V->Option Int->Option Int->Hp->VK->Prop:=fun x lo hi H Q=>∃a xs,x=.ref a∧SqL K H a xs∧∀p,H p=none->Q (.ref p) (_c H p (.lst (YG xs lo hi)))
theorem U2:SlR X (_lc X.K):=by
 intro pins s σ H x v vl vu lo hi sl Q I rx hs pl pu h;obtain ⟨a,xs,rfl,hx,q⟩:=h;cases rx;obtain ⟨its,r,ht,hz⟩:=I.list hx;have hlen:=r.length;refine ⟨"list",_,slot_list_getitem.lookup,ht.isList.typeIs,?_⟩;refine wpAny_getItem_list_slice ht.isList hs pl pu .none (by simp) ?_ (by rw [Qv]<;>omega);rw [_n3,←hlen];refine ⟨.ref s.heap.objs.size,_,I.laid (t':=s.toks) (o:=.lst (YG xs lo hi)) (fun b ob q=>Ql _ q) (Qe _) ?_,rfl,q _ (I.hok.fresh (Qe _))⟩;exact ⟨Qk (_hQ xs lo hi) hz,_,0,(r.drop (HT.sIx xs.length 0 lo)).take (HT.sIx xs.length xs.length hi-HT.sIx xs.length 0 lo),Qu _ rfl⟩
noncomputable def Wk:V->Bool
 |.non=>true
 |.bl _=>true
 |.int _=>true
 |.str _=>true
 |_=>false
noncomputable def Xl:V->V->Bool
 |.non,.non=>true
 |.bl a,.bl b=>a==b
 |.bl a,.int b=>(if a then 1 else 0)==b
 |.int a,.bl b=>a==(if b then 1 else 0)
 |.int a,.int b=>a==b
 |.str a,.str b=>a==b
 |_,_=>false
theorem _jm {x:V} {v:Value} (ry:RelV y u) (rx:RelV x v) (fy:Wk y=true) (fx:Wk x=true):SeqAt.EqAt A s u v (Xl y x):=by
 cases y with
 |non =>
  cases ry;cases x with
  |non=>cases rx;exact GV _
  |bl b=>cases rx;exact SeqAt.EqAt.none_bool b
  |int b=>obtain ⟨t,rfl⟩:=rx;exact SeqAt.EqAt.none_int b t
  |str b=>obtain ⟨t,rfl⟩:=rx;exact SeqAt.EqAt.none_str b t
  |_=>exact absurd (show false=true from fx) QG
 |bl a =>
  cases ry;cases x with
  |non=>cases rx;exact SeqAt.EqAt.bool_none a
  |bl b=>cases rx;exact SeqAt.EqAt.bool_bool a b
  |int b=>obtain ⟨t,rfl⟩:=rx;exact SeqAt.EqAt.bool_int a b t
  |str b=>obtain ⟨t,rfl⟩:=rx;exact SeqAt.EqAt.bool_str a b t
  |_=>exact absurd (show false=true from fx) QG
 |int a =>
  obtain ⟨t',rfl⟩:=ry;cases x with
  |non=>cases rx;exact SeqAt.EqAt.int_none a t'
  |bl b=>cases rx;exact SeqAt.EqAt.int_bool a t' b
  |int b=>obtain ⟨t,rfl⟩:=rx;exact SeqAt.EqAt.int_int a t' b t
  |str b=>obtain ⟨t,rfl⟩:=rx;exact Nq a t' b t
  |_=>exact absurd (show false=true from fx) QG
 |str a =>
  obtain ⟨t',rfl⟩:=ry;cases x with
  |non=>cases rx;exact SeqAt.EqAt.str_none a t'
  |bl b=>cases rx;exact SeqAt.EqAt.str_bool a t' b
  |int b=>obtain ⟨t,rfl⟩:=rx;exact Nr a t' b t
  |str b=>obtain ⟨t,rfl⟩:=rx;exact SeqAt.EqAt.str_str a t' b t
  |_=>exact absurd (show false=true from fx) QG
 |_=>exact absurd (show false=true from fy) QG
noncomputable def Xa (x:V) (u:Value):Bool:=match u with
 |.none=>Xl .non x
 |.bool b=>Xl (.bl b) x
 |.int i _=>Xl (.int i) x
 |.str z _=>Xl (.str z) x
 |_=>false
theorem _fd {x:V} (r:RelV y u) (f:Wk y=true):Xa x u=Xl y x:=by
 cases y with
 |non=>cases r;rfl
 |bl b=>cases r;rfl
 |int i=>obtain ⟨t,rfl⟩:=r;rfl
 |str z=>obtain ⟨t,rfl⟩:=r;rfl
 |_=>exact absurd (show false=true from f) QG
theorem JO {x:V}:∀{xs:List V} {us:List Value},Vals xs us->xs.all Wk=true->us.any (Xa x)=xs.any fun y=>Xl y x
 |_,_,.nil,_=>rfl
 |y::xs,u::us,.cons r t,f=>by
  rw [Gv,R1] at f;rw [Ra,Ra,_fd r f.1,JO t f.2]
theorem Uz {A:Around} {s:Shared} {x:V} {v:Value} (rx:RelV x v) (fx:Wk x=true):∀{xs:List V} {us:List Value},Vals xs us->xs.all Wk=true->∀u∈us,SeqAt.EqAt A s u v (Xa x u)
 |_,_,.nil,_=>fun u hu=>by cases hu
 |y::xs,u::us,.cons r t,f=>fun u' hu=>by
  rw [Gv,R1] at f;rcases Qj.mp hu with rfl|hu
  ·rw [_fd r f.1];exact _jm r rx f.1 fx
  ·exact Uz rx fx t f.2 u' hu
noncomputable def XB (x:V) (xs:List V):Bool:=xs.any fun y=>Xl y x
def rIn (K:W.Frag) (neg:Bool):R2:=fun x y H Q=>∃p xs,y=.ref p∧(SqL K H p xs∨SqT K H p xs)∧Wk x=true∧xs.all Wk=true∧Q (.bl (if neg then !XB x xs else XB x xs)) H
theorem W5:_9 X (compareOp .In) (rIn X.K false):=by
 intro pins s σ H x y v u Q I rx ry h;obtain ⟨p,xs,rfl,hq,fx,fs,q⟩:=h;cases ry;rcases hq with hq|hq
 ·obtain ⟨its,r,pl,hz⟩:=I.list hq;refine SeqAt.in_listAt (Xa x) pl.isList (fun w hw=>Uz rx fx r fs w (by simpa using hw)) ⟨.bl _,H,I,rfl,?_⟩;rw [show its.toArray.any (Xa x)=its.any (Xa x) by simp,JO r fs];exact q
 ·obtain ⟨its,r,pl,hz⟩:=I.tuple hq;refine SeqAt.in_tupleAt (Xa x) pl (fun w hw=>Uz rx fx r fs w (by simpa using hw)) ⟨.bl _,H,I,rfl,?_⟩;rw [show its.toArray.any (Xa x)=its.any (Xa x) by simp,JO r fs];exact q
theorem _gA:_9 X (compareOp .NotIn) (rIn X.K true):=by
 intro pins s σ H x y v u Q I rx ry h;obtain ⟨p,xs,rfl,hq,fx,fs,q⟩:=h;cases ry;rcases hq with hq|hq
 ·obtain ⟨its,r,pl,hz⟩:=I.list hq;refine SeqAt.notIn_listAt (Xa x) pl.isList (fun w hw=>Uz rx fx r fs w (by simpa using hw)) ⟨.bl _,H,I,rfl,?_⟩;rw [show its.toArray.any (Xa x)=its.any (Xa x) by simp,JO r fs];exact q
 ·obtain ⟨its,r,pl,hz⟩:=I.tuple hq;refine SeqAt.notIn_tupleAt (Xa x) pl (fun w hw=>Uz rx fx r fs w (by simpa using hw)) ⟨.bl _,H,I,rfl,?_⟩;rw [show its.toArray.any (Xa x)=its.any (Xa x) by simp,JO r fs];exact q
theorem YQ:YE X (.builtin "len") (fun xs H Q=>∃p ys,xs=[.ref p]∧(SqL X.K H p ys∨SqT X.K H p ys)∧Q (.int ys.length) H):=by
 intro pins s σ H xs us Q I r h;obtain ⟨p,ys,rfl,hq,q⟩:=h;obtain ⟨u,rfl,rx⟩:=Y8 r;cases rx;have hn:=VD;rcases hq with hq|hq
 ·obtain ⟨its,r',pl,hz⟩:=I.list hq;have hlen:=r'.length;exact Calls.call_len_list pl.isList (by simp only [Qv]<;>omega) ⟨.int ys.length,H,I.tok _,⟨s.toks+1,by rw [Qv,hlen]⟩,q⟩
 ·obtain ⟨its,r',pl,hz⟩:=I.tuple hq;have hlen:=r'.length;exact len_tuple pl (by simp only [Qv]<;>omega) ⟨.int ys.length,H,I.tok _,⟨s.toks+1,by rw [Qv,hlen]⟩,q⟩
theorem _h8:YE X (.builtin "len") (fun xs H Q=>∃z,xs=[.str z]∧z.length≤sizeLine∧Q (.int z.length) H):=by
 intro pins s σ H xs us Q I r h;obtain ⟨z,rfl,hz,q⟩:=h;obtain ⟨u,rfl,t,rfl⟩:=Y8 r;have hn:=VD;exact len_str (by omega) ⟨.int z.length,H,I.tok _,⟨_,rfl⟩,q⟩
theorem _kB:YE X (.type "list") (fun xs H Q=>∃p ys,xs=[.ref p]∧(SqL X.K H p ys∨SqT X.K H p ys)∧∀l,H l=none->Q (.ref l) (_c H l (.lst ys))):=by
 intro pins s σ H xs us Q I r h;obtain ⟨p,ys,rfl,hq,q⟩:=h;obtain ⟨u,rfl,rx⟩:=Y8 r;cases rx
 have fin : ∀(its : List Value), Vals ys its → ys.length ≤ sizeLine → ∀(h' : Heap) (c' : Nat), (∀b o', s.heap.get? b=some o' → h'.get? b=some o') →
   h'.get? s.heap.objs.size=some { cls:=.type "list",dict:=none,data:=.seq its.toArray c',slots:=#[] }->EP X pins σ Q (.ref s.heap.objs.size) { s with heap:=h' }:=fun its r' hz h' c' kp e =>
  ⟨.ref s.heap.objs.size,_,I.laid (t':=s.toks) kp (Qe _) (show ObjOk X.prog X.w _ h' _ (.lst ys) from ⟨hz,its,c',r',e⟩),rfl,q _ (I.hok.fresh (Qe _))⟩
 rcases hq with hq|hq
 ·obtain ⟨its,r',pl,hz⟩:=I.list hq;have hlen:=r'.length;obtain ⟨o,ho,hc,n,hd⟩:=pl.isList;exact call_list_seq p (.inl rfl) ho hc hd (fun h' c' kp e=>fin its r' hz h' c' kp e) (by simp only [Qv]<;>omega)
 ·obtain ⟨its,r',pl,hz⟩:=I.tuple hq;have hlen:=r'.length;obtain ⟨o,ho,hc,n,hd⟩:=pl;exact call_list_seq p (.inr rfl) ho hc hd (fun h' c' kp e=>fin its r' hz h' c' kp e) (by simp only [Qv]<;>omega)
theorem _hH:YE X (.type "tuple") (fun xs H Q=>∃p ys,xs=[.ref p]∧((SqL X.K H p ys∧∀l,H l=none->Q (.ref l) (_c H l (.tup ys)))∨(SqT X.K H p ys∧Q (.ref p) H))):=by
 intro pins s σ H xs us Q I r h;obtain ⟨p,ys,rfl,h⟩:=h;obtain ⟨u,rfl,rx⟩:=Y8 r;cases rx;rcases h with ⟨hq,q⟩|⟨hq,q⟩
 ·obtain ⟨its,r',pl,hz⟩:=I.list hq;have hlen:=r'.length;refine call_tuple_list pl.isList (fun h' kp=>?_) (by simp only [Qv]<;>omega);have I1:Inv X pins σ H { s with heap:=h' }:=I.kept (t':=s.toks) kp
  have I2:Inv X pins σ (_c H h'.objs.size (.tup ys)) { s with heap:=h'.push { cls:=.type "tuple",data:=.seq its.toArray } } :=
   I1.laid (t':=s.toks) (fun b o e=>Ql _ e) (Qe _) (show ObjOk X.prog X.w _ _ _ (.tup ys) from ⟨hz,its,r',IsTup.new _ _⟩)
  exact ⟨.ref h'.objs.size,_,I2,rfl,q _ (I1.hok.fresh (Qe _))⟩
 ·obtain ⟨its,r',pl,hz⟩:=I.tuple hq;exact call_tuple_same pl ⟨.ref p,H,I,rfl,q⟩
def tyV (K:W.Frag) (T:String) (x:V) (H:Hp):Prop:=match x with
 |.str _=>T="str"
 |.int _=>T="int"
 |.ref p => (T="list" ∧ ∃xs, SqL K H p xs) ∨ (T="tuple" ∧ ∃o, K.lookup p=some o ∧ o.cls=.type "tuple" ∧ o.dict=none) ∨
   (T="dict"∧((∃kvs,H p=some (.dK kvs))∨∃kvs,H p=some (.dT kvs)))∨(T="set"∧∃S n,H p=some (.set S n))
 |_=>False
theorem _jp {x:V} {v:Value} (I:Inv X pins σ H s) (r:RelV x v) (ty:tyV X.K T x H) :
  s.TypeIs v T∧∀a,v=.ref a->∃ob,s.heap.get? a=some ob∧ob.dict=none:=by
 cases x with
 |str z =>
  obtain ⟨t,rfl⟩:=r;cases (show T="str" from ty);exact ⟨Gc s z t,fun _ e=>nomatch e⟩
 |int i =>
  obtain ⟨t,rfl⟩:=r;cases (show T="int" from ty);exact ⟨typeIs_int s i t,fun _ e=>nomatch e⟩
 |ref p =>
  cases r;rcases ty with ⟨rfl,xs,hq⟩|⟨rfl,o,hk,hc,hd⟩|⟨rfl,hk⟩|⟨rfl,S,n,hk⟩
  ·obtain ⟨its,_,pl,_⟩:=I.list hq;refine ⟨pl.isList.typeIs,fun a e=>?_⟩;cases e;obtain ⟨o,n,e,c,hd,_⟩:=pl;exact ⟨o,e,hd⟩
  ·refine ⟨⟨o,I.kIn p o hk,hc⟩,fun a e=>?_⟩;cases e;exact ⟨o,I.kIn _ o hk,hd⟩
  ·have z:∃o,s.heap.get? p=some o∧o.ExactDict:=by
    rcases hk with ⟨kvs,hk⟩|⟨kvs,hk⟩
    ·obtain ⟨_,_,_,_,o,_,_,e,ex,_⟩:=I.hok p _ hk;exact ⟨o,e,ex⟩
    ·obtain ⟨_,_,_,_,o,_,_,e,ex,_⟩:=I.hok p _ hk;exact ⟨o,e,ex⟩
   obtain ⟨o,e,ex⟩:=z;refine ⟨⟨o,e,ex.1⟩,fun a e2=>?_⟩;cases e2;exact ⟨o,e,ex.2.1⟩
  ·obtain ⟨o,_,_,_,e,ex,_⟩:=I.hok p _ hk;refine ⟨⟨o,e,ex.1⟩,fun a e2=>?_⟩;cases e2;exact ⟨o,e,ex.2.1⟩
 |_=>exact False.elim ty
def tBM (K:W.Frag) (T:String) (r:V->List V->Hp->VK->Prop) (to:TE) (t:TA):TE:=fun σ H Q=>to σ H fun x H1=>tyV K T x H1∧t σ H1 fun xs H2=>r x xs H2 Q
variable {o:Expr} {es:List Expr} {to:TE} {t:TA} {name:Str} {apos cpos:Pos} {id:String} {r:V->List V->Hp->VK->Prop}
theorem YL (pa:PlainAttrs T) (slot:Slot T name id) (hty:typeOf (.builtin id)=pure (.type "method_descriptor")) (hm:MtR X id r) (ho:PE X o to) (ha:PA X (e::es) t)
 (hbase:attributeBase o name X.env (eval o X.env)=eval o X.env:=by rfl)
 (hfew:((backTo cpos (starEach (e::es) X.env)).all (fun x=>!x.1)&&(backToKw cpos (keywordEach [] X.env)).all (fun x=>x.1.isSome)
 && decide ((e::es).length+([]:List Keyword).length+(if ([]:List Keyword).isEmpty then 0 else 1)<30))=true:=by rfl)
 (hline:(apos.endLine==cpos.line)=true:=by rfl) (hs:starEach (e::es) X.env=(false,eval e X.env)::starEach es X.env:=by rfl) (hplain:(backTo cpos (starEach es X.env)).any (·.1)=false:=by rfl) :
  PE X (.Call (.Attribute o name apos) (e::es) [] cpos) (tBM X.K T r to t):=by
 intro pins s σ H Q I h;refine wpAny_Call_method_late hbase hfew hline rfl (_m (ho pins s σ H _ I h) fun v s1 ⟨x,H1,I1,r1,ty,q1⟩=>?_);obtain ⟨h1,h2⟩:=_jp I1 r1 ty;refine ⟨T,id,pa,slot,hty,h1,h2,?_⟩;have hA:=ha cpos pins s1 σ H1 _ I1 q1;rw [hs] at hA ⊢;refine NJ (by show (false||(backTo cpos (starEach es X.env)).any (·.1))=false;rw [hplain]<;>rfl) (GW ?_);exact _m hA fun us s2 ⟨vs,H2,I2,r2,q2⟩=>hm pins s2 σ H2 x vs v us Q I2 r1 r2 q2
/- xs.append(e),list.index on a module's tuple .. are MtR facts of 06m -/
end
def MtM (X:Cx) (id:String) (r:V->List V->Hp->VK->Prop):Prop :=
 ∀(pins:List (Addr×Obj)) (s:Shared) (σ:St) (H:Hp) (x:V) (xs:List V) (v:Value) (us:List Value) (Q:VK),Inv X pins σ H s->RelV x v->Vals xs us->r x xs H Q →
  wpAny (model X.prog X.w) X.A (call (.builtin id) (v::us)) (EP X pins σ Q) X.xe s
theorem Vals.one:∀{x:V} {us:List Value},Vals [x] us->∃u,us=[u]∧RelV x u
 |_,_,.cons r .nil=>⟨_,rfl,r⟩
theorem Vals.rep {xs:List V} {us:List Value} (h:Vals xs us):∀k:Nat,Vals (List.replicate k xs).flatten (List.replicate k us).flatten
 |0=>.nil
 |k+1=>by
  rw [Gw,Gw,GX,GX];exact Vals.append h (Vals.rep h k)
theorem _gM (its:List Value):∀(k:Nat) (acc:List Value),
  List.foldl (fun x1 x2=>x1++x2) acc.toArray (List.replicate k its.toArray)=(acc++(List.replicate k its).flatten).toArray
 |0,acc=>by simp
 |k+1,acc=>by
  have e:acc.toArray++its.toArray=(acc++its).toArray:=by simp
  have e2:(acc++its)++(List.replicate k its).flatten=acc++(List.replicate (k+1) its).flatten:=by
   rw [Gw,GX,Gd]
  rw [←e2,←_gM its k (acc++its),←e,Gw,Rb]
section
variable {l:Addr} {xs ys zs:List V}
theorem Inv.lset {its':List Value} {f:Array Value->Array Value} (I:Inv X pins σ H s) (hH:H l=some (.lst xs))
 (e:s.heap.get? l=some { cls:=.type "list",data:=.seq its.toArray n }) (hf:f its.toArray=its'.toArray) (hv:Vals ys its') (hz:ys.length≤sizeLine) :
  Inv X pins σ (_c H l (.lst ys)) { s with heap:=s.heap.update l (Obj.mapSeq f),toks:=t' }:=by
 have q:=PySem.IsL.update e f;rw [hf] at q;refine I.write (x:=l) (e:=l) (by rw [hH];exact trivial) (.inl rfl) (fun b' u hb hu=>(Heap.get?_update_other s.heap (Obj.mapSeq f) (Q4 hb)).trans hu) ⟨_,q⟩ ?_;exact ⟨hz,its',_,hv,q⟩
theorem Inv.lnew (I:Inv X pins σ H s) (hv:Vals ys its) (hz:ys.length≤sizeLine) :
  Inv X pins σ (_c H s.heap.objs.size (.lst ys)) { s with heap:=s.heap.push { cls:=.type "list",data:=.seq its.toArray },toks:=t' } :=
 I.laid (fun _ _ q=>Ql _ q) (Qe _) ⟨hz,its,0,hv,Qu _ rfl⟩
theorem Inv.fresh (I:Inv X pins σ H s):H s.heap.objs.size=none:=I.hok.fresh (Qe _)
theorem Inv.lstM (I:Inv X pins σ H s) (hH:H l=some (.lst xs)):xs.length≤sizeLine∧∃(its:List Value) (n:Nat),Vals xs its∧xs.length=its.length∧s.heap.get? l=some { cls:=.type "list",data:=.seq its.toArray n }:=by
 obtain ⟨z,its,n,r,e⟩:=I.hok l _ hH;exact ⟨z,its,n,r,r.length,e⟩
theorem _mr (h:n≤sizeLine):Builtin.List.listTooLong n=false:=by
 unfold Builtin.List.listTooLong;exact Qs (by omega)
end
def _pB:V->List V->Hp->VK->Prop:=fun x vs H Q=>∃l xs y,x=.ref l∧vs=[y]∧H l=some (.lst xs)∧xs.length<sizeLine∧Q .non (_c H l (.lst (xs++[y])))
theorem Y7:MtM X "list.append" _pB:=by
 intro pins s σ H x vs v us Q I rx rv h;obtain ⟨l,xs,y,rfl,rfl,hH,hz,q⟩:=h;cases rx;obtain ⟨u,rfl,ru⟩:=rv.one;obtain ⟨z,its,n,r,hl,e⟩:=I.lstM hH;refine call_meets F.slot_list_append ⟨_,e,rfl⟩ F.entry_list_append (F.args_list_append_2 _ _) (PySem.list_append l its.toArray n u (by rw [Qv];omega)) ⟨e,?_⟩;refine ⟨.non,_,I.lset (its':=its++[u]) hH e (by simp) (r.append (.cons ru .nil)) ?_,rfl,q⟩;rw [Qm,Rs];omega
def _nZ:R2:=fun x y H Q=>∃l b xs zs,x=.ref l∧y=.ref b∧H l=some (.lst xs)∧H b=some (.lst zs)∧xs.length+zs.length≤sizeLine∧∀p,H p=none->Q (.ref p) (_c H p (.lst (xs++zs)))
theorem JT:_9 X (binaryOp .Add) _nZ:=by
 intro pins s σ H x y v u Q I rx ry h;obtain ⟨l,b,xs,zs,rfl,rfl,hH,hB,hz,q⟩:=h;cases rx;cases ry;obtain ⟨z,its,n,r,hl,e⟩:=I.lstM hH;obtain ⟨z2,its2,n2,r2,hl2,e2⟩:=I.lstM hB;refine PySem.P.add_list e e2 ?_ (by rw [Qv,Qv];omega);have ea:its.toArray++its2.toArray=(its++its2).toArray:=by simp
 rw [ea];exact ⟨.ref _,_,I.lnew (t':=s.toks) (r.append r2) (by rw [Qm];omega),rfl,q _ I.fresh⟩
def _pL:R2:=fun x y H Q=>∃l k xs,x=.ref l∧y=.int k∧H l=some (.lst xs)∧-(2 ^ 63)≤k∧k<2 ^ 63∧xs.length*k.toNat≤sizeLine ∧
 ∀p,H p=none->Q (.ref p) (_c H p (.lst (List.replicate k.toNat xs).flatten))
theorem _ll {α:Type} (xs:List α) (k:Nat):(List.replicate k xs).flatten.length=k*xs.length:=by
 induction k with
 |zero=>simp
 |succ k ih=>rw [Gw,GX,Qm,ih,Nat.succ_mul,Nat.add_comm]
theorem _lt:_9 X (binaryOp .Mult) _pL:=by
 intro pins s σ H x y v u Q I rx ry h;obtain ⟨l,k,xs,rfl,rfl,hH,h1,h2,hz,q⟩:=h;cases rx;obtain ⟨t,rfl⟩:=ry;obtain ⟨z,its,n,r,hl,e⟩:=I.lstM hH;have hlen:its.toArray.size*k.toNat≤sizeLine:=by rw [Qv,←hl];exact hz
 have hcap:¬its.toArray.size*k.toNat > (2 ^ 63-1)/8:=by
  have:(sizeLine:Nat)≤(2 ^ 63-1)/8:=by decide
  omega
 have hfit:¬(!Builtin.List.listFitsIndex k)=true:=by
  rw [fitsIndex_both h1 h2];exact QG
 have hlong:¬Builtin.List.listTooLong (its.toArray.size*k.toNat)=true:=by
  rw [_mr hlen];exact QG
 have hnew:List.foldl (fun x1 x2=>x1++x2) #[] (List.replicate (if its.toArray.isEmpty=true then 0 else k.toNat) its.toArray)=(List.replicate k.toNat its).flatten.toArray:=by
  have f0:∀m:Nat,List.foldl (fun x1 x2=>x1++x2) #[] (List.replicate m its.toArray)=(List.replicate m its).flatten.toArray:=fun m=>by
   have:=_gM its m [];rw [List.nil_append] at this;exact this
  rw [f0];cases its with
  |nil=>simp
  |cons a r'=>rw [Qa (by simp)]
 refine wpAny_binaryOp_repeat_ref (T:="list") (U:="int") (by decide) ⟨_,e,rfl⟩ (fun s'=>typeIs_int s' k t) noFill_list_mul F.fills_int_mul F.slot_int_rmul repeat_list F.slot_int_index.lookup
  (call_meets F.slot_int_rmul (typeIs_int s k t) F.entry_int_rmul (F.args_int_rmul_2 _ _) (int___rmul___int_list k t l its.toArray n)
   ⟨e,rfl,⟨_,e,rfl⟩,call_meets F.slot_list_mul ⟨_,e,rfl⟩ F.entry_list_mul (F.args_list_mul_2 _ _) (AutoListH.list___mul___list_int_3 l its.toArray n k t hfit hcap hlong) ⟨e,?_⟩⟩)
 rw [hnew];exact ⟨.ref _,_,I.lnew (t':=s.toks) (r.rep k.toNat) (by rw [_ll,Nat.mul_comm];exact hz),rfl,q _ I.fresh⟩
section
variable {prog:Program} {w:World}
set_option maxRecDepth 100000 in
end
section
variable {κ:Type} [DecidableEq κ]
noncomputable def _F (kvs:List (κ×V)) (k:κ):Option V:=(kvs.find? fun kv=>decide (kv.1=k)).map (·.2)
noncomputable def Ym (kvs:List (κ×V)) (k:κ) (v:V):List (κ×V) :=
 if (kvs.any fun kv=>decide (kv.1=k))=true then kvs.map (fun kv=>if kv.1=k then (kv.1,v) else kv) else kvs++[(k,v)]
theorem Xw {p:κ×V} {r:List (κ×V)} {k:κ} (e:p.1=k):_F (p::r) k=some p.2:=by simp [_F,RH,e]
theorem Xz {p:κ×V} {r:List (κ×V)} {k:κ} (e:¬p.1=k):_F (p::r) k=_F r k:=by simp [_F,RH,e]
theorem _dw (k:κ):∀kvs:List (κ×V),(kvs.any fun kv=>decide (kv.1=k))=(_F kvs k).isSome
 |[]=>rfl
 |p::r=>by
  rw [Ra];by_cases e:p.1=k
  ·simp only [Xw e,Qx e,Bool.true_or,Option.isSome_some]
  ·rw [Xz e,Qs e,Bool.false_or];exact _dw k r
theorem _dq (kvs:List (κ×V)) (k:κ) (v:V):(Ym kvs k v).length≤kvs.length+1:=by
 unfold Ym;split
 ·rw [Qc];omega
 ·rw [Qm,QJ,GY];omega
theorem _aZ {kvs:List (κ×V)} {k:κ} (v:V) (h:_F kvs k=none):Ym kvs k v=kvs++[(k,v)]:=by
 unfold Ym;rw [_dw,h];exact Qa (by decide)
theorem RelO.isSome_eq {u:Option Value} (r:RelO o u):o.isSome=u.isSome:=by
 cases o with
 |none=>cases u with
  |none=>rfl
  |some _=>exact (show False from r).elim
 |some _=>cases u with
  |none=>exact (show False from r).elim
  |some _=>rfl
theorem RelO.getD {u:Option Value} {d:V} {d':Value} (r:RelO o u) (rd:RelV d d'):RelV (o.getD d) (u.getD d'):=by
 cases o with
 |none=>cases u with
  |none=>exact rd
  |some _=>exact (show False from r).elim
 |some _=>cases u with
  |none=>exact (show False from r).elim
  |some _=>exact r
theorem KV.val {kvs:List (κ×V)} {vs:List (κ×Value)} (r:KV kvs vs) (k:κ):RelO (_F kvs k) (valueAt vs k):=by
 unfold KV at r
 induction r with
 |nil=>exact True.intro
 |@cons p q ps qs h t ih =>
  obtain ⟨h1,h2⟩:=h;by_cases e:p.1=k
  ·have e':q.1=k:=h1.symm.trans e;have b:valueAt (q::qs) k=some q.2:=by simp [valueAt,RH,e']
   rw [Xw e,b];exact h2
  ·have e':¬q.1=k:=fun z=>e (h1.trans z);have b:valueAt (q::qs) k=valueAt qs k:=by simp [valueAt,RH,e']
   rw [Xz e,b];exact ih
theorem KV.any {kvs:List (κ×V)} {vs:List (κ×Value)} (r:KV kvs vs) (k:κ):(kvs.any fun kv=>decide (kv.1=k))=vs.any fun kv=>decide (kv.1=k):=by
 unfold KV at r
 induction r with
 |nil=>rfl
 |cons h t ih=>rw [Ra,Ra,ih,h.1]
theorem KV.repl {kvs:List (κ×V)} {vs:List (κ×Value)} (r:KV kvs vs) (k:κ) (ry:RelV y u) :
  KV (kvs.map fun kv=>if kv.1=k then (kv.1,y) else kv) (vs.map fun kv=>if kv.1=k then (kv.1,u) else kv):=by
 unfold KV at r ⊢
 induction r with
 |nil=>exact .nil
 |@cons p q ps qs h t ih =>
  rw [Qw,Qw];refine .cons ?_ ih;obtain ⟨h1,h2⟩:=h;by_cases e:p.1=k
  ·rw [Qb e,Qb (h1.symm.trans e)];exact ⟨h1,ry⟩
  ·rw [Qa e,Qa (fun z=>e (h1.trans z))];exact ⟨h1,h2⟩
theorem KV.put {kvs:List (κ×V)} {vs:List (κ×Value)} (r:KV kvs vs) (k:κ) (ry:RelV y u):KV (Ym kvs k y) (stored vs k u):=by
 unfold Ym stored;rw [r.any k];by_cases e:(vs.any fun kv=>decide (kv.1=k))=true
 ·rw [Qb e,Qb e];exact r.repl k ry
 ·rw [Qa e,Qa e];exact Paired.snoc r ⟨rfl,ry⟩
theorem KV.length {kvs:List (κ×V)} {vs:List (κ×Value)} (r:KV kvs vs):kvs.length=vs.length:=GM r
end
theorem X5 {w:World} {k:_l} (r:RelV (kV k) u):(Yi P w).is k u=true:=by
 cases k with
 |inl i=>obtain ⟨t,e⟩:=(show ∃t,u=Value.int i t from r);subst e;exact _lB P w i t
 |inr x=>obtain ⟨t,e⟩:=(show ∃t,u=Value.str x t from r);subst e;exact _op P w x t
theorem _gw {P:Program} {w:World}:∀{ks:List _l} {us:List Value},Vals (ks.map kV) us->ItemsAre (Yi P w) ks us
 |[],_,r=>by rw [Gu] at r;cases r;exact .nil
 |k::ks,_,r=>by
  rw [Qw] at r;cases r with
  |cons h t=>exact .cons (X5 h) (_gw t)
abbrev KT (H:Hp):List (List _l×V)->List (List _l×Addr×Value)->Prop:=Paired fun p q=>p.1=q.1∧H q.2.1=some (.tup (p.1.map kV))∧RelV p.2 q.2.2
theorem KT.val (r:KT H kvs xs) (k:List _l):RelO (_F kvs k) ((atKey xs k).map (·.2)):=by
 induction r with
 |nil=>exact True.intro
 |@cons p q ps qs h t ih =>
  obtain ⟨h1,_,h2⟩:=h;by_cases e:p.1=k
  ·have e':q.1=k:=h1.symm.trans e;have b:atKey (q::qs) k=some q.2:=by simp [atKey,RH,e']
   rw [Xw e,b];exact h2
  ·have e':¬q.1=k:=fun z=>e (h1.trans z);have b:atKey (q::qs) k=atKey qs k:=by simp [atKey,RH,e']
   rw [Xz e,b];exact ih
theorem KT.repl (r:KT H kvs xs) (k:List _l) (ry:RelV y u) :
  KT H (kvs.map fun kv=>if kv.1=k then (kv.1,y) else kv) (xs.map (putAt k u)):=by
 induction r with
 |nil=>exact .nil
 |@cons p q ps qs h t ih =>
  rw [Qw,Qw];refine .cons ?_ ih;obtain ⟨h1,h2,h3⟩:=h;unfold putAt;by_cases e:p.1=k
  ·rw [Qb e,Qb (h1.symm.trans e)];exact ⟨h1,h2,ry⟩
  ·rw [Qa e,Qa (fun z=>e (h1.trans z))];exact ⟨h1,h2,h3⟩
theorem KT.put (r:KT H kvs xs) (k:List _l) (hb:H b=some (.tup (k.map kV))) (ry:RelV y u) :
  KT H (Ym kvs k y) (storedH xs k b u):=by
 have e:(kvs.any fun kv=>decide (kv.1=k))=(atKey xs k).isSome:=by
  rw [_dw,(r.val k).isSome_eq,NK]
 unfold Ym storedH;rw [e];by_cases q:(atKey xs k).isSome=true
 ·rw [Qb q,Qb q];exact r.repl k ry
 ·rw [Qa q,Qa q];exact Paired.snoc r ⟨rfl,hb,ry⟩
theorem KT.keeps (r:KT H kvs xs) (ht:∀b ys,H b=some (.tup ys)->H' b=some (.tup ys)):KT H' kvs xs :=
 Paired.mapP r fun _ _ z=>⟨z.1,ht _ _ z.2.1,z.2.2⟩
section
variable {w:World} {h:Heap}
theorem _fG {u:HO} (ok:HOk P w H h) (e:Rd H a u):ObjOk P w H h a u:=e.ok ok
theorem Vz {kvs:List (_l×V)} (ok:HOk P w H h) (e:Rd H a (.dK kvs)):kvs.length≤sizeLine∧(a==sysModules)=false∧∃vs,KV kvs vs∧h.DictOf (Yi P w) a vs :=
 show ObjOk P w H h a (.dK kvs) from _fG ok e
theorem _bl {kvs:List (_l×V)} (ok:HOk P w H h) (e:H a=some (.dK kvs)):kvs.length≤sizeLine∧(a==sysModules)=false∧∃vs,KV kvs vs∧h.DictOf (Yi P w) a vs:=Vz ok (.inl e)
theorem VZ {ks:List _l} (ok:HOk P w H h) (e:H a=some (.tup (ks.map kV))):(tupleKind (Yi P w)).is h ks a:=by
 obtain ⟨_,its,r,o,h1,h2,n,h3⟩:=(show ObjOk P w H h a (.tup (ks.map kV)) from ok a _ e);exact ⟨o,its.toArray,n,h1,h2,h3,by simpa using _gw r⟩
theorem V8 (ok:HOk P w H h) (e:Rd H a (.dT kvs)):kvs.length≤sizeLine∧(a==sysModules)=false ∧
  ∃xs,KT H kvs xs∧h.DictOfH (tupleKind (Yi P w)) a xs:=by
 obtain ⟨z,y,xs,r,o,es,ep,h1,h2,h3,h4,h5⟩:=(show ObjOk P w H h a (.dT kvs) from _fG ok e);refine ⟨z,y,xs,r,o,es,ep,h1,h2,h3,h4,fun x hx=>?_,h5⟩
 have all:∀{l:List (List _l×V)} {m:List (List _l×Addr×Value)},KT H l m->∀x∈m,(tupleKind (Yi P w)).is h x.1 x.2.1:=by
  intro l m q
  induction q with
  |nil=>intro x hx;exact nomatch hx
  |@cons p q ps qs hq t ih =>
   intro x hx;rcases Qj.mp hx with e|hx
   ·subst e;exact VZ ok (by rw [←hq.1];exact hq.2.1)
   ·exact ih x hx
 exact all r x hx
theorem _eZ (ok:HOk P w H h) (e:H a=some (.dT kvs)):kvs.length≤sizeLine∧(a==sysModules)=false ∧
  ∃xs,KT H kvs xs∧h.DictOfH (tupleKind (Yi P w)) a xs:=V8 ok (.inl e)
end
def DGet (H:Hp) (a:Addr) (y:V) (r:Option V):Prop :=
 (∃kvs k,Rd H a (.dK kvs)∧y=kV k∧r=_F kvs k)∨∃kvs k b,Rd H a (.dT kvs)∧y=.ref b∧H b=some (.tup (k.map kV))∧r=_F kvs k
def DPut (H:Hp) (a:Addr) (y v:V) (H':Hp):Prop :=
 (∃kvs k,H a=some (.dK kvs)∧y=kV k∧kvs.length<sizeLine∧H'=_c H a (.dK (Ym kvs k v))) ∨
 ∃kvs k b,H a=some (.dT kvs)∧y=.ref b∧H b=some (.tup (k.map kV))∧kvs.length<sizeLine∧H'=_c H a (.dT (Ym kvs k v))
theorem DGet.k {kvs:List (_l×V)} {k:_l} (e:H a=some (.dK kvs)):DGet H a (kV k) (_F kvs k):=.inl ⟨kvs,k,.inl e,rfl,rfl⟩
theorem DGet.t {k:List _l} (e:H a=some (.dT kvs)) (eb:H b=some (.tup (k.map kV))):DGet H a (.ref b) (_F kvs k):=.inr ⟨kvs,k,b,.inl e,rfl,eb,rfl⟩
theorem DPut.k {kvs:List (_l×V)} {k:_l} {v:V} (e:H a=some (.dK kvs)) (hl:kvs.length<sizeLine):DPut H a (kV k) v (_c H a (.dK (Ym kvs k v))):=.inl ⟨kvs,k,e,rfl,hl,rfl⟩
theorem DPut.t {k:List _l} {v:V} (e:H a=some (.dT kvs)) (eb:H b=some (.tup (k.map kV))) (hl:kvs.length<sizeLine) :
  DPut H a (.ref b) v (_c H a (.dT (Ym kvs k v))):=.inr ⟨kvs,k,b,e,rfl,eb,hl,rfl⟩
section
variable {v:V} {r:Value}
theorem Inv.big (I:Inv X pins σ H s):sysModules<s.heap.objs.size:=by
 have h:mainGlobals<s.heap.objs.size:=(I.mod.glob.keeps I.bk).lt;exact Nat.lt_trans (by decide) h
theorem _od (hu:A.units+1<cLine) (I:Inv X pins σ H s) (g:DGet H a y (some v)) (ry:RelV y u) (h:∀w' s',Inv X pins σ H s'->RelV v w'->Q w' s') :
  wpAny (model X.prog X.w) A (getItem (.ref a) u) Q E s:=by
 rcases g with ⟨kvs,k,e,ey,l⟩|⟨kvs,k,b,e,ey,eb,l⟩
 ·subst ey;obtain ⟨z,hd,vs,rel,dd⟩:=Vz I.hok e;obtain ⟨w',hw,rw'⟩:=RelO.some_of (v:=v) (o:=valueAt vs k) (by rw [l];exact rel.val k);exact wpAny_getItem_of (X5 ry) dd.mapOf hw (h w' _ (I.tok _) rw')
 ·subst ey;cases (show u=Value.ref b from ry);obtain ⟨z,hd,xs,rel,dd⟩:=V8 I.hok e;obtain ⟨w',hw,rw'⟩:=RelO.some_of (v:=v) (o:=(atKey xs k).map (·.2)) (by rw [l];exact rel.val k);obtain ⟨p,hp,hp2⟩:=QC.mp hw;refine wpAny_getItem_heap (Ge hu) (VZ I.hok eb) dd hp ?_;rw [hp2];exact h w' _ (I.tok _) rw'
theorem _pG (hu:A.units+1<cLine) (I:Inv X pins σ H s) (g:DGet H a y o) (ry:RelV y u) (h:∀s',Inv X pins σ H s'->Q (.bool o.isSome) s') :
  wpAny (model X.prog X.w) A (compareOp .In u (.ref a)) Q E s:=by
 rcases g with ⟨kvs,k,e,ey,l⟩|⟨kvs,k,b,e,ey,eb,l⟩
 ·subst ey;obtain ⟨z,hd,vs,rel,dd⟩:=Vz I.hok e;refine wpAny_in_of (X5 ry) hd dd.mapOf ?_;rw [←(rel.val k).isSome_eq,←l];exact h _ (I.tok _)
 ·subst ey;cases (show u=Value.ref b from ry);obtain ⟨z,hd,xs,rel,dd⟩:=V8 I.hok e;refine wpAny_in_heap (Ge hu) (VZ I.hok eb) hd dd ?_;have q:=(rel.val k).isSome_eq;rw [NK] at q;rw [←q,←l];exact h _ (I.tok _)
theorem _jD (hu:A.units+1<cLine) (I:Inv X pins σ H s) (g:DGet H a y o) (ry:RelV y u) (h:∀s',Inv X pins σ H s'->Q (.bool (!o.isSome)) s') :
  wpAny (model X.prog X.w) A (compareOp .NotIn u (.ref a)) Q E s:=by
 rcases g with ⟨kvs,k,e,ey,l⟩|⟨kvs,k,b,e,ey,eb,l⟩
 ·subst ey;obtain ⟨z,hd,vs,rel,dd⟩:=Vz I.hok e;refine wpAny_notIn_of (X5 ry) hd dd.mapOf ?_;rw [←(rel.val k).isSome_eq,←l];exact h _ (I.tok _)
 ·subst ey;cases (show u=Value.ref b from ry);obtain ⟨z,hd,xs,rel,dd⟩:=V8 I.hok e;refine wpAny_notIn_heap (Ge hu) (VZ I.hok eb) hd dd ?_;have q:=(rel.val k).isSome_eq;rw [NK] at q;rw [←q,←l];exact h _ (I.tok _)
theorem _be {h':Heap} {ob:HO} (I:Inv X pins σ H s) (mu:Ju (H a)) (hs:Heap.SameBut a s.heap h') (he:∃q,h'.get? a=some q) (new:ObjOk X.prog X.w (_c H a ob) h' a ob) :
  Inv X pins σ (_c H a ob) { s with heap:=h',toks:=t' } :=
 I.write (x:=a) (e:=a) mu (.inl rfl) (fun b q hb z=>(hs.2 b hb).trans z) he new
theorem _gO {w:World} {h':Heap} {kvs:List (_l×V)} {vs:List (_l×Value)} (z:kvs.length≤sizeLine) (hd:(a==sysModules)=false) (rel:KV kvs vs) (dd:h'.DictOf (Yi P w) a vs) :
  ObjOk P w H' h' a (.dK kvs):=⟨z,hd,vs,rel,dd⟩
theorem _oW {Q:Unit->Shared->Prop} (hu:A.units+1<cLine) (I:Inv X pins σ H s) (g:DPut H a y v H') (ry:RelV y u) (rv:RelV v r) (h:∀s',Inv X pins σ H' s'->Q () s') :
  wpAny (model X.prog X.w) A (setItem (.ref a) u r) Q E s:=by
 rcases g with ⟨kvs,k,e,ey,l,eH⟩|⟨kvs,k,b,e,ey,eb,l,eH⟩
 ·subst ey eH;obtain ⟨z,hd,vs,rel,dd⟩:=_bl I.hok e;have hz:vs.length≤sizeLine:=by rw [←rel.length];exact z
  have hl:(Ym kvs k v).length≤sizeLine:=by have:=_dq kvs k v;omega
  refine wpAny_setItem_pairs (hsz:=hz) (X5 ry) dd fun h' dd' hs=>h _ ?_;have he:∃q,h'.get? a=some q:=let ⟨q,_,_,hq,_⟩:=dd';⟨q,hq⟩;exact _be I (by rw [e];exact True.intro) hs he (_gO hl hd (rel.put k rv) dd')
 ·subst ey eH;cases (show u=Value.ref b from ry);obtain ⟨z,hd,xs,rel,dd⟩:=_eZ I.hok e;have hz:xs.length≤sizeLine:=by rw [←GM rel];exact z
  have hl:(Ym kvs k v).length≤sizeLine:=by have:=_dq kvs k v;omega
  refine wpAny_setItem_heap (hsz:=hz) (Ge hu) (VZ I.hok eb) dd fun h' dd' hs=>h _ ?_;obtain ⟨q,es,ep,hq,h2,h3,h4,_,h5⟩:=dd';refine _be I (by rw [e];exact True.intro) hs ⟨q,hq⟩ ⟨hl,hd,_,(rel.put k eb rv).keeps fun c ys ec=>?_,q,es,ep,hq,h2,h3,h4,h5⟩;rw [_d (_hG ec e (fun z=>nomatch z))];exact ec
end
section
variable {kvs:List (_l×V)} {k:_l}
theorem _j9 (I:Inv X pins σ H s) (e:Rd H a (.dK kvs)) (h:∀t s',Inv X pins σ H s'->Q (.int kvs.length t) s'):wpAny (model X.prog X.w) A (call (.builtin "len") [.ref a]) Q E s:=by
 obtain ⟨z,hd,vs,rel,dd⟩:=Vz I.hok e;refine call_len_dict hd dd (by rw [←rel.length];rw [RW] at z;omega) ?_;rw [←rel.length];exact h _ _ (I.tok _)
end
def _cf (i:Expr):Prop:=∀ov iv,subscripted i false ov iv=operate [ov,iv] (getItem ov iv)
theorem _jc {prog:Program} {w:World} {env:Env} {value slice:Expr} {id:String} 
 (hl:typeLookup (.type T) "__getitem__"=pure (some (.builtin id))) (hs:_cf slice)
 (h:wpAny (model prog w) A (eval value env) (fun o s₁=>wpAny (model prog w) A (eval slice env) (fun i s₂=>s₂.TypeIs o T∧wpAny (model prog w) A (getItem o i) Q E s₂) E s₁) E s) :
  wpAny (model prog w) A (eval (.Subscript value slice pos) env) Q E s:=by
 refine Subscript_ (Rg h (fun o s₁ h₁=>Rg h₁ (fun i s₂ h₂=>?_) fun _ _ x=>x) fun _ _ x=>x);obtain ⟨hT,h₂⟩:=h₂;unfold subscriptTail;refine Qd ?_;rw [getitemInPython_of_ne hT.not_modules];refine Qd (Gx hT hl ?_)
 have fin:wpAny (model prog w) A (subscripted slice false o i) (fun r s₃=>wpAny (model prog w) A (letTemporaryGo value o r >>= fun _=>pure r) Q E s₃) E s₂:=by
  rw [hs o i];exact wpAny_operating (Rg h₂ (fun r s₃ h₃=>Qd (wpAny_letTemporaryGo (Qf h₃))) fun _ _ x=>x)
 first
  |exact Qf (Qd fin)
  |exact Qd (Qf (Qd fin))
  |exact Qd fin
theorem _kA (I:Inv X pins σ H s) (g:DGet H a y o):s.TypeIs (.ref a) "dict":=by
 rcases g with ⟨kvs,k,e,_,_⟩|⟨kvs,k,b,e,_,_,_⟩
 ·obtain ⟨_,_,vs,_,dd⟩:=Vz I.hok e;exact dd.typeIs
 ·obtain ⟨_,_,xs,_,dd⟩:=V8 I.hok e;exact dd.typeIs
def _kK (td ty:TE):TE:=fun σ H Q=>td σ H fun x H1=>ty σ H1 fun y H2=>∃a v,x=.ref a∧DGet H2 a y (some v)∧Q v H2
def _jZ (ty td:TE):TE:=fun σ H Q=>ty σ H fun y H1=>td σ H1 fun x H2=>∃a o,x=.ref a∧DGet H2 a y o∧Q (.bl o.isSome) H2
def _kh (ty td:TE):TE:=fun σ H Q=>ty σ H fun y H1=>td σ H1 fun x H2=>∃a o,x=.ref a∧DGet H2 a y o∧Q (.bl (!o.isSome)) H2
def _oY (td ty tv:TE):TS:=fun D σ H=>tv σ H fun v H1=>td σ H1 fun x H2=>ty σ H2 fun y H3=>∃a H4,x=.ref a∧DPut H3 a y v H4∧D.nx σ H4
section
variable {o i value:Expr} {pos' tpos:Pos} {td ty tv:TE}
theorem _ag (hu:X.A.units+1<cLine) (ho:PE X o td) (hi:PE X i ty) (hs:_cf i):PE X (.Subscript o i pos) (_kK td ty):=by
 intro pins s σ H Q I h;refine _jc N8.lookup hs (_m (ho pins s σ H _ I h) fun u s1 ⟨x,H1,I1,rx,q1⟩=>_m (hi pins s1 σ H1 _ I1 q1) fun iv s2 ⟨y,H2,I2,ry,a,v,ex,g,q2⟩=>?_);subst ex;obtain rfl:u=Value.ref a:=rx;exact ⟨_kA I2 g,_od hu I2 g ry fun w' s3 I3 rw'=>⟨v,H2,I3,rw',q2⟩⟩
theorem _gh (hu:X.A.units+1<cLine) (hi:PE X i ty) (ho:PE X o td):PC X .In i o (_jZ ty td):=by
 intro pins s σ H Q I h;refine _m (hi pins s σ H _ I h) fun iv s1 ⟨y,H1,I1,ry,q1⟩=>_m (ho pins s1 σ H1 _ I1 q1) fun u s2 ⟨x,H2,I2,rx,a,ov,ex,g,q2⟩=>?_;subst ex;obtain rfl:u=Value.ref a:=rx;exact _pG hu I2 g ry fun s3 I3=>⟨.bl ov.isSome,H2,I3,rfl,q2⟩
theorem JF (hu:X.A.units+1<cLine) (hi:PE X i ty) (ho:PE X o td):PC X .NotIn i o (_kh ty td):=by
 intro pins s σ H Q I h;refine _m (hi pins s σ H _ I h) fun iv s1 ⟨y,H1,I1,ry,q1⟩=>_m (ho pins s1 σ H1 _ I1 q1) fun u s2 ⟨x,H2,I2,rx,a,ov,ex,g,q2⟩=>?_;subst ex;obtain rfl:u=Value.ref a:=rx;exact _jD hu I2 g ry fun s3 I3=>⟨.bl (!ov.isSome),H2,I3,rfl,q2⟩
theorem Wj (hu:X.A.units+1<cLine) (ho:PE X o td) (hi:PE X i ty) (hv:PE X value tv) (hs:swapsWith value (some (.Subscript o i pos')) pos.line X.env=pure false) :
  PS X (.Assign [.Subscript o i pos'] value pos) (_oY td ty tv):=by
 intro pins s σ H D I h;refine wpAny_Assign_Subscript (_m (hv pins s σ H _ I h) fun r s1 ⟨v,H1,I1,rv,q1⟩=>_m (ho pins s1 σ H1 _ I1 q1) fun u s2 ⟨x,H2,I2,rx,q2⟩=>_m (hi pins s2 σ H2 _ I2 q2) fun iv s3 ⟨y,H3,I3,ry,a,H4,ex,g,q3⟩=>?_) hs;subst ex;obtain rfl:u=Value.ref a:=rx;exact _oW hu I3 g ry rv fun s4 I4=>⟨σ,H4,I4,q3⟩
end
theorem _hS {w:World} (h:Heap) (hb:sysModules<h.objs.size):ObjOk P w H (h.push { cls:=.type "dict",data:=.dict #[] }) h.objs.size (.dK []) :=
 ⟨QT _,Rz.mpr (Q4 (QA hb)),[],.nil,Heap.DictOf.new h⟩
theorem _qh {w:World} (h:Heap) (hb:sysModules<h.objs.size):ObjOk P w H (h.push { cls:=.type "dict",data:=.dict #[] }) h.objs.size (.dT []) :=
 ⟨QT _,Rz.mpr (Q4 (QA hb)),[],.nil,_,#[],0,Qu _ rfl,⟨rfl,rfl,rfl⟩,rfl,rfl,NL⟩
def _n5:TE:=fun _ H Q=>∀p,H p=none->Q (.ref p) (_c H p (.dK []))
def _j1:TE:=fun _ H Q=>∀p,H p=none->Q (.ref p) (_c H p (.dT []))
theorem JC:PE X (.Dict [] [] pos) _n5:=fun pins s σ H Q I h =>
 wpAny_Dict_empty ⟨.ref s.heap.objs.size,_,I.laid (a:=s.heap.objs.size) (o:=.dK []) (t':=s.toks) (fun _ _ q=>Ql _ q) (Qe _) (_hS s.heap I.big),rfl,h _ (I.hok.fresh (Qe _))⟩
theorem JK:PE X (.Dict [] [] pos) _j1:=fun pins s σ H Q I h =>
 wpAny_Dict_empty ⟨.ref s.heap.objs.size,_,I.laid (a:=s.heap.objs.size) (o:=.dT []) (t':=s.toks) (fun _ _ q=>Ql _ q) (Qe _) (_qh s.heap I.big),rfl,h _ (I.hok.fresh (Qe _))⟩
def _ex:List (TE×TE)->St->Hp->(List (V×V)->Hp->Prop)->Prop
 |[],_,H,Q=>Q [] H
 | (tk,tv)::r,σ,H,Q=>tk σ H fun x H1=>tv σ H1 fun y H2=>_ex r σ H2 fun ps H3=>Q ((x,y)::ps) H3
abbrev VV:List (V×V)->List (Value×Value)->Prop:=Paired fun p q=>RelV p.1 q.1∧RelV p.2 q.2
def PPs (X:Cx) (pos:Pos) (keys:List (Option Expr)) (values:List Expr) (trs:List (TE×TE)):Prop :=
 ∀(pins:List (Addr×Obj)) (s:Shared) (σ:St) (H:Hp) (Q:List (V×V)->Hp->Prop),Inv X pins σ H s->_ex trs σ H Q →
  wpAny (model X.prog X.w) X.A (evalPairs (pairTrees keys values X.env pos)) (fun vs s'=>∃ps H',Inv X pins σ H' s'∧VV ps vs∧Q ps H') X.xe s
theorem _a9:PPs X pos [] [] []:=fun pins s σ H Q I h=>pairTrees_nil_walk ⟨[],H,I,.nil,h⟩
theorem W9 {k v:Expr} {ks:List (Option Expr)} {vs:List Expr} {tk tv:TE} {trs:List (TE×TE)} (hk:PE X k tk) (hv:PE X v tv) (hr:PPs X pos ks vs trs) :
  PPs X pos (some k::ks) (v::vs) ((tk,tv)::trs):=fun pins s σ H Q I h =>
 pairTrees_cons_walk (_m (hk pins s σ H _ I h) fun u s1 ⟨x,H1,I1,rx,q1⟩=>_m (hv pins s1 σ H1 _ I1 q1) fun w2 s2 ⟨y,H2,I2,ry,q2⟩ =>
  _m (hr pins s2 σ H2 _ I2 q2) fun ws s3 ⟨ps,H3,I3,rel,q3⟩=>⟨(x,y)::ps,H3,I3,.cons ⟨rx,ry⟩ rel,q3⟩)
noncomputable def XY (kvs more:List (_l×V)):List (_l×V):=more.foldl (fun acc kv=>Ym acc kv.1 kv.2) kvs
theorem KV.merge:∀{more:List (_l×V)} {rs:List (_l×Value)} {kvs:List (_l×V)} {vs:List (_l×Value)},KV more rs->KV kvs vs->KV (XY kvs more) (merged vs rs):=by
 intro more rs kvs vs r;unfold KV at r
 induction r generalizing kvs vs with
 |nil=>intro q;exact q
 |@cons p q ps qs h t ih =>
  intro r0
  have e:KV (Ym kvs p.1 p.2) (stored vs q.1 q.2):=by
   have:=r0.put p.1 h.2;rw [←h.1];exact this
  exact ih e
theorem _iQ:∀(more kvs:List (_l×V)),(XY kvs more).length≤kvs.length+more.length
 |[],kvs=>by show kvs.length≤kvs.length+0;omega
 |p::r,kvs=>by
  have h1:=_iQ r (Ym kvs p.1 p.2);have h2:=_dq kvs p.1 p.2;show (XY (Ym kvs p.1 p.2) r).length≤_;rw [QJ];omega
theorem _gm {P:Program} {w:World}:∀{kvs:List (_l×V)} {ws:List (Value×Value)},VV (kvs.map fun kv=>(kV kv.1,kv.2)) ws->∃rs,Carries (Yi P w) ws rs∧KV kvs rs
 |[],_,r=>by rw [Gu] at r;cases r;exact ⟨[],True.intro,.nil⟩
 |p::kvs,_,r=>by
  rw [Qw] at r;cases r with
  |@cons a b as bs h t =>
   obtain ⟨rs,c,q⟩:=_gm (P:=P) (w:=w) t;obtain ⟨b1,b2⟩:=b;exact ⟨(p.1,b2)::rs,⟨X5 h.1,rfl,c⟩,.cons ⟨rfl,h.2⟩ q⟩
def _qv (trs:List (TE×TE)):TE:=fun σ H Q=>∀p,H p=none->_ex trs σ (_c H p (.dK [])) fun ps H2=>H2 p=some (.dK [])∧∃kvs:List (_l×V),ps=kvs.map (fun kv=>(kV kv.1,kv.2))∧kvs.length≤15∧Q (.ref p) (_c H2 p (.dK (XY [] kvs)))
theorem _aM {keys:List (Option Expr)} {values:List Expr} {trs:List (TE×TE)} (h:PPs X pos keys values trs) (hall:keys.all (·.isSome)=true) (hl:keys.length=values.length) (h0:keys≠[])
 (h15:keys.length≤15):PE X (.Dict keys values pos) (_qv trs):=by
 intro pins s σ H Q I q;have hn:=I.hok.fresh (Qe s.heap.objs.size);have I1:=I.laid (a:=s.heap.objs.size) (o:=.dK []) (h':=s.heap.push { cls:=.type "dict",data:=.dict #[] }) (t':=s.toks) (fun _ _ q=>Ql _ q) (Qe _) (_hS s.heap I.big);refine wpAny_Dict_walk (knd:=Yi X.prog X.w) hall hl h0 h15 (_m (h pins _ σ _ _ I1 (q _ hn)) fun ws s2 ⟨ps,H2,I2,rel,e,kvs,ep,lk,q2⟩=>?_);subst ep;obtain ⟨rs,c,rk⟩:=_gm (P:=X.prog) (w:=X.w) rel;obtain ⟨z,hd,vs0,r0,dd⟩:=_bl I2.hok e;cases r0;refine ⟨rs,c,dd,fun h' dd' hs=>⟨.ref s.heap.objs.size,_,?_,rfl,q2⟩⟩
 have hz:(XY [] kvs).length≤sizeLine:=by
  have h1:=_iQ kvs [];rw [GY] at h1;rw [RW];omega
 have he:∃q,h'.get? s.heap.objs.size=some q:=let ⟨q,_,_,hq,_⟩:=dd';⟨q,hq⟩;exact _be I2 (by rw [e];exact True.intro) hs he (_gO hz hd (rk.merge .nil) dd')
structure M2 (X:Cx) (o:Expr) (m:Str) (apos:Pos) (e f:Expr) (cpos:Pos):Prop where
 base:attributeBase o m X.env (eval o X.env)=eval o X.env
 few:((backTo cpos (starEach [e,f] X.env)).all (fun x=>!x.1)&&(backToKw cpos (keywordEach [] X.env)).all (fun x=>x.1.isSome)
  && decide (([e,f]:List Expr).length+([]:List Keyword).length+(if ([]:List Keyword).isEmpty then 0 else 1)<30))=true
 line:(apos.endLine==cpos.line)=true
 trees:backTo cpos (starEach [e,f] X.env)=[(false,eval e X.env),(false,eval f X.env)]
def IsD (H:Hp) (a:Addr):Prop:=(∃kvs,Rd H a (.dK kvs))∨∃kvs,Rd H a (.dT kvs)
theorem _gZ (I:Inv X pins σ H s) (d:IsD H a) :
  s.TypeIs (.ref a) "dict"∧(∀b,Value.ref a=.ref b->∃ob,s.heap.get? b=some ob∧ob.dict=none)∧(a==sysModules)=false:=by
 rcases d with ⟨kvs,e⟩|⟨kvs,e⟩
 ·obtain ⟨_,hd,vs,_,dd⟩:=Vz I.hok e;refine ⟨dd.typeIs,fun b q=>?_,hd⟩;cases q;obtain ⟨ob,_,_,h1,h2,_⟩:=dd;exact ⟨ob,h1,h2.2.1⟩
 ·obtain ⟨_,hd,xs,_,dd⟩:=V8 I.hok e;refine ⟨dd.typeIs,fun b q=>?_,hd⟩;cases q;obtain ⟨ob,_,_,h1,h2,_⟩:=dd;exact ⟨ob,h1,h2.2.1⟩
section
variable {d:V} {r:Value}
theorem _kb (hu:A.units+1<cLine) (I:Inv X pins σ H s) (g:DGet H a y o) (ry:RelV y u) (rd:RelV d r) (h:∀w' s',Inv X pins σ H s'->RelV (o.getD d) w'->Q w' s') :
  wpAny (model X.prog X.w) A (call (.builtin "dict.get") [.ref a,u,r]) Q E s:=by
 rcases g with ⟨kvs,k,e,ey,l⟩|⟨kvs,k,b,e,ey,eb,l⟩
 ·subst ey;obtain ⟨z,hd,vs,rel,dd⟩:=Vz I.hok e;refine GZ NM dd.typeIs PySem.F.entry_dict_get (N9 _ _ _) (meets_dict_get_default (Yi X.prog X.w) a (X5 ry) hd r) ⟨_,dd.mapOf,h _ _ (I.tok _) ?_⟩;rw [l];exact (rel.val k).getD rd
 ·subst ey;cases (show u=Value.ref b from ry);obtain ⟨z,hd,xs,rel,dd⟩:=V8 I.hok e;refine GZ NM dd.typeIs PySem.F.entry_dict_get (N9 _ _ _) (meetsH_dict_get_default (tupleKind (Yi X.prog X.w)) a b hd r) ⟨Ge hu,k,xs,VZ I.hok eb,dd,h _ _ (I.tok _) ?_⟩;rw [l];exact (rel.val k).getD rd
end
def _g4 (td ty tx:TE):TE:=fun σ H Q=>td σ H fun x H1=>∃a,x=.ref a∧IsD H1 a∧ty σ H1 fun y H2=>tx σ H2 fun z H3=>∃o,DGet H3 a y o∧Q (o.getD z) H3
section
variable {o f:Expr} {apos cpos:Pos} {td ty tx:TE}
theorem UB (hu:X.A.units+1<cLine) (ho:PE X o td) (he:PE X e ty) (hf:PE X f tx) (m:M2 X o "get" apos e f cpos):PE X (.Call (.Attribute o "get" apos) [e,f] [] cpos) (_g4 td ty tx):=by
 intro pins s σ H Q I h;refine wpAny_Call_method m.base m.few m.line Ma NM PySem.F.type_dict_get (_m (ho pins s σ H _ I h) fun u s1 ⟨x,H1,I1,rx,a,ex,d,q1⟩=>?_);subst ex;obtain rfl:u=Value.ref a:=rx;obtain ⟨t1,t2,_⟩:=_gZ I1 d;refine ⟨t1,t2,?_⟩;rw [m.trees]
 refine NJ rfl (GW (Rw (_m (he pins s1 σ H1 _ I1 q1) fun iv s2 ⟨y,H2,I2,ry,q2⟩ =>
  Rw (_m (hf pins s2 σ H2 _ I2 q2) fun fv s3 ⟨z,H3,I3,rz,ov,g,q3⟩=>Gs ?_))))
 exact _kb hu I3 g ry rz fun w' s4 I4 rw'=>⟨_,H3,I4,rw',q3⟩
end
section
variable {kvs:List (_l×V)}
end
end L2
namespace Att
open PySem PySem.W PySem.Calls PyProof.Rows
theorem _oM {P:Params} {h:Heap}:∀(ns:List Int) (vs:List Value),WellAll P h vs (ns.map WData.int)->IntsAre vs ns:=by
 intro ns
 induction ns with
 |nil =>
  intro vs w;rw [Gu] at w;cases w;exact .nil
 |cons n ns ih =>
  intro vs w;rw [Qw] at w;cases w with
  |cons a b =>
   cases a;exact .cons _ _ (ih _ b)
theorem _qm {l:OpenLaw} {n:Nat} (hn:l.most=some n) {P:Params} {h:Heap} {args:List WData} {vals:List Value}
  (hpre:l.row.toRowW.claim.pre args=true) (hwl:WellAll P h vals args) :
  ∃a vs ns,vals=[Value.ref a]∧args=[WData.list (ns.map WData.int)]∧h.get? a=some { cls:=.type "list",data:=.seq vs.toArray }∧IntsAre vs ns∧ns.length≤n:=by
 have hsh:WShape.hasAll [] args [.list .int]=true:=(pre_splitW hpre).1;have hc:l.pre.holds [] { args:=args }=true:=(pre_splitW hpre).2;obtain ⟨d,r,rfl,h1,h2⟩:=hasAllW_cons hsh;obtain rfl:=hasAllW_nil h2;obtain ⟨xs,rfl,h3⟩:=hasW_list h1;obtain ⟨ns,rfl⟩:=items_int h3
 have hlen:ns.length≤n:=by
  unfold OpenLaw.pre at hc
  have h4:(WTm.not (.lt (.lit (.int (n:Int))) (.len (.arg 0)))).holds [] { args:=[.list (ns.map .int)] }=true:=by
   have h4:=(holds_andW hc).1;rw [hn] at h4;exact h4
  have h5:=condW_of h4 (w_not (w_lt w_lit (w_len_list (w_arg rfl))));rw [Qc] at h5;refine Nat.le_of_not_lt fun q=>?_;have q':(n:Int)<((ns.length:Nat):Int):=by omega
  first
   | (rw [Qx q'] at h5;exact absurd h5 (by decide))
   | (simp at h5;omega)
 cases hwl with
 |cons w1 w2 =>
  cases w2;cases w1 with
  |list ho hall=>exact ⟨_,_,ns,rfl,rfl,ho,_oM ns _ hall,hlen⟩
theorem _p6 (l:OpenLaw) (args:List WData):l.row.toRowW.claim.post args (.bool true) args=true :=
 postW_of (r:=l.row.toRowW) (X:=(true==true))
  (show WShape.has [] (.bool true) .bool=true by first|rfl|decide|simp [WShape.has,WShape.arms,WShape.armsAll])
  (show (WTm.eq .res (.lit (.bool true))).value [] { args:=args,res:=some (.bool true),after:=args }=some (.bool (true==true)) from w_eq_bool (w_res rfl) w_lit) rfl
theorem attach_call {l:OpenLaw} {n:Nat} {q:Program} {loose:List Str} {XP:(Str->Option Value)->Heap->Prop} {YP:World->Heap->Prop} {d:DefRec}
  (hn:l.most=some n) (hdf:d.params.defaults=[])
  (call:∀(w:World) (s₀ s₁:Shared) (mg mb:Str->Option Value) (fa:Addr) (o:Obj) (pm cd doc:Value) (a:Addr) (vs:List Value) (ns:List Int),
   Ground q loose [] XP w s₀ mg mb s₁.heap->YP w s₁.heap →
   s₁.heap.get? fa=some o->o.data=.func (docDef d.name d.params d.body d.scope pm cd doc)->s₁.heap.CodeRec cd d.name->mg d.name=some (.ref fa) →
   s₁.heap.get? a=some { cls:=.type "list",data:=.seq vs.toArray }->IntsAre vs ns->ns.length≤n->s₁.gens=#[] →
   codeAny (model l.prog w) callerA (.call (.ref fa) ⟨[.ref a],[]⟩) (fun r s'=>r=.ok (.ret (.bool true))∧OldK s₁.heap s'.heap∧s'.os=s₁.os∧AllBare s'.gens) s₁) :
  WalkO q loose XP YP l.row.toRowW d [] (fun f vs=>PySem.call f vs):=by
 intro w s₀ s₁ mg mb G Y fa o pm cd doc dV kV ho hd hcd hD hmg hg args vals as hpre hlay hrd hwl hlo;obtain rfl:dV=.none:=Dflts.none hD hdf;obtain rfl:kV=.none:=Dflts.noKw hD;obtain ⟨a,vs,ns,rfl,rfl,hobj,hints,hlen⟩:=_qm hn hpre hwl;refine enter_call (RZ (call w s₀ s₁ mg mb fa o pm cd doc a vs ns G Y ho (fd_plain hd) hcd hmg hobj hints hlen hg) fun r s' hq=>?_);obtain ⟨rfl,h2,h3,h4⟩:=hq;exact ⟨.inl ⟨.bool true,.bool true,[],rfl,fun _=>rfl,.bool true,_p6 l _,fun _=>⟨List.Pairwise.nil,fun _ hm=>(nomatch hm)⟩⟩,h2,h3,h4⟩
section
variable {prog:Program} {w:World} {A:Around} {E:Value->Shared->Prop} {s:Shared} {K:Frag}
end
end Att
namespace L2
open PySem PySem.Spec PyProof.Rows
theorem _fA:∀{vs:List Value} {ns:List Int},IntsAre vs ns->Vals (ns.map V.int) vs
 |_,_,.nil=>.nil
 |_,_,.cons n t h=>.cons ⟨t,rfl⟩ (_fA h)
noncomputable def YV (s:Stmt) (j:Nat):Stmt:=match s with
 |.ClassDef _ _ _ body _ _ _ _ _ _ _=>body.getD j (.Pass ⟨0,0,0,0⟩)
 |_=>.Pass ⟨0,0,0,0⟩
noncomputable def Xo (s:Stmt):Arguments:=match s with
 |.FunctionDef _ a _ _ _ _ _ _ _ _=>a
 |_=>{ posonlyargs:=[],args:=[],vararg:=none,kwonlyargs:=[],kw_defaults:=[],kwarg:=none,defaults:=[] }
noncomputable def Y0 (s:Stmt):List Stmt:=match s with
 |.FunctionDef _ _ b _ _ _ _ _ _ _=>b
 |_=>[]
noncomputable def _r (s:Stmt):Scope:=match s with
 |.FunctionDef _ _ _ _ _ _ sc _ _ _=>sc
 |_=>{ kind:=.function,names:=[],isGenerator:=false,isCoroutine:=false }
abbrev E0:XK:=fun _ _ _=>False
structure Fun (K:W.Frag) (x qual:Str) (st:Stmt) (f:Addr) (fd:FuncData):Prop where
 ex:∃(oc:Value) (od:Option Addr) (kV doc pm:Value) (an:Option Addr) (cdv ct:Value) (osl:Array (Option Value)),
  fd=W.fnOf x qual (Xo st) (Y0 st) (_r st) .none kV doc pm an cdv ct∧K.lookup f=some ⟨oc,od,.func fd,osl⟩∧W.codeIn K cdv qual=true
 kp:W.keepIn K (.ref f)=true
section
variable {P:Program} {w:World} {K:W.Frag} {mg:Str->Option Value} {base:Heap}
theorem Fun.binds {x qual:Str} {st:Stmt} {f:Addr} {fd:FuncData} {ps:List Str} (F:Fun K x qual st f fd)
  (h:∀(kV doc pm:Value) (an:Option Addr) (cdv ct:Value) (us:List Value),us.length=ps.length->bindArgs (W.fnOf x qual (Xo st) (Y0 st) (_r st) .none kV doc pm an cdv ct) ⟨us,[]⟩=pure (ps.zip us)):Binds K fd ps []:=by
 obtain ⟨oc,od,kV,doc,pm,an,cdv,ct,osl,rfl,lk,hcd⟩:=F.ex;exact .all (h kV doc pm an cdv ct)
theorem _kk {x qual:Str} {st:Stmt} {f:Addr} {oc:Value} {od an:Option Addr} {osl:Array (Option Value)} {kV doc pm cdv ct:Value} (l:K.lookup f=some ⟨oc,od,.func (W.fnOf x qual (Xo st) (Y0 st) (_r st) .none kV doc pm an cdv ct),osl⟩)
  (c:W.codeIn K cdv qual=true) (k:W.keepIn K (.ref f)=true):Fun K x qual st f (W.fnOf x qual (Xo st) (Y0 st) (_r st) .none kV doc pm an cdv ct):=⟨⟨oc,od,kV,doc,pm,an,cdv,ct,osl,rfl,l,c⟩,k⟩
end
theorem Ye {A:Around} {k:Nat} (hr:Room k A):A.units+1<cLine:=Rt (Nat.add_le_add_left (by decide:1≤64) _) hr.units
theorem _y {n:Nat} (h:n≤1000):n<sizeLine:=Rt h (by decide)
section
variable {X:Cx}
theorem pv (i:Nat) {x:Str} {pos:Pos} (hN:X.N[i]?=some x:=by rfl) (hv:JG X.env.scope x:=by first|exact Or.inl rfl|exact Or.inr (Or.inl rfl)|exact Or.inr (Or.inr rfl)) (hd:(x==("__debug__" : Str))=false:=by decide)
  (hcd:(x==("__classdict__" : Str))=false:=by decide):PE X (.Name x pos) (YT i):=_dy hN hv hd hcd
theorem _ls:YE X (.builtin "len") (fun xs H Q=>∃a kvs,xs=[V.ref a]∧H a=some (.dK kvs)∧Q (.int kvs.length) H):=by
 intro pins s σ H xs us Q I r h;obtain ⟨a,kvs,rfl,ha,q⟩:=h;obtain ⟨u,rfl,ru⟩:=Y8 r;cases ru;exact _j9 I (.inl ha) fun t s' I'=>⟨.int kvs.length,H,I',⟨t,rfl⟩,q⟩
end
theorem Yb {A B:Prop} (h:B):if false=true then A else B:=by
 rw [Qa QG];exact h
theorem Yt {A B:Prop} (h:A):if true=true then A else B:=by
 rw [Qb rfl];exact h
def Same (H H':Hp):Prop:=∀b o,H b=some o->H' b=some o
theorem Same.refl (H:Hp):Same H H:=fun _ _ h=>h
theorem Same.trans {H H1 H2:Hp} (a:Same H H1) (b:Same H1 H2):Same H H2:=fun c o h=>b c o (a c o h)
section
variable {κ:Type} [DecidableEq κ]
end
end L2
set_option maxHeartbeats 4000000
namespace L2
open PySem PySem.Spec PyProof.Rows
variable {C a b e f it:Addr} {A:Around} {X:Cx} {tg:Expr} {o:HO} {h h':Heap} {H H':Hp} {J:It} {pins:List (Addr×Obj)} {fp:List Addr} {es:List Expr} {N:List Str} {xs ys:List V} {bmB us:List Value} {i n t':Nat} {Q:Option Value->Shared->Prop} {p pos:Pos} {P prog:Program} {R:Result->Shared->Prop} {sc:Scope} {s s':Shared} {newId:String} {te:TE} {tk:Tok} {cls:Value} {E:Value->Shared->Prop} {CX:Yn}
section
variable {w:World}
end
structure Flies (P:Program) (w:World) (outer:List Env) (H H':Hp) (s s':Shared) (e:Addr) (cls:Value):Prop where
 os:s'.os=s.os
 bare:AllBare s'.gens
 un:Un (YH outer) [] H H' s.heap s'.heap
 fly:∃B a0,Heap.FlyingW B outer e cls a0 s'.heap∧HOk P w H' B∧(∀b o,s.heap.get? b=some o->H b=none->b∉YH outer->B.get? b=some o) ∧
  ∀b o,s.heap.get? b=some o->b∉YH outer->∃o',B.get? b=some o'
noncomputable def Xb (P:Program) (w:World):Yn:=fun outer H s E u s'=>∃e cls H',u=.ref e∧Flies P w outer H H' s s' e cls∧E cls none H'
section
variable {σ:St}
end
abbrev XS:=St->XK
def VS (CX:Yn) (X:Cx) (E:XS):Prop:=∀(pins:List (Addr×Obj)) (σ:St) (H:Hp) (s:Shared) (e:Value) (s':Shared),Inv X pins σ H s->CX X.stack H s (E σ) e s'->X.xe e s'
theorem VG {w:World}:VS (Xb P w) X (fun _=>E0):=fun _ _ _ _ _ _ _ ⟨_,_,_,_,_,z⟩=>False.elim z
section
variable {w:World} {K:W.Frag} {mg:Str->Option Value} {base:Heap} {qual:Str} {scope:Scope} {cd:Value} {outer:List Env} {E:XK}
end
section
variable {k:Nat} {fd:FuncData} {ps:List Str} {sp:Sp} {dvs:List V} {ds:List Value} {E:XS} {x m:Str} {apos:Pos} {e o:Expr} {ta:TE} {t:TA}
def _gK (sp:Sp) (dvs:List V) (E:XS) (t:TA):TE:=fun σ H Q=>t σ H fun vs H1=>sp (vs++dvs) H1 Q (E σ)
theorem _cP {σ:St} {Q:VK} {vs:List V} (F:FnOk X.prog X.w X.K X.mg X.base CX k f fd ps sp) (hr:Room k X.A) (hb:Binds X.K fd ps ds) (hd:Vals dvs ds) (hx:VS CX X E)
 (I:Inv X pins σ H s) (r:Vals vs us) (h:sp (vs++dvs) H Q (E σ)):wpAny (model X.prog X.w) X.A (call (.ref f) us) (EP X pins σ Q) X.xe s:=by
 have r2:Vals (vs++dvs) (us++ds):=r.append hd;have hl:(us++ds).length=ps.length:=by rw [←r2.length];exact F.len _ _ _ _ h
 refine RY (RZ (F.run X.A X.stack s H ⟨us,[]⟩ (us++ds) (vs++dvs) Q (E σ) hr I.env0 (hb s us I.kIn hl) r2 h) fun r s' hq=>?_);cases r with
 |error e=>exact hx pins σ H s e s' I hq
 |ok fl =>
  cases fl with
  |ret u=>exact I.after hq
  |next=>exact False.elim hq
  |brk=>exact False.elim hq
  |cont=>exact False.elim hq
theorem _qG (F:FnOk X.prog X.w X.K X.mg X.base CX k f fd ps sp) (hr:Room k X.A) (hg:Gl X x) (hm:X.mg x=some (.ref f)) (hk:W.keepIn X.K (.ref f)=true) (hb:Binds X.K fd ps ds) (hd:Vals dvs ds) (hx:VS CX X E)
 (ha:PA X (e::es) t) (hdb:(x==("__debug__": Str))=false:=by decide) (he:starEach (e::es) X.env=(false,eval e X.env)::starEach es X.env:=by rfl) (hpl:(backTo pos (starEach es X.env)).any (·.1)=false:=by rfl) :
  PE X (.Call (.Name x p) (e::es) [] pos) (_gK sp dvs E t):=by
 intro pins s σ H Q I h;refine Rl (_aT I hg hm ?_ hdb);refine Gy (h₀:=X.base) I.ok.mod.kin hk (_m (ha pos pins s σ H _ I h) fun us s1 ⟨vs,H1,I1,r,q⟩=>⟨I1.kIn,?_⟩) he hpl;exact _cP F hr hb hd hx I1 r q
end
section
variable {K:W.Frag}
end
section
variable {x:Str} {np cpos:Pos} {e₀:Expr} {rest:List Expr} {t:TA} {B initId:String} {E:XS}
end
def _gg (cls:Value) (e:Addr):Heap->Prop:=fun h=>∃o vs,h.get? e=some o∧o.cls=cls∧o.data=.fields vs
noncomputable def _fV (cls:Value) (e:Addr):HO:=.ext (_gg cls e)
section
variable {w:World}
end
section
variable {w:World} {outer:List Env}
end
section
variable {σ:St}
end
section
variable {pins':List (Addr×Obj)} {σ:St} {W:Value->Shared->Prop}
end
section
variable {body suite:List Stmt} {b₀:Stmt} {x n:Str} {np hpos:Pos} {tb:XS->TS} {ts:TS}
end
structure ExcK (K:W.Frag) (C:Addr):Prop where
 ga:W.findIn K (.ref C) "__getattribute__"=some (some (.builtin "BaseException.__getattribute__"))
 gt:W.findIn K (.ref C) "__getattr__"=some none
 cl:W.findIn K (.ref C) "__class__"=some (some (.builtin "object.__class__"))
 mb:W.mroIn K C (.type "BaseException")=some true
 mo:W.mroIn K C (.type "object")=some true
section
variable {w:World} {K:W.Frag} {g:Array GenState} {d:Drawn} {t:Nat} {os:OsState} {ob:Obj}
theorem _l1:(".".intercalate ("object.__class__".cutAt '.').dropLast)="object":=by trivial
theorem _qx (X:K.In h) (Z:ExcK K C) (hx:h.get? a=some ob) (hc:ob.cls=.ref C) (hq:R (.ok (.ret (.ref C))) ⟨h,g,d,t,os⟩) :
  codeAny (model prog w) A (.call (.builtin "getset_descriptor.__get__") ⟨[.builtin "object.__class__",.ref a,.ref C],[]⟩) R ⟨h,g,d,t,os⟩:=by
 have k5:(⟨h,g,d,t,os⟩:Shared).TypeIs (.builtin "object.__class__") "getset_descriptor":=NN
 have mo:W.Looks (model prog w) h (isSubtype (.ref C) (.type (".".intercalate ("object.__class__".cutAt '.').dropLast))) true:=by
  rw [_l1];exact W.looks_mroIn X Z.mo
 refine codeAny_call_builtin F.slot_gs_get.plain F.entry_gs_get (F.slot_gs_get.check _ _ _ _ _ _ _ _ k5 (F.args_gs_get _ _ _) ?_)
 repeat (any_goals (first|assumption|(with_reducible refine Gz hx ?_;rw [hc])|(with_reducible refine mo.at ?_)|wp_step))
 refine ⟨G6 _ (by trivial),R3 F.entry_object_class ?_⟩
 repeat (any_goals (first|assumption|(with_reducible refine Gz hx ?_;rw [hc])|wp_step))
theorem _mI {Q:Fin->Shared->Prop} (X:K.In h) (Z:ExcK K C) (hx:h.get? a=some ob) (hc:ob.cls=.ref C) (hq:Q (.done (.ret (.ref C))) ⟨h,g,d,t,os⟩) :
  wpAny (model prog w) A (Builtin.«object.__getattribute__» ⟨[.ref a,.str "__class__" tk],[]⟩) Q E ⟨h,g,d,t,os⟩:=by
 have k5:(⟨h,g,d,t,os⟩:Shared).TypeIs (.builtin "object.__class__") "getset_descriptor":=NN;have f5:=NN;have f6:=F.slot_gs_get.lookup;have f7:=F.slot_gs_set.lookup;have lc:=GR (M:=model prog w) X Z.cl
 repeat (any_goals (first|assumption|(with_reducible refine Gz hx ?_;rw [hc])|(with_reducible refine lc.at ?_)|wp_step))
 refine _qx X Z hx hc ?_
 repeat (any_goals (first|assumption|wp_step))
theorem _ly {M:Model} {nameV:Value} {Q:Unit->Shared->Prop} (X:K.In h) (Z:ExcK K C) (hx:h.get? a=some ob) (hc:ob.cls=.ref C) (hq:Q () ⟨h,g,d,t,os⟩) :
  wpAny M A (checkBuiltinCall "BaseException.__getattribute__" ⟨[.ref a,nameV],[]⟩) Q E ⟨h,g,d,t,os⟩:=by
 have kd:builtinKind "BaseException.__getattribute__"=some .slot:=by trivial
 have sp:splitId "BaseException.__getattribute__"=some ("BaseException","__getattribute__"):=by trivial
 have mb:=W.looks_mroIn (M:=M) X Z.mb;have ar:=F.args_bexc_ga (.ref a) nameV;simp only [checkBuiltinCall,kd,sp];refine Qd ?_;unfold isInstance
 repeat (first|(with_reducible refine Gz hx ?_;rw [hc])|(with_reducible refine mb.at ?_)|wp_step)
 exact hq
theorem _qe (X:K.In h) (Z:ExcK K C) (hx:h.get? a=some ob) (hc:ob.cls=.ref C) (hq:R (.ok (.ret (.ref C))) ⟨h,g,d,t,os⟩) :
  codeAny (model prog w) A (.call (.builtin "BaseException.__getattribute__") ⟨[.ref a,.str "__class__" tk],[]⟩) R ⟨h,g,d,t,os⟩ :=
 codeAny_call_builtin (F.excAttr_ValueError).ga.plain F.entry_bexc_ga (_ly X Z hx hc (_mI X Z hx hc hq))
theorem _p2 {fill expr:Bool} {Q:Value->Shared->Prop} (X:K.In h) (Z:ExcK K C) (hx:h.get? a=some ob) (hc:ob.cls=.ref C) (hq:Q (.ref C) ⟨h,g,d,t,os⟩) :
  wpAny (model prog w) A (getAttrBy (.ref a) (.str "__class__" tk) fill expr) Q E ⟨h,g,d,t,os⟩:=by
 have f3:=(F.excAttr_ValueError).ga.bind (.ref a);have y0:(expr&&onTheHeap (Value.builtin "BaseException.__getattribute__"))=false:=by cases expr<;>rfl
 have y2:(Value.builtin "BaseException.__getattribute__"==Value.builtin "object.__getattribute__")=false:=by trivial
 have y1:(onTheHeap (Value.ref C)&&Value.builtin "BaseException.__getattribute__"==Value.builtin "object.__getattribute__")=false:=by rw [y2];rfl
 have lg:=GR (M:=model prog w) X Z.ga;have lt:=GR (M:=model prog w) X Z.gt
 repeat (any_goals (first|assumption|(with_reducible refine Gz hx ?_;rw [hc])|(with_reducible refine lg.at ?_)|(with_reducible refine lt.at ?_)|wp_step))
 refine _qe X Z hx hc ?_
 repeat (any_goals (first|assumption|wp_step))
theorem _pZ (X:K.In h) (Z:ExcK K C) (hx:h.get? a=some ob) (hc:ob.cls=.ref C) (hq:Q (some (.ref C)) ⟨h,g,d,t+1,os⟩) :
  wpAny (model prog w) A (getAttr? (.ref a) "__class__") Q E ⟨h,g,d,t,os⟩:=by
 unfold getAttr? getAttrBy?
 repeat (any_goals (first|assumption|with_reducible apply _p2 X Z hx hc|wp_step))
end
section
variable {K:W.Frag}
theorem _pP (Z:ExcK K C):W.KitX K (.ref a) (.ref C) (_gg (.ref C) a) where
 ty:=fun M h X p=>by
  obtain ⟨o,vs,h1,h2,_⟩:=p;exact h2▸(W.Looks.ld h1).andThen .now
 it:=fun M h X p=>by
  obtain ⟨cd,hc,_⟩:=Mb.mp Z.mo;unfold W.clsIn at hc;split at hc
  ·rename_i ho;intro A' Q' E' s' k q;unfold isType loadHead;exact Qd (wpAny_loadPart (k _ _ (X _ _ ho)) (Qf q))
  ·cases hc
 ne:=fun h tp dd its n sl X htp=>by
  obtain ⟨cd,hc,_⟩:=Mb.mp Z.mo;refine Rm.mpr fun q=>?_;have e:C=tp:=Value.ref.inj (RX.mp q);subst e;unfold W.clsIn at hc;split at hc
  ·rename_i ho;have z:=(X _ _ ho).symm.trans htp;cases z
  ·cases hc
 ca:=fun {prog w A E Q s} X p k=>by
  obtain ⟨h,g,d,t,os⟩:=s;obtain ⟨o,vs,h1,h2,_⟩:=p;exact _pZ X Z h1 h2 k
end
inductive Kd (K:W.Frag) (H:Hp):V->Value->Prop where
 |of {x:V} {t:Value} (e:TyOf K H x t):Kd K H x t
 |exc {a C:Addr} (Z:ExcK K C) (e:H a=some (_fV (.ref C) a)):Kd K H (.ref a) (.ref C)
 |sqt {a:Addr} {xs:List V} (e:SqT K H a xs):Kd K H (.ref a) (.type "tuple")
 |sql {a:Addr} {xs:List V} (e:SqL K H a xs):Kd K H (.ref a) (.type "list")
noncomputable def isC:V->Bool
 |.ref _=>true
 |.ty _=>true
 |_=>false
noncomputable def _kq:V->Bool
 |.ty _=>true
 |_=>false
noncomputable def _ch:V->Value
 |.ref a=>.ref a
 |.ty n=>.type n
 |_=>.none
theorem _pE:YE X (.builtin "isinstance") (fun xs H Q=>∃x c t b,xs=[x,c]∧isC c=true∧Kd X.K H x t∧W.kitOne X.K t (_ch c)=some b∧Q (.bl b) H):=by
 intro pins s σ H xs us Q I r h;obtain ⟨x,c,t,b,rfl,ic,ty,e,q⟩:=h;obtain ⟨u,v,rfl,rx,rc⟩:=VN r
 have ec:_ch c=v:=by
  cases c with
  |ref a=>exact Eq.symm rc
  |ty n=>exact Eq.symm rc
  |_=>cases ic
 rw [ec] at e;have fin:∀tk,EP X pins σ Q (.bool b) { s with toks:=tk }:=fun tk=>⟨.bl b,H,I.tok tk,rfl,q⟩;cases ty with
 |of ty=>exact _or I rx ty e fin
 |@exc a C Z ea =>
  cases (show u=Value.ref a from rx);obtain ⟨p,_,_⟩:=(show ObjOk X.prog X.w H s.heap a (_fV (.ref C) a) from I.hok a _ ea);exact QZ (_pP Z) I.kIn p e (fun z=>nomatch z) fin
 |@sqt a ys ea =>
  cases (show u=Value.ref a from rx);rcases ea with ea|⟨o,its,n,h1,h2,_⟩
  ·obtain ⟨_,_,_,p⟩:=(show ObjOk X.prog X.w H s.heap a (.tup ys) from ea.ok I.hok);obtain ⟨o,h1,h2,_⟩:=p;exact QZ W.kitx_tuple I.kIn ⟨o,h1,h2⟩ e (fun z=>nomatch z) fin
  ·exact QZ W.kitx_tuple I.kIn ⟨o,I.kIn _ _ h1,h2⟩ e (fun z=>nomatch z) fin
 |@sql a ys ea =>
  cases (show u=Value.ref a from rx);rcases ea with ea|⟨o,its,n,h1,h2,_⟩
  ·obtain ⟨_,_,n,_,h1⟩:=(show ObjOk X.prog X.w H s.heap a (.lst ys) from ea.ok I.hok);exact QZ GS I.kIn ⟨_,h1,rfl⟩ e (fun z=>nomatch z) fin
  ·exact QZ GS I.kIn ⟨o,I.kIn _ _ h1,h2⟩ e (fun z=>nomatch z) fin
theorem _i9:_9 X (compareOp .IsNot) (fun x y H Q=>∃k,y=.bl k∧_kq x=false∧Q (.bl (!decide (x=.bl k))) H):=by
 intro pins s σ H x y v u Q I rx ry h;obtain ⟨k,rfl,nt,q⟩:=h;cases ry;show wpAny _ _ (do return Value.bool (!(←isSame v (.bool k)))) _ _ s
 have e:isSame v (.bool k)=pure (decide (x=.bl k)):=by
  cases x with
  |ty n=>cases nt
  |bl c=>cases rx;cases c<;>cases k<;>rfl
  |non=>cases rx;rfl
  |ref a=>cases rx;rfl
  |_=>obtain ⟨t,rfl⟩:=rx;rfl
 rw [e];exact Qd (Qf (Qf ⟨.bl _,H,I,rfl,q⟩))
theorem WM:_9 X (binaryOp .FloorDiv) (rI (fun _ j=>j≠0∧j.natAbs<2 ^ 1000) fun i j=>.int (i.fdiv j)):=opI fun i j _ _ _ _ _ hc q =>
 floordiv_int hc.1 q (.inl (PyProof.noPylong_of_log2 (by
  have n:j.natAbs≠0:=fun z=>hc.1 (Int.natAbs_eq_zero.mp z);have:=(Nat.log2_lt n).mpr hc.2;omega)))
theorem Fun.okX {w:World} {K:W.Frag} {mg:Str->Option Value} {base:Heap} {x qual:Str} {st:Stmt} {fd:FuncData} {ps:List Str} {k:Nat} {sp:Sp} (F:Fun K x qual st f fd) (S:FnScope N ps (_r st))
 (len:∀vs H Q E,sp vs H Q E->vs.length=ps.length)
 (hbody:∀(cdv:Value) (A:Around) (outer:List Env) (s:Shared) (H:Hp) (vs:List V) (Q:VK) (E:XK),Room k (A.deeper (envOfC qual (_r st) s.heap.objs.size f cdv))->sp vs H Q E →
 ∃t,PSs (Vg CX P w K mg base N qual (_r st) f cdv A outer s H E) (Y0 st) t∧t { nx:=fun _ H'=>Q .non H',rt:=Q } (start N vs) H):FnOk P w K mg base CX (k+1) f fd ps sp:=by
 obtain ⟨oc,od,kV,doc,pm,an,cdv,ct,osl,rfl,lk,hcd⟩:=F.ex;exact _fm lk hcd S len fun A outer s H vs Q E hr hsp=>hbody cdv A outer s H vs Q E hr hsp
theorem _a4:bootBuiltins "int"=some (.type "int"):=by trivial
theorem _pR:bootBuiltins "bool"=some (.type "bool"):=by trivial
theorem VI:bootBuiltins "str"=some (.type "str"):=by trivial
theorem _lE:bootBuiltins "list"=some (.type "list"):=by trivial
theorem _a1:bootBuiltins "tuple"=some (.type "tuple"):=by trivial
theorem Yw:bootBuiltins "len"=some (.builtin "len"):=by trivial
theorem _nd:bootBuiltins "abs"=some (.builtin "abs"):=by trivial
theorem _ao:bootBuiltins "max"=some (.builtin "max"):=by trivial
theorem _iA:bootBuiltins "min"=some (.builtin "min"):=by trivial
theorem _no:bootBuiltins "isinstance"=some (.builtin "isinstance"):=by trivial
theorem _h {p:Addr} (n:H p=none):Same H (_c H p o):=fun b u e=>by
 rw [_d (_t e n)];exact e
theorem Same.rd (e:Same H H') {u:HO} (r:Rd H a u):Rd H' a u:=by
 rcases r with r|⟨o,r⟩
 ·exact .inl (e _ _ r)
 ·exact .inr ⟨o,e _ _ r⟩
theorem Same.sqt {K:W.Frag} (e:Same H H') (h:SqT K H a xs):SqT K H' a xs:=by
 rcases h with h|h
 ·exact .inl (e.rd h)
 ·exact .inr h
theorem Same.sql {K:W.Frag} (e:Same H H') (h:SqL K H a xs):SqL K H' a xs:=by
 rcases h with h|h
 ·exact .inl (e.rd h)
 ·exact .inr h
theorem Same.ty {K:W.Frag} {x:V} {t:Value} (e:Same H H') (h:TyOf K H x t):TyOf K H' x t:=by
 cases h with
 |non=>exact .non
 |bl b=>exact .bl b
 |int i=>exact .int i
 |str y=>exact .str y
 |flt y=>exact .flt y
 |lst q=>exact .lst (e _ _ q)
 |frz q=>exact .frz (e _ _ q)
 |tup q=>exact .tup (e _ _ q)
 |dK q=>exact .dK (e _ _ q)
 |dT q=>exact .dT (e _ _ q)
 |ins q c a n tk m=>exact .ins (e _ _ q) c a n tk m
theorem Same.kd {K:W.Frag} {x:V} {t:Value} (e:Same H H') (h:Kd K H x t):Kd K H' x t:=by
 cases h with
 |of q=>exact .of (e.ty q)
 |exc Z q=>exact .exc Z (e _ _ q)
 |sqt q=>exact .sqt (e.sqt q)
 |sql q=>exact .sql (e.sql q)
def _nM (K:W.Frag) (t:TA):TE:=fun σ H Q=>t σ H fun xs H1=>∃x c ty b,xs=[x,c]∧isC c=true∧Kd K H1 x ty∧W.kitOne K ty (_ch c)=some b∧Q (.bl b) H1
theorem Wf (K:W.Frag) {e:Expr} {t:TA} (hg:Gl X "isinstance") (hm:X.mg "isinstance"=none) (ha:PA X (e::es) t) (hK:X.K=K:=by rfl)
 (he:starEach (e::es) X.env=(false,eval e X.env)::starEach es X.env:=by rfl) (hpl:(backTo pos (starEach es X.env)).any (·.1)=false:=by rfl):PE X (.Call (.Name "isinstance" p) (e::es) [] pos) (_nM K t):=by
 subst hK;exact _X (_pE (X:=X)) hg hm _no ha (by decide) (by decide) he hpl
inductive D where
 |non|bl (b:Bool)|int (i:Int)|str (x:Str)|tup (ds:List D)|lst (ds:List D)
mutual
def Is (K:W.Frag) (H:Hp):D->V->Prop
 |.non,v=>v=.non
 |.bl b,v=>v=.bl b
 |.int i,v=>v=.int i
 |.str x,v=>v=.str x
 |.tup ds,v=>∃a xs,v=.ref a∧SqT K H a xs∧IsL K H ds xs
 |.lst ds,v=>∃a xs,v=.ref a∧SqL K H a xs∧IsL K H ds xs
def IsL (K:W.Frag) (H:Hp):List D->List V->Prop
 |[],xs=>xs=[]
 |d::ds,xs=>∃x r,xs=x::r∧Is K H d x∧IsL K H ds r
end
mutual
noncomputable def YY:D->D->Bool
 |.non,.non=>true
 |.bl a,.bl b=>a==b
 |.bl a,.int b=>(if a then 1 else 0)==b
 |.int a,.bl b=>a==(if b then 1 else 0)
 |.int a,.int b=>a==b
 |.str a,.str b=>a==b
 |.tup a,.tup b=>Xd a b
 |.lst a,.lst b=>Xd a b
 |_,_=>false
noncomputable def Xd:List D->List D->Bool
 |[],[]=>true
 |x::xs,y::ys=>YY x y&&Xd xs ys
 |_,_=>false
end
mutual
noncomputable def XF:D->Nat
 |.tup ds=>YI ds+1
 |.lst ds=>YI ds+1
 |_=>0
noncomputable def YI:List D->Nat
 |[]=>0
 |d::ds=>max (XF d) (YI ds)
end
section
variable {K:W.Frag}
mutual
theorem Same.is (e:Same H H'):∀(d:D) {v:V},Is K H d v->Is K H' d v
 |.non,v,h=>h
 |.bl b,v,h=>h
 |.int i,v,h=>h
 |.str x,v,h=>h
 |.tup ds,v,h=>by
  obtain ⟨a,xs,rfl,q,r⟩:=h;exact ⟨a,xs,rfl,e.sqt q,Same.isL e ds r⟩
 |.lst ds,v,h=>by
  obtain ⟨a,xs,rfl,q,r⟩:=h;exact ⟨a,xs,rfl,e.sql q,Same.isL e ds r⟩
theorem Same.isL (e:Same H H'):∀(ds:List D) {xs:List V},IsL K H ds xs->IsL K H' ds xs
 |[],xs,h=>h
 |d::ds,xs,h=>by
  obtain ⟨x,r,rfl,h1,h2⟩:=h;exact ⟨x,r,rfl,Same.is e d h1,Same.isL e ds h2⟩
end
theorem IsL.length:∀{ds:List D} {xs:List V},IsL K H ds xs->xs.length=ds.length
 |[],xs,h=>by cases (show xs=[] from h);rfl
 |d::ds,xs,h=>by
  obtain ⟨x,r,rfl,_,h2⟩:=h;rw [QJ,QJ,IsL.length h2]
end
section
variable {σ:St}
theorem Inv.isList (I:Inv X pins σ H s) (h:SqL X.K H a xs):∃its:List Value,Vals xs its∧s.heap.IsList a its.toArray:=by
 rcases h with h|⟨o,its,n,h1,h2,_,h3,_,r⟩
 ·obtain ⟨_,its,n,r,e⟩:=(show ObjOk X.prog X.w H s.heap a (.lst xs) from h.ok I.hok);exact ⟨its,r,_,e,rfl,n,rfl⟩
 ·exact ⟨its.toList,r,o,I.kIn _ _ h1,h2,n,by simpa using h3⟩
theorem Inv.isTup (I:Inv X pins σ H s) (h:SqT X.K H a xs):∃its:List Value,Vals xs its∧s.heap.IsTuple a its.toArray:=by
 rcases h with h|⟨o,its,n,h1,h2,h3,_,r⟩
 ·obtain ⟨_,its,r,e⟩:=(show ObjOk X.prog X.w H s.heap a (.tup xs) from h.ok I.hok);exact ⟨its,r,e⟩
 ·exact ⟨its.toList,r,o,I.kIn _ _ h1,h2,n,by simpa using h3⟩
theorem _aQ:∀{ds ds':List D},ds.length≠ds'.length->Xd ds ds'=false
 |[],[],h=>absurd rfl h
 |[],_::_,_=>rfl
 |_::_,[],_=>rfl
 |d::ds,d'::ds',h=>by
  unfold Xd;rw [_aQ (ds:=ds) (ds':=ds') fun z=>h (by rw [QJ,QJ,z]),NO]
noncomputable def Vq (ds ds':List D) (j:Nat):Bool:=YY (ds.getD j .non) (ds'.getD j .non)
theorem _bx:∀{ds ds':List D},ds.length=ds'.length->(List.range ds.length).all (Vq ds ds')=Xd ds ds'
 |[],[],_=>rfl
 |[],_::_,h=>by cases h
 |_::_,[],h=>by cases h
 |d::ds,d'::ds',h=>by
  have h':ds.length=ds'.length:=by simpa using h
  rw [QJ,List.range_succ_eq_map,Gv,GA];unfold Xd;rw [←_bx h'];rfl
theorem Inv.tup_fun (I:Inv X pins σ H s) (h:SqT X.K H a xs) (h':SqT X.K H a ys):xs=ys:=by
 obtain ⟨us,r,o,e,_,n,d⟩:=I.isTup h;obtain ⟨us',r',o',e',_,n',d'⟩:=I.isTup h';rw [e] at e';cases e';rw [d] at d';injection d' with d1 _;have z:us=us':=by simpa using d1
 subst z;exact r.inj r'
theorem Inv.lst_fun (I:Inv X pins σ H s) (h:SqL X.K H a xs) (h':SqL X.K H a ys):xs=ys:=by
 obtain ⟨us,r,o,e,_,n,d⟩:=I.isList h;obtain ⟨us',r',o',e',_,n',d'⟩:=I.isList h';rw [e] at e';cases e';rw [d] at d';injection d' with d1 _;have z:us=us':=by simpa using d1
 subst z;exact r.inj r'
theorem Inv.tup_lst (I:Inv X pins σ H s) (h:SqT X.K H a xs) (h':SqL X.K H a ys):False:=by
 obtain ⟨us,r,o,e,c,_⟩:=I.isTup h;obtain ⟨us',r',o',e',c',_⟩:=I.isList h';rw [e] at e';cases e';rw [c] at c';exact absurd (Value.type.inj c') (by decide)
mutual
theorem _hO (I:Inv X pins σ H s):∀(d d':D) {v:V},Is X.K H d v->Is X.K H d' v->d=d'
 |.non,d',v,h,h'=>by
  cases (show v=.non from h);cases d'<;>first|rfl|(obtain ⟨_,_,z,_⟩:=h';cases z;done)|cases h'
 |.bl c,d',v,h,h'=>by
  cases (show v=.bl c from h);cases d'<;>first|rfl|(obtain ⟨_,_,z,_⟩:=h';cases z;done)|(cases h';done)|(cases h';rfl)
 |.int c,d',v,h,h'=>by
  cases (show v=.int c from h);cases d'<;>first|rfl|(obtain ⟨_,_,z,_⟩:=h';cases z;done)|(cases h';done)|(cases h';rfl)
 |.str c,d',v,h,h'=>by
  cases (show v=.str c from h);cases d'<;>first|rfl|(obtain ⟨_,_,z,_⟩:=h';cases z;done)|(cases h';done)|(cases h';rfl)
 |.tup ds,d',v,h,h'=>by
  obtain ⟨a,xs,rfl,q,hl⟩:=h;cases d' with
  |tup ds' =>
   obtain ⟨a',xs',e,q',hl'⟩:=h';cases e;rw [I.tup_fun q q'] at hl;rw [J2 I ds ds' hl hl']
  |lst ds' =>
   obtain ⟨a',xs',e,q',hl'⟩:=h';cases e;exact (I.tup_lst q q').elim
  |_=>cases h'
 |.lst ds,d',v,h,h'=>by
  obtain ⟨a,xs,rfl,q,hl⟩:=h;cases d' with
  |lst ds' =>
   obtain ⟨a',xs',e,q',hl'⟩:=h';cases e;rw [I.lst_fun q q'] at hl;rw [J2 I ds ds' hl hl']
  |tup ds' =>
   obtain ⟨a',xs',e,q',hl'⟩:=h';cases e;exact (I.tup_lst q' q).elim
  |_=>cases h'
theorem J2 (I:Inv X pins σ H s):∀(ds ds':List D) {xs:List V},IsL X.K H ds xs->IsL X.K H ds' xs->ds=ds'
 |[],ds',xs,h,h'=>by
  cases (show xs=[] from h);cases ds' with
  |nil=>rfl
  |cons d r=>obtain ⟨_,_,z,_⟩:=h';cases z
 |d::ds,ds',xs,h,h'=>by
  obtain ⟨x,r,rfl,h1,h2⟩:=h;cases ds' with
  |nil=>cases h'
  |cons d' ds' =>
   obtain ⟨x',r',e,h1',h2'⟩:=h';cases e;rw [_hO I d d' h1 h1',J2 I ds ds' h2 h2']
end
mutual
theorem _nY:∀d:D,YY d d=true
 |.non=>rfl
 |.bl b=>by simp [YY]
 |.int i=>by simp [YY]
 |.str x=>by simp [YY]
 |.tup ds=>by simp only [YY];exact _aj ds
 |.lst ds=>by simp only [YY];exact _aj ds
theorem _aj:∀ds:List D,Xd ds ds=true
 |[]=>rfl
 |d::ds=>by simp only [Xd,_nY d,_aj ds,Bool.and_self]
end
theorem Uo {α:Type} {l:List α} {x y:α} (h:l[i]?=some x):l.getD i y=x:=by simp [List.getD,h]
theorem _kL {ds ds':List D} {xs':List V} {us':List Value} {a':Addr} (I:Inv X pins σ H s) (hl:IsL X.K H ds xs) (hl':IsL X.K H ds' xs') (rv:Vals xs us) (rv':Vals xs' us')
 (z:s.heap.IsTuple a us.toArray) (z':s.heap.IsTuple a' us'.toArray) (hu:A.units<cLine)
 (it:∀(j:Nat) (d d':D) (u u':Value),ds[j]?=some d->ds'[j]?=some d'->us[j]?=some u->us'[j]?=some u'->SeqAt.EqAt A.in1 s u u' (YY d d')):SeqAt.RcAt A s (.ref a) (.ref a') (Xd ds ds'):=by
 have e1:us.length=ds.length:=by rw [←rv.length,hl.length]
 have e2:us'.length=ds'.length:=by rw [←rv'.length,hl'.length]
 have g:=SeqAt.RcAt.tuples (e:=Vq ds ds') z z' hu fun j h1 h2=>by
  have g1:j<ds.length:=by rw [←e1];simpa using h1
  have g2:j<ds'.length:=by rw [←e2];simpa using h2
  have k1:ds[j]?=some ds[j]:=Qt g1;have k2:ds'[j]?=some ds'[j]:=Qt g2;unfold Vq;rw [Uo k1,Uo k2];exact it j _ _ _ _ k1 k2 (by simp) (by simp)
 have en:((List.range (min us.toArray.size us'.toArray.size)).all (Vq ds ds')&&us.toArray.size==us'.toArray.size)=Xd ds ds':=by
  simp only [Qv,e1,e2];by_cases q:ds.length=ds'.length
  ·rw [←q,Nat.min_self,_bx q,beq_self_eq_true,Bool.and_true]
  ·rw [_aQ q,(Rz.mpr q),NO]
 rw [en] at g;exact g
theorem _lD {ds ds':List D} {xs':List V} {us':List Value} {a':Addr} (I:Inv X pins σ H s) (hl:IsL X.K H ds xs) (hl':IsL X.K H ds' xs') (rv:Vals xs us) (rv':Vals xs' us')
 (z:s.heap.IsList a us.toArray) (z':s.heap.IsList a' us'.toArray) (hu:A.units<cLine)
 (it:∀(j:Nat) (d d':D) (u u':Value),ds[j]?=some d->ds'[j]?=some d'->us[j]?=some u->us'[j]?=some u'->SeqAt.EqAt A.in1 s u u' (YY d d')):SeqAt.RcAt A s (.ref a) (.ref a') (Xd ds ds'):=by
 have e1:us.length=ds.length:=by rw [←rv.length,hl.length]
 have e2:us'.length=ds'.length:=by rw [←rv'.length,hl'.length]
 by_cases q:ds.length=ds'.length
 ·have g:=SeqAt.RcAt.lists (e:=Vq ds ds') z z' (by simp only [Qv,e1,e2,q]) hu fun j h1 h2=>by
   have g1:j<ds.length:=by rw [←e1];simpa using h1
   have g2:j<ds'.length:=by rw [←e2];simpa using h2
   have k1:ds[j]?=some ds[j]:=Qt g1;have k2:ds'[j]?=some ds'[j]:=Qt g2;unfold Vq;rw [Uo k1,Uo k2];exact it j _ _ _ _ k1 k2 (by simp) (by simp)
  rw [show us.toArray.size=ds.length by simp [e1],_bx q] at g;exact g
 ·rw [_aQ q];exact SeqAt.RcAt.lists_lengths z z' (by simp only [Qv,e1,e2];exact bne_iff_ne.mpr q) hu
mutual
theorem eqD (I:Inv X pins σ H s):∀(d d':D) {v v':V} {u u':Value} {A:Around},Is X.K H d v->Is X.K H d' v'->RelV v u->RelV v' u'->A.units+XF d<cLine->SeqAt.EqAt A s u u' (YY d d')
 |.non,d',v,v',u,u',A,h,h',r,r',hu=>by
  cases (show v=.non from h);cases (show u=Value.none from r);cases d' with
  |non=>cases (show v'=.non from h');cases (show u'=Value.none from r');exact GV _
  |bl b=>cases (show v'=.bl b from h');cases (show u'=Value.bool b from r');exact SeqAt.EqAt.none_bool b
  |int b=>cases (show v'=.int b from h');obtain ⟨t,rfl⟩:=r';exact SeqAt.EqAt.none_int b t
  |str b=>cases (show v'=.str b from h');obtain ⟨t,rfl⟩:=r';exact SeqAt.EqAt.none_str b t
  |tup b=>obtain ⟨a,xs,rfl,q,_⟩:=h';cases r';obtain ⟨its,_,z⟩:=I.isTup q;exact SeqAt.EqAt.none_tuple z (by simpa [XF] using hu)
  |lst b=>obtain ⟨a,xs,rfl,q,_⟩:=h';cases r';obtain ⟨its,_,z⟩:=I.isList q;exact SeqAt.EqAt.none_list z (by simpa [XF] using hu)
 |.bl c,d',v,v',u,u',A,h,h',r,r',hu=>by
  cases (show v=.bl c from h);cases (show u=Value.bool c from r);cases d' with
  |non=>cases (show v'=.non from h');cases (show u'=Value.none from r');exact SeqAt.EqAt.bool_none c
  |bl b=>cases (show v'=.bl b from h');cases (show u'=Value.bool b from r');exact SeqAt.EqAt.bool_bool c b
  |int b=>cases (show v'=.int b from h');obtain ⟨t,rfl⟩:=r';exact SeqAt.EqAt.bool_int c b t
  |str b=>cases (show v'=.str b from h');obtain ⟨t,rfl⟩:=r';exact SeqAt.EqAt.bool_str c b t
  |tup b=>obtain ⟨a,xs,rfl,q,_⟩:=h';cases r';obtain ⟨its,_,z⟩:=I.isTup q;exact SeqAt.EqAt.bool_tuple c z (by simpa [XF] using hu)
  |lst b=>obtain ⟨a,xs,rfl,q,_⟩:=h';cases r';obtain ⟨its,_,z⟩:=I.isList q;exact SeqAt.EqAt.bool_list c z (by simpa [XF] using hu)
 |.int c,d',v,v',u,u',A,h,h',r,r',hu=>by
  cases (show v=.int c from h);obtain ⟨t0,rfl⟩:=r;cases d' with
  |non=>cases (show v'=.non from h');cases (show u'=Value.none from r');exact SeqAt.EqAt.int_none c t0
  |bl b=>cases (show v'=.bl b from h');cases (show u'=Value.bool b from r');exact SeqAt.EqAt.int_bool c t0 b
  |int b=>cases (show v'=.int b from h');obtain ⟨t,rfl⟩:=r';exact SeqAt.EqAt.int_int c t0 b t
  |str b=>cases (show v'=.str b from h');obtain ⟨t,rfl⟩:=r';exact Nq c t0 b t
  |tup b=>obtain ⟨a,xs,rfl,q,_⟩:=h';cases r';obtain ⟨its,_,z⟩:=I.isTup q;exact SeqAt.EqAt.int_tuple c t0 z (by simpa [XF] using hu)
  |lst b=>obtain ⟨a,xs,rfl,q,_⟩:=h';cases r';obtain ⟨its,_,z⟩:=I.isList q;exact SeqAt.EqAt.int_list c t0 z (by simpa [XF] using hu)
 |.str c,d',v,v',u,u',A,h,h',r,r',hu=>by
  cases (show v=.str c from h);obtain ⟨t0,rfl⟩:=r;cases d' with
  |non=>cases (show v'=.non from h');cases (show u'=Value.none from r');exact SeqAt.EqAt.str_none c t0
  |bl b=>cases (show v'=.bl b from h');cases (show u'=Value.bool b from r');exact SeqAt.EqAt.str_bool c t0 b
  |int b=>cases (show v'=.int b from h');obtain ⟨t,rfl⟩:=r';exact Nr c t0 b t
  |str b=>cases (show v'=.str b from h');obtain ⟨t,rfl⟩:=r';exact SeqAt.EqAt.str_str c t0 b t
  |tup b=>obtain ⟨a,xs,rfl,q,_⟩:=h';cases r';obtain ⟨its,_,z⟩:=I.isTup q;exact SeqAt.EqAt.str_tuple c t0 z (by simpa [XF] using hu)
  |lst b=>obtain ⟨a,xs,rfl,q,_⟩:=h';cases r';obtain ⟨its,_,z⟩:=I.isList q;exact SeqAt.EqAt.str_list c t0 z (by simpa [XF] using hu)
 |.tup ds,d',v,v',u,u',A,h,h',r,r',hu=>by
  obtain ⟨a,xs,rfl,q,hl⟩:=h;cases (show u=Value.ref a from r);obtain ⟨its,rv,z⟩:=I.isTup q;have hu0:A.units<cLine:=by omega
  cases d' with
  |non=>cases (show v'=.non from h');cases (show u'=Value.none from r');exact SeqAt.EqAt.tuple_none z hu0
  |bl b=>cases (show v'=.bl b from h');cases (show u'=Value.bool b from r');exact SeqAt.EqAt.tuple_bool b z hu0
  |int b=>cases (show v'=.int b from h');obtain ⟨t,rfl⟩:=r';exact SeqAt.EqAt.tuple_int b t z hu0
  |str b=>cases (show v'=.str b from h');obtain ⟨t,rfl⟩:=r';exact SeqAt.EqAt.tuple_str b t z hu0
  |lst b=>obtain ⟨a2,xs2,rfl,q2,_⟩:=h';cases r';obtain ⟨its2,_,z2⟩:=I.isList q2;exact SeqAt.EqAt.tuple_list z z2 hu0
  |tup ds' =>
   obtain ⟨a2,xs2,rfl,q2,hl2⟩:=h';cases (show u'=Value.ref a2 from r');obtain ⟨its2,rv2,z2⟩:=I.isTup q2;have hu1:A.units+(YI ds+1)<cLine:=hu;show SeqAt.EqAt A s _ _ (Xd ds ds');by_cases ne:a=a2
   ·subst ne;rw [I.tup_fun q q2] at hl;rw [J2 I ds ds' hl hl2,_aj];exact GV _
   ·exact .of_refs ne (_kL I hl hl2 rv rv2 z z2 hu0 (eqL I ds ds' (A:=A.in1) hl hl2 rv rv2 (by show A.units+1+YI ds<cLine;omega)))
 |.lst ds,d',v,v',u,u',A,h,h',r,r',hu=>by
  obtain ⟨a,xs,rfl,q,hl⟩:=h;cases (show u=Value.ref a from r);obtain ⟨its,rv,z⟩:=I.isList q;have hu0:A.units<cLine:=by omega
  cases d' with
  |non=>cases (show v'=.non from h');cases (show u'=Value.none from r');exact SeqAt.EqAt.list_none z hu0
  |bl b=>cases (show v'=.bl b from h');cases (show u'=Value.bool b from r');exact SeqAt.EqAt.list_bool b z hu0
  |int b=>cases (show v'=.int b from h');obtain ⟨t,rfl⟩:=r';exact SeqAt.EqAt.list_int b t z hu0
  |str b=>cases (show v'=.str b from h');obtain ⟨t,rfl⟩:=r';exact SeqAt.EqAt.list_str b t z hu0
  |tup b=>obtain ⟨a2,xs2,rfl,q2,_⟩:=h';cases r';obtain ⟨its2,_,z2⟩:=I.isTup q2;exact SeqAt.EqAt.list_tuple z z2 hu0
  |lst ds' =>
   obtain ⟨a2,xs2,rfl,q2,hl2⟩:=h';cases (show u'=Value.ref a2 from r');obtain ⟨its2,rv2,z2⟩:=I.isList q2;have hu1:A.units+(YI ds+1)<cLine:=hu;show SeqAt.EqAt A s _ _ (Xd ds ds');by_cases ne:a=a2
   ·subst ne;rw [I.lst_fun q q2] at hl;rw [J2 I ds ds' hl hl2,_aj];exact GV _
   ·exact .of_refs ne (_lD I hl hl2 rv rv2 z z2 hu0 (eqL I ds ds' (A:=A.in1) hl hl2 rv rv2 (by show A.units+1+YI ds<cLine;omega)))
theorem eqL (I:Inv X pins σ H s):∀(ds ds':List D) {xs xs':List V} {us us':List Value} {A:Around},IsL X.K H ds xs->IsL X.K H ds' xs'->Vals xs us->Vals xs' us'->A.units+YI ds<cLine →
  ∀(j:Nat) (d d':D) (u u':Value),ds[j]?=some d->ds'[j]?=some d'->us[j]?=some u->us'[j]?=some u'->SeqAt.EqAt A s u u' (YY d d')
 |[],_,_,_,_,_,_,_,_,_,_,_,j,d,d',u,u',e,_,_,_=>by simp at e
 |d0::ds,ds',xs,xs',us,us',A,hl,hl',rv,rv',hu,j,d,d',u,u',e1,e2,e3,e4=>by
  obtain ⟨x,r,rfl,h1,h2⟩:=hl;cases ds' with
  |nil=>simp at e2
  |cons d0' ds' =>
   obtain ⟨x',r',rfl,h1',h2'⟩:=hl';cases rv with
   |cons ra rb =>
    cases rv' with
    |cons ra' rb' =>
     have hu1:A.units+max (XF d0) (YI ds)<cLine:=hu;cases j with
     |zero =>
      simp only [NP,Option.some.injEq] at e1 e2 e3 e4;subst e1 e2 e3 e4;exact eqD I _ _ h1 h1' ra ra' (by omega)
     |succ j =>
      simp only [G7] at e1 e2 e3 e4;exact eqL I ds ds' h2 h2' rb rb' (by omega) j d d' u u' e1 e2 e3 e4
end
end
section
variable {σ:St}
end
section
variable {w:World}
theorem _mW {elt target iter:Expr} {ifs:List Expr} {scope:Scope} {it acc:Value} {env:Env} (J:Nat->Shared->Prop)
 (turn:∀n s,J n s->wpAny (model prog w) A (pyNext it) (fun r s1=>match r with
 |none=>R (.ok .next) s1
 |some v => wpAny (model prog w) A (letOwnedTupleGo target it v) (fun _ s2 => wpAny (model prog w) A (assign target env v) (fun _ s3 =>
 wpAny (model prog w) A (forIn ifs true fun c r=>if r=true then do let ok ←isTrue c env (eval c env);pure (ForInStep.yield ok) else pure (ForInStep.yield r)) (fun ok s4 =>
 if ok=true then wpAny (model prog w) A (eval elt env) (fun x s5=>wpAny (model prog w) A (call (.builtin "list.append") [acc,x]) (fun _ s6=>∃m,m<n∧J m s6) (fun _ _=>False) s5) (fun _ _=>False) s4
 else ∃m,m<n∧J m s4) (fun _ _=>False) s3) (fun _ _=>False) s2) (fun _ _=>False) s1) (fun _ _=>False) s)
 (n:Nat) (h:J n s):codeAny (model prog w) A (.compLoop (.ListComp elt [⟨target,iter,ifs,0⟩] scope pos) 0 it acc env) R s:=by
 refine codeAny_loop rfl J (fun n s hJ=>?_) n h;show wpAny _ A ((compTurn (.ListComp elt [⟨target,iter,ifs,0⟩] scope pos) 0 it acc env).onRaise (fun x=>do noteFrame x env;theTreesLotGoes x)) _ _ s;refine wpAny_noted ?_;rw [compTurn_list];refine Qd (GP (Qd (Rg (turn n s hJ) (fun r s1 h1=>?_) fun _ _ z=>z.elim)));cases r with
 |none=>exact Qf h1
 |some v =>
  refine Qd (Rg h1 (fun _ s2 h2=>Qd (Rg h2 (fun _ s3 h3=>Qd (Rg h3 (fun ok s4 h4=>?_) fun _ _ z=>z.elim)) fun _ _ z=>z.elim)) fun _ _ z=>z.elim);cases ok with
  |false=>exact Qf ⟨rfl,h4⟩
  |true=>exact Qd (Qd (Rg h4 (fun x s5 h5=>Qd (Rg h5 (fun _ s6 h6=>Qf (Qf ⟨rfl,h6⟩)) fun _ _ z=>z.elim)) fun _ _ z=>z.elim))
end
def J6 (X:Cx) (ifs:List Expr) (t:TT):Prop :=
 ∀(pins:List (Addr×Obj)) (s:Shared) (σ:St) (H:Hp) (Q:Bool->Hp->Prop),Inv X pins σ H s->t σ H Q →
  wpAny (model X.prog X.w) X.A (forIn ifs true fun c r=>if r=true then do let ok ←isTrue c X.env (eval c X.env);pure (ForInStep.yield ok) else pure (ForInStep.yield r)) (TP X pins σ Q) X.xe s
def _g6:TT:=fun _ H Q=>Q true H
theorem _ad:J6 X [] _g6:=fun _ _ _ H _ I h=>wpAny_tests_nil ⟨H,I,h⟩
theorem XV {c:Expr} {t:TT} (h:PT X c t):J6 X [c] t:=fun pins s σ H Q I q=>wpAny_tests_one (h pins s σ H Q I q)
noncomputable abbrev Cx.block (X:Cx) (N:List Str) (sc:Scope) (cl:List (Str×Addr)) (fp:List Addr) (s3:Shared) (H3:Hp):Cx :=
 { X with N:=N,s₀:=s3,H₀:=H3,env:=compEnvC sc cl s3.heap.objs.size X.env,outer:=X.stack,ex:=fp,fn:=fun _=>false,pn:=[],xe:=fun _ _=>False }
structure CompSc (X:Cx) (N:List Str) (sc:Scope) (cl:List (Str×Addr)) (σc:St->St):Prop where
 kind:sc.kind=.function
 names:∀x∈sc.names,x.2=.local->sc.names.lookup x.1=some .local
 nocell:∀y∈sc.names,y.2≠.cell
 clos:closureFor sc X.env=pure cl
 sub:∀x c,cl.lookup x=some c->X.env.cells.lookup x=some c
 has:∀x,((relabel sc X.env).names.lookup x=some .cell∨(relabel sc X.env).names.lookup x=some .free)->∃c,cl.lookup x=some c
 len:∀σ:St,(σc σ).length=N.length
 cap:∀(σ:St) (i:Nat) (x:Str) (v:V),N[i]?=some x->(σc σ)[i]?=some (some v)->((relabel sc X.env).names.lookup x=some .cell∨(relabel sc X.env).names.lookup x=some .free)∧(X.env.scope.names.lookup x=some .cell∨X.env.scope.names.lookup x=some .free)∧∃j:Nat,X.N[j]?=some x∧σ[j]?=some (some v)
def _ds (J:It) (σ0:St) (g:TG) (tt:TT) (te:TE) (Q:VK) (H1:Hp):Prop:=∀D,H1 D=none →
 ∃W:Nat->Nat->St->List V->Hp->Prop,(∃m,W 0 m σ0 [] (_c H1 D (.lst [])))∧∀i m σ1 ys H2,W i m σ1 ys H2->H2 D=some (.lst ys) ∧
  ((J.stop i H2∧Q (.ref D) H2)∨(J.go i H2∧∃N:St->List V->Hp->Prop,(∀σ2 ys2 H3,N σ2 ys2 H3->∃m',m'<m∧W (i+1) m' σ2 ys2 H3) ∧
   ∀x H3,J.yld i H2 x H3->g x σ1 H3 fun σ2 H4=>tt σ2 H4 fun c H5=>if c=true then te σ2 H5 fun y H6=>H6 D=some (.lst ys)∧ys.length<sizeLine∧N σ2 (ys++[y]) (_c H6 D (.lst (ys++[y]))) else N σ2 ys H5))
def Jx (wi:TI) (σc:St->St) (g:TG) (tt:TT) (te:TE):TE:=fun σ H Q=>wi σ H fun J H1=>_ds J (σc σ) g tt te Q H1
section
variable {σ:St} {cl:List (Str×Addr)} {σc:St->St}
theorem Inv.block (I:Inv X pins σ H s) (S:CompSc X N sc cl σc) (hf:∀b∈fp,XX X pins H b) (hlt:∀b∈fp,b<s.heap.objs.size) (k:∀b u,s.heap.get? b=some u->h'.get? b=some u) (hn:h'.Ns s.heap.objs.size fun _=>none) :
  Inv (X.block N sc cl fp s H) [] (σc σ) H { s with heap:=h',toks:=t' }:=by
 have kin:∀x,(X.block N sc cl fp s H).env.kindOf x=(relabel sc X.env).names.lookup x:=fun _=>rfl
 refine ⟨⟨I.ok.mod,S.kind,I.ok.glob,I.ok.blt,Qe _,fun x y c h1 h2=>I.ok.inj x y c (S.sub x c h1) (S.sub y c h2),fun x hx=>S.has x hx,fun x c z _=>(nomatch z),I.ok.hd,I.ok.frames,.inl rfl,fun b hb=>⟨QA (hlt b hb),fun x c e=>(hf b hb).2.2.2.2.1 x c (S.sub x c e)⟩,
  I.bs,Qk I.ok.bsz I.sz,fun b o e hb=>?_,fun b hb z=>?_,I.stack,I.stkFree⟩,
  rfl,I.bare,Un.kept k,⟨_,hn,fun i x v e1 e2 e3=>?_⟩,fun x c e=>?_,I.hok.fresh (Qe _),fun x c e=>I.freeC x c (S.sub x c e),fun p hp=>absurd (show p∈([]:List (Addr×Obj)) from hp) (by simp),I.hok.kept k,S.len σ⟩
 ·rcases (hf b hb).2.2.2.1 with z|z
  ·exact I.ok.noex b o e z
  ·exact absurd (Qq (Qi e) (Qk I.ok.bsz z)) (QF _)
 ·rcases Qj.mp (I.stkSub b z) with y|y
  ·exact (hf b hb).2.1 y
  ·exact (hf b hb).2.2.1 y
 ·obtain ⟨hk,hko,j,hj,hσ⟩:=S.cap σ i x v e1 e2;obtain ⟨m,hm,hl⟩:=I.loc;obtain ⟨u,r,l⟩:=hl j x v hj hσ (by rcases hko with z|z;exact .inr (.inl z);exact .inr (.inr z));refine ⟨u,r,.inr ⟨hk,?_⟩⟩;rcases l with ⟨q,_⟩|⟨_,c,hc,q⟩
  ·have q':X.env.scope.names.lookup x=some .local:=q;rcases hko with z|z<;>(rw [z] at q';cases q')
  ·obtain ⟨c',hc'⟩:=S.has x hk;have e:=S.sub x c' hc';rw [hc] at e;cases e;exact ⟨c,hc',q.keeps k⟩
 ·obtain ⟨v,q⟩:=I.cell x c (S.sub x c e);exact ⟨v,q.keeps k⟩
end
section
variable {elt iter:Expr} {ifs:List Expr} {cl:List (Str×Addr)} {σc:St->St} {wi:TI} {g:TG} {tt:TT}
structure Gone (X:Cx) (pins:List (Addr×Obj)) (H:Hp) (C:Addr):Prop where
 free:H C=none
 loc:C≠X.env.locals
 new:X.s₀.heap.objs.size≤C
 cell:∀x c,X.env.cells.lookup x=some c->c≠C
 pin:∀p∈X.pn++pins,p.1≠C
theorem Inv.gone {σ:St} (I:Inv X pins σ H s) (G:Gone X pins H C) (sb:Heap.SameBut C s.heap h'):Inv X pins σ H { s with heap:=h' } :=
 I.turned (t':=s.toks) (it:=C) (fun b o n q=>(sb.2 b n).trans q) G.free G.loc (.inr G.new) G.cell G.pin
theorem _gt {s2:Shared} {σ:St} {H2:Hp} {Q:VK} {RR:Value->Addr->Result->Shared->Prop} {tn:Nat->Heap->Prop} 
 (hc:X.calm=true) (S:CompSc X N sc cl σc) (hg:∀fp s3 H3,PG (X.block N sc cl fp s3 H3) tg g) (ht:∀fp s3 H3,J6 (X.block N sc cl fp s3 H3) ifs tt) (he:∀fp s3 H3,PE (X.block N sc cl fp s3 H3) elt te)
 (I2:Inv X pins σ H2 s2) (T:Turn X.prog X.w X.K tg J fp it tn) (st2:tn 0 s2.heap) (f2:∀b∈fp,XX X pins H2 b)
 (h2:∀D,H2 D=none->∃W:Nat->Nat->St->List V->Hp->Prop,(∃m,W 0 m (σc σ) [] (_c H2 D (.lst [])))∧∀i m σ1 ys H2,W i m σ1 ys H2->H2 D=some (.lst ys) ∧
 ((J.stop i H2∧Q (.ref D) H2)∨(J.go i H2∧∃N:St->List V->Hp->Prop,(∀σ2 ys2 H3,N σ2 ys2 H3->∃m',m'<m∧W (i+1) m' σ2 ys2 H3) ∧
 ∀x H3,J.yld i H2 x H3->g x σ1 H3 fun σ2 H4=>tt σ2 H4 fun c H5=>if c=true then te σ2 H5 fun y H6=>H6 D=some (.lst ys)∧ys.length<sizeLine∧N σ2 (ys++[y]) (_c H6 D (.lst (ys++[y]))) else N σ2 ys H5)))
 (hRR:∀D C m s7 H7,Inv X pins σ H7 s7->s7.heap.Ns C m->Gone X pins H7 C->Q (.ref D) H7->RR (.ref D) C (.ok .next) s7) :
  wpAny (model X.prog X.w) X.A (newList []) (fun acc s₃=>wpAny (model X.prog X.w) X.A (newFunctionEnv sc X.env.globals cl [] X.env.qual none .none (some X.env)) (fun cenv s₄ =>
   codeAny (model X.prog X.w) X.A (.compStart (.ListComp elt [⟨tg,iter,ifs,0⟩] sc pos) 0 (.ref it) acc { cenv with scope:=relabel sc X.env }) (RR acc cenv.locals) s₄) E s₃) E s2:=by
 refine Rr ?_;have hD:H2 s2.heap.objs.size=none:=I2.hok.fresh (Qe _)
 have I3:Inv X pins σ (_c H2 s2.heap.objs.size (.lst [])) { s2 with heap:=s2.heap.push { cls:=.type "list",dict:=none,data:=.seq ([]:List Value).toArray } } :=
  I2.laid (t':=s2.toks) (fun b u q=>Ql _ q) (Qe _) ⟨by decide,[],0,.nil,Qu _ rfl⟩
 have flt:∀b∈fp,b<s2.heap.objs.size:=fun b hb=>by
  obtain ⟨o,e,_⟩:=T.obj _ _ st2 b hb;exact Qi e
 obtain ⟨W,⟨m0,w0⟩,turn⟩:=h2 s2.heap.objs.size hD;have f3:∀b∈fp,XX X pins (_c H2 s2.heap.objs.size (.lst [])) b:=fun b hb=>⟨by rw [_d (QA (flt b hb))];exact (f2 b hb).1,(f2 b hb).2⟩;have st3:tn 0 (s2.heap.push { cls:=.type "list",dict:=none,data:=.seq ([]:List Value).toArray }):=T.keep _ _ _ st2 fun b _ o q=>Ql _ q;have sz3:s2.heap.objs.size≤(s2.heap.push { cls:=.type "list",dict:=none,data:=.seq ([]:List Value).toArray }).objs.size:=by rw [Rj];exact QV _
 generalize s2.heap.push { cls:=.type "list",dict:=none,data:=.seq ([]:List Value).toArray }=h3 at *;generalize s2.heap.objs.size=D at *;refine NQ S.nocell (by intro y hy;simp at hy) (fun h4 hn4 hb4=>?_) S.kind;dsimp only at hn4 hb4 ⊢;have k4:∀b u,h3.get? b=some u->h4.get? b=some u:=fun b u q=>(hb4.2 b (QA (Qi q))).trans (Ql _ q)
 have I4:Inv (X.block N sc cl fp { s2 with heap:=h3 } (_c H2 D (.lst []))) [] (σc σ) (_c H2 D (.lst [])) { s2 with heap:=h4,toks:=s2.toks+0 } :=
  I3.block S f3 (fun b hb=>Qq (flt b hb) sz3) k4 hn4
 have st4:tn 0 h4:=T.keep _ _ _ st3 fun b _ o q=>k4 b o q
 have fb:∀{H':Hp},(∀b∈fp,H' b=none)->∀b∈fp,XX (X.block N sc cl fp { s2 with heap:=h3 } (_c H2 D (.lst []))) [] H' b:=fun hn b hb =>
  ⟨hn b hb,(I4.ok.exf b hb).1,I4.ok.exfs b hb,.inl hb,(I4.ok.exf b hb).2,fun p hp=>absurd (show p∈([]:List (Addr×Obj)) from hp) (by simp)⟩
 have fin:∀{σ':St} {H':Hp} {s':Shared} {h':Heap},Inv (X.block N sc cl fp { s2 with heap:=h3 } (_c H2 D (.lst []))) [] σ' H' s'->Heap.SameBut h3.objs.size s'.heap h'->Inv X pins σ H' { s' with heap:=h' }:=fun {σ' H' s' h'} J' sb=>by
  have lt3:∀b o,h3.get? b=some o->b≠h3.objs.size:=fun b o q=>QA (Qi q);have lo:H' h3.objs.size=none:=J'.free
  have hk:HOk X.prog X.w H' h':=fun b u e=>(J'.hok b u e).stay (fun c v hcc q=>(sb.2 c (by
   rintro rfl;rcases hcc with z|z
   ·subst z;rw [lo] at e;cases e
   ·rw [lo] at z;cases z)).trans q) (fun _ q=>q) fun _ _ q=>q
  refine I3.call' (s':={ s' with heap:=h' }) (ch:=fp) J'.os ⟨fun b o q n hb hx=>(sb.2 b (lt3 b o q)).trans (J'.base.keep b o q n hb hx),fun b o q n hb hx=>?_,fun b o q n hx=>J'.base.free b o q n hx,fun b o q hx=>?_,J'.base.tups,J'.base.frzs,J'.base.tbls⟩ hk J'.bare fun b hb=>?_
  ·obtain ⟨sl,q1⟩:=J'.base.slot b o q n hb hx;exact ⟨sl,(sb.2 b (lt3 b o q)).trans q1⟩
  ·obtain ⟨o1,q1⟩:=J'.base.there b o q hx;exact ⟨o1,(sb.2 b (lt3 b o q)).trans q1⟩
  ·exact ⟨(f3 b hb).2.2.2.1,(f3 b hb).2.1,(f3 b hb).2.2.2.2.1,(f3 b hb).2.2.2.2.2⟩
 have loop : ∀s5 : Shared, Inv (X.block N sc cl fp { s2 with heap := h3 } (_c H2 D (.lst []))) [] (σc σ) (_c H2 D (.lst [])) s5 → tn 0 s5.heap →
   codeAny (model X.prog X.w) X.A (.compLoop (.ListComp elt [⟨tg,iter,ifs,0⟩] sc pos) 0 (.ref it) (.ref D) (compEnvC sc cl h3.objs.size X.env)) (RR (.ref D) h3.objs.size) s5:=fun s5 I5 st5=>by
  refine _mW (fun n s'=>∃i σ' ys H',Inv (X.block N sc cl fp { s2 with heap:=h3 } (_c H2 D (.lst []))) [] σ' H' s'∧tn i s'.heap∧(∀b∈fp,H' b=none)∧W i n σ' ys H') ?_ m0 ⟨0,_,[],_,I5,st5,fun b hb=>(f3 b hb).1,w0⟩;rintro n s6 ⟨i,σ6,ys,H6,I6,st6,fr6,w6⟩;obtain ⟨hDy,step⟩:=turn i n σ6 ys H6 w6;rcases step with ⟨stop,q6⟩|⟨go,Nx,hN,step⟩
  ·refine _m (T.done (X.block N sc cl fp { s2 with heap:=h3 } (_c H2 D (.lst []))) rfl rfl rfl hc i [] s6 σ6 H6 (fun _ _=>False) I6 (fb fr6) st6 stop) fun r s7 ⟨hr,I7⟩=>?_;subst hr;obtain ⟨m7,hm7,_⟩:=I7.loc;refine hRR D h3.objs.size m7 s7 H6 (fin I7 ⟨rfl,fun _ _=>rfl⟩) hm7 ⟨I7.free,Rv I3.lt,I3.sz,fun x c e=>?_,fun p hp=>?_⟩ q6
   ·obtain ⟨v,z⟩:=I3.cell x c e;exact QA z.lt
   ·exact QA (Qi (I3.pin p hp).1)
  ·refine _m (T.item (X.block N sc cl fp { s2 with heap:=h3 } (_c H2 D (.lst []))) rfl rfl rfl hc i [] s6 σ6 H6 (fun _ _=>False) I6 (fb fr6) st6 go) fun r s7 ⟨u,hr,h7⟩=>?_;subst hr;refine _m h7 fun _ s8 ⟨x,H8,I8,r8,y8,st8,fr8⟩=>?_;have I8':=I8.pinned (fb fr8) (T.obj _ _ st8);refine _m (hg _ _ _ _ s8 σ6 H8 x u _ I8' r8 (step x H8 y8)) fun _ s9 ⟨σ9,H9,I9,q9⟩=>?_;refine _m (ht _ _ _ _ s9 σ9 H9 _ I9 q9) fun c sA ⟨HA,IA,qA⟩=>?_
   have again : ∀{σB : St} {HB : Hp} {sB : Shared} {zs : List V}, Inv (X.block N sc cl fp { s2 with heap := h3 } (_c H2 D (.lst []))) ([] ++ JE fp s8.heap) σB HB sB → Nx σB zs HB →
     ∃m,m<n∧∃i σ' ys H',Inv (X.block N sc cl fp { s2 with heap:=h3 } (_c H2 D (.lst []))) [] σ' H' sB∧tn i sB.heap∧(∀b∈fp,H' b=none)∧W i m σ' ys H':=fun {σB HB sB zs} IB nB=>by
    obtain ⟨m',hm,wB⟩:=hN σB zs HB nB;refine ⟨m',hm,i+1,σB,zs,HB,IB.unpinned,T.keep _ _ _ st8 fun b hb o e=>(IB.pin (b,o) (QL _ (QL _ (_a2 hb e)))).1,fun b hb=>?_,wB⟩;obtain ⟨o,e,d⟩:=T.obj _ _ st8 b hb;exact (IB.pin (b,o) (QL _ (QL _ (_a2 hb e)))).2.1
   cases c with
   |false=>exact again IA qA
   |true =>
    refine _m (he _ _ _ _ sA σ9 HA _ IA qA) fun y sB ⟨yv,HB,IB,rB,dB,lB,qB⟩=>?_;exact _m (Y7 (X:=X.block N sc cl fp { s2 with heap:=h3 } (_c H2 D (.lst []))) _ sB σ9 HB (.ref D) [yv] (.ref D) [y] (fun v H'=>v=.non∧Nx σ9 (ys++[yv]) H') IB rfl (.cons rB .nil) ⟨D,ys,yv,rfl,rfl,dB,lB,rfl,qB⟩) fun _ sC ⟨_,HC,IC,_,_,qC⟩=>again IC qC
 refine codeAny_compStart_list (loop _ I4 st4) ?_;exact T.self _ 0 _ _ _ st4 (loop _ I4 st4)
theorem Xj (hc:X.calm=true) (S:CompSc X N sc cl σc) (hi:PI X tg iter wi) (hg:∀fp s3 H3,PG (X.block N sc cl fp s3 H3) tg g) (ht:∀fp s3 H3,J6 (X.block N sc cl fp s3 H3) ifs tt) (he:∀fp s3 H3,PE (X.block N sc cl fp s3 H3) elt te)
 (hs:∀x,foldedSetIterable iter X.env x=pure x:=by intro _;rfl):PE X (.ListComp elt [⟨tg,iter,ifs,0⟩] sc pos) (Jx wi σc g tt te):=by
 intro pins s σ H Q I h;rw [eval_ListComp];refine wpAny_comprehension_free rfl hs S.clos S.kind S.names (_m (hi pins s σ H _ I h) fun v s1 h1=>_m h1 fun itv s2 h2=>?_);obtain ⟨it,fp,tn,J,H2,e,I2,T,st2,f2,h2⟩:=h2;subst e;exact _gt (Q:=Q) hc S hg ht he I2 T st2 f2 h2 fun D C m s7 H7 I7 n7 G q=>⟨m,n7,fun h' sb=>⟨.ref D,H7,I7.gone G sb,rfl,q⟩⟩
theorem _kZ {x:Str} {pos' spos:Pos} (hc:X.calm=true) (hN:X.N.Nodup) (hi':X.N[i]?=some x) (hx:Jv X.env.scope x) (S:CompSc X N sc cl σc) (hi:PI X tg iter wi)
 (hg:∀fp s3 H3,PG (X.block N sc cl fp s3 H3) tg g) (ht:∀fp s3 H3,J6 (X.block N sc cl fp s3 H3) ifs tt) (he:∀fp s3 H3,PE (X.block N sc cl fp s3 H3) elt te)
 (hs:∀x,foldedSetIterable iter X.env x=pure x:=by intro _;rfl) (hsw:swapsWith (.ListComp elt [⟨tg,iter,ifs,0⟩] sc pos) (some (.Name x pos')) spos.line X.env=pure true:=by rfl)
 (hf:X.fn x=true∨X.env.scope.names.lookup x=some .local:=by first|exact .inl rfl|exact .inr rfl|assumption) :
  PS X (.Assign [.Name x pos'] (.ListComp elt [⟨tg,iter,ifs,0⟩] sc pos) spos) (_d8 (Jx wi σc g tt te) (_B i)):=by
 intro pins s σ H D I h;rw [exec_Assign_Name_used _ _ _ _ hsw];refine Qd (GP (Qd ?_));show wpAny _ _ (comprehension (.ListComp elt [⟨tg,iter,ifs,0⟩] sc pos) sc X.env (firstIterPos [⟨tg,iter,ifs,0⟩] pos) (newList []) (firstAsync [⟨tg,iter,ifs,0⟩]) (firstIter [⟨tg,iter,ifs,0⟩] X.env) (some (assign (.Name x pos') X.env)) >>= fun _=>pure ()) _ _ s;refine Qd (Rg (Q:=fun _ s'=>SP X pins D .next s') ?_ (fun _ s' q=>Qf (Qf q)) fun _ _ z=>z);refine wpAny_comprehension_free rfl hs S.clos S.kind S.names (_m (hi pins s σ H _ I h) fun v s1 h1=>_m h1 fun itv s2 h2=>?_);obtain ⟨it,fp,tn,J,H2,e,I2,T,st2,f2,h2⟩:=h2;subst e;refine _gt (Q:=fun v H'=>D.nx (σ.set i (some v)) H') hc S hg ht he I2 T st2 f2 h2 fun d C m s7 H7 I7 n7 G q=>?_;show wpAny _ _ (assign (.Name x pos') X.env (.ref d)) _ _ s7;refine wpAny_assign_Name (_ii (v:=.ref d) I7 hN hi' hx rfl (fun s8 I8 ch=>?_) hf);obtain ⟨a,sb,ha⟩:=ch
 have aC:C≠a:=by
  rcases ha with z|z
  ·rw [z];exact G.loc
  ·exact (G.cell x a z).symm
 exact ⟨m,n7.sameBut sb aC,fun h' sb'=>⟨_,H7,I8.gone G sb',q⟩⟩
end
noncomputable def Itw (n:Nat) (V1:Nat->V->Prop):It:=⟨fun i _=>i<n,fun i H x H'=>H'=H∧V1 i x,fun i _=>i=n⟩
theorem _hP {w:World} {K:PySem.W.Frag} {Pv:Nat->Value->Prop} {V1:Nat->V->Prop} {st:Nat->Heap->Prop}
 (W:∀A:Around,A.handled=none->Walks P w A it [it] [it] n Pv st) (ob:∀i h,st i h->∃o,h.get? it=some o∧∀v,o.data≠.cell v) (val:∀i v,Pv i v->∃x,RelV x v∧V1 i x)
 (own:∀i v s (M:Model) (A:Around) (E:Value->Shared->Prop) (Q:Unit->Shared->Prop),Pv i v->Q () s->wpAny M A (letOwnedTupleGo tg (.ref it) v) Q E s)
 (self:∀(A:Around) (i:Nat) (s:Shared) (Q:Value->Shared->Prop) (E:Value->Shared->Prop),st i s.heap->Q (.ref it) s->wpAny (model P w) A (pyIter (.ref it)) Q E s):Turn P w K tg (Itw n V1) [it] it st where
 mem:=by simp
 obj:=fun i h hs b hb=>by
  have e:b=it:=by simpa using hb
  subst e;exact ob i h hs
 keep:=fun i h h' hs k=>(W {} rfl).frame i h h' hs k
 item:=fun X hP hw hK hc i pins s σ H E I hf hs go=>by
  subst hP hw hK;refine (W X.A (I.ok.hd hc)).item i s _ E go hs fun v h' tk pv hs' k=>⟨v,rfl,?_⟩;obtain ⟨x,rx,vx⟩:=val i v pv;obtain ⟨f0,f1,_,f3,f4,f5⟩:=hf it (by simp);have I':Inv X pins σ H { s with heap:=h',toks:=tk }:=I.turned (it:=it) (fun b o n q=>k b o (by simpa using n) q) f0 f1 f3 f4 f5;refine own i v _ _ _ _ _ pv ⟨x,H,I',rx,⟨rfl,vx⟩,hs',fun b hb=>?_⟩;have e:b=it:=by simpa using hb
  subst e;exact f0
 done:=fun X hP hw hK hc i pins s σ H E I hf hs stop=>by
  subst hP hw hK;have e:i=n:=stop;subst e;obtain ⟨f0,f1,_,f3,f4,f5⟩:=hf it (by simp);exact (W X.A (I.ok.hd hc)).done s _ E hs fun h' tk k=>⟨rfl,I.turned (it:=it) (fun b o n q=>k b o (by simpa using n) q) f0 f1 f3 f4 f5⟩
 self:=self
def _oD (te:TE):TI:=fun σ H R=>te σ H fun x H1=>∃z,x=.str z∧R (Itw z.cps.size fun i y=>∃c,z.cps[i]?=some c∧y=.str ⟨#[c]⟩) H1
theorem _ie {M:Model} {z:Str} {t:Tok} {Q:Unit->Shared->Prop} (q:Q () s):wpAny M A (letOwnedTupleGo tg (.ref it) (.str z t)) Q E s:=by
 unfold letOwnedTupleGo;cases tg<;>exact Qf q
theorem _j3 {e:Expr} (he:PE X e te):PI X tg e (_oD te):=by
 intro pins s σ H R I h;refine _m (he pins s σ H _ I h) fun v s1 ⟨x,H1,I1,r1,z,e1,q⟩=>?_;subst e1;obtain ⟨t,rfl⟩:=r1;have fr:H1 s1.heap.objs.size=none:=I1.hok.fresh (Qe _);by_cases low:z.cps.all (·<128)=true
 ·refine wpAny_pyIter_ascii low ⟨s1.heap.objs.size,[s1.heap.objs.size],fun i h=>h.IsStrIter s1.heap.objs.size "str_ascii_iterator" z t i,_,H1,rfl,I1.kept (t':=s1.toks) fun b u q=>Ql _ q,
   _hP (fun A hA=>Walks.strAscii hA _ z t) (fun i h ⟨o,ho,_,hd⟩=>⟨o,ho,fun v q=>by rw [hd] at q;cases q⟩) (fun i v ⟨c,u,hc,hv⟩=>⟨.str ⟨#[c]⟩,⟨u,hv⟩,c,hc,rfl⟩) (fun i v s M A E Q ⟨c,u,_,hv⟩ hq=>by rw [hv];exact _ie hq) fun A i s Q E hs hq=>wpAny_pyIter_striter_ascii hs hq,
   ⟨_,Qu _ rfl,rfl,rfl⟩,fun b hb=>?_,q⟩
  have e:b=s1.heap.objs.size:=by simpa using hb
  subst e;exact I1.fpOk (Qe _) fr
 ·refine wpAny_pyIter_wide (Rm.mpr low) ⟨s1.heap.objs.size,[s1.heap.objs.size],fun i h=>h.IsStrIter s1.heap.objs.size "str_iterator" z t i,_,H1,rfl,I1.kept (t':=s1.toks) fun b u q=>Ql _ q,
   _hP (fun A hA=>Walks.strWide hA _ z t) (fun i h ⟨o,ho,_,hd⟩=>⟨o,ho,fun v q=>by rw [hd] at q;cases q⟩) (fun i v ⟨c,u,hc,hv⟩=>⟨.str ⟨#[c]⟩,⟨u,hv⟩,c,hc,rfl⟩) (fun i v s M A E Q ⟨c,u,_,hv⟩ hq=>by rw [hv];exact _ie hq) fun A i s Q E hs hq=>wpAny_pyIter_striter_wide hs hq,
   ⟨_,Qu _ rfl,rfl,rfl⟩,fun b hb=>?_,q⟩
  have e:b=s1.heap.objs.size:=by simpa using hb
  subst e;exact I1.fpOk (Qe _) fr
section
variable {w:World}
theorem _b5 (hh:A.handled=none) (it t:Addr) (hne:t≠it) (us:Array Value) :
  Draws prog w A it [it,t] us.size (fun i v=>us[i]?=some v) (fun i h=>h.IsTupleIter it t i∧h.IsTuple t us) where
 live:=fun _ _ ⟨⟨o,e,_⟩,_⟩=>⟨o,e⟩
 frame:=fun _ _ _ ⟨⟨o,e,r⟩,⟨o',e',r'⟩⟩ k=>⟨⟨o,k it (by simp) o e,r⟩,⟨o',k t (by simp) o' e',r'⟩⟩
 item:=by
  intro i s Q E hi ⟨st,ht⟩ hQ;have e:us[i]?=some us[i]:=by simp [hi]
  obtain ⟨o,ho,c,d⟩:=id st;obtain ⟨ot,hot,_,n,dt⟩:=id ht;unfold Builtin.SmallTypes.nextOf;refine Qd (RG (name:=Str.ofString "__next__") st.typeIs G8 (Rq G8 st.typeIs F.entry_tuple_iterator_next ?_ (F.args_tuple_iterator_next_1 _)));unfold Builtin.«tuple_iterator.__next__»;refine Qd (m:=field (.ref it) 0) (QM ho d (x:=.ref t) rfl ?_);rw [Qa (show ¬((Value.ref t==Value.none)=true) from QG)];refine Qd (m:=field (.ref it) 1) (QM ho d (x:=.int i 0) rfl (Qd (m:=seqItems? (.ref t)) (R4 hot dt ?_)));simp only [Gb,e];have sb:=GB s.heap it (Obj.mapFields (·.setIfInBounds 1 (rawInt (i+1))));exact Qd (wpAny_setField ho d (by simp) (Qf ⟨_,rfl,Qf (hQ _ _ s.toks e ⟨⟨_,NH _ ho (Obj.isFreed_of_fields (Obj.data_mapFields d _)),(Obj.cls_mapFields ..).trans c,by rw [Obj.data_mapFields d];simp [rawInt]⟩,ht.extBut sb.extBut hne⟩ sb)⟩))
 done:=by
  intro s Q E ⟨st,ht⟩ hE;have e:us[us.size]?=none:=by simp
  obtain ⟨o,ho,c,d⟩:=id st;obtain ⟨ot,hot,_,n,dt⟩:=id ht;unfold Builtin.SmallTypes.nextOf;refine Qd (RG (name:=Str.ofString "__next__") st.typeIs G8 (Rq G8 st.typeIs F.entry_tuple_iterator_next ?_ (F.args_tuple_iterator_next_1 _)));unfold Builtin.«tuple_iterator.__next__»;refine Qd (m:=field (.ref it) 0) (QM ho d (x:=.ref t) rfl ?_);rw [Qa (show ¬((Value.ref t==Value.none)=true) from QG)];refine Qd (m:=field (.ref it) 1) (QM ho d (x:=.int us.size 0) rfl (Qd (m:=seqItems? (.ref t)) (R4 hot dt ?_)));simp only [Gb,e];refine Qd (Gf (Qd (wpAny_setField ho d (by simp) ?_)));refine Qd (m:=newExc (.type "StopIteration") []) ?_;simp only [newExc,newTuple];refine Qd (Rr (Qd (m:=firstArgMember _ _) (RJ (a:=Value.none) (by first|rfl|(simp only [firstArgMember];rfl)) (Rr ?_ (by size_fits)))) (by size_fits));simp only [raiseNew];refine Qd (wpAny_handled ?_)
  first|rw [show A.in1.handled=none from hh]|rw [hh]
  exact Qd (Qf (wpAny_throw (hE _ _ (((GB ..).extBut.push _).push _) ⟨_,Qu _ rfl,rfl⟩)))
end
structure _Ap (z TI TO i1 i2:Addr) (f1 f2:List Addr):Prop where
 TIz:TI≠z
 TOz:TO≠z
 i1z:i1≠z
 i2z:i2≠z
 TITO:TI≠TO
 TIi1:TI≠i1
 TIi2:TI≠i2
 TOi1:TO≠i1
 TOi2:TO≠i2
 i12:i1≠i2
 z1:z∉f1
 z2:z∉f2
 o1:TO∉f1
 o2:TO∉f2
 b1:i2∉f1
 b2:i1∉f2
section
variable {w:World} {z TI TO i1 i2:Addr} {f1 f2:List Addr} {n1 n2 k1 k2:Nat} {P1 P2:Nat->Value->Prop} {S1 S2:Nat->Heap->Prop} {a b:Value}
theorem Draws.but {c:Addr} {P:Nat->Value->Prop} {St:Nat->Heap->Prop} (D:Draws prog w A it fp n P St) (st:St i h) (e:Heap.ExtBut c h h') (hc:c∉fp):St i h' :=
 D.frame _ _ _ st fun b hb o q=>e b o (fun x=>hc (x▸hb)) q
theorem _qq {Q:Value->Shared->Prop} (Z:_Ap z TI TO i1 i2 f1 f2) (D1:Draws prog w A i1 f1 n1 P1 S1) (D2:Draws prog w A i2 f2 n2 P2 S2) (hz:IsZip s.heap z TI TO .none) (hTI:IsPair s.heap TI (.ref i1) (.ref i2)) (hTO:IsPair s.heap TO a b)
 (g1:S1 k1 s.heap) (g2:S2 k2 s.heap) (l1:k1<n1) (l2:k2<n2)
 (hQ:∀x y h' tk,P1 k1 x->P2 k2 y->IsZip h' z TI TO (rawInt s.heap.objs.size)->IsPair h' TO x y->S1 (k1+1) h'->S2 (k2+1) h'->IsPair h' s.heap.objs.size x y →
 (∀c o,c≠z->c≠TO->c≠i1->c≠i2->s.heap.get? c=some o->h'.get? c=some o)->Q (.ref s.heap.objs.size) { s with heap:=h',toks:=tk }) :
  wpAny (model prog w) A (Builtin.«zip.__next__» ⟨[.ref z],[]⟩) (fun fin s'=>∃v,fin=.done (.ret v)∧Q v s') E s:=by
 unfold Builtin.«zip.__next__»;refine Qd (m:=field (.ref z) 2) (QM hz rfl (x:=.bool false) rfl ?_);refine Qd (m:=field (.ref z) 3) (QM hz rfl (x:=.ref TI) rfl (Qd (R4 hTI rfl ?_)));refine Qd (m:=Builtin.SmallTypes.ownedTupleIsFree (.ref z)) ?_;unfold Builtin.SmallTypes.ownedTupleIsFree;refine Qd (QM hz rfl (x:=.none) rfl (Qf ?_));simp only [RF];refine Qd (Gf (Qd (QM hz rfl (x:=.ref TO) rfl (Qd (RK hz (by simp) fun hA zA sA=>Qd ?_)))));replace zA:IsZip hA z TI TO .ellipsis:=zA;simp only [List.zipIdx_cons,List.zipIdx_nil,NR,List.forIn_nil];refine Qd (Qd (wpAny_onRaise (Qd (m:=Builtin.SmallTypes.nextOf (.ref i1)) (D1.item k1 _ _ _ l1 (Draws.but D1 g1 sA.extBut Z.z1) fun x hB tB px gB sB=>Qf ?_))));have oB:IsPair hB TO a b:=sB.extBut _ _ Z.TOi1 (sA.extBut _ _ Z.TOz hTO);refine Qd (R4 oB rfl (Qd (wpAny_updateSeq_pair oB fun hC oC sC=>Qd (wpAny_letGo (Qf ?_)))));replace oC:IsPair hC TO x b:=oC;refine Qd (Qd (wpAny_onRaise (Qd (m:=Builtin.SmallTypes.nextOf (.ref i2)) (D2.item k2 _ _ _ l2 (Draws.but D2 (Draws.but D2 (Draws.but D2 g2 sA.extBut Z.z2) sB.extBut Z.b2) sC.extBut Z.o2) fun y hD tD py gD sD=>Qf ?_))));have oD:IsPair hD TO x b:=sD.extBut _ _ Z.TOi2 oC;refine Qd (R4 oD rfl (Qd (wpAny_updateSeq_pair oD fun hE oE sE=>Qd (wpAny_letGo (Qf (Qf ?_))))));replace oE:IsPair hE TO x y:=oE;have zE:IsZip hE z TI TO .ellipsis:=sE.extBut _ _ Z.TOz.symm (sD.extBut _ _ Z.i2z.symm (sC.extBut _ _ Z.TOz.symm (sB.extBut _ _ Z.i1z.symm zA)));have sz:hE.objs.size=s.heap.objs.size:=by rw [sE.1,sD.1,sC.1,sB.1,sA.1]
 have kE:∀c o,c≠z->c≠TO->c≠i1->c≠i2->s.heap.get? c=some o->hE.get? c=some o:=fun c o c1 c2 c3 c4 e=>sE.extBut _ _ c2 (sD.extBut _ _ c4 (sC.extBut _ _ c2 (sB.extBut _ _ c3 (sA.extBut _ _ c1 e))));have d1:S1 (k1+1) hE:=Draws.but D1 (Draws.but D1 (Draws.but D1 gB sC.extBut Z.o1) sD.extBut Z.b1) sE.extBut Z.o1;have d2:S2 (k2+1) hE:=Draws.but D2 gD sE.extBut Z.o2;refine Qd (R4 oE rfl (Qd (wpAny_newTuple ?_)));refine Qd (m:=Builtin.SmallTypes.ownedTupleHandOut (.ref z) (.ref hE.objs.size)) ?_;unfold Builtin.SmallTypes.ownedTupleHandOut;have zF:IsZip (hE.push { cls:=.type "tuple",data:=.seq #[x,y] }) z TI TO .ellipsis:=Ql _ zE;refine Qd (RK zF (by simp) fun hG zG sG=>?_);replace zG:IsZip hG z TI TO (rawInt hE.objs.size):=zG;refine RK zG (by simp) fun hI zI sI=>Qf ⟨_,rfl,?_⟩;replace zI:IsZip hI z TI TO (rawInt hE.objs.size):=zI;have up:∀c o,c≠z->hE.get? c=some o->hI.get? c=some o:=fun c o c1 e=>sI.extBut _ _ c1 (sG.extBut _ _ c1 (Ql _ e));have zl:hE.objs.size≠z:=Rv (Qi zE);have tI:IsPair hI hE.objs.size x y:=sI.extBut _ _ zl (sG.extBut _ _ zl (Qu _ rfl));show Q (.ref hE.objs.size) _;rw [sz] at zI tI ⊢;exact hQ x y hI tD px py zI (up _ _ Z.TOz oE) (D1.frame _ _ _ d1 fun c hc o e=>up c o (fun q=>Z.z1 (q▸hc)) e) (D2.frame _ _ _ d2 fun c hc o e=>up c o (fun q=>Z.z2 (q▸hc)) e) tI fun c o c1 c2 c3 c4 e=>up c o c1 (kE c o c1 c2 c3 c4 e)
theorem _kv {Q:Fin->Shared->Prop} (Z:_Ap z TI TO i1 i2 f1 f2) (D1:Draws prog w A i1 f1 n1 P1 S1) (hz:IsZip s.heap z TI TO .none) (hTI:IsPair s.heap TI (.ref i1) (.ref i2))
 (g1:S1 n1 s.heap)
 (hE:∀h' e,(∀c o,c≠z->c≠TO->c≠i1->c≠i2->s.heap.get? c=some o->h'.get? c=some o)->(∃o,h'.get? e=some o∧o.cls=.type "StopIteration")->E (.ref e) { s with heap:=h' }) :
  wpAny (model prog w) A (Builtin.«zip.__next__» ⟨[.ref z],[]⟩) Q E s:=by
 unfold Builtin.«zip.__next__»;refine Qd (m:=field (.ref z) 2) (QM hz rfl (x:=.bool false) rfl ?_);refine Qd (m:=field (.ref z) 3) (QM hz rfl (x:=.ref TI) rfl (Qd (R4 hTI rfl ?_)));refine Qd (m:=Builtin.SmallTypes.ownedTupleIsFree (.ref z)) ?_;unfold Builtin.SmallTypes.ownedTupleIsFree;refine Qd (QM hz rfl (x:=.none) rfl (Qf ?_));simp only [RF];refine Qd (Gf (Qd (QM hz rfl (x:=.ref TO) rfl (Qd (RK hz (by simp) fun hA zA sA=>Qd ?_)))));replace zA:IsZip hA z TI TO .ellipsis:=zA;simp only [List.zipIdx_cons,List.zipIdx_nil,NR,List.forIn_nil];refine Qd (Qd (wpAny_onRaise (Qd (m:=Builtin.SmallTypes.nextOf (.ref i1)) (D1.done _ _ _ (Draws.but D1 g1 sA.extBut Z.z1) fun hB e sB he=>?_))));obtain ⟨o,ho,c⟩:=he;have zB:IsZip hB z TI TO .ellipsis:=sB _ _ Z.i1z.symm zA
 have ez:e≠z:=fun q=>by
  subst q;rw [zB] at ho;cases ho;simp at c
 exact RK zB (by simp) fun hC _ sC=>hE hC e (fun c o c1 _ c3 _ q=>sC.extBut _ _ c1 (sB _ _ c3 (sA.extBut _ _ c1 q))) ⟨o,sC.extBut _ _ ez ho,c⟩
theorem _l8 (Z:_Ap z TI TO i1 i2 f1 f2) (D1:Draws prog w A.in1 i1 f1 n1 P1 S1) (D2:Draws prog w A.in1 i2 f2 n2 P2 S2) (hz:IsZip s.heap z TI TO .none) (hTI:IsPair s.heap TI (.ref i1) (.ref i2)) (hTO:IsPair s.heap TO a b)
 (g1:S1 k1 s.heap) (g2:S2 k2 s.heap) (l1:k1<n1) (l2:k2<n2)
 (hQ:∀x y h' tk,P1 k1 x->P2 k2 y->IsZip h' z TI TO (rawInt s.heap.objs.size)->IsPair h' TO x y->S1 (k1+1) h'->S2 (k2+1) h'->IsPair h' s.heap.objs.size x y →
 (∀c o,c≠z->c≠TO->c≠i1->c≠i2->s.heap.get? c=some o->h'.get? c=some o)->Q (some (.ref s.heap.objs.size)) { s with heap:=h',toks:=tk }) :
  wpAny (model prog w) A (pyNext (.ref z)) Q E s:=by
 have T:s.TypeIs (.ref z) "zip":=⟨_,hz,rfl⟩;unfold pyNext
 exact Qd (GC (RG (name:=Str.ofString "__next__") T G9 (Rq G9 T F.entry_zip_next
  (_qq Z D1 D2 hz hTI hTO g1 g2 l1 l2 fun x y h' tk a1 a2 a3 a4 a5 a6 a7 a8=>Qf (hQ x y h' tk a1 a2 a3 a4 a5 a6 a7 a8)) (F.args_zip_next_1 _))))
theorem _oX (Z:_Ap z TI TO i1 i2 f1 f2) (D1:Draws prog w A.in1 i1 f1 n1 P1 S1) (hz:IsZip s.heap z TI TO .none) (hTI:IsPair s.heap TI (.ref i1) (.ref i2)) (g1:S1 n1 s.heap)
 (hQ:∀h',(∀c o,c≠z->c≠TO->c≠i1->c≠i2->s.heap.get? c=some o->h'.get? c=some o)->Q none { s with heap:=h' }):wpAny (model prog w) A (pyNext (.ref z)) Q E s:=by
 have T:s.TypeIs (.ref z) "zip":=⟨_,hz,rfl⟩;unfold pyNext;refine Qd (GC (RG (name:=Str.ofString "__next__") T G9 (Rq G9 T F.entry_zip_next (_kv Z D1 hz hTI g1 fun h' e k he=>?_) (F.args_zip_next_1 _))));obtain ⟨o,ho,c⟩:=he;exact Qd (NS (T:="StopIteration") (b:=true) ⟨o,ho,c⟩ isSubtype_stop (Qf (hQ _ k)))
end
section
variable {σ:St}
theorem Inv.turnedAll {ch:List Addr} (I:Inv X pins σ H s) (hf:∀b∈ch,XX X pins H b) (k:∀b o,b∉ch->s.heap.get? b=some o->h'.get? b=some o):Inv X pins σ H { s with heap:=h',toks:=t' }:=by
 have nit:∀b u,H b=some u->b∉ch:=fun b u e z=>by rw [(hf b z).1] at e;cases e
 refine I.step (g':=s.gens) (d':=s.drawn) (ch:=ch) (fun b hb=>⟨(hf b hb).2.2.2.1,(hf b hb).2.1,(hf b hb).2.2.2.2⟩) (fun b o _ _ hc e _=>k b o hc e) (fun b o _ _ hc e _=>⟨o.slots,k b o hc e⟩) (fun _ _ _ _ n=>n)
  (fun b o hc e=>⟨o,k b o hc e⟩) (fun _ _ e=>e) (fun _ _ _ e=>e) (fun b ps e=>⟨#[],by rw [e];simp⟩) (fun m hm=>?_) (fun b u e=>?_) I.bare
 ·obtain ⟨o,es,ep,ho,r⟩:=hm;exact ⟨o,es,ep,k _ o (fun z=>(hf _ z).2.1 rfl) ho,r⟩
 ·refine (I.hok b u e).stay (fun c v hc q=>k c v ?_ q) (fun _ q=>q) fun _ _ q=>q;rcases hc with z|z
  ·rw [z];exact nit b u e
  ·exact nit c _ z
theorem Inv.turnedLaid {ch:List Addr} {T:Addr} (I:Inv X pins σ H s) (hf:∀b∈ch,XX X pins H b) (k:∀b o,b∉ch->s.heap.get? b=some o->h'.get? b=some o) (hp:s.heap.objs.size≤T) (new:ObjOk X.prog X.w (_c H T o) h' T o) :
  Inv X pins σ (_c H T o) { s with heap:=h',toks:=t' }:=by
 have nit:∀b u,H b=some u->b∉ch:=fun b u e z=>by rw [(hf b z).1] at e;cases e
 have hn:=I.hok.fresh hp;have up:∀{b u},H b=some u->_c H T o b=some u:=fun {b u} e=>by rw [_d (_t e hn)];exact e
 refine I.step (g':=s.gens) (d':=s.drawn) (ch:=ch) (fun b hb=>⟨(hf b hb).2.2.2.1,(hf b hb).2.1,(hf b hb).2.2.2.2⟩) (fun b o _ _ hc e _=>k b o hc e) (fun b o _ _ hc e _=>⟨o.slots,k b o hc e⟩) (fun b u _ e n=>?_)
  (fun b o hc e=>⟨o,k b o hc e⟩) (fun _ _ e=>up e) (fun _ _ _ e=>up e) (fun b ps e=>⟨#[],by rw [up e];simp⟩) (fun m hm=>?_) (fun b u e=>?_) I.bare
 ·rw [_d (fun z=>absurd (Qi e) (by rw [z];exact Nat.not_lt.mpr hp))];exact n
 ·obtain ⟨o,es,ep,ho,r⟩:=hm;exact ⟨o,es,ep,k _ o (fun z=>(hf _ z).2.1 rfl) ho,r⟩
 ·by_cases hb:b=T
  ·subst hb;rw [_f] at e;cases e;exact new
  ·rw [_d hb] at e;refine (I.hok b u e).stay (fun c v hc q=>k c v ?_ q) (fun _ q=>up q) fun _ _ q=>up q;rcases hc with z|z
   ·rw [z];exact nit b u e
   ·exact nit c _ z
end
noncomputable def Itz (K:W.Frag) (a b:Addr):It :=
 ⟨fun i H => ∃xs ys x y, SqT K H a xs ∧ SqT K H b ys ∧ xs[i]?=some x ∧ ys[i]?=some y,
  fun i H v H'=>∃T x y,H T=none∧v=.ref T∧(∀xs,SqT K H a xs->xs[i]?=some x)∧(∀ys,SqT K H b ys->ys[i]?=some y)∧H'=_c H T (.tup [x,y]),
  fun i H=>∃xs,SqT K H a xs∧xs.length=i⟩
def _St (z TI TO i1 i2 a b:Addr) (i:Nat) (h:Heap):Prop:=IsZip h z TI TO .none∧IsPair h TI (.ref i1) (.ref i2)∧(∃u v,IsPair h TO u v)∧h.IsTupleIter i1 a i∧h.IsTupleIter i2 b i
theorem _lu {w:World} {K:W.Frag} {z TI TO i1 i2:Addr} (Z:_Ap z TI TO i1 i2 [i1,a] [i2,b]) (ha:a≠i1) (hb:b≠i2) :
  Turn P w K (.Tuple es n pos) (Itz K a b) [z,TI,TO,i1,i2] z (_St z TI TO i1 i2 a b) where
 mem:=by simp
 obj:=fun i h ⟨h1,h2,⟨u,v,h3⟩,⟨o4,h4,_,d4⟩,⟨o5,h5,_,d5⟩⟩ c hc=>by
  simp only [Qj,QN,QO] at hc;rcases hc with rfl|rfl|rfl|rfl|rfl
  ·exact ⟨_,h1,fun v q=>by cases q⟩
  ·exact ⟨_,h2,fun v q=>by cases q⟩
  ·exact ⟨_,h3,fun v q=>by cases q⟩
  ·exact ⟨_,h4,fun v q=>by rw [d4] at q;cases q⟩
  ·exact ⟨_,h5,fun v q=>by rw [d5] at q;cases q⟩
 keep:=fun i h h' ⟨h1,h2,⟨u,v,h3⟩,⟨o4,h4,r4⟩,⟨o5,h5,r5⟩⟩ k =>
  ⟨k _ (by simp) _ h1,k _ (by simp) _ h2,⟨u,v,k _ (by simp) _ h3⟩,⟨o4,k _ (by simp) _ h4,r4⟩,⟨o5,k _ (by simp) _ h5,r5⟩⟩
 item:=by
  intro X hP hw hK hc i pins s σ H E I hf ⟨h1,h2,⟨u,v,h3⟩,h4,h5⟩ ⟨xs,ys,x,y,qa,qb,ex,ey⟩;subst hP hw hK;obtain ⟨as,ra,ta,la⟩:=I.tuple qa;obtain ⟨bs,rb,tb,lb⟩:=I.tuple qb;have hh:X.A.in1.handled=none:=I.ok.hd hc;have la':=ra.length;have lb':=rb.length
  have lx:i<as.toArray.size:=by
   have:=(Qz.mp ex).1;simp only [Qv];omega
  have ly:i<bs.toArray.size:=by
   have:=(Qz.mp ey).1;simp only [Qv];omega
  refine _l8 Z (_b5 hh i1 a ha as.toArray) (_b5 hh i2 b hb bs.toArray) h1 h2 h3 ⟨h4,ta⟩ ⟨h5,tb⟩ lx ly fun u1 u2 h' tk p1 p2 z1 o1 g1 g2 t1 k=>?_;refine ⟨_,rfl,wpAny_letOwnedTupleGo_zip z1 fun h'' z2 sb=>?_⟩;have lz:z<s.heap.objs.size:=Qi h1;have nz:s.heap.objs.size≠z:=Rv lz;obtain ⟨v1,e1,r1⟩:=ra.get ex;obtain ⟨v2,e2,r2⟩:=rb.get ey
  have q1:v1=u1:=by
   have p:as[i]?=some u1:=by simpa using p1
   rw [e1] at p;exact Qn p
  have q2:v2=u2:=by
   have p:bs[i]?=some u2:=by simpa using p2
   rw [e2] at p;exact Qn p
  subst q1 q2
  have kk:∀c o,c∉[z,TI,TO,i1,i2]->s.heap.get? c=some o->h''.get? c=some o:=fun c o hc e=>by
   simp only [Qj,QN,QO,not_or] at hc;exact sb.extBut _ _ hc.1 (k c o hc.1 hc.2.2.1 hc.2.2.2.1 hc.2.2.2.2 e)
  have tt:IsPair h'' s.heap.objs.size v1 v2:=sb.extBut _ _ nz t1;have I':=I.turnedLaid (t':=tk) (o:=.tup [x,y]) hf kk (Qe _) (show ObjOk X.prog X.w _ h'' _ (.tup [x,y]) from ⟨_y (by simp),[v1,v2],.cons r1 (.cons r2 .nil),⟨_,tt,rfl,_,rfl⟩⟩);refine ⟨.ref s.heap.objs.size,_,I',rfl,⟨s.heap.objs.size,x,y,I.hok.fresh (Qe _),rfl,fun zs hz=>by rw [I.tuple_inj hz qa];exact ex,fun zs hz=>by rw [I.tuple_inj hz qb];exact ey,rfl⟩,?_,fun c hc=>?_⟩
  ·exact ⟨z2,sb.extBut _ _ Z.TIz (k _ _ Z.TIz Z.TITO Z.TIi1 Z.TIi2 h2),⟨_,_,sb.extBut _ _ Z.TOz o1⟩,g1.1.extBut sb.extBut Z.i1z,g2.1.extBut sb.extBut Z.i2z⟩
  ·have hlt:c<s.heap.objs.size:=by
    simp only [Qj,QN,QO] at hc;obtain ⟨o4,e4,_⟩:=h4;obtain ⟨o5,e5,_⟩:=h5;rcases hc with rfl|rfl|rfl|rfl|rfl
    ·exact lz
    ·exact Qi h2
    ·exact Qi h3
    ·exact Qi e4
    ·exact Qi e5
   rw [_d (QA hlt)];exact (hf c hc).1
 done:=by
  intro X hP hw hK hc i pins s σ H E I hf ⟨h1,h2,⟨u,v,h3⟩,h4,h5⟩ ⟨xs,qa,hl⟩;subst hP hw hK;obtain ⟨as,ra,ta,la⟩:=I.tuple qa;have hh:X.A.in1.handled=none:=I.ok.hd hc
  have e:i=as.toArray.size:=by
   have:=ra.length;simp only [Qv];omega
  subst e;refine _oX (f2:=[i2,b]) Z (_b5 hh i1 a ha as.toArray) h1 h2 ⟨h4,ta⟩ fun h' k=>⟨rfl,I.turnedAll (t':=s.toks) hf fun c o hc e=>?_⟩;simp only [Qj,QN,QO,not_or] at hc;exact k c o hc.1 hc.2.2.1 hc.2.2.2.1 hc.2.2.2.2 e
 self:=fun _ _ _ _ _ st h=>wpAny_pyIter_zip st.1 h
theorem _oG {w:World} {us vs:Array Value} {Q:Value->Shared->Prop} (ha:s.heap.IsTuple a us) (hb:s.heap.IsTuple b vs)
 (h:∀h',_St (s.heap.objs.size+4) (s.heap.objs.size+2) (s.heap.objs.size+3) s.heap.objs.size (s.heap.objs.size+1) a b 0 h'->(∀c o,s.heap.get? c=some o->h'.get? c=some o)->Q (.ref (s.heap.objs.size+4)) { s with heap:=h' }) :
  wpAny (model prog w) A (call (.type "zip") [.ref a,.ref b]) Q E s:=by
 let H1:Heap:=s.heap.push { cls:=.type "tuple_iterator",data:=.fields #[.ref a,.int 0 0] }
 let H2:Heap:=H1.push { cls:=.type "tuple_iterator",data:=.fields #[.ref b,.int 0 0] }
 let H3:Heap:=H2.push { cls:=.type "tuple",data:=.seq #[.ref s.heap.objs.size,.ref H1.objs.size] }
 let H4:Heap:=H3.push { cls:=.type "tuple",data:=.seq #[.none,.none] }
 let H5:Heap:=H4.push { cls:=.type "zip",data:=.fields #[.none,.bool false,.bool false,.ref H2.objs.size,.ref H3.objs.size] }
 have m:Meets (Builtin.«zip.__new__» ⟨[.type "zip",.ref a,.ref b],[]⟩) (fun _ R s1=>s1=s∧R (.ok (.ret (.ref H4.objs.size))) { s with heap:=H5 }):=.of_wp fun prog w A R s1 hR=>by
  obtain ⟨rfl,hR⟩:=hR;obtain ⟨hp,g,d,tk,os⟩:=s1;have hsub:=sub_zip;have hL1:Heap.IsTuple (Shared.heap ⟨hp,g,d,tk,os⟩) a us:=ha;have hL2:Heap.IsTuple (Shared.heap ⟨hp.push { cls:=.type "tuple_iterator",data:=.fields #[.ref a,.int 0 0] },g,d,tk,os⟩) b vs:=Heap.IsTuple.push hb _
  wp_walk using Gq hL1,Gq hL2
  exact ⟨_,rfl,hR⟩
 refine callType_new F.called_zip (by decide) (F.typeCall_zip_2 _ _) (F.newCall_zip_2 _ _) (fun obj=>F.args_object_init_3 obj _ _) F.entry_zip_new m ⟨rfl,?_⟩;have z1:H1.objs.size=s.heap.objs.size+1:=Rj ..;have z2:H2.objs.size=s.heap.objs.size+2:=by rw [Rj,z1]
 have z3:H3.objs.size=s.heap.objs.size+3:=by rw [Rj,z2]
 have z4:H4.objs.size=s.heap.objs.size+4:=by rw [Rj,z3]
 have up5:∀c o,H4.get? c=some o->H5.get? c=some o:=fun c o e=>Ql _ e;have up4:∀c o,H3.get? c=some o->H5.get? c=some o:=fun c o e=>up5 c o (Ql _ e);have up3:∀c o,H2.get? c=some o->H5.get? c=some o:=fun c o e=>up4 c o (Ql _ e);have up2:∀c o,H1.get? c=some o->H5.get? c=some o:=fun c o e=>up3 c o (Ql _ e);have g5:H5.get? H4.objs.size=some _:=Qu _ rfl;have g4:H5.get? H3.objs.size=some _:=up5 _ _ (Qu _ rfl);have g3:H5.get? H2.objs.size=some _:=up4 _ _ (Qu _ rfl);have g2:H5.get? H1.objs.size=some _:=up3 _ _ (Qu _ rfl);have g1:H5.get? s.heap.objs.size=some _:=up2 _ _ (Qu _ rfl);show _∧_;rw [z4,z2,z3] at g5;rw [z3] at g4;rw [z2,z1] at g3;rw [z1] at g2;rw [z4];exact ⟨⟨_,g5,rfl⟩,h H5 ⟨g5,g3,⟨_,_,g4⟩,⟨_,g1,rfl,rfl⟩,⟨_,g2,rfl,rfl⟩⟩ fun c o e=>up2 c o (Ql _ e)⟩
theorem _lO:bootBuiltins "zip"=some (.type "zip"):=by trivial
theorem _bK:bootBuiltins "all"=some (.builtin "all"):=by trivial
theorem UO {c x y:Nat} (h1:c≠x) (h2:c≠y):c∉[x,y]:=fun z=>by
 rcases Qj.mp z with z|z
 ·exact h1 z
 ·exact h2 (by simpa using z)
theorem _lU {m a b:Nat} (la:a<m) (lb:b<m):_Ap (m+4) (m+2) (m+3) m (m+1) [m,a] [m+1,b] where
 TIz:=(by omega:(m+2:Nat)≠m+4)
 TOz:=(by omega:(m+3:Nat)≠m+4)
 i1z:=(by omega:(m:Nat)≠m+4)
 i2z:=(by omega:(m+1:Nat)≠m+4)
 TITO:=(by omega:(m+2:Nat)≠m+3)
 TIi1:=(by omega:(m+2:Nat)≠m)
 TIi2:=(by omega:(m+2:Nat)≠m+1)
 TOi1:=(by omega:(m+3:Nat)≠m)
 TOi2:=(by omega:(m+3:Nat)≠m+1)
 i12:=(by omega:(m:Nat)≠m+1)
 z1:=UO (by omega) (by omega)
 z2:=UO (by omega) (by omega)
 o1:=UO (by omega) (by omega)
 o2:=UO (by omega) (by omega)
 b1:=UO (by omega) (by omega)
 b2:=UO (by omega) (by omega)
def _my (K:W.Frag) (ta:TA):TI:=fun σ H R=>ta σ H fun vs H1=>∃a b,vs=[.ref a,.ref b]∧(∃xs,SqT K H1 a xs)∧(∃ys,SqT K H1 b ys)∧R (Itz K a b) H1
theorem _nK (K:W.Frag) {e1 e2:Expr} {ta:TA} {pos':Pos} (hg:Gl X "zip") (hm:X.mg "zip"=none) (ha:PA X [e1,e2] ta) (hK:X.K=K:=by rfl)
 (hs:starEach [e1,e2] X.env=(false,eval e1 X.env)::starEach [e2] X.env:=by rfl) (hpl:(backTo pos (starEach [e2] X.env)).any (·.1)=false:=by rfl):PI X (.Tuple es n pos') (.Call (.Name "zip" p) [e1,e2] [] pos) (_my K ta):=by
 subst hK;intro pins s σ H R I h;refine Rl (Vs I hg hm _lO (Gr (_m (ha pos pins s σ H _ I h) fun us s1 ⟨vs,H1,I1,r1,q1⟩=>?_) hs hpl));obtain ⟨a,b,e,⟨xs,qa⟩,⟨ys,qb⟩,q⟩:=q1;subst e;obtain ⟨u,v,rfl,ra,rb⟩:=VN r1;cases (show u=Value.ref a from ra);cases (show v=Value.ref b from rb);obtain ⟨as,ka,ta',_⟩:=I1.tuple qa;obtain ⟨bs,kb,tb',_⟩:=I1.tuple qb;have la:a<s1.heap.objs.size:=by obtain ⟨o,e,_⟩:=ta';exact Qi e
 have lb:b<s1.heap.objs.size:=by obtain ⟨o,e,_⟩:=tb';exact Qi e
 refine _oG ta' tb' fun h' st k=>wpAny_pyIter_zip st.1 ?_;have Z:=_lU la lb;refine ⟨s1.heap.objs.size+4,_,_,_,H1,rfl,I1.kept (t':=s1.toks) k,_lu Z (QA la) (QA (Gg lb)),st,fun c hc=>?_,q⟩
 have hle:s1.heap.objs.size≤c:=by
  simp only [Qj,QN,QO] at hc;rcases hc with rfl|rfl|rfl|rfl|rfl
  ·exact Na _ 4
  ·exact Na _ 2
  ·exact Na _ 3
  ·exact Qe _
  ·exact Na _ 1
 have e:=I1.fpOk hle (I1.hok.fresh hle);exact e
theorem _n6 {w:World} {bs:List Bool} (r:Vals (bs.map V.bl) us):TruthOf P w A (fun i v=>us.toArray[i]?=some v) (fun i=>bs.getD i false):=by
 intro i v s Q E e q;have e':us[i]?=some v:=by simpa using e
 have hl:=r.length;rw [Qc] at hl
 have lt:i<bs.length:=by
  have:=(Qz.mp e').1;omega
 obtain ⟨u,e2,r2⟩:=r.get (i:=i) (x:=V.bl bs[i]) (by simp [lt]);rw [e'] at e2;cases e2;cases (show v=Value.bool bs[i] from r2);have z:bs.getD i false=bs[i]:=by simp [List.getD,lt]
 exact RU (by rw [←z];exact q)
theorem _fK:∀bs:List Bool,((List.range bs.length).all fun i=>bs.getD i false)=bs.all id
 |[]=>rfl
 |b::bs=>by
  rw [QJ,List.range_succ_eq_map,Gv,GA,Gv,←_fK bs];rfl
theorem _c0 (hc:X.calm=true):YE X (.builtin "all") (fun xs H Q=>∃(a:Addr) (bs:List Bool),xs=[.ref a]∧H a=some (.lst (bs.map V.bl))∧Q (.bl (bs.all id)) H):=by
 intro pins s σ H xs us Q I r h;obtain ⟨a,bs,rfl,q,hq⟩:=h;obtain ⟨u,rfl,ru⟩:=Y8 r;cases (show u=Value.ref a from ru);obtain ⟨its,rv,pl,hz⟩:=I.list (.inl (.inl q));have lt:a<s.heap.objs.size:=by obtain ⟨o,e,_⟩:=pl.isList;exact Qi e
 have hl:=rv.length;rw [Qc] at hl;refine call_all_walk (Nw pl.isList ⟨s.heap.objs.size,_,_,_,_,_,_,rfl,Walks.list (show X.A.in1.handled=none from I.ok.hd hc) _ a (QA lt) its.toArray,⟨⟨_,Qu _ rfl,rfl,rfl⟩,pl.isList.push _⟩,_n6 rv,fun h' tk k=>?_⟩);rw [Qv,←hl,_fK];exact ⟨.bl _,H,I.kept (t':=tk) fun b o e=>k b o (fun z=>absurd (Qi e) (by rw [show b=s.heap.objs.size by simpa using z];exact QF _)) (Ql _ e),rfl,hq⟩
def _hr (X:Cx) (CX:Yn) (Fam:Addr->Sp->Prop):Prop:=∀f sp,Fam f sp->∃k fd ps,FnOk X.prog X.w X.K X.mg X.base CX k f fd ps sp∧Room k X.A∧W.keepIn X.K (.ref f)=true∧Binds X.K fd ps []
def _pH (Fam:Addr->Sp->Prop) (i:Nat) (E:XK) (t:TA):TE:=fun σ H Q=>∃f sp,σ[i]?=some (some (.ref f))∧Fam f sp∧t σ H fun vs H1=>sp vs H1 Q E
theorem _mt {Fam:Addr->Sp->Prop} {E:XK} {x:Str} {e:Expr} {t:TA} (F:_hr X CX Fam) (hN:X.N[i]?=some x) (hv:JG X.env.scope x) (hx:_fR CX X E) (ha:PA X (e::es) t)
 (hd:(x==("__debug__": Str))=false:=by decide) (hcd:(x==("__classdict__": Str))=false:=by decide)
 (he:starEach (e::es) X.env=(false,eval e X.env)::starEach es X.env:=by rfl) (hpl:(backTo pos (starEach es X.env)).any (·.1)=false:=by rfl):PE X (.Call (.Name x p) (e::es) [] pos) (_pH Fam i E t):=by
 intro pins s σ H Q I h;obtain ⟨f,sp,e1,hF,q⟩:=h;obtain ⟨k,fd,ps,Fn,hr,hk,hb⟩:=F f sp hF;refine Rl (_m (_dy hN hv hd hcd pins s σ H (fun v H'=>v=.ref f∧H'=H) I ⟨_,e1,rfl,rfl⟩) fun u s1 ⟨v,H1,I1,r1,e2,e3⟩=>?_);subst e2 e3;cases (show u=Value.ref f from r1);refine Gy (h₀:=X.base) I1.ok.mod.kin hk (_m (ha pos pins s1 σ H1 _ I1 q) fun us s2 ⟨vs,H2,I2,r2,q2⟩=>⟨I2.kIn,?_⟩) he hpl;exact _kg Fn hr hb .nil hx I2 r2 (by rw [QU];exact q2)
section
variable {l:Expr} {tl:TE} (K:W.Frag) (hK:X.K=K)
include hK
theorem _c9:Uq X (_fC K):=by subst hK;exact Yl
theorem _fl:Uq X (_ez K):=by subst hK;exact _v
end
theorem JV (K:W.Frag) {k:Nat} {t:WI} (hc:X.calm=true) (h:Us X es t) (hK:X.K=K:=by rfl)
 (hn:(assignEach es X.env).length=n:=by rfl) (hst:(assignEach es X.env).findIdx? (·.1)=none:=by rfl):PG X (.Tuple es k pos) (_aq K n t):=by
 subst hK;exact Uf hc h hn hst
theorem JX {σ0:St} {g:TG} {Q:VK} {H1:Hp} (out:List V) (hn:out.length<sizeLine) (σP:St->Prop) (h0:σP σ0)
 (go:∀i H,i<out.length->Same H1 H->J.go i H) (stop:∀H,Same H1 H->J.stop out.length H)
 (step:∀i σ H x H' y,out[i]?=some y->σP σ->Same H1 H->J.yld i H x H'->∀C:V->St->Hp->Prop,(∀σ2 H6,σP σ2->Same H H6->C y σ2 H6)->g x σ H' fun σ2 H4=>te σ2 H4 fun y' H6=>C y' σ2 H6)
 (fin:∀D H',H1 D=none->Same H1 H'->H' D=some (.lst out)->Q (.ref D) H'):_ds J σ0 g _g6 te Q H1:=by
 intro D hD
 have keep:∀{H:Hp} {o:HO},Same H1 H->Same H1 (_c H D o):=fun {H o} e b u q=>by
  rw [_d (_t q hD)];exact e b u q
 refine ⟨fun i m σ ys H=>i≤out.length∧m=out.length-i∧σP σ∧ys=out.take i∧H D=some (.lst ys)∧Same H1 H,⟨_,QT _,rfl,h0,rfl,_f,keep (Same.refl H1)⟩,?_⟩;rintro i m σ ys H ⟨hi,rfl,p,rfl,hd,sm⟩;refine ⟨hd,?_⟩;by_cases lt:i<out.length
 ·refine .inr ⟨go i H lt sm,fun σ2 ys2 H3=>σP σ2∧ys2=out.take (i+1)∧H3 D=some (.lst ys2)∧Same H1 H3,fun σ2 ys2 H3 ⟨a,b,c,d⟩=>⟨_,by omega,lt,rfl,a,b,c,d⟩,fun x H3 y=>?_⟩;have e:out[i]?=some out[i]:=by simp [lt]
  refine step i σ H x H3 out[i] e p sm y (fun y' σ2 H6=>H6 D=some (.lst (out.take i))∧(out.take i).length<sizeLine∧σP σ2∧out.take i++[y']=out.take (i+1)∧_c H6 D (.lst (out.take i++[y'])) D=some (.lst (out.take i++[y']))∧Same H1 (_c H6 D (.lst (out.take i++[y'])))) fun σ2 H6 p2 s6=>?_;exact ⟨s6 _ _ hd,by rw [Rk];omega,p2,by rw [RM,e];rfl,_f,keep (sm.trans s6)⟩
 ·have e:i=out.length:=by omega
  subst e;rw [Q7] at hd;exact .inl ⟨stop H sm,fin D H hD sm hd⟩
section
variable {K:W.Frag} {Q:VK}
end
noncomputable def WU (js:List (Option Nat)) (σ:St):St:=js.map fun o=>match o with|none=>none|some j=>(σ[j]?).getD none
noncomputable def Jg (fr:List Str) (cells:List (Str×Addr)):List (Str×Addr):=fr.filterMap fun x=>(cells.lookup x).map fun c=>(x,c)
noncomputable def _pz (js:List (Option Nat)) (N M:List Str) (inn out:List (Str×NameKind)):Bool :=
 (js.zip N).all fun p=>match p.1 with
  |none=>true
  |some j=>(M[j]?==some p.2)&&((inn.lookup p.2==some .cell)||(inn.lookup p.2==some .free))&&((out.lookup p.2==some .cell)||(out.lookup p.2==some .free))
theorem _gU {L:List (Str×NameKind)} {x:Str} (h:((L.lookup x==some NameKind.cell)||(L.lookup x==some NameKind.free))=true):L.lookup x=some .cell∨L.lookup x=some .free:=by
 rw [Gh] at h;rcases h with h|h
 ·exact .inl (eq_of_beq h)
 ·exact .inr (eq_of_beq h)
theorem _py {fr:List Str} {cells:List (Str×Addr)} {x:Str} (h:x∈fr) (e:(cells.lookup x).isSome=true):∃c,(Jg fr cells).lookup x=some c:=by
 obtain ⟨c,hc⟩:=GT.mp e
 induction fr with
 |nil=>cases h
 |cons y r ih =>
  unfold Jg;rw [Re];by_cases q:y=x
  ·subst q;rw [hc];exact ⟨c,by simp⟩
  ·have hr:x∈r:=by
    rcases Qj.mp h with z|z
    ·exact absurd z.symm q
    ·exact z
   cases e2:cells.lookup y with
   |none=>exact ih hr
   |some d =>
    obtain ⟨c',hc'⟩:=ih hr;refine ⟨c',?_⟩;show List.lookup x ((y,d)::Jg r cells)=some c';rw [Nb,Rz.mpr (Q4 q)];exact hc'
theorem Xs (fr:List Str) (js:List (Option Nat)) (hk:sc.kind=.function) (hn:∀x∈sc.names,x.2=.local->sc.names.lookup x.1=some .local) (hc:∀y∈sc.names,y.2≠.cell)
 (clos:closureFor sc X.env=pure (Jg fr X.env.cells)) (hall:(fr.all fun x=>(X.env.cells.lookup x).isSome)=true)
 (hhas:((relabel sc X.env).names.all fun y=>(y.2 != .cell&&y.2 != .free)||fr.contains y.1)=true) (hl:js.length=N.length) (hcap:_pz js N X.N (relabel sc X.env).names X.env.scope.names=true) :
  CompSc X N sc (Jg fr X.env.cells) (WU js):=by
 have lk:∀(x:Str) (M:List (Str×NameKind)) (k:NameKind),M.lookup x=some k->(x,k)∈M:=fun x M k h=>R0 h;refine ⟨hk,hn,hc,clos,fun x c h=>?_,fun x h=>?_,fun σ=>?_,fun σ i x v e1 e2=>?_⟩
 ·have m:=R0 h;obtain ⟨y,_,e⟩:=Rc.mp m;obtain ⟨d,hd,e'⟩:=QC.mp e;cases e';exact hd
 ·have hm:x∈fr:=by
   rcases h with h|h <;>
   ·have q:=Ry.mp hhas _ (lk x _ _ h);rw [Gh] at q;rcases q with q|q
    ·simp at q
    ·simpa using q
  exact _py hm (Ry.mp hall x hm)
 ·unfold WU;rw [Qc,hl]
 ·unfold WU at e2;rw [Qp] at e2;obtain ⟨o,ho,e2⟩:=QC.mp e2;cases o with
  |none=>cases e2
  |some j =>
   have hz:(some j,x)∈js.zip N:=by
    refine List.mem_iff_getElem?.mpr ⟨i,?_⟩;rw [List.getElem?_zip_eq_some];exact ⟨ho,e1⟩
   have q:=Ry.mp hcap _ hz;simp only [R1] at q;refine ⟨_gU q.1.2,_gU q.2,j,eq_of_beq q.1.1,?_⟩;replace e2:(σ[j]?).getD none=some v:=e2;cases e3:σ[j]? with
   |none=>rw [e3] at e2;cases e2
   |some o'=>rw [e3] at e2;rw [show o'=some v from e2]
theorem W1 {σ0:St} {g:TG} {tt:TT} {Q:VK} {H1:Hp} (_Q:List (Option V)) (hn:_Q.length<sizeLine) (σP:St->Prop) (h0:σP σ0)
 (go:∀i H,i<_Q.length->Same H1 H->J.go i H) (stop:∀H,Same H1 H->J.stop _Q.length H)
 (step:∀i σ H x H' o,_Q[i]?=some o->σP σ->Same H1 H->J.yld i H x H'->∀C:Option V->St->Hp->Prop,(∀σ2 H6,σP σ2->Same H H6->C o σ2 H6)->g x σ H' fun σ2 H4=>tt σ2 H4 fun c H5=>if c=true then te σ2 H5 fun y' H6=>C (some y') σ2 H6 else C none σ2 H5)
 (fin:∀D H',H1 D=none->Same H1 H'->H' D=some (.lst (_Q.filterMap id))->Q (.ref D) H'):_ds J σ0 g tt te Q H1:=by
 intro D hD
 have keep:∀{H:Hp} {o:HO},Same H1 H->Same H1 (_c H D o):=fun {H o} e b u q=>by
  rw [_d (_t q hD)];exact e b u q
 have fl:∀i,((_Q.take i).filterMap id).length≤_Q.length:=fun i=>Qk (Rn _ _) (by rw [Rk];omega);refine ⟨fun i m σ ys H=>i≤_Q.length∧m=_Q.length-i∧σP σ∧ys=(_Q.take i).filterMap id∧H D=some (.lst ys)∧Same H1 H,⟨_,QT _,rfl,h0,rfl,_f,keep (Same.refl H1)⟩,?_⟩;rintro i m σ ys H ⟨hi,rfl,p,rfl,hd,sm⟩;refine ⟨hd,?_⟩;by_cases lt:i<_Q.length
 ·refine .inr ⟨go i H lt sm,fun σ2 ys2 H3=>σP σ2∧ys2=(_Q.take (i+1)).filterMap id∧H3 D=some (.lst ys2)∧Same H1 H3,fun σ2 ys2 H3 ⟨a,b,c,d⟩=>⟨_,by omega,lt,rfl,a,b,c,d⟩,fun x H3 y=>?_⟩;have e:_Q[i]?=some _Q[i]:=by simp [lt]
  have tk:(_Q.take (i+1)).filterMap id=(_Q.take i).filterMap id++_Q[i].toList:=by
   rw [RM,e];simp only [Option.toList_some,R5];cases _Q[i]<;>rfl
  refine step i σ H x H3 _Q[i] e p sm y (fun o σ2 H6=>match o with
   |some y'=>H6 D=some (.lst ((_Q.take i).filterMap id))∧((_Q.take i).filterMap id).length<sizeLine∧σP σ2∧(_Q.take i).filterMap id++[y']=(_Q.take (i+1)).filterMap id∧_c H6 D (.lst ((_Q.take i).filterMap id++[y'])) D=some (.lst ((_Q.take i).filterMap id++[y']))∧Same H1 (_c H6 D (.lst ((_Q.take i).filterMap id++[y'])))
   |none=>σP σ2∧(_Q.take i).filterMap id=(_Q.take (i+1)).filterMap id∧H6 D=some (.lst ((_Q.take i).filterMap id))∧Same H1 H6) fun σ2 H6 p2 s6=>?_
  rw [tk];cases hg:_Q[i] with
  |none=>exact ⟨p2,by simp,s6 _ _ hd,sm.trans s6⟩
  |some y'=>exact ⟨s6 _ _ hd,Rt (fl i) hn,p2,by simp,_f,keep (sm.trans s6)⟩
 ·have e:i=_Q.length:=by omega
  subst e;rw [Q7] at hd;exact .inl ⟨stop H sm,fin D H hD sm hd⟩
end L2
namespace RevF
open PySem PySem.Spec PyProof.Rows
theorem U8:Slot "reversed" (Str.ofString "__next__") "reversed.__next__" :=
 Slot.of (owner:="reversed") (n:="__next__") (by rw [GD,GE];rfl) (by trivial) (by trivial) (by trivial) (Or.inl (by rfl)) (by rw [GF];rfl) (by trivial)
theorem _h2:entryFor table "reversed.__next__"=some Builtin.«reversed.__next__»:=entryFor_of_tree (by rfl)
theorem _iU (a:Value):argsOk "reversed.__next__" ⟨[a],[]⟩:=by unfold argsOk;rfl
theorem _hm:Slot "reversed" (Str.ofString "__iter__") "reversed.__iter__" :=
 Slot.of (owner:="reversed") (n:="__iter__") (by rw [GD,GE];rfl) (by trivial) (by trivial) (by trivial) (Or.inl (by rfl)) (by rw [GF];rfl) (by trivial)
theorem _mF:entryFor table "reversed.__iter__"=some Builtin.«dict_keyiterator.__iter__» :=
 entryFor_alias (id':="dict_keyiterator.__iter__") (by rfl) rfl (by trivial) (by rfl)
theorem _qF (a:Value):argsOk "reversed.__iter__" ⟨[a],[]⟩:=by unfold argsOk;rfl
theorem _pj:Slot "reversed" (Str.ofString "__init__") "object.__init__" :=
 Slot.of (owner:="object") (n:="__init__") (by rw [GD,GE];rfl) (by trivial) (by trivial) (by trivial) (Or.inl (by rfl)) (by rw [GF];rfl) (by trivial)
theorem mro:mroOf (.type "reversed")=pure [.type "reversed",.type "object"]:=by rw [mroOf_type];rfl
theorem _n8:typeLookup (.type "reversed") (Str.ofString "__new__")=pure (some (.builtin "reversed.__new__")):=by rw [GD,GE];rfl
theorem made:Bind.madeBy (.type "reversed")=pure (some "reversed.__new__"):=madeBy_type mro _n8 (by trivial)
theorem sub:isSubtype (.type "reversed") (.type "reversed")=pure true:=by rw [GF];rfl
theorem _lW:TypeCalled "reversed" "reversed.__new__" "object.__init__" where
 notType:=by trivial
 canCreate:=by trivial
 mro:=⟨_,_,mro⟩
 made:=made
 plain:=by trivial
 sub:=sub
 init:=_pj
theorem _n9 (a:Value):checkTypeCall "reversed" { pos:=[a] }=pure ():=by rfl
theorem _iM:isType (.type "reversed")=pure true:=by rfl
theorem bk:builtinKind "reversed.__new__"=some .builtinFn:=by rfl
theorem sp:splitId "reversed.__new__"=some ("reversed","__new__"):=by rfl
theorem sb:Bind.staticBase (.type "reversed")=pure (.type "reversed"):=by
 unfold Bind.staticBase;simp only [mro,pure_bind,NR,made];rfl
theorem _pV (a:Value):checkBuiltinCall "reversed.__new__" { pos:=[.type "reversed",a] }=pure ():=by
 unfold checkBuiltinCall;simp only [bk,sp,_iM,sub,sb,made,pure_bind];rfl
theorem _po:entryFor table "reversed.__new__"=some Builtin.«reversed.__new__»:=entryFor_of_tree (by rfl)
theorem _pb:typeLookup (.type "tuple") (Str.ofString "__reversed__")=pure none:=by rw [GD,GE];rfl
theorem _nV:isSubtype (.type "tuple") (.type "dict")=pure false:=by rw [GF];rfl
theorem _pt (a:Value):Builtin.SmallTypes.newClass "reversed" ⟨[.type "reversed",a],[]⟩=pure (.type "reversed",[a]):=by
 unfold Builtin.SmallTypes.newClass;simp only [_iM,sub,pure_bind];rfl
section
variable {prog:Program} {w:World} {A:Around} {E:Value->Shared->Prop} {s:Shared} {a it:Addr} {us:Array Value}
def IsRev (h:Heap) (it t:Addr) (i:Int):Prop:=h.get? it=some { cls:=.type "reversed",data:=.fields #[.ref t,rawInt i] }
theorem rev_call {Q:Value->Shared->Prop} (ha:IsTup s.heap a us) (hz:(us.size:Int)<2 ^ 63)
  (h:∀tk,Q (.ref s.heap.objs.size) { s with heap:=s.heap.push { cls:=.type "reversed",data:=.fields #[.ref a,rawInt ((us.size:Int)-1)] },toks:=tk }) :
  wpAny (model prog w) A (call (.type "reversed") [.ref a]) Q E s:=by
 refine callType_new _lW (by decide) (_n9 _) (_pV _) (fun obj=>F.args_object_init_2 obj _) _po
  (S:=fun _ R s1=>s1=s∧∀tk,R (.ok (.ret (.ref s.heap.objs.size))) { s with heap:=s.heap.push { cls:=.type "reversed",data:=.fields #[.ref a,rawInt ((us.size:Int)-1)] },toks:=tk })
  (.of_wp fun prog w A R s1 hR=>?_) ⟨rfl,fun tk=>⟨⟨_,Qu _ rfl,rfl⟩,h tk⟩⟩
 obtain ⟨rfl,hR⟩:=hR;unfold Builtin.«reversed.__new__»;refine Qd (RJ (_pt _) ?_);dsimp only;refine Qd (RJ (a:=()) (by rfl) ?_);refine Qd (RJ (a:=()) (by rfl) ?_);refine Qd (Gx ha.typeIs _pb ?_);dsimp only;refine Qd (Qd (NS ha.typeIs _nV ?_));rw [Qa QG];refine Qd (Gx ha.typeIs slot_tuple_getitem.lookup ?_);dsimp only;rw [Qb (by decide)];refine Qf ?_;rw [Qa (by decide)];refine Qd (len_tuple ha hz ?_);refine Qd (RJ (a:=some (us.size:Int)) (by rfl) ?_);dsimp only;refine Qd (m:=Builtin.SmallTypes.newRecord _ _) ?_;unfold Builtin.SmallTypes.newRecord;exact Rr (Qf ⟨_,rfl,hR _⟩) (by size_fits)
theorem rev_iter {Q:Value->Shared->Prop} {i:Int} (h:IsRev s.heap it a i) (q:Q (.ref it) s):wpAny (model prog w) A (pyIter (.ref it)) Q E s:=by
 have hT:s.TypeIs (.ref it) "reversed":=⟨_,h,rfl⟩;exact wpAny_pyIter_slot hT _hm (Rq _hm hT _mF (id (Qf ⟨.ref it,rfl,"reversed",.builtin "reversed.__next__",hT,U8.lookup,q⟩)) (_qF _))
theorem rev_item {Q:Option Value->Shared->Prop} {i:Nat} {x:Value} (h:IsRev s.heap it a i) (ha:IsTup s.heap a us) (hz:(us.size:Int)<2 ^ 63) (e:us[i]?=some x)
  (q:∀h' tk,IsRev h' it a ((i:Int)-1)->Heap.SameBut it s.heap h'->Q (some x) { s with heap:=h',toks:=tk }):wpAny (model prog w) A (pyNext (.ref it)) Q E s:=by
 have hT:s.TypeIs (.ref it) "reversed":=⟨_,h,rfl⟩
 have li:i<us.size:=by
  rcases Nat.lt_or_ge i us.size with z|z
  ·exact z
  ·rw [Array.getElem?_eq_none z] at e;cases e
 unfold pyNext;refine Qd (GC (RG (name:=Str.ofString "__next__") hT U8 (Rq U8 hT _h2 ?_ (_iU _))));unfold Builtin.«reversed.__next__»;refine Qd (RJ (a:=(Value.ref it,[])) (by rfl) ?_);dsimp only;refine Qd (m:=field (.ref it) 0) (QM h rfl (x:=.ref a) rfl ?_);refine Qd (m:=field (.ref it) 1) (QM h rfl (x:=rawInt i) rfl ?_);show wpAny _ _ (if (i:Int)<0 then _ else _) _ _ _;rw [Qa (by omega)];refine Qd (Gx ha.typeIs slot_tuple_getitem.lookup ?_);rw [Qa (by decide)];refine Qd (wpAny_mkInt ?_);refine Qd (GC (getItem_tuple (j:=i) (x:=x) (by exact ha) (by omega) (by omega) (StrLaws.seqIndex_nonneg (by omega) (by omega)) e ?_));dsimp only;refine Qd (m:=field (.ref it) 1) (QM h rfl (x:=rawInt i) rfl ?_);refine Qd (RK h (by simp) fun h' hr sb=>Qf ⟨_,rfl,Qf ?_⟩);exact q h' _ hr sb
theorem rev_end {Q:Option Value->Shared->Prop} (h:IsRev s.heap it a (-1)) (hh:A.in1.handled=none)
  (q:∀h',(∀b o,b≠it->s.heap.get? b=some o->h'.get? b=some o)->Q none { s with heap:=h' }):wpAny (model prog w) A (pyNext (.ref it)) Q E s:=by
 have hT:s.TypeIs (.ref it) "reversed":=⟨_,h,rfl⟩;unfold pyNext;refine Qd (GC (RG (name:=Str.ofString "__next__") hT U8 (Rq U8 hT _h2 ?_ (_iU _))));unfold Builtin.«reversed.__next__»;refine Qd (RJ (a:=(Value.ref it,[])) (by rfl) ?_);dsimp only;refine Qd (m:=field (.ref it) 0) (QM h rfl (x:=.ref a) rfl ?_);refine Qd (m:=field (.ref it) 1) (QM h rfl (x:=rawInt (-1)) rfl ?_);show wpAny _ _ (if (-1:Int)<0 then _ else _) _ _ _;rw [Qb (by decide)];refine Qd (Gf ?_);refine Qd (Qd (RK h (by simp) fun h1 r1 sb1=>RK r1 (by simp) fun h2 r2 sb2=>?_));unfold Builtin.SmallTypes.stopIteration;refine Qd (Qd (m:=newExc (.type "StopIteration") []) ?_);simp only [newExc,newTuple];refine Qd (Rr (Qd (m:=firstArgMember _ _) (RJ (a:=Value.none) (by first|rfl|(simp only [firstArgMember];rfl)) (Rr ?_ (by size_fits)))) (by size_fits));simp only [raiseNew];refine Qd (wpAny_handled ?_);rw [show A.in1.handled=none from hh];refine Qd (Qf (wpAny_throw ?_));refine Qd (NS (T:="StopIteration") (b:=true) ⟨_,Qu _ rfl,rfl⟩ isSubtype_stop (Qf (q _ fun b o hb e=>?_)));exact Ql _ (Ql _ (sb2.extBut _ _ hb (sb1.extBut _ _ hb e)))
end
end RevF
namespace L2
open PySem PySem.Spec PyProof.Rows
variable {X:Cx} {K:W.Frag}
theorem _qD:bootBuiltins "reversed"=some (.type "reversed"):=by trivial
noncomputable def Itv (K:W.Frag) (a:Addr) (n:Nat):It :=
 ⟨fun i H=>∃xs x,SqT K H a xs∧xs.length=n∧xs.reverse[i]?=some x,fun i H x H'=>H'=H∧∀xs,SqT K H a xs->xs.reverse[i]?=some x,fun i _=>i=n⟩
theorem _on {P:Program} {w:World} {tg:Expr} (a it:Addr) (n:Nat):Turn P w K tg (Itv K a n) [it] it (fun i h=>i≤n∧RevF.IsRev h it a ((n:Int)-1-(i:Nat))) where
 mem:=by simp
 obj:=fun i h st b hb=>by
  have e:b=it:=by simpa using hb
  subst e
  exact ⟨_,st.2,fun v z=>by
   have z':Data.fields _=Data.cell v:=z;cases z'⟩
 keep:=fun i h h' st k=>⟨st.1,k it (by simp) _ st.2⟩
 item:=by
  intro X hP hw hK hc i pins s σ H E I hf st hg;subst hP hw hK;obtain ⟨xs,x,hq,hln,hx⟩:=hg;obtain ⟨its,rv,p,hz⟩:=I.tuple hq;have hl:=rv.length;have h63:=VD
  have li:i<n:=by
   have:=(Qz.mp hx).1;rw [NT] at this;omega
  have hx':xs[n-1-i]?=some x:=by
   rw [List.getElem?_reverse (by omega),hln] at hx;exact hx
  obtain ⟨u,hu,ru⟩:=rv.get hx';obtain ⟨f0,f1,f2,f3,f4,f5⟩:=hf it (by simp)
  have st':RevF.IsRev s.heap it a ((n-1-i:Nat):Int):=by
   have e:((n-1-i:Nat):Int)=(n:Int)-1-(i:Nat):=by omega
   rw [e];exact st.2
  refine RevF.rev_item st' (us:=its.toArray) p (by rw [Qv];omega) (x:=u) (by simpa using hu) fun h' tk hr sb=>?_;have I1:Inv X pins σ H { s with heap:=h',toks:=tk }:=I.turned (t':=tk) (fun b o hb e=>(sb.2 b hb).trans e) f0 f1 f3 f4 f5;refine ⟨u,rfl,Ji (s:={ s with heap:=h',toks:=tk }) hr rfl rfl (by decide) ⟨x,H,I1,ru,⟨rfl,fun ys hy=>by rw [I.tuple_inj hy hq];exact hx⟩,⟨by omega,?_⟩,fun b hb=>(hf b hb).1⟩⟩;have e:((n-1-i:Nat):Int)-1=(n:Int)-1-((i+1:Nat):Int):=by omega
  rw [←e];exact hr
 done:=by
  intro X hP hw hK hc i pins s σ H E I hf st hg;subst hP hw hK;have e:i=n:=hg;subst e;obtain ⟨f0,f1,f2,f3,f4,f5⟩:=hf it (by simp)
  have st':RevF.IsRev s.heap it a (-1):=by
   have e:(i:Int)-1-(i:Nat)=-1:=by omega
   rw [←e];exact st.2
  exact RevF.rev_end st' (I.ok.hd hc) fun h' eb=>⟨rfl,I.turned (t':=s.toks) (fun b o hb e=>eb b o hb e) f0 f1 f3 f4 f5⟩
 self:=fun _ _ _ _ _ st h=>RevF.rev_iter st.2 h
def _mE (K:W.Frag) (ta:TA):TI:=fun σ H R=>ta σ H fun vs H1=>∃a xs,vs=[.ref a]∧SqT K H1 a xs∧R (Itv K a xs.length) H1
theorem _ko (K:W.Frag) {e1 tg:Expr} {ta:TA} {p pos:Pos} (hg:Gl X "reversed") (hm:X.mg "reversed"=none) (ha:PA X [e1] ta) (hK:X.K=K:=by rfl)
 (hs:starEach [e1] X.env=(false,eval e1 X.env)::starEach [] X.env:=by rfl) (hpl:(backTo pos (starEach [] X.env)).any (·.1)=false:=by rfl):PI X tg (.Call (.Name "reversed" p) [e1] [] pos) (_mE K ta):=by
 subst hK;intro pins s σ H R I h;refine Rl (Vs I hg hm _qD (Gr (_m (ha pos pins s σ H _ I h) fun us s1 ⟨vs,H1,I1,r1,q1⟩=>?_) hs hpl));obtain ⟨a,xs,e,qa,q⟩:=q1;subst e;obtain ⟨u,rfl,ra⟩:=Y8 r1;cases (show u=Value.ref a from ra);obtain ⟨as,ka,ta',hz⟩:=I1.tuple qa;have hl:=ka.length;have hn:=VD;refine RevF.rev_call ta' (by rw [Qv];omega) fun tk=>?_;have e:((as.toArray.size:Nat):Int)-1=(xs.length:Int)-1-((0:Nat):Int):=by rw [Qv];omega
 rw [e];have rv0:RevF.IsRev (s1.heap.push { cls:=.type "reversed",data:=.fields #[.ref a,rawInt ((xs.length:Int)-1-((0:Nat):Int))] }) s1.heap.objs.size a ((xs.length:Int)-1-((0:Nat):Int)):=Qu _ rfl;refine RevF.rev_iter rv0 ?_;refine ⟨s1.heap.objs.size,[s1.heap.objs.size],_,_,H1,rfl,I1.kept (t':=tk) fun b o e=>Ql _ e,_on a _ xs.length,⟨QT _,rv0⟩,fun b hb=>?_,q⟩;have e:b=s1.heap.objs.size:=by simpa using hb
 subst e;exact I1.fpOk (Qe _) (I1.hok.fresh (Qe _))
section
variable {prog:Program} {w:World} {A:Around} {E:Value->Shared->Prop} {s:Shared}
end
def _nI (K:W.Frag):R2:=fun x y H Q=>∃a b xs ys,x=.ref a∧y=.ref b∧SqT K H a xs∧SqT K H b ys∧xs.length+ys.length≤sizeLine∧∀H' p,Same H H'->SqT K H' p (xs++ys)->Q (.ref p) H'
theorem _hN:_9 X (binaryOp .Add) (_nI X.K):=by
 intro pins s σ H x y v u Q I rx ry h;obtain ⟨a,b,xs,ys,rfl,rfl,ha,hb,hz,q⟩:=h;by_cases hx:xs=[]
 ·subst hx;cases rx;cases ry;obtain ⟨its,r1,p1,_⟩:=I.tuple ha;obtain ⟨its2,r2,p2,_⟩:=I.tuple hb;have e:its=[]:=r1.nil_iff.mpr rfl;subst e;obtain ⟨⟨cls,dd,data,sl⟩,ho,hc,n,hd⟩:=id p1;obtain ⟨⟨cls2,dd2,data2,sl2⟩,ho2,hc2,n2,hd2⟩:=id p2;simp only at hc hd hc2 hd2;subst hc hd hc2 hd2
  exact GU ⟨_,ho,rfl⟩ ⟨_,ho2,rfl⟩ NB seq_tuple_add NC ND (NE _ _)
   (tuple_addW0 a b _ its2.toArray n n2 dd dd2 sl sl2 (by simp)) ⟨ho,ho2,⟨.ref b,H,I,rfl,q H b (Same.refl H) hb⟩⟩
 ·refine _g3 pins s σ H (.ref a) (.ref b) v u Q I rx ry ⟨a,b,xs,ys,rfl,rfl,ha,hb,hx,hz,fun e=>?_,fun _ p np=>q _ p (_h np) (.of _f)⟩;subst e;exact q H a (Same.refl H) (by rw [QU];exact ha)
def KDict (K:W.Frag) (w:World) (a:Addr) (kvs:List (_l×V)):Prop :=
 (a==sysModules)=false∧kvs.length≤sizeLine∧(kvs.map (·.1)).Nodup∧∃(es:Array DictEntry) (ep:Nat),K.lookup a=some ⟨.type "dict",none,.dict es ep,#[]⟩ ∧
  Paired (fun (kv:_l×V) (e:DictEntry)=>e.hash=Vo w kv.1∧RelV (kV kv.1) e.key∧RelV kv.2 e.val) kvs es.toList
theorem _h5 {w:World} {a:Addr} {kvs:List (_l×V)} {es:Array DictEntry} {ep:Nat} (h1:(a==sysModules)=false) (h2:kvs.length≤sizeLine) (h3:(kvs.map (·.1)).Nodup) (h4:K.lookup a=some ⟨.type "dict",none,.dict es ep,#[]⟩)
 (h5:Paired (fun (kv:_l×V) (e:DictEntry)=>e.hash=Vo w kv.1∧RelV (kV kv.1) e.key∧RelV kv.2 e.val) kvs es.toList):KDict K w a kvs:=⟨h1,h2,h3,es,ep,h4,h5⟩
theorem KDict.dict {P:Program} {w:World} {a:Addr} {kvs:List (_l×V)} {h:Heap} (d:KDict K w a kvs) (k:K.In h):∃vs,KV kvs vs∧h.DictOf (Yi P w) a vs:=by
 obtain ⟨_,_,nd,es,ep,hl,pr⟩:=d
 have go:∀{l:List (_l×V)} {m:List DictEntry},Paired (fun (kv:_l×V) (e:DictEntry)=>e.hash=Vo w kv.1∧RelV (kV kv.1) e.key∧RelV kv.2 e.val) l m->∃vs,KV l vs∧Pairs (Yi P w) m vs∧(∀e∈m,∃k,(Yi P w).is k e.key=true∧e.hash=(Yi P w).hash k)∧vs.map (·.1)=l.map (·.1):=by
  intro l m p
  induction p with
  |nil=>exact ⟨[],.nil,.nil,by simp,rfl⟩
  |@cons kv e l m h p ih =>
   obtain ⟨vs,a1,a2,a3,a4⟩:=ih;refine ⟨(kv.1,e.val)::vs,.cons ⟨rfl,h.2.2⟩ a1,.cons (X5 h.2.1) rfl a2,fun x hx=>?_,by simp [a4]⟩;rcases Qj.mp hx with rfl|hx
   ·exact ⟨kv.1,X5 h.2.1,h.1⟩
   ·exact a3 x hx
 obtain ⟨vs,a1,a2,a3,a4⟩:=go pr;exact ⟨vs,a1,_,es,ep,k _ _ hl,⟨rfl,rfl,rfl⟩,rfl,fun e he=>a3 e (by simpa using he),a2,by rw [a4];exact nd⟩
section
variable {o e f:Expr} {apos cpos:Pos} {td ty tx:TE}
end
end L2
namespace RevF
open PySem PySem.Spec PyProof.Rows
section
variable {prog:Program} {w:World} {A:Around} {E:Value->Shared->Prop} {s:Shared} {a it:Addr} {us:Array Value}
end
end RevF
namespace TextM
open PySem
end TextM
namespace L2
open PySem PySem.Spec PyProof.Rows
variable {a:Addr} {A:Around} {X:Cx} {H:Hp} {pins:List (Addr×Obj)} {prog:Program} {s:Shared} {σ:St} {E Q:Value->Shared->Prop}
theorem _eT:∀{zs:List Str} {us:List Value},Vals (zs.map V.str) us->StrsAre us zs
 |[],_,.nil=>.nil
 |z::zs,_,.cons r rs=>by
  obtain ⟨t,rfl⟩:=r;exact .cons z t (_eT rs)
theorem _o4 {ds ds':List D} {xs xs':List V} {us us':List Value} {a':Addr} (I:Inv X pins σ H s) (hl:IsL X.K H ds xs) (hl':IsL X.K H ds' xs') (rv:Vals xs us) (rv':Vals xs' us')
 (z:s.heap.IsList a us.toArray) (z':s.heap.IsList a' us'.toArray) (hu:A.units<cLine)
 (it:∀(j:Nat) (d d':D) (u u':Value),ds[j]?=some d->ds'[j]?=some d'->us[j]?=some u->us'[j]?=some u'->SeqAt.EqAt A.in1 s u u' (YY d d')):SeqAt.RcNeAt A s (.ref a) (.ref a') (!Xd ds ds'):=by
 have e1:us.length=ds.length:=by rw [←rv.length,hl.length]
 have e2:us'.length=ds'.length:=by rw [←rv'.length,hl'.length]
 by_cases q:ds.length=ds'.length
 ·have g:=SeqAt.RcNeAt.lists (e:=Vq ds ds') z z' (by simp only [Qv,e1,e2,q]) hu fun j h1 h2=>by
   have g1:j<ds.length:=by rw [←e1];simpa using h1
   have g2:j<ds'.length:=by rw [←e2];simpa using h2
   have k1:ds[j]?=some ds[j]:=Qt g1;have k2:ds'[j]?=some ds'[j]:=Qt g2;unfold Vq;rw [Uo k1,Uo k2];exact it j _ _ _ _ k1 k2 (by simp) (by simp)
  rw [show us.toArray.size=ds.length by simp [e1],_bx q] at g;exact g
 ·rw [_aQ q];exact SeqAt.RcNeAt.lists_lengths z z' (by simp only [Qv,e1,e2];exact bne_iff_ne.mpr q) hu
theorem _aJ (hu:X.A.units+64<cLine):_9 X (compareOp .NotEq) (fun x y H Q=>∃ds ds',Is X.K H (.lst ds) x∧Is X.K H (.lst ds') y∧YI ds≤50∧Q (.bl (!Xd ds ds')) H):=by
 intro pins s σ H x y v u Q I rx ry h;obtain ⟨ds,ds',⟨a,xs,rfl,q1,hl⟩,⟨a2,xs2,rfl,q2,hl2⟩,hd,q⟩:=h;cases (show v=Value.ref a from rx);cases (show u=Value.ref a2 from ry);obtain ⟨its,rv,z⟩:=I.isList q1;obtain ⟨its2,rv2,z2⟩:=I.isList q2;exact (_o4 I hl hl2 rv rv2 z z2 (by omega) (eqL I ds ds' (A:=X.A.in1) hl hl2 rv rv2 (by show X.A.units+1+YI ds<cLine;omega))) _ _ _ _ ⟨.bl _,H,I,rfl,q⟩
section
variable {CX:Yn} {k:Nat} {f C:Addr} {fd:FuncData} {ps:List Str} {sp:Sp} {dvs:List V} {ds:List Value} {E:XS} {x m:Str} {p pos apos:Pos} {e o:Expr} {es:List Expr} {ta:TE} {t:TA}
def _e7 (C:Addr) (m:Str) (sp:Sp) (dvs:List V) (E:XS) (ta:TE) (t:TA):TE:=fun σ H Q=>ta σ H fun x H1=>∃a dx fs,x=.ref a∧H1 a=some (.ins C dx fs)∧fs.lookup m=none ∧
 t σ H1 fun vs H2=>sp (x::(vs++dvs)) H2 Q (E σ)
theorem _jb {pl:Sem Bool} (he:PE X o ta) (c:Cls X.K C) (hm:Meth X.K C m f) (F:FnOk X.prog X.w X.K X.mg X.base CX k f fd ps sp) (hr:Room k X.A) (hb:Binds X.K fd ps ds) (hd:Vals dvs ds) (hx:VS CX X E) (ha:PA X (e::es) t)
 (hst:starEach (e::es) X.env=(false,eval e X.env)::starEach es X.env:=by rfl) (hpl:(backTo pos (starEach es X.env)).any (·.1)=false:=by rfl)
 (ht:eval (.Call (.Attribute o m apos) (e::es) [] pos) X.env=(do
 let ov ←eval o X.env
 standAt apos.atName
 let (f,first) ←holding [ov] (getMethod ov m pl)
 callWith pos f first (backTo pos (starEach (e::es) X.env)) (backToKw pos (keywordEach [] X.env))):=by rfl) :
  PE X (.Call (.Attribute o m apos) (e::es) [] pos) (_e7 C m sp dvs E ta t):=by
 intro pins s σ H Q I h;refine W.methodCall_KW (pl:=pl) (_m (he pins s σ H _ I h) fun u s1 ⟨x,H1,I1,rx,a,dx,fs,ex,ea,l,q⟩=>?_) ht;subst ex;obtain rfl:u=Value.ref a:=rx;refine _gN I1 ea c hm l ?_;refine Gy (first:=[.ref a]) (h₀:=X.base) I.ok.mod.kin hm.kp (_m (ha pos pins s1 σ H1 _ I1 q) fun us s2 ⟨vs,H2,I2,r,q2⟩=>⟨I2.kIn,?_⟩) hst hpl;exact _cP (us:=.ref a::us) (vs:=.ref a::vs) F hr hb hd hx I2 (.cons rfl r) q2
theorem _gs {pl:Sem Bool} (he:PE X o ta) (c:Cls X.K C) (hm:Meth X.K C m f) (F:FnOk X.prog X.w X.K X.mg X.base CX k f fd ps sp) (hr:Room k X.A) (hb:Binds X.K fd ps ds) (hd:Vals dvs ds) (hx:VS CX X E)
 (ht:eval (.Call (.Attribute o m apos) [] [] pos) X.env=(do
 let ov ←eval o X.env
 standAt apos.atName
 let (f,first) ←holding [ov] (getMethod ov m pl)
 callWith pos f first (backTo pos (starEach [] X.env)) (backToKw pos (keywordEach [] X.env))):=by rfl) :
  PE X (.Call (.Attribute o m apos) [] [] pos) (_e7 C m sp dvs E ta VU):=by
 intro pins s σ H Q I h;refine W.methodCall_KW (pl:=pl) (_m (he pins s σ H _ I h) fun u s1 ⟨x,H1,I1,rx,a,dx,fs,ex,ea,l,q⟩=>?_) ht;subst ex;obtain rfl:u=Value.ref a:=rx;refine _gN I1 ea c hm l ?_;exact W.callWith_K0 (first:=[.ref a]) I1.kIn hm.kp (_cP (us:=[.ref a]) (vs:=[.ref a]) F hr hb hd hx I1 (.cons rfl .nil) q)
def _pi (C:Addr) (sp:Sp) (dvs:List V) (E:XS) (t:TA):TE:=fun σ H Q=>t σ H fun vs H1=>∀x dx,H1 x=none->H1 dx=none->dx≠x →
 sp (.ref x::(vs++dvs)) (_c (_c H1 dx (.own x)) x (.ins C dx [])) (fun v H2=>v=.non∧Q (.ref x) H2) (E σ)
theorem _nt {Q:VK} {us:List Value} {vs:List V} (M:Mk X.K C f) (F:FnOk X.prog X.w X.K X.mg X.base CX k f fd ps sp) (hr:Room (k+1) X.A) (hb:Binds X.K fd ps ds) (hd:Vals dvs ds)
 (hx:VS CX X E) (I:Inv X pins σ H s) (r:Vals vs us)
 (h:∀x dx,H x=none->H dx=none->dx≠x->sp (.ref x::(vs++dvs)) (_c (_c H dx (.own x)) x (.ins C dx [])) (fun v H2=>v=.non∧Q (.ref x) H2) (E σ)) :
  wpAny (model X.prog X.w) X.A (call (.ref C) us) (EP X pins σ Q) X.xe s:=by
 have hq:=h (s.heap.objs.size+1) s.heap.objs.size (I.hok.fresh (QV _)) (I.hok.fresh (Qe _)) (QA (Q9 _));have I2:=Inv.made (C:=C) I;have r2:Vals (V.ref (s.heap.objs.size+1)::(vs++dvs)) (Value.ref (s.heap.objs.size+1)::(us++ds)):=.cons rfl (r.append hd)
 have hl:(Value.ref (s.heap.objs.size+1)::us++ds).length=ps.length:=by
  have e:=r2.length;rw [F.len _ _ _ _ hq] at e;exact e.symm
 refine RY (_li (f:=f) I.kIn M.makes M.init (RX.mp M.fn) (RZ (F.run _ X.stack _ _ ⟨Value.ref (s.heap.objs.size+1)::us,[]⟩ (Value.ref (s.heap.objs.size+1)::(us++ds)) _ _ (E σ) (hr.make C us [])
  (I2.env0.make C us []) (hb _ (Value.ref (s.heap.objs.size+1)::us) I2.kIn hl) r2 hq) fun r s' hq'=>?_))
 cases r with
 |error e=>exact hx pins σ _ _ e s' I2 hq'
 |ok fl =>
  cases fl with
  |ret u =>
   obtain ⟨v,H',I3,rv,ev,q3⟩:=I2.after hq';subst ev;exact ⟨rv,⟨V.ref (s.heap.objs.size+1),H',I3,rfl,q3⟩⟩
  |next=>exact False.elim hq'
  |brk=>exact False.elim hq'
  |cont=>exact False.elim hq'
theorem _ib (M:Mk X.K C f) (F:FnOk X.prog X.w X.K X.mg X.base CX k f fd ps sp) (hr:Room (k+1) X.A) (hg:Gl X x) (hm:X.mg x=some (.ref C)) (hb:Binds X.K fd ps ds) (hd:Vals dvs ds) (hx:VS CX X E)
 (hdb:(x==("__debug__": Str))=false:=by decide):PE X (.Call (.Name x p) [] [] pos) (_pi C sp dvs E VU):=by
 intro pins s σ H Q I h;refine Rl (_aT I hg hm ?_ hdb);exact W.callWith_K0 I.kIn M.kp (_nt (us:=[]) M F hr hb hd hx I .nil h)
end
theorem JN:bootBuiltins "sorted"=some (.builtin "sorted"):=by trivial
theorem _bk:∀{us:List Value} {zs:List Str},StrsAre us zs->Vals (zs.map V.str) us
 |_,_,.nil=>.nil
 |_,_,.cons y t r=>.cons ⟨t,rfl⟩ (_bk r)
theorem _na (K:W.Frag) (hK:X.K=K:=by rfl):YE X (.builtin "sorted") (fun xs H Q=>∃l zs,xs=[.ref l]∧SqL K H l (zs.map V.str)∧zs.length<64∧∀D zs',H D=none->zs'.Perm zs->sortedS zs'=true->Q (.ref D) (_c H D (.lst (zs'.map V.str)))):=by
 subst hK;intro pins s σ H xs us Q I r h;obtain ⟨l,zs,rfl,hq,hl,q⟩:=h;obtain ⟨u,rfl,ru⟩:=Y8 r;cases (show u=Value.ref l from ru);obtain ⟨its,rv,pl,hz⟩:=I.list hq;have hlen:=rv.length;rw [Qc] at hlen;refine sorted_strs pl.isList (_eT rv) (by omega) fun out zs' so hp hs=>?_;obtain ⟨e,he⟩:=sortedAll_at s.heap its out;have hle:s.heap.objs.size≤s.heap.objs.size+1:=QV _;have hl2:zs'.length=zs.length:=hp.length_eq;refine ⟨.ref _,_,I.laid (t':=s.toks) (o:=.lst (zs'.map V.str)) (fun b u q=>sortedAll_old q) hle (show ObjOk X.prog X.w _ _ _ (.lst (zs'.map V.str)) from ⟨by rw [Qc];exact QR (_y (by omega)),out.toList,e,_bk so,he⟩),rfl,q _ zs' (I.hok.fresh hle) hp hs⟩
noncomputable def _M (x y:Str):Bool:=decide (x.cps.toList<y.cps.toList)
section
variable {w:World}
noncomputable def YR (xs:Array (Str×Tok)):Array Value:=xs.map fun p=>.str p.1 p.2
noncomputable def XO (xs:Array (Str×Tok)) (i:Nat):Str:=(xs[i]?.map (·.1)).getD ""
theorem _g2 {xs:Array (Str×Tok)} {i:Nat} {v:Value} (h:(YR xs)[i]?=some v):∃t,v=.str (XO xs i) t:=by
 simp only [YR,Array.getElem?_map,QC] at h;obtain ⟨p,hp,rfl⟩:=h;exact ⟨p.2,by simp [XO,hp]⟩
theorem _mq {P:Nat->Value->Prop} (val:Nat->Str) (hval:∀i v,P i v->∃t,v=.str (val i) t):CmpOf prog w A .Gt P (fun i j=>_M (val j) (val i)):=fun i j vi vj s Q E hi hj h=>by
 obtain ⟨t,rfl⟩:=hval i vi hi;obtain ⟨u,rfl⟩:=hval j vj hj;exact richCompare_gives (op:=.Gt) (Gc s _ t) (Gc s _ u) F.slot_str_gt F.entry_str_gt (F.args_str_gt_2 _ _) (gives_str_gt _ _ t u) (fun x=>nomatch x) h
theorem _mw {P:Nat->Value->Prop} (val:Nat->Str) (hval:∀i v,P i v->∃t,v=.str (val i) t):CmpOf prog w A .Lt P (fun i j=>_M (val i) (val j)):=fun i j vi vj s Q E hi hj h=>by
 obtain ⟨t,rfl⟩:=hval i vi hi;obtain ⟨u,rfl⟩:=hval j vj hj;exact richCompare_gives (op:=.Lt) (Gc s _ t) (Gc s _ u) F.slot_str_lt F.entry_str_lt (F.args_str_lt_2 _ _) (gives_str_lt _ _ t u) (fun x=>nomatch x) h
theorem _lM {a b:Str} {t u:Tok} (hh:A.handled=none)
 (h:∀h' tk,(∀c o,s.heap.get? c=some o->h'.get? c=some o)->Q (if _M a b=true then .str b u else .str a t) { s with heap:=h',toks:=tk }) :
  wpAny (model prog w) A (call (.builtin "max") [.str a t,.str b u]) Q E s:=by
 have hT:(s.heap.push { cls:=.type "tuple",data:=.seq #[.str a t,.str b u] }).IsTuple s.heap.objs.size (YR #[(a,t),(b,u)]):=⟨_,Qu _ rfl,rfl,0,by simp [YR]⟩;refine call_max_two (Gq hT ?_);have hsz:(s.heap.push { cls:=.type "tuple",data:=.seq #[.str a t,.str b u] }).objs.size=s.heap.objs.size+1:=Rj ..
 refine ⟨_,[_,s.heap.objs.size],[_],_,_,_,_,rfl,Walks.tuple (A:=A.in1) hh _ s.heap.objs.size (by rw [hsz];exact QA (Q9 _)) (YR #[(a,t),(b,u)]),
  ⟨⟨_,Qu _ rfl,rfl,rfl⟩,hT.push _⟩,fun c hc=>?_,by simp [YR],_mq (XO #[(a,t),(b,u)]) (fun _ _=>_g2),fun v h' tk hP hk=>?_⟩
 ·show c<((s.heap.push _).push _).objs.size;rw [Rj,hsz];rcases Qj.mp hc with rfl|hc
  ·rw [hsz];exact Q9 _
  ·rcases Qj.mp hc with rfl|hc
   ·exact Gg (Q9 _)
   ·cases hc
 ·have hold:∀c o,s.heap.get? c=some o->h'.get? c=some o:=fun c o e=>by
   refine hk c o (fun hm=>?_) (Ql _ (Ql _ e));rcases Qj.mp hm with e1|hm
   ·have:=Qi e;rw [e1,hsz] at this;exact QF _ (Nat.lt_of_succ_lt this)
   ·cases hm
  have:=h h' tk hold
  have hv:v=if _M a b=true then Value.str b u else Value.str a t:=by
   have hP':(YR #[(a,t),(b,u)])[argBest (fun i j=>_M (XO #[(a,t),(b,u)] j) (XO #[(a,t),(b,u)] i)) 1]?=some v:=by
    have hsz2:(YR #[(a,t),(b,u)]).size-1=1:=by simp [YR]
    rw [←hsz2];exact hP
   have e0:argBest (fun i j=>_M (XO #[(a,t),(b,u)] j) (XO #[(a,t),(b,u)] i)) 1=if _M a b=true then 1 else 0:=by
    show (if _=true then 1 else 0)=_;rfl
   by_cases hba:_M a b=true
   ·rw [e0,Qb hba] at hP';rw [Qb hba];simpa [YR] using hP'.symm
   ·rw [e0,Qa hba] at hP';rw [Qa hba];simpa [YR] using hP'.symm
  rw [hv];exact this
theorem _qo {a b:Str} {t u:Tok} (hh:A.handled=none)
 (h:∀h' tk,(∀c o,s.heap.get? c=some o->h'.get? c=some o)->Q (if _M b a=true then .str b u else .str a t) { s with heap:=h',toks:=tk }) :
  wpAny (model prog w) A (call (.builtin "min") [.str a t,.str b u]) Q E s:=by
 have hT:(s.heap.push { cls:=.type "tuple",data:=.seq #[.str a t,.str b u] }).IsTuple s.heap.objs.size (YR #[(a,t),(b,u)]):=⟨_,Qu _ rfl,rfl,0,by simp [YR]⟩;refine call_min_two (Gq hT ?_);have hsz:(s.heap.push { cls:=.type "tuple",data:=.seq #[.str a t,.str b u] }).objs.size=s.heap.objs.size+1:=Rj ..
 refine ⟨_,[_,s.heap.objs.size],[_],_,_,_,_,rfl,Walks.tuple (A:=A.in1) hh _ s.heap.objs.size (by rw [hsz];exact QA (Q9 _)) (YR #[(a,t),(b,u)]),
  ⟨⟨_,Qu _ rfl,rfl,rfl⟩,hT.push _⟩,fun c hc=>?_,by simp [YR],_mw (XO #[(a,t),(b,u)]) (fun _ _=>_g2),fun v h' tk hP hk=>?_⟩
 ·show c<((s.heap.push _).push _).objs.size;rw [Rj,hsz];rcases Qj.mp hc with rfl|hc
  ·rw [hsz];exact Q9 _
  ·rcases Qj.mp hc with rfl|hc
   ·exact Gg (Q9 _)
   ·cases hc
 ·have hold:∀c o,s.heap.get? c=some o->h'.get? c=some o:=fun c o e=>by
   refine hk c o (fun hm=>?_) (Ql _ (Ql _ e));rcases Qj.mp hm with e1|hm
   ·have:=Qi e;rw [e1,hsz] at this;exact QF _ (Nat.lt_of_succ_lt this)
   ·cases hm
  have:=h h' tk hold
  have hv:v=if _M b a=true then Value.str b u else Value.str a t:=by
   have hP':(YR #[(a,t),(b,u)])[argBest (fun i j=>_M (XO #[(a,t),(b,u)] i) (XO #[(a,t),(b,u)] j)) 1]?=some v:=by
    have hsz2:(YR #[(a,t),(b,u)]).size-1=1:=by simp [YR]
    rw [←hsz2];exact hP
   have e0:argBest (fun i j=>_M (XO #[(a,t),(b,u)] i) (XO #[(a,t),(b,u)] j)) 1=if _M b a=true then 1 else 0:=by
    show (if _=true then 1 else 0)=_;rfl
   by_cases hba:_M b a=true
   ·rw [e0,Qb hba] at hP';rw [Qb hba];simpa [YR] using hP'.symm
   ·rw [e0,Qa hba] at hP';rw [Qa hba];simpa [YR] using hP'.symm
  rw [hv];exact this
theorem _ld {l:Addr} {vs:List Value} {Q:List Value->Shared->Prop} (hl:IsTup s.heap l vs.toArray)
 (h:Q vs { s with heap:=(s.heap.push (seqObj "list" #[] 0)).update s.heap.objs.size (Obj.mapSeq (·++vs.toArray)) }) (hsz:vs.length≤sizeLine) :
  wpAny (model prog w) A (collect (.ref l)) Q E s:=by
 obtain ⟨o,ho,hc,n,hd⟩:=id hl;unfold collect;refine Qd (wpAny_runValue (R3 NU ?_));show wpAny _ _ (do again (.builtin "list.__iadd__" ⟨[←newList [],.ref l],[]⟩)) _ _ s;refine Qd (Gi (Qf ⟨G6 _ (by trivial),R3 entry_list_iadd' ?_⟩));show wpAny _ _ (Builtin.List.listExtendWith (.ref s.heap.objs.size) (.ref l) (.ref s.heap.objs.size)) _ _ { s with heap:=s.heap.push (seqObj "list" #[] 0) };unfold Builtin.List.listExtendWith;have ho':(s.heap.push (seqObj "list" #[] 0)).get? l=some o:=Ql _ ho;refine Qd (wpAny_typeOf (T:="tuple") ⟨o,ho',hc⟩ ?_);have ht:(Value.type "tuple"==Value.type "tuple")=true:=by rfl
 rw [Qb (by rw [ht];simp)];refine Qd (listItems_at ho' hd ?_);refine Qd (listItems_at (xs:=#[]) (n:=0) (Qu _ rfl) rfl ?_);rw [Qa (by simp)];refine Qd (listUpdate_at (xs:=#[]) (n:=0) (Qu _ rfl) rfl ?_ (QT _) (by show (#[]++vs.toArray).size≤sizeLine+1;simp only [Array.size_append,Qv,GY];omega));refine Qf ?_;refine Qd (wpAny_load (get?_update_seq (Qu _ rfl) _) ?_);show wpAny _ _ (pure ((#[]:Array Value)++vs.toArray).toList) Q E _;rw [show ((#[]:Array Value)++vs.toArray).toList=vs by simp];exact Qf h
theorem _oH {x:Value} {vs:List Value} {ss:List Str} (hS:StrsAre vs ss) (h64:vs.length<64)
 (hc:∀(A':Around) (Q':List Value->Shared->Prop),A'.handled=A.handled->(∀h1 tk,(∀b o,s.heap.get? b=some o->h1.get? b=some o)->s.heap.objs.size≤h1.objs.size->Q' vs { s with heap:=h1,toks:=tk })->wpAny (model prog w) A' (collect x) Q' E s)
 (h:∀h' tk a e (out:Array Value) (ss':List Str),(∀b o,s.heap.get? b=some o->h'.get? b=some o)->s.heap.objs.size≤a->h'.get? a=some (seqObj "list" out e)->StrsAre out.toList ss'->ss'.Perm ss->sortedS ss'=true->Q (.ref a) { s with heap:=h',toks:=tk }) :
  wpAny (model prog w) A (call (.builtin "sorted") [x]) Q E s:=by
 refine NV kind_sorted plain_sorted entry_sorted (args_sorted1 _) ?_;unfold Builtin.«sorted»;refine Qd (m:=checkCount "sorted" 1 1 _) (Qf ?_);refine Qd (hc _ _ rfl fun h1 tk k1 z1=>?_);refine Qd (Gi ?_);have hoL:(h1.push (seqObj "list" vs.toArray 0)).get? h1.objs.size=some (seqObj "list" vs.toArray 0):=Qu _ rfl;show wpAny _ _ _ _ _ { s with heap:=h1.push (seqObj "list" vs.toArray 0),toks:=tk };refine Qd (Q5 (Rq slot_list_sort ⟨_,hoL,rfl⟩ entry_list_sort (list_sort_treeK strKind_oneLt hoL hS.keysOf (fun v₁ v₂ rest e=>keyKind_strs (by rw [←e];exact hS)) h64 fun st' a1 a2=>⟨_,rfl,?_⟩) (args_list_sort _)));obtain ⟨ss',b1,b2,b3⟩:=sorted_out_str hS a1 a2;obtain ⟨e,he⟩:=sortedHeap_at (out:=(arrOf st').map (·.2)) hoL;refine Qf ⟨_,rfl,h _ tk _ e _ ss' (fun b o q=>?_) z1 he b1 b2 b3⟩;have q1:=k1 _ _ q;have lt:b<h1.objs.size:=Qi q1;rw [sortedHeap_old (QA lt) (by rw [size_push'];exact Gg lt)];exact Ql _ q1
end
theorem _kp (hc:X.calm=true):YE X (.builtin "max") (fun xs H Q=>∃i j,xs=[.str i,.str j]∧Q (.str (if _M i j=true then j else i)) H):=by
 intro pins s σ H xs us Q I r h;obtain ⟨i,j,rfl,q⟩:=h;obtain ⟨u,w',rfl,⟨t,rfl⟩,⟨t',rfl⟩⟩:=VN r;refine _lM (I.ok.hd hc) fun h' tk k=>⟨_,H,I.kept k,?_,q⟩;by_cases hj:_M i j=true
 ·rw [Qb hj,Qb hj];exact ⟨_,rfl⟩
 ·rw [Qa hj,Qa hj];exact ⟨_,rfl⟩
theorem _pv (hc:X.calm=true):YE X (.builtin "min") (fun xs H Q=>∃i j,xs=[.str i,.str j]∧Q (.str (if _M j i=true then j else i)) H):=by
 intro pins s σ H xs us Q I r h;obtain ⟨i,j,rfl,q⟩:=h;obtain ⟨u,w',rfl,⟨t,rfl⟩,⟨t',rfl⟩⟩:=VN r;refine _qo (I.ok.hd hc) fun h' tk k=>⟨_,H,I.kept k,?_,q⟩;by_cases hj:_M j i=true
 ·rw [Qb hj,Qb hj];exact ⟨_,rfl⟩
 ·rw [Qa hj,Qa hj];exact ⟨_,rfl⟩
theorem _qs (K:W.Frag) (hK:X.K=K:=by rfl):YE X (.builtin "sorted") (fun xs H Q=>∃l zs,xs=[.ref l]∧SqT K H l (zs.map V.str)∧zs.length<64∧∀D zs',H D=none->zs'.Perm zs->sortedS zs'=true->Q (.ref D) (_c H D (.lst (zs'.map V.str)))):=by
 subst hK;intro pins s σ H xs us Q I r h;obtain ⟨l,zs,rfl,hq,hl,q⟩:=h;obtain ⟨u,rfl,ru⟩:=Y8 r;cases (show u=Value.ref l from ru);obtain ⟨its,rv,pl,hz⟩:=I.tuple hq;have hlen:=rv.length;rw [Qc] at hlen;refine _oH (_eT rv) (by omega) (fun A' Q' _ q'=>_ld pl (q' _ _ (fun b o e=>?_) ?_) (by rw [Qc] at hz;omega)) fun h' tk a e out zs' k1 z1 he so hp hs=>?_
 ·have lt:=Qi e;rw [Heap.get?_update_ne _ _ _ _ (QA lt)];exact Ql _ e
 ·rw [Heap.size_update,size_push'];exact QV _
 have hl2:zs'.length=zs.length:=hp.length_eq;exact ⟨.ref _,_,I.laid (t':=tk) (o:=.lst (zs'.map V.str)) k1 z1 (show ObjOk X.prog X.w _ _ _ (.lst (zs'.map V.str)) from ⟨by rw [Qc];exact QR (_y (by omega)),out.toList,e,_bk so,he⟩),rfl,q _ zs' (I.hok.fresh z1) hp hs⟩
theorem _lv {w:World} {K:Type} [DecidableEq K] (knd:HeapKind prog w K) (d:Addr) (hd:(d==sysModules)=false) :
  MeetsIn prog w (Builtin.«dict.__len__» ⟨[.ref d],[]⟩) (fun _ R s=>∃kvs,s.heap.DictOfH knd d kvs∧R (.ok (.ret (.int kvs.length s.toks))) { s with toks:=s.toks+1 }) :=
 .of_wp fun A R s ⟨kvs,hm,h⟩=>by
  obtain ⟨o,es,ep,ho,hc,hdat,he,hk,hn⟩:=hm;show wpAny _ _ (dictSize d >>= _) _ _ s;unfold dictSize;refine Qd (Qd (wpAny_dictEntries ho hdat (Qf ?_)));show wpAny _ _ (Builtin.Dict.pendingCount d >>= _) _ _ s;refine Qd (wpAny_pendingCount_other hd ?_);refine wpAny_ret_mkInt ?_;have:es.size=kvs.length:=size_of_entries he;rw [Nat.add_zero,this];exact h
theorem _ln {w:World} {K:Type} [DecidableEq K] {knd:HeapKind prog w K} {d:Addr} {kvs:List (K×Addr×Value)} (hd:(d==sysModules)=false) (hm:s.heap.DictOfH knd d kvs) (hfit:(kvs.length:Int)<2 ^ 63)
 (h:Q (.int kvs.length (s.toks+1)) { s with toks:=s.toks+1+1 }):wpAny (model prog w) A (call (.builtin "len") [.ref d]) Q E s:=by
 refine NV kind_len plain_len entry_len (args_len1 _) ?_;unfold Builtin.«len»;refine Qd (m:=oneArg "len" _) (Qf ?_)
 refine Qd (m:=callSpecial? (.ref d) (Str.ofString "__len__")) (RG (name:=Str.ofString "__len__") hm.typeIs F.slot_dict_len
  (GZ F.slot_dict_len hm.typeIs F.entry_dict_len (F.args_dict_len_1 _) (_lv knd d hd) ⟨kvs,hm,?_⟩))
 show wpAny _ _ _ _ _ { s with toks:=s.toks+1 };refine Qd (Q5 (Qf ?_));refine Qd (wpAny_letGo ?_);show wpAny _ _ (if ((kvs.length:Nat):Int)<0 then _ else _) _ _ _;rw [Qa (by omega)];show wpAny _ _ (if ((kvs.length:Nat):Int) ≥ 2 ^ 63 then _ else _) _ _ _;rw [Qa (by omega)];exact Qd (wpAny_mkInt (Qf ⟨_,rfl,h⟩))
theorem _j2:YE X (.builtin "len") (fun xs H Q=>∃a kvs,xs=[V.ref a]∧H a=some (.dT kvs)∧Q (.int kvs.length) H):=by
 intro pins s σ H xs us Q I r h;obtain ⟨a,kvs,rfl,ha,q⟩:=h;obtain ⟨u,rfl,ru⟩:=Y8 r;cases ru;obtain ⟨z,hd,vs,rel,dd⟩:=_eZ I.hok ha;refine _ln hd dd (by rw [←rel.length];rw [RW] at z;omega) ?_;rw [←rel.length];exact ⟨.int kvs.length,H,I.tok _,⟨_,rfl⟩,q⟩
section
variable {w:World} {K:Type} [DecidableEq K] {knd:HeapKind prog w K}
theorem _nE {d:Addr} {xs:List (K×Addr×Value)} {k:K} {v:Value} (hu:knd.room A) (hkey:knd.is s.heap k a) (hm:s.heap.DictOfH knd d xs) (hsz:xs.length≤sizeLine)
 (h1:∀p,atKey xs k=some p->Q p.2 { s with toks:=s.toks+knd.draws k })
 (h2:atKey xs k=none->∀h',h'.DictOfH knd d (storedH xs k a v)->Heap.SameBut d s.heap h'->Q v { s with heap:=h',toks:=s.toks+knd.draws k }) :
  wpAny (model prog w) A (dictSetDefault d (.ref a) v) Q E s:=by
 obtain ⟨o,es,ep,ho,hc,hd,he,his,hn⟩:=hm;unfold dictSetDefault
 try with_reducible refine Q5 ?_
 refine Qd (knd.pyHash hu hkey ?_);refine Qd (wpAny_dictFind_heap (s:={ s with toks:=s.toks+knd.draws k }) hu hkey ho hd he his hn ?_ ?_)
 ·intro hno;have hnot:k∉xs.map (·.1):=not_mem_keys_of_get hno
  refine Qd (Gf (Qd (wpAny_updateDictKeys (hz:=by have e:=size_of_entries he;omega) (s:={ s with toks:=s.toks+knd.draws k }) ho hd (Qf (h2 (Nc hno) _ ⟨_,_,ep+1,NH _ ho (Obj.isFreed_of_dict (Obj.data_mapDictKeys hd _)),
   hc.mapDictKeys _,Obj.data_mapDictKeys hd _,?_,?_,?_⟩ (GB ..))))))
  ·rw [storedH_new (Nc hno)];simp [he,entryOfKey]
  ·rw [storedH_new (Nc hno)];intro x hx;rcases Qh.mp hx with hx|hx
   ·exact knd.keeps (his x hx) ho hd (GB ..)
   ·simp only [Qr] at hx;subst hx;exact knd.keeps hkey ho hd (GB ..)
  ·rw [storedH_new (Nc hno)];rw [Qo,QW];refine ⟨hn,by simp,?_⟩;intro x hx y hy;simp only [Qw,Gu,Qr] at hy;subst hy;exact fun e=>hnot (e▸hx)
 ·intro j p hj;refine Qd (wpAny_dictEntries (s:={ s with toks:=s.toks+knd.draws k }) ho hd ?_);rw [entry_at he j,hj];exact Qd (Gf (Qf (h1 p (atKey_of_get hn hj))))
theorem _k1 (d a:Addr) (hd:(d==sysModules)=false) (dflt:Value) :
  MeetsIn prog w (Builtin.«dict.setdefault» ⟨[.ref d,.ref a,dflt],[]⟩) (fun A R s=>knd.room A.in1∧∃k xs,knd.is s.heap k a∧s.heap.DictOfH knd d xs∧xs.length≤sizeLine ∧
   (∀p,atKey xs k=some p->R (.ok (.ret p.2)) { s with toks:=s.toks+knd.draws k }) ∧
   (atKey xs k=none->∀h',h'.DictOfH knd d (storedH xs k a dflt)->Heap.SameBut d s.heap h'->R (.ok (.ret dflt)) { s with heap:=h',toks:=s.toks+knd.draws k })) :=
 .of_wp fun A R s ⟨hu,k,xs,hkey,hm,hz,h1,h2⟩=>by
  unfold Builtin.«dict.setdefault»;refine Qd ?_;unfold Builtin.Dict.keyAndDefault;refine Qd (wpAny_notOrdered_dict hm.typeIs ?_);show wpAny _ _ (pure (d,Value.ref a,some dflt)) _ _ s;refine Qf ?_;show wpAny _ _ (if (d==sysModules)=true then _ else (dictSetDefault d (.ref a) dflt >>= _)) _ _ s;rw [Qa (by rw [hd];exact QG)];exact Qd (_nE hu hkey hm hz (fun p hp=>Qf ⟨p.2,rfl,h1 p hp⟩) fun hn h' hm' hs'=>Qf ⟨dflt,rfl,h2 hn h' hm' hs'⟩)
end
section
variable {b:Addr} {kvs:List (List _l×V)} {k:List _l} {d:V} {r:Value}
theorem _ns (hu:A.units+1<cLine) (I:Inv X pins σ H s) (e:H a=some (.dT kvs)) (eb:H b=some (.tup (k.map kV))) (l:kvs.length<sizeLine) (rd:RelV d r)
 (h1:∀v w' s',_F kvs k=some v->RelV v w'->Inv X pins σ H s'->Q w' s') (h2:∀s',_F kvs k=none->Inv X pins σ (_c H a (.dT (kvs++[(k,d)]))) s'->Q r s') :
  wpAny (model X.prog X.w) A (call (.builtin "dict.setdefault") [.ref a,.ref b,r]) Q E s:=by
 obtain ⟨z,hd,xs,rel,dd⟩:=_eZ I.hok e;have hz:xs.length≤sizeLine:=by rw [←GM rel];exact z
 have hv:=rel.val k
 refine GZ Mc dd.typeIs PySem.F.entry_dict_setdefault (PySem.F.args_dict_setdefault_3 _ _ _) (_k1 (knd:=tupleKind (Yi X.prog X.w)) a b hd r)
  ⟨Ge hu,k,xs,VZ I.hok eb,dd,hz,fun p hp=>?_,fun hn h' dd' hs=>?_⟩
 ·rw [hp] at hv;cases ho:_F kvs k with
  |none=>rw [ho] at hv;cases hv
  |some v =>
   rw [ho] at hv;exact h1 v _ _ ho hv (I.tok _)
 ·rw [hn] at hv
  have ho:_F kvs k=none:=by
   cases ho:_F kvs k with
   |none=>rfl
   |some v=>rw [ho] at hv;cases hv
  refine h2 _ ho ?_;have hp:=rel.put k eb rd;rw [_aZ _ ho] at hp;have hl:(kvs++[(k,d)]).length≤sizeLine:=by rw [Qm];exact l
  obtain ⟨q,es,ep,hq,h2,h3,h4,_,h5⟩:=dd';refine _be I (by rw [e];exact True.intro) hs ⟨q,hq⟩ ⟨hl,hd,_,hp.keeps fun c ys ec=>?_,q,es,ep,hq,h2,h3,h4,h5⟩;rw [_d (_hG ec e (fun z=>nomatch z))];exact ec
end
def _jH (td ty tx:TE):TE:=fun σ H Q=>td σ H fun x H1=>∃a,x=.ref a∧IsD H1 a∧ty σ H1 fun y H2=>tx σ H2 fun z H3=>∃kvs k b,H3 a=some (.dT kvs)∧y=.ref b∧H3 b=some (.tup (k.map kV))∧kvs.length<sizeLine ∧
 (∀v,_F kvs k=some v->Q v H3)∧(_F kvs k=none->Q z (_c H3 a (.dT (kvs++[(k,z)]))))
section
variable {o e f:Expr} {apos cpos:Pos} {td ty tx:TE}
theorem _mm (hu:X.A.units+1<cLine) (ho:PE X o td) (he:PE X e ty) (hf:PE X f tx) (m:M2 X o "setdefault" apos e f cpos):PE X (.Call (.Attribute o "setdefault" apos) [e,f] [] cpos) (_jH td ty tx):=by
 intro pins s σ H Q I h;refine wpAny_Call_method m.base m.few m.line Ma Mc PySem.F.type_dict_setdefault (_m (ho pins s σ H _ I h) fun u s1 ⟨x,H1,I1,rx,a,ex,d,q1⟩=>?_);subst ex;obtain rfl:u=Value.ref a:=rx;obtain ⟨t1,t2,_⟩:=_gZ I1 d;refine ⟨t1,t2,?_⟩;rw [m.trees]
 refine NJ rfl (GW (Rw (_m (he pins s1 σ H1 _ I1 q1) fun iv s2 ⟨y,H2,I2,ry,q2⟩ =>
  Rw (_m (hf pins s2 σ H2 _ I2 q2) fun fv s3 ⟨z,H3,I3,rz,kvs,k,b,ea,ey,eb,hl,q3,q4⟩=>Gs ?_))))
 subst ey;obtain rfl:iv=Value.ref b:=ry;exact _ns hu I3 ea eb hl rz (fun v w' s4 l rw' I4=>⟨v,H3,I4,rw',q3 v l⟩) fun s4 l I4=>⟨z,_,I4,rz,q4 l⟩
end
end L2
namespace L2
open PySem PySem.Spec PyProof.Rows PySem.W
section
variable {prog:Program} {w:World} {A:Around} {E:Value->Shared->Prop} {s:Shared} {T:String} {r d:Addr} {n:Nat} {P:Nat->Value->Prop} {OK:Heap->Prop}
theorem _ob {Q:List Value->Shared->Prop} (K:KdlSrc prog w T r d n P OK) (hh:A.handled=none) (hok:OK s.heap) (hn:n≤sizeLine)
  (h:∀h1 tk (acc:Array Value),(∀b o,s.heap.get? b=some o->h1.get? b=some o)->s.heap.objs.size≤h1.objs.size->ItemsOf P acc n->Q acc.toList { s with heap:=h1,toks:=tk }) :
  wpAny (model prog w) A (collect (.ref r)) Q E s:=by
 have hlt:=K.there _ hok;unfold collect;refine Qd (wpAny_runValue (R3 NU ?_));show wpAny _ _ (do again (.builtin "list.__iadd__" ⟨[←newList [],.ref r],[]⟩)) _ _ s;refine Qd (Gi (Qf ⟨G6 _ (by trivial),R3 entry_list_iadd' ?_⟩));show wpAny _ _ (Builtin.List.listExtendWith (.ref s.heap.objs.size) (.ref r) (.ref s.heap.objs.size)) _ _ { s with heap:=s.heap.push (seqObj "list" #[] 0) };have hS:(s.heap.push (seqObj "list" #[] 0)).get? s.heap.objs.size=some { cls:=.type "list",data:=.seq #[] 0 }:=Qu _ rfl;rw [Around.under_plainId (by trivial)]
 refine kdl_extend (R:=fun r s'=>match r with
  |.ok (.ret v)=>wpAny (model prog w) A (match v with
   |.ref a=>do match (←load a).data with
    |.seq xs _=>pure xs.toList
    |_=>unsupported "internal:collect"
   |_=>unsupported "internal:collect") Q E s'
  |.ok _=>False
  |.error e=>E e s') (A:=A) (s:={ s with heap:=s.heap.push (seqObj "list" #[] 0) }) K hh (K.keep _ _ hok fun b _ o e=>Ql _ e) s.heap.objs.size (Rv hlt.1) (Rv hlt.2) (.ref s.heap.objs.size) 0 hS (fun h' tk acc c hk hS' hacc=>?_) hn
 refine Qd (wpAny_load hS' ?_);exact Qf (h h' tk acc (fun b o e=>hk b o (QA (Qi e)) (Ql _ e)) (QR (Qi hS')) hacc)
theorem _j6 {x:Value} {ss:List Str} {Q:Value->Shared->Prop} (h64:ss.length<64)
  (hc:∀(A':Around) (Q':List Value->Shared->Prop),A'.handled=A.handled->(∀vs h1 tk,StrsAre vs ss->(∀b o,s.heap.get? b=some o->h1.get? b=some o)->s.heap.objs.size≤h1.objs.size->Q' vs { s with heap:=h1,toks:=tk })->wpAny (model prog w) A' (collect x) Q' E s)
  (h:∀h' tk a e (out:Array Value) (ss':List Str),(∀b o,s.heap.get? b=some o->h'.get? b=some o)->s.heap.objs.size≤a->h'.get? a=some (seqObj "list" out e)->StrsAre out.toList ss'->ss'.Perm ss->sortedS ss'=true->Q (.ref a) { s with heap:=h',toks:=tk }) :
  wpAny (model prog w) A (call (.builtin "sorted") [x]) Q E s:=by
 refine NV kind_sorted plain_sorted entry_sorted (args_sorted1 _) ?_;unfold Builtin.«sorted»;refine Qd (m:=checkCount "sorted" 1 1 _) (Qf ?_);refine Qd (hc _ _ rfl fun vs h1 tk hS k1 z1=>?_);refine Qd (Gi ?_);have hvl:vs.length<64:=by rw [←hS.strs,Qc] at h64;exact h64
 have hoL:(h1.push (seqObj "list" vs.toArray 0)).get? h1.objs.size=some (seqObj "list" vs.toArray 0):=Qu _ rfl;show wpAny _ _ _ _ _ { s with heap:=h1.push (seqObj "list" vs.toArray 0),toks:=tk };refine Qd (Q5 (Rq slot_list_sort ⟨_,hoL,rfl⟩ entry_list_sort (list_sort_treeK strKind_oneLt hoL hS.keysOf (fun v₁ v₂ rest e=>keyKind_strs (by rw [←e];exact hS)) hvl fun st' a1 a2=>⟨_,rfl,?_⟩) (args_list_sort _)));obtain ⟨ss',b1,b2,b3⟩:=sorted_out_str hS a1 a2;obtain ⟨e,he⟩:=sortedHeap_at (out:=(arrOf st').map (·.2)) hoL;refine Qf ⟨_,rfl,h _ tk _ e _ ss' (fun b o q=>?_) z1 he b1 b2 b3⟩;have q1:=k1 _ _ q;have lt:b<h1.objs.size:=Qi q1;rw [sortedHeap_old (QA lt) (by rw [size_push'];exact Gg lt)];exact Ql _ q1
end
section
variable {X:Cx}
theorem _jJ {P:Program} {w:World} {x:Str} {v:Value} (h:(Yi P w).is (.inr x) v=true):∃t,v=.str x t:=by
 rcases X9 (show Vl (.inr x) v=true from h) with ⟨i,t,e,_⟩|⟨y,t,e,e2⟩
 ·cases e
 ·cases e;exact ⟨t,e2⟩
theorem _f1:∀{vs:List Value} {ss:List Str},vs.length=ss.length->(∀(i:Nat) (v:Value),vs[i]?=some v->∃x t,ss[i]?=some x∧v=.str x t)->StrsAre vs ss
 |[],[],_,_=>.nil
 |v::vs,x::ss,hl,h=>by
  obtain ⟨y,t,e,rfl⟩:=h 0 v rfl;cases (show some x=some y from e)
  exact .cons x t (_f1 (by simpa using hl) fun i u hu=>by
   obtain ⟨z,t',e1,e2⟩:=h (i+1) u (by simpa using hu);exact ⟨z,t',by simpa using e1,e2⟩)
theorem _gY (hc:X.calm=true):YE X (.builtin "sorted") (fun xs H Q=>∃(l:Addr) (zs:List (Str×V)),xs=[.ref l]∧H l=some (.dK (zs.map fun p=>(.inr p.1,p.2)))∧zs.length<64∧∀D zs',H D=none->zs'.Perm (zs.map (·.1))->sortedS zs'=true->Q (.ref D) (_c H D (.lst (zs'.map V.str)))):=by
 intro pins s σ H xs us Q I r h;obtain ⟨l,zs,rfl,hq,hl,q⟩:=h;obtain ⟨u,rfl,ru⟩:=Y8 r;cases (show u=Value.ref l from ru);obtain ⟨z,hd,vs,rel,dd⟩:=_bl I.hok hq;obtain ⟨ep,da⟩:=dd.dictAt;have hlen:vs.length=zs.length:=by rw [←rel.length,Qc]
 have keyAt:∀(i:Nat) (k:_l) (x:Value),vs[i]?=some (k,x)->∃z,(zs.map (·.1))[i]?=some z∧k=.inr z:=by
  have go:∀{ys:List (Str×V)} {ws:List (_l×Value)},KV (ys.map fun p=>((.inr p.1:_l),p.2)) ws->∀(i:Nat) (k:_l) (x:Value),ws[i]?=some (k,x)->∃z,(ys.map (·.1))[i]?=some z∧k=.inr z:=by
   intro ys
   induction ys with
   |nil=>intro ws r i k x e;cases r;cases e
   |cons y ys ih =>
    intro ws r i k x e;cases r with
    |cons h t =>
     cases i with
     |zero =>
      rw [NP] at e;cases e;exact ⟨y.1,rfl,h.1.symm⟩
     |succ i =>
      rw [G7] at e;obtain ⟨z,e1,e2⟩:=ih t i k x e;exact ⟨z,by simpa using e1,e2⟩
  exact go rel
 have col:∀(acc:Array Value),ItemsOf (fun i v=>∃k x,vs[i]?=some (k,x)∧(Yi X.prog X.w).is k v=true) acc vs.length->StrsAre acc.toList (zs.map (·.1)):=by
  intro acc hacc;refine _f1 (by rw [Qc,←hlen,Ga];exact hacc.1) fun i v e=>?_;obtain ⟨k,x,e1,e2⟩:=hacc.2 i v (by rw [←Array.getElem?_toList];exact e);obtain ⟨z,e3,rfl⟩:=keyAt i k x e1;obtain ⟨t,rfl⟩:=_jJ e2;exact ⟨z,t,e3,rfl⟩
 refine _j6 (ss:=zs.map (·.1)) (by rw [Qc];exact hl) (fun A' Q' hA q'=>_ob (kdl_dict hd) (by rw [hA];exact I.ok.hd hc) da (by rw [hlen];exact QR (_y (by omega))) fun h1 tk acc k1 z1 hacc=>q' _ h1 tk (col acc hacc) k1 z1) fun h' tk a e out zs' k1 z1 he so hp hs=>?_;have hl2:zs'.length=zs.length:=by rw [hp.length_eq,Qc]
 exact ⟨.ref _,_,I.laid (t':=tk) (o:=.lst (zs'.map V.str)) k1 z1 (show ObjOk X.prog X.w _ _ _ (.lst (zs'.map V.str)) from ⟨by rw [Qc];exact QR (_y (by omega)),out.toList,e,_bk so,he⟩),rfl,q _ zs' (I.hok.fresh z1) hp hs⟩
end
end L2
namespace L2
open PySem PySem.Spec PyProof.Rows
variable {f:Addr} {X:Cx} {st:Stmt} {qual:Str} {K:W.Frag}
theorem _ix (val:Nat->Int):∀k:Nat,argBest (fun i j=>decide (val i > val j)) k≤k∧∀i,i≤k->val i≤val (argBest (fun i j=>decide (val i > val j)) k)
 |0=>⟨Qe _,fun i hi=>by cases (show i=0 by omega);exact Nd _⟩
 |k+1=>by
  obtain ⟨h1,h2⟩:=_ix val k;show (if decide (val (k+1) > val (argBest _ k))=true then k+1 else argBest _ k)≤k+1∧∀i,i≤k+1->val i≤val (if decide (val (k+1) > val (argBest _ k))=true then k+1 else argBest _ k);by_cases h:val (k+1) > val (argBest (fun i j=>decide (val i > val j)) k)
  ·rw [Qb (Qx h)];refine ⟨Qe _,fun i hi=>?_⟩;by_cases e:i=k+1
   ·subst e;exact Nd _
   ·have:=h2 i (by omega);omega
  ·rw [Qa (by rw [Qs h];decide)];refine ⟨by omega,fun i hi=>?_⟩;by_cases e:i=k+1
   ·subst e;omega
   ·exact h2 i (by omega)
theorem _cT:∀{us:List Value} {is:List Int},Vals (is.map V.int) us->∃ps:List (Int×Tok),us=ps.map (fun p=>Value.int p.1 p.2)∧ps.map (·.1)=is
 |us,[],r=>by cases r;exact ⟨[],rfl,rfl⟩
 |us,i::is,r=>by
  cases r with
  |cons h t =>
   obtain ⟨tk,rfl⟩:=h;obtain ⟨ps,rfl,e⟩:=_cT t;exact ⟨(i,tk)::ps,rfl,by rw [Qw,e]⟩
theorem _gq (K:W.Frag) (hc:X.calm=true) (hK:X.K=K:=by rfl):YE X (.builtin "max") (fun xs H Q=>∃(l:Addr) (is:List Int),xs=[.ref l]∧SqL K H l (is.map V.int)∧is≠[]∧∀m,m∈is->(∀x∈is,x≤m)->Q (.int m) H):=by
 subst hK;intro pins s σ H xs us Q I r h;obtain ⟨l,is,rfl,hq,hne,q⟩:=h;obtain ⟨u,rfl,ru⟩:=Y8 r;cases (show u=Value.ref l from ru);obtain ⟨its,rv,pl,hz⟩:=I.list hq;obtain ⟨ps,rfl,rfl⟩:=_cT rv
 have hl:s.heap.IsList l (intItems ps.toArray):=by
  have:=pl.isList
  rwa [show (ps.map fun p=>Value.int p.1 p.2).toArray=intItems ps.toArray by simp [intItems]] at this
 have hpos:0<ps.length:=List.length_pos_iff.mpr (fun e=>hne (by rw [e];rfl));refine max_intList (I.ok.hd hc) hl (by simpa using hpos) fun v h' tk e k=>?_;obtain ⟨b1,b2⟩:=_ix (numAt ps.toArray) (ps.toArray.size-1);obtain ⟨t,rfl⟩:=intItems_at e;generalize argBest (fun i j=>decide (numAt ps.toArray i > numAt ps.toArray j)) (ps.toArray.size-1)=n at *;have hn:n<ps.length:=by rw [Qv] at b1;omega
 have val:∀i (hi:i<ps.length),numAt ps.toArray i=(ps[i]).1:=fun i hi=>by simp [numAt,hi]
 refine ⟨.int (numAt ps.toArray n),H,I.kept k,⟨t,rfl⟩,q _ ?_ fun x hx=>?_⟩
 ·rw [val n hn];exact Qg.mpr ⟨ps[n],R6 _,rfl⟩
 ·obtain ⟨p,hp,rfl⟩:=Qg.mp hx;obtain ⟨i,hi,rfl⟩:=List.getElem_of_mem hp;rw [←val i hi];exact b2 i (by rw [Qv];omega)
section
variable {pins:List (Addr×Obj)} {σ:St} {H H':Hp} {s:Shared} {d:Addr} {kvs:List (_l×V)} {o:Obj}
theorem Inv.thaw (I:Inv X pins σ H s) (e:H d=some (.frz o (.dK kvs))) (n:∀o u,X.H₀ d≠some (.frz o u)):Inv X pins σ (_c H d (.dK kvs)) s:=by
 have ne:∀b,H b=none->b≠d:=fun b z q=>by subst q;rw [e] at z;cases z
 refine ⟨I.ok,I.os,I.bare,⟨I.base.keep,I.base.slot,fun b q h1 h2 h3=>?_,I.base.there,fun b xs h1=>?_,fun b q u h1=>?_,fun b ps h1=>?_⟩,I.loc,I.cell,?_,fun x c h1=>?_,fun p hp=>?_,fun b u h1=>?_,I.len⟩
 ·have:=I.base.free b q h1 h2 h3;rw [_d (ne b this)];exact this
 ·have:=I.base.tups b xs h1;rw [_d (fun z=>by subst z;rw [e] at this;cases this)];exact this
 ·have:=I.base.frzs b q u h1;rw [_d (fun z=>by subst z;exact n _ _ h1)];exact this
 ·obtain ⟨more,this⟩:=I.base.tbls b ps h1;exact ⟨more,by rw [_d (fun z=>by subst z;rw [e] at this;cases this)];exact this⟩
 ·rw [_d (ne _ I.free)];exact I.free
 ·have:=I.freeC x c h1;rw [_d (ne _ this)];exact this
 ·obtain ⟨a1,a2,a3⟩:=I.pin p hp;exact ⟨a1,by rw [_d (ne _ a2)];exact a2,a3⟩
 ·by_cases z:b=d
  ·subst z;rw [_f] at h1;cases h1;exact (show ObjOk X.prog X.w _ _ _ (.dK kvs) from (I.hok b _ e).2)
  ·rw [_d z] at h1;refine (I.hok b u h1).stay (fun c v hc q=>q) (fun c q=>?_) fun c xs q=>?_
   ·rw [_d (fun z=>by subst z;rw [e] at q;cases q)];exact q
   ·rw [_d (fun z=>by subst z;rw [e] at q;cases q)];exact q
end
theorem _iI:∀{kvs:List (_l×V)} {vs:List (_l×Value)},KV kvs vs->∀(i:Nat) (p:_l×V),kvs[i]?=some p->∃x,vs[i]?=some (p.1,x)
 |[],_,r,i,p,e=>by cases e
 |q::kvs,_,r,i,p,e=>by
  cases r with
  |@cons _ y _ _ h t =>
   cases i with
   |zero =>
    cases (show some q=some p from e);exact ⟨y.2,by rw [NP,h.1]⟩
   |succ i =>
    rw [G7] at e;obtain ⟨x,hx⟩:=_iI t i p e;exact ⟨x,by rw [G7];exact hx⟩
theorem _kd {k:_l} {v:Value} (h:Vl k v=true):RelV (kV k) v:=by
 rcases X9 h with ⟨i,t,rfl,rfl⟩|⟨x,t,rfl,rfl⟩
 ·exact ⟨t,rfl⟩
 ·exact ⟨t,rfl⟩
noncomputable def JL (d:Addr) (o:Obj) (kvs:List (_l×V)):It where
 go:=fun i H=>H d=some (.frz o (.dK kvs))∧i<kvs.length
 stop:=fun i H=>H d=some (.frz o (.dK kvs))∧kvs.length≤i
 yld:=fun i H x H'=>H'=H∧(kvs[i]?.map fun p=>kV p.1)=some x
theorem _oS {P:Program} {w:World} {tg:Expr} (d it:Addr) (o:Obj) (kvs:List (_l×V)) (es:Array DictEntry) (ep:Nat) (ho:o.data=.dict es ep):Turn P w K tg (JL d o kvs) [it] it (fun i h=>h.IsKeyIter it d i kvs.length ep) where
 mem:=by simp
 obj:=fun i h st b hb=>by
  have e:b=it:=by simpa using hb
  subst e;obtain ⟨o,e,c,d⟩:=st;exact ⟨o,e,fun v z=>by rw [d] at z;cases z⟩
 keep:=fun i h h' st k=>st.at fun o e=>k it (by simp) o e
 item:=by
  intro X hP hw hK hc i pins s σ H E I hf st hg;subst hP hw hK;obtain ⟨hq,hi⟩:=hg;obtain ⟨g1,g2⟩:=(show s.heap.get? d=some o∧ObjOk X.prog X.w H s.heap d (.dK kvs) from I.hok d _ hq);obtain ⟨z,hd,vs,rel,dd⟩:=(show kvs.length≤sizeLine∧(d==sysModules)=false∧∃vs,KV kvs vs∧s.heap.DictOf (Yi X.prog X.w) d vs from g2);obtain ⟨o2,es2,ep2,b1,b2,b3,b4⟩:=dd;rw [g1] at b1;cases b1;rw [ho] at b3;cases b3;have da:s.heap.DictAt (Yi X.prog X.w) d vs ep:=⟨o,es,g1,b2,ho,b4⟩;have hlen:vs.length=kvs.length:=rel.length.symm;obtain ⟨x,hx⟩:=_iI rel i kvs[i] (Qt hi);obtain ⟨f0,f1,f2,f3,f4,f5⟩:=hf it (by simp);rw [←hlen] at st;refine wpAny_pyNext_dict_item st da hx fun key h' hkey st' sb=>?_;have I1:Inv X pins σ H { s with heap:=h' }:=I.turned (t':=s.toks) (fun b o hb e=>(sb.2 b hb).trans e) f0 f1 f3 f4 f5;rw [hlen] at st';obtain ⟨o3,e3,c3,d3⟩:=id st';exact ⟨key,rfl,Ji (s:={ s with heap:=h' }) e3 c3 d3 (by decide) ⟨kV kvs[i].1,H,I1,_kd hkey,⟨rfl,by rw [Qt hi];rfl⟩,st',fun b hb=>(hf b hb).1⟩⟩
 done:=by
  intro X hP hw hK hc i pins s σ H E I hf st hg;subst hP hw hK;obtain ⟨hq,hi⟩:=hg;obtain ⟨g1,g2⟩:=(show s.heap.get? d=some o∧ObjOk X.prog X.w H s.heap d (.dK kvs) from I.hok d _ hq);obtain ⟨z,hd,vs,rel,dd⟩:=(show kvs.length≤sizeLine∧(d==sysModules)=false∧∃vs,KV kvs vs∧s.heap.DictOf (Yi X.prog X.w) d vs from g2);obtain ⟨o2,es2,ep2,b1,b2,b3,b4⟩:=dd;rw [g1] at b1;cases b1;rw [ho] at b3;cases b3;have da:s.heap.DictAt (Yi X.prog X.w) d vs ep:=⟨o,es,g1,b2,ho,b4⟩;have hlen:vs.length=kvs.length:=rel.length.symm;obtain ⟨f0,f1,f2,f3,f4,f5⟩:=hf it (by simp);rw [←hlen] at st;exact wpAny_pyNext_dict_end (I.ok.hd hc) st da (RN (by omega)) fun h' eb=>⟨rfl,I.turned (t':=s.toks) (fun b o hb e=>eb b o hb e) f0 f1 f3 f4 f5⟩
 self:=fun _ _ _ _ _ st h=>wpAny_pyIter_keyiter st h
def _la (tl:TE):TI:=fun σ H R=>tl σ H fun x H1=>∃a kvs,x=.ref a∧H1 a=some (.dK kvs)∧∀o,R (JL a o kvs) (_c H1 a (.frz o (.dK kvs)))
theorem _aU {tg l:Expr} {tl:TE} (hl:PE X l tl):PI X tg l (_la tl):=by
 intro pins s σ H R I h;refine _m (hl pins s σ H _ I h) fun v s1 ⟨x,H1,I1,r1,q1⟩=>?_;obtain ⟨a,kvs,e,ha,q⟩:=q1;subst e;cases r1;obtain ⟨z,hd,vs,rel,dd⟩:=_bl I1.hok ha;obtain ⟨o,es,ep,b1,b2,b3,b4⟩:=id dd;have da:s1.heap.DictAt (Yi X.prog X.w) a vs ep:=⟨o,es,b1,b2,b3,b4⟩;have hlen:vs.length=kvs.length:=rel.length.symm
 have If:Inv X pins σ (_c H1 a (.frz o (.dK kvs))) s1 :=
  I1.write (x:=a) (e:=a) (o:=.frz o (.dK kvs)) (h':=s1.heap) (t':=s1.toks) (by rw [ha];exact True.intro) (.inl rfl) (fun b u _ e=>e) ⟨o,b1⟩ ⟨b1,z,hd,vs,rel,dd⟩
 refine wpAny_pyIter_dict hd da ?_;refine ⟨s1.heap.objs.size,[s1.heap.objs.size],_,_,_,rfl,If.kept (t':=s1.toks) fun b o e=>Ql _ e,_oS a _ o kvs es ep b3,⟨_,Qu _ rfl,rfl,by rw [hlen];rfl⟩,fun b hb=>?_,q o⟩;have e:b=s1.heap.objs.size:=by simpa using hb
 subst e;exact If.fpOk (Qe _) (If.hok.fresh (Qe _))
theorem _kt (K:W.Frag) (hc:X.calm=true) (hK:X.K=K:=by rfl):YE X (.builtin "sum") (fun xs H Q=>∃(l:Addr) (is:List Int),xs=[.ref l]∧SqL K H l (is.map V.int)∧Q (.int is.sum) H):=by
 subst hK;intro pins s σ H xs us Q I r h;obtain ⟨l,is,rfl,hq,q⟩:=h;obtain ⟨u,rfl,ru⟩:=Y8 r;cases (show u=Value.ref l from ru);obtain ⟨its,rv,pl,hz⟩:=I.list hq;obtain ⟨ps,rfl,rfl⟩:=_cT rv
 have hl:s.heap.IsList l (intItems ps.toArray):=by
  have:=pl.isList
  rwa [show (ps.map fun p=>Value.int p.1 p.2).toArray=intItems ps.toArray by simp [intItems]] at this
 refine sum_intListG (I.ok.hd hc) hl fun h' tk t' k=>?_;rw [preSum_eq,Nf (by simp)];exact ⟨.int (ps.map (·.1)).sum,H,I.kept k,⟨t',rfl⟩,q⟩
theorem _pa:bootBuiltins "sum"=some (.builtin "sum"):=by trivial
def _mN (t:TS):TS:=fun D σ H=>∃d kvs,H d=some (.dK kvs)∧t { nx:=fun σ' H'=>∃o,H' d=some (.frz o (.dK kvs))∧D.nx σ' (_c H' d (.dK kvs)),rt:=fun _ _=>False } σ H
theorem _bR {t:TS} (hs:PS X st t):PS X st (_mN t):=by
 intro pins s σ H D I h;obtain ⟨d,kvs,hd,h⟩:=h
 have n:∀o u,X.H₀ d≠some (.frz o u):=fun o u z=>by
  have:=I.base.frzs d o u z;rw [hd] at this;cases this
 refine _m (hs pins s σ H _ I h) fun fl s1 q=>?_;cases fl with
 |next =>
  obtain ⟨σ1,H1,I1,o,e1,q1⟩:=q;exact ⟨σ1,_,I1.thaw e1 n,q1⟩
 |brk=>obtain ⟨σ1,H1,I1,z⟩:=q;exact z.elim
 |cont=>obtain ⟨σ1,H1,I1,z⟩:=q;exact z.elim
 |ret u=>obtain ⟨v,σ1,H1,I1,r,z⟩:=q;exact z.elim
structure FunD (K:W.Frag) (x qual:Str) (st:Stmt) (f:Addr) (fd:FuncData) (dV:Value):Prop where
 ex:∃(oc:Value) (od:Option Addr) (kV doc pm:Value) (an:Option Addr) (cdv ct:Value) (osl:Array (Option Value)),
  fd=W.fnOf x qual (Xo st) (Y0 st) (_r st) dV kV doc pm an cdv ct∧K.lookup f=some ⟨oc,od,.func fd,osl⟩∧W.codeIn K cdv qual=true
 kp:W.keepIn K (.ref f)=true
theorem FunD.okX {P:Program} {w:World} {mg:Str->Option Value} {base:Heap} {CX:Yn} {x:Str} {fd:FuncData} {dV:Value} {N ps:List Str} {k:Nat} {sp:Sp} (F:FunD K x qual st f fd dV) (S:FnScope N ps (_r st))
 (len:∀vs H Q E,sp vs H Q E->vs.length=ps.length)
 (hbody:∀(cdv:Value) (A:Around) (outer:List Env) (s:Shared) (H:Hp) (vs:List V) (Q:VK) (E:XK),Room k (A.deeper (envOfC qual (_r st) s.heap.objs.size f cdv))->sp vs H Q E →
 ∃t,PSs (Vg CX P w K mg base N qual (_r st) f cdv A outer s H E) (Y0 st) t∧t { nx:=fun _ H'=>Q .non H',rt:=Q } (start N vs) H):FnOk P w K mg base CX (k+1) f fd ps sp:=by
 obtain ⟨oc,od,kV,doc,pm,an,cdv,ct,osl,rfl,lk,hcd⟩:=F.ex;exact _fm lk hcd S len fun A outer s H vs Q E hr hsp=>hbody cdv A outer s H vs Q E hr hsp
theorem _hA {x:Str} {oc:Value} {od an:Option Addr} {osl:Array (Option Value)} {dV kV doc pm cdv ct:Value} (l:K.lookup f=some ⟨oc,od,.func (W.fnOf x qual (Xo st) (Y0 st) (_r st) dV kV doc pm an cdv ct),osl⟩)
 (c:W.codeIn K cdv qual=true) (k:W.keepIn K (.ref f)=true):FunD K x qual st f (W.fnOf x qual (Xo st) (Y0 st) (_r st) dV kV doc pm an cdv ct) dV:=⟨⟨oc,od,kV,doc,pm,an,cdv,ct,osl,rfl,l,c⟩,k⟩
theorem FunD.binds1 {x:Str} {T:Addr} {fd:FuncData} {ps:List Str} {o:Obj} {n:Nat} (F:FunD K x qual st f fd (.ref T)) (ho:K.lookup T=some o) (hs:o.data=.seq #[.none] n)
 (h:∀(kV doc pm:Value) (an:Option Addr) (cdv ct:Value) (us:List Value),us.length+1=ps.length->∃k:Option (Array Value)->Sem (List (Str×Value)),
 bindArgs (W.fnOf x qual (Xo st) (Y0 st) (_r st) (.ref T) kV doc pm an cdv ct) ⟨us,[]⟩=seqItems? (.ref T) >>= k∧k (some #[.none])=pure (ps.zip (us++[.none]))):Binds K fd ps [.none]:=by
 obtain ⟨oc,od,kV,doc,pm,an,cdv,ct,osl,rfl,lk,hcd⟩:=F.ex;intro s us hin hl;rw [Qm] at hl;obtain ⟨k,h1,h2⟩:=h kV doc pm an cdv ct us hl;exact W.binds_K hin rfl ho hs h1 h2
section
variable {body suite:List Stmt} {b₀:Stmt} {x n:Str} {C:Addr} {np hpos pos:Pos} {bmB:List Value} {newId:String} {i:Nat} {tb:XS->TS} {ts:TS}
end
end L2
namespace SA
open PySem PyProof.Rows
variable {A:Around} {O:KeyOrd} {M:Model} {s:Shared} {E:Value->Shared->Prop}
section
variable {key:Keyed->O.α} {D:Keyed->Prop} {kd:SortKind}
end
section
variable {key:Keyed->O.α} {D:Keyed->Prop} {kd:SortKind}
end
section
variable {key:Keyed->O.α} {D:Keyed->Prop} {kd:SortKind}
end
section
variable {key:Keyed->O.α}
end
section
variable {key:Keyed->O.α} {D:Keyed->Prop} {kd:SortKind}
end
section
variable {key:Keyed->O.α} {D:Keyed->Prop} {kd:SortKind}
end
section
variable {key:Keyed->O.α} {D:Keyed->Prop} {kd:SortKind} {d:O.α}
end
section
variable {key:Keyed->O.α} {D:Keyed->Prop} {kd:SortKind} {d:O.α}
end
section
variable {key:Keyed->O.α} {D:Keyed->Prop} {kd:SortKind} {d:O.α} {a0:List Keyed}
end
section
variable {key:Keyed->O.α} {D:Keyed->Prop} {kd:SortKind} {d:O.α} {a0:List Keyed}
end
end SA
namespace SA
open PySem PyProof.Rows PySem.W
section
variable {prog:Program} {w:World} {A:Around} {E:Value->Shared->Prop} {s:Shared}
end
end SA
namespace L2
open PySem PySem.Spec PyProof.Rows PySem.W
section
variable {prog:Program} {w:World} {A:Around} {E:Value->Shared->Prop} {s:Shared}
end
end L2
namespace L2
open PySem PySem.Spec PyProof.Rows PySem.W SA
variable {X:Cx} {s:Shared}
section
variable {prog:Program} {w:World} {A:Around} {E:Value->Shared->Prop}
end
section
variable {pins:List (Addr×Obj)} {σ:St} {H H':Hp} {d:Addr} {kvs:List (List _l×V)} {o:Obj}
end
section
variable {prog:Program} {w:World} {A:Around} {E:Value->Shared->Prop}
theorem _hy {it l:Addr} {items:Array Value} (hne:l≠it):∀(n i:Nat) (s:Shared) (Q:List Value->Shared->Prop),s.heap.IsListIter it l i->s.heap.IsList l items->i+n≤items.size →
  (∀h',h'.IsListIter it l (i+n)->Heap.SameBut it s.heap h'->Q ((items.toList.drop i).take n) { s with heap:=h' })->wpAny (model prog w) A (draw (.ref it) n) Q E s
 |0,i,s,Q,hit,_,_,hQ=>by
  show wpAny _ _ (pure []) Q E s;exact Qf (by simpa using hQ s.heap hit (Heap.SameBut.refl ..))
 |n+1,i,s,Q,hit,ht,hle,hQ=>by
  have hlt:i<items.size:=by omega
  show wpAny _ _ (pyNext (.ref it) >>= _) Q E s;refine Qd (wpAny_pyNext_list_item hit ht (x:=items[i]) (by simp [hlt]) fun h₁ hit₁ hs₁=>?_);have ht1:h₁.IsList l items:=by obtain ⟨o,ho,x⟩:=ht;exact ⟨o,hs₁.extBut l o hne ho,x⟩
  refine Qd (Q5 (_hy hne n (i+1) _ _ hit₁ ht1 (by omega) fun h₂ hit₂ hs₂=>Qf ?_));have hd:items.toList.drop i=items[i]::items.toList.drop (i+1):=by simp [Md,hlt]
  have:=hQ h₂ (by rw [show i+(n+1)=i+1+n by omega];exact hit₂) (hs₁.trans hs₂);rw [hd,List.take_succ_cons] at this;exact this
theorem _lm {l:Addr} {items:Array Value} {Q:List Value->Shared->Prop} (hh:A.handled=none) (ht:s.heap.IsList l items)
 (hQ:∀h',Heap.ExtBut s.heap.objs.size s.heap h'->Q items.toList { s with heap:=h' }):wpAny (model prog w) A (unpackItems (.ref l) items.size none) Q E s:=by
 have hlt:l≠s.heap.objs.size:=by obtain ⟨o,ho,_⟩:=ht;exact QA (Qi ho)
 have htp:∀{x:Obj},(s.heap.push x).IsList l items:=fun {x}=>by obtain ⟨o,ho,y⟩:=ht;exact ⟨o,Ql _ ho,y⟩
 unfold unpackItems;refine Qd ?_
 ·unfold notIterableAtAll;refine Qd (Gx ht.typeIs slot_list_iter.lookup ?_);refine Qf ?_;simp only [Bool.false_eq_true,Q6];refine Qd (Q5 (Nw ht ?_));refine Qd (Q5 (_hy hlt items.size 0 _ _ ⟨_,Qu _ rfl,rfl,rfl⟩ htp (by omega) fun h₁ hit₁ hs₁=>?_))
  have hall:List.take items.size (List.drop 0 items.toList)=items.toList:=by
   rw [List.drop_zero];exact Nf (by simp)
  rw [hall];rw [Qa (by simp)];have ht₁:h₁.IsList l items:=by obtain ⟨o,ho,y⟩:=(htp:(s.heap.push _).IsList l items);exact ⟨o,hs₁.extBut l o hlt ho,y⟩
  refine Qd (Q5 (wpAny_pyNext_list_end hh hit₁ ht₁ (by simp) fun h₂ he₂=>?_));simp only [Option.isSome_none,Bool.false_eq_true,Q6];refine Qf (hQ h₂ fun b o hb e=>he₂ b o hb (hs₁.extBut b o hb (Ql _ e)))
end
def _nx (K:W.Frag) (n:Nat) (t:WI):TG:=fun v σ H Q=>∃a xs,v=.ref a∧SqL K H a xs∧xs.length=n∧t xs σ H Q
theorem _ky {es:List Expr} {k:Nat} {t:WI} {n:Nat} {pos:Pos} (hc:X.calm=true) (h:Us X es t)
 (hn:(assignEach es X.env).length=n:=by rfl) (hst:(assignEach es X.env).findIdx? (·.1)=none:=by rfl):PG X (.Tuple es k pos) (_nx X.K n t):=by
 intro pins s σ H v u Q I r hw;obtain ⟨a,xs,e1,hq,hl,hw⟩:=hw;subst e1;cases r;obtain ⟨its,rv,ht,hz⟩:=I.list hq;rw [arm_assign_Tuple];refine Qd (GP ?_);unfold unpack;have hn2:(assignEach es X.env).length=its.toArray.size:=by simp [hn,←hl,rv.length]
 rw [hn2,hst];refine Qd (Q5 (_lm (I.ok.hd hc) ht.isList fun h' hx=>?_));have I1:Inv X pins σ H { s with heap:=h' }:=I.kept (t':=s.toks) fun b o e=>hx b o (QA (Qi e)) e;exact h pins _ σ H xs _ Q I1 (by simpa using rv) hw
end L2
namespace L2
open PySem PySem.Spec PyProof.Rows PySem.W
variable {f:Addr} {P:List Value->Prop} {st:Stmt} {K:W.Frag}
noncomputable def Y6 (K:W.Frag) (f:Addr):FuncData:=match K.lookup f with
 |some ⟨_,_,.func fd,_⟩=>fd
 |_=>default
structure DefIn (K:W.Frag) (x q:Str) (st:Stmt) (f:Addr):Prop where
 ex:∃(oc:Value) (od:Option Addr) (kV doc pm:Value) (an:Option Addr) (cdv ct:Value) (osl:Array (Option Value)),
  K.lookup f=some ⟨oc,od,.func (fnOf x q (Xo st) (Y0 st) (_r st) .none kV doc pm an cdv ct),osl⟩∧codeIn K cdv q=true
 kp:keepIn K (.ref f)=true
theorem DefIn.fn {x q:Str} (h:DefIn K x q st f):Fun K x q st f (Y6 K f):=by
 obtain ⟨oc,od,kV,doc,pm,an,cdv,ct,osl,lk,hc⟩:=h.ex;have e:Y6 K f=fnOf x q (Xo st) (Y0 st) (_r st) .none kV doc pm an cdv ct:=by unfold Y6;rw [lk]
 rw [e];exact _kk lk hc h.kp
def _iN (x q:Str) (st:Stmt) (ps:List Str):Prop:=∀(kV doc pm:Value) (an:Option Addr) (cdv ct:Value) (us:List Value),us.length=ps.length->bindArgs (fnOf x q (Xo st) (Y0 st) (_r st) .none kV doc pm an cdv ct) ⟨us,[]⟩=pure (ps.zip us)
structure Df (K:W.Frag) (mg:Str->Option Value) (x:Str) (st:Stmt) (ps:List Str) where
 a:Addr
 F:Fun K x x st a (Y6 K a)
 b:Binds K (Y6 K a) ps []
 m:mg x=some (.ref a)
structure Dm (K:W.Frag) (C:Addr) (x q:Str) (st:Stmt) (ps:List Str) where
 a:Addr
 F:Fun K x q st a (Y6 K a)
 b:Binds K (Y6 K a) ps []
 me:Meth K C x a
noncomputable def Df.of {mg:Str->Option Value} {h:Heap} {x:Str} {ps:List Str} (X:K.In h) (G:h.Ns mainGlobals mg) (a:nsIn K mainGlobals x=some (some (.ref f))) (l:DefIn K x x st f) (hb:_iN x x st ps):Df K mg x st ps:=⟨f,l.fn,l.fn.binds hb,mg_of X G a⟩
noncomputable def Dm.of {C:Addr} {x q:Str} {ps:List Str} (a:findIn K (.ref C) x=some (some (.ref f))) (i:isFn K (.ref f)=true) (l:DefIn K x q st f) (hb:_iN x q st ps):Dm K C x q st ps:=⟨f,l.fn,l.fn.binds hb,⟨a,i,l.kp⟩⟩
theorem Yz (h:∀a,P [a]):∀us,us.length=1->P us
 |[_],_=>h _
theorem Y3 (h:∀a b,P [a,b]):∀us,us.length=2->P us
 |[_,_],_=>h _ _
theorem Wz (h:∀a b c,P [a,b,c]):∀us,us.length=3->P us
 |[_,_,_],_=>h _ _ _
theorem un4 (h:∀a b c d,P [a,b,c,d]):∀us,us.length=4->P us
 |[_,_,_,_],_=>h _ _ _ _
end L2
namespace TextG
open PySem
end TextG
namespace L2
open PySem PySem.Spec PyProof.Rows PySem.W
section
variable {X:Cx}
end
section
variable {X:Cx} {CX:Yn} {k1 k2 k3:Nat} {f1 C1 f2 C2 f3 C3:Addr} {fd1 fd2 fd3:FuncData} {ps1 ps2 ps3:List Str} {sp1 sp2 sp3:Sp} {E:XS} {m:Str} {pos apos:Pos} {o:Expr} {ta:TE}
end
end L2
namespace L2
open PySem PySem.Spec PyProof.Rows
variable {A:Around} {X:Cx} {H:Hp} {N:List Str} {prog:Program} {s:Shared} {E:Value->Shared->Prop}
section
variable {w:World} {R:Result->Shared->Prop}
end
section
variable {pins:List (Addr×Obj)} {σ:St} {sc:Scope} {cl:List (Str×Addr)} {σc:St->St} {fp:List Addr}
end
section
variable {elt tg iter:Expr} {ifs:List Expr} {sc:Scope} {pos:Pos} {cl:List (Str×Addr)} {σc:St->St} {wi:TI} {g:TG} {tt:TT} {te:TE}
end
section
variable {M:Model}
end
section
variable {pins:List (Addr×Obj)} {σ:St} {H':Hp} {s':Shared} {e:Addr} {cls:Value}
end
section
variable {P:Program} {w:World} {K:W.Frag} {mg:Str->Option Value} {base:Heap} {qual:Str} {scope:Scope} {f:Addr} {cd:Value} {outer:List Env} {E:XK}
end
section
variable {w:World}
end
section
variable {w:World} {κ:Type} [DecidableEq κ] {knd:KeyKind prog w κ}
end
section
variable {w:World}
end
section
variable {pos:Pos}
variable {i o value:Expr} {ty td tv:TE} {pos':Pos}
end
end L2
namespace L2
open PySem PySem.Spec PyProof.Rows PySem.W
section
variable {X:Cx} {o i l tg:Expr} {pos:Pos} {td ty tl:TE} {K:W.Frag} {w:World} {a:Addr} {kvs:List (_l×V)}
theorem _iz (d:KDict K w a kvs) (hi:PE X i ty) (ho:PE X o td) (hK:X.K=K:=by rfl) (hw:X.w=w:=by rfl):PC X .In i o (fun σ H Q=>ty σ H fun y H1=>td σ H1 fun x H2=>x=.ref a∧∃k,y=kV k∧Q (.bl (_F kvs k).isSome) H2):=by
 subst hK hw;intro pins s σ H Q I h;refine _m (hi pins s σ H _ I h) fun iv s1 ⟨y,H1,I1,ry,q1⟩=>_m (ho pins s1 σ H1 _ I1 q1) fun u s2 ⟨x,H2,I2,rx,ex,k,ey,q2⟩=>?_;subst ex ey;obtain rfl:u=Value.ref a:=rx;obtain ⟨vs,rel,dd⟩:=d.dict (P:=X.prog) I2.kIn;refine wpAny_in_of (X5 ry) d.1 dd.mapOf ?_;rw [←(rel.val k).isSome_eq];exact ⟨.bl _,H2,I2.tok _,rfl,q2⟩
theorem _aB (d:KDict K w a kvs) (ho:PE X o td) (hi:PE X i ty) (hs:_cf i) (hK:X.K=K:=by rfl) (hw:X.w=w:=by rfl):PE X (.Subscript o i pos) (fun σ H Q=>td σ H fun x H1=>ty σ H1 fun y H2=>x=.ref a∧∃k v,y=kV k∧_F kvs k=some v∧Q v H2):=by
 subst hK hw;intro pins s σ H Q I h;refine _jc N8.lookup hs (_m (ho pins s σ H _ I h) fun u s1 ⟨x,H1,I1,rx,q1⟩=>_m (hi pins s1 σ H1 _ I1 q1) fun iv s2 ⟨y,H2,I2,ry,ex,k,v,ey,l,q2⟩=>?_);subst ex ey;obtain rfl:u=Value.ref a:=rx;obtain ⟨vs,rel,dd⟩:=d.dict (P:=X.prog) I2.kIn;refine ⟨dd.typeIs,?_⟩;obtain ⟨w',hw,rw'⟩:=RelO.some_of (v:=v) (o:=valueAt vs k) (by rw [←l];exact rel.val k);exact wpAny_getItem_of (X5 ry) dd.mapOf hw ⟨v,H2,I2.tok _,rw',q2⟩
end
section
variable {X:Cx}
end
end L2
namespace L2
open PySem PySem.Spec PyProof.Rows PySem.W PySem.SeqAt
variable {P a:Addr} {h:Heap} {H H':Hp} {co ln:Nat} {q:Str}
section
variable {prog:Program} {w:World} {A:Around} {E:Value->Shared->Prop} {s:Shared}
end
noncomputable def YW (ln co:Nat):Option Addr->Array Value
 |none=>#[]
 |some c'=>#[rawInt ln,rawInt co,.ref c']
noncomputable def Xe (P:Addr) (ln co:Nat) (oc:Option Addr):HO:=.ext fun h=>h.get? P=some (tabObj (YW ln co oc))
noncomputable def Vj (c':Addr) (q:Str):HO:=.ext fun h=>h.CodeRec (.ref c') q
def LamH (P:Addr) (ln co:Nat) (q:Str) (H:Hp):Prop:=∃oc,H P=some (Xe P ln co oc)∧∀c',oc=some c'->H c'=some (Vj c' q)
noncomputable def noX:HO->Bool
 |.ext _=>false
 |_=>true
def SameX (H H':Hp):Prop:=∀b u,noX u=true->H b=some u->H' b=some u
theorem Same.x (s:Same H H'):SameX H H':=fun b u _ e=>s b u e
theorem SameX.trans {H1 H2:Hp} (a:SameX H H1) (b:SameX H1 H2):SameX H H2:=fun c u n e=>b c u n (a c u n e)
theorem SameX.refl (H:Hp):SameX H H:=fun _ _ _ e=>e
theorem LamH.same (h:LamH P ln co q H) (s:Same H H'):LamH P ln co q H':=by
 obtain ⟨oc,h1,h2⟩:=h;exact ⟨oc,s _ _ h1,fun c' e=>s _ _ (h2 c' e)⟩
theorem SameX.sql {K:W.Frag} {xs:List V} (s:SameX H H') (h:SqL K H a xs):SqL K H' a xs:=by
 rcases h with (h|⟨o,h⟩)|h
 ·exact .inl (.inl (s _ _ rfl h))
 ·exact .inl (.inr ⟨o,s _ _ rfl h⟩)
 ·exact .inr h
theorem SameX.sqt {K:W.Frag} {xs:List V} (s:SameX H H') (h:SqT K H a xs):SqT K H' a xs:=by
 rcases h with (h|⟨o,h⟩)|h
 ·exact .inl (.inl (s _ _ rfl h))
 ·exact .inl (.inr ⟨o,s _ _ rfl h⟩)
 ·exact .inr h
structure LamB (base:Heap) (c P:Addr) (mg:Str->Option Value):Prop where
 hd:CodeHd base c P
 bm:∃bm ob,mg "__builtins__"=some (.ref bm)∧bm≠builtinsNs∧base.get? bm=some ob∧ob.cls=.type "module"∧ob.dict=some builtinsNs∧ob.data=.plain
section
variable {X:Cx} {pins:List (Addr×Obj)} {σ:St} {s:Shared} {h':Heap}
theorem _fq {oc:Option Addr} {pr:Program} {w:World} (e:h.get? P=some (tabObj (YW ln co oc))):ObjOk pr w H h P (Xe P ln co oc) :=
 ⟨e,⟨_,e⟩,fun h1 h2 p k=>k _ p⟩
theorem _jF {c':Addr} {pr:Program} {w:World} (e:h.CodeRec (.ref c') q):ObjOk pr w H h c' (Vj c' q):=by
 refine ⟨e,?_,fun h1 h2 p k=>?_⟩
 ·obtain ⟨c,oc,vs,t,e1,e2,_⟩:=e;cases e1;exact ⟨_,e2⟩
 ·obtain ⟨c,oc,vs,t,e1,e2,e3⟩:=p;cases e1;exact ⟨_,oc,vs,t,rfl,k _ e2,e3⟩
theorem Inv.grow {c':Addr} {t':Nat} (I:Inv X pins σ H s) (hP:H P=some (Xe P ln co none)) (hx:Heap.ExtBut P s.heap h') (hc:s.heap.objs.size≤c') (hr:h'.CodeRec (.ref c') q)
 (ht:h'.get? P=some (tabObj #[rawInt ln,rawInt co,.ref c'])):Inv X pins σ (_c (_c H P (Xe P ln co (some c'))) c' (Vj c' q)) { s with heap:=h',toks:=t' }:=by
 have nP:∀b u,H b=some u->(∀φ,u≠.ext φ)->b≠P:=fun b u e n z=>by subst z;rw [hP] at e;exact n _ (Qn e).symm
 have nc:∀b u,H b=some u->b≠c':=fun b u e z=>by subst z;exact absurd (Qq (I.hok.lt e) hc) (QF _)
 have ns:∀b o,s.heap.get? b=some o->b≠c':=fun b o e z=>by subst z;exact absurd (Qq (Qi e) hc) (QF _)
 have n0:∀b,H b=none->b≠P:=fun b e z=>by subst z;rw [hP] at e;cases e
 refine I.un ⟨fun b o e n _ _=>hx b o (n0 b n) e,fun b o e n _ _=>⟨o.slots,hx b o (n0 b n) e⟩,fun b o e n _=>?_,fun b o e _=>?_,fun b xs e=>?_,fun b o u e=>?_,fun b ps e=>?_⟩ fun b u e=>?_
 ·rw [_d (ns b o e),_d (n0 b n)];exact n
 ·by_cases z:b=P
  ·subst z;exact ⟨_,ht⟩
  ·exact ⟨o,hx b o z e⟩
 ·rw [_d (nc b _ e),_d (nP b _ e fun φ z=>by cases z)];exact e
 ·rw [_d (nc b _ e),_d (nP b _ e fun φ z=>by cases z)];exact e
 ·exact ⟨#[],by rw [_d (nc b _ e),_d (nP b _ e fun φ z=>by cases z),e];simp⟩
 ·by_cases z:b=c'
  ·subst z;rw [_f] at e;cases e;exact _jF hr
  rw [_d z] at e;by_cases y:b=P
  ·subst y;rw [_f] at e;cases e;exact _fq (oc:=some c') ht
  rw [_d y] at e;refine (I.hok b u e).stay (fun d v hd r=>hx d v ?_ r) (fun d r=>?_) fun d xs r=>?_
  ·rcases hd with rfl|hd
   ·exact y
   ·exact nP d _ hd fun φ z=>by cases z
  ·rw [_d (nc d _ r),_d (nP d _ r fun φ z=>by cases z)];exact r
  ·rw [_d (nc d _ r),_d (nP d _ r fun φ z=>by cases z)];exact r
end
theorem ObjOk.has {P:Program} {w:World} {o:HO} (x:ObjOk P w H h a o):∃ob,h.get? a=some ob:=by
 cases o with
 |lst xs=>obtain ⟨_,_,_,_,e⟩:=x;exact ⟨_,e⟩
 |tup xs=>obtain ⟨_,_,_,_,e,_⟩:=x;exact ⟨_,e⟩
 |dK kvs=>obtain ⟨_,_,_,_,o,_,_,e,_⟩:=x;exact ⟨_,e⟩
 |dT kvs=>obtain ⟨_,_,_,_,o,_,_,e,_⟩:=x;exact ⟨_,e⟩
 |set S n=>obtain ⟨o,_,_,_,e,_⟩:=x;exact ⟨_,e⟩
 |ins C dx fs=>obtain ⟨_,_,_,e,_⟩:=x;exact ⟨_,e⟩
 |own y=>exact x
 |xd fs=>obtain ⟨_,⟨_,_,_,e,_⟩,_⟩:=x;exact ⟨_,e⟩
 |rng lo hi=>obtain ⟨_,_,_,e⟩:=x;exact ⟨_,e⟩
 |frz ob u=>obtain ⟨e,_⟩:=x;exact ⟨_,e⟩
 |tbl ps=>exact ⟨_,(show h.get? a=some _ from x)⟩
 |met f y=>exact ⟨_,(show h.get? a=some _ from x)⟩
 |ext φ=>obtain ⟨_,e,_⟩:=x;exact e
section
variable {X:Cx} {e:Expr} {te:TE} {p pos kp lpos p1 p2 p3 p4:Pos} {x o:Str} {params:Arguments} {scope:Scope} {c cc:Addr} {i:Nat}
end
end L2
namespace L2
open PySem PySem.Spec PyProof.Rows PySem.W
def _ca (K:W.Frag) (f c:Addr):Prop:=∃oc od fd osl,K.lookup f=some ⟨oc,od,.func fd,osl⟩∧fd.code=.ref c
theorem Fun.okL {P:Program} {w:World} {K:W.Frag} {mg:Str->Option Value} {base:Heap} {CX:Yn} {x qual:Str} {st:Stmt} {f c:Addr} {fd:FuncData} {N ps:List Str} {k:Nat} {sp:Sp} (hc:_ca K f c) (F:Fun K x qual st f fd) (S:FnScope N ps (_r st))
  (len:∀vs H Q E,sp vs H Q E->vs.length=ps.length)
  (hbody:∀(A:Around) (outer:List Env) (s:Shared) (H:Hp) (vs:List V) (Q:VK) (E:XK),Room k (A.deeper (envOfC qual (_r st) s.heap.objs.size f (.ref c)))->sp vs H Q E →
   ∃t,PSs (Vg CX P w K mg base N qual (_r st) f (.ref c) A outer s H E) (Y0 st) t∧t { nx:=fun _ H'=>Q .non H',rt:=Q } (start N vs) H):FnOk P w K mg base CX (k+1) f fd ps sp:=by
 obtain ⟨oc,od,kV,doc,pm,an,cdv,ct,osl,rfl,lk,hcd⟩:=F.ex;obtain ⟨oc2,od2,fd2,osl2,lk2,e⟩:=hc;rw [lk] at lk2;cases lk2;have e2:cdv=.ref c:=e;subst e2;exact _fm lk hcd S len fun A outer s H vs Q E hr hsp=>hbody A outer s H vs Q E hr hsp
theorem _gn {K:W.Frag} {nm:Str} {f cc tb:Addr} {oc oc2:Value} {od od2:Option Addr} {sl sl2:Array (Option Value)} {fd:FuncData} {vs:Array Value} (a:nsIn K mainGlobals nm=some (some (.ref f))) (l:K.lookup f=some ⟨oc,od,.func fd,sl⟩) (e:fd.code=.ref cc)
  (lc:K.lookup cc=some ⟨oc2,od2,.fields vs,sl2⟩) (v:vs[11]?=some (.ref tb)):tabIn K nm=some (cc,tb):=by
 unfold tabIn;rw [a];simp only;rw [l];simp only;rw [e];simp only;rw [lc];simp only;rw [v]
end L2
namespace L2
open PySem PySem.Spec PyProof.Rows
section
variable {X:Cx}
end
section
variable {X:Cx}
theorem _pN (K:W.Frag) {o e:Expr} {es:List Expr} {to:TE} {t:TA} {name:Str} {apos cpos:Pos} {T id:String} {r:V->List V->Hp->VK->Prop} (pa:PlainAttrs T) (slot:Slot T name id) (hty:typeOf (.builtin id)=pure (.type "method_descriptor")) (hm:MtR X id r) (ho:PE X o to) (ha:PA X (e::es) t) (hK:X.K=K:=by rfl)
  (hbase:attributeBase o name X.env (eval o X.env)=eval o X.env:=by rfl)
  (hfew:((backTo cpos (starEach (e::es) X.env)).all (fun x=>!x.1)&&(backToKw cpos (keywordEach [] X.env)).all (fun x=>x.1.isSome)
   && decide ((e::es).length+([]:List Keyword).length+(if ([]:List Keyword).isEmpty then 0 else 1)<30))=true:=by rfl)
  (hline:(apos.endLine==cpos.line)=true:=by rfl) (hs:starEach (e::es) X.env=(false,eval e X.env)::starEach es X.env:=by rfl) (hplain:(backTo cpos (starEach es X.env)).any (·.1)=false:=by rfl) :
  PE X (.Call (.Attribute o name apos) (e::es) [] cpos) (tBM K T r to t):=by
 subst hK;exact YL pa slot hty hm ho ha hbase hfew hline hs hplain
end
end L2
namespace L2
open PySem PySem.Spec PyProof.Rows PySem.W
variable {a b f:Addr} {params:Arguments} {H:Hp} {scope:Scope} {o q:Str} {CX:Yn}
noncomputable abbrev Fz (ob:Obj):HO:=.frz ob (.own 0)
noncomputable abbrev VQ (g o x y:Str) (p0 p1 p2 p3 p4:Pos):Expr:=.Call (.Name g p0) [.Name o p1,.Name x p2,.Name y p3] [] p4
structure LamOk2 (g o x y:Str) (params:Arguments) (scope:Scope) (body:Expr):Prop where
 bind:∀(qual:Str) (cl:List (Str×Addr)) (pm cd ct u v:Value),bindArgs (kla_fn "<lambda>" qual params body scope cl pm cd ct) ⟨[u,v],[]⟩=pure [(x,u),(y,v)]
 lx:scope.names.lookup x=some .local
 ly:scope.names.lookup y=some .local
 fre:scope.names.lookup o=some .free
 gl:scope.names.lookup g=some .globalImplicit
 kind:scope.kind=.function
 co:scope.isCoroutine=false
 gen:scope.isGenerator=false
 cell:∀z∈scope.names,z.2≠.cell
 xy:(x==y)=false
 db:(x==("__debug__" : Str))=false∧(y==("__debug__" : Str))=false∧(o==("__debug__" : Str))=false∧(o==("__classdict__" : Str))=false∧(g==("__debug__" : Str))=false
structure LamA (q:Str) (params:Arguments) (body:Expr) (scope:Scope) (o:Str) (f b:Addr) (H:Hp):Prop where
 ex:∃cc oc pm c' ctv,H f=some (Fz (kla_obj "<lambda>" q params body scope [(o,cc)] pm c' ctv))∧H c'=some (Vj c' q)∧H cc=some (Fz oc)∧oc.data=.cell (some (.ref b))
theorem LamA.same {body:Expr} {H':Hp} (h:LamA q params body scope o f b H) (s:Same H H'):LamA q params body scope o f b H':=by
 obtain ⟨cc,oc,pm,c',ctv,h1,h2,h3,h4⟩:=h.ex;exact ⟨cc,oc,pm,c',ctv,s _ _ h1,s _ _ h2,s _ _ h3,h4⟩
theorem _hi {env:Env} {L:Addr} {st:List Env} (h:env.frame=some L) (hb:b∈YH (env::st)):b=L∨b∈YH st:=by
 unfold YH at hb;rw [Re,h] at hb;exact Qj.mp hb
theorem Un.back {env:Env} {L:Addr} {st:List Env} {H':Hp} {h h1 h':Heap} (hf:env.frame=some L) (hL:L=h.objs.size) (k:∀b o,h.get? b=some o->h1.get? b=some o) (u:Un (YH (env::st)) [] H H' h1 h'):Un (YH st) [] H H' h h' where
 keep:=fun b o e n hb hx=>u.keep b o (k b o e) n (fun z=>by
  rcases _hi hf z with z|z
  ·rw [z,hL] at e;exact absurd (Qi e) (QF _)
  ·exact hb z) hx
 slot:=fun b o e n hb hx=>by
  by_cases z:b∈YH (env::st)
  ·exact u.slot b o (k b o e) n z hx
  ·exact ⟨o.slots,u.keep b o (k b o e) n z hx⟩
 free:=fun b o e n hx=>u.free b o (k b o e) n hx
 there:=fun b o e hx=>u.there b o (k b o e) hx
 tups:=u.tups
 frzs:=u.frzs
 tbls:=u.tbls
section
variable {X:Cx}
theorem _lL {k:Nat} {g x y:Str} {p0 p1 p2 p3 p4:Pos} {fg:Addr} {fdg:FuncData} {psg:List Str} {spg:Sp} {pins:List (Addr×Obj)} {σ:St} {s:Shared} {Q:VK} {u1 u2:Value} {v1 v2:V}
 (ok:LamOk2 g o x y params scope (VQ g o x y p0 p1 p2 p3 p4)) (Fg:FnOk X.prog X.w X.K X.mg X.base CX k fg fdg psg spg) (hb:Binds X.K fdg psg []) (hm:X.mg g=some (.ref fg)) (hk:keepIn X.K (.ref fg)=true) (hr:Room (k+1) X.A) (hCX:∀st H s e s',CX st H s E0 e s'->False)
 (I:Inv X pins σ H s) (r1:RelV v1 u1) (r2:RelV v2 u2) (hL:LamA q params (VQ g o x y p0 p1 p2 p3 p4) scope o f b H) (h:spg [.ref b,v1,v2] H Q E0):wpAny (model X.prog X.w) X.A (call (.ref f) [u1,u2]) (EP X pins σ Q) X.xe s:=by
 obtain ⟨cc,oc,pm,c',ctv,h1,h2,h3,h4⟩:=hL.ex;have hf:s.heap.get? f=some (kla_obj "<lambda>" q params (VQ g o x y p0 p1 p2 p3 p4) scope [(o,cc)] pm c' ctv):=(I.hok f _ h1).1;have hcd:s.heap.CodeRec (.ref c') q:=(I.hok c' _ h2).1;have hcc:s.heap.get? cc=some oc:=(I.hok cc _ h3).1;refine RY ?_;refine kla_callFunE hr.depth hf rfl ok.co ok.gen rfl hcd ?_;rw [ok.bind];refine Qf (NQ ok.cell (fun z hz=>?_) (fun hh hns hsb=>⟨I.nolimit.fresh _ hsb,?_⟩) ok.kind)
 ·have:z=(x,u1)∨z=(y,u2):=by simpa using hz
  rcases this with rfl|rfl
  ·exact ok.lx
  ·exact ok.ly
 have kp:∀b o,s.heap.get? b=some o->hh.get? b=some o:=fun b o e=>hsb.extBut b o (QA (Qi e)) (Ql _ e);show codeAny _ _ (.expr (VQ g o x y p0 p1 p2 p3 p4) (envX q scope s.heap.objs.size f (.ref c') [(o,cc)])) _ _;refine kla_codeExpr ?_
 have kg:(envX q scope s.heap.objs.size f (.ref c') [(o,cc)]).kindOf g=some .globalImplicit:=by
  first|exact ok.gl|(simp only [Env.kindOf];exact ok.gl)
 have ko:(envX q scope s.heap.objs.size f (.ref c') [(o,cc)]).kindOf o=some .free:=by
  first|exact ok.fre|(simp only [Env.kindOf];exact ok.fre)
 have kx:(envX q scope s.heap.objs.size f (.ref c') [(o,cc)]).kindOf x=some .local:=by
  first|exact ok.lx|(simp only [Env.kindOf];exact ok.lx)
 have ky:(envX q scope s.heap.objs.size f (.ref c') [(o,cc)]).kindOf y=some .local:=by
  first|exact ok.ly|(simp only [Env.kindOf];exact ok.ly)
 have hgl:hh.Ns mainGlobals X.mg:=I.mod.glob.keeps fun b o e=>kp b o (I.bk b o e)
 have lk1:([(x,u1),(y,u2)]:List (Str×Value)).reverse.lookup x=some u1:=by
  show ([(y,u2),(x,u1)]:List (Str×Value)).lookup x=some u1;rw [Nb,ok.xy];simp
 have lk2:([(x,u1),(y,u2)]:List (Str×Value)).reverse.lookup y=some u2:=by
  show ([(y,u2),(x,u1)]:List (Str×Value)).lookup y=some u2;rw [Nb];simp
 refine Rl (Nv ok.kind kg (Calls.loadGlobal_global hgl hm ?_) ok.db.2.2.2.2);refine Gy (h₀:=X.base) I.ok.mod.kin hk ?_ rfl rfl;show wpAny _ _ (spliced ((false,eval (.Name o p1) (envX q scope s.heap.objs.size f (.ref c') [(o,cc)]))::(false,eval (.Name x p2) (envX q scope s.heap.objs.size f (.ref c') [(o,cc)]))::[(false,eval (.Name y p3) (envX q scope s.heap.objs.size f (.ref c') [(o,cc)]))])) _ _ _;refine Rw (RD (Nu ok.kind ko (by simp) ⟨oc,kp _ _ hcc,h4⟩ ?_ ok.db.2.2.2.1) ok.db.2.2.1);refine Rw (RD (GN (v:=u1) ok.kind kx hns lk1 ?_) ok.db.1);refine Rw (RD (GN (v:=u2) ok.kind ky hns lk2 (Gs ?_)) ok.db.2.1);have fr:(envX q scope s.heap.objs.size f (.ref c') [(o,cc)]).frame=some s.heap.objs.size:=rfl
 have e0:Env0 X.prog X.w X.K X.mg X.base (X.A.deeper (envX q scope s.heap.objs.size f (.ref c') [(o,cc)])) (envX q scope s.heap.objs.size f (.ref c') [(o,cc)]::X.stack) { s with heap:=hh,toks:=s.toks+[(x,u1),(y,u2)].length } H:=by
  have sz:s.heap.objs.size≤hh.objs.size:=QR hns.lt;refine ⟨Around.frames_deeper I.ok.frames,I.ok.mod,fun b o e=>⟨kp b o (I.bs b o e).1,(I.bs b o e).2⟩,Qk (Qk I.ok.bsz I.sz) sz,?_,fun b hb=>?_,I.hok.kept kp,I.bare⟩
  ·refine Heap.FunFrames.cons (by show scope.kind≠_;rw [ok.kind];decide) fr hns (Nt (Qk I.ok.bsz I.sz)) ?_;exact I.stack.of_keeps fun b o e _=>⟨o,kp b o e,rfl⟩
  ·rcases _hi fr hb with z|z
   ·rw [z];exact I.hok.fresh (Qe _)
   ·exact I.stkFree b z
 refine ⟨I.ok.mod.kin.keeps fun b o e=>kp b o (I.bk b o e),RY (RZ (Fg.run _ _ _ H ⟨[.ref b,u1,u2],[]⟩ ([.ref b,u1,u2]++[]) [.ref b,v1,v2] Q E0 (hr.deeper _) e0 (hb _ _ (I.ok.mod.kin.keeps fun b o e=>kp b o (I.bk b o e)) (by rw [←Fg.len _ _ _ _ h];rfl)) (.cons rfl (.cons r1 (.cons r2 .nil))) h) fun r s' hq=>?_)⟩;cases r with
 |error e=>exact (hCX _ _ _ _ _ hq).elim
 |ok fl =>
  cases fl with
  |ret u =>
   obtain ⟨v,H',os,bare,un,hok,r,q⟩:=hq;exact I.after ⟨v,H',os,bare,un.back fr rfl kp,hok,r,q⟩
  |next=>exact False.elim hq
  |brk=>exact False.elim hq
  |cont=>exact False.elim hq
def _p7 (q:Str) (params:Arguments) (body:Expr) (scope:Scope) (o:Str) (spg:Sp) (i:Nat) (t:TA):TE:=fun σ H Q=>∃f,σ[i]?=some (some (.ref f))∧t σ H fun vs H1=>∃v1 v2 b,vs=[v1,v2]∧LamA q params body scope o f b H1∧spg [.ref b,v1,v2] H1 Q E0
theorem _nQ {k i:Nat} {g x y nm:Str} {p0 p1 p2 p3 p4 p pos:Pos} {fg:Addr} {fdg:FuncData} {psg:List Str} {spg:Sp} {e1 e2:Expr} {t:TA}
 (ok:LamOk2 g o x y params scope (VQ g o x y p0 p1 p2 p3 p4)) (Fg:FnOk X.prog X.w X.K X.mg X.base CX k fg fdg psg spg) (hb:Binds X.K fdg psg []) (hm:X.mg g=some (.ref fg)) (hk:keepIn X.K (.ref fg)=true) (hr:Room (k+1) X.A) (hCX:∀st H s e s',CX st H s E0 e s'->False)
 (hN:X.N[i]?=some nm) (hv:JG X.env.scope nm) (ha:PA X [e1,e2] t) (hd:(nm==("__debug__": Str))=false:=by decide) (hcd:(nm==("__classdict__": Str))=false:=by decide)
 (he:starEach [e1,e2] X.env=(false,eval e1 X.env)::starEach [e2] X.env:=by rfl) (hpl:(backTo pos (starEach [e2] X.env)).any (·.1)=false:=by rfl) :
  PE X (.Call (.Name nm p) [e1,e2] [] pos) (_p7 q params (VQ g o x y p0 p1 p2 p3 p4) scope o spg i t):=by
 intro pins s σ H Q I h;obtain ⟨f,hσ,h⟩:=h;refine Rl (_m (_dy hN hv hd hcd pins s σ H (fun v H'=>v=.ref f∧H'=H) I ⟨_,hσ,rfl,rfl⟩) fun u s1 ⟨v,H1,I1,r1,e2,e3⟩=>?_);subst e2 e3;cases (show u=Value.ref f from r1);have hA:=ha pos pins s1 σ H1 _ I1 h;rw [he] at hA ⊢;refine callWith_of (P:=fun hh=>∃fd:FuncData,hh.get? f=some { cls:=.type "function",data:=.func fd }) (by show ((false||(backTo pos (starEach [e2] X.env)).any (·.1))||false)=false;rw [hpl];rfl) (fun hh ⟨fd,e⟩=>⟨.frame,.inl rfl,(Looks.ld (part:=none) e).andThen .now⟩) (GW (_m hA fun us s2 ⟨vs,H2,I2,r2,q2⟩=>?_));obtain ⟨v1,v2,b,rfl,hL,hsp⟩:=q2;obtain ⟨u1,u2,rfl,ra,rb⟩:=VN r2;refine ⟨?_,_lL ok Fg hb hm hk hr hCX I2 ra rb hL hsp⟩;obtain ⟨cc,oc,pm,c',ctv,h1,_⟩:=hL.ex;exact ⟨_,(I2.hok f _ h1).1⟩
theorem _hz {P:Program} {w:World} {h:Heap} {ob:Obj} (e:h.get? a=some ob):ObjOk P w H h a (Fz ob):=⟨e,ob,e⟩
noncomputable def Ud (H:Hp) (a:Addr):Hp:=fun b=>if b=a then none else H b
theorem WG (h:b≠a):Ud H a b=H b:=Qa h
theorem _hs:Ud H a a=none:=Qb rfl
def _pO (sp:Sp) (i:Nat) (cc:Addr) (t:TA):TE:=fun σ H Q=>t σ H fun vs H1=>∃b,σ[i]?=some (some (.ref b))∧∀oc:Obj,H1 cc=none->oc.data=.cell (some (.ref b))->sp vs (_c H1 cc (Fz oc)) (fun v H2=>Q v (Ud H2 cc)) E0
theorem _m9 {k i:Nat} {x:Str} {cc:Addr} {fd:FuncData} {ps:List Str} {sp:Sp} {p pos:Pos} {e:Expr} {es:List Expr} {t:TA} (F:FnOk X.prog X.w X.K X.mg X.base CX k f fd ps sp) (hr:Room k X.A) (hg:Gl X x) (hm:X.mg x=some (.ref f)) (hk:W.keepIn X.K (.ref f)=true) (hb:Binds X.K fd ps []) (hCX:∀st H s e s',CX st H s E0 e s'->False)
 (hN:X.N[i]?=some o) (hck:X.env.kindOf o=some .cell) (hvis:X.env.scope.names.lookup o=some .cell) (hcc:X.env.cells.lookup o=some cc) (hfn:X.fn o=true)
 (ha:PA X (e::es) t) (hdb:(x==("__debug__": Str))=false:=by decide) (he:starEach (e::es) X.env=(false,eval e X.env)::starEach es X.env:=by rfl) (hpl:(backTo pos (starEach es X.env)).any (·.1)=false:=by rfl) :
  PE X (.Call (.Name x p) (e::es) [] pos) (_pO sp i cc t):=by
 intro pins s σ H Q I h;refine Rl (_aT I hg hm ?_ hdb);refine Gy (h₀:=X.base) I.ok.mod.kin hk (_m (ha pos pins s σ H _ I h) fun us s1 ⟨vs,H1,I1,r,b,hσ,q⟩=>⟨I1.kIn,?_⟩) he hpl;obtain ⟨m,hn,hl2⟩:=I1.loc;obtain ⟨u,ru,lk⟩:=hl2 i o (.ref b) hN hσ (.inr (.inl hvis));cases (show u=Value.ref b from ru)
 have hcell:s1.heap.IsCell cc (some (.ref b)):=by
  rcases lk with ⟨z,_⟩|⟨_,c2,e2,e3⟩
  ·rw [hck] at z;cases z
  ·rw [hcc] at e2;cases e2;exact e3
 obtain ⟨oc,hoc,hdc⟩:=hcell;have hno:H1 cc=none:=I1.freeC o cc hcc;have hsp:=q oc hno hdc;have e0:=I1.env0;have hL:(us++[]).length=ps.length:=by rw [QU,←r.length];exact F.len _ _ _ _ hsp
 have nstk:cc∉YH X.stack:=fun hb=>by
  rcases Qj.mp (I1.stkSub cc hb) with z|z
  ·exact I1.cne o cc hcc z
  ·obtain ⟨_,o1,ho,_⟩:=I1.ok.funs.mem z;exact absurd (Qq (Qi ho) (I1.ok.cab o cc hfn hcc)) (QF _)
 have e1:Env0 X.prog X.w X.K X.mg X.base X.A X.stack s1 (_c H1 cc (Fz oc)):=by
  refine ⟨e0.frames,e0.mod,fun d o' e=>⟨(e0.bs d o' e).1,?_⟩,e0.bsz,e0.funs,fun d hd=>?_,fun d u' e=>?_,e0.bare⟩
  ·have:d≠cc:=fun z=>by
    subst z;exact absurd (Qq (Qi (I1.ok.bs _ _ e).1) (I1.ok.cab o _ hfn hcc)) (QF _)
   rw [_d this];exact (e0.bs d o' e).2
  ·have nd:d≠cc:=fun z=>nstk (by rw [←z];exact hd);rw [_d nd];exact e0.frf d hd
  ·by_cases z:d=cc
   ·subst z;rw [_f] at e;cases e;exact _hz hoc
   ·rw [_d z] at e;refine (I1.hok d u' e).stay (fun _ _ _ r=>r) (fun d' r=>?_) fun d' xs r=>?_
    ·rw [_d (_t r hno)];exact r
    ·rw [_d (_t r hno)];exact r
 refine RY (RZ (F.run X.A X.stack s1 _ ⟨us,[]⟩ (us++[]) vs _ E0 hr e1 (hb s1 us I1.kIn hL) (by rw [QU];exact r) hsp) fun rr s' hq=>?_);cases rr with
 |error e=>exact (hCX _ _ _ _ _ hq).elim
 |ok fl =>
  cases fl with
  |ret u =>
   obtain ⟨v,H',os,bare,un,hok,r,q⟩:=hq;have hz:H' cc=some (Fz oc):=un.frzs cc oc _ _f;have hoc':s'.heap.get? cc=some oc:=(hok cc _ hz).1;refine I1.after ⟨v,Ud H' cc,os,bare,?_,?_,r,q⟩
   ·refine ⟨fun d o' e n hb hx=>?_,fun d o' e n hb hx=>?_,fun d o' e n hx=>?_,fun d o' e hx=>un.there d o' e hx,fun d xs e=>?_,fun d o' u' e=>?_,fun d ps e=>?_⟩
    ·by_cases z:d=cc
     ·subst z;rw [hoc] at e;cases e;exact hoc'
     ·exact un.keep d o' e (by rw [_d z];exact n) hb hx
    ·by_cases z:d=cc
     ·subst z;rw [hoc] at e;cases e;exact ⟨oc.slots,hoc'⟩
     ·exact un.slot d o' e (by rw [_d z];exact n) hb hx
    ·by_cases z:d=cc
     ·subst z;exact _hs
     ·rw [WG z];exact un.free d o' e (by rw [_d z];exact n) hx
    ·have z:=_t e hno;rw [WG z];exact un.tups d xs (by rw [_d z];exact e)
    ·have z:=_t e hno;rw [WG z];exact un.frzs d o' u' (by rw [_d z];exact e)
    ·have z:=_t e hno;obtain ⟨more,e2⟩:=un.tbls d ps (by rw [_d z];exact e);exact ⟨more,by rw [WG z];exact e2⟩
   ·intro d u' e;by_cases z:d=cc
    ·subst z;rw [_hs] at e;cases e
    ·rw [WG z] at e;refine (hok d u' e).stay (fun _ _ _ r=>r) (fun d' r=>?_) fun d' xs r=>?_
     ·rw [WG fun y=>by subst y;rw [hz] at r;cases r];exact r
     ·rw [WG fun y=>by subst y;rw [hz] at r;cases r];exact r
  |next=>exact False.elim hq
  |brk=>exact False.elim hq
  |cont=>exact False.elim hq
end
end L2
namespace L2
open PySem PySem.Spec PyProof.Rows PySem.W SA
section
variable {prog:Program} {w:World} {A:Around} {E:Value->Shared->Prop} {s:Shared}
end
section
variable {prog:Program} {w:World} {A:Around} {E:Value->Shared->Prop} {s:Shared}
end
theorem _it {d:Addr} {o:Obj} {kvs:List (_l×V)} {g:TG} {tb:TS} {D:Ends} {σ:St} {H:Hp} (Pv:Nat->St->Hp->Prop) (h0:Pv 0 σ H) (hl:∀i σ H,i≤kvs.length->Pv i σ H->H d=some (.frz o (.dK kvs)))
  (hs:∀i p σ H,kvs[i]?=some p->Pv i σ H->g (kV p.1) σ H fun σ2 H2=>tb { D with nx:=Pv (i+1),ct:=Pv (i+1),bk:=D.nx } σ2 H2) (hd:∀σ H,Pv kvs.length σ H->D.nx σ H) :
  ∃W:Nat->Nat->St->Hp->Prop,(∃m,W 0 m σ H)∧∀i m σ H,W i m σ H →
   ((JL d o kvs).stop i H∧D.nx σ H)∨((JL d o kvs).go i H∧∃N:St->Hp->Prop,(∀σ' H',N σ' H'->∃m',m'<m∧W (i+1) m' σ' H')∧∀x H',(JL d o kvs).yld i H x H'->g x σ H' fun σ2 H2=>tb { D with nx:=N,ct:=N,bk:=D.nx } σ2 H2):=by
 refine ⟨fun i m σ H=>m=kvs.length-i∧i≤kvs.length∧Pv i σ H,⟨kvs.length,by simp,QT _,h0⟩,?_⟩;rintro i m σ H ⟨rfl,hi,p⟩;have q:=hl i σ H hi p;by_cases hlt:i<kvs.length
 ·refine .inr ⟨⟨q,hlt⟩,Pv (i+1),fun σ' H' p'=>⟨kvs.length-(i+1),by omega,rfl,hlt,p'⟩,fun x H' y=>?_⟩;obtain ⟨rfl,y⟩:=y;rw [Qt hlt] at y;cases (show kV kvs[i].1=x from Qn y);exact hs i kvs[i] σ _ (Qt hlt) p
 ·have e:i=kvs.length:=by omega
  subst e;exact .inl ⟨⟨q,Qe _⟩,hd σ H p⟩
end L2
namespace L2
open PySem PySem.Spec PyProof.Rows
variable {X:Cx} {e:Expr}
theorem _J {N P:List Str} {sc:Scope} (h1:sc.kind=.function:=by rfl) (h2:sc.isCoroutine=false:=by rfl) (h3:sc.isGenerator=false:=by rfl) (h4:N.Nodup:=by trivial) (h5:N.take P.length=P:=by rfl)
 (h6:∀x∈P,sc.names.lookup x=some .local∨sc.names.lookup x=some .cell:=by trivial) (h7:∀y∈sc.names,y.2≠.free:=by trivial):FnScope N P sc:=⟨h1,h2,h3,h4,h5,h6,h7⟩
section
variable {CX:Yn} {k n:Nat} {x:Str} {st:Stmt} {ps:List Str} {sp:Sp} {p pos:Pos} {es:List Expr} {t:TA} {E:St->XK}
end
section
variable {tg:Expr}
end
section
variable {CX:Yn} {k1 k2 k3:Nat} {f1 C1 f2 C2 f3 C3:Addr} {fd1 fd2 fd3:FuncData} {ps1 ps2 ps3:List Str} {sp1 sp2 sp3:Sp} {E:XS} {m:Str} {pos apos:Pos} {o:Expr} {es:List Expr} {ta:TE} {t:TA}
end
section
variable {prog:Program} {w:World} {A:Around} {E:Value->Shared->Prop} {s:Shared}
end
section
variable {A:Around} {s:Shared}
end
section
variable {o f:Expr} {apos cpos:Pos} {td ty tx:TE}
end
end L2
namespace L2
open PySem PySem.Spec PyProof.Rows PySem.W PySem.SeqAt
variable {L P a cc:Addr} {params:Arguments} {A:Around} {X:Cx} {H:Hp} {co ln n:Nat} {scope:Scope} {s:Shared} {o q:Str} {E Q:Value->Shared->Prop}
theorem _o3 {oc:Option Addr}:Xe P ln co oc≠Vj P q:=fun z=>by
 unfold Xe Vj at z;have e:=congrFun (HO.ext.inj z) { (default:Heap) with objs:=Array.replicate (P+1) (tabObj (YW ln co oc)) }
 have g:({ (default:Heap) with objs:=Array.replicate (P+1) (tabObj (YW ln co oc)) }:Heap).get? P=some (tabObj (YW ln co oc)):=by
  unfold Heap.get?;rw [show (Array.replicate (P+1) (tabObj (YW ln co oc)))[P]?=some (tabObj (YW ln co oc)) by rw [Array.getElem?_replicate,Qb (Q9 P)]]
 obtain ⟨c,o2,vs,t,e1,e2,e3⟩:=e▸g;cases e1;rw [g] at e2;cases e2;obtain ⟨e4,e5⟩:=e3;cases e4;cases oc with
 |none=>cases (show (none:Option Value)=some (.str q t) from e5)
 |some c'=>cases (show some (rawInt co)=some (Value.str q t) from e5)
def Lams (P:Addr) (H H':Hp):Prop:=∀P2 ln co q,P2≠P->LamH P2 ln co q H->LamH P2 ln co q H'
theorem Lams.refl (P:Addr) (H:Hp):Lams P H H:=fun _ _ _ _ _ h=>h
theorem Lams.trans {H1 H2:Hp} (a:Lams P H H1) (b:Lams P H1 H2):Lams P H H2:=fun P2 ln co q n h=>b P2 ln co q n (a P2 ln co q n h)
theorem Same.lams {H':Hp} (s:Same H H') (P:Addr):Lams P H H':=fun _ _ _ _ _ h=>h.same s
theorem Lams.same {H1 H2:Hp} (a:Lams P H H1) (s:Same H1 H2):Lams P H H2:=a.trans (s.lams P)
theorem Lams.of {H':Hp} (h:LamH P ln co q H) (b:∀b u,b≠P->H b=some u->H' b=some u):Lams P H H':=fun P2 ln2 co2 q2 n h2=>by
 obtain ⟨oc,h1,_⟩:=h;obtain ⟨oc2,h3,h4⟩:=h2;refine ⟨oc2,b _ _ n h3,fun c' e=>b _ _ (fun z=>?_) (h4 c' e)⟩;have:=h4 c' e;rw [z,h1] at this;exact _o3 (Qn this)
def _lX (P:Addr) (ln co:Nat) (q:Str) (params:Arguments) (body:Expr) (scope:Scope) (o:Str) (cc:Addr):TE:=fun σ H Q=>LamH P ln co q H∧∀H2 f pm c' ctv,SameX H H2->Lams P H H2->LamH P ln co q H2->H f=none->H2 f=some (Fz (kla_obj "<lambda>" q params body scope [(o,cc)] pm c' ctv))->H2 c'=some (Vj c' q)->(∀D,H2 D=none->H D=none)->Q (.ref f) H2
theorem _lq {c:Addr} {body:Expr} {lpos:Pos} (B:LamB X.base c P X.mg) (hcode:X.env.code=.ref c) (hcl:closureFor scope X.env=pure [(o,cc)]) (hq:X.env.qual++"<lambda>"=q) (hdef:defaultsOf params X.env=([],[])) :
  PE X (.Lambda params body scope lpos) (_lX P lpos.line lpos.col q params body scope o cc):=by
 intro pins s σ H Q I h;obtain ⟨lam,h⟩:=h;refine kla_eval hdef ?_;rw [hq];have hgl:s.heap.Ns mainGlobals X.mg:=I.mod.glob.keeps I.bk;obtain ⟨bm,ob,b1,b2,b3,b4,b5,b6⟩:=B.bm;obtain ⟨oc,hP,hC⟩:=lam;have tabP:s.heap.get? P=some (tabObj (YW lpos.line lpos.col oc)):=(I.hok P _ hP).1
 have hgP:mainGlobals≠P:=fun z=>by
  obtain ⟨o1,es,ep,e1,hd,_⟩:=hgl;rw [z,tabP] at e1;cases e1;cases hd
 have hbP:bm≠P:=fun z=>by
  have e1:=I.bk _ _ b3;rw [z,tabP] at e1;cases e1;cases b4
 have hbG:bm≠mainGlobals:=fun z=>by
  obtain ⟨o1,es,ep,e1,hd,_⟩:=hgl;have e2:=I.bk _ _ b3;rw [z,e1] at e2;cases e2;rw [hd] at b6;cases b6
 have hBA:s.heap.BuiltinsAt X.mg P:=⟨bm,ob,b1,b2,hbG,hbP,I.bk _ _ b3,b4,b5,b6⟩;have CH:CodeHd s.heap c P:=B.hd.keeps I.bk
 have fin : ∀(h3 : Heap) (tk : Nat) (H2 : Hp) (c' : Addr) (ctv : Value), Inv X pins σ H2 { s with heap := h3, toks := tk } → H2 c'=some (Vj c' q) → SameX H H2 → Lams P H H2 → LamH P lpos.line lpos.col q H2 → (∀D, H2 D=none → H D=none) →
   EP X pins σ Q (.ref h3.objs.size) { s with heap:=h3.push (kla_obj "<lambda>" q params body scope [(o,cc)] ((X.mg "__name__").getD .none) c' ctv),toks:=tk }:=by
  intro h3 tk H2 c' ctv I3 hc' sx ls lm fr;have nf:H2 h3.objs.size=none:=I3.hok.fresh (Qe _);have I4:=I3.laid (t':=tk) (h':=h3.push (kla_obj "<lambda>" q params body scope [(o,cc)] ((X.mg "__name__").getD .none) c' ctv)) (a:=h3.objs.size) (o:=Fz (kla_obj "<lambda>" q params body scope [(o,cc)] ((X.mg "__name__").getD .none) c' ctv)) (fun b o e=>Ql _ e) (Qe _) (_hz (Qu _ rfl));refine ⟨.ref h3.objs.size,_,I4,rfl,h _ h3.objs.size _ c' ctv (sx.trans (_h nf).x) (ls.same (_h nf)) (lm.same (_h nf)) (fr _ nf) _f ?_ fun D hD=>?_⟩
  ·rw [_d (_t hc' nf)];exact hc'
  ·by_cases z:D=h3.objs.size
   ·rw [z,_f] at hD;cases hD
   ·rw [_d z] at hD;exact fr D hD
 cases oc with
 |none =>
  refine kla_makeFunction (mg:=X.mg) hcl I.ok.glob hgl hcode CH tabP True.intro rfl hgP hBA fun c' ctv h' tk hx hge hlt hrec htb=>?_;have I2:=I.grow (t':=tk) hP hx hge hrec (by simpa [YW] using htb);refine fin h' tk _ c' ctv I2 _f ?_ (Lams.of ⟨none,hP,hC⟩ fun b u n1 e1=>?_) ?_ ?_
  ·intro b u hu e1;have n1:b≠P:=fun z=>by subst z;rw [hP] at e1;cases e1;cases hu
   rw [_d (fun z=>by subst z;exact absurd (Qq (I.hok.lt e1) hge) (QF _)),_d n1];exact e1
  ·rw [_d (fun z=>by subst z;exact absurd (Qq (I.hok.lt e1) hge) (QF _)),_d n1];exact e1
  ·refine ⟨some c',?_,fun c2 e2=>?_⟩
   ·rw [_d (fun z=>by subst z;exact absurd (Qq (I.hok.lt hP) hge) (QF _)),_f]
   ·cases e2;exact _f
  ·intro D hD;cases r:H D with
   |none=>rfl
   |some u =>
    exfalso;have n2:D≠c':=fun z=>by subst z;exact absurd (Qq (I.hok.lt r) hge) (QF _)
    rw [_d n2] at hD;by_cases n1:D=P
    ·subst n1;rw [_f] at hD;cases hD
    ·rw [_d n1,r] at hD;cases hD
 |some c' =>
  have hc':=hC c' rfl;refine kla_makeFunctionHit (mg:=X.mg) hcl I.ok.glob hgl hcode CH tabP (by simp [YW,TriplesOk,rawInt]) (cv:=.ref c') (by simp [YW,codeAmong,rawInt]) hBA fun ctv h' tk hk hsz=>?_;have I2:=I.kept (t':=tk) hk;exact fin h' tk H c' ctv I2 hc' (SameX.refl _) (Lams.refl _ _) ⟨some c',hP,hC⟩ fun _ z=>z
theorem _jj {P:Program} {w:World} {K:W.Frag} {mg mb:Str->Option Value} {CX:Yn} {k ln2 co2:Nat} {q2:Str} {fa tb cc2 tb2:Addr} {fd:FuncData} {x:Str} {sp:Sp} {s₁:Shared} {vs:List Value} {ns:List Int}
 (KX:K.In s₁.heap) (hns:s₁.heap.Ns mainGlobals mg) (hb:s₁.heap.Ns builtinsNs mb) (hbb:∀x:Str,x≠"__name__"->mb x=bootBuiltins x) (hlim:s₁.heap.NoLimit) (hg:s₁.gens=#[])
 (ha:s₁.heap.get? a=some { cls:=.type "list",data:=.seq vs.toArray }) (hi:IntsAre vs ns) (hl:ns.length≤sizeLine) (hr:Room k callerA)
 (hC:CodeHd s₁.heap cc tb) (hT:s₁.heap.get? tb=some (tabObj #[])) (hKP:K.lookup tb=none) (hC2:CodeHd s₁.heap cc2 tb2) (hT2:s₁.heap.get? tb2=some (tabObj #[])) (hKP2:K.lookup tb2=none) (tt:tb2≠tb)
 (hbm:∃bm ob,mg "__builtins__"=some (.ref bm)∧bm≠builtinsNs∧s₁.heap.get? bm=some ob∧ob.cls=.type "module"∧ob.dict=some builtinsNs∧ob.data=.plain)
 (F:∀base:Heap,K.In base->base.Ns mainGlobals mg->LamB base cc tb mg->LamB base cc2 tb2 mg->FnOk P w K mg base CX k fa fd [x] sp) (hbind:∀(s:Shared) (u:Value),BindsTo s fd ⟨[u],[]⟩ [(x,u)])
 (hsp:∀H:Hp,LamH tb ln co q H->LamH tb2 ln2 co2 q2 H->SqL K H a (ns.map V.int)->sp [.ref a] H (fun v H'=>v=.bl true∧LamH tb ln co q H'∧LamH tb2 ln2 co2 q2 H') fun _ _ _=>False)
 (hCX:∀H e s',CX [] H s₁ (fun _ _ _=>False) e s'->False) :
  codeAny (model P w) callerA (.call (.ref fa) ⟨[.ref a],[]⟩) (fun r s'=>r=.ok (.ret (.bool true))∧OldK s₁.heap s'.heap∧s'.os=s₁.os∧AllBare s'.gens) s₁:=by
 have rv:=_fA hi;have lenV:=hi.length
 have core : ∀H : Hp, H tb=some (Xe tb ln co none) → H tb2=some (Xe tb2 ln2 co2 none) → SqL K H a (ns.map V.int) → HOk P w H s₁.heap → (∀b, H b ≠ none → b=tb ∨ b=tb2 ∨ (b=a ∧ ∃o xs, H b=some (.frz o (.lst xs)))) → (H a ≠ none → K.lookup a=none) →
   codeAny (model P w) callerA (.call (.ref fa) ⟨[.ref a],[]⟩) (fun r s'=>r=.ok (.ret (.bool true))∧OldK s₁.heap s'.heap∧s'.os=s₁.os∧AllBare s'.gens) s₁:=by
  intro H hO hO2 hS hok hA hK;have base_of:∀{b:Addr} {o:Obj},s₁.heap.get? b=some o->H b=none->(Wr s₁.heap H).get? b=some o:=fun e n=>_mT e n
  have noA:∀{b:Addr} {o:Obj},s₁.heap.get? b=some o->(∀its n,o.data≠.seq its n)->o.cls≠.none->H b=none:=fun {b o} e d hcl=>by
   cases q:H b with
   |none=>rfl
   |some u =>
    rcases hA b (by rw [q];simp) with e'|e'|⟨e',_⟩
    ·subst e';rw [hT] at e;cases e;exact absurd rfl hcl
    ·subst e';rw [hT2] at e;cases e;exact absurd rfl hcl
    ·subst e';rw [ha] at e;cases e;exact absurd rfl (d _ _)
  have noD:∀{b:Addr} {o:Obj} {es:Array DictEntry} {ep:Nat},s₁.heap.get? b=some o->o.data=.dict es ep->H b=none:=fun {b o es ep} e d=>by
   cases q:H b with
   |none=>rfl
   |some u =>
    rcases hA b (by rw [q];simp) with e'|e'|⟨e',_⟩
    ·subst e';rw [hT] at e;cases e;cases d
    ·subst e';rw [hT2] at e;cases e;cases d
    ·subst e';rw [ha] at e;cases e;have d':Data.seq vs.toArray _=Data.dict es ep:=d;cases d'
  have nsK:∀{b:Addr} {m:Str->Option Value},s₁.heap.Ns b m->(Wr s₁.heap H).Ns b m:=fun {b m} ⟨o,es,ep,e,d,r⟩=>⟨o,es,ep,base_of e (noD e d),d,r⟩
  have hKb:K.In (Wr s₁.heap H):=fun b o e=>base_of (KX b o e) (by
   cases q:H b with
   |none=>rfl
   |some u =>
    rcases hA b (by rw [q];simp) with e'|e'|⟨e',_⟩
    ·subst e';rw [hKP] at e;cases e
    ·subst e';rw [hKP2] at e;cases e
    ·subst e';rw [hK (by rw [q];simp)] at e;cases e)
  have hM:Mod K mg (Wr s₁.heap H):=⟨hKb,nsK hns,⟨mb,nsK hb,hbb⟩,let ⟨mc,h1,h2⟩:=hlim;⟨mc,nsK h1,h2⟩⟩
  have hLB:LamB (Wr s₁.heap H) cc tb mg:=by
   obtain ⟨o,vs',file,tf,flags,tg,inF,text,tt,e1,e2,e3,r⟩:=hC;obtain ⟨bm,ob,b1,b2,b3,b4,b5,b6⟩:=hbm;exact ⟨⟨o,vs',file,tf,flags,tg,inF,text,tt,base_of e1 (noA e1 (fun its n z=>by rw [e3] at z;cases z) (by rw [e2];simp)),e2,e3,r⟩,bm,ob,b1,b2,base_of b3 (noA b3 (fun its n z=>by rw [b6] at z;cases z) (by rw [b4];simp)),b4,b5,b6⟩
  have hLB2:LamB (Wr s₁.heap H) cc2 tb2 mg:=by
   obtain ⟨o,vs',file,tf,flags,tg,inF,text,tt,e1,e2,e3,r⟩:=hC2;obtain ⟨bm,ob,b1,b2,b3,b4,b5,b6⟩:=hbm;exact ⟨⟨o,vs',file,tf,flags,tg,inF,text,tt,base_of e1 (noA e1 (fun its n z=>by rw [e3] at z;cases z) (by rw [e2];simp)),e2,e3,r⟩,bm,ob,b1,b2,base_of b3 (noA b3 (fun its n z=>by rw [b6] at z;cases z) (by rw [b4];simp)),b4,b5,b6⟩
  have e0:Env0 P w K mg (Wr s₁.heap H) callerA [] s₁ H:=⟨rfl,hM,fun b o e=>_js e,Nat.le_of_eq (_n7 _ _),trivial,fun b hb=>absurd (show b∈([]:List Addr) from hb) (by simp),hok,.of_eq hg⟩;refine RZ ((F _ hKb (nsK hns) hLB hLB2).run callerA [] s₁ H ⟨[.ref a],[]⟩ [.ref a] [.ref a] _ _ hr e0 (hbind s₁ (.ref a)) (.cons rfl .nil) (hsp H ⟨none,hO,fun _ z=>by cases z⟩ ⟨none,hO2,fun _ z=>by cases z⟩ hS)) fun r s' h=>?_;cases r with
  |error e=>exact (hCX H e s' h).elim
  |ok fl =>
   cases fl with
   |next=>exact False.elim h
   |brk=>exact False.elim h
   |cont=>exact False.elim h
   |ret u =>
    obtain ⟨v,H',os,bare,un,hok',r',q⟩:=h;obtain ⟨q',⟨oc,lp,_⟩,oc2,lp2,_⟩:=q;subst q';obtain rfl:u=Value.bool true:=r';have tE:s'.heap.get? tb=some (tabObj (YW ln co oc)):=(hok' tb _ lp).1;have tE2:s'.heap.get? tb2=some (tabObj (YW ln2 co2 oc2)):=(hok' tb2 _ lp2).1
    have kept:∀b o,b≠tb->b≠tb2->s₁.heap.get? b=some o->s'.heap.get? b=some o:=fun b o nb nb2 e=>by
     cases q:H b with
     |none=>exact un.keep b o e q (by intro z;exact absurd (show b∈([]:List Addr) from z) (by simp)) (by simp)
     |some u =>
      rcases hA b (by rw [q];simp) with z|z|⟨_,ob,xs,z⟩
      ·exact absurd z nb
      ·exact absurd z nb2
      ·have z2:=un.frzs b ob _ z;obtain ⟨e1,_⟩:=hok b _ z;obtain ⟨e2,_⟩:=hok' b _ z2;rw [e] at e1;cases e1;exact e2
    refine ⟨rfl,⟨fun b o e=>?_,fun b o e=>?_⟩,os,bare⟩
    ·by_cases nb:b=tb
     ·subst nb;rw [hT] at e;cases e;exact .inr (.inl ⟨(hC.tab hT).isCodeTable,rfl,#[],YW ln co oc,rfl,by rw [tE];simp⟩)
     ·by_cases nb2:b=tb2
      ·subst nb2;rw [hT2] at e;cases e;exact .inr (.inl ⟨(hC2.tab hT2).isCodeTable,rfl,#[],YW ln2 co2 oc2,rfl,by rw [tE2];simp⟩)
      ·exact .inl (kept b o nb nb2 e)
    ·by_cases nb:b=tb
     ·subst nb;exact ⟨_,tE⟩
     ·by_cases nb2:b=tb2
      ·subst nb2;exact ⟨_,tE2⟩
      ·exact ⟨o,kept b o nb nb2 e⟩
 have nat:a≠tb:=fun z=>by subst z;rw [ha] at hT;cases hT
 have nat2:a≠tb2:=fun z=>by subst z;rw [ha] at hT2;cases hT2
 have tOk:∀H:Hp,ObjOk P w H s₁.heap tb (Xe tb ln co none):=fun H=>_fq (oc:=none) hT;have tOk2:∀H:Hp,ObjOk P w H s₁.heap tb2 (Xe tb2 ln2 co2 none):=fun H=>_fq (oc:=none) hT2
 have _Z : ∀H0 : Hp, (∀b u, H0 b=some u → b ≠ tb → b ≠ tb2 → b=a ∧ u=.frz { cls := .type "list", data := .seq vs.toArray } (.lst (ns.map V.int))) → SqL K (_c (_c H0 tb (Xe tb ln co none)) tb2 (Xe tb2 ln2 co2 none)) a (ns.map V.int) → (H0 a ≠ none → K.lookup a=none) →
   codeAny (model P w) callerA (.call (.ref fa) ⟨[.ref a],[]⟩) (fun r s'=>r=.ok (.ret (.bool true))∧OldK s₁.heap s'.heap∧s'.os=s₁.os∧AllBare s'.gens) s₁:=fun H0 h0 hS hK=>by
  have case:∀b u,_c (_c H0 tb (Xe tb ln co none)) tb2 (Xe tb2 ln2 co2 none) b=some u->(b=tb∧u=Xe tb ln co none)∨(b=tb2∧u=Xe tb2 ln2 co2 none)∨(b=a∧u=.frz { cls:=.type "list",data:=.seq vs.toArray } (.lst (ns.map V.int))):=fun b u e=>by
   by_cases h2:b=tb2
   ·rw [h2,_f] at e;cases e;exact .inr (.inl ⟨h2,rfl⟩)
   ·rw [_d h2] at e;by_cases h1:b=tb
    ·rw [h1,_f] at e;cases e;exact .inl ⟨h1,rfl⟩
    ·rw [_d h1] at e;exact .inr (.inr (h0 b u e h1 h2))
  refine core _ (by rw [_d tt.symm];exact _f) _f hS (fun b u z=>?_) (fun b z=>?_) (fun z=>hK (by rw [_d nat2,_d nat] at z;exact z))
  ·rcases case b u z with ⟨rfl,rfl⟩|⟨rfl,rfl⟩|⟨rfl,rfl⟩
   ·exact tOk _
   ·exact tOk2 _
   ·exact ⟨ha,by rw [Qc];exact hl,vs,_,rv,ha⟩
  ·obtain ⟨u,hu⟩:=Me.mp z;rcases case b u hu with ⟨h,_⟩|⟨h,_⟩|⟨h,e⟩
   ·exact .inl h
   ·exact .inr (.inl h)
   ·exact .inr (.inr ⟨h,_,_,by rw [hu,e]⟩)
 cases hk:K.lookup a with
 |some o =>
  have e:=KX a o hk;rw [ha] at e;cases e;exact _Z (fun _=>none) (fun b u z=>by cases z) (.inr ⟨_,vs.toArray,_,hk,rfl,rfl,rfl,by rw [Qv,lenV];exact hl,by simpa using rv⟩) fun z=>absurd rfl z
 |none =>
  refine _Z (fun b=>if b=a then some (.frz { cls:=.type "list",data:=.seq vs.toArray } (.lst (ns.map V.int))) else none) (fun b u z _ _=>?_) (.inl (.inr ⟨{ cls:=.type "list",data:=.seq vs.toArray },by rw [_d nat2,_d nat];exact Qb rfl⟩)) fun _=>hk;by_cases hb:b=a
  ·have z':=(Qb hb).symm.trans z;cases z';exact ⟨hb,rfl⟩
  ·have z':=(Qa hb).symm.trans z;cases z'
theorem walk_ofT2 {l:W.OpenLaw} {k ln2 co2:Nat} {qn nm qn2 nm2:Str} {q:Program} {loose:List Str} {XP:(Str->Option Value)->Heap->Prop} {YP:World->Heap->Prop} {d dd dd2:DefRec} {K:Params->W.Frag} {CX:World->Yn} {sp:World->Addr->Addr->Sp} {x:Str}
 (hn:l.most=some n) (hn2:n≤sizeLine) (hdf:d.params.defaults=[]) (hr:Room k callerA) (hrec:(recsOf q).find? (fun e=>e.name==nm)=some dd) (hrec2:(recsOf q).find? (fun e=>e.name==nm2)=some dd2)
 (hY:∀(w:World) (h:Heap),YP w h->(K w.params).In h)
 (F:∀(w:World) (mg:Str->Option Value) (fa:Addr) (h:Heap),(K w.params).In h->h.Ns mainGlobals mg->mg d.name=some (.ref fa) →
 ∃(fd:FuncData) (cc tb cc2 tb2:Addr),tabIn (K w.params) nm=some (cc,tb)∧(K w.params).lookup tb=none∧tabIn (K w.params) nm2=some (cc2,tb2)∧(K w.params).lookup tb2=none∧tb2≠tb∧(∀(s:Shared) (u:Value),BindsTo s fd ⟨[u],[]⟩ [(x,u)]) ∧
 ∀base:Heap,(K w.params).In base->base.Ns mainGlobals mg->LamB base cc tb mg->LamB base cc2 tb2 mg->FnOk l.prog w (K w.params) mg base (CX w) k fa fd [x] (sp w tb tb2))
 (hsp:∀(w:World) (H:Hp) (a tb tb2:Addr) (ns:List Int),ns.length≤n->LamH tb ln co qn H->LamH tb2 ln2 co2 qn2 H->SqL (K w.params) H a (ns.map V.int)->tb2≠tb->sp w tb tb2 [.ref a] H (fun v H'=>v=.bl true∧LamH tb ln co qn H'∧LamH tb2 ln2 co2 qn2 H') fun _ _ _=>False)
 (hCX:∀(w:World) (H:Hp) (s:Shared) (e:Value) (s':Shared),CX w [] H s (fun _ _ _=>False) e s'->False) :
  W.WalkO q loose XP YP l.row.toRowW d [] (fun f vs=>PySem.call f vs):=by
 refine Att.attach_call hn hdf fun w s₀ s₁ mg mb fa o pm cd doc a vs ns G Y ho hd hcd hmg hobj hints hlen hg=>?_;have KX:=hY w _ Y;obtain ⟨fd,cc,tb,cc2,tb2,ht,hK,ht2,hK2,tt,hb,hF⟩:=F w mg fa _ KX G.T.g hmg;obtain ⟨h1,h2⟩:=tab_of G.T KX hrec ht;obtain ⟨h3,h4⟩:=tab_of G.T KX hrec2 ht2;exact _jj (ln:=ln) (co:=co) (q:=qn) (ln2:=ln2) (co2:=co2) (q2:=qn2) KX G.T.g G.T.b G.T.builtins G.T.nolimit hg hobj hints (Qk hlen hn2) hr h1 h2 hK h3 h4 hK2 tt G.T.bmain hF hb (fun H hO hO2 hS=>hsp w H a tb tb2 ns hlen hO hO2 hS tt) fun H e s'=>hCX w H s₁ e s'
noncomputable abbrev WC (x o f:Str) (p1 p2 p3 p4:Pos):Expr:=.Subscript (.Attribute (.Name o p1) f p2) (.Name x p3) p4
structure LamOkD (x o f:Str) (params:Arguments) (scope:Scope) (p1 p2 p3 p4:Pos):Prop where
 bind:∀(qual:Str) (cl:List (Str×Addr)) (pm cd ct v:Value),bindArgs (kla_fn "<lambda>" qual params (WC x o f p1 p2 p3 p4) scope cl pm cd ct) ⟨[v],[]⟩=pure [(x,v)]
 loc:scope.names.lookup x=some .local
 fre:scope.names.lookup o=some .free
 kind:scope.kind=.function
 co:scope.isCoroutine=false
 gen:scope.isGenerator=false
 cell:∀y∈scope.names,y.2≠.cell
 db:(x==("__debug__" : Str))=false∧(o==("__debug__" : Str))=false∧(o==("__classdict__" : Str))=false
 base:∀(qual:Str) (L f':Addr) (c:Value) (cl:Addr),attributeBase (.Name o p1) f (envX qual scope L f' c [(o,cl)]) (eval (.Name o p1) (envX qual scope L f' c [(o,cl)]))=eval (.Name o p1) (envX qual scope L f' c [(o,cl)])
 sub:_jg (.Name x p3)
theorem VM:∀{vs:List Value} {ds:List Int},IntsAre vs ds->∀(i:Nat) (d:Int),ds[i]?=some d->∃t,vs[i]?=some (.int d t)
 |_,_,.nil,i,d,e=>by cases e
 |_,_,.cons n t r,0,d,e=>⟨t,by simpa using e⟩
 |_,_,.cons n t r,i+1,d,e=>by
  obtain ⟨t',h⟩:=VM r i d (by simpa using e);exact ⟨t',by simpa using h⟩
section
variable {prog:Program} {w:World}
theorem _pQ {K:W.Frag} {x fl qual:Str} {p1 p2 p3 p4:Pos} {f cl dx C c':Addr} {mA:Str->Option Value} {pm ctv:Value} {vs:List Value} {ds:List Int} {d:Int} {t:Tok} {j:Nat} 
 (ok:LamOkD x o fl params scope p1 p2 p3 p4) (hroom:A.depth<recursionLimit) (hlim:s.heap.NoLimit) (KX:K.In s.heap)
 (hf:s.heap.get? f=some (kla_obj "<lambda>" qual params (WC x o fl p1 p2 p3 p4) scope [(o,cl)] pm c' ctv)) (hcd:s.heap.CodeRec (.ref c') qual)
 (hc:s.heap.IsCell cl (some (.ref a))) (O:ObjM s.heap a dx C mA) (cls:Cls K C) (na:NoAttr K C fl) (hv:mA fl=some (.ref L)) (hl:PlainL s.heap L vs.toArray) (hs:IntsAre vs ds) (hd:ds[j]?=some d) (hsz:ds.length≤1000)
 (h:∀h' tk u,(∀b o,s.heap.get? b=some o->h'.get? b=some o)->Q (.int d u) { s with heap:=h',toks:=tk }) :
  wpAny (model prog w) A (call (.ref f) [.int j t]) Q E s:=by
 refine RY ?_;refine kla_callFunE hroom hf rfl ok.co ok.gen rfl hcd ?_;rw [ok.bind];refine Qf (NQ ok.cell (fun z hz=>?_) (fun h₁ hns hsb=>⟨hlim.fresh _ hsb,?_⟩) ok.kind)
 ·have:z=(x,Value.int j t):=by simpa using hz
  subst this;exact ok.loc
 have hk₁:∀b o,s.heap.get? b=some o->h₁.get? b=some o:=fun b o e=>hsb.extBut b o (QA (Qi e)) (Ql _ e);show codeAny _ _ (.expr (WC x o fl p1 p2 p3 p4) (envX qual scope s.heap.objs.size f (.ref c') [(o,cl)])) _ _;refine kla_codeExpr ?_;obtain ⟨oc,hoc,hdc⟩:=hc
 have ko:(envX qual scope s.heap.objs.size f (.ref c') [(o,cl)]).kindOf o=some .free:=by
  first|exact ok.fre|(simp only [Env.kindOf];exact ok.fre)
 have kx:(envX qual scope s.heap.objs.size f (.ref c') [(o,cl)]).kindOf x=some .local:=by
  first|exact ok.loc|(simp only [Env.kindOf];exact ok.loc)
 obtain ⟨t',ht'⟩:=VM hs j d hd;have hjl:j<ds.length:=(Qz.mp hd).1;have hvl:=hs.length;refine Subscript_ (_h9 (ok.base _ _ _ _ _) (RD (Nu ok.kind ko (by simp) ⟨oc,hk₁ _ _ hoc,hdc⟩ ?_ ok.db.2.2) ok.db.2.1));refine _hF (K:=K) (mA:=mA) (fun b o e=>hk₁ _ _ (KX b o e)) ⟨hk₁ _ _ O.obj,O.ns.keeps hk₁,O.ne⟩ (cls.get fl) cls.hd na hv rfl ?_;refine RD (GN (v:=.int j t) ok.kind kx hns (by simp) ?_) ok.db.1;obtain ⟨oo,n,a1,a2,a3,a4⟩:=hl;exact item_listR (items:=vs.toArray) (k:=(j:Int)) (PlainL.isList ⟨oo,n,hk₁ _ _ a1,a2,a3,a4⟩) (by omega) (by omega) (by simpa using ht') (h _ _ _ hk₁) (ok.sub _ _)
end
theorem _hK {g:Nat->Int}:∀{vs:List Value} {k:Nat},(∀(i:Nat) (v:Value),vs[i]?=some v->∃t,v=.int (g (k+i)) t)->IntsAre vs ((List.range' k vs.length).map g)
 |[],k,_=>.nil
 |v::vs,k,h=>by
  obtain ⟨t,rfl⟩:=h 0 v rfl;exact .cons _ t (_hK (k:=k+1) fun i u hu=>by rw [show k+1+i=k+(i+1) by omega];exact h (i+1) u (by simpa using hu))
section
variable {prog:Program} {w:World}
theorem _mA {Q:List Value->Shared->Prop} {r:Addr} {t u v:Tok} (hh:A.handled=none) (hr:IsRange s.heap r 0 n 1 t u v) (hn:n≤1000)
 (h:∀h1 tk (vs:List Value),IntsAre vs ((List.range n).map fun i:Nat=>(i:Int))->(∀b o,s.heap.get? b=some o->h1.get? b=some o)->s.heap.objs.size≤h1.objs.size->Q vs { s with heap:=h1,toks:=tk }) :
  wpAny (model prog w) A (collect (.ref r)) Q E s:=by
 unfold collect;refine Qd (wpAny_runValue (R3 NU ?_));show wpAny _ _ (do again (.builtin "list.__iadd__" ⟨[←newList [],.ref r],[]⟩)) _ _ s;refine Qd (Gi (Qf ⟨G6 _ (by trivial),R3 entry_list_iadd' ?_⟩));show wpAny _ _ (Builtin.List.listExtendWith (.ref s.heap.objs.size) (.ref r) (.ref s.heap.objs.size)) _ _ { s with heap:=s.heap.push (seqObj "list" #[] 0) };have hS:(s.heap.push (seqObj "list" #[] 0)).get? s.heap.objs.size=some { cls:=.type "list",data:=.seq #[] 0 }:=Qu _ rfl;rw [Around.under_plainId (by trivial)]
 refine wpAny_extend_range (R:=fun r s'=>match r with
  |.ok (.ret v)=>wpAny (model prog w) A (match v with
   |.ref a=>do match (←load a).data with
    |.seq xs _=>pure xs.toList
    |_=>unsupported "internal:collect"
   |_=>unsupported "internal:collect") Q E s'
  |.ok _=>False
  |.error e=>E e s') (A:=A) (s:={ s with heap:=s.heap.push (seqObj "list" #[] 0) }) (n:=n) hh (Ql _ hr) (small_one (by omega) (by omega) (by omega) (by omega)) (by rw [rangeSize_one];split<;>omega) (by omega) s.heap.objs.size (.ref s.heap.objs.size) 0 hS (fun h' tk acc c hk hS' hacc=>?_)
 refine Qd (wpAny_load hS' ?_);refine Qf (h h' tk acc.toList ?_ (fun b o e=>hk b o (QA (Qi e)) (Ql _ e)) (QR (Qi hS')));have e:n=acc.toList.length:=by rw [Ga];exact hacc.1.symm
 rw [e,List.range_eq_range'];refine _hK fun i v hv=>?_;obtain ⟨t,ht⟩:=hacc.2 i v (by simpa using hv);exact ⟨t,by rw [ht];simp⟩
variable {h₀:Heap} {m:Str->Option Value} {news:List (Addr×Obj)} {b:Bool}
theorem _qd {kz:List Int} {x f:Value} {kw:List (Str×Value)} {PV:List Value->Prop} (F:Fr h₀ L s.heap m) (N:News h₀ L s.heap news) (hPV:∀vs,PV vs->kz.length=vs.length) (h64:kz.length<64)
 (hc:∀(A':Around) (Q':List Value->Shared->Prop) (E':Value->Shared->Prop),A'.handled=A.handled->(∀vs h1 tk,PV vs->(∀b o,s.heap.get? b=some o->h1.get? b=some o)->s.heap.objs.size≤h1.objs.size->Q' vs { s with heap:=h1,toks:=tk })->wpAny (model prog w) A' (collect x) Q' E' s)
 (ha1:argsOk "sorted" ⟨[x],kw⟩) (ha2:∀x,argsOk "list.sort" ⟨[.ref x],kw⟩) (ht:∀x,Builtin.«list.sort» ⟨[.ref x],kw⟩=ksk_tree x f b)
 (turn:∀(vs:List Value),PV vs->∀(i:Nat) (v:Value) (k:Int),vs[i]?=some v->kz[i]?=some k->∀(h:Heap) (tk:Nat) (own:List (Addr×Obj)),Fr h₀ L h m->News h₀ L h (news++own) →
 wpAny (model prog w) A.in1.in1 (call f [v]) (KskEnd h₀ L m (news++own) k { s with heap:=h,toks:=tk }) (fun _ _=>False) { s with heap:=h,toks:=tk })
 (h:∀vs D h' tk out c,PV vs->Fr h₀ L h' m->News h₀ L h' ((D,seqObj "list" out c)::news)->(∀q∈news,q.1<D)->KskOut b kz vs out.toList->Q (.ref D) { s with heap:=h',toks:=tk }) :
  wpAny (model prog w) A (call (.builtin "sorted") [x] kw) Q E s:=by
 refine call_function_entry_kw kind_sorted plain_sorted entry_sorted ha1 ?_;unfold Builtin.«sorted»;refine Qd (m:=checkCount "sorted" 1 1 _) (Qf ?_);refine Qd (hc _ _ _ rfl fun vs h1 tk pv k1 z1=>?_);have hlen:=hPV vs pv;refine Qd (Gi ?_ (by rw [RW];omega));have hoL:(h1.push (seqObj "list" vs.toArray 0)).get? h1.objs.size=some (seqObj "list" vs.toArray 0):=Qu _ rfl;have keep:∀b o,s.heap.get? b=some o->(h1.push (seqObj "list" vs.toArray 0)).get? b=some o:=fun b o q=>Ql _ (k1 b o q);have hL:L<s.heap.objs.size:=F.ns.lt;show wpAny _ _ _ _ _ { s with heap:=h1.push (seqObj "list" vs.toArray 0),toks:=tk };refine Qd (Q5 (wpAny_call_entry_kw slot_list_sort ⟨_,hoL,rfl⟩ entry_list_sort ?body (ha2 _)))
 case body =>
  have ht':=ht h1.objs.size;show wpAny (model prog w) A.in1.in1 (Builtin.«list.sort» ⟨[.ref h1.objs.size],kw⟩) _ _ _;rw [ht']
  refine ksk_sort (s:={ s with heap:=h1.push (seqObj "list" vs.toArray 0),toks:=tk })
   (F.kept keep) (N.grown keep) hoL (Rv (Qq hL z1)) (Nt (Qk F.above (Qk (QR hL) z1)))
   (fun p hp=>QA (Qq (Qi (N p hp).1) z1)) hlen (by omega) (turn vs pv) fun h' tk out c F' N' k'=>⟨_,rfl,?_⟩
  exact Qf ⟨_,rfl,h vs _ h' tk out c pv F' N' (fun q hq=>Qq (Qi (N q hq).1) z1) k'⟩
end
def _mo (t:TA):TE:=fun σ H Q=>t σ H fun vs H1=>∃j:Int,vs=[.int j]∧-(2 ^ 62)≤j∧j<2 ^ 62∧∀r,H1 r=none->Q (.ref r) (_c H1 r (.rng 0 j))
theorem _lI {a:Expr} {ta:TA} {p pos:Pos} (hg:Gl X "range") (hm:X.mg "range"=none) (ha:PA X [a] ta) (hs:starEach [a] X.env=[(false,eval a X.env)]:=by rfl):PE X (.Call (.Name "range" p) [a] [] pos) (_mo ta):=by
 intro pins s σ H Q I h;refine Call_ (Vs I hg hm boot_range (Gr (_m (ha pos pins s σ H _ I h) fun us s1 ⟨vs,H1,I1,r1,q1⟩=>?_) hs rfl));obtain ⟨j,e,q1,q2,q⟩:=q1;subst e;cases r1 with
 |cons r rr =>
  cases rr;obtain ⟨t,rfl⟩:=r;refine call_range_1 ?_;exact ⟨.ref _,_,I1.laid (o:=.rng 0 j) (fun b o e=>Ql _ e) (Qe _) (show ObjOk X.prog X.w _ _ _ (.rng 0 j) from ⟨_,_,_,Qu _ rfl⟩),rfl,q _ (I1.hok.fresh (Qe _))⟩
noncomputable def Jh:Value->Int
 |.int z _=>z
 |_=>0
theorem _gC:∀{us:List Value} {zs:List Int},IntsAre us zs->us.map Jh=zs
 |_,_,.nil=>rfl
 |_,_,.cons z t r=>by rw [Qw,_gC r];rfl
theorem _f3:∀{us:List Value},(∀u∈us,∃z t,u=Value.int z t)->IntsAre us (us.map Jh)
 |[],_=>.nil
 |u::us,h=>by
  obtain ⟨z,t,rfl⟩:=h u (by simp);exact .cons z t (_f3 fun v hv=>h v (QD _ hv))
theorem _g8:∀{us:List Value} {zs:List Int},IntsAre us zs->∀u∈us,∃z t,u=Value.int z t
 |_,_,.nil,u,h=>by cases h
 |_,_,.cons z t r,u,h=>by
  rcases Qj.mp h with e|h
  ·exact ⟨z,t,e⟩
  ·exact _g8 r u h
theorem _er {g:Int->Int}:∀{us:List Value} {zs:List Int},IntsAre us zs->∀p∈(zs.map g).zip us,p.1=g (Jh p.2)
 |_,_,.nil,p,h=>by cases h
 |_,_,.cons z t r,p,h=>by
  rcases Qj.mp h with e|h
  ·subst e;rfl
  ·exact _er r p h
theorem _k7 {us out:List Value} {zs:List Int} {g:Int->Int} (hs:IntsAre us zs) (ko:KskOut false (zs.map g) us out):∃zs',IntsAre out zs'∧zs'.Perm zs∧zs'.Pairwise fun a b=>g a≤g b:=by
 obtain ⟨ps,hp,rfl,hw⟩:=ko;have hl:us.length=zs.length:=hs.length;have e2:((zs.map g).zip us).map Prod.snd=us:=List.map_snd_zip (by rw [Qc];omega)
 have hm:(ps.map Prod.snd).Perm us:=by
  have:=hp.map Prod.snd;rw [e2] at this;exact this
 refine ⟨(ps.map Prod.snd).map Jh,_f3 fun u hu=>_g8 hs u (hm.mem_iff.mp hu),?_,?_⟩
 ·have:=hm.map Jh;rw [_gC hs] at this;exact this
 ·rw [QP,Gj];refine hw.imp_of_mem fun {a b} ha hb q=>?_;have q':a.1≤b.1:=q;rw [_er hs a (hp.mem_iff.mp ha),_er hs b (hp.mem_iff.mp hb)] at q';exact q'
section
variable {e:Expr} {te:TE} {p pos kp lpos p1 p2 p3 p4:Pos} {x fl:Str} {c:Addr} {i:Nat}
theorem _nb {pins:List (Addr×Obj)} {σ:St} {f r dx C c':Addr} {fs:List (Str×V)} {pm ctv:Value} {ds:List Int} (I:Inv X pins σ H s) (hh:A.handled=none) (ok:LamOkD x o fl params scope p1 p2 p3 p4) (hroom:A.depth<recursionLimit)
 (hf:s.heap.get? f=some (kla_obj "<lambda>" q params (WC x o fl p1 p2 p3 p4) scope [(o,cc)] pm c' ctv)) (hcd:s.heap.CodeRec (.ref c') q) (hcL:cc≠X.env.locals) (hc'L:c'≠X.env.locals) (hfL:f≠X.env.locals)
 (hc:s.heap.IsCell cc (some (.ref a))) (ea:H a=some (.ins C dx fs)) (cls:Cls X.K C) (na:NoAttr X.K C fl) (hfl:fs.lookup fl=some (.ref L)) (hr:H r=some (.rng 0 n)) (hlen:n<64) (hL:SqL X.K H L (ds.map V.int)) (hn:ds.length=n)
 (h:∀h' tk D (zs':List Int),zs'.Perm ((List.range n).map fun i:Nat=>(i:Int))->zs'.Pairwise (fun a b=>ds.getD a.toNat 0≤ds.getD b.toNat 0)->H D=none->Inv X pins σ (_c H D (.lst (zs'.map V.int))) { s with heap:=h',toks:=tk }->Q (.ref D) { s with heap:=h',toks:=tk }) :
  wpAny (model X.prog X.w) A (call (.builtin "sorted") [.ref r] [(Str.ofString "key",.ref f)]) Q E s:=by
 obtain ⟨m,F⟩:=I.fr;obtain ⟨ws,rw',plL,hzL⟩:=I.list hL;have hsO:IntsAre ws ds:=_pr rw';obtain ⟨tr,ur,vr,hrg⟩:=(show ObjOk X.prog X.w H s.heap r (.rng 0 n) from I.hok r _ hr);obtain ⟨mA,O,rA,_,_,hdx⟩:=J1 I.hok ea;obtain ⟨uL,huL,ruL⟩:=RelO.some_of (v:=.ref L) (o:=mA fl) (by rw [←hfl];exact rA fl);cases (show uL=Value.ref L from ruL)
 have LneL:L≠X.env.locals:=fun z=>by
  obtain ⟨oo,n,e1,_,_,e4⟩:=plL;obtain ⟨o2,es,ep,e5,e6,_⟩:=F.ns;rw [z,e5] at e1;cases e1;rw [e6] at e4;cases e4
 have keep3:∀{h:Heap} {own:List (Addr×Obj)},Fr X.base X.env.locals h m->News X.base X.env.locals h (JI X.base s.heap X.env.locals++own)->∀b ob,b≠X.env.locals->s.heap.get? b=some ob->h.get? b=some ob:=fun {h own} F' N' b ob hb eb=>by
  cases r:X.base.get? b with
  |some u =>
   have:=I.bk b u r;rw [eb] at this;cases this;exact F'.keep b _ r
  |none=>exact (N' (b,ob) (QY _ (_gc hb r eb))).1
 have neL:∀b u,H b=some u->b≠X.env.locals:=fun b u e1=>_t e1 I.free;refine _qd (kz:=((List.range n).map fun i:Nat=>(i:Int)).map fun z=>ds.getD z.toNat 0) (b:=false) (f:=.ref f) (PV:=fun vs=>IntsAre vs ((List.range n).map fun i:Nat=>(i:Int))) F _k6 (fun vs hv=>by rw [hv.length,Qc]) (by rw [Qc,Qc,QX];exact hlen) (fun A' Q' E' hA hq=>_mA (hA.trans hh) hrg (by omega) fun h1 tk vs hv k1 z1=>hq vs h1 tk hv k1 z1) (ksk_s1 _ _) (fun x=>ksk_l1 _ _) (fun x=>ksk_t1 _ _) (fun us hs j v k hv hk h1 tk own F' N'=>?_) fun us D h' tk out cE hs F' N' hD ko=>?_
 ·have jl:j<n:=by
   have:=(Qz.mp hk).1;simpa using this
  obtain ⟨t,ht⟩:=VM hs j (j:Int) (by rw [Qp,Ng jl];rfl);rw [hv] at ht;cases ht;rw [Qp,Qp,Ng jl] at hk;cases hk;have dj:ds[j]?=some (ds.getD j 0):=by rw [QQ,Qt (by omega)];rfl
  obtain ⟨oc,hoc,hdc⟩:=hc;obtain ⟨c2,oc2,vs2,t2,e5,e6,e7⟩:=hcd;cases e5;obtain ⟨oo,nn,a1,a2,a3,a4⟩:=plL;have kp:=keep3 F' N';refine _pQ (K:=X.K) (A:=A.in1.in1) (s:={ s with heap:=h1,toks:=tk }) (mA:=mA) (j:=j) (d:=ds.getD j 0) ok hroom ((I.mod.nolimit).keeps F'.keep) (fun b o e=>F'.keep _ _ (I.ok.mod.kin b o e)) (kp _ _ hfL hf) ⟨_,oc2,vs2,t2,rfl,kp _ _ hc'L e6,e7⟩ ⟨oc,kp _ _ hcL hoc,hdc⟩ ⟨kp _ _ (neL _ _ ea) O.obj,?ns,O.ne⟩ cls na huL ⟨oo,nn,kp _ _ LneL a1,a2,a3,a4⟩ hsO dj (by omega) fun h2 tk2 u kk=>?_
  case ns=>exact Heap.Ns1.at O.ns fun o e=>kp _ _ (neL _ _ hdx) e
  exact ⟨h2,tk2,u,rfl,rfl,F'.kept kk,N'.grown kk⟩
 ·obtain ⟨zs',so,hp,hw⟩:=_k7 (g:=fun z=>ds.getD z.toNat 0) hs ko;have nD:=N' (D,seqObj "list" out cE) (QI ..);have N2:News X.base X.env.locals h' (JI X.base s.heap X.env.locals++[]):=fun p hp=>N' p (QD _ (by simpa using hp));have kp:=keep3 F' N2
  have noD:s.heap.get? D=none:=by
   cases r:s.heap.get? D with
   |none=>rfl
   |some ob=>exact absurd (hD (D,ob) (_gc nD.2.1 nD.2.2 r)) (QF _)
  have HD:H D=none:=by
   cases r:H D with
   |none=>rfl
   |some u =>
    obtain ⟨ob,e⟩:=(I.hok D u r).has;rw [noD] at e;cases e
  have neD:∀b u,H b=some u->b≠D:=fun b u e1=>_t e1 HD;refine h h' tk D zs' hp hw HD ?_;refine I.step (g':=s.gens) (d':=s.drawn) (ch:=[]) (fun _ z=>nomatch z) (fun b ob hL _ _ e1 _=>kp b ob hL e1) (fun b ob hL _ _ e1 _=>⟨ob.slots,kp b ob hL e1⟩) (fun b ob _ e1 n=>?_) (fun b ob _ e1=>?_) (fun b xs e1=>by rw [_d (neD b _ e1)];exact e1) (fun b ob u e1=>by rw [_d (neD b _ e1)];exact e1) (fun b ps e1=>⟨#[],by rw [_d (neD b _ e1),e1];simp⟩) (fun m2 hm2=>?_) (fun b u e1=>?_) I.bare
  ·rw [_d (fun z=>by subst z;rw [noD] at e1;cases e1)];exact n
  ·by_cases hb:b=X.env.locals
   ·obtain ⟨o2,_,_,e5,_⟩:=F'.ns;exact ⟨o2,by rw [hb];exact e5⟩
   ·exact ⟨ob,kp b ob hb e1⟩
  ·rw [hm2.eq_nsMap,←F.ns.eq_nsMap];exact F'.ns
  ·by_cases hb:b=D
   ·subst hb;rw [_f] at e1;cases e1;exact (show ObjOk X.prog X.w _ _ _ (.lst (zs'.map V.int)) from ⟨by rw [Qc,hp.length_eq,Qc,QX];exact QR (_y (by omega)),out.toList,cE,_fA so,by rw [Array.toArray_toList];exact nD.1⟩)
   ·rw [_d hb] at e1;refine (I.hok b u e1).stay (fun d v hd r=>kp d v ?_ r) (fun d r=>by rw [_d (neD d _ r)];exact r) fun d xs r=>by rw [_d (neD d _ r)];exact r
    rcases hd with rfl|hd
    ·exact neL d _ e1
    ·exact neL d _ hd
def _pq (K:W.Frag) (P:Addr) (ln co:Nat) (q:Str) (te:TE) (i:Nat) (fl:Str):TE:=fun σ H Q=>te σ H fun v H1=>∃(r:Addr) (n:Nat) (a C dx:Addr) (fs:List (Str×V)) (L:Addr) (ds:List Int),v=.ref r∧H1 r=some (.rng 0 n)∧n<64∧σ[i]?=some (some (.ref a))∧H1 a=some (.ins C dx fs)∧Cls K C∧NoAttr K C fl∧fs.lookup fl=some (.ref L)∧SqL K H1 L (ds.map V.int)∧ds.length=n∧LamH P ln co q H1 ∧
 ∀H2 D (zs':List Int),zs'.Perm ((List.range n).map fun i:Nat=>(i:Int))->zs'.Pairwise (fun a b=>ds.getD a.toNat 0≤ds.getD b.toNat 0)->SameX H1 H2->Lams P H1 H2->LamH P ln co q H2->H1 D=none->H2 D=some (.lst (zs'.map V.int))->Q (.ref D) H2
theorem _oi (K:W.Frag) (B:LamB X.base c P X.mg) (hcode:X.env.code=.ref c) (ok:LamOkD x o fl params scope p1 p2 p3 p4) (hroom:Room 0 X.A) (hcm:X.calm=true) (hg:Gl X "sorted") (hm:X.mg "sorted"=none) (he:PE X e te) (hN:X.N[i]?=some o) (hck:X.env.kindOf o=some .cell)
 (hvis:X.env.scope.names.lookup o=some .cell) (hcl:closureFor scope X.env=pure [(o,cc)]) (hcc:X.env.cells.lookup o=some cc) (hq:X.env.qual++"<lambda>"=q) (hdef:defaultsOf params X.env=([],[])) (hK:X.K=K:=by rfl)
 (hs:backTo pos (starEach [e] X.env)=[(false,eval e X.env)]:=by rfl) :
  PE X (.Call (.Name "sorted" p) [e] [⟨some "key",.Lambda params (WC x o fl p1 p2 p3 p4) scope lpos,kp⟩] pos) (_pq K P lpos.line lpos.col q te i fl):=by
 subst hK;intro pins s σ H Q I h;refine Rl (Vs I hg hm JN ?_);refine PyProof.Rows.callWith_kw ?_ (by rw [hs];rfl) (by rw [hs];rfl);rw [hs];refine Rw (_m (he pins s σ H _ I h) fun u s1 ⟨v,H1,I1,r1,q1⟩=>Gs ?_);obtain ⟨r,n,a,C,dx,fs,L,ds,ev,hr,hlen,hσ,ea,cls,na,hfl,hL,hn,lam,q2⟩:=q1;subst ev;cases (show u=Value.ref r from r1);refine PyProof.Rows.kws_cons (kla_eval hdef ?_);rw [hq];have hgl:s1.heap.Ns mainGlobals X.mg:=I1.mod.glob.keeps I1.bk;obtain ⟨bm,ob,b1,b2,b3,b4,b5,b6⟩:=B.bm;obtain ⟨oc,hP,hC⟩:=lam;have tabP:s1.heap.get? P=some (tabObj (YW lpos.line lpos.col oc)):=(I1.hok P _ hP).1
 have hgP:mainGlobals≠P:=fun z=>by
  obtain ⟨o1,es,ep,e1,hd,_⟩:=hgl;rw [z,tabP] at e1;cases e1;cases hd
 have hbP:bm≠P:=fun z=>by
  have e1:=I1.bk _ _ b3;rw [z,tabP] at e1;cases e1;cases b4
 have hbG:bm≠mainGlobals:=fun z=>by
  obtain ⟨o1,es,ep,e1,hd,_⟩:=hgl;have e2:=I1.bk _ _ b3;rw [z,e1] at e2;cases e2;rw [hd] at b6;cases b6
 have hBA:s1.heap.BuiltinsAt X.mg P:=⟨bm,ob,b1,b2,hbG,hbP,I1.bk _ _ b3,b4,b5,b6⟩
 have hcell:s1.heap.IsCell cc (some (.ref a)):=by
  obtain ⟨m,hn,hl2⟩:=I1.loc;obtain ⟨u,ru,lk⟩:=hl2 i o (.ref a) hN hσ (.inr (.inl hvis));cases (show u=Value.ref a from ru);rcases lk with ⟨z,_⟩|⟨_,c2,e2,e3⟩
  ·rw [hck] at z;cases z
  ·rw [hcc] at e2;cases e2;exact e3
 have hcL:=I1.cne o cc hcc;have Lsz:X.env.locals<s1.heap.objs.size:=I1.lt;have CH:CodeHd s1.heap c P:=B.hd.keeps I1.bk
 have fin : ∀(h3 : Heap) (tk : Nat) (H2 : Hp) (c' : Addr) (ctv : Value), Inv X pins σ H2 { s1 with heap := h3, toks := tk } → s1.heap.objs.size ≤ h3.objs.size → h3.CodeRec (.ref c') q → c' ≠ X.env.locals → h3.IsCell cc (some (.ref a)) → SameX H1 H2 → Lams P H1 H2 → LamH P lpos.line lpos.col q H2 → (∀D, H2 D=none → H1 D=none) →
   wpAny (model X.prog X.w) X.A (evalAll ((backToKw pos (keywordEach [] X.env)).map (·.2))) (fun kvs s₂=>wpAny (model X.prog X.w) X.A (call (.builtin "sorted") [.ref r] (((backToKw pos (keywordEach [⟨some "key",.Lambda params (WC x o fl p1 p2 p3 p4) scope lpos,kp⟩] X.env)).filterMap (·.1)).zip (.ref h3.objs.size::kvs))) (EP X pins σ Q) X.xe s₂) X.xe
    { s1 with heap:=h3.push (kla_obj "<lambda>" q params (WC x o fl p1 p2 p3 p4) scope [(o,cc)] ((X.mg "__name__").getD .none) c' ctv),toks:=tk }:=by
  intro h3 tk H2 c' ctv I3 hsz hrc hc' hce sx lms lm fr;refine PyProof.Rows.kws_nil ?_;have I4:=I3.kept (t':=tk) (h':=h3.push (kla_obj "<lambda>" q params (WC x o fl p1 p2 p3 p4) scope [(o,cc)] ((X.mg "__name__").getD .none) c' ctv)) fun b o e=>Ql _ e
  have ck:(h3.push (kla_obj "<lambda>" q params (WC x o fl p1 p2 p3 p4) scope [(o,cc)] ((X.mg "__name__").getD .none) c' ctv)).CodeRec (.ref c') q:=by
   obtain ⟨c2,oc2,vs2,t2,e5,e6,e7⟩:=hrc;exact ⟨c2,oc2,vs2,t2,e5,Ql _ e6,e7⟩
  have cek:(h3.push (kla_obj "<lambda>" q params (WC x o fl p1 p2 p3 p4) scope [(o,cc)] ((X.mg "__name__").getD .none) c' ctv)).IsCell cc (some (.ref a)):=by
   obtain ⟨o9,e8,e9⟩:=hce;exact ⟨o9,Ql _ e8,e9⟩
  refine _nb (f:=h3.objs.size) I4 (I1.ok.hd hcm) ok hroom.depth (Qu _ rfl) ck hcL hc' (Rv (Qq Lsz hsz)) cek (sx _ _ rfl ea) cls na hfl (sx _ _ rfl hr) hlen (sx.sql hL) hn fun h5 tk5 D zs' hp hw nD I5=>?_;exact ⟨.ref D,_,I5,rfl,q2 _ D zs' hp hw (sx.trans (_h nD).x) (lms.same (_h nD)) (lm.same (_h nD)) (fr D nD) _f⟩
 cases oc with
 |none =>
  refine kla_makeFunction (mg:=X.mg) hcl I1.ok.glob hgl hcode CH tabP True.intro rfl hgP hBA fun c' ctv h' tk hx hge hlt hrec htb=>?_;have I2:=I1.grow (t':=tk) hP hx hge hrec (by simpa [YW] using htb);refine fin h' tk _ c' ctv I2 (Qk hge (QR hlt)) hrec (Rv (Qq Lsz hge)) ?_ ?_ (Lams.of ⟨none,hP,hC⟩ fun b u n1 e1=>?_) ?_ ?_
  ·obtain ⟨o9,e8,e9⟩:=hcell;exact ⟨o9,hx _ _ (fun z=>by rw [z,tabP] at e8;cases e8;cases e9) e8,e9⟩
  ·intro b u hu e1;have n1:b≠P:=fun z=>by subst z;rw [hP] at e1;cases e1;cases hu
   rw [_d (fun z=>by subst z;exact absurd (Qq (I1.hok.lt e1) hge) (QF _)),_d n1];exact e1
  ·rw [_d (fun z=>by subst z;exact absurd (Qq (I1.hok.lt e1) hge) (QF _)),_d n1];exact e1
  ·refine ⟨some c',?_,fun c2 e2=>?_⟩
   ·rw [_d (fun z=>by subst z;exact absurd (Qq (I1.hok.lt hP) hge) (QF _)),_f]
   ·cases e2;exact _f
  ·intro D hD;cases r:H1 D with
   |none=>rfl
   |some u =>
    exfalso;have n2:D≠c':=fun z=>by subst z;exact absurd (Qq (I1.hok.lt r) hge) (QF _)
    rw [_d n2] at hD;by_cases n1:D=P
    ·subst n1;rw [_f] at hD;cases hD
    ·rw [_d n1,r] at hD;cases hD
 |some c' =>
  have hc':=hC c' rfl;have hrec:s1.heap.CodeRec (.ref c') q:=(I1.hok c' _ hc').1;refine kla_makeFunctionHit (mg:=X.mg) hcl I1.ok.glob hgl hcode CH tabP (by simp [YW,TriplesOk,rawInt]) (cv:=.ref c') (by simp [YW,codeAmong,rawInt]) hBA fun ctv h' tk hk hsz=>?_;have I2:=I1.kept (t':=tk) hk;refine fin h' tk H1 c' ctv I2 hsz ?_ (_t hc' I1.free) ?_ (SameX.refl _) (Lams.refl _ _) ⟨some c',hP,hC⟩ fun _ z=>z
  ·obtain ⟨c2,oc2,vs2,t2,e5,e6,e7⟩:=hrec;exact ⟨c2,oc2,vs2,t2,e5,hk _ _ e6,e7⟩
  ·obtain ⟨o9,e8,e9⟩:=hcell;exact ⟨o9,hk _ _ e8,e9⟩
end
end L2
namespace L2
open PySem PySem.Spec PyProof.Rows
section
variable {X:Cx}
def _jK (K:W.Frag):R2:=fun x y H Q=>∃l b xs zs,x=.ref l∧y=.ref b∧SqL K H l xs∧SqL K H b zs∧xs.length+zs.length≤sizeLine∧∀p,H p=none->Q (.ref p) (_c H p (.lst (xs++zs)))
theorem _jM:_9 X (binaryOp .Add) (_jK X.K):=by
 intro pins s σ H x y v u Q I rx ry h;obtain ⟨l,b,xs,zs,rfl,rfl,hH,hB,hz,q⟩:=h;cases rx;cases ry;obtain ⟨its,r,pl,hl⟩:=I.list hH;obtain ⟨its2,r2,pl2,hl2⟩:=I.list hB;obtain ⟨⟨cls,dd,data,sl⟩,ho,hc,n,hd⟩:=id pl.isList;obtain ⟨⟨cls2,dd2,data2,sl2⟩,ho2,hc2,n2,hd2⟩:=id pl2.isList;simp only at hc hd hc2 hd2;subst hc hd hc2 hd2;have:=r.length;have:=r2.length;refine GU ⟨_,ho,rfl⟩ ⟨_,ho2,rfl⟩ noFill_list_add seq_list_add PySem.F.slot_list_add PySem.F.entry_list_add (PySem.F.args_list_add_2 _ _) (list_addW l b its.toArray its2.toArray n n2 dd dd2 sl sl2 (by rw [Qv,Qv];omega)) ⟨ho,ho2,?_⟩;have ea:its.toArray++its2.toArray=(its++its2).toArray:=by simp
 rw [ea];exact ⟨.ref _,_,I.lnew (t':=s.toks) (r.append r2) (by rw [Qm];omega),rfl,q _ I.fresh⟩
theorem _h0 {pins:List (Addr×Obj)} {σ:St} {H:Hp} {s:Shared} (I:Inv X pins σ H s) {d:D} {x:V} {v:Value} {A:Around} {e:Value->Bool} (he:∀d' y u,RelV y u->Is X.K H d' y->e u=YY d' d) (hx:Is X.K H d x) (rx:RelV x v) (hu:A.units+60<cLine) :
  ∀{ds:List D} {xs:List V} {us:List Value},IsL X.K H ds xs->Vals xs us->YI ds≤59->(∀u∈us,SeqAt.EqAt A s u v (e u))∧us.any e=ds.any fun d'=>YY d' d
 |[],_,_,h,r,_=>by
  cases (show _=[] from h);cases r;exact ⟨fun u hu=>(by cases hu),rfl⟩
 |d0::ds,_,_,h,r,z=>by
  obtain ⟨x0,xr,rfl,h1,h2⟩:=h;cases r with
  |cons ra rb =>
   have z1:max (XF d0) (YI ds)≤59:=z;have ih:=_h0 I he hx rx hu h2 rb (by omega);refine ⟨fun u m=>?_,?_⟩
   ·rcases Qj.mp m with rfl|m
    ·rw [he _ _ _ ra h1];exact eqD I _ _ h1 hx ra rx (by omega)
    ·exact ih.1 u m
   ·rw [Ra,Ra,he _ _ _ ra h1,ih.2]
def _jk (K:W.Frag):R2:=fun x y H Q=>∃d ds p xs,y=.ref p∧SqL K H p xs∧Is K H d x∧IsL K H ds xs∧YI ds≤59∧Q (.bl (!ds.any fun d'=>YY d' d)) H
open Classical in
theorem _hE (hu:X.A.units+64<cLine):_9 X (compareOp .NotIn) (_jk X.K):=by
 intro pins s σ H x y v u Q I rx ry h;obtain ⟨d,ds,p,xs,rfl,hp,hx,hl,z,q⟩:=h;cases ry;obtain ⟨its,r,pl,_⟩:=I.list hp
 have he:∀d' y u,RelV y u->Is X.K H d' y->(fun u=>decide (∃d' y,RelV y u∧Is X.K H d' y∧YY d' d=true)) u=YY d' d:=fun d' y u r i=>by
  by_cases c:YY d' d=true
  ·rw [c];exact Qx ⟨d',y,r,i,c⟩
  ·rw [Rm.mpr c];refine Qs ?_;rintro ⟨d2,y2,r2,i2,c2⟩;cases r.inj r2;rw [_hO I d2 d' i2 i] at c2;exact c c2
 obtain ⟨m,e⟩:=_h0 (A:=X.A.in1) I he hx rx (by show X.A.units+1+60<cLine;omega) hl r z;refine SeqAt.notIn_listAt _ pl.isList (fun w hw=>m w (by simpa using hw)) ⟨.bl _,H,I,rfl,?_⟩;rw [List.any_toArray,e];exact q
end
end L2
namespace L2
open PySem PySem.Spec PyProof.Rows
section
variable {X:Cx}
theorem _f6:∀{xs:List V} {us:List Value},Vals xs us->∀(i:Nat) (u:Value),us[i]?=some u->∃x,xs[i]?=some x∧RelV x u
 |_,_,.nil,i,u,e=>by cases e
 |_,_,.cons r t,0,u,e=>⟨_,rfl,by rw [←show _=u by simpa using e];exact r⟩
 |_,_,.cons r t,i+1,u,e=>by
  obtain ⟨x,h,q⟩:=_f6 t i u (by simpa using e);exact ⟨x,by simpa using h,q⟩
theorem Jc (K:W.Frag) (hK:X.K=K:=by rfl):MtR X "list.index" (fun x xs H Q=>∃(l:Addr) (zs:List Str) (y:Str) (j:Nat),x=.ref l∧xs=[.str y]∧SqL K H l (zs.map V.str)∧zs[j]?=some y∧(∀m,m<j->zs[m]?≠some y)∧Q (.int j) H):=by
 subst hK;intro pins s σ H x xs v us Q I rx r h;obtain ⟨l,zs,y,j,rfl,rfl,hq,hj,hn,q⟩:=h;obtain rfl:v=Value.ref l:=rx;obtain ⟨u,rfl,t,rfl⟩:=Y8 r;obtain ⟨its,rv,pl,hz⟩:=I.list hq;obtain ⟨⟨cls,dd,data,sl⟩,ho,hc,n,hd⟩:=id pl.isList;simp only at hc hd;subst hc hd;have jl:=(Qz.mp hj).1;have el:=rv.length;rw [Qc] at el hz;rw [RW] at hz;have fs:(zs.map V.str).all Wk=true:=by rw [Ry];intro w hw;obtain ⟨z,_,rfl⟩:=Qg.mp hw;rfl
 have at':∀(m:Nat) (hm:m<its.length),∃z,zs[m]?=some z∧Xa (.str y) its[m]=decide (z=y):=fun m hm=>by
  obtain ⟨x,hx,rx⟩:=_f6 rv m _ (Qt hm);rw [Qp] at hx;obtain ⟨z,hz,rfl⟩:=QC.mp hx;refine ⟨z,hz,?_⟩;rw [_fd rx rfl];show (z==y)=_;rw [Ri];simp
 refine call_meets Gk ⟨_,ho,rfl⟩ PySem.F.entry_list_index (PySem.F.args_list_index_2 _ _) (SeqAt.list_indexAt l its.toArray n dd sl (.str y t) (Xa (.str y)) j (by simp;omega) (by omega) ?_ ?_) ⟨ho,fun w hw=>Uz (x:=.str y) ⟨t,rfl⟩ rfl rv fs w (by simpa using hw),⟨.int _,H,I.tok _,⟨_,rfl⟩,q⟩⟩
 ·obtain ⟨z,hz,e⟩:=at' j (by omega);rw [hj] at hz;cases hz;simpa using e
 ·intro m hm lt;obtain ⟨z,hz,e⟩:=at' m (by omega);have:z≠y:=fun z'=>hn m lt (by rw [hz,z']);simpa [this] using e
end
end L2
namespace L2
open PySem
def _mM:TS:=fun _ _ _=>False
theorem V9 {X:Cx} {st:Stmt}:PS X st _mM:=fun _ _ _ _ _ _ h=>h.elim
end L2
namespace L2
open PySem PySem.Spec PyProof.Rows
variable {ps:List Str} {st:Stmt} {K:W.Frag}
section
variable {X:Cx} {P:Program} {w:World} {k n:Nat} {C:Addr} {x m q:Str} {sp:Sp} {p pos apos:Pos} {e o:Expr} {es:List Expr} {ta:TE} {t:TA}
theorem _L {d:Df X.K X.mg x st ps} (F:FnOk X.prog X.w X.K X.mg X.base (Xb P w) k d.a (Y6 X.K d.a) ps sp) (hr:Room n X.A) (ha:PA X (e::es) t) (hn:k≤n:=by decide) (hg:Gl X x:=by rfl)
 (hdb:(x==("__debug__": Str))=false:=by decide) (he:starEach (e::es) X.env=(false,eval e X.env)::starEach es X.env:=by rfl) (hpl:(backTo pos (starEach es X.env)).any (·.1)=false:=by rfl) :
  PE X (.Call (.Name x p) (e::es) [] pos) (_gK sp [] (fun _=>E0) t):=_qG F (hr.mono hn) hg d.m d.F.kp d.b .nil VG ha hdb he hpl
theorem _U {pl:Sem Bool} {d:Dm X.K C m q st ps} (he:PE X o ta) (c:Cls X.K C) (F:FnOk X.prog X.w X.K X.mg X.base (Xb P w) k d.a (Y6 X.K d.a) ps sp) (hr:Room n X.A) (ha:PA X (e::es) t) (hn:k≤n:=by decide)
 (hst:starEach (e::es) X.env=(false,eval e X.env)::starEach es X.env:=by rfl) (hpl:(backTo pos (starEach es X.env)).any (·.1)=false:=by rfl)
 (ht:eval (.Call (.Attribute o m apos) (e::es) [] pos) X.env=(do
 let ov ←eval o X.env
 standAt apos.atName
 let (f,first) ←holding [ov] (getMethod ov m pl)
 callWith pos f first (backTo pos (starEach (e::es) X.env)) (backToKw pos (keywordEach [] X.env))):=by rfl) :
  PE X (.Call (.Attribute o m apos) (e::es) [] pos) (_e7 C m sp [] (fun _=>E0) ta t):=_jb he c d.me F (hr.mono hn) d.b .nil VG ha hst hpl ht
end
theorem Fun.okY {P:Program} {w:World} {mg:Str->Option Value} {base:Heap} {CX:Yn} {x qual:Str} {f:Addr} {fd:FuncData} {N:List Str} {k:Nat} {sp:Sp} (F:Fun K x qual st f fd) (S:FnScope N ps (_r st))
 (hbody:∀(cdv:Value) (A:Around) (outer:List Env) (s:Shared) (H:Hp) (vs:List V) (Q:VK) (E:XK),Room k (A.deeper (envOfC qual (_r st) s.heap.objs.size f cdv))->sp vs H Q E →
 ∃t,PSs (Vg CX P w K mg base N qual (_r st) f cdv A outer s H E) (Y0 st) t∧t { nx:=fun _ H'=>Q .non H',rt:=Q } (start N vs) H):FnOk P w K mg base CX (k+1) f fd ps (fun vs H Q E=>vs.length=ps.length∧sp vs H Q E) :=
 F.okX S (fun _ _ _ _ h=>h.1) fun cdv A outer s H vs Q E hr h=>hbody cdv A outer s H vs Q E hr h.2
abbrev OD (P:Program) (w:World) (base:Heap) {mg:Str->Option Value} {x:Str} (k:Nat) (d:Df K mg x st ps) (sp:Sp):Prop:=FnOk P w K mg base (Xb P w) k d.a (Y6 K d.a) ps sp
abbrev OM (P:Program) (w:World) (base:Heap) (mg:Str->Option Value) {C:Addr} {x q:Str} (k:Nat) (d:Dm K C x q st ps) (sp:Sp):Prop:=FnOk P w K mg base (Xb P w) k d.a (Y6 K d.a) ps sp
end L2
set_option exponentiation.threshold 3000
seal L2.PSs L2.PS L2.PE L2.PT L2.PW L2.PA L2.PG L2.PI L2.PO
namespace K25
open PySem L2
variable {C U a b bi dl dx li pl sl su ti ul:Addr} {B B':Bk} {st:Bool} {e:Ent} {o u:HO} {base:Heap} {H H':Hp} {d:Int} {qs:List ((Str×Int×Int)×Addr)} {ks:List (Ent×Addr)} {l:List (Int×Str)} {rs:List (Nat×List Str×Addr)} {ps:List (Nat×Nat)} {S:List Addr} {es xs:List Ent} {ord:List Nat} {L pool zs:List Str} {vs ys:List V} {i j z:Nat} {p:Nat×Nat} {P:Program} {A:Prop} {σ:St} {f m n n' s y:Str} {R:Str->Nat->Nat->Prop} {c:Str×Str} {F:Str×Str->List Str} {v:V} {Q:VK} {K:W.Frag}
noncomputable def _I (i:Nat):Stmt:=PySem.Challenge.pw_heirbook_k25_whole_the_freest_book.main.body.getD i (.Pass ⟨0,0,0,0⟩)
noncomputable abbrev _eI:Stmt:=_I 10
noncomputable abbrev _bE:Stmt:=_I 13
noncomputable abbrev _b2:Stmt:=_I 14
noncomputable abbrev _cA:Stmt:=_I 15
noncomputable abbrev _fh:Stmt:=_I 16
noncomputable abbrev _c7:Stmt:=_I 17
noncomputable abbrev _cS:Stmt:=_I 19
noncomputable abbrev _eW:Stmt:=_I 20
noncomputable abbrev _e6:Stmt:=_I 21
noncomputable abbrev _d2:Stmt:=_I 22
noncomputable abbrev _b7:Stmt:=_I 23
noncomputable abbrev _fx:Stmt:=_I 24
noncomputable abbrev _fz:Stmt:=_I 25
noncomputable abbrev _es:Stmt:=_I 29
noncomputable abbrev _bW:Stmt:=_I 34
noncomputable abbrev _fB:Stmt:=YV (_I 35) 0
noncomputable abbrev _cX:Stmt:=YV (_I 35) 8
noncomputable abbrev _em:Stmt:=YV (_I 35) 11
noncomputable abbrev _eX:Stmt:=YV (_I 35) 12
noncomputable abbrev _dH:Stmt:=YV (_I 35) 4
noncomputable abbrev _cF:Stmt:=YV (_I 35) 3
noncomputable abbrev _ea:Stmt:=YV (_I 35) 2
noncomputable abbrev _eE:Stmt:=YV (_I 35) 7
noncomputable abbrev _fo:Stmt:=YV (_I 35) 5
noncomputable abbrev _b6:Stmt:=YV (_I 35) 16
noncomputable abbrev Wv:Stmt:=YV (_I 35) 14
noncomputable abbrev _bJ:Stmt:=YV (_I 35) 6
noncomputable abbrev _eL:Stmt:=YV (_I 35) 1
noncomputable abbrev _cz:Stmt:=YV (_I 35) 10
noncomputable abbrev _cM:Stmt:=_I 30
noncomputable abbrev _dm:Stmt:=YV (_I 39) 0
noncomputable abbrev _bO:Stmt:=YV (_I 39) 4
noncomputable abbrev _cH:Stmt:=YV (_I 39) 3
noncomputable abbrev _eM:Stmt:=YV (_I 39) 2
noncomputable abbrev _e4:Stmt:=YV (_I 39) 1
noncomputable abbrev _cd:Stmt:=_I 40
noncomputable abbrev _bT:Stmt:=_I 41
noncomputable abbrev _e3:Stmt:=_I 42
noncomputable abbrev Uu:Stmt:=_I 43
noncomputable abbrev _cp:Stmt:=_I 44
noncomputable abbrev _eG:Stmt:=_I 46
noncomputable abbrev _ff:Stmt:=_I 47
noncomputable abbrev UP:Stmt:=_I 48
noncomputable abbrev _dJ:Stmt:=_I 50
noncomputable abbrev _bZ:Stmt:=_I 51
noncomputable abbrev _df:Stmt:=_I 53
noncomputable abbrev _do:Stmt:=_I 54
noncomputable abbrev _e0:Stmt:=_I 55
noncomputable abbrev _db:Stmt:=_I 56
noncomputable abbrev _ee:Stmt:=_I 57
noncomputable abbrev _du:Stmt:=_I 58
noncomputable abbrev _de:Stmt:=_I 59
noncomputable abbrev _dY:Stmt:=_I 60
noncomputable abbrev _dB:Stmt:=_I 61
set_option genInjectivity false
set_option genSizeOf false
structure Tx (K:W.Frag) (w:World) (mg:Str->Option Value) where
 cB:Addr
 cT:Addr
 _dt:Df K mg "is_whole" _eI ["thing"]
 Y4:Df K mg "is_name" _bE ["thing"]
 XA:Df K mg "is_day" _b2 ["thing"]
 Vf:Df K mg "is_amount" _cA ["thing"]
 WO:Df K mg "is_sort" _fh ["thing"]
 Wt:Df K mg "is_parent" _c7 ["thing"]
 _cQ:Df K mg "has_form" _cS ["parts","checks"]
 _co:Df K mg "is_entry" _eW ["thing"]
 _ei:Df K mg "is_tie" _e6 ["entry"]
 _ft:Df K mg "named_in" _d2 ["entry"]
 _cD:Df K mg "day_of" _b7 ["entry"]
 _fD:Df K mg "as_told" _fx ["entry"]
 _fa:Df K mg "key_of" _fz ["entry"]
 _c1:Df K mg "is_letter" _es ["thing"]
 _el:Df K mg "pair_of" _bW ["one","other"]
 _ah:Dm K cB "__init__" "Book.__init__" _fB ["self"]
 _eK:Dm K cB "birth_of" "Book.birth_of" _cX ["self","name"]
 _fy:Dm K cB "sort_of" "Book.sort_of" _em ["self","name"]
 _cO:Dm K cB "born_on" "Book.born_on" _eX ["self","name"]
 _cY:Dm K cB "parent_fits" "Book.parent_fits" _dH ["self","name","sort","day"]
 _dQ:Dm K cB "fits" "Book.fits" _cF ["self","entry"]
 _fw:Dm K cB "refuse" "Book.refuse" _ea ["self","entry"]
 _eY:Dm K cB "link" "Book.link" _eE ["self","letter","begin","end"]
 _b1:Dm K cB "note_birth" "Book.note_birth" _fo ["self","entry"]
 _dG:Dm K cB "step" "Book.step" _b6 ["self","letter","name"]
 a_Book_stands:Addr
 fd_Book_stands:FuncData
 dt_Book_stands:Addr
 F_Book_stands:FunD K "stands" "Book.stands" Wv a_Book_stands fd_Book_stands (.ref dt_Book_stands)
 b_Book_stands:Binds K fd_Book_stands ["self","one","other","day"] [.none]
 _dX:Dm K cB "note_tie" "Book.note_tie" _bJ ["self","entry"]
 _dp:Dm K cB "put" "Book.put" _eL ["self","entry"]
 Ug:Dm K cB "people" "Book.people" _cz ["self"]
 _eg:Df K mg "is_test" _cM ["thing"]
 J8:Dm K cT "__init__" "Tree.__init__" _dm ["self"]
 _en:Dm K cT "ask" "Tree.ask" _bO ["self","number","sort"]
 _eH:Dm K cT "grow" "Tree.grow" _cH ["self","later"]
 _cU:Dm K cT "go_up" "Tree.go_up" _eM ["self","letter"]
 _ew:Dm K cT "go" "Tree.go" _e4 ["self","step"]
 _dE:Df K mg "name_of" _cd ["number"]
 _cg:Df K mg "parent_name" _bT ["tree","letter","number"]
 _dK:Df K mg "birth" _e3 ["tree","number"]
 _bi:Df K mg "book_of_tree" Uu ["tree"]
 _bM:Df K mg "book_of" _cp ["way"]
 UE:Df K mg "led_by_step" _eG ["book","step","name"]
 UM:Df K mg "layers_of" _ff ["one","steps","lead"]
 _bt:Df K mg "reach" UP ["book","way","name"]
 _e2:Df K mg "leads_there" _dJ ["told","way"]
 _dN:Df K mg "within" _bZ ["one","other"]
 _fj:Df K mg "_law_step" _df ["_law_land_here","_law_step_here","_law_one"]
 _bS:Df K mg "_law_reach" _do ["_law_land_here","_law_way","_law_one"]
 _ce:Df K mg "_law_land_of" _e0 ["_law_book"]
 _cs:Df K mg "_law_land" _db ["_law_cells","_law_ties"]
 _fi:Df K mg "_law_drawn" _ee ["_law_land_here","_law_cells","_law_one"]
 _cx:Df K mg "_law_nearest" _du ["_law_land_here","_law_one","_law_other"]
 _cZ:Df K mg "_law_turned" _de ["_law_way"]
 _dd:Df K mg "_law_in_book" _dY ["_law_way","_law_cells"]
 UY:Df K mg "law" _dB ["_law_script"]
 mB:mg "Book"=some (.ref cB)
 lB_:Cls K cB
 kB:Mk K cB _ah.a
 nBkept:NoAttr K cB "kept"
 nBbirths:NoAttr K cB "births"
 nBlinks:NoAttr K cB "links"
 nBties:NoAttr K cB "ties"
 nBsums:NoAttr K cB "sums"
 me_Book_stands:Meth K cB "stands" a_Book_stands
 mT:mg "Tree"=some (.ref cT)
 lT:Cls K cT
 kT_:Mk K cT J8.a
 nTdays:NoAttr K cT "days"
 nTsorts:NoAttr K cT "sorts"
 nTparents:NoAttr K cT "parents"
 nTtakings:NoAttr K cT "takings"
 nTunions:NoAttr K cT "unions"
 nTclash:NoAttr K cT "clash"
 nThere:NoAttr K cT "here"
 n_abs:mg "abs"=none
 n_all:mg "all"=none
 n_bool:mg "bool"=none
 n_int:mg "int"=none
 n_isinstance:mg "isinstance"=none
 n_len:mg "len"=none
 n_list:mg "list"=none
 n_max:mg "max"=none
 n_min:mg "min"=none
 n_range:mg "range"=none
 n_reversed:mg "reversed"=none
 n_sorted:mg "sorted"=none
 n_str:mg "str"=none
 n_sum:mg "sum"=none
 n_tuple:mg "tuple"=none
 n_zip:mg "zip"=none
 kii':W.kitOne K (.type "int") (.type "int")=some true
 kis':W.kitOne K (.type "int") (.type "str")=some false
 kit':W.kitOne K (.type "int") (.type "tuple")=some false
 kib':W.kitOne K (.type "int") (.type "bool")=some false
 ksi':W.kitOne K (.type "str") (.type "int")=some false
 kss':W.kitOne K (.type "str") (.type "str")=some true
 kst':W.kitOne K (.type "str") (.type "tuple")=some false
 kbi':W.kitOne K (.type "bool") (.type "int")=some true
 kbs':W.kitOne K (.type "bool") (.type "str")=some false
 kbt':W.kitOne K (.type "bool") (.type "tuple")=some false
 kbb':W.kitOne K (.type "bool") (.type "bool")=some true
 kni':W.kitOne K (.type "NoneType") (.type "int")=some false
 kns':W.kitOne K (.type "NoneType") (.type "str")=some false
 knt':W.kitOne K (.type "NoneType") (.type "tuple")=some false
 kti':W.kitOne K (.type "tuple") (.type "int")=some false
 kts':W.kitOne K (.type "tuple") (.type "str")=some false
 ktt':W.kitOne K (.type "tuple") (.type "tuple")=some true
 kli':W.kitOne K (.type "list") (.type "int")=some false
 kls':W.kitOne K (.type "list") (.type "str")=some false
 klt':W.kitOne K (.type "list") (.type "tuple")=some false
 kdi':W.kitOne K (.type "dict") (.type "int")=some false
 kds':W.kitOne K (.type "dict") (.type "str")=some false
 kdt':W.kitOne K (.type "dict") (.type "tuple")=some false
 kl_list:W.kitOne K (.type "list") (.type "list")=some true
 aF:Addr
 m_FORMS:mg "FORMS"=some (.ref aF)
 tkL:Tok
 m_LETTERS:mg "LETTERS"=some (.str "abcdefghijklmnopqrstuvwxyz" tkL)
 p0:Addr
 p1:Addr
 p2:Addr
 p3:Addr
 p4:Addr
 p5:Addr
 g0:Addr
 g1:Addr
 g2:Addr
 g3:Addr
 g4:Addr
 g5:Addr
 sF:∀H,SqT K H aF [.ref p0,.ref p1,.ref p2,.ref p3,.ref p4,.ref p5]
 sp0:∀H,SqT K H p0 [.str "born",.ref g0]
 sp1:∀H,SqT K H p1 [.str "taken",.ref g1]
 sp2:∀H,SqT K H p2 [.str "union",.ref g2]
 sp3:∀H,SqT K H p3 [.str "parted",.ref g3]
 sp4:∀H,SqT K H p4 [.str "dead",.ref g4]
 sp5:∀H,SqT K H p5 [.str "given",.ref g5]
 sg0:∀H,SqT K H g0 [.ref Y4.a,.ref WO.a,.ref XA.a,.ref Wt.a,.ref Wt.a]
 sg1:∀H,SqT K H g1 [.ref Y4.a,.ref Y4.a,.ref XA.a]
 sg2:∀H,SqT K H g2 [.ref Y4.a,.ref Y4.a,.ref XA.a]
 sg3:∀H,SqT K H g3 [.ref Y4.a,.ref Y4.a,.ref XA.a]
 sg4:∀H,SqT K H g4 [.ref Y4.a,.ref XA.a]
 sg5:∀H,SqT K H g5 [.ref Y4.a,.ref Y4.a,.ref Vf.a,.ref XA.a]
 a_STEP_LETTERS:Addr
 m_STEP_LETTERS:mg "STEP_LETTERS"=some (.ref a_STEP_LETTERS)
 _ip:∀H,SqT K H a_STEP_LETTERS [.str "F",.str "M",.str "T",.str "f",.str "m",.str "t",.str "S"]
 a_TESTS:Addr
 m_TESTS:mg "TESTS"=some (.ref a_TESTS)
 _hx:∀H,SqT K H a_TESTS [.str "he",.str "she"]
 t_MOST_ENTRIES:Tok
 m_MOST_ENTRIES:mg "MOST_ENTRIES"=some (.int 400 t_MOST_ENTRIES)
 t_MOST_PEOPLE:Tok
 m_MOST_PEOPLE:mg "MOST_PEOPLE"=some (.int 60 t_MOST_PEOPLE)
 cc:Addr
 tb:Addr
 hcc:_ca K _bt.a cc
 cc2:Addr
 tb2:Addr
 hcc2:_ca K _bi.a cc2
 ttb:tb2≠tb
 a_SORT_OF_PARENT:Addr
 m_SORT_OF_PARENT:mg "SORT_OF_PARENT"=some (.ref a_SORT_OF_PARENT)
 kd_SORT_OF_PARENT:KDict K w a_SORT_OF_PARENT [(.inr "F",.str "he"),(.inr "M",.str "she")]
 a_LETTER_UP:Addr
 m_LETTER_UP:mg "LETTER_UP"=some (.ref a_LETTER_UP)
 kd_LETTER_UP:KDict K w a_LETTER_UP [(.inr "f",.str "F"),(.inr "m",.str "M")]
inductive Vk where
 |int (i:Int)|str (x:Str)|bl|non|tup|lst|dct
noncomputable def Vk.ty:Vk->Value
 |.int _=>.type "int"
 |.str _=>.type "str"
 |.bl=>.type "bool"
 |.non=>.type "NoneType"
 |.tup=>.type "tuple"
 |.lst=>.type "list"
 |.dct=>.type "dict"
noncomputable def Vk.isI:Vk->Bool
 |.int _=>true
 |_=>false
noncomputable def Vk.isB:Vk->Bool
 |.bl=>true
 |_=>false
noncomputable def Vk.isS:Vk->Bool
 |.str _=>true
 |_=>false
noncomputable def Vk.isT:Vk->Bool
 |.tup=>true
 |_=>false
def Vw (K:W.Frag) (H:Hp) (v:V):Vk->Prop
 |.int i=>v=.int i
 |.str x=>v=.str x∧x.length≤100
 |k=>Kd K H v k.ty
section
variable {t:Vk}
theorem Vw.kd (h:Vw K H v t):Kd K H v t.ty:=by
 cases t with
 |int i=>cases (show v=.int i from h);exact .of (.int i)
 |str x=>cases (show v=.str x from h.1);exact .of (.str x)
 |_=>exact h
theorem Vw.mono (h:Vw K H v t) (e:Same H H'):Vw K H' v t:=by
 cases t with
 |int i=>exact h
 |str x=>exact h
 |_=>exact e.kd h
end
def Vws (K:W.Frag) (H:Hp):List V->List Vk->Prop
 |[],[]=>True
 |x::xs,t::ts=>Vw K H x t∧Vws K H xs ts
 |_,_=>False
theorem Vws.length:∀{xs:List V} {ts:List Vk},Vws K H xs ts->xs.length=ts.length
 |[],[],_=>rfl
 |x::xs,t::ts,h=>by rw [QJ,QJ,Vws.length h.2]
theorem Vws.mono (e:Same H H'):∀{xs:List V} {ts:List Vk},Vws K H xs ts->Vws K H' xs ts
 |[],[],_=>True.intro
 |x::xs,t::ts,h=>⟨h.1.mono e,Vws.mono e h.2⟩
theorem Vws.get:∀{xs:List V} {ts:List Vk} {i:Nat} {t:Vk},Vws K H xs ts->ts[i]?=some t->∃x,xs[i]?=some x∧Vw K H x t
 |[],[],_,_,_,e=>by simp at e
 |x::xs,t::ts,0,t',h,e=>by
  cases (show some t=some t' by simpa using e);exact ⟨x,rfl,h.1⟩
 |x::xs,t::ts,i+1,t',h,e=>by
  obtain ⟨y,e1,e2⟩:=Vws.get (i:=i) h.2 (by simpa using e);exact ⟨y,by simpa using e1,e2⟩
def Tv (K:W.Frag) (H:Hp) (v:V) (ts:List Vk):Prop:=∃a xs,v=.ref a∧SqT K H a xs∧Vws K H xs ts
noncomputable abbrev _bL:Str:="abcdefghijklmnopqrstuvwxyz"
noncomputable def W0 (c:Nat):Bool:=!(Builtin.Str.occurrences _bL ⟨#[c]⟩ 0 _bL.length 1).isEmpty
noncomputable def WR:Vk->Bool
 |.str x=>decide (1≤x.length)&&decide (x.length≤8)&&x.cps.toList.all W0
 |_=>false
noncomputable def _d4:Vk->Bool
 |.int i=>decide ((if i<0 then -i else i)≤10 ^ 18)
 |_=>false
noncomputable def _bU:Vk->Bool
 |.int i=>decide (1≤i)&&decide (i≤10 ^ 18)
 |_=>false
noncomputable def Ua:Vk->Bool
 |.str x=>decide (x="he")||decide (x="she")||decide (x="")
 |_=>false
noncomputable def JU (t:Vk):Bool:=WR t||match t with
 |.str x=>decide (x="")
 |_=>false
inductive Chk where
 |name|sort|day|amount|parent
noncomputable def UD:Chk->Vk->Bool
 |.name=>WR
 |.sort=>Ua
 |.day=>_d4
 |.amount=>_bU
 |.parent=>JU
noncomputable def WE:List (Str×List Chk):=[("born",[.name,.sort,.day,.parent,.parent]),("taken",[.name,.name,.day]),("union",[.name,.name,.day]),("parted",[.name,.name,.day]),("dead",[.name,.day]),("given",[.name,.name,.amount,.day])]
noncomputable def VE (w:Str):Option (List Chk):=(WE.find? fun p=>decide (w=p.1)).map (·.2)
noncomputable def _Q:List Chk->List Vk->List Bool
 |c::cs,t::ts=>UD c t::_Q cs ts
 |_,_=>[]
noncomputable def Wb (cs:List Chk) (ts:List Vk):Bool:=decide (ts.length=cs.length)&&(_Q cs ts).all id
noncomputable def V5:List Vk->Bool
 |.str w::ts=>((VE w).map fun cs=>Wb cs ts).getD false
 |_=>false
theorem _aI (w:Str) (ts:List Vk):V5 (.str w::ts)=((VE w).map fun cs=>Wb cs ts).getD false:=rfl
structure Nm (x:Str):Prop where
 lo:1≤x.length
 hi:x.length≤8
 all:x.cps.toList.all W0=true
theorem Nm.ok {x:Str} (h:Nm x):WR (.str x)=true:=by
 show (decide (1≤x.length)&&decide (x.length≤8)&&x.cps.toList.all W0)=true;rw [Qx h.lo,Qx h.hi,h.all];rfl
section
variable {mg:Str->Option Value}
noncomputable def Tx.ad (T:Tx K w mg):Chk->Addr
 |.name=>T.Y4.a
 |.sort=>T.WO.a
 |.day=>T.XA.a
 |.amount=>T.Vf.a
 |.parent=>T.Wt.a
theorem kI (T:Tx K w mg):∀t:Vk,W.kitOne K t.ty (.type "int")=some (t.isI||t.isB)
 |.int _=>T.kii'
 |.str _=>T.ksi'
 |.bl=>T.kbi'
 |.non=>T.kni'
 |.tup=>T.kti'
 |.lst=>T.kli'
 |.dct=>T.kdi'
theorem kS (T:Tx K w mg):∀t:Vk,W.kitOne K t.ty (.type "str")=some t.isS
 |.int _=>T.kis'
 |.str _=>T.kss'
 |.bl=>T.kbs'
 |.non=>T.kns'
 |.tup=>T.kts'
 |.lst=>T.kls'
 |.dct=>T.kds'
theorem kT (T:Tx K w mg):∀t:Vk,W.kitOne K t.ty (.type "tuple")=some t.isT
 |.int _=>T.kit'
 |.str _=>T.kst'
 |.bl=>T.kbt'
 |.non=>T.knt'
 |.tup=>T.ktt'
 |.lst=>T.klt'
 |.dct=>T.kdt'
end
theorem _hj {X:Cx} {N:List Str} {sc:Scope} {L:List (Str×NameKind)} {ns:St} (hk:sc.kind=.function) (hn:∀x∈sc.names,x.2=.local->sc.names.lookup x.1=some .local) (hc:∀y∈sc.names,y.2≠.cell)
 (clos:closureFor sc X.env=pure []) (e:(relabel sc X.env).names=L) (hL:∀y∈L,y.2≠.cell∧y.2≠.free) (hl:ns.length=N.length) (hs:∀o∈ns,o=none):CompSc X N sc [] (fun _=>ns):=by
 have no:∀(x:Str),¬((relabel sc X.env).names.lookup x=some .cell∨(relabel sc X.env).names.lookup x=some .free):=fun x h=>by
  rw [e] at h
  have lk:∀(M:List (Str×NameKind)) (k:NameKind),M.lookup x=some k->∃y∈M,y.2=k:=fun M k=>by
   induction M with
   |nil=>intro h;cases h
   |cons p r ih =>
    intro h;rw [Nb] at h;split at h
    ·exact ⟨p,QI ..,Qn h⟩
    ·obtain ⟨y,hy,q⟩:=ih h;exact ⟨y,QD _ hy,q⟩
  rcases h with h|h
  ·obtain ⟨y,hy,q⟩:=lk _ _ h;exact (hL y hy).1 q
  ·obtain ⟨y,hy,q⟩:=lk _ _ h;exact (hL y hy).2 q
 refine ⟨hk,hn,hc,clos,(fun x c (h:([]:List (Str×Addr)).lookup x=some c)=>by cases h),fun x h=>absurd h (no x),fun _=>hl,fun σ i x v e1 e2=>?_⟩;have:=hs _ (QE e2);cases this
theorem J4:(["sign"]:List Str).Nodup:=by trivial
theorem UX:(["check","part"]:List Str).Nodup:=by trivial
theorem _o8 (z:Str):XB (.str z) [.str "he",.str "she",.str ""]=Ua (.str z):=by
 unfold XB Ua;rw [Ri];simp only [Ra,List.any_nil,Xl,Bool.or_false,Gh,RX,Nh];constructor
 ·rintro (h|h|h)
  ·exact .inl (.inl h.symm)
  ·exact .inl (.inr h.symm)
  ·exact .inr h.symm
 ·rintro ((h|h)|h)
  ·exact .inl h.symm
  ·exact .inr (.inl h.symm)
  ·exact .inr (.inr h.symm)
theorem _c4 (x:Str):WR (.str x)=(decide (1≤x.length)&&decide (x.length≤8)&&x.cps.toList.all W0):=rfl
theorem _qE (i:Int):_bU (.int i)=(decide (1≤i)&&decide (i≤10 ^ 18)):=rfl
theorem _i5:∀{cs:List Chk} {ts:List Vk},ts.length=cs.length->(_Q cs ts).length=cs.length
 |[],[],_=>rfl
 |c::cs,t::ts,h=>by
  show (_Q cs ts).length+1=cs.length+1;rw [_i5 (by simpa using h)]
theorem _oJ:∀{cs:List Chk} {ts:List Vk} {i:Nat} {y:V},ts.length=cs.length->((_Q cs ts).map V.bl)[i]?=some y->∃c t,cs[i]?=some c∧ts[i]?=some t∧y=.bl (UD c t):=by
 intro cs
 induction cs with
 |nil =>
  intro ts i y h e;cases ts with
  |nil=>simp [_Q] at e
  |cons t ts=>simp at h
 |cons c cs ih =>
  intro ts i y h e;cases ts with
  |nil=>simp at h
  |cons t ts =>
   cases i with
   |zero=>exact ⟨c,t,rfl,rfl,by simpa [_Q] using e.symm⟩
   |succ i =>
    obtain ⟨c',t',e1,e2,e3⟩:=ih (ts:=ts) (i:=i) (y:=y) (by simpa using h) (by simpa [_Q] using e);exact ⟨c',t',by simpa using e1,by simpa using e2,e3⟩
theorem _h3 {α:Type} {f:α->Bool}:∀{l:List α} {i:Nat} {p:α},l[i]?=some p->(∀j,j<i->∀p',l[j]?=some p'->f p'=false)->f p=true->l.find? f=some p
 |x::l,0,p,e,_,h=>by
  have e':x=p:=by simpa using e
  subst e';rw [RH,h]
 |x::l,i+1,p,e,b,h=>by
  rw [RH,b 0 (by omega) x rfl];exact _h3 (l:=l) (i:=i) (by simpa using e) (fun j hj p' e'=>b (j+1) (by omega) p' (by simpa using e')) h
theorem _ma {w:Str} {p:Str×List Chk} (e:WE[i]?=some p) (b:∀j,j<i->∀p',WE[j]?=some p'->w≠p'.1) (h:w=p.1):VE w=some p.2:=by
 unfold VE;rw [_h3 e (fun j hj p' e'=>Qs (b j hj p' e')) (Qx h)];rfl
theorem _mp {w:Str} (b:∀j,j<6->∀p',WE[j]?=some p'->w≠p'.1):VE w=none:=by
 unfold VE;rw [NX.mpr]
 ·rfl
 ·intro p hp;obtain ⟨j,hj,e⟩:=List.getElem_of_mem hp;have:=b j hj p (by rw [←e];exact Qt hj);simpa using this
theorem _oC:∀p∈WE,p.2.length≤10:=by trivial
theorem _mS {mg:Str->Option Value} (T:Tx K w mg) {p:Str×List Chk} (e:WE[i]?=some p) :
  ∃P G,[V.ref T.p0,.ref T.p1,.ref T.p2,.ref T.p3,.ref T.p4,.ref T.p5][i]?=some (.ref P)∧(∀H,SqT K H P [.str p.1,.ref G])∧∀H,SqT K H G (p.2.map fun c=>.ref (T.ad c)):=by
 match i,e with
 |0,e=>cases e;exact ⟨_,_,rfl,T.sp0,T.sg0⟩
 |1,e=>cases e;exact ⟨_,_,rfl,T.sp1,T.sg1⟩
 |2,e=>cases e;exact ⟨_,_,rfl,T.sp2,T.sg2⟩
 |3,e=>cases e;exact ⟨_,_,rfl,T.sp3,T.sg3⟩
 |4,e=>cases e;exact ⟨_,_,rfl,T.sp4,T.sg4⟩
 |5,e=>cases e;exact ⟨_,_,rfl,T.sp5,T.sg5⟩
 |n+6,e=>cases e
theorem _pw (x:V) (xs:List V):YG (x::xs) (some 1) none=xs:=by
 unfold YG
 have e:HT.sIx (x::xs).length 0 (some 1)=1:=by
  show HT.sIx (x::xs).length 0 (some ((1:Nat):Int))=1;rw [HT.sIx_nat,QJ];omega
 rw [e];show (xs.take ((x::xs).length-1))=xs;simp
theorem few {n:Nat} (h:Nat.ble n 1000=true):n≤sizeLine:=QR (_y (Qy h))
theorem _V {b:Bool} {B:Prop} (e:b=true) (h:A):if b=true then A else B:=by rw [Qb e];exact h
theorem _u {b:Bool} {B:Prop} (e:b=false) (h:B):if b=true then A else B:=by rw [Qa (by rw [e];decide)];exact h
theorem X1 {b:Bool} {B:Prop} (h1:b=true->A) (h2:b=false->B):if b=true then A else B:=by
 cases b with
 |true=>exact Yt (h1 rfl)
 |false=>exact Yb (h2 rfl)
section
variable {xs:List V} {ts:List Vk}
theorem _dx {lo hi:Option Int} (ha:SqT K H a xs) (hn:¬(HT.sIx xs.length 0 lo=0∧HT.sIx xs.length xs.length hi=xs.length)) (h:∀H' p,Same H H'->SqT K H' p (YG xs lo hi)->Q (.ref p) H'):_gF K (.ref a) lo hi H Q :=
 ⟨a,xs,rfl,ha,hn,fun p np=>h _ p (_h np) (.of _f)⟩
end
theorem _mj {x:V} {xs:List V}:∃y,Yk (x::xs) (-1)=some y∧(x::xs)[xs.length]?=some y:=by
 obtain ⟨ys,y,e⟩:∃ys y,x::xs=ys++[y]:=⟨(x::xs).dropLast,(x::xs).getLast (by simp),(NY (by simp)).symm⟩;refine ⟨y,by rw [e];exact _kr ys y,?_⟩
 have hl:xs.length=ys.length:=by
  have:=QB List.length e;simp at this;omega
 rw [e,hl];simp
theorem Xq {x:Str}:decide (V.str x=V.str y)=decide (x=y):=by
 rw [Ri];simp
inductive Ent where
 |born (n s:Str) (d:Int) (f m:Str)
 |taken (c t:Str) (d:Int)
 |union (a b:Str) (d:Int)
noncomputable def Ent.row:Ent->List _l
 |.born n s d f m=>[.inr "born",.inr n,.inr s,.inl d,.inr f,.inr m]
 |.taken c t d=>[.inr "taken",.inr c,.inr t,.inl d]
 |.union a b d=>[.inr "union",.inr a,.inr b,.inl d]
noncomputable def Ent.tie:Ent->Bool
 |.union ..=>true
 |_=>false
noncomputable def Ent.named:Ent->List Str
 |.born _ _ _ f m=>[f,m].filter fun x:Str=>decide (x≠"")
 |.taken c t _=>[c,t]
 |.union a b _=>[a,b]
noncomputable def Ent.day:Ent->Int
 |.born _ _ d _ _=>d
 |.taken _ _ d=>d
 |.union _ _ d=>d
def EntAt (K:W.Frag) (H:Hp) (v:V) (e:Ent):Prop:=∃a,v=.ref a∧SqT K H a (e.row.map kV)
theorem EntAt.mono (h:EntAt K H v e) (s:Same H H'):EntAt K H' v e:=by
 obtain ⟨a,rfl,q⟩:=h;exact ⟨a,rfl,s.sqt q⟩
theorem _s {r:List V} {x:V} (h:r[j]?=some x):Yk r (j:Int)=some x:=Wg h
noncomputable def Ur (x:Str):Option V:=if x="" then none else some (.str x)
theorem _hh:∀l:List Str,(l.map Ur).filterMap id=(l.filter fun x:Str=>decide (x≠"")).map V.str
 |[]=>rfl
 |x::r=>by
  have ih:=_hh r;by_cases h:x=""
  ·subst h;simp only [Qw,Re,Ni];simpa [Ur] using ih
  ·simp only [Qw,Re,Ni];simpa [Ur,h] using ih
theorem _W {H1:Hp} {D:Addr} (s:Same H H1) (n:H1 D=none):H D=none:=by
 cases e:H D with
 |none=>rfl
 |some o=>rw [s D o e] at n;cases n
noncomputable def Ent.key:Ent->List _l
 |.born n _ _ _ _=>[.inr "born",.inr n]
 |.taken c t _=>[.inr "taken",.inr c,.inr t]
 |.union a b d=>[.inr "tie",.inr a,.inr b,.inl d]
noncomputable def Ent.bornName:Ent->Option Str
 |.born n _ _ _ _=>some n
 |_=>none
structure Bk where
 kept:List (Ent×Addr)
 links:List ((Str×Str)×Addr×List Str)
 ties:List ((Str×Str)×Addr×List (Int×Str))
 sums:List ((Str×Str)×Int)
noncomputable def _Z (p:Str×Str):List _l:=[.inr p.1,.inr p.2]
noncomputable def Bk.keptD (B:Bk):List (List _l×V):=B.kept.map fun p=>(p.1.key,.ref p.2)
noncomputable def Bk.bornD (l:List (Ent×Addr)):List (_l×V):=l.filterMap fun p=>p.1.bornName.map fun n=>(.inr n,.ref p.2)
noncomputable def Bk.linksD (B:Bk):List (List _l×V):=B.links.map fun q=>(_Z q.1,.ref q.2.1)
noncomputable def Bk.tiesD (B:Bk):List (List _l×V):=B.ties.map fun q=>(_Z q.1,.ref q.2.1)
noncomputable def Bk.sumsD (B:Bk):List (List _l×V):=B.sums.map fun q=>(_Z q.1,.int q.2)
noncomputable def Vx (k bi li ti su:Addr):List (Str×V):=[("kept",.ref k),("births",.ref bi),("links",.ref li),("ties",.ref ti),("sums",.ref su)]
structure BkAt (K:W.Frag) (C:Addr) (H:Hp) (b dx k bi li ti su:Addr) (B:Bk):Prop where
 ob:H b=some (.ins C dx (Vx k bi li ti su))
 ap:[k,li,ti,su].Nodup
 at':(bi::B.ties.map (·.2.1)).Nodup
 ke:H k=some (.dT B.keptD)
 bi:H bi=some (.dK (Bk.bornD B.kept))
 li:H li=some (.dT B.linksD)
 ti:H ti=some (.dT B.tiesD)
 su:H su=some (.dT B.sumsD)
 en:∀p∈B.kept,SqT K H p.2 (p.1.row.map kV)
 ll:∀q∈B.links,H q.2.1=some (.lst (q.2.2.map V.str))
 tt:∀q∈B.ties,H q.2.1=some (.dK (q.2.2.map fun r=>(.inl r.1,.str r.2)))
theorem BkAt.mono {k:Addr} (h:BkAt K C H b dx k bi li ti su B) (s:Same H H'):BkAt K C H' b dx k bi li ti su B :=
 ⟨s _ _ h.ob,h.ap,h.at',s _ _ h.ke,s _ _ h.bi,s _ _ h.li,s _ _ h.ti,s _ _ h.su,fun p hp=>s.sqt (h.en p hp),fun q hq=>s _ _ (h.ll q hq),fun q hq=>s _ _ (h.tt q hq)⟩
def BkHas (K:W.Frag) (C:Addr) (H:Hp) (v:V) (B:Bk):Prop:=∃b dx k bi li ti su,v=.ref b∧BkAt K C H b dx k bi li ti su B
theorem BkHas.mono (h:BkHas K C H v B) (s:Same H H'):BkHas K C H' v B:=by
 obtain ⟨b,dx,k,bi,li,ti,su,e,h⟩:=h;exact ⟨b,dx,k,bi,li,ti,su,e,h.mono s⟩
noncomputable def _3 (n:Str):List (Ent×Addr)->Option (Ent×Addr)
 |[]=>none
 |p::r=>if p.1.bornName=some n then some p else _3 n r
theorem _aS {n:Str}:∀{l:List (Ent×Addr)} {p:Ent×Addr},_3 n l=some p->p∈l∧p.1.bornName=some n
 |[],_,h=>by cases h
 |q::r,p,h=>by
  unfold _3 at h;split at h
  ·cases h;exact ⟨QI ..,by assumption⟩
  ·obtain ⟨h1,h2⟩:=_aS h;exact ⟨QD _ h1,h2⟩
theorem _cl (n:Str):∀l:List (Ent×Addr),_F (Bk.bornD l) (.inr n:_l)=(_3 n l).map fun p=>.ref p.2
 |[]=>rfl
 |p::r=>by
  have ih:=_cl n r;unfold Bk.bornD _3;rw [Re];cases h:p.1.bornName with
  |none =>
   simp only [Option.map_none];rw [Qa (by simp)];exact ih
  |some x =>
   simp only [Np];by_cases e:x=n
   ·subst e;rw [Xw rfl,Qb rfl];rfl
   ·rw [Xz (fun q=>e (R8 q)),Qa (fun q=>e (Qn q))];exact ih
theorem _cc {k:Addr}:(Vx k bi li ti su).lookup ("kept" : Str)=some (.ref k):=rfl
theorem JY {k:Addr}:(Vx k bi li ti su).lookup ("births" : Str)=some (.ref bi):=rfl
theorem _aW {k:Addr}:(Vx k bi li ti su).lookup ("links" : Str)=some (.ref li):=rfl
theorem _jf {k:Addr}:(Vx k bi li ti su).lookup ("ties" : Str)=some (.ref ti):=rfl
noncomputable def _aF (B:Bk) (n:Str):Option (Str×Int):=match _3 n B.kept with
 |some (.born _ s d _ _,_)=>some (s,d)
 |_=>none
noncomputable def X4 (B:Bk) (n:Str):Str:=((_aF B n).map (·.1)).getD ""
noncomputable def Yr (B:Bk) (n:Str):Int:=((_aF B n).map (·.2)).getD 0
theorem _aL {p:Ent×Addr} (h:_3 n B.kept=some p) (e:p.1=.born n' s d f m):X4 B n=s:=by
 obtain ⟨e',a⟩:=p;cases e;unfold X4 _aF;rw [h];rfl
theorem _ae {p:Ent×Addr} (h:_3 n B.kept=some p) (e:p.1=.born n' s d f m):Yr B n=d:=by
 obtain ⟨e',a⟩:=p;cases e;unfold Yr _aF;rw [h];rfl
noncomputable def XN (B:Bk) (n s:Str) (d:Int):Bool:=decide (n="")||(decide (X4 B n=s)&&decide (Yr B n<d))
def Known (B:Bk) (n:Str):Prop:=_3 n B.kept≠none
noncomputable def WH (B:Bk) (e:Ent):Bool:=match e with
 |.born _ _ d f m=>XN B f "he" d&&XN B m "she" d
 |.taken c t d=>decide (c≠t)&&decide (Yr B t<Yr B c)&&e.named.all fun n=>decide (Yr B n≤d)
 |.union a b d=>decide (a≠b)&&e.named.all fun n=>decide (Yr B n≤d)
theorem X8 {a b:TS} {D:Ends} (J:St->Hp->Prop) (h1:∀nx,(∀σ H,J σ H->nx σ H)->a { D with nx:=nx } σ H) (h2:∀σ H,J σ H->b D σ H):_by a b D σ H:=h1 (b D) h2
noncomputable def Ent.isBorn:Ent->Bool
 |.born ..=>true
 |_=>false
noncomputable def Ent.same:Ent->Bool
 |.taken c t _=>decide (c=t)
 |.union a b _=>decide (a=b)
 |_=>false
noncomputable def Ent.early (B:Bk):Ent->Bool
 |.taken c t _=>decide (Yr B c≤Yr B t)
 |_=>false
theorem _eu (h:e.isBorn=false):WH B e=(!e.same&&!e.early B&&e.named.all fun n=>decide (Yr B n≤e.day)):=by
 cases e with
 |born=>cases h
 |taken c t d =>
  unfold WH Ent.same Ent.early;have h1:decide (c≠t)=!decide (c=t):=by simp
  have h2:decide (Yr B t<Yr B c)=!decide (Yr B c≤Yr B t):=by
   rw [Ri];simp
  simp only [h1,h2];rfl
 |_ =>
  simp [WH,Ent.same,Ent.early,Ent.day];rfl
theorem _kN {k:Addr}:_q "sums" (.ref su) (_q "ties" (.ref ti) (_q "links" (.ref li) (_q "births" (.ref bi) (_q "kept" (.ref k) []))))=Vx k bi li ti su:=by
 rfl
noncomputable def W3:Bk:=⟨[],[],[],[]⟩
theorem Wy {p:Addr} {fs:List (Str×V)} (f:Str) (o:HO) (h:H b=some (.ins C dx fs)) (n:H p=none) :
  (_c (_c H p o) b (.ins C dx (_q f (.ref p) fs))) b=some (.ins C dx (_q f (.ref p) fs))∧(_c (_c H p o) b (.ins C dx (_q f (.ref p) fs))) p=some o ∧
  (∀c u,H c=some u->c≠b->(_c (_c H p o) b (.ins C dx (_q f (.ref p) fs))) c=some u)∧∀c,(_c (_c H p o) b (.ins C dx (_q f (.ref p) fs))) c=none->H c=none:=by
 have pb:p≠b:=fun e=>by subst e;rw [h] at n;cases n
 refine ⟨_f,(_d pb).trans _f,fun c u e cb=>(_d cb).trans ((_d (_t e n)).trans e),fun c e=>?_⟩;by_cases cb:c=b
 ·subst cb;rw [_f] at e;cases e
 rw [_d cb] at e;by_cases cp:c=p
 ·subst cp;exact n
 rw [_d cp] at e;exact e
noncomputable def _5 (c:Str×Str):List ((Str×Str)×Addr×List Str)->Option (Addr×List Str)
 |[]=>none
 |q::r=>if q.1=c then some q.2 else _5 c r
theorem JB {a b:Str×Str} (h:_Z a=_Z b):a=b:=by
 unfold _Z at h;simp at h;exact Rh h.1 h.2
theorem _b0 (c:Str×Str):∀l:List ((Str×Str)×Addr×List Str),_F (l.map fun q=>(_Z q.1,V.ref q.2.1)) (_Z c)=(_5 c l).map fun q=>.ref q.1
 |[]=>rfl
 |q::r=>by
  have ih:=_b0 c r;unfold _5;rw [Qw];by_cases e:q.1=c
  ·subst e;rw [Xw rfl,Qb rfl];rfl
  ·rw [Xz (fun z=>e (JB z)),Qa e];exact ih
theorem _cI {c:Str×Str}:∀{l:List ((Str×Str)×Addr×List Str)} {x:Addr×List Str},_5 c l=some x->∃q∈l,q.2=x
 |[],_,h=>by cases h
 |q::r,x,h=>by
  unfold _5 at h;split at h
  ·cases h;exact ⟨q,QI ..,rfl⟩
  ·obtain ⟨z,hz,e⟩:=_cI h;exact ⟨z,QD _ hz,e⟩
noncomputable def Yj (B:Bk) (l n:Str):List Str:=((_5 (l,n) B.links).map (·.2)).getD []
noncomputable def XD:List Str:=["F","M","T","f","m","t","S"]
noncomputable def WX (x:Str):Bool:=decide (x∈XD)
theorem _bp (x:Str):∀l:List Str,XB (.str x) (l.map V.str)=decide (x∈l):=by
 intro l;unfold XB
 induction l with
 |nil=>rfl
 |cons y r ih =>
  rw [Qw,Ra,ih];by_cases h:x=y
  ·subst h;simp [Xl]
  ·simp [Xl,h,Q4 h]
theorem JA {a b:Str} (h1:_M a b=false) (h2:_M b a=false):a=b:=by
 unfold _M at h1 h2
 have e:a.cps.toList=b.cps.toList:=by
  have l1:=Gm h1;have l2:=Gm h2;exact List.le_antisymm (List.not_lt.mp l2) (List.not_lt.mp l1)
 obtain ⟨a⟩:=a;obtain ⟨b⟩:=b;have e2:a=b:=Array.toList_inj.mp e;rw [e2]
noncomputable def _g (a b:Str):Str×Str:=if _M b a=true then (b,a) else (a,b)
theorem _mK {a b:Str} (hp:zs.Perm [a,b]) (hs:PyProof.Rows.sortedS zs=true):zs=[(_g a b).1,(_g a b).2]:=by
 have hl:=hp.length_eq
 match zs,hl with
 |[x,y],_ =>
  have hs2:_M y x=false:=by
   have h3:(!PySem.Spec.ltCps y.cps.toList x.cps.toList&&true)=true:=hs;rw [PyProof.Rows.ltCps_eq] at h3;simpa [_M] using h3
  have hm:x∈[a,b]:=hp.subset (by simp)
  have hp2:(x=a∧y=b)∨(x=b∧y=a):=by
   rcases Qj.mp hm with rfl|hm
   ·have:=hp.cons_inv;exact .inl ⟨rfl,by simpa using this⟩
   ·have e:x=b:=by simpa using hm
    subst e;have h4:[x,y].Perm [x,a]:=hp.trans (List.Perm.swap ..);have:=h4.cons_inv;exact .inr ⟨rfl,by simpa using this⟩
  unfold _g;rcases hp2 with ⟨rfl,rfl⟩|⟨rfl,rfl⟩
  ·rw [hs2];rfl
  ·by_cases h:_M x y=true
   ·rw [Qb h]
   ·rw [Qa h,JA (Rm.mpr h) hs2]
noncomputable def Ent.told:Ent->Ent
 |.union a b d=>.union (_g a b).1 (_g a b).2 d
 |e=>e
theorem _pY (a b:Str):(if _M b a=true then b else a)=(_g a b).1:=by
 unfold _g;by_cases h:_M b a=true
 ·rw [Qb h,Qb h]
 ·rw [Qa h,Qa h]
theorem _mD (a b:Str):(if _M a b=true then b else a)=(_g a b).2:=by
 unfold _g;by_cases h:_M b a=true
 ·rw [Qb h];by_cases h2:_M a b=true
  ·have l1:b.cps.toList<a.cps.toList:=Q8 h;have l2:a.cps.toList<b.cps.toList:=Q8 h2;exact absurd l1 (NZ l2)
  ·rw [Qa h2]
 ·rw [Qa h];by_cases h2:_M a b=true
  ·rw [Qb h2]
  ·rw [Qa h2,JA (Rm.mpr h) (Rm.mpr h2)]
noncomputable def U3:_l->Vk
 |.inl i=>.int i
 |.inr x=>.str x
theorem _dh {K:W.Frag} {H:Hp}:∀(l:List _l),(∀x:Str,(.inr x:_l)∈l->x.length≤100)->Vws K H (l.map kV) (l.map U3)
 |[],_=>trivial
 |.inl i::r,h=>⟨rfl,_dh r fun x hx=>h x (QD _ hx)⟩
 |.inr y::r,h=>⟨⟨rfl,h y (QI ..)⟩,_dh r fun x hx=>h x (QD _ hx)⟩
structure Ent.Ok (e:Ent):Prop where
 en:V5 (e.row.map U3)=true
 sh:∀x:Str,(.inr x:_l)∈e.row->x.length≤100
theorem Ent.row_len (e:Ent):(e.row.map U3).length≤10:=by
 cases e<;>exact Qy rfl
theorem Ent.Ok.tv (h:e.Ok) (hE:SqT K H a (e.row.map kV)):Tv K H (.ref a) (e.row.map U3):=⟨a,_,rfl,hE,_dh _ h.sh⟩
inductive Rf where
 |full|person|twice|fit
noncomputable def Bk.full (B:Bk) (e:Ent):Bool:=decide (400≤B.kept.length)||(e.isBorn&&decide (60≤(Bk.bornD B.kept).length))
noncomputable def X2 (B:Bk) (e:Ent):Option Rf :=
 if B.full e=true then some .full
 else if (e.named.all fun n=>(_3 n B.kept).isSome)=false then some .person
 else if (_F B.keptD e.told.key).isSome=true then some .twice
 else if WH B e=true then none else some .fit
theorem _i6 (kn:∀n∈e.named,Known B n):(e.named.all fun n=>(_3 n B.kept).isSome)=true:=by
 rw [Ry];intro n hn;have:=kn n hn;unfold Known at this;exact Mf.mpr this
theorem _m3 (h:B.full e=false) (kn:∀n∈e.named,Known B n) (t:(_F B.keptD e.told.key).isSome=false) (f:WH B e=true):X2 B e=none:=by
 unfold X2;rw [h,Qa (by decide),_i6 kn,Qa (by decide),t,Qa (by decide),f,Qb rfl]
theorem _gI {a b c:Str} (h1:_M a b=true) (h2:_M b c=true):_M a c=true:=by
 unfold _M at *;exact Qx (List.lt_trans (Q8 h1) (Q8 h2))
theorem _qw (a:Str):_M a a=false:=by
 unfold _M;exact Qs (List.lt_irrefl _)
noncomputable def YA (a b:Str):Bool:=!_M b a
theorem _io {a b c:Str} (h1:YA a b=true) (h2:YA b c=true):YA a c=true:=by
 unfold YA at *;simp only [Bool.not_eq_true'] at *;cases h:_M c a with
 |false=>rfl
 |true =>
  by_cases e:a=b
  ·subst e;rw [h] at h2;cases h2
  ·have hab:_M a b=true:=by
    cases h3:_M a b with
    |true=>rfl
    |false=>exact absurd (JA h3 h1) e
   rw [_gI h hab] at h2;cases h2
theorem _nG (a b:Str):(YA a b||YA b a)=true:=by
 unfold YA;cases h:_M b a with
 |false=>rfl
 |true =>
  cases h2:_M a b with
  |false=>rfl
  |true=>exact absurd (_gI h2 h) (by rw [_qw a];decide)
noncomputable def _A (l:List Str):List Str:=l.mergeSort YA
theorem Wh (l:List Str):(_A l).Perm l:=List.mergeSort_perm ..
theorem V2 (l:List Str):(_A l).Pairwise fun a b=>YA a b=true:=List.pairwise_mergeSort (le:=YA) (fun _ _ _=>_io) _nG l
theorem _d7:∀{l:List Str},PyProof.Rows.sortedS l=true->l.Pairwise fun a b=>YA a b=true
 |[],_=>.nil
 |[x],_=>.cons (by simp) .nil
 |x::y::r,h=>by
  have h':(!PySem.Spec.ltCps y.cps.toList x.cps.toList&&PyProof.Rows.risingS y r)=true:=h;rw [R1] at h';obtain ⟨h1,h2⟩:=h';have ih:=_d7 (l:=y::r) h2
  have hxy:YA x y=true:=by
   rw [PyProof.Rows.ltCps_eq] at h1;exact h1
  refine .cons (fun z hz=>?_) ih;rcases Qj.mp hz with rfl|hz
  ·exact hxy
  ·exact _io hxy (N0 ih hz)
theorem Jp:∀{l m:List Str},l.Perm m->(l.Pairwise fun a b=>YA a b=true)->(m.Pairwise fun a b=>YA a b=true)->l=m
 |[],m,p,_,_=>p.nil_eq
 |x::l,[],p,_,_=>absurd p.length_eq (by simp)
 |x::l,y::m,p,h1,h2=>by
  have e:x=y:=by
   by_cases e:x=y
   ·exact e
   have hx:x∈m:=by
    have:x∈y::m:=p.subset (QI ..);rcases Qj.mp this with h|h
    ·exact absurd h e
    ·exact h
   have hy:y∈l:=by
    have:y∈x::l:=p.symm.subset (QI ..);rcases Qj.mp this with h|h
    ·exact absurd h.symm e
    ·exact h
   have a1:=N0 h1 hy;have a2:=N0 h2 hx;unfold YA at a1 a2;simp only [Bool.not_eq_true'] at a1 a2;exact JA a2 a1
  subst e;rw [Jp p.cons_inv (List.pairwise_cons.mp h1).2 (List.pairwise_cons.mp h2).2]
theorem _cu {l:List Str} (hp:zs.Perm l) (hs:PyProof.Rows.sortedS zs=true):zs=_A l:=Jp (hp.trans (Wh l).symm) (_d7 hs) (V2 l)
structure But (S:List Addr) (H H':Hp):Prop where
 eq:∀a o,a∉S->H a=some o->H' a=some o
 al:∀a,H' a=none->H a=none
theorem But.of (S:List Addr) (s:Same H H'):But S H H':=⟨fun a o _ e=>s a o e,fun a n=>_W s n⟩
theorem But.trans {H'':Hp} (h1:But S H H') (h2:But S H' H''):But S H H'':=⟨fun a o n e=>h2.eq a o n (h1.eq a o n e),fun a n=>h1.al a (h2.al a n)⟩
theorem But.put {o':HO} (e:H a=some o) (h:a∈S):But S H (_c H a o'):=by
 refine ⟨fun c u n q=>(_d (fun z:c=a=>n (by rw [z];exact h))).trans q,fun c n=>?_⟩;by_cases z:c=a
 ·subst z;rw [_f] at n;cases n
 ·rw [_d z] at n;exact n
noncomputable def putA {κ α:Type} [DecidableEq κ] (l:List (κ×α)) (c:κ) (x:α):List (κ×α) :=
 if (l.any fun q=>decide (q.1=c))=true then l.map (fun q=>if q.1=c then (q.1,x) else q) else l++[(c,x)]
theorem Jb {κ κ' α:Type} [DecidableEq κ] [DecidableEq κ'] {f:κ->κ'} (hf:∀a b,f a=f b->a=b) (g:α->V) (l:List (κ×α)) (c:κ) (x:α) :
  Ym (l.map fun q=>(f q.1,g q.2)) (f c) (g x)=(putA l c x).map fun q=>(f q.1,g q.2):=by
 have hd:∀a:κ,decide (f a=f c)=decide (a=c):=fun a=>by
  by_cases e:a=c
  ·subst e;simp
  ·rw [Qs e,Qs (fun z=>e (hf _ _ z))]
 unfold Ym putA
 have e1:((l.map fun q=>(f q.1,g q.2)).any fun kv=>decide (kv.1=f c))=l.any fun q=>decide (q.1=c):=by
  rw [List.any_map];exact QB (fun z=>l.any z) (funext fun q=>hd q.1)
 rw [e1];by_cases h:(l.any fun q=>decide (q.1=c))=true
 ·rw [Qb h,Qb h,QP,QP];refine Gn fun q _=>?_;show (if f q.1=f c then (f q.1,g x) else (f q.1,g q.2))=(fun q=>(f q.1,g q.2)) (if q.1=c then (q.1,x) else q);by_cases e:q.1=c
  ·rw [Qb e,Qb (by rw [e])]
  ·rw [Qa e,Qa (fun z=>e (hf _ _ z))]
 ·rw [Qa h,Qa h,Qo];rfl
theorem _a8 {κ α:Type} [DecidableEq κ] {l:List (κ×α)} {c:κ} {x:α} {q:κ×α} (h:q∈putA l c x):q=(c,x)∨q∈l:=by
 unfold putA at h;split at h
 ·obtain ⟨p,hp,e⟩:=Qg.mp h;split at e
  ·rename_i pc;subst e;exact .inl (by rw [pc])
  ·subst e;exact .inr hp
 ·rcases Qh.mp h with h|h
  ·exact .inr h
  ·exact .inl (by simpa using h)
theorem _eV {k:Addr} (h:[k,li,ti,su].Nodup):k≠li∧k≠ti∧k≠su∧li≠ti∧li≠su∧ti≠su:=by
 simp at h;exact ⟨h.1.1,h.1.2.1,h.1.2.2,h.2.1.1,h.2.1.2,h.2.2⟩
theorem Yg {c:Addr} (h1:H a=some o) (h2:H c=some u) (n:o≠u):a≠c:=fun e=>by
 subst e;rw [h1] at h2;exact n (Qn h2)
theorem X7 {c:Addr} {xs:List V} {o':HO} (h:SqT K H a xs) (e:H c=some o) (no:∀ys,o≠.tup ys) (nf:∀x ys,o≠.frz x ys):SqT K (_c H c o') a xs:=by
 rcases h with h|h
 ·rcases h with h|⟨x,h⟩
  ·exact .inl (.inl ((_d (Yg h e (fun z=>no _ z.symm))).trans h))
  ·exact .inl (.inr ⟨x,(_d (Yg h e (fun z=>nf _ _ z.symm))).trans h⟩)
 ·exact .inr h
theorem BkAt.links {k:Addr} (h:BkAt K C H b dx k bi li ti su B) {l:List ((Str×Str)×Addr×List Str)}
 (hl:∀q∈l,H q.2.1=some (.lst (q.2.2.map V.str))):BkAt K C (_c H li (.dT (l.map fun q=>(_Z q.1,V.ref q.2.1)))) b dx k bi li ti su { B with links:=l }:=by
 obtain ⟨n1,n2,n3,n4,n5,n6⟩:=_eV h.ap;have dk:∀{c:Addr} {z:List (_l×V)},H c=some (.dK z)->c≠li:=fun e=>Yg e h.li (fun z=>by cases z)
 exact ⟨(_d (Yg h.ob h.li (fun z=>by cases z))).trans h.ob,h.ap,h.at',(_d n1).trans h.ke,(_d (dk h.bi)).trans h.bi,_f,(_d n4.symm).trans h.ti,(_d n5.symm).trans h.su,
  fun p hp=>X7 (h.en p hp) h.li (fun _ z=>by cases z) (fun _ _ z=>by cases z),fun q hq=>(_d (Yg (hl q hq) h.li (fun z=>by cases z))).trans (hl q hq),fun q hq=>(_d (dk (h.tt q hq))).trans (h.tt q hq)⟩
noncomputable def lk (ls:List ((Str×Str)×Addr×List Str)) (c:Str×Str):List Str:=((_5 c ls).map (·.2)).getD []
noncomputable def _2 (f:Str×Str->List Str) (c:Str×Str) (m:Str):Str×Str->List Str:=fun x=>if x=c then _A (f c++[m]) else f x
theorem _fM {c:Str×Str}:∀{l:List ((Str×Str)×Addr×List Str)},(l.any fun q=>decide (q.1=c))=false->_5 c l=none
 |[],_=>rfl
 |q::r,h=>by
  rw [Ra,Bool.or_eq_false_iff] at h;unfold _5;rw [Qa (Gm h.1)];exact _fM h.2
theorem _fU {c:Str×Str}:∀{l m:List ((Str×Str)×Addr×List Str)},_5 c (l++m)=(_5 c l).or (_5 c m)
 |[],m=>by simp [_5]
 |q::r,m=>by
  show (if q.1=c then some q.2 else _5 c (r++m))=(if q.1=c then some q.2 else _5 c r).or (_5 c m);by_cases e:q.1=c
  ·rw [Qb e,Qb e];rfl
  ·rw [Qa e,Qa e];exact _fU
theorem _gu {c d:Str×Str} {x:Addr×List Str}:∀{l:List ((Str×Str)×Addr×List Str)},_5 d (l.map fun q=>if q.1=c then (q.1,x) else q)=if d=c then (_5 c l).map (fun _=>x) else _5 d l
 |[]=>by by_cases e:d=c<;>simp [_5,e]
 |q::r=>by
  have ih:=_gu (c:=c) (d:=d) (x:=x) (l:=r);rw [Qw];by_cases e:q.1=c
  ·rw [Qb e];by_cases e2:d=c
   ·subst e2;rw [Qb rfl];unfold _5;rw [Qb e,Qb e];rfl
   ·rw [Qa e2] at ih ⊢;unfold _5;rw [Qa (fun z=>e2 (z.symm.trans e)),Qa (fun z=>e2 (z.symm.trans e))];exact ih
  ·rw [Qa e];by_cases e2:d=c
   ·subst e2;rw [Qb rfl] at ih ⊢;unfold _5;rw [Qa e,Qa e];exact ih
   ·rw [Qa e2] at ih ⊢;unfold _5;by_cases e3:q.1=d
    ·rw [Qb e3,Qb e3]
    ·rw [Qa e3,Qa e3];exact ih
theorem _gd (l:List ((Str×Str)×Addr×List Str)) (c d:Str×Str) (x:Addr×List Str):_5 d (putA l c x)=if d=c then some x else _5 d l:=by
 unfold putA;by_cases h:(l.any fun q=>decide (q.1=c))=true
 ·rw [Qb h,_gu];by_cases e:d=c
  ·rw [Qb e,Qb e];cases hk:_5 c l with
   |some y=>rfl
   |none =>
    exfalso
    have:∀{l:List ((Str×Str)×Addr×List Str)},_5 c l=none->(l.any fun q=>decide (q.1=c))=false:=by
     intro l
     induction l with
     |nil=>intro _;rfl
     |cons q r ih =>
      intro hn;unfold _5 at hn;by_cases e:q.1=c
      ·rw [Qb e] at hn;cases hn
      ·rw [Qa e] at hn;rw [Ra,ih hn,Qs e];rfl
    rw [this hk] at h;cases h
  ·rw [Qa e,Qa e]
 ·rw [Qa h,_fU];by_cases e:d=c
  ·subst e;rw [Qb rfl,_fM (Rm.mpr h)];simp [_5]
  ·rw [Qa e];cases _5 d l with
   |some y=>rfl
   |none=>simp [_5,Q4 e]
theorem W6 (l:List ((Str×Str)×Addr×List Str)) (c d:Str×Str) (D:Addr) (m:Str):lk (putA l c (D,_A (lk l c++[m]))) d=_2 (lk l) c m d:=by
 unfold lk _2;rw [_gd];by_cases e:d=c
 ·rw [Qb e,Qb e];rfl
 ·rw [Qa e,Qa e]
theorem Wn {κ α:Type} [DecidableEq κ] (l:List (κ×α)) (c:κ) (x:α):(putA l c x).length≤l.length+1:=by
 unfold putA;split
 ·rw [Qc];omega
 ·rw [Qm];exact Qe _
theorem V0 (B:Bk) (l n:Str):Yj B l n=lk B.links (l,n):=rfl
noncomputable def Xm (F:Str×Str->List Str) (n f m:Str):Str×Str->List Str :=
 let F1:=if f="" then F else _2 (_2 F ("F",n) f) ("f",f) n
 if m="" then F1 else _2 (_2 F1 ("M",n) m) ("m",m) n
theorem Ja {d:Str×Str} (h:d.1≠c.1):_2 F c m d=F d:=Qa fun e=>h (by rw [e])
theorem JJ {G:Str×Str->List Str} (h:∀c,F c=G c) (c:Str×Str) (m:Str) (d:Str×Str):_2 F c m d=_2 G c m d:=by
 unfold _2;rw [h c,h d]
theorem _kJ (l:List (Ent×Addr)) (n s:Str) (d:Int) (f m:Str) (a:Addr):Bk.bornD (l++[(.born n s d f m,a)])=Bk.bornD l++[(.inr n,.ref a)]:=by
 unfold Bk.bornD;rw [R5];rfl
theorem _oQ (l:List (Ent×Addr)):(Bk.bornD l).length≤l.length:=Rn ..
theorem But.mono {S':List Addr} (h:But S H H') (i:∀a∈S,a∈S'):But S' H H':=⟨fun a o n e=>h.eq a o (fun z=>n (i a z)) e,h.al⟩
noncomputable def Jm (l:List (Ent×Addr)):List (Str×V):=l.filterMap fun p=>p.1.bornName.map fun n=>(n,.ref p.2)
theorem _iZ (l:List (Ent×Addr)):Bk.bornD l=(Jm l).map fun p=>(.inr p.1,p.2):=by
 unfold Bk.bornD Jm;rw [Go]
 congr 1
 funext p
 cases p.1.bornName<;>rfl
noncomputable def Y1 (l:List (Ent×Addr)):List Str:=l.filterMap fun p=>p.1.bornName
theorem _iW (l:List (Ent×Addr)):(Jm l).map (·.1)=Y1 l:=by
 unfold Y1 Jm;rw [Go]
 congr 1
 funext p
 cases p.1.bornName<;>rfl
def Grows (H:Hp) (ls ls':List ((Str×Str)×Addr×List Str)):Prop:=∀q∈ls',(∃p∈ls,p.2.1=q.2.1)∨H q.2.1=none
theorem Grows.refl (H:Hp) (ls:List ((Str×Str)×Addr×List Str)):Grows H ls ls:=fun q hq=>.inl ⟨q,hq,rfl⟩
theorem Grows.put {ls ls':List ((Str×Str)×Addr×List Str)} {D:Addr} {x:List Str} (g:Grows H ls ls') (n:H D=none):Grows H ls (putA ls' c (D,x)):=fun q hq=>by
 rcases _a8 hq with rfl|hq
 ·exact .inr n
 ·exact g q hq
theorem Grows.back {ls ls':List ((Str×Str)×Addr×List Str)} (g:Grows H' ls ls') (al:∀a,H' a=none->H a=none):Grows H ls ls':=fun q hq=>(g q hq).imp id (al _)
noncomputable def _E {κ α:Type} [DecidableEq κ] (c:κ):List (κ×α)->Option α
 |[]=>none
 |q::r=>if q.1=c then some q.2 else _E c r
theorem _ht {κ α:Type} [DecidableEq κ] {c:κ}:∀{l:List (κ×α)},(l.any fun q=>decide (q.1=c))=false->_E c l=none
 |[],_=>rfl
 |q::r,h=>by
  rw [Ra,Bool.or_eq_false_iff] at h;unfold _E;rw [Qa (Gm h.1)];exact _ht h.2
theorem _bb {κ α:Type} [DecidableEq κ] {c:κ}:∀{l:List (κ×α)},_E c l=none->(l.any fun q=>decide (q.1=c))=false
 |[],_=>rfl
 |q::r,h=>by
  unfold _E at h;by_cases e:q.1=c
  ·rw [Qb e] at h;cases h
  ·rw [Qa e] at h;rw [Ra,_bb h,Qs e];rfl
theorem _aP {κ α:Type} [DecidableEq κ] {c:κ}:∀{l m:List (κ×α)},_E c (l++m)=(_E c l).or (_E c m)
 |[],m=>by simp [_E]
 |q::r,m=>by
  show (if q.1=c then some q.2 else _E c (r++m))=(if q.1=c then some q.2 else _E c r).or (_E c m);by_cases e:q.1=c
  ·rw [Qb e,Qb e];rfl
  ·rw [Qa e,Qa e];exact _aP
theorem _iu {κ α:Type} [DecidableEq κ] {c d:κ} {x:α}:∀{l:List (κ×α)},_E d (l.map fun q=>if q.1=c then (q.1,x) else q)=if d=c then (_E c l).map (fun _=>x) else _E d l
 |[]=>by by_cases e:d=c<;>simp [_E,e]
 |q::r=>by
  have ih:=_iu (c:=c) (d:=d) (x:=x) (l:=r);rw [Qw];by_cases e:q.1=c
  ·rw [Qb e];by_cases e2:d=c
   ·subst e2;rw [Qb rfl];unfold _E;rw [Qb e,Qb e];rfl
   ·rw [Qa e2] at ih ⊢;unfold _E;rw [Qa (fun z=>e2 (z.symm.trans e)),Qa (fun z=>e2 (z.symm.trans e))];exact ih
  ·rw [Qa e];by_cases e2:d=c
   ·subst e2;rw [Qb rfl] at ih ⊢;unfold _E;rw [Qa e,Qa e];exact ih
   ·rw [Qa e2] at ih ⊢;unfold _E;by_cases e3:q.1=d
    ·rw [Qb e3,Qb e3]
    ·rw [Qa e3,Qa e3];exact ih
theorem _pT {κ α:Type} [DecidableEq κ] (l:List (κ×α)) (c d:κ) (x:α):_E d (putA l c x)=if d=c then some x else _E d l:=by
 unfold putA;by_cases h:(l.any fun q=>decide (q.1=c))=true
 ·rw [Qb h,_iu];by_cases e:d=c
  ·rw [Qb e,Qb e];cases hk:_E c l with
   |some y=>rfl
   |none=>rw [_bb hk] at h;cases h
  ·rw [Qa e,Qa e]
 ·rw [Qa h,_aP];by_cases e:d=c
  ·subst e;rw [Qb rfl,_ht (Rm.mpr h)];simp [_E]
  ·rw [Qa e];cases _E d l with
   |some y=>rfl
   |none=>simp [_E,Q4 e]
theorem V3 {κ α:Type} [DecidableEq κ] {c:κ}:∀{l:List (κ×α)} {x:α},_E c l=some x->(c,x)∈l
 |[],_,h=>by cases h
 |q::r,x,h=>by
  unfold _E at h;by_cases e:q.1=c
  ·rw [Qb e] at h;cases h;rw [←e];exact QI ..
  ·rw [Qa e] at h;exact QD _ (V3 h)
theorem _bn {κ κ' α:Type} [DecidableEq κ] [DecidableEq κ'] {f:κ->κ'} (hf:∀a b,f a=f b->a=b) (g:α->V) (c:κ):∀l:List (κ×α),_F (l.map fun q=>(f q.1,g q.2)) (f c)=(_E c l).map g
 |[]=>rfl
 |q::r=>by
  have ih:=_bn hf g c r;unfold _E;rw [Qw];by_cases e:q.1=c
  ·subst e;rw [Xw rfl,Qb rfl];rfl
  ·rw [Xz (fun z=>e (hf _ _ z)),Qa e];exact ih
noncomputable def Yv (B:Bk) (c:Str×Str):List (Int×Str):=((_E c B.ties).map (·.2)).getD []
noncomputable def YX (l:List (Int×Str)):Bool:=match (l.map (·.1)).max? with
 |none=>false
 |some m=>decide (_E m l=some ("union" : Str))
noncomputable def _a5 (B:Bk) (a b:Str):Bool:=YX (Yv B (_g a b))
noncomputable def YN (l:List (Int×Str)):List (_l×V):=l.map fun r=>(.inl r.1,.str r.2)
theorem _hZ:∀a b:Int,(.inl a:_l)=.inl b->a=b:=fun _ _ h=>Sum.inl.inj h
theorem _p5 {m:Int} (h:m∈l.map (·.1)):∃x,_E m l=some x:=by
 cases e:_E m l with
 |some x=>exact ⟨x,rfl⟩
 |none =>
  obtain ⟨q,hq,rfl⟩:=Qg.mp h;have:=_bb e;rw [Ny] at this;exact absurd (Qx rfl) (this q hq)
theorem _ge {m:Int} {x:Str} (hm:m∈l.map (·.1)) (hx:∀y∈l.map (·.1),y≤m) (e:_E m l=some x):YX l=decide (x="union"):=by
 have h:(l.map (·.1)).max?=some m:=List.max?_eq_some_iff.mpr ⟨hm,hx⟩;unfold YX;rw [h];show decide (_E m l=some ("union" : Str))=_;rw [e];simp
theorem _cv (a b:Str):_g a b=_g b a:=by
 unfold _g;by_cases h:_M b a=true
 ·by_cases h2:_M a b=true
  ·have l1:b.cps.toList<a.cps.toList:=Q8 h;have l2:a.cps.toList<b.cps.toList:=Q8 h2;exact absurd l1 (NZ l2)
  ·rw [Qb h,Qa h2]
 ·by_cases h2:_M a b=true
  ·rw [Qa h,Qb h2]
  ·rw [Qa h,Qa h2,JA (Rm.mpr h) (Rm.mpr h2)]
noncomputable def _O (F:Str×Str->List Str) (st:Bool) (x y:Str):Str×Str->List Str:=fun c =>
 if c=(("S",x):Str×Str) then (if st=true then _A ((F c).filter (fun n=>decide (n≠y))++[y]) else (F c).filter fun n=>decide (n≠y)) else F c
noncomputable def YZ (ts:List ((Str×Str)×Addr×List (Int×Str))) (c:Str×Str):List (Int×Str):=((_E c ts).map (·.2)).getD []
theorem _pX (B:Bk) (c:Str×Str):Yv B c=YZ B.ties c:=rfl
theorem _iw {ts:List ((Str×Str)×Addr×List (Int×Str))} {d:Addr} {l':List (Int×Str)} (n:(ts.map (·.1)).Nodup) (h:_E c ts=some (d,l)):(putA ts c (d,l')).map (·.2.1)=ts.map (·.2.1)∧(putA ts c (d,l')).map (·.1)=ts.map (·.1):=by
 have an:(ts.any fun q=>decide (q.1=c))=true:=by
  rw [GG];exact ⟨_,V3 h,Qx rfl⟩
 unfold putA;rw [Qb an,QP,QP];constructor
 ·refine Gn fun q hq=>?_;show (if q.1=c then (q.1,(d,l')) else q).2.1=q.2.1;by_cases e:q.1=c
  ·rw [Qb e]
   have:q.2=(d,l):=by
    have go:∀{ts:List ((Str×Str)×Addr×List (Int×Str))},(ts.map (·.1)).Nodup->_E c ts=some (d,l)->q∈ts->q.2=(d,l):=by
     intro ts
     induction ts with
     |nil=>intro _ _ h;cases h
     |cons p r ih =>
      intro n f m;rw [Qw,QS] at n;unfold _E at f;by_cases e2:p.1=c
      ·rw [Qb e2] at f;rcases Qj.mp m with rfl|m
       ·exact Qn f
       ·exact absurd (Qg.mpr ⟨q,m,e.trans e2.symm⟩) n.1
      ·rw [Qa e2] at f;rcases Qj.mp m with rfl|m
       ·exact absurd e e2
       ·exact ih n.2 f m
    exact go n h hq
   rw [this]
  ·rw [Qa e]
 ·refine Gn fun q hq=>?_;show (if q.1=c then (q.1,(d,l')) else q).1=q.1;split<;>rfl
theorem BkAt.newTie {k z:Addr} (h:BkAt K C H b dx k bi li ti su B) (nz:H z=some (.dK [])) (fr:z≠bi∧∀q∈B.ties,q.2.1≠z) (c:Str×Str) :
  BkAt K C (_c H ti (.dT (B.tiesD++[(_Z c,.ref z)]))) b dx k bi li ti su { B with ties:=B.ties++[(c,z,[])] }:=by
 obtain ⟨n1,n2,n3,n4,n5,n6⟩:=_eV h.ap;have dk:∀{a:Addr} {w:List (_l×V)},H a=some (.dK w)->a≠ti:=fun e=>Yg e h.ti (fun z=>by cases z)
 refine ⟨(_d (Yg h.ob h.ti (fun z=>by cases z))).trans h.ob,h.ap,?_,(_d n2).trans h.ke,(_d (dk h.bi)).trans h.bi,(_d n4).trans h.li,?_,(_d n6.symm).trans h.su,fun p hp=>X7 (h.en p hp) h.ti (fun _ z=>by cases z) (fun _ _ z=>by cases z),
  fun q hq=>(_d (Yg (h.ll q hq) h.ti (fun z=>by cases z))).trans (h.ll q hq),fun q hq=>?_⟩
 ·show (bi::(B.ties++[((c,z,[]):(Str×Str)×Addr×List (Int×Str))]).map (·.2.1)).Nodup;rw [Qo,←List.cons_append,QW];refine ⟨h.at',by simp,fun a ha x hx e=>?_⟩;have ex:x=z:=by simpa using hx
  subst ex e;rcases Qj.mp ha with rfl|ha
  ·exact fr.1 rfl
  ·obtain ⟨q,hq,rfl⟩:=Qg.mp ha;exact fr.2 q hq rfl
 ·rw [_f];show some (HO.dT _)=some (.dT ((B.ties++[((c,z,[]):(Str×Str)×Addr×List (Int×Str))]).map fun q=>(_Z q.1,V.ref q.2.1)));rw [Qo];rfl
 ·rcases Qh.mp hq with hq|hq
  ·exact (_d (dk (h.tt q hq))).trans (h.tt q hq)
  ·have e:q=(c,z,[]):=by simpa using hq
   subst e;exact (_d (dk nz)).trans nz
theorem BkAt.putTie {k d:Addr} (h:BkAt K C H b dx k bi li ti su B) (n:(B.ties.map (·.1)).Nodup) (f:_E c B.ties=some (d,l)) (l':List (Int×Str)) :
  BkAt K C (_c H d (.dK (YN l'))) b dx k bi li ti su { B with ties:=putA B.ties c (d,l') }:=by
 have hm:=V3 f;have hd:H d=some (.dK (YN l)):=h.tt _ hm;have at2:=h.at';rw [QS] at at2;have bd:bi≠d:=fun e=>at2.1 (Qg.mpr ⟨_,hm,e.symm⟩);have dt:∀{a:Addr} {w:List (List _l×V)},H a=some (.dT w)->a≠d:=fun e=>Yg e hd (fun z=>by cases z);obtain ⟨pa1,pa2⟩:=_iw (l':=l') n f
 refine ⟨(_d (Yg h.ob hd (fun z=>by cases z))).trans h.ob,h.ap,?_,(_d (dt h.ke)).trans h.ke,(_d bd).trans h.bi,(_d (dt h.li)).trans h.li,?_,(_d (dt h.su)).trans h.su,fun p hp=>X7 (h.en p hp) hd (fun _ z=>by cases z) (fun _ _ z=>by cases z),
  fun q hq=>(_d (Yg (h.ll q hq) hd (fun z=>by cases z))).trans (h.ll q hq),fun q hq=>?_⟩
 ·show (bi::(putA B.ties c (d,l')).map (·.2.1)).Nodup;rw [pa1];exact h.at'
 ·have e:(putA B.ties c (d,l')).map (fun q=>(_Z q.1,V.ref q.2.1))=B.tiesD:=by
   have e1:(fun q:(Str×Str)×Addr×List (Int×Str)=>(_Z q.1,V.ref q.2.1))=(fun p:(Str×Str)×Addr=>(_Z p.1,V.ref p.2))∘fun q=>(q.1,q.2.1):=rfl
   have e2:∀ts:List ((Str×Str)×Addr×List (Int×Str)),ts.map (fun q=>(q.1,q.2.1))=(ts.map (·.1)).zip (ts.map (·.2.1)):=fun ts=>by
    induction ts with
    |nil=>rfl
    |cons q r ih=>simp [ih]
   unfold Bk.tiesD;rw [e1,←QP,←QP,e2,e2,pa1,pa2]
  rw [_d (dt h.ti)];show H ti=some (.dT ((putA B.ties c (d,l')).map fun q=>(_Z q.1,V.ref q.2.1)));rw [e];exact h.ti
 ·rcases _a8 hq with rfl|hq2
  ·exact _f
  ·by_cases e:q.2.1=d
   ·-- the same address: the same pair
    have:q=(c,d,l)∨q=(c,d,l'):=by
     have hnd:=(QS.mp h.at').2
     have go:∀{ts:List ((Str×Str)×Addr×List (Int×Str))},(ts.map (·.2.1)).Nodup->(c,d,l)∈ts->q∈ts->q=(c,d,l):=by
      intro ts
      induction ts with
      |nil=>intro _ h;cases h
      |cons p r ih =>
       intro n h1 h2;rw [Qw,QS] at n;rcases Qj.mp h1 with e1|h1'
       ·rcases Qj.mp h2 with e2|h2'
        ·rw [e2,e1]
        ·rw [←e1] at n;exact absurd (Qg.mpr ⟨q,h2',e⟩) n.1
       ·rcases Qj.mp h2 with e2|h2'
        ·rw [←e2] at n;exact absurd (Qg.mpr ⟨(c,d,l),h1',e.symm⟩) n.1
        ·exact ih n.2 h1' h2'
     exact .inl (go hnd hm hq2)
    rcases this with rfl|rfl
    ·-- then it was told anew
     have an:(B.ties.any fun q=>decide (q.1=c))=true:=by
      rw [GG];exact ⟨_,hm,Qx rfl⟩
     unfold putA at hq;rw [Qb an] at hq;obtain ⟨p,hp,ep⟩:=Qg.mp hq;by_cases pc:p.1=c
     ·rw [Qb pc] at ep
      have:l'=l:=by
       have:=QB (fun z=>z.2.2) ep;exact this
      subst this;exact _f
     ·rw [Qa pc] at ep;subst ep;exact absurd rfl pc
    ·exact _f
   ·exact (_d e).trans (h.tt q hq2)
theorem _ni (ts:List ((Str×Str)×Addr×List (Int×Str))) (c x:Str×Str) (d:Addr) (l:List (Int×Str)):YZ (putA ts c (d,l)) x=if x=c then l else YZ ts x:=by
 unfold YZ;rw [_pT];by_cases e:x=c
 ·rw [Qb e,Qb e];rfl
 ·rw [Qa e,Qa e]
theorem _jq (ts:List ((Str×Str)×Addr×List (Int×Str))) (c x:Str×Str) (d:Addr) (h:_E c ts=none):YZ (ts++[(c,d,[])]) x=YZ ts x:=by
 unfold YZ;rw [_aP];cases e:_E x ts with
 |some y=>rfl
 |none =>
  unfold _E;by_cases e2:c=x
  ·rw [Qb e2];rfl
  ·rw [Qa e2];rfl
noncomputable def VO (y:Str) (n:Str):Option V:=if n=y then none else some (.str n)
theorem _hU (y:Str):∀l:List Str,(l.map (VO y)).filterMap id=(l.filter fun n=>decide (n≠y)).map V.str
 |[]=>rfl
 |n::r=>by
  have ih:=_hU y r;by_cases h:n=y
  ·subst h;simp only [Qw,Re,Ni];simpa [VO] using ih
  ·simp only [Qw,Re,Ni];simpa [VO,h] using ih
theorem _go (l:List ((Str×Str)×Addr×List Str)) (c d:Str×Str) (D:Addr) (z:List Str):lk (putA l c (D,z)) d=if d=c then z else lk l d:=by
 unfold lk;rw [_gd];by_cases e:d=c
 ·rw [Qb e,Qb e];rfl
 ·rw [Qa e,Qa e]
theorem _bQ (F:Str×Str->List Str) (st:Bool) (x y:Str) (c:Str×Str):(_O F st x y c).length≤(F c).length+1:=by
 unfold _O;have h:=List.length_filter_le (fun n=>decide (n≠y)) (F c);split
 ·split
  ·rw [(Wh _).length_eq,Qm];show _+1≤_;omega
  ·omega
 ·omega
theorem Jl (a b:Str):_g (_g a b).1 (_g a b).2=_g a b:=by
 unfold _g;by_cases h:_M b a=true
 ·rw [Qb h];show (if _M a b=true then (a,b) else (b,a))=(b,a);by_cases h2:_M a b=true
  ·have l1:b.cps.toList<a.cps.toList:=Q8 h;have l2:a.cps.toList<b.cps.toList:=Q8 h2;exact absurd l1 (NZ l2)
  ·rw [Qa h2]
 ·rw [Qa h];show (if _M b a=true then (b,a) else (a,b))=(a,b);rw [Qa h]
theorem _aE (e:Ent):e.told.told=e.told:=by
 cases e with
 |union a b d=>show Ent.union (_g (_g a b).1 (_g a b).2).1 (_g (_g a b).1 (_g a b).2).2 d=_;rw [Jl];rfl
 |_=>rfl
noncomputable def UL (F:Str×Str->List (Int×Str)):Ent->Str×Str->List (Int×Str)
 |.union a b d=>fun c=>if c=_g a b then putA (F (_g a b)) d "union" else F c
 |_=>F
noncomputable def WJ (F:Str×Str->List Str) (G:Str×Str->List (Int×Str)):Ent->Str×Str->List Str
 |.born n _ _ f m=>Xm F n f m
 |.taken c t _=>_2 (_2 F ("T",c) t) ("t",t) c
 |.union a b d=>_O (_O F (YX (putA (G (_g a b)) d "union")) a b) (YX (putA (G (_g a b)) d "union")) b a
noncomputable def VJ (ss:List ((Str×Str)×Int)) (c:Str×Str):Int:=(_E c ss).getD 0
noncomputable def _e9 (F:Str×Str->Int) (_:Ent):Str×Str->Int:=F
def GrowsT (H:Hp) (ts ts':List ((Str×Str)×Addr×List (Int×Str))):Prop:=∀a∈ts'.map (·.2.1),a∈ts.map (·.2.1)∨H a=none
theorem GrowsT.refl (H:Hp) (ts:List ((Str×Str)×Addr×List (Int×Str))):GrowsT H ts ts:=fun _ h=>.inl h
theorem GrowsT.back {ts ts':List ((Str×Str)×Addr×List (Int×Str))} (g:GrowsT H' ts ts') (al:∀a,H' a=none->H a=none):GrowsT H ts ts':=fun a ha=>(g a ha).imp id (al a)
structure Put (B:Bk) (e:Ent) (B':Bk):Prop where
 su:∀c,VJ B'.sums c=_e9 (VJ B.sums) e.told c
 kept:∃a,B'.kept=B.kept++[(e.told,a)]
 lks:∀c,lk B'.links c=WJ (lk B.links) (YZ B.ties) e.told c
 tis:∀c,YZ B'.ties c=UL (YZ B.ties) e.told c
 nd:(B'.ties.map (·.1)).Nodup
 nl:B'.links.length≤B.links.length+4
 nt:B'.ties.length≤B.ties.length+1
 ns:B'.sums.length≤B.sums.length+1
structure Room1 (B:Bk):Prop where
 nd:(B.ties.map (·.1)).Nodup
 nl:B.links.length≤870
 nt:B.ties.length≤790
 ns:B.sums.length≤790
 ll:∀c,(lk B.links c).length≤60
 tt:∀c,(YZ B.ties c).length≤790
theorem _m8 (h:H a=some o):_c H a o=H:=by
 funext c
 by_cases e:c=a
 ·subst e;rw [_f,h]
 ·rw [_d e]
theorem BkAt.kept {k:Addr} (h:BkAt K C H b dx k bi li ti su B) (ha:SqT K H a (e.row.map kV)) :
  BkAt K C (_c (_c H k (.dT (B.keptD++[(e.key,.ref a)]))) bi (.dK (Bk.bornD (B.kept++[(e,a)])))) b dx k bi li ti su { B with kept:=B.kept++[(e,a)] }:=by
 obtain ⟨n1,n2,n3,n4,n5,n6⟩:=_eV h.ap;have kb:k≠bi:=Yg h.ke h.bi (fun z=>by cases z);have at2:=QS.mp h.at';have dt:∀{c:Addr} {w:List (List _l×V)},H c=some (.dT w)->c≠k->(_c (_c H k (.dT (B.keptD++[(e.key,.ref a)]))) bi (.dK (Bk.bornD (B.kept++[(e,a)])))) c=some (.dT w):=fun hc n=>(_d (Yg hc h.bi (fun z=>by cases z))).trans ((_d n).trans hc)
 have sq:∀{c:Addr} {xs:List V},SqT K H c xs->SqT K (_c (_c H k (.dT (B.keptD++[(e.key,.ref a)]))) bi (.dK (Bk.bornD (B.kept++[(e,a)])))) c xs:=fun {c xs} hc=>by
  have h1:SqT K (_c H k (.dT (B.keptD++[(e.key,.ref a)]))) c xs:=X7 hc h.ke (fun _ z=>by cases z) (fun _ _ z=>by cases z);exact X7 h1 ((_d kb.symm).trans h.bi) (fun _ z=>by cases z) (fun _ _ z=>by cases z)
 refine ⟨(_d (Yg h.ob h.bi (fun z=>by cases z))).trans ((_d (Yg h.ob h.ke (fun z=>by cases z))).trans h.ob),h.ap,h.at',(_d kb).trans ?_,_f,dt h.li n1.symm,dt h.ti n2.symm,dt h.su n3.symm,fun p hp=>?_,fun q hq=>?_,fun q hq=>?_⟩
 ·rw [_f];show some (HO.dT _)=some (.dT ((B.kept++[(e,a)]).map fun p=>(p.1.key,V.ref p.2)));rw [Qo];rfl
 ·rcases Qh.mp hp with hp|hp
  ·exact sq (h.en p hp)
  ·have ep:p=(e,a):=by simpa using hp
   subst ep;exact sq ha
 ·exact (_d (Yg (h.ll q hq) h.bi (fun z=>by cases z))).trans ((_d (Yg (h.ll q hq) h.ke (fun z=>by cases z))).trans (h.ll q hq))
 ·exact (_d (fun z=>at2.1 (Qg.mpr ⟨q,hq,z⟩))).trans ((_d (Yg (h.tt q hq) h.ke (fun z=>by cases z))).trans (h.tt q hq))
theorem _qc {l:List (Ent×Addr)} (h:e.isBorn=false):Bk.bornD (l++[(e,a)])=Bk.bornD l:=by
 unfold Bk.bornD;rw [R5];cases e with
 |born=>cases h
 |_=>simp [Ent.bornName]
theorem _lH {l:List (Ent×Addr)} (h:_F (l.map fun p=>(p.1.key,V.ref p.2)) (Ent.born n s d f m).key=none):_3 n l=none:=by
 induction l with
 |nil=>rfl
 |cons p r ih =>
  unfold _3;rw [Qw] at h;by_cases e:p.1.bornName=some n
  ·exfalso
   have ek:p.1.key=(Ent.born n s d f m).key:=by
    cases hp:p.1 with
    |born n' s' d' f' m' =>
     rw [hp] at e;cases (show n'=n from Qn e);rfl
    |_=>rw [hp] at e;cases e
   rw [Xw ek] at h;cases h
  ·rw [Qa e];by_cases ek:p.1.key=(Ent.born n s d f m).key
   ·rw [Xw ek] at h;cases h
   ·rw [Xz ek] at h;exact ih h
theorem _iy (h:X2 B e=none):_F B.keptD e.told.key=none∧B.kept.length<400∧∀n∈e.named,Known B n:=by
 unfold X2 at h;by_cases f:B.full e=true
 ·rw [Qb f] at h;cases h
 rw [Qa f] at h;by_cases p:(e.named.all fun n=>(_3 n B.kept).isSome)=false
 ·rw [Qb p] at h;cases h
 rw [Qa p] at h;by_cases t:(_F B.keptD e.told.key).isSome=true
 ·rw [Qb t] at h;cases h
 refine ⟨by simpa using t,?_,fun n hn=>?_⟩
 ·unfold Bk.full at f;simp only [Gh,Nh,not_or] at f;omega
 ·have:=p;rw [Bool.not_eq_false] at this;rw [Ry] at this;have:=this n hn;unfold Known;exact Mf.mp this
theorem _gr (e:Ent) (n:Str):n∈e.told.named->n∈e.named:=by
 cases e with
 |union a b d =>
  show n∈[(_g a b).1,(_g a b).2]->n∈[a,b];unfold _g;split<;>simp<;>(intro h;rcases h with h|h<;>simp [h])
 |_=>exact id
theorem _iX (n:Str):∀(l m:List (Ent×Addr)),_3 n (l++m)=(_3 n l).or (_3 n m)
 |[],m=>by simp [_3]
 |p::r,m=>by
  show (if p.1.bornName=some n then some p else _3 n (r++m))=(if p.1.bornName=some n then some p else _3 n r).or (_3 n m);by_cases e:p.1.bornName=some n
  ·rw [Qb e,Qb e];rfl
  ·rw [Qa e,Qa e];exact _iX n r m
theorem Known.more {l:List (Ent×Addr)} (h:Known B n) (e:B'.kept=B.kept++l):Known B' n:=by
 unfold Known at *;rw [e,_iX];cases hb:_3 n B.kept with
 |none=>exact absurd hb h
 |some p=>simp
theorem VM {cs:List Int} {y:V} (h:(cs.map V.int)[i]?=some y):∃z,y=.int z∧cs[i]?=some z:=by
 rw [Qp] at h;obtain ⟨z,hz,e⟩:=QC.mp h;exact ⟨z,e.symm,hz⟩
theorem _fI (h1:-10 ^ 18≤d) (h2:d≤10 ^ 18):_d4 (.int d)=true:=by
 show decide ((if d<0 then -d else d)≤10 ^ 18)=true;exact Qx (by split<;>omega)
theorem _je {x:Str} (h:x=""∨Nm x):JU (.str x)=true:=by
 rcases h with h|h
 ·subst h;trivial
 ·unfold JU;rw [h.ok];rfl
theorem _oZ (h:s="he"∨s="she"∨s=""):Ua (.str s)=true:=by
 rcases h with h|h|h<;>subst h<;>trivial
theorem _aa {x:Str} (h:Nm x):x.length≤100:=Qk h.hi (by decide)
theorem _nR (hn:Nm n) (hs:s="he"∨s="she"∨s="") (d1:-10 ^ 18≤d) (d2:d≤10 ^ 18) (hf:f=""∨Nm f) (hm:m=""∨Nm m):(Ent.born n s d f m).Ok:=by
 refine ⟨?_,fun x hx=>?_⟩
 ·show V5 [.str "born",.str n,.str s,.int d,.str f,.str m]=true;rw [_aI,show VE "born"=some [.name,.sort,.day,.parent,.parent] by rfl];show Wb _ _=true;unfold Wb _Q;simp [_Q,UD,hn.ok,_oZ hs,_fI d1 d2,_je hf,_je hm]
 ·have hf':f.length≤100:=hf.elim (fun h=>by subst h;trivial) _aa;have hm':m.length≤100:=hm.elim (fun h=>by subst h;trivial) _aa;have hs':s.length≤100:=by rcases hs with h|h|h<;>subst h<;>trivial
  simp only [Ent.row,Qj,QN,QO] at hx;rcases hx with h|h|h|h|h|h
  ·cases h;trivial
  ·cases h;exact _aa hn
  ·cases h;exact hs'
  ·cases h
  ·cases h;exact hf'
  ·cases h;exact hm'
theorem _aY {w a b:Str} (hw:w="taken"∨w="union"∨w="parted") (ha:Nm a) (hb:Nm b) (d1:-10 ^ 18≤d) (d2:d≤10 ^ 18):V5 [.str w,.str a,.str b,.int d]=true:=by
 rw [_aI];have:VE w=some [.name,.name,.day]:=by rcases hw with h|h|h<;>subst h<;>rfl
 rw [this];show Wb _ _=true;unfold Wb;simp [_Q,UD,ha.ok,hb.ok,_fI d1 d2]
theorem _bq {w a b:Str} (hw:w.length≤100) (ha:Nm a) (hb:Nm b):∀x:Str,(.inr x:_l)∈([.inr w,.inr a,.inr b,.inl d]:List _l)->x.length≤100:=fun x hx=>by
 simp only [Qj,QN,QO] at hx;rcases hx with h|h|h|h
 ·cases h;exact hw
 ·cases h;exact _aa ha
 ·cases h;exact _aa hb
 ·cases h
theorem _if {n s f m:Str} {d:Int}:∀{l:List (Ent×Addr)},Ent.born n s d f m∈l.map (·.1)->(∀{s' d' f' m'},Ent.born n s' d' f' m'∈l.map (·.1)->Ent.born n s' d' f' m'=.born n s d f m)->∃a,_3 n l=some (.born n s d f m,a)
 |[],h,_=>by cases h
 |p::r,h,u=>by
  unfold _3;by_cases e:p.1.bornName=some n
  ·rw [Qb e];cases hp:p.1 with
   |born n' s' d' f' m' =>
    rw [hp] at e;cases (show n'=n from Qn e);have:=u (s':=s') (d':=d') (f':=f') (m':=m') (by rw [Qw,hp];exact QI ..);refine ⟨p.2,?_⟩;rw [←this,←hp]
   |_=>rw [hp] at e;cases e
  ·rw [Qa e]
   have h':Ent.born n s d f m∈r.map (·.1):=by
    rw [Qw] at h;rcases Qj.mp h with h|h
    ·exfalso;rw [←h] at e;exact e rfl
    ·exact h
   exact _if h' fun hm=>u (by rw [Qw];exact QD _ hm)
abbrev _N:=Str×Str->List Str
abbrev XT:=Str×Str->List (Int×Str)
noncomputable def UG (p:_N×XT) (e:Ent):_N×XT:=(WJ p.1 p.2 e,UL p.2 e)
noncomputable def Yx (es:List Ent):_N×XT:=es.foldl UG (fun _=>[],fun _=>[])
theorem _bv (es:List Ent) (e:Ent):Yx (es++[e])=UG (Yx es) e:=by
 unfold Yx;rw [N1];rfl
noncomputable def W8 (n:Str):Ent->List Str
 |.born n' _ _ f _=>if n'=n∧f≠"" then [f] else []
 |_=>[]
noncomputable def Vb (n:Str):Ent->List Str
 |.born n' _ _ _ m=>if n'=n∧m≠"" then [m] else []
 |_=>[]
noncomputable def WZ (n:Str):Ent->List Str
 |.born n' _ _ f _=>if f=n∧f≠"" then [n'] else []
 |_=>[]
noncomputable def Vd (n:Str):Ent->List Str
 |.born n' _ _ _ m=>if m=n∧m≠"" then [n'] else []
 |_=>[]
noncomputable def addT (n:Str):Ent->List Str
 |.taken c t _=>if c=n then [t] else []
 |_=>[]
noncomputable def VA (n:Str):Ent->List Str
 |.taken c t _=>if t=n then [c] else []
 |_=>[]
theorem _hY {l:List Str} (h:l.Pairwise fun a b=>YA a b=true):_A l=l:=Jp (Wh l) (V2 l) h
theorem _qj (l m:List Str):_A (_A l++m)=_A (l++m) :=
 Jp ((Wh _).trans (((Wh l).append_right m).trans (Wh _).symm)) (V2 _) (V2 _)
theorem YO (F:_N) (l n l' n' m:Str):_2 F (l,n) m (l',n')=if l'=l∧n'=n then _A (F (l,n)++[m]) else F (l',n'):=by
 unfold _2;by_cases h:l'=l∧n'=n
 ·obtain ⟨rfl,rfl⟩:=h;rw [Qb rfl,Qb ⟨rfl,rfl⟩]
 ·rw [Qa (fun e=>h (by injection e with a b;exact ⟨a,b⟩)),Qa h]
theorem Xy (F:_N) (st:Bool) (x y l n:Str) (h:l≠"S"):_O F st x y (l,n)=F (l,n):=by
 unfold _O;rw [Qa (fun e=>h (by injection e))]
structure Adds (l:Str) (ad:Str->Ent->List Str):Prop where
 step:∀(F:_N) (G:XT) (e:Ent) (n:Str),(F (l,n)).Pairwise (fun a b=>YA a b=true)->WJ F G e (l,n)=_A (F (l,n)++ad n e)
theorem Y2 {l:List Str} (h:l.Pairwise fun a b=>YA a b=true):l=_A (l++[]):=by rw [QU,_hY h]
theorem Jd (F:_N) (n f m l x:Str):Xm F n f m (l,x) =
  if l="F"∧x=n∧f≠"" then _A (F ("F",n)++[f]) else if l="f"∧x=f∧f≠"" then _A (F ("f",f)++[n]) else
  if l="M"∧x=n∧m≠"" then _A (F ("M",n)++[m]) else if l="m"∧x=m∧m≠"" then _A (F ("m",m)++[n]) else F (l,x):=by
 have d1:("F" : Str)≠"f":=by trivial
 have d2:("F" : Str)≠"M":=by trivial
 have d3:("F" : Str)≠"m":=by trivial
 have d4:("f" : Str)≠"M":=by trivial
 have d5:("f" : Str)≠"m":=by trivial
 have d6:("M" : Str)≠"m":=by trivial
 unfold Xm;by_cases f0:f=""<;>by_cases m0:m=""<;>simp only [f0,m0,RF,Q6,YO,ne_eq,not_true_eq_false,N3,and_false,and_true]
 ·by_cases h1:l="m"∧x=m
  ·obtain ⟨rfl,rfl⟩:=h1;simp [d3.symm,d5.symm,d6.symm,d6]
  ·by_cases h2:l="M"∧x=n
   ·obtain ⟨rfl,rfl⟩:=h2;simp [d6]
   ·simp [h1,h2]
 ·by_cases h1:l="f"∧x=f
  ·obtain ⟨rfl,rfl⟩:=h1;simp [d1,d1.symm]
  ·by_cases h2:l="F"∧x=n
   ·obtain ⟨rfl,rfl⟩:=h2;simp [d1]
   ·simp [h1,h2]
 ·by_cases h1:l="m"∧x=m
  ·obtain ⟨rfl,rfl⟩:=h1;simp [d3.symm,d5.symm,d6.symm,d6,d3,d5]
  ·by_cases h2:l="M"∧x=n
   ·obtain ⟨rfl,rfl⟩:=h2;simp [d6,d2,d4,d2.symm,d4.symm]
   ·by_cases h3:l="f"∧x=f
    ·obtain ⟨rfl,rfl⟩:=h3;simp [d1,d1.symm,d4,d5]
    ·by_cases h4:l="F"∧x=n
     ·obtain ⟨rfl,rfl⟩:=h4;simp [d1,d2,d3]
     ·simp [h1,h2,h3,h4]
theorem _hf:Adds "F" W8:=⟨fun F G e n s=>by
 cases e with
 |born n' s' d f m =>
  show Xm F n' f m ("F",n)=_;rw [Jd];dsimp only [W8];by_cases h:n'=n∧f≠""
  ·rw [Qb h,Qb ⟨rfl,h.1.symm,h.2⟩,h.1]
  ·rw [Qa h,Qa (fun z=>h ⟨z.2.1.symm,z.2.2⟩),Qa (fun z=>absurd z.1 (by trivial)),Qa (fun z=>absurd z.1 (by trivial)),Qa (fun z=>absurd z.1 (by trivial))];exact Y2 s
 |taken c t d=>show _2 (_2 F ("T",c) t) ("t",t) c ("F",n)=_;rw [YO,Qa (fun z=>absurd z.1 (by trivial)),YO,Qa (fun z=>absurd z.1 (by trivial))];exact Y2 s
 |union a b d=>show _O _ _ _ _ _=_;rw [Xy _ _ _ _ _ _ (by trivial),Xy _ _ _ _ _ _ (by trivial)];exact Y2 s⟩
theorem _is:Adds "M" Vb:=⟨fun F G e n s=>by
 cases e with
 |born n' s' d f m =>
  show Xm F n' f m ("M",n)=_;rw [Jd,Qa (fun z=>absurd z.1 (by trivial)),Qa (fun z=>absurd z.1 (by trivial))];dsimp only [Vb];by_cases h:n'=n∧m≠""
  ·rw [Qb h,Qb ⟨rfl,h.1.symm,h.2⟩,h.1]
  ·rw [Qa h,Qa (fun z=>h ⟨z.2.1.symm,z.2.2⟩),Qa (fun z=>absurd z.1 (by trivial))];exact Y2 s
 |taken c t d=>show _2 (_2 F ("T",c) t) ("t",t) c ("M",n)=_;rw [YO,Qa (fun z=>absurd z.1 (by trivial)),YO,Qa (fun z=>absurd z.1 (by trivial))];exact Y2 s
 |union a b d=>show _O _ _ _ _ _=_;rw [Xy _ _ _ _ _ _ (by trivial),Xy _ _ _ _ _ _ (by trivial)];exact Y2 s⟩
theorem _iE:Adds "f" WZ:=⟨fun F G e n s=>by
 cases e with
 |born n' s' d f m =>
  show Xm F n' f m ("f",n)=_;rw [Jd,Qa (fun z=>absurd z.1 (by trivial))];dsimp only [WZ];by_cases h:f=n∧f≠""
  ·rw [Qb h,Qb ⟨rfl,h.1.symm,h.2⟩,h.1]
  ·rw [Qa h,Qa (fun z=>h ⟨z.2.1.symm,z.2.2⟩),Qa (fun z=>absurd z.1 (by trivial)),Qa (fun z=>absurd z.1 (by trivial))];exact Y2 s
 |taken c t d=>show _2 (_2 F ("T",c) t) ("t",t) c ("f",n)=_;rw [YO,Qa (fun z=>absurd z.1 (by trivial)),YO,Qa (fun z=>absurd z.1 (by trivial))];exact Y2 s
 |union a b d=>show _O _ _ _ _ _=_;rw [Xy _ _ _ _ _ _ (by trivial),Xy _ _ _ _ _ _ (by trivial)];exact Y2 s⟩
theorem _f0:Adds "m" Vd:=⟨fun F G e n s=>by
 cases e with
 |born n' s' d f m =>
  show Xm F n' f m ("m",n)=_;rw [Jd,Qa (fun z=>absurd z.1 (by trivial)),Qa (fun z=>absurd z.1 (by trivial)),Qa (fun z=>absurd z.1 (by trivial))];dsimp only [Vd];by_cases h:m=n∧m≠""
  ·rw [Qb h,Qb ⟨rfl,h.1.symm,h.2⟩,h.1]
  ·rw [Qa h,Qa (fun z=>h ⟨z.2.1.symm,z.2.2⟩)];exact Y2 s
 |taken c t d=>show _2 (_2 F ("T",c) t) ("t",t) c ("m",n)=_;rw [YO,Qa (fun z=>absurd z.1 (by trivial)),YO,Qa (fun z=>absurd z.1 (by trivial))];exact Y2 s
 |union a b d=>show _O _ _ _ _ _=_;rw [Xy _ _ _ _ _ _ (by trivial),Xy _ _ _ _ _ _ (by trivial)];exact Y2 s⟩
theorem U9 (F:_N) (n f m l x:Str) (h1:l≠"F") (h2:l≠"f") (h3:l≠"M") (h4:l≠"m"):Xm F n f m (l,x)=F (l,x):=by
 rw [Jd,Qa (fun z=>h1 z.1),Qa (fun z=>h2 z.1),Qa (fun z=>h3 z.1),Qa (fun z=>h4 z.1)]
theorem _gL:Adds "T" addT:=⟨fun F G e n s=>by
 cases e with
 |born n' s' d f m=>show Xm F n' f m ("T",n)=_;rw [U9 _ _ _ _ _ _ (by trivial) (by trivial) (by trivial) (by trivial)];exact Y2 s
 |taken c t d =>
  show _2 (_2 F ("T",c) t) ("t",t) c ("T",n)=_;rw [YO,Qa (fun z=>absurd z.1 (by trivial)),YO];dsimp only [addT];by_cases h:c=n
  ·rw [Qb h,Qb ⟨rfl,h.symm⟩,h]
  ·rw [Qa h,Qa (fun z=>h z.2.symm)];exact Y2 s
 |union a b d=>show _O _ _ _ _ _=_;rw [Xy _ _ _ _ _ _ (by trivial),Xy _ _ _ _ _ _ (by trivial)];exact Y2 s⟩
theorem _hV:Adds "t" VA:=⟨fun F G e n s=>by
 cases e with
 |born n' s' d f m=>show Xm F n' f m ("t",n)=_;rw [U9 _ _ _ _ _ _ (by trivial) (by trivial) (by trivial) (by trivial)];exact Y2 s
 |taken c t d =>
  show _2 (_2 F ("T",c) t) ("t",t) c ("t",n)=_;rw [YO];dsimp only [VA];by_cases h:t=n
  ·rw [Qb h,Qb ⟨rfl,h.symm⟩,YO,Qa (fun z=>absurd z.1 (by trivial)),h]
  ·rw [Qa h,Qa (fun z=>h z.2.symm),YO,Qa (fun z=>absurd z.1 (by trivial))];exact Y2 s
 |union a b d=>show _O _ _ _ _ _=_;rw [Xy _ _ _ _ _ _ (by trivial),Xy _ _ _ _ _ _ (by trivial)];exact Y2 s⟩
theorem Adds.all {l:Str} {ad:Str->Ent->List Str} (A:Adds l ad) (n:Str):∀es:List Ent,(Yx es).1 (l,n)=_A (es.flatMap (ad n)):=by
 intro es
 have go:∀(es:List Ent) (p:_N×XT) (xs:List Str),p.1 (l,n)=_A xs->(es.foldl UG p).1 (l,n)=_A (xs++es.flatMap (ad n)):=by
  intro es
  induction es with
  |nil=>intro p xs h;rw [List.flatMap_nil,QU];exact h
  |cons e es ih =>
   intro p xs h;rw [Rb,N4,←Gd];refine ih _ (xs++ad n e) ?_;show WJ p.1 p.2 e (l,n)=_;rw [A.step p.1 p.2 e n (by rw [h];exact V2 _),h,_qj]
 exact go es _ [] (_hY .nil).symm
noncomputable def Ent.pr:Ent->Str×Str
 |.union a b _=>(a,b)
 |_=>("","")
noncomputable def Ent.kind:Ent->Str
 |.union ..=>"union"
 |_=>""
def Wq (e:Ent):Prop:=e.tie=true->e.pr.1≠e.pr.2
theorem _cN {a b w:Str} (h:_g n w=_g a b):(n=a∧w=b)∨(n=b∧w=a):=by
 unfold _g at h;split at h<;>split at h<;>injection h with h1 h2
 ·exact .inl ⟨h2,h1⟩
 ·exact .inr ⟨h2,h1⟩
 ·exact .inr ⟨h1,h2⟩
 ·exact .inl ⟨h1,h2⟩
noncomputable def WF (st:Bool) (L:List Str) (y:Str):List Str:=if st=true then _A (L.filter (fun n=>decide (n≠y))++[y]) else L.filter fun n=>decide (n≠y)
theorem _g0 (h:L.Pairwise fun a b=>YA a b=true):(WF st L y).Pairwise fun a b=>YA a b=true:=by
 unfold WF;split
 ·exact V2 _
 ·exact h.filter _
theorem _iV {p:Str->Bool} (h:L.Nodup):(L.filter p).Nodup:=List.Pairwise.filter p h
theorem _gl (h:L.Nodup):(WF st L y).Nodup:=by
 unfold WF;split
 ·refine (Wh _).symm.nodup ?_;rw [QW];refine ⟨_iV h,by simp,fun a ha b hb e=>?_⟩;have:b=y:=by simpa using hb
  subst this e;have:=(RC.mp ha).2;simp at this
 ·exact _iV h
theorem _iP {w:Str}:w∈WF st L y↔(w≠y∧w∈L)∨(w=y∧st=true):=by
 unfold WF;by_cases h:st=true
 ·rw [Qb h,(Wh _).mem_iff,Qh,RC];simp [h,and_comm]
 ·rw [Qa h,RC];simp [h,and_comm]
theorem _cC (F:_N) (st:Bool) (x y n:Str):_O F st x y ("S",n)=if n=x then WF st (F ("S",x)) y else F ("S",n):=by
 unfold _O WF;by_cases h:n=x
 ·subst h;rw [Qb rfl,Qb rfl]
 ·rw [Qa (fun e=>h (by injection e)),Qa h]
structure SOk (F:_N) (G:XT):Prop where
 up:∀n,(F ("S",n)).Pairwise fun a b=>YA a b=true
 nd:∀n,(F ("S",n)).Nodup
 mem:∀n w,w∈F ("S",n)↔YX (G (_g n w))=true
theorem _o0 {F:_N} {G:XT} {a b:Str} (ne:a≠b) (h:SOk F G) (l:List (Int×Str)) :
  SOk (_O (_O F (YX l) a b) (YX l) b a) (fun c=>if c=_g a b then l else G c):=by
 have e:∀n,_O (_O F (YX l) a b) (YX l) b a ("S",n)=if n=b then WF (YX l) (F ("S",b)) a else if n=a then WF (YX l) (F ("S",a)) b else F ("S",n):=fun n=>by
  rw [_cC];by_cases h1:n=b
  ·rw [Qb h1,Qb h1,_cC,Qa ne.symm]
  ·rw [Qa h1,Qa h1,_cC]
 refine ⟨fun n=>?_,fun n=>?_,fun n w=>?_⟩
 ·rw [e];split
  ·exact _g0 (h.up _)
  ·split
   ·exact _g0 (h.up _)
   ·exact h.up _
 ·rw [e];split
  ·exact _gl (h.nd _)
  ·split
   ·exact _gl (h.nd _)
   ·exact h.nd _
 ·rw [e];show _↔YX (if _g n w=_g a b then l else G (_g n w))=true;by_cases h1:n=b
  ·subst h1;rw [Qb rfl,_iP];by_cases h2:w=a
   ·subst h2;rw [Qb (_cv n w)];simp
   ·rw [Qa (fun z=>(_cN z).elim (fun e=>ne e.1.symm) fun e=>h2 e.2),←h.mem];simp [h2]
  ·rw [Qa h1];by_cases h3:n=a
   ·subst h3;rw [Qb rfl,_iP];by_cases h2:w=b
    ·subst h2;rw [Qb rfl];simp
    ·rw [Qa (fun z=>(_cN z).elim (fun e=>h2 e.2) fun e=>h1 e.1),←h.mem];simp [h2]
   ·rw [Qa h3,Qa (fun z=>(_cN z).elim (fun e=>h3 e.1) fun e=>h1 e.1),←h.mem]
theorem SOk.same {F F':_N} {G:XT} (h:SOk F G) (e:∀n,F' ("S",n)=F ("S",n)):SOk F' G:=⟨fun n=>by rw [e];exact h.up n,fun n=>by rw [e];exact h.nd n,fun n w=>by rw [e];exact h.mem n w⟩
theorem _jz {F:_N} {G:XT} (ap:Wq e) (h:SOk F G):SOk (WJ F G e) (UL G e):=by
 cases e with
 |union a b d=>exact _o0 (ap rfl) h _
 |born n s d f m=>exact h.same fun n'=>U9 _ _ _ _ _ _ (by trivial) (by trivial) (by trivial) (by trivial)
 |taken c t d =>
  refine h.same fun n'=>?_;show _2 (_2 F ("T",c) t) ("t",t) c ("S",n')=_;rw [YO,Qa (fun z=>absurd z.1 (by trivial)),YO,Qa (fun z=>absurd z.1 (by trivial))]
theorem _mi (h:∀e∈es,Wq e):SOk (Yx es).1 (Yx es).2:=by
 have go:∀(es:List Ent) (p:_N×XT),(∀e∈es,Wq e)->SOk p.1 p.2->SOk (es.foldl UG p).1 (es.foldl UG p).2:=by
  intro es
  induction es with
  |nil=>intro p _ h;exact h
  |cons e es ih =>
   intro p ha h;exact ih _ (fun x hx=>ha x (QD _ hx)) (_jz (ha e (QI ..)) h)
 exact go es _ h ⟨fun n=>.nil,fun n=>.nil,fun n w=>by simp [YX]⟩
noncomputable def tl (c:Str×Str) (es:List Ent):List (Int×Str):=es.filterMap fun e=>if e.tie=true∧_g e.pr.1 e.pr.2=c then some (e.day,e.kind) else none
theorem _oT {k:Str} (h:d∉l.map (·.1)):putA l d k=l++[(d,k)]:=by
 unfold putA;rw [Qa];intro z;rw [GG] at z;obtain ⟨q,hq,e⟩:=z;exact h (Qg.mpr ⟨q,hq,Q8 e⟩)
theorem _l6 {G:XT} (hG:∀c,G c=tl c es) (n:e.tie=true->e.day∉(tl (_g e.pr.1 e.pr.2) es).map (·.1)) (c:Str×Str):UL G e c=tl c (es++[e]):=by
 have ap:tl c (es++[e])=tl c es++tl c [e]:=by unfold tl;rw [R5]
 rw [ap];cases e with
 |union a b d =>
  show (if c=_g a b then putA (G (_g a b)) d "union" else G c)=_;by_cases h:c=_g a b
  ·subst h;have n':d∉(tl (_g a b) es).map (·.1):=n rfl;rw [Qb rfl,hG,_oT n'];simp [tl,Ent.tie,Ent.pr,Ent.day,Ent.kind]
  ·rw [Qa h,hG];simp [tl,Ent.tie,Ent.pr,Q4 h]
 |_=>rw [show UL G _ c=G c from rfl,hG];simp [tl,Ent.tie]
def Once (es:List Ent):Prop:=∀c,((tl c es).map (·.1)).Nodup
theorem Once.init (h:Once (es++[e])):Once es∧(e.tie=true->e.day∉(tl (_g e.pr.1 e.pr.2) es).map (·.1)):=by
 have ap:∀c,tl c (es++[e])=tl c es++tl c [e]:=fun c=>by unfold tl;rw [R5]
 refine ⟨fun c=>?_,fun t m=>?_⟩
 ·have:=h c;rw [ap,Qo,QW] at this;exact this.1
 ·have:=h (_g e.pr.1 e.pr.2);rw [ap,Qo,QW] at this;have e1:tl (_g e.pr.1 e.pr.2) [e]=[(e.day,e.kind)]:=by simp [tl,t]
  rw [e1] at this;exact this.2.2 _ m _ (QI ..) rfl
theorem _hg (h:Once es) (c:Str×Str):(Yx es).2 c=tl c es:=by
 have go:∀n (es:List Ent),es.length=n->Once es->∀c,(Yx es).2 c=tl c es:=by
  intro n
  induction n with
  |zero =>
   intro es hl _ c;rw [List.length_eq_zero_iff.mp hl];rfl
  |succ n ih =>
   intro es hl ho c;obtain ⟨xs,x,rfl⟩:∃xs x,es=xs++[x]:=⟨es.dropLast,es.getLast (by intro z;rw [z] at hl;cases hl),(NY _).symm⟩;obtain ⟨o1,o2⟩:=ho.init;rw [_bv];exact _l6 (ih xs (by rw [Qm] at hl;exact Nat.succ.inj hl) o1) o2 c
 exact go _ es rfl h c
noncomputable def WS (a b:Str) (last:Option Ent) (e:Ent):Option Ent:=if e.tie=true∧_g e.pr.1 e.pr.2=_g a b then (match last with|none=>some e|some l=>if l.day<e.day then some e else some l) else last
noncomputable def _am (ds:List Ent) (a b:Str):Bool:=match ds.foldl (WS a b) none with
 |some e=>decide (e.kind="union")
 |none=>false
def UV (last:Option Ent) (l:List (Int×Str)):Prop:=match last with
 |none=>l=[]
 |some e=>(e.day,e.kind)∈l∧∀q∈l,q.1≤e.day
theorem _o2 {a b:Str} {last:Option Ent} (h:UV last (tl (_g a b) xs)):UV (WS a b last e) (tl (_g a b) (xs++[e])):=by
 have ap:tl (_g a b) (xs++[e])=tl (_g a b) xs++tl (_g a b) [e]:=by unfold tl;rw [R5]
 rw [ap];unfold WS;by_cases c:e.tie=true∧_g e.pr.1 e.pr.2=_g a b
 ·rw [Qb c];have e1:tl (_g a b) [e]=[(e.day,e.kind)]:=by unfold tl;simp [c.1,c.2]
  rw [e1];cases last with
  |none =>
   have h':tl (_g a b) xs=[]:=h;rw [h'];exact ⟨QI ..,fun q hq=>by rw [show q=(e.day,e.kind) by simpa using hq];exact Nd _⟩
  |some l =>
   obtain ⟨h1,h2⟩:=(show (l.day,l.kind)∈tl (_g a b) xs∧∀q∈tl (_g a b) xs,q.1≤l.day from h);by_cases lt:l.day<e.day
   ·show UV (if l.day<e.day then some e else some l) _;rw [Qb lt];refine ⟨by simp,fun q hq=>?_⟩;rcases Qh.mp hq with hq|hq
    ·have:=h2 q hq;show q.1≤e.day;omega
    ·rw [show q=(e.day,e.kind) by simpa using hq];exact Nd _
   ·show UV (if l.day<e.day then some e else some l) _;rw [Qa lt];refine ⟨Qh.mpr (.inl h1),fun q hq=>?_⟩;rcases Qh.mp hq with hq|hq
    ·exact h2 q hq
    ·rw [show q=(e.day,e.kind) by simpa using hq];show e.day≤l.day;omega
 ·rw [Qa c];have e1:tl (_g a b) [e]=[]:=by unfold tl;simp [c]
  rw [e1,QU];exact h
theorem _gP {a b:Str}:∀(ds xs:List Ent) (last:Option Ent),UV last (tl (_g a b) xs)->UV (ds.foldl (WS a b) last) (tl (_g a b) (xs++ds))
 |[],xs,last,h=>by rw [QU];exact h
 |e::ds,xs,last,h=>by
  rw [Rb,show xs++e::ds=(xs++[e])++ds by simp];exact _gP ds (xs++[e]) _ (_o2 h)
theorem _j7 {m:Int} {k:Str}:(l.map (·.1)).Nodup->(m,k)∈l->_E m l=some k:=by
 induction l with
 |nil=>intro _ h;cases h
 |cons q r ih =>
  intro n h;rw [Qw,QS] at n;unfold _E;rcases Qj.mp h with h|h
  ·rw [Qb (by rw [←h]),←h]
  ·rw [Qa (fun z=>n.1 (Qg.mpr ⟨(m,k),h,z.symm⟩))];exact ih n.2 h
theorem _of {ds:List Ent} (o:Once ds) (a b:Str):_am ds a b=YX (tl (_g a b) ds):=by
 have h:=_gP (a:=a) (b:=b) ds [] none rfl;rw [List.nil_append] at h;unfold _am;cases hl:ds.foldl (WS a b) none with
 |none =>
  rw [hl] at h;rw [show tl (_g a b) ds=[] from h];rfl
 |some e =>
  rw [hl] at h;obtain ⟨h1,h2⟩:=(show (e.day,e.kind)∈tl (_g a b) ds∧∀q∈tl (_g a b) ds,q.1≤e.day from h)
  have:=_ge (l:=tl (_g a b) ds) (m:=e.day) (x:=e.kind) (Qg.mpr ⟨_,h1,rfl⟩) (fun y hy=>by
   obtain ⟨q,hq,rfl⟩:=Qg.mp hy;exact h2 q hq) (_j7 (o _) h1)
  rw [this]
theorem _kc (e:Ent):e.told.tie=e.tie∧_g e.told.pr.1 e.told.pr.2=_g e.pr.1 e.pr.2∧e.told.day=e.day∧e.told.kind=e.kind:=by
 cases e with
 |union a b d=>exact ⟨rfl,Jl a b,rfl,rfl⟩
 |_=>exact ⟨rfl,rfl,rfl,rfl⟩
theorem _jC (h:Wq e):Wq e.told:=fun t=>by
 obtain ⟨h1,h2,_,_⟩:=_kc e;rw [h1] at t;have ne:=h t;intro z;apply ne
 have:∀a b:Str,(_g a b).1=(_g a b).2->a=b:=fun a b h=>by
  unfold _g at h;split at h
  ·exact h.symm
  ·exact h
 cases e with
 |union a b d=>exact this a b z
 |_=>cases t
theorem _gp {f:Ent->List Str} (h:∀e,(f e).length≤1):∀l:List Ent,(l.flatMap f).length≤l.length
 |[]=>Qe _
 |e::l=>by
  rw [N4,Qm,QJ];have:=_gp h l;have:=h e;omega
theorem UZ (n:Str) (e:Ent):(W8 n e).length≤1∧(Vb n e).length≤1∧(WZ n e).length≤1∧(Vd n e).length≤1∧(addT n e).length≤1∧(VA n e).length≤1:=by
 cases e<;>simp only [W8,Vb,WZ,Vd,addT,VA]<;>refine ⟨?_,?_,?_,?_,?_,?_⟩<;>(try split)<;>simp
theorem _pS {l:Str} (h:l∉XD) (n:Str):(Yx es).1 (l,n)=[]:=by
 have hh:l≠"F"∧l≠"M"∧l≠"T"∧l≠"f"∧l≠"m"∧l≠"t"∧l≠"S":=by simpa [XD] using h
 obtain ⟨h1,h2,h3,h4,h5,h6,h7⟩:=hh
 have go:∀(es:List Ent) (p:_N×XT),p.1 (l,n)=[]->(es.foldl UG p).1 (l,n)=[]:=by
  intro es
  induction es with
  |nil=>intro p h;exact h
  |cons e es ih =>
   intro p h;rw [Rb];refine ih _ ?_;show WJ p.1 p.2 e (l,n)=[];cases e with
   |born n' s d f m=>show Xm p.1 n' f m (l,n)=[];rw [U9 _ _ _ _ _ _ h1 h4 h2 h5];exact h
   |taken c t d=>show _2 (_2 p.1 ("T",c) t) ("t",t) c (l,n)=[];rw [YO,Qa (fun z=>h6 z.1),YO,Qa (fun z=>h3 z.1)];exact h
   |union a b d=>show _O _ _ _ _ _=[];rw [Xy _ _ _ _ _ _ h7,Xy _ _ _ _ _ _ h7];exact h
 exact go es _ rfl
structure BSt (B:Bk) (es:List Ent):Prop where
 kept:B.kept.map (·.1)=es
 lks:lk B.links=(Yx es).1
 tis:YZ B.ties=(Yx es).2
 nd:(B.ties.map (·.1)).Nodup
 nl:B.links.length≤4*es.length
 nt:B.ties.length≤es.length
 ns:B.sums.length≤es.length
theorem BSt.start:BSt W3 []:=⟨rfl,rfl,rfl,.nil,Qe _,Qe _,Qe _⟩
theorem BSt.put (h:BSt B es) (p:Put B e B'):BSt B' (es++[e.told]):=by
 obtain ⟨a,hk⟩:=p.kept;have l1:(es++[e.told]).length=es.length+1:=by rw [Qm];rfl
 have n1:=p.nl;have n2:=p.nt;have n3:=p.ns;have m1:=h.nl;have m2:=h.nt;have m3:=h.ns;refine ⟨by rw [hk,Qo,h.kept];rfl,?_,?_,p.nd,by omega,by omega,by omega⟩
 ·funext c
  rw [_bv,p.lks,h.lks,h.tis];rfl
 ·funext c
  rw [_bv,p.tis,h.tis];rfl
theorem _jx (c:Str×Str) (es:List Ent):(tl c es).length≤es.length:=Rn ..
theorem _gQ {κ:Type} [DecidableEq κ] {k:κ}:∀{l:List (κ×V)},(∀p∈l,p.1≠k)->_F l k=none
 |[],_=>rfl
 |p::l,h=>by
  rw [Xz (h p (QI ..))];exact _gQ fun q hq=>h q (QD _ hq)
theorem _mu (hk:B.kept.map (·.1)=es) {k:List _l} (h:∀e∈es,e.key≠k):_F B.keptD k=none:=by
 refine _gQ fun p hp=>?_;obtain ⟨q,hq,rfl⟩:=Qg.mp hp;exact h q.1 (by rw [←hk];exact Qg.mpr ⟨q,hq,rfl⟩)
theorem _ia (hk:B.kept.map (·.1)=es):B.kept.length=es.length:=by rw [←hk,Qc]
theorem _ij {K:W.Frag} {H:Hp}:∀zs:List Str,IsL K H (zs.map D.str) (zs.map V.str)
 |[]=>rfl
 |z::zs=>⟨_,_,rfl,rfl,_ij zs⟩
theorem _fT:∀zs:List Str,YI (zs.map D.str)=0
 |[]=>rfl
 |z::zs=>by
  show max 0 (YI (zs.map D.str))=0;rw [_fT zs];rfl
theorem _oE (h:SqL K H a (zs.map V.str)):Is K H (.lst (zs.map D.str)) (.ref a):=⟨a,_,rfl,h,_ij zs⟩
theorem _hw (l:List Str):(l.map V.str).all Wk=true:=by
 rw [GA,Ry];intro x _;rfl
theorem _nm (l:List (Ent×Addr)):(Bk.bornD l).length=(Y1 l).length:=by rw [_iZ,Qc,←_iW,Qc]
noncomputable def amt (c:Str×Str):Ent->Int
 |_=>0
noncomputable def _aX (c:Str×Str) (es:List Ent):Int:=(es.map (amt c)).sum
theorem _jS (c:Str×Str) (es:List Ent) (e:Ent):_aX c (es++[e])=_aX c es+amt c e:=by
 unfold _aX;rw [Qo,List.sum_append];simp
theorem _oh {a b:Str} (ne:a≠b) (c:Str×Str):(_O (_O F st a b) st b a c).length≤(F c).length+1:=by
 by_cases e:c=(("S",b):Str×Str)
 ·refine Qk (_bQ ..) ?_
  have:_O F st a b c=F c:=by
   unfold _O;rw [Qa];intro z;rw [e] at z;injection z with _ z2;exact ne z2.symm
  rw [this];exact Qe _
 ·have:_O (_O F st a b) st b a c=_O F st a b c:=by
   show (if c=(("S",b):Str×Str) then _ else _O F st a b c)=_;rw [Qa e]
  rw [this];exact _bQ ..
def D5 (pool:List Str) (e:Ent):Prop:=e.Ok∧(∀n∈e.named,n∈pool)∧∀n,e.bornName=some n->n∈pool
noncomputable def LBk (ks:List (Ent×Addr)):Bk:=⟨ks,[],[],[]⟩
structure KsOk (ks:List (Ent×Addr)):Prop where
 told:∀p∈ks,p.1.told=p.1
 nd:(Y1 ks).Nodup
 len:ks.length≤60
theorem _ks {k:List _l}:∀{l m:List (Ent×Addr)},l.map (·.1)=m.map (·.1)->(_F (l.map fun p=>(p.1.key,V.ref p.2)) k).isSome=(_F (m.map fun p=>(p.1.key,V.ref p.2)) k).isSome:=by
 intro l
 induction l with
 |nil=>intro m h;cases m with
  |nil=>rfl
  |cons q m=>cases h
 |cons p l ih=>intro m h;cases m with
  |nil=>cases h
  |cons q m =>
   have h1:p.1=q.1:=(RO h).1;have h2:=(RO h).2;rw [Qw,Qw];by_cases c:p.1.key=k
   ·rw [Xw (show (p.1.key,V.ref p.2).1=k from c),Xw (show q.1.key=k by rw [←h1];exact c)];rfl
   ·rw [Xz (show ¬(p.1.key,V.ref p.2).1=k from c),Xz (show ¬q.1.key=k by rw [←h1];exact c)];exact ih h2
theorem _ki {k:List _l}:∀{ks:List (Ent×Addr)},(∃p∈ks,p.1.key=k)->(_F (LBk ks).keptD k).isSome=true:=by
 intro ks
 induction ks with
 |nil=>rintro ⟨p,hp,_⟩;cases hp
 |cons q ks ih =>
  rintro ⟨p,hp,e⟩;show (_F ((q.1.key,V.ref q.2)::(LBk ks).keptD) k).isSome=true;by_cases c:q.1.key=k
  ·rw [Xw (show (q.1.key,V.ref q.2).1=k from c)];rfl
  ·rw [Xz (show ¬(q.1.key,V.ref q.2).1=k from c)];rcases Qj.mp hp with rfl|hp
   ·exact absurd e c
   ·exact ih ⟨p,hp,e⟩
theorem _nL:∀{es:List Ent},(∀e∈es,Wq e)->∀n,((Yx es).1 ("S",n)).length≤es.length:=by
 have go:∀k (es:List Ent),es.length=k->(∀e∈es,Wq e)->∀n,((Yx es).1 ("S",n)).length≤es.length:=by
  intro k
  induction k with
  |zero =>
   intro es h _ n;have:es=[]:=List.eq_nil_of_length_eq_zero h;subst this;exact Qe _
  |succ k ih =>
   intro es h ap n;have ne:es≠[]:=fun z=>by rw [z] at h;cases h
   obtain ⟨xs,e,rfl⟩:∃xs e,es=xs++[e]:=⟨_,_,(NY ne).symm⟩;have lx:xs.length=k:=by rw [Qm] at h;exact Nat.succ.inj h
   have ih:=ih xs lx (fun x hx=>ap x (Qh.mpr (.inl hx))) n;have ae:=ap e (Qh.mpr (.inr (Qr.mpr rfl)));rw [_bv,Qm]
   have key:(WJ (Yx xs).1 (Yx xs).2 e ("S",n)).length≤((Yx xs).1 ("S",n)).length+1:=by
    cases e with
    |born n' s d f m =>
     show (Xm (Yx xs).1 n' f m ("S",n)).length≤_;rw [U9 _ _ _ _ _ _ (by trivial) (by trivial) (by trivial) (by trivial)];exact QV _
    |taken c t d =>
     show (_2 (_2 (Yx xs).1 ("T",c) t) ("t",t) c ("S",n)).length≤_;rw [YO,Qa (fun z=>absurd z.1 (by trivial)),YO,Qa (fun z=>absurd z.1 (by trivial))];exact QV _
    |union a b d=>exact _oh (ae rfl) _
   show (WJ (Yx xs).1 (Yx xs).2 e ("S",n)).length≤xs.length+1;omega
 intro es h n;exact go es.length es rfl h n
theorem _gi (h:∀e∈es,Wq e) (c:Str×Str):((Yx es).1 c).length≤es.length:=by
 obtain ⟨l,n⟩:=c
 have six:∀{ad:Str->Ent->List Str},Adds l ad->(∀e,(ad n e).length≤1)->((Yx es).1 (l,n)).length≤es.length:=fun A h1=>by
  rw [A.all,(Wh _).length_eq];exact _gp h1 es
 by_cases hl:l∈XD
 ·simp only [XD,Qj,QN,QO] at hl;rcases hl with rfl|rfl|rfl|rfl|rfl|rfl|rfl
  ·exact six _hf fun e=>(UZ n e).1
  ·exact six _is fun e=>(UZ n e).2.1
  ·exact six _gL fun e=>(UZ n e).2.2.2.2.1
  ·exact six _iE fun e=>(UZ n e).2.2.1
  ·exact six _f0 fun e=>(UZ n e).2.2.2.1
  ·exact six _hV fun e=>(UZ n e).2.2.2.2.2
  ·exact _nL h n
 ·rw [_pS hl];exact QT _
theorem _kS {ds:List Ent} (h:(ds.map fun e=>e.told.key).Nodup):Once ds:=by
 intro c
 have go:∀ds:List Ent,(ds.map fun e=>e.told.key).Nodup->((tl c ds).map (·.1)).Nodup:=by
  intro ds
  induction ds with
  |nil=>intro _;exact .nil
  |cons e ds ih =>
   intro n;rw [Qw,QS] at n;have ih:=ih n.2;unfold tl at ih ⊢;rw [Re];by_cases cc:e.tie=true∧_g e.pr.1 e.pr.2=c
   ·rw [Qb cc];show (_::_).Nodup;rw [QS];refine ⟨fun m=>?_,ih⟩;obtain ⟨q,hq,eq⟩:=Qg.mp m;obtain ⟨x,hx,ex⟩:=Rc.mp hq;by_cases c2:x.tie=true∧_g x.pr.1 x.pr.2=c
    ·rw [Qb c2] at ex;have:=Qn ex;subst this;refine n.1 (Qg.mpr ⟨x,hx,?_⟩)
     have kk:∀y:Ent,y.tie=true->y.told.key=[.inr "tie",.inr (_g y.pr.1 y.pr.2).1,.inr (_g y.pr.1 y.pr.2).2,.inl y.day]:=fun y hy=>by
      cases y with
      |union=>rfl
      |_=>cases hy
     rw [kk x c2.1,kk e cc.1,c2.2,cc.2,show x.day=e.day from eq]
    ·rw [Qa c2] at ex;cases ex
   ·rw [Qa cc];exact ih
 exact go ds h
structure LI5 (pool:List Str) (B:Bk) (ks:List (Ent×Addr)):Prop where
 st:BSt B (ks.map (·.1))
 sus:∀c,VJ B.sums c=_aX c (ks.map (·.1))
 told:∀p∈ks,p.1.told=p.1
 keys:(ks.map fun p=>p.1.told.key).Nodup
 inp:∀p∈ks,∀n,p.1.bornName=some n->n∈pool
 ap:∀p∈ks,Wq p.1
theorem LI5.start (pool:List Str):LI5 pool W3 []:=⟨BSt.start,fun _=>rfl,fun p hp=>(by cases hp),.nil,fun p hp=>(by cases hp),fun p hp=>(by cases hp)⟩
theorem LI5.ap' (h:LI5 pool B ks):∀e∈ks.map (·.1),Wq e:=fun e he=>by
 obtain ⟨p,hp,rfl⟩:=Qg.mp he;exact h.ap p hp
theorem LI5.once (h:LI5 pool B ks):Once (ks.map (·.1)):=by
 refine _kS ?_;rw [QP];exact h.keys
theorem LI5.room (h:LI5 pool B ks) (l:ks.length≤60):Room1 B:=by
 have e:(ks.map (·.1)).length=ks.length:=Qc ..;have m1:=h.st.nl;have m2:=h.st.nt;have m3:=h.st.ns;refine ⟨h.st.nd,by omega,by omega,by omega,fun c=>?_,fun c=>?_⟩
 ·rw [h.st.lks];exact Qk (_gi h.ap' c) (by omega)
 ·rw [h.st.tis,_hg h.once];exact Qk (_jx c _) (by omega)
theorem _eq (e:Ent):e.told.bornName=e.bornName:=by cases e<;>rfl
theorem _p9 (h:WH B e=true):Wq e:=fun t=>by
 cases e with
 |union a b d =>
  intro z;rw [_eu rfl,show (Ent.union a b d).same=true from Qx (show a=b from z)] at h;cases h
 |_=>cases t
theorem _hT (h:X2 B e=none):B.kept.length<400∧(e.isBorn=true->(Bk.bornD B.kept).length<60)∧(∀n∈e.named,Known B n)∧_F B.keptD e.told.key=none∧WH B e=true:=by
 obtain ⟨h1,h2,h3⟩:=_iy h;unfold X2 at h;by_cases f:B.full e=true
 ·rw [Qb f] at h;cases h
 ·rw [Qa f,Qa (by rw [_i6 h3];decide),Qa (by rw [h1];decide)] at h;refine ⟨h2,fun b=>?_,h3,h1,?_⟩
  ·unfold Bk.full at f;rw [b,GH,Gh,not_or] at f;have:=f.2;rw [Nh] at this;omega
  ·cases hf:WH B e with
   |true=>rfl
   |false=>rw [hf,Qa (by decide)] at h;cases h
theorem LI5.put (h:LI5 pool B ks) (p:Put B e B') (d:D5 pool e) (no:X2 B e=none) (a:Addr):LI5 pool B' (ks++[(e.told,a)]):=by
 obtain ⟨_,_,_,hv,hf⟩:=_hT no;have st:=h.st.put p;have em:(ks++[(e.told,a)]).map (·.1)=ks.map (·.1)++[e.told]:=by rw [Qo];rfl
 rw [←em] at st;have one:∀q∈ks++[(e.told,a)],q∈ks∨q=(e.told,a):=fun q hq=>(Qh.mp hq).imp id (fun z=>by simpa using z);refine ⟨st,fun c=>?_,fun q hq=>?_,?_,fun q hq n hn=>?_,fun q hq=>?_⟩
 ·rw [p.su c,em,_jS];generalize e.told=e' at *;cases e' with
  |_=>rw [show _e9 (VJ B.sums) _ c=VJ B.sums c from rfl,h.sus];exact (Int.add_zero _).symm
 ·rcases one q hq with hq|rfl
  ·exact h.told q hq
  ·exact _aE e
 ·rw [Qo,QW];refine ⟨h.keys,by simp,fun x hx y hy z=>?_⟩;have hy':y=e.told.told.key:=by simpa using hy
  obtain ⟨q,hq,rfl⟩:=Qg.mp hx;have kn:(_F (LBk ks).keptD e.told.key).isSome=true:=_ki ⟨q,hq,by rw [h.told q hq] at z;rw [z,hy',_aE]⟩;have kv:(_F B.keptD e.told.key).isSome=(_F (LBk ks).keptD e.told.key).isSome:=_ks (l:=B.kept) (m:=ks) h.st.kept;rw [kn,hv] at kv;cases kv
 ·rcases one q hq with hq|rfl
  ·exact h.inp q hq n hn
  ·exact d.2.2 n (by rw [←_eq];exact hn)
 ·rcases one q hq with hq|rfl
  ·exact h.ap q hq
  ·exact _jC (_p9 hf)
theorem _lJ {l m:List Str} (h:l.Nodup) (s:∀x∈l,x∈m):l.length≤m.length:=by
 induction l generalizing m with
 |nil=>exact QT _
 |cons a l ih =>
  have hn:=QS.mp h;have am:=s a (QI ..);have:=ih (m:=m.erase a) hn.2 fun x hx=>(List.mem_erase_of_ne (fun z=>hn.1 (by rw [←z];exact hx))).mpr (s x (QD _ hx));rw [List.length_erase_of_mem am] at this;have:=List.length_pos_of_mem am;rw [QJ];omega
theorem LI5.names (h:LI5 pool B ks):(Y1 ks).Nodup∧∀n∈Y1 ks,n∈pool:=by
 refine ⟨?_,fun n hn=>?_⟩
 ·have k:=h.keys;clear h
  induction ks with
  |nil=>exact .nil
  |cons p ks ih =>
   have kn:=QS.mp (show (p.1.told.key::ks.map fun p=>p.1.told.key).Nodup from k);have ih:=ih kn.2;unfold Y1 at ih ⊢;rw [Re];cases hb:p.1.bornName with
   |none=>exact ih
   |some n =>
    refine QS.mpr ⟨fun hm=>?_,ih⟩;obtain ⟨q,hq,eq⟩:=Rc.mp hm;refine kn.1 (Qg.mpr ⟨q,hq,?_⟩)
    have bk:∀e:Ent,e.bornName=some n->e.told.key=[.inr "born",.inr n]:=fun e he=>by
     cases e with
     |born n' s d f m=>cases he;rfl
     |_=>cases he
    rw [bk _ eq,bk _ hb]
 ·obtain ⟨q,hq,eq⟩:=Rc.mp hn;exact h.inp q hq n eq
theorem LI5.ksok (h:LI5 pool B ks) (l:ks.length≤60) (p33:pool.length≤33):KsOk ks∧(Y1 ks).length<60:=by
 obtain ⟨n1,n2⟩:=h.names;exact ⟨⟨h.told,n1,l⟩,Rt (_lJ n1 n2) (by omega)⟩
structure Fit (xs:List Ent) (e:Ent):Prop where
 kn:∀n∈e.named,∃s d f m,Ent.born n s d f m∈xs∧d≤e.day
 key:∀x∈xs,x.key≠e.told.key
 par:∀n s d f m,e=.born n s d f m->(f=""∨∃d' f' m',Ent.born f "he" d' f' m'∈xs∧d'<d)∧(m=""∨∃d' f' m',Ent.born m "she" d' f' m'∈xs∧d'<d)
 tk:∀c t d,e=.taken c t d->∀sc dc fc mc st dt ft mt,Ent.born c sc dc fc mc∈xs->Ent.born t st dt ft mt∈xs->dt<dc
 ap:e.same=false
def BU (xs:List Ent):Prop:=∀{n s d f m s' d' f' m'},Ent.born n s d f m∈xs->Ent.born n s' d' f' m'∈xs->Ent.born n s d f m=.born n s' d' f' m'
theorem U0 (h:B.kept.map (·.1)=xs) (u:BU xs) (hm:Ent.born n s d f m∈xs):Known B n∧X4 B n=s∧Yr B n=d:=by
 obtain ⟨a,ha⟩:=_if (l:=B.kept) (by rw [h];exact hm) fun {s' d' f' m'} hm'=>by
  rw [h] at hm';exact u hm' hm
 exact ⟨by unfold Known;rw [ha];simp,_aL ha rfl,_ae ha rfl⟩
theorem _l2 (h:B.kept.map (·.1)=xs) (u:BU xs) (l:xs.length<400) (b:e.isBorn=true->(Y1 B.kept).length<60) (f:Fit xs e):X2 B e=none:=by
 have kl:=_ia h;refine _m3 ?_ (fun n hn=>?_) ?_ ?_
 ·unfold Bk.full;rw [Qs (show ¬400≤B.kept.length by omega),_nm];cases hb:e.isBorn with
  |false=>rfl
  |true=>rw [Qs (show ¬60≤(Y1 B.kept).length by have:=b hb;omega)];rfl
 ·obtain ⟨s,d,f',m,h1,_⟩:=f.kn n hn;exact (U0 h u h1).1
 ·rw [_mu h f.key];rfl
 ·cases hi:e.isBorn with
  |true =>
   cases e with
   |born n s d fa mo =>
    obtain ⟨p1,p2⟩:=f.par n s d fa mo rfl
    have one:∀{x so:Str},(x=""∨∃d' f' m',Ent.born x so d' f' m'∈xs∧d'<d)->XN B x so d=true:=fun {x so} hx=>by
     unfold XN;rcases hx with rfl|⟨d',f',m',h1,h2⟩
     ·rfl
     ·obtain ⟨_,e1,e2⟩:=U0 h u h1;rw [e1,e2,Qx rfl,Qx h2,GH,Bool.or_true]
    show (XN B fa "he" d&&XN B mo "she" d)=true;rw [one p1,one p2];rfl
   |_=>cases hi
  |false =>
   rw [_eu hi,f.ap]
   have he:e.early B=false:=by
    cases e with
    |taken c t d =>
     obtain ⟨sc,dc,fc,mc,h1,_⟩:=f.kn c (by simp [Ent.named]);obtain ⟨st,dt,ft,mt,h2,_⟩:=f.kn t (by simp [Ent.named]);have h3:=f.tk c t d rfl _ _ _ _ _ _ _ _ h1 h2;show decide (Yr B c≤Yr B t)=false;rw [(U0 h u h1).2.2,(U0 h u h2).2.2];exact Qs (by omega)
    |_=>rfl
   rw [he];show (e.named.all fun n=>decide (Yr B n≤e.day))=true;rw [Ry];intro n hn;obtain ⟨s,d,f',m,h1,h2⟩:=f.kn n hn;rw [(U0 h u h1).2.2];exact Qx h2
inductive GdL (pool:List Str):List Ent->Prop
 |nil:GdL pool []
 |snoc {es:List Ent} {e:Ent} (h:GdL pool es) (d:D5 pool e) (d':D5 pool e.told) (f:Fit (es.map Ent.told) e):GdL pool (es++[e])
theorem GdL.last {l:List Ent} (h:GdL pool l) (el:l=xs++[e]):GdL pool xs∧D5 pool e∧D5 pool e.told∧Fit (xs.map Ent.told) e:=by
 cases h with
 |nil=>simp at el
 |snoc h d d' f =>
  obtain ⟨e1,e2⟩:=List.append_inj' el rfl;obtain ⟨e3,_⟩:=RO e2;subst e1 e3;exact ⟨h,d,d',f⟩
theorem GdL.take {l:List Ent} (h:GdL pool l):∀i,GdL pool (l.take i):=by
 induction h with
 |nil=>intro i;rw [List.take_nil];exact .nil
 |@snoc xs e h d d' f ih =>
  intro i;by_cases il:i≤xs.length
  ·rw [List.take_append_of_le_length il];exact ih i
  ·rw [Nf (by rw [Qm];show _+1≤_;omega)];exact .snoc h d d' f
theorem GdL.bu {l:List Ent} (h:GdL pool l):BU (l.map Ent.told):=by
 induction h with
 |nil=>intro n s d f m s' d' f' m' h1;cases h1
 |@snoc xs e h d5 d5' f ih =>
  intro n s d fa m s' d' f' m' h1 h2;rw [Qo] at h1 h2;have kb:∀{x:Ent} {n s f m:Str} {d:Int},x=.born n s d f m->x.key=[.inr "born",.inr n]:=fun z=>by rw [z];rfl
  rcases Qh.mp h1 with h1|h1<;>rcases Qh.mp h2 with h2|h2
  ·exact ih h1 h2
  ·have e2:=Qr.mp h2;exact absurd (by rw [←e2];rfl) (f.key _ h1)
  ·have e1:=Qr.mp h1;exact absurd (by rw [←e1];rfl) (f.key _ h2)
  ·rw [Qr.mp h1,Qr.mp h2]
theorem GdL.d5 {l:List Ent} (h:GdL pool l):∀e∈l,D5 pool e:=by
 induction h with
 |nil=>intro e he;cases he
 |snoc h d5 d' f ih =>
  intro e he;rcases Qh.mp he with he|he
  ·exact ih e he
  ·rw [Qr.mp he];exact d5
theorem LI5.put' (h:LI5 pool B B.kept) (p:Put B e B') (d:D5 pool e) (no:X2 B e=none):LI5 pool B' B'.kept∧B'.kept.map (·.1)=B.kept.map (·.1)++[e.told]:=by
 obtain ⟨a,ha⟩:=p.kept;have z:=h.put p d no a;rw [←ha] at z;exact ⟨z,by rw [ha,Qo];rfl⟩
theorem GdL.ref (li:LI5 pool B B.kept) (hk:B.kept.map (·.1)=es.map Ent.told) (g:GdL pool (es++[e])) (l:B.kept.length≤60) (p33:pool.length≤33):X2 B e=none∧D5 pool e∧Room1 B:=by
 obtain ⟨g0,d5,_,f⟩:=g.last rfl;have kl:=_ia hk;refine ⟨_l2 hk g0.bu (by rw [←kl];omega) (fun _=>(li.ksok l p33).2) f,d5,li.room l⟩
theorem V7 {l:List Str} (h:(l.map V.str)[i]?=some v):∃x,l[i]?=some x∧v=.str x:=by
 rw [Qp] at h;obtain ⟨x,hx,rfl⟩:=QC.mp h;exact ⟨x,hx,rfl⟩
structure FitB (bs:List Ent) (e:Ent):Prop where
 nb:e.isBorn=false
 ok:e.Ok
 ok':e.told.Ok
 kn:∀n∈e.named,∃s d f m,Ent.born n s d f m∈bs∧d≤e.day
 tk:∀c t d,e=.taken c t d->∀sc dc fc mc st dt ft mt,Ent.born c sc dc fc mc∈bs->Ent.born t st dt ft mt∈bs->dt<dc
 ap:e.same=false
theorem GdL.more {pool:List Str}:∀{ds es bs:List Ent},GdL pool es->(∀n s d f m,Ent.born n s d f m∈es↔Ent.born n s d f m∈bs)->(∀e∈ds,FitB bs e)->((es++ds).map fun e=>e.told.key).Nodup->GdL pool (es++ds)
 |[],es,bs,g,_,_,_=>by rw [QU];exact g
 |e::ds,es,bs,g,hb,hf,nd=>by
  have f:=hf e (QI ..)
  have bt:∀{n s f m:Str} {d:Int},Ent.born n s d f m∈es.map Ent.told↔Ent.born n s d f m∈bs:=fun {n s f m d}=>by
   rw [←hb];constructor
   ·intro h;obtain ⟨x,hx,ex⟩:=Qg.mp h;cases x with
    |born n' s' d' f' m'=>rw [←ex];exact hx
    |_=>cases ex
   ·intro h;exact Qg.mpr ⟨_,h,rfl⟩
  have inp:∀n s d f m,Ent.born n s d f m∈bs->n∈pool:=fun n s d f m h=>(g.d5 _ ((hb ..).mpr h)).2.2 n rfl;have bn:∀x:Ent,x.isBorn=false->x.bornName=none:=fun x hx=>by cases x<;>first|rfl|cases hx
  have d5:D5 pool e:=⟨f.ok,fun n hn=>by obtain ⟨s,d,fa,m,h1,_⟩:=f.kn n hn;exact inp _ _ _ _ _ h1,fun n hn=>by rw [bn e f.nb] at hn;cases hn⟩;have d5':D5 pool e.told:=⟨f.ok',fun n hn=>d5.2.1 n (_gr e n hn),fun n hn=>by rw [_eq] at hn;exact d5.2.2 n hn⟩
  have UX:(es.map fun e=>e.told.key).Nodup∧∀x∈es,x.told.key≠e.told.key:=by
   rw [Qo,QW] at nd;exact ⟨nd.1,fun x hx=>nd.2.2 _ (Qg.mpr ⟨x,hx,rfl⟩) _ (by rw [Qw];exact QI ..)⟩
  have g1:GdL pool (es++[e]):=by
   refine .snoc g d5 d5' ⟨fun n hn=>?_,fun x hx=>?_,fun n s d fa m he=>?_,fun c t d he sc dc fc mc st dt ft mt h1 h2=>f.tk c t d he _ _ _ _ _ _ _ _ (bt.mp h1) (bt.mp h2),f.ap⟩
   ·obtain ⟨s,d,fa,m,h1,h2⟩:=f.kn n hn;exact ⟨s,d,fa,m,bt.mpr h1,h2⟩
   ·obtain ⟨y,hy,rfl⟩:=Qg.mp hx;exact UX.2 y hy
   ·have:=f.nb;rw [he] at this;cases this
  have r:=GdL.more (ds:=ds) (es:=es++[e]) (bs:=bs) g1 (fun n s d fa m=>by
   rw [Qh];constructor
   ·rintro (h|h)
    ·exact (hb ..).mp h
    ·have:=f.nb;rw [←Qr.mp h] at this;cases this
   ·intro h;exact .inl ((hb ..).mpr h)) (fun x hx=>hf x (QD _ hx)) (by rw [Gd];exact nd)
  rw [Gd] at r;exact r
theorem _i1 {a b:Str} (ha:Nm a) (hb:Nm b) (d1:-10 ^ 18≤d) (d2:d≤10 ^ 18):(Ent.taken a b d).Ok∧(Ent.union a b d).Ok∧(Ent.union a b d).told.Ok∧True:=by
 refine ⟨⟨_aY (.inl rfl) ha hb d1 d2,_bq (by trivial) ha hb⟩,⟨_aY (.inr (.inl rfl)) ha hb d1 d2,_bq (by trivial) ha hb⟩,?_,trivial⟩;show (Ent.union (_g a b).1 (_g a b).2 d).Ok;unfold _g;split
 ·exact ⟨_aY (.inr (.inl rfl)) hb ha d1 d2,_bq (by trivial) hb ha⟩
 ·exact ⟨_aY (.inr (.inl rfl)) ha hb d1 d2,_bq (by trivial) ha hb⟩
theorem GdL.keys {l:List Ent} (g:GdL pool l):(l.map fun e=>e.told.key).Nodup:=by
 induction g with
 |nil=>exact .nil
 |@snoc xs e g d d' f ih =>
  rw [Qo,QW];refine ⟨ih,by simp,fun a ha b hb z=>?_⟩;obtain ⟨x,hx,rfl⟩:=Qg.mp ha;have hb':b=e.told.key:=by simpa using hb
  exact f.key x.told (Qg.mpr ⟨x,hx,rfl⟩) (by rw [z,hb'])
theorem GdL.known {l:List Ent} (g:GdL pool l):∀e∈l,∀n∈e.named,∃s d f m,Ent.born n s d f m∈l.map Ent.told:=by
 induction g with
 |nil=>intro e he;cases he
 |@snoc xs e g d d' f ih =>
  intro x hx n hn;rw [Qo];rcases Qh.mp hx with hx|hx
  ·obtain ⟨s,d,f,m,h⟩:=ih x hx n hn;exact ⟨s,d,f,m,Qh.mpr (.inl h)⟩
  ·rw [Qr.mp hx] at hn;obtain ⟨s,d,f,m,h,_⟩:=f.kn n hn;exact ⟨s,d,f,m,Qh.mpr (.inl h)⟩
noncomputable def _o:List Str:=["F","M","T","f","m","t","S","he","she"]
noncomputable def Vr (x:Str):Bool:=decide (x∈(["he","she"]:List Str))
noncomputable def Yo (B:Bk) (s n:Str):List Str:=if Vr s=true then (if X4 B n=s then [n] else []) else Yj B s n
def XU (L:Str->Str->List Str):List Str->(Str->Prop)->Str->Prop
 |[],P=>P
 |s::w,P=>XU L w fun x=>∃y,P y∧x∈L s y
theorem _hD (L:Str->Str->List Str) (s:Str):∀(w:List Str) (P:Str->Prop),XU L (w++[s]) P=fun x=>∃y,XU L w P y∧x∈L s y
 |[],_=>rfl
 |t::w,P=>_hD L s w _
theorem _di {L:Str->Str->List Str} {R:Str->Prop} (cl:∀s∈_o,∀y,R y->∀x∈L s y,R x):∀{w:List Str} {P:Str->Prop},(∀s∈w,s∈_o)->(∀x,P x->R x)->∀x,XU L w P x->R x
 |[],_,_,hP,x,h=>hP x h
 |s::w,P,hw,hP,x,h=>_di cl (fun t ht=>hw t (QD _ ht)) (fun x ⟨y,p,m⟩=>cl s (hw s (QI ..)) y (hP y p) x m) x h
structure SrtOf (P:Str->Prop) (xs:List Str):Prop where
 up:xs.Pairwise fun a b=>YA a b=true
 nd:xs.Nodup
 mem:∀x,x∈xs↔P x
structure Clo (B:Bk) (pool:List Str):Prop where
 led:∀s∈_o,∀n,Known B n->∀x∈Yo B s n,Known B x
 inp:∀n,Known B n->n∈pool
 few:pool.length≤60
theorem _iD {xs:List Str} (h:xs.Nodup) (s:∀x∈xs,x∈pool):xs.length≤pool.length:=Mg h s
theorem BkAt.monoX {k:Addr} (h:BkAt K C H b dx k bi li ti su B) (s:SameX H H'):BkAt K C H' b dx k bi li ti su B :=
 ⟨s _ _ rfl h.ob,h.ap,h.at',s _ _ rfl h.ke,s _ _ rfl h.bi,s _ _ rfl h.li,s _ _ rfl h.ti,s _ _ rfl h.su,fun p hp=>s.sqt (h.en p hp),fun q hq=>s _ _ rfl (h.ll q hq),fun q hq=>s _ _ rfl (h.tt q hq)⟩
noncomputable abbrev _gX:Arguments:=⟨[],[⟨"step",none,⟨286,46,286,50⟩⟩,⟨"begin",none,⟨286,52,286,57⟩⟩],none,[],[],none,[]⟩
noncomputable abbrev _h4:Expr:=VQ "led_by_step" "book" "step" "begin" ⟨286,59,286,70⟩ ⟨286,71,286,75⟩ ⟨286,77,286,81⟩ ⟨286,83,286,88⟩ ⟨286,59,286,89⟩
noncomputable abbrev _fJ:Scope:=⟨.function,[("step",.local),("begin",.local),("book",.free),("led_by_step",.globalImplicit)],false,false,[]⟩
noncomputable def _eF:Str:=("reach" : Str)++".<locals>."++"<lambda>"
theorem _kE:LamOk2 "led_by_step" "book" "step" "begin" _gX _fJ _h4 where
 bind:=fun _ _ _ _ _ _ _=>rfl
 lx:=rfl
 ly:=rfl
 fre:=rfl
 gl:=rfl
 kind:=rfl
 co:=rfl
 gen:=rfl
 cell:=by trivial
 xy:=by trivial
 db:=by trivial
abbrev _nT (f b:Addr) (H:Hp):Prop:=LamA _eF _gX _h4 _fJ "book" f b H
abbrev WL (tb:Addr) (H:Hp):Prop:=LamH tb 286 39 _eF H
theorem _i2 {w:World}:∀st H s e s',Xb P w st H s E0 e s'->False:=fun _ _ _ _ _ ⟨_,_,_,_,_,z⟩=>z
noncomputable abbrev XC (l:List (Str×V)):List (_l×V):=l.map fun p=>(.inr p.1,p.2)
theorem _f2 {κ α:Type} [DecidableEq κ] (l:List (κ×α)) (c:κ) (x:α):(putA l c x).map (·.1)=if c∈l.map (·.1) then l.map (·.1) else l.map (·.1)++[c]:=by
 unfold putA;by_cases h:c∈l.map (·.1)
 ·have ha:(l.any fun q=>decide (q.1=c))=true:=by
   obtain ⟨q,hq,e⟩:=Qg.mp h;exact GG.mpr ⟨q,hq,Qx e⟩
  rw [Qb ha,Qb h,QP];refine Gn fun q _=>?_;show (if q.1=c then (q.1,x) else q).1=q.1;split<;>rfl
 ·have ha:¬(l.any fun q=>decide (q.1=c))=true:=fun z=>by
   obtain ⟨q,hq,e⟩:=GG.mp z;exact h (Qg.mpr ⟨q,hq,Q8 e⟩)
  rw [Qa ha,Qa h,Qo];rfl
theorem _jv (l:List (Str×V)) (c:Str) (v:V):Ym (XC l) (.inr c) v=XC (putA l c v):=Jb (f:=fun s:Str=>(.inr s:_l)) (fun a b h=>by injection h) id l c v
theorem _f4 {κ α:Type} [DecidableEq κ] {l:List (κ×α)} {c:κ} {x:α} (h:(l.map (·.1)).Nodup):((putA l c x).map (·.1)).Nodup:=by
 rw [_f2];split
 ·exact h
 ·rename_i n;exact QW.mpr ⟨h,by simp,fun a ha b hb=>by rw [show b=c by simpa using hb];exact fun e=>n (e▸ha)⟩
theorem _hq {κ α:Type} [DecidableEq κ] {l:List (κ×α)} {c:κ} {x:α} (y:κ):y∈(putA l c x).map (·.1)↔y∈l.map (·.1)∨y=c:=by
 rw [_f2];split
 ·rename_i h;exact ⟨.inl,fun z=>z.elim id fun e=>e▸h⟩
 ·rw [Qh,Qr]
theorem _gx (l:List (Str×V)):(XC l).length=(l.map (·.1)).length:=by rw [Qc,Qc]
theorem _h7 (ds:List V) (d:V):Yk (ds++[d]) (-1)=some d:=by
 cases ds with
 |nil=>rfl
 |cons x xs =>
  obtain ⟨y,h1,h2⟩:=_mj (x:=x) (xs:=xs++[d]);rw [List.cons_append,h1];rw [show (x::(xs++[d]))=(x::xs)++[d] from rfl,Rp (by simp)] at h2;simpa using h2.symm
theorem _hd {p:Ent×Addr} (h:_3 n B.kept=some p) (e:p.1=.born n' s d f m):X4 B n=s:=_aL h e
theorem VW {z:Int} (h0:-10 ^ 60≤z) (h:z≤10 ^ 60):z.natAbs<2 ^ 1000:=Rt (show z.natAbs≤10 ^ 60 by omega) (by trivial)
theorem ne0 {j:Int} (h:j≠0):j≠0:=h
theorem U4 {α:Type} (g:α->V) (xs:List α) (h:0<xs.length) (z:Int):∃x∈xs,Yk (xs.map g) (z.fmod ((xs.map g).length:Int))=some (g x):=by
 have e:((xs.map g).length:Int)=(xs.length:Int):=by rw [Qc]
 rw [e];have h0:=Int.fmod_nonneg_of_pos z (show (0:Int)<xs.length by omega);have h1:=Int.fmod_lt_of_pos z (show (0:Int)<xs.length by omega);obtain ⟨j,hj⟩:∃j:Nat,z.fmod (xs.length:Int)=(j:Int):=⟨(z.fmod (xs.length:Int)).toNat,by omega⟩;have jl:j<xs.length:=by omega
 refine ⟨xs[j],R6 jl,?_⟩;rw [hj];exact Wg (by rw [Qp,Qt jl];rfl)
section
variable {ns:List Str} {ps:List Pp} {kn:List (List _l)}
theorem _pI (h:e.told=.born n s d f m):e=.born n s d f m:=by
 cases e with
 |born=>exact h
 |union=>cases h
 |taken=>cases h
theorem _ak:Ent.born n s d f m∈es.map Ent.told↔Ent.born n s d f m∈es:=by
 constructor
 ·intro h;obtain ⟨e,he,ee⟩:=Qg.mp h;rw [←_pI ee];exact he
 ·exact fun h=>Qg.mpr ⟨_,h,rfl⟩
end
noncomputable def Yh (f:Str×Str->List Str) (c:Str×Str) (x:Str):Str×Str->List Str:=fun c'=>if c'=c then f c++[x] else f c'
noncomputable def YC (a b n x:Str) (g:_N):_N:=if x="" then g else Yh (Yh g (a,n) x) (b,x) n
noncomputable def YJ (f:_N) (s n:Str):_N:=fun c=>if c=(s,n) then [n] else f c
noncomputable def YB (f:_N):Ent->_N
 |.born n s _ fa mo=>YC "M" "m" n mo (YC "F" "f" n fa (YJ f s n))
 |.taken c t _=>Yh (Yh f ("T",c) t) ("t",t) c
 |_=>f
noncomputable def Va (es:List Ent):_N:=es.foldl YB fun _=>[]
abbrev JP:=List ((Str×Str)×Addr×Int×Str)
noncomputable def Xn (g:Str×Str->Option (Int×Str)) (e:Ent):Str×Str->Option (Int×Str):=fun c =>
 if e.tie=true∧c=_g e.pr.1 e.pr.2 then (match g c with
  |none=>some (e.day,e.kind)
  |some r=>if r.1<e.day then some (e.day,e.kind) else some r) else g c
noncomputable def WB (es:List Ent):Str×Str->Option (Int×Str):=es.foldl Xn fun _=>none
noncomputable def VL (f:_N) (q:(Str×Str)×Addr×Int×Str):_N:=if q.2.2.2="union" then Yh (Yh f ("S",q.1.1) q.1.2) ("S",q.1.2) q.1.1 else f
theorem _nk (h:(Ent.born n s d f m).Ok):s="he"∨s="she"∨s="":=by
 have e:=h.en;have e2:Wb [.name,.sort,.day,.parent,.parent] [.str n,.str s,.int d,.str f,.str m]=true:=e;unfold Wb at e2;rw [R1] at e2;have e3:=Ry.mp e2.2 (Ua (.str s)) (by simp [_Q,UD]);have e4:(decide (s="he")||decide (s="she")||decide (s=""))=true:=e3;simpa [Gh,or_assoc] using e4
theorem Ys (f:_N) (a n x b m:Str):Yh f (a,n) x (b,m)=if b=a∧m=n then f (a,n)++[x] else f (b,m):=by
 unfold Yh;by_cases h:b=a∧m=n
 ·rw [Qb (by rw [h.1,h.2]),Qb h]
 ·rw [Qa (fun z=>h ⟨QB (·.1) z,QB (·.2) z⟩),Qa h]
theorem Xh {a b:Str} (ab:¬b=a) (n' x:Str) (g:_N) (l n:Str):YC a b n' x g (l,n)=if x="" then g (l,n) else if l=b∧n=x then g (l,n)++[n'] else if l=a∧n=n' then g (l,n)++[x] else g (l,n):=by
 unfold YC;by_cases h:x=""
 ·rw [Qb h,Qb h]
 ·rw [Qa h,Qa h,Ys,Ys];by_cases h1:l=b∧n=x
  ·rw [Qb h1,Qb h1,Qa (fun z=>ab z.1),h1.1,h1.2]
  ·rw [Qa h1,Qa h1,Ys];by_cases h2:l=a∧n=n'
   ·rw [Qb h2,Qb h2,h2.1,h2.2]
   ·rw [Qa h2,Qa h2]
theorem _f7 (f:_N) (e:Ent) (n:Str) (hs:∀n' s d fa mo,e=.born n' s d fa mo->s≠"F"):YB f e ("F",n)=f ("F",n)++W8 n e:=by
 have klf:¬(("F" : Str)="f"):=by trivial
 have kuM:¬(("F" : Str)="M"):=by trivial
 have klm:¬(("F" : Str)="m"):=by trivial
 have kuT:¬(("F" : Str)="T"):=by trivial
 have klt:¬(("F" : Str)="t"):=by trivial
 cases e with
 |born n' s d fa mo =>
  have h1:=hs n' s d fa mo rfl;show YC "M" "m" n' mo (YC "F" "f" n' fa (YJ f s n')) ("F",n)=_;rw [Xh (by trivial),Xh (by trivial),show YJ f s n' ("F",n)=f ("F",n) from Qa (fun z=>h1 (QB (·.1) z).symm)];simp only [klf,kuM,klm,kuT,klt,RP,RQ,Q6,RS];unfold W8;by_cases e1:fa=""
  ·simp [e1]
  ·by_cases e2:n=n'
   ·subst e2;simp [e1]
   ·have e3:¬n'=n:=fun z=>e2 z.symm;simp [e1,e2,e3]
 |taken c t d =>
  show Yh (Yh f ("T",c) t) ("t",t) c ("F",n)=_;rw [Ys,Qa (fun z=>klt z.1),Ys,Qa (fun z=>kuT z.1)];simp [W8]
 |union=>exact (QU _).symm
theorem _iO (f:_N) (e:Ent) (n:Str) (hs:∀n' s d fa mo,e=.born n' s d fa mo->s≠"f"):YB f e ("f",n)=f ("f",n)++WZ n e:=by
 have kuF:¬(("f" : Str)="F"):=by trivial
 have kuM:¬(("f" : Str)="M"):=by trivial
 have klm:¬(("f" : Str)="m"):=by trivial
 have kuT:¬(("f" : Str)="T"):=by trivial
 have klt:¬(("f" : Str)="t"):=by trivial
 cases e with
 |born n' s d fa mo =>
  have h1:=hs n' s d fa mo rfl;show YC "M" "m" n' mo (YC "F" "f" n' fa (YJ f s n')) ("f",n)=_;rw [Xh (by trivial),Xh (by trivial),show YJ f s n' ("f",n)=f ("f",n) from Qa (fun z=>h1 (QB (·.1) z).symm)];simp only [kuF,kuM,klm,kuT,klt,RP,RQ,Q6,RS];unfold WZ;by_cases e1:fa=""
  ·simp [e1]
  ·by_cases e2:n=fa
   ·subst e2;simp [e1]
   ·have e3:¬fa=n:=fun z=>e2 z.symm;simp [e1,e2,e3]
 |taken c t d =>
  show Yh (Yh f ("T",c) t) ("t",t) c ("f",n)=_;rw [Ys,Qa (fun z=>klt z.1),Ys,Qa (fun z=>kuT z.1)];simp [WZ]
 |union=>exact (QU _).symm
theorem _gk (f:_N) (e:Ent) (n:Str) (hs:∀n' s d fa mo,e=.born n' s d fa mo->s≠"M"):YB f e ("M",n)=f ("M",n)++Vb n e:=by
 have kuF:¬(("M" : Str)="F"):=by trivial
 have klf:¬(("M" : Str)="f"):=by trivial
 have klm:¬(("M" : Str)="m"):=by trivial
 have kuT:¬(("M" : Str)="T"):=by trivial
 have klt:¬(("M" : Str)="t"):=by trivial
 cases e with
 |born n' s d fa mo =>
  have h1:=hs n' s d fa mo rfl;show YC "M" "m" n' mo (YC "F" "f" n' fa (YJ f s n')) ("M",n)=_;rw [Xh (by trivial),Xh (by trivial),show YJ f s n' ("M",n)=f ("M",n) from Qa (fun z=>h1 (QB (·.1) z).symm)];simp only [kuF,klf,klm,kuT,klt,RP,RQ,Q6,RS];unfold Vb;by_cases e1:mo=""
  ·simp [e1]
  ·by_cases e2:n=n'
   ·subst e2;simp [e1]
   ·have e3:¬n'=n:=fun z=>e2 z.symm;simp [e1,e2,e3]
 |taken c t d =>
  show Yh (Yh f ("T",c) t) ("t",t) c ("M",n)=_;rw [Ys,Qa (fun z=>klt z.1),Ys,Qa (fun z=>kuT z.1)];simp [Vb]
 |union=>exact (QU _).symm
theorem _gf (f:_N) (e:Ent) (n:Str) (hs:∀n' s d fa mo,e=.born n' s d fa mo->s≠"m"):YB f e ("m",n)=f ("m",n)++Vd n e:=by
 have kuF:¬(("m" : Str)="F"):=by trivial
 have klf:¬(("m" : Str)="f"):=by trivial
 have kuM:¬(("m" : Str)="M"):=by trivial
 have kuT:¬(("m" : Str)="T"):=by trivial
 have klt:¬(("m" : Str)="t"):=by trivial
 cases e with
 |born n' s d fa mo =>
  have h1:=hs n' s d fa mo rfl;show YC "M" "m" n' mo (YC "F" "f" n' fa (YJ f s n')) ("m",n)=_;rw [Xh (by trivial),Xh (by trivial),show YJ f s n' ("m",n)=f ("m",n) from Qa (fun z=>h1 (QB (·.1) z).symm)];simp only [kuF,klf,kuM,kuT,klt,RP,RQ,Q6,RS];unfold Vd;by_cases e1:mo=""
  ·simp [e1]
  ·by_cases e2:n=mo
   ·subst e2;simp [e1]
   ·have e3:¬mo=n:=fun z=>e2 z.symm;simp [e1,e2,e3]
 |taken c t d =>
  show Yh (Yh f ("T",c) t) ("t",t) c ("m",n)=_;rw [Ys,Qa (fun z=>klt z.1),Ys,Qa (fun z=>kuT z.1)];simp [Vd]
 |union=>exact (QU _).symm
theorem _hR (f:_N) (e:Ent) (n:Str) (hs:∀n' s d fa mo,e=.born n' s d fa mo->s≠"T"):YB f e ("T",n)=f ("T",n)++addT n e:=by
 have kuF:¬(("T" : Str)="F"):=by trivial
 have klf:¬(("T" : Str)="f"):=by trivial
 have kuM:¬(("T" : Str)="M"):=by trivial
 have klm:¬(("T" : Str)="m"):=by trivial
 have klt:¬(("T" : Str)="t"):=by trivial
 cases e with
 |born n' s d fa mo =>
  have h1:=hs n' s d fa mo rfl;show YC "M" "m" n' mo (YC "F" "f" n' fa (YJ f s n')) ("T",n)=_;rw [Xh (by trivial),Xh (by trivial),show YJ f s n' ("T",n)=f ("T",n) from Qa (fun z=>h1 (QB (·.1) z).symm)];simp only [kuF,klf,kuM,klm,klt,RP,RQ,Q6,RS];simp [addT]
 |taken c t d =>
  show Yh (Yh f ("T",c) t) ("t",t) c ("T",n)=_;rw [Ys,Qa (fun z=>klt z.1),Ys];unfold addT;by_cases e2:n=c
  ·subst e2;simp
  ·have e3:¬c=n:=fun z=>e2 z.symm;simp [e2,e3]
 |union=>exact (QU _).symm
theorem _il (f:_N) (e:Ent) (n:Str) (hs:∀n' s d fa mo,e=.born n' s d fa mo->s≠"t"):YB f e ("t",n)=f ("t",n)++VA n e:=by
 have kuF:¬(("t" : Str)="F"):=by trivial
 have klf:¬(("t" : Str)="f"):=by trivial
 have kuM:¬(("t" : Str)="M"):=by trivial
 have klm:¬(("t" : Str)="m"):=by trivial
 have kuT:¬(("t" : Str)="T"):=by trivial
 cases e with
 |born n' s d fa mo =>
  have h1:=hs n' s d fa mo rfl;show YC "M" "m" n' mo (YC "F" "f" n' fa (YJ f s n')) ("t",n)=_;rw [Xh (by trivial),Xh (by trivial),show YJ f s n' ("t",n)=f ("t",n) from Qa (fun z=>h1 (QB (·.1) z).symm)];simp only [kuF,klf,kuM,klm,kuT,RP,RQ,Q6,RS];simp [VA]
 |taken c t d =>
  show Yh (Yh f ("T",c) t) ("t",t) c ("t",n)=_;unfold VA;rw [Ys];by_cases e2:n=t
  ·subst e2;rw [Qb ⟨rfl,rfl⟩,Ys,Qa (fun z=>kuT z.1)];simp
  ·have e3:¬t=n:=fun z=>e2 z.symm;rw [Qa (fun z=>e2 z.2),Ys,Qa (fun z=>kuT z.1)];simp [e3]
 |union=>exact (QU _).symm
theorem _i4 (f:_N) (e:Ent) (n:Str) (hs:∀n' s d fa mo,e=.born n' s d fa mo->s≠"S"):YB f e ("S",n)=f ("S",n)++[]:=by
 have kuF:¬(("S" : Str)="F"):=by trivial
 have klf:¬(("S" : Str)="f"):=by trivial
 have kuM:¬(("S" : Str)="M"):=by trivial
 have klm:¬(("S" : Str)="m"):=by trivial
 have kuT:¬(("S" : Str)="T"):=by trivial
 have klt:¬(("S" : Str)="t"):=by trivial
 cases e with
 |born n' s d fa mo =>
  have h1:=hs n' s d fa mo rfl;show YC "M" "m" n' mo (YC "F" "f" n' fa (YJ f s n')) ("S",n)=_;rw [Xh (by trivial),Xh (by trivial),show YJ f s n' ("S",n)=f ("S",n) from Qa (fun z=>h1 (QB (·.1) z).symm)];simp only [kuF,klf,kuM,klm,kuT,klt,RP,RQ,Q6,RS];simp
 |taken c t d =>
  show Yh (Yh f ("T",c) t) ("t",t) c ("S",n)=_;rw [Ys,Qa (fun z=>klt z.1),Ys,Qa (fun z=>kuT z.1)];simp
 |union=>exact (QU _).symm
def _dT (es:List Ent):Prop:=∀n s d fa mo,Ent.born n s d fa mo∈es->s="he"∨s="she"∨s=""
theorem _a6 {l:Str} {ad:Ent->List Str} (st:∀e∈es,∀f:_N,YB f e (l,n)=f (l,n)++ad e):Va es (l,n)=es.flatMap ad:=by
 have go:∀(r:List Ent) (f:_N),(∀e∈r,∀f:_N,YB f e (l,n)=f (l,n)++ad e)->r.foldl YB f (l,n)=f (l,n)++r.flatMap ad:=by
  intro r
  induction r with
  |nil=>intro f _;simp
  |cons e r ih =>
   intro f h;rw [Rb,ih _ (fun e he=>h e (QD _ he)),h e (QI ..),N4,Gd]
 rw [show Va es (l,n)=es.foldl YB (fun _=>[]) (l,n) from rfl,go es _ st];rfl
theorem _hB (h:_dT es) {l:Str} (hl:l∈XD):∀e∈es,∀n' s d fa mo,e=.born n' s d fa mo->s≠l:=fun e he n' s d fa mo z w=>by
 subst z w;have:=h _ _ _ _ _ he;simp only [XD,Qj,QN,QO] at hl;rcases hl with rfl|rfl|rfl|rfl|rfl|rfl|rfl<;>exact absurd this (by trivial)
theorem _hW:∀(c:Str×Str) (x:Str),x∈Va es c->∃e∈es,x∈e.named∨e.bornName=some x:=by
 have ad:∀{f:_N} {c c':Str×Str} {x y:Str},x∈Yh f c y c'->x∈f c'∨x=y:=fun {f c c' x y} h=>by
  unfold Yh at h;split at h
  ·rename_i e;rcases Qh.mp h with h|h
   ·rw [e];exact .inl h
   ·exact .inr (by simpa using h)
  ·exact .inl h
 have go:∀(r:List Ent) (f:_N) (R:Str->Prop),(∀c x,x∈f c->R x)->(∀e∈r,∀x,x∈e.named∨e.bornName=some x->R x)->∀c x,x∈r.foldl YB f c->R x:=by
  intro r
  induction r with
  |nil=>intro f R h _ c x hx;exact h c x hx
  |cons e r ih =>
   intro f R h hr c x hx;refine ih (YB f e) R (fun c x hx=>?_) (fun e he=>hr e (QD _ he)) c x hx;have he:=hr e (QI ..);cases e with
   |born n s d fa mo =>
    have p1:∀{a b y:Str} {g:_N},(∀c x,x∈g c->R x)->(y≠""->R y)->∀c x,x∈YC a b n y g c->R x:=fun {a b y g} hg hy c x hx=>by
     unfold YC at hx;split at hx
     ·exact hg c x hx
     ·rename_i ny;rcases ad hx with hx|rfl
      ·rcases ad hx with hx|rfl
       ·exact hg c x hx
       ·exact hy ny
      ·exact he _ (.inr rfl)
    refine p1 (p1 (fun c x hx=>?_) (fun ny=>he _ (.inl ?_))) (fun ny=>he _ (.inl ?_)) c x hx
    ·unfold YJ at hx;split at hx
     ·rw [show x=n by simpa using hx];exact he _ (.inr rfl)
     ·exact h c x hx
    ·exact RC.mpr ⟨by simp,Qx ny⟩
    ·exact RC.mpr ⟨by simp,Qx ny⟩
   |taken u v d =>
    rcases ad (show x∈Yh (Yh f ("T",u) v) ("t",v) u c from hx) with hx|rfl
    ·rcases ad hx with hx|rfl
     ·exact h c x hx
     ·exact he _ (.inl (by simp [Ent.named]))
    ·exact he _ (.inl (by simp [Ent.named]))
   |union=>exact h c x hx
 intro c x hx;exact go es _ (fun x=>∃e∈es,x∈e.named∨e.bornName=some x) (fun c x h=>(by cases h)) (fun e he x h=>⟨e,he,h⟩) c x hx
theorem _hX {x:Str} (hs:s="he"∨s="she"):x∈Va es (s,n)↔x=n∧∃d f m,Ent.born n s d f m∈es:=by
 have ne:∀{a:Str},a∈(["F","f","M","m","T","t"]:List Str)->¬s=a:=fun ha z=>by
  rw [z] at hs;simp only [Qj,QN,QO] at ha;rcases ha with rfl|rfl|rfl|rfl|rfl|rfl<;>exact absurd hs (by trivial)
 have st:∀(f:_N) (e:Ent),YB f e (s,n)=(match e with|.born n' s' _ _ _=>YJ f s' n' (s,n)|_=>f (s,n)):=fun f e=>by
  cases e with
  |born n' s' d fa mo =>
   show YC "M" "m" n' mo (YC "F" "f" n' fa (YJ f s' n')) (s,n)=YJ f s' n' (s,n);rw [Xh (by trivial),Xh (by trivial)];simp only [ne (a:="m") (by simp),ne (a:="M") (by simp),ne (a:="f") (by simp),ne (a:="F") (by simp),RP,Q6,RS]
  |taken u v d =>
   show Yh (Yh f ("T",u) v) ("t",v) u (s,n)=f (s,n);rw [Ys,Qa (fun z=>ne (a:="t") (by simp) z.1),Ys,Qa (fun z=>ne (a:="T") (by simp) z.1)]
  |_=>rfl
 have go:∀(r:List Ent) (f:_N),(∀y∈f (s,n),y=n)->(x∈r.foldl YB f (s,n)↔(x=n∧∃d g m,Ent.born n s d g m∈r)∨x∈f (s,n)):=by
  intro r
  induction r with
  |nil=>intro f _;simp
  |cons e r ih =>
   intro f hf;have e1:=st f e
   have key:(∀y∈YB f e (s,n),y=n)∧(x∈YB f e (s,n)↔(x=n∧∃d g m,e=.born n s d g m)∨x∈f (s,n)):=by
    cases e with
    |born n' s' d fa mo =>
     rw [show YB f (.born n' s' d fa mo) (s,n)=YJ f s' n' (s,n) from e1];unfold YJ;by_cases z:(s,n)=(s',n')
     ·cases z;rw [Qb rfl];refine ⟨fun y hy=>by simpa using hy,⟨fun h=>.inl ⟨by simpa using h,d,fa,mo,rfl⟩,fun h=>?_⟩⟩;rcases h with h|h
      ·rw [h.1];simp
      ·rw [hf x h];simp
     ·rw [Qa z];refine ⟨hf,⟨.inr,fun h=>h.elim (fun ⟨_,d',g,m,hh⟩=>by cases hh;exact absurd rfl z) id⟩⟩
    |taken=>exact ⟨by rw [e1];exact hf,by rw [e1];exact ⟨.inr,fun h=>h.elim (fun ⟨_,d',g,m,hh⟩=>by cases hh) id⟩⟩
    |union=>exact ⟨hf,⟨.inr,fun h=>h.elim (fun ⟨_,d',g,m,hh⟩=>by cases hh) id⟩⟩
   rw [Rb,ih _ key.1,key.2];constructor
   ·rintro (⟨h1,d,g,m,h2⟩|⟨h1,d,g,m,rfl⟩|h)
    ·exact .inl ⟨h1,d,g,m,QD _ h2⟩
    ·exact .inl ⟨h1,d,g,m,QI ..⟩
    ·exact .inr h
   ·rintro (⟨h1,d,g,m,h2⟩|h)
    ·rcases Qj.mp h2 with h2|h2
     ·exact .inr (.inl ⟨h1,d,g,m,h2.symm⟩)
     ·exact .inl ⟨h1,d,g,m,h2⟩
    ·exact .inr (.inr h)
 have:=go es (fun _=>[]) (fun y hy=>by cases hy);rw [show Va es (s,n)=es.foldl YB (fun _=>[]) (s,n) from rfl,this];simp
theorem Jj {ls:JP} {f:_N} {l:Str} (h:¬l="S"):ls.foldl VL f (l,n)=f (l,n):=by
 induction ls generalizing f with
 |nil=>rfl
 |cons q r ih =>
  rw [Rb,ih];unfold VL;split
  ·rw [Ys,Qa (fun z=>h z.1),Ys,Qa (fun z=>h z.1)]
  ·rfl
theorem _cR {ls:JP} {f:_N} {x:Str}:x∈ls.foldl VL f ("S",n)↔x∈f ("S",n)∨∃q∈ls,q.2.2.2="union"∧(q.1=(n,x)∨q.1=(x,n)):=by
 induction ls generalizing f with
 |nil=>simp
 |cons q r ih =>
  rw [Rb,ih]
  have st:x∈VL f q ("S",n)↔x∈f ("S",n)∨(q.2.2.2="union"∧(q.1=(n,x)∨q.1=(x,n))):=by
   obtain ⟨⟨a,b⟩,ar,d,k⟩:=q;unfold VL;by_cases hu:k="union"
   ·show x∈(if k="union" then Yh (Yh f ("S",a) b) ("S",b) a else f) ("S",n)↔x∈f ("S",n)∨(k="union"∧((a,b)=(n,x)∨(a,b)=(x,n)));rw [Qb hu,Ys];by_cases h1:n=b
    ·subst h1;rw [Qb ⟨rfl,rfl⟩,Ys];by_cases h2:n=a
     ·subst h2;rw [Qb ⟨rfl,rfl⟩];simp [hu];exact ⟨fun h=>h.imp id Eq.symm,fun h=>h.imp id Eq.symm⟩
     ·rw [Qa (fun z=>h2 z.2)];simp [hu];constructor
      ·rintro (h|h)
       ·exact .inl h
       ·exact .inr (.inr h.symm)
      ·rintro (h|⟨h,_⟩|h)
       ·exact .inl h
       ·exact absurd h.symm h2
       ·exact .inr h.symm
    ·rw [Qa (fun z=>h1 z.2),Ys];by_cases h2:n=a
     ·subst h2;rw [Qb ⟨rfl,rfl⟩];simp [hu];constructor
      ·rintro (h|h)
       ·exact .inl h
       ·exact .inr (.inl h.symm)
      ·rintro (h|h|⟨_,h⟩)
       ·exact .inl h
       ·exact .inr h.symm
       ·exact absurd h.symm h1
     ·rw [Qa (fun z=>h2 z.2)];simp only [hu,RQ,Prod.mk.injEq];exact ⟨.inl,fun h=>h.elim id fun h=>h.elim (fun z=>absurd z.1.symm h2) fun z=>absurd z.2.symm h1⟩
   ·show x∈(if k="union" then _ else f) ("S",n)↔x∈f ("S",n)∨(k="union"∧_);rw [Qa hu];exact ⟨.inl,fun h=>h.elim id fun h=>absurd h.1 hu⟩
  rw [st];constructor
  ·rintro ((h|h)|⟨q',h1,h2⟩)
   ·exact .inl h
   ·exact .inr ⟨q,QI ..,h⟩
   ·exact .inr ⟨q',QD _ h1,h2⟩
  ·rintro (h|⟨q',h1,h2⟩)
   ·exact .inl (.inl h)
   ·rcases Qj.mp h1 with rfl|h1
    ·exact .inl (.inr h2)
    ·exact .inr ⟨q',h1,h2⟩
noncomputable def dk (e:Ent):Int×Str:=(e.day,e.kind)
theorem _nq (es:List Ent) (a b:Str):WB es (_g a b)=(es.foldl (WS a b) none).map dk:=by
 have go:∀(r:List Ent) (g:Str×Str->Option (Int×Str)) (o:Option Ent),g (_g a b)=o.map dk->r.foldl Xn g (_g a b)=(r.foldl (WS a b) o).map dk:=by
  intro r
  induction r with
  |nil=>intro g o h;exact h
  |cons e r ih =>
   intro g o h;rw [Rb,Rb];refine ih _ _ ?_;unfold Xn WS;by_cases c:e.tie=true∧_g e.pr.1 e.pr.2=_g a b
   ·rw [Qb ⟨c.1,c.2.symm⟩,Qb c,h];cases o with
    |none=>rfl
    |some l =>
     show (if (dk l).1<e.day then _ else _)=Option.map dk (if l.day<e.day then _ else _);show (if l.day<e.day then some (e.day,e.kind) else some (dk l))=_;split<;>rfl
   ·rw [Qa (fun z=>c ⟨z.1,z.2.symm⟩),Qa c];exact h
 exact go es _ none rfl
theorem _mf (es:List Ent):WB (es.map Ent.told)=WB es:=by
 have st:∀(g:Str×Str->Option (Int×Str)) (e:Ent),Xn g e.told=Xn g e:=fun g e=>by
  cases e with
  |union a b d =>
   funext c
   show (if true=true∧c=_g (_g a b).1 (_g a b).2 then _ else g c)=(if true=true∧c=_g a b then _ else g c);rw [Jl];rfl
  |_=>rfl
 unfold WB;rw [List.foldl_map];exact QB (fun z=>es.foldl z fun _=>none) (funext fun g=>funext fun e=>st g e)
theorem _iY:∀{c:Str×Str} {r:Int×Str},WB es c=some r->∃e∈es,e.tie=true∧c=_g e.pr.1 e.pr.2:=by
 have go:∀(l:List Ent) (g:Str×Str->Option (Int×Str)) (R:Str×Str->Prop),(∀c r,g c=some r->R c)->(∀e∈l,e.tie=true->R (_g e.pr.1 e.pr.2))->∀c r,l.foldl Xn g c=some r->R c:=by
  intro l
  induction l with
  |nil=>intro g R h _ c r e;exact h c r e
  |cons e l ih =>
   intro g R h hl c r hr;refine ih _ R (fun c r hc=>?_) (fun e he=>hl e (QD _ he)) c r hr;unfold Xn at hc;split at hc
   ·rename_i z;rw [z.2];exact hl e (QI ..) z.1
   ·exact h c r hc
 intro c r h;exact go es _ (fun c=>∃e∈es,e.tie=true∧c=_g e.pr.1 e.pr.2) (fun c r z=>(by cases z)) (fun e he t=>⟨e,he,t,rfl⟩) c r h
theorem _hu {κ α:Type} [DecidableEq κ] {q:κ×α}:∀{l:List (κ×α)},(l.map (·.1)).Nodup->q∈l->_E q.1 l=some q.2
 |[],_,h=>by cases h
 |p::l,nd,h=>by
  obtain ⟨n1,n2⟩:=QS.mp nd;unfold _E;rcases Qj.mp h with rfl|h
  ·rw [Qb rfl]
  ·rw [Qa (fun z=>n1 (by show p.1∈_;rw [z];exact GI (f:=(·.1)) h))];exact _hu n2 h
theorem _he (gd:GdL pool es):_dT es:=fun n s d fa mo h=>_nk (gd.d5 _ h).1
theorem _ji {ad:Ent->List Str} (h:∀e,ad e.told=ad e) (es:List Ent):(es.map Ent.told).flatMap ad=es.flatMap ad:=by
 rw [List.flatMap_map];exact QB (fun z=>es.flatMap z) (funext h)
structure Jn (pool:List Str) (B:Bk) (es:List Ent) (ls:JP) (F:_N):Prop where
 li:LI5 pool B B.kept
 hk:B.kept.map (·.1)=es.map Ent.told
 gd:GdL pool es
 kn:(ls.map (·.1)).Nodup
 la:∀c,(_E c ls).map (·.2)=WB es c
 lke:∀c,F c=ls.foldl VL (Va es) c
section
variable {ls:JP} {F:_N}
theorem Jn.known (j:Jn pool B es ls F) (h:Ent.born n s d f m∈es):Known B n∧X4 B n=s:=by
 have:=U0 j.hk j.gd.bu (_ak.mpr h);exact ⟨this.1,this.2.1⟩
theorem Jn.born (j:Jn pool B es ls F) (h:Known B n):∃d f m,Ent.born n (X4 B n) d f m∈es:=by
 unfold Known at h;obtain ⟨p,hp⟩:=Me.mp h;obtain ⟨hm,hb⟩:=_aS hp;obtain ⟨e,a⟩:=p;cases e with
 |born n' s d f m =>
  cases hb;have e1:X4 B n=s:=_aL hp rfl;have:Ent.born n s d f m∈B.kept.map (·.1):=Qg.mpr ⟨_,hm,rfl⟩;rw [j.hk] at this;rw [e1];exact ⟨d,f,m,_ak.mp this⟩
 |_=>cases hb
theorem Jn.inp (j:Jn pool B es ls F) (h:Known B n):n∈pool:=by
 obtain ⟨d,f,m,hb⟩:=j.born h;exact (j.gd.d5 _ hb).2.2 n rfl
theorem Jn.find (j:Jn pool B es ls F) {q:(Str×Str)×Addr×Int×Str} (h:q∈ls):WB es q.1=some q.2.2:=by
 rw [←j.la];have:_E q.1 ls=some q.2:=_hu j.kn h;rw [this];rfl
theorem Jn.mem_in (j:Jn pool B es ls F) {x:Str} (h:x∈F c):Known B x:=by
 have ex:∃e∈es,x∈e.named∨e.bornName=some x:=by
  rw [j.lke] at h;obtain ⟨l,n⟩:=c;by_cases e:l="S"
  ·subst e;rcases _cR.mp h with h|⟨q,hq,_,hx⟩
   ·exact _hW _ _ h
   ·obtain ⟨e,he,ht,hs⟩:=_iY (j.find hq);refine ⟨e,he,.inl ?_⟩
    have _Z:x=e.pr.1∨x=e.pr.2:=by
     have:_g e.pr.1 e.pr.2=(e.pr.1,e.pr.2)∨_g e.pr.1 e.pr.2=(e.pr.2,e.pr.1):=by unfold _g;split<;>simp
     rcases hx with hx|hx<;>rcases this with t|t<;>rw [←hs,hx] at t<;>have t1:=QB (·.1) t<;>have t2:=QB (·.2) t
     ·exact .inr t2
     ·exact .inl t2
     ·exact .inl t1
     ·exact .inr t1
    cases e with
    |union a b d=>rcases _Z with rfl|rfl<;>simp [Ent.named,Ent.pr]
    |_=>cases ht
  ·rw [Jj e] at h;exact _hW _ _ h
 obtain ⟨e,he,h1|h1⟩:=ex
 ·obtain ⟨s,d,f,m,hb⟩:=j.gd.known e he x h1;exact (j.known (_ak.mp hb)).1
 ·cases e with
  |born n s d f m=>cases h1;exact (j.known he).1
  |_=>cases h1
theorem Jn.step (j:Jn pool B es ls F) (hs:s∈_o) (kn:Known B n) (x:Str):x∈Yo B s n↔x∈F (s,n):=by
 have so:=_he j.gd;have ne:=fun {l:Str} (hl:l∈XD)=>_hB so hl;have lks:∀l,Yj B l n=(Yx (es.map Ent.told)).1 (l,n):=fun l=>by rw [V0,j.li.st.lks,j.hk]
 have six:∀{l:Str} {ad:Str->Ent->List Str},Vr l=false->¬l="S"->Adds l ad->(∀e,ad n e.told=ad n e)->(∀e∈es,∀f:_N,YB f e (l,n)=f (l,n)++ad n e)->(x∈Yo B l n↔x∈F (l,n)):=fun {l ad} ht nS A tl st=>by
  unfold Yo;rw [Qa (by rw [ht];decide),lks,A.all,(Wh _).mem_iff,_ji tl,j.lke,Jj nS,_a6 st]
 have tst:s="he"∨s="she"->(x∈Yo B s n↔x∈F (s,n)):=fun h=>by
  have ht:Vr s=true:=by rcases h with rfl|rfl<;>trivial
  have nS:¬s="S":=by rcases h with rfl|rfl<;>trivial
  unfold Yo;rw [Qb ht,j.lke,Jj nS,_hX h];obtain ⟨d,f,m,hb⟩:=j.born kn;by_cases e:X4 B n=s
  ·rw [Qb e];rw [e] at hb;exact ⟨fun z=>⟨by simpa using z,d,f,m,hb⟩,fun z=>by rw [z.1];simp⟩
  ·rw [Qa e];exact ⟨fun z=>(by cases z),fun ⟨_,d',f',m',hb'⟩=>absurd (j.known hb').2 e⟩
 simp only [_o,Qj,QN,QO] at hs;rcases hs with rfl|rfl|rfl|rfl|rfl|rfl|rfl|h|h
 ·exact six (by trivial) (by trivial) _hf (fun e=>by cases e<;>rfl) fun e he f=>_f7 f e n (ne (by trivial) e he)
 ·exact six (by trivial) (by trivial) _is (fun e=>by cases e<;>rfl) fun e he f=>_gk f e n (ne (by trivial) e he)
 ·exact six (by trivial) (by trivial) _gL (fun e=>by cases e<;>rfl) fun e he f=>_hR f e n (ne (by trivial) e he)
 ·exact six (by trivial) (by trivial) _iE (fun e=>by cases e<;>rfl) fun e he f=>_iO f e n (ne (by trivial) e he)
 ·exact six (by trivial) (by trivial) _f0 (fun e=>by cases e<;>rfl) fun e he f=>_gf f e n (ne (by trivial) e he)
 ·exact six (by trivial) (by trivial) _hV (fun e=>by cases e<;>rfl) fun e he f=>_il f e n (ne (by trivial) e he)
 ·have eS:Va es ("S",n)=[]:=by
   rw [_a6 (ad:=fun _=>[]) fun e he f=>_i4 f e n (ne (by trivial) e he)];simp
  have ap:=j.li.ap';have once:=j.li.once;rw [j.hk] at ap once;unfold Yo;rw [Qa (by trivial),lks,(_mi ap).mem,_hg once,←_of once,j.lke,_cR,eS]
  have td:_am (es.map Ent.told) n x=true↔∃d,WB es (_g n x)=some (d,("union" : Str)):=by
   rw [←_mf,_nq];unfold _am;cases (es.map Ent.told).foldl (WS n x) none with
   |none=>simp
   |some e =>
    show decide (e.kind="union")=true↔∃d,some (e.day,e.kind)=some (d,("union" : Str));rw [decide_eq_true_iff];exact ⟨fun h=>⟨e.day,by rw [h]⟩,fun ⟨d,h⟩=>QB (·.2) (Qn h)⟩
  rw [td];constructor
  ·rintro ⟨d,h⟩;rw [←j.la] at h;cases hf:_E (_g n x) ls with
   |none=>rw [hf] at h;cases h
   |some w =>
    rw [hf] at h;have hm:=V3 hf;have hw:w.2=(d,("union" : Str)):=Qn h;refine .inr ⟨_,hm,by rw [hw],?_⟩;show _g n x=(n,x)∨_g n x=(x,n);unfold _g;split<;>simp
  ·rintro (h|⟨q,hq,hu,hx⟩)
   ·cases h
   ·have hl:=j.find hq;obtain ⟨e,he,ht,hs⟩:=_iY hl
    have e1:_g n x=q.1:=by
     rcases hx with hx|hx
     ·rw [show _g n x=_g q.1.1 q.1.2 by rw [hx],hs,Jl]
     ·rw [_cv,show _g x n=_g q.1.1 q.1.2 by rw [hx],hs,Jl]
    rw [e1,hl];exact ⟨q.2.2.1,by rw [←hu]⟩
 ·exact tst (.inl h)
 ·exact tst (.inr h)
theorem Jn.clo (j:Jn pool B es ls F) (l:pool.length≤60):Clo B pool:=⟨fun s hs n kn x hx=>j.mem_in ((j.step hs kn x).mp hx),fun n h=>j.inp h,l⟩
end
theorem BkAt.noE {k y:Addr} (h:BkAt K C H b dx k bi li ti su B) (hy:H y=none∨y=bi∨y∈B.ties.map (·.2.1)) {c:Addr} (m:c∈[k,bi,li,ti,su,y]):∀φ,H c≠some (.ext φ):=fun φ z=>by
 simp only [Qj,QN,QO] at m;rcases m with rfl|rfl|rfl|rfl|rfl|rfl
 ·rw [h.ke] at z;cases z
 ·rw [h.bi] at z;cases z
 ·rw [h.li] at z;cases z
 ·rw [h.ti] at z;cases z
 ·rw [h.su] at z;cases z
 ·rcases hy with hy|rfl|hy
  ·rw [hy] at z;cases z
  ·rw [h.bi] at z;cases z
  ·obtain ⟨q,hq,rfl⟩:=Qg.mp hy;rw [h.tt q hq] at z;cases z
theorem LamH.but {P:Addr} {ln co:Nat} {q:Str} (h:LamH P ln co q H) (b:But S H H') (n:∀c∈S,∀φ,H c≠some (.ext φ)):LamH P ln co q H':=by
 obtain ⟨oc,h1,h2⟩:=h;exact ⟨oc,b.eq _ _ (fun m=>n _ m _ h1) h1,fun c' e=>b.eq _ _ (fun m=>n _ m _ (h2 c' e)) (h2 c' e)⟩
noncomputable def _ol:Str:=("book_of_tree" : Str)++".<locals>."++"<lambda>"
abbrev Xr (tb:Addr) (H:Hp):Prop:=LamH tb 255 52 _ol H
noncomputable abbrev _mc:Arguments:=⟨[],[⟨"one",none,⟨255,59,255,62⟩⟩],none,[],[],none,[]⟩
noncomputable abbrev _pK:Scope:=⟨.function,[("one",.local),("tree",.free)],false,false,[]⟩
theorem _nP:LamOkD "one" "tree" "days" _mc _pK ⟨255,64,255,68⟩ ⟨255,64,255,73⟩ ⟨255,74,255,77⟩ ⟨255,64,255,78⟩ where
 bind:=fun _ _ _ _ _ _=>rfl
 loc:=rfl
 fre:=rfl
 kind:=rfl
 co:=rfl
 gen:=rfl
 cell:=by trivial
 db:=by trivial
 base:=fun _ _ _ _ _=>rfl
 sub:=fun _ _=>rfl
def J9 (K:W.Frag) (tb tb2:Addr):Sp:=fun vs H Q E=>∃(l:Addr) (ns:List Int),vs=[.ref l]∧SqL K H l (ns.map V.int)∧ns.length≤63∧WL tb H∧Xr tb2 H∧∀H',WL tb H'->Xr tb2 H'->Q (.bl true) H'
structure Tr where
 days:List Int
 sorts:List Str
 par:List ((Str×Nat)×Nat)
 tak:List (Nat×Nat)
 uni:List (Nat×Nat)
 clash:Bool
 here:Nat
noncomputable def Uc:Tr:=⟨[0],[""],[],[],[],false,0⟩
noncomputable def Ws (t:Tr) (l:Str) (c:Nat):Option Nat:=(t.par.find? fun q=>decide (q.1=(l,c))).map (·.2)
noncomputable def Tr.ask (t:Tr) (i:Nat) (s:Str):Tr:=if t.sorts.getD i ""="" then { t with sorts:=t.sorts.set i s } else if t.sorts.getD i ""=s then t else { t with clash:=true }
noncomputable def Tr.grow (t:Tr) (k:Int):Tr:={ t with days:=t.days++[t.days.getD t.here 0+k],sorts:=t.sorts++[("" : Str)],here:=t.days.length }
noncomputable def _K (l:Str):Str:=if l="F" then "he" else "she"
noncomputable def Tr.addPar (t:Tr) (l:Str) (c p:Nat):Tr:={ t with par:=t.par++[((l,c),p)] }
noncomputable def Tr.goUp (t:Tr) (l:Str):Tr:=match Ws t l t.here with
 |some p=>{ t with here:=p }
 |none=>let u:=(t.grow (-1)).addPar l t.here t.days.length
  u.ask u.here (_K l)
noncomputable def _x (s:Str):Str:=if s="f" then "F" else "M"
noncomputable def Tr.go (t:Tr) (s:Str):Tr :=
 if s="he"∨s="she" then t.ask t.here s
 else if s="F"∨s="M" then t.goUp s
 else if s="f"∨s="m" then ((t.ask t.here (_K (_x s))).grow 1).addPar (_x s) t.days.length t.here
 else if s="T" then { t.grow (-1) with tak:=t.tak++[(t.here,t.days.length)] }
 else if s="t" then { t.grow 1 with tak:=t.tak++[(t.days.length,t.here)] }
 else { t.grow 0 with uni:=t.uni++[(t.here,t.days.length)] }
noncomputable def _6 (way:List Str):Tr:=way.foldl Tr.go Uc
noncomputable def YD (ps:List ((Str×Nat)×Nat)):List (List _l×V):=ps.map fun q=>([.inr q.1.1,.inl q.1.2],.int q.2)
def PrAt (H:Hp) (ps:List (Nat×Nat)) (vs:List V):Prop:=vs.length=ps.length∧∀(i:Nat) (p:Nat×Nat) (v:V),ps[i]?=some p->vs[i]?=some v->∃a,v=.ref a∧H a=some (.tup [.int p.1,.int p.2])
noncomputable def _fO (dl sl pl tl ul:Addr) (t:Tr):List (Str×V):=[("days",.ref dl),("sorts",.ref sl),("parents",.ref pl),("takings",.ref tl),("unions",.ref ul),("clash",.bl t.clash),("here",.int t.here)]
structure TrAt (C:Addr) (H:Hp) (o dx dl sl pl tl ul:Addr) (t:Tr):Prop where
 ob:H o=some (.ins C dx (_fO dl sl pl tl ul t))
 ap:[dl,sl,tl,ul].Nodup
 da:H dl=some (.lst (t.days.map V.int))
 so:H sl=some (.lst (t.sorts.map V.str))
 pa:H pl=some (.dT (YD t.par))
 ta:∃vs,H tl=some (.lst vs)∧PrAt H t.tak vs
 un:∃vs,H ul=some (.lst vs)∧PrAt H t.uni vs
structure TrOk (t:Tr):Prop where
 len:t.sorts.length=t.days.length
 he:t.here<t.days.length
 few:t.days.length≤60
 pf:t.par.length≤60
 tf:t.tak.length≤60
 uf:t.uni.length≤60
 pk:∀q∈t.par,q.1.2<t.days.length
theorem PrAt.mono (h:PrAt H ps vs) (s:∀a xs,H a=some (.tup xs)->H' a=some (.tup xs)):PrAt H' ps vs:=⟨h.1,fun i p v e1 e2=>by
 obtain ⟨a,ea,ha⟩:=h.2 i p v e1 e2;exact ⟨a,ea,s _ _ ha⟩⟩
theorem PrAt.snoc (h:PrAt H ps vs) (e:H a=some (.tup [.int p.1,.int p.2])):PrAt H (ps++[p]) (vs++[.ref a]):=by
 refine ⟨by simp [h.1],fun i q v e1 e2=>?_⟩;by_cases l:i<ps.length
 ·rw [RE l] at e1;rw [RE (by rw [h.1];exact l)] at e2;exact h.2 i q v e1 e2
 ·have li:=(Qz.mp e1).1;rw [Qm,Rs] at li;have ei:i=ps.length:=by omega
  subst ei;rw [Rp (Qe _),GJ] at e1;rw [Rp (by rw [h.1];exact Qe _),h.1,GJ] at e2;cases (show p=q by simpa using e1);cases (show V.ref a=v by simpa using e2);exact ⟨a,rfl,e⟩
theorem TrAt.mono {o tl:Addr} {t:Tr} (h:TrAt C H o dx dl sl pl tl ul t) (s:Same H H'):TrAt C H' o dx dl sl pl tl ul t:=by
 obtain ⟨vs,h1,h2⟩:=h.ta;obtain ⟨us,h3,h4⟩:=h.un;exact ⟨s _ _ h.ob,h.ap,s _ _ h.da,s _ _ h.so,s _ _ h.pa,⟨vs,s _ _ h1,h2.mono fun a xs e=>s _ _ e⟩,us,s _ _ h3,h4.mono fun a xs e=>s _ _ e⟩
section
variable {o tl:Addr} {t:Tr}
theorem TrAt.apart (h:TrAt C H o dx dl sl pl tl ul t):(o≠dl∧o≠sl∧o≠pl∧o≠tl∧o≠ul)∧(pl≠dl∧pl≠sl∧pl≠tl∧pl≠ul)∧dl≠sl∧dl≠tl∧dl≠ul∧sl≠tl∧sl≠ul∧tl≠ul:=by
 obtain ⟨vs,h1,_⟩:=h.ta;obtain ⟨us,h2,_⟩:=h.un;have n:=h.ap;simp only [QS,Qj,QN,QO,not_or,NL,N3,and_true] at n
 exact ⟨⟨Yg h.ob h.da (fun z=>by cases z),Yg h.ob h.so (fun z=>by cases z),Yg h.ob h.pa (fun z=>by cases z),Yg h.ob h1 (fun z=>by cases z),Yg h.ob h2 (fun z=>by cases z)⟩,
  ⟨Yg h.pa h.da (fun z=>by cases z),Yg h.pa h.so (fun z=>by cases z),Yg h.pa h1 (fun z=>by cases z),Yg h.pa h2 (fun z=>by cases z)⟩,n.1.1,n.1.2.1,n.1.2.2,n.2.1.1,n.2.1.2,n.2.2⟩
theorem Xu {xs:List V} {v:HO} (e:H a=some (.tup xs)) (hb:H b=some u) (n:∀ys,u≠.tup ys):_c H b v a=some (.tup xs):=(_d (Yg e hb (fun z=>n _ z.symm))).trans e
end
section
variable {o tl:Addr} {t:Tr}
theorem TrAt.obj (h:TrAt C H o dx dl sl pl tl ul t) (c:Bool) (n:Nat):TrAt C (_c H o (.ins C dx (_fO dl sl pl tl ul { t with clash:=c,here:=n }))) o dx dl sl pl tl ul { t with clash:=c,here:=n }:=by
 obtain ⟨⟨a1,a2,a3,a4,a5⟩,_⟩:=h.apart;obtain ⟨vs,h1,h2⟩:=h.ta;obtain ⟨us,h3,h4⟩:=h.un;exact ⟨_f,h.ap,(_d a1.symm).trans h.da,(_d a2.symm).trans h.so,(_d a3.symm).trans h.pa,⟨vs,(_d a4.symm).trans h1,h2.mono fun a xs e=>Xu e h.ob (fun _ z=>by cases z)⟩,us,(_d a5.symm).trans h3,h4.mono fun a xs e=>Xu e h.ob (fun _ z=>by cases z)⟩
theorem TrAt.setS (h:TrAt C H o dx dl sl pl tl ul t) (ss:List Str):TrAt C (_c H sl (.lst (ss.map V.str))) o dx dl sl pl tl ul { t with sorts:=ss }:=by
 obtain ⟨⟨a1,a2,a3,a4,a5⟩,⟨b1,b2,b3,b4⟩,c1,c2,c3,c4,c5,c6⟩:=h.apart;obtain ⟨vs,h1,h2⟩:=h.ta;obtain ⟨us,h3,h4⟩:=h.un;exact ⟨(_d a2).trans h.ob,h.ap,(_d c1).trans h.da,_f,(_d b2).trans h.pa,⟨vs,(_d c4.symm).trans h1,h2.mono fun a xs e=>Xu e h.so (fun _ z=>by cases z)⟩,us,(_d c5.symm).trans h3,h4.mono fun a xs e=>Xu e h.so (fun _ z=>by cases z)⟩
theorem TrAt.setD (h:TrAt C H o dx dl sl pl tl ul t) (ds:List Int):TrAt C (_c H dl (.lst (ds.map V.int))) o dx dl sl pl tl ul { t with days:=ds }:=by
 obtain ⟨⟨a1,a2,a3,a4,a5⟩,⟨b1,b2,b3,b4⟩,c1,c2,c3,c4,c5,c6⟩:=h.apart;obtain ⟨vs,h1,h2⟩:=h.ta;obtain ⟨us,h3,h4⟩:=h.un;exact ⟨(_d a1).trans h.ob,h.ap,_f,(_d c1.symm).trans h.so,(_d b1).trans h.pa,⟨vs,(_d c2.symm).trans h1,h2.mono fun a xs e=>Xu e h.da (fun _ z=>by cases z)⟩,us,(_d c3.symm).trans h3,h4.mono fun a xs e=>Xu e h.da (fun _ z=>by cases z)⟩
theorem TrAt.setP (h:TrAt C H o dx dl sl pl tl ul t) (ps:List ((Str×Nat)×Nat)):TrAt C (_c H pl (.dT (YD ps))) o dx dl sl pl tl ul { t with par:=ps }:=by
 obtain ⟨⟨a1,a2,a3,a4,a5⟩,⟨b1,b2,b3,b4⟩,c1,c2,c3,c4,c5,c6⟩:=h.apart;obtain ⟨vs,h1,h2⟩:=h.ta;obtain ⟨us,h3,h4⟩:=h.un;exact ⟨(_d a3).trans h.ob,h.ap,(_d b1.symm).trans h.da,(_d b2.symm).trans h.so,_f,⟨vs,(_d b3.symm).trans h1,h2.mono fun a xs e=>Xu e h.pa (fun _ z=>by cases z)⟩,us,(_d b4.symm).trans h3,h4.mono fun a xs e=>Xu e h.pa (fun _ z=>by cases z)⟩
theorem TrAt.addT (h:TrAt C H o dx dl sl pl tl ul t) (h1:H tl=some (.lst vs)) (h2:PrAt H t.tak vs) (e:H a=some (.tup [.int p.1,.int p.2])):TrAt C (_c H tl (.lst (vs++[.ref a]))) o dx dl sl pl tl ul { t with tak:=t.tak++[p] }:=by
 obtain ⟨⟨a1,a2,a3,a4,a5⟩,⟨b1,b2,b3,b4⟩,c1,c2,c3,c4,c5,c6⟩:=h.apart;obtain ⟨us,h3,h4⟩:=h.un;exact ⟨(_d a4).trans h.ob,h.ap,(_d c2).trans h.da,(_d c4).trans h.so,(_d b3).trans h.pa,⟨_,_f,PrAt.snoc (h2.mono fun a xs e=>Xu e h1 (fun _ z=>by cases z)) (Xu e h1 (fun _ z=>by cases z))⟩,us,(_d c6.symm).trans h3,h4.mono fun a xs e=>Xu e h1 (fun _ z=>by cases z)⟩
theorem TrAt.addU (h:TrAt C H o dx dl sl pl tl ul t) {us:List V} (h1:H ul=some (.lst us)) (h2:PrAt H t.uni us) (e:H a=some (.tup [.int p.1,.int p.2])):TrAt C (_c H ul (.lst (us++[.ref a]))) o dx dl sl pl tl ul { t with uni:=t.uni++[p] }:=by
 obtain ⟨⟨a1,a2,a3,a4,a5⟩,⟨b1,b2,b3,b4⟩,c1,c2,c3,c4,c5,c6⟩:=h.apart;obtain ⟨vs,h3,h4⟩:=h.ta;exact ⟨(_d a5).trans h.ob,h.ap,(_d c3).trans h.da,(_d c5).trans h.so,(_d b4).trans h.pa,⟨vs,(_d c6).trans h3,h4.mono fun a xs e=>Xu e h1 (fun _ z=>by cases z)⟩,_,_f,PrAt.snoc (h2.mono fun a xs e=>Xu e h1 (fun _ z=>by cases z)) (Xu e h1 (fun _ z=>by cases z))⟩
end
theorem But.updT (h:But S H H') (m:a∈S):But S H (_c H' a u):=⟨fun c v n e=>by rw [_d (fun z:c=a=>n (by rw [z];exact m))];exact h.eq c v n e,fun c n=>h.al c (by
 by_cases z:c=a
 ·rw [z,_f] at n;cases n
 ·rw [_d z] at n;exact n)⟩
theorem But.wide {S':List Addr} (h:But S H H') (m:∀c∈S,c∈S'):But S' H H':=⟨fun c v n e=>h.eq c v (fun z=>n (m c z)) e,h.al⟩
theorem But.rfl' (S:List Addr) (H:Hp):But S H H:=⟨fun _ _ _ e=>e,fun _ n=>n⟩
theorem Jz (ps:List ((Str×Nat)×Nat)) (l:Str) (c:Nat):_F (YD ps) [.inr l,.inl (c:Int)]=((ps.find? fun q=>decide (q.1=(l,c))).map (·.2)).map fun n:Nat=>V.int n:=by
 induction ps with
 |nil=>rfl
 |cons q ps ih =>
  unfold YD;rw [Qw];by_cases e:q.1=(l,c)
  ·rw [Xw (by rw [e]),List.find?_cons_of_pos (by simpa using e)];rfl
  ·rw [Xz (fun z=>e (by
    have z1:=RO z;have z2:=RO z1.2;exact Rh (R8 z1.1) (by have:=Sum.inl.inj z2.1;exact Nj this))),List.find?_cons_of_neg (by simpa using e)]
   exact ih
theorem _c5 {ps:List ((Str×Nat)×Nat)} {l:Str} {c p:Nat} (h:(ps.find? fun q=>decide (q.1=(l,c)))=none):Ym (YD ps) [.inr l,.inl (c:Int)] (.int p)=YD (ps++[((l,c),p)]):=by
 rw [_aZ _ (by rw [Jz,h];rfl)];unfold YD;rw [Qo];rfl
theorem _pU {n:Nat} (h:i<n):Wa n (i:Int)=some i:=by
 unfold Wa;rw [Qb (Int.natCast_nonneg i),Qb (by omega)];rfl
theorem _e8 {ws:List Str} {n:Nat} {z:Str} (h:ws[n]?=some z):Yk (ws.map V.str) (n:Int)=some (.str z):=Wg (by rw [Qp,h];rfl)
theorem Yy (t:Tr) (i:Nat) (s:Str):(t.ask i s).days=t.days∧(t.ask i s).par=t.par∧(t.ask i s).tak=t.tak∧(t.ask i s).uni=t.uni∧(t.ask i s).here=t.here∧(t.ask i s).sorts.length=t.sorts.length:=by
 unfold Tr.ask;split
 ·exact ⟨rfl,rfl,rfl,rfl,rfl,List.length_set⟩
 ·split<;>exact ⟨rfl,rfl,rfl,rfl,rfl,rfl⟩
theorem TrOk.ask {t:Tr} (h:TrOk t) (i:Nat) (s:Str):TrOk (t.ask i s):=by
 obtain ⟨a,b,c,d,e,f⟩:=Yy t i s;exact ⟨by rw [f,a];exact h.len,by rw [e,a];exact h.he,by rw [a];exact h.few,by rw [b];exact h.pf,by rw [c];exact h.tf,by rw [d];exact h.uf,by rw [a,b];exact h.pk⟩
theorem Y5 (t:Tr) (k:Int):(t.grow k).days.length=t.days.length+1:=by unfold Tr.grow;rw [Qm];rfl
theorem TrOk.grow {t:Tr} (h:TrOk t) (l:t.days.length≤59) (k:Int):TrOk (t.grow k):=⟨by rw [Y5];show (t.sorts++[("" : Str)]).length=_;rw [Qm,h.len];rfl,by rw [Y5];exact Q9 _,by rw [Y5];omega,h.pf,h.tf,h.uf,fun q hq=>by rw [Y5];exact Gg (h.pk q hq)⟩
theorem TrOk.addPar {t:Tr} (h:TrOk t) (l:t.par.length≤59) (s:Str) {c:Nat} (hc:c<t.days.length) (p:Nat):TrOk (t.addPar s c p):=⟨h.len,h.he,h.few,by show (t.par++[_]).length≤60;rw [Qm];simp;omega,h.tf,h.uf,fun q hq=>by
 rcases Qh.mp hq with hq|hq
 ·exact h.pk q hq
 ·rw [Qr.mp hq];exact hc⟩
theorem _iC {t:Tr} (h:TrOk t) (l:Str):(t.par.find? fun q=>decide (q.1=(l,t.days.length)))=none:=by
 rw [NX];intro q hq z;have e:q.1=(l,t.days.length):=Q8 z;have:=h.pk q hq;rw [e] at this;exact absurd this (QF _)
theorem Jq (t:Tr) (h:s="he"∨s="she"):t.go s=t.ask t.here s:=by unfold Tr.go;rw [Qb h]
theorem _ai (t:Tr) (h:s="F"∨s="M"):t.go s=t.goUp s:=by unfold Tr.go;rw [Qa (by rcases h with rfl|rfl<;>trivial),Qb h]
theorem JR (t:Tr) (h:s="f"∨s="m"):t.go s=((t.ask t.here (_K (_x s))).grow 1).addPar (_x s) t.days.length t.here:=by unfold Tr.go;rw [Qa (by rcases h with rfl|rfl<;>trivial),Qa (by rcases h with rfl|rfl<;>trivial),Qb h]
theorem _bC (t:Tr):t.go "T"={ t.grow (-1) with tak:=t.tak++[(t.here,t.days.length)] }:=by unfold Tr.go;rw [Qa (by trivial),Qa (by trivial),Qa (by trivial),Qb rfl]
theorem _ba (t:Tr):t.go "t"={ t.grow 1 with tak:=t.tak++[(t.days.length,t.here)] }:=by unfold Tr.go;rw [Qa (by trivial),Qa (by trivial),Qa (by trivial),Qa (by trivial),Qb rfl]
theorem _ap (t:Tr):t.go "S"={ t.grow 0 with uni:=t.uni++[(t.here,t.days.length)] }:=by unfold Tr.go;rw [Qa (by trivial),Qa (by trivial),Qa (by trivial),Qa (by trivial),Qa (by trivial)]
noncomputable def _e (i:Nat):Str:=⟨#[97,97+i]⟩
noncomputable def Yd (t:Tr) (l:Str) (i:Nat):Str:=match Ws t l i with
 |some p=>_e p
 |none=>""
noncomputable def XJ (t:Tr) (i:Nat):Ent:=.born (_e i) (t.sorts.getD i "") (t.days.getD i 0) (Yd t "F" i) (Yd t "M" i)
theorem _ml:∀n,n<26->("abcdefghijklmnopqrstuvwxyz": Str).cps.toList[n]?=some (97+n):=by trivial
theorem _gV {ps:List ((Str×Nat)×Nat)} {k:Str×Nat} {p:Nat} (h:(ps.find? fun q=>decide (q.1=k)).map (·.2)=some p):(k,p)∈ps:=by
 obtain ⟨q,hq,rfl⟩:=QC.mp h;have e:q.1=k:=by have:=List.find?_some hq;exact Q8 this
 rw [←e];exact Mh hq
structure TI (t:Tr) (k:Nat):Prop where
 len:t.sorts.length=t.days.length
 he:t.here<t.days.length
 n:t.days.length≤k+1
 pf:t.par.length≤k
 tf:t.tak.length≤k
 uf:t.uni.length≤k
 pn:∀q∈t.par,q.1.2<t.days.length∧q.2<t.days.length∧(q.1.1="F"∨q.1.1="M")∧t.days.getD q.2 0=t.days.getD q.1.2 0-1∧(t.clash=false->t.sorts.getD q.2 ""=_K q.1.1)
 pnd:(t.par.map (·.1)).Nodup
 tk:∀p∈t.tak,p.1<t.days.length∧p.2<t.days.length∧t.days.getD p.2 0=t.days.getD p.1 0-1
 tnd:t.tak.Nodup
 un:∀p∈t.uni,p.1<p.2∧p.2<t.days.length
 und:t.uni.Nodup
 ss:∀s∈t.sorts,s=""∨s="he"∨s="she"
 bd:∀d∈t.days,-(k:Int)≤d∧d≤k
theorem TI.start:TI Uc 0:=⟨rfl,by decide,by decide,by decide,by decide,by decide,fun q hq=>(by cases hq),.nil,fun q hq=>(by cases hq),.nil,fun q hq=>(by cases hq),.nil,by trivial,by decide⟩
theorem TI.ok {t:Tr} {k:Nat} (h:TI t k) (l:k≤50):TrOk t:=⟨h.len,h.he,by have:=h.n;omega,by have:=h.pf;omega,by have:=h.tf;omega,by have:=h.uf;omega,fun q hq=>(h.pn q hq).1⟩
structure Sub (t u:Tr):Prop where
 par:∀q∈t.par,q∈u.par
 tak:∀q∈t.tak,q∈u.tak
 uni:∀q∈t.uni,q∈u.uni
 cl:u.clash=false->t.clash=false
 so:∀i,t.sorts.getD i ""≠""->u.sorts.getD i ""=t.sorts.getD i ""
theorem Sub.refl (t:Tr):Sub t t:=⟨fun _ h=>h,fun _ h=>h,fun _ h=>h,fun h=>h,fun _ _=>rfl⟩
theorem Sub.trans {t u v:Tr} (a:Sub t u) (b:Sub u v):Sub t v:=⟨fun q h=>b.par q (a.par q h),fun q h=>b.tak q (a.tak q h),fun q h=>b.uni q (a.uni q h),fun h=>a.cl (b.cl h),fun i h=>(b.so i (by rw [a.so i h];exact h)).trans (a.so i h)⟩
theorem _cE (l:Str):_K l≠"":=by unfold _K;split<;>trivial
theorem _h6 (l:Str):_K l=""∨_K l="he"∨_K l="she":=by unfold _K;split<;>simp
theorem _dW {l:List Str}:(l.set i s).getD j ""=if i=j∧i<l.length then s else l.getD j "":=by
 rw [QQ,List.getElem?_set,QQ];by_cases e:i=j
 ·subst e;by_cases h:i<l.length
  ·simp [h]
  ·simp [h]
 ·simp [e]
theorem _iS {α:Type} {l:List α} {x d:α} (h:i<l.length):(l++[x]).getD i d=l.getD i d:=by
 rw [QQ,RE h,QQ]
theorem _lS {α:Type} {l:List α} {x d:α}:(l++[x]).getD l.length d=x:=by
 rw [QQ,Rp (Qe _),GJ];rfl
theorem Vi {l:List Str}:(l++[("" : Str)]).getD i ""=l.getD i "":=by
 rw [QQ,QQ,List.getElem?_append];by_cases h:i<l.length
 ·rw [Qb h]
 ·rw [Qa h,show l[i]?=none from RN (by omega)];cases i-l.length<;>rfl
section
variable {t:Tr} {k:Nat}
theorem _fL (t:Tr) (i:Nat) (s:Str):∀j,t.sorts.getD j ""≠""->(t.ask i s).sorts.getD j ""=t.sorts.getD j "":=fun j h=>by
 unfold Tr.ask;split
 ·rename_i e;show (t.sorts.set i s).getD j ""=_;rw [_dW,Qa fun z:i=j∧i<t.sorts.length=>h (z.1▸e)]
 ·split<;>rfl
theorem Jr {t:Tr} (h:(t.ask i s).clash=false):t.clash=false∧(i<t.sorts.length->(t.ask i s).sorts.getD i ""=s):=by
 unfold Tr.ask at h ⊢;split at h
 ·rename_i e;refine ⟨h,fun l=>?_⟩;rw [Qb e];show (t.sorts.set i s).getD i ""=s;rw [_dW,Qb ⟨rfl,l⟩]
 ·rename_i e;split at h
  ·rename_i e2;refine ⟨h,fun l=>?_⟩;rw [Qa e,Qb e2];exact e2
  ·cases h
theorem TI.ask (h:TI t k) (i:Nat) (hs:s=""∨s="he"∨s="she"):TI (t.ask i s) k:=by
 obtain ⟨a,b,c,d,e,f⟩:=Yy t i s;have hn:∀q∈t.par,t.clash=false->t.sorts.getD q.2 ""≠"":=fun q hq hc=>by rw [(h.pn q hq).2.2.2.2 hc];exact _cE _
 refine ⟨by rw [f,a];exact h.len,by rw [e,a];exact h.he,by rw [a];exact h.n,by rw [b];exact h.pf,by rw [c];exact h.tf,by rw [d];exact h.uf,fun q hq=>?_,by rw [b];exact h.pnd,by rw [a,c];exact h.tk,by rw [c];exact h.tnd,by rw [a,d];exact h.un,by rw [d];exact h.und,fun x hx=>?_,by rw [a];exact h.bd⟩
 ·rw [b] at hq;rw [a];obtain ⟨p1,p2,p3,p4,p5⟩:=h.pn q hq;refine ⟨p1,p2,p3,p4,fun hc=>?_⟩;have hc':=(Jr hc).1;rw [_fL t i s q.2 (hn q hq hc')];exact p5 hc'
 ·unfold Tr.ask at hx;split at hx
  ·rcases List.mem_or_eq_of_mem_set hx with hx|hx
   ·exact h.ss x hx
   ·rw [hx];exact hs
  ·split at hx<;>exact h.ss x hx
theorem Sub.ask (t:Tr) (i:Nat) (s:Str):Sub t (t.ask i s):=by
 obtain ⟨a,b,c,d,e,f⟩:=Yy t i s;exact ⟨fun q h=>by rw [b];exact h,fun q h=>by rw [c];exact h,fun q h=>by rw [d];exact h,fun h=>(Jr h).1,_fL t i s⟩
theorem Sub.grow (t:Tr) (k:Int):Sub t (t.grow k):=⟨fun q h=>h,fun q h=>h,fun q h=>h,fun h=>h,fun i _=>Vi⟩
theorem TI.grow (h:TI t k) {g:Int} (hg:-1≤g∧g≤1):TI (t.grow g) (k+1):=by
 have gd:∀{i},i<t.days.length->(t.grow g).days.getD i 0=t.days.getD i 0:=fun hi=>_iS hi;have gl:=Y5 t g;refine ⟨by rw [gl];show (t.sorts++[("" : Str)]).length=_;rw [Qm,h.len];rfl,by rw [gl];exact Q9 _,by rw [gl];have:=h.n;omega,Nk h.pf,Nk h.tf,Nk h.uf,fun q hq=>?_,h.pnd,fun p hp=>?_,h.tnd,fun p hp=>?_,h.und,fun x hx=>?_,fun d hd=>?_⟩
 ·obtain ⟨p1,p2,p3,p4,p5⟩:=h.pn q hq;rw [gl,gd p1,gd p2];exact ⟨by omega,by omega,p3,p4,fun hc=>(show (t.sorts++[("" : Str)]).getD q.2 ""=_ from Vi.trans (p5 hc))⟩
 ·obtain ⟨p1,p2,p3⟩:=h.tk p hp;rw [gl,gd p1,gd p2];exact ⟨by omega,by omega,p3⟩
 ·obtain ⟨p1,p2⟩:=h.un p hp;rw [gl];exact ⟨p1,by omega⟩
 ·rcases Qh.mp hx with hx|hx
  ·exact h.ss x hx
  ·exact .inl (by simpa using hx)
 ·rcases Qh.mp hd with hd|hd
  ·have:=h.bd d hd;omega
  ·have hd:d=t.days.getD t.here 0+g:=by simpa using hd
   have:=h.bd (t.days.getD t.here 0) (by rw [QQ,Qt h.he];exact R6 h.he);omega
theorem _aK (t:Tr) (g:Int):(t.grow g).days.getD t.days.length 0=t.days.getD t.here 0+g:=_lS
theorem _ax {t:Tr} {g:Int} (h:i<t.days.length):(t.grow g).days.getD i 0=t.days.getD i 0:=_iS h
theorem TI.here' (h:TI t k) {p:Nat} (hp:p<t.days.length):TI { t with here:=p } k:=⟨h.len,hp,h.n,h.pf,h.tf,h.uf,h.pn,h.pnd,h.tk,h.tnd,h.un,h.und,h.ss,h.bd⟩
theorem TI.up (h:TI t k):TI t (k+1):=⟨h.len,h.he,by have:=h.n;omega,by have:=h.pf;omega,by have:=h.tf;omega,by have:=h.uf;omega,h.pn,h.pnd,h.tk,h.tnd,h.un,h.und,h.ss,fun d hd=>by have:=h.bd d hd;omega⟩
end
def RT (t:Tr) (s:Str) (i j:Nat):Prop :=
 if s="he"∨s="she" then i=j∧t.sorts.getD i ""=s
 else if s="F"∨s="M" then ((s,i),j)∈t.par
 else if s="f"∨s="m" then ((_x s,j),i)∈t.par
 else if s="T" then (i,j)∈t.tak
 else if s="t" then (j,i)∈t.tak
 else (i,j)∈t.uni∨(j,i)∈t.uni
theorem Xp {t:Tr} (h:s="he"∨s="she"):RT t s i j↔i=j∧t.sorts.getD i ""=s:=by unfold RT;rw [Qb h]
theorem Xc {t:Tr} (h:s="F"∨s="M"):RT t s i j↔((s,i),j)∈t.par:=by unfold RT;rw [Qa (by rcases h with rfl|rfl<;>trivial),Qb h]
theorem Ve {t:Tr} (h:s="f"∨s="m"):RT t s i j↔((_x s,j),i)∈t.par:=by unfold RT;rw [Qa (by rcases h with rfl|rfl<;>trivial),Qa (by rcases h with rfl|rfl<;>trivial),Qb h]
theorem Wo {t:Tr}:RT t "T" i j↔(i,j)∈t.tak:=by unfold RT;rw [Qa (by trivial),Qa (by trivial),Qa (by trivial),Qb rfl]
theorem Vh {t:Tr}:RT t "t" i j↔(j,i)∈t.tak:=by unfold RT;rw [Qa (by trivial),Qa (by trivial),Qa (by trivial),Qa (by trivial),Qb rfl]
theorem XZ {t:Tr}:RT t "S" i j↔(i,j)∈t.uni∨(j,i)∈t.uni:=by unfold RT;rw [Qa (by trivial),Qa (by trivial),Qa (by trivial),Qa (by trivial),Qa (by trivial)]
theorem Wc (h:s∈_o):(s="he"∨s="she")∨(s="F"∨s="M")∨(s="f"∨s="m")∨s="T"∨s="t"∨s="S":=by
 simp only [_o,Qj,QN,QO] at h;rcases h with h|h|h|h|h|h|h|h|h<;>simp [h]
theorem _pM (h:s="he"∨s="she"):s≠"":=by rcases h with rfl|rfl<;>trivial
theorem RT.mono {t u:Tr} (a:Sub t u) (hs:s∈_o) (h:RT t s i j):RT u s i j:=by
 rcases Wc hs with c|c|c|rfl|rfl|rfl
 ·rw [Xp c] at h ⊢;refine ⟨h.1,(a.so i ?_).trans h.2⟩;rw [h.2];exact _pM c
 ·rw [Xc c] at h ⊢;exact a.par _ h
 ·rw [Ve c] at h ⊢;exact a.par _ h
 ·rw [Wo] at h ⊢;exact a.tak _ h
 ·rw [Vh] at h ⊢;exact a.tak _ h
 ·rw [XZ] at h ⊢;exact h.imp (a.uni _) (a.uni _)
section
variable {t:Tr} {k:Nat}
theorem TI.addPar (h:TI t (k+1)) (pf:t.par.length≤k) {l:Str} {c p:Nat} (hc:c<t.days.length) (hp:p<t.days.length) (hl:l="F"∨l="M") (hd:t.days.getD p 0=t.days.getD c 0-1) (hs:t.clash=false->t.sorts.getD p ""=_K l) (hn:(l,c)∉t.par.map (·.1)):TI (t.addPar l c p) (k+1):=by
 refine ⟨h.len,h.he,h.n,by show (t.par++[_]).length≤_;rw [Qm];simp;omega,h.tf,h.uf,fun q hq=>?_,?_,h.tk,h.tnd,h.un,h.und,h.ss,h.bd⟩
 ·rcases Qh.mp hq with hq|hq
  ·exact h.pn q hq
  ·rw [Qr.mp hq];exact ⟨hc,hp,hl,hd,hs⟩
 ·show ((t.par++[((l,c),p)]).map (·.1)).Nodup;rw [Qo,QW];refine ⟨h.pnd,by simp,fun a ha b hb e=>hn ?_⟩;have hb:b=(l,c):=by simpa using hb
  rw [←hb,←e];exact ha
theorem Sub.addPar (t:Tr) (l:Str) (c p:Nat):Sub t (t.addPar l c p):=⟨fun q h=>QY _ h,fun q h=>h,fun q h=>h,fun h=>h,fun _ _=>rfl⟩
theorem WN (h:TI t k) {l:Str} {c p:Nat}:Ws t l c=some p↔((l,c),p)∈t.par:=by
 refine ⟨_gV,fun m=>?_⟩;unfold Ws
 have:∀{ps:List ((Str×Nat)×Nat)},(ps.map (·.1)).Nodup->((l,c),p)∈ps->(ps.find? fun q=>decide (q.1=(l,c))).map (·.2)=some p:=by
  intro ps
  induction ps with
  |nil=>intro _ m;cases m
  |cons q ps ih =>
   intro nd m;rw [Qw,QS] at nd;rcases Qj.mp m with rfl|m
   ·rw [List.find?_cons_of_pos (by simp)];rfl
   ·have ne:q.1≠(l,c):=fun z=>nd.1 (by rw [z];exact Qg.mpr ⟨_,m,rfl⟩);rw [List.find?_cons_of_neg (by simpa using ne)];exact ih nd.2 m
 exact this h.pnd m
theorem _qg {l:Str} {c:Nat} (h:Ws t l c=none):(l,c)∉t.par.map (·.1):=fun m=>by
 obtain ⟨q,hq,e⟩:=Qg.mp m;have:=N5.mp h;rw [NX] at this;exact this q hq (by simpa using e)
theorem _aG (h:TI t k) (hs:s∈_o):TI (t.go s) (k+1)∧Sub t (t.go s)∧((t.go s).clash=false->RT (t.go s) s t.here (t.go s).here):=by
 rcases Wc hs with c|c|c|rfl|rfl|rfl
 ·rw [Jq t c];refine ⟨(h.ask t.here (.inr c)).up,Sub.ask t t.here s,fun hc=>?_⟩;rw [Xp c,(Yy t t.here s).2.2.2.2.1];exact ⟨rfl,(Jr hc).2 (by rw [h.len];exact h.he)⟩
 ·rw [_ai t c];unfold Tr.goUp;cases hp:Ws t s t.here with
  |some p =>
   have m:=(WN h).mp hp;refine ⟨(h.here' (h.pn _ m).2.1).up,⟨fun q h=>h,fun q h=>h,fun q h=>h,fun h=>h,fun _ _=>rfl⟩,fun _=>?_⟩;rw [Xc c];exact m
  |none =>
   have hno:=_qg hp;have g:=h.grow (g:=-1) (by omega)
   have a0:(t.grow (-1)).sorts.getD t.days.length ""="":=by
    show (t.sorts++[("" : Str)]).getD t.days.length ""="";rw [Vi,QQ,RN (by rw [h.len];exact Qe _)];rfl
   have ex:((t.grow (-1)).addPar s t.here t.days.length).ask ((t.grow (-1)).addPar s t.here t.days.length).here (_K s)=((t.grow (-1)).ask t.days.length (_K s)).addPar s t.here t.days.length:=by
    unfold Tr.ask;rw [Qb (show ((t.grow (-1)).addPar s t.here t.days.length).sorts.getD ((t.grow (-1)).addPar s t.here t.days.length).here ""="" from a0),Qb a0];rfl
   show TI (((t.grow (-1)).addPar s t.here t.days.length).ask ((t.grow (-1)).addPar s t.here t.days.length).here (_K s)) (k+1)∧_;rw [ex];obtain ⟨a,b,c',d,e,f⟩:=Yy (t.grow (-1)) t.days.length (_K s);have g2:=g.ask t.days.length (_h6 s);refine ⟨g2.addPar (by rw [b];exact h.pf) (by rw [a,Y5];have:=h.he;omega) (by rw [a,Y5];omega) c (by rw [a,_aK,_ax h.he];omega) (fun hc=>(Jr hc).2 (by show t.days.length<(t.sorts++[("" : Str)]).length;rw [Qm,h.len];simp)) (by rw [b];exact hno),((Sub.grow t (-1)).trans (Sub.ask _ _ _)).trans (Sub.addPar ..),fun _=>?_⟩;rw [Xc c];refine QL _ ?_;show _∈[((s,t.here),t.days.length)];rw [show (((t.grow (-1)).ask t.days.length (_K s)).addPar s t.here t.days.length).here=t.days.length from e];simp
 ·rw [JR t c];have hu:_x s="F"∨_x s="M":=by rcases c with rfl|rfl<;>trivial
  obtain ⟨a,b,c',d,e,f⟩:=Yy t t.here (_K (_x s));have g:=(h.ask t.here (_h6 (_x s))).grow (g:=1) (by omega);have hl:((t.ask t.here (_K (_x s))).grow 1).days.length=t.days.length+1:=by rw [Y5,a]
  refine ⟨g.addPar (by show (t.ask t.here (_K (_x s))).par.length≤k;rw [b];exact h.pf) (by rw [hl];omega) (by rw [hl];have:=h.he;omega) hu ?_ (fun hc=>?_) (fun m=>?_),((Sub.ask _ _ _).trans (Sub.grow _ _)).trans (Sub.addPar ..),fun _=>?_⟩
  ·have e1:((t.ask t.here (_K (_x s))).grow 1).days.getD t.days.length 0=t.days.getD t.here 0+1:=by
    have:=_aK (t.ask t.here (_K (_x s))) 1;rw [a,e] at this;exact this
   rw [e1,_ax (by rw [a];exact h.he),a];omega
  ·show ((t.ask t.here (_K (_x s))).sorts++[("" : Str)]).getD t.here ""=_;rw [Vi];exact (Jr (show (t.ask t.here (_K (_x s))).clash=false from hc)).2 (by rw [h.len];exact h.he)
  ·obtain ⟨q,hq,eq⟩:=Qg.mp m
   have hq:q∈t.par:=by
    have:q∈(t.ask t.here (_K (_x s))).par:=hq;rw [b] at this;exact this
   have:=(h.pn q hq).1;rw [eq] at this;exact absurd this (QF _)
  ·rw [Ve c];refine QL _ ?_;rw [show (((t.ask t.here (_K (_x s))).grow 1).addPar (_x s) t.days.length t.here).here=t.days.length from (show (t.ask t.here (_K (_x s))).days.length=_ by rw [a])];simp
 ·rw [_bC];have g:=h.grow (g:=-1) (by omega);refine ⟨⟨g.len,g.he,g.n,g.pf,?_,g.uf,g.pn,g.pnd,fun p hp=>?_,?_,g.un,g.und,g.ss,g.bd⟩,⟨fun q h=>h,fun q h=>QY _ h,fun q h=>h,fun h=>h,fun i _=>Vi⟩,fun _=>?_⟩
  ·show (t.tak++[_]).length≤_;rw [Qm];have:=h.tf;simp;omega
  ·rcases Qh.mp hp with hp|hp
   ·exact g.tk p hp
   ·rw [Qr.mp hp];show t.here<(t.grow (-1)).days.length∧t.days.length<(t.grow (-1)).days.length∧(t.grow (-1)).days.getD t.days.length 0=(t.grow (-1)).days.getD t.here 0-1;rw [Y5,_aK,_ax h.he];have:=h.he;omega
  ·show (t.tak++[_]).Nodup;rw [QW];refine ⟨h.tnd,by simp,fun x hx y hy e=>?_⟩;rw [Qr.mp hy] at e;have:=(h.tk x hx).2.1;rw [e] at this;exact QF _ this
  ·rw [Wo];exact QL _ (by simp [Tr.grow])
 ·rw [_ba];have g:=h.grow (g:=1) (by omega);refine ⟨⟨g.len,g.he,g.n,g.pf,?_,g.uf,g.pn,g.pnd,fun p hp=>?_,?_,g.un,g.und,g.ss,g.bd⟩,⟨fun q h=>h,fun q h=>QY _ h,fun q h=>h,fun h=>h,fun i _=>Vi⟩,fun _=>?_⟩
  ·show (t.tak++[_]).length≤_;rw [Qm];have:=h.tf;simp;omega
  ·rcases Qh.mp hp with hp|hp
   ·exact g.tk p hp
   ·rw [Qr.mp hp];show t.days.length<(t.grow 1).days.length∧t.here<(t.grow 1).days.length∧(t.grow 1).days.getD t.here 0=(t.grow 1).days.getD t.days.length 0-1;rw [Y5,_aK,_ax h.he];have:=h.he;omega
  ·show (t.tak++[_]).Nodup;rw [QW];refine ⟨h.tnd,by simp,fun x hx y hy e=>?_⟩;rw [Qr.mp hy] at e;have:=(h.tk x hx).1;rw [e] at this;exact QF _ this
  ·rw [Vh];exact QL _ (by simp [Tr.grow])
 ·rw [_ap];have g:=h.grow (g:=0) (by omega);refine ⟨⟨g.len,g.he,g.n,g.pf,g.tf,?_,g.pn,g.pnd,g.tk,g.tnd,fun p hp=>?_,?_,g.ss,g.bd⟩,⟨fun q h=>h,fun q h=>h,fun q h=>QY _ h,fun h=>h,fun i _=>Vi⟩,fun _=>?_⟩
  ·show (t.uni++[_]).length≤_;rw [Qm];have:=h.uf;simp;omega
  ·rcases Qh.mp hp with hp|hp
   ·exact g.un p hp
   ·rw [Qr.mp hp];show t.here<t.days.length∧t.days.length<(t.grow 0).days.length;rw [Y5];have:=h.he;omega
  ·show (t.uni++[_]).Nodup;rw [QW];refine ⟨h.und,by simp,fun x hx y hy e=>?_⟩;rw [Qr.mp hy] at e;have:=(h.un x hx).2;rw [e] at this;exact QF _ this
  ·rw [XZ];exact .inl (QL _ (by simp [Tr.grow]))
end
def WT (R:Str->Nat->Nat->Prop):List Str->Nat->Nat->Prop
 |[],i,j=>i=j
 |s::w,i,j=>∃m,R s i m∧WT R w m j
theorem _aH:∀{w:List Str} {t:Tr} {k:Nat},TI t k->(∀s∈w,s∈_o)->TI (w.foldl Tr.go t) (k+w.length)∧Sub t (w.foldl Tr.go t)∧((w.foldl Tr.go t).clash=false->WT (RT (w.foldl Tr.go t)) w t.here (w.foldl Tr.go t).here)
 |[],t,k,h,_=>⟨h,Sub.refl t,fun _=>rfl⟩
 |s::w,t,k,h,h9=>by
  obtain ⟨h1,h2,h3⟩:=_aG h (h9 s (by simp));obtain ⟨g1,g2,g3⟩:=_aH (w:=w) h1 fun x hx=>h9 x (QD _ hx);refine ⟨by rw [QJ,show k+(w.length+1)=k+1+w.length by omega];exact g1,h2.trans g2,fun hc=>⟨_,RT.mono g2 (h9 s (by simp)) (h3 (g2.cl hc)),g3 hc⟩⟩
theorem YS (h:_e i=_e j):i=j:=by
 have:=QB (fun z:Str=>z.cps.toList) h;simp [_e] at this;exact this
theorem _bP:∀i,i<26->1≤(_e i).length∧(_e i).length≤8∧(_e i).cps.toList.all W0=true:=by trivial
theorem UH (h:i<26):Nm (_e i):=⟨(_bP i h).1,(_bP i h).2.1,(_bP i h).2.2⟩
theorem _cj (i:Nat):_e i≠"":=fun h=>by
 have:=QB (fun z:Str=>z.cps.toList.length) h;exact absurd this (by simp [_e];trivial)
noncomputable def Ul (D:Int) (p:Nat×Nat):Ent:=.taken (_e p.1) (_e p.2) D
noncomputable def WD (D:Int) (p:Nat×Nat):Ent:=.union (_e p.1) (_e p.2) D
noncomputable def YK (t:Tr) (ord:List Nat):List Ent:=ord.map (XJ t)
noncomputable def WW (t:Tr) (D:Int):List Ent:=t.tak.map (Ul D)++t.uni.map (WD D)
structure OrdOk (t:Tr) (ord:List Nat):Prop where
 pm:ord.Perm (List.range t.days.length)
 up:ord.Pairwise fun a b=>t.days.getD a 0≤t.days.getD b 0
noncomputable def _0 (t:Tr):List Str:=(List.range t.days.length).map _e
section
variable {t:Tr} {k:Nat}
theorem OrdOk.nd (o:OrdOk t ord):ord.Nodup:=o.pm.nodup_iff.mpr List.nodup_range
theorem OrdOk.lt (o:OrdOk t ord):i∈ord↔i<t.days.length:=by rw [o.pm.mem_iff,R9]
theorem _ey (h:i<t.days.length):_e i∈_0 t:=Qg.mpr ⟨i,R9.mpr h,rfl⟩
theorem Jo (h:TI t k) {l:Str}:Yd t l i=""∨∃p,((l,i),p)∈t.par∧Yd t l i=_e p:=by
 unfold Yd;cases hp:Ws t l i with
 |none=>exact .inl rfl
 |some p=>exact .inr ⟨p,(WN h).mp hp,rfl⟩
theorem _bj (h:TI t k) {l:Str} {p:Nat} (m:((l,i),p)∈t.par):Yd t l i=_e p:=by
 unfold Yd;rw [(WN h).mpr m]
theorem _iG (h:TI t k) (k24:k≤24) (hi:i<t.days.length):-10 ^ 18≤t.days.getD i 0∧t.days.getD i 0≤10 ^ 18:=by
 have:=h.bd (t.days.getD i 0) (by rw [QQ,Qt hi];exact R6 hi);omega
theorem _lb (h:TI t k) (hi:i<t.days.length):t.sorts.getD i ""="he"∨t.sorts.getD i ""="she"∨t.sorts.getD i ""="":=by
 have hi':i<t.sorts.length:=by rw [h.len];exact hi
 have:=h.ss (t.sorts.getD i "") (by rw [QQ,Qt hi'];exact R6 hi');rcases this with e|e|e
 ·exact .inr (.inr e)
 ·exact .inl e
 ·exact .inr (.inl e)
theorem _dr (h:TI t k) (k24:k≤24) (hc:t.clash=false) (o:OrdOk t ord):∀j,j≤ord.length->GdL (_0 t) (YK t (ord.take j))
 |0,_=>by rw [List.take_zero];exact .nil
 |j+1,hj=>by
  have ih:=_dr h k24 hc o j (by omega);have hx:ord[j]?=some ord[j]:=Qt (by omega);generalize ord[j]=x at hx;rw [R7,hx];have xl:x<t.days.length:=o.lt.mp (QE hx);have n26:=h.n
  have ahead':∀{l:Str} {p:Nat},((l,x),p)∈t.par->p∈ord.take j∧p<t.days.length∧t.days.getD p 0<t.days.getD x 0∧t.sorts.getD p ""=_K l:=fun {l p} m=>by
   obtain ⟨_,p2,_,p4,p5⟩:=h.pn _ m;have p4:t.days.getD p 0=t.days.getD x 0-1:=p4;refine ⟨?_,p2,by omega,p5 hc⟩;have pm:p∈ord:=o.lt.mpr p2;obtain ⟨i,hi⟩:=List.getElem?_of_mem pm;have il:=(Qz.mp hi).1;by_cases c:i<j
   ·exact QE (by rw [NA c];exact hi)
   ·exfalso;by_cases e:i=j
    ·subst e;rw [hx] at hi;cases hi;omega
    ·have:=List.pairwise_iff_getElem.mp o.up j i (by omega) il (by omega);have e1:ord[j]=x:=by have:=Qt (l:=ord) (i:=j) (by omega);rw [hx] at this;exact (Qn this).symm
     have e2:ord[i]=p:=by have:=Qt (l:=ord) (i:=i) il;rw [hi] at this;exact (Qn this).symm
     rw [e1,e2] at this;omega
  have nmd:∀y∈(XJ t x).named,∃l p,((l,x),p)∈t.par∧y=_e p:=fun y hy=>by
   obtain ⟨h1,h2⟩:=RC.mp hy;have h2:y≠"":=Q8 h2;have h1:y=Yd t "F" x∨y=Yd t "M" x:=by simpa using h1
   rcases h1 with e|e
   ·rcases Jo h (l:="F") (i:=x) with z|⟨p,m,z⟩
    ·exact absurd (e.trans z) h2
    ·exact ⟨_,p,m,e.trans z⟩
   ·rcases Jo h (l:="M") (i:=x) with z|⟨p,m,z⟩
    ·exact absurd (e.trans z) h2
    ·exact ⟨_,p,m,e.trans z⟩
  have pnm:∀l,Yd t l x=""∨Nm (Yd t l x):=fun l=>by
   rcases Jo h (l:=l) (i:=x) with z|⟨p,m,z⟩
   ·exact .inl z
   ·rw [z];exact .inr (UH (by have:=(h.pn _ m).2.1;omega))
  have bd:=_iG h k24 xl
  have d5:D5 (_0 t) (XJ t x):=⟨_nR (UH (by omega)) (_lb h xl) bd.1 bd.2 (pnm _) (pnm _),fun y hy=>by
   obtain ⟨l,p,m,rfl⟩:=nmd y hy;exact _ey (h.pn _ m).2.1,fun y hy=>by cases hy;exact _ey xl⟩
  have par:∀(l:Str),Yd t l x=""∨∃d' f' m',Ent.born (Yd t l x) (_K l) d' f' m'∈(YK t (ord.take j)).map Ent.told∧d'<t.days.getD x 0:=fun l=>by
   rcases Jo h (l:=l) (i:=x) with z|⟨p,m,z⟩
   ·exact .inl z
   ·obtain ⟨m1,_,m3,m4⟩:=ahead' m;refine .inr ⟨t.days.getD p 0,Yd t "F" p,Yd t "M" p,_ak.mpr (Qg.mpr ⟨p,m1,?_⟩),m3⟩;rw [z,←m4];rfl
  show GdL (_0 t) (YK t (ord.take j++[x]));unfold YK;rw [Qo];refine .snoc ih d5 d5 ⟨fun y hy=>?_,fun y hy=>?_,fun n' s' d' f' m' z=>?_,fun c t' d' z=>(by cases z),rfl⟩
  ·obtain ⟨l,p,m,rfl⟩:=nmd y hy;obtain ⟨m1,_,m3,_⟩:=ahead' m;exact ⟨_,_,_,_,_ak.mpr (Qg.mpr ⟨p,m1,rfl⟩),Int.le_of_lt m3⟩
  ·obtain ⟨y',hy',rfl⟩:=Qg.mp hy;obtain ⟨i,hi,rfl⟩:=Qg.mp hy';intro z
   have z':_e i=_e x:=by
    have:([.inr "born",.inr (_e i)]:List _l)=[.inr "born",.inr (_e x)]:=z;simpa using this
   obtain rfl:=YS z';have nd:=o.nd;obtain ⟨a,ha⟩:=List.getElem?_of_mem hi;have al:=(Qz.mp ha).1;rw [Rk] at al;rw [NA (by omega)] at ha;have:=(List.getElem?_inj (by omega) nd).mp (ha.trans hx.symm);omega
  ·cases z;exact ⟨par "F",par "M"⟩
theorem _bz (o:OrdOk t ord):Ent.born n s d f m∈YK t ord↔∃i,i<t.days.length∧XJ t i=.born n s d f m:=by
 constructor
 ·intro h;obtain ⟨i,hi,e⟩:=Qg.mp h;exact ⟨i,o.lt.mp hi,e⟩
 ·rintro ⟨i,hi,e⟩;exact Qg.mpr ⟨i,o.lt.mpr hi,e⟩
theorem _iT {a b c d:Nat} (ab:a<b) (cd:c<d) (h:_g (_e a) (_e b)=_g (_e c) (_e d)):a=c∧b=d:=by
 unfold _g at h;split at h<;>split at h<;>(injection h with h1 h2)<;>have h1:=YS h1<;>have h2:=YS h2<;>omega
theorem _oN (h:TI t k) (k24:k≤24) (hc:t.clash=false) (o:OrdOk t ord) {D:Int} (hD:∀d∈t.days,d≤D) (D2:D≤10 ^ 18):GdL (_0 t) (YK t ord++WW t D):=by
 have g:=_dr h k24 hc o ord.length (Qe _);rw [Q7] at g;have n26:=h.n;have dle:∀{i},i<t.days.length->t.days.getD i 0≤D:=fun {i} hi=>hD _ (by rw [QQ,Qt hi];exact R6 hi);have D1:-10 ^ 18≤D:=Int.le_trans (_iG h k24 h.he).1 (dle h.he);have kn:∀{i},i<t.days.length->∃s d f m,Ent.born (_e i) s d f m∈YK t ord∧d≤D:=fun {i} hi=>⟨_,_,_,_,(_bz o).mpr ⟨i,hi,rfl⟩,dle hi⟩;refine GdL.more g (fun n s d f m=>Q0) (fun e he=>?_) ?_
 ·rcases Qh.mp he with he|he
  ·obtain ⟨p,hp,rfl⟩:=Qg.mp he;obtain ⟨p1,p2,p3⟩:=h.tk p hp;have tw:=_i1 (UH (show p.1<26 by omega)) (UH (show p.2<26 by omega)) D1 D2;refine ⟨rfl,tw.1,tw.1,fun n hn=>?_,fun c t' d z sc dc fc mc st dt ft mt h1 h2=>?_,?_⟩
   ·have:n=_e p.1∨n=_e p.2:=by simpa [Ul,Ent.named] using hn
    rcases this with rfl|rfl
    ·exact kn p1
    ·exact kn p2
   ·cases z;obtain ⟨i,_,e1⟩:=(_bz o).mp h1;obtain ⟨j,_,e2⟩:=(_bz o).mp h2;have a1:_e i=_e p.1:=by injection e1
    have a2:_e j=_e p.2:=by injection e2
    have b1:t.days.getD i 0=dc:=by injection e1
    have b2:t.days.getD j 0=dt:=by injection e2
    rw [YS a1] at b1;rw [YS a2] at b2;omega
   ·show decide (_e p.1=_e p.2)=false;refine Qs fun z=>?_;rw [YS z] at p3;omega
  ·obtain ⟨p,hp,rfl⟩:=Qg.mp he;obtain ⟨p1,p2⟩:=h.un p hp;have tw:=_i1 (UH (show p.1<26 by omega)) (UH (show p.2<26 by omega)) D1 D2;refine ⟨rfl,tw.2.1,tw.2.2.1,fun n hn=>?_,fun c t' d z=>(by cases z),?_⟩
   ·have:n=_e p.1∨n=_e p.2:=by simpa [WD,Ent.named] using hn
    rcases this with rfl|rfl
    ·exact kn (by omega)
    ·exact kn p2
   ·show decide (_e p.1=_e p.2)=false;refine Qs fun z=>?_;have:=YS z;omega
 ·rw [Qo,QW];refine ⟨g.keys,?_,fun a ha b hb e=>?_⟩
  ·unfold WW;rw [Qo,QW];refine ⟨?_,?_,fun a ha b hb e=>?_⟩
   ·rw [QP];refine Gj.mpr (h.tnd.imp fun {a b} ne z=>ne ?_);have z:([.inr "taken",.inr (_e a.1),.inr (_e a.2)]:List _l)=[.inr "taken",.inr (_e b.1),.inr (_e b.2)]:=z;have z1:_e a.1=_e b.1∧_e a.2=_e b.2:=by simpa using z
    exact Rh (YS z1.1) (YS z1.2)
   ·rw [QP];refine Gj.mpr (h.und.imp_of_mem fun {a b} ha hb ne z=>ne ?_);have z:([.inr "tie",.inr (_g (_e a.1) (_e a.2)).1,.inr (_g (_e a.1) (_e a.2)).2,.inl D]:List _l)=[.inr "tie",.inr (_g (_e b.1) (_e b.2)).1,.inr (_g (_e b.1) (_e b.2)).2,.inl D]:=z;have z1:(_g (_e a.1) (_e a.2)).1=(_g (_e b.1) (_e b.2)).1∧(_g (_e a.1) (_e a.2)).2=(_g (_e b.1) (_e b.2)).2:=by simpa using z
    have:=_iT (h.un a ha).1 (h.un b hb).1 (Rh z1.1 z1.2);exact Rh this.1 this.2
   ·obtain ⟨x,hx,rfl⟩:=Qg.mp ha;obtain ⟨y,hy,rfl⟩:=Qg.mp hb;obtain ⟨p,_,rfl⟩:=Qg.mp hx;obtain ⟨q,_,rfl⟩:=Qg.mp hy;have:=(RO e).1;exact absurd (R8 this) (by trivial)
  ·obtain ⟨x,hx,rfl⟩:=Qg.mp ha;obtain ⟨y,hy,rfl⟩:=Qg.mp hb;obtain ⟨i,_,rfl⟩:=Qg.mp hx;rcases Qh.mp hy with hy|hy
   ·obtain ⟨q,_,rfl⟩:=Qg.mp hy;have:=(RO e).1;exact absurd (R8 this) (by trivial)
   ·obtain ⟨q,_,rfl⟩:=Qg.mp hy;have:=(RO e).1;exact absurd (R8 this) (by trivial)
end
noncomputable def JQ (t:Tr) (D:Int):JP:=t.uni.map fun p=>(_g (_e p.1) (_e p.2),0,D,"union")
noncomputable def _8 (t:Tr) (ord:List Nat) (D:Int):List Ent:=YK t ord++WW t D
noncomputable def FT (t:Tr) (ord:List Nat) (D:Int):_N:=(JQ t D).foldl VL (Va (_8 t ord D))
theorem _iv:∀{l:List Ent} {g:Str×Str->Option (Int×Str)},(∀e∈l,e.tie=false)->l.foldl Xn g=g
 |[],g,_=>rfl
 |e::l,g,h=>by
  rw [Rb,_iv fun x hx=>h x (QD _ hx)]
  funext c
  unfold Xn;rw [Qa (fun z=>by rw [h e (by simp)] at z;cases z.1)]
theorem _fH {D:Int}:∀(us:List (Nat×Nat)) (g:Str×Str->Option (Int×Str)),(∀c,g c=none∨g c=some (D,("union" : Str)))->∀c,(us.map (WD D)).foldl Xn g c=if g c=none then (_E c (us.map fun p=>(_g (_e p.1) (_e p.2),(0:Addr),D,("union" : Str)))).map (·.2) else g c
 |[],g,hg,c=>by
  rcases hg c with h|h
  ·rw [Qb h];exact h
  ·rw [Qa (by rw [h];simp)];rfl
 |p::us,g,hg,c=>by
  have st:∀c,Xn g (WD D p) c=if c=_g (_e p.1) (_e p.2) then some (D,("union" : Str)) else g c:=fun c=>by
   unfold Xn;by_cases e:c=_g (_e p.1) (_e p.2)
   ·rw [Qb ⟨rfl,e⟩,Qb e];rcases hg c with h|h
    ·rw [h];rfl
    ·rw [h];show (if D<D then _ else _)=_;rw [Qa (Int.lt_irrefl _)]
   ·rw [Qa (fun z=>e z.2),Qa e]
  have hg':∀c,Xn g (WD D p) c=none∨Xn g (WD D p) c=some (D,("union" : Str)):=fun c=>by
   rw [st c];by_cases e:c=_g (_e p.1) (_e p.2)
   ·rw [Qb e];exact .inr rfl
   ·rw [Qa e];exact hg c
  rw [Qw,Rb,_fH us _ hg' c,st c,Qw];unfold _E;by_cases e:c=_g (_e p.1) (_e p.2)
  ·rw [Qb e,Qa (by simp),Qb e.symm];rcases hg c with h|h
   ·rw [Qb h];rfl
   ·rw [Qa (by rw [h];simp),h]
  ·rw [Qa e,Qa (show ¬(_g (_e p.1) (_e p.2),(0:Addr),D,("union" : Str)).1=c from fun z=>e z.symm)];cases us<;>rfl
theorem _qn (t:Tr) (ord:List Nat) (D:Int) (c:Str×Str):(_E c (JQ t D)).map (·.2)=WB (_8 t ord D) c:=by
 unfold WB _8 WW
 rw [←Gd,N1,_iv (l:=YK t ord++t.tak.map (Ul D)) (fun e he=>by
  rcases Qh.mp he with h|h
  ·obtain ⟨i,_,rfl⟩:=Qg.mp h;rfl
  ·obtain ⟨i,_,rfl⟩:=Qg.mp h;rfl),show (t.uni.map (WD D)).foldl Xn (fun _=>none) c=_ from _fH _ _ (fun _=>.inl rfl) c,Qb rfl]
 rfl
section
variable {t:Tr} {k:Nat} {D:Int}
theorem _lh (h:TI t k):((JQ t D).map (·.1)).Nodup:=by
 unfold JQ;rw [QP];refine Gj.mpr (h.und.imp_of_mem fun {a b} ha hb ne z=>ne ?_);have:=_iT (h.un a ha).1 (h.un b hb).1 z;exact Rh this.1 this.2
theorem Vp (o:OrdOk t ord):Ent.born n s d f m∈_8 t ord D↔∃i,i<t.days.length∧XJ t i=.born n s d f m:=by
 rw [←_bz o];unfold _8;rw [Qh];refine ⟨fun h=>h.elim id fun h=>?_,.inl⟩;rcases Qh.mp h with h|h
 ·obtain ⟨p,_,e⟩:=Qg.mp h;cases e
 ·obtain ⟨p,_,e⟩:=Qg.mp h;cases e
theorem _as {c x:Str}:Ent.taken c x d∈_8 t ord D↔∃p∈t.tak,c=_e p.1∧x=_e p.2∧d=D:=by
 unfold _8 WW;rw [Qh,Qh];constructor
 ·rintro (h|h|h)
  ·obtain ⟨p,_,e⟩:=Qg.mp h;cases e
  ·obtain ⟨p,hp,e⟩:=Qg.mp h;cases e;exact ⟨p,hp,rfl,rfl,rfl⟩
  ·obtain ⟨p,_,e⟩:=Qg.mp h;cases e
 ·rintro ⟨p,hp,rfl,rfl,rfl⟩;exact .inr (.inl (Qg.mpr ⟨p,hp,rfl⟩))
theorem _fQ (h:TI t k) {l:Str} {x:Str} (ne:x≠""):Yd t l i=x↔∃p,((l,i),p)∈t.par∧x=_e p:=by
 constructor
 ·intro e;rcases Jo h (l:=l) (i:=i) with z|⟨p,m,z⟩
  ·exact absurd (e.symm.trans z) ne
  ·exact ⟨p,m,e.symm.trans z⟩
 ·rintro ⟨p,m,rfl⟩;exact _bj h m
theorem _l5 (h:TI t k) (o:OrdOk t ord) (so:_dT (_8 t ord D)) (hs:s∈_o) (hi:i<t.days.length) (x:Str):x∈FT t ord D (s,_e i)↔∃j,j<t.days.length∧x=_e j∧RT t s i j:=by
 have ne:=fun {l:Str} (hl:l∈XD)=>_hB so hl
 have six:∀{l:Str} {ad:Str->Ent->List Str},¬l="S"->(∀e∈_8 t ord D,∀f:_N,YB f e (l,_e i)=f (l,_e i)++ad (_e i) e)->(x∈FT t ord D (l,_e i)↔∃e∈_8 t ord D,x∈ad (_e i) e):=fun {l ad} nS st=>by
  unfold FT;rw [Jj nS,_a6 st,List.mem_flatMap]
 have up:∀{l:Str} (hl:l="F"∨l="M") {ad:Str->Ent->List Str},(∀n' s d f m,ad (_e i) (.born n' s d f m)=if n'=_e i∧(if l="F" then f else m)≠"" then [if l="F" then f else m] else [])->(∀e,e.isBorn=false->ad (_e i) e=[])->((∃e∈_8 t ord D,x∈ad (_e i) e)↔∃j,j<t.days.length∧x=_e j∧RT t l i j):=fun {l} hl {ad} a1 a2=>by
  constructor
  ·rintro ⟨e,he,hx⟩;cases hb:e.isBorn with
   |false=>rw [a2 e hb] at hx;cases hx
   |true =>
    cases e with
    |born n' s' d' f' m' =>
     rw [a1] at hx;by_cases c:n'=_e i∧(if l="F" then f' else m')≠""
     ·rw [Qb c] at hx;obtain ⟨i',hi',e⟩:=(Vp o).mp he;have hx:x=if l="F" then f' else m':=Qr.mp hx;have en:_e i'=n':=by injection e
      have ef:Yd t "F" i'=f':=by injection e
      have em:Yd t "M" i'=m':=by injection e
      obtain rfl:=YS (en.trans c.1)
      have hx2:Yd t l i'=x:=by
       rw [hx];rcases hl with rfl|rfl
       ·rw [Qb rfl];exact ef
       ·rw [Qa (by trivial)];exact em
      obtain ⟨p,m,rfl⟩:=(_fQ h (by rw [hx];exact c.2)).mp hx2;exact ⟨p,(h.pn _ m).2.1,rfl,(Xc hl).mpr m⟩
     ·rw [Qa c] at hx;cases hx
    |_=>cases hb
  ·rintro ⟨j,hj,rfl,r⟩;have m:=(Xc hl).mp r;refine ⟨XJ t i,(Vp o).mpr ⟨i,hi,rfl⟩,?_⟩
   have e:(if l="F" then Yd t "F" i else Yd t "M" i)=_e j:=by
    rcases hl with rfl|rfl
    ·rw [Qb rfl];exact _bj h m
    ·rw [Qa (by trivial)];exact _bj h m
   show _e j∈ad (_e i) (.born (_e i) _ _ _ _);rw [a1,e,Qb ⟨rfl,_cj j⟩];simp
 have dn:∀{l:Str} (hl:l="f"∨l="m") {ad:Str->Ent->List Str},(∀n' s d f m,ad (_e i) (.born n' s d f m)=if (if l="f" then f else m)=_e i∧(if l="f" then f else m)≠"" then [n'] else [])->(∀e,e.isBorn=false->ad (_e i) e=[])->((∃e∈_8 t ord D,x∈ad (_e i) e)↔∃j,j<t.days.length∧x=_e j∧RT t l i j):=fun {l} hl {ad} a1 a2=>by
  have pe:∀i',(if l="f" then Yd t "F" i' else Yd t "M" i')=Yd t (_x l) i':=fun i'=>by
   rcases hl with rfl|rfl
   ·rw [Qb rfl];rfl
   ·rw [Qa (by trivial)];rfl
  constructor
  ·rintro ⟨e,he,hx⟩;cases hb:e.isBorn with
   |false=>rw [a2 e hb] at hx;cases hx
   |true =>
    cases e with
    |born n' s' d' f' m' =>
     rw [a1] at hx;by_cases c:(if l="f" then f' else m')=_e i∧(if l="f" then f' else m')≠""
     ·rw [Qb c] at hx;obtain ⟨i',hi',e⟩:=(Vp o).mp he;have hx:x=n':=Qr.mp hx;have en:_e i'=n':=by injection e
      have ef:Yd t "F" i'=f':=by injection e
      have em:Yd t "M" i'=m':=by injection e
      rw [←ef,←em,pe] at c;obtain ⟨p,m,e2⟩:=(_fQ h (_cj i)).mp c.1;obtain rfl:=YS e2;exact ⟨i',hi',hx.trans en.symm,(Ve hl).mpr m⟩
     ·rw [Qa c] at hx;cases hx
    |_=>cases hb
  ·rintro ⟨j,hj,rfl,r⟩;have m:=(Ve hl).mp r;refine ⟨XJ t j,(Vp o).mpr ⟨j,hj,rfl⟩,?_⟩;show _e j∈ad (_e i) (.born (_e j) _ _ _ _);rw [a1,pe,_bj h m,Qb ⟨rfl,_cj i⟩];simp
 have nb:∀{P:Ent->Prop},(∀c x d,P (.taken c x d))->(∀a b d,P (.union a b d))->∀e,e.isBorn=false->P e:=fun h1 h2 e he=>by
  cases e with
  |born=>cases he
  |taken=>exact h1 ..
  |union=>exact h2 ..
 have zero:∀e:Ent,e.isBorn=false->W8 (_e i) e=[]∧Vb (_e i) e=[]∧WZ (_e i) e=[]∧Vd (_e i) e=[]:=fun e he=>by
  cases e with
  |born=>cases he
  |_=>exact ⟨rfl,rfl,rfl,rfl⟩
 simp only [_o,Qj,QN,QO] at hs;rcases hs with rfl|rfl|rfl|rfl|rfl|rfl|rfl|hh|hh
 ·rw [six (ad:=W8) (by trivial) fun e he f=>_f7 f e _ (ne (by trivial) e he)];exact up (.inl rfl) (fun _ _ _ _ _=>rfl) fun e he=>(zero e he).1
 ·rw [six (ad:=Vb) (by trivial) fun e he f=>_gk f e _ (ne (by trivial) e he)];exact up (.inr rfl) (fun _ _ _ _ _=>rfl) fun e he=>(zero e he).2.1
 ·rw [six (ad:=addT) (by trivial) fun e he f=>_hR f e _ (ne (by trivial) e he)];constructor
  ·rintro ⟨e,he,hx⟩;cases e with
   |taken c y d =>
    obtain ⟨p,hp,rfl,rfl,_⟩:=_as.mp he;have hx2:x∈if _e p.1=_e i then [_e p.2] else []:=hx;by_cases e1:_e p.1=_e i
    ·rw [Qb e1] at hx2;obtain rfl:=YS e1;exact ⟨p.2,(h.tk p hp).2.1,Qr.mp hx2,Wo.mpr hp⟩
    ·rw [Qa e1] at hx2;cases hx2
   |_=>cases hx
  ·rintro ⟨j,hj,rfl,r⟩;refine ⟨.taken (_e i) (_e j) D,_as.mpr ⟨(i,j),Wo.mp r,rfl,rfl,rfl⟩,?_⟩;show _e j∈if _e i=_e i then [_e j] else [];rw [Qb rfl];simp
 ·rw [six (ad:=WZ) (by trivial) fun e he f=>_iO f e _ (ne (by trivial) e he)];exact dn (.inl rfl) (fun _ _ _ _ _=>rfl) fun e he=>(zero e he).2.2.1
 ·rw [six (ad:=Vd) (by trivial) fun e he f=>_gf f e _ (ne (by trivial) e he)];exact dn (.inr rfl) (fun _ _ _ _ _=>rfl) fun e he=>(zero e he).2.2.2
 ·rw [six (ad:=VA) (by trivial) fun e he f=>_il f e _ (ne (by trivial) e he)];constructor
  ·rintro ⟨e,he,hx⟩;cases e with
   |taken c y d =>
    obtain ⟨p,hp,rfl,rfl,_⟩:=_as.mp he;have hx2:x∈if _e p.2=_e i then [_e p.1] else []:=hx;by_cases e1:_e p.2=_e i
    ·rw [Qb e1] at hx2;obtain rfl:=YS e1;exact ⟨p.1,(h.tk p hp).1,Qr.mp hx2,Vh.mpr hp⟩
    ·rw [Qa e1] at hx2;cases hx2
   |_=>cases hx
  ·rintro ⟨j,hj,rfl,r⟩;refine ⟨.taken (_e j) (_e i) D,_as.mpr ⟨(j,i),Vh.mp r,rfl,rfl,rfl⟩,?_⟩;show _e j∈if _e i=_e i then [_e j] else [];rw [Qb rfl];simp
 ·have eS:Va (_8 t ord D) ("S",_e i)=[]:=by
   rw [_a6 (ad:=fun _=>[]) fun e he f=>_i4 f e _ (ne (by trivial) e he)];simp
  unfold FT;rw [_cR,eS];constructor
  ·rintro (z|⟨q,hq,_,hx⟩)
   ·cases z
   ·obtain ⟨p,hp,rfl⟩:=Qg.mp hq;obtain ⟨p1,p2⟩:=h.un p hp;have hx:_g (_e p.1) (_e p.2)=(_e i,x)∨_g (_e p.1) (_e p.2)=(x,_e i):=hx
    have hx:(_e p.1=_e i∧_e p.2=x)∨(_e p.2=_e i∧_e p.1=x):=by
     unfold _g at hx;split at hx
     ·rcases hx with z|z
      ·injection z with a b;exact .inr ⟨a,b⟩
      ·injection z with a b;exact .inl ⟨b,a⟩
     ·rcases hx with z|z
      ·injection z with a b;exact .inl ⟨a,b⟩
      ·injection z with a b;exact .inr ⟨b,a⟩
    rcases hx with ⟨a,b⟩|⟨a,b⟩
    ·obtain rfl:=YS a;exact ⟨p.2,p2,b.symm,XZ.mpr (.inl hp)⟩
    ·obtain rfl:=YS a;exact ⟨p.1,by omega,b.symm,XZ.mpr (.inr hp)⟩
  ·rintro ⟨j,hj,rfl,r⟩;rcases XZ.mp r with m|m
   ·refine .inr ⟨_,Qg.mpr ⟨(i,j),m,rfl⟩,rfl,?_⟩;show _g (_e i) (_e j)=(_e i,_e j)∨_g (_e i) (_e j)=(_e j,_e i);unfold _g;split<;>simp
   ·refine .inr ⟨_,Qg.mpr ⟨(j,i),m,rfl⟩,rfl,?_⟩;show _g (_e j) (_e i)=(_e i,_e j)∨_g (_e j) (_e i)=(_e j,_e i);unfold _g;split<;>simp
 all_goals
  have c:s="he"∨s="she":=by first|exact .inl hh|exact .inr hh
  have nS:¬s="S":=by rcases c with rfl|rfl<;>trivial
  unfold FT;rw [Jj nS,_hX c];constructor
  ·rintro ⟨rfl,d,f,m,hb⟩;obtain ⟨i',hi',e⟩:=(Vp o).mp hb;have en:_e i'=_e i:=by injection e
   have es:t.sorts.getD i' ""=s:=by injection e
   obtain rfl:=YS en;exact ⟨i',hi',rfl,(Xp c).mpr ⟨rfl,es⟩⟩
  ·rintro ⟨j,hj,rfl,r⟩;obtain ⟨rfl,e⟩:=(Xp c).mp r;exact ⟨rfl,_,_,_,(Vp o).mpr ⟨i,hi,by rw [←e];rfl⟩⟩
end
structure BT (t:Tr) (B:Bk):Prop where
 kn:∀i,i<t.days.length->Known B (_e i)
 led:∀s∈_o,∀i,i<t.days.length->∀x,x∈Yo B s (_e i)↔∃j,j<t.days.length∧x=_e j∧RT t s i j
 clo:Clo B (_0 t)
 bn:(Y1 B.kept).Perm (_0 t)
 lb:∀l n,(Yj B l n).length≤75
 so:∀i,i<t.days.length->X4 B (_e i)=t.sorts.getD i ""
noncomputable def ft (k bi li ti su:Addr) (B:Bk):List Addr:=[k,bi,li,ti,su]++B.ties.map (·.2.1)
def VF (H:Hp) (c:Addr):Prop:=∀u,noX u=true->H c≠some u
theorem U1 {Hc:Hp} {c:Addr} (sx:SameX H Hc) (h:Hc c=none):VF H c:=fun u nu e=>by rw [sx c u nu e] at h;cases h
section
variable {Hs:Hp} {k y:Addr}
theorem _eS (bt:But [k,bi,li,ti,su,y] H H') (hy:H y=none∨y=bi∨y∈B.ties.map (·.2.1)) (gr:GrowsT H B.ties B'.ties) (sc:SameX Hs H) (fs:∀c∈ft k bi li ti su B,VF Hs c):SameX Hs H'∧∀c∈ft k bi li ti su B',VF Hs c:=by
 refine ⟨fun c u nu e=>bt.eq c u (fun m=>?_) (sc c u nu e),fun c m=>?_⟩
 ·have no:c∉ft k bi li ti su B:=fun z=>fs c z u nu e;have m5:c∈[k,bi,li,ti,su]++[y]:=m;rcases Qh.mp m5 with z|z
  ·exact no (QY _ z)
  obtain rfl:=Qr.mp z;rcases hy with z|z|z
  ·rw [sc c u nu e] at z;cases z
  ·exact no (QY _ (by rw [z];simp))
  ·exact no (QL _ z)
 ·rcases Qh.mp m with z|z
  ·exact fs c (QY _ z)
  ·rcases gr c z with z|z
   ·exact fs c (QL _ z)
   ·exact U1 sc z
end
theorem _pe {k:Addr} (nb:H b=none) (ndx:H dx=none) (keep:∀c o,_c (_c H dx (.own b)) b (.ins C dx []) c=some o->c≠b->H' c=some o)
 (n1:_c (_c H dx (.own b)) b (.ins C dx []) k=none) (n2:_c (_c H dx (.own b)) b (.ins C dx []) bi=none) (n3:_c (_c H dx (.own b)) b (.ins C dx []) li=none) (n4:_c (_c H dx (.own b)) b (.ins C dx []) ti=none) (n5:_c (_c H dx (.own b)) b (.ins C dx []) su=none) :
  Same H H'∧∀c∈ft k bi li ti su W3,VF H c:=by
 have sb:Same H (_c (_c H dx (.own b)) b (.ins C dx [])):=fun c o e=>by rw [_d (_t e nb),_d (_t e ndx)];exact e
 refine ⟨fun c o e=>keep c o (sb c o e) (_t e nb),fun c m=>?_⟩
 have m':c=k∨c=bi∨c=li∨c=ti∨c=su:=by
  have e:ft k bi li ti su W3=[k,bi,li,ti,su]:=rfl;rw [e] at m;simpa using m
 rcases m' with rfl|rfl|rfl|rfl|rfl
 ·exact U1 sb.x n1
 ·exact U1 sb.x n2
 ·exact U1 sb.x n3
 ·exact U1 sb.x n4
 ·exact U1 sb.x n5
theorem TrAt.monoX {o tl:Addr} {t:Tr} (h:TrAt C H o dx dl sl pl tl ul t) (s:SameX H H'):TrAt C H' o dx dl sl pl tl ul t:=by
 obtain ⟨vs,h1,h2⟩:=h.ta;obtain ⟨us,h3,h4⟩:=h.un;exact ⟨s _ _ rfl h.ob,h.ap,s _ _ rfl h.da,s _ _ rfl h.so,s _ _ rfl h.pa,⟨vs,s _ _ rfl h1,h2.mono fun a xs e=>s _ _ rfl e⟩,us,s _ _ rfl h3,h4.mono fun a xs e=>s _ _ rfl e⟩
theorem Lams.but {P:Addr} {Hs:Hp} (l:Lams P Hs H) (b:But S H H') (n:∀c∈S,∀φ,H c≠some (.ext φ)):Lams P Hs H':=fun P2 ln co q ne h=>LamH.but (l P2 ln co q ne h) b n
theorem _mv {n:Nat} {zs:List Int} (h:zs.Perm ((List.range n).map fun i:Nat=>(i:Int))):∃ord:List Nat,zs=ord.map (fun i:Nat=>(i:Int))∧ord.Perm (List.range n):=by
 refine ⟨zs.map Int.toNat,?_,?_⟩
 ·rw [QP]
  have e:∀z∈zs,((fun i:Nat=>(i:Int))∘Int.toNat) z=z:=fun z hz=>by
   obtain ⟨i,_,rfl⟩:=Qg.mp (h.mem_iff.mp hz);rfl
  exact ((Gn e).trans (List.map_id' zs)).symm
 ·have:=h.map Int.toNat;rw [QP] at this;exact this.trans (by rw [show (Int.toNat∘fun i:Nat=>(i:Int))=id from funext fun i=>Gb i,List.map_id])
theorem _hC (h:es[i]?=some e):es.take (i+1)=es.take i++[e]:=by rw [R7,h];rfl
theorem _a7 (t:Tr) (ord:List Nat) (D:Int):(_8 t ord D).length=ord.length+(t.tak.length+t.uni.length):=by
 unfold _8 YK WW;rw [Qm,Qm,Qc,Qc,Qc]
theorem _ok {t:Tr} {D:Int} (h:t.tak[i]?=some p):(_8 t ord D)[ord.length+i]?=some (Ul D p):=by
 unfold _8 WW YK;rw [Rp (by rw [Qc];omega),Qc,show ord.length+i-ord.length=i by omega,RE (by rw [Qc];exact (Qz.mp h).1),Qp,h];rfl
theorem _jT {t:Tr} {D:Int} (h:t.uni[i]?=some p):(_8 t ord D)[ord.length+t.tak.length+i]?=some (WD D p):=by
 unfold _8 WW YK;rw [Rp (by rw [Qc];omega),Qc,show ord.length+t.tak.length+i-ord.length=t.tak.length+i by omega,Rp (by rw [Qc];omega),Qc,show t.tak.length+i-t.tak.length=i by omega,Qp,h];rfl
theorem _nH (t:Tr) (ord:List Nat) (D:Int):(_8 t ord D).take ord.length=YK t ord:=by
 unfold _8;exact List.take_left' (by unfold YK;rw [Qc])
theorem _p3 {t:Tr} {D:Int} (o:OrdOk t ord) (hk:B.kept.map (·.1)=(_8 t ord D).map Ent.told):(Y1 B.kept).Perm (_0 t):=by
 have e1:Y1 B.kept=(B.kept.map (·.1)).filterMap Ent.bornName:=by unfold Y1;rw [Rx];rfl
 have e2:(Ent.bornName∘Ent.told)=Ent.bornName:=funext _eq;have e3:(ord.map (XJ t)).filterMap Ent.bornName=ord.map _e:=by rw [Rx,show (Ent.bornName∘XJ t)=fun i=>some (_e i) from rfl,←List.filterMap_eq_map];rfl
 have e4:(WW t D).filterMap Ent.bornName=[]:=by
  rw [List.filterMap_eq_nil_iff];intro e he;rcases Qh.mp he with he|he
  ·obtain ⟨p,_,rfl⟩:=Qg.mp he;rfl
  ·obtain ⟨p,_,rfl⟩:=Qg.mp he;rfl
 rw [e1,hk,Rx,e2];unfold _8 YK;rw [R5,e3,e4,QU];exact o.pm.map _e
theorem _lz {t:Tr} {k:Nat} {D:Int} (li:LI5 (_0 t) B B.kept) (hk:B.kept.map (·.1)=(_8 t ord D).map Ent.told) (h:TI t k) (k24:k≤24) (o:OrdOk t ord) (l:Str) (n:Str):(Yj B l n).length≤75:=by
 show (lk B.links (l,n)).length≤75;rw [li.st.lks];refine Qk (_gi li.ap' _) ?_;rw [hk,Qc,_a7,o.pm.length_eq,QX];have:=h.n;have:=h.tf;have:=h.uf;omega
theorem Jn.tree {t:Tr} {k:Nat} {D:Int} (h:TI t k) (k24:k≤24) (o:OrdOk t ord) (gd:GdL (_0 t) (_8 t ord D)) (li:LI5 (_0 t) B B.kept) (hk:B.kept.map (·.1)=(_8 t ord D).map Ent.told):BT t B:=by
 have j:Jn (_0 t) B (_8 t ord D) (JQ t D) (FT t ord D):=⟨li,hk,gd,_lh h,_qn t ord D,fun c=>rfl⟩;have kn:∀i,i<t.days.length->Known B (_e i):=fun i hi=>(j.known ((Vp o).mpr ⟨i,hi,rfl⟩)).1;refine ⟨kn,fun s hs i hi x=>(j.step hs (kn i hi) x).trans (_l5 h o (_he gd) hs hi x),j.clo ?_,_p3 o hk,_lz li hk h k24 o,fun i hi=>(j.known ((Vp o).mpr ⟨i,hi,rfl⟩)).2⟩;unfold _0;rw [Qc,QX];have:=h.n;omega
theorem _lG (t:Tr) (hs:s∈_o):(t.go s).tak.length+(t.go s).uni.length≤t.tak.length+t.uni.length+1:=by
 rcases Wc hs with c|c|c|rfl|rfl|rfl
 ·rw [Jq t c,(Yy t t.here s).2.2.1,(Yy t t.here s).2.2.2.1];omega
 ·rw [_ai t c];unfold Tr.goUp;split
  ·show t.tak.length+t.uni.length≤_;omega
  ·show (Tr.ask _ _ _).tak.length+(Tr.ask _ _ _).uni.length≤_;rw [(Yy _ _ _).2.2.1,(Yy _ _ _).2.2.2.1];show t.tak.length+t.uni.length≤_;omega
 ·rw [JR t c];show (Tr.ask _ _ _).tak.length+(Tr.ask _ _ _).uni.length≤_;rw [(Yy _ _ _).2.2.1,(Yy _ _ _).2.2.2.1];omega
 ·rw [_bC];show (t.tak++[_]).length+t.uni.length≤_;rw [Qm];simp;omega
 ·rw [_ba];show (t.tak++[_]).length+t.uni.length≤_;rw [Qm];simp;omega
 ·rw [_ap];show t.tak.length+(t.uni++[_]).length≤_;rw [Qm];simp;omega
theorem _gJ:∀{w:List Str} {t:Tr},(∀s∈w,s∈_o)->(w.foldl Tr.go t).tak.length+(w.foldl Tr.go t).uni.length≤t.tak.length+t.uni.length+w.length
 |[],t,_=>Qe _
 |s::w,t,h=>by
  have h1:=_lG t (h s (by simp));have h2:=_gJ (w:=w) (t:=t.go s) fun x hx=>h x (QD _ hx);rw [Rb,QJ];omega
theorem Ui {w:List Str} (h9:∀s∈w,s∈_o):TI (_6 w) w.length:=by
 have:=(_aH TI.start h9).1;rw [Nat.zero_add] at this;exact this
theorem _qt {w:List Str} (h9:∀s∈w,s∈_o):(_6 w).tak.length+(_6 w).uni.length≤w.length:=by
 have:=_gJ (t:=Uc) h9;rw [show Uc.tak.length+Uc.uni.length+w.length=w.length from Nat.zero_add _] at this;exact this
def JS (a b:List Str):Prop:=(_6 a).clash=true∨WT (RT (_6 a)) b 0 (_6 a).here
theorem RT.lt {t:Tr} {k:Nat} (h:TI t k) (hs:s∈_o) (hi:i<t.days.length) (r:RT t s i j):j<t.days.length:=by
 rcases Wc hs with c|c|c|rfl|rfl|rfl
 ·rw [Xp c] at r;rw [←r.1];exact hi
 ·rw [Xc c] at r;exact (h.pn _ r).2.1
 ·rw [Ve c] at r;exact (h.pn _ r).1
 ·rw [Wo] at r;exact (h.tk _ r).2.1
 ·rw [Vh] at r;exact (h.tk _ r).1
 ·rw [XZ] at r;rcases r with r|r
  ·exact (h.un _ r).2
  ·exact Nat.lt_trans (h.un _ r).1 (h.un _ r).2
theorem _hJ {t:Tr} {B:Bk} (bt:BT t B):∀{w:List Str} {P:Str->Prop} {S:Nat->Prop},(∀s∈w,s∈_o)->(∀x,P x↔∃i,i<t.days.length∧x=_e i∧S i)->∀y,XU (Yo B) w P y↔∃i j,i<t.days.length∧S i∧j<t.days.length∧y=_e j∧WT (fun s a b=>b<t.days.length∧RT t s a b) w i j
 |[],P,S,_,hP,y=>by
  show P y↔_;rw [hP];exact ⟨fun ⟨i,hi,e,s⟩=>⟨i,i,hi,s,hi,e,rfl⟩,fun ⟨i,j,hi,s,hj,e,z⟩=>by cases (show i=j from z);exact ⟨i,hi,e,s⟩⟩
 |s::w,P,S,h9,hP,y=>by
  show XU (Yo B) w (fun x=>∃y,P y∧x∈Yo B s y) y↔_;rw [_hJ bt (w:=w) (S:=fun m=>∃i,i<t.days.length∧S i∧RT t s i m) (fun x hx=>h9 x (QD _ hx)) fun x=>?_]
  ·constructor
   ·rintro ⟨m,j,hm,⟨i,hi,si,r⟩,hj,e,w'⟩;exact ⟨i,j,hi,si,hj,e,m,⟨hm,r⟩,w'⟩
   ·rintro ⟨i,j,hi,si,hj,e,m,⟨hm,r⟩,w'⟩;exact ⟨m,j,hm,⟨i,hi,si,r⟩,hj,e,w'⟩
  ·constructor
   ·rintro ⟨z,hz,hx⟩;obtain ⟨i,hi,rfl,si⟩:=(hP z).mp hz;obtain ⟨m,hm,rfl,r⟩:=(bt.led s (h9 s (by simp)) i hi x).mp hx;exact ⟨m,hm,rfl,i,hi,si,r⟩
   ·rintro ⟨m,hm,rfl,i,hi,si,r⟩;exact ⟨_e i,(hP _).mpr ⟨i,hi,rfl,si⟩,(bt.led s (h9 s (by simp)) i hi _).mpr ⟨m,hm,rfl,r⟩⟩
theorem _a3 {t:Tr} {k:Nat} (h:TI t k):∀{w:List Str} {i j:Nat},(∀s∈w,s∈_o)->i<t.days.length->(WT (fun s a b=>b<t.days.length∧RT t s a b) w i j↔WT (RT t) w i j)
 |[],i,j,_,_=>Q0
 |s::w,i,j,h9,hi=>by
  constructor
  ·rintro ⟨m,⟨hm,r⟩,w'⟩;exact ⟨m,r,(_a3 h (fun x hx=>h9 x (QD _ hx)) hm).mp w'⟩
  ·rintro ⟨m,r,w'⟩;have hm:=r.lt h (h9 s (by simp)) hi;exact ⟨m,⟨hm,r⟩,(_a3 h (fun x hx=>h9 x (QD _ hx)) hm).mpr w'⟩
theorem _n0 {t:Tr} {k:Nat} (h:TI t k) (bt:BT t B) {w:List Str} (h9:∀s∈w,s∈_o) (hi:i<t.days.length) (hj:j<t.days.length):XU (Yo B) w (·=_e i) (_e j)↔WT (RT t) w i j:=by
 rw [_hJ bt (S:=(·=i)) h9 fun x=>⟨fun e=>⟨i,hi,e,rfl⟩,fun ⟨a,_,e,z⟩=>by rw [e,z]⟩];constructor
 ·rintro ⟨a,b,_,rfl,_,e,w'⟩;obtain rfl:=YS e;exact (_a3 h h9 hi).mp w'
 ·intro w';exact ⟨i,j,hi,rfl,hj,rfl,(_a3 h h9 hi).mpr w'⟩
noncomputable def Yu (s:Str):Str:=if s="F" then "f" else if s="M" then "m" else if s="T" then "t" else if s="f" then "F" else if s="m" then "M" else if s="t" then "T" else s
noncomputable def YU (w:List Str):List Str:=(w.map Yu).reverse
theorem _mB (h:s∈_o):Yu s∈_o:=(show ∀s∈_o,Yu s∈_o by trivial) s h
theorem _j8 (h:s∈_o):Yu (Yu s)=s:=(show ∀s∈_o,Yu (Yu s)=s by trivial) s h
structure VR (R:Str->Nat->Nat->Prop):Prop where
 sym:∀s∈_o,∀i j,R s i j->R (Yu s) j i
 fF:∀i j k,R "F" i j->R "F" i k->j=k
 fM:∀i j k,R "M" i j->R "M" i k->j=k
 he:∀i j,R "F" i j->R "he" j j
 she:∀i j,R "M" i j->R "she" j j
 th:∀i j,R "he" i j->i=j
 ts:∀i j,R "she" i j->i=j
 no:∀i,R "he" i i->R "she" i i->False
theorem _gj {t:Tr} {k:Nat} (h:TI t k) (hc:t.clash=false):VR (RT t) where
 sym:=fun s hs i j r=>by
  rcases Wc hs with c|c|c|rfl|rfl|rfl
  ·rw [show Yu s=s by rcases c with rfl|rfl<;>rfl,Xp c];rw [Xp c] at r;exact ⟨r.1.symm,by rw [←r.1];exact r.2⟩
  ·rw [Xc c] at r;have c':Yu s="f"∨Yu s="m":=by rcases c with rfl|rfl<;>trivial
   rw [Ve c',show _x (Yu s)=s by rcases c with rfl|rfl<;>rfl];exact r
  ·rw [Ve c] at r;have c':Yu s="F"∨Yu s="M":=by rcases c with rfl|rfl<;>trivial
   rw [Xc c',show Yu s=_x s by rcases c with rfl|rfl<;>rfl];exact r
  ·rw [Wo] at r;exact Vh.mpr r
  ·rw [Vh] at r;exact Wo.mpr r
  ·rw [XZ] at r;exact XZ.mpr r.symm
 fF:=fun i j k r1 r2=>by
  rw [Xc (.inl rfl)] at r1 r2;have:=(WN h).mpr r1;rw [(WN h).mpr r2] at this;exact (Qn this).symm
 fM:=fun i j k r1 r2=>by
  rw [Xc (.inr rfl)] at r1 r2;have:=(WN h).mpr r1;rw [(WN h).mpr r2] at this;exact (Qn this).symm
 he:=fun i j r=>by
  rw [Xc (.inl rfl)] at r;rw [Xp (.inl rfl)];exact ⟨rfl,(h.pn _ r).2.2.2.2 hc⟩
 she:=fun i j r=>by
  rw [Xc (.inr rfl)] at r;rw [Xp (.inr rfl)];exact ⟨rfl,(h.pn _ r).2.2.2.2 hc⟩
 th:=fun i j r=>((Xp (.inl rfl)).mp r).1
 ts:=fun i j r=>((Xp (.inr rfl)).mp r).1
 no:=fun i r1 r2=>by
  have e:=((Xp (.inl rfl)).mp r1).2.symm.trans ((Xp (.inr rfl)).mp r2).2;exact absurd e (by trivial)
def Wd (a b:List Str):Prop:=∀R,VR R->∀i j,WT R a i j->WT R b i j
theorem Jf {R:Str->Nat->Nat->Prop}:∀{a b:List Str} {i j:Nat},WT R (a++b) i j↔∃m,WT R a i m∧WT R b m j
 |[],b,i,j=>⟨fun h=>⟨i,rfl,h⟩,fun ⟨m,e,h⟩=>by cases (show i=m from e);exact h⟩
 |s::a,b,i,j=>by
  constructor
  ·rintro ⟨m,r,w⟩;obtain ⟨n,h1,h2⟩:=Jf.mp w;exact ⟨n,⟨m,r,h1⟩,h2⟩
  ·rintro ⟨n,⟨m,r,h1⟩,h2⟩;exact ⟨m,r,Jf.mpr ⟨n,h1,h2⟩⟩
theorem _b3 {R:Str->Nat->Nat->Prop} (v:VR R):∀{w:List Str} {i j:Nat},(∀s∈w,s∈_o)->WT R w i j->WT R (YU w) j i
 |[],i,j,_,e=>(show i=j from e).symm
 |s::w,i,j,h9,⟨m,r,w'⟩=>by
  have:=_b3 v (fun x hx=>h9 x (QD _ hx)) w';unfold YU at this ⊢;rw [Qw,List.reverse_cons];exact Jf.mpr ⟨m,this,i,v.sym s (h9 s (by simp)) i m r,rfl⟩
theorem JD {w:List Str} (h:∀s∈w,s∈_o):∀s∈YU w,s∈_o:=fun s hs=>by
 unfold YU at hs;obtain ⟨x,hx,rfl⟩:=Qg.mp (List.mem_reverse.mp hs);exact _mB (h x hx)
theorem _nU {w:List Str} (h:∀s∈w,s∈_o):YU (YU w)=w:=by
 unfold YU;rw [N6,List.reverse_reverse,QP];exact (Gn fun s hs=>_j8 (h s hs)).trans (List.map_id' w)
theorem _dP (w:List Str):(YU w).length=w.length:=by unfold YU;rw [NT,Qc]
theorem _pW {a b:List Str} (ha:∀s∈a,s∈_o) (hb:∀s∈b,s∈_o) (h:Wd a b):JS (YU a) (YU b):=by
 cases hc:(_6 (YU a)).clash with
 |true=>exact .inl hc
 |false =>
  have v:=_gj (Ui (JD ha)) hc;have w:=(_aH TI.start (JD ha)).2.2 hc;have w2:=_b3 v (JD ha) w;rw [_nU ha] at w2;exact .inr (_b3 v hb (h _ v _ _ w2))
noncomputable abbrev J7:List (_l×V):=[(.inr "F",.str "f"),(.inr "M",.str "m"),(.inr "T",.str "t"),(.inr "f",.str "F"),(.inr "m",.str "M"),(.inr "t",.str "T")]
theorem _qa (h:s∈_o):(_F (XY [] J7) (.inr s)).getD (.str s)=.str (Yu s):=by
 simp only [_o,Qj,QN,QO] at h;rcases h with rfl|rfl|rfl|rfl|rfl|rfl|rfl|rfl|rfl<;>rfl
theorem _fN {xs:List Str} {y:V} (h:(xs.map V.str)[i]?=some y):∃z,y=.str z∧xs[i]?=some z:=by
 rw [Qp] at h;obtain ⟨z,hz,e⟩:=QC.mp h;exact ⟨z,e.symm,hz⟩
theorem Uw {n:Nat} (h:n≤1000):n≤sizeLine:=QR (_y h)
structure Hom (R:Str->Nat->Nat->Prop) (t:Tr) (φ:Nat->Nat):Prop where
 par:∀q∈t.par,R q.1.1 (φ q.1.2) (φ q.2)
 tak:∀p∈t.tak,R "T" (φ p.1) (φ p.2)
 uni:∀p∈t.uni,R "S" (φ p.1) (φ p.2)
 so:∀i,t.sorts.getD i ""≠""->R (t.sorts.getD i "") (φ i) (φ i)
 cl:t.clash=false
section
variable {t:Tr} {k:Nat} {φ:Nat->Nat}
theorem _hM {l:List Str} (h:l.getD i ""≠""):i<l.length∧l.getD i ""∈l:=by
 by_cases c:i<l.length
 ·exact ⟨c,by rw [QQ,Qt c];exact R6 c⟩
 ·exact absurd (by rw [QQ,RN (by omega)];rfl) h
theorem Hom.ask (v:VR R) (h:Hom R t φ) (ss:∀s∈t.sorts,s=""∨s="he"∨s="she") (hs:s="he"∨s="she") (r:R s (φ i) (φ i)):Hom R (t.ask i s) φ:=by
 unfold Tr.ask;split
 ·refine ⟨h.par,h.tak,h.uni,fun j hj=>?_,h.cl⟩;change (t.sorts.set i s).getD j ""≠"" at hj;show R ((t.sorts.set i s).getD j "") _ _;rw [_dW] at hj ⊢;by_cases c:i=j∧i<t.sorts.length
  ·rw [Qb c,←c.1];exact r
  ·rw [Qa c] at hj ⊢;exact h.so j hj
 ·rename_i e;split
  ·exact h
  ·rename_i e2;have z:=h.so i e;rcases ss _ (_hM e).2 with c|c|c
   ·exact absurd c e
   ·rw [c] at z e2;rcases hs with rfl|rfl
    ·exact absurd rfl e2
    ·exact (v.no _ z r).elim
   ·rw [c] at z e2;rcases hs with rfl|rfl
    ·exact (v.no _ r z).elim
    ·exact absurd rfl e2
noncomputable abbrev Ww (φ:Nat->Nat) (n m:Nat):Nat->Nat:=fun i=>if i=n then m else φ i
theorem Y9 {n m:Nat} (h:i<n):Ww φ n m i=φ i:=Qa (by omega)
theorem Wm {n m:Nat}:Ww φ n m n=m:=Qb rfl
structure Bd (t:Tr):Prop where
 len:t.sorts.length=t.days.length
 he:t.here<t.days.length
 par:∀q∈t.par,q.1.2<t.days.length∧q.2<t.days.length
 tak:∀p∈t.tak,p.1<t.days.length∧p.2<t.days.length
 uni:∀p∈t.uni,p.1<t.days.length∧p.2<t.days.length
theorem TI.bnd (h:TI t k):Bd t:=⟨h.len,h.he,fun q hq=>⟨(h.pn q hq).1,(h.pn q hq).2.1⟩,fun q hq=>⟨(h.tk q hq).1,(h.tk q hq).2.1⟩,fun q hq=>⟨by have:=h.un q hq;omega,(h.un q hq).2⟩⟩
theorem Hom.grow (h:Hom R t φ) (b:Bd t) (z:Int) (m:Nat):Hom R (t.grow z) (Ww φ t.days.length m):=by
 refine ⟨fun q hq=>?_,fun p hp=>?_,fun p hp=>?_,fun i hi=>?_,h.cl⟩
 ·rw [Y9 (b.par q hq).1,Y9 (b.par q hq).2];exact h.par q hq
 ·rw [Y9 (b.tak p hp).1,Y9 (b.tak p hp).2];exact h.tak p hp
 ·rw [Y9 (b.uni p hp).1,Y9 (b.uni p hp).2];exact h.uni p hp
 ·change (t.sorts++[("" : Str)]).getD i ""≠"" at hi;show R ((t.sorts++[("" : Str)]).getD i "") _ _;rw [Vi] at hi ⊢;rw [Y9 (by rw [←b.len];exact (_hM hi).1)];exact h.so i hi
theorem _m2 {l:Str} {c p:Nat} (h:Ws t l c=some p):((l,c),p)∈t.par:=by
 unfold Ws at h;obtain ⟨q,hq,e⟩:=QC.mp h;have:=List.find?_some hq;rw [←e,←Q8 this];exact Mh hq
theorem Hom.addPar (h:Hom R t φ) {l:Str} {c p:Nat} (r:R l (φ c) (φ p)):Hom R (t.addPar l c p) φ :=
 ⟨fun q hq=>by
  rcases Qh.mp hq with hq|hq
  ·exact h.par q hq
  ·rw [Qr.mp hq];exact r,h.tak,h.uni,h.so,h.cl⟩
theorem Bd.ask (b:Bd t) (i:Nat) (s:Str):Bd (t.ask i s):=by
 obtain ⟨a1,a3,a4,a5,a2,a6⟩:=Yy t i s;exact ⟨by rw [a6,a1];exact b.len,by rw [a2,a1];exact b.he,by rw [a3,a1];exact b.par,by rw [a4,a1];exact b.tak,by rw [a5,a1];exact b.uni⟩
theorem Hom.go (v:VR R) (ti:TI t k) (h:Hom R t φ) (hs:s∈_o) {m:Nat} (r:R s (φ t.here) m):∃ψ,Hom R (t.go s) ψ∧ψ (t.go s).here=m∧ψ 0=φ 0:=by
 have b:=ti.bnd;have n0:0<t.days.length:=Rt (QT _) b.he;unfold Tr.go;split
 ·rename_i c;have e:φ t.here=m:=by rcases c with rfl|rfl<;>first|exact v.th _ _ r|exact v.ts _ _ r
  rw [←e] at r;exact ⟨φ,h.ask v ti.ss c r,by rw [(Yy t t.here s).2.2.2.2.1];exact e,rfl⟩
 ·rename_i c1;split
  ·rename_i c;have up:R (_K s) m m:=by rcases c with rfl|rfl<;>first|exact v.he _ _ r|exact v.she _ _ r
   unfold Tr.goUp;split
   ·rename_i p hp;have z:=h.par _ (_m2 hp);exact ⟨φ,⟨h.par,h.tak,h.uni,h.so,h.cl⟩,by rcases c with rfl|rfl<;>first|exact v.fF _ _ _ z r|exact v.fM _ _ _ z r,rfl⟩
   ·have g:=((h.grow b (-1) m).addPar (l:=s) (c:=t.here) (p:=t.days.length) (by rw [Y9 b.he,Wm];exact r));refine ⟨_,g.ask v (fun s hs=>?_) (by rcases c with rfl|rfl<;>first|exact .inl rfl|exact .inr rfl) (i:=t.days.length) (s:=_K s) (by rw [Wm];exact up),?_,Y9 n0⟩
    ·rcases Qh.mp hs with hs|hs
     ·exact ti.ss s hs
     ·exact .inl (Qr.mp hs)
    ·rw [(Yy _ _ _).2.2.2.2.1];exact Wm
  ·rename_i c2;split
   ·rename_i c;have sy:=v.sym s hs _ _ r;have e:Yu s=_x s:=by rcases c with rfl|rfl<;>rfl
    rw [e] at sy;have up:R (_K (_x s)) (φ t.here) (φ t.here):=by rcases c with rfl|rfl<;>first|exact v.he _ _ sy|exact v.she _ _ sy
    have a:=h.ask v ti.ss (i:=t.here) (s:=_K (_x s)) (by rcases c with rfl|rfl<;>first|exact .inl rfl|exact .inr rfl) up;have d:=(Yy t t.here (_K (_x s))).1;have g:=a.grow (b.ask _ _) 1 m;rw [d] at g;exact ⟨_,g.addPar (by rw [Wm,Y9 b.he];exact sy),by show Ww φ _ m (t.ask _ _).days.length=m;rw [d];exact Wm,Y9 n0⟩
   ·rename_i c3;split
    ·rename_i c;subst c;have g:=h.grow b (-1) m
     exact ⟨_,⟨g.par,fun p hp=>by
      rcases Qh.mp hp with hp|hp
      ·exact g.tak p hp
      ·rw [Qr.mp hp];show R "T" (Ww φ _ m t.here) (Ww φ _ m _);rw [Wm,Y9 b.he];exact r,g.uni,g.so,g.cl⟩,Wm,Y9 n0⟩
    ·rename_i c4;split
     ·rename_i c;subst c;have sy:=v.sym "t" hs _ _ r;have g:=h.grow b 1 m
      exact ⟨_,⟨g.par,fun p hp=>by
       rcases Qh.mp hp with hp|hp
       ·exact g.tak p hp
       ·rw [Qr.mp hp];show R "T" (Ww φ _ m _) (Ww φ _ m t.here);rw [Wm,Y9 b.he];exact sy,g.uni,g.so,g.cl⟩,Wm,Y9 n0⟩
     ·rename_i c5
      have e:s="S":=by
       simp only [_o,Qj,QN,QO] at hs;simp only [not_or] at c1 c2 c3;rcases hs with z|z|z|z|z|z|z|z|z
       ·exact absurd z c2.1
       ·exact absurd z c2.2
       ·exact absurd z c4
       ·exact absurd z c3.1
       ·exact absurd z c3.2
       ·exact absurd z c5
       ·exact z
       ·exact absurd z c1.1
       ·exact absurd z c1.2
      subst e;have g:=h.grow b 0 m
      exact ⟨_,⟨g.par,g.tak,fun p hp=>by
       rcases Qh.mp hp with hp|hp
       ·exact g.uni p hp
       ·rw [Qr.mp hp];show R "S" (Ww φ _ m t.here) (Ww φ _ m _);rw [Wm,Y9 b.he];exact r,g.so,g.cl⟩,Wm,Y9 n0⟩
theorem Hom.way (v:VR R):∀{w:List Str} {t:Tr} {k:Nat} {φ:Nat->Nat},TI t k->Hom R t φ->(∀s∈w,s∈_o)->∀{j:Nat},WT R w (φ t.here) j->∃ψ,Hom R (w.foldl Tr.go t) ψ∧ψ (w.foldl Tr.go t).here=j∧ψ 0=φ 0
 |[],t,k,φ,ti,h,h9,j,r=>⟨φ,h,r,rfl⟩
 |s::w,t,k,φ,ti,h,h9,j,⟨m,r,q⟩=>by
  obtain ⟨ψ,g,e,z⟩:=h.go v ti (h9 s (by simp)) r;rw [←e] at q;obtain ⟨χ,g2,e2,z2⟩:=Hom.way v (_aG ti (h9 s (by simp))).1 g (fun x hx=>h9 x (by simp [hx])) q;exact ⟨χ,g2,e2,z2.trans z⟩
theorem Hom.rt (v:VR R) (h:Hom R t φ) (hs:s∈_o) (r:RT t s i j):R s (φ i) (φ j):=by
 rcases Wc hs with c|c|c|rfl|rfl|rfl
 ·obtain ⟨rfl,e⟩:=(Xp c).mp r;have:=h.so i (by rw [e];rcases c with rfl|rfl<;>decide);rw [e] at this;exact this
 ·exact h.par _ ((Xc c).mp r)
 ·have z:=v.sym (_x s) (by rcases c with rfl|rfl<;>decide) _ _ (h.par _ ((Ve c).mp r));rw [show Yu (_x s)=s by rcases c with rfl|rfl<;>rfl] at z;exact z
 ·exact h.tak _ (Wo.mp r)
 ·exact v.sym "T" (by decide) _ _ (h.tak _ (Vh.mp r))
 ·rcases XZ.mp r with r|r
  ·exact h.uni _ r
  ·exact v.sym "S" (by decide) _ _ (h.uni _ r)
theorem Hom.wt (v:VR R) (h:Hom R t φ):∀{w:List Str},(∀s∈w,s∈_o)->∀{i j:Nat},WT (RT t) w i j->WT R w (φ i) (φ j)
 |[],_,_,_,r=>QB φ r
 |s::w,h9,i,j,⟨m,r,q⟩=>⟨φ m,h.rt v (h9 s (by simp)) r,Hom.wt v h (fun x hx=>h9 x (by simp [hx])) q⟩
end
theorem _mn {a b:List Str} (ha:∀s∈a,s∈_o) (hb:∀s∈b,s∈_o) (h:JS a b):Wd a b:=fun R v i j w=>by
 obtain ⟨ψ,g,e,z⟩:=Hom.way v (φ:=fun _=>i) TI.start ⟨fun q hq=>(by cases hq),fun q hq=>(by cases hq),fun q hq=>(by cases hq),fun j hj=>absurd (by cases j<;>rfl) hj,rfl⟩ ha w;rcases h with h|h
 ·rw [show (_6 a).clash=false from g.cl] at h;cases h
 ·have:=g.wt v hb h;rw [show ψ (_6 a).here=j from e,z] at this;exact this
structure Ld where
 pe:List (Str×Int×Int)
 ta:List (Nat×Nat)
 un:List (Nat×Nat)
noncomputable def Ld.so (L:Ld) (i:Nat):Str:=((L.pe[i]?).map (·.1)).getD ""
noncomputable def Ld.up (L:Ld) (l:Str) (i:Nat):Int:=((L.pe[i]?).map fun p=>if l="F" then p.2.1 else p.2.2).getD (-1)
def RL (L:Ld) (s:Str) (i j:Nat):Prop :=
 if s="he"∨s="she" then i=j∧L.so i=s
 else if s="F"∨s="M" then L.up s i=j
 else if s="f"∨s="m" then L.up (_x s) j=i
 else if s="T" then (i,j)∈L.ta
 else if s="t" then (j,i)∈L.ta
 else (i,j)∈L.un∨(j,i)∈L.un
structure LOk (L:Ld):Prop where
 n1:1≤L.pe.length
 n6:L.pe.length≤6
 up:∀l:Str,l="F"∨l="M"->∀i (j:Nat),L.up l i=j->L.so j=_K l
 ta:∀p∈L.ta,p.1<L.pe.length∧p.2<L.pe.length
 un:∀p∈L.un,p.1<L.pe.length∧p.2<L.pe.length
 t5:L.ta.length≤450
 u5:L.un.length≤450
section
variable {L:Ld}
theorem X3 (h:s="he"∨s="she"):RL L s i j↔i=j∧L.so i=s:=by unfold RL;rw [Qb h]
theorem XQ (h:s="F"∨s="M"):RL L s i j↔L.up s i=j:=by unfold RL;rw [Qa (by rcases h with rfl|rfl<;>trivial),Qb h]
theorem JZ (h:s="f"∨s="m"):RL L s i j↔L.up (_x s) j=i:=by unfold RL;rw [Qa (by rcases h with rfl|rfl<;>trivial),Qa (by rcases h with rfl|rfl<;>trivial),Qb h]
theorem J3:RL L "T" i j↔(i,j)∈L.ta:=by unfold RL;rw [Qa (by trivial),Qa (by trivial),Qa (by trivial),Qb rfl]
theorem U5:RL L "t" i j↔(j,i)∈L.ta:=by unfold RL;rw [Qa (by trivial),Qa (by trivial),Qa (by trivial),Qa (by trivial),Qb rfl]
theorem JW:RL L "S" i j↔(i,j)∈L.un∨(j,i)∈L.un:=by unfold RL;rw [Qa (by trivial),Qa (by trivial),Qa (by trivial),Qa (by trivial),Qa (by trivial)]
theorem _g9 (h:LOk L):VR (RL L) where
 sym:=fun s hs i j r=>by
  rcases Wc hs with c|c|c|rfl|rfl|rfl
  ·rw [show Yu s=s by rcases c with rfl|rfl<;>rfl,X3 c];obtain ⟨rfl,e⟩:=(X3 c).mp r;exact ⟨rfl,e⟩
  ·rw [JZ (by rcases c with rfl|rfl<;>decide),show _x (Yu s)=s by rcases c with rfl|rfl<;>rfl];exact (XQ c).mp r
  ·rw [XQ (by rcases c with rfl|rfl<;>decide),show Yu s=_x s by rcases c with rfl|rfl<;>rfl];exact (JZ c).mp r
  ·exact U5.mpr (J3.mp r)
  ·exact J3.mpr (U5.mp r)
  ·exact JW.mpr (JW.mp r).symm
 fF:=fun i j k a b=>by have a:=(XQ (.inl rfl)).mp a;have b:=(XQ (.inl rfl)).mp b;omega
 fM:=fun i j k a b=>by have a:=(XQ (.inr rfl)).mp a;have b:=(XQ (.inr rfl)).mp b;omega
 he:=fun i j r=>(X3 (.inl rfl)).mpr ⟨rfl,h.up "F" (.inl rfl) i j ((XQ (.inl rfl)).mp r)⟩
 she:=fun i j r=>(X3 (.inr rfl)).mpr ⟨rfl,h.up "M" (.inr rfl) i j ((XQ (.inr rfl)).mp r)⟩
 th:=fun i j r=>((X3 (.inl rfl)).mp r).1
 ts:=fun i j r=>((X3 (.inr rfl)).mp r).1
 no:=fun i a b=>by
  have a:=((X3 (.inl rfl)).mp a).2;rw [((X3 (.inr rfl)).mp b).2] at a;exact absurd a (by decide)
theorem _d6 (h:L.so i≠""):i<L.pe.length:=by
 by_cases c:i<L.pe.length
 ·exact c
 ·exact absurd (by unfold Ld.so;rw [RN (by omega)];rfl) h
theorem Jw {l:Str} (h:L.up l i=j):i<L.pe.length:=by
 by_cases c:i<L.pe.length
 ·exact c
 ·unfold Ld.up at h;rw [RN (by omega)] at h;simp at h
theorem RL.lt (h:LOk L) (hs:s∈_o) (r:RL L s i j):i<L.pe.length∧j<L.pe.length:=by
 rcases Wc hs with c|c|c|rfl|rfl|rfl
 ·obtain ⟨rfl,e⟩:=(X3 c).mp r;have:=_d6 (L:=L) (i:=i) (by rw [e];rcases c with rfl|rfl<;>decide);exact ⟨this,this⟩
 ·have e:=(XQ c).mp r;exact ⟨Jw e,_d6 (by rw [h.up s c i j e];exact _cE s)⟩
 ·have e:=(JZ c).mp r;exact ⟨_d6 (by rw [h.up (_x s) (by rcases c with rfl|rfl<;>decide) j i e];exact _cE _),Jw e⟩
 ·exact h.ta _ (J3.mp r)
 ·exact (h.ta _ (U5.mp r)).symm
 ·rcases JW.mp r with r|r
  ·exact h.un _ r
  ·exact (h.un _ r).symm
end
def _g1 (K:W.Frag) (H:Hp) (l:Addr) (ps:List (Str×Int×Int)):Prop:=∃as:List Addr,SqL K H l (as.map V.ref)∧as.length=ps.length∧∀(i:Nat) a p,as[i]?=some a->ps[i]?=some p->SqT K H a [.str p.1,.int p.2.1,.int p.2.2]
def PrsAt (K:W.Frag) (H:Hp) (l:Addr) (ps:List (Nat×Nat)):Prop:=∃as:List Addr,SqL K H l (as.map V.ref)∧as.length=ps.length∧∀(i:Nat) a p,as[i]?=some a->ps[i]?=some p->SqT K H a [.int p.1,.int p.2]
def LdAt (K:W.Frag) (H:Hp) (a:Addr) (L:Ld):Prop:=∃P T U,SqT K H a [.ref P,.ref T,.ref U]∧_g1 K H P L.pe∧PrsAt K H T L.ta∧PrsAt K H U L.un
theorem LdAt.mono {L:Ld} (h:LdAt K H a L) (s:SameX H H'):LdAt K H' a L:=by
 obtain ⟨P,T,U,h0,⟨a1,b1,c1,d1⟩,⟨a2,b2,c2,d2⟩,⟨a3,b3,c3,d3⟩⟩:=h;exact ⟨P,T,U,s.sqt h0,⟨a1,s.sql b1,c1,fun i a p x y=>s.sqt (d1 i a p x y)⟩,⟨a2,s.sql b2,c2,fun i a p x y=>s.sqt (d2 i a p x y)⟩,⟨a3,s.sql b3,c3,fun i a p x y=>s.sqt (d3 i a p x y)⟩⟩
theorem _i0 (h:PrsAt K H U ps) (l:ps.length≤450) {n:Nat} (e:σ[n]?=some (some (.ref U))) (e2:σ[2]?=some (some (.int i))) (q:∀D H',H D=none->Same H H'->H' D=some (.lst ((ps.filterMap fun p=>if p.1=i then some p.2 else none).map fun z:Nat=>V.int z))->Q (.ref D) H'):Jx (_dF K (YT n)) (WU [none,none,some 2]) (_aq K 2 (J0 (_B 0) (J0 (_B 1) _cW))) (_bh (WY rEq (YT 0) (YT 2))) (YT 1) σ H Q:=by
 obtain ⟨as,hU,lU,eU⟩:=h;refine ⟨_,e,U,rfl,⟨_,hU⟩,W1 (ps.map fun p=>if p.1=i then some (V.int p.2) else none) (_y (by rw [Qc];omega)) (fun σ=>∃v w,σ=[v,w,some (.int i)]) ⟨none,none,by simp [WU,e2]⟩ (fun j H4 hj sm=>?go) (fun H4 sm=>?stop) (fun j σ H4 x H5 z hz hσ sm hx C hC=>?step) (fun D5 H5 nD5 s5 hD5=>?fin)⟩
 case go=>exact ⟨_,_,sm.sql hU,Qt (by rw [Qc] at hj ⊢;omega)⟩
 case stop=>exact ⟨_,sm.sql hU,by rw [Qc,Qc,lU];exact Qe _⟩
 case step =>
  obtain ⟨v,w,rfl⟩:=hσ;obtain ⟨rfl,hx2⟩:=hx;have ex:=hx2 _ (sm.sql hU);rw [Qp] at ex hz;obtain ⟨a,ha,rfl⟩:=QC.mp ex;obtain ⟨p,hp,rfl⟩:=QC.mp hz;refine ⟨a,_,rfl,sm.sqt (eU j a p ha hp),rfl,_,_,rfl,_,_,rfl,rfl,_,rfl,_,rfl,rfl,_,rfl,?_⟩;by_cases c:p.1=i
  ·rw [Qb c] at hC;exact _V (by simp [c]) ⟨_,rfl,hC _ _ ⟨_,_,rfl⟩ (.refl _)⟩
  ·rw [Qa c] at hC;exact _u (by simp;omega) (hC _ _ ⟨_,_,rfl⟩ (.refl _))
 case fin =>
  refine q D5 H5 nD5 s5 ?_;rw [hD5,Rx,Go]
  congr 3
  funext p
  simp only [Function.comp,id];by_cases c:p.1=i<;>simp [c]
theorem _fX (h:PrsAt K H U ps) (l:ps.length≤450) {n:Nat} (e:σ[n]?=some (some (.ref U))) (e2:σ[2]?=some (some (.int i))) (q:∀D H',H D=none->Same H H'->H' D=some (.lst ((ps.filterMap fun p=>if p.2=i then some p.1 else none).map fun z:Nat=>V.int z))->Q (.ref D) H'):Jx (_dF K (YT n)) (WU [none,none,some 2]) (_aq K 2 (J0 (_B 0) (J0 (_B 1) _cW))) (_bh (WY rEq (YT 1) (YT 2))) (YT 0) σ H Q:=by
 obtain ⟨as,hU,lU,eU⟩:=h;refine ⟨_,e,U,rfl,⟨_,hU⟩,W1 (ps.map fun p=>if p.2=i then some (V.int p.1) else none) (_y (by rw [Qc];omega)) (fun σ=>∃v w,σ=[v,w,some (.int i)]) ⟨none,none,by simp [WU,e2]⟩ (fun j H4 hj sm=>?go) (fun H4 sm=>?stop) (fun j σ H4 x H5 z hz hσ sm hx C hC=>?step) (fun D5 H5 nD5 s5 hD5=>?fin)⟩
 case go=>exact ⟨_,_,sm.sql hU,Qt (by rw [Qc] at hj ⊢;omega)⟩
 case stop=>exact ⟨_,sm.sql hU,by rw [Qc,Qc,lU];exact Qe _⟩
 case step =>
  obtain ⟨v,w,rfl⟩:=hσ;obtain ⟨rfl,hx2⟩:=hx;have ex:=hx2 _ (sm.sql hU);rw [Qp] at ex hz;obtain ⟨a,ha,rfl⟩:=QC.mp ex;obtain ⟨p,hp,rfl⟩:=QC.mp hz;refine ⟨a,_,rfl,sm.sqt (eU j a p ha hp),rfl,_,_,rfl,_,_,rfl,rfl,_,rfl,_,rfl,rfl,_,rfl,?_⟩;by_cases c:p.2=i
  ·rw [Qb c] at hC;exact _V (by simp [c]) ⟨_,rfl,hC _ _ ⟨_,_,rfl⟩ (.refl _)⟩
  ·rw [Qa c] at hC;exact _u (by simp;omega) (hC _ _ ⟨_,_,rfl⟩ (.refl _))
 case fin =>
  refine q D5 H5 nD5 s5 ?_;rw [hD5,Rx,Go]
  congr 3
  funext p
  simp only [Function.comp,id];by_cases c:p.2=i<;>simp [c]
theorem PrsAt.mono (h:PrsAt K H a ps) (s:SameX H H'):PrsAt K H' a ps:=by
 obtain ⟨a2,b2,c2,d2⟩:=h;exact ⟨a2,s.sql b2,c2,fun i a p x y=>s.sqt (d2 i a p x y)⟩
theorem _iH:j∈(ps.filterMap fun p=>if p.1=i then some p.2 else none)↔(i,j)∈ps:=by
 rw [Rc];constructor
 ·rintro ⟨p,m,e⟩;by_cases c:p.1=i
  ·rw [Qb c] at e;rw [←c,←Qn e];exact m
  ·rw [Qa c] at e;cases e
 ·exact fun m=>⟨_,m,Qb rfl⟩
theorem _hc:j∈(ps.filterMap fun p=>if p.2=i then some p.1 else none)↔(j,i)∈ps:=by
 rw [Rc];constructor
 ·rintro ⟨p,m,e⟩;by_cases c:p.2=i
  ·rw [Qb c] at e;rw [←c,←Qn e];exact m
  ·rw [Qa c] at e;cases e
 ·exact fun m=>⟨_,m,Qb rfl⟩
noncomputable abbrev Yc (l:List (Nat×V)):List (_l×V):=l.map fun p=>(.inl (p.1:Int),p.2)
theorem _i3 (l:List (Nat×V)) (c:Nat) (v:V):Ym (Yc l) (.inl (c:Int)) v=Yc (putA l c v):=Jb (f:=fun s:Nat=>(.inl (s:Int):_l)) (fun a b h=>by injection h with h;exact Nj h) id l c v
theorem _cw (l:List (Nat×V)):(Yc l).length=(l.map (·.1)).length:=by rw [Qc,Qc]
theorem _fp {L:Ld} (ok:LOk L):∀{w:List Str} {i j:Nat},(∀s∈w,s∈_o)->i<L.pe.length->WT (RL L) w i j->j<L.pe.length
 |[],i,j,_,h,e=>by rw [←show i=j from e];exact h
 |s::w,i,j,h9,h,⟨m,r,q⟩=>_fp ok (fun x hx=>h9 x (by simp [hx])) (r.lt ok (h9 s (by simp))).2 q
theorem _eD {w:List Str}:WT R (w++[s]) i j↔∃m,WT R w i m∧R s m j:=by
 rw [Jf];exact ⟨fun ⟨m,a,n,r,e⟩=>⟨m,a,by rw [←show n=j from e];exact r⟩,fun ⟨m,a,r⟩=>⟨m,a,j,r,rfl⟩⟩
theorem _d9 {xs:List Nat} {n:Nat} (h:xs.Nodup) (s:∀x∈xs,x<n):xs.length≤n:=by
 have:=Mg (l₂:=List.range n) h fun x hx=>R9.mpr (s x hx);rw [QX] at this;exact this
theorem _aN {zs:List Nat} {y:V} (h:(zs.map fun z:Nat=>V.int z)[i]?=some y):∃z,zs[i]?=some z∧y=.int z:=by
 rw [Qp] at h;obtain ⟨z,hz,e⟩:=QC.mp h;exact ⟨z,hz,e.symm⟩
theorem _ha:∀{ks:List (Nat×V)} {x:Nat},x∈ks.map (·.1)->(_F (Yc ks) (.inl (x:Int))).isSome=true
 |[],_,h=>by cases h
 |q::ks,x,h=>by
  by_cases e:q.1=x
  ·show (_F ((.inl (q.1:Int),q.2)::Yc ks) _).isSome=true;rw [Xw (by rw [e])];rfl
  ·show (_F ((.inl (q.1:Int),q.2)::Yc ks) _).isSome=true;rw [Xz (fun z=>e (by injection z with z;exact Nj z))];exact _ha ((Qj.mp h).resolve_left fun z=>e z.symm)
theorem _gD {K:W.Frag} {H:Hp}:∀zs:List Nat,IsL K H (zs.map fun z:Nat=>D.int z) (zs.map fun z:Nat=>V.int z)
 |[]=>rfl
 |z::zs=>⟨_,_,rfl,rfl,_gD zs⟩
theorem _cm:∀zs:List Nat,YI (zs.map fun z:Nat=>D.int z)≤1
 |[]=>by simp [YI]
 |z::zs=>by
  have:=_cm zs;simp only [Qw,YI,XF];omega
theorem _iK {zs:List Nat} (h:SqL K H a (zs.map fun z:Nat=>V.int z)):Is K H (.lst (zs.map fun z:Nat=>D.int z)) (.ref a):=⟨a,_,rfl,h,_gD zs⟩
noncomputable abbrev XW (rs:List (Nat×List Str×Addr)):List (Nat×V):=rs.map fun q=>(q.1,V.ref q.2.2)
structure RI (K:W.Frag) (H:Hp) (n:Nat) (rs:List (Nat×List Str×Addr)):Prop where
 nd:(rs.map (·.1)).Nodup
 lt:∀q∈rs,q.1<n
 sq:∀q∈rs,SqT K H q.2.2 (q.2.1.map V.str)
 ok:∀q∈rs,(∀s∈q.2.1,s∈_o)∧q.2.1.length+1≤rs.length
theorem U6 (x:Nat):∀rs:List (Nat×List Str×Addr),(∃q∈rs,q.1=x∧_F (Yc (XW rs)) (.inl (x:Int))=some (.ref q.2.2))∨(x∉rs.map (·.1)∧_F (Yc (XW rs)) (.inl (x:Int))=none)
 |[]=>.inr ⟨by simp,rfl⟩
 |q::rs=>by
  by_cases e:q.1=x
  ·refine .inl ⟨q,by simp,e,?_⟩;show _F ((.inl (q.1:Int),.ref q.2.2)::Yc (XW rs)) _=_;rw [Xw (by rw [e])]
  ·have z:_F (Yc (XW (q::rs))) (.inl (x:Int))=_F (Yc (XW rs)) (.inl (x:Int)):=by
    show _F ((.inl (q.1:Int),.ref q.2.2)::Yc (XW rs)) _=_;rw [Xz (fun z=>e (by injection z with z;exact Nj z))]
   rw [z];rcases U6 x rs with ⟨p,m,a,b⟩|⟨a,b⟩
   ·exact .inl ⟨p,by simp [m],a,b⟩
   ·exact .inr ⟨by simp only [Qw,Qj,not_or];exact ⟨fun z=>e z.symm,a⟩,b⟩
theorem _oO {α:Type} {l:List (Nat×α)} {c:Nat} {x:α} (h:c∉l.map (·.1)):putA l c x=l++[(c,x)]:=by
 unfold putA;rw [Qa];intro z;exact h (by simpa using z)
theorem RI.put {n:Nat} (h:RI K H n rs) {x:Nat} {w:List Str} {p:Addr} (nx:x∉rs.map (·.1)) (xl:x<n) (sq:SqT K H p (w.map V.str)) (w9:∀s∈w,s∈_o) (wl:w.length≤rs.length):RI K H n (rs++[(x,w,p)]):=by
 refine ⟨?_,fun q hq=>?_,fun q hq=>?_,fun q hq=>?_⟩
 ·rw [Qo];refine QW.mpr ⟨h.nd,by simp,fun a ha b hb=>?_⟩;rw [show b=x by simpa using hb];exact fun z=>nx (z▸ha)
 ·rcases Qh.mp hq with hq|hq
  ·exact h.lt q hq
  ·rw [Qr.mp hq];exact xl
 ·rcases Qh.mp hq with hq|hq
  ·exact h.sq q hq
  ·rw [Qr.mp hq];exact sq
 ·rw [Qm,Rs];rcases Qh.mp hq with hq|hq
  ·have:=h.ok q hq;exact ⟨this.1,by omega⟩
  ·rw [Qr.mp hq];exact ⟨w9,by show w.length+1≤_;omega⟩
theorem RI.mono {n:Nat} (h:RI K H n rs) (f:∀a xs,SqT K H a xs->SqT K H' a xs):RI K H' n rs:=⟨h.nd,h.lt,fun q hq=>f _ _ (h.sq q hq),h.ok⟩
theorem RI.few {n:Nat} (h:RI K H n rs):rs.length≤n:=by
 have:=_d9 h.nd fun x hx=>by
  obtain ⟨q,hq,e⟩:=Qg.mp hx;rw [←e];exact h.lt q hq
 rw [Qc] at this;exact this
structure NI (K:W.Frag) (H0:Hp) (n:Nat) (R A B:Addr) (ah:List Nat) (k0:Nat) (H:Hp) (rs:List (Nat×List Str×Addr)) (be:List Nat):Prop where
 sm:Same H0 H
 hR:H R=some (.dK (Yc (XW rs)))
 hA:H A=some (.lst (ah.map fun z:Nat=>V.int z))
 hB:H B=some (.lst (be.map fun z:Nat=>V.int z))
 ri:RI K H n rs
 ak:∀x∈ah,x∈rs.map (·.1)
 bk:∀x∈be,x∈rs.map (·.1)
 ln:rs.length=k0+be.length
theorem NI.mono {H0:Hp} {n:Nat} {R A B:Addr} {ah:List Nat} {k0:Nat} {be:List Nat} (h:NI K H0 n R A B ah k0 H rs be) (s:Same H H'):NI K H0 n R A B ah k0 H' rs be:=⟨h.sm.trans s,s _ _ h.hR,s _ _ h.hA,s _ _ h.hB,h.ri.mono (fun _ _ z=>s.sqt z),h.ak,h.bk,h.ln⟩
def OfS (pe:List (Str×Int×Int)) (s:Str) (x:Int):Prop:=x=-1∨∃(j:Nat) (q:Str×Int×Int),x=j∧pe[j]?=some q∧q.1=s
def PO (pe:List (Str×Int×Int)):Prop:=∀p∈pe,OfS pe "he" p.2.1∧OfS pe "she" p.2.2
section
variable {pe:List (Str×Int×Int)} {x:Int} {p:Str×Int×Int}
theorem OfS.snoc (h:OfS pe s x):OfS (pe++[p]) s x:=by
 rcases h with h|⟨j,q,e,g,z⟩
 ·exact .inl h
 ·exact .inr ⟨j,q,e,by rw [RE (Qz.mp g).1];exact g,z⟩
theorem PO.snoc (h:PO pe) (a:OfS pe "he" p.2.1) (b:OfS pe "she" p.2.2):PO (pe++[p]):=fun q hq=>by
 rcases Qh.mp hq with hq|hq
 ·exact ⟨(h q hq).1.snoc,(h q hq).2.snoc⟩
 ·rw [Qr.mp hq];exact ⟨a.snoc,b.snoc⟩
theorem PO.up {L:Ld} (h:PO L.pe) (l:Str) (hl:l="F"∨l="M") (i j:Nat) (e:L.up l i=j):L.so j=_K l:=by
 have il:=Jw e;obtain ⟨p,c⟩:∃p,L.pe[i]?=some p:=⟨_,Qt il⟩;unfold Ld.up at e;rw [c] at e;have m:=h p (QE c);rcases hl with rfl|rfl
 ·have e:p.2.1=j:=e;rcases m.1 with z|⟨k,q,z,g,w⟩
  ·omega
  ·obtain rfl:k=j:=by omega
   unfold Ld.so;rw [g];exact w
 ·have e:p.2.2=j:=e;rcases m.2 with z|⟨k,q,z,g,w⟩
  ·omega
  ·obtain rfl:k=j:=by omega
   unfold Ld.so;rw [g];exact w
end
def QsAt {α:Type} (r:α->List V) (H:Hp) (l:Addr) (qs:List (α×Addr)):Prop:=H l=some (.lst (qs.map fun q=>V.ref q.2))∧∀q∈qs,H q.2=some (.tup (r q.1))
section
variable {α:Type} {r:α->List V} {l:Addr} {qs:List (α×Addr)}
theorem QsAt.mono (h:QsAt r H l qs) (s:Same H H'):QsAt r H' l qs:=⟨s _ _ h.1,fun q hq=>s _ _ (h.2 q hq)⟩
theorem QsAt.put (h:QsAt r H l qs) {x:α} {p:Addr} (hp:H p=some (.tup (r x))):QsAt r (_c H l (.lst (qs.map (fun q=>V.ref q.2)++[.ref p]))) l (qs++[(x,p)]):=by
 refine ⟨by rw [_f,Qo];rfl,fun q hq=>?_⟩
 have hq':H q.2=some (.tup (r q.1)):=by
  rcases Qh.mp hq with hq|hq
  ·exact h.2 q hq
  ·rw [Qr.mp hq];exact hp
 rw [_d (fun z=>by rw [z,h.1] at hq';cases hq')];exact hq'
theorem QsAt.other (h:QsAt r H l qs) {m:Addr} (hm:H m=some (.lst ys)) (ne:l≠m):QsAt r (_c H m o) l qs :=
 ⟨by rw [_d ne];exact h.1,fun q hq=>by rw [_d (fun z=>by have:=h.2 q hq;rw [z,hm] at this;cases this)];exact h.2 q hq⟩
end
noncomputable abbrev rP (p:Str×Int×Int):List V:=[.str p.1,.int p.2.1,.int p.2.2]
noncomputable abbrev rT (p:Nat×Nat):List V:=[.int p.1,.int p.2]
theorem _i8 {α:Type} {qs:List (α×Addr)} {p:α} (h1:(qs.map (·.2))[i]?=some a) (h2:(qs.map (·.1))[i]?=some p):(p,a)∈qs:=by
 rw [Qp] at h1 h2;obtain ⟨q,hq,rfl⟩:=QC.mp h1;obtain ⟨q',hq',rfl⟩:=QC.mp h2;rw [hq] at hq';cases hq';exact QE hq
theorem QsAt.pes {l:Addr} (h:QsAt rP H l qs):_g1 K H l (qs.map (·.1)) :=
 ⟨qs.map (·.2),by rw [QP];exact .of h.1,by rw [Qc,Qc],fun _ _ _ x y=>.of (h.2 _ (_i8 x y))⟩
theorem QsAt.prs {l:Addr} {qs:List ((Nat×Nat)×Addr)} (h:QsAt rT H l qs):PrsAt K H l (qs.map (·.1)) :=
 ⟨qs.map (·.2),by rw [QP];exact .of h.1,by rw [Qc,Qc],fun _ _ _ x y=>.of (h.2 _ (_i8 x y))⟩
noncomputable abbrev dT (p:Nat×Nat):D:=.tup [.int p.1,.int p.2]
theorem _dv (h:H a=some (.tup (rT p))):Is K H (dT p) (.ref a):=⟨a,_,rfl,.of h,_,_,rfl,rfl,_,_,rfl,rfl,rfl⟩
theorem _bF {K:W.Frag} {H:Hp}:∀{qs:List ((Nat×Nat)×Addr)},(∀q∈qs,H q.2=some (.tup (rT q.1)))->IsL K H (qs.map fun q=>dT q.1) (qs.map fun q=>V.ref q.2)
 |[],_=>rfl
 |q::qs,h=>⟨_,_,rfl,_dv (h q (by simp)),_bF fun x hx=>h x (by simp [hx])⟩
theorem _bX:∀qs:List ((Nat×Nat)×Addr),YI (qs.map fun q=>dT q.1)≤4
 |[]=>by simp [YI]
 |q::qs=>by
  exact Nat.max_le.mpr ⟨Qy rfl,_bX qs⟩
theorem _fF (ns:List Int) (lo hi:Option Int):∃cs:List Int,YG (ns.map V.int) lo hi=cs.map V.int∧cs.length=min (HT.sIx ns.length ns.length hi-HT.sIx ns.length 0 lo) (ns.length-HT.sIx ns.length 0 lo):=by
 refine ⟨(ns.drop (HT.sIx ns.length 0 lo)).take (HT.sIx ns.length ns.length hi-HT.sIx ns.length 0 lo),?_,?_⟩
 ·unfold YG;rw [List.map_take,List.map_drop,Qc]
 ·rw [Rk,NF]
theorem _gE {P:Addr} (h:QsAt rP H P qs) (l:qs.length≤6) (e:σ[2]?=some (some (.ref P))) (q:∀D H' (zs:List Int),H D=none->Same H H'->H' D=some (.lst (zs.map V.int))->zs.length≤6->(∀j∈zs,OfS (qs.map (·.1)) s j)->Q (.ref D) H'):Jx (_ik (Jy (tCB (fun xs H Q=>∃p ys,xs=[V.ref p]∧(SqL K H p ys∨SqT K H p ys)∧Q (V.int ys.length) H) (Jy (YT 2) VU)) VU)) (WU [none,some 2]) (_B 0) (_bh (WY rEq (WY (_ez K) (WY (_fC K) (YT 1) (YT 0)) (tC (V.int 0))) (tC (V.str s)))) (YT 0) σ H Q:=by
 refine ⟨_,e,P,_,rfl,.inl (.of h.1),_,rfl,by omega,by rw [Qc];omega,W1 (qs.mapIdx fun k q=>if q.1.1=s then some (V.int k) else none) (_y (by rw [Nl];omega)) (fun σ=>∃v,σ=[v,some (.ref P)]) ⟨none,by simp [WU,e]⟩ (fun j H4 hj sm=>?go) (fun H4 sm=>?stop) (fun j σ H4 x H5 z hz hσ sm hx C hC=>?step) (fun D5 H5 nD5 s5 hD5=>?fin)⟩
 case go=>show j<_;rw [Nl] at hj;rw [Qc];omega
 case stop=>show _≤_;rw [Qc,Nl];omega
 case step =>
  obtain ⟨v,rfl⟩:=hσ;obtain ⟨rfl,rfl⟩:=hx;rw [N7] at hz;obtain ⟨q0,hq0,rfl⟩:=QC.mp hz;rw [show (0:Int)+(j:Int)=j from GK _];refine ⟨_,rfl,_,rfl,P,_,_,_,rfl,rfl,.of (sm _ _ h.1),Wg (by rw [Qp,hq0];rfl),q0.2,_,_,_,rfl,rfl,.of (sm _ _ (h.2 q0 (QE hq0))),rfl,rfl,_,rfl,?_⟩;by_cases c:q0.1.1=s
  ·rw [Qb c] at hC;exact _V (by simp [c]) ⟨_,rfl,hC _ _ ⟨_,rfl⟩ (.refl _)⟩
  ·rw [Qa c] at hC;exact _u (by simp [c]) (hC _ _ ⟨_,rfl⟩ (.refl _))
 case fin =>
  refine q D5 H5 ((qs.mapIdx fun k q=>if q.1.1=s then some (k:Int) else none).filterMap id) nD5 s5 ?_ ?_ fun x hx=>?_
  ·rw [hD5]
   have ee:(qs.mapIdx fun k q=>if q.1.1=s then some (V.int k) else none)=(qs.mapIdx fun k q=>if q.1.1=s then some (k:Int) else none).map (Option.map V.int):=by
    refine List.ext_getElem? fun i=>?_;rw [Qp,N7,N7,Option.map_map]
    congr 1
    funext q
    by_cases c:q.1.1=s<;>simp [c]
   rw [ee,Rx,Go];rfl
  ·exact Qk (Rn _ _) (by rw [Nl];exact l)
  ·obtain ⟨o,ho,e⟩:=Rc.mp hx;obtain ⟨i,hi,e2⟩:=List.mem_mapIdx.mp ho;obtain rfl:o=some x:=e;by_cases c:(qs[i]).1.1=s
   ·rw [Qb c] at e2;exact .inr ⟨i,_,(Qn e2).symm,by rw [Qp,Qt hi];rfl,c⟩
   ·rw [Qa c] at e2;cases e2
theorem _cq (z:Int) {n:Nat} (h:0<n):∃m:Nat,m<n∧z.fmod n=m:=by
 have h0:=Int.fmod_nonneg_of_pos z (show (0:Int)<n by omega);have h1:=Int.fmod_lt_of_pos z (show (0:Int)<n by omega);exact ⟨(z.fmod n).toNat,by omega,by omega⟩
structure LT (H0:Hp) (P A U:Addr) (n m k:Nat) (qs:List ((Str×Int×Int)×Addr)) (H:Hp) (as us:List ((Nat×Nat)×Addr)):Prop where
 sm:Same H0 H
 hQ:QsAt rP H P qs
 hA:QsAt rT H A as
 hU:QsAt rT H U us
 la:as.length≤m
 lu:us.length≤k
 ba:∀q∈as,q.1.1<n∧q.1.2<n
 bu:∀q∈us,q.1.1<n∧q.1.2<n
section
variable {H0:Hp} {P A p:Addr} {n m k:Nat} {as us:List ((Nat×Nat)×Addr)} {x:Nat×Nat}
theorem LT.mono (h:LT H0 P A U n m k qs H as us) (s:Same H H'):LT H0 P A U n m k qs H' as us:=⟨h.sm.trans s,h.hQ.mono s,h.hA.mono s,h.hU.mono s,h.la,h.lu,h.ba,h.bu⟩
theorem LT.le (h:LT H0 P A U n m k qs H as us) {m' k':Nat} (a:m≤m') (b:k≤k'):LT H0 P A U n m' k' qs H as us:=⟨h.sm,h.hQ,h.hA,h.hU,Qk h.la a,Qk h.lu b,h.ba,h.bu⟩
theorem LT.putA (h:LT H0 P A U n m k qs H as us) (nA:H0 A=none) (PA:P≠A) (UA:U≠A) (hp:H p=some (.tup (rT x))) (hx:x.1<n∧x.2<n):LT H0 P A U n (m+1) k qs (_c H A (.lst (as.map (fun q=>V.ref q.2)++[.ref p]))) (as++[(x,p)]) us :=
 ⟨fun b u e=>by rw [_d (fun z=>by rw [z,nA] at e;cases e)];exact h.sm _ _ e,h.hQ.other h.hA.1 PA,h.hA.put hp,h.hU.other h.hA.1 UA,by rw [Qm];exact Nn h.la,h.lu,fun q hq=>by
  rcases Qh.mp hq with hq|hq
  ·exact h.ba q hq
  ·rw [Qr.mp hq];exact hx,h.bu⟩
theorem LT.putU (h:LT H0 P A U n m k qs H as us) (nU:H0 U=none) (PU:P≠U) (AU:A≠U) (hp:H p=some (.tup (rT x))) (hx:x.1<n∧x.2<n):LT H0 P A U n m (k+1) qs (_c H U (.lst (us.map (fun q=>V.ref q.2)++[.ref p]))) as (us++[(x,p)]) :=
 ⟨fun b u e=>by rw [_d (fun z=>by rw [z,nU] at e;cases e)];exact h.sm _ _ e,h.hQ.other h.hU.1 PU,h.hA.other h.hU.1 AU,h.hU.put hp,h.la,by rw [Qm];exact Nn h.lu,h.ba,fun q hq=>by
  rcases Qh.mp hq with hq|hq
  ·exact h.bu q hq
  ·rw [Qr.mp hq];exact hx⟩
theorem LT.ld (h:LT H0 P A U n m k qs H as us) (ha:H a=some (.tup [.ref P,.ref A,.ref U])):LdAt K H a ⟨qs.map (·.1),as.map (·.1),us.map (·.1)⟩:=⟨P,A,U,.of ha,h.hQ.pes,h.hA.prs,h.hU.prs⟩
theorem LT.ok (h:LT H0 P A U n m k qs H as us) (e:qs.length=n) (n1:1≤n) (n6:n≤6) (m5:m≤5) (k5:k≤5) (po:PO (qs.map (·.1))):LOk ⟨qs.map (·.1),as.map (·.1),us.map (·.1)⟩ where
 n1:=by show 1≤(qs.map _).length;rw [Qc,e];exact n1
 n6:=by show (qs.map _).length≤6;rw [Qc,e];exact n6
 up:=PO.up (L:=⟨qs.map (·.1),as.map (·.1),us.map (·.1)⟩) po
 ta:=fun p hp=>by
  obtain ⟨q,hq,rfl⟩:=Qg.mp hp;show _<(qs.map _).length∧_<(qs.map _).length;rw [Qc,e];exact h.ba q hq
 un:=fun p hp=>by
  obtain ⟨q,hq,rfl⟩:=Qg.mp hp;show _<(qs.map _).length∧_<(qs.map _).length;rw [Qc,e];exact h.bu q hq
 t5:=by show (as.map _).length≤450;rw [Qc];exact Qk h.la (Qk m5 (by decide))
 u5:=by show (us.map _).length≤450;rw [Qc];exact Qk h.lu (Qk k5 (by decide))
end
def Cn (t:Tr):Prop:=∀S:Nat->Prop,(∀s∈_o.take 7,∀x y,S x->RT t s x y->S y)->∀i,i<t.days.length->(S 0↔S i)
theorem _p8 {t:Tr} (hs:s∈_o):(t.go s).days.length=t.days.length∨((t.go s).days.length=t.days.length+1∧(t.go s).here=t.days.length∧s∈_o.take 7):=by
 rcases Wc hs with c|c|c|rfl|rfl|rfl
 ·rw [Jq t c,(Yy t t.here s).1];exact .inl rfl
 ·rw [_ai t c];unfold Tr.goUp;split
  ·exact .inl rfl
  ·refine .inr ⟨?_,?_,by rcases c with rfl|rfl<;>trivial⟩
   ·rw [(Yy _ _ _).1];exact Y5 t _
   ·rw [(Yy _ _ _).2.2.2.2.1];rfl
 ·rw [JR t c];refine .inr ⟨?_,?_,by rcases c with rfl|rfl<;>trivial⟩
  ·show ((t.ask t.here (_K (_x s))).grow 1).days.length=_;rw [Y5,(Yy _ _ _).1]
  ·show (t.ask t.here (_K (_x s))).days.length=_;rw [(Yy _ _ _).1]
 ·rw [_bC];exact .inr ⟨Y5 t _,rfl,by trivial⟩
 ·rw [_ba];exact .inr ⟨Y5 t _,rfl,by trivial⟩
 ·rw [_ap];exact .inr ⟨Y5 t _,rfl,by trivial⟩
theorem Cn.go {t:Tr} {k:Nat} (h:TI t k) (c:Cn t) (hs:s∈_o) (hc:(t.go s).clash=false):Cn (t.go s):=fun S cl i hi=>by
 obtain ⟨ti,sub,r⟩:=_aG h hs;have old:=c S fun s' hs' x y sx r'=>cl s' hs' x y sx (RT.mono sub (Ru hs') r');rcases _p8 (t:=t) hs with e|⟨e,e2,s7⟩
 ·exact old i (by omega)
 ·by_cases il:i<t.days.length
  ·exact old i il
  ·obtain rfl:i=t.days.length:=by omega
   have r':=r hc;rw [e2] at r';have back:=(_gj ti hc).sym s hs _ _ r';have b7:Yu s∈_o.take 7:=(show ∀s∈_o.take 7,Yu s∈_o.take 7 by trivial) s s7;exact (old t.here h.he).trans ⟨fun z=>cl s s7 _ _ z r',fun z=>cl _ b7 _ _ z back⟩
theorem _iF:∀{w:List Str} {t:Tr} {k:Nat},TI t k->Cn t->(∀s∈w,s∈_o)->(w.foldl Tr.go t).clash=false->Cn (w.foldl Tr.go t)
 |[],t,k,_,c,_,_=>c
 |s::w,t,k,h,c,h9,hc=>by
  have hs:=h9 s (by simp);obtain ⟨ti,sub,r⟩:=_aG h hs;obtain ⟨_,sub2,_⟩:=_aH ti (w:=w) fun x hx=>h9 x (by simp [hx]);exact _iF (t:=t.go s) (w:=w) ti (Cn.go h c hs (sub2.cl hc)) (fun x hx=>h9 x (by simp [hx])) hc
theorem _lw {w:List Str} (h9:∀s∈w,s∈_o) (hc:(_6 w).clash=false):Cn (_6 w):=_iF TI.start (fun S _ i hi=>by
 obtain rfl:i=0:=by have:Uc.days.length=1:=rfl;omega
 exact Q0) h9 hc
theorem _k9 (v:VR R) {w:List Str} (h9:∀s∈w,s∈_o) (h:WT R w i j):(_6 w).clash=false:=by
 obtain ⟨ψ,g,_⟩:=Hom.way v (φ:=fun _=>i) TI.start ⟨fun q hq=>(by cases hq),fun q hq=>(by cases hq),fun q hq=>(by cases hq),fun j hj=>absurd (by cases j<;>rfl) hj,rfl⟩ h9 h;exact g.cl
def Wu (t:Tr) (l:Str) (i:Nat) (u:Int):Prop:=(u=-1∧∀j,((l,i),j)∉t.par)∨∃j:Nat,u=j∧((l,i),j)∈t.par
structure LdT (t:Tr) (L:Ld):Prop where
 pe:∀i,i<t.days.length->∃p,L.pe[i]?=some p∧p.1=t.sorts.getD i ""∧Wu t "F" i p.2.1∧Wu t "M" i p.2.2
 n:L.pe.length=t.days.length
 ta:∀p,p∈L.ta↔p∈t.tak
 un:∀p,p∈L.un↔p∈t.uni
section
variable {t:Tr} {k:Nat} {L:Ld}
theorem LdT.up (h:LdT t L) (ti:TI t k) {l:Str} (hl:l="F"∨l="M"):L.up l i=j↔((l,i),j)∈t.par:=by
 by_cases il:i<t.days.length
 ·obtain ⟨p,hp,_,a,b⟩:=h.pe i il
  have u:Wu t l i (L.up l i):=by
   unfold Ld.up;rw [hp];rcases hl with rfl|rfl
   ·exact a
   ·exact b
  rcases u with ⟨e,no⟩|⟨j',e,m⟩
  ·exact ⟨fun z=>by omega,fun z=>absurd z (no j)⟩
  ·refine ⟨fun z=>?_,fun z=>?_⟩
   ·obtain rfl:j'=j:=by omega
    exact m
   ·have z1:=(WN ti).mpr m;rw [(WN ti).mpr z] at z1;rw [e,Qn z1]
 ·refine ⟨fun z=>absurd (Jw z) (by rw [h.n];exact il),fun z=>absurd (ti.pn _ z).1 il⟩
theorem LdT.so (h:LdT t L) (ti:TI t k) (i:Nat):L.so i=t.sorts.getD i "":=by
 by_cases il:i<t.days.length
 ·obtain ⟨p,hp,e,_⟩:=h.pe i il;unfold Ld.so;rw [hp,←e];rfl
 ·unfold Ld.so;rw [RN (by rw [h.n];omega),QQ,RN (by rw [ti.len];omega)];rfl
theorem LdT.rl (h:LdT t L) (ti:TI t k) (hs:s∈_o):RL L s i j↔RT t s i j:=by
 rcases Wc hs with c|c|c|rfl|rfl|rfl
 ·rw [X3 c,Xp c,h.so ti]
 ·rw [XQ c,Xc c,h.up ti c]
 ·rw [JZ c,Ve c,h.up ti (by rcases c with rfl|rfl<;>decide)]
 ·rw [J3,Wo,h.ta]
 ·rw [U5,Vh,h.ta]
 ·rw [JW,XZ,h.un,h.un]
theorem LdT.ok (h:LdT t L) (ti:TI t k) (hc:t.clash=false) (n6:t.days.length≤6) (t5:L.ta.length≤450) (u5:L.un.length≤450):LOk L where
 n1:=by rw [h.n];exact Rt (QT _) ti.he
 n6:=by rw [h.n];exact n6
 up:=fun l hl i j e=>by rw [h.so ti];exact (ti.pn _ ((h.up ti hl).mp e)).2.2.2.2 hc
 ta:=fun p hp=>by rw [h.n];have:=ti.tk p ((h.ta p).mp hp);exact ⟨this.1,this.2.1⟩
 un:=fun p hp=>by rw [h.n];have:=ti.un p ((h.un p).mp hp);omega
 t5:=t5
 u5:=u5
theorem LdT.wt (h:LdT t L) (ti:TI t k):∀{w:List Str} {i j:Nat},(∀s∈w,s∈_o)->(WT (RL L) w i j↔WT (RT t) w i j)
 |[],_,_,_=>Q0
 |s::w,i,j,h9=>exists_congr fun m=>and_congr (h.rl ti (h9 s (by simp))) (LdT.wt h ti fun x hx=>h9 x (by simp [hx]))
end
structure NW (L:Ld) (i0:Nat) (op:Nat->Prop) (rs:List (Nat×List Str×Addr)):Prop where
 st:i0∈rs.map (·.1)
 wt:∀q∈rs,WT (RL L) q.2.1 i0 q.1
 cl:∀x∈rs.map (·.1),op x∨∀s∈_o.take 7,∀y,RL L s x y->y∈rs.map (·.1)
def _an (L:Ld) (i j:Nat):Prop:=∀S:Nat->Prop,S i->(∀s∈_o.take 7,∀x y,S x->RL L s x y->S y)->S j
section
variable {L:Ld} {i0:Nat} {op op':Nat->Prop}
theorem _az {w:List Str} {p:Addr} {y:Nat} (h:y∈rs.map (·.1)):y∈(rs++[(z,w,p)]).map (·.1):=by rw [Qo];exact QY _ h
theorem _pk {w:List Str} {p:Addr}:z∈(rs++[(z,w,p)]).map (·.1):=by rw [Qo];exact QL _ (by simp)
theorem NW.weak (h:NW L i0 op rs) (f:∀x,op x->op' x∨∀s∈_o.take 7,∀y,RL L s x y->y∈rs.map (·.1)):NW L i0 op' rs:=⟨h.st,h.wt,fun x hx=>(h.cl x hx).elim (f x) .inr⟩
theorem NW.put (h:NW L i0 op rs) {w:List Str} {p:Addr} (hw:WT (RL L) w i0 z) (f:∀x,op x->op' x) (hz:op' z):NW L i0 op' (rs++[(z,w,p)]):=by
 refine ⟨_az h.st,fun q hq=>?_,fun x hx=>?_⟩
 ·rcases Qh.mp hq with hq|hq
  ·exact h.wt q hq
  ·rw [Qr.mp hq];exact hw
 ·rw [Qo] at hx;rcases Qh.mp hx with hx|hx
  ·exact (h.cl x hx).imp (f x) fun c s hs y r=>_az (c s hs y r)
  ·rw [show x=z by simpa using hx];exact .inl hz
theorem NW.all (h:NW L i0 (fun _=>False) rs) (c:_an L i0 j):j∈rs.map (·.1):=c (·∈rs.map (·.1)) h.st fun s hs x y hx r=>((h.cl x hx).resolve_left id) s hs y r
end
theorem Jk {ups:List Int} (h:ups.length=2):∃u1 u2,ups=[u1,u2]:=by
 obtain _|⟨a,_|⟨b,_|⟨c,l⟩⟩⟩:=ups
 ·cases h
 ·cases h
 ·exact ⟨a,b,rfl⟩
 ·simp at h
structure Fr3 (H1:Hp) (P A U:Addr):Prop where
 nP:H1 P=none
 nA:H1 A=none
 nU:H1 U=none
 pa:P≠A
 pu:P≠U
 au:A≠U
structure LF (t:Tr) (H1:Hp) (P A U:Addr) (i m k:Nat) (PT PU:Nat×Nat->Prop) (H:Hp) (qs:List ((Str×Int×Int)×Addr)) (as us:List ((Nat×Nat)×Addr)):Prop where
 sm:Same H1 H
 hQ:QsAt rP H P qs
 hA:QsAt rT H A as
 hU:QsAt rT H U us
 lq:qs.length=i
 pe:∀(j:Nat) q,qs[j]?=some q->q.1.1=t.sorts.getD j ""∧Wu t "F" j q.1.2.1∧Wu t "M" j q.1.2.2
 ta:∀p,p∈as.map (·.1)↔PT p
 un:∀p,p∈us.map (·.1)↔PU p
 la:as.length≤m
 lu:us.length≤k
section
variable {t:Tr} {H1:Hp} {P A p:Addr} {m k:Nat} {PT PU:Nat×Nat->Prop} {as us:List ((Nat×Nat)×Addr)}
theorem LF.mono (h:LF t H1 P A U i m k PT PU H qs as us) (s:Same H H'):LF t H1 P A U i m k PT PU H' qs as us:=⟨h.sm.trans s,h.hQ.mono s,h.hA.mono s,h.hU.mono s,h.lq,h.pe,h.ta,h.un,h.la,h.lu⟩
theorem LF.cast (h:LF t H1 P A U i m k PT PU H qs as us) {m' k':Nat} {PT' PU':Nat×Nat->Prop} (lm:m≤m') (lk:k≤k') (a:∀p,PT p↔PT' p) (u:∀p,PU p↔PU' p):LF t H1 P A U i m' k' PT' PU' H qs as us:=⟨h.sm,h.hQ,h.hA,h.hU,h.lq,h.pe,fun p=>(h.ta p).trans (a p),fun p=>(h.un p).trans (u p),Qk h.la lm,Qk h.lu lk⟩
theorem _jd {α β:Type} {as:List (α×β)} {x:α} {y:β} {p:α}:p∈(as++[(x,y)]).map (·.1)↔p∈as.map (·.1)∨p=x:=by simp
theorem _aA (h:Same H1 H) (n:H1 a=none):Same H1 (_c H a o):=fun b u e=>by rw [_d (_t e n)];exact h _ _ e
theorem LF.addP (h:LF t H1 P A U i m k PT PU H qs as us) (f:Fr3 H1 P A U) {x:Str×Int×Int} (hp:H p=some (.tup (rP x))) (h0:x.1=t.sorts.getD i "") (hF:Wu t "F" i x.2.1) (hM:Wu t "M" i x.2.2):LF t H1 P A U (i+1) m k PT PU (_c H P (.lst (qs.map (fun q=>V.ref q.2)++[.ref p]))) (qs++[(x,p)]) as us :=
 ⟨_aA h.sm f.nP,h.hQ.put hp,h.hA.other h.hQ.1 f.pa.symm,h.hU.other h.hQ.1 f.pu.symm,by rw [Qm,h.lq];rfl,fun j q e=>by
  by_cases jl:j<qs.length
  ·rw [RE jl] at e;exact h.pe j q e
  ·have e1:=(Qz.mp e).1;rw [Qm,Rs] at e1;obtain rfl:j=qs.length:=by omega
   rw [Rp (Qe _),GJ] at e;obtain rfl:(x,p)=q:=Qn e;rw [h.lq];exact ⟨h0,hF,hM⟩,h.ta,h.un,h.la,h.lu⟩
theorem LF.addT (h:LF t H1 P A U i m k PT PU H qs as us) (f:Fr3 H1 P A U) {x:Nat×Nat} (hp:H p=some (.tup (rT x))):LF t H1 P A U i (m+1) k (fun p=>PT p∨p=x) PU (_c H A (.lst (as.map (fun q=>V.ref q.2)++[.ref p]))) qs (as++[(x,p)]) us :=
 ⟨_aA h.sm f.nA,h.hQ.other h.hA.1 f.pa,h.hA.put hp,h.hU.other h.hA.1 f.au.symm,h.lq,h.pe,fun q=>_jd.trans (Gp (h.ta q) Q0),h.un,by rw [Qm];exact Nn h.la,h.lu⟩
theorem LF.addU (h:LF t H1 P A U i m k PT PU H qs as us) (f:Fr3 H1 P A U) {x:Nat×Nat} (hp:H p=some (.tup (rT x))):LF t H1 P A U i m (k+1) PT (fun p=>PU p∨p=x) (_c H U (.lst (us.map (fun q=>V.ref q.2)++[.ref p]))) qs as (us++[(x,p)]) :=
 ⟨_aA h.sm f.nU,h.hQ.other h.hU.1 f.pu,h.hA.other h.hU.1 f.au,h.hU.put hp,h.lq,h.pe,h.ta,fun q=>_jd.trans (Gp (h.un q) Q0),h.la,by rw [Qm];exact Nn h.lu⟩
theorem LF.off (h:LF t H1 P A U i m k PT PU H qs as us) (f:Fr3 H1 P A U) (ha:H a=some (.lst ys)) (n:H1 a=none) (n3:P≠a∧A≠a∧U≠a):LF t H1 P A U i m k PT PU (_c H a o) qs as us:=⟨_aA h.sm n,h.hQ.other ha n3.1,h.hA.other ha n3.2.1,h.hU.other ha n3.2.2,h.lq,h.pe,h.ta,h.un,h.la,h.lu⟩
theorem LF.ne3 (h:LF t H1 P A U i m k PT PU H qs as us) (n:H a=none):P≠a∧A≠a∧U≠a:=⟨_t h.hQ.1 n,_t h.hA.1 n,_t h.hU.1 n⟩
theorem LF.ld (h:LF t H1 P A U i m k PT PU H qs as us) (ha:H a=some (.tup [.ref P,.ref A,.ref U])):LdAt K H a ⟨qs.map (·.1),as.map (·.1),us.map (·.1)⟩:=⟨P,A,U,.of ha,h.hQ.pes,h.hA.prs,h.hU.prs⟩
theorem LF.ldT {k0:Nat} (ti:TI t k0) (h:LF t H1 P A U t.days.length m k (fun p=>p∈t.tak∧p.1<t.days.length) (fun p=>p∈t.uni∧p.1<t.days.length) H qs as us):LdT t ⟨qs.map (·.1),as.map (·.1),us.map (·.1)⟩ where
 pe:=fun i hi=>by
  have e:=Qt (l:=qs) (i:=i) (by rw [h.lq];exact hi);exact ⟨_,by show (qs.map (·.1))[i]?=_;rw [Qp,e];rfl,h.pe i _ e⟩
 n:=by show (qs.map _).length=_;rw [Qc,h.lq]
 ta:=fun p=>(h.ta p).trans ⟨fun z=>z.1,fun z=>⟨z,(ti.tk p z).1⟩⟩
 un:=fun p=>(h.un p).trans ⟨fun z=>z.1,fun z=>⟨z,by have:=ti.un p z;omega⟩⟩
theorem VT (h:j<t.days.length):(_0 t)[j]?=some (_e j):=by unfold _0;rw [Qp,Ng h];rfl
theorem U7 {m:Nat} (h:j<t.days.length) (l:m<j):(_0 t)[m]?≠some (_e j):=by
 rw [VT (by omega)];intro z;have:=YS (Qn z);omega
theorem _da (i j:Nat):decide ((_e i).cps.toList<(_e j).cps.toList)=decide (i<j):=by
 refine decide_eq_decide.mpr ?_;show [97,97+i]<[97,97+j]↔_;simp [List.cons_lt_cons_iff]
theorem _hl {P:Nat->Prop}:∀{zs:List Str},(∀x∈zs,∃j,x=_e j∧P j)->∃js:List Nat,zs=js.map _e
 |[],_=>⟨[],rfl⟩
 |z::zs,h=>by
  obtain ⟨j,e,_⟩:=h z (by simp);obtain ⟨js,e2⟩:=_hl (zs:=zs) (P:=P) fun x hx=>h x (by simp [hx]);exact ⟨j::js,by rw [e,e2];rfl⟩
theorem _b4 (bt:BT t B) {l:Str} (hl:l∈_o.take 7) (hi:i<t.days.length):∃js:List Nat,Yj B l (_e i)=js.map _e∧(∀j,j∈js↔j<t.days.length∧RT t l i j)∧js.length≤75:=by
 have e:Yo B l (_e i)=Yj B l (_e i):=by
  unfold Yo;rw [Qa];exact (show ∀l∈_o.take 7,¬Vr l=true by trivial) l hl
 have h:=bt.led l (Ru hl) i hi;rw [e] at h
 obtain ⟨js,ej⟩:=_hl (P:=fun j=>RT t l i j) (zs:=Yj B l (_e i)) fun x hx=>by
  obtain ⟨j,_,a,b⟩:=(h x).mp hx;exact ⟨j,a,b⟩
 refine ⟨js,ej,fun j=>?_,by have:=bt.lb l (_e i);rw [ej,Qc] at this;exact this⟩;have:=h (_e j);rw [ej] at this;refine ⟨fun m=>?_,fun m=>?_⟩
 ·obtain ⟨j',a,b,c⟩:=this.mp (GI m);rw [YS b];exact ⟨a,c⟩
 ·obtain ⟨j',a,b⟩:=Qg.mp (this.mpr ⟨j,m.1,rfl,m.2⟩);rw [←YS b];exact a
theorem Vm {js:List Nat} {l:Nat} (h:js[l]?=some j) {x:Nat}:x∈js.take (l+1)↔x∈js.take l∨x=j:=by rw [RM,h];simp
theorem _oI:(_0 t).Pairwise fun a b=>YA a b=true:=by
 unfold _0;rw [Gj];refine (List.pairwise_lt_range).imp fun {a b} h=>?_;show (!decide ((_e b).cps.toList<(_e a).cps.toList))=true;rw [_da,Qs (by omega)];rfl
theorem _gB (bt:BT t B):_A (Y1 B.kept)=_0 t:=Jp ((Wh _).trans bt.bn) (V2 _) _oI
end
theorem _jW {w:List Str} {L:Ld} (h9:∀s∈w,s∈_o) (hc:(_6 w).clash=false) (h:LdT (_6 w) L) (hi:i<L.pe.length) (hj:j<(_6 w).days.length):_an L i j:=fun S si cl=>by
 have ti:=Ui h9;have c:=_lw h9 hc S fun s hs x y sx r=>cl s hs x y sx ((h.rl ti (Ru hs)).mpr r);rw [h.n] at hi;exact (c j hj).mp ((c i hi).mpr si)
theorem _iL (ns:List Int) (a b:Nat):∃cs:List Int,YG (ns.map V.int) (some (a:Int)) (some (b:Int))=cs.map V.int∧cs.length≤b-a:=by
 obtain ⟨cs,e,l⟩:=_fF ns (some (a:Int)) (some (b:Int));rw [HT.sIx_nat,HT.sIx_nat] at l;refine ⟨cs,e,l▸Qk (No _ _) ?_⟩;clear l;omega
theorem _fk (ns:List Int) (b:Nat):∃cs:List Int,YG (ns.map V.int) none (some (b:Int))=cs.map V.int∧cs.length≤b∧(1≤b->1≤ns.length->1≤cs.length):=by
 obtain ⟨cs,e,l⟩:=_fF ns none (some (b:Int));rw [HT.sIx_nat,HT.sIx_none] at l;exact ⟨cs,e,l▸Qk (No _ _) (No _ _),fun h1 h2=>l▸Nat.le_min.mpr ⟨Nat.le_min.mpr ⟨h1,h2⟩,h2⟩⟩
theorem _mb (ns:List Int) (a b:Nat) (h:ns.length≤a+b):∃cs:List Int,YG (ns.map V.int) (some (a:Int)) none=cs.map V.int∧cs.length≤b:=by
 obtain ⟨cs,e,l⟩:=_fF ns (some (a:Int)) none;rw [HT.sIx_nat,HT.sIx_none] at l;refine ⟨cs,e,l▸Qk (No _ _) ?_⟩;clear l;omega
section
variable {w:World} {mg:Str->Option Value}
theorem _lR:FnScope ["thing"] ["thing"] (_r _eI):=_J
def _kl (T:Tx K w mg):Sp:=fun vs H Q E=>vs.length=1∧(∃x t,vs=[x]∧Vw K H x t∧∀H',Same H H'->Q (.bl (Vk.isI t)) H')
theorem _oR:FnScope ["thing"] ["thing"] (_r _bE):=_J
def _ho (T:Tx K w mg):Sp:=fun vs H Q E=>vs.length=1∧(∃x t,vs=[x]∧Vw K H x t∧∀H',Same H H'->Q (.bl (WR t)) H')
theorem _pp:FnScope ["thing"] ["thing"] (_r _b2):=_J
def _ig (T:Tx K w mg):Sp:=fun vs H Q E=>vs.length=1∧(∃x t,vs=[x]∧Vw K H x t∧∀H',Same H H'->Q (.bl (_d4 t)) H')
theorem _jI:FnScope ["thing"] ["thing"] (_r _cA):=_J
def _fP (T:Tx K w mg):Sp:=fun vs H Q E=>vs.length=1∧(∃x t,vs=[x]∧Vw K H x t∧∀H',Same H H'->Q (.bl (_bU t)) H')
theorem _o5:FnScope ["thing"] ["thing"] (_r _fh):=_J
def _i7 (T:Tx K w mg):Sp:=fun vs H Q E=>vs.length=1∧(∃x t,vs=[x]∧Vw K H x t∧∀H',Same H H'->Q (.bl (Ua t)) H')
theorem _o1:FnScope ["thing"] ["thing"] (_r _c7):=_J
def _ga (T:Tx K w mg):Sp:=fun vs H Q E=>vs.length=1∧(∃x t,vs=[x]∧Vw K H x t∧∀H',Same H H'->Q (.bl (JU t)) H')
theorem _ql:FnScope ["parts","checks"] ["parts","checks"] (_r _cS):=_J
def _kX (T:Tx K w mg):Sp:=fun vs H Q E=>vs.length=2∧(∃a b xs ts cs,vs=[.ref a,.ref b]∧SqT K H a xs∧Vws K H xs ts∧SqT K H b (cs.map fun c=>.ref (T.ad c))∧cs.length≤10∧∀H',Same H H'->Q (.bl (Wb cs ts)) H')
theorem _dM:FnScope ["thing","word","checks"] ["thing"] (_r _eW):=_J
def _mg (T:Tx K w mg):Sp:=fun vs H Q E=>vs.length=1∧(∃x,vs=[x]∧((∃t,Vw K H x t∧t.isT=false∧∀H',Same H H'->Q (.bl false) H')∨∃ts,Tv K H x ts∧ts.length≤10∧∀H',Same H H'->Q (.bl (V5 ts)) H'))
theorem _oq:FnScope ["entry"] ["entry"] (_r _e6):=_J
def _n1 (T:Tx K w mg):Sp:=fun vs H Q E=>vs.length=1∧(∃v e,vs=[v]∧EntAt K H v e∧∀H',Same H H'->Q (.bl e.tie) H')
theorem _jG:FnScope ["entry"] ["entry"] (_r _d2):=_J
def _oy (T:Tx K w mg):Sp:=fun vs H Q E=>vs.length=1∧(∃v e,vs=[v]∧EntAt K H v e∧∀H' D,Same H H'->H D=none->SqL K H' D (e.named.map V.str)->Q (.ref D) H')
theorem _pC:FnScope ["entry"] ["entry"] (_r _b7):=_J
def _mH (T:Tx K w mg):Sp:=fun vs H Q E=>vs.length=1∧(∃v e,vs=[v]∧EntAt K H v e∧Q (.int e.day) H)
theorem _f5:FnScope ["entry","names"] ["entry"] (_r _fx):=_J
def _j5 (T:Tx K w mg):Sp:=fun vs H Q E=>vs.length=1∧(∃v e,vs=[v]∧EntAt K H v e∧∀H' u,Same H H'->EntAt K H' u e.told->Q u H')
theorem _nn:FnScope ["entry"] ["entry"] (_r _fz):=_J
def _ke (T:Tx K w mg):Sp:=fun vs H Q E=>vs.length=1∧(∃v e,vs=[v]∧EntAt K H v e∧∀H' p,Same H H'->H p=none->H' p=some (.tup (e.told.key.map kV))->Q (.ref p) H')
theorem _ju:FnScope ["thing"] ["thing"] (_r _es):=_J
def _oU (T:Tx K w mg):Sp:=fun vs H Q E=>vs.length=1∧(∃x,vs=[x]∧((∃ty,Kd K H x ty∧W.kitOne K ty (.type "str")=some false∧Q (.bl false) H)∨∃l,x=.str l∧Q (.bl (WX l)) H))
theorem _lf:FnScope ["one","other"] ["one","other"] (_r _bW):=_J
def _oK (T:Tx K w mg):Sp:=fun vs H Q E=>vs.length=2∧(∃a b,vs=[.str a,.str b]∧∀H' p,Same H H'->H p=none->H' p=some (.tup [.str (_g a b).1,.str (_g a b).2])->Q (.ref p) H')
theorem _oA:FnScope ["self"] ["self"] (_r _fB):=_J
def _jL (T:Tx K w mg):Sp:=fun vs H Q E=>vs.length=1∧(∃b dx,vs=[.ref b]∧H b=some (.ins T.cB dx [])∧∀H' k bi li ti su,BkAt K T.cB H' b dx k bi li ti su W3->(∀c o,H c=some o->c≠b->H' c=some o)->H k=none->H bi=none->H li=none->H ti=none->H su=none->Q .non H')
theorem _nj:FnScope ["self","name"] ["self","name"] (_r _cX):=_J
def _mC (T:Tx K w mg):Sp:=fun vs H Q E=>vs.length=2∧(∃v x B,vs=[v,x]∧BkHas K T.cB H v B∧(False∨∃n,x=.str n∧(_3 n B.kept=none->False)∧∀p,_3 n B.kept=some p->Q (.ref p.2) H))
theorem _km:FnScope ["self","name"] ["self","name"] (_r _em):=_J
def _os (T:Tx K w mg):Sp:=fun vs H Q E=>vs.length=2∧(∃v x B,vs=[v,x]∧BkHas K T.cB H v B∧(False∨∃n,x=.str n∧(_3 n B.kept=none->False)∧∀p,_3 n B.kept=some p->∀n' s d f m,p.1=.born n' s d f m->Q (.str s) H))
theorem _qz:FnScope ["self","name"] ["self","name"] (_r _eX):=_J
def _l9 (T:Tx K w mg):Sp:=fun vs H Q E=>vs.length=2∧(∃v x B,vs=[v,x]∧BkHas K T.cB H v B∧(False∨∃n,x=.str n∧(_3 n B.kept=none->False)∧∀p,_3 n B.kept=some p->∀n' s d f m,p.1=.born n' s d f m->Q (.int d) H))
theorem _nc:FnScope ["self","name","sort","day"] ["self","name","sort","day"] (_r _dH):=_J
def _jA (T:Tx K w mg):Sp:=fun vs H Q E=>vs.length=4∧(∃v n s d B,vs=[v,.str n,.str s,.int d]∧BkHas K T.cB H v B∧(n≠""->Known B n)∧Q (.bl (XN B n s d)) H)
theorem _hb:FnScope ["self","entry","names"] ["self","entry"] (_r _cF):=_J
def _jQ (T:Tx K w mg):Sp:=fun vs H Q E=>vs.length=2∧(∃v x B e,vs=[v,x]∧BkHas K T.cB H v B∧EntAt K H x e∧(∀n∈e.named,Known B n)∧∀H',Same H H'->Q (.bl (WH B e)) H')
theorem _gS:FnScope ["self","entry","name"] ["self","entry"] (_r _ea):=_J
def _jO (T:Tx K w mg):Sp:=fun vs H Q E=>vs.length=2∧(∃v x B e,vs=[v,x]∧BkHas K T.cB H v B∧EntAt K H x e∧e.Ok∧X2 B e=none∧∀H',Same H H'->Q .non H')
theorem _ne:FnScope ["self","letter","begin","end"] ["self","letter","begin","end"] (_r _eE):=_J
def _m7 (T:Tx K w mg):Sp:=fun vs H Q E=>vs.length=4∧(∃b dx k bi li ti su B l n m,vs=[.ref b,.str l,.str n,.str m]∧BkAt K T.cB H b dx k bi li ti su B∧(Yj B l n).length≤61∧B.links.length≤900∧∀H' D,BkAt K T.cB H' b dx k bi li ti su { B with links:=putA B.links (l,n) (D,_A (Yj B l n++[m])) }->But [li] H H'->H D=none->Q .non H')
theorem _nA:FnScope ["self","entry"] ["self","entry"] (_r _fo):=_J
def _pD (T:Tx K w mg):Sp:=fun vs H Q E=>vs.length=2∧(∃b dx k bi li ti su B0 B n s d f m a,vs=[.ref b,.ref a]∧B.kept=B0++[(.born n s d f m,a)]∧H b=some (.ins T.cB dx (Vx k bi li ti su))∧H bi=some (.dK (Bk.bornD B0))∧_3 n B0=none∧B0.length≤900∧SqT K H a ((Ent.born n s d f m).row.map kV)∧BkAt K T.cB (_c H bi (.dK (Bk.bornD B.kept))) b dx k bi li ti su B∧B.links.length≤890∧(∀c,(lk B.links c).length≤61)∧∀H' ls,BkAt K T.cB H' b dx k bi li ti su { B with links:=ls }->(∀c,lk ls c=Xm (lk B.links) n f m c)->ls.length≤B.links.length+4->But [bi,li] H H'->Grows H B.links ls->Q .non H')
theorem _le:FnScope ["self","letter","name"] ["self","letter","name"] (_r _b6):=_J
def _kn (T:Tx K w mg):Sp:=fun vs H Q E=>vs.length=3∧(∃v x y B,vs=[v,x,y]∧BkHas K T.cB H v B∧(False∨∃l,x=.str l∧(WX l=false->False)∧(WX l=true->(False∨∃n,y=.str n∧(_3 n B.kept=none->False)∧(Known B n->∀H' D,Same H H'->H D=none->H' D=some (.lst ((Yj B l n).map V.str))->Q (.ref D) H')))))
theorem _eA:FnScope ["self","one","other","day","ties","days"] ["self","one","other","day"] (_r Wv):=_J
def _pA (T:Tx K w mg):Sp:=fun vs H Q E=>vs.length=4∧(∃v a c B,vs=[v,.str a,.str c,.non]∧BkHas K T.cB H v B∧Known B a∧Known B c∧(Yv B (_g a c)).length≤900∧∀H',Same H H'->Q (.bl (_a5 B a c)) H')
theorem _av:FnScope ["self","entry","days","begin","end"] ["self","entry"] (_r _bJ):=_J
def _mG (T:Tx K w mg):Sp:=fun vs H Q E=>vs.length=2∧(∃b dx k bi li ti su B a kd p1 p2 d,vs=[.ref b,.ref a]∧SqT K H a [.str kd,.str p1,.str p2,.int d]∧BkAt K T.cB H b dx k bi li ti su B∧Known B p1∧Known B p2∧(B.ties.map (·.1)).Nodup∧B.ties.length≤800∧(Yv B (_g p1 p2)).length≤800∧B.links.length≤880∧(∀c,(lk B.links c).length≤60)∧∀H' ls ts y,BkAt K T.cB H' b dx k bi li ti su { B with links:=ls,ties:=ts }->(ts.map (·.1)).Nodup->ts.length≤B.ties.length+1->(∀c,YZ ts c=if c=_g p1 p2 then putA (Yv B (_g p1 p2)) d kd else Yv B c)->(∀c,lk ls c=_O (_O (lk B.links) (YX (putA (Yv B (_g p1 p2)) d kd)) p1 p2) (YX (putA (Yv B (_g p1 p2)) d kd)) p2 p1 c)->ls.length≤B.links.length+4->But [li,ti,y] H H'->(H y=none∨y∈B.ties.map (·.2.1))->GrowsT H B.ties ts->Grows H B.links ls->Q .non H')
theorem _dZ:FnScope ["self","entry","told","given"] ["self","entry"] (_r _eL):=_J
def _k2 (T:Tx K w mg):Sp:=fun vs H Q E=>vs.length=2∧(∃b dx k bi li ti su B x e,vs=[.ref b,x]∧BkAt K T.cB H b dx k bi li ti su B∧EntAt K H x e∧e.Ok∧X2 B e=none∧Room1 B∧∀H' B' y,BkAt K T.cB H' b dx k bi li ti su B'->Put B e B'->But [k,bi,li,ti,su,y] H H'->(H y=none∨y=bi∨y∈B.ties.map (·.2.1))->Grows H B.links B'.links->GrowsT H B.ties B'.ties->Q .non H')
theorem _kQ:FnScope ["self"] ["self"] (_r _cz):=_J
def _pn (T:Tx K w mg):Sp:=fun vs H Q E=>vs.length=1∧(∃v B,vs=[v]∧BkHas K T.cB H v B∧(Y1 B.kept).length<64∧∀H' D,Same H H'->H D=none->H' D=some (.lst ((_A (Y1 B.kept)).map V.str))->Q (.ref D) H')
theorem _lT:FnScope ["thing"] ["thing"] (_r _cM):=_J
def _lk (T:Tx K w mg):Sp:=fun vs H Q E=>vs.length=1∧(∃x,vs=[.str x]∧Q (.bl (Vr x)) H)
theorem _ku:FnScope ["self"] ["self"] (_r _dm):=_J
def _o6 (T:Tx K w mg):Sp:=fun vs H Q E=>vs.length=1∧(∃o dx,vs=[.ref o]∧H o=some (.ins T.cT dx [])∧∀H' dl sl pl tl ul,TrAt T.cT H' o dx dl sl pl tl ul Uc->But [o] H H'->H dl=none->H sl=none->H pl=none->H tl=none->H ul=none->Q .non H')
theorem _j0:FnScope ["self","number","sort"] ["self","number","sort"] (_r _bO):=_J
def _ny (T:Tx K w mg):Sp:=fun vs H Q E=>vs.length=3∧(∃(o dx dl sl pl tl ul:Addr) (t:Tr) (i:Nat) (s:Str),vs=[.ref o,.int i,.str s]∧TrAt T.cT H o dx dl sl pl tl ul t∧i<t.sorts.length∧TrOk t∧∀H',But [o,sl] H H'->TrAt T.cT H' o dx dl sl pl tl ul (t.ask i s)->Q .non H')
theorem _qp:FnScope ["self","later"] ["self","later"] (_r _cH):=_J
def _jl (T:Tx K w mg):Sp:=fun vs H Q E=>vs.length=2∧(∃(o dx dl sl pl tl ul:Addr) (t:Tr) (k:Int),vs=[.ref o,.int k]∧TrAt T.cT H o dx dl sl pl tl ul t∧TrOk t∧∀H',But [o,dl,sl] H H'->TrAt T.cT H' o dx dl sl pl tl ul (t.grow k)->Q (.int t.days.length) H')
theorem _gv:FnScope ["self","letter","child"] ["self","letter"] (_r _eM):=_J
def _lo (T:Tx K w mg):Sp:=fun vs H Q E=>vs.length=2∧(∃(o dx dl sl pl tl ul:Addr) (t:Tr) (l:Str),vs=[.ref o,.str l]∧TrAt T.cT H o dx dl sl pl tl ul t∧TrOk t∧t.days.length≤50∧t.par.length≤50∧(l="F"∨l="M")∧∀H',But [o,dl,sl,pl] H H'->TrAt T.cT H' o dx dl sl pl tl ul (t.goUp l)->Q .non H')
theorem _hk:FnScope ["self","step","begin"] ["self","step"] (_r _e4):=_J
def _kw (T:Tx K w mg):Sp:=fun vs H Q E=>vs.length=2∧(∃(o dx dl sl pl tl ul:Addr) (t:Tr) (s:Str),vs=[.ref o,.str s]∧TrAt T.cT H o dx dl sl pl tl ul t∧TrOk t∧t.days.length≤50∧t.par.length≤50∧t.tak.length≤50∧t.uni.length≤50∧s∈_o∧∀H',But [o,dl,sl,pl,tl,ul] H H'->TrAt T.cT H' o dx dl sl pl tl ul (t.go s)->Q .non H')
theorem _qf:FnScope ["number"] ["number"] (_r _cd):=_J
def _jR (T:Tx K w mg):Sp:=fun vs H Q E=>vs.length=1∧(∃i:Nat,vs=[.int i]∧i<26∧Q (.str (_e i)) H)
theorem _nB:FnScope ["tree","letter","number"] ["tree","letter","number"] (_r _bT):=_J
def _nC (T:Tx K w mg):Sp:=fun vs H Q E=>vs.length=3∧(∃(o dx dl sl pl tl ul:Addr) (t:Tr) (l:Str) (i:Nat),vs=[.ref o,.str l,.int i]∧TrAt T.cT H o dx dl sl pl tl ul t∧(∀q∈t.par,q.2<26)∧∀H',Same H H'->Q (.str (Yd t l i)) H')
theorem _eQ:FnScope ["tree","number","father","mother"] ["tree","number"] (_r _e3):=_J
def _ox (T:Tx K w mg):Sp:=fun vs H Q E=>vs.length=2∧(∃(o dx dl sl pl tl ul:Addr) (t:Tr) (i:Nat),vs=[.ref o,.int i]∧TrAt T.cT H o dx dl sl pl tl ul t∧TrOk t∧(∀q∈t.par,q.2<26)∧i<t.days.length∧i<26∧∀H' a,Same H H'->H a=none->H' a=some (.tup ((XJ t i).row.map kV))->Q (.ref a) H')
theorem Vt:FnScope ["tree","book","number","day","child","taker","one","other"] ["tree"] (_r Uu):=_J
def _jh (T:Tx K w mg):Sp:=fun vs H Q E=>vs.length=1∧(∃(o dx dl sl pl tl ul:Addr) (t:Tr) (k:Nat),vs=[.ref o]∧TrAt T.cT H o dx dl sl pl tl ul t∧TI t k∧k≤24∧t.tak.length+t.uni.length≤24∧t.clash=false∧Xr T.tb2 H∧∀H' b B,SameX H H'->Lams T.tb2 H H'->Xr T.tb2 H'->BkHas K T.cB H' (.ref b) B->BT t B->Q (.ref b) H')
theorem _dV:FnScope ["way","tree","step"] ["way"] (_r _cp):=_J
def _nw (T:Tx K w mg):Sp:=fun vs H Q E=>vs.length=1∧(∃(p:Addr) (way:List Str),vs=[.ref p]∧SqT K H p (way.map V.str)∧(∀s∈way,s∈_o)∧way.length≤24∧Xr T.tb2 H∧(∀H',SameX H H'->Lams T.tb2 H H'->Xr T.tb2 H'->(_6 way).clash=true->Q .non H')∧∀H' a b B,SameX H H'->Lams T.tb2 H H'->Xr T.tb2 H'->(_6 way).clash=false->H' a=some (.tup [.ref b,.str (_e 0),.str (_e (_6 way).here)])->BkHas K T.cB H' (.ref b) B->BT (_6 way) B->Q (.ref a) H')
theorem _pF:FnScope ["book","step","name"] ["book","step","name"] (_r _eG):=_J
def _ng (T:Tx K w mg):Sp:=fun vs H Q E=>vs.length=3∧(∃v s n B,vs=[v,.str s,.str n]∧BkHas K T.cB H v B∧s∈_o∧Known B n∧∀H' D',Same H H'->H D'=none->H' D'=some (.lst ((Yo B s n).map V.str))->Q (.ref D') H')
theorem US:FnScope ["one","steps","lead","layers","step","came","name","reached"] ["one","steps","lead"] (_r _ff):=_J
def _nl (T:Tx K w mg):Sp:=fun vs H Q E=>vs.length=3∧(∃one p f b way B pool,vs=[.str one,.ref p,.ref f]∧_nT f b H∧SqT K H p (way.map V.str)∧(∀s∈way,s∈_o)∧BkHas K T.cB H (.ref b) B∧Clo B pool∧Known B one∧way.length≤100∧∀H' D' (ds:List V) (d:Addr) (ks:List (Str×V)),Same H H'->H D'=none->H' D'=some (.lst (ds++[.ref d]))->H' d=some (.dK (ks.map fun p=>(.inr p.1,p.2)))->(ks.map (·.1)).Nodup->(∀x,x∈ks.map (·.1)↔XU (Yo B) way (·=one) x)->Q (.ref D') H')
theorem _m4:FnScope ["book","way","name"] ["book","way","name"] (_r UP):=_J
def _nu (T:Tx K w mg):Sp:=fun vs H Q E=>vs.length=3∧(∃v p x way B,vs=[v,.ref p,x]∧BkHas K T.cB H v B∧WL T.tb H∧SqT K H p (way.map V.str)∧(False∨∃n pool,x=.str n∧Known B n∧Clo B pool∧(∀s∈way,s∈_o)∧way.length≤100∧∀H' D' xs,SameX H H'->Lams T.tb H H'->WL T.tb H'->H D'=none->H' D'=some (.lst (xs.map V.str))->SrtOf (XU (Yo B) way (·=n)) xs->Q (.ref D') H'))
theorem _kz:FnScope ["told","way"] ["told","way"] (_r _dJ):=_J
def _lp (T:Tx K w mg):Sp:=fun vs H Q E=>vs.length=2∧(∃(a p b:Addr) (x y:Str) (way pool:List Str) (B:Bk),vs=[.ref a,.ref p]∧H a=some (.tup [.ref b,.str x,.str y])∧BkHas K T.cB H (.ref b) B∧SqT K H p (way.map V.str)∧(∀s∈way,s∈_o)∧way.length≤24∧Known B x∧Clo B pool∧WL T.tb H∧∀H' r,SameX H H'->Lams T.tb H H'->WL T.tb H'->(r=true↔XU (Yo B) way (·=x) y)->Q (.bl r) H')
theorem _fZ:FnScope ["one","other","told"] ["one","other"] (_r _bZ):=_J
def _lZ (T:Tx K w mg):Sp:=fun vs H Q E=>vs.length=2∧(∃(p1 p2:Addr) (w1 w2:List Str),vs=[.ref p1,.ref p2]∧SqT K H p1 (w1.map V.str)∧(∀s∈w1,s∈_o)∧w1.length≤24∧SqT K H p2 (w2.map V.str)∧(∀s∈w2,s∈_o)∧w2.length≤24∧WL T.tb H∧Xr T.tb2 H∧∀H' r,SameX H H'->WL T.tb H'->Xr T.tb2 H'->(r=true↔JS w1 w2)->Q (.bl r) H')
theorem _bc:FnScope ["_law_land_here","_law_step_here","_law_one","_law_people","_law_takings","_law_unions"] ["_law_land_here","_law_step_here","_law_one"] (_r _df):=_J
def _nf (T:Tx K w mg):Sp:=fun vs H Q E=>vs.length=3∧(∃(a:Addr) (s:Str) (i:Nat) (L:Ld),vs=[.ref a,.str s,.int i]∧LdAt K H a L∧LOk L∧s∈_o∧i<L.pe.length∧∀H' D (zs:List Nat),Same H H'->H D=none->H' D=some (.lst (zs.map fun z:Nat=>V.int z))->(∀j,j∈zs↔RL L s i j)->zs.length≤900->Q (.ref D) H')
theorem Ub:FnScope ["_law_land_here","_law_way","_law_one","_law_found","_law_step_here","_law_ahead","_law_here","_law_there"] ["_law_land_here","_law_way","_law_one"] (_r _do):=_J
def _ph (T:Tx K w mg):Sp:=fun vs H Q E=>vs.length=3∧(∃(a p:Addr) (way:List Str) (i:Nat) (L:Ld),vs=[.ref a,.ref p,.int i]∧LdAt K H a L∧LOk L∧SqT K H p (way.map V.str)∧(∀s∈way,s∈_o)∧way.length≤24∧i<L.pe.length∧∀H' D (ks:List (Nat×V)),Same H H'->H D=none->H' D=some (.dK (Yc ks))->(ks.map (·.1)).Nodup->(∀j,j∈ks.map (·.1)↔WT (RL L) way i j)->Q (.ref D) H')
theorem Wl:FnScope ["_law_book","_law_names","_law_people","_law_takings","_law_unions","_law_k","_law_above","_law_letter","_law_found","_law_high","_law_other"] ["_law_book"] (_r _e0):=_J
def _oV (T:Tx K w mg):Sp:=fun vs H Q E=>vs.length=1∧(∃(b:Addr) (B:Bk) (t:Tr) (k:Nat),vs=[.ref b]∧BkHas K T.cB H (.ref b) B∧BT t B∧TI t k∧t.clash=false∧t.days.length≤6∧∀H' a L,Same H H'->LdAt K H' a L->LOk L->LdT t L->Q (.ref a) H')
theorem XE:FnScope ["_law_cells","_law_ties","_law_people","_law_cell","_law_fathers","_law_mothers","_law_sort","_law_mother","_law_many","_law_takings","_law_unions","_law_one","_law_other","_law_pair"] ["_law_cells","_law_ties"] (_r _db):=_J
def _lN (T:Tx K w mg):Sp:=fun vs H Q E=>vs.length=2∧(∃(c t:Addr) (cs ts:List Int),vs=[.ref c,.ref t]∧SqL K H c (cs.map V.int)∧1≤cs.length∧cs.length≤6∧SqL K H t (ts.map V.int)∧ts.length≤5∧∀H' a L,Same H H'->LdAt K H' a L->LOk L->Q (.ref a) H')
theorem W7:FnScope ["_law_land_here","_law_cells","_law_one","_law_way","_law_here","_law_cell","_law_some","_law_step_here","_law_there"] ["_law_land_here","_law_cells","_law_one"] (_r _ee):=_J
def _qu (T:Tx K w mg):Sp:=fun vs H Q E=>vs.length=3∧(∃(a l:Addr) (cs:List Int) (i:Nat) (L:Ld),vs=[.ref a,.ref l,.int i]∧LdAt K H a L∧LOk L∧SqL K H l (cs.map V.int)∧cs.length≤5∧i<L.pe.length∧∀H' D p (way:List Str) (j:Nat),Same H H'->H' D=some (.lst [.ref p,.int j])->SqT K H' p (way.map V.str)->(∀s∈way,s∈_o)->way.length≤5->j<L.pe.length->WT (RL L) way i j->Q (.ref D) H')
theorem Vu:FnScope ["_law_land_here","_law_one","_law_other","_law_rows","_law_ahead","_law_behind","_law_here","_law_step_here","_law_there"] ["_law_land_here","_law_one","_law_other"] (_r _du):=_J
def _kD (T:Tx K w mg):Sp:=fun vs H Q E=>vs.length=3∧(∃(a:Addr) (i j:Nat) (L:Ld),vs=[.ref a,.int i,.int j]∧LdAt K H a L∧LOk L∧i<L.pe.length∧∀H' p (way:List Str),Same H H'->SqT K H' p (way.map V.str)->(∀s∈way,s∈_o)->way.length≤6->(_an L i j->WT (RL L) way i j)->Q (.ref p) H')
theorem _fS:FnScope ["_law_way","_law_back"] ["_law_way"] (_r _de):=_J
def _me (T:Tx K w mg):Sp:=fun vs H Q E=>vs.length=1∧(∃(p:Addr) (way:List Str),vs=[.ref p]∧SqT K H p (way.map V.str)∧(∀s∈way,s∈_o)∧way.length≤24∧∀H' p',Same H H'->SqT K H' p' ((YU way).map V.str)->Q (.ref p') H')
theorem WV:FnScope ["_law_way","_law_cells","_law_told","_law_book","_law_start","_law_end","_law_names","_law_land_here","_law_other","_law_there"] ["_law_way","_law_cells"] (_r _dY):=_J
def _lx (T:Tx K w mg):Sp:=fun vs H Q E=>vs.length=2∧(∃(p l:Addr) (way:List Str) (cs:List Int),vs=[.ref p,.ref l]∧SqT K H p (way.map V.str)∧(∀s∈way,s∈_o)∧way.length≤5∧SqL K H l (cs.map V.int)∧cs.length≤5∧(_6 way).clash=false∧Xr T.tb2 H∧∀H' p' (way':List Str),SameX H H'->Lams T.tb2 H H'->Xr T.tb2 H'->SqT K H' p' (way'.map V.str)->(∀s∈way',s∈_o)->way'.length≤11->JS way way'->Q (.ref p') H')
theorem VB:FnScope ["_law_script","_law_land_here","_law_k","_law_cells","_law_way","_law_other","_law_one","_law_found"] ["_law_script"] (_r _dB):=_J
def _iR (T:Tx K w mg):Sp:=fun vs H Q E=>vs.length=1∧(J9 K T.tb T.tb2 vs H Q E)
section
variable (P:Program) (base:Heap) (T:Tx K w mg)
abbrev _bf:Prop:=OD P w base 1 T._dt (_kl T)
abbrev _bD:Prop:=OD P w base 1 T.Y4 (_ho T)
abbrev _fg:Prop:=OD P w base 2 T.XA (_ig T)
abbrev _cb:Prop:=OD P w base 2 T.Vf (_fP T)
abbrev _cV:Prop:=OD P w base 1 T.WO (_i7 T)
abbrev _c3:Prop:=OD P w base 2 T.Wt (_ga T)
abbrev _d5:Prop:=OD P w base 3 T._cQ (_kX T)
abbrev _dc:Prop:=OD P w base 4 T._co (_mg T)
abbrev _aw:Prop:=OD P w base 1 T._ei (_n1 T)
abbrev _aD:Prop:=OD P w base 1 T._ft (_oy T)
abbrev _fr:Prop:=OD P w base 1 T._cD (_mH T)
abbrev _au:Prop:=OD P w base 2 T._fD (_j5 T)
abbrev _bA:Prop:=OD P w base 3 T._fa (_ke T)
abbrev _dL:Prop:=OD P w base 1 T._c1 (_oU T)
abbrev _ay:Prop:=OD P w base 1 T._el (_oK T)
abbrev _fs:Prop:=OM P w base mg 1 T._ah (_jL T)
abbrev V4:Prop:=OM P w base mg 1 T._eK (_mC T)
abbrev J5:Prop:=OM P w base mg 2 T._fy (_os T)
abbrev Je:Prop:=OM P w base mg 2 T._cO (_l9 T)
abbrev _ci:Prop:=OM P w base mg 3 T._cY (_jA T)
abbrev _ep:Prop:=OM P w base mg 4 T._dQ (_jQ T)
abbrev _c6:Prop:=OM P w base mg 5 T._fw (_jO T)
abbrev Js:Prop:=OM P w base mg 1 T._eY (_m7 T)
abbrev _cn:Prop:=OM P w base mg 2 T._b1 (_pD T)
abbrev _ac:Prop:=OM P w base mg 2 T._dG (_kn T)
abbrev _fc:Prop:=FnOk P w K mg base (Xb P w) 2 T.a_Book_stands T.fd_Book_stands ["self","one","other","day"] (_pA T)
abbrev _eN:Prop:=OM P w base mg 3 T._dX (_mG T)
abbrev _fn:Prop:=OM P w base mg 6 T._dp (_k2 T)
abbrev _at:Prop:=OM P w base mg 1 T.Ug (_pn T)
abbrev _bg:Prop:=OD P w base 1 T._eg (_lk T)
abbrev _fe:Prop:=OM P w base mg 1 T.J8 (_o6 T)
abbrev _bm:Prop:=OM P w base mg 1 T._en (_ny T)
abbrev _bw:Prop:=OM P w base mg 1 T._eH (_jl T)
abbrev _fv:Prop:=OM P w base mg 2 T._cU (_lo T)
abbrev _ek:Prop:=OM P w base mg 3 T._ew (_kw T)
abbrev Uy:Prop:=OD P w base 1 T._dE (_jR T)
abbrev _fE:Prop:=OD P w base 2 T._cg (_nC T)
abbrev _dl:Prop:=OD P w base 3 T._dK (_ox T)
abbrev _bY:Prop:=OD P w base 7 T._bi (_jh T)
abbrev _br:Prop:=OD P w base 8 T._bM (_nw T)
abbrev _aC:Prop:=OD P w base 3 T.UE (_ng T)
abbrev _ec:Prop:=OD P w base 5 T.UM (_nl T)
abbrev _dU:Prop:=OD P w base 6 T._bt (_nu T)
abbrev _eJ:Prop:=OD P w base 7 T._e2 (_lp T)
abbrev _dC:Prop:=OD P w base 9 T._dN (_lZ T)
abbrev _af:Prop:=OD P w base 1 T._fj (_nf T)
abbrev _fu:Prop:=OD P w base 2 T._bS (_ph T)
abbrev _e5:Prop:=OD P w base 3 T._ce (_oV T)
abbrev _eC:Prop:=OD P w base 1 T._cs (_lN T)
abbrev _al:Prop:=OD P w base 2 T._fi (_qu T)
abbrev _dn:Prop:=OD P w base 2 T._cx (_kD T)
abbrev _eP:Prop:=OD P w base 1 T._cZ (_me T)
abbrev _dA:Prop:=OD P w base 9 T._dd (_lx T)
abbrev _dk:Prop:=OD P w base 10 T.UY (_iR T)
end
theorem _qk:(["name"]:List Str).Nodup:=by trivial
theorem _mk:(["name","entry","self"]:List Str).Nodup:=by trivial
theorem _jN:(["tied_on","day"]:List Str).Nodup:=by trivial
theorem _mV:(["name","end"]:List Str).Nodup:=by trivial
theorem _aO:(["_law_a","_law_b","_law_one"]:List Str).Nodup:=by trivial
theorem _a0:(["_law_low","_law_high","_law_one"]:List Str).Nodup:=by trivial
theorem _mQ:(["_law_k","_law_one","_law_people","_law_step_here"]:List Str).Nodup:=by trivial
theorem _jy:(["_law_high"]:List Str).Nodup:=by trivial
theorem _m1:(["_law_high","_law_names"]:List Str).Nodup:=by trivial
theorem _gb:(["_law_k","_law_people"]:List Str).Nodup:=by trivial
theorem _qA:(["_law_step_here","_law_back"]:List Str).Nodup:=by trivial
theorem _pg:(["_law_end","_law_found"]:List Str).Nodup:=by trivial
end
section
variable {mg:Str->Option Value}
def spC (K:W.Frag) (f:Vk->Bool):Sp:=fun vs H Q _=>vs.length=1∧∃x t,vs=[x]∧Vw K H x t∧∀H',Same H H'->Q (.bl (f t)) H'
def Fam (T:Tx K w mg):Addr->Sp->Prop:=fun f sp=>∃c,f=T.ad c∧sp=spC K (UD c)
theorem _oL {w:World} {X:Cx} (T:Tx K w mg) (h1:FnOk P w K mg base (Xb P w) 1 T.Y4.a (Y6 K T.Y4.a) ["thing"] (_ho T)) (h2:FnOk P w K mg base (Xb P w) 1 T.WO.a (Y6 K T.WO.a) ["thing"] (_i7 T))
 (h3:FnOk P w K mg base (Xb P w) 2 T.XA.a (Y6 K T.XA.a) ["thing"] (_ig T)) (h4:FnOk P w K mg base (Xb P w) 2 T.Vf.a (Y6 K T.Vf.a) ["thing"] (_fP T)) (h5:FnOk P w K mg base (Xb P w) 2 T.Wt.a (Y6 K T.Wt.a) ["thing"] (_ga T))
 (hr:Room 2 X.A) (e1:X.prog=P) (e2:X.w=w) (e3:X.K=K) (e4:X.mg=mg) (e5:X.base=base):_hr X (Xb P w) (Fam T):=by
 subst e1 e2 e3 e4 e5;rintro f sp ⟨c,rfl,rfl⟩;cases c with
 |name=>exact ⟨1,_,_,h1,hr.mono (by decide),T.Y4.F.kp,T.Y4.b⟩
 |sort=>exact ⟨1,_,_,h2,hr.mono (by decide),T.WO.F.kp,T.WO.b⟩
 |day=>exact ⟨2,_,_,h3,hr,T.XA.F.kp,T.XA.b⟩
 |amount=>exact ⟨2,_,_,h4,hr,T.Vf.F.kp,T.Vf.b⟩
 |parent=>exact ⟨2,_,_,h5,hr,T.Wt.F.kp,T.Wt.b⟩
end
section
variable {w:World} {mg:Str->Option Value} (T:Tx K w mg)
theorem _kV: _bf P base T:=by
 refine Fun.okY T._dt.F _lR fun cdv A outer s H vs Q E hr h=>?_;obtain ⟨x,t,rfl,hv,q⟩:=h;refine ⟨_,(_i (_w (X6 (Wf K (by rfl) T.n_isinstance (_a (pv 0) (_a (Wi (v:=.ty "int") (by rfl) T.n_int _a4 rfl) _b))) (XG (_kP (Wf K (by rfl) T.n_isinstance (_a (pv 0) (_a (Wi (v:=.ty "bool") (by rfl) T.n_bool _pR rfl) _b)))))))),?_⟩;refine ⟨_,rfl,_,.ty "int",_,_,rfl,rfl,hv.kd,kI T t,_,rfl,?_⟩;cases t with
 |int i=>exact Yt ⟨_,rfl,_,.ty "bool",_,_,rfl,rfl,hv.kd,T.kib',_,rfl,q _ (Same.refl H)⟩
 |bl=>exact Yt ⟨_,rfl,_,.ty "bool",_,_,rfl,rfl,hv.kd,T.kbb',_,rfl,q _ (Same.refl H)⟩
 |_=>exact Yb (q _ (Same.refl H))
theorem _k0: _bD P base T:=by
 refine Fun.okY T.Y4.F _oR fun cdv A outer s H vs Q E hr h=>?_;obtain ⟨x,t,rfl,hv,q⟩:=h
 refine ⟨_,(_k (_G (PW.pt (W2 (WQ (Xx (Wf K (by rfl) T.n_isinstance (_a (pv 0) (_a (Wi (v:=.ty "str") (by rfl) T.n_str VI rfl) _b))))) (W2 (_C _hp (_X _h8 (by rfl) T.n_len Yw (_a (pv 0) _b)) _j (_z _)) (VX (_C _dO (_X _h8 (by rfl) T.n_len Yw (_a (pv 0) _b)) _j (_z _)))))) (_i (_w Xg)) _P)
   (_i (_w (_X (_c0 rfl) (by rfl) T.n_all _bK (_a (Xj (N:=["sign"]) (cl:=[]) (σc:=fun _=>[none]) rfl (_hj (L:=[(".0",.local),("sign",.local),("LETTERS",.globalImplicit)]) (by rfl) (by trivial) (by trivial) (by rfl) (by rfl) (by decide) (by rfl) (by simp)) (_j3 (pv 0)) (fun _ _ _=>(_D (i:=0) J4 rfl (Or.inl rfl))) (fun _ _ _=>_ad) (fun _ _ _=>(YM _qi (pv 0) (Xv (v:=.str _bL) (by rfl) T.m_LETTERS ⟨_,rfl⟩) (by rfl)))) _b))))),?_⟩
 refine ⟨_,rfl,_,.ty "str",_,_,rfl,rfl,hv.kd,kS T t,_,rfl,?_⟩;cases t with
 |str z =>
  obtain ⟨e,hz⟩:=hv;subst e;have hs:z.length≤sizeLine:=QR (_y (by omega));refine Yb ⟨_,rfl,z,rfl,hs,_,_,rfl,rfl,_,rfl,?_⟩;by_cases h1:((z.length:Nat):Int)<1
  ·rw [Qx h1]
   have e:WR (.str z)=false:=by
    rw [_c4];rw [Qs (show ¬1≤z.length by omega)];rfl
   rw [e] at q;exact Yt (q _ (Same.refl H))
  rw [Qs h1];refine Yb ⟨_,rfl,z,rfl,hs,_,_,rfl,rfl,_,rfl,?_⟩;by_cases h2:(8:Int)<((z.length:Nat):Int)
  ·rw [Qx h2]
   have e:WR (.str z)=false:=by
    rw [_c4];rw [Qs (show ¬z.length≤8 by omega),NO];rfl
   rw [e] at q;exact Yt (q _ (Same.refl H))
  rw [Qs h2]
  have e:WR (.str z)=(z.cps.toList.map W0).all id:=by
   rw [_c4];rw [Qx (show 1≤z.length by omega),Qx (show z.length≤8 by omega),GA];rfl
  rw [e] at q;have hl:z.cps.size=z.length:=rfl;refine Yb ⟨_,rfl,z,rfl,?_⟩;refine JX ((z.cps.toList.map W0).map V.bl) (by simp only [Qc,Ga];exact Rt (Nat.le_of_eq hl) (_y (by omega))) (fun σ=>∃o,σ=[o]) ⟨none,rfl⟩ ?_ ?_ ?_ ?_
  ·intro i H2 hi _;show i<z.cps.size;simpa using hi
  ·intro H2 _;show (((z.cps.toList.map W0).map V.bl).length:Nat)=z.cps.size;simp
  ·rintro i σ H2 v H3 y hy ⟨o,rfl⟩ s2 ⟨e3,c,hc,ev⟩ C hC;subst e3 ev
   have ey:y=.bl (W0 c):=by
    have hc':z.cps.toList[i]?=some c:=by simpa using hc
    rw [Qp,Qp,hc'] at hy;exact (Qn hy).symm
   subst ey;exact ⟨_,rfl,_,_,rfl,rfl,hC _ _ ⟨_,rfl⟩ (Same.refl _)⟩
  ·intro D H2 hD s2 hl2;exact ⟨D,_,rfl,hl2,q _ s2⟩
 |_=>exact Yt (q _ (Same.refl H))
theorem _k4 (UI:_bf P base T):_fg P base T:=by
 refine Fun.okY T.XA.F _pp fun cdv A outer s H vs Q E hr h=>?_;obtain ⟨x,t,rfl,hv,q⟩:=h;refine ⟨_,(_i (_w (X6 (_L UI hr (_a (pv 0) _b)) (XG (YM _bG (_X _kI (by rfl) T.n_abs _nd (_a (pv 0) _b)) (_S _gH _j _j) (_z _)))))),?_⟩;refine ⟨_,rfl,rfl,x,t,rfl,hv,fun H1 s1=>⟨_,rfl,?_⟩⟩;cases t with
 |int i =>
  cases (show x=.int i from hv);exact Yt ⟨_,rfl,i,rfl,_,_,rfl,rfl,(show _eB 10 18 from ⟨by decide,by decide,by trivial⟩),_,_,rfl,rfl,q _ s1⟩
 |_=>exact Yb (q _ s1)
theorem _oc (UI:_bf P base T):_cb P base T:=by
 refine Fun.okY T.Vf.F _jI fun cdv A outer s H vs Q E hr h=>?_;obtain ⟨x,t,rfl,hv,q⟩:=h;refine ⟨_,(_i (_w (X6 (_L UI hr (_a (pv 0) _b)) (X6 (YM Uh (pv 0) _j (_z _)) (XG (YM _bG (pv 0) (_S _gH _j _j) (_z _))))))),?_⟩;refine ⟨_,rfl,rfl,x,t,rfl,hv,fun H1 s1=>⟨_,rfl,?_⟩⟩;cases t with
 |int i =>
  cases (show x=.int i from hv);refine Yt ⟨_,rfl,_,_,rfl,rfl,_,rfl,?_⟩;have q1:=q _ s1;rw [_qE] at q1;by_cases h1:1≤i
  ·rw [Qx h1] at q1 ⊢;exact Yt ⟨_,rfl,_,_,rfl,rfl,(show _eB 10 18 from ⟨by decide,by decide,by trivial⟩),_,_,rfl,rfl,q1⟩
  ·rw [Qs h1] at q1 ⊢;exact Yb q1
 |_=>exact Yb (q _ s1)
theorem _lV: _cV P base T:=by
 refine Fun.okY T.WO.F _o5 fun cdv A outer s H vs Q E hr h=>?_;obtain ⟨x,t,rfl,hv,q⟩:=h;refine ⟨_,(_i (_w (X6 (Wf K (by rfl) T.n_isinstance (_a (pv 0) (_a (Wi (v:=.ty "str") (by rfl) T.n_str VI rfl) _b))) (XG (YM W5 (pv 0) (_R (_a _p (_a _p (_a _p _b)))) (by rfl)))))),?_⟩;refine ⟨_,rfl,_,.ty "str",_,_,rfl,rfl,hv.kd,kS T t,_,rfl,?_⟩;cases t with
 |str z =>
  cases (show x=.str z from hv.1);refine Yt ⟨_,rfl,by decide,fun p hp=>⟨p,_,rfl,.inr (.of _f),rfl,rfl,?_⟩⟩
  have e:(if false=true then !XB (.str z) [.str "he",.str "she",.str ""] else XB (.str z) [.str "he",.str "she",.str ""])=Ua (.str z):=by
   rw [Qa (by decide)];exact _o8 z
  rw [e];exact q _ (_h hp)
 |_=>exact Yb (q _ (Same.refl H))
theorem _jw (UU:_bD P base T):_c3 P base T:=by
 refine Fun.okY T.Wt.F _o1 fun cdv A outer s H vs Q E hr h=>?_;obtain ⟨x,t,rfl,hv,q⟩:=h;refine ⟨_,(_i (_w (_cB (_L UU hr (_a (pv 0) _b)) (XG (X6 (Wf K (by rfl) T.n_isinstance (_a (pv 0) (_a (Wi (v:=.ty "str") (by rfl) T.n_str VI rfl) _b))) (XG (YM _1 (pv 0) _p (_z _)))))))),?_⟩;refine ⟨_,rfl,rfl,x,t,rfl,hv,fun H1 s1=>⟨_,rfl,?_⟩⟩;have q1:=q _ s1;unfold JU at q1;cases hn:WR t with
 |true =>
  rw [hn] at q1;exact Yt q1
 |false =>
  rw [hn,Bool.false_or] at q1;refine Yb ⟨_,rfl,_,.ty "str",_,_,rfl,rfl,(hv.mono s1).kd,kS T t,_,rfl,?_⟩;cases t with
  |str z =>
   cases (show x=.str z from hv.1)
   have e:decide (V.str z=V.str "")=decide (z=""):=by
    rw [Ri];simp
   exact Yt ⟨_,rfl,rfl,by rw [e];exact q1⟩
  |_=>exact Yb q1
theorem _jt (UU:_bD P base T) (_cy:_fg P base T) (_bI:_cb P base T) (_c2:_cV P base T) (_cG:_c3 P base T):_d5 P base T:=by
 refine Fun.okY T._cQ.F _ql fun cdv A outer s H vs Q E hr h=>?_;obtain ⟨a,b,xs,ts,cs,rfl,ha,hx,hb,hc,q⟩:=h
 refine ⟨_,(_k (_G (_C VP (_X YQ (by rfl) T.n_len Yw (_a (pv 0) _b)) (_X YQ (by rfl) T.n_len Yw (_a (pv 1) _b)) (_z _)) (_i (_w Xg)) _P)
   (_i (_w (_X (_c0 rfl) (by rfl) T.n_all _bK (_a (Xj (N:=["check","part"]) (cl:=[]) (σc:=fun _=>[none,none]) rfl (_hj (L:=[(".0",.local),("check",.local),("part",.local)]) (by rfl) (by trivial) (by trivial) (by rfl) (by rfl) (by decide) (by rfl) (by simp)) (_nK K (by rfl) T.n_zip (_a (pv 1) (_a (pv 0) _b))) (fun _ _ _=>(JV (n:=2) K rfl (Yp (_D (i:=0) UX rfl (Or.inl rfl)) (Yp (_D (i:=1) UX rfl (Or.inl rfl)) X0)))) (fun _ _ _=>_ad) (fun _ _ _=>(_mt (Fam:=Fam T) (i:=0) (_oL T UU _c2 _cy _bI _cG (hr.mono (by decide)) rfl rfl rfl rfl rfl) rfl (Or.inl rfl) VG (_a (pv 1) _b)))) _b))))),?_⟩
 have lx:=hx.length;refine ⟨_,rfl,a,_,rfl,.inr ha,_,rfl,b,_,rfl,.inr hb,rfl,_,rfl,?_⟩
 have e0:(!decide (V.int (xs.length:Nat)=V.int ((cs.map fun c=>V.ref (T.ad c)).length:Nat)))=!decide (ts.length=cs.length):=by
  rw [lx,Qc]
  congr 1
  rw [Ri];simp only [Nh,V.int.injEq];omega
 rw [e0];unfold Wb at q;by_cases hl:ts.length=cs.length
 ·rw [Qx hl] at q ⊢;rw [GH] at q;have lo:(_Q cs ts).length=cs.length:=_i5 hl;refine Yb ⟨_,rfl,_,rfl,b,a,rfl,⟨_,hb⟩,⟨_,ha⟩,?_⟩;refine JX ((_Q cs ts).map V.bl) (by rw [Qc,lo];exact _y (by omega)) (fun σ=>∃o u,σ=[o,u]) ⟨none,none,rfl⟩ ?_ ?_ ?_ ?_
  ·intro i H2 hi s2;rw [Qc,lo] at hi;have h1:i<(cs.map fun c=>V.ref (T.ad c)).length:=by rw [Qc];exact hi
   have h2:i<xs.length:=by omega
   exact ⟨_,_,_,_,s2.sqt hb,s2.sqt ha,Qt h1,Qt h2⟩
  ·intro H2 s2;exact ⟨_,s2.sqt hb,by rw [Qc,Qc,lo]⟩
  ·rintro i σ H2 v H3 y hy ⟨o,u,rfl⟩ s2 ⟨A',x1,x2,nA,rfl,f1,f2,rfl⟩ C hC;obtain ⟨c,t,e1,e2,e3⟩:=_oJ hl hy;have g1:=f1 _ (s2.sqt hb);have g2:=f2 _ (s2.sqt ha);rw [Qp,e1] at g1;have g1':x1=.ref (T.ad c):=(Qn g1).symm;obtain ⟨x,ex,vx⟩:=hx.get e2;rw [ex] at g2;have g2':x2=x:=(Qn g2).symm;subst g1' g2' e3;have sA:=_h (o:=.tup [.ref (T.ad c),x2]) nA;refine ⟨A',_,rfl,.of _f,rfl,?_⟩;refine ⟨_,_,rfl,_,_,rfl,rfl,?_⟩;refine ⟨_,_,rfl,⟨c,rfl,rfl⟩,_,rfl,rfl,x2,t,rfl,(vx.mono s2).mono sA,fun H5 s5=>hC _ _ ⟨_,_,rfl⟩ (sA.trans s5)⟩
  ·intro D H2 hD s2 hl2;exact ⟨D,_,rfl,hl2,q _ s2⟩
 ·rw [Qs hl] at q ⊢;exact Yt (q _ (Same.refl H))
theorem _pd (_dS:_d5 P base T):_dc P base T:=by
 refine Fun.okY T._co.F _dM fun cdv A outer s H vs Q E hr h=>?_;obtain ⟨x,rfl,h⟩:=h
 refine ⟨_,(_k (_G (PW.pt (W2 (WQ (Xx (Wf K (by rfl) T.n_isinstance (_a (pv 0) (_a (Wi (v:=.ty "tuple") (by rfl) T.n_tuple _a1 rfl) _b))))) (W2 (_C _1 (_X YQ (by rfl) T.n_len Yw (_a (pv 0) _b)) _j (_z _)) (VX (WQ (Xx (Wf K (by rfl) T.n_isinstance (_a (_n _v (pv 0) _j (fun _ _=>rfl)) (_a (Wi (v:=.ty "str") (by rfl) T.n_str VI rfl) _b))))))))) (_i (_w Xg)) _P)
   (_k (Yq QH rfl (W4 (Xv (v:=.ref T.aF) (by rfl) T.m_FORMS rfl)) (Uf rfl (Yp (_D (i:=1) _dM.nd rfl (Or.inl rfl)) (Yp (_D (i:=2) _dM.nd rfl (Or.inl rfl)) X0)))
    (_i (_G (_C _1 (_n _v (pv 0) _j (fun _ _=>rfl)) (pv 1) (_z _)) (_i (_w (_L _dS hr (_a (WA _bu (pv 0) (XM _j) VY) (_a (pv 2) _b))))) _P)))
   (_i (_w Xg)))),?_⟩
 rcases h with ⟨t,hv,ht,q⟩|⟨ts,⟨a,xs,rfl,hS,hx⟩,hl,q⟩
 ·have k:=kT T t;rw [ht] at k;exact ⟨_,rfl,_,.ty "tuple",_,_,rfl,rfl,hv.kd,k,_,rfl,Yt (q _ (Same.refl H))⟩
 refine ⟨_,rfl,_,.ty "tuple",_,_,rfl,rfl,.sqt hS,T.ktt',_,rfl,?_⟩;refine Yb ⟨_,rfl,a,_,rfl,.inr hS,rfl,_,rfl,?_⟩
 match xs,ts,hx with
 |[],[],_=>exact Yt (q _ (Same.refl H))
 |x::xs,t::ts,hx =>
  have e0:decide (V.int ((x::xs).length:Nat)=V.int 0)=false:=by
   rw [QJ]
   exact Qs fun z=>by
    have:=V.int.inj z;omega
  rw [e0];have at0:Yk (x::xs) 0=some x:=Wg (j:=0) rfl;refine Yb ⟨_,rfl,a,_,_,_,rfl,rfl,hS,at0,_,.ty "str",_,_,rfl,rfl,hx.1.kd,kS T t,_,rfl,?_⟩;cases t with
  |str w =>
   have ex:x=.str w:=hx.1.1;refine Yb ⟨T.aF,rfl,⟨_,T.sF _⟩,VH (fun i σ H2=>∃v1 v2,σ=[some (.ref a),v1,v2]∧Same H H2∧∀j,j<i->∀p',WE[j]?=some p'->w≠p'.1) ⟨none,none,rfl,Same.refl H,fun j hj=>by omega⟩ (fun _ _ _ _ _=>T.sF _) ?turn ?done⟩
   case done =>
    rintro σ H2 ⟨v1,v2,rfl,s2,b⟩
    have e:V5 (.str w::ts)=false:=by
     rw [_aI,_mp b];rfl
    rw [e] at q;exact q _ s2
   case turn =>
    rintro i y σ H2 hy ⟨v1,v2,rfl,s2,b⟩;have hi:i<6:=(Qz.mp hy).1;have hf:WE[i]?=some (WE[i]'hi):=Qt hi;generalize WE[i]'hi=p at hf;obtain ⟨P,G,e1,e2,e3⟩:=_mS T hf;rw [hy] at e1;have ey:y=.ref P:=Qn e1;subst ey;refine ⟨P,_,rfl,e2 _,rfl,_,_,rfl,_,_,rfl,rfl,?_⟩;refine ⟨_,rfl,a,_,_,_,rfl,rfl,s2.sqt hS,at0,_,rfl,by rw [ex];rfl,_,rfl,?_⟩;rw [ex]
    have ed:decide (V.str w=V.str p.1)=decide (w=p.1):=by
     rw [Ri];simp
    rw [ed];by_cases hw:w=p.1
    ·rw [Qx hw]
     have e:V5 (.str w::ts)=Wb p.2 ts:=by
      rw [_aI,_ma hf b hw];rfl
     rw [e] at q;refine Yt ⟨_,rfl,_,rfl,a,_,rfl,s2.sqt hS,?_,fun n hn=>?_⟩
     ·rintro ⟨z,_⟩;have:HT.sIx (x::xs).length 0 (some ((1:Nat):Int))=0:=z;rw [HT.sIx_nat,QJ] at this;omega
     ·rw [_pw];have sn:=_h (o:=.tup xs) hn;refine ⟨_,rfl,rfl,n,G,xs,ts,p.2,rfl,.of _f,(hx.2.mono s2).mono sn,e3 _,_oC p (QE hf),fun H5 s5=>q _ (s2.trans (sn.trans s5))⟩
    ·rw [Qs hw];refine Yb ⟨_,_,rfl,s2,fun j hj p' e'=>?_⟩;by_cases hji:j<i
     ·exact b j hji p' e'
     ·have:j=i:=by omega
      subst this;rw [hf] at e';cases e';exact hw
  |_=>exact Yt (q _ (Same.refl H))
theorem _kO: _aw P base T:=by
 refine Fun.okY T._ei.F _oq fun cdv A outer s H vs Q E hr h=>?_;obtain ⟨v,e,rfl,⟨a,rfl,hE⟩,q⟩:=h;refine ⟨_,(_i (_w (YM W5 (_n _v (pv 0) _j (fun _ _=>rfl)) (_R (_a _p (_a _p _b))) (by rfl)))),?_⟩;cases e with
 |born n s d f m=>exact ⟨_,rfl,a,_,_,_,rfl,rfl,hE,_s (j:=0) rfl,few rfl,fun p np=>⟨p,_,rfl,.inr (.of _f),rfl,rfl,q _ (_h np)⟩⟩
 |taken c t d=>exact ⟨_,rfl,a,_,_,_,rfl,rfl,hE,_s (j:=0) rfl,few rfl,fun p np=>⟨p,_,rfl,.inr (.of _f),rfl,rfl,q _ (_h np)⟩⟩
 |union x y d=>exact ⟨_,rfl,a,_,_,_,rfl,rfl,hE,_s (j:=0) rfl,few rfl,fun p np=>⟨p,_,rfl,.inr (.of _f),rfl,rfl,q _ (_h np)⟩⟩
theorem _l3: _aD P base T:=by
 refine Fun.okY T._ft.F _jG fun cdv A outer s H vs Q E hr h=>?_;obtain ⟨v,e,rfl,⟨a,rfl,hE⟩,q⟩:=h
 refine ⟨_,(_k (_G (_C _1 (_n _v (pv 0) _j (fun _ _=>rfl)) _p (_z _)) (_i (_w (Xj rfl (Xs (N:=["name"]) [] [none] rfl (by trivial) (by trivial) (by rfl) (by rfl) (by rfl) (by rfl) (by rfl)) (W4 (WA _bu (pv 0) (XM _j) VY)) (fun _ _ _=>(_D (i:=0) _qk rfl (Or.inl rfl))) (fun _ _ _=>(XV (_C VP (pv 0) _p (_z _)))) (fun _ _ _=>(pv 0))))) _P)
   (_k (_G (_C _1 (_n _v (pv 0) _j (fun _ _=>rfl)) _p (_z _)) (_i (_w (_4 (_a (_n _v (pv 0) _j (fun _ _=>rfl)) _b)))) _P)
   (_i (_w (_4 (_a (_n _v (pv 0) _j (fun _ _=>rfl)) (_a (_n _v (pv 0) _j (fun _ _=>rfl)) _b))))))),?_⟩
 cases e with
 |born n s d f m =>
  refine ⟨_,rfl,a,_,_,_,rfl,rfl,hE,_s (j:=0) rfl,rfl,_,rfl,_V (by trivial) ⟨_,rfl,_,rfl,?_⟩⟩;dsimp only [_eO];refine _dx hE (fun h=>absurd h.1 (show ¬(4:Nat)=0 by decide)) fun H1 p s1 hp=>?_;have hp':SqT K H1 p ([f,m].map V.str):=hp;refine ⟨p,rfl,⟨_,hp'⟩,W1 ([f,m].map Ur) (_y (by simp)) (fun σ=>∃v,σ=[v]) ⟨_,rfl⟩ (fun i H2 hi sm=>?go) (fun H2 sm=>?stop) (fun i σ H2 x H3 o ho hσ sm hx C hC=>?step) (fun D H2 nD sm hD=>?fin)⟩
  case go =>
   have hi':i<([f,m].map V.str).length:=hi;exact ⟨_,_,sm.sqt hp',Qt hi'⟩
  case stop=>exact ⟨_,sm.sqt hp',by simp⟩
  case step =>
   obtain ⟨v,rfl⟩:=hσ;obtain ⟨rfl,hx⟩:=hx;have e1:=hx _ (sm.sqt hp');rw [Qp] at e1 ho;obtain ⟨z,hz,rfl⟩:=QC.mp e1;rw [hz] at ho;obtain rfl:Ur z=o:=Qn ho;refine ⟨_,rfl,rfl,_,rfl,?_⟩;by_cases hz0:z=""
   ·subst hz0;exact _u (by trivial) (hC _ _ ⟨_,rfl⟩ (Same.refl _))
   ·have e2:Ur z=some (.str z):=Qa hz0;rw [e2] at hC;exact _V (by rw [Xq,Qs hz0];rfl) ⟨_,rfl,hC _ _ ⟨_,rfl⟩ (Same.refl _)⟩
  case fin =>
   rw [_hh] at hD;exact q _ D (s1.trans sm) (_W s1 nD) (.of hD)
 |taken c t d=>exact ⟨_,rfl,a,_,_,_,rfl,rfl,hE,_s (j:=0) rfl,rfl,_,rfl,_u (by trivial) ⟨_,rfl,a,_,_,_,rfl,rfl,hE,_s (j:=0) rfl,rfl,_,rfl,_u (by trivial) ⟨_,rfl,a,_,_,_,rfl,rfl,hE,_s (j:=1) rfl,_,rfl,a,_,_,_,rfl,rfl,hE,_s (j:=2) rfl,few rfl,fun D nD=>q _ D (_h nD) nD (.of _f)⟩⟩⟩
 |union x y d=>exact ⟨_,rfl,a,_,_,_,rfl,rfl,hE,_s (j:=0) rfl,rfl,_,rfl,_u (by trivial) ⟨_,rfl,a,_,_,_,rfl,rfl,hE,_s (j:=0) rfl,rfl,_,rfl,_u (by trivial) ⟨_,rfl,a,_,_,_,rfl,rfl,hE,_s (j:=1) rfl,_,rfl,a,_,_,_,rfl,rfl,hE,_s (j:=2) rfl,few rfl,fun D nD=>q _ D (_h nD) nD (.of _f)⟩⟩⟩
theorem _oe: _fr P base T:=by
 refine Fun.okY T._cD.F _pC fun cdv A outer s H vs Q E hr h=>?_;obtain ⟨v,e,rfl,⟨a,rfl,hE⟩,q⟩:=h
 refine ⟨_,(_k (_G (_C _1 (_n _v (pv 0) _j (fun _ _=>rfl)) _p (_z _)) (_i (_w (_n _v (pv 0) _j (fun _ _=>rfl)))) _P)
   (_i (_w (_n _v (pv 0) (Vv Vy _j) (fun _ _=>rfl))))),?_⟩
 cases e with
 |born n s d f m=>exact ⟨_,rfl,a,_,_,_,rfl,rfl,hE,_s (j:=0) rfl,rfl,_,rfl,_V (by trivial) ⟨_,rfl,a,_,_,_,rfl,rfl,hE,_s (j:=3) rfl,q⟩⟩
 |taken c t d=>exact ⟨_,rfl,a,_,_,_,rfl,rfl,hE,_s (j:=0) rfl,rfl,_,rfl,_u (by trivial) ⟨_,rfl,_,rfl,a,_,_,_,rfl,rfl,hE,rfl,q⟩⟩
 |union x y d=>exact ⟨_,rfl,a,_,_,_,rfl,rfl,hE,_s (j:=0) rfl,rfl,_,rfl,_u (by trivial) ⟨_,rfl,_,rfl,a,_,_,_,rfl,rfl,hE,rfl,q⟩⟩
theorem _p4 (Uv:_aw P base T):_au P base T:=by
 refine Fun.okY T._fD.F _f5 fun cdv A outer s H vs Q E hr h=>?_;obtain ⟨v,e,rfl,hx,q⟩:=h
 refine ⟨_,(_k (_G (WQ (Xx (_L Uv hr (_a (pv 0) _b)))) (_i (_w (pv 0))) _P)
   (_k (_H (i:=1) _f5.nd rfl (Or.inl rfl) (_X (_qs K) (by rfl) T.n_sorted JN (_a (WA _bu (pv 0) (XM _j) (XM _j)) _b)))
   (_i (_w (_R (_a (_n _v (pv 0) _j (fun _ _=>rfl)) (_a (_n Yl (pv 1) _j (fun _ _=>rfl)) (_a (_n Yl (pv 1) _j (fun _ _=>rfl)) (_a (_n _v (pv 0) _j (fun _ _=>rfl)) _b))))))))),?_⟩
 obtain ⟨a,rfl,hE⟩:=id hx;refine ⟨_,rfl,rfl,.ref a,e,rfl,hx,fun H1 s1=>⟨_,rfl,?_⟩⟩;have hE1:=s1.sqt hE;cases e with
 |born n s d f m=>exact Yt ⟨_,rfl,q _ _ s1 (hx.mono s1)⟩
 |taken c t d=>exact Yt ⟨_,rfl,q _ _ s1 (hx.mono s1)⟩
 |union x y d =>
  refine Yb ⟨_,rfl,_,rfl,_,rfl,?_⟩;refine _dx hE1 (fun h=>absurd h.1 (show ¬(1:Nat)=0 by decide)) fun H2 p s2 hp=>?_;have hp':SqT K H2 p ([x,y].map V.str):=hp;refine ⟨p,[x,y],rfl,hp',Qy rfl,fun D zs nD perm so=>?_⟩;rw [_mK perm so];have s3:=_h (o:=.lst ([(_g x y).1,(_g x y).2].map V.str)) nD;have hE3:=s3.sqt (s2.sqt hE1);have hD:SqL K (_c H2 D (.lst ([(_g x y).1,(_g x y).2].map V.str))) D ([(_g x y).1,(_g x y).2].map V.str):=.of _f;refine ⟨_,rfl,a,_,_,_,rfl,rfl,hE3,_s (j:=0) rfl,_,rfl,D,_,_,_,rfl,rfl,hD,_s (j:=0) rfl,_,rfl,D,_,_,_,rfl,rfl,hD,_s (j:=1) rfl,_,rfl,a,_,_,_,rfl,rfl,hE3,_s (j:=3) rfl,few rfl,fun t nt=>?_⟩;exact q _ _ (s1.trans (s2.trans (s3.trans (_h nt)))) ⟨t,rfl,.of _f⟩
theorem _mh (UN:_au P base T):_bA P base T:=by
 refine Fun.okY T._fa.F _nn fun cdv A outer s H vs Q E hr h=>?_;obtain ⟨v,e,rfl,hx,q⟩:=h
 refine ⟨_,(_k (_G (_C W5 (_n _v (pv 0) _j (fun _ _=>rfl)) (_R (_a _p (_a _p _b))) (by rfl)) (_i (_w (_R (_a (_n _v (pv 0) _j (fun _ _=>rfl)) (_a (_n _v (pv 0) _j (fun _ _=>rfl)) _b))))) _P)
   (_k (_G (_C _1 (_n _v (pv 0) _j (fun _ _=>rfl)) _p (_z _)) (_i (_w (_R (_a (_n _v (pv 0) _j (fun _ _=>rfl)) (_a (_n _v (pv 0) _j (fun _ _=>rfl)) (_a (_n _v (pv 0) _j (fun _ _=>rfl)) _b)))))) _P)
   (_k (_G (_C _1 (_n _v (pv 0) _j (fun _ _=>rfl)) _p (_z _)) (_i (_w (_R (_a (_n _v (pv 0) _j (fun _ _=>rfl)) (_a (_n _v (pv 0) _j (fun _ _=>rfl)) (_a (_n _v (pv 0) _j (fun _ _=>rfl)) (_a (_n _v (pv 0) _j (fun _ _=>rfl)) _b))))))) _P)
   (_i (_w (_S _g3 (_R (_a _p _b)) (WA _bu (_L UN hr (_a (pv 0) _b)) (XM _j) VY))))))),?_⟩
 obtain ⟨a,rfl,hE⟩:=id hx;cases e with
 |born n s d f m =>
  refine ⟨_,rfl,a,_,_,_,rfl,rfl,hE,_s (j:=0) rfl,few rfl,fun p np=>⟨p,_,rfl,.inr (.of _f),rfl,rfl,_,rfl,_V (by trivial) ?_⟩⟩;have s1:=_h (o:=.tup [.str "born",.str "dead"]) np;have hE1:=s1.sqt hE;exact ⟨_,rfl,a,_,_,_,rfl,rfl,hE1,_s (j:=0) rfl,_,rfl,a,_,_,_,rfl,rfl,hE1,_s (j:=1) rfl,few rfl,fun t nt=>q _ t (s1.trans (_h nt)) (_W s1 nt) _f⟩
 |taken c t d =>
  refine ⟨_,rfl,a,_,_,_,rfl,rfl,hE,_s (j:=0) rfl,few rfl,fun p np=>⟨p,_,rfl,.inr (.of _f),rfl,rfl,_,rfl,_u (by trivial) ?_⟩⟩;have s1:=_h (o:=.tup [.str "born",.str "dead"]) np;have hE1:=s1.sqt hE;refine ⟨_,rfl,a,_,_,_,rfl,rfl,hE1,_s (j:=0) rfl,rfl,_,rfl,_V (by trivial) ?_⟩;exact ⟨_,rfl,a,_,_,_,rfl,rfl,hE1,_s (j:=0) rfl,_,rfl,a,_,_,_,rfl,rfl,hE1,_s (j:=1) rfl,_,rfl,a,_,_,_,rfl,rfl,hE1,_s (j:=2) rfl,few rfl,fun t nt=>q _ t (s1.trans (_h nt)) (_W s1 nt) _f⟩
 |union x y d =>
  refine ⟨_,rfl,a,_,_,_,rfl,rfl,hE,_s (j:=0) rfl,few rfl,fun p np=>⟨p,_,rfl,.inr (.of _f),rfl,rfl,_,rfl,_u (by trivial) ?_⟩⟩;have s1:=_h (o:=.tup [.str "born",.str "dead"]) np;have hE1:=s1.sqt hE;refine ⟨_,rfl,a,_,_,_,rfl,rfl,hE1,_s (j:=0) rfl,rfl,_,rfl,_u (by trivial) ?_⟩;refine ⟨_,rfl,a,_,_,_,rfl,rfl,hE1,_s (j:=0) rfl,rfl,_,rfl,_u (by trivial) ?_⟩;refine ⟨few rfl,fun t nt=>⟨_,rfl,rfl,.ref a,_,rfl,(hx.mono s1).mono (_h nt),fun H2 u s2 hu=>?_⟩⟩;obtain ⟨b,rfl,hb⟩:=hu;refine ⟨_,rfl,?_⟩;dsimp only [_eO];refine _dx hb (fun h=>absurd h.1 (show ¬(1:Nat)=0 by decide)) fun H3 c s3 hc=>?_;refine ⟨t,c,[.str "tie"],[.str (_g x y).1,.str (_g x y).2,.int d],rfl,rfl,.of (s3 _ _ (s2 _ _ _f)),hc,by simp,few rfl,fun h=>absurd h (by simp),fun _ z nz=>?_⟩;have s4:=(s1.trans (_h nt)).trans (s2.trans s3);exact q _ z (s4.trans (_h nz)) (_W s4 nz) _f
theorem _jr: _dL P base T:=by
 refine Fun.okY T._c1.F _ju fun cdv A outer s H vs Q E hr h=>?_;obtain ⟨x,rfl,h⟩:=h;refine ⟨_,(_i (_w (X6 (Wf K (by rfl) T.n_isinstance (_a (pv 0) (_a (Wi (v:=.ty "str") (by rfl) T.n_str VI rfl) _b))) (XG (YM W5 (pv 0) (Xv (v:=.ref T.a_STEP_LETTERS) (by rfl) T.m_STEP_LETTERS rfl) (by rfl)))))),?_⟩;rcases h with ⟨ty,hk,ks,q⟩|⟨l,rfl,q⟩
 ·exact ⟨_,rfl,_,.ty "str",_,_,rfl,rfl,hk,ks,_,rfl,Yb q⟩
 refine ⟨_,rfl,_,.ty "str",_,_,rfl,rfl,.of (.str _),T.kss',_,rfl,Yt ⟨_,rfl,T.a_STEP_LETTERS,_,rfl,.inr (T._ip _),rfl,rfl,?_⟩⟩;have e:(if false=true then !XB (.str l) (XD.map V.str) else XB (.str l) (XD.map V.str))=WX l:=_bp l XD;rw [←e] at q;exact q
theorem _nX: _ay P base T:=by
 refine Fun.okY T._el.F _lf fun cdv A outer s H vs Q E hr h=>?_;obtain ⟨a,b,rfl,q⟩:=h;refine ⟨_,(_i (_w (_R (_a (_X (_pv rfl) (by rfl) T.n_min _iA (_a (pv 0) (_a (pv 1) _b))) (_a (_X (_kp rfl) (by rfl) T.n_max _ao (_a (pv 0) (_a (pv 1) _b))) _b))))),?_⟩;refine ⟨_,rfl,_,rfl,_,_,rfl,_,rfl,_,rfl,_,_,rfl,few rfl,fun p np=>?_⟩;rw [_pY,_mD];exact q _ p (_h np) np _f
theorem _pl: _fs P base T:=by
 refine Fun.okY T._ah.F _oA fun cdv A outer s H vs Q E hr h=>?_;obtain ⟨b,dx,rfl,h0,q⟩:=h
 refine ⟨_,(_k (Xk (pv 0) JK rfl)
   (_k (Xk (pv 0) JC rfl)
   (_k (Xk (pv 0) JK rfl)
   (_k (Xk (pv 0) JK rfl)
   (_i (Xk (pv 0) JK rfl)))))),?_⟩
 refine fun k nk=>⟨_,rfl,b,T.cB,dx,[],rfl,(_d (_t h0 nk)).trans h0,T.lB_,T.nBkept,Qq (m:=10) (Qy rfl) (by decide),?_⟩;obtain ⟨g1,p1,s1,m1⟩:=Wy (fs:=[]) "kept" (.dT []) h0 nk;generalize hH1:_c (_c H k (.dT [])) b (.ins T.cB dx (_q "kept" (.ref k) ([])))=H1 at *;refine fun bi nbi=>⟨_,rfl,b,T.cB,dx,_q "kept" (.ref k) [],rfl,(_d (_t g1 nbi)).trans g1,T.lB_,T.nBbirths,Qq (m:=10) (Qy rfl) (by decide),?_⟩;obtain ⟨g2,p2,s2,m2⟩:=Wy (fs:=_q "kept" (.ref k) []) "births" (.dK []) g1 nbi;generalize hH2:_c (_c H1 bi (.dK [])) b (.ins T.cB dx (_q "births" (.ref bi) (_q "kept" (.ref k) [])))=H2 at *;refine fun li nli=>⟨_,rfl,b,T.cB,dx,_q "births" (.ref bi) (_q "kept" (.ref k) []),rfl,(_d (_t g2 nli)).trans g2,T.lB_,T.nBlinks,Qq (m:=10) (Qy rfl) (by decide),?_⟩;obtain ⟨g3,p3,s3,m3⟩:=Wy (fs:=_q "births" (.ref bi) (_q "kept" (.ref k) [])) "links" (.dT []) g2 nli;generalize hH3:_c (_c H2 li (.dT [])) b (.ins T.cB dx (_q "links" (.ref li) (_q "births" (.ref bi) (_q "kept" (.ref k) []))))=H3 at *;refine fun ti nti=>⟨_,rfl,b,T.cB,dx,_q "links" (.ref li) (_q "births" (.ref bi) (_q "kept" (.ref k) [])),rfl,(_d (_t g3 nti)).trans g3,T.lB_,T.nBties,Qq (m:=10) (Qy rfl) (by decide),?_⟩;obtain ⟨g4,p4,s4,m4⟩:=Wy (fs:=_q "links" (.ref li) (_q "births" (.ref bi) (_q "kept" (.ref k) []))) "ties" (.dT []) g3 nti;generalize hH4:_c (_c H3 ti (.dT [])) b (.ins T.cB dx (_q "ties" (.ref ti) (_q "links" (.ref li) (_q "births" (.ref bi) (_q "kept" (.ref k) [])))))=H4 at *;refine fun su nsu=>⟨_,rfl,b,T.cB,dx,_q "ties" (.ref ti) (_q "links" (.ref li) (_q "births" (.ref bi) (_q "kept" (.ref k) []))),rfl,(_d (_t g4 nsu)).trans g4,T.lB_,T.nBsums,Qq (m:=10) (Qy rfl) (by decide),?_⟩;obtain ⟨g5,p5,s5,m5⟩:=Wy (fs:=_q "ties" (.ref ti) (_q "links" (.ref li) (_q "births" (.ref bi) (_q "kept" (.ref k) [])))) "sums" (.dT []) g4 nsu;generalize hH5:_c (_c H4 su (.dT [])) b (.ins T.cB dx (_q "sums" (.ref su) (_q "ties" (.ref ti) (_q "links" (.ref li) (_q "births" (.ref bi) (_q "kept" (.ref k) []))))))=H5 at *;have kb:∀{c:Addr} {o:HO} {Hx:Hp},Hx c=some o->(∀fs,o≠.ins T.cB dx fs)->∀{fs},Hx b=some (.ins T.cB dx fs)->c≠b:=fun e no fs eb z=>by subst z;rw [eb] at e;cases e;exact no _ rfl
 have dT:∀fs,HO.dT []≠.ins T.cB dx fs:=fun _ z=>by cases z
 have dK:∀fs,HO.dK []≠.ins T.cB dx fs:=fun _ z=>by cases z
 have a1:=s5 _ _ (s4 _ _ (s3 _ _ (s2 _ _ p1 (kb p1 dT g1)) (kb (s2 _ _ p1 (kb p1 dT g1)) dT g2)) (kb (s3 _ _ (s2 _ _ p1 (kb p1 dT g1)) (kb (s2 _ _ p1 (kb p1 dT g1)) dT g2)) dT g3)) (kb p1 dT g1);have a2:=s5 _ _ (s4 _ _ (s3 _ _ p2 (kb p2 dK g2)) (kb p2 dK g2)) (kb p2 dK g2);have a3:=s5 _ _ (s4 _ _ p3 (kb p3 dT g3)) (kb p3 dT g3);have a4:=s5 _ _ p4 (kb p4 dT g4);rw [_kN] at g5;have kli:k≠li:=_t (s2 _ _ p1 (kb p1 dT g1)) nli;have kti:k≠ti:=_t (s3 _ _ (s2 _ _ p1 (kb p1 dT g1)) (kb (s2 _ _ p1 (kb p1 dT g1)) dT g2)) nti;have ksu:k≠su:=_t (s4 _ _ (s3 _ _ (s2 _ _ p1 (kb p1 dT g1)) (kb (s2 _ _ p1 (kb p1 dT g1)) dT g2)) (kb (s3 _ _ (s2 _ _ p1 (kb p1 dT g1)) (kb (s2 _ _ p1 (kb p1 dT g1)) dT g2)) dT g3)) nsu;have liti:li≠ti:=_t p3 nti;have lisu:li≠su:=_t (s4 _ _ p3 (kb p3 dT g3)) nsu;have tisu:ti≠su:=_t p4 nsu;exact q H5 k bi li ti su ⟨g5,by simp [kli,kti,ksu,liti,lisu,tisu],by simp [W3],a1,a2,a3,a4,p5,fun _ h=>(nomatch h),fun _ h=>(nomatch h),fun _ h=>(nomatch h)⟩ (fun c o e cb=>s5 _ _ (s4 _ _ (s3 _ _ (s2 _ _ (s1 _ _ e cb) cb) cb) cb) cb) nk (m1 _ nbi) (m1 _ (m2 _ nli)) (m1 _ (m2 _ (m3 _ nti))) (m1 _ (m2 _ (m3 _ (m4 _ nsu))))
theorem _nN: V4 P base T:=by
 refine Fun.okY T._eK.F _nj fun cdv A outer s H vs Q E hr h=>?_;obtain ⟨v,x,B,rfl,⟨b,dx,k,bi,li,ti,su,rfl,hB⟩,h⟩:=h
 refine ⟨_,(_k (_G (PW.pt (W2 (WQ (Xx (Wf K (by rfl) T.n_isinstance (_a (pv 1) (_a (Wi (v:=.ty "str") (by rfl) T.n_str VI rfl) _b))))) (VX (WK (JF (Ye hr) (pv 1) (_T (pv 0) rfl)))))) (_i V9) _P)
   (_i (_w (_ag (Ye hr) (_T (pv 0) rfl) (pv 1) (fun _ _=>rfl))))),?_⟩
 rcases h with hf|⟨n,rfl,qe,q⟩
 ·exact hf.elim
 have dg:=DGet.k (k:=.inr n) hB.bi;rw [_cl] at dg;refine ⟨_,rfl,_,.ty "str",_,_,rfl,rfl,.of (.str _),T.kss',_,rfl,Yb ⟨_,rfl,_,rfl,b,T.cB,dx,_,_,rfl,hB.ob,T.lB_,T.nBbirths,JY,bi,_,rfl,dg,_,rfl,?_⟩⟩;cases hb:_3 n B.kept with
 |none=>exact (qe hb).elim
 |some p =>
  rw [hb] at dg;exact Yb ⟨_,rfl,b,T.cB,dx,_,_,rfl,hB.ob,T.lB_,T.nBbirths,JY,_,rfl,bi,.ref p.2,rfl,dg,q p hb⟩
theorem _jU (Xf:V4 P base T):J5 P base T:=by
 refine Fun.okY T._fy.F _km fun cdv A outer s H vs Q E hr h=>?_;obtain ⟨v,x,B,rfl,hv,h⟩:=h;refine ⟨_,(_i (_w (_n _v (_U (pv 0) T.lB_ Xf hr (_a (pv 1) _b)) _j (fun _ _=>rfl)))),?_⟩;obtain ⟨b,dx,k,bi,li,ti,su,rfl,hB⟩:=id hv;refine ⟨_,rfl,b,dx,_,rfl,hB.ob,rfl,_,rfl,rfl,.ref b,x,B,rfl,hv,?_⟩;rcases h with hf|⟨n,rfl,qe,q⟩
 ·exact hf.elim
 refine .inr ⟨n,rfl,qe,fun p hp=>?_⟩;obtain ⟨hm,hn⟩:=_aS hp;have hE:=hB.en p hm
 obtain ⟨n',s,d,f,m,he⟩:∃n' s d f m,p.1=.born n' s d f m:=by
  cases e:p.1 with
  |born n' s d f m=>exact ⟨n',s,d,f,m,rfl⟩
  |_=>rw [e] at hn;cases hn
 rw [he] at hE;exact ⟨p.2,_,_,_,rfl,rfl,hE,_s (j:=2) rfl,q p hp n' s d f m he⟩
theorem _jX (Xf:V4 P base T):Je P base T:=by
 refine Fun.okY T._cO.F _qz fun cdv A outer s H vs Q E hr h=>?_;obtain ⟨v,x,B,rfl,hv,h⟩:=h;refine ⟨_,(_i (_w (_n _v (_U (pv 0) T.lB_ Xf hr (_a (pv 1) _b)) _j (fun _ _=>rfl)))),?_⟩;obtain ⟨b,dx,k,bi,li,ti,su,rfl,hB⟩:=id hv;refine ⟨_,rfl,b,dx,_,rfl,hB.ob,rfl,_,rfl,rfl,.ref b,x,B,rfl,hv,?_⟩;rcases h with hf|⟨n,rfl,qe,q⟩
 ·exact hf.elim
 refine .inr ⟨n,rfl,qe,fun p hp=>?_⟩;obtain ⟨hm,hn⟩:=_aS hp;have hE:=hB.en p hm
 obtain ⟨n',s,d,f,m,he⟩:∃n' s d f m,p.1=.born n' s d f m:=by
  cases e:p.1 with
  |born n' s d f m=>exact ⟨n',s,d,f,m,rfl⟩
  |_=>rw [e] at hn;cases hn
 rw [he] at hE;exact ⟨p.2,_,_,_,rfl,rfl,hE,_s (j:=3) rfl,q p hp n' s d f m he⟩
theorem _lK (Vc:J5 P base T) (Wp:Je P base T):_ci P base T:=by
 refine Fun.okY T._cY.F _nc fun cdv A outer s H vs Q E hr h=>?_;obtain ⟨v,n,s,d,B,rfl,hv,kn,q⟩:=h;refine ⟨_,(_i (_w (_cB (YM _1 (pv 1) _p (_z _)) (XG (X6 (YM _1 (_U (pv 0) T.lB_ Vc hr (_a (pv 1) _b)) (pv 2) (_z _)) (XG (YM _hp (_U (pv 0) T.lB_ Wp hr (_a (pv 1) _b)) (pv 3) (_z _)))))))),?_⟩;obtain ⟨b,dx,k,bi,li,ti,su,rfl,hB⟩:=id hv;refine ⟨_,rfl,rfl,_,rfl,?_⟩;by_cases hn:n=""
 ·have e:XN B n s d=true:=by unfold XN;rw [Qx hn];rfl
  rw [e] at q;exact _V (by rw [Xq];exact Qx hn) q
 refine _u (by rw [Xq];exact Qs hn) ?_;have e0:XN B n s d=(decide (X4 B n=s)&&decide (Yr B n<d)):=by unfold XN;rw [Qs hn];rfl
 rw [e0] at q;refine ⟨_,rfl,b,dx,_,rfl,hB.ob,rfl,_,rfl,rfl,.ref b,.str n,B,rfl,hv,.inr ⟨n,rfl,fun no=>absurd no (kn hn),fun p hp n' s' d' f m he=>?_⟩⟩;rw [_aL hp he] at q;refine ⟨_,rfl,rfl,_,rfl,?_⟩;by_cases hs:s'=s
 ·rw [Qx hs,GH] at q;refine _V (by rw [Xq];exact Qx hs) ?_;refine ⟨_,rfl,b,dx,_,rfl,hB.ob,rfl,_,rfl,rfl,.ref b,.str n,B,rfl,hv,.inr ⟨n,rfl,fun no=>absurd no (kn hn),fun p2 hp2 n2 s2 d2 f2 m2 he2=>?_⟩⟩;rw [_ae hp2 he2] at q;exact ⟨_,rfl,_,_,rfl,rfl,q⟩
 ·rw [Qs hs,GQ] at q;exact _u (by rw [Xq];exact Qs hs) q
theorem _kG (Ut:_aD P base T) (_cJ:_fr P base T) (Wp:Je P base T) (_aR:_ci P base T):_ep P base T:=by
 refine Fun.okY T._dQ.F _hb fun cdv A outer s H vs Q E hr h=>?_;obtain ⟨v,x,B,e,rfl,hv,hx,kn,q⟩:=h
 refine ⟨_,(_k (_G (_C _1 (_n _v (pv 1) _j (fun _ _=>rfl)) _p (_z _)) (_i (_w (X6 (_U (pv 0) T.lB_ _aR hr (_a (_n _v (pv 1) _j (fun _ _=>rfl)) (_a _p (_a (_n _v (pv 1) _j (fun _ _=>rfl)) _b)))) (XG (_U (pv 0) T.lB_ _aR hr (_a (_n _v (pv 1) _j (fun _ _=>rfl)) (_a _p (_a (_n _v (pv 1) _j (fun _ _=>rfl)) _b)))))))) _P)
   (_k (_H (i:=2) _hb.nd rfl (Or.inl rfl) (_L Ut hr (_a (pv 1) _b)))
   (_k (_G (PW.pt (UC (_C _1 (_X YQ (by rfl) T.n_len Yw (_a (pv 2) _b)) _j (_z _)) (UJ (_C _1 (_n Yl (pv 2) _j (fun _ _=>rfl)) (_n Yl (pv 2) _j (fun _ _=>rfl)) (_z _))))) (_i (_w Xg)) _P)
   (_k (_G (PW.pt (UC (_C _1 (_n _v (pv 1) _j (fun _ _=>rfl)) _p (_z _)) (UJ (_C Uh (_U (pv 0) T.lB_ Wp hr (_a (_n _v (pv 1) _j (fun _ _=>rfl)) _b)) (_U (pv 0) T.lB_ Wp hr (_a (_n _v (pv 1) _j (fun _ _=>rfl)) _b)) (_z _))))) (_i (_w Xg)) _P)
   (_i (_w (_X (_c0 rfl) (by rfl) T.n_all _bK (_a (Xj rfl (Xs (N:=["name","entry","self"]) ["self","entry"] [none,some 1,some 0] rfl (by trivial) (by trivial) (by rfl) (by rfl) (by rfl) (by rfl) (by rfl)) (YF (pv 2)) (fun _ _ _=>(_D (i:=0) _mk rfl (Or.inl rfl))) (fun _ _ _=>_ad) (fun _ _ _=>(YM Uh (_L _cJ hr (_a (pv 1) _b)) (_U (pv 2) T.lB_ Wp hr (_a (pv 0) _b)) (_z _)))) _b)))))))),?_⟩
 obtain ⟨b,dx,k,bi,li,ti,su,rfl,hB⟩:=id hv;obtain ⟨a,rfl,hE⟩:=id hx;by_cases hb:e.isBorn=true
 ·cases e with
  |born n s d f m =>
   have kf:f≠""->Known B f:=fun h=>kn f (by simp [Ent.named,h]);have km:m≠""->Known B m:=fun h=>kn m (by simp [Ent.named,h]);have q1:=q _ (Same.refl H);have ef:WH B (.born n s d f m)=(XN B f "he" d&&XN B m "she" d):=rfl;rw [ef] at q1;refine ⟨_,rfl,a,_,_,_,rfl,rfl,hE,_s (j:=0) rfl,rfl,_,rfl,_V (by trivial) ⟨_,rfl,b,dx,_,rfl,hB.ob,rfl,_,rfl,a,_,_,_,rfl,rfl,hE,_s (j:=4) rfl,_,rfl,a,_,_,_,rfl,rfl,hE,_s (j:=3) rfl,rfl,.ref b,f,"he",d,B,rfl,hv,kf,_,rfl,X1 (fun h1=>?_) (fun h1=>?_)⟩⟩
   ·rw [h1,GH] at q1;exact ⟨_,rfl,b,dx,_,rfl,hB.ob,rfl,_,rfl,a,_,_,_,rfl,rfl,hE,_s (j:=5) rfl,_,rfl,a,_,_,_,rfl,rfl,hE,_s (j:=3) rfl,rfl,.ref b,m,"she",d,B,rfl,hv,km,q1⟩
   ·rw [h1,GQ] at q1;exact q1
  |_=>cases hb
 replace hb:=Rm.mpr hb;rw [_eu hb] at q
 have w0:∃w:Str,(e.row.map kV)[0]?=some (.str w)∧w≠"born":=by
  cases e with
  |born=>cases hb
  |_=>exact ⟨_,rfl,by trivial⟩
 obtain ⟨w,hw,hwb⟩:=w0;refine ⟨_,rfl,a,_,_,_,rfl,rfl,hE,_s hw,rfl,_,rfl,_u (by rw [Xq];exact Qs hwb) ?_⟩;refine ⟨_,rfl,rfl,.ref a,e,rfl,hx,fun H1 D s1 nD hD=>?_⟩;dsimp only [_B];refine X8 (fun σ H2=>σ=[some (.ref b),some (.ref a),some (.ref D)]∧H2=H1∧e.same=false) (fun nx rest=>?_) (fun σ H2 hJ=>?_)
 ·cases e with
  |born=>cases hb
  |_ =>
   refine ⟨_,rfl,D,_,rfl,.inl hD,rfl,_,rfl,_V rfl ⟨_,rfl,D,_,_,_,rfl,rfl,hD,_s (j:=0) rfl,_,rfl,D,_,_,_,rfl,rfl,hD,_s (j:=1) rfl,rfl,_,rfl,?_⟩⟩;refine X1 (fun h1=>?_) (fun h1=>rest _ _ ⟨rfl,rfl,?_⟩)
   ·have q1:=q _ s1;rw [Xq] at h1;simp only [Ent.same,h1,Bool.not_true,GQ] at q1;exact q1
   ·rw [Xq] at h1;exact h1
 obtain ⟨rfl,rfl,hsame⟩:=hJ;have hv2:=hv.mono s1;have hB2:=hB.mono s1;have hE2:=s1.sqt hE;have kn2:∀n∈e.named,∀{P:Prop},_3 n B.kept=none->P:=fun n h _ no=>absurd no (kn n h);rw [hsame] at q;refine X8 (fun σ H3=>σ=[some (.ref b),some (.ref a),some (.ref D)]∧H3=H2∧e.early B=false) (fun nx rest=>?_) (fun σ H3 hJ=>?_)
 ·cases e with
  |born=>cases hb
  |taken c t d =>
   refine ⟨_,rfl,a,_,_,_,rfl,rfl,hE2,_s (j:=0) rfl,rfl,_,rfl,_V (by trivial) ?_⟩;refine ⟨_,rfl,b,dx,_,rfl,hB2.ob,rfl,_,rfl,a,_,_,_,rfl,rfl,hE2,_s (j:=2) rfl,rfl,.ref b,.str t,B,rfl,hv2,.inr ⟨t,rfl,kn2 t (by simp [Ent.named]),fun p hp n' s' d' f m he=>?_⟩⟩;refine ⟨_,rfl,b,dx,_,rfl,hB2.ob,rfl,_,rfl,a,_,_,_,rfl,rfl,hE2,_s (j:=1) rfl,rfl,.ref b,.str c,B,rfl,hv2,.inr ⟨c,rfl,kn2 c (by simp [Ent.named]),fun p2 hp2 n2 s2 d2 f2 m2 he2=>?_⟩⟩;have e1:=_ae hp he;have e2:=_ae hp2 he2;refine ⟨_,_,rfl,rfl,_,rfl,X1 (fun h1=>?_) (fun h1=>rest _ _ ⟨rfl,rfl,?_⟩)⟩
   ·have q1:=q _ s1
    have e3:(Ent.taken c t d).early B=true:=by
     show decide (Yr B c≤Yr B t)=true;rw [e1,e2];exact h1
    rw [e3] at q1;exact q1
   ·show decide (Yr B c≤Yr B t)=false;rw [e1,e2];exact h1
  |_=>exact ⟨_,rfl,a,_,_,_,rfl,rfl,hE2,_s (j:=0) rfl,rfl,_,rfl,_u (by trivial) (Yb (rest _ _ ⟨rfl,rfl,rfl⟩))⟩
 obtain ⟨rfl,rfl,hearly⟩:=hJ;rw [hearly] at q;refine ⟨_,rfl,D,rfl,⟨_,hD⟩,JX (e.named.map fun n=>V.bl (decide (Yr B n≤e.day))) ?len (fun σ=>∃v,σ=[v,some (.ref a),some (.ref b)]) ⟨_,rfl⟩ (fun i H3 hi sm=>?go) (fun H3 sm=>?stop) (fun i σ H3 x H4 y hy hσ sm hx2 C hC=>?step) (fun D2 H3 nD2 sm hD2=>?fin)⟩
 case len =>
  refine _y ?_;rw [Qc];cases e with
  |born=>cases hb
  |_=>exact Qy rfl
 case go =>
  have hi':i<(e.named.map V.str).length:=by rw [Qc] at hi ⊢;exact hi
  exact ⟨_,_,sm.sql hD,Qt hi'⟩
 case stop=>exact ⟨_,sm.sql hD,by simp⟩
 case step =>
  obtain ⟨v,rfl⟩:=hσ;obtain ⟨rfl,hx3⟩:=hx2;have e1:=hx3 _ (sm.sql hD);rw [Qp] at e1 hy;obtain ⟨n,hn,rfl⟩:=QC.mp e1;rw [hn] at hy;obtain rfl:V.bl (decide (Yr B n≤e.day))=y:=Qn hy;have hB3:=hB2.mono sm;refine ⟨_,rfl,rfl,.ref a,e,rfl,hx.mono (s1.trans sm),_,rfl,b,dx,_,rfl,hB3.ob,rfl,_,rfl,rfl,.ref b,.str n,B,rfl,hv2.mono sm,.inr ⟨n,rfl,kn2 n (QE hn),fun p hp n' s' d' f m he=>⟨_,_,rfl,rfl,?_⟩⟩⟩;rw [_ae hp he] at hC;exact hC _ _ ⟨_,rfl⟩ (Same.refl _)
 case fin =>
  refine ⟨D2,e.named.map fun n=>decide (Yr B n≤e.day),rfl,by rw [hD2,QP];rfl,?_⟩;have q1:=q _ (s1.trans sm);rw [GA];exact q1
theorem _lA (_et:_dc P base T) (Ut:_aD P base T) (UQ:_bA P base T) (Xf:V4 P base T) (_dI:_ep P base T):_c6 P base T:=by
 refine Fun.okY T._fw.F _gS fun cdv A outer s H vs Q E hr h=>?_;obtain ⟨v,x,B,e,rfl,hv,hx,hok,no,q⟩:=h
 refine ⟨_,(_k (_G (WQ (Xx (_L _et hr (_a (pv 1) _b)))) (_i V9) _P)
   (_k (_G (_C Uh (_X _j2 (by rfl) T.n_len Yw (_a (_T (pv 0) rfl) _b)) (Xv (v:=.int 400) (by rfl) T.m_MOST_ENTRIES ⟨_,rfl⟩) (_z _)) (_i V9) _P)
   (_k (_G (PW.pt (UC (_C _1 (_n _v (pv 1) _j (fun _ _=>rfl)) _p (_z _)) (UJ (_C Uh (_X _ls (by rfl) T.n_len Yw (_a (_T (pv 0) rfl) _b)) (Xv (v:=.int 60) (by rfl) T.m_MOST_PEOPLE ⟨_,rfl⟩) (_z _))))) (_i V9) _P)
   (_k (Yq QH rfl (YF (_L Ut hr (_a (pv 1) _b))) (_D (i:=2) _gS.nd rfl (Or.inl rfl))
    (_i (_Y (_U (pv 0) T.lB_ Xf hr (_a (pv 2) _b)))))
   (_k (_G (WK (_gh (Ye hr) (_L UQ hr (_a (pv 1) _b)) (_T (pv 0) rfl))) (_i V9) _P)
   (_i (_G (WQ (Xx (_U (pv 0) T.lB_ _dI hr (_a (pv 1) _b)))) (_i V9) _P))))))),?_⟩
 obtain ⟨b,dx,k,bi,li,ti,su,rfl,hB⟩:=id hv;obtain ⟨h400,h60,kn',h1,hf⟩:=_hT no;obtain ⟨a,rfl,hE⟩:=id hx;refine ⟨_,rfl,rfl,.ref a,rfl,.inr ⟨e.row.map U3,hok.tv hE,e.row_len,fun H1 s1=>⟨_,rfl,?_⟩⟩⟩;rw [hok.en];have hB1:=hB.mono s1;have hE1:=s1.sqt hE;have hlen:B.keptD.length=B.kept.length:=Qc ..;refine Yb ⟨_,rfl,b,T.cB,dx,_,_,rfl,hB1.ob,T.lB_,T.nBkept,_cc,k,_,rfl,hB1.ke,_,_,rfl,rfl,_,rfl,_u (Qs (by rw [hlen];omega)) ?_⟩;dsimp only [_eh];refine X8 (fun σ H2=>σ=[some (.ref b),some (.ref a),none]∧H2=H1) (fun nx rest=>?_) (fun σ H2 hJ=>?_)
 ·cases e with
  |born n s d f m=>exact ⟨_,rfl,a,_,_,_,rfl,rfl,hE1,_s (j:=0) rfl,rfl,_,rfl,_V (by trivial) ⟨_,rfl,b,T.cB,dx,_,_,rfl,hB1.ob,T.lB_,T.nBbirths,JY,bi,_,rfl,hB1.bi,_,_,rfl,rfl,_,rfl,_u (Qs (by have:=h60 rfl;omega)) (rest _ _ ⟨rfl,rfl⟩)⟩⟩
  |_=>exact ⟨_,rfl,a,_,_,_,rfl,rfl,hE1,_s (j:=0) rfl,rfl,_,rfl,_u (by trivial) (Yb (rest _ _ ⟨rfl,rfl⟩))⟩
 obtain ⟨rfl,rfl⟩:=hJ;refine ⟨_,rfl,rfl,.ref a,e,rfl,hx.mono s1,fun H2 D s2 nD hD=>⟨D,rfl,⟨_,hD⟩,XH (xs:=e.named.map V.str) (fun i σ H3=>(∃v,σ=[some (.ref b),some (.ref a),v])∧Same H2 H3) ⟨⟨_,rfl⟩,Same.refl _⟩ ?sq ?turn ?done⟩⟩
 case sq =>
  rintro i σ H3 hi ⟨_,s3⟩;exact s3.sql hD
 case turn =>
  rintro i x σ H3 hx3 ⟨⟨v,rfl⟩,s3⟩;rw [Qp] at hx3;obtain ⟨n,hn,rfl⟩:=QC.mp hx3;have sa:=s1.trans (s2.trans s3);have hB3:=hB.mono sa;exact ⟨_,rfl,b,dx,_,rfl,hB3.ob,rfl,_,rfl,rfl,.ref b,.str n,B,rfl,hv.mono sa,.inr ⟨n,rfl,fun no=>absurd no (kn' n (QE hn)),fun p hp=>⟨⟨_,rfl⟩,s3⟩⟩⟩
 case done =>
  rintro σ H3 ⟨⟨v,rfl⟩,s3⟩;have sa:=s1.trans (s2.trans s3);refine ⟨_,rfl,rfl,.ref a,e,rfl,hx.mono sa,fun H4 p s4 np hp=>?_⟩;have sb:=sa.trans s4;have hB4:=hB.mono sb;have dg:=DGet.t hB4.ke hp;rw [h1] at dg;refine ⟨_,rfl,b,T.cB,dx,_,_,rfl,hB4.ob,T.lB_,T.nBkept,_cc,k,_,rfl,dg,_,rfl,Yb ?_⟩;refine ⟨_,rfl,b,dx,_,rfl,hB4.ob,rfl,_,rfl,rfl,.ref b,.ref a,B,e,rfl,hv.mono sb,hx.mono sb,kn',fun H5 s5=>⟨_,rfl,?_⟩⟩;rw [hf];exact Yb (q _ (sb.trans s5))
theorem _oP: Js P base T:=by
 refine Fun.okY T._eY.F _ne fun cdv A outer s H vs Q E hr h=>?_;obtain ⟨b,dx,k,bi,li,ti,su,B,l,n,m,rfl,hB,hl,hz,q⟩:=h;refine ⟨_,(_i (Wj (Ye hr) (_T (pv 0) rfl) (_R (_a (pv 1) (_a (pv 2) _b))) (_X (_na K) (by rfl) T.n_sorted JN (_a (_S JT (UB (Ye hr) (_T (pv 0) rfl) (_R (_a (pv 1) (_a (pv 2) _b))) (_4 _b) ⟨rfl,rfl,rfl,rfl⟩) (_4 (_a (pv 3) _b))) _b)) rfl)),?_⟩;refine ⟨_,rfl,b,T.cB,dx,_,_,rfl,hB.ob,T.lB_,T.nBlinks,_aW,li,rfl,.inr ⟨_,.inl hB.li⟩,_,rfl,_,rfl,few rfl,fun t nt=>⟨few rfl,fun z nz=>?_⟩⟩;have s1:=_h (o:=.tup [.str l,.str n]) nt;have s2:=_h (o:=.lst []) nz;have s3:=s1.trans s2;have hz0:(_c (_c H t (.tup [.str l,.str n])) z (.lst [])) z=some (.lst []):=_f;have dg:=DGet.t (k:=_Z (l,n)) (s3 _ _ hB.li) (s2 _ _ (_f (o:=.tup [.str l,.str n])));generalize _c (_c H t (.tup [.str l,.str n])) z (.lst [])=H2 at *;rw [show B.linksD=B.links.map fun q=>(_Z q.1,V.ref q.2.1) from rfl,_b0] at dg
 have rest:∀(D:Addr) (H3:Hp),Same H H3->H D=none->H3 D=some (.lst ((_A (Yj B l n++[m])).map V.str))->_gz K (YT 0) "links" (L2.start ["self","letter","begin","end"] [.ref b,.str l,.str n,.str m]) H3 fun x H4=>(_d1 (Jy (YT 1) (Jy (YT 2) VU))) (L2.start ["self","letter","begin","end"] [.ref b,.str l,.str n,.str m]) H4 fun y H5=>∃a H6,x=.ref a∧DPut H5 a y (.ref D) H6∧Q .non H6:=by
  intro D H3 sA nD0 hD;have hB3:=hB.mono sA;refine ⟨_,rfl,b,T.cB,dx,_,_,rfl,hB3.ob,T.lB_,T.nBlinks,_aW,_,rfl,_,rfl,few rfl,fun t2 nt2=>?_⟩;have sB:=_h (o:=.tup [.str l,.str n]) nt2;have hB4:=hB3.mono sB;refine ⟨li,_,rfl,DPut.t (k:=_Z (l,n)) hB4.li _f ?_,?_⟩
  ·rw [show B.linksD.length=B.links.length from Qc ..];exact _y (by omega)
  rw [show B.linksD=B.links.map fun q=>(_Z q.1,V.ref q.2.1) from rfl,Jb (f:=_Z) (fun _ _=>JB) (fun p:Addr×List Str=>V.ref p.1) B.links (l,n) (D,_A (Yj B l n++[m]))];refine q _ D (hB4.links fun q hq=>?_) ((But.of [li] (sA.trans sB)).trans (But.put hB4.li (by simp))) nD0;rcases _a8 hq with rfl|hq
  ·exact sB _ _ hD
  ·exact hB4.ll q hq
 refine ⟨_,dg,?_⟩;cases hk:_5 (l,n) B.links with
 |none =>
   have e:Yj B l n=[]:=by unfold Yj;rw [hk];rfl
   have hX:H2 z=some (.lst ((Yj B l n).map V.str)):=by rw [e];exact hz0
   refine ⟨_,rfl,few rfl,fun y ny=>⟨z,y,_,_,rfl,rfl,(_d (_t hX ny)).trans hX,_f,?len,fun p np=>⟨p,Yj B l n++[m],rfl,.of (by rw [_f,Qo];rfl),?Jk,fun D zs nD perm so=>?go⟩⟩⟩
   case len=>rw [Qc];exact QR (_y (by show _+1≤1000;omega))
   case Jk=>rw [Qm];show _+1<64;omega
   have s4:=(s3.trans (_h ny)).trans ((_h np).trans (_h (o:=.lst (zs.map V.str)) nD));have hDD:(_c (_c (_c H2 y (.lst [V.str m])) p (.lst ((Yj B l n).map V.str++[V.str m]))) D (.lst (zs.map V.str))) D=some (.lst (zs.map V.str)):=_f;rw [_cu perm so] at hDD s4 ⊢;exact rest D _ s4 (_W ((s3.trans (_h ny)).trans (_h np)) nD) hDD
 |some x =>
   have e:Yj B l n=x.2:=by unfold Yj;rw [hk];rfl
   obtain ⟨y0,hy0,ey⟩:=_cI hk;have hl2:=hB.ll y0 hy0;rw [ey] at hl2;have hX:H2 x.1=some (.lst ((Yj B l n).map V.str)):=by rw [e];exact (s3 _ _ hl2)
   refine ⟨_,rfl,few rfl,fun y ny=>⟨x.1,y,_,_,rfl,rfl,(_d (_t hX ny)).trans hX,_f,?lenb,fun p np=>⟨p,Yj B l n++[m],rfl,.of (by rw [_f,Qo];rfl),?len2b,fun D zs nD perm so=>?gob⟩⟩⟩
   case lenb=>rw [Qc];exact QR (_y (by show _+1≤1000;omega))
   case len2b=>rw [Qm];show _+1<64;omega
   have s4:=(s3.trans (_h ny)).trans ((_h np).trans (_h (o:=.lst (zs.map V.str)) nD));have hDD:(_c (_c (_c H2 y (.lst [V.str m])) p (.lst ((Yj B l n).map V.str++[V.str m]))) D (.lst (zs.map V.str))) D=some (.lst (zs.map V.str)):=_f;rw [_cu perm so] at hDD s4 ⊢;exact rest D _ s4 (_W ((s3.trans (_h ny)).trans (_h np)) nD) hDD
theorem _kT (XI:Js P base T):_cn P base T:=by
 refine Fun.okY T._b1.F _nA fun cdv A outer s H vs Q E hr h=>?_;obtain ⟨b,dx,k,bi,li,ti,su,B0,B,n,s,d,f,m,a,rfl,hk,hb,hbi,no,hl0,hE,hB,hz,hc,q⟩:=h
 refine ⟨_,(_k (Wj (Ye hr) (_T (pv 0) rfl) (_n _v (pv 1) _j (fun _ _=>rfl)) (pv 1) rfl)
   (_k (_G (_C VP (_n _v (pv 1) _j (fun _ _=>rfl)) _p (_z _)) (_k (_Y (_U (pv 0) T.lB_ XI hr (_a _p (_a (_n _v (pv 1) _j (fun _ _=>rfl)) (_a (_n _v (pv 1) _j (fun _ _=>rfl)) _b)))))
   (_i (_Y (_U (pv 0) T.lB_ XI hr (_a _p (_a (_n _v (pv 1) _j (fun _ _=>rfl)) (_a (_n _v (pv 1) _j (fun _ _=>rfl)) _b))))))) _P)
   (_i (_G (_C VP (_n _v (pv 1) _j (fun _ _=>rfl)) _p (_z _)) (_k (_Y (_U (pv 0) T.lB_ XI hr (_a _p (_a (_n _v (pv 1) _j (fun _ _=>rfl)) (_a (_n _v (pv 1) _j (fun _ _=>rfl)) _b)))))
   (_i (_Y (_U (pv 0) T.lB_ XI hr (_a _p (_a (_n _v (pv 1) _j (fun _ _=>rfl)) (_a (_n _v (pv 1) _j (fun _ _=>rfl)) _b))))))) _P)))),?_⟩
 have hb0:_F (Bk.bornD B0) (.inr n:_l)=none:=by rw [_cl,no];rfl
 refine ⟨_,rfl,_,rfl,b,T.cB,dx,_,_,rfl,hb,T.lB_,T.nBbirths,JY,_,rfl,a,_,_,_,rfl,rfl,hE,_s (j:=1) rfl,bi,_,rfl,DPut.k (k:=.inr n) hbi (_y (Qk (Qk (_oQ B0) hl0) (by decide))),?_⟩;rw [_aZ _ hb0,←_kJ B0 n s d f m a,←hk];have bt0:But [bi,li] H (_c H bi (.dK (Bk.bornD B.kept))):=But.put hbi (by simp);generalize _c H bi (.dK (Bk.bornD B.kept))=H3 at *;have hmem:(Ent.born n s d f m,a)∈B.kept:=by rw [hk];simp
 dsimp only [_eh];refine X8 (fun σ H4=>σ=[some (.ref b),some (.ref a)]∧∃ls,BkAt K T.cB H4 b dx k bi li ti su { B with links:=ls }∧(∀c,lk ls c=(if f="" then lk B.links else _2 (_2 (lk B.links) ("F",n) f) ("f",f) n) c)∧ls.length≤B.links.length+2∧But [bi,li] H H4∧Grows H B.links ls) (fun nx rest=>?_) (fun σ H4 hJ=>?_)
 ·have hE3:=hB.en _ hmem;refine ⟨_,rfl,a,_,_,_,rfl,rfl,hE3,_s (j:=4) rfl,rfl,_,rfl,?_⟩;by_cases f0:f=""
  ·refine _u (by show (!decide (V.str f=V.str ""))=false;rw [Xq,Qx f0];rfl) (rest _ _ ⟨rfl,B.links,hB,fun c=>by rw [Qb f0],by omega,bt0,Grows.refl _ _⟩)
  have ⟨ls,hls,hB4,hF⟩:∃ls,ls=B.links∧BkAt K T.cB H3 b dx k bi li ti su { B with links:=ls }∧∀c,lk ls c=lk B.links c:=⟨B.links,rfl,hB,fun c=>rfl⟩;have hz2:ls.length≤890:=by rw [hls];exact hz
  have hz3:ls.length≤B.links.length:=by rw [hls];exact Qe _
  refine _V (by show (!decide (V.str f=V.str ""))=true;rw [Xq,Qs f0];rfl) ?_;have hE4:=hB4.en _ hmem;refine ⟨_,rfl,b,dx,_,rfl,hB4.ob,rfl,_,rfl,a,_,_,_,rfl,rfl,hE4,_s (j:=1) rfl,_,rfl,a,_,_,_,rfl,rfl,hE4,_s (j:=4) rfl,rfl,b,dx,k,bi,li,ti,su,{ B with links:=ls },"F",n,f,rfl,hB4,?p1,?p2,fun H5 D5 hB5 bt5 nD5=>?p3⟩
  case p1=>rw [V0,hF];exact hc _
  case p2=>show ls.length≤900;omega
  have hE5:=hB5.en _ hmem;refine ⟨_,rfl,b,dx,_,rfl,hB5.ob,rfl,_,rfl,a,_,_,_,rfl,rfl,hE5,_s (j:=4) rfl,_,rfl,a,_,_,_,rfl,rfl,hE5,_s (j:=1) rfl,rfl,b,dx,k,bi,li,ti,su,_,"f",f,n,rfl,hB5,?p4,?p5,fun H6 D6 hB6 bt6 nD6=>?p6⟩
  case p4 =>
   rw [V0];show (lk (putA ls _ (D5,_A (lk ls ("F",n)++[f]))) _).length≤61;rw [W6,Ja (show Str.ofString "f"≠Str.ofString "F" by trivial),hF];exact hc _
  case p5 =>
   have:=Wn ls ("F",n) (D5,_A (lk ls ("F",n)++[f]));show (putA ls _ (D5,_A (lk ls ("F",n)++[f]))).length≤900;omega
  refine rest _ _ ⟨rfl,_,hB6,fun c=>?_,?_,?_,((hls▸Grows.refl _ _:Grows H B.links ls).put (bt0.al _ nD5)).put (bt0.al _ (bt5.al _ nD6))⟩
  ·show lk (putA (putA ls ("F",n) (D5,_A (lk ls ("F",n)++[f]))) ("f",f) (D6,_A (lk (putA ls ("F",n) (D5,_A (lk ls ("F",n)++[f]))) ("f",f)++[n]))) c=_;rw [W6];rw [Qa f0];exact JJ (fun c=>(W6 ..).trans (JJ hF ..)) ..
  ·have a1:=Wn ls ("F",n) (D5,_A (lk ls ("F",n)++[f]));have a2:=Wn (putA ls ("F",n) (D5,_A (lk ls ("F",n)++[f]))) ("f",f) (D6,_A (lk (putA ls ("F",n) (D5,_A (lk ls ("F",n)++[f]))) ("f",f)++[n]));show (putA (putA ls ("F",n) (D5,_A (lk ls ("F",n)++[f]))) ("f",f) (D6,_A (lk (putA ls ("F",n) (D5,_A (lk ls ("F",n)++[f]))) ("f",f)++[n]))).length≤_;omega
  ·exact bt0.trans ((bt5.mono (by simp)).trans (bt6.mono (by simp)))
 obtain ⟨rfl,ls,hB4,hF,hl4,bt4,gr⟩:=hJ;have hE3:=hB4.en _ hmem;refine ⟨_,rfl,a,_,_,_,rfl,rfl,hE3,_s (j:=5) rfl,rfl,_,rfl,?_⟩;by_cases m0:m=""
 ·refine _u (by show (!decide (V.str m=V.str ""))=false;rw [Xq,Qx m0];rfl) (q _ ls hB4 (fun c=>?_) (by omega) bt4 gr);unfold Xm;rw [Qb m0];exact hF c
 ·have h1:∀c:Str×Str,c.1≠"F"->c.1≠"f"->((if f="" then lk B.links else _2 (_2 (lk B.links) ("F",n) f) ("f",f) n) c).length≤61:=by
   intro c c1 c2;by_cases f0:f=""
   ·rw [Qb f0];exact hc c
   ·rw [Qa f0,Ja c2,Ja c1];exact hc c
  refine _V (by show (!decide (V.str m=V.str ""))=true;rw [Xq,Qs m0];rfl) ?_;have hE4:=hB4.en _ hmem;refine ⟨_,rfl,b,dx,_,rfl,hB4.ob,rfl,_,rfl,a,_,_,_,rfl,rfl,hE4,_s (j:=1) rfl,_,rfl,a,_,_,_,rfl,rfl,hE4,_s (j:=5) rfl,rfl,b,dx,k,bi,li,ti,su,{ B with links:=ls },"M",n,m,rfl,hB4,?r1,?r2,fun H5 D5 hB5 bt5 nD5=>?r3⟩
  case r1=>rw [V0,hF];exact (h1 _ (show Str.ofString "M"≠Str.ofString "F" by trivial) (show Str.ofString "M"≠Str.ofString "f" by trivial))
  case r2=>show ls.length≤900;omega
  have hE5:=hB5.en _ hmem;refine ⟨_,rfl,b,dx,_,rfl,hB5.ob,rfl,_,rfl,a,_,_,_,rfl,rfl,hE5,_s (j:=5) rfl,_,rfl,a,_,_,_,rfl,rfl,hE5,_s (j:=1) rfl,rfl,b,dx,k,bi,li,ti,su,_,"m",m,n,rfl,hB5,?r4,?r5,fun H6 D6 hB6 bt6 nD6=>?r6⟩
  case r4 =>
   rw [V0];show (lk (putA ls _ (D5,_A (lk ls ("M",n)++[m]))) _).length≤61;rw [W6,Ja (show Str.ofString "m"≠Str.ofString "M" by trivial),hF];exact (h1 _ (show Str.ofString "m"≠Str.ofString "F" by trivial) (show Str.ofString "m"≠Str.ofString "f" by trivial))
  case r5 =>
   have:=Wn ls ("M",n) (D5,_A (lk ls ("M",n)++[m]));show (putA ls _ (D5,_A (lk ls ("M",n)++[m]))).length≤900;omega
  refine q _ _ hB6 (fun c=>?_) ?_ ?_ ((gr.put (bt4.al _ nD5)).put (bt4.al _ (bt5.al _ nD6)))
  ·show lk (putA (putA ls ("M",n) (D5,_A (lk ls ("M",n)++[m]))) ("m",m) (D6,_A (lk (putA ls ("M",n) (D5,_A (lk ls ("M",n)++[m]))) ("m",m)++[n]))) c=_;rw [W6];unfold Xm;rw [Qa m0];exact JJ (fun c=>(W6 ..).trans (JJ hF ..)) ..
  ·have a1:=Wn ls ("M",n) (D5,_A (lk ls ("M",n)++[m]));have a2:=Wn (putA ls ("M",n) (D5,_A (lk ls ("M",n)++[m]))) ("m",m) (D6,_A (lk (putA ls ("M",n) (D5,_A (lk ls ("M",n)++[m]))) ("m",m)++[n]));show (putA (putA ls ("M",n) (D5,_A (lk ls ("M",n)++[m]))) ("m",m) (D6,_A (lk (putA ls ("M",n) (D5,_A (lk ls ("M",n)++[m]))) ("m",m)++[n]))).length≤_;omega
  ·exact bt4.trans ((bt5.mono (by simp)).trans (bt6.mono (by simp)))
theorem _pc (_cL:_dL P base T) (Xf:V4 P base T):_ac P base T:=by
 refine Fun.okY T._dG.F _le fun cdv A outer s H vs Q E hr h=>?_;obtain ⟨v,x,y,B,rfl,hv,h⟩:=h
 refine ⟨_,(_k (_G (WQ (Xx (_L _cL hr (_a (pv 1) _b)))) (_i V9) _P)
   (_k (_Y (_U (pv 0) T.lB_ Xf hr (_a (pv 2) _b)))
   (_i (_w (UW _kB (by rfl) T.n_list _lE (_a (UB (Ye hr) (_T (pv 0) rfl) (_R (_a (pv 1) (_a (pv 2) _b))) (_4 _b) ⟨rfl,rfl,rfl,rfl⟩) _b)))))),?_⟩
 obtain ⟨b,dx,k,bi,li,ti,su,rfl,hB⟩:=id hv;rcases h with hf|⟨l,rfl,q1,q23⟩
 ·exact hf.elim
 refine ⟨_,rfl,rfl,.str l,rfl,.inr ⟨l,rfl,_,rfl,?_⟩⟩;cases hl:WX l with
 |false=>exact (q1 hl).elim
 |true =>
  refine Yb ⟨_,rfl,b,dx,_,rfl,hB.ob,rfl,_,rfl,rfl,.ref b,y,B,rfl,hv,?_⟩;rcases q23 hl with hf|⟨n,rfl,q2,q3⟩
  ·exact hf.elim
  refine .inr ⟨n,rfl,q2,fun p hp=>?_⟩;have kn:Known B n:=by unfold Known;rw [hp];simp
  refine ⟨_,rfl,b,T.cB,dx,_,_,rfl,hB.ob,T.lB_,T.nBlinks,_aW,li,rfl,.inr ⟨_,.inl hB.li⟩,_,rfl,_,rfl,few rfl,fun t nt=>⟨few rfl,fun z nz=>?_⟩⟩;have s1:=_h (o:=.tup [.str l,.str n]) nt;have s2:=_h (o:=.lst []) nz;have s3:=s1.trans s2;have dg:=DGet.t (k:=_Z (l,n)) (s3 _ _ hB.li) (s2 _ _ (_f (o:=.tup [.str l,.str n])));rw [show B.linksD=B.links.map fun q=>(_Z q.1,V.ref q.2.1) from rfl,_b0] at dg;refine ⟨_,dg,?_⟩;cases hk:_5 (l,n) B.links with
  |none =>
   have e:Yj B l n=[]:=by unfold Yj;rw [hk];rfl
   rw [e] at q3;exact ⟨z,[],rfl,.inl (.of _f),fun D nD=>q3 kn _ D (s3.trans (_h nD)) (_W s3 nD) _f⟩
  |some x =>
   have e:Yj B l n=x.2:=by unfold Yj;rw [hk];rfl
   rw [e] at q3;obtain ⟨y,hy,ey⟩:=_cI hk;have hl2:=hB.ll y hy;rw [ey] at hl2;exact ⟨x.1,_,rfl,.inl (.of (s3 _ _ hl2)),fun D nD=>q3 kn _ D (s3.trans (_h nD)) (_W s3 nD) _f⟩
theorem _nF (UF:_ay P base T) (Xf:V4 P base T):_fc P base T:=by
 refine FunD.okX (k:=1) T.F_Book_stands _eA (fun vs H Q E h=>h.1) (fun cdv A outer s H vs Q E hr h=>?_);obtain ⟨-,h⟩:=h;obtain ⟨v,a,c,B,rfl,hv,ka,kc,hlen,q⟩:=h
 refine ⟨_,(_k (_Y (_U (pv 0) T.lB_ Xf hr (_a (pv 1) _b)))
   (_k (_Y (_U (pv 0) T.lB_ Xf hr (_a (pv 2) _b)))
   (_k (_H (i:=4) _eA.nd rfl (Or.inl rfl) (UB (Ye hr) (_T (pv 0) rfl) (_L UF hr (_a (pv 1) (_a (pv 2) _b))) JC ⟨rfl,rfl,rfl,rfl⟩))
   (_k (_bR (_kZ (i:=5) rfl  _eA.nd rfl (Or.inl rfl) (Xs (N:=["tied_on","day"]) ["day"] [none,some 3] rfl (by trivial) (by trivial) (by rfl) (by rfl) (by rfl) (by rfl) (by rfl)) (_aU (pv 4)) (fun _ _ _=>(_D (i:=0) _jN rfl (Or.inl rfl))) (fun _ _ _=>(XV (PW.pt (W2 (_C _eo (pv 1) Um (_z _)) (VX (_C _bG (pv 0) (pv 1) (_z _))))))) (fun _ _ _=>(pv 0))))
   (_i (_w (X6 (YM _dO (_X YQ (by rfl) T.n_len Yw (_a (pv 5) _b)) _j (_z _)) (XG (YM _1 (_ag (Ye hr) (pv 4) (_X (_gq K rfl) (by rfl) T.n_max _ao (_a (pv 5) _b)) (fun _ _=>rfl)) _p (_z _)))))))))),?_⟩
 obtain ⟨b,dx,k,bi,li,ti,su,rfl,hB⟩:=id hv;refine ⟨_,rfl,b,dx,_,rfl,hB.ob,rfl,_,rfl,rfl,.ref b,.str a,B,rfl,hv,.inr ⟨a,rfl,fun no=>absurd no ka,fun p1 hp1=>?_⟩⟩;refine ⟨_,rfl,b,dx,_,rfl,hB.ob,rfl,_,rfl,rfl,.ref b,.str c,B,rfl,hv,.inr ⟨c,rfl,fun no=>absurd no kc,fun p2 hp2=>?_⟩⟩;dsimp only;refine X8 (fun σ' H'=>∃d,σ'=[some (.ref b),some (.str a),some (.str c),some .non,some (.ref d),none]∧Same H H'∧H' d=some (.dK (YN (Yv B (_g a c))))) (fun nx hnx=>?_) ?_
 ·refine ⟨_,rfl,b,T.cB,dx,_,_,rfl,hB.ob,T.lB_,T.nBties,_jf,ti,rfl,.inr ⟨_,.inl hB.ti⟩,_,rfl,_,rfl,rfl,a,c,rfl,fun H1 t s1 nt ht=>fun z nz=>?_⟩;have s2:=_h (o:=.dK []) nz;have s3:=s1.trans s2;have dg:=DGet.t (k:=_Z (_g a c)) (s3 _ _ hB.ti) (s2 _ _ ht);rw [show B.tiesD=B.ties.map fun q=>(_Z q.1,V.ref q.2.1) from rfl,_bn (f:=_Z) (fun _ _=>JB) (fun p:Addr×List (Int×Str)=>V.ref p.1)] at dg;refine ⟨_,dg,?_⟩;cases hk:_E (_g a c) B.ties with
  |none =>
   refine hnx _ _ ⟨z,rfl,s3,?_⟩;have e:Yv B (_g a c)=[]:=by unfold Yv;rw [hk];rfl
   rw [e];exact _f
  |some x =>
   refine hnx _ _ ⟨x.1,rfl,s3,?_⟩;have e:Yv B (_g a c)=x.2:=by unfold Yv;rw [hk];rfl
   rw [e];exact s3 _ _ (hB.tt _ (V3 hk))
 rintro σ' H2 ⟨d,rfl,s2,hd⟩;have est:_a5 B a c=YX (Yv B (_g a c)):=rfl;rw [est] at q;generalize Yv B (_g a c)=l at *;have llen:(YN l).length=l.length:=Qc ..;refine ⟨d,YN l,hd,_,rfl,d,YN l,rfl,hd,fun o=>W1 (l.map fun r=>some (V.int r.1)) (_y (by rw [Qc];omega)) (fun σ=>∃w,σ=[w,some .non]) ⟨_,rfl⟩ (fun i H3 hi sm=>?go) (fun H3 sm=>?stop) (fun i σ H3 x H4 y hy hσ sm hx C hC=>?step) (fun D H3 nD sm hD=>?fin)⟩
 case go=>exact ⟨sm _ _ _f,by rw [llen];rw [Qc] at hi;exact hi⟩
 case stop=>exact ⟨sm _ _ _f,by rw [llen,Qc];exact Qe _⟩
 case step =>
  obtain ⟨w,rfl⟩:=hσ;obtain ⟨rfl,hx2⟩:=hx;rw [Qp] at hy;obtain ⟨r,hr2,rfl⟩:=QC.mp hy
  have ex:x=.int r.1:=by
   unfold YN at hx2;rw [Qp,hr2] at hx2;exact (Qn hx2).symm
  subst ex;refine ⟨_,rfl,rfl,_,rfl,_V (by rfl) (Yt ⟨_,rfl,hC _ _ ⟨_,rfl⟩ (Same.refl _)⟩)⟩
 case fin =>
  have ef:(l.map fun r=>some (V.int r.1)).filterMap id=(l.map (·.1)).map V.int:=by
   rw [Rx,QP];exact List.filterMap_eq_map▸rfl
  rw [ef] at hD;refine ⟨o,sm _ _ _f,?_⟩;have nDd:D≠d:=fun e=>by subst e;rw [_f] at nD;cases nD
  have hD4:(_c H3 d (.dK (YN l))) D=some (.lst ((l.map (·.1)).map V.int)):=(_d nDd).trans hD;have hd4:(_c H3 d (.dK (YN l))) d=some (.dK (YN l)):=_f
  have s4:Same H2 (_c H3 d (.dK (YN l))):=fun x u e=>by
   by_cases xd:x=d
   ·subst xd;rw [hd] at e;cases e;exact hd4
   ·rw [_d xd];exact sm _ _ ((_d xd).trans e)
  generalize _c H3 d (.dK (YN l))=H5 at *;refine ⟨_,rfl,D,_,rfl,.inl (.of hD4),_,_,rfl,rfl,_,rfl,?_⟩;rw [Qc,Qc];cases l with
  |nil=>exact Yb (q _ (s2.trans s4))
  |cons r0 l0 =>
   refine _V (Qx (by rw [QJ];omega)) ⟨_,rfl,_,rfl,D,(r0::l0).map (·.1),rfl,.of hD4,by simp,fun m hm hx=>?_⟩;obtain ⟨x,ex⟩:=_p5 hm;have dg:=DGet.k (k:=.inl m) hd4;rw [show YN (r0::l0)=(r0::l0).map fun q=>((.inl q.1:_l),V.str q.2) from rfl,_bn (f:=(Sum.inl:Int->_l)) _hZ V.str,ex] at dg;have q2:=q _ (s2.trans s4);rw [_ge hm hx ex] at q2;refine ⟨d,.str x,rfl,dg,rfl,?_⟩;rw [Xq];exact q2
theorem _l7 (UF:_ay P base T) (XI:Js P base T) (We:_ac P base T) (_ck:_fc P base T):_eN P base T:=by
 refine Fun.okY T._dX.F _av fun cdv A outer s H vs Q E hr h=>?_;obtain ⟨b,dx,k,bi,li,ti,su,B,a,kd,p1,p2,d,rfl,hE,hB,k1,k2,nd,tl,dl,ll,lf,q⟩:=h
 refine ⟨_,(_k (_H (i:=2) _av.nd rfl (Or.inl rfl) (_mm (Ye hr) (_T (pv 0) rfl) (_L UF hr (_a (_n _v (pv 1) _j (fun _ _=>rfl)) (_a (_n _v (pv 1) _j (fun _ _=>rfl)) _b))) JC ⟨rfl,rfl,rfl,rfl⟩))
   (_k (Wj (Ye hr) (pv 2) (_n _v (pv 1) _j (fun _ _=>rfl)) (_n _v (pv 1) _j (fun _ _=>rfl)) rfl)
   (_i (Yq QH rfl (W4 (_R (_a (_R (_a (_n _v (pv 1) _j (fun _ _=>rfl)) (_a (_n _v (pv 1) _j (fun _ _=>rfl)) _b))) (_a (_R (_a (_n _v (pv 1) _j (fun _ _=>rfl)) (_a (_n _v (pv 1) _j (fun _ _=>rfl)) _b))) _b)))) (Uf rfl (Yp (_D (i:=3) _av.nd rfl (Or.inl rfl)) (Yp (_D (i:=4) _av.nd rfl (Or.inr rfl)) X0)))
    (_k (Wj (Ye hr) (_T (pv 0) rfl) (_R (_a _p (_a (pv 3) _b))) (Xj rfl (Xs (N:=["name","end"]) ["end"] [none,some 4] rfl (by trivial) (by trivial) (by rfl) (by rfl) (by rfl) (by rfl) (by rfl)) (YF (_U (pv 0) T.lB_ We hr (_a _p (_a (pv 3) _b)))) (fun _ _ _=>(_D (i:=0) _mV rfl (Or.inl rfl))) (fun _ _ _=>(XV (_C VP (pv 0) (pv 1) (_z _)))) (fun _ _ _=>(pv 0))) rfl)
   (_i (_G (Xx (_jb (pv 0) T.lB_ T.me_Book_stands _ck (hr.mono (by decide)) T.b_Book_stands (.cons (show RelV V.non Value.none from rfl) .nil) VG (_a (pv 3) (_a (pv 4) _b)))) (_i (_Y (_U (pv 0) T.lB_ XI hr (_a _p (_a (pv 3) (_a (pv 4) _b)))))) _P))))))),?_⟩
 refine X8 (fun σ' H'=>∃y ts,σ'=[some (.ref b),some (.ref a),some (.ref y),none,none]∧BkAt K T.cB H' b dx k bi li ti su { B with ties:=ts }∧(ts.map (·.1)).Nodup∧ts.length≤B.ties.length+1∧_E (_g p1 p2) ts=some (y,Yv B (_g p1 p2))∧(∀c,YZ ts c=Yv B c)∧But [li,ti,y] H H'∧(H y=none∨y∈B.ties.map (·.2.1))∧GrowsT H B.ties ts∧SqT K H' a [.str kd,.str p1,.str p2,.int d]) (fun nx hnx=>?_) ?_
 ·refine ⟨_,rfl,b,T.cB,dx,_,_,rfl,hB.ob,T.lB_,T.nBties,_jf,ti,rfl,.inr ⟨_,.inl hB.ti⟩,_,rfl,a,_,_,_,rfl,rfl,hE,_s (j:=1) rfl,_,rfl,a,_,_,_,rfl,rfl,hE,_s (j:=2) rfl,rfl,p1,p2,rfl,fun H1 t s1 nt ht=>fun z nz=>?_⟩;have s2:=_h (o:=.dK []) nz;have s3:=s1.trans s2;have hB1:=hB.mono s1;have hB3:=hB.mono s3;have hlen:B.tiesD.length=B.ties.length:=Qc ..;have hval:_F B.tiesD (_Z (_g p1 p2))=(_E (_g p1 p2) B.ties).map fun p=>V.ref p.1:=_bn (f:=_Z) (fun _ _=>JB) (fun p:Addr×List (Int×Str)=>V.ref p.1) _ _;refine ⟨_,_Z (_g p1 p2),t,hB3.ti,rfl,s2 _ _ ht,by rw [hlen];exact _y (by omega),fun v hv=>?_,fun hn=>?_⟩
  ·rw [hval] at hv;obtain ⟨x,hk,rfl⟩:=QC.mp hv;have e:Yv B (_g p1 p2)=x.2:=by unfold Yv;rw [hk];rfl
   exact hnx _ _ ⟨x.1,B.ties,rfl,hB3,nd,by omega,by rw [hk,e],fun c=>rfl,But.of _ s3,.inr (Qg.mpr ⟨_,V3 hk,rfl⟩),GrowsT.refl _ _,s3.sqt hE⟩
  ·rw [hval] at hn;have hk:_E (_g p1 p2) B.ties=none:=by simpa using hn
   have e:Yv B (_g p1 p2)=[]:=by unfold Yv;rw [hk];rfl
   have zn:∀{x:Addr} {o:HO},H1 x=some o->x≠z:=fun h=>_t h nz;refine hnx _ _ ⟨z,B.ties++[(_g p1 p2,z,[])],rfl,hB3.newTie _f ⟨(zn hB1.bi).symm,fun q hq=>zn (hB1.tt q hq)⟩ _,?_,by rw [Qm];exact Qe _,?_,fun c=>_jq _ _ _ _ hk,?_,.inl (_W s1 nz),(fun a ha=>by rw [Qo] at ha;exact (Qh.mp ha).imp id (fun ha=>by rw [show a=z by simpa using ha];exact _W s1 nz)),?_⟩
   ·rw [Qo,QW];refine ⟨nd,by simp,fun x hx w hw ex=>?_⟩;have ew:w=_g p1 p2:=by simpa using hw
    subst ew ex;obtain ⟨p,hp,ep⟩:=Qg.mp hx;have:=_bb hk;rw [Ny] at this;exact absurd (Qx ep) (this p hp)
   ·rw [_aP,hk,e];unfold _E;rw [Qb rfl];rfl
   ·exact (But.of _ s3).trans (But.put hB3.ti (by simp))
   ·exact X7 (s3.sqt hE) hB3.ti (fun _ z=>by cases z) (fun _ _ z=>by cases z)
 rintro σ' H1 ⟨y,ts,rfl,hB1,J4,tl1,hf,htf,bt1,hy0,grT,hE1⟩;generalize hl:Yv B (_g p1 p2)=l at *;have hy:H1 y=some (.dK (YN l)):=hB1.tt _ (V3 hf);have hB2:=hB1.putTie J4 hf (putA l d kd);obtain ⟨pa1,pa2⟩:=_iw (l':=putA l d kd) J4 hf;have grT2:GrowsT H B.ties (putA ts (_g p1 p2) (y,putA l d kd)):=fun a ha=>grT a (by rw [←pa1];exact ha)
 have tl2:(putA ts (_g p1 p2) (y,putA l d kd)).length=ts.length:=by
  have:=QB List.length pa1
  rwa [Qc,Qc] at this
 have htf2:∀c,YZ (putA ts (_g p1 p2) (y,putA l d kd)) c=if c=_g p1 p2 then putA l d kd else Yv B c:=fun c=>by rw [_ni,htf]
 have UX:((putA ts (_g p1 p2) (y,putA l d kd)).map (·.1)).Nodup:=by rw [pa2];exact J4
 have hE2:SqT K (_c H1 y (.dK (YN (putA l d kd)))) a [.str kd,.str p1,.str p2,.int d]:=X7 hE1 hy (fun _ z=>by cases z) (fun _ _ z=>by cases z);have bt2:But [li,ti,y] H (_c H1 y (.dK (YN (putA l d kd)))):=bt1.trans (But.put hy (by simp));have dlen:(YN l).length=l.length:=Qc ..;refine ⟨_,rfl,a,_,_,_,rfl,rfl,hE1,_s (j:=0) rfl,_,rfl,_,rfl,a,_,_,_,rfl,rfl,hE1,_s (j:=3) rfl,y,_,rfl,DPut.k (k:=.inl d) hy (by rw [dlen];exact _y (by omega)),?_⟩;rw [show Ym (YN l) (.inl d) (.str kd)=YN (putA l d kd) from Jb (f:=(Sum.inl:Int->_l)) _hZ V.str l d kd];generalize _c H1 y (.dK (YN (putA l d kd)))=H2 at *;generalize putA ts (_g p1 p2) (y,putA l d kd)=ts2 at *;generalize hst:YX (putA l d kd)=st at *;have ldl:(putA l d kd).length≤801:=by have:=Wn l d kd;omega
 refine ⟨_,rfl,a,_,_,_,rfl,rfl,hE2,_s (j:=1) rfl,_,rfl,a,_,_,_,rfl,rfl,hE2,_s (j:=2) rfl,few rfl,fun t1 nt1=>?_⟩;have s1:=_h (o:=.tup [.str p1,.str p2]) nt1;refine ⟨_,rfl,a,_,_,_,rfl,rfl,(s1.sqt hE2),_s (j:=2) rfl,_,rfl,a,_,_,_,rfl,rfl,(s1.sqt hE2),_s (j:=1) rfl,few rfl,fun t2 nt2=>?_⟩;have s2:=_h (o:=.tup [.str p2,.str p1]) nt2;refine ⟨few rfl,fun t3 nt3=>?_⟩;have s3:=_h (o:=.tup [.ref t1,.ref t2]) nt3;have s123:=s1.trans (s2.trans s3);refine ⟨t3,rfl,⟨_,.of _f⟩,VH (xs:=[.ref t1,.ref t2]) (fun i σ H5=>∃ls v3 v4,σ=[some (.ref b),some (.ref a),some (.ref y),v3,v4]∧BkAt K T.cB H5 b dx k bi li ti su { B with links:=ls,ties:=ts2 }∧(∀c,lk ls c=(match i with|0=>lk B.links|1=>_O (lk B.links) st p1 p2|_=>_O (_O (lk B.links) st p1 p2) st p2 p1) c)∧ls.length≤B.links.length+2*i∧But [li,ti,y] H H5∧SqT K H5 t1 [.str p1,.str p2]∧SqT K H5 t2 [.str p2,.str p1]∧SqT K H5 t3 [.ref t1,.ref t2]∧Grows H B.links ls) ?start ?list ?turn ?done⟩
 case start=>exact ⟨B.links,none,none,rfl,hB2.mono s123,fun c=>rfl,by omega,bt2.trans (But.of _ s123),(s2.trans s3).sqt (.of _f),s3.sqt (.of _f),.of _f,Grows.refl _ _⟩
 case list =>
  rintro i σ H5 _ ⟨ls,v3,v4,rfl,_,_,_,_,_,_,h3,_⟩;exact h3
 case done =>
  rintro σ H5 ⟨ls,v3,v4,rfl,hB5,hlk,hls,bt5,_,_,_,gr⟩;exact q H5 ls ts2 y hB5 UX (by omega) htf2 hlk (by simp at hls;omega) bt5 hy0 grT2 gr
 case turn =>
  rintro i x σ H5 hx ⟨ls,v3,v4,rfl,hB5,hlk,hls,bt5,h1,h2,h3,gr⟩
  have pick:∃tq u w,x=.ref tq∧SqT K H5 tq [.str u,.str w]∧Known B u∧Known B w∧_g u w=_g p1 p2∧i≤1∧∀F:Str×Str->List Str,(∀c,F c=_O (match i with|0=>lk B.links|1=>_O (lk B.links) st p1 p2|_=>_O (_O (lk B.links) st p1 p2) st p2 p1) st u w c)->∀c,F c=(match i+1 with|0=>lk B.links|1=>_O (lk B.links) st p1 p2|_=>_O (_O (lk B.links) st p1 p2) st p2 p1) c:=by
   match i,hx with
   |0,hx=>exact ⟨t1,p1,p2,(Qn hx).symm,h1,k1,k2,rfl,by omega,fun F hF=>hF⟩
   |1,hx=>exact ⟨t2,p2,p1,(Qn hx).symm,h2,k2,k1,_cv p2 p1,by omega,fun F hF=>hF⟩
  obtain ⟨tq,u,w,rfl,hq,ku,kw,hpr,i1,hG⟩:=pick
  have gl:∀c,((match i with|0=>lk B.links|1=>_O (lk B.links) st p1 p2|_=>_O (_O (lk B.links) st p1 p2) st p2 p1) c).length≤61:=by
   intro c
   match i,i1 with
   |0,_=>have:=lf c;exact Nk this
   |1,_=>exact Qk (_bQ ..) (by have:=lf c;omega)
  generalize (match i with|0=>lk B.links|1=>_O (lk B.links) st p1 p2|_=>_O (_O (lk B.links) st p1 p2) st p2 p1)=G at *;refine ⟨tq,_,rfl,hq,rfl,_,_,rfl,_,_,rfl,rfl,?_⟩;dsimp only [_B];refine X8 (fun σ' H'=>∃D2,σ'=[some (.ref b),some (.ref a),some (.ref y),some (.str u),some (.str w)]∧BkAt K T.cB H' b dx k bi li ti su { B with links:=putA ls ("S",u) (D2,(G ("S",u)).filter fun n=>decide (n≠w)),ties:=ts2 }∧But [li,ti,y] H H'∧SqT K H' t1 [.str p1,.str p2]∧SqT K H' t2 [.str p2,.str p1]∧SqT K H' t3 [.ref t1,.ref t2]∧H D2=none) (fun nx hnx=>?_) ?_
  ·refine ⟨_,rfl,b,dx,_,rfl,hB5.ob,rfl,_,rfl,rfl,.ref b,.str "S",.str u,_,rfl,⟨b,dx,k,bi,li,ti,su,rfl,hB5⟩,.inr ⟨"S",rfl,fun h=>absurd h (by trivial),fun _=>.inr ⟨u,rfl,fun no=>absurd no ku,fun _ H6 D s6 nD hD0=>?_⟩⟩⟩;have eL:Yj { B with links:=ls,ties:=ts2 } "S" u=G ("S",u):=hlk ("S",u);rw [eL] at hD0;have hD:SqL K H6 D ((G ("S",u)).map V.str):=.of hD0;refine ⟨D,rfl,⟨_,hD⟩,W1 ((G ("S",u)).map (VO w)) (_y (by rw [Qc];have:=gl ("S",u);omega)) (fun σ=>∃v,σ=[v,some (.str w)]) ⟨_,rfl⟩ (fun j H7 hj sm=>?go) (fun H7 sm=>?stop) (fun j σ H7 x H8 o ho hσ sm hx C hC=>?step) (fun D2 H7 nD2 sm hD2=>?fin)⟩
   case go=>exact ⟨_,_,sm.sql hD,Qt (by rw [Qc] at hj ⊢;exact hj)⟩
   case stop=>exact ⟨_,sm.sql hD,by rw [Qc,Qc];exact Qe _⟩
   case step =>
    obtain ⟨v,rfl⟩:=hσ;obtain ⟨rfl,hx2⟩:=hx;have e1:=hx2 _ (sm.sql hD);rw [Qp] at e1 ho;obtain ⟨n,hn,rfl⟩:=QC.mp e1;rw [hn] at ho;obtain rfl:VO w n=o:=Qn ho;refine ⟨_,rfl,_,rfl,rfl,_,rfl,?_⟩;by_cases hz0:n=w
    ·have e2:VO w n=none:=Qb hz0;rw [e2] at hC;exact _u (by show (!decide (V.str n=V.str w))=false;rw [Xq,Qx hz0];rfl) (hC _ _ ⟨_,rfl⟩ (Same.refl _))
    ·have e2:VO w n=some (.str n):=Qa hz0;rw [e2] at hC;exact _V (by show (!decide (V.str n=V.str w))=true;rw [Xq,Qs hz0];rfl) ⟨_,rfl,hC _ _ ⟨_,rfl⟩ (Same.refl _)⟩
   case fin =>
    rw [_hU] at hD2;have s67:=s6.trans sm;have hB7:=hB5.mono s67;refine ⟨_,rfl,b,T.cB,dx,_,_,rfl,hB7.ob,T.lB_,T.nBlinks,_aW,_,rfl,few rfl,fun t nt=>?_⟩;have s8:=_h (o:=.tup [.str "S",.str u]) nt;have hB8:=hB7.mono s8;have llen:({ B with links:=ls,ties:=ts2 }:Bk).linksD.length=ls.length:=Qc ..;refine ⟨li,_,rfl,DPut.t (k:=_Z ("S",u)) hB8.li _f (by rw [llen];exact _y (by omega)),?_⟩;rw [show ({ B with links:=ls,ties:=ts2 }:Bk).linksD=ls.map fun q=>(_Z q.1,V.ref q.2.1) from rfl,Jb (f:=_Z) (fun _ _=>JB) (fun p:Addr×List Str=>V.ref p.1) ls ("S",u) (D2,(G ("S",u)).filter fun n=>decide (n≠w))];have li8:=hB8.li;have kp:∀{c:Addr} {xs:List V},SqT K H5 c xs->SqT K (_c (_c H7 t (.tup [.str "S",.str u])) li (.dT ((putA ls ("S",u) (D2,(G ("S",u)).filter fun n=>decide (n≠w))).map fun q=>(_Z q.1,V.ref q.2.1)))) c xs:=fun h=>X7 ((s67.trans s8).sqt h) li8 (fun _ z=>by cases z) (fun _ _ z=>by cases z);refine hnx _ _ ⟨D2,rfl,hB8.links fun q hq=>?_,bt5.trans ((But.of _ (s67.trans s8)).trans (But.put li8 (by simp))),kp h1,kp h2,kp h3,bt5.al _ (_W s6 nD2)⟩;rcases _a8 hq with rfl|hq
    ·exact s8 _ _ hD2
    ·exact hB8.ll q hq
  ·rintro σ' H6 ⟨D2,rfl,hB6,bt6,g1,g2,g3,n2⟩;have pl:=Wn ls ("S",u) (D2,(G ("S",u)).filter fun n=>decide (n≠w));have lk6:∀c,lk (putA ls ("S",u) (D2,(G ("S",u)).filter fun n=>decide (n≠w))) c=if c=(("S",u):Str×Str) then (G ("S",u)).filter (fun n=>decide (n≠w)) else G c:=fun c=>by rw [_go,hlk]
   have et:Yv { B with links:=putA ls ("S",u) (D2,(G ("S",u)).filter fun n=>decide (n≠w)),ties:=ts2 } (_g u w)=putA l d kd:=by
    rw [_pX];show YZ ts2 (_g u w)=_;rw [htf2,Qb hpr]
   have es:_a5 { B with links:=putA ls ("S",u) (D2,(G ("S",u)).filter fun n=>decide (n≠w)),ties:=ts2 } u w=st:=by
    unfold _a5;rw [et,hst]
   refine ⟨_,rfl,b,dx,_,rfl,hB6.ob,rfl,_,rfl,_,rfl,rfl,.ref b,u,w,_,rfl,⟨b,dx,k,bi,li,ti,su,rfl,hB6⟩,ku,kw,by rw [et];omega,fun H7 s7=>⟨_,rfl,?_⟩⟩;rw [es];have hB7:=hB6.mono s7;have bt7:=bt6.trans (But.of _ s7);refine X1 (fun hs=>?_) (fun hs=>?_)
   ·have la:Yj { B with links:=putA ls ("S",u) (D2,(G ("S",u)).filter fun n=>decide (n≠w)),ties:=ts2 } "S" u=(G ("S",u)).filter fun n=>decide (n≠w):=by
     rw [V0];show lk (putA ls ("S",u) _) ("S",u)=_;rw [lk6,Qb rfl]
    refine ⟨_,rfl,b,dx,_,rfl,hB7.ob,rfl,_,rfl,_,rfl,rfl,b,dx,k,bi,li,ti,su,_,"S",u,w,rfl,hB7,?_,?_,fun H8 D8 hB8 bt8 nD8=>?_⟩
    ·rw [la];exact Qk (List.length_filter_le ..) (gl _)
    ·show (putA ls ("S",u) _).length≤900;omega
    ·have li7:=hB7.li
     have kp:∀{c:Addr} {xs:List V},SqT K H7 c xs->SqT K H8 c xs:=fun {c xs} h=>by
      rcases h with (h|⟨o,h⟩)|h
      ·exact .inl (.inl (bt8.eq _ _ (fun z=>by rw [show c=li by simpa using z,li7] at h;cases h) h))
      ·exact .inl (.inr ⟨o,bt8.eq _ _ (fun z=>by rw [show c=li by simpa using z,li7] at h;cases h) h⟩)
      ·exact .inr h
     rw [la] at hB8;refine ⟨_,_,_,rfl,hB8,hG _ fun c=>?_,?_,bt7.trans (bt8.mono (by simp)),kp (s7.sqt g1),kp (s7.sqt g2),kp (s7.sqt g3),(gr.put n2).put (bt7.al _ nD8)⟩
     ·rw [_go];unfold _O;by_cases ec:c=(("S",u):Str×Str)
      ·subst ec;rw [Qb rfl,Qb rfl,Qb hs]
      ·rw [Qa ec,Qa ec,lk6,Qa ec]
     ·have p2:=Wn (putA ls ("S",u) (D2,(G ("S",u)).filter fun n=>decide (n≠w))) ("S",u) (D8,_A ((G ("S",u)).filter (fun n=>decide (n≠w))++[w]));show (putA (putA ls ("S",u) _) ("S",u) _).length≤_;omega
   ·refine ⟨_,_,_,rfl,hB7,hG _ fun c=>?_,by show (putA ls ("S",u) _).length≤_;omega,bt7,s7.sqt g1,s7.sqt g2,s7.sqt g3,gr.put n2⟩;rw [lk6];unfold _O;by_cases ec:c=(("S",u):Str×Str)
    ·subst ec;rw [Qb rfl,Qb rfl,Qa (by rw [hs];decide)]
    ·rw [Qa ec,Qa ec]
theorem _kY (Uv:_aw P base T) (UN:_au P base T) (UQ:_bA P base T) (_fb:_c6 P base T) (XI:Js P base T) (_eb:_cn P base T) (_ct:_eN P base T):_fn P base T:=by
 refine Fun.okY T._dp.F _dZ fun cdv A outer s H vs Q E hr h=>?_;obtain ⟨b,dx,k,bi,li,ti,su,B,x,e,rfl,hB,hx,ok,no,rm,q⟩:=h
 refine ⟨_,(_k (_Y (_U (pv 0) T.lB_ _fb hr (_a (pv 1) _b)))
   (_k (_H (i:=2) _dZ.nd rfl (Or.inl rfl) (_L UN hr (_a (pv 1) _b)))
   (_k (Wj (Ye hr) (_T (pv 0) rfl) (_L UQ hr (_a (pv 2) _b)) (pv 2) rfl)
   (_i (_G (_C _1 (_n _v (pv 2) _j (fun _ _=>rfl)) _p (_z _)) (_i (_Y (_U (pv 0) T.lB_ _eb hr (_a (pv 2) _b)))) (_i (_G (_C _1 (_n _v (pv 2) _j (fun _ _=>rfl)) _p (_z _)) (_k (_Y (_U (pv 0) T.lB_ XI hr (_a _p (_a (_n _v (pv 2) _j (fun _ _=>rfl)) (_a (_n _v (pv 2) _j (fun _ _=>rfl)) _b)))))
   (_i (_Y (_U (pv 0) T.lB_ XI hr (_a _p (_a (_n _v (pv 2) _j (fun _ _=>rfl)) (_a (_n _v (pv 2) _j (fun _ _=>rfl)) _b))))))) (_i (_G (_C _1 (_n _v (pv 2) _j (fun _ _=>rfl)) _p (_z _)) (_k (_H (i:=3) _dZ.nd rfl (Or.inl rfl) (_R (_a (_n _v (pv 2) _j (fun _ _=>rfl)) (_a (_n _v (pv 2) _j (fun _ _=>rfl)) _b))))
   (_i (Wj (Ye hr) (_T (pv 0) rfl) (pv 3) (_S Vn (UB (Ye hr) (_T (pv 0) rfl) (pv 3) _j ⟨rfl,rfl,rfl,rfl⟩) (_n _v (pv 2) _j (fun _ _=>rfl))) rfl))) (_i (_G (Xx (_L Uv hr (_a (pv 2) _b))) (_i (_Y (_U (pv 0) T.lB_ _ct hr (_a (pv 2) _b)))) _P))))))))))),?_⟩
 refine ⟨_,rfl,b,dx,_,rfl,hB.ob,rfl,_,rfl,rfl,.ref b,x,B,e,rfl,⟨b,dx,k,bi,li,ti,su,rfl,hB⟩,hx,ok,no,fun H1 s1=>?_⟩;obtain ⟨hno,hk400,kn⟩:=_iy no;refine ⟨_,rfl,rfl,x,e,rfl,hx.mono s1,fun H2 u s2 hu=>?_⟩;obtain ⟨a,rfl,hA⟩:=hu;have s12:=s1.trans s2;have hB2:=hB.mono s12;have klen:B.keptD.length=B.kept.length:=Qc ..;refine ⟨_,rfl,_,rfl,b,T.cB,dx,_,_,rfl,hB2.ob,T.lB_,T.nBkept,_cc,_,rfl,rfl,.ref a,e.told,rfl,⟨a,rfl,hA⟩,fun H3 p s3 np hp=>⟨k,_,rfl,DPut.t (k:=e.told.told.key) (s3 _ _ hB2.ke) hp (by rw [klen];exact _y (by omega)),?_⟩⟩;rw [_aE,_aZ _ hno];have s13:=s12.trans s3;have hB3:=hB.mono s13;have hA3:=s3.sqt hA;have kn2:∀n∈e.told.named,Known B n:=fun n hn=>kn n (_gr e n hn);have tk:∀(e':Ent),e.told=e'->e'.told=e':=fun e' h=>by rw [←h,_aE]
 have pt:∀{B':Bk} (e':Ent),e.told=e'->(∀c,VJ B'.sums c=_e9 (VJ B.sums) e' c)->(∃a,B'.kept=B.kept++[(e',a)])->(∀c,lk B'.links c=WJ (lk B.links) (YZ B.ties) e' c)->(∀c,YZ B'.ties c=UL (YZ B.ties) e' c)->(B'.ties.map (·.1)).Nodup->B'.links.length≤B.links.length+4->B'.ties.length≤B.ties.length+1->B'.sums.length≤B.sums.length+1->Put B e B':=fun {B'} e' h=>by
  subst h;exact Put.mk
 generalize e.told=e' at *;have hK:=hB3.kept (e:=e') hA3;have kb:k≠bi:=Yg hB3.ke hB3.bi (fun z=>by cases z);have hA4:SqT K (_c H3 k (.dT (B.keptD++[(e'.key,.ref a)]))) a (e'.row.map kV):=X7 hA3 hB3.ke (fun _ z=>by cases z) (fun _ _ z=>by cases z);have btk:But [k,bi,li,ti,su] H (_c H3 k (.dT (B.keptD++[(e'.key,.ref a)]))):=(But.of _ s13).trans (But.put hB3.ke (by simp));have hbi:(_c H3 k (.dT (B.keptD++[(e'.key,.ref a)]))) bi=some (.dK (Bk.bornD B.kept)):=(_d kb.symm).trans hB3.bi;have hob:(_c H3 k (.dT (B.keptD++[(e'.key,.ref a)]))) b=some (.ins T.cB dx (Vx k bi li ti su)):=(_d (Yg hB3.ob hB3.ke (fun z=>by cases z))).trans hB3.ob
 have hKn:e'.isBorn=false->BkAt K T.cB (_c H3 k (.dT (B.keptD++[(e'.key,.ref a)]))) b dx k bi li ti su { B with kept:=B.kept++[(e',a)] }:=fun nb=>by
  rw [_qc nb,_m8 hbi] at hK;exact hK
 have fresh:∀{y:Addr},H3 y=none->(H y=none∨∃w,H y=some (.dK w)):=fun h=>.inl (_W s13 h);generalize hH4:_c H3 k (.dT (B.keptD++[(e'.key,.ref a)]))=H4 at *;dsimp only;have hbiH:∃w,H bi=some (.dK w):=⟨_,hB.bi⟩;cases e' with
 |born n s d f m =>
  refine ⟨_,rfl,a,_,_,_,rfl,rfl,hA4,_s (j:=0) rfl,rfl,_,rfl,_V (by trivial) ?_⟩;refine ⟨_,rfl,b,dx,_,rfl,hob,rfl,_,rfl,rfl,b,dx,k,bi,li,ti,su,B.kept,{ B with kept:=B.kept++[(.born n s d f m,a)] },n,s,d,f,m,a,rfl,rfl,hob,hbi,_lH hno,by omega,hA4,hK,Qk rm.nl (by omega),fun c=>Qk (rm.ll c) (by omega),fun H5 ls hB5 hlk hls bt5 gr5=>?_⟩;exact q H5 _ bi hB5 (pt _ rfl (fun c=>rfl) ⟨a,rfl⟩ hlk (fun c=>rfl) rm.nd hls (QV _) (QV _)) ((btk.mono (by simp)).trans (bt5.mono (by simp))) (.inr (.inl rfl)) (gr5.back btk.al) (GrowsT.refl _ _)
 |taken c t d =>
  have hB4:=hKn rfl;have hmem:((.taken c t d,a):Ent×Addr)∈B.kept++[(.taken c t d,a)]:=by simp
  refine ⟨_,rfl,a,_,_,_,rfl,rfl,hA4,_s (j:=0) rfl,rfl,_,rfl,_u (by trivial) ⟨_,rfl,a,_,_,_,rfl,rfl,hA4,_s (j:=0) rfl,rfl,_,rfl,_V (by trivial) ?_⟩⟩;refine ⟨_,rfl,b,dx,_,rfl,hob,rfl,_,rfl,a,_,_,_,rfl,rfl,hA4,_s (j:=1) rfl,_,rfl,a,_,_,_,rfl,rfl,hA4,_s (j:=2) rfl,rfl,b,dx,k,bi,li,ti,su,_,"T",c,t,rfl,hB4,Qk (rm.ll _) (by omega),Qk rm.nl (by omega),fun H5 D5 hB5 bt5 nD5=>?_⟩;have hA5:=hB5.en _ hmem
  have l5:lk (putA B.links ("T",c) (D5,_A (lk B.links ("T",c)++[t]))) ("t",t)=lk B.links ("t",t):=by
   rw [W6];exact Ja (show ("t" : Str)≠"T" by trivial)
  have n5:=Wn B.links ("T",c) (D5,_A (lk B.links ("T",c)++[t]));have rl:=rm.nl;refine ⟨_,rfl,b,dx,_,rfl,hB5.ob,rfl,_,rfl,a,_,_,_,rfl,rfl,hA5,_s (j:=2) rfl,_,rfl,a,_,_,_,rfl,rfl,hA5,_s (j:=1) rfl,rfl,b,dx,k,bi,li,ti,su,_,"t",t,c,rfl,hB5,?_,?_,fun H6 D6 hB6 bt6 nD6=>?_⟩
  ·rw [V0];show (lk (putA B.links ("T",c) (D5,_A (lk B.links ("T",c)++[t]))) ("t",t)).length≤61;rw [l5];exact Qk (rm.ll _) (by omega)
  ·show (putA B.links ("T",c) (D5,_A (lk B.links ("T",c)++[t]))).length≤900;omega
  ·refine q H6 _ bi hB6 (pt _ rfl (fun c=>rfl) ⟨a,rfl⟩ (fun x=>?_) (fun c=>rfl) rm.nd ?_ (QV _) (QV _)) ((btk.mono (by simp)).trans ((bt5.mono (by simp)).trans (bt6.mono (by simp)))) (.inr (.inl rfl)) (((Grows.refl _ _).put (btk.al _ nD5)).put (btk.al _ (bt5.al _ nD6))) (GrowsT.refl _ _)
   ·show lk (putA (putA B.links ("T",c) (D5,_A (lk B.links ("T",c)++[t]))) ("t",t) (D6,_A (lk (putA B.links ("T",c) (D5,_A (lk B.links ("T",c)++[t]))) ("t",t)++[c]))) x=_;rw [W6];exact JJ (fun y=>W6 ..) ..
   ·have n6:=Wn (putA B.links ("T",c) (D5,_A (lk B.links ("T",c)++[t]))) ("t",t) (D6,_A (lk (putA B.links ("T",c) (D5,_A (lk B.links ("T",c)++[t]))) ("t",t)++[c]));show (putA (putA B.links ("T",c) (D5,_A (lk B.links ("T",c)++[t]))) ("t",t) (D6,_A (lk (putA B.links ("T",c) (D5,_A (lk B.links ("T",c)++[t]))) ("t",t)++[c]))).length≤_;omega
 |union x y d =>
  have hB4:=hKn rfl;refine ⟨_,rfl,a,_,_,_,rfl,rfl,hA4,_s (j:=0) rfl,rfl,_,rfl,_u (by trivial) ⟨_,rfl,a,_,_,_,rfl,rfl,hA4,_s (j:=0) rfl,rfl,_,rfl,_u (by trivial) ⟨_,rfl,a,_,_,_,rfl,rfl,hA4,_s (j:=0) rfl,rfl,_,rfl,_u (by trivial) ?_⟩⟩⟩;refine ⟨_,rfl,rfl,.ref a,.union x y d,rfl,⟨a,rfl,hA4⟩,fun H5 s5=>⟨_,rfl,Yt ?_⟩⟩;have hB5:=hB4.mono s5;have rl:=rm.nl;have rt:=rm.nt;refine ⟨_,rfl,b,dx,_,rfl,hB5.ob,rfl,_,rfl,rfl,b,dx,k,bi,li,ti,su,_,a,"union",x,y,d,rfl,s5.sqt hA4,hB5,(kn2 x (by simp [Ent.named])).more rfl,(kn2 y (by simp [Ent.named])).more rfl,rm.nd,Qk rm.nt (by omega),Qk (rm.tt _) (by omega),Qk rm.nl (by omega),rm.ll,fun H6 ls ts z hB6 nd6 tl6 htf hlk hls bt6 hz grT6 gr6=>?_⟩;exact q H6 _ z hB6 (pt _ rfl (fun c=>rfl) ⟨a,rfl⟩ hlk htf nd6 hls tl6 (QV _)) ((btk.mono (by simp)).trans ((But.of _ s5).trans (bt6.mono (by simp)))) (hz.imp (fun h=>btk.al _ (_W s5 h)) .inr) (gr6.back fun a n=>btk.al a (_W s5 n)) (grT6.back fun a n=>btk.al a (_W s5 n))
theorem _mL: _at P base T:=by
 refine Fun.okY T.Ug.F _kQ fun cdv A outer s H vs Q E hr h=>?_;obtain ⟨v,B,rfl,⟨b,dx,k,bi,li,ti,su,rfl,hB⟩,hl,q⟩:=h;refine ⟨_,(_i (_w (_X (_gY rfl) (by rfl) T.n_sorted JN (_a (_T (pv 0) rfl) _b)))),?_⟩;have hbi:=hB.bi;rw [_iZ] at hbi;rw [←_iW] at hl q;rw [Qc] at hl;refine ⟨_,rfl,b,T.cB,dx,_,_,rfl,hB.ob,T.lB_,T.nBbirths,JY,bi,Jm B.kept,rfl,hbi,hl,fun D zs nD perm so=>?_⟩;rw [_cu perm so];exact q _ D (_h nD) nD _f
theorem _lP: _bg P base T:=by
 refine Fun.okY T._eg.F _lT fun cdv A outer s H vs Q E hr h=>?_;obtain ⟨x,rfl,q⟩:=h;refine ⟨_,(_i (_w (X6 (Wf K (by rfl) T.n_isinstance (_a (pv 0) (_a (Wi (v:=.ty "str") (by rfl) T.n_str VI rfl) _b))) (XG (YM W5 (pv 0) (Xv (v:=.ref T.a_TESTS) (by rfl) T.m_TESTS rfl) (by rfl)))))),?_⟩;refine ⟨_,rfl,_,.ty "str",_,_,rfl,rfl,.of (.str _),T.kss',_,rfl,Yt ⟨_,rfl,T.a_TESTS,_,rfl,.inr (T._hx _),rfl,rfl,?_⟩⟩;have e:(if false=true then !XB (.str x) ((["he","she"]:List Str).map V.str) else XB (.str x) ((["he","she"]:List Str).map V.str))=Vr x:=_bp x ["he","she"];rw [←e] at q;exact q
theorem _jV: _fe P base T:=by
 refine Fun.okY T.J8.F _ku fun cdv A outer s H vs Q E hr h=>?_;obtain ⟨o,dx,rfl,ho,q⟩:=h
 refine ⟨_,(_k (Xk (pv 0) (_4 (_a _j _b)) rfl)
   (_k (Xk (pv 0) (_4 (_a _p _b)) rfl)
   (_k (Xk (pv 0) JK rfl)
   (_k (Xk (pv 0) (_4 _b) rfl)
   (_k (Xk (pv 0) (_4 _b) rfl)
   (_k (Xk (pv 0) Xg rfl)
   (_i (Xk (pv 0) _j rfl)))))))),?_⟩
 refine ⟨few rfl,fun dl nd=>⟨_,rfl,o,T.cT,dx,[],rfl,(_d (_t ho nd)).trans ho,T.lT,T.nTdays,Qq (m:=10) (Qy rfl) (by decide),?_⟩⟩;obtain ⟨g1,p1,s1,m1⟩:=Wy (fs:=[]) "days" (.lst [.int 0]) ho nd;generalize _c (_c H dl (.lst [.int 0])) o (.ins T.cT dx (_q "days" (.ref dl) ([])))=H1 at *;refine ⟨few rfl,fun sl ns=>⟨_,rfl,o,T.cT,dx,_,rfl,(_d (_t g1 ns)).trans g1,T.lT,T.nTsorts,Qq (m:=10) (Qy rfl) (by decide),?_⟩⟩;obtain ⟨g2,p2,s2,m2⟩:=Wy (fs:=_q "days" (.ref dl) []) "sorts" (.lst [.str ""]) g1 ns;generalize _c (_c H1 sl (.lst [.str ""])) o (.ins T.cT dx (_q "sorts" (.ref sl) (_q "days" (.ref dl) ([]))))=H2 at *;refine fun pl np=>⟨_,rfl,o,T.cT,dx,_,rfl,(_d (_t g2 np)).trans g2,T.lT,T.nTparents,Qq (m:=10) (Qy rfl) (by decide),?_⟩;obtain ⟨g3,p3,s3,m3⟩:=Wy (fs:=_q "sorts" (.ref sl) (_q "days" (.ref dl) [])) "parents" (.dT []) g2 np;generalize _c (_c H2 pl (.dT [])) o (.ins T.cT dx (_q "parents" (.ref pl) (_q "sorts" (.ref sl) (_q "days" (.ref dl) ([])))))=H3 at *;refine ⟨few rfl,fun tl nt=>⟨_,rfl,o,T.cT,dx,_,rfl,(_d (_t g3 nt)).trans g3,T.lT,T.nTtakings,Qq (m:=10) (Qy rfl) (by decide),?_⟩⟩;obtain ⟨g4,p4,s4,m4⟩:=Wy (fs:=_q "parents" (.ref pl) (_q "sorts" (.ref sl) (_q "days" (.ref dl) []))) "takings" (.lst []) g3 nt;generalize _c (_c H3 tl (.lst [])) o (.ins T.cT dx (_q "takings" (.ref tl) (_q "parents" (.ref pl) (_q "sorts" (.ref sl) (_q "days" (.ref dl) ([]))))))=H4 at *;refine ⟨few rfl,fun ul nu=>⟨_,rfl,o,T.cT,dx,_,rfl,(_d (_t g4 nu)).trans g4,T.lT,T.nTunions,Qq (m:=10) (Qy rfl) (by decide),?_⟩⟩;obtain ⟨g5,p5,s5,m5⟩:=Wy (fs:=_q "takings" (.ref tl) (_q "parents" (.ref pl) (_q "sorts" (.ref sl) (_q "days" (.ref dl) [])))) "unions" (.lst []) g4 nu;generalize _c (_c H4 ul (.lst [])) o (.ins T.cT dx (_q "unions" (.ref ul) (_q "takings" (.ref tl) (_q "parents" (.ref pl) (_q "sorts" (.ref sl) (_q "days" (.ref dl) ([])))))))=H5 at *;refine ⟨_,rfl,o,T.cT,dx,_,rfl,g5,T.lT,T.nTclash,Qq (m:=10) (Qy rfl) (by decide),_,rfl,o,T.cT,dx,_,rfl,_f,T.lT,T.nThere,Qq (m:=10) (Qy rfl) (by decide),?_⟩;have ko:∀{c:Addr} {u:HO} {Hx:Hp} {fs:List (Str×V)},Hx c=some u->(∀fs,u≠.ins T.cT dx fs)->Hx o=some (.ins T.cT dx fs)->c≠o:=fun e no eb z=>by subst z;rw [eb] at e;cases e;exact no _ rfl
 have lo:∀xs fs,HO.lst xs≠.ins T.cT dx fs:=fun _ _ z=>by cases z
 have d1:=s5 _ _ (s4 _ _ (s3 _ _ (s2 _ _ p1 (ko p1 (lo _) g1)) (ko p1 (lo _) g1)) (ko p1 (lo _) g1)) (ko p1 (lo _) g1);have d2:=s5 _ _ (s4 _ _ (s3 _ _ p2 (ko p2 (lo _) g2)) (ko p2 (lo _) g2)) (ko p2 (lo _) g2);have np':∀fs,HO.dT []≠.ins T.cT dx fs:=fun _ z=>by cases z
 have d3:=s5 _ _ (s4 _ _ p3 (ko p3 np' g3)) (ko p3 np' g3);have d4:=s5 _ _ p4 (ko p4 (lo _) g4);have q1:=s2 _ _ p1 (ko p1 (lo _) g1);have q2:=s3 _ _ q1 (ko p1 (lo _) g1);have q3:=s4 _ _ q2 (ko p1 (lo _) g1);have r2:=s3 _ _ p2 (ko p2 (lo _) g2);have r3:=s4 _ _ r2 (ko p2 (lo _) g2);have up2:∀{c:Addr} {u:HO},H5 c=some u->c≠o->∀{x y:HO},_c (_c H5 o x) o y c=some u:=fun {c u} e n {x y}=>by rw [_d n,_d n];exact e
 refine q _ dl sl pl tl ul ⟨_f,?_,up2 d1 (ko p1 (lo _) g1),up2 d2 (ko p2 (lo _) g2),up2 d3 (ko p3 np' g3),⟨[],up2 d4 (ko p4 (lo _) g4),rfl,fun i p v e=>by cases e⟩,[],up2 p5 (ko p5 (lo _) g5),rfl,fun i p v e=>by cases e⟩ ⟨fun c u n e=>?_,fun c n=>?_⟩ nd (m1 _ ns) (m1 _ (m2 _ np)) (m1 _ (m2 _ (m3 _ nt))) (m1 _ (m2 _ (m3 _ (m4 _ nu))))
 ·simp only [QS,Qj,QN,QO,not_or,NL,N3,and_true];exact ⟨⟨_t p1 ns,_t q2 nt,_t q3 nu⟩,⟨_t r2 nt,_t r3 nu⟩,_t p4 nu⟩
 ·have n':c≠o:=by simpa using n
  exact up2 (s5 _ _ (s4 _ _ (s3 _ _ (s2 _ _ (s1 _ _ e n') n') n') n') n') n'
 ·have n':c≠o:=fun z=>by rw [z,_f] at n;cases n
  rw [_d n',_d n'] at n;exact m1 _ (m2 _ (m3 _ (m4 _ (m5 _ n))))
theorem _pu: _bm P base T:=by
 refine Fun.okY T._en.F _j0 fun cdv A outer s H vs Q E hr h=>?_;obtain ⟨o,dx,dl,sl,pl,tl,ul,t,i,s,rfl,ht,il,ok,q⟩:=h;refine ⟨_,(_i (_G (_C _1 (_n Yl (_T (pv 0) rfl) (pv 1) (fun _ _=>rfl)) _p (_z _)) (_i (_bd (pv 2) (_kW (_T (pv 0) rfl) (pv 1) _nJ))) (_i (_G (_C VP (_n Yl (_T (pv 0) rfl) (pv 1) (fun _ _=>rfl)) (pv 2) (_z _)) (_i (Xk (pv 0) Xg rfl)) _P)))),?_⟩;have gd:t.sorts[i]?=some (t.sorts.getD i ""):=by rw [QQ,Qt il];rfl
 have at_:=_e8 (n:=i) gd;refine ⟨_,rfl,o,T.cT,dx,_,_,rfl,ht.ob,T.lT,T.nTsorts,rfl,_,rfl,sl,_,_,_,rfl,rfl,.of ht.so,at_,rfl,_,rfl,X1 (fun h1=>?_) (fun h1=>?_)⟩
 ·have e:t.sorts.getD i ""="":=by simpa [Xl] using h1
  refine ⟨_,rfl,_,rfl,o,T.cT,dx,_,_,rfl,ht.ob,T.lT,T.nTsorts,rfl,_,rfl,sl,_,_,i,rfl,rfl,ht.so,_pU (by rw [Qc];exact il),?_⟩;rw [←List.map_set];refine q _ ((But.rfl' _ _).updT (by simp)) ?_;unfold Tr.ask;rw [Qb e];exact ht.setS _
 have e:¬t.sorts.getD i ""="":=by simpa [Xl] using h1
 refine ⟨_,rfl,o,T.cT,dx,_,_,rfl,ht.ob,T.lT,T.nTsorts,rfl,_,rfl,sl,_,_,_,rfl,rfl,.of ht.so,at_,_,rfl,rfl,_,rfl,X1 (fun h2=>?_) (fun h2=>?_)⟩
 ·have e2:¬t.sorts.getD i ""=s:=by simpa [Xl] using h2
  refine ⟨_,rfl,o,T.cT,dx,_,rfl,ht.ob,T.lT,T.nTclash,Qq (m:=10) (Qy rfl) (by decide),?_⟩;refine q _ ((But.rfl' _ _).updT (by simp)) ?_;unfold Tr.ask;rw [Qa e,Qa e2];exact ht.obj true t.here
 ·have e2:t.sorts.getD i ""=s:=by simpa [Xl] using h2
  refine q _ (But.rfl' _ _) ?_;unfold Tr.ask;rw [Qa e,Qb e2];exact ht
theorem _lC: _bw P base T:=by
 refine Fun.okY T._eH.F _qp fun cdv A outer s H vs Q E hr h=>?_;obtain ⟨o,dx,dl,sl,pl,tl,ul,t,k,rfl,ht,ok,q⟩:=h
 refine ⟨_,(_k (_Y (YL QK Q1 Q2 Y7 (_T (pv 0) rfl) (_a (_S Vn (_n Yl (_T (pv 0) rfl) (_T (pv 0) rfl) (fun _ _=>rfl)) (pv 1)) _b)))
   (_k (_Y (YL QK Q1 Q2 Y7 (_T (pv 0) rfl) (_a _p _b)))
   (_k (Xk (pv 0) (_S _h1 (_X YQ (by rfl) T.n_len Yw (_a (_T (pv 0) rfl) _b)) _j) rfl)
   (_i (_w (_T (pv 0) rfl)))))),?_⟩
 have gd:t.days[t.here]?=some (t.days.getD t.here 0):=by rw [QQ,Qt ok.he];rfl
 have at_:Yk (t.days.map V.int) (t.here:Int)=some (.int (t.days.getD t.here 0)):=Wg (by rw [Qp,gd];rfl);refine ⟨_,rfl,o,T.cT,dx,_,_,rfl,ht.ob,T.lT,T.nTdays,rfl,.inl ⟨rfl,_,.of ht.da⟩,_,rfl,o,T.cT,dx,_,_,rfl,ht.ob,T.lT,T.nTdays,rfl,_,rfl,o,T.cT,dx,_,_,rfl,ht.ob,T.lT,T.nThere,rfl,dl,_,_,_,rfl,rfl,.of ht.da,at_,_,rfl,_,_,rfl,rfl,dl,_,_,rfl,rfl,ht.da,_y (by rw [Qc];have:=ok.few;omega),?_⟩;have h1:=ht.setD (t.days++[t.days.getD t.here 0+k]);rw [Qo] at h1;have b1:But [o,dl,sl] H (_c H dl (.lst (t.days.map V.int++[.int (t.days.getD t.here 0+k)]))):=(But.rfl' _ _).updT (by simp);have h1:TrAt T.cT (_c H dl (.lst (t.days.map V.int++[.int (t.days.getD t.here 0+k)]))) o dx dl sl pl tl ul { t with days:=t.days++[t.days.getD t.here 0+k] }:=h1;show _by _ _ _ _ (_c H dl (.lst (t.days.map V.int++[.int (t.days.getD t.here 0+k)])));generalize _c H dl (.lst (t.days.map V.int++[.int (t.days.getD t.here 0+k)]))=H1 at b1 h1 ⊢;refine ⟨_,rfl,o,T.cT,dx,_,_,rfl,h1.ob,T.lT,T.nTsorts,rfl,.inl ⟨rfl,_,.of h1.so⟩,sl,_,_,rfl,rfl,h1.so,_y (by show (t.sorts.map V.str).length≤_;rw [Qc,ok.len];have:=ok.few;omega),?_⟩;have h2:=h1.setS (t.sorts++[("" : Str)]);rw [Qo] at h2;have h2:TrAt T.cT (_c H1 sl (.lst (t.sorts.map V.str++[.str ""]))) o dx dl sl pl tl ul { t with days:=t.days++[t.days.getD t.here 0+k],sorts:=t.sorts++[("" : Str)] }:=h2;have b2:But [o,dl,sl] H (_c H1 sl (.lst (t.sorts.map V.str++[.str ""]))):=b1.updT (by simp);show _by _ _ _ _ (_c H1 sl (.lst (t.sorts.map V.str++[.str ""])));generalize _c H1 sl (.lst (t.sorts.map V.str++[.str ""]))=H2 at b2 h2 ⊢;refine ⟨_,rfl,o,T.cT,dx,_,_,rfl,h2.ob,T.lT,T.nTdays,rfl,dl,_,rfl,.inl (.of h2.da),_,_,rfl,rfl,_,rfl,o,T.cT,dx,_,rfl,h2.ob,T.lT,T.nThere,Qq (m:=10) (Qy rfl) (by decide),?_⟩;dsimp only;rw [show (((t.days++[t.days.getD t.here 0+k]).map V.int).length:Int)-1=(t.days.length:Int) by simp];have h3:=h2.obj t.clash t.days.length;exact ⟨_,rfl,o,T.cT,dx,_,_,rfl,h3.ob,T.lT,T.nThere,rfl,q _ (b2.updT (by simp)) h3⟩
theorem _kF (V6:_bm P base T) (WP:_bw P base T):_fv P base T:=by
 refine Fun.okY T._cU.F _gv fun cdv A outer s H vs Q E hr h=>?_;obtain ⟨o,dx,dl,sl,pl,tl,ul,t,l,rfl,ht,ok,dn,pn,hl,q⟩:=h
 refine ⟨_,(_k (_H (i:=2) _gv.nd rfl (Or.inl rfl) (_T (pv 0) rfl))
   (_i (_G (WK (_gh (Ye hr) (_R (_a (pv 1) (_a (pv 2) _b))) (_T (pv 0) rfl))) (_i (Xk (pv 0) (_ag (Ye hr) (_T (pv 0) rfl) (_R (_a (pv 1) (_a (pv 2) _b))) (fun _ _=>rfl)) rfl)) (_k (Wj (Ye hr) (_T (pv 0) rfl) (_R (_a (pv 1) (_a (pv 2) _b))) (_U (pv 0) T.lT WP hr (_a (Vv Vy _j) _b)) rfl)
   (_i (_Y (_U (pv 0) T.lT V6 hr (_a (_T (pv 0) rfl) (_a (_aB T.kd_SORT_OF_PARENT (Xv (v:=.ref T.a_SORT_OF_PARENT) (by rfl) T.m_SORT_OF_PARENT rfl) (pv 1) (fun _ _=>rfl)) _b))))))))),?_⟩
 have gk:=fun (Hx:Hp) (a:Addr) (sx:Same H Hx) (ha:Hx a=some (.tup [.str l,.int t.here]))=>DGet.t (k:=[.inr l,.inl (t.here:Int)]) (sx _ _ ht.pa) ha;refine ⟨_,rfl,o,T.cT,dx,_,_,rfl,ht.ob,T.lT,T.nThere,rfl,_,rfl,_,rfl,few rfl,fun a na=>?_⟩;have sa:=_h (o:=.tup [.str l,.int t.here]) na;have hta:=ht.mono sa;have g1:=gk _ a sa _f;rw [Jz] at g1;refine ⟨_,rfl,o,T.cT,dx,_,_,rfl,hta.ob,T.lT,T.nTparents,rfl,pl,_,rfl,g1,_,rfl,?_⟩;cases hp:Ws t l t.here with
 |some p =>
  rw [show (t.par.find? fun q=>decide (q.1=(l,t.here))).map (·.2)=some p from hp] at g1 ⊢;refine _V rfl ⟨_,rfl,o,T.cT,dx,_,_,rfl,hta.ob,T.lT,T.nTparents,rfl,_,rfl,_,rfl,few rfl,fun a2 na2=>?_⟩;have sa2:=sa.trans (_h (o:=.tup [.str l,.int t.here]) na2);have hta2:=ht.mono sa2;have g2:=gk _ a2 sa2 _f;rw [Jz,show (t.par.find? fun q=>decide (q.1=(l,t.here))).map (·.2)=some p from hp] at g2;refine ⟨pl,_,rfl,g2,_,rfl,o,T.cT,dx,_,rfl,hta2.ob,T.lT,T.nThere,Qq (m:=10) (Qy rfl) (by decide),?_⟩;refine q _ ((But.of _ sa2).updT (by simp)) ?_;unfold Tr.goUp;rw [hp];exact hta2.obj t.clash p
 |none =>
  have hn:(t.par.find? fun q=>decide (q.1=(l,t.here)))=none:=N5.mp hp;rw [hn] at g1 ⊢;refine _u rfl ⟨_,rfl,o,dx,_,rfl,hta.ob,rfl,_,rfl,rfl,o,dx,dl,sl,pl,tl,ul,t,_,rfl,hta,ok,fun H2 b2 h2=>?_⟩;have sH:=(But.of [o,dl,sl,pl] sa).trans (b2.wide (S':=[o,dl,sl,pl]) (by simp));refine ⟨_,rfl,o,T.cT,dx,_,_,rfl,h2.ob,T.lT,T.nTparents,rfl,_,rfl,_,rfl,few rfl,fun a3 na3=>?_⟩;have s3:=_h (o:=.tup [.str l,.int t.here]) na3;have h3:=h2.mono s3;refine ⟨pl,_,rfl,DPut.t (k:=[.inr l,.inl (t.here:Int)]) h3.pa _f (_y (by show (YD t.par).length≤_;unfold YD;rw [Qc];omega)),?_⟩;rw [show Ym (YD (t.grow (-1)).par) [.inr l,.inl (t.here:Int)] (.int t.days.length)=YD (t.par++[((l,t.here),t.days.length)]) from _c5 hn];have h4:=h3.setP (t.par++[((l,t.here),t.days.length)]);have b4:=(sH.trans (But.of _ s3)).updT (a:=pl) (u:=.dT (YD (t.par++[((l,t.here),t.days.length)]))) (by simp);generalize _c (_c H2 a3 (.tup [.str l,.int t.here])) pl (.dT (YD (t.par++[((l,t.here),t.days.length)])))=H4 at h4 b4 ⊢;have h4:TrAt T.cT H4 o dx dl sl pl tl ul ((t.grow (-1)).addPar l t.here t.days.length):=h4;have hv:_F [((.inr "F" : _l),V.str "he"),(.inr "M",V.str "she")] (.inr l)=some (.str (_K l)):=by rcases hl with rfl|rfl<;>rfl
  refine ⟨_,rfl,o,dx,_,rfl,h4.ob,rfl,_,rfl,o,T.cT,dx,_,_,rfl,h4.ob,T.lT,T.nThere,rfl,_,rfl,rfl,.inr l,_,rfl,hv,rfl,o,dx,dl,sl,pl,tl,ul,_,t.days.length,_K l,rfl,h4,?_,?_,fun H5 b5 h5=>?_⟩
  ·show t.days.length<(t.sorts++[("" : Str)]).length;rw [Qm,ok.len];simp
  ·exact (ok.grow (by omega) _).addPar (by show t.par.length≤59;omega) l (by rw [Y5];have:=ok.he;omega) _
  refine q _ (b4.trans (b5.wide (by simp))) ?_;unfold Tr.goUp;rw [hp];exact h5
theorem _lF (UT:_bg P base T) (V6:_bm P base T) (WP:_bw P base T) (_eR:_fv P base T):_ek P base T:=by
 refine Fun.okY T._ew.F _hk fun cdv A outer s H vs Q E hr h=>?_;obtain ⟨o,dx,dl,sl,pl,tl,ul,t,s,rfl,ht,ok,dn,pn,tn,un,hs,q⟩:=h
 refine ⟨_,(_k (_H (i:=2) _hk.nd rfl (Or.inl rfl) (_T (pv 0) rfl))
   (_i (_G (Xx (_L UT hr (_a (pv 1) _b))) (_i (_Y (_U (pv 0) T.lT V6 hr (_a (pv 2) (_a (pv 1) _b))))) (_i (_G (WK (_iz T.kd_SORT_OF_PARENT (pv 1) (Xv (v:=.ref T.a_SORT_OF_PARENT) (by rfl) T.m_SORT_OF_PARENT rfl))) (_i (_Y (_U (pv 0) T.lT _eR hr (_a (pv 1) _b)))) (_i (_G (WK (_iz T.kd_LETTER_UP (pv 1) (Xv (v:=.ref T.a_LETTER_UP) (by rfl) T.m_LETTER_UP rfl))) (_k (_Y (_U (pv 0) T.lT V6 hr (_a (pv 2) (_a (_aB T.kd_SORT_OF_PARENT (Xv (v:=.ref T.a_SORT_OF_PARENT) (by rfl) T.m_SORT_OF_PARENT rfl) (_aB T.kd_LETTER_UP (Xv (v:=.ref T.a_LETTER_UP) (by rfl) T.m_LETTER_UP rfl) (pv 1) (fun _ _=>rfl)) (fun _ _=>rfl)) _b))))
   (_i (Wj (Ye hr) (_T (pv 0) rfl) (_R (_a (_aB T.kd_LETTER_UP (Xv (v:=.ref T.a_LETTER_UP) (by rfl) T.m_LETTER_UP rfl) (pv 1) (fun _ _=>rfl)) (_a (_U (pv 0) T.lT WP hr (_a _j _b)) _b))) (pv 2) rfl))) (_i (_G (_C _1 (pv 1) _p (_z _)) (_i (_Y (YL QK Q1 Q2 Y7 (_T (pv 0) rfl) (_a (_R (_a (pv 2) (_a (_U (pv 0) T.lT WP hr (_a (Vv Vy _j) _b)) _b))) _b)))) (_i (_G (_C _1 (pv 1) _p (_z _)) (_i (_Y (YL QK Q1 Q2 Y7 (_T (pv 0) rfl) (_a (_R (_a (_U (pv 0) T.lT WP hr (_a _j _b)) (_a (pv 2) _b))) _b)))) (_i (_Y (YL QK Q1 Q2 Y7 (_T (pv 0) rfl) (_a (_R (_a (pv 2) (_a (_U (pv 0) T.lT WP hr (_a _j _b)) _b))) _b))))))))))))))),?_⟩
 refine ⟨_,rfl,o,T.cT,dx,_,_,rfl,ht.ob,T.lT,T.nThere,rfl,?_⟩;dsimp only [_B];simp only [_o,Qj,QN,QO] at hs;rcases hs with rfl|rfl|rfl|rfl|rfl|rfl|rfl|rfl|rfl
 ·refine ⟨_,rfl,rfl,_,rfl,_,rfl,_u (by trivial) ⟨_,rfl,rfl,.inr _,rfl,_,rfl,_V (by trivial) ⟨_,rfl,o,dx,_,rfl,ht.ob,rfl,_,rfl,rfl,o,dx,dl,sl,pl,tl,ul,t,_,rfl,ht,ok,dn,pn,by simp,fun H1 b1 h1=>q _ (b1.wide (by simp)) ?_⟩⟩⟩;rw [_ai t (by simp)];exact h1
 ·refine ⟨_,rfl,rfl,_,rfl,_,rfl,_u (by trivial) ⟨_,rfl,rfl,.inr _,rfl,_,rfl,_V (by trivial) ⟨_,rfl,o,dx,_,rfl,ht.ob,rfl,_,rfl,rfl,o,dx,dl,sl,pl,tl,ul,t,_,rfl,ht,ok,dn,pn,by simp,fun H1 b1 h1=>q _ (b1.wide (by simp)) ?_⟩⟩⟩;rw [_ai t (by simp)];exact h1
 ·refine ⟨_,rfl,rfl,_,rfl,_,rfl,_u (by trivial) ⟨_,rfl,rfl,.inr _,rfl,_,rfl,_u (by trivial) ⟨_,rfl,rfl,.inr _,rfl,_,rfl,_u (by trivial) ⟨_,rfl,rfl,_,rfl,_V (by trivial) ⟨_,rfl,o,T.cT,dx,_,_,rfl,ht.ob,T.lT,T.nTtakings,rfl,.inl ⟨rfl,_,.of ht.ta.choose_spec.1⟩,_,rfl,_,rfl,o,dx,_,rfl,ht.ob,rfl,_,rfl,rfl,o,dx,dl,sl,pl,tl,ul,t,_,rfl,ht,ok,fun H2 b2 h2=>⟨few rfl,fun a na=>?_⟩⟩⟩⟩⟩⟩;have s3:=_h (o:=.tup [.int t.here,.int t.days.length]) na;obtain ⟨vs,k1,k2⟩:=(h2.mono s3).ta;refine ⟨tl,vs,_,rfl,rfl,k1,_y (by rw [k2.1];show t.tak.length≤_;omega),q _ (((b2.wide (by simp)).trans (But.of _ s3)).updT (by simp)) ?_⟩;rw [_bC];exact (h2.mono s3).addT k1 k2 (p:=(t.here,t.days.length)) _f
 ·have hk:_F [((.inr "f" : _l),V.str "F"),(.inr "m",V.str "M")] (.inr "f")=some (.str (_x "f")):=by rfl
  have hk2:_F [((.inr "F" : _l),V.str "he"),(.inr "M",V.str "she")] (.inr (_x "f"))=some (.str (_K (_x "f"))):=by rfl
  obtain ⟨ad,ap,_,_,ah,_⟩:=Yy t t.here (_K (_x "f"));refine ⟨_,rfl,rfl,_,rfl,_,rfl,_u (by trivial) ⟨_,rfl,rfl,.inr _,rfl,_,rfl,_u (by trivial) ⟨_,rfl,rfl,.inr _,rfl,_,rfl,_V (by trivial) ⟨_,rfl,o,dx,_,rfl,ht.ob,rfl,_,rfl,_,rfl,rfl,.inr _,_,rfl,hk,rfl,.inr _,_,rfl,hk2,rfl,o,dx,dl,sl,pl,tl,ul,t,t.here,_,rfl,ht,by rw [ok.len];exact ok.he,ok,fun H1 b1 h1=>?_⟩⟩⟩⟩;refine ⟨_,rfl,_,rfl,o,T.cT,dx,_,_,rfl,h1.ob,T.lT,T.nTparents,rfl,_,rfl,rfl,.inr _,_,rfl,hk,_,rfl,o,dx,_,rfl,h1.ob,rfl,rfl,o,dx,dl,sl,pl,tl,ul,_,_,rfl,h1,ok.ask _ _,fun H2 b2 h2=>⟨few rfl,fun a na=>?_⟩⟩;rw [ad];have s3:=_h (o:=.tup [.str (_x "f"),.int t.days.length]) na;have h3:=h2.mono s3;refine ⟨pl,_,rfl,DPut.t (k:=[.inr (_x "f"),.inl (t.days.length:Int)]) h3.pa _f (_y (by show (YD (t.ask t.here (_K (_x "f"))).par).length≤_;unfold YD;rw [Qc,ap];omega)),?_⟩;have en:((t.ask t.here (_K (_x "f"))).par.find? fun q=>decide (q.1=(_x "f",t.days.length)))=none:=by rw [ap];exact _iC ok _
  rw [show Ym (YD ((t.ask t.here (_K (_x "f"))).grow 1).par) [.inr (_x "f"),.inl (t.days.length:Int)] (.int t.here)=YD ((t.ask t.here (_K (_x "f"))).par++[((_x "f",t.days.length),t.here)]) from _c5 en];refine q _ ((((b1.wide (by simp)).trans (b2.wide (by simp))).trans (But.of _ s3)).updT (by simp)) ?_;rw [JR t (by simp)];exact h3.setP _
 ·have hk:_F [((.inr "f" : _l),V.str "F"),(.inr "m",V.str "M")] (.inr "m")=some (.str (_x "m")):=by rfl
  have hk2:_F [((.inr "F" : _l),V.str "he"),(.inr "M",V.str "she")] (.inr (_x "m"))=some (.str (_K (_x "m"))):=by rfl
  obtain ⟨ad,ap,_,_,ah,_⟩:=Yy t t.here (_K (_x "m"));refine ⟨_,rfl,rfl,_,rfl,_,rfl,_u (by trivial) ⟨_,rfl,rfl,.inr _,rfl,_,rfl,_u (by trivial) ⟨_,rfl,rfl,.inr _,rfl,_,rfl,_V (by trivial) ⟨_,rfl,o,dx,_,rfl,ht.ob,rfl,_,rfl,_,rfl,rfl,.inr _,_,rfl,hk,rfl,.inr _,_,rfl,hk2,rfl,o,dx,dl,sl,pl,tl,ul,t,t.here,_,rfl,ht,by rw [ok.len];exact ok.he,ok,fun H1 b1 h1=>?_⟩⟩⟩⟩;refine ⟨_,rfl,_,rfl,o,T.cT,dx,_,_,rfl,h1.ob,T.lT,T.nTparents,rfl,_,rfl,rfl,.inr _,_,rfl,hk,_,rfl,o,dx,_,rfl,h1.ob,rfl,rfl,o,dx,dl,sl,pl,tl,ul,_,_,rfl,h1,ok.ask _ _,fun H2 b2 h2=>⟨few rfl,fun a na=>?_⟩⟩;rw [ad];have s3:=_h (o:=.tup [.str (_x "m"),.int t.days.length]) na;have h3:=h2.mono s3;refine ⟨pl,_,rfl,DPut.t (k:=[.inr (_x "m"),.inl (t.days.length:Int)]) h3.pa _f (_y (by show (YD (t.ask t.here (_K (_x "m"))).par).length≤_;unfold YD;rw [Qc,ap];omega)),?_⟩;have en:((t.ask t.here (_K (_x "m"))).par.find? fun q=>decide (q.1=(_x "m",t.days.length)))=none:=by rw [ap];exact _iC ok _
  rw [show Ym (YD ((t.ask t.here (_K (_x "m"))).grow 1).par) [.inr (_x "m"),.inl (t.days.length:Int)] (.int t.here)=YD ((t.ask t.here (_K (_x "m"))).par++[((_x "m",t.days.length),t.here)]) from _c5 en];refine q _ ((((b1.wide (by simp)).trans (b2.wide (by simp))).trans (But.of _ s3)).updT (by simp)) ?_;rw [JR t (by simp)];exact h3.setP _
 ·refine ⟨_,rfl,rfl,_,rfl,_,rfl,_u (by trivial) ⟨_,rfl,rfl,.inr _,rfl,_,rfl,_u (by trivial) ⟨_,rfl,rfl,.inr _,rfl,_,rfl,_u (by trivial) ⟨_,rfl,rfl,_,rfl,_u (by trivial) ⟨_,rfl,rfl,_,rfl,_V (by trivial) ⟨_,rfl,o,T.cT,dx,_,_,rfl,ht.ob,T.lT,T.nTtakings,rfl,.inl ⟨rfl,_,.of ht.ta.choose_spec.1⟩,_,rfl,o,dx,_,rfl,ht.ob,rfl,rfl,o,dx,dl,sl,pl,tl,ul,t,_,rfl,ht,ok,fun H2 b2 h2=>⟨_,rfl,few rfl,fun a na=>?_⟩⟩⟩⟩⟩⟩⟩;have s3:=_h (o:=.tup [.int t.days.length,.int t.here]) na;obtain ⟨vs,k1,k2⟩:=(h2.mono s3).ta;refine ⟨tl,vs,_,rfl,rfl,k1,_y (by rw [k2.1];show t.tak.length≤_;omega),q _ (((b2.wide (by simp)).trans (But.of _ s3)).updT (by simp)) ?_⟩;rw [_ba];exact (h2.mono s3).addT k1 k2 (p:=(t.days.length,t.here)) _f
 ·refine ⟨_,rfl,rfl,_,rfl,_,rfl,_u (by trivial) ⟨_,rfl,rfl,.inr _,rfl,_,rfl,_u (by trivial) ⟨_,rfl,rfl,.inr _,rfl,_,rfl,_u (by trivial) ⟨_,rfl,rfl,_,rfl,_u (by trivial) ⟨_,rfl,rfl,_,rfl,_u (by trivial) ⟨_,rfl,o,T.cT,dx,_,_,rfl,ht.ob,T.lT,T.nTunions,rfl,.inl ⟨rfl,_,.of ht.un.choose_spec.1⟩,_,rfl,_,rfl,o,dx,_,rfl,ht.ob,rfl,rfl,o,dx,dl,sl,pl,tl,ul,t,_,rfl,ht,ok,fun H2 b2 h2=>⟨few rfl,fun a na=>?_⟩⟩⟩⟩⟩⟩⟩;have s3:=_h (o:=.tup [.int t.here,.int t.days.length]) na;obtain ⟨vs,k1,k2⟩:=(h2.mono s3).un;refine ⟨ul,vs,_,rfl,rfl,k1,_y (by rw [k2.1];show t.uni.length≤_;omega),q _ (((b2.wide (by simp)).trans (But.of _ s3)).updT (by simp)) ?_⟩;rw [_ap];exact (h2.mono s3).addU k1 k2 (p:=(t.here,t.days.length)) _f
 ·refine ⟨_,rfl,rfl,_,rfl,_,rfl,_V (by trivial) ⟨_,rfl,o,dx,_,rfl,ht.ob,rfl,_,rfl,_,rfl,rfl,o,dx,dl,sl,pl,tl,ul,t,t.here,_,rfl,ht,by rw [ok.len];exact ok.he,ok,fun H1 b1 h1=>q _ (b1.wide (by simp)) ?_⟩⟩;rw [Jq t (by simp)];exact h1
 ·refine ⟨_,rfl,rfl,_,rfl,_,rfl,_V (by trivial) ⟨_,rfl,o,dx,_,rfl,ht.ob,rfl,_,rfl,_,rfl,rfl,o,dx,dl,sl,pl,tl,ul,t,t.here,_,rfl,ht,by rw [ok.len];exact ok.he,ok,fun H1 b1 h1=>q _ (b1.wide (by simp)) ?_⟩⟩;rw [Jq t (by simp)];exact h1
theorem _om: Uy P base T:=by
 refine Fun.okY T._dE.F _qf fun cdv A outer s H vs Q E hr h=>?_;obtain ⟨i,rfl,hi,q⟩:=h;refine ⟨_,(_i (_w (_S _n2 (_n _iB (Xv (v:=.str "abcdefghijklmnopqrstuvwxyz") (by rfl) T.m_LETTERS ⟨_,rfl⟩) (_S WM (pv 0) _j) (fun _ _=>rfl)) (_n _iB (Xv (v:=.str "abcdefghijklmnopqrstuvwxyz") (by rfl) T.m_LETTERS ⟨_,rfl⟩) (_S XR (pv 0) _j) (fun _ _=>rfl))))),?_⟩;have e1:(i:Int).fdiv 26=0:=by rw [Int.fdiv_eq_ediv_of_nonneg _ (by decide)];omega
 have e2:(i:Int).fmod 26=i:=by rw [Int.fmod_eq_emod_of_nonneg _ (by decide)];omega
 have lz:("abcdefghijklmnopqrstuvwxyz" : Str).length≤sizeLine:=few (n:=26) (by rfl);have a0:Yk ("abcdefghijklmnopqrstuvwxyz" : Str).cps.toList 0=some 97:=by trivial
 have ai:Yk ("abcdefghijklmnopqrstuvwxyz" : Str).cps.toList (i:Int)=some (97+i):=Wg (_ml i hi);refine ⟨_,rfl,_,_,rfl,rfl,⟨by decide,VW (by decide) (by decide)⟩,_,_,97,rfl,rfl,lz,by rw [e1];exact a0,_,rfl,_,_,rfl,rfl,ne0 (by decide),_,_,97+i,rfl,rfl,lz,by rw [e2];exact ai,_,_,rfl,rfl,few (n:=2) rfl,q⟩
theorem _nW (Xi:Uy P base T):_fE P base T:=by
 refine Fun.okY T._cg.F _nB fun cdv A outer s H vs Q E hr h=>?_;obtain ⟨o,dx,dl,sl,pl,tl,ul,t,l,i,rfl,ht,p26,q⟩:=h
 refine ⟨_,(_k (_G (WK (JF (Ye hr) (_R (_a (pv 1) (_a (pv 2) _b))) (_T (pv 0) rfl))) (_i (_w _p)) _P)
   (_i (_w (_L Xi hr (_a (_ag (Ye hr) (_T (pv 0) rfl) (_R (_a (pv 1) (_a (pv 2) _b))) (fun _ _=>rfl)) _b))))),?_⟩
 have gk:=fun (Hx:Hp) (a:Addr) (sx:Same H Hx) (ha:Hx a=some (.tup [.str l,.int i]))=>DGet.t (k:=[.inr l,.inl (i:Int)]) (sx _ _ ht.pa) ha;refine ⟨_,rfl,_,rfl,few rfl,fun a na=>?_⟩;have sa:=_h (o:=.tup [.str l,.int i]) na;have hta:=ht.mono sa;have g1:=gk _ a sa _f;rw [Jz] at g1;refine ⟨_,rfl,o,T.cT,dx,_,_,rfl,hta.ob,T.lT,T.nTparents,rfl,pl,_,rfl,g1,_,rfl,?_⟩;cases hp:Ws t l i with
 |some p =>
  rw [show (t.par.find? fun q=>decide (q.1=(l,i))).map (·.2)=some p from hp] at g1 ⊢;refine _u rfl ⟨_,rfl,o,T.cT,dx,_,_,rfl,hta.ob,T.lT,T.nTparents,rfl,_,rfl,_,rfl,few rfl,fun a2 na2=>?_⟩;have sa2:=sa.trans (_h (o:=.tup [.str l,.int i]) na2);have g2:=gk _ a2 sa2 _f;rw [Jz,show (t.par.find? fun q=>decide (q.1=(l,i))).map (·.2)=some p from hp] at g2;refine ⟨pl,_,rfl,g2,rfl,p,rfl,p26 _ (_gV hp),?_⟩;have e:Yd t l i=_e p:=by unfold Yd;rw [hp]
  rw [←e];exact q _ sa2
 |none =>
  have hn:(t.par.find? fun q=>decide (q.1=(l,i)))=none:=N5.mp hp;rw [hn] at g1 ⊢;have e:Yd t l i="":=by unfold Yd;rw [hp]
  rw [e] at q;exact _V rfl (q _ sa)
theorem _mU (Xi:Uy P base T) (_bs:_fE P base T):_dl P base T:=by
 refine Fun.okY T._dK.F _eQ fun cdv A outer s H vs Q E hr h=>?_;obtain ⟨o,dx,dl,sl,pl,tl,ul,t,i,rfl,ht,ok,p26,il,i26,q⟩:=h
 refine ⟨_,(_k (_H (i:=2) _eQ.nd rfl (Or.inl rfl) (_L _bs hr (_a (pv 0) (_a _p (_a (pv 1) _b)))))
   (_k (_H (i:=3) _eQ.nd rfl (Or.inl rfl) (_L _bs hr (_a (pv 0) (_a _p (_a (pv 1) _b)))))
   (_i (_w (_R (_a _p (_a (_L Xi hr (_a (pv 1) _b)) (_a (_n Yl (_T (pv 0) rfl) (pv 1) (fun _ _=>rfl)) (_a (_n Yl (_T (pv 0) rfl) (pv 1) (fun _ _=>rfl)) (_a (pv 2) (_a (pv 3) _b))))))))))),?_⟩
 have gs:t.sorts[i]?=some (t.sorts.getD i ""):=by rw [QQ,Qt (by rw [ok.len];exact il)];rfl
 have gd:t.days[i]?=some (t.days.getD i 0):=by rw [QQ,Qt il];rfl
 have ad:Yk (t.days.map V.int) (i:Int)=some (.int (t.days.getD i 0)):=Wg (by rw [Qp,gd];rfl);refine ⟨_,rfl,_,rfl,rfl,o,dx,dl,sl,pl,tl,ul,t,_,i,rfl,ht,p26,fun H1 s1=>?_⟩;have h1:=ht.mono s1;refine ⟨_,rfl,_,rfl,rfl,o,dx,dl,sl,pl,tl,ul,t,_,i,rfl,h1,p26,fun H2 s2=>?_⟩;have h2:=h1.mono s2;dsimp only [_B];refine ⟨_,rfl,rfl,i,rfl,i26,_,rfl,o,T.cT,dx,_,_,rfl,h2.ob,T.lT,T.nTsorts,rfl,_,rfl,sl,_,_,_,rfl,rfl,.of h2.so,_e8 (n:=i) gs,_,rfl,o,T.cT,dx,_,_,rfl,h2.ob,T.lT,T.nTdays,rfl,_,rfl,dl,_,_,_,rfl,rfl,.of h2.da,ad,_,rfl,_,rfl,few rfl,fun a na=>?_⟩;exact q _ a ((s1.trans s2).trans (_h na)) (_W (s1.trans s2) na) _f
theorem _lr (LB2:LamB base T.cc2 T.tb2 mg) (_ed:_fs P base T) (JH:_fn P base T) (Xi:Uy P base T) (_c8:_dl P base T):_bY P base T:=by
 refine Fun.okL (k:=6) T.hcc2 T._bi.F Vt (fun vs H Q E h=>h.1) (fun A outer s H vs Q E hr h=>?_);obtain ⟨-,h⟩:=h;obtain ⟨oo,dx,dl,sl,pl,tl,ul,t,k0,rfl,ht,ti0,k24,tu,hc,lam,q⟩:=h
 refine ⟨_,(_k (_H (i:=1) Vt.nd rfl (Or.inl rfl) (_ib T.kB _ed (hr.mono (by decide)) (by rfl) T.mB T._ah.b .nil VG))
   (_k (Yq QH rfl (YF (_oi K LB2 rfl _nP (hr.mono (QT _)) rfl (by rfl) T.n_sorted (_lI (by rfl) T.n_range (_a (_X YQ (by rfl) T.n_len Yw (_a (_T (pv 0) rfl) _b)) _b)) (i:=0) rfl rfl rfl rfl rfl rfl rfl)) (_D (i:=2) Vt.nd rfl (Or.inl rfl))
    (_i (_Y (_U (pv 1) T.lB_ JH hr (_a (_L _c8 hr (_a (pv 0) (_a (pv 2) _b))) _b)))))
   (_k (_H (i:=3) Vt.nd rfl (Or.inl rfl) (_X (_gq K rfl) (by rfl) T.n_max _ao (_a (_T (pv 0) rfl) _b)))
   (_k (Yq QH rfl (YF (_T (pv 0) rfl)) (Uf rfl (Yp (_D (i:=4) Vt.nd rfl (Or.inl rfl)) (Yp (_D (i:=5) Vt.nd rfl (Or.inl rfl)) X0)))
    (_i (_Y (_U (pv 1) T.lB_ JH hr (_a (_R (_a _p (_a (_L Xi hr (_a (pv 4) _b)) (_a (_L Xi hr (_a (pv 5) _b)) (_a (pv 3) _b))))) _b)))))
   (_k (Yq QH rfl (YF (_T (pv 0) rfl)) (Uf rfl (Yp (_D (i:=6) Vt.nd rfl (Or.inl rfl)) (Yp (_D (i:=7) Vt.nd rfl (Or.inl rfl)) X0)))
    (_i (_Y (_U (pv 1) T.lB_ JH hr (_a (_R (_a _p (_a (_L Xi hr (_a (pv 6) _b)) (_a (_L Xi hr (_a (pv 7) _b)) (_a (pv 3) _b))))) _b)))))
   (_i (_w (pv 1)))))))),?_⟩
 refine fun b dxb nb ndx nn=>⟨rfl,b,dxb,rfl,_f,fun H1 k bi li ti su hB1 keep nk nbi nli nti nsu=>⟨rfl,?_⟩⟩;obtain ⟨s1,f1⟩:=_pe nb ndx keep nk nbi nli nti nsu;clear keep nk nbi nli nti nsu;have ht1:=ht.mono s1;have n25:=ti0.n;have lk:=lam.same s1;dsimp only [_B];refine ⟨_,rfl,oo,T.cT,dx,_,_,rfl,ht1.ob,T.lT,T.nTdays,rfl,dl,_,rfl,.inl (.of ht1.da),_,rfl,by omega,by rw [Qc];omega,fun r nr=>?_⟩;have sr:=_h (o:=.rng 0 ((t.days.map V.int).length:Int)) nr;refine ⟨r,t.days.length,oo,T.cT,dx,_,dl,t.days,rfl,by rw [_f,Qc],by omega,rfl,sr _ _ ht1.ob,T.lT,T.nTdays,rfl,.of (sr _ _ ht1.da),rfl,lk.same sr,fun H2 Dq zs pm pw sx ls lt nDq hDq=>?_⟩;obtain ⟨ord,rfl,pm'⟩:=_mv pm;have o:OrdOk t ord:=⟨pm',by have z:=Gj.mp pw;exact z⟩;have nDH:H Dq=none:=_W (s1.trans sr) nDq;obtain ⟨xsD,exs⟩:∃z,z=(ord.map fun i:Nat=>(i:Int)).map V.int:=⟨_,rfl⟩;rw [←exs] at hDq;have sHs:Same H (_c H Dq (.lst xsD)):=_h nDH
 have sc2:SameX (_c H Dq (.lst xsD)) H2:=fun c u nu e=>by
  by_cases z:c=Dq
  ·rw [z,_f] at e;cases e;rw [z];exact hDq
  ·rw [_d z] at e;exact sx _ _ nu (sr _ _ (s1 _ _ e))
 have ls2:Lams T.tb2 H H2:=(((s1.trans sr).lams T.tb2)).trans ls;have hB2:=(hB1.mono sr).monoX sx
 have g2:∀c∈ft k bi li ti su W3,VF (_c H Dq (.lst xsD)) c:=fun c m u nu e=>by
  by_cases z:c=Dq
  ·have hs:∀{w:HO},H1 c=some w->False:=fun e1=>by rw [z] at e1;rw [sr _ _ e1] at nDq;cases nDq
   have m':c=k∨c=bi∨c=li∨c=ti∨c=su:=by simpa [ft,W3] using m
   rcases m' with rfl|rfl|rfl|rfl|rfl
   ·exact hs hB1.ke
   ·exact hs hB1.bi
   ·exact hs hB1.li
   ·exact hs hB1.ti
   ·exact hs hB1.su
  ·rw [_d z] at e;exact f1 c m u nu e
 have p26:∀q∈t.par,q.2<26:=fun q hq=>by have:=(ti0.pn q hq).2.1;omega
 have pl33:(_0 t).length≤33:=by unfold _0;rw [Qc,QX];omega
 have ol:ord.length=t.days.length:=by rw [pm'.length_eq,QX]
 clear hB1 f1 ht1 lk nr;refine ⟨Dq,rfl,⟨_,.of hDq⟩,XH (xs:=xsD) (fun i σ Hc=>∃(B:Bk) (v:Option V),σ=[some (.ref oo),some (.ref b),v,none,none,none,none,none]∧BkAt K T.cB Hc b dxb k bi li ti su B∧LI5 (_0 t) B B.kept∧B.kept.map (·.1)=(YK t (ord.take i)).map Ent.told∧SameX (_c H Dq (.lst xsD)) Hc∧Lams T.tb2 H Hc∧Xr T.tb2 Hc∧∀c∈ft k bi li ti su B,VF (_c H Dq (.lst xsD)) c) ?start ?list ?turn ?done⟩
 case start=>exact ⟨W3,none,rfl,hB2,LI5.start _,rfl,sc2,ls2,lt,g2⟩
 case list =>
  rintro i σ Hc _ ⟨B,v,rfl,_,_,_,sc,_⟩;exact .of (sc _ _ rfl _f)
 case turn =>
  rintro i y σ Hc hy ⟨B,v,rfl,hB,li5,hk,sc,lsc,ltc,g1⟩;rw [exs,Qp,Qp] at hy;obtain ⟨z,hz,rfl⟩:=QC.mp hy;obtain ⟨x,hx,rfl⟩:=QC.mp hz;have xl:x<t.days.length:=o.lt.mp (QE hx);have il:=(Qz.mp hx).1;have tk:YK t (ord.take (i+1))=YK t (ord.take i)++[XJ t x]:=by unfold YK;rw [R7,hx,Qo];rfl
  have gt:GdL (_0 t) (YK t (ord.take i)++[XJ t x]):=by rw [←tk];exact _dr ti0 k24 hc o (i+1) (by omega)
  have hkl:B.kept.length≤60:=by
   have:=QB List.length hk;unfold YK at this;rw [Qc,Qc,Qc,Rk] at this;omega
  obtain ⟨no,d5,rm⟩:=GdL.ref li5 hk gt hkl pl33;have htc:=ht.monoX (sHs.x.trans sc);refine ⟨_,rfl,b,dxb,_,rfl,hB.ob,rfl,_,rfl,_,rfl,rfl,oo,dx,dl,sl,pl,tl,ul,t,x,rfl,htc,ti0.ok (by omega),p26,xl,by omega,fun Ha a sa na ha=>?_⟩;have hBa:=hB.mono sa;refine ⟨rfl,b,dxb,k,bi,li,ti,su,B,.ref a,XJ t x,rfl,hBa,⟨a,rfl,.of ha⟩,d5.1,no,rm,fun H6 B6 y hB6 hput bt hy6 gr grT=>?_⟩;obtain ⟨li6,sb6⟩:=li5.put' hput d5 no;obtain ⟨sc6,g6⟩:=_eS bt hy6 grT (sc.trans sa.x) g1;have nE:=fun c m=>hBa.noE hy6 (c:=c) m;exact ⟨B6,_,rfl,hB6,li6,by rw [sb6,hk,tk,Qo];rfl,sc6,Lams.but (lsc.same sa) bt nE,LamH.but (ltc.same sa) bt nE,g6⟩
 case done =>
 rintro σ Hd ⟨B,v,rfl,hB,li5,hk,sc,lsc,ltc,g1⟩;have xl:xsD.length=ord.length:=by rw [exs,Qc,Qc]
 rw [xl,Q7] at hk;have htd:=ht.monoX (sHs.x.trans sc);have dne:t.days≠[]:=fun z=>by have:=ti0.he;rw [z] at this;cases this
 refine ⟨_,rfl,oo,T.cT,dx,_,_,rfl,htd.ob,T.lT,T.nTdays,rfl,dl,t.days,rfl,.of htd.da,dne,fun D hD1 hD2=>?_⟩;have D2:D≤10 ^ 18:=by have:=(ti0.bd D hD1).2;omega
 have gd:=_oN ti0 k24 hc o hD2 D2;have gd:GdL (_0 t) (_8 t ord D):=gd;obtain ⟨vsT,hT1,hT2⟩:=ht.ta;obtain ⟨vsU,hU1,hU2⟩:=ht.un;have hk:B.kept.map (·.1)=((_8 t ord D).take (ord.length+0)).map Ent.told:=by rw [Nat.add_zero,_nH];exact hk
 dsimp only [_B];refine ⟨_,rfl,oo,T.cT,dx,_,_,rfl,htd.ob,T.lT,T.nTtakings,rfl,tl,rfl,⟨_,.of (sc _ _ rfl (sHs _ _ hT1))⟩,XH (xs:=vsT) (fun i σ Hc=>∃(B:Bk) (v1 v2:Option V),σ=[some (.ref oo),some (.ref b),v,some (.int D),v1,v2,none,none]∧BkAt K T.cB Hc b dxb k bi li ti su B∧LI5 (_0 t) B B.kept∧B.kept.map (·.1)=((_8 t ord D).take (ord.length+i)).map Ent.told∧SameX (_c H Dq (.lst xsD)) Hc∧Lams T.tb2 H Hc∧Xr T.tb2 Hc∧∀c∈ft k bi li ti su B,VF (_c H Dq (.lst xsD)) c) ?st ?li ?tu ?dn⟩
 case st=>exact ⟨B,_,_,rfl,hB,li5,hk,sc,lsc,ltc,g1⟩
 case li =>
  rintro i σ Hc _ ⟨B,v1,v2,rfl,_,_,_,sc,_⟩;exact .of (sc _ _ rfl (sHs _ _ hT1))
 case tu =>
  rintro i y σ Hc hy ⟨B,v1,v2,rfl,hB,li5,hk,sc,lsc,ltc,g1⟩;obtain ⟨p,hp⟩:∃p,t.tak[i]?=some p:=⟨_,Qt (by have:=(Qz.mp hy).1;rw [hT2.1] at this;exact this)⟩;obtain ⟨a,rfl,ha⟩:=hT2.2 i p y hp hy;have hac:=sc _ _ rfl (sHs _ _ ha);have he:=_ok (ord:=ord) (D:=D) hp;have tk:=_hC he;have gt:GdL (_0 t) ((_8 t ord D).take (ord.length+i)++[Ul D p]):=by rw [←tk];exact gd.take _
  have hkl:B.kept.length≤60:=by
   have:=QB List.length hk;rw [Qc,Qc,Rk,_a7,o.pm.length_eq,QX] at this;omega
  obtain ⟨no,d5,rm⟩:=GdL.ref li5 hk gt hkl pl33;obtain ⟨b1,b2⟩:=(⟨(ti0.tk p (QE hp)).1,(ti0.tk p (QE hp)).2.1⟩:_∧_);refine ⟨a,_,rfl,.of hac,rfl,_,_,rfl,_,_,rfl,rfl,?_⟩;dsimp only [_B];refine ⟨_,rfl,b,dxb,_,rfl,hB.ob,rfl,_,rfl,rfl,p.1,rfl,by omega,_,rfl,rfl,p.2,rfl,by omega,_,rfl,few rfl,fun e ne=>?_⟩;have se:=_h (o:=.tup [.str "taken",.str (_e p.1),.str (_e p.2),.int D]) ne;refine ⟨rfl,b,dxb,k,bi,li,ti,su,B,.ref e,Ul D p,rfl,hB.mono se,⟨e,rfl,.of _f⟩,d5.1,no,rm,fun H6 B6 y hB6 hput bt hy6 gr grT=>?_⟩;obtain ⟨li6,sb6⟩:=li5.put' hput d5 no;obtain ⟨sc6,g6⟩:=_eS bt hy6 grT (sc.trans se.x) g1;have nE:=fun c m=>(hB.mono se).noE hy6 (c:=c) m;exact ⟨B6,_,_,rfl,hB6,li6,by rw [sb6,hk,show ord.length+(i+1)=ord.length+i+1 from rfl,tk,Qo];rfl,sc6,Lams.but (lsc.same se) bt nE,LamH.but (ltc.same se) bt nE,g6⟩
 case dn =>
 clear hB li5 hk sc lsc ltc g1;rintro σ He ⟨B,v1,v2,rfl,hB,li5,hk,sc,lsc,ltc,g1⟩;rw [hT2.1] at hk;have hte:=ht.monoX (sHs.x.trans sc);refine ⟨_,rfl,oo,T.cT,dx,_,_,rfl,hte.ob,T.lT,T.nTunions,rfl,ul,rfl,⟨_,.of (sc _ _ rfl (sHs _ _ hU1))⟩,XH (xs:=vsU) (fun i σ Hc=>∃(B:Bk) (v1' v2':Option V),σ=[some (.ref oo),some (.ref b),v,some (.int D),v1,v2,v1',v2']∧BkAt K T.cB Hc b dxb k bi li ti su B∧LI5 (_0 t) B B.kept∧B.kept.map (·.1)=((_8 t ord D).take (ord.length+t.tak.length+i)).map Ent.told∧SameX (_c H Dq (.lst xsD)) Hc∧Lams T.tb2 H Hc∧Xr T.tb2 Hc∧∀c∈ft k bi li ti su B,VF (_c H Dq (.lst xsD)) c) ?st2 ?li2 ?tu2 ?dn2⟩
 case st2=>exact ⟨B,_,_,rfl,hB,li5,hk,sc,lsc,ltc,g1⟩
 case li2 =>
  rintro i σ Hc _ ⟨B,v1,v2,rfl,_,_,_,sc,_⟩;exact .of (sc _ _ rfl (sHs _ _ hU1))
 case tu2 =>
  rintro i y σ Hc hy ⟨B,v1,v2,rfl,hB,li5,hk,sc,lsc,ltc,g1⟩;obtain ⟨p,hp⟩:∃p,t.uni[i]?=some p:=⟨_,Qt (by have:=(Qz.mp hy).1;rw [hU2.1] at this;exact this)⟩;obtain ⟨a,rfl,ha⟩:=hU2.2 i p y hp hy;have hac:=sc _ _ rfl (sHs _ _ ha);have he:=_jT (ord:=ord) (D:=D) hp;have tk:=_hC he;have gt:GdL (_0 t) ((_8 t ord D).take (ord.length+t.tak.length+i)++[WD D p]):=by rw [←tk];exact gd.take _
  have hkl:B.kept.length≤60:=by
   have:=QB List.length hk;rw [Qc,Qc,Rk,_a7,o.pm.length_eq,QX] at this;omega
  obtain ⟨no,d5,rm⟩:=GdL.ref li5 hk gt hkl pl33;obtain ⟨b1,b2⟩:=(⟨Nat.lt_trans (ti0.un p (QE hp)).1 (ti0.un p (QE hp)).2,(ti0.un p (QE hp)).2⟩:_∧_);refine ⟨a,_,rfl,.of hac,rfl,_,_,rfl,_,_,rfl,rfl,?_⟩;dsimp only [_B];refine ⟨_,rfl,b,dxb,_,rfl,hB.ob,rfl,_,rfl,rfl,p.1,rfl,by omega,_,rfl,rfl,p.2,rfl,by omega,_,rfl,few rfl,fun e ne=>?_⟩;have se:=_h (o:=.tup [.str "union",.str (_e p.1),.str (_e p.2),.int D]) ne;refine ⟨rfl,b,dxb,k,bi,li,ti,su,B,.ref e,WD D p,rfl,hB.mono se,⟨e,rfl,.of _f⟩,d5.1,no,rm,fun H6 B6 y hB6 hput bt hy6 gr grT=>?_⟩;obtain ⟨li6,sb6⟩:=li5.put' hput d5 no;obtain ⟨sc6,g6⟩:=_eS bt hy6 grT (sc.trans se.x) g1;have nE:=fun c m=>(hB.mono se).noE hy6 (c:=c) m;exact ⟨B6,_,_,rfl,hB6,li6,by rw [sb6,hk,show ord.length+t.tak.length+(i+1)=ord.length+t.tak.length+i+1 from rfl,tk,Qo];rfl,sc6,Lams.but (lsc.same se) bt nE,LamH.but (ltc.same se) bt nE,g6⟩
 case dn2 =>
 clear hB li5 hk sc lsc ltc g1;rintro σ Hf ⟨B,v1',v2',rfl,hB,li5,hk,sc,lsc,ltc,g1⟩;rw [hU2.1,Nf (by rw [_a7];omega)] at hk;exact ⟨_,rfl,q _ b B (sHs.x.trans sc) lsc ltc ⟨_,_,_,_,_,_,_,rfl,hB⟩ (Jn.tree ti0 k24 o gd li5 hk)⟩
theorem _kM (_dg:_fe P base T) (_ej:_ek P base T) (Xi:Uy P base T) (_d3:_bY P base T):_br P base T:=by
 refine Fun.okY T._bM.F _dV fun cdv A outer s H vs Q E hr h=>?_;obtain ⟨p,way,rfl,hp,h9,l24,lam,qn,qs⟩:=h
 refine ⟨_,(_k (_H (i:=1) _dV.nd rfl (Or.inl rfl) (_ib T.kT_ _dg (hr.mono (by decide)) (by rfl) T.mT T.J8.b .nil VG))
   (_k (Yq QH rfl (W4 (pv 0)) (_D (i:=2) _dV.nd rfl (Or.inl rfl))
    (_i (_Y (_U (pv 1) T.lT _ej hr (_a (pv 2) _b)))))
   (_k (_G (Xx (_T (pv 1) rfl)) (_i (_w Um)) _P)
   (_i (_w (_R (_a (_L _d3 hr (_a (pv 1) _b)) (_a (_L Xi hr (_a _j _b)) (_a (_L Xi hr (_a (_T (pv 1) rfl) _b)) _b))))))))),?_⟩
 refine fun o dx no ndx nn=>⟨rfl,o,dx,rfl,_f,fun H1 dl sl pl tl ul ht1 b1 nd ns np nt nu=>⟨rfl,?_⟩⟩;have sb:Same H (_c (_c H dx (.own o)) o (.ins T.cT dx [])):=fun c u e=>by rw [_d (_t e no),_d (_t e ndx)];exact e
 have s1:Same H H1:=fun c u e=>b1.eq c u (by simpa using _t e no) (sb _ _ e)
 have n6:∀c∈[o,dl,sl,pl,tl,ul],H c=none:=fun c m=>by
  simp only [Qj,QN,QO] at m;rcases m with rfl|rfl|rfl|rfl|rfl|rfl
  ·exact no
  ·exact _W sb nd
  ·exact _W sb ns
  ·exact _W sb np
  ·exact _W sb nt
  ·exact _W sb nu
 dsimp only [_B];refine ⟨_,rfl,p,rfl,⟨_,s1.sqt hp⟩,VH (xs:=way.map V.str) (fun i σ Hc=>∃v,σ=[some (.ref p),some (.ref o),v]∧TrAt T.cT Hc o dx dl sl pl tl ul (_6 (way.take i))∧Same H Hc) ?start ?list ?turn ?done⟩
 case start=>exact ⟨_,rfl,ht1,s1⟩
 case list =>
  rintro i σ Hc _ ⟨v,rfl,_,sc⟩;exact sc.sqt hp
 case turn =>
  rintro i y σ Hc hy ⟨v,rfl,htc,sc⟩;obtain ⟨s',hs,rfl⟩:=V7 hy;have il:=(Qz.mp hs).1;have t9:∀x∈way.take i,x∈_o:=fun x hx=>h9 x (Ru hx);have ti:=Ui t9;have tl':(way.take i).length≤24:=by rw [Rk];omega
  have:=ti.n;have:=ti.pf;have:=ti.tf;have:=ti.uf;refine ⟨_,rfl,o,dx,_,rfl,htc.ob,rfl,_,rfl,rfl,o,dx,dl,sl,pl,tl,ul,_,s',rfl,htc,ti.ok (by omega),by omega,by omega,by omega,by omega,h9 s' (QE hs),fun H' b' h'=>⟨_,rfl,?_,fun c u e=>b'.eq c u (fun m=>by rw [n6 c m] at e;cases e) (sc _ _ e)⟩⟩;have e:_6 (way.take (i+1))=(_6 (way.take i)).go s':=by unfold _6;rw [R7,hs,N1];rfl
  rw [e];exact h'
 case done =>
 rintro σ Hc ⟨v,rfl,htc,sc⟩;rw [Qc,Q7] at htc;have ti:=Ui h9;have tu:=_qt h9;have nn:=ti.n;refine ⟨_,rfl,o,T.cT,dx,_,_,rfl,htc.ob,T.lT,T.nTclash,rfl,_,rfl,X1 (fun hc=>?_) (fun hc=>?_)⟩
 ·exact qn _ sc.x (sc.lams _) (lam.same sc) hc
 refine ⟨_,rfl,rfl,o,dx,dl,sl,pl,tl,ul,_,_,rfl,htc,ti,l24,by omega,hc,lam.same sc,fun H2 b B sx ls lt hB bt=>?_⟩;have ht2:=htc.monoX sx;refine ⟨rfl,0,rfl,by decide,_,rfl,o,T.cT,dx,_,_,rfl,ht2.ob,T.lT,T.nThere,rfl,rfl,(_6 way).here,rfl,by have:=ti.he;omega,few rfl,fun a na=>?_⟩;have sa:=_h (o:=.tup [.ref b,.str (_e 0),.str (_e (_6 way).here)]) na;exact qs _ a b B (sc.x.trans (sx.trans sa.x)) (((sc.lams _).trans ls).same sa) (lt.same sa) hc _f (hB.mono sa) bt
theorem _jB (Vc:J5 P base T) (We:_ac P base T) (UT:_bg P base T):_aC P base T:=by
 refine Fun.okY T.UE.F _pF fun cdv A outer s H vs Q E hr h=>?_;obtain ⟨v,s,n,B,rfl,hB,hs,kn,q⟩:=h
 refine ⟨_,(_k (_G (Xx (_L UT hr (_a (pv 1) _b))) (_i (_w (_mP (_C _1 (_U (pv 0) T.lB_ Vc hr (_a (pv 2) _b)) (pv 1) (_z _)) (_4 (_a (pv 2) _b)) (_4 _b)))) _P)
   (_i (_w (_U (pv 0) T.lB_ We hr (_a (pv 1) (_a (pv 2) _b)))))),?_⟩
 obtain ⟨b,dx,k,bi,li,ti,su,rfl,hB⟩:=hB;have hv:BkHas K T.cB H (.ref b) B:=⟨b,dx,k,bi,li,ti,su,rfl,hB⟩;unfold Yo at q;refine ⟨_,rfl,rfl,_,rfl,?_⟩;dsimp only;cases ht:Vr s with
 |true =>
  rw [Qb ht] at q;refine ⟨true,rfl,Yt ⟨_,rfl,b,dx,_,rfl,hB.ob,rfl,_,rfl,rfl,.ref b,.str n,B,rfl,hv,.inr ⟨n,rfl,fun no=>absurd no kn,fun p hp n' s' d f m ep=>?_⟩⟩⟩;rw [_hd hp ep] at q;refine ⟨_,rfl,rfl,_,rfl,?_⟩;dsimp only;by_cases e:s'=s
  ·rw [Qb e] at q;rw [Qx (show V.str s'=V.str s by rw [e])];exact Yt ⟨_,rfl,few rfl,fun D nD=>q _ D (_h nD) nD _f⟩
  ·rw [Qa e] at q;rw [Qs (show ¬V.str s'=V.str s from fun z=>e (V.str.inj z))];exact Yb ⟨few rfl,fun D nD=>q _ D (_h nD) nD _f⟩
 |false =>
  rw [Qa (by rw [ht];decide)] at q;refine ⟨false,rfl,Yb ⟨_,rfl,b,dx,_,rfl,hB.ob,rfl,_,rfl,_,rfl,rfl,.ref b,.str s,.str n,B,rfl,hv,.inr ⟨s,rfl,fun no=>?_,fun hl=>.inr ⟨n,rfl,fun no=>absurd no kn,fun _ H' D s1 nD hD=>q H' D s1 nD hD⟩⟩⟩⟩;exfalso;unfold WX at no;unfold Vr at ht;have n1:s∉XD:=Gm no;have n2:s∉(["he","she"]:List Str):=Gm ht;have:s∈XD++(["he","she"]:List Str):=hs;exact (Qh.mp this).elim n1 n2
theorem _jE (_ab:_aC P base T):_ec P base T:=by
 refine Fun.okY T.UM.F US fun cdv A outer s H vs Q E hr h=>?_;obtain ⟨one,p,f,b,way,B,pool,rfl,lam,hp,h9,hB,cl,kn,lw,q⟩:=h
 refine ⟨_,(_k (_H (i:=3) US.nd rfl (Or.inl rfl) (_4 (_a (_aM (W9 (pv 0) (pv 0) _a9) rfl rfl (by simp) (by decide)) _b)))
   (_k (Yq QH rfl (W4 (pv 1)) (_D (i:=4) US.nd rfl (Or.inl rfl))
    (_k (_H (i:=5) US.nd rfl (Or.inl rfl) JC)
   (_k (_bR (Yq QH rfl (_aU (_n Yl (pv 3) (Vv Vy _j) (fun _ _=>rfl))) (_D (i:=6) US.nd rfl (Or.inl rfl))
    (_i (Yq QH rfl (YF (_nQ (q:=_eF) _kE _ab T.UE.b T.UE.m T.UE.F.kp (hr.mono (by decide)) _i2 (i:=2) rfl (Or.inl rfl) (_a (pv 4) (_a (pv 6) _b)))) (_D (i:=7) US.nd rfl (Or.inl rfl))
    (_i (Wj (Ye hr) (pv 5) (pv 7) (pv 6) rfl))))))
   (_i (_Y (YL QK Q1 Q2 Y7 (pv 3) (_a (pv 5) _b)))))))
   (_i (_w (pv 3))))),?_⟩
 refine fun d0 nd0=>⟨_,rfl,_,rfl,_f,[(.inr one,.str one)],rfl,Qy rfl,few rfl,fun D nD=>?_⟩
 have sA:Same H (_c (_c H d0 (.dK [])) d0 (.dK (XY [] [(.inr one,.str one)]))):=fun c o e=>by
  rw [_d (_t e nd0),_d (_t e nd0)];exact e
 have nDH:H D=none:=_W sA nD;have s0:=sA.trans (_h (o:=.lst [.ref d0]) nD);have nd0D:d0≠D:=fun z=>by rw [←z,_f] at nD;cases nD
 refine ⟨_,rfl,p,rfl,⟨_,s0.sqt hp⟩,VH (xs:=way.map V.str) (fun i σ Hc=>∃(ds:List V) (d:Addr) (ks:List (Str×V)) (v4 v5 v6 v7:Option V),σ=[some (.str one),some (.ref p),some (.ref f),some (.ref D),v4,v5,v6,v7]∧Same H Hc∧Hc D=some (.lst (ds++[.ref d]))∧ds.length=i∧H d=none∧Hc d=some (.dK (XC ks))∧(ks.map (·.1)).Nodup∧∀x,x∈ks.map (·.1)↔XU (Yo B) (way.take i) (·=one) x) ?start ?list ?turn ?done⟩
 case start=>exact ⟨[],d0,[(one,.str one)],_,_,_,_,rfl,s0,_f,rfl,nd0,by rw [_d nd0D,_f];rfl,by simp,fun x=>by simp [XU]⟩
 case list =>
  rintro i σ Hc _ ⟨ds,d,ks,v4,v5,v6,v7,rfl,sc,_⟩;exact sc.sqt hp
 case done =>
  rintro σ Hc ⟨ds,d,ks,v4,v5,v6,v7,rfl,sc,hD,dl,nd,hd,kd,mem⟩;rw [Qc,Q7] at mem;exact ⟨_,rfl,q Hc D ds d ks sc nDH hD hd kd mem⟩
 case turn =>
  rintro i y σ Hc hy ⟨ds,d,ks,v4,v5,v6,v7,rfl,sc,hD,dl,nd,hd,kd,mem⟩;obtain ⟨s,hs,rfl⟩:=V7 hy;have il:=(Qz.mp hs).1;have s9:=h9 s (QE hs);have tk:way.take (i+1)=way.take i++[s]:=by rw [R7,hs];rfl
  have known:∀x,x∈ks.map (·.1)->Known B x:=fun x hx=>_di (R:=Known B) cl.led (fun t ht=>h9 t (Ru ht)) (fun x e=>by rw [e];exact kn) x ((mem x).mp hx);refine fun c nc=>?_;have ncH:=_W sc nc;have s1:=_h (o:=.dK []) nc;have dc:d≠c:=_t hd nc;have Dc:D≠c:=_t hD nc;have dD:d≠D:=fun z=>by rw [z,hD] at hd;cases hd
  refine ⟨d,XC ks,s1 _ _ hd,_,rfl,1,rfl,D,_,-1,.ref d,rfl,rfl,.of (s1 _ _ hD),_h7 _ _,d,XC ks,rfl,s1 _ _ hd,fun o=>?_⟩;refine _it (kvs:=XC ks) (fun j σ Hj=>∃(cs:List (Str×V)) (v6 v7:Option V),σ=[some (.str one),some (.ref p),some (.ref f),some (.ref D),some (.str s),some (.ref c),v6,v7]∧Same H Hj∧Hj D=some (.lst (ds++[.ref d]))∧Hj d=some (.frz o (.dK (XC ks)))∧Hj c=some (.dK (XC cs))∧(cs.map (·.1)).Nodup∧∀x,x∈cs.map (·.1)↔∃y,y∈(ks.map (·.1)).take j∧x∈Yo B s y) ?st2 ?li2 ?tu2 ?do2
  case st2=>exact ⟨[],_,_,rfl,fun e u h=>by rw [_d (fun z=>by subst z;rw [nd] at h;cases h),_d (fun z=>by subst z;rw [ncH] at h;cases h)];exact sc _ _ h,by rw [_d dD.symm];exact s1 _ _ hD,_f,by rw [_d dc.symm];exact _f,by simp,fun x=>by simp⟩
  case li2 =>
   rintro j σ Hj _ ⟨cs,v6,v7,rfl,sj,_,hdj,_⟩;exact hdj
  case do2 =>
   rintro σ Hj ⟨cs,v6,v7,rfl,sj,hDj,hdj,hcj,ndj,memj⟩;rw [_gx,Q7] at memj;refine ⟨o,hdj,?_⟩;have hD5:(_c Hj d (.dK (XC ks))) D=some (.lst (ds++[.ref d])):=by rw [_d dD.symm];exact hDj
   refine ⟨_,rfl,.inl ⟨rfl,_,.of hD5⟩,_,rfl,D,_,_,rfl,rfl,hD5,_y (by rw [Qm,dl];simp;omega),?_⟩;refine ⟨ds++[.ref d],c,cs,_,_,_,_,rfl,fun e u h=>?_,_f,by rw [Qm,dl];rfl,ncH,?_,ndj,fun x=>?_⟩
   ·rw [_d (fun z=>by subst z;rw [nDH] at h;cases h),_d (fun z=>by subst z;rw [nd] at h;cases h)];exact sj _ _ h
   ·rw [_d Dc.symm,_d dc.symm];exact hcj
   ·rw [tk,_hD,memj];exact ⟨fun ⟨y,hy,hx⟩=>⟨y,(mem y).mp hy,hx⟩,fun ⟨y,hy,hx⟩=>⟨y,(mem y).mpr hy,hx⟩⟩
  case tu2 =>
   rintro j pr σ Hj hpr ⟨cs,v6,v7,rfl,sj,hDj,hdj,hcj,ndj,memj⟩;rw [Qp] at hpr;obtain ⟨⟨y,vy⟩,hky,rfl⟩:=QC.mp hpr;have hyk:(ks.map (·.1))[j]?=some y:=by rw [Qp,hky];rfl
   have ky:=known y (QE hyk);have tkj:(ks.map (·.1)).take (j+1)=(ks.map (·.1)).take j++[y]:=by rw [R7,hyk];rfl
   refine ⟨f,rfl,_,rfl,_,rfl,.str s,.str y,b,rfl,lam.same sj,rfl,.ref b,s,y,B,rfl,hB.mono sj,s9,ky,fun H2 L s2 nL hL=>⟨L,rfl,⟨_,.of hL⟩,?_⟩⟩;refine XH (xs:=(Yo B s y).map V.str) (fun l σ Hl=>∃(cs2:List (Str×V)) (v7:Option V),σ=[some (.str one),some (.ref p),some (.ref f),some (.ref D),some (.str s),some (.ref c),some (.str y),v7]∧Same H Hl∧Hl D=some (.lst (ds++[.ref d]))∧Hl d=some (.frz o (.dK (XC ks)))∧Hl c=some (.dK (XC cs2))∧Hl L=some (.lst ((Yo B s y).map V.str))∧(cs2.map (·.1)).Nodup∧∀x,x∈cs2.map (·.1)↔x∈cs.map (·.1)∨x∈(Yo B s y).take l) ?st3 ?li3 ?tu3 ?do3
   case st3=>exact ⟨cs,_,rfl,sj.trans s2,s2 _ _ hDj,s2 _ _ hdj,s2 _ _ hcj,hL,ndj,fun x=>by simp⟩
   case li3 =>
    rintro l σ Hl _ ⟨cs2,v7,rfl,_,_,_,_,hLl,_⟩;exact .of hLl
   case do3 =>
    rintro σ Hl ⟨cs2,v7,rfl,sl,hDl,hdl,hcl,hLl,ndl,meml⟩;rw [Qc,Q7] at meml;refine ⟨cs2,_,_,rfl,sl,hDl,hdl,hcl,ndl,fun x=>?_⟩;rw [meml,memj,tkj];constructor
    ·rintro (⟨z,h1,h2⟩|h)
     ·exact ⟨z,QY _ h1,h2⟩
     ·exact ⟨y,by simp,h⟩
    ·rintro ⟨z,h1,h2⟩;rcases Qh.mp h1 with h1|h1
     ·exact .inl ⟨z,h1,h2⟩
     ·rw [show z=y by simpa using h1] at h2;exact .inr h2
   case tu3 =>
    rintro l z σ Hl hz ⟨cs2,v7,rfl,sl,hDl,hdl,hcl,hLl,ndl,meml⟩;obtain ⟨x,hx,rfl⟩:=V7 hz;have tkl:(Yo B s y).take (l+1)=(Yo B s y).take l++[x]:=by rw [R7,hx];rfl
    have inK:∀x∈cs2.map (·.1),Known B x:=fun x hx2=>by
     rcases (meml x).mp hx2 with h|h
     ·obtain ⟨z,h1,h2⟩:=(memj x).mp h;exact cl.led s s9 z (known z (Ru h1)) x h2
     ·exact cl.led s s9 y ky x (Ru h)
    have Jk:(XC cs2).length≤60:=by rw [_gx];exact Qk (_iD ndl fun x hx2=>cl.inp x (inK x hx2)) cl.few
    have cD:c≠D:=Dc.symm;refine ⟨_,rfl,_,rfl,_,rfl,c,_,rfl,DPut.k (k:=.inr x) hcl (_y (by omega)),?_⟩;rw [_jv];refine ⟨putA cs2 x (.str y),_,rfl,fun e u h=>?_,?_,?_,_f,?_,_f4 ndl,fun x'=>?_⟩
    ·rw [_d (fun z=>by subst z;rw [ncH] at h;cases h)];exact sl _ _ h
    ·rw [_d Dc];exact hDl
    ·rw [_d dc];exact hdl
    ·rw [_d (fun z=>by rw [z,hcl] at hLl;cases hLl)];exact hLl
    ·rw [_hq,meml,tkl,Qh,Qr,or_assoc]
theorem _kH (LB:LamB base T.cc T.tb mg) (Wp:Je P base T) (_ab:_aC P base T) (_dR:_ec P base T):_dU P base T:=by
 refine Fun.okL (k:=5) T.hcc T._bt.F _m4 (fun vs H Q E h=>h.1) (fun A outer s H vs Q E hr h=>?_);obtain ⟨-,h⟩:=h;obtain ⟨v,p,x,way,B,rfl,hB,lt,hp,q⟩:=h
 refine ⟨_,(_k (_Y (_U (pv 0) T.lB_ Wp hr (_a (pv 2) _b)))
   (_i (_w (_X (_gY rfl) (by rfl) T.n_sorted JN (_a (_n Yl (_m9 _dR (hr.mono (by decide)) (by rfl) T.UM.m T.UM.F.kp T.UM.b _i2 (i:=0) rfl rfl rfl rfl rfl (_a (pv 2) (_a (pv 1) (_a (_lq LB rfl rfl rfl rfl) _b)))) (Vv Vy _j) (fun _ _=>rfl)) _b))))),?_⟩
 obtain ⟨b,dx,k,bi,li,ti,su,rfl,hB⟩:=hB;have hv:BkHas K T.cB H (.ref b) B:=⟨b,dx,k,bi,li,ti,su,rfl,hB⟩;refine ⟨_,rfl,b,dx,_,rfl,hB.ob,rfl,_,rfl,rfl,.ref b,x,B,rfl,hv,?_⟩;rcases q with hf|⟨n,pool,rfl,kn,cl,h9,lw,q⟩
 ·exact hf.elim
 refine .inr ⟨n,rfl,fun no=>absurd no kn,fun pr hpr n' s' d f m ep=>?_⟩;refine ⟨_,rfl,_,rfl,lt,fun H2 f2 pm c' ctv sx ls2 lt2 nf hf hc' fr=>⟨b,rfl,fun oc noc hoc=>?_⟩⟩;obtain ⟨cc,ecc⟩:∃z,z=s.heap.objs.size+1:=⟨_,rfl⟩;rw [←ecc] at noc hf;have sc:Same H2 (_c H2 cc (Fz oc)):=_h noc;rw [←ecc];refine ⟨rfl,n,p,f2,b,way,B,pool,rfl,⟨cc,oc,pm,c',ctv,sc _ _ hf,sc _ _ hc',_f,hoc⟩,sc.sqt (sx.sqt hp),h9,⟨b,dx,k,bi,li,ti,su,rfl,(hB.monoX sx).mono sc⟩,cl,kn,lw,fun H3 D3 ds d3 ks s3 nD3 hD3 hd3 nd mem=>?_⟩;have hcc3:H3 cc=some (Fz oc):=s3 _ _ _f;have s4:Same H2 (Ud H3 cc):=fun a u e=>by rw [WG (_t e noc)];exact s3 _ _ (sc _ _ e)
 have known:∀x,x∈ks.map (·.1)->Known B x:=fun x hx=>_di (R:=Known B) cl.led h9 (fun x e=>by rw [e];exact kn) x ((mem x).mp hx);have hD4:Ud H3 cc D3=some (.lst (ds++[.ref d3])):=by rw [WG (fun z=>by rw [z,hcc3] at hD3;cases hD3)];exact hD3
 have hd4:Ud H3 cc d3=some (.dK (XC ks)):=by rw [WG (fun z=>by rw [z,hcc3] at hd3;cases hd3)];exact hd3
 refine ⟨1,rfl,D3,_,-1,.ref d3,rfl,rfl,.of hD4,_h7 _ _,d3,ks,rfl,hd4,?_,fun D5 zs' nD5 hp5 hs5=>?_⟩
 ·have:=_iD nd fun x hx=>cl.inp x (known x hx);have:=cl.few;rw [Qc] at *;omega
 ·have s5:=s4.trans (_h (o:=.lst (zs'.map V.str)) nD5);exact q _ D5 zs' (sx.trans s5.x) (ls2.same s5) (lt2.same s5) (fr D5 (_W s4 nD5)) _f ⟨_d7 hs5,hp5.nodup_iff.mpr nd,fun x=>hp5.mem_iff.trans (mem x)⟩
theorem _nS (_bN:_dU P base T):_eJ P base T:=by
 refine Fun.okY T._e2.F _kz fun cdv A outer s H vs Q E hr h=>?_;obtain ⟨a,p,b,x,y,way,pool,B,rfl,ha,hB,hp,h9,l24,kn,clo,lam,q⟩:=h;refine ⟨_,(_i (_w (YM W5 (_n _v (pv 0) _j (fun _ _=>rfl)) (_L _bN hr (_a (_n _v (pv 0) _j (fun _ _=>rfl)) (_a (pv 1) (_a (_n _v (pv 0) _j (fun _ _=>rfl)) _b)))) (by rfl)))),?_⟩;have a0:Yk [V.ref b,V.str x,V.str y] 0=some (.ref b):=rfl;have a1:Yk [V.ref b,V.str x,V.str y] 1=some (.str x):=rfl;have a2:Yk [V.ref b,V.str x,V.str y] 2=some (.str y):=rfl;refine ⟨_,rfl,a,_,_,_,rfl,rfl,.of ha,a2,_,rfl,a,_,_,_,rfl,rfl,.of ha,a0,_,rfl,_,rfl,a,_,_,_,rfl,rfl,.of ha,a1,rfl,.ref b,p,.str x,way,B,rfl,hB,lam,hp,.inr ⟨x,pool,rfl,kn,clo,h9,by omega,fun H' D xs sx ls lt nD hD srt=>?_⟩⟩;refine ⟨D,_,rfl,.inl (.of hD),rfl,by simp [Wk],q _ _ sx ls lt ?_⟩;show XB (V.str y) (xs.map V.str)=true↔_;rw [_bp,decide_eq_true_iff,srt.mem]
theorem _nh (Uj:_br P base T) (_bH:_eJ P base T):_dC P base T:=by
 refine Fun.okY T._dN.F _fZ fun cdv A outer s H vs Q E hr h=>?_;obtain ⟨p1,p2,w1,w2,rfl,hp1,n1,l1,hp2,n2,l2,lam,lam2,q⟩:=h
 refine ⟨_,(_k (_H (i:=2) _fZ.nd rfl (Or.inl rfl) (_L Uj hr (_a (pv 0) _b)))
   (_i (_w (_cB (YM _eo (pv 2) Um (_z _)) (XG (_L _bH hr (_a (pv 2) (_a (pv 1) _b)))))))),?_⟩
 refine ⟨_,rfl,rfl,p1,w1,rfl,hp1,n1,l1,lam2,fun H1 sx ls lt hc=>?_,fun H1 a b B sx ls lt hc ha hB bt=>?_⟩
 ·dsimp only [_B];exact ⟨_,rfl,rfl,_,rfl,_V rfl (q _ true sx (ls _ _ _ _ T.ttb.symm lam) lt ⟨fun _=>.inl hc,fun _=>rfl⟩)⟩
 ·have ti:=Ui n1;have n0:0<(_6 w1).days.length:=Rt (QT _) ti.he;dsimp only [_B];refine ⟨_,rfl,rfl,_,rfl,_u rfl ⟨_,rfl,_,rfl,rfl,a,p2,b,_,_,w2,_,B,rfl,ha,hB,sx.sqt hp2,n2,l2,bt.kn 0 n0,bt.clo,ls _ _ _ _ T.ttb.symm lam,fun H2 r sx2 ls2 lt2 hr=>q _ r (sx.trans sx2) lt2 (ls2 _ _ _ _ T.ttb lt) ?_⟩⟩;rw [hr,_n0 ti bt n2 n0 ti.he];unfold JS;rw [hc];simp
theorem _mY: _af P base T:=by
 refine Fun.okY T._fj.F _bc fun cdv A outer s H vs Q E hr h=>?_;obtain ⟨a,s,i,L,rfl,hL,ok,s9,il,q⟩:=h
 refine ⟨_,(_k (_bd (pv 0) (Uf rfl (Yp (_D (i:=3) _bc.nd rfl (Or.inr rfl)) (Yp (_D (i:=4) _bc.nd rfl (Or.inl rfl)) (Yp (_D (i:=5) _bc.nd rfl (Or.inl rfl)) X0)))))
   (_k (_G (_C W5 (pv 1) (_R (_a _p (_a _p _b))) (by rfl)) (_i (_w (_S _lt (_4 (_a (pv 2) _b)) (UW _eU (by rfl) T.n_int _a4 (_a (YM _1 (_n _v (_n Yl (pv 3) (pv 2) (fun _ _=>rfl)) _j (fun _ _=>rfl)) (pv 1) (_z _)) _b))))) _P)
   (_k (_G (_C W5 (pv 1) (_R (_a _p (_a _p _b))) (by rfl)) (_i (_w (Xj rfl (Xs (N:=["_law_high"]) [] [none] rfl (by trivial) (by trivial) (by rfl) (by rfl) (by rfl) (by rfl) (by rfl)) (YF (_4 (_a (_n _v (_n Yl (pv 3) (pv 2) (fun _ _=>rfl)) (_S Vn _j (UW _eU (by rfl) T.n_int _a4 (_a (YM _1 (pv 1) _p (_z _)) _b))) (fun _ _=>rfl)) _b))) (fun _ _ _=>(_D (i:=0) _jy rfl (Or.inl rfl))) (fun _ _ _=>(XV (_C Uh (pv 0) _j (_z _)))) (fun _ _ _=>(pv 0))))) _P)
   (_k (_G (_C W5 (pv 1) (_R (_a _p (_a _p _b))) (by rfl)) (_i (_w (Xj rfl (Xs (N:=["_law_k","_law_one","_law_people","_law_step_here"]) ["_law_step_here","_law_people","_law_one"] [none,some 2,some 3,some 1] rfl (by trivial) (by trivial) (by rfl) (by rfl) (by rfl) (by rfl) (by rfl)) (UK (by rfl) T.n_range (_a (_X YQ (by rfl) T.n_len Yw (_a (pv 3) _b)) _b)) (fun _ _ _=>(_D (i:=0) _mQ rfl (Or.inl rfl))) (fun _ _ _=>(XV (_C _1 (_n (_fl K rfl) (_n (_c9 K rfl) (pv 2) (pv 0) (fun _ _=>rfl)) (_S Vn _j (UW _eU (by rfl) T.n_int _a4 (_a (YM _1 (pv 3) _p (_z _)) _b))) (fun _ _=>rfl)) (pv 1) (_z _)))) (fun _ _ _=>(pv 0))))) _P)
   (_k (_G (_C _1 (pv 1) _p (_z _)) (_i (_w (Xj rfl (Xs (N:=["_law_low","_law_high","_law_one"]) ["_law_one"] [none,none,some 2] rfl (by trivial) (by trivial) (by rfl) (by rfl) (by rfl) (by rfl) (by rfl)) (YF (pv 4)) (fun _ _ _=>(JV (n:=2) K rfl (Yp (_D (i:=0) _a0 rfl (Or.inl rfl)) (Yp (_D (i:=1) _a0 rfl (Or.inl rfl)) X0)))) (fun _ _ _=>(XV (_C _1 (pv 0) (pv 2) (_z _)))) (fun _ _ _=>(pv 1))))) _P)
   (_k (_G (_C _1 (pv 1) _p (_z _)) (_i (_w (Xj rfl (Xs (N:=["_law_low","_law_high","_law_one"]) ["_law_one"] [none,none,some 2] rfl (by trivial) (by trivial) (by rfl) (by rfl) (by rfl) (by rfl) (by rfl)) (YF (pv 4)) (fun _ _ _=>(JV (n:=2) K rfl (Yp (_D (i:=0) _a0 rfl (Or.inl rfl)) (Yp (_D (i:=1) _a0 rfl (Or.inl rfl)) X0)))) (fun _ _ _=>(XV (_C _1 (pv 1) (pv 2) (_z _)))) (fun _ _ _=>(pv 0))))) _P)
   (_i (_w (_S JT (Xj rfl (Xs (N:=["_law_a","_law_b","_law_one"]) ["_law_one"] [none,none,some 2] rfl (by trivial) (by trivial) (by rfl) (by rfl) (by rfl) (by rfl) (by rfl)) (YF (pv 5)) (fun _ _ _=>(JV (n:=2) K rfl (Yp (_D (i:=0) _aO rfl (Or.inl rfl)) (Yp (_D (i:=1) _aO rfl (Or.inl rfl)) X0)))) (fun _ _ _=>(XV (_C _1 (pv 0) (pv 2) (_z _)))) (fun _ _ _=>(pv 1))) (Xj rfl (Xs (N:=["_law_a","_law_b","_law_one"]) ["_law_one"] [none,none,some 2] rfl (by trivial) (by trivial) (by rfl) (by rfl) (by rfl) (by rfl) (by rfl)) (YF (pv 5)) (fun _ _ _=>(JV (n:=2) K rfl (Yp (_D (i:=0) _aO rfl (Or.inl rfl)) (Yp (_D (i:=1) _aO rfl (Or.inl rfl)) X0)))) (fun _ _ _=>(XV (_C _1 (pv 1) (pv 2) (_z _)))) (fun _ _ _=>(pv 0)))))))))))),?_⟩
 obtain ⟨P,T',U,h0,hP,hT,hU⟩:=hL;obtain ⟨ps,hPl,lP,eP⟩:=id hP;obtain ⟨p,hp⟩:∃p,L.pe[i]?=some p:=⟨_,Qt il⟩;obtain ⟨ai,hai⟩:∃a,ps[i]?=some a:=⟨_,Qt (by omega)⟩;have esi:L.so i=p.1:=by unfold Ld.so;rw [hp];rfl
 have sqi:=eP i ai p hai hp;have pat:Yk (ps.map V.ref) (i:Int)=some (.ref ai):=Wg (by rw [Qp,hai];rfl);refine ⟨_,rfl,a,_,rfl,h0,rfl,_,_,rfl,_,_,rfl,_,_,rfl,rfl,?_⟩;dsimp only [_B];refine ⟨_,rfl,few rfl,fun t1 m1=>⟨t1,_,rfl,.inr (.of _f),rfl,rfl,_,rfl,?_⟩⟩;have g1:=_h (o:=.tup [.str "he",.str "she"]) m1;rcases Wc s9 with c|c|c|c|c|c
 ·refine _V (by rcases c with rfl|rfl<;>decide) ⟨_,rfl,few rfl,fun D1 n1=>?_⟩;have g2:=g1.trans (_h (o:=.lst [.int i]) n1);refine ⟨_,rfl,_,rfl,P,_,_,_,rfl,rfl,g2.sql hPl,pat,ai,_,_,_,rfl,rfl,g2.sqt sqi,rfl,_,rfl,rfl,.inr ⟨_,rfl,D1,_,_,rfl,rfl,_f,?_⟩⟩;by_cases e:p.1=s
  ·rw [show decide (V.str p.1=V.str s)=true by simp [e]];exact ⟨by decide,by decide,few rfl,fun D nD=>q _ D [i] (g2.trans (_h nD)) (_W g2 nD) _f (fun j=>by rw [X3 c,esi];simp [e];omega) (by simp)⟩
  ·rw [show decide (V.str p.1=V.str s)=false by simp [e]];exact ⟨by decide,by decide,few rfl,fun D nD=>q _ D [] (g2.trans (_h nD)) (_W g2 nD) _f (fun j=>by rw [X3 c,esi];simp [e]) (by simp)⟩
 ·refine _u (by rcases c with rfl|rfl<;>decide) ⟨_,rfl,few rfl,fun t2 m2=>⟨t2,_,rfl,.inr (.of _f),rfl,rfl,_,rfl,_V (by rcases c with rfl|rfl<;>decide) ?_⟩⟩;have g2:=g1.trans (_h (o:=.tup [.str "F",.str "M"]) m2)
  have aup:Yk [V.str p.1,.int p.2.1,.int p.2.2] (1+(if decide (V.str s=V.str "M")=true then 1 else 0))=some (.int (L.up s i)):=by
   unfold Ld.up;rw [hp];rcases c with rfl|rfl<;>rfl
  refine ⟨_,rfl,_,rfl,P,_,_,_,rfl,rfl,g2.sql hPl,pat,_,rfl,rfl,.inr ⟨_,rfl,_,_,rfl,rfl,ai,_,_,_,rfl,rfl,g2.sqt sqi,aup,few rfl,fun D1 n1=>⟨D1,rfl,⟨_,.of _f⟩,W1 [if 0≤L.up s i then some (.int (L.up s i)) else none] (_y (by simp)) (fun σ=>∃v,σ=[v]) ⟨none,rfl⟩ (fun j H4 hj sm=>?go) (fun H4 sm=>?stop) (fun j σ H4 x H5 z hz hσ sm hx C hC=>?step) (fun D5 H5 nD5 s5 hD5=>?fin)⟩⟩⟩
  case go=>exact ⟨_,_,sm.sql (.of _f),Qt (by exact hj)⟩
  case stop=>exact ⟨_,sm.sql (.of _f),Qe _⟩
  case step =>
   obtain ⟨v,rfl⟩:=hσ;obtain ⟨rfl,hx2⟩:=hx;have ex:=hx2 _ (sm.sql (.of _f));have j0:j=0:=by have:=(Qz.mp hz).1;simp at this;omega
   subst j0;obtain rfl:=Qn ex;obtain rfl:=Qn hz;refine ⟨_,rfl,_,_,rfl,rfl,_,rfl,?_⟩;by_cases e:0≤L.up s i
   ·rw [Qb e] at hC;exact _V (Qx e) ⟨_,rfl,hC _ _ ⟨_,rfl⟩ (.refl _)⟩
   ·rw [Qa e] at hC;exact _u (Qs e) (hC _ _ ⟨_,rfl⟩ (.refl _))
  case fin =>
   have g3:=g2.trans (_h (o:=.lst [.int (L.up s i)]) n1);by_cases e:0≤L.up s i
   ·rw [Qb e] at hD5;exact q _ D5 [(L.up s i).toNat] (g3.trans s5) (_W g3 nD5) (by rw [hD5];simp [Int.toNat_of_nonneg e]) (fun j=>by rw [XQ c];simp;omega) (by simp)
   ·rw [Qa e] at hD5;exact q _ D5 [] (g3.trans s5) (_W g3 nD5) (by rw [hD5];rfl) (fun j=>by rw [XQ c];simp;omega) (by simp)
 all_goals refine _u (by first|(subst c;decide)|(rcases c with rfl|rfl<;>decide)) ⟨_,rfl,few rfl,fun t2 m2=>⟨t2,_,rfl,.inr (.of _f),rfl,rfl,_,rfl,_u (by first|(subst c;decide)|(rcases c with rfl|rfl<;>decide)) ⟨_,rfl,few rfl,fun t3 m3=>⟨t3,_,rfl,.inr (.of _f),rfl,rfl,_,rfl,?_⟩⟩⟩⟩
 all_goals have g3:=(g1.trans (_h (o:=.tup [.str "F",.str "M"]) m2)).trans (_h (o:=.tup [.str "f",.str "m"]) m3)
 ·refine _V (by rcases c with rfl|rfl<;>decide) ⟨_,rfl,P,_,rfl,.inl (g3.sql hPl),_,rfl,by omega,by rw [Qc];have:=ok.n6;omega,W1 ((List.range L.pe.length).map fun k=>if L.up (_x s) k=i then some (.int k) else none) (_y (by rw [Qc,QX];have:=ok.n6;omega)) (fun σ=>∃v,σ=[v,some (.int i),some (.ref P),some (.str s)]) ⟨none,rfl⟩ (fun j H4 hj sm=>?go) (fun H4 sm=>?stop) (fun j σ H4 x H5 z hz hσ sm hx C hC=>?step) (fun D5 H5 nD5 s5 hD5=>?fin)⟩
  case go=>show j<_;rw [Qc,QX] at hj;rw [Qc];omega
  case stop=>show _≤_;rw [Qc,Qc,QX];omega
  case step =>
   obtain ⟨v,rfl⟩:=hσ;obtain ⟨rfl,rfl⟩:=hx;have jl:=(Qz.mp hz).1;rw [Qc,QX] at jl;rw [Qp,Ng jl] at hz;obtain rfl:=Qn hz;obtain ⟨pj,hpj⟩:∃p,L.pe[j]?=some p:=⟨_,Qt jl⟩;obtain ⟨aj,haj⟩:∃a,ps[j]?=some a:=⟨_,Qt (by omega)⟩
   have aup:Yk [V.str pj.1,.int pj.2.1,.int pj.2.2] (1+(if decide (V.str s=V.str "m")=true then 1 else 0))=some (.int (L.up (_x s) j)):=by
    unfold Ld.up;rw [hpj];rcases c with rfl|rfl<;>rfl
   rw [show (0:Int)+(j:Int)=j from GK _];have g4:=g3.trans sm;refine ⟨_,rfl,_,rfl,P,_,_,_,rfl,rfl,g4.sql hPl,Wg (by rw [Qp,haj];rfl),_,rfl,rfl,.inr ⟨_,rfl,_,_,rfl,rfl,aj,_,_,_,rfl,rfl,g4.sqt (eP j aj pj haj hpj),aup,_,rfl,rfl,_,rfl,?_⟩⟩;dsimp only at hC;by_cases e:L.up (_x s) j=i
   ·rw [Qb e] at hC;exact _V (by simp [e]) ⟨_,rfl,hC _ _ ⟨_,rfl⟩ (.refl _)⟩
   ·rw [Qa e] at hC;exact _u (by simp [e]) (hC _ _ ⟨_,rfl⟩ (.refl _))
  case fin =>
   refine q _ D5 ((List.range L.pe.length).filterMap fun k=>if L.up (_x s) k=i then some k else none) (g3.trans s5) (_W g3 nD5) ?_ (fun j=>?_) ?_
   ·rw [hD5,Rx,Go]
    congr 3
    funext k
    simp only [Function.comp,id];by_cases e:L.up (_x s) k=i<;>simp [e]
   ·rw [JZ c,Rc];constructor
    ·rintro ⟨k,_,e⟩;by_cases e2:L.up (_x s) k=i
     ·rw [Qb e2] at e;rw [←Qn e];exact e2
     ·rw [Qa e2] at e;cases e
    ·exact fun e=>⟨j,R9.mpr (Jw e),Qb e⟩
   ·have:=Rn (fun k=>if L.up (_x s) k=i then some k else none) (List.range L.pe.length);rw [QX] at this;have:=ok.n6;omega
 all_goals have t5:=ok.t5
 all_goals have u5:=ok.u5
 ·subst c;refine _u (by decide) ⟨_,rfl,rfl,_,rfl,_V (by decide) (_i0 (hT.mono g3.x) (by omega) rfl rfl fun D5 H5 nD5 s5 hD5=>q _ D5 _ (g3.trans s5) (_W g3 nD5) hD5 (fun j=>?_) ?_)⟩
  ·rw [J3];exact _iH
  ·exact Qk (Rn _ _) (by omega)
 ·subst c;refine _u (by decide) ⟨_,rfl,rfl,_,rfl,_u (by decide) ⟨_,rfl,rfl,_,rfl,_V (by decide) (_fX (hT.mono g3.x) (by omega) rfl rfl fun D5 H5 nD5 s5 hD5=>q _ D5 _ (g3.trans s5) (_W g3 nD5) hD5 (fun j=>?_) ?_)⟩⟩
  ·rw [U5];exact _hc
  ·exact Qk (Rn _ _) (by omega)
 ·subst c;refine _u (by decide) ⟨_,rfl,rfl,_,rfl,_u (by decide) ⟨_,rfl,rfl,_,rfl,_u (by decide) (_i0 (hU.mono g3.x) (by omega) rfl rfl fun D5 H5 nD5 s5 hD5=>_fX (hU.mono (g3.trans s5).x) (by omega) rfl rfl fun D6 H6 nD6 s6 hD6=>⟨D5,D6,_,_,rfl,rfl,s6 _ _ hD5,hD6,?_,fun D nD=>q _ D _ ((g3.trans (s5.trans s6)).trans (_h nD)) (_W (g3.trans (s5.trans s6)) nD) (by rw [_f,←Qo]) (fun j=>?_) ?_⟩)⟩⟩
  ·have a1:=Rn (fun p:Nat×Nat=>if p.1=i then some p.2 else none) L.un;have a2:=Rn (fun p:Nat×Nat=>if p.2=i then some p.1 else none) L.un;rw [Qc,Qc];exact QR (_y (by omega))
  ·rw [JW,Qh];exact Gp _iH _hc
  ·have a1:=Rn (fun p:Nat×Nat=>if p.1=i then some p.2 else none) L.un;have a2:=Rn (fun p:Nat×Nat=>if p.2=i then some p.1 else none) L.un;rw [Qm];omega
theorem _mx (Wx:_af P base T):_fu P base T:=by
 refine Fun.okY T._bS.F Ub fun cdv A outer s H vs Q E hr h=>?_;obtain ⟨a,p,way,i0,L,rfl,hL,ok,hp,h9,l24,i0l,q⟩:=h
 refine ⟨_,(_k (_H (i:=3) Ub.nd rfl (Or.inl rfl) (_aM (W9 (pv 2) Xg _a9) rfl rfl (by simp) (by decide)))
   (_k (Yq QH rfl (W4 (pv 1)) (_D (i:=4) Ub.nd rfl (Or.inl rfl))
    (_k (_H (i:=5) Ub.nd rfl (Or.inl rfl) JC)
   (_k (_bR (Yq QH rfl (_aU (pv 3)) (_D (i:=6) Ub.nd rfl (Or.inl rfl))
    (_i (Yq QH rfl (YF (_L Wx hr (_a (pv 0) (_a (pv 4) (_a (pv 6) _b))))) (_D (i:=7) Ub.nd rfl (Or.inl rfl))
    (_i (Wj (Ye hr) (pv 5) (pv 7) Xg rfl))))))
   (_i (_H (i:=3) Ub.nd rfl (Or.inl rfl) (pv 5))))))
   (_i (_w (pv 3))))),?_⟩
 refine fun d0 nd0=>⟨_,rfl,_f,[(.inl (i0:Int),.bl true)],rfl,Qy rfl,?_⟩
 have sA:Same H (_c (_c H d0 (.dK [])) d0 (.dK (XY [] [(.inl (i0:Int),.bl true)]))):=fun c o e=>by
  rw [_d (_t e nd0),_d (_t e nd0)];exact e
 dsimp only [_B];refine ⟨_,rfl,p,rfl,⟨_,sA.sqt hp⟩,VH (xs:=way.map V.str) (fun i σ Hc=>∃(d:Addr) (ks:List (Nat×V)) (v4 v5 v6 v7:Option V),σ=[some (.ref a),some (.ref p),some (.int i0),some (.ref d),v4,v5,v6,v7]∧Same H Hc∧H d=none∧Hc d=some (.dK (Yc ks))∧(ks.map (·.1)).Nodup∧∀x,x∈ks.map (·.1)↔WT (RL L) (way.take i) i0 x) ?start ?list ?turn ?done⟩
 case start=>exact ⟨d0,[(i0,.bl true)],_,_,_,_,rfl,sA,nd0,_f,by simp,fun x=>by simp [WT];exact eq_comm⟩
 case list =>
  rintro i σ Hc _ ⟨d,ks,v4,v5,v6,v7,rfl,sc,_⟩;exact sc.sqt hp
 case done =>
  rintro σ Hc ⟨d,ks,v4,v5,v6,v7,rfl,sc,nd,hd,kd,mem⟩;rw [Qc,Q7] at mem;exact ⟨_,rfl,q Hc d ks sc nd hd kd mem⟩
 case turn =>
  rintro i y σ Hc hy ⟨d,ks,v4,v5,v6,v7,rfl,sc,nd,hd,kd,mem⟩;obtain ⟨s,hs,rfl⟩:=V7 hy;have il:=(Qz.mp hs).1;have s9:=h9 s (QE hs);have tk:way.take (i+1)=way.take i++[s]:=by rw [RM,hs];rfl
  have known:∀x,x∈ks.map (·.1)->x<L.pe.length:=fun x hx=>_fp ok (fun t ht=>h9 t (Ru ht)) i0l ((mem x).mp hx);refine fun c nc=>?_;have ncH:=_W sc nc;have s1:=_h (o:=.dK []) nc;have dc:d≠c:=_t hd nc;refine ⟨d,Yc ks,s1 _ _ hd,_,rfl,d,Yc ks,rfl,s1 _ _ hd,fun o=>?_⟩;refine _it (kvs:=Yc ks) (fun j σ Hj=>∃(cs:List (Nat×V)) (v6 v7:Option V),σ=[some (.ref a),some (.ref p),some (.int i0),some (.ref d),some (.str s),some (.ref c),v6,v7]∧Same H Hj∧Hj d=some (.frz o (.dK (Yc ks)))∧Hj c=some (.dK (Yc cs))∧(cs.map (·.1)).Nodup∧∀x,x∈cs.map (·.1)↔∃y,y∈(ks.map (·.1)).take j∧RL L s y x) ?st2 ?li2 ?tu2 ?do2
  case st2=>exact ⟨[],_,_,rfl,fun e u h=>by rw [_d (fun z=>by subst z;rw [nd] at h;cases h),_d (fun z=>by subst z;rw [ncH] at h;cases h)];exact sc _ _ h,_f,by rw [_d dc.symm];exact _f,by simp,fun x=>by simp⟩
  case li2 =>
   rintro j σ Hj _ ⟨cs,v6,v7,rfl,sj,hdj,_⟩;exact hdj
  case do2 =>
   rintro σ Hj ⟨cs,v6,v7,rfl,sj,hdj,hcj,ndj,memj⟩;rw [_cw,Q7] at memj;refine ⟨o,hdj,?_⟩;refine ⟨_,rfl,c,cs,_,_,_,_,rfl,fun e u h=>?_,ncH,?_,ndj,fun x=>?_⟩
   ·rw [_d (fun z=>by subst z;rw [nd] at h;cases h)];exact sj _ _ h
   ·rw [_d dc.symm];exact hcj
   ·rw [tk,_eD,memj];exact ⟨fun ⟨y,hy,hx⟩=>⟨y,(mem y).mp hy,hx⟩,fun ⟨y,hy,hx⟩=>⟨y,(mem y).mpr hy,hx⟩⟩
  case tu2 =>
   rintro j pr σ Hj hpr ⟨cs,v6,v7,rfl,sj,hdj,hcj,ndj,memj⟩;rw [Qp] at hpr;obtain ⟨⟨y,vy⟩,hky,rfl⟩:=QC.mp hpr;have hyk:(ks.map (·.1))[j]?=some y:=by rw [Qp,hky];rfl
   have ky:=known y (QE hyk);have tkj:(ks.map (·.1)).take (j+1)=(ks.map (·.1)).take j++[y]:=by rw [RM,hyk];rfl
   refine ⟨_,rfl,_,rfl,_,rfl,rfl,a,s,y,L,rfl,hL.mono sj.x,ok,s9,ky,fun H2 D zs s2 nD hD mz lz=>⟨D,rfl,⟨_,.of hD⟩,?_⟩⟩;refine XH (xs:=zs.map fun z:Nat=>V.int z) (fun l σ Hl=>∃(cs2:List (Nat×V)) (v7:Option V),σ=[some (.ref a),some (.ref p),some (.int i0),some (.ref d),some (.str s),some (.ref c),some (.int y),v7]∧Same H Hl∧Hl d=some (.frz o (.dK (Yc ks)))∧Hl c=some (.dK (Yc cs2))∧Hl D=some (.lst (zs.map fun z:Nat=>V.int z))∧(cs2.map (·.1)).Nodup∧∀x,x∈cs2.map (·.1)↔x∈cs.map (·.1)∨x∈zs.take l) ?st3 ?li3 ?tu3 ?do3
   case st3=>exact ⟨cs,_,rfl,sj.trans s2,s2 _ _ hdj,s2 _ _ hcj,hD,ndj,fun x=>by simp⟩
   case li3 =>
    rintro l σ Hl _ ⟨cs2,v7,rfl,_,_,_,hLl,_⟩;exact .of hLl
   case do3 =>
    rintro σ Hl ⟨cs2,v7,rfl,sl,hdl,hcl,hLl,ndl,meml⟩;rw [Qc,Q7] at meml;refine ⟨cs2,_,_,rfl,sl,hdl,hcl,ndl,fun x=>?_⟩;rw [meml,memj,tkj,mz];constructor
    ·rintro (⟨z,h1,h2⟩|h)
     ·exact ⟨z,QY _ h1,h2⟩
     ·exact ⟨y,by simp,h⟩
    ·rintro ⟨z,h1,h2⟩;rcases Qh.mp h1 with h1|h1
     ·exact .inl ⟨z,h1,h2⟩
     ·rw [show z=y by simpa using h1] at h2;exact .inr h2
   case tu3 =>
    rintro l z σ Hl hz ⟨cs2,v7,rfl,sl,hdl,hcl,hLl,ndl,meml⟩;obtain ⟨x,hx,rfl⟩:=_aN hz;have tkl:zs.take (l+1)=zs.take l++[x]:=by rw [RM,hx];rfl
    have inK:∀x∈cs2.map (·.1),x<L.pe.length:=fun x hx2=>by
     rcases (meml x).mp hx2 with h|h
     ·obtain ⟨z,h1,h2⟩:=(memj x).mp h;exact (h2.lt ok s9).2
     ·exact (((mz x).mp (Ru h)).lt ok s9).2
    have Jk:(Yc cs2).length≤6:=by rw [_cw];exact Qk (_d9 ndl inK) ok.n6
    refine ⟨_,rfl,_,rfl,c,_,rfl,DPut.k (k:=.inl (x:Int)) hcl (_y (by omega)),?_⟩;rw [_i3];refine ⟨putA cs2 x (.bl true),_,rfl,fun e u h=>?_,?_,_f,?_,_f4 ndl,fun x'=>?_⟩
    ·rw [_d (fun z=>by subst z;rw [ncH] at h;cases h)];exact sl _ _ h
    ·rw [_d dc];exact hdl
    ·rw [_d (fun z=>by rw [z,hcl] at hLl;cases hLl)];exact hLl
    ·rw [_hq,meml,tkl,Qh,Qr,or_assoc]
theorem _qr (Vc:J5 P base T) (We:_ac P base T) (Up:_at P base T):_e5 P base T:=by
 refine Fun.okY T._ce.F Wl fun cdv A outer s H vs Q E hr h=>?_;obtain ⟨b,B,t,k0,rfl,hv,bt,ti,hc,n6,q⟩:=h
 refine ⟨_,(_k (_H (i:=1) Wl.nd rfl (Or.inr rfl) (_gs (pv 0) T.lB_ T.Ug.me Up (hr.mono (by decide)) T.Ug.b .nil VG))
   (_k (_H (i:=2) Wl.nd rfl (Or.inl rfl) (_4 _b))
   (_k (_H (i:=3) Wl.nd rfl (Or.inl rfl) (_4 _b))
   (_k (_H (i:=4) Wl.nd rfl (Or.inl rfl) (_4 _b))
   (_k (Yq QH rfl (UK (by rfl) T.n_range (_a (_X YQ (by rfl) T.n_len Yw (_a (pv 1) _b)) _b)) (_D (i:=5) Wl.nd rfl (Or.inl rfl))
    (_k (_H (i:=6) Wl.nd rfl (Or.inl rfl) (_4 _b))
   (_k (Yq QH rfl (W4 (_R (_a _p (_a _p _b)))) (_D (i:=7) Wl.nd rfl (Or.inl rfl))
    (_k (_H (i:=8) Wl.nd rfl (Or.inl rfl) (_U (pv 0) T.lB_ We hr (_a (pv 7) (_a (_n Yl (pv 1) (pv 5) (fun _ _=>rfl)) _b))))
   (_i (_Y (YL QK Q1 Q2 Y7 (pv 6) (_a (_n Yl (_S JT (Xj rfl (Xs (N:=["_law_high","_law_names"]) ["_law_names"] [none,some 1] rfl (by trivial) (by trivial) (by rfl) (by rfl) (by rfl) (by rfl) (by rfl)) (YF (pv 8)) (fun _ _ _=>(_D (i:=0) _m1 rfl (Or.inl rfl))) (fun _ _ _=>_ad) (fun _ _ _=>(_pN K QK Gk GL (Jc K) (pv 1) (_a (pv 0) _b)))) (_4 (_a (Vv Vy _j) _b))) _j (fun _ _=>rfl)) _b))))))
   (_k (_Y (YL QK Q1 Q2 Y7 (pv 2) (_a (_R (_a (_U (pv 0) T.lB_ Vc hr (_a (_n Yl (pv 1) (pv 5) (fun _ _=>rfl)) _b)) (_a (_n Yl (pv 6) _j (fun _ _=>rfl)) (_a (_n Yl (pv 6) _j (fun _ _=>rfl)) _b)))) _b)))
   (_k (Yq QH rfl (YF (_U (pv 0) T.lB_ We hr (_a _p (_a (_n Yl (pv 1) (pv 5) (fun _ _=>rfl)) _b)))) (_D (i:=9) Wl.nd rfl (Or.inl rfl))
    (_i (_Y (YL QK Q1 Q2 Y7 (pv 3) (_a (_R (_a (pv 5) (_a (YL QK Gk GL (Jc K) (pv 1) (_a (pv 9) _b)) _b))) _b)))))
   (_i (Yq QH rfl (YF (_U (pv 0) T.lB_ We hr (_a _p (_a (_n Yl (pv 1) (pv 5) (fun _ _=>rfl)) _b)))) (_D (i:=10) Wl.nd rfl (Or.inl rfl))
    (_i (_G (_C _m0 (_n Yl (pv 1) (pv 5) (fun _ _=>rfl)) (pv 10) (_z _)) (_i (_Y (YL QK Q1 Q2 Y7 (pv 4) (_a (_R (_a (pv 5) (_a (YL QK Gk GL (Jc K) (pv 1) (_a (pv 10) _b)) _b))) _b)))) _P)))))))))
   (_i (_w (_R (_a (pv 2) (_a (pv 3) (_a (pv 4) _b))))))))))),?_⟩
 obtain ⟨b',dx,kk,bi,li,ti',su,e0,hB⟩:=id hv;cases e0;have bl:(Y1 B.kept).length<64:=by rw [bt.bn.length_eq];unfold _0;rw [Qc,QX];omega
 refine ⟨_,rfl,b,dx,_,rfl,hB.ob,rfl,rfl,.ref b,B,rfl,hv,bl,fun H1 N s1 nN hN=>?_⟩;rw [_gB bt] at hN;dsimp only [_B];refine ⟨few rfl,fun P nP=>?_⟩;dsimp only [_B];refine ⟨few rfl,fun Ta nT=>?_⟩;dsimp only [_B];refine ⟨few rfl,fun U nU=>?_⟩;dsimp only [_B];have gP:=_h (o:=.lst []) nP;have gT:=_h (o:=.lst []) nT;have gU:=_h (o:=.lst []) nU;have f3:Fr3 H1 P Ta U:=⟨nP,_W gP nT,_W (gP.trans gT) nU,_t _f nT,_t (gT _ _ _f) nU,_t _f nU⟩;have hB1:=hB.mono s1;have pl:((_0 t).map V.str).length=t.days.length:=by unfold _0;rw [Qc,Qc,QX]
 have lf0:LF t H1 P Ta U 0 (75*0) (75*0) (fun p=>p∈t.tak∧p.1<0) (fun p=>p∈t.uni∧p.1<0) (_c (_c (_c H1 P (.lst [])) Ta (.lst [])) U (.lst [])) [] [] []:=⟨gP.trans (gT.trans gU),⟨(gT.trans gU) _ _ _f,fun q hq=>(by cases hq)⟩,⟨gU _ _ _f,fun q hq=>(by cases hq)⟩,⟨_f,fun q hq=>(by cases hq)⟩,rfl,fun j q e=>(by cases e),fun p=>⟨fun z=>(by cases z),fun z=>(by omega)⟩,fun p=>⟨fun z=>(by cases z),fun z=>(by omega)⟩,Qe _,Qe _⟩;refine ⟨_,rfl,N,_,rfl,.inl (.of (lf0.sm _ _ hN)),_,rfl,by omega,by omega,_ev (fun i σ Hc=>∃(qs:List ((Str×Int×Int)×Addr)) (as us:List ((Nat×Nat)×Addr)) (v5 v6 v7 v8 v9 v10:Option V),σ=[some (.ref b),some (.ref N),some (.ref P),some (.ref Ta),some (.ref U),v5,v6,v7,v8,v9,v10]∧LF t H1 P Ta U i (75*i) (75*i) (fun p=>p∈t.tak∧p.1<i) (fun p=>p∈t.uni∧p.1<i) Hc qs as us) ⟨[],[],[],_,_,_,_,_,_,rfl,lf0⟩ ?jt ?jd⟩
 case jd =>
  rintro σ Hc ⟨qs,as,us,v5,v6,v7,v8,v9,v10,rfl,lf⟩;rw [Gb,pl] at lf;have la:=lf.la;have lu:=lf.lu;exact ⟨_,rfl,_,rfl,_,rfl,few rfl,fun a na=>q _ a _ (s1.trans (lf.sm.trans (_h na))) ((lf.mono (_h na)).ld _f) ((lf.ldT ti).ok ti hc n6 (by show (as.map _).length≤_;rw [Qc];omega) (by show (us.map _).length≤_;rw [Qc];omega)) (lf.ldT ti)⟩
 case jt =>
 clear lf0;rintro i σ Hc hi ⟨qs,as,us,v5,v6,v7,v8,v9,v10,rfl,lf⟩;rw [Gb,pl] at hi;have il:i<t.days.length:=hi;have at_i:Yk ((_0 t).map V.str) (i:Int)=some (.str (_e i)):=_e8 (VT il);rw [show (0:Int)+(i:Int)=i from GK _];dsimp only [_B];refine ⟨few rfl,fun Ab nAb=>?_⟩;have ne3:=lf.ne3 nAb;have nAb1:=_W lf.sm nAb;have lfa:=lf.mono (_h (o:=.lst []) nAb);dsimp only [_B];refine X8 (fun σ Hd=>∃(ups:List Int) (v7 v8:Option V),σ=[some (.ref b),some (.ref N),some (.ref P),some (.ref Ta),some (.ref U),some (.int i),some (.ref Ab),v7,v8,v9,v10]∧LF t H1 P Ta U i (75*i) (75*i) (fun p=>p∈t.tak∧p.1<i) (fun p=>p∈t.uni∧p.1<i) Hd qs as us∧Hd Ab=some (.lst (ups.map V.int))∧ups.length=2∧∀(r:Nat) x l,ups[r]?=some x->(["F","M"]:List Str)[r]?=some l->Wu t l i x) (fun nx rest=>⟨few rfl,fun t2 nt2=>⟨t2,rfl,⟨_,.of _f⟩,VH (xs:=(["F","M"]:List Str).map V.str) (fun m σ Hd=>∃(ups:List Int) (v7 v8:Option V),σ=[some (.ref b),some (.ref N),some (.ref P),some (.ref Ta),some (.ref U),some (.int i),some (.ref Ab),v7,v8,v9,v10]∧LF t H1 P Ta U i (75*i) (75*i) (fun p=>p∈t.tak∧p.1<i) (fun p=>p∈t.uni∧p.1<i) Hd qs as us∧Hd Ab=some (.lst (ups.map V.int))∧Hd t2=some (.tup ((["F","M"]:List Str).map V.str))∧ups.length=m∧∀(r:Nat) x l,ups[r]?=some x->(["F","M"]:List Str)[r]?=some l->Wu t l i x) ?st2 ?li2 ?tu2 fun σ Hd ⟨ups,v7,v8,e,a,b,_,c⟩=>rest _ _ ⟨ups,v7,v8,e,a,b,c⟩⟩⟩) ?dn2
 case st2=>exact ⟨[],_,_,rfl,lfa.mono (_h nt2),(_h nt2) _ _ _f,_f,rfl,fun r x l e=>(by cases e)⟩
 case li2 =>
  rintro m σ Hd _ ⟨ups,v7,v8,rfl,_,_,h,_⟩;exact .of h
 case tu2 =>
  rintro m y σ Hd hy ⟨ups,v7,v8,rfl,lf2,hAb,ht2,lu2,hu2⟩;obtain ⟨l,hl,rfl⟩:=V7 hy;have lFM:l="F"∨l="M":=by simpa using QE hl
  have l7:l∈_o.take 7:=by rcases lFM with rfl|rfl<;>trivial
  have ml:m<2:=(Qz.mp hl).1;obtain ⟨js,ejs,mjs,ljs⟩:=_b4 bt l7 il;have hB2:=hB1.mono lf2.sm;have hN2:=lf2.sm _ _ hN;dsimp only [_B];refine ⟨_,rfl,b,dx,_,rfl,hB2.ob,rfl,_,rfl,_,rfl,_,rfl,N,_,_,_,rfl,rfl,.of hN2,at_i,rfl,.ref b,.str l,.str (_e i),B,rfl,⟨b,dx,kk,bi,li,ti',su,rfl,hB2⟩,.inr ⟨l,rfl,fun z=>absurd z ((show ∀l∈_o.take 7,¬WX l=false by trivial) _ l7),fun _=>.inr ⟨_e i,rfl,fun z=>absurd z (bt.kn i il),fun _ H3 D s3 nD hD=>?_⟩⟩⟩;rw [ejs] at hD;dsimp only [_B];have hAb3:=s3 _ _ hAb;have hN3:=s3 _ _ hN2;refine ⟨_,rfl,.inl ⟨rfl,_,.of hAb3⟩,_,rfl,D,rfl,⟨_,.of hD⟩,JX (js.map fun j:Nat=>V.int j) (_y (by rw [Qc];omega)) (fun σ=>∃v,σ=[v,some (.ref N)]) ⟨none,rfl⟩ (fun j H4 hj sm=>?go) (fun H4 sm=>?stop) (fun j σ H4 x H5 y hy hσ sm hx C hC=>?step) (fun D5 H5 nD5 s5 hD5=>?fin)⟩
  case go=>exact ⟨_,_,sm.sql (.of hD),Qt (by rw [Qc] at hj ⊢;rw [Qc];exact hj)⟩
  case stop=>exact ⟨_,sm.sql (.of hD),by rw [Qc,Qc,Qc];exact Qe _⟩
  case step =>
   obtain ⟨v,rfl⟩:=hσ;obtain ⟨rfl,hx2⟩:=hx;have ex:=hx2 _ (sm.sql (.of hD));rw [Qp,Qp] at ex;obtain ⟨j',hj',rfl⟩:=_aN hy;rw [hj'] at ex;obtain rfl:=Qn ex;have jl:=((mjs j').mp (QE hj')).1;have hN4:=sm _ _ hN3;exact ⟨_,rfl,.inl ⟨rfl,_,.of hN4⟩,_,rfl,N,_0 t,_e j',j',rfl,rfl,.of hN4,VT jl,fun m lm=>U7 jl lm,hC _ _ ⟨_,rfl⟩ (.refl _)⟩
  case fin =>
   obtain ⟨u,a0,hu⟩:∃u:Int,Yk ((js.map fun j:Nat=>V.int j)++[V.int (-1)]) 0=some (.int u)∧Wu t l i u:=by
    cases js with
    |nil=>exact ⟨-1,rfl,.inl ⟨rfl,fun j hj=>by have:=(mjs j).mpr ⟨(ti.pn _ hj).2.1,(Xc lFM).mpr hj⟩;cases this⟩⟩
    |cons j js=>exact ⟨j,(show Yk _ ((0:Nat):Int)=some _ from Wg rfl),.inr ⟨j,rfl,(Xc lFM).mp ((mjs j).mp (by simp)).2⟩⟩
   refine ⟨_,rfl,few rfl,fun D6 n6'=>⟨D5,D6,_,_,rfl,rfl,(_h n6') _ _ hD5,_f,Uw (by rw [Qc];simp;omega),fun D7 n7=>?_⟩⟩;have s7:=s3.trans (s5.trans ((_h (o:=.lst [.int (-1)]) n6').trans (_h (o:=.lst ((js.map fun j:Nat=>V.int j)++[V.int (-1)])) n7)));have hAb7:=s7 _ _ hAb;refine ⟨D7,_,_,_,rfl,rfl,.of _f,a0,Ab,_,_,rfl,rfl,hAb7,_y (by rw [Qc];omega),ups++[u],_,_,rfl,(lf2.mono s7).off f3 hAb7 nAb1 ne3,by rw [_f,Qo];rfl,by rw [_d (fun z=>by rw [z,hAb] at ht2;cases ht2)];exact s7 _ _ ht2,by rw [Qm,lu2];rfl,fun r x l' e1 e2=>?_⟩;by_cases rl:r<ups.length
   ·rw [RE rl] at e1;exact hu2 r x l' e1 e2
   ·have rr:=(Qz.mp e1).1;rw [Qm,Rs] at rr;obtain rfl:r=ups.length:=by omega
    rw [Rp (Qe _),GJ] at e1;obtain rfl:u=x:=Qn e1;rw [lu2,hl] at e2;obtain rfl:l=l':=Qn e2;exact hu
 case dn2 =>
 rintro σ Hd ⟨ups,v7,v8,rfl,lf2,hAb,lu2,hu2⟩;obtain ⟨u1,u2,rfl⟩:=Jk lu2;have hB2:=hB1.mono lf2.sm;have hN2:=lf2.sm _ _ hN;refine X8 (fun σ Hd=>∃q,σ=[some (.ref b),some (.ref N),some (.ref P),some (.ref Ta),some (.ref U),some (.int i),some (.ref Ab),v7,v8,v9,v10]∧LF t H1 P Ta U (i+1) (75*i) (75*i) (fun p=>p∈t.tak∧p.1<i) (fun p=>p∈t.uni∧p.1<i) Hd (qs++[q]) as us) (fun nx rest=>?_) ?_
 ·refine ⟨_,rfl,.inl ⟨rfl,_,.of lf2.hQ.1⟩,_,rfl,b,dx,_,rfl,hB2.ob,rfl,_,rfl,_,rfl,N,_,_,_,rfl,rfl,.of hN2,at_i,rfl,.ref b,.str (_e i),B,rfl,⟨b,dx,kk,bi,li,ti',su,rfl,hB2⟩,.inr ⟨_e i,rfl,fun z=>absurd z (bt.kn i il),fun p hp n' s' d f m ep=>?_⟩⟩;have es:s'=t.sorts.getD i "":=by rw [←bt.so i il,_hd hp ep]
  refine ⟨_,rfl,Ab,_,_,_,rfl,rfl,.of hAb,rfl,_,rfl,Ab,_,_,_,rfl,rfl,.of hAb,rfl,few rfl,fun p np=>?_⟩;have lf3:=lf2.mono (_h (o:=.tup [.str s',.int u1,.int u2]) np);exact ⟨P,_,_,rfl,rfl,lf3.hQ.1,_y (by rw [Qc,lf3.lq];omega),rest _ _ ⟨_,rfl,lf3.addP f3 (x:=(s',u1,u2)) _f es (hu2 0 u1 "F" rfl rfl) (hu2 1 u2 "M" rfl rfl)⟩⟩
 clear lf2 hAb hB2 hN2 lu2 hu2 lfa lf;rintro σ He ⟨q0,rfl,lf4⟩;have hB2:=hB1.mono lf4.sm;have hN2:=lf4.sm _ _ hN;have l7:("T" : Str)∈_o.take 7:=by trivial
 obtain ⟨js,ejs,mjs,ljs⟩:=_b4 bt l7 il;refine X8 (fun σ Hf=>∃(as:List ((Nat×Nat)×Addr)) (v9:Option V),σ=[some (.ref b),some (.ref N),some (.ref P),some (.ref Ta),some (.ref U),some (.int i),some (.ref Ab),v7,v8,v9,v10]∧LF t H1 P Ta U (i+1) (75*(i+1)) (75*i) (fun p=>p∈t.tak∧p.1<i+1) (fun p=>p∈t.uni∧p.1<i) Hf (qs++[q0]) as us) (fun nx rest=>⟨_,rfl,b,dx,_,rfl,hB2.ob,rfl,_,rfl,_,rfl,N,_,_,_,rfl,rfl,.of hN2,at_i,rfl,.ref b,.str "T",.str (_e i),B,rfl,⟨b,dx,kk,bi,li,ti',su,rfl,hB2⟩,.inr ⟨"T",rfl,fun z=>absurd z ((show ∀l∈_o.take 7,¬WX l=false by trivial) _ l7),fun _=>.inr ⟨_e i,rfl,fun z=>absurd z (bt.kn i il),fun _ H3 D s3 nD hD=>⟨D,rfl,⟨_,.of hD⟩,XH (xs:=(js.map _e).map V.str) (fun l σ Hf=>∃(as:List ((Nat×Nat)×Addr)) (v9:Option V),σ=[some (.ref b),some (.ref N),some (.ref P),some (.ref Ta),some (.ref U),some (.int i),some (.ref Ab),v7,v8,v9,v10]∧LF t H1 P Ta U (i+1) (75*i+l) (75*i) (fun p=>(p∈t.tak∧p.1<i)∨∃j∈js.take l,p=(i,j)) (fun p=>p∈t.uni∧p.1<i) Hf (qs++[q0]) as us∧Hf D=some (.lst ((js.map _e).map V.str))) ?st3 ?li3 ?tu3 ?dn3⟩⟩⟩⟩) ?nxt
 case' st3=>rw [ejs] at hD
 case' tu3=>rw [ejs] at hD
 case st3=>exact ⟨as,_,rfl,(lf4.mono s3).cast (Qe _) (Qe _) (fun p=>by simp) (fun p=>Q0),hD⟩
 case li3 =>
  rintro l σ Hf _ ⟨as,v9,rfl,_,hD⟩;exact .of hD
 case tu3 =>
  have DT:D≠Ta:=fun z=>by rw [z,lf4.hA.1] at nD;cases nD
  clear hD nD s3;rintro l y σ Hf hy ⟨as,v9,rfl,lf5,hD⟩;rw [Qp,Qp] at hy;obtain ⟨x,hx,rfl⟩:=QC.mp hy;obtain ⟨j,hj,rfl⟩:=QC.mp hx;have jl:=((mjs j).mp (QE hj)).1;have ll:=(Qz.mp hj).1;have hN3:=lf5.sm _ _ hN;have la:=lf5.la;dsimp only [_B];refine ⟨_,rfl,.inl ⟨rfl,_,.of lf5.hA.1⟩,_,rfl,_,rfl,.inl ⟨rfl,_,.of hN3⟩,_,rfl,N,_0 t,_e j,j,rfl,rfl,.of hN3,VT jl,fun m lm=>U7 jl lm,few rfl,fun p np=>?_⟩;have lf6:=lf5.mono (_h (o:=.tup (rT (i,j))) np);refine ⟨Ta,_,_,rfl,rfl,lf6.hA.1,_y (by rw [Qc];omega),as++[((i,j),p)],_,rfl,(lf6.addT f3 _f).cast (Qe _) (Qe _) (fun p=>?_) (fun p=>Q0),by rw [_d DT];exact (_h np) _ _ hD⟩;rw [or_assoc];refine Gp Q0 ⟨fun z=>?_,fun ⟨x,hx,e⟩=>?_⟩
  ·rcases z with ⟨x,hx,e⟩|e
   ·exact ⟨x,(Vm hj).mpr (.inl hx),e⟩
   ·exact ⟨j,(Vm hj).mpr (.inr rfl),e⟩
  ·rcases (Vm hj).mp hx with hx|rfl
   ·exact .inl ⟨x,hx,e⟩
   ·exact .inr e
 case dn3 =>
  rintro σ Hf ⟨as,v9,rfl,lf5,_⟩
  refine rest _ _ ⟨as,v9,rfl,lf5.cast (m':=75*(i+1)) (k':=75*i) (PT':=fun p=>p∈t.tak∧p.1<i+1) (PU':=fun p=>p∈t.uni∧p.1<i) (by rw [Qc,Qc];omega) (Qe _) (fun p=>by
   rw [Qc,Qc,Q7];refine ⟨fun z=>?_,fun z=>?_⟩
   ·rcases z with z|⟨j,hj,rfl⟩
    ·exact ⟨z.1,by omega⟩
    ·exact ⟨Wo.mp ((mjs j).mp hj).2,Q9 _⟩
   ·by_cases c:p.1<i
    ·exact .inl ⟨z.1,c⟩
    ·obtain ⟨a,c2⟩:=p;obtain rfl:a=i:=by have:=z.2;simp at this c;omega
     exact .inr ⟨c2,(mjs c2).mpr ⟨(ti.tk _ z.1).2.1,Wo.mpr z.1⟩,rfl⟩) (fun p=>Q0)⟩
 case nxt =>
 clear lf4 hB2 hN2 mjs ljs ejs l7;rintro σ Hf ⟨as,v9,rfl,lf6⟩;have hB2:=hB1.mono lf6.sm;have hN2:=lf6.sm _ _ hN;have l7:("S" : Str)∈_o.take 7:=by trivial
 obtain ⟨js,ejs,mjs,ljs⟩:=_b4 bt l7 il;refine ⟨_,rfl,b,dx,_,rfl,hB2.ob,rfl,_,rfl,_,rfl,N,_,_,_,rfl,rfl,.of hN2,at_i,rfl,.ref b,.str "S",.str (_e i),B,rfl,⟨b,dx,kk,bi,li,ti',su,rfl,hB2⟩,.inr ⟨"S",rfl,fun z=>absurd z ((show ∀l∈_o.take 7,¬WX l=false by trivial) _ l7),fun _=>.inr ⟨_e i,rfl,fun z=>absurd z (bt.kn i il),fun _ H3 D s3 nD hD=>⟨D,rfl,⟨_,.of hD⟩,XH (xs:=(js.map _e).map V.str) (fun l σ Hf=>∃(us:List ((Nat×Nat)×Addr)) (v10:Option V),σ=[some (.ref b),some (.ref N),some (.ref P),some (.ref Ta),some (.ref U),some (.int i),some (.ref Ab),v7,v8,v9,v10]∧LF t H1 P Ta U (i+1) (75*(i+1)) (75*i+l) (fun p=>p∈t.tak∧p.1<i+1) (fun p=>(p∈t.uni∧p.1<i)∨∃j∈js.take l,i<j∧p=(i,j)) Hf (qs++[q0]) as us∧Hf D=some (.lst ((js.map _e).map V.str))) ?st4 ?li4 ?tu4 ?dn4⟩⟩⟩⟩
 all_goals rw [ejs] at hD
 case st4=>exact ⟨us,_,rfl,(lf6.mono s3).cast (Qe _) (Qe _) (fun p=>Q0) (fun p=>by simp),hD⟩
 case li4 =>
  rintro l σ Hf _ ⟨us,v10,rfl,_,hD⟩;exact .of hD
 case tu4 =>
  have DU:D≠U:=fun z=>by rw [z,lf6.hU.1] at nD;cases nD
  clear hD nD s3;rintro l y σ Hf hy ⟨us,v10,rfl,lf5,hD⟩;rw [Qp,Qp] at hy;obtain ⟨x,hx,rfl⟩:=QC.mp hy;obtain ⟨j,hj,rfl⟩:=QC.mp hx;have jl:=((mjs j).mp (QE hj)).1;have ll:=(Qz.mp hj).1;have hN3:=lf5.sm _ _ hN;have lu:=lf5.lu;dsimp only [_B];refine ⟨_,rfl,_,rfl,N,_,_,_,rfl,rfl,.of hN3,at_i,_,rfl,_,_,rfl,rfl,_,rfl,?_⟩;by_cases ij:i<j
  ·refine _V (by rw [_da];exact Qx ij) ⟨_,rfl,.inl ⟨rfl,_,.of lf5.hU.1⟩,_,rfl,_,rfl,.inl ⟨rfl,_,.of hN3⟩,_,rfl,N,_0 t,_e j,j,rfl,rfl,.of hN3,VT jl,fun m lm=>U7 jl lm,few rfl,fun p np=>?_⟩;have lf7:=lf5.mono (_h (o:=.tup (rT (i,j))) np);refine ⟨U,_,_,rfl,rfl,lf7.hU.1,_y (by rw [Qc];omega),us++[((i,j),p)],_,rfl,(lf7.addU f3 _f).cast (Qe _) (Qe _) (fun p=>Q0) (fun p=>?_),by rw [_d DU];exact (_h np) _ _ hD⟩;rw [or_assoc];refine Gp Q0 ⟨fun z=>?_,fun ⟨x,hx,e⟩=>?_⟩
   ·rcases z with ⟨x,hx,e⟩|e
    ·exact ⟨x,(Vm hj).mpr (.inl hx),e⟩
    ·exact ⟨j,(Vm hj).mpr (.inr rfl),ij,e⟩
   ·rcases (Vm hj).mp hx with hx|rfl
    ·exact .inl ⟨x,hx,e⟩
    ·exact .inr e.2
  ·refine _u (by rw [_da];exact Qs ij) ⟨us,_,rfl,lf5.cast (Qe _) (QV _) (fun p=>Q0) (fun p=>Gp Q0 ⟨fun ⟨x,hx,e⟩=>⟨x,(Vm hj).mpr (.inl hx),e⟩,fun ⟨x,hx,e⟩=>?_⟩),hD⟩;rcases (Vm hj).mp hx with hx|rfl
   ·exact ⟨x,hx,e⟩
   ·exact absurd e.1 ij
 case dn4 =>
 clear lf6 hB2 hN2 hD nD s3;rintro σ Hf ⟨us,v10,rfl,lf5,_⟩;refine ⟨_,as,us,_,_,_,_,_,_,rfl,lf5.cast (Qe _) (by rw [Qc,Qc];omega) (fun p=>Q0) fun p=>?_⟩;rw [Qc,Qc,Q7];refine ⟨fun z=>?_,fun z=>?_⟩
 ·rcases z with z|⟨j,hj,ij,rfl⟩
  ·exact ⟨z.1,by omega⟩
  ·rcases XZ.mp ((mjs j).mp hj).2 with r|r
   ·exact ⟨r,Q9 _⟩
   ·have:=(ti.un _ r).1;simp at this;omega
 ·by_cases c:p.1<i
  ·exact .inl ⟨z.1,c⟩
  ·obtain ⟨a,c2⟩:=p;obtain rfl:a=i:=by have:=z.2;simp at this c;omega
   have un:=ti.un _ z.1;exact .inr ⟨c2,(mjs c2).mpr ⟨un.2,XZ.mpr (.inl z.1)⟩,un.1,rfl⟩
theorem _nz: _eC P base T:=by
 refine Fun.okY T._cs.F XE fun cdv A outer s H vs Q E hr h=>?_;obtain ⟨c,t,cs,ts,rfl,hc,c1,c6,ht,t5,q⟩:=h
 refine ⟨_,(_k (_H (i:=2) XE.nd rfl (Or.inr rfl) (_4 _b))
   (_k (Yq QH rfl (YF (pv 0)) (_D (i:=3) XE.nd rfl (Or.inl rfl))
    (_k (_H (i:=4) XE.nd rfl (Or.inl rfl) (_S JT (Xj rfl (Xs (N:=["_law_k","_law_people"]) ["_law_people"] [none,some 2] rfl (by trivial) (by trivial) (by rfl) (by rfl) (by rfl) (by rfl) (by rfl)) (UK (by rfl) T.n_range (_a (_X YQ (by rfl) T.n_len Yw (_a (pv 2) _b)) _b)) (fun _ _ _=>(_D (i:=0) _gb rfl (Or.inl rfl))) (fun _ _ _=>(XV (_C _1 (_n (_fl K rfl) (_n (_c9 K rfl) (pv 1) (pv 0) (fun _ _=>rfl)) _j (fun _ _=>rfl)) _p (_z _)))) (fun _ _ _=>(pv 0))) (_4 (_a (Vv Vy _j) _b))))
   (_k (_H (i:=5) XE.nd rfl (Or.inl rfl) (_S JT (Xj rfl (Xs (N:=["_law_k","_law_people"]) ["_law_people"] [none,some 2] rfl (by trivial) (by trivial) (by rfl) (by rfl) (by rfl) (by rfl) (by rfl)) (UK (by rfl) T.n_range (_a (_X YQ (by rfl) T.n_len Yw (_a (pv 2) _b)) _b)) (fun _ _ _=>(_D (i:=0) _gb rfl (Or.inl rfl))) (fun _ _ _=>(XV (_C _1 (_n (_fl K rfl) (_n (_c9 K rfl) (pv 1) (pv 0) (fun _ _=>rfl)) _j (fun _ _=>rfl)) _p (_z _)))) (fun _ _ _=>(pv 0))) (_4 (_a (Vv Vy _j) _b))))
   (_k (_H (i:=6) XE.nd rfl (Or.inl rfl) (_n Yl (_4 (_a _p (_a _p (_a _p _b)))) (_S XR (pv 3) _j) (fun _ _=>rfl)))
   (_k (_H (i:=7) XE.nd rfl (Or.inl rfl) (_n Yl (pv 5) (_S XR (_S WM (_S WM (pv 3) _j) (_X YQ (by rfl) T.n_len Yw (_a (pv 4) _b))) (_X YQ (by rfl) T.n_len Yw (_a (pv 5) _b))) (fun _ _=>rfl)))
   (_i (_Y (YL QK Q1 Q2 Y7 (pv 2) (_a (_R (_a (pv 6) (_a (_n Yl (pv 4) (_S XR (_S WM (pv 3) _j) (_X YQ (by rfl) T.n_len Yw (_a (pv 4) _b))) (fun _ _=>rfl)) (_a (pv 7) _b)))) _b)))))))))
   (_k (_H (i:=8) XE.nd rfl (Or.inl rfl) (_X YQ (by rfl) T.n_len Yw (_a (pv 2) _b)))
   (_k (_H (i:=9) XE.nd rfl (Or.inl rfl) (_4 _b))
   (_k (_H (i:=10) XE.nd rfl (Or.inl rfl) (_4 _b))
   (_k (Yq QH rfl (YF (pv 1)) (_D (i:=3) XE.nd rfl (Or.inl rfl))
    (_i (_G (_C _dO (pv 8) _j (_z _)) (_k (_H (i:=11) XE.nd rfl (Or.inl rfl) (_S XR (_S WM (pv 3) _j) (pv 8)))
   (_k (_H (i:=12) XE.nd rfl (Or.inl rfl) (_S XR (_S Vn (_S Vn (pv 11) _j) (_S XR (_S WM (_S WM (pv 3) _j) (pv 8)) (_S _h1 (pv 8) _j))) (pv 8)))
   (_k (_H (i:=13) XE.nd rfl (Or.inl rfl) (_R (_a (_X (_l4 rfl) (by rfl) T.n_max _ao (_a (pv 11) (_a (pv 12) _b))) (_a (_X (_mJ rfl) (by rfl) T.n_min _iA (_a (pv 11) (_a (pv 12) _b))) _b))))
   (_k (_G (PW.pt (UC (_C _1 (_S XR (pv 3) _j) _j (_z _)) (UJ (_C (_hE hr.units) (pv 13) (pv 9) (by rfl))))) (_i (_Y (YL QK Q1 Q2 Y7 (pv 9) (_a (pv 13) _b)))) _P)
   (_i (_G (PW.pt (UC (_C _1 (_S XR (pv 3) _j) _j (_z _)) (UJ (_C (_hE hr.units) (pv 13) (pv 10) (by rfl))))) (_i (_Y (YL QK Q1 Q2 Y7 (pv 10) (_a (pv 13) _b)))) _P)))))) _P)))
   (_i (_w (_R (_a (pv 2) (_a (pv 9) (_a (pv 10) _b)))))))))))),?_⟩
 refine ⟨few rfl,fun P nP=>?_⟩;have sP:=_h (o:=.lst []) nP;dsimp only [_B];refine ⟨_,rfl,c,rfl,⟨_,sP.sql hc⟩,XH (xs:=cs.map V.int) (fun k σ Hc=>∃(qs:List ((Str×Int×Int)×Addr)) (v3 v4 v5 v6 v7:Option V),σ=[some (.ref c),some (.ref t),some (.ref P),v3,v4,v5,v6,v7,none,none,none,none,none,none]∧Same H Hc∧QsAt rP Hc P qs∧qs.length=k∧PO (qs.map (·.1))) ?st ?li ?tu ?dn⟩
 case st=>exact ⟨[],_,_,_,_,_,rfl,sP,⟨_f,fun q hq=>(by cases hq)⟩,rfl,fun p hp=>(by cases hp)⟩
 case li =>
  rintro k σ Hc _ ⟨qs,v3,v4,v5,v6,v7,rfl,sc,_⟩;exact sc.sql hc
 case tu =>
  rintro k y σ Hc hy ⟨qs,v3,v4,v5,v6,v7,rfl,sc,hQ,lq,po⟩;obtain ⟨z,rfl,hz⟩:=VM hy;have kl:k<6:=by have:=(Qz.mp hz).1;omega
  have b3:(3:Int)≠0∧(3:Int).natAbs<2 ^ 1000:=⟨by decide,VW (by decide) (by decide)⟩;dsimp only [_B];refine _gE hQ (by omega) rfl fun D1 H1 fs n1 s1 hD1 l1 f1=>⟨_,rfl,few rfl,fun D2 n2=>⟨D1,D2,_,_,rfl,rfl,(_h n2) _ _ hD1,_f,Uw (by rw [Qc];simp;omega),fun D3 n3=>?_⟩⟩;have s3:=s1.trans ((_h (o:=.lst [.int (-1)]) n2).trans (_h (o:=.lst (fs.map V.int++[.int (-1)])) n3));have eF:fs.map V.int++[V.int (-1)]=(fs++[-1]).map V.int:=by rw [Qo];rfl
  dsimp only [_B];refine _gE (hQ.mono s3) (by omega) rfl fun D4 H4 ms n4 s4 hD4 l4 f4=>⟨_,rfl,few rfl,fun D5 n5=>⟨D4,D5,_,_,rfl,rfl,(_h n5) _ _ hD4,_f,Uw (by rw [Qc];simp;omega),fun D6 n6=>?_⟩⟩;have s6:=s4.trans ((_h (o:=.lst [.int (-1)]) n5).trans (_h (o:=.lst (ms.map V.int++[.int (-1)])) n6));have eM:ms.map V.int++[V.int (-1)]=(ms++[-1]).map V.int:=by rw [Qo];rfl
  dsimp only [_B];obtain ⟨so,_,e7⟩:=U4 V.str ["he","she",""] (by decide) z;refine ⟨few rfl,fun D7 n7=>⟨_,rfl,_,_,rfl,rfl,(show (3:Int)≠0 by decide),D7,_,_,_,rfl,rfl,.of _f,e7,?_⟩⟩;have s7:=_h (o:=.lst [.str "he",.str "she",.str ""]) n7;have hF:=(s6.trans s7) _ _ (show (_c (_c H1 D2 (.lst [.int (-1)])) D3 (.lst (fs.map V.int++[.int (-1)]))) D3=some (.lst (fs.map V.int++[.int (-1)])) from _f);have hM:=s7 _ _ (show (_c (_c H4 D5 (.lst [.int (-1)])) D6 (.lst (ms.map V.int++[.int (-1)]))) D6=some (.lst (ms.map V.int++[.int (-1)])) from _f);replace hF:=hF.trans (QB (fun z=>some (HO.lst z)) eF);replace hM:=hM.trans (QB (fun z=>some (HO.lst z)) eM);have lF:((fs++[-1]).map V.int).length=fs.length+1:=by rw [Qc,Qm];rfl
  have lM:((ms++[-1]).map V.int).length=ms.length+1:=by rw [Qc,Qm];rfl
  have bF:(((fs++[-1]).map V.int).length:Int)≠0∧(((fs++[-1]).map V.int).length:Int).natAbs<2 ^ 1000:=⟨by omega,VW (by omega) (by omega)⟩;obtain ⟨mo,hmo,eo⟩:=U4 V.int (ms++[-1]) (by simp) ((z.fdiv 3).fdiv (((fs++[-1]).map V.int).length:Int));obtain ⟨fo,hfo,ef⟩:=U4 V.int (fs++[-1]) (by simp) (z.fdiv 3);dsimp only [_B];refine ⟨_,rfl,_,rfl,_,_,rfl,rfl,b3,_,rfl,D3,_,rfl,.inl (.of hF),_,_,rfl,rfl,bF,_,rfl,D6,_,rfl,.inl (.of hM),_,_,rfl,rfl,(by omega),D6,_,_,_,rfl,rfl,.of hM,eo,?_⟩;dsimp only [_B];have h8:=(s3.trans (s6.trans s7));have hQ8:=hQ.mono h8;refine ⟨_,rfl,.inl ⟨rfl,_,.of hQ8.1⟩,_,rfl,_,rfl,_,rfl,_,_,rfl,rfl,b3,_,rfl,D3,_,rfl,.inl (.of hF),_,_,rfl,rfl,(by omega),D3,_,_,_,rfl,rfl,.of hF,ef,_,rfl,few rfl,fun p np=>?_⟩;have s9:=_h (o:=.tup [.str so,.int fo,.int mo]) np;have hQ9:=hQ8.mono s9
  have c9:∀(s:Str) (xs:List Int) x,(∀j∈xs,OfS (qs.map (·.1)) s j)->x∈xs++[-1]->OfS (qs.map (·.1)) s x:=fun s xs x h m=>by
   rcases Qh.mp m with m|m
   ·exact h x m
   ·exact .inl (Qr.mp m)
  refine ⟨P,_,_,rfl,rfl,hQ9.1,_y (by rw [Qc];omega),qs++[((so,fo,mo),p)],_,_,_,_,_,rfl,fun b u e=>?_,hQ9.put (x:=(so,fo,mo)) _f,by rw [Qm,lq];rfl,by rw [Qo];exact po.snoc (c9 _ _ _ f1 hfo) (c9 _ _ _ f4 hmo)⟩;rw [_d (fun z=>by rw [z,nP] at e;cases e)];exact s9 _ _ (h8 _ _ (sc _ _ e))
 case dn =>
 rintro σ Hc ⟨qs,v3,v4,v5,v6,v7,rfl,sc,hQ,lq,po⟩;rw [Qc] at lq;obtain ⟨n,en⟩:∃n,n=qs.length:=⟨_,rfl⟩;refine ⟨_,rfl,P,_,rfl,.inl (.of hQ.1),?_⟩;rw [Qc,←en];dsimp only [_B];refine ⟨few rfl,fun Ta nT=>?_⟩;dsimp only [_B];refine ⟨few rfl,fun U nU=>?_⟩;dsimp only [_B];have sT:=_h (o:=.lst []) nT;have sU:=_h (o:=.lst []) nU;have PT:P≠Ta:=_t hQ.1 nT;have PU:P≠U:=_t (sT _ _ hQ.1) nU;have TU:Ta≠U:=_t _f nU;have nTH:=_W sc nT;have nUH:=_W (sc.trans sT) nU;have lt0:LT H P Ta U n 0 0 qs (_c (_c Hc Ta (.lst [])) U (.lst [])) [] []:=⟨sc.trans (sT.trans sU),hQ.mono (sT.trans sU),⟨sU _ _ _f,fun q hq=>(by cases hq)⟩,⟨_f,fun q hq=>(by cases hq)⟩,Qe _,Qe _,fun q hq=>(by cases hq),fun q hq=>(by cases hq)⟩;refine ⟨_,rfl,t,rfl,⟨_,lt0.sm.sql ht⟩,XH (xs:=ts.map V.int) (fun k σ Hd=>∃(as us:List ((Nat×Nat)×Addr)) (v3 v11 v12 v13:Option V),σ=[some (.ref c),some (.ref t),some (.ref P),v3,v4,v5,v6,v7,some (.int n),some (.ref Ta),some (.ref U),v11,v12,v13]∧LT H P Ta U n k k qs Hd as us) ?st2 ?li2 ?tu2 ?dn2⟩
 case st2=>exact ⟨[],[],_,_,_,_,rfl,lt0⟩
 case li2 =>
  rintro k σ Hd _ ⟨as,us,v3,v11,v12,v13,rfl,lt⟩;exact lt.sm.sql ht
 case dn2 =>
  rintro σ Hd ⟨as,us,v3,v11,v12,v13,rfl,lt⟩;rw [Qc] at lt;exact ⟨_,rfl,_,rfl,_,rfl,few rfl,fun p np=>q _ p _ (lt.sm.trans (_h np)) ((lt.mono (_h np)).ld _f) (lt.ok en.symm (by omega) (by omega) t5 t5 po)⟩
 case tu2 =>
 rintro k y σ Hd hy ⟨as,us,v3,v11,v12,v13,rfl,lt⟩;obtain ⟨z,rfl,hz⟩:=VM hy;have kl:k<5:=by have:=(Qz.mp hz).1;omega
 have b2:(2:Int)≠0∧(2:Int).natAbs<2 ^ 1000:=⟨by decide,VW (by decide) (by decide)⟩;dsimp only [_B];refine ⟨_,rfl,_,_,rfl,rfl,_,rfl,?_⟩;by_cases n1:1<n
 case neg=>exact _u (Qs (by omega)) ⟨as,us,_,_,_,_,rfl,lt.le (QV _) (QV _)⟩
 refine _V (Qx (by omega)) ?_;have bn:(n:Int)≠0∧(n:Int).natAbs<2 ^ 1000:=⟨by omega,VW (by omega) (by omega)⟩;obtain ⟨o1,ol1,eo1⟩:=_cq (z.fdiv 2) (n:=n) (by omega);refine ⟨_,rfl,_,_,rfl,rfl,b2,_,rfl,_,_,rfl,rfl,bn.1,?_⟩;dsimp only [_B];rw [eo1];obtain ⟨o2,ol2,eo2⟩:=_cq ((o1:Int)+1+((z.fdiv 2).fdiv n).fmod ((n:Int)-1)) (n:=n) (by omega);refine ⟨_,rfl,_,_,rfl,rfl,_,rfl,_,_,rfl,rfl,b2,_,rfl,_,_,rfl,rfl,bn,_,rfl,_,_,rfl,rfl,_,_,rfl,rfl,(by omega),_,_,rfl,rfl,_,rfl,_,_,rfl,rfl,bn.1,?_⟩;dsimp only [_B];rw [eo2];refine ⟨_,rfl,_,rfl,_,_,rfl,_,rfl,_,rfl,_,_,rfl,few rfl,fun p np=>?_⟩
 obtain ⟨x,xl,ex⟩:∃x:Nat×Nat,(x.1<n∧x.2<n)∧[V.int (if (o2:Int) > o1 then (o2:Int) else o1),V.int (if (o2:Int)<o1 then (o2:Int) else o1)]=rT x:=by
  by_cases g:o1<o2
  ·exact ⟨(o2,o1),⟨ol2,ol1⟩,by rw [Qb (by omega),Qa (by omega)]⟩
  ·by_cases g2:o2<o1
   ·exact ⟨(o1,o2),⟨ol1,ol2⟩,by rw [Qa (by omega),Qb (by omega)]⟩
   ·exact ⟨(o1,o1),⟨ol1,ol1⟩,by rw [Qa (by omega),Qa (by omega)]⟩
 rw [ex];have lt1:=lt.mono (_h (o:=.tup (rT x)) np);obtain ⟨He,eHe⟩:∃He,He=_c Hd p (.tup (rT x)):=⟨_,rfl⟩;have hp:He p=some (.tup (rT x)):=by rw [eHe];exact _f
 rw [←eHe] at lt1;rw [←eHe];clear eHe lt;dsimp only [_B];refine X8 (fun σ Hx=>∃as,σ=[some (.ref c),some (.ref t),some (.ref P),some (.int z),v4,v5,v6,v7,some (.int n),some (.ref Ta),some (.ref U),some (.int o1),some (.int o2),some (.ref p)]∧LT H P Ta U n (k+1) k qs Hx as us∧Hx p=some (.tup (rT x))) (fun nx rest=>?_) ?_
 ·refine ⟨_,rfl,_,_,rfl,rfl,b2.1,rfl,_,rfl,X1 (fun _=>?_) (fun _=>Yb (rest _ _ ⟨as,rfl,lt1.le (QV _) (Qe _),hp⟩))⟩;refine ⟨_,rfl,_,rfl,dT x,_,Ta,_,rfl,.of lt1.hA.1,_dv hp,_bF lt1.hA.2,Qk (_bX _) (by decide),_,rfl,X1 (fun _=>?_) (fun _=>rest _ _ ⟨as,rfl,lt1.le (QV _) (Qe _),hp⟩)⟩;have:=lt1.la;exact ⟨_,rfl,.inl ⟨rfl,_,.of lt1.hA.1⟩,_,rfl,Ta,_,_,rfl,rfl,lt1.hA.1,_y (by rw [Qc];omega),rest _ _ ⟨as++[(x,p)],rfl,lt1.putA nTH PT TU.symm hp xl,by rw [_d (fun z=>by rw [z,lt1.hA.1] at hp;cases hp)];exact hp⟩⟩
 ·rintro σ Hx ⟨as,rfl,lt2,hp2⟩;refine ⟨_,rfl,_,_,rfl,rfl,b2.1,rfl,_,rfl,X1 (fun _=>?_) (fun _=>Yb ⟨as,us,_,_,_,_,rfl,lt2.le (Qe _) (QV _)⟩)⟩;refine ⟨_,rfl,_,rfl,dT x,_,U,_,rfl,.of lt2.hU.1,_dv hp2,_bF lt2.hU.2,Qk (_bX _) (by decide),_,rfl,X1 (fun _=>?_) (fun _=>⟨as,us,_,_,_,_,rfl,lt2.le (Qe _) (QV _)⟩)⟩;have:=lt2.lu;exact ⟨_,rfl,.inl ⟨rfl,_,.of lt2.hU.1⟩,_,rfl,U,_,_,rfl,rfl,lt2.hU.1,_y (by rw [Qc];omega),as,us++[(x,p)],_,_,_,_,rfl,lt2.putU nUH PU TU hp2 xl⟩
theorem _oz (Wx:_af P base T):_al P base T:=by
 refine Fun.okY T._fi.F W7 fun cdv A outer s H vs Q E hr h=>?_;obtain ⟨a,l,cs,i0,L,rfl,hL,ok,hl,l5,il,q⟩:=h
 refine ⟨_,(_k (_H (i:=3) W7.nd rfl (Or.inl rfl) (_4 _b))
   (_k (_H (i:=4) W7.nd rfl (Or.inl rfl) (pv 2))
   (_k (Yq QH rfl (YF (pv 1)) (_D (i:=5) W7.nd rfl (Or.inl rfl))
    (_k (_H (i:=6) W7.nd rfl (Or.inl rfl) (_4 _b))
   (_k (Yq QH rfl (W4 (_R (_a _p (_a _p (_a _p (_a _p (_a _p (_a _p (_a _p (_a _p (_a _p _b))))))))))) (_D (i:=7) W7.nd rfl (Or.inl rfl))
    (_i (_G (_C (_aJ hr.units) (_L Wx hr (_a (pv 0) (_a (pv 7) (_a (pv 4) _b)))) (_4 _b) (_z _)) (_i (_Y (YL QK Q1 Q2 Y7 (pv 6) (_a (pv 7) _b)))) _P)))
   (_i (_G (_C (_aJ hr.units) (pv 6) (_4 _b) (_z _)) (_k (_H (i:=7) W7.nd rfl (Or.inl rfl) (_n Yl (pv 6) (_S XR (pv 5) (_X YQ (by rfl) T.n_len Yw (_a (pv 6) _b))) (fun _ _=>rfl)))
   (_k (_H (i:=8) W7.nd rfl (Or.inl rfl) (_L Wx hr (_a (pv 0) (_a (pv 7) (_a (pv 4) _b)))))
   (_k (_H (i:=4) W7.nd rfl (Or.inl rfl) (_n Yl (pv 8) (_S XR (_S WM (pv 5) _j) (_X YQ (by rfl) T.n_len Yw (_a (pv 8) _b))) (fun _ _=>rfl)))
   (_i (_Y (YL QK Q1 Q2 Y7 (pv 3) (_a (pv 7) _b))))))) _P)))))
   (_i (_w (_4 (_a (UW _hH (by rfl) T.n_tuple _a1 (_a (pv 3) _b)) (_a (pv 4) _b)))))))),?_⟩
 refine ⟨few rfl,fun W nW=>?_⟩;have e1:=_h (o:=.lst []) nW;dsimp only [_B];refine ⟨_,rfl,?_⟩;dsimp only [_B];refine ⟨_,rfl,l,rfl,⟨_,e1.sql hl⟩,XH (xs:=cs.map V.int) (fun k σ Hc=>∃(way:List Str) (j:Nat) (v5 v6 v7 v8:Option V),σ=[some (.ref a),some (.ref l),some (.int i0),some (.ref W),some (.int j),v5,v6,v7,v8]∧Same H Hc∧Hc W=some (.lst (way.map V.str))∧(∀s∈way,s∈_o)∧way.length≤k∧j<L.pe.length∧WT (RL L) way i0 j) ?st ?li ?tu ?dn⟩
 case st=>exact ⟨[],i0,_,_,_,_,rfl,e1,_f,fun s hs=>(by cases hs),Qe _,il,rfl⟩
 case li =>
  rintro k σ Hc _ ⟨way,j,v5,v6,v7,v8,rfl,sc,_⟩;exact sc.sql hl
 case dn =>
  rintro σ Hc ⟨way,j,v5,v6,v7,v8,rfl,sc,hW,w9,wl,jl,wt⟩;rw [Qc] at wl;exact ⟨_,rfl,W,_,rfl,.inl ⟨.of hW,fun p np=>⟨_,rfl,few rfl,fun D nD=>q _ D p way j (sc.trans ((_h np).trans (_h nD))) _f ((_h nD).sqt (.of _f)) w9 (by omega) jl wt⟩⟩⟩
 case tu =>
 rintro k y σ Hc hy ⟨way,j,v5,v6,v7,v8,rfl,sc,hW,w9,wl,jl,wt⟩;obtain ⟨c,rfl,hc⟩:=VM hy;have kl:k<5:=by have:=(Qz.mp hc).1;omega
 dsimp only [_B];refine ⟨few rfl,fun S nS=>?_⟩;have WS':W≠S:=_t hW nS;have e2:=_h (o:=.lst []) nS;have nSH:=_W sc nS;dsimp only [_B];refine ⟨few rfl,fun t nt=>⟨t,rfl,⟨_,.of _f⟩,VH (xs:=_o.map V.str) (fun m σ Hd=>∃(so:List Str) (v7:Option V),σ=[some (.ref a),some (.ref l),some (.int i0),some (.ref W),some (.int j),some (.int c),some (.ref S),v7,v8]∧Same H Hd∧Hd W=some (.lst (way.map V.str))∧Hd S=some (.lst (so.map V.str))∧Hd t=some (.tup (_o.map V.str))∧(∀s∈so,s∈_o∧∃x,RL L s j x)∧so.length≤m) ?st2 ?li2 ?tu2 ?dn2⟩⟩
 case st2=>exact ⟨[],_,rfl,sc.trans (e2.trans (_h nt)),(e2.trans (_h nt)) _ _ hW,(_h nt) _ _ _f,_f,fun s hs=>(by cases hs),Qe _⟩
 case li2 =>
  rintro m σ Hd _ ⟨so,v7,rfl,sd,hWd,hSd,htd,_⟩;exact .of htd
 case tu2 =>
  rintro m y σ Hd hy ⟨so,v7,rfl,sd,hWd,hSd,htd,so9,sl⟩;obtain ⟨s,hs,rfl⟩:=V7 hy;have ml:m<9:=(Qz.mp hs).1;have s9:=QE hs;refine ⟨_,rfl,_,rfl,_,rfl,rfl,a,s,j,L,rfl,hL.mono sd.x,ok,s9,jl,fun H1 DL zs s1 nD hD mz lz=>⟨few rfl,fun E nE=>?_⟩⟩;have s2:=s1.trans (_h (o:=.lst []) nE);refine ⟨zs.map fun z:Nat=>D.int z,[],_iK (.of ((_h nE) _ _ hD)),⟨E,[],rfl,.of _f,rfl⟩,Qk (_cm _) (show 1≤50 by decide),_,rfl,?_⟩;cases zs with
  |nil=>exact _u (by decide) ⟨so,_,rfl,sd.trans s2,s2 _ _ hWd,s2 _ _ hSd,s2 _ _ htd,so9,by omega⟩
  |cons z zs =>
   have hS2:=s2 _ _ hSd;refine _V rfl ⟨_,rfl,.inl ⟨rfl,_,.of hS2⟩,_,rfl,S,_,_,rfl,rfl,hS2,_y (by rw [Qc];omega),so++[s],_,rfl,fun b u e=>?_,?_,?_,?_,fun x hx=>?_,by rw [Qm,Rs];omega⟩
   ·rw [_d (fun z=>by rw [z,nSH] at e;cases e)];exact s2 _ _ (sd _ _ e)
   ·rw [_d WS'];exact s2 _ _ hWd
   ·rw [_f,Qo];rfl
   ·rw [_d (fun z=>by rw [z,hSd] at htd;cases htd)];exact s2 _ _ htd
   ·rcases Qh.mp hx with hx|hx
    ·exact so9 x hx
    ·rw [Qr.mp hx];exact ⟨s9,z,(mz z).mp (by simp)⟩
 case dn2 =>
 rintro σ Hd ⟨so,v7,rfl,sd,hWd,hSd,htd,so9,sl⟩;refine ⟨_,rfl,few rfl,fun E nE=>?_⟩;have s2:=_h (o:=.lst []) nE;refine ⟨so.map D.str,[],_oE (.of (s2 _ _ hSd)),⟨E,[],rfl,.of _f,rfl⟩,by rw [_fT];decide,_,rfl,?_⟩;by_cases so0:so=[]
 ·subst so0;exact _u (by decide) ⟨way,j,_,_,_,_,rfl,sd.trans s2,s2 _ _ hWd,w9,by omega,jl,wt⟩
 have sop:0<so.length:=List.length_pos_iff.mpr so0;refine _V (by cases so with|nil=>exact absurd rfl so0|cons z zs=>rfl) ?_;obtain ⟨s,hs,ea⟩:=U4 V.str so sop c;obtain ⟨s9,x0,hx0⟩:=so9 s hs;have hS2:=s2 _ _ hSd;refine ⟨_,rfl,_,rfl,_,rfl,S,_,rfl,.inl (.of hS2),_,_,rfl,rfl,(by rw [Qc];omega),S,_,_,_,rfl,rfl,.of hS2,ea,?_⟩;dsimp only [_B];have sd2:=sd.trans s2;refine ⟨_,rfl,_,rfl,_,rfl,rfl,a,s,j,L,rfl,hL.mono sd2.x,ok,s9,jl,fun H1 D zs s1 nD hD mz lz=>?_⟩;dsimp only [_B];have zp:0<zs.length:=List.length_pos_of_mem ((mz x0).mpr hx0);obtain ⟨x,hx,ex⟩:=U4 (fun z:Nat=>V.int z) zs zp (c.fdiv 9);have b9:(9:Int)≠0∧(9:Int).natAbs<2 ^ 1000:=⟨by decide,VW (by decide) (by decide)⟩;refine ⟨_,rfl,_,rfl,_,_,rfl,rfl,b9,_,rfl,D,_,rfl,.inl (.of hD),_,_,rfl,rfl,(by rw [Qc];omega),D,_,_,_,rfl,rfl,.of hD,ex,?_⟩;dsimp only [_B];have hW2:=s1 _ _ (s2 _ _ hWd);refine ⟨_,rfl,.inl ⟨rfl,_,.of hW2⟩,_,rfl,W,_,_,rfl,rfl,hW2,_y (by rw [Qc];omega),way++[s],x,_,_,_,_,rfl,fun b u e=>?_,by rw [_f,Qo];rfl,fun z hz=>?_,by rw [Qm,Rs];omega,(((mz x).mp hx).lt ok s9).2,_eD.mpr ⟨j,wt,(mz x).mp hx⟩⟩
 ·rw [_d (fun z=>by rw [z,nW] at e;cases e)];exact s1 _ _ (sd2 _ _ e)
 ·rcases Qh.mp hz with hz|hz
  ·exact w9 z hz
  ·rw [Qr.mp hz];exact s9
theorem _o7 (Wx:_af P base T):_dn P base T:=by
 refine Fun.okY T._cx.F Vu fun cdv A outer s H vs Q E hr h=>?_;obtain ⟨a,i0,j0,L,rfl,hL,ok,i0l,q⟩:=h
 refine ⟨_,(_k (_H (i:=3) Vu.nd rfl (Or.inl rfl) (_aM (W9 (pv 1) (_R _b) _a9) rfl rfl (by simp) (by decide)))
   (_k (_H (i:=4) Vu.nd rfl (Or.inl rfl) (_4 (_a (pv 1) _b)))
   (_k (_jn QH (PW.pt (UC (WK (JF (Ye hr) (pv 2) (pv 3))) (UJ (_C (_aJ hr.units) (pv 4) (_4 _b) (_z _))))) (_k (_H (i:=5) Vu.nd rfl (Or.inl rfl) (_4 _b))
   (_k (Yq QH rfl (YF (pv 4)) (_D (i:=6) Vu.nd rfl (Or.inl rfl))
    (_i (Yq QH rfl (W4 (_R (_a _p (_a _p (_a _p (_a _p (_a _p (_a _p (_a _p _b))))))))) (_D (i:=7) Vu.nd rfl (Or.inl rfl))
    (_i (Yq QH rfl (YF (_L Wx hr (_a (pv 0) (_a (pv 7) (_a (pv 6) _b))))) (_D (i:=8) Vu.nd rfl (Or.inl rfl))
    (_i (_G (WK (JF (Ye hr) (pv 8) (pv 3))) (_k (Wj (Ye hr) (pv 3) (pv 8) (_S _hN (_ag (Ye hr) (pv 3) (pv 6) (fun _ _=>rfl)) (_R (_a (pv 7) _b))) rfl)
   (_i (_Y (YL QK Q1 Q2 Y7 (pv 5) (_a (pv 8) _b))))) _P)))))))
   (_i (_H (i:=4) Vu.nd rfl (Or.inl rfl) (pv 5))))))
   (_i (_w (UB (Ye hr) (pv 3) (pv 2) (_R _b) ⟨rfl,rfl,rfl,rfl⟩)))))),?_⟩
 refine fun R nR=>⟨_,rfl,few rfl,fun p0 np0=>⟨(_h np0) _ _ _f,[(.inl (i0:Int),.ref p0)],rfl,Qy rfl,?_⟩⟩;have p0R:p0≠R:=fun z=>by rw [z,_f] at np0;cases np0
 have sA:Same H (_c (_c (_c H R (.dK [])) p0 (.tup [])) R (.dK (XY [] [(.inl (i0:Int),.ref p0)]))):=fun c u e=>by
  rw [_d (_t e nR)];exact ((_h nR).trans (_h np0)) c u e
 dsimp only [_B];refine ⟨_,rfl,few rfl,fun A0 nA=>?_⟩;dsimp only [_B];refine ⟨fun m σ Hc=>∃(rs:List (Nat×List Str×Addr)) (A:Addr) (ah:List Nat) (v5 v6 v7 v8:Option V),σ=[some (.ref a),some (.int i0),some (.int j0),some (.ref R),some (.ref A),v5,v6,v7,v8]∧Same H Hc∧Hc R=some (.dK (Yc (XW rs)))∧Hc A=some (.lst (ah.map fun z:Nat=>V.int z))∧RI K Hc L.pe.length rs∧(∀x∈ah,x∈rs.map (·.1))∧NW L i0 (·∈ah) rs∧m=(L.pe.length-rs.length)+(if ah=[] then 0 else 1),⟨_,[(i0,[],p0)],A0,[i0],_,_,_,_,rfl,sA.trans (_h nA),(_h nA) _ _ _f,_f,⟨by simp,fun q hq=>by rw [Qr.mp hq];exact i0l,fun q hq=>by rw [Qr.mp hq];exact .of ((_h nA) _ _ (by rw [_d p0R];exact _f)),fun q hq=>by rw [Qr.mp hq];exact ⟨fun s hs=>(by cases hs),Qe _⟩⟩,by simp,⟨by simp,fun q hq=>by rw [Qr.mp hq];exact rfl,fun x hx=>.inl (by simpa using hx)⟩,rfl⟩,?_⟩;rintro m σ Hc ⟨rs,A,ah,v5,v6,v7,v8,rfl,sc,hR,hA,ri,ak,nw,rfl⟩
 have ret:∀Hx,Same Hc Hx->(_an L i0 j0->j0∈rs.map (·.1))->_fW (_g4 (YT 3) (YT 2) (_d1 VU)) { nx:=fun x H'=>Q V.non H',rt:=Q } [some (.ref a),some (.int i0),some (.int j0),some (.ref R),some (.ref A),v5,v6,v7,v8] Hx:=fun Hx sx hin=>by
  refine ⟨_,rfl,R,rfl,.inl ⟨_,.inl (sx _ _ hR)⟩,_,rfl,few rfl,fun p np=>⟨_,DGet.k (k:=.inl (j0:Int)) ((_h np) _ _ (sx _ _ hR)),?_⟩⟩;have s3:=sx.trans (_h (o:=.tup []) np);rcases U6 j0 rs with ⟨q',hq,eq',e⟩|⟨nz,e⟩
  ·rw [e];exact q _ _ q'.2.1 (sc.trans s3) (s3.sqt (ri.sq q' hq)) (ri.ok q' hq).1 (by have:=(ri.ok q' hq).2;have:=ri.few;have:=ok.n6;omega) fun _=>by rw [←eq'];exact nw.wt q' hq
  ·rw [e];exact q _ p [] (sc.trans s3) (.of _f) (fun s hs=>(by cases hs)) (by decide) fun c=>absurd (hin c) nz
 refine ⟨_,rfl,_,rfl,R,_,rfl,DGet.k (k:=.inl (j0:Int)) hR,_,rfl,X1 (fun c1=>?_) (fun c1=>Yb (ret _ (.refl _) fun _=>?found))⟩
 case found =>
  rcases U6 j0 rs with ⟨q',hq,eq',e⟩|⟨nz,e⟩
  ·rw [←eq'];exact GI hq
  ·rw [e] at c1;cases c1
 refine ⟨_,rfl,few rfl,fun E nE=>⟨ah.map fun z:Nat=>D.int z,[],_iK (.of ((_h nE) _ _ hA)),⟨E,[],rfl,.of _f,rfl⟩,Qk (_cm _) (show 1≤50 by decide),_,rfl,?_⟩⟩;have sE:=_h (o:=.lst []) nE;by_cases ah0:ah=[]
 ·subst ah0;exact _u (by decide) (ret _ sE (nw.weak fun x hx=>(by cases hx)).all)
 refine _V (by cases ah with|nil=>exact absurd rfl ah0|cons=>rfl) ⟨_,fun _ _ h=>h,few rfl,fun B nB=>?_⟩;have sB:=sE.trans (_h (o:=.lst []) nB);have nBH:=_W (sc.trans sE) nB;have RB:R≠B:=_t (sE _ _ hR) nB;have AB:A≠B:=_t (sE _ _ hA) nB;have RA:R≠A:=fun z=>by rw [z,hA] at hR;cases hR
 dsimp only [_B];refine ⟨_,rfl,A,rfl,⟨_,.of (sB _ _ hA)⟩,XH (xs:=ah.map fun z:Nat=>V.int z) (fun k σ Hd=>∃(rs2:List (Nat×List Str×Addr)) (be:List Nat) (v6 v7 v8:Option V),σ=[some (.ref a),some (.int i0),some (.int j0),some (.ref R),some (.ref A),some (.ref B),v6,v7,v8]∧NI K H L.pe.length R A B ah rs.length Hd rs2 be∧NW L i0 (fun y=>y∈ah.drop k∨y∈be) rs2) ?st ?li ?tu ?dn⟩
 case st=>exact ⟨rs,[],_,_,_,rfl,⟨sc.trans sB,sB _ _ hR,sB _ _ hA,_f,ri.mono (fun _ _ z=>sB.sqt z),ak,fun x hx=>(by cases hx),rfl⟩,nw.weak fun x hx=>.inl (.inl hx)⟩
 case li =>
  rintro k σ Hd _ ⟨rs2,be,v6,v7,v8,rfl,ni,_⟩;exact .of ni.hA
 case dn =>
  rintro σ Hd ⟨rs2,be,v6,v7,v8,rfl,ni,nw⟩;rw [Qc,List.drop_length] at nw;refine ⟨_,rfl,_,?_,rs2,B,be,_,_,_,_,rfl,ni.sm,ni.hR,ni.hB,ni.ri,ni.bk,nw.weak fun x hx=>.inl (hx.resolve_left fun z=>(by cases z)),rfl⟩;have e1:=ni.ln;have e2:=ni.ri.few;rw [Qa ah0];cases be with
  |nil=>rw [Qb rfl];rw [GY] at e1;omega
  |cons b bs=>rw [Qa (by simp)];rw [QJ] at e1;omega
 case tu =>
 rintro k y σ Hd hy ⟨rs2,be,v6,v7,v8,rfl,ni,nw⟩;obtain ⟨x,hx,rfl⟩:=_aN hy;have xah:=QE hx
 have xl:x<L.pe.length:=by
  obtain ⟨q,hq,e⟩:=Qg.mp (ni.ak x xah);rw [←e];exact ni.ri.lt q hq
 dsimp only [_B];refine ⟨few rfl,fun t nt=>⟨t,rfl,⟨_,.of _f⟩,VH (xs:=(_o.take 7).map V.str) (fun m σ He=>∃(rs3:List (Nat×List Str×Addr)) (be:List Nat) (v7 v8:Option V),σ=[some (.ref a),some (.int i0),some (.int j0),some (.ref R),some (.ref A),some (.ref B),some (.int x),v7,v8]∧NI K H L.pe.length R A B ah rs.length He rs3 be∧He t=some (.tup ((_o.take 7).map V.str))∧NW L i0 (fun y=>y∈ah.drop k∨y∈be) rs3∧∀s∈(_o.take 7).take m,∀y,RL L s x y->y∈rs3.map (·.1)) ?st2 ?li2 ?tu2 ?dn2⟩⟩
 case st2=>exact ⟨rs2,be,_,_,rfl,ni.mono (_h nt),_f,nw,fun s hs=>(by cases hs)⟩
 case li2 =>
  rintro m σ He _ ⟨rs3,be,v7,v8,rfl,ni,ht,_⟩;exact .of ht
 case dn2 =>
  rintro σ He ⟨rs3,be,v7,v8,rfl,ni,ht,nw,cx⟩;refine ⟨rs3,be,_,_,_,rfl,ni,nw.weak fun y hy=>?_⟩;rcases hy with hy|hy
  ·rw [Md (Qz.mp hx).1,(Qz.mp hx).2] at hy;rcases Qj.mp hy with rfl|hy
   ·exact .inr cx
   ·exact .inl (.inl hy)
  ·exact .inl (.inr hy)
 case tu2 =>
 clear ni nw;rintro m y σ He hy ⟨rs3,be,v7,v8,rfl,ni,ht,nw,cx⟩;obtain ⟨s,hs,rfl⟩:=V7 hy;have s9:s∈_o:=Ru (QE hs);refine ⟨_,rfl,_,rfl,_,rfl,rfl,a,s,x,L,rfl,hL.mono ni.sm.x,ok,s9,xl,fun H1 DL zs s1 nD hD mz lz=>⟨DL,rfl,⟨_,.of hD⟩,XH (xs:=zs.map fun z:Nat=>V.int z) (fun l σ Hf=>∃(rs4:List (Nat×List Str×Addr)) (be:List Nat) (v8:Option V),σ=[some (.ref a),some (.int i0),some (.int j0),some (.ref R),some (.ref A),some (.ref B),some (.int x),some (.str s),v8]∧NI K H L.pe.length R A B ah rs.length Hf rs4 be∧Hf t=some (.tup ((_o.take 7).map V.str))∧Hf DL=some (.lst (zs.map fun z:Nat=>V.int z))∧NW L i0 (fun y=>y∈ah.drop k∨y∈be) rs4∧(∀s∈(_o.take 7).take m,∀y,RL L s x y->y∈rs4.map (·.1))∧∀z∈zs.take l,z∈rs4.map (·.1)) ?st3 ?li3 ?tu3 ?dn3⟩⟩
 case st3=>exact ⟨rs3,be,_,rfl,ni.mono s1,s1 _ _ ht,hD,nw,cx,fun z hz=>(by cases hz)⟩
 case li3 =>
  rintro m σ Hf _ ⟨rs4,be,v8,rfl,ni,ht,hDL,_⟩;exact .of hDL
 case dn3 =>
  rintro σ Hf ⟨rs4,be,v8,rfl,ni,ht,hDL,nw,cx,cz⟩;rw [Qc,Q7] at cz;refine ⟨rs4,be,_,_,rfl,ni,ht,nw,fun s' hs' y r=>?_⟩;rw [RM,hs] at hs';rcases Qh.mp hs' with hs'|hs'
  ·exact cx s' hs' y r
  ·rw [show s'=s by simpa using hs'] at r;exact cz y ((mz y).mpr r)
 case tu3 =>
 have DB:DL≠B:=fun z=>by rw [z,ni.hB] at nD;cases nD
 clear ht ni nw cx;rintro l y σ Hf hy ⟨rs4,be,v8,rfl,ni,ht,hDL,nw,cx,cz⟩;obtain ⟨z,hz,rfl⟩:=_aN hy;have tk:zs.take (l+1)=zs.take l++[z]:=by rw [RM,hz];rfl
 have zl:=(((mz z).mp (QE hz)).lt ok s9).2;refine ⟨_,rfl,_,rfl,R,_,rfl,DGet.k (k:=.inl (z:Int)) ni.hR,_,rfl,?_⟩;rcases U6 z rs4 with ⟨q',hq,eq',e⟩|⟨nz,e⟩
 ·rw [e];exact _u rfl ⟨rs4,be,_,rfl,ni,ht,hDL,nw,cx,fun y hy=>by
   rw [tk] at hy;rcases Qh.mp hy with hy|hy
   ·exact cz y hy
   ·rw [show y=z by simpa using hy,←eq'];exact GI hq⟩
 rw [e];refine _V rfl ?_;rcases U6 x rs4 with ⟨qx,hqx,ex,vx⟩|⟨nx,_⟩
 case inr.inr=>exact absurd (ni.ak x xah) nx
 have dg:=DGet.k (k:=.inl (x:Int)) ni.hR;rw [vx] at dg;have qok:=ni.ri.ok qx hqx;have fw:=ni.ri.few;have n6:=ok.n6;refine ⟨_,rfl,_,rfl,R,.ref qx.2.2,rfl,dg,_,rfl,few rfl,fun p5 n5=>⟨qx.2.2,p5,_,_,rfl,rfl,(_h n5).sqt (ni.ri.sq qx hqx),.of _f,Uw (by rw [Qc];simp;omega),fun H6 p6 s6 hp6=>?_⟩⟩;have s7:=(_h (o:=.tup [.str s]) n5).trans s6;have n7:=ni.mono s7;refine ⟨_,rfl,_,rfl,R,_,rfl,DPut.k (k:=.inl (z:Int)) n7.hR (_y (by rw [Qc,Qc];omega)),?_⟩;rw [_i3,_oO (by rw [QP];exact nz)];have hB8:(_c H6 R (.dK (Yc (XW rs4++[(z,V.ref p6)])))) B=some (.lst (be.map fun z:Nat=>V.int z)):=by rw [_d RB.symm];exact n7.hB
 refine ⟨_,rfl,.inl ⟨rfl,_,.of hB8⟩,_,rfl,B,_,_,rfl,rfl,hB8,_y (by have:=ni.ln;rw [Qc];omega),rs4++[(z,qx.2.1++[s],p6)],be++[z],_,rfl,?_,?_,?_,nw.put (_eD.mpr ⟨x,by rw [←ex];exact nw.wt qx hqx,(mz z).mp (QE hz)⟩) (fun y hy=>hy.imp id (QY _)) (.inr (QL _ (by simp))),fun s' hs' y r=>_az (cx s' hs' y r),fun y hy=>?_⟩
 ·have f:∀b xs,SqT K H6 b xs->SqT K (_c (_c H6 R (.dK (Yc (XW rs4++[(z,V.ref p6)])))) B (.lst (be.map (fun z:Nat=>V.int z)++[.int z]))) b xs:=fun b xs h=>X7 (X7 h n7.hR (fun _ z=>by cases z) (fun _ _ z=>by cases z)) hB8 (fun _ z=>by cases z) (fun _ _ z=>by cases z);refine ⟨fun c u e=>?_,?_,?_,?_,(n7.ri.mono f).put nz zl (f _ _ (by rw [Qo];exact hp6)) (fun w hw=>?_) (by rw [Qm,Rs];omega),fun w hw=>?_,fun w hw=>?_,?_⟩
  ·rw [_d (fun z=>by rw [z,nBH] at e;cases e),_d (fun z=>by rw [z,nR] at e;cases e)];exact n7.sm _ _ e
  ·rw [_d RB,_f,show XW (rs4++[(z,qx.2.1++[s],p6)])=XW rs4++[(z,V.ref p6)] from Qo]
  ·rw [_d AB,_d RA.symm];exact n7.hA
  ·rw [_f,Qo];rfl
  ·rcases Qh.mp hw with hw|hw
   ·exact qok.1 w hw
   ·rw [Qr.mp hw];exact s9
  ·rw [Qo];exact QY _ (ni.ak w hw)
  ·rw [Qo];rcases Qh.mp hw with hw|hw
   ·exact QY _ (ni.bk w hw)
   ·rw [Qr.mp hw];exact QL _ (by simp)
  ·have:=ni.ln;rw [Qm,Qm,Rs,Rs];omega
 ·rw [_d (fun z=>by rw [z] at ht;rw [ni.hB] at ht;cases ht),_d (fun z=>by rw [z] at ht;rw [ni.hR] at ht;cases ht)];exact s7 _ _ ht
 ·rw [_d DB,_d (fun z=>by rw [z] at hDL;rw [ni.hR] at hDL;cases hDL)];exact s7 _ _ hDL
 ·rw [tk] at hy;rcases Qh.mp hy with hy|hy
  ·exact _az (cz y hy)
  ·rw [show y=z by simpa using hy];exact _pk
theorem _np: _eP P base T:=by
 refine Fun.okY T._cZ.F _fS fun cdv A outer s H vs Q E hr h=>?_;obtain ⟨p,way,rfl,hp,h9,l24,q⟩:=h
 refine ⟨_,(_k (_H (i:=1) _fS.nd rfl (Or.inr rfl) (_aM (W9 _p _p (W9 _p _p (W9 _p _p (W9 _p _p (W9 _p _p (W9 _p _p _a9)))))) rfl rfl (by simp) (by decide)))
   (_i (_w (UW _hH (by rfl) T.n_tuple _a1 (_a (Xj rfl (Xs (N:=["_law_step_here","_law_back"]) ["_law_back"] [none,some 1] rfl (by trivial) (by trivial) (by rfl) (by rfl) (by rfl) (by rfl) (by rfl)) (_ko K (by rfl) T.n_reversed (_a (pv 0) _b)) (fun _ _ _=>(_D (i:=0) _qA rfl (Or.inl rfl))) (fun _ _ _=>_ad) (fun _ _ _=>(UB (Ye hr) (pv 1) (pv 0) (pv 0) ⟨rfl,rfl,rfl,rfl⟩))) _b))))),?_⟩
 refine fun d nd=>⟨_f,J7,rfl,by decide,?_⟩;have sA:Same H (_c (_c H d (.dK [])) d (.dK (XY [] J7))):=fun c u e=>by rw [_d (_t e nd),_d (_t e nd)];exact e
 have hd:(_c (_c H d (.dK [])) d (.dK (XY [] J7))) d=some (.dK (XY [] J7)):=_f;have len:((YU way).map V.str).length=way.length:=by rw [Qc,_dP]
 dsimp only [_B];refine ⟨_,rfl,p,_,rfl,sA.sqt hp,JX ((YU way).map V.str) (_y (by rw [len];omega)) (fun σ=>∃v,σ=[v,some (.ref d)]) ⟨none,rfl⟩ (fun i H2 hi sm=>?go) (fun H2 sm=>?stop) (fun i σ H2 x H3 y hy hσ sm hx C hC=>?step) (fun D H2 nD sm hD=>?fin)⟩
 case go =>
  have hi':i<(way.map V.str).reverse.length:=by rw [NT,Qc];omega
  exact ⟨_,_,(sA.trans sm).sqt hp,rfl,Qt hi'⟩
 case stop =>
  show _=_;rw [len,Qc]
 case step =>
  obtain ⟨v,rfl⟩:=hσ;obtain ⟨rfl,hx⟩:=hx;have e:=hx _ ((sA.trans sm).sqt hp);rw [←N6] at e;obtain ⟨z,rfl,hz⟩:=_fN e;obtain ⟨z2,rfl,hz2⟩:=_fN hy
  have ez:z2=Yu z:=by
   have t:(YU way)[i]?=some (Yu z):=by
    unfold YU;rw [←N6,Qp,hz];rfl
   rw [t] at hz2;exact (Qn hz2).symm
  subst ez;refine ⟨_,rfl,d,rfl,.inl ⟨_,.inl (sm _ _ hd)⟩,_,rfl,_,rfl,_,DGet.k (k:=.inr z) (sm _ _ hd),?_⟩;rw [_qa (h9 z (List.mem_reverse.mp (QE hz)))];exact hC _ _ ⟨_,rfl⟩ (.refl _)
 case fin =>
  exact ⟨D,_,rfl,.inl ⟨.of hD,fun l nl=>q _ l ((sA.trans sm).trans (_h nl)) (.of _f)⟩⟩
theorem _pm (Up:_at P base T) (Uj:_br P base T) (_dD:_e5 P base T) (UR:_al P base T) (_b8:_dn P base T):_dA P base T:=by
 refine Fun.okY T._dd.F WV fun cdv A outer s H vs Q E hr h=>?_;obtain ⟨p,l,way,cs,rfl,hp,h9,l5,hl,lc,hc,lam,q⟩:=h
 refine ⟨_,(_k (_H (i:=2) WV.nd rfl (Or.inl rfl) (_L Uj hr (_a (pv 0) _b)))
   (_k (_G (PW.pt (W2 (WQ (Xx (Wf K (by rfl) T.n_isinstance (_a (pv 2) (_a (Wi (v:=.ty "tuple") (by rfl) T.n_tuple _a1 rfl) _b))))) (VX (_C VP (_X YQ (by rfl) T.n_len Yw (_a (pv 2) _b)) _j (_z _))))) (_i (_w Um)) _P)
   (_k (_bd (pv 2) (Uf rfl (Yp (_D (i:=3) WV.nd rfl (Or.inl rfl)) (Yp (_D (i:=4) WV.nd rfl (Or.inl rfl)) (Yp (_D (i:=5) WV.nd rfl (Or.inl rfl)) X0)))))
   (_k (_H (i:=6) WV.nd rfl (Or.inl rfl) (_gs (pv 3) T.lB_ T.Ug.me Up (hr.mono (by decide)) T.Ug.b .nil VG))
   (_k (_G (PW.pt (W2 (_C _gA (pv 4) (pv 6) (by rfl)) (VX (_C _gA (pv 5) (pv 6) (by rfl))))) (_i (_w Um)) _P)
   (_k (_H (i:=7) WV.nd rfl (Or.inl rfl) (_L _dD hr (_a (pv 3) _b)))
   (_k (_bd (_L UR hr (_a (pv 7) (_a (pv 1) (_a (YL QK Gk GL (Jc K) (pv 6) (_a (pv 4) _b)) _b)))) (_ky rfl (Yp (_D (i:=8) WV.nd rfl (Or.inl rfl)) (Yp (_D (i:=9) WV.nd rfl (Or.inl rfl)) X0))))
   (_i (_w (_S _hN (pv 8) (_L _b8 hr (_a (pv 7) (_a (pv 9) (_a (YL QK Gk GL (Jc K) (pv 6) (_a (pv 5) _b)) _b)))))))))))))),?_⟩
 have ti:=Ui h9;have n0:0<(_6 way).days.length:=Rt (QT _) ti.he;have n6:=ti.n;refine ⟨_,rfl,rfl,p,way,rfl,hp,h9,(by omega),lam,fun H1 sx ls lt hc'=>(by rw [hc] at hc';cases hc'),fun H1 a b B sx ls lt _ ha hB bt=>?_⟩;dsimp only [_B];obtain ⟨b',dx,kk,bi,li,ti',su,e0,hB0⟩:=id hB;cases e0;have bl:(Y1 B.kept).length<64:=by rw [bt.bn.length_eq];unfold _0;rw [Qc,QX];omega
 refine ⟨_,rfl,_,.ty "tuple",_,_,rfl,rfl,.sqt (.of ha),T.ktt',_,rfl,_u rfl ⟨_,rfl,a,_,rfl,.inr (.of ha),rfl,_,rfl,_u (by simp) ?_⟩⟩;refine ⟨_,rfl,a,_,rfl,.of ha,rfl,_,_,rfl,_,_,rfl,_,_,rfl,rfl,?_⟩;dsimp only;refine ⟨_,rfl,b,dx,_,rfl,hB0.ob,rfl,rfl,.ref b,B,rfl,hB,bl,fun H2 N s2 nN hN=>?_⟩;rw [_gB bt] at hN;dsimp only [_B];have inn:∀{i:Nat},i<(_6 way).days.length->(!XB (.str (_e i)) ((_0 (_6 way)).map V.str))=false:=fun h=>by rw [_bp,Qx (_ey h)];rfl
 refine ⟨_,rfl,_,rfl,N,_,rfl,.inl (.of hN),rfl,_hw _,_,rfl,_u (inn n0) ⟨_,rfl,_,rfl,N,_,rfl,.inl (.of hN),rfl,_hw _,_,rfl,_u (inn ti.he) ?_⟩⟩;refine ⟨_,rfl,rfl,b,B,_6 way,way.length,rfl,hB.mono s2,bt,ti,hc,(by omega),fun H3 La L s3 hL ok lt3=>?_⟩;have hN3:=s3 _ _ hN;dsimp only [_B];refine ⟨_,rfl,_,rfl,_,rfl,.inl ⟨rfl,_,.of hN3⟩,_,rfl,N,_,_e 0,0,rfl,rfl,.of hN3,VT n0,fun m lm=>U7 n0 lm,rfl,La,l,cs,0,L,rfl,hL,ok,(s2.trans s3).sql (sx.sql hl),lc,(by rw [lt3.n];exact n0),fun H4 D p1 w1 j1 s4 hD hp1 w9 w5 jl wt=>⟨D,_,rfl,.of hD,rfl,_,_,rfl,_,_,rfl,rfl,?_⟩⟩;have hN4:=s4 _ _ hN3;dsimp only;refine ⟨_,rfl,_,rfl,_,rfl,_,rfl,.inl ⟨rfl,_,.of hN4⟩,_,rfl,N,_,_e (_6 way).here,(_6 way).here,rfl,rfl,.of hN4,VT ti.he,fun m lm=>U7 ti.he lm,rfl,La,j1,(_6 way).here,L,rfl,hL.mono s4.x,ok,jl,fun H5 p2 w2 s5 hp2 v9 v6 hw=>⟨p1,p2,_,_,rfl,rfl,s5.sqt hp1,hp2,Uw (by rw [Qc,Qc];omega),fun H6 p3 s6 hp3=>?_⟩⟩;have s7:=(s2.trans s3).trans (s4.trans (s5.trans s6));rw [←Qo] at hp3;have n9:∀s∈w1++w2,s∈_o:=fun s hs=>(Qh.mp hs).elim (w9 s) (v9 s);exact q _ p3 (w1++w2) (sx.trans s7.x) (ls.same s7) (lt.same s7) hp3 n9 (by rw [Qm];omega) (.inr ((lt3.wt ti n9).mp (Jf.mpr ⟨j1,wt,hw (_jW h9 hc lt3 jl ti.he)⟩)))
theorem _px (_ar:_dC P base T) (_bB:_fu P base T) (_bV:_eC P base T) (UR:_al P base T) (_bo:_eP P base T) (_ef:_dA P base T):_dk P base T:=by
 refine Fun.okY T.UY.F VB fun cdv A outer s H vs Q E hr h=>?_;obtain ⟨l,ns,rfl,hl,l63,lam,lam2,q⟩:=h
 refine ⟨_,(_k (_H (i:=1) VB.nd rfl (Or.inl rfl) (_L _bV hr (_a (WA U2 (_S _jM (pv 0) (_4 (_a _j _b))) VY (XM _j)) (_a (WA U2 (pv 0) (XM _j) (XM _j)) _b))))
   (_k (Yq QH rfl (UK (by rfl) T.n_range (_a _j _b)) (_D (i:=2) VB.nd rfl (Or.inl rfl))
    (_k (_H (i:=3) VB.nd rfl (Or.inl rfl) (WA U2 (pv 0) (XM (_S Vn _j (_S _im _j (pv 2)))) (XM (_S Vn _j (_S _im _j (pv 2))))))
   (_k (_H (i:=4) VB.nd rfl (Or.inl rfl) (_n Yl (_L UR hr (_a (pv 1) (_a (WA U2 (pv 3) VY (XM _j)) (_a (_S XR (_S WM (_X (_kt K rfl) (by rfl) T.n_sum _pa (_a (WA U2 (pv 3) VY (XM _j)) _b)) _j) (_X YQ (by rfl) T.n_len Yw (_a (_n _v (pv 1) _j (fun _ _=>rfl)) _b))) _b)))) _j (fun _ _=>rfl)))
   (_k (_H (i:=5) VB.nd rfl (Or.inl rfl) (_L _ef hr (_a (pv 4) (_a (WA U2 (pv 3) (XM _j) VY) _b))))
   (_k (_G (PW.pt (W2 (_C _eo (pv 5) Um (_z _)) (VX (_C _i9 (_L _ar hr (_a (pv 4) (_a (pv 5) _b))) Xg (_z _))))) (_i (_w Xg)) _P)
   (_k (_G (_C _i9 (_L _ar hr (_a (_L _bo hr (_a (pv 4) _b)) (_a (_L _bo hr (_a (pv 5) _b)) _b))) Xg (_z _)) (_i (_w Xg)) _P)
   (_i (Yq QH rfl (UK (by rfl) T.n_range (_a (_X YQ (by rfl) T.n_len Yw (_a (_n _v (pv 1) _j (fun _ _=>rfl)) _b)) _b)) (_D (i:=6) VB.nd rfl (Or.inl rfl))
    (_k (_H (i:=7) VB.nd rfl (Or.inr rfl) (_L _bB hr (_a (pv 1) (_a (pv 5) (_a (pv 6) _b)))))
   (_i (_G (_C (_aJ hr.units) (Xj rfl (Xs (N:=["_law_end","_law_found"]) ["_law_found"] [none,some 7] rfl (by trivial) (by trivial) (by rfl) (by rfl) (by rfl) (by rfl) (by rfl)) (_aU (_L _bB hr (_a (pv 1) (_a (pv 4) (_a (pv 6) _b))))) (fun _ _ _=>(_D (i:=0) _pg rfl (Or.inl rfl))) (fun _ _ _=>(XV (WK (JF (Ye hr) (pv 0) (pv 1))))) (fun _ _ _=>(pv 0))) (_4 _b) (_z _)) (_i (_w Xg)) _P)))))))))))
   (_i (_w Xg)))),?_⟩
 obtain ⟨cs,ecs,k6,k1⟩:=_fk (ns++[0]) 6;obtain ⟨ts,ets,lts⟩:=_iL ns 6 11;refine ⟨_,rfl,few rfl,fun Z nZ=>?_⟩;have sZ:=_h (o:=.lst [.int 0]) nZ;refine ⟨l,Z,_,_,rfl,rfl,sZ.sql hl,.of _f,Uw (by rw [Qc];simp;omega),fun C nC=>⟨_,rfl,C,_,rfl,.of _f,fun D1 n1=>?_⟩⟩;have sC:=sZ.trans (_h (o:=.lst (ns.map V.int++[.int 0])) nC);have s1:=sC.trans (_h (o:=.lst (YG (ns.map V.int++[.int 0]) none (some 6))) n1);have e1:YG (ns.map V.int++[.int 0]) none (some 6)=cs.map V.int:=by rw [←ecs,Qo];rfl
 refine ⟨_,rfl,_,rfl,_,rfl,l,_,rfl,s1.sql hl,fun D2 n2=>?_⟩;have s2:=_h (o:=.lst (YG (ns.map V.int) (some 6) (some 11))) n2;refine ⟨rfl,D1,D2,cs,ts,rfl,s2.sql (by rw [←e1];exact .of _f),k1 (by decide) (by simp),k6,by rw [←ets];exact .of _f,lts,fun H1 a L s3 hL ok=>?_⟩;have s4:=(s1.trans s2).trans s3;have l1:=lam.same s4;have l2:=lam2.same s4;replace hl:=s4.sql hl;clear s4 s3 s2 s1 sC sZ e1 lam lam2;dsimp only [_B];refine ⟨_,rfl,by decide,by decide,_ev (fun i σ Hc=>∃v2 v3 v4 v5 v6 v7:Option V,σ=[some (.ref l),some (.ref a),v2,v3,v4,v5,v6,v7]∧SameX H1 Hc∧WL T.tb Hc∧Xr T.tb2 Hc) ⟨_,_,_,_,_,_,rfl,.refl _,l1,l2⟩ ?jt ?jd⟩
 case jd =>
  rintro σ Hc ⟨v2,v3,v4,v5,v6,v7,rfl,sc,l1,l2⟩;exact q _ l1 l2
 case jt =>
 clear l1 l2;rintro i σ Hc hi ⟨v2,v3,v4,v5,v6,v7,rfl,sc,l1,l2⟩;rw [show (0:Int)+(i:Int)=i from GK _];dsimp only [_B]
 obtain ⟨cs,ecs,lcs⟩:∃cs:List Int,YG (ns.map V.int) (some (11+10*(i:Int))) (some (21+10*(i:Int)))=cs.map V.int∧cs.length≤10:=by
  obtain ⟨cs,e,l⟩:=_iL ns (11+10*i) (21+10*i);exact ⟨cs,e,by omega⟩
 have cm:CMul 10 (i:Int):=.inl ⟨by decide,by decide⟩;refine ⟨_,rfl,_,rfl,_,_,rfl,rfl,cm,_,_,rfl,rfl,_,rfl,_,rfl,_,_,rfl,rfl,cm,_,_,rfl,rfl,_,rfl,l,_,rfl,sc.sql hl,fun C nC=>?_⟩;rw [ecs];have s1:=_h (o:=.lst (cs.map V.int)) nC;have hC:(_c Hc C (.lst (cs.map V.int))) C=some (.lst (cs.map V.int)):=_f;replace l1:=l1.same s1;replace l2:=l2.same s1;replace sc:=sc.trans s1.x;obtain ⟨Hd,eH⟩:∃Hd,Hd=_c Hc C (.lst (cs.map V.int)):=⟨_,rfl⟩;rw [←eH] at hC sc l1 l2;rw [←eH];clear eH s1;dsimp only [_B];obtain ⟨d1,ed1,_⟩:=_fk cs 1;obtain ⟨d5,ed5,ld5,_⟩:=_fk cs 5;obtain ⟨d6,ed6,ld6⟩:=_mb cs 5 5 lcs;have b81:(81:Int)≠0∧(81:Int).natAbs<2 ^ 1000:=⟨by decide,VW (by decide) (by decide)⟩;obtain ⟨P,T',U,h0,⟨ps,hPl,lP,eP⟩,hT,hU⟩:=id hL;refine ⟨_,rfl,_,rfl,_,rfl,C,_,rfl,.of hC,fun D2 n2=>?_⟩;rw [show YG (cs.map V.int) none (some 5)=d5.map V.int from ed5];have s2:=_h (o:=.lst (d5.map V.int)) n2;refine ⟨_,rfl,_,rfl,C,_,rfl,.of (s2 _ _ hC),fun D1 n1=>?_⟩;rw [show YG (cs.map V.int) none (some 1)=d1.map V.int from ed1];have g1:=_h (o:=.lst (d1.map V.int)) n1;have s1:=s2.trans g1;obtain ⟨st,sl,est⟩:=_cq (d1.sum.fdiv 81) (n:=(ps.map V.ref).length) (by rw [Qc,lP];exact ok.n1);refine ⟨D1,d1,rfl,.of _f,_,_,rfl,rfl,b81,_,rfl,a,_,_,_,rfl,rfl,s1.sqt (sc.sqt h0),rfl,P,_,rfl,.inl (s1.sql (sc.sql hPl)),_,_,rfl,rfl,(by omega),?_⟩;rw [Qc,lP] at sl;dsimp only;rw [est];refine ⟨rfl,a,D2,d5,st,L,rfl,hL.mono (sc.trans s1.x),ok,g1.sql (.of _f),ld5,sl,fun H2 E1 p1 w1 j1 s3 hE1 hp1 n9 w5 jl1 wt1=>⟨E1,_,_,_,rfl,rfl,.of hE1,rfl,?_⟩⟩;dsimp only [_B];have s4:=s1.trans s3;refine ⟨_,rfl,_,rfl,_,rfl,C,_,rfl,.of (s4 _ _ hC),fun D3 n3=>?_⟩;rw [show YG (cs.map V.int) (some 5) none=d6.map V.int from ed6];have g5:=_h (o:=.lst (d6.map V.int)) n3;have s5:=s4.trans g5;refine ⟨rfl,p1,D3,w1,d6,rfl,g5.sqt hp1,n9,w5,.of _f,ld6,_k9 (_g9 ok) n9 wt1,l2.same s5,fun H3 p2 w2 sx3 ls3 lb hp2 m9 m11 iw=>?_⟩;have la:=ls3 _ _ _ _ T.ttb.symm (l1.same s5);replace hp1:=sx3.sqt (g5.sqt hp1);replace sc:=(sc.trans s5.x).trans sx3;clear s5 g5 s4 s3 s1 g1 s2 hC l1 l2 ls3 sx3;dsimp only [_B];have wd:=_mn n9 m9 iw;refine ⟨_,rfl,rfl,_,rfl,_u (by rfl) ⟨_,rfl,_,rfl,rfl,p1,p2,w1,w2,rfl,hp1,n9,(by omega),hp2,m9,(by omega),la,lb,fun H4 r sx4 la4 lb4 hr4=>?_⟩⟩;obtain rfl:r=true:=hr4.mpr iw;refine ⟨_,rfl,rfl,_,rfl,_u (by rfl) ?_⟩;replace hp1:=sx4.sqt hp1;replace hp2:=sx4.sqt hp2;refine ⟨_,rfl,rfl,p1,w1,rfl,hp1,n9,(by omega),fun H5 q1 s5 hq1=>⟨_,rfl,rfl,p2,w2,rfl,s5.sqt hp2,m9,(by omega),fun H6 q2 s6 hq2=>?_⟩⟩;have s56:=s5.trans s6;refine ⟨rfl,q1,q2,YU w1,YU w2,rfl,s6.sqt hq1,JD n9,(by rw [_dP];omega),hq2,JD m9,(by rw [_dP];omega),la4.same s56,lb4.same s56,fun H7 r sx7 la7 lb7 hr7=>?_⟩;obtain rfl:r=true:=hr7.mpr (_pW n9 m9 wd);refine ⟨_,rfl,rfl,_,rfl,_u (by rfl) ?_⟩;replace sc:=(sc.trans sx4).trans (s56.x.trans sx7);replace hp1:=sx7.sqt (s56.sqt hp1);replace hp2:=sx7.sqt (s56.sqt hp2);clear sx4 s5 s6 s56 sx7 hq1 hq2 la4 lb4 la lb;have hLh:=hL.mono sc;refine ⟨_,rfl,a,_,_,_,rfl,rfl,sc.sqt h0,rfl,P,_,rfl,.inl (sc.sql hPl),_,rfl,by omega,by rw [Qc];have:=ok.n6;omega,_ev (fun _ σ Hc=>∃v6 v7:Option V,σ=[some (.ref l),some (.ref a),some (.int i),some (.ref C),some (.ref p1),some (.ref p2),v6,v7]∧Same H7 Hc) ⟨_,_,rfl,.refl _⟩ ?kt ?kd⟩
 case kd =>
  rintro σ Hc ⟨v6,v7,rfl,s8⟩;exact ⟨_,_,_,_,_,_,rfl,sc.trans s8.x,la7.same s8,lb7.same s8⟩
 case kt =>
 rintro i σ Hc hi ⟨v6,v7,rfl,s8⟩;rw [show (0:Int)+(i:Int)=i from GK _];have il:i<L.pe.length:=by rw [Qc] at hi;omega
 refine ⟨_,rfl,_,rfl,_,rfl,rfl,a,p2,w2,i,L,rfl,hLh.mono s8.x,ok,s8.sqt hp2,m9,(by omega),il,fun H1 D ks s1 nD hD kd mem=>?_⟩;dsimp only [_B];have sc1:=s8.trans s1;refine ⟨_,rfl,_,rfl,_,rfl,rfl,a,p1,w1,i,L,rfl,hLh.mono sc1.x,ok,sc1.sqt hp1,n9,(by omega),il,fun H2 E2 js s2 nE hE kj memj=>⟨E2,Yc js,rfl,hE,fun o=>?_⟩⟩;have sf:Same H1 (_c H2 E2 (.frz o (.dK (Yc js)))):=fun c u e=>by rw [_d (_t e nE)];exact s2 _ _ e
 have hDf:=sf _ _ hD;have jl:(Yc js).length≤6:=by rw [_cw];exact Qk (_d9 kj fun x hx=>_fp ok n9 il ((memj x).mp hx)) ok.n6
 refine W1 ((Yc js).map fun _=>none) (_y (by rw [Qc];omega)) (fun σ=>∃v,σ=[v,some (.ref D)]) ⟨none,rfl⟩ (fun j H4 hj sm=>⟨sm _ _ _f,by rw [Qc] at hj;exact hj⟩) (fun H4 sm=>⟨sm _ _ _f,by simp⟩) (fun j σ H4 x H5 z hz hσ sm hx C hC=>?step) (fun D5 H5 nD5 s5 hD5=>?fin)
 case step =>
  obtain ⟨v,rfl⟩:=hσ;obtain ⟨rfl,hx2⟩:=hx;rw [Qp] at hz hx2;obtain ⟨y,hy,rfl⟩:=QC.mp hz;rw [Option.map_map] at hx2;obtain ⟨y',hy',rfl⟩:=QC.mp hx2;have in2:y'.1∈ks.map (·.1):=(mem _).mpr (wd _ (_g9 ok) _ _ ((memj _).mp (GI (QE hy'))));refine ⟨_,rfl,_,rfl,D,_,rfl,DGet.k (k:=.inl (y'.1:Int)) (sm _ _ hDf),_,rfl,?_⟩;rw [_ha in2];exact _u rfl (hC _ _ ⟨_,rfl⟩ (.refl _))
 case fin =>
  have e:(((Yc js).map fun _=>(none:Option V)).filterMap id)=[]:=by simp
  rw [e] at hD5;refine ⟨few rfl,fun D6 n6=>⟨[],[],⟨D5,[],rfl,.of ((_h n6) _ _ hD5),rfl⟩,⟨D6,[],rfl,.of _f,rfl⟩,by decide,_,rfl,_u (by decide) ?_⟩⟩;exact ⟨_,_,rfl,(sc1.trans sf).trans (s5.trans (_h n6))⟩
end
theorem _lY {w:World} {mg:Str->Option Value} (T:Tx K w mg) (LB:LamB base T.cc T.tb mg) (LB2:LamB base T.cc2 T.tb2 mg):_dk P base T:=by
 have UI:_bf P base T:=_kV T;have UU:_bD P base T:=_k0 T;have _cy:_fg P base T:=_k4 T UI;have _bI:_cb P base T:=_oc T UI;have _c2:_cV P base T:=_lV T;have _cG:_c3 P base T:=_jw T UU;have _dS:_d5 P base T:=_jt T UU _cy _bI _c2 _cG;have _et:_dc P base T:=_pd T _dS;have Uv:_aw P base T:=_kO T;have Ut:_aD P base T:=_l3 T;have _cJ:_fr P base T:=_oe T;have UN:_au P base T:=_p4 T Uv;have UQ:_bA P base T:=_mh T UN;have _cL:_dL P base T:=_jr T;have UF:_ay P base T:=_nX T;have _ed:_fs P base T:=_pl T;have Xf:V4 P base T:=_nN T;have Vc:J5 P base T:=_jU T Xf;have Wp:Je P base T:=_jX T Xf;have _aR:_ci P base T:=_lK T Vc Wp;have _dI:_ep P base T:=_kG T Ut _cJ Wp _aR;have _fb:_c6 P base T:=_lA T _et Ut UQ Xf _dI;have XI:Js P base T:=_oP T;have _eb:_cn P base T:=_kT T XI;have We:_ac P base T:=_pc T _cL Xf;have _ck:_fc P base T:=_nF T UF Xf;have _ct:_eN P base T:=_l7 T UF XI We _ck;have JH:_fn P base T:=_kY T Uv UN UQ _fb XI _eb _ct;have Up:_at P base T:=_mL T;have UT:_bg P base T:=_lP T;have _dg:_fe P base T:=_jV T;have V6:_bm P base T:=_pu T;have WP:_bw P base T:=_lC T;have _eR:_fv P base T:=_kF T V6 WP;have _ej:_ek P base T:=_lF T UT V6 WP _eR;have Xi:Uy P base T:=_om T;have _bs:_fE P base T:=_nW T Xi;have _c8:_dl P base T:=_mU T Xi _bs;have _d3:_bY P base T:=_lr T LB2 _ed JH Xi _c8;have Uj:_br P base T:=_kM T _dg _ej Xi _d3;have _ab:_aC P base T:=_jB T Vc We UT;have _dR:_ec P base T:=_jE T _ab;have _bN:_dU P base T:=_kH T LB Wp _ab _dR;have _bH:_eJ P base T:=_nS T _bN;have _ar:_dC P base T:=_nh T Uj _bH;have Wx:_af P base T:=_mY T;have _bB:_fu P base T:=_mx T Wx;have _dD:_e5 P base T:=_qr T Vc We Up;have _bV:_eC P base T:=_nz T;have UR:_al P base T:=_oz T Wx;have _b8:_dn P base T:=_o7 T Wx;have _bo:_eP P base T:=_np T;have _ef:_dA P base T:=_pm T Up Uj _dD UR _b8;have _ou:_dk P base T:=_px T _ar _bB _bV UR _bo _ef;exact _ou
theorem _jo {w:World} {mg:Str->Option Value} (T:Tx K w mg) {E:XK} (h:J9 K T.tb T.tb2 vs H Q E):_iR T vs H Q E:=by
 obtain ⟨a,ns,rfl,r⟩:=h;exact ⟨rfl,a,ns,rfl,r⟩
theorem all_mk {l:W.OpenLaw} {w:World} {h:Heap} {mg:Str->Option Value} {fa:Addr} (X:K.In h) (G:h.Ns mainGlobals mg) (hfa:mg "law"=some (.ref fa))
 {OC_Tree:Addr}
 {OC_Book:Addr}
 {f0:Addr}
 {f1:Addr}
 {f2:Addr}
 {f3:Addr}
 {f4:Addr}
 {f5:Addr}
 {f6:Addr}
 {f7:Addr}
 {f8:Addr}
 {f9:Addr}
 {f10:Addr}
 {f11:Addr}
 {f12:Addr}
 {f13:Addr}
 {f14:Addr}
 {f15:Addr}
 {f16:Addr}
 {f17:Addr}
 {f18:Addr}
 {f19:Addr}
 {f20:Addr}
 {f21:Addr}
 {f22:Addr}
 {f23:Addr}
 {f24:Addr}
 {f25:Addr}
 {od25 an25:Option Addr} {sl25:Array (Option Value)} {oc25 kV25 dc25 pm25 cd25 ct25:Value}
 {DT25:Addr} {odD25:Option Addr} {nD25:Nat} {slD25:Array (Option Value)}
 {f26:Addr}
 {f27:Addr}
 {f28:Addr}
 {f29:Addr}
 {f30:Addr}
 {f31:Addr}
 {f32:Addr}
 {f33:Addr}
 {f34:Addr}
 {f35:Addr}
 {f36:Addr}
 {f37:Addr}
 {f38:Addr}
 {f39:Addr}
 {f40:Addr}
 {f41:Addr}
 {f42:Addr}
 {f43:Addr}
 {f44:Addr}
 {f45:Addr}
 {f46:Addr}
 {f47:Addr}
 {f48:Addr}
 {f49:Addr}
 {f50:Addr}
 {f51:Addr}
 {f52:Addr}
 {f53:Addr}
 {F0:Addr} {odF:Option Addr} {nF:Nat} {slF:Array (Option Value)} {tL:Tok}
 {P0 G0:Addr} {tp0:Tok} {odp0 odg0:Option Addr} {np0 ng0:Nat} {slp0 slg0:Array (Option Value)}
 {P1 G1:Addr} {tp1:Tok} {odp1 odg1:Option Addr} {np1 ng1:Nat} {slp1 slg1:Array (Option Value)}
 {P2 G2:Addr} {tp2:Tok} {odp2 odg2:Option Addr} {np2 ng2:Nat} {slp2 slg2:Array (Option Value)}
 {P3 G3:Addr} {tp3:Tok} {odp3 odg3:Option Addr} {np3 ng3:Nat} {slp3 slg3:Array (Option Value)}
 {P4 G4:Addr} {tp4:Tok} {odp4 odg4:Option Addr} {np4 ng4:Nat} {slp4 slg4:Array (Option Value)}
 {P5 G5:Addr} {tp5:Tok} {odp5 odg5:Option Addr} {np5 ng5:Nat} {slp5 slg5:Array (Option Value)}
 {KT0:Addr} {odT0:Option Addr} {nT0:Nat} {slT0:Array (Option Value)} {tt0_0:Tok} {tt0_1:Tok} {tt0_2:Tok} {tt0_3:Tok} {tt0_4:Tok} {tt0_5:Tok} {tt0_6:Tok}
 {KT1:Addr} {odT1:Option Addr} {nT1:Nat} {slT1:Array (Option Value)} {tt1_0:Tok} {tt1_1:Tok}
 {ti0:Tok}
 {ti1:Tok}
 {CC TB:Addr} {oF oC:Value} {dF dC:Option Addr} {sF sC:Array (Option Value)} {kVF dcF pmF ctF:Value} {anF:Option Addr} {vC:Array Value}
 {CC2 TB2:Addr} {oF2 oC2:Value} {dF2 dC2:Option Addr} {sF2 sC2:Array (Option Value)} {kVF2 dcF2 pmF2 ctF2:Value} {anF2:Option Addr} {vC2:Array Value}
 {KD0 nKD0:Addr} {tk0_0 tv0_0:Tok} {tk0_1 tv0_1:Tok}
 {KD1 nKD1:Addr} {tk1_0 tv1_0:Tok} {tk1_1 tv1_1:Tok}
 (ao1:W.nsIn K mainGlobals "Tree"=some (some (.ref OC_Tree)))
 (ao0:W.nsIn K mainGlobals "Book"=some (some (.ref OC_Book)))
 (a0:W.nsIn K mainGlobals "is_whole"=some (some (.ref f0)))
 (l0:DefIn K "is_whole" "is_whole" _eI f0)
 (a1:W.nsIn K mainGlobals "is_name"=some (some (.ref f1)))
 (l1:DefIn K "is_name" "is_name" _bE f1)
 (a2:W.nsIn K mainGlobals "is_day"=some (some (.ref f2)))
 (l2:DefIn K "is_day" "is_day" _b2 f2)
 (a3:W.nsIn K mainGlobals "is_amount"=some (some (.ref f3)))
 (l3:DefIn K "is_amount" "is_amount" _cA f3)
 (a4:W.nsIn K mainGlobals "is_sort"=some (some (.ref f4)))
 (l4:DefIn K "is_sort" "is_sort" _fh f4)
 (a5:W.nsIn K mainGlobals "is_parent"=some (some (.ref f5)))
 (l5:DefIn K "is_parent" "is_parent" _c7 f5)
 (a6:W.nsIn K mainGlobals "has_form"=some (some (.ref f6)))
 (l6:DefIn K "has_form" "has_form" _cS f6)
 (a7:W.nsIn K mainGlobals "is_entry"=some (some (.ref f7)))
 (l7:DefIn K "is_entry" "is_entry" _eW f7)
 (a8:W.nsIn K mainGlobals "is_tie"=some (some (.ref f8)))
 (l8:DefIn K "is_tie" "is_tie" _e6 f8)
 (a9:W.nsIn K mainGlobals "named_in"=some (some (.ref f9)))
 (l9:DefIn K "named_in" "named_in" _d2 f9)
 (a10:W.nsIn K mainGlobals "day_of"=some (some (.ref f10)))
 (l10:DefIn K "day_of" "day_of" _b7 f10)
 (a11:W.nsIn K mainGlobals "as_told"=some (some (.ref f11)))
 (l11:DefIn K "as_told" "as_told" _fx f11)
 (a12:W.nsIn K mainGlobals "key_of"=some (some (.ref f12)))
 (l12:DefIn K "key_of" "key_of" _fz f12)
 (a13:W.nsIn K mainGlobals "is_letter"=some (some (.ref f13)))
 (l13:DefIn K "is_letter" "is_letter" _es f13)
 (a14:W.nsIn K mainGlobals "pair_of"=some (some (.ref f14)))
 (l14:DefIn K "pair_of" "pair_of" _bW f14)
 (a15:W.findIn K (.ref OC_Book) "__init__"=some (some (.ref f15))) (i15:W.isFn K (.ref f15)=true)
 (l15:DefIn K "__init__" "Book.__init__" _fB f15)
 (a16:W.findIn K (.ref OC_Book) "birth_of"=some (some (.ref f16))) (i16:W.isFn K (.ref f16)=true)
 (l16:DefIn K "birth_of" "Book.birth_of" _cX f16)
 (a17:W.findIn K (.ref OC_Book) "sort_of"=some (some (.ref f17))) (i17:W.isFn K (.ref f17)=true)
 (l17:DefIn K "sort_of" "Book.sort_of" _em f17)
 (a18:W.findIn K (.ref OC_Book) "born_on"=some (some (.ref f18))) (i18:W.isFn K (.ref f18)=true)
 (l18:DefIn K "born_on" "Book.born_on" _eX f18)
 (a19:W.findIn K (.ref OC_Book) "parent_fits"=some (some (.ref f19))) (i19:W.isFn K (.ref f19)=true)
 (l19:DefIn K "parent_fits" "Book.parent_fits" _dH f19)
 (a20:W.findIn K (.ref OC_Book) "fits"=some (some (.ref f20))) (i20:W.isFn K (.ref f20)=true)
 (l20:DefIn K "fits" "Book.fits" _cF f20)
 (a21:W.findIn K (.ref OC_Book) "refuse"=some (some (.ref f21))) (i21:W.isFn K (.ref f21)=true)
 (l21:DefIn K "refuse" "Book.refuse" _ea f21)
 (a22:W.findIn K (.ref OC_Book) "link"=some (some (.ref f22))) (i22:W.isFn K (.ref f22)=true)
 (l22:DefIn K "link" "Book.link" _eE f22)
 (a23:W.findIn K (.ref OC_Book) "note_birth"=some (some (.ref f23))) (i23:W.isFn K (.ref f23)=true)
 (l23:DefIn K "note_birth" "Book.note_birth" _fo f23)
 (a24:W.findIn K (.ref OC_Book) "step"=some (some (.ref f24))) (i24:W.isFn K (.ref f24)=true)
 (l24:DefIn K "step" "Book.step" _b6 f24)
 (a25:W.findIn K (.ref OC_Book) "stands"=some (some (.ref f25))) (i25:W.isFn K (.ref f25)=true)
 (l25:K.lookup f25=some ⟨oc25,od25,.func (W.fnOf "stands" "Book.stands" (Xo Wv) (Y0 Wv) (_r Wv) (.ref DT25) kV25 dc25 pm25 an25 cd25 ct25),sl25⟩)
 (cc25:W.codeIn K cd25 "Book.stands"=true) (k25:W.keepIn K (.ref f25)=true)
 (ldt25:K.lookup DT25=some ⟨.type "tuple",odD25,.seq #[.none] nD25,slD25⟩)
 (a26:W.findIn K (.ref OC_Book) "note_tie"=some (some (.ref f26))) (i26:W.isFn K (.ref f26)=true)
 (l26:DefIn K "note_tie" "Book.note_tie" _bJ f26)
 (a27:W.findIn K (.ref OC_Book) "put"=some (some (.ref f27))) (i27:W.isFn K (.ref f27)=true)
 (l27:DefIn K "put" "Book.put" _eL f27)
 (a28:W.findIn K (.ref OC_Book) "people"=some (some (.ref f28))) (i28:W.isFn K (.ref f28)=true)
 (l28:DefIn K "people" "Book.people" _cz f28)
 (a29:W.nsIn K mainGlobals "is_test"=some (some (.ref f29)))
 (l29:DefIn K "is_test" "is_test" _cM f29)
 (a30:W.findIn K (.ref OC_Tree) "__init__"=some (some (.ref f30))) (i30:W.isFn K (.ref f30)=true)
 (l30:DefIn K "__init__" "Tree.__init__" _dm f30)
 (a31:W.findIn K (.ref OC_Tree) "ask"=some (some (.ref f31))) (i31:W.isFn K (.ref f31)=true)
 (l31:DefIn K "ask" "Tree.ask" _bO f31)
 (a32:W.findIn K (.ref OC_Tree) "grow"=some (some (.ref f32))) (i32:W.isFn K (.ref f32)=true)
 (l32:DefIn K "grow" "Tree.grow" _cH f32)
 (a33:W.findIn K (.ref OC_Tree) "go_up"=some (some (.ref f33))) (i33:W.isFn K (.ref f33)=true)
 (l33:DefIn K "go_up" "Tree.go_up" _eM f33)
 (a34:W.findIn K (.ref OC_Tree) "go"=some (some (.ref f34))) (i34:W.isFn K (.ref f34)=true)
 (l34:DefIn K "go" "Tree.go" _e4 f34)
 (a35:W.nsIn K mainGlobals "name_of"=some (some (.ref f35)))
 (l35:DefIn K "name_of" "name_of" _cd f35)
 (a36:W.nsIn K mainGlobals "parent_name"=some (some (.ref f36)))
 (l36:DefIn K "parent_name" "parent_name" _bT f36)
 (a37:W.nsIn K mainGlobals "birth"=some (some (.ref f37)))
 (l37:DefIn K "birth" "birth" _e3 f37)
 (a38:W.nsIn K mainGlobals "book_of_tree"=some (some (.ref f38)))
 (l38:DefIn K "book_of_tree" "book_of_tree" Uu f38)
 (a39:W.nsIn K mainGlobals "book_of"=some (some (.ref f39)))
 (l39:DefIn K "book_of" "book_of" _cp f39)
 (a40:W.nsIn K mainGlobals "led_by_step"=some (some (.ref f40)))
 (l40:DefIn K "led_by_step" "led_by_step" _eG f40)
 (a41:W.nsIn K mainGlobals "layers_of"=some (some (.ref f41)))
 (l41:DefIn K "layers_of" "layers_of" _ff f41)
 (a42:W.nsIn K mainGlobals "reach"=some (some (.ref f42)))
 (l42:DefIn K "reach" "reach" UP f42)
 (a43:W.nsIn K mainGlobals "leads_there"=some (some (.ref f43)))
 (l43:DefIn K "leads_there" "leads_there" _dJ f43)
 (a44:W.nsIn K mainGlobals "within"=some (some (.ref f44)))
 (l44:DefIn K "within" "within" _bZ f44)
 (a45:W.nsIn K mainGlobals "_law_step"=some (some (.ref f45)))
 (l45:DefIn K "_law_step" "_law_step" _df f45)
 (a46:W.nsIn K mainGlobals "_law_reach"=some (some (.ref f46)))
 (l46:DefIn K "_law_reach" "_law_reach" _do f46)
 (a47:W.nsIn K mainGlobals "_law_land_of"=some (some (.ref f47)))
 (l47:DefIn K "_law_land_of" "_law_land_of" _e0 f47)
 (a48:W.nsIn K mainGlobals "_law_land"=some (some (.ref f48)))
 (l48:DefIn K "_law_land" "_law_land" _db f48)
 (a49:W.nsIn K mainGlobals "_law_drawn"=some (some (.ref f49)))
 (l49:DefIn K "_law_drawn" "_law_drawn" _ee f49)
 (a50:W.nsIn K mainGlobals "_law_nearest"=some (some (.ref f50)))
 (l50:DefIn K "_law_nearest" "_law_nearest" _du f50)
 (a51:W.nsIn K mainGlobals "_law_turned"=some (some (.ref f51)))
 (l51:DefIn K "_law_turned" "_law_turned" _de f51)
 (a52:W.nsIn K mainGlobals "_law_in_book"=some (some (.ref f52)))
 (l52:DefIn K "_law_in_book" "_law_in_book" _dY f52)
 (a53:W.nsIn K mainGlobals "law"=some (some (.ref f53)))
 (l53:DefIn K "law" "law" _dB f53)
 (pg0:W.plainGet K OC_Book Str.empty=true) (hd0:W.hasDictIn K OC_Book=true) (po0:W.plainOver K OC_Book=true) (sa0:W.findIn K (.ref OC_Book) "__setattr__"=some (some (.builtin "object.__setattr__"))) (mk0:W.makesIn K OC_Book=true) (kc0:W.keepIn K (.ref OC_Book)=true)
 (na0_kept:W.findIn K (.ref OC_Book) "kept"=some none)
 (na0_births:W.findIn K (.ref OC_Book) "births"=some none)
 (na0_links:W.findIn K (.ref OC_Book) "links"=some none)
 (na0_ties:W.findIn K (.ref OC_Book) "ties"=some none)
 (na0_sums:W.findIn K (.ref OC_Book) "sums"=some none)
 (pg1:W.plainGet K OC_Tree Str.empty=true) (hd1:W.hasDictIn K OC_Tree=true) (po1:W.plainOver K OC_Tree=true) (sa1:W.findIn K (.ref OC_Tree) "__setattr__"=some (some (.builtin "object.__setattr__"))) (mk1:W.makesIn K OC_Tree=true) (kc1:W.keepIn K (.ref OC_Tree)=true)
 (na1_days:W.findIn K (.ref OC_Tree) "days"=some none)
 (na1_sorts:W.findIn K (.ref OC_Tree) "sorts"=some none)
 (na1_parents:W.findIn K (.ref OC_Tree) "parents"=some none)
 (na1_takings:W.findIn K (.ref OC_Tree) "takings"=some none)
 (na1_unions:W.findIn K (.ref OC_Tree) "unions"=some none)
 (na1_clash:W.findIn K (.ref OC_Tree) "clash"=some none)
 (na1_here:W.findIn K (.ref OC_Tree) "here"=some none)
 (z_abs:W.nsIn K mainGlobals "abs"=some none)
 (z_all:W.nsIn K mainGlobals "all"=some none)
 (z_bool:W.nsIn K mainGlobals "bool"=some none)
 (z_int:W.nsIn K mainGlobals "int"=some none)
 (z_isinstance:W.nsIn K mainGlobals "isinstance"=some none)
 (z_len:W.nsIn K mainGlobals "len"=some none)
 (z_list:W.nsIn K mainGlobals "list"=some none)
 (z_max:W.nsIn K mainGlobals "max"=some none)
 (z_min:W.nsIn K mainGlobals "min"=some none)
 (z_range:W.nsIn K mainGlobals "range"=some none)
 (z_reversed:W.nsIn K mainGlobals "reversed"=some none)
 (z_sorted:W.nsIn K mainGlobals "sorted"=some none)
 (z_str:W.nsIn K mainGlobals "str"=some none)
 (z_sum:W.nsIn K mainGlobals "sum"=some none)
 (z_tuple:W.nsIn K mainGlobals "tuple"=some none)
 (z_zip:W.nsIn K mainGlobals "zip"=some none)
 (qii':W.kitOne K (.type "int") (.type "int")=some true)
 (qis':W.kitOne K (.type "int") (.type "str")=some false)
 (qit':W.kitOne K (.type "int") (.type "tuple")=some false)
 (qib':W.kitOne K (.type "int") (.type "bool")=some false)
 (qsi':W.kitOne K (.type "str") (.type "int")=some false)
 (qss':W.kitOne K (.type "str") (.type "str")=some true)
 (qst':W.kitOne K (.type "str") (.type "tuple")=some false)
 (qbi':W.kitOne K (.type "bool") (.type "int")=some true)
 (qbs':W.kitOne K (.type "bool") (.type "str")=some false)
 (qbt':W.kitOne K (.type "bool") (.type "tuple")=some false)
 (qbb':W.kitOne K (.type "bool") (.type "bool")=some true)
 (qni':W.kitOne K (.type "NoneType") (.type "int")=some false)
 (qns':W.kitOne K (.type "NoneType") (.type "str")=some false)
 (qnt':W.kitOne K (.type "NoneType") (.type "tuple")=some false)
 (qti':W.kitOne K (.type "tuple") (.type "int")=some false)
 (qts':W.kitOne K (.type "tuple") (.type "str")=some false)
 (qtt':W.kitOne K (.type "tuple") (.type "tuple")=some true)
 (qli':W.kitOne K (.type "list") (.type "int")=some false)
 (qls':W.kitOne K (.type "list") (.type "str")=some false)
 (qlt':W.kitOne K (.type "list") (.type "tuple")=some false)
 (qdi':W.kitOne K (.type "dict") (.type "int")=some false)
 (qds':W.kitOne K (.type "dict") (.type "str")=some false)
 (qdt':W.kitOne K (.type "dict") (.type "tuple")=some false)
 (q_kl_list:W.kitOne K (.type "list") (.type "list")=some true)
 (zF:W.nsIn K mainGlobals "FORMS"=some (some (.ref F0)))
 (zL:W.nsIn K mainGlobals "LETTERS"=some (some (.str "abcdefghijklmnopqrstuvwxyz" tL)))
 (uF:K.lookup F0=some ⟨.type "tuple",odF,.seq #[.ref P0,.ref P1,.ref P2,.ref P3,.ref P4,.ref P5] nF,slF⟩)
 (up0:K.lookup P0=some ⟨.type "tuple",odp0,.seq #[.str "born" tp0,.ref G0] np0,slp0⟩)
 (up1:K.lookup P1=some ⟨.type "tuple",odp1,.seq #[.str "taken" tp1,.ref G1] np1,slp1⟩)
 (up2:K.lookup P2=some ⟨.type "tuple",odp2,.seq #[.str "union" tp2,.ref G2] np2,slp2⟩)
 (up3:K.lookup P3=some ⟨.type "tuple",odp3,.seq #[.str "parted" tp3,.ref G3] np3,slp3⟩)
 (up4:K.lookup P4=some ⟨.type "tuple",odp4,.seq #[.str "dead" tp4,.ref G4] np4,slp4⟩)
 (up5:K.lookup P5=some ⟨.type "tuple",odp5,.seq #[.str "given" tp5,.ref G5] np5,slp5⟩)
 (ug0:K.lookup G0=some ⟨.type "tuple",odg0,.seq #[.ref f1,.ref f4,.ref f2,.ref f5,.ref f5] ng0,slg0⟩)
 (ug1:K.lookup G1=some ⟨.type "tuple",odg1,.seq #[.ref f1,.ref f1,.ref f2] ng1,slg1⟩)
 (ug2:K.lookup G2=some ⟨.type "tuple",odg2,.seq #[.ref f1,.ref f1,.ref f2] ng2,slg2⟩)
 (ug3:K.lookup G3=some ⟨.type "tuple",odg3,.seq #[.ref f1,.ref f1,.ref f2] ng3,slg3⟩)
 (ug4:K.lookup G4=some ⟨.type "tuple",odg4,.seq #[.ref f1,.ref f2] ng4,slg4⟩)
 (ug5:K.lookup G5=some ⟨.type "tuple",odg5,.seq #[.ref f1,.ref f1,.ref f3,.ref f2] ng5,slg5⟩)
 (zt0:W.nsIn K mainGlobals "STEP_LETTERS"=some (some (.ref KT0)))
 (ut0:K.lookup KT0=some ⟨.type "tuple",odT0,.seq #[.str "F" tt0_0,.str "M" tt0_1,.str "T" tt0_2,.str "f" tt0_3,.str "m" tt0_4,.str "t" tt0_5,.str "S" tt0_6] nT0,slT0⟩)
 (zt1:W.nsIn K mainGlobals "TESTS"=some (some (.ref KT1)))
 (ut1:K.lookup KT1=some ⟨.type "tuple",odT1,.seq #[.str "he" tt1_0,.str "she" tt1_1] nT1,slT1⟩)
 (zi0:W.nsIn K mainGlobals "MOST_ENTRIES"=some (some (.int 400 ti0)))
 (zi1:W.nsIn K mainGlobals "MOST_PEOPLE"=some (some (.int 60 ti1)))
 (lF:K.lookup f42=some ⟨oF,dF,.func (W.fnOf "reach" "reach" (Xo UP) (Y0 UP) (_r UP) .none kVF dcF pmF anF (.ref CC) ctF),sF⟩)
 (lC:K.lookup CC=some ⟨oC,dC,.fields vC,sC⟩)
 (vC11:vC[11]?=some (.ref TB))
 (kTB:K.lookup TB=none)
 (lF2:K.lookup f38=some ⟨oF2,dF2,.func (W.fnOf "book_of_tree" "book_of_tree" (Xo Uu) (Y0 Uu) (_r Uu) .none kVF2 dcF2 pmF2 anF2 (.ref CC2) ctF2),sF2⟩)
 (lC2:K.lookup CC2=some ⟨oC2,dC2,.fields vC2,sC2⟩)
 (vC211:vC2[11]?=some (.ref TB2))
 (kTB2:K.lookup TB2=none)
 (ttb:(TB2==TB)=false)
 (zD0:W.nsIn K mainGlobals "SORT_OF_PARENT"=some (some (.ref KD0)))
 (sD0:(KD0==sysModules)=false)
 (uD0:K.lookup KD0=some ⟨.type "dict",none,.dict #[⟨Vo w (.inr "F"),.str "F" tk0_0,.str "he" tv0_0⟩,⟨Vo w (.inr "M"),.str "M" tk0_1,.str "she" tv0_1⟩] nKD0,#[]⟩)
 (zD1:W.nsIn K mainGlobals "LETTER_UP"=some (some (.ref KD1)))
 (sD1:(KD1==sysModules)=false)
 (uD1:K.lookup KD1=some ⟨.type "dict",none,.dict #[⟨Vo w (.inr "f"),.str "f" tk1_0,.str "F" tv1_0⟩,⟨Vo w (.inr "m"),.str "m" tk1_1,.str "M" tv1_1⟩] nKD1,#[]⟩) :
  ∃(fd:FuncData) (cc tb cc2 tb2:Addr),W.tabIn K "reach"=some (cc,tb)∧K.lookup tb=none∧W.tabIn K "book_of_tree"=some (cc2,tb2)∧K.lookup tb2=none∧tb2≠tb∧(∀(s:Shared) (v:Value),BindsTo s fd ⟨[v],[]⟩ [("_law_script",v)])∧∀base:Heap,K.In base->base.Ns mainGlobals mg->LamB base cc tb mg->LamB base cc2 tb2 mg->FnOk l.prog w K mg base (Xb l.prog w) 10 fa fd ["_law_script"] (J9 K tb tb2):=by
 have e:=hfa.symm.trans (Ro X G a53);cases e;have T:Σ' (T:Tx K w mg),T.UY.a=fa∧T.cc=CC∧T.tb=TB∧T.cc2=CC2∧T.tb2=TB2:=⟨{ cT:=OC_Tree,cB:=OC_Book,_dt:=.of X G a0 l0 (fun _ _ _ _ _ _=>Yz fun _=>rfl),Y4:=.of X G a1 l1 (fun _ _ _ _ _ _=>Yz fun _=>rfl),XA:=.of X G a2 l2 (fun _ _ _ _ _ _=>Yz fun _=>rfl),Vf:=.of X G a3 l3 (fun _ _ _ _ _ _=>Yz fun _=>rfl),WO:=.of X G a4 l4 (fun _ _ _ _ _ _=>Yz fun _=>rfl),Wt:=.of X G a5 l5 (fun _ _ _ _ _ _=>Yz fun _=>rfl),_cQ:=.of X G a6 l6 (fun _ _ _ _ _ _=>Y3 fun _ _=>rfl),_co:=.of X G a7 l7 (fun _ _ _ _ _ _=>Yz fun _=>rfl),_ei:=.of X G a8 l8 (fun _ _ _ _ _ _=>Yz fun _=>rfl),_ft:=.of X G a9 l9 (fun _ _ _ _ _ _=>Yz fun _=>rfl),_cD:=.of X G a10 l10 (fun _ _ _ _ _ _=>Yz fun _=>rfl),_fD:=.of X G a11 l11 (fun _ _ _ _ _ _=>Yz fun _=>rfl),_fa:=.of X G a12 l12 (fun _ _ _ _ _ _=>Yz fun _=>rfl),_c1:=.of X G a13 l13 (fun _ _ _ _ _ _=>Yz fun _=>rfl),_el:=.of X G a14 l14 (fun _ _ _ _ _ _=>Y3 fun _ _=>rfl),_ah:=.of a15 i15 l15 (fun _ _ _ _ _ _=>Yz fun _=>rfl),_eK:=.of a16 i16 l16 (fun _ _ _ _ _ _=>Y3 fun _ _=>rfl),_fy:=.of a17 i17 l17 (fun _ _ _ _ _ _=>Y3 fun _ _=>rfl),_cO:=.of a18 i18 l18 (fun _ _ _ _ _ _=>Y3 fun _ _=>rfl),_cY:=.of a19 i19 l19 (fun _ _ _ _ _ _=>un4 fun _ _ _ _=>rfl),_dQ:=.of a20 i20 l20 (fun _ _ _ _ _ _=>Y3 fun _ _=>rfl),_fw:=.of a21 i21 l21 (fun _ _ _ _ _ _=>Y3 fun _ _=>rfl),_eY:=.of a22 i22 l22 (fun _ _ _ _ _ _=>un4 fun _ _ _ _=>rfl),_b1:=.of a23 i23 l23 (fun _ _ _ _ _ _=>Y3 fun _ _=>rfl),_dG:=.of a24 i24 l24 (fun _ _ _ _ _ _=>Wz fun _ _ _=>rfl),a_Book_stands:=f25,fd_Book_stands:=W.fnOf "stands" "Book.stands" (Xo Wv) (Y0 Wv) (_r Wv) (.ref DT25) kV25 dc25 pm25 an25 cd25 ct25,dt_Book_stands:=DT25,F_Book_stands:=_hA (st:=Wv) l25 cc25 k25,b_Book_stands:=(_hA (st:=Wv) l25 cc25 k25).binds1 ldt25 rfl (fun _ _ _ _ _ _ us hl=>match us,hl with|[_,_,_],_=>⟨_,rfl,rfl⟩),me_Book_stands:=⟨a25,i25,k25⟩,_dX:=.of a26 i26 l26 (fun _ _ _ _ _ _=>Y3 fun _ _=>rfl),_dp:=.of a27 i27 l27 (fun _ _ _ _ _ _=>Y3 fun _ _=>rfl),Ug:=.of a28 i28 l28 (fun _ _ _ _ _ _=>Yz fun _=>rfl),_eg:=.of X G a29 l29 (fun _ _ _ _ _ _=>Yz fun _=>rfl),J8:=.of a30 i30 l30 (fun _ _ _ _ _ _=>Yz fun _=>rfl),_en:=.of a31 i31 l31 (fun _ _ _ _ _ _=>Wz fun _ _ _=>rfl),_eH:=.of a32 i32 l32 (fun _ _ _ _ _ _=>Y3 fun _ _=>rfl),_cU:=.of a33 i33 l33 (fun _ _ _ _ _ _=>Y3 fun _ _=>rfl),_ew:=.of a34 i34 l34 (fun _ _ _ _ _ _=>Y3 fun _ _=>rfl),_dE:=.of X G a35 l35 (fun _ _ _ _ _ _=>Yz fun _=>rfl),_cg:=.of X G a36 l36 (fun _ _ _ _ _ _=>Wz fun _ _ _=>rfl),_dK:=.of X G a37 l37 (fun _ _ _ _ _ _=>Y3 fun _ _=>rfl),_bi:=.of X G a38 l38 (fun _ _ _ _ _ _=>Yz fun _=>rfl),_bM:=.of X G a39 l39 (fun _ _ _ _ _ _=>Yz fun _=>rfl),UE:=.of X G a40 l40 (fun _ _ _ _ _ _=>Wz fun _ _ _=>rfl),UM:=.of X G a41 l41 (fun _ _ _ _ _ _=>Wz fun _ _ _=>rfl),_bt:=.of X G a42 l42 (fun _ _ _ _ _ _=>Wz fun _ _ _=>rfl),_e2:=.of X G a43 l43 (fun _ _ _ _ _ _=>Y3 fun _ _=>rfl),_dN:=.of X G a44 l44 (fun _ _ _ _ _ _=>Y3 fun _ _=>rfl),_fj:=.of X G a45 l45 (fun _ _ _ _ _ _=>Wz fun _ _ _=>rfl),_bS:=.of X G a46 l46 (fun _ _ _ _ _ _=>Wz fun _ _ _=>rfl),_ce:=.of X G a47 l47 (fun _ _ _ _ _ _=>Yz fun _=>rfl),_cs:=.of X G a48 l48 (fun _ _ _ _ _ _=>Y3 fun _ _=>rfl),_fi:=.of X G a49 l49 (fun _ _ _ _ _ _=>Wz fun _ _ _=>rfl),_cx:=.of X G a50 l50 (fun _ _ _ _ _ _=>Wz fun _ _ _=>rfl),_cZ:=.of X G a51 l51 (fun _ _ _ _ _ _=>Yz fun _=>rfl),_dd:=.of X G a52 l52 (fun _ _ _ _ _ _=>Y3 fun _ _=>rfl),UY:=.of X G a53 l53 (fun _ _ _ _ _ _=>Yz fun _=>rfl),mB:=(Ro X G ao0),lB_:=⟨pg0,hd0,po0,sa0⟩,kB:=⟨mk0,a15,i15,kc0⟩,nBkept:=na0_kept,nBbirths:=na0_births,nBlinks:=na0_links,nBties:=na0_ties,nBsums:=na0_sums,mT:=(Ro X G ao1),lT:=⟨pg1,hd1,po1,sa1⟩,kT_:=⟨mk1,a30,i30,kc1⟩,nTdays:=na1_days,nTsorts:=na1_sorts,nTparents:=na1_parents,nTtakings:=na1_takings,nTunions:=na1_unions,nTclash:=na1_clash,nThere:=na1_here,n_abs:=(Q3 X G z_abs),n_all:=(Q3 X G z_all),n_bool:=(Q3 X G z_bool),n_int:=(Q3 X G z_int),n_isinstance:=(Q3 X G z_isinstance),n_len:=(Q3 X G z_len),n_list:=(Q3 X G z_list),n_max:=(Q3 X G z_max),n_min:=(Q3 X G z_min),n_range:=(Q3 X G z_range),n_reversed:=(Q3 X G z_reversed),n_sorted:=(Q3 X G z_sorted),n_str:=(Q3 X G z_str),n_sum:=(Q3 X G z_sum),n_tuple:=(Q3 X G z_tuple),n_zip:=(Q3 X G z_zip),kii':=qii',kis':=qis',kit':=qit',kib':=qib',ksi':=qsi',kss':=qss',kst':=qst',kbi':=qbi',kbs':=qbs',kbt':=qbt',kbb':=qbb',kni':=qni',kns':=qns',knt':=qnt',kti':=qti',kts':=qts',ktt':=qtt',kli':=qli',kls':=qls',klt':=qlt',kdi':=qdi',kds':=qds',kdt':=qdt',kl_list:=q_kl_list,aF:=F0,m_FORMS:=(Ro X G zF),tkL:=tL,m_LETTERS:=(Ro X G zL),p0:=P0,g0:=G0,p1:=P1,g1:=G1,p2:=P2,g2:=G2,p3:=P3,g3:=G3,p4:=P4,g4:=G4,p5:=P5,g5:=G5,sF:=fun _=>.inr ⟨_,_,_,uF,rfl,rfl,_y (Qy rfl),.cons rfl (.cons rfl (.cons rfl (.cons rfl (.cons rfl (.cons rfl .nil)))))⟩,sp0:=fun _=>.inr ⟨_,_,_,up0,rfl,rfl,_y (Qy rfl),.cons ⟨_,rfl⟩ (.cons rfl .nil)⟩,sp1:=fun _=>.inr ⟨_,_,_,up1,rfl,rfl,_y (Qy rfl),.cons ⟨_,rfl⟩ (.cons rfl .nil)⟩,sp2:=fun _=>.inr ⟨_,_,_,up2,rfl,rfl,_y (Qy rfl),.cons ⟨_,rfl⟩ (.cons rfl .nil)⟩,sp3:=fun _=>.inr ⟨_,_,_,up3,rfl,rfl,_y (Qy rfl),.cons ⟨_,rfl⟩ (.cons rfl .nil)⟩,sp4:=fun _=>.inr ⟨_,_,_,up4,rfl,rfl,_y (Qy rfl),.cons ⟨_,rfl⟩ (.cons rfl .nil)⟩,sp5:=fun _=>.inr ⟨_,_,_,up5,rfl,rfl,_y (Qy rfl),.cons ⟨_,rfl⟩ (.cons rfl .nil)⟩,sg0:=fun _=>.inr ⟨_,_,_,ug0,rfl,rfl,_y (Qy rfl),.cons rfl (.cons rfl (.cons rfl (.cons rfl (.cons rfl (.nil)))))⟩,sg1:=fun _=>.inr ⟨_,_,_,ug1,rfl,rfl,_y (Qy rfl),.cons rfl (.cons rfl (.cons rfl (.nil)))⟩,sg2:=fun _=>.inr ⟨_,_,_,ug2,rfl,rfl,_y (Qy rfl),.cons rfl (.cons rfl (.cons rfl (.nil)))⟩,sg3:=fun _=>.inr ⟨_,_,_,ug3,rfl,rfl,_y (Qy rfl),.cons rfl (.cons rfl (.cons rfl (.nil)))⟩,sg4:=fun _=>.inr ⟨_,_,_,ug4,rfl,rfl,_y (Qy rfl),.cons rfl (.cons rfl (.nil))⟩,sg5:=fun _=>.inr ⟨_,_,_,ug5,rfl,rfl,_y (Qy rfl),.cons rfl (.cons rfl (.cons rfl (.cons rfl (.nil))))⟩,a_STEP_LETTERS:=KT0,m_STEP_LETTERS:=(Ro X G zt0),_ip:=fun _=>.inr ⟨_,_,_,ut0,rfl,rfl,_y (Qy rfl),.cons ⟨_,rfl⟩ (.cons ⟨_,rfl⟩ (.cons ⟨_,rfl⟩ (.cons ⟨_,rfl⟩ (.cons ⟨_,rfl⟩ (.cons ⟨_,rfl⟩ (.cons ⟨_,rfl⟩ (.nil)))))))⟩,a_TESTS:=KT1,m_TESTS:=(Ro X G zt1),_hx:=fun _=>.inr ⟨_,_,_,ut1,rfl,rfl,_y (Qy rfl),.cons ⟨_,rfl⟩ (.cons ⟨_,rfl⟩ (.nil))⟩,t_MOST_ENTRIES:=ti0,m_MOST_ENTRIES:=(Ro X G zi0),t_MOST_PEOPLE:=ti1,m_MOST_PEOPLE:=(Ro X G zi1),cc:=CC,tb:=TB,hcc:=⟨_,_,_,_,lF,rfl⟩,cc2:=CC2,tb2:=TB2,hcc2:=⟨_,_,_,_,lF2,rfl⟩,ttb:=fun z=>by rw [z] at ttb;simp at ttb,a_SORT_OF_PARENT:=KD0,m_SORT_OF_PARENT:=(Ro X G zD0),kd_SORT_OF_PARENT:=_h5 sD0 (few rfl) (by trivial) uD0 (.cons ⟨rfl,⟨_,rfl⟩,⟨_,rfl⟩⟩ (.cons ⟨rfl,⟨_,rfl⟩,⟨_,rfl⟩⟩ (.nil))),a_LETTER_UP:=KD1,m_LETTER_UP:=(Ro X G zD1),kd_LETTER_UP:=_h5 sD1 (few rfl) (by trivial) uD1 (.cons ⟨rfl,⟨_,rfl⟩,⟨_,rfl⟩⟩ (.cons ⟨rfl,⟨_,rfl⟩,⟨_,rfl⟩⟩ (.nil))) },rfl,rfl,rfl,rfl,rfl⟩;have ttb:=T.1.ttb;obtain ⟨T,ea,rfl,rfl,rfl,rfl⟩:=T;subst ea;refine ⟨(Y6 K T.UY.a),_,_,_,_,_gn a42 lF rfl lC vC11,kTB,_gn a38 lF2 rfl lC2 vC211,kTB2,T.ttb,fun s v=>?_,fun base _ _ LB LB2=>(_lY T LB LB2).imp fun vs H Q E z=>?_⟩
 ·obtain ⟨oc,od,kV,doc,pm,an,cdv,ct,osl,e,_⟩:=T.UY.F.ex;rw [e];exact .of_eq rfl
 exact _jo T z
theorem walk {l:W.OpenLaw} {q:Program} {loose:List Str} {XP:(Str->Option Value)->Heap->Prop} {YP:World->Heap->Prop} {d:DefRec} {K:Params->W.Frag} (hn:l.most=some 63) (hdf:d.params.defaults=[]) (hrec:((PyProof.Rows.recsOf q).find? (fun e=>e.name==("reach": Str))).isSome=true) (hrec2:((PyProof.Rows.recsOf q).find? (fun e=>e.name==("book_of_tree": Str))).isSome=true)
 (hY:∀(w:World) (h:Heap),YP w h->(K w.params).In h)
 (F:∀(w:World) (mg:Str->Option Value) (fa:Addr) (h:Heap),(K w.params).In h->h.Ns mainGlobals mg->mg d.name=some (.ref fa) →
 ∃(fd:FuncData) (cc tb cc2 tb2:Addr),W.tabIn (K w.params) "reach"=some (cc,tb)∧(K w.params).lookup tb=none∧W.tabIn (K w.params) "book_of_tree"=some (cc2,tb2)∧(K w.params).lookup tb2=none∧tb2≠tb∧(∀(s:Shared) (u:Value),BindsTo s fd ⟨[u],[]⟩ [("_law_script",u)])∧∀base:Heap,(K w.params).In base->base.Ns mainGlobals mg->LamB base cc tb mg->LamB base cc2 tb2 mg->FnOk l.prog w (K w.params) mg base (Xb l.prog w) 10 fa fd ["_law_script"] (J9 (K w.params) tb tb2)) :
  W.WalkO q loose XP YP l.row.toRowW d [] (fun f vs=>PySem.call f vs):=by
 obtain ⟨dd,hdd⟩:=GT.mp hrec;obtain ⟨dd2,hdd2⟩:=GT.mp hrec2;exact L2.walk_ofT2 (n:=63) (k:=10) (x:="_law_script") (CX:=fun w=>Xb l.prog w) (sp:=fun w tb tb2=>J9 (K w.params) tb tb2) hn (by decide) hdf ⟨rfl,by decide,by decide⟩ hdd hdd2 hY F (fun _ _ a tb tb2 ns hl hO hO2 hS tt=>⟨a,ns,rfl,hS,hl,hO,hO2,fun _ h h2=>⟨rfl,h,h2⟩⟩) fun _ _ _ _ _ ⟨_,_,_,_,_,z⟩=>z
end K25
open PySem PySem.W PyProof.Rows
set_option maxRecDepth 100000 in
set_option maxHeartbeats 0 in
theorem PySem.Challenge.cw_heirbook_k25_whole_the_freest_book_holds : PySem.Challenge.rw_heirbook_k25_whole_the_freest_book.Holds := by
 refine K25.join K25.hd K25.e6 ?_
 k_fill
 refine K25.walk (l:=PySem.Challenge.rw_heirbook_k25_whole_the_freest_book) rfl rfl (by kernel_rfl) (by kernel_rfl) (fun w h Y=>PySem.W.km_in_of Y) ?F
 case F =>
  intro w mg fa h KX G hmg;apply K25.all_mk KX G hmg
  case ao1|ao0|a0|a1|a2|a3|a4|a5|a6|a7|a8|a9|a10|a11|a12|a13|a14|a15|i15|a16|i16|a17|i17|a18|i18|a19|i19|a20|i20|a21|i21|a22|i22|a23|i23|a24|i24|a25|i25|l25|cc25|k25|ldt25|a26|i26|a27|i27|a28|i28|a29|a30|i30|a31|i31|a32|i32|a33|i33|a34|i34|a35|a36|a37|a38|a39|a40|a41|a42|a43|a44|a45|a46|a47|a48|a49|a50|a51|a52|a53|pg0|hd0|po0|sa0|mk0|kc0|na0_kept|na0_births|na0_links|na0_ties|na0_sums|pg1|hd1|po1|sa1|mk1|kc1|na1_days|na1_sorts|na1_parents|na1_takings|na1_unions|na1_clash|na1_here|z_abs|z_all|z_bool|z_int|z_isinstance|z_len|z_list|z_max|z_min|z_range|z_reversed|z_sorted|z_str|z_sum|z_tuple|z_zip|zF|zL|uF|up0|up1|up2|up3|up4|up5|ug0|ug1|ug2|ug3|ug4|ug5|zt0|ut0|zt1|ut1|zi0|zi1|lF|lC|lF2|lC2|zD0|uD0|zD1|uD1=>k_is
  case l0|l1|l2|l3|l4|l5|l6|l7|l8|l9|l10|l11|l12|l13|l14|l15|l16|l17|l18|l19|l20|l21|l22|l23|l24|l26|l27|l28|l29|l30|l31|l32|l33|l34|l35|l36|l37|l38|l39|l40|l41|l42|l43|l44|l45|l46|l47|l48|l49|l50|l51|l52|l53=>exact ⟨⟨_,_,_,_,_,_,_,_,_,by k_is,by k_is⟩,by k_is⟩
  case qii'|qis'|qit'|qib'|qsi'|qss'|qst'|qbi'|qbs'|qbt'|qbb'|qni'|qns'|qnt'|qti'|qts'|qtt'|qli'|qls'|qlt'|qdi'|qds'|qdt'|q_kl_list=>kit_is
  case vC11=>first|rfl|decide
  case kTB=>kernel_rfl
  case vC211=>first|rfl|decide
  case kTB2=>kernel_rfl
  case ttb|sD0|sD1=>first|rfl|decide
