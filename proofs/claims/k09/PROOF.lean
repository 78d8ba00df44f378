import PyProof.Rows.All
import Wide.All
import OpenK.AllK
import Wide.FinOn
import Lean
import PyProof.EqAt
import PyProof.EqKinds
import PyProof.TupleCall
import PyProof.NeKinds
import PyProof.ZipIter
import PyProof.Draws
import PyProof.ConsumeWalk
import PyProof.StrCaseBound
import PyProof.StrLawsIn
import PyProof.StrLawsJoin
import PyProof.Rows.StrSplitAre
import PyProof.WalkInts
import PyProof.EnumMake
import KE.KRevSl
import PyProof.Rows.SumAny
import PyProof.Rows.SortRuns
import PyProof.Rows.SortKey
import KE.KSortTup
import KE.KDictList
import PyProof.DictValues
import PyProof.StrLawsFirst
import PyProof.AutoListH
import PyProof.AttrMissSeq
import KE.KIntText
import PyProof.Rows.CountFlat
import KE.KLam
import KE.KSortKey
import KE.KPairComp
import PyProof.TupleKey
import KE.KEqDict
import PySem.Challenge.RW_heirbook_k09_whole_any_order
abbrev A0:=PySem.Str×PySem.Str
abbrev A3:=PySem.Addr×PySem.Obj
abbrev A4:=List A3
abbrev A5:=Int×PySem.Str
abbrev A6:=List A5
abbrev A7:=PySem.Str×PySem.Addr
abbrev A8:=PySem.Str×PySem.Value
abbrev A9:=List PySem.Str
abbrev B1:=List PySem.Value
abbrev B4:=Option PySem.Value
abbrev B5:=List PySem.Addr
abbrev B6:=Array PySem.Value
abbrev B8:=Option Int
abbrev B9:=Option PySem.Addr
abbrev C0:=List PySem.Expr
abbrev C4:=List PySem.Env
abbrev C5:=List Int
abbrev C6:=Option Nat
set_option compiler.extract_closed false
local macro_rules|`(tactic|lia)=>`(tactic|first|lia (config:={})|omega)
local macro_rules|`(tactic|ext)=>`(tactic|decide +kernel)
abbrev Qa:=@if_neg
abbrev Qb:=@if_pos
abbrev Qc:=@PySem.wpAny_bind
abbrev Qd:=@List.length_map
abbrev Qe:=@PyProof.Rows.wpS_bind
abbrev Qf:=@PyProof.Rows.wpS_pure
abbrev Qg:=@Nat.le_refl
abbrev Qh:=@PySem.wpAny_pure
abbrev Qi:=@decide_eq_false
abbrev Qj:=@List.mem_map
abbrev Qk:=@List.mem_cons
abbrev Ql:=@decide_eq_true
abbrev Qm:=@List.map_cons
abbrev Qn:=@List.mem_append
abbrev Qo:=@PySem.Heap.lt_size
abbrev Qp:=@List.getElem?_eq_getElem
abbrev Qq:=@List.length_append
abbrev Qr:=@PySem.Heap.get?_push_of_some
abbrev Qs:=@Nat.le_trans
abbrev Qt:=@Option.some.inj
abbrev Qu:=@List.map_append
abbrev Qv:=@List.getElem?_map
abbrev Qw:=@PySem.Heap.get?_push_size
abbrev Qx:=@List.size_toArray
abbrev Qy:=@List.mem_cons_self
abbrev Qz:=@List.mem_singleton
abbrev QA:=@Nat.ne_of_lt
abbrev QB:=@List.mem_cons_of_mem
abbrev QC:=@List.length_cons
abbrev QD:=@Bool.false_ne_true
abbrev QE:=@List.mem_of_getElem?
abbrev QF:=@List.map_map
abbrev QG:=@List.mem_append_left
abbrev QH:=@List.append_assoc
abbrev QI:=@congrArg
abbrev QJ:=@Nat.lt_of_lt_of_le
abbrev QK:=@List.getElem?_eq_some_iff
abbrev QL:=@List.mem_filter
abbrev QM:=@Ne.symm
abbrev QN:=@Nat.zero_le
abbrev QO:=@List.pairwise_append
abbrev QP:=@Int.fmod_nonneg_of_pos
abbrev QQ:=@List.filterMap_cons
abbrev QR:=@List.take_append_drop
abbrev QS:=@PySem.PassesOwn.leaving
abbrev QT:=@Sum.inr.inj
abbrev QU:=@List.length_take
abbrev QV:=@Nat.le_succ
abbrev QW:=@or_false
abbrev QX:=@List.Pairwise.sublist
abbrev QY:=@Int.fmod_lt_of_pos
abbrev QZ:=@List.mem_append_right
abbrev Q0:=@Bool.eq_iff_iff
abbrev Q1:=@List.append_nil
abbrev Q2:=@List.not_mem_nil
abbrev Q3:=@PyProof.Rows.wpS_forRange
abbrev Q4:=@Array.toList_push
abbrev Q5:=@PySem.wpAny_mono
abbrev Q6:=@PySem.W.kia_one
abbrev Q7:=@PySem.wpAny_field
abbrev Q8:=@Option.map_eq_some_iff
abbrev Q9:=@PyProof.Rows.wpS_modify
abbrev Ra:=@Nat.le_of_lt
abbrev Rb:=@List.nodup_cons
abbrev Rc:=@PyProof.Rows.wpS_mono
abbrev Re:=@PyProof.Rows.KeyOrd.kle_trans
abbrev Rg:=@Nat.lt_or_ge
abbrev Rh:=@Array.length_toList
abbrev Ri:=@List.length_drop
abbrev Rj:=@Array.getElem?_toList
abbrev Rk:=@PySem.wpAny_rule
abbrev Rl:=@List.nodup_append
abbrev Rm:=@List.filter_cons
abbrev Ro:=@List.take_sublist
abbrev Rp:=@PySem.wpAny_call_entry
abbrev Rq:=@List.any_cons
abbrev Rr:=@PyProof.Rows.wpS_get
abbrev Rs:=@Nat.le_of_ble_eq_true
abbrev Rt:=@PySem.Heap.size_push
abbrev Ru:=@if_false
abbrev Rv:=@PySem.wpAny_newObj_type
abbrev Rw:=@of_decide_eq_true
abbrev Rx:=@Nat.lt_irrefl
abbrev Ry:=@Nat.lt_succ_self
abbrev Rz:=@Nat.lt_of_le_of_lt
abbrev RA:=@Bool.eq_false_iff
abbrev RB:=@of_decide_eq_false
abbrev RC:=@PySem.wpAny_holding
abbrev RD:=@PySem.wpAny_callSpecial?_slot
abbrev RE:=@List.take_length
abbrev RF:=@List.length_pos_iff
abbrev RG:=@getElem?_pos
abbrev RH:=@List.pairwise_cons
abbrev RI:=@List.perm_append_comm
abbrev RJ:=@List.take_of_length_le
abbrev RL:=@List.cons.inj
abbrev RM:=@beq_eq_false_iff_ne
abbrev RN:=@List.mem_filterMap
abbrev RO:=@beq_iff_eq
abbrev RP:=@List.getElem?_append_right
abbrev RQ:=@if_true
abbrev RS:=@PySem.typeIs_str
abbrev RT:=@List.find?_cons
abbrev RU:=@List.all_eq_true
abbrev RV:=@List.getElem_of_mem
abbrev RW:=@PyProof.Rows.wpS_lift
abbrev RX:=@List.drop_sublist
abbrev RY:=@List.Perm.append_left
abbrev RZ:=@List.mem_iff_getElem
abbrev R0:=@List.map_congr_left
abbrev R1:=@Prod.ext
abbrev R3:=@PySem.wpAny_truthy_bool
abbrev R4:=@PySem.wpAny_passesOwn
abbrev R5:=@PySem.mem_of_lookup
abbrev R6:=@Bool.and_eq_true
abbrev R7:=@PySem.wpAny_seqItems
abbrev R8:=@PySem.Heap.SameBut.update
abbrev R9:=@Array.getElem?_eq_none
abbrev Ga:=@PyProof.Rows.KeyOrd.kle_of_klt
abbrev Gb:=@Array.toList_extract
abbrev Gc:=@List.extract_eq_take_drop
abbrev Gd:=@PyProof.Rows.KeyOrd.kle_refl
abbrev Ge:=@Bool.false_eq_true
abbrev Gf:=@PySem.F.plainAttrs_list
abbrev Gg:=@Option.map_some
abbrev Gh:=@Nat.ne_of_gt
abbrev Gi:=@List.getElem?_append_left
abbrev Gj:=@PySem.wpAny_Call_Name_kw
abbrev Gk:=@PyProof.Rows.slot_tuple_getitem
abbrev Gm:=@List.all_cons
abbrev Gn:=@List.length_nil
abbrev Go:=@PySem.tupleKind_room_in1
abbrev Gp:=@List.getElem?_cons_succ
abbrev Gq:=@Nat.lt_succ_of_lt
abbrev Gr:=@Nat.le_add_right
abbrev Gs:=@List.filterMap_append
abbrev Gu:=@PySem.wpAny_newList
abbrev Gv:=@Nat.add_zero
abbrev Gw:=@Nat.add_sub_cancel'
abbrev Gx:=@List.drop_zero
abbrev Gy:=@List.mem_of_mem_take
abbrev Gz:=@decide_eq_true_eq
abbrev GA:=@Bool.true_and
abbrev GB:=@List.filter_sublist
abbrev GC:=@PySem.F.slot_list_append
abbrev GD:=@PySem.F.type_list_append
abbrev GE:=@PySem.wpAny_execs_nil
abbrev GF:=@PySem.wpAny_pyIter_tuple
abbrev GG:=@PySem.sizeLine_eq
abbrev GH:=@PySem.Calls.spliced_cons
abbrev GI:=@PySem.codeAny_mono
abbrev GJ:=@Int.toNat_natCast
abbrev GK:=@List.map_nil
abbrev GL:=@PySem.call_meetsIn
abbrev GM:=@PySem.wpAny_loadPart_at
abbrev GN:=@PySem.codeAny_builtin
abbrev GO:=@Bool.and_false
abbrev GP:=@List.all_map
abbrev GQ:=@beq_self_eq_true
abbrev GR:=@PySem.wpAny_setField_rec
abbrev GS:=@PySem.wpAny_attempt
abbrev GT:=@List.take_add_one
abbrev GU:=@Bool.or_eq_true
abbrev GV:=@List.length_filterMap_le
abbrev GW:=@PySem.wpAny_dictEntries
abbrev GX:=@List.getElem_mem
abbrev GY:=@List.drop_eq_getElem_cons
abbrev GZ:=@List.drop_of_length_le
abbrev G0:=@List.mem_of_mem_drop
abbrev G1:=@List.Perm.refl
abbrev G2:=@Nat.sub_self
abbrev G3:=@List.not_lt
abbrev G7:=@PySem.F.slot_dict_valueiterator_next
abbrev G8:=@Nat.succ.inj
abbrev G9:=@List.rel_of_pairwise_cons
abbrev Na:=@List.map_take
abbrev Nb:=@List.flatMap_cons
abbrev Nc:=@List.filter_append
abbrev Nd:=@PySem.Paired.length
abbrev Nf:=@Bool.false_and
abbrev Ng:=@PySem.W.looks_findIn
abbrev Nh:=@PySem.W.kitx_list
abbrev Ni:=@PySem.wpAny_typeOf
abbrev Nj:=@Bool.or_false
abbrev Nk:=@PySem.SeqAt.EqAt.same
abbrev Nl:=@PySem.Calls.callWith_builtin
abbrev No:=@PySem.Calls.evalArgs_plain
abbrev Np:=@List.cons_append
abbrev Nq:=@PySem.F.plainAttrs_dict
abbrev Nr:=@Bool.not_eq_true'
abbrev Nt:=@PySem.F.slot_tuple_iterator_next
abbrev Nu:=@PySem.wpAny_setField
abbrev Nv:=@PySem.Obj.data_mapFields
abbrev Nw:=@PySem.F.slot_zip_next
abbrev Ny:=@PySem.Calls.call_function_entry
abbrev Nz:=@PySem.atKey_none_of_get
abbrev NA:=@Array.toList_inj
abbrev NB:=@List.take_append
abbrev NC:=@List.drop_append
abbrev ND:=@Array.perm_iff_toList_perm
abbrev NE:=@PyProof.Rows.reverseSlice'_eq
abbrev NF:=@List.flatten_cons
abbrev NG:=@List.length_eq_zero_iff
abbrev NH:=@List.length_filter_le
abbrev NI:=@PySem.SeqAt.EqAt.int_str
abbrev NJ:=@PySem.SeqAt.EqAt.str_int
abbrev NK:=@List.mem_range
abbrev NL:=@PySem.Calls.Name_function_global
abbrev NM:=@PyProof.Rows.callWith_type1
abbrev NN:=@List.any_eq_false
abbrev NO:=@PySem.Calls.spliced_nil
abbrev NP:=@List.of_mem_zip
abbrev NQ:=@Option.isSome_iff_exists
abbrev NR:=@Option.isSome_map
abbrev NS:=@PySem.F.slot_dict_get
abbrev NT:=@PySem.F.typeOf_object_class
abbrev NU:=@PySem.Code.quiet_builtin
abbrev NV:=@Bool.and_true
abbrev NW:=@List.getElem?_cons_zero
abbrev NX:=@PySem.Heap.get?_update_self
abbrev NY:=@List.zipIdx_cons
abbrev NZ:=@PySem.Heap.get?_update_ne
abbrev N0:=@List.reverse_perm
abbrev N1:=@List.pairwise_iff_getElem
abbrev N2:=@List.foldl_cons
abbrev N3:=@List.drop_drop
abbrev N4:=@List.getElem_take
abbrev N5:=@List.getElem?_drop
abbrev N6:=@List.ext_getElem?
abbrev N7:=@Nat.add_assoc
abbrev N8:=@List.lt_irrefl
abbrev N9:=@List.pairwise_map
abbrev Ma:=@PySem.wpAny_isOneOf_valiter
abbrev Mb:=@List.lt_asymm
abbrev Mc:=@Bool.or_eq_false_iff
abbrev Md:=@List.any_eq_true
abbrev Me:=@List.filter_eq_self
abbrev Mf:=@List.length_range
abbrev Mg:=@Int.mul_fdiv_add_fmod
abbrev Mh:=@List.map_drop
abbrev Mi:=@List.sum_cons
abbrev Mj:=@List.getElem?_take_of_lt
abbrev Ml:=@PySem.F.entry_tuple_add
abbrev Mm:=@PySem.F.args_tuple_add_2
abbrev Mn:=@PySem.F.args_dict_get_3
abbrev Mo:=@Option.bind_eq_some_iff
abbrev Mp:=@PySem.F.slot_dict_setdefault
abbrev Mq:=@Array.eq_empty_of_size_eq_zero
abbrev Mr:=@List.take_succ_eq_append_getElem
abbrev Ms:=@Nat.add_sub_cancel_left
abbrev Mt:=@Array.size_setIfInBounds
abbrev Mu:=@Array.toList_setIfInBounds
abbrev Mv:=@PySem.F.entry_dict_valueiterator_next
abbrev Mw:=@PySem.F.args_dict_valueiterator_next_1
abbrev Mx:=@PySem.F.slot_list_insert
abbrev My:=@Option.isSome_iff_ne_none
abbrev Mz:=@Int.fdiv_eq_ediv_of_nonneg
abbrev MA:=@List.dropLast_concat_getLast
abbrev MB:=@List.eq_nil_of_length_eq_zero
abbrev MC:=@PySem.F.slot_dict_values
abbrev MD:=@PySem.F.type_dict_values
abbrev ME:=@Int.mul_le_mul_of_nonneg_left
set_option Elab.async false
set_option linter.all false
namespace LR
open PySem PySem.W PyProof.Rows
variable{N m:Nat} {ann:B4} {p:Program}
noncomputable abbrev _aX:=@Fast.tw14082659384304107361
noncomputable abbrev Uy:=Fast.tw14364793385576792824
noncomputable abbrev Vv:=@Fast.tw4187177175401517315
noncomputable def allIn (p:Program) (P:Params) (s:Shared):Bool :=
 staticsOk (importedModules p.main.body) (boot_heap P) s.heap&&namesBound p s.heap&&gensDone s&&laidKept (boot_heap P) s.heap
noncomputable abbrev sA (q:Program) (loose mods:A9) (Xt:Shared->Bool) (g0:Bool) (s:Shared) :=
 ((Vv q loose mods Xt g0 s).1,(Vv q loose mods Xt g0 s).2.1,(Vv q loose mods Xt g0 s).2.2.1,(Vv q loose mods Xt g0 s).2.2.2.1)
noncomputable abbrev sB (q:Program) (loose mods:A9) (Xt:Shared->Bool) (g0:Bool) (s:Shared):=(Vv q loose mods Xt g0 s).2.2.2.2
noncomputable abbrev gA (q:Program) (loose:A9):=((openGood q loose).1,(openGood q loose).2.1,(openGood q loose).2.2.1,(openGood q loose).2.2.2.1)
noncomputable abbrev gB (q:Program) (loose:A9):=(openGood q loose).2.2.2.2
noncomputable abbrev ran (p:Program) (m:Nat) (ann:B4) (N:Nat) (w:World) (os:OsState):Option Shared :=
 _aX Uy p w m ann N ⟨boot_heap w.params,Array.mk [],boot_drawn,boot_toks,os⟩ (topStub p)
theorem left_run {q:Program} {loose:A9} {Xt:Shared->Bool} {α:Type} {Yf:Shared->α} {Ya:World->α} {g0:Bool} 
 (e:opening p=plainProg p.main.scope.names) (f:∀s,fenceModules? p s=some s) (hN:Nat.ble 600 N=true)
 (h1:∀w:World,(boot_heap w.params).isNs mainGlobals=true) (h2:∀w:World,(boot_heap w.params).objs.size=m) (h3:∀w:World,(boot_heap w.params).nsMap mainGlobals "__annotations__"=ann)
 (r1:∀(w:World) (os:OsState),(ran p m ann N w os).map (allIn p w.params)=some true)
 (r2:∀(w:World) (os:OsState),(ran p m ann N w os).map (sA q loose (importedModules p.main.body) Xt g0)=some (gA q loose))
 (r2':∀(w:World) (os:OsState),(ran p m ann N w os).map (sB q loose (importedModules p.main.body) Xt g0)=some (gB q loose))
 (r3:∀(w:World) (os:OsState),(ran p m ann N w os).map Yf=some (Ya w)):LeftO p q loose Xt Yf Ya N g0:=by
 intro w;cases hb:fencedOpening treeTable p w N with
 |none=>have z:=boot_open e hN f w;rw[hb] at z;cases z
 |some s0 =>
  have z:=boot_open e hN f w;rw[hb] at z;obtain⟨h,gs,d,k,os⟩:=s0;injection z with z;injection z with z4 z;injection z with z5 z;injection z with z6 z7;dsimp only at z4 z5 z6 z7;subst z4 z5 z6 z7;have a:=r1 w os;have b:=r2 w os;have b':=r2' w os;have c:=r3 w os;unfold ran _aX Uy at a b b' c;unfold sA gA Vv at b;unfold sB gB Vv at b';rw[<-Fast.te14082659384304107361,<-Fast.te14364793385576792824] at a b b' c;rw[<-Fast.te4187177175401517315] at b b';cases hs:topRun treeTable p w m ann N ⟨boot_heap w.params,Array.mk [],boot_drawn,boot_toks,os⟩ (topStub p) with
  |none=>rw[hs] at a;cases a
  |some s =>
   rw[hs] at a b b' c;injection a with a;injection b with b;injection b' with b';injection b with x1 b;injection b with x2 b;injection b with x3 x4;injection c with c;have b:openSeen q loose (importedModules p.main.body) Xt g0 s=openGood q loose:=R1 x1 (R1 x2 (R1 x3 (R1 x4 b')))
   have t:topFrom treeTable p w N ⟨boot_heap w.params,Array.mk [],boot_drawn,boot_toks,os⟩=some s:=by
    unfold topFrom;simp only[h1 w,h2 w,h3 w,hs];unfold allIn at a;show(Option.bind (some s) λx=>_)=_;rw[Option.bind_some,a]
   show Option.map _ (Option.bind (fencedOpening treeTable p w N) _)=_;rw[hb,Option.bind_some,t,Gg,b,c]
noncomputable def _bx (st:SharedT->Thread->Option (SharedT×Thread)) (ok:Thread->Bool):Nat->SharedT->Thread->Option SharedT:=λn =>
 Nat.rec (motive:=λ_=>SharedT->Thread->Option SharedT) (λ_ _=>none) (λ_ ih s t=>match through t with
  |true=>some s
  |false=>match ok t with
   |false=>none
   |true=>match st s t with
    |some (s',t')=>ih s' t'
    |none=>none) n
theorem _ej {tb:String->Option Builtin} {p:Program} {w:World} {n₀:Nat} {ann:B4}:∀(n:Nat) (s:SharedT) (t:Thread) (s':SharedT),_bx (stepT (denote tb) p w) (stepOk n₀ ann) n s t=some s'->topRun tb p w n₀ ann n s.abs t=some s'.abs
 |0,_,_,_,h=>by cases h
 |n+1,s,t,s',h=>by
  have h2:(match through t with
   |true=>some s
   |false=>match stepOk n₀ ann t with
    |false=>none
    |true=>match stepT (denote tb) p w s t with
     |some (s',t')=>_bx (stepT (denote tb) p w) (stepOk n₀ ann) n s' t'
     |none=>none)=some s':=h
  unfold topRun;cases ht:through t with
  |true=>rw[ht] at h2;cases h2;rfl
  |false =>
   rw[ht] at h2;cases hk:stepOk n₀ ann t with
   |false=>rw[hk] at h2;cases h2
   |true =>
    rw[hk] at h2;cases hs:stepT (denote tb) p w s t with
    |none=>rw[hs] at h2;cases h2
    |some r =>
     obtain⟨s₂,t₂⟩:=r;rw[hs] at h2;rw[stepT_spec hs];exact _ej n s₂ t₂ s' h2
noncomputable def _hx (P:Params) (m:Nat):BT:=Nat.rec (motive:=λ_=>BT) .nil (λi T=>T.ins i (((boot_heap P).objs[i]?).getD default)) m
noncomputable abbrev _f1:=@Fast.tw10156331382660048174
noncomputable abbrev _cI:=@Fast.tw11892475500146522536
noncomputable abbrev fOk:=@Fast.tw6613529449190102663
noncomputable abbrev s0T (P:Params) (m:Nat) (os:OsState):SharedT:=⟨_hx P m,m,(boot_heap P).life,Array.mk [],boot_drawn,boot_toks,os⟩
noncomputable abbrev ranT (p:Program) (m:Nat) (ann:B4) (N:Nat) (w:World) (os:OsState):Option SharedT :=
 _bx (_f1 (_cI Uy) p w) (fOk m ann) N (s0T w.params m os) (topStub p)
theorem _no {w:World} {os:OsState} (hb:(s0T w.params m os).abs=⟨boot_heap w.params,Array.mk [],boot_drawn,boot_toks,os⟩) {s:SharedT} (h:ranT p m ann N w os=some s):ran p m ann N w os=some s.abs:=by
 unfold ranT _f1 _cI fOk Uy at h;rw[<-Fast.te10156331382660048174,<-Fast.te11892475500146522536,<-Fast.te6613529449190102663,<-Fast.te14364793385576792824] at h;have:=_ej _ _ _ _ h;rw[hb] at this;unfold ran _aX Uy;rw[<-Fast.te14082659384304107361,<-Fast.te14364793385576792824];exact this
theorem mapT {α:Type} {w:World} {os:OsState} (hb:(s0T w.params m os).abs=⟨boot_heap w.params,Array.mk [],boot_drawn,boot_toks,os⟩) {f:Shared->α} {a:α} (h:(ranT p m ann N w os).map (λs=>f s.abs)=some a):(ran p m ann N w os).map f=some a:=by
 cases e:ranT p m ann N w os with
 |none=>rw[e] at h;cases h
 |some s =>
  rw[e] at h;rw[_no hb e];exact h
end LR
namespace K09
open PySem PySem.W PyProof.Rows
abbrev rwOf:OpenLaw:=PySem.Challenge.rw_heirbook_k09_whole_any_order
abbrev pwOf:Program:=PySem.Challenge.pw_heirbook_k09_whole_any_order
noncomputable def vw:Program:=view pwOf [1,2,3,4,5,6,7,9,11,12,13,14,15,16,17,18,19,20,21,22,23,24,26,27,29,30,31,32,34,35,36,37,38,39,40,41,42,43,44,45,46,47,48,49,50,51]
noncomputable abbrev lo:A9:=["FORMS"]
noncomputable abbrev xt (s:Shared):Bool:=xlAt vw [] s&&recOk (RowW.records (OpenRow.toRowW (OpenLaw.row rwOf))) s
noncomputable abbrev rn:=LR.ranT pwOf 11 (some (.ref 6)) 3496
set_option maxRecDepth 100000
set_option maxHeartbeats 0
theorem said:OpenLaw.wellSaid rwOf=true:=by kernel_rfl
theorem hb (w:World) (os:OsState):(LR.s0T w.params 11 os).abs=⟨boot_heap w.params,Array.mk [],boot_drawn,boot_toks,os⟩:=by kernel_rfl
theorem r1T (w:World) (os:OsState):(rn w os).map (λs=>(LR.allIn pwOf w.params) s.abs)=some (true):=by kernel_rfl
theorem r1 (w:World) (os:OsState):(LR.ran pwOf 11 (some (.ref 6)) 3496 w os).map (LR.allIn pwOf w.params)=some (true):=LR.mapT (hb w os) (r1T w os)
theorem r2T (w:World) (os:OsState):(rn w os).map (λs=>(LR.sA vw lo (importedModules pwOf.main.body) xt true) s.abs)=some (LR.gA vw lo):=by kernel_rfl
theorem r2 (w:World) (os:OsState):(LR.ran pwOf 11 (some (.ref 6)) 3496 w os).map (LR.sA vw lo (importedModules pwOf.main.body) xt true)=some (LR.gA vw lo):=LR.mapT (hb w os) (r2T w os)
theorem r3T (w:World) (os:OsState):(rn w os).map (λs=>(LR.sB vw lo (importedModules pwOf.main.body) xt true) s.abs)=some (LR.gB vw lo):=by kernel_rfl
theorem r3 (w:World) (os:OsState):(LR.ran pwOf 11 (some (.ref 6)) 3496 w os).map (LR.sB vw lo (importedModules pwOf.main.body) xt true)=some (LR.gB vw lo):=LR.mapT (hb w os) (r3T w os)
end K09
local macro_rules
 | `(tactic| o_law)=>`(tactic| refine PySem.W.holds_law K09.said λsd=>?_)
local macro_rules
 | `(tactic| o_head $H)=>do
  let hw:=Lean.mkIdent `hw
  let hc:=Lean.mkIdent `hc
  `(tactic| (
   refine PySem.W.holds_open (q:=K09.vw) (loose:=K09.lo) (N:=3496) (Xt:=K09.xt) (XP:=PySem.W.XL K09.vw []) (Yf:=PySem.W.Hook.obs $H)
    (Ya:=PySem.W.Hook.val $H) (YP:=PySem.W.Hook.says $H)
    (LR.left_run (p:=K09.pwOf) (m:=11) (ann:=(some (.ref 6))) ?e1 ?e2 (by decide) ?e3 ?e4 ?e5 K09.r1 K09.r2 K09.r3 ?e6)
    (PySem.W.Hook.of $H) (PySem.W.Hook.keeps $H) ?f1
    PySem.W.XL.keeps (by rfl) (by rfl) (by rfl) ?f2 ?g4 ?g5 ?g6 ?g7 ?$hw ?$hc
   case e1=>kernel_rfl
   case e2=>intro s;kernel_rfl
   case e3=>intro w;kernel_rfl
   case e4=>intro w;kernel_rfl
   case e5=>intro w;kernel_rfl
   case e6=>(intro w os;refine LR.mapT (K09.hb w os) ?_;kernel_rfl)
   case f1=>intro s e;exact PySem.W.xl_of s (Bool.and_eq_true_iff.mp e).1
   case f2=>intro s e;exact PySem.W.recFacts_of (Bool.and_eq_true_iff.mp e).2
   case g4=>rfl
   case g5=>assumption
   case g6=>ext
   case g7=>exact⟨rfl,rfl,rfl,rfl,rfl,by ext⟩))
set_option maxRecDepth 100000 in
set_option maxHeartbeats 0 in
open_top K09.hd for PySem.Challenge.rw_heirbook_k09_whole_any_order
set_option maxRecDepth 100000
namespace L2
open PySem PySem.Spec PyProof.Rows
variable{C a b dx:Addr} {A:Around} {op:CmpOp} {X:Cx} {c e tg:Expr} {fd:FuncData} {o:HO} {base h h':Heap} {H H':Hp} {pins:A4} {ch fp:B5} {es:C0} {body:List Stmt} {N ps:A9} {xs ys:List V} {us:B1} {M:Model} {i n t':Nat} {p pos:Pos} {P:Program} {s:Shared} {U:St} {m x:Str} {mA:Str->B4} {ta te:TE} {tb:TS} {v y:V} {u:Value} {E Q:Value->Shared->Prop} {f:Value->Value->Sem Value} {CX:Yu}
abbrev _j:=Sum Int Str
noncomputable def Vh:_j->Value->Bool
 |.inl k,v=>Value.isInt k v
 |.inr x,v=>Value.isStrOf x v
noncomputable def _ic (w:World):_j->Int
 |.inl k=>hashInt k
 |.inr x=>hashStr w x
theorem X8:∀{k:_j} {v:Value},Vh k v=true->(∃i t,k=Sum.inl i/\v=Value.int i t)\/(∃x t,k=Sum.inr x/\v=Value.str x t)
 |.inl i,v,h=>by
  obtain⟨t,e⟩:=Value.isInt_shape (k:=i) (v:=v) h;exact .inl ⟨i,t,rfl,e⟩
 |.inr x,v,h=>by
  obtain⟨t,e⟩:=Value.isStrOf_shape (x:=x) (v:=v) h;exact .inr ⟨x,t,rfl,e⟩
theorem _gR (i:Int) (t:Tok):Vh (.inl i) (.int i t)=true:=by simp[Vh,Value.isInt]
theorem _jT (x:Str) (t:Tok):Vh (.inr x) (.str x t)=true:=by simp[Vh,Value.isStrOf]
theorem _iu (a b:Int):decide ((Sum.inl a:_j)=Sum.inl b)=(a==b):=by
 by_cases e:a=b
 ·subst e;simp
 ·have h:¬(Sum.inl a:_j)=Sum.inl b:=λq=>e (Sum.inl.inj q);rw[Qi h];exact(RM.mpr e).symm
theorem _io (a b:Str):decide ((Sum.inr a:_j)=Sum.inr b)=decide (a=b):=by
 by_cases e:a=b
 ·subst e;simp
 ·have h:¬(Sum.inr a:_j)=Sum.inr b:=λq=>e (QT q);rw[Qi h,Qi e]
theorem _h6 (a:Int) (b:Str):decide ((Sum.inl a:_j)=Sum.inr b)=false:=Qi (λq=>nomatch q)
theorem _nm (a:Str) (b:Int):decide ((Sum.inr a:_j)=Sum.inl b)=false:=Qi (λq=>nomatch q)
noncomputable def Ys (prog:Program) (w:World):PySem.KeyKind prog w _j where
 is:=Vh
 hash:=_ic w
 inj:=λv a b ha hb=>by
  rcases X8 ha with⟨i,t,rfl,rfl⟩|⟨x,t,rfl,rfl⟩
  ·rcases X8 hb with⟨j,u,rfl,e⟩|⟨y,u,rfl,e⟩
   ·injection e with e1 _;rw[e1]
   ·exact nomatch e
  ·rcases X8 hb with⟨j,u,rfl,e⟩|⟨y,u,rfl,e⟩
   ·exact nomatch e
   ·injection e with e1 _;rw[e1]
 byValue:=λk v h=>by
  rcases X8 h with⟨i,t,rfl,rfl⟩|⟨x,t,rfl,rfl⟩<;>rfl
 pyHash:=λhv h=>by
  rcases X8 hv with⟨i,t,rfl,rfl⟩|⟨x,t,rfl,rfl⟩
  ·exact wpAny_pyHash_int h
  ·exact wpAny_pyHash_str h
 eqBool:=λhu hv h=>by
  rcases X8 hu with⟨i,t,rfl,rfl⟩|⟨x,t,rfl,rfl⟩
  ·rcases X8 hv with⟨j,u,rfl,rfl⟩|⟨y,u,rfl,rfl⟩
   ·rw[_iu] at h;exact wpAny_eqBool_int h
   ·rw[_h6] at h;exact NI i t y u _ _ _ _ h
  ·rcases X8 hv with⟨j,u,rfl,rfl⟩|⟨y,u,rfl,rfl⟩
   ·rw[_nm] at h;exact NJ x t j u _ _ _ _ h
   ·rw[_io] at h;exact wpAny_eqBool_str h
 «strs»:=λk x t v h=>by
  rcases X8 h with⟨i,u,rfl,e⟩|⟨y,u,rfl,e⟩
  ·exact nomatch e
  ·injection e with e1 _;subst e1;cases v<;>rfl
theorem _kX (prog:Program) (w:World) (i:Int) (t:Tok):(Ys prog w).is (.inl i) (.int i t)=true:=_gR i t
theorem _kp (prog:Program) (w:World) (x:Str) (t:Tok):(Ys prog w).is (.inr x) (.str x t)=true:=_jT x t
inductive V where
 |non|bl (b:Bool)|int (i:Int)|str (x:Str)|byt (b:Array UInt8)|flt (b:UInt64)|ref (a:Addr)|ty (n:String)
 deriving DecidableEq
def RelV:V->Value->Prop
 |.non,u=>u=Value.none
 |.bl b,u=>u=Value.bool b
 |.int i,u=>∃t,u=Value.int i t
 |.str x,u=>∃t,u=Value.str x t
 |.byt b,u=>∃t,u=Value.bytes b t
 |.flt b,u=>∃t,u=Value.float b t
 |.ref a,u=>u=Value.ref a
 |.ty n,u=>u=Value.type n
abbrev Vals:List V->B1->Prop:=Paired RelV
theorem Vals.length (r:Vals xs us):xs.length=us.length:=Nd r
theorem Vals.get {x:V} (h:Vals xs us) (e:xs[i]?=some x):∃u,us[i]?=some u/\RelV x u:=by
 induction h generalizing i with
 |nil=>simp at e
 |cons r t ih =>
  cases i with
  |zero=>simp at e;subst e;exact⟨_,rfl,r⟩
  |succ i =>
   obtain⟨u,h1,h2⟩:=ih (by simpa using e);exact⟨u,by simpa using h1,h2⟩
theorem Vals.append {ws:B1} (h:Vals xs us) (s:Vals ys ws):Vals (xs++ys) (us++ws):=by
 induction h with
 |nil=>exact s
 |cons r t ih=>exact .cons r ih
theorem Vals.take (n:Nat) (h:Vals xs us):Vals (xs.take n) (us.take n):=by
 induction h generalizing n with
 |nil=>cases n<;>exact .nil
 |cons r t ih =>
  cases n with
  |zero=>exact .nil
  |succ n=>exact .cons r (ih n)
theorem Vals.drop:∀{xs:List V} {us:B1} (n:Nat),Vals xs us->Vals (xs.drop n) (us.drop n)
 |_,_,0,r=>r
 |_,_,_+1,.nil=>.nil
 |_,_,n+1,.cons _ t=>Vals.drop n t
def RelO:Option V->B4->Prop
 |some v,some u=>RelV v u
 |none,none=>True
 |_,_=>False
def KV {κ:Type}:List (κ×V)->List (κ×Value)->Prop:=Paired λ(p:κ×V) (q:κ×Value)=>p.1=q.1/\RelV p.2 q.2
noncomputable def kV:_j->V
 |.inl i=>.int i
 |.inr x=>.str x
inductive HO where
 |lst (xs:List V)
 |tup (xs:List V)
 |dK (kvs:List (_j×V))|dT (kvs:List (List _j×V))
 |set (S:Int->Bool) (n:Nat)
 |ins (C dx:Addr) (fs:List (Str×V))
 |own (x:Addr)
 |xd (fs:List (Str×V))
 |met (f x:Addr)
 |rng (lo hi:Int)
 |frz (o:Obj) (u:HO)
 |tbl (ps:B6)
 |ext (φ:Heap->Prop)
abbrev Hp:=Addr->Option HO
noncomputable def _d (H:Hp) (a:Addr) (o:HO):Hp:=λb=>if b=a then some o else H b
theorem _k:_d H a o a=some o:=by unfold _d;rw[Qb rfl]
theorem _l (h:b≠a):_d H a o b=H b:=by unfold _d;rw[Qa h]
theorem _fr {u:HO} (h:H a=some o) (h':H b=some u) (d:o≠u):a≠b:=by
 intro e;subst e;rw[h] at h';exact d (Qt h')
theorem _P (h:H a=some o) (h':H b=none):a≠b:=by
 intro e;subst e;rw[h] at h';cases h'
section
variable(P:Program) (w:World)
def ObjOk (H:Hp) (h:Heap) (a:Addr):HO->Prop
 |.lst xs=>xs.length<=sizeLine/\∃(its:B1) (n:Nat),Vals xs its/\h.get? a=some { cls:=.type "list",data:=.seq its.toArray n }
 |.tup xs=>xs.length<=sizeLine/\∃its:B1,Vals xs its/\IsTup h a its.toArray
 |.dK kvs=>kvs.length<=sizeLine/\(a==sysModules)=false/\∃vs,KV kvs vs/\h.DictOf (Ys P w) a vs
 |.dT kvs => kvs.length <= sizeLine /\ (a==sysModules)=false /\ ∃xs : List (List _j×Addr×Value),
   Paired (λ(p:List _j×V) (q:List _j×Addr×Value)=>p.1=q.1/\H q.2.1=some (.tup (p.1.map kV))/\RelV p.2 q.2.2) kvs xs /\
   ∃o es ep,h.get? a=some o/\o.ExactDict/\o.data=.dict es ep/\es.toList=xs.map (entryOfKey (tupleKind (Ys P w)))/\(xs.map (·.1)).Nodup
 |.set S n=>h.SetOf (intKind P w) a S n
 |.ins C dx fs => H dx=some (.own a) /\ fs.length <= 1000 /\ dx ≠ a /\ h.get? a=some (W.instObj C dx) /\
   ∃mA,h.Ns1 dx mA/\(∀f,RelO (fs.lookup f) (mA f))/\PySem.Within mA (fs.map (·.1))
 |.own _=>∃o,h.get? a=some o
 |.xd fs=>∃mA,h.Ns1 a mA/\∀f,RelO (fs.lookup f) (mA f)
 |.rng lo hi=>∃t u v,h.get? a=some { cls:=.type "range",data:=.fields #[.int lo t,.int hi u,.int 1 v] }
 |.frz o u=>h.get? a=some o/\ObjOk H h a u
 |.tbl ps=>h.get? a=some { cls:=.none,data:=.fields ps }
 |.met f x=>h.get? a=some (W.methodObj (.ref f) (.ref x))
 |.ext φ=>φ h/\(∃o,h.get? a=some o)/\∀h1 h2:Heap,φ h1->(∀o,h1.get? a=some o->h2.get? a=some o)->φ h2
def HOk (H:Hp) (h:Heap):Prop:=∀a o,H a=some o->ObjOk P w H h a o
end
section
variable{w:World}
theorem ObjOk.lt (x:ObjOk P w H h a o):a<h.objs.size:=by
 cases o with
 |lst xs=>obtain⟨_,_,_,_,e⟩:=x;exact Qo e
 |tup xs=>obtain⟨_,_,_,p⟩:=x;exact p.lt
 |dK kvs=>obtain⟨_,_,_,_,o,_,_,e,_⟩:=x;exact Qo e
 |dT kvs=>obtain⟨_,_,_,_,o,_,_,e,_⟩:=x;exact Qo e
 |set S n=>obtain⟨o,_,_,_,e,_⟩:=x;exact Qo e
 |ins C dx fs=>obtain⟨_,_,_,e,_⟩:=x;exact Qo e
 |own y=>obtain⟨_,e⟩:=x;exact Qo e
 |xd fs=>obtain⟨_,⟨_,_,_,e,_⟩,_⟩:=x;exact Qo e
 |rng lo hi=>obtain⟨_,_,_,e⟩:=x;exact Qo e
 |frz ob u=>obtain⟨e,_⟩:=x;exact Qo e
 |tbl ps=>exact Qo (show h.get? a=some _ from x)
 |met f y=>exact Qo (show h.get? a=some _ from x)
 |ext φ=>obtain⟨_,⟨_,e⟩,_⟩:=x;exact Qo e
theorem Paired.mapP {α β:Type} {F G:α->β->Prop} {l₁:List α} {l₂:List β} (h:Paired F l₁ l₂) (f:∀a b,F a b->G a b):Paired G l₁ l₂:=by
 induction h with
 |nil=>exact .nil
 |cons r t ih=>exact .cons (f _ _ r) ih
theorem ObjOk.stay (x:ObjOk P w H h a o) (k:∀b u,(b=a\/H b=some (.own a))->h.get? b=some u->h'.get? b=some u)
 (ho:∀b,H b=some (.own a)->H' b=some (.own a)) (ht:∀b xs,H b=some (.tup xs)->H' b=some (.tup xs)):ObjOk P w H' h' a o:=by
 induction o with
 |lst xs=>obtain⟨z,its,n,r,e⟩:=x;exact⟨z,its,n,r,k _ _ (.inl rfl) e⟩
 |tup xs=>obtain⟨z,its,r,ob,e,c⟩:=x;exact⟨z,its,r,ob,k _ _ (.inl rfl) e,c⟩
 |dK kvs=>obtain⟨z,y,vs,r,ob,es,ep,e,c⟩:=x;exact⟨z,y,vs,r,ob,es,ep,k _ _ (.inl rfl) e,c⟩
 |dT kvs =>
  obtain⟨z,y,xs,r,ob,es,ep,e,c⟩:=x;exact⟨z,y,xs,Paired.mapP r λp q z=>⟨z.1,ht _ _ z.2.1,z.2.2⟩,ob,es,ep,k _ _ (.inl rfl) e,c⟩
 |set S n=>obtain⟨ob,es,ep,t,e,c⟩:=x;exact⟨ob,es,ep,t,k _ _ (.inl rfl) e,c⟩
 |ins C dx fs =>
  obtain⟨d,z,ne,e,mA,⟨od,es,ep,e2,c⟩,r⟩:=x;exact⟨ho _ d,z,ne,k _ _ (.inl rfl) e,mA,⟨od,es,ep,k _ _ (.inr d) e2,c⟩,r⟩
 |own y=>obtain⟨ob,e⟩:=x;exact⟨ob,k _ _ (.inl rfl) e⟩
 |xd fs=>obtain⟨mA,⟨od,es,ep,e,c⟩,r⟩:=x;exact⟨mA,⟨od,es,ep,k _ _ (.inl rfl) e,c⟩,r⟩
 |rng lo hi=>obtain⟨t,u,v,e⟩:=x;exact⟨t,u,v,k _ _ (.inl rfl) e⟩
 |frz ob u ih=>obtain⟨e,q⟩:=x;exact⟨k _ _ (.inl rfl) e,ih q⟩
 |tbl ps =>
  have e:h.get? a=some { cls:=.none,data:=.fields ps }:=x;show h'.get? a=some { cls:=.none,data:=.fields ps };exact k a _ (.inl rfl) e
 |met f y =>
  have e:h.get? a=some (W.methodObj (.ref f) (.ref y)):=x;show h'.get? a=some (W.methodObj (.ref f) (.ref y));exact k a _ (.inl rfl) e
 |ext φ=>obtain⟨p,⟨o,e⟩,st⟩:=x;exact⟨st _ _ p λo q=>k _ _ (.inl rfl) q,⟨o,k _ _ (.inl rfl) e⟩,st⟩
theorem HOk.lt (x:HOk P w H h) (e:H a=some o):a<h.objs.size:=(x a o e).lt
theorem HOk.fresh (x:HOk P w H h) (e:h.objs.size<=a):H a=none:=by
 cases q:H a with
 |none=>rfl
 |some u=>exact absurd (QJ (x.lt q) e) (Rx _)
theorem HOk.kept (x:HOk P w H h) (k:∀b u,h.get? b=some u->h'.get? b=some u):HOk P w H h':=λa o e =>
 (x a o e).stay (λb u _ q=>k b u q) (λ_ q=>q) λ_ _ q=>q
theorem HOk.laid (x:HOk P w H h) (k:∀b u,h.get? b=some u->h'.get? b=some u) (hp:h.objs.size<=a) (new:ObjOk P w (_d H a o) h' a o):HOk P w (_d H a o) h':=λb u e=>by
 have hn:=x.fresh hp;by_cases hb:b=a
 ·subst hb;rw[_k] at e;cases e;exact new
 ·rw[_l hb] at e;exact(x b u e).stay (λc v _ q=>k c v q) (λc q=>by rw[_l (_P q hn)];exact q) λc xs q=>by rw[_l (_P q hn)];exact q
end
def Rd (H:Hp) (a:Addr) (u:HO):Prop:=H a=some u\/∃o,H a=some (.frz o u)
theorem Rd.ok {w:World} {u:HO} (r:Rd H a u) (x:HOk P w H h):ObjOk P w H h a u:=by
 rcases r with r|⟨o,r⟩
 ·exact x a u r
 ·obtain⟨_,q⟩:=x a _ r;exact q
def Uw:Option HO->Prop
 |some (.lst _)=>True
 |some (.dK _)=>True
 |some (.dT _)=>True
 |some (.set _ _)=>True
 |some (.ins _ _ _)=>True
 |some (.ext _)=>True
 |_=>False
section
variable{w:World} {x e:Addr} {o':HO}
theorem HOk.write (ok:HOk P w H h) (mu:Uw (H x)) (he:e=x\/H e=some (.own x)) (k:∀b u,b≠e->h.get? b=some u->h'.get? b=some u) (heo:∃u,h'.get? e=some u)
 (new:ObjOk P w (_d H x o') h' x o'):HOk P w (_d H x o') h':=λb u q=>by
 have nown:∀c y,H c=some (.own y)->c≠x:=λc y r z=>by subst z;rw[r] at mu;exact mu
 have ntup:∀c xs,H c=some (.tup xs)->c≠x:=λc xs r z=>by subst z;rw[r] at mu;exact mu
 by_cases hb:b=x
 ·subst hb;rw[_k] at q;cases q;exact new
 ·rw[_l hb] at q;by_cases hbe:b=e
  ·have q':H b=some (.own x):=by
    rcases he with z|z
    ·exact absurd (hbe.trans z) hb
    ·rw[hbe];exact z
   rw[q] at q';cases q';obtain⟨v,hv⟩:=heo;exact⟨v,by rw[hbe];exact hv⟩
  ·refine(ok b u q).stay (λc v hc r=>k c v ?_ r) (λc r=>by rw[_l (nown c b r)];exact r) λc xs r=>by rw[_l (ntup c xs r)];exact r
   rcases hc with rfl|hc
   ·exact hbe
   ·rintro rfl;rcases he with z|z
    ·exact nown c b hc z
    ·rw[hc] at z;cases z;exact hb rfl
end
structure Un (fs ex:B5) (H H':Hp) (h h':Heap):Prop where
 keep:∀b o,h.get? b=some o->H b=none->b∉fs->b∉ex->h'.get? b=some o
 slot:∀b o,h.get? b=some o->H b=none->b∈fs->b∉ex->∃sl,h'.get? b=some { o with slots:=sl }
 free:∀b o,h.get? b=some o->H b=none->b∉ex->H' b=none
 there:∀b o,h.get? b=some o->b∉ex->∃o',h'.get? b=some o'
 tups:∀b xs,H b=some (.tup xs)->H' b=some (.tup xs)
 frzs:∀b o u,H b=some (.frz o u)->H' b=some (.frz o u)
 tbls:∀b ps,H b=some (.tbl ps)->∃more,H' b=some (.tbl (ps++more))
section
variable{fs fs' ex ex':B5} {H1 H2:Hp} {h1 h2:Heap} {x e:Addr}
theorem Un.any (u:Un fs ex H H1 h h1) {ob:Obj} (q:h.get? b=some ob) (n:H b=none) (hx:b∉ex):∃sl,h1.get? b=some { ob with slots:=sl }:=by
 by_cases hb:b∈fs
 ·exact u.slot b ob q n hb hx
 ·exact⟨ob.slots,u.keep b ob q n hb hx⟩
theorem Un.kept (k:∀b u,h.get? b=some u->h'.get? b=some u):Un fs ex H H h h' :=
 ⟨λb ob q _ _ _=>k b ob q,λb ob q _ _ _=>⟨ob.slots,k b ob q⟩,λ_ _ _ n _=>n,λb ob q _=>⟨ob,k b ob q⟩,λ_ _ q=>q,λ_ _ _ q=>q,λ_ ps q=>⟨#[],by rw[q];simp⟩⟩
theorem Un.refl:Un fs ex H H h h:=Un.kept λ_ _ q=>q
theorem Un.laid (k:∀b u,h.get? b=some u->h'.get? b=some u) (hp:h.objs.size<=a) (hn:H a=none):Un fs ex H (_d H a o) h h' where
 keep:=λb u q _ _ _=>k b u q
 slot:=λb u q _ _ _=>⟨u.slots,k b u q⟩
 free:=λb u q n _=>by rw[_l (QA (QJ (Qo q) hp))];exact n
 there:=λb u q _=>⟨u,k b u q⟩
 tups:=λb xs q=>by rw[_l (_P q hn)];exact q
 frzs:=λb u xs q=>by rw[_l (_P q hn)];exact q
 tbls:=λb ps q=>⟨#[],by rw[_l (_P q hn),q];simp⟩
theorem Un.write (mu:Uw (H x)) (he:e=x\/H e=some (.own x)) (k:∀b u,b≠e->h.get? b=some u->h'.get? b=some u) (heo:∃u,h'.get? e=some u):Un fs ex H (_d H x o) h h':=by
 have hx:∀b,H b=none->b≠x:=λb n z=>by subst z;rw[n] at mu;exact mu
 have hb:∀b,H b=none->b≠e:=λb n z=>by
  subst z;rcases he with r|r
  ·exact hx b n r
  ·rw[n] at r;cases r
 have hm:∀b u,H b=some u->¬Uw (some u)->b≠x:=λb u q nm z=>by subst z;rw[q] at mu;exact nm mu
 refine⟨λb u q n _ _=>k b u (hb b n) q,λb u q n _ _=>⟨u.slots,k b u (hb b n) q⟩,λb u q n _=>by rw[_l (hx b n)];exact n,λb u q _=>?_,
  λb xs q=>by rw[_l (hm b _ q λz=>z)];exact q,λb u xs q=>by rw[_l (hm b _ q λz=>z)];exact q,λb ps q=>⟨#[],by rw[_l (hm b _ q λz=>z),q];simp⟩⟩
 by_cases hbe:b=e
 ·subst hbe;exact heo
 ·exact⟨u,k b u hbe q⟩
end
noncomputable def trk (h:Heap) (H:Hp):B5:=(List.range h.objs.size).filter λa=>(H a).isSome
noncomputable def WG (h:Heap) (H:Hp):Heap:=W.hideAll h (trk h H)
theorem _g1 (h:Heap) (H:Hp):(WG h H).objs.size=h.objs.size:=W.hideAll_size _ _
theorem _np {o:Obj} (e:h.get? b=some o) (n:H b=none):(WG h H).get? b=some o :=
 W.hideAll_get _ e λhm=>by
  have q:(H b).isSome=true:=(QL.mp hm).2;rw[n] at q;simp at q
theorem _jS {o:Obj} (e:(WG h H).get? b=some o):h.get? b=some o/\H b=none:=by
 have e':h.get? b=some o:=W.of_hideAll (trk h H) e;refine⟨e',?_⟩;cases q:H b with
 |none=>rfl
 |some x =>
  have hm:b∈trk h H:=QL.mpr ⟨NK.mpr (Qo e'),by simp[q]⟩;have z:(WG h H).get? b=none:=W.hideAll_none (trk h H) hm;rw[z] at e;cases e
structure Mod (K:W.Frag) (mg:Str->B4) (base:Heap):Prop where
 kin:K.In base
 glob:base.Ns mainGlobals mg
 blt:∃mb,base.Ns builtinsNs mb/\∀x:Str,x≠"__name__"->mb x=bootBuiltins x
 nolimit:base.NoLimit
structure Cx where
 prog:Program
 w:World
 K:W.Frag
 mg:Str->B4
 base:Heap
 A:Around
 N:A9
 s₀:Shared
 H₀:Hp
 env:Env
 outer:C4
 stack:C4
 ex:B5
 fn:Str->Bool
 calm:Bool
 pn:A4
 xe:Value->Shared->Prop
noncomputable def Yv (l:C4):B5:=l.filterMap (·.frame)
noncomputable abbrev Cx.fs (X:Cx):B5:=Yv X.outer
def Uo (sc:Scope) (x:Str):Prop:=sc.names.lookup x=some .local\/sc.names.lookup x=some .cell\/sc.names.lookup x=some .free
def Vo (sc:Scope) (x:Str):Prop:=sc.names.lookup x=some .local\/sc.names.lookup x=some .cell
def _n5 (env:Env) (h:Heap) (m:Str->B4) (x:Str) (u:Value):Prop :=
 (env.kindOf x=some .local/\m x=some u)\/((env.kindOf x=some .cell\/env.kindOf x=some .free)/\∃c,env.cells.lookup x=some c/\h.IsCell c (some u))
structure Cx.Ok (X:Cx):Prop where
 mod:Mod X.K X.mg X.base
 kind:X.env.scope.kind=.function
 glob:X.env.globals=mainGlobals
 blt:X.env.builtins=builtinsNs
 above:X.s₀.heap.objs.size<=X.env.locals
 inj:∀x y c,X.env.cells.lookup x=some c->X.env.cells.lookup y=some c->x=y
 has:∀x,(X.env.kindOf x=some .cell\/X.env.kindOf x=some .free)->∃c,X.env.cells.lookup x=some c
 cab:∀x c,X.fn x=true->X.env.cells.lookup x=some c->X.s₀.heap.objs.size<=c
 hd:X.calm=true->X.A.handled=none
 frames:X.A.frames=some X.stack
 stk:X.stack=X.outer\/(X.stack=X.env::X.outer/\X.env.frame=some X.env.locals)
 exf:∀b∈X.ex,b≠X.env.locals/\∀x c,X.env.cells.lookup x=some c->c≠b
 bs:∀b o,X.base.get? b=some o->X.s₀.heap.get? b=some o/\X.H₀ b=none
 bsz:X.base.objs.size<=X.s₀.heap.objs.size
 noex:∀b o,X.base.get? b=some o->b∉X.ex
 exfs:∀b∈X.ex,b∉X.fs
 funs:X.s₀.heap.FunFrames X.base X.outer
 frf:∀b∈X.fs,X.H₀ b=none
structure Inv (X:Cx) (pins:A4) (U:List (Option V)) (H:Hp) (s:Shared):Prop where
 ok:X.Ok
 os:s.os=X.s₀.os
 bare:AllBare s.gens
 base:Un X.fs X.ex X.H₀ H X.s₀.heap s.heap
 loc:∃m,s.heap.Ns X.env.locals m/\∀(i:Nat) (x:Str) (v:V),X.N[i]?=some x->U[i]?=some (some v)->Uo X.env.scope x->∃u,RelV v u/\_n5 X.env s.heap m x u
 cell:∀x c,X.env.cells.lookup x=some c->∃v,s.heap.IsCell c v
 free:H X.env.locals=none
 freeC:∀x c,X.env.cells.lookup x=some c->H c=none
 pin:∀p∈X.pn++pins,s.heap.get? p.1=some p.2/\H p.1=none/\p.1≠X.env.locals/\p.1∉X.fs/\∀v,p.2.data≠.cell v
 hok:HOk X.prog X.w H s.heap
 len:U.length=X.N.length
section
variable{U:List (Option V)}
theorem Cx.Ok.nofr (ok:X.Ok) {o:Obj} (e:X.base.get? b=some o):b∉X.fs:=λhb=>by
 have:=(ok.funs.mem hb).1;rw[e] at this;cases this
theorem Inv.bs (I:Inv X pins U H s):∀b o,X.base.get? b=some o->s.heap.get? b=some o/\H b=none:=λb o e =>
 ⟨I.base.keep b o (I.ok.bs b o e).1 (I.ok.bs b o e).2 (I.ok.nofr e) (I.ok.noex b o e),I.base.free b o (I.ok.bs b o e).1 (I.ok.bs b o e).2 (I.ok.noex b o e)⟩
theorem Inv.bk (I:Inv X pins U H s):∀b o,X.base.get? b=some o->s.heap.get? b=some o:=λb o e=>(I.bs b o e).1
theorem Inv.mod (I:Inv X pins U H s):Mod X.K X.mg X.base:=I.ok.mod
theorem Inv.kIn (I:Inv X pins U H s):X.K.In s.heap:=I.ok.mod.kin.keeps I.bk
theorem Inv.lt (I:Inv X pins U H s):X.env.locals<s.heap.objs.size:=let ⟨_,hn,_⟩:=I.loc;hn.lt
theorem Inv.sz (I:Inv X pins U H s):X.s₀.heap.objs.size<=s.heap.objs.size:=Qs I.ok.above (Ra I.lt)
theorem Inv.nofs (I:Inv X pins U H s) (h:s.heap.objs.size<=a):a∉X.fs:=λhb=>by
 obtain⟨_,o,ho,_⟩:=I.ok.funs.mem hb;exact absurd (QJ (Qo ho) (Qs I.sz h)) (Rx _)
theorem Inv.cne (I:Inv X pins U H s):∀x c,X.env.cells.lookup x=some c->c≠X.env.locals:=λx c e z=>by
 obtain⟨v,o,ho,hd⟩:=I.cell x c e;obtain⟨m,⟨o',es,ep,ho',hd',_⟩,_⟩:=I.loc;rw[z,ho'] at ho;cases ho;rw[hd'] at hd;cases hd
theorem Inv.funs (I:Inv X pins U H s):s.heap.FunFrames X.base X.outer:=by
 have all:∀(l:C4),(∀b∈Yv l,b∈X.fs)->X.s₀.heap.FunFrames X.base l->s.heap.FunFrames X.base l:=by
  intro l
  induction l with
  |nil=>intro _ _;trivial
  |cons env r ih =>
   intro hs hl;obtain⟨hk,⟨L,o,hf,hn,ho,hd⟩,hr⟩:=hl;have hL:L∈X.fs:=hs L (by unfold Yv;rw[QQ,hf];exact Qy);obtain⟨sl,e⟩:=I.base.slot L o ho (I.ok.frf L hL) hL λz=>I.ok.exfs L z hL;exact⟨hk,⟨L,_,hf,hn,e,hd⟩,ih (λb hb=>hs b (by unfold Yv;rw[QQ,hf];exact QB _ hb)) hr⟩
 exact all X.outer (λ_ hb=>hb) I.ok.funs
theorem Inv.stack (I:Inv X pins U H s):s.heap.FunFrames X.base X.stack:=by
 rcases I.ok.stk with e|⟨e,hf⟩
 ·rw[e];exact I.funs
 ·rw[e];obtain⟨m,hn,_⟩:=I.loc;refine .cons (by rw[I.ok.kind];decide) hf hn ?_ I.funs;exact Heap.get?_none_of_le (Qs I.ok.bsz I.ok.above)
theorem Inv.stkSub (I:Inv X pins U H s):∀b∈Yv X.stack,b∈X.env.locals::X.fs:=λb hb=>by
 rcases I.ok.stk with e|⟨e,hf⟩
 ·rw[e] at hb;exact QB _ hb
 ·rw[e] at hb;unfold Yv at hb;rw[QQ,hf] at hb;exact hb
theorem Inv.stkFree (I:Inv X pins U H s):∀b∈Yv X.stack,H b=none:=λb hb=>by
 rcases Qk.mp (I.stkSub b hb) with e|hb
 ·rw[e];exact I.free
 ·obtain⟨_,o,ho,_⟩:=I.ok.funs.mem hb;exact I.base.free b o ho (I.ok.frf b hb) λz=>I.ok.exfs b z hb
theorem Inv.step {g':Array GenState} {d':Drawn} (I:Inv X pins U H s)
 (hch:∀b∈ch,(b∈X.ex\/X.s₀.heap.objs.size<=b)/\b≠X.env.locals/\(∀x c,X.env.cells.lookup x=some c->c≠b)/\∀p∈X.pn++pins,p.1≠b)
 (keep:∀b o,b≠X.env.locals->b∉X.fs->b∉ch->s.heap.get? b=some o->H b=none->h'.get? b=some o)
 (slot:∀b o,b≠X.env.locals->b∈X.fs->b∉ch->s.heap.get? b=some o->H b=none->∃sl,h'.get? b=some { o with slots:=sl }) (free:∀b o,b∉ch->s.heap.get? b=some o->H b=none->H' b=none)
 (there:∀b o,b∉ch->s.heap.get? b=some o->∃o',h'.get? b=some o')
 (tups:∀b xs,H b=some (.tup xs)->H' b=some (.tup xs)) (frzs:∀b o u,H b=some (.frz o u)->H' b=some (.frz o u)) (tbls:∀b ps,H b=some (.tbl ps)->∃more,H' b=some (.tbl (ps++more)))
 (ns:∀m,s.heap.Ns X.env.locals m->h'.Ns X.env.locals m) (hok:HOk X.prog X.w H' h') (hg:AllBare g') :
  Inv X pins U H' { s with heap:=h',gens:=g',drawn:=d',toks:=t' }:=by
 have neL:∀b o,X.s₀.heap.get? b=some o->b≠X.env.locals:=λb o e=>QA (QJ (Qo e) I.ok.above)
 have neC:∀b o,X.s₀.heap.get? b=some o->b∉X.ex->b∉ch:=λb o e hx hb=>by
  rcases(hch b hb).1 with z|z
  ·exact hx z
  ·exact absurd (QJ (Qo e) z) (Rx _)
 have cellK:∀x c,X.env.cells.lookup x=some c->∀v,s.heap.IsCell c v->h'.IsCell c v:=λx c e v zq=>by
  obtain⟨o,ho,hd⟩:=zq;have nch:c∉ch:=λz=>(hch c z).2.2.1 x c e rfl;by_cases hc:c∈X.fs
  ·obtain⟨sl,q⟩:=slot c o (I.cne x c e) hc nch ho (I.freeC x c e);exact⟨_,q,hd⟩
  ·exact⟨o,keep c o (I.cne x c e) hc nch ho (I.freeC x c e),hd⟩
 refine⟨I.ok,I.os,hg,⟨λb o e n hb hx=>?_,λb o e n hb hx=>?_,λb o e n hx=>?_,λb o e hx=>?_,λb xs e=>tups b xs (I.base.tups b xs e),λb o xs e=>frzs b o xs (I.base.frzs b o xs e),λb ps e=>?_⟩,?_,λx c e=>?_,?_,λx c e=>?_,λp hp=>?_,hok,I.len⟩
 ·exact keep b o (neL b o e) hb (neC b o e hx) (I.base.keep b o e n hb hx) (I.base.free b o e n hx)
 ·obtain⟨sl,e1⟩:=I.base.slot b o e n hb hx;obtain⟨sl',e2⟩:=slot b _ (neL b o e) hb (neC b o e hx) e1 (I.base.free b o e n hx);exact⟨sl',e2⟩
 ·obtain⟨o',e1⟩:=I.base.there b o e hx;exact free b o' (neC b o e hx) e1 (I.base.free b o e n hx)
 ·obtain⟨o',e1⟩:=I.base.there b o e hx;exact there b o' (neC b o e hx) e1
 ·obtain⟨m1,e1⟩:=I.base.tbls b ps e;obtain⟨m2,e2⟩:=tbls b _ e1;exact⟨m1++m2,by rw[e2,Array.append_assoc]⟩
 ·obtain⟨m,hn,hl⟩:=I.loc;refine⟨m,ns m hn,λi x v e1 e2 e3=>?_⟩;obtain⟨u,r,l⟩:=hl i x v e1 e2 e3;refine⟨u,r,?_⟩;rcases l with l|⟨k,c,e,z⟩
  ·exact .inl l
  ·exact .inr ⟨k,c,e,cellK x c e _ z⟩
 ·obtain⟨v,z⟩:=I.cell x c e;exact⟨v,cellK x c e v z⟩
 ·obtain⟨m,⟨o,_,_,ho,_⟩,_⟩:=I.loc;exact free _ o (λz=>(hch _ z).2.1 rfl) ho I.free
 ·obtain⟨v,o,ho,hd⟩:=I.cell x c e;exact free c o (λz=>(hch c z).2.2.1 x c e rfl) ho (I.freeC x c e)
 ·obtain⟨e,n,ne,nf,d⟩:=I.pin p hp;have nch:p.1∉ch:=λz=>(hch p.1 z).2.2.2 p hp rfl;exact⟨keep p.1 p.2 ne nf nch e n,free p.1 p.2 nch e n,ne,nf,d⟩
theorem Inv.un (I:Inv X pins U H s) (u:Un X.fs [] H H' s.heap h') (hok:HOk X.prog X.w H' h'):Inv X pins U H' { s with heap:=h',toks:=t' }:=by
 obtain⟨m,⟨o,es,ep,ho,r⟩,_⟩:=id I.loc;obtain⟨sl,hL⟩:=u.any ho I.free (by simp)
 exact I.step (g':=s.gens) (d':=s.drawn) (ch:=[]) (λ_ z=>nomatch z) (λb o _ hb _ e n=>u.keep b o e n hb (by simp)) (λb o _ hb _ e n=>u.slot b o e n hb (by simp)) (λb o _ e n=>u.free b o e n (by simp)) (λb o _ e=>u.there b o e (by simp)) u.tups u.frzs u.tbls (λm' hm=>by
  obtain⟨o',es',ep',ho',r'⟩:=hm;rw[ho] at ho';cases ho';exact⟨_,es',ep',hL,r'⟩) hok I.bare
theorem Inv.call {g':Array GenState} {d':Drawn} (I:Inv X pins U H s) (u:Un (Yv X.stack) ch H H' s.heap h') (hok:HOk X.prog X.w H' h') (hg:AllBare g')
 (hch:∀b∈ch,(b∈X.ex\/X.s₀.heap.objs.size<=b)/\b≠X.env.locals/\(∀x c,X.env.cells.lookup x=some c->c≠b)/\∀p∈X.pn++pins,p.1≠b) :
  Inv X pins U H' { s with heap:=h',gens:=g',drawn:=d',toks:=t' }:=by
 obtain⟨m,⟨o,es,ep,ho,r⟩,_⟩:=id I.loc;obtain⟨sl,hL⟩:=u.any ho I.free λz=>(hch _ z).2.1 rfl
 exact I.step (ch:=ch) hch (λb o hL hb hc e n=>u.keep b o e n (λz=>(Qk.mp (I.stkSub b z)).elim hL hb) hc) (λb o _ _ hc e n=>u.any e n hc) (λb o hc e n=>u.free b o e n hc) (λb o hc e=>u.there b o e hc) u.tups u.frzs u.tbls (λm' hm=>by
  obtain⟨o',es',ep',ho',r'⟩:=hm;rw[ho] at ho';cases ho';exact⟨_,es',ep',hL,r'⟩) hok hg
theorem Inv.turned {it:Addr} (I:Inv X pins U H s) (k:∀b o,b≠it->s.heap.get? b=some o->h'.get? b=some o) (hn:H it=none) (hL:it≠X.env.locals)
 (h1:it∈X.ex\/X.s₀.heap.objs.size<=it) (h2:∀x c,X.env.cells.lookup x=some c->c≠it) (h3:∀p∈X.pn++pins,p.1≠it):Inv X pins U H { s with heap:=h',toks:=t' }:=by
 have nit:∀b u,H b=some u->b≠it:=λb u e z=>by rw[z,hn] at e;cases e
 refine I.step (g':=s.gens) (d':=s.drawn) (ch:=[it]) (λb hb=>?_) (λb o _ _ hc e _=>k b o (λz=>hc (by simp[z])) e) (λb o _ _ hc e _=>⟨o.slots,k b o (λz=>hc (by simp[z])) e⟩) (λ_ _ _ _ n=>n)
  (λb o hc e=>⟨o,k b o (λz=>hc (by simp[z])) e⟩) (λ_ _ e=>e) (λ_ _ _ e=>e) (λb ps e=>⟨#[],by rw[e];simp⟩) (λm hm=>?_) (λb u e=>?_) I.bare
 ·have e:b=it:=by simpa using hb
  subst e;exact⟨h1,hL,h2,h3⟩
 ·obtain⟨o,es,ep,ho,r⟩:=hm;exact⟨o,es,ep,k _ o (QM hL) ho,r⟩
 ·refine(I.hok b u e).stay (λc v hc q=>k c v ?_ q) (λ_ q=>q) λ_ _ q=>q;rcases hc with z|z
  ·rw[z];exact nit b u e
  ·exact nit c _ z
theorem Inv.tok (I:Inv X pins U H s) (t:Nat):Inv X pins U H { s with toks:=t }:=I.un (h':=s.heap) (t':=t) Un.refl I.hok
theorem Inv.kept (I:Inv X pins U H s) (k:∀b u,s.heap.get? b=some u->h'.get? b=some u):Inv X pins U H { s with heap:=h',toks:=t' }:=I.un (Un.kept k) (I.hok.kept k)
theorem Inv.laid (I:Inv X pins U H s) (k:∀b u,s.heap.get? b=some u->h'.get? b=some u) (hp:s.heap.objs.size<=a) (new:ObjOk X.prog X.w (_d H a o) h' a o) :
  Inv X pins U (_d H a o) { s with heap:=h',toks:=t' }:=I.un (Un.laid k hp (I.hok.fresh hp)) (I.hok.laid k hp new)
theorem Inv.write {x e:Addr} (I:Inv X pins U H s) (mu:Uw (H x)) (he:e=x\/H e=some (.own x)) (k:∀b u,b≠e->s.heap.get? b=some u->h'.get? b=some u) (heo:∃u,h'.get? e=some u)
 (new:ObjOk X.prog X.w (_d H x o) h' x o):Inv X pins U (_d H x o) { s with heap:=h',toks:=t' }:=I.un (Un.write mu he k heo) (I.hok.write mu he k heo new)
theorem Inv.pins_of {pins':A4} (I:Inv X pins U H s) (h:∀p∈pins',s.heap.get? p.1=some p.2/\H p.1=none/\p.1≠X.env.locals/\p.1∉X.fs/\∀v,p.2.data≠.cell v):Inv X pins' U H s :=
 ⟨I.ok,I.os,I.bare,I.base,I.loc,I.cell,I.free,I.freeC,λp hp=>(Qn.mp hp).elim (λz=>I.pin p (QG _ z)) (h p),I.hok,I.len⟩
theorem _e2 (hN:N.Nodup) {j:Nat} (a:N[i]?=some x) (b:N[j]?=some x):i=j:=by
 obtain⟨h1,e1⟩:=QK.mp a;obtain⟨h2,e2⟩:=QK.mp b;exact(List.getElem_inj hN).mp (e1.trans e2.symm)
theorem _fs {Q:Unit->Shared->Prop} (I:Inv X pins U H s) (hN:X.N.Nodup) (hi:X.N[i]?=some x) (hx:Vo X.env.scope x) (r:RelV v u)
 (h:∀s',Inv X pins (U.set i (some v)) H s'->(∃a,Heap.SameBut a s.heap s'.heap/\(a=X.env.locals\/X.env.cells.lookup x=some a))->Q () s') (hf:X.fn x=true\/X.env.scope.names.lookup x=some .local:=by first|exact .inl rfl|exact .inr rfl|assumption):wpAny M A (storeName X.env x u) Q E s:=by
 obtain⟨m,hn,hl⟩:=id I.loc;have hcls:(X.env.scope.kind==.class||(X.env.scope.kind==.module&&X.env.locals != X.env.globals))=false:=by rw[I.ok.kind];rfl
 have hiσ:i<U.length:=by rw[I.len];exact(QK.mp hi).1
 have cne:=I.cne
 have tracked:∀{a:Addr} {h':Heap},(∃o,s.heap.get? a=some o/\H a=none)->Heap.SameBut a s.heap h'->HOk X.prog X.w H h':=λ{a h'} ha hs b ob e=>by
  obtain⟨_,_,hfree⟩:=ha;refine(I.hok b ob e).stay (λc w' hc q=>(hs.2 c ?_).trans q) (λ_ q=>q) λ_ _ q=>q;rintro rfl;rcases hc with rfl|hc
  ·rw[hfree] at e;cases e
  ·rw[hfree] at hc;cases hc
 rcases hx with hk|hk
 ·refine wpAny_storeName_local hk hn (λh' hn' hs=>?_) hcls;obtain⟨oL,_,_,hoL,_⟩:=id hn;refine h _ ⟨I.ok,I.os,I.bare,⟨λb o e n hb hx=>?_,λb o e n hb hx=>?_,I.base.free,λb o e hx=>?_,I.base.tups,I.base.frzs,I.base.tbls⟩,⟨_,hn',λj y v' e1 e2 e3=>?_⟩,λy c e=>?_,I.free,I.freeC,λp hp=>?_,tracked ⟨oL,hoL,I.free⟩ hs,by simpa using I.len⟩ ⟨_,hs,.inl rfl⟩
  ·exact(hs.2 b (QA (QJ (Qo e) I.ok.above))).trans (I.base.keep b o e n hb hx)
  ·obtain⟨sl,e1⟩:=I.base.slot b o e n hb hx;exact⟨sl,(hs.2 b (QA (QJ (Qo e) I.ok.above))).trans e1⟩
  ·obtain⟨o',e1⟩:=I.base.there b o e hx;exact⟨o',(hs.2 b (QA (QJ (Qo e) I.ok.above))).trans e1⟩
  ·by_cases hj:j=i
   ·subst hj;rw[hi] at e1;cases e1;rw[List.getElem?_set_self hiσ] at e2;cases e2;exact⟨u,r,.inl ⟨hk,by simp⟩⟩
   ·rw[List.getElem?_set_ne (QM hj)] at e2;obtain⟨u',r',q⟩:=hl j y v' e1 e2 e3;refine⟨u',r',?_⟩;rcases q with⟨k,e⟩|⟨k,c,e,z⟩
    ·refine .inl ⟨k,?_⟩;have:y≠x:=λe=>hj (_e2 hN e1 (e▸hi));simp[this,e]
    ·exact .inr ⟨k,c,e,z.sameBut hs (cne y c e)⟩
  ·obtain⟨w',z⟩:=I.cell y c e;exact⟨w',z.sameBut hs (cne y c e)⟩
  ·obtain⟨e,n,ne,nf,d⟩:=I.pin p hp;exact⟨(hs.2 p.1 ne).trans e,n,ne,nf,d⟩
 ·have hfn:X.fn x=true:=by
   rcases hf with z|z
   ·exact z
   ·rw[z] at hk;cases hk
  obtain⟨c,hc⟩:=I.ok.has x (.inl hk);obtain⟨w',z⟩:=I.cell x c hc;refine wpAny_storeName_cell I.ok.kind hk hc z (λh' hc' hs=>?_);obtain⟨oc,hoc,hocd⟩:=id z;refine h { s with heap:=h' } ⟨I.ok,I.os,I.bare,⟨λb o e n hb hx=>?_,λb o e n hb hx=>?_,I.base.free,λb o e hx=>?_,I.base.tups,I.base.frzs,I.base.tbls⟩,⟨m,hn.sameBut hs (QM (cne x c hc)),λj y v' e1 e2 e3=>?_⟩,λy c' e=>?_,I.free,I.freeC,λp hp=>?_,tracked ⟨oc,hoc,I.freeC x c hc⟩ hs,by simpa using I.len⟩ ⟨c,hs,.inr hc⟩
  ·exact(hs.2 b (QA (QJ (Qo e) (I.ok.cab x c hfn hc)))).trans (I.base.keep b o e n hb hx)
  ·obtain⟨sl,e1⟩:=I.base.slot b o e n hb hx;exact⟨sl,(hs.2 b (QA (QJ (Qo e) (I.ok.cab x c hfn hc)))).trans e1⟩
  ·obtain⟨o',e1⟩:=I.base.there b o e hx;exact⟨o',(hs.2 b (QA (QJ (Qo e) (I.ok.cab x c hfn hc)))).trans e1⟩
  ·by_cases hj:j=i
   ·subst hj;rw[hi] at e1;cases e1;rw[List.getElem?_set_self hiσ] at e2;cases e2;exact⟨u,r,.inr ⟨.inl hk,c,hc,hc'⟩⟩
   ·rw[List.getElem?_set_ne (QM hj)] at e2;obtain⟨u',r',q⟩:=hl j y v' e1 e2 e3;refine⟨u',r',?_⟩;rcases q with q|⟨k,c',e,z'⟩
    ·exact .inl q
    ·refine .inr ⟨k,c',e,z'.sameBut hs ?_⟩;rintro rfl;exact hj (_e2 hN e1 (I.ok.inj _ _ _ e hc▸hi))
  ·by_cases hcc:c'=c
   ·subst hcc;exact⟨_,hc'⟩
   ·obtain⟨w2,z2⟩:=I.cell y c' e;exact⟨w2,z2.sameBut hs hcc⟩
  ·obtain⟨e,n,ne,nf,d⟩:=I.pin p hp;refine⟨(hs.2 p.1 ?_).trans e,n,ne,nf,d⟩;intro q;rw[q,hoc] at e;have q':oc=p.2:=Qt e;exact d w' (by rw[<-q'];exact hocd)
theorem _ea {Q:Unit->Shared->Prop} (I:Inv X pins U H s) (hN:X.N.Nodup) (hi:X.N[i]?=some x) (hx:Vo X.env.scope x) (r:RelV v u)
 (h:∀s',Inv X pins (U.set i (some v)) H s'->Q () s') (hf:X.fn x=true\/X.env.scope.names.lookup x=some .local:=by first|exact .inl rfl|exact .inr rfl|assumption):wpAny M A (storeName X.env x u) Q E s :=
 _fs I hN hi hx r (λs' I' _=>h s' I') hf
theorem Inv.call' {s':Shared} (I:Inv X pins U H s) (ho:s'.os=s.os) (u:Un (Yv X.stack) ch H H' s.heap s'.heap) (hok:HOk X.prog X.w H' s'.heap) (hg:AllBare s'.gens)
 (hch:∀b∈ch,(b∈X.ex\/X.s₀.heap.objs.size<=b)/\b≠X.env.locals/\(∀x c,X.env.cells.lookup x=some c->c≠b)/\∀p∈X.pn++pins,p.1≠b):Inv X pins U H' s':=by
 obtain⟨h',g',d',t',o'⟩:=s';have e:o'=s.os:=ho;subst e;exact I.call (g':=g') (t':=t') (d':=d') u hok hg hch
end
abbrev XK:=Value->B9->Hp->Prop
abbrev St:=List (Option V)
abbrev VK:=V->Hp->Prop
abbrev TE:=St->Hp->VK->Prop
abbrev TT:=St->Hp->(Bool->Hp->Prop)->Prop
abbrev TA:=St->Hp->(List V->Hp->Prop)->Prop
structure Ends where
 nx:St->Hp->Prop
 rt:VK
 bk:St->Hp->Prop:=λ_ _=>False
 ct:St->Hp->Prop:=λ_ _=>False
abbrev TS:=Ends->St->Hp->Prop
def EP (X:Cx) (pins:A4) (U:St) (Q:VK) (u:Value) (s':Shared):Prop:=∃v H',Inv X pins U H' s'/\RelV v u/\Q v H'
def TP (X:Cx) (pins:A4) (U:St) (Q:Bool->Hp->Prop) (b:Bool) (s':Shared):Prop:=∃H',Inv X pins U H' s'/\Q b H'
def AP (X:Cx) (pins:A4) (U:St) (Q:List V->Hp->Prop) (us:B1) (s':Shared):Prop:=∃vs H',Inv X pins U H' s'/\Vals vs us/\Q vs H'
def SP (X:Cx) (pins:A4) (D:Ends) (f:Flow) (s':Shared):Prop :=
 match f with
 |.next=>∃σ' H',Inv X pins σ' H' s'/\D.nx σ' H'
 |.brk=>∃σ' H',Inv X pins σ' H' s'/\D.bk σ' H'
 |.cont=>∃σ' H',Inv X pins σ' H' s'/\D.ct σ' H'
 |.ret u=>∃v σ' H',Inv X pins σ' H' s'/\RelV v u/\D.rt v H'
def PE (X:Cx) (e:Expr) (t:TE):Prop :=
 ∀(pins:A4) (s:Shared) (U:St) (H:Hp) (Q:VK),Inv X pins U H s->t U H Q->wpAny (model X.prog X.w) X.A (eval e X.env) (EP X pins U Q) X.xe s
def PT (X:Cx) (e:Expr) (t:TT):Prop :=
 ∀(pins:A4) (s:Shared) (U:St) (H:Hp) (Q:Bool->Hp->Prop),Inv X pins U H s->t U H Q->wpAny (model X.prog X.w) X.A (isTrue e X.env (eval e X.env)) (TP X pins U Q) X.xe s
def PW (X:Cx) (e:Expr) (t:TT):Prop :=
 ∀(whole:Sem Value) (pins:A4) (s:Shared) (U:St) (H:Hp) (Q:Bool->Hp->Prop),Inv X pins U H s->t U H Q->wpAny (model X.prog X.w) X.A (isTrue e X.env whole) (TP X pins U Q) X.xe s
theorem PW.pt {t:TT} (h:PW X e t):PT X e t:=h _
def PA (X:Cx) (es:C0) (t:TA):Prop :=
 ∀(pos:Pos) (pins:A4) (s:Shared) (U:St) (H:Hp) (Q:List V->Hp->Prop),Inv X pins U H s->t U H Q->wpAny (model X.prog X.w) X.A (spliced (backTo pos (starEach es X.env))) (AP X pins U Q) X.xe s
def PS (X:Cx) (st:Stmt) (t:TS):Prop :=
 ∀(pins:A4) (s:Shared) (U:St) (H:Hp) (D:Ends),Inv X pins U H s->t D U H->wpAny (model X.prog X.w) X.A (exec st X.env) (SP X pins D) X.xe s
def PSs (X:Cx) (st:List Stmt) (t:TS):Prop :=
 ∀(pins:A4) (s:Shared) (U:St) (H:Hp) (D:Ends),Inv X pins U H s->t D U H->wpAny (model X.prog X.w) X.A (execs st X.env) (SP X pins D) X.xe s
theorem _w {α:Type} {t:Sem α} {Q Q':α->Shared->Prop} (h:wpAny M A t Q E s) (hQ:∀a s,Q a s->Q' a s):wpAny M A t Q' E s:=Q5 h hQ λ_ _ x=>x
section
inductive tVar (i:Nat) (U:St) (H:Hp) (Q:VK):Prop
 |mk:∀v,U[i]?=some (some v)->Q v H->tVar i U H Q
def tC (v:V):TE:=λ_ H Q=>Q v H
theorem _cS (hN:X.N[i]?=some x) (hv:Uo X.env.scope x) (hd:(x==("__debug__": Str))=false:=by decide) (hcd:(x==("__classdict__": Str))=false:=by decide):PE X (.Name x pos) (tVar i):=by
 intro pins s U H Q I h;obtain⟨v,e,h⟩:=h;obtain⟨m,hn,hl⟩:=I.loc;obtain⟨u,r,l⟩:=hl i x v hN e hv;have fin:EP X pins U Q u s:=⟨v,H,I,r,h⟩;rcases l with⟨hk,hm⟩|⟨hk,c,hc,hcell⟩
 ·exact wpAny_Name (wpAny_loadName_local I.ok.kind hk hn hm fin) hd
 ·rcases hk with hk|hk
  ·exact wpAny_Name (wpAny_loadName_cell I.ok.kind hk hc hcell fin) hd
  ·exact wpAny_Name (wpAny_loadName_free I.ok.kind hk hc hcell fin hcd) hd
theorem _b {i j pos}:PE X (.Constant (.int i) j pos) (tC (.int i)):=λ_ _ _ H _ I h=>wpAny_Constant_int ⟨.int i,H,I.tok _,⟨_,rfl⟩,h⟩
theorem Yo {b j pos}:PE X (.Constant (.bool b) j pos) (tC (.bl b)):=λ_ _ _ H _ I h=>Constant_bool ⟨.bl b,H,I,rfl,h⟩
theorem Jb {j pos}:PE X (.Constant .none j pos) (tC .non):=λ_ _ _ H _ I h=>Constant_none ⟨.non,H,I,rfl,h⟩
theorem _z {x j pos}:PE X (.Constant (.str x) j pos) (tC (.str x)):=λ_ _ _ H _ I h=>Calls.Constant_str ⟨.str x,H,I.tok _,⟨_,rfl⟩,h⟩
def Gl (X:Cx) (x:Str):Prop:=X.env.kindOf x=some .globalImplicit
theorem _as (I:Inv X pins U H s) (hg:Gl X x) (hm:X.mg x=some u) (h:Q u s)
 (hd:(x==("__debug__": Str))=false:=by decide):wpAny (model X.prog X.w) X.A (eval (.Name x pos) X.env) Q E s :=
 NL I.ok.kind hg (Calls.loadGlobal_global (by rw[I.ok.glob];exact I.mod.glob.keeps I.bk) hm h) hd
theorem UQ (I:Inv X pins U H s) (hg:Gl X x) (hm:X.mg x=none) (hv:bootBuiltins x=some u) (h:Q u s)
 (hn:x≠"__name__":=by decide) (hd:(x==("__debug__": Str))=false:=by decide):wpAny (model X.prog X.w) X.A (eval (.Name x pos) X.env) Q E s:=by
 obtain⟨mb,h1,h2⟩:=I.mod.blt;exact NL I.ok.kind hg (Calls.loadGlobal_builtin (by rw[I.ok.glob];exact I.mod.glob.keeps I.bk) hm (by rw[I.ok.blt];exact h1.keeps I.bk) ((h2 x hn).trans hv) h) hd
theorem Uk (hg:Gl X x) (hm:X.mg x=some u) (r:RelV v u) (hd:(x==("__debug__": Str))=false:=by decide):PE X (.Name x pos) (tC v) :=
 λ_ _ _ H _ I h=>_as I hg hm ⟨v,H,I,r,h⟩ hd
theorem WC (hg:Gl X x) (hm:X.mg x=none) (hv:bootBuiltins x=some u) (r:RelV v u) (hn:x≠"__name__":=by decide) (hd:(x==("__debug__": Str))=false:=by decide):PE X (.Name x pos) (tC v) :=
 λ_ _ _ H _ I h=>UQ I hg hm hv ⟨v,H,I,r,h⟩ hn hd
variable{a b:Expr} {tb:TE}
def PC (X:Cx) (op:CmpOp) (a b:Expr) (t:TE):Prop :=
 ∀(pins:A4) (s:Shared) (U:St) (H:Hp) (Q:VK),Inv X pins U H s->t U H Q →
  wpAny (model X.prog X.w) X.A (eval a X.env) (λv s₁=>wpAny (model X.prog X.w) X.A (eval b X.env) (λu s₂=>wpAny (model X.prog X.w) X.A (compareOp op v u) (EP X pins U Q) X.xe s₂) X.xe s₁) X.xe s
inductive tB_ (Q:Bool->Hp->Prop) (x:V) (H1:Hp):Prop
 |mk:∀c,x=.bl c->Q c H1->tB_ Q x H1
def tB (t:TE):TT:=λU H Q=>t U H λx H1=>tB_ Q x H1
theorem _bN {t:TE} (h:PC X op a b t) (h1:behindInMarks op b=false:=by first|exact nobehind _ (by decide) (by decide)|rfl):PT X (.Compare a [op] [b] pos) (tB t):=by
 intro pins s U H Q I hw;refine wpAny_isTrue_Compare1 (_w (h pins s U H _ I hw) λv s1 h1=>_w h1 λu s2 h2=>_w h2 λc s3 zq=>?_) h1;obtain⟨x,H1,I1,r1,q1⟩:=zq;obtain⟨d,rfl,q⟩:=q1;cases r1;exact R3 ⟨H1,I1,q⟩
theorem Xi {t:TE} (h:PE X e t) (he:∀whole,isTrue e X.env whole=(do let v <-whole;standAt e.pos;holding [v] (truthy v)):=by intro _;rfl):PT X e (tB t):=by
 intro pins s U H Q I hw;refine isTrue_plain (_w (h pins s U H _ I hw) λv s1 zq=>?_) (he _);obtain⟨x,H1,I1,r1,q1⟩:=zq;obtain⟨d,rfl,q⟩:=q1;cases r1;exact R3 ⟨H1,I1,q⟩
variable{tA tB':TT} {rest:C0}
def _l4 (t u:TT):TT:=λU H Q=>t U H λc H1=>if c=true then u U H1 Q else Q false H1
def tOr (t u:TT):TT:=λU H Q=>t U H λc H1=>if c=true then Q true H1 else u U H1 Q
def _mI (t:TT):TT:=λU H Q=>t U H λc H1=>Q (!c) H1
theorem Vq (ha:PT X a tA):PW X (.BoolOp .And [a] pos) tA:=by
 intro wh pins s U H Q I h;refine isTrue_and (_w (ha pins s U H Q I h) λc s1 e=>?_);cases c with
 |true=>exact isTrue_and_nil e
 |false=>exact e
theorem Wt (ha:PT X a tA):PW X (.BoolOp .Or [a] pos) tA:=by
 intro wh pins s U H Q I h;refine isTrue_or (_w (ha pins s U H Q I h) λc s1 e=>?_);cases c with
 |false=>exact isTrue_or_nil e
 |true=>exact e
theorem Vj (ha:PT X a tA) (hb:PW X (.BoolOp .And (b::rest) pos) tB'):PW X (.BoolOp .And (a::b::rest) pos) (_l4 tA tB'):=by
 intro wh pins s U H Q I h;refine isTrue_and (_w (ha pins s U H _ I h) λc s1 zq=>?_);obtain⟨H1,I1,q1⟩:=zq;cases c with
 |true=>exact hb wh pins s1 U H1 Q I1 q1
 |false=>exact⟨H1,I1,q1⟩
theorem Xz (ha:PT X a tA) (hb:PW X (.BoolOp .Or (b::rest) pos) tB'):PW X (.BoolOp .Or (a::b::rest) pos) (tOr tA tB'):=by
 intro wh pins s U H Q I h;refine isTrue_or (_w (ha pins s U H _ I h) λc s1 zq=>?_);obtain⟨H1,I1,q1⟩:=zq;cases c with
 |true=>exact⟨H1,I1,q1⟩
 |false=>exact hb wh pins s1 U H1 Q I1 q1
theorem Xw (ha:PT X a tA):PT X (.UnaryOp .Not a pos) (_mI tA):=by
 intro pins s U H Q I h;exact isTrue_not (ha pins s U H (λc H1=>Q (!c) H1) I h)
inductive tAndV_ (tb:TE) (U:St) (Q:VK) (x:V) (H1:Hp):Prop
 |mk:∀c,x=.bl c->(if c=true then tb U H1 Q else Q (.bl false) H1)->tAndV_ tb U Q x H1
def _om (ta tb:TE):TE:=λU H Q=>ta U H λx H1=>tAndV_ tb U Q x H1
inductive tOrV_ (tb:TE) (U:St) (Q:VK) (x:V) (H1:Hp):Prop
 |mk:∀c,x=.bl c->(if c=true then Q (.bl true) H1 else tb U H1 Q)->tOrV_ tb U Q x H1
def _jx (ta tb:TE):TE:=λU H Q=>ta U H λx H1=>tOrV_ tb U Q x H1
inductive tNotV_ (Q:VK) (x:V) (H1:Hp):Prop
 |mk:∀c,x=.bl c->Q (.bl (!c)) H1->tNotV_ Q x H1
def _gO (ta:TE):TE:=λU H Q=>ta U H λx H1=>tNotV_ Q x H1
theorem XC {op} {t:TE} (h:PE X a t):PE X (.BoolOp op [a] pos) t:=λpins s U H Q I hw=>BoolOp_one (h pins s U H Q I hw)
theorem XA (ha:PE X a ta) (hb:PE X (.BoolOp .And (b::rest) pos) tb):PE X (.BoolOp .And (a::b::rest) pos) (_om ta tb):=by
 intro pins s U H Q I h;refine BoolOp_and (_w (ha pins s U H _ I h) λv s1 zq=>?_);obtain⟨x,H1,I1,r1,q1⟩:=zq;obtain⟨c,rfl,q1⟩:=q1;cases r1;refine R3 ?_;cases c with
 |true=>exact hb pins s1 U H1 Q I1 q1
 |false=>exact⟨.bl false,H1,I1,rfl,q1⟩
theorem _cK (ha:PE X a ta) (hb:PE X (.BoolOp .Or (b::rest) pos) tb):PE X (.BoolOp .Or (a::b::rest) pos) (_jx ta tb):=by
 intro pins s U H Q I h;refine BoolOp_or (_w (ha pins s U H _ I h) λv s1 zq=>?_);obtain⟨x,H1,I1,r1,q1⟩:=zq;obtain⟨c,rfl,q1⟩:=q1;cases r1;refine R3 ?_;cases c with
 |false=>exact hb pins s1 U H1 Q I1 q1
 |true=>exact⟨.bl true,H1,I1,rfl,q1⟩
theorem _nO (ha:PE X a ta):PE X (.UnaryOp .Not a pos) (_gO ta):=by
 intro pins s U H Q I h;refine UnaryOp_ (_w (ha pins s U H _ I h) λv s1 zq=>?_);obtain⟨x,H1,I1,r1,q1⟩:=zq;obtain⟨c,rfl,q1⟩:=q1;cases r1;exact not_of (R3 ⟨.bl (!c),H1,I1,rfl,q1⟩)
def tIf (t:TT) (ta tb:TE):TE:=λU H Q=>t U H λc H1=>if c=true then ta U H1 Q else tb U H1 Q
theorem _ll (hc:PT X c tA) (ha:PE X a ta) (hb:PE X b tb):PE X (.IfExp c a b pos) (tIf tA ta tb):=by
 intro pins s U H Q I h;refine wpAny_IfExp (_w (hc pins s U H _ I h) λd s1 zq=>?_);obtain⟨H1,I1,q1⟩:=zq;cases d with
 |true=>exact ha pins s1 U H1 Q I1 q1
 |false=>exact hb pins s1 U H1 Q I1 q1
end
def SqL (K:W.Frag) (H:Hp) (a:Addr) (xs:List V):Prop :=
 Rd H a (.lst xs) \/
  ∃(o:Obj) (its:B6) (n:Nat),K.lookup a=some o/\o.cls=.type "list"/\o.dict=none/\o.data=.seq its n/\its.size<=sizeLine/\Vals xs its.toList
def SqT (K:W.Frag) (H:Hp) (a:Addr) (xs:List V):Prop :=
 Rd H a (.tup xs) \/
  ∃(o:Obj) (its:B6) (n:Nat),K.lookup a=some o/\o.cls=.type "tuple"/\o.data=.seq its n/\its.size<=sizeLine/\Vals xs its.toList
noncomputable def _oe:Value->Option V
 |.none=>some .non
 |.bool b=>some (.bl b)
 |.int i _=>some (.int i)
 |.str x _=>some (.str x)
 |.bytes b _=>some (.byt b)
 |.float b _=>some (.flt b)
 |.ref a=>some (.ref a)
 |.type n=>some (.ty n)
 |_=>none
theorem RelV.abs {x:V} (r:RelV x u):_oe u=some x:=by
 cases x with
 |non=>cases r;rfl
 |bl _=>cases r;rfl
 |int _=>obtain⟨t,rfl⟩:=r;rfl
 |str _=>obtain⟨t,rfl⟩:=r;rfl
 |byt _=>obtain⟨t,rfl⟩:=r;rfl
 |flt _=>obtain⟨t,rfl⟩:=r;rfl
 |ref _=>cases r;rfl
 |ty _=>cases r;rfl
theorem RelV.inj {x:V} (r:RelV x u) (q:RelV y u):x=y:=Qt (r.abs.symm.trans q.abs)
theorem Vals.inj (h:Vals xs us) (k:Vals ys us):xs=ys:=by
 induction h generalizing ys with
 |nil=>cases k;rfl
 |cons r t ih =>
  cases k with
  |cons r' t'=>rw[r.inj r',ih t']
theorem SqL.of {K:W.Frag} (h:H a=some (.lst xs)):SqL K H a xs:=.inl (.inl h)
theorem SqT.of {K:W.Frag} (h:H a=some (.tup xs)):SqT K H a xs:=.inl (.inl h)
theorem Inv.list (I:Inv X pins U H s) (h:SqL X.K H a xs):∃its:B1,Vals xs its/\PlainL s.heap a its.toArray/\xs.length<=sizeLine:=by
 rcases h with h|⟨o,its,n,hk,hc,hd,hs,hz,r⟩
 ·obtain⟨z,its,n,r,e⟩:=h.ok I.hok;exact⟨its,r,⟨_,n,e,rfl,rfl,rfl⟩,z⟩
 ·refine⟨its.toList,r,⟨o,n,I.kIn a o hk,hc,hd,by simpa using hs⟩,?_⟩;have e:=r.length;simp only[Rh] at e;lia
theorem Inv.tuple (I:Inv X pins U H s) (h:SqT X.K H a xs):∃its:B1,Vals xs its/\IsTup s.heap a its.toArray/\xs.length<=sizeLine:=by
 rcases h with h|⟨o,its,n,hk,hc,hs,hz,r⟩
 ·obtain⟨z,its,r,p⟩:=h.ok I.hok;exact⟨its,r,p,z⟩
 ·refine⟨its.toList,r,⟨o,I.kIn a o hk,hc,n,by simpa using hs⟩,?_⟩;have e:=r.length;simp only[Rh] at e;lia
theorem Inv.list_inj (I:Inv X pins U H s) (h:SqL X.K H a xs) (h':SqL X.K H a ys):xs=ys:=by
 obtain⟨its,r,⟨o,n,e,_,_,d⟩,_⟩:=I.list h;obtain⟨its',r',⟨o',n',e',_,_,d'⟩,_⟩:=I.list h';rw[e] at e';cases e';rw[d] at d';injection d' with d1 _;have:its=its':=by simpa using QI Array.toList d1
 subst this;exact r.inj r'
theorem Inv.tuple_inj (I:Inv X pins U H s) (h:SqT X.K H a xs) (h':SqT X.K H a ys):xs=ys:=by
 obtain⟨its,r,⟨o,e,_,n,d⟩,_⟩:=I.tuple h;obtain⟨its',r',⟨o',e',_,n',d'⟩,_⟩:=I.tuple h';rw[e] at e';cases e';rw[d] at d';injection d' with d1 _;have:its=its':=by simpa using QI Array.toList d1
 subst this;exact r.inj r'
section
variable{st:Stmt} {rest:List Stmt} {t u:TS}
def _bS:TS:=λD U H=>D.nx U H
def _gv (t u:TS):TS:=λD U H=>t { D with nx:=u D } U H
theorem _F:PSs X [] _bS:=λ_ _ U H _ I h=>GE ⟨U,H,I,h⟩
theorem _n (h1:PS X st t) (h2:PSs X rest u):PSs X (st::rest) (_gv t u):=by
 intro pins s U H D I h;refine wpAny_execs_cons (_w (h1 pins s U H { D with nx:=u D } I h) λf s1 q=>?_);cases f with
 |next =>
  obtain⟨σ',H',I',q⟩:=q;exact h2 pins s1 σ' H' D I' q
 |ret v=>exact q
 |brk=>exact q
 |cont=>exact q
theorem _m (h1:PS X st t):PSs X [st] t:=by
 intro pins s U H D I h;refine wpAny_execs_cons (_w (h1 pins s U H D I h) λf s1 q=>?_);cases f with
 |next=>exact GE q
 |ret v=>exact q
 |brk=>exact q
 |cont=>exact q
theorem Inv.quiet (I:Inv X pins U H s):interactive X.env=false:=by simp[interactive,I.ok.kind]
def _nb (te:TE):TS:=λD U H=>te U H λ_ H1=>D.nx U H1
theorem Yl (he:PE X e te) (hs:swapsWith e none pos.line X.env=pure false:=by rfl):PS X (.Expr e pos) (_nb te):=by
 intro pins s U H D I h;refine wpAny_Expr_any (_w (he pins s U H _ I h) λv s1 zq=>?_) I.quiet hs;obtain⟨x,H1,I1,r1,q1⟩:=zq;exact ⟨U,H1,I1,q1⟩
def _ny (te:TE):TS:=λD U H=>te U H D.rt
theorem _y (he:PE X e te):PS X (.Return (some e) pos) (_ny te):=by
 intro pins s U H D I h;refine wpAny_Return_some (_w (he pins s U H _ I h) λv s1 zq=>?_);obtain⟨x,H1,I1,r1,q1⟩:=zq;exact ⟨x,U,H1,I1,r1,q1⟩
def _lF (c:TT) (t u:TS):TS:=λD U H=>c U H λb H1=>if b=true then t D U H1 else u D U H1
theorem _D {a b:List Stmt} {tc:TT} (hc:PT X c tc) (ha:PSs X a t) (hb:PSs X b u):PS X (.If c a b pos) (_lF tc t u):=by
 intro pins s U H D I h;refine wpAny_If (_w (hc pins s U H _ I h) λd s1 zq=>?_);obtain⟨H1,I1,q1⟩:=zq;cases d with
 |true=>exact ha pins s1 U H1 D I1 q1
 |false=>exact hb pins s1 U H1 D I1 q1
end
abbrev TG:=V->St->Hp->(St->Hp->Prop)->Prop
abbrev Vl:=List V->St->Hp->(St->Hp->Prop)->Prop
def PG (X:Cx) (target:Expr) (t:TG):Prop :=
 ∀(pins:A4) (s:Shared) (U:St) (H:Hp) (v:V) (u:Value) (Q:St->Hp->Prop),Inv X pins U H s->RelV v u->t v U H Q →
  wpAny (model X.prog X.w) X.A (assign target X.env u) (λ_ s'=>∃σ' H',Inv X pins σ' H' s'/\Q σ' H') X.xe s
def UN (X:Cx) (ts:C0) (t:Vl):Prop :=
 ∀(pins:A4) (s:Shared) (U:St) (H:Hp) (vs:List V) (us:B1) (Q:St->Hp->Prop),Inv X pins U H s->Vals vs us->t vs U H Q →
  wpAny (model X.prog X.w) X.A (assignInOrder ((assignEach ts X.env).map (·.2)) us) (λ_ s'=>∃σ' H',Inv X pins σ' H' s'/\Q σ' H') X.xe s
def W9 (i:Nat):TG:=λv U H Q=>Q (U.set i (some v)) H
theorem YO (hN:X.N.Nodup) (hi:X.N[i]?=some x) (hx:Vo X.env.scope x) (hf:X.fn x=true\/X.env.scope.names.lookup x=some .local:=by first|exact .inl rfl|exact .inr rfl|assumption):PG X (.Name x pos) (W9 i):=by
 intro pins s U H v u Q I r h;exact wpAny_assign_Name (_ea I hN hi hx r (λs' I'=>⟨_,H,I',h⟩) hf)
noncomputable def _jm:Vl:=λvs U H Q=>vs=[]/\Q U H
inductive gCons (t:TG) (u:Vl) (vs:List V) (U:St) (H:Hp) (Q:St->Hp->Prop):Prop
 |mk:∀v r,vs=v::r->(t v U H λσ' H'=>u r σ' H' Q)->gCons t u vs U H Q
theorem _a4:UN X [] _jm:=by
 intro pins s U H vs us Q I r h;obtain⟨e,h⟩:=h;subst e;cases r;exact assignInOrder_nil ⟨U,H,I,h⟩
theorem VS {t:TG} {u:Vl} (h1:PG X e t) (h2:UN X es u)
 (hs:(assignEach (e::es) X.env).map (·.2)=assign e X.env::(assignEach es X.env).map (·.2):=by rfl):UN X (e::es) (gCons t u):=by
 intro pins s U H vs us Q I r h;obtain⟨v,vr,e1,h⟩:=h;subst e1;cases r with
 |cons r rr =>
  rw[hs];refine assignInOrder_cons (_w (h1 pins s U H _ _ _ I r h) λ_ s1 zq=>?_);obtain⟨σ1,H1,I1,q1⟩:=zq;exact h2 pins s1 σ1 H1 _ _ Q I1 rr q1
inductive gTup (K:W.Frag) (n:Nat) (t:Vl) (v:V) (U:St) (H:Hp) (Q:St->Hp->Prop):Prop
 |mk:∀a xs,v=.ref a->SqT K H a xs->xs.length=n->t xs U H Q->gTup K n t v U H Q
theorem _bv {k:Nat} {t:Vl} (hc:X.calm=true) (h:UN X es t)
 (hn:(assignEach es X.env).length=n:=by rfl) (hst:(assignEach es X.env).findIdx? (·.1)=none:=by rfl):PG X (.Tuple es k pos) (gTup X.K n t):=by
 intro pins s U H v u Q I r hw;obtain⟨a,xs,e1,hq,hl,hw⟩:=hw;subst e1;cases r;obtain⟨its,rv,ht,hz⟩:=I.tuple hq;refine assign_Tuple_tuple (I.ok.hd hc) ht (by simp[hn,<-hl,rv.length]) hst λh' hx=>?_;have I1:Inv X pins U H { s with heap:=h' }:=I.kept (t':=s.toks) λb o e=>hx b o (QA (Qo e)) e;exact h pins _ U H xs _ Q I1 (by simpa using rv) hw
def _aF (te:TE) (g:TG):TS:=λD U H=>te U H λx H1=>g x U H1 D.nx
theorem _cf {pos':Pos} (hN:X.N.Nodup) (hi:X.N[i]?=some x) (hx:Vo X.env.scope x) (he:PE X e te) (hs:swapsWith e (some (.Name x pos')) pos.line X.env=pure false:=by rfl) (hf:X.fn x=true\/X.env.scope.names.lookup x=some .local:=by first|exact .inl rfl|exact .inr rfl|assumption) :
  PS X (.Assign [.Name x pos'] e pos) (_aF te (W9 i)):=by
 intro pins s U H D I h;refine wpAny_Assign_Name (_w (he pins s U H _ I h) λv s1 zq=>?_) hs;obtain⟨y,H1,I1,r1,q1⟩:=zq;exact _ea I1 hN hi hx r1 (λs2 I2=>⟨_,H1,I2,q1⟩) hf
def _lT (c:TT) (tb:TS):TS:=λD U H=>∃W:Nat->St->Hp->Prop,(∃m,W m U H)/\∀m U H,W m U H →
 c U H λb H1=>if b=true then ∃N:St->Hp->Prop,(∀σ' H',N σ' H'->∃m',m'<m/\W m' σ' H')/\tb { D with nx:=N,ct:=N,bk:=D.nx } U H1 else D.nx U H1
theorem _i6 {tc:TT} (hp:PassesOwn (model X.prog X.w) X.A X.env X.xe) (hc:PT X c tc) (hb:PSs X body tb):PS X (.While c body [] pos) (_lT tc tb):=by
 intro pins s U H D I h;obtain⟨W,⟨m0,w0⟩,turn⟩:=h;refine wpAny_While (codeAny_whileLoop (λn s'=>∃σ' H',Inv X pins σ' H' s'/\W n σ' H') ?_ m0 ⟨U,H,I,w0⟩);rintro n s1 ⟨σ1,H1,I1,w1⟩;refine R4 hp (_w (hc pins s1 σ1 H1 _ I1 (turn n σ1 H1 w1)) λb s2 zq=>?_);obtain⟨H2,I2,q2⟩:=zq;cases b with
 |true =>
  obtain⟨N,hN,q2⟩:=q2;rw[Qb rfl];refine R4 hp (_w (hb pins s2 σ1 H2 _ I2 q2) λf s3 q3=>?_);cases f with
  |next =>
   obtain⟨σ3,H3,I3,n3⟩:=q3;obtain⟨m',hm,w3⟩:=hN σ3 H3 n3;exact⟨m',hm,σ3,H3,I3,w3⟩
  |cont =>
   obtain⟨σ3,H3,I3,n3⟩:=q3;obtain⟨m',hm,w3⟩:=hN σ3 H3 n3;exact⟨m',hm,σ3,H3,I3,w3⟩
  |brk=>exact q3
  |ret v=>exact q3
 |false =>
  rw[Qa QD];exact GE ⟨σ1,H2,I2,q2⟩
structure It where
 go:Nat->Hp->Prop
 yld:Nat->Hp->V->Hp->Prop
 stop:Nat->Hp->Prop
def XM (X:Cx) (pins:A4) (H:Hp) (b:Addr):Prop :=
 H b=none/\b≠X.env.locals/\b∉X.fs/\(b∈X.ex\/X.s₀.heap.objs.size<=b)/\(∀x c,X.env.cells.lookup x=some c->c≠b)/\∀p∈X.pn++pins,p.1≠b
theorem Inv.fpOk (I:Inv X pins U H s) (hb:s.heap.objs.size<=b) (hn:H' b=none):XM X pins H' b:=by
 refine⟨hn,Gh (QJ I.lt hb),I.nofs hb,.inr (Qs I.sz hb),λx c e z=>?_,λp hp z=>?_⟩
 ·obtain⟨v,q⟩:=I.cell x c e;exact absurd (QJ q.lt (by rw[z];exact hb)) (Rx _)
 ·exact absurd (QJ (Qo (I.pin p hp).1) (by rw[z];exact hb)) (Rx _)
structure Turn (P:Program) (w:World) (K:W.Frag) (tg:Expr) (J:It) (fp:B5) (it:Addr) (tn:Nat->Heap->Prop):Prop where
 mem:it∈fp
 obj:∀i h,tn i h->∀b∈fp,∃o,h.get? b=some o/\∀v,o.data≠.cell v
 keep:∀i h h',tn i h->(∀b∈fp,∀o,h.get? b=some o->h'.get? b=some o)->tn i h'
 item:∀(X:Cx),X.prog=P->X.w=w->X.K=K->X.calm=true->∀(i:Nat) (pins:A4) (s:Shared) (U:St) (H:Hp) (E:Value->Shared->Prop),Inv X pins U H s->(∀b∈fp,XM X pins H b)->tn i s.heap->J.go i H →
  wpAny (model P w) X.A (pyNext (.ref it)) (λr s1=>∃u,r=some u /\
   wpAny (model P w) X.A (letOwnedTupleGo tg (.ref it) u) (λ_ s2=>∃x H',Inv X pins U H' s2/\RelV x u/\J.yld i H x H'/\tn (i+1) s2.heap/\∀b∈fp,H' b=none) E s1) E s
 done:∀(X:Cx),X.prog=P->X.w=w->X.K=K->X.calm=true->∀(i:Nat) (pins:A4) (s:Shared) (U:St) (H:Hp) (E:Value->Shared->Prop),Inv X pins U H s->(∀b∈fp,XM X pins H b)->tn i s.heap->J.stop i H →
  wpAny (model P w) X.A (pyNext (.ref it)) (λr s1=>r=none/\Inv X pins U H s1) E s
 self:∀(A:Around) (i:Nat) (s:Shared) (Q:Value->Shared->Prop) (E:Value->Shared->Prop),tn i s.heap->Q (.ref it) s->wpAny (model P w) A (pyIter (.ref it)) Q E s
abbrev TI:=St->Hp->(It->Hp->Prop)->Prop
def PIE (X:Cx) (pins:A4) (U:St) (tg:Expr) (R:It->Hp->Prop) (itv:Value) (s2:Shared):Prop :=
 ∃(it:Addr) (fp:B5) (tn:Nat->Heap->Prop) (J:It) (H':Hp),itv=.ref it/\Inv X pins U H' s2/\Turn X.prog X.w X.K tg J fp it tn/\tn 0 s2.heap/\(∀b∈fp,XM X pins H' b)/\R J H'
def PI (X:Cx) (tg iter:Expr) (wi:TI):Prop :=
 ∀(pins:A4) (s:Shared) (U:St) (H:Hp) (R:It->Hp->Prop),Inv X pins U H s->wi U H R →
  wpAny (model X.prog X.w) X.A (eval iter X.env) (λv s1=>wpAny (model X.prog X.w) X.A (pyIter v) (PIE X pins U tg R) X.xe s1) X.xe s
theorem Jp {it:Addr} {o:Obj} {n:String} {vs:B6} {Q:Unit->Shared->Prop} (ho:s.heap.get? it=some o) (hc:o.cls=.type n) (hd:o.data=.fields vs)
 (hn:["enumerate","zip","dict_itemiterator","dict_reverseitemiterator","odict_iterator","itertools.zip_longest","itertools.pairwise"].contains n=false) (hQ:Q () s):wpAny M A (letOwnedTupleGo tg (.ref it) u) Q E s:=by
 unfold letOwnedTupleGo
 cases tg<;>first
  |exact Qh hQ
  | (cases u<;>first
    |exact Qh hQ
    | (refine Qc (wpAny_load ho ?_)
       rw[hc,hd];show wpAny M A (if(["enumerate","zip","dict_itemiterator","dict_reverseitemiterator","odict_iterator","itertools.zip_longest","itertools.pairwise"].contains n&&vs[0]?==some (rawInt _))=true then _ else _) Q E s;rw[Qa (by intro h;rw[hn,Nf] at h;cases h)];exact Qh hQ))
noncomputable def Je (K:W.Frag) (a:Addr):It :=
 ⟨λi H=>∃xs x,SqL K H a xs/\xs[i]?=some x,λi H x H'=>H'=H/\∀xs,SqL K H a xs->xs[i]?=some x,λi H=>∃xs,SqL K H a xs/\xs.length<=i⟩
noncomputable def UT (K:W.Frag) (a:Addr):It :=
 ⟨λi H=>∃xs x,SqT K H a xs/\xs[i]?=some x,λi H x H'=>H'=H/\∀xs,SqT K H a xs->xs[i]?=some x,λi H=>∃xs,SqT K H a xs/\xs.length<=i⟩
noncomputable def VI (lo:Int) (n:Nat):It:=⟨λi _=>i<n,λi H x H'=>H'=H/\x=.int (lo+i),λi _=>n<=i⟩
theorem _nI {w:World} {K:W.Frag} (a it:Addr):Turn P w K tg (Je K a) [it] it (λi h=>h.IsListIter it a i) where
 mem:=by simp
 obj:=λi h st b hb=>by
  have e:b=it:=by simpa using hb
  subst e;obtain⟨o,e,c,d⟩:=st;exact⟨o,e,λv z=>by rw[d] at z;cases z⟩
 keep:=λi h h' st k=>st.at λo e=>k it (by simp) o e
 item:=by
  intro X hP hw hK hc i pins s U H E I hf st hg;subst hP hw hK;obtain⟨xs,x,hq,hx⟩:=hg;obtain⟨its,rv,p,hz⟩:=I.list hq;obtain⟨u,hu,ru⟩:=rv.get hx;obtain⟨f0,f1,f2,f3,f4,f5⟩:=hf it (by simp);refine wpAny_pyNext_list_item st p.isList (x:=u) (by simpa using hu) λh' st' sb=>?_;have I1:Inv X pins U H { s with heap:=h' }:=I.turned (t':=s.toks) (λb o hb e=>(sb.2 b hb).trans e) f0 f1 f3 f4 f5;obtain⟨o,e,c,d⟩:=id st';exact⟨u,rfl,Jp (s:={ s with heap:=h' }) e c d (by decide) ⟨x,H,I1,ru,⟨rfl,λys hy=>by rw[I.list_inj hy hq];exact hx⟩,st',λb hb=>(hf b hb).1⟩⟩
 done:=by
  intro X hP hw hK hc i pins s U H E I hf st hg;subst hP hw hK;obtain⟨xs,hq,hx⟩:=hg;obtain⟨its,rv,p,hz⟩:=I.list hq;obtain⟨f0,f1,f2,f3,f4,f5⟩:=hf it (by simp);have hl:=rv.length;exact wpAny_pyNext_list_end (I.ok.hd hc) st p.isList (by simp;lia) λh' eb=>⟨rfl,I.turned (t':=s.toks) (λb o hb e=>eb b o hb e) f0 f1 f3 f4 f5⟩
 self:=λ_ _ _ _ _ st h=>wpAny_pyIter_listiter st h
theorem _kT {w:World} {K:W.Frag} (a it:Addr):Turn P w K tg (UT K a) [it] it (λi h=>h.IsTupleIter it a i) where
 mem:=by simp
 obj:=λi h st b hb=>by
  have e:b=it:=by simpa using hb
  subst e;obtain⟨o,e,c,d⟩:=st;exact⟨o,e,λv z=>by rw[d] at z;cases z⟩
 keep:=λi h h' st k=>st.at λo e=>k it (by simp) o e
 item:=by
  intro X hP hw hK hc i pins s U H E I hf st hg;subst hP hw hK;obtain⟨xs,x,hq,hx⟩:=hg;obtain⟨its,rv,p,hz⟩:=I.tuple hq;obtain⟨u,hu,ru⟩:=rv.get hx;obtain⟨f0,f1,f2,f3,f4,f5⟩:=hf it (by simp);refine wpAny_pyNext_tuple_item st (show s.heap.IsTuple a its.toArray from p) (x:=u) (by simpa using hu) λh' st' sb=>?_;have I1:Inv X pins U H { s with heap:=h' }:=I.turned (t':=s.toks) (λb o hb e=>(sb.2 b hb).trans e) f0 f1 f3 f4 f5;obtain⟨o,e,c,d⟩:=id st';exact⟨u,rfl,Jp (s:={ s with heap:=h' }) e c d (by decide) ⟨x,H,I1,ru,⟨rfl,λys hy=>by rw[I.tuple_inj hy hq];exact hx⟩,st',λb hb=>(hf b hb).1⟩⟩
 done:=by
  intro X hP hw hK hc i pins s U H E I hf st hg;subst hP hw hK;obtain⟨xs,hq,hx⟩:=hg;obtain⟨its,rv,p,hz⟩:=I.tuple hq;obtain⟨f0,f1,f2,f3,f4,f5⟩:=hf it (by simp);have hl:=rv.length;exact wpAny_pyNext_tuple_end (I.ok.hd hc) st (show s.heap.IsTuple a its.toArray from p) (by simp;lia) λh' eb=>⟨rfl,I.turned (t':=s.toks) (λb o hb e=>eb b o hb e) f0 f1 f3 f4 f5⟩
 self:=λ_ _ _ _ _ st h=>wpAny_pyIter_tupleiter st h
theorem _jk {w:World} {K:PySem.W.Frag} (it:Addr) (lo:Int) (n:Nat):Turn P w K tg (VI lo n) [it] it (λi h=>IsRangeIter h it (lo+(i:Nat)*1) ((n:Int)-(i:Nat)) 1) where
 mem:=by simp
 obj:=λi h st b hb=>by
  have e:b=it:=by simpa using hb
  subst e
  exact⟨_,st,λv z=>by
   have z':Data.fields _=Data.cell v:=z;cases z'⟩
 keep:=λi h h' st k=>k it (by simp) _ st
 item:=by
  intro X hP hw hK hc i pins s U H E I hf st hg;subst hP hw hK;obtain⟨f0,f1,f2,f3,f4,f5⟩:=hf it (by simp);have W:=Walks.range (prog:=X.prog) (w:=X.w) (I.ok.hd hc) it lo 1 n;refine W.item i s _ _ hg st λv h' tk hv st' kk=>?_;obtain⟨t,rfl⟩:=hv;have I1:Inv X pins U H { s with heap:=h',toks:=tk }:=I.turned (λb o hb e=>kk b o (by simpa using hb) e) f0 f1 f3 f4 f5;refine⟨_,rfl,Jp (s:={ s with heap:=h',toks:=tk }) (n:="range_iterator") st' rfl rfl (by decide) ⟨.int (lo+i),H,I1,⟨t,?_⟩,⟨rfl,rfl⟩,st',λb hb=>(hf b hb).1⟩⟩;rw[Int.mul_one]
 done:=by
  intro X hP hw hK hc i pins s U H E I hf st hg;subst hP hw hK;obtain⟨f0,f1,f2,f3,f4,f5⟩:=hf it (by simp);exact wpAny_pyNext_range_end (I.ok.hd hc) st (by have:n<=i:=hg;lia) λh' eb=>⟨rfl,I.turned (t':=s.toks) (λb o hb e=>eb b o hb e) f0 f1 f3 f4 f5⟩
 self:=λ_ _ _ _ _ st h=>wpAny_pyIter_rangeiter st h
inductive iList_ (K:W.Frag) (R:It->Hp->Prop) (x:V) (H1:Hp):Prop
 |mk:∀a,x=.ref a->((∃xs,SqL K H1 a xs))->R (Je K a) H1->iList_ K R x H1
def _jw (K:W.Frag) (tl:TE):TI:=λU H R=>tl U H λx H1=>iList_ K R x H1
inductive iTup_ (K:W.Frag) (R:It->Hp->Prop) (x:V) (H1:Hp):Prop
 |mk:∀a,x=.ref a->((∃xs,SqT K H1 a xs))->R (UT K a) H1->iTup_ K R x H1
def _mp (K:W.Frag) (tl:TE):TI:=λU H R=>tl U H λx H1=>iTup_ K R x H1
theorem YI {l:Expr} {tl:TE} (hl:PE X l tl):PI X tg l (_jw X.K tl):=by
 intro pins s U H R I h;refine _w (hl pins s U H _ I h) λv s1 zq=>?_;obtain⟨x,H1,I1,r1,q1⟩:=zq;obtain⟨a,e,⟨xs,hq⟩,q⟩:=q1;subst e;cases r1;obtain⟨its,rv,p,hz⟩:=I1.list hq;refine wpAny_pyIter_list p.isList ?_;refine⟨s1.heap.objs.size,[s1.heap.objs.size],_,_,H1,rfl,I1.kept (t':=s1.toks) λb o e=>Qr _ e,_nI a _,⟨_,Qw _ rfl,rfl,rfl⟩,λb hb=>?_,q⟩;have e:b=s1.heap.objs.size:=by simpa using hb
 subst e;exact I1.fpOk (Qg _) (I1.hok.fresh (Qg _))
theorem JB {l:Expr} {tl:TE} (hl:PE X l tl):PI X tg l (_mp X.K tl):=by
 intro pins s U H R I h;refine _w (hl pins s U H _ I h) λv s1 zq=>?_;obtain⟨x,H1,I1,r1,q1⟩:=zq;obtain⟨a,e,⟨xs,hq⟩,q⟩:=q1;subst e;cases r1;obtain⟨its,rv,p,hz⟩:=I1.tuple hq;refine GF (show s1.heap.IsTuple a its.toArray from p) ?_;refine⟨s1.heap.objs.size,[s1.heap.objs.size],_,_,H1,rfl,I1.kept (t':=s1.toks) λb o e=>Qr _ e,_kT a _,⟨_,Qw _ rfl,rfl,rfl⟩,λb hb=>?_,q⟩;have e:b=s1.heap.objs.size:=by simpa using hb
 subst e;exact I1.fpOk (Qg _) (I1.hok.fresh (Qg _))
theorem _hf {R:It->Hp->Prop} {lo hi:Int} {t u v:Tok} {tk:Nat} (I:Inv X pins U H s) (h1:-(2 ^ 62)<=lo) (h2:lo<2 ^ 62) (h3:-(2 ^ 62)<=hi) (h4:hi<2 ^ 62)
 (q:R (VI lo (hi-lo).toNat) H):wpAny (model X.prog X.w) X.A (pyIter (.ref s.heap.objs.size)) (PIE X pins U tg R) E { s with heap:=s.heap.push { cls:=.type "range",data:=.fields #[.int lo t,.int hi u,.int 1 v] },toks:=tk }:=by
 refine wpAny_pyIter_range (IsRange.new ..) (small_one h1 h2 h3 h4) ?_;have I1:Inv X pins U H { s with heap:=s.heap.push { cls:=.type "range",data:=.fields #[.int lo t,.int hi u,.int 1 v] },toks:=tk }:=I.kept λb o e=>Qr _ e
 refine⟨(s.heap.push { cls:=.type "range",data:=.fields #[.int lo t,.int hi u,.int 1 v] }).objs.size,[(s.heap.push { cls:=.type "range",data:=.fields #[.int lo t,.int hi u,.int 1 v] }).objs.size],_,_,H,rfl,
  I1.kept (t':=tk) λb o e=>Qr _ e,_jk _ lo (hi-lo).toNat,?_,λb hb=>?_,q⟩
 ·have e1:lo+((0:Nat):Int)*1=lo:=by simp
  have e2:(((hi-lo).toNat:Nat):Int)-((0:Nat):Int)=Builtin.Range.rangeSize lo hi 1:=by rw[rangeSize_one];split<;>lia
  show IsRangeIter _ _ (lo+((0:Nat):Int)*1) ((((hi-lo).toNat:Nat):Int)-((0:Nat):Int)) 1;rw[e1,e2];exact Qw _ rfl
 ·have e:b=(s.heap.push { cls:=.type "range",data:=.fields #[.int lo t,.int hi u,.int 1 v] }).objs.size:=by simpa using hb
  subst e;exact I1.fpOk (Qg _) (I1.hok.fresh (Qg _))
inductive iRng1_ (R:It->Hp->Prop) (vs:List V) (H1:Hp):Prop
 |mk:∀j:Int,vs=[.int j]->-(2 ^ 62)<=j->j<2 ^ 62->R (VI 0 j.toNat) H1->iRng1_ R vs H1
def _mu (ta:TA):TI:=λU H R=>ta U H λvs H1=>iRng1_ R vs H1
theorem Jz {a:Expr} {ta:TA} (hg:Gl X "range") (hm:X.mg "range"=none) (ha:PA X [a] ta) (hs:starEach [a] X.env=[(false,eval a X.env)]:=by rfl):PI X tg (.Call (.Name "range" p) [a] [] pos) (_mu ta):=by
 intro pins s U H R I h;refine Call_ (UQ I hg hm boot_range (NM (_w (ha pos pins s U H _ I h) λus s1 zq=>?_) hs rfl));obtain⟨vs,H1,I1,r1,q1⟩:=zq;obtain⟨j,e,q1,q2,q⟩:=q1;subst e;cases r1 with
 |cons r rr =>
  cases rr;obtain⟨t,rfl⟩:=r;exact call_range_1 (_hf I1 (by lia) (by lia) q1 q2 (by simpa using q))
def _hv (wi:TI) (g:TG) (tb:TS):TS:=λD U H=>wi U H λJ H1=>∃W:Nat->Nat->St->Hp->Prop,(∃m,W 0 m U H1)/\∀i m U H,W i m U H →
 (J.stop i H/\D.nx U H)\/(J.go i H/\∃N:St->Hp->Prop,(∀σ' H',N σ' H'->∃m',m'<m/\W (i+1) m' σ' H')/\∀x H',J.yld i H x H'->g x U H' λσ2 H2=>tb { D with nx:=N,ct:=N,bk:=D.nx } σ2 H2)
noncomputable def UX (fp:B5) (h:Heap):A4:=fp.filterMap λb=>(h.get? b).map λo=>(b,o)
theorem _aj {o:Obj} (hb:b∈fp) (e:h.get? b=some o):(b,o)∈UX fp h:=RN.mpr ⟨b,hb,by rw[e];rfl⟩
theorem _hW {p:A3} (hp:p∈UX fp h):p.1∈fp/\h.get? p.1=some p.2:=by
 obtain⟨b,hb,e⟩:=RN.mp hp;cases q:h.get? b with
 |none=>rw[q] at e;cases e
 |some o =>
  rw[q] at e;have e':(b,o)=p:=Qt e;subst e';exact⟨hb,q⟩
theorem Inv.pinned (I:Inv X pins U H s) (hf:∀b∈fp,XM X pins H b) (ho:∀b∈fp,∃o,s.heap.get? b=some o/\∀v,o.data≠.cell v):Inv X (pins++UX fp s.heap) U H s :=
 I.pins_of λp hp=>(Qn.mp hp).elim (λz=>I.pin p (QZ _ z)) λz=>by
  obtain⟨hb,e⟩:=_hW z;obtain⟨f0,f1,f2,_⟩:=hf p.1 hb;obtain⟨o,e',d⟩:=ho p.1 hb;rw[e] at e';cases e';exact⟨e,f0,f1,f2,d⟩
theorem Inv.unpinned {pl:A4} (I:Inv X (pins++pl) U H s):Inv X pins U H s:=I.pins_of λp hp=>I.pin p (QZ _ (QG _ hp))
theorem YU {iter:Expr} {wi:TI} {g:TG} (hp:PassesOwn (model X.prog X.w) X.A X.env X.xe) (hc:X.calm=true) (hi:PI X tg iter wi) (hg:PG X tg g) (hb:PSs X body tb)
 (hs:∀x,foldedSetIterable iter X.env x=pure x:=by intro _;rfl):PS X (.For tg iter body [] pos) (_hv wi g tb):=by
 intro pins s U H D I h;refine wpAny_For (_w (hi pins s U H _ I h) λv s1 h1=>_w h1 λitv s2 h2=>?_) hs;obtain⟨it,fp,tn,J,H2,e,I2,T,st2,f2,W,⟨m0,w0⟩,turn⟩:=h2;subst e;have stat:∀{H':Hp},(∀b∈fp,H' b=none)->∀b∈fp,XM X pins H' b:=λhn b hb=>⟨hn b hb,(f2 b hb).2⟩;refine codeAny_forLoop_any (λn s'=>∃i σ' H',Inv X pins σ' H' s'/\tn i s'.heap/\(∀b∈fp,H' b=none)/\W i n σ' H') ?_ m0 ⟨0,U,H2,I2,st2,λb hb=>(f2 b hb).1,w0⟩;rintro n s3 ⟨i,σ3,H3,I3,st3,fr3,w3⟩;rcases turn i n σ3 H3 w3 with⟨stop,qn⟩|⟨go,N,hN,step⟩
 ·refine R4 hp (_w (T.done X rfl rfl rfl hc i pins s3 σ3 H3 X.xe I3 (stat fr3) st3 stop) λr s4 zq=>?_);obtain⟨hr,I4⟩:=zq;subst hr;exact GE ⟨σ3,H3,I4,qn⟩
 ·refine R4 hp (_w (T.item X rfl rfl rfl hc i pins s3 σ3 H3 X.xe I3 (stat fr3) st3 go) λr s4 zq=>?_);obtain⟨u,hr,h4⟩:=zq;subst hr;refine R4 hp (_w h4 λ_ s5 zq=>?_);obtain⟨x,H5,I5,r5,y5,st5,fr5⟩:=zq;have I5':=I5.pinned (stat fr5) (T.obj _ _ st5);refine R4 hp (_w (hg _ s5 σ3 H5 x u _ I5' r5 (step x H5 y5)) λ_ s6 zq=>?_);obtain⟨σ6,H6,I6,q6⟩:=zq;refine R4 hp (_w (hb _ s6 σ6 H6 _ I6 q6) λf s7 q7=>?_)
  have again:∀{σ7:St} {H7:Hp},Inv X (pins++UX fp s5.heap) σ7 H7 s7->N σ7 H7->∃m,m<n/\∃i σ' H',Inv X pins σ' H' s7/\tn i s7.heap/\(∀b∈fp,H' b=none)/\W i m σ' H':=λ{σ7 H7} I7 n7=>by
   obtain⟨m',hm,w7⟩:=hN σ7 H7 n7;refine⟨m',hm,i+1,σ7,H7,I7.unpinned,T.keep _ _ _ st5 λb hb o e=>(I7.pin (b,o) (QZ _ (QZ _ (_aj hb e)))).1,λb hb=>?_,w7⟩;obtain⟨o,e,d⟩:=T.obj _ _ st5 b hb;exact(I7.pin (b,o) (QZ _ (QZ _ (_aj hb e)))).2.1
  cases f with
  |next=>obtain⟨σ7,H7,I7,n7⟩:=q7;exact again I7 n7
  |cont=>obtain⟨σ7,H7,I7,n7⟩:=q7;exact again I7 n7
  |brk=>obtain⟨σ7,H7,I7,q7⟩:=q7;exact⟨σ7,H7,I7.unpinned,q7⟩
  |ret v=>obtain⟨x7,σ7,H7,I7,r7,q7⟩:=q7;exact⟨x7,σ7,H7,I7.unpinned,r7,q7⟩
theorem Wo {K:PySem.W.Frag} {g:TG} {D:Ends} (Pv:Nat->St->Hp->Prop) (h0:Pv 0 U H) (hl:∀i U H,i<=xs.length->Pv i U H->SqL K H a xs)
 (hs:∀i x U H,xs[i]?=some x->Pv i U H->g x U H λσ2 H2=>tb { D with nx:=Pv (i+1),ct:=Pv (i+1),bk:=D.nx } σ2 H2) (hd:∀U H,Pv xs.length U H->D.nx U H) :
  ∃W:Nat->Nat->St->Hp->Prop,(∃m,W 0 m U H)/\∀i m U H,W i m U H →
   ((Je K a).stop i H/\D.nx U H)\/((Je K a).go i H/\∃N:St->Hp->Prop,(∀σ' H',N σ' H'->∃m',m'<m/\W (i+1) m' σ' H')/\∀x H',(Je K a).yld i H x H'->g x U H' λσ2 H2=>tb { D with nx:=N,ct:=N,bk:=D.nx } σ2 H2):=by
 refine⟨λi m U H=>m=xs.length-i/\i<=xs.length/\Pv i U H,⟨xs.length,by simp,QN _,h0⟩,?_⟩;rintro i m U H ⟨rfl,hi,p⟩;have q:=hl i U H hi p;by_cases hlt:i<xs.length
 ·refine .inr ⟨⟨xs,xs[i],q,by simp[hlt]⟩,Pv (i+1),λσ' H' p'=>⟨xs.length-(i+1),by lia,rfl,hlt,p'⟩,λx H' y=>?_⟩;obtain⟨e,y⟩:=y;subst e;exact hs i x U _ (y xs q) p
 ·have e:i=xs.length:=by lia
  subst e;exact .inl ⟨⟨xs,q,Qg _⟩,hd U H p⟩
theorem _e3 {K:PySem.W.Frag} {g:TG} {D:Ends} (Pv:Nat->St->Hp->Prop) (h0:Pv 0 U H) (hl:∀i U H,i<=xs.length->Pv i U H->SqT K H a xs)
 (hs:∀i x U H,xs[i]?=some x->Pv i U H->g x U H λσ2 H2=>tb { D with nx:=Pv (i+1),ct:=Pv (i+1),bk:=D.nx } σ2 H2) (hd:∀U H,Pv xs.length U H->D.nx U H) :
  ∃W:Nat->Nat->St->Hp->Prop,(∃m,W 0 m U H)/\∀i m U H,W i m U H →
   ((UT K a).stop i H/\D.nx U H)\/((UT K a).go i H/\∃N:St->Hp->Prop,(∀σ' H',N σ' H'->∃m',m'<m/\W (i+1) m' σ' H')/\∀x H',(UT K a).yld i H x H'->g x U H' λσ2 H2=>tb { D with nx:=N,ct:=N,bk:=D.nx } σ2 H2):=by
 refine⟨λi m U H=>m=xs.length-i/\i<=xs.length/\Pv i U H,⟨xs.length,by simp,QN _,h0⟩,?_⟩;rintro i m U H ⟨rfl,hi,p⟩;have q:=hl i U H hi p;by_cases hlt:i<xs.length
 ·refine .inr ⟨⟨xs,xs[i],q,by simp[hlt]⟩,Pv (i+1),λσ' H' p'=>⟨xs.length-(i+1),by lia,rfl,hlt,p'⟩,λx H' y=>?_⟩;obtain⟨e,y⟩:=y;subst e;exact hs i x U _ (y xs q) p
 ·have e:i=xs.length:=by lia
  subst e;exact .inl ⟨⟨xs,q,Qg _⟩,hd U H p⟩
theorem _an {lo:Int} {g:TG} {D:Ends} (Pv:Nat->St->Hp->Prop) (h0:Pv 0 U H)
 (hs:∀i U H,i<n->Pv i U H->g (.int (lo+i)) U H λσ2 H2=>tb { D with nx:=Pv (i+1),ct:=Pv (i+1),bk:=D.nx } σ2 H2) (hd:∀U H,Pv n U H->D.nx U H) :
  ∃W:Nat->Nat->St->Hp->Prop,(∃m,W 0 m U H)/\∀i m U H,W i m U H →
   ((VI lo n).stop i H/\D.nx U H)\/((VI lo n).go i H/\∃N:St->Hp->Prop,(∀σ' H',N σ' H'->∃m',m'<m/\W (i+1) m' σ' H')/\∀x H',(VI lo n).yld i H x H'->g x U H' λσ2 H2=>tb { D with nx:=N,ct:=N,bk:=D.nx } σ2 H2):=by
 refine⟨λi m U H=>m=n-i/\i<=n/\Pv i U H,⟨n,by simp,QN _,h0⟩,?_⟩;rintro i m U H ⟨rfl,hi,p⟩;by_cases hlt:i<n
 ·refine .inr ⟨hlt,Pv (i+1),λσ' H' p'=>⟨n-(i+1),by lia,rfl,hlt,p'⟩,λx H' y=>?_⟩;obtain⟨e,y⟩:=y;subst e y;exact hs i U _ hlt p
 ·have e:i=n:=by lia
  subst e;exact .inl ⟨Qg _,hd U H p⟩
abbrev R2:=V->V->Hp->VK->Prop
def Yb (X:Cx) (f:Value->Value->Sem Value) (r:R2):Prop :=
 ∀(pins:A4) (s:Shared) (U:St) (H:Hp) (x y:V) (v u:Value) (Q:VK),Inv X pins U H s->RelV x v->RelV y u->r x y H Q →
  wpAny (model X.prog X.w) X.A (f v u) (EP X pins U Q) X.xe s
def UnR (X:Cx) (f:Value->Sem Value) (r:V->Hp->VK->Prop):Prop :=
 ∀(pins:A4) (s:Shared) (U:St) (H:Hp) (x:V) (v:Value) (Q:VK),Inv X pins U H s->RelV x v->r x H Q →
  wpAny (model X.prog X.w) X.A (f v) (EP X pins U Q) X.xe s
def YE (X:Cx) (f:Value) (r:List V->Hp->VK->Prop):Prop :=
 ∀(pins:A4) (s:Shared) (U:St) (H:Hp) (xs:List V) (us:B1) (Q:VK),Inv X pins U H s->Vals xs us->r xs H Q →
  wpAny (model X.prog X.w) X.A (call f us) (EP X pins U Q) X.xe s
def VO (r:R2) (ta tb:TE):TE:=λU H Q=>ta U H λx H1=>tb U H1 λy H2=>r x y H2 Q
def tUn (r:V->Hp->VK->Prop) (ta:TE):TE:=λU H Q=>ta U H λx H1=>r x H1 Q
inductive rI (C:Int->Int->Prop) (g:Int->Int->V) (x:V) (y:V) (H:Hp) (Q:VK):Prop
 |mk:∀i j,x=.int i->y=.int j->C i j->Q (g i j) H->rI C g x y H Q
inductive rI0 (g:Int->Int->V) (x:V) (y:V) (H:Hp) (Q:VK):Prop
 |mk:∀i j,x=.int i->y=.int j->Q (g i j) H->rI0 g x y H Q
inductive rU (g:Int->V) (x:V) (H:Hp) (Q:VK):Prop
 |mk:∀i,x=.int i->Q (g i) H->rU g x H Q
section
variable{a b:Expr} {tb tc:TE}
theorem _aW (ha:PE X a ta) (hb:PE X b tb) {R:V->V->Hp->Prop} (I:Inv X pins U H s)
 (h:ta U H λx H1=>tb U H1 λy H2=>R x y H2) 
 (hf:∀v u s2 x y H2,Inv X pins U H2 s2->RelV x v->RelV y u->R x y H2->wpAny (model X.prog X.w) X.A (f v u) Q X.xe s2) :
  wpAny (model X.prog X.w) X.A (eval a X.env) (λv s₁=>wpAny (model X.prog X.w) X.A (eval b X.env) (λu s₂=>wpAny (model X.prog X.w) X.A (f v u) Q X.xe s₂) X.xe s₁) X.xe s:=by
 refine _w (ha pins s U H _ I h) λv s1 zq=>?_;obtain⟨x,H1,I1,r1,q1⟩:=zq;refine _w (hb pins s1 U H1 _ I1 q1) λu s2 zq=>?_;obtain⟨y,H2,I2,r2,q2⟩:=zq;exact hf v u s2 x y H2 I2 r1 r2 q2
theorem _s {op:Operator} {r:R2} (ho:Yb X (binaryOp op) r) (ha:PE X a ta) (hb:PE X b tb):PE X (.BinOp a op b pos) (VO r ta tb):=by
 intro pins s U H Q I h;exact wpAny_BinOp (_aW ha hb I h λv u s2 x y H2 I2 rx ry q=>ho pins s2 U H2 x y v u Q I2 rx ry q)
theorem _gg {op:UnaryOp} {r:V->Hp->VK->Prop} (ho:UnR X (unaryOp op) r) (ha:PE X a ta):PE X (.UnaryOp op a pos) (tUn r ta):=by
 intro pins s U H Q I h;refine UnaryOp_ (_w (ha pins s U H _ I h) λv s1 zq=>?_);obtain⟨x,H1,I1,r1,q1⟩:=zq;exact ho pins s1 U H1 x v Q I1 r1 q1
theorem UW {C:Int->Int->Prop} {g:Int->Int->Int}
 (rule:∀(i j:Int) (t u:Tok) (s:Shared) (Q:Value->Shared->Prop) (E:Value->Shared->Prop),C i j->Q (.int (g i j) s.toks) { s with toks:=s.toks+1 }->wpAny (model X.prog X.w) X.A (f (.int i t) (.int j u)) Q E s) :
  Yb X f (rI C λi j=>.int (g i j)):=by
 intro pins s U H x y v u Q I rx ry h;obtain⟨i,j,rfl,rfl,hc,q⟩:=h;obtain⟨t,rfl⟩:=rx;obtain⟨t',rfl⟩:=ry;exact rule i j t t' s _ _ hc ⟨.int (g i j),H,I.tok _,⟨_,rfl⟩,q⟩
theorem _d8 {g:Int->Int->Int}
 (rule:∀(i j:Int) (t u:Tok) (s:Shared) (Q:Value->Shared->Prop) (E:Value->Shared->Prop),Q (.int (g i j) s.toks) { s with toks:=s.toks+1 }->wpAny (model X.prog X.w) X.A (f (.int i t) (.int j u)) Q E s) :
  Yb X f (rI0 λi j=>.int (g i j)):=by
 intro pins s U H x y v u Q I rx ry h;obtain⟨i,j,rfl,rfl,q⟩:=h;obtain⟨t,rfl⟩:=rx;obtain⟨t',rfl⟩:=ry;exact rule i j t t' s _ _ ⟨.int (g i j),H,I.tok _,⟨_,rfl⟩,q⟩
theorem _aB {g:Int->Int->Bool}
 (rule:∀(i j:Int) (t u:Tok) (s:Shared) (Q:Value->Shared->Prop) (E:Value->Shared->Prop),Q (.bool (g i j)) s->wpAny (model X.prog X.w) X.A (f (.int i t) (.int j u)) Q E s) :
  Yb X f (rI0 λi j=>.bl (g i j)):=by
 intro pins s U H x y v u Q I rx ry h;obtain⟨i,j,rfl,rfl,q⟩:=h;obtain⟨t,rfl⟩:=rx;obtain⟨t',rfl⟩:=ry;exact rule i j t t' s _ _ ⟨.bl (g i j),H,I,rfl,q⟩
def W5 (i j:Int):Prop:=0<=j/\j<=1000000/\i.natAbs<2 ^ 64
def CMul (i j:Int):Prop:=(-(2 ^ 64)<i/\i<2 ^ 64)\/(-(2 ^ 64)<j/\j<2 ^ 64)
theorem CMul.ok {i j:Int} (h:CMul i j):IntMulOk i j:=by
 rcases h with⟨h1,h2⟩|⟨h1,h2⟩
 ·exact .of_left (intBits_le_64 h1 h2)
 ·exact .of_right (intBits_le_64 h1 h2)
theorem YX:Yb X (binaryOp .Add) (rI0 λi j=>.int (i+j)):=_d8 λ_ _ _ _ _ _ _ q=>add_int q
theorem VY:Yb X (binaryOp .Sub) (rI0 λi j=>.int (i-j)):=_d8 λ_ _ _ _ _ _ _ q=>sub_int q
theorem Xq:Yb X (binaryOp .Mult) (rI CMul λi j=>.int (i*j)):=UW λ_ _ _ _ _ _ _ hc q=>mul_int q hc.ok
theorem Yj:Yb X (binaryOp .Mod) (rI (λ_ j=>j≠0) λi j=>.int (i.fmod j)):=UW λ_ _ _ _ _ _ _ hc q=>mod_int' hc q
theorem X1:Yb X (binaryOp .Pow) (rI W5 λi j=>.int (i ^ j.toNat)):=UW λ_ _ _ _ _ _ _ hc q=>pow_int_small hc.1 hc.2.1 hc.2.2 q
theorem unI {f:Value->Sem Value} {g:Int->Int}
 (rule:∀(i:Int) (t:Tok) (s:Shared) (Q:Value->Shared->Prop) (E:Value->Shared->Prop),Q (.int (g i) s.toks) { s with toks:=s.toks+1 }->wpAny (model X.prog X.w) X.A (f (.int i t)) Q E s) :
  UnR X f (rU λi=>.int (g i)):=by
 intro pins s U H x v Q I rx h;obtain⟨i,rfl,q⟩:=h;obtain⟨t,rfl⟩:=rx;exact rule i t s _ _ ⟨.int (g i),H,I.tok _,⟨_,rfl⟩,q⟩
theorem _eC:UnR X (unaryOp .USub) (rU λi=>.int (-i)):=unI λ_ _ _ _ _ q=>neg_int q
end
noncomputable def _bq:V->V->Bool
 |.non,.non=>true|.non,.int _=>true|.int _,.non=>true|.non,.bl _=>true|.bl _,.non=>true|.non,.str _=>true|.str _,.non=>true
 |.int _,.int _=>true|.bl _,.bl _=>true|.str _,.str _=>true|.byt _,.byt _=>true
 |.int _,.str _=>true|.str _,.int _=>true|.bl _,.str _=>true|.str _,.bl _=>true
 |_,_=>false
def rEq:R2:=λx y H Q=>_bq x y=true/\Q (.bl (decide (x=y))) H
def rNe:R2:=λx y H Q=>_bq x y=true/\Q (.bl (!decide (x=y))) H
theorem _b6 {i j:Int}:decide (V.int i=V.int j)=(i==j):=by
 rw[Q0];simp
theorem _dL {i j:Bool}:decide (V.bl i=V.bl j)=(i==j):=by
 rw[Q0];simp
theorem _gp {i j:Str}:decide (V.str i=V.str j)=(i==j):=by
 rw[Q0];simp
theorem _bV {i j:Array UInt8}:decide (V.byt i=V.byt j)=(i.toList==j.toList):=by
 rw[Q0];cases i;cases j;simp
section
variable{a b:Expr} {tb tc:TE}
theorem _4 {Q:VK} {k k':Bool} (I:Inv X pins U H s) (q:Q (.bl k) H) (e:k=k'):EP X pins U Q (.bool k') s:=by
 subst e;exact⟨.bl k,H,I,rfl,q⟩
theorem _S:Yb X (compareOp .Eq) rEq:=by
 intro pins s U H x y v u Q I rx ry h;obtain⟨hs,q⟩:=h;cases x with
 |non =>
  cases rx;cases y with
  |non=>cases ry;exact PySem.EqNone.eq_none_none (_4 I q (by simp))
  |bl j=>cases ry;exact PySem.EqNone.eq_none_bool (_4 I q (by simp))
  |int j=>obtain⟨t',rfl⟩:=ry;exact PySem.EqNone.eq_none_int (_4 I q (by simp))
  |str j=>obtain⟨t',rfl⟩:=ry;exact PySem.EqNone.eq_none_str (_4 I q (by simp))
  |_=>exact absurd (show false=true from hs) QD
 |bl i =>
  cases rx;cases y with
  |non=>cases ry;exact PySem.EqNone.eq_bool_none (_4 I q (by simp))
  |bl j=>cases ry;exact eq_bool (_4 I q _dL)
  |str j=>obtain⟨t',rfl⟩:=ry;exact PySem.EqMixed.eq_bool_str (_4 I q (by simp))
  |_=>exact absurd (show false=true from hs) QD
 |int i =>
  obtain⟨t,rfl⟩:=rx;cases y with
  |non=>cases ry;exact PySem.EqNone.eq_int_none (_4 I q (by simp))
  |int j=>obtain⟨t',rfl⟩:=ry;exact eq_int (_4 I q _b6)
  |str j=>obtain⟨t',rfl⟩:=ry;exact PySem.EqMixed.eq_int_str (_4 I q (by simp))
  |_=>exact absurd (show false=true from hs) QD
 |str i =>
  obtain⟨t,rfl⟩:=rx;cases y with
  |non=>cases ry;exact PySem.EqNone.eq_str_none (_4 I q (by simp))
  |bl j=>cases ry;exact PySem.EqMixed.eq_str_bool (_4 I q (by simp))
  |int j=>obtain⟨t',rfl⟩:=ry;exact PySem.EqMixed.eq_str_int (_4 I q (by simp))
  |str j=>obtain⟨t',rfl⟩:=ry;exact eq_str (_4 I q _gp)
  |_=>exact absurd (show false=true from hs) QD
 |byt i =>
  obtain⟨t,rfl⟩:=rx;cases y with
  |byt j=>obtain⟨t',rfl⟩:=ry;exact W.eq_bytes (_4 I q _bV)
  |_=>exact absurd (show false=true from hs) QD
 |_=>cases y<;>exact absurd (show false=true from hs) QD
theorem XN:Yb X (compareOp .NotEq) rNe:=by
 intro pins s U H x y v u Q I rx ry h;obtain⟨hs,q⟩:=h;cases x with
 |non =>
  cases rx;cases y with
  |non=>cases ry;exact PySem.EqNone.ne_none_none (_4 I q (by simp))
  |bl j=>cases ry;exact PySem.EqNone.ne_none_bool (_4 I q (by simp))
  |int j=>obtain⟨t',rfl⟩:=ry;exact PySem.EqNone.ne_none_int (_4 I q (by simp))
  |str j=>obtain⟨t',rfl⟩:=ry;exact PySem.EqNone.ne_none_str (_4 I q (by simp))
  |_=>exact absurd (show false=true from hs) QD
 |bl i =>
  cases rx;cases y with
  |non=>cases ry;exact PySem.EqNone.ne_bool_none (_4 I q (by simp))
  |bl j=>cases ry;exact ne_bool (_4 I q (QI not _dL))
  |str j=>obtain⟨t',rfl⟩:=ry;exact PySem.EqMixed.ne_bool_str (_4 I q (by simp))
  |_=>exact absurd (show false=true from hs) QD
 |int i =>
  obtain⟨t,rfl⟩:=rx;cases y with
  |non=>cases ry;exact PySem.EqNone.ne_int_none (_4 I q (by simp))
  |int j=>obtain⟨t',rfl⟩:=ry;exact ne_int (_4 I q (QI not _b6))
  |str j=>obtain⟨t',rfl⟩:=ry;exact PySem.EqMixed.ne_int_str (_4 I q (by simp))
  |_=>exact absurd (show false=true from hs) QD
 |str i =>
  obtain⟨t,rfl⟩:=rx;cases y with
  |non=>cases ry;exact PySem.EqNone.ne_str_none (_4 I q (by simp))
  |bl j=>cases ry;exact PySem.EqMixed.ne_str_bool (_4 I q (by simp))
  |int j=>obtain⟨t',rfl⟩:=ry;exact PySem.EqMixed.ne_str_int (_4 I q (by simp))
  |str j=>obtain⟨t',rfl⟩:=ry;exact ne_str (_4 I q (QI not _gp))
  |_=>exact absurd (show false=true from hs) QD
 |byt i =>
  obtain⟨t,rfl⟩:=rx;cases y with
  |byt j=>obtain⟨t',rfl⟩:=ry;exact W.ne_bytes (_4 I q (QI not _bV))
  |_=>exact absurd (show false=true from hs) QD
 |_=>cases y<;>exact absurd (show false=true from hs) QD
theorem U9:Yb X (compareOp .Lt) (rI0 λi j=>.bl (decide (i<j))):=_aB λ_ _ _ _ _ _ _ q=>lt_int q
theorem Uq:Yb X (compareOp .LtE) (rI0 λi j=>.bl (decide (i<=j))):=_aB λ_ _ _ _ _ _ _ q=>le_int q
theorem Jv:Yb X (compareOp .Gt) (rI0 λi j=>.bl (decide (j<i))):=_aB λ_ _ _ _ _ _ _ q=>gt_int q
theorem U3:Yb X (compareOp .GtE) (rI0 λi j=>.bl (decide (j<=i))):=_aB λ_ _ _ _ _ _ _ q=>ge_int q
theorem _i8:Yb X (compareOp .Lt) (λx y H Q=>∃i j,x=.str i/\y=.str j/\Q (.bl (decide (i.cps.toList<j.cps.toList))) H):=by
 intro pins s U H x y v u Q I rx ry h;obtain⟨i,j,rfl,rfl,q⟩:=h;obtain⟨t,rfl⟩:=rx;obtain⟨t',rfl⟩:=ry;exact lt_str (_4 I q rfl)
theorem _mR:Yb X (compareOp .In) (λx y H Q=>∃i j,x=.str i/\y=.str j/\Q (.bl (!(Builtin.Str.occurrences j i 0 j.length 1).isEmpty)) H):=by
 intro pins s U H x y v u Q I rx ry h;obtain⟨i,j,rfl,rfl,q⟩:=h;obtain⟨t,rfl⟩:=rx;obtain⟨t',rfl⟩:=ry;exact in_str (_4 I q rfl)
theorem _f0:Yb X (compareOp .Is) (λx y H Q=>y=.non/\Q (.bl (decide (x=.non))) H):=by
 intro pins s U H x y v u Q I rx ry h;obtain⟨rfl,q⟩:=h;cases ry;refine is_none_gen (_4 I q ?_)
 cases x<;>first
  | (cases rx;rfl)
  | (obtain⟨t,rfl⟩:=rx;rfl)
theorem _x (b:Expr) (h:op≠.In:=by decide) (h2:op≠.NotIn:=by decide):behindInMarks op b=false:=by
 have e1:(op==CmpOp.In)=false:=by cases op<;>first|rfl|exact absurd rfl h
 have e2:(op==CmpOp.NotIn)=false:=by cases op<;>first|rfl|exact absurd rfl h2
 cases b<;>simp[behindInMarks,e1,e2]
theorem Yp {r:R2} (ho:Yb X (compareOp op) r) (ha:PE X a ta) (hb:PE X b tb) (hm:behindInMarks op b=false):PE X (.Compare a [op] [b] pos) (VO r ta tb):=by
 intro pins s U H Q I h;exact wpAny_Compare1 (_aW ha hb I h λv u s2 x y H2 I2 rx ry q=>ho pins s2 U H2 x y v u Q I2 rx ry q) hm
inductive tTest_ (Q:Bool->Hp->Prop) (x:V) (H':Hp):Prop
 |mk:∀k,x=.bl k->Q k H'->tTest_ Q x H'
def _lJ (t:TE):TT:=λU H Q=>t U H λx H'=>tTest_ Q x H'
theorem _A {r:R2} (ho:Yb X (compareOp op) r) (ha:PE X a ta) (hb:PE X b tb) (hm:behindInMarks op b=false):PT X (.Compare a [op] [b] pos) (_lJ (VO r ta tb)):=by
 intro pins s U H Q I h
 refine wpAny_isTrue_Compare1 (_w (ha pins s U H _ I h) λv s1 zq=>?_) hm;obtain⟨x,H1,I1,r1,q1⟩:=zq;refine _w (hb pins s1 U H1 _ I1 q1) λu s2 zq =>?_;obtain⟨y,H2,I2,r2,q2⟩:=zq;refine _w (ho pins s2 U H2 x y v u _ I2 r1 r2 q2) λc s3 zq=>?_;obtain⟨z,H3,I3,r3,k,e,q3⟩:=zq
 subst e;cases r3;exact R3 ⟨H3,I3,q3⟩
theorem UL:(sizeLine:Nat)<2 ^ 63:=by rw[GG];decide
theorem _nT:Yb X (binaryOp .Add) (λx y H Q=>∃i j,x=.str i/\y=.str j/\i.length+j.length<=sizeLine/\Q (.str (i++j)) H):=by
 intro pins s U H x y v u Q I rx ry h;obtain⟨i,j,rfl,rfl,hz,q⟩:=h;obtain⟨t,rfl⟩:=rx;obtain⟨t',rfl⟩:=ry;exact add_str (λt' tk=>⟨.str (i++j),H,I.tok _,⟨_,rfl⟩,q⟩) hz
theorem Xe {x:V} (r:Vals [x] us):∃u,us=[u]/\RelV x u:=by
 cases r with
 |cons r1 r2=>cases r2;exact⟨_,rfl,r1⟩
theorem V4 {x:V} (r:Vals [x,y] us):∃u w',us=[u,w']/\RelV x u/\RelV y w':=by
 cases r with
 |cons r1 r2 =>
  cases r2 with
  |cons r3 r4=>cases r4;exact⟨_,_,rfl,r1,r3⟩
theorem _mj:YE X (.builtin "abs") (λxs H Q=>∃i,xs=[.int i]/\Q (.int (if i<0 then -i else i)) H):=by
 intro pins s U H xs us Q I r h;obtain⟨i,rfl,q⟩:=h;obtain⟨u,rfl,t,rfl⟩:=Xe r;exact call_abs_int λu tk=>⟨.int (if i<0 then -i else i),H,I.tok _,⟨_,rfl⟩,q⟩
theorem _cL (hc:X.calm=true):YE X (.builtin "max") (λxs H Q=>∃i j,xs=[.int i,.int j]/\Q (.int (if j > i then j else i)) H):=by
 intro pins s U H xs us Q I r h;obtain⟨i,j,rfl,q⟩:=h;obtain⟨u,w',rfl,⟨t,rfl⟩,⟨t',rfl⟩⟩:=V4 r;refine max_two_ints (I.ok.hd hc) λh' tk k=>⟨_,H,I.kept k,?_,q⟩;by_cases hj:j > i
 ·rw[Qb hj,Qb hj];exact⟨_,rfl⟩
 ·rw[Qa hj,Qa hj];exact⟨_,rfl⟩
theorem _kZ:YE X (.type "int") (λxs H Q=>(∃i,xs=[.int i]/\Q (.int i) H)\/∃k,xs=[.bl k]/\Q (.int (if k then 1 else 0)) H):=by
 intro pins s U H xs us Q I r h;rcases h with⟨i,rfl,q⟩|⟨k,rfl,q⟩
 ·obtain⟨u,rfl,t,rfl⟩:=Xe r;exact call_int_int ⟨.int i,H,I,⟨_,rfl⟩,q⟩
 ·obtain⟨u,rfl,r1⟩:=Xe r;cases r1;exact call_int_bool ⟨.int (if k then 1 else 0),H,I.tok _,⟨_,rfl⟩,q⟩
end
structure ObjM (h:Heap) (x dx C:Addr) (mA:Str->B4):Prop where
 obj:h.get? x=some (W.instObj C dx)
 ns:h.Ns1 dx mA
 ne:dx≠x
theorem _ho (n:h.Ns1 dx mA):∃od,h.get? dx=some od/\∀name,W.lookIn name od=some (mA name):=by
 obtain⟨o,es,ep,ho,hd,hk,_,hm⟩:=n;refine⟨o,ho,λname=>?_⟩;have e:=hm name;unfold nsFind findBy at e;rw[<-Array.find?_toList] at e;unfold W.lookIn;rw[hd];dsimp only;split
 ·rename_i y q;rw[q] at e;exact QI some e
 ·rename_i q;rw[q] at e
  have a:es.toList.any (·.refKey)=false:=by
   rw[NN];intro y hy;obtain⟨z,t,hkey⟩:=hk y (Array.mem_toList_iff.mp hy);simp[DictEntry.refKey,hkey]
  have a':¬es.toList.any (·.refKey)=true:=by rw[a];exact QD
  rw[Qa a'];exact QI some e
theorem ObjM.look {x:Addr} (I:ObjM h x dx C mA):∃od,W.InstAt h x (W.instObj C dx) C (some od)/\∀name,W.lookIn name od=some (mA name) :=
 let ⟨od,ho,hl⟩:=_ho I.ns
 ⟨od,⟨I.obj,rfl,rfl,ho⟩,hl⟩
section
variable{prog:Program} {w:World} {K:W.Frag} {x f:Addr} {name:Str} {v:Value}
theorem _oa {expr:Bool} (X:K.In s.heap) (I:ObjM s.heap x dx C mA) (hg:W.plainGet K C name=true) (hh:W.hasDictIn K C=true)
 (ha:W.findIn K (.ref C) name=some none) (hv:mA name=some v) (hv':W.handedIn v=true) (h:Q v { s with toks:=s.toks+1 }) :
  wpAny (model prog w) A (getAttr (.ref x) name expr) Q E s:=by
 obtain⟨od,J,hl⟩:=I.look;exact W.get_value X J (W.plainGet_of hg).1 (W.findObj_own hh ha rfl (by rw[hl,hv])) hv' h
theorem _my {pl:Sem Bool} {Q:Value×B1->Shared->Prop} (X:K.In s.heap) (I:ObjM s.heap x dx C mA) (hg:W.plainGet K C name=true)
 (hf:W.findIn K (.ref C) name=some (some (.ref f))) (ht:W.isFn K (.ref f)=true) (hv:mA name=none) (h:Q (.ref f,[.ref x]) s) :
  wpAny (model prog w) A (getMethod (.ref x) name pl) Q E s:=by
 obtain⟨od,J,hl⟩:=I.look;exact W.method_fn X J (W.plainGet_of hg).1 (W.plainGet_of hg).2 hf (RO.mp ht) (by show(W.lookIn name od).map (·.isSome)=some false;rw[hl,hv];rfl) h
theorem _nY {ns:A9} {Q:Unit->Shared->Prop} (X:K.In s.heap) (I:ObjM s.heap x dx C mA)
 (hs:W.findIn K (.ref C) "__setattr__"=some (some (.builtin "object.__setattr__"))) (hp:W.plainOver K C=true) (ht:W.takerIn K C name=some none) (hh:W.hasDictIn K C=true)
 (hw:PySem.Within mA ns) (hsz:ns.length<=sizeLine)
 (h:∀h',ObjM h' x dx C (λy=>if y=name then some v else mA y)->Heap.SameBut dx s.heap h'->Q () { s with heap:=h',toks:=s.toks+2 }) :
  wpAny (model prog w) A (setAttr (.ref x) name v) Q E s:=by
 obtain⟨od,J,hl⟩:=I.look;refine W.set_plain X J hs (W.osa_open (s:={ s with toks:=s.toks+1 }) (r:=none) X J hp ht λb=>?_);obtain⟨cd,hc,hd'⟩:=W.any_some hh;have hx:s.heap.get? x=some ⟨.ref C,some dx,.plain,#[]⟩:=I.obj;refine Qc (Qh (Qc (Qc (wpAny_loadPart hx (Qc (W.Looks.here (s:={ s with toks:=s.toks+1 }) (W.looks_clsIn X hc) ?_))))));rw[hd'];refine Qh (a:=some dx) (Qc (Qh (Qc ?_)));refine wpAny_nsSet1 (s:={ s with toks:=s.toks+1 }) I.ns λh' hn2 hs2=>?_;obtain⟨oD,esD,epD,hoD,hdD,hcD⟩:=hn2.count (PySem.Within.cons name v hw);refine Qc (wpAny_lookBehind hoD (by rw[hdD];exact pastItsLine_dict (Qs hcD (by rw[QC];lia))) ?_);exact Qh (h _ ⟨(hs2.2 _ (QM I.ne)).trans I.obj,hn2,I.ne⟩ hs2)
theorem _iE {R:Result->Shared->Prop} {vs:B1} {kw:List A8} (X:K.In s.heap) (hm:W.makesIn K C=true)
 (hi:W.findIn K (.ref C) "__init__"=some (some (.ref f))) (hf:W.typeIn K (.ref f)=some (.type "function"))
 (h:codeAny (model prog w) (A.under (.builtin "type.__call__" ⟨.ref C::vs,kw⟩)) (.call (.ref f) ⟨.ref (s.heap.objs.size+1)::vs,kw⟩) (W.InitBack (s.heap.objs.size+1) R)
 { s with heap:=(s.heap.push W.emptyDict).push (W.instObj C s.heap.objs.size) }) :
  codeAny (model prog w) A (.call (.ref C) ⟨vs,kw⟩) R s:=by
 obtain⟨hh,g,d,t,os⟩:=s;exact W.make_core (W.makes_of X hm) (Ng X hi) (λself=>W.bind_fn X self hf) (.inl rfl) h
end
noncomputable def _G (f:Str) (v:V):List (Str×V)->List (Str×V)
 |[]=>[(f,v)]
 | (g,x)::r=>if g=f then(g,v)::r else(g,x)::_G f v r
theorem _fV (f g:Str) (v:V):∀fs:List (Str×V),(_G f v fs).lookup g=if g=f then some v else fs.lookup g
 |[]=>by
  show List.lookup g [(f,v)]=_;by_cases h:g=f
  ·have hb:(g==f)=true:=RO.mpr h;simp only[List.lookup,hb,Qb h]
  ·have hb:(g==f)=false:=RM.mpr h;simp only[List.lookup,hb,Qa h]
 | (k,x)::r=>by
  have ih:=_fV f g v r;rw[show _G f v ((k,x)::r)=(if k=f then(k,v)::r else(k,x)::_G f v r) from rfl];by_cases hk:k=f
  ·rw[Qb hk];by_cases h:g=k
   ·have hb:(g==k)=true:=RO.mpr h;simp only[List.lookup,hb,Qb (h.trans hk)]
   ·have hb:(g==k)=false:=RM.mpr h;simp only[List.lookup,hb,Qa (λe:g=f=>h (e.trans hk.symm))]
  ·rw[Qa hk];by_cases h:g=k
   ·have hb:(g==k)=true:=RO.mpr h;simp only[List.lookup,hb,Qa (λe:g=f=>hk (h.symm.trans e))]
   ·have hb:(g==k)=false:=RM.mpr h;simp only[List.lookup,hb];exact ih
theorem _aO (f:Str) (v:V):∀fs:List (Str×V),f∈(_G f v fs).map (·.1)/\∀g,g∈fs.map (·.1)->g∈(_G f v fs).map (·.1)
 |[]=>⟨by simp[_G],λg h=>by simp at h⟩
 | (k,x)::r=>by
  obtain⟨i1,i2⟩:=_aO f v r;rw[show _G f v ((k,x)::r)=(if k=f then(k,v)::r else(k,x)::_G f v r) from rfl];by_cases hk:k=f
  ·rw[Qb hk];subst hk;exact⟨by simp,λg h=>by simpa using h⟩
  ·rw[Qa hk];refine⟨?_,λg h=>?_⟩
   ·rw[Qm];exact QB _ i1
   ·rw[Qm] at h ⊢;rcases Qk.mp h with e|e
    ·exact Qk.mpr (.inl e)
    ·exact QB _ (i2 g e)
theorem _gF (f:Str) (v:V):∀fs:List (Str×V),(_G f v fs).length<=fs.length+1
 |[]=>by simp[_G]
 | (k,x)::r=>by
  have ih:=_gF f v r;rw[show _G f v ((k,x)::r)=(if k=f then(k,v)::r else(k,x)::_G f v r) from rfl];by_cases hk:k=f
  ·rw[Qb hk,QC,QC];lia
  ·rw[Qa hk,QC,QC];lia
theorem RelO.some_of {o:B4} (r:RelO (some v) o):∃u,o=some u/\RelV v u:=by
 cases o with
 |none=>exact(show False from r).elim
 |some u=>exact⟨u,rfl,r⟩
theorem RelO.none_of {o:B4} (r:RelO none o):o=none:=by
 cases o with
 |none=>rfl
 |some u=>exact(show False from r).elim
theorem _kF (r:RelV v u):W.handedIn u=true:=by
 cases v with
 |non=>cases(show u=Value.none from r);rfl
 |bl b=>cases(show u=Value.bool b from r);rfl
 |int i=>obtain⟨t,e⟩:=(show ∃t,u=Value.int i t from r);cases e;rfl
 |str x=>obtain⟨t,e⟩:=(show ∃t,u=Value.str x t from r);cases e;rfl
 |byt b=>obtain⟨t,e⟩:=(show ∃t,u=Value.bytes b t from r);cases e;rfl
 |flt b=>obtain⟨t,e⟩:=(show ∃t,u=Value.float b t from r);cases e;rfl
 |ref a=>cases(show u=Value.ref a from r);rfl
 |ty n=>cases(show u=Value.type n from r);rfl
section
variable{w:World} {fs fs':List (Str×V)}
theorem _af (hok:HOk P w H h) (e:H a=some (.ins C dx fs)):∃mA,ObjM h a dx C mA/\(∀f,RelO (fs.lookup f) (mA f))/\PySem.Within mA (fs.map (·.1))/\fs.length<=1000/\H dx=some (.own a):=by
 obtain⟨d,z,ne,ob,mA,n,r,q⟩:=(show ObjOk P w H h a (.ins C dx fs) from hok a _ e);exact⟨mA,⟨ob,n,ne⟩,r,q,z,d⟩
end
structure Cls (K:W.Frag) (C:Addr):Prop where
 pg:W.plainGet K C Str.empty=true
 hd:W.hasDictIn K C=true
 po:W.plainOver K C=true
 sa:W.findIn K (.ref C) "__setattr__"=some (some (.builtin "object.__setattr__"))
theorem Cls.get {K:W.Frag} (c:Cls K C) (f:Str):W.plainGet K C f=true:=c.pg
def NoAttr (K:W.Frag) (C:Addr) (f:Str):Prop:=W.findIn K (.ref C) f=some none
theorem NoAttr.taker {K:W.Frag} {f:Str} (n:NoAttr K C f):W.takerIn K C f=some none:=by
 unfold W.takerIn;rw[show W.findIn K (.ref C) f=some none from n];rfl
structure Meth (K:W.Frag) (C:Addr) (m:Str) (f:Addr):Prop where
 at_:W.findIn K (.ref C) m=some (some (.ref f))
 fn:W.isFn K (.ref f)=true
 kp:W.keepIn K (.ref f)=true
section
variable{fs:List (Str×V)} {f:Str}
theorem _mY {b:Bool} (I:Inv X pins U H s) (e:H a=some (.ins C dx fs)) (c:Cls X.K C) (n:NoAttr X.K C f) (l:fs.lookup f=some v)
 (h:∀u s',Inv X pins U H s'->RelV v u->Q u s'):wpAny (model X.prog X.w) A (getAttr (.ref a) f b) Q E s:=by
 obtain⟨mA,O,r,_,_,_⟩:=_af I.hok e;obtain⟨u,hu,ru⟩:=RelO.some_of (v:=v) (o:=mA f) (by rw[<-l];exact r f);exact _oa I.kIn O (c.get f) c.hd n hu (_kF ru) (h u _ (I.tok _) ru)
theorem _cT {g:Addr} {pl:Sem Bool} {Q:Value×B1->Shared->Prop} (I:Inv X pins U H s) (e:H a=some (.ins C dx fs)) (c:Cls X.K C) (k:Meth X.K C m g) (l:fs.lookup m=none)
 (h:Q (.ref g,[.ref a]) s):wpAny (model X.prog X.w) A (getMethod (.ref a) m pl) Q E s:=by
 obtain⟨mA,O,r,_,_,_⟩:=_af I.hok e;have hn:mA m=none:=RelO.none_of (by rw[<-l];exact r m);exact _my I.kIn O (c.get m) k.at_ k.fn hn h
theorem _jR {Q:Unit->Shared->Prop} (I:Inv X pins U H s) (e:H a=some (.ins C dx fs)) (c:Cls X.K C) (n:NoAttr X.K C f) (hl:fs.length<1000) (ry:RelV y u)
 (h:∀s',Inv X pins U (_d H a (.ins C dx (_G f y fs))) s'->Q () s'):wpAny (model X.prog X.w) A (setAttr (.ref a) f u) Q E s:=by
 obtain⟨mA,O,r,wi,_,ho⟩:=_af I.hok e;have hz:(fs.map (·.1)).length<=sizeLine:=by rw[Qd,GG];lia
 refine _nY I.kIn O c.sa c.po n.taker c.hd wi hz λh' O' sb=>h _ ?_;have hd:∃o,h'.get? dx=some o:=let ⟨o,_,_,e',_⟩:=O'.ns;⟨o,e'⟩;refine I.write (x:=a) (e:=dx) (by rw[e];exact True.intro) (.inr ho) (λb q hb z=>(sb.2 b hb).trans z) hd ?_;refine⟨by rw[_l O.ne];exact ho,?_,O.ne,O'.obj,_,O'.ns,λg=>?_,λg hg=>?_⟩
 ·have:=_gF f y fs;lia
 ·show RelO ((_G f y fs).lookup g) (if g=f then some u else mA g);rw[_fV];by_cases q:g=f
  ·rw[Qb q,Qb q];exact ry
  ·rw[Qa q,Qa q];exact r g
 ·by_cases q:g=f
  ·rw[q];exact(_aO f y fs).1
  ·refine(_aO f y fs).2 g (wi g λz=>hg ?_);show(if g=f then some u else mA g)=none;rw[Qa q];exact z
theorem Inv.made (I:Inv X pins U H s):Inv X pins U (_d (_d H s.heap.objs.size (.own (s.heap.objs.size+1))) (s.heap.objs.size+1) (.ins C s.heap.objs.size []))
  { s with heap:=(s.heap.push W.emptyDict).push (W.instObj C s.heap.objs.size) }:=by
 have e1:(s.heap.push W.emptyDict).get? s.heap.objs.size=some W.emptyDict:=Qw s.heap rfl
 have e2:((s.heap.push W.emptyDict).push (W.instObj C s.heap.objs.size)).get? (s.heap.objs.size+1)=some (W.instObj C s.heap.objs.size):=by
  have:=Qw (s.heap.push W.emptyDict) (o:=W.instObj C s.heap.objs.size) rfl
  rwa [Rt] at this
 have e3:(s.heap.push W.emptyDict).Ns s.heap.objs.size (λ_=>none):=⟨W.emptyDict,#[],_,e1,rfl,(λe he=>absurd he (by simp)),λ_=>rfl⟩;have I1:=I.laid (a:=s.heap.objs.size) (o:=.own (s.heap.objs.size+1)) (h':=s.heap.push W.emptyDict) (t':=s.toks) (λb u q=>Qr _ q) (Qg _) ⟨_,e1⟩;refine I1.laid (a:=s.heap.objs.size+1) (o:=.ins C s.heap.objs.size []) (t':=s.toks) (λb u q=>Qr _ q) (Nat.le_of_eq (Rt _ _)) ?_;have ne:s.heap.objs.size≠s.heap.objs.size+1:=QA (Ry _);refine⟨by rw[_l ne,_k],QN _,ne,e2,λ_=>none,(Heap.Ns1.of_empty e3).at λo q=>Qr _ q,λ_=>True.intro,λy hy=>absurd rfl hy⟩
theorem _mr {prog:Program} {w:World} {env:Env} {f:Str} (hb:attributeBase e f env (eval e env)=eval e env)
 (h:wpAny (model prog w) A (eval e env) (λo s₁=>wpAny (model prog w) A (getAttr o f true) Q E s₁) E s):wpAny (model prog w) A (eval (.Attribute e f pos) env) Q E s :=
 Attribute_any_ h (by rw[arm_eval_Attribute,hb])
end
inductive tFld_ (K:W.Frag) (f:Str) (Q:VK) (x:V) (H1:Hp):Prop
 |mk:∀a C dx fs v,x=.ref a->H1 a=some (.ins C dx fs)->Cls K C->NoAttr K C f->fs.lookup f=some v->Q v H1->tFld_ K f Q x H1
def _da (K:W.Frag) (ta:TE) (f:Str):TE:=λU H Q=>ta U H λx H1=>tFld_ K f Q x H1
inductive sFld_ (K:W.Frag) (f:Str) (D:Ends) (U:St) (y:V) (x:V) (H2:Hp):Prop
 |mk:∀a C dx fs,x=.ref a->H2 a=some (.ins C dx fs)->Cls K C->NoAttr K C f->fs.length<1000->D.nx U (_d H2 a (.ins C dx (_G f y fs)))->sFld_ K f D U y x H2
def _kP (K:W.Frag) (ta tv:TE) (f:Str):TS:=λD U H=>tv U H λy H1=>ta U H1 λx H2=>sFld_ K f D U y x H2
section
variable{o value:Expr} {f:Str} {pos' tpos:Pos} {tv:TE}
theorem YM (he:PE X e ta) (hb:attributeBase e f X.env (eval e X.env)=eval e X.env):PE X (.Attribute e f pos) (_da X.K ta f):=by
 intro pins s U H Q I h;refine _mr hb (_w (he pins s U H _ I h) λu s1 zq=>?_);obtain⟨x,H1,I1,rx,a,C,dx,fs,v,ex,ea,c,n,l,q⟩:=zq;subst ex;obtain rfl:u=Value.ref a:=rx;exact _mY I1 ea c n l λu' s2 I2 ru=>⟨v,H1,I2,ru,q⟩
theorem UY (ha:PE X o ta) (hv:PE X value tv) (hs:swapsWith value (some (.Attribute o f pos')) pos.line X.env=pure false):PS X (.Assign [.Attribute o f pos'] value pos) (_kP X.K ta tv f):=by
 intro pins s U H D I h;refine plainObj_wpAny_Assign_Attribute (_w (hv pins s U H _ I h) λu s1 zq=>?_) hs;obtain⟨y,H1,I1,ry,q⟩:=zq;refine _w (ha pins s1 U H1 _ I1 q) λov s2 zq=>?_;obtain⟨x,H2,I2,rx,a,C,dx,fs,ex,ea,c,n,l,q2⟩:=zq;subst ex;obtain rfl:ov=Value.ref a:=rx;exact _jR I2 ea c n l ry λs3 I3=>⟨U,_,I3,q2⟩
end
section
variable{c:Value} {b:Bool}
inductive TyOf (K:W.Frag) (H:Hp):V->Value->Prop where
 |non:TyOf K H .non (.type "NoneType")
 |bl (x:Bool):TyOf K H (.bl x) (.type "bool")
 |int (i:Int):TyOf K H (.int i) (.type "int")
 |str (x:Str):TyOf K H (.str x) (.type "str")
 |flt (x:UInt64):TyOf K H (.flt x) (.type "float")
 |lst {a:Addr} {xs:List V} (e:H a=some (.lst xs)):TyOf K H (.ref a) (.type "list")
 |frz {a:Addr} {o:Obj} {xs:List V} (e:H a=some (.frz o (.lst xs))):TyOf K H (.ref a) (.type "list")
 |tup {a:Addr} {xs:List V} (e:H a=some (.tup xs)):TyOf K H (.ref a) (.type "tuple")
 |dK {a:Addr} {kvs:List (_j×V)} (e:H a=some (.dK kvs)):TyOf K H (.ref a) (.type "dict")
 |dT {a:Addr} {kvs:List (List _j×V)} (e:H a=some (.dT kvs)):TyOf K H (.ref a) (.type "dict")
 |ins {a C dx : Addr} {fs : List (Str×V)} (e : H a=some (.ins C dx fs)) (cl : Cls K C) (ha : W.findIn K (.ref C) "__class__"=some (some (.builtin "object.__class__")))
   (hn:W.specialIn K (.builtin "object.__class__") "__get__"=some (some (.builtin "getset_descriptor.__get__"))) (htk:W.takesIn K (.builtin "object.__class__")=some true)
   (hm:W.mroIn K C (.type "object")=some true):TyOf K H (.ref a) (.ref C)
theorem _mq {x:V} {t:Value} (I:Inv X pins U H s) (rx:RelV x u) (ty:TyOf X.K H x t) (e:W.kitOne X.K t c=some b) (h:∀tk,Q (.bool b) { s with toks:=tk }) :
  wpAny (model X.prog X.w) A (call (.builtin "isinstance") [u,c]) Q E s:=by
 cases ty with
 |non=>cases(show u=Value.none from rx);exact Q6 W.kitx_none I.kIn True.intro e (λz=>nomatch z) h
 |bl y=>cases(show u=Value.bool y from rx);exact Q6 W.kitx_bool I.kIn True.intro e (λz=>nomatch z) h
 |int i=>obtain⟨t,q⟩:=(show ∃t,u=Value.int i t from rx);cases q;exact Q6 W.kitx_int I.kIn True.intro e (λz=>nomatch z) h
 |str y=>obtain⟨t,q⟩:=(show ∃t,u=Value.str y t from rx);cases q;exact Q6 W.kitx_str I.kIn True.intro e (λz=>nomatch z) h
 |flt y=>obtain⟨t,q⟩:=(show ∃t,u=Value.float y t from rx);cases q;exact Q6 W.kitx_float I.kIn True.intro e (λz=>nomatch z) h
 |@lst a xs ea =>
  cases(show u=Value.ref a from rx);obtain⟨_,_,n,_,h1⟩:=(show ObjOk X.prog X.w H s.heap a (.lst xs) from I.hok a _ ea);exact Q6 Nh I.kIn ⟨_,h1,rfl⟩ e (λz=>nomatch z) h
 |@frz a ob xs ea =>
  cases(show u=Value.ref a from rx);obtain⟨_,_,_,n,_,h1⟩:=(show ObjOk X.prog X.w H s.heap a (.frz ob (.lst xs)) from I.hok a _ ea);exact Q6 Nh I.kIn ⟨_,h1,rfl⟩ e (λz=>nomatch z) h
 |@tup a xs ea =>
  cases(show u=Value.ref a from rx);obtain⟨_,_,_,p⟩:=(show ObjOk X.prog X.w H s.heap a (.tup xs) from I.hok a _ ea);obtain⟨o,h1,h2,_⟩:=p;exact Q6 W.kitx_tuple I.kIn ⟨o,h1,h2⟩ e (λz=>nomatch z) h
 |@dK a kvs ea =>
  cases(show u=Value.ref a from rx);obtain⟨_,_,vs,_,p⟩:=(show ObjOk X.prog X.w H s.heap a (.dK kvs) from I.hok a _ ea);obtain⟨o,es,ep,h1,h2,_⟩:=p;exact Q6 W.kitx_dict I.kIn ⟨o,h1,h2.1⟩ e (λz=>nomatch z) h
 |@dT a kvs ea =>
  cases(show u=Value.ref a from rx);obtain⟨_,_,xs,_,o,es,ep,h1,h2,_⟩:=(show ObjOk X.prog X.w H s.heap a (.dT kvs) from I.hok a _ ea);exact Q6 W.kitx_dict I.kIn ⟨o,h1,h2.1⟩ e (λz=>nomatch z) h
 |@ins a C dx fs ea cl ha hn htk hm =>
  cases(show u=Value.ref a from rx);obtain⟨mA,O,_⟩:=_af I.hok ea;obtain⟨od,J,_⟩:=O.look;exact Q6 (W.kitx_own (cl.get _) cl.hd ha hn htk hm) I.kIn J e (λz=>nomatch z) h
end
structure Room (k:Nat) (A:Around):Prop where
 hd:A.handled=none
 dp:A.depth+3*k+5<recursionLimit
 un:A.units+16*k+200<cLine
theorem Room.mono {j k:Nat} (r:Room k A) (h:j<=k):Room j A:=⟨r.hd,by have:=r.dp;lia,by have:=r.un;lia⟩
theorem Room.deeper {k:Nat} (r:Room (k+1) A) (env:Env):Room k (A.deeper env) :=
 ⟨r.hd,by have:=r.dp;show A.depth+1+3*k+5<_;lia,by have:=r.un;show A.units+3+16*k+200<_;lia⟩
theorem _hC {kw:List A8}:(A.under (.builtin "type.__call__" ⟨.ref C::us,kw⟩)).depth=A.depth+1:=by
 first|rfl|simp[Around.under,Code.weight,Code.isCreation,Code.isGuard,Code.isCaller,Code.frames,Code.isFrame,guardIds]
theorem _iq {kw:List A8}:(A.under (.builtin "type.__call__" ⟨.ref C::us,kw⟩)).units=A.units+1:=by
 first|rfl|simp[Around.under,Code.cUnits,Code.frames,Code.isFrame]
theorem Room.make {k:Nat} (r:Room (k+1) A) (C:Addr) (us:B1) (kw:List A8):Room k (A.under (.builtin "type.__call__" ⟨.ref C::us,kw⟩)) :=
 ⟨r.hd,by have:=r.dp;rw[_hC];lia,by have:=r.un;rw[_iq];lia⟩
theorem Room.depth {k:Nat} (r:Room k A):A.depth<recursionLimit:=by have:=r.dp;lia
theorem Room.units {k:Nat} (r:Room k A):A.units+64<cLine:=by have:=r.un;lia
def _ai:TA:=λ_ H Q=>Q [] H
def _bM (ta:TE) (tr:TA):TA:=λU H Q=>ta U H λx H1=>tr U H1 λxs H2=>Q (x::xs) H2
section
variable{t:TA}
theorem _e:PA X [] _ai:=λ_ _ _ _ H Q I h=>NO ⟨[],H,I,.nil,h⟩
theorem _a (ha:PE X e te) (hr:PA X es t) (hs:starEach (e::es) X.env=(false,eval e X.env)::starEach es X.env:=by rfl):PA X (e::es) (_bM te t):=by
 intro pos pins s U H Q I h;rw[hs];show wpAny _ _ (spliced ((false,eval e X.env)::backTo pos (starEach es X.env))) _ _ s;refine GH (_w (ha pins s U H _ I h) λu s1 zq=>?_);obtain⟨x,H1,I1,r1,q1⟩:=zq;refine _w (hr pos pins s1 U H1 _ I1 q1) λus s2 zq=>?_;obtain⟨xs,H2,I2,r2,q2⟩:=zq;exact ⟨x::xs,H2,I2,.cons r1 r2,q2⟩
def _cv (t:TA):TE:=λU H Q=>t U H λxs H1=>xs.length<=sizeLine/\∀p,H1 p=none->Q (.ref p) (_d H1 p (.tup xs))
def _nh (t:TA):TE:=λU H Q=>t U H λxs H1=>xs.length<=sizeLine/\∀p,H1 p=none->Q (.ref p) (_d H1 p (.lst xs))
theorem _8 {x1} (h:PA X es t):PE X (.Tuple es x1 pos) (_cv t):=by
 intro pins s U H Q I hq;refine wpAny_Tuple_spliced (_w (h pos pins s U H _ I hq) λus s1 zq=>?_);obtain⟨xs,H1,I1,r,z,q⟩:=zq;refine ⟨by rw[<-r.length];exact z,?_⟩;have hf:H1 s1.heap.objs.size=none:=I1.hok.fresh (Qg _);refine⟨.ref s1.heap.objs.size,_d H1 s1.heap.objs.size (.tup xs),I1.laid (t':=s1.toks) (λb u e=>Qr _ e) (Qg _) ?_,rfl,q _ hf⟩;exact⟨z,us,r,⟨_,Qw _ rfl,rfl,_,rfl⟩⟩
theorem Y0 (h:PA X es t):PE X (.List es pos) (_nh t):=by
 intro pins s U H Q I hq;refine wpAny_List_spliced (_w (h pos pins s U H _ I hq) λus s1 zq=>?_);obtain⟨xs,H1,I1,r,z,q⟩:=zq;refine ⟨by rw[<-r.length];exact z,?_⟩;have hf:H1 s1.heap.objs.size=none:=I1.hok.fresh (Qg _);refine⟨.ref s1.heap.objs.size,_d H1 s1.heap.objs.size (.lst xs),I1.laid (t':=s1.toks) (λb u e=>Qr _ e) (Qg _) ?_,rfl,q _ hf⟩;exact⟨z,us,0,r,Qw _ rfl⟩
end
abbrev Sp:=List V->Hp->VK->XK->Prop
abbrev Yu:=C4->Hp->Shared->XK->Value->Shared->Prop
structure Env0 (P:Program) (w:World) (K:W.Frag) (mg:Str->B4) (base:Heap) (A:Around) (outer:C4) (s:Shared) (H:Hp):Prop where
 frames:A.frames=some outer
 mod:Mod K mg base
 bs:∀b o,base.get? b=some o->s.heap.get? b=some o/\H b=none
 bsz:base.objs.size<=s.heap.objs.size
 funs:s.heap.FunFrames base outer
 frf:∀b∈Yv outer,H b=none
 hok:HOk P w H s.heap
 bare:AllBare s.gens
def CE (outer:C4) (P:Program) (w:World) (H:Hp) (s:Shared) (Q:VK) (u:Value) (s':Shared):Prop :=
 ∃v H',s'.os=s.os/\AllBare s'.gens/\Un (Yv outer) [] H H' s.heap s'.heap/\HOk P w H' s'.heap/\RelV v u/\Q v H'
def CR (CX:Yu) (outer:C4) (P:Program) (w:World) (H:Hp) (s:Shared) (Q:VK) (E:XK) (r:Result) (s':Shared):Prop :=
 match r with
 |.ok (.ret u)=>CE outer P w H s Q u s'
 |.ok _=>False
 |.error e=>CX outer H s E e s'
structure FnOk (P:Program) (w:World) (K:W.Frag) (mg:Str->B4) (base:Heap) (CX:Yu) (k:Nat) (f:Addr) (fd:FuncData) (ps:A9) (sp:Sp):Prop where
 len:∀vs H Q E,sp vs H Q E->vs.length=ps.length
 run:∀(A:Around) (outer:C4) (s:Shared) (H:Hp) (args:Args) (us:B1) (vs:List V) (Q:VK) (E:XK),Room k A->Env0 P w K mg base A outer s H->BindsTo s fd args (ps.zip us)->Vals vs us->sp vs H Q E →
  codeAny (model P w) A (.call (.ref f) args) (CR CX outer P w H s Q E) s
theorem FnOk.imp {w:World} {K:W.Frag} {mg:Str->B4} {k:Nat} {f:Addr} {sp sp':Sp} (F:FnOk P w K mg base CX k f fd ps sp)
 (h:∀vs H Q E,sp' vs H Q E->sp vs H Q E):FnOk P w K mg base CX k f fd ps sp' :=
 ⟨λvs H Q E q=>F.len vs H Q E (h _ _ _ _ q),λA outer s H args us vs Q E hr he hb hv hs=>F.run A outer s H args us vs Q E hr he hb hv (h _ _ _ _ hs)⟩
theorem Env0.make {w:World} {K:W.Frag} {mg:Str->B4} {outer:C4} (e:Env0 P w K mg base A outer s H) (C:Addr) (us:B1) (kw:List A8) :
  Env0 P w K mg base (A.under (.builtin "type.__call__" ⟨.ref C::us,kw⟩)) outer s H:=⟨by first|exact e.frames|(simpa[Around.under,Code.envs,Code.isFrame,pushEnvs] using e.frames),e.mod,e.bs,e.bsz,e.funs,e.frf,e.hok,e.bare⟩
section
variable{s':Shared}
theorem Inv.env0 (I:Inv X pins U H s):Env0 X.prog X.w X.K X.mg X.base X.A X.stack s H :=
 ⟨I.ok.frames,I.ok.mod,I.bs,Qs I.ok.bsz I.sz,I.stack,I.stkFree,I.hok,I.bare⟩
theorem Inv.after {Q:VK} (I:Inv X pins U H s) (h:CE X.stack X.prog X.w H s Q u s'):EP X pins U Q u s':=by
 obtain⟨v,H',os,bare,un,hok,r,q⟩:=h;obtain⟨hh,g,d,t,os'⟩:=s';obtain rfl:os'=s.os:=os;exact⟨v,H',I.call (h':=hh) (g':=g) (d':=d) (t':=t) (ch:=[]) un hok bare (λb z=>absurd z (by simp)),r,q⟩
end
def Binds (K:W.Frag) (fd:FuncData) (ps:A9) (ds:B1):Prop :=
 ∀(s:Shared) (us:B1),K.In s.heap->(us++ds).length=ps.length->BindsTo s fd ⟨us,[]⟩ (ps.zip (us++ds))
theorem Binds.all {K:W.Frag} (h:∀us:B1,us.length=ps.length->bindArgs fd ⟨us,[]⟩=pure (ps.zip us)):Binds K fd ps []:=λs us _ hl=>by
 rw[Q1] at hl ⊢;exact .of_eq (h us hl)
def _fA (CX:Yu) (X:Cx) (E:XK):Prop:=∀(pins:A4) (U:St) (H:Hp) (s:Shared) (e:Value) (s':Shared),Inv X pins U H s->CX X.stack H s E e s'->X.xe e s'
section
variable{k:Nat} {f:Addr} {sp:Sp} {dvs:List V} {ds:B1} {E:XK} {apos:Pos} {o:Expr} {t:TA}
theorem _gT {Q:VK} {vs:List V} (F:FnOk X.prog X.w X.K X.mg X.base CX k f fd ps sp) (hr:Room k X.A) (hb:Binds X.K fd ps ds) (hd:Vals dvs ds) (hx:_fA CX X E)
 (I:Inv X pins U H s) (r:Vals vs us) (h:sp (vs++dvs) H Q E):wpAny (model X.prog X.w) X.A (call (.ref f) us) (EP X pins U Q) X.xe s:=by
 have r2:Vals (vs++dvs) (us++ds):=r.append hd;have hl:(us++ds).length=ps.length:=by rw[<-r2.length];exact F.len _ _ _ _ h
 refine wpAny_call (GI (F.run X.A X.stack s H ⟨us,[]⟩ (us++ds) (vs++dvs) Q E hr I.env0 (hb s us I.kIn hl) r2 h) λr s' hq=>?_);cases r with
 |error e=>exact hx pins U H s e s' I hq
 |ok fl =>
  cases fl with
  |ret u=>exact I.after hq
  |next=>exact False.elim hq
  |brk=>exact False.elim hq
  |cont=>exact False.elim hq
structure Mk (K:W.Frag) (C f:Addr):Prop where
 makes:W.makesIn K C=true
 init:W.findIn K (.ref C) "__init__"=some (some (.ref f))
 fn:W.isFn K (.ref f)=true
 kp:W.keepIn K (.ref C)=true
end
section
variable{k:Nat} {f:Addr} {ks:A9} {sp:Sp} {E:XK} {apos kpos:Pos} {o:Expr} {kws:List Keyword} {t tk:TA} {nm:Option Str}
variable{g:B1->B1->B1} {gV:List V->List V->List V}
end
structure FnScope (N P:A9) (sc:Scope):Prop where
 kind:sc.kind=.function
 co:sc.isCoroutine=false
 gen:sc.isGenerator=false
 nd:N.Nodup
 pre:N.take P.length=P
 par:∀x∈P,sc.names.lookup x=some .local\/sc.names.lookup x=some .cell
 nofree:∀y∈sc.names,y.2≠.free
theorem _cZ {kindOf:Str->Option NameKind} {x:Str}:∀{binds:List A8} {m:Str->B4},(∀v,(x,v)∉binds)->bindL kindOf binds m x=m x
 |[],_,_=>rfl
 | (n,v)::r,m,h=>by
  unfold bindL;rw[_cZ λw hw=>h w (QB _ hw)];split
  ·have:x≠n:=by rintro rfl;exact h v Qy
   simp[this]
  ·rfl
theorem _gy {kindOf:Str->Option NameKind} {x:Str}:∀{binds:List A8} {m:Str->B4},(∀v,(x,v)∉binds)->bindC kindOf binds m x=m x
 |[],_,_=>rfl
 | (n,v)::r,m,h=>by
  unfold bindC;rw[_gy λw hw=>h w (QB _ hw)];split
  ·rfl
  ·have:x≠n:=by rintro rfl;exact h v Qy
   simp[this]
theorem _cj {kindOf:Str->Option NameKind} {x:Str} {v:Value}:∀{P:A9} {vs:B1} {i:Nat} {m:Str->B4},P.Nodup->P[i]?=some x->vs[i]?=some v->kindOf x=some .local →
  bindL kindOf (P.zip vs) m x=some v
 |[],_,_,_,_,h,_,_=>by simp at h
 |_::_,[],_,_,_,_,h,_=>by simp at h
 |p::P,w::vs,0,m,nd,h1,h2,hk=>by
  simp at h1 h2;subst h1;subst h2;show bindL kindOf ((p,w)::P.zip vs) m p=_;unfold bindL;rw[_cZ λv hv=>(Rb.mp nd).1 (NP hv).1,Qb hk];simp
 |p::P,w::vs,i+1,m,nd,h1,h2,hk=>by
  show bindL kindOf ((p,w)::P.zip vs) m x=_;unfold bindL;exact _cj (i:=i) (Rb.mp nd).2 (by simpa using h1) (by simpa using h2) hk
theorem _et {kindOf:Str->Option NameKind} {x:Str} {v:Value}:∀{P:A9} {vs:B1} {i:Nat} {m:Str->B4},P.Nodup->P[i]?=some x->vs[i]?=some v->kindOf x≠some .local →
  bindC kindOf (P.zip vs) m x=some v
 |[],_,_,_,_,h,_,_=>by simp at h
 |_::_,[],_,_,_,_,h,_=>by simp at h
 |p::P,w::vs,0,m,nd,h1,h2,hk=>by
  simp at h1 h2;subst h1;subst h2;show bindC kindOf ((p,w)::P.zip vs) m p=_;unfold bindC;rw[_gy λv hv=>(Rb.mp nd).1 (NP hv).1,Qa hk];simp
 |p::P,w::vs,i+1,m,nd,h1,h2,hk=>by
  show bindC kindOf ((p,w)::P.zip vs) m x=_;unfold bindC;exact _et (i:=i) (Rb.mp nd).2 (by simpa using h1) (by simpa using h2) hk
noncomputable def start (N:A9) (vs:List V):St:=vs.map some++List.replicate (N.length-vs.length) none
noncomputable def _O (CX:Yu) (P:Program) (w:World) (K:W.Frag) (mg:Str->B4) (base:Heap) (N:A9) (qual:Str) (scope:Scope) (f:Addr) (cd:Value) (A:Around) (outer:C4) (s:Shared) (H:Hp) (E:XK):Cx where
 prog:=P
 w:=w
 K:=K
 mg:=mg
 base:=base
 A:=A.deeper (envOfC qual scope s.heap.objs.size f cd)
 N:=N
 s₀:=s
 H₀:=H
 env:=envOfC qual scope s.heap.objs.size f cd
 outer:=outer
 stack:=envOfC qual scope s.heap.objs.size f cd::outer
 ex:=[]
 calm:=true
 fn:=λ_=>true
 pn:=[]
 xe:=λe s'=>wpAny (model P w) (A.deeper (envOfC qual scope s.heap.objs.size f cd)) (leaving (envOfC qual scope s.heap.objs.size f cd) e) (λ_ s''=>CX outer H s E e s'') (λe' s''=>CX outer H s E e' s'') s'
theorem _b8 {sc:Scope} (h:sc.names.lookup x=some .cell):∃c,(cellsFrom n sc.names []).lookup x=some c:=by
 have q:=W.cellsFrom_some sc.names n [] (.inl h);exact NQ.mp q
theorem _jQ {w:World} {K:W.Frag} {mg:Str->B4} {qual:Str} {scope:Scope} {f:Addr} {cd:Value} {outer:C4} {s1:Shared} {E:XK} {vs:List V}
 (S:FnScope N ps scope) (hd:A.handled=none) (e0:Env0 P w K mg base A outer s H) (hl:vs.length=ps.length) (r:Vals vs us)
 (x:InCallC s s.heap.objs.size (bindL (envOfC qual scope s.heap.objs.size f cd).kindOf (ps.zip us) λ_=>none) (cellsFrom (s.heap.objs.size+1) scope.names []) (bindC (envOfC qual scope s.heap.objs.size f cd).kindOf (ps.zip us) λ_=>none) s1) :
  Inv (_O CX P w K mg base N qual scope f cd A outer s H E) [] (start N vs) H s1:=by
 have hpl:ps.length<=N.length:=by have:=QI List.length S.pre;rw[QU] at this;lia
 obtain⟨h1,tk,rfl,hk⟩:=x.done;have noA:∀b:Addr,b∉(_O CX P w K mg base N qual scope f cd A outer s H E).ex:=λb z=>absurd (show b∈([]:B5) from z) (by simp)
 refine⟨⟨e0.mod,S.kind,rfl,rfl,Qg _,λy z c h1 h2=>?_,λy hy=>?_,λy c _ h=>?_,λ_=>hd,Around.frames_deeper e0.frames,.inr ⟨rfl,rfl⟩,λb z=>absurd z (noA b),e0.bs,e0.bsz,λb _ _=>noA b,λb z=>absurd z (noA b),e0.funs,e0.frf⟩,
  rfl,e0.bare,Un.kept hk,⟨_,x.toInCall.ns,λi y v h1 h2 h3=>?_⟩,λy c h=>⟨_,x.cell y c h⟩,e0.hok.fresh (Qg _),λy c h=>?_,λp hp=>absurd (show p∈([]:A4) from hp) (by simp),e0.hok.kept hk,?_⟩
 ·exact name_of_addr x.apart (R5 h1) (R5 h2)
 ·have hy:scope.names.lookup y=some .cell\/scope.names.lookup y=some .free:=hy;rcases hy with hy|hy
  ·exact _b8 hy
  ·exact absurd rfl (S.nofree _ (R5 hy))
 ·exact Ra (x.above y c (R5 h))
 ·have hi:i<vs.length:=by
   unfold start at h2;by_cases hi:i<vs.length
   ·exact hi
   ·rw[RP (by simpa using hi)] at h2;rw[List.getElem?_replicate] at h2;split at h2<;>cases h2
  have ha:vs[i]?=some v:=by
   unfold start at h2;rw[Gi (by simpa using hi),Qv] at h2;cases e:vs[i]? with
   |none=>rw[e] at h2;cases h2
   |some a=>rw[e] at h2;cases h2;rfl
  obtain⟨u,hu,rv⟩:=r.get ha
  have hp:ps[i]?=some y:=by
   rw[<-S.pre,Mj (by lia)];exact h1
  have ndP:ps.Nodup:=by rw[<-S.pre];exact S.nd.sublist (Ro _ _)
  refine⟨u,rv,?_⟩;rcases S.par y (QE hp) with k|k
  ·exact .inl ⟨k,_cj ndP hp hu k⟩
  ·obtain⟨c,e⟩:=_b8 (n:=s.heap.objs.size+1) k;refine .inr ⟨.inl k,c,e,?_⟩;have q:=x.cell y c e;rw[_et ndP hp hu (by show scope.names.lookup y≠_;rw[k];decide)] at q;exact q
 ·exact e0.hok.fresh (Ra (x.above y c (R5 h)))
 ·unfold start;show _=N.length;rw[Qq,Qd,List.length_replicate];lia
theorem _d0 {w:World} {K:W.Frag} {mg:Str->B4} {k:Nat} {f:Addr} {name qual:Str} {params:Arguments} {scope:Scope} {dV kV doc pm cdv ct oc:Value} {an od:B9}
 {osl:Array B4} {sp:Sp} (lk:K.lookup f=some ⟨oc,od,.func (W.fnOf name qual params body scope dV kV doc pm an cdv ct),osl⟩) (hcd:W.codeIn K cdv qual=true) (S:FnScope N ps scope)
 (len:∀vs H Q E,sp vs H Q E->vs.length=ps.length)
 (hbody:∀(A:Around) (outer:C4) (s:Shared) (H:Hp) (vs:List V) (Q:VK) (E:XK),Room k (A.deeper (envOfC qual scope s.heap.objs.size f cdv))->sp vs H Q E →
 ∃t,PSs (_O CX P w K mg base N qual scope f cdv A outer s H E) body t/\t { nx:=λ_ H'=>Q .non H',rt:=Q } (start N vs) H) :
  FnOk P w K mg base CX (k+1) f (W.fnOf name qual params body scope dV kV doc pm an cdv ct) ps sp:=by
 refine⟨len,λA outer s H args us vs Q E hr e0 hb r hsp=>?_⟩;have hl:=len _ _ _ _ hsp;have KX:K.In s.heap:=e0.mod.kin.keeps λb o e=>(e0.bs b o e).1;have lim:s.heap.NoLimit:=e0.mod.nolimit.keeps λb o e=>(e0.bs b o e).1
 have hkind:∀y∈ps.zip us,scope.names.lookup y.1=some .local\/(scope.names.lookup y.1=some .cell/\((cellsFrom (s.heap.objs.size+1) scope.names []).lookup y.1).isSome=true):=λzq hy=>by
  obtain⟨n,v⟩:=zq;rcases S.par n (NP hy).1 with q|q
  ·exact .inl q
  ·exact .inr ⟨q,W.cellsFrom_some _ _ _ (.inl q)⟩
 refine codeAny_call_function hr.depth (KX _ _ lk) rfl S.co S.gen rfl (W.codeRec_of KX hcd) (hb _ _ _ _ ?_);refine wpAny_newFunctionEnv_cells S.kind hkind λenv he s1 x=>?_;subst he;refine⟨lim.keeps x.toInCall.keep,codeAny_func ?_⟩;obtain⟨t,ht,hq⟩:=hbody A outer s H vs Q E (hr.deeper _) hsp;have I:Inv (_O CX P w K mg base N qual scope f cdv A outer s H E) [] (start N vs) H s1:=_jQ S hr.hd e0 hl r x;refine Q5 (ht [] s1 (start N vs) H _ I hq) (λfl s' hs=>?_) λe s' hs=>hs
 have fin:∀{σ':St} {H':Hp} {v:V} {u:Value},Inv (_O CX P w K mg base N qual scope f cdv A outer s H E) [] σ' H' s'->RelV v u->Q v H'->CE outer P w H s Q u s' :=
  λ{σ' H' v u} J rv q=>⟨v,H',J.os,J.bare,J.base,J.hok,rv,q⟩
 cases fl with
 |ret u =>
  obtain⟨v,σ',H',J,rv,q⟩:=hs;exact fin J rv q
 |next =>
  obtain⟨σ',H',J,q⟩:=hs;exact fin (v:=V.non) (u:=Value.none) J rfl q
 |brk =>
  obtain⟨_,_,_,q⟩:=hs;exact False.elim q
 |cont =>
  obtain⟨_,_,_,q⟩:=hs;exact False.elim q
section
variable{t:TA} {id T:String} {r:List V->Hp->VK->Prop}
def tCB (r:List V->Hp->VK->Prop) (t:TA):TE:=λU H Q=>t U H λvs H1=>r vs H1 Q
theorem _U (hc:YE X (.builtin id) r) (hg:Gl X x) (hm:X.mg x=none) (hv:bootBuiltins x=some (.builtin id)) (ha:PA X (e::es) t) (hn:x≠"__name__":=by decide) (hdb:(x==("__debug__": Str))=false:=by decide)
 (he:starEach (e::es) X.env=(false,eval e X.env)::starEach es X.env:=by rfl) (hpl:(backTo pos (starEach es X.env)).any (·.1)=false:=by rfl):PE X (.Call (.Name x p) (e::es) [] pos) (tCB r t):=by
 intro pins s U H Q I h;refine Gj (UQ I hg hm hv ?_ hn hdb);refine PyProof.Rows.callWith_builtin1 (_w (ha pos pins s U H _ I h) λus s1 zq=>?_) he hpl;obtain⟨vs,H1,I1,r1,q1⟩:=zq;exact hc pins s1 U H1 vs us Q I1 r1 q1
theorem _el (hc:YE X (.type T) r) (hg:Gl X x) (hm:X.mg x=none) (hv:bootBuiltins x=some (.type T)) (ha:PA X (e::es) t) (hn:x≠"__name__":=by decide) (hdb:(x==("__debug__": Str))=false:=by decide)
 (he:starEach (e::es) X.env=(false,eval e X.env)::starEach es X.env:=by rfl) (hpl:(backTo pos (starEach es X.env)).any (·.1)=false:=by rfl):PE X (.Call (.Name x p) (e::es) [] pos) (tCB r t):=by
 intro pins s U H Q I h;refine Gj (UQ I hg hm hv ?_ hn hdb);refine NM (_w (ha pos pins s U H _ I h) λus s1 zq=>?_) he hpl;obtain⟨vs,H1,I1,r1,q1⟩:=zq;exact hc pins s1 U H1 vs us Q I1 r1 q1
end
end L2
namespace HT
open PySem PyProof.Rows
section
open PySem.SeqAt
open PySem.AutoSeq1 (wpAny_loadPart')
open PySem.MeetsSeq PySem.MeetsSeq2 PySem.MeetsSeq3
end
section
variable{prog:Program} {w:World} {A:Around} {E:Value->Shared->Prop} {s:Shared}
theorem cat_tup {t b:Addr} {vs ws:B1} {Q:Value->Shared->Prop} (ht:IsTup s.heap t vs.toArray) (hb:IsTup s.heap b ws.toArray) (hv:vs≠[])
  (h1:ws=[]->Q (.ref t) s) (h2:ws≠[]->Q (.ref s.heap.objs.size) { s with heap:=s.heap.push { cls:=.type "tuple",data:=.seq (vs++ws).toArray } })
  (hsz:vs.length+ws.length<=sizeLine):wpAny (model prog w) A (binaryOp .Add (.ref t) (.ref b)) Q E s:=by
 obtain⟨⟨cls,dd,data,sl⟩,ho,hc,n,hd⟩:=id ht;obtain⟨⟨cls2,dd2,data2,sl2⟩,ho2,hc2,n2,hd2⟩:=id hb;simp only at hc hd hc2 hd2;subst hc hd hc2 hd2;have e:vs.toArray++ws.toArray=(vs++ws).toArray:=by simp
 by_cases hw:ws=[]
 ·exact concat_meets ⟨_,ho,rfl⟩ ⟨_,ho2,rfl⟩ noFill_tuple_add seq_tuple_add PySem.F.slot_tuple_add Ml (Mm _ _)
   (tuple_addW1 t b vs.toArray ws.toArray n n2 dd dd2 sl sl2 (by simpa using hv) (by simp[hw])) ⟨ho,ho2,h1 hw⟩
 ·refine concat_meets ⟨_,ho,rfl⟩ ⟨_,ho2,rfl⟩ noFill_tuple_add seq_tuple_add PySem.F.slot_tuple_add Ml (Mm _ _)
   (tuple_addW2 t b vs.toArray ws.toArray n n2 dd dd2 sl sl2 (by simpa using hv) (by simpa using hw) (by rw[Qx,Qx];exact hsz)) ⟨ho,ho2,?_⟩
  rw[e];exact h2 hw
noncomputable def sIx (n d:Nat):B8->Nat
 |none=>d
 |some v=>if v<0 then(v+(n:Int)).toNat else min v.toNat n
theorem sIx_nat (n d k:Nat):sIx n d (some (k:Int))=min k n:=by
 show(if(k:Int)<0 then((k:Int)+(n:Int)).toNat else min (k:Int).toNat n)=min k n;rw[Qa (by lia),GJ]
theorem _j2 (n d:Nat) (hd:d<=n) (o:B8):sIx n d o<=n:=by
 cases o with
 |none=>exact hd
 |some v =>
  show(if v<0 then(v+(n:Int)).toNat else min v.toNat n)<=n;by_cases hv:v<0
  ·rw[Qb hv];lia
  ·rw[Qa hv];exact Nat.min_le_right _ _
theorem _dq (v:Int) (n d:Nat):(if v<0 then max (v+(n:Int)) 0 else min v (n:Int))=((sIx n d (some v):Nat):Int):=by
 show(if v<0 then max (v+(n:Int)) 0 else min v (n:Int))=(((if v<0 then(v+(n:Int)).toNat else min v.toNat n):Nat):Int);by_cases hv:v<0
 ·simp only[Qb hv];lia
 ·simp only[Qa hv];lia
theorem _kR (lo hi:B8) (n:Nat):Builtin.Slice.sliceAdjust lo hi 1 (n:Int)=(((sIx n 0 lo:Nat):Int),((sIx n n hi:Nat):Int)):=by
 have h1:¬((1:Int)<0):=by lia
 unfold Builtin.Slice.sliceAdjust;simp only[h1,Ru];refine R1 ?_ ?_
 ·cases lo with
  |none=>rfl
  |some v=>exact _dq v n 0
 ·cases hi with
  |none=>rfl
  |some v=>exact _dq v n n
theorem _g7 (i j:Nat):Builtin.Slice.slicePlaces (i:Int) (j:Int) 1=j-i:=by
 unfold Builtin.Slice.slicePlaces;have h1:(1:Int) > 0:=by lia
 simp only[h1,RQ,Int.ediv_one];split<;>lia
theorem _gc {v:Value} {o:B8} {Q:B8->Shared->Prop} (p:IsPart v o) (h:Q o s):wpAny (model prog w) A (Builtin.Slice.slicePartIndex v) Q E s:=by
 cases p with
 |none=>exact slicePart_none h
 |int i t=>exact slicePart_int h
theorem sliceApplied_gen {sl:Addr} {vl vu:Value} {lo hi:B8} {n:Nat} {Q:Int×Int×Nat->Shared->Prop} (hs:s.heap.IsSliceOf sl vl vu .none) (pl:IsPart vl lo) (pu:IsPart vu hi)
  (h:Q (((sIx n 0 lo:Nat):Int),1,sIx n n hi-sIx n 0 lo) s):wpAny (model prog w) A (Builtin.Slice.sliceApplied (.ref sl) (pure (n:Int))) Q E s:=by
 obtain⟨os,hos,hcs,hds⟩:=id hs;unfold Builtin.Slice.sliceApplied Builtin.Slice.sliceFields;refine Qc (Qc (Q7 hos hds (x:=vl) rfl (Qc (Q7 hos hds (x:=vu) rfl (Qc (Q7 hos hds (x:=.none) rfl (Qh ?_)))))));refine Qc (slicePart_none ?_);show wpAny _ _ (if((1:Int)==0)=true then _ else _) _ _ s;rw[Qa (by decide)];refine Qc (_gc pl (Qc (_gc pu (Qc (Qh ?_)))));show wpAny _ _ (match Builtin.Slice.sliceAdjust lo hi 1 (n:Int) with|(lo,hi)=>pure (lo,(1:Int),Builtin.Slice.slicePlaces lo hi 1)) _ _ s;rw[_kR lo hi n];show wpAny _ _ (pure (((sIx n 0 lo:Nat):Int),(1:Int),Builtin.Slice.slicePlaces ((sIx n 0 lo:Nat):Int) ((sIx n n hi:Nat):Int) 1)) _ _ s;rw[_g7];exact Qh h
theorem _hS (xs:B6) (i k:Nat):((List.range k).filterMap λ(m:Nat)=>xs[((i:Int)+(m:Int)*1).toNat]?).toArray=((xs.toList.drop i).take k).toArray:=by
 have e:(λ(m:Nat)=>xs[((i:Int)+(m:Int)*1).toNat]?)=λm=>xs[i+m]?:=by
  funext m
  have:((i:Int)+(m:Int)*1).toNat=i+m:=by lia
  rw[this]
 rw[e];have:=pick_run xs i k;rw[List.filterMap_map] at this;have e2:((λx=>xs[x]?)∘λx=>i+x)=λm=>xs[i+m]?:=rfl;rw[e2] at this;rw[this]
theorem getItem_tuple_cut {t sl:Addr} {items:B6} {vl vu:Value} {lo hi:B8} {Q:Value->Shared->Prop} (ht:IsTup s.heap t items) (hs:s.heap.IsSliceOf sl vl vu .none) (pl:IsPart vl lo) (pu:IsPart vu hi)
  (hw:¬(sIx items.size 0 lo=0/\sIx items.size items.size hi=items.size))
  (h:Q (.ref s.heap.objs.size) { s with heap:=s.heap.push { cls:=.type "tuple",data:=.seq ((items.toList.drop (sIx items.size 0 lo)).take (sIx items.size items.size hi-sIx items.size 0 lo)).toArray } })
  (hsz:items.size<=sizeLine):wpAny (model prog w) A (getItem (.ref t) (.ref sl)) Q E s:=by
 have htake:sizeOk (.seq ((items.toList.drop (sIx items.size 0 lo)).take (sIx items.size items.size hi-sIx items.size 0 lo)).toArray):=by
  show((items.toList.drop (sIx items.size 0 lo)).take (sIx items.size items.size hi-sIx items.size 0 lo)).toArray.size<=sizeLine;rw[Qx,QU,Ri,Rh];lia
 have hj:sIx items.size items.size hi<=items.size:=_j2 _ _ (Qg _) hi;obtain⟨os,hos,hcs,hds⟩:=id hs;have hTs:s.TypeIs (.ref sl) "slice":=⟨os,hos,hcs⟩;unfold getItem
 try with_reducible refine RC ?_
 first|refine Qc (Qh ?_)|skip
 refine Qc (wpAny_sequenceKey ht.typeIs (by decide) ?_)
 refine Qc (RD (name:=Str.ofString "__getitem__") ht.typeIs Gk
  (Rp Gk ht.typeIs entry_tuple_getitem ?_ (args_tuple_getitem _ _)))
 show wpAny _ _ (Builtin.Tuple.tupleItemsOf (.ref t) >>= _) _ _ s;refine Qc (tupleItemsOf_ ht ?_);refine Qc (Ni hTs ?_);rw[Qb (by decide)];refine Qc (sliceApplied_gen hs pl pu ?_)
 have hno:¬((((sIx items.size 0 lo:Nat):Int)==0&&(1:Int)==1&&(sIx items.size items.size hi-sIx items.size 0 lo)==items.size)=true):=by
  intro q;rw[R6,R6] at q;have q1:((sIx items.size 0 lo:Nat):Int)=0:=eq_of_beq q.1.1;have q2:sIx items.size items.size hi-sIx items.size 0 lo=items.size:=eq_of_beq q.2;exact hw ⟨by lia,by lia⟩
 show wpAny _ _ (if(((sIx items.size 0 lo:Nat):Int)==0&&(1:Int)==1&&(sIx items.size items.size hi-sIx items.size 0 lo)==items.size)=true then _ else _) _ _ s;rw[Qa hno,_hS]
 first
  |exact Qc (m:=Builtin.Tuple.tupleExact _) (Rv (Qh ⟨_,rfl,Qh h⟩) htake)
  |exact Qc (m:=Builtin.Tuple.tupleExact _) (Rv (Qc (Qh (Qh ⟨_,rfl,Qh h⟩))) htake)
  |exact Qc (Qc (m:=Builtin.Tuple.tupleExact _) (Rv (Qh (Qh ⟨_,rfl,Qh h⟩)) htake))
  |exact Qc (Qc (m:=Builtin.Tuple.tupleExact _) (Rv (Qh ⟨_,rfl,Qh h⟩) htake))
end
end HT
namespace L2
open PySem PySem.Spec PyProof.Rows
variable{a b:Addr} {A:Around} {X:Cx} {e:Expr} {H H':Hp} {pins:A4} {xs:List (List _j×Addr×Value)} {kvs:List (List _j×V)} {t':Nat} {o:Option V} {pos:Pos} {P:Program} {s:Shared} {U:St} {T:String} {x y:V} {u:Value} {E Q:Value->Shared->Prop}
abbrev TO:=St->Hp->(B8->Hp->Prop)->Prop
def PO (X:Cx) (e:Option Expr) (t:TO):Prop :=
 ∀(pins:A4) (s:Shared) (U:St) (H:Hp) (Q:B8->Hp->Prop),Inv X pins U H s->t U H Q →
  wpAny (model X.prog X.w) X.A (evalPart e X.env) (λu s'=>∃o H',Inv X pins U H' s'/\IsPart u o/\Q o H') X.xe s
def XU:TO:=λ_ H Q=>Q none H
inductive tPart_ (Q:B8->Hp->Prop) (x:V) (H1:Hp):Prop
 |mk:∀i,x=.int i->Q (some i) H1->tPart_ Q x H1
def _hl (t:TE):TO:=λU H Q=>t U H λx H1=>tPart_ Q x H1
section
variable{te:TE} {lo hi:Option Expr} {tl th:TO} {p2:Pos}
theorem X7:PO X none XU:=by
 intro pins s U H Q I h;rw[evalPart_none];exact Qh ⟨none,H,I,.none,h⟩
theorem YF (h:PE X e te):PO X (some e) (_hl te):=by
 intro pins s U H Q I hw;rw[evalPart_some];refine _w (h pins s U H _ I hw) λu s1 zq=>?_;obtain⟨x,H1,I1,r1,q1⟩:=zq;obtain⟨i,rfl,q⟩:=q1;obtain⟨t,rfl⟩:=r1;exact⟨some i,H1,I1,.int i t,q⟩
def SlR (X:Cx) (r:V->B8->B8->Hp->VK->Prop):Prop :=
 ∀(pins:A4) (s:Shared) (U:St) (H:Hp) (x:V) (v vl vu:Value) (lo hi:B8) (sl:Addr) (Q:VK),Inv X pins U H s->RelV x v->s.heap.IsSliceOf sl vl vu .none->IsPart vl lo->IsPart vu hi->r x lo hi H Q →
  ∃T id,typeLookup (.type T) "__getitem__"=pure (some (.builtin id))/\s.TypeIs v T/\wpAny (model X.prog X.w) X.A (getItem v (.ref sl)) (EP X pins U Q) X.xe s
def tSl (r:V->B8->B8->Hp->VK->Prop) (te:TE) (tl th:TO):TE:=λU H Q=>te U H λx H1=>tl U H1 λl H2=>th U H2 λu H3=>r x l u H3 Q
theorem Y9 {r:V->B8->B8->Hp->VK->Prop} (hr:SlR X r) (he:PE X e te) (hl:PO X lo tl) (hu:PO X hi th):PE X (.Subscript e (.Slice lo hi none p2) pos) (tSl r te tl th):=by
 intro pins s U H Q I h;refine Subscript_ (_w (he pins s U H _ I h) λv s1 zq=>?_);obtain⟨x,H1,I1,r1,q1⟩:=zq;refine wpAny_Slice (_w (hl pins s1 U H1 _ I1 q1) λvl s2 zq=>?_);obtain⟨l,H2,I2,pl,q2⟩:=zq;refine _w (hu pins s2 U H2 _ I2 q2) λvu s3 zq=>?_;obtain⟨u,H3,I3,pu,q3⟩:=zq;rw[evalPart_none];refine Qh ?_;have I4:Inv X pins U H3 { s3 with heap:=s3.heap.push { cls:=.type "slice",data:=.fields #[vl,vu,.none] } }:=I3.kept (t':=s3.toks) λb ob q=>Qr _ q;obtain⟨T,id,hT,ht,hg⟩:=hr pins { s3 with heap:=s3.heap.push { cls:=.type "slice",data:=.fields #[vl,vu,.none] } } U H3 x v vl vu l u s3.heap.objs.size Q I4 r1 (Heap.IsSliceOf.new ..) pl pu q3;show wpAny (model X.prog X.w) X.A (subscriptTail e (.Slice lo hi none p2) v (.ref s3.heap.objs.size)) (EP X pins U Q) X.xe { s3 with heap:=s3.heap.push { cls:=.type "slice",data:=.fields #[vl,vu,.none] } };exact tail_any (ops:=[.ref s3.heap.objs.size,v]) ht hT hg (by with_unfolding_all rfl)
noncomputable def Ym (xs:List V) (lo hi:B8):List V:=(xs.drop (HT.sIx xs.length 0 lo)).take (HT.sIx xs.length xs.length hi-HT.sIx xs.length 0 lo)
theorem _d1 (xs:List V) (lo hi:B8):(Ym xs lo hi).length<=xs.length:=by
 unfold Ym;rw[QU,Ri];lia
inductive rSlT (K:W.Frag) (x:V) (lo:B8) (hi:B8) (H:Hp) (Q:VK):Prop
 |mk:∀a xs,x=.ref a->SqT K H a xs->(¬(HT.sIx xs.length 0 lo=0/\HT.sIx xs.length xs.length hi=xs.length))->(∀p,H p=none->Q (.ref p) (_d H p (.tup (Ym xs lo hi))))->rSlT K x lo hi H Q
theorem VN:SlR X (rSlT X.K):=by
 intro pins s U H x v vl vu lo hi sl Q I rx hs pl pu h;obtain⟨a,xs,rfl,hx,hw,q⟩:=h;cases rx;obtain⟨its,r,ht,hz⟩:=I.tuple hx;have hlen:its.toArray.size=xs.length:=by rw[Qx];exact r.length.symm
 refine⟨"tuple",_,Gk.lookup,ht.typeIs,?_⟩;refine HT.getItem_tuple_cut ht hs pl pu (by rw[hlen];exact hw) ?_ (by rw[hlen];exact hz);rw[hlen];refine⟨.ref s.heap.objs.size,_,I.laid (t':=s.toks) (o:=.tup (Ym xs lo hi)) (λb ob q=>Qr _ q) (Qg _) ?_,rfl,q _ (I.hok.fresh (Qg _))⟩;exact⟨Qs (_d1 xs lo hi) hz,_,(r.drop (HT.sIx xs.length 0 lo)).take (HT.sIx xs.length xs.length hi-HT.sIx xs.length 0 lo),IsTup.new _ _⟩
inductive rCatT (K:W.Frag) (x:V) (y:V) (H:Hp) (Q:VK):Prop
 |mk:∀a b xs ys,x=.ref a->y=.ref b->SqT K H a xs->SqT K H b ys->xs≠[]->xs.length+ys.length<=sizeLine->((ys=[]->Q (.ref a) H))->((ys≠[]->∀p,H p=none->Q (.ref p) (_d H p (.tup (xs++ys)))))->rCatT K x y H Q
theorem Vals.nil_iff {xs:List V} {us:B1} (r:Vals xs us):us=[]↔xs=[]:=by
 cases r with
 |nil=>simp
 |cons _ _=>simp
theorem _oc:Yb X (binaryOp .Add) (rCatT X.K):=by
 intro pins s U H x y v u Q I rx ry h;obtain⟨a,b,xs,ys,rfl,rfl,ha,hb,hx,hz,q1,q2⟩:=h;cases rx;cases ry;obtain⟨its,r1,p1,_⟩:=I.tuple ha;obtain⟨its2,r2,p2,_⟩:=I.tuple hb;refine HT.cat_tup p1 p2 (λz=>hx (r1.nil_iff.mp z)) (λz=>⟨.ref a,H,I,rfl,q1 (r2.nil_iff.mp z)⟩) (λz=>?_) (by rw[<-r1.length,<-r2.length];exact hz);refine⟨.ref s.heap.objs.size,_,I.laid (t':=s.toks) (o:=.tup (xs++ys)) (λb ob q=>Qr _ q) (Qg _) ?_,rfl,q2 (λw=>z (r2.nil_iff.mpr w)) _ (I.hok.fresh (Qg _))⟩;exact⟨by rw[Qq];exact hz,_,r1.append r2,IsTup.new _ _⟩
end
noncomputable def Vt (n:Nat) (i:Int):C6:=if 0<=i then(if i<n then some i.toNat else none) else if -(n:Int)<=i then some (i+n).toNat else none
noncomputable def YC {α:Type} (xs:List α) (i:Int):Option α:=(Vt xs.length i).bind λj=>xs[j]?
theorem _ks {n:Nat} {i:Int} {j:Nat} (h:Vt n i=some j):seqIndex? i n=some j/\j<n/\-(n:Int)<=i/\i<n:=by
 unfold Vt at h;by_cases h0:0<=i
 ·rw[Qb h0] at h;by_cases h1:i<n
  ·rw[Qb h1] at h;have e:i.toNat=j:=Qt h;exact⟨by rw[seqIndex_of h0 h1,e],by lia,by lia,h1⟩
  ·rw[Qa h1] at h;cases h
 ·rw[Qa h0] at h;by_cases h1:-(n:Int)<=i
  ·rw[Qb h1] at h;have e:(i+n).toNat=j:=Qt h;exact⟨by rw[seqIndex_neg (by lia) h1,e],by lia,h1,by lia⟩
  ·rw[Qa h1] at h;cases h
theorem _bC {α:Type} {xs:List α} {i:Int} {v:α} (h:YC xs i=some v):∃j,seqIndex? i xs.length=some j/\xs[j]?=some v/\j<xs.length/\-(xs.length:Int)<=i/\i<xs.length:=by
 unfold YC at h;cases e:Vt xs.length i with
 |none=>rw[e] at h;cases h
 |some j =>
  rw[e] at h;obtain⟨h1,h2,h3,h4⟩:=_ks e;exact⟨j,h1,h,h2,h3,h4⟩
theorem X2 {α:Type} {xs:List α} {j:Nat} {v:α} (h:xs[j]?=some v):YC xs (j:Int)=some v:=by
 have hj:j<xs.length:=(QK.mp h).1
 have e:Vt xs.length (j:Int)=some j:=by
  unfold Vt;rw[Qb (by lia),Qb (by lia)];simp
 unfold YC;rw[e];exact h
def _fY (b:Expr):Prop:=∀o i,subscripted b false o i=operate [o,i] (getItem o i)
def VJ (X:Cx) (r:R2):Prop :=
 ∀(value slice:Expr) (pins:A4) (s:Shared) (U:St) (H:Hp) (x y:V) (v u:Value) (Q:VK),Inv X pins U H s->RelV x v->RelV y u->r x y H Q →
  subscripted slice false v u=operate [v,u] (getItem v u)->wpAny (model X.prog X.w) X.A (subscriptTail value slice v u) (EP X pins U Q) X.xe s
def UB (X:Cx) (id:String) (r:V->List V->Hp->VK->Prop):Prop :=
 ∀(pins:A4) (s:Shared) (U:St) (H:Hp) (x:V) (xs:List V) (v:Value) (us:B1) (Q:VK),Inv X pins U H s->RelV x v->Vals xs us->r x xs H Q →
  wpAny (model X.prog X.w) X.A (call (.builtin id) (v::us)) (EP X pins U Q) X.xe s
section
variable{a b:Expr} {ta tb:TE}
theorem _j6 {r:R2} (hr:VJ X r) (ha:PE X a ta) (hb:PE X b tb) (hs:_fY b):PE X (.Subscript a b pos) (VO r ta tb):=by
 intro pins s U H Q I h;exact Subscript_ (_aW ha hb I h λv u s2 x y H2 I2 rx ry q=>hr a b pins s2 U H2 x y v u Q I2 rx ry q (hs _ _))
inductive rIxL (K:W.Frag) (x:V) (y:V) (H:Hp) (Q:VK):Prop
 |mk:∀p xs i v,x=.ref p->y=.int i->SqL K H p xs->YC xs i=some v->Q v H->rIxL K x y H Q
inductive rIxT (K:W.Frag) (x:V) (y:V) (H:Hp) (Q:VK):Prop
 |mk:∀p xs i v,x=.ref p->y=.int i->SqT K H p xs->YC xs i=some v->Q v H->rIxT K x y H Q
inductive rIxS (x:V) (y:V) (H:Hp) (Q:VK):Prop
 |mk:∀z i c,x=.str z->y=.int i->z.length<=sizeLine->YC z.cps.toList i=some c->Q (.str ⟨#[c]⟩) H->rIxS x y H Q
theorem Y7:VJ X (rIxL X.K):=by
 intro value slice pins s U H x y v u Q I rx ry h hs;obtain⟨p,xs,i,z,rfl,rfl,hq,he,q⟩:=h;cases rx;obtain⟨t,rfl⟩:=ry;obtain⟨its,r,pl,hz⟩:=I.list hq;obtain⟨j,h1,h2,h3,h4,h5⟩:=_bC he;obtain⟨w,ew,rw'⟩:=r.get h2;have hl:=r.length;have hn:=UL;have fin:EP X pins U Q w s:=⟨z,H,I,rw',q⟩;by_cases h0:0<=i
 ·have hj:i.toNat=j:=by
   rw[seqIndex_of h0 h5] at h1;exact Qt h1
  exact item_listR pl.isList h0 (by lia) (by rw[hj];simpa using ew) fin hs
 ·have hj:(i+(its.toArray.size:Int)).toNat=j:=by
   rw[seqIndex_neg (by lia) h4] at h1;rw[Qx,<-hl];exact Qt h1
  exact subscriptTail_builtinR (x:=w) pl.isList.typeIs slot_list_getitem.lookup
   (wpAny_getItem_list_neg (Q:=λr s'=>r=w/\EP X pins U Q r s') pl.isList (by lia) (by rw[Qx]<;>lia) (by lia) (by rw[hj];simpa using ew) ⟨rfl,fin⟩) hs
theorem _o:VJ X (rIxT X.K):=by
 intro value slice pins s U H x y v u Q I rx ry h hs;obtain⟨p,xs,i,z,rfl,rfl,hq,he,q⟩:=h;cases rx;obtain⟨t,rfl⟩:=ry;obtain⟨its,r,pl,hz⟩:=I.tuple hq;obtain⟨j,h1,h2,h3,h4,h5⟩:=_bC he;obtain⟨w,ew,rw'⟩:=r.get h2;have hl:=r.length;have hn:=UL;have fin:EP X pins U Q w s:=⟨z,H,I,rw',q⟩
 exact subscriptTail_builtinR (x:=w) pl.typeIs slot_tuple_getitem.lookup
  (getItem_tuple (j:=j) (Q:=λr s'=>r=w/\EP X pins U Q r s') pl (by lia) (by lia) (by rw[Qx,<-hl];exact h1) (by simpa using ew) ⟨rfl,fin⟩) hs
theorem _jU:VJ X rIxS:=by
 intro value slice pins s U H x y v u Q I rx ry h hs;obtain⟨z,i,c,rfl,rfl,hz,he,q⟩:=h;obtain⟨t,rfl⟩:=rx;obtain⟨t',rfl⟩:=ry;obtain⟨j,h1,h2,h3,h4,h5⟩:=_bC he;have hl:z.cps.toList.length=z.length:=by simp[Str.length]
 rw[hl] at h1 h4 h5;have hn:=UL
 exact tail_any (RS s z t) slot_str_getitem.lookup (getItem_str (c:=c) (by
  have e1:decide (i< -(2 ^ 63:Int))=false:=Qi (by lia);have e2:decide (i ≥ 2 ^ 63)=false:=Qi (by lia);rw[e1,e2,Nj]) (by rw[h1];simpa using h2) ⟨.str ⟨#[c]⟩,H,I.tok _,⟨_,rfl⟩,q⟩) hs
theorem _kx (lo hi:B8) (n:Nat):(sliceBounds lo hi none n).1=((HT.sIx n 0 lo:Nat):Int)/\(sliceBounds lo hi none n).2.1=((HT.sIx n n hi:Nat):Int)/\(sliceBounds lo hi none n).2.2=1:=by
 refine⟨?_,?_,rfl⟩
 ·cases lo with
  |none=>simp[sliceBounds,HT.sIx]
  |some i =>
   simp only[sliceBounds,HT.sIx,Option.getD_none,show(1:Int) > 0 by decide,RQ];by_cases h:i<0
   ·simp only[h,RQ]<;>lia
   ·simp only[h,Ru]<;>lia
 ·cases hi with
  |none=>simp[sliceBounds,HT.sIx]
  |some i =>
   simp only[sliceBounds,HT.sIx,Option.getD_none,show(1:Int) > 0 by decide,RQ];by_cases h:i<0
   ·simp only[h,RQ]<;>lia
   ·simp only[h,Ru]<;>lia
theorem _hh (its:B1) (lo hi:B8):slicePick its.toArray lo hi none=((its.drop (HT.sIx its.length 0 lo)).take (HT.sIx its.length its.length hi-HT.sIx its.length 0 lo)).toArray:=by
 obtain⟨h1,h2,h3⟩:=_kx lo hi its.toArray.size;unfold slicePick;rw[h1,h2,h3];simp only[sliceRange_one,pick_run,Qx]<;>rfl
inductive rSlL (K:W.Frag) (x:V) (lo:B8) (hi:B8) (H:Hp) (Q:VK):Prop
 |mk:∀a xs,x=.ref a->SqL K H a xs->(∀p,H p=none->Q (.ref p) (_d H p (.lst (Ym xs lo hi))))->rSlL K x lo hi H Q
theorem _aK:SlR X (rSlL X.K):=by
 intro pins s U H x v vl vu lo hi sl Q I rx hs pl pu h;obtain⟨a,xs,rfl,hx,q⟩:=h;cases rx;obtain⟨its,r,ht,hz⟩:=I.list hx;have hlen:=r.length;refine⟨"list",_,slot_list_getitem.lookup,ht.isList.typeIs,?_⟩;refine wpAny_getItem_list_slice ht.isList hs pl pu .none (by simp) ?_ (by rw[Qx]<;>lia);rw[_hh,<-hlen];refine⟨.ref s.heap.objs.size,_,I.laid (t':=s.toks) (o:=.lst (Ym xs lo hi)) (λb ob q=>Qr _ q) (Qg _) ?_,rfl,q _ (I.hok.fresh (Qg _))⟩;exact⟨Qs (_d1 xs lo hi) hz,_,0,(r.drop (HT.sIx xs.length 0 lo)).take (HT.sIx xs.length xs.length hi-HT.sIx xs.length 0 lo),Qw _ rfl⟩
noncomputable def WQ:V->Bool
 |.non=>true
 |.bl _=>true
 |.int _=>true
 |.str _=>true
 |_=>false
noncomputable def Xs:V->V->Bool
 |.non,.non=>true
 |.bl a,.bl b=>a==b
 |.bl a,.int b=>(if a then 1 else 0)==b
 |.int a,.bl b=>a==(if b then 1 else 0)
 |.int a,.int b=>a==b
 |.str a,.str b=>a==b
 |_,_=>false
theorem _dG {v:Value} (ry:RelV y u) (rx:RelV x v) (fy:WQ y=true) (fx:WQ x=true):SeqAt.EqAt A s u v (Xs y x):=by
 cases y with
 |non =>
  cases ry;cases x with
  |non=>cases rx;exact Nk _
  |bl b=>cases rx;exact SeqAt.EqAt.none_bool b
  |int b=>obtain⟨t,rfl⟩:=rx;exact SeqAt.EqAt.none_int b t
  |str b=>obtain⟨t,rfl⟩:=rx;exact SeqAt.EqAt.none_str b t
  |_=>exact absurd (show false=true from fx) QD
 |bl a =>
  cases ry;cases x with
  |non=>cases rx;exact SeqAt.EqAt.bool_none a
  |bl b=>cases rx;exact SeqAt.EqAt.bool_bool a b
  |int b=>obtain⟨t,rfl⟩:=rx;exact SeqAt.EqAt.bool_int a b t
  |str b=>obtain⟨t,rfl⟩:=rx;exact SeqAt.EqAt.bool_str a b t
  |_=>exact absurd (show false=true from fx) QD
 |int a =>
  obtain⟨t',rfl⟩:=ry;cases x with
  |non=>cases rx;exact SeqAt.EqAt.int_none a t'
  |bl b=>cases rx;exact SeqAt.EqAt.int_bool a t' b
  |int b=>obtain⟨t,rfl⟩:=rx;exact SeqAt.EqAt.int_int a t' b t
  |str b=>obtain⟨t,rfl⟩:=rx;exact NI a t' b t
  |_=>exact absurd (show false=true from fx) QD
 |str a =>
  obtain⟨t',rfl⟩:=ry;cases x with
  |non=>cases rx;exact SeqAt.EqAt.str_none a t'
  |bl b=>cases rx;exact SeqAt.EqAt.str_bool a t' b
  |int b=>obtain⟨t,rfl⟩:=rx;exact NJ a t' b t
  |str b=>obtain⟨t,rfl⟩:=rx;exact SeqAt.EqAt.str_str a t' b t
  |_=>exact absurd (show false=true from fx) QD
 |_=>exact absurd (show false=true from fy) QD
noncomputable def Xm (x:V) (u:Value):Bool:=match u with
 |.none=>Xs .non x
 |.bool b=>Xs (.bl b) x
 |.int i _=>Xs (.int i) x
 |.str z _=>Xs (.str z) x
 |_=>false
theorem _fS (r:RelV y u) (f:WQ y=true):Xm x u=Xs y x:=by
 cases y with
 |non=>cases r;rfl
 |bl b=>cases r;rfl
 |int i=>obtain⟨t,rfl⟩:=r;rfl
 |str z=>obtain⟨t,rfl⟩:=r;rfl
 |_=>exact absurd (show false=true from f) QD
theorem Jn {x:V}:∀{xs:List V} {us:B1},Vals xs us->xs.all WQ=true->us.any (Xm x)=xs.any λy=>Xs y x
 |_,_,.nil,_=>rfl
 |y::xs,u::us,.cons r t,f=>by
  rw[Gm,R6] at f;rw[Rq,Rq,_fS r f.1,Jn t f.2]
theorem UE {A:Around} {s:Shared} {x:V} {v:Value} (rx:RelV x v) (fx:WQ x=true):∀{xs:List V} {us:B1},Vals xs us->xs.all WQ=true->∀u∈us,SeqAt.EqAt A s u v (Xm x u)
 |_,_,.nil,_=>λu hu=>by cases hu
 |y::xs,u::us,.cons r t,f=>λu' hu=>by
  rw[Gm,R6] at f;rcases Qk.mp hu with rfl|hu
  ·rw[_fS r f.1];exact _dG r rx f.1 fx
  ·exact UE rx fx t f.2 u' hu
noncomputable def Xp (x:V) (xs:List V):Bool:=xs.any λy=>Xs y x
inductive rIn (K:W.Frag) (neg:Bool) (x:V) (y:V) (H:Hp) (Q:VK):Prop
 |mk:∀p xs,y=.ref p->((SqL K H p xs\/SqT K H p xs))->WQ x=true->xs.all WQ=true->(Q (.bl (if neg then !Xp x xs else Xp x xs)) H)->rIn K neg x y H Q
theorem W2:Yb X (compareOp .In) (rIn X.K false):=by
 intro pins s U H x y v u Q I rx ry h;obtain⟨p,xs,rfl,hq,fx,fs,q⟩:=h;cases ry;rcases hq with hq|hq
 ·obtain⟨its,r,pl,hz⟩:=I.list hq;refine SeqAt.in_listAt (Xm x) pl.isList (λw hw=>UE rx fx r fs w (by simpa using hw)) ⟨.bl _,H,I,rfl,?_⟩;rw[show its.toArray.any (Xm x)=its.any (Xm x) by simp,Jn r fs];exact q
 ·obtain⟨its,r,pl,hz⟩:=I.tuple hq;refine SeqAt.in_tupleAt (Xm x) pl (λw hw=>UE rx fx r fs w (by simpa using hw)) ⟨.bl _,H,I,rfl,?_⟩;rw[show its.toArray.any (Xm x)=its.any (Xm x) by simp,Jn r fs];exact q
theorem _hD:Yb X (compareOp .NotIn) (rIn X.K true):=by
 intro pins s U H x y v u Q I rx ry h;obtain⟨p,xs,rfl,hq,fx,fs,q⟩:=h;cases ry;rcases hq with hq|hq
 ·obtain⟨its,r,pl,hz⟩:=I.list hq;refine SeqAt.notIn_listAt (Xm x) pl.isList (λw hw=>UE rx fx r fs w (by simpa using hw)) ⟨.bl _,H,I,rfl,?_⟩;rw[show its.toArray.any (Xm x)=its.any (Xm x) by simp,Jn r fs];exact q
 ·obtain⟨its,r,pl,hz⟩:=I.tuple hq;refine SeqAt.notIn_tupleAt (Xm x) pl (λw hw=>UE rx fx r fs w (by simpa using hw)) ⟨.bl _,H,I,rfl,?_⟩;rw[show its.toArray.any (Xm x)=its.any (Xm x) by simp,Jn r fs];exact q
theorem YS:YE X (.builtin "len") (λxs H Q=>∃p ys,xs=[.ref p]/\(SqL X.K H p ys\/SqT X.K H p ys)/\Q (.int ys.length) H):=by
 intro pins s U H xs us Q I r h;obtain⟨p,ys,rfl,hq,q⟩:=h;obtain⟨u,rfl,rx⟩:=Xe r;cases rx;have hn:=UL;rcases hq with hq|hq
 ·obtain⟨its,r',pl,hz⟩:=I.list hq;have hlen:=r'.length;exact Calls.call_len_list pl.isList (by simp only[Qx]<;>lia) ⟨.int ys.length,H,I.tok _,⟨s.toks+1,by rw[Qx,hlen]⟩,q⟩
 ·obtain⟨its,r',pl,hz⟩:=I.tuple hq;have hlen:=r'.length;exact len_tuple pl (by simp only[Qx]<;>lia) ⟨.int ys.length,H,I.tok _,⟨s.toks+1,by rw[Qx,hlen]⟩,q⟩
theorem _gz:YE X (.builtin "len") (λxs H Q=>∃z,xs=[.str z]/\z.length<=sizeLine/\Q (.int z.length) H):=by
 intro pins s U H xs us Q I r h;obtain⟨z,rfl,hz,q⟩:=h;obtain⟨u,rfl,t,rfl⟩:=Xe r;have hn:=UL;exact len_str (by lia) ⟨.int z.length,H,I.tok _,⟨_,rfl⟩,q⟩
theorem _mU:YE X (.type "list") (λxs H Q=>∃p ys,xs=[.ref p]/\(SqL X.K H p ys\/SqT X.K H p ys)/\∀l,H l=none->Q (.ref l) (_d H l (.lst ys))):=by
 intro pins s U H xs us Q I r h;obtain⟨p,ys,rfl,hq,q⟩:=h;obtain⟨u,rfl,rx⟩:=Xe r;cases rx
 have fin : ∀(its : B1), Vals ys its → ys.length <= sizeLine → ∀(h' : Heap) (c' : Nat), (∀b o', s.heap.get? b=some o' → h'.get? b=some o') →
   h'.get? s.heap.objs.size=some { cls:=.type "list",dict:=none,data:=.seq its.toArray c',slots:=#[] }->EP X pins U Q (.ref s.heap.objs.size) { s with heap:=h' }:=λits r' hz h' c' kp e =>
  ⟨.ref s.heap.objs.size,_,I.laid (t':=s.toks) kp (Qg _) (show ObjOk X.prog X.w _ h' _ (.lst ys) from⟨hz,its,c',r',e⟩),rfl,q _ (I.hok.fresh (Qg _))⟩
 rcases hq with hq|hq
 ·obtain⟨its,r',pl,hz⟩:=I.list hq;have hlen:=r'.length;obtain⟨o,ho,hc,n,hd⟩:=pl.isList;exact call_list_seq p (.inl rfl) ho hc hd (λh' c' kp e=>fin its r' hz h' c' kp e) (by simp only[Qx]<;>lia)
 ·obtain⟨its,r',pl,hz⟩:=I.tuple hq;have hlen:=r'.length;obtain⟨o,ho,hc,n,hd⟩:=pl;exact call_list_seq p (.inr rfl) ho hc hd (λh' c' kp e=>fin its r' hz h' c' kp e) (by simp only[Qx]<;>lia)
def tyV (K:W.Frag) (T:String) (x:V) (H:Hp):Prop:=match x with
 |.str _=>T="str"
 |.int _=>T="int"
 |.ref p => (T="list" /\ ∃xs, SqL K H p xs) \/ (T="tuple" /\ ∃o, K.lookup p=some o /\ o.cls=.type "tuple" /\ o.dict=none) \/
   (T="dict"/\((∃kvs,H p=some (.dK kvs))\/∃kvs,H p=some (.dT kvs)))\/(T="set"/\∃S n,H p=some (.set S n))
 |_=>False
theorem _cn {v:Value} (I:Inv X pins U H s) (r:RelV x v) (ty:tyV X.K T x H) :
  s.TypeIs v T/\∀a,v=.ref a->∃ob,s.heap.get? a=some ob/\ob.dict=none:=by
 cases x with
 |str z =>
  obtain⟨t,rfl⟩:=r;cases(show T="str" from ty);exact⟨RS s z t,λ_ e=>nomatch e⟩
 |int i =>
  obtain⟨t,rfl⟩:=r;cases(show T="int" from ty);exact⟨typeIs_int s i t,λ_ e=>nomatch e⟩
 |ref p =>
  cases r;rcases ty with⟨rfl,xs,hq⟩|⟨rfl,o,hk,hc,hd⟩|⟨rfl,hk⟩|⟨rfl,S,n,hk⟩
  ·obtain⟨its,_,pl,_⟩:=I.list hq;refine⟨pl.isList.typeIs,λa e=>?_⟩;cases e;obtain⟨o,n,e,c,hd,_⟩:=pl;exact⟨o,e,hd⟩
  ·refine⟨⟨o,I.kIn p o hk,hc⟩,λa e=>?_⟩;cases e;exact⟨o,I.kIn _ o hk,hd⟩
  ·have z:∃o,s.heap.get? p=some o/\o.ExactDict:=by
    rcases hk with⟨kvs,hk⟩|⟨kvs,hk⟩
    ·obtain⟨_,_,_,_,o,_,_,e,ex,_⟩:=I.hok p _ hk;exact⟨o,e,ex⟩
    ·obtain⟨_,_,_,_,o,_,_,e,ex,_⟩:=I.hok p _ hk;exact⟨o,e,ex⟩
   obtain⟨o,e,ex⟩:=z;refine⟨⟨o,e,ex.1⟩,λa e2=>?_⟩;cases e2;exact⟨o,e,ex.2.1⟩
  ·obtain⟨o,_,_,_,e,ex,_⟩:=I.hok p _ hk;refine⟨⟨o,e,ex.1⟩,λa e2=>?_⟩;cases e2;exact⟨o,e,ex.2.1⟩
 |_=>exact False.elim ty
def _du (K:W.Frag) (T:String) (r:V->List V->Hp->VK->Prop) (to:TE):TE:=λU H Q=>to U H λx H1=>tyV K T x H1/\r x [] H1 Q
def tBM (K:W.Frag) (T:String) (r:V->List V->Hp->VK->Prop) (to:TE) (t:TA):TE:=λU H Q=>to U H λx H1=>tyV K T x H1/\t U H1 λxs H2=>r x xs H2 Q
variable{o:Expr} {es:C0} {to:TE} {t:TA} {name:Str} {apos cpos:Pos} {id:String} {r:V->List V->Hp->VK->Prop}
theorem _n0 (pa:PlainAttrs T) (slot:Slot T name id) (hty:typeOf (.builtin id)=pure (.type "method_descriptor")) (hm:UB X id r) (ho:PE X o to)
 (hbase:attributeBase o name X.env (eval o X.env)=eval o X.env:=by rfl) (hline:(apos.endLine==cpos.line)=true:=by rfl):PE X (.Call (.Attribute o name apos) [] [] cpos) (_du X.K T r to):=by
 intro pins s U H Q I h;refine wpAny_Call_method0_late hbase hline (_w (ho pins s U H _ I h) λv s1 zq=>?_);obtain⟨x,H1,I1,r1,ty,q1⟩:=zq;obtain⟨h1,h2⟩:=_cn I1 r1 ty;exact⟨T,id,pa,slot,hty,h1,h2,Nl rfl (PySem.evalArgs_none (hm pins s1 U H1 x [] v [] Q I1 r1 .nil q1))⟩
theorem Vx (pa:PlainAttrs T) (slot:Slot T name id) (hty:typeOf (.builtin id)=pure (.type "method_descriptor")) (hm:UB X id r) (ho:PE X o to) (ha:PA X (e::es) t)
 (hbase:attributeBase o name X.env (eval o X.env)=eval o X.env:=by rfl)
 (hfew:((backTo cpos (starEach (e::es) X.env)).all (λx=>!x.1)&&(backToKw cpos (keywordEach [] X.env)).all (λx=>x.1.isSome)
 && decide ((e::es).length+([]:List Keyword).length+(if([]:List Keyword).isEmpty then 0 else 1)<30))=true:=by rfl)
 (hline:(apos.endLine==cpos.line)=true:=by rfl) (hs:starEach (e::es) X.env=(false,eval e X.env)::starEach es X.env:=by rfl) (hplain:(backTo cpos (starEach es X.env)).any (·.1)=false:=by rfl) :
  PE X (.Call (.Attribute o name apos) (e::es) [] cpos) (tBM X.K T r to t):=by
 intro pins s U H Q I h;refine wpAny_Call_method_late hbase hfew hline rfl (_w (ho pins s U H _ I h) λv s1 zq=>?_);obtain⟨x,H1,I1,r1,ty,q1⟩:=zq;obtain⟨h1,h2⟩:=_cn I1 r1 ty;refine⟨T,id,pa,slot,hty,h1,h2,?_⟩;have hA:=ha cpos pins s1 U H1 _ I1 q1;rw[hs] at hA ⊢;refine Nl (by show(false||(backTo cpos (starEach es X.env)).any (·.1))=false;rw[hplain]<;>rfl) (No ?_);refine _w hA λus s2 zq=>?_;obtain⟨vs,H2,I2,r2,q2⟩:=zq;exact hm pins s2 U H2 x vs v us Q I2 r1 r2 q2
/- xs.append(e),list.index on a module's tuple .. are UB facts of 06m -/
end
def MtM (X:Cx) (id:String) (r:V->List V->Hp->VK->Prop):Prop :=
 ∀(pins:A4) (s:Shared) (U:St) (H:Hp) (x:V) (xs:List V) (v:Value) (us:B1) (Q:VK),Inv X pins U H s->RelV x v->Vals xs us->r x xs H Q →
  wpAny (model X.prog X.w) X.A (call (.builtin id) (v::us)) (EP X pins U Q) X.xe s
theorem Vals.one {us:B1} (h:Vals [x] us):∃u,us=[u]/\RelV x u:=by
 cases h with
 |cons r t=>cases t;exact⟨_,rfl,r⟩
theorem Vals.two:∀{x y:V} {us:B1},Vals [x,y] us->∃u v,us=[u,v]/\RelV x u/\RelV y v
 |_,_,_,.cons r (.cons q .nil)=>⟨_,_,rfl,r,q⟩
section
variable{l:Addr} {xs ys zs:List V}
theorem Inv.lset {its its':B1} {n:Nat} {f:B6->B6} (I:Inv X pins U H s) (hH:H l=some (.lst xs))
 (e:s.heap.get? l=some { cls:=.type "list",data:=.seq its.toArray n }) (hf:f its.toArray=its'.toArray) (hv:Vals ys its') (hz:ys.length<=sizeLine) :
  Inv X pins U (_d H l (.lst ys)) { s with heap:=s.heap.update l (Obj.mapSeq f),toks:=t' }:=by
 have q:=PySem.IsL.update e f;rw[hf] at q;refine I.write (x:=l) (e:=l) (by rw[hH];exact trivial) (.inl rfl) (λb' u hb hu=>(Heap.get?_update_other s.heap (Obj.mapSeq f) (QM hb)).trans hu) ⟨_,q⟩ ?_;exact⟨hz,its',_,hv,q⟩
theorem Inv.lnew {its:B1} (I:Inv X pins U H s) (hv:Vals ys its) (hz:ys.length<=sizeLine) :
  Inv X pins U (_d H s.heap.objs.size (.lst ys)) { s with heap:=s.heap.push { cls:=.type "list",data:=.seq its.toArray },toks:=t' } :=
 I.laid (λ_ _ q=>Qr _ q) (Qg _) ⟨hz,its,0,hv,Qw _ rfl⟩
theorem Inv.fresh (I:Inv X pins U H s):H s.heap.objs.size=none:=I.hok.fresh (Qg _)
theorem Inv.lstM (I:Inv X pins U H s) (hH:H l=some (.lst xs)):xs.length<=sizeLine/\∃(its:B1) (n:Nat),Vals xs its/\xs.length=its.length/\s.heap.get? l=some { cls:=.type "list",data:=.seq its.toArray n }:=by
 obtain⟨z,its,n,r,e⟩:=I.hok l _ hH;exact⟨z,its,n,r,r.length,e⟩
end
inductive rAppend (x:V) (vs:List V) (H:Hp) (Q:VK):Prop
 |mk:∀l xs y,x=.ref l->vs=[y]->H l=some (.lst xs)->xs.length<sizeLine->Q .non (_d H l (.lst (xs++[y])))->rAppend x vs H Q
theorem VA:MtM X "list.append" rAppend:=by
 intro pins s U H x vs v us Q I rx rv h;obtain⟨l,xs,y,rfl,rfl,hH,hz,q⟩:=h;cases rx;obtain⟨u,rfl,ru⟩:=rv.one;obtain⟨z,its,n,r,hl,e⟩:=I.lstM hH;refine call_meets F.slot_list_append ⟨_,e,rfl⟩ F.entry_list_append (F.args_list_append_2 _ _) (PySem.list_append l its.toArray n u (by rw[Qx];lia)) ⟨e,?_⟩;refine⟨.non,_,I.lset (its':=its++[u]) hH e (by simp) (r.append (.cons ru .nil)) ?_,rfl,q⟩;rw[Qq,List.length_singleton];lia
inductive rCat (x:V) (y:V) (H:Hp) (Q:VK):Prop
 |mk:∀l b xs zs,x=.ref l->y=.ref b->H l=some (.lst xs)->H b=some (.lst zs)->xs.length+zs.length<=sizeLine->(∀p,H p=none->Q (.ref p) (_d H p (.lst (xs++zs))))->rCat x y H Q
theorem _aZ:Yb X (binaryOp .Add) rCat:=by
 intro pins s U H x y v u Q I rx ry h;obtain⟨l,b,xs,zs,rfl,rfl,hH,hB,hz,q⟩:=h;cases rx;cases ry;obtain⟨z,its,n,r,hl,e⟩:=I.lstM hH;obtain⟨z2,its2,n2,r2,hl2,e2⟩:=I.lstM hB;refine PySem.P.add_list e e2 ?_ (by rw[Qx,Qx];lia);have ea:its.toArray++its2.toArray=(its++its2).toArray:=by simp
 rw[ea];exact⟨.ref _,_,I.lnew (t':=s.toks) (r.append r2) (by rw[Qq];lia),rfl,q _ I.fresh⟩
section
variable{prog:Program} {w:World}
set_option maxRecDepth 100000 in
end
section
variable{κ:Type} [DecidableEq κ]
noncomputable def _K (kvs:List (κ×V)) (k:κ):Option V:=(kvs.find? λkv=>decide (kv.1=k)).map (·.2)
noncomputable def Yi (kvs:List (κ×V)) (k:κ) (v:V):List (κ×V) :=
 if(kvs.any λkv=>decide (kv.1=k))=true then kvs.map (λkv=>if kv.1=k then(kv.1,v) else kv) else kvs++[(k,v)]
theorem YL {p:κ×V} {r:List (κ×V)} {k:κ} (e:p.1=k):_K (p::r) k=some p.2:=by simp[_K,RT,e]
theorem Yq {p:κ×V} {r:List (κ×V)} {k:κ} (e:¬p.1=k):_K (p::r) k=_K r k:=by simp[_K,RT,e]
theorem Jj (k:κ):∀kvs:List (κ×V),(kvs.any λkv=>decide (kv.1=k))=(_K kvs k).isSome
 |[]=>rfl
 |p::r=>by
  rw[Rq];by_cases e:p.1=k
  ·simp only[YL e,Ql e,Bool.true_or,Option.isSome_some]
  ·rw[Yq e,Qi e,Bool.false_or];exact Jj k r
theorem _cu (k j:κ) (y:V):∀kvs:List (κ×V),_K (kvs.map λkv=>if kv.1=k then(kv.1,y) else kv) j=(_K kvs j).map λx=>if j=k then y else x
 |[]=>rfl
 |p::r=>by
  have ih:=_cu k j y r;rw[Qm];by_cases h:p.1=k
  ·rw[Qb h];by_cases e:p.1=j
   ·rw[YL (p:=(p.1,y)) e,YL e,Gg,Qb (e.symm.trans h)]
   ·rw[Yq (p:=(p.1,y)) e,Yq e,ih]
  ·rw[Qa h];by_cases e:p.1=j
   ·rw[YL (p:=p) e,YL e,Gg,Qa (λz=>h (e.trans z))]
   ·rw[Yq (p:=p) e,Yq e,ih]
theorem _dT (k j:κ) (y:V):∀kvs:List (κ×V),_K kvs k=none->_K (kvs++[(k,y)]) j=if j=k then some y else _K kvs j
 |[],_=>by
  by_cases e:k=j
  ·rw[Qb e.symm];exact YL (p:=(k,y)) e
  ·rw[Qa (λz=>e z.symm)];exact Yq (p:=(k,y)) e
 |p::r,hn=>by
  rw[Np];have hk:¬p.1=k:=λz=>by rw[YL z] at hn;cases hn
  rw[Yq hk] at hn;have ih:=_dT k j y r hn;by_cases e:p.1=j
  ·rw[YL e,YL e,Qa (λz=>hk (e.trans z))]
  ·rw[Yq e,Yq e,ih]
theorem _fZ (kvs:List (κ×V)) (k j:κ) (y:V):_K (Yi kvs k y) j=if j=k then some y else _K kvs j:=by
 unfold Yi;by_cases a:(kvs.any λkv=>decide (kv.1=k))=true
 ·rw[Qb a,_cu];rw[Jj] at a;by_cases e:j=k
  ·obtain⟨x,hx⟩:=NQ.mp a;rw[Qb e,e,hx,Gg,Qb rfl]
  ·rw[Qa e];cases _K kvs j with
   |none=>rfl
   |some x=>rw[Gg,Qa e]
 ·rw[Qa a];refine _dT k j y kvs ?_;rw[Jj] at a;cases q:_K kvs k with
  |none=>rfl
  |some x=>rw[q] at a;exact(a rfl).elim
theorem JJ (kvs:List (κ×V)) (k:κ) (v:V):(Yi kvs k v).length<=kvs.length+1:=by
 unfold Yi;split
 ·rw[Qd];lia
 ·rw[Qq,QC,Gn];lia
theorem _bu {kvs:List (κ×V)} {k:κ} (v:V) (h:_K kvs k=none):Yi kvs k v=kvs++[(k,v)]:=by
 unfold Yi;rw[Jj,h];exact Qa (by decide)
theorem RelO.isSome_eq {u:B4} (r:RelO o u):o.isSome=u.isSome:=by
 cases o with
 |none=>cases u with
  |none=>rfl
  |some _=>exact(show False from r).elim
 |some _=>cases u with
  |none=>exact(show False from r).elim
  |some _=>rfl
theorem RelO.getD {u:B4} {d:V} {d':Value} (r:RelO o u) (rd:RelV d d'):RelV (o.getD d) (u.getD d'):=by
 cases o with
 |none=>cases u with
  |none=>exact rd
  |some _=>exact(show False from r).elim
 |some _=>cases u with
  |none=>exact(show False from r).elim
  |some _=>exact r
theorem KV.val {kvs:List (κ×V)} {vs:List (κ×Value)} (r:KV kvs vs) (k:κ):RelO (_K kvs k) (valueAt vs k):=by
 unfold KV at r
 induction r with
 |nil=>exact True.intro
 |@cons p q ps qs h t ih =>
  obtain⟨h1,h2⟩:=h;by_cases e:p.1=k
  ·have e':q.1=k:=h1.symm.trans e;have b:valueAt (q::qs) k=some q.2:=by simp[valueAt,RT,e']
   rw[YL e,b];exact h2
  ·have e':¬q.1=k:=λz=>e (h1.trans z);have b:valueAt (q::qs) k=valueAt qs k:=by simp[valueAt,RT,e']
   rw[Yq e,b];exact ih
theorem KV.any {kvs:List (κ×V)} {vs:List (κ×Value)} (r:KV kvs vs) (k:κ):(kvs.any λkv=>decide (kv.1=k))=vs.any λkv=>decide (kv.1=k):=by
 unfold KV at r
 induction r with
 |nil=>rfl
 |cons h t ih=>rw[Rq,Rq,ih,h.1]
theorem KV.repl {kvs:List (κ×V)} {vs:List (κ×Value)} (r:KV kvs vs) (k:κ) (ry:RelV y u) :
  KV (kvs.map λkv=>if kv.1=k then(kv.1,y) else kv) (vs.map λkv=>if kv.1=k then(kv.1,u) else kv):=by
 unfold KV at r ⊢
 induction r with
 |nil=>exact .nil
 |@cons p q ps qs h t ih =>
  rw[Qm,Qm];refine .cons ?_ ih;obtain⟨h1,h2⟩:=h;by_cases e:p.1=k
  ·rw[Qb e,Qb (h1.symm.trans e)];exact⟨h1,ry⟩
  ·rw[Qa e,Qa (λz=>e (h1.trans z))];exact⟨h1,h2⟩
theorem KV.put {kvs:List (κ×V)} {vs:List (κ×Value)} (r:KV kvs vs) (k:κ) (ry:RelV y u):KV (Yi kvs k y) (stored vs k u):=by
 unfold Yi stored;rw[r.any k];by_cases e:(vs.any λkv=>decide (kv.1=k))=true
 ·rw[Qb e,Qb e];exact r.repl k ry
 ·rw[Qa e,Qa e];exact Paired.snoc r ⟨rfl,ry⟩
theorem KV.length {kvs:List (κ×V)} {vs:List (κ×Value)} (r:KV kvs vs):kvs.length=vs.length:=Nd r
end
theorem Vs {w:World} {k:_j} (r:RelV (kV k) u):(Ys P w).is k u=true:=by
 cases k with
 |inl i=>obtain⟨t,e⟩:=(show ∃t,u=Value.int i t from r);subst e;exact _kX P w i t
 |inr x=>obtain⟨t,e⟩:=(show ∃t,u=Value.str x t from r);subst e;exact _kp P w x t
theorem _eD {P:Program} {w:World}:∀{ks:List _j} {us:B1},Vals (ks.map kV) us->ItemsAre (Ys P w) ks us
 |[],_,r=>by rw[GK] at r;cases r;exact .nil
 |k::ks,_,r=>by
  rw[Qm] at r;cases r with
  |cons h t=>exact .cons (Vs h) (_eD t)
abbrev KT (H:Hp):List (List _j×V)->List (List _j×Addr×Value)->Prop:=Paired λp q=>p.1=q.1/\H q.2.1=some (.tup (p.1.map kV))/\RelV p.2 q.2.2
theorem KT.val (r:KT H kvs xs) (k:List _j):RelO (_K kvs k) ((atKey xs k).map (·.2)):=by
 induction r with
 |nil=>exact True.intro
 |@cons p q ps qs h t ih =>
  obtain⟨h1,_,h2⟩:=h;by_cases e:p.1=k
  ·have e':q.1=k:=h1.symm.trans e;have b:atKey (q::qs) k=some q.2:=by simp[atKey,RT,e']
   rw[YL e,b];exact h2
  ·have e':¬q.1=k:=λz=>e (h1.trans z);have b:atKey (q::qs) k=atKey qs k:=by simp[atKey,RT,e']
   rw[Yq e,b];exact ih
theorem KT.repl (r:KT H kvs xs) (k:List _j) (ry:RelV y u) :
  KT H (kvs.map λkv=>if kv.1=k then(kv.1,y) else kv) (xs.map (putAt k u)):=by
 induction r with
 |nil=>exact .nil
 |@cons p q ps qs h t ih =>
  rw[Qm,Qm];refine .cons ?_ ih;obtain⟨h1,h2,h3⟩:=h;unfold putAt;by_cases e:p.1=k
  ·rw[Qb e,Qb (h1.symm.trans e)];exact⟨h1,h2,ry⟩
  ·rw[Qa e,Qa (λz=>e (h1.trans z))];exact⟨h1,h2,h3⟩
theorem KT.put (r:KT H kvs xs) (k:List _j) (hb:H b=some (.tup (k.map kV))) (ry:RelV y u) :
  KT H (Yi kvs k y) (storedH xs k b u):=by
 have e:(kvs.any λkv=>decide (kv.1=k))=(atKey xs k).isSome:=by
  rw[Jj,(r.val k).isSome_eq,NR]
 unfold Yi storedH;rw[e];by_cases q:(atKey xs k).isSome=true
 ·rw[Qb q,Qb q];exact r.repl k ry
 ·rw[Qa q,Qa q];exact Paired.snoc r ⟨rfl,hb,ry⟩
theorem KT.keeps (r:KT H kvs xs) (ht:∀b ys,H b=some (.tup ys)->H' b=some (.tup ys)):KT H' kvs xs :=
 Paired.mapP r λ_ _ z=>⟨z.1,ht _ _ z.2.1,z.2.2⟩
section
variable{w:World} {h:Heap}
theorem _cs {u:HO} (ok:HOk P w H h) (e:Rd H a u):ObjOk P w H h a u:=e.ok ok
theorem Vb {kvs:List (_j×V)} (ok:HOk P w H h) (e:Rd H a (.dK kvs)):kvs.length<=sizeLine/\(a==sysModules)=false/\∃vs,KV kvs vs/\h.DictOf (Ys P w) a vs :=
 show ObjOk P w H h a (.dK kvs) from _cs ok e
theorem _ax {kvs:List (_j×V)} (ok:HOk P w H h) (e:H a=some (.dK kvs)):kvs.length<=sizeLine/\(a==sysModules)=false/\∃vs,KV kvs vs/\h.DictOf (Ys P w) a vs:=Vb ok (.inl e)
theorem Vu {ks:List _j} (ok:HOk P w H h) (e:H a=some (.tup (ks.map kV))):(tupleKind (Ys P w)).is h ks a:=by
 obtain⟨_,its,r,o,h1,h2,n,h3⟩:=(show ObjOk P w H h a (.tup (ks.map kV)) from ok a _ e);exact⟨o,its.toArray,n,h1,h2,h3,by simpa using _eD r⟩
theorem Ve (ok:HOk P w H h) (e:Rd H a (.dT kvs)):kvs.length<=sizeLine/\(a==sysModules)=false /\
  ∃xs,KT H kvs xs/\h.DictOfH (tupleKind (Ys P w)) a xs:=by
 obtain⟨z,y,xs,r,o,es,ep,h1,h2,h3,h4,h5⟩:=(show ObjOk P w H h a (.dT kvs) from _cs ok e);refine⟨z,y,xs,r,o,es,ep,h1,h2,h3,h4,λx hx=>?_,h5⟩
 have all:∀{l:List (List _j×V)} {m:List (List _j×Addr×Value)},KT H l m->∀x∈m,(tupleKind (Ys P w)).is h x.1 x.2.1:=by
  intro l m q
  induction q with
  |nil=>intro x hx;exact nomatch hx
  |@cons p q ps qs hq t ih =>
   intro x hx;rcases Qk.mp hx with e|hx
   ·subst e;exact Vu ok (by rw[<-hq.1];exact hq.2.1)
   ·exact ih x hx
 exact all r x hx
theorem VZ (ok:HOk P w H h) (e:H a=some (.dT kvs)):kvs.length<=sizeLine/\(a==sysModules)=false /\
  ∃xs,KT H kvs xs/\h.DictOfH (tupleKind (Ys P w)) a xs:=Ve ok (.inl e)
end
def DGet (H:Hp) (a:Addr) (y:V) (r:Option V):Prop :=
 (∃kvs k,Rd H a (.dK kvs)/\y=kV k/\r=_K kvs k)\/∃kvs k b,Rd H a (.dT kvs)/\y=.ref b/\H b=some (.tup (k.map kV))/\r=_K kvs k
def DPut (H:Hp) (a:Addr) (y v:V) (H':Hp):Prop :=
 (∃kvs k,H a=some (.dK kvs)/\y=kV k/\kvs.length<sizeLine/\H'=_d H a (.dK (Yi kvs k v))) \/
 ∃kvs k b,H a=some (.dT kvs)/\y=.ref b/\H b=some (.tup (k.map kV))/\kvs.length<sizeLine/\H'=_d H a (.dT (Yi kvs k v))
theorem DGet.k {kvs:List (_j×V)} {k:_j} (e:H a=some (.dK kvs)):DGet H a (kV k) (_K kvs k):=.inl ⟨kvs,k,.inl e,rfl,rfl⟩
theorem DGet.t {k:List _j} (e:H a=some (.dT kvs)) (eb:H b=some (.tup (k.map kV))):DGet H a (.ref b) (_K kvs k):=.inr ⟨kvs,k,b,.inl e,rfl,eb,rfl⟩
theorem DPut.k {kvs:List (_j×V)} {k:_j} {v:V} (e:H a=some (.dK kvs)) (hl:kvs.length<sizeLine):DPut H a (kV k) v (_d H a (.dK (Yi kvs k v))):=.inl ⟨kvs,k,e,rfl,hl,rfl⟩
theorem DPut.t {k:List _j} {v:V} (e:H a=some (.dT kvs)) (eb:H b=some (.tup (k.map kV))) (hl:kvs.length<sizeLine) :
  DPut H a (.ref b) v (_d H a (.dT (Yi kvs k v))):=.inr ⟨kvs,k,b,e,rfl,eb,hl,rfl⟩
section
variable{v:V} {r:Value}
theorem Inv.big (I:Inv X pins U H s):sysModules<s.heap.objs.size:=by
 have h:mainGlobals<s.heap.objs.size:=(I.mod.glob.keeps I.bk).lt;exact Nat.lt_trans (by decide) h
theorem _je (hu:A.units+1<cLine) (I:Inv X pins U H s) (g:DGet H a y (some v)) (ry:RelV y u) (h:∀w' s',Inv X pins U H s'->RelV v w'->Q w' s') :
  wpAny (model X.prog X.w) A (getItem (.ref a) u) Q E s:=by
 rcases g with⟨kvs,k,e,ey,l⟩|⟨kvs,k,b,e,ey,eb,l⟩
 ·subst ey;obtain⟨z,hd,vs,rel,dd⟩:=Vb I.hok e;obtain⟨w',hw,rw'⟩:=RelO.some_of (v:=v) (o:=valueAt vs k) (by rw[l];exact rel.val k);exact wpAny_getItem_of (Vs ry) dd.mapOf hw (h w' _ (I.tok _) rw')
 ·subst ey;cases(show u=Value.ref b from ry);obtain⟨z,hd,xs,rel,dd⟩:=Ve I.hok e;obtain⟨w',hw,rw'⟩:=RelO.some_of (v:=v) (o:=(atKey xs k).map (·.2)) (by rw[l];exact rel.val k);obtain⟨p,hp,hp2⟩:=Q8.mp hw;refine wpAny_getItem_heap (Go hu) (Vu I.hok eb) dd hp ?_;rw[hp2];exact h w' _ (I.tok _) rw'
theorem _nD (hu:A.units+1<cLine) (I:Inv X pins U H s) (g:DGet H a y o) (ry:RelV y u) (h:∀s',Inv X pins U H s'->Q (.bool o.isSome) s') :
  wpAny (model X.prog X.w) A (compareOp .In u (.ref a)) Q E s:=by
 rcases g with⟨kvs,k,e,ey,l⟩|⟨kvs,k,b,e,ey,eb,l⟩
 ·subst ey;obtain⟨z,hd,vs,rel,dd⟩:=Vb I.hok e;refine wpAny_in_of (Vs ry) hd dd.mapOf ?_;rw[<-(rel.val k).isSome_eq,<-l];exact h _ (I.tok _)
 ·subst ey;cases(show u=Value.ref b from ry);obtain⟨z,hd,xs,rel,dd⟩:=Ve I.hok e;refine wpAny_in_heap (Go hu) (Vu I.hok eb) hd dd ?_;have q:=(rel.val k).isSome_eq;rw[NR] at q;rw[<-q,<-l];exact h _ (I.tok _)
theorem _nr (hu:A.units+1<cLine) (I:Inv X pins U H s) (g:DGet H a y o) (ry:RelV y u) (h:∀s',Inv X pins U H s'->Q (.bool (!o.isSome)) s') :
  wpAny (model X.prog X.w) A (compareOp .NotIn u (.ref a)) Q E s:=by
 rcases g with⟨kvs,k,e,ey,l⟩|⟨kvs,k,b,e,ey,eb,l⟩
 ·subst ey;obtain⟨z,hd,vs,rel,dd⟩:=Vb I.hok e;refine wpAny_notIn_of (Vs ry) hd dd.mapOf ?_;rw[<-(rel.val k).isSome_eq,<-l];exact h _ (I.tok _)
 ·subst ey;cases(show u=Value.ref b from ry);obtain⟨z,hd,xs,rel,dd⟩:=Ve I.hok e;refine wpAny_notIn_heap (Go hu) (Vu I.hok eb) hd dd ?_;have q:=(rel.val k).isSome_eq;rw[NR] at q;rw[<-q,<-l];exact h _ (I.tok _)
theorem JH {h':Heap} {ob:HO} (I:Inv X pins U H s) (mu:Uw (H a)) (hs:Heap.SameBut a s.heap h') (he:∃q,h'.get? a=some q) (new:ObjOk X.prog X.w (_d H a ob) h' a ob) :
  Inv X pins U (_d H a ob) { s with heap:=h',toks:=t' } :=
 I.write (x:=a) (e:=a) mu (.inl rfl) (λb q hb z=>(hs.2 b hb).trans z) he new
theorem _ff {w:World} {h':Heap} {kvs:List (_j×V)} {vs:List (_j×Value)} (z:kvs.length<=sizeLine) (hd:(a==sysModules)=false) (rel:KV kvs vs) (dd:h'.DictOf (Ys P w) a vs) :
  ObjOk P w H' h' a (.dK kvs):=⟨z,hd,vs,rel,dd⟩
theorem _kQ {Q:Unit->Shared->Prop} (hu:A.units+1<cLine) (I:Inv X pins U H s) (g:DPut H a y v H') (ry:RelV y u) (rv:RelV v r) (h:∀s',Inv X pins U H' s'->Q () s') :
  wpAny (model X.prog X.w) A (setItem (.ref a) u r) Q E s:=by
 rcases g with⟨kvs,k,e,ey,l,eH⟩|⟨kvs,k,b,e,ey,eb,l,eH⟩
 ·subst ey eH;obtain⟨z,hd,vs,rel,dd⟩:=_ax I.hok e;have hz:vs.length<=sizeLine:=by rw[<-rel.length];exact z
  have hl:(Yi kvs k v).length<=sizeLine:=by have:=JJ kvs k v;lia
  refine wpAny_setItem_pairs (hsz:=hz) (Vs ry) dd λh' dd' hs=>h _ ?_;have he:∃q,h'.get? a=some q:=let ⟨q,_,_,hq,_⟩:=dd';⟨q,hq⟩;exact JH I (by rw[e];exact True.intro) hs he (_ff hl hd (rel.put k rv) dd')
 ·subst ey eH;cases(show u=Value.ref b from ry);obtain⟨z,hd,xs,rel,dd⟩:=VZ I.hok e;have hz:xs.length<=sizeLine:=by rw[<-Nd rel];exact z
  have hl:(Yi kvs k v).length<=sizeLine:=by have:=JJ kvs k v;lia
  refine wpAny_setItem_heap (hsz:=hz) (Go hu) (Vu I.hok eb) dd λh' dd' hs=>h _ ?_;obtain⟨q,es,ep,hq,h2,h3,h4,_,h5⟩:=dd';refine JH I (by rw[e];exact True.intro) hs ⟨q,hq⟩ ⟨hl,hd,_,(rel.put k eb rv).keeps λc ys ec=>?_,q,es,ep,hq,h2,h3,h4,h5⟩;rw[_l (_fr ec e (λz=>nomatch z))];exact ec
end
section
variable{kvs:List (_j×V)} {k:_j}
theorem _kq (I:Inv X pins U H s) (e:Rd H a (.dK kvs)) (h:∀t s',Inv X pins U H s'->Q (.int kvs.length t) s'):wpAny (model X.prog X.w) A (call (.builtin "len") [.ref a]) Q E s:=by
 obtain⟨z,hd,vs,rel,dd⟩:=Vb I.hok e;refine call_len_dict hd dd (by rw[<-rel.length];rw[GG] at z;lia) ?_;rw[<-rel.length];exact h _ _ (I.tok _)
end
def _b7 (i:Expr):Prop:=∀ov iv,subscripted i false ov iv=operate [ov,iv] (getItem ov iv)
theorem _ke {prog:Program} {w:World} {env:Env} {value slice:Expr} {id:String} 
 (hl:typeLookup (.type T) "__getitem__"=pure (some (.builtin id))) (hs:_b7 slice)
 (h:wpAny (model prog w) A (eval value env) (λo s₁=>wpAny (model prog w) A (eval slice env) (λi s₂=>s₂.TypeIs o T/\wpAny (model prog w) A (getItem o i) Q E s₂) E s₁) E s) :
  wpAny (model prog w) A (eval (.Subscript value slice pos) env) Q E s:=by
 refine Subscript_ (Q5 h (λo s₁ h₁=>Q5 h₁ (λi s₂ h₂=>?_) λ_ _ x=>x) λ_ _ x=>x);obtain⟨hT,h₂⟩:=h₂;unfold subscriptTail;refine Qc ?_;rw[getitemInPython_of_ne hT.not_modules];refine Qc (wpAny_specialOf hT hl ?_)
 have fin:wpAny (model prog w) A (subscripted slice false o i) (λr s₃=>wpAny (model prog w) A (letTemporaryGo value o r >>= λ_=>pure r) Q E s₃) E s₂:=by
  rw[hs o i];exact wpAny_operating (Q5 h₂ (λr s₃ h₃=>Qc (wpAny_letTemporaryGo (Qh h₃))) λ_ _ x=>x)
 first
  |exact Qh (Qc fin)
  |exact Qc (Qh (Qc fin))
  |exact Qc fin
theorem _h8 (I:Inv X pins U H s) (g:DGet H a y o):s.TypeIs (.ref a) "dict":=by
 rcases g with⟨kvs,k,e,_,_⟩|⟨kvs,k,b,e,_,_,_⟩
 ·obtain⟨_,_,vs,_,dd⟩:=Vb I.hok e;exact dd.typeIs
 ·obtain⟨_,_,xs,_,dd⟩:=Ve I.hok e;exact dd.typeIs
inductive tDGet_ (Q:VK) (x:V) (y:V) (H2:Hp):Prop
 |mk:∀a v,x=.ref a->DGet H2 a y (some v)->Q v H2->tDGet_ Q x y H2
def _i1 (td ty:TE):TE:=λU H Q=>td U H λx H1=>ty U H1 λy H2=>tDGet_ Q x y H2
inductive tDIn_ (Q:VK) (y:V) (x:V) (H2:Hp):Prop
 |mk:∀a o,x=.ref a->DGet H2 a y o->Q (.bl o.isSome) H2->tDIn_ Q y x H2
def _hk (ty td:TE):TE:=λU H Q=>ty U H λy H1=>td U H1 λx H2=>tDIn_ Q y x H2
inductive tDNotIn_ (Q:VK) (y:V) (x:V) (H2:Hp):Prop
 |mk:∀a o,x=.ref a->DGet H2 a y o->Q (.bl (!o.isSome)) H2->tDNotIn_ Q y x H2
def _n1 (ty td:TE):TE:=λU H Q=>ty U H λy H1=>td U H1 λx H2=>tDNotIn_ Q y x H2
inductive sDPut_ (D:Ends) (U:St) (v:V) (x:V) (y:V) (H3:Hp):Prop
 |mk:∀a H4,x=.ref a->DPut H3 a y v H4->D.nx U H4->sDPut_ D U v x y H3
def _kn (td ty tv:TE):TS:=λD U H=>tv U H λv H1=>td U H1 λx H2=>ty U H2 λy H3=>sDPut_ D U v x y H3
section
variable{o i value:Expr} {pos' tpos:Pos} {td ty tv:TE}
theorem _fo (hu:X.A.units+1<cLine) (ho:PE X o td) (hi:PE X i ty) (hs:_b7 i):PE X (.Subscript o i pos) (_i1 td ty):=by
 intro pins s U H Q I h;refine _ke PySem.F.slot_dict_getitem.lookup hs (_w (ho pins s U H _ I h) λu s1 zq=>?_);obtain⟨x,H1,I1,rx,q1⟩:=zq;refine _w (hi pins s1 U H1 _ I1 q1) λiv s2 zq=>?_;obtain⟨y,H2,I2,ry,a,v,ex,g,q2⟩:=zq;subst ex;obtain rfl:u=Value.ref a:=rx;exact⟨_h8 I2 g,_je hu I2 g ry λw' s3 I3 rw'=>⟨v,H2,I3,rw',q2⟩⟩
theorem _ip (hu:X.A.units+1<cLine) (hi:PE X i ty) (ho:PE X o td):PC X .In i o (_hk ty td):=by
 intro pins s U H Q I h;refine _w (hi pins s U H _ I h) λiv s1 zq=>?_;obtain⟨y,H1,I1,ry,q1⟩:=zq;refine _w (ho pins s1 U H1 _ I1 q1) λu s2 zq=>?_;obtain⟨x,H2,I2,rx,a,ov,ex,g,q2⟩:=zq;subst ex;obtain rfl:u=Value.ref a:=rx;exact _nD hu I2 g ry λs3 I3=>⟨.bl ov.isSome,H2,I3,rfl,q2⟩
theorem _fj (hu:X.A.units+1<cLine) (hi:PE X i ty) (ho:PE X o td):PC X .NotIn i o (_n1 ty td):=by
 intro pins s U H Q I h;refine _w (hi pins s U H _ I h) λiv s1 zq=>?_;obtain⟨y,H1,I1,ry,q1⟩:=zq;refine _w (ho pins s1 U H1 _ I1 q1) λu s2 zq=>?_;obtain⟨x,H2,I2,rx,a,ov,ex,g,q2⟩:=zq;subst ex;obtain rfl:u=Value.ref a:=rx;exact _nr hu I2 g ry λs3 I3=>⟨.bl (!ov.isSome),H2,I3,rfl,q2⟩
theorem VC (hu:X.A.units+1<cLine) (ho:PE X o td) (hi:PE X i ty) (hv:PE X value tv) (hs:swapsWith value (some (.Subscript o i pos')) pos.line X.env=pure false) :
  PS X (.Assign [.Subscript o i pos'] value pos) (_kn td ty tv):=by
 intro pins s U H D I h;refine wpAny_Assign_Subscript (_w (hv pins s U H _ I h) λr s1 zq=>?_) hs;obtain⟨v,H1,I1,rv,q1⟩:=zq;refine _w (ho pins s1 U H1 _ I1 q1) λu s2 zq=>?_;obtain⟨x,H2,I2,rx,q2⟩:=zq;refine _w (hi pins s2 U H2 _ I2 q2) λiv s3 zq=>?_;obtain⟨y,H3,I3,ry,a,H4,ex,g,q3⟩:=zq;subst ex;obtain rfl:u=Value.ref a:=rx;exact _kQ hu I3 g ry rv λs4 I4=>⟨U,H4,I4,q3⟩
end
theorem _gb {w:World} (h:Heap) (hb:sysModules<h.objs.size):ObjOk P w H (h.push { cls:=.type "dict",data:=.dict #[] }) h.objs.size (.dK []) :=
 ⟨QN _,RM.mpr (QM (QA hb)),[],.nil,Heap.DictOf.new h⟩
theorem _m5 {w:World} (h:Heap) (hb:sysModules<h.objs.size):ObjOk P w H (h.push { cls:=.type "dict",data:=.dict #[] }) h.objs.size (.dT []) :=
 ⟨QN _,RM.mpr (QM (QA hb)),[],.nil,_,#[],0,Qw _ rfl,⟨rfl,rfl,rfl⟩,rfl,rfl,List.nodup_nil⟩
def _m1:TE:=λ_ H Q=>∀p,H p=none->Q (.ref p) (_d H p (.dK []))
def _m2:TE:=λ_ H Q=>∀p,H p=none->Q (.ref p) (_d H p (.dT []))
theorem _bd:PE X (.Dict [] [] pos) _m1:=λpins s U H Q I h =>
 wpAny_Dict_empty ⟨.ref s.heap.objs.size,_,I.laid (a:=s.heap.objs.size) (o:=.dK []) (t':=s.toks) (λ_ _ q=>Qr _ q) (Qg _) (_gb s.heap I.big),rfl,h _ (I.hok.fresh (Qg _))⟩
theorem JE:PE X (.Dict [] [] pos) _m2:=λpins s U H Q I h =>
 wpAny_Dict_empty ⟨.ref s.heap.objs.size,_,I.laid (a:=s.heap.objs.size) (o:=.dT []) (t':=s.toks) (λ_ _ q=>Qr _ q) (Qg _) (_m5 s.heap I.big),rfl,h _ (I.hok.fresh (Qg _))⟩
def _a9:List (TE×TE)->St->Hp->(List (V×V)->Hp->Prop)->Prop
 |[],_,H,Q=>Q [] H
 | (tk,tv)::r,U,H,Q=>tk U H λx H1=>tv U H1 λy H2=>_a9 r U H2 λps H3=>Q ((x,y)::ps) H3
abbrev VV:List (V×V)->List (Value×Value)->Prop:=Paired λp q=>RelV p.1 q.1/\RelV p.2 q.2
def PPs (X:Cx) (pos:Pos) (keys:List (Option Expr)) (values:C0) (trs:List (TE×TE)):Prop :=
 ∀(pins:A4) (s:Shared) (U:St) (H:Hp) (Q:List (V×V)->Hp->Prop),Inv X pins U H s->_a9 trs U H Q →
  wpAny (model X.prog X.w) X.A (evalPairs (pairTrees keys values X.env pos)) (λvs s'=>∃ps H',Inv X pins U H' s'/\VV ps vs/\Q ps H') X.xe s
theorem _kt:PPs X pos [] [] []:=λpins s U H Q I h=>pairTrees_nil_walk ⟨[],H,I,.nil,h⟩
theorem _iW {k v:Expr} {ks:List (Option Expr)} {vs:C0} {tk tv:TE} {trs:List (TE×TE)} (hk:PE X k tk) (hv:PE X v tv) (hr:PPs X pos ks vs trs) :
  PPs X pos (some k::ks) (v::vs) ((tk,tv)::trs):=λpins s U H Q I h =>
 pairTrees_cons_walk (_w (hk pins s U H _ I h) λu s1 ⟨x,H1,I1,rx,q1⟩=>_w (hv pins s1 U H1 _ I1 q1) λw2 s2 ⟨y,H2,I2,ry,q2⟩ =>
  _w (hr pins s2 U H2 _ I2 q2) λws s3 ⟨ps,H3,I3,rel,q3⟩=>⟨(x,y)::ps,H3,I3,.cons ⟨rx,ry⟩ rel,q3⟩)
noncomputable def W7 (kvs more:List (_j×V)):List (_j×V):=more.foldl (λacc kv=>Yi acc kv.1 kv.2) kvs
theorem KV.merge:∀{more:List (_j×V)} {rs:List (_j×Value)} {kvs:List (_j×V)} {vs:List (_j×Value)},KV more rs->KV kvs vs->KV (W7 kvs more) (merged vs rs):=by
 intro more rs kvs vs r;unfold KV at r
 induction r generalizing kvs vs with
 |nil=>intro q;exact q
 |@cons p q ps qs h t ih =>
  intro r0
  have e:KV (Yi kvs p.1 p.2) (stored vs q.1 q.2):=by
   have:=r0.put p.1 h.2;rw[<-h.1];exact this
  exact ih e
theorem _fn:∀(more kvs:List (_j×V)),(W7 kvs more).length<=kvs.length+more.length
 |[],kvs=>by show kvs.length<=kvs.length+0;lia
 |p::r,kvs=>by
  have h1:=_fn r (Yi kvs p.1 p.2);have h2:=JJ kvs p.1 p.2;show(W7 (Yi kvs p.1 p.2) r).length<=_;rw[QC];lia
theorem _dz {P:Program} {w:World}:∀{kvs:List (_j×V)} {ws:List (Value×Value)},VV (kvs.map λkv=>(kV kv.1,kv.2)) ws->∃rs,Carries (Ys P w) ws rs/\KV kvs rs
 |[],_,r=>by rw[GK] at r;cases r;exact⟨[],True.intro,.nil⟩
 |p::kvs,_,r=>by
  rw[Qm] at r;cases r with
  |@cons a b as bs h t =>
   obtain⟨rs,c,q⟩:=_dz (P:=P) (w:=w) t;obtain⟨b1,b2⟩:=b;exact⟨(p.1,b2)::rs,⟨Vs h.1,rfl,c⟩,.cons ⟨rfl,h.2⟩ q⟩
def _lZ (trs:List (TE×TE)):TE:=λU H Q=>∀p,H p=none->_a9 trs U (_d H p (.dK [])) λps H2=>H2 p=some (.dK [])/\∃kvs:List (_j×V),ps=kvs.map (λkv=>(kV kv.1,kv.2))/\kvs.length<=15/\Q (.ref p) (_d H2 p (.dK (W7 [] kvs)))
theorem _mm {keys:List (Option Expr)} {values:C0} {trs:List (TE×TE)} (h:PPs X pos keys values trs) (hall:keys.all (·.isSome)=true) (hl:keys.length=values.length) (h0:keys≠[])
 (h15:keys.length<=15):PE X (.Dict keys values pos) (_lZ trs):=by
 intro pins s U H Q I q;have hn:=I.hok.fresh (Qg s.heap.objs.size);have I1:=I.laid (a:=s.heap.objs.size) (o:=.dK []) (h':=s.heap.push { cls:=.type "dict",data:=.dict #[] }) (t':=s.toks) (λ_ _ q=>Qr _ q) (Qg _) (_gb s.heap I.big);refine wpAny_Dict_walk (knd:=Ys X.prog X.w) hall hl h0 h15 (_w (h pins _ U _ _ I1 (q _ hn)) λws s2 zq=>?_);obtain⟨ps,H2,I2,rel,e,kvs,ep,lk,q2⟩:=zq;subst ep;obtain⟨rs,c,rk⟩:=_dz (P:=X.prog) (w:=X.w) rel;obtain⟨z,hd,vs0,r0,dd⟩:=_ax I2.hok e;cases r0;refine⟨rs,c,dd,λh' dd' hs=>⟨.ref s.heap.objs.size,_,?_,rfl,q2⟩⟩
 have hz:(W7 [] kvs).length<=sizeLine:=by
  have h1:=_fn kvs [];rw[Gn] at h1;rw[GG];lia
 have he:∃q,h'.get? s.heap.objs.size=some q:=let ⟨q,_,_,hq,_⟩:=dd';⟨q,hq⟩;exact JH I2 (by rw[e];exact True.intro) hs he (_ff hz hd (rk.merge .nil) dd')
structure M2 (X:Cx) (o:Expr) (m:Str) (apos:Pos) (e f:Expr) (cpos:Pos):Prop where
 base:attributeBase o m X.env (eval o X.env)=eval o X.env
 few:((backTo cpos (starEach [e,f] X.env)).all (λx=>!x.1)&&(backToKw cpos (keywordEach [] X.env)).all (λx=>x.1.isSome)
  && decide (([e,f]:C0).length+([]:List Keyword).length+(if([]:List Keyword).isEmpty then 0 else 1)<30))=true
 line:(apos.endLine==cpos.line)=true
 trees:backTo cpos (starEach [e,f] X.env)=[(false,eval e X.env),(false,eval f X.env)]
def IsD (H:Hp) (a:Addr):Prop:=(∃kvs,Rd H a (.dK kvs))\/∃kvs,Rd H a (.dT kvs)
theorem _e4 (I:Inv X pins U H s) (d:IsD H a) :
  s.TypeIs (.ref a) "dict"/\(∀b,Value.ref a=.ref b->∃ob,s.heap.get? b=some ob/\ob.dict=none)/\(a==sysModules)=false:=by
 rcases d with⟨kvs,e⟩|⟨kvs,e⟩
 ·obtain⟨_,hd,vs,_,dd⟩:=Vb I.hok e;refine⟨dd.typeIs,λb q=>?_,hd⟩;cases q;obtain⟨ob,_,_,h1,h2,_⟩:=dd;exact⟨ob,h1,h2.2.1⟩
 ·obtain⟨_,hd,xs,_,dd⟩:=Ve I.hok e;refine⟨dd.typeIs,λb q=>?_,hd⟩;cases q;obtain⟨ob,_,_,h1,h2,_⟩:=dd;exact⟨ob,h1,h2.2.1⟩
section
variable{d:V} {r:Value}
theorem _g5 (hu:A.units+1<cLine) (I:Inv X pins U H s) (g:DGet H a y o) (ry:RelV y u) (rd:RelV d r) (h:∀w' s',Inv X pins U H s'->RelV (o.getD d) w'->Q w' s') :
  wpAny (model X.prog X.w) A (call (.builtin "dict.get") [.ref a,u,r]) Q E s:=by
 rcases g with⟨kvs,k,e,ey,l⟩|⟨kvs,k,b,e,ey,eb,l⟩
 ·subst ey;obtain⟨z,hd,vs,rel,dd⟩:=Vb I.hok e;refine GL NS dd.typeIs PySem.F.entry_dict_get (Mn _ _ _) (meets_dict_get_default (Ys X.prog X.w) a (Vs ry) hd r) ⟨_,dd.mapOf,h _ _ (I.tok _) ?_⟩;rw[l];exact(rel.val k).getD rd
 ·subst ey;cases(show u=Value.ref b from ry);obtain⟨z,hd,xs,rel,dd⟩:=Ve I.hok e;refine GL NS dd.typeIs PySem.F.entry_dict_get (Mn _ _ _) (meetsH_dict_get_default (tupleKind (Ys X.prog X.w)) a b hd r) ⟨Go hu,k,xs,Vu I.hok eb,dd,h _ _ (I.tok _) ?_⟩;rw[l];exact(rel.val k).getD rd
end
inductive tDGet2_ (ty:TE) (tx:TE) (U:St) (Q:VK) (x:V) (H1:Hp):Prop
 |mk:∀a,x=.ref a->IsD H1 a->(ty U H1 λy H2=>tx U H2 λz H3=>∃o,DGet H3 a y o/\Q (o.getD z) H3)->tDGet2_ ty tx U Q x H1
def _i5 (td ty tx:TE):TE:=λU H Q=>td U H λx H1=>tDGet2_ ty tx U Q x H1
section
variable{o f:Expr} {apos cpos:Pos} {td ty tx:TE}
theorem VM (hu:X.A.units+1<cLine) (ho:PE X o td) (he:PE X e ty) (hf:PE X f tx) (m:M2 X o "get" apos e f cpos):PE X (.Call (.Attribute o "get" apos) [e,f] [] cpos) (_i5 td ty tx):=by
 intro pins s U H Q I h;refine wpAny_Call_method m.base m.few m.line Nq NS PySem.F.type_dict_get (_w (ho pins s U H _ I h) λu s1 zq=>?_);obtain⟨x,H1,I1,rx,a,ex,d,q1⟩:=zq;subst ex;obtain rfl:u=Value.ref a:=rx;obtain⟨t1,t2,_⟩:=_e4 I1 d;refine⟨t1,t2,?_⟩;rw[m.trees]
 refine Nl rfl (No (GH (_w (he pins s1 U H1 _ I1 q1) λiv s2 zq =>?_)));obtain⟨y,H2,I2,ry,q2⟩:=zq;refine GH (_w (hf pins s2 U H2 _ I2 q2) λfv s3 zq=>?_);obtain⟨z,H3,I3,rz,ov,g,q3⟩:=zq;refine NO ?_
 exact _g5 hu I3 g ry rz λw' s4 I4 rw'=>⟨_,H3,I4,rw',q3⟩
end
section
variable{kvs:List (_j×V)}
end
end L2
namespace Att
open PySem PySem.W PySem.Calls PyProof.Rows
theorem _hY {P:Params} {h:Heap}:∀(ns:C5) (vs:B1),WellAll P h vs (ns.map WData.int)->IntsAre vs ns:=by
 intro ns
 induction ns with
 |nil =>
  intro vs w;rw[GK] at w;cases w;exact .nil
 |cons n ns ih =>
  intro vs w;rw[Qm] at w;cases w with
  |cons a b =>
   cases a;exact .cons _ _ (ih _ b)
theorem _hJ {l:OpenLaw} {n:Nat} (hn:l.most=some n) {P:Params} {h:Heap} {args:List WData} {vals:B1}
  (hpre:l.row.toRowW.claim.pre args=true) (hwl:WellAll P h vals args) :
  ∃a vs ns,vals=[Value.ref a]/\args=[WData.list (ns.map WData.int)]/\h.get? a=some { cls:=.type "list",data:=.seq vs.toArray }/\IntsAre vs ns/\ns.length<=n:=by
 have hsh:WShape.hasAll [] args [.list .int]=true:=(pre_splitW hpre).1;have hc:l.pre.holds [] { args:=args }=true:=(pre_splitW hpre).2;obtain⟨d,r,rfl,h1,h2⟩:=hasAllW_cons hsh;obtain rfl:=hasAllW_nil h2;obtain⟨xs,rfl,h3⟩:=hasW_list h1;obtain⟨ns,rfl⟩:=items_int h3
 have hlen:ns.length<=n:=by
  unfold OpenLaw.pre at hc
  have h4:(WTm.not (.lt (.lit (.int (n:Int))) (.len (.arg 0)))).holds [] { args:=[.list (ns.map .int)] }=true:=by
   have h4:=(holds_andW hc).1;rw[hn] at h4;exact h4
  have h5:=condW_of h4 (w_not (w_lt w_lit (w_len_list (w_arg rfl))));rw[Qd] at h5;refine Nat.le_of_not_lt λq=>?_;have q':(n:Int)<((ns.length:Nat):Int):=by lia
  first
   | (rw[Ql q'] at h5;exact absurd h5 (by decide))
   | (simp at h5;lia)
 cases hwl with
 |cons w1 w2 =>
  cases w2;cases w1 with
  |list ho hall=>exact⟨_,_,ns,rfl,rfl,ho,_hY ns _ hall,hlen⟩
theorem _g3 (l:OpenLaw) (args:List WData):l.row.toRowW.claim.post args (.bool true) args=true :=
 postW_of (r:=l.row.toRowW) (X:=(true==true))
  (show WShape.has [] (.bool true) .bool=true by first|rfl|decide|simp[WShape.has,WShape.arms,WShape.armsAll])
  (show(WTm.eq .res (.lit (.bool true))).value [] { args:=args,res:=some (.bool true),after:=args }=some (.bool (true==true)) from w_eq_bool (w_res rfl) w_lit) rfl
theorem attach_call {l:OpenLaw} {n:Nat} {q:Program} {loose:A9} {XP:(Str->B4)->Heap->Prop} {YP:World->Heap->Prop} {d:DefRec}
  (hn:l.most=some n) (hdf:d.params.defaults=[])
  (call:∀(w:World) (s₀ s₁:Shared) (mg mb:Str->B4) (fa:Addr) (o:Obj) (pm cd doc:Value) (a:Addr) (vs:B1) (ns:C5),
   Ground q loose [] XP w s₀ mg mb s₁.heap->YP w s₁.heap →
   s₁.heap.get? fa=some o->o.data=.func (docDef d.name d.params d.body d.scope pm cd doc)->s₁.heap.CodeRec cd d.name->mg d.name=some (.ref fa) →
   s₁.heap.get? a=some { cls:=.type "list",data:=.seq vs.toArray }->IntsAre vs ns->ns.length<=n->s₁.gens=#[] →
   codeAny (model l.prog w) callerA (.call (.ref fa) ⟨[.ref a],[]⟩) (λr s'=>r=.ok (.ret (.bool true))/\OldK s₁.heap s'.heap/\s'.os=s₁.os/\AllBare s'.gens) s₁) :
  WalkO q loose XP YP l.row.toRowW d [] (λf vs=>PySem.call f vs):=by
 intro w s₀ s₁ mg mb G Y fa o pm cd doc dV kV ho hd hcd hD hmg hg args vals as hpre hlay hrd hwl hlo;obtain rfl:dV=.none:=Dflts.none hD hdf;obtain rfl:kV=.none:=Dflts.noKw hD;obtain⟨a,vs,ns,rfl,rfl,hobj,hints,hlen⟩:=_hJ hn hpre hwl;refine enter_call (GI (call w s₀ s₁ mg mb fa o pm cd doc a vs ns G Y ho (fd_plain hd) hcd hmg hobj hints hlen hg) λr s' hq=>?_);obtain⟨rfl,h2,h3,h4⟩:=hq;exact⟨.inl ⟨.bool true,.bool true,[],rfl,λ_=>rfl,.bool true,_g3 l _,λ_=>⟨List.Pairwise.nil,λ_ hm=>(nomatch hm)⟩⟩,h2,h3,h4⟩
section
variable{prog:Program} {w:World} {A:Around} {E:Value->Shared->Prop} {s:Shared} {K:Frag}
end
end Att
namespace L2
open PySem PySem.Spec PyProof.Rows
variable{x:Str}
theorem _f4:∀{vs:B1} {ns:C5},IntsAre vs ns->Vals (ns.map V.int) vs
 |_,_,.nil=>.nil
 |_,_,.cons n t h=>.cons ⟨t,rfl⟩ (_f4 h)
def _aM (H:Hp):Prop:=∀b,H b=none\/∃o xs,H b=some (.frz o (.lst xs))
theorem _k4 {P:Program} {w:World} {K:W.Frag} {mg mb:Str->B4} {CX:Yu} {k:Nat} {fa a:Addr} {fd:FuncData} {sp:Sp} {s₁:Shared} {vs:B1} {ns:C5}
 (KX:K.In s₁.heap) (hns:s₁.heap.Ns mainGlobals mg) (hb:s₁.heap.Ns builtinsNs mb) (hbb:∀x:Str,x≠"__name__"->mb x=bootBuiltins x) (hlim:s₁.heap.NoLimit) (hg:s₁.gens=#[])
 (ha:s₁.heap.get? a=some { cls:=.type "list",data:=.seq vs.toArray }) (hi:IntsAre vs ns) (hl:ns.length<=sizeLine) (hr:Room k callerA)
 (F:∀base:Heap,K.In base->base.Ns mainGlobals mg->FnOk P w K mg base CX k fa fd [x] sp) (hbind:∀(s:Shared) (u:Value),BindsTo s fd ⟨[u],[]⟩ [(x,u)])
 (hsp:∀H:Hp,_aM H->SqL K H a (ns.map V.int)->sp [.ref a] H (λv _=>v=.bl true) λ_ _ _=>False)
 (hCX:∀H e s',CX [] H s₁ (λ_ _ _=>False) e s'->False) :
  codeAny (model P w) callerA (.call (.ref fa) ⟨[.ref a],[]⟩) (λr s'=>r=.ok (.ret (.bool true))/\OldK s₁.heap s'.heap/\s'.os=s₁.os/\AllBare s'.gens) s₁:=by
 have rv:=_f4 hi;have lenV:=hi.length
 have core : ∀H : Hp, _aM H → SqL K H a (ns.map V.int) → HOk P w H s₁.heap → (∀b, H b ≠ none → b=a) → (H a ≠ none → K.lookup a=none) →
   codeAny (model P w) callerA (.call (.ref fa) ⟨[.ref a],[]⟩) (λr s'=>r=.ok (.ret (.bool true))/\OldK s₁.heap s'.heap/\s'.os=s₁.os/\AllBare s'.gens) s₁:=by
  intro H hO hS hok hA hK;have base_of:∀{b:Addr} {o:Obj},s₁.heap.get? b=some o->H b=none->(WG s₁.heap H).get? b=some o:=λe n=>_np e n
  have noA:∀{b:Addr} {o:Obj} {es:Array DictEntry} {ep:Nat},s₁.heap.get? b=some o->o.data=.dict es ep->H b=none:=λ{b o es ep} e d=>by
   cases q:H b with
   |none=>rfl
   |some u =>
    have e':b=a:=hA b (by rw[q];simp);subst e';rw[ha] at e;cases e;have d':Data.seq vs.toArray _=Data.dict es ep:=d;cases d'
  have nsK:∀{b:Addr} {m:Str->B4},s₁.heap.Ns b m->(WG s₁.heap H).Ns b m:=λ{b m} ⟨o,es,ep,e,d,r⟩=>⟨o,es,ep,base_of e (noA e d),d,r⟩
  have hKb:K.In (WG s₁.heap H):=λb o e=>base_of (KX b o e) (by
   cases q:H b with
   |none=>rfl
   |some u =>
    have e':b=a:=hA b (by rw[q];simp);subst e';rw[hK (by rw[q];simp)] at e;cases e)
  have hM:Mod K mg (WG s₁.heap H):=⟨hKb,nsK hns,⟨mb,nsK hb,hbb⟩,let ⟨mc,h1,h2⟩:=hlim;⟨mc,nsK h1,h2⟩⟩;have e0:Env0 P w K mg (WG s₁.heap H) callerA [] s₁ H:=⟨rfl,hM,λb o e=>_jS e,Nat.le_of_eq (_g1 _ _),trivial,λb hb=>absurd (show b∈([]:B5) from hb) (by simp),hok,.of_eq hg⟩;refine GI ((F _ hKb (nsK hns)).run callerA [] s₁ H ⟨[.ref a],[]⟩ [.ref a] [.ref a] _ _ hr e0 (hbind s₁ (.ref a)) (.cons rfl .nil) (hsp H hO hS)) λr s' h=>?_;cases r with
  |error e=>exact(hCX H e s' h).elim
  |ok fl =>
   cases fl with
   |next=>exact False.elim h
   |brk=>exact False.elim h
   |cont=>exact False.elim h
   |ret u =>
    obtain⟨v,H',os,bare,un,hok',r',q⟩:=h;have q':v=.bl true:=q;subst q';obtain rfl:u=Value.bool true:=r';refine⟨rfl,OldK.of_keep λb o e=>?_,os,bare⟩;cases q:H b with
    |none=>exact un.keep b o e q (by intro z;exact absurd (show b∈([]:B5) from z) (by simp)) (by simp)
    |some u =>
     rcases hO b with z|⟨ob,xs,z⟩
     ·rw[q] at z;cases z
     ·have z2:=un.frzs b ob _ z;obtain⟨e1,_⟩:=hok b _ z;obtain⟨e2,_⟩:=hok' b _ z2;rw[e] at e1;cases e1;exact e2
 cases hk:K.lookup a with
 |some o =>
  have e:=KX a o hk;rw[ha] at e;cases e;refine core (λ_=>none) (λ_=>.inl rfl) (.inr ⟨_,vs.toArray,_,hk,rfl,rfl,rfl,by rw[Qx,lenV];exact hl,by simpa using rv⟩) (λb u z=>by have z':(none:Option HO)=some u:=z;cases z') (λb z=>absurd rfl z) λz=>absurd rfl z
 |none =>
  refine core (λb=>if b=a then some (.frz { cls:=.type "list",data:=.seq vs.toArray } (.lst (ns.map V.int))) else none) (λb=>?_) (.inl (.inr ⟨{ cls:=.type "list",data:=.seq vs.toArray },Qb rfl⟩)) (λb u z=>?_) (λb z=>?_) λ_=>hk
  ·by_cases hb:b=a
   ·exact .inr ⟨_,_,Qb hb⟩
   ·exact .inl (Qa hb)
  ·by_cases hb:b=a
   ·have z':=(Qb hb).symm.trans z;cases z';subst hb;exact⟨ha,by rw[Qd];exact hl,vs,_,rv,ha⟩
   ·have z':=(Qa hb).symm.trans z;cases z'
  ·by_cases hb:b=a
   ·exact hb
   ·exact absurd (Qa hb) z
theorem walk_of {l:W.OpenLaw} {n k:Nat} {q:Program} {loose:A9} {XP:(Str->B4)->Heap->Prop} {YP:World->Heap->Prop} {d:DefRec} {K:Params->W.Frag} {CX:World->Yu} {sp:World->Sp} 
 (hn:l.most=some n) (hn2:n<=sizeLine) (hdf:d.params.defaults=[]) (hr:Room k callerA)
 (hY:∀(w:World) (h:Heap),YP w h->(K w.params).In h)
 (F:∀(w:World) (mg:Str->B4) (fa:Addr) (h:Heap),(K w.params).In h->h.Ns mainGlobals mg->mg d.name=some (.ref fa) →
 ∃fd:FuncData,(∀(s:Shared) (u:Value),BindsTo s fd ⟨[u],[]⟩ [(x,u)]) /\
 ∀base:Heap,(K w.params).In base->base.Ns mainGlobals mg->FnOk l.prog w (K w.params) mg base (CX w) k fa fd [x] (sp w))
 (hsp:∀(w:World) (H:Hp) (a:Addr) (ns:C5),ns.length<=n->_aM H->SqL (K w.params) H a (ns.map V.int)->sp w [.ref a] H (λv _=>v=.bl true) λ_ _ _=>False)
 (hCX:∀(w:World) (H:Hp) (s:Shared) (e:Value) (s':Shared),CX w [] H s (λ_ _ _=>False) e s'->False) :
  W.WalkO q loose XP YP l.row.toRowW d [] (λf vs=>PySem.call f vs):=by
 refine Att.attach_call hn hdf λw s₀ s₁ mg mb fa o pm cd doc a vs ns G Y ho hd hcd hmg hobj hints hlen hg=>?_;have KX:=hY w _ Y;obtain⟨fd,hb,hF⟩:=F w mg fa _ KX G.T.g hmg;exact _k4 KX G.T.g G.T.b G.T.builtins G.T.nolimit hg hobj hints (Qs hlen hn2) hr hF hb (λH hO hS=>hsp w H a ns hlen hO hS) λH e s'=>hCX w H s₁ e s'
noncomputable def YW (s:Stmt) (j:Nat):Stmt:=match s with
 |.ClassDef _ _ _ body _ _ _ _ _ _ _=>body.getD j (.Pass ⟨0,0,0,0⟩)
 |_=>.Pass ⟨0,0,0,0⟩
noncomputable def Xu (s:Stmt):Arguments:=match s with
 |.FunctionDef _ a _ _ _ _ _ _ _ _=>a
 |_=>{ posonlyargs:=[],args:=[],vararg:=none,kwonlyargs:=[],kw_defaults:=[],kwarg:=none,defaults:=[] }
noncomputable def Y2 (s:Stmt):List Stmt:=match s with
 |.FunctionDef _ _ b _ _ _ _ _ _ _=>b
 |_=>[]
noncomputable def _C (s:Stmt):Scope:=match s with
 |.FunctionDef _ _ _ _ _ _ sc _ _ _=>sc
 |_=>{ kind:=.function,names:=[],isGenerator:=false,isCoroutine:=false }
abbrev E0:XK:=λ_ _ _=>False
structure Fun (K:W.Frag) (x qual:Str) (st:Stmt) (f:Addr) (fd:FuncData):Prop where
 ex:∃(oc:Value) (od:B9) (kV doc pm:Value) (an:B9) (cdv ct:Value) (osl:Array B4),
  fd=W.fnOf x qual (Xu st) (Y2 st) (_C st) .none kV doc pm an cdv ct/\K.lookup f=some ⟨oc,od,.func fd,osl⟩/\W.codeIn K cdv qual=true
 kp:W.keepIn K (.ref f)=true
section
variable{P:Program} {w:World} {K:W.Frag} {mg:Str->B4} {base:Heap}
theorem Fun.binds {qual:Str} {st:Stmt} {f:Addr} {fd:FuncData} {ps:A9} (F:Fun K x qual st f fd)
 (h:∀(kV doc pm:Value) (an:B9) (cdv ct:Value) (us:B1),us.length=ps.length->bindArgs (W.fnOf x qual (Xu st) (Y2 st) (_C st) .none kV doc pm an cdv ct) ⟨us,[]⟩=pure (ps.zip us)):Binds K fd ps []:=by
 obtain⟨oc,od,kV,doc,pm,an,cdv,ct,osl,rfl,lk,hcd⟩:=F.ex;exact .all (h kV doc pm an cdv ct)
theorem _iz {qual:Str} {st:Stmt} {f:Addr} {oc:Value} {od an:B9} {osl:Array B4} {kV doc pm cdv ct:Value} (l:K.lookup f=some ⟨oc,od,.func (W.fnOf x qual (Xu st) (Y2 st) (_C st) .none kV doc pm an cdv ct),osl⟩)
 (c:W.codeIn K cdv qual=true) (k:W.keepIn K (.ref f)=true):Fun K x qual st f (W.fnOf x qual (Xu st) (Y2 st) (_C st) .none kV doc pm an cdv ct):=⟨⟨oc,od,kV,doc,pm,an,cdv,ct,osl,rfl,l,c⟩,k⟩
end
theorem YN {A:Around} {k:Nat} (hr:Room k A):A.units+1<cLine:=Rz (Nat.add_le_add_left (by decide:1<=64) _) hr.units
theorem small1000 {n:Nat} (h:n<=1000):n<sizeLine:=Rz h (by decide)
section
variable{X:Cx}
theorem pv (i:Nat) {pos:Pos} (hN:X.N[i]?=some x:=by rfl) (hv:Uo X.env.scope x:=by first|exact Or.inl rfl|exact Or.inr (Or.inl rfl)|exact Or.inr (Or.inr rfl)) (hd:(x==("__debug__": Str))=false:=by decide)
 (hcd:(x==("__classdict__": Str))=false:=by decide):PE X (.Name x pos) (tVar i):=_cS hN hv hd hcd
theorem _iJ:YE X (.builtin "len") (λxs H Q=>∃a kvs,xs=[V.ref a]/\H a=some (.dK kvs)/\Q (.int kvs.length) H):=by
 intro pins s U H xs us Q I r h;obtain⟨a,kvs,rfl,ha,q⟩:=h;obtain⟨u,rfl,ru⟩:=Xe r;cases ru;exact _kq I (.inl ha) λt s' I'=>⟨.int kvs.length,H,I',⟨t,rfl⟩,q⟩
end
theorem _L {A B:Prop} (h:B):if false=true then A else B:=by
 rw[Qa QD];exact h
theorem _7 {A B:Prop} (h:A):if true=true then A else B:=by
 rw[Qb rfl];exact h
def Same (H H':Hp):Prop:=∀b o,H b=some o->H' b=some o
theorem Same.refl (H:Hp):Same H H:=λ_ _ h=>h
theorem Same.trans {H H1 H2:Hp} (a:Same H H1) (b:Same H1 H2):Same H H2:=λc o h=>b c o (a c o h)
section
variable{κ:Type} [DecidableEq κ]
end
end L2
set_option maxHeartbeats 4000000
namespace L2
open PySem PySem.Spec PyProof.Rows
variable{C a b e f it:Addr} {A:Around} {X:Cx} {tg:Expr} {o:HO} {h h':Heap} {H H':Hp} {J:It} {pins:A4} {fp:B5} {es:C0} {N:A9} {xs ys:List V} {bmB us:B1} {M:Model} {i n t':Nat} {p pos:Pos} {P prog:Program} {R:Result->Shared->Prop} {sc:Scope} {s s':Shared} {x:Str} {newId:String} {te:TE} {tk:Tok} {cls:Value} {E Q:Value->Shared->Prop} {CX:Yu}
section
variable{w:World}
theorem ObjOk.there (x:ObjOk P w H h a o):∃q,h.get? a=some q:=by
 cases o with
 |lst xs=>obtain⟨_,_,_,_,e⟩:=x;exact⟨_,e⟩
 |tup xs=>obtain⟨_,_,_,q,e,_⟩:=x;exact⟨q,e⟩
 |dK kvs=>obtain⟨_,_,_,_,q,_,_,e,_⟩:=x;exact⟨q,e⟩
 |dT kvs=>obtain⟨_,_,_,_,q,_,_,e,_⟩:=x;exact⟨q,e⟩
 |set S n=>obtain⟨q,_,_,_,e,_⟩:=x;exact⟨q,e⟩
 |ins C dx fs=>obtain⟨_,_,_,e,_⟩:=x;exact⟨_,e⟩
 |own y=>exact x
 |xd fs=>obtain⟨_,⟨q,_,_,e,_⟩,_⟩:=x;exact⟨q,e⟩
 |rng lo hi=>obtain⟨_,_,_,e⟩:=x;exact⟨_,e⟩
 |frz ob u=>obtain⟨e,_⟩:=x;exact⟨_,e⟩
 |tbl ps=>exact⟨_,x⟩
 |met f y=>exact⟨_,x⟩
 |ext φ=>obtain⟨_,e,_⟩:=x;exact e
theorem HOk.lean (x:HOk P w H h) (k:∀b u,H b≠none->h.get? b=some u->h'.get? b=some u):HOk P w H h':=λb u e =>
 (x b u e).stay (λc v hc q=>k c v (by
  rcases hc with rfl|hc
  ·rw[e];simp
  ·rw[hc];simp) q) (λ_ q=>q) λ_ _ q=>q
end
structure Flies (P:Program) (w:World) (outer:C4) (H H':Hp) (s s':Shared) (e:Addr) (cls:Value):Prop where
 os:s'.os=s.os
 bare:AllBare s'.gens
 un:Un (Yv outer) [] H H' s.heap s'.heap
 fly:∃B a0,Heap.FlyingW B outer e cls a0 s'.heap/\HOk P w H' B/\(∀b o,s.heap.get? b=some o->H b=none->b∉Yv outer->B.get? b=some o) /\
  ∀b o,s.heap.get? b=some o->b∉Yv outer->∃o',B.get? b=some o'
noncomputable def YQ (P:Program) (w:World):Yu:=λouter H s E u s'=>∃e cls H',u=.ref e/\Flies P w outer H H' s s' e cls/\E cls none H'
section
variable{U:St}
theorem Flies.inv (f:Flies X.prog X.w X.stack H H' s s' e cls) (I:Inv X pins U H s):Inv X pins U H' s':=by
 obtain⟨B,a0,fl,hB,_,_⟩:=f.fly;exact I.call' (ch:=[]) f.os f.un (hB.kept fl.1) f.bare (λb z=>absurd z (by simp))
theorem Inv.nst (I:Inv X pins U H s) {o:Obj} (q:X.s₀.heap.get? b=some o) (hb:b∉X.fs):b∉Yv X.stack:=λz=>by
 rcases Qk.mp (I.stkSub b z) with y|y
 ·exact absurd (QJ (Qo q) I.ok.above) (by rw[y];exact Rx _)
 ·exact hb y
theorem Flies.leaves {Q:Unit->Shared->Prop} (f:Flies X.prog X.w X.stack H H' s s' e cls) (I:Inv X pins U H s)
 (hs:X.stack=X.env::X.outer) (hf:X.env.frame=some X.env.locals) (hx:X.ex=[])
 (hQ:∀s'',Flies X.prog X.w X.outer X.H₀ H' X.s₀ s'' e cls->Q () s''):wpAny M X.A (leaving X.env (.ref e)) Q E s':=by
 have J:=f.inv I;obtain⟨B,a0,fl,hB,kB,tB⟩:=f.fly;rw[hs] at fl;have nx:∀b:Addr,b∉X.ex:=λb=>by rw[hx];simp
 refine wpAny_leaves_onW (by rw[I.ok.frames,hs]) hf fl λh' fl' up=>hQ _ ?_
 have slot:∀b o,X.s₀.heap.get? b=some o->b∈X.fs->∃sl,h'.get? b=some { o with slots:=sl }:=λb o q hb=>by
  obtain⟨sl,e1⟩:=J.base.slot b o q (I.ok.frf b hb) hb (nx b);obtain⟨_,o',ho',hn⟩:=J.funs.mem hb;rw[e1] at ho';cases ho';obtain⟨sl',e2⟩:=up b _ e1 hn;exact⟨sl',e2⟩
 have keepB:∀b o,X.s₀.heap.get? b=some o->X.H₀ b=none->b∉X.fs->B.get? b=some o:=λb o q n hb =>
  kB b o (I.base.keep b o q n hb (nx b)) (I.base.free b o q n (nx b)) (I.nst q hb)
 have thereB:∀b o,X.s₀.heap.get? b=some o->b∉X.fs->∃o',B.get? b=some o':=λb o q hb=>by
  obtain⟨o1,e1⟩:=I.base.there b o q (nx b);exact tB b o1 e1 (I.nst q hb)
 refine⟨J.os,J.bare,⟨λb o q n hb _=>fl'.1 b o (keepB b o q n hb),λb o q _ hb _=>slot b o q hb,λb o q n _=>J.base.free b o q n (nx b),λb o q _=>?_,J.base.tups,J.base.frzs,J.base.tbls⟩,
  B,a0,fl',hB,keepB,thereB⟩
 by_cases hb:b∈X.fs
 ·obtain⟨sl,e2⟩:=slot b o q hb;exact⟨_,e2⟩
 ·obtain⟨o1,e1⟩:=thereB b o q hb;exact⟨o1,fl'.1 b o1 e1⟩
theorem _ij {Q:Unit->Shared->Prop} {h1:Heap} {vs:B1} (I:Inv X pins U H s) (mk:Heap.MadeExcOf s.heap h1 e cls vs)
 (hs:X.stack=X.env::X.outer) (hf:X.env.frame=some X.env.locals) (hx:X.ex=[])
 (hQ:∀s'',Flies X.prog X.w X.outer X.H₀ H X.s₀ s'' e cls->Q () s''):wpAny M X.A (leaving X.env (.ref e)) Q E { s with heap:=h1 }:=by
 have nx:∀b:Addr,b∉X.ex:=λb=>by rw[hx];simp
 have hid:∀b o,s.heap.get? b=some o->b∉Yv X.stack->(W.hideAll s.heap (Yv X.stack)).get? b=some o:=λb o q n=>W.hideAll_get _ q n
 have FF:s.heap.FunFrames (W.hideAll s.heap (Yv X.stack)) X.stack :=
  W.funFrames_hide I.stack λenv he a ha=>RN.mpr ⟨env,he,ha⟩
 have hB:HOk X.prog X.w H (W.hideAll s.heap (Yv X.stack)):=I.hok.lean λb u n q=>hid b u q λz=>n (I.stkFree b z);have sub:∀b o,(W.hideAll s.heap (Yv X.stack)).get? b=some o->s.heap.get? b=some o:=λb o q=>W.of_hideAll _ q;generalize W.hideAll s.heap (Yv X.stack)=B at *;rw[hs] at FF;refine wpAny_leaves_madeW (s:={ s with heap:=h1 }) (by rw[I.ok.frames,hs]) hf sub FF mk λh' t fl' _ _ up=>hQ _ ?_
 have slot:∀b o,X.s₀.heap.get? b=some o->b∈X.fs->∃sl,h'.get? b=some { o with slots:=sl }:=λb o q hb=>by
  obtain⟨sl,e1⟩:=I.base.slot b o q (I.ok.frf b hb) hb (nx b);obtain⟨_,o',ho',hn⟩:=I.funs.mem hb;rw[e1] at ho';cases ho';obtain⟨sl',e2⟩:=up b _ (mk.keeps _ _ e1) hn;exact⟨sl',e2⟩
 have keepB:∀b o,X.s₀.heap.get? b=some o->X.H₀ b=none->b∉X.fs->B.get? b=some o:=λb o q n hb =>
  hid b o (I.base.keep b o q n hb (nx b)) (I.nst q hb)
 have thereB:∀b o,X.s₀.heap.get? b=some o->b∉X.fs->∃o',B.get? b=some o':=λb o q hb=>by
  obtain⟨o1,e1⟩:=I.base.there b o q (nx b);exact⟨o1,hid b o1 e1 (I.nst q hb)⟩
 refine⟨I.os,I.bare,⟨λb o q n hb _=>fl'.1 b o (keepB b o q n hb),λb o q _ hb _=>slot b o q hb,λb o q n _=>I.base.free b o q n (nx b),λb o q _=>?_,I.base.tups,I.base.frzs,I.base.tbls⟩,
  _,_,fl',hB,keepB,thereB⟩
 by_cases hb:b∈X.fs
 ·obtain⟨sl,e2⟩:=slot b o q hb;exact⟨_,e2⟩
 ·obtain⟨o1,e1⟩:=thereB b o q hb;exact⟨o1,fl'.1 b o1 e1⟩
end
abbrev XS:=St->XK
def WM (CX:Yu) (X:Cx) (E:XS):Prop:=∀(pins:A4) (U:St) (H:Hp) (s:Shared) (e:Value) (s':Shared),Inv X pins U H s->CX X.stack H s (E U) e s'->X.xe e s'
def _b5 (X:Cx) (E:XS):Prop:=∀(pins:A4) (U:St) (H:Hp) (s:Shared) (h1:Heap) (e:Addr) (cls:Value) (vs:B1),Inv X pins U H s->Heap.MadeExcOf s.heap h1 e cls vs->E U cls none H->X.xe (.ref e) { s with heap:=h1 }
theorem YV {w:World}:WM (YQ P w) X (λ_=>E0):=λ_ _ _ _ _ _ _ ⟨_,_,_,_,_,z⟩=>False.elim z
section
variable{w:World} {K:W.Frag} {mg:Str->B4} {base:Heap} {qual:Str} {scope:Scope} {cd:Value} {outer:C4} {E:XK}
theorem _bX:WM (YQ P w) (_O (YQ P w) P w K mg base N qual scope f cd A outer s H E) (λ_=>E):=by
 rintro pins U H1 s1 u s' I ⟨e,cls,H',rfl,fl,q⟩;exact fl.leaves I rfl rfl rfl λs'' f''=>⟨e,cls,H',rfl,f'',q⟩
theorem _ml:_b5 (_O (YQ P w) P w K mg base N qual scope f cd A outer s H E) (λ_=>E):=by
 intro pins U H1 s1 h1 e cls vs I mk q;exact _ij I mk rfl rfl rfl λs'' f''=>⟨e,cls,H1,rfl,f'',q⟩
end
section
variable{k:Nat} {fd:FuncData} {ps:A9} {sp:Sp} {dvs:List V} {ds:B1} {E:XS} {m:Str} {apos:Pos} {e o:Expr} {ta:TE} {t:TA}
def _fp (sp:Sp) (dvs:List V) (E:XS) (t:TA):TE:=λU H Q=>t U H λvs H1=>sp (vs++dvs) H1 Q (E U)
theorem _aT {U:St} {Q:VK} {vs:List V} (F:FnOk X.prog X.w X.K X.mg X.base CX k f fd ps sp) (hr:Room k X.A) (hb:Binds X.K fd ps ds) (hd:Vals dvs ds) (hx:WM CX X E)
 (I:Inv X pins U H s) (r:Vals vs us) (h:sp (vs++dvs) H Q (E U)):wpAny (model X.prog X.w) X.A (call (.ref f) us) (EP X pins U Q) X.xe s:=by
 have r2:Vals (vs++dvs) (us++ds):=r.append hd;have hl:(us++ds).length=ps.length:=by rw[<-r2.length];exact F.len _ _ _ _ h
 refine wpAny_call (GI (F.run X.A X.stack s H ⟨us,[]⟩ (us++ds) (vs++dvs) Q (E U) hr I.env0 (hb s us I.kIn hl) r2 h) λr s' hq=>?_);cases r with
 |error e=>exact hx pins U H s e s' I hq
 |ok fl =>
  cases fl with
  |ret u=>exact I.after hq
  |next=>exact False.elim hq
  |brk=>exact False.elim hq
  |cont=>exact False.elim hq
theorem _hO (F:FnOk X.prog X.w X.K X.mg X.base CX k f fd ps sp) (hr:Room k X.A) (hg:Gl X x) (hm:X.mg x=some (.ref f)) (hk:W.keepIn X.K (.ref f)=true) (hb:Binds X.K fd ps ds) (hd:Vals dvs ds) (hx:WM CX X E)
 (ha:PA X (e::es) t) (hdb:(x==("__debug__": Str))=false:=by decide) (he:starEach (e::es) X.env=(false,eval e X.env)::starEach es X.env:=by rfl) (hpl:(backTo pos (starEach es X.env)).any (·.1)=false:=by rfl) :
  PE X (.Call (.Name x p) (e::es) [] pos) (_fp sp dvs E t):=by
 intro pins s U H Q I h;refine Gj (_as I hg hm ?_ hdb);refine W.callWith_K (h₀:=X.base) I.ok.mod.kin hk (_w (ha pos pins s U H _ I h) λus s1 zq=>?_) he hpl;obtain⟨vs,H1,I1,r,q⟩:=zq;refine ⟨I1.kIn,?_⟩;exact _aT F hr hb hd hx I1 r q
end
section
variable{K:W.Frag}
theorem _do (X:K.In h) (q:W.excIn K C bmB newId=true):∃bm N nm qn bs hdct sn sub ab col dd k0 k1 k2 k3 k5 mN,
  h.get? C=some (excClassObj nm qn C N bs bm hdct sn sub ab col dd k0 k1 k2 k3 k5 newId)/\h.Ns N mN/\mN "__init__"=none/\OwnTail h bmB bm:=by
 unfold W.excIn at q;split at q
 case h_2=>cases q
 case h_1 dict0 cdat slots0 found =>
  split at q
  case h_2=>cases q
  case h_1 C1 rest0 s0 s1 s2 s3 nid s5 mroEq slEq =>
   simp only[R6,RO,Nr] at q;have q1:=q.1.1.1.1.1;have q2:=q.1.1.1.1.2;have q3:=q.1.1.1.2;have q4:=q.1.1.2;have q5:=q.1.2;have q6:=q.2;subst q1 q2;cases cdat with
   |mk nmX basesX mroX nsX qualX hdX snX subX abX colX delX =>
    dsimp only at mroEq q3 q5 q6;subst mroEq;subst q3
    have es:slots0=#[s0,s1,s2,s3,some (.builtin nid),s5]:=by
     cases slots0 with
     |mk l=>exact QI _ slEq
    subst es;exact⟨rest0,nsX,nmX,qualX,basesX,hdX,snX,subX,abX,colX,dict0,s0,s1,s2,s3,s5,_,X _ _ found,.of_isNs (W.isNs_of_in X q5),W.nsMap_none_of_in X q5 q6,W.tail_of_in X q4⟩
end
section
variable{np cpos:Pos} {e₀:Expr} {rest:C0} {t:TA} {B initId:String} {E:XS}
def _la (C:Addr) (E:XS) (t:TA):TS:=λ_ U H=>t U H λvs H1=>vs.length<=sizeLine/\E U (.ref C) none H1
theorem _nN (hg:Gl X x) (hm:X.mg x=some (.ref C)) (q:W.excIn X.K C bmB newId=true) (FB:ExcBaseFacts B newId initId bmB) (hc:X.calm=true) (hx:_b5 X E) (ha:PA X (e₀::rest) t)
 (hd:(x==("__debug__": Str))=false:=by decide) (he:starEach (e₀::rest) X.env=(false,eval e₀ X.env)::starEach rest X.env:=by rfl) (hpl:(backTo cpos (starEach rest X.env)).any (·.1)=false:=by rfl) :
  PS X (.Raise (some (.Call (.Name x np) (e₀::rest) [] cpos)) none pos) (_la C E t):=by
 intro pins s U H D I h;obtain⟨bm,N,nm,qn,bs,hdct,sn,sub,ab,col,dd,k0,k1,k2,k3,k5,mN,hC,hN,hni,T⟩:=_do I.mod.kin q
 have hpl':(backTo cpos (starEach (e₀::rest) X.env)).any (·.1)=false:=by
  rw[he];exact hpl
 refine wpAny_Raise_call_subT (C:=C) (nm:=nm) (q:=qn) (N:=N) (bs:=bs) (bm:=bm) (hdct:=hdct) (sn:=sn) (sub:=sub) (ab:=ab) (col:=col) (dd:=dd) (k0:=k0) (k1:=k1) (k2:=k2)
  (k3:=k3) (k5:=k5) FB (mN:=mN) (T.hasType FB.hasBase) (I.ok.hd hc) hpl' hni (_as I hg hm ⟨rfl,?_⟩ hd)
 have g:=ha cpos pins s U H _ I h;rw[he] at g ⊢;refine No (Q5 g (λus s1 r1=>?_) λ_ _ y=>y);obtain⟨vs,H1,I1,rv,z,q1⟩:=r1;exact⟨rfl,by rw[<-rv.length];exact z,I1.bk _ _ hC,hN.keeps I1.bk,T.keeps I1.bk,λh1 e mk=>hx pins U H1 s1 h1 e (.ref C) us I1 mk q1⟩
end
def _aE (cls:Value) (e:Addr):Heap->Prop:=λh=>∃o vs,h.get? e=some o/\o.cls=cls/\o.data=.fields vs
noncomputable def Uj (cls:Value) (e:Addr):HO:=.ext (_aE cls e)
section
variable{w:World}
theorem HOk.track (x:HOk P w H h) (n:H a=none) (new:ObjOk P w (_d H a o) h a o):HOk P w (_d H a o) h:=λb u e=>by
 by_cases hb:b=a
 ·subst hb;rw[_k] at e;cases e;exact new
 ·rw[_l hb] at e;exact(x b u e).stay (λ_ _ _ q=>q) (λc q=>by rw[_l (_P q n)];exact q) λc xs q=>by rw[_l (_P q n)];exact q
theorem _lr (x:_aE cls e h):ObjOk P w H h e (Uj cls e):=by
 obtain⟨ob,vs,h1,h2,h3⟩:=id x;refine⟨x,⟨ob,h1⟩,λg1 g2 zq k=>?_⟩;obtain⟨o1,vs1,z1,z2,z3⟩:=zq;exact ⟨o1,vs1,k o1 z1,z2,z3⟩
end
section
variable{w:World} {outer:C4}
theorem Flies.move (f:Flies P w outer H H' s s' e cls):∃B a0,Heap.FlyingW B outer e cls a0 s'.heap /\
  ∀h5,Heap.FlyingW B outer e cls a0 h5->s'.heap.UpToSlots h5->Flies P w outer H H' s { s' with heap:=h5 } e cls:=by
 obtain⟨B,a0,fl,hB,kB,tB⟩:=f.fly;refine⟨B,a0,fl,λh5 fl5 up=>⟨f.os,f.bare,⟨λb o q n hb _=>fl5.1 b o (kB b o q n hb),λb o q n hb hx=>?_,f.un.free,λb o q hx=>?_,f.un.tups,f.un.frzs,f.un.tbls⟩,B,a0,fl5,hB,kB,tB⟩⟩
 ·obtain⟨sl,e1⟩:=f.un.slot b o q n hb hx;obtain⟨_,o',ho',hn⟩:=fl.2.2.1.mem hb;rw[e1] at ho';cases ho';obtain⟨sl',e2⟩:=up b _ e1 hn;exact⟨sl',e2⟩
 ·by_cases hb:b∈Yv outer
  ·obtain⟨_,o',ho',hn⟩:=fl.2.2.1.mem hb;obtain⟨sl',e2⟩:=up b _ ho' hn;exact⟨_,e2⟩
  ·obtain⟨o1,e1⟩:=tB b o q hb;exact⟨o1,fl5.1 b o1 e1⟩
theorem Flies.new (f:Flies P w outer H H' s s' e cls):H' e=none/\s.heap.get? e=none/\_aE cls e s'.heap:=by
 obtain⟨B,a0,fl,hB,kB,tB⟩:=f.fly;obtain⟨oe,vs,h1,h2,h3,_⟩:=fl.first;refine⟨?_,?_,oe,vs,h1,h2,h3⟩
 ·cases q:H' e with
  |none=>rfl
  |some u =>
   obtain⟨o1,e1⟩:=(hB e u q).there;rw[fl.2.1] at e1;cases e1
 ·cases q:s.heap.get? e with
  |none=>rfl
  |some u =>
   by_cases hb:e∈Yv outer
   ·obtain⟨_,o',ho',hn⟩:=fl.2.2.1.mem hb;rw[h1] at ho';cases ho';exact absurd h3 (hn vs)
   ·obtain⟨o1,e1⟩:=tB e u q hb;rw[fl.2.1] at e1;cases e1
end
section
variable{U:St}
theorem Flies.caught (f:Flies X.prog X.w X.stack H H' s s' e cls) (I:Inv X pins U H s):Inv X pins U (_d H' e (Uj cls e)) s':=by
 obtain⟨n1,n2,ex⟩:=f.new;have J:=f.inv I
 have ne:∀b o,s.heap.get? b=some o->b≠e:=λb o q z=>by
  rw[z,n2] at q;cases q
 refine I.call' (ch:=[]) f.os ⟨f.un.keep,f.un.slot,λb o q n hx=>?_,f.un.there,λb xs q=>?_,λb o u q=>?_,λb ps q=>?_⟩ (J.hok.track n1 (_lr ex)) f.bare (λb z=>absurd z (by simp))
 ·rw[_l (ne b o q)];exact f.un.free b o q n hx
 ·have z:=f.un.tups b xs q;rw[_l (_P z n1)];exact z
 ·have z:=f.un.frzs b o u q;rw[_l (_P z n1)];exact z
 ·obtain⟨more,z⟩:=f.un.tbls b ps q;exact⟨more,by rw[_l (_P z n1)];exact z⟩
end
noncomputable abbrev Cx.tryIn (X:Cx) (pins:A4) (W:Value->Shared->Prop):Cx:={ X with pn:=X.pn++pins,xe:=W }
noncomputable abbrev Cx.suite (X:Cx) (pins:A4) (e:Addr):Cx:={ X with pn:=X.pn++pins,A:=X.A.mark (some (.ref e)),calm:=false,xe:=λ_ _=>False }
section
variable{pins':A4} {U:St} {W:Value->Shared->Prop}
theorem Inv.tryIn (I:Inv X pins U H s) (W:Value->Shared->Prop):Inv (X.tryIn pins W) [] U H s :=
 ⟨⟨I.ok.mod,I.ok.kind,I.ok.glob,I.ok.blt,I.ok.above,I.ok.inj,I.ok.has,I.ok.cab,I.ok.hd,I.ok.frames,I.ok.stk,I.ok.exf,I.ok.bs,I.ok.bsz,I.ok.noex,I.ok.exfs,I.ok.funs,I.ok.frf⟩,
  I.os,I.bare,I.base,I.loc,I.cell,I.free,I.freeC,λp hp=>I.pin p (by rw[Q1] at hp;exact hp),I.hok,I.len⟩
theorem Inv.untry (I:Inv (X.tryIn pins W) pins' U H s):Inv X pins U H s :=
 ⟨⟨I.ok.mod,I.ok.kind,I.ok.glob,I.ok.blt,I.ok.above,I.ok.inj,I.ok.has,I.ok.cab,I.ok.hd,I.ok.frames,I.ok.stk,I.ok.exf,I.ok.bs,I.ok.bsz,I.ok.noex,I.ok.exfs,I.ok.funs,I.ok.frf⟩,
  I.os,I.bare,I.base,I.loc,I.cell,I.free,I.freeC,λp hp=>I.pin p (QG _ hp),I.hok,I.len⟩
theorem Inv.suite (I:Inv X pins U H s) (e:Addr):Inv (X.suite pins e) [] U H s :=
 ⟨⟨I.ok.mod,I.ok.kind,I.ok.glob,I.ok.blt,I.ok.above,I.ok.inj,I.ok.has,I.ok.cab,(λz=>nomatch z),I.ok.frames,I.ok.stk,I.ok.exf,I.ok.bs,I.ok.bsz,I.ok.noex,I.ok.exfs,I.ok.funs,I.ok.frf⟩,
  I.os,I.bare,I.base,I.loc,I.cell,I.free,I.freeC,λp hp=>I.pin p (by rw[Q1] at hp;exact hp),I.hok,I.len⟩
theorem Inv.unsuite (I:Inv (X.suite pins e) pins' U H s) (hd:X.calm=true->X.A.handled=none):Inv X pins U H s :=
 ⟨⟨I.ok.mod,I.ok.kind,I.ok.glob,I.ok.blt,I.ok.above,I.ok.inj,I.ok.has,I.ok.cab,hd,I.ok.frames,I.ok.stk,I.ok.exf,I.ok.bs,I.ok.bsz,I.ok.noex,I.ok.exfs,I.ok.funs,I.ok.frf⟩,
  I.os,I.bare,I.base,I.loc,I.cell,I.free,I.freeC,λp hp=>I.pin p (QG _ hp),I.hok,I.len⟩
theorem SP.untry {D:Ends} {f:Flow} (h:SP (X.tryIn pins W) pins' D f s'):SP X pins D f s':=by
 cases f with
 |next=>obtain⟨σ',H',I,q⟩:=h;exact⟨σ',H',I.untry,q⟩
 |brk=>obtain⟨σ',H',I,q⟩:=h;exact⟨σ',H',I.untry,q⟩
 |cont=>obtain⟨σ',H',I,q⟩:=h;exact⟨σ',H',I.untry,q⟩
 |ret u=>obtain⟨v,σ',H',I,r,q⟩:=h;exact⟨v,σ',H',I.untry,r,q⟩
theorem SP.unsuite {D:Ends} {f:Flow} (hd:X.calm=true->X.A.handled=none) (h:SP (X.suite pins e) pins' D f s'):SP X pins D f s':=by
 cases f with
 |next=>obtain⟨σ',H',I,q⟩:=h;exact⟨σ',H',I.unsuite hd,q⟩
 |brk=>obtain⟨σ',H',I,q⟩:=h;exact⟨σ',H',I.unsuite hd,q⟩
 |cont=>obtain⟨σ',H',I,q⟩:=h;exact⟨σ',H',I.unsuite hd,q⟩
 |ret u=>obtain⟨v,σ',H',I,r,q⟩:=h;exact⟨v,σ',H',I.unsuite hd,r,q⟩
end
theorem _mK {U:St} {u:Value} (I:Inv X pins U H s) (hg:Gl X x) (hm:X.mg x=some u) (h:Q u s)
 (hd:(x==("__debug__": Str))=false:=by decide):wpAny (model X.prog X.w) A (eval (.Name x pos) X.env) Q E s :=
 NL I.ok.kind hg (Calls.loadGlobal_global (by rw[I.ok.glob];exact I.mod.glob.keeps I.bk) hm h) hd
noncomputable def _eq (C:Addr) (ts:TS) (D:Ends):XS:=λU cls _ H=>cls=.ref C/\∀e,H e=none->ts D U (_d H e (Uj (.ref C) e))
def _on (C:Addr) (tb:XS->TS) (ts:TS):TS:=λD U H=>tb (_eq C ts D) D U H
section
variable{body suite:List Stmt} {b₀:Stmt} {n:Str} {np hpos:Pos} {tb:XS->TS} {ts:TS}
end
structure ExcK (K:W.Frag) (C:Addr):Prop where
 ga:W.findIn K (.ref C) "__getattribute__"=some (some (.builtin "BaseException.__getattribute__"))
 gt:W.findIn K (.ref C) "__getattr__"=some none
 cl:W.findIn K (.ref C) "__class__"=some (some (.builtin "object.__class__"))
 mb:W.mroIn K C (.type "BaseException")=some true
 mo:W.mroIn K C (.type "object")=some true
section
variable{w:World} {K:W.Frag} {g:Array GenState} {d:Drawn} {t:Nat} {os:OsState} {ob:Obj}
theorem _jd:(".".intercalate ("object.__class__".cutAt '.').dropLast)="object":=by ext
theorem _mD (X:K.In h) (Z:ExcK K C) (hx:h.get? a=some ob) (hc:ob.cls=.ref C) (hq:R (.ok (.ret (.ref C))) ⟨h,g,d,t,os⟩) :
  codeAny (model prog w) A (.call (.builtin "getset_descriptor.__get__") ⟨[.builtin "object.__class__",.ref a,.ref C],[]⟩) R ⟨h,g,d,t,os⟩:=by
 have k5:(⟨h,g,d,t,os⟩:Shared).TypeIs (.builtin "object.__class__") "getset_descriptor":=NT
 have mo:W.Looks (model prog w) h (isSubtype (.ref C) (.type (".".intercalate ("object.__class__".cutAt '.').dropLast))) true:=by
  rw[_jd];exact W.looks_mroIn X Z.mo
 refine codeAny_call_builtin F.slot_gs_get.plain F.entry_gs_get (F.slot_gs_get.check _ _ _ _ _ _ _ _ k5 (F.args_gs_get _ _ _) ?_)
 repeat (any_goals (first|assumption|(with_reducible refine GM hx ?_;rw[hc])|(with_reducible refine mo.at ?_)|wp_step))
 refine⟨NU _ (by ext),GN F.entry_object_class ?_⟩
 repeat (any_goals (first|assumption|(with_reducible refine GM hx ?_;rw[hc])|wp_step))
theorem _kc {Q:Fin->Shared->Prop} (X:K.In h) (Z:ExcK K C) (hx:h.get? a=some ob) (hc:ob.cls=.ref C) (hq:Q (.done (.ret (.ref C))) ⟨h,g,d,t,os⟩) :
  wpAny (model prog w) A (Builtin.«object.__getattribute__» ⟨[.ref a,.str "__class__" tk],[]⟩) Q E ⟨h,g,d,t,os⟩:=by
 have k5:(⟨h,g,d,t,os⟩:Shared).TypeIs (.builtin "object.__class__") "getset_descriptor":=NT;have f5:=NT;have f6:=F.slot_gs_get.lookup;have f7:=F.slot_gs_set.lookup;have lc:=Ng (M:=model prog w) X Z.cl
 repeat (any_goals (first|assumption|(with_reducible refine GM hx ?_;rw[hc])|(with_reducible refine lc.at ?_)|wp_step))
 refine _mD X Z hx hc ?_
 repeat (any_goals (first|assumption|wp_step))
theorem _iR {nameV:Value} {Q:Unit->Shared->Prop} (X:K.In h) (Z:ExcK K C) (hx:h.get? a=some ob) (hc:ob.cls=.ref C) (hq:Q () ⟨h,g,d,t,os⟩) :
  wpAny M A (checkBuiltinCall "BaseException.__getattribute__" ⟨[.ref a,nameV],[]⟩) Q E ⟨h,g,d,t,os⟩:=by
 have kd:builtinKind "BaseException.__getattribute__"=some .slot:=by ext
 have sp:splitId "BaseException.__getattribute__"=some ("BaseException","__getattribute__"):=by ext
 have mb:=W.looks_mroIn (M:=M) X Z.mb;have ar:=F.args_bexc_ga (.ref a) nameV;simp only[checkBuiltinCall,kd,sp];refine Qc ?_;unfold isInstance
 repeat (first|(with_reducible refine GM hx ?_;rw[hc])|(with_reducible refine mb.at ?_)|wp_step)
 exact hq
theorem _lI (X:K.In h) (Z:ExcK K C) (hx:h.get? a=some ob) (hc:ob.cls=.ref C) (hq:R (.ok (.ret (.ref C))) ⟨h,g,d,t,os⟩) :
  codeAny (model prog w) A (.call (.builtin "BaseException.__getattribute__") ⟨[.ref a,.str "__class__" tk],[]⟩) R ⟨h,g,d,t,os⟩ :=
 codeAny_call_builtin (F.excAttr_ValueError).ga.plain F.entry_bexc_ga (_iR X Z hx hc (_kc X Z hx hc hq))
theorem _j7 {fill expr:Bool} (X:K.In h) (Z:ExcK K C) (hx:h.get? a=some ob) (hc:ob.cls=.ref C) (hq:Q (.ref C) ⟨h,g,d,t,os⟩) :
  wpAny (model prog w) A (getAttrBy (.ref a) (.str "__class__" tk) fill expr) Q E ⟨h,g,d,t,os⟩:=by
 have f3:=(F.excAttr_ValueError).ga.bind (.ref a);have y0:(expr&&onTheHeap (Value.builtin "BaseException.__getattribute__"))=false:=by cases expr<;>rfl
 have y2:(Value.builtin "BaseException.__getattribute__"==Value.builtin "object.__getattribute__")=false:=by ext
 have y1:(onTheHeap (Value.ref C)&&Value.builtin "BaseException.__getattribute__"==Value.builtin "object.__getattribute__")=false:=by rw[y2];rfl
 have lg:=Ng (M:=model prog w) X Z.ga;have lt:=Ng (M:=model prog w) X Z.gt
 repeat (any_goals (first|assumption|(with_reducible refine GM hx ?_;rw[hc])|(with_reducible refine lg.at ?_)|(with_reducible refine lt.at ?_)|wp_step))
 refine _lI X Z hx hc ?_
 repeat (any_goals (first|assumption|wp_step))
theorem _kk {Q:B4->Shared->Prop} (X:K.In h) (Z:ExcK K C) (hx:h.get? a=some ob) (hc:ob.cls=.ref C) (hq:Q (some (.ref C)) ⟨h,g,d,t+1,os⟩) :
  wpAny (model prog w) A (getAttr? (.ref a) "__class__") Q E ⟨h,g,d,t,os⟩:=by
 unfold getAttr? getAttrBy?
 repeat (any_goals (first|assumption|with_reducible apply _j7 X Z hx hc|wp_step))
end
section
variable{K:W.Frag}
theorem _kK (Z:ExcK K C):W.KitX K (.ref a) (.ref C) (_aE (.ref C) a) where
 ty:=λM h X p=>by
  obtain⟨o,vs,h1,h2,_⟩:=p;exact h2▸(W.Looks.ld h1).andThen .now
 it:=λM h X p=>by
  obtain⟨cd,hc,_⟩:=Mo.mp Z.mo;unfold W.clsIn at hc;split at hc
  ·rename_i ho;intro A' Q' E' s' k q;unfold isType loadHead;exact Qc (wpAny_loadPart (k _ _ (X _ _ ho)) (Qh q))
  ·cases hc
 ne:=λh tp dd its n sl X htp=>by
  obtain⟨cd,hc,_⟩:=Mo.mp Z.mo;refine RA.mpr λq=>?_;have e:C=tp:=Value.ref.inj (RO.mp q);subst e;unfold W.clsIn at hc;split at hc
  ·rename_i ho;have z:=(X _ _ ho).symm.trans htp;cases z
  ·cases hc
 ca:=λ{prog w A E Q s} X p k=>by
  obtain⟨h,g,d,t,os⟩:=s;obtain⟨o,vs,h1,h2,_⟩:=p;exact _kk X Z h1 h2 k
end
inductive Kd (K:W.Frag) (H:Hp):V->Value->Prop where
 |of {x:V} {t:Value} (e:TyOf K H x t):Kd K H x t
 |exc {a C:Addr} (Z:ExcK K C) (e:H a=some (Uj (.ref C) a)):Kd K H (.ref a) (.ref C)
 |sqt {a:Addr} {xs:List V} (e:SqT K H a xs):Kd K H (.ref a) (.type "tuple")
 |sql {a:Addr} {xs:List V} (e:SqL K H a xs):Kd K H (.ref a) (.type "list")
noncomputable def isC:V->Bool
 |.ref _=>true
 |.ty _=>true
 |_=>false
noncomputable def _bB:V->Value
 |.ref a=>.ref a
 |.ty n=>.type n
 |_=>.none
theorem _lO:YE X (.builtin "isinstance") (λxs H Q=>∃x c t b,xs=[x,c]/\isC c=true/\Kd X.K H x t/\W.kitOne X.K t (_bB c)=some b/\Q (.bl b) H):=by
 intro pins s U H xs us Q I r h;obtain⟨x,c,t,b,rfl,ic,ty,e,q⟩:=h;obtain⟨u,v,rfl,rx,rc⟩:=V4 r
 have ec:_bB c=v:=by
  cases c with
  |ref a=>exact Eq.symm rc
  |ty n=>exact Eq.symm rc
  |_=>cases ic
 rw[ec] at e;have fin:∀tk,EP X pins U Q (.bool b) { s with toks:=tk }:=λtk=>⟨.bl b,H,I.tok tk,rfl,q⟩;cases ty with
 |of ty=>exact _mq I rx ty e fin
 |@exc a C Z ea =>
  cases(show u=Value.ref a from rx);obtain⟨p,_,_⟩:=(show ObjOk X.prog X.w H s.heap a (Uj (.ref C) a) from I.hok a _ ea);exact Q6 (_kK Z) I.kIn p e (λz=>nomatch z) fin
 |@sqt a ys ea =>
  cases(show u=Value.ref a from rx);rcases ea with ea|⟨o,its,n,h1,h2,_⟩
  ·obtain⟨_,_,_,p⟩:=(show ObjOk X.prog X.w H s.heap a (.tup ys) from ea.ok I.hok);obtain⟨o,h1,h2,_⟩:=p;exact Q6 W.kitx_tuple I.kIn ⟨o,h1,h2⟩ e (λz=>nomatch z) fin
  ·exact Q6 W.kitx_tuple I.kIn ⟨o,I.kIn _ _ h1,h2⟩ e (λz=>nomatch z) fin
 |@sql a ys ea =>
  cases(show u=Value.ref a from rx);rcases ea with ea|⟨o,its,n,h1,h2,_⟩
  ·obtain⟨_,_,n,_,h1⟩:=(show ObjOk X.prog X.w H s.heap a (.lst ys) from ea.ok I.hok);exact Q6 Nh I.kIn ⟨_,h1,rfl⟩ e (λz=>nomatch z) fin
  ·exact Q6 Nh I.kIn ⟨o,I.kIn _ _ h1,h2⟩ e (λz=>nomatch z) fin
def U8 (i j:Int):Prop:=i.natAbs<2 ^ 1000/\j.natAbs<2 ^ 1000
theorem _dk {x:Int} (h:x.natAbs<2 ^ 1000):Builtin.Int.intBits x<=2 ^ 20:=by
 unfold Builtin.Int.intBits;split
 ·exact QN _
 ·rename_i z
  have n:x.natAbs≠0:=by
   intro q;exact z (by rw[Int.natAbs_eq_zero.mp q];rfl)
  have:=(Nat.log2_lt n).mpr h;lia
theorem U7:Yb X (binaryOp .Mult) (rI U8 λi j=>.int (i*j)):=UW λ_ _ _ _ _ _ _ hc q=>mul_int q (.of_bits (_dk hc.1) (_dk hc.2))
theorem XD:Yb X (binaryOp .FloorDiv) (rI (λ_ j=>j≠0/\j.natAbs<2 ^ 1000) λi j=>.int (i.fdiv j)):=UW λi j _ _ _ _ _ hc q =>
 floordiv_int hc.1 q (.inl (PyProof.noPylong_of_log2 (by
  have n:j.natAbs≠0:=λz=>hc.1 (Int.natAbs_eq_zero.mp z);have:=(Nat.log2_lt n).mpr hc.2;lia)))
theorem Fun.okX {w:World} {K:W.Frag} {mg:Str->B4} {base:Heap} {qual:Str} {st:Stmt} {fd:FuncData} {ps:A9} {k:Nat} {sp:Sp} (F:Fun K x qual st f fd) (S:FnScope N ps (_C st))
 (len:∀vs H Q E,sp vs H Q E->vs.length=ps.length)
 (hbody:∀(cdv:Value) (A:Around) (outer:C4) (s:Shared) (H:Hp) (vs:List V) (Q:VK) (E:XK),Room k (A.deeper (envOfC qual (_C st) s.heap.objs.size f cdv))->sp vs H Q E →
 ∃t,PSs (_O CX P w K mg base N qual (_C st) f cdv A outer s H E) (Y2 st) t/\t { nx:=λ_ H'=>Q .non H',rt:=Q } (start N vs) H):FnOk P w K mg base CX (k+1) f fd ps sp:=by
 obtain⟨oc,od,kV,doc,pm,an,cdv,ct,osl,rfl,lk,hcd⟩:=F.ex;exact _d0 lk hcd S len λA outer s H vs Q E hr hsp=>hbody cdv A outer s H vs Q E hr hsp
theorem _c2:bootBuiltins "int"=some (.type "int"):=by ext
theorem _nV:bootBuiltins "bool"=some (.type "bool"):=by ext
theorem VG:bootBuiltins "str"=some (.type "str"):=by ext
theorem _ns:bootBuiltins "list"=some (.type "list"):=by ext
theorem _nG:bootBuiltins "tuple"=some (.type "tuple"):=by ext
theorem Yx:bootBuiltins "len"=some (.builtin "len"):=by ext
theorem _n2:bootBuiltins "abs"=some (.builtin "abs"):=by ext
theorem _ae:bootBuiltins "max"=some (.builtin "max"):=by ext
theorem _cq:bootBuiltins "min"=some (.builtin "min"):=by ext
theorem _mT:bootBuiltins "isinstance"=some (.builtin "isinstance"):=by ext
abbrev EBm:B1:=[.type "ValueError",.type "Exception",.type "BaseException",.type "object"]
theorem EB:ExcBaseFacts "ValueError" "ValueError.__new__" "ValueError.__init__" EBm:=PySem.F.excBase_ValueError
theorem EBb:EBm.contains (.type "BaseException")=true:=by ext
theorem _q {p:Addr} (n:H p=none):Same H (_d H p o):=λb u e=>by
 rw[_l (_P e n)];exact e
theorem Same.rd (e:Same H H') {u:HO} (r:Rd H a u):Rd H' a u:=by
 rcases r with r|⟨o,r⟩
 ·exact .inl (e _ _ r)
 ·exact .inr ⟨o,e _ _ r⟩
theorem Same.sqt {K:W.Frag} (e:Same H H') (h:SqT K H a xs):SqT K H' a xs:=by
 rcases h with h|h
 ·exact .inl (e.rd h)
 ·exact .inr h
theorem Same.sql {K:W.Frag} (e:Same H H') (h:SqL K H a xs):SqL K H' a xs:=by
 rcases h with h|h
 ·exact .inl (e.rd h)
 ·exact .inr h
theorem Same.ty {K:W.Frag} {x:V} {t:Value} (e:Same H H') (h:TyOf K H x t):TyOf K H' x t:=by
 cases h with
 |non=>exact .non
 |bl b=>exact .bl b
 |int i=>exact .int i
 |str y=>exact .str y
 |flt y=>exact .flt y
 |lst q=>exact .lst (e _ _ q)
 |frz q=>exact .frz (e _ _ q)
 |tup q=>exact .tup (e _ _ q)
 |dK q=>exact .dK (e _ _ q)
 |dT q=>exact .dT (e _ _ q)
 |ins q c a n tk m=>exact .ins (e _ _ q) c a n tk m
theorem Same.kd {K:W.Frag} {x:V} {t:Value} (e:Same H H') (h:Kd K H x t):Kd K H' x t:=by
 cases h with
 |of q=>exact .of (e.ty q)
 |exc Z q=>exact .exc Z (e _ _ q)
 |sqt q=>exact .sqt (e.sqt q)
 |sql q=>exact .sql (e.sql q)
def _mJ (K:W.Frag) (t:TA):TE:=λU H Q=>t U H λxs H1=>∃x c ty b,xs=[x,c]/\isC c=true/\Kd K H1 x ty/\W.kitOne K ty (_bB c)=some b/\Q (.bl b) H1
theorem Wy (K:W.Frag) {e:Expr} {t:TA} (hg:Gl X "isinstance") (hm:X.mg "isinstance"=none) (ha:PA X (e::es) t) (hK:X.K=K:=by rfl)
 (he:starEach (e::es) X.env=(false,eval e X.env)::starEach es X.env:=by rfl) (hpl:(backTo pos (starEach es X.env)).any (·.1)=false:=by rfl):PE X (.Call (.Name "isinstance" p) (e::es) [] pos) (_mJ K t):=by
 subst hK;exact _U (_lO (X:=X)) hg hm _mT ha (by decide) (by decide) he hpl
inductive D where
 |non|bl (b:Bool)|int (i:Int)|str (x:Str)|tup (ds:List D)|lst (ds:List D)
mutual
def Is (K:W.Frag) (H:Hp):D->V->Prop
 |.non,v=>v=.non
 |.bl b,v=>v=.bl b
 |.int i,v=>v=.int i
 |.str x,v=>v=.str x
 |.tup ds,v=>∃a xs,v=.ref a/\SqT K H a xs/\IsL K H ds xs
 |.lst ds,v=>∃a xs,v=.ref a/\SqL K H a xs/\IsL K H ds xs
def IsL (K:W.Frag) (H:Hp):List D->List V->Prop
 |[],xs=>xs=[]
 |d::ds,xs=>∃x r,xs=x::r/\Is K H d x/\IsL K H ds r
end
mutual
noncomputable def Xn:D->D->Bool
 |.non,.non=>true
 |.bl a,.bl b=>a==b
 |.bl a,.int b=>(if a then 1 else 0)==b
 |.int a,.bl b=>a==(if b then 1 else 0)
 |.int a,.int b=>a==b
 |.str a,.str b=>a==b
 |.tup a,.tup b=>Yk a b
 |.lst a,.lst b=>Yk a b
 |_,_=>false
noncomputable def Yk:List D->List D->Bool
 |[],[]=>true
 |x::xs,y::ys=>Xn x y&&Yk xs ys
 |_,_=>false
end
mutual
noncomputable def Xk:D->Nat
 |.tup ds=>Yn ds+1
 |.lst ds=>Yn ds+1
 |_=>0
noncomputable def Yn:List D->Nat
 |[]=>0
 |d::ds=>max (Xk d) (Yn ds)
end
section
variable{K:W.Frag}
mutual
theorem Same.is (e:Same H H'):∀(d:D) {v:V},Is K H d v->Is K H' d v
 |.non,v,h=>h
 |.bl b,v,h=>h
 |.int i,v,h=>h
 |.str x,v,h=>h
 |.tup ds,v,h=>by
  obtain⟨a,xs,rfl,q,r⟩:=h;exact⟨a,xs,rfl,e.sqt q,Same.isL e ds r⟩
 |.lst ds,v,h=>by
  obtain⟨a,xs,rfl,q,r⟩:=h;exact⟨a,xs,rfl,e.sql q,Same.isL e ds r⟩
theorem Same.isL (e:Same H H'):∀(ds:List D) {xs:List V},IsL K H ds xs->IsL K H' ds xs
 |[],xs,h=>h
 |d::ds,xs,h=>by
  obtain⟨x,r,rfl,h1,h2⟩:=h;exact⟨x,r,rfl,Same.is e d h1,Same.isL e ds h2⟩
end
theorem IsL.length:∀{ds:List D} {xs:List V},IsL K H ds xs->xs.length=ds.length
 |[],xs,h=>by cases(show xs=[] from h);rfl
 |d::ds,xs,h=>by
  obtain⟨x,r,rfl,_,h2⟩:=h;rw[QC,QC,IsL.length h2]
end
section
variable{U:St}
theorem Inv.isList (I:Inv X pins U H s) (h:SqL X.K H a xs):∃its:B1,Vals xs its/\s.heap.IsList a its.toArray:=by
 rcases h with h|⟨o,its,n,h1,h2,_,h3,_,r⟩
 ·obtain⟨_,its,n,r,e⟩:=(show ObjOk X.prog X.w H s.heap a (.lst xs) from h.ok I.hok);exact⟨its,r,_,e,rfl,n,rfl⟩
 ·exact⟨its.toList,r,o,I.kIn _ _ h1,h2,n,by simpa using h3⟩
theorem Inv.isTup (I:Inv X pins U H s) (h:SqT X.K H a xs):∃its:B1,Vals xs its/\s.heap.IsTuple a its.toArray:=by
 rcases h with h|⟨o,its,n,h1,h2,h3,_,r⟩
 ·obtain⟨_,its,r,e⟩:=(show ObjOk X.prog X.w H s.heap a (.tup xs) from h.ok I.hok);exact⟨its,r,e⟩
 ·exact⟨its.toList,r,o,I.kIn _ _ h1,h2,n,by simpa using h3⟩
theorem _at:∀{ds ds':List D},ds.length≠ds'.length->Yk ds ds'=false
 |[],[],h=>absurd rfl h
 |[],_::_,_=>rfl
 |_::_,[],_=>rfl
 |d::ds,d'::ds',h=>by
  show(Xn d d'&&Yk ds ds')=false;rw[_at (ds:=ds) (ds':=ds') λz=>h (by rw[QC,QC,z]),GO]
noncomputable def Vg (ds ds':List D) (j:Nat):Bool:=Xn (ds.getD j .non) (ds'.getD j .non)
theorem Jt:∀{ds ds':List D},ds.length=ds'.length->(List.range ds.length).all (Vg ds ds')=Yk ds ds'
 |[],[],_=>rfl
 |[],_::_,h=>by cases h
 |_::_,[],h=>by cases h
 |d::ds,d'::ds',h=>by
  have h':ds.length=ds'.length:=by simpa using h
  rw[QC,List.range_succ_eq_map,Gm,GP];show _=(Xn d d'&&Yk ds ds');rw[<-Jt h'];rfl
theorem Inv.tup_fun (I:Inv X pins U H s) (h:SqT X.K H a xs) (h':SqT X.K H a ys):xs=ys:=by
 obtain⟨us,r,o,e,_,n,d⟩:=I.isTup h;obtain⟨us',r',o',e',_,n',d'⟩:=I.isTup h';rw[e] at e';cases e';rw[d] at d';injection d' with d1 _;have z:us=us':=by simpa using d1
 subst z;exact r.inj r'
theorem Inv.lst_fun (I:Inv X pins U H s) (h:SqL X.K H a xs) (h':SqL X.K H a ys):xs=ys:=by
 obtain⟨us,r,o,e,_,n,d⟩:=I.isList h;obtain⟨us',r',o',e',_,n',d'⟩:=I.isList h';rw[e] at e';cases e';rw[d] at d';injection d' with d1 _;have z:us=us':=by simpa using d1
 subst z;exact r.inj r'
theorem Inv.tup_lst (I:Inv X pins U H s) (h:SqT X.K H a xs) (h':SqL X.K H a ys):False:=by
 obtain⟨us,r,o,e,c,_⟩:=I.isTup h;obtain⟨us',r',o',e',c',_⟩:=I.isList h';rw[e] at e';cases e';rw[c] at c';exact absurd (Value.type.inj c') (by decide)
mutual
theorem _hN (I:Inv X pins U H s):∀(d d':D) {v:V},Is X.K H d v->Is X.K H d' v->d=d'
 |.non,d',v,h,h'=>by
  cases(show v=.non from h);cases d'<;>first|rfl|(obtain⟨_,_,z,_⟩:=h';cases z;done)|cases h'
 |.bl c,d',v,h,h'=>by
  cases(show v=.bl c from h);cases d'<;>first|rfl|(obtain⟨_,_,z,_⟩:=h';cases z;done)|(cases h';done)|(cases h';rfl)
 |.int c,d',v,h,h'=>by
  cases(show v=.int c from h);cases d'<;>first|rfl|(obtain⟨_,_,z,_⟩:=h';cases z;done)|(cases h';done)|(cases h';rfl)
 |.str c,d',v,h,h'=>by
  cases(show v=.str c from h);cases d'<;>first|rfl|(obtain⟨_,_,z,_⟩:=h';cases z;done)|(cases h';done)|(cases h';rfl)
 |.tup ds,d',v,h,h'=>by
  obtain⟨a,xs,rfl,q,hl⟩:=h;cases d' with
  |tup ds' =>
   obtain⟨a',xs',e,q',hl'⟩:=h';cases e;rw[I.tup_fun q q'] at hl;rw[Jh I ds ds' hl hl']
  |lst ds' =>
   obtain⟨a',xs',e,q',hl'⟩:=h';cases e;exact(I.tup_lst q q').elim
  |_=>cases h'
 |.lst ds,d',v,h,h'=>by
  obtain⟨a,xs,rfl,q,hl⟩:=h;cases d' with
  |lst ds' =>
   obtain⟨a',xs',e,q',hl'⟩:=h';cases e;rw[I.lst_fun q q'] at hl;rw[Jh I ds ds' hl hl']
  |tup ds' =>
   obtain⟨a',xs',e,q',hl'⟩:=h';cases e;exact(I.tup_lst q' q).elim
  |_=>cases h'
theorem Jh (I:Inv X pins U H s):∀(ds ds':List D) {xs:List V},IsL X.K H ds xs->IsL X.K H ds' xs->ds=ds'
 |[],ds',xs,h,h'=>by
  cases(show xs=[] from h);cases ds' with
  |nil=>rfl
  |cons d r=>obtain⟨_,_,z,_⟩:=h';cases z
 |d::ds,ds',xs,h,h'=>by
  obtain⟨x,r,rfl,h1,h2⟩:=h;cases ds' with
  |nil=>cases h'
  |cons d' ds' =>
   obtain⟨x',r',e,h1',h2'⟩:=h';cases e;rw[_hN I d d' h1 h1',Jh I ds ds' h2 h2']
end
mutual
theorem _jh:∀d:D,Xn d d=true
 |.non=>rfl
 |.bl b=>GQ b
 |.int i=>GQ i
 |.str x=>GQ x
 |.tup ds=>V8 ds
 |.lst ds=>V8 ds
theorem V8:∀ds:List D,Yk ds ds=true
 |[]=>rfl
 |d::ds=>by show(Xn d d&&Yk ds ds)=true;rw[_jh d,V8 ds];rfl
end
theorem VW {α:Type} {l:List α} {x y:α} (h:l[i]?=some x):l.getD i y=x:=by simp[List.getD,h]
theorem _gB {ds ds':List D} {xs':List V} {us':B1} {a':Addr} (I:Inv X pins U H s) (hl:IsL X.K H ds xs) (hl':IsL X.K H ds' xs') (rv:Vals xs us) (rv':Vals xs' us')
 (z:s.heap.IsTuple a us.toArray) (z':s.heap.IsTuple a' us'.toArray) (hu:A.units<cLine)
 (it:∀(j:Nat) (d d':D) (u u':Value),ds[j]?=some d->ds'[j]?=some d'->us[j]?=some u->us'[j]?=some u'->SeqAt.EqAt A.in1 s u u' (Xn d d')):SeqAt.RcAt A s (.ref a) (.ref a') (Yk ds ds'):=by
 have e1:us.length=ds.length:=by rw[<-rv.length,hl.length]
 have e2:us'.length=ds'.length:=by rw[<-rv'.length,hl'.length]
 have g:=SeqAt.RcAt.tuples (e:=Vg ds ds') z z' hu λj h1 h2=>by
  have g1:j<ds.length:=by rw[<-e1];simpa using h1
  have g2:j<ds'.length:=by rw[<-e2];simpa using h2
  have k1:ds[j]?=some ds[j]:=Qp g1;have k2:ds'[j]?=some ds'[j]:=Qp g2;unfold Vg;rw[VW k1,VW k2];exact it j _ _ _ _ k1 k2 (by simp) (by simp)
 have en:((List.range (min us.toArray.size us'.toArray.size)).all (Vg ds ds')&&us.toArray.size==us'.toArray.size)=Yk ds ds':=by
  simp only[Qx,e1,e2];by_cases q:ds.length=ds'.length
  ·rw[<-q,Nat.min_self,Jt q,GQ,NV]
  ·rw[_at q,(RM.mpr q),GO]
 rw[en] at g;exact g
theorem _f3 {ds ds':List D} {xs':List V} {us':B1} {a':Addr} (I:Inv X pins U H s) (hl:IsL X.K H ds xs) (hl':IsL X.K H ds' xs') (rv:Vals xs us) (rv':Vals xs' us')
 (z:s.heap.IsList a us.toArray) (z':s.heap.IsList a' us'.toArray) (hu:A.units<cLine)
 (it:∀(j:Nat) (d d':D) (u u':Value),ds[j]?=some d->ds'[j]?=some d'->us[j]?=some u->us'[j]?=some u'->SeqAt.EqAt A.in1 s u u' (Xn d d')):SeqAt.RcAt A s (.ref a) (.ref a') (Yk ds ds'):=by
 have e1:us.length=ds.length:=by rw[<-rv.length,hl.length]
 have e2:us'.length=ds'.length:=by rw[<-rv'.length,hl'.length]
 by_cases q:ds.length=ds'.length
 ·have g:=SeqAt.RcAt.lists (e:=Vg ds ds') z z' (by simp only[Qx,e1,e2,q]) hu λj h1 h2=>by
   have g1:j<ds.length:=by rw[<-e1];simpa using h1
   have g2:j<ds'.length:=by rw[<-e2];simpa using h2
   have k1:ds[j]?=some ds[j]:=Qp g1;have k2:ds'[j]?=some ds'[j]:=Qp g2;unfold Vg;rw[VW k1,VW k2];exact it j _ _ _ _ k1 k2 (by simp) (by simp)
  rw[show us.toArray.size=ds.length by simp[e1],Jt q] at g;exact g
 ·rw[_at q];exact SeqAt.RcAt.lists_lengths z z' (by simp only[Qx,e1,e2];exact bne_iff_ne.mpr q) hu
mutual
theorem eqD (I:Inv X pins U H s):∀(d d':D) {v v':V} {u u':Value} {A:Around},Is X.K H d v->Is X.K H d' v'->RelV v u->RelV v' u'->A.units+Xk d<cLine->SeqAt.EqAt A s u u' (Xn d d')
 |.non,d',v,v',u,u',A,h,h',r,r',hu=>by
  cases(show v=.non from h);cases(show u=Value.none from r);cases d' with
  |non=>cases(show v'=.non from h');cases(show u'=Value.none from r');exact Nk _
  |bl b=>cases(show v'=.bl b from h');cases(show u'=Value.bool b from r');exact SeqAt.EqAt.none_bool b
  |int b=>cases(show v'=.int b from h');obtain⟨t,rfl⟩:=r';exact SeqAt.EqAt.none_int b t
  |str b=>cases(show v'=.str b from h');obtain⟨t,rfl⟩:=r';exact SeqAt.EqAt.none_str b t
  |tup b=>obtain⟨a,xs,rfl,q,_⟩:=h';cases r';obtain⟨its,_,z⟩:=I.isTup q;exact SeqAt.EqAt.none_tuple z (by simpa[Xk] using hu)
  |lst b=>obtain⟨a,xs,rfl,q,_⟩:=h';cases r';obtain⟨its,_,z⟩:=I.isList q;exact SeqAt.EqAt.none_list z (by simpa[Xk] using hu)
 |.bl c,d',v,v',u,u',A,h,h',r,r',hu=>by
  cases(show v=.bl c from h);cases(show u=Value.bool c from r);cases d' with
  |non=>cases(show v'=.non from h');cases(show u'=Value.none from r');exact SeqAt.EqAt.bool_none c
  |bl b=>cases(show v'=.bl b from h');cases(show u'=Value.bool b from r');exact SeqAt.EqAt.bool_bool c b
  |int b=>cases(show v'=.int b from h');obtain⟨t,rfl⟩:=r';exact SeqAt.EqAt.bool_int c b t
  |str b=>cases(show v'=.str b from h');obtain⟨t,rfl⟩:=r';exact SeqAt.EqAt.bool_str c b t
  |tup b=>obtain⟨a,xs,rfl,q,_⟩:=h';cases r';obtain⟨its,_,z⟩:=I.isTup q;exact SeqAt.EqAt.bool_tuple c z (by simpa[Xk] using hu)
  |lst b=>obtain⟨a,xs,rfl,q,_⟩:=h';cases r';obtain⟨its,_,z⟩:=I.isList q;exact SeqAt.EqAt.bool_list c z (by simpa[Xk] using hu)
 |.int c,d',v,v',u,u',A,h,h',r,r',hu=>by
  cases(show v=.int c from h);obtain⟨t0,rfl⟩:=r;cases d' with
  |non=>cases(show v'=.non from h');cases(show u'=Value.none from r');exact SeqAt.EqAt.int_none c t0
  |bl b=>cases(show v'=.bl b from h');cases(show u'=Value.bool b from r');exact SeqAt.EqAt.int_bool c t0 b
  |int b=>cases(show v'=.int b from h');obtain⟨t,rfl⟩:=r';exact SeqAt.EqAt.int_int c t0 b t
  |str b=>cases(show v'=.str b from h');obtain⟨t,rfl⟩:=r';exact NI c t0 b t
  |tup b=>obtain⟨a,xs,rfl,q,_⟩:=h';cases r';obtain⟨its,_,z⟩:=I.isTup q;exact SeqAt.EqAt.int_tuple c t0 z (by simpa[Xk] using hu)
  |lst b=>obtain⟨a,xs,rfl,q,_⟩:=h';cases r';obtain⟨its,_,z⟩:=I.isList q;exact SeqAt.EqAt.int_list c t0 z (by simpa[Xk] using hu)
 |.str c,d',v,v',u,u',A,h,h',r,r',hu=>by
  cases(show v=.str c from h);obtain⟨t0,rfl⟩:=r;cases d' with
  |non=>cases(show v'=.non from h');cases(show u'=Value.none from r');exact SeqAt.EqAt.str_none c t0
  |bl b=>cases(show v'=.bl b from h');cases(show u'=Value.bool b from r');exact SeqAt.EqAt.str_bool c t0 b
  |int b=>cases(show v'=.int b from h');obtain⟨t,rfl⟩:=r';exact NJ c t0 b t
  |str b=>cases(show v'=.str b from h');obtain⟨t,rfl⟩:=r';exact SeqAt.EqAt.str_str c t0 b t
  |tup b=>obtain⟨a,xs,rfl,q,_⟩:=h';cases r';obtain⟨its,_,z⟩:=I.isTup q;exact SeqAt.EqAt.str_tuple c t0 z (by simpa[Xk] using hu)
  |lst b=>obtain⟨a,xs,rfl,q,_⟩:=h';cases r';obtain⟨its,_,z⟩:=I.isList q;exact SeqAt.EqAt.str_list c t0 z (by simpa[Xk] using hu)
 |.tup ds,d',v,v',u,u',A,h,h',r,r',hu=>by
  obtain⟨a,xs,rfl,q,hl⟩:=h;cases(show u=Value.ref a from r);obtain⟨its,rv,z⟩:=I.isTup q;have hu0:A.units<cLine:=by lia
  cases d' with
  |non=>cases(show v'=.non from h');cases(show u'=Value.none from r');exact SeqAt.EqAt.tuple_none z hu0
  |bl b=>cases(show v'=.bl b from h');cases(show u'=Value.bool b from r');exact SeqAt.EqAt.tuple_bool b z hu0
  |int b=>cases(show v'=.int b from h');obtain⟨t,rfl⟩:=r';exact SeqAt.EqAt.tuple_int b t z hu0
  |str b=>cases(show v'=.str b from h');obtain⟨t,rfl⟩:=r';exact SeqAt.EqAt.tuple_str b t z hu0
  |lst b=>obtain⟨a2,xs2,rfl,q2,_⟩:=h';cases r';obtain⟨its2,_,z2⟩:=I.isList q2;exact SeqAt.EqAt.tuple_list z z2 hu0
  |tup ds' =>
   obtain⟨a2,xs2,rfl,q2,hl2⟩:=h';cases(show u'=Value.ref a2 from r');obtain⟨its2,rv2,z2⟩:=I.isTup q2;have hu1:A.units+(Yn ds+1)<cLine:=hu;show SeqAt.EqAt A s _ _ (Yk ds ds');by_cases ne:a=a2
   ·subst ne;rw[I.tup_fun q q2] at hl;rw[Jh I ds ds' hl hl2,V8];exact Nk _
   ·exact .of_refs ne (_gB I hl hl2 rv rv2 z z2 hu0 (Ua I ds ds' (A:=A.in1) hl hl2 rv rv2 (by show A.units+1+Yn ds<cLine;lia)))
 |.lst ds,d',v,v',u,u',A,h,h',r,r',hu=>by
  obtain⟨a,xs,rfl,q,hl⟩:=h;cases(show u=Value.ref a from r);obtain⟨its,rv,z⟩:=I.isList q;have hu0:A.units<cLine:=by lia
  cases d' with
  |non=>cases(show v'=.non from h');cases(show u'=Value.none from r');exact SeqAt.EqAt.list_none z hu0
  |bl b=>cases(show v'=.bl b from h');cases(show u'=Value.bool b from r');exact SeqAt.EqAt.list_bool b z hu0
  |int b=>cases(show v'=.int b from h');obtain⟨t,rfl⟩:=r';exact SeqAt.EqAt.list_int b t z hu0
  |str b=>cases(show v'=.str b from h');obtain⟨t,rfl⟩:=r';exact SeqAt.EqAt.list_str b t z hu0
  |tup b=>obtain⟨a2,xs2,rfl,q2,_⟩:=h';cases r';obtain⟨its2,_,z2⟩:=I.isTup q2;exact SeqAt.EqAt.list_tuple z z2 hu0
  |lst ds' =>
   obtain⟨a2,xs2,rfl,q2,hl2⟩:=h';cases(show u'=Value.ref a2 from r');obtain⟨its2,rv2,z2⟩:=I.isList q2;have hu1:A.units+(Yn ds+1)<cLine:=hu;show SeqAt.EqAt A s _ _ (Yk ds ds');by_cases ne:a=a2
   ·subst ne;rw[I.lst_fun q q2] at hl;rw[Jh I ds ds' hl hl2,V8];exact Nk _
   ·exact .of_refs ne (_f3 I hl hl2 rv rv2 z z2 hu0 (Ua I ds ds' (A:=A.in1) hl hl2 rv rv2 (by show A.units+1+Yn ds<cLine;lia)))
theorem Ua (I:Inv X pins U H s):∀(ds ds':List D) {xs xs':List V} {us us':B1} {A:Around},IsL X.K H ds xs->IsL X.K H ds' xs'->Vals xs us->Vals xs' us'->A.units+Yn ds<cLine →
  ∀(j:Nat) (d d':D) (u u':Value),ds[j]?=some d->ds'[j]?=some d'->us[j]?=some u->us'[j]?=some u'->SeqAt.EqAt A s u u' (Xn d d')
 |[],_,_,_,_,_,_,_,_,_,_,_,j,d,d',u,u',e,_,_,_=>by simp at e
 |d0::ds,ds',xs,xs',us,us',A,hl,hl',rv,rv',hu,j,d,d',u,u',e1,e2,e3,e4=>by
  obtain⟨x,r,rfl,h1,h2⟩:=hl;cases ds' with
  |nil=>simp at e2
  |cons d0' ds' =>
   obtain⟨x',r',rfl,h1',h2'⟩:=hl';cases rv with
   |cons ra rb =>
    cases rv' with
    |cons ra' rb' =>
     have hu1:A.units+max (Xk d0) (Yn ds)<cLine:=hu;cases j with
     |zero =>
      simp only[NW,Option.some.injEq] at e1 e2 e3 e4;subst e1 e2 e3 e4;exact eqD I _ _ h1 h1' ra ra' (by lia)
     |succ j =>
      simp only[Gp] at e1 e2 e3 e4;exact Ua I ds ds' h2 h2' rb rb' (by lia) j d d' u u' e1 e2 e3 e4
end
inductive rEqD (K:W.Frag) (g:Bool->Bool) (x:V) (y:V) (H:Hp) (Q:VK):Prop
 |mk:∀d d',Is K H d x->Is K H d' y->(((∃ds ds',d=.tup ds/\d'=.tup ds')\/∃ds ds',d=.lst ds/\d'=.lst ds'))->Xk d<=60->Q (.bl (g (Xn d d'))) H->rEqD K g x y H Q
theorem Ji (hu:X.A.units+64<cLine):Yb X (compareOp .Eq) (rEqD X.K id):=by
 intro pins s U H x y v u Q I rx ry h;obtain⟨d,d',h1,h2,sh,hd,q⟩:=h;rcases sh with⟨ds,ds',rfl,rfl⟩|⟨ds,ds',rfl,rfl⟩
 ·obtain⟨a,xs,rfl,q1,hl⟩:=h1;obtain⟨a2,xs2,rfl,q2,hl2⟩:=h2;cases(show v=Value.ref a from rx);cases(show u=Value.ref a2 from ry);obtain⟨its,rv,z⟩:=I.isTup q1;obtain⟨its2,rv2,z2⟩:=I.isTup q2;have hd1:Yn ds+1<=60:=hd;exact(_gB I hl hl2 rv rv2 z z2 (by lia) (Ua I ds ds' (A:=X.A.in1) hl hl2 rv rv2 (by show X.A.units+1+Yn ds<cLine;lia))) _ _ _ _ ⟨.bl _,H,I,rfl,q⟩
 ·obtain⟨a,xs,rfl,q1,hl⟩:=h1;obtain⟨a2,xs2,rfl,q2,hl2⟩:=h2;cases(show v=Value.ref a from rx);cases(show u=Value.ref a2 from ry);obtain⟨its,rv,z⟩:=I.isList q1;obtain⟨its2,rv2,z2⟩:=I.isList q2;have hd1:Yn ds+1<=60:=hd;exact(_f3 I hl hl2 rv rv2 z z2 (by lia) (Ua I ds ds' (A:=X.A.in1) hl hl2 rv rv2 (by show X.A.units+1+Yn ds<cLine;lia))) _ _ _ _ ⟨.bl _,H,I,rfl,q⟩
end
section
variable{U:St}
end
section
variable{w:World}
theorem _kf {elt target iter:Expr} {ifs:C0} {scope:Scope} {it acc:Value} {env:Env} (J:Nat->Shared->Prop)
 (turn:∀n s,J n s->wpAny (model prog w) A (pyNext it) (λr s1=>match r with
 |none=>R (.ok .next) s1
 |some v => wpAny (model prog w) A (letOwnedTupleGo target it v) (λ_ s2 => wpAny (model prog w) A (assign target env v) (λ_ s3 =>
 wpAny (model prog w) A (forIn ifs true λc r=>if r=true then do let ok <-isTrue c env (eval c env);pure (ForInStep.yield ok) else pure (ForInStep.yield r)) (λok s4 =>
 if ok=true then wpAny (model prog w) A (eval elt env) (λx s5=>wpAny (model prog w) A (call (.builtin "list.append") [acc,x]) (λ_ s6=>∃m,m<n/\J m s6) (λ_ _=>False) s5) (λ_ _=>False) s4
 else ∃m,m<n/\J m s4) (λ_ _=>False) s3) (λ_ _=>False) s2) (λ_ _=>False) s1) (λ_ _=>False) s)
 (n:Nat) (h:J n s):codeAny (model prog w) A (.compLoop (.ListComp elt [⟨target,iter,ifs,0⟩] scope pos) 0 it acc env) R s:=by
 refine codeAny_loop rfl J (λn s hJ=>?_) n h;show wpAny _ A ((compTurn (.ListComp elt [⟨target,iter,ifs,0⟩] scope pos) 0 it acc env).onRaise (λx=>do noteFrame x env;theTreesLotGoes x)) _ _ s;refine wpAny_noted ?_;rw[compTurn_list];refine Qc (wpAny_standAt (Qc (Q5 (turn n s hJ) (λr s1 h1=>?_) λ_ _ z=>z.elim)));cases r with
 |none=>exact Qh h1
 |some v =>
  refine Qc (Q5 h1 (λ_ s2 h2=>Qc (Q5 h2 (λ_ s3 h3=>Qc (Q5 h3 (λok s4 h4=>?_) λ_ _ z=>z.elim)) λ_ _ z=>z.elim)) λ_ _ z=>z.elim);cases ok with
  |false=>exact Qh ⟨rfl,h4⟩
  |true=>exact Qc (Qc (Q5 h4 (λx s5 h5=>Qc (Q5 h5 (λ_ s6 h6=>Qh (Qh ⟨rfl,h6⟩)) λ_ _ z=>z.elim)) λ_ _ z=>z.elim))
end
def Uz (X:Cx) (ifs:C0) (t:TT):Prop :=
 ∀(pins:A4) (s:Shared) (U:St) (H:Hp) (Q:Bool->Hp->Prop),Inv X pins U H s->t U H Q →
  wpAny (model X.prog X.w) X.A (forIn ifs true λc r=>if r=true then do let ok <-isTrue c X.env (eval c X.env);pure (ForInStep.yield ok) else pure (ForInStep.yield r)) (TP X pins U Q) X.xe s
def _cz:TT:=λ_ H Q=>Q true H
theorem Ug:Uz X [] _cz:=λ_ _ _ H _ I h=>wpAny_tests_nil ⟨H,I,h⟩
theorem WP {c:Expr} {t:TT} (h:PT X c t):Uz X [c] t:=λpins s U H Q I q=>wpAny_tests_one (h pins s U H Q I q)
noncomputable abbrev Cx.block (X:Cx) (N:A9) (sc:Scope) (cl:List A7) (fp:B5) (s3:Shared) (H3:Hp):Cx :=
 { X with N:=N,s₀:=s3,H₀:=H3,env:=compEnvC sc cl s3.heap.objs.size X.env,outer:=X.stack,ex:=fp,fn:=λ_=>false,pn:=[],xe:=λ_ _=>False }
structure CompSc (X:Cx) (N:A9) (sc:Scope) (cl:List A7) (σc:St->St):Prop where
 kind:sc.kind=.function
 names:∀x∈sc.names,x.2=.local->sc.names.lookup x.1=some .local
 nocell:∀y∈sc.names,y.2≠.cell
 clos:closureFor sc X.env=pure cl
 sub:∀x c,cl.lookup x=some c->X.env.cells.lookup x=some c
 has:∀x,((relabel sc X.env).names.lookup x=some .cell\/(relabel sc X.env).names.lookup x=some .free)->∃c,cl.lookup x=some c
 len:∀U:St,(σc U).length=N.length
 cap:∀(U:St) (i:Nat) (x:Str) (v:V),N[i]?=some x->(σc U)[i]?=some (some v)->((relabel sc X.env).names.lookup x=some .cell\/(relabel sc X.env).names.lookup x=some .free)/\(X.env.scope.names.lookup x=some .cell\/X.env.scope.names.lookup x=some .free)/\∃j:Nat,X.N[j]?=some x/\U[j]?=some (some v)
def JX (J:It) (σ0:St) (g:TG) (tt:TT) (te:TE) (Q:VK) (H1:Hp):Prop:=∀D,H1 D=none →
 ∃W:Nat->Nat->St->List V->Hp->Prop,(∃m,W 0 m σ0 [] (_d H1 D (.lst [])))/\∀i m σ1 ys H2,W i m σ1 ys H2->H2 D=some (.lst ys) /\
  ((J.stop i H2/\Q (.ref D) H2)\/(J.go i H2/\∃N:St->List V->Hp->Prop,(∀σ2 ys2 H3,N σ2 ys2 H3->∃m',m'<m/\W (i+1) m' σ2 ys2 H3) /\
   ∀x H3,J.yld i H2 x H3->g x σ1 H3 λσ2 H4=>tt σ2 H4 λc H5=>if c=true then te σ2 H5 λy H6=>H6 D=some (.lst ys)/\ys.length<sizeLine/\N σ2 (ys++[y]) (_d H6 D (.lst (ys++[y]))) else N σ2 ys H5))
def _fk (wi:TI) (σc:St->St) (g:TG) (tt:TT) (te:TE):TE:=λU H Q=>wi U H λJ H1=>JX J (σc U) g tt te Q H1
section
variable{U:St} {cl:List A7} {σc:St->St}
theorem Inv.block (I:Inv X pins U H s) (S:CompSc X N sc cl σc) (hf:∀b∈fp,XM X pins H b) (hlt:∀b∈fp,b<s.heap.objs.size) (k:∀b u,s.heap.get? b=some u->h'.get? b=some u) (hn:h'.Ns s.heap.objs.size λ_=>none) :
  Inv (X.block N sc cl fp s H) [] (σc U) H { s with heap:=h',toks:=t' }:=by
 have kin:∀x,(X.block N sc cl fp s H).env.kindOf x=(relabel sc X.env).names.lookup x:=λ_=>rfl
 refine⟨⟨I.ok.mod,S.kind,I.ok.glob,I.ok.blt,Qg _,λx y c h1 h2=>I.ok.inj x y c (S.sub x c h1) (S.sub y c h2),λx hx=>S.has x hx,λx c z _=>(nomatch z),I.ok.hd,I.ok.frames,.inl rfl,λb hb=>⟨QA (hlt b hb),λx c e=>(hf b hb).2.2.2.2.1 x c (S.sub x c e)⟩,
  I.bs,Qs I.ok.bsz I.sz,λb o e hb=>?_,λb hb z=>?_,I.stack,I.stkFree⟩,
  rfl,I.bare,Un.kept k,⟨_,hn,λi x v e1 e2 e3=>?_⟩,λx c e=>?_,I.hok.fresh (Qg _),λx c e=>I.freeC x c (S.sub x c e),λp hp=>absurd (show p∈([]:A4) from hp) (by simp),I.hok.kept k,S.len U⟩
 ·rcases(hf b hb).2.2.2.1 with z|z
  ·exact I.ok.noex b o e z
  ·exact absurd (QJ (Qo e) (Qs I.ok.bsz z)) (Rx _)
 ·rcases Qk.mp (I.stkSub b z) with y|y
  ·exact(hf b hb).2.1 y
  ·exact(hf b hb).2.2.1 y
 ·obtain⟨hk,hko,j,hj,hσ⟩:=S.cap U i x v e1 e2;obtain⟨m,hm,hl⟩:=I.loc;obtain⟨u,r,l⟩:=hl j x v hj hσ (by rcases hko with z|z;exact .inr (.inl z);exact .inr (.inr z));refine⟨u,r,.inr ⟨hk,?_⟩⟩;rcases l with⟨q,_⟩|⟨_,c,hc,q⟩
  ·have q':X.env.scope.names.lookup x=some .local:=q;rcases hko with z|z<;>(rw[z] at q';cases q')
  ·obtain⟨c',hc'⟩:=S.has x hk;have e:=S.sub x c' hc';rw[hc] at e;cases e;exact⟨c,hc',q.keeps k⟩
 ·obtain⟨v,q⟩:=I.cell x c (S.sub x c e);exact⟨v,q.keeps k⟩
end
section
variable{elt iter:Expr} {ifs:C0} {cl:List A7} {σc:St->St} {wi:TI} {g:TG} {tt:TT}
structure Gone (X:Cx) (pins:A4) (H:Hp) (C:Addr):Prop where
 free:H C=none
 loc:C≠X.env.locals
 new:X.s₀.heap.objs.size<=C
 cell:∀x c,X.env.cells.lookup x=some c->c≠C
 pin:∀p∈X.pn++pins,p.1≠C
theorem Inv.gone {U:St} (I:Inv X pins U H s) (G:Gone X pins H C) (sb:Heap.SameBut C s.heap h'):Inv X pins U H { s with heap:=h' } :=
 I.turned (t':=s.toks) (it:=C) (λb o n q=>(sb.2 b n).trans q) G.free G.loc (.inr G.new) G.cell G.pin
theorem _f2 {s2:Shared} {U:St} {H2:Hp} {Q:VK} {RR:Value->Addr->Result->Shared->Prop} {tn:Nat->Heap->Prop} 
 (hc:X.calm=true) (S:CompSc X N sc cl σc) (hg:∀fp s3 H3,PG (X.block N sc cl fp s3 H3) tg g) (ht:∀fp s3 H3,Uz (X.block N sc cl fp s3 H3) ifs tt) (he:∀fp s3 H3,PE (X.block N sc cl fp s3 H3) elt te)
 (I2:Inv X pins U H2 s2) (T:Turn X.prog X.w X.K tg J fp it tn) (st2:tn 0 s2.heap) (f2:∀b∈fp,XM X pins H2 b)
 (h2:∀D,H2 D=none->∃W:Nat->Nat->St->List V->Hp->Prop,(∃m,W 0 m (σc U) [] (_d H2 D (.lst [])))/\∀i m σ1 ys H2,W i m σ1 ys H2->H2 D=some (.lst ys) /\
 ((J.stop i H2/\Q (.ref D) H2)\/(J.go i H2/\∃N:St->List V->Hp->Prop,(∀σ2 ys2 H3,N σ2 ys2 H3->∃m',m'<m/\W (i+1) m' σ2 ys2 H3) /\
 ∀x H3,J.yld i H2 x H3->g x σ1 H3 λσ2 H4=>tt σ2 H4 λc H5=>if c=true then te σ2 H5 λy H6=>H6 D=some (.lst ys)/\ys.length<sizeLine/\N σ2 (ys++[y]) (_d H6 D (.lst (ys++[y]))) else N σ2 ys H5)))
 (hRR:∀D C m s7 H7,Inv X pins U H7 s7->s7.heap.Ns C m->Gone X pins H7 C->Q (.ref D) H7->RR (.ref D) C (.ok .next) s7) :
  wpAny (model X.prog X.w) X.A (newList []) (λacc s₃=>wpAny (model X.prog X.w) X.A (newFunctionEnv sc X.env.globals cl [] X.env.qual none .none (some X.env)) (λcenv s₄ =>
   codeAny (model X.prog X.w) X.A (.compStart (.ListComp elt [⟨tg,iter,ifs,0⟩] sc pos) 0 (.ref it) acc { cenv with scope:=relabel sc X.env }) (RR acc cenv.locals) s₄) E s₃) E s2:=by
 refine Rv ?_;have hD:H2 s2.heap.objs.size=none:=I2.hok.fresh (Qg _)
 have I3:Inv X pins U (_d H2 s2.heap.objs.size (.lst [])) { s2 with heap:=s2.heap.push { cls:=.type "list",dict:=none,data:=.seq ([]:B1).toArray } } :=
  I2.laid (t':=s2.toks) (λb u q=>Qr _ q) (Qg _) ⟨by decide,[],0,.nil,Qw _ rfl⟩
 have flt:∀b∈fp,b<s2.heap.objs.size:=λb hb=>by
  obtain⟨o,e,_⟩:=T.obj _ _ st2 b hb;exact Qo e
 obtain⟨W,⟨m0,w0⟩,turn⟩:=h2 s2.heap.objs.size hD;have f3:∀b∈fp,XM X pins (_d H2 s2.heap.objs.size (.lst [])) b:=λb hb=>⟨by rw[_l (QA (flt b hb))];exact(f2 b hb).1,(f2 b hb).2⟩;have st3:tn 0 (s2.heap.push { cls:=.type "list",dict:=none,data:=.seq ([]:B1).toArray }):=T.keep _ _ _ st2 λb _ o q=>Qr _ q;have sz3:s2.heap.objs.size<=(s2.heap.push { cls:=.type "list",dict:=none,data:=.seq ([]:B1).toArray }).objs.size:=by rw[Rt];exact QV _
 generalize s2.heap.push { cls:=.type "list",dict:=none,data:=.seq ([]:B1).toArray }=h3 at *;generalize s2.heap.objs.size=D at *;refine wpAny_newFunctionEnv S.nocell (by intro y hy;simp at hy) (λh4 hn4 hb4=>?_) S.kind;dsimp only at hn4 hb4 ⊢;have k4:∀b u,h3.get? b=some u->h4.get? b=some u:=λb u q=>(hb4.2 b (QA (Qo q))).trans (Qr _ q)
 have I4:Inv (X.block N sc cl fp { s2 with heap:=h3 } (_d H2 D (.lst []))) [] (σc U) (_d H2 D (.lst [])) { s2 with heap:=h4,toks:=s2.toks+0 } :=
  I3.block S f3 (λb hb=>QJ (flt b hb) sz3) k4 hn4
 have st4:tn 0 h4:=T.keep _ _ _ st3 λb _ o q=>k4 b o q
 have fb:∀{H':Hp},(∀b∈fp,H' b=none)->∀b∈fp,XM (X.block N sc cl fp { s2 with heap:=h3 } (_d H2 D (.lst []))) [] H' b:=λhn b hb =>
  ⟨hn b hb,(I4.ok.exf b hb).1,I4.ok.exfs b hb,.inl hb,(I4.ok.exf b hb).2,λp hp=>absurd (show p∈([]:A4) from hp) (by simp)⟩
 have fin:∀{σ':St} {H':Hp} {s':Shared} {h':Heap},Inv (X.block N sc cl fp { s2 with heap:=h3 } (_d H2 D (.lst []))) [] σ' H' s'->Heap.SameBut h3.objs.size s'.heap h'->Inv X pins U H' { s' with heap:=h' }:=λ{σ' H' s' h'} J' sb=>by
  have lt3:∀b o,h3.get? b=some o->b≠h3.objs.size:=λb o q=>QA (Qo q);have lo:H' h3.objs.size=none:=J'.free
  have hk:HOk X.prog X.w H' h':=λb u e=>(J'.hok b u e).stay (λc v hcc q=>(sb.2 c (by
   rintro rfl;rcases hcc with z|z
   ·subst z;rw[lo] at e;cases e
   ·rw[lo] at z;cases z)).trans q) (λ_ q=>q) λ_ _ q=>q
  refine I3.call' (s':={ s' with heap:=h' }) (ch:=fp) J'.os ⟨λb o q n hb hx=>(sb.2 b (lt3 b o q)).trans (J'.base.keep b o q n hb hx),λb o q n hb hx=>?_,λb o q n hx=>J'.base.free b o q n hx,λb o q hx=>?_,J'.base.tups,J'.base.frzs,J'.base.tbls⟩ hk J'.bare λb hb=>?_
  ·obtain⟨sl,q1⟩:=J'.base.slot b o q n hb hx;exact⟨sl,(sb.2 b (lt3 b o q)).trans q1⟩
  ·obtain⟨o1,q1⟩:=J'.base.there b o q hx;exact⟨o1,(sb.2 b (lt3 b o q)).trans q1⟩
  ·exact⟨(f3 b hb).2.2.2.1,(f3 b hb).2.1,(f3 b hb).2.2.2.2.1,(f3 b hb).2.2.2.2.2⟩
 have loop : ∀s5 : Shared, Inv (X.block N sc cl fp { s2 with heap := h3 } (_d H2 D (.lst []))) [] (σc U) (_d H2 D (.lst [])) s5 → tn 0 s5.heap →
   codeAny (model X.prog X.w) X.A (.compLoop (.ListComp elt [⟨tg,iter,ifs,0⟩] sc pos) 0 (.ref it) (.ref D) (compEnvC sc cl h3.objs.size X.env)) (RR (.ref D) h3.objs.size) s5:=λs5 I5 st5=>by
  refine _kf (λn s'=>∃i σ' ys H',Inv (X.block N sc cl fp { s2 with heap:=h3 } (_d H2 D (.lst []))) [] σ' H' s'/\tn i s'.heap/\(∀b∈fp,H' b=none)/\W i n σ' ys H') ?_ m0 ⟨0,_,[],_,I5,st5,λb hb=>(f3 b hb).1,w0⟩;rintro n s6 ⟨i,σ6,ys,H6,I6,st6,fr6,w6⟩;obtain⟨hDy,step⟩:=turn i n σ6 ys H6 w6;rcases step with⟨stop,q6⟩|⟨go,Nx,hN,step⟩
  ·refine _w (T.done (X.block N sc cl fp { s2 with heap:=h3 } (_d H2 D (.lst []))) rfl rfl rfl hc i [] s6 σ6 H6 (λ_ _=>False) I6 (fb fr6) st6 stop) λr s7 zq=>?_;obtain⟨hr,I7⟩:=zq;subst hr;obtain⟨m7,hm7,_⟩:=I7.loc;refine hRR D h3.objs.size m7 s7 H6 (fin I7 ⟨rfl,λ_ _=>rfl⟩) hm7 ⟨I7.free,Gh I3.lt,I3.sz,λx c e=>?_,λp hp=>?_⟩ q6
   ·obtain⟨v,z⟩:=I3.cell x c e;exact QA z.lt
   ·exact QA (Qo (I3.pin p hp).1)
  ·refine _w (T.item (X.block N sc cl fp { s2 with heap:=h3 } (_d H2 D (.lst []))) rfl rfl rfl hc i [] s6 σ6 H6 (λ_ _=>False) I6 (fb fr6) st6 go) λr s7 zq=>?_;obtain⟨u,hr,h7⟩:=zq;subst hr;refine _w h7 λ_ s8 zq=>?_;obtain⟨x,H8,I8,r8,y8,st8,fr8⟩:=zq;have I8':=I8.pinned (fb fr8) (T.obj _ _ st8);refine _w (hg _ _ _ _ s8 σ6 H8 x u _ I8' r8 (step x H8 y8)) λ_ s9 zq=>?_;obtain⟨σ9,H9,I9,q9⟩:=zq;refine _w (ht _ _ _ _ s9 σ9 H9 _ I9 q9) λc sA zq=>?_;obtain⟨HA,IA,qA⟩:=zq
   have again : ∀{σB : St} {HB : Hp} {sB : Shared} {zs : List V}, Inv (X.block N sc cl fp { s2 with heap := h3 } (_d H2 D (.lst []))) ([] ++ UX fp s8.heap) σB HB sB → Nx σB zs HB →
     ∃m,m<n/\∃i σ' ys H',Inv (X.block N sc cl fp { s2 with heap:=h3 } (_d H2 D (.lst []))) [] σ' H' sB/\tn i sB.heap/\(∀b∈fp,H' b=none)/\W i m σ' ys H':=λ{σB HB sB zs} IB nB=>by
    obtain⟨m',hm,wB⟩:=hN σB zs HB nB;refine⟨m',hm,i+1,σB,zs,HB,IB.unpinned,T.keep _ _ _ st8 λb hb o e=>(IB.pin (b,o) (QZ _ (QZ _ (_aj hb e)))).1,λb hb=>?_,wB⟩;obtain⟨o,e,d⟩:=T.obj _ _ st8 b hb;exact(IB.pin (b,o) (QZ _ (QZ _ (_aj hb e)))).2.1
   cases c with
   |false=>exact again IA qA
   |true =>
    refine _w (he _ _ _ _ sA σ9 HA _ IA qA) λy sB zq=>?_;obtain⟨yv,HB,IB,rB,dB,lB,qB⟩:=zq;refine _w (VA (X:=X.block N sc cl fp { s2 with heap:=h3 } (_d H2 D (.lst []))) _ sB σ9 HB (.ref D) [yv] (.ref D) [y] (λv H'=>v=.non/\Nx σ9 (ys++[yv]) H') IB rfl (.cons rB .nil) ⟨D,ys,yv,rfl,rfl,dB,lB,rfl,qB⟩) λ_ sC zq=>?_;obtain⟨_,HC,IC,_,_,qC⟩:=zq;exact again IC qC
 refine codeAny_compStart_list (loop _ I4 st4) ?_;exact T.self _ 0 _ _ _ st4 (loop _ I4 st4)
theorem X9 (hc:X.calm=true) (S:CompSc X N sc cl σc) (hi:PI X tg iter wi) (hg:∀fp s3 H3,PG (X.block N sc cl fp s3 H3) tg g) (ht:∀fp s3 H3,Uz (X.block N sc cl fp s3 H3) ifs tt) (he:∀fp s3 H3,PE (X.block N sc cl fp s3 H3) elt te)
 (hs:∀x,foldedSetIterable iter X.env x=pure x:=by intro _;rfl):PE X (.ListComp elt [⟨tg,iter,ifs,0⟩] sc pos) (_fk wi σc g tt te):=by
 intro pins s U H Q I h;rw[eval_ListComp];refine wpAny_comprehension_free rfl hs S.clos S.kind S.names (_w (hi pins s U H _ I h) λv s1 h1=>_w h1 λitv s2 h2=>?_);obtain⟨it,fp,tn,J,H2,e,I2,T,st2,f2,h2⟩:=h2;subst e;exact _f2 (Q:=Q) hc S hg ht he I2 T st2 f2 h2 λD C m s7 H7 I7 n7 G q=>⟨m,n7,λh' sb=>⟨.ref D,H7,I7.gone G sb,rfl,q⟩⟩
theorem _ag {pos' spos:Pos} (hc:X.calm=true) (hN:X.N.Nodup) (hi':X.N[i]?=some x) (hx:Vo X.env.scope x) (S:CompSc X N sc cl σc) (hi:PI X tg iter wi)
 (hg:∀fp s3 H3,PG (X.block N sc cl fp s3 H3) tg g) (ht:∀fp s3 H3,Uz (X.block N sc cl fp s3 H3) ifs tt) (he:∀fp s3 H3,PE (X.block N sc cl fp s3 H3) elt te)
 (hs:∀x,foldedSetIterable iter X.env x=pure x:=by intro _;rfl) (hsw:swapsWith (.ListComp elt [⟨tg,iter,ifs,0⟩] sc pos) (some (.Name x pos')) spos.line X.env=pure true:=by rfl)
 (hf:X.fn x=true\/X.env.scope.names.lookup x=some .local:=by first|exact .inl rfl|exact .inr rfl|assumption) :
  PS X (.Assign [.Name x pos'] (.ListComp elt [⟨tg,iter,ifs,0⟩] sc pos) spos) (_aF (_fk wi σc g tt te) (W9 i)):=by
 intro pins s U H D I h;rw[exec_Assign_Name_used _ _ _ _ hsw];refine Qc (wpAny_standAt (Qc ?_));show wpAny _ _ (comprehension (.ListComp elt [⟨tg,iter,ifs,0⟩] sc pos) sc X.env (firstIterPos [⟨tg,iter,ifs,0⟩] pos) (newList []) (firstAsync [⟨tg,iter,ifs,0⟩]) (firstIter [⟨tg,iter,ifs,0⟩] X.env) (some (assign (.Name x pos') X.env)) >>= λ_=>pure ()) _ _ s;refine Qc (Q5 (Q:=λ_ s'=>SP X pins D .next s') ?_ (λ_ s' q=>Qh (Qh q)) λ_ _ z=>z);refine wpAny_comprehension_free rfl hs S.clos S.kind S.names (_w (hi pins s U H _ I h) λv s1 h1=>_w h1 λitv s2 h2=>?_);obtain⟨it,fp,tn,J,H2,e,I2,T,st2,f2,h2⟩:=h2;subst e;refine _f2 (Q:=λv H'=>D.nx (U.set i (some v)) H') hc S hg ht he I2 T st2 f2 h2 λd C m s7 H7 I7 n7 G q=>?_;show wpAny _ _ (assign (.Name x pos') X.env (.ref d)) _ _ s7;refine wpAny_assign_Name (_fs (v:=.ref d) I7 hN hi' hx rfl (λs8 I8 ch=>?_) hf);obtain⟨a,sb,ha⟩:=ch
 have aC:C≠a:=by
  rcases ha with z|z
  ·rw[z];exact G.loc
  ·exact(G.cell x a z).symm
 exact⟨m,n7.sameBut sb aC,λh' sb'=>⟨_,H7,I8.gone G sb',q⟩⟩
end
noncomputable def Jg (n:Nat) (V1:Nat->V->Prop):It:=⟨λi _=>i<n,λi H x H'=>H'=H/\V1 i x,λi _=>i=n⟩
theorem _dU {w:World} {K:PySem.W.Frag} {Pv:Nat->Value->Prop} {V1:Nat->V->Prop} {st:Nat->Heap->Prop}
 (W:∀A:Around,A.handled=none->Walks P w A it [it] [it] n Pv st) (ob:∀i h,st i h->∃o,h.get? it=some o/\∀v,o.data≠.cell v) (val:∀i v,Pv i v->∃x,RelV x v/\V1 i x)
 (own:∀i v s (M:Model) (A:Around) (E:Value->Shared->Prop) (Q:Unit->Shared->Prop),Pv i v->Q () s->wpAny M A (letOwnedTupleGo tg (.ref it) v) Q E s)
 (self:∀(A:Around) (i:Nat) (s:Shared) (Q:Value->Shared->Prop) (E:Value->Shared->Prop),st i s.heap->Q (.ref it) s->wpAny (model P w) A (pyIter (.ref it)) Q E s):Turn P w K tg (Jg n V1) [it] it st where
 mem:=by simp
 obj:=λi h hs b hb=>by
  have e:b=it:=by simpa using hb
  subst e;exact ob i h hs
 keep:=λi h h' hs k=>(W {} rfl).frame i h h' hs k
 item:=λX hP hw hK hc i pins s U H E I hf hs go=>by
  subst hP hw hK;refine(W X.A (I.ok.hd hc)).item i s _ E go hs λv h' tk pv hs' k=>⟨v,rfl,?_⟩;obtain⟨x,rx,vx⟩:=val i v pv;obtain⟨f0,f1,_,f3,f4,f5⟩:=hf it (by simp);have I':Inv X pins U H { s with heap:=h',toks:=tk }:=I.turned (it:=it) (λb o n q=>k b o (by simpa using n) q) f0 f1 f3 f4 f5;refine own i v _ _ _ _ _ pv ⟨x,H,I',rx,⟨rfl,vx⟩,hs',λb hb=>?_⟩;have e:b=it:=by simpa using hb
  subst e;exact f0
 done:=λX hP hw hK hc i pins s U H E I hf hs stop=>by
  subst hP hw hK;have e:i=n:=stop;subst e;obtain⟨f0,f1,_,f3,f4,f5⟩:=hf it (by simp);exact(W X.A (I.ok.hd hc)).done s _ E hs λh' tk k=>⟨rfl,I.turned (it:=it) (λb o n q=>k b o (by simpa using n) q) f0 f1 f3 f4 f5⟩
 self:=self
def _kL (te:TE):TI:=λU H R=>te U H λx H1=>∃z,x=.str z/\R (Jg z.cps.size λi y=>∃c,z.cps[i]?=some c/\y=.str ⟨#[c]⟩) H1
theorem _dK {z:Str} {t:Tok} {Q:Unit->Shared->Prop} (q:Q () s):wpAny M A (letOwnedTupleGo tg (.ref it) (.str z t)) Q E s:=by
 unfold letOwnedTupleGo;cases tg<;>exact Qh q
theorem _dc {e:Expr} (he:PE X e te):PI X tg e (_kL te):=by
 intro pins s U H R I h;refine _w (he pins s U H _ I h) λv s1 zq=>?_;obtain⟨x,H1,I1,r1,z,e1,q⟩:=zq;subst e1;obtain⟨t,rfl⟩:=r1;have fr:H1 s1.heap.objs.size=none:=I1.hok.fresh (Qg _);by_cases low:z.cps.all (·<128)=true
 ·refine wpAny_pyIter_ascii low ⟨s1.heap.objs.size,[s1.heap.objs.size],λi h=>h.IsStrIter s1.heap.objs.size "str_ascii_iterator" z t i,_,H1,rfl,I1.kept (t':=s1.toks) λb u q=>Qr _ q,
   _dU (λA hA=>Walks.strAscii hA _ z t) (λi h ⟨o,ho,_,hd⟩=>⟨o,ho,λv q=>by rw[hd] at q;cases q⟩) (λi v ⟨c,u,hc,hv⟩=>⟨.str ⟨#[c]⟩,⟨u,hv⟩,c,hc,rfl⟩) (λi v s M A E Q zq hq=>by obtain⟨c,u,_,hv⟩:=zq;rw[hv];exact _dK hq) λA i s Q E hs hq=>wpAny_pyIter_striter_ascii hs hq,
   ⟨_,Qw _ rfl,rfl,rfl⟩,λb hb=>?_,q⟩
  have e:b=s1.heap.objs.size:=by simpa using hb
  subst e;exact I1.fpOk (Qg _) fr
 ·refine wpAny_pyIter_wide (RA.mpr low) ⟨s1.heap.objs.size,[s1.heap.objs.size],λi h=>h.IsStrIter s1.heap.objs.size "str_iterator" z t i,_,H1,rfl,I1.kept (t':=s1.toks) λb u q=>Qr _ q,
   _dU (λA hA=>Walks.strWide hA _ z t) (λi h ⟨o,ho,_,hd⟩=>⟨o,ho,λv q=>by rw[hd] at q;cases q⟩) (λi v ⟨c,u,hc,hv⟩=>⟨.str ⟨#[c]⟩,⟨u,hv⟩,c,hc,rfl⟩) (λi v s M A E Q zq hq=>by obtain⟨c,u,_,hv⟩:=zq;rw[hv];exact _dK hq) λA i s Q E hs hq=>wpAny_pyIter_striter_wide hs hq,
   ⟨_,Qw _ rfl,rfl,rfl⟩,λb hb=>?_,q⟩
  have e:b=s1.heap.objs.size:=by simpa using hb
  subst e;exact I1.fpOk (Qg _) fr
section
variable{w:World}
theorem _a0 (hh:A.handled=none) (it t:Addr) (hne:t≠it) (us:B6) :
  Draws prog w A it [it,t] us.size (λi v=>us[i]?=some v) (λi h=>h.IsTupleIter it t i/\h.IsTuple t us) where
 live:=λ_ _ ⟨⟨o,e,_⟩,_⟩=>⟨o,e⟩
 frame:=λ_ _ _ ⟨⟨o,e,r⟩,⟨o',e',r'⟩⟩ k=>⟨⟨o,k it (by simp) o e,r⟩,⟨o',k t (by simp) o' e',r'⟩⟩
 item:=by
  intro i s Q E hi ⟨st,ht⟩ hQ;have e:us[i]?=some us[i]:=by simp[hi]
  obtain⟨o,ho,c,d⟩:=id st;obtain⟨ot,hot,_,n,dt⟩:=id ht;unfold Builtin.SmallTypes.nextOf;refine Qc (RD (name:=Str.ofString "__next__") st.typeIs Nt (Rp Nt st.typeIs F.entry_tuple_iterator_next ?_ (F.args_tuple_iterator_next_1 _)));unfold Builtin.«tuple_iterator.__next__»;refine Qc (m:=field (.ref it) 0) (Q7 ho d (x:=.ref t) rfl ?_);rw[Qa (show ¬((Value.ref t==Value.none)=true) from QD)];refine Qc (m:=field (.ref it) 1) (Q7 ho d (x:=.int i 0) rfl (Qc (m:=seqItems? (.ref t)) (R7 hot dt ?_)));simp only[GJ,e];have sb:=R8 s.heap it (Obj.mapFields (·.setIfInBounds 1 (rawInt (i+1))));exact Qc (Nu ho d (by simp) (Qh ⟨_,rfl,Qh (hQ _ _ s.toks e ⟨⟨_,NX _ ho (Obj.isFreed_of_fields (Nv d _)),(Obj.cls_mapFields ..).trans c,by rw[Nv d];simp[rawInt]⟩,ht.extBut sb.extBut hne⟩ sb)⟩))
 done:=by
  intro s Q E ⟨st,ht⟩ hE;have e:us[us.size]?=none:=by simp
  obtain⟨o,ho,c,d⟩:=id st;obtain⟨ot,hot,_,n,dt⟩:=id ht;unfold Builtin.SmallTypes.nextOf;refine Qc (RD (name:=Str.ofString "__next__") st.typeIs Nt (Rp Nt st.typeIs F.entry_tuple_iterator_next ?_ (F.args_tuple_iterator_next_1 _)));unfold Builtin.«tuple_iterator.__next__»;refine Qc (m:=field (.ref it) 0) (Q7 ho d (x:=.ref t) rfl ?_);rw[Qa (show ¬((Value.ref t==Value.none)=true) from QD)];refine Qc (m:=field (.ref it) 1) (Q7 ho d (x:=.int us.size 0) rfl (Qc (m:=seqItems? (.ref t)) (R7 hot dt ?_)));simp only[GJ,e];refine Qc (Rk (Qc (Nu ho d (by simp) ?_)));refine Qc (m:=newExc (.type "StopIteration") []) ?_;simp only[newExc,newTuple];refine Qc (Rv (Qc (m:=firstArgMember _ _) (wpAny_of_eq (a:=Value.none) (by first|rfl|(simp only[firstArgMember];rfl)) (Rv ?_ (by size_fits)))) (by size_fits));simp only[raiseNew];refine Qc (wpAny_handled ?_)
  first|rw[show A.in1.handled=none from hh]|rw[hh]
  exact Qc (Qh (wpAny_throw (hE _ _ (((R8 ..).extBut.push _).push _) ⟨_,Qw _ rfl,rfl⟩)))
end
structure _Ap (z TI TO i1 i2:Addr) (f1 f2:B5):Prop where
 TIz:TI≠z
 TOz:TO≠z
 i1z:i1≠z
 i2z:i2≠z
 TITO:TI≠TO
 TIi1:TI≠i1
 TIi2:TI≠i2
 TOi1:TO≠i1
 TOi2:TO≠i2
 i12:i1≠i2
 z1:z∉f1
 z2:z∉f2
 o1:TO∉f1
 o2:TO∉f2
 b1:i2∉f1
 b2:i1∉f2
section
variable{w:World} {z TI TO i1 i2:Addr} {f1 f2:B5} {n1 n2 k1 k2:Nat} {P1 P2:Nat->Value->Prop} {S1 S2:Nat->Heap->Prop} {a b:Value}
theorem Draws.but {c:Addr} {P:Nat->Value->Prop} {St:Nat->Heap->Prop} (D:Draws prog w A it fp n P St) (st:St i h) (e:Heap.ExtBut c h h') (hc:c∉fp):St i h' :=
 D.frame _ _ _ st λb hb o q=>e b o (λx=>hc (x▸hb)) q
theorem _l0 (Z:_Ap z TI TO i1 i2 f1 f2) (D1:Draws prog w A i1 f1 n1 P1 S1) (D2:Draws prog w A i2 f2 n2 P2 S2) (hz:IsZip s.heap z TI TO .none) (hTI:IsPair s.heap TI (.ref i1) (.ref i2)) (hTO:IsPair s.heap TO a b)
 (g1:S1 k1 s.heap) (g2:S2 k2 s.heap) (l1:k1<n1) (l2:k2<n2)
 (hQ:∀x y h' tk,P1 k1 x->P2 k2 y->IsZip h' z TI TO (rawInt s.heap.objs.size)->IsPair h' TO x y->S1 (k1+1) h'->S2 (k2+1) h'->IsPair h' s.heap.objs.size x y →
 (∀c o,c≠z->c≠TO->c≠i1->c≠i2->s.heap.get? c=some o->h'.get? c=some o)->Q (.ref s.heap.objs.size) { s with heap:=h',toks:=tk }) :
  wpAny (model prog w) A (Builtin.«zip.__next__» ⟨[.ref z],[]⟩) (λfin s'=>∃v,fin=.done (.ret v)/\Q v s') E s:=by
 unfold Builtin.«zip.__next__»;refine Qc (m:=field (.ref z) 2) (Q7 hz rfl (x:=.bool false) rfl ?_);refine Qc (m:=field (.ref z) 3) (Q7 hz rfl (x:=.ref TI) rfl (Qc (R7 hTI rfl ?_)));refine Qc (m:=Builtin.SmallTypes.ownedTupleIsFree (.ref z)) ?_;unfold Builtin.SmallTypes.ownedTupleIsFree;refine Qc (Q7 hz rfl (x:=.none) rfl (Qh ?_));simp only[RQ];refine Qc (Rk (Qc (Q7 hz rfl (x:=.ref TO) rfl (Qc (GR hz (by simp) λhA zA sA=>Qc ?_)))));replace zA:IsZip hA z TI TO .ellipsis:=zA;simp only[NY,List.zipIdx_nil,List.forIn_cons,List.forIn_nil];refine Qc (Qc (wpAny_onRaise (Qc (m:=Builtin.SmallTypes.nextOf (.ref i1)) (D1.item k1 _ _ _ l1 (Draws.but D1 g1 sA.extBut Z.z1) λx hB tB px gB sB=>Qh ?_))));have oB:IsPair hB TO a b:=sB.extBut _ _ Z.TOi1 (sA.extBut _ _ Z.TOz hTO);refine Qc (R7 oB rfl (Qc (wpAny_updateSeq_pair oB λhC oC sC=>Qc (wpAny_letGo (Qh ?_)))));replace oC:IsPair hC TO x b:=oC;refine Qc (Qc (wpAny_onRaise (Qc (m:=Builtin.SmallTypes.nextOf (.ref i2)) (D2.item k2 _ _ _ l2 (Draws.but D2 (Draws.but D2 (Draws.but D2 g2 sA.extBut Z.z2) sB.extBut Z.b2) sC.extBut Z.o2) λy hD tD py gD sD=>Qh ?_))));have oD:IsPair hD TO x b:=sD.extBut _ _ Z.TOi2 oC;refine Qc (R7 oD rfl (Qc (wpAny_updateSeq_pair oD λhE oE sE=>Qc (wpAny_letGo (Qh (Qh ?_))))));replace oE:IsPair hE TO x y:=oE;have zE:IsZip hE z TI TO .ellipsis:=sE.extBut _ _ Z.TOz.symm (sD.extBut _ _ Z.i2z.symm (sC.extBut _ _ Z.TOz.symm (sB.extBut _ _ Z.i1z.symm zA)));have sz:hE.objs.size=s.heap.objs.size:=by rw[sE.1,sD.1,sC.1,sB.1,sA.1]
 have kE:∀c o,c≠z->c≠TO->c≠i1->c≠i2->s.heap.get? c=some o->hE.get? c=some o:=λc o c1 c2 c3 c4 e=>sE.extBut _ _ c2 (sD.extBut _ _ c4 (sC.extBut _ _ c2 (sB.extBut _ _ c3 (sA.extBut _ _ c1 e))));have d1:S1 (k1+1) hE:=Draws.but D1 (Draws.but D1 (Draws.but D1 gB sC.extBut Z.o1) sD.extBut Z.b1) sE.extBut Z.o1;have d2:S2 (k2+1) hE:=Draws.but D2 gD sE.extBut Z.o2;refine Qc (R7 oE rfl (Qc (wpAny_newTuple ?_)));refine Qc (m:=Builtin.SmallTypes.ownedTupleHandOut (.ref z) (.ref hE.objs.size)) ?_;unfold Builtin.SmallTypes.ownedTupleHandOut;have zF:IsZip (hE.push { cls:=.type "tuple",data:=.seq #[x,y] }) z TI TO .ellipsis:=Qr _ zE;refine Qc (GR zF (by simp) λhG zG sG=>?_);replace zG:IsZip hG z TI TO (rawInt hE.objs.size):=zG;refine GR zG (by simp) λhI zI sI=>Qh ⟨_,rfl,?_⟩;replace zI:IsZip hI z TI TO (rawInt hE.objs.size):=zI;have up:∀c o,c≠z->hE.get? c=some o->hI.get? c=some o:=λc o c1 e=>sI.extBut _ _ c1 (sG.extBut _ _ c1 (Qr _ e));have zl:hE.objs.size≠z:=Gh (Qo zE);have tI:IsPair hI hE.objs.size x y:=sI.extBut _ _ zl (sG.extBut _ _ zl (Qw _ rfl));show Q (.ref hE.objs.size) _;rw[sz] at zI tI ⊢;exact hQ x y hI tD px py zI (up _ _ Z.TOz oE) (D1.frame _ _ _ d1 λc hc o e=>up c o (λq=>Z.z1 (q▸hc)) e) (D2.frame _ _ _ d2 λc hc o e=>up c o (λq=>Z.z2 (q▸hc)) e) tI λc o c1 c2 c3 c4 e=>up c o c1 (kE c o c1 c2 c3 c4 e)
theorem _nM {Q:Fin->Shared->Prop} (Z:_Ap z TI TO i1 i2 f1 f2) (D1:Draws prog w A i1 f1 n1 P1 S1) (hz:IsZip s.heap z TI TO .none) (hTI:IsPair s.heap TI (.ref i1) (.ref i2))
 (g1:S1 n1 s.heap)
 (hE:∀h' e,(∀c o,c≠z->c≠TO->c≠i1->c≠i2->s.heap.get? c=some o->h'.get? c=some o)->(∃o,h'.get? e=some o/\o.cls=.type "StopIteration")->E (.ref e) { s with heap:=h' }) :
  wpAny (model prog w) A (Builtin.«zip.__next__» ⟨[.ref z],[]⟩) Q E s:=by
 unfold Builtin.«zip.__next__»;refine Qc (m:=field (.ref z) 2) (Q7 hz rfl (x:=.bool false) rfl ?_);refine Qc (m:=field (.ref z) 3) (Q7 hz rfl (x:=.ref TI) rfl (Qc (R7 hTI rfl ?_)));refine Qc (m:=Builtin.SmallTypes.ownedTupleIsFree (.ref z)) ?_;unfold Builtin.SmallTypes.ownedTupleIsFree;refine Qc (Q7 hz rfl (x:=.none) rfl (Qh ?_));simp only[RQ];refine Qc (Rk (Qc (Q7 hz rfl (x:=.ref TO) rfl (Qc (GR hz (by simp) λhA zA sA=>Qc ?_)))));replace zA:IsZip hA z TI TO .ellipsis:=zA;simp only[NY,List.zipIdx_nil,List.forIn_cons,List.forIn_nil];refine Qc (Qc (wpAny_onRaise (Qc (m:=Builtin.SmallTypes.nextOf (.ref i1)) (D1.done _ _ _ (Draws.but D1 g1 sA.extBut Z.z1) λhB e sB he=>?_))));obtain⟨o,ho,c⟩:=he;have zB:IsZip hB z TI TO .ellipsis:=sB _ _ Z.i1z.symm zA
 have ez:e≠z:=λq=>by
  subst q;rw[zB] at ho;cases ho;simp at c
 exact GR zB (by simp) λhC _ sC=>hE hC e (λc o c1 _ c3 _ q=>sC.extBut _ _ c1 (sB _ _ c3 (sA.extBut _ _ c1 q))) ⟨o,sC.extBut _ _ ez ho,c⟩
theorem _mL {Q:B4->Shared->Prop} (Z:_Ap z TI TO i1 i2 f1 f2) (D1:Draws prog w A.in1 i1 f1 n1 P1 S1) (D2:Draws prog w A.in1 i2 f2 n2 P2 S2) (hz:IsZip s.heap z TI TO .none) (hTI:IsPair s.heap TI (.ref i1) (.ref i2)) (hTO:IsPair s.heap TO a b)
 (g1:S1 k1 s.heap) (g2:S2 k2 s.heap) (l1:k1<n1) (l2:k2<n2)
 (hQ:∀x y h' tk,P1 k1 x->P2 k2 y->IsZip h' z TI TO (rawInt s.heap.objs.size)->IsPair h' TO x y->S1 (k1+1) h'->S2 (k2+1) h'->IsPair h' s.heap.objs.size x y →
 (∀c o,c≠z->c≠TO->c≠i1->c≠i2->s.heap.get? c=some o->h'.get? c=some o)->Q (some (.ref s.heap.objs.size)) { s with heap:=h',toks:=tk }) :
  wpAny (model prog w) A (pyNext (.ref z)) Q E s:=by
 have T:s.TypeIs (.ref z) "zip":=⟨_,hz,rfl⟩;unfold pyNext
 exact Qc (GS (RD (name:=Str.ofString "__next__") T Nw (Rp Nw T F.entry_zip_next
  (_l0 Z D1 D2 hz hTI hTO g1 g2 l1 l2 λx y h' tk a1 a2 a3 a4 a5 a6 a7 a8=>Qh (hQ x y h' tk a1 a2 a3 a4 a5 a6 a7 a8)) (F.args_zip_next_1 _))))
theorem _g4 {Q:B4->Shared->Prop} (Z:_Ap z TI TO i1 i2 f1 f2) (D1:Draws prog w A.in1 i1 f1 n1 P1 S1) (hz:IsZip s.heap z TI TO .none) (hTI:IsPair s.heap TI (.ref i1) (.ref i2)) (g1:S1 n1 s.heap)
 (hQ:∀h',(∀c o,c≠z->c≠TO->c≠i1->c≠i2->s.heap.get? c=some o->h'.get? c=some o)->Q none { s with heap:=h' }):wpAny (model prog w) A (pyNext (.ref z)) Q E s:=by
 have T:s.TypeIs (.ref z) "zip":=⟨_,hz,rfl⟩;unfold pyNext;refine Qc (GS (RD (name:=Str.ofString "__next__") T Nw (Rp Nw T F.entry_zip_next (_nM Z D1 hz hTI g1 λh' e k he=>?_) (F.args_zip_next_1 _))));obtain⟨o,ho,c⟩:=he;exact Qc (wpAny_isInstance (T:="StopIteration") (b:=true) ⟨o,ho,c⟩ isSubtype_stop (Qh (hQ _ k)))
end
section
variable{U:St}
theorem Inv.turnedAll {ch:B5} (I:Inv X pins U H s) (hf:∀b∈ch,XM X pins H b) (k:∀b o,b∉ch->s.heap.get? b=some o->h'.get? b=some o):Inv X pins U H { s with heap:=h',toks:=t' }:=by
 have nit:∀b u,H b=some u->b∉ch:=λb u e z=>by rw[(hf b z).1] at e;cases e
 refine I.step (g':=s.gens) (d':=s.drawn) (ch:=ch) (λb hb=>⟨(hf b hb).2.2.2.1,(hf b hb).2.1,(hf b hb).2.2.2.2⟩) (λb o _ _ hc e _=>k b o hc e) (λb o _ _ hc e _=>⟨o.slots,k b o hc e⟩) (λ_ _ _ _ n=>n)
  (λb o hc e=>⟨o,k b o hc e⟩) (λ_ _ e=>e) (λ_ _ _ e=>e) (λb ps e=>⟨#[],by rw[e];simp⟩) (λm hm=>?_) (λb u e=>?_) I.bare
 ·obtain⟨o,es,ep,ho,r⟩:=hm;exact⟨o,es,ep,k _ o (λz=>(hf _ z).2.1 rfl) ho,r⟩
 ·refine(I.hok b u e).stay (λc v hc q=>k c v ?_ q) (λ_ q=>q) λ_ _ q=>q;rcases hc with z|z
  ·rw[z];exact nit b u e
  ·exact nit c _ z
theorem Inv.turnedLaid {ch:B5} {T:Addr} (I:Inv X pins U H s) (hf:∀b∈ch,XM X pins H b) (k:∀b o,b∉ch->s.heap.get? b=some o->h'.get? b=some o) (hp:s.heap.objs.size<=T) (new:ObjOk X.prog X.w (_d H T o) h' T o) :
  Inv X pins U (_d H T o) { s with heap:=h',toks:=t' }:=by
 have nit:∀b u,H b=some u->b∉ch:=λb u e z=>by rw[(hf b z).1] at e;cases e
 have hn:=I.hok.fresh hp;have up:∀{b u},H b=some u->_d H T o b=some u:=λ{b u} e=>by rw[_l (_P e hn)];exact e
 refine I.step (g':=s.gens) (d':=s.drawn) (ch:=ch) (λb hb=>⟨(hf b hb).2.2.2.1,(hf b hb).2.1,(hf b hb).2.2.2.2⟩) (λb o _ _ hc e _=>k b o hc e) (λb o _ _ hc e _=>⟨o.slots,k b o hc e⟩) (λb u _ e n=>?_)
  (λb o hc e=>⟨o,k b o hc e⟩) (λ_ _ e=>up e) (λ_ _ _ e=>up e) (λb ps e=>⟨#[],by rw[up e];simp⟩) (λm hm=>?_) (λb u e=>?_) I.bare
 ·rw[_l (λz=>absurd (Qo e) (by rw[z];exact Nat.not_lt.mpr hp))];exact n
 ·obtain⟨o,es,ep,ho,r⟩:=hm;exact⟨o,es,ep,k _ o (λz=>(hf _ z).2.1 rfl) ho,r⟩
 ·by_cases hb:b=T
  ·subst hb;rw[_k] at e;cases e;exact new
  ·rw[_l hb] at e;refine(I.hok b u e).stay (λc v hc q=>k c v ?_ q) (λ_ q=>up q) λ_ _ q=>up q;rcases hc with z|z
   ·rw[z];exact nit b u e
   ·exact nit c _ z
end
noncomputable def Itz (K:W.Frag) (a b:Addr):It :=
 ⟨λi H => ∃xs ys x y, SqT K H a xs /\ SqT K H b ys /\ xs[i]?=some x /\ ys[i]?=some y,
  λi H v H'=>∃T x y,H T=none/\v=.ref T/\(∀xs,SqT K H a xs->xs[i]?=some x)/\(∀ys,SqT K H b ys->ys[i]?=some y)/\H'=_d H T (.tup [x,y]),
  λi H=>∃xs,SqT K H a xs/\xs.length=i⟩
def _St (z TI TO i1 i2 a b:Addr) (i:Nat) (h:Heap):Prop:=IsZip h z TI TO .none/\IsPair h TI (.ref i1) (.ref i2)/\(∃u v,IsPair h TO u v)/\h.IsTupleIter i1 a i/\h.IsTupleIter i2 b i
theorem _iD {w:World} {K:W.Frag} {z TI TO i1 i2:Addr} (Z:_Ap z TI TO i1 i2 [i1,a] [i2,b]) (ha:a≠i1) (hb:b≠i2) :
  Turn P w K (.Tuple es n pos) (Itz K a b) [z,TI,TO,i1,i2] z (_St z TI TO i1 i2 a b) where
 mem:=by simp
 obj:=λi h zq c hc=>by
  obtain⟨h1,h2,⟨u,v,h3⟩,⟨o4,h4,_,d4⟩,⟨o5,h5,_,d5⟩⟩:=zq;simp only[Qk,Q2,QW] at hc;rcases hc with rfl|rfl|rfl|rfl|rfl
  ·exact⟨_,h1,λv q=>by cases q⟩
  ·exact⟨_,h2,λv q=>by cases q⟩
  ·exact⟨_,h3,λv q=>by cases q⟩
  ·exact⟨_,h4,λv q=>by rw[d4] at q;cases q⟩
  ·exact⟨_,h5,λv q=>by rw[d5] at q;cases q⟩
 keep:=λi h h' ⟨h1,h2,⟨u,v,h3⟩,⟨o4,h4,r4⟩,⟨o5,h5,r5⟩⟩ k =>
  ⟨k _ (by simp) _ h1,k _ (by simp) _ h2,⟨u,v,k _ (by simp) _ h3⟩,⟨o4,k _ (by simp) _ h4,r4⟩,⟨o5,k _ (by simp) _ h5,r5⟩⟩
 item:=by
  intro X hP hw hK hc i pins s U H E I hf ⟨h1,h2,⟨u,v,h3⟩,h4,h5⟩ ⟨xs,ys,x,y,qa,qb,ex,ey⟩;subst hP hw hK;obtain⟨as,ra,ta,la⟩:=I.tuple qa;obtain⟨bs,rb,tb,lb⟩:=I.tuple qb;have hh:X.A.in1.handled=none:=I.ok.hd hc;have la':=ra.length;have lb':=rb.length
  have lx:i<as.toArray.size:=by
   have:=(QK.mp ex).1;simp only[Qx];lia
  have ly:i<bs.toArray.size:=by
   have:=(QK.mp ey).1;simp only[Qx];lia
  refine _mL Z (_a0 hh i1 a ha as.toArray) (_a0 hh i2 b hb bs.toArray) h1 h2 h3 ⟨h4,ta⟩ ⟨h5,tb⟩ lx ly λu1 u2 h' tk p1 p2 z1 o1 g1 g2 t1 k=>?_;refine⟨_,rfl,wpAny_letOwnedTupleGo_zip z1 λh'' z2 sb=>?_⟩;have lz:z<s.heap.objs.size:=Qo h1;have nz:s.heap.objs.size≠z:=Gh lz;obtain⟨v1,e1,r1⟩:=ra.get ex;obtain⟨v2,e2,r2⟩:=rb.get ey
  have q1:v1=u1:=by
   have p:as[i]?=some u1:=by simpa using p1
   rw[e1] at p;exact Qt p
  have q2:v2=u2:=by
   have p:bs[i]?=some u2:=by simpa using p2
   rw[e2] at p;exact Qt p
  subst q1 q2
  have kk:∀c o,c∉[z,TI,TO,i1,i2]->s.heap.get? c=some o->h''.get? c=some o:=λc o hc e=>by
   simp only[Qk,Q2,QW,not_or] at hc;exact sb.extBut _ _ hc.1 (k c o hc.1 hc.2.2.1 hc.2.2.2.1 hc.2.2.2.2 e)
  have tt:IsPair h'' s.heap.objs.size v1 v2:=sb.extBut _ _ nz t1;have I':=I.turnedLaid (t':=tk) (o:=.tup [x,y]) hf kk (Qg _) (show ObjOk X.prog X.w _ h'' _ (.tup [x,y]) from⟨small1000 (by simp),[v1,v2],.cons r1 (.cons r2 .nil),⟨_,tt,rfl,_,rfl⟩⟩);refine⟨.ref s.heap.objs.size,_,I',rfl,⟨s.heap.objs.size,x,y,I.hok.fresh (Qg _),rfl,λzs hz=>by rw[I.tuple_inj hz qa];exact ex,λzs hz=>by rw[I.tuple_inj hz qb];exact ey,rfl⟩,?_,λc hc=>?_⟩
  ·exact⟨z2,sb.extBut _ _ Z.TIz (k _ _ Z.TIz Z.TITO Z.TIi1 Z.TIi2 h2),⟨_,_,sb.extBut _ _ Z.TOz o1⟩,g1.1.extBut sb.extBut Z.i1z,g2.1.extBut sb.extBut Z.i2z⟩
  ·have hlt:c<s.heap.objs.size:=by
    simp only[Qk,Q2,QW] at hc;obtain⟨o4,e4,_⟩:=h4;obtain⟨o5,e5,_⟩:=h5;rcases hc with rfl|rfl|rfl|rfl|rfl
    ·exact lz
    ·exact Qo h2
    ·exact Qo h3
    ·exact Qo e4
    ·exact Qo e5
   rw[_l (QA hlt)];exact(hf c hc).1
 done:=by
  intro X hP hw hK hc i pins s U H E I hf ⟨h1,h2,⟨u,v,h3⟩,h4,h5⟩ ⟨xs,qa,hl⟩;subst hP hw hK;obtain⟨as,ra,ta,la⟩:=I.tuple qa;have hh:X.A.in1.handled=none:=I.ok.hd hc
  have e:i=as.toArray.size:=by
   have:=ra.length;simp only[Qx];lia
  subst e;refine _g4 (f2:=[i2,b]) Z (_a0 hh i1 a ha as.toArray) h1 h2 ⟨h4,ta⟩ λh' k=>⟨rfl,I.turnedAll (t':=s.toks) hf λc o hc e=>?_⟩;simp only[Qk,Q2,QW,not_or] at hc;exact k c o hc.1 hc.2.2.1 hc.2.2.2.1 hc.2.2.2.2 e
 self:=λ_ _ _ _ _ st h=>wpAny_pyIter_zip st.1 h
theorem _mG {w:World} {us vs:B6} (ha:s.heap.IsTuple a us) (hb:s.heap.IsTuple b vs)
 (h:∀h',_St (s.heap.objs.size+4) (s.heap.objs.size+2) (s.heap.objs.size+3) s.heap.objs.size (s.heap.objs.size+1) a b 0 h'->(∀c o,s.heap.get? c=some o->h'.get? c=some o)->Q (.ref (s.heap.objs.size+4)) { s with heap:=h' }) :
  wpAny (model prog w) A (call (.type "zip") [.ref a,.ref b]) Q E s:=by
 let H1:Heap:=s.heap.push { cls:=.type "tuple_iterator",data:=.fields #[.ref a,.int 0 0] }
 let H2:Heap:=H1.push { cls:=.type "tuple_iterator",data:=.fields #[.ref b,.int 0 0] }
 let H3:Heap:=H2.push { cls:=.type "tuple",data:=.seq #[.ref s.heap.objs.size,.ref H1.objs.size] }
 let H4:Heap:=H3.push { cls:=.type "tuple",data:=.seq #[.none,.none] }
 let H5:Heap:=H4.push { cls:=.type "zip",data:=.fields #[.none,.bool false,.bool false,.ref H2.objs.size,.ref H3.objs.size] }
 have m:Meets (Builtin.«zip.__new__» ⟨[.type "zip",.ref a,.ref b],[]⟩) (λ_ R s1=>s1=s/\R (.ok (.ret (.ref H4.objs.size))) { s with heap:=H5 }):=.of_wp λprog w A R s1 hR=>by
  obtain⟨rfl,hR⟩:=hR;obtain⟨hp,g,d,tk,os⟩:=s1;have hsub:=sub_zip;have hL1:Heap.IsTuple (Shared.heap ⟨hp,g,d,tk,os⟩) a us:=ha;have hL2:Heap.IsTuple (Shared.heap ⟨hp.push { cls:=.type "tuple_iterator",data:=.fields #[.ref a,.int 0 0] },g,d,tk,os⟩) b vs:=Heap.IsTuple.push hb _
  wp_walk using GF hL1,GF hL2
  exact⟨_,rfl,hR⟩
 refine callType_new F.called_zip (by decide) (F.typeCall_zip_2 _ _) (F.newCall_zip_2 _ _) (λobj=>F.args_object_init_3 obj _ _) F.entry_zip_new m ⟨rfl,?_⟩;have z1:H1.objs.size=s.heap.objs.size+1:=Rt ..;have z2:H2.objs.size=s.heap.objs.size+2:=by rw[Rt,z1]
 have z3:H3.objs.size=s.heap.objs.size+3:=by rw[Rt,z2]
 have z4:H4.objs.size=s.heap.objs.size+4:=by rw[Rt,z3]
 have up5:∀c o,H4.get? c=some o->H5.get? c=some o:=λc o e=>Qr _ e;have up4:∀c o,H3.get? c=some o->H5.get? c=some o:=λc o e=>up5 c o (Qr _ e);have up3:∀c o,H2.get? c=some o->H5.get? c=some o:=λc o e=>up4 c o (Qr _ e);have up2:∀c o,H1.get? c=some o->H5.get? c=some o:=λc o e=>up3 c o (Qr _ e);have g5:H5.get? H4.objs.size=some _:=Qw _ rfl;have g4:H5.get? H3.objs.size=some _:=up5 _ _ (Qw _ rfl);have g3:H5.get? H2.objs.size=some _:=up4 _ _ (Qw _ rfl);have g2:H5.get? H1.objs.size=some _:=up3 _ _ (Qw _ rfl);have g1:H5.get? s.heap.objs.size=some _:=up2 _ _ (Qw _ rfl);show _/\_;rw[z4,z2,z3] at g5;rw[z3] at g4;rw[z2,z1] at g3;rw[z1] at g2;rw[z4];exact⟨⟨_,g5,rfl⟩,h H5 ⟨g5,g3,⟨_,_,g4⟩,⟨_,g1,rfl,rfl⟩,⟨_,g2,rfl,rfl⟩⟩ λc o e=>up2 c o (Qr _ e)⟩
theorem _hZ:bootBuiltins "zip"=some (.type "zip"):=by ext
theorem _bt:bootBuiltins "all"=some (.builtin "all"):=by ext
theorem Ub {c x y:Nat} (h1:c≠x) (h2:c≠y):c∉[x,y]:=λz=>by
 rcases Qk.mp z with z|z
 ·exact h1 z
 ·exact h2 (by simpa using z)
theorem _h7 {m a b:Nat} (la:a<m) (lb:b<m):_Ap (m+4) (m+2) (m+3) m (m+1) [m,a] [m+1,b] where
 TIz:=(by lia:(m+2:Nat)≠m+4)
 TOz:=(by lia:(m+3:Nat)≠m+4)
 i1z:=(by lia:(m:Nat)≠m+4)
 i2z:=(by lia:(m+1:Nat)≠m+4)
 TITO:=(by lia:(m+2:Nat)≠m+3)
 TIi1:=(by lia:(m+2:Nat)≠m)
 TIi2:=(by lia:(m+2:Nat)≠m+1)
 TOi1:=(by lia:(m+3:Nat)≠m)
 TOi2:=(by lia:(m+3:Nat)≠m+1)
 i12:=(by lia:(m:Nat)≠m+1)
 z1:=Ub (by lia) (by lia)
 z2:=Ub (by lia) (by lia)
 o1:=Ub (by lia) (by lia)
 o2:=Ub (by lia) (by lia)
 b1:=Ub (by lia) (by lia)
 b2:=Ub (by lia) (by lia)
inductive iZip_ (K:W.Frag) (R:It->Hp->Prop) (vs:List V) (H1:Hp):Prop
 |mk:∀a b,vs=[.ref a,.ref b]->((∃xs,SqT K H1 a xs))->((∃ys,SqT K H1 b ys))->R (Itz K a b) H1->iZip_ K R vs H1
def _lW (K:W.Frag) (ta:TA):TI:=λU H R=>ta U H λvs H1=>iZip_ K R vs H1
theorem _m7 (K:W.Frag) {e1 e2:Expr} {ta:TA} {pos':Pos} (hg:Gl X "zip") (hm:X.mg "zip"=none) (ha:PA X [e1,e2] ta) (hK:X.K=K:=by rfl)
 (hs:starEach [e1,e2] X.env=(false,eval e1 X.env)::starEach [e2] X.env:=by rfl) (hpl:(backTo pos (starEach [e2] X.env)).any (·.1)=false:=by rfl):PI X (.Tuple es n pos') (.Call (.Name "zip" p) [e1,e2] [] pos) (_lW K ta):=by
 subst hK;intro pins s U H R I h;refine Gj (UQ I hg hm _hZ (NM (_w (ha pos pins s U H _ I h) λus s1 zq=>?_) hs hpl));obtain⟨vs,H1,I1,r1,q1⟩:=zq;obtain⟨a,b,e,⟨xs,qa⟩,⟨ys,qb⟩,q⟩:=q1;subst e;obtain⟨u,v,rfl,ra,rb⟩:=V4 r1;cases(show u=Value.ref a from ra);cases(show v=Value.ref b from rb);obtain⟨as,ka,ta',_⟩:=I1.tuple qa;obtain⟨bs,kb,tb',_⟩:=I1.tuple qb;have la:a<s1.heap.objs.size:=by obtain⟨o,e,_⟩:=ta';exact Qo e
 have lb:b<s1.heap.objs.size:=by obtain⟨o,e,_⟩:=tb';exact Qo e
 refine _mG ta' tb' λh' st k=>wpAny_pyIter_zip st.1 ?_;have Z:=_h7 la lb;refine⟨s1.heap.objs.size+4,_,_,_,H1,rfl,I1.kept (t':=s1.toks) k,_iD Z (QA la) (QA (Gq lb)),st,λc hc=>?_,q⟩
 have hle:s1.heap.objs.size<=c:=by
  simp only[Qk,Q2,QW] at hc;rcases hc with rfl|rfl|rfl|rfl|rfl
  ·exact Gr _ 4
  ·exact Gr _ 2
  ·exact Gr _ 3
  ·exact Qg _
  ·exact Gr _ 1
 have e:=I1.fpOk hle (I1.hok.fresh hle);exact e
theorem _hq {w:World} {bs:List Bool} (r:Vals (bs.map V.bl) us):TruthOf P w A (λi v=>us.toArray[i]?=some v) (λi=>bs.getD i false):=by
 intro i v s Q E e q;have e':us[i]?=some v:=by simpa using e
 have hl:=r.length;rw[Qd] at hl
 have lt:i<bs.length:=by
  have:=(QK.mp e').1;lia
 obtain⟨u,e2,r2⟩:=r.get (i:=i) (x:=V.bl bs[i]) (by simp[lt]);rw[e'] at e2;cases e2;cases(show v=Value.bool bs[i] from r2);have z:bs.getD i false=bs[i]:=by simp[List.getD,lt]
 exact R3 (by rw[<-z];exact q)
theorem _c3:∀bs:List Bool,((List.range bs.length).all λi=>bs.getD i false)=bs.all id
 |[]=>rfl
 |b::bs=>by
  rw[QC,List.range_succ_eq_map,Gm,GP,Gm,<-_c3 bs];rfl
theorem _bA (hc:X.calm=true):YE X (.builtin "all") (λxs H Q=>∃(a:Addr) (bs:List Bool),xs=[.ref a]/\H a=some (.lst (bs.map V.bl))/\Q (.bl (bs.all id)) H):=by
 intro pins s U H xs us Q I r h;obtain⟨a,bs,rfl,q,hq⟩:=h;obtain⟨u,rfl,ru⟩:=Xe r;cases(show u=Value.ref a from ru);obtain⟨its,rv,pl,hz⟩:=I.list (.inl (.inl q));have lt:a<s.heap.objs.size:=by obtain⟨o,e,_⟩:=pl.isList;exact Qo e
 have hl:=rv.length;rw[Qd] at hl;refine call_all_walk (wpAny_pyIter_list pl.isList ⟨s.heap.objs.size,_,_,_,_,_,_,rfl,Walks.list (show X.A.in1.handled=none from I.ok.hd hc) _ a (QA lt) its.toArray,⟨⟨_,Qw _ rfl,rfl,rfl⟩,pl.isList.push _⟩,_hq rv,λh' tk k=>?_⟩);rw[Qx,<-hl,_c3];exact⟨.bl _,H,I.kept (t':=tk) λb o e=>k b o (λz=>absurd (Qo e) (by rw[show b=s.heap.objs.size by simpa using z];exact Rx _)) (Qr _ e),rfl,hq⟩
def _fT (X:Cx) (CX:Yu) (Fam:Addr->Sp->Prop):Prop:=∀f sp,Fam f sp->∃k fd ps,FnOk X.prog X.w X.K X.mg X.base CX k f fd ps sp/\Room k X.A/\W.keepIn X.K (.ref f)=true/\Binds X.K fd ps []
inductive tCallV (Fam:Addr->Sp->Prop) (i:Nat) (E:XK) (t:TA) (U:St) (H:Hp) (Q:VK):Prop
 |mk:∀f sp,U[i]?=some (some (.ref f))->Fam f sp->(t U H λvs H1=>sp vs H1 Q E)->tCallV Fam i E t U H Q
theorem _m8 {Fam:Addr->Sp->Prop} {E:XK} {e:Expr} {t:TA} (F:_fT X CX Fam) (hN:X.N[i]?=some x) (hv:Uo X.env.scope x) (hx:_fA CX X E) (ha:PA X (e::es) t)
 (hd:(x==("__debug__": Str))=false:=by decide) (hcd:(x==("__classdict__": Str))=false:=by decide)
 (he:starEach (e::es) X.env=(false,eval e X.env)::starEach es X.env:=by rfl) (hpl:(backTo pos (starEach es X.env)).any (·.1)=false:=by rfl):PE X (.Call (.Name x p) (e::es) [] pos) (tCallV Fam i E t):=by
 intro pins s U H Q I h;obtain⟨f,sp,e1,hF,q⟩:=h;obtain⟨k,fd,ps,Fn,hr,hk,hb⟩:=F f sp hF;refine Gj (_w (_cS hN hv hd hcd pins s U H (λv H'=>v=.ref f/\H'=H) I ⟨_,e1,rfl,rfl⟩) λu s1 zq=>?_);obtain⟨v,H1,I1,r1,e2,e3⟩:=zq;subst e2 e3;cases(show u=Value.ref f from r1);refine W.callWith_K (h₀:=X.base) I1.ok.mod.kin hk (_w (ha pos pins s1 U H1 _ I1 q) λus s2 zq=>?_) he hpl;obtain⟨vs,H2,I2,r2,q2⟩:=zq;refine ⟨I2.kIn,?_⟩;exact _gT Fn hr hb .nil hx I2 r2 (by rw[Q1];exact q2)
section
variable{l:Expr} {tl:TE} (K:W.Frag) (hK:X.K=K)
include hK
theorem XH:VJ X (rIxT K):=by subst hK;exact _o
end
theorem _kU (K:W.Frag) {k:Nat} {t:Vl} (hc:X.calm=true) (h:UN X es t) (hK:X.K=K:=by rfl)
 (hn:(assignEach es X.env).length=n:=by rfl) (hst:(assignEach es X.env).findIdx? (·.1)=none:=by rfl):PG X (.Tuple es k pos) (gTup K n t):=by
 subst hK;exact _bv hc h hn hst
theorem UR {σ0:St} {g:TG} {Q:VK} {H1:Hp} (out:List V) (hn:out.length<sizeLine) (σP:St->Prop) (h0:σP σ0)
 (go:∀i H,i<out.length->Same H1 H->J.go i H) (stop:∀H,Same H1 H->J.stop out.length H)
 (step:∀i U H x H' y,out[i]?=some y->σP U->Same H1 H->J.yld i H x H'->∀C:V->St->Hp->Prop,(∀σ2 H6,σP σ2->Same H H6->C y σ2 H6)->g x U H' λσ2 H4=>te σ2 H4 λy' H6=>C y' σ2 H6)
 (fin:∀D H',H1 D=none->Same H1 H'->H' D=some (.lst out)->Q (.ref D) H'):JX J σ0 g _cz te Q H1:=by
 intro D hD
 have keep:∀{H:Hp} {o:HO},Same H1 H->Same H1 (_d H D o):=λ{H o} e b u q=>by
  rw[_l (_P q hD)];exact e b u q
 refine⟨λi m U ys H=>i<=out.length/\m=out.length-i/\σP U/\ys=out.take i/\H D=some (.lst ys)/\Same H1 H,⟨_,QN _,rfl,h0,rfl,_k,keep (Same.refl H1)⟩,?_⟩;rintro i m U ys H ⟨hi,rfl,p,rfl,hd,sm⟩;refine⟨hd,?_⟩;by_cases lt:i<out.length
 ·refine .inr ⟨go i H lt sm,λσ2 ys2 H3=>σP σ2/\ys2=out.take (i+1)/\H3 D=some (.lst ys2)/\Same H1 H3,λσ2 ys2 H3 zq=>?_,λx H3 y=>?_⟩;obtain⟨a,b,c,d⟩:=zq;exact ⟨_,by lia,lt,rfl,a,b,c,d⟩;have e:out[i]?=some out[i]:=by simp[lt]
  refine step i U H x H3 out[i] e p sm y (λy' σ2 H6=>H6 D=some (.lst (out.take i))/\(out.take i).length<sizeLine/\σP σ2/\out.take i++[y']=out.take (i+1)/\_d H6 D (.lst (out.take i++[y'])) D=some (.lst (out.take i++[y']))/\Same H1 (_d H6 D (.lst (out.take i++[y'])))) λσ2 H6 p2 s6=>?_;exact⟨s6 _ _ hd,by rw[QU];lia,p2,by rw[GT,e];rfl,_k,keep (sm.trans s6)⟩
 ·have e:i=out.length:=by lia
  subst e;rw[RE] at hd;exact .inl ⟨stop H sm,fin D H hD sm hd⟩
section
variable{K:W.Frag} {Q:VK}
end
noncomputable def _aJ (js:List C6) (U:St):St:=js.map λo=>match o with|none=>none|some j=>(U[j]?).getD none
noncomputable def UV (fr:A9) (cells:List A7):List A7:=fr.filterMap λx=>(cells.lookup x).map λc=>(x,c)
noncomputable def _iI (js:List C6) (N M:A9) (inn out:List (Str×NameKind)):Bool :=
 (js.zip N).all λp=>match p.1 with
  |none=>true
  |some j=>(M[j]?==some p.2)&&((inn.lookup p.2==some .cell)||(inn.lookup p.2==some .free))&&((out.lookup p.2==some .cell)||(out.lookup p.2==some .free))
theorem _dH {L:List (Str×NameKind)} (h:((L.lookup x==some NameKind.cell)||(L.lookup x==some NameKind.free))=true):L.lookup x=some .cell\/L.lookup x=some .free:=by
 rw[GU] at h;rcases h with h|h
 ·exact .inl (eq_of_beq h)
 ·exact .inr (eq_of_beq h)
theorem _jD {fr:A9} {cells:List A7} (h:x∈fr) (e:(cells.lookup x).isSome=true):∃c,(UV fr cells).lookup x=some c:=by
 obtain⟨c,hc⟩:=NQ.mp e
 induction fr with
 |nil=>cases h
 |cons y r ih =>
  unfold UV;rw[QQ];by_cases q:y=x
  ·subst q;rw[hc];exact⟨c,by simp⟩
  ·have hr:x∈r:=by
    rcases Qk.mp h with z|z
    ·exact absurd z.symm q
    ·exact z
   cases e2:cells.lookup y with
   |none=>exact ih hr
   |some d =>
    obtain⟨c',hc'⟩:=ih hr;refine⟨c',?_⟩;show List.lookup x ((y,d)::UV r cells)=some c';rw[List.lookup_cons,RM.mpr (QM q)];exact hc'
theorem XE (fr:A9) (js:List C6) (hk:sc.kind=.function) (hn:∀x∈sc.names,x.2=.local->sc.names.lookup x.1=some .local) (hc:∀y∈sc.names,y.2≠.cell)
 (clos:closureFor sc X.env=pure (UV fr X.env.cells)) (hall:(fr.all λx=>(X.env.cells.lookup x).isSome)=true)
 (hhas:((relabel sc X.env).names.all λy=>(y.2 != .cell&&y.2 != .free)||fr.contains y.1)=true) (hl:js.length=N.length) (hcap:_iI js N X.N (relabel sc X.env).names X.env.scope.names=true) :
  CompSc X N sc (UV fr X.env.cells) (_aJ js):=by
 have lk:∀(x:Str) (M:List (Str×NameKind)) (k:NameKind),M.lookup x=some k->(x,k)∈M:=λx M k h=>R5 h;refine⟨hk,hn,hc,clos,λx c h=>?_,λx h=>?_,λU=>?_,λU i x v e1 e2=>?_⟩
 ·have m:=R5 h;obtain⟨y,_,e⟩:=RN.mp m;obtain⟨d,hd,e'⟩:=Q8.mp e;cases e';exact hd
 ·have hm:x∈fr:=by
   rcases h with h|h <;>
   ·have q:=RU.mp hhas _ (lk x _ _ h);rw[GU] at q;rcases q with q|q
    ·simp at q
    ·simpa using q
  exact _jD hm (RU.mp hall x hm)
 ·unfold _aJ;rw[Qd,hl]
 ·unfold _aJ at e2;rw[Qv] at e2;obtain⟨o,ho,e2⟩:=Q8.mp e2;cases o with
  |none=>cases e2
  |some j =>
   have hz:(some j,x)∈js.zip N:=by
    refine List.mem_iff_getElem?.mpr ⟨i,?_⟩;rw[List.getElem?_zip_eq_some];exact⟨ho,e1⟩
   have q:=RU.mp hcap _ hz;simp only[R6] at q;refine⟨_dH q.1.2,_dH q.2,j,eq_of_beq q.1.1,?_⟩;replace e2:(U[j]?).getD none=some v:=e2;cases e3:U[j]? with
   |none=>rw[e3] at e2;cases e2
   |some o'=>rw[e3] at e2;rw[show o'=some v from e2]
theorem WS {σ0:St} {g:TG} {tt:TT} {Q:VK} {H1:Hp} (_R:List (Option V)) (hn:_R.length<sizeLine) (σP:St->Prop) (h0:σP σ0)
 (go:∀i H,i<_R.length->Same H1 H->J.go i H) (stop:∀H,Same H1 H->J.stop _R.length H)
 (step:∀i U H x H' o,_R[i]?=some o->σP U->Same H1 H->J.yld i H x H'->∀C:Option V->St->Hp->Prop,(∀σ2 H6,σP σ2->Same H H6->C o σ2 H6)->g x U H' λσ2 H4=>tt σ2 H4 λc H5=>if c=true then te σ2 H5 λy' H6=>C (some y') σ2 H6 else C none σ2 H5)
 (fin:∀D H',H1 D=none->Same H1 H'->H' D=some (.lst (_R.filterMap id))->Q (.ref D) H'):JX J σ0 g tt te Q H1:=by
 intro D hD
 have keep:∀{H:Hp} {o:HO},Same H1 H->Same H1 (_d H D o):=λ{H o} e b u q=>by
  rw[_l (_P q hD)];exact e b u q
 have fl:∀i,((_R.take i).filterMap id).length<=_R.length:=λi=>Qs (GV _ _) (by rw[QU];lia);refine⟨λi m U ys H=>i<=_R.length/\m=_R.length-i/\σP U/\ys=(_R.take i).filterMap id/\H D=some (.lst ys)/\Same H1 H,⟨_,QN _,rfl,h0,rfl,_k,keep (Same.refl H1)⟩,?_⟩;rintro i m U ys H ⟨hi,rfl,p,rfl,hd,sm⟩;refine⟨hd,?_⟩;by_cases lt:i<_R.length
 ·refine .inr ⟨go i H lt sm,λσ2 ys2 H3=>σP σ2/\ys2=(_R.take (i+1)).filterMap id/\H3 D=some (.lst ys2)/\Same H1 H3,λσ2 ys2 H3 zq=>?_,λx H3 y=>?_⟩;obtain⟨a,b,c,d⟩:=zq;exact ⟨_,by lia,lt,rfl,a,b,c,d⟩;have e:_R[i]?=some _R[i]:=by simp[lt]
  have tk:(_R.take (i+1)).filterMap id=(_R.take i).filterMap id++_R[i].toList:=by
   rw[GT,e];simp only[Option.toList_some,Gs];cases _R[i]<;>rfl
  refine step i U H x H3 _R[i] e p sm y (λo σ2 H6=>match o with
   |some y'=>H6 D=some (.lst ((_R.take i).filterMap id))/\((_R.take i).filterMap id).length<sizeLine/\σP σ2/\(_R.take i).filterMap id++[y']=(_R.take (i+1)).filterMap id/\_d H6 D (.lst ((_R.take i).filterMap id++[y'])) D=some (.lst ((_R.take i).filterMap id++[y']))/\Same H1 (_d H6 D (.lst ((_R.take i).filterMap id++[y'])))
   |none=>σP σ2/\(_R.take i).filterMap id=(_R.take (i+1)).filterMap id/\H6 D=some (.lst ((_R.take i).filterMap id))/\Same H1 H6) λσ2 H6 p2 s6=>?_
  rw[tk];cases hg:_R[i] with
  |none=>exact⟨p2,by simp,s6 _ _ hd,sm.trans s6⟩
  |some y'=>exact⟨s6 _ _ hd,Rz (fl i) hn,p2,by simp,_k,keep (sm.trans s6)⟩
 ·have e:i=_R.length:=by lia
  subst e;rw[RE] at hd;exact .inl ⟨stop H sm,fin D H hD sm hd⟩
end L2
namespace RevF
open PySem PySem.Spec PyProof.Rows
theorem sp:splitId "reversed.__new__"=some ("reversed","__new__"):=by rfl
section
variable{prog:Program} {w:World} {A:Around} {E:Value->Shared->Prop} {s:Shared} {a it:Addr} {us:B6}
end
end RevF
namespace L2
open PySem PySem.Spec PyProof.Rows
variable{X:Cx}
section
variable{prog:Program} {w:World} {A:Around} {E:Value->Shared->Prop} {s:Shared}
theorem _kV {t sl:Addr} {items:B6} {vl vu:Value} {lo hi:B8} {Q:Value->Shared->Prop} (ht:IsTup s.heap t items) (hs:s.heap.IsSliceOf sl vl vu .none) (pl:IsPart vl lo) (pu:IsPart vu hi)
 (hw:HT.sIx items.size 0 lo=0/\HT.sIx items.size items.size hi=items.size) (h:Q (.ref t) s):wpAny (model prog w) A (getItem (.ref t) (.ref sl)) Q E s:=by
 obtain⟨os,hos,hcs,hds⟩:=id hs;have hTs:s.TypeIs (.ref sl) "slice":=⟨os,hos,hcs⟩;unfold getItem
 try with_reducible refine RC ?_
 first|refine Qc (Qh ?_)|skip
 refine Qc (wpAny_sequenceKey ht.typeIs (by decide) ?_)
 refine Qc (RD (name:=Str.ofString "__getitem__") ht.typeIs Gk
  (Rp Gk ht.typeIs entry_tuple_getitem ?_ (args_tuple_getitem _ _)))
 show wpAny _ _ (Builtin.Tuple.tupleItemsOf (.ref t) >>= _) _ _ s;refine Qc (tupleItemsOf_ ht ?_);refine Qc (Ni hTs ?_);rw[Qb (by decide)];refine Qc (HT.sliceApplied_gen hs pl pu ?_);show wpAny _ _ (if(((HT.sIx items.size 0 lo:Nat):Int)==0&&(1:Int)==1&&(HT.sIx items.size items.size hi-HT.sIx items.size 0 lo)==items.size)=true then _ else _) _ _ s;rw[Qb (by rw[hw.1,hw.2];simp)];refine Qc (m:=Builtin.Tuple.tupleIsExact _) ?_;unfold Builtin.Tuple.tupleIsExact;refine Qc (Ni ht.typeIs (Qh ?_));rw[Qb (by decide)];exact Qc (Rk (Qh ⟨_,rfl,Qh h⟩))
end
inductive rSlTA (K:W.Frag) (x:V) (lo:B8) (hi:B8) (H:Hp) (Q:VK):Prop
 |mk:∀a xs,x=.ref a->SqT K H a xs->(∀H' p,Same H H'->SqT K H' p (Ym xs lo hi)->Q (.ref p) H')->rSlTA K x lo hi H Q
theorem _iA {xs:List V} {lo hi:B8} (h1:HT.sIx xs.length 0 lo=0) (h2:HT.sIx xs.length xs.length hi=xs.length):Ym xs lo hi=xs:=by
 unfold Ym;rw[h1,h2];simp
theorem WZ:SlR X (rSlTA X.K):=by
 intro pins s U H x v vl vu lo hi sl Q I rx hs pl pu h;obtain⟨a,xs,rfl,hx,q⟩:=h;by_cases hw:HT.sIx xs.length 0 lo=0/\HT.sIx xs.length xs.length hi=xs.length
 ·cases rx;obtain⟨its,r,ht,hz⟩:=I.tuple hx;have hlen:its.toArray.size=xs.length:=by rw[Qx];exact r.length.symm
  refine⟨"tuple",_,Gk.lookup,ht.typeIs,_kV ht hs pl pu (by rw[hlen];exact hw) ⟨.ref a,H,I,rfl,q H a (Same.refl H) ?_⟩⟩;rw[_iA hw.1 hw.2];exact hx
 ·exact VN pins s U H (.ref a) v vl vu lo hi sl Q I rx hs pl pu ⟨a,xs,rfl,hx,hw,λp np=>q _ p (_q np) (.of _k)⟩
section
variable{o e f:Expr} {apos cpos:Pos} {td ty tx:TE}
end
theorem _c7 (K:W.Frag) {o:Expr} {to:TE} {name:Str} {apos cpos:Pos} {T id:String} {r:V->List V->Hp->VK->Prop} (pa:PlainAttrs T) (slot:Slot T name id) (hty:typeOf (.builtin id)=pure (.type "method_descriptor")) (hm:UB X id r) (ho:PE X o to) (hK:X.K=K:=by rfl)
 (hbase:attributeBase o name X.env (eval o X.env)=eval o X.env:=by rfl) (hline:(apos.endLine==cpos.line)=true:=by rfl):PE X (.Call (.Attribute o name apos) [] [] cpos) (_du K T r to):=by
 subst hK;exact _n0 pa slot hty hm ho hbase hline
end L2
namespace RevF
open PySem PySem.Spec PyProof.Rows
section
variable{prog:Program} {w:World} {A:Around} {E:Value->Shared->Prop} {s:Shared} {a it:Addr} {us:B6}
end
end RevF
namespace TextM
open PySem
end TextM
namespace L2
open PySem PySem.Spec PyProof.Rows
variable{a:Addr} {A:Around} {X:Cx} {H:Hp} {pins:A4} {prog:Program} {s:Shared} {U:St} {E Q:Value->Shared->Prop}
theorem _bL:∀{zs:A9} {us:B1},Vals (zs.map V.str) us->StrsAre us zs
 |[],_,.nil=>.nil
 |z::zs,_,.cons r rs=>by
  obtain⟨t,rfl⟩:=r;exact .cons z t (_bL rs)
theorem _iH {ds ds':List D} {xs xs':List V} {us us':B1} {a':Addr} (I:Inv X pins U H s) (hl:IsL X.K H ds xs) (hl':IsL X.K H ds' xs') (rv:Vals xs us) (rv':Vals xs' us')
 (z:s.heap.IsList a us.toArray) (z':s.heap.IsList a' us'.toArray) (hu:A.units<cLine)
 (it:∀(j:Nat) (d d':D) (u u':Value),ds[j]?=some d->ds'[j]?=some d'->us[j]?=some u->us'[j]?=some u'->SeqAt.EqAt A.in1 s u u' (Xn d d')):SeqAt.RcNeAt A s (.ref a) (.ref a') (!Yk ds ds'):=by
 have e1:us.length=ds.length:=by rw[<-rv.length,hl.length]
 have e2:us'.length=ds'.length:=by rw[<-rv'.length,hl'.length]
 by_cases q:ds.length=ds'.length
 ·have g:=SeqAt.RcNeAt.lists (e:=Vg ds ds') z z' (by simp only[Qx,e1,e2,q]) hu λj h1 h2=>by
   have g1:j<ds.length:=by rw[<-e1];simpa using h1
   have g2:j<ds'.length:=by rw[<-e2];simpa using h2
   have k1:ds[j]?=some ds[j]:=Qp g1;have k2:ds'[j]?=some ds'[j]:=Qp g2;unfold Vg;rw[VW k1,VW k2];exact it j _ _ _ _ k1 k2 (by simp) (by simp)
  rw[show us.toArray.size=ds.length by simp[e1],Jt q] at g;exact g
 ·rw[_at q];exact SeqAt.RcNeAt.lists_lengths z z' (by simp only[Qx,e1,e2];exact bne_iff_ne.mpr q) hu
theorem _ak (hu:X.A.units+64<cLine):Yb X (compareOp .NotEq) (λx y H Q=>∃ds ds',Is X.K H (.lst ds) x/\Is X.K H (.lst ds') y/\Yn ds<=50/\Q (.bl (!Yk ds ds')) H):=by
 intro pins s U H x y v u Q I rx ry h;obtain⟨ds,ds',⟨a,xs,rfl,q1,hl⟩,⟨a2,xs2,rfl,q2,hl2⟩,hd,q⟩:=h;cases(show v=Value.ref a from rx);cases(show u=Value.ref a2 from ry);obtain⟨its,rv,z⟩:=I.isList q1;obtain⟨its2,rv2,z2⟩:=I.isList q2;exact(_iH I hl hl2 rv rv2 z z2 (by lia) (Ua I ds ds' (A:=X.A.in1) hl hl2 rv rv2 (by show X.A.units+1+Yn ds<cLine;lia))) _ _ _ _ ⟨.bl _,H,I,rfl,q⟩
section
variable{CX:Yu} {k:Nat} {f C:Addr} {fd:FuncData} {ps:A9} {sp:Sp} {dvs:List V} {ds:B1} {E:XS} {x m:Str} {p pos apos:Pos} {e o:Expr} {es:C0} {ta:TE} {t:TA}
inductive tMethX_ (C:Addr) (m:Str) (sp:Sp) (dvs:List V) (E:XS) (t:TA) (U:St) (Q:VK) (x:V) (H1:Hp):Prop
 |mk:∀a dx fs,x=.ref a->H1 a=some (.ins C dx fs)->fs.lookup m=none->(t U H1 λvs H2=>sp (x::(vs++dvs)) H2 Q (E U))->tMethX_ C m sp dvs E t U Q x H1
def _aL (C:Addr) (m:Str) (sp:Sp) (dvs:List V) (E:XS) (ta:TE) (t:TA):TE:=λU H Q=>ta U H λx H1=>tMethX_ C m sp dvs E t U Q x H1
theorem WJ {pl:Sem Bool} (he:PE X o ta) (c:Cls X.K C) (hm:Meth X.K C m f) (F:FnOk X.prog X.w X.K X.mg X.base CX k f fd ps sp) (hr:Room k X.A) (hb:Binds X.K fd ps ds) (hd:Vals dvs ds) (hx:WM CX X E) (ha:PA X (e::es) t)
 (hst:starEach (e::es) X.env=(false,eval e X.env)::starEach es X.env:=by rfl) (hpl:(backTo pos (starEach es X.env)).any (·.1)=false:=by rfl)
 (ht:eval (.Call (.Attribute o m apos) (e::es) [] pos) X.env=(do
 let ov <-eval o X.env
 standAt apos.atName
 let (f,first) <-holding [ov] (getMethod ov m pl)
 callWith pos f first (backTo pos (starEach (e::es) X.env)) (backToKw pos (keywordEach [] X.env))):=by rfl) :
  PE X (.Call (.Attribute o m apos) (e::es) [] pos) (_aL C m sp dvs E ta t):=by
 intro pins s U H Q I h;refine W.methodCall_KW (pl:=pl) (_w (he pins s U H _ I h) λu s1 zq=>?_) ht;obtain⟨x,H1,I1,rx,a,dx,fs,ex,ea,l,q⟩:=zq;subst ex;obtain rfl:u=Value.ref a:=rx;refine _cT I1 ea c hm l ?_;refine W.callWith_K (first:=[.ref a]) (h₀:=X.base) I.ok.mod.kin hm.kp (_w (ha pos pins s1 U H1 _ I1 q) λus s2 zq=>?_) hst hpl;obtain⟨vs,H2,I2,r,q2⟩:=zq;refine ⟨I2.kIn,?_⟩;exact _aT (us:=.ref a::us) (vs:=.ref a::vs) F hr hb hd hx I2 (.cons rfl r) q2
theorem VB {pl:Sem Bool} (he:PE X o ta) (c:Cls X.K C) (hm:Meth X.K C m f) (F:FnOk X.prog X.w X.K X.mg X.base CX k f fd ps sp) (hr:Room k X.A) (hb:Binds X.K fd ps ds) (hd:Vals dvs ds) (hx:WM CX X E)
 (ht:eval (.Call (.Attribute o m apos) [] [] pos) X.env=(do
 let ov <-eval o X.env
 standAt apos.atName
 let (f,first) <-holding [ov] (getMethod ov m pl)
 callWith pos f first (backTo pos (starEach [] X.env)) (backToKw pos (keywordEach [] X.env))):=by rfl) :
  PE X (.Call (.Attribute o m apos) [] [] pos) (_aL C m sp dvs E ta _ai):=by
 intro pins s U H Q I h;refine W.methodCall_KW (pl:=pl) (_w (he pins s U H _ I h) λu s1 zq=>?_) ht;obtain⟨x,H1,I1,rx,a,dx,fs,ex,ea,l,q⟩:=zq;subst ex;obtain rfl:u=Value.ref a:=rx;refine _cT I1 ea c hm l ?_;exact W.callWith_K0 (first:=[.ref a]) I1.kIn hm.kp (_aT (us:=[.ref a]) (vs:=[.ref a]) F hr hb hd hx I1 (.cons rfl .nil) q)
def _nZ (C:Addr) (sp:Sp) (dvs:List V) (E:XS) (t:TA):TE:=λU H Q=>t U H λvs H1=>∀x dx,H1 x=none->H1 dx=none->dx≠x →
 sp (.ref x::(vs++dvs)) (_d (_d H1 dx (.own x)) x (.ins C dx [])) (λv H2=>v=.non/\Q (.ref x) H2) (E U)
theorem _iC {Q:VK} {us:B1} {vs:List V} (M:Mk X.K C f) (F:FnOk X.prog X.w X.K X.mg X.base CX k f fd ps sp) (hr:Room (k+1) X.A) (hb:Binds X.K fd ps ds) (hd:Vals dvs ds)
 (hx:WM CX X E) (I:Inv X pins U H s) (r:Vals vs us)
 (h:∀x dx,H x=none->H dx=none->dx≠x->sp (.ref x::(vs++dvs)) (_d (_d H dx (.own x)) x (.ins C dx [])) (λv H2=>v=.non/\Q (.ref x) H2) (E U)) :
  wpAny (model X.prog X.w) X.A (call (.ref C) us) (EP X pins U Q) X.xe s:=by
 have hq:=h (s.heap.objs.size+1) s.heap.objs.size (I.hok.fresh (QV _)) (I.hok.fresh (Qg _)) (QA (Ry _));have I2:=Inv.made (C:=C) I;have r2:Vals (V.ref (s.heap.objs.size+1)::(vs++dvs)) (Value.ref (s.heap.objs.size+1)::(us++ds)):=.cons rfl (r.append hd)
 have hl:(Value.ref (s.heap.objs.size+1)::us++ds).length=ps.length:=by
  have e:=r2.length;rw[F.len _ _ _ _ hq] at e;exact e.symm
 refine wpAny_call (_iE (f:=f) I.kIn M.makes M.init (RO.mp M.fn) (GI (F.run _ X.stack _ _ ⟨Value.ref (s.heap.objs.size+1)::us,[]⟩ (Value.ref (s.heap.objs.size+1)::(us++ds)) _ _ (E U) (hr.make C us [])
  (I2.env0.make C us []) (hb _ (Value.ref (s.heap.objs.size+1)::us) I2.kIn hl) r2 hq) λr s' hq'=>?_))
 cases r with
 |error e=>exact hx pins U _ _ e s' I2 hq'
 |ok fl =>
  cases fl with
  |ret u =>
   obtain⟨v,H',I3,rv,ev,q3⟩:=I2.after hq';subst ev;exact⟨rv,⟨V.ref (s.heap.objs.size+1),H',I3,rfl,q3⟩⟩
  |next=>exact False.elim hq'
  |brk=>exact False.elim hq'
  |cont=>exact False.elim hq'
theorem _a6 (M:Mk X.K C f) (F:FnOk X.prog X.w X.K X.mg X.base CX k f fd ps sp) (hr:Room (k+1) X.A) (hg:Gl X x) (hm:X.mg x=some (.ref C)) (hb:Binds X.K fd ps ds) (hd:Vals dvs ds) (hx:WM CX X E)
 (hdb:(x==("__debug__": Str))=false:=by decide):PE X (.Call (.Name x p) [] [] pos) (_nZ C sp dvs E _ai):=by
 intro pins s U H Q I h;refine Gj (_as I hg hm ?_ hdb);exact W.callWith_K0 I.kIn M.kp (_iC (us:=[]) M F hr hb hd hx I .nil h)
end
theorem WL:bootBuiltins "sorted"=some (.builtin "sorted"):=by ext
theorem _ad:∀{us:B1} {zs:A9},StrsAre us zs->Vals (zs.map V.str) us
 |_,_,.nil=>.nil
 |_,_,.cons y t r=>.cons ⟨t,rfl⟩ (_ad r)
theorem _bR (K:W.Frag) (hK:X.K=K:=by rfl):YE X (.builtin "sorted") (λxs H Q=>∃l zs,xs=[.ref l]/\SqL K H l (zs.map V.str)/\zs.length<64/\∀D zs',H D=none->zs'.Perm zs->sortedS zs'=true->Q (.ref D) (_d H D (.lst (zs'.map V.str)))):=by
 subst hK;intro pins s U H xs us Q I r h;obtain⟨l,zs,rfl,hq,hl,q⟩:=h;obtain⟨u,rfl,ru⟩:=Xe r;cases(show u=Value.ref l from ru);obtain⟨its,rv,pl,hz⟩:=I.list hq;have hlen:=rv.length;rw[Qd] at hlen;refine sorted_strs pl.isList (_bL rv) (by lia) λout zs' so hp hs=>?_;obtain⟨e,he⟩:=sortedAll_at s.heap its out;have hle:s.heap.objs.size<=s.heap.objs.size+1:=QV _;have hl2:zs'.length=zs.length:=hp.length_eq;refine⟨.ref _,_,I.laid (t':=s.toks) (o:=.lst (zs'.map V.str)) (λb u q=>sortedAll_old q) hle (show ObjOk X.prog X.w _ _ _ (.lst (zs'.map V.str)) from⟨by rw[Qd];exact Ra (small1000 (by lia)),out.toList,e,_ad so,he⟩),rfl,q _ zs' (I.hok.fresh hle) hp hs⟩
noncomputable def _J (x y:Str):Bool:=decide (x.cps.toList<y.cps.toList)
section
variable{w:World}
noncomputable def YG (xs:Array (Str×Tok)):B6:=xs.map λp=>.str p.1 p.2
noncomputable def XW (xs:Array (Str×Tok)) (i:Nat):Str:=(xs[i]?.map (·.1)).getD ""
theorem _ef {xs:Array (Str×Tok)} {i:Nat} {v:Value} (h:(YG xs)[i]?=some v):∃t,v=.str (XW xs i) t:=by
 simp only[YG,Array.getElem?_map,Q8] at h;obtain⟨p,hp,rfl⟩:=h;exact⟨p.2,by simp[XW,hp]⟩
theorem _jB {P:Nat->Value->Prop} (val:Nat->Str) (hval:∀i v,P i v->∃t,v=.str (val i) t):CmpOf prog w A .Gt P (λi j=>_J (val j) (val i)):=λi j vi vj s Q E hi hj h=>by
 obtain⟨t,rfl⟩:=hval i vi hi;obtain⟨u,rfl⟩:=hval j vj hj;exact richCompare_gives (op:=.Gt) (RS s _ t) (RS s _ u) F.slot_str_gt F.entry_str_gt (F.args_str_gt_2 _ _) (gives_str_gt _ _ t u) (λx=>nomatch x) h
theorem _i7 {P:Nat->Value->Prop} (val:Nat->Str) (hval:∀i v,P i v->∃t,v=.str (val i) t):CmpOf prog w A .Lt P (λi j=>_J (val i) (val j)):=λi j vi vj s Q E hi hj h=>by
 obtain⟨t,rfl⟩:=hval i vi hi;obtain⟨u,rfl⟩:=hval j vj hj;exact richCompare_gives (op:=.Lt) (RS s _ t) (RS s _ u) F.slot_str_lt F.entry_str_lt (F.args_str_lt_2 _ _) (gives_str_lt _ _ t u) (λx=>nomatch x) h
theorem _hH {a b:Str} {t u:Tok} (hh:A.handled=none)
 (h:∀h' tk,(∀c o,s.heap.get? c=some o->h'.get? c=some o)->Q (if _J a b=true then .str b u else .str a t) { s with heap:=h',toks:=tk }) :
  wpAny (model prog w) A (call (.builtin "max") [.str a t,.str b u]) Q E s:=by
 have hT:(s.heap.push { cls:=.type "tuple",data:=.seq #[.str a t,.str b u] }).IsTuple s.heap.objs.size (YG #[(a,t),(b,u)]):=⟨_,Qw _ rfl,rfl,0,by simp[YG]⟩;refine call_max_two (GF hT ?_);have hsz:(s.heap.push { cls:=.type "tuple",data:=.seq #[.str a t,.str b u] }).objs.size=s.heap.objs.size+1:=Rt ..
 refine⟨_,[_,s.heap.objs.size],[_],_,_,_,_,rfl,Walks.tuple (A:=A.in1) hh _ s.heap.objs.size (by rw[hsz];exact QA (Ry _)) (YG #[(a,t),(b,u)]),
  ⟨⟨_,Qw _ rfl,rfl,rfl⟩,hT.push _⟩,λc hc=>?_,by simp[YG],_jB (XW #[(a,t),(b,u)]) (λ_ _=>_ef),λv h' tk hP hk=>?_⟩
 ·show c<((s.heap.push _).push _).objs.size;rw[Rt,hsz];rcases Qk.mp hc with rfl|hc
  ·rw[hsz];exact Ry _
  ·rcases Qk.mp hc with rfl|hc
   ·exact Gq (Ry _)
   ·cases hc
 ·have hold:∀c o,s.heap.get? c=some o->h'.get? c=some o:=λc o e=>by
   refine hk c o (λhm=>?_) (Qr _ (Qr _ e));rcases Qk.mp hm with e1|hm
   ·have:=Qo e;rw[e1,hsz] at this;exact Rx _ (Nat.lt_of_succ_lt this)
   ·cases hm
  have:=h h' tk hold
  have hv:v=if _J a b=true then Value.str b u else Value.str a t:=by
   have hP':(YG #[(a,t),(b,u)])[argBest (λi j=>_J (XW #[(a,t),(b,u)] j) (XW #[(a,t),(b,u)] i)) 1]?=some v:=by
    have hsz2:(YG #[(a,t),(b,u)]).size-1=1:=by simp[YG]
    rw[<-hsz2];exact hP
   have e0:argBest (λi j=>_J (XW #[(a,t),(b,u)] j) (XW #[(a,t),(b,u)] i)) 1=if _J a b=true then 1 else 0:=by
    show(if _=true then 1 else 0)=_;rfl
   by_cases hba:_J a b=true
   ·rw[e0,Qb hba] at hP';rw[Qb hba];simpa[YG] using hP'.symm
   ·rw[e0,Qa hba] at hP';rw[Qa hba];simpa[YG] using hP'.symm
  rw[hv];exact this
theorem _hM {a b:Str} {t u:Tok} (hh:A.handled=none)
 (h:∀h' tk,(∀c o,s.heap.get? c=some o->h'.get? c=some o)->Q (if _J b a=true then .str b u else .str a t) { s with heap:=h',toks:=tk }) :
  wpAny (model prog w) A (call (.builtin "min") [.str a t,.str b u]) Q E s:=by
 have hT:(s.heap.push { cls:=.type "tuple",data:=.seq #[.str a t,.str b u] }).IsTuple s.heap.objs.size (YG #[(a,t),(b,u)]):=⟨_,Qw _ rfl,rfl,0,by simp[YG]⟩;refine call_min_two (GF hT ?_);have hsz:(s.heap.push { cls:=.type "tuple",data:=.seq #[.str a t,.str b u] }).objs.size=s.heap.objs.size+1:=Rt ..
 refine⟨_,[_,s.heap.objs.size],[_],_,_,_,_,rfl,Walks.tuple (A:=A.in1) hh _ s.heap.objs.size (by rw[hsz];exact QA (Ry _)) (YG #[(a,t),(b,u)]),
  ⟨⟨_,Qw _ rfl,rfl,rfl⟩,hT.push _⟩,λc hc=>?_,by simp[YG],_i7 (XW #[(a,t),(b,u)]) (λ_ _=>_ef),λv h' tk hP hk=>?_⟩
 ·show c<((s.heap.push _).push _).objs.size;rw[Rt,hsz];rcases Qk.mp hc with rfl|hc
  ·rw[hsz];exact Ry _
  ·rcases Qk.mp hc with rfl|hc
   ·exact Gq (Ry _)
   ·cases hc
 ·have hold:∀c o,s.heap.get? c=some o->h'.get? c=some o:=λc o e=>by
   refine hk c o (λhm=>?_) (Qr _ (Qr _ e));rcases Qk.mp hm with e1|hm
   ·have:=Qo e;rw[e1,hsz] at this;exact Rx _ (Nat.lt_of_succ_lt this)
   ·cases hm
  have:=h h' tk hold
  have hv:v=if _J b a=true then Value.str b u else Value.str a t:=by
   have hP':(YG #[(a,t),(b,u)])[argBest (λi j=>_J (XW #[(a,t),(b,u)] i) (XW #[(a,t),(b,u)] j)) 1]?=some v:=by
    have hsz2:(YG #[(a,t),(b,u)]).size-1=1:=by simp[YG]
    rw[<-hsz2];exact hP
   have e0:argBest (λi j=>_J (XW #[(a,t),(b,u)] i) (XW #[(a,t),(b,u)] j)) 1=if _J b a=true then 1 else 0:=by
    show(if _=true then 1 else 0)=_;rfl
   by_cases hba:_J b a=true
   ·rw[e0,Qb hba] at hP';rw[Qb hba];simpa[YG] using hP'.symm
   ·rw[e0,Qa hba] at hP';rw[Qa hba];simpa[YG] using hP'.symm
  rw[hv];exact this
theorem _mS {l:Addr} {vs:B1} {Q:B1->Shared->Prop} (hl:IsTup s.heap l vs.toArray)
 (h:Q vs { s with heap:=(s.heap.push (seqObj "list" #[] 0)).update s.heap.objs.size (Obj.mapSeq (·++vs.toArray)) }) (hsz:vs.length<=sizeLine) :
  wpAny (model prog w) A (collect (.ref l)) Q E s:=by
 obtain⟨o,ho,hc,n,hd⟩:=id hl;unfold collect;refine Qc (wpAny_runValue (GN entry_proto_collect' ?_));show wpAny _ _ (do again (.builtin "list.__iadd__" ⟨[<-newList [],.ref l],[]⟩)) _ _ s;refine Qc (Gu (Qh ⟨NU _ (by ext),GN entry_list_iadd' ?_⟩));show wpAny _ _ (Builtin.List.listExtendWith (.ref s.heap.objs.size) (.ref l) (.ref s.heap.objs.size)) _ _ { s with heap:=s.heap.push (seqObj "list" #[] 0) };unfold Builtin.List.listExtendWith;have ho':(s.heap.push (seqObj "list" #[] 0)).get? l=some o:=Qr _ ho;refine Qc (Ni (T:="tuple") ⟨o,ho',hc⟩ ?_);have ht:(Value.type "tuple"==Value.type "tuple")=true:=by rfl
 rw[Qb (by rw[ht];simp)];refine Qc (listItems_at ho' hd ?_);refine Qc (listItems_at (xs:=#[]) (n:=0) (Qw _ rfl) rfl ?_);rw[Qa (by simp)];refine Qc (listUpdate_at (xs:=#[]) (n:=0) (Qw _ rfl) rfl ?_ (QN _) (by show(#[]++vs.toArray).size<=sizeLine+1;simp only[Array.size_append,Qx,Gn];lia));refine Qh ?_;refine Qc (wpAny_load (get?_update_seq (Qw _ rfl) _) ?_);show wpAny _ _ (pure ((#[]:B6)++vs.toArray).toList) Q E _;rw[show((#[]:B6)++vs.toArray).toList=vs by simp];exact Qh h
theorem _ji {x:Value} {vs:B1} {ss:A9} (hS:StrsAre vs ss) (h64:vs.length<64)
 (hc:∀(A':Around) (Q':B1->Shared->Prop),A'.handled=A.handled->(∀h1 tk,(∀b o,s.heap.get? b=some o->h1.get? b=some o)->s.heap.objs.size<=h1.objs.size->Q' vs { s with heap:=h1,toks:=tk })->wpAny (model prog w) A' (collect x) Q' E s)
 (h:∀h' tk a e (out:B6) (ss':A9),(∀b o,s.heap.get? b=some o->h'.get? b=some o)->s.heap.objs.size<=a->h'.get? a=some (seqObj "list" out e)->StrsAre out.toList ss'->ss'.Perm ss->sortedS ss'=true->Q (.ref a) { s with heap:=h',toks:=tk }) :
  wpAny (model prog w) A (call (.builtin "sorted") [x]) Q E s:=by
 refine Ny kind_sorted plain_sorted entry_sorted (args_sorted1 _) ?_;unfold Builtin.«sorted»;refine Qc (m:=checkCount "sorted" 1 1 _) (Qh ?_);refine Qc (hc _ _ rfl λh1 tk k1 z1=>?_);refine Qc (Gu ?_);have hoL:(h1.push (seqObj "list" vs.toArray 0)).get? h1.objs.size=some (seqObj "list" vs.toArray 0):=Qw _ rfl;show wpAny _ _ _ _ _ { s with heap:=h1.push (seqObj "list" vs.toArray 0),toks:=tk };refine Qc (RC (Rp slot_list_sort ⟨_,hoL,rfl⟩ entry_list_sort (list_sort_treeK strKind_oneLt hoL hS.keysOf (λv₁ v₂ rest e=>keyKind_strs (by rw[<-e];exact hS)) h64 λst' a1 a2=>⟨_,rfl,?_⟩) (args_list_sort _)));obtain⟨ss',b1,b2,b3⟩:=sorted_out_str hS a1 a2;obtain⟨e,he⟩:=sortedHeap_at (out:=(arrOf st').map (·.2)) hoL;refine Qh ⟨_,rfl,h _ tk _ e _ ss' (λb o q=>?_) z1 he b1 b2 b3⟩;have q1:=k1 _ _ q;have lt:b<h1.objs.size:=Qo q1;rw[sortedHeap_old (QA lt) (by rw[size_push'];exact Gq lt)];exact Qr _ q1
end
theorem _mM (hc:X.calm=true):YE X (.builtin "max") (λxs H Q=>∃i j,xs=[.str i,.str j]/\Q (.str (if _J i j=true then j else i)) H):=by
 intro pins s U H xs us Q I r h;obtain⟨i,j,rfl,q⟩:=h;obtain⟨u,w',rfl,⟨t,rfl⟩,⟨t',rfl⟩⟩:=V4 r;refine _hH (I.ok.hd hc) λh' tk k=>⟨_,H,I.kept k,?_,q⟩;by_cases hj:_J i j=true
 ·rw[Qb hj,Qb hj];exact⟨_,rfl⟩
 ·rw[Qa hj,Qa hj];exact⟨_,rfl⟩
theorem _iQ (hc:X.calm=true):YE X (.builtin "min") (λxs H Q=>∃i j,xs=[.str i,.str j]/\Q (.str (if _J j i=true then j else i)) H):=by
 intro pins s U H xs us Q I r h;obtain⟨i,j,rfl,q⟩:=h;obtain⟨u,w',rfl,⟨t,rfl⟩,⟨t',rfl⟩⟩:=V4 r;refine _hM (I.ok.hd hc) λh' tk k=>⟨_,H,I.kept k,?_,q⟩;by_cases hj:_J j i=true
 ·rw[Qb hj,Qb hj];exact⟨_,rfl⟩
 ·rw[Qa hj,Qa hj];exact⟨_,rfl⟩
theorem _bQ (K:W.Frag) (hK:X.K=K:=by rfl):YE X (.builtin "sorted") (λxs H Q=>∃l zs,xs=[.ref l]/\SqT K H l (zs.map V.str)/\zs.length<64/\∀D zs',H D=none->zs'.Perm zs->sortedS zs'=true->Q (.ref D) (_d H D (.lst (zs'.map V.str)))):=by
 subst hK;intro pins s U H xs us Q I r h;obtain⟨l,zs,rfl,hq,hl,q⟩:=h;obtain⟨u,rfl,ru⟩:=Xe r;cases(show u=Value.ref l from ru);obtain⟨its,rv,pl,hz⟩:=I.tuple hq;have hlen:=rv.length;rw[Qd] at hlen;refine _ji (_bL rv) (by lia) (λA' Q' _ q'=>_mS pl (q' _ _ (λb o e=>?_) ?_) (by rw[Qd] at hz;lia)) λh' tk a e out zs' k1 z1 he so hp hs=>?_
 ·have lt:=Qo e;rw[NZ _ _ _ _ (QA lt)];exact Qr _ e
 ·rw[Heap.size_update,size_push'];exact QV _
 have hl2:zs'.length=zs.length:=hp.length_eq;exact⟨.ref _,_,I.laid (t':=tk) (o:=.lst (zs'.map V.str)) k1 z1 (show ObjOk X.prog X.w _ _ _ (.lst (zs'.map V.str)) from⟨by rw[Qd];exact Ra (small1000 (by lia)),out.toList,e,_ad so,he⟩),rfl,q _ zs' (I.hok.fresh z1) hp hs⟩
theorem _jC {w:World} {K:Type} [DecidableEq K] (knd:HeapKind prog w K) (d:Addr) (hd:(d==sysModules)=false) :
  MeetsIn prog w (Builtin.«dict.__len__» ⟨[.ref d],[]⟩) (λ_ R s=>∃kvs,s.heap.DictOfH knd d kvs/\R (.ok (.ret (.int kvs.length s.toks))) { s with toks:=s.toks+1 }) :=
 .of_wp λA R s zq=>by
  obtain⟨kvs,hm,h⟩:=zq;obtain⟨o,es,ep,ho,hc,hdat,he,hk,hn⟩:=hm;show wpAny _ _ (dictSize d >>= _) _ _ s;unfold dictSize;refine Qc (Qc (GW ho hdat (Qh ?_)));show wpAny _ _ (Builtin.Dict.pendingCount d >>= _) _ _ s;refine Qc (wpAny_pendingCount_other hd ?_);refine wpAny_ret_mkInt ?_;have:es.size=kvs.length:=size_of_entries he;rw[Gv,this];exact h
theorem _jF {w:World} {K:Type} [DecidableEq K] {knd:HeapKind prog w K} {d:Addr} {kvs:List (K×Addr×Value)} (hd:(d==sysModules)=false) (hm:s.heap.DictOfH knd d kvs) (hfit:(kvs.length:Int)<2 ^ 63)
 (h:Q (.int kvs.length (s.toks+1)) { s with toks:=s.toks+1+1 }):wpAny (model prog w) A (call (.builtin "len") [.ref d]) Q E s:=by
 refine Ny kind_len plain_len entry_len (args_len1 _) ?_;unfold Builtin.«len»;refine Qc (m:=oneArg "len" _) (Qh ?_)
 refine Qc (m:=callSpecial? (.ref d) (Str.ofString "__len__")) (RD (name:=Str.ofString "__len__") hm.typeIs F.slot_dict_len
  (GL F.slot_dict_len hm.typeIs F.entry_dict_len (F.args_dict_len_1 _) (_jC knd d hd) ⟨kvs,hm,?_⟩))
 show wpAny _ _ _ _ _ { s with toks:=s.toks+1 };refine Qc (RC (Qh ?_));refine Qc (wpAny_letGo ?_);show wpAny _ _ (if((kvs.length:Nat):Int)<0 then _ else _) _ _ _;rw[Qa (by lia)];show wpAny _ _ (if((kvs.length:Nat):Int) ≥ 2 ^ 63 then _ else _) _ _ _;rw[Qa (by lia)];exact Qc (wpAny_mkInt (Qh ⟨_,rfl,h⟩))
theorem _jl:YE X (.builtin "len") (λxs H Q=>∃a kvs,xs=[V.ref a]/\H a=some (.dT kvs)/\Q (.int kvs.length) H):=by
 intro pins s U H xs us Q I r h;obtain⟨a,kvs,rfl,ha,q⟩:=h;obtain⟨u,rfl,ru⟩:=Xe r;cases ru;obtain⟨z,hd,vs,rel,dd⟩:=VZ I.hok ha;refine _jF hd dd (by rw[<-rel.length];rw[GG] at z;lia) ?_;rw[<-rel.length];exact⟨.int kvs.length,H,I.tok _,⟨_,rfl⟩,q⟩
section
variable{w:World} {K:Type} [DecidableEq K] {knd:HeapKind prog w K}
theorem _kg {d:Addr} {xs:List (K×Addr×Value)} {k:K} {v:Value} (hu:knd.room A) (hkey:knd.is s.heap k a) (hm:s.heap.DictOfH knd d xs) (hsz:xs.length<=sizeLine)
 (h1:∀p,atKey xs k=some p->Q p.2 { s with toks:=s.toks+knd.draws k })
 (h2:atKey xs k=none->∀h',h'.DictOfH knd d (storedH xs k a v)->Heap.SameBut d s.heap h'->Q v { s with heap:=h',toks:=s.toks+knd.draws k }) :
  wpAny (model prog w) A (dictSetDefault d (.ref a) v) Q E s:=by
 obtain⟨o,es,ep,ho,hc,hd,he,his,hn⟩:=hm;unfold dictSetDefault
 try with_reducible refine RC ?_
 refine Qc (knd.pyHash hu hkey ?_);refine Qc (wpAny_dictFind_heap (s:={ s with toks:=s.toks+knd.draws k }) hu hkey ho hd he his hn ?_ ?_)
 ·intro hno;have hnot:k∉xs.map (·.1):=not_mem_keys_of_get hno
  refine Qc (Rk (Qc (wpAny_updateDictKeys (hz:=by have e:=size_of_entries he;lia) (s:={ s with toks:=s.toks+knd.draws k }) ho hd (Qh (h2 (Nz hno) _ ⟨_,_,ep+1,NX _ ho (Obj.isFreed_of_dict (Obj.data_mapDictKeys hd _)),
   hc.mapDictKeys _,Obj.data_mapDictKeys hd _,?_,?_,?_⟩ (R8 ..))))))
  ·rw[storedH_new (Nz hno)];simp[he,entryOfKey]
  ·rw[storedH_new (Nz hno)];intro x hx;rcases Qn.mp hx with hx|hx
   ·exact knd.keeps (his x hx) ho hd (R8 ..)
   ·simp only[Qz] at hx;subst hx;exact knd.keeps hkey ho hd (R8 ..)
  ·rw[storedH_new (Nz hno)];rw[Qu,Rl];refine⟨hn,by simp,?_⟩;intro x hx y hy;simp only[Qm,GK,Qz] at hy;subst hy;exact λe=>hnot (e▸hx)
 ·intro j p hj;refine Qc (GW (s:={ s with toks:=s.toks+knd.draws k }) ho hd ?_);rw[entry_at he j,hj];exact Qc (Rk (Qh (h1 p (atKey_of_get hn hj))))
theorem _ni (d a:Addr) (hd:(d==sysModules)=false) (dflt:Value) :
  MeetsIn prog w (Builtin.«dict.setdefault» ⟨[.ref d,.ref a,dflt],[]⟩) (λA R s=>knd.room A.in1/\∃k xs,knd.is s.heap k a/\s.heap.DictOfH knd d xs/\xs.length<=sizeLine /\
   (∀p,atKey xs k=some p->R (.ok (.ret p.2)) { s with toks:=s.toks+knd.draws k }) /\
   (atKey xs k=none->∀h',h'.DictOfH knd d (storedH xs k a dflt)->Heap.SameBut d s.heap h'->R (.ok (.ret dflt)) { s with heap:=h',toks:=s.toks+knd.draws k })) :=
 .of_wp λA R s zq=>by
  obtain⟨hu,k,xs,hkey,hm,hz,h1,h2⟩:=zq;unfold Builtin.«dict.setdefault»;refine Qc ?_;unfold Builtin.Dict.keyAndDefault;refine Qc (wpAny_notOrdered_dict hm.typeIs ?_);show wpAny _ _ (pure (d,Value.ref a,some dflt)) _ _ s;refine Qh ?_;show wpAny _ _ (if(d==sysModules)=true then _ else(dictSetDefault d (.ref a) dflt >>= _)) _ _ s;rw[Qa (by rw[hd];exact QD)];exact Qc (_kg hu hkey hm hz (λp hp=>Qh ⟨p.2,rfl,h1 p hp⟩) λhn h' hm' hs'=>Qh ⟨dflt,rfl,h2 hn h' hm' hs'⟩)
end
section
variable{b:Addr} {kvs:List (List _j×V)} {k:List _j} {d:V} {r:Value}
theorem _hz (hu:A.units+1<cLine) (I:Inv X pins U H s) (e:H a=some (.dT kvs)) (eb:H b=some (.tup (k.map kV))) (l:kvs.length<sizeLine) (rd:RelV d r)
 (h1:∀v w' s',_K kvs k=some v->RelV v w'->Inv X pins U H s'->Q w' s') (h2:∀s',_K kvs k=none->Inv X pins U (_d H a (.dT (kvs++[(k,d)]))) s'->Q r s') :
  wpAny (model X.prog X.w) A (call (.builtin "dict.setdefault") [.ref a,.ref b,r]) Q E s:=by
 obtain⟨z,hd,xs,rel,dd⟩:=VZ I.hok e;have hz:xs.length<=sizeLine:=by rw[<-Nd rel];exact z
 have hv:=rel.val k
 refine GL Mp dd.typeIs PySem.F.entry_dict_setdefault (PySem.F.args_dict_setdefault_3 _ _ _) (_ni (knd:=tupleKind (Ys X.prog X.w)) a b hd r)
  ⟨Go hu,k,xs,Vu I.hok eb,dd,hz,λp hp=>?_,λhn h' dd' hs=>?_⟩
 ·rw[hp] at hv;cases ho:_K kvs k with
  |none=>rw[ho] at hv;cases hv
  |some v =>
   rw[ho] at hv;exact h1 v _ _ ho hv (I.tok _)
 ·rw[hn] at hv
  have ho:_K kvs k=none:=by
   cases ho:_K kvs k with
   |none=>rfl
   |some v=>rw[ho] at hv;cases hv
  refine h2 _ ho ?_;have hp:=rel.put k eb rd;rw[_bu _ ho] at hp;have hl:(kvs++[(k,d)]).length<=sizeLine:=by rw[Qq];exact l
  obtain⟨q,es,ep,hq,h2,h3,h4,_,h5⟩:=dd';refine JH I (by rw[e];exact True.intro) hs ⟨q,hq⟩ ⟨hl,hd,_,hp.keeps λc ys ec=>?_,q,es,ep,hq,h2,h3,h4,h5⟩;rw[_l (_fr ec e (λz=>nomatch z))];exact ec
end
inductive tDSet2_ (ty:TE) (tx:TE) (U:St) (Q:VK) (x:V) (H1:Hp):Prop
 |mk:∀a,x=.ref a->IsD H1 a->(ty U H1 λy H2=>tx U H2 λz H3=>∃kvs k b,H3 a=some (.dT kvs)/\y=.ref b/\H3 b=some (.tup (k.map kV))/\kvs.length<sizeLine/\(∀v,_K kvs k=some v->Q v H3)/\(_K kvs k=none->Q z (_d H3 a (.dT (kvs++[(k,z)])))))->tDSet2_ ty tx U Q x H1
def _kB (td ty tx:TE):TE:=λU H Q=>td U H λx H1=>tDSet2_ ty tx U Q x H1
section
variable{o e f:Expr} {apos cpos:Pos} {td ty tx:TE}
theorem _kl (hu:X.A.units+1<cLine) (ho:PE X o td) (he:PE X e ty) (hf:PE X f tx) (m:M2 X o "setdefault" apos e f cpos):PE X (.Call (.Attribute o "setdefault" apos) [e,f] [] cpos) (_kB td ty tx):=by
 intro pins s U H Q I h;refine wpAny_Call_method m.base m.few m.line Nq Mp PySem.F.type_dict_setdefault (_w (ho pins s U H _ I h) λu s1 zq=>?_);obtain⟨x,H1,I1,rx,a,ex,d,q1⟩:=zq;subst ex;obtain rfl:u=Value.ref a:=rx;obtain⟨t1,t2,_⟩:=_e4 I1 d;refine⟨t1,t2,?_⟩;rw[m.trees]
 refine Nl rfl (No (GH (_w (he pins s1 U H1 _ I1 q1) λiv s2 zq =>?_)));obtain⟨y,H2,I2,ry,q2⟩:=zq;refine GH (_w (hf pins s2 U H2 _ I2 q2) λfv s3 zq=>?_);obtain⟨z,H3,I3,rz,kvs,k,b,ea,ey,eb,hl,q3,q4⟩:=zq;refine NO ?_
 subst ey;obtain rfl:iv=Value.ref b:=ry;exact _hz hu I3 ea eb hl rz (λv w' s4 l rw' I4=>⟨v,H3,I4,rw',q3 v l⟩) λs4 l I4=>⟨z,_,I4,rz,q4 l⟩
end
end L2
namespace L2
open PySem PySem.Spec PyProof.Rows PySem.W
section
variable{prog:Program} {w:World} {A:Around} {E:Value->Shared->Prop} {s:Shared} {T:String} {r d:Addr} {n:Nat} {P:Nat->Value->Prop} {OK:Heap->Prop}
theorem _gu {Q:B1->Shared->Prop} (K:KdlSrc prog w T r d n P OK) (hh:A.handled=none) (hok:OK s.heap) (hn:n<=sizeLine)
  (h:∀h1 tk (acc:B6),(∀b o,s.heap.get? b=some o->h1.get? b=some o)->s.heap.objs.size<=h1.objs.size->ItemsOf P acc n->Q acc.toList { s with heap:=h1,toks:=tk }) :
  wpAny (model prog w) A (collect (.ref r)) Q E s:=by
 have hlt:=K.there _ hok;unfold collect;refine Qc (wpAny_runValue (GN entry_proto_collect' ?_));show wpAny _ _ (do again (.builtin "list.__iadd__" ⟨[<-newList [],.ref r],[]⟩)) _ _ s;refine Qc (Gu (Qh ⟨NU _ (by ext),GN entry_list_iadd' ?_⟩));show wpAny _ _ (Builtin.List.listExtendWith (.ref s.heap.objs.size) (.ref r) (.ref s.heap.objs.size)) _ _ { s with heap:=s.heap.push (seqObj "list" #[] 0) };have hS:(s.heap.push (seqObj "list" #[] 0)).get? s.heap.objs.size=some { cls:=.type "list",data:=.seq #[] 0 }:=Qw _ rfl;rw[Around.under_plainId (by ext)]
 refine kdl_extend (R:=λr s'=>match r with
  |.ok (.ret v)=>wpAny (model prog w) A (match v with
   |.ref a=>do match (<-load a).data with
    |.seq xs _=>pure xs.toList
    |_=>unsupported "internal:collect"
   |_=>unsupported "internal:collect") Q E s'
  |.ok _=>False
  |.error e=>E e s') (A:=A) (s:={ s with heap:=s.heap.push (seqObj "list" #[] 0) }) K hh (K.keep _ _ hok λb _ o e=>Qr _ e) s.heap.objs.size (Gh hlt.1) (Gh hlt.2) (.ref s.heap.objs.size) 0 hS (λh' tk acc c hk hS' hacc=>?_) hn
 refine Qc (wpAny_load hS' ?_);exact Qh (h h' tk acc (λb o e=>hk b o (QA (Qo e)) (Qr _ e)) (Ra (Qo hS')) hacc)
theorem _lR {x:Value} {ss:A9} {Q:Value->Shared->Prop} (h64:ss.length<64)
  (hc:∀(A':Around) (Q':B1->Shared->Prop),A'.handled=A.handled->(∀vs h1 tk,StrsAre vs ss->(∀b o,s.heap.get? b=some o->h1.get? b=some o)->s.heap.objs.size<=h1.objs.size->Q' vs { s with heap:=h1,toks:=tk })->wpAny (model prog w) A' (collect x) Q' E s)
  (h:∀h' tk a e (out:B6) (ss':A9),(∀b o,s.heap.get? b=some o->h'.get? b=some o)->s.heap.objs.size<=a->h'.get? a=some (seqObj "list" out e)->StrsAre out.toList ss'->ss'.Perm ss->sortedS ss'=true->Q (.ref a) { s with heap:=h',toks:=tk }) :
  wpAny (model prog w) A (call (.builtin "sorted") [x]) Q E s:=by
 refine Ny kind_sorted plain_sorted entry_sorted (args_sorted1 _) ?_;unfold Builtin.«sorted»;refine Qc (m:=checkCount "sorted" 1 1 _) (Qh ?_);refine Qc (hc _ _ rfl λvs h1 tk hS k1 z1=>?_);refine Qc (Gu ?_);have hvl:vs.length<64:=by rw[<-hS.strs,Qd] at h64;exact h64
 have hoL:(h1.push (seqObj "list" vs.toArray 0)).get? h1.objs.size=some (seqObj "list" vs.toArray 0):=Qw _ rfl;show wpAny _ _ _ _ _ { s with heap:=h1.push (seqObj "list" vs.toArray 0),toks:=tk };refine Qc (RC (Rp slot_list_sort ⟨_,hoL,rfl⟩ entry_list_sort (list_sort_treeK strKind_oneLt hoL hS.keysOf (λv₁ v₂ rest e=>keyKind_strs (by rw[<-e];exact hS)) hvl λst' a1 a2=>⟨_,rfl,?_⟩) (args_list_sort _)));obtain⟨ss',b1,b2,b3⟩:=sorted_out_str hS a1 a2;obtain⟨e,he⟩:=sortedHeap_at (out:=(arrOf st').map (·.2)) hoL;refine Qh ⟨_,rfl,h _ tk _ e _ ss' (λb o q=>?_) z1 he b1 b2 b3⟩;have q1:=k1 _ _ q;have lt:b<h1.objs.size:=Qo q1;rw[sortedHeap_old (QA lt) (by rw[size_push'];exact Gq lt)];exact Qr _ q1
end
section
variable{X:Cx}
theorem _jZ {P:Program} {w:World} {x:Str} {v:Value} (h:(Ys P w).is (.inr x) v=true):∃t,v=.str x t:=by
 rcases X8 (show Vh (.inr x) v=true from h) with⟨i,t,e,_⟩|⟨y,t,e,e2⟩
 ·cases e
 ·cases e;exact⟨t,e2⟩
theorem _fK:∀{vs:B1} {ss:A9},vs.length=ss.length->(∀(i:Nat) (v:Value),vs[i]?=some v->∃x t,ss[i]?=some x/\v=.str x t)->StrsAre vs ss
 |[],[],_,_=>.nil
 |v::vs,x::ss,hl,h=>by
  obtain⟨y,t,e,rfl⟩:=h 0 v rfl;cases(show some x=some y from e)
  exact .cons x t (_fK (by simpa using hl) λi u hu=>by
   obtain⟨z,t',e1,e2⟩:=h (i+1) u (by simpa using hu);exact⟨z,t',by simpa using e1,e2⟩)
theorem _nK (hc:X.calm=true):YE X (.builtin "sorted") (λxs H Q=>∃(l:Addr) (zs:List (Str×V)),xs=[.ref l]/\H l=some (.dK (zs.map λp=>(.inr p.1,p.2)))/\zs.length<64/\∀D zs',H D=none->zs'.Perm (zs.map (·.1))->sortedS zs'=true->Q (.ref D) (_d H D (.lst (zs'.map V.str)))):=by
 intro pins s U H xs us Q I r h;obtain⟨l,zs,rfl,hq,hl,q⟩:=h;obtain⟨u,rfl,ru⟩:=Xe r;cases(show u=Value.ref l from ru);obtain⟨z,hd,vs,rel,dd⟩:=_ax I.hok hq;obtain⟨ep,da⟩:=dd.dictAt;have hlen:vs.length=zs.length:=by rw[<-rel.length,Qd]
 have WE:∀(i:Nat) (k:_j) (x:Value),vs[i]?=some (k,x)->∃z,(zs.map (·.1))[i]?=some z/\k=.inr z:=by
  have go:∀{ys:List (Str×V)} {ws:List (_j×Value)},KV (ys.map λp=>((.inr p.1:_j),p.2)) ws->∀(i:Nat) (k:_j) (x:Value),ws[i]?=some (k,x)->∃z,(ys.map (·.1))[i]?=some z/\k=.inr z:=by
   intro ys
   induction ys with
   |nil=>intro ws r i k x e;cases r;cases e
   |cons y ys ih =>
    intro ws r i k x e;cases r with
    |cons h t =>
     cases i with
     |zero =>
      rw[NW] at e;cases e;exact⟨y.1,rfl,h.1.symm⟩
     |succ i =>
      rw[Gp] at e;obtain⟨z,e1,e2⟩:=ih t i k x e;exact⟨z,by simpa using e1,e2⟩
  exact go rel
 have col:∀(acc:B6),ItemsOf (λi v=>∃k x,vs[i]?=some (k,x)/\(Ys X.prog X.w).is k v=true) acc vs.length->StrsAre acc.toList (zs.map (·.1)):=by
  intro acc hacc;refine _fK (by rw[Qd,<-hlen,Rh];exact hacc.1) λi v e=>?_;obtain⟨k,x,e1,e2⟩:=hacc.2 i v (by rw[<-Rj];exact e);obtain⟨z,e3,rfl⟩:=WE i k x e1;obtain⟨t,rfl⟩:=_jZ e2;exact⟨z,t,e3,rfl⟩
 refine _lR (ss:=zs.map (·.1)) (by rw[Qd];exact hl) (λA' Q' hA q'=>_gu (kdl_dict hd) (by rw[hA];exact I.ok.hd hc) da (by rw[hlen];exact Ra (small1000 (by lia))) λh1 tk acc k1 z1 hacc=>q' _ h1 tk (col acc hacc) k1 z1) λh' tk a e out zs' k1 z1 he so hp hs=>?_;have hl2:zs'.length=zs.length:=by rw[hp.length_eq,Qd]
 exact⟨.ref _,_,I.laid (t':=tk) (o:=.lst (zs'.map V.str)) k1 z1 (show ObjOk X.prog X.w _ _ _ (.lst (zs'.map V.str)) from⟨by rw[Qd];exact Ra (small1000 (by lia)),out.toList,e,_ad so,he⟩),rfl,q _ zs' (I.hok.fresh z1) hp hs⟩
end
end L2
namespace L2
open PySem PySem.Spec PyProof.Rows
variable{X:Cx} {x:Str}
theorem _eJ (val:Nat->Int):∀k:Nat,argBest (λi j=>decide (val i > val j)) k<=k/\∀i,i<=k->val i<=val (argBest (λi j=>decide (val i > val j)) k)
 |0=>⟨Qg _,λi hi=>by cases(show i=0 by lia);exact Int.le_refl _⟩
 |k+1=>by
  obtain⟨h1,h2⟩:=_eJ val k;show(if decide (val (k+1) > val (argBest _ k))=true then k+1 else argBest _ k)<=k+1/\∀i,i<=k+1->val i<=val (if decide (val (k+1) > val (argBest _ k))=true then k+1 else argBest _ k);by_cases h:val (k+1) > val (argBest (λi j=>decide (val i > val j)) k)
  ·rw[Qb (Ql h)];refine⟨Qg _,λi hi=>?_⟩;by_cases e:i=k+1
   ·subst e;exact Int.le_refl _
   ·have:=h2 i (by lia);lia
  ·rw[Qa (by rw[Qi h];decide)];refine⟨by lia,λi hi=>?_⟩;by_cases e:i=k+1
   ·subst e;lia
   ·exact h2 i (by lia)
theorem _dI:∀{us:B1} {is:C5},Vals (is.map V.int) us->∃ps:List (Int×Tok),us=ps.map (λp=>Value.int p.1 p.2)/\ps.map (·.1)=is
 |us,[],r=>by cases r;exact⟨[],rfl,rfl⟩
 |us,i::is,r=>by
  cases r with
  |cons h t =>
   obtain⟨tk,rfl⟩:=h;obtain⟨ps,rfl,e⟩:=_dI t;exact⟨(i,tk)::ps,rfl,by rw[Qm,e]⟩
theorem _lb (K:W.Frag) (hc:X.calm=true) (hK:X.K=K:=by rfl):YE X (.builtin "max") (λxs H Q=>∃(l:Addr) (is:C5),xs=[.ref l]/\SqL K H l (is.map V.int)/\is≠[]/\∀m,m∈is->(∀x∈is,x<=m)->Q (.int m) H):=by
 subst hK;intro pins s U H xs us Q I r h;obtain⟨l,is,rfl,hq,hne,q⟩:=h;obtain⟨u,rfl,ru⟩:=Xe r;cases(show u=Value.ref l from ru);obtain⟨its,rv,pl,hz⟩:=I.list hq;obtain⟨ps,rfl,rfl⟩:=_dI rv
 have hl:s.heap.IsList l (intItems ps.toArray):=by
  have:=pl.isList
  rwa [show(ps.map λp=>Value.int p.1 p.2).toArray=intItems ps.toArray by simp[intItems]] at this
 have hpos:0<ps.length:=RF.mpr (λe=>hne (by rw[e];rfl));refine max_intList (I.ok.hd hc) hl (by simpa using hpos) λv h' tk e k=>?_;obtain⟨b1,b2⟩:=_eJ (numAt ps.toArray) (ps.toArray.size-1);obtain⟨t,rfl⟩:=intItems_at e;generalize argBest (λi j=>decide (numAt ps.toArray i > numAt ps.toArray j)) (ps.toArray.size-1)=n at *;have hn:n<ps.length:=by rw[Qx] at b1;lia
 have val:∀i (hi:i<ps.length),numAt ps.toArray i=(ps[i]).1:=λi hi=>by simp[numAt,hi]
 refine⟨.int (numAt ps.toArray n),H,I.kept k,⟨t,rfl⟩,q _ ?_ λx hx=>?_⟩
 ·rw[val n hn];exact Qj.mpr ⟨ps[n],GX _,rfl⟩
 ·obtain⟨p,hp,rfl⟩:=Qj.mp hx;obtain⟨i,hi,rfl⟩:=RV hp;rw[<-val i hi];exact b2 i (by rw[Qx];lia)
section
variable{pins:A4} {U:St} {H H':Hp} {s:Shared} {d:Addr} {kvs:List (_j×V)} {o:Obj}
theorem Inv.thaw (I:Inv X pins U H s) (e:H d=some (.frz o (.dK kvs))) (n:∀o u,X.H₀ d≠some (.frz o u)):Inv X pins U (_d H d (.dK kvs)) s:=by
 have ne:∀b,H b=none->b≠d:=λb z q=>by subst q;rw[e] at z;cases z
 refine⟨I.ok,I.os,I.bare,⟨I.base.keep,I.base.slot,λb q h1 h2 h3=>?_,I.base.there,λb xs h1=>?_,λb q u h1=>?_,λb ps h1=>?_⟩,I.loc,I.cell,?_,λx c h1=>?_,λp hp=>?_,λb u h1=>?_,I.len⟩
 ·have:=I.base.free b q h1 h2 h3;rw[_l (ne b this)];exact this
 ·have:=I.base.tups b xs h1;rw[_l (λz=>by subst z;rw[e] at this;cases this)];exact this
 ·have:=I.base.frzs b q u h1;rw[_l (λz=>by subst z;exact n _ _ h1)];exact this
 ·obtain⟨more,this⟩:=I.base.tbls b ps h1;exact⟨more,by rw[_l (λz=>by subst z;rw[e] at this;cases this)];exact this⟩
 ·rw[_l (ne _ I.free)];exact I.free
 ·have:=I.freeC x c h1;rw[_l (ne _ this)];exact this
 ·obtain⟨a1,a2,a3⟩:=I.pin p hp;exact⟨a1,by rw[_l (ne _ a2)];exact a2,a3⟩
 ·by_cases z:b=d
  ·subst z;rw[_k] at h1;cases h1;exact(show ObjOk X.prog X.w _ _ _ (.dK kvs) from(I.hok b _ e).2)
  ·rw[_l z] at h1;refine(I.hok b u h1).stay (λc v hc q=>q) (λc q=>?_) λc xs q=>?_
   ·rw[_l (λz=>by subst z;rw[e] at q;cases q)];exact q
   ·rw[_l (λz=>by subst z;rw[e] at q;cases q)];exact q
end
theorem _di:∀{kvs:List (_j×V)} {vs:List (_j×Value)},KV kvs vs->∀(i:Nat) (p:_j×V),kvs[i]?=some p->∃x,vs[i]?=some (p.1,x)
 |[],_,r,i,p,e=>by cases e
 |q::kvs,_,r,i,p,e=>by
  cases r with
  |@cons _ y _ _ h t =>
   cases i with
   |zero =>
    cases(show some q=some p from e);exact⟨y.2,by rw[NW,h.1]⟩
   |succ i =>
    rw[Gp] at e;obtain⟨x,hx⟩:=_di t i p e;exact⟨x,by rw[Gp];exact hx⟩
theorem _jy {k:_j} {v:Value} (h:Vh k v=true):RelV (kV k) v:=by
 rcases X8 h with⟨i,t,rfl,rfl⟩|⟨x,t,rfl,rfl⟩
 ·exact⟨t,rfl⟩
 ·exact⟨t,rfl⟩
noncomputable def Itd (d:Addr) (o:Obj) (kvs:List (_j×V)):It where
 go:=λi H=>H d=some (.frz o (.dK kvs))/\i<kvs.length
 stop:=λi H=>H d=some (.frz o (.dK kvs))/\kvs.length<=i
 yld:=λi H x H'=>H'=H/\(kvs[i]?.map λp=>kV p.1)=some x
theorem _hV {P:Program} {w:World} {K:W.Frag} {tg:Expr} (d it:Addr) (o:Obj) (kvs:List (_j×V)) (es:Array DictEntry) (ep:Nat) (ho:o.data=.dict es ep):Turn P w K tg (Itd d o kvs) [it] it (λi h=>h.IsKeyIter it d i kvs.length ep) where
 mem:=by simp
 obj:=λi h st b hb=>by
  have e:b=it:=by simpa using hb
  subst e;obtain⟨o,e,c,d⟩:=st;exact⟨o,e,λv z=>by rw[d] at z;cases z⟩
 keep:=λi h h' st k=>st.at λo e=>k it (by simp) o e
 item:=by
  intro X hP hw hK hc i pins s U H E I hf st hg;subst hP hw hK;obtain⟨hq,hi⟩:=hg;obtain⟨g1,g2⟩:=(show s.heap.get? d=some o/\ObjOk X.prog X.w H s.heap d (.dK kvs) from I.hok d _ hq);obtain⟨z,hd,vs,rel,dd⟩:=(show kvs.length<=sizeLine/\(d==sysModules)=false/\∃vs,KV kvs vs/\s.heap.DictOf (Ys X.prog X.w) d vs from g2);obtain⟨o2,es2,ep2,b1,b2,b3,b4⟩:=dd;rw[g1] at b1;cases b1;rw[ho] at b3;cases b3;have da:s.heap.DictAt (Ys X.prog X.w) d vs ep:=⟨o,es,g1,b2,ho,b4⟩;have hlen:vs.length=kvs.length:=rel.length.symm;obtain⟨x,hx⟩:=_di rel i kvs[i] (Qp hi);obtain⟨f0,f1,f2,f3,f4,f5⟩:=hf it (by simp);rw[<-hlen] at st;refine wpAny_pyNext_dict_item st da hx λkey h' hkey st' sb=>?_;have I1:Inv X pins U H { s with heap:=h' }:=I.turned (t':=s.toks) (λb o hb e=>(sb.2 b hb).trans e) f0 f1 f3 f4 f5;rw[hlen] at st';obtain⟨o3,e3,c3,d3⟩:=id st';exact⟨key,rfl,Jp (s:={ s with heap:=h' }) e3 c3 d3 (by decide) ⟨kV kvs[i].1,H,I1,_jy hkey,⟨rfl,by rw[Qp hi];rfl⟩,st',λb hb=>(hf b hb).1⟩⟩
 done:=by
  intro X hP hw hK hc i pins s U H E I hf st hg;subst hP hw hK;obtain⟨hq,hi⟩:=hg;obtain⟨g1,g2⟩:=(show s.heap.get? d=some o/\ObjOk X.prog X.w H s.heap d (.dK kvs) from I.hok d _ hq);obtain⟨z,hd,vs,rel,dd⟩:=(show kvs.length<=sizeLine/\(d==sysModules)=false/\∃vs,KV kvs vs/\s.heap.DictOf (Ys X.prog X.w) d vs from g2);obtain⟨o2,es2,ep2,b1,b2,b3,b4⟩:=dd;rw[g1] at b1;cases b1;rw[ho] at b3;cases b3;have da:s.heap.DictAt (Ys X.prog X.w) d vs ep:=⟨o,es,g1,b2,ho,b4⟩;have hlen:vs.length=kvs.length:=rel.length.symm;obtain⟨f0,f1,f2,f3,f4,f5⟩:=hf it (by simp);rw[<-hlen] at st;exact wpAny_pyNext_dict_end (I.ok.hd hc) st da (List.getElem?_eq_none (by lia)) λh' eb=>⟨rfl,I.turned (t':=s.toks) (λb o hb e=>eb b o hb e) f0 f1 f3 f4 f5⟩
 self:=λ_ _ _ _ _ st h=>wpAny_pyIter_keyiter st h
inductive iDict_ (R:It->Hp->Prop) (x:V) (H1:Hp):Prop
 |mk:∀a kvs,x=.ref a->H1 a=some (.dK kvs)->(∀o,R (Itd a o kvs) (_d H1 a (.frz o (.dK kvs))))->iDict_ R x H1
def _hc (tl:TE):TI:=λU H R=>tl U H λx H1=>iDict_ R x H1
theorem _ls {tg l:Expr} {tl:TE} (hl:PE X l tl):PI X tg l (_hc tl):=by
 intro pins s U H R I h;refine _w (hl pins s U H _ I h) λv s1 zq=>?_;obtain⟨x,H1,I1,r1,q1⟩:=zq;obtain⟨a,kvs,e,ha,q⟩:=q1;subst e;cases r1;obtain⟨z,hd,vs,rel,dd⟩:=_ax I1.hok ha;obtain⟨o,es,ep,b1,b2,b3,b4⟩:=id dd;have da:s1.heap.DictAt (Ys X.prog X.w) a vs ep:=⟨o,es,b1,b2,b3,b4⟩;have hlen:vs.length=kvs.length:=rel.length.symm
 have If:Inv X pins U (_d H1 a (.frz o (.dK kvs))) s1 :=
  I1.write (x:=a) (e:=a) (o:=.frz o (.dK kvs)) (h':=s1.heap) (t':=s1.toks) (by rw[ha];exact True.intro) (.inl rfl) (λb u _ e=>e) ⟨o,b1⟩ ⟨b1,z,hd,vs,rel,dd⟩
 refine wpAny_pyIter_dict hd da ?_;refine⟨s1.heap.objs.size,[s1.heap.objs.size],_,_,_,rfl,If.kept (t':=s1.toks) λb o e=>Qr _ e,_hV a _ o kvs es ep b3,⟨_,Qw _ rfl,rfl,by rw[hlen];rfl⟩,λb hb=>?_,q o⟩;have e:b=s1.heap.objs.size:=by simpa using hb
 subst e;exact If.fpOk (Qg _) (If.hok.fresh (Qg _))
def _cU (D:Addr) (H H':Hp):Prop:=∀b u,b≠D->H b=some u->H' b=some u
def _mA (t:TS):TS:=λD U H=>∃d kvs,H d=some (.dK kvs)/\t { nx:=λσ' H'=>∃o,H' d=some (.frz o (.dK kvs))/\D.nx σ' (_d H' d (.dK kvs)),rt:=λ_ _=>False } U H
theorem _mH {st:Stmt} {t:TS} (hs:PS X st t):PS X st (_mA t):=by
 intro pins s U H D I h;obtain⟨d,kvs,hd,h⟩:=h
 have n:∀o u,X.H₀ d≠some (.frz o u):=λo u z=>by
  have:=I.base.frzs d o u z;rw[hd] at this;cases this
 refine _w (hs pins s U H _ I h) λfl s1 q=>?_;cases fl with
 |next =>
  obtain⟨σ1,H1,I1,o,e1,q1⟩:=q;exact⟨σ1,_,I1.thaw e1 n,q1⟩
 |brk=>obtain⟨σ1,H1,I1,z⟩:=q;exact z.elim
 |cont=>obtain⟨σ1,H1,I1,z⟩:=q;exact z.elim
 |ret u=>obtain⟨v,σ1,H1,I1,r,z⟩:=q;exact z.elim
structure FunD (K:W.Frag) (x qual:Str) (st:Stmt) (f:Addr) (fd:FuncData) (dV:Value):Prop where
 ex:∃(oc:Value) (od:B9) (kV doc pm:Value) (an:B9) (cdv ct:Value) (osl:Array B4),
  fd=W.fnOf x qual (Xu st) (Y2 st) (_C st) dV kV doc pm an cdv ct/\K.lookup f=some ⟨oc,od,.func fd,osl⟩/\W.codeIn K cdv qual=true
 kp:W.keepIn K (.ref f)=true
theorem FunD.okX {P:Program} {w:World} {K:W.Frag} {mg:Str->B4} {base:Heap} {CX:Yu} {qual:Str} {st:Stmt} {f:Addr} {fd:FuncData} {dV:Value} {N ps:A9} {k:Nat} {sp:Sp} (F:FunD K x qual st f fd dV) (S:FnScope N ps (_C st))
 (len:∀vs H Q E,sp vs H Q E->vs.length=ps.length)
 (hbody:∀(cdv:Value) (A:Around) (outer:C4) (s:Shared) (H:Hp) (vs:List V) (Q:VK) (E:XK),Room k (A.deeper (envOfC qual (_C st) s.heap.objs.size f cdv))->sp vs H Q E →
 ∃t,PSs (_O CX P w K mg base N qual (_C st) f cdv A outer s H E) (Y2 st) t/\t { nx:=λ_ H'=>Q .non H',rt:=Q } (start N vs) H):FnOk P w K mg base CX (k+1) f fd ps sp:=by
 obtain⟨oc,od,kV,doc,pm,an,cdv,ct,osl,rfl,lk,hcd⟩:=F.ex;exact _d0 lk hcd S len λA outer s H vs Q E hr hsp=>hbody cdv A outer s H vs Q E hr hsp
theorem funD_mk {K:W.Frag} {qual:Str} {st:Stmt} {f:Addr} {oc:Value} {od an:B9} {osl:Array B4} {dV kV doc pm cdv ct:Value} (l:K.lookup f=some ⟨oc,od,.func (W.fnOf x qual (Xu st) (Y2 st) (_C st) dV kV doc pm an cdv ct),osl⟩)
 (c:W.codeIn K cdv qual=true) (k:W.keepIn K (.ref f)=true):FunD K x qual st f (W.fnOf x qual (Xu st) (Y2 st) (_C st) dV kV doc pm an cdv ct) dV:=⟨⟨oc,od,kV,doc,pm,an,cdv,ct,osl,rfl,l,c⟩,k⟩
section
variable{body suite:List Stmt} {b₀:Stmt} {n:Str} {C:Addr} {np hpos pos:Pos} {bmB:B1} {newId:String} {i:Nat} {tb:XS->TS} {ts:TS}
end
theorem _mO {n:Nat} {P:Nat->V->Prop} {g:TG} {tb:TS} {D:Ends} {U:St} {H:Hp} (Pv:Nat->St->Hp->Prop) (h0:Pv 0 U H)
 (hs:∀i x U H,i<n->P i x->Pv i U H->g x U H λσ2 H2=>tb { D with nx:=Pv (i+1),ct:=Pv (i+1),bk:=D.nx } σ2 H2) (hd:∀U H,Pv n U H->D.nx U H) :
  ∃W:Nat->Nat->St->Hp->Prop,(∃m,W 0 m U H)/\∀i m U H,W i m U H →
   ((Jg n P).stop i H/\D.nx U H)\/((Jg n P).go i H/\∃N:St->Hp->Prop,(∀σ' H',N σ' H'->∃m',m'<m/\W (i+1) m' σ' H')/\∀x H',(Jg n P).yld i H x H'->g x U H' λσ2 H2=>tb { D with nx:=N,ct:=N,bk:=D.nx } σ2 H2):=by
 refine⟨λi m U H=>m=n-i/\i<=n/\Pv i U H,⟨n,by simp,QN _,h0⟩,?_⟩;rintro i m U H ⟨rfl,hi,p⟩;by_cases hlt:i<n
 ·refine .inr ⟨hlt,Pv (i+1),λσ' H' p'=>⟨n-(i+1),by lia,rfl,hlt,p'⟩,λx H' y=>?_⟩;obtain⟨e,y⟩:=y;subst e;exact hs i x U _ hlt y p
 ·have e:i=n:=by lia
  subst e;exact .inl ⟨rfl,hd U H p⟩
end L2
namespace SA
open PySem PyProof.Rows
variable{A:Around} {a arr b out y:Array Keyed} {R:Array Keyed->Prop} {Q:Array Keyed->SortSt->Prop} {O:KeyOrd} {x:Keyed} {rs:List (List Keyed)} {B P S l:List Keyed} {M:Model} {hint i j n nrem:Nat} {I J:Nat->Nat->Array Keyed->Prop} {s:Shared} {E:Value->Shared->Prop}
noncomputable def XT:Bool->Keyed->Array Keyed->Nat->Nat->Nat->StateT SortSt Sem C6:=sortPriv% PySem.Builtin.gallop
noncomputable def Va (left:Bool) (k:Keyed) (arr:Array Keyed) (b i:Nat):StateT SortSt Sem (Option Bool) :=
 elem' arr (b+i) >>= λx=>if left=true then lt' x k else lt' k x >>= λr=>pure (r.map λy=>!y)
section
theorem _bU {P:Nat->Bool} {F:Nat->StateT SortSt Sem (Option Bool)} {st:SortSt} {Q:Option C6×Nat×Nat->SortSt->Prop}
 (hF:∀i,i<n->∀Q:Option Bool->SortSt->Prop,Q (some (P i)) st->wpS M A E s (F i) Q st) (mono:∀i j,i<=j->j<n->P j=true->P i=true) {lo hi:Nat}
 (h1:lo<=hi) (h2:hi<=n) (h3:∀i,i<lo->P i=true) (h4:∀i,hi<=i->i<n->P i=false)
 (h:∀r,r<=n->(∀i,i<r->P i=true)->(∀i,r<=i->i<n->P i=false)->Q (none,r,r) st) :
  wpS M A E s (forIn [0:n] ((none,lo,hi):Option C6×Nat×Nat) λx c =>
   if c.2.1 ≥ c.2.2 then pure (ForInStep.done (none,c.2.1,c.2.2))
   else F (c.2.1+(c.2.2-c.2.1)/2) >>= λy=>match y with
    |some more=>if more=true then pure (ForInStep.yield (none,c.2.1+(c.2.2-c.2.1)/2+1,c.2.2)) else pure (ForInStep.yield (none,c.2.1,c.2.1+(c.2.2-c.2.1)/2))
    |x=>pure (ForInStep.done (some none,c.2.1,c.2.2))) Q st:=by
 refine Q3 (I:=λx c st'=>st'=st/\c.1=none/\c.2.1<=c.2.2/\c.2.2<=n/\c.2.2-c.2.1<=n-x/\(∀i,i<c.2.1->P i=true)/\(∀i,c.2.2<=i->i<n->P i=false)) ?step ?fin
  ⟨rfl,rfl,h1,h2,by dsimp only;lia,h3,h4⟩
 case fin =>
  rintro⟨r,l,u⟩ st' ⟨rfl,e,a1,a2,a3,a4,a5⟩;dsimp only at e a1 a2 a3 a4 a5;subst e;obtain rfl:l=u:=by lia
  exact h _ a2 a4 a5
 case step =>
  rintro x ⟨r,l,u⟩ st' _ hx ⟨rfl,e,a1,a2,a3,a4,a5⟩;dsimp only at e a1 a2 a3 a4 a5 ⊢;subst e;by_cases hlu:l ≥ u
  ·rw[Qb hlu];obtain rfl:l=u:=by lia
   exact Qf (h _ a2 a4 a5)
  ·rw[Qa hlu];have hm:l+(u-l)/2<u:=by lia
   refine Qe (hF _ (by lia) _ ?_);dsimp only;cases hp:P (l+(u-l)/2)
   ·rw[Qa (by simp)];refine Qf ⟨rfl,rfl,by dsimp only;lia,by dsimp only;lia,by dsimp only;lia,a4,λi hi hn=>?_⟩;cases hpi:P i
    ·rfl
    ·have:=mono _ _ hi hn hpi;rw[hp] at this;cases this
   ·rw[Qb rfl];refine Qf ⟨rfl,rfl,by dsimp only;lia,a2,by dsimp only;lia,λi hi=>mono i _ (by dsimp only at hi;lia) (by lia) hp,a5⟩
theorem _b0 {left:Bool} {k:Keyed} {b:Nat} {st:SortSt} {Q:C6->SortSt->Prop} (P:Nat->Bool) (hn:hint<n)
 (hF:∀i,i<n->∀Q:Option Bool->SortSt->Prop,Q (some (P i)) st->wpS M A E s (Va left k arr b i) Q st) (mono:∀i j,i<=j->j<n->P j=true->P i=true)
 (h:∀r,r<=n->(∀i,i<r->P i=true)->(∀i,r<=i->i<n->P i=false)->Q (some r) st):wpS M A E s (XT left k arr b n hint) Q st:=by
 delta XT
 refine Qe (m:=Va left k arr b hint) (hF _ hn _ ?_);dsimp only;cases hp:P hint
 ·rw[Qa (by simp)]
  refine Qe (Rc (Q3 (I:=λx c st'=>st'=st/\c.1=none/\c.2.1<c.2.2/\c.2.1<=hint/\x+1<=c.2.2/\P (hint-c.2.1)=false)
   (Q:=λc st'=>st'=st/\c.1=none/\c.2.1<c.2.2/\c.2.1<=hint/\P (hint-c.2.1)=false/\(hint+1<=c.2.2\/(c.2.2<=hint/\P (hint-c.2.2)=true))) ?step ?fin
   ⟨rfl,rfl,by dsimp only;lia,by dsimp only;lia,by dsimp only;lia,by simpa using hp⟩) ?post)
  case fin =>
   rintro⟨r,l,u⟩ st' ⟨rfl,e,a1,a2,a3,a4⟩;dsimp only at *;exact⟨rfl,e,a1,a2,a4,.inl (by lia)⟩
  case step =>
   rintro x ⟨r,l,u⟩ st' _ hx ⟨rfl,e,a1,a2,a3,a4⟩;dsimp only at e a1 a2 a3 a4 ⊢;subst e;by_cases hu:u ≥ hint+1
   ·rw[Qb hu];exact Qf ⟨rfl,rfl,a1,a2,a4,.inl hu⟩
   ·rw[Qa hu];refine Qe (m:=Va left k arr b (hint-u)) (hF _ (by lia) _ ?_);dsimp only;cases hq:P (hint-u)
    ·rw[Qa (by simp)];exact Qf ⟨rfl,rfl,by dsimp only;lia,by dsimp only;lia,by dsimp only;lia,hq⟩
    ·rw[Qb rfl];exact Qf ⟨rfl,rfl,a1,a2,a4,.inr ⟨by dsimp only;lia,hq⟩⟩
  case post =>
   rintro⟨r,l,u⟩ st' ⟨rfl,e,a1,a2,a4,a5⟩;dsimp only at e a1 a2 a4 a5 ⊢;subst e;dsimp only;refine Qe (_bU (F:=Va left k arr b) (P:=P) hF mono (by lia) (by lia) ?_ ?_ λr b1 b2 b3=>?_)
   ·intro i hi;rcases a5 with a5|⟨a5,a6⟩
    ·lia
    ·exact mono i _ (by lia) (by lia) a6
   ·intro i hi hin;cases hpi:P i
    ·rfl
    ·have:=mono _ _ hi hin hpi;rw[a4] at this;cases this
   ·dsimp only;exact Qf (h r b1 b2 b3)
 ·rw[Qb rfl]
  refine Qe (Rc (Q3 (I:=λx c st'=>st'=st/\c.1=none/\c.2.1<c.2.2/\hint+c.2.1<n/\x+1<=c.2.2/\P (hint+c.2.1)=true)
   (Q:=λc st'=>st'=st/\c.1=none/\c.2.1<c.2.2/\hint+c.2.1<n/\P (hint+c.2.1)=true/\(n<=hint+c.2.2\/(hint+c.2.2<n/\P (hint+c.2.2)=false))) ?step ?fin
   ⟨rfl,rfl,by dsimp only;lia,by dsimp only;lia,by dsimp only;lia,by simpa using hp⟩) ?post)
  case fin =>
   rintro⟨r,l,u⟩ st' ⟨rfl,e,a1,a2,a3,a4⟩;dsimp only at *;exact⟨rfl,e,a1,a2,a4,.inl (by lia)⟩
  case step =>
   rintro x ⟨r,l,u⟩ st' _ hx ⟨rfl,e,a1,a2,a3,a4⟩;dsimp only at e a1 a2 a3 a4 ⊢;subst e;by_cases hu:u ≥ n-hint
   ·rw[Qb hu];exact Qf ⟨rfl,rfl,a1,a2,a4,.inl (by dsimp only;lia)⟩
   ·rw[Qa hu];refine Qe (m:=Va left k arr b (hint+u)) (hF _ (by lia) _ ?_);dsimp only;cases hq:P (hint+u)
    ·rw[Qb (by simp)];exact Qf ⟨rfl,rfl,a1,a2,a4,.inr ⟨by dsimp only;lia,hq⟩⟩
    ·rw[Qa (by simp)];exact Qf ⟨rfl,rfl,by dsimp only;lia,by dsimp only;lia,by dsimp only;lia,hq⟩
  case post =>
   rintro⟨r,l,u⟩ st' ⟨rfl,e,a1,a2,a4,a5⟩;dsimp only at e a1 a2 a4 a5 ⊢;subst e;dsimp only;refine Qe (_bU (F:=Va left k arr b) (P:=P) hF mono (by lia) (by lia) ?_ ?_ λr b1 b2 b3=>?_)
   ·intro i hi;exact mono i _ (by lia) (by lia) a4
   ·intro i hi hin;rcases a5 with a5|⟨a5,a6⟩
    ·lia
    ·cases hpi:P i
     ·rfl
     ·have:=mono _ _ (show hint+u<=i by lia) hin hpi;rw[a6] at this;cases this
   ·dsimp only;exact Qf (h r b1 b2 b3)
def Y1 (M:Model) (A:Around) (E:Value->Shared->Prop) (s:Shared) (O:KeyOrd) (key:Keyed->O.α) (D:Keyed->Prop) (kd:SortKind):Prop :=
 ∀(x y:Keyed) (st:SortSt) (Q:Option Bool->SortSt->Prop),D x->D y->kindOf st=kd->Q (some (O.blt (key x) (key y))) st->wpS M A E s (lt' x y) Q st
variable{key:Keyed->O.α} {D:Keyed->Prop} {kd:SortKind}
theorem _3 {st:SortSt} {Q:Keyed->SortSt->Prop} (hx:arr[i]?=some x) (h:Q x st):wpS M A E s (elem' arr i) Q st:=by
 rw[elem'_eq,hx];exact Qf h
theorem _f5 (hc:Y1 M A E s O key D kd) {left:Bool} {k:Keyed} {b:Nat} {st:SortSt} {Q:Option Bool->SortSt->Prop} (hk:kindOf st=kd) (hx:arr[b+i]?=some x) (dx:D x) (dk:D k)
 (h:Q (some (if left=true then O.blt (key x) (key k) else !O.blt (key k) (key x))) st):wpS M A E s (Va left k arr b i) Q st:=by
 unfold Va;refine Qe (_3 hx ?_);cases left
 ·rw[Qa (by simp)] at h ⊢;exact Qe (hc _ _ _ _ dk dx hk (Qf h))
 ·rw[Qb rfl] at h ⊢;exact hc _ _ _ _ dx dk hk h
def Up (O:KeyOrd) (key:Keyed->O.α) (a:Array Keyed) (lo hi:Nat):Prop:=∀i j x y,lo<=i->i<=j->j<hi->a[i]?=some x->a[j]?=some y->O.kle (key x) (key y)
theorem _5 (h:i<a.size):∃x,a[i]?=some x:=⟨a[i],RG a i h⟩
noncomputable def WE (O:KeyOrd) (key:Keyed->O.α) (a:Array Keyed) (d:O.α) (i:Nat):O.α:=match a[i]? with|some x=>key x|none=>d
theorem XF {d:O.α} (h:a[i]?=some x):WE O key a d i=key x:=by unfold WE;rw[h]
theorem _bp (hc:Y1 M A E s O key D kd) {k:Keyed} {b:Nat} {st:SortSt} {Q:C6->SortSt->Prop} (hk:kindOf st=kd) (dk:D k) (hD:∀(i:Nat) x,arr[i]?=some x->D x)
 (hn:hint<n) (hs:b+n<=arr.size) (up:Up O key arr b (b+n))
 (h:∀r,r<=n->(∀i x,i<r->arr[b+i]?=some x->O.blt (key k) (key x)=false)->(∀i x,r<=i->i<n->arr[b+i]?=some x->O.blt (key k) (key x)=true)->Q (some r) st) :
  wpS M A E s (XT false k arr b n hint) Q st:=by
 refine _b0 (P:=λi=>!O.blt (key k) (WE O key arr (key k) (b+i))) hn ?_ ?_ ?_
 ·intro i hi Q hQ;obtain⟨x,hx⟩:=_5 (a:=arr) (i:=b+i) (by lia);refine _f5 hc hk hx (hD _ _ hx) dk ?_;rw[Qa (by simp)];rw[XF hx] at hQ;exact hQ
 ·intro i j hij hj hp;obtain⟨x,hx⟩:=_5 (a:=arr) (i:=b+i) (by lia);obtain⟨y,hy⟩:=_5 (a:=arr) (i:=b+j) (by lia);rw[XF hy] at hp;rw[XF hx];simp only[Nr] at hp ⊢;exact Re (up _ _ _ _ (by lia) (by lia) (by lia) hx hy) hp
 ·intro r h1 h2 h3;refine h r h1 (λi x hi hx=>?_) (λi x hi hn hx=>?_)
  ·have:=h2 i hi;rw[XF hx] at this;simpa using this
  ·have:=h3 i hi hn;rw[XF hx] at this;simpa using this
theorem U0 (hc:Y1 M A E s O key D kd) {k:Keyed} {b:Nat} {st:SortSt} {Q:C6->SortSt->Prop} (hk:kindOf st=kd) (dk:D k) (hD:∀(i:Nat) x,arr[i]?=some x->D x)
 (hn:hint<n) (hs:b+n<=arr.size) (up:Up O key arr b (b+n))
 (h:∀r,r<=n->(∀i x,i<r->arr[b+i]?=some x->O.blt (key x) (key k)=true)->(∀i x,r<=i->i<n->arr[b+i]?=some x->O.blt (key x) (key k)=false)->Q (some r) st) :
  wpS M A E s (XT true k arr b n hint) Q st:=by
 refine _b0 (P:=λi=>O.blt (WE O key arr (key k) (b+i)) (key k)) hn ?_ ?_ ?_
 ·intro i hi Q hQ;obtain⟨x,hx⟩:=_5 (a:=arr) (i:=b+i) (by lia);refine _f5 hc hk hx (hD _ _ hx) dk ?_;rw[Qb rfl];rw[XF hx] at hQ;exact hQ
 ·intro i j hij hj hp;obtain⟨x,hx⟩:=_5 (a:=arr) (i:=b+i) (by lia);obtain⟨y,hy⟩:=_5 (a:=arr) (i:=b+j) (by lia);rw[XF hy] at hp;rw[XF hx];exact KeyOrd.klt_of_kle_of_klt (up _ _ _ _ (by lia) (by lia) (by lia) hx hy) hp
 ·intro r h1 h2 h3;refine h r h1 (λi x hi hx=>?_) (λi x hi hn hx=>?_)
  ·have:=h2 i hi;rw[XF hx] at this;exact this
  ·have:=h3 i hi hn;rw[XF hx] at this;exact this
end
noncomputable def JR:Array Keyed->Array Keyed->StateT SortSt Sem (Array Keyed):=sortPriv% PySem.Builtin.mergeLo
def YZ (st st':SortSt):Prop:=kindOf st'=kindOf st/\arrOf st'=arrOf st/\pendingOf st'=pendingOf st/\failedOf st'=failedOf st
section
variable{key:Keyed->O.α} {D:Keyed->Prop} {kd:SortKind}
structure FrontI (O:KeyOrd) (key:Keyed->O.α) (a b:Array Keyed) (I:Nat->Nat->Array Keyed->Prop) (R:Array Keyed->Prop):Prop where
 mA:∀ia ib out x y,I ia ib out->a[ia]?=some x->b[ib]?=some y->O.blt (key y) (key x)=false->I (ia+1) ib (out.push x)
 mB:∀ia ib out x y,I ia ib out->a[ia]?=some x->b[ib]?=some y->O.blt (key y) (key x)=true->I ia (ib+1) (out.push y)
 eB:∀ia ib out,I ia ib out->ib=b.size->R (out++a.extract ia a.size++b.extract ib b.size)
 eA:∀ia ib out,I ia ib out->ia=a.size->R (out++a.extract ia a.size++b.extract ib b.size)
 eL:∀ia ib out,I ia ib out->ia+1=a.size->R (out++b.extract ib b.size++a.extract ia a.size)
theorem _ar (a:Array Keyed) (i:Nat) (out:Array Keyed):out++a.extract i i=out:=by
 have:a.extract i i=#[]:=Mq (by rw[Array.size_extract];lia);rw[this];simp
theorem _bb {k:Nat} (h:a[i+k]?=some x):(out++a.extract i (i+k)).push x=out++a.extract i (i+(k+1)):=by
 have hlt:i+k<a.size:=by
  rcases Rg (i+k) a.size with h'|h'
  ·exact h'
  ·rw[R9 h'] at h;cases h
 have e:a[i+k]=x:=by rw[RG a _ hlt] at h;injection h
 rw[<-Array.append_push,<-e,Array.push_extract_getElem]
 congr 2;lia
theorem FrontI.bulkA (F:FrontI O key a b I R) {ia ib:Nat} {y:Keyed} (hy:b[ib]?=some y) (h:I ia ib out) :
  ∀k,ia+k<=a.size->(∀i x,i<k->a[ia+i]?=some x->O.blt (key y) (key x)=false)->I (ia+k) ib (out++a.extract ia (ia+k))
 |0,_,_=>by rw[Gv,_ar];exact h
 |k+1,h1,h2=>by
  obtain⟨x,hx⟩:=_5 (a:=a) (i:=ia+k) (by lia);have z:=F.mA _ _ _ x y (F.bulkA hy h k (by lia) λi x hi=>h2 i x (by lia)) hx hy (h2 k x (by lia) hx);rw[_bb hx] at z;exact z
theorem FrontI.bulkB (F:FrontI O key a b I R) {ia ib:Nat} (hx:a[ia]?=some x) (h:I ia ib out) :
  ∀k,ib+k<=b.size->(∀i y,i<k->b[ib+i]?=some y->O.blt (key y) (key x)=true)->I ia (ib+k) (out++b.extract ib (ib+k))
 |0,_,_=>by rw[Gv,_ar];exact h
 |k+1,h1,h2=>by
  obtain⟨y,hy⟩:=_5 (a:=b) (i:=ib+k) (by lia);have z:=F.mB _ _ _ x y (F.bulkB hx h k (by lia) λi y hi=>h2 i y (by lia)) hx hy (h2 k y (by lia) hy);rw[_bb hy] at z;exact z
theorem _lU (hc:Y1 M A E s O key D kd) (F:FrontI O key a b I R) {st:SortSt} (hk:kindOf st=kd)
 (dA:∀(i:Nat) x,a[i]?=some x->D x) (dB:∀(i:Nat) x,b[i]?=some x->D x) (upA:Up O key a 0 a.size) (upB:Up O key b 0 b.size) (ha:0<a.size) {y0:Keyed} (hb:b[0]?=some y0) (h0:I 0 1 #[y0])
 (h:∀r st',YZ st st'->R r->Q r st'):wpS M A E s (JR a b) Q st:=by
 have hb0:0<b.size:=by
  rcases Rg 0 b.size with h'|h'
  ·exact h'
  ·rw[R9 h'] at hb;cases hb
 delta JR
 refine Qe (RW (Rk ⟨rfl,?_⟩));refine Qe (m:=elem' b 0) (_3 hb ?_)
 try dsimp only
 by_cases e1:1=b.size
 ·rw[Qb (by simpa using e1)];exact Qf (h _ _ ⟨rfl,rfl,rfl,rfl⟩ (F.eB _ _ _ h0 e1))
 rw[Qa (by simpa using e1)];by_cases e2:0+1=a.size
 ·rw[Qb (by simpa using e2)];exact Qf (h _ _ ⟨rfl,rfl,rfl,rfl⟩ (F.eL _ _ _ h0 e2))
 rw[Qa (by simpa using e2)];refine Qe (Rr ?_)
 try dsimp only
 refine Qe (Rc (Q3 (I:=λx c st'=>YZ st st'/\c.1=none/\I c.2.2.1 c.2.2.2.1 c.2.1/\c.2.2.1+1<a.size/\c.2.2.2.1<b.size/\x<=c.2.2.1+c.2.2.2.1)
  (Q:=λc st'=>YZ st st'/\∃r,c.1=some r/\R r) ?step ?fin ⟨⟨rfl,rfl,rfl,rfl⟩,rfl,h0,by dsimp only;lia,by dsimp only;lia,QN _⟩) ?post)
 case fin =>
  rintro⟨r,out,ia,ib,g⟩ st' ⟨q,e,i1,i2,i3,i4⟩;dsimp only at e i1 i2 i3 i4;lia
 case post =>
  rintro⟨r,out,ia,ib,g⟩ st' ⟨q,r',e,i1⟩;dsimp only at e;subst e;exact Qf (h _ _ q i1)
 case step =>
  rintro z ⟨r,out,ia,ib,g⟩ st1 _ hz ⟨q1,e,i1,i2,i3,i4⟩;dsimp only at e i1 i2 i3 i4 ⊢;subst e
  refine Qe (Rc (Q3 (I:=λx c st'=>YZ st st'/\c.1=none/\I c.2.2.1 c.2.2.2.1 c.2.1/\c.2.2.1+1<a.size/\c.2.2.2.1<b.size/\ia+ib+x<=c.2.2.1+c.2.2.2.1)
   (Q:=λc st'=>YZ st st'/\((∃r,c.1=some r/\R r)\/(c.1=none/\I c.2.2.1 c.2.2.2.1 c.2.1/\c.2.2.1+1<a.size/\c.2.2.2.1<b.size/\ia+ib+1<=c.2.2.1+c.2.2.2.1))) ?step1 ?fin1
   ⟨q1,rfl,i1,i2,i3,by dsimp only;lia⟩) ?post1)
  case fin1 =>
   rintro⟨r,out,ja,jb,ac,bc⟩ st' ⟨q,e,j1,j2,j3,j4⟩;dsimp only at e j1 j2 j3 j4;lia
  case step1 =>
   rintro x ⟨r,out,ja,jb,ac,bc⟩ st' _ hx ⟨q,e,j1,j2,j3,j4⟩;dsimp only at e j1 j2 j3 j4 ⊢;subst e;obtain⟨u,hu⟩:=_5 (a:=a) (i:=ja) (by lia);obtain⟨v,hv⟩:=_5 (a:=b) (i:=jb) (by lia);refine Qe (m:=elem' b jb) (_3 hv ?_);refine Qe (m:=elem' a ja) (_3 hu ?_);refine Qe (m:=lt' v u) (hc _ _ _ _ (dB _ _ hv) (dA _ _ hu) (q.1.trans hk) ?_)
   try dsimp only
   cases hl:O.blt (key v) (key u)
   ·rw[Qa (by simp)];refine Qe (m:=elem' a ja) (_3 hu ?_)
    try dsimp only
    have k1:=F.mA _ _ _ _ _ j1 hu hv hl;by_cases e3:ja+1+1=a.size
    ·rw[Qb (by simpa using e3)];exact Qf ⟨q,.inl ⟨_,rfl,F.eL _ _ _ k1 e3⟩⟩
    ·rw[Qa (by simpa using e3)];split
     ·exact Qf ⟨q,.inr ⟨rfl,k1,by dsimp only;lia,j3,by dsimp only;lia⟩⟩
     ·exact Qf ⟨q,rfl,k1,by dsimp only;lia,j3,by dsimp only;lia⟩
   ·rw[Qb rfl];refine Qe (m:=elem' b jb) (_3 hv ?_)
    try dsimp only
    have k1:=F.mB _ _ _ _ _ j1 hu hv hl;by_cases e3:jb+1=b.size
    ·rw[Qb (by simpa using e3)];exact Qf ⟨q,.inl ⟨_,rfl,F.eB _ _ _ k1 e3⟩⟩
    ·rw[Qa (by simpa using e3)];split
     ·exact Qf ⟨q,.inr ⟨rfl,k1,j2,by dsimp only;lia,by dsimp only;lia⟩⟩
     ·exact Qf ⟨q,rfl,k1,j2,by dsimp only;lia,by dsimp only;lia⟩
  case post1 =>
   rintro⟨r,out,ja,jb,ac,bc⟩ st2 ⟨q2,⟨r',e,hR⟩|⟨e,j1,j2,j3,j4⟩⟩
   ·dsimp only at e ⊢;subst e;exact Qf ⟨q2,_,rfl,hR⟩
   ·dsimp only at e j1 j2 j3 j4 ⊢;subst e
    try dsimp only
    refine Qe (RW (Rk ⟨rfl,?_⟩))
    refine Qe (Rc (Q3 (I:=λx c st'=>YZ st st'/\c.1=none/\I c.2.2.1 c.2.2.2.1 c.2.1/\c.2.2.1+1<a.size/\c.2.2.2.1<b.size/\ia+ib+1<=c.2.2.1+c.2.2.2.1)
     (Q:=λc st'=>YZ st st'/\((∃r,c.1=some r/\R r)\/(c.1=none/\I c.2.2.1 c.2.2.2.1 c.2.1/\c.2.2.1+1<a.size/\c.2.2.2.1<b.size/\ia+ib+1<=c.2.2.1+c.2.2.2.1))) ?step2 ?fin2
     ⟨q2,rfl,j1,j2,j3,by dsimp only;lia⟩) ?post2)
    case fin2 =>
     rintro⟨r,out,la,lb,g2,ac2,bc2⟩ st' ⟨q,e,l1,l2,l3,l4⟩;exact⟨q,.inr ⟨e,l1,l2,l3,l4⟩⟩
    case post2 =>
     rintro⟨r,out,la,lb,g2,ac2,bc2⟩ st' ⟨q,⟨r',e,hR⟩|⟨e,l1,l2,l3,l4⟩⟩
     ·dsimp only at e ⊢;subst e;exact Qf ⟨q,_,rfl,hR⟩
     ·dsimp only at e l1 l2 l3 l4 ⊢;subst e
      try dsimp only
      refine Qe (Q9 ?_);exact Qf ⟨q,rfl,l1,l2,l3,by dsimp only;lia⟩
    case step2 =>
     rintro x ⟨r,out,la,lb,g2,ac2,bc2⟩ st3 _ hx ⟨q3,e,l1,l2,l3,l4⟩;dsimp only at e l1 l2 l3 l4 ⊢;subst e;obtain⟨v,hv⟩:=_5 (a:=b) (i:=lb) (by lia);rcases Rg 1 g2 with hg|hg
     all_goals
      first|rw[Qb hg]|rw[Qa (Nat.not_lt.mpr hg)]
      refine Qe (Q9 ?_);refine Qe (m:=elem' b lb) (_3 hv ?_);refine Qe (m:=XT false v a la (a.size-la) 0) (_bp hc (q3.1.trans hk) (dB _ _ hv) dA (by lia) (by lia) (λi j x y h1 h2 h3 h4 h5=>upA i j x y (by lia) h2 (by lia) h4 h5) λk k1 k2 k3=>?_)
      try dsimp only
      by_cases hk0:k > 0
      ·rw[Qb hk0];have m1:=F.bulkA hv l1 k (by lia) k2;by_cases e3:la+k+1=a.size
       ·rw[Qb (by simpa using e3)];exact Qf ⟨q3,.inl ⟨_,rfl,F.eL _ _ _ m1 e3⟩⟩
       rw[Qa (by simpa using e3)];by_cases e4:la+k=a.size
       ·rw[Qb (by simpa using e4)];exact Qf ⟨q3,.inl ⟨_,rfl,F.eA _ _ _ m1 e4⟩⟩
       rw[Qa (by simpa using e4)];have nx:∀u,a[la+k]?=some u->O.blt (key v) (key u)=true:=λu hu=>k3 k u (Qg _) (by lia) hu;generalize out++a.extract la (la+k)=out1 at m1 ⊢;obtain⟨la1,hla⟩:∃n,n=la+k:=⟨_,rfl⟩;rw[<-hla] at m1 nx e3 e4 ⊢;obtain⟨u,hu⟩:=_5 (a:=a) (i:=la1) (by lia);refine Qe (m:=elem' b lb) (_3 hv ?_)
       try dsimp only
       have m2:=F.mB _ _ _ _ _ m1 hu hv (nx u hu);by_cases e5:lb+1=b.size
       ·rw[Qb (by simpa using e5)];exact Qf ⟨q3,.inl ⟨_,rfl,F.eB _ _ _ m2 e5⟩⟩
       rw[Qa (by simpa using e5)];refine Qe (m:=elem' a la1) (_3 hu ?_);refine Qe (m:=XT true u b (lb+1) (b.size-(lb+1)) 0) (U0 hc (q3.1.trans hk) (dA _ _ hu) dB (by lia) (by lia) (λi j x y h1 h2 h3 h4 h5=>upB i j x y (by lia) h2 (by lia) h4 h5) λk' k1' k2' k3'=>?_)
       try dsimp only
       by_cases hk1:k' > 0
       ·rw[Qb hk1];have m3:=F.bulkB hu m2 k' (by lia) k2';by_cases e6:lb+1+k'=b.size
        ·rw[Qb (by simpa using e6)];exact Qf ⟨q3,.inl ⟨_,rfl,F.eB _ _ _ m3 e6⟩⟩
        ·rw[Qa (by simpa using e6)];obtain⟨v2,hv2⟩:=_5 (a:=b) (i:=lb+1+k') (by lia);have hl2:=k3' k' v2 (Qg _) (by lia) hv2;refine Qe (m:=elem' a la1) (_3 hu ?_)
         try dsimp only
         have m4:=F.mA _ _ _ _ _ m3 hu hv2 hl2;by_cases e7:la1+1+1=a.size
         ·rw[Qb (by simpa using e7)];exact Qf ⟨q3,.inl ⟨_,rfl,F.eL _ _ _ m4 e7⟩⟩
         ·rw[Qa (by simpa using e7)];split
          ·exact Qf ⟨q3,.inr ⟨rfl,m4,by dsimp only;lia,by dsimp only;lia,by dsimp only;lia⟩⟩
          ·exact Qf ⟨q3,rfl,m4,by dsimp only;lia,by dsimp only;lia,by dsimp only;lia⟩
       ·rw[Qa hk1];obtain rfl:k'=0:=by lia
        have m3:=m2;obtain⟨v2,hv2⟩:=_5 (a:=b) (i:=lb+1) (by lia);have hl2:=k3' 0 v2 (Qg _) (by lia) hv2;refine Qe (m:=elem' a la1) (_3 hu ?_)
        try dsimp only
        have m4:=F.mA _ _ _ _ _ m3 hu hv2 hl2;by_cases e7:la1+1+1=a.size
        ·rw[Qb (by simpa using e7)];exact Qf ⟨q3,.inl ⟨_,rfl,F.eL _ _ _ m4 e7⟩⟩
        ·rw[Qa (by simpa using e7)];split
         ·exact Qf ⟨q3,.inr ⟨rfl,m4,by dsimp only;lia,by dsimp only;lia,by dsimp only;lia⟩⟩
         ·exact Qf ⟨q3,rfl,m4,by dsimp only;lia,by dsimp only;lia,by dsimp only;lia⟩
      ·rw[Qa hk0];obtain rfl:k=0:=by lia
       have m1:=l1;have nx:∀u,a[la]?=some u->O.blt (key v) (key u)=true:=λu hu=>k3 0 u (Qg _) (by lia) hu;obtain⟨la1,hla⟩:∃n,n=la:=⟨_,rfl⟩;rw[<-hla] at m1 nx ⊢;obtain⟨u,hu⟩:=_5 (a:=a) (i:=la1) (by lia);refine Qe (m:=elem' b lb) (_3 hv ?_)
       try dsimp only
       have m2:=F.mB _ _ _ _ _ m1 hu hv (nx u hu);by_cases e5:lb+1=b.size
       ·rw[Qb (by simpa using e5)];exact Qf ⟨q3,.inl ⟨_,rfl,F.eB _ _ _ m2 e5⟩⟩
       rw[Qa (by simpa using e5)];refine Qe (m:=elem' a la1) (_3 hu ?_);refine Qe (m:=XT true u b (lb+1) (b.size-(lb+1)) 0) (U0 hc (q3.1.trans hk) (dA _ _ hu) dB (by lia) (by lia) (λi j x y h1 h2 h3 h4 h5=>upB i j x y (by lia) h2 (by lia) h4 h5) λk' k1' k2' k3'=>?_)
       try dsimp only
       by_cases hk1:k' > 0
       ·rw[Qb hk1];have m3:=F.bulkB hu m2 k' (by lia) k2';by_cases e6:lb+1+k'=b.size
        ·rw[Qb (by simpa using e6)];exact Qf ⟨q3,.inl ⟨_,rfl,F.eB _ _ _ m3 e6⟩⟩
        ·rw[Qa (by simpa using e6)];obtain⟨v2,hv2⟩:=_5 (a:=b) (i:=lb+1+k') (by lia);have hl2:=k3' k' v2 (Qg _) (by lia) hv2;refine Qe (m:=elem' a la1) (_3 hu ?_)
         try dsimp only
         have m4:=F.mA _ _ _ _ _ m3 hu hv2 hl2;by_cases e7:la1+1+1=a.size
         ·rw[Qb (by simpa using e7)];exact Qf ⟨q3,.inl ⟨_,rfl,F.eL _ _ _ m4 e7⟩⟩
         ·rw[Qa (by simpa using e7)];split
          ·exact Qf ⟨q3,.inr ⟨rfl,m4,by dsimp only;lia,by dsimp only;lia,by dsimp only;lia⟩⟩
          ·exact Qf ⟨q3,rfl,m4,by dsimp only;lia,by dsimp only;lia,by dsimp only;lia⟩
       ·rw[Qa hk1];obtain rfl:k'=0:=by lia
        have m3:=m2;obtain⟨v2,hv2⟩:=_5 (a:=b) (i:=lb+1) (by lia);have hl2:=k3' 0 v2 (Qg _) (by lia) hv2;refine Qe (m:=elem' a la1) (_3 hu ?_)
        try dsimp only
        have m4:=F.mA _ _ _ _ _ m3 hu hv2 hl2;by_cases e7:la1+1+1=a.size
        ·rw[Qb (by simpa using e7)];exact Qf ⟨q3,.inl ⟨_,rfl,F.eL _ _ _ m4 e7⟩⟩
        ·rw[Qa (by simpa using e7)];split
         ·exact Qf ⟨q3,.inr ⟨rfl,m4,by dsimp only;lia,by dsimp only;lia,by dsimp only;lia⟩⟩
         ·exact Qf ⟨q3,rfl,m4,by dsimp only;lia,by dsimp only;lia,by dsimp only;lia⟩
end
noncomputable def mHi:Array Keyed->Array Keyed->StateT SortSt Sem (Array Keyed):=sortPriv% PySem.Builtin.mergeHi
section
variable{key:Keyed->O.α} {D:Keyed->Prop} {kd:SortKind}
structure BackI (O:KeyOrd) (key:Keyed->O.α) (a b:Array Keyed) (J:Nat->Nat->Array Keyed->Prop) (R:Array Keyed->Prop):Prop where
 mA:∀na nb out x y,J (na+1) (nb+1) out->a[na]?=some x->b[nb]?=some y->O.blt (key y) (key x)=true->J na (nb+1) (out.push x)
 mB:∀na nb out x y,J (na+1) (nb+1) out->a[na]?=some x->b[nb]?=some y->O.blt (key y) (key x)=false->J (na+1) nb (out.push y)
 eA:∀na nb out,J na nb out->na=0->R (a.extract 0 na++b.extract 0 nb++out.reverse)
 eB:∀na nb out,J na nb out->nb=0->R (a.extract 0 na++b.extract 0 nb++out.reverse)
 eF:∀na nb out,J na nb out->nb=1->R (b.extract 0 nb++a.extract 0 na++out.reverse)
theorem _cl (a:Array Keyed) (i:Nat) (out:Array Keyed):out++(a.extract i i).reverse=out:=by
 have:a.extract i i=#[]:=Mq (by rw[Array.size_extract];lia);rw[this];simp
theorem _eE {k:Nat} (h:a[i+k]?=some x):out.push x++(a.extract i (i+k)).reverse=out++(a.extract i (i+(k+1))).reverse:=by
 have e:a.extract i (i+(k+1))=(a.extract i (i+k)).push x:=by
  have z:=_bb (out:=#[]) h;simpa using z.symm
 rw[e];apply NA.mp;simp
theorem BackI.bulkA (F:BackI O key a b J R) {at_ nb:Nat} {y:Keyed} (hy:b[nb]?=some y) :
  ∀k out,J (at_+k) (nb+1) out->at_+k<=a.size->(∀i x,at_<=i->i<at_+k->a[i]?=some x->O.blt (key y) (key x)=true)->J at_ (nb+1) (out++(a.extract at_ (at_+k)).reverse)
 |0,out,h,_,_=>by show J at_ (nb+1) (out++(a.extract at_ at_).reverse);rw[_cl];exact h
 |k+1,out,h,h1,h2=>by
  obtain⟨x,hx⟩:=_5 (a:=a) (i:=at_+k) (by lia);have z:=F.bulkA hy k (out.push x) (F.mA _ _ _ x y h hx hy (h2 _ x (by lia) (by lia) hx)) (by lia) λi x h3 h4=>h2 i x h3 (by lia);rw[_eE hx] at z;exact z
theorem BackI.bulkB (F:BackI O key a b J R) {at_ na:Nat} (hx:a[na]?=some x) :
  ∀k out,J (na+1) (at_+k) out->at_+k<=b.size->(∀i y,at_<=i->i<at_+k->b[i]?=some y->O.blt (key y) (key x)=false)->J (na+1) at_ (out++(b.extract at_ (at_+k)).reverse)
 |0,out,h,_,_=>by show J (na+1) at_ (out++(b.extract at_ at_).reverse);rw[_cl];exact h
 |k+1,out,h,h1,h2=>by
  obtain⟨y,hy⟩:=_5 (a:=b) (i:=at_+k) (by lia);have z:=F.bulkB hx k (out.push y) (F.mB _ _ _ x y h hx hy (h2 _ y (by lia) (by lia) hy)) (by lia) λi x h3 h4=>h2 i x h3 (by lia);rw[_eE hy] at z;exact z
theorem _i0 (hc:Y1 M A E s O key D kd) (F:BackI O key a b J R) {st:SortSt} (hk:kindOf st=kd)
 (dA:∀(i:Nat) x,a[i]?=some x->D x) (dB:∀(i:Nat) x,b[i]?=some x->D x) (upA:Up O key a 0 a.size) (upB:Up O key b 0 b.size) (hb:0<b.size) {x0:Keyed} (ha:a[a.size-1]?=some x0) (h0:J (a.size-1) b.size #[x0])
 (h:∀r st',YZ st st'->R r->Q r st'):wpS M A E s (mHi a b) Q st:=by
 have ha0:0<a.size:=by
  rcases Rg 0 a.size with h'|h'
  ·exact h'
  ·rw[R9 (by lia)] at ha;cases ha
 delta mHi
 refine Qe (RW (Rk ⟨rfl,?_⟩));refine Qe (m:=elem' a (a.size-1)) (_3 ha ?_)
 try dsimp only
 by_cases e1:a.size-1=0
 ·rw[Qb (by simpa using e1)];exact Qf (h _ _ ⟨rfl,rfl,rfl,rfl⟩ (F.eA _ _ _ h0 e1))
 rw[Qa (by simpa using e1)];by_cases e2:b.size=1
 ·rw[Qb (by simpa using e2)];exact Qf (h _ _ ⟨rfl,rfl,rfl,rfl⟩ (F.eF _ _ _ h0 e2))
 rw[Qa (by simpa using e2)];refine Qe (Rr ?_)
 try dsimp only
 refine Qe (Rc (Q3 (I:=λx c st'=>YZ st st'/\c.1=none/\J c.2.1 c.2.2.1 c.2.2.2.1/\0<c.2.1/\c.2.1<=a.size/\1<c.2.2.1/\c.2.2.1<=b.size/\x+c.2.1+c.2.2.1<=a.size+b.size)
  (Q:=λc st'=>YZ st st'/\∃r,c.1=some r/\R r) ?step ?fin ⟨⟨rfl,rfl,rfl,rfl⟩,rfl,h0,by dsimp only;lia,by dsimp only;lia,by dsimp only;lia,by dsimp only;lia,by dsimp only;lia⟩) ?post)
 case fin =>
  rintro⟨r,na,nb,out,g⟩ st' ⟨q,e,i1,i2,i2',i3,i3',i4⟩;dsimp only at e i1 i2 i2' i3 i3' i4;lia
 case post =>
  rintro⟨r,na,nb,out,g⟩ st' ⟨q,r',e,i1⟩;dsimp only at e;subst e;exact Qf (h _ _ q i1)
 case step =>
  rintro z ⟨r,na0,nb0,out,g⟩ st1 _ hz ⟨q1,e,i1,i2,i2',i3,i3',i4⟩;dsimp only at e i1 i2 i2' i3 i3' i4 ⊢;subst e
  refine Qe (Rc (Q3 (I:=λx c st'=>YZ st st'/\c.1=none/\J c.2.1 c.2.2.1 c.2.2.2.1/\0<c.2.1/\c.2.1<=a.size/\1<c.2.2.1/\c.2.2.1<=b.size/\x+c.2.1+c.2.2.1<=na0+nb0)
   (Q:=λc st'=>YZ st st'/\((∃r,c.1=some r/\R r)\/(c.1=none/\J c.2.1 c.2.2.1 c.2.2.2.1/\0<c.2.1/\c.2.1<=a.size/\1<c.2.2.1/\c.2.2.1<=b.size/\1+c.2.1+c.2.2.1<=na0+nb0))) ?step1 ?fin1
   ⟨q1,rfl,i1,i2,i2',i3,i3',by dsimp only;lia⟩) ?post1)
  case fin1 =>
   rintro⟨r,na,nb,out,ac,bc⟩ st' ⟨q,e,j1,j2,j2',j3,j3',j4⟩;dsimp only at e j1 j2 j2' j3 j3' j4;lia
  case step1 =>
   rintro x ⟨r,na,nb,out,ac,bc⟩ st' _ hx ⟨q,e,j1,j2,j2',j3,j3',j4⟩;dsimp only at e j1 j2 j2' j3 j3' j4 ⊢;subst e;obtain⟨na,rfl⟩:∃n,na=n+1:=⟨na-1,by lia⟩;obtain⟨nb,rfl⟩:∃n,nb=n+1:=⟨nb-1,by lia⟩;obtain⟨u,hu⟩:=_5 (a:=a) (i:=na) (by lia);obtain⟨v,hv⟩:=_5 (a:=b) (i:=nb) (by lia);refine Qe (m:=elem' b nb) (_3 hv ?_);refine Qe (m:=elem' a na) (_3 hu ?_);refine Qe (m:=lt' v u) (hc _ _ _ _ (dB _ _ hv) (dA _ _ hu) (q.1.trans hk) ?_)
   try dsimp only
   cases hl:O.blt (key v) (key u)
   ·rw[Qa (by simp)];refine Qe (m:=elem' b nb) (_3 hv ?_)
    try dsimp only
    have k1:=F.mB _ _ _ _ _ j1 hu hv hl;by_cases e3:nb=1
    ·rw[Qb (by simpa using e3)];exact Qf ⟨q,.inl ⟨_,rfl,F.eF _ _ _ k1 e3⟩⟩
    ·rw[Qa (by simpa using e3)];split
     ·exact Qf ⟨q,.inr ⟨rfl,k1,by dsimp only;lia,by dsimp only;lia,by dsimp only;lia,by dsimp only;lia,by dsimp only;lia⟩⟩
     ·exact Qf ⟨q,rfl,k1,by dsimp only;lia,by dsimp only;lia,by dsimp only;lia,by dsimp only;lia,by dsimp only;lia⟩
   ·rw[Qb rfl];refine Qe (m:=elem' a na) (_3 hu ?_)
    try dsimp only
    have k1:=F.mA _ _ _ _ _ j1 hu hv hl;by_cases e3:na=0
    ·rw[Qb (by simpa using e3)];exact Qf ⟨q,.inl ⟨_,rfl,F.eA _ _ _ k1 e3⟩⟩
    ·rw[Qa (by simpa using e3)];split
     ·exact Qf ⟨q,.inr ⟨rfl,k1,by dsimp only;lia,by dsimp only;lia,by dsimp only;lia,by dsimp only;lia,by dsimp only;lia⟩⟩
     ·exact Qf ⟨q,rfl,k1,by dsimp only;lia,by dsimp only;lia,by dsimp only;lia,by dsimp only;lia,by dsimp only;lia⟩
  case post1 =>
   rintro⟨r,na,nb,out,ac,bc⟩ st2 ⟨q2,⟨r',e,hR⟩|⟨e,j1,j2,j2',j3,j3',j4⟩⟩
   ·dsimp only at e ⊢;subst e;exact Qf ⟨q2,_,rfl,hR⟩
   ·dsimp only at e j1 j2 j2' j3 j3' j4 ⊢;subst e
    try dsimp only
    refine Qe (RW (Rk ⟨rfl,?_⟩))
    refine Qe (Rc (Q3 (I:=λx c st'=>YZ st st'/\c.1=none/\J c.2.1 c.2.2.1 c.2.2.2.1/\0<c.2.1/\c.2.1<=a.size/\1<c.2.2.1/\c.2.2.1<=b.size/\1+c.2.1+c.2.2.1<=na0+nb0)
     (Q:=λc st'=>YZ st st'/\((∃r,c.1=some r/\R r)\/(c.1=none/\J c.2.1 c.2.2.1 c.2.2.2.1/\0<c.2.1/\c.2.1<=a.size/\1<c.2.2.1/\c.2.2.1<=b.size/\1+c.2.1+c.2.2.1<=na0+nb0))) ?step2 ?fin2
     ⟨q2,rfl,j1,j2,j2',j3,j3',j4⟩) ?post2)
    case fin2 =>
     rintro⟨r,la,lb,out,g2,ac2,bc2⟩ st' ⟨q,e,l1,l2,l2',l3,l3',l4⟩;exact⟨q,.inr ⟨e,l1,l2,l2',l3,l3',l4⟩⟩
    case post2 =>
     rintro⟨r,la,lb,out,g2,ac2,bc2⟩ st' ⟨q,⟨r',e,hR⟩|⟨e,l1,l2,l2',l3,l3',l4⟩⟩
     ·dsimp only at e ⊢;subst e;exact Qf ⟨q,_,rfl,hR⟩
     ·dsimp only at e l1 l2 l2' l3 l3' l4 ⊢;subst e
      try dsimp only
      refine Qe (Q9 ?_);exact Qf ⟨q,rfl,l1,l2,l2',l3,l3',by dsimp only;lia⟩
    case step2 =>
     rintro x ⟨r,la,lb,out,g2,ac2,bc2⟩ st3 _ hx ⟨q3,e,l1,l2,l2',l3,l3',l4⟩;dsimp only at e l1 l2 l2' l3 l3' l4 ⊢;subst e;obtain⟨lb,rfl⟩:∃n,lb=n+1:=⟨lb-1,by lia⟩;obtain⟨v,hv⟩:=_5 (a:=b) (i:=lb) (by lia);rcases Rg 1 g2 with hg|hg
     all_goals
      first|rw[Qb hg]|rw[Qa (Nat.not_lt.mpr hg)]
      refine Qe (Q9 ?_);refine Qe (m:=elem' b lb) (_3 hv ?_);refine Qe (m:=XT false v a 0 la (la-1)) (_bp hc (q3.1.trans hk) (dB _ _ hv) dA (by lia) (by lia) (λi j x y h1 h2 h3 h4 h5=>upA i j x y (by lia) h2 (by lia) h4 h5) λat1 k1 k2 k3=>?_);simp only[Nat.zero_add] at k2 k3
      try dsimp only
      by_cases hk0:la-at1 > 0
      ·rw[Qb hk0];have m1:=F.bulkA hv (at_:=at1) (la-at1) _ (by rw[Gw k1];exact l1) (by lia) (λi x h1 h2 h3=>k3 i x h1 (by lia) h3);rw[Gw k1] at m1;by_cases e4:at1=0
       ·rw[Qb (by simpa using e4)];exact Qf ⟨q3,.inl ⟨_,rfl,F.eA _ _ _ m1 e4⟩⟩
       rw[Qa (by simpa using e4)];have nx:∀i u,i<at1->a[i]?=some u->O.blt (key v) (key u)=false:=λi u hi hu=>k2 i u hi hu;generalize out++(a.extract at1 la).reverse=out1 at m1 ⊢;obtain⟨la2,hla⟩:∃n,n=at1:=⟨_,rfl⟩;rw[<-hla] at m1 nx e4 ⊢;obtain⟨la1,rfl⟩:∃n,la2=n+1:=⟨la2-1,by lia⟩;obtain⟨u,hu⟩:=_5 (a:=a) (i:=la1) (by lia);refine Qe (m:=elem' b lb) (_3 hv ?_)
       try dsimp only
       have m2:=F.mB _ _ _ _ _ m1 hu hv (nx la1 u (Ry _) hu);by_cases e5:lb=1
       ·rw[Qb (by simpa using e5)];exact Qf ⟨q3,.inl ⟨_,rfl,F.eF _ _ _ m2 e5⟩⟩
       rw[Qa (by simpa using e5)];refine Qe (m:=elem' a la1) (_3 hu ?_);refine Qe (m:=XT true u b 0 lb (lb-1)) (U0 hc (q3.1.trans hk) (dA _ _ hu) dB (by lia) (by lia) (λi j x y h1 h2 h3 h4 h5=>upB i j x y (by lia) h2 (by lia) h4 h5) λat2 k1' k2' k3'=>?_);simp only[Nat.zero_add] at k2' k3'
       try dsimp only
       by_cases hk1:lb-at2 > 0
       ·have hk1':=hk1;rw[show lb+1-1=lb from rfl,Qb hk1];have m3:=F.bulkB hu (at_:=at2) (lb-at2) _ (by rw[Gw k1'];exact m2) (by lia) (λi y h1 h2 h3=>k3' i y h1 (by lia) h3);rw[Gw k1'] at m3;by_cases e6:at2=1
        ·rw[Qb (by simpa using e6)];exact Qf ⟨q3,.inl ⟨_,rfl,F.eF _ _ _ m3 e6⟩⟩
        rw[Qa (by simpa using e6)];by_cases e8:at2=0
        ·rw[Qb (by simpa using e8)];exact Qf ⟨q3,.inl ⟨_,rfl,F.eB _ _ _ m3 e8⟩⟩
        rw[Qa (by simpa using e8)];have nx2:∀v,b[at2-1]?=some v->O.blt (key v) (key u)=true:=λv hv=>k2' _ v (by lia) hv;obtain⟨lb1,rfl⟩:∃n,at2=n+1:=⟨at2-1,by lia⟩;obtain⟨v2,hv2⟩:=_5 (a:=b) (i:=lb1) (by lia);have hl2:=nx2 v2 hv2;refine Qe (m:=elem' a la1) (_3 hu ?_)
        try dsimp only
        have m4:=F.mA _ _ _ _ _ m3 hu hv2 hl2;by_cases e7:la1=0
        ·rw[Qb (by simpa using e7)];exact Qf ⟨q3,.inl ⟨_,rfl,F.eA _ _ _ m4 e7⟩⟩
        ·rw[Qa (by simpa using e7)];split
         ·exact Qf ⟨q3,.inr ⟨rfl,m4,by dsimp only;lia,by dsimp only;lia,by dsimp only;lia,by dsimp only;lia,by dsimp only;lia⟩⟩
         ·exact Qf ⟨q3,rfl,m4,by dsimp only;lia,by dsimp only;lia,by dsimp only;lia,by dsimp only;lia,by dsimp only;lia⟩
       ·rw[show lb+1-1=lb from rfl,Qa hk1];obtain rfl:at2=lb:=by lia
        have nx2:∀v,b[at2-1]?=some v->O.blt (key v) (key u)=true:=λv hv=>k2' _ v (by lia) hv;obtain⟨lb1,rfl⟩:∃n,at2=n+1:=⟨at2-1,by lia⟩;have m3:=m2;obtain⟨v2,hv2⟩:=_5 (a:=b) (i:=lb1) (by lia);have hl2:=nx2 v2 hv2;refine Qe (m:=elem' a la1) (_3 hu ?_)
        try dsimp only
        have m4:=F.mA _ _ _ _ _ m3 hu hv2 hl2;by_cases e7:la1=0
        ·rw[Qb (by simpa using e7)];exact Qf ⟨q3,.inl ⟨_,rfl,F.eA _ _ _ m4 e7⟩⟩
        ·rw[Qa (by simpa using e7)];split
         ·exact Qf ⟨q3,.inr ⟨rfl,m4,by dsimp only;lia,by dsimp only;lia,by dsimp only;lia,by dsimp only;lia,by dsimp only;lia⟩⟩
         ·exact Qf ⟨q3,rfl,m4,by dsimp only;lia,by dsimp only;lia,by dsimp only;lia,by dsimp only;lia,by dsimp only;lia⟩
      ·rw[Qa hk0];obtain rfl:at1=la:=by lia
       have m1:=l1;have nx:∀i u,i<at1->a[i]?=some u->O.blt (key v) (key u)=false:=λi u hi hu=>k2 i u hi hu;obtain⟨la2,hla⟩:∃n,n=at1:=⟨_,rfl⟩;rw[<-hla] at m1 nx ⊢;obtain⟨la1,rfl⟩:∃n,la2=n+1:=⟨la2-1,by lia⟩;obtain⟨u,hu⟩:=_5 (a:=a) (i:=la1) (by lia);refine Qe (m:=elem' b lb) (_3 hv ?_)
       try dsimp only
       have m2:=F.mB _ _ _ _ _ m1 hu hv (nx la1 u (Ry _) hu);by_cases e5:lb=1
       ·rw[Qb (by simpa using e5)];exact Qf ⟨q3,.inl ⟨_,rfl,F.eF _ _ _ m2 e5⟩⟩
       rw[Qa (by simpa using e5)];refine Qe (m:=elem' a la1) (_3 hu ?_);refine Qe (m:=XT true u b 0 lb (lb-1)) (U0 hc (q3.1.trans hk) (dA _ _ hu) dB (by lia) (by lia) (λi j x y h1 h2 h3 h4 h5=>upB i j x y (by lia) h2 (by lia) h4 h5) λat2 k1' k2' k3'=>?_);simp only[Nat.zero_add] at k2' k3'
       try dsimp only
       by_cases hk1:lb-at2 > 0
       ·have hk1':=hk1;rw[show lb+1-1=lb from rfl,Qb hk1];have m3:=F.bulkB hu (at_:=at2) (lb-at2) _ (by rw[Gw k1'];exact m2) (by lia) (λi y h1 h2 h3=>k3' i y h1 (by lia) h3);rw[Gw k1'] at m3;by_cases e6:at2=1
        ·rw[Qb (by simpa using e6)];exact Qf ⟨q3,.inl ⟨_,rfl,F.eF _ _ _ m3 e6⟩⟩
        rw[Qa (by simpa using e6)];by_cases e8:at2=0
        ·rw[Qb (by simpa using e8)];exact Qf ⟨q3,.inl ⟨_,rfl,F.eB _ _ _ m3 e8⟩⟩
        rw[Qa (by simpa using e8)];have nx2:∀v,b[at2-1]?=some v->O.blt (key v) (key u)=true:=λv hv=>k2' _ v (by lia) hv;obtain⟨lb1,rfl⟩:∃n,at2=n+1:=⟨at2-1,by lia⟩;obtain⟨v2,hv2⟩:=_5 (a:=b) (i:=lb1) (by lia);have hl2:=nx2 v2 hv2;refine Qe (m:=elem' a la1) (_3 hu ?_)
        try dsimp only
        have m4:=F.mA _ _ _ _ _ m3 hu hv2 hl2;by_cases e7:la1=0
        ·rw[Qb (by simpa using e7)];exact Qf ⟨q3,.inl ⟨_,rfl,F.eA _ _ _ m4 e7⟩⟩
        ·rw[Qa (by simpa using e7)];split
         ·exact Qf ⟨q3,.inr ⟨rfl,m4,by dsimp only;lia,by dsimp only;lia,by dsimp only;lia,by dsimp only;lia,by dsimp only;lia⟩⟩
         ·exact Qf ⟨q3,rfl,m4,by dsimp only;lia,by dsimp only;lia,by dsimp only;lia,by dsimp only;lia,by dsimp only;lia⟩
       ·rw[show lb+1-1=lb from rfl,Qa hk1];obtain rfl:at2=lb:=by lia
        have nx2:∀v,b[at2-1]?=some v->O.blt (key v) (key u)=true:=λv hv=>k2' _ v (by lia) hv;obtain⟨lb1,rfl⟩:∃n,at2=n+1:=⟨at2-1,by lia⟩;have m3:=m2;obtain⟨v2,hv2⟩:=_5 (a:=b) (i:=lb1) (by lia);have hl2:=nx2 v2 hv2;refine Qe (m:=elem' a la1) (_3 hu ?_)
        try dsimp only
        have m4:=F.mA _ _ _ _ _ m3 hu hv2 hl2;by_cases e7:la1=0
        ·rw[Qb (by simpa using e7)];exact Qf ⟨q3,.inl ⟨_,rfl,F.eA _ _ _ m4 e7⟩⟩
        ·rw[Qa (by simpa using e7)];split
         ·exact Qf ⟨q3,.inr ⟨rfl,m4,by dsimp only;lia,by dsimp only;lia,by dsimp only;lia,by dsimp only;lia,by dsimp only;lia⟩⟩
         ·exact Qf ⟨q3,rfl,m4,by dsimp only;lia,by dsimp only;lia,by dsimp only;lia,by dsimp only;lia,by dsimp only;lia⟩
end
section
variable{key:Keyed->O.α}
abbrev le (O:KeyOrd) (key:Keyed->O.α) (x y:Keyed):Prop:=O.kle (key x) (key y)
def V0 (O:KeyOrd) (key:Keyed->O.α) (a b r:Array Keyed):Prop:=r.toList.Perm (a.toList++b.toList)/\r.toList.Pairwise (le O key)
theorem YB (h:a[i]?=some x):a.toList[i]?=some x:=by rw[Rj];exact h
theorem WN (h:l[i]?=some x):l.drop i=x::l.drop (i+1):=by
 obtain⟨hi,e⟩:=QK.mp h;rw[<-e];exact GY hi
theorem WX (h:l[i]?=some x):l.take (i+1)=l.take i++[x]:=by
 obtain⟨hi,e⟩:=QK.mp h;rw[<-e];exact Mr hi
theorem _il (sa:a.toList.Pairwise (le O key)) (sb:b.toList.Pairwise (le O key)) (hl:∀x,a[a.size-1]?=some x->∀y,y∈b.toList->le O key y x) :
  FrontI O key a b (λia ib out=>out.toList.Perm (a.toList.take ia++b.toList.take ib)/\out.toList.Pairwise (le O key)/\(∀o,o∈out.toList->∀x,x∈a.toList.drop ia->le O key o x)/\(∀o,o∈out.toList->∀y,y∈b.toList.drop ib->le O key o y)) (V0 O key a b) where
 mA:=by
  rintro ia ib out x y ⟨p,srt,ba,bb⟩ hx hy hlt;have hx:=YB hx;have hy:=YB hy;have da:=WN hx;have db:=WN hy;have sa':=QX (RX ia _) sa;have sb':=QX (RX ib _) sb;rw[da] at sa';rw[db] at sb';rw[RH] at sa' sb';have hxy:le O key x y:=hlt;refine⟨?_,?_,?_,?_⟩
  ·rw[Q4,WX hx];exact((p.append_right [x]).trans (by rw[QH,QH];exact RY _ RI))
  ·rw[Q4,QO];refine⟨srt,by simp,λo ho z hz=>?_⟩;rw[Qz] at hz;subst hz;exact ba o ho _ (by rw[da];simp)
  ·intro o ho z hz;rw[Q4,Qn,Qz] at ho;rcases ho with ho|rfl
   ·exact ba o ho z (by rw[da];exact QB _ hz)
   ·exact sa'.1 z hz
  ·intro o ho z hz;rw[Q4,Qn,Qz] at ho;rcases ho with ho|rfl
   ·exact bb o ho z hz
   ·rw[db,Qk] at hz;rcases hz with rfl|hz
    ·exact hxy
    ·exact Re hxy (sb'.1 z hz)
 mB:=by
  rintro ia ib out x y ⟨p,srt,ba,bb⟩ hx hy hlt;have hx:=YB hx;have hy:=YB hy;have da:=WN hx;have db:=WN hy;have sa':=QX (RX ia _) sa;have sb':=QX (RX ib _) sb;rw[da] at sa';rw[db] at sb';rw[RH] at sa' sb';have hxy:le O key y x:=Ga hlt;refine⟨?_,?_,?_,?_⟩
  ·rw[Q4,WX hy,<-QH];exact p.append_right [y]
  ·rw[Q4,QO];refine⟨srt,by simp,λo ho z hz=>?_⟩;rw[Qz] at hz;subst hz;exact bb o ho _ (by rw[db];simp)
  ·intro o ho z hz;rw[Q4,Qn,Qz] at ho;rcases ho with ho|rfl
   ·exact ba o ho z hz
   ·rw[da,Qk] at hz;rcases hz with rfl|hz
    ·exact hxy
    ·exact Re hxy (sa'.1 z hz)
  ·intro o ho z hz;rw[Q4,Qn,Qz] at ho;rcases ho with ho|rfl
   ·exact bb o ho z (by rw[db];exact QB _ hz)
   ·exact sb'.1 z hz
 eB:=by
  rintro ia ib out ⟨p,srt,ba,bb⟩ rfl
  have e:(out++a.extract ia a.size++b.extract b.size b.size).toList=out.toList++a.toList.drop ia:=by
   rw[_ar];simp[Gb,Gc,RJ]
  refine⟨?_,?_⟩
  ·rw[e];refine(p.append_right _).trans ?_;have t:b.toList.take b.size=b.toList:=RJ (by simp);rw[t,QH];refine(RY _ RI).trans ?_;rw[<-QH,QR]
  ·rw[e,QO];exact⟨srt,QX (RX _ _) sa,ba⟩
 eA:=by
  rintro ia ib out ⟨p,srt,ba,bb⟩ rfl
  have e:(out++a.extract a.size a.size++b.extract ib b.size).toList=out.toList++b.toList.drop ib:=by
   rw[_ar];simp[Gb,Gc,RJ]
  refine⟨?_,?_⟩
  ·rw[e];refine(p.append_right _).trans ?_;have t:a.toList.take a.size=a.toList:=RJ (by simp);rw[t,QH,QR]
  ·rw[e,QO];exact⟨srt,QX (RX _ _) sb,bb⟩
 eL:=by
  rintro ia ib out ⟨p,srt,ba,bb⟩ hia
  have e:(out++b.extract ib b.size++a.extract ia a.size).toList=out.toList++b.toList.drop ib++a.toList.drop ia:=by
   simp[Gb,Gc,RJ]
  obtain⟨x,hx⟩:=_5 (a:=a) (i:=ia) (by lia)
  have dl:a.toList.drop ia=[x]:=by
   rw[WN (YB hx),GZ (by simp;lia)]
  refine⟨?_,?_⟩
  ·rw[e];refine((p.append_right _).append_right _).trans ?_
   have z:(a.toList.take ia++b.toList.take ib++b.toList.drop ib++a.toList.drop ia).Perm (a.toList.take ia++(b.toList++a.toList.drop ia)):=by
    rw[QH (a.toList.take ia),QR,QH]
   refine z.trans ?_;refine(RY _ RI).trans ?_;rw[<-QH,QR]
  ·rw[e,dl,QO,QO];refine⟨⟨srt,QX (RX _ _) sb,bb⟩,by simp,λo ho z hz=>?_⟩;rw[Qz] at hz;subst hz;rw[Qn] at ho;rcases ho with ho|ho
   ·exact ba o ho _ (by rw[dl];simp)
   ·exact hl _ (by rw[<-hia];exact hx) o (G0 ho)
theorem _mf (sa:a.toList.Pairwise (le O key)) (sb:b.toList.Pairwise (le O key)) (hl:∀y,b[0]?=some y->∀x,x∈a.toList->le O key y x) :
  BackI O key a b (λna nb out=>na<=a.size/\nb<=b.size/\out.toList.Perm (a.toList.drop na++b.toList.drop nb)/\out.toList.reverse.Pairwise (le O key)/\(∀o,o∈out.toList->∀x,x∈a.toList.take na->le O key x o)/\(∀o,o∈out.toList->∀y,y∈b.toList.take nb->le O key y o)) (V0 O key a b) where
 mA:=by
  rintro na nb out x y ⟨n1,n2,p,srt,ba,bb⟩ hx hy hlt;have hx:=YB hx;have hy:=YB hy;have da:=WX hx;have db:=WX hy;have sa':=QX (Ro (na+1) _) sa;have sb':=QX (Ro (nb+1) _) sb;rw[da,QO] at sa';rw[db,QO] at sb';have hxy:le O key y x:=Ga hlt;refine⟨by lia,n2,?_,?_,?_,?_⟩
  ·rw[Q4,WN hx];exact(p.append_right [x]).trans RI
  ·rw[Q4,List.reverse_append];show(x::out.toList.reverse).Pairwise _;rw[RH];exact⟨λo ho=>ba o (by simpa using ho) x (by rw[da];simp),srt⟩
  ·intro o ho z hz;rw[Q4,Qn,Qz] at ho;rcases ho with ho|rfl
   ·exact ba o ho z (by rw[da];exact QG _ hz)
   ·exact sa'.2.2 z hz _ (by simp)
  ·intro o ho z hz;rw[Q4,Qn,Qz] at ho;rcases ho with ho|rfl
   ·exact bb o ho z hz
   ·rw[db,Qn,Qz] at hz;rcases hz with hz|rfl
    ·exact Re (sb'.2.2 z hz _ (by simp)) hxy
    ·exact hxy
 mB:=by
  rintro na nb out x y ⟨n1,n2,p,srt,ba,bb⟩ hx hy hlt;have hx:=YB hx;have hy:=YB hy;have da:=WX hx;have db:=WX hy;have sa':=QX (Ro (na+1) _) sa;have sb':=QX (Ro (nb+1) _) sb;rw[da,QO] at sa';rw[db,QO] at sb';have hxy:le O key x y:=hlt;refine⟨n1,by lia,?_,?_,?_,?_⟩
  ·rw[Q4,WN hy];exact(p.append_right [y]).trans (by rw[QH];exact RY _ RI)
  ·rw[Q4,List.reverse_append];show(y::out.toList.reverse).Pairwise _;rw[RH];exact⟨λo ho=>bb o (by simpa using ho) y (by rw[db];simp),srt⟩
  ·intro o ho z hz;rw[Q4,Qn,Qz] at ho;rcases ho with ho|rfl
   ·exact ba o ho z hz
   ·rw[da,Qn,Qz] at hz;rcases hz with hz|rfl
    ·exact Re (sa'.2.2 z hz _ (by simp)) hxy
    ·exact hxy
  ·intro o ho z hz;rw[Q4,Qn,Qz] at ho;rcases ho with ho|rfl
   ·exact bb o ho z (by rw[db];exact QG _ hz)
   ·exact sb'.2.2 z hz _ (by simp)
 eA:=by
  rintro na nb out ⟨n1,n2,p,srt,ba,bb⟩ rfl
  have e:(a.extract 0 0++b.extract 0 nb++out.reverse).toList=b.toList.take nb++out.toList.reverse:=by
   simp[Gb,Gc]
  refine⟨?_,?_⟩
  ·rw[e];refine((N0 _).trans p).append_left _ |>.trans ?_;rw[Gx];refine RI.trans ?_;rw[QH];refine RY _ (RI.trans ?_);rw[QR]
  ·rw[e,QO];exact⟨QX (Ro _ _) sb,srt,λy hy o ho=>bb o (by simpa using ho) y hy⟩
 eB:=by
  rintro na nb out ⟨n1,n2,p,srt,ba,bb⟩ rfl
  have e:(a.extract 0 na++b.extract 0 0++out.reverse).toList=a.toList.take na++out.toList.reverse:=by
   simp[Gb,Gc]
  refine⟨?_,?_⟩
  ·rw[e];refine((N0 _).trans p).append_left _ |>.trans ?_;rw[Gx,<-QH,QR]
  ·rw[e,QO];exact⟨QX (Ro _ _) sa,srt,λy hy o ho=>ba o (by simpa using ho) y hy⟩
 eF:=by
  rintro na nb out ⟨n1,n2,p,srt,ba,bb⟩ rfl
  have e:(b.extract 0 1++a.extract 0 na++out.reverse).toList=b.toList.take 1++(a.toList.take na++out.toList.reverse):=by
   simp[Gb,Gc]
  refine⟨?_,?_⟩
  ·rw[e]
   have z:(a.toList.take na++out.toList.reverse).Perm (a.toList++b.toList.drop 1):=by
    refine(((N0 _).trans p).append_left _).trans ?_;rw[<-QH,QR]
   refine(z.append_left _).trans ?_;refine RI.trans ?_;rw[QH];refine RY _ (RI.trans ?_);rw[QR]
  ·rw[e,QO,QO];refine⟨QX (Ro _ _) sb,⟨QX (Ro _ _) sa,srt,λy hy o ho=>ba o (by simpa using ho) y hy⟩,λy hy z hz=>?_⟩;rw[Qn] at hz;rcases hz with hz|hz
   ·have hy0:b[0]?=some y:=by
     cases hb:b.toList with
     |nil=>rw[hb] at hy;simp at hy
     |cons c t =>
      rw[hb] at hy;obtain rfl:y=c:=by simpa using hy
      rw[<-Rj,hb];rfl
    exact hl y hy0 z (Gy hz)
   ·exact bb z (by simpa using hz) y hy
end
section
variable{key:Keyed->O.α} {D:Keyed->Prop} {kd:SortKind}
theorem JU (h:l.Pairwise (le O key)) {y:Keyed} (hij:i<=j) (hx:l[i]?=some x) (hy:l[j]?=some y):le O key x y:=by
 obtain⟨hi,e1⟩:=QK.mp hx;obtain⟨hj,e2⟩:=QK.mp hy;rcases Rg i j with h'|h'
 ·rw[<-e1,<-e2];exact N1.mp h i j hi hj h'
 ·obtain rfl:i=j:=by lia
  rw[<-e1,<-e2];exact Gd _
theorem XO (e:arr.toList=P++(B++S)) (hi:i<B.length):arr[P.length+i]?=B[i]?:=by
 rw[<-Rj,e,RP (by lia),Ms,Gi hi]
theorem _fC (e:arr.toList=P++(B++S)) (h:B.Pairwise (le O key)):Up O key arr P.length (P.length+B.length):=by
 intro i j x y h1 h2 h3 hx hy;obtain⟨i,rfl⟩:∃k,i=P.length+k:=⟨i-P.length,by lia⟩;obtain⟨j,rfl⟩:∃k,j=P.length+k:=⟨j-P.length,by lia⟩;rw[XO e (by lia)] at hx hy;exact JU h (by lia) hx hy
theorem JC (h:a.toList.Pairwise (le O key)):Up O key a 0 a.size:=by
 intro i j x y _ h2 _ hx hy;exact JU h h2 (YB hx) (YB hy)
theorem _fd (hc:Y1 M A E s O key D kd) {x:Array Keyed} {c:Prop} [Decidable c] {st:SortSt} (hk:kindOf st=kd) (dx:∀(i:Nat) u,x[i]?=some u->D u) (dy:∀(i:Nat) u,y[i]?=some u->D u)
 (sx:x.toList.Pairwise (le O key)) (sy:y.toList.Pairwise (le O key)) (hx:0<x.size) (hy:0<y.size) (h1:∀v,y[0]?=some v->∀u,u∈x.toList->le O key v u) (h2:∀u,x[x.size-1]?=some u->∀v,v∈y.toList->le O key v u)
 (h:∀r st',YZ st st'->V0 O key x y r->Q r st'):wpS M A E s (if c then JR x y else mHi x y) Q st:=by
 split
 ·obtain⟨y0,hy0⟩:=_5 (a:=y) (i:=0) hy;refine _lU hc (_il sx sy h2) hk dx dy (JC sx) (JC sy) hx hy0 ⟨?_,by simp,?_,?_⟩ h
  ·rw[WX (YB hy0)];simp
  ·intro o ho u hu;rw[Gx] at hu;obtain rfl:o=y0:=by simpa using ho
   exact h1 _ hy0 u hu
  ·intro o ho u hu;obtain rfl:o=y0:=by simpa using ho
   have z:=WN (YB hy0);rw[Gx] at z;rw[z,RH] at sy;exact sy.1 u hu
 ·obtain⟨x0,hx0⟩:=_5 (a:=x) (i:=x.size-1) (by lia);refine _i0 hc (_mf sx sy h1) hk dx dy (JC sx) (JC sy) hy hx0 ⟨by lia,Qg _,?_,by simp,?_,?_⟩ h
  ·rw[WN (YB hx0),GZ (by simp;lia),GZ (by simp)];simp
  ·intro o ho u hu;obtain rfl:o=x0:=by simpa using ho
   have z:=WX (YB hx0);have sx':=QX (Ro (x.size-1+1) _) sx;rw[z,QO] at sx';exact sx'.2.2 u hu _ (by simp)
  ·intro o ho v hv;obtain rfl:o=x0:=by simpa using ho
   exact h2 _ hx0 v (Gy hv)
theorem _fW (sa:Nat):∀(l:List Keyed) (k:Nat) (arr:Array Keyed),sa+k+l.length<=arr.size →
  ((l.zipIdx k).foldl (λa p=>a.setIfInBounds (sa+p.2) p.1) arr).toList=arr.toList.take (sa+k)++(l++arr.toList.drop (sa+k+l.length))
 |[],k,arr,_=>by simp
 |x::l,k,arr,h=>by
  rw[NY,N2,_fW sa l (k+1) _ (by simp only[QC] at h;rw[Mt];lia)];simp only[QC] at h
  have e:(arr.setIfInBounds (sa+k) x).toList=arr.toList.take (sa+k)++x::arr.toList.drop (sa+k+1):=by
   rw[Mu,List.set_eq_take_append_cons_drop,Qb (by simp;lia)]
  dsimp only;rw[e];have hlen:(arr.toList.take (sa+k)).length=sa+k:=by simp;lia
  have t:(arr.toList.take (sa+k)++x::arr.toList.drop (sa+k+1)).take (sa+(k+1))=arr.toList.take (sa+k)++[x]:=by
   rw[NB,hlen,RJ (by lia),show sa+(k+1)-(sa+k)=1 by lia];rfl
  have d:(arr.toList.take (sa+k)++x::arr.toList.drop (sa+k+1)).drop (sa+(k+1)+l.length)=arr.toList.drop (sa+k+(l.length+1)):=by
   rw[NC,hlen,GZ (by lia),show sa+(k+1)+l.length-(sa+k)=l.length+1 by lia,List.drop_succ_cons,N3,List.nil_append]
   congr 1;lia
  rw[t,d];simp
end
section
variable{key:Keyed->O.α} {D:Keyed->Prop} {kd:SortKind}
theorem _nz {U:Type} {x:U} {Q:PUnit->U->Prop} {st:U} (h:Q ⟨⟩ x):wpS M A E s (set x:StateT U Sem PUnit) Q st:=by
 unfold wpS;rw[StateT.run_set];exact Qh ⟨rfl,h⟩
theorem _j3 (hc:Y1 M A E s O key D kd) {x:Array Keyed} {st:SortSt} (hk:kindOf st=kd) (dx:∀(i:Nat) u,x[i]?=some u->D u) (dy:∀(i:Nat) u,y[i]?=some u->D u)
 (sx:x.toList.Pairwise (le O key)) (sy:y.toList.Pairwise (le O key)) (hx:0<x.size) (hy:0<y.size) (h1:∀v,y[0]?=some v->∀u,u∈x.toList->le O key v u) (h2:∀u,x[x.size-1]?=some u->∀v,v∈y.toList->le O key v u)
 (h:∀r st',YZ st st'->V0 O key x y r->Q r st'):wpS M A E s (JR x y) Q st:=by
 have z:=_fd (c:=True) hc hk dx dy sx sy hx hy h1 h2 h;rw[Qb trivial] at z;exact z
theorem _kE (hc:Y1 M A E s O key D kd) {x:Array Keyed} {st:SortSt} (hk:kindOf st=kd) (dx:∀(i:Nat) u,x[i]?=some u->D u) (dy:∀(i:Nat) u,y[i]?=some u->D u)
 (sx:x.toList.Pairwise (le O key)) (sy:y.toList.Pairwise (le O key)) (hx:0<x.size) (hy:0<y.size) (h1:∀v,y[0]?=some v->∀u,u∈x.toList->le O key v u) (h2:∀u,x[x.size-1]?=some u->∀v,v∈y.toList->le O key v u)
 (h:∀r st',YZ st st'->V0 O key x y r->Q r st'):wpS M A E s (mHi x y) Q st:=by
 have z:=_fd (c:=False) hc hk dx dy sx sy hx hy h1 h2 h;rw[Qa not_false] at z;exact z
theorem _ct (e:arr.toList=P++(B++S)) (i j:Nat) (hj:j<=B.length):(arr.extract (P.length+i) (P.length+j)).toList=(B.take j).drop i:=by
 rw[Gb,Gc,e];have h1:(P++(B++S)).drop (P.length+i)=(B++S).drop i:=by rw[<-N3,List.drop_left]
 rw[h1,show P.length+j-(P.length+i)=j-i by lia,List.drop_take,NC,NB];rcases Rg j i with h'|h'
 ·rw[show j-i=0 by lia];simp
 ·rw[show j-i-(List.drop i B).length=0 by rw[Ri];lia];simp
theorem _n9 (hc:Y1 M A E s O key D kd) {st:SortSt} {Q:Bool->SortSt->Prop} {pw pw2:Nat} {X Y:List Keyed} (hk:kindOf st=kd) (hf:failedOf st=none)
 (p1:(pendingOf st)[i]?=some (P.length,X.length,pw)) (p2:(pendingOf st)[i+1]?=some (P.length+X.length,Y.length,pw2)) (e:(arrOf st).toList=P++(X++(Y++S))) (hX:X≠[]) (hY:Y≠[])
 (sX:X.Pairwise (le O key)) (sY:Y.Pairwise (le O key)) (hD:∀u,u∈(arrOf st).toList->D u)
 (h:∀C st',C.Perm (X++Y)->C.Pairwise (le O key)->kindOf st'=kindOf st->failedOf st'=none->pendingOf st'=((pendingOf st).setIfInBounds i (P.length,X.length+Y.length,pw)).eraseIdxIfInBounds (i+1) →
 (arrOf st').toList=P++(C++S)->Q true st'):wpS M A E s (mergeAt' i) Q st:=by
 have hXl:0<X.length:=RF.mpr hX;have hYl:0<Y.length:=RF.mpr hY;have e':(arrOf st).toList=(P++X)++(Y++S):=by rw[e,QH]
 have hsz:(arrOf st).size=P.length+X.length+Y.length+S.length:=by
  rw[<-Rh,e];simp only[Qq];lia
 have hDa:∀(j:Nat) u,(arrOf st)[j]?=some u->D u:=λj u hu=>hD u (QE (YB hu));obtain⟨b0,hb0⟩:∃b,Y[0]?=some b:=⟨Y[0],Qp hYl⟩;obtain⟨al,hal⟩:∃b,X[X.length-1]?=some b:=⟨X[X.length-1],Qp (by lia)⟩
 have g0:(arrOf st)[P.length+X.length]?=some b0:=by
  have:=XO e' (i:=0) hYl;rw[Qq,Gv] at this;rw[this];exact hb0
 have g1:(arrOf st)[P.length+(X.length-1)]?=some al:=by rw[XO e (by lia)];exact hal
 have upX:=_fC (O:=O) (key:=key) e sX;have upY:=_fC (O:=O) (key:=key) e' sY;rw[Qq] at upY;have atX:∀j u,j<X.length->(arrOf st)[P.length+j]?=some u->X[j]?=some u:=λj u hj hu=>by rw[XO e hj] at hu;exact hu
 have atY:∀j u,j<Y.length->(arrOf st)[P.length+X.length+j]?=some u->Y[j]?=some u:=λj u hj hu=>by
  have:=XO e' (i:=j) hj;rw[Qq] at this;rw[this] at hu;exact hu
 delta mergeAt'
 refine Qe (Rr ?_);dsimp only;rw[p1,p2];dsimp only;refine Qe (_nz ?_);refine Qe (m:=elem' (arrOf st) (P.length+X.length)) (_3 g0 ?_);refine Qe (m:=XT false b0 (arrOf st) P.length X.length 0) (_bp hc hk (hDa _ _ g0) hDa hXl (by lia) upX λk k1 k2 k3=>?_)
 try dsimp only
 have all_le:(∀u,u∈X->∀v,v∈Y->le O key u v)->Q true (SortSt.mk' (kindOf st) (arrOf st) (((pendingOf st).setIfInBounds i (P.length,X.length+Y.length,pw)).eraseIdxIfInBounds (i+1)) (gallopOf st) (failedOf st)):=by
  intro hle;refine h (X++Y) _ (G1 _) ?_ rfl hf rfl (by show(arrOf st).toList=_;rw[e,QH]);rw[QO];exact⟨sX,sY,hle⟩
 have b0le:∀v,v∈Y->le O key b0 v:=by
  intro v hv;obtain⟨j,hj,ej⟩:=RZ.mp hv;exact JU sY (QN j) hb0 (by rw[Qp hj,ej])
 have leal:∀u,u∈X->le O key u al:=by
  intro u hu;obtain⟨j,hj,ej⟩:=RZ.mp hu;exact JU (i:=j) (j:=X.length-1) sX (by lia) (by rw[Qp hj,ej]) hal
 by_cases hk0:X.length-k=0
 ·rw[Qb (by simpa using hk0)];refine Qf (all_le λu hu v hv=>?_);obtain⟨j,hj,ej⟩:=RZ.mp hu;have z:=k2 j u (by lia) (by rw[XO e hj,Qp hj,ej]);exact Re z (b0le v hv)
 rw[Qa (by simpa using hk0)];refine Qe (m:=elem' (arrOf st) (P.length+k+(X.length-k)-1)) (_3 (by rw[show P.length+k+(X.length-k)-1=P.length+(X.length-1) by lia];exact g1) ?_);refine Qe (m:=XT true al (arrOf st) (P.length+X.length) Y.length (Y.length-1)) (U0 hc hk (hDa _ _ g1) hDa (by lia) (by lia) upY λn n1 n2 n3=>?_)
 try dsimp only
 by_cases hn0:n=0
 ·rw[Qb (by simpa using hn0)];refine Qf (all_le λu hu v hv=>?_);obtain⟨j,hj,ej⟩:=RZ.mp hv;have z:=n3 j v (by lia) hj (by have:=XO e' (i:=j) hj;rw[Qq] at this;rw[this,Qp hj,ej]);exact Re (leal u hu) z
 rw[Qa (by simpa using hn0)];have ex:((arrOf st).extract (P.length+k) (P.length+X.length)).toList=X.drop k:=by rw[_ct e k X.length (Qg _),RE]
 have ey:((arrOf st).extract (P.length+X.length) (P.length+X.length+n)).toList=Y.take n:=by
  have:=_ct e' 0 n n1;rw[Qq,Gv] at this;rw[this];rfl
 have sx:((arrOf st).extract (P.length+k) (P.length+X.length)).size=X.length-k:=by rw[<-Rh,ex,Ri]
 have sy:((arrOf st).extract (P.length+X.length) (P.length+X.length+n)).size=n:=by rw[<-Rh,ey,QU];lia
 have b0lt:∀u,u∈X.drop k->le O key b0 u:=by
  intro u hu;obtain⟨j,hj,ej⟩:=RZ.mp hu;rw[Ri] at hj;rw[List.getElem_drop] at ej;exact Ga (k3 (k+j) u (by lia) (by lia) (by rw[XO e (by lia),Qp (by lia),ej]))
 have ltal:∀v,v∈Y.take n->le O key v al:=by
  intro v hv;obtain⟨j,hj,ej⟩:=RZ.mp hv;rw[QU] at hj;rw[N4] at ej;refine Ga (n2 j v (by lia) ?_);have:=XO e' (i:=j) (by lia);rw[Qq] at this;rw[this,Qp (by lia),ej]
 have dx:∀(i:Nat) u,((arrOf st).extract (P.length+k) (P.length+X.length))[i]?=some u->D u:=by
  intro j u hu;have:=QE (YB hu);rw[ex] at this;exact hD u (by rw[e];exact QZ _ (QG _ (G0 this)))
 have dy:∀(i:Nat) u,((arrOf st).extract (P.length+X.length) (P.length+X.length+n))[i]?=some u->D u:=by
  intro j u hu;have:=QE (YB hu);rw[ey] at this;exact hD u (by rw[e'];exact QZ _ (QG _ (Gy this)))
 have srx:((arrOf st).extract (P.length+k) (P.length+X.length)).toList.Pairwise (le O key):=by
  rw[ex];exact QX (RX _ _) sX
 have sry:((arrOf st).extract (P.length+X.length) (P.length+X.length+n)).toList.Pairwise (le O key):=by
  rw[ey];exact QX (Ro _ _) sY
 have hm1:∀v,((arrOf st).extract (P.length+X.length) (P.length+X.length+n))[0]?=some v->∀u,u∈((arrOf st).extract (P.length+k) (P.length+X.length)).toList->le O key v u:=by
  intro v hv u hu;have hv:=YB hv;rw[ey,Mj (by lia),hb0] at hv;obtain rfl:b0=v:=Qt hv;rw[ex] at hu;exact b0lt u hu
 have hm2:∀u,((arrOf st).extract (P.length+k) (P.length+X.length))[((arrOf st).extract (P.length+k) (P.length+X.length)).size-1]?=some u->∀v,v∈((arrOf st).extract (P.length+X.length) (P.length+X.length+n)).toList->le O key v u:=by
  intro u hu v hv;have hu:=YB hu;rw[ex,sx,N5,show k+(X.length-k-1)=X.length-1 by lia,hal] at hu;obtain rfl:al=u:=Qt hu;rw[ey] at hv;exact ltal v hv
 have rest : ∀(r : Array Keyed) (st2 : SortSt), YZ (SortSt.mk' (kindOf st) (arrOf st) (((pendingOf st).setIfInBounds i (P.length, X.length + Y.length, pw)).eraseIdxIfInBounds (i + 1)) (gallopOf st) (failedOf st)) st2 → V0 O key ((arrOf st).extract (P.length + k) (P.length + X.length)) ((arrOf st).extract (P.length + X.length) (P.length + X.length + n)) r →
   wpS M A E s ((modify λs=>SortSt.mk' (kindOf s) (r.toList.zipIdx.foldl (λa p=>a.setIfInBounds (P.length+k+p.2) p.1) (arrOf s)) (pendingOf s) (gallopOf s) (failedOf s)) >>= λ_=>get >>= λz:SortSt=>pure (failedOf z).isNone:StateT SortSt Sem Bool) Q st2:=by
  intro r st2 q mg;obtain⟨mp,ms⟩:=mg;rw[ex,ey] at mp;obtain⟨q1,q2,q3,q4⟩:=q;have hlen:r.toList.length=X.length-k+n:=by rw[mp.length_eq,Qq,Ri,QU];lia
  have hpb:=_fW (P.length+k) r.toList 0 (arrOf st) (by lia)
  have tk:(arrOf st).toList.take (P.length+k+0)=P++X.take k:=by
   rw[e,Gv,NB,RJ (by lia),Ms,NB,show k-X.length=0 by lia];simp
  have dr:(arrOf st).toList.drop (P.length+k+0+r.toList.length)=Y.drop n++S:=by
   rw[e',hlen,NC,GZ (by rw[Qq];lia),Qq,show P.length+k+0+(X.length-k+n)-(P.length+X.length)=n by lia,NC,show n-Y.length=0 by lia];simp
  rw[tk,dr] at hpb
  have fin:wpS M A E s (pure (failedOf st2).isNone:StateT SortSt Sem Bool) Q (SortSt.mk' (kindOf st2) (r.toList.zipIdx.foldl (λa p=>a.setIfInBounds (P.length+k+p.2) p.1) (arrOf st2)) (pendingOf st2) (gallopOf st2) (failedOf st2)):=by
   have qf:failedOf st2=none:=q4.trans hf;rw[qf];refine Qf (h (X.take k++(r.toList++Y.drop n)) _ ?_ ?_ q1 rfl q3 ?_)
   ·have z:(X.take k++(r.toList++Y.drop n)).Perm (X.take k++((X.drop k++Y.take n)++Y.drop n)):=(mp.append_right _).append_left _;refine z.trans ?_;rw[QH,QR,<-QH,QR]
   ·have memr:∀u,u∈r.toList->u∈X.drop k\/u∈Y.take n:=λu hu=>Qn.mp (mp.mem_iff.mp hu);have sX':=sX;rw[<-QR k X,QO] at sX';have sY':=sY;rw[<-QR n Y,QO] at sY'
    have alY:∀v,v∈Y.drop n->le O key al v:=by
     intro v hv;obtain⟨j,hj,ej⟩:=RZ.mp hv;rw[Ri] at hj;rw[List.getElem_drop] at ej;have:=XO e' (i:=n+j) (by lia);rw[Qq] at this;exact n3 (n+j) v (by lia) (by lia) (by rw[this,Qp (by lia),ej])
    have tkb:∀u,u∈X.take k->le O key u b0:=by
     intro u hu;obtain⟨j,hj,ej⟩:=RZ.mp hu;rw[QU] at hj;rw[N4] at ej;exact k2 j u (by lia) (by rw[XO e (by lia),Qp (by lia),ej])
    rw[QO,QO];refine⟨sX'.1,⟨ms,sY'.2.1,λu hu v hv=>?_⟩,λu hu v hv=>?_⟩
    ·rcases memr u hu with hu|hu
     ·exact Re (leal u (G0 hu)) (alY v hv)
     ·exact sY'.2.2 u hu v hv
    ·rcases Qn.mp hv with hv|hv
     ·rcases memr v hv with hv|hv
      ·exact sX'.2.2 u hu v hv
      ·exact Re (tkb u hu) (b0le v (Gy hv))
     ·exact Re (tkb u hu) (b0le v (G0 hv))
   ·show(r.toList.zipIdx.foldl (λa p=>a.setIfInBounds (P.length+k+p.2) p.1) (arrOf st2)).toList=_;rw[show arrOf st2=arrOf st from q2,hpb];simp
  exact Qe (Q9 (Qe (Rr fin)))
 rcases Rg n (X.length-k) with hnk|hnk
 ·rw[Qa (by lia)];exact Qe (_kE hc (x:=(arrOf st).extract (P.length+k) (P.length+X.length)) (y:=(arrOf st).extract (P.length+X.length) (P.length+X.length+n)) hk dx dy srx sry (by lia) (by lia) hm1 hm2 rest)
 ·rw[Qb hnk];exact Qe (_j3 hc (x:=(arrOf st).extract (P.length+k) (P.length+X.length)) (y:=(arrOf st).extract (P.length+X.length) (P.length+X.length+n)) hk dx dy srx sry (by lia) (by lia) hm1 hm2 rest)
end
section
variable{key:Keyed->O.α} {D:Keyed->Prop} {kd:SortKind} {d:O.α}
structure Rn (lo:Nat) (st0 st:SortSt) (n:Nat):Prop where
 kind:kindOf st=kindOf st0
 fail:failedOf st=failedOf st0
 pend:pendingOf st=pendingOf st0
 perm:(arrOf st).Perm (arrOf st0)
 out:∀k,k<lo\/lo+n<=k->(arrOf st)[k]?=(arrOf st0)[k]?
theorem Rn.refl (lo n:Nat) (st:SortSt):Rn lo st st n:=⟨rfl,rfl,rfl,Array.Perm.refl _,λ_ _=>rfl⟩
theorem Rn.mono {lo m:Nat} {st0 st:SortSt} (h:Rn lo st0 st n) (hn:n<=m):Rn lo st0 st m:=⟨h.kind,h.fail,h.pend,h.perm,λk hk=>h.out k (by lia)⟩
theorem Rn.size {lo:Nat} {st0 st:SortSt} (h:Rn lo st0 st n):(arrOf st).size=(arrOf st0).size:=h.perm.size_eq
theorem Rn.mir {lo:Nat} {st0 st:SortSt} (h:Rn lo st0 st n) (hi:lo<=i) (hj:j<=lo+n) (hs:j<=(arrOf st).size):Rn lo st0 (setArr st (mirror (arrOf st) i j ((j-i)/2))) n :=
 ⟨h.kind,h.fail,h.pend,(mirror_perm _ _ _ _).trans h.perm,λk hk=>by
  show(mirror (arrOf st) i j ((j-i)/2))[k]?=_;rw[getElem?_mirror_all hs,Qa (by lia)];exact h.out k hk⟩
noncomputable abbrev K (O:KeyOrd) (key:Keyed->O.α) (d:O.α) (a:Array Keyed) (i:Nat):O.α:=WE O key a d i
theorem _bj (hj:j<=a.size) (k:Nat):K O key d (mirror a i j ((j-i)/2)) k=if i<=k/\k<j then K O key d a (i+j-1-k) else K O key d a k:=by
 unfold K WE;rw[getElem?_mirror_all hj];by_cases c:i<=k/\k<j
 ·rw[Qb c,Qb c]
 ·rw[Qa c,Qa c]
theorem UK (hc:Y1 M A E s O key D kd) {st:SortSt} {Q:Option Bool->SortSt->Prop} (hk:kindOf st=kd) (hD:∀u,u∈(arrOf st).toList->D u) (hi:i<(arrOf st).size) (hj:j<(arrOf st).size)
 (h:Q (some (O.blt (K O key d (arrOf st) i) (K O key d (arrOf st) j))) st):wpS M A E s (ltAt' i j) Q st:=by
 obtain⟨x,hx⟩:=_5 hi;obtain⟨y,hy⟩:=_5 hj;rw[ltAt'_eq];refine Qe (Rr ?_);refine Qe (m:=elem' (arrOf st) i) (_3 hx ?_);refine Qe (m:=elem' (arrOf st) j) (_3 hy ?_);refine hc _ _ _ _ (hD _ (QE (YB hx))) (hD _ (QE (YB hy))) hk ?_;unfold K at h;rw[XF hx,XF hy] at h;exact h
def UpK (O:KeyOrd) (key:Keyed->O.α) (d:O.α) (a:Array Keyed) (lo hi:Nat):Prop:=∀i j,lo<=i->i<=j->j<hi->O.kle (K O key d a i) (K O key d a j)
def DnK (O:KeyOrd) (key:Keyed->O.α) (d:O.α) (a:Array Keyed) (lo hi:Nat):Prop:=∀i j,lo<=i->i<=j->j<hi->O.kle (K O key d a j) (K O key d a i)
theorem UpK.more {lo:Nat} (h:UpK O key d a lo (lo+n)) (hn:0<n) (hl:O.blt (K O key d a (lo+n)) (K O key d a (lo+n-1))=false):UpK O key d a lo (lo+(n+1)):=by
 intro i j h1 h2 h3;rcases Rg j (lo+n) with h4|h4
 ·exact h i j h1 h2 h4
 ·obtain rfl:j=lo+n:=by lia
  rcases Rg i (lo+n) with h5|h5
  ·exact Re (h i (lo+n-1) h1 (by lia) (by lia)) hl
  ·obtain rfl:i=lo+n:=by lia
   exact Gd _
theorem DnK.more {lo:Nat} (h:DnK O key d a lo (lo+n)) (hn:0<n) (hl:O.kle (K O key d a (lo+n)) (K O key d a (lo+n-1))):DnK O key d a lo (lo+(n+1)):=by
 intro i j h1 h2 h3;rcases Rg j (lo+n) with h4|h4
 ·exact h i j h1 h2 h4
 ·obtain rfl:j=lo+n:=by lia
  rcases Rg i (lo+n) with h5|h5
  ·exact Re hl (h i (lo+n-1) h1 (by lia) (by lia))
  ·obtain rfl:i=lo+n:=by lia
   exact Gd _
theorem _d7 (hc:Y1 M A E s O key D kd) {st:SortSt} {lo a:Nat} {Q:Option C6×Nat->SortSt->Prop} (hk:kindOf st=kd) (hD:∀u,u∈(arrOf st).toList->D u) (ha:1<=a) (han:a<=nrem) (hs:lo+nrem<=(arrOf st).size)
 (up:UpK O key d (arrOf st) lo (lo+a))
 (h:∀n,a<=n->n<=nrem->UpK O key d (arrOf st) lo (lo+n)->(n=nrem\/O.blt (K O key d (arrOf st) (lo+n)) (K O key d (arrOf st) (lo+n-1))=true)->Q (none,n) st) :
  wpS M A E s (forIn [a:nrem] ((none,a):Option C6×Nat) λx c=>ltAt' (lo+c.2) (lo+c.2-1) >>= λy=>match y with
   |some smaller=>if smaller=true then pure (ForInStep.done (none,c.2)) else pure (ForInStep.yield (none,c.2+1))
   |x=>pure (ForInStep.done (some none,c.2))) Q st:=by
 refine Q3 (I:=λx c st'=>st'=st/\c=(none,x)/\UpK O key d (arrOf st) lo (lo+x)) ?step ?fin ⟨rfl,rfl,up⟩
 case fin =>
  rintro c st' ⟨rfl,rfl,hs'⟩;rw[show max a nrem=nrem by lia] at hs' ⊢;exact h nrem han (Qg _) hs' (.inl rfl)
 case step =>
  rintro x c st' h1 h2 ⟨rfl,rfl,hs'⟩;dsimp only;refine Qe (UK (d:=d) hc hk hD (by lia) (by lia) ?_);cases hl:O.blt (K O key d (arrOf st') (lo+x)) (K O key d (arrOf st') (lo+x-1))
  ·dsimp only;rw[Qa (by simp)];exact Qf ⟨rfl,rfl,hs'.more (by lia) hl⟩
  ·dsimp only;rw[Qb rfl];exact Qf (h x h1 (by lia) hs' (.inr hl))
theorem UpK.rev {lo:Nat} (h:DnK O key d a lo (lo+n)) (hs:lo+n<=a.size):UpK O key d (mirror a lo (lo+n) ((lo+n-lo)/2)) lo (lo+n):=by
 intro i j h1 h2 h3;rw[_bj hs,_bj hs,Qb (by lia),Qb (by lia)];exact h _ _ (by lia) (by lia) (by lia)
theorem _bl (hs:j<=a.size) (he:∀k,i<=k->k<j->K O key d a k=K O key d a (j-1)) (k:Nat):K O key d (mirror a i j ((j-i)/2)) k=K O key d a k:=by
 rw[_bj hs];split
 ·rw[he _ (by lia) (by lia),he k (by lia) (by lia)]
 ·rfl
theorem J4 (p:a.Perm b) (h:∀u,u∈b.toList->D u):∀u,u∈a.toList->D u:=λu hu=>h u ((ND.mp p).mem_iff.mp hu)
theorem _jN (hc:Y1 M A E s O key D kd) {st0 st:SortSt} {lo n0:Nat} {Q:C6->SortSt->Prop} (hk:kindOf st0=kd) (hD:∀u,u∈(arrOf st0).toList->D u) (h1:1<=n0) (hn0:n0+1<=nrem) (hs:lo+nrem<=(arrOf st0).size)
 (rn:Rn lo st0 st (n0+1)) (dn:DnK O key d (arrOf st) lo (lo+(n0+1)))
 {T:Option C6×Nat×Nat->StateT SortSt Sem C6}
 (hT:∀n neq st',Rn lo st0 st' n->n0+1<=n->n<=nrem->DnK O key d (arrOf st') lo (lo+n)->neq+1<=n->(∀k,lo+n-(neq+1)<=k->k<lo+n->K O key d (arrOf st') k=K O key d (arrOf st') (lo+n-1))->wpS M A E s (T (none,n,neq)) Q st') :
  wpS M A E s ((forIn [n0+1:nrem] ((none,n0+1,0):Option C6×Nat×Nat) λx c=>ltAt' (lo+c.2.1) (lo+c.2.1-1) >>= λy=>match y with
   |some smaller=>if smaller=true then(if c.2.2 > 0 then(reverseSlice' (lo+c.2.1-(c.2.2+1)) (lo+c.2.1) >>= λ_=>pure (ForInStep.yield (none,c.2.1+1,0))) else pure (ForInStep.yield (none,c.2.1+1,0)))
    else ltAt' (lo+c.2.1-1) (lo+c.2.1) >>= λz=>match z with
     |some larger=>if larger=true then pure (ForInStep.done (none,c.2.1,c.2.2)) else pure (ForInStep.yield (none,c.2.1+1,c.2.2+1))
     |x=>pure (ForInStep.done (some none,c.2.1,c.2.2))
   |x=>pure (ForInStep.done (some none,c.2.1,c.2.2))) >>= T) Q st:=by
 refine Qe (Rc (Q3 (I:=λx c st'=>∃neq,c=(none,x,neq)/\Rn lo st0 st' x/\DnK O key d (arrOf st') lo (lo+x)/\neq+1<=x/\(∀k,lo+x-(neq+1)<=k->k<lo+x->K O key d (arrOf st') k=K O key d (arrOf st') (lo+x-1)))
  (Q:=λc st'=>∃n neq,c=(none,n,neq)/\n0+1<=n/\n<=nrem/\Rn lo st0 st' n/\DnK O key d (arrOf st') lo (lo+n)/\neq+1<=n/\(∀k,lo+n-(neq+1)<=k->k<lo+n->K O key d (arrOf st') k=K O key d (arrOf st') (lo+n-1))) ?step ?fin
  ⟨0,rfl,rn,dn,by lia,λk h1 h2=>by rw[show k=lo+(n0+1)-1 by lia]⟩) ?post)
 case post =>
  rintro c st' ⟨n,neq,rfl,a1,a2,a3,a4,a5,a6⟩;exact hT n neq st' a3 a1 a2 a4 a5 a6
 case fin =>
  rintro c st' ⟨neq,rfl,a3,a4,a5,a6⟩;rw[show max (n0+1) nrem=nrem by lia] at a3 a4 a5 a6;exact⟨nrem,neq,by rw[show max (n0+1) nrem=nrem by lia],hn0,Qg _,a3,a4,a5,a6⟩
 case step =>
  rintro x c st' hx1 hx2 ⟨neq,rfl,a3,a4,a5,a6⟩;dsimp only;have hsz:=a3.size;have hk':=a3.kind.trans hk;have hD':=J4 a3.perm hD;refine Qe (UK (d:=d) hc hk' hD' (by lia) (by lia) ?_);cases hl:O.blt (K O key d (arrOf st') (lo+x)) (K O key d (arrOf st') (lo+x-1))
  ·dsimp only;rw[Qa (by simp)];refine Qe (UK (d:=d) hc hk' hD' (by lia) (by lia) ?_);cases hl2:O.blt (K O key d (arrOf st') (lo+x-1)) (K O key d (arrOf st') (lo+x))
   ·dsimp only;rw[Qa (by simp)];have eq:K O key d (arrOf st') (lo+x)=K O key d (arrOf st') (lo+x-1):=KeyOrd.kle_antisymm hl2 hl;refine Qf ⟨neq+1,rfl,a3.mono (by lia),a4.more (by lia) hl2,by lia,λk hk1 hk2=>?_⟩;rw[show lo+(x+1)-1=lo+x by lia];rcases Rg k (lo+x) with hk3|hk3
    ·rw[a6 k (by lia) hk3];exact eq.symm
    ·rw[show k=lo+x by lia]
   ·dsimp only;rw[Qb rfl];exact Qf ⟨x,neq,rfl,hx1,by lia,a3,a4,a5,a6⟩
  ·dsimp only;rw[Qb rfl];have hle:O.kle (K O key d (arrOf st') (lo+x)) (K O key d (arrOf st') (lo+x-1)):=Ga hl;by_cases hq:neq > 0
   ·rw[Qb hq];rw[NE];refine Qe (Q9 (Qf ?_));have same:=_bl (O:=O) (key:=key) (d:=d) (a:=arrOf st') (i:=lo+x-(neq+1)) (j:=lo+x) (by lia) a6;refine⟨0,rfl,(a3.mir (by lia) (Qg _) (by lia)).mono (by lia),?_,by lia,λk hk1 hk2=>by rw[show k=lo+(x+1)-1 by lia]⟩;refine DnK.more (n:=x) ?_ (by lia) ?_
    ·intro i j b1 b2 b3;show O.kle (K O key d (mirror _ _ _ _) j) (K O key d (mirror _ _ _ _) i);rw[same,same];exact a4 i j b1 b2 b3
    ·show O.kle (K O key d (mirror _ _ _ _) _) (K O key d (mirror _ _ _ _) _);rw[same,same];exact hle
   ·rw[Qa hq];exact Qf ⟨0,rfl,a3.mono (by lia),a4.more (by lia) hle,by lia,λk hk1 hk2=>by rw[show k=lo+(x+1)-1 by lia]⟩
theorem _iY (hc:Y1 M A E s O key D kd) {st:SortSt} {lo:Nat} {Q:C6->SortSt->Prop} (hk:kindOf st=kd) (hD:∀u,u∈(arrOf st).toList->D u) (hn:1<=nrem) (hs:lo+nrem<=(arrOf st).size)
 (h:∀n st',1<=n->n<=nrem->Rn lo st st' n->UpK O key d (arrOf st') lo (lo+n)->Q (some n) st'):wpS M A E s (countRun' lo nrem) Q st:=by
 delta countRun'
 refine Qe (_d7 (d:=d) hc hk hD (Qg 1) hn hs (λi j h1 h2 h3=>by rw[show i=j by lia];exact Gd _) λn n1 n2 up lst=>?_);dsimp only;by_cases e:n=nrem
 ·rw[Qb (by simpa using e)];exact Qf (h n st n1 n2 (Rn.refl _ _ _) up)
 rw[Qa (by simpa using e)];have lt:O.blt (K O key d (arrOf st) (lo+n)) (K O key d (arrOf st) (lo+n-1))=true:=lst.resolve_left e;have down:DnK O key d (arrOf st) lo (lo+n)->DnK O key d (arrOf st) lo (lo+(n+1)):=λdd=>dd.more (by lia) (Ga lt);by_cases hn1:n > 1
 case' pos =>
  rw[Qb hn1];refine Qe (UK (d:=d) hc hk hD (by lia) (by lia) ?_);cases hr:O.blt (K O key d (arrOf st) lo) (K O key d (arrOf st) (lo+n-1))
  case true =>
   dsimp only;rw[Qb rfl];exact Qf (h n st n1 n2 (Rn.refl _ _ _) up)
  dsimp only;rw[Qa (by simp)]
  have alleq:∀k,lo<=k->k<lo+n->K O key d (arrOf st) k=K O key d (arrOf st) (lo+n-1):=λk b1 b2 =>
   KeyOrd.kle_antisymm (up k (lo+n-1) b1 (by lia) (by lia)) (Re hr (up lo k (Qg _) b1 b2))
  refine Qe (m:=reverseSlice' lo (lo+n)) ?_;rw[NE];refine Q9 ?_;have same:=_bl (O:=O) (key:=key) (d:=d) (a:=arrOf st) (i:=lo) (j:=lo+n) (by lia) alleq;refine Qe (RW (Rk ⟨rfl,?_⟩));have rn:=(Rn.refl lo (n+1) st).mir (i:=lo) (j:=lo+n) (Qg _) (by lia) (by lia)
  have dn:DnK O key d (arrOf (setArr st (mirror (arrOf st) lo (lo+n) ((lo+n-lo)/2)))) lo (lo+(n+1)):=by
   intro i j b1 b2 b3;show O.kle (K O key d (mirror _ _ _ _) j) (K O key d (mirror _ _ _ _) i);rw[same,same];refine down ?_ i j b1 b2 b3;intro i j c1 c2 c3;rw[alleq i c1 (by lia),alleq j (by lia) c3];exact Gd _
 case' neg =>
  rw[Qa hn1];refine Qe (RW (Rk ⟨rfl,?_⟩));have rn:=Rn.refl lo (n+1) st;have dn:=down λi j b1 b2 b3=>by rw[show i=j by lia];exact Gd _
 all_goals
  refine _jN (d:=d) hc hk hD n1 (by lia) hs rn dn λm neq st2 r2 m1 m2 dn2 q1 q2=>?_;dsimp only;by_cases hq:neq > 0
  case' pos =>
   rw[Qb hq];refine Qe (m:=reverseSlice' (lo+m-(neq+1)) (lo+m)) ?_;rw[NE];refine Q9 ?_;have same:=_bl (O:=O) (key:=key) (d:=d) (a:=arrOf st2) (i:=lo+m-(neq+1)) (j:=lo+m) (by rw[r2.size];lia) q2;have r3:=r2.mir (i:=lo+m-(neq+1)) (j:=lo+m) (by lia) (Qg _) (by rw[r2.size];lia)
   have d3:DnK O key d (arrOf (setArr st2 (mirror (arrOf st2) (lo+m-(neq+1)) (lo+m) ((lo+m-(lo+m-(neq+1)))/2)))) lo (lo+m):=by
    intro i j b1 b2 b3;show O.kle (K O key d (mirror _ _ _ _) j) (K O key d (mirror _ _ _ _) i);rw[same,same];exact dn2 i j b1 b2 b3
  case' neg =>
   rw[Qa hq];have r3:=r2;have d3:=dn2
  all_goals
   refine Qe (m:=reverseSlice' lo (lo+m)) ?_;rw[NE];refine Q9 ?_;have r4:=r3.mir (i:=lo) (j:=lo+m) (Qg _) (Qg _) (by rw[r3.size];lia);refine Qe (_d7 (d:=d) hc (r4.kind.trans hk) (J4 r4.perm hD) (by lia) m2 (by rw[r4.size];exact hs) (UpK.rev d3 (by rw[r3.size];lia)) λn' a1 a2 a3 a4=>?_);exact Qf (h n' _ (by lia) a2 (r4.mono a1) a3)
end
section
variable{key:Keyed->O.α} {D:Keyed->Prop} {kd:SortKind} {d:O.α}
theorem _nn {src:Nat} (hs:src<a.size) (hd:n<=src) (k:Nat):K O key d (bubble a src n) k=if k=src-n then K O key d a src else if src-n<k/\k<=src then K O key d a (k-1) else K O key d a k:=by
 unfold K WE;rw[getElem?_bubble hs n hd];by_cases c:k=src-n
 ·rw[Qb c,Qb c]
 ·rw[Qa c,Qa c];by_cases c2:src-n<k/\k<=src
  ·rw[Qb c2,Qb c2]
  ·rw[Qa c2,Qa c2]
theorem Rn.bub {lo src dd:Nat} {st0 st:SortSt} (h:Rn lo st0 st n) (h1:lo<=src-dd) (h2:src<lo+n) (h3:dd<=src) (hs:src<(arrOf st).size):Rn lo st0 (setArr st (bubble (arrOf st) src dd)) n :=
 ⟨h.kind,h.fail,h.pend,(bubble_perm _ _ _).trans h.perm,λk hk=>by
  show(bubble (arrOf st) src dd)[k]?=_;rw[getElem?_bubble hs dd h3,Qa (by lia),Qa (by lia)];exact h.out k hk⟩
theorem _mg (hc:Y1 M A E s O key D kd) {st:SortSt} {lo ok:Nat} {Q:Bool->SortSt->Prop} (hk:kindOf st=kd) (hD:∀u,u∈(arrOf st).toList->D u) (h1:1<=ok) (hok:ok<=n) (hs:lo+n<=(arrOf st).size)
 (up:UpK O key d (arrOf st) lo (lo+ok)) (h:∀st',Rn lo st st' n->UpK O key d (arrOf st') lo (lo+n)->Q true st'):wpS M A E s (binarySort' lo n ok) Q st:=by
 delta binarySort'
 refine Qe (Rc (Q3 (I:=λx c st'=>c=(none,())/\Rn lo st st' n/\UpK O key d (arrOf st') lo (lo+x)) (Q:=λc st'=>c=(none,())/\Rn lo st st' n/\UpK O key d (arrOf st') lo (lo+n)) ?step ?fin
  ⟨rfl,Rn.refl _ _ _,by rw[show max ok 1=ok by lia];exact up⟩) ?post)
 case post =>
  rintro c st' ⟨rfl,a1,a2⟩;exact Qf (h st' a1 a2)
 case fin =>
  rintro c st' ⟨rfl,a1,a2⟩;rw[show max (max ok 1) n=n by lia] at a2;exact⟨rfl,a1,a2⟩
 case step =>
  rintro k c st' hk1 hk2 ⟨rfl,a1,a2⟩;dsimp only;have hsz:=a1.size
  refine Qe (Rc (Q3 (I:=λx c st2=>st2=st'/\c.1=none/\c.2.1<=c.2.2/\c.2.2<=k/\c.2.2-c.2.1<=k-x/\(∀i,i<c.2.1->O.kle (K O key d (arrOf st') (lo+i)) (K O key d (arrOf st') (lo+k)))/\(∀i,c.2.2<=i->i<k->O.kle (K O key d (arrOf st') (lo+k)) (K O key d (arrOf st') (lo+i))))
   (Q:=λc st2=>st2=st'/\c.1=none/\c.2.1<=k/\(∀i,i<c.2.1->O.kle (K O key d (arrOf st') (lo+i)) (K O key d (arrOf st') (lo+k)))/\(∀i,c.2.1<=i->i<k->O.kle (K O key d (arrOf st') (lo+k)) (K O key d (arrOf st') (lo+i)))) ?step2 ?fin2
   ⟨rfl,rfl,QN _,Qg _,by dsimp only;lia,λi hi=>by dsimp only at hi;lia,λi hi hi2=>by dsimp only at hi;lia⟩) ?post2)
  case fin2 =>
   rintro⟨r,l,u⟩ st2 ⟨rfl,e,b1,b2,b3,b4,b5⟩;dsimp only at *;obtain rfl:l=u:=by lia
   exact⟨rfl,e,b2,b4,b5⟩
  case step2 =>
   rintro x ⟨r,l,u⟩ st2 _ hx ⟨rfl,e,b1,b2,b3,b4,b5⟩;dsimp only at e b1 b2 b3 b4 b5 ⊢;subst e;by_cases hlu:l ≥ u
   ·rw[Qb hlu];obtain rfl:l=u:=by lia
    exact Qf ⟨rfl,rfl,b2,b4,b5⟩
   ·rw[Qa hlu];refine Qe (UK (d:=d) hc (a1.kind.trans hk) (J4 a1.perm hD) (by lia) (by lia) ?_);cases hl:O.blt (K O key d (arrOf st2) (lo+k)) (K O key d (arrOf st2) (lo+(l+u)/2))
    ·dsimp only;rw[Qa (by simp)];refine Qf ⟨rfl,rfl,by dsimp only;lia,by dsimp only;lia,by dsimp only;lia,λi hi=>?_,b5⟩;dsimp only at hi;exact Re (a2 (lo+i) (lo+(l+u)/2) (by lia) (by lia) (by lia)) hl
    ·dsimp only;rw[Qb rfl];refine Qf ⟨rfl,rfl,by dsimp only;lia,by dsimp only;lia,by dsimp only;lia,b4,λi hi hi2=>?_⟩;dsimp only at hi;exact Re (Ga hl) (a2 (lo+(l+u)/2) (lo+i) (by lia) (by lia) (by lia))
  case post2 =>
   rintro⟨r,l,u⟩ st2 ⟨rfl,e,b2,b4,b5⟩;dsimp only at e b2 b4 b5 ⊢;subst e;dsimp only;refine Qe (m:=moveDown' (lo+k) (lo+l)) ?_;rw[moveDown'_eq];refine Q9 (Qf ⟨rfl,a1.bub (by lia) (by lia) (by lia) (by lia),?_⟩);have kb:=_nn (O:=O) (key:=key) (d:=d) (a:=arrOf st2) (src:=lo+k) (n:=lo+k-(lo+l)) (by lia) (by lia);rw[show lo+k-(lo+k-(lo+l))=lo+l by lia] at kb;intro i j c1 c2 c3;show O.kle (K O key d (bubble _ _ _) i) (K O key d (bubble _ _ _) j);rw[kb,kb];by_cases e1:i=lo+l
   ·rw[Qb e1];by_cases e2:j=lo+l
    ·rw[Qb e2];exact Gd _
    ·rw[Qa e2,Qb (by lia)];have:=b5 (j-1-lo) (by lia) (by lia)
     rwa [show lo+(j-1-lo)=j-1 by lia] at this
   ·rw[Qa e1];by_cases e3:lo+l<i/\i<=lo+k
    ·rw[Qb e3,Qa (by lia),Qb (by lia)];exact a2 _ _ (by lia) (by lia) (by lia)
    ·rw[Qa e3];by_cases e2:j=lo+l
     ·rw[Qb e2];have:=b4 (i-lo) (by lia)
      rwa [show lo+(i-lo)=i by lia] at this
     ·rw[Qa e2];by_cases e4:lo+l<j/\j<=lo+k
      ·rw[Qb e4];exact a2 _ _ (by lia) (by lia) (by lia)
      ·rw[Qa e4];exact a2 _ _ (by lia) (by lia) (by lia)
theorem Rn.lists {lo:Nat} {st0 st:SortSt} (h:Rn lo st0 st n) {R:List Keyed} (hP:P.length=lo) (hn:n<=R.length) (e:(arrOf st0).toList=P++R) (up:UpK O key d (arrOf st) lo (lo+n)) :
  ∃C,(arrOf st).toList=P++(C++R.drop n)/\C.Perm (R.take n)/\C.Pairwise (le O key)/\C.length=n:=by
 have hl:(arrOf st).toList.length=P.length+R.length:=by rw[(ND.mp h.perm).length_eq,e,Qq]
 have t1:(arrOf st).toList.take lo=P:=by
  apply N6;intro i;rw[List.getElem?_take];split
  ·rename_i hi;rw[Rj,h.out i (.inl hi),<-Rj,e,Gi (by lia)]
  ·rename_i hi;rw[List.getElem?_eq_none (by lia)]
 have t2:(arrOf st).toList.drop (lo+n)=R.drop n:=by
  apply N6;intro i;rw[N5,N5,Rj,h.out (lo+n+i) (.inr (by lia)),<-Rj,e,RP (by lia)]
  congr 1;lia
 have e2:(arrOf st).toList=P++(((arrOf st).toList.drop lo).take n++R.drop n):=by
  have z1:=(QR lo (arrOf st).toList).symm;have z2:=(QR n ((arrOf st).toList.drop lo)).symm;rw[N3] at z2;rw[t2] at z2;rw[t1] at z1;rw[<-z2];exact z1
 have hlen:(((arrOf st).toList.drop lo).take n).length=n:=by rw[QU,Ri];lia
 refine⟨((arrOf st).toList.drop lo).take n,e2,?_,?_,hlen⟩
 ·have p:=ND.mp h.perm;rw[e2,e] at p;have p2:=(List.perm_append_left_iff P).mp p;rw[show R=R.take n++R.drop n from(QR n R).symm] at p2;simp only[QR] at p2;have p3:(((arrOf st).toList.drop lo).take n++R.drop n).Perm (R.take n++R.drop n):=by rw[QR];exact p2
  exact(List.perm_append_right_iff _).mp p3
 ·rw[N1];intro i j hi hj hij;rw[hlen] at hi hj;have z:=up (lo+i) (lo+j) (by lia) (by lia) (by lia)
  have at1:∀k,(hk:k<n)->K O key d (arrOf st) (lo+k)=key (((arrOf st).toList.drop lo).take n)[k]:=by
   intro k hk;have q:=XO e2 (i:=k) (by lia);rw[hP,Qp (by lia)] at q;exact XF q
  rw[at1 i hi,at1 j hj] at z;exact z
end
def Pend:Nat->List (List Keyed)->List (Nat×Nat×Nat)->Prop
 |_,[],[]=>True
 |o,r::rs,(a,n,_)::ps=>a=o/\n=r.length/\Pend (o+r.length) rs ps
 |_,_,_=>False
theorem Pend.len:∀{o:Nat} {rs:List (List Keyed)} {ps:List (Nat×Nat×Nat)},Pend o rs ps->ps.length=rs.length
 |_,[],[],_=>rfl
 |_,r::rs,(a,n,_)::ps,h=>by simp[Pend.len h.2.2]
 |_,[],_::_,h=>h.elim
 |_,_::_,[],h=>h.elim
theorem Pend.app:∀{o:Nat} {L M:List (List Keyed)} {p q:List (Nat×Nat×Nat)},Pend o L p->Pend (o+L.flatten.length) M q->Pend o (L++M) (p++q)
 |_,[],M,[],q,_,h=>by simpa using h
 |o,r::L,M,(a,n,_)::p,q,h1,h2=>⟨h1.1,h1.2.1,Pend.app h1.2.2 (by rw[NF,Qq,<-N7] at h2;exact h2)⟩
 |_,[],_,_::_,_,h,_=>h.elim
 |_,_::_,_,[],_,h,_=>h.elim
theorem Pend.cut:∀{o:Nat} {L M:List (List Keyed)} {ps:List (Nat×Nat×Nat)},Pend o (L++M) ps->∃p q,ps=p++q/\Pend o L p/\Pend (o+L.flatten.length) M q
 |_,[],M,ps,h=>⟨[],ps,rfl,trivial,by simpa using h⟩
 |o,r::L,M,(a,n,w)::ps,h=>by
  obtain⟨p,q,e,h1,h2⟩:=Pend.cut h.2.2;refine⟨(a,n,w)::p,q,by rw[e];rfl,⟨h.1,h.2.1,h1⟩,?_⟩;rw[NF,Qq,<-N7];exact h2
 |_,_::_,_,[],h=>h.elim
section
variable{key:Keyed->O.α} {D:Keyed->Prop} {kd:SortKind} {d:O.α} {a0:List Keyed}
structure SRI (O:KeyOrd) (key:Keyed->O.α) (kd:SortKind) (a0:List Keyed) (st:SortSt) (rs:List (List Keyed)) (rest:List Keyed):Prop where
 arr:(arrOf st).toList=rs.flatten++rest
 good:∀r,r∈rs->r≠[]/\r.Pairwise (le O key)
 pend:Pend 0 rs (pendingOf st).toList
 kind:kindOf st=kd
 fail:failedOf st=none
 perm:(arrOf st).toList.Perm a0
theorem SRI.size {st:SortSt} {rest:List Keyed} (h:SRI O key kd a0 st rs rest):(pendingOf st).size=rs.length:=by rw[<-Rh];exact h.pend.len
theorem SRI.allD {st:SortSt} {rest:List Keyed} (h:SRI O key kd a0 st rs rest) (hD:∀u,u∈a0->D u):∀u,u∈(arrOf st).toList->D u:=λu hu=>hD u (h.perm.mem_iff.mp hu)
theorem _kW (h:i+1<rs.length):∃L X Y T,rs=L++(X::Y::T)/\L.length=i:=by
 refine⟨rs.take i,rs[i],rs[i+1],rs.drop (i+2),?_,by rw[QU];lia⟩;have z:=(QR i rs).symm;rw[GY (by lia),GY (by lia)] at z;exact z
theorem _bs (hc:Y1 M A E s O key D kd) (hD:∀u,u∈a0->D u) {st:SortSt} {rest:List Keyed} (h:SRI O key kd a0 st rs rest) (hi:i+1<rs.length) {Q:Bool->SortSt->Prop}
 (hQ:∀rs' st',rs'.length+1=rs.length->rs'.flatten.length=rs.flatten.length->SRI O key kd a0 st' rs' rest->Q true st'):wpS M A E s (mergeAt' i) Q st:=by
 obtain⟨L,X,Y,T,rfl,hL⟩:=_kW hi;obtain⟨p,q,e,p1,p2⟩:=Pend.cut h.pend
 match q,p2 with
 | (a,n,w)::(a',n',w')::q,p2 =>
  obtain⟨rfl,rfl,rfl,rfl,p3⟩:=p2;have hpl:p.length=i:=p1.len.trans hL;have gX:=h.good X (by simp);have gY:=h.good Y (by simp)
  have at0:(pendingOf st)[i]?=some (L.flatten.length,X.length,w):=by
   rw[<-Rj,e,RP (by lia),hpl,G2];simp
  have at1:(pendingOf st)[i+1]?=some (L.flatten.length+X.length,Y.length,w'):=by
   rw[<-Rj,e,RP (by lia),hpl,show i+1-i=1 by lia];simp
  have ea:(arrOf st).toList=L.flatten++(X++(Y++(T.flatten++rest))):=by rw[h.arr];simp
  refine _n9 hc h.kind h.fail at0 at1 ea gX.1 gY.1 gX.2 gY.2 (h.allD hD) λC st' c1 c2 c3 c4 c5 c6=>?_;refine hQ (L++C::T) st' (by simp;lia) (by simp[c1.length_eq];lia) ⟨by rw[c6];simp,?_,?_,c3.trans h.kind,c4,?_⟩
  ·intro r hr;rw[Qn,Qk] at hr;rcases hr with hr|rfl|hr
   ·exact h.good r (by simp[hr])
   ·refine⟨λz=>?_,c2⟩;rw[z] at c1;have:=c1.length_eq;simp only[Gn,Qq] at this;exact gX.1 (NG.mp (by lia))
   ·exact h.good r (by simp[hr])
  ·have hlen:(pendingOf st).toList.length=p.length+(q.length+1+1):=by rw[e];simp
   have ep:(pendingOf st').toList=p++((L.flatten.length,X.length+Y.length,w)::q):=by
    rw[c5,Array.eraseIdxIfInBounds,dif_pos (by rw[Mt,<-Rh];lia),Array.toList_eraseIdx,Mu,e,List.set_append_right _ _ (by lia),hpl,G2,List.set_cons_zero,
     List.eraseIdx_append_of_length_le (by lia),hpl,show i+1-i=1 by lia]
    simp
   rw[ep];refine Pend.app p1 ⟨by simp,by simp[c1.length_eq],?_⟩;rw[c1.length_eq,Qq];rw[<-N7];exact p3
  ·refine List.Perm.trans ?_ h.perm;rw[c6,ea];refine RY _ ?_;refine List.Perm.trans (c1.append_right _) ?_;rw[QH]
 |[],p2=>exact p2.elim
 |[_],p2=>obtain⟨_,_,p3⟩:=p2;exact p3.elim
end
theorem Pend.last:∀{o:Nat} {rs:List (List Keyed)} {ps:List (Nat×Nat×Nat)} (f:Nat->Nat) (i:Nat),Pend o rs ps->Pend o rs (ps.modify i λx=>(x.1,x.2.1,f x.2.2))
 |_,[],[],f,i,_=>by simp[Pend]
 |_,r::rs,(a,n,_)::ps,f,0,h=>by simpa[Pend] using h
 |_,r::rs,(a,n,_)::ps,f,i+1,h=>by
  rw[List.modify_succ_cons];exact⟨h.1,h.2.1,Pend.last f i h.2.2⟩
 |_,[],_::_,_,_,h=>h.elim
 |_,_::_,[],_,_,h=>h.elim
section
variable{key:Keyed->O.α} {D:Keyed->Prop} {kd:SortKind} {d:O.α} {a0:List Keyed}
theorem Rn.trans {lo m:Nat} {st0 st1 st2:SortSt} (h1:Rn lo st0 st1 n) (h2:Rn lo st1 st2 m) (hn:n<=m):Rn lo st0 st2 m :=
 ⟨h2.kind.trans h1.kind,h2.fail.trans h1.fail,h2.pend.trans h1.pend,h2.perm.trans h1.perm,λk hk=>(h2.out k hk).trans (h1.out k (by lia))⟩
theorem XV (rs:List (List Keyed)) (C:List Keyed):(rs++[C]).flatten.length=rs.flatten.length+C.length:=by
 rw[List.flatten_append,Qq,NF,List.flatten_nil,Q1]
theorem _cW:∀{rs:List (List Keyed)},(∀r,r∈rs->r≠[])->rs.length<=rs.flatten.length
 |[],_=>Qg _
 |r::rs,h=>by
  have h1:=_cW (rs:=rs) λx hx=>h x (QB _ hx);have h2:0<r.length:=RF.mpr (h r Qy);rw[NF,Qq,QC];lia
theorem SRI.found {st st':SortSt} {rest:List Keyed} (h:SRI O key kd a0 st rs rest) (rn:Rn rs.flatten.length st st' n) (hn:n<=rest.length) (up:UpK O key d (arrOf st') rs.flatten.length (rs.flatten.length+n)) :
  ∃C rest',SRI O key kd a0 st' rs (C++rest')/\C.length=n/\C.Pairwise (le O key)/\rest'.length+n=rest.length:=by
 obtain⟨C,e1,e2,e3,e4⟩:=rn.lists rfl hn h.arr up;refine⟨C,rest.drop n,⟨e1,h.good,by rw[rn.pend];exact h.pend,rn.kind.trans h.kind,rn.fail.trans h.fail,(ND.mp rn.perm).trans h.perm⟩,e4,e3,by rw[Ri];lia⟩
theorem SRI.pushed {st:SortSt} {C rest:List Keyed} {g:Nat} (h:SRI O key kd a0 st rs (C++rest)) (hC:C≠[]) (sC:C.Pairwise (le O key)) :
  SRI O key kd a0 (SortSt.mk' (kindOf st) (arrOf st) ((pendingOf st).push (rs.flatten.length,C.length,0)) g (failedOf st)) (rs++[C]) rest:=by
 refine⟨by show(arrOf st).toList=_;rw[h.arr];simp,?_,?_,h.kind,h.fail,h.perm⟩
 ·intro r hr;rw[Qn,Qz] at hr;rcases hr with hr|rfl
  ·exact h.good r hr
  ·exact⟨hC,sC⟩
 ·show Pend 0 (rs++[C]) ((pendingOf st).push (rs.flatten.length,C.length,0)).toList;rw[Q4];exact Pend.app h.pend ⟨by simp,rfl,trivial⟩
theorem SRI.powered {st:SortSt} {rest:List Keyed} {g pw:Nat} (h:SRI O key kd a0 st rs rest) :
  SRI O key kd a0 (SortSt.mk' (kindOf st) (arrOf st) ((pendingOf st).modify i λx=>(x.1,x.2.1,pw)) g (failedOf st)) rs rest :=
 ⟨h.arr,h.good,by
  show Pend 0 rs ((pendingOf st).modify i λx=>(x.1,x.2.1,pw)).toList;rw[Array.toList_modify];exact Pend.last (λ_=>pw) i h.pend,h.kind,h.fail,h.perm⟩
theorem _k7 (hc:Y1 M A E s O key D kd) (d:O.α) {st:SortSt} {Q:Unit->SortSt->Prop} (hD:∀u,u∈(arrOf st).toList->D u) (hk:kindOf st=kd) (hf:failedOf st=none) (hp:pendingOf st=#[])
 (h:∀st',(arrOf st').toList.Perm (arrOf st).toList->(arrOf st').toList.Pairwise (le O key)->failedOf st'=none->Q () st'):wpS M A E s sortRuns' Q st:=by
 have hD0:=hD;obtain⟨a0,ha0⟩:∃l,l=(arrOf st).toList:=⟨_,rfl⟩;rw[<-ha0] at hD h;have hsz:(arrOf st).size=a0.length:=by rw[ha0,Rh]
 have h0:SRI O key kd a0 st [] a0:=⟨by rw[ha0];rfl,by simp,by rw[hp];trivial,hk,hf,by rw[ha0]⟩
 delta sortRuns'
 refine Qe (Rr ?_);dsimp only;rw[show(arrOf st).size=a0.length from hsz];generalize (sortPriv% PySem.Builtin.minRun) a0.length a0.length 0=mr
 refine Qe (Rc (Q3 (I:=λx c st'=>∃rs rest,c=(none,rs.flatten.length)/\SRI O key kd a0 st' rs rest/\x<=rs.flatten.length/\rs.flatten.length+rest.length=a0.length)
  (Q:=λc st'=>∃rs,c.1=none/\SRI O key kd a0 st' rs []/\rs.flatten.length=a0.length) ?step ?fin ⟨[],a0,rfl,h0,QN _,by simp⟩) ?post)
 case fin =>
  rintro c st' ⟨rs,rest,rfl,r1,r2,r3⟩;obtain rfl:rest=[]:=NG.mp (by lia);exact⟨rs,rfl,r1,by simpa using r3⟩
 case step =>
  rintro x c st' _ hx ⟨rs,rest,rfl,r1,r2,r3⟩;dsimp only;by_cases hge:rs.flatten.length ≥ a0.length
  ·rw[Qb hge];obtain rfl:rest=[]:=NG.mp (by lia);exact Qf ⟨rs,rfl,r1,by simpa using r3⟩
  rw[Qa hge];have hsz':(arrOf st').size=a0.length:=by rw[<-Rh,r1.arr,Qq];exact r3
  refine Qe (_iY (d:=d) hc r1.kind (r1.allD hD) (by lia) (by lia) λn st1 n1 n2 rn up=>?_);dsimp only;by_cases hmr:n<mr
  ·rw[Qb hmr];refine Qe (RW (Rk ⟨rfl,?_⟩));have hD1:=J4 rn.perm (r1.allD hD);refine Qe (_mg (d:=d) hc (rn.kind.trans r1.kind) hD1 n1 (by lia) (by rw[rn.size];lia) up λst2 rn2 up2=>?_);rw[Qa (by simp)];have rnn:=rn.trans rn2 (by lia);obtain⟨C,rest',q,hCl,sC,hr⟩:=r1.found rnn (by lia) up2;have n1':1<=min (a0.length-rs.flatten.length) mr:=by lia
   have n2':min (a0.length-rs.flatten.length) mr<=a0.length-rs.flatten.length:=by lia
   have hCne:C≠[]:=λz=>by rw[z,Gn] at hCl;lia
   refine Qe (Rr ?_)
   try dsimp only
   cases hb:(pendingOf st2).back? with
   |none =>
    try dsimp only
    refine Qe (Q9 ?_);have z:=q.pushed (g:=gallopOf st2) hCne sC;rw[hCl] at z;exact Qf ⟨rs++[C],rest',by rw[XV,hCl],z,by rw[XV,hCl];lia,by rw[XV,hCl];lia⟩
   |some v =>
    obtain⟨s1,n1,w1⟩:=v
    try dsimp only
    refine Qe (Rc (Q3 (I:=λx c st3=>c=(none,())/\∃rs',SRI O key kd a0 st3 rs' (C++rest')/\rs'.flatten.length=rs.flatten.length) (Q:=λc st3=>c=(none,())/\∃rs',SRI O key kd a0 st3 rs' (C++rest')/\rs'.flatten.length=rs.flatten.length) ?s3 (λ_ _ h=>h) ⟨rfl,rs,q,rfl⟩) ?p3)
    case s3 =>
     rintro y c st3 _ hy ⟨rfl,rs',r4,r5⟩;refine Qe (Rr ?_)
     try dsimp only
     by_cases hp1:(pendingOf st3).size > 1
     ·rw[Qb hp1];obtain⟨v,hv⟩:∃v,(pendingOf st3)[(pendingOf st3).size-2]?=some v:=⟨_,RG _ _ (by lia)⟩;rw[hv];obtain⟨u1,u2,u3⟩:=v
      try dsimp only
      split
      ·exact Qf ⟨rfl,rs',r4,r5⟩
      ·refine Qe (_bs hc hD r4 (by have z:=r4.size;have z2:(pendingOf st3).size > 1:=hp1;show(pendingOf st3).size-2+1<rs'.length;lia) λrs2 st4 l1 l2 r6=>?_);rw[Qa (by simp)];exact Qf ⟨rfl,rs2,r6,by lia⟩
     ·rw[Qa hp1];exact Qf ⟨rfl,rs',r4,r5⟩
    case p3 =>
     rintro c st3 ⟨rfl,rs',r4,r5⟩
     try dsimp only
     refine Qe (Q9 ?_);refine Qe (Q9 ?_);have z:=(r4.powered (g:=gallopOf st3) (i:=(pendingOf st3).size-1) (pw:=power' a0.length (2*s1+n1) (2*s1+n1+n1+min (a0.length-rs.flatten.length) mr) a0.length)).pushed (g:=gallopOf st3) hCne sC;rw[hCl,r5] at z;exact Qf ⟨rs'++[C],rest',by rw[XV,hCl,r5],z,by rw[XV,hCl,r5];lia,by rw[XV,hCl,r5];lia⟩
  ·rw[Qa hmr];obtain⟨st2,est⟩:∃z,z=st1:=⟨_,rfl⟩;rw[<-est] at rn up ⊢;obtain⟨C,rest',q,hCl,sC,hr⟩:=r1.found rn (by lia) up;have hCne:C≠[]:=λz=>by rw[z,Gn] at hCl;lia
   refine Qe (Rr ?_)
   try dsimp only
   cases hb:(pendingOf st2).back? with
   |none =>
    try dsimp only
    refine Qe (Q9 ?_);have z:=q.pushed (g:=gallopOf st2) hCne sC;rw[hCl] at z;exact Qf ⟨rs++[C],rest',by rw[XV,hCl],z,by rw[XV,hCl];lia,by rw[XV,hCl];lia⟩
   |some v =>
    obtain⟨s1,n1,w1⟩:=v
    try dsimp only
    refine Qe (Rc (Q3 (I:=λx c st3=>c=(none,())/\∃rs',SRI O key kd a0 st3 rs' (C++rest')/\rs'.flatten.length=rs.flatten.length) (Q:=λc st3=>c=(none,())/\∃rs',SRI O key kd a0 st3 rs' (C++rest')/\rs'.flatten.length=rs.flatten.length) ?s3 (λ_ _ h=>h) ⟨rfl,rs,q,rfl⟩) ?p3)
    case s3 =>
     rintro y c st3 _ hy ⟨rfl,rs',r4,r5⟩;refine Qe (Rr ?_)
     try dsimp only
     by_cases hp1:(pendingOf st3).size > 1
     ·rw[Qb hp1];obtain⟨v,hv⟩:∃v,(pendingOf st3)[(pendingOf st3).size-2]?=some v:=⟨_,RG _ _ (by lia)⟩;rw[hv];obtain⟨u1,u2,u3⟩:=v
      try dsimp only
      split
      ·exact Qf ⟨rfl,rs',r4,r5⟩
      ·refine Qe (_bs hc hD r4 (by have z:=r4.size;have z2:(pendingOf st3).size > 1:=hp1;show(pendingOf st3).size-2+1<rs'.length;lia) λrs2 st4 l1 l2 r6=>?_);rw[Qa (by simp)];exact Qf ⟨rfl,rs2,r6,by lia⟩
     ·rw[Qa hp1];exact Qf ⟨rfl,rs',r4,r5⟩
    case p3 =>
     rintro c st3 ⟨rfl,rs',r4,r5⟩
     try dsimp only
     refine Qe (Q9 ?_);refine Qe (Q9 ?_);have z:=(r4.powered (g:=gallopOf st3) (i:=(pendingOf st3).size-1) (pw:=power' a0.length (2*s1+n1) (2*s1+n1+n1+n) a0.length)).pushed (g:=gallopOf st3) hCne sC;rw[hCl,r5] at z;exact Qf ⟨rs'++[C],rest',by rw[XV,hCl,r5],z,by rw[XV,hCl,r5];lia,by rw[XV,hCl,r5];lia⟩
 case post =>
  rintro⟨r,lo⟩ st' ⟨rs,e,r1,r3⟩;dsimp only at e;subst e;dsimp only
  refine Qe (Rc (Q3 (I:=λx c st'=>c=(none,())/\∃rs,SRI O key kd a0 st' rs []/\rs.length+x<=a0.length)
   (Q:=λc st'=>c=(none,())/\∃rs,SRI O key kd a0 st' rs []/\rs.length<=1) ?step2 ?fin2 ⟨rfl,rs,r1,?_⟩) ?post2)
  case fin2 =>
   rintro c st' ⟨rfl,rs,r1,r2⟩;exact⟨rfl,rs,r1,by lia⟩
  case post2 =>
   rintro c st' ⟨rfl,rs,r1,r2⟩;refine Qf (h st' r1.perm ?_ r1.fail);have e:=r1.arr
   match rs,r1,r2,e with
   |[],r1,_,e=>rw[e];simp
   |[C],r1,_,e =>
    rw[e];simpa using(r1.good C (by simp)).2
  case step2 =>
   rintro x c st' _ hx ⟨rfl,rs,r1,r2⟩
   try dsimp only
   refine Qe (Rr ?_)
   try dsimp only
   have hps:=r1.size;by_cases hle:(pendingOf st').size<=1
   ·rw[Qb hle];exact Qf ⟨rfl,rs,r1,by lia⟩
   rw[Qa hle];have z2:1<rs.length:=by rw[<-hps];exact Nat.lt_of_not_le hle
   refine Qe (_bs hc hD r1 ?_ λrs' st2 l1 l2 r4=>?_)
   ·rw[show((pendingOf st').size)=rs.length from hps]
    repeat' split
    all_goals lia
   ·rw[Qa (by simp)];exact Qf ⟨rfl,rs',r4,by lia⟩
  ·have:=_cW λr hr=>(r1.good r hr).1;lia
end
end SA
namespace SA
open PySem PyProof.Rows PySem.W
variable{b:Bool}
abbrev RK:=Sum Int Str
noncomputable def Wk:RK->RK->Bool
 |.inl a,.inl b=>decide (a<b)
 |.inr x,.inr y=>decide (x.cps.toList<y.cps.toList)
 |.inl _,.inr _=>true
 |.inr _,.inl _=>false
theorem _mZ {x y:Str} (h:x.cps.toList=y.cps.toList):x=y:=by
 obtain⟨a⟩:=x;obtain⟨b⟩:=y;have:a=b:=NA.mp h;rw[this]
noncomputable def kO:KeyOrd where
 α:=RK
 blt:=Wk
 irrefl a:=by
  cases a with
  |inl a=>simp[Wk]
  |inr x=>simp[Wk,N8]
 trans a b c h1 h2:=by
  cases a<;>cases b<;>cases c<;>simp only[Wk,Gz,reduceCtorEq,Ge] at h1 h2 ⊢
  ·lia
  ·exact List.lt_trans h1 h2
 negTrans a b c h:=by
  cases a<;>cases b<;>cases c<;>simp only[Wk,Gz,reduceCtorEq,Ge,or_true,true_or,QW,false_or] at h ⊢
  ·lia
  ·rename_i x y z;by_cases hab:x.cps.toList<y.cps.toList
   ·exact .inl hab
   ·exact .inr (List.lt_of_le_of_lt (G3.mp hab) h)
 total a b h1 h2:=by
  cases a<;>cases b<;>simp only[Wk,decide_eq_false_iff_not,reduceCtorEq,Bool.true_eq_false] at h1 h2
  ·congr 1;lia
  ·congr 1;exact _mZ (List.le_antisymm (G3.mp h2) (G3.mp h1))
noncomputable def rLt:List RK->List RK->Bool
 |[],[]=>false
 |[],_::_=>true
 |_::_,[]=>false
 |a::as,b::bs=>if a=b then rLt as bs else Wk a b
theorem _fI:∀l,rLt l l=false
 |[]=>rfl
 |a::l=>by rw[rLt,Qb rfl];exact _fI l
theorem _gf:∀a b c,rLt a b=true->rLt b c=true->rLt a c=true
 |[],[],c,h1,_=>by cases h1
 |[],b::bs,[],_,h2=>by cases h2
 |[],b::bs,c::cs,_,_=>rfl
 |a::as,[],c,h1,_=>by cases h1
 |a::as,b::bs,[],_,h2=>by cases h2
 |a::as,b::bs,c::cs,h1,h2=>by
  rw[rLt] at h1 h2 ⊢;by_cases e1:a=b
  ·subst e1;rw[Qb rfl] at h1;by_cases e2:a=c
   ·rw[Qb e2] at h2 ⊢;exact _gf as bs cs h1 h2
   ·rw[Qa e2] at h2 ⊢;exact h2
  ·rw[Qa e1] at h1;by_cases e2:b=c
   ·subst e2;rw[Qa e1];exact h1
   ·rw[Qa e2] at h2;have h3:=kO.trans a b c h1 h2;have e3:a≠c:=λe=>by subst e;exact absurd ((kO.irrefl a).symm.trans h3) (by simp)
    rw[Qa e3];exact h3
theorem _dP:∀a b c,rLt a c=true->rLt a b=true\/rLt b c=true
 |[],[],[],h=>by cases h
 |[],[],c::cs,_=>.inr rfl
 |[],b::bs,c,_=>.inl rfl
 |a::as,b,[],h=>by cases h
 |a::as,[],c::cs,_=>.inr rfl
 |a::as,b::bs,c::cs,h=>by
  rw[rLt] at h;rw[rLt,rLt];by_cases e1:a=c
  ·subst e1;rw[Qb rfl] at h;by_cases e2:a=b
   ·subst e2;rw[Qb rfl,Qb rfl];exact _dP as bs cs h
   ·rw[Qa e2,Qa (λe=>e2 e.symm)];cases h1:Wk a b
    ·cases h2:Wk b a
     ·exact absurd (kO.total a b h1 h2) e2
     ·exact .inr rfl
    ·exact .inl rfl
  ·rw[Qa e1] at h;rcases kO.negTrans a b c h with h1|h1
   ·have e2:a≠b:=λe=>by subst e;exact absurd ((kO.irrefl a).symm.trans h1) (by simp)
    rw[Qa e2];exact .inl h1
   ·have e2:b≠c:=λe=>by subst e;exact absurd ((kO.irrefl b).symm.trans h1) (by simp)
    rw[Qa e2];exact .inr h1
theorem rLt_total:∀a b,rLt a b=false->rLt b a=false->a=b
 |[],[],_,_=>rfl
 |[],_::_,h,_=>by cases h
 |_::_,[],_,h=>by cases h
 |a::as,b::bs,h1,h2=>by
  rw[rLt] at h1 h2;by_cases e:a=b
  ·subst e;rw[Qb rfl] at h1 h2;rw[rLt_total as bs h1 h2]
  ·rw[Qa e] at h1;rw[Qa (λz=>e z.symm)] at h2;exact absurd (kO.total a b h1 h2) e
noncomputable def rO:KeyOrd:=⟨List RK,rLt,_fI,_gf,_dP,rLt_total⟩
noncomputable def YR:Value->RK
 |.int i _=>.inl i
 |.str x _=>.inr x
 |_=>.inl 0
def UU (v:Value):Prop:=(∃i t,v=.int i t)\/∃x t,v=.str x t
def sameT:RK->RK->Prop
 |.inl _,.inl _=>True
 |.inr _,.inr _=>True
 |_,_=>False
def Comp:List RK->List RK->Prop
 |a::as,b::bs=>sameT a b/\(a=b->Comp as bs)
 |_,_=>True
section
variable{prog:Program} {w:World} {A:Around} {E:Value->Shared->Prop} {s:Shared}
theorem _iw {i j:Int} {t u:Tok} {Q:Bool->Shared->Prop} (h:Q (decide (i<j)) s):wpAny (model prog w) A (oneLt' b (.int i t) (.int j u)) Q E s:=by
 cases b
 ·exact kat_one _ _ (compareOp_gives (op:=.Lt) (typeIs_int s i t) (typeIs_int s j u) F.slot_int_lt F.entry_int_lt (F.args_int_lt_2 _ _) (gives_int_lt i j t u) (λx=>nomatch x) h)
 ·exact oneLt_int h
theorem _hj {i j:Str} {t u:Tok} {Q:Bool->Shared->Prop} (h:Q (decide (i.cps.toList<j.cps.toList)) s):wpAny (model prog w) A (oneLt' b (.str i t) (.str j u)) Q E s:=by
 cases b
 ·exact kat_one _ _ (compareOp_gives (op:=.Lt) (RS s i t) (RS s j u) F.slot_str_lt F.entry_str_lt (F.args_str_lt_2 _ _) (gives_str_lt i j t u) (λx=>nomatch x) h)
 ·exact oneLt_str h
theorem _fN {b:Bool} {Q:Bool->Shared->Prop}:∀(xs ys:B1) (i:Nat) (fin:Bool),(∀v,v∈xs->UU v)->(∀v,v∈ys->UU v)->Comp (xs.map YR) (ys.map YR)->fin=decide (xs.length<ys.length) →
  Q (rLt (xs.map YR) (ys.map YR)) s->KatLex prog w A b fin Q (xs.zip ys) i s
 |[],[],i,fin,_,_,_,hf,h=>by subst hf;exact h
 |[],y::ys,i,fin,_,_,_,hf,h=>by
  rw[List.zip_nil_left];have:fin=true:=by rw[hf];simp
  rw[this];exact h
 |x::xs,[],i,fin,_,_,_,hf,h=>by
  rw[List.zip_nil_right];have:fin=false:=by rw[hf];simp
  rw[this];exact h
 |x::xs,y::ys,i,fin,hx,hy,hc,hf,h=>by
  rw[List.zip_cons_cons];have hf':fin=decide (xs.length<ys.length):=by rw[hf];simp
  have rest:YR x=YR y->KatLex prog w A b fin Q (xs.zip ys) (i+1) s:=λe =>
   _fN xs ys (i+1) fin (λv hv=>hx v (QB _ hv)) (λv hv=>hy v (QB _ hv)) (hc.2 e) hf' (by
    rw[Qm,Qm,rLt,Qb e] at h;exact h)
  have cut:YR x≠YR y->Q (Wk (YR x) (YR y)) s:=λe=>by rw[Qm,Qm,rLt,Qa e] at h;exact h
  refine kat_cons ?_;have hs:sameT (YR x) (YR y):=hc.1;rcases hx x Qy with⟨a,t,rfl⟩|⟨a,t,rfl⟩
  ·rcases hy y Qy with⟨c,u,rfl⟩|⟨c,u,rfl⟩
   ·refine wpAny_eqBool_int (kat_go (λe=>kat_yes ?_) λe=>kat_no ?_)
    ·exact rest (by rw[show a=c by simpa using e];rfl)
    ·exact _iw (cut λz=>by simp[YR] at z;simp[z] at e)
   ·exact hs.elim
  ·rcases hy y Qy with⟨c,u,rfl⟩|⟨c,u,rfl⟩
   ·exact hs.elim
   ·refine eqBool_str (kat_go (λe=>kat_yes ?_) λe=>kat_no ?_)
    ·exact rest (by rw[show a=c by simpa using e];rfl)
    ·exact _hj (cut λz=>by simp[YR] at z;simp[z] at e)
noncomputable def Xa (h:Heap) (v:Value):List RK:=match v with
 |.ref a=>match h.get? a with
  |some o=>match o.data with
   |.seq its _=>its.toList.map YR
   |_=>[]
  |none=>[]
 |_=>[]
def TupAt (h:Heap) (v:Value) (r:List RK):Prop:=∃a o its n,v=.ref a/\h.get? a=some o/\o.cls=.type "tuple"/\o.data=.seq its n/\(∀u,u∈its.toList->UU u)/\its.toList.map YR=r
theorem TupAt.row {h:Heap} {v:Value} {r:List RK} (t:TupAt h v r):Xa h v=r:=by
 obtain⟨a,o,its,n,rfl,ho,_,hd,_,e⟩:=t;unfold Xa;dsimp only;rw[ho];dsimp only;rw[hd];exact e
theorem TupAt.mono {h h':Heap} {v:Value} {r:List RK} (t:TupAt h v r) (k:∀a o,o.cls=.type "tuple"->h.get? a=some o->h'.get? a=some o):TupAt h' v r:=by
 obtain⟨a,o,its,n,rfl,ho,hc,hd,hp,e⟩:=t;exact⟨a,o,its,n,rfl,k a o hc ho,hc,hd,hp,e⟩
theorem _g8 {S:List RK->Prop} (hS:∀r q,S r->S q->Comp r q):Y1 (model prog w) A E s rO (λp=>Xa s.heap p.1) (λp=>∃r,S r/\TupAt s.heap p.1 r) (tuples' b):=by
 rintro⟨x,x'⟩ ⟨y,y'⟩ st Q ⟨r,sr,tr⟩ ⟨q,sq,tq⟩ hk hQ;dsimp only at tr tq hQ;rw[tr.row,tq.row] at hQ;rw[lt'_eq];refine Qe (Rr ?_);dsimp only;rw[hk];obtain⟨a,o,its,n,rfl,ho,hc,hd,hp,rfl⟩:=tr;obtain⟨a',o',jts,n',rfl,ho',hc',hd',hp',rfl⟩:=tq;refine Qe (RW (GS (kat_lt ho hd ho' hd' (_fN _ _ 0 _ hp hp' (hS _ _ sr sq) (by simp) ⟨rfl,?_⟩))));exact Qf hQ
theorem _dX {h:Heap} {x:Str->Prop}:∀{vs:B1},(∀v,v∈vs->∃z r,TupAt h v (.inr z::r))->∃fs,KatTups h vs fs/\fs.length=vs.length/\∀f,f∈fs->∃z t,f=.str z t
 |[],_=>⟨[],trivial,rfl,by simp⟩
 |v::vs,hv=>by
  obtain⟨fs,k1,k2,k3⟩:=_dX (x:=x) (vs:=vs) λu hu=>hv u (QB _ hu);obtain⟨z,r,a,o,its,n,rfl,ho,hc,hd,hp,e⟩:=hv v Qy;obtain⟨l⟩:=its
  match l,e with
  |f::l,e =>
   have hf:YR f=.inr z:=by injection e
   have hf2:∃z t,f=.str z t:=by
    rcases hp f (by simp) with⟨i,t,rfl⟩|hh
    ·cases hf
    ·exact hh
   refine⟨f::fs,KatTups.cons ho hc hd rfl k1,by simp[k2],λg hg=>?_⟩;rcases Qk.mp hg with rfl|hg
   ·exact hf2
   ·exact k3 g hg
theorem _f8 {vs:B1} {xs:List Keyed} (p:xs.Perm (vs.toArray.zip vs.toArray).toList):(xs.map (·.2)).Perm vs/\∀u,u∈xs->u.1=u.2/\u.1∈vs:=by
 have e:(vs.toArray.zip vs.toArray).toList=vs.zip vs:=by simp
 rw[e] at p;refine⟨(p.map _).trans ?_,λu hu=>?_⟩
 ·show((vs.zip vs).map Prod.snd).Perm vs;rw[List.map_snd_zip (Qg _)]
 ·exact mem_zip_self (p.mem_iff.mp hu)
theorem _hm {S:List RK->Prop} (hS:∀r q,S r->S q->Comp r q) {a:Addr} {vs:B1} {n:Nat} {P:Fin->Shared->Prop} (ho:s.heap.get? a=some (seqObj "list" vs.toArray n)) (hz:vs.length<=sizeLine)
 (hv:∀v,v∈vs->∃z r,S (.inr z::r)/\TupAt s.heap v (.inr z::r))
 (h:∀out:B1,out.Perm vs->(out.map (Xa s.heap)).Pairwise (λx y=>rLt y x=false)->P (.done (.ret .none)) { s with heap:=sortedHeap s.heap a vs out.toArray }) :
  wpAny (model prog w) A (Builtin.«list.sort» ⟨[.ref a],[]⟩) P E s:=by
 rw[list_sort_plain];have ha:a<s.heap.objs.size:=Qo ho;refine Qc (listItems_at ho rfl (Qc (listUpdate_at ho rfl ?_)));obtain⟨e1,ho1⟩:∃e1,(s.heap.update a (Obj.mapSeq λ_=>#[])).get? a=some (seqObj "list" #[] e1):=⟨_,get?_update_seq ho (λ_=>#[])⟩;refine Qc (seqEpoch_at ho1 rfl (Qc (wpAny_newTuple (Qc (Gu (RC ?_))))));obtain⟨h6,e6⟩:∃h6,h6=((s.heap.update a (Obj.mapSeq λ_=>#[])).push (seqObj "tuple" vs.toArray 0)).push (seqObj "list" #[] 0):=⟨_,rfl⟩
 have keep:∀b o,b≠a->s.heap.get? b=some o->h6.get? b=some o:=by
  intro b o hb eb;rw[e6];refine Qr _ (Qr _ ?_);rw[NZ _ _ _ _ hb];exact eb
 have ho6:h6.get? a=some (seqObj "list" #[] e1):=by
  rw[e6];exact Qr _ (Qr _ ho1)
 show wpAny (model prog w) A _ P E { s with heap:=((s.heap.update a (Obj.mapSeq λ_=>#[])).push (seqObj "tuple" vs.toArray 0)).push (seqObj "list" #[] 0) };have sh:∀out,sortedHeap s.heap a vs out=h6.update a (Obj.mapSeq λ_=>out):=λout=>by rw[e6];rfl
 rw[<-e6];dsimp only
 have tk:∀b o,o.cls=.type "tuple"->s.heap.get? b=some o->h6.get? b=some o:=by
  intro b o hc eb;refine keep b o (λz=>?_) eb;subst z;rw[ho] at eb;cases eb;have hc':Value.type "list"=Value.type "tuple":=hc;injection hc' with q;exact absurd q (by decide)
 have hv6:∀v,v∈vs->∃z r,S (.inr z::r)/\TupAt h6 v (.inr z::r):=λv hv'=>by
  obtain⟨z,r,h1,h2⟩:=hv v hv';exact⟨z,r,h1,h2.mono tk⟩
 have same:∀v,v∈vs->Xa h6 v=Xa s.heap v:=λv hv'=>by
  obtain⟨z,r,h1,h2⟩:=hv v hv';rw[h2.row,(h2.mono tk).row]
 have fin:∀st':SortSt,(arrOf st').toList.Perm (vs.toArray.zip vs.toArray).toList->(arrOf st').toList.Pairwise (le rO λp=>Xa h6 p.1)->P (.done (.ret .none)) { s with heap:=h6.update a (Obj.mapSeq λ_=>(arrOf st').map (·.2)) }:=by
  intro st' p1 p2;obtain⟨q1,q2⟩:=_f8 p1;have z:=h ((arrOf st').toList.map (·.2)) q1 ?_
  ·rw[sh] at z
   have e:((arrOf st').toList.map (·.2)).toArray=(arrOf st').map (·.2):=by
    apply NA.mp;simp
   rw[e] at z;exact z
  ·rw[QF,N9];refine List.Pairwise.imp_of_mem (λ{x y} hx hy hxy=>?_) p2;have hx':=q2 x hx;have hy':=q2 y hy;show rLt (Xa s.heap y.2) (Xa s.heap x.2)=false;rw[<-hx'.1,<-hy'.1,<-same _ hx'.2,<-same _ hy'.2];exact hxy
 have szle:∀st':SortSt,(arrOf st').toList.Perm (vs.toArray.zip vs.toArray).toList->((arrOf st').map (·.2)).size<=sizeLine+1:=by
  intro st' p1;have:=p1.length_eq;simp at this;rw[Array.size_map];lia
 by_cases h2:vs.toArray.size<2
 ·rw[Qb h2,Qb h2];refine Qc (Qh ?_);rw[StateT.run_pure];refine Qc (Qh ?_);dsimp only;have p1:(arrOf (SortSt.mk' general' (vs.toArray.zip vs.toArray) #[] 7 none)).toList.Perm (vs.toArray.zip vs.toArray).toList:=G1 _;refine Qc (seqEpoch_at ho6 rfl (Qc (listUpdate_at ho6 rfl ?_ (hsz2:=szle _ p1))));simp only[bne_self_eq_false,Ge,Ru];refine Qh (fin (SortSt.mk' general' (vs.toArray.zip vs.toArray) #[] 7 none) p1 ?_)
  have pw:∀l:List Keyed,l.length<2->l.Pairwise (le rO λp=>Xa h6 p.1):=by
   intro l h;cases l with
   |nil=>exact .nil
   |cons x l =>
    cases l with
    |nil=>exact List.pairwise_singleton _ _
    |cons y l=>simp only[QC] at h;lia
  exact pw _ (by simpa using h2)
 ·rw[Qa h2,Qa h2]
  obtain⟨fs,k1,k2,k3⟩:=_dX (x:=λ_=>True) (h:=h6) (vs:=vs) λv hv'=>by
   obtain⟨z,r,_,t⟩:=hv6 v hv';exact⟨z,r,t⟩
  have hl:0<fs.length:=by rw[k2];simp at h2;lia
  refine Qc (kat_kind (T:=.type "str") k1 hl (λv hv'=>by obtain⟨z,t,rfl⟩:=k3 v hv';exact Looks.of_pure rfl) (by decide) ?_)
  refine Qc (Q5 (_k7 (s:={ s with heap:=h6 }) (_g8 hS) ([]:List RK) (st:=SortSt.mk' (tuples' (Value.type "str" != Value.type "tuple")) (vs.toArray.zip vs.toArray) #[] 7 none)
   (Q:=λ_ st'=>(arrOf st').toList.Perm (vs.toArray.zip vs.toArray).toList/\(arrOf st').toList.Pairwise (le rO λp=>Xa h6 p.1)/\failedOf st'=none) ?_ rfl rfl rfl λst' a1 a2 a3=>⟨a1,a2,a3⟩) ?_ λ_ _ e=>e)
  ·intro u hu;have:=(_f8 (G1 _)).2 u hu;obtain⟨z,r,h1,h2⟩:=hv6 _ this.2;exact⟨_,h1,h2⟩
  ·rintro⟨⟨⟩,st'⟩ s' ⟨rfl,p1,p2,p3⟩;dsimp only;refine Qc (seqEpoch_at ho6 rfl (Qc (listUpdate_at ho6 rfl ?_ (hsz2:=szle _ p1))));rw[p3];simp only[bne_self_eq_false,Ge,Ru];exact Qh (fin st' p1 p2)
end
section
variable{prog:Program} {w:World} {A:Around} {E:Value->Shared->Prop} {s:Shared} {Ok:Heap->Value->Prop} {row:Heap->Value->List RK} {T:String}
end
end SA
namespace L2
open PySem PySem.Spec PyProof.Rows PySem.W
variable{d it:Addr} {es:Array DictEntry} {ep:Nat}
section
variable{prog:Program} {w:World} {A:Around} {E:Value->Shared->Prop} {s:Shared}
def EntsAt (h:Heap) (d:Addr) (es:Array DictEntry) (ep:Nat):Prop:=∃o,h.get? d=some o/\o.cls=.type "dict"/\o.data=.dict es ep
theorem EntsAt.lt {h:Heap} (x:EntsAt h d es ep):d<h.objs.size:=let ⟨_,ho,_⟩:=x;Qo ho
theorem EntsAt.mono {h h':Heap} (x:EntsAt h d es ep) (k:∀o,h.get? d=some o->h'.get? d=some o):EntsAt h' d es ep:=let ⟨o,ho,r⟩:=x;⟨o,k o ho,r⟩
theorem _gl {v:Addr} {Q:Value->Shared->Prop} (hv:s.heap.IsValuesView v d) (hd:EntsAt s.heap d es ep)
 (q:Q (.ref s.heap.objs.size) { s with heap:=s.heap.push { cls:=.type "dict_valueiterator",data:=.fields #[.ref d,.int 0 0,.int es.size 0,.int ep 0] } }):wpAny (model prog w) A (pyIter (.ref v)) Q E s:=by
 have ty:=hv.typeIs;obtain⟨ov,g1,g2,g3⟩:=hv;obtain⟨od,d1,d2,d3⟩:=hd;have own:Builtin.Dict_items.ownsTuple "dict_valueiterator"=false:=by decide
 refine wpAny_pyIter_slot ty F.slot_dict_values_iter (Rp F.slot_dict_values_iter ty F.entry_dict_values_iter ?_ (F.args_dict_values_iter_1 _))
 delta Builtin.«dict_values.__iter__»
 refine Qc (Qh (Qc ?_))
 delta Builtin.Dict_items.dictOf
 refine Qc (Q7 g1 g3 (x:=.ref d) rfl (Qh (Qc ?_)))
 delta Builtin.Dict_items.newIterator
 refine Qc (GW d1 d3 (Qc (wpAny_dictEpoch d1 d3 ?_)));simp only[own,Ge,Ru];refine Rv (Qh ⟨_,rfl,"dict_valueiterator",_,⟨_,Qw _ rfl,rfl⟩,G7.lookup,?_⟩);simpa[rawInt] using q
theorem _ab {Q:String->Shared->Prop} (hT:s.TypeIs (.ref it) "dict_valueiterator") (h:Q "dict_valueiterator" s):wpAny (model prog w) A (typeNameOfWhole (.ref it)) Q E s:=wpAny_typeNameOfWhole_valiter hT h
theorem _eG {i:Nat} {e:DictEntry} {Q:B4->Shared->Prop} (hit:s.heap.IsValIter it d i es.size ep) (hd:EntsAt s.heap d es ep) (he:es[i]?=some e)
 (q:∀h',h'.IsValIter it d (i+1) es.size ep->Heap.SameBut it s.heap h'->Q (some e.val) { s with heap:=h' }):wpAny (model prog w) A (pyNext (.ref it)) Q E s:=by
 have ty:=hit.typeIs;obtain⟨o,o1,o2,o3⟩:=id hit;obtain⟨od,d1,d2,d3⟩:=hd;have own:Builtin.Dict_items.ownsTuple "dict_valueiterator"=false:=by decide
 have hlt:i<es.size:=by
  rcases Rg i es.size with h|h
  ·exact h
  ·rw[R9 h] at he;cases he
 have hv:es[i].val=e.val:=by rw[RG es i hlt] at he;injection he with z;rw[z]
 delta pyNext
 refine Qc (GS (RD (name:=Str.ofString "__next__") ty G7
  (Rp G7 ty Mv ?_ (Mw _))))
 refine Qc (Qh (Qc (Qc (Qc (_ab ty (Qh (Qc (wpAny_fieldsOf o1 o3 ?_))))))));simp only[own,Ge,Ru];have nn:(Value.ref d==Value.none)=false:=rfl;show wpAny _ _ (if(Value.ref d==Value.none)=true then _ else _) _ _ s;rw[nn,Qa QD];refine Qc (Qh (Qc (GW d1 d3 ?_)));rw[Qa (by simp)];refine Qc (Qh (Qc (wpAny_dictEpoch d1 d3 ?_)));rw[Qa (by simp)];refine Qh ?_;simp only[show ¬((i:Int)<0) from by lia,Ru,GJ,Array.getElem?_eq_getElem hlt];refine Qc (Qc (_ab ty (Qh (Qc (Ma ty ?_)))));show wpAny _ _ (setField (.ref it) 1 (rawInt ((i:Int)+1)) >>= _) _ _ s;obtain⟨h',eh⟩:∃z,z=s.heap.update it (Obj.mapFields (·.setIfInBounds 1 (rawInt ((i:Int)+1)))):=⟨_,rfl⟩;refine Qc (Nu o1 o3 (by simp) ?_);rw[<-eh]
 have hit':h'.IsValIter it d (i+1) es.size ep:=by
  rw[eh];exact⟨_,NX _ o1 (Obj.isFreed_of_fields (Nv o3 _)),(Obj.cls_mapFields ..).trans o2,by rw[Nv o3];simp[rawInt]⟩
 have ty':({ s with heap:=h' }:Shared).TypeIs (.ref it) "dict_valueiterator":=Heap.IsValIter.typeIs (s:={ s with heap:=h' }) hit';refine Qc (RC (Qc (Ma ty' (Qc (Ma ty' ?_)))));show wpAny _ _ (pure es[i].val) _ _ _;rw[hv];exact Qh (Qh ⟨_,rfl,Qh (q _ hit' (by rw[eh];exact R8 ..))⟩)
theorem _fw {i:Nat} {Q:B4->Shared->Prop} (hh:A.handled=none) (hit:s.heap.IsValIter it d i es.size ep) (hd:EntsAt s.heap d es ep) (he:es.size<=i)
 (q:∀h',Heap.ExtBut it s.heap h'->Q none { s with heap:=h' }):wpAny (model prog w) A (pyNext (.ref it)) Q E s:=by
 have ty:=hit.typeIs;obtain⟨o,o1,o2,o3⟩:=id hit;obtain⟨od,d1,d2,d3⟩:=hd;have own:Builtin.Dict_items.ownsTuple "dict_valueiterator"=false:=by decide
 delta pyNext
 refine Qc (GS (RD (name:=Str.ofString "__next__") ty G7
  (Rp G7 ty Mv ?_ (Mw _))))
 refine Qc (Qh (Qc (Qc (Qc (_ab ty (Qh (Qc (wpAny_fieldsOf o1 o3 ?_))))))));simp only[own,Ge,Ru];have nn:(Value.ref d==Value.none)=false:=rfl;show wpAny _ _ (if(Value.ref d==Value.none)=true then _ else _) _ _ s;rw[nn,Qa QD];refine Qc (Qh (Qc (GW d1 d3 ?_)));rw[Qa (by simp)];refine Qc (Qh (Qc (wpAny_dictEpoch d1 d3 ?_)));rw[Qa (by simp)];refine Qh ?_;simp only[show ¬((i:Int)<0) from by lia,Ru,GJ,R9 he];refine Qc (Qc (_ab ty (Qh ?_)));show wpAny _ _ (setField (.ref it) 0 .none >>= _) _ _ s;refine Qc (Nu o1 o3 (by simp) ?_);show wpAny _ _ (newExc (.type "StopIteration") [] >>= _) _ _ _;refine Qc ?_;simp only[newExc,newTuple];refine Qc (Rv (Qc (m:=firstArgMember _ _) (wpAny_of_eq (a:=Value.none) (by first|rfl|(simp only[firstArgMember];rfl)) (Rv ?_ (by size_fits)))) (by size_fits));simp only[raiseNew];refine Qc (wpAny_handled ?_);rw[show A.in1.handled=none from hh];refine Qc (Qh (wpAny_throw ?_));refine Qc (wpAny_isInstance (T:="StopIteration") (b:=true) ⟨_,Qw _ rfl,rfl⟩ isSubtype_stop ?_);exact Qh (q _ (((R8 ..).extBut.push _).push _))
theorem _mh (hh:A.handled=none) (I d:Addr) (hne:d≠I) (es:Array DictEntry) (ep:Nat) :
  Walks prog w A I [I,d] [I] es.size (λi v=>∃e,es[i]?=some e/\v=e.val) (λi h=>h.IsValIter I d i es.size ep/\EntsAt h d es ep) where
 sub:=by intro b hb;rw[Qz] at hb;rw[hb];exact Qy
 frame:=by
  intro i h h' st k;obtain⟨⟨o,o1,o2⟩,e⟩:=st;exact⟨⟨o,k I Qy o o1,o2⟩,e.mono λo eo=>k d (QB _ Qy) o eo⟩
 item:=by
  intro i s Q E hi st q;refine _eG st.1 st.2 (RG es i hi) λh' it' sm=>?_;refine q _ h' s.toks ⟨_,RG es i hi,rfl⟩ ⟨it',st.2.mono λo eo=>sm.extBut d o hne eo⟩ λb o hb eo=>sm.extBut b o (λz=>hb (by rw[z];exact Qy)) eo
 done:=by
  intro s Q E st q;exact _fw hh st.1 st.2 (Qg _) λh' x=>q h' s.toks λb o hb eo=>x b o (λz=>hb (by rw[z];exact Qy)) eo
 self:=λ_ _ _ _ st q=>wpAny_pyIter_valiter st.1 q
theorem _jc {r:Addr}:KdlSrc prog w "dict_values" r d es.size (λi v=>∃e,es[i]?=some e/\v=e.val) (λh=>h.IsValuesView r d/\EntsAt h d es ep) where
 type:=λ_ st=>st.1.typeIs
 there:=by
  rintro h ⟨⟨o,ho,_⟩,e⟩;exact⟨Qo ho,e.lt⟩
 keep:=by
  rintro h h' ⟨⟨o,ho,x⟩,e⟩ k;exact⟨⟨o,k r (.inl rfl) o ho,x⟩,e.mono λo eo=>k d (.inr rfl) o eo⟩
 notList:=by decide
 notTuple:=by decide
 hint:=λ_ _ _ _ st q=>kdl_hint_values st.1.typeIs q
 iter:=by
  intro A s hh st;refine⟨_,_,λE Q q=>_gl st.1 st.2 q,_mh hh _ d (QA st.2.lt) es ep,⟨_,Qw _ rfl,rfl,rfl⟩,st.2.mono λo eo=>Qr _ eo⟩
theorem _lu {Q:Value->Shared->Prop} (lo:(d==sysModules)=false) (hd:EntsAt s.heap d es ep)
 (q:Q (.ref s.heap.objs.size) { s with heap:=s.heap.push { cls:=.type "dict_values",data:=.fields #[.ref d] } }):wpAny (model prog w) A (call (.builtin "dict.values") [.ref d]) Q E s:=by
 obtain⟨od,d1,d2,d3⟩:=hd;have ty:s.TypeIs (.ref d) "dict":=⟨od,d1,d2⟩;refine GL F.slot_dict_values ty F.entry_dict_values (F.args_dict_values_1 _) (S:=λ_ R s'=>s'=s/\R (.ok (.ret (.ref s'.heap.objs.size))) { s' with heap:=s'.heap.push { cls:=.type "dict_values",data:=.fields #[.ref d] } }) ?_ ⟨rfl,q⟩;refine .of_wp λA R s' h=>?_;obtain⟨rfl,h⟩:=h;refine Qc ?_
 delta Builtin.Dict.noArgs
 refine Qc (wpAny_notOrdered_dict ty ?_);show wpAny _ _ (pure d) _ _ _;refine Qh ?_;show wpAny _ _ (Builtin.Dict.showsAll d >>= _) _ _ _
 delta Builtin.Dict.showsAll
 rw[Qa (by rw[lo];exact QD)];exact Qc (Qh (Qc (Rv (Qh ⟨_,rfl,h⟩))))
end
end L2
namespace L2
open PySem PySem.Spec PyProof.Rows PySem.W SA
variable{X:Cx}
def XI (r a:Addr) (h:Heap):Prop:=h.IsValuesView r a
section
variable{prog:Program} {w:World} {A:Around} {E:Value->Shared->Prop} {s:Shared}
theorem JD {α β:Type} {f:α->β} {m n:List β} (h:m.Perm n):∀l:List α,n=l.map f->∃l':List α,l'.Perm l/\m=l'.map f:=by
 induction h with
 |nil=>intro l e;exact⟨l,G1 _,e⟩
 |cons x _ ih =>
  intro l e
  match l,e with
  |y::l,e =>
   injection e with e1 e2;obtain⟨l',p,e'⟩:=ih l e2;exact⟨y::l',p.cons y,by rw[e1,e'];rfl⟩
 |swap x y l0 =>
  intro l e
  match l,e with
  |a::b::l,e =>
   injection e with e1 e2;injection e2 with e2 e3;exact⟨b::a::l,List.Perm.swap ..,by rw[e1,e2,e3];rfl⟩
 |trans _ _ ih1 ih2 =>
  intro l e;obtain⟨l1,p1,e1⟩:=ih2 l e;obtain⟨l2,p2,e2⟩:=ih1 l1 e1;exact⟨l2,p2.trans p1,e2⟩
theorem _gw {S:List RK->Prop} (hS:∀r q,S r->S q->Comp r q) {x:Value} {vs:B1} {Q:Value->Shared->Prop} (hz:vs.length<=sizeLine) (hv:∀v,v∈vs->∃z r,S (.inr z::r)/\TupAt s.heap v (.inr z::r))
 (hc:∀(A':Around) (Q':B1->Shared->Prop),A'.handled=A.handled->(∀h1 tk,(∀b o,s.heap.get? b=some o->h1.get? b=some o)->s.heap.objs.size<=h1.objs.size->Q' vs { s with heap:=h1,toks:=tk })->wpAny (model prog w) A' (collect x) Q' E s)
 (h:∀h' tk a e (out:B1),(∀b o,s.heap.get? b=some o->h'.get? b=some o)->s.heap.objs.size<=a->h'.get? a=some (seqObj "list" out.toArray e)->out.Perm vs->(out.map (Xa s.heap)).Pairwise (λx y=>rLt y x=false)->Q (.ref a) { s with heap:=h',toks:=tk }) :
  wpAny (model prog w) A (call (.builtin "sorted") [x]) Q E s:=by
 refine Ny kind_sorted plain_sorted entry_sorted (args_sorted1 _) ?_;unfold Builtin.«sorted»;refine Qc (m:=checkCount "sorted" 1 1 _) (Qh (Qc (hc _ _ rfl λh1 tk k1 z1=>Qc (Gu ?_))));have hoL:(h1.push (seqObj "list" vs.toArray 0)).get? h1.objs.size=some (seqObj "list" vs.toArray 0):=Qw _ rfl;have kp:∀b o,s.heap.get? b=some o->(h1.push (seqObj "list" vs.toArray 0)).get? b=some o:=λb o q=>Qr _ (k1 b o q);show wpAny _ _ _ _ _ { s with heap:=h1.push (seqObj "list" vs.toArray 0),toks:=tk }
 have hv':∀v,v∈vs->∃z r,S (.inr z::r)/\TupAt (h1.push (seqObj "list" vs.toArray 0)) v (.inr z::r):=λv hm=>by
  obtain⟨z,r,a1,a2⟩:=hv v hm;exact⟨z,r,a1,a2.mono λb o _ q=>kp b o q⟩
 refine Qc (RC (Rp slot_list_sort ⟨_,hoL,rfl⟩ entry_list_sort (_hm hS hoL hz hv' λout p1 p2=>⟨_,rfl,?_⟩) (args_list_sort _)));obtain⟨e,he⟩:=sortedHeap_at (out:=out.toArray) hoL;refine Qh ⟨_,rfl,h _ tk _ e out (λb o q=>?_) z1 he p1 ?_⟩
 ·have q1:=k1 _ _ q;have lt:b<h1.objs.size:=Qo q1;rw[sortedHeap_old (QA lt) (by rw[size_push'];exact Gq lt)];exact Qr _ q1
 ·have same:out.map (Xa (h1.push (seqObj "list" vs.toArray 0)))=out.map (Xa s.heap):=R0 λv hm=>by
   obtain⟨z,r,a1,a2⟩:=hv v (p1.mem_iff.mp hm);rw[a2.row,(a2.mono λb o _ q=>kp b o q).row]
  rw[<-same];exact p2
theorem _hr {k:_j} {v:Value} (r:RelV (kV k) v):UU v/\YR v=k:=by
 cases k with
 |inl i=>obtain⟨t,rfl⟩:=r;exact⟨.inl ⟨_,_,rfl⟩,rfl⟩
 |inr x=>obtain⟨t,rfl⟩:=r;exact⟨.inr ⟨_,_,rfl⟩,rfl⟩
theorem _br:∀{ks:List _j} {us:B1},Vals (ks.map kV) us->(∀u,u∈us->UU u)/\us.map YR=ks
 |[],_,.nil=>⟨by simp,rfl⟩
 |k::ks,_,.cons r t=>by
  obtain⟨a1,a2⟩:=_hr r;obtain⟨b1,b2⟩:=_br t;refine⟨λu hu=>?_,by rw[Qm,a2,b2]⟩;rcases Qk.mp hu with rfl|hu
  ·exact a1
  ·exact b1 u hu
end
theorem _dV:UB X "dict.values" (λx xs H Q=>∃a kvs,x=.ref a/\xs=[]/\H a=some (.dT kvs)/\∀r,H r=none->Q (.ref r) (_d H r (.ext (XI r a)))):=by
 intro pins s U H x xs v us Q I rx r h;obtain⟨a,kvs,rfl,rfl,ha,q⟩:=h;cases r;obtain rfl:v=Value.ref a:=rx;obtain⟨z,hd,xs,rel,o,es,ep,h1,h2,h3,h4,h5⟩:=VZ I.hok ha;refine _lu hd ⟨o,h1,h2.1,h3⟩ ⟨.ref s.heap.objs.size,_,I.laid (t':=s.toks) (o:=.ext (XI s.heap.objs.size a)) (λb u e=>Qr _ e) (Qg _) ?_,rfl,q _ (I.hok.fresh (Qg _))⟩;have g:(s.heap.push { cls:=.type "dict_values",data:=.fields #[.ref a] }).get? s.heap.objs.size=some { cls:=.type "dict_values",data:=.fields #[.ref a] }:=Qw _ rfl;refine⟨⟨_,g,rfl,rfl⟩,⟨_,g⟩,λg1 g2 φ k=>?_⟩;obtain⟨o,o1,o2⟩:=φ;exact⟨o,k o o1,o2⟩
theorem _hw {S:List _j->Prop} (hS:∀r q,S r->S q->Comp r q) (K:W.Frag) (hc:X.calm=true) (hK:X.K=K:=by rfl):YE X (.builtin "sorted") (λxs H Q=>∃(r a:Addr) (kvs:List (List _j×V)) (bs:List (Addr×List _j)),xs=[.ref r]/\H r=some (.ext (XI r a))/\H a=some (.dT kvs) /\
  kvs.map (·.2)=bs.map (λp=>V.ref p.1)/\(∀p,p∈bs->SqT K H p.1 (p.2.map kV)/\S p.2/\∃z t,p.2=.inr z::t) /\
  ∀(D:Addr) (out:List (Addr×List _j)),H D=none->out.Perm bs->(out.map (·.2)).Pairwise (λx y=>rLt y x=false)->Q (.ref D) (_d H D (.lst (out.map λp=>V.ref p.1)))):=by
 subst hK;intro pins s U H xs us Q I rr h;obtain⟨r,a,kvs,bs,rfl,hr,ha,eb,hb,q⟩:=h;obtain⟨u,rfl,ru⟩:=Xe rr;cases(show u=Value.ref r from ru);obtain⟨z,hd,xs,rel,o,es,ep,h1,h2,h3,h4,h5⟩:=VZ I.hok ha;have hview:s.heap.IsValuesView r a:=(show ObjOk X.prog X.w H s.heap r (.ext (XI r a)) from I.hok r _ hr).1;have hlen:kvs.length=bs.length:=by have:=QI List.length eb;simpa using this
 have hxl:xs.length=kvs.length:=rel.length.symm;have hes:es.size=xs.length:=by rw[<-Rh,h4,Qd]
 have atV:∀{ks:List (List _j×V)} {ys:List (List _j×Addr×Value)} {cs:List (Addr×List _j)},KT H ks ys->ks.map (·.2)=cs.map (λp=>V.ref p.1)->ys.map (λy=>y.2.2)=cs.map (λp=>Value.ref p.1):=by
  intro ks ys cs t
  induction t generalizing cs with
  |nil=>intro e;match cs,e with|[],_=>rfl
  |cons hh _ ih =>
   intro e
   match cs,e with
   |c::cs,e =>
    injection e with e1 e2;have r3:=hh.2.2;dsimp only at e1;rw[e1] at r3;rw[Qm,Qm,ih e2];exact QI (·::_) (show _=Value.ref c.1 from r3)
 have vals:=atV rel eb;have esv:es.toList.map (·.val)=bs.map (λp=>Value.ref p.1):=by rw[h4,QF];exact vals
 have tup:∀p,p∈bs->TupAt s.heap (.ref p.1) p.2:=λp hp=>by
  obtain⟨its,rv,⟨ob,o1,o2,n,o3⟩,_⟩:=I.tuple (hb p hp).1;obtain⟨c1,c2⟩:=_br rv;exact⟨p.1,ob,its.toArray,n,rfl,o1,o2,o3,by simpa using c1,by simpa using c2⟩
 refine _gw hS (vs:=bs.map λp=>Value.ref p.1) (by rw[Qd,<-hlen];exact z) (λv hv=>?_) (λA' Q' hA q'=>_gu (_jc (r:=r) (d:=a) (es:=es) (ep:=ep)) (by rw[hA];exact I.ok.hd hc) ⟨hview,o,h1,h2.1,h3⟩ (by rw[hes,hxl];exact z) λh1' tk acc k1 z1 hacc=>?_) λh' tk D e out k1 z1 he p1 p2=>?_
 ·obtain⟨p,hp,rfl⟩:=Qj.mp hv;obtain⟨_,b2,zz,tt,e⟩:=hb p hp;have:=tup p hp;rw[e] at this b2;exact⟨zz,tt,b2,this⟩
 ·have e:acc.toList=bs.map λp=>Value.ref p.1:=by
   rw[<-esv];apply N6;intro i;rw[Qv,Rj,Rj];rcases Rg i es.size with hi|hi
   ·have hi':i<acc.size:=by rw[hacc.1];exact hi
    obtain⟨en,e1,e2⟩:=hacc.2 i acc[i] (RG acc i hi');rw[RG acc i hi',e1,e2];rfl
   ·rw[R9 hi,R9 (by rw[hacc.1];exact hi)];rfl
  have z:=q' h1' tk k1 z1;rw[<-e] at z;exact z
 ·obtain⟨out',p3,rfl⟩:=JD p1 bs rfl
  have srt:(out'.map (·.2)).Pairwise (λx y=>rLt y x=false):=by
   have e:(out'.map λp=>Value.ref p.1).map (Xa s.heap)=out'.map (·.2):=by
    rw[QF];exact R0 λp hp=>(tup p (p3.mem_iff.mp hp)).row
   rw[<-e];exact p2
  have vv:∀l:List (Addr×List _j),Vals (l.map λp=>V.ref p.1) (l.map λp=>Value.ref p.1):=by
   intro l
   induction l with
   |nil=>exact .nil
   |cons p l ih=>exact .cons rfl ih
  exact⟨.ref D,_,I.laid (t':=tk) (o:=.lst (out'.map λp=>V.ref p.1)) k1 z1 (show ObjOk X.prog X.w _ _ _ (.lst (out'.map λp=>V.ref p.1)) from⟨by rw[Qd,p3.length_eq,<-hlen];exact z,_,e,vv out',he⟩),rfl,q _ out' (I.hok.fresh z1) p3 srt⟩
theorem _dl:∀{cs:List (Addr×List _j)} {us:B1},Vals (cs.map λp=>V.ref p.1) us->us=cs.map λp=>Value.ref p.1
 |[],_,.nil=>rfl
 |c::cs,_,.cons r t=>by rw[Qm,_dl t];exact QI (·::_) (show _=Value.ref c.1 from r)
theorem _eh:∀l:List (Addr×List _j),Vals (l.map λp=>V.ref p.1) (l.map λp=>Value.ref p.1)
 |[]=>.nil
 |p::l=>.cons rfl (_eh l)
theorem _gW {S:List _j->Prop} (hS:∀r q,S r->S q->Comp r q) (K:W.Frag) (hK:X.K=K:=by rfl):YE X (.builtin "sorted") (λxs H Q=>∃(l:Addr) (bs:List (Addr×List _j)),xs=[.ref l]/\SqL K H l (bs.map λp=>V.ref p.1) /\
  (∀p,p∈bs->SqT K H p.1 (p.2.map kV)/\S p.2/\∃z t,p.2=.inr z::t) /\
  ∀(D:Addr) (out:List (Addr×List _j)),H D=none->out.Perm bs->(out.map (·.2)).Pairwise (λx y=>rLt y x=false)->Q (.ref D) (_d H D (.lst (out.map λp=>V.ref p.1)))):=by
 subst hK;intro pins s U H xs us Q I rr h;obtain⟨l,bs,rfl,hl,hb,q⟩:=h;obtain⟨u,rfl,ru⟩:=Xe rr;cases(show u=Value.ref l from ru);obtain⟨its,rv,pl,hz⟩:=I.list hl;have ev:=_dl rv;subst ev;rw[Qd] at hz
 have tup:∀p,p∈bs->TupAt s.heap (.ref p.1) p.2:=λp hp=>by
  obtain⟨its,rv,⟨ob,o1,o2,n,o3⟩,_⟩:=I.tuple (hb p hp).1;obtain⟨c1,c2⟩:=_br rv;exact⟨p.1,ob,its.toArray,n,rfl,o1,o2,o3,by simpa using c1,by simpa using c2⟩
 refine _gw hS (vs:=bs.map λp=>Value.ref p.1) (by rw[Qd];exact hz) (λv hv=>?_) (λA' Q' _ q'=>collect_list pl.isList (q' _ _ (λb o e=>?_) ?_) (by rw[Qd];exact hz)) λh' tk D e out k1 z1 he p1 p2=>?_
 ·obtain⟨p,hp,rfl⟩:=Qj.mp hv;obtain⟨_,b2,zz,tt,e⟩:=hb p hp;have:=tup p hp;rw[e] at this b2;exact⟨zz,tt,b2,this⟩
 ·have lt:=Qo e;rw[NZ _ _ _ _ (QA lt)];exact Qr _ e
 ·rw[Heap.size_update,size_push'];exact QV _
 ·obtain⟨out',p3,rfl⟩:=JD p1 bs rfl
  have srt:(out'.map (·.2)).Pairwise (λx y=>rLt y x=false):=by
   have e:(out'.map λp=>Value.ref p.1).map (Xa s.heap)=out'.map (·.2):=by
    rw[QF];exact R0 λp hp=>(tup p (p3.mem_iff.mp hp)).row
   rw[<-e];exact p2
  exact⟨.ref D,_,I.laid (t':=tk) (o:=.lst (out'.map λp=>V.ref p.1)) k1 z1 (show ObjOk X.prog X.w _ _ _ (.lst (out'.map λp=>V.ref p.1)) from⟨by rw[Qd,p3.length_eq];exact hz,_,e,_eh out',he⟩),rfl,q _ out' (I.hok.fresh z1) p3 srt⟩
section
variable{pins:A4} {U:St} {H H':Hp} {s:Shared} {d:Addr} {kvs:List (List _j×V)} {o:Obj}
theorem Inv.thawT (I:Inv X pins U H s) (e:H d=some (.frz o (.dT kvs))) (n:∀o u,X.H₀ d≠some (.frz o u)):Inv X pins U (_d H d (.dT kvs)) s:=by
 have ne:∀b,H b=none->b≠d:=λb z q=>by subst q;rw[e] at z;cases z
 refine⟨I.ok,I.os,I.bare,⟨I.base.keep,I.base.slot,λb q h1 h2 h3=>?_,I.base.there,λb xs h1=>?_,λb q u h1=>?_,λb ps h1=>?_⟩,I.loc,I.cell,?_,λx c h1=>?_,λp hp=>?_,λb u h1=>?_,I.len⟩
 ·have:=I.base.free b q h1 h2 h3;rw[_l (ne b this)];exact this
 ·have:=I.base.tups b xs h1;rw[_l (λz=>by subst z;rw[e] at this;cases this)];exact this
 ·have:=I.base.frzs b q u h1;rw[_l (λz=>by subst z;exact n _ _ h1)];exact this
 ·obtain⟨more,this⟩:=I.base.tbls b ps h1;exact⟨more,by rw[_l (λz=>by subst z;rw[e] at this;cases this)];exact this⟩
 ·rw[_l (ne _ I.free)];exact I.free
 ·have:=I.freeC x c h1;rw[_l (ne _ this)];exact this
 ·obtain⟨a1,a2,a3⟩:=I.pin p hp;exact⟨a1,by rw[_l (ne _ a2)];exact a2,a3⟩
 ·have st:∀{b:Addr} {u:HO},ObjOk X.prog X.w H s.heap b u->ObjOk X.prog X.w (_d H d (.dT kvs)) s.heap b u:=λx=>by
   refine x.stay (λc v hc q=>q) (λc q=>?_) λc xs q=>?_
   ·rw[_l (λz=>by subst z;rw[e] at q;cases q)];exact q
   ·rw[_l (λz=>by subst z;rw[e] at q;cases q)];exact q
  by_cases z:b=d
  ·subst z;rw[_k] at h1;cases h1;exact st (show ObjOk X.prog X.w H s.heap b (.dT kvs) from(I.hok b _ e).2)
  ·rw[_l z] at h1;exact st (I.hok b u h1)
end
def _jp (t:TS):TS:=λD U H=>∃d kvs,H d=some (.dT kvs)/\t { nx:=λσ' H'=>∃o,H' d=some (.frz o (.dT kvs))/\D.nx σ' (_d H' d (.dT kvs)),rt:=λ_ _=>False } U H
theorem _oi {st:Stmt} {t:TS} (hs:PS X st t):PS X st (_jp t):=by
 intro pins s U H D I h;obtain⟨d,kvs,hd,h⟩:=h
 have n:∀o u,X.H₀ d≠some (.frz o u):=λo u z=>by
  have:=I.base.frzs d o u z;rw[hd] at this;cases this
 refine _w (hs pins s U H _ I h) λfl s1 q=>?_;cases fl with
 |next =>
  obtain⟨σ1,H1,I1,o,e1,q1⟩:=q;exact⟨σ1,_,I1.thawT e1 n,q1⟩
 |brk=>obtain⟨σ1,H1,I1,z⟩:=q;exact z.elim
 |cont=>obtain⟨σ1,H1,I1,z⟩:=q;exact z.elim
 |ret u=>obtain⟨v,σ1,H1,I1,r,z⟩:=q;exact z.elim
theorem _db {H:Hp}:∀{kvs:List (List _j×V)} {xs:List (List _j×Addr×Value)},KT H kvs xs->∀(i:Nat) (p:List _j×V),kvs[i]?=some p->∃x,xs[i]?=some x/\RelV p.2 x.2.2
 |[],_,r,i,p,e=>by cases e
 |q::kvs,_,r,i,p,e=>by
  cases r with
  |@cons _ y _ _ h t =>
   cases i with
   |zero =>
    cases(show some q=some p from e);exact⟨y,rfl,h.2.2⟩
   |succ i =>
    rw[Gp] at e;obtain⟨x,hx⟩:=_db t i p e;exact⟨x,by rw[Gp];exact hx.1,hx.2⟩
noncomputable def Ur (d:Addr) (o:Obj) (kvs:List (List _j×V)):It where
 go:=λi H=>H d=some (.frz o (.dT kvs))/\i<kvs.length
 stop:=λi H=>H d=some (.frz o (.dT kvs))/\kvs.length<=i
 yld:=λi H x H'=>H'=H/\(kvs[i]?.map λp=>p.2)=some x
theorem _l5 {P:Program} {w:World} {K:W.Frag} {tg:Expr} (d it:Addr) (o:Obj) (kvs:List (List _j×V)) (es:Array DictEntry) (ep:Nat) (ho:o.data=.dict es ep) (hc:o.cls=.type "dict") (hz:es.size=kvs.length):Turn P w K tg (Ur d o kvs) [it] it (λi h=>h.IsValIter it d i es.size ep) where
 mem:=by simp
 obj:=λi h st b hb=>by
  have e:b=it:=by simpa using hb
  subst e;obtain⟨o,e,c,d⟩:=st;exact⟨o,e,λv z=>by rw[d] at z;cases z⟩
 keep:=λi h h' st k=>by
  obtain⟨o,e,c⟩:=st;exact⟨o,k it (by simp) o e,c⟩
 item:=by
  intro X hP hw hK hcalm i pins s U H E I hf st hg;subst hP hw hK;obtain⟨hq,hi⟩:=hg;obtain⟨g1,g2⟩:=(show s.heap.get? d=some o/\ObjOk X.prog X.w H s.heap d (.dT kvs) from I.hok d _ hq);obtain⟨z,hd,xs,rel,o2,es2,ep2,h1,h2,h3,h4,h5⟩:=Ve I.hok (.inr ⟨o,hq⟩);rw[g1] at h1;cases h1;rw[ho] at h3;cases h3;obtain⟨x,hx,rx⟩:=_db rel i kvs[i] (Qp hi)
  have hen:∃en,es[i]?=some en/\en.val=x.2.2:=by
   have e1:es.toList[i]?=es[i]?:=Rj ..;rw[h4,Qv,hx] at e1;exact⟨_,e1.symm,rfl⟩
  obtain⟨en,hen,ev⟩:=hen;obtain⟨f0,f1,f2,f3,f4,f5⟩:=hf it (by simp);refine _eG st ⟨o,g1,hc,ho⟩ hen λh' st' sb=>?_;have I1:Inv X pins U H { s with heap:=h' }:=I.turned (t':=s.toks) (λb o hb e=>(sb.2 b hb).trans e) f0 f1 f3 f4 f5;obtain⟨o3,e3,c3,d3⟩:=id st';exact⟨en.val,rfl,Jp (s:={ s with heap:=h' }) e3 c3 d3 (by decide) ⟨kvs[i].2,H,I1,by rw[ev];exact rx,⟨rfl,by rw[Qp hi];rfl⟩,st',λb hb=>(hf b hb).1⟩⟩
 done:=by
  intro X hP hw hK hcalm i pins s U H E I hf st hg;subst hP hw hK;obtain⟨hq,hi⟩:=hg;obtain⟨g1,g2⟩:=(show s.heap.get? d=some o/\ObjOk X.prog X.w H s.heap d (.dT kvs) from I.hok d _ hq);obtain⟨f0,f1,f2,f3,f4,f5⟩:=hf it (by simp);exact _fw (I.ok.hd hcalm) st ⟨o,g1,hc,ho⟩ (by lia) λh' eb=>⟨rfl,I.turned (t':=s.toks) (λb o hb e=>eb b o hb e) f0 f1 f3 f4 f5⟩
 self:=λ_ _ _ _ _ st h=>wpAny_pyIter_valiter st h
inductive iVals_ (R:It->Hp->Prop) (x:V) (H1:Hp):Prop
 |mk:∀r a kvs,x=.ref r->H1 r=some (.ext (XI r a))->H1 a=some (.dT kvs)->(∀o,R (Ur a o kvs) (_d H1 a (.frz o (.dT kvs))))->iVals_ R x H1
def _hB (tl:TE):TI:=λU H R=>tl U H λx H1=>iVals_ R x H1
theorem _kN {tg l:Expr} {tl:TE} (hl:PE X l tl):PI X tg l (_hB tl):=by
 intro pins s U H R I h;refine _w (hl pins s U H _ I h) λv s1 zq=>?_;obtain⟨x,H1,I1,r1,q1⟩:=zq;obtain⟨r,a,kvs,e,hr,ha,q⟩:=q1;subst e;cases r1;have hview:s1.heap.IsValuesView r a:=(show ObjOk X.prog X.w H1 s1.heap r (.ext (XI r a)) from I1.hok r _ hr).1;obtain⟨z,hd,xs,rel,o,es,ep,h1,h2,h3,h4,h5⟩:=VZ I1.hok ha;have hes:es.size=kvs.length:=by rw[<-Rh,h4,Qd];exact rel.length.symm
 have fz:∀{c:Addr} {u:HO},ObjOk X.prog X.w H1 s1.heap c u->ObjOk X.prog X.w (_d H1 a (.frz o (.dT kvs))) s1.heap c u:=λx=>by
  refine x.stay (λc v hc qe=>qe) (λc qe=>?_) λc ys qe=>?_
  ·rw[_l (λz=>by subst z;rw[ha] at qe;cases qe)];exact qe
  ·rw[_l (λz=>by subst z;rw[ha] at qe;cases qe)];exact qe
 have If:Inv X pins U (_d H1 a (.frz o (.dT kvs))) s1 :=
  I1.write (x:=a) (e:=a) (o:=.frz o (.dT kvs)) (h':=s1.heap) (t':=s1.toks) (by rw[ha];exact True.intro) (.inl rfl) (λb u _ e=>e) ⟨o,h1⟩ ⟨h1,fz (show ObjOk X.prog X.w H1 s1.heap a (.dT kvs) from I1.hok a _ ha)⟩
 refine _gl hview ⟨o,h1,h2.1,h3⟩ ?_;refine⟨s1.heap.objs.size,[s1.heap.objs.size],_,_,_,rfl,If.kept (t':=s1.toks) λb o e=>Qr _ e,_l5 a _ o kvs es ep h3 h2.1 hes,⟨_,Qw _ rfl,rfl,rfl⟩,λb hb=>?_,q o⟩;have e:b=s1.heap.objs.size:=by simpa using hb
 subst e;exact If.fpOk (Qg _) (If.hok.fresh (Qg _))
theorem _oj {d:Addr} {o:Obj} {kvs:List (List _j×V)} {g:TG} {tb:TS} {D:Ends} {U:St} {H:Hp} (Pv:Nat->St->Hp->Prop) (h0:Pv 0 U H) (hl:∀i U H,i<=kvs.length->Pv i U H->H d=some (.frz o (.dT kvs)))
 (hs:∀i p U H,kvs[i]?=some p->Pv i U H->g p.2 U H λσ2 H2=>tb { D with nx:=Pv (i+1),ct:=Pv (i+1),bk:=D.nx } σ2 H2) (hd:∀U H,Pv kvs.length U H->D.nx U H) :
  ∃W:Nat->Nat->St->Hp->Prop,(∃m,W 0 m U H)/\∀i m U H,W i m U H →
   ((Ur d o kvs).stop i H/\D.nx U H)\/((Ur d o kvs).go i H/\∃N:St->Hp->Prop,(∀σ' H',N σ' H'->∃m',m'<m/\W (i+1) m' σ' H')/\∀x H',(Ur d o kvs).yld i H x H'->g x U H' λσ2 H2=>tb { D with nx:=N,ct:=N,bk:=D.nx } σ2 H2):=by
 refine⟨λi m U H=>m=kvs.length-i/\i<=kvs.length/\Pv i U H,⟨kvs.length,by simp,QN _,h0⟩,?_⟩;rintro i m U H ⟨rfl,hi,p⟩;have q:=hl i U H hi p;by_cases hlt:i<kvs.length
 ·refine .inr ⟨⟨q,hlt⟩,Pv (i+1),λσ' H' p'=>⟨kvs.length-(i+1),by lia,rfl,hlt,p'⟩,λx H' y=>?_⟩;obtain⟨e,y⟩:=y;subst e;rw[Qp hlt] at y;cases(show kvs[i].2=x from Qt y);exact hs i kvs[i] U _ (Qp hlt) p
 ·have e:i=kvs.length:=by lia
  subst e;exact .inl ⟨⟨q,Qg _⟩,hd U H p⟩
section
variable{prog:Program} {w:World} {A:Around} {E:Value->Shared->Prop}
end
theorem _if {α:Type} {J:It} {σ0:St} {g:TG} {tt:TT} {te:TE} {Q:VK} {H1:Hp} (sel:List (Option α)) (P:α->Hp->V->Prop) (mono:∀a H H' v D xs,P a H v->H D=some (.lst xs)->_cU D H H'->P a H' v) (hn:sel.length<sizeLine) (σP:St->Prop) (h0:σP σ0)
 (go:∀i H,i<sel.length->Same H1 H->J.go i H) (stop:∀H,Same H1 H->J.stop sel.length H)
 (step:∀i U H x H' o,sel[i]?=some o->σP U->Same H1 H->J.yld i H x H'->∀C:Option V->St->Hp->Prop,(o=none->∀σ2 H6,σP σ2->Same H H6->C none σ2 H6)->(∀a,o=some a->∀y σ2 H6,σP σ2->Same H H6->P a H6 y->C (some y) σ2 H6)->g x U H' λσ2 H4=>tt σ2 H4 λc H5=>if c=true then te σ2 H5 λy' H6=>C (some y') σ2 H6 else C none σ2 H5)
 (fin:∀D ys H',H1 D=none->Same H1 H'->H' D=some (.lst ys)->ys.length=(sel.filterMap id).length->(∀(j:Nat) (y:V) (a:α),ys[j]?=some y->(sel.filterMap id)[j]?=some a->P a H' y)->Q (.ref D) H'):JX J σ0 g tt te Q H1:=by
 intro D hD
 have keep:∀{H:Hp} {o:HO},Same H1 H->Same H1 (_d H D o):=λ{H o} e b u q=>by
  rw[_l (_P q hD)];exact e b u q
 have fl:∀i,((sel.take i).filterMap id).length<=sel.length:=λi=>Qs (GV _ _) (by rw[QU];lia);refine⟨λi m U ys H=>i<=sel.length/\m=sel.length-i/\σP U/\ys.length=((sel.take i).filterMap id).length/\(∀(j:Nat) (y:V) (a:α),ys[j]?=some y->((sel.take i).filterMap id)[j]?=some a->P a H y)/\H D=some (.lst ys)/\Same H1 H,⟨_,QN _,rfl,h0,rfl,λj y a e=>by simp at e,_k,keep (Same.refl H1)⟩,?_⟩;rintro i m U ys H ⟨hi,rfl,p,hy,hP,hd,sm⟩;refine⟨hd,?_⟩;by_cases lt:i<sel.length
 ·have e:sel[i]?=some sel[i]:=by simp[lt]
  have tk:(sel.take (i+1)).filterMap id=(sel.take i).filterMap id++(match sel[i] with|none=>[]|some a=>[a]):=by
   rw[Mr lt,Gs];cases sel[i]<;>rfl
  refine .inr ⟨go i H lt sm,λσ2 ys2 H3=>σP σ2/\ys2.length=((sel.take (i+1)).filterMap id).length/\(∀(j:Nat) (y:V) (a:α),ys2[j]?=some y->((sel.take (i+1)).filterMap id)[j]?=some a->P a H3 y)/\H3 D=some (.lst ys2)/\Same H1 H3,λσ2 ys2 H3 zq=>?_,λx H3 y=>?_⟩;obtain⟨a,b,c,d,e⟩:=zq;exact ⟨_,by lia,lt,rfl,a,b,c,d,e⟩
  refine step i U H x H3 sel[i] e p sm y (λo σ2 H6=>match o with
   |some y'=>H6 D=some (.lst ys)/\ys.length<sizeLine/\σP σ2/\(ys++[y']).length=((sel.take (i+1)).filterMap id).length/\(∀(j:Nat) (z:V) (a:α),(ys++[y'])[j]?=some z->((sel.take (i+1)).filterMap id)[j]?=some a->P a (_d H6 D (.lst (ys++[y']))) z)/\_d H6 D (.lst (ys++[y'])) D=some (.lst (ys++[y']))/\Same H1 (_d H6 D (.lst (ys++[y'])))
   |none=>σP σ2/\ys.length=((sel.take (i+1)).filterMap id).length/\(∀(j:Nat) (z:V) (a:α),ys[j]?=some z->((sel.take (i+1)).filterMap id)[j]?=some a->P a H6 z)/\H6 D=some (.lst ys)/\Same H1 H6) (λon σ2 H6 p2 s6=>?_) (λa oa y' σ2 H6 p2 s6 hp6=>?_)
  ·have tn:(sel.take (i+1)).filterMap id=(sel.take i).filterMap id:=by rw[tk,on];exact Q1 _
   refine⟨p2,by rw[tn];exact hy,λj z a e1 e2=>?_,s6 _ _ hd,sm.trans s6⟩;rw[tn] at e2;exact mono a H H6 z D ys (hP j z a e1 e2) hd λb u _ q=>s6 b u q
  ·have ts:(sel.take (i+1)).filterMap id=(sel.take i).filterMap id++[a]:=by rw[tk,oa]
   have hd6:=s6 _ _ hd;have bt:_cU D H6 (_d H6 D (.lst (ys++[y']))):=λb u nb e=>by rw[_l nb];exact e
   have fi:=fl i;refine⟨hd6,by lia,p2,by rw[ts,Qq,Qq,hy];rfl,λj z b e1 e2=>?_,_k,keep (sm.trans s6)⟩;rw[ts] at e2;by_cases jl:j<ys.length
   ·rw[Gi jl] at e1;rw[Gi (by lia)] at e2;exact mono b H _ z D _ (hP j z b e1 e2) hd (λb u nb e=>bt b u nb (s6 b u e))
   ·have j0:j=ys.length:=by
     have:=(QK.mp e1).1;simp at this;lia
    subst j0;rw[RP (Qg _),G2] at e1;rw[RP (by lia),hy,G2] at e2;cases(show y'=z by simpa using e1);cases(show a=b by simpa using e2);exact mono a H6 _ _ D _ hp6 hd6 bt
 ·have e:i=sel.length:=by lia
  subst e;rw[RE] at hy hP;exact .inl ⟨stop H sm,fin D ys H hD sm hd hy hP⟩
end L2
namespace L2
open PySem PySem.Spec PyProof.Rows PySem.W
variable{f:Addr} {P:B1->Prop} {x:Str}
noncomputable def Y5 (K:W.Frag) (f:Addr):FuncData:=match K.lookup f with
 |some ⟨_,_,.func fd,_⟩=>fd
 |_=>default
structure DefIn (K:W.Frag) (x q:Str) (st:Stmt) (f:Addr):Prop where
 ex:∃(oc:Value) (od:B9) (kV doc pm:Value) (an:B9) (cdv ct:Value) (osl:Array B4),
  K.lookup f=some ⟨oc,od,.func (fnOf x q (Xu st) (Y2 st) (_C st) .none kV doc pm an cdv ct),osl⟩/\codeIn K cdv q=true
 kp:keepIn K (.ref f)=true
theorem DefIn.fn {K:W.Frag} {q:Str} {st:Stmt} (h:DefIn K x q st f):Fun K x q st f (Y5 K f):=by
 obtain⟨oc,od,kV,doc,pm,an,cdv,ct,osl,lk,hc⟩:=h.ex;have e:Y5 K f=fnOf x q (Xu st) (Y2 st) (_C st) .none kV doc pm an cdv ct:=by unfold Y5;rw[lk]
 rw[e];exact _iz lk hc h.kp
def _dQ (x q:Str) (st:Stmt) (ps:A9):Prop:=∀(kV doc pm:Value) (an:B9) (cdv ct:Value) (us:B1),us.length=ps.length->bindArgs (fnOf x q (Xu st) (Y2 st) (_C st) .none kV doc pm an cdv ct) ⟨us,[]⟩=pure (ps.zip us)
structure Df (K:W.Frag) (mg:Str->B4) (x:Str) (st:Stmt) (ps:A9) where
 a:Addr
 F:Fun K x x st a (Y5 K a)
 b:Binds K (Y5 K a) ps []
 m:mg x=some (.ref a)
structure Dm (K:W.Frag) (C:Addr) (x q:Str) (st:Stmt) (ps:A9) where
 a:Addr
 F:Fun K x q st a (Y5 K a)
 b:Binds K (Y5 K a) ps []
 me:Meth K C x a
noncomputable def Df.of {K:W.Frag} {mg:Str->B4} {h:Heap} {st:Stmt} {ps:A9} (X:K.In h) (G:h.Ns mainGlobals mg) (a:nsIn K mainGlobals x=some (some (.ref f))) (l:DefIn K x x st f) (hb:_dQ x x st ps):Df K mg x st ps:=⟨f,l.fn,l.fn.binds hb,mg_of X G a⟩
noncomputable def Dm.of {K:W.Frag} {C:Addr} {q:Str} {st:Stmt} {ps:A9} (a:findIn K (.ref C) x=some (some (.ref f))) (i:isFn K (.ref f)=true) (l:DefIn K x q st f) (hb:_dQ x q st ps):Dm K C x q st ps:=⟨f,l.fn,l.fn.binds hb,⟨a,i,l.kp⟩⟩
theorem JQ (h:P []) (us:B1) (e:us.length=0):P us:=by
 cases us with
 |nil=>exact h
 |cons a l=>cases e
theorem Wl {n:Nat} (h:∀a us,us.length=n->P (a::us)) (us:B1) (e:us.length=n+1):P us:=by
 cases us with
 |nil=>cases e
 |cons a l=>exact h a l (G8 e)
theorem un1 (h:∀a,P [a]):∀us,us.length=1->P us:=Wl λa=>JQ (h a)
theorem un2 (h:∀a b,P [a,b]):∀us,us.length=2->P us:=Wl λa=>Wl λb=>JQ (h a b)
theorem un3 (h:∀a b c,P [a,b,c]):∀us,us.length=3->P us:=Wl λa=>Wl λb=>Wl λc=>JQ (h a b c)
theorem un4 (h:∀a b c d,P [a,b,c,d]):∀us,us.length=4->P us:=Wl λa=>Wl λb=>Wl λc=>Wl λd=>JQ (h a b c d)
end L2
namespace TextG
open PySem
end TextG
namespace L2
open PySem PySem.Spec PyProof.Rows PySem.W
section
variable{X:Cx}
end
section
variable{X:Cx} {CX:Yu} {k1 k2 k3:Nat} {f1 C1 f2 C2 f3 C3:Addr} {fd1 fd2 fd3:FuncData} {ps1 ps2 ps3:A9} {sp1 sp2 sp3:Sp} {E:XS} {m:Str} {pos apos:Pos} {o:Expr} {ta:TE}
end
end L2
namespace L2
open PySem PySem.Spec PyProof.Rows
variable{A:Around} {X:Cx} {H:Hp} {N:A9} {prog:Program} {s:Shared} {E:Value->Shared->Prop}
section
variable{w:World} {R:Result->Shared->Prop}
end
section
variable{pins:A4} {U:St} {sc:Scope} {cl:List A7} {σc:St->St} {fp:B5}
end
section
variable{elt tg iter:Expr} {ifs:C0} {sc:Scope} {pos:Pos} {cl:List A7} {σc:St->St} {wi:TI} {g:TG} {tt:TT} {te:TE}
end
section
variable{M:Model}
end
section
variable{pins:A4} {U:St} {H':Hp} {s':Shared} {e:Addr} {cls:Value}
end
section
variable{P:Program} {w:World} {K:W.Frag} {mg:Str->B4} {base:Heap} {qual:Str} {scope:Scope} {f:Addr} {cd:Value} {outer:C4} {E:XK}
end
theorem _lX {xs:List V} {us:B1} (h:Vals xs us):∀k:Nat,Vals (xs.take k) (us.take k):=by
 induction h with
 |nil=>intro k;simp;exact .nil
 |cons r t ih=>intro k;cases k with
  |zero=>exact .nil
  |succ k=>exact .cons r (ih k)
theorem _nB {xs:List V} {us:B1} (h:Vals xs us):∀k:Nat,Vals (xs.drop k) (us.drop k):=by
 induction h with
 |nil=>intro k;simp;exact .nil
 |cons r t ih=>intro k;cases k with
  |zero=>exact .cons r t
  |succ k=>exact ih k
inductive rIns (x:V) (vs:List V) (H:Hp) (Q:VK):Prop
 |mk:∀l xs k y,x=.ref l->vs=[.int k,y]->H l=some (.lst xs)->0<=k->k<=xs.length->xs.length<=200000->Q .non (_d H l (.lst (xs.take k.toNat++y::xs.drop k.toNat)))->rIns x vs H Q
theorem _kS:200002<=sizeLine:=by decide
theorem _nd:MtM X "list.insert" rIns:=by
 intro pins s U H x vs v us Q I rx rv h;obtain⟨l,xs,k,y,rfl,rfl,hH,k0,k1,hl2,q⟩:=h;cases rx;obtain⟨u1,u2,rfl,⟨t,rfl⟩,ru⟩:=rv.two;obtain⟨z,its,n,r,hl,e⟩:=I.lstM hH;have bl:=_kS
 have fits:¬(!Builtin.List.listFitsIndex k)=true:=by
  unfold Builtin.List.listFitsIndex;have:(2:Int) ^ 63=9223372036854775808:=by decide
  simp;lia
 refine call_meets Mx ⟨_,e,rfl⟩ PySem.F.entry_list_insert (PySem.F.args_list_insert_3 _ _ _) (PySem.AutoListH.list_insert_list_int_val_1 l its.toArray n k t u2 fits (by rw[Qx];lia)) ⟨e,?_⟩;refine⟨.non,_,I.lset (its':=its.take k.toNat++u2::its.drop k.toNat) hH e ?_ ((_lX r _).append (.cons ru (_nB r _))) ?_,rfl,q⟩
 ·have hk:(if k<0 then(k+((its.toArray.size:Nat):Int)).toNat else min k.toNat its.toArray.size)=k.toNat:=by
   rw[Qa (by lia),Qx];lia
  show(its.toArray.extract 0 (if k<0 then(k+((its.toArray.size:Nat):Int)).toNat else min k.toNat its.toArray.size)).push u2++its.toArray.extract (if k<0 then(k+((its.toArray.size:Nat):Int)).toNat else min k.toNat its.toArray.size)=_;rw[hk];apply Array.ext';simp;exact RJ (by rw[Ri];exact Qg _)
 ·rw[Qq,QC,QU,Ri];lia
section
variable{w:World}
end
section
variable{w:World} {κ:Type} [DecidableEq κ] {knd:KeyKind prog w κ}
end
section
variable{w:World}
end
section
variable{pos:Pos}
variable{i o value:Expr} {ty td tv:TE} {pos':Pos}
end
end L2
namespace L2
open PySem PySem.Spec PyProof.Rows PySem.W
section
variable{X:Cx} {o i l tg:Expr} {pos:Pos} {td ty tl:TE} {K:W.Frag} {w:World} {a:Addr} {kvs:List (_j×V)}
end
section
variable{X:Cx}
end
end L2
namespace L2
open PySem PySem.Spec PyProof.Rows PySem.W PySem.SeqAt
section
variable{prog:Program} {w:World} {A:Around} {E:Value->Shared->Prop} {s:Shared}
end
section
variable{X:Cx} {pins:A4} {U:St} {H:Hp} {s:Shared} {h':Heap}
end
section
variable{X:Cx} {e:Expr} {te:TE} {p pos kp lpos p1 p2 p3 p4:Pos} {x o q:Str} {params:Arguments} {scope:Scope} {c P cc:Addr} {i:Nat}
end
end L2
namespace L2
open PySem PySem.Spec PyProof.Rows PySem.W
end L2
namespace L2
open PySem PySem.Spec PyProof.Rows
section
variable{X:Cx}
end
section
variable{X:Cx}
end
end L2
namespace L2
open PySem PySem.Spec PyProof.Rows PySem.W
section
variable{X:Cx}
end
end L2
namespace L2
open PySem PySem.Spec PyProof.Rows PySem.W SA
section
variable{prog:Program} {w:World} {A:Around} {E:Value->Shared->Prop} {s:Shared}
end
section
variable{prog:Program} {w:World} {A:Around} {E:Value->Shared->Prop} {s:Shared}
end
end L2
namespace L2
open PySem PySem.Spec PyProof.Rows
variable{X:Cx} {e:Expr}
theorem _M {N P:A9} {sc:Scope} (h1:sc.kind=.function:=by rfl) (h2:sc.isCoroutine=false:=by rfl) (h3:sc.isGenerator=false:=by rfl) (h4:N.Nodup:=by ext) (h5:N.take P.length=P:=by rfl)
 (h6:∀x∈P,sc.names.lookup x=some .local\/sc.names.lookup x=some .cell:=by ext) (h7:∀y∈sc.names,y.2≠.free:=by ext):FnScope N P sc:=⟨h1,h2,h3,h4,h5,h6,h7⟩
section
variable{CX:Yu} {k n:Nat} {x:Str} {st:Stmt} {ps:A9} {sp:Sp} {p pos:Pos} {es:C0} {t:TA} {E:St->XK}
end
section
variable{tg:Expr}
end
section
variable{CX:Yu} {k1 k2 k3:Nat} {f1 C1 f2 C2 f3 C3:Addr} {fd1 fd2 fd3:FuncData} {ps1 ps2 ps3:A9} {sp1 sp2 sp3:Sp} {E:XS} {m:Str} {pos apos:Pos} {o:Expr} {es:C0} {ta:TE} {t:TA}
end
section
variable{prog:Program} {w:World} {A:Around} {E:Value->Shared->Prop} {s:Shared}
end
section
variable{A:Around} {s:Shared}
end
theorem UP (hu:X.A.units+64<cLine):Yb X (compareOp .NotEq) (λx y H Q=>∃a b,∃zs:A9,x=.ref a/\y=.ref b/\SqL X.K H a (zs.map V.str)/\SqL X.K H b (zs.map V.str)/\Q (.bl false) H):=by
 intro pins s U H x y v u Q I rx ry ⟨a,b,zs,ex,ey,ha,hb,q⟩;subst ex ey;cases(show v=Value.ref a from rx);cases(show u=Value.ref b from ry);obtain⟨its,rv,z,_⟩:=I.list ha;obtain⟨its2,rv2,z2,_⟩:=I.list hb;have e1:=rv.length;have e2:=rv2.length;rw[Qd] at e1 e2
 have g:=SeqAt.RcNeAt.lists (A:=X.A) (e:=λ_=>true) z.isList z2.isList (by simp only[Qx,<-e1,<-e2]) (by lia) λj h1 h2=>by
  have j1:j<zs.length:=by rw[Qx,<-e1] at h1;exact h1
  have k:(zs.map V.str)[j]?=some (.str zs[j]):=by rw[Qv,Qp j1];rfl
  obtain⟨u1,hu1,r1⟩:=rv.get k;obtain⟨u2,hu2,r2⟩:=rv2.get k;obtain⟨_,w1⟩:=QK.mp hu1;obtain⟨_,w2⟩:=QK.mp hu2;have g:=_dG (A:=X.A.in1) (s:=s) r1 r2 rfl rfl;rw[show Xs (.str zs[j]) (.str zs[j])=true from GQ _] at g;simpa[w1,w2] using g
 rw[show(List.range its.toArray.size).all (λ_=>true)=true by simp] at g;exact g _ _ _ _ ⟨.bl _,H,I,rfl,q⟩
section
variable{o f:Expr} {apos cpos:Pos} {td ty tx:TE}
end
end L2
namespace L2
open PySem PySem.Spec PyProof.Rows PySem.W PySem.SeqAt
variable{X:Cx}
section
variable{prog:Program} {w:World} {A:Around} {E:Value->Shared->Prop} {s:Shared}
end
section
variable{prog:Program} {w:World} {A:Around} {E:Value->Shared->Prop} {s:Shared}
variable{h₀:Heap} {L:Addr} {m:Str->B4} {news:A4} {b:Bool} {Q:Value->Shared->Prop}
end
section
variable{e:Expr} {te:TE} {p pos kp lpos p1 p2 p3 p4:Pos} {x o q fl:Str} {params:Arguments} {scope:Scope} {c P cc:Addr} {i:Nat}
end
end L2
namespace L2
open PySem PySem.Spec PyProof.Rows
section
variable{X:Cx}
open Classical in
end
end L2
namespace L2
open PySem PySem.Spec PyProof.Rows
section
variable{X:Cx}
end
end L2
namespace L2
open PySem
def _ha:TS:=λ_ _ _=>False
theorem V6 {X:Cx} {st:Stmt}:PS X st _ha:=λ_ _ _ _ _ _ h=>h.elim
end L2
namespace L2
open PySem PySem.Spec PyProof.Rows
variable{ps:A9} {x:Str}
section
variable{X:Cx} {P:Program} {w:World} {k n:Nat} {C:Addr} {m q:Str} {st:Stmt} {sp:Sp} {p pos apos:Pos} {e o:Expr} {es:C0} {ta:TE} {t:TA}
theorem _Z {d:Df X.K X.mg x st ps} (F:FnOk X.prog X.w X.K X.mg X.base (YQ P w) k d.a (Y5 X.K d.a) ps sp) (hr:Room n X.A) (ha:PA X (e::es) t) (hn:k<=n:=by decide) (hg:Gl X x:=by rfl)
 (hdb:(x==("__debug__": Str))=false:=by decide) (he:starEach (e::es) X.env=(false,eval e X.env)::starEach es X.env:=by rfl) (hpl:(backTo pos (starEach es X.env)).any (·.1)=false:=by rfl) :
  PE X (.Call (.Name x p) (e::es) [] pos) (_fp sp [] (λ_=>E0) t):=_hO F (hr.mono hn) hg d.m d.F.kp d.b .nil YV ha hdb he hpl
theorem _V {pl:Sem Bool} {d:Dm X.K C m q st ps} (he:PE X o ta) (c:Cls X.K C) (F:FnOk X.prog X.w X.K X.mg X.base (YQ P w) k d.a (Y5 X.K d.a) ps sp) (hr:Room n X.A) (ha:PA X (e::es) t) (hn:k<=n:=by decide)
 (hst:starEach (e::es) X.env=(false,eval e X.env)::starEach es X.env:=by rfl) (hpl:(backTo pos (starEach es X.env)).any (·.1)=false:=by rfl)
 (ht:eval (.Call (.Attribute o m apos) (e::es) [] pos) X.env=(do
 let ov <-eval o X.env
 standAt apos.atName
 let (f,first) <-holding [ov] (getMethod ov m pl)
 callWith pos f first (backTo pos (starEach (e::es) X.env)) (backToKw pos (keywordEach [] X.env))):=by rfl) :
  PE X (.Call (.Attribute o m apos) (e::es) [] pos) (_aL C m sp [] (λ_=>E0) ta t):=WJ he c d.me F (hr.mono hn) d.b .nil YV ha hst hpl ht
end
theorem Fun.okY {P:Program} {w:World} {K:W.Frag} {mg:Str->B4} {base:Heap} {CX:Yu} {qual:Str} {st:Stmt} {f:Addr} {fd:FuncData} {N:A9} {k:Nat} {sp:Sp} (F:Fun K x qual st f fd) (S:FnScope N ps (_C st))
 (hbody:∀(cdv:Value) (A:Around) (outer:C4) (s:Shared) (H:Hp) (vs:List V) (Q:VK) (E:XK),Room k (A.deeper (envOfC qual (_C st) s.heap.objs.size f cdv))->sp vs H Q E →
 ∃t,PSs (_O CX P w K mg base N qual (_C st) f cdv A outer s H E) (Y2 st) t/\t { nx:=λ_ H'=>Q .non H',rt:=Q } (start N vs) H):FnOk P w K mg base CX (k+1) f fd ps (λvs H Q E=>vs.length=ps.length/\sp vs H Q E) :=
 F.okX S (λ_ _ _ _ h=>h.1) λcdv A outer s H vs Q E hr h=>hbody cdv A outer s H vs Q E hr h.2
abbrev OD (P:Program) (w:World) (base:Heap) {K:W.Frag} {mg:Str->B4} {st:Stmt} (k:Nat) (d:Df K mg x st ps) (sp:Sp):Prop:=FnOk P w K mg base (YQ P w) k d.a (Y5 K d.a) ps sp
abbrev OM (P:Program) (w:World) (base:Heap) (mg:Str->B4) {K:W.Frag} {C:Addr} {q:Str} {st:Stmt} (k:Nat) (d:Dm K C x q st ps) (sp:Sp):Prop:=FnOk P w K mg base (YQ P w) k d.a (Y5 K d.a) ps sp
theorem binds1_of {K:W.Frag} {qual:Str} {st:Stmt} {T:Addr} {o:Obj} {n:Nat} {kV doc pm cdv ct:Value} {an:B9} (ho:K.lookup T=some o) (hs:o.data=.seq #[.none] n)
 {j:Nat} (hp:ps.length=j+1) (h:∀us:B1,us.length=j->∃k:Option B6->Sem (List A8),
 bindArgs (W.fnOf x qual (Xu st) (Y2 st) (_C st) (.ref T) kV doc pm an cdv ct) ⟨us,[]⟩=seqItems? (.ref T) >>= k/\k (some #[.none])=pure (ps.zip (us++[.none]))):Binds K (W.fnOf x qual (Xu st) (Y2 st) (_C st) (.ref T) kV doc pm an cdv ct) ps [.none]:=by
 intro s us hin hl;rw[Qq,hp] at hl;obtain⟨k,h1,h2⟩:=h us (G8 hl);exact W.binds_K hin rfl ho hs h1 h2
end L2
namespace L2
open PySem PySem.Spec PyProof.Rows PySem.W SA
section
variable{prog:Program} {w:World} {A:Around} {E:Value->Shared->Prop} {s:Shared}
end
section
variable{X:Cx}
end
end L2
namespace L2
open PySem PySem.Spec PyProof.Rows
section
variable{X:Cx} {tg:Expr}
end
end L2
namespace L2
open PySem PySem.Spec PyProof.Rows PySem.W SA
section
variable{prog:Program} {w:World} {A:Around} {E:Value->Shared->Prop} {s:Shared}
end
end L2
namespace L2
open PySem PySem.Spec PyProof.Rows
variable{X:Cx}
section
variable{o e f:Expr} {apos cpos:Pos} {td ty tx:TE}
end
section
variable{prog:Program} {w:World} {A:Around} {E:Value->Shared->Prop} {s:Shared}
end
section
variable{body suite:List Stmt} {b₀:Stmt} {x:Str} {C:Addr} {np hpos pos:Pos} {bmB:B1} {newId:String} {i:Nat} {tb:XS->TS} {ts:TS} {more:List ExceptHandler}
theorem _jW (hs:X.stack=X.env::X.outer) (hf:X.env.frame=some X.env.locals) (hg:Gl X x) (hm:X.mg x=some (.ref C)) (q:PySem.W.excIn X.K C bmB newId=true) (hbase:bmB.contains (.type "BaseException")=true)
 (hb:∀pins W E,WM (YQ X.prog X.w) (X.tryIn pins W) E->PSs (X.tryIn pins W) body (tb E)) (hsu:∀pins e,PSs (X.suite pins e) (b₀::suite) ts)
 (hd:(x==("__debug__": Str))=false:=by decide):PS X (.Try body (.ExceptHandler (some (.Name x np)) none (b₀::suite) hpos::more) [] [] pos) (_on C tb ts):=by
 intro pins s U H D I h;refine wpAny_Try_except ?_
 refine Q5 (hb pins (λu s₁=>wpAny (model X.prog X.w) X.A (noteFrame u X.env) (λ_ s₂=>wpAny (model X.prog X.w) X.A (setFlight u none) (λ_ s₃ =>
  wpAny (model X.prog X.w) X.A (handleBy u X.env (.ExceptHandler (some (.Name x np)) none (b₀::suite) hpos::more)) (SP X pins D) X.xe s₃) X.xe s₂) X.xe s₁) (_eq C ts D) ?_ [] s U H D (I.tryIn _) h) ?_ λ_ _ z=>z
 ·rintro pins' σ1 H1 s1 u s' I1 ⟨e,cls,H',rfl,fl,rfl,hts⟩;have J1:Inv X pins σ1 H1 s1:=I1.untry;have fl:Flies X.prog X.w X.stack H1 H' s1 s' e (.ref C):=fl;obtain⟨B,a0,f0,mv⟩:=fl.move;rw[hs] at f0;refine wpAny_looks_onW (by rw[I.ok.frames,hs]) hf f0 λh4 held4 up4=>?_;refine wpAny_landsW held4 λh5 f5 up5=>?_;have fl5:=mv h5 (by rw[hs];exact f5) (up4.trans up5);have J5:=fl5.inv J1;obtain⟨ob,hob,hobc⟩:=f5.there;refine wpAny_handleBy_cons (codeAny_handlers_test (_mK J5 hg hm ?_ hd)) (by intro z;cases z);obtain⟨bm,Nn,nm,qn,bs,hdct,sn,sub,ab,col,dd,k0,k1,k2,k3,k5,mN,hC,hNn,hni,T⟩:=_do I.mod.kin q;refine wpAny_excMatches_sub_self (J5.bk _ _ hC) hob hobc (T.hasType hbase) (codeAny_handlers_suite ?_);refine lands_againW f5 λh6 f6 up6=>?_;have fl6:=mv h6 (by rw[hs];exact f6) ((up4.trans up5).trans up6);have J6:=fl6.caught J1;exact Q5 (hsu pins e [] _ _ _ _ (J6.suite e) (hts e fl6.new.1)) (λf s8 r8=>r8.unsuite I.ok.hd) λ_ _ z=>False.elim z
 ·intro f s1 r1;have r2:SP X pins D f s1:=r1.untry;cases f with
  |next=>exact GE r2
  |brk=>exact r2
  |cont=>exact r2
  |ret u=>exact r2
end
theorem _nE (hc:X.calm=true):YE X (.builtin "min") (λxs H Q=>∃i j k m,xs=[.int i,.int j,.int k]/\m=(if j<i then if k<j then k else j else if k<i then k else i)/\Q (.int m) H):=by
 intro pins s U H xs us Q I r h;obtain⟨i,j,k,m,rfl,rfl,q⟩:=h;cases r with
 |cons r1 r2 =>
  obtain⟨u2,u3,rfl,r3,r4⟩:=V4 r2;obtain⟨t1,rfl⟩:=r1;obtain⟨t2,rfl⟩:=r3;obtain⟨t3,rfl⟩:=r4;refine min_three_ints (I.ok.hd hc) λh' tk k=>⟨_,H,I.kept k,?_,q⟩;split<;>split<;>exact⟨_,rfl⟩
theorem binds2_of {K:W.Frag} {x qual:Str} {st:Stmt} {T:Addr} {ps:A9} {o:Obj} {n:Nat} {kV doc pm cdv ct:Value} {an:B9} (ho:K.lookup T=some o) (hs:o.data=.seq #[.none] n)
 {j:Nat} (hp:ps.length=j) (h:∀us:B1,us.length=j->∃k:Option B6->Sem (List A8),
 bindArgs (W.fnOf x qual (Xu st) (Y2 st) (_C st) (.ref T) kV doc pm an cdv ct) ⟨us,[]⟩=seqItems? (.ref T) >>= k/\k (some #[.none])=pure (ps.zip us)):Binds K (W.fnOf x qual (Xu st) (Y2 st) (_C st) (.ref T) kV doc pm an cdv ct) ps []:=by
 intro s us hin hl;rw[Q1] at hl ⊢;obtain⟨k,h1,h2⟩:=h us (hl.trans hp);exact W.binds_K hin rfl ho hs h1 h2
end L2
set_option exponentiation.threshold 3000
seal L2.PSs L2.PS L2.PE L2.PT L2.PW L2.PA L2.PG L2.PI L2.PO
namespace K09
open PySem L2
variable{C a b bi c dx li su ti:Addr} {B B':Bk} {X:Cx} {e:Ent} {p:Ent×Addr} {o o':HO} {H H':Hp} {d z:Int} {ls ls':List (A0×Addr×A9)} {ks os us:List (Ent×Addr)} {l:A6} {S:B5} {es:List Ent} {L pool zs:A9} {xs:List V} {i:Nat} {pos:Pos} {A:Prop} {sc:Scope} {f m n n' s x y:Str} {F:A0->A9} {v:V} {Q:VK}
noncomputable def _N (i:Nat):Stmt:=PySem.Challenge.pw_heirbook_k09_whole_any_order.main.body.getD i (.Pass ⟨0,0,0,0⟩)
noncomputable abbrev _fP:Stmt:=_N 9
noncomputable abbrev _cJ:Stmt:=_N 12
noncomputable abbrev _ex:Stmt:=_N 13
noncomputable abbrev _cC:Stmt:=_N 14
noncomputable abbrev _dd:Stmt:=_N 15
noncomputable abbrev _fa:Stmt:=_N 16
noncomputable abbrev _go:Stmt:=_N 18
noncomputable abbrev _c5:Stmt:=_N 19
noncomputable abbrev _em:Stmt:=_N 20
noncomputable abbrev _ch:Stmt:=_N 21
noncomputable abbrev _gL:Stmt:=_N 22
noncomputable abbrev _dw:Stmt:=_N 23
noncomputable abbrev _d5:Stmt:=_N 24
noncomputable abbrev _eA:Stmt:=_N 27
noncomputable abbrev _cb:Stmt:=_N 31
noncomputable abbrev _dj:Stmt:=YW (_N 32) 0
noncomputable abbrev _d4:Stmt:=YW (_N 32) 8
noncomputable abbrev _dB:Stmt:=YW (_N 32) 11
noncomputable abbrev _dv:Stmt:=YW (_N 32) 12
noncomputable abbrev _eV:Stmt:=YW (_N 32) 4
noncomputable abbrev _cc:Stmt:=YW (_N 32) 3
noncomputable abbrev _fg:Stmt:=YW (_N 32) 2
noncomputable abbrev _cp:Stmt:=YW (_N 32) 7
noncomputable abbrev _ew:Stmt:=YW (_N 32) 5
noncomputable abbrev _gh:Stmt:=YW (_N 32) 16
noncomputable abbrev _dW:Stmt:=YW (_N 32) 14
noncomputable abbrev _b9:Stmt:=YW (_N 32) 6
noncomputable abbrev _de:Stmt:=YW (_N 32) 1
noncomputable abbrev _eI:Stmt:=YW (_N 32) 9
noncomputable abbrev _e7:Stmt:=YW (_N 32) 10
noncomputable abbrev _gr:Stmt:=YW (_N 32) 13
noncomputable abbrev _gn:Stmt:=YW (_N 32) 15
noncomputable abbrev _dZ:Stmt:=YW (_N 32) 17
noncomputable abbrev _gG:Stmt:=_N 34
noncomputable abbrev _b2:Stmt:=_N 35
noncomputable abbrev _dE:Stmt:=_N 36
noncomputable abbrev _f9:Stmt:=_N 37
noncomputable abbrev _fb:Stmt:=_N 38
noncomputable abbrev _ca:Stmt:=_N 39
noncomputable abbrev _c4:Stmt:=_N 40
noncomputable abbrev _ez:Stmt:=_N 41
noncomputable abbrev _bY:Stmt:=_N 42
noncomputable abbrev _gi:Stmt:=_N 43
noncomputable abbrev _eN:Stmt:=_N 44
noncomputable abbrev _fO:Stmt:=_N 45
noncomputable abbrev _c1:Stmt:=_N 46
noncomputable abbrev _e9:Stmt:=_N 47
noncomputable abbrev _fv:Stmt:=_N 48
noncomputable abbrev _eU:Stmt:=_N 49
noncomputable abbrev _b4:Stmt:=_N 50
noncomputable abbrev _eb:Stmt:=_N 51
set_option genInjectivity false
set_option genSizeOf false
structure Tx (K:W.Frag) (w:World) (mg:Str->B4) where
 cB:Addr
 _fX:Df K mg "is_whole" _fP ["thing"]
 Y4:Df K mg "is_name" _cJ ["thing"]
 Xx:Df K mg "is_day" _ex ["thing"]
 W3:Df K mg "is_amount" _cC ["thing"]
 Vc:Df K mg "is_sort" _dd ["thing"]
 WK:Df K mg "is_parent" _fa ["thing"]
 _gd:Df K mg "has_form" _go ["parts","checks"]
 _cE:Df K mg "is_entry" _c5 ["thing"]
 _cY:Df K mg "is_tie" _em ["entry"]
 _dF:Df K mg "named_in" _ch ["entry"]
 _dR:Df K mg "day_of" _gL ["entry"]
 _d3:Df K mg "as_told" _dw ["entry"]
 _gC:Df K mg "key_of" _d5 ["entry"]
 _cx:Df K mg "is_letter" _eA ["thing"]
 _df:Df K mg "pair_of" _cb ["one","other"]
 VE:Dm K cB "__init__" "Book.__init__" _dj ["self"]
 JO:Dm K cB "birth_of" "Book.birth_of" _d4 ["self","name"]
 _fB:Dm K cB "sort_of" "Book.sort_of" _dB ["self","name"]
 _cm:Dm K cB "born_on" "Book.born_on" _dv ["self","name"]
 _e5:Dm K cB "parent_fits" "Book.parent_fits" _eV ["self","name","sort","day"]
 _fQ:Dm K cB "fits" "Book.fits" _cc ["self","entry"]
 _ac:Dm K cB "refuse" "Book.refuse" _fg ["self","entry"]
 _c0:Dm K cB "link" "Book.link" _cp ["self","letter","begin","end"]
 _ey:Dm K cB "note_birth" "Book.note_birth" _ew ["self","entry"]
 _cQ:Dm K cB "step" "Book.step" _gh ["self","letter","name"]
 a_Book_stands:Addr
 fd_Book_stands:FuncData
 dt_Book_stands:Addr
 F_Book_stands:FunD K "stands" "Book.stands" _dW a_Book_stands fd_Book_stands (.ref dt_Book_stands)
 b_Book_stands:Binds K fd_Book_stands ["self","one","other","day"] [.none]
 b3_Book_stands:Binds K fd_Book_stands ["self","one","other","day"] []
 _c6:Dm K cB "note_tie" "Book.note_tie" _b9 ["self","entry"]
 J2:Dm K cB "put" "Book.put" _de ["self","entry"]
 Wn:Dm K cB "entries" "Book.entries" _eI ["self"]
 W4:Dm K cB "people" "Book.people" _e7 ["self"]
 _cg:Dm K cB "dead_on" "Book.dead_on" _gr ["self","name"]
 _cX:Dm K cB "gave" "Book.gave" _gn ["self","giver","taker"]
 _fx:Dm K cB "until" "Book.until" _dZ ["self","day"]
 _co:Df K mg "_law_cell_at" _gG ["_law_script","_law_k"]
 _ga:Df K mg "_law_names" _b2 ["_law_cell","_law_many"]
 _dY:Df K mg "_law_births" _dE ["_law_script","_law_most"]
 _dN:Df K mg "_law_like" _f9 ["_law_row","_law_entry"]
 _gm:Df K mg "_law_deed" _fb ["_law_births_here","_law_cell"]
 _fR:Df K mg "_law_deeds" _ca ["_law_births_here","_law_cells"]
 _cH:Df K mg "_law_named" _c4 ["_law_entry"]
 _eg:Df K mg "_law_shape" _ez ["_law_row"]
 _fJ:Df K mg "_law_digits" _bY ["_law_cell"]
 _dp:Df K mg "_law_turned" _gi ["_law_row","_law_cell"]
 _fu:Df K mg "_law_order" _eN ["_law_script","_law_rows"]
 _dn:Df K mg "_law_put" _fO ["_law_book","_law_row"]
 _dx:Df K mg "_law_filled" _c1 ["_law_book","_law_rows"]
 _cd:Df K mg "_law_alike" _e9 ["_law_book","_law_other","_law_row"]
 _dO:Df K mg "_law_two_alike" _fv ["_law_book","_law_other","_law_row"]
 _c8:Df K mg "_law_day" _eU ["_law_row"]
 _e0:Df K mg "_law_until" _b4 ["_law_part","_law_due","_law_day_here"]
 Us:Df K mg "law" _eb ["_law_script"]
 c_NoPerson:Addr
 m_NoPerson:mg "NoPerson"=some (.ref c_NoPerson)
 x_NoPerson:W.excIn K c_NoPerson EBm "ValueError.__new__"=true
 e_NoPerson:ExcK K c_NoPerson
 mB_:mg "Book"=some (.ref cB)
 lB_:Cls K cB
 kB_:Mk K cB VE.a
 nBkept:NoAttr K cB "kept"
 nBbirths:NoAttr K cB "births"
 nBlinks:NoAttr K cB "links"
 nBties:NoAttr K cB "ties"
 nBsums:NoAttr K cB "sums"
 me_Book_stands:Meth K cB "stands" a_Book_stands
 n_abs:mg "abs"=none
 n_all:mg "all"=none
 n_bool:mg "bool"=none
 n_int:mg "int"=none
 n_isinstance:mg "isinstance"=none
 n_len:mg "len"=none
 n_list:mg "list"=none
 n_max:mg "max"=none
 n_min:mg "min"=none
 n_range:mg "range"=none
 n_sorted:mg "sorted"=none
 n_str:mg "str"=none
 n_tuple:mg "tuple"=none
 n_zip:mg "zip"=none
 kii':W.kitOne K (.type "int") (.type "int")=some true
 kis':W.kitOne K (.type "int") (.type "str")=some false
 kit':W.kitOne K (.type "int") (.type "tuple")=some false
 kib':W.kitOne K (.type "int") (.type "bool")=some false
 ksi':W.kitOne K (.type "str") (.type "int")=some false
 kss':W.kitOne K (.type "str") (.type "str")=some true
 kst':W.kitOne K (.type "str") (.type "tuple")=some false
 kbi':W.kitOne K (.type "bool") (.type "int")=some true
 kbs':W.kitOne K (.type "bool") (.type "str")=some false
 kbt':W.kitOne K (.type "bool") (.type "tuple")=some false
 kbb':W.kitOne K (.type "bool") (.type "bool")=some true
 kni':W.kitOne K (.type "NoneType") (.type "int")=some false
 kns':W.kitOne K (.type "NoneType") (.type "str")=some false
 knt':W.kitOne K (.type "NoneType") (.type "tuple")=some false
 kti':W.kitOne K (.type "tuple") (.type "int")=some false
 kts':W.kitOne K (.type "tuple") (.type "str")=some false
 ktt':W.kitOne K (.type "tuple") (.type "tuple")=some true
 kli':W.kitOne K (.type "list") (.type "int")=some false
 kls':W.kitOne K (.type "list") (.type "str")=some false
 klt':W.kitOne K (.type "list") (.type "tuple")=some false
 kdi':W.kitOne K (.type "dict") (.type "int")=some false
 kds':W.kitOne K (.type "dict") (.type "str")=some false
 kdt':W.kitOne K (.type "dict") (.type "tuple")=some false
 kl_list:W.kitOne K (.type "list") (.type "list")=some true
 aF:Addr
 m_FORMS:mg "FORMS"=some (.ref aF)
 tkL:Tok
 m_LETTERS:mg "LETTERS"=some (.str "abcdefghijklmnopqrstuvwxyz" tkL)
 p0:Addr
 p1:Addr
 p2:Addr
 p3:Addr
 p4:Addr
 p5:Addr
 g0:Addr
 g1:Addr
 g2:Addr
 g3:Addr
 g4:Addr
 g5:Addr
 sF:∀H,SqT K H aF [.ref p0,.ref p1,.ref p2,.ref p3,.ref p4,.ref p5]
 sp0:∀H,SqT K H p0 [.str "born",.ref g0]
 sp1:∀H,SqT K H p1 [.str "taken",.ref g1]
 sp2:∀H,SqT K H p2 [.str "union",.ref g2]
 sp3:∀H,SqT K H p3 [.str "parted",.ref g3]
 sp4:∀H,SqT K H p4 [.str "dead",.ref g4]
 sp5:∀H,SqT K H p5 [.str "given",.ref g5]
 sg0:∀H,SqT K H g0 [.ref Y4.a,.ref Vc.a,.ref Xx.a,.ref WK.a,.ref WK.a]
 sg1:∀H,SqT K H g1 [.ref Y4.a,.ref Y4.a,.ref Xx.a]
 sg2:∀H,SqT K H g2 [.ref Y4.a,.ref Y4.a,.ref Xx.a]
 sg3:∀H,SqT K H g3 [.ref Y4.a,.ref Y4.a,.ref Xx.a]
 sg4:∀H,SqT K H g4 [.ref Y4.a,.ref Xx.a]
 sg5:∀H,SqT K H g5 [.ref Y4.a,.ref Y4.a,.ref W3.a,.ref Xx.a]
 a_STEP_LETTERS:Addr
 m_STEP_LETTERS:mg "STEP_LETTERS"=some (.ref a_STEP_LETTERS)
 _g6:∀H,SqT K H a_STEP_LETTERS [.str "F",.str "M",.str "T",.str "f",.str "m",.str "t",.str "S"]
 t_MOST_ENTRIES:Tok
 m_MOST_ENTRIES:mg "MOST_ENTRIES"=some (.int 400 t_MOST_ENTRIES)
 t_MOST_PEOPLE:Tok
 m_MOST_PEOPLE:mg "MOST_PEOPLE"=some (.int 60 t_MOST_PEOPLE)
def Jr (K:W.Frag):Sp:=λvs H Q _=>∃(a:Addr) (ns:C5),vs=[.ref a]/\SqL K H a (ns.map V.int)/\ns.length<=63/\∀H',Q (.bl true) H'
inductive Vk where
 |int (i:Int)|str (x:Str)|bl|non|tup|lst|dct
noncomputable def Vk.ty:Vk->Value
 |.int _=>.type "int"
 |.str _=>.type "str"
 |.bl=>.type "bool"
 |.non=>.type "NoneType"
 |.tup=>.type "tuple"
 |.lst=>.type "list"
 |.dct=>.type "dict"
noncomputable def Vk.isI:Vk->Bool
 |.int _=>true
 |_=>false
noncomputable def Vk.isB:Vk->Bool
 |.bl=>true
 |_=>false
noncomputable def Vk.isS:Vk->Bool
 |.str _=>true
 |_=>false
noncomputable def Vk.isT:Vk->Bool
 |.tup=>true
 |_=>false
def Vw (K:W.Frag) (H:Hp) (v:V):Vk->Prop
 |.int i=>v=.int i
 |.str x=>v=.str x/\x.length<=100
 |k=>Kd K H v k.ty
section
variable{K:W.Frag} {t:Vk}
theorem Vw.kd (h:Vw K H v t):Kd K H v t.ty:=by
 cases t with
 |int i=>cases(show v=.int i from h);exact .of (.int i)
 |str x=>cases(show v=.str x from h.1);exact .of (.str x)
 |_=>exact h
theorem Vw.mono (h:Vw K H v t) (e:Same H H'):Vw K H' v t:=by
 cases t with
 |int i=>exact h
 |str x=>exact h
 |_=>exact e.kd h
end
def Vws (K:W.Frag) (H:Hp):List V->List Vk->Prop
 |[],[]=>True
 |x::xs,t::ts=>Vw K H x t/\Vws K H xs ts
 |_,_=>False
section
variable{K:W.Frag}
theorem Vws.length:∀{xs:List V} {ts:List Vk},Vws K H xs ts->xs.length=ts.length
 |[],[],_=>rfl
 |x::xs,t::ts,h=>by rw[QC,QC,Vws.length h.2]
theorem Vws.mono (e:Same H H'):∀{xs:List V} {ts:List Vk},Vws K H xs ts->Vws K H' xs ts
 |[],[],_=>True.intro
 |x::xs,t::ts,h=>⟨h.1.mono e,Vws.mono e h.2⟩
theorem Vws.get:∀{xs:List V} {ts:List Vk} {i:Nat} {t:Vk},Vws K H xs ts->ts[i]?=some t->∃x,xs[i]?=some x/\Vw K H x t
 |[],[],_,_,_,e=>by simp at e
 |x::xs,t::ts,0,t',h,e=>by
  cases(show some t=some t' by simpa using e);exact⟨x,rfl,h.1⟩
 |x::xs,t::ts,i+1,t',h,e=>by
  obtain⟨y,e1,e2⟩:=Vws.get (i:=i) h.2 (by simpa using e);exact⟨y,by simpa using e1,e2⟩
end
def Tv (K:W.Frag) (H:Hp) (v:V) (ts:List Vk):Prop:=∃a xs,v=.ref a/\SqT K H a xs/\Vws K H xs ts
noncomputable abbrev Jd:Str:="abcdefghijklmnopqrstuvwxyz"
noncomputable def X0 (c:Nat):Bool:=!(Builtin.Str.occurrences Jd ⟨#[c]⟩ 0 Jd.length 1).isEmpty
noncomputable def WI:Vk->Bool
 |.str x=>decide (1<=x.length)&&decide (x.length<=8)&&x.cps.toList.all X0
 |_=>false
noncomputable def _aH:Vk->Bool
 |.int i=>decide ((if i<0 then -i else i)<=10 ^ 18)
 |_=>false
noncomputable def JP:Vk->Bool
 |.int i=>decide (1<=i)&&decide (i<=10 ^ 18)
 |_=>false
noncomputable def Uf:Vk->Bool
 |.str x=>decide (x="he")||decide (x="she")||decide (x="")
 |_=>false
noncomputable def UF (t:Vk):Bool:=WI t||match t with
 |.str x=>decide (x="")
 |_=>false
inductive Chk where
 |name|sort|day|amount|parent
noncomputable def Vy:Chk->Vk->Bool
 |.name=>WI
 |.sort=>Uf
 |.day=>_aH
 |.amount=>JP
 |.parent=>UF
noncomputable def Ws:List (Str×List Chk):=[("born",[.name,.sort,.day,.parent,.parent]),("taken",[.name,.name,.day]),("union",[.name,.name,.day]),("parted",[.name,.name,.day]),("dead",[.name,.day]),("given",[.name,.name,.amount,.day])]
noncomputable def Wj (w:Str):Option (List Chk):=(Ws.find? λp=>decide (w=p.1)).map (·.2)
noncomputable def _R:List Chk->List Vk->List Bool
 |c::cs,t::ts=>Vy c t::_R cs ts
 |_,_=>[]
noncomputable def Xy (cs:List Chk) (ts:List Vk):Bool:=decide (ts.length=cs.length)&&(_R cs ts).all id
noncomputable def WO:List Vk->Bool
 |.str w::ts=>((Wj w).map λcs=>Xy cs ts).getD false
 |_=>false
theorem Ui (w:Str) (ts:List Vk):WO (.str w::ts)=((Wj w).map λcs=>Xy cs ts).getD false:=rfl
structure Nm (x:Str):Prop where
 lo:1<=x.length
 hi:x.length<=8
 all:x.cps.toList.all X0=true
theorem Nm.ok (h:Nm x):WI (.str x)=true:=by
 show(decide (1<=x.length)&&decide (x.length<=8)&&x.cps.toList.all X0)=true;rw[Ql h.lo,Ql h.hi,h.all];rfl
section
variable{K:W.Frag} {mg:Str->B4}
noncomputable def Tx.ad (T:Tx K w mg):Chk->Addr
 |.name=>T.Y4.a
 |.sort=>T.Vc.a
 |.day=>T.Xx.a
 |.amount=>T.W3.a
 |.parent=>T.WK.a
theorem kI (T:Tx K w mg):∀t:Vk,W.kitOne K t.ty (.type "int")=some (t.isI||t.isB)
 |.int _=>T.kii'
 |.str _=>T.ksi'
 |.bl=>T.kbi'
 |.non=>T.kni'
 |.tup=>T.kti'
 |.lst=>T.kli'
 |.dct=>T.kdi'
theorem kS (T:Tx K w mg):∀t:Vk,W.kitOne K t.ty (.type "str")=some t.isS
 |.int _=>T.kis'
 |.str _=>T.kss'
 |.bl=>T.kbs'
 |.non=>T.kns'
 |.tup=>T.kts'
 |.lst=>T.kls'
 |.dct=>T.kds'
theorem kT (T:Tx K w mg):∀t:Vk,W.kitOne K t.ty (.type "tuple")=some t.isT
 |.int _=>T.kit'
 |.str _=>T.kst'
 |.bl=>T.kbt'
 |.non=>T.knt'
 |.tup=>T.ktt'
 |.lst=>T.klt'
 |.dct=>T.kdt'
end
theorem _ep {N:A9} {L:List (Str×NameKind)} {ns:St} (hk:sc.kind=.function) (hn:∀x∈sc.names,x.2=.local->sc.names.lookup x.1=some .local) (hc:∀y∈sc.names,y.2≠.cell)
 (clos:closureFor sc X.env=pure []) (e:(relabel sc X.env).names=L) (hL:∀y∈L,y.2≠.cell/\y.2≠.free) (hl:ns.length=N.length) (hs:∀o∈ns,o=none):CompSc X N sc [] (λ_=>ns):=by
 have no:∀(x:Str),¬((relabel sc X.env).names.lookup x=some .cell\/(relabel sc X.env).names.lookup x=some .free):=λx h=>by
  rw[e] at h
  have lk:∀(M:List (Str×NameKind)) (k:NameKind),M.lookup x=some k->∃y∈M,y.2=k:=λM k=>by
   induction M with
   |nil=>intro h;cases h
   |cons p r ih =>
    intro h;rw[List.lookup_cons] at h;split at h
    ·exact⟨p,Qy ..,Qt h⟩
    ·obtain⟨y,hy,q⟩:=ih h;exact⟨y,QB _ hy,q⟩
  rcases h with h|h
  ·obtain⟨y,hy,q⟩:=lk _ _ h;exact(hL y hy).1 q
  ·obtain⟨y,hy,q⟩:=lk _ _ h;exact(hL y hy).2 q
 refine⟨hk,hn,hc,clos,(λx c (h:([]:List A7).lookup x=some c)=>by cases h),λx h=>absurd h (no x),λ_=>hl,λU i x v e1 e2=>?_⟩;have:=hs _ (QE e2);cases this
theorem UC:(["sign"]:A9).Nodup:=by ext
theorem Uc:(["check","part"]:A9).Nodup:=by ext
theorem _ia (z:Str):Xp (.str z) [.str "he",.str "she",.str ""]=Uf (.str z):=by
 unfold Xp Uf;rw[Q0];simp only[Rq,List.any_nil,Xs,Nj,GU,RO,Gz];constructor
 ·rintro(h|h|h)
  ·exact .inl (.inl h.symm)
  ·exact .inl (.inr h.symm)
  ·exact .inr h.symm
 ·rintro((h|h)|h)
  ·exact .inl h.symm
  ·exact .inr (.inl h.symm)
  ·exact .inr (.inr h.symm)
theorem _a1 (x:Str):WI (.str x)=(decide (1<=x.length)&&decide (x.length<=8)&&x.cps.toList.all X0):=rfl
theorem _iU (i:Int):JP (.int i)=(decide (1<=i)&&decide (i<=10 ^ 18)):=rfl
theorem _gE:∀{cs:List Chk} {ts:List Vk},ts.length=cs.length->(_R cs ts).length=cs.length
 |[],[],_=>rfl
 |c::cs,t::ts,h=>by
  show(_R cs ts).length+1=cs.length+1;rw[_gE (by simpa using h)]
theorem _mi:∀{cs:List Chk} {ts:List Vk} {i:Nat} {y:V},ts.length=cs.length->((_R cs ts).map V.bl)[i]?=some y->∃c t,cs[i]?=some c/\ts[i]?=some t/\y=.bl (Vy c t):=by
 intro cs
 induction cs with
 |nil =>
  intro ts i y h e;cases ts with
  |nil=>simp[_R] at e
  |cons t ts=>simp at h
 |cons c cs ih =>
  intro ts i y h e;cases ts with
  |nil=>simp at h
  |cons t ts =>
   cases i with
   |zero=>exact⟨c,t,rfl,rfl,by simpa[_R] using e.symm⟩
   |succ i =>
    obtain⟨c',t',e1,e2,e3⟩:=ih (ts:=ts) (i:=i) (y:=y) (by simpa using h) (by simpa[_R] using e);exact⟨c',t',by simpa using e1,by simpa using e2,e3⟩
theorem _eM {α:Type} {f:α->Bool}:∀{l:List α} {i:Nat} {p:α},l[i]?=some p->(∀j,j<i->∀p',l[j]?=some p'->f p'=false)->f p=true->l.find? f=some p
 |x::l,0,p,e,_,h=>by
  have e':x=p:=by simpa using e
  subst e';rw[RT,h]
 |x::l,i+1,p,e,b,h=>by
  rw[RT,b 0 (by lia) x rfl];exact _eM (l:=l) (i:=i) (by simpa using e) (λj hj p' e'=>b (j+1) (by lia) p' (by simpa using e')) h
theorem _lv {w:Str} {p:Str×List Chk} (e:Ws[i]?=some p) (b:∀j,j<i->∀p',Ws[j]?=some p'->w≠p'.1) (h:w=p.1):Wj w=some p.2:=by
 unfold Wj;rw[_eM e (λj hj p' e'=>Qi (b j hj p' e')) (Ql h)];rfl
theorem _h0 {w:Str} (b:∀j,j<6->∀p',Ws[j]?=some p'->w≠p'.1):Wj w=none:=by
 unfold Wj;rw[List.find?_eq_none.mpr]
 ·rfl
 ·intro p hp;obtain⟨j,hj,e⟩:=RV hp;have:=b j hj p (by rw[<-e];exact Qp hj);simpa using this
theorem _lA:∀p∈Ws,p.2.length<=10:=by ext
theorem _mz {K:W.Frag} {mg:Str->B4} (T:Tx K w mg) {p:Str×List Chk} (e:Ws[i]?=some p) :
  ∃P G,[V.ref T.p0,.ref T.p1,.ref T.p2,.ref T.p3,.ref T.p4,.ref T.p5][i]?=some (.ref P)/\(∀H,SqT K H P [.str p.1,.ref G])/\∀H,SqT K H G (p.2.map λc=>.ref (T.ad c)):=by
 match i,e with
 |0,e=>cases e;exact⟨_,_,rfl,T.sp0,T.sg0⟩
 |1,e=>cases e;exact⟨_,_,rfl,T.sp1,T.sg1⟩
 |2,e=>cases e;exact⟨_,_,rfl,T.sp2,T.sg2⟩
 |3,e=>cases e;exact⟨_,_,rfl,T.sp3,T.sg3⟩
 |4,e=>cases e;exact⟨_,_,rfl,T.sp4,T.sg4⟩
 |5,e=>cases e;exact⟨_,_,rfl,T.sp5,T.sg5⟩
 |n+6,e=>cases e
theorem _i9 (x:V) (xs:List V):Ym (x::xs) (some 1) none=xs:=by
 unfold Ym
 have e:HT.sIx (x::xs).length 0 (some 1)=1:=by
  show HT.sIx (x::xs).length 0 (some ((1:Nat):Int))=1;rw[HT.sIx_nat,QC];lia
 rw[e];show(xs.take ((x::xs).length-1))=xs;simp
theorem few {n:Nat} (h:Nat.ble n 1000=true):n<=sizeLine:=Ra (small1000 (Rs h))
theorem _I {b:Bool} {B:Prop} (e:b=true) (h:A):if b=true then A else B:=by rw[Qb e];exact h
theorem _u {b:Bool} {B:Prop} (e:b=false) (h:B):if b=true then A else B:=by rw[Qa (by rw[e];decide)];exact h
theorem WB {b:Bool} {B:Prop} (h1:b=true->A) (h2:b=false->B):if b=true then A else B:=by
 cases b with
 |true=>exact _7 (h1 rfl)
 |false=>exact _L (h2 rfl)
theorem _l7 {x y:Int} (h:decide (V.int x=V.int y)=true):x=y:=V.int.inj (Rw h)
theorem _hK {x y:Int} (h:decide (V.int x=V.int y)=false):x≠y:=λe=>RB h (by rw[e])
section
variable{K:W.Frag} {ys:List V} {ts:List Vk}
theorem V9 {lo hi:B8} (ha:SqT K H a xs) (hn:¬(HT.sIx xs.length 0 lo=0/\HT.sIx xs.length xs.length hi=xs.length)) (h:∀H' p,Same H H'->SqT K H' p (Ym xs lo hi)->Q (.ref p) H'):rSlT K (.ref a) lo hi H Q :=
 ⟨a,xs,rfl,ha,hn,λp np=>h _ p (_q np) (.of _k)⟩
end
theorem _aG {i:Int} {x:V} (h0:0<=i) (e:xs[i.toNat]?=some x):YC xs i=some x:=by
 have:=X2 e
 rwa [Int.toNat_of_nonneg h0] at this
theorem YH:decide (V.str x=V.str y)=decide (x=y):=by
 rw[Q0];simp
inductive Ent where
 |born (n s:Str) (d:Int) (f m:Str)
 |taken (c t:Str) (d:Int)
 |union (a b:Str) (d:Int)
 |parted (a b:Str) (d:Int)
 |dead (n:Str) (d:Int)
 |given (g t:Str) (a d:Int)
noncomputable def Ent.row:Ent->List _j
 |.born n s d f m=>[.inr "born",.inr n,.inr s,.inl d,.inr f,.inr m]
 |.taken c t d=>[.inr "taken",.inr c,.inr t,.inl d]
 |.union a b d=>[.inr "union",.inr a,.inr b,.inl d]
 |.parted a b d=>[.inr "parted",.inr a,.inr b,.inl d]
 |.dead n d=>[.inr "dead",.inr n,.inl d]
 |.given g t a d=>[.inr "given",.inr g,.inr t,.inl a,.inl d]
noncomputable def Ent.tie:Ent->Bool
 |.union ..=>true
 |.parted ..=>true
 |_=>false
noncomputable def Ent.named:Ent->A9
 |.born _ _ _ f m=>[f,m].filter λx:Str=>decide (x≠"")
 |.taken c t _=>[c,t]
 |.union a b _=>[a,b]
 |.parted a b _=>[a,b]
 |.dead n _=>[n]
 |.given g t _ _=>[g,t]
noncomputable def Ent.day:Ent->Int
 |.born _ _ d _ _=>d
 |.taken _ _ d=>d
 |.union _ _ d=>d
 |.parted _ _ d=>d
 |.dead _ d=>d
 |.given _ _ _ d=>d
def EntAt (K:W.Frag) (H:Hp) (v:V) (e:Ent):Prop:=∃a,v=.ref a/\SqT K H a (e.row.map kV)
theorem EntAt.mono {K:W.Frag} (h:EntAt K H v e) (s:Same H H'):EntAt K H' v e:=by
 obtain⟨a,rfl,q⟩:=h;exact⟨a,rfl,s.sqt q⟩
theorem _c {r:List V} {j:Nat} {x:V} (h:r[j]?=some x):YC r (j:Int)=some x:=X2 h
noncomputable def Ww (x:Str):Option V:=if x="" then none else some (.str x)
theorem _aI:∀l:A9,(l.map Ww).filterMap id=(l.filter λx:Str=>decide (x≠"")).map V.str
 |[]=>rfl
 |x::r=>by
  have ih:=_aI r;by_cases h:x=""
  ·subst h;simp only[Qm,QQ,Rm];simpa[Ww] using ih
  ·simp only[Qm,QQ,Rm];simpa[Ww,h] using ih
theorem _W {H1:Hp} {D:Addr} (s:Same H H1) (n:H1 D=none):H D=none:=by
 cases e:H D with
 |none=>rfl
 |some o=>rw[s D o e] at n;cases n
noncomputable def Ent.key:Ent->List _j
 |.born n _ _ _ _=>[.inr "born",.inr n]
 |.taken c t _=>[.inr "taken",.inr c,.inr t]
 |.union a b d=>[.inr "tie",.inr a,.inr b,.inl d]
 |.parted a b d=>[.inr "tie",.inr a,.inr b,.inl d]
 |.dead n _=>[.inr "dead",.inr n]
 |.given g t _ d=>[.inr "given",.inr g,.inr t,.inl d]
noncomputable def Ent.bornName:Ent->Option Str
 |.born n _ _ _ _=>some n
 |_=>none
structure Bk where
 kept:List (Ent×Addr)
 links:List (A0×Addr×A9)
 ties:List (A0×Addr×A6)
 sums:List (A0×Int)
noncomputable def two (p:A0):List _j:=[.inr p.1,.inr p.2]
noncomputable def Bk.keptD (B:Bk):List (List _j×V):=B.kept.map λp=>(p.1.key,.ref p.2)
noncomputable def Bk.bornD (l:List (Ent×Addr)):List (_j×V):=l.filterMap λp=>p.1.bornName.map λn=>(.inr n,.ref p.2)
noncomputable def Bk.linksD (B:Bk):List (List _j×V):=B.links.map λq=>(two q.1,.ref q.2.1)
noncomputable def Bk.tiesD (B:Bk):List (List _j×V):=B.ties.map λq=>(two q.1,.ref q.2.1)
noncomputable def Bk.sumsD (B:Bk):List (List _j×V):=B.sums.map λq=>(two q.1,.int q.2)
noncomputable def Wz (k bi li ti su:Addr):List (Str×V):=[("kept",.ref k),("births",.ref bi),("links",.ref li),("ties",.ref ti),("sums",.ref su)]
structure BkAt (K:W.Frag) (C:Addr) (H:Hp) (b dx k bi li ti su:Addr) (B:Bk):Prop where
 ob:H b=some (.ins C dx (Wz k bi li ti su))
 ap:[k,li,ti,su].Nodup
 at':(bi::B.ties.map (·.2.1)).Nodup
 ke:H k=some (.dT B.keptD)
 bi:H bi=some (.dK (Bk.bornD B.kept))
 li:H li=some (.dT B.linksD)
 ti:H ti=some (.dT B.tiesD)
 su:H su=some (.dT B.sumsD)
 en:∀p∈B.kept,SqT K H p.2 (p.1.row.map kV)
 ll:∀q∈B.links,H q.2.1=some (.lst (q.2.2.map V.str))
 tt:∀q∈B.ties,H q.2.1=some (.dK (q.2.2.map λr=>(.inl r.1,.str r.2)))
theorem BkAt.mono {K:W.Frag} {k:Addr} (h:BkAt K C H b dx k bi li ti su B) (s:Same H H'):BkAt K C H' b dx k bi li ti su B :=
 ⟨s _ _ h.ob,h.ap,h.at',s _ _ h.ke,s _ _ h.bi,s _ _ h.li,s _ _ h.ti,s _ _ h.su,λp hp=>s.sqt (h.en p hp),λq hq=>s _ _ (h.ll q hq),λq hq=>s _ _ (h.tt q hq)⟩
def BkHas (K:W.Frag) (C:Addr) (H:Hp) (v:V) (B:Bk):Prop:=∃b dx k bi li ti su,v=.ref b/\BkAt K C H b dx k bi li ti su B
theorem BkHas.mono {K:W.Frag} (h:BkHas K C H v B) (s:Same H H'):BkHas K C H' v B:=by
 obtain⟨b,dx,k,bi,li,ti,su,e,h⟩:=h;exact⟨b,dx,k,bi,li,ti,su,e,h.mono s⟩
noncomputable def _Q (n:Str):List (Ent×Addr)->Option (Ent×Addr)
 |[]=>none
 |p::r=>if p.1.bornName=some n then some p else _Q n r
theorem JN {n:Str}:∀{l:List (Ent×Addr)} {p:Ent×Addr},_Q n l=some p->p∈l/\p.1.bornName=some n
 |[],_,h=>by cases h
 |q::r,p,h=>by
  unfold _Q at h;split at h
  ·cases h;exact⟨Qy ..,by assumption⟩
  ·obtain⟨h1,h2⟩:=JN h;exact⟨QB _ h1,h2⟩
theorem _a5 (n:Str):∀l:List (Ent×Addr),_K (Bk.bornD l) (.inr n:_j)=(_Q n l).map λp=>.ref p.2
 |[]=>rfl
 |p::r=>by
  have ih:=_a5 n r;unfold Bk.bornD _Q;rw[QQ];cases h:p.1.bornName with
  |none =>
   simp only[Option.map_none];rw[Qa (by simp)];exact ih
  |some x =>
   simp only[Gg];by_cases e:x=n
   ·subst e;rw[YL rfl,Qb rfl];rfl
   ·rw[Yq (λq=>e (QT q)),Qa (λq=>e (Qt q))];exact ih
theorem VR {k:Addr}:(Wz k bi li ti su).lookup ("kept" : Str)=some (.ref k):=rfl
theorem Um {k:Addr}:(Wz k bi li ti su).lookup ("births" : Str)=some (.ref bi):=rfl
theorem _am {k:Addr}:(Wz k bi li ti su).lookup ("links" : Str)=some (.ref li):=rfl
theorem _fy {k:Addr}:(Wz k bi li ti su).lookup ("ties" : Str)=some (.ref ti):=rfl
theorem _bT {k:Addr}:(Wz k bi li ti su).lookup ("sums" : Str)=some (.ref su):=rfl
noncomputable def JF (B:Bk) (n:Str):Option (Str×Int):=match _Q n B.kept with
 |some (.born _ s d _ _,_)=>some (s,d)
 |_=>none
noncomputable def W8 (B:Bk) (n:Str):Str:=((JF B n).map (·.1)).getD ""
noncomputable def _6 (B:Bk) (n:Str):Int:=((JF B n).map (·.2)).getD 0
theorem _bo (h:_Q n B.kept=some p) (e:p.1=.born n' s d f m):W8 B n=s:=by
 obtain⟨e',a⟩:=p;cases e;unfold W8 JF;rw[h];rfl
theorem V7 (h:_Q n B.kept=some p) (e:p.1=.born n' s d f m):_6 B n=d:=by
 obtain⟨e',a⟩:=p;cases e;unfold _6 JF;rw[h];rfl
noncomputable def XG (B:Bk) (n s:Str) (d:Int):Bool:=decide (n="")||(decide (W8 B n=s)&&decide (_6 B n<d))
def Known (B:Bk) (n:Str):Prop:=_Q n B.kept≠none
noncomputable def XZ (B:Bk) (e:Ent):Bool:=match e with
 |.born _ _ d f m=>XG B f "he" d&&XG B m "she" d
 |.taken c t d=>decide (c≠t)&&decide (_6 B t<_6 B c)&&e.named.all λn=>decide (_6 B n<=d)
 |.dead n d=>decide (_6 B n<=d)
 |.union a b d=>decide (a≠b)&&e.named.all λn=>decide (_6 B n<=d)
 |.parted a b d=>decide (a≠b)&&e.named.all λn=>decide (_6 B n<=d)
 |.given a b _ d=>decide (a≠b)&&e.named.all λn=>decide (_6 B n<=d)
theorem Wg {a b:TS} {D:Ends} {U:St} (J:St->Hp->Prop) (h1:∀nx,(∀U H,J U H->nx U H)->a { D with nx:=nx } U H) (h2:∀U H,J U H->b D U H):_gv a b D U H:=h1 (b D) h2
noncomputable def Ent.isBorn:Ent->Bool
 |.born ..=>true
 |_=>false
noncomputable def Ent.same:Ent->Bool
 |.taken c t _=>decide (c=t)
 |.union a b _=>decide (a=b)
 |.parted a b _=>decide (a=b)
 |.given a b _ _=>decide (a=b)
 |_=>false
noncomputable def Ent.early (B:Bk):Ent->Bool
 |.taken c t _=>decide (_6 B c<=_6 B t)
 |_=>false
theorem JT (h:e.isBorn=false):XZ B e=(!e.same&&!e.early B&&e.named.all λn=>decide (_6 B n<=e.day)):=by
 cases e with
 |born=>cases h
 |taken c t d =>
  unfold XZ Ent.same Ent.early;have h1:decide (c≠t)=!decide (c=t):=by simp
  have h2:decide (_6 B t<_6 B c)=!decide (_6 B c<=_6 B t):=by
   rw[Q0];simp
  simp only[h1,h2];rfl
 |dead n d =>
  simp[XZ,Ent.same,Ent.early,Ent.named,Ent.day];rfl
 |_ =>
  simp[XZ,Ent.same,Ent.early,Ent.day];rfl
theorem _k6 {k:Addr}:_G "sums" (.ref su) (_G "ties" (.ref ti) (_G "links" (.ref li) (_G "births" (.ref bi) (_G "kept" (.ref k) []))))=Wz k bi li ti su:=by
 rfl
noncomputable def _Y:Bk:=⟨[],[],[],[]⟩
theorem Jk {p:Addr} {fs:List (Str×V)} (f:Str) (o:HO) (h:H b=some (.ins C dx fs)) (n:H p=none) :
  (_d (_d H p o) b (.ins C dx (_G f (.ref p) fs))) b=some (.ins C dx (_G f (.ref p) fs))/\(_d (_d H p o) b (.ins C dx (_G f (.ref p) fs))) p=some o /\
  (∀c u,H c=some u->c≠b->(_d (_d H p o) b (.ins C dx (_G f (.ref p) fs))) c=some u)/\∀c,(_d (_d H p o) b (.ins C dx (_G f (.ref p) fs))) c=none->H c=none:=by
 have pb:p≠b:=λe=>by subst e;rw[h] at n;cases n
 refine⟨_k,(_l pb).trans _k,λc u e cb=>(_l cb).trans ((_l (_P e n)).trans e),λc e=>?_⟩;by_cases cb:c=b
 ·subst cb;rw[_k] at e;cases e
 rw[_l cb] at e;by_cases cp:c=p
 ·subst cp;exact n
 rw[_l cp] at e;exact e
noncomputable def _2 (c:A0):List (A0×Addr×A9)->Option (Addr×A9)
 |[]=>none
 |q::r=>if q.1=c then some q.2 else _2 c r
theorem W0 {a b:A0} (h:two a=two b):a=b:=by
 unfold two at h;simp at h;exact R1 h.1 h.2
theorem _bm (c:A0):∀l:List (A0×Addr×A9),_K (l.map λq=>(two q.1,V.ref q.2.1)) (two c)=(_2 c l).map λq=>.ref q.1
 |[]=>rfl
 |q::r=>by
  have ih:=_bm c r;unfold _2;rw[Qm];by_cases e:q.1=c
  ·subst e;rw[YL rfl,Qb rfl];rfl
  ·rw[Yq (λz=>e (W0 z)),Qa e];exact ih
theorem _bn {c:A0}:∀{l:List (A0×Addr×A9)} {x:Addr×A9},_2 c l=some x->∃q∈l,q.2=x
 |[],_,h=>by cases h
 |q::r,x,h=>by
  unfold _2 at h;split at h
  ·cases h;exact⟨q,Qy ..,rfl⟩
  ·obtain⟨z,hz,e⟩:=_bn h;exact⟨z,QB _ hz,e⟩
noncomputable def Yc (B:Bk) (l n:Str):A9:=((_2 (l,n) B.links).map (·.2)).getD []
noncomputable def Xr:A9:=["F","M","T","f","m","t","S"]
noncomputable def Jf (x:Str):Bool:=decide (x∈Xr)
theorem JK (x:Str):∀l:A9,Xp (.str x) (l.map V.str)=decide (x∈l):=by
 intro l;unfold Xp
 induction l with
 |nil=>rfl
 |cons y r ih =>
  rw[Qm,Rq,ih];by_cases h:x=y
  ·subst h;simp[Xs]
  ·simp[Xs,h,QM h]
theorem Jo {a b:Str} (h1:_J a b=false) (h2:_J b a=false):a=b:=by
 unfold _J at h1 h2
 have e:a.cps.toList=b.cps.toList:=by
  have l1:=RB h1;have l2:=RB h2;exact List.le_antisymm (G3.mp l2) (G3.mp l1)
 obtain⟨a⟩:=a;obtain⟨b⟩:=b;have e2:a=b:=NA.mp e;rw[e2]
noncomputable def _h (a b:Str):A0:=if _J b a=true then(b,a) else(a,b)
theorem JL {a b:Str} (hp:zs.Perm [a,b]) (hs:PyProof.Rows.sortedS zs=true):zs=[(_h a b).1,(_h a b).2]:=by
 have hl:=hp.length_eq
 match zs,hl with
 |[x,y],_ =>
  have hs2:_J y x=false:=by
   have h3:(!PySem.Spec.ltCps y.cps.toList x.cps.toList&&true)=true:=hs;rw[PyProof.Rows.ltCps_eq] at h3;simpa[_J] using h3
  have hm:x∈[a,b]:=hp.subset (by simp)
  have hp2:(x=a/\y=b)\/(x=b/\y=a):=by
   rcases Qk.mp hm with rfl|hm
   ·have:=hp.cons_inv;exact .inl ⟨rfl,by simpa using this⟩
   ·have e:x=b:=by simpa using hm
    subst e;have h4:[x,y].Perm [x,a]:=hp.trans (List.Perm.swap ..);have:=h4.cons_inv;exact .inr ⟨rfl,by simpa using this⟩
  unfold _h;rcases hp2 with⟨rfl,rfl⟩|⟨rfl,rfl⟩
  ·rw[hs2];rfl
  ·by_cases h:_J x y=true
   ·rw[Qb h]
   ·rw[Qa h,Jo (RA.mpr h) hs2]
noncomputable def Ent.told:Ent->Ent
 |.union a b d=>.union (_h a b).1 (_h a b).2 d
 |.parted a b d=>.parted (_h a b).1 (_h a b).2 d
 |e=>e
theorem _hu (a b:Str):(if _J b a=true then b else a)=(_h a b).1:=by
 unfold _h;by_cases h:_J b a=true
 ·rw[Qb h,Qb h]
 ·rw[Qa h,Qa h]
theorem _mW (a b:Str):(if _J a b=true then b else a)=(_h a b).2:=by
 unfold _h;by_cases h:_J b a=true
 ·rw[Qb h];by_cases h2:_J a b=true
  ·have l1:b.cps.toList<a.cps.toList:=Rw h;have l2:a.cps.toList<b.cps.toList:=Rw h2;exact absurd l1 (Mb l2)
  ·rw[Qa h2]
 ·rw[Qa h];by_cases h2:_J a b=true
  ·rw[Qb h2]
  ·rw[Qa h2,Jo (RA.mpr h) (RA.mpr h2)]
noncomputable def UH:_j->Vk
 |.inl i=>.int i
 |.inr x=>.str x
theorem _bD {K:W.Frag} {H:Hp}:∀(l:List _j),(∀x:Str,(.inr x:_j)∈l->x.length<=100)->Vws K H (l.map kV) (l.map UH)
 |[],_=>trivial
 |.inl i::r,h=>⟨rfl,_bD r λx hx=>h x (QB _ hx)⟩
 |.inr y::r,h=>⟨⟨rfl,h y (Qy ..)⟩,_bD r λx hx=>h x (QB _ hx)⟩
structure Ent.Ok (e:Ent):Prop where
 en:WO (e.row.map UH)=true
 sh:∀x:Str,(.inr x:_j)∈e.row->x.length<=100
theorem Ent.row_len (e:Ent):(e.row.map UH).length<=10:=by
 cases e<;>exact Rs rfl
theorem Ent.Ok.tv (h:e.Ok) {K:W.Frag} (hE:SqT K H a (e.row.map kV)):Tv K H (.ref a) (e.row.map UH):=⟨a,_,rfl,hE,_bD _ h.sh⟩
inductive Rf where
 |full|person|twice|fit
noncomputable def Bk.full (B:Bk) (e:Ent):Bool:=decide (400<=B.kept.length)||(e.isBorn&&decide (60<=(Bk.bornD B.kept).length))
noncomputable def Xf (B:Bk) (e:Ent):Option Rf :=
 if B.full e=true then some .full
 else if(e.named.all λn=>(_Q n B.kept).isSome)=false then some .person
 else if(_K B.keptD e.told.key).isSome=true then some .twice
 else if XZ B e=true then none else some .fit
theorem _bf (kn:∀n∈e.named,Known B n):(e.named.all λn=>(_Q n B.kept).isSome)=true:=by
 rw[RU];intro n hn;have:=kn n hn;unfold Known at this;exact My.mpr this
theorem _mt (h:B.full e=false) (kn:∀n∈e.named,Known B n) (t:(_K B.keptD e.told.key).isSome=false) (f:XZ B e=true):Xf B e=none:=by
 unfold Xf;rw[h,Qa (by decide),_bf kn,Qa (by decide),t,Qa (by decide),f,Qb rfl]
theorem _fF {a b c:Str} (h1:_J a b=true) (h2:_J b c=true):_J a c=true:=by
 unfold _J at *;exact Ql (List.lt_trans (Rw h1) (Rw h2))
theorem _hL (a:Str):_J a a=false:=by
 unfold _J;exact Qi (N8 _)
noncomputable def Yz (a b:Str):Bool:=!_J b a
theorem _cV {a b c:Str} (h1:Yz a b=true) (h2:Yz b c=true):Yz a c=true:=by
 unfold Yz at *;simp only[Nr] at *;cases h:_J c a with
 |false=>rfl
 |true =>
  by_cases e:a=b
  ·subst e;rw[h] at h2;cases h2
  ·have hab:_J a b=true:=by
    cases h3:_J a b with
    |true=>rfl
    |false=>exact absurd (Jo h3 h1) e
   rw[_fF h hab] at h2;cases h2
theorem _nv (a b:Str):(Yz a b||Yz b a)=true:=by
 unfold Yz;cases h:_J b a with
 |false=>rfl
 |true =>
  cases h2:_J a b with
  |false=>rfl
  |true=>exact absurd (_fF h2 h) (by rw[_hL a];decide)
noncomputable def _B (l:A9):A9:=l.mergeSort Yz
theorem Y6 (l:A9):(_B l).Perm l:=List.mergeSort_perm ..
theorem Wc (l:A9):(_B l).Pairwise λa b=>Yz a b=true:=List.pairwise_mergeSort (le:=Yz) (λ_ _ _=>_cV) _nv l
theorem _dt:∀{l:A9},PyProof.Rows.sortedS l=true->l.Pairwise λa b=>Yz a b=true
 |[],_=>.nil
 |[x],_=>.cons (by simp) .nil
 |x::y::r,h=>by
  have h':(!PySem.Spec.ltCps y.cps.toList x.cps.toList&&PyProof.Rows.risingS y r)=true:=h;rw[R6] at h';obtain⟨h1,h2⟩:=h';have ih:=_dt (l:=y::r) h2
  have hxy:Yz x y=true:=by
   rw[PyProof.Rows.ltCps_eq] at h1;exact h1
  refine .cons (λz hz=>?_) ih;rcases Qk.mp hz with rfl|hz
  ·exact hxy
  ·exact _cV hxy (G9 ih hz)
theorem Vd:∀{l m:A9},l.Perm m->(l.Pairwise λa b=>Yz a b=true)->(m.Pairwise λa b=>Yz a b=true)->l=m
 |[],m,p,_,_=>p.nil_eq
 |x::l,[],p,_,_=>absurd p.length_eq (by simp)
 |x::l,y::m,p,h1,h2=>by
  have e:x=y:=by
   by_cases e:x=y
   ·exact e
   have hx:x∈m:=by
    have:x∈y::m:=p.subset (Qy ..);rcases Qk.mp this with h|h
    ·exact absurd h e
    ·exact h
   have hy:y∈l:=by
    have:y∈x::l:=p.symm.subset (Qy ..);rcases Qk.mp this with h|h
    ·exact absurd h.symm e
    ·exact h
   have a1:=G9 h1 hy;have a2:=G9 h2 hx;unfold Yz at a1 a2;simp only[Nr] at a1 a2;exact Jo a2 a1
  subst e;rw[Vd p.cons_inv (RH.mp h1).2 (RH.mp h2).2]
theorem UD {l:A9} (hp:zs.Perm l) (hs:PyProof.Rows.sortedS zs=true):zs=_B l:=Vd (hp.trans (Y6 l).symm) (_dt hs) (Wc l)
structure But (S:B5) (H H':Hp):Prop where
 eq:∀a o,a∉S->H a=some o->H' a=some o
 al:∀a,H' a=none->H a=none
theorem But.of (S:B5) (s:Same H H'):But S H H':=⟨λa o _ e=>s a o e,λa n=>_W s n⟩
theorem But.trans {H'':Hp} (h1:But S H H') (h2:But S H' H''):But S H H'':=⟨λa o n e=>h2.eq a o n (h1.eq a o n e),λa n=>h1.al a (h2.al a n)⟩
theorem But.put (e:H a=some o) (h:a∈S):But S H (_d H a o'):=by
 refine⟨λc u n q=>(_l (λz:c=a=>n (by rw[z];exact h))).trans q,λc n=>?_⟩;by_cases z:c=a
 ·subst z;rw[_k] at n;cases n
 ·rw[_l z] at n;exact n
noncomputable def _r {κ α:Type} [DecidableEq κ] (l:List (κ×α)) (c:κ) (x:α):List (κ×α) :=
 if(l.any λq=>decide (q.1=c))=true then l.map (λq=>if q.1=c then(q.1,x) else q) else l++[(c,x)]
theorem _ay {κ κ' α:Type} [DecidableEq κ] [DecidableEq κ'] {f:κ->κ'} (hf:∀a b,f a=f b->a=b) (g:α->V) (l:List (κ×α)) (c:κ) (x:α) :
  Yi (l.map λq=>(f q.1,g q.2)) (f c) (g x)=(_r l c x).map λq=>(f q.1,g q.2):=by
 have hd:∀a:κ,decide (f a=f c)=decide (a=c):=λa=>by
  by_cases e:a=c
  ·subst e;simp
  ·rw[Qi e,Qi (λz=>e (hf _ _ z))]
 unfold Yi _r
 have e1:((l.map λq=>(f q.1,g q.2)).any λkv=>decide (kv.1=f c))=l.any λq=>decide (q.1=c):=by
  rw[List.any_map];exact QI (λz=>l.any z) (funext λq=>hd q.1)
 rw[e1];by_cases h:(l.any λq=>decide (q.1=c))=true
 ·rw[Qb h,Qb h,QF,QF];refine R0 λq _=>?_;show(if f q.1=f c then(f q.1,g x) else(f q.1,g q.2))=(λq=>(f q.1,g q.2)) (if q.1=c then(q.1,x) else q);by_cases e:q.1=c
  ·rw[Qb e,Qb (by rw[e])]
  ·rw[Qa e,Qa (λz=>e (hf _ _ z))]
 ·rw[Qa h,Qa h,Qu];rfl
theorem _ao {κ α:Type} [DecidableEq κ] {l:List (κ×α)} {c:κ} {x:α} {q:κ×α} (h:q∈_r l c x):q=(c,x)\/q∈l:=by
 unfold _r at h;split at h
 ·obtain⟨p,hp,e⟩:=Qj.mp h;split at e
  ·rename_i pc;subst e;exact .inl (by rw[pc])
  ·subst e;exact .inr hp
 ·rcases Qn.mp h with h|h
  ·exact .inr h
  ·exact .inl (by simpa using h)
theorem JZ {k:Addr} (h:[k,li,ti,su].Nodup):k≠li/\k≠ti/\k≠su/\li≠ti/\li≠su/\ti≠su:=by
 simp at h;exact⟨h.1.1,h.1.2.1,h.1.2.2,h.2.1.1,h.2.1.2,h.2.2⟩
theorem Yd {u:HO} (h1:H a=some o) (h2:H c=some u) (n:o≠u):a≠c:=λe=>by
 subst e;rw[h1] at h2;exact n (Qt h2)
theorem XB {K:W.Frag} (h:SqT K H a xs) (e:H c=some o) (no:∀ys,o≠.tup ys) (nf:∀x ys,o≠.frz x ys):SqT K (_d H c o') a xs:=by
 rcases h with h|h
 ·rcases h with h|⟨x,h⟩
  ·exact .inl (.inl ((_l (Yd h e (λz=>no _ z.symm))).trans h))
  ·exact .inl (.inr ⟨x,(_l (Yd h e (λz=>nf _ _ z.symm))).trans h⟩)
 ·exact .inr h
theorem BkAt.links {K:W.Frag} {k:Addr} (h:BkAt K C H b dx k bi li ti su B) {l:List (A0×Addr×A9)}
 (hl:∀q∈l,H q.2.1=some (.lst (q.2.2.map V.str))):BkAt K C (_d H li (.dT (l.map λq=>(two q.1,V.ref q.2.1)))) b dx k bi li ti su { B with links:=l }:=by
 obtain⟨n1,n2,n3,n4,n5,n6⟩:=JZ h.ap;have dk:∀{c:Addr} {z:List (_j×V)},H c=some (.dK z)->c≠li:=λe=>Yd e h.li (λz=>by cases z)
 exact⟨(_l (Yd h.ob h.li (λz=>by cases z))).trans h.ob,h.ap,h.at',(_l n1).trans h.ke,(_l (dk h.bi)).trans h.bi,_k,(_l n4.symm).trans h.ti,(_l n5.symm).trans h.su,
  λp hp=>XB (h.en p hp) h.li (λ_ z=>by cases z) (λ_ _ z=>by cases z),λq hq=>(_l (Yd (hl q hq) h.li (λz=>by cases z))).trans (hl q hq),λq hq=>(_l (dk (h.tt q hq))).trans (h.tt q hq)⟩
noncomputable def lk (ls:List (A0×Addr×A9)) (c:A0):A9:=((_2 c ls).map (·.2)).getD []
noncomputable def _1 (f:A0->A9) (c:A0) (m:Str):A0->A9:=λx=>if x=c then _B (f c++[m]) else f x
theorem _gH {c:A0}:∀{l:List (A0×Addr×A9)},(l.any λq=>decide (q.1=c))=false->_2 c l=none
 |[],_=>rfl
 |q::r,h=>by
  rw[Rq,Mc] at h;unfold _2;rw[Qa (RB h.1)];exact _gH h.2
theorem _cP {c:A0}:∀{l m:List (A0×Addr×A9)},_2 c (l++m)=(_2 c l).or (_2 c m)
 |[],m=>by simp[_2]
 |q::r,m=>by
  show(if q.1=c then some q.2 else _2 c (r++m))=(if q.1=c then some q.2 else _2 c r).or (_2 c m);by_cases e:q.1=c
  ·rw[Qb e,Qb e];rfl
  ·rw[Qa e,Qa e];exact _cP
theorem _cO {c d:A0} {x:Addr×A9}:∀{l:List (A0×Addr×A9)},_2 d (l.map λq=>if q.1=c then(q.1,x) else q)=if d=c then(_2 c l).map (λ_=>x) else _2 d l
 |[]=>by by_cases e:d=c<;>simp[_2,e]
 |q::r=>by
  have ih:=_cO (c:=c) (d:=d) (x:=x) (l:=r);rw[Qm];by_cases e:q.1=c
  ·rw[Qb e];by_cases e2:d=c
   ·subst e2;rw[Qb rfl];unfold _2;rw[Qb e,Qb e];rfl
   ·rw[Qa e2] at ih ⊢;unfold _2;rw[Qa (λz=>e2 (z.symm.trans e)),Qa (λz=>e2 (z.symm.trans e))];exact ih
  ·rw[Qa e];by_cases e2:d=c
   ·subst e2;rw[Qb rfl] at ih ⊢;unfold _2;rw[Qa e,Qa e];exact ih
   ·rw[Qa e2] at ih ⊢;unfold _2;by_cases e3:q.1=d
    ·rw[Qb e3,Qb e3]
    ·rw[Qa e3,Qa e3];exact ih
theorem _fi (l:List (A0×Addr×A9)) (c d:A0) (x:Addr×A9):_2 d (_r l c x)=if d=c then some x else _2 d l:=by
 unfold _r;by_cases h:(l.any λq=>decide (q.1=c))=true
 ·rw[Qb h,_cO];by_cases e:d=c
  ·rw[Qb e,Qb e];cases hk:_2 c l with
   |some y=>rfl
   |none =>
    exfalso
    have:∀{l:List (A0×Addr×A9)},_2 c l=none->(l.any λq=>decide (q.1=c))=false:=by
     intro l
     induction l with
     |nil=>intro _;rfl
     |cons q r ih =>
      intro hn;unfold _2 at hn;by_cases e:q.1=c
      ·rw[Qb e] at hn;cases hn
      ·rw[Qa e] at hn;rw[Rq,ih hn,Qi e];rfl
    rw[this hk] at h;cases h
  ·rw[Qa e,Qa e]
 ·rw[Qa h,_cP];by_cases e:d=c
  ·subst e;rw[Qb rfl,_gH (RA.mpr h)];simp[_2]
  ·rw[Qa e];cases _2 d l with
   |some y=>rfl
   |none=>simp[_2,QM e]
theorem WA (l:List (A0×Addr×A9)) (c d:A0) (D:Addr) (m:Str):lk (_r l c (D,_B (lk l c++[m]))) d=_1 (lk l) c m d:=by
 unfold lk _1;rw[_fi];by_cases e:d=c
 ·rw[Qb e,Qb e];rfl
 ·rw[Qa e,Qa e]
theorem XJ {κ α:Type} [DecidableEq κ] (l:List (κ×α)) (c:κ) (x:α):(_r l c x).length<=l.length+1:=by
 unfold _r;split
 ·rw[Qd];lia
 ·rw[Qq];exact Qg _
theorem Ud (B:Bk) (l n:Str):Yc B l n=lk B.links (l,n):=rfl
noncomputable def Xl (F:A0->A9) (n f m:Str):A0->A9 :=
 let F1:=if f="" then F else _1 (_1 F ("F",n) f) ("f",f) n
 if m="" then F1 else _1 (_1 F1 ("M",n) m) ("m",m) n
theorem US {c d:A0} (h:d.1≠c.1):_1 F c m d=F d:=Qa λe=>h (by rw[e])
theorem Ux {G:A0->A9} (h:∀c,F c=G c) (c:A0) (m:Str) (d:A0):_1 F c m d=_1 G c m d:=by
 unfold _1;rw[h c,h d]
theorem _m0 (l:List (Ent×Addr)) (n s:Str) (d:Int) (f m:Str) (a:Addr):Bk.bornD (l++[(.born n s d f m,a)])=Bk.bornD l++[(.inr n,.ref a)]:=by
 unfold Bk.bornD;rw[Gs];rfl
theorem _n3 (l:List (Ent×Addr)):(Bk.bornD l).length<=l.length:=GV ..
theorem But.mono {S':B5} (h:But S H H') (i:∀a∈S,a∈S'):But S' H H':=⟨λa o n e=>h.eq a o (λz=>n (i a z)) e,h.al⟩
noncomputable def U1 (l:List (Ent×Addr)):List (Str×V):=l.filterMap λp=>p.1.bornName.map λn=>(n,.ref p.2)
theorem _gj (l:List (Ent×Addr)):Bk.bornD l=(U1 l).map λp=>(.inr p.1,p.2):=by
 unfold Bk.bornD U1;rw[List.map_filterMap]
 congr 1
 funext p
 cases p.1.bornName<;>rfl
noncomputable def Y3 (l:List (Ent×Addr)):A9:=l.filterMap λp=>p.1.bornName
theorem _eB (l:List (Ent×Addr)):(U1 l).map (·.1)=Y3 l:=by
 unfold Y3 U1;rw[List.map_filterMap]
 congr 1
 funext p
 cases p.1.bornName<;>rfl
def Grows (H:Hp) (ls ls':List (A0×Addr×A9)):Prop:=∀q∈ls',(∃p∈ls,p.2.1=q.2.1)\/H q.2.1=none
theorem Grows.refl (H:Hp) (ls:List (A0×Addr×A9)):Grows H ls ls:=λq hq=>.inl ⟨q,hq,rfl⟩
theorem Grows.put {c:A0} {D:Addr} {x:A9} (g:Grows H ls ls') (n:H D=none):Grows H ls (_r ls' c (D,x)):=λq hq=>by
 rcases _ao hq with rfl|hq
 ·exact .inr n
 ·exact g q hq
theorem Grows.back (g:Grows H' ls ls') (al:∀a,H' a=none->H a=none):Grows H ls ls':=λq hq=>(g q hq).imp id (al _)
noncomputable def _E {κ α:Type} [DecidableEq κ] (c:κ):List (κ×α)->Option α
 |[]=>none
 |q::r=>if q.1=c then some q.2 else _E c r
theorem _fl {κ α:Type} [DecidableEq κ] {c:κ}:∀{l:List (κ×α)},(l.any λq=>decide (q.1=c))=false->_E c l=none
 |[],_=>rfl
 |q::r,h=>by
  rw[Rq,Mc] at h;unfold _E;rw[Qa (RB h.1)];exact _fl h.2
theorem _av {κ α:Type} [DecidableEq κ] {c:κ}:∀{l:List (κ×α)},_E c l=none->(l.any λq=>decide (q.1=c))=false
 |[],_=>rfl
 |q::r,h=>by
  unfold _E at h;by_cases e:q.1=c
  ·rw[Qb e] at h;cases h
  ·rw[Qa e] at h;rw[Rq,_av h,Qi e];rfl
theorem _aa {κ α:Type} [DecidableEq κ] {c:κ}:∀{l m:List (κ×α)},_E c (l++m)=(_E c l).or (_E c m)
 |[],m=>by simp[_E]
 |q::r,m=>by
  show(if q.1=c then some q.2 else _E c (r++m))=(if q.1=c then some q.2 else _E c r).or (_E c m);by_cases e:q.1=c
  ·rw[Qb e,Qb e];rfl
  ·rw[Qa e,Qa e];exact _aa
theorem _c9 {κ α:Type} [DecidableEq κ] {c d:κ} {x:α}:∀{l:List (κ×α)},_E d (l.map λq=>if q.1=c then(q.1,x) else q)=if d=c then(_E c l).map (λ_=>x) else _E d l
 |[]=>by by_cases e:d=c<;>simp[_E,e]
 |q::r=>by
  have ih:=_c9 (c:=c) (d:=d) (x:=x) (l:=r);rw[Qm];by_cases e:q.1=c
  ·rw[Qb e];by_cases e2:d=c
   ·subst e2;rw[Qb rfl];unfold _E;rw[Qb e,Qb e];rfl
   ·rw[Qa e2] at ih ⊢;unfold _E;rw[Qa (λz=>e2 (z.symm.trans e)),Qa (λz=>e2 (z.symm.trans e))];exact ih
  ·rw[Qa e];by_cases e2:d=c
   ·subst e2;rw[Qb rfl] at ih ⊢;unfold _E;rw[Qa e,Qa e];exact ih
   ·rw[Qa e2] at ih ⊢;unfold _E;by_cases e3:q.1=d
    ·rw[Qb e3,Qb e3]
    ·rw[Qa e3,Qa e3];exact ih
theorem _dg {κ α:Type} [DecidableEq κ] (l:List (κ×α)) (c d:κ) (x:α):_E d (_r l c x)=if d=c then some x else _E d l:=by
 unfold _r;by_cases h:(l.any λq=>decide (q.1=c))=true
 ·rw[Qb h,_c9];by_cases e:d=c
  ·rw[Qb e,Qb e];cases hk:_E c l with
   |some y=>rfl
   |none=>rw[_av hk] at h;cases h
  ·rw[Qa e,Qa e]
 ·rw[Qa h,_aa];by_cases e:d=c
  ·subst e;rw[Qb rfl,_fl (RA.mpr h)];simp[_E]
  ·rw[Qa e];cases _E d l with
   |some y=>rfl
   |none=>simp[_E,QM e]
theorem Vi {κ α:Type} [DecidableEq κ] {c:κ}:∀{l:List (κ×α)} {x:α},_E c l=some x->(c,x)∈l
 |[],_,h=>by cases h
 |q::r,x,h=>by
  unfold _E at h;by_cases e:q.1=c
  ·rw[Qb e] at h;cases h;rw[<-e];exact Qy ..
  ·rw[Qa e] at h;exact QB _ (Vi h)
theorem VU {κ κ' α:Type} [DecidableEq κ] [DecidableEq κ'] {f:κ->κ'} (hf:∀a b,f a=f b->a=b) (g:α->V) (c:κ):∀l:List (κ×α),_K (l.map λq=>(f q.1,g q.2)) (f c)=(_E c l).map g
 |[]=>rfl
 |q::r=>by
  have ih:=VU hf g c r;unfold _E;rw[Qm];by_cases e:q.1=c
  ·subst e;rw[YL rfl,Qb rfl];rfl
  ·rw[Yq (λz=>e (hf _ _ z)),Qa e];exact ih
noncomputable def _9 (B:Bk) (c:A0):A6:=((_E c B.ties).map (·.2)).getD []
noncomputable def Yr (l:A6):Bool:=match (l.map (·.1)).max? with
 |none=>false
 |some m=>decide (_E m l=some ("union" : Str))
noncomputable def _az (B:Bk) (a b:Str):Bool:=Yr (_9 B (_h a b))
noncomputable def YK (l:A6):List (_j×V):=l.map λr=>(.inl r.1,.str r.2)
theorem _f7:∀a b:Int,(.inl a:_j)=.inl b->a=b:=λ_ _ h=>Sum.inl.inj h
theorem _dy {m:Int} (h:m∈l.map (·.1)):∃x,_E m l=some x:=by
 cases e:_E m l with
 |some x=>exact⟨x,rfl⟩
 |none =>
  obtain⟨q,hq,rfl⟩:=Qj.mp h;have:=_av e;rw[NN] at this;exact absurd (Ql rfl) (this q hq)
theorem _a2 {m:Int} (hm:m∈l.map (·.1)) (hx:∀y∈l.map (·.1),y<=m) (e:_E m l=some x):Yr l=decide (x="union"):=by
 have h:(l.map (·.1)).max?=some m:=List.max?_eq_some_iff.mpr ⟨hm,hx⟩;unfold Yr;rw[h];show decide (_E m l=some ("union" : Str))=_;rw[e];simp
theorem UI (a b:Str):_h a b=_h b a:=by
 unfold _h;by_cases h:_J b a=true
 ·by_cases h2:_J a b=true
  ·have l1:b.cps.toList<a.cps.toList:=Rw h;have l2:a.cps.toList<b.cps.toList:=Rw h2;exact absurd l1 (Mb l2)
  ·rw[Qb h,Qa h2]
 ·by_cases h2:_J a b=true
  ·rw[Qa h,Qb h2]
  ·rw[Qa h,Qa h2,Jo (RA.mpr h) (RA.mpr h2)]
noncomputable def _T (F:A0->A9) (st:Bool) (x y:Str):A0->A9:=λc =>
 if c=(("S",x):A0) then(if st=true then _B ((F c).filter (λn=>decide (n≠y))++[y]) else(F c).filter λn=>decide (n≠y)) else F c
noncomputable def YT (ts:List (A0×Addr×A6)) (c:A0):A6:=((_E c ts).map (·.2)).getD []
theorem _gA (B:Bk) (c:A0):_9 B c=YT B.ties c:=rfl
theorem _er {ts:List (A0×Addr×A6)} {c:A0} {d:Addr} {l':A6} (n:(ts.map (·.1)).Nodup) (h:_E c ts=some (d,l)):(_r ts c (d,l')).map (·.2.1)=ts.map (·.2.1)/\(_r ts c (d,l')).map (·.1)=ts.map (·.1):=by
 have an:(ts.any λq=>decide (q.1=c))=true:=by
  rw[Md];exact⟨_,Vi h,Ql rfl⟩
 unfold _r;rw[Qb an,QF,QF];constructor
 ·refine R0 λq hq=>?_;show(if q.1=c then(q.1,(d,l')) else q).2.1=q.2.1;by_cases e:q.1=c
  ·rw[Qb e]
   have:q.2=(d,l):=by
    have go:∀{ts:List (A0×Addr×A6)},(ts.map (·.1)).Nodup->_E c ts=some (d,l)->q∈ts->q.2=(d,l):=by
     intro ts
     induction ts with
     |nil=>intro _ _ h;cases h
     |cons p r ih =>
      intro n f m;rw[Qm,Rb] at n;unfold _E at f;by_cases e2:p.1=c
      ·rw[Qb e2] at f;rcases Qk.mp m with rfl|m
       ·exact Qt f
       ·exact absurd (Qj.mpr ⟨q,m,e.trans e2.symm⟩) n.1
      ·rw[Qa e2] at f;rcases Qk.mp m with rfl|m
       ·exact absurd e e2
       ·exact ih n.2 f m
    exact go n h hq
   rw[this]
  ·rw[Qa e]
 ·refine R0 λq hq=>?_;show(if q.1=c then(q.1,(d,l')) else q).1=q.1;split<;>rfl
theorem BkAt.newTie {K:W.Frag} {k z:Addr} (h:BkAt K C H b dx k bi li ti su B) (nz:H z=some (.dK [])) (fr:z≠bi/\∀q∈B.ties,q.2.1≠z) (c:A0) :
  BkAt K C (_d H ti (.dT (B.tiesD++[(two c,.ref z)]))) b dx k bi li ti su { B with ties:=B.ties++[(c,z,[])] }:=by
 obtain⟨n1,n2,n3,n4,n5,n6⟩:=JZ h.ap;have dk:∀{a:Addr} {w:List (_j×V)},H a=some (.dK w)->a≠ti:=λe=>Yd e h.ti (λz=>by cases z)
 refine⟨(_l (Yd h.ob h.ti (λz=>by cases z))).trans h.ob,h.ap,?_,(_l n2).trans h.ke,(_l (dk h.bi)).trans h.bi,(_l n4).trans h.li,?_,(_l n6.symm).trans h.su,λp hp=>XB (h.en p hp) h.ti (λ_ z=>by cases z) (λ_ _ z=>by cases z),
  λq hq=>(_l (Yd (h.ll q hq) h.ti (λz=>by cases z))).trans (h.ll q hq),λq hq=>?_⟩
 ·show(bi::(B.ties++[((c,z,[]):A0×Addr×A6)]).map (·.2.1)).Nodup;rw[Qu,<-Np,Rl];refine⟨h.at',by simp,λa ha x hx e=>?_⟩;have ex:x=z:=by simpa using hx
  subst ex e;rcases Qk.mp ha with rfl|ha
  ·exact fr.1 rfl
  ·obtain⟨q,hq,rfl⟩:=Qj.mp ha;exact fr.2 q hq rfl
 ·rw[_k];show some (HO.dT _)=some (.dT ((B.ties++[((c,z,[]):A0×Addr×A6)]).map λq=>(two q.1,V.ref q.2.1)));rw[Qu];rfl
 ·rcases Qn.mp hq with hq|hq
  ·exact(_l (dk (h.tt q hq))).trans (h.tt q hq)
  ·have e:q=(c,z,[]):=by simpa using hq
   subst e;exact(_l (dk nz)).trans nz
theorem BkAt.putTie {K:W.Frag} {k d:Addr} {c:A0} (h:BkAt K C H b dx k bi li ti su B) (n:(B.ties.map (·.1)).Nodup) (f:_E c B.ties=some (d,l)) (l':A6) :
  BkAt K C (_d H d (.dK (YK l'))) b dx k bi li ti su { B with ties:=_r B.ties c (d,l') }:=by
 have hm:=Vi f;have hd:H d=some (.dK (YK l)):=h.tt _ hm;have at2:=h.at';rw[Rb] at at2;have bd:bi≠d:=λe=>at2.1 (Qj.mpr ⟨_,hm,e.symm⟩);have dt:∀{a:Addr} {w:List (List _j×V)},H a=some (.dT w)->a≠d:=λe=>Yd e hd (λz=>by cases z);obtain⟨pa1,pa2⟩:=_er (l':=l') n f
 refine⟨(_l (Yd h.ob hd (λz=>by cases z))).trans h.ob,h.ap,?_,(_l (dt h.ke)).trans h.ke,(_l bd).trans h.bi,(_l (dt h.li)).trans h.li,?_,(_l (dt h.su)).trans h.su,λp hp=>XB (h.en p hp) hd (λ_ z=>by cases z) (λ_ _ z=>by cases z),
  λq hq=>(_l (Yd (h.ll q hq) hd (λz=>by cases z))).trans (h.ll q hq),λq hq=>?_⟩
 ·show(bi::(_r B.ties c (d,l')).map (·.2.1)).Nodup;rw[pa1];exact h.at'
 ·have e:(_r B.ties c (d,l')).map (λq=>(two q.1,V.ref q.2.1))=B.tiesD:=by
   have e1:(λq:A0×Addr×A6=>(two q.1,V.ref q.2.1))=(λp:A0×Addr=>(two p.1,V.ref p.2))∘λq=>(q.1,q.2.1):=rfl
   have e2:∀ts:List (A0×Addr×A6),ts.map (λq=>(q.1,q.2.1))=(ts.map (·.1)).zip (ts.map (·.2.1)):=λts=>by
    induction ts with
    |nil=>rfl
    |cons q r ih=>simp[ih]
   unfold Bk.tiesD;rw[e1,<-QF,<-QF,e2,e2,pa1,pa2]
  rw[_l (dt h.ti)];show H ti=some (.dT ((_r B.ties c (d,l')).map λq=>(two q.1,V.ref q.2.1)));rw[e];exact h.ti
 ·rcases _ao hq with rfl|hq2
  ·exact _k
  ·by_cases e:q.2.1=d
   ·-- the same address: the same pair
    have:q=(c,d,l)\/q=(c,d,l'):=by
     have hnd:=(Rb.mp h.at').2
     have go:∀{ts:List (A0×Addr×A6)},(ts.map (·.2.1)).Nodup->(c,d,l)∈ts->q∈ts->q=(c,d,l):=by
      intro ts
      induction ts with
      |nil=>intro _ h;cases h
      |cons p r ih =>
       intro n h1 h2;rw[Qm,Rb] at n;rcases Qk.mp h1 with e1|h1'
       ·rcases Qk.mp h2 with e2|h2'
        ·rw[e2,e1]
        ·rw[<-e1] at n;exact absurd (Qj.mpr ⟨q,h2',e⟩) n.1
       ·rcases Qk.mp h2 with e2|h2'
        ·rw[<-e2] at n;exact absurd (Qj.mpr ⟨(c,d,l),h1',e.symm⟩) n.1
        ·exact ih n.2 h1' h2'
     exact .inl (go hnd hm hq2)
    rcases this with rfl|rfl
    ·-- then it was told anew
     have an:(B.ties.any λq=>decide (q.1=c))=true:=by
      rw[Md];exact⟨_,hm,Ql rfl⟩
     unfold _r at hq;rw[Qb an] at hq;obtain⟨p,hp,ep⟩:=Qj.mp hq;by_cases pc:p.1=c
     ·rw[Qb pc] at ep
      have:l'=l:=by
       have:=QI (λz=>z.2.2) ep;exact this
      subst this;exact _k
     ·rw[Qa pc] at ep;subst ep;exact absurd rfl pc
    ·exact _k
   ·exact(_l e).trans (h.tt q hq2)
theorem _jO (ts:List (A0×Addr×A6)) (c x:A0) (d:Addr) (l:A6):YT (_r ts c (d,l)) x=if x=c then l else YT ts x:=by
 unfold YT;rw[_dg];by_cases e:x=c
 ·rw[Qb e,Qb e];rfl
 ·rw[Qa e,Qa e]
theorem _he (ts:List (A0×Addr×A6)) (c x:A0) (d:Addr) (h:_E c ts=none):YT (ts++[(c,d,[])]) x=YT ts x:=by
 unfold YT;rw[_aa];cases e:_E x ts with
 |some y=>rfl
 |none =>
  unfold _E;by_cases e2:c=x
  ·rw[Qb e2];rfl
  ·rw[Qa e2];rfl
noncomputable def Vp (y:Str) (n:Str):Option V:=if n=y then none else some (.str n)
theorem _gt (y:Str):∀l:A9,(l.map (Vp y)).filterMap id=(l.filter λn=>decide (n≠y)).map V.str
 |[]=>rfl
 |n::r=>by
  have ih:=_gt y r;by_cases h:n=y
  ·subst h;simp only[Qm,QQ,Rm];simpa[Vp] using ih
  ·simp only[Qm,QQ,Rm];simpa[Vp,h] using ih
theorem _cD (l:List (A0×Addr×A9)) (c d:A0) (D:Addr) (z:A9):lk (_r l c (D,z)) d=if d=c then z else lk l d:=by
 unfold lk;rw[_fi];by_cases e:d=c
 ·rw[Qb e,Qb e];rfl
 ·rw[Qa e,Qa e]
theorem _bO (F:A0->A9) (st:Bool) (x y:Str) (c:A0):(_T F st x y c).length<=(F c).length+1:=by
 unfold _T;have h:=NH (λn=>decide (n≠y)) (F c);split
 ·split
  ·rw[(Y6 _).length_eq,Qq];show _+1<=_;lia
  ·lia
 ·lia
theorem _al (a b:Str):_h (_h a b).1 (_h a b).2=_h a b:=by
 unfold _h;by_cases h:_J b a=true
 ·rw[Qb h];show(if _J a b=true then(a,b) else(b,a))=(b,a);by_cases h2:_J a b=true
  ·have l1:b.cps.toList<a.cps.toList:=Rw h;have l2:a.cps.toList<b.cps.toList:=Rw h2;exact absurd l1 (Mb l2)
  ·rw[Qa h2]
 ·rw[Qa h];show(if _J b a=true then(b,a) else(a,b))=(a,b);rw[Qa h]
theorem Wq (e:Ent):e.told.told=e.told:=by
 cases e with
 |union a b d=>show Ent.union (_h (_h a b).1 (_h a b).2).1 (_h (_h a b).1 (_h a b).2).2 d=_;rw[_al];rfl
 |parted a b d=>show Ent.parted (_h (_h a b).1 (_h a b).2).1 (_h (_h a b).1 (_h a b).2).2 d=_;rw[_al];rfl
 |_=>rfl
noncomputable def VL (F:A0->A6):Ent->A0->A6
 |.union a b d=>λc=>if c=_h a b then _r (F (_h a b)) d "union" else F c
 |.parted a b d=>λc=>if c=_h a b then _r (F (_h a b)) d "parted" else F c
 |_=>F
noncomputable def WD (F:A0->A9) (G:A0->A6):Ent->A0->A9
 |.born n _ _ f m=>Xl F n f m
 |.taken c t _=>_1 (_1 F ("T",c) t) ("t",t) c
 |.union a b d=>_T (_T F (Yr (_r (G (_h a b)) d "union")) a b) (Yr (_r (G (_h a b)) d "union")) b a
 |.parted a b d=>_T (_T F (Yr (_r (G (_h a b)) d "parted")) a b) (Yr (_r (G (_h a b)) d "parted")) b a
 |_=>F
noncomputable def Wd:V->Int->Bool
 |.int d,t=>decide (t<=d)
 |_,_=>true
noncomputable def Wh (B:Bk) (z:V) (a b:Str):Bool:=Yr ((_9 B (_h a b)).filter λr=>Wd z r.1)
theorem _gS (B:Bk) (a b:Str):Wh B .non a b=_az B a b:=by
 unfold Wh _az;have e:((_9 B (_h a b)).filter λr=>Wd .non r.1)=_9 B (_h a b):=Me.mpr λr _=>rfl;rw[e]
theorem _k2 {p:Int->Bool} {m:Int} (h:p m=true):_E m (l.filter λr=>p r.1)=_E m l:=by
 induction l with
 |nil=>rfl
 |cons q r ih =>
  rw[Rm];by_cases e:q.1=m
  ·have:p q.1=true:=by rw[e];exact h
   rw[Qb this];unfold _E;rw[Qb e,Qb e]
  ·by_cases h2:p q.1=true
   ·rw[Qb h2];unfold _E;rw[Qa e,Qa e];exact ih
   ·rw[Qa h2]
    conv=>rhs;unfold _E
    rw[Qa e];exact ih
noncomputable def VQ (z:V) (r:A5):Option V:=if Wd z r.1=true then some (.int r.1) else none
theorem _ev (z:V):∀l:A6,(l.map (VQ z)).filterMap id=((l.filter λr=>Wd z r.1).map (·.1)).map V.int
 |[]=>rfl
 |r::l=>by
  have ih:=_ev z l;rw[Qm,QQ,Rm];by_cases h:Wd z r.1=true
  ·rw[Qb h];unfold VQ at ih ⊢;rw[Qb h];simp only[id,Qm];rw[ih]
  ·rw[Qa h];unfold VQ at ih ⊢;rw[Qa h];simp only[id];exact ih
noncomputable def YD (ss:List (A0×Int)) (c:A0):Int:=(_E c ss).getD 0
noncomputable def J9 (F:A0->Int):Ent->A0->Int
 |.given g t am _=>λc=>if c=(g,t) then F c+am else F c
 |_=>F
theorem _is (ss:List (A0×Int)) (g t:Str) (am d:Int) (c:A0):YD (_r ss (g,t) (YD ss (g,t)+am)) c=J9 (YD ss) (.given g t am d) c:=by
 show _=if c=(g,t) then YD ss c+am else YD ss c;unfold YD;rw[_dg];by_cases e:c=(g,t)
 ·subst e;rw[Qb rfl,Qb rfl];rfl
 ·rw[Qa e,Qa e]
def GrowsT (H:Hp) (ts ts':List (A0×Addr×A6)):Prop:=∀a∈ts'.map (·.2.1),a∈ts.map (·.2.1)\/H a=none
theorem GrowsT.refl (H:Hp) (ts:List (A0×Addr×A6)):GrowsT H ts ts:=λ_ h=>.inl h
theorem GrowsT.back {ts ts':List (A0×Addr×A6)} (g:GrowsT H' ts ts') (al:∀a,H' a=none->H a=none):GrowsT H ts ts':=λa ha=>(g a ha).imp id (al a)
structure Put (B:Bk) (e:Ent) (B':Bk):Prop where
 su:∀c,YD B'.sums c=J9 (YD B.sums) e.told c
 kept:∃a,B'.kept=B.kept++[(e.told,a)]
 lks:∀c,lk B'.links c=WD (lk B.links) (YT B.ties) e.told c
 tis:∀c,YT B'.ties c=VL (YT B.ties) e.told c
 nd:(B'.ties.map (·.1)).Nodup
 nl:B'.links.length<=B.links.length+4
 nt:B'.ties.length<=B.ties.length+1
 ns:B'.sums.length<=B.sums.length+1
structure Room1 (B:Bk):Prop where
 nd:(B.ties.map (·.1)).Nodup
 nl:B.links.length<=870
 nt:B.ties.length<=790
 ns:B.sums.length<=790
 ll:∀c,(lk B.links c).length<=60
 tt:∀c,(YT B.ties c).length<=790
theorem _kz (h:H a=some o):_d H a o=H:=by
 funext c
 by_cases e:c=a
 ·subst e;rw[_k,h]
 ·rw[_l e]
theorem BkAt.kept {K:W.Frag} {k:Addr} (h:BkAt K C H b dx k bi li ti su B) (ha:SqT K H a (e.row.map kV)) :
  BkAt K C (_d (_d H k (.dT (B.keptD++[(e.key,.ref a)]))) bi (.dK (Bk.bornD (B.kept++[(e,a)])))) b dx k bi li ti su { B with kept:=B.kept++[(e,a)] }:=by
 obtain⟨n1,n2,n3,n4,n5,n6⟩:=JZ h.ap;have kb:k≠bi:=Yd h.ke h.bi (λz=>by cases z);have at2:=Rb.mp h.at';have dt:∀{c:Addr} {w:List (List _j×V)},H c=some (.dT w)->c≠k->(_d (_d H k (.dT (B.keptD++[(e.key,.ref a)]))) bi (.dK (Bk.bornD (B.kept++[(e,a)])))) c=some (.dT w):=λhc n=>(_l (Yd hc h.bi (λz=>by cases z))).trans ((_l n).trans hc)
 have sq:∀{c:Addr} {xs:List V},SqT K H c xs->SqT K (_d (_d H k (.dT (B.keptD++[(e.key,.ref a)]))) bi (.dK (Bk.bornD (B.kept++[(e,a)])))) c xs:=λ{c xs} hc=>by
  have h1:SqT K (_d H k (.dT (B.keptD++[(e.key,.ref a)]))) c xs:=XB hc h.ke (λ_ z=>by cases z) (λ_ _ z=>by cases z);exact XB h1 ((_l kb.symm).trans h.bi) (λ_ z=>by cases z) (λ_ _ z=>by cases z)
 refine⟨(_l (Yd h.ob h.bi (λz=>by cases z))).trans ((_l (Yd h.ob h.ke (λz=>by cases z))).trans h.ob),h.ap,h.at',(_l kb).trans ?_,_k,dt h.li n1.symm,dt h.ti n2.symm,dt h.su n3.symm,λp hp=>?_,λq hq=>?_,λq hq=>?_⟩
 ·rw[_k];show some (HO.dT _)=some (.dT ((B.kept++[(e,a)]).map λp=>(p.1.key,V.ref p.2)));rw[Qu];rfl
 ·rcases Qn.mp hp with hp|hp
  ·exact sq (h.en p hp)
  ·have ep:p=(e,a):=by simpa using hp
   subst ep;exact sq ha
 ·exact(_l (Yd (h.ll q hq) h.bi (λz=>by cases z))).trans ((_l (Yd (h.ll q hq) h.ke (λz=>by cases z))).trans (h.ll q hq))
 ·exact(_l (λz=>at2.1 (Qj.mpr ⟨q,hq,z⟩))).trans ((_l (Yd (h.tt q hq) h.ke (λz=>by cases z))).trans (h.tt q hq))
theorem _hE {l:List (Ent×Addr)} (h:e.isBorn=false):Bk.bornD (l++[(e,a)])=Bk.bornD l:=by
 unfold Bk.bornD;rw[Gs];cases e with
 |born=>cases h
 |_=>exact Q1 _
theorem BkAt.sums {K:W.Frag} {k:Addr} (h:BkAt K C H b dx k bi li ti su B) (l:List (A0×Int)) :
  BkAt K C (_d H su (.dT (l.map λq=>(two q.1,V.int q.2)))) b dx k bi li ti su { B with sums:=l }:=by
 obtain⟨n1,n2,n3,n4,n5,n6⟩:=JZ h.ap;have dk:∀{c:Addr} {z:List (_j×V)},H c=some (.dK z)->c≠su:=λe=>Yd e h.su (λz=>by cases z)
 exact⟨(_l (Yd h.ob h.su (λz=>by cases z))).trans h.ob,h.ap,h.at',(_l n3).trans h.ke,(_l (dk h.bi)).trans h.bi,(_l n5).trans h.li,(_l n6).trans h.ti,_k,
  λp hp=>XB (h.en p hp) h.su (λ_ z=>by cases z) (λ_ _ z=>by cases z),λq hq=>(_l (Yd (h.ll q hq) h.su (λz=>by cases z))).trans (h.ll q hq),λq hq=>(_l (dk (h.tt q hq))).trans (h.tt q hq)⟩
theorem _l2 {l:List (Ent×Addr)} (h:_K (l.map λp=>(p.1.key,V.ref p.2)) (Ent.born n s d f m).key=none):_Q n l=none:=by
 induction l with
 |nil=>rfl
 |cons p r ih =>
  unfold _Q;rw[Qm] at h;by_cases e:p.1.bornName=some n
  ·exfalso
   have ek:p.1.key=(Ent.born n s d f m).key:=by
    cases hp:p.1 with
    |born n' s' d' f' m' =>
     rw[hp] at e;cases(show n'=n from Qt e);rfl
    |_=>rw[hp] at e;cases e
   rw[YL ek] at h;cases h
  ·rw[Qa e];by_cases ek:p.1.key=(Ent.born n s d f m).key
   ·rw[YL ek] at h;cases h
   ·rw[Yq ek] at h;exact ih h
theorem _bF (h:Xf B e=none):_K B.keptD e.told.key=none/\B.kept.length<400/\∀n∈e.named,Known B n:=by
 unfold Xf at h;by_cases f:B.full e=true
 ·rw[Qb f] at h;cases h
 rw[Qa f] at h;by_cases p:(e.named.all λn=>(_Q n B.kept).isSome)=false
 ·rw[Qb p] at h;cases h
 rw[Qa p] at h;by_cases t:(_K B.keptD e.told.key).isSome=true
 ·rw[Qb t] at h;cases h
 refine⟨by simpa using t,?_,λn hn=>?_⟩
 ·unfold Bk.full at f;simp only[GU,Gz,not_or] at f;lia
 ·have:=p;rw[Bool.not_eq_false] at this;rw[RU] at this;have:=this n hn;unfold Known;exact My.mp this
theorem J7 (e:Ent) (n:Str):n∈e.told.named->n∈e.named:=by
 cases e with
 |union a b d =>
  show n∈[(_h a b).1,(_h a b).2]->n∈[a,b];unfold _h;split<;>simp<;>(intro h;rcases h with h|h<;>simp[h])
 |parted a b d =>
  show n∈[(_h a b).1,(_h a b).2]->n∈[a,b];unfold _h;split<;>simp<;>(intro h;rcases h with h|h<;>simp[h])
 |_=>exact id
theorem _bE (n:Str):∀(l m:List (Ent×Addr)),_Q n (l++m)=(_Q n l).or (_Q n m)
 |[],m=>by simp[_Q]
 |p::r,m=>by
  show(if p.1.bornName=some n then some p else _Q n (r++m))=(if p.1.bornName=some n then some p else _Q n r).or (_Q n m);by_cases e:p.1.bornName=some n
  ·rw[Qb e,Qb e];rfl
  ·rw[Qa e,Qa e];exact _bE n r m
theorem Known.more {l:List (Ent×Addr)} (h:Known B n) (e:B'.kept=B.kept++l):Known B' n:=by
 unfold Known at *;rw[e,_bE];cases hb:_Q n B.kept with
 |none=>exact absurd hb h
 |some p=>simp
noncomputable def VF (c:Int):Nat->Int
 |0=>c.fdiv 3
 |j+1=>(VF c j).fdiv 26
noncomputable def Wi (at' be:Int) (c k j:Int):Int:=if j=be then c.fdiv 17+k.fdiv 26 else if j=at' then c.fdiv 11+k else VF c j.toNat+j*j*5
noncomputable def Xg (i:Int):Nat:=(97+i.fmod 26).toNat
noncomputable def YA (at' be:Int) (c k:Int) (n:Nat):List Nat:=(List.range n).map λj:Nat=>Xg (Wi at' be c k (j:Int))
theorem _ol (at' be c k:Int) (n:Nat):YA at' be c k (n+1)=YA at' be c k n++[Xg (Wi at' be c k n)]:=by
 unfold YA;rw[List.range_succ,Qu];rfl
theorem _cR (at' be c k:Int) (n:Nat):(YA at' be c k n).length=n:=by
 unfold YA;rw[Qd,Mf]
theorem _lC (i:Int):X0 (Xg i)=true:=by
 have h0:=QP i (show(0:Int)<26 by decide);have h1:=QY i (show(0:Int)<26 by decide);obtain⟨m,hm,hl⟩:∃m:Nat,i.fmod 26=(m:Int)/\m<26:=⟨(i.fmod 26).toNat,by lia,by lia⟩;have e:Xg i=97+m:=by unfold Xg;rw[hm];lia
 rw[e];have go:∀m:Fin 26,X0 (97+m.val)=true:=by ext
 exact go ⟨m,hl⟩
theorem _h1 {at' be c k:Int} {n:Nat} (h1:1<=n) (h8:n<=8):Nm ⟨(YA at' be c k n).toArray⟩:=by
 have hl:(⟨(YA at' be c k n).toArray⟩:Str).length=n:=by
  show(YA at' be c k n).toArray.size=n;rw[Qx,_cR]
 refine⟨by lia,by lia,?_⟩;show((YA at' be c k n).toArray.toList).all X0=true;rw[RU];intro x hx;have hx':x∈YA at' be c k n:=by simpa using hx
 unfold YA at hx';obtain⟨j,_,rfl⟩:=Qj.mp hx';exact _lC _
theorem _cB {i j:Int} (h:Xg i=Xg j):i.fmod 26=j.fmod 26:=by
 have h0:=QP i (show(0:Int)<26 by decide);have h1:=QP j (show(0:Int)<26 by decide);unfold Xg at h;lia
theorem _gJ (a b:Int) (h:a.fmod 26=b.fmod 26):∃q,a-b=26*q:=by
 have e1:=Mg a 26;have e2:=Mg b 26;refine⟨a.fdiv 26-b.fdiv 26,?_⟩;rw[Int.mul_sub];lia
theorem _jj {at' be c:Int} {k k':Nat} {n n':Nat} (hk:k<60) (hk':k'<60) (ha:0<=at'/\at'<n/\at'<n') (hb:0<=be/\be<n/\be<n') (ne:at'≠be)
 (h:(⟨(YA at' be c k n).toArray⟩:Str)=⟨(YA at' be c k' n').toArray⟩):k=k':=by
 have e:YA at' be c k n=YA at' be c k' n':=by
  have:=QI (λz:Str=>z.cps.toList) h;simpa using this
 have at_:∀j:Int,0<=j->j<n->j<n'->Xg (Wi at' be c k j)=Xg (Wi at' be c k' j):=λj j0 j1 j2=>by
  obtain⟨m,rfl⟩:∃m:Nat,j=(m:Int):=⟨j.toNat,by lia⟩
  have g1:(YA at' be c k n)[m]?=some (Xg (Wi at' be c k m)):=by
   unfold YA;rw[Qv,List.getElem?_range (by lia)];rfl
  have g2:(YA at' be c k' n')[m]?=some (Xg (Wi at' be c k' m)):=by
   unfold YA;rw[Qv,List.getElem?_range (by lia)];rfl
  rw[e,g2] at g1;exact(Qt g1).symm
 have a:=_cB (at_ at' ha.1 ha.2.1 ha.2.2);have b:=_cB (at_ be hb.1 hb.2.1 hb.2.2);unfold Wi at a b;rw[Qa ne,Qb rfl,Qa ne,Qb rfl] at a;rw[Qb rfl,Qb rfl] at b;obtain⟨q1,h1⟩:=_gJ _ _ a;obtain⟨q2,h2⟩:=_gJ _ _ b;have d1:((k:Int)).fdiv 26=((k/26:Nat):Int):=by rw[Mz _ (by decide)];rfl
 have d2:((k':Int)).fdiv 26=((k'/26:Nat):Int):=by rw[Mz _ (by decide)];rfl
 rw[d1,d2] at h2;have z1:k/26<=2:=by lia
 have z2:k'/26<=2:=by lia
 lia
theorem _n4 {ns:C5} {k:Nat} (h:k<ns.length):(ns.map V.int)[k]?=some (V.int (ns.getD k 0)):=by
 simp[List.getD,Qp h,h]
theorem _bW {α β:Type} {f:α->β}:∀{l:List α},(∀a∈l,∀b∈l,f a=f b->a=b)->l.Nodup->(l.map f).Nodup
 |[],_,_=>List.nodup_nil
 |a::l,h,n=>by
  rw[Rb] at n;rw[Qm,Rb];refine⟨λm=>?_,_bW (λx hx y hy=>h x (QB _ hx) y (QB _ hy)) n.2⟩;obtain⟨b,hb,e⟩:=Qj.mp m;have:=h b (QB _ hb) a (Qy ..) e;rw[this] at hb;exact n.1 hb
theorem _iX (i:Int):YC Jd.cps.toList (i.fmod 26)=some (Xg i):=by
 have h0:=QP i (show(0:Int)<26 by decide);have h1:=QY i (show(0:Int)<26 by decide);obtain⟨m,hm,hl⟩:∃m:Nat,i.fmod 26=(m:Int)/\m<26:=⟨(i.fmod 26).toNat,by lia,by lia⟩;have e:Xg i=97+m:=by unfold Xg;rw[hm];lia
 rw[e,hm];have go:∀m:Fin 26,Jd.cps.toList[m.val]?=some (97+m.val):=by ext
 exact X2 (go ⟨m,hl⟩)
theorem _js (l:List Nat) (c:Nat):(⟨l.toArray⟩:Str)++⟨#[c]⟩=⟨(l++[c]).toArray⟩:=by
 show(⟨l.toArray++#[c]⟩:Str)=_;rw[show l.toArray++#[c]=(l++[c]).toArray by simp]
theorem _mB (l:List Nat):(⟨l.toArray⟩:Str).length=l.length:=by
 show l.toArray.size=_;rw[Qx]
theorem _au {H1:Hp} (e:Same H H1) (n:H a=none):Same H (_d H1 a o):=λb u q=>by
 rw[_l (_P q n)];exact e b u q
inductive BOk:List Ent->Prop
 |nil:BOk []
 |snoc {bs : List Ent} {n s f m : Str} {d : Int} (h : BOk bs) (hn : Nm n) (nw : ∀e ∈ bs, e.bornName ≠ some n) (hs : s="he" \/ s="she" \/ s="")
   (lo:4*10 ^ 16*(bs.length:Int)-9*10 ^ 17<=d) (hi:d<=4*10 ^ 16*(bs.length:Int)-9*10 ^ 17+3*10 ^ 16+6)
   (hf:f=""\/∃d' f' m',Ent.born f "he" d' f' m'∈bs) (hm:m=""\/∃d' f' m',Ent.born m "she" d' f' m'∈bs):BOk (bs++[.born n s d f m])
theorem _ng (ns:C5) (a b:Nat):∃cs:C5,Ym (ns.map V.int) (some (a:Int)) (some (b:Int))=cs.map V.int/\cs.length=min b ns.length-min a ns.length:=by
 refine⟨(ns.drop (min a ns.length)).take (min b ns.length-min a ns.length),?_,?_⟩
 ·unfold Ym;rw[Na,Mh,Qd,HT.sIx_nat,HT.sIx_nat]
 ·rw[QU,Ri];lia
noncomputable def _v (bs:List (Ent×Addr)):List V:=bs.map λp=>V.ref p.2
def RowsAt (K:W.Frag) (H:Hp) (bs:List (Ent×Addr)):Prop:=∀p∈bs,SqT K H p.2 (p.1.row.map kV)
theorem RowsAt.mono {K:W.Frag} {bs:List (Ent×Addr)} (h:RowsAt K H bs) (s:Same H H'):RowsAt K H' bs:=λp hp=>s.sqt (h p hp)
theorem RowsAt.put {K:W.Frag} {bs:List (Ent×Addr)} (h:RowsAt K H bs) (e:H c=some (.lst xs)):RowsAt K (_d H c o') bs:=λp hp=>XB (h p hp) e (λ_ z=>by cases z) (λ_ _ z=>by cases z)
theorem _eH {cs:C5} {y:V} (h:(cs.map V.int)[i]?=some y):∃z,y=.int z/\cs[i]?=some z:=by
 rw[Qv] at h;obtain⟨z,hz,e⟩:=Q8.mp h;exact⟨z,e.symm,hz⟩
theorem _dr (x:Int) {xs:A9} (h:xs≠[]):∃z∈xs,YC (xs.map V.str) (x.fmod ((xs.map V.str).length:Nat))=some (.str z):=by
 have hl:0<xs.length:=RF.mpr h;rw[Qd];have h0:=QP x (show(0:Int)<(xs.length:Nat) by lia);have h1:=QY x (show(0:Int)<(xs.length:Nat) by lia);have hi:(x.fmod (xs.length:Nat)).toNat<xs.length:=by lia
 refine⟨xs[(x.fmod (xs.length:Nat)).toNat],GX _,_aG h0 ?_⟩;rw[Qv,Qp hi];rfl
theorem _hb (x:Int):∃s:Str,YC [V.str "he",.str "she",.str ""] (x.fmod 3)=some (.str s)/\(s="he"\/s="she"\/s=""):=by
 have h0:=QP x (show(0:Int)<3 by decide);have h1:=QY x (show(0:Int)<3 by decide);have:x.fmod 3=0\/x.fmod 3=1\/x.fmod 3=2:=by lia
 rcases this with e|e|e<;>rw[e]
 ·exact⟨"he",X2 (j:=0) rfl,.inl rfl⟩
 ·exact⟨"she",X2 (j:=1) rfl,.inr (.inl rfl)⟩
 ·exact⟨"",X2 (j:=2) rfl,.inr (.inr rfl)⟩
theorem BOk.at {bs:List Ent} (h:BOk bs):∀{i:Nat} {e:Ent},bs[i]?=some e->∃n s d f m,e=.born n s d f m/\Nm n/\(s="he"\/s="she"\/s="")/\4*10 ^ 16*(i:Int)-9*10 ^ 17<=d/\d<=4*10 ^ 16*(i:Int)-9*10 ^ 17+3*10 ^ 16+6:=by
 induction h with
 |nil=>intro i e h;simp at h
 |@snoc bs n s f m d hb hn nw hs lo hi hf hm ih =>
  intro i e h;by_cases il:i<bs.length
  ·rw[Gi il] at h;exact ih h
  ·have il2:=(QK.mp h).1;rw[Qq] at il2;have ei:i=bs.length:=by simp at il2;lia
   subst ei;rw[RP (Qg _),G2] at h;cases(Qt h:Ent.born n s d f m=e);exact⟨n,s,d,f,m,rfl,hn,hs,lo,hi⟩
theorem BOk.names {bs:List Ent} (h:BOk bs):∀{n s d f m s' d' f' m'},Ent.born n s d f m∈bs->Ent.born n s' d' f' m'∈bs->Ent.born n s d f m=.born n s' d' f' m':=by
 induction h with
 |nil=>intro _ _ _ _ _ _ _ _ _ h;cases h
 |@snoc bs n s f m d hb hn nw hs lo hi hf hm ih =>
  intro n1 s1 d1 f1 m1 s2 d2 f2 m2 h1 h2;rcases Qn.mp h1 with h1|h1<;>rcases Qn.mp h2 with h2|h2
  ·exact ih h1 h2
  ·have e:Ent.born n1 s2 d2 f2 m2=.born n s d f m:=by simpa using h2
   injection e with e1;exact absurd (show Ent.bornName (.born n1 s1 d1 f1 m1)=some n by rw[<-e1];rfl) (nw _ h1)
  ·have e:Ent.born n1 s1 d1 f1 m1=.born n s d f m:=by simpa using h1
   injection e with e1;exact absurd (show Ent.bornName (.born n1 s2 d2 f2 m2)=some n by rw[<-e1];rfl) (nw _ h2)
  ·have e:Ent.born n1 s1 d1 f1 m1=.born n s d f m:=by simpa using h1
   have e':Ent.born n1 s2 d2 f2 m2=.born n s d f m:=by simpa using h2
   rw[e,e']
theorem BOk.days {bs:List Ent} (h:BOk bs) {s' f' m':Str} {d':Int} (h1:Ent.born n s d f m∈bs) (h2:Ent.born n' s' d' f' m'∈bs) (ne:n≠n'):d≠d':=by
 obtain⟨i,hi,e1⟩:=RV h1;obtain⟨j,hj,e2⟩:=RV h2;obtain⟨_,_,_,_,_,ee1,_,_,l1,u1⟩:=h.at (Qp hi);obtain⟨_,_,_,_,_,ee2,_,_,l2,u2⟩:=h.at (Qp hj);rw[e1] at ee1;rw[e2] at ee2;cases ee1;cases ee2
 have ij:i≠j:=λe=>by
  subst e;rw[e1] at e2;injection e2 with e3;exact ne e3
 lia
theorem BOk.nm {bs:List Ent} (h:BOk bs) (h1:Ent.born n s d f m∈bs):Nm n/\(s="he"\/s="she"\/s="")/\-9*10 ^ 17<=d/\d<=4*10 ^ 16*(bs.length:Int)-9*10 ^ 17:=by
 obtain⟨i,hi,e1⟩:=RV h1;obtain⟨_,_,_,_,_,ee1,hn,hs,l1,u1⟩:=h.at (Qp hi);rw[e1] at ee1;cases ee1;exact⟨hn,hs,by lia,by lia⟩
inductive Deed (bs:List Ent):Ent->Prop
 |dead {n s f m:Str} {d x:Int} (h:Ent.born n s d f m∈bs) (lo:8*10 ^ 17<=x) (hi:x<=8*10 ^ 17+3):Deed bs (.dead n x)
 |taken {c s f m t s' f' m':Str} {d d' x:Int} (h:Ent.born c s d f m∈bs) (h':Ent.born t s' d' f' m'∈bs) (lt:d'<d) (lo:8*10 ^ 17<=x) (hi:x<=8*10 ^ 17+3):Deed bs (.taken c t x)
 |union {c s f m t s' f' m':Str} {d d' x:Int} (h:Ent.born c s d f m∈bs) (h':Ent.born t s' d' f' m'∈bs) (ne:c≠t) (lo:8*10 ^ 17<=x) (hi:x<=8*10 ^ 17+3):Deed bs (.union c t x)
 |parted {c s f m t s' f' m':Str} {d d' x:Int} (h:Ent.born c s d f m∈bs) (h':Ent.born t s' d' f' m'∈bs) (ne:c≠t) (lo:8*10 ^ 17<=x) (hi:x<=8*10 ^ 17+3):Deed bs (.parted c t x)
 |given {c s f m t s' f' m':Str} {d d' x am:Int} (h:Ent.born c s d f m∈bs) (h':Ent.born t s' d' f' m'∈bs) (ne:c≠t) (a1:1<=am) (a2:am<=10 ^ 18) (lo:8*10 ^ 17<=x) (hi:x<=8*10 ^ 17+3):Deed bs (.given c t am x)
theorem Deed.notBorn {bs:List Ent} (h:Deed bs e):e.isBorn=false:=by cases h<;>rfl
structure DOk (bs ds:List Ent):Prop where
 each:∀e∈ds,Deed bs e
 keys:(ds.map λe=>e.told.key).Nodup
theorem JI (h1:-10 ^ 18<=d) (h2:d<=10 ^ 18):_aH (.int d)=true:=by
 show decide ((if d<0 then -d else d)<=10 ^ 18)=true;exact Ql (by split<;>lia)
theorem _cG (h:x=""\/Nm x):UF (.str x)=true:=by
 rcases h with h|h
 ·subst h;ext
 ·unfold UF;rw[h.ok];rfl
theorem _jK (h:s="he"\/s="she"\/s=""):Uf (.str s)=true:=by
 rcases h with h|h|h<;>subst h<;>ext
theorem W6 (h:Nm x):x.length<=100:=Qs h.hi (by decide)
theorem _jP (hn:Nm n) (hs:s="he"\/s="she"\/s="") (d1:-10 ^ 18<=d) (d2:d<=10 ^ 18) (hf:f=""\/Nm f) (hm:m=""\/Nm m):(Ent.born n s d f m).Ok:=by
 refine⟨?_,λx hx=>?_⟩
 ·show WO [.str "born",.str n,.str s,.int d,.str f,.str m]=true;rw[Ui,show Wj "born"=some [.name,.sort,.day,.parent,.parent] by rfl];show Xy _ _=true;unfold Xy _R;simp[_R,Vy,hn.ok,_jK hs,JI d1 d2,_cG hf,_cG hm]
 ·have hf':f.length<=100:=hf.elim (λh=>by subst h;ext) W6;have hm':m.length<=100:=hm.elim (λh=>by subst h;ext) W6;have hs':s.length<=100:=by rcases hs with h|h|h<;>subst h<;>ext
  simp only[Ent.row,Qk,Q2,QW] at hx;rcases hx with h|h|h|h|h|h
  ·cases h;ext
  ·cases h;exact W6 hn
  ·cases h;exact hs'
  ·cases h
  ·cases h;exact hf'
  ·cases h;exact hm'
theorem _aR {w a b:Str} (hw:w="taken"\/w="union"\/w="parted") (ha:Nm a) (hb:Nm b) (d1:-10 ^ 18<=d) (d2:d<=10 ^ 18):WO [.str w,.str a,.str b,.int d]=true:=by
 rw[Ui];have:Wj w=some [.name,.name,.day]:=by rcases hw with h|h|h<;>subst h<;>rfl
 rw[this];show Xy _ _=true;unfold Xy;simp[_R,Vy,ha.ok,hb.ok,JI d1 d2]
theorem _be {w a b:Str} (hw:w.length<=100) (ha:Nm a) (hb:Nm b):∀x:Str,(.inr x:_j)∈([.inr w,.inr a,.inr b,.inl d]:List _j)->x.length<=100:=λx hx=>by
 simp only[Qk,Q2,QW] at hx;rcases hx with h|h|h|h
 ·cases h;exact hw
 ·cases h;exact W6 ha
 ·cases h;exact W6 hb
 ·cases h
theorem Deed.ok {bs:List Ent} (hb:BOk bs) (h:Deed bs e):e.Ok:=by
 cases h with
 |@dead n s f m d x h lo hi =>
  have hn:=(hb.nm h).1;refine⟨?_,λy hy=>?_⟩
  ·show WO [.str "dead",.str n,.int x]=true;rw[Ui,show Wj "dead"=some [.name,.day] by rfl];show Xy _ _=true;unfold Xy;simp[_R,Vy,hn.ok,JI (show -10 ^ 18<=x by lia) (by lia)]
  ·simp only[Ent.row,Qk,Q2,QW] at hy;rcases hy with h|h|h
   ·cases h;ext
   ·cases h;exact W6 hn
   ·cases h
 |taken h h' lt lo hi=>exact⟨_aR (.inl rfl) (hb.nm h).1 (hb.nm h').1 (by lia) (by lia),_be (by ext) (hb.nm h).1 (hb.nm h').1⟩
 |union h h' lt lo hi=>exact⟨_aR (.inr (.inl rfl)) (hb.nm h).1 (hb.nm h').1 (by lia) (by lia),_be (by ext) (hb.nm h).1 (hb.nm h').1⟩
 |parted h h' lt lo hi=>exact⟨_aR (.inr (.inr rfl)) (hb.nm h).1 (hb.nm h').1 (by lia) (by lia),_be (by ext) (hb.nm h).1 (hb.nm h').1⟩
 |@given c s f m t s' f' m' d d' x am h h' ne a1 a2 lo hi =>
  have h1:=(hb.nm h).1;have h2:=(hb.nm h').1;refine⟨?_,λy hy=>?_⟩
  ·show WO [.str "given",.str c,.str t,.int am,.int x]=true;rw[Ui,show Wj "given"=some [.name,.name,.amount,.day] by rfl];show Xy _ _=true;unfold Xy
   have am':JP (.int am)=true:=by
    show(decide (1<=am)&&decide (am<=10 ^ 18))=true;rw[Ql a1,Ql a2];rfl
   simp[_R,Vy,h1.ok,h2.ok,am',JI (show -10 ^ 18<=x by lia) (by lia)]
  ·simp only[Ent.row,Qk,Q2,QW] at hy;rcases hy with h|h|h|h|h
   ·cases h;ext
   ·cases h;exact W6 h1
   ·cases h;exact W6 h2
   ·cases h
   ·cases h
theorem _gq {n s f m:Str} {d:Int}:∀{l:List (Ent×Addr)},Ent.born n s d f m∈l.map (·.1)->(∀{s' d' f' m'},Ent.born n s' d' f' m'∈l.map (·.1)->Ent.born n s' d' f' m'=.born n s d f m)->∃a,_Q n l=some (.born n s d f m,a)
 |[],h,_=>by cases h
 |p::r,h,u=>by
  unfold _Q;by_cases e:p.1.bornName=some n
  ·rw[Qb e];cases hp:p.1 with
   |born n' s' d' f' m' =>
    rw[hp] at e;cases(show n'=n from Qt e);have:=u (s':=s') (d':=d') (f':=f') (m':=m') (by rw[Qm,hp];exact Qy ..);refine⟨p.2,?_⟩;rw[<-this,<-hp]
   |_=>rw[hp] at e;cases e
  ·rw[Qa e]
   have h':Ent.born n s d f m∈r.map (·.1):=by
    rw[Qm] at h;rcases Qk.mp h with h|h
    ·exfalso;rw[<-h] at e;exact e rfl
    ·exact h
   exact _gq h' λhm=>u (by rw[Qm];exact QB _ hm)
abbrev Xc:=A0->A9
abbrev XQ:=A0->A6
noncomputable def Ue (p:Xc×XQ) (e:Ent):Xc×XQ:=(WD p.1 p.2 e,VL p.2 e)
noncomputable def Yg (es:List Ent):Xc×XQ:=es.foldl Ue (λ_=>[],λ_=>[])
theorem JG (es:List Ent) (e:Ent):Yg (es++[e])=Ue (Yg es) e:=by
 unfold Yg;rw[List.foldl_append];rfl
noncomputable def _aC (n:Str):Ent->A9
 |.born n' _ _ f _=>if n'=n/\f≠"" then[f] else[]
 |_=>[]
noncomputable def Jy (n:Str):Ent->A9
 |.born n' _ _ _ m=>if n'=n/\m≠"" then[m] else[]
 |_=>[]
noncomputable def VP (n:Str):Ent->A9
 |.born n' _ _ f _=>if f=n/\f≠"" then[n'] else[]
 |_=>[]
noncomputable def JW (n:Str):Ent->A9
 |.born n' _ _ _ m=>if m=n/\m≠"" then[n'] else[]
 |_=>[]
noncomputable def VT (n:Str):Ent->A9
 |.taken c t _=>if c=n then[t] else[]
 |_=>[]
noncomputable def J0 (n:Str):Ent->A9
 |.taken c t _=>if t=n then[c] else[]
 |_=>[]
theorem _fM {l:A9} (h:l.Pairwise λa b=>Yz a b=true):_B l=l:=Vd (Y6 l) (Wc l) h
theorem _nA (l m:A9):_B (_B l++m)=_B (l++m) :=
 Vd ((Y6 _).trans (((Y6 l).append_right m).trans (Y6 _).symm)) (Wc _) (Wc _)
theorem YJ (F:Xc) (l n l' n' m:Str):_1 F (l,n) m (l',n')=if l'=l/\n'=n then _B (F (l,n)++[m]) else F (l',n'):=by
 unfold _1;by_cases h:l'=l/\n'=n
 ·obtain⟨rfl,rfl⟩:=h;rw[Qb rfl,Qb ⟨rfl,rfl⟩]
 ·rw[Qa (λe=>h (by injection e with a b;exact⟨a,b⟩)),Qa h]
theorem Ye (F:Xc) (st:Bool) (x y l n:Str) (h:l≠"S"):_T F st x y (l,n)=F (l,n):=by
 unfold _T;rw[Qa (λe=>h (by injection e))]
structure Adds (l:Str) (ad:Str->Ent->A9):Prop where
 step:∀(F:Xc) (G:XQ) (e:Ent) (n:Str),(F (l,n)).Pairwise (λa b=>Yz a b=true)->WD F G e (l,n)=_B (F (l,n)++ad n e)
theorem _0 {l:A9} (h:l.Pairwise λa b=>Yz a b=true):l=_B (l++[]):=by rw[Q1,_fM h]
theorem Ja (F:Xc) (n f m l x:Str):Xl F n f m (l,x) =
  if l="F"/\x=n/\f≠"" then _B (F ("F",n)++[f]) else if l="f"/\x=f/\f≠"" then _B (F ("f",f)++[n]) else
  if l="M"/\x=n/\m≠"" then _B (F ("M",n)++[m]) else if l="m"/\x=m/\m≠"" then _B (F ("m",m)++[n]) else F (l,x):=by
 have d1:("F" : Str)≠"f":=by ext
 have d2:("F" : Str)≠"M":=by ext
 have d3:("F" : Str)≠"m":=by ext
 have d4:("f" : Str)≠"M":=by ext
 have d5:("f" : Str)≠"m":=by ext
 have d6:("M" : Str)≠"m":=by ext
 unfold Xl;by_cases f0:f=""<;>by_cases m0:m=""<;>simp only[f0,m0,RQ,Ru,YJ,ne_eq,not_true_eq_false,not_false_eq_true,and_false,and_true]
 ·by_cases h1:l="m"/\x=m
  ·obtain⟨rfl,rfl⟩:=h1;simp[d3.symm,d5.symm,d6.symm,d6]
  ·by_cases h2:l="M"/\x=n
   ·obtain⟨rfl,rfl⟩:=h2;simp[d6]
   ·simp[h1,h2]
 ·by_cases h1:l="f"/\x=f
  ·obtain⟨rfl,rfl⟩:=h1;simp[d1,d1.symm]
  ·by_cases h2:l="F"/\x=n
   ·obtain⟨rfl,rfl⟩:=h2;simp[d1]
   ·simp[h1,h2]
 ·by_cases h1:l="m"/\x=m
  ·obtain⟨rfl,rfl⟩:=h1;simp[d3.symm,d5.symm,d6.symm,d6,d3,d5]
  ·by_cases h2:l="M"/\x=n
   ·obtain⟨rfl,rfl⟩:=h2;simp[d6,d2,d4,d2.symm,d4.symm]
   ·by_cases h3:l="f"/\x=f
    ·obtain⟨rfl,rfl⟩:=h3;simp[d1,d1.symm,d4,d5]
    ·by_cases h4:l="F"/\x=n
     ·obtain⟨rfl,rfl⟩:=h4;simp[d1,d2,d3]
     ·simp[h1,h2,h3,h4]
theorem _ap:Adds "F" _aC:=⟨λF G e n s=>by
 cases e with
 |born n' s' d f m =>
  show Xl F n' f m ("F",n)=_;rw[Ja];dsimp only[_aC];by_cases h:n'=n/\f≠""
  ·rw[Qb h,Qb ⟨rfl,h.1.symm,h.2⟩,h.1]
  ·rw[Qa h,Qa (λz=>h ⟨z.2.1.symm,z.2.2⟩),Qa (λz=>absurd z.1 (by ext)),Qa (λz=>absurd z.1 (by ext)),Qa (λz=>absurd z.1 (by ext))];exact _0 s
 |taken c t d=>show _1 (_1 F ("T",c) t) ("t",t) c ("F",n)=_;rw[YJ,Qa (λz=>absurd z.1 (by ext)),YJ,Qa (λz=>absurd z.1 (by ext))];exact _0 s
 |union a b d=>show _T _ _ _ _ _=_;rw[Ye _ _ _ _ _ _ (by ext),Ye _ _ _ _ _ _ (by ext)];exact _0 s
 |parted a b d=>show _T _ _ _ _ _=_;rw[Ye _ _ _ _ _ _ (by ext),Ye _ _ _ _ _ _ (by ext)];exact _0 s
 |dead a d=>exact _0 s
 |given a b am d=>exact _0 s⟩
theorem JM:Adds "M" Jy:=⟨λF G e n s=>by
 cases e with
 |born n' s' d f m =>
  show Xl F n' f m ("M",n)=_;rw[Ja,Qa (λz=>absurd z.1 (by ext)),Qa (λz=>absurd z.1 (by ext))];dsimp only[Jy];by_cases h:n'=n/\m≠""
  ·rw[Qb h,Qb ⟨rfl,h.1.symm,h.2⟩,h.1]
  ·rw[Qa h,Qa (λz=>h ⟨z.2.1.symm,z.2.2⟩),Qa (λz=>absurd z.1 (by ext))];exact _0 s
 |taken c t d=>show _1 (_1 F ("T",c) t) ("t",t) c ("M",n)=_;rw[YJ,Qa (λz=>absurd z.1 (by ext)),YJ,Qa (λz=>absurd z.1 (by ext))];exact _0 s
 |union a b d=>show _T _ _ _ _ _=_;rw[Ye _ _ _ _ _ _ (by ext),Ye _ _ _ _ _ _ (by ext)];exact _0 s
 |parted a b d=>show _T _ _ _ _ _=_;rw[Ye _ _ _ _ _ _ (by ext),Ye _ _ _ _ _ _ (by ext)];exact _0 s
 |dead a d=>exact _0 s
 |given a b am d=>exact _0 s⟩
theorem Jm:Adds "f" VP:=⟨λF G e n s=>by
 cases e with
 |born n' s' d f m =>
  show Xl F n' f m ("f",n)=_;rw[Ja,Qa (λz=>absurd z.1 (by ext))];dsimp only[VP];by_cases h:f=n/\f≠""
  ·rw[Qb h,Qb ⟨rfl,h.1.symm,h.2⟩,h.1]
  ·rw[Qa h,Qa (λz=>h ⟨z.2.1.symm,z.2.2⟩),Qa (λz=>absurd z.1 (by ext)),Qa (λz=>absurd z.1 (by ext))];exact _0 s
 |taken c t d=>show _1 (_1 F ("T",c) t) ("t",t) c ("f",n)=_;rw[YJ,Qa (λz=>absurd z.1 (by ext)),YJ,Qa (λz=>absurd z.1 (by ext))];exact _0 s
 |union a b d=>show _T _ _ _ _ _=_;rw[Ye _ _ _ _ _ _ (by ext),Ye _ _ _ _ _ _ (by ext)];exact _0 s
 |parted a b d=>show _T _ _ _ _ _=_;rw[Ye _ _ _ _ _ _ (by ext),Ye _ _ _ _ _ _ (by ext)];exact _0 s
 |dead a d=>exact _0 s
 |given a b am d=>exact _0 s⟩
theorem JS:Adds "m" JW:=⟨λF G e n s=>by
 cases e with
 |born n' s' d f m =>
  show Xl F n' f m ("m",n)=_;rw[Ja,Qa (λz=>absurd z.1 (by ext)),Qa (λz=>absurd z.1 (by ext)),Qa (λz=>absurd z.1 (by ext))];dsimp only[JW];by_cases h:m=n/\m≠""
  ·rw[Qb h,Qb ⟨rfl,h.1.symm,h.2⟩,h.1]
  ·rw[Qa h,Qa (λz=>h ⟨z.2.1.symm,z.2.2⟩)];exact _0 s
 |taken c t d=>show _1 (_1 F ("T",c) t) ("t",t) c ("m",n)=_;rw[YJ,Qa (λz=>absurd z.1 (by ext)),YJ,Qa (λz=>absurd z.1 (by ext))];exact _0 s
 |union a b d=>show _T _ _ _ _ _=_;rw[Ye _ _ _ _ _ _ (by ext),Ye _ _ _ _ _ _ (by ext)];exact _0 s
 |parted a b d=>show _T _ _ _ _ _=_;rw[Ye _ _ _ _ _ _ (by ext),Ye _ _ _ _ _ _ (by ext)];exact _0 s
 |dead a d=>exact _0 s
 |given a b am d=>exact _0 s⟩
theorem UM (F:Xc) (n f m l x:Str) (h1:l≠"F") (h2:l≠"f") (h3:l≠"M") (h4:l≠"m"):Xl F n f m (l,x)=F (l,x):=by
 rw[Ja,Qa (λz=>h1 z.1),Qa (λz=>h2 z.1),Qa (λz=>h3 z.1),Qa (λz=>h4 z.1)]
theorem Ul:Adds "T" VT:=⟨λF G e n s=>by
 cases e with
 |born n' s' d f m=>show Xl F n' f m ("T",n)=_;rw[UM _ _ _ _ _ _ (by ext) (by ext) (by ext) (by ext)];exact _0 s
 |taken c t d =>
  show _1 (_1 F ("T",c) t) ("t",t) c ("T",n)=_;rw[YJ,Qa (λz=>absurd z.1 (by ext)),YJ];dsimp only[VT];by_cases h:c=n
  ·rw[Qb h,Qb ⟨rfl,h.symm⟩,h]
  ·rw[Qa h,Qa (λz=>h z.2.symm)];exact _0 s
 |union a b d=>show _T _ _ _ _ _=_;rw[Ye _ _ _ _ _ _ (by ext),Ye _ _ _ _ _ _ (by ext)];exact _0 s
 |parted a b d=>show _T _ _ _ _ _=_;rw[Ye _ _ _ _ _ _ (by ext),Ye _ _ _ _ _ _ (by ext)];exact _0 s
 |dead a d=>exact _0 s
 |given a b am d=>exact _0 s⟩
theorem JY:Adds "t" J0:=⟨λF G e n s=>by
 cases e with
 |born n' s' d f m=>show Xl F n' f m ("t",n)=_;rw[UM _ _ _ _ _ _ (by ext) (by ext) (by ext) (by ext)];exact _0 s
 |taken c t d =>
  show _1 (_1 F ("T",c) t) ("t",t) c ("t",n)=_;rw[YJ];dsimp only[J0];by_cases h:t=n
  ·rw[Qb h,Qb ⟨rfl,h.symm⟩,YJ,Qa (λz=>absurd z.1 (by ext)),h]
  ·rw[Qa h,Qa (λz=>h z.2.symm),YJ,Qa (λz=>absurd z.1 (by ext))];exact _0 s
 |union a b d=>show _T _ _ _ _ _=_;rw[Ye _ _ _ _ _ _ (by ext),Ye _ _ _ _ _ _ (by ext)];exact _0 s
 |parted a b d=>show _T _ _ _ _ _=_;rw[Ye _ _ _ _ _ _ (by ext),Ye _ _ _ _ _ _ (by ext)];exact _0 s
 |dead a d=>exact _0 s
 |given a b am d=>exact _0 s⟩
theorem Adds.all {l:Str} {ad:Str->Ent->A9} (A:Adds l ad) (n:Str):∀es:List Ent,(Yg es).1 (l,n)=_B (es.flatMap (ad n)):=by
 intro es
 have go:∀(es:List Ent) (p:Xc×XQ) (xs:A9),p.1 (l,n)=_B xs->(es.foldl Ue p).1 (l,n)=_B (xs++es.flatMap (ad n)):=by
  intro es
  induction es with
  |nil=>intro p xs h;rw[List.flatMap_nil,Q1];exact h
  |cons e es ih =>
   intro p xs h;rw[N2,Nb,<-QH];refine ih _ (xs++ad n e) ?_;show WD p.1 p.2 e (l,n)=_;rw[A.step p.1 p.2 e n (by rw[h];exact Wc _),h,_nA]
 exact go es _ [] (_fM .nil).symm
noncomputable def Ent.pr:Ent->A0
 |.union a b _=>(a,b)
 |.parted a b _=>(a,b)
 |_=>("","")
noncomputable def Ent.kind:Ent->Str
 |.union ..=>"union"
 |.parted ..=>"parted"
 |_=>""
def Y8 (e:Ent):Prop:=e.tie=true->e.pr.1≠e.pr.2
theorem _bP {a b w:Str} (h:_h n w=_h a b):(n=a/\w=b)\/(n=b/\w=a):=by
 unfold _h at h;split at h<;>split at h<;>injection h with h1 h2
 ·exact .inl ⟨h2,h1⟩
 ·exact .inr ⟨h2,h1⟩
 ·exact .inr ⟨h1,h2⟩
 ·exact .inl ⟨h1,h2⟩
noncomputable def We (st:Bool) (L:A9) (y:Str):A9:=if st=true then _B (L.filter (λn=>decide (n≠y))++[y]) else L.filter λn=>decide (n≠y)
theorem _cF {st:Bool} (h:L.Pairwise λa b=>Yz a b=true):(We st L y).Pairwise λa b=>Yz a b=true:=by
 unfold We;split
 ·exact Wc _
 ·exact h.filter _
theorem _d2 {p:Str->Bool} (h:L.Nodup):(L.filter p).Nodup:=List.Pairwise.filter p h
theorem _fG {st:Bool} (h:L.Nodup):(We st L y).Nodup:=by
 unfold We;split
 ·refine(Y6 _).symm.nodup ?_;rw[Rl];refine⟨_d2 h,by simp,λa ha b hb e=>?_⟩;have:b=y:=by simpa using hb
  subst this e;have:=(QL.mp ha).2;simp at this
 ·exact _d2 h
theorem _fE {st:Bool} {w:Str}:w∈We st L y↔(w≠y/\w∈L)\/(w=y/\st=true):=by
 unfold We;by_cases h:st=true
 ·rw[Qb h,(Y6 _).mem_iff,Qn,QL];simp[h,and_comm]
 ·rw[Qa h,QL];simp[h,and_comm]
theorem _bg (F:Xc) (st:Bool) (x y n:Str):_T F st x y ("S",n)=if n=x then We st (F ("S",x)) y else F ("S",n):=by
 unfold _T We;by_cases h:n=x
 ·subst h;rw[Qb rfl,Qb rfl]
 ·rw[Qa (λe=>h (by injection e)),Qa h]
structure SOk (F:Xc) (G:XQ):Prop where
 up:∀n,(F ("S",n)).Pairwise λa b=>Yz a b=true
 nd:∀n,(F ("S",n)).Nodup
 mem:∀n w,w∈F ("S",n)↔Yr (G (_h n w))=true
theorem _fD {F:Xc} {G:XQ} {a b:Str} (ne:a≠b) (h:SOk F G) (l:A6) :
  SOk (_T (_T F (Yr l) a b) (Yr l) b a) (λc=>if c=_h a b then l else G c):=by
 have e:∀n,_T (_T F (Yr l) a b) (Yr l) b a ("S",n)=if n=b then We (Yr l) (F ("S",b)) a else if n=a then We (Yr l) (F ("S",a)) b else F ("S",n):=λn=>by
  rw[_bg];by_cases h1:n=b
  ·rw[Qb h1,Qb h1,_bg,Qa ne.symm]
  ·rw[Qa h1,Qa h1,_bg]
 refine⟨λn=>?_,λn=>?_,λn w=>?_⟩
 ·rw[e];split
  ·exact _cF (h.up _)
  ·split
   ·exact _cF (h.up _)
   ·exact h.up _
 ·rw[e];split
  ·exact _fG (h.nd _)
  ·split
   ·exact _fG (h.nd _)
   ·exact h.nd _
 ·rw[e];show _↔Yr (if _h n w=_h a b then l else G (_h n w))=true;by_cases h1:n=b
  ·subst h1;rw[Qb rfl,_fE];by_cases h2:w=a
   ·subst h2;rw[Qb (UI n w)];simp
   ·rw[Qa (λz=>(_bP z).elim (λe=>ne e.1.symm) λe=>h2 e.2),<-h.mem];simp[h2]
  ·rw[Qa h1];by_cases h3:n=a
   ·subst h3;rw[Qb rfl,_fE];by_cases h2:w=b
    ·subst h2;rw[Qb rfl];simp
    ·rw[Qa (λz=>(_bP z).elim (λe=>h2 e.2) λe=>h1 e.1),<-h.mem];simp[h2]
   ·rw[Qa h3,Qa (λz=>(_bP z).elim (λe=>h3 e.1) λe=>h1 e.1),<-h.mem]
theorem SOk.same {F F':Xc} {G:XQ} (h:SOk F G) (e:∀n,F' ("S",n)=F ("S",n)):SOk F' G:=⟨λn=>by rw[e];exact h.up n,λn=>by rw[e];exact h.nd n,λn w=>by rw[e];exact h.mem n w⟩
theorem _ki {F:Xc} {G:XQ} (ap:Y8 e) (h:SOk F G):SOk (WD F G e) (VL G e):=by
 cases e with
 |union a b d=>exact _fD (ap rfl) h _
 |parted a b d=>exact _fD (ap rfl) h _
 |born n s d f m=>exact h.same λn'=>UM _ _ _ _ _ _ (by ext) (by ext) (by ext) (by ext)
 |taken c t d =>
  refine h.same λn'=>?_;show _1 (_1 F ("T",c) t) ("t",t) c ("S",n')=_;rw[YJ,Qa (λz=>absurd z.1 (by ext)),YJ,Qa (λz=>absurd z.1 (by ext))]
 |dead n d=>exact h.same λn'=>rfl
 |given a b am d=>exact h.same λn'=>rfl
theorem _eS (h:∀e∈es,Y8 e):SOk (Yg es).1 (Yg es).2:=by
 have go:∀(es:List Ent) (p:Xc×XQ),(∀e∈es,Y8 e)->SOk p.1 p.2->SOk (es.foldl Ue p).1 (es.foldl Ue p).2:=by
  intro es
  induction es with
  |nil=>intro p _ h;exact h
  |cons e es ih =>
   intro p ha h;exact ih _ (λx hx=>ha x (QB _ hx)) (_ki (ha e (Qy ..)) h)
 exact go es _ h ⟨λn=>.nil,λn=>.nil,λn w=>by simp[Yr]⟩
noncomputable def tl (c:A0) (es:List Ent):A6:=es.filterMap λe=>if e.tie=true/\_h e.pr.1 e.pr.2=c then some (e.day,e.kind) else none
theorem _fL {k:Str} (h:d∉l.map (·.1)):_r l d k=l++[(d,k)]:=by
 unfold _r;rw[Qa];intro z;rw[Md] at z;obtain⟨q,hq,e⟩:=z;exact h (Qj.mpr ⟨q,hq,Rw e⟩)
theorem _od {G:XQ} (hG:∀c,G c=tl c es) (n:e.tie=true->e.day∉(tl (_h e.pr.1 e.pr.2) es).map (·.1)) (c:A0):VL G e c=tl c (es++[e]):=by
 have ap:tl c (es++[e])=tl c es++tl c [e]:=by unfold tl;rw[Gs]
 rw[ap];cases e with
 |union a b d =>
  show(if c=_h a b then _r (G (_h a b)) d "union" else G c)=_;by_cases h:c=_h a b
  ·subst h;have n':d∉(tl (_h a b) es).map (·.1):=n rfl;rw[Qb rfl,hG,_fL n'];simp[tl,Ent.tie,Ent.pr,Ent.day,Ent.kind]
  ·rw[Qa h,hG];simp[tl,Ent.tie,Ent.pr,QM h]
 |parted a b d =>
  show(if c=_h a b then _r (G (_h a b)) d "parted" else G c)=_;by_cases h:c=_h a b
  ·subst h;have n':d∉(tl (_h a b) es).map (·.1):=n rfl;rw[Qb rfl,hG,_fL n'];simp[tl,Ent.tie,Ent.pr,Ent.day,Ent.kind]
  ·rw[Qa h,hG];simp[tl,Ent.tie,Ent.pr,QM h]
 |_=>rw[show VL G _ c=G c from rfl,hG];simp[tl,Ent.tie]
def Once (es:List Ent):Prop:=∀c,((tl c es).map (·.1)).Nodup
theorem Once.init (h:Once (es++[e])):Once es/\(e.tie=true->e.day∉(tl (_h e.pr.1 e.pr.2) es).map (·.1)):=by
 have ap:∀c,tl c (es++[e])=tl c es++tl c [e]:=λc=>by unfold tl;rw[Gs]
 refine⟨λc=>?_,λt m=>?_⟩
 ·have:=h c;rw[ap,Qu,Rl] at this;exact this.1
 ·have:=h (_h e.pr.1 e.pr.2);rw[ap,Qu,Rl] at this;have e1:tl (_h e.pr.1 e.pr.2) [e]=[(e.day,e.kind)]:=by simp[tl,t]
  rw[e1] at this;exact this.2.2 _ m _ (Qy ..) rfl
theorem Js (h:Once es) (c:A0):(Yg es).2 c=tl c es:=by
 have go:∀n (es:List Ent),es.length=n->Once es->∀c,(Yg es).2 c=tl c es:=by
  intro n
  induction n with
  |zero =>
   intro es hl _ c;rw[NG.mp hl];rfl
  |succ n ih =>
   intro es hl ho c;obtain⟨xs,x,rfl⟩:∃xs x,es=xs++[x]:=⟨es.dropLast,es.getLast (by intro z;rw[z] at hl;cases hl),(MA _).symm⟩;obtain⟨o1,o2⟩:=ho.init;rw[JG];exact _od (ih xs (by rw[Qq] at hl;exact G8 hl) o1) o2 c
 exact go _ es rfl h c
theorem _ik {m:Int} {k:Str}:(l.map (·.1)).Nodup->(m,k)∈l->_E m l=some k:=by
 induction l with
 |nil=>intro _ h;cases h
 |cons q r ih =>
  intro n h;rw[Qm,Rb] at n;unfold _E;rcases Qk.mp h with h|h
  ·rw[Qb (by rw[<-h]),<-h]
  ·rw[Qa (λz=>n.1 (Qj.mpr ⟨(m,k),h,z.symm⟩))];exact ih n.2 h
theorem _lc (e:Ent):e.told.tie=e.tie/\_h e.told.pr.1 e.told.pr.2=_h e.pr.1 e.pr.2/\e.told.day=e.day/\e.told.kind=e.kind:=by
 cases e with
 |union a b d=>exact⟨rfl,_al a b,rfl,rfl⟩
 |parted a b d=>exact⟨rfl,_al a b,rfl,rfl⟩
 |_=>exact⟨rfl,rfl,rfl,rfl⟩
theorem _kj (h:Y8 e):Y8 e.told:=λt=>by
 obtain⟨h1,h2,_,_⟩:=_lc e;rw[h1] at t;have ne:=h t;intro z;apply ne
 have:∀a b:Str,(_h a b).1=(_h a b).2->a=b:=λa b h=>by
  unfold _h at h;split at h
  ·exact h.symm
  ·exact h
 cases e with
 |union a b d=>exact this a b z
 |parted a b d=>exact this a b z
 |_=>cases t
theorem Wm {bs:List Ent} (h:BOk bs) (he:e∈bs):∃n s d f m,e=.born n s d f m:=by
 obtain⟨i,hi,e1⟩:=RV he;obtain⟨n,s,d,f,m,e2,_⟩:=h.at (by rw[Qp hi,e1]);exact⟨n,s,d,f,m,e2⟩
theorem _ce (h:e.isBorn=false):e.told.isBorn=false:=by cases e<;>first|rfl|cases h
theorem _a3 {f:Ent->A9} (h:∀e,(f e).length<=1):∀l:List Ent,(l.flatMap f).length<=l.length
 |[]=>Qg _
 |e::l=>by
  rw[Nb,Qq,QC];have:=_a3 h l;have:=h e;lia
theorem Vr (n:Str) (e:Ent):(_aC n e).length<=1/\(Jy n e).length<=1/\(VP n e).length<=1/\(JW n e).length<=1/\(VT n e).length<=1/\(J0 n e).length<=1:=by
 cases e<;>simp only[_aC,Jy,VP,JW,VT,J0]<;>refine⟨?_,?_,?_,?_,?_,?_⟩<;>(try split)<;>simp
theorem _ah {l:Str} (h:l∉Xr) (n:Str):(Yg es).1 (l,n)=[]:=by
 have hh:l≠"F"/\l≠"M"/\l≠"T"/\l≠"f"/\l≠"m"/\l≠"t"/\l≠"S":=by simpa[Xr] using h
 obtain⟨h1,h2,h3,h4,h5,h6,h7⟩:=hh
 have go:∀(es:List Ent) (p:Xc×XQ),p.1 (l,n)=[]->(es.foldl Ue p).1 (l,n)=[]:=by
  intro es
  induction es with
  |nil=>intro p h;exact h
  |cons e es ih =>
   intro p h;rw[N2];refine ih _ ?_;show WD p.1 p.2 e (l,n)=[];cases e with
   |born n' s d f m=>show Xl p.1 n' f m (l,n)=[];rw[UM _ _ _ _ _ _ h1 h4 h2 h5];exact h
   |taken c t d=>show _1 (_1 p.1 ("T",c) t) ("t",t) c (l,n)=[];rw[YJ,Qa (λz=>h6 z.1),YJ,Qa (λz=>h3 z.1)];exact h
   |union a b d=>show _T _ _ _ _ _=[];rw[Ye _ _ _ _ _ _ h7,Ye _ _ _ _ _ _ h7];exact h
   |parted a b d=>show _T _ _ _ _ _=[];rw[Ye _ _ _ _ _ _ h7,Ye _ _ _ _ _ _ h7];exact h
   |dead a d=>exact h
   |given a b am d=>exact h
 exact go es _ rfl
structure BSt (B:Bk) (es:List Ent):Prop where
 kept:B.kept.map (·.1)=es
 lks:lk B.links=(Yg es).1
 tis:YT B.ties=(Yg es).2
 nd:(B.ties.map (·.1)).Nodup
 nl:B.links.length<=4*es.length
 nt:B.ties.length<=es.length
 ns:B.sums.length<=es.length
theorem BSt.start:BSt _Y []:=⟨rfl,rfl,rfl,.nil,Qg _,Qg _,Qg _⟩
theorem BSt.put (h:BSt B es) (p:Put B e B'):BSt B' (es++[e.told]):=by
 obtain⟨a,hk⟩:=p.kept;have l1:(es++[e.told]).length=es.length+1:=by rw[Qq];rfl
 have n1:=p.nl;have n2:=p.nt;have n3:=p.ns;have m1:=h.nl;have m2:=h.nt;have m3:=h.ns;refine⟨by rw[hk,Qu,h.kept];rfl,?_,?_,p.nd,by lia,by lia,by lia⟩
 ·funext c
  rw[JG,p.lks,h.lks,h.tis];rfl
 ·funext c
  rw[JG,p.tis,h.tis];rfl
theorem _f6 (c:A0) (es:List Ent):(tl c es).length<=es.length:=GV ..
theorem _eF {κ:Type} [DecidableEq κ] {k:κ}:∀{l:List (κ×V)},(∀p∈l,p.1≠k)->_K l k=none
 |[],_=>rfl
 |p::l,h=>by
  rw[Yq (h p (Qy ..))];exact _eF λq hq=>h q (QB _ hq)
theorem _lj (hk:B.kept.map (·.1)=es) {k:List _j} (h:∀e∈es,e.key≠k):_K B.keptD k=none:=by
 refine _eF λp hp=>?_;obtain⟨q,hq,rfl⟩:=Qj.mp hp;exact h q.1 (by rw[<-hk];exact Qj.mpr ⟨q,hq,rfl⟩)
theorem _i3 (hk:B.kept.map (·.1)=es):B.kept.length=es.length:=by rw[<-hk,Qd]
theorem _jg {bs:List Ent} (h:Deed bs e) (n:Str):e.told.key≠[.inr "born",.inr n]:=by
 intro z;cases h<;>(injection z with z1;have:=QT z1;revert this;ext)
theorem in2 {P:Str->Prop} {a b:Str} (h:n∈[a,b]) (ha:P a) (hb:P b):P n:=by
 rcases Qk.mp h with rfl|h
 ·exact ha
 ·rw[show n=b by simpa using h];exact hb
noncomputable def kD:_j->D
 |.inl i=>.int i
 |.inr x=>.str x
theorem _bi {K:W.Frag} {H:Hp}:∀ks:List _j,IsL K H (ks.map kD) (ks.map kV)
 |[]=>rfl
 |.inl i::ks=>⟨_,_,rfl,rfl,_bi ks⟩
 |.inr x::ks=>⟨_,_,rfl,rfl,_bi ks⟩
theorem _kA (a b:_j):Xn (kD a) (kD b)=decide (a=b):=by
 cases a with
 |inl i =>
  cases b with
  |inl j=>show(i==j)=_;rw[Q0];simp
  |inr y=>show false=_;rw[Qi (λz=>by cases z)]
 |inr x =>
  cases b with
  |inl j=>show false=_;rw[Qi (λz=>by cases z)]
  |inr y=>show(x==y)=_;rw[Q0];simp
theorem U5:∀a b:List _j,Yk (a.map kD) (b.map kD)=decide (a=b)
 |[],[]=>rfl
 |[],b::bs=>by show false=_;rw[Qi (λz=>by cases z)]
 |a::as,[]=>by show false=_;rw[Qi (λz=>by cases z)]
 |a::as,b::bs=>by
  show(Xn (kD a) (kD b)&&Yk (as.map kD) (bs.map kD))=_;rw[_kA,U5 as bs,Q0];simp
theorem Jc:∀a:List _j,Yn (a.map kD)=0
 |[]=>rfl
 |a::as=>by
  show max (Xk (kD a)) (Yn (as.map kD))=0;rw[Jc as];cases a<;>rfl
theorem Vm {K:W.Frag} {ks:List _j} (h:SqT K H a (ks.map kV)):Is K H (.tup (ks.map kD)) (.ref a):=⟨a,_,rfl,h,_bi ks⟩
theorem _aY (ks:List _j) (j:Nat) (h:j<=ks.length):Ym (ks.map kV) none (some (j:Int))=(ks.take j).map kV:=by
 unfold Ym;show((ks.map kV).drop 0).take (HT.sIx (ks.map kV).length (ks.map kV).length (some (j:Int))-0)=_;rw[HT.sIx_nat,Gx,Nat.sub_zero,Qd,Nat.min_eq_left h,Na]
theorem _jI (e:Ent):3<=e.row.length:=by cases e<;>exact Rs rfl
theorem _h2 (e:Ent) (n:Str):decide (e.row.take 2=[.inr "dead",.inr n])=decide (e.told.key=[.inr "dead",.inr n]):=by
 have h:(e.row.take 2=[(.inr "dead" : _j),.inr n])↔(e.told.key=[(.inr "dead" : _j),.inr n]):=by
  cases e with
  |dead a d=>exact Iff.rfl
  |_=>exact⟨λz=>(by injection z with z1;exact absurd (QT z1) (by ext)),λz=>(by injection z with z1;exact absurd (QT z1) (by ext))⟩
 rw[Q0];simp[h]
theorem _hX (e:Ent) (c t:Str):decide (e.row.take 3=[.inr "taken",.inr c,.inr t])=decide (e.told.key=[.inr "taken",.inr c,.inr t]):=by
 have h:(e.row.take 3=[(.inr "taken" : _j),.inr c,.inr t])↔(e.told.key=[(.inr "taken" : _j),.inr c,.inr t]):=by
  cases e with
  |taken a b d=>exact Iff.rfl
  |_=>exact⟨λz=>(by injection z with z1;exact absurd (QT z1) (by ext)),λz=>(by injection z with z1;exact absurd (QT z1) (by ext))⟩
 rw[Q0];simp[h]
theorem _kv {g t:Str} (am d:Int) (h:¬e.row.take 3=[.inr "given",.inr g,.inr t]):e.told.key≠(Ent.given g t am d).told.key:=by
 intro z;cases e with
 |given g' t' a' d' =>
  have z':[(.inr "given" : _j),.inr g',.inr t',.inl d']=[.inr "given",.inr g,.inr t,.inl d]:=z;injection z' with _ z1;injection z1 with z2 z3;injection z3 with z4 _;exact h (by show[(.inr "given" : _j),.inr g',.inr t']=_;rw[QT z2,QT z4])
 |_=>injection z with z1;exact absurd (QT z1) (by ext)
theorem _iG {g t:Str} (h:e.row.take 3=[.inr "given",.inr g,.inr t]):∃am d,e=.given g t am d:=by
 cases e with
 |given g' t' a' d' =>
  have h':[(.inr "given" : _j),.inr g',.inr t']=[.inr "given",.inr g,.inr t]:=h;injection h' with _ z1;injection z1 with z2 z3;injection z3 with z4 _;exact⟨a',d',by rw[QT z2,QT z4]⟩
 |_=>injection h with z1;exact absurd (QT z1) (by ext)
theorem XX {bs:List (Ent×Addr)} {y:V} (h:(_v bs)[i]?=some y):∃p,bs[i]?=some p/\y=.ref p.2:=by
 unfold _v at h;rw[Qv] at h;obtain⟨p,hp,e⟩:=Q8.mp h;exact⟨p,hp,e.symm⟩
theorem _gI (x:Int) {bs:List (Ent×Addr)} (h:bs≠[]):∃p∈bs,YC (_v bs) (x.fmod ((_v bs).length:Nat))=some (.ref p.2):=by
 have hl:0<bs.length:=RF.mpr h;have e:(_v bs).length=bs.length:=by unfold _v;rw[Qd]
 rw[e];have h0:=QP x (show(0:Int)<(bs.length:Nat) by lia);have h1:=QY x (show(0:Int)<(bs.length:Nat) by lia);have hi:(x.fmod (bs.length:Nat)).toNat<bs.length:=by lia
 refine⟨bs[(x.fmod (bs.length:Nat)).toNat],GX _,_aG h0 ?_⟩;unfold _v;rw[Qv,Qp hi];rfl
theorem Yy (bs:List (Ent×Addr)):(_v bs).length=bs.length:=by unfold _v;rw[Qd]
theorem _ee {K:W.Frag} {H:Hp}:∀zs:A9,IsL K H (zs.map D.str) (zs.map V.str)
 |[]=>rfl
 |z::zs=>⟨_,_,rfl,rfl,_ee zs⟩
theorem _cr:∀zs:A9,Yn (zs.map D.str)=0
 |[]=>rfl
 |z::zs=>by
  show max 0 (Yn (zs.map D.str))=0;rw[_cr zs];rfl
theorem _dM:∀a b:A9,Yk (a.map D.str) (b.map D.str)=decide (a=b)
 |[],[]=>rfl
 |[],b::bs=>by show false=_;rw[Qi (λz=>by cases z)]
 |a::as,[]=>by show false=_;rw[Qi (λz=>by cases z)]
 |a::as,b::bs=>by
  show((a==b)&&Yk (as.map D.str) (bs.map D.str))=_;rw[_dM as bs,Q0];simp
theorem _d6 {K:W.Frag} (h:SqL K H a (zs.map V.str)):Is K H (.lst (zs.map D.str)) (.ref a):=⟨a,_,rfl,h,_ee zs⟩
theorem _lx (b:Bool):∀l:List Bool,Xp (.bl b) (l.map V.bl)=decide (b∈l):=by
 intro l;unfold Xp
 induction l with
 |nil=>rfl
 |cons y r ih =>
  rw[Qm,Rq,ih];by_cases h:b=y
  ·subst h;simp[Xs]
  ·have h2:(y==b)=false:=by simpa using QM h
   simp[Xs,h,QM h]
theorem _lQ (l:List Bool):(l.map V.bl).all WQ=true:=by
 rw[GP,RU];intro x _;rfl
theorem _mC (h:Nm n):n≠"":=λz=>by
 subst z;exact absurd h.1 (by ext)
theorem _hs {z:Str} {c:Nat} (hl:∀c∈z.cps.toList,(⟨#[c]⟩:Str)∈Xr) (h:z.cps[i]?=some c):(⟨#[c]⟩:Str)∈Xr:=by
 refine hl c ?_;rw[<-Rj] at h;exact QE h
theorem _jE {ds:List (Ent×Addr)} (h:ds[i]?=some p):ds.take (i+1)=ds.take i++[p]:=by
 rw[List.take_succ,h];rfl
theorem _j4 (ns:C5):∃cs:C5,Ym (ns.map V.int) (some 1) (some 61)=cs.map V.int/\cs.length<=60/\(cs≠[]->2<=ns.length):=by
 refine⟨(ns.drop (min 1 ns.length)).take (min 61 ns.length-min 1 ns.length),?_,?_,λh=>?_⟩
 ·unfold Ym;rw[show(some (1:Int))=some ((1:Nat):Int) from rfl,show(some (61:Int))=some ((61:Nat):Int) from rfl,HT.sIx_nat,HT.sIx_nat,Qd,Na,Mh]
 ·rw[QU,Ri];lia
 ·have:=RF.mpr h;rw[QU,Ri] at this;lia
theorem _lV {bs:List (Ent×Addr)} (h:bs[i]?=some p):(bs.take (i+1)).map (·.1)=(bs.take i).map (·.1)++[p.1]:=by
 rw[_jE h,Qu];rfl
def _dA (r:List _j):Prop:=∃e:Ent,r=e.row
theorem _dm:∀r q,_dA r->_dA q->SA.Comp r q:=by
 rintro r q ⟨e,rfl⟩ ⟨f,rfl⟩;cases e<;>cases f<;>simp[Ent.row,SA.Comp,SA.sameT]<;>(intro h;exact absurd h (by ext))
theorem _e6 (e:Ent):∃z t,e.row=.inr z::t:=by cases e<;>exact⟨_,_,rfl⟩
noncomputable def Xd (n:Str):List (Ent×Addr)->Option (Int×Addr)
 |[]=>none
 |p::r=>match p.1 with
  |.dead n' d=>if n'=n then some (d,p.2) else Xd n r
  |_=>Xd n r
theorem _en (n:Str):∀l:List (Ent×Addr),_K (l.map λp=>(p.1.key,V.ref p.2)) ([.inr "dead",.inr n]:List _j)=(Xd n l).map λq=>.ref q.2
 |[]=>rfl
 | (e,a)::r=>by
  have ih:=_en n r;rw[Qm];cases e with
  |dead n' d =>
   unfold Xd;dsimp only;by_cases h:n'=n
   ·subst h;rw[YL (show((Ent.dead n' d).key,V.ref a).1=([.inr "dead",.inr n']:List _j) from rfl),Qb rfl];rfl
   ·rw[Yq (λz=>h (by simpa[Ent.key] using z)),Qa h];exact ih
  |born=>rw[Yq (λz=>absurd (RL z).1 (by ext))];exact ih
  |taken=>rw[Yq (λz=>absurd (RL z).1 (by ext))];exact ih
  |union=>rw[Yq (λz=>absurd (RL z).1 (by ext))];exact ih
  |parted=>rw[Yq (λz=>absurd (RL z).1 (by ext))];exact ih
  |given=>rw[Yq (λz=>absurd (RL z).1 (by ext))];exact ih
theorem Vn {n:Str} {d:Int} {a:Addr}:∀{l:List (Ent×Addr)},Xd n l=some (d,a)->(Ent.dead n d,a)∈l
 |[],h=>by cases h
 | (e,b)::r,h=>by
  cases e with
  |dead n' d' =>
   unfold Xd at h;dsimp only at h;by_cases e:n'=n
   ·rw[Qb e] at h;cases h;subst e;exact Qy ..
   ·rw[Qa e] at h;exact QB _ (Vn h)
  |_=>exact QB _ (Vn h)
theorem UG {n:Str}:∀{l:List (Ent×Addr)},Xd n l=none->∀p∈l,∀d,p.1≠Ent.dead n d
 |[],_,p,hp,_=>by cases hp
 | (e,b)::r,h,p,hp,d=>by
  cases e with
  |dead n' d' =>
   unfold Xd at h;dsimp only at h;by_cases e:n'=n
   ·rw[Qb e] at h;cases h
   ·rw[Qa e] at h;rcases Qk.mp hp with rfl|hp
    ·intro z;cases z;exact e rfl
    ·exact UG h p hp d
  |_ =>
   rcases Qk.mp hp with rfl|hp
   ·intro z;cases z
   ·exact UG (l:=r) h p hp d
noncomputable def Xb (B:Bk) (n:Str):V:=match Xd n B.kept with
 |none=>.non
 |some q=>.int q.1
theorem _e8 (l:List (Ent×Addr)):(Bk.bornD l).length=(Y3 l).length:=by rw[_gj,Qd,<-_eB,Qd]
theorem _bJ:∀{l m:List (List _j)},l.Perm m->(l.Pairwise λx y=>SA.rLt y x=false)->(m.Pairwise λx y=>SA.rLt y x=false)->l=m
 |[],m,p,_,_=>p.nil_eq
 |x::l,[],p,_,_=>absurd p.length_eq (by simp)
 |x::l,y::m,p,h1,h2=>by
  have e:x=y:=by
   by_cases e:x=y
   ·exact e
   have hx:x∈m:=by
    have:x∈y::m:=p.subset (Qy ..);rcases Qk.mp this with h|h
    ·exact absurd h e
    ·exact h
   have hy:y∈l:=by
    have:y∈x::l:=p.symm.subset (Qy ..);rcases Qk.mp this with h|h
    ·exact absurd h.symm e
    ·exact h
   exact SA.rLt_total _ _ (G9 h2 hx) (G9 h1 hy)
  subst e;rw[_bJ p.cons_inv (RH.mp h1).2 (RH.mp h2).2]
noncomputable def X3 (r:List _j):D:=.tup (r.map kD)
theorem WT {K:W.Frag} {H:Hp}:∀{ps:List (Ent×Addr)},RowsAt K H ps->IsL K H ((ps.map λp=>p.1.row).map X3) (_v ps)
 |[],_=>rfl
 |p::r,h=>⟨_,_,rfl,Vm (h p (Qy ..)),WT λq hq=>h q (QB _ hq)⟩
theorem Uu:∀rs:List (List _j),Yn (rs.map X3)<=1
 |[]=>QN _
 |r::rs=>by
  show max (Yn (r.map kD)+1) (Yn (rs.map X3))<=1;rw[Jc];have:=Uu rs;lia
theorem U2:∀rs:List (List _j),Yk (rs.map X3) (rs.map X3)=true
 |[]=>rfl
 |r::rs=>by
  show(Yk (r.map kD) (r.map kD)&&Yk (rs.map X3) (rs.map X3))=true;rw[U5,Ql rfl,U2 rs];rfl
theorem BkAt.but0 {K:W.Frag} {k:Addr} (h:BkAt K C H b dx k bi li ti su _Y) (bt:But S H H') (n:∀a∈[b,k,bi,li,ti,su],a∉S):BkAt K C H' b dx k bi li ti su _Y :=
 ⟨bt.eq _ _ (n _ (by simp)) h.ob,h.ap,h.at',bt.eq _ _ (n _ (by simp)) h.ke,bt.eq _ _ (n _ (by simp)) h.bi,bt.eq _ _ (n _ (by simp)) h.li,bt.eq _ _ (n _ (by simp)) h.ti,bt.eq _ _ (n _ (by simp)) h.su,λp hp=>(by cases hp),λq hq=>(by cases hq),λq hq=>(by cases hq)⟩
noncomputable def amt (c:A0):Ent->Int
 |.given g t am _=>if c=(g,t) then am else 0
 |_=>0
noncomputable def WF (c:A0) (es:List Ent):Int:=(es.map (amt c)).sum
theorem _l6 (c:A0) (es:List Ent) (e:Ent):WF c (es++[e])=WF c es+amt c e:=by
 unfold WF;rw[Qu,List.sum_append];simp
theorem _ds {st:Bool} {a b:Str} (ne:a≠b) (c:A0):(_T (_T F st a b) st b a c).length<=(F c).length+1:=by
 by_cases e:c=(("S",b):A0)
 ·refine Qs (_bO ..) ?_
  have:_T F st a b c=F c:=by
   unfold _T;rw[Qa];intro z;rw[e] at z;injection z with _ z2;exact ne z2.symm
  rw[this];exact Qg _
 ·have:_T (_T F st a b) st b a c=_T F st a b c:=by
   show(if c=(("S",b):A0) then _ else _T F st a b c)=_;rw[Qa e]
  rw[this];exact _bO ..
theorem _jL {a b:Str} (h:decide (b.cps.toList<a.cps.toList)=true):_h a b=(b,a):=by
 unfold _h;rw[Qb (show _J b a=true from h)]
theorem _mx {a b:Str} (h:decide (b.cps.toList<a.cps.toList)=false):_h a b=(a,b):=by
 unfold _h;rw[Qa (show ¬_J b a=true from by rw[show _J b a=false from h];decide)]
def D5 (pool:A9) (e:Ent):Prop:=e.Ok/\(∀n∈e.named,n∈pool)/\∀n,e.bornName=some n->n∈pool
noncomputable def Jw (ks:List (Ent×Addr)):Bk:=⟨ks,[],[],[]⟩
noncomputable def Ent.word:Ent->Str
 |.born ..=>"born"
 |.taken ..=>"taken"
 |.union ..=>"union"
 |.parted ..=>"parted"
 |.dead ..=>"dead"
 |.given ..=>"given"
theorem _lB (x:Ent):YC (x.row.map kV) 0=some (.str x.word):=by cases x<;>rfl
noncomputable def Ent.kw:Ent->Str
 |.born ..=>"born"
 |.taken ..=>"taken"
 |.union ..=>"tie"
 |.parted ..=>"tie"
 |.dead ..=>"dead"
 |.given ..=>"given"
theorem _m9 {k:List _j}:∀{l m:List (Ent×Addr)},l.map (·.1)=m.map (·.1)->(_K (l.map λp=>(p.1.key,V.ref p.2)) k).isSome=(_K (m.map λp=>(p.1.key,V.ref p.2)) k).isSome:=by
 intro l
 induction l with
 |nil=>intro m h;cases m with
  |nil=>rfl
  |cons q m=>cases h
 |cons p l ih=>intro m h;cases m with
  |nil=>cases h
  |cons q m =>
   have h1:p.1=q.1:=(RL h).1;have h2:=(RL h).2;rw[Qm,Qm];by_cases c:p.1.key=k
   ·rw[YL (show(p.1.key,V.ref p.2).1=k from c),YL (show q.1.key=k by rw[<-h1];exact c)];rfl
   ·rw[Yq (show ¬(p.1.key,V.ref p.2).1=k from c),Yq (show ¬q.1.key=k by rw[<-h1];exact c)];exact ih h2
theorem _ky {k:List _j}:∀{ks:List (Ent×Addr)},(∃p∈ks,p.1.key=k)->(_K (Jw ks).keptD k).isSome=true:=by
 intro ks
 induction ks with
 |nil=>rintro⟨p,hp,_⟩;cases hp
 |cons q ks ih =>
  rintro⟨p,hp,e⟩;show(_K ((q.1.key,V.ref q.2)::(Jw ks).keptD) k).isSome=true;by_cases c:q.1.key=k
  ·rw[YL (show(q.1.key,V.ref q.2).1=k from c)];rfl
  ·rw[Yq (show ¬(q.1.key,V.ref q.2).1=k from c)];rcases Qk.mp hp with rfl|hp
   ·exact absurd e c
   ·exact ih ⟨p,hp,e⟩
theorem born_known {l:List (Ent×Addr)} (h:n∈Y3 l):_Q n l≠none:=by
 induction l with
 |nil=>cases h
 |cons p l ih =>
  unfold _Q;by_cases c:p.1.bornName=some n
  ·rw[Qb c];simp
  ·rw[Qa c];refine ih ?_;unfold Y3 at h ⊢;rw[QQ] at h;cases hb:p.1.bornName with
   |none=>rw[hb] at h;exact h
   |some z =>
    rw[hb] at h;rcases Qk.mp h with rfl|h
    ·exact absurd hb c
    ·exact h
theorem _iv:∀{es:List Ent},(∀e∈es,Y8 e)->∀n,((Yg es).1 ("S",n)).length<=es.length:=by
 have go:∀k (es:List Ent),es.length=k->(∀e∈es,Y8 e)->∀n,((Yg es).1 ("S",n)).length<=es.length:=by
  intro k
  induction k with
  |zero =>
   intro es h _ n;have:es=[]:=MB h;subst this;exact Qg _
  |succ k ih =>
   intro es h ap n;have ne:es≠[]:=λz=>by rw[z] at h;cases h
   obtain⟨xs,e,rfl⟩:∃xs e,es=xs++[e]:=⟨_,_,(MA ne).symm⟩;have lx:xs.length=k:=by rw[Qq] at h;exact G8 h
   have ih:=ih xs lx (λx hx=>ap x (Qn.mpr (.inl hx))) n;have ae:=ap e (Qn.mpr (.inr (Qz.mpr rfl)));rw[JG,Qq]
   have key:(WD (Yg xs).1 (Yg xs).2 e ("S",n)).length<=((Yg xs).1 ("S",n)).length+1:=by
    cases e with
    |born n' s d f m =>
     show(Xl (Yg xs).1 n' f m ("S",n)).length<=_;rw[UM _ _ _ _ _ _ (by ext) (by ext) (by ext) (by ext)];exact QV _
    |taken c t d =>
     show(_1 (_1 (Yg xs).1 ("T",c) t) ("t",t) c ("S",n)).length<=_;rw[YJ,Qa (λz=>absurd z.1 (by ext)),YJ,Qa (λz=>absurd z.1 (by ext))];exact QV _
    |union a b d=>exact _ds (ae rfl) _
    |parted a b d=>exact _ds (ae rfl) _
    |dead a d=>exact QV _
    |given a b am d=>exact QV _
   show(WD (Yg xs).1 (Yg xs).2 e ("S",n)).length<=xs.length+1;lia
 intro es h n;exact go es.length es rfl h n
theorem _nJ (h:∀e∈es,Y8 e) (c:A0):((Yg es).1 c).length<=es.length:=by
 obtain⟨l,n⟩:=c
 have six:∀{ad:Str->Ent->A9},Adds l ad->(∀e,(ad n e).length<=1)->((Yg es).1 (l,n)).length<=es.length:=λA h1=>by
  rw[A.all,(Y6 _).length_eq];exact _a3 h1 es
 by_cases hl:l∈Xr
 ·simp only[Xr,Qk,Q2,QW] at hl;rcases hl with rfl|rfl|rfl|rfl|rfl|rfl|rfl
  ·exact six _ap λe=>(Vr n e).1
  ·exact six JM λe=>(Vr n e).2.1
  ·exact six Ul λe=>(Vr n e).2.2.2.2.1
  ·exact six Jm λe=>(Vr n e).2.2.1
  ·exact six JS λe=>(Vr n e).2.2.2.1
  ·exact six JY λe=>(Vr n e).2.2.2.2.2
  ·exact _iv h n
 ·rw[_ah hl];exact QN _
theorem _iL {ds:List Ent} (h:(ds.map λe=>e.told.key).Nodup):Once ds:=by
 intro c
 have go:∀ds:List Ent,(ds.map λe=>e.told.key).Nodup->((tl c ds).map (·.1)).Nodup:=by
  intro ds
  induction ds with
  |nil=>intro _;exact .nil
  |cons e ds ih =>
   intro n;rw[Qm,Rb] at n;have ih:=ih n.2;unfold tl at ih ⊢;rw[QQ];by_cases cc:e.tie=true/\_h e.pr.1 e.pr.2=c
   ·rw[Qb cc];show(_::_).Nodup;rw[Rb];refine⟨λm=>?_,ih⟩;obtain⟨q,hq,eq⟩:=Qj.mp m;obtain⟨x,hx,ex⟩:=RN.mp hq;by_cases c2:x.tie=true/\_h x.pr.1 x.pr.2=c
    ·rw[Qb c2] at ex;have:=Qt ex;subst this;refine n.1 (Qj.mpr ⟨x,hx,?_⟩)
     have kk:∀y:Ent,y.tie=true->y.told.key=[.inr "tie",.inr (_h y.pr.1 y.pr.2).1,.inr (_h y.pr.1 y.pr.2).2,.inl y.day]:=λy hy=>by
      cases y with
      |union=>rfl
      |parted=>rfl
      |_=>cases hy
     rw[kk x c2.1,kk e cc.1,c2.2,cc.2,show x.day=e.day from eq]
    ·rw[Qa c2] at ex;cases ex
   ·rw[Qa cc];exact ih
 exact go ds h
structure LI5 (pool:A9) (B:Bk) (ks:List (Ent×Addr)):Prop where
 st:BSt B (ks.map (·.1))
 sus:∀c,YD B.sums c=WF c (ks.map (·.1))
 told:∀p∈ks,p.1.told=p.1
 keys:(ks.map λp=>p.1.told.key).Nodup
 inp:∀p∈ks,∀n,p.1.bornName=some n->n∈pool
 ap:∀p∈ks,Y8 p.1
theorem LI5.start (pool:A9):LI5 pool _Y []:=⟨BSt.start,λ_=>rfl,λp hp=>(by cases hp),.nil,λp hp=>(by cases hp),λp hp=>(by cases hp)⟩
theorem LI5.ap' (h:LI5 pool B ks):∀e∈ks.map (·.1),Y8 e:=λe he=>by
 obtain⟨p,hp,rfl⟩:=Qj.mp he;exact h.ap p hp
theorem LI5.once (h:LI5 pool B ks):Once (ks.map (·.1)):=by
 refine _iL ?_;rw[QF];exact h.keys
theorem VX (e:Ent):e.told.bornName=e.bornName:=by cases e<;>rfl
theorem _lh (h:XZ B e=true):Y8 e:=λt=>by
 cases e with
 |union a b d =>
  intro z;rw[JT rfl,show(Ent.union a b d).same=true from Ql (show a=b from z)] at h;cases h
 |parted a b d =>
  intro z;rw[JT rfl,show(Ent.parted a b d).same=true from Ql (show a=b from z)] at h;cases h
 |_=>cases t
theorem _b1 (h:Xf B e=none):B.kept.length<400/\(e.isBorn=true->(Bk.bornD B.kept).length<60)/\(∀n∈e.named,Known B n)/\_K B.keptD e.told.key=none/\XZ B e=true:=by
 obtain⟨h1,h2,h3⟩:=_bF h;unfold Xf at h;by_cases f:B.full e=true
 ·rw[Qb f] at h;cases h
 ·rw[Qa f,Qa (by rw[_bf h3];decide),Qa (by rw[h1];decide)] at h;refine⟨h2,λb=>?_,h3,h1,?_⟩
  ·unfold Bk.full at f;rw[b,GA,GU,not_or] at f;have:=f.2;rw[Gz] at this;lia
  ·cases hf:XZ B e with
   |true=>rfl
   |false=>rw[hf,Qa (by decide)] at h;cases h
theorem LI5.put (h:LI5 pool B ks) (p:Put B e B') (d:D5 pool e) (no:Xf B e=none) (a:Addr):LI5 pool B' (ks++[(e.told,a)]):=by
 obtain⟨_,_,_,hv,hf⟩:=_b1 no;have st:=h.st.put p;have em:(ks++[(e.told,a)]).map (·.1)=ks.map (·.1)++[e.told]:=by rw[Qu];rfl
 rw[<-em] at st;have one:∀q∈ks++[(e.told,a)],q∈ks\/q=(e.told,a):=λq hq=>(Qn.mp hq).imp id (λz=>by simpa using z);refine⟨st,λc=>?_,λq hq=>?_,?_,λq hq n hn=>?_,λq hq=>?_⟩
 ·rw[p.su c,em,_l6];generalize e.told=e' at *;cases e' with
  |given x y am d =>
   show(if c=(x,y) then YD B.sums c+am else YD B.sums c)=WF c _+(if c=(x,y) then am else 0);rw[h.sus];split<;>simp
  |_=>rw[show J9 (YD B.sums) _ c=YD B.sums c from rfl,h.sus];exact(Int.add_zero _).symm
 ·rcases one q hq with hq|rfl
  ·exact h.told q hq
  ·exact Wq e
 ·rw[Qu,Rl];refine⟨h.keys,by simp,λx hx y hy z=>?_⟩;have hy':y=e.told.told.key:=by simpa using hy
  obtain⟨q,hq,rfl⟩:=Qj.mp hx;have kn:(_K (Jw ks).keptD e.told.key).isSome=true:=_ky ⟨q,hq,by rw[h.told q hq] at z;rw[z,hy',Wq]⟩;have kv:(_K B.keptD e.told.key).isSome=(_K (Jw ks).keptD e.told.key).isSome:=_m9 (l:=B.kept) (m:=ks) h.st.kept;rw[kn,hv] at kv;cases kv
 ·rcases one q hq with hq|rfl
  ·exact h.inp q hq n hn
  ·exact d.2.2 n (by rw[<-VX];exact hn)
 ·rcases one q hq with hq|rfl
  ·exact h.ap q hq
  ·exact _kj (_lh hf)
theorem _jX {K:W.Frag} {o:Obj} {w:List (List _j×V)} (h:SqT K H a xs) (e:H c=some (.frz o (.dT w))):SqT K (_d H c o') a xs:=by
 rcases h with(h|⟨x,h⟩)|h
 ·exact .inl (.inl ((_l (Yd h e (λz=>by cases z))).trans h))
 ·exact .inl (.inr ⟨x,(_l (Yd h e (λz=>by cases z))).trans h⟩)
 ·exact .inr h
theorem BkAt.thaw {K:W.Frag} {k:Addr} {ob:Obj} {w:List (List _j×V)} (h:BkAt K C H b dx k bi li ti su B) (e:H c=some (.frz ob (.dT w))):BkAt K C (_d H c o) b dx k bi li ti su B:=by
 have off:∀{a:Addr} {o':HO},H a=some o'->(∀x y,o'≠.frz x y)->_d H c o a=some o':=λ{a o'} ea no=>(_l (λz=>by subst z;rw[e] at ea;cases ea;exact no _ _ rfl)).trans ea
 exact⟨off h.ob (λ_ _ z=>by cases z),h.ap,h.at',off h.ke (λ_ _ z=>by cases z),off h.bi (λ_ _ z=>by cases z),off h.li (λ_ _ z=>by cases z),off h.ti (λ_ _ z=>by cases z),off h.su (λ_ _ z=>by cases z),
  λp hp=>_jX (h.en p hp) e,λq hq=>off (h.ll q hq) (λ_ _ z=>by cases z),λq hq=>off (h.tt q hq) (λ_ _ z=>by cases z)⟩
structure Fit (xs:List Ent) (e:Ent):Prop where
 kn:∀n∈e.named,∃s d f m,Ent.born n s d f m∈xs/\d<=e.day
 key:∀x∈xs,x.key≠e.told.key
 par:∀n s d f m,e=.born n s d f m->(f=""\/∃d' f' m',Ent.born f "he" d' f' m'∈xs/\d'<d)/\(m=""\/∃d' f' m',Ent.born m "she" d' f' m'∈xs/\d'<d)
 tk:∀c t d,e=.taken c t d->∀sc dc fc mc st dt ft mt,Ent.born c sc dc fc mc∈xs->Ent.born t st dt ft mt∈xs->dt<dc
 ap:e.same=false
def BU (xs:List Ent):Prop:=∀{n s d f m s' d' f' m'},Ent.born n s d f m∈xs->Ent.born n s' d' f' m'∈xs->Ent.born n s d f m=.born n s' d' f' m'
theorem WU {xs:List Ent} (h:B.kept.map (·.1)=xs) (u:BU xs) (hm:Ent.born n s d f m∈xs):Known B n/\W8 B n=s/\_6 B n=d:=by
 obtain⟨a,ha⟩:=_gq (l:=B.kept) (by rw[h];exact hm) λ{s' d' f' m'} hm'=>by
  rw[h] at hm';exact u hm' hm
 exact⟨by unfold Known;rw[ha];simp,_bo ha rfl,V7 ha rfl⟩
theorem _d9 {xs:List Ent} (h:B.kept.map (·.1)=xs) (u:BU xs) (l:xs.length<400) (b:e.isBorn=true->(Y3 B.kept).length<60) (f:Fit xs e):Xf B e=none:=by
 have kl:=_i3 h;refine _mt ?_ (λn hn=>?_) ?_ ?_
 ·unfold Bk.full;rw[Qi (show ¬400<=B.kept.length by lia),_e8];cases hb:e.isBorn with
  |false=>rfl
  |true=>rw[Qi (show ¬60<=(Y3 B.kept).length by have:=b hb;lia)];rfl
 ·obtain⟨s,d,f',m,h1,_⟩:=f.kn n hn;exact(WU h u h1).1
 ·rw[_lj h f.key];rfl
 ·cases hi:e.isBorn with
  |true =>
   cases e with
   |born n s d fa mo =>
    obtain⟨p1,p2⟩:=f.par n s d fa mo rfl
    have one:∀{x so:Str},(x=""\/∃d' f' m',Ent.born x so d' f' m'∈xs/\d'<d)->XG B x so d=true:=λ{x so} hx=>by
     unfold XG;rcases hx with rfl|⟨d',f',m',h1,h2⟩
     ·rfl
     ·obtain⟨_,e1,e2⟩:=WU h u h1;rw[e1,e2,Ql rfl,Ql h2,GA,Bool.or_true]
    show(XG B fa "he" d&&XG B mo "she" d)=true;rw[one p1,one p2];rfl
   |_=>cases hi
  |false =>
   rw[JT hi,f.ap]
   have he:e.early B=false:=by
    cases e with
    |taken c t d =>
     obtain⟨sc,dc,fc,mc,h1,_⟩:=f.kn c (by simp[Ent.named]);obtain⟨st,dt,ft,mt,h2,_⟩:=f.kn t (by simp[Ent.named]);have h3:=f.tk c t d rfl _ _ _ _ _ _ _ _ h1 h2;show decide (_6 B c<=_6 B t)=false;rw[(WU h u h1).2.2,(WU h u h2).2.2];exact Qi (by lia)
    |_=>rfl
   rw[he];show(e.named.all λn=>decide (_6 B n<=e.day))=true;rw[RU];intro n hn;obtain⟨s,d,f',m,h1,h2⟩:=f.kn n hn;rw[(WU h u h1).2.2];exact Ql h2
theorem Fit.filt {xs:List Ent} (f:Fit xs e) (hd:e.day<=d):Fit (xs.filter λx=>decide (x.day<=d)) e:=by
 have up:∀{n s f' m:Str} {d0:Int},Ent.born n s d0 f' m∈xs->d0<=d->Ent.born n s d0 f' m∈xs.filter λx=>decide (x.day<=d):=λh1 h2=>QL.mpr ⟨h1,Ql h2⟩;refine⟨λn hn=>?_,λx hx=>f.key x (QL.mp hx).1,λn s d0 fa mo he=>?_,λc t d0 he=>?_,f.ap⟩
 ·obtain⟨s,d0,f',m,h1,h2⟩:=f.kn n hn;exact⟨s,d0,f',m,up h1 (by lia),h2⟩
 ·have hd0:d0<=d:=by rw[he] at hd;exact hd
  obtain⟨p1,p2⟩:=f.par n s d0 fa mo he;refine⟨p1.imp id λzq=>?_,p2.imp id λ⟨d',f',m',h1,h2⟩=>⟨d',f',m',up h1 (by lia),h2⟩⟩;obtain⟨d',f',m',h1,h2⟩:=zq;exact ⟨d',f',m',up h1 (by lia),h2⟩
 ·intro sc dc fc mc st dt ft mt h1 h2;exact f.tk c t d0 he _ _ _ _ _ _ _ _ (QL.mp h1).1 (QL.mp h2).1
theorem _gs (e:Ent):e.told.day=e.day:=by cases e<;>rfl
theorem _km (h:e.same=false):e.told.same=false:=by
 cases e with
 |union a b d =>
  show decide ((_h a b).1=(_h a b).2)=false;have:a≠b:=RB h;unfold _h;split
  ·exact Qi λz=>this z.symm
  ·exact Qi this
 |parted a b d =>
  show decide ((_h a b).1=(_h a b).2)=false;have:a≠b:=RB h;unfold _h;split
  ·exact Qi λz=>this z.symm
  ·exact Qi this
 |_=>exact h
theorem Fit.told {xs:List Ent} (f:Fit xs e):Fit xs e.told:=by
 refine⟨λn hn=>?_,λx hx=>by rw[Wq];exact f.key x hx,λn s d fa mo he=>f.par n s d fa mo ?_,λc t d he=>f.tk c t d ?_,_km f.ap⟩
 ·rw[_gs];exact f.kn n (J7 e n hn)
 ·cases e<;>first|exact he|cases he
 ·cases e<;>first|exact he|cases he
inductive GdL (pool:A9):List Ent->Prop
 |nil:GdL pool []
 |snoc {es:List Ent} {e:Ent} (h:GdL pool es) (d:D5 pool e) (d':D5 pool e.told) (f:Fit (es.map Ent.told) e):GdL pool (es++[e])
theorem GdL.last {l:List Ent} (h:GdL pool l) {xs:List Ent} (el:l=xs++[e]):GdL pool xs/\D5 pool e/\D5 pool e.told/\Fit (xs.map Ent.told) e:=by
 cases h with
 |nil=>simp at el
 |snoc h d d' f =>
  obtain⟨e1,e2⟩:=List.append_inj' el rfl;obtain⟨e3,_⟩:=RL e2;subst e1 e3;exact⟨h,d,d',f⟩
theorem GdL.take {l:List Ent} (h:GdL pool l):∀i,GdL pool (l.take i):=by
 induction h with
 |nil=>intro i;rw[List.take_nil];exact .nil
 |@snoc xs e h d d' f ih =>
  intro i;by_cases il:i<=xs.length
  ·rw[List.take_append_of_le_length il];exact ih i
  ·rw[RJ (by rw[Qq];show _+1<=_;lia)];exact .snoc h d d' f
theorem _j9 (es:List Ent):(es.map Ent.told).map Ent.told=es.map Ent.told:=by
 rw[QF];exact R0 λe _=>Wq e
theorem GdL.told {l:List Ent} (h:GdL pool l):GdL pool (l.map Ent.told):=by
 induction h with
 |nil=>exact .nil
 |@snoc xs e h d d' f ih =>
  rw[Qu];exact .snoc ih d' (by rw[Wq];exact d') (by rw[_j9];exact f.told)
theorem GdL.filt {l:List Ent} (h:GdL pool l) (d:Int):GdL pool (l.filter λx=>decide (x.day<=d)):=by
 induction h with
 |nil=>exact .nil
 |@snoc xs e h d5 d' f ih =>
  rw[Nc];by_cases hd:e.day<=d
  ·have e1:[e].filter (λx=>decide (x.day<=d))=[e]:=by simp[hd]
   rw[e1]
   have e2:(xs.filter λx=>decide (x.day<=d)).map Ent.told=(xs.map Ent.told).filter λx=>decide (x.day<=d):=by
    rw[List.filter_map]
    congr 1
    exact List.filter_congr λx _=>by show _=decide (x.told.day<=d);rw[_gs]
   refine .snoc ih d5 d' ?_;rw[e2];exact f.filt hd
  ·have e1:[e].filter (λx=>decide (x.day<=d))=[]:=by simp[hd]
   rw[e1,Q1];exact ih
theorem GdL.bu {l:List Ent} (h:GdL pool l):BU (l.map Ent.told):=by
 induction h with
 |nil=>intro n s d f m s' d' f' m' h1;cases h1
 |@snoc xs e h d5 d5' f ih =>
  intro n s d fa m s' d' f' m' h1 h2;rw[Qu] at h1 h2;have kb:∀{x:Ent} {n s f m:Str} {d:Int},x=.born n s d f m->x.key=[.inr "born",.inr n]:=λz=>by rw[z];rfl
  rcases Qn.mp h1 with h1|h1<;>rcases Qn.mp h2 with h2|h2
  ·exact ih h1 h2
  ·have e2:=Qz.mp h2;exact absurd (by rw[<-e2];rfl) (f.key _ h1)
  ·have e1:=Qz.mp h1;exact absurd (by rw[<-e1];rfl) (f.key _ h2)
  ·rw[Qz.mp h1,Qz.mp h2]
theorem GdL.d5 {l:List Ent} (h:GdL pool l):∀e∈l,D5 pool e:=by
 induction h with
 |nil=>intro e he;cases he
 |snoc h d5 d' f ih =>
  intro e he;rcases Qn.mp he with he|he
  ·exact ih e he
  ·rw[Qz.mp he];exact d5
theorem LI5.put' (h:LI5 pool B B.kept) (p:Put B e B') (d:D5 pool e) (no:Xf B e=none):LI5 pool B' B'.kept/\B'.kept.map (·.1)=B.kept.map (·.1)++[e.told]:=by
 obtain⟨a,ha⟩:=p.kept;have z:=h.put p d no a;rw[<-ha] at z;exact⟨z,by rw[ha,Qu];rfl⟩
theorem Wf (h:∀e∈es,e.told=e):es.map Ent.told=es:=by
 have:es.map Ent.told=es.map id:=R0 λe he=>h e he;rw[this,List.map_id]
noncomputable def Wv (es:List Ent):A9:=es.filterMap Ent.bornName
structure FitB (bs:List Ent) (e:Ent):Prop where
 nb:e.isBorn=false
 ok:e.Ok
 ok':e.told.Ok
 kn:∀n∈e.named,∃s d f m,Ent.born n s d f m∈bs/\d<=e.day
 tk:∀c t d,e=.taken c t d->∀sc dc fc mc st dt ft mt,Ent.born c sc dc fc mc∈bs->Ent.born t st dt ft mt∈bs->dt<dc
 ap:e.same=false
theorem J8 (l:List (Ent×Addr)):Y3 l=Wv (l.map (·.1)):=by
 unfold Y3 Wv;rw[List.filterMap_map];rfl
theorem GdL.more {pool:A9}:∀{ds es bs:List Ent},GdL pool es->(∀n s d f m,Ent.born n s d f m∈es↔Ent.born n s d f m∈bs)->(∀e∈ds,FitB bs e)->((es++ds).map λe=>e.told.key).Nodup->GdL pool (es++ds)
 |[],es,bs,g,_,_,_=>by rw[Q1];exact g
 |e::ds,es,bs,g,hb,hf,nd=>by
  have f:=hf e (Qy ..)
  have bt:∀{n s f m:Str} {d:Int},Ent.born n s d f m∈es.map Ent.told↔Ent.born n s d f m∈bs:=λ{n s f m d}=>by
   rw[<-hb];constructor
   ·intro h;obtain⟨x,hx,ex⟩:=Qj.mp h;cases x with
    |born n' s' d' f' m'=>rw[<-ex];exact hx
    |_=>cases ex
   ·intro h;exact Qj.mpr ⟨_,h,rfl⟩
  have inp:∀n s d f m,Ent.born n s d f m∈bs->n∈pool:=λn s d f m h=>(g.d5 _ ((hb ..).mpr h)).2.2 n rfl;have bn:∀x:Ent,x.isBorn=false->x.bornName=none:=λx hx=>by cases x<;>first|rfl|cases hx
  have d5:D5 pool e:=⟨f.ok,λn hn=>by obtain⟨s,d,fa,m,h1,_⟩:=f.kn n hn;exact inp _ _ _ _ _ h1,λn hn=>by rw[bn e f.nb] at hn;cases hn⟩;have d5':D5 pool e.told:=⟨f.ok',λn hn=>d5.2.1 n (J7 e n hn),λn hn=>by rw[VX] at hn;exact d5.2.2 n hn⟩
  have Uc:(es.map λe=>e.told.key).Nodup/\∀x∈es,x.told.key≠e.told.key:=by
   rw[Qu,Rl] at nd;exact⟨nd.1,λx hx=>nd.2.2 _ (Qj.mpr ⟨x,hx,rfl⟩) _ (by rw[Qm];exact Qy ..)⟩
  have g1:GdL pool (es++[e]):=by
   refine .snoc g d5 d5' ⟨λn hn=>?_,λx hx=>?_,λn s d fa m he=>?_,λc t d he sc dc fc mc st dt ft mt h1 h2=>f.tk c t d he _ _ _ _ _ _ _ _ (bt.mp h1) (bt.mp h2),f.ap⟩
   ·obtain⟨s,d,fa,m,h1,h2⟩:=f.kn n hn;exact⟨s,d,fa,m,bt.mpr h1,h2⟩
   ·obtain⟨y,hy,rfl⟩:=Qj.mp hx;exact Uc.2 y hy
   ·have:=f.nb;rw[he] at this;cases this
  have r:=GdL.more (ds:=ds) (es:=es++[e]) (bs:=bs) g1 (λn s d fa m=>by
   rw[Qn];constructor
   ·rintro(h|h)
    ·exact(hb ..).mp h
    ·have:=f.nb;rw[<-Qz.mp h] at this;cases this
   ·intro h;exact .inl ((hb ..).mpr h)) (λx hx=>hf x (QB _ hx)) (by rw[QH];exact nd)
  rw[QH] at r;exact r
noncomputable def ft (k bi li ti su:Addr) (B:Bk):B5:=[k,bi,li,ti,su]++B.ties.map (·.2.1)
noncomputable def Yt (H:Hp) (S:B5):Hp:=λc=>if c∈S then none else H c
def Jl (H:Hp) (c:Addr):Prop:=(∃w,H c=some (.dT w))\/∃w,H c=some (.dK w)
theorem UO (H:Hp) (S:B5):Same (Yt H S) H:=λc u e=>by
 unfold Yt at e;split at e
 ·cases e
 ·exact e
theorem Jq (n:c∉S):Yt H S c=H c:=Qa n
theorem V5 (n:c∈S):Yt H S c=none:=Qb n
noncomputable def plain:HO->Bool
 |.dT _=>false
 |.dK _=>false
 |_=>true
theorem XR (hS:∀c∈S,Jl H c) (e:H c=some o) (p:plain o=true):Yt H S c=some o:=by
 rw[Jq]
 ·exact e
 intro m;rcases hS c m with⟨w,z⟩|⟨w,z⟩<;>rw[z] at e<;>cases e<;>cases p
theorem UZ {K:W.Frag} (hS:∀c∈S,Jl H c) (q:SqT K H a xs):SqT K (Yt H S) a xs:=by
 rcases q with(q|⟨o,q⟩)|q
 ·exact .inl (.inl (XR hS q rfl))
 ·exact .inl (.inr ⟨o,XR hS q rfl⟩)
 ·exact .inr q
section
variable{K:W.Frag} {k b2 dx2 k2 bi2 li2 ti2 su2 y:Addr} {B2:Bk}
theorem BkAt.dicts (h:BkAt K C H b dx k bi li ti su B):∀c∈ft k bi li ti su B,Jl H c:=λc m=>by
 unfold ft at m;rcases Qn.mp m with m|m
 ·simp only[Qk,Q2,QW] at m;rcases m with rfl|rfl|rfl|rfl|rfl
  ·exact .inl ⟨_,h.ke⟩
  ·exact .inr ⟨_,h.bi⟩
  ·exact .inl ⟨_,h.li⟩
  ·exact .inl ⟨_,h.ti⟩
  ·exact .inl ⟨_,h.su⟩
 ·obtain⟨q,hq,rfl⟩:=Qj.mp m;exact .inr ⟨_,h.tt q hq⟩
theorem BkAt.rest (h:BkAt K C H b dx k bi li ti su B) (hS:∀c∈S,Jl H c) (dj:∀c∈S,c∉ft k bi li ti su B):BkAt K C (Yt H S) b dx k bi li ti su B:=by
 have g:∀{c:Addr} {o:HO},H c=some o->c∈ft k bi li ti su B->Yt H S c=some o:=λe m=>by rw[Jq λz=>dj _ z m];exact e
 have m5:∀{c:Addr},c∈[k,bi,li,ti,su]->c∈ft k bi li ti su B:=λm=>QG _ m
 exact⟨XR hS h.ob rfl,h.ap,h.at',g h.ke (m5 (by simp)),g h.bi (m5 (by simp)),g h.li (m5 (by simp)),g h.ti (m5 (by simp)),g h.su (m5 (by simp)),λp hp=>UZ hS (h.en p hp),λq hq=>XR hS (h.ll q hq) rfl,
  λq hq=>g (h.tt q hq) (QZ _ (Qj.mpr ⟨q,hq,rfl⟩))⟩
theorem Ut {Hs:Hp} (bt:But [k,bi,li,ti,su,y] H H') (hy:H y=none\/y=bi\/y∈B.ties.map (·.2.1)) (gr:GrowsT H B.ties B'.ties) (sc:Same Hs H) (fs:∀c∈ft k bi li ti su B,Hs c=none):Same Hs H'/\∀c∈ft k bi li ti su B',Hs c=none:=by
 refine⟨λc u e=>bt.eq c u (λm=>?_) (sc c u e),λc m=>?_⟩
 ·have no:c∉ft k bi li ti su B:=λz=>by rw[fs c z] at e;cases e
  have m5:c∈[k,bi,li,ti,su]++[y]:=m;rcases Qn.mp m5 with z|z
  ·exact no (QG _ z)
  obtain rfl:=Qz.mp z;rcases hy with z|z|z
  ·rw[sc c u e] at z;cases z
  ·exact no (QG _ (by rw[z];simp))
  ·exact no (QZ _ z)
 ·rcases Qn.mp m with z|z
  ·exact fs c (QG _ z)
  ·rcases gr c z with z|z
   ·exact fs c (QZ _ z)
   ·exact _W sc z
end
theorem _eQ {k:Addr} (nb:H b=none) (ndx:H dx=none) (keep:∀c o,_d (_d H dx (.own b)) b (.ins C dx []) c=some o->c≠b->H' c=some o)
 (n1:_d (_d H dx (.own b)) b (.ins C dx []) k=none) (n2:_d (_d H dx (.own b)) b (.ins C dx []) bi=none) (n3:_d (_d H dx (.own b)) b (.ins C dx []) li=none) (n4:_d (_d H dx (.own b)) b (.ins C dx []) ti=none) (n5:_d (_d H dx (.own b)) b (.ins C dx []) su=none) :
  Same H H'/\∀c∈ft k bi li ti su _Y,H c=none:=by
 have sb:Same H (_d (_d H dx (.own b)) b (.ins C dx [])):=λc o e=>by rw[_l (_P e nb),_l (_P e ndx)];exact e
 refine⟨λc o e=>keep c o (sb c o e) (_P e nb),λc m=>?_⟩
 have m':c=k\/c=bi\/c=li\/c=ti\/c=su:=by
  have e:ft k bi li ti su _Y=[k,bi,li,ti,su]:=rfl;rw[e] at m;simpa using m
 rcases m' with rfl|rfl|rfl|rfl|rfl
 ·exact _W sb n1
 ·exact _W sb n2
 ·exact _W sb n3
 ·exact _W sb n4
 ·exact _W sb n5
theorem Xv {l:Addr} (n:H l=none):∃H',_d H l o=H'/\Same H H'/\H' l=some o:=⟨_,rfl,_q n,_k⟩
noncomputable def U4 (F:A0->A9) (st:Bool) (p q:Str):Nat->A0->A9
 |0=>F
 |1=>_T F st p q
 |_=>_T (_T F st p q) st q p
theorem _H {e:Expr} {te:TE} {pos':Pos} {P:A9} (i:Nat) (S:FnScope X.N P sc) (he:PE X e te) (hi:X.N[i]?=some x:=by rfl) (hx:Vo X.env.scope x:=by exact .inl rfl) (hs:swapsWith e (some (.Name x pos')) pos.line X.env=pure false:=by rfl) (hf:X.fn x=true\/X.env.scope.names.lookup x=some .local:=by first|exact .inl rfl|exact .inr rfl|assumption):PS X (.Assign [.Name x pos'] e pos) (_aF te (W9 i)):=_cf S.nd hi hx he hs hf
theorem YY {P:A9} (i:Nat) (S:FnScope X.N P sc) (hi:X.N[i]?=some x:=by rfl) (hx:Vo X.env.scope x:=by exact .inl rfl) (hf:X.fn x=true\/X.env.scope.names.lookup x=some .local:=by first|exact .inl rfl|exact .inr rfl|assumption):PG X (.Name x pos) (W9 i):=YO S.nd hi hx hf
theorem _i {r:R2} {a b:Expr} {ta tb:TE} (hr:VJ X r) (ha:PE X a ta) (hb:PE X b tb) (hs:_fY b:=by exact λ_ _=>rfl):PE X (.Subscript a b pos) (VO r ta tb):=_j6 hr ha hb hs
abbrev Wr (i:Nat):Prop:=∀{X:Cx} {x:Str} {pos:Pos} (hN:X.N[i]?=some x:=by rfl) (hv:Uo X.env.scope x:=by first|exact Or.inl rfl|exact Or.inr (Or.inl rfl)|exact Or.inr (Or.inr rfl)) (hd:(x==("__debug__" : Str))=false:=by decide) (hcd:(x==("__classdict__" : Str))=false:=by decide),PE X (.Name x pos) (tVar i)
theorem _f:Wr 0:=λa b c d=>pv _ a b c d
theorem _p:Wr 1:=λa b c d=>pv _ a b c d
theorem _t:Wr 2:=λa b c d=>pv _ a b c d
theorem _X:Wr 3:=λa b c d=>pv _ a b c d
theorem Yh:Wr 4:=λa b c d=>pv _ a b c d
theorem Yw:Wr 5:=λa b c d=>pv _ a b c d
theorem Xo:Wr 6:=λa b c d=>pv _ a b c d
theorem Wb:Wr 7:=λa b c d=>pv _ a b c d
theorem Wp:Wr 8:=λa b c d=>pv _ a b c d
theorem _aN:Wr 9:=λa b c d=>pv _ a b c d
theorem _g {K:W.Frag} {U:St} (h:U[i]?=some (some (.ref a))) (r:SqT K H a xs) (e:YC xs z=some v) (q:Q v H):VO (rIxT K) (tVar i) (tC (.int z)) U H Q:=⟨_,h,a,_,_,_,rfl,rfl,r,e,q⟩
theorem _n7 (f:B.full e=false):B.kept.length<400/\(e.isBorn=true->(Bk.bornD B.kept).length<60):=by
 unfold Bk.full at f;rw[Mc] at f;refine⟨by have:=RB f.1;lia,λb=>?_⟩;have g:=f.2;rw[b,GA] at g;have:=RB g;lia
theorem _aU (h:¬e.tie=true):∃(k:Str) (r:List V),e.row.map kV=.str k::r/\k≠"union"/\k≠"parted":=by
 cases e<;>first|exact absurd rfl h|exact⟨_,_,rfl,by ext,by ext⟩
theorem _dS (h:e.tie=true):∃(x y:Str) (d:Int) (W:Str),e.row.map kV=[.str W,.str x,.str y,.int d]/\(W="union"\/W="parted")/\e.told.key=[.inr "tie",.inr (_h x y).1,.inr (_h x y).2,.inl d]:=by
 cases e with
 |union x y d=>exact⟨x,y,d,_,rfl,.inl rfl,rfl⟩
 |parted x y d=>exact⟨x,y,d,_,rfl,.inr rfl,rfl⟩
 |_=>cases h
theorem _lY {r:List _j} (h:¬e.tie=true):e.told.key≠.inr "tie"::r:=by
 cases e<;>first|exact absurd rfl h|exact λz=>absurd (QT (RL z).1) (by ext)
theorem _cN {m:A6} (p:l.Perm m) (nd:(l.map (·.1)).Nodup):Yr l=Yr m:=by
 have nd':(m.map (·.1)).Nodup:=(p.map _).nodup_iff.mp nd;rcases hx:(l.map (·.1)).max? with _|k
 ·have e:l=[]:=List.map_eq_nil_iff.mp (List.max?_eq_none_iff.mp hx);subst e;rw[p.nil_eq]
 ·have h1:=(List.max?_eq_some_iff).mp hx;obtain⟨x,ex⟩:=_dy h1.1;have em:=_ik nd' (p.mem_iff.mp (Vi ex));rw[_a2 h1.1 h1.2 ex,_a2 ((p.map _).mem_iff.mp h1.1) (λy hy=>h1.2 y ((p.map _).mem_iff.mpr hy)) em]
theorem _a8 {fs:List Ent} (p:es.Perm fs) (c:A0):(tl c es).Perm (tl c fs):=p.filterMap _
theorem Once.perm {fs:List Ent} (h:Once es) (p:es.Perm fs):Once fs:=λc=>((_a8 p c).map _).nodup_iff.mp (h c)
theorem _ft {fs:List Ent} (ap:∀e∈es,Y8 e) (ap':∀e∈fs,Y8 e) (on:Once es) (on':Once fs) (h:∀c,Yr (tl c es)=Yr (tl c fs)) (n:Str):(Yg es).1 ("S",n)=(Yg fs).1 ("S",n):=by
 have a:=_eS ap;have b:=_eS ap';refine Vd ((List.perm_ext_iff_of_nodup (a.nd n) (b.nd n)).mpr λw=>?_) (a.up n) (b.up n);rw[a.mem,b.mem,Js on,Js on',h]
theorem WY {f:Ent->A9} {fs:List Ent} (p:es.Perm fs):_B (es.flatMap f)=_B (fs.flatMap f) :=
 Vd (((Y6 _).trans (p.flatMap_right f)).trans (Y6 _).symm) (Wc _) (Wc _)
theorem _nc {fs:List Ent} (p:es.Perm fs) (ap:∀e∈es,Y8 e) (on:Once es) (c:A0):(Yg es).1 c=(Yg fs).1 c:=by
 obtain⟨l,n⟩:=c;by_cases hl:l∈Xr
 ·simp only[Xr,Qk,Q2,QW] at hl;rcases hl with rfl|rfl|rfl|rfl|rfl|rfl|rfl
  ·rw[_ap.all,_ap.all,WY p]
  ·rw[JM.all,JM.all,WY p]
  ·rw[Ul.all,Ul.all,WY p]
  ·rw[Jm.all,Jm.all,WY p]
  ·rw[JS.all,JS.all,WY p]
  ·rw[JY.all,JY.all,WY p]
  ·exact _ft ap (λe he=>ap e (p.mem_iff.mpr he)) on (on.perm p) (λc=>_cN (_a8 p c) (on c)) n
 ·rw[_ah hl,_ah hl]
theorem _iy {fs:List Ent} (p:es.Perm fs) (c:A0):WF c es=WF c fs:=by
 induction p with
 |nil=>rfl
 |cons x _ ih=>unfold WF at ih ⊢;rw[Qm,Qm,Mi,Mi,ih]
 |swap x y l=>unfold WF;simp only[Qm,Mi];lia
 |trans _ _ a b=>exact a.trans b
noncomputable def WW (e:Ent):Bool:=!e.isBorn
structure Cnt (es:List Ent):Prop where
 b:(es.filter Ent.isBorn).length<=24
 d:(es.filter WW).length<=60
theorem WV (es:List Ent):es.length=(es.filter Ent.isBorn).length+(es.filter WW).length:=by
 induction es with
 |nil=>rfl
 |cons e es ih =>
  rw[Rm,Rm,QC,ih];unfold WW;cases e.isBorn
  ·exact rfl
  ·exact Nat.add_right_comm ..
theorem Cnt.sub {fs:List Ent} (h:Cnt es) (s:fs.Sublist es):Cnt fs:=⟨Qs (s.filter _).length_le h.b,Qs (s.filter _).length_le h.d⟩
theorem Cnt.perm {fs:List Ent} (h:Cnt es) (p:es.Perm fs):Cnt fs:=⟨by rw[<-(p.filter _).length_eq];exact h.b,by rw[<-(p.filter _).length_eq];exact h.d⟩
theorem _gK {f:Ent->A9} {p:Ent->Bool}:∀{es:List Ent},(∀e∈es,p e=false->f e=[])->(es.filter p).flatMap f=es.flatMap f
 |[],_=>rfl
 |e::es,h=>by
  have ih:=_gK (f:=f) (p:=p) (es:=es) λx hx=>h x (QB _ hx);rw[Rm,Nb];cases he:p e with
  |true=>rw[Qb rfl,Nb,ih]
  |false=>rw[Qa (by decide),h e (Qy ..) he,ih];rfl
theorem _nf (c:Cnt es) (ap:∀e∈es,Y8 e) (on:Once es) (x:A0):((Yg es).1 x).length<=60:=by
 obtain⟨l,n⟩:=x
 have six:∀{ad:Str->Ent->A9} (p:Ent->Bool),Adds l ad->(∀e,(ad n e).length<=1)->(∀e,p e=false->ad n e=[])->(es.filter p).length<=60->((Yg es).1 (l,n)).length<=60:=λp A h1 h2 h3=>by
  rw[A.all,(Y6 _).length_eq,<-_gK (p:=p) λe _ he=>h2 e he];exact Qs (_a3 h1 _) h3
 have a:=λe=>Vr n e;have cb:(es.filter Ent.isBorn).length<=60:=Qs c.b (by decide);by_cases hl:l∈Xr
 ·simp only[Xr,Qk,Q2,QW] at hl;rcases hl with rfl|rfl|rfl|rfl|rfl|rfl|rfl
  ·exact six Ent.isBorn _ap (λe=>(a e).1) (λe h=>by cases e<;>first|rfl|cases h) cb
  ·exact six Ent.isBorn JM (λe=>(a e).2.1) (λe h=>by cases e<;>first|rfl|cases h) cb
  ·exact six WW Ul (λe=>(a e).2.2.2.2.1) (λe h=>by cases e<;>first|rfl|cases h) c.d
  ·exact six Ent.isBorn Jm (λe=>(a e).2.2.1) (λe h=>by cases e<;>first|rfl|cases h) cb
  ·exact six Ent.isBorn JS (λe=>(a e).2.2.2.1) (λe h=>by cases e<;>first|rfl|cases h) cb
  ·exact six WW JY (λe=>(a e).2.2.2.2.2) (λe h=>by cases e<;>first|rfl|cases h) c.d
  ·have t:∀c,tl c (es.filter WW)=tl c es:=λc=>by
    unfold tl;rw[List.filterMap_filter];refine QI (λf=>es.filterMap f) (funext λe=>?_);cases e<;>first|rfl|simp[WW,Ent.isBorn,Ent.tie]
   have ap':∀e∈es.filter WW,Y8 e:=λe he=>ap e (QL.mp he).1;rw[_ft ap ap' on (λc=>by rw[t];exact on c) λc=>by rw[t]];exact Qs (_nJ ap' _) c.d
 ·rw[_ah hl];exact QN _
theorem LI5.room9 (h:LI5 pool B B.kept) (c:Cnt (B.kept.map (·.1))):Room1 B:=by
 have e:(B.kept.map (·.1)).length=B.kept.length:=Qd ..;have l:=WV (B.kept.map (·.1));have c1:=c.b;have c2:=c.d;have m1:=h.st.nl;have m2:=h.st.nt;have m3:=h.st.ns;refine⟨h.st.nd,by lia,by lia,by lia,λx=>?_,λx=>?_⟩
 ·rw[h.st.lks];exact _nf c h.ap' h.once x
 ·rw[h.st.tis,Js h.once];exact Qs (_f6 x _) (by lia)
theorem _lM (es:List Ent):(Wv es).length=(es.filter Ent.isBorn).length:=by
 induction es with
 |nil=>rfl
 |cons e es ih =>
  unfold Wv at ih ⊢;rw[Rm,QQ];cases e<;>first|exact ih|exact QI (·+1) ih
theorem Cnt.names (c:Cnt (B.kept.map (·.1))):(Y3 B.kept).length<=24:=by rw[J8,_lM];exact c.b
theorem Cnt.full (c:Cnt (B.kept.map (·.1))) (e:Ent):B.full e=false:=by
 have l:=WV (B.kept.map (·.1));have c1:=c.b;have c2:=c.d;rw[Qd] at l;have n:=c.names;unfold Bk.full;rw[_e8,Qi (show ¬400<=B.kept.length by lia),Qi (show ¬60<=(Y3 B.kept).length by lia),GO];rfl
theorem GdL.ref9 (li:LI5 pool B B.kept) (hk:B.kept.map (·.1)=es) (td:∀x∈es,x.told=x) (g:GdL pool (es++[e])) (c:Cnt es):Xf B e=none/\D5 pool e/\Room1 B:=by
 obtain⟨g0,d5,_,f⟩:=g.last rfl;have l:=WV es;have c1:=c.b;have c2:=c.d;have u:BU (es.map Ent.told):=g0.bu;rw[Wf td] at f u;subst hk;exact⟨_d9 rfl u (by lia) (λ_=>by have:=c.names;lia) f,d5,li.room9 c⟩
theorem GdL.in (g:GdL pool es):∀e∈es,∃xs ys,es=xs++e::ys/\Fit (xs.map Ent.told) e:=by
 induction g with
 |nil=>intro e he;cases he
 |@snoc xs x g d d' f ih =>
  intro e he;rcases Qn.mp he with h|h
  ·obtain⟨us,vs,rfl,hf⟩:=ih e h;exact⟨us,vs++[x],by rw[QH];rfl,hf⟩
  ·obtain rfl:=Qz.mp h;exact⟨xs,[],rfl,f⟩
theorem GdL.nodup (g:GdL pool es):(es.map λe=>e.told.key).Nodup:=by
 induction g with
 |nil=>exact .nil
 |@snoc xs x g d d' f ih =>
  rw[Qu,Rl];refine⟨ih,by simp,λa ha b hb z=>?_⟩;obtain⟨y,hy,rfl⟩:=Qj.mp ha;have hb:b∈[x.told.key]:=hb;rw[Qz.mp hb] at z;exact f.key y.told (Qj.mpr ⟨y,hy,rfl⟩) z
theorem Jx {α β:Type} {f:α->β}:∀{l:List α},(l.map f).Nodup->∀{a b:α},a∈l->b∈l->f a=f b->a=b
 |[],_,_,_,h,_,_=>by cases h
 |x::l,nd,a,b,ha,hb,e=>by
  rw[Qm,Rb] at nd;rcases Qk.mp ha with ea|ha'<;>rcases Qk.mp hb with eb|hb'
  ·rw[ea,eb]
  ·exact absurd (Qj.mpr ⟨b,hb',by rw[<-e,ea]⟩) nd.1
  ·exact absurd (Qj.mpr ⟨a,ha',by rw[e,eb]⟩) nd.1
  ·exact Jx nd.2 ha' hb' e
theorem _ju {xs:List Ent} (g:GdL pool es) (td:∀x∈es,x.told=x) (he:e∈es) (sub:∀x∈xs,x∈es) (no:e∉xs) (kn:∀n∈e.named,∃s d f m,Ent.born n s d f m∈xs):Fit xs e:=by
 obtain⟨us,vs,rfl,f⟩:=g.in e he;have tu:us.map Ent.told=us:=Wf λx hx=>td x (QG _ hx);have u:BU ((us++e::vs).map Ent.told):=g.bu;rw[Wf td] at u;rw[tu] at f;have inu:∀{x:Ent},x∈us->x∈us++e::vs:=λh=>QG _ h
 have up:∀{n s fa m:Str} {d:Int},n∈e.named->Ent.born n s d fa m∈us->Ent.born n s d fa m∈xs:=λhn h=>by
  obtain⟨s',d',f',m',h'⟩:=kn _ hn;rw[u (inu h) (sub _ h')];exact h'
 have dn:∀{n s fa m:Str} {d:Int},n∈e.named->Ent.born n s d fa m∈xs->Ent.born n s d fa m∈us:=λhn h=>by
  obtain⟨s',d',f',m',h',_⟩:=f.kn _ hn;rw[u (sub _ h) (inu h')];exact h'
 refine⟨λn hn=>?_,λx hx z=>?_,λn s d fa mo e1=>?_,λc t d e1 sc dc fc mc st dt ft mt h1 h2=>?_,f.ap⟩
 ·obtain⟨s',d',f',m',h',l⟩:=f.kn n hn;exact⟨s',d',f',m',up hn h',l⟩
 ·have nd:=g.nodup;have hx':=sub x hx;rw[<-td x hx'] at z;have:=Jx nd hx' he z;exact no (this▸hx)
 ·obtain⟨p1,p2⟩:=f.par n s d fa mo e1;subst e1;refine⟨?_,?_⟩
  ·rcases p1 with rfl|⟨d',f',m',h1,l⟩
   ·exact .inl rfl
   ·by_cases z:fa=""
    ·exact .inl z
    ·exact .inr ⟨d',f',m',up (by simp[Ent.named,z]) h1,l⟩
  ·rcases p2 with rfl|⟨d',f',m',h1,l⟩
   ·exact .inl rfl
   ·by_cases z:mo=""
    ·exact .inl z
    ·exact .inr ⟨d',f',m',up (by simp[Ent.named,z]) h1,l⟩
 ·exact f.tk c t d e1 _ _ _ _ _ _ _ _ (dn (by rw[e1];simp[Ent.named]) h1) (dn (by rw[e1];simp[Ent.named]) h2)
theorem _eO {α β:Type} {f:α->β} {l:List α} (h:(l.map f).Nodup):l.Nodup:=(N9.mp h).imp λh e=>h (by rw[e])
theorem _ja {xs ls:List Ent} (g:GdL pool es) (td:∀x∈es,x.told=x) (p:(xs++ls).Perm es) (h:∀e∈ls,∃n∈e.named,∀s d f m,Ent.born n s d f m∉xs):ls=[]:=by
 have all:∀{us:List Ent},GdL pool us->(∀e∈us,e∈es)->∀e∈us,e∈xs:=by
  intro us gu
  induction gu with
  |nil=>intro _ e he;cases he
  |@snoc vs x gv d d' f ih =>
   intro su e he;have iv:=ih λe he=>su e (QG _ he);rcases Qn.mp he with hv|hv
   ·exact iv e hv
   obtain rfl:=Qz.mp hv;rcases Qn.mp (p.mem_iff.mpr (su e he)) with hx|hx
   ·exact hx
   obtain⟨n,hn,no⟩:=h e hx;obtain⟨s,d0,fa,m,h1,_⟩:=f.kn n hn;rw[Wf λx hx=>td x (su x (QG _ hx))] at h1;exact absurd (iv _ h1) (no _ _ _ _)
 cases ls with
 |nil=>rfl
 |cons e ls =>
  have nd:(xs++e::ls).Nodup:=p.nodup_iff.mpr (_eO g.nodup);have he:e∈xs:=all g (λ_ h=>h) e (p.mem_iff.mp (by simp));exact absurd rfl ((Rl.mp nd).2.2 e he e (Qy ..))
noncomputable def Ent.turn:Ent->Ent
 |.union a b d=>.union b a d
 |.parted a b d=>.parted b a d
 |e=>e
theorem _kh (e:Ent):e.turn.told=e.told:=by
 cases e with
 |union a b d=>show Ent.union (_h b a).1 (_h b a).2 d=_;rw[UI];rfl
 |parted a b d=>show Ent.parted (_h b a).1 (_h b a).2 d=_;rw[UI];rfl
 |_=>rfl
theorem _gx (a b:Str):_h a b=(a,b)\/_h a b=(b,a):=by
 unfold _h;split
 ·exact .inr rfl
 ·exact .inl rfl
theorem _bI (e:Ent):e.told=e\/e.told=e.turn:=by
 cases e with
 |union a b d =>
  have t:(Ent.union a b d).told=.union (_h a b).1 (_h a b).2 d:=rfl;rcases _gx a b with z|z<;>rw[t,z]
  ·exact .inl rfl
  ·exact .inr rfl
 |parted a b d =>
  have t:(Ent.parted a b d).told=.parted (_h a b).1 (_h a b).2 d:=rfl;rcases _gx a b with z|z<;>rw[t,z]
  ·exact .inl rfl
  ·exact .inr rfl
 |_=>exact .inl rfl
theorem _iN (h:¬e.tie=true):e.told=e/\e.turn=e:=by
 cases e<;>first|exact absurd rfl h|exact⟨rfl,rfl⟩
theorem _bZ (h:e.tie=true):∃(x y:Str) (d:Int) (W:Str),e.row.map kV=[.str W,.str x,.str y,.int d]/\(W="union"\/W="parted")/\e.told.row.map kV=[.str W,.str (_h x y).1,.str (_h x y).2,.int d]/\e.turn.row.map kV=[.str W,.str y,.str x,.int d]:=by
 cases e with
 |union x y d=>exact⟨x,y,d,_,rfl,.inl rfl,rfl,rfl⟩
 |parted x y d=>exact⟨x,y,d,_,rfl,.inr rfl,rfl,rfl⟩
 |_=>cases h
structure Gd9 (e:Ent):Prop where
 ok:e.Ok
 tn:e.turn.Ok
theorem Gd9.told (h:Gd9 e):e.told.Ok:=by
 rcases _bI e with z|z<;>rw[z]
 ·exact h.ok
 ·exact h.tn
theorem _eW {W:Str} (h:W="union"\/W="parted"):Xp (V.str W) [V.str "union",V.str "parted"]=true:=by rcases h with rfl|rfl<;>ext
theorem _dD {k:Str} (h:k≠"union") (h':k≠"parted"):Xp (V.str k) [V.str "union",V.str "parted"]=false:=(JK k ["union","parted"]).trans (Qi (by simp[h,h']))
structure Ord9 (ks os:List (Ent×Addr)):Prop where
 pm:(os.map λp=>p.1.told).Perm (ks.map λp=>p.1.told)
 of:∀p∈os,∃e∈ks.map (·.1),p.1=e\/p.1=e.turn
theorem Ord9.nil:Ord9 [] []:=⟨.nil,λp hp=>by cases hp⟩
theorem Ord9.len (h:Ord9 ks os):os.length=ks.length:=by
 have:=h.pm.length_eq
 rwa [Qd,Qd] at this
theorem Ord9.put {e':Ent} {t:Addr} {k:Nat} (h:Ord9 ks os) (he:e'=e\/e'=e.turn):Ord9 (ks++[(e,a)]) (os.take k++(e',t)::os.drop k):=by
 have td:e'.told=e.told:=by
  rcases he with z|z<;>rw[z];exact _kh e
 have p1:(os.take k++(e',t)::os.drop k).Perm ((e',t)::os):=by
  have:=List.perm_middle (l₁:=os.take k) (a:=(e',t)) (l₂:=os.drop k)
  rwa [QR] at this
 refine⟨?_,λp hp=>?_⟩
 ·refine(p1.map _).trans ?_;rw[Qm,Qu];refine(List.Perm.cons _ h.pm).trans ?_;rw[td];exact(List.perm_append_singleton _ _).symm
 ·rcases Qk.mp (p1.mem_iff.mp hp) with rfl|hp
  ·exact⟨e,by simp,he⟩
  ·obtain⟨x,hx,e1⟩:=h.of p hp;exact⟨x,by rw[Qu];exact QG _ hx,e1⟩
theorem _eX (h:(_v ks)[i]?=some v):∃p,ks[i]?=some p/\v=.ref p.2:=by
 unfold _v at h;rw[Qv] at h;obtain⟨p,hp,rfl⟩:=Q8.mp h;exact⟨p,hp,rfl⟩
theorem UA {α:Type} {l:List α} {x:α} (h:l[i]?=some x):l.take (i+1)=l.take i++[x]:=by rw[GT,h];rfl
structure Fl9 (pool:A9) (es:List Ent):Prop where
 g:GdL pool es
 td:∀x∈es,x.told=x
 c:Cnt es
structure Fs9 (pool:A9) (es:List Ent) (B:Bk) (ls:List (Ent×Addr)):Prop where
 li:LI5 pool B B.kept
 g:GdL pool (B.kept.map (·.1))
 pm:(B.kept.map (·.1)++ls.map λp=>p.1.told).Perm es
theorem JV:Known B n↔∃s d f m,Ent.born n s d f m∈B.kept.map (·.1):=by
 constructor
 ·intro h;unfold Known at h;obtain⟨p,hp⟩:=Option.ne_none_iff_exists'.mp h;obtain⟨h1,h2⟩:=JN hp;obtain⟨e,a⟩:=p;cases e with
  |born n' s d f m=>cases h2;exact⟨s,d,f,m,Qj.mpr ⟨_,h1,rfl⟩⟩
  |_=>cases h2
 ·rintro⟨s,d,f,m,h⟩;obtain⟨p,hp,e⟩:=Qj.mp h;exact K09.born_known (RN.mpr ⟨p,hp,by rw[e];rfl⟩)
theorem _bH (e:Ent) (n:Str):n∈e.turn.named↔n∈e.named:=by
 cases e with
 |union a b d=>exact⟨λh=>by simp[Ent.named,Ent.turn] at h ⊢;exact h.symm,λh=>by simp[Ent.named,Ent.turn] at h ⊢;exact h.symm⟩
 |parted a b d=>exact⟨λh=>by simp[Ent.named,Ent.turn] at h ⊢;exact h.symm,λh=>by simp[Ent.named,Ent.turn] at h ⊢;exact h.symm⟩
 |_=>exact Iff.rfl
theorem JA (e:Ent) (n:Str):n∈e.told.named↔n∈e.named:=by
 rcases _bI e with z|z<;>rw[z];exact _bH e n
theorem Fit.back {xs:List Ent} (f:Fit xs e.told):Fit xs e:=by
 rcases _bI e with z|z
 ·rw[z] at f;exact f
 have k:=f.key;rw[Wq] at k;have kn:=f.kn;have ap:=f.ap;rw[z] at kn ap
 have sm:e.turn.day=e.day/\e.turn.same=e.same:=by
  cases e with
  |union a b d=>exact⟨rfl,decide_eq_decide.mpr ⟨Eq.symm,Eq.symm⟩⟩
  |parted a b d=>exact⟨rfl,decide_eq_decide.mpr ⟨Eq.symm,Eq.symm⟩⟩
  |_=>exact⟨rfl,rfl⟩
 rw[sm.1] at kn;refine⟨λn hn=>kn n ((_bH e n).mpr hn),k,λn s d fa mo h=>?_,λc t d h=>?_,sm.2.symm.trans ap⟩
 ·subst h;exact f.par n s d fa mo rfl
 ·subst h;exact f.tk c t d rfl
section
variable{ls:List (Ent×Addr)}
theorem Fs9.cnt (h:Fs9 pool es B ls) (f:Fl9 pool es):Cnt (B.kept.map (·.1)):=(f.c.perm h.pm.symm).sub (List.sublist_append_left ..)
theorem Fs9.into {lt rs:List (Ent×Addr)} (h:Fs9 pool es B (lt++p::rs)) (f:Fl9 pool es) (ok:p.1.Ok) (kn:∀n∈p.1.named,Known B n):Xf B p.1=none/\Room1 B/\∀B',Put B p.1 B'->Fs9 pool es B' (lt++rs):=by
 have he:p.1.told∈es:=h.pm.mem_iff.mp (QZ _ (Qj.mpr ⟨p,by simp,rfl⟩));have nd:(B.kept.map (·.1)++(lt++p::rs).map λp=>p.1.told).Nodup:=h.pm.nodup_iff.mpr (_eO f.g.nodup);have no:p.1.told∉B.kept.map (·.1):=λz=>(Rl.mp nd).2.2 _ z _ (Qj.mpr ⟨p,by simp,rfl⟩) rfl;have ft:Fit (B.kept.map (·.1)) p.1.told:=_ju f.g f.td he (λx hx=>h.pm.mem_iff.mp (QG _ hx)) no λn hn=>JV.mp (kn n (J7 _ n hn));have tk:(B.kept.map (·.1)).map Ent.told=B.kept.map (·.1):=Wf λx hx=>f.td x (h.pm.mem_iff.mp (QG _ hx));have u:BU ((B.kept.map (·.1)).map Ent.told):=h.g.bu;rw[tk] at u;have c:=h.cnt f;have l:=WV (B.kept.map (·.1));have c1:=c.b;have c2:=c.d;have nr:Xf B p.1=none:=_d9 rfl u (by lia) (λ_=>by have:=c.names;lia) ft.back;have d5:=f.g.d5 _ he;have d5':D5 pool p.1:=⟨ok,λn hn=>d5.2.1 n ((JA _ n).mpr hn),λn hn=>d5.2.2 n (by rw[VX];exact hn)⟩;refine⟨nr,h.li.room9 c,λB' pt=>?_⟩;obtain⟨li,ke⟩:=h.li.put' pt d5' nr;refine⟨li,?_,?_⟩
 ·rw[ke];exact .snoc h.g d5 (by rw[Wq];exact d5) (by rw[tk];exact ft)
 ·rw[ke];refine List.Perm.trans ?_ h.pm;rw[QH,Qu,Qu,Qm];exact(RY _ (List.perm_middle (l₁:=lt.map λp=>p.1.told) (a:=p.1.told))).symm
theorem Fs9.late {lt rs:List (Ent×Addr)} (h:Fs9 pool es B (lt++p::rs)):Fs9 pool es B (lt++[p]++rs):=by rw[QH];exact h
theorem Fs9.stuck (h:Fs9 pool es B ls) (f:Fl9 pool es) (no:∀p∈ls,∃n∈p.1.named,_Q n B.kept=none):ls=[]:=by
 have:=_ja f.g f.td h.pm λe he=>by
  obtain⟨p,hp,rfl⟩:=Qj.mp he;obtain⟨n,hn,z⟩:=no p hp;refine⟨n,(JA _ n).mpr hn,λs d f m hb=>absurd z (JV.mpr ⟨s,d,f,m,hb⟩)⟩
 exact List.map_eq_nil_iff.mp this
end
def Th9 (H:Hp) (th:Addr) (B:Bk):Prop:=∃kvs:List (_j×V),H th=some (.dK kvs)/\kvs.length<=B.kept.length+1/\∀n:Str,n≠""->(_K kvs (.inr n)).isSome=(_Q n B.kept).isSome
structure Hp9 (K:W.Frag) (C:Addr) (Hs H:Hp) (b dx k bi li ti su th:Addr) (B:Bk):Prop where
 bk:BkAt K C H b dx k bi li ti su B
 ts:Th9 H th B
 off:th∉ft k bi li ti su B
 nt:Hs th=none
 sm:Same Hs H
 fr:∀c∈ft k bi li ti su B,Hs c=none
section
variable{K:W.Frag} {Hs:Hp} {k th y:Addr}
theorem Hp9.same (h:Hp9 K C Hs H b dx k bi li ti su th B) (s:Same H H'):Hp9 K C Hs H' b dx k bi li ti su th B:=⟨h.bk.mono s,(let ⟨kvs,h1,h2⟩:=h.ts;⟨kvs,s _ _ h1,h2⟩),h.off,h.nt,h.sm.trans s,h.fr⟩
theorem Hp9.list (h:Hp9 K C Hs H b dx k bi li ti su th B) (bt:But [k,bi,li,ti,su,y] H H') (hy:H y=none\/y=bi\/y∈B.ties.map (·.2.1)) (gr:GrowsT H B.ties B'.ties) (e:H c=some (.lst xs)):H' c=some (.lst xs) :=
 (Ut bt hy gr (UO H (ft k bi li ti su B)) λc m=>V5 m).1 _ _ (XR h.bk.dicts e rfl)
theorem _fh (p:Put B e B') (n:Str):(_Q n B'.kept).isSome=((_Q n B.kept).isSome||decide (e.told.bornName=some n)):=by
 obtain⟨a,ha⟩:=p.kept;rw[ha,_bE];have:_Q n [(e.told,a)]=if e.told.bornName=some n then some (e.told,a) else none:=rfl;rw[this];cases _Q n B.kept with
 |some x=>rfl
 |none=>by_cases z:e.told.bornName=some n<;>simp[z]
theorem Hp9.put (h:Hp9 K C Hs H b dx k bi li ti su th B) (hB:BkAt K C H' b dx k bi li ti su B') (p:Put B e B') (bt:But [k,bi,li,ti,su,y] H H') (hy:H y=none\/y=bi\/y∈B.ties.map (·.2.1)) (gr:GrowsT H B.ties B'.ties) :
  ∃kvs:List (_j×V),H' th=some (.dK kvs)/\kvs.length<=B.kept.length+1/\(e.isBorn=false->Hp9 K C Hs H' b dx k bi li ti su th B')/\∀n s d f m,e=.born n s d f m->Hp9 K C Hs (_d H' th (.dK (Yi kvs (.inr n) (.bl true)))) b dx k bi li ti su th B':=by
 obtain⟨kvs,h1,h2,h3⟩:=h.ts;obtain⟨s1,f1⟩:=Ut bt hy gr (UO H (ft k bi li ti su B)) λc m=>V5 m;obtain⟨s2,f2⟩:=Ut bt hy gr h.sm h.fr;have ht:H' th=some (.dK kvs):=s1 _ _ ((Jq h.off).trans h1)
 have no:th∉ft k bi li ti su B':=λz=>by
  have:=f1 th z;rw[Jq h.off,h1] at this;cases this
 obtain⟨a,ha⟩:=p.kept;have hl:B'.kept.length=B.kept.length+1:=by rw[ha,Qq];rfl
 refine⟨kvs,ht,h2,λnb=>⟨hB,⟨kvs,ht,by lia,λn n0=>?_⟩,no,h.nt,s2,f2⟩,λn s d f m he=>?_⟩
 ·rw[_fh p,h3 n n0,VX];have bn:e.bornName=none:=by cases e<;>first|rfl|cases nb
  rw[bn];exact(Nj _).symm
 ·have sx:Same (Yt H' [th]) (_d H' th (.dK (Yi kvs (.inr n) (.bl true)))):=λc u z=>by
   have nc:c≠th:=λy=>by rw[y,V5 (by simp)] at z;cases z
   rw[_l nc]
   rwa [Jq (by simpa using nc)] at z
  have dj:∀c∈[th],c∉ft k bi li ti su B':=λc hc=>by rw[Qz.mp hc];exact no
  have bk2:=(hB.rest (S:=[th]) (λc hc=>by rw[Qz.mp hc];exact .inr ⟨_,ht⟩) dj).mono sx;refine⟨bk2,⟨_,_k,by have:=JJ kvs (.inr n:_j) (.bl true);lia,λx x0=>?_⟩,no,h.nt,λc u z=>?_,f2⟩
  ·rw[_fZ,_fh p,VX,he];by_cases e1:x=n
   ·subst e1;rw[Qb rfl,show decide ((Ent.born x s d f m).bornName=some x)=true from Ql rfl,Bool.or_true];rfl
   ·rw[Qa (λz=>e1 (QT z)),h3 x x0,show decide ((Ent.born n s d f m).bornName=some x)=false from Qi (λz=>e1 (Qt z).symm),Nj]
  ·have nc:c≠th:=λy=>by rw[y,h.nt] at z;cases z
   rw[_l nc];exact s2 _ _ z
theorem BkAt.lst {D:Addr} (h:BkAt K C H b dx k bi li ti su B) (hD:H D=some (.lst xs)) (nl:∀q∈B.links,q.2.1≠D):BkAt K C (_d H D o) b dx k bi li ti su B:=by
 have off:∀{c:Addr} {u:HO},H c=some u->(∀ys,u≠.lst ys)->_d H D o c=some u:=λ{c u} e no=>(_l λz=>by rw[z,hD] at e;cases e;exact no _ rfl).trans e;exact⟨off h.ob (λ_ z=>by cases z),h.ap,h.at',off h.ke (λ_ z=>by cases z),off h.bi (λ_ z=>by cases z),off h.li (λ_ z=>by cases z),off h.ti (λ_ z=>by cases z),off h.su (λ_ z=>by cases z),λp hp=>XB (h.en p hp) hD (λ_ z=>by cases z) (λ_ _ z=>by cases z),λq hq=>(_l (nl q hq)).trans (h.ll q hq),λq hq=>off (h.tt q hq) (λ_ z=>by cases z)⟩
theorem Hp9.lst {D:Addr} (h:Hp9 K C Hs H b dx k bi li ti su th B) (hD:H D=some (.lst xs)) (nl:∀q∈B.links,q.2.1≠D) (nD:Hs D=none):Hp9 K C Hs (_d H D o) b dx k bi li ti su th B:=by
 obtain⟨kvs,h1,h2⟩:=h.ts;exact⟨h.bk.lst hD nl,⟨kvs,(_l λz=>by rw[z,hD] at h1;cases h1).trans h1,h2⟩,h.off,h.nt,_au h.sm nD,h.fr⟩
theorem Grows.off {D:Addr} (g:Grows H ls ls') (nl:∀q∈ls,q.2.1≠D) (hD:H D=some o):∀q∈ls',q.2.1≠D:=λq hq z=>by
 rcases g q hq with⟨p,hp,e⟩|e
 ·exact nl p hp (e.trans z)
 ·rw[z,hD] at e;cases e
theorem Hp9.row (h:Hp9 K C Hs H b dx k bi li ti su th B) (bt:But [k,bi,li,ti,su,y] H H') (hy:H y=none\/y=bi\/y∈B.ties.map (·.2.1)) (gr:GrowsT H B.ties B'.ties) (e:SqT K H c xs):SqT K H' c xs :=
 (Ut bt hy gr (UO H (ft k bi li ti su B)) λc m=>V5 m).1.sqt (UZ h.bk.dicts e)
structure Pa9 (K:W.Frag) (C:Addr) (Hs H:Hp) (b dx k bi li ti su th lf lt:Addr) (pool:A9) (es:List Ent) (os ls:List (Ent×Addr)) (B0:Bk) (i:Nat) (B:Bk) (late:List (Ent×Addr)):Prop where
 hp:Hp9 K C Hs H b dx k bi li ti su th B
 fs:Fs9 pool es B (late++ls.drop i)
 sub:∀p∈late,p∈os
 nl:∀q∈B.links,q.2.1≠lt
 hf:H lf=some (.lst (_v ls))
 ht:H lt=some (.lst (_v late))
 ll:late.length<=i
 pg:late.length<i\/(B.kept=B0.kept/\late=ls.take i/\∀p∈late,∃n∈p.1.named,_Q n B0.kept=none)
end
structure Al9 (B B':Bk) (n:Str):Prop where
 kn:Known B n
 kn':Known B' n
 lk:∀l,Yc B l n=Yc B' l n
 so:W8 B n=W8 B' n
 da:_6 B n=_6 B' n
 de:Xb B n=Xb B' n
theorem _aw (h:_Q n B.kept=some p) (e:p.1=.born n' s d f m):s=W8 B n/\d=_6 B n:=⟨(_bo h e).symm,(V7 h e).symm⟩
theorem _lL (B:Bk) (n:Str):_bq (Xb B n) (Xb B n)=true:=by
 unfold Xb;cases Xd n B.kept<;>rfl
theorem _aS (B:Bk) (z:V) (a b:Str):Wh B z a b=Wh B z b a:=by unfold Wh;rw[UI]
structure Tw9 (B B':Bk) (x y:Str):Prop where
 kx:Known B x
 ky:Known B y
 kx':Known B' x
 ky':Known B' y
 ln:∀c,(_9 B c).length<=100
 ln':∀c,(_9 B' c).length<=100
 st:∀z,Wh B z x y=Wh B' z x y
 su:YD B.sums (x,y)=YD B'.sums (x,y)
theorem _lK (nb:e.isBorn=false) (nd:e.kw≠"dead"):∃(W x y:Str) (z:Int) (r:List V),e.row.map kV=.str W::.str x::.str y::.int z::r/\W≠"dead"/\W≠"born"/\e.named=[x,y]:=by
 cases e with
 |born=>cases nb
 |dead=>exact absurd rfl nd
 |_=>exact⟨_,_,_,_,_,rfl,by ext,by ext,rfl⟩
structure Ud9 (pool:A9) (B:Bk) (us:List (Ent×Addr)) (d:Int):Prop where
 li:LI5 pool B B.kept
 g:GdL pool (B.kept.map (·.1))
 c:Cnt (B.kept.map (·.1))
 pm:(B.kept.map (·.1)).Perm ((us.filter λp=>decide (p.1.day<=d)).map (·.1))
 so:(us.map λp=>p.1.row).Pairwise λx y=>SA.rLt y x=false
noncomputable def Xh (p:Ent×Addr):Bool:=p.1.isBorn
noncomputable def _aA (p:Ent×Addr):Str:=p.1.bornName.getD ""
noncomputable def WH (n:Str):Ent->B8
 |.dead m d=>if m=n then some d else none
 |_=>none
noncomputable def Vf (n:Str):Ent->Option Str
 |.taken c t _=>if c=n then some t else none
 |_=>none
noncomputable def Wx (n:Str):Ent->Option Str
 |.born m _ _ f _=>if f=n then some m else none
 |_=>none
theorem _aD {α:Type} (g:α->V) (f:Ent->Option α):∀l:List (Ent×Addr),(l.map λp=>(f p.1).map g).filterMap id=((l.map (·.1)).filterMap f).map g
 |[]=>rfl
 |p::l=>by
  have ih:=_aD g f l;rw[Qm,QQ,Qm,QQ];cases f p.1 with
  |none=>exact ih
  |some x=>exact QI (g x::·) ih
theorem _eZ {ad:Ent->A9} {f:Ent->Option Str} (h:∀e,ad e=(f e).toList) (l:List Ent):l.flatMap ad=l.filterMap f:=by
 induction l with
 |nil=>rfl
 |cons e l ih =>
  rw[Nb,QQ,h,ih];cases f e<;>rfl
theorem _hF (n:Str) (e:Ent):VT n e=(Vf n e).toList:=by
 cases e with
 |taken c t d =>
  unfold VT Vf;by_cases h:c=n
  ·simp[h]
  ·simp[h,QM h]
 |_=>rfl
theorem _m4 (n0:n≠"") (e:Ent):VP n e=(Wx n e).toList:=by
 cases e with
 |born m s d f mo =>
  unfold VP Wx;by_cases h:f=n
  ·simp[h,n0]
  ·simp[h,QM h]
 |_=>rfl
theorem _fm:∀l:List (Ent×Addr),(l.filter Xh).map _aA=Wv (l.map (·.1))
 |[]=>rfl
 | (e,a)::l=>by
  have ih:=_fm l;unfold Wv at ih ⊢;rw[Qm,QQ,Rm];cases e<;>first|exact ih|exact QI (_::·) ih
theorem Ud9.rows (h:Ud9 pool B us d) {out:List (Ent×Addr)} (pm:out.Perm B.kept) (so:(out.map λp=>p.1.row).Pairwise λx y=>SA.rLt y x=false):(out.map λp=>p.1.row)=(us.filter λp=>decide (p.1.day<=d)).map λp=>p.1.row:=by
 refine _bJ ?_ so (h.so.sublist ((GB (l:=us)).map _));have a1:=pm.map λp:Ent×Addr=>p.1.row;have a2:=h.pm.map Ent.row;rw[QF,QF] at a2;exact a1.trans a2
theorem _hG {s' f' m':Str} {d':Int} (h:SA.rLt (Ent.born n' s' d' f' m').row (Ent.born n s d f m).row=false):Yz n n'=true:=by
 have e:SA.rLt (Ent.born n' s' d' f' m').row (Ent.born n s d f m).row=SA.rLt (.inr n'::[.inr s',.inl d',.inr f',.inr m']) (.inr n::[.inr s,.inl d,.inr f,.inr m]):=Qb rfl;rw[e,SA.rLt] at h;unfold Yz _J;by_cases z:n'=n
 ·rw[z,Qi (N8 _)];rfl
 ·rw[Qa λy=>z (QT y)] at h;have h:decide (n'.cps.toList<n.cps.toList)=false:=h;rw[h];rfl
theorem Ud9.names (h:Ud9 pool B us d):_B (Y3 B.kept)=((us.filter λp=>decide (p.1.day<=d)).filter Xh).map _aA:=by
 refine Vd ?_ (Wc _) ?_
 ·refine(Y6 _).trans ?_;rw[J8,_fm];exact h.pm.filterMap _
 ·have s1:(((us.filter λp=>decide (p.1.day<=d)).filter Xh).map λp=>p.1.row).Pairwise λx y=>SA.rLt y x=false:=h.so.sublist (((GB (l:=us.filter λp=>decide (p.1.day<=d))).trans (GB (l:=us))).map _);rw[N9] at s1 ⊢;refine s1.imp_of_mem λ{x y} hx hy hh=>?_;have bx:=(QL.mp hx).2;have by':=(QL.mp hy).2
  obtain⟨x,a⟩:=x;obtain⟨y,a'⟩:=y;cases x with
  |born n s d f m =>
   cases y with
   |born n' s' d' f' m'=>exact _hG hh
   |_=>cases by'
  |_=>cases bx
theorem Ud9.stepT (h:Ud9 pool B us d) (n:Str):Yc B "T" n=_B (((us.filter λp=>decide (p.1.day<=d)).map (·.1)).filterMap (Vf n)):=by
 show lk B.links ("T",n)=_;rw[h.li.st.lks,Ul.all,WY h.pm,_eZ (_hF n)]
theorem Ud9.stepf (h:Ud9 pool B us d) (n0:n≠""):Yc B "f" n=_B ((((us.filter λp=>decide (p.1.day<=d)).filter Xh).map (·.1)).filterMap (Wx n)):=by
 show lk B.links ("f",n)=_;rw[h.li.st.lks,Jm.all,WY h.pm,_eZ (_m4 n0)]
 congr 1
 generalize us.filter (λp=>decide (p.1.day<=d))=l
 induction l with
 |nil=>rfl
 |cons p l ih =>
  obtain⟨e,a⟩:=p;rw[Rm,Qm,QQ,ih];cases e<;>rfl
theorem Ud9.dead (h:Ud9 pool B us d) (n:Str):[Xb B n]=(((((us.filter λp=>decide (p.1.day<=d)).map (·.1)).filterMap (WH n)).map V.int)++[V.non]).take 1:=by
 have mem:∀x,x∈((us.filter λp=>decide (p.1.day<=d)).map (·.1)).filterMap (WH n)↔Ent.dead n x∈B.kept.map (·.1):=λx=>by
  rw[h.pm.mem_iff,RN];constructor
  ·rintro⟨e,he,e1⟩;cases e with
   |dead m d' =>
    have e1:(if m=n then some d' else none)=some x:=e1;by_cases z:m=n
    ·rw[Qb z] at e1;cases e1;rw[z] at he;exact he
    ·rw[Qa z] at e1;cases e1
   |_=>cases e1
  ·intro he;exact⟨_,he,Qb rfl⟩
 generalize ((us.filter λp=>decide (p.1.day<=d)).map (·.1)).filterMap (WH n)=l at *;unfold Xb;cases hd:Xd n B.kept with
 |none =>
  cases l with
  |nil=>rfl
  |cons x l =>
   obtain⟨p,hp,e⟩:=Qj.mp ((mem x).mp (Qy ..));exact absurd e (UG hd p hp x)
 |some r =>
  obtain⟨d0,a⟩:=r;have h0:=Vn hd;have m0:Ent.dead n d0∈B.kept.map (·.1):=Qj.mpr ⟨_,h0,rfl⟩;cases l with
  |nil=>exact absurd ((mem d0).mpr m0) (by simp)
  |cons x l =>
   have:=Jx h.g.nodup ((mem x).mp (Qy ..)) m0 rfl;cases this;rfl
noncomputable def Uh (f:Ent×Addr->Bool) (p:Ent×Addr):Option V:=if f p=true then some (.ref p.2) else none
theorem _bc (f:Ent×Addr->Bool):∀l:List (Ent×Addr),(l.map (Uh f)).filterMap id=_v (l.filter f)
 |[]=>rfl
 |p::l=>by
  have ih:=_bc f l;rw[Qm,QQ,Rm];unfold Uh at ih ⊢;by_cases h:f p=true
  ·rw[Qb h,Qb h];exact QI (V.ref p.2::·) ih
  ·rw[Qa h,Qa h];exact ih
theorem _na {x:Ent} {W:Str} (h:x.word≠W):decide (V.str x.word=V.str W)=false:=Qi λz=>h (V.str.inj z)
theorem _nq (K:W.Frag) (H:Hp) (B:Bk) (n:Str):∃dd:D,Is K H dd (Xb B n)/\Xk dd=0:=by
 unfold Xb;cases Xd n B.kept with
 |none=>exact⟨.non,rfl,rfl⟩
 |some r=>exact⟨.int r.1,rfl,rfl⟩
theorem _nF (xs:List V) (k:Nat) (h:k<=xs.length):Ym xs none (some (k:Int))=xs.take k:=by
 unfold Ym;show(xs.drop 0).take (HT.sIx xs.length xs.length (some (k:Int))-0)=_;rw[HT.sIx_nat,Gx,Nat.sub_zero,Nat.min_eq_left h]
theorem BOk.gdl:∀{bs:List Ent},BOk bs->bs.length<=24->(∀e∈bs,∀n,e.bornName=some n->n∈pool)->GdL pool bs:=by
 intro bs h
 induction h with
 |nil=>intro _ _;exact .nil
 |@snoc bs n s f m d h hn nw hs lo hi hf hm ih =>
  intro l p;rw[Qq] at l;have l:bs.length+1<=24:=l;have tb:bs.map Ent.told=bs:=Wf λx hx=>by obtain⟨n',s',d',f',m',rfl⟩:=Wm h hx;rfl
  have pr:∀{x so:Str},(x=""\/∃d' f' m',Ent.born x so d' f' m'∈bs)->(x=""\/Nm x)/\(x≠""->x∈pool)/\(x=""\/∃d' f' m',Ent.born x so d' f' m'∈bs/\d'<d):=λ{x so} hx=>by
   rcases hx with z|⟨d',f',m',hx⟩
   ·exact⟨.inl z,λy=>absurd z y,.inl z⟩
   obtain⟨i,hi',e1⟩:=RV hx;obtain⟨_,_,_,_,_,ee,nm',_,l1,u1⟩:=h.at (Qp hi');rw[e1] at ee;cases ee;exact⟨.inr nm',λ_=>p _ (QG _ hx) _ rfl,.inr ⟨d',f',m',hx,by lia⟩⟩
  obtain⟨f1,f2,f3⟩:=pr hf;obtain⟨m1,m2,m3⟩:=pr hm;have ok:=_jP hn hs (show -10 ^ 18<=d by lia) (show d<=10 ^ 18 by lia) f1 m1
  have nm:∀x∈(Ent.born n s d f m).named,(x=f/\f≠"")\/(x=m/\m≠""):=λx hx=>by
   have hx':x∈[f,m].filter λx:Str=>decide (x≠""):=hx;rw[QL] at hx';have x0:x≠"":=by simpa using hx'.2
   rcases Qk.mp hx'.1 with rfl|hx2
   ·exact .inl ⟨rfl,x0⟩
   ·rw[show x=m by simpa using hx2] at x0 ⊢;exact .inr ⟨rfl,x0⟩
  have d5:D5 pool (Ent.born n s d f m):=⟨ok,λx hx=>(nm x hx).elim (λz=>z.1▸f2 z.2) (λz=>z.1▸m2 z.2),λx hx=>p _ (QZ _ (Qz.mpr rfl)) x hx⟩;refine .snoc (ih (by lia) λe he=>p e (QG _ he)) d5 d5 ?_;rw[tb];refine⟨λx hx=>?_,λx hx z=>?_,λn' s' d' f' m' e=>?_,(λc t d' e=>by cases e),rfl⟩
  ·rcases nm x hx with⟨rfl,z⟩|⟨rfl,z⟩
   ·rcases f3 with y|⟨d',f',m',h1,h2⟩
    ·exact absurd y z
    ·exact⟨_,d',f',m',h1,by show d'<=d;lia⟩
   ·rcases m3 with y|⟨d',f',m',h1,h2⟩
    ·exact absurd y z
    ·exact⟨_,d',f',m',h1,by show d'<=d;lia⟩
  ·obtain⟨n',s',d',f',m',rfl⟩:=Wm h hx;have e2:[(.inr "born" : _j),.inr n']=[.inr "born",.inr n]:=z;injection e2 with _ e3;injection e3 with e4;exact nw _ hx (by show some n'=some n;rw[QT e4])
  ·cases e;exact⟨f3,m3⟩
theorem Deed.turn {bs:List Ent} (h:Deed bs e):Deed bs e.turn:=by
 cases h with
 |union h h' ne lo hi=>exact .union h' h (QM ne) lo hi
 |parted h h' ne lo hi=>exact .parted h' h (QM ne) lo hi
 |dead h lo hi=>exact .dead h lo hi
 |taken h h' lt lo hi=>exact .taken h h' lt lo hi
 |given h h' ne a1 a2 lo hi=>exact .given h h' ne a1 a2 lo hi
theorem _fz {bs:List Ent} (hb:BOk bs) (l:bs.length<=24) (h:Deed bs e):FitB bs e/\Gd9 e:=by
 have ok:=h.ok hb;have tn:=h.turn.ok hb;have g:Gd9 e:=⟨ok,tn⟩
 have le:∀{n s f m:Str} {d x:Int},Ent.born n s d f m∈bs->8*10 ^ 17<=x->d<=x:=λh lo=>by
  obtain⟨_,_,_,h2⟩:=hb.nm h;lia
 refine⟨⟨h.notBorn,ok,g.told,?_,?_,?_⟩,g⟩
 ·cases h with
  |dead h lo hi=>exact λn hn=>by rw[Qz.mp hn];exact⟨_,_,_,_,h,le h lo⟩
  |taken h h' lt lo hi=>exact λn hn=>in2 (P:=λn=>∃s d f m,Ent.born n s d f m∈bs/\d<=_) hn ⟨_,_,_,_,h,le h lo⟩ ⟨_,_,_,_,h',le h' lo⟩
  |union h h' ne lo hi=>exact λn hn=>in2 (P:=λn=>∃s d f m,Ent.born n s d f m∈bs/\d<=_) hn ⟨_,_,_,_,h,le h lo⟩ ⟨_,_,_,_,h',le h' lo⟩
  |parted h h' ne lo hi=>exact λn hn=>in2 (P:=λn=>∃s d f m,Ent.born n s d f m∈bs/\d<=_) hn ⟨_,_,_,_,h,le h lo⟩ ⟨_,_,_,_,h',le h' lo⟩
  |given h h' ne a1 a2 lo hi=>exact λn hn=>in2 (P:=λn=>∃s d f m,Ent.born n s d f m∈bs/\d<=_) hn ⟨_,_,_,_,h,le h lo⟩ ⟨_,_,_,_,h',le h' lo⟩
 ·intro c t d e1 sc dc fc mc st dt ft mt h1 h2;cases h with
  |taken h h' lt lo hi =>
   cases e1;have a1:=hb.names h h1;have a2:=hb.names h' h2;cases a1;cases a2;exact lt
  |_=>cases e1
 ·cases h with
  |dead=>rfl
  |taken h h' lt lo hi=>exact Qi λz=>by subst z;have:=hb.names h h';cases this;lia
  |union h h' ne lo hi=>exact Qi ne
  |parted h h' ne lo hi=>exact Qi ne
  |given h h' ne a1 a2 lo hi=>exact Qi ne
theorem _ge {bs:List Ent} (h:BOk bs) (he:e∈bs):e.told=e/\e.turn=e:=by
 obtain⟨n,s,d,f,m,rfl⟩:=Wm h he;exact⟨rfl,rfl⟩
structure Rw9 (pool:A9) (rs:List Ent):Prop where
 fl:Fl9 pool (rs.map Ent.told)
 gd:∀e∈rs,Gd9 e
 nn:∀e∈rs,∀n∈e.named,n≠""
 nb:∀e∈rs,∀n,e.bornName=some n->n≠""
theorem _nX {bs ds:List Ent} (hb:BOk bs) (hd:DOk bs ds) (bl:bs.length<=24) (dl:ds.length<=60):∃pool,Rw9 pool (bs++ds):=by
 have tb:bs.map Ent.told=bs:=Wf λx hx=>(_ge hb hx).1;have g0:GdL (Wv bs) bs:=hb.gdl bl λe he n hn=>RN.mpr ⟨e,he,hn⟩
 have nd:((bs++ds).map λe=>e.told.key).Nodup:=by
  rw[Qu,Rl];refine⟨g0.nodup,hd.keys,λa ha b hb' z=>?_⟩;obtain⟨x,hx,rfl⟩:=Qj.mp ha;obtain⟨y,hy,rfl⟩:=Qj.mp hb';obtain⟨n',s',d',f',m',rfl⟩:=Wm hb hx;exact _jg (hd.each y hy) n' z.symm
 have g:GdL (Wv bs) (bs++ds):=GdL.more g0 (λ_ _ _ _ _=>Iff.rfl) (λe he=>(_fz hb bl (hd.each e he)).1) nd
 have bnm:∀e∈bs++ds,∀n,e.bornName=some n->n≠"":=λe he n hn=>by
  rcases Qn.mp he with h|h
  ·obtain⟨n',s',d',f',m',rfl⟩:=Wm hb h;cases hn;exact _mC (hb.nm h).1
  ·rw[show e.bornName=none from by have:=(hd.each e h).notBorn;cases e<;>first|rfl|cases this] at hn;cases hn
 refine⟨Wv bs,⟨g.told,λx hx=>?_,?_,?_⟩,λe he=>?_,λe he n hn=>?_,bnm⟩
 ·obtain⟨y,_,rfl⟩:=Qj.mp hx;exact Wq y
 ·have e1:((bs++ds).map Ent.told).filter Ent.isBorn=bs:=by
   rw[Qu,Nc,tb,Me.mpr λx hx=>by obtain⟨_,_,_,_,_,rfl⟩:=Wm hb hx;rfl,List.filter_eq_nil_iff.mpr λx hx=>?_,Q1];obtain⟨y,hy,rfl⟩:=Qj.mp hx;rw[_ce (hd.each y hy).notBorn];decide
  rw[e1];exact bl
 ·have e1:=WV ((bs++ds).map Ent.told)
  have e2:(((bs++ds).map Ent.told).filter Ent.isBorn).length=bs.length:=by
   rw[Qu,Nc,tb,Me.mpr λx hx=>by obtain⟨_,_,_,_,_,rfl⟩:=Wm hb hx;rfl,List.filter_eq_nil_iff.mpr λx hx=>?_,Q1];obtain⟨y,hy,rfl⟩:=Qj.mp hx;rw[_ce (hd.each y hy).notBorn];decide
  rw[Qd,Qq] at e1;lia
 ·rcases Qn.mp he with h|h
  ·have d5:=g0.d5 e h;exact⟨d5.1,by rw[(_ge hb h).2];exact d5.1⟩
  ·exact(_fz hb bl (hd.each e h)).2
 ·obtain⟨us,vs,e1,f⟩:=g.in e he;obtain⟨s,d,fa,m,h1,_⟩:=f.kn n hn;obtain⟨y,hy,ey⟩:=Qj.mp h1;have yb:y=Ent.born n s d fa m:=by cases y<;>first|exact ey|cases ey
  exact bnm y (by rw[e1];exact QG _ hy) n (by rw[yb];rfl)
theorem Fs9.pm0 (h:Fs9 pool es B []):(B.kept.map (·.1)).Perm es:=by
 have:=h.pm
 rwa [GK,Q1] at this
theorem Fs9.bu (h:Fs9 pool es B []) (f:Fl9 pool es):BU (B.kept.map (·.1)):=by
 have u:BU ((B.kept.map (·.1)).map Ent.told):=h.g.bu
 rwa [Wf λx hx=>f.td x (h.pm0.mem_iff.mp hx)] at u
theorem Fs9.pm2 (h:Fs9 pool es B []) (h':Fs9 pool es B' []):(B.kept.map (·.1)).Perm (B'.kept.map (·.1)):=h.pm0.trans h'.pm0.symm
theorem _hQ (h:Fs9 pool es B []) (h':Fs9 pool es B' []) (n:Str):Xb B n=Xb B' n:=by
 have m:=h.pm2 h';unfold Xb;cases h1:Xd n B.kept with
 |none =>
  cases h2:Xd n B'.kept with
  |none=>rfl
  |some r =>
   obtain⟨d,a⟩:=r;obtain⟨p,hp,e⟩:=Qj.mp (m.mem_iff.mpr (Qj.mpr ⟨_,Vn h2,rfl⟩));exact absurd e (UG h1 p hp d)
 |some r =>
  obtain⟨d,a⟩:=r;have m1:=m.mem_iff.mp (Qj.mpr ⟨_,Vn h1,rfl⟩);cases h2:Xd n B'.kept with
  |none =>
   obtain⟨p,hp,e⟩:=Qj.mp m1;exact absurd e (UG h2 p hp d)
  |some r' =>
   obtain⟨d',a'⟩:=r';have:=Jx h'.g.nodup m1 (Qj.mpr ⟨_,Vn h2,rfl⟩) rfl;cases this;rfl
theorem _mP (f:Fl9 pool es) (h:Fs9 pool es B []) (h':Fs9 pool es B' []) {fa:Str} (hb:Ent.born n s d fa m∈es):Al9 B B' n:=by
 obtain⟨k1,k2,k3⟩:=WU rfl (h.bu f) (h.pm0.mem_iff.mpr hb);obtain⟨j1,j2,j3⟩:=WU rfl (h'.bu f) (h'.pm0.mem_iff.mpr hb);refine⟨k1,j1,λl=>?_,k2.trans j2.symm,k3.trans j3.symm,_hQ h h' n⟩;show lk B.links (l,n)=lk B'.links (l,n);rw[h.li.st.lks,h'.li.st.lks];exact _nc (h.pm2 h') h.li.ap' h.li.once _
theorem Fs9.ties (h:Fs9 pool es B []) (c:A0):_9 B c=tl c (B.kept.map (·.1)):=by rw[_gA,h.li.st.tis,Js h.li.once]
theorem Fs9.len (h:Fs9 pool es B []) (f:Fl9 pool es):B.kept.length<=84:=by
 have:=WV (B.kept.map (·.1));have:=(h.cnt f).b;have:=(h.cnt f).d;rw[Qd] at *;lia
theorem _l8 (f:Fl9 pool es) (h:Fs9 pool es B []) (h':Fs9 pool es B' []) (he:e.told∈es) (nm:e.named=[x,y]):Tw9 B B' x y:=by
 obtain⟨us,vs,e1,ft⟩:=f.g.in _ he
 have bn:∀n∈e.named,∃s d fa m,Ent.born n s d fa m∈es:=λn hn=>by
  obtain⟨s,d,fa,m,h1,_⟩:=ft.kn n ((JA e n).mpr hn);rw[Wf λx hx=>f.td x (by rw[e1];exact QG _ hx)] at h1;exact⟨s,d,fa,m,by rw[e1];exact QG _ h1⟩
 have kn:∀{B:Bk},Fs9 pool es B []->∀n∈e.named,Known B n:=λ{B} h n hn=>by
  obtain⟨s,d,fa,m,h1⟩:=bn n hn;exact(WU rfl (h.bu f) (h.pm0.mem_iff.mpr h1)).1
 rw[nm] at kn
 have ln:∀{B:Bk},Fs9 pool es B []->∀c,(_9 B c).length<=100:=λ{B} h c=>by
  rw[h.ties];have:=_f6 c (B.kept.map (·.1));have:=h.len f;rw[Qd] at *;lia
 refine⟨kn h x (by simp),kn h y (by simp),kn h' x (by simp),kn h' y (by simp),ln h,ln h',λz=>?_,?_⟩
 ·unfold Wh;rw[h.ties,h'.ties];refine _cN ((_a8 (h.pm2 h') _).filter _) ?_;exact List.Nodup.sublist ((GB).map _) (h.li.once _)
 ·rw[h.li.sus,h'.li.sus];exact _iy (h.pm2 h') _
theorem _mv (h:Fs9 pool es B []) (h':Fs9 pool es B' []):_B (Y3 B.kept)=_B (Y3 B'.kept):=by
 refine Vd (((Y6 _).trans ?_).trans (Y6 _).symm) (Wc _) (Wc _);rw[J8,J8];exact(h.pm2 h').filterMap _
theorem _eu {C:Bk} (f:Fl9 pool es) (h:Fs9 pool es B []) (li:LI5 pool C C.kept) (hk:C.kept.map (·.1)=(B.kept.map (·.1)).filter λe=>decide (e.day<=d)) (pm:(us.map (·.1)).Perm es) (so:(us.map λp=>p.1.row).Pairwise λx y=>SA.rLt y x=false):Ud9 pool C us d:=by
 refine⟨li,by rw[hk];exact h.g.filt d,by rw[hk];exact(h.cnt f).sub GB,?_,so⟩;rw[hk];have p1:=(h.pm0.trans pm.symm).filter λe=>decide (e.day<=d);have e:(us.map (·.1)).filter (λe=>decide (e.day<=d))=(us.filter λp=>decide (p.1.day<=d)).map (·.1):=List.filter_map ..;rw[e] at p1;exact p1
theorem _eR {K:W.Frag} {H:Hp}:∀{ys:List V} {es:List Ent},ys.length=es.length->(∀(j:Nat) (y:V) (e:Ent),ys[j]?=some y->es[j]?=some e->∃t,y=.ref t/\SqT K H t (e.row.map kV))->∃ts:List (Ent×Addr),_v ts=ys/\ts.map (·.1)=es/\RowsAt K H ts
 |[],[],_,_=>⟨[],rfl,rfl,λp hp=>by cases hp⟩
 |y::ys,e::es,h,f=>by
  obtain⟨t,rfl,ht⟩:=f 0 y e rfl rfl;obtain⟨ts,h1,h2,h3⟩:=_eR (ys:=ys) (es:=es) (G8 h) λj y' e' a b=>f (j+1) y' e' a b;refine⟨(e,t)::ts,by rw[<-h1];rfl,by rw[Qm,h2],λp hp=>?_⟩;rcases Qk.mp hp with rfl|hp
  ·exact ht
  ·exact h3 p hp
 |[],_::_,h,_=>by cases h
 |_::_,[],h,_=>by cases h
theorem _gk {α β:Type} (f:α->β):∀l:List α,(l.map λx=>some (f x)).filterMap id=l.map f
 |[]=>rfl
 |x::l=>QI (f x::·) (_gk f l)
theorem _by {out:List (Ent×Addr)} (h:Fs9 pool es B []) (pm:out.Perm B.kept) (so:(out.map λp=>p.1.row).Pairwise λx y=>SA.rLt y x=false) (um:(us.map (·.1)).Perm es) (us':(us.map λp=>p.1.row).Pairwise λx y=>SA.rLt y x=false):(out.map λp=>p.1.row)=us.map λp=>p.1.row:=by
 refine _bJ ?_ so us';have a1:=pm.map λp:Ent×Addr=>p.1.row;have a2:=(h.pm0.trans um.symm).map Ent.row;rw[QF,QF] at a2;exact a1.trans a2
theorem Rw9.next (r:Rw9 pool (ks.map (·.1))) (hp:ks[i]?=some p) (hk:B.kept.map (·.1)=((ks.map (·.1)).map Ent.told).take i):∀n∈p.1.named,Known B n:=by
 have e1:((ks.map (·.1)).map Ent.told).take (i+1)=((ks.map (·.1)).map Ent.told).take i++[p.1.told]:=UA (by rw[Qv,Qv,hp];rfl);have g:=r.fl.g.take (i+1);rw[e1] at g;obtain⟨_,_,_,f⟩:=g.last rfl;rw[Wf λx hx=>r.fl.td x (Gy hx),<-hk] at f
 exact λn hn=>by
  obtain⟨s,d,fa,m,h1,_⟩:=f.kn n ((JA _ n).mpr hn);exact JV.mpr ⟨s,d,fa,m,h1⟩
theorem Rw9.ord (r:Rw9 pool (ks.map (·.1))) (o:Ord9 ks os):Fs9 pool ((ks.map (·.1)).map Ent.told) _Y os/\∀p∈os,p.1.Ok/\∀n∈p.1.named,n≠"":=by
 refine⟨⟨LI5.start pool,.nil,?_⟩,λp hp=>?_⟩
 ·have:=o.pm;rw[QF];exact this
 ·obtain⟨e,he,z|z⟩:=o.of p hp
  ·rw[z];exact⟨(r.gd e he).ok,r.nn e he⟩
  ·rw[z];exact⟨(r.gd e he).tn,λn hn=>r.nn e he n ((_bH e n).mp hn)⟩
theorem Rw9.start (r:Rw9 pool (ks.map (·.1))):Fs9 pool ((ks.map (·.1)).map Ent.told) _Y ks:=by
 refine⟨LI5.start pool,.nil,?_⟩;rw[QF];exact G1 _
theorem _fU {K:W.Frag} (hS:∀c∈S,Jl H c) (q:SqL K H a xs):SqL K (Yt H S) a xs:=by
 rcases q with(q|⟨o,q⟩)|q
 ·exact .inl (.inl (XR hS q rfl))
 ·exact .inl (.inr ⟨o,XR hS q rfl⟩)
 ·exact .inr q
theorem _in {ns:C5} (h0:z<0) (h1:-(ns.length:Int)<=z):∃c,YC (ns.map V.int) z=some (.int c):=by
 have hi:((ns.length:Int)+z).toNat<ns.length:=by lia
 refine⟨ns[((ns.length:Int)+z).toNat],?_⟩;unfold YC Vt;rw[Qd,Qa (by lia),Qb h1];show(ns.map V.int)[_]?=_;rw[Qv]
 first
  |rw[Qp hi];rfl
  | (rw[Int.add_comm,Qp hi];rfl)
theorem _ii (h0:0<=z) (h1:z<(ks.length:Int)):∃p∈ks,YC (_v ks) z=some (.ref p.2):=by
 have hi:z.toNat<ks.length:=by lia
 refine⟨ks[z.toNat],GX hi,_aG h0 ?_⟩;unfold _v;rw[Qv,Qp hi];rfl
section
variable{K:W.Frag} {w:World} {mg:Str->B4}
theorem _nU:FnScope ["thing"] ["thing"] (_C _fP):=_M
inductive sq_is_whole (T:Tx K w mg) (vs:List V) (H:Hp) (Q:VK) (E:XK):Prop
 |mk:∀x t,vs=[x]->Vw K H x t->(∀H',Same H H'->Q (.bl (Vk.isI t)) H')->sq_is_whole T vs H Q E
def _kw (T:Tx K w mg):Sp:=λvs H Q E=>vs.length=1/\sq_is_whole T vs H Q E
theorem _lE:FnScope ["thing"] ["thing"] (_C _cJ):=_M
def _ck (T:Tx K w mg):Sp:=λvs H Q E=>vs.length=1/\(∃x t,vs=[x]/\Vw K H x t/\∀H',Same H H'->Q (.bl (WI t)) H')
theorem _gQ:FnScope ["thing"] ["thing"] (_C _ex):=_M
def _eL (T:Tx K w mg):Sp:=λvs H Q E=>vs.length=1/\(∃x t,vs=[x]/\Vw K H x t/\∀H',Same H H'->Q (.bl (_aH t)) H')
theorem _nQ:FnScope ["thing"] ["thing"] (_C _cC):=_M
def _dJ (T:Tx K w mg):Sp:=λvs H Q E=>vs.length=1/\(∃x t,vs=[x]/\Vw K H x t/\∀H',Same H H'->Q (.bl (JP t)) H')
theorem _gX:FnScope ["thing"] ["thing"] (_C _dd):=_M
def _cM (T:Tx K w mg):Sp:=λvs H Q E=>vs.length=1/\(∃x t,vs=[x]/\Vw K H x t/\∀H',Same H H'->Q (.bl (Uf t)) H')
theorem _ms:FnScope ["thing"] ["thing"] (_C _fa):=_M
def _gM (T:Tx K w mg):Sp:=λvs H Q E=>vs.length=1/\(∃x t,vs=[x]/\Vw K H x t/\∀H',Same H H'->Q (.bl (UF t)) H')
theorem _hU:FnScope ["parts","checks"] ["parts","checks"] (_C _go):=_M
inductive sq_has_form (T:Tx K w mg) (vs:List V) (H:Hp) (Q:VK) (E:XK):Prop
 |mk:∀a b xs ts cs,vs=[.ref a,.ref b]->SqT K H a xs->Vws K H xs ts->(SqT K H b (cs.map λc=>.ref (T.ad c)))->cs.length<=10->(∀H',Same H H'->Q (.bl (Xy cs ts)) H')->sq_has_form T vs H Q E
def _jq (T:Tx K w mg):Sp:=λvs H Q E=>vs.length=2/\sq_has_form T vs H Q E
theorem _a7:FnScope ["thing","word","checks"] ["thing"] (_C _c5):=_M
inductive sq_is_entry (T:Tx K w mg) (vs:List V) (H:Hp) (Q:VK) (E:XK):Prop
 |mk:∀x,vs=[x]->(((∃t,Vw K H x t/\t.isT=false/\∀H',Same H H'->Q (.bl false) H')\/∃ts,Tv K H x ts/\ts.length<=10/\∀H',Same H H'->Q (.bl (WO ts)) H'))->sq_is_entry T vs H Q E
def _nH (T:Tx K w mg):Sp:=λvs H Q E=>vs.length=1/\sq_is_entry T vs H Q E
theorem _ht:FnScope ["entry"] ["entry"] (_C _em):=_M
inductive sq_is_tie (T:Tx K w mg) (vs:List V) (H:Hp) (Q:VK) (E:XK):Prop
 |mk:∀v e,vs=[v]->EntAt K H v e->(∀H',Same H H'->Q (.bl e.tie) H')->sq_is_tie T vs H Q E
def _k8 (T:Tx K w mg):Sp:=λvs H Q E=>vs.length=1/\sq_is_tie T vs H Q E
theorem _lk:FnScope ["entry"] ["entry"] (_C _ch):=_M
inductive sq_named_in (T:Tx K w mg) (vs:List V) (H:Hp) (Q:VK) (E:XK):Prop
 |mk:∀v e,vs=[v]->EntAt K H v e->(∀H' D,Same H H'->H D=none->SqL K H' D (e.named.map V.str)->Q (.ref D) H')->sq_named_in T vs H Q E
def _k5 (T:Tx K w mg):Sp:=λvs H Q E=>vs.length=1/\sq_named_in T vs H Q E
theorem _nW:FnScope ["entry"] ["entry"] (_C _gL):=_M
inductive sq_day_of (T:Tx K w mg) (vs:List V) (H:Hp) (Q:VK) (E:XK):Prop
 |mk:∀v e,vs=[v]->EntAt K H v e->Q (.int e.day) H->sq_day_of T vs H Q E
def _nt (T:Tx K w mg):Sp:=λvs H Q E=>vs.length=1/\sq_day_of T vs H Q E
theorem _fH:FnScope ["entry","names"] ["entry"] (_C _dw):=_M
inductive sq_as_told (T:Tx K w mg) (vs:List V) (H:Hp) (Q:VK) (E:XK):Prop
 |mk:∀v e,vs=[v]->EntAt K H v e->(∀H' u,Same H H'->EntAt K H' u e.told->Q u H')->sq_as_told T vs H Q E
def _ob (T:Tx K w mg):Sp:=λvs H Q E=>vs.length=1/\sq_as_told T vs H Q E
theorem _iP:FnScope ["entry"] ["entry"] (_C _d5):=_M
inductive sq_key_of (T:Tx K w mg) (vs:List V) (H:Hp) (Q:VK) (E:XK):Prop
 |mk:∀v e,vs=[v]->EntAt K H v e->(∀H' p,Same H H'->H p=none->H' p=some (.tup (e.told.key.map kV))->Q (.ref p) H')->sq_key_of T vs H Q E
def _kM (T:Tx K w mg):Sp:=λvs H Q E=>vs.length=1/\sq_key_of T vs H Q E
theorem _jb:FnScope ["thing"] ["thing"] (_C _eA):=_M
inductive sq_is_letter (T:Tx K w mg) (vs:List V) (H:Hp) (Q:VK) (E:XK):Prop
 |mk:∀x,vs=[x]->(((∃ty,Kd K H x ty/\W.kitOne K ty (.type "str")=some false/\Q (.bl false) H)\/∃l,x=.str l/\Q (.bl (Jf l)) H))->sq_is_letter T vs H Q E
def _hR (T:Tx K w mg):Sp:=λvs H Q E=>vs.length=1/\sq_is_letter T vs H Q E
theorem _j0:FnScope ["one","other"] ["one","other"] (_C _cb):=_M
inductive sq_pair_of (T:Tx K w mg) (vs:List V) (H:Hp) (Q:VK) (E:XK):Prop
 |mk:∀a b,vs=[.str a,.str b]->(∀H' p,Same H H'->H p=none->H' p=some (.tup [.str (_h a b).1,.str (_h a b).2])->Q (.ref p) H')->sq_pair_of T vs H Q E
def _mo (T:Tx K w mg):Sp:=λvs H Q E=>vs.length=2/\sq_pair_of T vs H Q E
theorem _hp:FnScope ["self"] ["self"] (_C _dj):=_M
inductive sq_Book___init__ (T:Tx K w mg) (vs:List V) (H:Hp) (Q:VK) (E:XK):Prop
 |mk:∀b dx,vs=[.ref b]->H b=some (.ins T.cB dx [])->(∀H' k bi li ti su,BkAt K T.cB H' b dx k bi li ti su _Y->(∀c o,H c=some o->c≠b->H' c=some o)->H k=none->H bi=none->H li=none->H ti=none->H su=none->Q .non H')->sq_Book___init__ T vs H Q E
def _nC (T:Tx K w mg):Sp:=λvs H Q E=>vs.length=1/\sq_Book___init__ T vs H Q E
theorem _nS:FnScope ["self","name"] ["self","name"] (_C _d4):=_M
inductive sq_Book_birth_of (T:Tx K w mg) (vs:List V) (H:Hp) (Q:VK) (E:XK):Prop
 |mk:∀v x B,vs=[v,x]->BkHas K T.cB H v B->((False\/∃n,x=.str n/\(_Q n B.kept=none->E (.ref T.c_NoPerson) none H)/\∀p,_Q n B.kept=some p->Q (.ref p.2) H))->sq_Book_birth_of T vs H Q E
def _k1 (T:Tx K w mg):Sp:=λvs H Q E=>vs.length=2/\sq_Book_birth_of T vs H Q E
theorem _jn:FnScope ["self","name"] ["self","name"] (_C _dB):=_M
inductive sq_Book_sort_of (T:Tx K w mg) (vs:List V) (H:Hp) (Q:VK) (E:XK):Prop
 |mk:∀v x B,vs=[v,x]->BkHas K T.cB H v B->((False\/∃n,x=.str n/\(_Q n B.kept=none->False)/\∀p,_Q n B.kept=some p->∀n' s d f m,p.1=.born n' s d f m->Q (.str s) H))->sq_Book_sort_of T vs H Q E
def _nu (T:Tx K w mg):Sp:=λvs H Q E=>vs.length=2/\sq_Book_sort_of T vs H Q E
theorem _ok:FnScope ["self","name"] ["self","name"] (_C _dv):=_M
inductive sq_Book_born_on (T:Tx K w mg) (vs:List V) (H:Hp) (Q:VK) (E:XK):Prop
 |mk:∀v x B,vs=[v,x]->BkHas K T.cB H v B->((False\/∃n,x=.str n/\(_Q n B.kept=none->False)/\∀p,_Q n B.kept=some p->∀n' s d f m,p.1=.born n' s d f m->Q (.int d) H))->sq_Book_born_on T vs H Q E
def _og (T:Tx K w mg):Sp:=λvs H Q E=>vs.length=2/\sq_Book_born_on T vs H Q E
theorem _lD:FnScope ["self","name","sort","day"] ["self","name","sort","day"] (_C _eV):=_M
inductive sq_Book_parent_fits (T:Tx K w mg) (vs:List V) (H:Hp) (Q:VK) (E:XK):Prop
 |mk:∀v n s d B,vs=[v,.str n,.str s,.int d]->BkHas K T.cB H v B->((n≠""->Known B n))->Q (.bl (XG B n s d)) H->sq_Book_parent_fits T vs H Q E
def _op (T:Tx K w mg):Sp:=λvs H Q E=>vs.length=4/\sq_Book_parent_fits T vs H Q E
theorem _ei:FnScope ["self","entry","names"] ["self","entry"] (_C _cc):=_M
inductive sq_Book_fits (T:Tx K w mg) (vs:List V) (H:Hp) (Q:VK) (E:XK):Prop
 |mk:∀v x B e,vs=[v,x]->BkHas K T.cB H v B->EntAt K H x e->((∀n∈e.named,Known B n))->(∀H',Same H H'->Q (.bl (XZ B e)) H')->sq_Book_fits T vs H Q E
def _mn (T:Tx K w mg):Sp:=λvs H Q E=>vs.length=2/\sq_Book_fits T vs H Q E
theorem _es:FnScope ["self","entry","name"] ["self","entry"] (_C _fg):=_M
inductive sq_Book_refuse (T:Tx K w mg) (vs:List V) (H:Hp) (Q:VK) (E:XK):Prop
 |mk:∀v x B e,vs=[v,x]->BkHas K T.cB H v B->EntAt K H x e->e.Ok->B.full e=false->(((∃n∈e.named,_Q n B.kept=none)->∀H',Same H H'->E (.ref T.c_NoPerson) none H'))->(((∀n∈e.named,Known B n)->Xf B e=none/\∀H',Same H H'->Q .non H'))->sq_Book_refuse T vs H Q E
def _iV (T:Tx K w mg):Sp:=λvs H Q E=>vs.length=2/\sq_Book_refuse T vs H Q E
theorem _mk:FnScope ["self","letter","begin","end"] ["self","letter","begin","end"] (_C _cp):=_M
inductive sq_Book_link (T:Tx K w mg) (vs:List V) (H:Hp) (Q:VK) (E:XK):Prop
 |mk:∀b dx k bi li ti su B l n m,vs=[.ref b,.str l,.str n,.str m]->BkAt K T.cB H b dx k bi li ti su B->(Yc B l n).length<=61->B.links.length<=900->(∀H' D,BkAt K T.cB H' b dx k bi li ti su { B with links:=_r B.links (l,n) (D,_B (Yc B l n++[m])) }->But [li] H H'->H D=none->Q .non H')->sq_Book_link T vs H Q E
def _hd (T:Tx K w mg):Sp:=λvs H Q E=>vs.length=4/\sq_Book_link T vs H Q E
theorem _jV:FnScope ["self","entry"] ["self","entry"] (_C _ew):=_M
inductive sq_Book_note_birth (T:Tx K w mg) (vs:List V) (H:Hp) (Q:VK) (E:XK):Prop
 |mk:∀b dx k bi li ti su B0 B n s d f m a,vs=[.ref b,.ref a]->B.kept=B0++[(.born n s d f m,a)]->H b=some (.ins T.cB dx (Wz k bi li ti su))->H bi=some (.dK (Bk.bornD B0))->_Q n B0=none->B0.length<=900->SqT K H a ((Ent.born n s d f m).row.map kV)->BkAt K T.cB (_d H bi (.dK (Bk.bornD B.kept))) b dx k bi li ti su B->B.links.length<=890->((∀c,(lk B.links c).length<=61))->(∀H' ls,BkAt K T.cB H' b dx k bi li ti su { B with links:=ls }->(∀c,lk ls c=Xl (lk B.links) n f m c)->ls.length<=B.links.length+4->But [bi,li] H H'->Grows H B.links ls->Q .non H')->sq_Book_note_birth T vs H Q E
def _gZ (T:Tx K w mg):Sp:=λvs H Q E=>vs.length=2/\sq_Book_note_birth T vs H Q E
theorem _lw:FnScope ["self","letter","name"] ["self","letter","name"] (_C _gh):=_M
inductive sq_Book_step (T:Tx K w mg) (vs:List V) (H:Hp) (Q:VK) (E:XK):Prop
 |mk:∀v x y B,vs=[v,x,y]->BkHas K T.cB H v B->((False\/∃l,x=.str l/\(Jf l=false->False)/\(Jf l=true->(False\/∃n,y=.str n/\(_Q n B.kept=none->False)/\(Known B n->∀H' D,Same H H'->H D=none->H' D=some (.lst ((Yc B l n).map V.str))->Q (.ref D) H')))))->sq_Book_step T vs H Q E
def _gY (T:Tx K w mg):Sp:=λvs H Q E=>vs.length=3/\sq_Book_step T vs H Q E
theorem _bG:FnScope ["self","one","other","day","ties","days"] ["self","one","other","day"] (_C _dW):=_M
inductive sq_Book_stands (T:Tx K w mg) (vs:List V) (H:Hp) (Q:VK) (E:XK):Prop
 |mk:∀v a c z B,vs=[v,.str a,.str c,z]->((z=.non\/∃d,z=.int d))->BkHas K T.cB H v B->Known B a->Known B c->(_9 B (_h a c)).length<=900->(∀H',Same H H'->Q (.bl (Wh B z a c)) H')->sq_Book_stands T vs H Q E
def _lt (T:Tx K w mg):Sp:=λvs H Q E=>vs.length=4/\sq_Book_stands T vs H Q E
theorem _aq:FnScope ["self","entry","days","begin","end"] ["self","entry"] (_C _b9):=_M
inductive sq_Book_note_tie (T:Tx K w mg) (vs:List V) (H:Hp) (Q:VK) (E:XK):Prop
 |mk:∀b dx k bi li ti su B a kd p1 p2 d,vs=[.ref b,.ref a]->SqT K H a [.str kd,.str p1,.str p2,.int d]->BkAt K T.cB H b dx k bi li ti su B->Known B p1->Known B p2->(B.ties.map (·.1)).Nodup->B.ties.length<=800->(_9 B (_h p1 p2)).length<=800->B.links.length<=880->((∀c,(lk B.links c).length<=60))->(∀H' ls ts y,BkAt K T.cB H' b dx k bi li ti su { B with links:=ls,ties:=ts }->(ts.map (·.1)).Nodup->ts.length<=B.ties.length+1->(∀c,YT ts c=if c=_h p1 p2 then _r (_9 B (_h p1 p2)) d kd else _9 B c)->(∀c,lk ls c=_T (_T (lk B.links) (Yr (_r (_9 B (_h p1 p2)) d kd)) p1 p2) (Yr (_r (_9 B (_h p1 p2)) d kd)) p2 p1 c)->ls.length<=B.links.length+4->But [li,ti,y] H H'->(H y=none\/y∈B.ties.map (·.2.1))->GrowsT H B.ties ts->Grows H B.links ls->Q .non H')->sq_Book_note_tie T vs H Q E
def _lg (T:Tx K w mg):Sp:=λvs H Q E=>vs.length=2/\sq_Book_note_tie T vs H Q E
theorem _bz:FnScope ["self","entry","told","given"] ["self","entry"] (_C _de):=_M
inductive sq_Book_put (T:Tx K w mg) (vs:List V) (H:Hp) (Q:VK) (E:XK):Prop
 |mk:∀b dx k bi li ti su B x e,vs=[.ref b,x]->BkAt K T.cB H b dx k bi li ti su B->EntAt K H x e->e.Ok->B.full e=false->(((∃n∈e.named,_Q n B.kept=none)->∀H',Same H H'->E (.ref T.c_NoPerson) none H'))->(((∀n∈e.named,Known B n)->Xf B e=none/\Room1 B/\∀H' B' y,BkAt K T.cB H' b dx k bi li ti su B'->Put B e B'->But [k,bi,li,ti,su,y] H H'->(H y=none\/y=bi\/y∈B.ties.map (·.2.1))->Grows H B.links B'.links->GrowsT H B.ties B'.ties->Q .non H'))->sq_Book_put T vs H Q E
def _lH (T:Tx K w mg):Sp:=λvs H Q E=>vs.length=2/\sq_Book_put T vs H Q E
theorem _kJ:FnScope ["self"] ["self"] (_C _eI):=_M
inductive sq_Book_entries (T:Tx K w mg) (vs:List V) (H:Hp) (Q:VK) (E:XK):Prop
 |mk:∀v B,vs=[v]->BkHas K T.cB H v B->B.kept.length<=900->(∀H' D (out:List (Ent×Addr)),Same H H'->H D=none->out.Perm B.kept->((out.map λp=>p.1.row).Pairwise λx y=>SA.rLt y x=false)->H' D=some (.lst (_v out))->Q (.ref D) H')->sq_Book_entries T vs H Q E
def _hi (T:Tx K w mg):Sp:=λvs H Q E=>vs.length=1/\sq_Book_entries T vs H Q E
theorem _jJ:FnScope ["self"] ["self"] (_C _e7):=_M
inductive sq_Book_people (T:Tx K w mg) (vs:List V) (H:Hp) (Q:VK) (E:XK):Prop
 |mk:∀v B,vs=[v]->BkHas K T.cB H v B->(Y3 B.kept).length<64->(∀H' D,Same H H'->H D=none->H' D=some (.lst ((_B (Y3 B.kept)).map V.str))->Q (.ref D) H')->sq_Book_people T vs H Q E
def _h5 (T:Tx K w mg):Sp:=λvs H Q E=>vs.length=1/\sq_Book_people T vs H Q E
theorem _fq:FnScope ["self","name","death"] ["self","name"] (_C _gr):=_M
inductive sq_Book_dead_on (T:Tx K w mg) (vs:List V) (H:Hp) (Q:VK) (E:XK):Prop
 |mk:∀v n B,vs=[v,.str n]->BkHas K T.cB H v B->Known B n->(∀H',Same H H'->Q (Xb B n) H')->sq_Book_dead_on T vs H Q E
def _im (T:Tx K w mg):Sp:=λvs H Q E=>vs.length=2/\sq_Book_dead_on T vs H Q E
theorem _nw:FnScope ["self","giver","taker"] ["self","giver","taker"] (_C _gn):=_M
inductive sq_Book_gave (T:Tx K w mg) (vs:List V) (H:Hp) (Q:VK) (E:XK):Prop
 |mk:∀v a c B,vs=[v,.str a,.str c]->BkHas K T.cB H v B->Known B a->Known B c->(∀H',Same H H'->Q (.int (YD B.sums (a,c))) H')->sq_Book_gave T vs H Q E
def _mV (T:Tx K w mg):Sp:=λvs H Q E=>vs.length=3/\sq_Book_gave T vs H Q E
theorem _bk:FnScope ["self","day","book","entry"] ["self","day"] (_C _dZ):=_M
inductive sq_Book_until (T:Tx K w mg) (vs:List V) (H:Hp) (Q:VK) (E:XK):Prop
 |mk:∀b dx k bi li ti su B d pool,vs=[.ref b,.int d]->BkAt K T.cB H b dx k bi li ti su B->GdL pool (B.kept.map (·.1))->((∀p∈B.kept,p.1.told=p.1))->Cnt (B.kept.map (·.1))->(∀H' b' dx' k' bi' li' ti' su' B',BkAt K T.cB H' b' dx' k' bi' li' ti' su' B'->LI5 pool B' B'.kept->B'.kept.map (·.1)=(B.kept.map (·.1)).filter (λe=>decide (e.day<=d))->Same H H'->Q (.ref b') H')->sq_Book_until T vs H Q E
def _oo (T:Tx K w mg):Sp:=λvs H Q E=>vs.length=2/\sq_Book_until T vs H Q E
theorem _kH:FnScope ["_law_script","_law_k"] ["_law_script","_law_k"] (_C _gG):=_M
inductive sq__law_cell_at (T:Tx K w mg) (vs:List V) (H:Hp) (Q:VK) (E:XK):Prop
 |mk:∀(l:Addr) (ns:C5) (k:Int),vs=[.ref l,.int k]->SqL K H l (ns.map V.int)->0<=k->(∀z,Q (.int z) H)->sq__law_cell_at T vs H Q E
def _l3 (T:Tx K w mg):Sp:=λvs H Q E=>vs.length=2/\sq__law_cell_at T vs H Q E
theorem Xj:FnScope ["_law_cell","_law_many","_law_size","_law_at","_law_beside","_law_short","_law_names_here","_law_k","_law_name","_law_rest","_law_j","_law_number"] ["_law_cell","_law_many"] (_C _b2):=_M
inductive sq__law_names (T:Tx K w mg) (vs:List V) (H:Hp) (Q:VK) (E:XK):Prop
 |mk:∀c m,vs=[.int c,.int m]->0<=m->m<=60->(∀(H':Hp) (D:Addr) (ns:A9),Same H H'->H' D=some (.lst (ns.map V.str))->ns.length=m.toNat->(∀x∈ns,Nm x)->ns.Nodup->Q (.ref D) H')->sq__law_names T vs H Q E
def _ku (T:Tx K w mg):Sp:=λvs H Q E=>vs.length=2/\sq__law_names T vs H Q E
theorem Wa:FnScope ["_law_script","_law_most","_law_names_here","_law_births_here","_law_men","_law_women","_law_cell","_law_k","_law_sort","_law_day_here","_law_father","_law_mother"] ["_law_script","_law_most"] (_C _dE):=_M
inductive sq__law_births (T:Tx K w mg) (vs:List V) (H:Hp) (Q:VK) (E:XK):Prop
 |mk:∀(l:Addr) (ns:C5) (m:Nat),vs=[.ref l,.int m]->SqL K H l (ns.map V.int)->ns.length<=63->m<=40->(∀(H':Hp) (D:Addr) (bs:List (Ent×Addr)),Same H H'->H D=none->H' D=some (.lst (_v bs))->RowsAt K H' bs->BOk (bs.map (·.1))->bs.length=min (1+m) ns.length-min 1 ns.length->Q (.ref D) H')->sq__law_births T vs H Q E
def _m3 (T:Tx K w mg):Sp:=λvs H Q E=>vs.length=2/\sq__law_births T vs H Q E
theorem _eo:FnScope ["_law_row","_law_entry","_law_kind"] ["_law_row","_law_entry"] (_C _f9):=_M
inductive sq__law_like (T:Tx K w mg) (vs:List V) (H:Hp) (Q:VK) (E:XK):Prop
 |mk:∀u v e1 e2,vs=[u,v]->EntAt K H u e1->EntAt K H v e2->e1.isBorn=false->e2.isBorn=false->(∀H',Same H H'->Q (.bl (decide (e1.told.key=e2.told.key))) H')->sq__law_like T vs H Q E
def _hg (T:Tx K w mg):Sp:=λvs H Q E=>vs.length=2/\sq__law_like T vs H Q E
theorem V2:FnScope ["_law_births_here","_law_cell","_law_one","_law_other","_law_day_here","_law_kind","_law_younger"] ["_law_births_here","_law_cell"] (_C _fb):=_M
inductive sq__law_deed (T:Tx K w mg) (vs:List V) (H:Hp) (Q:VK) (E:XK):Prop
 |mk:∀(D:Addr) (bs:List (Ent×Addr)) (c:Int),vs=[.ref D,.int c]->SqL K H D (_v bs)->RowsAt K H bs->BOk (bs.map (·.1))->bs≠[]->bs.length<=40->(∀H' u e,Same H H'->EntAt K H' u e->Deed (bs.map (·.1)) e->Q u H')->sq__law_deed T vs H Q E
def _mF (T:Tx K w mg):Sp:=λvs H Q E=>vs.length=2/\sq__law_deed T vs H Q E
theorem Ju:FnScope ["_law_births_here","_law_cells","_law_deeds_here","_law_cell","_law_entry"] ["_law_births_here","_law_cells"] (_C _ca):=_M
inductive sq__law_deeds (T:Tx K w mg) (vs:List V) (H:Hp) (Q:VK) (E:XK):Prop
 |mk:∀(D l:Addr) (bs:List (Ent×Addr)) (cs:C5),vs=[.ref D,.ref l]->SqL K H D (_v bs)->RowsAt K H bs->BOk (bs.map (·.1))->bs.length<=40->SqL K H l (cs.map V.int)->cs.length<=60->(∀(H':Hp) (E':Addr) (ds:List (Ent×Addr)),Same H H'->H E'=none->H' E'=some (.lst (_v ds))->RowsAt K H' ds->DOk (bs.map (·.1)) (ds.map (·.1))->ds.length<=cs.length->(bs=[]->ds=[])->Q (.ref E') H')->sq__law_deeds T vs H Q E
def _jf (T:Tx K w mg):Sp:=λvs H Q E=>vs.length=2/\sq__law_deeds T vs H Q E
theorem _kY:FnScope ["_law_entry"] ["_law_entry"] (_C _c4):=_M
inductive sq__law_named (T:Tx K w mg) (vs:List V) (H:Hp) (Q:VK) (E:XK):Prop
 |mk:∀v e,vs=[v]->EntAt K H v e->(∀H' D,Same H H'->H D=none->SqL K H' D (e.named.map V.str)->Q (.ref D) H')->sq__law_named T vs H Q E
def _hP (T:Tx K w mg):Sp:=λvs H Q E=>vs.length=1/\sq__law_named T vs H Q E
theorem _nR:FnScope ["_law_row"] ["_law_row"] (_C _ez):=_M
inductive sq__law_shape (T:Tx K w mg) (vs:List V) (H:Hp) (Q:VK) (E:XK):Prop
 |mk:∀(a:Addr) (e:Ent),vs=[.ref a]->SqT K H a (e.row.map kV)->(∀H' t,Same H H'->SqT K H' t (e.told.row.map kV)->Q (.ref t) H')->sq__law_shape T vs H Q E
def _hy (T:Tx K w mg):Sp:=λvs H Q E=>vs.length=1/\sq__law_shape T vs H Q E
theorem V3:FnScope ["_law_cell","_law_most","_law_by","_law_k"] ["_law_cell"] (_C _bY):=_M
inductive sq__law_digits (T:Tx K w mg) (vs:List V) (H:Hp) (Q:VK) (E:XK):Prop
 |mk:∀c:Int,vs=[.int c]->(∀z:Int,Q (.int z) H)->sq__law_digits T vs H Q E
def _mN (T:Tx K w mg):Sp:=λvs H Q E=>vs.length=1/\sq__law_digits T vs H Q E
theorem _iK:FnScope ["_law_row","_law_cell"] ["_law_row","_law_cell"] (_C _gi):=_M
inductive sq__law_turned (T:Tx K w mg) (vs:List V) (H:Hp) (Q:VK) (E:XK):Prop
 |mk:∀(a:Addr) (e:Ent) (c:Int),vs=[.ref a,.int c]->SqT K H a (e.row.map kV)->(∀H' t e',Same H H'->SqT K H' t (e'.row.map kV)->(e'=e\/e'=e.turn)->Q (.ref t) H')->sq__law_turned T vs H Q E
def _l1 (T:Tx K w mg):Sp:=λvs H Q E=>vs.length=2/\sq__law_turned T vs H Q E
theorem Uv:FnScope ["_law_script","_law_rows","_law_order_here","_law_number","_law_row"] ["_law_script","_law_rows"] (_C _eN):=_M
inductive sq__law_order (T:Tx K w mg) (vs:List V) (H:Hp) (Q:VK) (E:XK):Prop
 |mk:∀(l R:Addr) (ns:C5) (ks:List (Ent×Addr)),vs=[.ref l,.ref R]->SqL K H l (ns.map V.int)->SqL K H R (_v ks)->RowsAt K H ks->ks.length<=100->(∀H' D (os:List (Ent×Addr)),Same H H'->H D=none->H' D=some (.lst (_v os))->RowsAt K H' os->Ord9 ks os->Q (.ref D) H')->sq__law_order T vs H Q E
def _n8 (T:Tx K w mg):Sp:=λvs H Q E=>vs.length=2/\sq__law_order T vs H Q E
theorem _bh:FnScope ["_law_book","_law_row","_law_word"] ["_law_book","_law_row"] (_C _fO):=_M
inductive sq__law_put (T:Tx K w mg) (vs:List V) (H:Hp) (Q:VK) (E:XK):Prop
 |mk:∀b dx k bi li ti su B x e,vs=[.ref b,x]->BkAt K T.cB H b dx k bi li ti su B->EntAt K H x e->e.Ok->B.full e=false->(((∃n∈e.named,_Q n B.kept=none)->∀H',Same H H'->Q (.str "nobody") H'))->(((∀n∈e.named,Known B n)->Xf B e=none/\Room1 B/\∀H' B' y,BkAt K T.cB H' b dx k bi li ti su B'->Put B e B'->But [k,bi,li,ti,su,y] H H'->(H y=none\/y=bi\/y∈B.ties.map (·.2.1))->Grows H B.links B'.links->GrowsT H B.ties B'.ties->Q (.str "in") H'))->sq__law_put T vs H Q E
def _k0 (T:Tx K w mg):Sp:=λvs H Q E=>vs.length=2/\sq__law_put T vs H Q E
theorem WR:FnScope ["_law_book","_law_rows","_law_there","_law_left","_law_late","_law_row","_law_due","_law_name"] ["_law_book","_law_rows"] (_C _c1):=_M
inductive sq__law_filled (T:Tx K w mg) (vs:List V) (H:Hp) (Q:VK) (E:XK):Prop
 |mk:∀(b dx k bi li ti su l:Addr) (es:List Ent) (os:List (Ent×Addr)) (pool:A9) (Hs:Hp),vs=[.ref b,.ref l]->BkAt K T.cB H b dx k bi li ti su _Y->Hs l=some (.lst (_v os))->RowsAt K Hs os->Fl9 pool es->Fs9 pool es _Y os->((∀p∈os,p.1.Ok/\∀n∈p.1.named,n≠""))->os.length<=100->Same Hs H->((∀c∈ft k bi li ti su _Y,Hs c=none))->(∀H' B',BkAt K T.cB H' b dx k bi li ti su B'->Fs9 pool es B' []->Same Hs H'->(∀c∈ft k bi li ti su B',Hs c=none)->Q (.bl true) H')->sq__law_filled T vs H Q E
def _iZ (T:Tx K w mg):Sp:=λvs H Q E=>vs.length=2/\sq__law_filled T vs H Q E
theorem _e1:FnScope ["_law_book","_law_other","_law_row","_law_letter"] ["_law_book","_law_other","_law_row"] (_C _e9):=_M
inductive sq__law_alike (T:Tx K w mg) (vs:List V) (H:Hp) (Q:VK) (E:XK):Prop
 |mk:∀v w (a:Addr) (B B':Bk) n s d f m,vs=[v,w,.ref a]->BkHas K T.cB H v B->BkHas K T.cB H w B'->SqT K H a ((Ent.born n s d f m).row.map kV)->Al9 B B' n->(∀H',Same H H'->Q (.bl true) H')->sq__law_alike T vs H Q E
def _le (T:Tx K w mg):Sp:=λvs H Q E=>vs.length=3/\sq__law_alike T vs H Q E
theorem _lo:FnScope ["_law_book","_law_other","_law_row"] ["_law_book","_law_other","_law_row"] (_C _fv):=_M
inductive sq__law_two_alike (T:Tx K w mg) (vs:List V) (H:Hp) (Q:VK) (E:XK):Prop
 |mk:∀v w (a:Addr) (B B':Bk) (e:Ent),vs=[v,w,.ref a]->BkHas K T.cB H v B->BkHas K T.cB H w B'->SqT K H a (e.row.map kV)->((∀x y,e.named=[x,y]->Tw9 B B' x y))->(∀H',Same H H'->Q (.bl true) H')->sq__law_two_alike T vs H Q E
def _mw (T:Tx K w mg):Sp:=λvs H Q E=>vs.length=3/\sq__law_two_alike T vs H Q E
theorem _jA:FnScope ["_law_row"] ["_law_row"] (_C _eU):=_M
inductive sq__law_day (T:Tx K w mg) (vs:List V) (H:Hp) (Q:VK) (E:XK):Prop
 |mk:∀(a:Addr) (e:Ent),vs=[.ref a]->SqT K H a (e.row.map kV)->Q (.int e.day) H->sq__law_day T vs H Q E
def _jr (T:Tx K w mg):Sp:=λvs H Q E=>vs.length=1/\sq__law_day T vs H Q E
theorem Vz:FnScope ["_law_part","_law_due","_law_day_here","_law_rows","_law_people","_law_row","_law_last","_law_taken_by","_law_children"] ["_law_part","_law_due","_law_day_here"] (_C _b4):=_M
inductive sq__law_until (T:Tx K w mg) (vs:List V) (H:Hp) (Q:VK) (E:XK):Prop
 |mk:∀(v:V) (B:Bk) (D:Addr) (d:Int) (us:List (Ent×Addr)) (pool:A9),vs=[v,.ref D,.int d]->BkHas K T.cB H v B->SqL K H D (_v us)->RowsAt K H us->us.length<=100->Ud9 pool B us d->((∀p∈us,∀n,p.1.bornName=some n->n≠""))->(∀H',Same H H'->Q (.bl true) H')->sq__law_until T vs H Q E
def _kO (T:Tx K w mg):Sp:=λvs H Q E=>vs.length=3/\sq__law_until T vs H Q E
theorem XY:FnScope ["_law_script","_law_births_here","_law_rows","_law_book","_law_other","_law_row","_law_due","_law_k","_law_day_here"] ["_law_script"] (_C _eb):=_M
inductive sq_law (T:Tx K w mg) (vs:List V) (H:Hp) (Q:VK) (E:XK):Prop
 |mk:∀(l:Addr) (ns:C5),vs=[.ref l]->SqL K H l (ns.map V.int)->ns.length<=63->(∀H',Q (.bl true) H')->sq_law T vs H Q E
def _b3 (T:Tx K w mg):Sp:=λvs H Q E=>vs.length=1/\sq_law T vs H Q E
section
variable(P:Program) (base:Heap) (T:Tx K w mg)
abbrev _ib:Prop:=OD P w base 1 T._fX (_kw T)
abbrev _ix:Prop:=OD P w base 1 T.Y4 (_ck T)
abbrev _mX:Prop:=OD P w base 2 T.Xx (_eL T)
abbrev _nj:Prop:=OD P w base 2 T.W3 (_dJ T)
abbrev _jo:Prop:=OD P w base 1 T.Vc (_cM T)
abbrev _i4:Prop:=OD P w base 2 T.WK (_gM T)
abbrev _nx:Prop:=OD P w base 3 T._gd (_jq T)
abbrev _ih:Prop:=OD P w base 4 T._cE (_nH T)
abbrev _mb:Prop:=OD P w base 1 T._cY (_k8 T)
abbrev _i2:Prop:=OD P w base 1 T._dF (_k5 T)
abbrev _lp:Prop:=OD P w base 1 T._dR (_nt T)
abbrev _lm:Prop:=OD P w base 2 T._d3 (_ob T)
abbrev _ka:Prop:=OD P w base 3 T._gC (_kM T)
abbrev _ie:Prop:=OD P w base 1 T._cx (_hR T)
abbrev _iF:Prop:=OD P w base 1 T._df (_mo T)
abbrev _gP:Prop:=OM P w base mg 1 T.VE (_nC T)
abbrev _jv:Prop:=OM P w base mg 1 T.JO (_k1 T)
abbrev _gN:Prop:=OM P w base mg 2 T._fB (_nu T)
abbrev _jG:Prop:=OM P w base mg 2 T._cm (_og T)
abbrev _l9:Prop:=OM P w base mg 3 T._e5 (_op T)
abbrev _iM:Prop:=OM P w base mg 4 T._fQ (_mn T)
abbrev _j1:Prop:=OM P w base mg 5 T._ac (_iV T)
abbrev _nP:Prop:=OM P w base mg 1 T._c0 (_hd T)
abbrev _g2:Prop:=OM P w base mg 2 T._ey (_gZ T)
abbrev _gV:Prop:=OM P w base mg 2 T._cQ (_gY T)
abbrev _ly:Prop:=FnOk P w K mg base (YQ P w) 2 T.a_Book_stands T.fd_Book_stands ["self","one","other","day"] (_lt T)
abbrev _m6:Prop:=OM P w base mg 3 T._c6 (_lg T)
abbrev _k3:Prop:=OM P w base mg 6 T.J2 (_lH T)
abbrev _j8:Prop:=OM P w base mg 1 T.Wn (_hi T)
abbrev _lP:Prop:=OM P w base mg 1 T.W4 (_h5 T)
abbrev _hn:Prop:=OM P w base mg 2 T._cg (_im T)
abbrev _nl:Prop:=OM P w base mg 2 T._cX (_mV T)
abbrev _ir:Prop:=OM P w base mg 7 T._fx (_oo T)
abbrev _kC:Prop:=OD P w base 1 T._co (_l3 T)
abbrev _lf:Prop:=OD P w base 1 T._ga (_ku T)
abbrev _lS:Prop:=OD P w base 2 T._dY (_m3 T)
abbrev _jM:Prop:=OD P w base 1 T._dN (_hg T)
abbrev _ko:Prop:=OD P w base 1 T._gm (_mF T)
abbrev _kb:Prop:=OD P w base 2 T._fR (_jf T)
abbrev _hT:Prop:=OD P w base 1 T._cH (_hP T)
abbrev _jz:Prop:=OD P w base 1 T._eg (_hy T)
abbrev _lq:Prop:=OD P w base 1 T._fJ (_mN T)
abbrev _hA:Prop:=OD P w base 1 T._dp (_l1 T)
abbrev _h9:Prop:=OD P w base 2 T._fu (_n8 T)
abbrev _ne:Prop:=OD P w base 7 T._dn (_k0 T)
abbrev _kd:Prop:=OD P w base 8 T._dx (_iZ T)
abbrev _g9:Prop:=OD P w base 3 T._cd (_le T)
abbrev _kD:Prop:=OD P w base 3 T._dO (_mw T)
abbrev _lz:Prop:=OD P w base 1 T._c8 (_jr T)
abbrev _gU:Prop:=OD P w base 3 T._e0 (_kO T)
abbrev _li:Prop:=OD P w base 9 T.Us (_b3 T)
end
theorem _nk:(["name"]:A9).Nodup:=by ext
theorem _iO:(["name","entry","self"]:A9).Nodup:=by ext
theorem _ld:(["tied_on","day"]:A9).Nodup:=by ext
theorem _h4:(["name","end"]:A9).Nodup:=by ext
theorem _jY:(["_law_row","_law_entry"]:A9).Nodup:=by ext
theorem _k9:(["_law_name"]:A9).Nodup:=by ext
theorem _ba:(["_law_one","_law_row"]:A9).Nodup:=by ext
theorem _bw:(["_law_row"]:A9).Nodup:=by ext
theorem _id:(["_law_row","_law_day_here"]:A9).Nodup:=by ext
end
section
variable{K:W.Frag} {mg:Str->B4}
def spC (K:W.Frag) (f:Vk->Bool):Sp:=λvs H Q _=>vs.length=1/\∃x t,vs=[x]/\Vw K H x t/\∀H',Same H H'->Q (.bl (f t)) H'
def Fam (T:Tx K w mg):Addr->Sp->Prop:=λf sp=>∃c,f=T.ad c/\sp=spC K (Vy c)
theorem _lG {P:Program} {w:World} {base:Heap} (T:Tx K w mg) (h1:FnOk P w K mg base (YQ P w) 1 T.Y4.a (Y5 K T.Y4.a) ["thing"] (_ck T)) (h2:FnOk P w K mg base (YQ P w) 1 T.Vc.a (Y5 K T.Vc.a) ["thing"] (_cM T))
 (h3:FnOk P w K mg base (YQ P w) 2 T.Xx.a (Y5 K T.Xx.a) ["thing"] (_eL T)) (h4:FnOk P w K mg base (YQ P w) 2 T.W3.a (Y5 K T.W3.a) ["thing"] (_dJ T)) (h5:FnOk P w K mg base (YQ P w) 2 T.WK.a (Y5 K T.WK.a) ["thing"] (_gM T))
 (hr:Room 2 X.A) (e1:X.prog=P) (e2:X.w=w) (e3:X.K=K) (e4:X.mg=mg) (e5:X.base=base):_fT X (YQ P w) (Fam T):=by
 subst e1 e2 e3 e4 e5;rintro f sp ⟨c,rfl,rfl⟩;cases c with
 |name=>exact⟨1,_,_,h1,hr.mono (by decide),T.Y4.F.kp,T.Y4.b⟩
 |sort=>exact⟨1,_,_,h2,hr.mono (by decide),T.Vc.F.kp,T.Vc.b⟩
 |day=>exact⟨2,_,_,h3,hr,T.Xx.F.kp,T.Xx.b⟩
 |amount=>exact⟨2,_,_,h4,hr,T.W3.F.kp,T.W3.b⟩
 |parent=>exact⟨2,_,_,h5,hr,T.WK.F.kp,T.WK.b⟩
end
section
variable{P:Program} {w:World} {K:W.Frag} {mg:Str->B4} {base:Heap} (T:Tx K w mg)
theorem _eK: _ib P base T:=by
 refine Fun.okY T._fX.F _nU λcdv A outer s H vs Q E hr h=>?_;obtain⟨x,t,rfl,hv,q⟩:=h;refine⟨_,(_m (_y (XA (Wy K (by rfl) T.n_isinstance (_a _f (_a (WC (v:=.ty "int") (by rfl) T.n_int _c2 rfl) _e))) (XC (_nO (Wy K (by rfl) T.n_isinstance (_a _f (_a (WC (v:=.ty "bool") (by rfl) T.n_bool _nV rfl) _e)))))))),?_⟩;refine⟨_,rfl,_,.ty "int",_,_,rfl,rfl,hv.kd,kI T t,_,rfl,?_⟩;cases t with
 |int i=>exact _7 ⟨_,rfl,_,.ty "bool",_,_,rfl,rfl,hv.kd,T.kib',_,rfl,q _ (Same.refl H)⟩
 |bl=>exact _7 ⟨_,rfl,_,.ty "bool",_,_,rfl,rfl,hv.kd,T.kbb',_,rfl,q _ (Same.refl H)⟩
 |_=>exact _L (q _ (Same.refl H))
theorem _dh: _ix P base T:=by
 refine Fun.okY T.Y4.F _lE λcdv A outer s H vs Q E hr h=>?_;obtain⟨x,t,rfl,hv,q⟩:=h
 refine⟨_,(_n (_D (PW.pt (Xz (Xw (Xi (Wy K (by rfl) T.n_isinstance (_a _f (_a (WC (v:=.ty "str") (by rfl) T.n_str VG rfl) _e))))) (Xz (_A U9 (_U _gz (by rfl) T.n_len Yx (_a _f _e)) _b (_x _)) (Wt (_A Jv (_U _gz (by rfl) T.n_len Yx (_a _f _e)) _b (_x _)))))) (_m (_y Yo)) _F)
   (_m (_y (_U (_bA rfl) (by rfl) T.n_all _bt (_a (X9 (N:=["sign"]) (cl:=[]) (σc:=λ_=>[none]) rfl (_ep (L:=[(".0",.local),("sign",.local),("LETTERS",.globalImplicit)]) (by rfl) (by ext) (by ext) (by rfl) (by rfl) (by decide) (by rfl) (by simp)) (_dc _f) (λ_ _ _=>(YO (i:=0) UC rfl (Or.inl rfl))) (λ_ _ _=>Ug) (λ_ _ _=>(Yp _mR _f (Uk (v:=.str Jd) (by rfl) T.m_LETTERS ⟨_,rfl⟩) (by rfl)))) _e))))),?_⟩
 refine⟨_,rfl,_,.ty "str",_,_,rfl,rfl,hv.kd,kS T t,_,rfl,?_⟩;cases t with
 |str z =>
  obtain⟨e,hz⟩:=hv;subst e;have hs:z.length<=sizeLine:=Ra (small1000 (by lia));refine _L ⟨_,rfl,z,rfl,hs,_,_,rfl,rfl,_,rfl,?_⟩;by_cases h1:((z.length:Nat):Int)<1
  ·rw[Ql h1]
   have e:WI (.str z)=false:=by
    rw[_a1];rw[Qi (show ¬1<=z.length by lia)];rfl
   rw[e] at q;exact _7 (q _ (Same.refl H))
  rw[Qi h1];refine _L ⟨_,rfl,z,rfl,hs,_,_,rfl,rfl,_,rfl,?_⟩;by_cases h2:(8:Int)<((z.length:Nat):Int)
  ·rw[Ql h2]
   have e:WI (.str z)=false:=by
    rw[_a1];rw[Qi (show ¬z.length<=8 by lia),GO];rfl
   rw[e] at q;exact _7 (q _ (Same.refl H))
  rw[Qi h2]
  have e:WI (.str z)=(z.cps.toList.map X0).all id:=by
   rw[_a1];rw[Ql (show 1<=z.length by lia),Ql (show z.length<=8 by lia),GP];rfl
  rw[e] at q;have hl:z.cps.size=z.length:=rfl;refine _L ⟨_,rfl,z,rfl,?_⟩;refine UR ((z.cps.toList.map X0).map V.bl) (by simp only[Qd,Rh];exact Rz (Nat.le_of_eq hl) (small1000 (by lia))) (λU=>∃o,U=[o]) ⟨none,rfl⟩ ?_ ?_ ?_ ?_
  ·intro i H2 hi _;show i<z.cps.size;simpa using hi
  ·intro H2 _;show(((z.cps.toList.map X0).map V.bl).length:Nat)=z.cps.size;simp
  ·rintro i U H2 v H3 y hy ⟨o,rfl⟩ s2 ⟨e3,c,hc,ev⟩ C hC;subst e3 ev
   have ey:y=.bl (X0 c):=by
    have hc':z.cps.toList[i]?=some c:=by simpa using hc
    rw[Qv,Qv,hc'] at hy;exact(Qt hy).symm
   subst ey;exact⟨_,rfl,_,_,rfl,rfl,hC _ _ ⟨_,rfl⟩ (Same.refl _)⟩
  ·intro D H2 hD s2 hl2;exact⟨D,_,rfl,hl2,q _ s2⟩
 |_=>exact _7 (q _ (Same.refl H))
theorem _mE:_mX P base T:=by
 refine Fun.okY T.Xx.F _gQ λcdv A outer s H vs Q E hr h=>?_;obtain⟨x,t,rfl,hv,q⟩:=h;refine⟨_,(_m (_y (XA (_Z (_eK T) hr (_a _f _e)) (XC (Yp Uq (_U _mj (by rfl) T.n_abs _n2 (_a _f _e)) (_s X1 _b _b) (_x _)))))),?_⟩;refine⟨_,rfl,rfl,x,t,rfl,hv,λH1 s1=>⟨_,rfl,?_⟩⟩;cases t with
 |int i =>
  cases(show x=.int i from hv);exact _7 ⟨_,rfl,i,rfl,_,_,rfl,rfl,(show W5 10 18 from⟨by decide,by decide,by ext⟩),_,_,rfl,rfl,q _ s1⟩
 |_=>exact _L (q _ s1)
theorem _iT:_nj P base T:=by
 refine Fun.okY T.W3.F _nQ λcdv A outer s H vs Q E hr h=>?_;obtain⟨x,t,rfl,hv,q⟩:=h;refine⟨_,(_m (_y (XA (_Z (_eK T) hr (_a _f _e)) (XA (Yp U3 _f _b (_x _)) (XC (Yp Uq _f (_s X1 _b _b) (_x _))))))),?_⟩;refine⟨_,rfl,rfl,x,t,rfl,hv,λH1 s1=>⟨_,rfl,?_⟩⟩;cases t with
 |int i =>
  cases(show x=.int i from hv);refine _7 ⟨_,rfl,_,_,rfl,rfl,_,rfl,?_⟩;have q1:=q _ s1;rw[_iU] at q1;by_cases h1:1<=i
  ·rw[Ql h1] at q1 ⊢;exact _7 ⟨_,rfl,_,_,rfl,rfl,(show W5 10 18 from⟨by decide,by decide,by ext⟩),_,_,rfl,rfl,q1⟩
  ·rw[Qi h1] at q1 ⊢;exact _L q1
 |_=>exact _L (q _ s1)
theorem _ma: _jo P base T:=by
 refine Fun.okY T.Vc.F _gX λcdv A outer s H vs Q E hr h=>?_;obtain⟨x,t,rfl,hv,q⟩:=h;refine⟨_,(_m (_y (XA (Wy K (by rfl) T.n_isinstance (_a _f (_a (WC (v:=.ty "str") (by rfl) T.n_str VG rfl) _e))) (XC (Yp W2 _f (_8 (_a _z (_a _z (_a _z _e)))) (by rfl)))))),?_⟩;dsimp only[_O];refine⟨_,rfl,_,.ty "str",_,_,rfl,rfl,hv.kd,kS T t,_,rfl,?_⟩;cases t with
 |str z =>
  cases(show x=.str z from hv.1);refine _7 ⟨_,rfl,by decide,λp hp=>⟨p,_,rfl,.inr (.of _k),rfl,rfl,?_⟩⟩
  have e:(if false=true then !Xp (.str z) [.str "he",.str "she",.str ""] else Xp (.str z) [.str "he",.str "she",.str ""])=Uf (.str z):=by
   rw[Qa (by decide)];exact _ia z
  rw[e];exact q _ (_q hp)
 |_=>exact _L (q _ (Same.refl H))
theorem _ig:_i4 P base T:=by
 refine Fun.okY T.WK.F _ms λcdv A outer s H vs Q E hr h=>?_;obtain⟨x,t,rfl,hv,q⟩:=h;refine⟨_,(_m (_y (_cK (_Z (_dh T) hr (_a _f _e)) (XC (XA (Wy K (by rfl) T.n_isinstance (_a _f (_a (WC (v:=.ty "str") (by rfl) T.n_str VG rfl) _e))) (XC (Yp _S _f _z (_x _)))))))),?_⟩;refine⟨_,rfl,rfl,x,t,rfl,hv,λH1 s1=>⟨_,rfl,?_⟩⟩;have q1:=q _ s1;unfold UF at q1;cases hn:WI t with
 |true =>
  rw[hn] at q1;exact _7 q1
 |false =>
  rw[hn,Bool.false_or] at q1;refine _L ⟨_,rfl,_,.ty "str",_,_,rfl,rfl,(hv.mono s1).kd,kS T t,_,rfl,?_⟩;cases t with
  |str z =>
   cases(show x=.str z from hv.1)
   have e:decide (V.str z=V.str "")=decide (z=""):=by
    rw[Q0];simp
   exact _7 ⟨_,rfl,rfl,by rw[e];exact q1⟩
  |_=>exact _L q1
theorem _j5:_nx P base T:=by
 refine Fun.okY T._gd.F _hU λcdv A outer s H vs Q E hr h=>?_;obtain⟨a,b,xs,ts,cs,rfl,ha,hx,hb,hc,q⟩:=h
 refine⟨_,(_n (_D (_A XN (_U YS (by rfl) T.n_len Yx (_a _f _e)) (_U YS (by rfl) T.n_len Yx (_a _p _e)) (_x _)) (_m (_y Yo)) _F)
   (_m (_y (_U (_bA rfl) (by rfl) T.n_all _bt (_a (X9 (N:=["check","part"]) (cl:=[]) (σc:=λ_=>[none,none]) rfl (_ep (L:=[(".0",.local),("check",.local),("part",.local)]) (by rfl) (by ext) (by ext) (by rfl) (by rfl) (by decide) (by rfl) (by simp)) (_m7 K (by rfl) T.n_zip (_a _p (_a _f _e))) (λ_ _ _=>(_kU (n:=2) K rfl (VS (YO (i:=0) Uc rfl (Or.inl rfl)) (VS (YO (i:=1) Uc rfl (Or.inl rfl)) _a4)))) (λ_ _ _=>Ug) (λ_ _ _=>(_m8 (Fam:=Fam T) (i:=0) (_lG T (_dh T) (_ma T) (_mE T) (_iT T) (_ig T) (hr.mono (by decide)) rfl rfl rfl rfl rfl) rfl (Or.inl rfl) YV (_a _p _e)))) _e))))),?_⟩
 dsimp only[_O];have lx:=hx.length;refine⟨_,rfl,a,_,rfl,.inr ha,_,rfl,b,_,rfl,.inr hb,rfl,_,rfl,?_⟩
 have e0:(!decide (V.int (xs.length:Nat)=V.int ((cs.map λc=>V.ref (T.ad c)).length:Nat)))=!decide (ts.length=cs.length):=by
  rw[lx,Qd]
  congr 1
  rw[Q0];simp only[Gz,V.int.injEq];lia
 rw[e0];unfold Xy at q;by_cases hl:ts.length=cs.length
 ·rw[Ql hl] at q ⊢;rw[GA] at q;have lo:(_R cs ts).length=cs.length:=_gE hl;refine _L ⟨_,rfl,_,rfl,b,a,rfl,⟨_,hb⟩,⟨_,ha⟩,?_⟩;refine UR ((_R cs ts).map V.bl) (by rw[Qd,lo];exact small1000 (by lia)) (λU=>∃o u,U=[o,u]) ⟨none,none,rfl⟩ ?_ ?_ ?_ ?_
  ·intro i H2 hi s2;rw[Qd,lo] at hi;have h1:i<(cs.map λc=>V.ref (T.ad c)).length:=by rw[Qd];exact hi
   have h2:i<xs.length:=by lia
   exact⟨_,_,_,_,s2.sqt hb,s2.sqt ha,Qp h1,Qp h2⟩
  ·intro H2 s2;exact⟨_,s2.sqt hb,by rw[Qd,Qd,lo]⟩
  ·rintro i U H2 v H3 y hy ⟨o,u,rfl⟩ s2 ⟨A',x1,x2,nA,rfl,f1,f2,rfl⟩ C hC;obtain⟨c,t,e1,e2,e3⟩:=_mi hl hy;have g1:=f1 _ (s2.sqt hb);have g2:=f2 _ (s2.sqt ha);rw[Qv,e1] at g1;have g1':x1=.ref (T.ad c):=(Qt g1).symm;obtain⟨x,ex,vx⟩:=hx.get e2;rw[ex] at g2;have g2':x2=x:=(Qt g2).symm;subst g1' g2' e3;have sA:=_q (o:=.tup [.ref (T.ad c),x2]) nA;refine⟨A',_,rfl,.of _k,rfl,?_⟩;refine⟨_,_,rfl,_,_,rfl,rfl,?_⟩;refine⟨_,_,rfl,⟨c,rfl,rfl⟩,_,rfl,rfl,x2,t,rfl,(vx.mono s2).mono sA,λH5 s5=>hC _ _ ⟨_,_,rfl⟩ (sA.trans s5)⟩
  ·intro D H2 hD s2 hl2;exact⟨D,_,rfl,hl2,q _ s2⟩
 ·rw[Qi hl] at q ⊢;exact _7 (q _ (Same.refl H))
theorem _ln:_ih P base T:=by
 refine Fun.okY T._cE.F _a7 λcdv A outer s H vs Q E hr h=>?_;obtain⟨x,rfl,h⟩:=h
 refine⟨_,(_n (_D (PW.pt (Xz (Xw (Xi (Wy K (by rfl) T.n_isinstance (_a _f (_a (WC (v:=.ty "tuple") (by rfl) T.n_tuple _nG rfl) _e))))) (Xz (_A _S (_U YS (by rfl) T.n_len Yx (_a _f _e)) _b (_x _)) (Wt (Xw (Xi (Wy K (by rfl) T.n_isinstance (_a (_i _o _f _b) (_a (WC (v:=.ty "str") (by rfl) T.n_str VG rfl) _e))))))))) (_m (_y Yo)) _F)
   (_n (YU QS rfl (JB (Uk (v:=.ref T.aF) (by rfl) T.m_FORMS rfl)) (_bv (n:=2) rfl (VS (YY 1 _a7) (VS (YY 2 _a7) _a4)))
    (_m (_D (_A _S (_i _o _f _b) _p (_x _)) (_m (_y (_Z (_j5 T) hr (_a (Y9 VN _f (YF _b) X7) (_a _t _e))))) _F)))
   (_m (_y Yo)))),?_⟩
 dsimp only[_O];rcases h with⟨t,hv,ht,q⟩|⟨ts,⟨a,xs,rfl,hS,hx⟩,hl,q⟩
 ·have k:=kT T t;rw[ht] at k;exact⟨_,rfl,_,.ty "tuple",_,_,rfl,rfl,hv.kd,k,_,rfl,_7 (q _ (Same.refl H))⟩
 refine⟨_,rfl,_,.ty "tuple",_,_,rfl,rfl,.sqt hS,T.ktt',_,rfl,?_⟩;refine _L ⟨_,rfl,a,_,rfl,.inr hS,rfl,_,rfl,?_⟩
 match xs,ts,hx with
 |[],[],_=>exact _7 (q _ (Same.refl H))
 |x::xs,t::ts,hx =>
  have e0:decide (V.int ((x::xs).length:Nat)=V.int 0)=false:=by
   rw[QC]
   exact Qi λz=>by
    have:=V.int.inj z;lia
  rw[e0];have at0:YC (x::xs) 0=some x:=X2 (j:=0) rfl;refine _L ⟨_,rfl,a,_,_,_,rfl,rfl,hS,at0,_,.ty "str",_,_,rfl,rfl,hx.1.kd,kS T t,_,rfl,?_⟩;cases t with
  |str w =>
   have ex:x=.str w:=hx.1.1;refine _L ⟨T.aF,rfl,⟨_,T.sF _⟩,_e3 (λi U H2=>∃v1 v2,U=[some (.ref a),v1,v2]/\Same H H2/\∀j,j<i->∀p',Ws[j]?=some p'->w≠p'.1) ⟨none,none,rfl,Same.refl H,λj hj=>by lia⟩ (λ_ _ _ _ _=>T.sF _) ?turn ?done⟩
   case done =>
    rintro U H2 ⟨v1,v2,rfl,s2,b⟩
    have e:WO (.str w::ts)=false:=by
     rw[Ui,_h0 b];rfl
    rw[e] at q;exact q _ s2
   case turn =>
    rintro i y U H2 hy ⟨v1,v2,rfl,s2,b⟩;have hi:i<6:=(QK.mp hy).1;have hf:Ws[i]?=some (Ws[i]'hi):=Qp hi;generalize Ws[i]'hi=p at hf;obtain⟨P,G,e1,e2,e3⟩:=_mz T hf;rw[hy] at e1;have ey:y=.ref P:=Qt e1;subst ey;refine⟨P,_,rfl,e2 _,rfl,_,_,rfl,_,_,rfl,rfl,?_⟩;refine⟨_,rfl,a,_,_,_,rfl,rfl,s2.sqt hS,at0,_,rfl,by rw[ex];rfl,_,rfl,?_⟩;rw[ex]
    have ed:decide (V.str w=V.str p.1)=decide (w=p.1):=by
     rw[Q0];simp
    rw[ed];by_cases hw:w=p.1
    ·rw[Ql hw]
     have e:WO (.str w::ts)=Xy p.2 ts:=by
      rw[Ui,_lv hf b hw];rfl
     rw[e] at q;refine _7 ⟨_,rfl,_,rfl,a,_,rfl,s2.sqt hS,?_,λn hn=>?_⟩
     ·rintro⟨z,_⟩;have:HT.sIx (x::xs).length 0 (some ((1:Nat):Int))=0:=z;rw[HT.sIx_nat,QC] at this;lia
     ·rw[_i9];have sn:=_q (o:=.tup xs) hn;refine⟨_,rfl,rfl,n,G,xs,ts,p.2,rfl,.of _k,(hx.2.mono s2).mono sn,e3 _,_lA p (QE hf),λH5 s5=>q _ (s2.trans (sn.trans s5))⟩
    ·rw[Qi hw];refine _L ⟨_,_,rfl,s2,λj hj p' e'=>?_⟩;by_cases hji:j<i
     ·exact b j hji p' e'
     ·have:j=i:=by lia
      subst this;rw[hf] at e';cases e';exact hw
  |_=>exact _7 (q _ (Same.refl H))
theorem _eY: _mb P base T:=by
 refine Fun.okY T._cY.F _ht λcdv A outer s H vs Q E hr h=>?_;obtain⟨v,e,rfl,⟨a,rfl,hE⟩,q⟩:=h;refine⟨_,(_m (_y (Yp W2 (_i _o _f _b) (_8 (_a _z (_a _z _e))) (by rfl)))),?_⟩;dsimp only[_O];cases e with
 |born n s d f m=>exact _g rfl hE (_c (j:=0) rfl) ⟨few rfl,λp np=>⟨p,_,rfl,.inr (.of _k),rfl,rfl,q _ (_q np)⟩⟩
 |taken c t d=>exact _g rfl hE (_c (j:=0) rfl) ⟨few rfl,λp np=>⟨p,_,rfl,.inr (.of _k),rfl,rfl,q _ (_q np)⟩⟩
 |union x y d=>exact _g rfl hE (_c (j:=0) rfl) ⟨few rfl,λp np=>⟨p,_,rfl,.inr (.of _k),rfl,rfl,q _ (_q np)⟩⟩
 |parted x y d=>exact _g rfl hE (_c (j:=0) rfl) ⟨few rfl,λp np=>⟨p,_,rfl,.inr (.of _k),rfl,rfl,q _ (_q np)⟩⟩
 |dead n d=>exact _g rfl hE (_c (j:=0) rfl) ⟨few rfl,λp np=>⟨p,_,rfl,.inr (.of _k),rfl,rfl,q _ (_q np)⟩⟩
 |given x y z d=>exact _g rfl hE (_c (j:=0) rfl) ⟨few rfl,λp np=>⟨p,_,rfl,.inr (.of _k),rfl,rfl,q _ (_q np)⟩⟩
theorem _dC: _i2 P base T:=by
 refine Fun.okY T._dF.F _lk λcdv A outer s H vs Q E hr h=>?_;obtain⟨v,e,rfl,⟨a,rfl,hE⟩,q⟩:=h
 refine⟨_,(_n (_D (_A _S (_i _o _f _b) _z (_x _)) (_m (_y (X9 rfl (XE (N:=["name"]) [] [none] rfl (by ext) (by ext) (by rfl) (by rfl) (by rfl) (by rfl) (by rfl)) (JB (Y9 VN _f (YF _b) X7)) (λ_ _ _=>(YO (i:=0) _nk rfl (Or.inl rfl))) (λ_ _ _=>(WP (_A XN _f _z (_x _)))) (λ_ _ _=>_f)))) _F)
   (_n (_D (_A _S (_i _o _f _b) _z (_x _)) (_m (_y (Y0 (_a (_i _o _f _b) _e)))) _F)
   (_m (_y (Y0 (_a (_i _o _f _b) (_a (_i _o _f _b) _e))))))),?_⟩
 dsimp only[_O];cases e with
 |born n s d f m =>
  refine _g rfl hE (_c (j:=0) rfl) ⟨rfl,_,rfl,_I (by ext) ⟨_,rfl,_,rfl,?_⟩⟩;dsimp only[XU];refine V9 hE (λh=>absurd h.1 (show ¬(4:Nat)=0 by decide)) λH1 p s1 hp=>?_;have hp':SqT K H1 p ([f,m].map V.str):=hp;refine⟨p,rfl,⟨_,hp'⟩,WS ([f,m].map Ww) (small1000 (by simp)) (λU=>∃v,U=[v]) ⟨_,rfl⟩ (λi H2 hi sm=>?go) (λH2 sm=>?stop) (λi U H2 x H3 o ho hσ sm hx C hC=>?step) (λD H2 nD sm hD=>?fin)⟩
  case go =>
   have hi':i<([f,m].map V.str).length:=hi;exact⟨_,_,sm.sqt hp',Qp hi'⟩
  case stop=>exact⟨_,sm.sqt hp',by simp⟩
  case step =>
   obtain⟨v,rfl⟩:=hσ;obtain⟨rfl,hx⟩:=hx;have e1:=hx _ (sm.sqt hp');rw[Qv] at e1 ho;obtain⟨z,hz,rfl⟩:=Q8.mp e1;rw[hz] at ho;obtain rfl:Ww z=o:=Qt ho;refine⟨_,rfl,rfl,_,rfl,?_⟩;by_cases hz0:z=""
   ·subst hz0;exact _u (by ext) (hC _ _ ⟨_,rfl⟩ (Same.refl _))
   ·have e2:Ww z=some (.str z):=Qa hz0;rw[e2] at hC;exact _I (by rw[YH,Qi hz0];rfl) ⟨_,rfl,hC _ _ ⟨_,rfl⟩ (Same.refl _)⟩
  case fin =>
   rw[_aI] at hD;exact q _ D (s1.trans sm) (_W s1 nD) (.of hD)
 |dead n d=>exact _g rfl hE (_c (j:=0) rfl) ⟨rfl,_,rfl,_u (by ext) (_g rfl hE (_c (j:=0) rfl) ⟨rfl,_,rfl,_I (by ext) (_g rfl hE (_c (j:=1) rfl) ⟨few rfl,λD nD=>q _ D (_q nD) nD (.of _k)⟩)⟩)⟩
 |taken c t d=>exact _g rfl hE (_c (j:=0) rfl) ⟨rfl,_,rfl,_u (by ext) (_g rfl hE (_c (j:=0) rfl) ⟨rfl,_,rfl,_u (by ext) (_g rfl hE (_c (j:=1) rfl) (_g rfl hE (_c (j:=2) rfl) ⟨few rfl,λD nD=>q _ D (_q nD) nD (.of _k)⟩))⟩)⟩
 |union x y d=>exact _g rfl hE (_c (j:=0) rfl) ⟨rfl,_,rfl,_u (by ext) (_g rfl hE (_c (j:=0) rfl) ⟨rfl,_,rfl,_u (by ext) (_g rfl hE (_c (j:=1) rfl) (_g rfl hE (_c (j:=2) rfl) ⟨few rfl,λD nD=>q _ D (_q nD) nD (.of _k)⟩))⟩)⟩
 |parted x y d=>exact _g rfl hE (_c (j:=0) rfl) ⟨rfl,_,rfl,_u (by ext) (_g rfl hE (_c (j:=0) rfl) ⟨rfl,_,rfl,_u (by ext) (_g rfl hE (_c (j:=1) rfl) (_g rfl hE (_c (j:=2) rfl) ⟨few rfl,λD nD=>q _ D (_q nD) nD (.of _k)⟩))⟩)⟩
 |given x y z d=>exact _g rfl hE (_c (j:=0) rfl) ⟨rfl,_,rfl,_u (by ext) (_g rfl hE (_c (j:=0) rfl) ⟨rfl,_,rfl,_u (by ext) (_g rfl hE (_c (j:=1) rfl) (_g rfl hE (_c (j:=2) rfl) ⟨few rfl,λD nD=>q _ D (_q nD) nD (.of _k)⟩))⟩)⟩
theorem _cA: _lp P base T:=by
 refine Fun.okY T._dR.F _nW λcdv A outer s H vs Q E hr h=>?_;obtain⟨v,e,rfl,⟨a,rfl,hE⟩,q⟩:=h
 refine⟨_,(_n (_D (_A _S (_i _o _f _b) _z (_x _)) (_m (_y (_i _o _f _b))) _F)
   (_m (_y (_i _o _f (_gg _eC _b))))),?_⟩
 dsimp only[_O];cases e with
 |born n s d f m=>exact _g rfl hE (_c (j:=0) rfl) ⟨rfl,_,rfl,_I (by ext) (_g rfl hE (_c (j:=3) rfl) q)⟩
 |taken c t d=>exact _g rfl hE (_c (j:=0) rfl) ⟨rfl,_,rfl,_u (by ext) ⟨_,rfl,_,rfl,a,_,_,_,rfl,rfl,hE,rfl,q⟩⟩
 |union x y d=>exact _g rfl hE (_c (j:=0) rfl) ⟨rfl,_,rfl,_u (by ext) ⟨_,rfl,_,rfl,a,_,_,_,rfl,rfl,hE,rfl,q⟩⟩
 |parted x y d=>exact _g rfl hE (_c (j:=0) rfl) ⟨rfl,_,rfl,_u (by ext) ⟨_,rfl,_,rfl,a,_,_,_,rfl,rfl,hE,rfl,q⟩⟩
 |dead n d=>exact _g rfl hE (_c (j:=0) rfl) ⟨rfl,_,rfl,_u (by ext) ⟨_,rfl,_,rfl,a,_,_,_,rfl,rfl,hE,rfl,q⟩⟩
 |given x y z d=>exact _g rfl hE (_c (j:=0) rfl) ⟨rfl,_,rfl,_u (by ext) ⟨_,rfl,_,rfl,a,_,_,_,rfl,rfl,hE,rfl,q⟩⟩
theorem _eP:_lm P base T:=by
 refine Fun.okY T._d3.F _fH λcdv A outer s H vs Q E hr h=>?_;obtain⟨v,e,rfl,hx,q⟩:=h
 refine⟨_,(_n (_D (Xw (Xi (_Z (_eY T) hr (_a _f _e)))) (_m (_y _f)) _F)
   (_n (_H 1 _fH (_U (_bQ K) (by rfl) T.n_sorted WL (_a (Y9 VN _f (YF _b) (YF _b)) _e)))
   (_m (_y (_8 (_a (_i _o _f _b) (_a (_i Y7 _p _b) (_a (_i Y7 _p _b) (_a (_i _o _f _b) _e))))))))),?_⟩
 dsimp only[_O];obtain⟨a,rfl,hE⟩:=id hx;refine⟨_,rfl,rfl,.ref a,e,rfl,hx,λH1 s1=>⟨_,rfl,?_⟩⟩;have hE1:=s1.sqt hE;cases e with
 |born n s d f m=>exact _7 ⟨_,rfl,q _ _ s1 (hx.mono s1)⟩
 |taken c t d=>exact _7 ⟨_,rfl,q _ _ s1 (hx.mono s1)⟩
 |union x y d =>
  refine _L ⟨_,rfl,_,rfl,_,rfl,?_⟩;refine V9 hE1 (λh=>absurd h.1 (show ¬(1:Nat)=0 by decide)) λH2 p s2 hp=>?_;have hp':SqT K H2 p ([x,y].map V.str):=hp;refine⟨p,[x,y],rfl,hp',Rs rfl,λD zs nD perm so=>?_⟩;rw[JL perm so];have s3:=_q (o:=.lst ([(_h x y).1,(_h x y).2].map V.str)) nD;have hE3:=s3.sqt (s2.sqt hE1);have hD:SqL K (_d H2 D (.lst ([(_h x y).1,(_h x y).2].map V.str))) D ([(_h x y).1,(_h x y).2].map V.str):=.of _k;refine⟨_,rfl,a,_,_,_,rfl,rfl,hE3,_c (j:=0) rfl,_,rfl,D,_,_,_,rfl,rfl,hD,_c (j:=0) rfl,_,rfl,D,_,_,_,rfl,rfl,hD,_c (j:=1) rfl,_,rfl,a,_,_,_,rfl,rfl,hE3,_c (j:=3) rfl,few rfl,λt nt=>?_⟩;exact q _ _ (s1.trans (s2.trans (s3.trans (_q nt)))) ⟨t,rfl,.of _k⟩
 |parted x y d =>
  refine _L ⟨_,rfl,_,rfl,_,rfl,?_⟩;refine V9 hE1 (λh=>absurd h.1 (show ¬(1:Nat)=0 by decide)) λH2 p s2 hp=>?_;have hp':SqT K H2 p ([x,y].map V.str):=hp;refine⟨p,[x,y],rfl,hp',Rs rfl,λD zs nD perm so=>?_⟩;rw[JL perm so];have s3:=_q (o:=.lst ([(_h x y).1,(_h x y).2].map V.str)) nD;have hE3:=s3.sqt (s2.sqt hE1);have hD:SqL K (_d H2 D (.lst ([(_h x y).1,(_h x y).2].map V.str))) D ([(_h x y).1,(_h x y).2].map V.str):=.of _k;refine⟨_,rfl,a,_,_,_,rfl,rfl,hE3,_c (j:=0) rfl,_,rfl,D,_,_,_,rfl,rfl,hD,_c (j:=0) rfl,_,rfl,D,_,_,_,rfl,rfl,hD,_c (j:=1) rfl,_,rfl,a,_,_,_,rfl,rfl,hE3,_c (j:=3) rfl,few rfl,λt nt=>?_⟩;exact q _ _ (s1.trans (s2.trans (s3.trans (_q nt)))) ⟨t,rfl,.of _k⟩
 |dead n d=>exact _7 ⟨_,rfl,q _ _ s1 (hx.mono s1)⟩
 |given x y z d=>exact _7 ⟨_,rfl,q _ _ s1 (hx.mono s1)⟩
theorem _fe:_ka P base T:=by
 refine Fun.okY T._gC.F _iP λcdv A outer s H vs Q E hr h=>?_;obtain⟨v,e,rfl,hx,q⟩:=h
 refine⟨_,(_n (_D (_A W2 (_i _o _f _b) (_8 (_a _z (_a _z _e))) (by rfl)) (_m (_y (_8 (_a (_i _o _f _b) (_a (_i _o _f _b) _e))))) _F)
   (_n (_D (_A _S (_i _o _f _b) _z (_x _)) (_m (_y (_8 (_a (_i _o _f _b) (_a (_i _o _f _b) (_a (_i _o _f _b) _e)))))) _F)
   (_n (_D (_A _S (_i _o _f _b) _z (_x _)) (_m (_y (_8 (_a (_i _o _f _b) (_a (_i _o _f _b) (_a (_i _o _f _b) (_a (_i _o _f _b) _e))))))) _F)
   (_m (_y (_s _oc (_8 (_a _z _e)) (Y9 VN (_Z (_eP T) hr (_a _f _e)) (YF _b) X7))))))),?_⟩
 dsimp only[_O];obtain⟨a,rfl,hE⟩:=id hx;cases e with
 |born n s d f m =>
  refine⟨_,rfl,a,_,_,_,rfl,rfl,hE,_c (j:=0) rfl,few rfl,λp np=>⟨p,_,rfl,.inr (.of _k),rfl,rfl,_,rfl,_I (by ext) ?_⟩⟩;have s1:=_q (o:=.tup [.str "born",.str "dead"]) np;have hE1:=s1.sqt hE;exact⟨_,rfl,a,_,_,_,rfl,rfl,hE1,_c (j:=0) rfl,_,rfl,a,_,_,_,rfl,rfl,hE1,_c (j:=1) rfl,few rfl,λt nt=>q _ t (s1.trans (_q nt)) (_W s1 nt) _k⟩
 |taken c t d =>
  refine⟨_,rfl,a,_,_,_,rfl,rfl,hE,_c (j:=0) rfl,few rfl,λp np=>⟨p,_,rfl,.inr (.of _k),rfl,rfl,_,rfl,_u (by ext) ?_⟩⟩;have s1:=_q (o:=.tup [.str "born",.str "dead"]) np;have hE1:=s1.sqt hE;refine⟨_,rfl,a,_,_,_,rfl,rfl,hE1,_c (j:=0) rfl,rfl,_,rfl,_I (by ext) ?_⟩;exact⟨_,rfl,a,_,_,_,rfl,rfl,hE1,_c (j:=0) rfl,_,rfl,a,_,_,_,rfl,rfl,hE1,_c (j:=1) rfl,_,rfl,a,_,_,_,rfl,rfl,hE1,_c (j:=2) rfl,few rfl,λt nt=>q _ t (s1.trans (_q nt)) (_W s1 nt) _k⟩
 |union x y d =>
  refine⟨_,rfl,a,_,_,_,rfl,rfl,hE,_c (j:=0) rfl,few rfl,λp np=>⟨p,_,rfl,.inr (.of _k),rfl,rfl,_,rfl,_u (by ext) ?_⟩⟩;have s1:=_q (o:=.tup [.str "born",.str "dead"]) np;have hE1:=s1.sqt hE;refine⟨_,rfl,a,_,_,_,rfl,rfl,hE1,_c (j:=0) rfl,rfl,_,rfl,_u (by ext) ?_⟩;refine⟨_,rfl,a,_,_,_,rfl,rfl,hE1,_c (j:=0) rfl,rfl,_,rfl,_u (by ext) ?_⟩;refine⟨few rfl,λt nt=>⟨_,rfl,rfl,.ref a,_,rfl,(hx.mono s1).mono (_q nt),λH2 u s2 hu=>?_⟩⟩;obtain⟨b,rfl,hb⟩:=hu;refine⟨_,rfl,?_⟩;dsimp only[XU];refine V9 hb (λh=>absurd h.1 (show ¬(1:Nat)=0 by decide)) λH3 c s3 hc=>?_;refine⟨t,c,[.str "tie"],[.str (_h x y).1,.str (_h x y).2,.int d],rfl,rfl,.of (s3 _ _ (s2 _ _ _k)),hc,by simp,few rfl,λh=>absurd h (by simp),λ_ z nz=>?_⟩;have s4:=(s1.trans (_q nt)).trans (s2.trans s3);exact q _ z (s4.trans (_q nz)) (_W s4 nz) _k
 |parted x y d =>
  refine⟨_,rfl,a,_,_,_,rfl,rfl,hE,_c (j:=0) rfl,few rfl,λp np=>⟨p,_,rfl,.inr (.of _k),rfl,rfl,_,rfl,_u (by ext) ?_⟩⟩;have s1:=_q (o:=.tup [.str "born",.str "dead"]) np;have hE1:=s1.sqt hE;refine⟨_,rfl,a,_,_,_,rfl,rfl,hE1,_c (j:=0) rfl,rfl,_,rfl,_u (by ext) ?_⟩;refine⟨_,rfl,a,_,_,_,rfl,rfl,hE1,_c (j:=0) rfl,rfl,_,rfl,_u (by ext) ?_⟩;refine⟨few rfl,λt nt=>⟨_,rfl,rfl,.ref a,_,rfl,(hx.mono s1).mono (_q nt),λH2 u s2 hu=>?_⟩⟩;obtain⟨b,rfl,hb⟩:=hu;refine⟨_,rfl,?_⟩;dsimp only[XU];refine V9 hb (λh=>absurd h.1 (show ¬(1:Nat)=0 by decide)) λH3 c s3 hc=>?_;refine⟨t,c,[.str "tie"],[.str (_h x y).1,.str (_h x y).2,.int d],rfl,rfl,.of (s3 _ _ (s2 _ _ _k)),hc,by simp,few rfl,λh=>absurd h (by simp),λ_ z nz=>?_⟩;have s4:=(s1.trans (_q nt)).trans (s2.trans s3);exact q _ z (s4.trans (_q nz)) (_W s4 nz) _k
 |dead n d =>
  refine⟨_,rfl,a,_,_,_,rfl,rfl,hE,_c (j:=0) rfl,few rfl,λp np=>⟨p,_,rfl,.inr (.of _k),rfl,rfl,_,rfl,_I (by ext) ?_⟩⟩;have s1:=_q (o:=.tup [.str "born",.str "dead"]) np;have hE1:=s1.sqt hE;exact⟨_,rfl,a,_,_,_,rfl,rfl,hE1,_c (j:=0) rfl,_,rfl,a,_,_,_,rfl,rfl,hE1,_c (j:=1) rfl,few rfl,λt nt=>q _ t (s1.trans (_q nt)) (_W s1 nt) _k⟩
 |given x y z d =>
  refine⟨_,rfl,a,_,_,_,rfl,rfl,hE,_c (j:=0) rfl,few rfl,λp np=>⟨p,_,rfl,.inr (.of _k),rfl,rfl,_,rfl,_u (by ext) ?_⟩⟩;have s1:=_q (o:=.tup [.str "born",.str "dead"]) np;have hE1:=s1.sqt hE;refine⟨_,rfl,a,_,_,_,rfl,rfl,hE1,_c (j:=0) rfl,rfl,_,rfl,_u (by ext) ?_⟩;refine⟨_,rfl,a,_,_,_,rfl,rfl,hE1,_c (j:=0) rfl,rfl,_,rfl,_I (by ext) ?_⟩;exact⟨_,rfl,a,_,_,_,rfl,rfl,hE1,_c (j:=0) rfl,_,rfl,a,_,_,_,rfl,rfl,hE1,_c (j:=1) rfl,_,rfl,a,_,_,_,rfl,rfl,hE1,_c (j:=2) rfl,_,rfl,a,_,_,_,rfl,rfl,hE1,_c (j:=4) rfl,few rfl,λt nt=>q _ t (s1.trans (_q nt)) (_W s1 nt) _k⟩
theorem _mQ: _ie P base T:=by
 refine Fun.okY T._cx.F _jb λcdv A outer s H vs Q E hr h=>?_;obtain⟨x,rfl,h⟩:=h;refine⟨_,(_m (_y (XA (Wy K (by rfl) T.n_isinstance (_a _f (_a (WC (v:=.ty "str") (by rfl) T.n_str VG rfl) _e))) (XC (Yp W2 _f (Uk (v:=.ref T.a_STEP_LETTERS) (by rfl) T.m_STEP_LETTERS rfl) (by rfl)))))),?_⟩;dsimp only[_O];rcases h with⟨ty,hk,ks,q⟩|⟨l,rfl,q⟩
 ·exact⟨_,rfl,_,.ty "str",_,_,rfl,rfl,hk,ks,_,rfl,_L q⟩
 refine⟨_,rfl,_,.ty "str",_,_,rfl,rfl,.of (.str _),T.kss',_,rfl,_7 ⟨_,rfl,T.a_STEP_LETTERS,_,rfl,.inr (T._g6 _),rfl,rfl,?_⟩⟩;have e:(if false=true then !Xp (.str l) (Xr.map V.str) else Xp (.str l) (Xr.map V.str))=Jf l:=JK l Xr;rw[<-e] at q;exact q
theorem _ec: _iF P base T:=by
 refine Fun.okY T._df.F _j0 λcdv A outer s H vs Q E hr h=>?_;obtain⟨a,b,rfl,q⟩:=h;refine⟨_,(_m (_y (_8 (_a (_U (_iQ rfl) (by rfl) T.n_min _cq (_a _f (_a _p _e))) (_a (_U (_mM rfl) (by rfl) T.n_max _ae (_a _f (_a _p _e))) _e))))),?_⟩;refine⟨_,rfl,_,rfl,_,_,rfl,_,rfl,_,rfl,_,_,rfl,few rfl,λp np=>?_⟩;rw[_hu,_mW];exact q _ p (_q np) np _k
theorem _aQ: _gP P base T:=by
 refine Fun.okY T.VE.F _hp λcdv A outer s H vs Q E hr h=>?_;obtain⟨b,dx,rfl,h0,q⟩:=h
 refine⟨_,(_n (UY _f JE rfl)
   (_n (UY _f _bd rfl)
   (_n (UY _f JE rfl)
   (_n (UY _f JE rfl)
   (_m (UY _f JE rfl)))))),?_⟩
 dsimp only[_O];refine λk nk=>⟨_,rfl,b,T.cB,dx,[],rfl,(_l (_P h0 nk)).trans h0,T.lB_,T.nBkept,QJ (m:=10) (Rs rfl) (by decide),?_⟩;obtain⟨g1,p1,s1,m1⟩:=Jk (fs:=[]) "kept" (.dT []) h0 nk;generalize hH1:_d (_d H k (.dT [])) b (.ins T.cB dx (_G "kept" (.ref k) ([])))=H1 at *;refine λbi nbi=>⟨_,rfl,b,T.cB,dx,_G "kept" (.ref k) [],rfl,(_l (_P g1 nbi)).trans g1,T.lB_,T.nBbirths,QJ (m:=10) (Rs rfl) (by decide),?_⟩;obtain⟨g2,p2,s2,m2⟩:=Jk (fs:=_G "kept" (.ref k) []) "births" (.dK []) g1 nbi;generalize hH2:_d (_d H1 bi (.dK [])) b (.ins T.cB dx (_G "births" (.ref bi) (_G "kept" (.ref k) [])))=H2 at *;refine λli nli=>⟨_,rfl,b,T.cB,dx,_G "births" (.ref bi) (_G "kept" (.ref k) []),rfl,(_l (_P g2 nli)).trans g2,T.lB_,T.nBlinks,QJ (m:=10) (Rs rfl) (by decide),?_⟩;obtain⟨g3,p3,s3,m3⟩:=Jk (fs:=_G "births" (.ref bi) (_G "kept" (.ref k) [])) "links" (.dT []) g2 nli;generalize hH3:_d (_d H2 li (.dT [])) b (.ins T.cB dx (_G "links" (.ref li) (_G "births" (.ref bi) (_G "kept" (.ref k) []))))=H3 at *;refine λti nti=>⟨_,rfl,b,T.cB,dx,_G "links" (.ref li) (_G "births" (.ref bi) (_G "kept" (.ref k) [])),rfl,(_l (_P g3 nti)).trans g3,T.lB_,T.nBties,QJ (m:=10) (Rs rfl) (by decide),?_⟩;obtain⟨g4,p4,s4,m4⟩:=Jk (fs:=_G "links" (.ref li) (_G "births" (.ref bi) (_G "kept" (.ref k) []))) "ties" (.dT []) g3 nti;generalize hH4:_d (_d H3 ti (.dT [])) b (.ins T.cB dx (_G "ties" (.ref ti) (_G "links" (.ref li) (_G "births" (.ref bi) (_G "kept" (.ref k) [])))))=H4 at *;refine λsu nsu=>⟨_,rfl,b,T.cB,dx,_G "ties" (.ref ti) (_G "links" (.ref li) (_G "births" (.ref bi) (_G "kept" (.ref k) []))),rfl,(_l (_P g4 nsu)).trans g4,T.lB_,T.nBsums,QJ (m:=10) (Rs rfl) (by decide),?_⟩;obtain⟨g5,p5,s5,m5⟩:=Jk (fs:=_G "ties" (.ref ti) (_G "links" (.ref li) (_G "births" (.ref bi) (_G "kept" (.ref k) [])))) "sums" (.dT []) g4 nsu;generalize hH5:_d (_d H4 su (.dT [])) b (.ins T.cB dx (_G "sums" (.ref su) (_G "ties" (.ref ti) (_G "links" (.ref li) (_G "births" (.ref bi) (_G "kept" (.ref k) []))))))=H5 at *;have kb:∀{c:Addr} {o:HO} {Hx:Hp},Hx c=some o->(∀fs,o≠.ins T.cB dx fs)->∀{fs},Hx b=some (.ins T.cB dx fs)->c≠b:=λe no fs eb z=>by subst z;rw[eb] at e;cases e;exact no _ rfl
 have dT:∀fs,HO.dT []≠.ins T.cB dx fs:=λ_ z=>by cases z
 have dK:∀fs,HO.dK []≠.ins T.cB dx fs:=λ_ z=>by cases z
 have a1:=s5 _ _ (s4 _ _ (s3 _ _ (s2 _ _ p1 (kb p1 dT g1)) (kb (s2 _ _ p1 (kb p1 dT g1)) dT g2)) (kb (s3 _ _ (s2 _ _ p1 (kb p1 dT g1)) (kb (s2 _ _ p1 (kb p1 dT g1)) dT g2)) dT g3)) (kb p1 dT g1);have a2:=s5 _ _ (s4 _ _ (s3 _ _ p2 (kb p2 dK g2)) (kb p2 dK g2)) (kb p2 dK g2);have a3:=s5 _ _ (s4 _ _ p3 (kb p3 dT g3)) (kb p3 dT g3);have a4:=s5 _ _ p4 (kb p4 dT g4);rw[_k6] at g5;have kli:k≠li:=_P (s2 _ _ p1 (kb p1 dT g1)) nli;have kti:k≠ti:=_P (s3 _ _ (s2 _ _ p1 (kb p1 dT g1)) (kb (s2 _ _ p1 (kb p1 dT g1)) dT g2)) nti;have ksu:k≠su:=_P (s4 _ _ (s3 _ _ (s2 _ _ p1 (kb p1 dT g1)) (kb (s2 _ _ p1 (kb p1 dT g1)) dT g2)) (kb (s3 _ _ (s2 _ _ p1 (kb p1 dT g1)) (kb (s2 _ _ p1 (kb p1 dT g1)) dT g2)) dT g3)) nsu;have liti:li≠ti:=_P p3 nti;have lisu:li≠su:=_P (s4 _ _ p3 (kb p3 dT g3)) nsu;have tisu:ti≠su:=_P p4 nsu;exact q H5 k bi li ti su ⟨g5,by simp[kli,kti,ksu,liti,lisu,tisu],by simp[_Y],a1,a2,a3,a4,p5,λ_ h=>(nomatch h),λ_ h=>(nomatch h),λ_ h=>(nomatch h)⟩ (λc o e cb=>s5 _ _ (s4 _ _ (s3 _ _ (s2 _ _ (s1 _ _ e cb) cb) cb) cb) cb) nk (m1 _ nbi) (m1 _ (m2 _ nli)) (m1 _ (m2 _ (m3 _ nti))) (m1 _ (m2 _ (m3 _ (m4 _ nsu))))
theorem Wu: _jv P base T:=by
 refine Fun.okY T.JO.F _nS λcdv A outer s H vs Q E hr h=>?_;obtain⟨v,x,B,rfl,⟨b,dx,k,bi,li,ti,su,rfl,hB⟩,h⟩:=h
 refine⟨_,(_n (_D (PW.pt (Xz (Xw (Xi (Wy K (by rfl) T.n_isinstance (_a _p (_a (WC (v:=.ty "str") (by rfl) T.n_str VG rfl) _e))))) (Wt (_bN (_fj (YN hr) _p (YM _f rfl)))))) (_m (_nN (by rfl) T.m_NoPerson T.x_NoPerson EB rfl _ml (_a _z _e))) _F)
   (_m (_y (_fo (YN hr) (YM _f rfl) _p (λ_ _=>rfl))))),?_⟩
 dsimp only[_O];rcases h with hf|⟨n,rfl,qe,q⟩
 ·exact hf.elim
 have dg:=DGet.k (k:=.inr n) hB.bi;rw[_a5] at dg;refine⟨_,rfl,_,.ty "str",_,_,rfl,rfl,.of (.str _),T.kss',_,rfl,_L ⟨_,rfl,_,rfl,b,T.cB,dx,_,_,rfl,hB.ob,T.lB_,T.nBbirths,Um,bi,_,rfl,dg,_,rfl,?_⟩⟩;cases hb:_Q n B.kept with
 |none=>exact _7 ⟨few rfl,qe hb⟩
 |some p =>
  rw[hb] at dg;exact _L ⟨_,rfl,b,T.cB,dx,_,_,rfl,hB.ob,T.lB_,T.nBbirths,Um,_,rfl,bi,.ref p.2,rfl,dg,q p hb⟩
theorem _aV:_gN P base T:=by
 refine Fun.okY T._fB.F _jn λcdv A outer s H vs Q E hr h=>?_;obtain⟨v,x,B,rfl,hv,h⟩:=h;refine⟨_,(_m (_y (_i _o (_V _f T.lB_ (Wu T) hr (_a _p _e)) _b))),?_⟩;dsimp only[_O];obtain⟨b,dx,k,bi,li,ti,su,rfl,hB⟩:=id hv;refine⟨_,rfl,b,dx,_,rfl,hB.ob,rfl,_,rfl,rfl,.ref b,x,B,rfl,hv,?_⟩;rcases h with hf|⟨n,rfl,qe,q⟩
 ·exact hf.elim
 refine .inr ⟨n,rfl,qe,λp hp=>?_⟩;obtain⟨hm,hn⟩:=JN hp;have hE:=hB.en p hm
 obtain⟨n',s,d,f,m,he⟩:∃n' s d f m,p.1=.born n' s d f m:=by
  cases e:p.1 with
  |born n' s d f m=>exact⟨n',s,d,f,m,rfl⟩
  |_=>rw[e] at hn;cases hn
 rw[he] at hE;exact⟨p.2,_,_,_,rfl,rfl,hE,_c (j:=2) rfl,q p hp n' s d f m he⟩
theorem VH:_jG P base T:=by
 refine Fun.okY T._cm.F _ok λcdv A outer s H vs Q E hr h=>?_;obtain⟨v,x,B,rfl,hv,h⟩:=h;refine⟨_,(_m (_y (_i _o (_V _f T.lB_ (Wu T) hr (_a _p _e)) _b))),?_⟩;dsimp only[_O];obtain⟨b,dx,k,bi,li,ti,su,rfl,hB⟩:=id hv;refine⟨_,rfl,b,dx,_,rfl,hB.ob,rfl,_,rfl,rfl,.ref b,x,B,rfl,hv,?_⟩;rcases h with hf|⟨n,rfl,qe,q⟩
 ·exact hf.elim
 refine .inr ⟨n,rfl,qe,λp hp=>?_⟩;obtain⟨hm,hn⟩:=JN hp;have hE:=hB.en p hm
 obtain⟨n',s,d,f,m,he⟩:∃n' s d f m,p.1=.born n' s d f m:=by
  cases e:p.1 with
  |born n' s d f m=>exact⟨n',s,d,f,m,rfl⟩
  |_=>rw[e] at hn;cases hn
 rw[he] at hE;exact⟨p.2,_,_,_,rfl,rfl,hE,_c (j:=3) rfl,q p hp n' s d f m he⟩
theorem _cy:_l9 P base T:=by
 refine Fun.okY T._e5.F _lD λcdv A outer s H vs Q E hr h=>?_;obtain⟨v,n,s,d,B,rfl,hv,kn,q⟩:=h;refine⟨_,(_m (_y (_cK (Yp _S _p _z (_x _)) (XC (XA (Yp _S (_V _f T.lB_ (_aV T) hr (_a _p _e)) _t (_x _)) (XC (Yp U9 (_V _f T.lB_ (VH T) hr (_a _p _e)) _X (_x _)))))))),?_⟩;obtain⟨b,dx,k,bi,li,ti,su,rfl,hB⟩:=id hv;refine⟨_,rfl,rfl,_,rfl,?_⟩;by_cases hn:n=""
 ·have e:XG B n s d=true:=by unfold XG;rw[Ql hn];rfl
  rw[e] at q;exact _I (by rw[YH];exact Ql hn) q
 refine _u (by rw[YH];exact Qi hn) ?_;have e0:XG B n s d=(decide (W8 B n=s)&&decide (_6 B n<d)):=by unfold XG;rw[Qi hn];rfl
 rw[e0] at q;refine⟨_,rfl,b,dx,_,rfl,hB.ob,rfl,_,rfl,rfl,.ref b,.str n,B,rfl,hv,.inr ⟨n,rfl,λno=>absurd no (kn hn),λp hp n' s' d' f m he=>?_⟩⟩;rw[_bo hp he] at q;refine⟨_,rfl,rfl,_,rfl,?_⟩;by_cases hs:s'=s
 ·rw[Ql hs,GA] at q;refine _I (by rw[YH];exact Ql hs) ?_;refine⟨_,rfl,b,dx,_,rfl,hB.ob,rfl,_,rfl,rfl,.ref b,.str n,B,rfl,hv,.inr ⟨n,rfl,λno=>absurd no (kn hn),λp2 hp2 n2 s2 d2 f2 m2 he2=>?_⟩⟩;rw[V7 hp2 he2] at q;exact⟨_,rfl,_,_,rfl,rfl,q⟩
 ·rw[Qi hs,Nf] at q;exact _u (by rw[YH];exact Qi hs) q
theorem _iS:_iM P base T:=by
 refine Fun.okY T._fQ.F _ei λcdv A outer s H vs Q E hr h=>?_;obtain⟨v,x,B,e,rfl,hv,hx,kn,q⟩:=h
 refine⟨_,(_n (_D (_A _S (_i _o _p _b) _z (_x _)) (_m (_y (XA (_V _f T.lB_ (_cy T) hr (_a (_i _o _p _b) (_a _z (_a (_i _o _p _b) _e)))) (XC (_V _f T.lB_ (_cy T) hr (_a (_i _o _p _b) (_a _z (_a (_i _o _p _b) _e)))))))) _F)
   (_n (_H 2 _ei (_Z (_dC T) hr (_a _p _e)))
   (_n (_D (PW.pt (Vj (_A _S (_U YS (by rfl) T.n_len Yx (_a _t _e)) _b (_x _)) (Vq (_A _S (_i Y7 _t _b) (_i Y7 _t _b) (_x _))))) (_m (_y Yo)) _F)
   (_n (_D (PW.pt (Vj (_A _S (_i _o _p _b) _z (_x _)) (Vq (_A U3 (_V _f T.lB_ (VH T) hr (_a (_i _o _p _b) _e)) (_V _f T.lB_ (VH T) hr (_a (_i _o _p _b) _e)) (_x _))))) (_m (_y Yo)) _F)
   (_m (_y (_U (_bA rfl) (by rfl) T.n_all _bt (_a (X9 rfl (XE (N:=["name","entry","self"]) ["self","entry"] [none,some 1,some 0] rfl (by ext) (by ext) (by rfl) (by rfl) (by rfl) (by rfl) (by rfl)) (YI _t) (λ_ _ _=>(YO (i:=0) _iO rfl (Or.inl rfl))) (λ_ _ _=>Ug) (λ_ _ _=>(Yp U3 (_Z (_cA T) hr (_a _p _e)) (_V _t T.lB_ (VH T) hr (_a _f _e)) (_x _)))) _e)))))))),?_⟩
 dsimp only[_O];obtain⟨b,dx,k,bi,li,ti,su,rfl,hB⟩:=id hv;obtain⟨a,rfl,hE⟩:=id hx;by_cases hb:e.isBorn=true
 ·cases e with
  |born n s d f m =>
   have kf:f≠""->Known B f:=λh=>kn f (by simp[Ent.named,h]);have km:m≠""->Known B m:=λh=>kn m (by simp[Ent.named,h]);have q1:=q _ (Same.refl H);have ef:XZ B (.born n s d f m)=(XG B f "he" d&&XG B m "she" d):=rfl;rw[ef] at q1;refine⟨_,rfl,a,_,_,_,rfl,rfl,hE,_c (j:=0) rfl,rfl,_,rfl,_I (by ext) ⟨_,rfl,b,dx,_,rfl,hB.ob,rfl,_,rfl,a,_,_,_,rfl,rfl,hE,_c (j:=4) rfl,_,rfl,a,_,_,_,rfl,rfl,hE,_c (j:=3) rfl,rfl,.ref b,f,"he",d,B,rfl,hv,kf,_,rfl,WB (λh1=>?_) (λh1=>?_)⟩⟩
   ·rw[h1,GA] at q1;exact⟨_,rfl,b,dx,_,rfl,hB.ob,rfl,_,rfl,a,_,_,_,rfl,rfl,hE,_c (j:=5) rfl,_,rfl,a,_,_,_,rfl,rfl,hE,_c (j:=3) rfl,rfl,.ref b,m,"she",d,B,rfl,hv,km,q1⟩
   ·rw[h1,Nf] at q1;exact q1
  |_=>cases hb
 replace hb:=RA.mpr hb;rw[JT hb] at q
 have w0:∃w:Str,(e.row.map kV)[0]?=some (.str w)/\w≠"born":=by
  cases e with
  |born=>cases hb
  |_=>exact⟨_,rfl,by ext⟩
 obtain⟨w,hw,hwb⟩:=w0;refine⟨_,rfl,a,_,_,_,rfl,rfl,hE,_c hw,rfl,_,rfl,_u (by rw[YH];exact Qi hwb) ?_⟩;refine⟨_,rfl,rfl,.ref a,e,rfl,hx,λH1 D s1 nD hD=>?_⟩;dsimp only[W9];refine Wg (λU H2=>U=[some (.ref b),some (.ref a),some (.ref D)]/\H2=H1/\e.same=false) (λnx rest=>?_) (λU H2 hJ=>?_)
 ·cases e with
  |born=>cases hb
  |dead n d =>
   exact⟨_,rfl,D,_,rfl,.inl hD,rfl,_,rfl,_u rfl (_L (rest _ _ ⟨rfl,rfl,rfl⟩))⟩
  |_ =>
   refine⟨_,rfl,D,_,rfl,.inl hD,rfl,_,rfl,_I rfl ⟨_,rfl,D,_,_,_,rfl,rfl,hD,_c (j:=0) rfl,_,rfl,D,_,_,_,rfl,rfl,hD,_c (j:=1) rfl,rfl,_,rfl,?_⟩⟩;refine WB (λh1=>?_) (λh1=>rest _ _ ⟨rfl,rfl,?_⟩)
   ·have q1:=q _ s1;rw[YH] at h1;simp only[Ent.same,h1,Bool.not_true,Nf] at q1;exact q1
   ·rw[YH] at h1;exact h1
 obtain⟨rfl,rfl,hsame⟩:=hJ;have hv2:=hv.mono s1;have hB2:=hB.mono s1;have hE2:=s1.sqt hE;have kn2:∀n∈e.named,∀{P:Prop},_Q n B.kept=none->P:=λn h _ no=>absurd no (kn n h);rw[hsame] at q;refine Wg (λU H3=>U=[some (.ref b),some (.ref a),some (.ref D)]/\H3=H2/\e.early B=false) (λnx rest=>?_) (λU H3 hJ=>?_)
 ·cases e with
  |born=>cases hb
  |taken c t d =>
   refine⟨_,rfl,a,_,_,_,rfl,rfl,hE2,_c (j:=0) rfl,rfl,_,rfl,_I (by ext) ?_⟩;refine⟨_,rfl,b,dx,_,rfl,hB2.ob,rfl,_,rfl,a,_,_,_,rfl,rfl,hE2,_c (j:=2) rfl,rfl,.ref b,.str t,B,rfl,hv2,.inr ⟨t,rfl,kn2 t (by simp[Ent.named]),λp hp n' s' d' f m he=>?_⟩⟩;refine⟨_,rfl,b,dx,_,rfl,hB2.ob,rfl,_,rfl,a,_,_,_,rfl,rfl,hE2,_c (j:=1) rfl,rfl,.ref b,.str c,B,rfl,hv2,.inr ⟨c,rfl,kn2 c (by simp[Ent.named]),λp2 hp2 n2 s2 d2 f2 m2 he2=>?_⟩⟩;have e1:=V7 hp he;have e2:=V7 hp2 he2;refine⟨_,_,rfl,rfl,_,rfl,WB (λh1=>?_) (λh1=>rest _ _ ⟨rfl,rfl,?_⟩)⟩
   ·have q1:=q _ s1
    have e3:(Ent.taken c t d).early B=true:=by
     show decide (_6 B c<=_6 B t)=true;rw[e1,e2];exact h1
    rw[e3] at q1;exact q1
   ·show decide (_6 B c<=_6 B t)=false;rw[e1,e2];exact h1
  |_=>exact⟨_,rfl,a,_,_,_,rfl,rfl,hE2,_c (j:=0) rfl,rfl,_,rfl,_u (by ext) (_L (rest _ _ ⟨rfl,rfl,rfl⟩))⟩
 obtain⟨rfl,rfl,hearly⟩:=hJ;rw[hearly] at q;refine⟨_,rfl,D,rfl,⟨_,hD⟩,UR (e.named.map λn=>V.bl (decide (_6 B n<=e.day))) ?len (λU=>∃v,U=[v,some (.ref a),some (.ref b)]) ⟨_,rfl⟩ (λi H3 hi sm=>?go) (λH3 sm=>?stop) (λi U H3 x H4 y hy hσ sm hx2 C hC=>?step) (λD2 H3 nD2 sm hD2=>?fin)⟩
 case len =>
  refine small1000 ?_;rw[Qd];cases e with
  |born=>cases hb
  |_=>exact Rs rfl
 case go =>
  have hi':i<(e.named.map V.str).length:=by rw[Qd] at hi ⊢;exact hi
  exact⟨_,_,sm.sql hD,Qp hi'⟩
 case stop=>exact⟨_,sm.sql hD,by simp⟩
 case step =>
  obtain⟨v,rfl⟩:=hσ;obtain⟨rfl,hx3⟩:=hx2;have e1:=hx3 _ (sm.sql hD);rw[Qv] at e1 hy;obtain⟨n,hn,rfl⟩:=Q8.mp e1;rw[hn] at hy;obtain rfl:V.bl (decide (_6 B n<=e.day))=y:=Qt hy;have hB3:=hB2.mono sm;refine⟨_,rfl,rfl,.ref a,e,rfl,hx.mono (s1.trans sm),_,rfl,b,dx,_,rfl,hB3.ob,rfl,_,rfl,rfl,.ref b,.str n,B,rfl,hv2.mono sm,.inr ⟨n,rfl,kn2 n (QE hn),λp hp n' s' d' f m he=>⟨_,_,rfl,rfl,?_⟩⟩⟩;rw[V7 hp he] at hC;exact hC _ _ ⟨_,rfl⟩ (Same.refl _)
 case fin =>
  refine⟨D2,e.named.map λn=>decide (_6 B n<=e.day),rfl,by rw[hD2,QF];rfl,?_⟩;have q1:=q _ (s1.trans sm);rw[GP];exact q1
theorem _me:_j1 P base T:=by
 refine Fun.okY T._ac.F _es λcdv A outer s H vs Q E hr h=>?_;obtain⟨v,x,B,e,rfl,hv,hx,hok,nf,qe,qn⟩:=h
 refine⟨_,(_n (_D (Xw (Xi (_Z (_ln T) hr (_a _p _e)))) (_m V6) _F)
   (_n (_D (_A U3 (_U _jl (by rfl) T.n_len Yx (_a (YM _f rfl) _e)) (Uk (v:=.int 400) (by rfl) T.m_MOST_ENTRIES ⟨_,rfl⟩) (_x _)) (_m V6) _F)
   (_n (_D (PW.pt (Vj (_A _S (_i _o _p _b) _z (_x _)) (Vq (_A U3 (_U _iJ (by rfl) T.n_len Yx (_a (YM _f rfl) _e)) (Uk (v:=.int 60) (by rfl) T.m_MOST_PEOPLE ⟨_,rfl⟩) (_x _))))) (_m V6) _F)
   (_n (YU QS rfl (YI (_Z (_dC T) hr (_a _p _e))) (YY 2 _es)
    (_m (Yl (WJ _f T.lB_ T.JO.me (Wu T) (hr.mono (by decide)) T.JO.b .nil _bX (_a _t _e)))))
   (_n (_D (_bN (_ip (YN hr) (_Z (_fe T) hr (_a _p _e)) (YM _f rfl))) (_m V6) _F)
   (_m (_D (Xw (Xi (_V _f T.lB_ (_iS T) hr (_a _p _e)))) (_m V6) _F))))))),?_⟩
 dsimp only[_O];obtain⟨b,dx,k,bi,li,ti,su,rfl,hB⟩:=id hv;obtain⟨h400,h60⟩:=_n7 nf;obtain⟨a,rfl,hE⟩:=id hx;refine⟨_,rfl,rfl,.ref a,rfl,.inr ⟨e.row.map UH,hok.tv hE,e.row_len,λH1 s1=>⟨_,rfl,?_⟩⟩⟩;rw[hok.en];have hB1:=hB.mono s1;have hE1:=s1.sqt hE;have hlen:B.keptD.length=B.kept.length:=Qd ..;refine _L ⟨_,rfl,b,T.cB,dx,_,_,rfl,hB1.ob,T.lB_,T.nBkept,VR,k,_,rfl,hB1.ke,_,_,rfl,rfl,_,rfl,_u (Qi (by rw[hlen];lia)) ?_⟩;dsimp only[_bS];refine Wg (λU H2=>U=[some (.ref b),some (.ref a),none]/\H2=H1) (λnx rest=>?_) (λU H2 hJ=>?_)
 ·cases e with
  |born n s d f m=>exact⟨_,rfl,a,_,_,_,rfl,rfl,hE1,_c (j:=0) rfl,rfl,_,rfl,_I (by ext) ⟨_,rfl,b,T.cB,dx,_,_,rfl,hB1.ob,T.lB_,T.nBbirths,Um,bi,_,rfl,hB1.bi,_,_,rfl,rfl,_,rfl,_u (Qi (by have:=h60 rfl;lia)) (rest _ _ ⟨rfl,rfl⟩)⟩⟩
  |_=>exact⟨_,rfl,a,_,_,_,rfl,rfl,hE1,_c (j:=0) rfl,rfl,_,rfl,_u (by ext) (_L (rest _ _ ⟨rfl,rfl⟩))⟩
 obtain⟨rfl,rfl⟩:=hJ;refine⟨_,rfl,rfl,.ref a,e,rfl,hx.mono s1,λH2 D s2 nD hD=>⟨D,rfl,⟨_,hD⟩,Wo (xs:=e.named.map V.str) (λi U H3=>(∃v,U=[some (.ref b),some (.ref a),v])/\(∀n∈e.named.take i,Known B n)/\Same H2 H3) ⟨⟨_,rfl⟩,by simp,Same.refl _⟩ ?sq ?turn ?done⟩⟩
 case sq =>
  rintro i U H3 hi ⟨_,_,s3⟩;exact s3.sql hD
 case turn =>
  rintro i x U H3 hx3 ⟨⟨v,rfl⟩,kn,s3⟩;rw[Qv] at hx3;obtain⟨n,hn,rfl⟩:=Q8.mp hx3;have sa:=s1.trans (s2.trans s3);have hB3:=hB.mono sa
  exact⟨_,rfl,b,dx,_,rfl,hB3.ob,rfl,_,rfl,rfl,.ref b,.str n,B,rfl,hv.mono sa,.inr ⟨n,rfl,λno=>qe ⟨n,QE hn,no⟩ _ sa,λp hp=>⟨⟨_,rfl⟩,λm hm=>by
   rw[GT,hn] at hm;rcases Qn.mp hm with h|h
   ·exact kn m h
   ·rw[Qz.mp h];unfold Known;rw[hp];simp,s3⟩⟩⟩
 case done =>
  rintro U H3 ⟨⟨v,rfl⟩,kn',s3⟩;rw[Qd,RE] at kn';obtain⟨no,q⟩:=qn kn';obtain⟨_,_,_,h1,hf⟩:=_b1 no;have sa:=s1.trans (s2.trans s3);refine⟨_,rfl,rfl,.ref a,e,rfl,hx.mono sa,λH4 p s4 np hp=>?_⟩;have sb:=sa.trans s4;have hB4:=hB.mono sb;have dg:=DGet.t hB4.ke hp;rw[h1] at dg;refine⟨_,rfl,b,T.cB,dx,_,_,rfl,hB4.ob,T.lB_,T.nBkept,VR,k,_,rfl,dg,_,rfl,_L ?_⟩;refine⟨_,rfl,b,dx,_,rfl,hB4.ob,rfl,_,rfl,rfl,.ref b,.ref a,B,e,rfl,hv.mono sb,hx.mono sb,kn',λH5 s5=>⟨_,rfl,?_⟩⟩;rw[hf];exact _L (q _ (sb.trans s5))
theorem VD: _nP P base T:=by
 refine Fun.okY T._c0.F _mk λcdv A outer s H vs Q E hr h=>?_;obtain⟨b,dx,k,bi,li,ti,su,B,l,n,m,rfl,hB,hl,hz,q⟩:=h;refine⟨_,(_m (VC (YN hr) (YM _f rfl) (_8 (_a _p (_a _t _e))) (_U (_bR K) (by rfl) T.n_sorted WL (_a (_s _aZ (VM (YN hr) (YM _f rfl) (_8 (_a _p (_a _t _e))) (Y0 _e) ⟨rfl,rfl,rfl,rfl⟩) (Y0 (_a _X _e))) _e)) rfl)),?_⟩;dsimp only[_O];refine⟨_,rfl,b,T.cB,dx,_,_,rfl,hB.ob,T.lB_,T.nBlinks,_am,li,rfl,.inr ⟨_,.inl hB.li⟩,_,rfl,_,rfl,few rfl,λt nt=>⟨few rfl,λz nz=>?_⟩⟩;have s1:=_q (o:=.tup [.str l,.str n]) nt;have s2:=_q (o:=.lst []) nz;have s3:=s1.trans s2;have hz0:(_d (_d H t (.tup [.str l,.str n])) z (.lst [])) z=some (.lst []):=_k;have dg:=DGet.t (k:=two (l,n)) (s3 _ _ hB.li) (s2 _ _ (_k (o:=.tup [.str l,.str n])));generalize _d (_d H t (.tup [.str l,.str n])) z (.lst [])=H2 at *;rw[show B.linksD=B.links.map λq=>(two q.1,V.ref q.2.1) from rfl,_bm] at dg
 have rest:∀(D:Addr) (H3:Hp),Same H H3->H D=none->H3 D=some (.lst ((_B (Yc B l n++[m])).map V.str))->_da K (tVar 0) "links" (L2.start ["self","letter","begin","end"] [.ref b,.str l,.str n,.str m]) H3 λx H4=>(_cv (_bM (tVar 1) (_bM (tVar 2) _ai))) (L2.start ["self","letter","begin","end"] [.ref b,.str l,.str n,.str m]) H4 λy H5=>sDPut_ { nx:=λ_ H=>Q .non H,rt:=Q } (L2.start ["self","letter","begin","end"] [.ref b,.str l,.str n,.str m]) (.ref D) x y H5:=by
  intro D H3 sA nD0 hD;have hB3:=hB.mono sA;refine⟨_,rfl,b,T.cB,dx,_,_,rfl,hB3.ob,T.lB_,T.nBlinks,_am,_,rfl,_,rfl,few rfl,λt2 nt2=>?_⟩;have sB:=_q (o:=.tup [.str l,.str n]) nt2;have hB4:=hB3.mono sB;refine⟨li,_,rfl,DPut.t (k:=two (l,n)) hB4.li _k ?_,?_⟩
  ·rw[show B.linksD.length=B.links.length from Qd ..];exact small1000 (by lia)
  rw[show B.linksD=B.links.map λq=>(two q.1,V.ref q.2.1) from rfl,_ay (f:=two) (λ_ _=>W0) (λp:Addr×A9=>V.ref p.1) B.links (l,n) (D,_B (Yc B l n++[m]))];refine q _ D (hB4.links λq hq=>?_) ((But.of [li] (sA.trans sB)).trans (But.put hB4.li (by simp))) nD0;rcases _ao hq with rfl|hq
  ·exact sB _ _ hD
  ·exact hB4.ll q hq
 refine⟨_,dg,?_⟩;cases hk:_2 (l,n) B.links with
 |none =>
   have e:Yc B l n=[]:=by unfold Yc;rw[hk];rfl
   have hX:H2 z=some (.lst ((Yc B l n).map V.str)):=by rw[e];exact hz0
   refine⟨_,rfl,few rfl,λy ny=>⟨z,y,_,_,rfl,rfl,(_l (_P hX ny)).trans hX,_k,?len,λp np=>⟨p,Yc B l n++[m],rfl,.of (by rw[_k,Qu];rfl),?len2,λD zs nD perm so=>?go⟩⟩⟩
   case len=>rw[Qd];exact Ra (small1000 (by show _+1<=1000;lia))
   case len2=>rw[Qq];show _+1<64;lia
   have s4:=(s3.trans (_q ny)).trans ((_q np).trans (_q (o:=.lst (zs.map V.str)) nD));have hDD:(_d (_d (_d H2 y (.lst [V.str m])) p (.lst ((Yc B l n).map V.str++[V.str m]))) D (.lst (zs.map V.str))) D=some (.lst (zs.map V.str)):=_k;rw[UD perm so] at hDD s4 ⊢;exact rest D _ s4 (_W ((s3.trans (_q ny)).trans (_q np)) nD) hDD
 |some x =>
   have e:Yc B l n=x.2:=by unfold Yc;rw[hk];rfl
   obtain⟨y0,hy0,ey⟩:=_bn hk;have hl2:=hB.ll y0 hy0;rw[ey] at hl2;have hX:H2 x.1=some (.lst ((Yc B l n).map V.str)):=by rw[e];exact(s3 _ _ hl2)
   refine⟨_,rfl,few rfl,λy ny=>⟨x.1,y,_,_,rfl,rfl,(_l (_P hX ny)).trans hX,_k,?lenb,λp np=>⟨p,Yc B l n++[m],rfl,.of (by rw[_k,Qu];rfl),?len2b,λD zs nD perm so=>?gob⟩⟩⟩
   case lenb=>rw[Qd];exact Ra (small1000 (by show _+1<=1000;lia))
   case len2b=>rw[Qq];show _+1<64;lia
   have s4:=(s3.trans (_q ny)).trans ((_q np).trans (_q (o:=.lst (zs.map V.str)) nD));have hDD:(_d (_d (_d H2 y (.lst [V.str m])) p (.lst ((Yc B l n).map V.str++[V.str m]))) D (.lst (zs.map V.str))) D=some (.lst (zs.map V.str)):=_k;rw[UD perm so] at hDD s4 ⊢;exact rest D _ s4 (_W ((s3.trans (_q ny)).trans (_q np)) nD) hDD
theorem _nL:_g2 P base T:=by
 refine Fun.okY T._ey.F _jV λcdv A outer s H vs Q E hr h=>?_;obtain⟨b,dx,k,bi,li,ti,su,B0,B,n,s,d,f,m,a,rfl,hk,hb,hbi,no,hl0,hE,hB,hz,hc,q⟩:=h
 refine⟨_,(_n (VC (YN hr) (YM _f rfl) (_i _o _p _b) _p rfl)
   (_n (_D (_A XN (_i _o _p _b) _z (_x _)) (_n (Yl (_V _f T.lB_ (VD T) hr (_a _z (_a (_i _o _p _b) (_a (_i _o _p _b) _e)))))
   (_m (Yl (_V _f T.lB_ (VD T) hr (_a _z (_a (_i _o _p _b) (_a (_i _o _p _b) _e))))))) _F)
   (_m (_D (_A XN (_i _o _p _b) _z (_x _)) (_n (Yl (_V _f T.lB_ (VD T) hr (_a _z (_a (_i _o _p _b) (_a (_i _o _p _b) _e)))))
   (_m (Yl (_V _f T.lB_ (VD T) hr (_a _z (_a (_i _o _p _b) (_a (_i _o _p _b) _e))))))) _F)))),?_⟩
 dsimp only[_O];have hb0:_K (Bk.bornD B0) (.inr n:_j)=none:=by rw[_a5,no];rfl
 refine⟨_,rfl,_,rfl,b,T.cB,dx,_,_,rfl,hb,T.lB_,T.nBbirths,Um,_g rfl hE (_c (j:=1) rfl) ⟨bi,_,rfl,DPut.k (k:=.inr n) hbi (small1000 (Qs (Qs (_n3 B0) hl0) (by decide))),?_⟩⟩;rw[_bu _ hb0,<-_m0 B0 n s d f m a,<-hk];have bt0:But [bi,li] H (_d H bi (.dK (Bk.bornD B.kept))):=But.put hbi (by simp);generalize _d H bi (.dK (Bk.bornD B.kept))=H3 at *;have hmem:(Ent.born n s d f m,a)∈B.kept:=by rw[hk];simp
 dsimp only[_bS];refine Wg (λU H4=>U=[some (.ref b),some (.ref a)]/\∃ls,BkAt K T.cB H4 b dx k bi li ti su { B with links:=ls }/\(∀c,lk ls c=(if f="" then lk B.links else _1 (_1 (lk B.links) ("F",n) f) ("f",f) n) c)/\ls.length<=B.links.length+2/\But [bi,li] H H4/\Grows H B.links ls) (λnx rest=>?_) (λU H4 hJ=>?_)
 ·have hE3:=hB.en _ hmem;refine _g rfl hE3 (_c (j:=4) rfl) ⟨rfl,_,rfl,?_⟩;by_cases f0:f=""
  ·refine _u (by show(!decide (V.str f=V.str ""))=false;rw[YH,Ql f0];rfl) (rest _ _ ⟨rfl,B.links,hB,λc=>by rw[Qb f0],by lia,bt0,Grows.refl _ _⟩)
  have⟨ls,hls,hB4,hF⟩:∃ls,ls=B.links/\BkAt K T.cB H3 b dx k bi li ti su { B with links:=ls }/\∀c,lk ls c=lk B.links c:=⟨B.links,rfl,hB,λc=>rfl⟩;have hz2:ls.length<=890:=by rw[hls];exact hz
  have hz3:ls.length<=B.links.length:=by rw[hls];exact Qg _
  refine _I (by show(!decide (V.str f=V.str ""))=true;rw[YH,Qi f0];rfl) ?_;have hE4:=hB4.en _ hmem;refine⟨_,rfl,b,dx,_,rfl,hB4.ob,rfl,_g rfl hE4 (_c (j:=1) rfl) (_g rfl hE4 (_c (j:=4) rfl) ⟨rfl,b,dx,k,bi,li,ti,su,{ B with links:=ls },"F",n,f,rfl,hB4,?p1,?p2,λH5 D5 hB5 bt5 nD5=>?p3⟩)⟩
  case p1=>rw[Ud,hF];exact hc _
  case p2=>show ls.length<=900;lia
  have hE5:=hB5.en _ hmem;refine⟨_,rfl,b,dx,_,rfl,hB5.ob,rfl,_g rfl hE5 (_c (j:=4) rfl) (_g rfl hE5 (_c (j:=1) rfl) ⟨rfl,b,dx,k,bi,li,ti,su,_,"f",f,n,rfl,hB5,?p4,?p5,λH6 D6 hB6 bt6 nD6=>?p6⟩)⟩
  case p4 =>
   rw[Ud];show(lk (_r ls _ (D5,_B (lk ls ("F",n)++[f]))) _).length<=61;rw[WA,US (show Str.ofString "f"≠Str.ofString "F" by ext),hF];exact hc _
  case p5 =>
   have:=XJ ls ("F",n) (D5,_B (lk ls ("F",n)++[f]));show(_r ls _ (D5,_B (lk ls ("F",n)++[f]))).length<=900;lia
  refine rest _ _ ⟨rfl,_,hB6,λc=>?_,?_,?_,((hls▸Grows.refl _ _:Grows H B.links ls).put (bt0.al _ nD5)).put (bt0.al _ (bt5.al _ nD6))⟩
  ·show lk (_r (_r ls ("F",n) (D5,_B (lk ls ("F",n)++[f]))) ("f",f) (D6,_B (lk (_r ls ("F",n) (D5,_B (lk ls ("F",n)++[f]))) ("f",f)++[n]))) c=_;rw[WA];rw[Qa f0];exact Ux (λc=>(WA ..).trans (Ux hF ..)) ..
  ·have a1:=XJ ls ("F",n) (D5,_B (lk ls ("F",n)++[f]));have a2:=XJ (_r ls ("F",n) (D5,_B (lk ls ("F",n)++[f]))) ("f",f) (D6,_B (lk (_r ls ("F",n) (D5,_B (lk ls ("F",n)++[f]))) ("f",f)++[n]));show(_r (_r ls ("F",n) (D5,_B (lk ls ("F",n)++[f]))) ("f",f) (D6,_B (lk (_r ls ("F",n) (D5,_B (lk ls ("F",n)++[f]))) ("f",f)++[n]))).length<=_;lia
  ·exact bt0.trans ((bt5.mono (by simp)).trans (bt6.mono (by simp)))
 obtain⟨rfl,ls,hB4,hF,hl4,bt4,gr⟩:=hJ;have hE3:=hB4.en _ hmem;refine _g rfl hE3 (_c (j:=5) rfl) ⟨rfl,_,rfl,?_⟩;by_cases m0:m=""
 ·refine _u (by show(!decide (V.str m=V.str ""))=false;rw[YH,Ql m0];rfl) (q _ ls hB4 (λc=>?_) (by lia) bt4 gr);unfold Xl;rw[Qb m0];exact hF c
 ·have h1:∀c:A0,c.1≠"F"->c.1≠"f"->((if f="" then lk B.links else _1 (_1 (lk B.links) ("F",n) f) ("f",f) n) c).length<=61:=by
   intro c c1 c2;by_cases f0:f=""
   ·rw[Qb f0];exact hc c
   ·rw[Qa f0,US c2,US c1];exact hc c
  refine _I (by show(!decide (V.str m=V.str ""))=true;rw[YH,Qi m0];rfl) ?_;have hE4:=hB4.en _ hmem;refine⟨_,rfl,b,dx,_,rfl,hB4.ob,rfl,_g rfl hE4 (_c (j:=1) rfl) (_g rfl hE4 (_c (j:=5) rfl) ⟨rfl,b,dx,k,bi,li,ti,su,{ B with links:=ls },"M",n,m,rfl,hB4,?r1,?r2,λH5 D5 hB5 bt5 nD5=>?r3⟩)⟩
  case r1=>rw[Ud,hF];exact(h1 _ (show Str.ofString "M"≠Str.ofString "F" by ext) (show Str.ofString "M"≠Str.ofString "f" by ext))
  case r2=>show ls.length<=900;lia
  have hE5:=hB5.en _ hmem;refine⟨_,rfl,b,dx,_,rfl,hB5.ob,rfl,_g rfl hE5 (_c (j:=5) rfl) (_g rfl hE5 (_c (j:=1) rfl) ⟨rfl,b,dx,k,bi,li,ti,su,_,"m",m,n,rfl,hB5,?r4,?r5,λH6 D6 hB6 bt6 nD6=>?r6⟩)⟩
  case r4 =>
   rw[Ud];show(lk (_r ls _ (D5,_B (lk ls ("M",n)++[m]))) _).length<=61;rw[WA,US (show Str.ofString "m"≠Str.ofString "M" by ext),hF];exact(h1 _ (show Str.ofString "m"≠Str.ofString "F" by ext) (show Str.ofString "m"≠Str.ofString "f" by ext))
  case r5 =>
   have:=XJ ls ("M",n) (D5,_B (lk ls ("M",n)++[m]));show(_r ls _ (D5,_B (lk ls ("M",n)++[m]))).length<=900;lia
  refine q _ _ hB6 (λc=>?_) ?_ ?_ ((gr.put (bt4.al _ nD5)).put (bt4.al _ (bt5.al _ nD6)))
  ·show lk (_r (_r ls ("M",n) (D5,_B (lk ls ("M",n)++[m]))) ("m",m) (D6,_B (lk (_r ls ("M",n) (D5,_B (lk ls ("M",n)++[m]))) ("m",m)++[n]))) c=_;rw[WA];unfold Xl;rw[Qa m0];exact Ux (λc=>(WA ..).trans (Ux hF ..)) ..
  ·have a1:=XJ ls ("M",n) (D5,_B (lk ls ("M",n)++[m]));have a2:=XJ (_r ls ("M",n) (D5,_B (lk ls ("M",n)++[m]))) ("m",m) (D6,_B (lk (_r ls ("M",n) (D5,_B (lk ls ("M",n)++[m]))) ("m",m)++[n]));show(_r (_r ls ("M",n) (D5,_B (lk ls ("M",n)++[m]))) ("m",m) (D6,_B (lk (_r ls ("M",n) (D5,_B (lk ls ("M",n)++[m]))) ("m",m)++[n]))).length<=_;lia
  ·exact bt4.trans ((bt5.mono (by simp)).trans (bt6.mono (by simp)))
theorem U6:_gV P base T:=by
 refine Fun.okY T._cQ.F _lw λcdv A outer s H vs Q E hr h=>?_;obtain⟨v,x,y,B,rfl,hv,h⟩:=h
 refine⟨_,(_n (_D (Xw (Xi (_Z (_mQ T) hr (_a _p _e)))) (_m V6) _F)
   (_n (Yl (_V _f T.lB_ (Wu T) hr (_a _t _e)))
   (_m (_y (_el _mU (by rfl) T.n_list _ns (_a (VM (YN hr) (YM _f rfl) (_8 (_a _p (_a _t _e))) (Y0 _e) ⟨rfl,rfl,rfl,rfl⟩) _e)))))),?_⟩
 dsimp only[_O];obtain⟨b,dx,k,bi,li,ti,su,rfl,hB⟩:=id hv;rcases h with hf|⟨l,rfl,q1,q23⟩
 ·exact hf.elim
 refine⟨_,rfl,rfl,.str l,rfl,.inr ⟨l,rfl,_,rfl,?_⟩⟩;cases hl:Jf l with
 |false=>exact(q1 hl).elim
 |true =>
  refine _L ⟨_,rfl,b,dx,_,rfl,hB.ob,rfl,_,rfl,rfl,.ref b,y,B,rfl,hv,?_⟩;rcases q23 hl with hf|⟨n,rfl,q2,q3⟩
  ·exact hf.elim
  refine .inr ⟨n,rfl,q2,λp hp=>?_⟩;have kn:Known B n:=by unfold Known;rw[hp];simp
  refine⟨_,rfl,b,T.cB,dx,_,_,rfl,hB.ob,T.lB_,T.nBlinks,_am,li,rfl,.inr ⟨_,.inl hB.li⟩,_,rfl,_,rfl,few rfl,λt nt=>⟨few rfl,λz nz=>?_⟩⟩;have s1:=_q (o:=.tup [.str l,.str n]) nt;have s2:=_q (o:=.lst []) nz;have s3:=s1.trans s2;have dg:=DGet.t (k:=two (l,n)) (s3 _ _ hB.li) (s2 _ _ (_k (o:=.tup [.str l,.str n])));rw[show B.linksD=B.links.map λq=>(two q.1,V.ref q.2.1) from rfl,_bm] at dg;refine⟨_,dg,?_⟩;cases hk:_2 (l,n) B.links with
  |none =>
   have e:Yc B l n=[]:=by unfold Yc;rw[hk];rfl
   rw[e] at q3;exact⟨z,[],rfl,.inl (.of _k),λD nD=>q3 kn _ D (s3.trans (_q nD)) (_W s3 nD) _k⟩
  |some x =>
   have e:Yc B l n=x.2:=by unfold Yc;rw[hk];rfl
   rw[e] at q3;obtain⟨y,hy,ey⟩:=_bn hk;have hl2:=hB.ll y hy;rw[ey] at hl2;exact⟨x.1,_,rfl,.inl (.of (s3 _ _ hl2)),λD nD=>q3 kn _ D (s3.trans (_q nD)) (_W s3 nD) _k⟩
theorem UJ:_ly P base T:=by
 refine FunD.okX (k:=1) T.F_Book_stands _bG (λvs H Q E h=>h.1) (λcdv A outer s H vs Q E hr h=>?_);obtain⟨-,h⟩:=h;obtain⟨v,a,c,z0,B,rfl,hz0,hv,ka,kc,hlen,q⟩:=h
 refine⟨_,(_n (Yl (_V _f T.lB_ (Wu T) hr (_a _p _e)))
   (_n (Yl (_V _f T.lB_ (Wu T) hr (_a _t _e)))
   (_n (_H 4 _bG (VM (YN hr) (YM _f rfl) (_Z (_ec T) hr (_a _p (_a _t _e))) _bd ⟨rfl,rfl,rfl,rfl⟩))
   (_n (_mH (_ag (i:=5) rfl  _bG.nd rfl (Or.inl rfl) (XE (N:=["tied_on","day"]) ["day"] [none,some 3] rfl (by ext) (by ext) (by rfl) (by rfl) (by rfl) (by rfl) (by rfl)) (_ls Yh) (λ_ _ _=>(YO (i:=0) _ld rfl (Or.inl rfl))) (λ_ _ _=>(WP (PW.pt (Xz (_A _f0 _p Jb (_x _)) (Wt (_A Uq _f _p (_x _))))))) (λ_ _ _=>_f)))
   (_m (_y (XA (Yp Jv (_U YS (by rfl) T.n_len Yx (_a Yw _e)) _b (_x _)) (XC (Yp _S (_fo (YN hr) Yh (_U (_lb K rfl) (by rfl) T.n_max _ae (_a Yw _e)) (λ_ _=>rfl)) _z (_x _)))))))))),?_⟩
 dsimp only[_O];obtain⟨b,dx,k,bi,li,ti,su,rfl,hB⟩:=id hv;refine⟨_,rfl,b,dx,_,rfl,hB.ob,rfl,_,rfl,rfl,.ref b,.str a,B,rfl,hv,.inr ⟨a,rfl,λno=>absurd no ka,λp1 hp1=>?_⟩⟩;refine⟨_,rfl,b,dx,_,rfl,hB.ob,rfl,_,rfl,rfl,.ref b,.str c,B,rfl,hv,.inr ⟨c,rfl,λno=>absurd no kc,λp2 hp2=>?_⟩⟩;dsimp only;refine Wg (λσ' H'=>∃d,σ'=[some (.ref b),some (.str a),some (.str c),some z0,some (.ref d),none]/\Same H H'/\H' d=some (.dK (YK (_9 B (_h a c))))) (λnx hnx=>?_) ?_
 ·refine⟨_,rfl,b,T.cB,dx,_,_,rfl,hB.ob,T.lB_,T.nBties,_fy,ti,rfl,.inr ⟨_,.inl hB.ti⟩,_,rfl,_,rfl,rfl,a,c,rfl,λH1 t s1 nt ht=>λz nz=>?_⟩;have s2:=_q (o:=.dK []) nz;have s3:=s1.trans s2;have dg:=DGet.t (k:=two (_h a c)) (s3 _ _ hB.ti) (s2 _ _ ht);rw[show B.tiesD=B.ties.map λq=>(two q.1,V.ref q.2.1) from rfl,VU (f:=two) (λ_ _=>W0) (λp:Addr×A6=>V.ref p.1)] at dg;refine⟨_,dg,?_⟩;cases hk:_E (_h a c) B.ties with
  |none =>
   refine hnx _ _ ⟨z,rfl,s3,?_⟩;have e:_9 B (_h a c)=[]:=by unfold _9;rw[hk];rfl
   rw[e];exact _k
  |some x =>
   refine hnx _ _ ⟨x.1,rfl,s3,?_⟩;have e:_9 B (_h a c)=x.2:=by unfold _9;rw[hk];rfl
   rw[e];exact s3 _ _ (hB.tt _ (Vi hk))
 rintro σ' H2 ⟨d,rfl,s2,hd⟩;have est:Wh B z0 a c=Yr ((_9 B (_h a c)).filter λr=>Wd z0 r.1):=rfl;rw[est] at q;generalize _9 B (_h a c)=l at *;have llen:(YK l).length=l.length:=Qd ..;refine⟨d,YK l,hd,_,rfl,d,YK l,rfl,hd,λo=>WS (l.map (VQ z0)) (small1000 (by rw[Qd];lia)) (λU=>∃w,U=[w,some z0]) ⟨_,rfl⟩ (λi H3 hi sm=>?go) (λH3 sm=>?stop) (λi U H3 x H4 y hy hσ sm hx C hC=>?step) (λD H3 nD sm hD=>?fin)⟩
 case go=>exact⟨sm _ _ _k,by rw[llen];rw[Qd] at hi;exact hi⟩
 case stop=>exact⟨sm _ _ _k,by rw[llen,Qd];exact Qg _⟩
 case step =>
  obtain⟨w,rfl⟩:=hσ;obtain⟨rfl,hx2⟩:=hx;rw[Qv] at hy;obtain⟨r,hr2,rfl⟩:=Q8.mp hy
  have ex:x=.int r.1:=by
   unfold YK at hx2;rw[Qv,hr2] at hx2;exact(Qt hx2).symm
  subst ex;rcases hz0 with rfl|⟨dd,rfl⟩
  ·exact⟨_,rfl,rfl,_,rfl,_I (by rfl) (_7 ⟨_,rfl,hC _ _ ⟨_,rfl⟩ (Same.refl _)⟩)⟩
  ·refine⟨_,rfl,rfl,_,rfl,_u (by rfl) ⟨_,rfl,_,rfl,_,_,rfl,rfl,_,rfl,?_⟩⟩;by_cases hd2:r.1<=dd
   ·rw[show VQ (.int dd) r=some (.int r.1) from Qb (Ql hd2)] at hC;exact _I (Ql hd2) ⟨_,rfl,hC _ _ ⟨_,rfl⟩ (Same.refl _)⟩
   ·rw[show VQ (.int dd) r=none from Qa (by show ¬decide (r.1<=dd)=true;rw[Qi hd2];decide)] at hC;exact _u (Qi hd2) (hC _ _ ⟨_,rfl⟩ (Same.refl _))
 case fin =>
  rw[_ev] at hD;refine⟨o,sm _ _ _k,?_⟩;have nDd:D≠d:=λe=>by subst e;rw[_k] at nD;cases nD
  have hD4:(_d H3 d (.dK (YK l))) D=some (.lst (((l.filter λr=>Wd z0 r.1).map (·.1)).map V.int)):=(_l nDd).trans hD;have hd4:(_d H3 d (.dK (YK l))) d=some (.dK (YK l)):=_k
  have s4:Same H2 (_d H3 d (.dK (YK l))):=λx u e=>by
   by_cases xd:x=d
   ·subst xd;rw[hd] at e;cases e;exact hd4
   ·rw[_l xd];exact sm _ _ ((_l xd).trans e)
  generalize _d H3 d (.dK (YK l))=H5 at *;refine⟨_,rfl,D,_,rfl,.inl (.of hD4),_,_,rfl,rfl,_,rfl,?_⟩;rw[Qd,Qd];cases hl2:l.filter λr=>Wd z0 r.1 with
  |nil =>
   rw[hl2] at q;exact _L (q _ (s2.trans s4))
  |cons r0 l0 =>
   rw[hl2] at q hD4;refine _I (Ql (by rw[QC];lia)) ⟨_,rfl,_,rfl,D,(r0::l0).map (·.1),rfl,.of hD4,by simp,λm hm hx=>?_⟩;obtain⟨x,ex⟩:=_dy hm
   have um:Wd z0 m=true:=by
    obtain⟨rr,hrr,rfl⟩:=Qj.mp hm;rw[<-hl2] at hrr;exact(QL.mp hrr).2
   have ex2:_E m l=some x:=by rw[<-_k2 (p:=Wd z0) um,hl2];exact ex
   have dg:=DGet.k (k:=.inl m) hd4;rw[show YK l=l.map λq=>((.inl q.1:_j),V.str q.2) from rfl,VU (f:=(Sum.inl:Int->_j)) _f7 V.str,ex2] at dg;have q2:=q _ (s2.trans s4);rw[_a2 hm hx ex] at q2;refine⟨d,.str x,rfl,dg,rfl,?_⟩;rw[YH];exact q2
theorem _iB:_m6 P base T:=by
 refine Fun.okY T._c6.F _aq λcdv A outer s H vs Q E hr h=>?_;obtain⟨b,dx,k,bi,li,ti,su,B,a,kd,p1,p2,d,rfl,hE,hB,k1,k2,nd,tl,dl,ll,lf,q⟩:=h
 refine⟨_,(_n (_H 2 _aq (_kl (YN hr) (YM _f rfl) (_Z (_ec T) hr (_a (_i _o _p _b) (_a (_i _o _p _b) _e))) _bd ⟨rfl,rfl,rfl,rfl⟩))
   (_n (VC (YN hr) _t (_i _o _p _b) (_i _o _p _b) rfl)
   (_m (YU QS rfl (JB (_8 (_a (_8 (_a (_i _o _p _b) (_a (_i _o _p _b) _e))) (_a (_8 (_a (_i _o _p _b) (_a (_i _o _p _b) _e))) _e)))) (_bv (n:=2) rfl (VS (YY 3 _aq) (VS (YO (i:=4) _aq.nd rfl (Or.inr rfl)) _a4)))
    (_n (VC (YN hr) (YM _f rfl) (_8 (_a _z (_a _X _e))) (X9 rfl (XE (N:=["name","end"]) ["end"] [none,some 4] rfl (by ext) (by ext) (by rfl) (by rfl) (by rfl) (by rfl) (by rfl)) (YI (_V _f T.lB_ (U6 T) hr (_a _z (_a _X _e)))) (λ_ _ _=>(YO (i:=0) _h4 rfl (Or.inl rfl))) (λ_ _ _=>(WP (_A XN _f _p (_x _)))) (λ_ _ _=>_f)) rfl)
   (_m (_D (Xi (WJ _f T.lB_ T.me_Book_stands (UJ T) (hr.mono (by decide)) T.b_Book_stands (.cons (show RelV V.non Value.none from rfl) .nil) YV (_a _X (_a Yh _e)))) (_m (Yl (_V _f T.lB_ (VD T) hr (_a _z (_a _X (_a Yh _e)))))) _F))))))),?_⟩
 dsimp only[_O];refine Wg (λσ' H'=>∃y ts,σ'=[some (.ref b),some (.ref a),some (.ref y),none,none]/\BkAt K T.cB H' b dx k bi li ti su { B with ties:=ts }/\(ts.map (·.1)).Nodup/\ts.length<=B.ties.length+1/\_E (_h p1 p2) ts=some (y,_9 B (_h p1 p2))/\(∀c,YT ts c=_9 B c)/\But [li,ti,y] H H'/\(H y=none\/y∈B.ties.map (·.2.1))/\GrowsT H B.ties ts/\SqT K H' a [.str kd,.str p1,.str p2,.int d]) (λnx hnx=>?_) ?_
 ·refine⟨_,rfl,b,T.cB,dx,_,_,rfl,hB.ob,T.lB_,T.nBties,_fy,ti,rfl,.inr ⟨_,.inl hB.ti⟩,_g rfl hE (_c (j:=1) rfl) (_g rfl hE (_c (j:=2) rfl) ⟨rfl,p1,p2,rfl,λH1 t s1 nt ht=>λz nz=>?_⟩)⟩;have s2:=_q (o:=.dK []) nz;have s3:=s1.trans s2;have hB1:=hB.mono s1;have hB3:=hB.mono s3;have hlen:B.tiesD.length=B.ties.length:=Qd ..;have hval:_K B.tiesD (two (_h p1 p2))=(_E (_h p1 p2) B.ties).map λp=>V.ref p.1:=VU (f:=two) (λ_ _=>W0) (λp:Addr×A6=>V.ref p.1) _ _;refine⟨_,two (_h p1 p2),t,hB3.ti,rfl,s2 _ _ ht,by rw[hlen];exact small1000 (by lia),λv hv=>?_,λhn=>?_⟩
  ·rw[hval] at hv;obtain⟨x,hk,rfl⟩:=Q8.mp hv;have e:_9 B (_h p1 p2)=x.2:=by unfold _9;rw[hk];rfl
   exact hnx _ _ ⟨x.1,B.ties,rfl,hB3,nd,by lia,by rw[hk,e],λc=>rfl,But.of _ s3,.inr (Qj.mpr ⟨_,Vi hk,rfl⟩),GrowsT.refl _ _,s3.sqt hE⟩
  ·rw[hval] at hn;have hk:_E (_h p1 p2) B.ties=none:=by simpa using hn
   have e:_9 B (_h p1 p2)=[]:=by unfold _9;rw[hk];rfl
   have zn:∀{x:Addr} {o:HO},H1 x=some o->x≠z:=λh=>_P h nz;refine hnx _ _ ⟨z,B.ties++[(_h p1 p2,z,[])],rfl,hB3.newTie _k ⟨(zn hB1.bi).symm,λq hq=>zn (hB1.tt q hq)⟩ _,?_,by rw[Qq];exact Qg _,?_,λc=>_he _ _ _ _ hk,?_,.inl (_W s1 nz),(λa ha=>by rw[Qu] at ha;exact(Qn.mp ha).imp id (λha=>by rw[show a=z by simpa using ha];exact _W s1 nz)),?_⟩
   ·rw[Qu,Rl];refine⟨nd,by simp,λx hx w hw ex=>?_⟩;have ew:w=_h p1 p2:=by simpa using hw
    subst ew ex;obtain⟨p,hp,ep⟩:=Qj.mp hx;have:=_av hk;rw[NN] at this;exact absurd (Ql ep) (this p hp)
   ·rw[_aa,hk,e];unfold _E;rw[Qb rfl];rfl
   ·exact(But.of _ s3).trans (But.put hB3.ti (by simp))
   ·exact XB (s3.sqt hE) hB3.ti (λ_ z=>by cases z) (λ_ _ z=>by cases z)
 rintro σ' H1 ⟨y,ts,rfl,hB1,UC,tl1,hf,htf,bt1,hy0,grT,hE1⟩;generalize hl:_9 B (_h p1 p2)=l at *;have hy:H1 y=some (.dK (YK l)):=hB1.tt _ (Vi hf);have hB2:=hB1.putTie UC hf (_r l d kd);obtain⟨pa1,pa2⟩:=_er (l':=_r l d kd) UC hf;have grT2:GrowsT H B.ties (_r ts (_h p1 p2) (y,_r l d kd)):=λa ha=>grT a (by rw[<-pa1];exact ha)
 have tl2:(_r ts (_h p1 p2) (y,_r l d kd)).length=ts.length:=by
  have:=QI List.length pa1
  rwa [Qd,Qd] at this
 have htf2:∀c,YT (_r ts (_h p1 p2) (y,_r l d kd)) c=if c=_h p1 p2 then _r l d kd else _9 B c:=λc=>by rw[_jO,htf]
 have Uc:((_r ts (_h p1 p2) (y,_r l d kd)).map (·.1)).Nodup:=by rw[pa2];exact UC
 have hE2:SqT K (_d H1 y (.dK (YK (_r l d kd)))) a [.str kd,.str p1,.str p2,.int d]:=XB hE1 hy (λ_ z=>by cases z) (λ_ _ z=>by cases z);have bt2:But [li,ti,y] H (_d H1 y (.dK (YK (_r l d kd)))):=bt1.trans (But.put hy (by simp));have dlen:(YK l).length=l.length:=Qd ..;refine _g rfl hE1 (_c (j:=0) rfl) ⟨_,rfl,_g rfl hE1 (_c (j:=3) rfl) ⟨y,_,rfl,DPut.k (k:=.inl d) hy (by rw[dlen];exact small1000 (by lia)),?_⟩⟩;rw[show Yi (YK l) (.inl d) (.str kd)=YK (_r l d kd) from _ay (f:=(Sum.inl:Int->_j)) _f7 V.str l d kd];generalize _d H1 y (.dK (YK (_r l d kd)))=H2 at *;generalize _r ts (_h p1 p2) (y,_r l d kd)=ts2 at *;generalize hst:Yr (_r l d kd)=st at *;have ldl:(_r l d kd).length<=801:=by have:=XJ l d kd;lia
 refine _g rfl hE2 (_c (j:=1) rfl) (_g rfl hE2 (_c (j:=2) rfl) ⟨few rfl,λt1 nt1=>?_⟩);have s1:=_q (o:=.tup [.str p1,.str p2]) nt1;refine _g rfl ((s1.sqt hE2)) (_c (j:=2) rfl) (_g rfl ((s1.sqt hE2)) (_c (j:=1) rfl) ⟨few rfl,λt2 nt2=>?_⟩);have s2:=_q (o:=.tup [.str p2,.str p1]) nt2;refine⟨few rfl,λt3 nt3=>?_⟩;have s3:=_q (o:=.tup [.ref t1,.ref t2]) nt3;have s123:=s1.trans (s2.trans s3);refine⟨t3,rfl,⟨_,.of _k⟩,_e3 (xs:=[.ref t1,.ref t2]) (λi U H5=>∃ls v3 v4,U=[some (.ref b),some (.ref a),some (.ref y),v3,v4]/\BkAt K T.cB H5 b dx k bi li ti su { B with links:=ls,ties:=ts2 }/\(∀c,lk ls c=(U4 (lk B.links) st p1 p2 i) c)/\ls.length<=B.links.length+2*i/\But [li,ti,y] H H5/\SqT K H5 t1 [.str p1,.str p2]/\SqT K H5 t2 [.str p2,.str p1]/\SqT K H5 t3 [.ref t1,.ref t2]/\Grows H B.links ls) ?start ?list ?turn ?done⟩
 case start=>exact⟨B.links,none,none,rfl,hB2.mono s123,λc=>rfl,by lia,bt2.trans (But.of _ s123),(s2.trans s3).sqt (.of _k),s3.sqt (.of _k),.of _k,Grows.refl _ _⟩
 case list =>
  rintro i U H5 _ ⟨ls,v3,v4,rfl,_,_,_,_,_,_,h3,_⟩;exact h3
 case done =>
  rintro U H5 ⟨ls,v3,v4,rfl,hB5,hlk,hls,bt5,_,_,_,gr⟩;exact q H5 ls ts2 y hB5 Uc (by lia) htf2 hlk (by simp at hls;lia) bt5 hy0 grT2 gr
 case turn =>
  rintro i x U H5 hx ⟨ls,v3,v4,rfl,hB5,hlk,hls,bt5,h1,h2,h3,gr⟩
  have pick:∃tq u w,x=.ref tq/\SqT K H5 tq [.str u,.str w]/\Known B u/\Known B w/\_h u w=_h p1 p2/\i<=1/\∀F:A0->A9,(∀c,F c=_T (U4 (lk B.links) st p1 p2 i) st u w c)->∀c,F c=(U4 (lk B.links) st p1 p2 (i+1)) c:=by
   match i,hx with
   |0,hx=>exact⟨t1,p1,p2,(Qt hx).symm,h1,k1,k2,rfl,by lia,λF hF=>hF⟩
   |1,hx=>exact⟨t2,p2,p1,(Qt hx).symm,h2,k2,k1,UI p2 p1,by lia,λF hF=>hF⟩
  obtain⟨tq,u,w,rfl,hq,ku,kw,hpr,i1,hG⟩:=pick
  have gl:∀c,((U4 (lk B.links) st p1 p2 i) c).length<=61:=by
   intro c
   match i,i1 with
   |0,_=>have:=lf c;exact Nat.le_succ_of_le this
   |1,_=>exact Qs (_bO ..) (by have:=lf c;lia)
  generalize (U4 (lk B.links) st p1 p2 i)=G at *;refine⟨tq,_,rfl,hq,rfl,_,_,rfl,_,_,rfl,rfl,?_⟩;dsimp only[W9];refine Wg (λσ' H'=>∃D2,σ'=[some (.ref b),some (.ref a),some (.ref y),some (.str u),some (.str w)]/\BkAt K T.cB H' b dx k bi li ti su { B with links:=_r ls ("S",u) (D2,(G ("S",u)).filter λn=>decide (n≠w)),ties:=ts2 }/\But [li,ti,y] H H'/\SqT K H' t1 [.str p1,.str p2]/\SqT K H' t2 [.str p2,.str p1]/\SqT K H' t3 [.ref t1,.ref t2]/\H D2=none) (λnx hnx=>?_) ?_
  ·refine⟨_,rfl,b,dx,_,rfl,hB5.ob,rfl,_,rfl,rfl,.ref b,.str "S",.str u,_,rfl,⟨b,dx,k,bi,li,ti,su,rfl,hB5⟩,.inr ⟨"S",rfl,λh=>absurd h (by ext),λ_=>.inr ⟨u,rfl,λno=>absurd no ku,λ_ H6 D s6 nD hD0=>?_⟩⟩⟩;have eL:Yc { B with links:=ls,ties:=ts2 } "S" u=G ("S",u):=hlk ("S",u);rw[eL] at hD0;have hD:SqL K H6 D ((G ("S",u)).map V.str):=.of hD0;refine⟨D,rfl,⟨_,hD⟩,WS ((G ("S",u)).map (Vp w)) (small1000 (by rw[Qd];have:=gl ("S",u);lia)) (λU=>∃v,U=[v,some (.str w)]) ⟨_,rfl⟩ (λj H7 hj sm=>?go) (λH7 sm=>?stop) (λj U H7 x H8 o ho hσ sm hx C hC=>?step) (λD2 H7 nD2 sm hD2=>?fin)⟩
   case go=>exact⟨_,_,sm.sql hD,Qp (by rw[Qd] at hj ⊢;exact hj)⟩
   case stop=>exact⟨_,sm.sql hD,by rw[Qd,Qd];exact Qg _⟩
   case step =>
    obtain⟨v,rfl⟩:=hσ;obtain⟨rfl,hx2⟩:=hx;have e1:=hx2 _ (sm.sql hD);rw[Qv] at e1 ho;obtain⟨n,hn,rfl⟩:=Q8.mp e1;rw[hn] at ho;obtain rfl:Vp w n=o:=Qt ho;refine⟨_,rfl,_,rfl,rfl,_,rfl,?_⟩;by_cases hz0:n=w
    ·have e2:Vp w n=none:=Qb hz0;rw[e2] at hC;exact _u (by show(!decide (V.str n=V.str w))=false;rw[YH,Ql hz0];rfl) (hC _ _ ⟨_,rfl⟩ (Same.refl _))
    ·have e2:Vp w n=some (.str n):=Qa hz0;rw[e2] at hC;exact _I (by show(!decide (V.str n=V.str w))=true;rw[YH,Qi hz0];rfl) ⟨_,rfl,hC _ _ ⟨_,rfl⟩ (Same.refl _)⟩
   case fin =>
    rw[_gt] at hD2;have s67:=s6.trans sm;have hB7:=hB5.mono s67;refine⟨_,rfl,b,T.cB,dx,_,_,rfl,hB7.ob,T.lB_,T.nBlinks,_am,_,rfl,few rfl,λt nt=>?_⟩;have s8:=_q (o:=.tup [.str "S",.str u]) nt;have hB8:=hB7.mono s8;have llen:({ B with links:=ls,ties:=ts2 }:Bk).linksD.length=ls.length:=Qd ..;refine⟨li,_,rfl,DPut.t (k:=two ("S",u)) hB8.li _k (by rw[llen];exact small1000 (by lia)),?_⟩;rw[show({ B with links:=ls,ties:=ts2 }:Bk).linksD=ls.map λq=>(two q.1,V.ref q.2.1) from rfl,_ay (f:=two) (λ_ _=>W0) (λp:Addr×A9=>V.ref p.1) ls ("S",u) (D2,(G ("S",u)).filter λn=>decide (n≠w))];have li8:=hB8.li;have kp:∀{c:Addr} {xs:List V},SqT K H5 c xs->SqT K (_d (_d H7 t (.tup [.str "S",.str u])) li (.dT ((_r ls ("S",u) (D2,(G ("S",u)).filter λn=>decide (n≠w))).map λq=>(two q.1,V.ref q.2.1)))) c xs:=λh=>XB ((s67.trans s8).sqt h) li8 (λ_ z=>by cases z) (λ_ _ z=>by cases z);refine hnx _ _ ⟨D2,rfl,hB8.links λq hq=>?_,bt5.trans ((But.of _ (s67.trans s8)).trans (But.put li8 (by simp))),kp h1,kp h2,kp h3,bt5.al _ (_W s6 nD2)⟩;rcases _ao hq with rfl|hq
    ·exact s8 _ _ hD2
    ·exact hB8.ll q hq
  ·rintro σ' H6 ⟨D2,rfl,hB6,bt6,g1,g2,g3,n2⟩;have pl:=XJ ls ("S",u) (D2,(G ("S",u)).filter λn=>decide (n≠w));have lk6:∀c,lk (_r ls ("S",u) (D2,(G ("S",u)).filter λn=>decide (n≠w))) c=if c=(("S",u):A0) then(G ("S",u)).filter (λn=>decide (n≠w)) else G c:=λc=>by rw[_cD,hlk]
   have et:_9 { B with links:=_r ls ("S",u) (D2,(G ("S",u)).filter λn=>decide (n≠w)),ties:=ts2 } (_h u w)=_r l d kd:=by
    rw[_gA];show YT ts2 (_h u w)=_;rw[htf2,Qb hpr]
   have es:_az { B with links:=_r ls ("S",u) (D2,(G ("S",u)).filter λn=>decide (n≠w)),ties:=ts2 } u w=st:=by
    unfold _az;rw[et,hst]
   refine⟨_,rfl,b,dx,_,rfl,hB6.ob,rfl,_,rfl,_,rfl,rfl,.ref b,u,w,.non,_,rfl,.inl rfl,⟨b,dx,k,bi,li,ti,su,rfl,hB6⟩,ku,kw,by rw[et];lia,λH7 s7=>⟨_,rfl,?_⟩⟩;rw[_gS,es];have hB7:=hB6.mono s7;have bt7:=bt6.trans (But.of _ s7);refine WB (λhs=>?_) (λhs=>?_)
   ·have la:Yc { B with links:=_r ls ("S",u) (D2,(G ("S",u)).filter λn=>decide (n≠w)),ties:=ts2 } "S" u=(G ("S",u)).filter λn=>decide (n≠w):=by
     rw[Ud];show lk (_r ls ("S",u) _) ("S",u)=_;rw[lk6,Qb rfl]
    refine⟨_,rfl,b,dx,_,rfl,hB7.ob,rfl,_,rfl,_,rfl,rfl,b,dx,k,bi,li,ti,su,_,"S",u,w,rfl,hB7,?_,?_,λH8 D8 hB8 bt8 nD8=>?_⟩
    ·rw[la];exact Qs (NH ..) (gl _)
    ·show(_r ls ("S",u) _).length<=900;lia
    ·have li7:=hB7.li
     have kp:∀{c:Addr} {xs:List V},SqT K H7 c xs->SqT K H8 c xs:=λ{c xs} h=>by
      rcases h with(h|⟨o,h⟩)|h
      ·exact .inl (.inl (bt8.eq _ _ (λz=>by rw[show c=li by simpa using z,li7] at h;cases h) h))
      ·exact .inl (.inr ⟨o,bt8.eq _ _ (λz=>by rw[show c=li by simpa using z,li7] at h;cases h) h⟩)
      ·exact .inr h
     rw[la] at hB8;refine⟨_,_,_,rfl,hB8,hG _ λc=>?_,?_,bt7.trans (bt8.mono (by simp)),kp (s7.sqt g1),kp (s7.sqt g2),kp (s7.sqt g3),(gr.put n2).put (bt7.al _ nD8)⟩
     ·rw[_cD];unfold _T;by_cases ec:c=(("S",u):A0)
      ·subst ec;rw[Qb rfl,Qb rfl,Qb hs]
      ·rw[Qa ec,Qa ec,lk6,Qa ec]
     ·have p2:=XJ (_r ls ("S",u) (D2,(G ("S",u)).filter λn=>decide (n≠w))) ("S",u) (D8,_B ((G ("S",u)).filter (λn=>decide (n≠w))++[w]));show(_r (_r ls ("S",u) _) ("S",u) _).length<=_;lia
   ·refine⟨_,_,_,rfl,hB7,hG _ λc=>?_,by show(_r ls ("S",u) _).length<=_;lia,bt7,s7.sqt g1,s7.sqt g2,s7.sqt g3,gr.put n2⟩;rw[lk6];unfold _T;by_cases ec:c=(("S",u):A0)
    ·subst ec;rw[Qb rfl,Qb rfl,Qa (by rw[hs];decide)]
    ·rw[Qa ec,Qa ec]
theorem _eT:_k3 P base T:=by
 refine Fun.okY T.J2.F _bz λcdv A outer s H vs Q E hr h=>?_;obtain⟨b,dx,k,bi,li,ti,su,B,x,e,rfl,hB,hx,ok,nf,qe,qn⟩:=h
 refine⟨_,(_n (Yl (WJ _f T.lB_ T._ac.me (_me T) (hr.mono (by decide)) T._ac.b .nil _bX (_a _p _e)))
   (_n (_H 2 _bz (_Z (_eP T) hr (_a _p _e)))
   (_n (VC (YN hr) (YM _f rfl) (_Z (_fe T) hr (_a _t _e)) _t rfl)
   (_m (_D (_A _S (_i _o _t _b) _z (_x _)) (_m (Yl (_V _f T.lB_ (_nL T) hr (_a _t _e)))) (_m (_D (_A _S (_i _o _t _b) _z (_x _)) (_n (Yl (_V _f T.lB_ (VD T) hr (_a _z (_a (_i _o _t _b) (_a (_i _o _t _b) _e)))))
   (_m (Yl (_V _f T.lB_ (VD T) hr (_a _z (_a (_i _o _t _b) (_a (_i _o _t _b) _e))))))) (_m (_D (_A _S (_i _o _t _b) _z (_x _)) (_n (_H 3 _bz (_8 (_a (_i _o _t _b) (_a (_i _o _t _b) _e))))
   (_m (VC (YN hr) (YM _f rfl) _X (_s YX (VM (YN hr) (YM _f rfl) _X _b ⟨rfl,rfl,rfl,rfl⟩) (_i _o _t _b)) rfl))) (_m (_D (Xi (_Z (_eY T) hr (_a _t _e))) (_m (Yl (_V _f T.lB_ (_iB T) hr (_a _t _e)))) _F))))))))))),?_⟩
 dsimp only[_O];refine⟨_,rfl,b,dx,_,rfl,hB.ob,rfl,_,rfl,rfl,.ref b,x,B,e,rfl,⟨b,dx,k,bi,li,ti,su,rfl,hB⟩,hx,ok,nf,qe,λkn=>⟨(qn kn).1,λH1 s1=>?_⟩⟩;obtain⟨no,rm,q⟩:=qn kn;obtain⟨hno,hk400,-⟩:=_bF no;refine⟨_,rfl,rfl,x,e,rfl,hx.mono s1,λH2 u s2 hu=>?_⟩;obtain⟨a,rfl,hA⟩:=hu;have s12:=s1.trans s2;have hB2:=hB.mono s12;have klen:B.keptD.length=B.kept.length:=Qd ..;refine⟨_,rfl,_,rfl,b,T.cB,dx,_,_,rfl,hB2.ob,T.lB_,T.nBkept,VR,_,rfl,rfl,.ref a,e.told,rfl,⟨a,rfl,hA⟩,λH3 p s3 np hp=>⟨k,_,rfl,DPut.t (k:=e.told.told.key) (s3 _ _ hB2.ke) hp (by rw[klen];exact small1000 (by lia)),?_⟩⟩;rw[Wq,_bu _ hno];have s13:=s12.trans s3;have hB3:=hB.mono s13;have hA3:=s3.sqt hA;have kn2:∀n∈e.told.named,Known B n:=λn hn=>kn n (J7 e n hn);have tk:∀(e':Ent),e.told=e'->e'.told=e':=λe' h=>by rw[<-h,Wq]
 have pt:∀{B':Bk} (e':Ent),e.told=e'->(∀c,YD B'.sums c=J9 (YD B.sums) e' c)->(∃a,B'.kept=B.kept++[(e',a)])->(∀c,lk B'.links c=WD (lk B.links) (YT B.ties) e' c)->(∀c,YT B'.ties c=VL (YT B.ties) e' c)->(B'.ties.map (·.1)).Nodup->B'.links.length<=B.links.length+4->B'.ties.length<=B.ties.length+1->B'.sums.length<=B.sums.length+1->Put B e B':=λ{B'} e' h=>by
  subst h;exact Put.mk
 generalize e.told=e' at *;have hK:=hB3.kept (e:=e') hA3;have kb:k≠bi:=Yd hB3.ke hB3.bi (λz=>by cases z);have hA4:SqT K (_d H3 k (.dT (B.keptD++[(e'.key,.ref a)]))) a (e'.row.map kV):=XB hA3 hB3.ke (λ_ z=>by cases z) (λ_ _ z=>by cases z);have btk:But [k,bi,li,ti,su] H (_d H3 k (.dT (B.keptD++[(e'.key,.ref a)]))):=(But.of _ s13).trans (But.put hB3.ke (by simp));have hbi:(_d H3 k (.dT (B.keptD++[(e'.key,.ref a)]))) bi=some (.dK (Bk.bornD B.kept)):=(_l kb.symm).trans hB3.bi;have hob:(_d H3 k (.dT (B.keptD++[(e'.key,.ref a)]))) b=some (.ins T.cB dx (Wz k bi li ti su)):=(_l (Yd hB3.ob hB3.ke (λz=>by cases z))).trans hB3.ob
 have hKn:e'.isBorn=false->BkAt K T.cB (_d H3 k (.dT (B.keptD++[(e'.key,.ref a)]))) b dx k bi li ti su { B with kept:=B.kept++[(e',a)] }:=λnb=>by
  rw[_hE nb,_kz hbi] at hK;exact hK
 have fresh:∀{y:Addr},H3 y=none->(H y=none\/∃w,H y=some (.dK w)):=λh=>.inl (_W s13 h);generalize hH4:_d H3 k (.dT (B.keptD++[(e'.key,.ref a)]))=H4 at *;dsimp only;have hbiH:∃w,H bi=some (.dK w):=⟨_,hB.bi⟩;cases e' with
 |born n s d f m =>
  refine _g rfl hA4 (_c (j:=0) rfl) ⟨rfl,_,rfl,_I (by ext) ?_⟩;refine⟨_,rfl,b,dx,_,rfl,hob,rfl,_,rfl,rfl,b,dx,k,bi,li,ti,su,B.kept,{ B with kept:=B.kept++[(.born n s d f m,a)] },n,s,d,f,m,a,rfl,rfl,hob,hbi,_l2 hno,by lia,hA4,hK,Qs rm.nl (by lia),λc=>Qs (rm.ll c) (by lia),λH5 ls hB5 hlk hls bt5 gr5=>?_⟩;exact q H5 _ bi hB5 (pt _ rfl (λc=>rfl) ⟨a,rfl⟩ hlk (λc=>rfl) rm.nd hls (QV _) (QV _)) ((btk.mono (by simp)).trans (bt5.mono (by simp))) (.inr (.inl rfl)) (gr5.back btk.al) (GrowsT.refl _ _)
 |taken c t d =>
  have hB4:=hKn rfl;have hmem:((.taken c t d,a):Ent×Addr)∈B.kept++[(.taken c t d,a)]:=by simp
  refine _g rfl hA4 (_c (j:=0) rfl) ⟨rfl,_,rfl,_u (by ext) (_g rfl hA4 (_c (j:=0) rfl) ⟨rfl,_,rfl,_I (by ext) ?_⟩)⟩;refine⟨_,rfl,b,dx,_,rfl,hob,rfl,_g rfl hA4 (_c (j:=1) rfl) (_g rfl hA4 (_c (j:=2) rfl) ⟨rfl,b,dx,k,bi,li,ti,su,_,"T",c,t,rfl,hB4,Qs (rm.ll _) (by lia),Qs rm.nl (by lia),λH5 D5 hB5 bt5 nD5=>?_⟩)⟩;have hA5:=hB5.en _ hmem
  have l5:lk (_r B.links ("T",c) (D5,_B (lk B.links ("T",c)++[t]))) ("t",t)=lk B.links ("t",t):=by
   rw[WA];exact US (show("t" : Str)≠"T" by ext)
  have n5:=XJ B.links ("T",c) (D5,_B (lk B.links ("T",c)++[t]));have rl:=rm.nl;refine⟨_,rfl,b,dx,_,rfl,hB5.ob,rfl,_g rfl hA5 (_c (j:=2) rfl) (_g rfl hA5 (_c (j:=1) rfl) ⟨rfl,b,dx,k,bi,li,ti,su,_,"t",t,c,rfl,hB5,?_,?_,λH6 D6 hB6 bt6 nD6=>?_⟩)⟩
  ·rw[Ud];show(lk (_r B.links ("T",c) (D5,_B (lk B.links ("T",c)++[t]))) ("t",t)).length<=61;rw[l5];exact Qs (rm.ll _) (by lia)
  ·show(_r B.links ("T",c) (D5,_B (lk B.links ("T",c)++[t]))).length<=900;lia
  ·refine q H6 _ bi hB6 (pt _ rfl (λc=>rfl) ⟨a,rfl⟩ (λx=>?_) (λc=>rfl) rm.nd ?_ (QV _) (QV _)) ((btk.mono (by simp)).trans ((bt5.mono (by simp)).trans (bt6.mono (by simp)))) (.inr (.inl rfl)) (((Grows.refl _ _).put (btk.al _ nD5)).put (btk.al _ (bt5.al _ nD6))) (GrowsT.refl _ _)
   ·show lk (_r (_r B.links ("T",c) (D5,_B (lk B.links ("T",c)++[t]))) ("t",t) (D6,_B (lk (_r B.links ("T",c) (D5,_B (lk B.links ("T",c)++[t]))) ("t",t)++[c]))) x=_;rw[WA];exact Ux (λy=>WA ..) ..
   ·have n6:=XJ (_r B.links ("T",c) (D5,_B (lk B.links ("T",c)++[t]))) ("t",t) (D6,_B (lk (_r B.links ("T",c) (D5,_B (lk B.links ("T",c)++[t]))) ("t",t)++[c]));show(_r (_r B.links ("T",c) (D5,_B (lk B.links ("T",c)++[t]))) ("t",t) (D6,_B (lk (_r B.links ("T",c) (D5,_B (lk B.links ("T",c)++[t]))) ("t",t)++[c]))).length<=_;lia
 |given g t am d =>
  have hB4:=hKn rfl;have rs:=rm.ns;refine _g rfl hA4 (_c (j:=0) rfl) ⟨rfl,_,rfl,_u (by ext) (_g rfl hA4 (_c (j:=0) rfl) ⟨rfl,_,rfl,_u (by ext) (_g rfl hA4 (_c (j:=0) rfl) ⟨rfl,_,rfl,_I (by ext) ?_⟩)⟩)⟩;refine _g rfl hA4 (_c (j:=1) rfl) (_g rfl hA4 (_c (j:=2) rfl) ⟨few rfl,λpg npg=>?_⟩);have s5:=_q (o:=.tup [.str g,.str t]) npg;have hB5:=hB4.mono s5;have hA5:=s5.sqt hA4;have dg:=DGet.t (k:=two (g,t)) hB5.su (_k (o:=.tup [.str g,.str t]));have hval:_K ({ B with kept:=B.kept++[(.given g t am d,a)] }:Bk).sumsD (two (g,t))=(_E (g,t) B.sums).map V.int:=VU (f:=two) (λ_ _=>W0) V.int _ _;rw[hval] at dg;have slen:({ B with kept:=B.kept++[(.given g t am d,a)] }:Bk).sumsD.length=B.sums.length:=Qd ..
  have iv:∃i:Int,((_E (g,t) B.sums).map V.int).getD (.int 0)=.int i:=by
   cases _E (g,t) B.sums with
   |none=>exact⟨0,rfl⟩
   |some i=>exact⟨i,rfl⟩
  obtain⟨i,hi⟩:=iv;refine⟨_,rfl,b,T.cB,dx,_,_,rfl,hB5.ob,T.lB_,T.nBsums,_bT,su,rfl,.inr ⟨_,.inl hB5.su⟩,_,rfl,_,dg,_g rfl hA5 (_c (j:=3) rfl) ⟨i,am,hi,rfl,_,rfl,b,T.cB,dx,_,_,rfl,hB5.ob,T.lB_,T.nBsums,_bT,_,rfl,su,_,rfl,DPut.t (k:=two (g,t)) hB5.su (_k (o:=.tup [.str g,.str t])) (by rw[slen];exact small1000 (by lia)),?_⟩⟩;rw[show Yi ({ B with kept:=B.kept++[(.given g t am d,a)] }:Bk).sumsD (two (g,t)) (V.int (i+am))=(_r B.sums (g,t) (i+am)).map λq=>(two q.1,V.int q.2) from _ay (f:=two) (λ_ _=>W0) V.int B.sums (g,t) (i+am)]
  have ei:i=YD B.sums (g,t):=by
   unfold YD;cases hf:_E (g,t) B.sums with
   |none=>rw[hf] at hi;exact(V.int.inj hi).symm
   |some j=>rw[hf] at hi;exact(V.int.inj hi).symm
  exact q _ _ bi (hB5.sums _) (pt _ rfl (λc=>by rw[ei];exact _is B.sums g t am d c) ⟨a,rfl⟩ (λc=>rfl) (λc=>rfl) rm.nd (Gr ..) (QV _) (XJ ..)) ((btk.mono (by simp)).trans ((But.of _ s5).trans (But.put hB5.su (by simp)))) (.inr (.inl rfl)) (Grows.refl _ _) (GrowsT.refl _ _)
 |dead n d =>
  have hB4:=hKn rfl;refine _g rfl hA4 (_c (j:=0) rfl) ⟨rfl,_,rfl,_u (by ext) (_g rfl hA4 (_c (j:=0) rfl) ⟨rfl,_,rfl,_u (by ext) (_g rfl hA4 (_c (j:=0) rfl) ⟨rfl,_,rfl,_u (by ext) ?_⟩)⟩)⟩;refine⟨_,rfl,rfl,.ref a,.dead n d,rfl,⟨a,rfl,hA4⟩,λH5 s5=>⟨_,rfl,_L ?_⟩⟩;exact q _ _ bi (hB4.mono s5) (pt _ rfl (λc=>rfl) ⟨a,rfl⟩ (λc=>rfl) (λc=>rfl) rm.nd (Gr ..) (QV _) (QV _)) ((btk.mono (by simp)).trans (But.of _ s5)) (.inr (.inl rfl)) (Grows.refl _ _) (GrowsT.refl _ _)
 |union x y d =>
  have hB4:=hKn rfl;refine _g rfl hA4 (_c (j:=0) rfl) ⟨rfl,_,rfl,_u (by ext) (_g rfl hA4 (_c (j:=0) rfl) ⟨rfl,_,rfl,_u (by ext) (_g rfl hA4 (_c (j:=0) rfl) ⟨rfl,_,rfl,_u (by ext) ?_⟩)⟩)⟩;refine⟨_,rfl,rfl,.ref a,.union x y d,rfl,⟨a,rfl,hA4⟩,λH5 s5=>⟨_,rfl,_7 ?_⟩⟩;have hB5:=hB4.mono s5;have rl:=rm.nl;have rt:=rm.nt;refine⟨_,rfl,b,dx,_,rfl,hB5.ob,rfl,_,rfl,rfl,b,dx,k,bi,li,ti,su,_,a,"union",x,y,d,rfl,s5.sqt hA4,hB5,(kn2 x (by simp[Ent.named])).more rfl,(kn2 y (by simp[Ent.named])).more rfl,rm.nd,Qs rm.nt (by lia),Qs (rm.tt _) (by lia),Qs rm.nl (by lia),rm.ll,λH6 ls ts z hB6 nd6 tl6 htf hlk hls bt6 hz grT6 gr6=>?_⟩;exact q H6 _ z hB6 (pt _ rfl (λc=>rfl) ⟨a,rfl⟩ hlk htf nd6 hls tl6 (QV _)) ((btk.mono (by simp)).trans ((But.of _ s5).trans (bt6.mono (by simp)))) (hz.imp (λh=>btk.al _ (_W s5 h)) .inr) (gr6.back λa n=>btk.al a (_W s5 n)) (grT6.back λa n=>btk.al a (_W s5 n))
 |parted x y d =>
  have hB4:=hKn rfl;refine _g rfl hA4 (_c (j:=0) rfl) ⟨rfl,_,rfl,_u (by ext) (_g rfl hA4 (_c (j:=0) rfl) ⟨rfl,_,rfl,_u (by ext) (_g rfl hA4 (_c (j:=0) rfl) ⟨rfl,_,rfl,_u (by ext) ?_⟩)⟩)⟩;refine⟨_,rfl,rfl,.ref a,.parted x y d,rfl,⟨a,rfl,hA4⟩,λH5 s5=>⟨_,rfl,_7 ?_⟩⟩;have hB5:=hB4.mono s5;have rl:=rm.nl;have rt:=rm.nt;refine⟨_,rfl,b,dx,_,rfl,hB5.ob,rfl,_,rfl,rfl,b,dx,k,bi,li,ti,su,_,a,"parted",x,y,d,rfl,s5.sqt hA4,hB5,(kn2 x (by simp[Ent.named])).more rfl,(kn2 y (by simp[Ent.named])).more rfl,rm.nd,Qs rm.nt (by lia),Qs (rm.tt _) (by lia),Qs rm.nl (by lia),rm.ll,λH6 ls ts z hB6 nd6 tl6 htf hlk hls bt6 hz grT6 gr6=>?_⟩;exact q H6 _ z hB6 (pt _ rfl (λc=>rfl) ⟨a,rfl⟩ hlk htf nd6 hls tl6 (QV _)) ((btk.mono (by simp)).trans ((But.of _ s5).trans (bt6.mono (by simp)))) (hz.imp (λh=>btk.al _ (_W s5 h)) .inr) (gr6.back λa n=>btk.al a (_W s5 n)) (grT6.back λa n=>btk.al a (_W s5 n))
theorem J3: _j8 P base T:=by
 refine Fun.okY T.Wn.F _kJ λcdv A outer s H vs Q E hr h=>?_;obtain⟨v,B,rfl,⟨b,dx,k,bi,li,ti,su,rfl,hB⟩,hl,q⟩:=h;refine⟨_,(_m (_y (_U (_hw _dm K rfl) (by rfl) T.n_sorted WL (_a (_c7 K Nq MC MD _dV (YM _f rfl)) _e)))),?_⟩;dsimp only[_O];have hk:H k=some (.dT B.keptD):=hB.ke;refine⟨_,rfl,b,T.cB,dx,_,_,rfl,hB.ob,T.lB_,T.nBkept,VR,.inr (.inr (.inl ⟨rfl,.inr ⟨_,hk⟩⟩)),k,_,rfl,rfl,hk,λr nr=>?_⟩;have sr:=_q (o:=.ext (XI r k)) nr;have hB1:=hB.mono sr;refine⟨r,k,_,B.kept.map λp=>(p.2,p.1.row),rfl,_k,hB1.ke,?_,λp hp=>?_,λD out nD pm so=>?_⟩
 ·unfold Bk.keptD;rw[QF,QF];rfl
 ·obtain⟨z,hz,rfl⟩:=Qj.mp hp;exact⟨hB1.en z hz,⟨_,rfl⟩,_e6 _⟩
 ·obtain⟨o2,p2,rfl⟩:=JD pm B.kept rfl;refine q _ D o2 (sr.trans (_q nD)) (_W sr nD) p2 ?_ ?_
  ·rw[QF] at so;exact so
  ·rw[_k,QF];rfl
theorem _bK: _lP P base T:=by
 refine Fun.okY T.W4.F _jJ λcdv A outer s H vs Q E hr h=>?_;obtain⟨v,B,rfl,⟨b,dx,k,bi,li,ti,su,rfl,hB⟩,hl,q⟩:=h;refine⟨_,(_m (_y (_U (_nK rfl) (by rfl) T.n_sorted WL (_a (YM _f rfl) _e)))),?_⟩;dsimp only[_O];have hbi:=hB.bi;rw[_gj] at hbi;rw[<-_eB] at hl q;rw[Qd] at hl;refine⟨_,rfl,b,T.cB,dx,_,_,rfl,hB.ob,T.lB_,T.nBbirths,Um,bi,U1 B.kept,rfl,hbi,hl,λD zs nD perm so=>?_⟩;rw[UD perm so];exact q _ D (_q nD) nD _k
theorem _aP:_hn P base T:=by
 refine Fun.okY T._cg.F _fq λcdv A outer s H vs Q E hr h=>?_;obtain⟨v,n,B,rfl,hv,kn,q⟩:=h
 refine⟨_,(_n (Yl (_V _f T.lB_ (Wu T) hr (_a _p _e)))
   (_n (_H 2 _fq (VM (YN hr) (YM _f rfl) (_8 (_a _z (_a _p _e))) Jb ⟨rfl,rfl,rfl,rfl⟩))
   (_m (_y (_ll (_A _f0 _t Jb (_x _)) Jb (_i _o _t _b)))))),?_⟩
 dsimp only[_O];obtain⟨b,dx,k,bi,li,ti,su,rfl,hB⟩:=id hv;refine⟨_,rfl,b,dx,_,rfl,hB.ob,rfl,_,rfl,rfl,.ref b,.str n,B,rfl,hv,.inr ⟨n,rfl,λno=>absurd no kn,λp0 hp0=>?_⟩⟩;refine⟨_,rfl,b,T.cB,dx,_,_,rfl,hB.ob,T.lB_,T.nBkept,VR,k,rfl,.inr ⟨_,.inl hB.ke⟩,_,rfl,few rfl,λt nt=>?_⟩;have s1:=_q (o:=.tup [.str "dead",.str n]) nt;have dg:=DGet.t (k:=([.inr "dead",.inr n]:List _j)) (s1 _ _ hB.ke) _k;rw[show B.keptD=B.kept.map λp=>(p.1.key,V.ref p.2) from rfl,_en] at dg;refine⟨_,dg,?_⟩;have q1:=q _ s1;unfold Xb at q1;cases hd:Xd n B.kept with
 |none =>
  rw[hd] at q1;exact⟨_,rfl,rfl,_,rfl,_I (by rfl) q1⟩
 |some r =>
  obtain⟨d,a⟩:=r;rw[hd] at q1;exact⟨_,rfl,rfl,_,rfl,_u (by rfl) (_g rfl (s1.sqt (hB.en _ (Vn hd))) (_c (j:=2) rfl) q1)⟩
theorem _fc:_nl P base T:=by
 refine Fun.okY T._cX.F _nw λcdv A outer s H vs Q E hr h=>?_;obtain⟨v,a,c,B,rfl,hv,ka,kc,q⟩:=h
 refine⟨_,(_n (Yl (_V _f T.lB_ (Wu T) hr (_a _p _e)))
   (_n (Yl (_V _f T.lB_ (Wu T) hr (_a _t _e)))
   (_m (_y (VM (YN hr) (YM _f rfl) (_8 (_a _p (_a _t _e))) _b ⟨rfl,rfl,rfl,rfl⟩))))),?_⟩
 dsimp only[_O];obtain⟨b,dx,k,bi,li,ti,su,rfl,hB⟩:=id hv;refine⟨_,rfl,b,dx,_,rfl,hB.ob,rfl,_,rfl,rfl,.ref b,.str a,B,rfl,hv,.inr ⟨a,rfl,λno=>absurd no ka,λp1 hp1=>?_⟩⟩;refine⟨_,rfl,b,dx,_,rfl,hB.ob,rfl,_,rfl,rfl,.ref b,.str c,B,rfl,hv,.inr ⟨c,rfl,λno=>absurd no kc,λp2 hp2=>?_⟩⟩;refine⟨_,rfl,b,T.cB,dx,_,_,rfl,hB.ob,T.lB_,T.nBsums,_bT,su,rfl,.inr ⟨_,.inl hB.su⟩,_,rfl,_,rfl,few rfl,λt nt=>?_⟩;have s1:=_q (o:=.tup [.str a,.str c]) nt;have dg:=DGet.t (k:=two (a,c)) (s1 _ _ hB.su) _k;rw[show B.sumsD=B.sums.map λq=>(two q.1,V.int q.2) from rfl,VU (f:=two) (λ_ _=>W0) V.int] at dg;refine⟨_,dg,?_⟩;have q1:=q _ s1;unfold YD at q1;cases hf:_E (a,c) B.sums with
 |none=>rw[hf] at q1;exact q1
 |some i=>rw[hf] at q1;exact q1
theorem _ci:_ir P base T:=by
 refine Fun.okY T._fx.F _bk λcdv A outer s H vs Q E hr h=>?_;obtain⟨b,dx,k,bi,li,ti,su,B,d,pool,rfl,hB,gd,tds,cn,q⟩:=h
 refine⟨_,(_n (_H 2 _bk (_a6 T.kB_ (_aQ T) (hr.mono (by decide)) (by rfl) T.mB_ T.VE.b .nil YV))
   (_n (_oi (YU QS rfl (_kN (_c7 K Nq MC MD _dV (YM _f rfl))) (YY 3 _bk)
    (_m (_D (_A Uq (_Z (_cA T) hr (_a _X _e)) _p (_x _)) (_m (Yl (_V _t T.lB_ (_eT T) hr (_a _X _e)))) _F))))
   (_m (_y _t)))),?_⟩
 dsimp only[_O];refine λb2 dx2 nb ndx nn=>⟨rfl,b2,dx2,rfl,_k,λH2 k2 bi2 li2 ti2 su2 hB2 keep nk nbi nli nti nsu=>⟨rfl,?_⟩⟩;have sb:Same H (_d (_d H dx2 (.own b2)) b2 (.ins T.cB dx2 [])):=λc o e=>by rw[_l (_P e nb),_l (_P e ndx)];exact e
 have s2:Same H H2:=λc o e=>keep c o (sb c o e) (_P e nb);have hBm:=hB.mono s2;have hk:=hBm.ke;refine⟨k,B.keptD,hk,_,rfl,b,T.cB,dx,_,_,rfl,hBm.ob,T.lB_,T.nBkept,VR,.inr (.inr (.inl ⟨rfl,.inr ⟨_,hk⟩⟩)),k,_,rfl,rfl,hk,λr nr=>?_⟩;have sr:=_q (o:=.ext (XI r k)) nr;refine⟨r,k,B.keptD,rfl,_k,sr _ _ hk,λo=>?_⟩;have hBr:=hB2.mono sr;have kk:k≠k2:=λz=>by have e:=hB.ke;rw[z,_W sb nk] at e;cases e
 have n5:∀c∈[k2,bi2,li2,ti2,su2],H c=none:=λc hc=>by
  simp only[Qk,Q2,QW] at hc;rcases hc with rfl|rfl|rfl|rfl|rfl
  ·exact _W sb nk
  ·exact _W sb nbi
  ·exact _W sb nli
  ·exact _W sb nti
  ·exact _W sb nsu
 have kH:∃w,H k=some w:=⟨_,hB.ke⟩;have k5:k∉[k2,bi2,li2,ti2,su2]:=λz=>by obtain⟨w,e⟩:=kH;rw[n5 k z] at e;cases e
 have hBf : BkAt K T.cB (_d (_d H2 r (.ext (XI r k))) k (.frz o (.dT B.keptD))) b2 dx2 k2 bi2 li2 ti2 su2 _Y := hBr.but0 (S := [k]) ⟨λa u na e => (_l (λz => na (by rw[z];simp))).trans e, λa e => by
   by_cases z:a=k
   ·subst z;rw[_k] at e;cases e
   ·rw[_l z] at e;exact e⟩ (λa ha z=>by
  have ea:a=k:=by simpa using z
  subst ea;rcases Qk.mp ha with e|e
  ·have e1:=hB.ke;rw[e,nb] at e1;cases e1
  ·exact k5 e)
 have sf:∀c u,c≠k->H c=some u->(_d (_d H2 r (.ext (XI r k))) k (.frz o (.dT B.keptD))) c=some u:=λc u nc e=>(_l nc).trans (sr _ _ (s2 _ _ e));have fk:(_d (_d H2 r (.ext (XI r k))) k (.frz o (.dT B.keptD))) k=some (.frz o (.dT B.keptD)):=_k;generalize _d (_d H2 r (.ext (XI r k))) k (.frz o (.dT B.keptD))=Hf at *;have klen:B.keptD.length=B.kept.length:=Qd ..;refine _oj (λi U Hc=>∃(B2:Bk) (v3:Option V),U=[some (.ref b),some (.int d),some (.ref b2),v3]/\BkAt K T.cB Hc b2 dx2 k2 bi2 li2 ti2 su2 B2/\LI5 pool B2 B2.kept/\B2.kept.map (·.1)=(((B.kept.take i).map (·.1)).filter λe=>decide (e.day<=d))/\(∀c u,c≠k->H c=some u->Hc c=some u)/\Hc k=some (.frz o (.dT B.keptD))/\(∀c∈B2.ties.map (·.2.1),H c=none)) ?start ?list ?turn ?done
 case start=>exact⟨_Y,none,rfl,hBf,LI5.start pool,rfl,sf,fk,λc hc=>(by cases hc)⟩
 case list =>
  rintro i U Hc _ ⟨B2,v3,rfl,_,_,_,_,fk,_⟩;exact fk
 case done =>
  rintro U Hc ⟨B2,v3,rfl,hBc,li5,sbk,sf,fk,ft⟩;rw[klen,RE] at sbk;refine⟨o,fk,?_⟩
  have sZ:Same H (_d Hc k (.dT B.keptD)):=λc u e=>by
   by_cases z:c=k
   ·subst z;rw[hB.ke] at e;cases e;exact _k
   ·rw[_l z];exact sf c u z e
  exact⟨_,rfl,q _ b2 dx2 k2 bi2 li2 ti2 su2 B2 (hBc.thaw fk) li5 sbk sZ⟩
 case turn =>
  rintro i p U Hc hp ⟨B2,v3,rfl,hBc,li5,sbk,sf,fk,ft⟩;unfold Bk.keptD at hp;rw[Qv] at hp;obtain⟨⟨e,a⟩,he,rfl⟩:=Q8.mp hp;have hm:=QE he
  have row:SqT K Hc a (e.row.map kV):=by
   rcases hB.en _ hm with(h|⟨x,h⟩)|h
   ·exact .inl (.inl (sf _ _ (Yd h hB.ke (λz=>by cases z)) h))
   ·exact .inl (.inr ⟨x,sf _ _ (Yd h hB.ke (λz=>by cases z)) h⟩)
   ·exact .inr h
  have tk:(B.kept.take (i+1)).map (·.1)=(B.kept.take i).map (·.1)++[e]:=_lV he;have gt:GdL pool (((B.kept.take (i+1)).map (·.1)).filter λe=>decide (e.day<=d)):=by rw[Na];exact(gd.take _).filt d
  refine⟨_,rfl,rfl,.ref a,e,rfl,⟨a,rfl,row⟩,_,rfl,_,_,rfl,rfl,_,rfl,?_⟩;by_cases hd:e.day<=d
  ·refine _I (Ql hd) ?_
   have ef:((B.kept.take (i+1)).map (·.1)).filter (λe=>decide (e.day<=d))=((B.kept.take i).map (·.1)).filter (λe=>decide (e.day<=d))++[e]:=by
    rw[tk,Nc]
    congr 1
    simp[hd]
   rw[ef] at gt;have sub1:List.Sublist (((B.kept.take i).map (·.1)).filter λe=>decide (e.day<=d)) (B.kept.map (·.1)):=GB.trans ((Ro i _).map _);obtain⟨no,d5,rm⟩:=GdL.ref9 li5 sbk (λx hx=>by obtain⟨p,hp,rfl⟩:=Qj.mp (sub1.subset hx);exact tds p hp) gt (cn.sub sub1);refine⟨_,rfl,b2,dx2,_,rfl,hBc.ob,rfl,_,rfl,rfl,b2,dx2,k2,bi2,li2,ti2,su2,B2,.ref a,e,rfl,hBc,⟨a,rfl,row⟩,d5.1,(by have:=cn.sub sub1;rw[<-sbk] at this;exact this.full e),(λzq=>?_),λ_=>⟨no,rm,λH3 B3 y hB3 hput bt hy gr grT=>?_⟩⟩;obtain⟨n,hn,z⟩:=zq;exact absurd z ((_bF no).2.2 n hn);obtain⟨li3,sb3⟩:=li5.put' hput d5 no;rw[tds _ hm,sbk,<-ef] at sb3
   have ny:∀c u,c≠k->H c=some u->c∉[k2,bi2,li2,ti2,su2,y]:=λc u nc e m=>by
    have m':c∈[k2,bi2,li2,ti2,su2]\/c=y:=by
     simp only[Qk,Q2,QW] at m ⊢;rcases m with h|h|h|h|h|h<;>simp[h]
    rcases m' with h|h
    ·rw[n5 c h] at e;cases e
    ·rcases hy with z|z|z
     ·have:=sf c u nc e;rw[h,z] at this;cases this
     ·rw[h,z,n5 bi2 (by simp)] at e;cases e
     ·rw[h,ft y z] at e;cases e
   have nk5:k∉[k2,bi2,li2,ti2,su2,y]:=λm=>by
    have m':k∈[k2,bi2,li2,ti2,su2]\/k=y:=by
     simp only[Qk,Q2,QW] at m ⊢;rcases m with h|h|h|h|h|h<;>simp[h]
    rcases m' with h|h
    ·exact k5 h
    ·obtain⟨w,ew⟩:=kH;rcases hy with z|z|z
     ·rw[<-h,fk] at z;cases z
     ·exact k5 (by rw[h,z];simp)
     ·rw[h,ft y z] at ew;cases ew
   refine⟨B3,_,rfl,hB3,li3,sb3,λc u nc e=>bt.eq c u (ny c u nc e) (sf c u nc e),bt.eq _ _ nk5 fk,λc hc=>?_⟩;rcases grT c hc with h|h
   ·exact ft c h
   ·cases hH:H c with
    |none=>rfl
    |some u =>
     by_cases z:c=k
     ·rw[z,fk] at h;cases h
     ·rw[sf c u z hH] at h;cases h
  ·refine _u (Qi hd) ⟨B2,_,rfl,hBc,li5,?_,sf,fk,ft⟩;rw[tk,Nc];have e0:[e].filter (λe=>decide (e.day<=d))=[]:=by simp[hd]
   rw[e0,Q1];exact sbk
theorem _cw: _kC P base T:=by
 refine Fun.okY T._co.F _kH λcdv A outer s H vs Q E hr h=>?_;obtain⟨l,ns,k,rfl,hS,hk,q⟩:=h
 refine⟨_,(_n (_D (_A U9 _p (_U YS (by rfl) T.n_len Yx (_a _f _e)) (_x _)) (_m (_y (_i Y7 _f _p))) _F)
   (_m (_y _b))),?_⟩
 dsimp only[_O];refine⟨_,rfl,_,rfl,l,_,rfl,.inl hS,_,_,rfl,rfl,_,rfl,?_⟩;by_cases kl:k<((ns.map V.int).length:Int)
 ·rw[Ql kl];obtain⟨j,rfl⟩:∃j:Nat,k=(j:Int):=⟨k.toNat,by lia⟩;refine _7 ⟨_,rfl,_,rfl,l,_,_,_,rfl,rfl,hS,X2 (_n4 (by rw[Qd] at kl;lia)),q _⟩
 ·rw[Qi kl];exact _L (q _)
theorem _oh: _lf P base T:=by
 refine Fun.okY T._ga.F Xj λcdv A outer s H vs Q E hr h=>?_;obtain⟨c,m,rfl,m0,m1,q⟩:=h
 refine⟨_,(_n (_H 2 Xj (_s YX _b (_s Yj _f _b)))
   (_n (_H 3 Xj (_s Yj (_s XD _f _b) _t))
   (_n (_H 4 Xj (_s Yj (_s YX (_s YX _X _b) (_s Yj (_s XD _f _b) (_s VY _t _b))) _t))
   (_n (_H 5 Xj (_s YX _b (_U (_cL rfl) (by rfl) T.n_max _ae (_a _X (_a Yh _e)))))
   (_n (_H 6 Xj (Y0 _e))
   (_n (YU QS rfl (Jz (by rfl) T.n_range (_a _p _e)) (YY 7 Xj)
    (_n (_H 8 Xj _z)
   (_n (_H 9 Xj (_s XD _f _b))
   (_n (YU QS rfl (Jz (by rfl) T.n_range (_a (_s YX Yw (_s Yj Wb (_s YX (_s VY _t Yw) _b))) _e)) (YY 10 Xj)
    (_n (_H 11 Xj (_s YX _aN (_s Xq (_s U7 (pv 10) (pv 10)) _b)))
   (_n (_H 9 Xj (_s XD _aN _b))
   (_n (_D (_A _S (pv 10) _X (_x _)) (_m (_H 11 Xj (_s YX (_s XD _f _b) Wb))) _F)
   (_n (_D (_A _S (pv 10) Yh (_x _)) (_m (_H 11 Xj (_s YX (_s XD _f _b) (_s XD Wb _b)))) _F)
   (_m (_H 8 Xj (_s _nT Wp (_i _jU _z (_s Yj (pv 11) _b))))))))))
   (_m (Yl (Vx Gf GC GD VA Xo (_a Wp _e))))))))
   (_m (_y Xo)))))))),?_⟩
 dsimp only[_O];have z7:(7:Int)≠0/\(7:Int).natAbs<2 ^ 1000:=⟨by decide,by ext⟩;have zd:∀n:Int,1<=n->n<=100->n≠0/\n.natAbs<2 ^ 1000:=λn h1 h2=>⟨by lia,Rz (show n.natAbs<=100 by lia) (by ext)⟩;have s0:=QP c (show(0:Int)<7 by decide);have s1:=QY c (show(0:Int)<7 by decide);refine⟨_,rfl,_,_,rfl,rfl,z7.1,_,_,rfl,rfl,?_⟩
 try dsimp only
 generalize hsz:2+c.fmod 7=size at *;have a0:=QP (c.fdiv 7) (show 0<size by lia);have a1:=QY (c.fdiv 7) (show 0<size by lia);refine⟨_,rfl,_,_,rfl,rfl,z7,_,rfl,_,_,rfl,rfl,(show size≠0 by lia),?_⟩
 try dsimp only
 generalize hat:(c.fdiv 7).fmod size=at' at *;have e0:=QP (c.fdiv 61) (show 0<size-1 by lia);have e1:=QY (c.fdiv 61) (show 0<size-1 by lia);have b0:=QP (at'+1+(c.fdiv 61).fmod (size-1)) (show 0<size by lia);have b1:=QY (at'+1+(c.fdiv 61).fmod (size-1)) (show 0<size by lia);refine⟨_,rfl,_,_,rfl,rfl,_,rfl,_,_,rfl,rfl,zd 61 (by decide) (by decide),_,rfl,_,_,rfl,rfl,_,_,rfl,rfl,(show size-1≠0 by lia),_,_,rfl,rfl,_,rfl,_,_,rfl,rfl,(show size≠0 by lia),?_⟩
 try dsimp only
 have ne:at'≠(at'+1+(c.fdiv 61).fmod (size-1)).fmod size:=by
  intro h;have d:=Mg (at'+1+(c.fdiv 61).fmod (size-1)) size;rw[<-h] at d;have d2:size*(at'+1+(c.fdiv 61).fmod (size-1)).fdiv size=1+(c.fdiv 61).fmod (size-1):=by lia
  generalize (at'+1+(c.fdiv 61).fmod (size-1)).fdiv size=w at *;have:w<=0\/1<=w:=by lia
  rcases this with hw|hw
  ·have:=ME hw (show 0<=size by lia);lia
  ·have:=ME hw (show 0<=size by lia);lia
 generalize (at'+1+(c.fdiv 61).fmod (size-1)).fmod size=be at *;refine⟨_,rfl,_,rfl,_,_,rfl,_,_,rfl,rfl,?_⟩
 try dsimp only
 have sh:1+(if be > at' then be else at')<=size/\at'<1+(if be > at' then be else at')/\be<1+(if be > at' then be else at'):=by split<;>lia
 generalize 1+(if be > at' then be else at')=short at *;refine⟨few rfl,λD nD=>?_⟩
 let ln:Nat->Nat:=λk=>(short+((k:Nat):Int).fmod (size-short+1)).toNat
 have lnb:∀k,short<=((ln k:Nat):Int)/\((ln k:Nat):Int)<=size:=λk=>by
  have f0:=QP ((k:Nat):Int) (show 0<size-short+1 by lia);have f1:=QY ((k:Nat):Int) (show 0<size-short+1 by lia);show short<=(((short+((k:Nat):Int).fmod (size-short+1)).toNat:Nat):Int)/\(((short+((k:Nat):Int).fmod (size-short+1)).toNat:Nat):Int)<=size;lia
 let nm:Nat->Str:=λk=>⟨(YA at' be c k (ln k)).toArray⟩
 refine⟨_,rfl,m,rfl,by lia,by lia,_an (λi U H2=>∃v7 v8 v9 v10 v11,U=[some (.int c),some (.int m),some (.int size),some (.int at'),some (.int be),some (.int short),some (.ref D),v7,v8,v9,v10,v11]/\Same H H2/\H2 D=some (.lst (((List.range i).map nm).map V.str))) ?start ?turn ?done⟩
 case start=>exact⟨none,none,none,none,none,rfl,_q nD,_k⟩
 case done =>
  rintro U H2 ⟨v7,v8,v9,v10,v11,rfl,s2,hD⟩;refine⟨_,rfl,q _ D _ s2 hD (by rw[Qd,Mf]) (λx hx=>?_) ?_⟩
  ·obtain⟨k,_,rfl⟩:=Qj.mp hx;have:=lnb k;exact _h1 (by lia) (by lia)
  ·refine _bW (λk hk k' hk' e=>?_) List.nodup_range;have l1:=lnb k;have l2:=lnb k';have k1:=NK.mp hk;have k2:=NK.mp hk';exact _jj (by lia) (by lia) ⟨by lia,by lia,by lia⟩ ⟨by lia,by lia,by lia⟩ ne e
 case turn =>
  rintro i U H2 hi ⟨v7,v8,v9,v10,v11,rfl,s2,hD⟩;rw[show(0:Int)+(i:Int)=i from Int.zero_add _];have f0:=QP (i:Int) (show 0<size-short+1 by lia);have f1:=QY (i:Int) (show 0<size-short+1 by lia);have lb:=lnb i;refine⟨_,rfl,_,_,rfl,rfl,zd 3 (by decide) (by decide),_,rfl,_,rfl,_,rfl,_,rfl,_,_,rfl,rfl,_,_,rfl,rfl,_,_,rfl,rfl,(show size-short+1≠0 by lia),_,_,rfl,rfl,_,rfl,by show -(2 ^ 62)<=short+(i:Int).fmod (size-short+1);lia,by show short+(i:Int).fmod (size-short+1)<2 ^ 62;lia,_an (λj U H3=>∃v9 v10,U=[some (.int c),some (.int m),some (.int size),some (.int at'),some (.int be),some (.int short),some (.ref D),some (.int i),some (.str ⟨(YA at' be c i j).toArray⟩),some (.int (VF c j)),v9,v10]/\H2=H3) ?start2 ?turn2 ?done2⟩
  case start2=>exact⟨_,_,rfl,rfl⟩
  case done2 =>
   rintro U H3 ⟨v9,v10,rfl,rfl⟩;refine⟨_,rfl,.inl ⟨rfl,_,.of hD⟩,_,rfl,D,_,_,rfl,rfl,hD,small1000 (by rw[Qd,Qd,Mf];lia),?_⟩;refine⟨_,_,_,_,_,rfl,_au s2 nD,?_⟩;rw[_k,List.range_succ,Qu,Qu];rfl
  case turn2 =>
   rintro j U H3 hj ⟨v9,v10,rfl,rfl⟩;rw[show(0:Int)+(j:Int)=j from Int.zero_add _]
   have jl:j<8:=by
    have:j<(short+(i:Int).fmod (size-short+1)).toNat:=hj;lia
   have cb:U8 (j:Int) (j:Int):=⟨Rz (show((j:Int)).natAbs<=10 by lia) (by ext),Rz (show((j:Int)).natAbs<=10 by lia) (by ext)⟩;refine⟨_,rfl,_,rfl,_,rfl,_,_,rfl,rfl,cb,_,_,rfl,rfl,.inr ⟨by decide,by decide⟩,_,_,rfl,rfl,_,rfl,_,_,rfl,rfl,zd 26 (by decide) (by decide),?_⟩;dsimp only[W9];refine Wg (λσ' H'=>σ'=[some (.int c),some (.int m),some (.int size),some (.int at'),some (.int be),some (.int short),some (.ref D),some (.int i),some (.str ⟨(YA at' be c i j).toArray⟩),some (.int (VF c (j+1))),some (.int j),some (.int (if(j:Int)=at' then c.fdiv 11+i else VF c j+j*j*5))]/\H2=H') (λnx hnx=>?_) ?_
   ·refine⟨_,rfl,_,rfl,rfl,_,rfl,?_⟩;by_cases e:(j:Int)=at'
    ·refine _I (Ql (by rw[e])) ⟨_,rfl,_,_,rfl,rfl,zd 11 (by decide) (by decide),_,rfl,_,_,rfl,rfl,?_⟩;exact hnx _ _ ⟨by rw[Qb e];rfl,rfl⟩
    ·exact _u (Qi (λz=>e (V.int.inj z))) (hnx _ _ ⟨by rw[Qa e];rfl,rfl⟩)
   rintro σ' H4 ⟨rfl,rfl⟩;refine Wg (λσ' H'=>σ'=[some (.int c),some (.int m),some (.int size),some (.int at'),some (.int be),some (.int short),some (.ref D),some (.int i),some (.str ⟨(YA at' be c i j).toArray⟩),some (.int (VF c (j+1))),some (.int j),some (.int (Wi at' be c i j))]/\H2=H') (λnx hnx=>?_) ?_
   ·refine⟨_,rfl,_,rfl,rfl,_,rfl,?_⟩;by_cases e:(j:Int)=be
    ·refine _I (Ql (by rw[e])) ⟨_,rfl,_,_,rfl,rfl,zd 17 (by decide) (by decide),_,rfl,_,_,rfl,rfl,zd 26 (by decide) (by decide),_,_,rfl,rfl,?_⟩;exact hnx _ _ ⟨by unfold Wi;rw[Qb e];rfl,rfl⟩
    ·exact _u (Qi (λz=>e (V.int.inj z))) (hnx _ _ ⟨by unfold Wi;rw[Qa e];rfl,rfl⟩)
   rintro σ' H5 ⟨rfl,rfl⟩;refine⟨_,rfl,_,rfl,_,_,rfl,rfl,(by decide:(26:Int)≠0),_,_,_,rfl,rfl,few rfl,_iX _,_,_,rfl,rfl,?_,?_⟩
   ·rw[_mB,_cR];exact Ra (small1000 (by show j+1<=1000;lia))
   ·rw[_js];exact⟨_,_,by rw[_ol];rfl,rfl⟩
theorem _hI:_lS P base T:=by
 refine Fun.okY T._dY.F Wa λcdv A outer s H vs Q E hr h=>?_;obtain⟨l,ns,m,rfl,hS,hlen,m40,q⟩:=h
 refine⟨_,(_n (_H 2 Wa (_Z (_oh T) hr (_a (_Z (_cw T) hr (_a _f (_a _b _e))) (_a _p _e))))
   (_n (_H 3 Wa (Y0 _e))
   (_n (_H 4 Wa (Y0 (_a _z _e)))
   (_n (_H 5 Wa (Y0 (_a _z _e)))
   (_n (YU QS rfl (YI (Y9 _aK _f (YF _b) (YF (_s YX _b _p)))) (YY 6 Wa)
    (_n (_H 7 Wa (_U YS (by rfl) T.n_len Yx (_a _X _e)))
   (_n (_H 8 Wa (_i Y7 (Y0 (_a _z (_a _z (_a _z _e)))) (_s Yj (_s Yj (_s Xq Xo _b) _b) _b)))
   (_n (_H 9 Wa (_s YX (_s VY (_s U7 (_s Xq _b (_s X1 _b _b)) Wb) (_s Xq _b (_s X1 _b _b))) (_s Yj (_s Xq Xo _b) (_s YX (_s Xq _b (_s X1 _b _b)) _b))))
   (_n (_H 10 Wa (_i Y7 Yh (_s Yj (_s Yj (_s Xq Xo _b) _b) (_U YS (by rfl) T.n_len Yx (_a Yh _e)))))
   (_n (_H 11 Wa (_i Y7 Yw (_s Yj (_s Yj (_s Xq Xo _b) _b) (_U YS (by rfl) T.n_len Yx (_a Yw _e)))))
   (_n (Yl (Vx Gf GC GD VA _X (_a (_8 (_a _z (_a (_i Y7 _t Wb) (_a Wp (_a _aN (_a (pv 10) (_a (pv 11) _e))))))) _e)))
   (_n (_D (_A _S Wp _z (_x _)) (_m (Yl (Vx Gf GC GD VA Yh (_a (_i Y7 _t Wb) _e)))) _F)
   (_m (_D (_A _S Wp _z (_x _)) (_m (Yl (Vx Gf GC GD VA Yw (_a (_i Y7 _t Wb) _e)))) _F))))))))))
   (_m (_y _X))))))),?_⟩
 dsimp only[_O];have cp16:W5 10 16:=⟨by decide,by decide,by ext⟩;have cp17:W5 10 17:=⟨by decide,by decide,by ext⟩;refine⟨_,rfl,rfl,l,ns,0,rfl,hS,by decide,λz0=>⟨_,rfl,rfl,z0,m,rfl,by lia,by lia,λH1 Dn nms s1 hDn nlen nnm nnd=>?_⟩⟩;refine⟨few rfl,λDb nDb=>⟨few rfl,λDm nDm=>⟨few rfl,λDw nDw=>?_⟩⟩⟩;obtain⟨cs,ecs,clen⟩:=_ng ns 1 (1+m);have t1:=_q (o:=.lst []) nDb;have t2:=_q (o:=.lst [V.str ""]) nDm;have t3:=_q (o:=.lst [V.str ""]) nDw;have t123:=t1.trans (t2.trans t3);have dnb:Dn≠Db:=_P hDn nDb;have dnm:Dn≠Dm:=_P (t1 _ _ hDn) nDm;have dnw:Dn≠Dw:=_P (t2 _ _ (t1 _ _ hDn)) nDw;have dbm:Db≠Dm:=_P (_k (o:=.lst [])) nDm;have dbw:Db≠Dw:=_P (t2 _ _ (_k (o:=.lst []))) nDw;have dmw:Dm≠Dw:=_P (_k (o:=.lst [V.str ""])) nDw;refine⟨_,rfl,_,rfl,_,rfl,_,_,rfl,rfl,_,rfl,l,_,rfl,(s1.trans t123).sql hS,λlc nlc=>?_⟩;have t4:=_q (o:=.lst (Ym (List.map V.int ns) (some 1) (some (1+(m:Int))))) nlc
 have ecs':Ym (List.map V.int ns) (some 1) (some (1+(m:Int)))=cs.map V.int:=by
  rw[<-ecs]
  congr 2
 rw[ecs'] at t4 ⊢;have hb0:=t4 _ _ (t3 _ _ (t2 _ _ (_k (H:=H1) (a:=Db) (o:=.lst []))));have hm0:=t4 _ _ (t3 _ _ (_k (a:=Dm) (o:=.lst [V.str ""])));have hw0:=t4 _ _ (_k (a:=Dw) (o:=.lst [V.str ""]));have hn0:=t4 _ _ (t123 _ _ hDn);have hlc:(_d (_d (_d (_d H1 Db (.lst [])) Dm (.lst [V.str ""])) Dw (.lst [V.str ""])) lc (.lst (cs.map V.int))) lc=some (.lst (cs.map V.int)):=_k;have lcb:lc≠Db:=(_P (t3 _ _ (t2 _ _ (_k (H:=H1) (a:=Db) (o:=.lst [])))) nlc).symm;have lcm:lc≠Dm:=(_P (t3 _ _ (_k (a:=Dm) (o:=.lst [V.str ""]))) nlc).symm;have lcw:lc≠Dw:=(_P (_k (a:=Dw) (o:=.lst [V.str ""])) nlc).symm;have sH:=s1.trans (t123.trans t4);have nb0:H Db=none:=_W s1 nDb;have nm0:H Dm=none:=_W (s1.trans t1) nDm;have nw0:H Dw=none:=_W (s1.trans (t1.trans t2)) nDw;generalize _d (_d (_d (_d H1 Db (.lst [])) Dm (.lst [V.str ""])) Dw (.lst [V.str ""])) lc (.lst (cs.map V.int))=Hs at *;have cl40:cs.length<=40:=by lia
 refine⟨lc,rfl,⟨_,.of hlc⟩,Wo (xs:=cs.map V.int) (λi U H2=>∃(bs:List (Ent×Addr)) (men women:A9) (v6 v7 v8 v9 v10 v11:Option V),U=[some (.ref l),some (.int m),some (.ref Dn),some (.ref Db),some (.ref Dm),some (.ref Dw),v6,v7,v8,v9,v10,v11]/\But [Db,Dm,Dw] Hs H2/\H2 Db=some (.lst (_v bs))/\H2 Dm=some (.lst (((("" : Str))::men).map V.str))/\H2 Dw=some (.lst (((("" : Str))::women).map V.str))/\RowsAt K H2 bs/\BOk (bs.map (·.1))/\bs.length=i/\men.length<=i/\women.length<=i/\(∀x∈men,∃d f w,Ent.born x "he" d f w∈bs.map (·.1))/\(∀x∈women,∃d f w,Ent.born x "she" d f w∈bs.map (·.1))/\∀e∈bs.map (·.1),∃x∈nms.take i,e.bornName=some x) ?start ?list ?turn ?done⟩
 case start=>exact⟨[],[],[],none,none,none,none,none,none,rfl,But.of _ (Same.refl Hs),hb0,hm0,hw0,λp hp=>(by cases hp),.nil,rfl,Qg _,Qg _,λx hx=>(by cases hx),λx hx=>(by cases hx),λe he=>(by cases he)⟩
 case list =>
  rintro i U H2 _ ⟨bs,men,women,v6,v7,v8,v9,v10,v11,rfl,bt,_⟩;exact .of (bt.eq _ _ (by simp[lcb,lcm,lcw]) hlc)
 case done =>
  rintro U H2 ⟨bs,men,women,v6,v7,v8,v9,v10,v11,rfl,bt,hb,hm,hw,hr3,ok,hl,_⟩;rw[Qd] at hl;refine⟨_,rfl,q H2 Db bs (λx u e=>bt.eq x u ?_ (sH x u e)) nb0 hb hr3 ok (by lia)⟩;intro z;simp only[Qk,Q2,QW] at z;rcases z with z|z|z<;>subst z<;>first|(rw[nb0] at e;cases e)|(rw[nm0] at e;cases e)|(rw[nw0] at e;cases e)
 case turn =>
  rintro i y U H2 hy ⟨bs,men,women,v6,v7,v8,v9,v10,v11,rfl,bt,hb,hm,hw,hr3,ok,hl,hml,hwl,mem1,mem2,used⟩;obtain⟨c,rfl,hc⟩:=_eH hy;have il:i<cs.length:=(QK.mp hc).1;have hn:=bt.eq _ _ (by simp[dnb,dnm,dnw]) hn0;have rl:(_v bs).length=i:=by unfold _v;rw[Qd];exact hl
  have inl:i<nms.length:=by lia
  obtain⟨srt,hsort,hso⟩:=_hb ((c*48271).fmod 2147483647);refine⟨_,rfl,Db,_,rfl,.inl (.of hb),few rfl,λl1 nl1=>⟨_,rfl,_,_,rfl,rfl,.inr ⟨by decide,by decide⟩,_,_,rfl,rfl,(by decide:(2147483647:Int)≠0),_,_,rfl,rfl,(by decide:(3:Int)≠0),l1,_,_,_,rfl,rfl,.of _k,hsort,?_⟩⟩;rw[rl];have s3:=_q (o:=.lst [V.str "he",.str "she",.str ""]) nl1;have hb3:=s3 _ _ hb;have hm3:=s3 _ _ hm;have hw3:=s3 _ _ hw;have hn3:=s3 _ _ hn;have hr4:=hr3.mono s3;have bt3:=bt.trans (But.of [Db,Dm,Dw] s3);generalize _d H2 l1 (.lst [V.str "he",.str "she",.str ""])=H3 at *;have cb:U8 (4*10 ^ (16:Int).toNat) (i:Int):=⟨by ext,Rz (show((i:Int)).natAbs<=100 by lia) (by ext)⟩;refine⟨_,_,rfl,rfl,cp16,_,_,rfl,rfl,.inl ⟨by decide,by decide⟩,_,rfl,_,_,rfl,rfl,cb,_,_,rfl,rfl,cp17,_,_,rfl,rfl,.inl ⟨by decide,by decide⟩,_,_,rfl,rfl,_,rfl,_,_,rfl,rfl,.inr ⟨by decide,by decide⟩,_,_,rfl,rfl,cp16,_,_,rfl,rfl,.inl ⟨by decide,by decide⟩,_,_,rfl,rfl,_,_,rfl,rfl,(by decide:(3:Int)*10 ^ (16:Int).toNat+7≠0),_,_,rfl,rfl,?_⟩;have y0:=QP (c*69621) (show(0:Int)<3*10 ^ (16:Int).toNat+7 by decide);have y1:=QY (c*69621) (show(0:Int)<3*10 ^ (16:Int).toNat+7 by decide);have p16:(10:Int) ^ (16:Int).toNat=10 ^ 16:=rfl;have p17:(10:Int) ^ (17:Int).toNat=10 ^ 17:=rfl
  try dsimp only
  rw[p16] at y0 y1;rw[p16,p17];have dlo:4*10 ^ 16*(i:Int)-9*10 ^ 17<=4*10 ^ 16*(i:Int)-9*10 ^ 17+(c*69621).fmod (3*10 ^ 16+7):=by lia
  have dhi:4*10 ^ 16*(i:Int)-9*10 ^ 17+(c*69621).fmod (3*10 ^ 16+7)<=4*10 ^ 16*(i:Int)-9*10 ^ 17+3*10 ^ 16+6:=by lia
  generalize 4*10 ^ 16*(i:Int)-9*10 ^ 17+(c*69621).fmod (3*10 ^ 16+7)=day at *;obtain⟨fa,hfa,hfat⟩:=_dr ((c*16807).fmod 1000000007) (xs:=(("" : Str))::men) (by simp);obtain⟨mo,hmo,hmot⟩:=_dr ((c*40693).fmod 998244353) (xs:=(("" : Str))::women) (by simp);have nz:∀xs:A9,((((("" : Str))::xs).map V.str).length:Int)≠0:=λxs=>by rw[Qd,QC];lia
  refine⟨_,rfl,_,rfl,_,_,rfl,rfl,.inr ⟨by decide,by decide⟩,_,_,rfl,rfl,(by decide:(1000000007:Int)≠0),_,rfl,Dm,_,rfl,.inl (.of hm3),_,_,rfl,rfl,nz men,Dm,_,_,_,rfl,rfl,.of hm3,hfat,?_⟩;refine⟨_,rfl,_,rfl,_,_,rfl,rfl,.inr ⟨by decide,by decide⟩,_,_,rfl,rfl,(by decide:(998244353:Int)≠0),_,rfl,Dw,_,rfl,.inl (.of hw3),_,_,rfl,rfl,nz women,Dw,_,_,_,rfl,rfl,.of hw3,hmot,?_⟩;have hname:YC (nms.map V.str) (i:Int)=some (.str nms[i]):=X2 (by rw[Qv,Qp inl];rfl);refine⟨_,rfl,.inl ⟨rfl,_,.of hb3⟩,_,rfl,_,rfl,Dn,_,_,_,rfl,rfl,.of hn3,hname,_,rfl,_,rfl,_,rfl,_,rfl,few rfl,λt nt=>⟨Db,_,_,rfl,rfl,_q nt _ _ hb3,small1000 (by rw[rl];lia),?_⟩⟩;have s4:=_q (o:=.tup [V.str "born",.str nms[i],.str srt,.int day,.str fa,.str mo]) nt;have erows:_v bs++[V.ref t]=_v (bs++[(.born nms[i] srt day fa mo,t)]):=by unfold _v;rw[Qu];rfl
  rw[erows];have hb4:=s4 _ _ hb3
  have rows5:RowsAt K (_d (_d H3 t (.tup [V.str "born",.str nms[i],.str srt,.int day,.str fa,.str mo])) Db (.lst (_v (bs++[(.born nms[i] srt day fa mo,t)])))) (bs++[(.born nms[i] srt day fa mo,t)]):=by
   refine RowsAt.put (λp hp=>?_) hb4;rcases Qn.mp hp with hp|hp
   ·exact s4.sqt (hr4 p hp)
   ·have ep:p=(.born nms[i] srt day fa mo,t):=by simpa using hp
    subst ep;exact .of _k
  have hm5:=(_l (o:=.lst (_v (bs++[(.born nms[i] srt day fa mo,t)]))) dbm.symm).trans (s4 _ _ hm3);have hw5:=(_l (o:=.lst (_v (bs++[(.born nms[i] srt day fa mo,t)]))) dbw.symm).trans (s4 _ _ hw3);have hn5:=(_l (o:=.lst (_v (bs++[(.born nms[i] srt day fa mo,t)]))) dnb).trans (s4 _ _ hn3);have hb5:(_d (_d H3 t (.tup [V.str "born",.str nms[i],.str srt,.int day,.str fa,.str mo])) Db (.lst (_v (bs++[(.born nms[i] srt day fa mo,t)])))) Db=some (.lst (_v (bs++[(.born nms[i] srt day fa mo,t)]))):=_k;have bt5:=bt3.trans ((But.of [Db,Dm,Dw] s4).trans (But.put (o':=.lst (_v (bs++[(.born nms[i] srt day fa mo,t)]))) hb4 (by simp)));generalize _d (_d H3 t (.tup [V.str "born",.str nms[i],.str srt,.int day,.str fa,.str mo])) Db (.lst (_v (bs++[(.born nms[i] srt day fa mo,t)])))=H5 at *;have eb:(bs++[((.born nms[i] srt day fa mo,t):Ent×Addr)]).map (·.1)=bs.map (·.1)++[.born nms[i] srt day fa mo]:=by rw[Qu];rfl
  have bl:(bs.map (·.1)).length=i:=by rw[Qd];exact hl
  have ok5:BOk ((bs++[((.born nms[i] srt day fa mo,t):Ent×Addr)]).map (·.1)):=by
   rw[eb];refine .snoc ok (nnm _ (GX _)) (λe he z=>?_) hso (by rw[bl];exact dlo) (by rw[bl];exact dhi) ?_ ?_
   ·obtain⟨x,hx,ex⟩:=used e he;rw[ex] at z;have:x=nms[i]:=Qt z;subst this;obtain⟨j,hj,ej⟩:=RV hx;rw[QU] at hj;rw[N4] at ej;have:=N1.mp nnd j i (by lia) inl (by lia);exact this ej
   ·rcases Qk.mp hfa with h|h
    ·exact .inl h
    ·exact .inr (mem1 fa h)
   ·rcases Qk.mp hmo with h|h
    ·exact .inl h
    ·exact .inr (mem2 mo h)
  have used5:∀e∈(bs++[((.born nms[i] srt day fa mo,t):Ent×Addr)]).map (·.1),∃x∈nms.take (i+1),e.bornName=some x:=λe he=>by
   rw[eb] at he;rw[GT,Qp inl];rcases Qn.mp he with h|h
   ·obtain⟨x,hx,ex⟩:=used e h;exact⟨x,Qn.mpr (.inl hx),ex⟩
   ·have:e=.born nms[i] srt day fa mo:=by simpa using h
    subst this;exact⟨nms[i],Qn.mpr (.inr (by simp)),rfl⟩
  have more:∀{x s2:Str},(∃d f w,Ent.born x s2 d f w∈bs.map (·.1))->∃d f w,Ent.born x s2 d f w∈(bs++[((.born nms[i] srt day fa mo,t):Ent×Addr)]).map (·.1):=λ⟨d,f,w,h⟩=>⟨d,f,w,by rw[eb];exact Qn.mpr (.inl h)⟩;have self:∃d f w,Ent.born nms[i] srt d f w∈(bs++[((.born nms[i] srt day fa mo,t):Ent×Addr)]).map (·.1):=⟨day,fa,mo,by rw[eb];simp⟩;generalize hbs5:bs++[((.born nms[i] srt day fa mo,t):Ent×Addr)]=bs5 at *;have l5:bs5.length=i+1:=by rw[<-hbs5,Qq,hl];rfl
  dsimp only;refine Wg (λσ' H'=>∃men':A9,σ'=[some (.ref l),some (.int m),some (.ref Dn),some (.ref Db),some (.ref Dm),some (.ref Dw),some (.int c),some (.int i),some (.str srt),some (.int day),some (.str fa),some (.str mo)]/\But [Db,Dm,Dw] Hs H'/\H' Db=some (.lst (_v bs5))/\H' Dm=some (.lst (((("" : Str))::men').map V.str))/\H' Dw=some (.lst (((("" : Str))::women).map V.str))/\H' Dn=some (.lst (nms.map V.str))/\RowsAt K H' bs5/\men'.length<=i+1/\∀x∈men',∃d f w,Ent.born x "he" d f w∈bs5.map (·.1)) (λnx hnx=>?_) ?_
  ·refine⟨_,rfl,rfl,_,rfl,?_⟩;by_cases es:srt="he"
   ·refine _I (by rw[YH];exact Ql es) ?_;refine⟨_,rfl,.inl ⟨rfl,_,.of hm5⟩,_,rfl,_,rfl,Dn,_,_,_,rfl,rfl,.of hn5,hname,Dm,_,_,rfl,rfl,hm5,small1000 (by rw[Qd,QC];lia),?_⟩;refine hnx _ _ ⟨men++[nms[i]],rfl,bt5.trans (But.put hm5 (by simp)),(_l dbm).trans hb5,by rw[_k,<-Np,Qu];rfl,(_l dmw.symm).trans hw5,(_l dnm).trans hn5,rows5.put hm5,by rw[Qq];show men.length+1<=i+1;lia,λx hx=>?_⟩;rcases Qn.mp hx with h|h
    ·exact more (mem1 x h)
    ·have:x=nms[i]:=by simpa using h
     subst this;rw[es] at self;exact self
   ·exact _u (by rw[YH];exact Qi es) (hnx _ _ ⟨men,rfl,bt5,hb5,hm5,hw5,hn5,rows5,by lia,λx hx=>more (mem1 x hx)⟩)
  rintro σ' H6 ⟨men',rfl,bt6,hb6,hm6,hw6,hn6,rows6,ml6,mem6⟩;refine⟨_,rfl,rfl,_,rfl,?_⟩;by_cases es:srt="she"
  ·refine _I (by rw[YH];exact Ql es) ?_;refine⟨_,rfl,.inl ⟨rfl,_,.of hw6⟩,_,rfl,_,rfl,Dn,_,_,_,rfl,rfl,.of hn6,hname,Dw,_,_,rfl,rfl,hw6,small1000 (by rw[Qd,QC];lia),?_⟩;refine⟨bs5,men',women++[nms[i]],_,_,_,_,_,_,rfl,bt6.trans (But.put hw6 (by simp)),(_l dbw).trans hb6,(_l dmw).trans hm6,by rw[_k,<-Np,Qu];rfl,rows6.put hw6,ok5,l5,ml6,by rw[Qq];show women.length+1<=i+1;lia,mem6,λx hx=>?_,used5⟩;rcases Qn.mp hx with h|h
   ·exact more (mem2 x h)
   ·have:x=nms[i]:=by simpa using h
    subst this;rw[es] at self;exact self
  ·exact _u (by rw[YH];exact Qi es) ⟨bs5,men',women,_,_,_,_,_,_,rfl,bt6,hb6,hm6,hw6,rows6,ok5,l5,ml6,by lia,mem6,λx hx=>more (mem2 x hx),used5⟩
theorem _g0: _jM P base T:=by
 refine Fun.okY T._dN.F _eo λcdv A outer s H vs Q E hr h=>?_;obtain⟨_,_,e1,e2,rfl,⟨u,rfl,hU⟩,⟨v,rfl,hV⟩,nb1,nb2,q⟩:=h
 refine⟨_,(_n (_H 2 _eo (_i _o _p _b))
   (_n (_D (_A _S _t _z (_x _)) (_m (_y (Yp (Ji hr.units) (Y9 WZ _f X7 (YF _b)) (Y9 WZ _p X7 (YF _b)) (_x _)))) _F)
   (_n (_D (_A _S _t _z (_x _)) (_m (_y (Yp (Ji hr.units) (Y9 WZ _f X7 (YF _b)) (Y9 WZ _p X7 (YF _b)) (_x _)))) _F)
   (_n (_D (_A _S _t _z (_x _)) (_m (_y (XA (Yp (Ji hr.units) (Y9 WZ _f X7 (YF _b)) (Y9 WZ _p X7 (YF _b)) (_x _)) (XC (Yp _S (_i _o _f _b) (_i _o _p _b) (_x _)))))) _F)
   (_m (_y (XA (Yp W2 (_i _o _f _b) (_8 (_a _z (_a _z _e))) (by rfl)) (XA (Yp (Ji hr.units) (_U (_bQ K) (by rfl) T.n_sorted WL (_a (Y9 WZ _f (YF _b) (YF _b)) _e)) (_U (_bQ K) (by rfl) T.n_sorted WL (_a (Y9 WZ _p (YF _b) (YF _b)) _e)) (_x _)) (XC (Yp _S (_i _o _f _b) (_i _o _p _b) (_x _))))))))))),?_⟩
 have rl:=_jI e1;by_cases t2:e2.tie=true
 ·obtain⟨x,y,d,W,hr,hW,k2⟩:=_dS t2;rw[hr] at hV;have no:∀z:Str,z≠"union"->z≠"parted"->decide (V.str W=V.str z)=false:=λz h1 h2=>Qi λe=>by rcases hW with h|h;exact h1 ((V.str.inj e).symm.trans h);exact h2 ((V.str.inj e).symm.trans h)
  refine _g rfl hV (_c (j:=0) rfl) ⟨_,rfl,rfl,_,rfl,_u (no _ (by ext) (by ext)) ⟨_,rfl,rfl,_,rfl,_u (no _ (by ext) (by ext)) ⟨_,rfl,rfl,_,rfl,_u (no _ (by ext) (by ext)) ?_⟩⟩⟩;clear no;by_cases t1:e1.tie=true
  ·obtain⟨a1,b1,d1,W1,hr1,hW1,k1⟩:=_dS t1;rw[hr1] at hU;refine _g rfl hU (_c (j:=0) rfl) ⟨few rfl,λp np=>⟨p,_,rfl,.inr (.of _k),rfl,rfl,_,rfl,_I (by rcases hW1 with rfl|rfl<;>ext) ?_⟩⟩;have s0:=_q (o:=.tup [V.str "union",.str "parted"]) np;refine⟨_,rfl,_,rfl,_,rfl,u,_,rfl,s0.sqt hU,λH1 p1 s1 hp1=>⟨p1,[a1,b1],rfl,hp1,by show 2<64;decide,λF1 zs1 nF1 perm1 so1=>?_⟩⟩;obtain rfl:=JL perm1 so1;have t1:=_q (o:=.lst ([(_h a1 b1).1,(_h a1 b1).2].map V.str)) nF1;have s01:=s0.trans (s1.trans t1);refine⟨_,rfl,_,rfl,_,rfl,v,_,rfl,s01.sqt hV,λH2 p2 s2 hp2=>⟨p2,[x,y],rfl,hp2,by show 2<64;decide,λF2 zs2 nF2 perm2 so2=>?_⟩⟩;obtain rfl:=JL perm2 so2;have t2:=_q (o:=.lst ([(_h x y).1,(_h x y).2].map V.str)) nF2;have s02:=s01.trans (s2.trans t2);refine⟨_,_,_d6 (zs:=[(_h a1 b1).1,(_h a1 b1).2]) (.of ((s2.trans t2) _ _ _k)),_d6 (zs:=[(_h x y).1,(_h x y).2]) (.of _k),.inr ⟨_,_,rfl,rfl⟩,by show Yn _+1<=60;rw[_cr];decide,_,rfl,?_⟩;show if Yk _ _=true then _ else _;rw[_dM];have qq:=q _ s02;rw[k1,k2] at qq;by_cases c:_h a1 b1=_h x y
   ·rw[c] at qq ⊢;rw[Ql rfl];refine _7 (_g rfl (s02.sqt hU) (_c (j:=3) rfl) (_g rfl (s02.sqt hV) (_c (j:=3) rfl) ⟨rfl,?_⟩))
    rwa [show decide ([(.inr "tie" : _j),.inr (_h x y).1,.inr (_h x y).2,.inl d1]=[.inr "tie",.inr (_h x y).1,.inr (_h x y).2,.inl d])=decide (V.int d1=V.int d) by simp] at qq
   ·have c':¬((_h a1 b1).1=(_h x y).1/\(_h a1 b1).2=(_h x y).2):=λz=>c (R1 z.1 z.2);rw[Qi (by simpa using c')];rw[Qi (λz=>c' (by simp at z;exact⟨z.1,z.2.1⟩))] at qq;exact _L qq
  ·obtain⟨k,r,hk,n1,n2⟩:=_aU t1;rw[hk] at hU;refine _g rfl hU (_c (j:=0) rfl) ⟨few rfl,λp np=>⟨p,_,rfl,.inr (.of _k),rfl,rfl,_,rfl,_u ((JK k ["union","parted"]).trans (Qi (by simp[n1,n2]))) ?_⟩⟩;have qq:=q _ (_q (o:=.tup [V.str "union",.str "parted"]) np)
   rwa [k2,Qi (_lY t1)] at qq
 cases e2 with
 |born=>cases nb2
 |union=>exact absurd rfl t2
 |parted=>exact absurd rfl t2
 |dead n d =>
  refine _g rfl hV (_c (j:=0) rfl) ⟨_,rfl,rfl,_,rfl,_I (by ext) ⟨_,rfl,_,rfl,?_⟩⟩
  try dsimp only[XU]
  refine⟨u,_,rfl,hU,λH1 p1 s1 hp1=>⟨_,rfl,_,rfl,?_⟩⟩
  try dsimp only[XU]
  refine⟨v,_,rfl,s1.sqt hV,λH2 p2 s2 hp2=>?_⟩
  have h1:SqT K H2 p1 ((e1.row.take 2).map kV):=by
   have:=s2.sqt hp1
   rwa [show Ym (e1.row.map kV) none (some 2)=(e1.row.take 2).map kV from _aY e1.row 2 (by lia)] at this
  have h2:SqT K H2 p2 ([.inr "dead",.inr n].map kV):=hp2;refine⟨_,_,Vm h1,Vm h2,.inl ⟨_,_,rfl,rfl⟩,by show Yn _+1<=60;rw[Jc];decide,?_⟩;have:=q _ (s1.trans s2);show Q (.bl (Yk _ _)) H2;rw[U5,_h2];exact this
 |taken c t d =>
  refine _g rfl hV (_c (j:=0) rfl) ⟨_,rfl,rfl,_,rfl,_u (by ext) ⟨_,rfl,rfl,_,rfl,_I (by ext) ⟨_,rfl,_,rfl,?_⟩⟩⟩
  try dsimp only[XU]
  refine⟨u,_,rfl,hU,λH1 p1 s1 hp1=>⟨_,rfl,_,rfl,?_⟩⟩
  try dsimp only[XU]
  refine⟨v,_,rfl,s1.sqt hV,λH2 p2 s2 hp2=>?_⟩
  have h1:SqT K H2 p1 ((e1.row.take 3).map kV):=by
   have:=s2.sqt hp1
   rwa [show Ym (e1.row.map kV) none (some 3)=(e1.row.take 3).map kV from _aY e1.row 3 rl] at this
  have h2:SqT K H2 p2 ([.inr "taken",.inr c,.inr t].map kV):=hp2;refine⟨_,_,Vm h1,Vm h2,.inl ⟨_,_,rfl,rfl⟩,by show Yn _+1<=60;rw[Jc];decide,?_⟩;have:=q _ (s1.trans s2);show Q (.bl (Yk _ _)) H2;rw[U5,_hX];exact this
 |given g t am d =>
  refine _g rfl hV (_c (j:=0) rfl) ⟨_,rfl,rfl,_,rfl,_u (by ext) ⟨_,rfl,rfl,_,rfl,_u (by ext) ⟨_,rfl,rfl,_,rfl,_I (by ext) ⟨_,rfl,_,rfl,?_⟩⟩⟩⟩
  try dsimp only[XU]
  refine⟨u,_,rfl,hU,λH1 p1 s1 hp1=>⟨_,rfl,_,rfl,?_⟩⟩
  try dsimp only[XU]
  refine⟨v,_,rfl,s1.sqt hV,λH2 p2 s2 hp2=>?_⟩
  have h1:SqT K H2 p1 ((e1.row.take 3).map kV):=by
   have:=s2.sqt hp1
   rwa [show Ym (e1.row.map kV) none (some 3)=(e1.row.take 3).map kV from _aY e1.row 3 rl] at this
  have h2:SqT K H2 p2 ([.inr "given",.inr g,.inr t].map kV):=hp2;refine⟨_,_,Vm h1,Vm h2,.inl ⟨_,_,rfl,rfl⟩,by show Yn _+1<=60;rw[Jc];decide,_,rfl,?_⟩;have qq:=q _ (s1.trans s2);show if Yk _ _=true then _ else _;rw[U5];by_cases c:e1.row.take 3=[.inr "given",.inr g,.inr t]
  ·rw[Ql c];obtain⟨am',d',rfl⟩:=_iG c;refine _7 (_g rfl ((s1.trans s2).sqt hU) (_c (j:=4) rfl) (_g rfl ((s1.trans s2).sqt hV) (_c (j:=4) rfl) ⟨rfl,?_⟩))
   have e:decide ((Ent.given g t am' d').told.key=(Ent.given g t am d).told.key)=decide (V.int d'=V.int d):=by
    rw[Q0];simp[Ent.told,Ent.key]
   rw[e] at qq;exact qq
  ·rw[Qi c];rw[Qi (_kv am d c)] at qq;exact _L qq
theorem _h3: _ko P base T:=by
 refine Fun.okY T._gm.F V2 λcdv A outer s H vs Q E hr h=>?_;obtain⟨D,bs,c,rfl,hD,hR,ok,hne,len,q⟩:=h
 refine⟨_,(_n (_H 2 V2 (_i Y7 _f (_s Yj (_s Yj (_s Xq _p _b) _b) (_U YS (by rfl) T.n_len Yx (_a _f _e)))))
   (_n (_H 3 V2 (_i Y7 _f (_s Yj (_s Yj (_s Xq _p _b) _b) (_U YS (by rfl) T.n_len Yx (_a _f _e)))))
   (_n (_H 4 V2 (_s YX (_s Xq _b (_s X1 _b _b)) (_s Yj (_s XD _p _b) _b)))
   (_n (_H 5 V2 (_s Yj (_s Yj (_s Xq _p _b) _b) _b))
   (_n (_D (PW.pt (Xz (_A _S Yw _b (_x _)) (Wt (_A _S (_i _o _t _b) (_i _o _X _b) (_x _))))) (_m (_y (_8 (_a _z (_a (_i _o _t _b) (_a Yh _e)))))) _F)
   (_n (_D (_A U9 Yw _b (_x _)) (_n (_H 6 V2 (_U (_cL rfl) (by rfl) T.n_max _ae (_a (_i _o _t _b) (_a (_i _o _X _b) _e))))
   (_n (_D (_A _S (_i _o _t _b) Xo (_x _)) (_m (_y (_8 (_a _z (_a (_i _o _t _b) (_a (_i _o _X _b) (_a Yh _e))))))) _F)
   (_m (_y (_8 (_a _z (_a (_i _o _X _b) (_a (_i _o _t _b) (_a Yh _e))))))))) _F)
   (_n (_D (_A U9 Yw _b (_x _)) (_m (_y (_8 (_a (_i Y7 (Y0 (_a _z (_a _z _e))) (_el _kZ (by rfl) T.n_int _c2 (_a (Yp _S Yw _b (_x _)) _e))) (_a (_i _o _t _b) (_a (_i _o _X _b) (_a Yh _e))))))) _F)
   (_m (_y (_8 (_a _z (_a (_i _o _t _b) (_a (_i _o _X _b) (_a (_s YX _b (_s Yj (_s XD _p _b) (_s X1 _b _b))) (_a Yh _e))))))))))))))),?_⟩
 dsimp only[_O];have cp17:W5 10 17:=⟨by decide,by decide,by ext⟩;have cp18:W5 10 18:=⟨by decide,by decide,by ext⟩;have three:(3:Int)≠0/\(3:Int).natAbs<2 ^ 1000:=⟨by decide,by ext⟩
 have lz:(((_v bs).length:Nat):Int)≠0:=by
  rw[Yy];have:=RF.mpr hne;lia
 obtain⟨p,hp,ep⟩:=_gI ((c*39373).fmod 1000000009) hne;obtain⟨o,ho,eo⟩:=_gI ((c*41357).fmod 2147483629) hne;have m1:p.1∈bs.map (·.1):=Qj.mpr ⟨p,hp,rfl⟩;have m2:o.1∈bs.map (·.1):=Qj.mpr ⟨o,ho,rfl⟩;obtain⟨n1,s1,d1,f1,w1,e1⟩:=Wm ok (e:=p.1) m1;obtain⟨n2,s2,d2,f2,w2,e2⟩:=Wm ok (e:=o.1) m2;rw[e1] at m1;rw[e2] at m2;have hP:=hR p hp;have hO:=hR o ho;rw[e1] at hP;rw[e2] at hO;refine⟨_,rfl,_,rfl,_,_,rfl,rfl,.inr ⟨by decide,by decide⟩,_,_,rfl,rfl,(by decide:(1000000009:Int)≠0),_,rfl,D,_,rfl,.inl hD,_,_,rfl,rfl,lz,D,_,_,_,rfl,rfl,hD,ep,?_⟩;refine⟨_,rfl,_,rfl,_,_,rfl,rfl,.inr ⟨by decide,by decide⟩,_,_,rfl,rfl,(by decide:(2147483629:Int)≠0),_,rfl,D,_,rfl,.inl hD,_,_,rfl,rfl,lz,D,_,_,_,rfl,rfl,hD,eo,?_⟩;refine⟨_,_,rfl,rfl,cp17,_,_,rfl,rfl,.inl ⟨by decide,by decide⟩,_,rfl,_,_,rfl,rfl,three,_,_,rfl,rfl,(by decide:(4:Int)≠0),_,_,rfl,rfl,?_⟩;have y0:=QP (c.fdiv 3) (show(0:Int)<4 by decide);have y1:=QY (c.fdiv 3) (show(0:Int)<4 by decide);have p17:(10:Int) ^ (17:Int).toNat=10 ^ 17:=rfl
 try dsimp only
 rw[p17];have dlo:8*10 ^ 17<=8*10 ^ 17+(c.fdiv 3).fmod 4:=by lia
 have dhi:8*10 ^ 17+(c.fdiv 3).fmod 4<=8*10 ^ 17+3:=by lia
 generalize 8*10 ^ 17+(c.fdiv 3).fmod 4=day at *;refine⟨_,rfl,_,_,rfl,rfl,.inr ⟨by decide,by decide⟩,_,_,rfl,rfl,(by decide:(2147483587:Int)≠0),_,_,rfl,rfl,(by decide:(10:Int)≠0),?_⟩
 try dsimp only
 generalize ((c*45991).fmod 2147483587).fmod 10=kind at *;refine⟨_,rfl,rfl,_,rfl,WB (λ_=>_7 (_g rfl hP (_c (j:=1) rfl) ⟨_,rfl,few rfl,λt nt=>q _ _ (.dead n1 day) (_q nt) ⟨t,rfl,.of _k⟩ (.dead m1 dlo dhi)⟩)) (λ_=>?_)⟩;refine _g rfl hP (_c (j:=1) rfl) (_g rfl hO (_c (j:=1) rfl) ⟨rfl,_,rfl,WB (λ_=>(_g rfl hP (_c (j:=1) rfl) ⟨_,rfl,few rfl,λt nt=>q _ _ (.dead n1 day) (_q nt) ⟨t,rfl,.of _k⟩ (.dead m1 dlo dhi)⟩)) (λhn=>?_)⟩);have ne:n1≠n2:=λz=>RB hn (by rw[z]);have dne:=ok.days m1 m2 ne;refine⟨_,rfl,_,_,rfl,rfl,_,rfl,WB (λ_=>?_) (λ_=>?_)⟩
 ·refine _g rfl hP (_c (j:=3) rfl) (_g rfl hO (_c (j:=3) rfl) ⟨_,_,rfl,?_⟩)
  try dsimp only
  refine _g rfl hP (_c (j:=3) rfl) ⟨_,rfl,rfl,_,rfl,WB (λh=>?_) (λh=>?_)⟩
  ·have hh:=_l7 h;refine _g rfl hP (_c (j:=1) rfl) (_g rfl hO (_c (j:=1) rfl) ⟨_,rfl,few rfl,λt nt=>q _ _ (.taken n1 n2 day) (_q nt) ⟨t,rfl,.of _k⟩ (.taken m1 m2 ?_ dlo dhi)⟩);split at hh<;>lia
  ·have hh:=_hK h;refine _g rfl hO (_c (j:=1) rfl) (_g rfl hP (_c (j:=1) rfl) ⟨_,rfl,few rfl,λt nt=>q _ _ (.taken n2 n1 day) (_q nt) ⟨t,rfl,.of _k⟩ (.taken m2 m1 ?_ dlo dhi)⟩);split at hh<;>lia
 refine⟨_,rfl,_,_,rfl,rfl,_,rfl,WB (λ_=>?_) (λ_=>?_)⟩
 ·refine⟨few rfl,λlk nlk=>?_⟩;have s1':=_q (o:=.lst [V.str "union",.str "parted"]) nlk;have hP':=s1'.sqt hP;have hO':=s1'.sqt hO;by_cases k7:kind=7
  ·refine⟨_,rfl,rfl,.inr ⟨_,rfl,lk,_,_,_,rfl,rfl,.of _k,show YC _ (if decide (V.int kind=V.int 7)=true then 1 else 0)=some (.str "parted") by rw[k7];exact X2 (j:=1) rfl,_g rfl hP' (_c (j:=1) rfl) (_g rfl hO' (_c (j:=1) rfl) ⟨_,rfl,few rfl,λt nt=>?_⟩)⟩⟩;exact q _ _ (.parted n1 n2 day) (s1'.trans (_q nt)) ⟨t,rfl,.of _k⟩ (.parted m1 m2 ne dlo dhi)
  ·refine⟨_,rfl,rfl,.inr ⟨_,rfl,lk,_,_,_,rfl,rfl,.of _k,show YC _ (if decide (V.int kind=V.int 7)=true then 1 else 0)=some (.str "union") by rw[Qi (λz=>k7 (V.int.inj z))];exact X2 (j:=0) rfl,_g rfl hP' (_c (j:=1) rfl) (_g rfl hO' (_c (j:=1) rfl) ⟨_,rfl,few rfl,λt nt=>?_⟩)⟩⟩;exact q _ _ (.union n1 n2 day) (s1'.trans (_q nt)) ⟨t,rfl,.of _k⟩ (.union m1 m2 ne dlo dhi)
 ·have p18:(10:Int) ^ (18:Int).toNat=10 ^ 18:=rfl;refine _g rfl hP (_c (j:=1) rfl) (_g rfl hO (_c (j:=1) rfl) ⟨_,rfl,_,_,rfl,rfl,three,_,_,rfl,rfl,cp18,_,_,rfl,rfl,(by decide:(10:Int) ^ (18:Int).toNat≠0),_,_,rfl,rfl,_,rfl,few rfl,λt nt=>?_⟩);have a0:=QP (c.fdiv 3) (show(0:Int)<10 ^ (18:Int).toNat by decide);have a1:=QY (c.fdiv 3) (show(0:Int)<10 ^ (18:Int).toNat by decide);rw[p18] at a0 a1;exact q _ _ (.given n1 n2 (1+(c.fdiv 3).fmod (10 ^ (18:Int).toNat)) day) (_q nt) ⟨t,rfl,.of _k⟩ (.given m1 m2 ne (by rw[p18];lia) (by rw[p18];lia) dlo dhi)
theorem _kG:_kb P base T:=by
 refine Fun.okY T._fR.F Ju λcdv A outer s H vs Q E hr h=>?_;obtain⟨D,l,bs,cs,rfl,hD,hR,ok,blen,hl,clen,q⟩:=h
 refine⟨_,(_n (_H 2 Ju (Y0 _e))
   (_n (YU QS rfl (YI _p) (YY 3 Ju)
    (_m (_D (_A Jv (_U YS (by rfl) T.n_len Yx (_a _f _e)) _b (_x _)) (_n (_cf (i:=4) Ju.nd rfl (Or.inr rfl) (_Z (_h3 T) hr (_a _f (_a _X _e))))
   (_m (_D (_A _hD Yo (X9 rfl (XE (N:=["_law_row","_law_entry"]) ["_law_entry"] [none,some 4] rfl (by ext) (by ext) (by rfl) (by rfl) (by rfl) (by rfl) (by rfl)) (YI _t) (λ_ _ _=>(YO (i:=0) _jY rfl (Or.inl rfl))) (λ_ _ _=>Ug) (λ_ _ _=>(_Z (_g0 T) hr (_a _f (_a _p _e))))) (by rfl)) (_m (Yl (Vx Gf GC GD VA _t (_a Yh _e)))) _F))) _F)))
   (_m (_y _t)))),?_⟩
 dsimp only[_O];refine⟨few rfl,λE' nE=>?_⟩;have sE:=_q (o:=.lst []) nE;refine⟨_,rfl,l,rfl,⟨_,sE.sql hl⟩,Wo (xs:=cs.map V.int) (λi U H2=>∃(ds:List (Ent×Addr)) (v3 v4:Option V),U=[some (.ref D),some (.ref l),some (.ref E'),v3,v4]/\Same H H2/\H2 E'=some (.lst (_v ds))/\RowsAt K H2 ds/\DOk (bs.map (·.1)) (ds.map (·.1))/\ds.length<=i/\(bs=[]->ds=[])) ?start ?list ?turn ?done⟩
 case start=>exact⟨[],none,none,rfl,sE,_k,λp hp=>(by cases hp),⟨λe he=>(by cases he),.nil⟩,Qg _,λ_=>rfl⟩
 case list =>
  rintro i U H2 _ ⟨ds,v3,v4,rfl,s2,_⟩;exact s2.sql hl
 case done =>
  rintro U H2 ⟨ds,v3,v4,rfl,s2,hE,hr2,dok,dl,hb⟩;rw[Qd] at dl;exact⟨_,rfl,q _ E' ds s2 nE hE hr2 dok dl hb⟩
 case turn =>
  rintro i y U H2 hy ⟨ds,v3,v4,rfl,s2,hE,hr2,dok,dl,hb⟩;obtain⟨c,rfl,hc⟩:=_eH hy;have il:i<cs.length:=(QK.mp hc).1;refine⟨_,rfl,D,_,rfl,.inl (s2.sql hD),_,_,rfl,rfl,_,rfl,?_⟩;rw[Yy];by_cases bz:bs=[]
  ·refine _u (Qi (by rw[bz];simp)) ⟨ds,_,_,rfl,s2,hE,hr2,dok,by lia,hb⟩
  refine _I (Ql (by have:=RF.mpr bz;lia)) ?_;refine⟨_,rfl,_,rfl,rfl,D,bs,c,rfl,s2.sql hD,hR.mono s2,ok,bz,blen,λH3 u e s3 hu hde=>?_⟩;have hE3:=s3 _ _ hE;have hr3:=hr2.mono s3;dsimp only;refine⟨_,rfl,E',rfl,⟨_,.of hE3⟩,UR ((ds.map λp=>decide (p.1.told.key=e.told.key)).map V.bl) (small1000 (by rw[Qd,Qd];lia)) (λU=>∃w,U=[w,some u]) ⟨_,rfl⟩ (λj H4 hj sm=>?go) (λH4 sm=>?stop) (λj U H4 x H5 z hz hσ sm hx C hC=>?step) (λF H4 nF sm hF=>?fin)⟩
  case go=>exact⟨_,_,sm.sql (.of hE3),Qp (by rw[Yy];rw[Qd,Qd] at hj;exact hj)⟩
  case stop=>exact⟨_,sm.sql (.of hE3),by rw[Yy,Qd,Qd];exact Qg _⟩
  case step =>
   obtain⟨w,rfl⟩:=hσ;obtain⟨rfl,hx2⟩:=hx;obtain⟨p,hp,rfl⟩:=XX (hx2 _ (sm.sql (.of hE3)));have pm:=QE hp;rw[Qv,Qv,hp] at hz;obtain rfl:V.bl (decide (p.1.told.key=e.told.key))=z:=Qt hz;refine⟨_,rfl,_,rfl,rfl,_,_,p.1,e,rfl,⟨p.2,rfl,sm.sqt (hr3 p pm)⟩,hu.mono sm,(dok.each p.1 (Qj.mpr ⟨p,pm,rfl⟩)).notBorn,hde.notBorn,λH6 s6=>hC _ _ ⟨_,rfl⟩ s6⟩
  case fin =>
   refine⟨F,_,rfl,.inl (.of hF),rfl,_lQ _,_,rfl,?_⟩;show if(!Xp (.bl true) _)=true then _ else _;rw[_lx];have s24:=s3.trans sm;have hE4:=sm _ _ hE3;by_cases m:true∈ds.map λp=>decide (p.1.told.key=e.told.key)
   ·rw[Ql m];exact _L ⟨ds,_,_,rfl,s2.trans s24,hE4,hr3.mono sm,dok,by lia,hb⟩
   ·rw[Qi m];refine _7 ⟨_,rfl,.inl ⟨rfl,_,.of hE4⟩,_,rfl,E',_,_,rfl,rfl,hE4,small1000 (by rw[Yy];lia),?_⟩;obtain⟨t,rfl,ht⟩:=hu;have er:_v ds++[V.ref t]=_v (ds++[(e,t)]):=by unfold _v;rw[Qu];rfl
    refine⟨ds++[(e,t)],_,_,rfl,_au (s2.trans s24) nE,by rw[_k,er],?_,?_,by rw[Qq];show _+1<=_;lia,λz=>absurd z bz⟩
    ·refine RowsAt.put (λp hp=>?_) hE4;rcases Qn.mp hp with hp|hp
     ·exact sm.sqt (hr3 p hp)
     ·rw[show p=(e,t) by simpa using hp];exact sm.sqt ht
    ·have em:(ds++[((e,t):Ent×Addr)]).map (·.1)=ds.map (·.1)++[e]:=by rw[Qu];rfl
     rw[em];refine⟨λx hx=>?_,?_⟩
     ·rcases Qn.mp hx with hx|hx
      ·exact dok.each x hx
      ·rw[show x=e by simpa using hx];exact hde
     ·rw[Qu,Rl];refine⟨dok.keys,by simp,λa ha b hb2 z=>?_⟩;rw[show b=e.told.key by simpa using hb2] at z;obtain⟨x,hx,ex⟩:=Qj.mp ha;obtain⟨p,hp,rfl⟩:=Qj.mp hx;exact m (Qj.mpr ⟨p,hp,Ql (ex.trans z)⟩)
theorem _kr: _hT P base T:=by
 refine Fun.okY T._cH.F _kY λcdv A outer s H vs Q E hr h=>?_;obtain⟨v,e,rfl,⟨a,rfl,hE⟩,q⟩:=h
 refine⟨_,(_n (_D (_A _S (_i _o _f _b) _z (_x _)) (_m (_y (X9 rfl (XE (N:=["_law_name"]) [] [none] rfl (by ext) (by ext) (by rfl) (by rfl) (by rfl) (by rfl) (by rfl)) (JB (Y9 VN _f (YF _b) X7)) (λ_ _ _=>(YO (i:=0) _k9 rfl (Or.inl rfl))) (λ_ _ _=>(WP (_A XN _f _z (_x _)))) (λ_ _ _=>_f)))) _F)
   (_n (_D (_A _S (_i _o _f _b) _z (_x _)) (_m (_y (Y0 (_a (_i _o _f _b) _e)))) _F)
   (_m (_y (Y0 (_a (_i _o _f _b) (_a (_i _o _f _b) _e))))))),?_⟩
 dsimp only[_O];cases e with
 |born n s d f m =>
  refine _g rfl hE (_c (j:=0) rfl) ⟨rfl,_,rfl,_I (by ext) ⟨_,rfl,_,rfl,?_⟩⟩;dsimp only[XU];refine V9 hE (λh=>absurd h.1 (show ¬(4:Nat)=0 by decide)) λH1 p s1 hp=>?_;have hp':SqT K H1 p ([f,m].map V.str):=hp;refine⟨p,rfl,⟨_,hp'⟩,WS ([f,m].map Ww) (small1000 (by simp)) (λU=>∃v,U=[v]) ⟨_,rfl⟩ (λi H2 hi sm=>?go) (λH2 sm=>?stop) (λi U H2 x H3 o ho hσ sm hx C hC=>?step) (λD H2 nD sm hD=>?fin)⟩
  case go =>
   have hi':i<([f,m].map V.str).length:=hi;exact⟨_,_,sm.sqt hp',Qp hi'⟩
  case stop=>exact⟨_,sm.sqt hp',by simp⟩
  case step =>
   obtain⟨v,rfl⟩:=hσ;obtain⟨rfl,hx⟩:=hx;have e1:=hx _ (sm.sqt hp');rw[Qv] at e1 ho;obtain⟨z,hz,rfl⟩:=Q8.mp e1;rw[hz] at ho;obtain rfl:Ww z=o:=Qt ho;refine⟨_,rfl,rfl,_,rfl,?_⟩;by_cases hz0:z=""
   ·subst hz0;exact _u (by ext) (hC _ _ ⟨_,rfl⟩ (Same.refl _))
   ·have e2:Ww z=some (.str z):=Qa hz0;rw[e2] at hC;exact _I (by rw[YH,Qi hz0];rfl) ⟨_,rfl,hC _ _ ⟨_,rfl⟩ (Same.refl _)⟩
  case fin =>
   rw[_aI] at hD;exact q _ D (s1.trans sm) (_W s1 nD) (.of hD)
 |dead n d=>exact _g rfl hE (_c (j:=0) rfl) ⟨rfl,_,rfl,_u (by ext) (_g rfl hE (_c (j:=0) rfl) ⟨rfl,_,rfl,_I (by ext) (_g rfl hE (_c (j:=1) rfl) ⟨few rfl,λD nD=>q _ D (_q nD) nD (.of _k)⟩)⟩)⟩
 |taken c t d=>exact _g rfl hE (_c (j:=0) rfl) ⟨rfl,_,rfl,_u (by ext) (_g rfl hE (_c (j:=0) rfl) ⟨rfl,_,rfl,_u (by ext) (_g rfl hE (_c (j:=1) rfl) (_g rfl hE (_c (j:=2) rfl) ⟨few rfl,λD nD=>q _ D (_q nD) nD (.of _k)⟩))⟩)⟩
 |union x y d=>exact _g rfl hE (_c (j:=0) rfl) ⟨rfl,_,rfl,_u (by ext) (_g rfl hE (_c (j:=0) rfl) ⟨rfl,_,rfl,_u (by ext) (_g rfl hE (_c (j:=1) rfl) (_g rfl hE (_c (j:=2) rfl) ⟨few rfl,λD nD=>q _ D (_q nD) nD (.of _k)⟩))⟩)⟩
 |parted x y d=>exact _g rfl hE (_c (j:=0) rfl) ⟨rfl,_,rfl,_u (by ext) (_g rfl hE (_c (j:=0) rfl) ⟨rfl,_,rfl,_u (by ext) (_g rfl hE (_c (j:=1) rfl) (_g rfl hE (_c (j:=2) rfl) ⟨few rfl,λD nD=>q _ D (_q nD) nD (.of _k)⟩))⟩)⟩
 |given x y z d=>exact _g rfl hE (_c (j:=0) rfl) ⟨rfl,_,rfl,_u (by ext) (_g rfl hE (_c (j:=0) rfl) ⟨rfl,_,rfl,_u (by ext) (_g rfl hE (_c (j:=1) rfl) (_g rfl hE (_c (j:=2) rfl) ⟨few rfl,λD nD=>q _ D (_q nD) nD (.of _k)⟩))⟩)⟩
theorem _mc: _jz P base T:=by
 refine Fun.okY T._eg.F _nR λcdv A outer s H vs Q E hr h=>?_;obtain⟨a,e,rfl,hA,q⟩:=h
 refine⟨_,(_n (_D (PW.pt (Vj (_A W2 (_i _o _f _b) (_8 (_a _z (_a _z _e))) (by rfl)) (Vq (_A _i8 (_i _o _f _b) (_i _o _f _b) (_x _))))) (_m (_y (_8 (_a (_i _o _f _b) (_a (_i _o _f _b) (_a (_i _o _f _b) (_a (_i _o _f _b) _e))))))) _F)
   (_m (_y _f))),?_⟩
 dsimp only[_O];by_cases te:e.tie=true
 ·obtain⟨x,y,d,W,r1,hW,r2,-⟩:=_bZ te;rw[r1] at hA;rw[r2] at q;refine _g rfl hA (_c (j:=0) rfl) ⟨few rfl,λt nt=>⟨t,_,rfl,.inr (.of _k),rfl,rfl,_,rfl,_I (_eW hW) ?_⟩⟩;obtain⟨H1,eH,st,-⟩:=Xv (o:=.tup [V.str "union",.str "parted"]) nt;rw[eH];have hA1:=st.sqt hA;refine _g rfl hA1 (_c (j:=2) rfl) (_g rfl hA1 (_c (j:=1) rfl) ⟨_,_,rfl,rfl,_,rfl,?_⟩);cases hc:decide (y.cps.toList<x.cps.toList) with
  |true =>
   rw[_jL hc] at q;exact _7 (_g rfl hA1 (_c (j:=0) rfl) (_g rfl hA1 (_c (j:=2) rfl) (_g rfl hA1 (_c (j:=1) rfl) (_g rfl hA1 (_c (j:=3) rfl) ⟨few rfl,λu nu=>q _ u (st.trans (_q nu)) (.of _k)⟩))))
  |false =>
   rw[_mx hc] at q;exact _L ⟨_,rfl,q _ a st hA1⟩
 ·obtain⟨k,r,hk,n1,n2⟩:=_aU te;rw[(_iN te).1] at q;rw[hk] at hA q;exact _g rfl hA (_c (j:=0) rfl) ⟨few rfl,λt nt=>⟨t,_,rfl,.inr (.of _k),rfl,rfl,_,rfl,_u (_dD n1 n2) (_L ⟨_,rfl,q _ a (_q nt) ((_q nt).sqt hA)⟩)⟩⟩
theorem _kI: _lq P base T:=by
 refine Fun.okY T._fJ.F V3 λcdv A outer s H vs Q E hr h=>?_;obtain⟨c,rfl,q⟩:=h
 refine⟨_,(_n (_H 1 V3 (_s X1 _b _b))
   (_n (_H 2 V3 (_s X1 _b _b))
   (_n (YU QS rfl (Jz (by rfl) T.n_range (_a _b _e)) (YY 3 V3)
    (_n (_H 1 V3 (_s U7 _p _p))
   (_m (_H 2 V3 (_s U7 _t _t)))))
   (_m (_y (_s U7 (_s YX (_s YX (_s Yj (_s XD _f (_s X1 _b _b)) _p) (_s Yj _f (_s X1 _b _b))) _b) _t)))))),?_⟩
 have pw:∀a b:Int,0<=b->b<=100->a.natAbs<2 ^ 64->W5 a b:=λa b h1 h2 h3=>⟨h1,by lia,h3⟩;refine⟨_,_,rfl,rfl,pw 10 50 (by decide) (by decide) (by decide),_,_,rfl,rfl,pw 10007 12 (by decide) (by decide) (by decide),?_⟩;refine⟨2,rfl,by decide,by decide,_an (λi U H'=>∃v,U=[some (.int c),some (.int (10 ^ (50*2 ^ i))),some (.int (10007 ^ (12*2 ^ i))),v]/\H'=H) ⟨_,rfl,rfl⟩ ?turn ?done⟩
 case turn =>
  rintro i U H' hi ⟨v,rfl,rfl⟩;have p2:∀(z:Int) (n i:Nat),z ^ (n*2 ^ i)*z ^ (n*2 ^ i)=z ^ (n*2 ^ (i+1)):=λz n i=>by rw[<-Int.pow_add,Nat.pow_succ,<-Nat.mul_assoc,Nat.mul_two]
  have cb:U8 (10 ^ (50*2 ^ i)) (10 ^ (50*2 ^ i))/\U8 (10007 ^ (12*2 ^ i)) (10007 ^ (12*2 ^ i)):=by
   have:i=0\/i=1:=by have:i<2:=hi;lia
   rcases this with rfl|rfl<;>exact⟨⟨by ext,by ext⟩,by ext,by ext⟩
  exact⟨_,rfl,_,rfl,_,_,rfl,rfl,cb.1,_,rfl,_,rfl,_,_,rfl,rfl,cb.2,_,by rw[p2,p2];rfl,rfl⟩
 case done =>
  rintro U H' ⟨v,rfl,rfl⟩;have f0:=QP (c.fdiv (10 ^ 30)) (show(0:Int)<10 ^ 200 by ext);have f1:=QY (c.fdiv (10 ^ 30)) (show(0:Int)<10 ^ 200 by ext);have g0:=QP c (show(0:Int)<10 ^ 30 by ext);have g1:=QY c (show(0:Int)<10 ^ 30 by ext);exact⟨_,rfl,_,_,rfl,rfl,pw 10 30 (by decide) (by decide) (by decide),_,_,rfl,rfl,⟨by ext,by ext⟩,_,rfl,_,_,rfl,rfl,(show(10:Int) ^ 200≠0 by ext),_,rfl,_,_,rfl,rfl,pw 10 30 (by decide) (by decide) (by decide),_,_,rfl,rfl,(show(10:Int) ^ 30≠0 by ext),_,_,rfl,rfl,_,_,rfl,rfl,_,rfl,_,_,rfl,rfl,⟨Rz (show((c.fdiv (10 ^ 30)).fmod (10 ^ 200)+c.fmod (10 ^ 30)+1).natAbs<=10 ^ 201 by generalize (c.fdiv (10 ^ 30)).fmod (10 ^ 200)=x at *;generalize c.fmod (10 ^ 30)=y at *;lia) (by ext),by ext⟩,q _⟩
theorem _n6: _hA P base T:=by
 refine Fun.okY T._dp.F _iK λcdv A outer s H vs Q E hr h=>?_;obtain⟨a,e,c,rfl,hA,q⟩:=h
 refine⟨_,(_n (_D (PW.pt (Vj (_A W2 (_i _o _f _b) (_8 (_a _z (_a _z _e))) (by rfl)) (Vq (_A _S (_s Yj _p _b) _b (_x _))))) (_m (_y (_8 (_a (_i _o _f _b) (_a (_i _o _f _b) (_a (_i _o _f _b) (_a (_i _o _f _b) _e))))))) _F)
   (_m (_y _f))),?_⟩
 dsimp only[_O];by_cases te:e.tie=true
 ·have q1:=q;obtain⟨x,y,d,W,r1,hW,-,r3⟩:=_bZ te;replace q1:=λH' t s h=>q1 H' t e.turn s h (.inr rfl);replace q:=λH' t s h=>q H' t e s h (.inl rfl);rw[r1] at hA;rw[r1] at q;rw[r3] at q1;refine _g rfl hA (_c (j:=0) rfl) ⟨few rfl,λt nt=>⟨t,_,rfl,.inr (.of _k),rfl,rfl,_,rfl,_I (_eW hW) ?_⟩⟩;obtain⟨H1,eH,st,-⟩:=Xv (o:=.tup [V.str "union",.str "parted"]) nt;rw[eH];have hA1:=st.sqt hA;refine⟨_,rfl,_,_,rfl,rfl,(by decide:(2:Int)≠0),rfl,_,rfl,?_⟩;by_cases hc:c.fmod 2=1
  ·exact _I (Ql (by rw[hc])) (_g rfl hA1 (_c (j:=0) rfl) (_g rfl hA1 (_c (j:=2) rfl) (_g rfl hA1 (_c (j:=1) rfl) (_g rfl hA1 (_c (j:=3) rfl) ⟨few rfl,λu nu=>q1 _ u (st.trans (_q nu)) (.of _k)⟩))))
  ·exact _u (Qi λz=>hc (V.int.inj z)) ⟨_,rfl,q _ a st hA1⟩
 ·obtain⟨k,r,hk,n1,n2⟩:=_aU te;replace q:=λH' t s h=>q H' t e s h (.inl rfl);rw[hk] at hA q;exact _g rfl hA (_c (j:=0) rfl) ⟨few rfl,λt nt=>⟨t,_,rfl,.inr (.of _k),rfl,rfl,_,rfl,_u (_dD n1 n2) (_L ⟨_,rfl,q _ a (_q nt) ((_q nt).sqt hA)⟩)⟩⟩
theorem _jt:_h9 P base T:=by
 refine Fun.okY T._fu.F Uv λcdv A outer s H vs Q E hr h=>?_;obtain⟨l,R,ns,ks,rfl,hl,hR,hA,kl,q⟩:=h
 refine⟨_,(_n (_H 2 Uv (Y0 _e))
   (_n (_H 3 Uv (_Z (_kI T) hr (_a (_Z (_cw T) hr (_a _f (_a _b _e))) _e)))
   (_n (YU QS rfl (YI _p) (YY 4 Uv)
    (_n (Yl (Vx Gf Mx PySem.F.type_list_insert _nd _t (_a (_s Yj (_s XD _X _b) (_s YX (_U YS (by rfl) T.n_len Yx (_a _t _e)) _b)) (_a (_Z (_n6 T) hr (_a Yh (_a _X _e))) _e))))
   (_m (_H 3 Uv (_s XD _X (_s Xq _b (_U YS (by rfl) T.n_len Yx (_a _t _e))))))))
   (_m (_y _t))))),?_⟩
 dsimp only[_O];refine⟨few rfl,λD nD=>?_⟩;obtain⟨H1,eH,s1,hD1⟩:=Xv (o:=.lst []) nD;rw[eH];have zd:∀n:Int,1<=n->n<=1000->n≠0/\n.natAbs<2 ^ 1000:=λn h1 h2=>⟨by lia,Rz (show n.natAbs<=1000 by lia) (by ext)⟩;refine⟨_,rfl,rfl,l,ns,0,rfl,s1.sql hl,by decide,λz=>⟨rfl,z,rfl,λw=>?_⟩⟩;refine⟨_,rfl,R,rfl,⟨_,s1.sql hR⟩,Wo (xs:=_v ks) (λi U H2=>∃(os:List (Ent×Addr)) (w:Int) (v4:Option V),U=[some (.ref l),some (.ref R),some (.ref D),some (.int w),v4]/\Same H H2/\H2 D=some (.lst (_v os))/\RowsAt K H2 os/\Ord9 (ks.take i) os) ⟨[],w,none,rfl,s1,hD1,(λp hp=>by cases hp),.nil⟩ ?sq ?turn ?done⟩
 case sq =>
  rintro i U H2 hi ⟨os,w,v4,rfl,s2,_⟩;exact s2.sql hR
 case done =>
  rintro U H2 ⟨os,w,v4,rfl,s2,hD,hO,or⟩;rw[show(_v ks).length=ks.length from Qd ..,RE] at or;exact⟨_,rfl,q H2 D os s2 nD hD hO or⟩
 case turn =>
  rintro i x U H2 hx ⟨os,w,v4,rfl,s2,hD,hO,or⟩;obtain⟨⟨e,a⟩,hi,rfl⟩:=_eX hx;have ha:=s2.sqt (hA _ (QE hi));have ol:=or.len;have tl:(ks.take i).length<=ks.length:=List.length_take_le' ..;have rl:(_v os).length=os.length:=Qd ..;have m0:=QP (w.fdiv 2) (show(0:Int)<((_v os).length:Int)+1 by lia);have m1:=QY (w.fdiv 2) (show(0:Int)<((_v os).length:Int)+1 by lia);refine⟨_,rfl,.inl ⟨rfl,_,.of hD⟩,_,rfl,_,_,rfl,rfl,zd 2 (by decide) (by decide),_,rfl,D,_,rfl,.inl (.of hD),_,_,rfl,rfl,_,_,rfl,rfl,(show((_v os).length:Int)+1≠0 by lia),_,rfl,_,rfl,rfl,a,e,w,rfl,ha,λH3 t e' s3 ht et=>?_⟩;generalize (w.fdiv 2).fmod (((_v os).length:Int)+1)=k at *;have hD3:=s3 _ _ hD;refine⟨D,_,k,_,rfl,rfl,hD3,m0,by lia,by lia,?_⟩
  have er:(_v os).take k.toNat++V.ref t::(_v os).drop k.toNat=_v (os.take k.toNat++(e',t)::os.drop k.toNat):=by
   unfold _v;rw[Qu,Qm,Na,Mh]
  rw[er];have s4:=_au (s2.trans s3) nD (o:=.lst (_v (os.take k.toNat++(e',t)::os.drop k.toNat)))
  have hO4:RowsAt K (_d H3 D (.lst (_v (os.take k.toNat++(e',t)::os.drop k.toNat)))) (os.take k.toNat++(e',t)::os.drop k.toNat):=λp hp=>XB (by
   rcases Qn.mp hp with h|h
   ·exact s3.sqt (hO p (Gy h))
   ·rcases Qk.mp h with rfl|h
    ·exact ht
    ·exact s3.sqt (hO p (G0 h))) hD3 (λ_ z=>by cases z) (λ_ _ z=>by cases z)
  have or4:=or.put (k:=k.toNat) (t:=t) (a:=a) et;rw[<-UA hi] at or4;have l4:=or4.len;have tl4:(ks.take (i+1)).length<=ks.length:=List.length_take_le' ..;generalize os.take k.toNat++(e',t)::os.drop k.toNat=os4 at *;have hD4:(_d H3 D (.lst (_v os4))) D=some (.lst (_v os4)):=_k;generalize _d H3 D (.lst (_v os4))=H4 at *;have rl4:(_v os4).length=os4.length:=Qd ..;have ht1:=QU (i:=i+1) (l:=ks);have il:=(QK.mp hi).1;refine⟨_,rfl,_,rfl,D,_,rfl,.inl (.of hD4),_,_,rfl,rfl,.inl ⟨by decide,by decide⟩,_,_,rfl,rfl,zd (2*((_v os4).length:Int)) (by lia) (by lia),?_⟩;exact⟨os4,_,_,rfl,s4,hD4,hO4,or4⟩
theorem _ed:_ne P base T:=by
 refine Fun.okY T._dn.F _bh λcdv A outer s H vs Q E hr h=>?_;obtain⟨b,dx,k,bi,li,ti,su,B,x,e,rfl,hB,hx,ok,nf,qe,qn⟩:=h
 refine⟨_,(_n (_H 2 _bh _z)
   (_n (_jW rfl rfl (by rfl) T.m_NoPerson T.x_NoPerson EBb (λpins W E hE=>(_m (Yl (WJ _f T.lB_ T.J2.me (_eT T) (hr.mono (by decide)) T.J2.b .nil hE (_a _p _e))))) (λpins e=>(_m (_H 2 _bh _z))))
   (_m (_y _t)))),?_⟩
 exact⟨_,rfl,b,dx,_,rfl,hB.ob,rfl,_,rfl,rfl,b,dx,k,bi,li,ti,su,B,x,e,rfl,hB,hx,ok,nf,λh H' s=>⟨rfl,λe ne=>⟨_,rfl,qe h _ (s.trans (_q ne))⟩⟩,λkn=>⟨(qn kn).1,(qn kn).2.1,λH' B' y h1 h2 h3 h4 h5 h6=>⟨_,rfl,(qn kn).2.2 H' B' y h1 h2 h3 h4 h5 h6⟩⟩⟩
theorem _lN:_kd P base T:=by
 refine Fun.okY T._dx.F WR λcdv A outer s H vs Q E hr h=>?_;obtain⟨b,dx,k,bi,li,ti,su,l,es,os,pool,Hs,rfl,hB,hl,hR,fl,f0,hok,ol,sm,fr,q⟩:=h
 refine⟨_,(_n (_H 2 WR (_mm (_iW _z Yo _kt) rfl rfl (by simp) (by decide)))
   (_n (_H 3 WR _p)
   (_n (_i6 QS (_A Jv (_U YS (by rfl) T.n_len Yx (_a _X _e)) _b (_x _)) (_n (_H 4 WR (Y0 _e))
   (_n (YU QS rfl (YI _X) (YY 5 WR)
    (_n (_H 6 WR _z)
   (_n (YU QS rfl (YI (_Z (_kr T) hr (_a Yw _e))) (YY 7 WR)
    (_m (_D (_bN (_fj (YN hr) Wb _t)) (_m (_H 6 WR _z)) _F)))
   (_n (_D (_A XN (_Z (_ed T) hr (_a _f (_a Yw _e))) Xo (_x _)) (_m (_y Yo)) _F)
   (_m (_D (_A _S Xo _z (_x _)) (_m (Yl (Vx Gf GC GD VA Yh (_a Yw _e)))) (_m (_D (_A _S (_i _o Yw _b) _z (_x _)) (_m (VC (YN hr) _t (_i _o Yw _b) Yo rfl)) _F))))))))
   (_m (_H 3 WR Yh)))))
   (_m (_y Yo))))),?_⟩
 dsimp only[_O];intro th nth;refine⟨_k,[(.inr "",.bl true)],rfl,by decide,?_⟩;have s1:Same H (_d (_d H th (.dK [])) th (.dK (W7 [] [(.inr "",.bl true)]))):=λc u e=>by rw[_l (_P e nth),_l (_P e nth)];exact e
 have h1:(_d (_d H th (.dK [])) th (.dK (W7 [] [(.inr "",.bl true)]))) th=some (.dK [(.inr "",.bl true)]):=_k;generalize _d (_d H th (.dK [])) th (.dK (W7 [] [(.inr "",.bl true)]))=H1 at *;have p0:Hp9 K T.cB Hs H1 b dx k bi li ti su th _Y:=⟨hB.mono s1,⟨_,h1,Qg _,(λn n0=>by show(_K (Yi [] (.inr "" : _j) (.bl true)) (.inr n)).isSome=false;rw[_fZ,Qa λz=>n0 (QT z)];rfl)⟩,(λm=>by rcases hB.dicts th m with⟨w,z⟩|⟨w,z⟩<;>rw[nth] at z<;>cases z),_W sm nth,sm.trans s1,fr⟩;refine⟨_,rfl,λm U H2=>∃(B:Bk) (ls:List (Ent×Addr)) (lf:Addr) (v4 v5 v6 v7:Option V),U=[some (.ref b),some (.ref l),some (.ref th),some (.ref lf),v4,v5,v6,v7]/\m=ls.length/\Hp9 K T.cB Hs H2 b dx k bi li ti su th B/\Fs9 pool es B ls/\(∀p∈ls,p∈os)/\ls.length<=100/\H2 lf=some (.lst (_v ls)),⟨os.length,_Y,os,l,none,none,none,none,rfl,rfl,p0,f0,λ_ h=>h,ol,(sm.trans s1) _ _ hl⟩,?_⟩;rintro m U H2 ⟨B0,ls,lf,v4,v5,v6,v7,rfl,rfl,hp,fs,sub,l100,hls⟩;have rl:(_v ls).length=ls.length:=Qd ..;refine⟨_,rfl,lf,_,rfl,.inl (.of hls),_,_,rfl,rfl,_,rfl,?_⟩;rw[rl];by_cases l0:ls.length=0
 ·obtain rfl:=MB l0;exact _u (by rfl) (q H2 B0 hp.bk fs hp.sm hp.fr)
 refine _I (Ql (by lia)) ⟨λσ' H'=>∃(B:Bk) (late:List (Ent×Addr)) (lt:Addr) (v5 v6 v7:Option V),σ'=[some (.ref b),some (.ref l),some (.ref th),some (.ref lt),some (.ref lt),v5,v6,v7]/\late.length<ls.length/\Hp9 K T.cB Hs H' b dx k bi li ti su th B/\Fs9 pool es B late/\(∀p∈late,p∈os)/\H' lt=some (.lst (_v late)),?_,few rfl,λlt nlt=>?_⟩
 ·rintro σ' H' ⟨B,late,lt,v5,v6,v7,rfl,ll,h1,h2,h3,h4⟩;exact⟨_,ll,B,late,lt,_,_,_,_,rfl,rfl,h1,h2,h3,by lia,h4⟩
 obtain⟨H3,eH,s3,hlt⟩:=Xv (o:=.lst []) nlt;rw[eH];have ne:lf≠lt:=_P hls nlt;refine⟨_,rfl,lf,rfl,⟨_,.of (s3 _ _ hls)⟩,Wo (xs:=_v ls) (λi U H4=>∃(B:Bk) (late:List (Ent×Addr)) (v5 v6 v7:Option V),U=[some (.ref b),some (.ref l),some (.ref th),some (.ref lf),some (.ref lt),v5,v6,v7]/\Pa9 K T.cB Hs H4 b dx k bi li ti su th lf lt pool es os ls B0 i B late) ⟨B0,[],_,_,_,rfl,hp.same s3,fs,(λp h=>by cases h),(λq hq=>_P (hp.bk.ll q hq) nlt),s3 _ _ hls,hlt,Qg _,.inr ⟨rfl,rfl,λp h=>by cases h⟩⟩ ?sq ?turn ?done⟩
 case sq =>
  rintro i U H4 hi ⟨B,late,v5,v6,v7,rfl,pa⟩;exact .of pa.hf
 case done =>
  rintro U H4 ⟨B,late,v5,v6,v7,rfl,pa⟩;rw[rl] at pa;have h2:=pa.fs;rw[List.drop_length,Q1] at h2
  have lt2:late.length<ls.length:=by
   rcases pa.pg with z|⟨z1,z2,z3⟩
   ·exact z
   rw[RE] at z2;subst z2;have:=h2.stuck fl (by rw[z1];exact z3);rw[this] at l0;exact absurd rfl l0
  exact⟨_,rfl,B,late,lt,_,_,_,rfl,lt2,pa.hp,h2,pa.sub,pa.ht⟩
 case turn =>
  rintro i x U H4 hx ⟨B,late,v5,v6,v7,rfl,hp4,fs4,sub4,nl4,hlf,hlt4,li4,pg⟩;obtain⟨⟨e,a⟩,hi,rfl⟩:=_eX hx;obtain⟨il,ei⟩:=QK.mp hi;rw[GY il,ei] at fs4;have me:=sub _ (QE hi);obtain⟨ok,nne⟩:=hok _ me;have ha:=hp4.sm.sqt (hR _ me)
  let A:A9->Bool:=λns=>ns.all λn=>(_Q n B.kept).isSome
  let W:Bool->Str:=λt=>if t=true then "in" else "nobody"
  refine⟨_,rfl,rfl,.ref a,e,rfl,⟨a,rfl,ha⟩,λH5 D s5 nD hD=>⟨D,rfl,⟨_,hD⟩,Wo (xs:=e.named.map V.str) (λj U H6=>∃v7:Option V,U=[some (.ref b),some (.ref l),some (.ref th),some (.ref lf),some (.ref lt),some (.ref a),some (.str (W (A (e.named.take j)))),v7]/\Same H5 H6) ⟨_,rfl,Same.refl _⟩ ?sq2 ?turn2 ?done2⟩⟩
  case sq2 =>
   rintro j U H6 hj ⟨v7,rfl,s6⟩;exact s6.sql hD
  case turn2 =>
   rintro j x U H6 hx ⟨v7,rfl,s6⟩;rw[Qv] at hx;obtain⟨n,hn,rfl⟩:=Q8.mp hx;obtain⟨kvs,k1,k2,k3⟩:=hp4.ts
   have tA:A (e.named.take (j+1))=(A (e.named.take j)&&(_Q n B.kept).isSome):=by
    show List.all _ _=_;rw[UA hn,List.all_append,Gm,List.all_nil,NV]
   refine⟨_,rfl,_,rfl,th,_,rfl,DGet.k (k:=.inr n) ((s5.trans s6) _ _ k1),_,rfl,?_⟩;rw[k3 n (nne n (QE hn))];rw[tA];cases(_Q n B.kept).isSome with
   |true=>exact _u rfl ⟨_,by rw[NV];rfl,s6⟩
   |false=>exact _I rfl ⟨_,by rw[GO];rfl,s6⟩
  case done2 =>
   rintro U H6 ⟨v7,rfl,s6⟩;rw[Qd,RE];have s46:=s5.trans s6;have hp6:=hp4.same s46;have ha6:=s46.sqt ha;have sub5:∀p∈late++[(e,a)],p∈os:=λp hp=>(Qn.mp hp).elim (sub4 p) λh=>by rw[Qz.mp h];exact me
   refine⟨_,rfl,_,rfl,rfl,b,dx,k,bi,li,ti,su,B,.ref a,e,rfl,hp6.bk,⟨a,rfl,ha6⟩,ok,(fs4.cnt fl).full e,?nob,?ins⟩
   case nob =>
    rintro⟨n,hn,z⟩ H7 s7;have fa:A e.named=false:=List.all_eq_false.mpr ⟨n,hn,by rw[z];decide⟩;rw[fa];have s47:=s46.trans s7;have hlt7:=s47 _ _ hlt4;refine⟨_,rfl,rfl,_,rfl,_u (by ext) ⟨_,rfl,rfl,_,rfl,_I (by ext) ⟨_,rfl,.inl ⟨rfl,_,.of hlt7⟩,_,rfl,lt,_,_,rfl,rfl,hlt7,small1000 (by rw[show(_v late).length=late.length from Qd ..];lia),?_⟩⟩⟩;have er:_v late++[V.ref a]=_v (late++[(e,a)]):=by unfold _v;rw[Qu];rfl
    rw[er];refine⟨B,late++[(e,a)],_,_,_,rfl,(hp4.same s47).lst hlt7 nl4 (_W hp.sm nlt),fs4.late,sub5,nl4,(_l ne).trans (s47 _ _ hlf),_k,by rw[Qq];show late.length+1<=_;lia,?_⟩;rcases pg with z|⟨z1,z2,z3⟩
    ·exact .inl (by rw[Qq];show late.length+1<_;lia)
    ·refine .inr ⟨z1,by rw[UA hi,z2],λp hp=>?_⟩;rcases Qn.mp hp with h|h
     ·exact z3 p h
     ·rw[Qz.mp h];exact⟨n,hn,by rw[<-z1];exact z⟩
   case ins =>
    intro kn;have tr:A e.named=true:=_bf kn;obtain⟨nr,rm,nx⟩:=fs4.into fl ok kn;rw[tr];refine⟨nr,rm,λH7 B7 y hB7 pt bt hy gr grT=>⟨_,rfl,rfl,_,rfl,_u (by ext) ⟨_,rfl,rfl,_,rfl,_u (by ext) ?_⟩⟩⟩;obtain⟨kvs,k1,k2,k3,k4⟩:=hp6.put hB7 pt bt hy grT;have nl7:=gr.off nl4 (s46 _ _ hlt4);have hlf7:=hp6.list bt hy grT (s46 _ _ hlf);have hlt7:=hp6.list bt hy grT (s46 _ _ hlt4);have ha7:=hp6.row bt hy grT ha6;have f7:=nx B7 pt;have go:∀H8,Hp9 K T.cB Hs H8 b dx k bi li ti su th B7->H8 lf=some (.lst (_v ls))->H8 lt=some (.lst (_v late))->Pa9 K T.cB Hs H8 b dx k bi li ti su th lf lt pool es os ls B0 (i+1) B7 late:=λH8 h8 h9 h10=>⟨h8,f7,sub4,nl7,h9,h10,by lia,.inl (by lia)⟩;cases he:e with
    |born n s d f m =>
     rw[he] at ha7;refine _g rfl ha7 (_c (j:=0) rfl) ⟨rfl,_,rfl,_I (by ext) ⟨_,rfl,_g rfl ha7 (_c (j:=1) rfl) ⟨th,_,rfl,DPut.k (k:=.inr n) k1 (small1000 (by have:=WV (B.kept.map (·.1));have:=(fs4.cnt fl).b;have:=(fs4.cnt fl).d;rw[Qd] at *;lia)),B7,late,_,_,_,rfl,go _ (k4 n s d f m he) ?_ ?_⟩⟩⟩
     ·exact(_l λz=>by rw[z,k1] at hlf7;cases hlf7).trans hlf7
     ·exact(_l λz=>by rw[z,k1] at hlt7;cases hlt7).trans hlt7
    |_ =>
     rw[he] at ha7;exact _g rfl ha7 (_c (j:=0) rfl) ⟨rfl,_,rfl,_u (by ext) ⟨B7,late,_,_,_,rfl,go _ (k3 (by rw[he];rfl)) hlf7 hlt7⟩⟩
theorem _it:_g9 P base T:=by
 refine Fun.okY T._cd.F _e1 λcdv A outer s H vs Q E hr h=>?_;obtain⟨v,w,a,B,B2,n,s,d,f,m,rfl,hv,hw,hA,al,q⟩:=h
 refine⟨_,(_n (YU QS rfl (_dc _z) (YY 3 _e1)
    (_m (_D (_A (UP hr.units) (_V _f T.lB_ (U6 T) hr (_a _X (_a (_i _o _t _b) _e))) (_V _p T.lB_ (U6 T) hr (_a _X (_a (_i _o _t _b) _e))) (_x _)) (_m (_y Yo)) _F)))
   (_n (_D (PW.pt (Xz (_A XN (_V _f T.lB_ (_aV T) hr (_a (_i _o _t _b) _e)) (_V _p T.lB_ (_aV T) hr (_a (_i _o _t _b) _e)) (_x _)) (Wt (_A XN (_V _f T.lB_ (VH T) hr (_a (_i _o _t _b) _e)) (_V _p T.lB_ (VH T) hr (_a (_i _o _t _b) _e)) (_x _))))) (_m (_y Yo)) _F)
   (_m (_y (Yp _S (_V _f T.lB_ (_aP T) hr (_a (_i _o _t _b) _e)) (_V _p T.lB_ (_aP T) hr (_a (_i _o _t _b) _e)) (_x _)))))),?_⟩
 dsimp only[_O];obtain⟨b,dx,k,bi,li,ti,su,rfl,hB⟩:=id hv;obtain⟨b',dx',k',bi',li',ti',su',rfl,hB'⟩:=id hw;refine⟨_,rfl,_mO (λi U H2=>∃v3,U=[some (.ref b),some (.ref b'),some (.ref a),v3]/\Same H H2) ⟨none,rfl,Same.refl _⟩ ?turn ?done⟩
 case turn =>
  rintro j x U H3 hj ⟨c,hc,rfl⟩ ⟨v3,rfl,s3⟩;have hl:=_hs (z:="FTmSfMt") (by ext) hc;generalize (⟨#[c]⟩:Str)=l at *;refine⟨_,rfl,b,dx,_,rfl,(s3 _ _ hB.ob),rfl,_,rfl,_g rfl ((s3.sqt hA)) (_c (j:=1) rfl) ⟨rfl,.ref b,.str l,.str n,B,rfl,hv.mono s3,.inr ⟨l,rfl,λz=>absurd ((Ql hl).symm.trans z) (by decide),λ_=>.inr ⟨n,rfl,λno=>absurd no al.kn,λ_ H4 D4 s4 nD4 hD4=>?_⟩⟩⟩⟩;have s34:=s3.trans s4;refine⟨_,rfl,b',dx',_,rfl,(s34 _ _ hB'.ob),rfl,_,rfl,_g rfl ((s34.sqt hA)) (_c (j:=1) rfl) ⟨rfl,.ref b',.str l,.str n,B2,rfl,hw.mono s34,.inr ⟨l,rfl,λz=>absurd ((Ql hl).symm.trans z) (by decide),λ_=>.inr ⟨n,rfl,λno=>absurd no al.kn',λ_ H5 D5 s5 nD5 hD5=>?_⟩⟩⟩⟩;exact⟨D4,D5,Yc B l n,rfl,rfl,.of (s5 _ _ hD4),.of (by rw[al.lk];exact hD5),_,rfl,_u rfl ⟨_,rfl,s34.trans s5⟩⟩
 case done =>
  rintro U H2 ⟨v3,rfl,s2⟩;refine⟨_,rfl,b,dx,_,rfl,(s2 _ _ hB.ob),rfl,_g rfl ((s2.sqt hA)) (_c (j:=1) rfl) ⟨rfl,.ref b,.str n,B,rfl,hv.mono s2,.inr ⟨n,rfl,λno=>absurd no al.kn,λp hp n1 s1 d1 f1 m1 e1=>?_⟩⟩⟩;refine⟨_,rfl,b',dx',_,rfl,(s2 _ _ hB'.ob),rfl,_g rfl ((s2.sqt hA)) (_c (j:=1) rfl) ⟨rfl,.ref b',.str n,B2,rfl,hw.mono s2,.inr ⟨n,rfl,λno=>absurd no al.kn',λp' hp' n2 s2' d2 f2 m2 e2=>?_⟩⟩⟩;rw[(_aw hp e1).1,(_aw hp' e2).1,al.so];refine⟨rfl,_,rfl,_u (by rw[Ql rfl];rfl) ?_⟩;clear hp e1 hp' e2;refine⟨_,rfl,b,dx,_,rfl,(s2 _ _ hB.ob),rfl,_g rfl ((s2.sqt hA)) (_c (j:=1) rfl) ⟨rfl,.ref b,.str n,B,rfl,hv.mono s2,.inr ⟨n,rfl,λno=>absurd no al.kn,λp hp n1 s1 d1 f1 m1 e1=>?_⟩⟩⟩;refine⟨_,rfl,b',dx',_,rfl,(s2 _ _ hB'.ob),rfl,_g rfl ((s2.sqt hA)) (_c (j:=1) rfl) ⟨rfl,.ref b',.str n,B2,rfl,hw.mono s2,.inr ⟨n,rfl,λno=>absurd no al.kn',λp' hp' n2 s2' d2 f2 m2 e2=>?_⟩⟩⟩;rw[(_aw hp e1).2,(_aw hp' e2).2,al.da];refine⟨rfl,_,rfl,_u (by rw[Ql rfl];rfl) ?_⟩;refine⟨_,rfl,b,dx,_,rfl,(s2 _ _ hB.ob),rfl,_g rfl ((s2.sqt hA)) (_c (j:=1) rfl) ⟨rfl,.ref b,n,B,rfl,hv.mono s2,al.kn,λH4 s4=>?_⟩⟩;have s24:=s2.trans s4;refine⟨_,rfl,b',dx',_,rfl,(s24 _ _ hB'.ob),rfl,_g rfl ((s24.sqt hA)) (_c (j:=1) rfl) ⟨rfl,.ref b',n,B2,rfl,hw.mono s24,al.kn',λH5 s5=>?_⟩⟩;rw[al.de];refine⟨_lL _ _,?_⟩;rw[Ql rfl];exact q _ (s24.trans s5)
theorem _jH:_kD P base T:=by
 refine Fun.okY T._dO.F _lo λcdv A outer s H vs Q E hr h=>?_;obtain⟨v,w,a,B,B2,e,rfl,hv,hw,hA,tw,q⟩:=h
 refine⟨_,(_n (_D (_A W2 (_i _o _t _b) (_8 (_a _z (_a _z _e))) (by rfl)) (_m (_y Yo)) _F)
   (_n (_D (_A XN (WJ _f T.lB_ T.me_Book_stands (UJ T) (hr.mono (by decide)) T.b3_Book_stands .nil YV (_a (_i _o _t _b) (_a (_i _o _t _b) (_a (_i _o _t _b) _e)))) (WJ _p T.lB_ T.me_Book_stands (UJ T) (hr.mono (by decide)) T.b3_Book_stands .nil YV (_a (_i _o _t _b) (_a (_i _o _t _b) (_a (_i _o _t _b) _e)))) (_x _)) (_m (_y Yo)) _F)
   (_n (_D (_A XN (WJ _f T.lB_ T.me_Book_stands (UJ T) (hr.mono (by decide)) T.b_Book_stands (.cons (show RelV V.non Value.none from rfl) .nil) YV (_a (_i _o _t _b) (_a (_i _o _t _b) _e))) (WJ _p T.lB_ T.me_Book_stands (UJ T) (hr.mono (by decide)) T.b_Book_stands (.cons (show RelV V.non Value.none from rfl) .nil) YV (_a (_i _o _t _b) (_a (_i _o _t _b) _e))) (_x _)) (_m (_y Yo)) _F)
   (_m (_y (Yp _S (_V _f T.lB_ (_fc T) hr (_a (_i _o _t _b) (_a (_i _o _t _b) _e))) (_V _p T.lB_ (_fc T) hr (_a (_i _o _t _b) (_a (_i _o _t _b) _e))) (_x _))))))),?_⟩
 dsimp only[_O];obtain⟨b,dx,k,bi,li,ti,su,rfl,hB⟩:=id hv;obtain⟨b',dx',k',bi',li',ti',su',rfl,hB'⟩:=id hw
 have one:e.isBorn=true\/e.kw="dead"\/(e.isBorn=false/\e.kw≠"dead"):=by
  by_cases h1:e.isBorn=true
  ·exact .inl h1
  ·by_cases h2:e.kw="dead"
   ·exact .inr (.inl h2)
   ·exact .inr (.inr ⟨Bool.not_eq_true _▸h1,h2⟩)
 rcases one with h|h|⟨h1,h2⟩
 ·cases e with
  |born n s d f m=>exact _g rfl hA (_c (j:=0) rfl) ⟨few rfl,λt nt=>⟨t,_,rfl,.inr (.of _k),rfl,rfl,_,rfl,_I (by ext) (q _ (_q nt))⟩⟩
  |_=>cases h
 ·cases e with
  |dead n d=>exact _g rfl hA (_c (j:=0) rfl) ⟨few rfl,λt nt=>⟨t,_,rfl,.inr (.of _k),rfl,rfl,_,rfl,_I (by ext) (q _ (_q nt))⟩⟩
  |_=>exact absurd h (by simp only[Ent.kw];ext)
 obtain⟨W,x,y,z,r,hr,w1,w2,nm⟩:=_lK h1 h2;have u9:=tw x y nm;rw[hr] at hA;refine _g rfl hA (_c (j:=0) rfl) ⟨few rfl,λt nt=>⟨t,_,rfl,.inr (.of _k),rfl,rfl,_,rfl,_u ((JK W ["dead","born"]).trans (Qi (by simp[w1,w2]))) ?_⟩⟩;obtain⟨H1,eH,s1,-⟩:=Xv (o:=.tup [V.str "dead",.str "born"]) nt;rw[eH];refine⟨_,rfl,b,dx,_,rfl,(s1 _ _ hB.ob),rfl,_g rfl ((s1.sqt hA)) (_c (j:=1) rfl) (_g rfl ((s1.sqt hA)) (_c (j:=2) rfl) (_g rfl ((s1.sqt hA)) (_c (j:=3) rfl) ⟨rfl,.ref b,x,y,.int z,B,rfl,.inr ⟨_,rfl⟩,hv.mono s1,u9.kx,u9.ky,Qs (u9.ln _) (by decide),λH2 s2=>?_⟩))⟩;have s12:=s1.trans s2;refine⟨_,rfl,b',dx',_,rfl,(s12 _ _ hB'.ob),rfl,_g rfl ((s12.sqt hA)) (_c (j:=2) rfl) (_g rfl ((s12.sqt hA)) (_c (j:=1) rfl) (_g rfl ((s12.sqt hA)) (_c (j:=3) rfl) ⟨rfl,.ref b',y,x,.int z,B2,rfl,.inr ⟨_,rfl⟩,hw.mono s12,u9.ky',u9.kx',Qs (u9.ln' _) (by decide),λH3 s3=>?_⟩))⟩;have s13:=s12.trans s3;refine⟨rfl,_,rfl,_u (by rw[u9.st,_aS B2,Ql rfl];rfl) ?_⟩;refine⟨_,rfl,b,dx,_,rfl,(s13 _ _ hB.ob),rfl,_g rfl ((s13.sqt hA)) (_c (j:=2) rfl) (_g rfl ((s13.sqt hA)) (_c (j:=1) rfl) ⟨rfl,.ref b,y,x,.non,B,rfl,.inl rfl,hv.mono s13,u9.ky,u9.kx,Qs (u9.ln _) (by decide),λH4 s4=>?_⟩)⟩;have s14:=s13.trans s4;refine⟨_,rfl,b',dx',_,rfl,(s14 _ _ hB'.ob),rfl,_g rfl ((s14.sqt hA)) (_c (j:=2) rfl) (_g rfl ((s14.sqt hA)) (_c (j:=1) rfl) ⟨rfl,.ref b',y,x,.non,B2,rfl,.inl rfl,hw.mono s14,u9.ky',u9.kx',Qs (u9.ln' _) (by decide),λH5 s5=>?_⟩)⟩;have s15:=s14.trans s5;refine⟨rfl,_,rfl,_u (by rw[_aS B,u9.st,_aS B2,Ql rfl];rfl) ?_⟩;refine⟨_,rfl,b,dx,_,rfl,(s15 _ _ hB.ob),rfl,_g rfl ((s15.sqt hA)) (_c (j:=1) rfl) (_g rfl ((s15.sqt hA)) (_c (j:=2) rfl) ⟨rfl,.ref b,x,y,B,rfl,hv.mono s15,u9.kx,u9.ky,λH6 s6=>?_⟩)⟩;have s16:=s15.trans s6;refine⟨_,rfl,b',dx',_,rfl,(s16 _ _ hB'.ob),rfl,_g rfl ((s16.sqt hA)) (_c (j:=1) rfl) (_g rfl ((s16.sqt hA)) (_c (j:=2) rfl) ⟨rfl,.ref b',x,y,B2,rfl,hw.mono s16,u9.kx',u9.ky',λH7 s7=>?_⟩)⟩;refine⟨rfl,?_⟩;rw[u9.su,Ql rfl];exact q _ (s16.trans s7)
theorem _gD: _lz P base T:=by
 refine Fun.okY T._c8.F _jA λcdv A outer s H vs Q E hr h=>?_;obtain⟨a,e,rfl,hA,q⟩:=h
 refine⟨_,(_n (_D (_A _S (_i _o _f _b) _z (_x _)) (_m (_y (_i _o _f _b))) _F)
   (_m (_y (_i _o _f (_s VY (_U YS (by rfl) T.n_len Yx (_a _f _e)) _b))))),?_⟩
 cases e with
 |born n s d f m=>exact _g rfl hA (_c (j:=0) rfl) ⟨rfl,_,rfl,_I (by ext) (_g rfl hA (_c (j:=3) rfl) q)⟩
 |_=>exact _g rfl hA (_c (j:=0) rfl) ⟨rfl,_,rfl,_u (by ext) ⟨_,rfl,_,rfl,a,_,rfl,.inr hA,_,_,rfl,rfl,a,_,_,_,rfl,rfl,hA,rfl,q⟩⟩
theorem _ek:_gU P base T:=by
 refine Fun.okY T._e0.F Vz λcdv A outer s H vs Q E hr h=>?_;obtain⟨v,B,D,d,us,pool,rfl,hv,hD,hR,ul,ud,n0,q⟩:=h
 refine⟨_,(_n (_ag (i:=3) rfl  Vz.nd rfl (Or.inl rfl) (XE (N:=["_law_row","_law_day_here"]) ["_law_day_here"] [none,some 2] rfl (by ext) (by ext) (by rfl) (by rfl) (by rfl) (by rfl) (by rfl)) (YI _p) (λ_ _ _=>(YO (i:=0) _id rfl (Or.inl rfl))) (λ_ _ _=>(WP (_A Uq (_Z (_gD T) hr (_a _f _e)) _p (_x _)))) (λ_ _ _=>_f))
   (_n (_ag (i:=4) rfl  Vz.nd rfl (Or.inl rfl) (XE (N:=["_law_row"]) [] [none] rfl (by ext) (by ext) (by rfl) (by rfl) (by rfl) (by rfl) (by rfl)) (YI _X) (λ_ _ _=>(YO (i:=0) _bw rfl (Or.inl rfl))) (λ_ _ _=>(WP (_A _S (_i (XH K rfl) _f _b) _z (_x _)))) (λ_ _ _=>_f))
   (_n (_D (PW.pt (Xz (_A (_ak hr.units) (VB _f T.lB_ T.Wn.me (J3 T) (hr.mono (by decide)) T.Wn.b .nil YV) _X (_x _)) (Wt (_A (UP hr.units) (VB _f T.lB_ T.W4.me (_bK T) (hr.mono (by decide)) T.W4.b .nil YV) (X9 rfl (XE (N:=["_law_row"]) [] [none] rfl (by ext) (by ext) (by rfl) (by rfl) (by rfl) (by rfl) (by rfl)) (YI Yh) (λ_ _ _=>(YO (i:=0) _bw rfl (Or.inl rfl))) (λ_ _ _=>Ug) (λ_ _ _=>(_i (XH K rfl) _f _b))) (_x _))))) (_m (_y Yo)) _F)
   (_n (YU QS rfl (YI Yh) (YO (i:=5) Vz.nd rfl (Or.inr rfl))
    (_n (_ag (i:=6) rfl  Vz.nd rfl (Or.inl rfl) (XE (N:=["_law_one","_law_row"]) ["_law_row"] [none,some 5] rfl (by ext) (by ext) (by rfl) (by rfl) (by rfl) (by rfl) (by rfl)) (YI _X) (λ_ _ _=>(YO (i:=0) _ba rfl (Or.inl rfl))) (λ_ _ _=>(WP (PW.pt (Vj (_A _S (_i (XH K rfl) _f _b) _z (_x _)) (Vq (_A _S (_i (XH K rfl) _f _b) (_i (XH K rfl) _p _b) (_x _))))))) (λ_ _ _=>(_i (XH K rfl) _f _b)))
   (_n (_H 7 Vz (_U (_bR K) (by rfl) T.n_sorted WL (_a (X9 rfl (XE (N:=["_law_one","_law_row"]) ["_law_row"] [none,some 5] rfl (by ext) (by ext) (by rfl) (by rfl) (by rfl) (by rfl) (by rfl)) (YI _X) (λ_ _ _=>(YO (i:=0) _ba rfl (Or.inl rfl))) (λ_ _ _=>(WP (PW.pt (Vj (_A _S (_i (XH K rfl) _f _b) _z (_x _)) (Vq (_A _S (_i (XH K rfl) _f _b) (_i (XH K rfl) _p _b) (_x _))))))) (λ_ _ _=>(_i (XH K rfl) _f _b))) _e)))
   (_n (_H 8 Vz (_U (_bR K) (by rfl) T.n_sorted WL (_a (X9 rfl (XE (N:=["_law_one","_law_row"]) ["_law_row"] [none,some 5] rfl (by ext) (by ext) (by rfl) (by rfl) (by rfl) (by rfl) (by rfl)) (YI Yh) (λ_ _ _=>(YO (i:=0) _ba rfl (Or.inl rfl))) (λ_ _ _=>(WP (_A _S (_i (XH K rfl) _f _b) (_i (XH K rfl) _p _b) (_x _)))) (λ_ _ _=>(_i (XH K rfl) _f _b))) _e)))
   (_n (_D (PW.pt (Xz (_A (_ak hr.units) (Y0 (_a (_V _f T.lB_ (_aP T) hr (_a (_i _o Yw _b) _e)) _e)) (Y9 _aK (_s _aZ Xo (Y0 (_a Jb _e))) X7 (YF _b)) (_x _)) (Wt (_A (UP hr.units) (_V _f T.lB_ (U6 T) hr (_a _z (_a (_i _o Yw _b) _e))) Wb (_x _))))) (_m (_y Yo)) _F)
   (_m (_D (_A (UP hr.units) (_V _f T.lB_ (U6 T) hr (_a _z (_a (_i _o Yw _b) _e))) Wp (_x _)) (_m (_y Yo)) _F)))))))
   (_m (_y Yo)))))),?_⟩
 dsimp only[_O];obtain⟨b,dx,k,bi,li,ti,su,rfl,hB⟩:=id hv;refine⟨_,rfl,D,rfl,⟨_,hD⟩,WS (us.map (Uh λp=>decide (p.1.day<=d))) (small1000 (by rw[Qd];lia)) (λU=>∃w,U=[w,some (.int d)]) ⟨_,rfl⟩ (λj H4 hj sm=>?go) (λH4 sm=>?stop) (λj U H4 x H5 z hz hσ sm hx C hC=>?step) (λF1 H1 n1 s1 hF=>?fin)⟩
 case go=>exact⟨_,_,sm.sql hD,Qp (by rw[Yy];rw[Qd] at hj;exact hj)⟩
 case stop=>exact⟨_,sm.sql hD,by rw[Yy,Qd];exact Qg _⟩
 case step =>
  obtain⟨w,rfl⟩:=hσ;obtain⟨rfl,hx2⟩:=hx;obtain⟨p,hp,rfl⟩:=XX (hx2 _ (sm.sql hD));have pm:=QE hp;rw[Qv,hp] at hz;obtain rfl:=Qt hz;have hp2:=sm.sqt (hR p pm);refine⟨_,rfl,rfl,p.2,p.1,rfl,hp2,_,rfl,_,_,rfl,rfl,_,rfl,?_⟩;by_cases e:p.1.day<=d
  ·rw[show Uh (λp:Ent×Addr=>decide (p.1.day<=d)) p=some (.ref p.2) from Qb (Ql e)] at hC;exact _I (Ql e) ⟨_,rfl,hC _ _ ⟨_,rfl⟩ (Same.refl _)⟩
  ·rw[show Uh (λp:Ent×Addr=>decide (p.1.day<=d)) p=none from Qa λz=>e (Rw z)] at hC;exact _u (Qi e) (hC _ _ ⟨_,rfl⟩ (Same.refl _))
 case fin =>
 rw[_bc] at hF;have hR1:RowsAt K H1 (us.filter λp=>decide (p.1.day<=d)):=λp hp=>s1.sqt (hR p (QL.mp hp).1);have wl:(us.filter λp=>decide (p.1.day<=d)).length<=100:=Qs (NH ..) ul;have rows:∀{out:List (Ent×Addr)},out.Perm B.kept->((out.map λp=>p.1.row).Pairwise λx y=>SA.rLt y x=false)->(out.map λp=>p.1.row)=(us.filter λp=>decide (p.1.day<=d)).map λp=>p.1.row:=λpm so=>ud.rows pm so;have hkn:∀p∈us.filter (λp=>decide (p.1.day<=d)),∀{n s f m:Str} {d':Int},p.1=.born n s d' f m->Known B n:=λp hp n s f m d' e=>JV.mpr ⟨s,d',f,m,ud.pm.mem_iff.mpr (Qj.mpr ⟨p,hp,e⟩)⟩;have names:=ud.names;have sT:=ud.stepT;have sf:∀{n:Str},n≠""->Yc B "f" n=_B ((((us.filter λp=>decide (p.1.day<=d)).filter Xh).map (·.1)).filterMap (Wx n)):=λn0=>ud.stepf n0;have de:=ud.dead;replace n0:∀p∈us.filter (λp=>decide (p.1.day<=d)),∀n,p.1.bornName=some n->n≠"":=λp hp=>n0 p (QL.mp hp).1;generalize (us.filter λp=>decide (p.1.day<=d))=ws at *;refine⟨_,rfl,F1,rfl,⟨_,.of hF⟩,WS (ws.map (Uh Xh)) (small1000 (by rw[Qd];lia)) (λU=>∃w,U=[w]) ⟨_,rfl⟩ (λj H4 hj sm=>?go2) (λH4 sm=>?stop2) (λj U H4 x H5 z hz hσ sm hx C hC=>?step2) (λF2 H2 n2 s2 hF2=>?fin2)⟩
 case go2=>exact⟨_,_,sm.sql (.of hF),Qp (by rw[Yy];rw[Qd] at hj;exact hj)⟩
 case stop2=>exact⟨_,sm.sql (.of hF),by rw[Yy,Qd];exact Qg _⟩
 case step2 =>
  obtain⟨w,rfl⟩:=hσ;obtain⟨rfl,hx2⟩:=hx;obtain⟨p,hp,rfl⟩:=XX (hx2 _ (sm.sql (.of hF)));have pm:=QE hp;rw[Qv,hp] at hz;obtain rfl:=Qt hz;have hp2:=sm.sqt (hR1 p pm);obtain⟨x,u⟩:=p;refine⟨_,rfl,u,_,_,_,rfl,rfl,hp2,_lB x,rfl,_,rfl,?_⟩;cases x with
  |born n s d f m=>exact _I (by show decide (V.str "born"=V.str "born")=true;ext) ⟨_,rfl,hC _ _ ⟨_,rfl⟩ (Same.refl _)⟩
  |_=>exact _u (_na (by simp only[Ent.word];ext)) (hC _ _ ⟨_,rfl⟩ (Same.refl _))
 case fin2 =>
 rw[_bc] at hF2;have hR2:RowsAt K H2 ws:=hR1.mono s2;have hR3:RowsAt K H2 (ws.filter Xh):=λp hp=>hR2 p (QL.mp hp).1;have bl:(ws.filter Xh).length<=100:=Qs (NH ..) wl;have s12:=s1.trans s2;have hF12:=s2 _ _ hF;refine⟨_,rfl,b,dx,_,rfl,s12 _ _ hB.ob,rfl,rfl,.ref b,B,rfl,hv.mono s12,?kl,λH3 A1 out s3 nA1 pm1 so1 hA1=>?_⟩
 case kl=>have:=WV (B.kept.map (·.1));have:=ud.c.b;have:=ud.c.d;rw[Qd] at *;lia
 have r1:RowsAt K H3 out:=λp hp=>(s12.trans s3).sqt (hB.en p (pm1.mem_iff.mp hp));refine⟨_,rfl,_,_,⟨A1,_,rfl,.of hA1,WT r1⟩,⟨F1,_,rfl,.of (s3 _ _ hF12),WT (hR2.mono s3)⟩,Qs (Uu _) (by decide),_,rfl,?_⟩;rw[rows pm1 so1,U2];refine _L ?_;have s13:=s12.trans s3;refine⟨_,rfl,b,dx,_,rfl,s13 _ _ hB.ob,rfl,rfl,.ref b,B,rfl,hv.mono s13,(by have:=ud.c.names;lia),λH4 P4 s4 nP hP=>?_⟩;have s34:=s3.trans s4;have hF24:=s34 _ _ hF2;refine⟨_,rfl,F2,rfl,⟨_,.of hF24⟩,UR (((ws.filter Xh).map _aA).map V.str) (small1000 (by rw[Qd,Qd];lia)) (λU=>∃w,U=[w]) ⟨_,rfl⟩ (λi H5 hi sm=>?go3) (λH5 sm=>?stop3) (λi U H5 x H6 y hy hσ sm hx C hC=>?step3) (λF5 H5 n5 s5 hF5=>?fin3)⟩
 case go3=>exact⟨_,_,sm.sql (.of hF24),Qp (by rw[Yy];rw[Qd,Qd] at hi;exact hi)⟩
 case stop3=>exact⟨_,sm.sql (.of hF24),by rw[Yy,Qd,Qd];exact Qg _⟩
 case step3 =>
  obtain⟨w,rfl⟩:=hσ;obtain⟨rfl,hx2⟩:=hx;obtain⟨p,hp,rfl⟩:=XX (hx2 _ (sm.sql (.of hF24)));have pm:=QE hp;rw[Qv,Qv,hp] at hy;obtain rfl:=Qt hy;have hp2:=(s34.trans sm).sqt (hR3 p pm);have hb:=(QL.mp pm).2;obtain⟨x,u⟩:=p;cases x with
  |born n s d f m=>exact _g rfl hp2 (_c (j:=1) rfl) (hC _ _ ⟨_,rfl⟩ (Same.refl _))
  |_=>cases hb
 case fin3 =>
 refine⟨P4,F5,(ws.filter Xh).map _aA,rfl,rfl,.of (by rw[<-names];exact s5 _ _ hP),.of hF5,_,rfl,_L ?_⟩;have s25:=s34.trans s5;have s05:=s12.trans s25
 have kn:∀p∈ws.filter Xh,∃n s d f m,p.1=.born n s d f m/\n≠""/\Known B n:=λp hp=>by
  obtain⟨h1,h2⟩:=QL.mp hp;obtain⟨x,u⟩:=p;cases x with
  |born n s d' f m=>exact⟨n,s,d',f,m,rfl,n0 _ h1 n rfl,hkn _ h1 rfl⟩
  |_=>cases h2
 clear hA1 hP hF5 r1 so1 pm1 rows names;refine⟨_,rfl,F2,rfl,⟨_,.of (s25 _ _ hF2)⟩,Wo (xs:=_v (ws.filter Xh)) (λi U H6=>∃v5 v6 v7 v8:Option V,U=[some (.ref b),some (.ref D),some (.int d),some (.ref F1),some (.ref F2),v5,v6,v7,v8]/\Same H5 H6) ⟨_,_,_,_,rfl,Same.refl _⟩ ?sq ?turn ?done⟩
 case sq =>
  rintro i U H6 hi ⟨v5,v6,v7,v8,rfl,s6⟩;exact s6.sql (.of (s25 _ _ hF2))
 case done =>
  rintro U H6 ⟨v5,v6,v7,v8,rfl,s6⟩;exact q _ (s05.trans s6)
 case turn =>
  rintro i x U H6 hx ⟨v5,v6,v7,v8,rfl,s6⟩;obtain⟨p,hp,rfl⟩:=XX hx;have pm:=QE hp;obtain⟨n,sx,dx',f,m,ep,nn,kb⟩:=kn p pm;have hA0:=s25.sqt (hR3 p pm);rw[ep] at hA0;have g1:=s6 _ _ (s25 _ _ hF12);have g2:=s6 _ _ (s25 _ _ hF2);refine⟨_,rfl,F1,rfl,⟨_,.of g1⟩,WS (ws.map λp=>(WH n p.1).map V.int) (small1000 (by rw[Qd];lia)) (λU=>∃w,U=[w,some (.ref p.2)]) ⟨_,rfl⟩ (λj H4 hj sm=>?go4) (λH4 sm=>?stop4) (λj U H4 x H5 z hz hσ sm hx C hC=>?step4) (λX4 G4 nX4 t4 hX4=>?fin4)⟩
  case go4=>exact⟨_,_,sm.sql (.of g1),Qp (by rw[Yy];rw[Qd] at hj;exact hj)⟩
  case stop4=>exact⟨_,sm.sql (.of g1),by rw[Yy,Qd];exact Qg _⟩
  case step4 =>
   obtain⟨w,rfl⟩:=hσ;obtain⟨rfl,hx2⟩:=hx;obtain⟨⟨x,u⟩,hp',rfl⟩:=XX (hx2 _ (sm.sql (.of g1)));have pm':=QE hp';rw[Qv,hp'] at hz;obtain rfl:=Qt hz;dsimp only at hC;have hA2:=(s6.trans sm).sqt (s25.sqt (hR2 _ pm'));have hA3:=(s6.trans sm).sqt hA0;cases x with
   |dead m d =>
    refine _g rfl hA2 (_c (j:=0) rfl) ⟨rfl,_,rfl,_I (by ext) (_g rfl hA2 (_c (j:=1) rfl) (_g rfl hA3 (_c (j:=1) rfl) ⟨rfl,_,rfl,?_⟩))⟩;by_cases e:m=n
    ·rw[show WH n (Ent.dead m d)=_ from Qb e] at hC;exact _I (Ql (by rw[e])) (_g rfl hA2 (_c (j:=2) rfl) (hC _ _ ⟨_,rfl⟩ (Same.refl _)))
    ·rw[show WH n (Ent.dead m d)=_ from Qa e] at hC;exact _u (Qi λz=>e (V.str.inj z)) (hC _ _ ⟨_,rfl⟩ (Same.refl _))
   |_=>exact _g rfl hA2 (_c (j:=0) rfl) ⟨rfl,_,rfl,_u (by ext) (_L (hC _ _ ⟨_,rfl⟩ (Same.refl _)))⟩
  case fin4 =>
  rw[_aD] at hX4;have h4:=s6.trans t4;refine⟨_,rfl,F1,rfl,⟨_,.of (t4 _ _ g1)⟩,WS (ws.map λp=>(Vf n p.1).map V.str) (small1000 (by rw[Qd];lia)) (λU=>∃w,U=[w,some (.ref p.2)]) ⟨_,rfl⟩ (λj H4 hj sm=>?go5) (λH4 sm=>?stop5) (λj U H4 x H5 z hz hσ sm hx C hC=>?step5) (λX5 G5 nX5 t5 hX5=>?fin5)⟩
  case go5=>exact⟨_,_,sm.sql (.of (t4 _ _ g1)),Qp (by rw[Yy];rw[Qd] at hj;exact hj)⟩
  case stop5=>exact⟨_,sm.sql (.of (t4 _ _ g1)),by rw[Yy,Qd];exact Qg _⟩
  case step5 =>
   obtain⟨w,rfl⟩:=hσ;obtain⟨rfl,hx2⟩:=hx;obtain⟨⟨x,u⟩,hp',rfl⟩:=XX (hx2 _ (sm.sql (.of (t4 _ _ g1))));have pm':=QE hp';rw[Qv,hp'] at hz;obtain rfl:=Qt hz;dsimp only at hC;have hA2:=(h4.trans sm).sqt (s25.sqt (hR2 _ pm'));have hA3:=(h4.trans sm).sqt hA0;cases x with
   |taken m t d =>
    refine _g rfl hA2 (_c (j:=0) rfl) ⟨rfl,_,rfl,_I (by ext) (_g rfl hA2 (_c (j:=1) rfl) (_g rfl hA3 (_c (j:=1) rfl) ⟨rfl,_,rfl,?_⟩))⟩;by_cases e:m=n
    ·rw[show Vf n (Ent.taken m t d)=_ from Qb e] at hC;exact _I (Ql (by rw[e])) (_g rfl hA2 (_c (j:=2) rfl) (hC _ _ ⟨_,rfl⟩ (Same.refl _)))
    ·rw[show Vf n (Ent.taken m t d)=_ from Qa e] at hC;exact _u (Qi λz=>e (V.str.inj z)) (hC _ _ ⟨_,rfl⟩ (Same.refl _))
   |_=>exact _g rfl hA2 (_c (j:=0) rfl) ⟨rfl,_,rfl,_u (by ext) (_L (hC _ _ ⟨_,rfl⟩ (Same.refl _)))⟩
  case fin5 =>
  rw[_aD] at hX5
  have lT:(((ws.map (·.1)).filterMap (Vf n))).length<=60:=by
   have:=(ud.li.room9 ud.c).ll ("T",n);rw[show lk B.links ("T",n)=Yc B "T" n from rfl,sT,(Y6 _).length_eq] at this;exact this
  refine⟨X5,_,rfl,.of hX5,by lia,λT5 zs5 nT5 pm5 so5=>?_⟩;obtain rfl:=UD pm5 so5;obtain⟨H7,eH7,s7,hT5⟩:=Xv (o:=.lst ((_B ((ws.map (·.1)).filterMap (Vf n))).map V.str)) nT5;rw[eH7];have h5:=(h4.trans t5).trans s7;have g2':=h5 _ _ (s25 _ _ hF2);refine⟨_,rfl,F2,rfl,⟨_,.of g2'⟩,WS ((ws.filter Xh).map λp=>(Wx n p.1).map V.str) (small1000 (by rw[Qd];lia)) (λU=>∃w,U=[w,some (.ref p.2)]) ⟨_,rfl⟩ (λj H4 hj sm=>?go6) (λH4 sm=>?stop6) (λj U H4 x H5 z hz hσ sm hx C hC=>?step6) (λX6 G6 nX6 t6 hX6=>?fin6)⟩
  case go6=>exact⟨_,_,sm.sql (.of g2'),Qp (by rw[Yy];rw[Qd] at hj;exact hj)⟩
  case stop6=>exact⟨_,sm.sql (.of g2'),by rw[Yy,Qd];exact Qg _⟩
  case step6 =>
   obtain⟨w,rfl⟩:=hσ;obtain⟨rfl,hx2⟩:=hx;obtain⟨⟨x,u⟩,hp',rfl⟩:=XX (hx2 _ (sm.sql (.of g2')));have pm':=QE hp';rw[Qv,hp'] at hz;obtain rfl:=Qt hz;dsimp only at hC;have hA2:=(h5.trans sm).sqt (s25.sqt (hR3 _ pm'));have hA3:=(h5.trans sm).sqt hA0;have hb:=(QL.mp pm').2;cases x with
   |born m' s d f' mo =>
    refine _g rfl hA2 (_c (j:=4) rfl) (_g rfl hA3 (_c (j:=1) rfl) ⟨rfl,_,rfl,?_⟩);by_cases e:f'=n
    ·rw[show Wx n (Ent.born m' s d f' mo)=_ from Qb e] at hC;exact _I (Ql (by rw[e])) (_g rfl hA2 (_c (j:=1) rfl) (hC _ _ ⟨_,rfl⟩ (Same.refl _)))
    ·rw[show Wx n (Ent.born m' s d f' mo)=_ from Qa e] at hC;exact _u (Qi λz=>e (V.str.inj z)) (hC _ _ ⟨_,rfl⟩ (Same.refl _))
   |_=>cases hb
  case fin6 =>
  rw[_aD] at hX6
  have lf:((((ws.filter Xh).map (·.1)).filterMap (Wx n))).length<=60:=by
   have:=(ud.li.room9 ud.c).ll ("f",n);rw[show lk B.links ("f",n)=Yc B "f" n from rfl,sf nn,(Y6 _).length_eq] at this;exact this
  refine⟨X6,_,rfl,.of hX6,by lia,λT6 zs6 nT6 pm6 so6=>?_⟩;obtain rfl:=UD pm6 so6;obtain⟨H8,eH8,s8,hT6⟩:=Xv (o:=.lst ((_B (((ws.filter Xh).map (·.1)).filterMap (Wx n))).map V.str)) nT6;rw[eH8];have h8:=(h5.trans t6).trans s8;have e58:=t6.trans s8;have h08:=s05.trans h8;refine⟨_,rfl,b,dx,_,rfl,h08 _ _ hB.ob,rfl,_g rfl (h8.sqt hA0) (_c (j:=1) rfl) ⟨rfl,.ref b,n,B,rfl,hv.mono h08,kb,λH9 s9=>?_⟩⟩;refine⟨few rfl,λL nL=>?_⟩;obtain⟨Ha,eHa,sa,hL⟩:=Xv (o:=.lst [Xb B n]) nL;rw[eHa];refine⟨_,rfl,few rfl,λL2 nL2=>?_⟩;obtain⟨Hb,eHb,sb,hL2⟩:=Xv (o:=.lst [V.non]) nL2;rw[eHb];have c4:=((((t5.trans s7).trans e58).trans s9).trans sa).trans sb
  have ld:((((ws.map (·.1)).filterMap (WH n)).map V.int)).length<=100:=by
   rw[Qd];refine Qs (GV ..) ?_;rw[Qd];exact wl
  refine⟨X4,L2,_,_,rfl,rfl,c4 _ _ hX4,hL2,Ra (small1000 (by show _+1<=1000;lia)),λP nP=>?_⟩;obtain⟨Hc,eHc,sc,hP⟩:=Xv (o:=.lst (((ws.map (·.1)).filterMap (WH n)).map V.int++[V.non])) nP;rw[eHc];refine⟨_,rfl,?_⟩
  try dsimp only[XU]
  refine⟨P,_,rfl,.of hP,λZ nZ=>?_⟩;rw[show Ym (((ws.map (·.1)).filterMap (WH n)).map V.int++[V.non]) none (some 1)=_ from _nF _ 1 (by rw[Qq];show 1<=_+1;lia),<-de n];obtain⟨Hd,eHd,sd,hZ⟩:=Xv (o:=.lst [Xb B n]) nZ;rw[eHd];obtain⟨dd,hdd,dp⟩:=_nq K Hd B n;have sad:=(sb.trans sc).trans sd;refine⟨[dd],[dd],⟨L,_,rfl,.of (sad _ _ hL),⟨_,_,rfl,hdd,rfl⟩⟩,⟨Z,_,rfl,.of hZ,⟨_,_,rfl,hdd,rfl⟩⟩,by show max (Xk dd) 0<=50;lia,_,rfl,?_⟩;rw[V8];refine _L ?_;have s8d:=(s9.trans sa).trans sad;have h8d:=h8.trans s8d;have h0d:=s05.trans h8d;refine⟨_,rfl,b,dx,_,rfl,h0d _ _ hB.ob,rfl,_g rfl (h8d.sqt hA0) (_c (j:=1) rfl) ⟨rfl,.ref b,.str "T",.str n,B,rfl,hv.mono h0d,.inr ⟨"T",rfl,λz=>absurd z (by ext),λ_=>.inr ⟨n,rfl,λno=>absurd no kb,λ_ He De se nDe hDe=>?_⟩⟩⟩⟩;have s8e:=s8d.trans se;refine⟨_,rfl,De,T5,_,rfl,rfl,.of (by rw[<-sT];exact hDe),.of ((e58.trans s8e) _ _ hT5),_,rfl,_L ?_⟩;have h8e:=h8.trans s8e;have h0e:=s05.trans h8e;refine⟨_,rfl,b,dx,_,rfl,h0e _ _ hB.ob,rfl,_g rfl (h8e.sqt hA0) (_c (j:=1) rfl) ⟨rfl,.ref b,.str "f",.str n,B,rfl,hv.mono h0e,.inr ⟨"f",rfl,λz=>absurd z (by ext),λ_=>.inr ⟨n,rfl,λno=>absurd no kb,λ_ Hf Df sg nDf hDf=>?_⟩⟩⟩⟩;exact⟨_,rfl,Df,T6,_,rfl,rfl,.of (by rw[<-sf nn];exact hDf),.of ((s8e.trans sg) _ _ hT6),_,rfl,_L ⟨_,_,_,_,rfl,h8e.trans sg⟩⟩
theorem _md:_li P base T:=by
 refine Fun.okY T.Us.F XY λcdv A outer s H vs Q E hr h=>?_;obtain⟨l,ns,rfl,hl,hlen,q⟩:=h
 refine⟨_,(_n (_H 1 XY (_Z (_hI T) hr (_a _f (_a _b _e))))
   (_n (_H 2 XY (_s _aZ _p (_Z (_kG T) hr (_a _p (_a (Y9 _aK _f (YF _b) (YF _b)) _e)))))
   (_n (_H 3 XY (_a6 T.kB_ (_aQ T) (hr.mono (by decide)) (by rfl) T.mB_ T.VE.b .nil YV))
   (_n (_H 4 XY (_a6 T.kB_ (_aQ T) (hr.mono (by decide)) (by rfl) T.mB_ T.VE.b .nil YV))
   (_n (YU QS rfl (YI _t) (YY 5 XY)
    (_m (_D (_A XN (_Z (_ed T) hr (_a _X (_a Yw _e))) _z (_x _)) (_m (_y Yo)) _F)))
   (_n (_D (Xw (Xi (_Z (_lN T) hr (_a Yh (_a (_Z (_jt T) hr (_a _f (_a _t _e))) _e))))) (_m (_y Yo)) _F)
   (_n (_H 6 XY (_U (_gW _dm K rfl) (by rfl) T.n_sorted WL (_a (X9 rfl (XE (N:=["_law_row"]) [] [none] rfl (by ext) (by ext) (by rfl) (by rfl) (by rfl) (by rfl) (by rfl)) (YI _t) (λ_ _ _=>(YO (i:=0) _bw rfl (Or.inl rfl))) (λ_ _ _=>Ug) (λ_ _ _=>(_Z (_mc T) hr (_a _f _e)))) _e)))
   (_n (_D (PW.pt (Xz (_A (_ak hr.units) (VB _X T.lB_ T.Wn.me (J3 T) (hr.mono (by decide)) T.Wn.b .nil YV) Xo (_x _)) (Xz (_A (_ak hr.units) (VB Yh T.lB_ T.Wn.me (J3 T) (hr.mono (by decide)) T.Wn.b .nil YV) Xo (_x _)) (Wt (_A (UP hr.units) (VB _X T.lB_ T.W4.me (_bK T) (hr.mono (by decide)) T.W4.b .nil YV) (VB Yh T.lB_ T.W4.me (_bK T) (hr.mono (by decide)) T.W4.b .nil YV) (_x _)))))) (_m (_y Yo)) _F)
   (_n (YU QS rfl (YI _p) (YY 5 XY)
    (_m (_D (Xw (Xi (_Z (_it T) hr (_a _X (_a Yh (_a Yw _e)))))) (_m (_y Yo)) _F)))
   (_n (YU QS rfl (YI _t) (YY 5 XY)
    (_m (_D (Xw (Xi (_Z (_jH T) hr (_a _X (_a Yh (_a Yw _e)))))) (_m (_y Yo)) _F)))
   (_n (YU QS rfl (Jz (by rfl) T.n_range (_a (_U (_nE rfl) (by rfl) T.n_min _cq (_a (_U YS (by rfl) T.n_len Yx (_a _t _e)) (_a (_U YS (by rfl) T.n_len Yx (_a _f _e)) (_a _b _e)))) _e)) (YY 7 XY)
    (_n (_H 5 XY (_i Y7 _t (_s Yj (_s Yj (_s Xq (_i Y7 _f (_s VY (_gg _eC _b) Wb)) _b) _b) (_U YS (by rfl) T.n_len Yx (_a _t _e)))))
   (_n (_H 8 XY (_s VY (_Z (_gD T) hr (_a Yw _e)) (_s XD Wb _b)))
   (_m (_D (PW.pt (Xz (Xw (Xi (_Z (_ek T) hr (_a (_V _X T.lB_ (_ci T) hr (_a Wp _e)) (_a Xo (_a Wp _e)))))) (Wt (Xw (Xi (_Z (_ek T) hr (_a (_V Yh T.lB_ (_ci T) hr (_a Wp _e)) (_a Xo (_a Wp _e))))))))) (_m (_y Yo)) _F)))))
   (_m (_y (Yp (Ji hr.units) (VB _X T.lB_ T.Wn.me (J3 T) (hr.mono (by decide)) T.Wn.b .nil YV) Xo (_x _))))))))))))))),?_⟩
 dsimp only[_O];refine⟨_,rfl,rfl,l,ns,24,rfl,hl,hlen,by decide,λH1 D bs s1 nD hD hR ok blen=>?_⟩;have bl:bs.length<=24:=by lia
 obtain⟨cs,ecut,cl,c2⟩:=_j4 ns;refine⟨_,rfl,_,rfl,_,rfl,_,rfl,_,rfl,l,_,rfl,s1.sql hl,λCc nC=>?_⟩;rw[ecut];obtain⟨H2,eH2,sC,hC⟩:=Xv (o:=.lst (cs.map V.int)) nC;rw[eH2];refine⟨rfl,D,Cc,bs,cs,rfl,sC.sql (.of hD),hR.mono sC,ok,by lia,.of hC,cl,λH3 E' ds s3 nE hE hS dok dlen dnil=>?_⟩;have dl:ds.length<=60:=by lia
 have s13:=sC.trans s3;have hR3:=hR.mono s13;have ec:_v bs++_v ds=_v (bs++ds):=(Qu ..).symm;refine⟨D,E',_,_,rfl,rfl,s13 _ _ hD,hE,Ra (small1000 (by rw[Yy,Yy];lia)),λR nR=>?_⟩;rw[ec];obtain⟨H4,eH4,s4,hRr⟩:=Xv (o:=.lst (_v (bs++ds))) nR;rw[eH4];have hl4:=((s1.trans s13).trans s4).sql hl;have hD4:=(s13.trans s4) _ _ hD;obtain⟨pool,rw9⟩:=_nX ok dok (by rw[Qd];exact bl) (by rw[Qd];exact dl);rw[<-Qu] at rw9;have hRk:RowsAt K H4 (bs++ds):=λp hp=>(Qn.mp hp).elim (λh=>s4.sqt (hR3 p h)) (λh=>s4.sqt (hS p h));have kl:(bs++ds).length<=84:=by rw[Qq];lia
 have hbk:∀p∈bs,p∈bs++ds:=λp hp=>QG _ hp;have hbb:∀p∈bs,∃n s d f m,p.1=.born n s d f m:=λp hp=>Wm ok (Qj.mpr ⟨p,hp,rfl⟩);generalize bs++ds=ks at *;clear hC hE hS hR hR3 dok ok ecut c2 cl dlen dnil;intro b dx nb ndx nn;refine⟨rfl,b,dx,rfl,_k,λH5 k bi li ti su hB5 keep nk nbi nli nti nsu=>⟨rfl,?_⟩⟩;obtain⟨s5,f5⟩:=_eQ nb ndx keep nk nbi nli nti nsu;clear keep nk nbi nli nti nsu nn;intro b' dx' nb' ndx' nn';refine⟨rfl,b',dx',rfl,_k,λH6 k' bi' li' ti' su' hB6 keep nk nbi nli nti nsu=>⟨rfl,?_⟩⟩;obtain⟨s6,f6⟩:=_eQ nb' ndx' keep nk nbi nli nti nsu;clear keep nk nbi nli nti nsu nn';have hBa:=hB5.mono s6;have dj:∀c∈ft k bi li ti su _Y,c∉ft k' bi' li' ti' su' _Y:=λc h1 h2=>by rcases hB5.dicts c h1 with⟨w,z⟩|⟨w,z⟩<;>rw[f6 c h2] at z<;>cases z
 have hBs:=hB6.rest hBa.dicts dj;have ss:=UO H6 (ft k bi li ti su _Y);have fs:∀c∈ft k bi li ti su _Y,Yt H6 (ft k bi li ti su _Y) c=none:=λc m=>V5 m;have s46:=s5.trans s6;have hRs:RowsAt K (Yt H6 (ft k bi li ti su _Y)) ks:=λp hp=>UZ hBa.dicts (s46.sqt (hRk p hp));have hls:SqL K (Yt H6 (ft k bi li ti su _Y)) l (ns.map V.int):=_fU hBa.dicts (s46.sql hl4);have hDs:Yt H6 (ft k bi li ti su _Y) D=some (.lst (_v bs)):=XR hBa.dicts (s46 _ _ hD4) rfl;have hRl:Yt H6 (ft k bi li ti su _Y) R=some (.lst (_v ks)):=XR hBa.dicts (s46 _ _ hRr) rfl;generalize Yt H6 (ft k bi li ti su _Y)=Hs at *;refine⟨_,rfl,R,rfl,⟨_,.of (ss _ _ hRl)⟩,Wo (xs:=_v ks) (λi U Hc=>∃(B:Bk) (v5:Option V),U=[some (.ref l),some (.ref D),some (.ref R),some (.ref b),some (.ref b'),v5,none,none,none]/\BkAt K T.cB Hc b dx k bi li ti su B/\Fs9 pool ((ks.map (·.1)).map Ent.told) B (ks.drop i)/\B.kept.map (·.1)=((ks.map (·.1)).map Ent.told).take i/\Same Hs Hc/\∀c∈ft k bi li ti su B,Hs c=none) ⟨_Y,none,rfl,hBa,rw9.start,rfl,ss,fs⟩ ?sq ?turn ?done⟩
 case sq =>
  rintro i U Hc hi ⟨B,v5,rfl,_,_,_,sm,_⟩;exact .of (sm _ _ hRl)
 case turn =>
  rintro i x U Hc hx ⟨B,v5,rfl,hB,f9,hk,sm,fr⟩;obtain⟨p,hp,rfl⟩:=XX hx;obtain⟨il,ei⟩:=QK.mp hp;rw[GY il,ei] at f9;have pm:=QE hp;have pe:p.1∈ks.map (·.1):=Qj.mpr ⟨p,pm,rfl⟩;have kn:=rw9.next hp hk;have okp:=(rw9.gd _ pe).ok;obtain⟨nr,rm,nx⟩:=Fs9.into (lt:=[]) f9 rw9.fl okp kn;refine⟨_,rfl,_,rfl,rfl,b,dx,k,bi,li,ti,su,B,.ref p.2,p.1,rfl,hB,⟨p.2,rfl,sm.sqt (hRs p pm)⟩,okp,(f9.cnt rw9.fl).full _,(λzq=>?_),λ_=>⟨nr,rm,λHd B' y hB' pt bt hy gr grT=>⟨rfl,_,rfl,_u (by ext) ?_⟩⟩⟩;obtain⟨n,hn,z⟩:=zq;exact absurd z (kn n hn);obtain⟨s7,f7⟩:=Ut bt hy grT sm fr;obtain⟨a',ha'⟩:=pt.kept;refine⟨B',_,rfl,hB',nx B' pt,?_,s7,f7⟩;rw[ha',Qu,hk,UA (x:=p.1.told) (by rw[Qv,Qv,hp];rfl)];rfl
 case done =>
  rintro U Hc ⟨B,v5,rfl,hB,f9,-,sm,fr⟩;rw[Yy,List.drop_length] at f9;refine⟨_,rfl,_,rfl,_,rfl,rfl,l,R,ns,ks,rfl,sm.sql hls,.of (sm _ _ hRl),hRs.mono sm,by lia,λH8 O os s8 nO hO hOR ord=>?_⟩;obtain⟨fo,oko⟩:=rw9.ord ord;have s08:=sm.trans s8;have hBn:=hBs.mono s08;have hB8:=hB.mono s8;have dj2:∀c∈ft k' bi' li' ti' su' _Y,c∉ft k bi li ti su B:=λc h1 h2=>by rcases hBs.dicts c h1 with⟨w,z⟩|⟨w,z⟩<;>rw[fr c h2] at z<;>cases z
  have hBr:=hB8.rest hBn.dicts dj2;have ss2:=UO H8 (ft k' bi' li' ti' su' _Y);have fs2:∀c∈ft k' bi' li' ti' su' _Y,Yt H8 (ft k' bi' li' ti' su' _Y) c=none:=λc m=>V5 m;have hO2:Yt H8 (ft k' bi' li' ti' su' _Y) O=some (.lst (_v os)):=XR hBn.dicts hO rfl;have hOR2:RowsAt K (Yt H8 (ft k' bi' li' ti' su' _Y)) os:=λp hp=>UZ hBn.dicts (hOR p hp);have hRs2:RowsAt K (Yt H8 (ft k' bi' li' ti' su' _Y)) ks:=λp hp=>UZ hBn.dicts (s08.sqt (hRs p hp));have hls2:SqL K (Yt H8 (ft k' bi' li' ti' su' _Y)) l (ns.map V.int):=_fU hBn.dicts (s08.sql hls);have hDs2:Yt H8 (ft k' bi' li' ti' su' _Y) D=some (.lst (_v bs)):=XR hBn.dicts (s08 _ _ hDs) rfl;have hRl2:Yt H8 (ft k' bi' li' ti' su' _Y) R=some (.lst (_v ks)):=XR hBn.dicts (s08 _ _ hRl) rfl;generalize Yt H8 (ft k' bi' li' ti' su' _Y)=Ht at *;refine⟨rfl,b',dx',k',bi',li',ti',su',O,_,os,pool,Ht,rfl,hBn,hO2,hOR2,rw9.fl,fo,oko,by rw[ord.len];lia,ss2,fs2,λH9 B2 hB2 f2 s9 _=>⟨_,rfl,_L ?_⟩⟩;have hB1:=hBr.mono s9;have hl9:=s9.sql hls2;have hD9:=s9 _ _ hDs2;have hR9:=s9 _ _ hRl2;have hK9:=hRs2.mono s9;clear hBr hls2 hDs2 hRl2 hRs2 hOR2 hO2 fs2 ss2 dj2 hB8 hBn s08 fo oko ord hO hOR hls hDs hRl hRs fs ss hBs dj hB6 hBa hB hRk hl4 hD4 hRr hB5;refine⟨_,rfl,R,rfl,⟨_,.of hR9⟩,_if (ks.map λp=>some p.1.told) (λe H v=>∃t,v=.ref t/\SqT K H t (e.row.map kV)) ?mono (small1000 (by rw[Qd];lia)) (λU=>∃w,U=[w]) ⟨_,rfl⟩ (λj H4 hj sm=>?go) (λH4 sm=>?stop) (λj U H4 x H5 z hz hσ sm hx C hC1 hC2=>?step) (λF ys Hf nF sF hF yl hP=>?fin)⟩
  case mono =>
   rintro p Ha Hb v Dx xs ⟨t,rfl,ht⟩ hDx bt;refine⟨t,rfl,?_⟩;rcases ht with(ht|⟨o,ht⟩)|ht
   ·exact .inl (.inl (bt _ _ (Yd ht hDx (λz=>by cases z)) ht))
   ·exact .inl (.inr ⟨o,bt _ _ (Yd ht hDx (λz=>by cases z)) ht⟩)
   ·exact .inr ht
  case go=>exact⟨_,_,sm.sql (.of hR9),Qp (by rw[Yy];rw[Qd] at hj;exact hj)⟩
  case stop=>exact⟨_,sm.sql (.of hR9),by rw[Yy,Qd];exact Qg _⟩
  case step =>
   obtain⟨w,rfl⟩:=hσ;obtain⟨rfl,hx2⟩:=hx;obtain⟨p,hp,rfl⟩:=XX (hx2 _ (sm.sql (.of hR9)));have pm:=QE hp;rw[Qv,hp] at hz;obtain rfl:=Qt hz;exact⟨_,rfl,rfl,p.2,p.1,rfl,sm.sqt (hK9 p pm),λH' t s' ht=>hC2 _ rfl _ _ _ ⟨_,rfl⟩ s' ⟨t,rfl,ht⟩⟩
  case fin =>
  rw[_gk] at yl hP;obtain⟨ts,rfl,e2,hts⟩:=_eR yl hP;refine⟨F,ts.map λp=>(p.2,p.1.row),rfl,.of (by rw[QF];exact hF),(λp hp=>by obtain⟨z,hz,rfl⟩:=Qj.mp hp;exact⟨hts z hz,⟨_,rfl⟩,_e6 _⟩),λDu out nDu pm so=>?_⟩;obtain⟨us,um,rfl⟩:=JD pm ts rfl;rw[QF] at so;rw[show((us.map λp:Ent×Addr=>(p.2,p.1.row)).map λp=>V.ref p.1)=_v us from by rw[QF];rfl];obtain⟨Hu,eHu,sW,hDu⟩:=Xv (o:=.lst (_v us)) nDu;rw[eHu]
  have umE:(us.map (·.1)).Perm ((ks.map (·.1)).map Ent.told):=by
   have:=um.map (·.1);rw[e2] at this
   rwa [QF]
  have ul:us.length<=84:=by
   have:=umE.length_eq;rw[Qd,Qd,Qd] at this;lia
  have hU:RowsAt K Hu us:=λp hp=>sW.sqt (hts p (um.mem_iff.mp hp));have sU:=sF.trans sW;have hB1u:=hB1.mono sU;have hB2u:=hB2.mono sU;have hlu:=sU.sql hl9;have hDd:=sU _ _ hD9;have hRu:=sU _ _ hR9;have hKu:=hK9.mono sU;have so':(us.map λp=>p.1.row).Pairwise λx y=>SA.rLt y x=false:=so;clear hB1 hB2 hl9 hD9 hR9 hK9 hts hF yl hP e2 nDu pm so;refine⟨_,rfl,b,dx,_,rfl,hB1u.ob,rfl,rfl,.ref b,B,rfl,⟨b,dx,k,bi,li,ti,su,rfl,hB1u⟩,(by have:=f9.len rw9.fl;lia),λHa A1 o1 sa nA pm so hA=>?_⟩;refine⟨_,rfl,_,_,⟨A1,_,rfl,.of hA,WT (λp hp=>sa.sqt (hB1u.en p (pm.mem_iff.mp hp)))⟩,⟨Du,_,rfl,.of (sa _ _ hDu),WT (hU.mono (Same.trans (Same.refl _) sa))⟩,Qs (Uu _) (by decide),_,rfl,?_⟩;rw[_by f9 pm so umE so',U2];refine _L ?_;clear nA pm so hA;have hDa:=sa _ _ hDu;refine⟨_,rfl,b',dx',_,rfl,(hB2u.mono sa).ob,rfl,rfl,.ref b',B2,rfl,⟨b',dx',k',bi',li',ti',su',rfl,(hB2u.mono sa)⟩,(by have:=f2.len rw9.fl;lia),λHb A2 o2 sb nA pm so hA=>?_⟩;refine⟨_,rfl,_,_,⟨A2,_,rfl,.of hA,WT (λp hp=>sb.sqt ((hB2u.mono sa).en p (pm.mem_iff.mp hp)))⟩,⟨Du,_,rfl,.of (sb _ _ hDa),WT (hU.mono (Same.trans sa sb))⟩,Qs (Uu _) (by decide),_,rfl,?_⟩;rw[_by f2 pm so umE so',U2];refine _L ?_;clear nA pm so hA;have s2:=sa.trans sb;refine⟨_,rfl,b,dx,_,rfl,(hB1u.mono s2).ob,rfl,rfl,.ref b,B,rfl,⟨b,dx,k,bi,li,ti,su,rfl,(hB1u.mono s2)⟩,(by have:=(f9.cnt rw9.fl).names;lia),λHc P3 sc nP3 hP3=>?_⟩;refine⟨_,rfl,b',dx',_,rfl,(hB2u.mono (s2.trans sc)).ob,rfl,rfl,.ref b',B2,rfl,⟨b',dx',k',bi',li',ti',su',rfl,(hB2u.mono (s2.trans sc))⟩,(by have:=(f2.cnt rw9.fl).names;lia),λHd P4 sd nP4 hP4=>?_⟩;refine⟨P3,P4,_B (Y3 B.kept),rfl,rfl,.of (sd _ _ hP3),.of (by rw[_mv f9 f2];exact hP4),_,rfl,_L ?_⟩;have sV:=(s2.trans sc).trans sd;clear hP3 hP4 hDa;refine⟨_,rfl,D,rfl,⟨_,.of (sV _ _ hDd)⟩,Wo (xs:=_v bs) (λi U Hx=>∃v5:Option V,U=[some (.ref l),some (.ref D),some (.ref R),some (.ref b),some (.ref b'),v5,some (.ref Du),none,none]/\Same Hu Hx) ⟨_,rfl,sV⟩ ?sq2 ?turn2 ?done2⟩
  case sq2 =>
   rintro i U Hx hi ⟨v5,rfl,sx⟩;exact .of (sx _ _ hDd)
  case turn2 =>
   rintro i x U Hx hx ⟨v5,rfl,sx⟩;obtain⟨p,hp,rfl⟩:=XX hx;have pm:=QE hp;obtain⟨n,s,d,f,m,ep⟩:=hbb p pm;have ha:=sx.sqt (hKu p (hbk p pm));rw[ep] at ha;have he:Ent.born n s d f m∈(ks.map (·.1)).map Ent.told:=Qj.mpr ⟨p.1,Qj.mpr ⟨p,hbk p pm,rfl⟩,by rw[ep];rfl⟩;exact⟨_,rfl,_,rfl,_,rfl,rfl,.ref b,.ref b',p.2,B,B2,n,s,d,f,m,rfl,⟨b,dx,k,bi,li,ti,su,rfl,hB1u.mono sx⟩,⟨b',dx',k',bi',li',ti',su',rfl,hB2u.mono sx⟩,ha,_mP rw9.fl f9 f2 he,λHy sy=>⟨_,rfl,_L ⟨_,rfl,sx.trans sy⟩⟩⟩
  case done2 =>
  rintro U Hx ⟨v5,rfl,sx⟩;refine⟨_,rfl,R,rfl,⟨_,.of (sx _ _ hRu)⟩,Wo (xs:=_v ks) (λi U Hx=>∃v5:Option V,U=[some (.ref l),some (.ref D),some (.ref R),some (.ref b),some (.ref b'),v5,some (.ref Du),none,none]/\Same Hu Hx) ⟨_,rfl,sx⟩ ?sq3 ?turn3 ?done3⟩
  case sq3 =>
   rintro i U Hx hi ⟨v5,rfl,sx⟩;exact .of (sx _ _ hRu)
  case turn3 =>
   rintro i x U Hx hx ⟨v5,rfl,sx⟩;obtain⟨p,hp,rfl⟩:=XX hx;have pm:=QE hp;have he:p.1.told∈(ks.map (·.1)).map Ent.told:=Qj.mpr ⟨p.1,Qj.mpr ⟨p,pm,rfl⟩,rfl⟩;exact⟨_,rfl,_,rfl,_,rfl,rfl,.ref b,.ref b',p.2,B,B2,p.1,rfl,⟨b,dx,k,bi,li,ti,su,rfl,hB1u.mono sx⟩,⟨b',dx',k',bi',li',ti',su',rfl,hB2u.mono sx⟩,sx.sqt (hKu p pm),(λx y nm=>_l8 rw9.fl f9 f2 he nm),λHy sy=>⟨_,rfl,_L ⟨_,rfl,sx.trans sy⟩⟩⟩
  case done3 =>
  clear sV hDd hbb hbk;rintro U Hx ⟨v5,rfl,sx⟩;obtain⟨m,hm⟩:∃m:Int,m=(if((ns.map V.int).length:Int)<((_v ks).length:Int) then if(4:Int)<((ns.map V.int).length:Int) then 4 else((ns.map V.int).length:Int) else if(4:Int)<((_v ks).length:Int) then 4 else((_v ks).length:Int)):=⟨_,rfl⟩;have rk:(_v ks).length=ks.length:=Yy ks;have nk:(ns.map V.int).length=ns.length:=Qd ..
  have mm:m<=4/\m<=ks.length/\m<=ns.length/\0<=m:=by
   rw[rk,nk] at hm;split at hm<;>split at hm<;>lia
  refine⟨_,rfl,R,_,rfl,.inl (.of (sx _ _ hRu)),_,rfl,l,_,rfl,.inl (sx.sql hlu),_,_,_,m,rfl,hm,m,rfl,by lia,by lia,_an (λi U Hx=>∃v5 v7 v8:Option V,U=[some (.ref l),some (.ref D),some (.ref R),some (.ref b),some (.ref b'),v5,some (.ref Du),v7,v8]/\Same Hu Hx) ⟨_,_,_,rfl,sx⟩ ?turn4 ?done4⟩
  case turn4 =>
   rintro i U Hx hi ⟨v5,v7,v8,rfl,sx⟩;rw[show(0:Int)+(i:Int)=i from Int.zero_add _];have il:i<m.toNat:=hi;obtain⟨c,hc⟩:=_in (ns:=ns) (z:=-1-(i:Int)) (by lia) (by lia);have k0:(0:Int)<((_v ks).length:Int):=by rw[rk];lia
   have z0:=QP ((c*39373).fmod 1000000009) k0;have z1:=QY ((c*39373).fmod 1000000009) k0;obtain⟨p,pm,hp⟩:=_ii (ks:=ks) z0 (by rw[<-rk];exact z1);refine⟨_,rfl,_,rfl,_,rfl,_,rfl,_,_,rfl,rfl,l,_,_,_,rfl,rfl,sx.sql hlu,hc,_,_,rfl,rfl,.inr ⟨by decide,by decide⟩,_,_,rfl,rfl,(by decide:(1000000009:Int)≠0),_,rfl,R,_,rfl,.inl (.of (sx _ _ hRu)),_,_,rfl,rfl,(by lia:((_v ks).length:Int)≠0),R,_,_,_,rfl,rfl,.of (sx _ _ hRu),hp,?_⟩;refine⟨_,rfl,rfl,p.2,p.1,rfl,sx.sqt (hKu p pm),_,rfl,_,_,rfl,rfl,⟨by decide,by ext⟩,_,_,rfl,rfl,?_⟩;generalize p.1.day-(i:Int).fdiv 2=dd
   have hn9:∀p∈us,∀n,p.1.bornName=some n->n≠"":=λp hp n hn=>by
    obtain⟨e,he,e1⟩:=Qj.mp (umE.mem_iff.mp (Qj.mpr ⟨p,hp,rfl⟩));exact rw9.nb e he n (by rw[<-VX,e1];exact hn)
   refine⟨_,rfl,b,dx,_,rfl,(hB1u.mono sx).ob,rfl,_,rfl,rfl,b,dx,k,bi,li,ti,su,B,dd,pool,rfl,(hB1u.mono sx),f9.g,(λp hp=>rw9.fl.td _ (f9.pm0.mem_iff.mp (Qj.mpr ⟨p,hp,rfl⟩))),f9.cnt rw9.fl,λHy c1 dx1 k1 bi1 li1 ti1 su1 C1 hC1 lc hk1 sy=>?_⟩;refine⟨_,rfl,_,rfl,rfl,.ref c1,C1,Du,dd,us,pool,rfl,⟨c1,dx1,k1,bi1,li1,ti1,su1,rfl,hC1⟩,.of ((sx.trans sy) _ _ hDu),hU.mono (sx.trans sy),by lia,_eu rw9.fl f9 lc hk1 umE so',hn9,λHz sz=>⟨_,rfl,_L ?_⟩⟩;have sz2:=(sx.trans sy).trans sz;clear hC1 lc hk1;refine⟨_,rfl,b',dx',_,rfl,(hB2u.mono sz2).ob,rfl,_,rfl,rfl,b',dx',k',bi',li',ti',su',B2,dd,pool,rfl,(hB2u.mono sz2),f2.g,(λp hp=>rw9.fl.td _ (f2.pm0.mem_iff.mp (Qj.mpr ⟨p,hp,rfl⟩))),f2.cnt rw9.fl,λHv c1 dx1 k1 bi1 li1 ti1 su1 C1 hC1 lc hk1 sv=>?_⟩;refine⟨_,rfl,_,rfl,rfl,.ref c1,C1,Du,dd,us,pool,rfl,⟨c1,dx1,k1,bi1,li1,ti1,su1,rfl,hC1⟩,.of ((sz2.trans sv) _ _ hDu),hU.mono (sz2.trans sv),by lia,_eu rw9.fl f2 lc hk1 umE so',hn9,λHw sw=>⟨_,rfl,_L ?_⟩⟩;exact⟨_,_,_,rfl,(sz2.trans sv).trans sw⟩
  case done4 =>
   rintro U Hx ⟨v5,v7,v8,rfl,sx⟩;have hB1x:=hB1u.mono sx;refine⟨_,rfl,b,dx,_,rfl,hB1x.ob,rfl,rfl,.ref b,B,rfl,⟨b,dx,k,bi,li,ti,su,rfl,hB1x⟩,(by have:=f9.len rw9.fl;lia),λHy A o sy nA pm so hA=>?_⟩;refine⟨_,rfl,.lst ((o.map λp=>p.1.row).map X3),.lst ((us.map λp=>p.1.row).map X3),⟨A,_,rfl,.of hA,WT (λp hp=>sy.sqt (hB1x.en p (pm.mem_iff.mp hp)))⟩,⟨Du,_,rfl,.of ((sx.trans sy) _ _ hDu),WT (hU.mono (sx.trans sy))⟩,.inr ⟨_,_,rfl,rfl⟩,Qs (Nat.succ_le_succ (Uu _)) (by decide),?_⟩;have ee:Xn (L2.D.lst ((o.map λp=>p.1.row).map X3)) (L2.D.lst ((us.map λp=>p.1.row).map X3))=true:=by rw[_by f9 pm so umE so'];exact U2 _
   rw[ee];exact q _
end
theorem _of {K:W.Frag} {w:World} {mg:Str->B4} (T:Tx K w mg) {vs:List V} {E:XK} (h:Jr K vs H Q E):_b3 T vs H Q E:=by
 obtain⟨a,ns,rfl,r1,r2,r3⟩:=h;exact⟨rfl,a,ns,rfl,r1,r2,r3⟩
theorem all_mk {l:W.OpenLaw} {w:World} {K:W.Frag} {mg:Str->B4} {fa:Addr} (hfa:mg "law"=some (.ref fa)) (T:Tx K w mg) :
  ∃fd:FuncData,(∀(s:Shared) (v:Value),BindsTo s fd ⟨[v],[]⟩ [("_law_script",v)])/\∀base:Heap,K.In base->base.Ns mainGlobals mg->FnOk l.prog w K mg base (YQ l.prog w) 9 fa fd ["_law_script"] (Jr K):=by
 cases hfa.symm.trans T.Us.m;refine⟨(Y5 K T.Us.a),λs v=>?_,λbase _ _=>(_md T).imp λvs H Q E z=>_of T z⟩;obtain⟨oc,od,kV,doc,pm,an,cdv,ct,osl,e,_⟩:=T.Us.F.ex;rw[e];exact .of_eq rfl
theorem walk {l:W.OpenLaw} {q:Program} {loose:A9} {XP:(Str->B4)->Heap->Prop} {YP:World->Heap->Prop} {d:DefRec} {K:Params->W.Frag} (hn:l.most=some 63) (hdf:d.params.defaults=[])
 (hY:∀(w:World) (h:Heap),YP w h->(K w.params).In h)
 (F:∀(w:World) (mg:Str->B4) (fa:Addr) (h:Heap),(K w.params).In h->h.Ns mainGlobals mg->mg d.name=some (.ref fa) →
 ∃fd:FuncData,(∀(s:Shared) (u:Value),BindsTo s fd ⟨[u],[]⟩ [("_law_script",u)])/\∀base:Heap,(K w.params).In base->base.Ns mainGlobals mg->FnOk l.prog w (K w.params) mg base (YQ l.prog w) 9 fa fd ["_law_script"] (Jr (K w.params))) :
  W.WalkO q loose XP YP l.row.toRowW d [] (λf vs=>PySem.call f vs) :=
 L2.walk_of (n:=63) (k:=9) (x:="_law_script") (CX:=λw=>YQ l.prog w) (sp:=λw=>Jr (K w.params)) hn (by decide) hdf ⟨rfl,by decide,by decide⟩ hY F (λ_ _ a ns hl _ hS=>⟨a,ns,rfl,hS,hl,λ_=>rfl⟩) λ_ _ _ _ _ ⟨_,_,_,_,_,z⟩=>z
end K09
open PySem PySem.W PyProof.Rows
set_option maxRecDepth 100000 in
set_option maxHeartbeats 0 in
theorem PySem.Challenge.cw_heirbook_k09_whole_any_order_holds : PySem.Challenge.rw_heirbook_k09_whole_any_order.Holds := by
 refine K09.hd ?_
 k_fill
 refine K09.walk (l:=PySem.Challenge.rw_heirbook_k09_whole_any_order) rfl rfl (λw h Y=>PySem.W.kIn_of Y) ?F
 case F =>
  intro w mg fa h KX G hmg;refine K09.all_mk hmg ?_;constructor
  all_goals try exact PySem.W.mg_of KX G (by k_is)
  all_goals try exact PySem.W.mg_none_of KX G (by k_is)
  all_goals try exact .of KX G (by k_is) ⟨⟨_,_,_,_,_,_,_,_,_,by k_is,by k_is⟩,by k_is⟩ λ_ _ _ _ _ _=>by first|exact L2.un1 λ_=>rfl|exact L2.un2 λ_ _=>rfl|exact L2.un3 λ_ _ _=>rfl|exact L2.un4 λ_ _ _ _=>rfl
  all_goals try exact .of (by k_is) (by k_is) ⟨⟨_,_,_,_,_,_,_,_,_,by k_is,by k_is⟩,by k_is⟩ λ_ _ _ _ _ _=>by first|exact L2.un1 λ_=>rfl|exact L2.un2 λ_ _=>rfl|exact L2.un3 λ_ _ _=>rfl|exact L2.un4 λ_ _ _ _=>rfl
  all_goals try first|k_is|kit_is|(unfold L2.NoAttr;k_is)
  all_goals try exact⟨by k_is,by k_is,by k_is⟩
  all_goals try (try dsimp only[L2.Dm.of]);exact⟨by k_is,by k_is,by k_is,by k_is⟩
  all_goals try k_exc
  all_goals try exact⟨by k_is,by k_is,by k_is,by k_is,by k_is⟩
  all_goals try exact L2.funD_mk (by k_is) (by k_is) (by k_is)
  all_goals try exact L2.binds2_of (by k_is) (by rfl) rfl (by exact L2.un4 λ_ _ _ _=>⟨_,rfl,rfl⟩)
  all_goals try exact L2.binds1_of (by k_is) (by rfl) rfl (by exact L2.un3 λ_ _ _=>⟨_,rfl,rfl⟩)
  all_goals try exact λ_=>.inr ⟨_,_,_,by k_is,rfl,rfl,L2.small1000 (Rs rfl),by repeat first|exact .nil|refine .cons rfl ?_|refine .cons ⟨_,rfl⟩ ?_⟩
