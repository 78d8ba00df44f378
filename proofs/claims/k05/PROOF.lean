import PyProof.Rows.All
import Wide.All
import OpenK.AllK
import Wide.FinOn
import Lean
import PyProof.EqAt
import PyProof.EqKinds
import PyProof.TupleCall
import PyProof.NeKinds
import PyProof.ZipIter
import PyProof.Draws
import PyProof.ConsumeWalk
import PyProof.StrCaseBound
import PyProof.StrLawsIn
import PyProof.StrLawsJoin
import PyProof.Rows.StrSplitAre
import PyProof.WalkInts
import PyProof.EnumMake
import KE.KRevSl
import PyProof.Rows.SumAny
import PyProof.Rows.SortRuns
import PyProof.Rows.SortKey
import KE.KSortTup
import KE.KDictList
import PyProof.DictValues
import PyProof.StrLawsFirst
import PyProof.AutoListH
import PyProof.AttrMissSeq
import PySem.Challenge.RW_heirbook_k05_whole_what_is_refused
set_option Elab.async false
set_option linter.all false
namespace LR
open PySem PySem.W PyProof.Rows
noncomputable abbrev Zr1:=@Fast.tw14082659384304107361
noncomputable abbrev Zq3:=Fast.tw14364793385576792824
noncomputable abbrev Zky:=@Fast.tw4187177175401517315
noncomputable def allIn (p:Program) (P:Params) (s:Shared):Bool :=
 staticsOk (importedModules p.main.body) (boot_heap P) s.heap&&namesBound p s.heap&&gensDone s&&laidKept (boot_heap P) s.heap
noncomputable abbrev sA (q:Program) (loose mods:List Str) (Xt:Shared->Bool) (g0:Bool) (s:Shared) :=
 ((Zky q loose mods Xt g0 s).1,(Zky q loose mods Xt g0 s).2.1,(Zky q loose mods Xt g0 s).2.2.1,(Zky q loose mods Xt g0 s).2.2.2.1)
noncomputable abbrev sB (q:Program) (loose mods:List Str) (Xt:Shared->Bool) (g0:Bool) (s:Shared):=(Zky q loose mods Xt g0 s).2.2.2.2
noncomputable abbrev gA (q:Program) (loose:List Str):=((openGood q loose).1,(openGood q loose).2.1,(openGood q loose).2.2.1,(openGood q loose).2.2.2.1)
noncomputable abbrev gB (q:Program) (loose:List Str):=(openGood q loose).2.2.2.2
noncomputable abbrev ran (p:Program) (m:Nat) (ann:Option Value) (N:Nat) (w:World) (os:OsState):Option Shared :=
 Zr1 Zq3 p w m ann N ⟨boot_heap w.params,Array.mk [],boot_drawn,boot_toks,os⟩ (topStub p)
theorem left_run {p q : Program} {loose : List Str} {Xt : Shared → Bool} {α : Type} {Yf : Shared → α} {Ya : World → α} {N m : Nat} {g0 : Bool} {ann : Option Value}
  (e:opening p=plainProg p.main.scope.names) (f:∀ s,fenceModules? p s=some s) (hN:Nat.ble 600 N=true)
  (h1:∀ w:World,(boot_heap w.params).isNs mainGlobals=true) (h2:∀ w:World,(boot_heap w.params).objs.size=m) (h3:∀ w:World,(boot_heap w.params).nsMap mainGlobals "__annotations__"=ann)
  (r1:∀ (w:World) (os:OsState),(ran p m ann N w os).map (allIn p w.params)=some true)
  (r2:∀ (w:World) (os:OsState),(ran p m ann N w os).map (sA q loose (importedModules p.main.body) Xt g0)=some (gA q loose))
  (r2':∀ (w:World) (os:OsState),(ran p m ann N w os).map (sB q loose (importedModules p.main.body) Xt g0)=some (gB q loose))
  (r3:∀ (w:World) (os:OsState),(ran p m ann N w os).map Yf=some (Ya w)):LeftO p q loose Xt Yf Ya N g0:=by
 intro w
 cases hb:fencedOpening treeTable p w N with
 | none=>have z:=boot_open e hN f w; rw [hb] at z; cases z
 | some s0 =>
  have z:=boot_open e hN f w
  rw [hb] at z
  obtain ⟨h,gs,d,k,os⟩:=s0
  injection z with z
  injection z with z4 z; injection z with z5 z; injection z with z6 z7
  dsimp only at z4 z5 z6 z7
  subst z4 z5 z6 z7
  have a:=r1 w os
  have b:=r2 w os
  have b':=r2' w os
  have c:=r3 w os
  unfold ran Zr1 Zq3 at a b b' c
  unfold sA gA Zky at b
  unfold sB gB Zky at b'
  rw [← Fast.te14082659384304107361,← Fast.te14364793385576792824] at a b b' c
  rw [← Fast.te4187177175401517315] at b b'
  cases hs:topRun treeTable p w m ann N ⟨boot_heap w.params,Array.mk [],boot_drawn,boot_toks,os⟩ (topStub p) with
  | none=>rw [hs] at a; cases a
  | some s =>
   rw [hs] at a b b' c
   injection a with a
   injection b with b
   injection b' with b'
   injection b with x1 b; injection b with x2 b; injection b with x3 x4
   injection c with c
   have b:openSeen q loose (importedModules p.main.body) Xt g0 s=openGood q loose:=Prod.ext x1 (Prod.ext x2 (Prod.ext x3 (Prod.ext x4 b')))
   have t:topFrom treeTable p w N ⟨boot_heap w.params,Array.mk [],boot_drawn,boot_toks,os⟩=some s:=by
    unfold topFrom
    simp only [h1 w,h2 w,h3 w,hs]
    unfold allIn at a
    show (Option.bind (some s) fun x=>_)=_
    rw [Option.bind_some,a]
   show Option.map _ (Option.bind (fencedOpening treeTable p w N) _)=_
   rw [hb,Option.bind_some,t,Option.map_some,b,c]
noncomputable def Zr3 (st:SharedT->Thread->Option (SharedT × Thread)) (ok:Thread->Bool):Nat->SharedT->Thread->Option SharedT:=fun n =>
 Nat.rec (motive:=fun _=>SharedT->Thread->Option SharedT) (fun _ _=>none) (fun _ ih s t=>match through t with
  | true=>some s
  | false=>match ok t with
   | false=>none
   | true=>match st s t with
    | some (s',t')=>ih s' t'
    | none=>none) n
theorem Zlw {tb:String->Option Builtin} {p:Program} {w:World} {n₀:Nat} {ann:Option Value}:∀ (n:Nat) (s:SharedT) (t:Thread) (s':SharedT),Zr3 (stepT (denote tb) p w) (stepOk n₀ ann) n s t=some s'->topRun tb p w n₀ ann n s.abs t=some s'.abs
 | 0,_,_,_,h=>by cases h
 | n+1,s,t,s',h=>by
  have h2:(match through t with
   | true=>some s
   | false=>match stepOk n₀ ann t with
    | false=>none
    | true=>match stepT (denote tb) p w s t with
     | some (s',t')=>Zr3 (stepT (denote tb) p w) (stepOk n₀ ann) n s' t'
     | none=>none)=some s':=h
  unfold topRun
  cases ht:through t with
  | true=>rw [ht] at h2; cases h2; rfl
  | false =>
   rw [ht] at h2
   cases hk:stepOk n₀ ann t with
   | false=>rw [hk] at h2; cases h2
   | true =>
    rw [hk] at h2
    cases hs:stepT (denote tb) p w s t with
    | none=>rw [hs] at h2; cases h2
    | some r =>
     obtain ⟨s₂,t₂⟩:=r
     rw [hs] at h2
     rw [stepT_spec hs]
     exact Zlw n s₂ t₂ s' h2
noncomputable def ZrK (P:Params) (m:Nat):BT:=Nat.rec (motive:=fun _=>BT) .nil (fun i T=>T.ins i (((boot_heap P).objs[i]?).getD default)) m
noncomputable abbrev Zq0:=@Fast.tw10156331382660048174
noncomputable abbrev Zsa:=@Fast.tw11892475500146522536
noncomputable abbrev fOk:=@Fast.tw6613529449190102663
noncomputable abbrev s0T (P:Params) (m:Nat) (os:OsState):SharedT:=⟨ZrK P m,m,(boot_heap P).life,Array.mk [],boot_drawn,boot_toks,os⟩
noncomputable abbrev ranT (p:Program) (m:Nat) (ann:Option Value) (N:Nat) (w:World) (os:OsState):Option SharedT :=
 Zr3 (Zq0 (Zsa Zq3) p w) (fOk m ann) N (s0T w.params m os) (topStub p)
theorem Zow {p:Program} {m:Nat} {ann:Option Value} {N:Nat} {w:World} {os:OsState} (hb:(s0T w.params m os).abs=⟨boot_heap w.params,Array.mk [],boot_drawn,boot_toks,os⟩) {s:SharedT} (h:ranT p m ann N w os=some s):ran p m ann N w os=some s.abs:=by
 unfold ranT Zq0 Zsa fOk Zq3 at h
 rw [← Fast.te10156331382660048174,← Fast.te11892475500146522536,← Fast.te6613529449190102663,← Fast.te14364793385576792824] at h
 have:=Zlw _ _ _ _ h
 rw [hb] at this
 unfold ran Zr1 Zq3
 rw [← Fast.te14082659384304107361,← Fast.te14364793385576792824]
 exact this
theorem mapT {α:Type} {p:Program} {m:Nat} {ann:Option Value} {N:Nat} {w:World} {os:OsState} (hb:(s0T w.params m os).abs=⟨boot_heap w.params,Array.mk [],boot_drawn,boot_toks,os⟩) {f:Shared->α} {a:α} (h:(ranT p m ann N w os).map (fun s=>f s.abs)=some a):(ran p m ann N w os).map f=some a:=by
 cases e:ranT p m ann N w os with
 | none=>rw [e] at h; cases h
 | some s =>
  rw [e] at h
  rw [Zow hb e]
  exact h
end LR
namespace K5
open PySem PySem.W PyProof.Rows
abbrev rwOf:OpenLaw:=PySem.Challenge.rw_heirbook_k05_whole_what_is_refused
abbrev pwOf:Program:=PySem.Challenge.pw_heirbook_k05_whole_what_is_refused
noncomputable def vw:Program:=view pwOf [0,2,3,4,5,6,7,8,10,12,13,14,15,16,17,18,19,20,21,22,23,24,25,27,28,30,31,32,33,35,36,37,38,39,40,41,42,43,44,45,46,47,48,49]
noncomputable abbrev lo:List Str:=["FORMS"]
noncomputable abbrev xt (s:Shared):Bool:=xlAt vw [] s&&recOk (RowW.records (OpenRow.toRowW (OpenLaw.row rwOf))) s
noncomputable abbrev rn:=LR.ranT pwOf 11 (some (.ref 6)) 3423
set_option maxRecDepth 100000
set_option maxHeartbeats 0
theorem said:OpenLaw.wellSaid rwOf=true:=by kernel_rfl
theorem hb (w:World) (os:OsState):(LR.s0T w.params 11 os).abs=⟨boot_heap w.params,Array.mk [],boot_drawn,boot_toks,os⟩:=by kernel_rfl
theorem r1T (w:World) (os:OsState):(rn w os).map (fun s=>(LR.allIn pwOf w.params) s.abs)=some (true):=by kernel_rfl
theorem r1 (w:World) (os:OsState):(LR.ran pwOf 11 (some (.ref 6)) 3423 w os).map (LR.allIn pwOf w.params)=some (true):=LR.mapT (hb w os) (r1T w os)
theorem r2T (w:World) (os:OsState):(rn w os).map (fun s=>(LR.sA vw lo (importedModules pwOf.main.body) xt true) s.abs)=some (LR.gA vw lo):=by kernel_rfl
theorem r2 (w:World) (os:OsState):(LR.ran pwOf 11 (some (.ref 6)) 3423 w os).map (LR.sA vw lo (importedModules pwOf.main.body) xt true)=some (LR.gA vw lo):=LR.mapT (hb w os) (r2T w os)
theorem r3T (w:World) (os:OsState):(rn w os).map (fun s=>(LR.sB vw lo (importedModules pwOf.main.body) xt true) s.abs)=some (LR.gB vw lo):=by kernel_rfl
theorem r3 (w:World) (os:OsState):(LR.ran pwOf 11 (some (.ref 6)) 3423 w os).map (LR.sB vw lo (importedModules pwOf.main.body) xt true)=some (LR.gB vw lo):=LR.mapT (hb w os) (r3T w os)
end K5
local macro_rules
 | `(tactic| o_law)=>`(tactic| refine PySem.W.holds_law K5.said fun sd=>?_)
local macro_rules
 | `(tactic| o_head $H)=>do
  let hw:=Lean.mkIdent `hw
  let hc:=Lean.mkIdent `hc
  `(tactic| (
   refine PySem.W.holds_open (q:=K5.vw) (loose:=K5.lo) (N:=3423) (Xt:=K5.xt) (XP:=PySem.W.XL K5.vw []) (Yf:=PySem.W.Hook.obs $H)
    (Ya:=PySem.W.Hook.val $H) (YP:=PySem.W.Hook.says $H)
    (LR.left_run (p:=K5.pwOf) (m:=11) (ann:=(some (.ref 6))) ?e1 ?e2 (by decide) ?e3 ?e4 ?e5 K5.r1 K5.r2 K5.r3 ?e6)
    (PySem.W.Hook.of $H) (PySem.W.Hook.keeps $H) ?f1
    PySem.W.XL.keeps (by rfl) (by rfl) (by rfl) ?f2 ?g4 ?g5 ?g6 ?g7 ?$hw ?$hc
   case e1=>kernel_rfl
   case e2=>intro s; kernel_rfl
   case e3=>intro w; kernel_rfl
   case e4=>intro w; kernel_rfl
   case e5=>intro w; kernel_rfl
   case e6=>(intro w os; refine LR.mapT (K5.hb w os) ?_; kernel_rfl)
   case f1=>intro s e; exact PySem.W.xl_of s (Bool.and_eq_true_iff.mp e).1
   case f2=>intro s e; exact PySem.W.recFacts_of (Bool.and_eq_true_iff.mp e).2
   case g4=>rfl
   case g5=>assumption
   case g6=>decide +kernel
   case g7=>exact ⟨rfl,rfl,rfl,rfl,rfl,by decide +kernel⟩))
set_option maxRecDepth 100000 in
set_option maxHeartbeats 0 in
open_top K5.hd for PySem.Challenge.rw_heirbook_k05_whole_what_is_refused
set_option maxRecDepth 100000
namespace L2
open PySem PySem.Spec PyProof.Rows
abbrev Key:=Sum Int Str
noncomputable def ZkB:Key->Value->Bool
 | .inl k,v=>Value.isInt k v
 | .inr x,v=>Value.isStrOf x v
noncomputable def ZsH (w:World):Key->Int
 | .inl k=>hashInt k
 | .inr x=>hashStr w x
theorem Zbo:∀ {k:Key} {v:Value},ZkB k v=true->(∃ i t,k=Sum.inl i∧v=Value.int i t)∨(∃ x t,k=Sum.inr x∧v=Value.str x t)
 | .inl i,v,h=>by
  obtain ⟨t,e⟩:=Value.isInt_shape (k:=i) (v:=v) h
  exact .inl ⟨i,t,rfl,e⟩
 | .inr x,v,h=>by
  obtain ⟨t,e⟩:=Value.isStrOf_shape (x:=x) (v:=v) h
  exact .inr ⟨x,t,rfl,e⟩
theorem ZnU (i:Int) (t:Tok):ZkB (.inl i) (.int i t)=true:=by simp [ZkB,Value.isInt]
theorem ZnO (x:Str) (t:Tok):ZkB (.inr x) (.str x t)=true:=by simp [ZkB,Value.isStrOf]
theorem Zrj (a b:Int):decide ((Sum.inl a:Key)=Sum.inl b)=(a == b):=by
 by_cases e:a=b
 ·subst e; simp
 ·have h:¬ (Sum.inl a:Key)=Sum.inl b:=fun q=>e (Sum.inl.inj q)
  rw [decide_eq_false h]
  exact (beq_eq_false_iff_ne.mpr e).symm
theorem ZqA (a b:Str):decide ((Sum.inr a:Key)=Sum.inr b)=decide (a=b):=by
 by_cases e:a=b
 ·subst e; simp
 ·have h:¬ (Sum.inr a:Key)=Sum.inr b:=fun q=>e (Sum.inr.inj q)
  rw [decide_eq_false h,decide_eq_false e]
theorem Zrs (a:Int) (b:Str):decide ((Sum.inl a:Key)=Sum.inr b)=false:=decide_eq_false (fun q=>nomatch q)
theorem Zra (a:Str) (b:Int):decide ((Sum.inr a:Key)=Sum.inl b)=false:=decide_eq_false (fun q=>nomatch q)
noncomputable def Zbi (prog:Program) (w:World):PySem.KeyKind prog w Key where
 is:=ZkB
 hash:=ZsH w
 inj:=fun v a b ha hb=>by
  rcases Zbo ha with ⟨i,t,rfl,rfl⟩ | ⟨x,t,rfl,rfl⟩
  ·rcases Zbo hb with ⟨j,u,rfl,e⟩ | ⟨y,u,rfl,e⟩
   ·injection e with e1 _; rw [e1]
   ·exact nomatch e
  ·rcases Zbo hb with ⟨j,u,rfl,e⟩ | ⟨y,u,rfl,e⟩
   ·exact nomatch e
   ·injection e with e1 _; rw [e1]
 byValue:=fun k v h=>by
  rcases Zbo h with ⟨i,t,rfl,rfl⟩ | ⟨x,t,rfl,rfl⟩ <;> rfl
 pyHash:=fun hv h=>by
  rcases Zbo hv with ⟨i,t,rfl,rfl⟩ | ⟨x,t,rfl,rfl⟩
  ·exact wpAny_pyHash_int h
  ·exact wpAny_pyHash_str h
 eqBool:=fun hu hv h=>by
  rcases Zbo hu with ⟨i,t,rfl,rfl⟩ | ⟨x,t,rfl,rfl⟩
  ·rcases Zbo hv with ⟨j,u,rfl,rfl⟩ | ⟨y,u,rfl,rfl⟩
   ·rw [Zrj] at h; exact wpAny_eqBool_int h
   ·rw [Zrs] at h; exact SeqAt.EqAt.int_str i t y u _ _ _ _ h
  ·rcases Zbo hv with ⟨j,u,rfl,rfl⟩ | ⟨y,u,rfl,rfl⟩
   ·rw [Zra] at h; exact SeqAt.EqAt.str_int x t j u _ _ _ _ h
   ·rw [ZqA] at h; exact wpAny_eqBool_str h
 «strs»:=fun k x t v h=>by
  rcases Zbo h with ⟨i,u,rfl,e⟩ | ⟨y,u,rfl,e⟩
  ·exact nomatch e
  ·injection e with e1 _
   subst e1
   cases v <;> rfl
theorem ZkE (prog:Program) (w:World) (i:Int) (t:Tok):(Zbi prog w).is (.inl i) (.int i t)=true:=ZnU i t
theorem Zk3 (prog:Program) (w:World) (x:Str) (t:Tok):(Zbi prog w).is (.inr x) (.str x t)=true:=ZnO x t
inductive V where
 | non | bl (b:Bool) | int (i:Int) | str (x:Str) | byt (b:Array UInt8) | flt (b:UInt64) | ref (a:Addr) | ty (n:String)
 deriving DecidableEq
def RelV:V->Value->Prop
 | .non,u=>u=Value.none
 | .bl b,u=>u=Value.bool b
 | .int i,u=>∃ t,u=Value.int i t
 | .str x,u=>∃ t,u=Value.str x t
 | .byt b,u=>∃ t,u=Value.bytes b t
 | .flt b,u=>∃ t,u=Value.float b t
 | .ref a,u=>u=Value.ref a
 | .ty n,u=>u=Value.type n
abbrev Vals:List V->List Value->Prop:=Paired RelV
theorem Vals.length {xs:List V} {us:List Value} (r:Vals xs us):xs.length=us.length:=Paired.length r
theorem Vals.get:∀ {xs:List V} {us:List Value} {i:Nat} {x:V},Vals xs us->xs[i]?=some x->∃ u,us[i]?=some u∧RelV x u
 | _,_,_,_,.nil,e=>by simp at e
 | _,_,0,_,.cons r _,e=>by simp at e; subst e; exact ⟨_,rfl,r⟩
 | _,_,i+1,x,.cons _ t,e=>by
  obtain ⟨u,h1,h2⟩:=Vals.get (i:=i) (x:=x) t (by simpa using e)
  exact ⟨u,by simpa using h1,h2⟩
theorem Vals.append:∀ {xs ys:List V} {us ws:List Value},Vals xs us->Vals ys ws->Vals (xs++ys) (us++ws)
 | _,_,_,_,.nil,s=>s
 | _,_,_,_,.cons r t,s=>.cons r (Vals.append t s)
theorem Vals.take:∀ {xs:List V} {us:List Value} (n:Nat),Vals xs us->Vals (xs.take n) (us.take n)
 | _,_,0,_=>.nil
 | _,_,_+1,.nil=>.nil
 | _,_,n+1,.cons r t=>.cons r (Vals.take n t)
theorem Vals.drop:∀ {xs:List V} {us:List Value} (n:Nat),Vals xs us->Vals (xs.drop n) (us.drop n)
 | _,_,0,r=>r
 | _,_,_+1,.nil=>.nil
 | _,_,n+1,.cons _ t=>Vals.drop n t
def RelO:Option V->Option Value->Prop
 | some v,some u=>RelV v u
 | none,none=>True
 | _,_=>False
def KV {κ:Type}:List (κ × V)->List (κ × Value)->Prop:=Paired fun (p:κ × V) (q:κ × Value)=>p.1=q.1∧RelV p.2 q.2
noncomputable def kV:Key->V
 | .inl i=>.int i
 | .inr x=>.str x
inductive HO where
 | lst (xs:List V)
 | tup (xs:List V)
 | dK (kvs:List (Key × V)) | dT (kvs:List (List Key × V))
 | set (S:Int->Bool) (n:Nat)
 | ins (C dx:Addr) (fs:List (Str × V))
 | own (x:Addr)
 | xd (fs:List (Str × V))
 | met (f x:Addr)
 | rng (lo hi:Int)
 | frz (o:Obj) (u:HO)
 | tbl (ps:Array Value)
 | ext (φ:Heap->Prop)
abbrev Hp:=Addr->Option HO
noncomputable def upd (H:Hp) (a:Addr) (o:HO):Hp:=fun b=>if b=a then some o else H b
theorem Zab {H:Hp} {a:Addr} {o:HO}:upd H a o a=some o:=by unfold upd; rw [if_pos rfl]
theorem Zai {H:Hp} {a b:Addr} {o:HO} (h:b≠a):upd H a o b=H b:=by unfold upd; rw [if_neg h]
theorem Zqx {H:Hp} {a b:Addr} {o u:HO} (h:H a=some o) (h':H b=some u) (d:o≠u):a≠b:=by
 intro e; subst e; rw [h] at h'; exact d (Option.some.inj h')
theorem Zal {H:Hp} {a b:Addr} {o:HO} (h:H a=some o) (h':H b=none):a≠b:=by
 intro e; subst e; rw [h] at h'; cases h'
section
variable (P:Program) (w:World)
def ObjOk (H:Hp) (h:Heap) (a:Addr):HO->Prop
 | .lst xs=>xs.length≤sizeLine∧∃ (its:List Value) (n:Nat),Vals xs its∧h.get? a=some { cls:=.type "list",data:=.seq its.toArray n }
 | .tup xs=>xs.length≤sizeLine∧∃ its:List Value,Vals xs its∧IsTup h a its.toArray
 | .dK kvs=>kvs.length≤sizeLine∧(a == sysModules)=false∧∃ vs,KV kvs vs∧h.DictOf (Zbi P w) a vs
 | .dT kvs => kvs.length ≤ sizeLine ∧ (a == sysModules)=false ∧ ∃ xs : List (List Key × Addr × Value),
   Paired (fun (p:List Key × V) (q:List Key × Addr × Value)=>p.1=q.1∧H q.2.1=some (.tup (p.1.map kV))∧RelV p.2 q.2.2) kvs xs ∧
   ∃ o es ep,h.get? a=some o∧o.ExactDict∧o.data=.dict es ep∧es.toList=xs.map (entryOfKey (tupleKind (Zbi P w)))∧(xs.map (·.1)).Nodup
 | .set S n=>h.SetOf (intKind P w) a S n
 | .ins C dx fs => H dx=some (.own a) ∧ fs.length ≤ 1000 ∧ dx ≠ a ∧ h.get? a=some (W.instObj C dx) ∧
   ∃ mA,h.Ns1 dx mA∧(∀ f,RelO (fs.lookup f) (mA f))∧PySem.Within mA (fs.map (·.1))
 | .own _=>∃ o,h.get? a=some o
 | .xd fs=>∃ mA,h.Ns1 a mA∧∀ f,RelO (fs.lookup f) (mA f)
 | .rng lo hi=>∃ t u v,h.get? a=some { cls:=.type "range",data:=.fields #[.int lo t,.int hi u,.int 1 v] }
 | .frz o u=>h.get? a=some o∧ObjOk H h a u
 | .tbl ps=>h.get? a=some { cls:=.none,data:=.fields ps }
 | .met f x=>h.get? a=some (W.methodObj (.ref f) (.ref x))
 | .ext φ=>φ h∧(∃ o,h.get? a=some o)∧∀ h1 h2:Heap,φ h1->(∀ o,h1.get? a=some o->h2.get? a=some o)->φ h2
def HOk (H:Hp) (h:Heap):Prop:=∀ a o,H a=some o->ObjOk P w H h a o
end
section
variable {P:Program} {w:World} {H H':Hp} {h h':Heap} {a:Addr} {o:HO}
theorem ObjOk.lt (x:ObjOk P w H h a o):a<h.objs.size:=by
 cases o with
 | lst xs=>obtain ⟨_,_,_,_,e⟩:=x; exact Heap.lt_size e
 | tup xs=>obtain ⟨_,_,_,p⟩:=x; exact p.lt
 | dK kvs=>obtain ⟨_,_,_,_,o,_,_,e,_⟩:=x; exact Heap.lt_size e
 | dT kvs=>obtain ⟨_,_,_,_,o,_,_,e,_⟩:=x; exact Heap.lt_size e
 | set S n=>obtain ⟨o,_,_,_,e,_⟩:=x; exact Heap.lt_size e
 | ins C dx fs=>obtain ⟨_,_,_,e,_⟩:=x; exact Heap.lt_size e
 | own y=>obtain ⟨_,e⟩:=x; exact Heap.lt_size e
 | xd fs=>obtain ⟨_,⟨_,_,_,e,_⟩,_⟩:=x; exact Heap.lt_size e
 | rng lo hi=>obtain ⟨_,_,_,e⟩:=x; exact Heap.lt_size e
 | frz ob u=>obtain ⟨e,_⟩:=x; exact Heap.lt_size e
 | tbl ps=>exact Heap.lt_size (show h.get? a=some _ from x)
 | met f y=>exact Heap.lt_size (show h.get? a=some _ from x)
 | ext φ=>obtain ⟨_,⟨_,e⟩,_⟩:=x; exact Heap.lt_size e
theorem Paired.mapP {α β:Type} {F G:α->β->Prop}:∀ {l₁:List α} {l₂:List β},Paired F l₁ l₂->(∀ a b,F a b->G a b)->Paired G l₁ l₂
 | _,_,.nil,_=>.nil
 | _,_,.cons r t,f=>.cons (f _ _ r) (Paired.mapP t f)
theorem ObjOk.stay (x : ObjOk P w H h a o) (k : ∀ b u, (b=a ∨ H b=some (.own a)) → h.get? b=some u → h'.get? b=some u)
  (ho:∀ b,H b=some (.own a)->H' b=some (.own a)) (ht:∀ b xs,H b=some (.tup xs)->H' b=some (.tup xs)):ObjOk P w H' h' a o:=by
 induction o with
 | lst xs=>obtain ⟨z,its,n,r,e⟩:=x; exact ⟨z,its,n,r,k _ _ (.inl rfl) e⟩
 | tup xs=>obtain ⟨z,its,r,ob,e,c⟩:=x; exact ⟨z,its,r,ob,k _ _ (.inl rfl) e,c⟩
 | dK kvs=>obtain ⟨z,y,vs,r,ob,es,ep,e,c⟩:=x; exact ⟨z,y,vs,r,ob,es,ep,k _ _ (.inl rfl) e,c⟩
 | dT kvs =>
  obtain ⟨z,y,xs,r,ob,es,ep,e,c⟩:=x
  exact ⟨z,y,xs,Paired.mapP r fun p q z=>⟨z.1,ht _ _ z.2.1,z.2.2⟩,ob,es,ep,k _ _ (.inl rfl) e,c⟩
 | set S n=>obtain ⟨ob,es,ep,t,e,c⟩:=x; exact ⟨ob,es,ep,t,k _ _ (.inl rfl) e,c⟩
 | ins C dx fs =>
  obtain ⟨d,z,ne,e,mA,⟨od,es,ep,e2,c⟩,r⟩:=x
  exact ⟨ho _ d,z,ne,k _ _ (.inl rfl) e,mA,⟨od,es,ep,k _ _ (.inr d) e2,c⟩,r⟩
 | own y=>obtain ⟨ob,e⟩:=x; exact ⟨ob,k _ _ (.inl rfl) e⟩
 | xd fs=>obtain ⟨mA,⟨od,es,ep,e,c⟩,r⟩:=x; exact ⟨mA,⟨od,es,ep,k _ _ (.inl rfl) e,c⟩,r⟩
 | rng lo hi=>obtain ⟨t,u,v,e⟩:=x; exact ⟨t,u,v,k _ _ (.inl rfl) e⟩
 | frz ob u ih=>obtain ⟨e,q⟩:=x; exact ⟨k _ _ (.inl rfl) e,ih q⟩
 | tbl ps =>
  have e:h.get? a=some { cls:=.none,data:=.fields ps }:=x
  show h'.get? a=some { cls:=.none,data:=.fields ps }
  exact k a _ (.inl rfl) e
 | met f y =>
  have e:h.get? a=some (W.methodObj (.ref f) (.ref y)):=x
  show h'.get? a=some (W.methodObj (.ref f) (.ref y))
  exact k a _ (.inl rfl) e
 | ext φ=>obtain ⟨p,⟨o,e⟩,st⟩:=x; exact ⟨st _ _ p fun o q=>k _ _ (.inl rfl) q,⟨o,k _ _ (.inl rfl) e⟩,st⟩
theorem HOk.lt (x:HOk P w H h) (e:H a=some o):a<h.objs.size:=(x a o e).lt
theorem HOk.fresh (x:HOk P w H h) (e:h.objs.size≤a):H a=none:=by
 cases q:H a with
 | none=>rfl
 | some u=>exact absurd (Nat.lt_of_lt_of_le (x.lt q) e) (Nat.lt_irrefl _)
theorem HOk.kept (x:HOk P w H h) (k:∀ b u,h.get? b=some u->h'.get? b=some u):HOk P w H h':=fun a o e =>
 (x a o e).stay (fun b u _ q=>k b u q) (fun _ q=>q) fun _ _ q=>q
theorem HOk.laid (x:HOk P w H h) (k:∀ b u,h.get? b=some u->h'.get? b=some u) (hp:h.objs.size≤a) (new:ObjOk P w (upd H a o) h' a o):HOk P w (upd H a o) h':=fun b u e=>by
 have hn:=x.fresh hp
 by_cases hb:b=a
 ·subst hb; rw [Zab] at e; cases e; exact new
 ·rw [Zai hb] at e
  exact (x b u e).stay (fun c v _ q=>k c v q) (fun c q=>by rw [Zai (Zal q hn)]; exact q) fun c xs q=>by rw [Zai (Zal q hn)]; exact q
end
def Rd (H:Hp) (a:Addr) (u:HO):Prop:=H a=some u∨∃ o,H a=some (.frz o u)
theorem Rd.ok {P:Program} {w:World} {H:Hp} {h:Heap} {a:Addr} {u:HO} (r:Rd H a u) (x:HOk P w H h):ObjOk P w H h a u:=by
 rcases r with r | ⟨o,r⟩
 ·exact x a u r
 ·obtain ⟨_,q⟩:=x a _ r
  exact q
def Mut:Option HO->Prop
 | some (.lst _)=>True
 | some (.dK _)=>True
 | some (.dT _)=>True
 | some (.set _ _)=>True
 | some (.ins _ _ _)=>True
 | some (.ext _)=>True
 | _=>False
section
variable {P:Program} {w:World} {H:Hp} {h h':Heap} {x e:Addr} {o':HO}
theorem HOk.write (ok : HOk P w H h) (mu : Mut (H x)) (he : e=x ∨ H e=some (.own x)) (k : ∀ b u, b ≠ e → h.get? b=some u → h'.get? b=some u) (heo : ∃ u, h'.get? e=some u)
  (new:ObjOk P w (upd H x o') h' x o'):HOk P w (upd H x o') h':=fun b u q=>by
 have nown:∀ c y,H c=some (.own y)->c≠x:=fun c y r z=>by subst z; rw [r] at mu; exact mu
 have ntup:∀ c xs,H c=some (.tup xs)->c≠x:=fun c xs r z=>by subst z; rw [r] at mu; exact mu
 by_cases hb:b=x
 ·subst hb; rw [Zab] at q; cases q; exact new
 ·rw [Zai hb] at q
  by_cases hbe:b=e
  ·have q':H b=some (.own x):=by
    rcases he with z | z
    ·exact absurd (hbe.trans z) hb
    ·rw [hbe]; exact z
   rw [q] at q'; cases q'
   obtain ⟨v,hv⟩:=heo
   exact ⟨v,by rw [hbe]; exact hv⟩
  ·refine (ok b u q).stay (fun c v hc r=>k c v ?_ r) (fun c r=>by rw [Zai (nown c b r)]; exact r) fun c xs r=>by rw [Zai (ntup c xs r)]; exact r
   rcases hc with rfl | hc
   ·exact hbe
   ·rintro rfl
    rcases he with z | z
    ·exact nown c b hc z
    ·rw [hc] at z; cases z; exact hb rfl
end
structure Un (fs ex:List Addr) (H H':Hp) (h h':Heap):Prop where
 keep:∀ b o,h.get? b=some o->H b=none->b ∉ fs->b ∉ ex->h'.get? b=some o
 slot:∀ b o,h.get? b=some o->H b=none->b∈fs->b ∉ ex->∃ sl,h'.get? b=some { o with slots:=sl }
 free:∀ b o,h.get? b=some o->H b=none->b ∉ ex->H' b=none
 there:∀ b o,h.get? b=some o->b ∉ ex->∃ o',h'.get? b=some o'
 tups:∀ b xs,H b=some (.tup xs)->H' b=some (.tup xs)
 frzs:∀ b o u,H b=some (.frz o u)->H' b=some (.frz o u)
 tbls:∀ b ps,H b=some (.tbl ps)->∃ more,H' b=some (.tbl (ps++more))
section
variable {fs fs' ex ex':List Addr} {H H1 H2:Hp} {h h1 h2 h':Heap} {a x e:Addr} {o:HO}
theorem Un.any (u:Un fs ex H H1 h h1) {b:Addr} {ob:Obj} (q:h.get? b=some ob) (n:H b=none) (hx:b ∉ ex):∃ sl,h1.get? b=some { ob with slots:=sl }:=by
 by_cases hb:b∈fs
 ·exact u.slot b ob q n hb hx
 ·exact ⟨ob.slots,u.keep b ob q n hb hx⟩
theorem Un.kept (k:∀ b u,h.get? b=some u->h'.get? b=some u):Un fs ex H H h h' :=
 ⟨fun b ob q _ _ _=>k b ob q,fun b ob q _ _ _=>⟨ob.slots,k b ob q⟩,fun _ _ _ n _=>n,fun b ob q _=>⟨ob,k b ob q⟩,fun _ _ q=>q,fun _ _ _ q=>q,fun _ ps q=>⟨#[],by rw [q]; simp⟩⟩
theorem Un.refl:Un fs ex H H h h:=Un.kept fun _ _ q=>q
theorem Un.laid (k:∀ b u,h.get? b=some u->h'.get? b=some u) (hp:h.objs.size≤a) (hn:H a=none):Un fs ex H (upd H a o) h h' where
 keep:=fun b u q _ _ _=>k b u q
 slot:=fun b u q _ _ _=>⟨u.slots,k b u q⟩
 free:=fun b u q n _=>by rw [Zai (Nat.ne_of_lt (Nat.lt_of_lt_of_le (Heap.lt_size q) hp))]; exact n
 there:=fun b u q _=>⟨u,k b u q⟩
 tups:=fun b xs q=>by rw [Zai (Zal q hn)]; exact q
 frzs:=fun b u xs q=>by rw [Zai (Zal q hn)]; exact q
 tbls:=fun b ps q=>⟨#[],by rw [Zai (Zal q hn),q]; simp⟩
theorem Un.write (mu:Mut (H x)) (he:e=x∨H e=some (.own x)) (k:∀ b u,b≠e->h.get? b=some u->h'.get? b=some u) (heo:∃ u,h'.get? e=some u):Un fs ex H (upd H x o) h h':=by
 have hx:∀ b,H b=none->b≠x:=fun b n z=>by subst z; rw [n] at mu; exact mu
 have hb:∀ b,H b=none->b≠e:=fun b n z=>by
  subst z
  rcases he with r | r
  ·exact hx b n r
  ·rw [n] at r; cases r
 have hm:∀ b u,H b=some u->¬ Mut (some u)->b≠x:=fun b u q nm z=>by subst z; rw [q] at mu; exact nm mu
 refine ⟨fun b u q n _ _=>k b u (hb b n) q,fun b u q n _ _=>⟨u.slots,k b u (hb b n) q⟩,fun b u q n _=>by rw [Zai (hx b n)]; exact n,fun b u q _=>?_,
  fun b xs q=>by rw [Zai (hm b _ q fun z=>z)]; exact q,fun b u xs q=>by rw [Zai (hm b _ q fun z=>z)]; exact q,fun b ps q=>⟨#[],by rw [Zai (hm b _ q fun z=>z),q]; simp⟩⟩
 by_cases hbe:b=e
 ·subst hbe; exact heo
 ·exact ⟨u,k b u hbe q⟩
end
noncomputable def trk (h:Heap) (H:Hp):List Addr:=(List.range h.objs.size).filter fun a=>(H a).isSome
noncomputable def Zos (h:Heap) (H:Hp):Heap:=W.hideAll h (trk h H)
theorem ZnG (h:Heap) (H:Hp):(Zos h H).objs.size=h.objs.size:=W.hideAll_size _ _
theorem ZoO {h:Heap} {H:Hp} {b:Addr} {o:Obj} (e:h.get? b=some o) (n:H b=none):(Zos h H).get? b=some o :=
 W.hideAll_get _ e fun hm=>by
  have q:(H b).isSome=true:=(List.mem_filter.mp hm).2
  rw [n] at q; simp at q
theorem Zpy {h:Heap} {H:Hp} {b:Addr} {o:Obj} (e:(Zos h H).get? b=some o):h.get? b=some o∧H b=none:=by
 have e':h.get? b=some o:=W.of_hideAll (trk h H) e
 refine ⟨e',?_⟩
 cases q:H b with
 | none=>rfl
 | some x =>
  have hm:b∈trk h H:=List.mem_filter.mpr ⟨List.mem_range.mpr (Heap.lt_size e'),by simp [q]⟩
  have z:(Zos h H).get? b=none:=W.hideAll_none (trk h H) hm
  rw [z] at e; cases e
structure Mod (K:W.Frag) (mg:Str->Option Value) (base:Heap):Prop where
 kin:K.In base
 glob:base.Ns mainGlobals mg
 blt:∃ mb,base.Ns builtinsNs mb∧∀ x:Str,x≠"__name__"->mb x=bootBuiltins x
 nolimit:base.NoLimit
structure Cx where
 prog:Program
 w:World
 K:W.Frag
 mg:Str->Option Value
 base:Heap
 A:Around
 N:List Str
 s₀:Shared
 H₀:Hp
 env:Env
 outer:List Env
 stack:List Env
 ex:List Addr
 fn:Str->Bool
 calm:Bool
 pn:List (Addr × Obj)
 xe:Value->Shared->Prop
noncomputable def frs (l:List Env):List Addr:=l.filterMap (·.frame)
noncomputable abbrev Cx.fs (X:Cx):List Addr:=frs X.outer
def Vis (sc:Scope) (x:Str):Prop:=sc.names.lookup x=some .local∨sc.names.lookup x=some .cell∨sc.names.lookup x=some .free
def Loc (sc:Scope) (x:Str):Prop:=sc.names.lookup x=some .local∨sc.names.lookup x=some .cell
def ZsI (env:Env) (h:Heap) (m:Str->Option Value) (x:Str) (u:Value):Prop :=
 (env.kindOf x=some .local∧m x=some u)∨((env.kindOf x=some .cell∨env.kindOf x=some .free)∧∃ c,env.cells.lookup x=some c∧h.IsCell c (some u))
structure Cx.Ok (X:Cx):Prop where
 mod:Mod X.K X.mg X.base
 kind:X.env.scope.kind=.function
 glob:X.env.globals=mainGlobals
 blt:X.env.builtins=builtinsNs
 above:X.s₀.heap.objs.size≤X.env.locals
 inj:∀ x y c,X.env.cells.lookup x=some c->X.env.cells.lookup y=some c->x=y
 has:∀ x,(X.env.kindOf x=some .cell∨X.env.kindOf x=some .free)->∃ c,X.env.cells.lookup x=some c
 cab:∀ x c,X.fn x=true->X.env.cells.lookup x=some c->X.s₀.heap.objs.size≤c
 hd:X.calm=true->X.A.handled=none
 frames:X.A.frames=some X.stack
 stk:X.stack=X.outer∨(X.stack=X.env :: X.outer∧X.env.frame=some X.env.locals)
 exf:∀ b∈X.ex,b≠X.env.locals∧∀ x c,X.env.cells.lookup x=some c->c≠b
 bs:∀ b o,X.base.get? b=some o->X.s₀.heap.get? b=some o∧X.H₀ b=none
 bsz:X.base.objs.size≤X.s₀.heap.objs.size
 noex:∀ b o,X.base.get? b=some o->b ∉ X.ex
 exfs:∀ b∈X.ex,b ∉ X.fs
 funs:X.s₀.heap.FunFrames X.base X.outer
 frf:∀ b∈X.fs,X.H₀ b=none
structure Inv (X:Cx) (pins:List (Addr × Obj)) (σ:List (Option V)) (H:Hp) (s:Shared):Prop where
 ok:X.Ok
 os:s.os=X.s₀.os
 bare:AllBare s.gens
 base:Un X.fs X.ex X.H₀ H X.s₀.heap s.heap
 loc:∃ m,s.heap.Ns X.env.locals m∧∀ (i:Nat) (x:Str) (v:V),X.N[i]?=some x->σ[i]?=some (some v)->Vis X.env.scope x->∃ u,RelV v u∧ZsI X.env s.heap m x u
 cell:∀ x c,X.env.cells.lookup x=some c->∃ v,s.heap.IsCell c v
 free:H X.env.locals=none
 freeC:∀ x c,X.env.cells.lookup x=some c->H c=none
 pin:∀ p∈X.pn++pins,s.heap.get? p.1=some p.2∧H p.1=none∧p.1≠X.env.locals∧p.1 ∉ X.fs∧∀ v,p.2.data≠.cell v
 hok:HOk X.prog X.w H s.heap
 len:σ.length=X.N.length
section
variable {X:Cx} {pins:List (Addr × Obj)} {σ:List (Option V)} {H H':Hp} {s:Shared} {h':Heap}
theorem Cx.Ok.nofr (ok:X.Ok) {b:Addr} {o:Obj} (e:X.base.get? b=some o):b ∉ X.fs:=fun hb=>by
 have:=(ok.funs.mem hb).1
 rw [e] at this; cases this
theorem Inv.bs (I:Inv X pins σ H s):∀ b o,X.base.get? b=some o->s.heap.get? b=some o∧H b=none:=fun b o e =>
 ⟨I.base.keep b o (I.ok.bs b o e).1 (I.ok.bs b o e).2 (I.ok.nofr e) (I.ok.noex b o e),I.base.free b o (I.ok.bs b o e).1 (I.ok.bs b o e).2 (I.ok.noex b o e)⟩
theorem Inv.bk (I:Inv X pins σ H s):∀ b o,X.base.get? b=some o->s.heap.get? b=some o:=fun b o e=>(I.bs b o e).1
theorem Inv.mod (I:Inv X pins σ H s):Mod X.K X.mg X.base:=I.ok.mod
theorem Inv.kIn (I:Inv X pins σ H s):X.K.In s.heap:=I.ok.mod.kin.keeps I.bk
theorem Inv.lt (I:Inv X pins σ H s):X.env.locals<s.heap.objs.size:=let ⟨_,hn,_⟩:=I.loc; hn.lt
theorem Inv.sz (I:Inv X pins σ H s):X.s₀.heap.objs.size≤s.heap.objs.size:=Nat.le_trans I.ok.above (Nat.le_of_lt I.lt)
theorem Inv.nofs (I:Inv X pins σ H s) {a:Addr} (h:s.heap.objs.size≤a):a ∉ X.fs:=fun hb=>by
 obtain ⟨_,o,ho,_⟩:=I.ok.funs.mem hb
 exact absurd (Nat.lt_of_lt_of_le (Heap.lt_size ho) (Nat.le_trans I.sz h)) (Nat.lt_irrefl _)
theorem Inv.cne (I:Inv X pins σ H s):∀ x c,X.env.cells.lookup x=some c->c≠X.env.locals:=fun x c e z=>by
 obtain ⟨v,o,ho,hd⟩:=I.cell x c e
 obtain ⟨m,⟨o',es,ep,ho',hd',_⟩,_⟩:=I.loc
 rw [z,ho'] at ho; cases ho; rw [hd'] at hd; cases hd
theorem Inv.funs (I:Inv X pins σ H s):s.heap.FunFrames X.base X.outer:=by
 have all:∀ (l:List Env),(∀ b∈frs l,b∈X.fs)->X.s₀.heap.FunFrames X.base l->s.heap.FunFrames X.base l:=by
  intro l
  induction l with
  | nil=>intro _ _; trivial
  | cons env r ih =>
   intro hs hl
   obtain ⟨hk,⟨L,o,hf,hn,ho,hd⟩,hr⟩:=hl
   have hL:L∈X.fs:=hs L (by unfold frs; rw [List.filterMap_cons,hf]; exact List.mem_cons_self)
   obtain ⟨sl,e⟩:=I.base.slot L o ho (I.ok.frf L hL) hL fun z=>I.ok.exfs L z hL
   exact ⟨hk,⟨L,_,hf,hn,e,hd⟩,ih (fun b hb=>hs b (by unfold frs; rw [List.filterMap_cons,hf]; exact List.mem_cons_of_mem _ hb)) hr⟩
 exact all X.outer (fun _ hb=>hb) I.ok.funs
theorem Inv.stack (I:Inv X pins σ H s):s.heap.FunFrames X.base X.stack:=by
 rcases I.ok.stk with e | ⟨e,hf⟩
 ·rw [e]; exact I.funs
 ·rw [e]
  obtain ⟨m,hn,_⟩:=I.loc
  refine .cons (by rw [I.ok.kind]; decide) hf hn ?_ I.funs
  exact Heap.get?_none_of_le (Nat.le_trans I.ok.bsz I.ok.above)
theorem Inv.stkSub (I:Inv X pins σ H s):∀ b∈frs X.stack,b∈X.env.locals :: X.fs:=fun b hb=>by
 rcases I.ok.stk with e | ⟨e,hf⟩
 ·rw [e] at hb; exact List.mem_cons_of_mem _ hb
 ·rw [e] at hb
  unfold frs at hb
  rw [List.filterMap_cons,hf] at hb
  exact hb
theorem Inv.stkFree (I:Inv X pins σ H s):∀ b∈frs X.stack,H b=none:=fun b hb=>by
 rcases List.mem_cons.mp (I.stkSub b hb) with e | hb
 ·rw [e]; exact I.free
 ·obtain ⟨_,o,ho,_⟩:=I.ok.funs.mem hb
  exact I.base.free b o ho (I.ok.frf b hb) fun z=>I.ok.exfs b z hb
theorem Inv.step {g' : Array GenState} {t' : Nat} {d' : Drawn} {ch : List Addr} (I : Inv X pins σ H s)
  (hch:∀ b∈ch,(b∈X.ex∨X.s₀.heap.objs.size≤b)∧b≠X.env.locals∧(∀ x c,X.env.cells.lookup x=some c->c≠b)∧∀ p∈X.pn++pins,p.1≠b)
  (keep:∀ b o,b≠X.env.locals->b ∉ X.fs->b ∉ ch->s.heap.get? b=some o->H b=none->h'.get? b=some o)
  (slot:∀ b o,b≠X.env.locals->b∈X.fs->b ∉ ch->s.heap.get? b=some o->H b=none->∃ sl,h'.get? b=some { o with slots:=sl }) (free:∀ b o,b ∉ ch->s.heap.get? b=some o->H b=none->H' b=none)
  (there:∀ b o,b ∉ ch->s.heap.get? b=some o->∃ o',h'.get? b=some o')
  (tups:∀ b xs,H b=some (.tup xs)->H' b=some (.tup xs)) (frzs:∀ b o u,H b=some (.frz o u)->H' b=some (.frz o u)) (tbls:∀ b ps,H b=some (.tbl ps)->∃ more,H' b=some (.tbl (ps++more)))
  (ns:∀ m,s.heap.Ns X.env.locals m->h'.Ns X.env.locals m) (hok:HOk X.prog X.w H' h') (hg:AllBare g') :
  Inv X pins σ H' { s with heap:=h',gens:=g',drawn:=d',toks:=t' }:=by
 have neL:∀ b o,X.s₀.heap.get? b=some o->b≠X.env.locals:=fun b o e=>Nat.ne_of_lt (Nat.lt_of_lt_of_le (Heap.lt_size e) I.ok.above)
 have neC:∀ b o,X.s₀.heap.get? b=some o->b ∉ X.ex->b ∉ ch:=fun b o e hx hb=>by
  rcases (hch b hb).1 with z | z
  ·exact hx z
  ·exact absurd (Nat.lt_of_lt_of_le (Heap.lt_size e) z) (Nat.lt_irrefl _)
 have cellK:∀ x c,X.env.cells.lookup x=some c->∀ v,s.heap.IsCell c v->h'.IsCell c v:=fun x c e v ⟨o,ho,hd⟩=>by
  have nch:c ∉ ch:=fun z=>(hch c z).2.2.1 x c e rfl
  by_cases hc:c∈X.fs
  ·obtain ⟨sl,q⟩:=slot c o (I.cne x c e) hc nch ho (I.freeC x c e)
   exact ⟨_,q,hd⟩
  ·exact ⟨o,keep c o (I.cne x c e) hc nch ho (I.freeC x c e),hd⟩
 refine ⟨I.ok,I.os,hg,⟨fun b o e n hb hx=>?_,fun b o e n hb hx=>?_,fun b o e n hx=>?_,fun b o e hx=>?_,fun b xs e=>tups b xs (I.base.tups b xs e),fun b o xs e=>frzs b o xs (I.base.frzs b o xs e),fun b ps e=>?_⟩,?_,fun x c e=>?_,?_,fun x c e=>?_,fun p hp=>?_,hok,I.len⟩
 ·exact keep b o (neL b o e) hb (neC b o e hx) (I.base.keep b o e n hb hx) (I.base.free b o e n hx)
 ·obtain ⟨sl,e1⟩:=I.base.slot b o e n hb hx
  obtain ⟨sl',e2⟩:=slot b _ (neL b o e) hb (neC b o e hx) e1 (I.base.free b o e n hx)
  exact ⟨sl',e2⟩
 ·obtain ⟨o',e1⟩:=I.base.there b o e hx
  exact free b o' (neC b o e hx) e1 (I.base.free b o e n hx)
 ·obtain ⟨o',e1⟩:=I.base.there b o e hx
  exact there b o' (neC b o e hx) e1
 ·obtain ⟨m1,e1⟩:=I.base.tbls b ps e
  obtain ⟨m2,e2⟩:=tbls b _ e1
  exact ⟨m1++m2,by rw [e2,Array.append_assoc]⟩
 ·obtain ⟨m,hn,hl⟩:=I.loc
  refine ⟨m,ns m hn,fun i x v e1 e2 e3=>?_⟩
  obtain ⟨u,r,l⟩:=hl i x v e1 e2 e3
  refine ⟨u,r,?_⟩
  rcases l with l | ⟨k,c,e,z⟩
  ·exact .inl l
  ·exact .inr ⟨k,c,e,cellK x c e _ z⟩
 ·obtain ⟨v,z⟩:=I.cell x c e
  exact ⟨v,cellK x c e v z⟩
 ·obtain ⟨m,⟨o,_,_,ho,_⟩,_⟩:=I.loc
  exact free _ o (fun z=>(hch _ z).2.1 rfl) ho I.free
 ·obtain ⟨v,o,ho,hd⟩:=I.cell x c e
  exact free c o (fun z=>(hch c z).2.2.1 x c e rfl) ho (I.freeC x c e)
 ·obtain ⟨e,n,ne,nf,d⟩:=I.pin p hp
  have nch:p.1 ∉ ch:=fun z=>(hch p.1 z).2.2.2 p hp rfl
  exact ⟨keep p.1 p.2 ne nf nch e n,free p.1 p.2 nch e n,ne,nf,d⟩
theorem Inv.un {t':Nat} (I:Inv X pins σ H s) (u:Un X.fs [] H H' s.heap h') (hok:HOk X.prog X.w H' h'):Inv X pins σ H' { s with heap:=h',toks:=t' }:=by
 obtain ⟨m,⟨o,es,ep,ho,r⟩,_⟩:=id I.loc
 obtain ⟨sl,hL⟩:=u.any ho I.free (by simp)
 exact I.step (g':=s.gens) (d':=s.drawn) (ch:=[]) (fun _ z=>nomatch z) (fun b o _ hb _ e n=>u.keep b o e n hb (by simp)) (fun b o _ hb _ e n=>u.slot b o e n hb (by simp)) (fun b o _ e n=>u.free b o e n (by simp)) (fun b o _ e=>u.there b o e (by simp)) u.tups u.frzs u.tbls (fun m' hm=>by
  obtain ⟨o',es',ep',ho',r'⟩:=hm
  rw [ho] at ho'; cases ho'
  exact ⟨_,es',ep',hL,r'⟩) hok I.bare
theorem Inv.call {g' : Array GenState} {t' : Nat} {d' : Drawn} {ch : List Addr} (I : Inv X pins σ H s) (u : Un (frs X.stack) ch H H' s.heap h') (hok : HOk X.prog X.w H' h') (hg : AllBare g')
  (hch:∀ b∈ch,(b∈X.ex∨X.s₀.heap.objs.size≤b)∧b≠X.env.locals∧(∀ x c,X.env.cells.lookup x=some c->c≠b)∧∀ p∈X.pn++pins,p.1≠b) :
  Inv X pins σ H' { s with heap:=h',gens:=g',drawn:=d',toks:=t' }:=by
 obtain ⟨m,⟨o,es,ep,ho,r⟩,_⟩:=id I.loc
 obtain ⟨sl,hL⟩:=u.any ho I.free fun z=>(hch _ z).2.1 rfl
 exact I.step (ch:=ch) hch (fun b o hL hb hc e n=>u.keep b o e n (fun z=>(List.mem_cons.mp (I.stkSub b z)).elim hL hb) hc) (fun b o _ _ hc e n=>u.any e n hc) (fun b o hc e n=>u.free b o e n hc) (fun b o hc e=>u.there b o e hc) u.tups u.frzs u.tbls (fun m' hm=>by
  obtain ⟨o',es',ep',ho',r'⟩:=hm
  rw [ho] at ho'; cases ho'
  exact ⟨_,es',ep',hL,r'⟩) hok hg
theorem Inv.turned {t' : Nat} {it : Addr} (I : Inv X pins σ H s) (k : ∀ b o, b ≠ it → s.heap.get? b=some o → h'.get? b=some o) (hn : H it=none) (hL : it ≠ X.env.locals)
  (h1:it∈X.ex∨X.s₀.heap.objs.size≤it) (h2:∀ x c,X.env.cells.lookup x=some c->c≠it) (h3:∀ p∈X.pn++pins,p.1≠it):Inv X pins σ H { s with heap:=h',toks:=t' }:=by
 have nit:∀ b u,H b=some u->b≠it:=fun b u e z=>by rw [z,hn] at e; cases e
 refine I.step (g':=s.gens) (d':=s.drawn) (ch:=[it]) (fun b hb=>?_) (fun b o _ _ hc e _=>k b o (fun z=>hc (by simp [z])) e) (fun b o _ _ hc e _=>⟨o.slots,k b o (fun z=>hc (by simp [z])) e⟩) (fun _ _ _ _ n=>n)
  (fun b o hc e=>⟨o,k b o (fun z=>hc (by simp [z])) e⟩) (fun _ _ e=>e) (fun _ _ _ e=>e) (fun b ps e=>⟨#[],by rw [e]; simp⟩) (fun m hm=>?_) (fun b u e=>?_) I.bare
 ·have e:b=it:=by simpa using hb
  subst e
  exact ⟨h1,hL,h2,h3⟩
 ·obtain ⟨o,es,ep,ho,r⟩:=hm
  exact ⟨o,es,ep,k _ o (Ne.symm hL) ho,r⟩
 ·refine (I.hok b u e).stay (fun c v hc q=>k c v ?_ q) (fun _ q=>q) fun _ _ q=>q
  rcases hc with z | z
  ·rw [z]; exact nit b u e
  ·exact nit c _ z
theorem Inv.tok (I:Inv X pins σ H s) (t:Nat):Inv X pins σ H { s with toks:=t }:=I.un (h':=s.heap) (t':=t) Un.refl I.hok
theorem Inv.kept {t':Nat} (I:Inv X pins σ H s) (k:∀ b u,s.heap.get? b=some u->h'.get? b=some u):Inv X pins σ H { s with heap:=h',toks:=t' }:=I.un (Un.kept k) (I.hok.kept k)
theorem Inv.laid {a : Addr} {o : HO} {t' : Nat} (I : Inv X pins σ H s) (k : ∀ b u, s.heap.get? b=some u → h'.get? b=some u) (hp : s.heap.objs.size ≤ a) (new : ObjOk X.prog X.w (upd H a o) h' a o) :
  Inv X pins σ (upd H a o) { s with heap:=h',toks:=t' }:=I.un (Un.laid k hp (I.hok.fresh hp)) (I.hok.laid k hp new)
theorem Inv.write {x e : Addr} {o : HO} {t' : Nat} (I : Inv X pins σ H s) (mu : Mut (H x)) (he : e=x ∨ H e=some (.own x)) (k : ∀ b u, b ≠ e → s.heap.get? b=some u → h'.get? b=some u) (heo : ∃ u, h'.get? e=some u)
  (new:ObjOk X.prog X.w (upd H x o) h' x o):Inv X pins σ (upd H x o) { s with heap:=h',toks:=t' }:=I.un (Un.write mu he k heo) (I.hok.write mu he k heo new)
theorem Inv.pins_of {pins':List (Addr × Obj)} (I:Inv X pins σ H s) (h:∀ p∈pins',s.heap.get? p.1=some p.2∧H p.1=none∧p.1≠X.env.locals∧p.1 ∉ X.fs∧∀ v,p.2.data≠.cell v):Inv X pins' σ H s :=
 ⟨I.ok,I.os,I.bare,I.base,I.loc,I.cell,I.free,I.freeC,fun p hp=>(List.mem_append.mp hp).elim (fun z=>I.pin p (List.mem_append_left _ z)) (h p),I.hok,I.len⟩
theorem ZiV {N:List Str} (hN:N.Nodup) {i j:Nat} {x:Str} (a:N[i]?=some x) (b:N[j]?=some x):i=j:=by
 obtain ⟨h1,e1⟩:=List.getElem?_eq_some_iff.mp a
 obtain ⟨h2,e2⟩:=List.getElem?_eq_some_iff.mp b
 exact (List.getElem_inj hN).mp (e1.trans e2.symm)
theorem Zj3 {M : Model} {A : Around} {E : Value → Shared → Prop} {i : Nat} {x : Str} {v : V} {u : Value} {Q : Unit → Shared → Prop} (I : Inv X pins σ H s) (hN : X.N.Nodup) (hi : X.N[i]?=some x) (hx : Loc X.env.scope x) (r : RelV v u)
  (h:∀ s',Inv X pins (σ.set i (some v)) H s'->(∃ a,Heap.SameBut a s.heap s'.heap∧(a=X.env.locals∨X.env.cells.lookup x=some a))->Q () s') (hf:X.fn x=true∨X.env.scope.names.lookup x=some .local:=by first | exact .inl rfl | exact .inr rfl | assumption):wpAny M A (storeName X.env x u) Q E s:=by
 obtain ⟨m,hn,hl⟩:=id I.loc
 have hcls:(X.env.scope.kind == .class||(X.env.scope.kind == .module&&X.env.locals != X.env.globals))=false:=by rw [I.ok.kind]; rfl
 have hiσ:i<σ.length:=by rw [I.len]; exact (List.getElem?_eq_some_iff.mp hi).1
 have cne:=I.cne
 have tracked:∀ {a:Addr} {h':Heap},(∃ o,s.heap.get? a=some o∧H a=none)->Heap.SameBut a s.heap h'->HOk X.prog X.w H h':=fun {a h'} ha hs b ob e=>by
  obtain ⟨_,_,hfree⟩:=ha
  refine (I.hok b ob e).stay (fun c w' hc q=>(hs.2 c ?_).trans q) (fun _ q=>q) fun _ _ q=>q
  rintro rfl
  rcases hc with rfl | hc
  ·rw [hfree] at e; cases e
  ·rw [hfree] at hc; cases hc
 rcases hx with hk | hk
 ·refine wpAny_storeName_local hk hn (fun h' hn' hs=>?_) hcls
  obtain ⟨oL,_,_,hoL,_⟩:=id hn
  refine h _ ⟨I.ok,I.os,I.bare,⟨fun b o e n hb hx=>?_,fun b o e n hb hx=>?_,I.base.free,fun b o e hx=>?_,I.base.tups,I.base.frzs,I.base.tbls⟩,⟨_,hn',fun j y v' e1 e2 e3=>?_⟩,fun y c e=>?_,I.free,I.freeC,fun p hp=>?_,tracked ⟨oL,hoL,I.free⟩ hs,by simpa using I.len⟩ ⟨_,hs,.inl rfl⟩
  ·exact (hs.2 b (Nat.ne_of_lt (Nat.lt_of_lt_of_le (Heap.lt_size e) I.ok.above))).trans (I.base.keep b o e n hb hx)
  ·obtain ⟨sl,e1⟩:=I.base.slot b o e n hb hx
   exact ⟨sl,(hs.2 b (Nat.ne_of_lt (Nat.lt_of_lt_of_le (Heap.lt_size e) I.ok.above))).trans e1⟩
  ·obtain ⟨o',e1⟩:=I.base.there b o e hx
   exact ⟨o',(hs.2 b (Nat.ne_of_lt (Nat.lt_of_lt_of_le (Heap.lt_size e) I.ok.above))).trans e1⟩
  ·by_cases hj:j=i
   ·subst hj
    rw [hi] at e1; cases e1
    rw [List.getElem?_set_self hiσ] at e2
    cases e2
    exact ⟨u,r,.inl ⟨hk,by simp⟩⟩
   ·rw [List.getElem?_set_ne (Ne.symm hj)] at e2
    obtain ⟨u',r',q⟩:=hl j y v' e1 e2 e3
    refine ⟨u',r',?_⟩
    rcases q with ⟨k,e⟩ | ⟨k,c,e,z⟩
    ·refine .inl ⟨k,?_⟩
     have:y≠x:=fun e=>hj (ZiV hN e1 (e ▸ hi))
     simp [this,e]
    ·exact .inr ⟨k,c,e,z.sameBut hs (cne y c e)⟩
  ·obtain ⟨w',z⟩:=I.cell y c e
   exact ⟨w',z.sameBut hs (cne y c e)⟩
  ·obtain ⟨e,n,ne,nf,d⟩:=I.pin p hp
   exact ⟨(hs.2 p.1 ne).trans e,n,ne,nf,d⟩
 ·have hfn:X.fn x=true:=by
   rcases hf with z | z
   ·exact z
   ·rw [z] at hk; cases hk
  obtain ⟨c,hc⟩:=I.ok.has x (.inl hk)
  obtain ⟨w',z⟩:=I.cell x c hc
  refine wpAny_storeName_cell I.ok.kind hk hc z (fun h' hc' hs=>?_)
  obtain ⟨oc,hoc,hocd⟩:=id z
  refine h { s with heap:=h' } ⟨I.ok,I.os,I.bare,⟨fun b o e n hb hx=>?_,fun b o e n hb hx=>?_,I.base.free,fun b o e hx=>?_,I.base.tups,I.base.frzs,I.base.tbls⟩,⟨m,hn.sameBut hs (Ne.symm (cne x c hc)),fun j y v' e1 e2 e3=>?_⟩,fun y c' e=>?_,I.free,I.freeC,fun p hp=>?_,tracked ⟨oc,hoc,I.freeC x c hc⟩ hs,by simpa using I.len⟩ ⟨c,hs,.inr hc⟩
  ·exact (hs.2 b (Nat.ne_of_lt (Nat.lt_of_lt_of_le (Heap.lt_size e) (I.ok.cab x c hfn hc)))).trans (I.base.keep b o e n hb hx)
  ·obtain ⟨sl,e1⟩:=I.base.slot b o e n hb hx
   exact ⟨sl,(hs.2 b (Nat.ne_of_lt (Nat.lt_of_lt_of_le (Heap.lt_size e) (I.ok.cab x c hfn hc)))).trans e1⟩
  ·obtain ⟨o',e1⟩:=I.base.there b o e hx
   exact ⟨o',(hs.2 b (Nat.ne_of_lt (Nat.lt_of_lt_of_le (Heap.lt_size e) (I.ok.cab x c hfn hc)))).trans e1⟩
  ·by_cases hj:j=i
   ·subst hj
    rw [hi] at e1; cases e1
    rw [List.getElem?_set_self hiσ] at e2
    cases e2
    exact ⟨u,r,.inr ⟨.inl hk,c,hc,hc'⟩⟩
   ·rw [List.getElem?_set_ne (Ne.symm hj)] at e2
    obtain ⟨u',r',q⟩:=hl j y v' e1 e2 e3
    refine ⟨u',r',?_⟩
    rcases q with q | ⟨k,c',e,z'⟩
    ·exact .inl q
    ·refine .inr ⟨k,c',e,z'.sameBut hs ?_⟩
     rintro rfl
     exact hj (ZiV hN e1 (I.ok.inj _ _ _ e hc ▸ hi))
  ·by_cases hcc:c'=c
   ·subst hcc; exact ⟨_,hc'⟩
   ·obtain ⟨w2,z2⟩:=I.cell y c' e
    exact ⟨w2,z2.sameBut hs hcc⟩
  ·obtain ⟨e,n,ne,nf,d⟩:=I.pin p hp
   refine ⟨(hs.2 p.1 ?_).trans e,n,ne,nf,d⟩
   intro q
   rw [q,hoc] at e
   have q':oc=p.2:=Option.some.inj e
   exact d w' (by rw [← q']; exact hocd)
theorem Zis {M : Model} {A : Around} {E : Value → Shared → Prop} {i : Nat} {x : Str} {v : V} {u : Value} {Q : Unit → Shared → Prop} (I : Inv X pins σ H s) (hN : X.N.Nodup) (hi : X.N[i]?=some x) (hx : Loc X.env.scope x) (r : RelV v u)
  (h:∀ s',Inv X pins (σ.set i (some v)) H s'->Q () s') (hf:X.fn x=true∨X.env.scope.names.lookup x=some .local:=by first | exact .inl rfl | exact .inr rfl | assumption):wpAny M A (storeName X.env x u) Q E s :=
 Zj3 I hN hi hx r (fun s' I' _=>h s' I') hf
theorem Inv.call' {s' : Shared} {ch : List Addr} (I : Inv X pins σ H s) (ho : s'.os=s.os) (u : Un (frs X.stack) ch H H' s.heap s'.heap) (hok : HOk X.prog X.w H' s'.heap) (hg : AllBare s'.gens)
  (hch:∀ b∈ch,(b∈X.ex∨X.s₀.heap.objs.size≤b)∧b≠X.env.locals∧(∀ x c,X.env.cells.lookup x=some c->c≠b)∧∀ p∈X.pn++pins,p.1≠b):Inv X pins σ H' s':=by
 obtain ⟨h',g',d',t',o'⟩:=s'
 have e:o'=s.os:=ho
 subst e
 exact I.call (g':=g') (t':=t') (d':=d') u hok hg hch
end
abbrev XK:=Value->Option Addr->Hp->Prop
abbrev St:=List (Option V)
abbrev VK:=V->Hp->Prop
abbrev TE:=St->Hp->VK->Prop
abbrev TT:=St->Hp->(Bool->Hp->Prop)->Prop
abbrev TA:=St->Hp->(List V->Hp->Prop)->Prop
structure Ends where
 nx:St->Hp->Prop
 rt:VK
 bk:St->Hp->Prop:=fun _ _=>False
 ct:St->Hp->Prop:=fun _ _=>False
abbrev TS:=Ends->St->Hp->Prop
def EP (X:Cx) (pins:List (Addr × Obj)) (σ:St) (Q:VK) (u:Value) (s':Shared):Prop:=∃ v H',Inv X pins σ H' s'∧RelV v u∧Q v H'
def TP (X:Cx) (pins:List (Addr × Obj)) (σ:St) (Q:Bool->Hp->Prop) (b:Bool) (s':Shared):Prop:=∃ H',Inv X pins σ H' s'∧Q b H'
def AP (X:Cx) (pins:List (Addr × Obj)) (σ:St) (Q:List V->Hp->Prop) (us:List Value) (s':Shared):Prop:=∃ vs H',Inv X pins σ H' s'∧Vals vs us∧Q vs H'
def SP (X:Cx) (pins:List (Addr × Obj)) (D:Ends) (f:Flow) (s':Shared):Prop :=
 match f with
 | .next=>∃ σ' H',Inv X pins σ' H' s'∧D.nx σ' H'
 | .brk=>∃ σ' H',Inv X pins σ' H' s'∧D.bk σ' H'
 | .cont=>∃ σ' H',Inv X pins σ' H' s'∧D.ct σ' H'
 | .ret u=>∃ v σ' H',Inv X pins σ' H' s'∧RelV v u∧D.rt v H'
def PE (X:Cx) (e:Expr) (t:TE):Prop :=
 ∀ (pins:List (Addr × Obj)) (s:Shared) (σ:St) (H:Hp) (Q:VK),Inv X pins σ H s->t σ H Q->wpAny (model X.prog X.w) X.A (eval e X.env) (EP X pins σ Q) X.xe s
def PT (X:Cx) (e:Expr) (t:TT):Prop :=
 ∀ (pins:List (Addr × Obj)) (s:Shared) (σ:St) (H:Hp) (Q:Bool->Hp->Prop),Inv X pins σ H s->t σ H Q->wpAny (model X.prog X.w) X.A (isTrue e X.env (eval e X.env)) (TP X pins σ Q) X.xe s
def PW (X:Cx) (e:Expr) (t:TT):Prop :=
 ∀ (whole:Sem Value) (pins:List (Addr × Obj)) (s:Shared) (σ:St) (H:Hp) (Q:Bool->Hp->Prop),Inv X pins σ H s->t σ H Q->wpAny (model X.prog X.w) X.A (isTrue e X.env whole) (TP X pins σ Q) X.xe s
theorem PW.pt {X:Cx} {e:Expr} {t:TT} (h:PW X e t):PT X e t:=h _
def PA (X:Cx) (es:List Expr) (t:TA):Prop :=
 ∀ (pos:Pos) (pins:List (Addr × Obj)) (s:Shared) (σ:St) (H:Hp) (Q:List V->Hp->Prop),Inv X pins σ H s->t σ H Q->wpAny (model X.prog X.w) X.A (spliced (backTo pos (starEach es X.env))) (AP X pins σ Q) X.xe s
def PS (X:Cx) (st:Stmt) (t:TS):Prop :=
 ∀ (pins:List (Addr × Obj)) (s:Shared) (σ:St) (H:Hp) (D:Ends),Inv X pins σ H s->t D σ H->wpAny (model X.prog X.w) X.A (exec st X.env) (SP X pins D) X.xe s
def PSs (X:Cx) (st:List Stmt) (t:TS):Prop :=
 ∀ (pins:List (Addr × Obj)) (s:Shared) (σ:St) (H:Hp) (D:Ends),Inv X pins σ H s->t D σ H->wpAny (model X.prog X.w) X.A (execs st X.env) (SP X pins D) X.xe s
theorem thn {α:Type} {t:Sem α} {Q Q':α->Shared->Prop} {M:Model} {A:Around} {E:Value->Shared->Prop} {s:Shared} (h:wpAny M A t Q E s) (hQ:∀ a s,Q a s->Q' a s):wpAny M A t Q' E s:=wpAny_mono h hQ fun _ _ x=>x
section
variable {X:Cx}
def Zqu (i:Nat):TE:=fun σ H Q=>∃ v,σ[i]?=some (some v)∧Q v H
def tC (v:V):TE:=fun _ H Q=>Q v H
theorem Zpn {i:Nat} {x:Str} {pos:Pos} (hN:X.N[i]?=some x) (hv:Vis X.env.scope x) (hd:(x == ("__debug__" : Str))=false:=by decide) (hcd:(x == ("__classdict__" : Str))=false:=by decide):PE X (.Name x pos) (Zqu i):=by
 intro pins s σ H Q I h
 obtain ⟨v,e,h⟩:=h
 obtain ⟨m,hn,hl⟩:=I.loc
 obtain ⟨u,r,l⟩:=hl i x v hN e hv
 have fin:EP X pins σ Q u s:=⟨v,H,I,r,h⟩
 rcases l with ⟨hk,hm⟩ | ⟨hk,c,hc,hcell⟩
 ·exact wpAny_Name (wpAny_loadName_local I.ok.kind hk hn hm fin) hd
 ·rcases hk with hk | hk
  ·exact wpAny_Name (wpAny_loadName_cell I.ok.kind hk hc hcell fin) hd
  ·exact wpAny_Name (wpAny_loadName_free I.ok.kind hk hc hcell fin hcd) hd
theorem Zad {i j pos}:PE X (.Constant (.int i) j pos) (tC (.int i)):=fun _ _ _ H _ I h=>wpAny_Constant_int ⟨.int i,H,I.tok _,⟨_,rfl⟩,h⟩
theorem ZdT {b j pos}:PE X (.Constant (.bool b) j pos) (tC (.bl b)):=fun _ _ _ H _ I h=>Constant_bool ⟨.bl b,H,I,rfl,h⟩
theorem ZhU {j pos}:PE X (.Constant .none j pos) (tC .non):=fun _ _ _ H _ I h=>Constant_none ⟨.non,H,I,rfl,h⟩
theorem Zat {x j pos}:PE X (.Constant (.str x) j pos) (tC (.str x)):=fun _ _ _ H _ I h=>Calls.Constant_str ⟨.str x,H,I.tok _,⟨_,rfl⟩,h⟩
def Gl (X:Cx) (x:Str):Prop:=X.env.kindOf x=some .globalImplicit
theorem ZiB {E : Value → Shared → Prop} {pins : List (Addr × Obj)} {s : Shared} {σ : St} {H : Hp} {x : Str} {u : Value} {pos : Pos} {Q : Value → Shared → Prop} (I : Inv X pins σ H s) (hg : Gl X x) (hm : X.mg x=some u) (h : Q u s)
  (hd:(x == ("__debug__" : Str))=false:=by decide):wpAny (model X.prog X.w) X.A (eval (.Name x pos) X.env) Q E s :=
 Calls.Name_function_global I.ok.kind hg (Calls.loadGlobal_global (by rw [I.ok.glob]; exact I.mod.glob.keeps I.bk) hm h) hd
theorem Zjx {E : Value → Shared → Prop} {pins : List (Addr × Obj)} {s : Shared} {σ : St} {H : Hp} {x : Str} {u : Value} {pos : Pos} {Q : Value → Shared → Prop} (I : Inv X pins σ H s) (hg : Gl X x) (hm : X.mg x=none) (hv : bootBuiltins x=some u) (h : Q u s)
  (hn:x≠"__name__":=by decide) (hd:(x == ("__debug__" : Str))=false:=by decide):wpAny (model X.prog X.w) X.A (eval (.Name x pos) X.env) Q E s:=by
 obtain ⟨mb,h1,h2⟩:=I.mod.blt
 exact Calls.Name_function_global I.ok.kind hg (Calls.loadGlobal_builtin (by rw [I.ok.glob]; exact I.mod.glob.keeps I.bk) hm (by rw [I.ok.blt]; exact h1.keeps I.bk) ((h2 x hn).trans hv) h) hd
theorem Zdd {x:Str} {v:V} {u:Value} {pos:Pos} (hg:Gl X x) (hm:X.mg x=some u) (r:RelV v u) (hd:(x == ("__debug__" : Str))=false:=by decide):PE X (.Name x pos) (tC v) :=
 fun _ _ _ H _ I h=>ZiB I hg hm ⟨v,H,I,r,h⟩ hd
theorem Zdz {x:Str} {v:V} {u:Value} {pos:Pos} (hg:Gl X x) (hm:X.mg x=none) (hv:bootBuiltins x=some u) (r:RelV v u) (hn:x≠"__name__":=by decide) (hd:(x == ("__debug__" : Str))=false:=by decide):PE X (.Name x pos) (tC v) :=
 fun _ _ _ H _ I h=>Zjx I hg hm hv ⟨v,H,I,r,h⟩ hn hd
variable {a b:Expr} {ta tb:TE} {pos:Pos}
def PC (X:Cx) (op:CmpOp) (a b:Expr) (t:TE):Prop :=
 ∀ (pins:List (Addr × Obj)) (s:Shared) (σ:St) (H:Hp) (Q:VK),Inv X pins σ H s->t σ H Q →
  wpAny (model X.prog X.w) X.A (eval a X.env) (fun v s₁=>wpAny (model X.prog X.w) X.A (eval b X.env) (fun u s₂=>wpAny (model X.prog X.w) X.A (compareOp op v u) (EP X pins σ Q) X.xe s₂) X.xe s₁) X.xe s
def tB (t:TE):TT:=fun σ H Q=>t σ H fun x H1=>∃ c,x=.bl c∧Q c H1
theorem Zns {op:CmpOp} {t:TE} (h:PC X op a b t) (h1:behindInMarks op b=false:=by first | exact nobehind _ (by decide) (by decide) | rfl):PT X (.Compare a [op] [b] pos) (tB t):=by
 intro pins s σ H Q I hw
 refine wpAny_isTrue_Compare1 (thn (h pins s σ H _ I hw) fun v s1 h1=>thn h1 fun u s2 h2=>thn h2 fun c s3 ⟨x,H1,I1,r1,q1⟩=>?_) h1
 obtain ⟨d,rfl,q⟩:=q1
 cases r1
 exact wpAny_truthy_bool ⟨H1,I1,q⟩
theorem ZcJ {e:Expr} {t:TE} (h:PE X e t) (he:∀ whole,isTrue e X.env whole=(do let v ← whole; standAt e.pos; holding [v] (truthy v)):=by intro _; rfl):PT X e (tB t):=by
 intro pins s σ H Q I hw
 refine isTrue_plain (thn (h pins s σ H _ I hw) fun v s1 ⟨x,H1,I1,r1,q1⟩=>?_) (he _)
 obtain ⟨d,rfl,q⟩:=q1
 cases r1
 exact wpAny_truthy_bool ⟨H1,I1,q⟩
variable {tA tB':TT} {rest:List Expr}
def Zsx (t u:TT):TT:=fun σ H Q=>t σ H fun c H1=>if c=true then u σ H1 Q else Q false H1
def tOr (t u:TT):TT:=fun σ H Q=>t σ H fun c H1=>if c=true then Q true H1 else u σ H1 Q
def ZsE (t:TT):TT:=fun σ H Q=>t σ H fun c H1=>Q (!c) H1
theorem ZdE (ha:PT X a tA):PW X (.BoolOp .And [a] pos) tA:=by
 intro wh pins s σ H Q I h
 refine isTrue_and (thn (ha pins s σ H Q I h) fun c s1 e=>?_)
 cases c with
 | true=>exact isTrue_and_nil e
 | false=>exact e
theorem Zet (ha:PT X a tA):PW X (.BoolOp .Or [a] pos) tA:=by
 intro wh pins s σ H Q I h
 refine isTrue_or (thn (ha pins s σ H Q I h) fun c s1 e=>?_)
 cases c with
 | false=>exact isTrue_or_nil e
 | true=>exact e
theorem Ze4 (ha:PT X a tA) (hb:PW X (.BoolOp .And (b :: rest) pos) tB'):PW X (.BoolOp .And (a :: b :: rest) pos) (Zsx tA tB'):=by
 intro wh pins s σ H Q I h
 refine isTrue_and (thn (ha pins s σ H _ I h) fun c s1 ⟨H1,I1,q1⟩=>?_)
 cases c with
 | true=>exact hb wh pins s1 σ H1 Q I1 q1
 | false=>exact ⟨H1,I1,q1⟩
theorem ZfJ (ha:PT X a tA) (hb:PW X (.BoolOp .Or (b :: rest) pos) tB'):PW X (.BoolOp .Or (a :: b :: rest) pos) (tOr tA tB'):=by
 intro wh pins s σ H Q I h
 refine isTrue_or (thn (ha pins s σ H _ I h) fun c s1 ⟨H1,I1,q1⟩=>?_)
 cases c with
 | true=>exact ⟨H1,I1,q1⟩
 | false=>exact hb wh pins s1 σ H1 Q I1 q1
theorem Zdn (ha:PT X a tA):PT X (.UnaryOp .Not a pos) (ZsE tA):=by
 intro pins s σ H Q I h
 exact isTrue_not (ha pins s σ H (fun c H1=>Q (!c) H1) I h)
def ZrL (ta tb:TE):TE:=fun σ H Q=>ta σ H fun x H1=>∃ c,x=.bl c∧if c=true then tb σ H1 Q else Q (.bl false) H1
def Zsy (ta tb:TE):TE:=fun σ H Q=>ta σ H fun x H1=>∃ c,x=.bl c∧if c=true then Q (.bl true) H1 else tb σ H1 Q
def ZrQ (ta:TE):TE:=fun σ H Q=>ta σ H fun x H1=>∃ c,x=.bl c∧Q (.bl (!c)) H1
theorem ZcK {op} {t:TE} (h:PE X a t):PE X (.BoolOp op [a] pos) t:=fun pins s σ H Q I hw=>BoolOp_one (h pins s σ H Q I hw)
theorem ZcI (ha:PE X a ta) (hb:PE X (.BoolOp .And (b :: rest) pos) tb):PE X (.BoolOp .And (a :: b :: rest) pos) (ZrL ta tb):=by
 intro pins s σ H Q I h
 refine BoolOp_and (thn (ha pins s σ H _ I h) fun v s1 ⟨x,H1,I1,r1,q1⟩=>?_)
 obtain ⟨c,rfl,q1⟩:=q1
 cases r1
 refine wpAny_truthy_bool ?_
 cases c with
 | true=>exact hb pins s1 σ H1 Q I1 q1
 | false=>exact ⟨.bl false,H1,I1,rfl,q1⟩
theorem Zrf (ha:PE X a ta) (hb:PE X (.BoolOp .Or (b :: rest) pos) tb):PE X (.BoolOp .Or (a :: b :: rest) pos) (Zsy ta tb):=by
 intro pins s σ H Q I h
 refine BoolOp_or (thn (ha pins s σ H _ I h) fun v s1 ⟨x,H1,I1,r1,q1⟩=>?_)
 obtain ⟨c,rfl,q1⟩:=q1
 cases r1
 refine wpAny_truthy_bool ?_
 cases c with
 | false=>exact hb pins s1 σ H1 Q I1 q1
 | true=>exact ⟨.bl true,H1,I1,rfl,q1⟩
theorem Zqn (ha:PE X a ta):PE X (.UnaryOp .Not a pos) (ZrQ ta):=by
 intro pins s σ H Q I h
 refine UnaryOp_ (thn (ha pins s σ H _ I h) fun v s1 ⟨x,H1,I1,r1,q1⟩=>?_)
 obtain ⟨c,rfl,q1⟩:=q1
 cases r1
 exact not_of (wpAny_truthy_bool ⟨.bl (!c),H1,I1,rfl,q1⟩)
end
def SqL (K:W.Frag) (H:Hp) (a:Addr) (xs:List V):Prop :=
 Rd H a (.lst xs) ∨
  ∃ (o:Obj) (its:Array Value) (n:Nat),K.lookup a=some o∧o.cls=.type "list"∧o.dict=none∧o.data=.seq its n∧its.size≤sizeLine∧Vals xs its.toList
def SqT (K:W.Frag) (H:Hp) (a:Addr) (xs:List V):Prop :=
 Rd H a (.tup xs) ∨
  ∃ (o:Obj) (its:Array Value) (n:Nat),K.lookup a=some o∧o.cls=.type "tuple"∧o.data=.seq its n∧its.size≤sizeLine∧Vals xs its.toList
noncomputable def ZsP:Value->Option V
 | .none=>some .non
 | .bool b=>some (.bl b)
 | .int i _=>some (.int i)
 | .str x _=>some (.str x)
 | .bytes b _=>some (.byt b)
 | .float b _=>some (.flt b)
 | .ref a=>some (.ref a)
 | .type n=>some (.ty n)
 | _=>none
theorem RelV.abs {x:V} {u:Value} (r:RelV x u):ZsP u=some x:=by
 cases x with
 | non=>cases r; rfl
 | bl _=>cases r; rfl
 | int _=>obtain ⟨t,rfl⟩:=r; rfl
 | str _=>obtain ⟨t,rfl⟩:=r; rfl
 | byt _=>obtain ⟨t,rfl⟩:=r; rfl
 | flt _=>obtain ⟨t,rfl⟩:=r; rfl
 | ref _=>cases r; rfl
 | ty _=>cases r; rfl
theorem RelV.inj {x y:V} {u:Value} (r:RelV x u) (q:RelV y u):x=y:=Option.some.inj (r.abs.symm.trans q.abs)
theorem Vals.inj:∀ {xs ys:List V} {us:List Value},Vals xs us->Vals ys us->xs=ys
 | _,_,_,.nil,.nil=>rfl
 | _,_,_,.cons r t,.cons r' t'=>by rw [r.inj r',Vals.inj t t']
section
variable {X:Cx} {pins:List (Addr × Obj)} {σ:St} {H:Hp} {s:Shared} {a:Addr} {xs ys:List V}
theorem SqL.of {K:W.Frag} (h:H a=some (.lst xs)):SqL K H a xs:=.inl (.inl h)
theorem SqT.of {K:W.Frag} (h:H a=some (.tup xs)):SqT K H a xs:=.inl (.inl h)
theorem Inv.list (I:Inv X pins σ H s) (h:SqL X.K H a xs):∃ its:List Value,Vals xs its∧PlainL s.heap a its.toArray∧xs.length≤sizeLine:=by
 rcases h with h | ⟨o,its,n,hk,hc,hd,hs,hz,r⟩
 ·obtain ⟨z,its,n,r,e⟩:=h.ok I.hok
  exact ⟨its,r,⟨_,n,e,rfl,rfl,rfl⟩,z⟩
 ·refine ⟨its.toList,r,⟨o,n,I.kIn a o hk,hc,hd,by simpa using hs⟩,?_⟩
  have e:=r.length
  simp only [Array.length_toList] at e
  omega
theorem Inv.tuple (I:Inv X pins σ H s) (h:SqT X.K H a xs):∃ its:List Value,Vals xs its∧IsTup s.heap a its.toArray∧xs.length≤sizeLine:=by
 rcases h with h | ⟨o,its,n,hk,hc,hs,hz,r⟩
 ·obtain ⟨z,its,r,p⟩:=h.ok I.hok
  exact ⟨its,r,p,z⟩
 ·refine ⟨its.toList,r,⟨o,I.kIn a o hk,hc,n,by simpa using hs⟩,?_⟩
  have e:=r.length
  simp only [Array.length_toList] at e
  omega
theorem Inv.list_inj (I:Inv X pins σ H s) (h:SqL X.K H a xs) (h':SqL X.K H a ys):xs=ys:=by
 obtain ⟨its,r,⟨o,n,e,_,_,d⟩,_⟩:=I.list h
 obtain ⟨its',r',⟨o',n',e',_,_,d'⟩,_⟩:=I.list h'
 rw [e] at e'; cases e'
 rw [d] at d'
 injection d' with d1 _
 have:its=its':=by simpa using congrArg Array.toList d1
 subst this
 exact r.inj r'
theorem Inv.tuple_inj (I:Inv X pins σ H s) (h:SqT X.K H a xs) (h':SqT X.K H a ys):xs=ys:=by
 obtain ⟨its,r,⟨o,e,_,n,d⟩,_⟩:=I.tuple h
 obtain ⟨its',r',⟨o',e',_,n',d'⟩,_⟩:=I.tuple h'
 rw [e] at e'; cases e'
 rw [d] at d'
 injection d' with d1 _
 have:its=its':=by simpa using congrArg Array.toList d1
 subst this
 exact r.inj r'
end
section
variable {X:Cx} {pins:List (Addr × Obj)} {σ:St} {H:Hp} {s:Shared} {E:Value->Shared->Prop}
end
section
variable {X:Cx} {st:Stmt} {rest:List Stmt} {t u:TS} {e:Expr} {te:TE} {pos:Pos}
def Zbu:TS:=fun D σ H=>D.nx σ H
def ZrM (t u:TS):TS:=fun D σ H=>t { D with nx:=u D } σ H
theorem Zav:PSs X [] Zbu:=fun _ _ σ H _ I h=>wpAny_execs_nil ⟨σ,H,I,h⟩
theorem Zag (h1:PS X st t) (h2:PSs X rest u):PSs X (st :: rest) (ZrM t u):=by
 intro pins s σ H D I h
 refine wpAny_execs_cons (thn (h1 pins s σ H { D with nx:=u D } I h) fun f s1 q=>?_)
 cases f with
 | next =>
  obtain ⟨σ',H',I',q⟩:=q
  exact h2 pins s1 σ' H' D I' q
 | ret v=>exact q
 | brk=>exact q
 | cont=>exact q
theorem Zah (h1:PS X st t):PSs X [st] t:=by
 intro pins s σ H D I h
 refine wpAny_execs_cons (thn (h1 pins s σ H D I h) fun f s1 q=>?_)
 cases f with
 | next=>exact wpAny_execs_nil q
 | ret v=>exact q
 | brk=>exact q
 | cont=>exact q
theorem Inv.quiet {pins:List (Addr × Obj)} {σ:St} {H:Hp} {s:Shared} (I:Inv X pins σ H s):interactive X.env=false:=by simp [interactive,I.ok.kind]
def ZrY (te:TE):TS:=fun D σ H=>te σ H fun _ H1=>D.nx σ H1
theorem Zbq (he:PE X e te) (hs:swapsWith e none pos.line X.env=pure false:=by rfl):PS X (.Expr e pos) (ZrY te):=by
 intro pins s σ H D I h
 exact wpAny_Expr_any (thn (he pins s σ H _ I h) fun v s1 ⟨x,H1,I1,r1,q1⟩=>⟨σ,H1,I1,q1⟩) I.quiet hs
def ZsA (te:TE):TS:=fun D σ H=>te σ H D.rt
theorem Zay (he:PE X e te):PS X (.Return (some e) pos) (ZsA te):=by
 intro pins s σ H D I h
 exact wpAny_Return_some (thn (he pins s σ H _ I h) fun v s1 ⟨x,H1,I1,r1,q1⟩=>⟨x,σ,H1,I1,r1,q1⟩)
def Zst (c:TT) (t u:TS):TS:=fun D σ H=>c σ H fun b H1=>if b=true then t D σ H1 else u D σ H1
theorem ZaQ {c:Expr} {a b:List Stmt} {tc:TT} (hc:PT X c tc) (ha:PSs X a t) (hb:PSs X b u):PS X (.If c a b pos) (Zst tc t u):=by
 intro pins s σ H D I h
 refine wpAny_If (thn (hc pins s σ H _ I h) fun d s1 ⟨H1,I1,q1⟩=>?_)
 cases d with
 | true=>exact ha pins s1 σ H1 D I1 q1
 | false=>exact hb pins s1 σ H1 D I1 q1
end
abbrev TG:=V->St->Hp->(St->Hp->Prop)->Prop
abbrev TGs:=List V->St->Hp->(St->Hp->Prop)->Prop
def PG (X:Cx) (target:Expr) (t:TG):Prop :=
 ∀ (pins:List (Addr × Obj)) (s:Shared) (σ:St) (H:Hp) (v:V) (u:Value) (Q:St->Hp->Prop),Inv X pins σ H s->RelV v u->t v σ H Q →
  wpAny (model X.prog X.w) X.A (assign target X.env u) (fun _ s'=>∃ σ' H',Inv X pins σ' H' s'∧Q σ' H') X.xe s
def PGs (X:Cx) (ts:List Expr) (t:TGs):Prop :=
 ∀ (pins:List (Addr × Obj)) (s:Shared) (σ:St) (H:Hp) (vs:List V) (us:List Value) (Q:St->Hp->Prop),Inv X pins σ H s->Vals vs us->t vs σ H Q →
  wpAny (model X.prog X.w) X.A (assignInOrder ((assignEach ts X.env).map (·.2)) us) (fun _ s'=>∃ σ' H',Inv X pins σ' H' s'∧Q σ' H') X.xe s
section
variable {X:Cx} {pos:Pos}
def ZiJ (i:Nat):TG:=fun v σ H Q=>Q (σ.set i (some v)) H
theorem Za2 {i:Nat} {x:Str} (hN:X.N.Nodup) (hi:X.N[i]?=some x) (hx:Loc X.env.scope x) (hf:X.fn x=true∨X.env.scope.names.lookup x=some .local:=by first | exact .inl rfl | exact .inr rfl | assumption):PG X (.Name x pos) (ZiJ i):=by
 intro pins s σ H v u Q I r h
 exact wpAny_assign_Name (Zis I hN hi hx r (fun s' I'=>⟨_,H,I',h⟩) hf)
def ZsO:TGs:=fun vs σ H Q=>vs=[]∧Q σ H
def ZrV (t:TG) (u:TGs):TGs:=fun vs σ H Q=>∃ v r,vs=v :: r∧t v σ H fun σ' H'=>u r σ' H' Q
theorem ZiE:PGs X [] ZsO:=by
 intro pins s σ H vs us Q I r h
 obtain ⟨e,h⟩:=h
 subst e
 cases r
 exact assignInOrder_nil ⟨σ,H,I,h⟩
theorem Zc1 {e : Expr} {es : List Expr} {t : TG} {u : TGs} (h1 : PG X e t) (h2 : PGs X es u)
  (hs:(assignEach (e :: es) X.env).map (·.2)=assign e X.env :: (assignEach es X.env).map (·.2):=by rfl):PGs X (e :: es) (ZrV t u):=by
 intro pins s σ H vs us Q I r h
 obtain ⟨v,vr,e1,h⟩:=h
 subst e1
 cases r with
 | cons r rr =>
  rw [hs]
  refine assignInOrder_cons (thn (h1 pins s σ H _ _ _ I r h) fun _ s1 ⟨σ1,H1,I1,q1⟩=>?_)
  exact h2 pins s1 σ1 H1 _ _ Q I1 rr q1
def Zsd (K:W.Frag) (n:Nat) (t:TGs):TG:=fun v σ H Q=>∃ a xs,v=.ref a∧SqT K H a xs∧xs.length=n∧t xs σ H Q
theorem Zlq {es : List Expr} {k : Nat} {t : TGs} {n : Nat} (hc : X.calm=true) (h : PGs X es t)
  (hn:(assignEach es X.env).length=n:=by rfl) (hst:(assignEach es X.env).findIdx? (·.1)=none:=by rfl):PG X (.Tuple es k pos) (Zsd X.K n t):=by
 intro pins s σ H v u Q I r hw
 obtain ⟨a,xs,e1,hq,hl,hw⟩:=hw
 subst e1
 cases r
 obtain ⟨its,rv,ht,hz⟩:=I.tuple hq
 refine assign_Tuple_tuple (I.ok.hd hc) ht (by simp [hn,← hl,rv.length]) hst fun h' hx=>?_
 have I1:Inv X pins σ H { s with heap:=h' }:=I.kept (t':=s.toks) fun b o e=>hx b o (Nat.ne_of_lt (Heap.lt_size e)) e
 exact h pins _ σ H xs _ Q I1 (by simpa using rv) hw
def Zse (te:TE) (g:TG):TS:=fun D σ H=>te σ H fun x H1=>g x σ H1 D.nx
theorem ZaH {i : Nat} {x : Str} {e : Expr} {te : TE} {pos' : Pos} (hN : X.N.Nodup) (hi : X.N[i]?=some x) (hx : Loc X.env.scope x) (he : PE X e te) (hs : swapsWith e (some (.Name x pos')) pos.line X.env=pure false := by rfl) (hf : X.fn x=true ∨ X.env.scope.names.lookup x=some .local := by first | exact .inl rfl | exact .inr rfl | assumption) :
  PS X (.Assign [.Name x pos'] e pos) (Zse te (ZiJ i)):=by
 intro pins s σ H D I h
 refine wpAny_Assign_Name (thn (he pins s σ H _ I h) fun v s1 ⟨y,H1,I1,r1,q1⟩=>?_) hs
 exact Zis I1 hN hi hx r1 (fun s2 I2=>⟨_,H1,I2,q1⟩) hf
end
section
variable {X:Cx} {pos:Pos}
end
structure It where
 go:Nat->Hp->Prop
 yld:Nat->Hp->V->Hp->Prop
 stop:Nat->Hp->Prop
def Zmt (X:Cx) (pins:List (Addr × Obj)) (H:Hp) (b:Addr):Prop :=
 H b=none∧b≠X.env.locals∧b ∉ X.fs∧(b∈X.ex∨X.s₀.heap.objs.size≤b)∧(∀ x c,X.env.cells.lookup x=some c->c≠b)∧∀ p∈X.pn++pins,p.1≠b
theorem Inv.fpOk {X:Cx} {pins:List (Addr × Obj)} {σ:St} {H H':Hp} {s:Shared} {b:Addr} (I:Inv X pins σ H s) (hb:s.heap.objs.size≤b) (hn:H' b=none):Zmt X pins H' b:=by
 refine ⟨hn,Nat.ne_of_gt (Nat.lt_of_lt_of_le I.lt hb),I.nofs hb,.inr (Nat.le_trans I.sz hb),fun x c e z=>?_,fun p hp z=>?_⟩
 ·obtain ⟨v,q⟩:=I.cell x c e
  exact absurd (Nat.lt_of_lt_of_le q.lt (by rw [z]; exact hb)) (Nat.lt_irrefl _)
 ·exact absurd (Nat.lt_of_lt_of_le (Heap.lt_size (I.pin p hp).1) (by rw [z]; exact hb)) (Nat.lt_irrefl _)
structure Turn (P:Program) (w:World) (K:W.Frag) (tg:Expr) (J:It) (fp:List Addr) (it:Addr) (tn:Nat->Heap->Prop):Prop where
 mem:it∈fp
 obj:∀ i h,tn i h->∀ b∈fp,∃ o,h.get? b=some o∧∀ v,o.data≠.cell v
 keep:∀ i h h',tn i h->(∀ b∈fp,∀ o,h.get? b=some o->h'.get? b=some o)->tn i h'
 item:∀ (X:Cx),X.prog=P->X.w=w->X.K=K->X.calm=true->∀ (i:Nat) (pins:List (Addr × Obj)) (s:Shared) (σ:St) (H:Hp) (E:Value->Shared->Prop),Inv X pins σ H s->(∀ b∈fp,Zmt X pins H b)->tn i s.heap->J.go i H →
  wpAny (model P w) X.A (pyNext (.ref it)) (fun r s1=>∃ u,r=some u ∧
   wpAny (model P w) X.A (letOwnedTupleGo tg (.ref it) u) (fun _ s2=>∃ x H',Inv X pins σ H' s2∧RelV x u∧J.yld i H x H'∧tn (i+1) s2.heap∧∀ b∈fp,H' b=none) E s1) E s
 done:∀ (X:Cx),X.prog=P->X.w=w->X.K=K->X.calm=true->∀ (i:Nat) (pins:List (Addr × Obj)) (s:Shared) (σ:St) (H:Hp) (E:Value->Shared->Prop),Inv X pins σ H s->(∀ b∈fp,Zmt X pins H b)->tn i s.heap->J.stop i H →
  wpAny (model P w) X.A (pyNext (.ref it)) (fun r s1=>r=none∧Inv X pins σ H s1) E s
 self:∀ (A:Around) (i:Nat) (s:Shared) (Q:Value->Shared->Prop) (E:Value->Shared->Prop),tn i s.heap->Q (.ref it) s->wpAny (model P w) A (pyIter (.ref it)) Q E s
abbrev TI:=St->Hp->(It->Hp->Prop)->Prop
def PIE (X:Cx) (pins:List (Addr × Obj)) (σ:St) (tg:Expr) (R:It->Hp->Prop) (itv:Value) (s2:Shared):Prop :=
 ∃ (it:Addr) (fp:List Addr) (tn:Nat->Heap->Prop) (J:It) (H':Hp),itv=.ref it∧Inv X pins σ H' s2∧Turn X.prog X.w X.K tg J fp it tn∧tn 0 s2.heap∧(∀ b∈fp,Zmt X pins H' b)∧R J H'
def PI (X:Cx) (tg iter:Expr) (wi:TI):Prop :=
 ∀ (pins:List (Addr × Obj)) (s:Shared) (σ:St) (H:Hp) (R:It->Hp->Prop),Inv X pins σ H s->wi σ H R →
  wpAny (model X.prog X.w) X.A (eval iter X.env) (fun v s1=>wpAny (model X.prog X.w) X.A (pyIter v) (PIE X pins σ tg R) X.xe s1) X.xe s
theorem ZoC {M : Model} {A : Around} {E : Value → Shared → Prop} {s : Shared} {tg : Expr} {it : Addr} {u : Value} {o : Obj} {n : String} {vs : Array Value} {Q : Unit → Shared → Prop} (ho : s.heap.get? it=some o) (hc : o.cls=.type n) (hd : o.data=.fields vs)
  (hn:["enumerate","zip","dict_itemiterator","dict_reverseitemiterator","odict_iterator","itertools.zip_longest","itertools.pairwise"].contains n=false) (hQ:Q () s):wpAny M A (letOwnedTupleGo tg (.ref it) u) Q E s:=by
 unfold letOwnedTupleGo
 cases tg <;> first
  | exact wpAny_pure hQ
  | (cases u <;> first
    | exact wpAny_pure hQ
    | (refine wpAny_bind (wpAny_load ho ?_)
       rw [hc,hd]
       show wpAny M A (if (["enumerate","zip","dict_itemiterator","dict_reverseitemiterator","odict_iterator","itertools.zip_longest","itertools.pairwise"].contains n&&vs[0]? == some (rawInt _))=true then _ else _) Q E s
       rw [if_neg (by intro h; rw [hn,Bool.false_and] at h; cases h)]
       exact wpAny_pure hQ))
noncomputable def Itl (K:W.Frag) (a:Addr):It :=
 ⟨fun i H=>∃ xs x,SqL K H a xs∧xs[i]?=some x,fun i H x H'=>H'=H∧∀ xs,SqL K H a xs->xs[i]?=some x,fun i H=>∃ xs,SqL K H a xs∧xs.length≤i⟩
noncomputable def Itt (K:W.Frag) (a:Addr):It :=
 ⟨fun i H=>∃ xs x,SqT K H a xs∧xs[i]?=some x,fun i H x H'=>H'=H∧∀ xs,SqT K H a xs->xs[i]?=some x,fun i H=>∃ xs,SqT K H a xs∧xs.length≤i⟩
noncomputable def Itr (lo:Int) (n:Nat):It:=⟨fun i _=>i<n,fun i H x H'=>H'=H∧x=.int (lo+i),fun i _=>n≤i⟩
theorem ZmE {P:Program} {w:World} {K:W.Frag} {tg:Expr} (a it:Addr):Turn P w K tg (Itl K a) [it] it (fun i h=>h.IsListIter it a i) where
 mem:=by simp
 obj:=fun i h st b hb=>by
  have e:b=it:=by simpa using hb
  subst e
  obtain ⟨o,e,c,d⟩:=st
  exact ⟨o,e,fun v z=>by rw [d] at z; cases z⟩
 keep:=fun i h h' st k=>st.at fun o e=>k it (by simp) o e
 item:=by
  intro X hP hw hK hc i pins s σ H E I hf st hg
  subst hP hw hK
  obtain ⟨xs,x,hq,hx⟩:=hg
  obtain ⟨its,rv,p,hz⟩:=I.list hq
  obtain ⟨u,hu,ru⟩:=rv.get hx
  obtain ⟨f0,f1,f2,f3,f4,f5⟩:=hf it (by simp)
  refine wpAny_pyNext_list_item st p.isList (x:=u) (by simpa using hu) fun h' st' sb=>?_
  have I1:Inv X pins σ H { s with heap:=h' }:=I.turned (t':=s.toks) (fun b o hb e=>(sb.2 b hb).trans e) f0 f1 f3 f4 f5
  obtain ⟨o,e,c,d⟩:=id st'
  exact ⟨u,rfl,ZoC (s:={ s with heap:=h' }) e c d (by decide) ⟨x,H,I1,ru,⟨rfl,fun ys hy=>by rw [I.list_inj hy hq]; exact hx⟩,st',fun b hb=>(hf b hb).1⟩⟩
 done:=by
  intro X hP hw hK hc i pins s σ H E I hf st hg
  subst hP hw hK
  obtain ⟨xs,hq,hx⟩:=hg
  obtain ⟨its,rv,p,hz⟩:=I.list hq
  obtain ⟨f0,f1,f2,f3,f4,f5⟩:=hf it (by simp)
  have hl:=rv.length
  exact wpAny_pyNext_list_end (I.ok.hd hc) st p.isList (by simp; omega) fun h' eb=>⟨rfl,I.turned (t':=s.toks) (fun b o hb e=>eb b o hb e) f0 f1 f3 f4 f5⟩
 self:=fun _ _ _ _ _ st h=>wpAny_pyIter_listiter st h
theorem ZlU {P:Program} {w:World} {K:W.Frag} {tg:Expr} (a it:Addr):Turn P w K tg (Itt K a) [it] it (fun i h=>h.IsTupleIter it a i) where
 mem:=by simp
 obj:=fun i h st b hb=>by
  have e:b=it:=by simpa using hb
  subst e
  obtain ⟨o,e,c,d⟩:=st
  exact ⟨o,e,fun v z=>by rw [d] at z; cases z⟩
 keep:=fun i h h' st k=>st.at fun o e=>k it (by simp) o e
 item:=by
  intro X hP hw hK hc i pins s σ H E I hf st hg
  subst hP hw hK
  obtain ⟨xs,x,hq,hx⟩:=hg
  obtain ⟨its,rv,p,hz⟩:=I.tuple hq
  obtain ⟨u,hu,ru⟩:=rv.get hx
  obtain ⟨f0,f1,f2,f3,f4,f5⟩:=hf it (by simp)
  refine wpAny_pyNext_tuple_item st (show s.heap.IsTuple a its.toArray from p) (x:=u) (by simpa using hu) fun h' st' sb=>?_
  have I1:Inv X pins σ H { s with heap:=h' }:=I.turned (t':=s.toks) (fun b o hb e=>(sb.2 b hb).trans e) f0 f1 f3 f4 f5
  obtain ⟨o,e,c,d⟩:=id st'
  exact ⟨u,rfl,ZoC (s:={ s with heap:=h' }) e c d (by decide) ⟨x,H,I1,ru,⟨rfl,fun ys hy=>by rw [I.tuple_inj hy hq]; exact hx⟩,st',fun b hb=>(hf b hb).1⟩⟩
 done:=by
  intro X hP hw hK hc i pins s σ H E I hf st hg
  subst hP hw hK
  obtain ⟨xs,hq,hx⟩:=hg
  obtain ⟨its,rv,p,hz⟩:=I.tuple hq
  obtain ⟨f0,f1,f2,f3,f4,f5⟩:=hf it (by simp)
  have hl:=rv.length
  exact wpAny_pyNext_tuple_end (I.ok.hd hc) st (show s.heap.IsTuple a its.toArray from p) (by simp; omega) fun h' eb=>⟨rfl,I.turned (t':=s.toks) (fun b o hb e=>eb b o hb e) f0 f1 f3 f4 f5⟩
 self:=fun _ _ _ _ _ st h=>wpAny_pyIter_tupleiter st h
theorem Zl8 {P:Program} {w:World} {K:PySem.W.Frag} {tg:Expr} (it:Addr) (lo:Int) (n:Nat):Turn P w K tg (Itr lo n) [it] it (fun i h=>IsRangeIter h it (lo+(i:Nat)*1) ((n:Int)-(i:Nat)) 1) where
 mem:=by simp
 obj:=fun i h st b hb=>by
  have e:b=it:=by simpa using hb
  subst e
  exact ⟨_,st,fun v z=>by
   have z':Data.fields _=Data.cell v:=z
   cases z'⟩
 keep:=fun i h h' st k=>k it (by simp) _ st
 item:=by
  intro X hP hw hK hc i pins s σ H E I hf st hg
  subst hP hw hK
  obtain ⟨f0,f1,f2,f3,f4,f5⟩:=hf it (by simp)
  have W:=Walks.range (prog:=X.prog) (w:=X.w) (I.ok.hd hc) it lo 1 n
  refine W.item i s _ _ hg st fun v h' tk hv st' kk=>?_
  obtain ⟨t,rfl⟩:=hv
  have I1:Inv X pins σ H { s with heap:=h',toks:=tk }:=I.turned (fun b o hb e=>kk b o (by simpa using hb) e) f0 f1 f3 f4 f5
  refine ⟨_,rfl,ZoC (s:={ s with heap:=h',toks:=tk }) (n:="range_iterator") st' rfl rfl (by decide) ⟨.int (lo+i),H,I1,⟨t,?_⟩,⟨rfl,rfl⟩,st',fun b hb=>(hf b hb).1⟩⟩
  rw [Int.mul_one]
 done:=by
  intro X hP hw hK hc i pins s σ H E I hf st hg
  subst hP hw hK
  obtain ⟨f0,f1,f2,f3,f4,f5⟩:=hf it (by simp)
  exact wpAny_pyNext_range_end (I.ok.hd hc) st (by have:n≤i:=hg; omega) fun h' eb=>⟨rfl,I.turned (t':=s.toks) (fun b o hb e=>eb b o hb e) f0 f1 f3 f4 f5⟩
 self:=fun _ _ _ _ _ st h=>wpAny_pyIter_rangeiter st h
section
variable {X:Cx} {tg:Expr}
def ZrE (K:W.Frag) (tl:TE):TI:=fun σ H R=>tl σ H fun x H1=>∃ a,x=.ref a∧(∃ xs,SqL K H1 a xs)∧R (Itl K a) H1
def Zsv (K:W.Frag) (tl:TE):TI:=fun σ H R=>tl σ H fun x H1=>∃ a,x=.ref a∧(∃ xs,SqT K H1 a xs)∧R (Itt K a) H1
theorem ZcH {l:Expr} {tl:TE} (hl:PE X l tl):PI X tg l (ZrE X.K tl):=by
 intro pins s σ H R I h
 refine thn (hl pins s σ H _ I h) fun v s1 ⟨x,H1,I1,r1,q1⟩=>?_
 obtain ⟨a,e,⟨xs,hq⟩,q⟩:=q1
 subst e
 cases r1
 obtain ⟨its,rv,p,hz⟩:=I1.list hq
 refine wpAny_pyIter_list p.isList ?_
 refine ⟨s1.heap.objs.size,[s1.heap.objs.size],_,_,H1,rfl,I1.kept (t':=s1.toks) fun b o e=>Heap.get?_push_of_some _ e,ZmE a _,⟨_,Heap.get?_push_size _ rfl,rfl,rfl⟩,fun b hb=>?_,q⟩
 have e:b=s1.heap.objs.size:=by simpa using hb
 subst e
 exact I1.fpOk (Nat.le_refl _) (I1.hok.fresh (Nat.le_refl _))
theorem ZlE {l:Expr} {tl:TE} (hl:PE X l tl):PI X tg l (Zsv X.K tl):=by
 intro pins s σ H R I h
 refine thn (hl pins s σ H _ I h) fun v s1 ⟨x,H1,I1,r1,q1⟩=>?_
 obtain ⟨a,e,⟨xs,hq⟩,q⟩:=q1
 subst e
 cases r1
 obtain ⟨its,rv,p,hz⟩:=I1.tuple hq
 refine wpAny_pyIter_tuple (show s1.heap.IsTuple a its.toArray from p) ?_
 refine ⟨s1.heap.objs.size,[s1.heap.objs.size],_,_,H1,rfl,I1.kept (t':=s1.toks) fun b o e=>Heap.get?_push_of_some _ e,ZlU a _,⟨_,Heap.get?_push_size _ rfl,rfl,rfl⟩,fun b hb=>?_,q⟩
 have e:b=s1.heap.objs.size:=by simpa using hb
 subst e
 exact I1.fpOk (Nat.le_refl _) (I1.hok.fresh (Nat.le_refl _))
theorem Zo3 {pins : List (Addr × Obj)} {σ : St} {H : Hp} {s : Shared} {R : It → Hp → Prop} {E : Value → Shared → Prop} {lo hi : Int} {t u v : Tok} {tk : Nat} (I : Inv X pins σ H s) (h1 : -(2 ^ 62) ≤ lo) (h2 : lo<2 ^ 62) (h3 : -(2 ^ 62) ≤ hi) (h4 : hi<2 ^ 62)
  (q:R (Itr lo (hi-lo).toNat) H):wpAny (model X.prog X.w) X.A (pyIter (.ref s.heap.objs.size)) (PIE X pins σ tg R) E { s with heap:=s.heap.push { cls:=.type "range",data:=.fields #[.int lo t,.int hi u,.int 1 v] },toks:=tk }:=by
 refine wpAny_pyIter_range (IsRange.new ..) (small_one h1 h2 h3 h4) ?_
 have I1:Inv X pins σ H { s with heap:=s.heap.push { cls:=.type "range",data:=.fields #[.int lo t,.int hi u,.int 1 v] },toks:=tk }:=I.kept fun b o e=>Heap.get?_push_of_some _ e
 refine ⟨(s.heap.push { cls:=.type "range",data:=.fields #[.int lo t,.int hi u,.int 1 v] }).objs.size,[(s.heap.push { cls:=.type "range",data:=.fields #[.int lo t,.int hi u,.int 1 v] }).objs.size],_,_,H,rfl,
  I1.kept (t':=tk) fun b o e=>Heap.get?_push_of_some _ e,Zl8 _ lo (hi-lo).toNat,?_,fun b hb=>?_,q⟩
 ·have e1:lo+((0:Nat):Int)*1=lo:=by simp
  have e2:(((hi-lo).toNat:Nat):Int)-((0:Nat):Int)=Builtin.Range.rangeSize lo hi 1:=by rw [rangeSize_one]; split <;> omega
  show IsRangeIter _ _ (lo+((0:Nat):Int)*1) ((((hi-lo).toNat:Nat):Int)-((0:Nat):Int)) 1
  rw [e1,e2]
  exact Heap.get?_push_size _ rfl
 ·have e:b=(s.heap.push { cls:=.type "range",data:=.fields #[.int lo t,.int hi u,.int 1 v] }).objs.size:=by simpa using hb
  subst e
  exact I1.fpOk (Nat.le_refl _) (I1.hok.fresh (Nat.le_refl _))
def Zr4 (ta:TA):TI:=fun σ H R=>ta σ H fun vs H1=>∃ j:Int,vs=[.int j]∧-(2 ^ 62)≤j∧j<2 ^ 62∧R (Itr 0 j.toNat) H1
theorem ZgF {a:Expr} {ta:TA} {p pos:Pos} (hg:Gl X "range") (hm:X.mg "range"=none) (ha:PA X [a] ta) (hs:starEach [a] X.env=[(false,eval a X.env)]:=by rfl):PI X tg (.Call (.Name "range" p) [a] [] pos) (Zr4 ta):=by
 intro pins s σ H R I h
 refine Call_ (Zjx I hg hm boot_range (PyProof.Rows.callWith_type1 (thn (ha pos pins s σ H _ I h) fun us s1 ⟨vs,H1,I1,r1,q1⟩=>?_) hs rfl))
 obtain ⟨j,e,q1,q2,q⟩:=q1
 subst e
 cases r1 with
 | cons r rr =>
  cases rr
  obtain ⟨t,rfl⟩:=r
  exact call_range_1 (Zo3 I1 (by omega) (by omega) q1 q2 (by simpa using q))
def ZsJ (wi:TI) (g:TG) (tb:TS):TS:=fun D σ H=>wi σ H fun J H1=>∃ W:Nat->Nat->St->Hp->Prop,(∃ m,W 0 m σ H1)∧∀ i m σ H,W i m σ H →
 (J.stop i H∧D.nx σ H)∨(J.go i H∧∃ N:St->Hp->Prop,(∀ σ' H',N σ' H'->∃ m',m'<m∧W (i+1) m' σ' H')∧∀ x H',J.yld i H x H'->g x σ H' fun σ2 H2=>tb { D with nx:=N,ct:=N,bk:=D.nx } σ2 H2)
noncomputable def ZjR (fp:List Addr) (h:Heap):List (Addr × Obj):=fp.filterMap fun b=>(h.get? b).map fun o=>(b,o)
theorem Zem {fp:List Addr} {h:Heap} {b:Addr} {o:Obj} (hb:b∈fp) (e:h.get? b=some o):(b,o)∈ZjR fp h:=List.mem_filterMap.mpr ⟨b,hb,by rw [e]; rfl⟩
theorem ZmC {fp:List Addr} {h:Heap} {p:Addr × Obj} (hp:p∈ZjR fp h):p.1∈fp∧h.get? p.1=some p.2:=by
 obtain ⟨b,hb,e⟩:=List.mem_filterMap.mp hp
 cases q:h.get? b with
 | none=>rw [q] at e; cases e
 | some o =>
  rw [q] at e
  have e':(b,o)=p:=Option.some.inj e
  subst e'
  exact ⟨hb,q⟩
theorem Inv.pinned {pins:List (Addr × Obj)} {σ:St} {H:Hp} {s:Shared} {fp:List Addr} (I:Inv X pins σ H s) (hf:∀ b∈fp,Zmt X pins H b) (ho:∀ b∈fp,∃ o,s.heap.get? b=some o∧∀ v,o.data≠.cell v):Inv X (pins++ZjR fp s.heap) σ H s :=
 I.pins_of fun p hp=>(List.mem_append.mp hp).elim (fun z=>I.pin p (List.mem_append_right _ z)) fun z=>by
  obtain ⟨hb,e⟩:=ZmC z
  obtain ⟨f0,f1,f2,_⟩:=hf p.1 hb
  obtain ⟨o,e',d⟩:=ho p.1 hb
  rw [e] at e'; cases e'
  exact ⟨e,f0,f1,f2,d⟩
theorem Inv.unpinned {pins pl:List (Addr × Obj)} {σ:St} {H:Hp} {s:Shared} (I:Inv X (pins++pl) σ H s):Inv X pins σ H s:=I.pins_of fun p hp=>I.pin p (List.mem_append_right _ (List.mem_append_left _ hp))
theorem Zd2 {iter : Expr} {body : List Stmt} {wi : TI} {g : TG} {tb : TS} {pos : Pos} (hp : PassesOwn (model X.prog X.w) X.A X.env X.xe) (hc : X.calm=true) (hi : PI X tg iter wi) (hg : PG X tg g) (hb : PSs X body tb)
  (hs:∀ x,foldedSetIterable iter X.env x=pure x:=by intro _; rfl):PS X (.For tg iter body [] pos) (ZsJ wi g tb):=by
 intro pins s σ H D I h
 refine wpAny_For (thn (hi pins s σ H _ I h) fun v s1 h1=>thn h1 fun itv s2 h2=>?_) hs
 obtain ⟨it,fp,tn,J,H2,e,I2,T,st2,f2,W,⟨m0,w0⟩,turn⟩:=h2
 subst e
 have stat:∀ {H':Hp},(∀ b∈fp,H' b=none)->∀ b∈fp,Zmt X pins H' b:=fun hn b hb=>⟨hn b hb,(f2 b hb).2⟩
 refine codeAny_forLoop_any (fun n s'=>∃ i σ' H',Inv X pins σ' H' s'∧tn i s'.heap∧(∀ b∈fp,H' b=none)∧W i n σ' H') ?_ m0 ⟨0,σ,H2,I2,st2,fun b hb=>(f2 b hb).1,w0⟩
 rintro n s3 ⟨i,σ3,H3,I3,st3,fr3,w3⟩
 rcases turn i n σ3 H3 w3 with ⟨stop,qn⟩ | ⟨go,N,hN,step⟩
 ·refine wpAny_passesOwn hp (thn (T.done X rfl rfl rfl hc i pins s3 σ3 H3 X.xe I3 (stat fr3) st3 stop) fun r s4 ⟨hr,I4⟩=>?_)
  subst hr
  exact wpAny_execs_nil ⟨σ3,H3,I4,qn⟩
 ·refine wpAny_passesOwn hp (thn (T.item X rfl rfl rfl hc i pins s3 σ3 H3 X.xe I3 (stat fr3) st3 go) fun r s4 ⟨u,hr,h4⟩=>?_)
  subst hr
  refine wpAny_passesOwn hp (thn h4 fun _ s5 ⟨x,H5,I5,r5,y5,st5,fr5⟩=>?_)
  have I5':=I5.pinned (stat fr5) (T.obj _ _ st5)
  refine wpAny_passesOwn hp (thn (hg _ s5 σ3 H5 x u _ I5' r5 (step x H5 y5)) fun _ s6 ⟨σ6,H6,I6,q6⟩=>?_)
  refine wpAny_passesOwn hp (thn (hb _ s6 σ6 H6 _ I6 q6) fun f s7 q7=>?_)
  have again:∀ {σ7:St} {H7:Hp},Inv X (pins++ZjR fp s5.heap) σ7 H7 s7->N σ7 H7->∃ m,m<n∧∃ i σ' H',Inv X pins σ' H' s7∧tn i s7.heap∧(∀ b∈fp,H' b=none)∧W i m σ' H':=fun {σ7 H7} I7 n7=>by
   obtain ⟨m',hm,w7⟩:=hN σ7 H7 n7
   refine ⟨m',hm,i+1,σ7,H7,I7.unpinned,T.keep _ _ _ st5 fun b hb o e=>(I7.pin (b,o) (List.mem_append_right _ (List.mem_append_right _ (Zem hb e)))).1,fun b hb=>?_,w7⟩
   obtain ⟨o,e,d⟩:=T.obj _ _ st5 b hb
   exact (I7.pin (b,o) (List.mem_append_right _ (List.mem_append_right _ (Zem hb e)))).2.1
  cases f with
  | next=>obtain ⟨σ7,H7,I7,n7⟩:=q7; exact again I7 n7
  | cont=>obtain ⟨σ7,H7,I7,n7⟩:=q7; exact again I7 n7
  | brk=>obtain ⟨σ7,H7,I7,q7⟩:=q7; exact ⟨σ7,H7,I7.unpinned,q7⟩
  | ret v=>obtain ⟨x7,σ7,H7,I7,r7,q7⟩:=q7; exact ⟨x7,σ7,H7,I7.unpinned,r7,q7⟩
end
theorem Zdx {K : PySem.W.Frag} {a : Addr} {xs : List V} {g : TG} {tb : TS} {D : Ends} {σ : St} {H : Hp} (Pv : Nat → St → Hp → Prop) (h0 : Pv 0 σ H) (hl : ∀ i σ H, i ≤ xs.length → Pv i σ H → SqL K H a xs)
  (hs:∀ i x σ H,xs[i]?=some x->Pv i σ H->g x σ H fun σ2 H2=>tb { D with nx:=Pv (i+1),ct:=Pv (i+1),bk:=D.nx } σ2 H2) (hd:∀ σ H,Pv xs.length σ H->D.nx σ H) :
  ∃ W:Nat->Nat->St->Hp->Prop,(∃ m,W 0 m σ H)∧∀ i m σ H,W i m σ H →
   ((Itl K a).stop i H∧D.nx σ H)∨((Itl K a).go i H∧∃ N:St->Hp->Prop,(∀ σ' H',N σ' H'->∃ m',m'<m∧W (i+1) m' σ' H')∧∀ x H',(Itl K a).yld i H x H'->g x σ H' fun σ2 H2=>tb { D with nx:=N,ct:=N,bk:=D.nx } σ2 H2):=by
 refine ⟨fun i m σ H=>m=xs.length-i∧i≤xs.length∧Pv i σ H,⟨xs.length,by simp,Nat.zero_le _,h0⟩,?_⟩
 rintro i m σ H ⟨rfl,hi,p⟩
 have q:=hl i σ H hi p
 by_cases hlt:i<xs.length
 ·refine .inr ⟨⟨xs,xs[i],q,by simp [hlt]⟩,Pv (i+1),fun σ' H' p'=>⟨xs.length-(i+1),by omega,rfl,hlt,p'⟩,fun x H' y=>?_⟩
  obtain ⟨e,y⟩:=y
  subst e
  exact hs i x σ _ (y xs q) p
 ·have e:i=xs.length:=by omega
  subst e
  exact .inl ⟨⟨xs,q,Nat.le_refl _⟩,hd σ H p⟩
theorem Znd {K : PySem.W.Frag} {a : Addr} {xs : List V} {g : TG} {tb : TS} {D : Ends} {σ : St} {H : Hp} (Pv : Nat → St → Hp → Prop) (h0 : Pv 0 σ H) (hl : ∀ i σ H, i ≤ xs.length → Pv i σ H → SqT K H a xs)
  (hs:∀ i x σ H,xs[i]?=some x->Pv i σ H->g x σ H fun σ2 H2=>tb { D with nx:=Pv (i+1),ct:=Pv (i+1),bk:=D.nx } σ2 H2) (hd:∀ σ H,Pv xs.length σ H->D.nx σ H) :
  ∃ W:Nat->Nat->St->Hp->Prop,(∃ m,W 0 m σ H)∧∀ i m σ H,W i m σ H →
   ((Itt K a).stop i H∧D.nx σ H)∨((Itt K a).go i H∧∃ N:St->Hp->Prop,(∀ σ' H',N σ' H'->∃ m',m'<m∧W (i+1) m' σ' H')∧∀ x H',(Itt K a).yld i H x H'->g x σ H' fun σ2 H2=>tb { D with nx:=N,ct:=N,bk:=D.nx } σ2 H2):=by
 refine ⟨fun i m σ H=>m=xs.length-i∧i≤xs.length∧Pv i σ H,⟨xs.length,by simp,Nat.zero_le _,h0⟩,?_⟩
 rintro i m σ H ⟨rfl,hi,p⟩
 have q:=hl i σ H hi p
 by_cases hlt:i<xs.length
 ·refine .inr ⟨⟨xs,xs[i],q,by simp [hlt]⟩,Pv (i+1),fun σ' H' p'=>⟨xs.length-(i+1),by omega,rfl,hlt,p'⟩,fun x H' y=>?_⟩
  obtain ⟨e,y⟩:=y
  subst e
  exact hs i x σ _ (y xs q) p
 ·have e:i=xs.length:=by omega
  subst e
  exact .inl ⟨⟨xs,q,Nat.le_refl _⟩,hd σ H p⟩
theorem Zjd {lo : Int} {n : Nat} {g : TG} {tb : TS} {D : Ends} {σ : St} {H : Hp} (Pv : Nat → St → Hp → Prop) (h0 : Pv 0 σ H)
  (hs:∀ i σ H,i<n->Pv i σ H->g (.int (lo+i)) σ H fun σ2 H2=>tb { D with nx:=Pv (i+1),ct:=Pv (i+1),bk:=D.nx } σ2 H2) (hd:∀ σ H,Pv n σ H->D.nx σ H) :
  ∃ W:Nat->Nat->St->Hp->Prop,(∃ m,W 0 m σ H)∧∀ i m σ H,W i m σ H →
   ((Itr lo n).stop i H∧D.nx σ H)∨((Itr lo n).go i H∧∃ N:St->Hp->Prop,(∀ σ' H',N σ' H'->∃ m',m'<m∧W (i+1) m' σ' H')∧∀ x H',(Itr lo n).yld i H x H'->g x σ H' fun σ2 H2=>tb { D with nx:=N,ct:=N,bk:=D.nx } σ2 H2):=by
 refine ⟨fun i m σ H=>m=n-i∧i≤n∧Pv i σ H,⟨n,by simp,Nat.zero_le _,h0⟩,?_⟩
 rintro i m σ H ⟨rfl,hi,p⟩
 by_cases hlt:i<n
 ·refine .inr ⟨hlt,Pv (i+1),fun σ' H' p'=>⟨n-(i+1),by omega,rfl,hlt,p'⟩,fun x H' y=>?_⟩
  obtain ⟨e,y⟩:=y
  subst e y
  exact hs i σ _ hlt p
 ·have e:i=n:=by omega
  subst e
  exact .inl ⟨Nat.le_refl _,hd σ H p⟩
abbrev R2:=V->V->Hp->VK->Prop
def OpR (X:Cx) (f:Value->Value->Sem Value) (r:R2):Prop :=
 ∀ (pins:List (Addr × Obj)) (s:Shared) (σ:St) (H:Hp) (x y:V) (v u:Value) (Q:VK),Inv X pins σ H s->RelV x v->RelV y u->r x y H Q →
  wpAny (model X.prog X.w) X.A (f v u) (EP X pins σ Q) X.xe s
def UnR (X:Cx) (f:Value->Sem Value) (r:V->Hp->VK->Prop):Prop :=
 ∀ (pins:List (Addr × Obj)) (s:Shared) (σ:St) (H:Hp) (x:V) (v:Value) (Q:VK),Inv X pins σ H s->RelV x v->r x H Q →
  wpAny (model X.prog X.w) X.A (f v) (EP X pins σ Q) X.xe s
def Zdo (X:Cx) (f:Value) (r:List V->Hp->VK->Prop):Prop :=
 ∀ (pins:List (Addr × Obj)) (s:Shared) (σ:St) (H:Hp) (xs:List V) (us:List Value) (Q:VK),Inv X pins σ H s->Vals xs us->r xs H Q →
  wpAny (model X.prog X.w) X.A (call f us) (EP X pins σ Q) X.xe s
def tOp (r:R2) (ta tb:TE):TE:=fun σ H Q=>ta σ H fun x H1=>tb σ H1 fun y H2=>r x y H2 Q
def tUn (r:V->Hp->VK->Prop) (ta:TE):TE:=fun σ H Q=>ta σ H fun x H1=>r x H1 Q
def rI (C:Int->Int->Prop) (g:Int->Int->V):R2:=fun x y H Q=>∃ i j,x=.int i∧y=.int j∧C i j∧Q (g i j) H
def rI0 (g:Int->Int->V):R2:=fun x y H Q=>∃ i j,x=.int i∧y=.int j∧Q (g i j) H
def rU (g:Int->V):V->Hp->VK->Prop:=fun x H Q=>∃ i,x=.int i∧Q (g i) H
section
variable {X:Cx} {a b c:Expr} {ta tb tc:TE} {pos:Pos}
theorem ZrP (ha : PE X a ta) (hb : PE X b tb) {pins : List (Addr × Obj)} {s : Shared} {σ : St} {H : Hp} {R : V → V → Hp → Prop} (I : Inv X pins σ H s)
  (h:ta σ H fun x H1=>tb σ H1 fun y H2=>R x y H2) {Q:Value->Shared->Prop} {f:Value->Value->Sem Value}
  (hf:∀ v u s2 x y H2,Inv X pins σ H2 s2->RelV x v->RelV y u->R x y H2->wpAny (model X.prog X.w) X.A (f v u) Q X.xe s2) :
  wpAny (model X.prog X.w) X.A (eval a X.env) (fun v s₁=>wpAny (model X.prog X.w) X.A (eval b X.env) (fun u s₂=>wpAny (model X.prog X.w) X.A (f v u) Q X.xe s₂) X.xe s₁) X.xe s:=by
 refine thn (ha pins s σ H _ I h) fun v s1 ⟨x,H1,I1,r1,q1⟩=>?_
 refine thn (hb pins s1 σ H1 _ I1 q1) fun u s2 ⟨y,H2,I2,r2,q2⟩=>?_
 exact hf v u s2 x y H2 I2 r1 r2 q2
theorem ZaF {op:Operator} {r:R2} (ho:OpR X (binaryOp op) r) (ha:PE X a ta) (hb:PE X b tb):PE X (.BinOp a op b pos) (tOp r ta tb):=by
 intro pins s σ H Q I h
 exact wpAny_BinOp (ZrP ha hb I h fun v u s2 x y H2 I2 rx ry q=>ho pins s2 σ H2 x y v u Q I2 rx ry q)
theorem ZqS {op:UnaryOp} {r:V->Hp->VK->Prop} (ho:UnR X (unaryOp op) r) (ha:PE X a ta):PE X (.UnaryOp op a pos) (tUn r ta):=by
 intro pins s σ H Q I h
 exact UnaryOp_ (thn (ha pins s σ H _ I h) fun v s1 ⟨x,H1,I1,r1,q1⟩=>ho pins s1 σ H1 x v Q I1 r1 q1)
theorem opI {f : Value → Value → Sem Value} {C : Int → Int → Prop} {g : Int → Int → Int}
  (rule:∀ (i j:Int) (t u:Tok) (s:Shared) (Q:Value->Shared->Prop) (E:Value->Shared->Prop),C i j->Q (.int (g i j) s.toks) { s with toks:=s.toks+1 }->wpAny (model X.prog X.w) X.A (f (.int i t) (.int j u)) Q E s) :
  OpR X f (rI C fun i j=>.int (g i j)):=by
 intro pins s σ H x y v u Q I rx ry h
 obtain ⟨i,j,rfl,rfl,hc,q⟩:=h
 obtain ⟨t,rfl⟩:=rx
 obtain ⟨t',rfl⟩:=ry
 exact rule i j t t' s _ _ hc ⟨.int (g i j),H,I.tok _,⟨_,rfl⟩,q⟩
theorem Zr9 {f : Value → Value → Sem Value} {g : Int → Int → Int}
  (rule:∀ (i j:Int) (t u:Tok) (s:Shared) (Q:Value->Shared->Prop) (E:Value->Shared->Prop),Q (.int (g i j) s.toks) { s with toks:=s.toks+1 }->wpAny (model X.prog X.w) X.A (f (.int i t) (.int j u)) Q E s) :
  OpR X f (rI0 fun i j=>.int (g i j)):=by
 intro pins s σ H x y v u Q I rx ry h
 obtain ⟨i,j,rfl,rfl,q⟩:=h
 obtain ⟨t,rfl⟩:=rx
 obtain ⟨t',rfl⟩:=ry
 exact rule i j t t' s _ _ ⟨.int (g i j),H,I.tok _,⟨_,rfl⟩,q⟩
theorem Zrw {f : Value → Value → Sem Value} {g : Int → Int → Bool}
  (rule:∀ (i j:Int) (t u:Tok) (s:Shared) (Q:Value->Shared->Prop) (E:Value->Shared->Prop),Q (.bool (g i j)) s->wpAny (model X.prog X.w) X.A (f (.int i t) (.int j u)) Q E s) :
  OpR X f (rI0 fun i j=>.bl (g i j)):=by
 intro pins s σ H x y v u Q I rx ry h
 obtain ⟨i,j,rfl,rfl,q⟩:=h
 obtain ⟨t,rfl⟩:=rx
 obtain ⟨t',rfl⟩:=ry
 exact rule i j t t' s _ _ ⟨.bl (g i j),H,I,rfl,q⟩
def ZpN (i j:Int):Prop:=0≤j∧j≤1000000∧i.natAbs<2 ^ 64
def CMul (i j:Int):Prop:=(-(2 ^ 64)<i∧i<2 ^ 64)∨(-(2 ^ 64)<j∧j<2 ^ 64)
theorem CMul.ok {i j:Int} (h:CMul i j):IntMulOk i j:=by
 rcases h with ⟨h1,h2⟩ | ⟨h1,h2⟩
 ·exact .of_left (intBits_le_64 h1 h2)
 ·exact .of_right (intBits_le_64 h1 h2)
theorem Zcd:OpR X (binaryOp .Add) (rI0 fun i j=>.int (i+j)):=Zr9 fun _ _ _ _ _ _ _ q=>add_int q
theorem Zke:OpR X (binaryOp .Sub) (rI0 fun i j=>.int (i-j)):=Zr9 fun _ _ _ _ _ _ _ q=>sub_int q
theorem Zf0:OpR X (binaryOp .Mult) (rI CMul fun i j=>.int (i*j)):=opI fun _ _ _ _ _ _ _ hc q=>mul_int q hc.ok
theorem ZbH:OpR X (binaryOp .Mod) (rI (fun _ j=>j≠0) fun i j=>.int (i.fmod j)):=opI fun _ _ _ _ _ _ _ hc q=>mod_int' hc q
theorem Ze6:OpR X (binaryOp .Pow) (rI ZpN fun i j=>.int (i ^ j.toNat)):=opI fun _ _ _ _ _ _ _ hc q=>pow_int_small hc.1 hc.2.1 hc.2.2 q
theorem unI {f : Value → Sem Value} {g : Int → Int}
  (rule:∀ (i:Int) (t:Tok) (s:Shared) (Q:Value->Shared->Prop) (E:Value->Shared->Prop),Q (.int (g i) s.toks) { s with toks:=s.toks+1 }->wpAny (model X.prog X.w) X.A (f (.int i t)) Q E s) :
  UnR X f (rU fun i=>.int (g i)):=by
 intro pins s σ H x v Q I rx h
 obtain ⟨i,rfl,q⟩:=h
 obtain ⟨t,rfl⟩:=rx
 exact rule i t s _ _ ⟨.int (g i),H,I.tok _,⟨_,rfl⟩,q⟩
theorem Zpf:UnR X (unaryOp .USub) (rU fun i=>.int (-i)):=unI fun _ _ _ _ _ q=>neg_int q
end
noncomputable def Zsk:V->V->Bool
 | .non,.non=>true | .non,.int _=>true | .int _,.non=>true | .non,.bl _=>true | .bl _,.non=>true | .non,.str _=>true | .str _,.non=>true
 | .int _,.int _=>true | .bl _,.bl _=>true | .str _,.str _=>true | .byt _,.byt _=>true
 | .int _,.str _=>true | .str _,.int _=>true | .bl _,.str _=>true | .str _,.bl _=>true
 | _,_=>false
def rEq:R2:=fun x y H Q=>Zsk x y=true∧Q (.bl (decide (x=y))) H
def rNe:R2:=fun x y H Q=>Zsk x y=true∧Q (.bl (!decide (x=y))) H
theorem ZmM {i j:Int}:decide (V.int i=V.int j)=(i == j):=by
 rw [Bool.eq_iff_iff]
 simp
theorem Zpc {i j:Bool}:decide (V.bl i=V.bl j)=(i == j):=by
 rw [Bool.eq_iff_iff]
 simp
theorem ZmT {i j:Str}:decide (V.str i=V.str j)=(i == j):=by
 rw [Bool.eq_iff_iff]
 simp
theorem ZmX {i j:Array UInt8}:decide (V.byt i=V.byt j)=(i.toList == j.toList):=by
 rw [Bool.eq_iff_iff]
 cases i
 cases j
 simp
section
variable {X:Cx} {a b c:Expr} {ta tb tc:TE} {pos:Pos}
theorem Za6 {pins:List (Addr × Obj)} {σ:St} {H:Hp} {s:Shared} {Q:VK} {k k':Bool} (I:Inv X pins σ H s) (q:Q (.bl k) H) (e:k=k'):EP X pins σ Q (.bool k') s:=by
 subst e
 exact ⟨.bl k,H,I,rfl,q⟩
theorem Zbb:OpR X (compareOp .Eq) rEq:=by
 intro pins s σ H x y v u Q I rx ry h
 obtain ⟨hs,q⟩:=h
 cases x with
 | non =>
  cases rx
  cases y with
  | non=>cases ry; exact PySem.EqNone.eq_none_none (Za6 I q (by simp))
  | bl j=>cases ry; exact PySem.EqNone.eq_none_bool (Za6 I q (by simp))
  | int j=>obtain ⟨t',rfl⟩:=ry; exact PySem.EqNone.eq_none_int (Za6 I q (by simp))
  | str j=>obtain ⟨t',rfl⟩:=ry; exact PySem.EqNone.eq_none_str (Za6 I q (by simp))
  | _=>exact absurd (show false=true from hs) Bool.false_ne_true
 | bl i =>
  cases rx
  cases y with
  | non=>cases ry; exact PySem.EqNone.eq_bool_none (Za6 I q (by simp))
  | bl j=>cases ry; exact eq_bool (Za6 I q Zpc)
  | str j=>obtain ⟨t',rfl⟩:=ry; exact PySem.EqMixed.eq_bool_str (Za6 I q (by simp))
  | _=>exact absurd (show false=true from hs) Bool.false_ne_true
 | int i =>
  obtain ⟨t,rfl⟩:=rx
  cases y with
  | non=>cases ry; exact PySem.EqNone.eq_int_none (Za6 I q (by simp))
  | int j=>obtain ⟨t',rfl⟩:=ry; exact eq_int (Za6 I q ZmM)
  | str j=>obtain ⟨t',rfl⟩:=ry; exact PySem.EqMixed.eq_int_str (Za6 I q (by simp))
  | _=>exact absurd (show false=true from hs) Bool.false_ne_true
 | str i =>
  obtain ⟨t,rfl⟩:=rx
  cases y with
  | non=>cases ry; exact PySem.EqNone.eq_str_none (Za6 I q (by simp))
  | bl j=>cases ry; exact PySem.EqMixed.eq_str_bool (Za6 I q (by simp))
  | int j=>obtain ⟨t',rfl⟩:=ry; exact PySem.EqMixed.eq_str_int (Za6 I q (by simp))
  | str j=>obtain ⟨t',rfl⟩:=ry; exact eq_str (Za6 I q ZmT)
  | _=>exact absurd (show false=true from hs) Bool.false_ne_true
 | byt i =>
  obtain ⟨t,rfl⟩:=rx
  cases y with
  | byt j=>obtain ⟨t',rfl⟩:=ry; exact W.eq_bytes (Za6 I q ZmX)
  | _=>exact absurd (show false=true from hs) Bool.false_ne_true
 | _=>cases y <;> exact absurd (show false=true from hs) Bool.false_ne_true
theorem Zij:OpR X (compareOp .NotEq) rNe:=by
 intro pins s σ H x y v u Q I rx ry h
 obtain ⟨hs,q⟩:=h
 cases x with
 | non =>
  cases rx
  cases y with
  | non=>cases ry; exact PySem.EqNone.ne_none_none (Za6 I q (by simp))
  | bl j=>cases ry; exact PySem.EqNone.ne_none_bool (Za6 I q (by simp))
  | int j=>obtain ⟨t',rfl⟩:=ry; exact PySem.EqNone.ne_none_int (Za6 I q (by simp))
  | str j=>obtain ⟨t',rfl⟩:=ry; exact PySem.EqNone.ne_none_str (Za6 I q (by simp))
  | _=>exact absurd (show false=true from hs) Bool.false_ne_true
 | bl i =>
  cases rx
  cases y with
  | non=>cases ry; exact PySem.EqNone.ne_bool_none (Za6 I q (by simp))
  | bl j=>cases ry; exact ne_bool (Za6 I q (congrArg not Zpc))
  | str j=>obtain ⟨t',rfl⟩:=ry; exact PySem.EqMixed.ne_bool_str (Za6 I q (by simp))
  | _=>exact absurd (show false=true from hs) Bool.false_ne_true
 | int i =>
  obtain ⟨t,rfl⟩:=rx
  cases y with
  | non=>cases ry; exact PySem.EqNone.ne_int_none (Za6 I q (by simp))
  | int j=>obtain ⟨t',rfl⟩:=ry; exact ne_int (Za6 I q (congrArg not ZmM))
  | str j=>obtain ⟨t',rfl⟩:=ry; exact PySem.EqMixed.ne_int_str (Za6 I q (by simp))
  | _=>exact absurd (show false=true from hs) Bool.false_ne_true
 | str i =>
  obtain ⟨t,rfl⟩:=rx
  cases y with
  | non=>cases ry; exact PySem.EqNone.ne_str_none (Za6 I q (by simp))
  | bl j=>cases ry; exact PySem.EqMixed.ne_str_bool (Za6 I q (by simp))
  | int j=>obtain ⟨t',rfl⟩:=ry; exact PySem.EqMixed.ne_str_int (Za6 I q (by simp))
  | str j=>obtain ⟨t',rfl⟩:=ry; exact ne_str (Za6 I q (congrArg not ZmT))
  | _=>exact absurd (show false=true from hs) Bool.false_ne_true
 | byt i =>
  obtain ⟨t,rfl⟩:=rx
  cases y with
  | byt j=>obtain ⟨t',rfl⟩:=ry; exact W.ne_bytes (Za6 I q (congrArg not ZmX))
  | _=>exact absurd (show false=true from hs) Bool.false_ne_true
 | _=>cases y <;> exact absurd (show false=true from hs) Bool.false_ne_true
theorem Zj8:OpR X (compareOp .Lt) (rI0 fun i j=>.bl (decide (i<j))):=Zrw fun _ _ _ _ _ _ _ q=>lt_int q
theorem Zo1:OpR X (compareOp .LtE) (rI0 fun i j=>.bl (decide (i≤j))):=Zrw fun _ _ _ _ _ _ _ q=>le_int q
theorem Zqp:OpR X (compareOp .Gt) (rI0 fun i j=>.bl (decide (j<i))):=Zrw fun _ _ _ _ _ _ _ q=>gt_int q
theorem Zi2:OpR X (compareOp .GtE) (rI0 fun i j=>.bl (decide (j≤i))):=Zrw fun _ _ _ _ _ _ _ q=>ge_int q
theorem Zm6:OpR X (compareOp .Lt) (fun x y H Q=>∃ i j,x=.str i∧y=.str j∧Q (.bl (decide (i.cps.toList<j.cps.toList))) H):=by
 intro pins s σ H x y v u Q I rx ry h
 obtain ⟨i,j,rfl,rfl,q⟩:=h
 obtain ⟨t,rfl⟩:=rx
 obtain ⟨t',rfl⟩:=ry
 exact lt_str (Za6 I q rfl)
theorem ZmW:OpR X (compareOp .In) (fun x y H Q=>∃ i j,x=.str i∧y=.str j∧Q (.bl (!(Builtin.Str.occurrences j i 0 j.length 1).isEmpty)) H):=by
 intro pins s σ H x y v u Q I rx ry h
 obtain ⟨i,j,rfl,rfl,q⟩:=h
 obtain ⟨t,rfl⟩:=rx
 obtain ⟨t',rfl⟩:=ry
 exact in_str (Za6 I q rfl)
theorem Zpj:OpR X (compareOp .Is) (fun x y H Q=>y=.non∧Q (.bl (decide (x=.non))) H):=by
 intro pins s σ H x y v u Q I rx ry h
 obtain ⟨rfl,q⟩:=h
 cases ry
 refine is_none_gen (Za6 I q ?_)
 cases x <;> first
  | (cases rx; rfl)
  | (obtain ⟨t,rfl⟩:=rx; rfl)
theorem ZpJ:OpR X (compareOp .IsNot) (fun x y H Q=>y=.non∧Q (.bl (!decide (x=.non))) H):=by
 intro pins s σ H x y v u Q I rx ry h
 obtain ⟨rfl,q⟩:=h
 cases ry
 refine isnot_none_gen (Za6 I q ?_)
 cases x <;> first
  | (cases rx; rfl)
  | (obtain ⟨t,rfl⟩:=rx; rfl)
theorem Zar (b:Expr) {op:CmpOp} (h:op≠.In:=by decide) (h2:op≠.NotIn:=by decide):behindInMarks op b=false:=by
 have e1:(op == CmpOp.In)=false:=by cases op <;> first | rfl | exact absurd rfl h
 have e2:(op == CmpOp.NotIn)=false:=by cases op <;> first | rfl | exact absurd rfl h2
 cases b <;> simp [behindInMarks,e1,e2]
theorem ZaN {op:CmpOp} {r:R2} (ho:OpR X (compareOp op) r) (ha:PE X a ta) (hb:PE X b tb) (hm:behindInMarks op b=false):PE X (.Compare a [op] [b] pos) (tOp r ta tb):=by
 intro pins s σ H Q I h
 exact wpAny_Compare1 (ZrP ha hb I h fun v u s2 x y H2 I2 rx ry q=>ho pins s2 σ H2 x y v u Q I2 rx ry q) hm
def Zr0 (t:TE):TT:=fun σ H Q=>t σ H fun x H'=>∃ k,x=.bl k∧Q k H'
theorem Zaq {op:CmpOp} {r:R2} (ho:OpR X (compareOp op) r) (ha:PE X a ta) (hb:PE X b tb) (hm:behindInMarks op b=false):PT X (.Compare a [op] [b] pos) (Zr0 (tOp r ta tb)):=by
 intro pins s σ H Q I h
 refine wpAny_isTrue_Compare1 (thn (ha pins s σ H _ I h) fun v s1 ⟨x,H1,I1,r1,q1⟩=>thn (hb pins s1 σ H1 _ I1 q1) fun u s2 ⟨y,H2,I2,r2,q2⟩ =>
  thn (ho pins s2 σ H2 x y v u _ I2 r1 r2 q2) fun c s3 ⟨z,H3,I3,r3,k,e,q3⟩=>?_) hm
 subst e
 cases r3
 exact wpAny_truthy_bool ⟨H3,I3,q3⟩
theorem Zkc:(sizeLine:Nat)<2 ^ 63:=by rw [sizeLine_eq]; decide
theorem Zl3:OpR X (binaryOp .Add) (fun x y H Q=>∃ i j,x=.str i∧y=.str j∧i.length+j.length≤sizeLine∧Q (.str (i++j)) H):=by
 intro pins s σ H x y v u Q I rx ry h
 obtain ⟨i,j,rfl,rfl,hz,q⟩:=h
 obtain ⟨t,rfl⟩:=rx
 obtain ⟨t',rfl⟩:=ry
 exact add_str (fun t' tk=>⟨.str (i++j),H,I.tok _,⟨_,rfl⟩,q⟩) hz
theorem ZeF {x:V} {us:List Value} (r:Vals [x] us):∃ u,us=[u]∧RelV x u:=by
 cases r with
 | cons r1 r2=>cases r2; exact ⟨_,rfl,r1⟩
theorem Zmc {x y:V} {us:List Value} (r:Vals [x,y] us):∃ u w',us=[u,w']∧RelV x u∧RelV y w':=by
 cases r with
 | cons r1 r2 =>
  cases r2 with
  | cons r3 r4=>cases r4; exact ⟨_,_,rfl,r1,r3⟩
theorem Zod:Zdo X (.builtin "abs") (fun xs H Q=>∃ i,xs=[.int i]∧Q (.int (if i<0 then -i else i)) H):=by
 intro pins s σ H xs us Q I r h
 obtain ⟨i,rfl,q⟩:=h
 obtain ⟨u,rfl,t,rfl⟩:=ZeF r
 exact call_abs_int fun u tk=>⟨.int (if i<0 then -i else i),H,I.tok _,⟨_,rfl⟩,q⟩
theorem Znv (hc:X.calm=true):Zdo X (.builtin "max") (fun xs H Q=>∃ i j,xs=[.int i,.int j]∧Q (.int (if j > i then j else i)) H):=by
 intro pins s σ H xs us Q I r h
 obtain ⟨i,j,rfl,q⟩:=h
 obtain ⟨u,w',rfl,⟨t,rfl⟩,⟨t',rfl⟩⟩:=Zmc r
 refine max_two_ints (I.ok.hd hc) fun h' tk k=>⟨_,H,I.kept k,?_,q⟩
 by_cases hj:j > i
 ·rw [if_pos hj,if_pos hj]; exact ⟨_,rfl⟩
 ·rw [if_neg hj,if_neg hj]; exact ⟨_,rfl⟩
theorem Zn6:Zdo X (.type "int") (fun xs H Q=>(∃ i,xs=[.int i]∧Q (.int i) H)∨∃ k,xs=[.bl k]∧Q (.int (if k then 1 else 0)) H):=by
 intro pins s σ H xs us Q I r h
 rcases h with ⟨i,rfl,q⟩ | ⟨k,rfl,q⟩
 ·obtain ⟨u,rfl,t,rfl⟩:=ZeF r
  exact call_int_int ⟨.int i,H,I,⟨_,rfl⟩,q⟩
 ·obtain ⟨u,rfl,r1⟩:=ZeF r
  cases r1
  exact call_int_bool ⟨.int (if k then 1 else 0),H,I.tok _,⟨_,rfl⟩,q⟩
end
structure ObjM (h:Heap) (x dx C:Addr) (mA:Str->Option Value):Prop where
 obj:h.get? x=some (W.instObj C dx)
 ns:h.Ns1 dx mA
 ne:dx≠x
theorem ZmQ {h:Heap} {dx:Addr} {mA:Str->Option Value} (n:h.Ns1 dx mA):∃ od,h.get? dx=some od∧∀ name,W.lookIn name od=some (mA name):=by
 obtain ⟨o,es,ep,ho,hd,hk,_,hm⟩:=n
 refine ⟨o,ho,fun name=>?_⟩
 have e:=hm name
 unfold nsFind findBy at e
 rw [← Array.find?_toList] at e
 unfold W.lookIn
 rw [hd]
 dsimp only
 split
 ·rename_i y q
  rw [q] at e
  exact congrArg some e
 ·rename_i q
  rw [q] at e
  have a:es.toList.any (·.refKey)=false:=by
   rw [List.any_eq_false]
   intro y hy
   obtain ⟨z,t,hkey⟩:=hk y (Array.mem_toList_iff.mp hy)
   simp [DictEntry.refKey,hkey]
  have a':¬ es.toList.any (·.refKey)=true:=by rw [a]; exact Bool.false_ne_true
  rw [if_neg a']
  exact congrArg some e
theorem ObjM.look {h:Heap} {x dx C:Addr} {mA:Str->Option Value} (I:ObjM h x dx C mA):∃ od,W.InstAt h x (W.instObj C dx) C (some od)∧∀ name,W.lookIn name od=some (mA name) :=
 let ⟨od,ho,hl⟩:=ZmQ I.ns
 ⟨od,⟨I.obj,rfl,rfl,ho⟩,hl⟩
section
variable {prog:Program} {w:World} {A:Around} {E:Value->Shared->Prop} {s:Shared} {K:W.Frag} {x dx C f:Addr} {mA:Str->Option Value} {name:Str} {v:Value}
theorem ZpM {expr : Bool} {Q : Value → Shared → Prop} (X : K.In s.heap) (I : ObjM s.heap x dx C mA) (hg : W.plainGet K C name=true) (hh : W.hasDictIn K C=true)
  (ha:W.findIn K (.ref C) name=some none) (hv:mA name=some v) (hv':W.handedIn v=true) (h:Q v { s with toks:=s.toks+1 }) :
  wpAny (model prog w) A (getAttr (.ref x) name expr) Q E s:=by
 obtain ⟨od,J,hl⟩:=I.look
 exact W.get_value X J (W.plainGet_of hg).1 (W.findObj_own hh ha rfl (by rw [hl,hv])) hv' h
theorem Zor {pl : Sem Bool} {Q : Value × List Value → Shared → Prop} (X : K.In s.heap) (I : ObjM s.heap x dx C mA) (hg : W.plainGet K C name=true)
  (hf:W.findIn K (.ref C) name=some (some (.ref f))) (ht:W.isFn K (.ref f)=true) (hv:mA name=none) (h:Q (.ref f,[.ref x]) s) :
  wpAny (model prog w) A (getMethod (.ref x) name pl) Q E s:=by
 obtain ⟨od,J,hl⟩:=I.look
 exact W.method_fn X J (W.plainGet_of hg).1 (W.plainGet_of hg).2 hf (beq_iff_eq.mp ht) (by show (W.lookIn name od).map (·.isSome)=some false; rw [hl,hv]; rfl) h
theorem Zqj {ns : List Str} {Q : Unit → Shared → Prop} (X : K.In s.heap) (I : ObjM s.heap x dx C mA)
  (hs:W.findIn K (.ref C) "__setattr__"=some (some (.builtin "object.__setattr__"))) (hp:W.plainOver K C=true) (ht:W.takerIn K C name=some none) (hh:W.hasDictIn K C=true)
  (hw:PySem.Within mA ns) (hsz:ns.length≤sizeLine)
  (h:∀ h',ObjM h' x dx C (fun y=>if y=name then some v else mA y)->Heap.SameBut dx s.heap h'->Q () { s with heap:=h',toks:=s.toks+2 }) :
  wpAny (model prog w) A (setAttr (.ref x) name v) Q E s:=by
 obtain ⟨od,J,hl⟩:=I.look
 refine W.set_plain X J hs (W.osa_open (s:={ s with toks:=s.toks+1 }) (r:=none) X J hp ht fun b=>?_)
 obtain ⟨cd,hc,hd'⟩:=W.any_some hh
 have hx:s.heap.get? x=some ⟨.ref C,some dx,.plain,#[]⟩:=I.obj
 refine wpAny_bind (wpAny_pure (wpAny_bind (wpAny_bind (wpAny_loadPart hx (wpAny_bind (W.Looks.here (s:={ s with toks:=s.toks+1 }) (W.looks_clsIn X hc) ?_))))))
 rw [hd']
 refine wpAny_pure (a:=some dx) (wpAny_bind (wpAny_pure (wpAny_bind ?_)))
 refine wpAny_nsSet1 (s:={ s with toks:=s.toks+1 }) I.ns fun h' hn2 hs2=>?_
 obtain ⟨oD,esD,epD,hoD,hdD,hcD⟩:=hn2.count (PySem.Within.cons name v hw)
 refine wpAny_bind (wpAny_lookBehind hoD (by rw [hdD]; exact pastItsLine_dict (Nat.le_trans hcD (by rw [List.length_cons]; omega))) ?_)
 exact wpAny_pure (h _ ⟨(hs2.2 _ (Ne.symm I.ne)).trans I.obj,hn2,I.ne⟩ hs2)
theorem ZoD {R : Result → Shared → Prop} {vs : List Value} {kw : List (Str × Value)} (X : K.In s.heap) (hm : W.makesIn K C=true)
  (hi:W.findIn K (.ref C) "__init__"=some (some (.ref f))) (hf:W.typeIn K (.ref f)=some (.type "function"))
  (h:codeAny (model prog w) (A.under (.builtin "type.__call__" ⟨.ref C :: vs,kw⟩)) (.call (.ref f) ⟨.ref (s.heap.objs.size+1) :: vs,kw⟩) (W.InitBack (s.heap.objs.size+1) R)
   { s with heap:=(s.heap.push W.emptyDict).push (W.instObj C s.heap.objs.size) }) :
  codeAny (model prog w) A (.call (.ref C) ⟨vs,kw⟩) R s:=by
 obtain ⟨hh,g,d,t,os⟩:=s
 exact W.make_core (W.makes_of X hm) (W.looks_findIn X hi) (fun self=>W.bind_fn X self hf) (.inl rfl) h
end
noncomputable def Zb8 (f:Str) (v:V):List (Str × V)->List (Str × V)
 | []=>[(f,v)]
 | (g,x) :: r=>if g=f then (g,v) :: r else (g,x) :: Zb8 f v r
theorem Zha (f g:Str) (v:V):∀ fs:List (Str × V),(Zb8 f v fs).lookup g=if g=f then some v else fs.lookup g
 | []=>by
  show List.lookup g [(f,v)]=_
  by_cases h:g=f
  ·have hb:(g == f)=true:=beq_iff_eq.mpr h
   simp only [List.lookup,hb,if_pos h]
  ·have hb:(g == f)=false:=beq_eq_false_iff_ne.mpr h
   simp only [List.lookup,hb,if_neg h]
 | (k,x) :: r=>by
  have ih:=Zha f g v r
  rw [show Zb8 f v ((k,x) :: r)=(if k=f then (k,v) :: r else (k,x) :: Zb8 f v r) from rfl]
  by_cases hk:k=f
  ·rw [if_pos hk]
   by_cases h:g=k
   ·have hb:(g == k)=true:=beq_iff_eq.mpr h
    simp only [List.lookup,hb,if_pos (h.trans hk)]
   ·have hb:(g == k)=false:=beq_eq_false_iff_ne.mpr h
    simp only [List.lookup,hb,if_neg (fun e:g=f=>h (e.trans hk.symm))]
  ·rw [if_neg hk]
   by_cases h:g=k
   ·have hb:(g == k)=true:=beq_iff_eq.mpr h
    simp only [List.lookup,hb,if_neg (fun e:g=f=>hk (h.symm.trans e))]
   ·have hb:(g == k)=false:=beq_eq_false_iff_ne.mpr h
    simp only [List.lookup,hb]
    exact ih
theorem Zg3 (f:Str) (v:V):∀ fs:List (Str × V),f∈(Zb8 f v fs).map (·.1)∧∀ g,g∈fs.map (·.1)->g∈(Zb8 f v fs).map (·.1)
 | []=>⟨by simp [Zb8],fun g h=>by simp at h⟩
 | (k,x) :: r=>by
  obtain ⟨i1,i2⟩:=Zg3 f v r
  rw [show Zb8 f v ((k,x) :: r)=(if k=f then (k,v) :: r else (k,x) :: Zb8 f v r) from rfl]
  by_cases hk:k=f
  ·rw [if_pos hk]
   subst hk
   exact ⟨by simp,fun g h=>by simpa using h⟩
  ·rw [if_neg hk]
   refine ⟨?_,fun g h=>?_⟩
   ·rw [List.map_cons]
    exact List.mem_cons_of_mem _ i1
   ·rw [List.map_cons] at h ⊢
    rcases List.mem_cons.mp h with e | e
    ·exact List.mem_cons.mpr (.inl e)
    ·exact List.mem_cons_of_mem _ (i2 g e)
theorem Zgx (f:Str) (v:V):∀ fs:List (Str × V),(Zb8 f v fs).length≤fs.length+1
 | []=>by simp [Zb8]
 | (k,x) :: r=>by
  have ih:=Zgx f v r
  rw [show Zb8 f v ((k,x) :: r)=(if k=f then (k,v) :: r else (k,x) :: Zb8 f v r) from rfl]
  by_cases hk:k=f
  ·rw [if_pos hk,List.length_cons,List.length_cons]; omega
  ·rw [if_neg hk,List.length_cons,List.length_cons]; omega
theorem RelO.some_of {v:V} {o:Option Value} (r:RelO (some v) o):∃ u,o=some u∧RelV v u:=by
 cases o with
 | none=>exact (show False from r).elim
 | some u=>exact ⟨u,rfl,r⟩
theorem RelO.none_of {o:Option Value} (r:RelO none o):o=none:=by
 cases o with
 | none=>rfl
 | some u=>exact (show False from r).elim
theorem ZnT {v:V} {u:Value} (r:RelV v u):W.handedIn u=true:=by
 cases v with
 | non=>cases (show u=Value.none from r); rfl
 | bl b=>cases (show u=Value.bool b from r); rfl
 | int i=>obtain ⟨t,e⟩:=(show ∃ t,u=Value.int i t from r); cases e; rfl
 | str x=>obtain ⟨t,e⟩:=(show ∃ t,u=Value.str x t from r); cases e; rfl
 | byt b=>obtain ⟨t,e⟩:=(show ∃ t,u=Value.bytes b t from r); cases e; rfl
 | flt b=>obtain ⟨t,e⟩:=(show ∃ t,u=Value.float b t from r); cases e; rfl
 | ref a=>cases (show u=Value.ref a from r); rfl
 | ty n=>cases (show u=Value.type n from r); rfl
section
variable {P:Program} {w:World} {H H':Hp} {h h':Heap} {a C dx:Addr} {fs fs':List (Str × V)}
theorem Zil (hok:HOk P w H h) (e:H a=some (.ins C dx fs)):∃ mA,ObjM h a dx C mA∧(∀ f,RelO (fs.lookup f) (mA f))∧PySem.Within mA (fs.map (·.1))∧fs.length≤1000∧H dx=some (.own a):=by
 obtain ⟨d,z,ne,ob,mA,n,r,q⟩:=(show ObjOk P w H h a (.ins C dx fs) from hok a _ e)
 exact ⟨mA,⟨ob,n,ne⟩,r,q,z,d⟩
end
structure Cls (K:W.Frag) (C:Addr):Prop where
 pg:W.plainGet K C Str.empty=true
 hd:W.hasDictIn K C=true
 po:W.plainOver K C=true
 sa:W.findIn K (.ref C) "__setattr__"=some (some (.builtin "object.__setattr__"))
theorem Cls.get {K:W.Frag} {C:Addr} (c:Cls K C) (f:Str):W.plainGet K C f=true:=c.pg
def NoAttr (K:W.Frag) (C:Addr) (f:Str):Prop:=W.findIn K (.ref C) f=some none
theorem NoAttr.taker {K:W.Frag} {C:Addr} {f:Str} (n:NoAttr K C f):W.takerIn K C f=some none:=by
 unfold W.takerIn
 rw [show W.findIn K (.ref C) f=some none from n]
 rfl
structure Meth (K:W.Frag) (C:Addr) (m:Str) (f:Addr):Prop where
 at_:W.findIn K (.ref C) m=some (some (.ref f))
 fn:W.isFn K (.ref f)=true
 kp:W.keepIn K (.ref f)=true
section
variable {X:Cx} {pins:List (Addr × Obj)} {σ:St} {H:Hp} {s:Shared} {a C dx:Addr} {fs:List (Str × V)} {f:Str} {v:V} {A:Around} {E:Value->Shared->Prop}
theorem Zmq {b : Bool} {Q : Value → Shared → Prop} (I : Inv X pins σ H s) (e : H a=some (.ins C dx fs)) (c : Cls X.K C) (n : NoAttr X.K C f) (l : fs.lookup f=some v)
  (h:∀ u s',Inv X pins σ H s'->RelV v u->Q u s'):wpAny (model X.prog X.w) A (getAttr (.ref a) f b) Q E s:=by
 obtain ⟨mA,O,r,_,_,_⟩:=Zil I.hok e
 obtain ⟨u,hu,ru⟩:=RelO.some_of (v:=v) (o:=mA f) (by rw [← l]; exact r f)
 exact ZpM I.kIn O (c.get f) c.hd n hu (ZnT ru) (h u _ (I.tok _) ru)
theorem ZhT {m : Str} {g : Addr} {pl : Sem Bool} {Q : Value × List Value → Shared → Prop} (I : Inv X pins σ H s) (e : H a=some (.ins C dx fs)) (c : Cls X.K C) (k : Meth X.K C m g) (l : fs.lookup m=none)
  (h:Q (.ref g,[.ref a]) s):wpAny (model X.prog X.w) A (getMethod (.ref a) m pl) Q E s:=by
 obtain ⟨mA,O,r,_,_,_⟩:=Zil I.hok e
 have hn:mA m=none:=RelO.none_of (by rw [← l]; exact r m)
 exact Zor I.kIn O (c.get m) k.at_ k.fn hn h
theorem ZlQ {y : V} {u : Value} {Q : Unit → Shared → Prop} (I : Inv X pins σ H s) (e : H a=some (.ins C dx fs)) (c : Cls X.K C) (n : NoAttr X.K C f) (hl : fs.length<1000) (ry : RelV y u)
  (h:∀ s',Inv X pins σ (upd H a (.ins C dx (Zb8 f y fs))) s'->Q () s'):wpAny (model X.prog X.w) A (setAttr (.ref a) f u) Q E s:=by
 obtain ⟨mA,O,r,wi,_,ho⟩:=Zil I.hok e
 have hz:(fs.map (·.1)).length≤sizeLine:=by rw [List.length_map,sizeLine_eq]; omega
 refine Zqj I.kIn O c.sa c.po n.taker c.hd wi hz fun h' O' sb=>h _ ?_
 have hd:∃ o,h'.get? dx=some o:=let ⟨o,_,_,e',_⟩:=O'.ns; ⟨o,e'⟩
 refine I.write (x:=a) (e:=dx) (by rw [e]; exact True.intro) (.inr ho) (fun b q hb z=>(sb.2 b hb).trans z) hd ?_
 refine ⟨by rw [Zai O.ne]; exact ho,?_,O.ne,O'.obj,_,O'.ns,fun g=>?_,fun g hg=>?_⟩
 ·have:=Zgx f y fs; omega
 ·show RelO ((Zb8 f y fs).lookup g) (if g=f then some u else mA g)
  rw [Zha]
  by_cases q:g=f
  ·rw [if_pos q,if_pos q]; exact ry
  ·rw [if_neg q,if_neg q]; exact r g
 ·by_cases q:g=f
  ·rw [q]; exact (Zg3 f y fs).1
  ·refine (Zg3 f y fs).2 g (wi g fun z=>hg ?_)
   show (if g=f then some u else mA g)=none
   rw [if_neg q]; exact z
theorem Inv.made (I : Inv X pins σ H s) : Inv X pins σ (upd (upd H s.heap.objs.size (.own (s.heap.objs.size + 1))) (s.heap.objs.size + 1) (.ins C s.heap.objs.size []))
  { s with heap:=(s.heap.push W.emptyDict).push (W.instObj C s.heap.objs.size) }:=by
 have e1:(s.heap.push W.emptyDict).get? s.heap.objs.size=some W.emptyDict:=Heap.get?_push_size s.heap rfl
 have e2:((s.heap.push W.emptyDict).push (W.instObj C s.heap.objs.size)).get? (s.heap.objs.size+1)=some (W.instObj C s.heap.objs.size):=by
  have:=Heap.get?_push_size (s.heap.push W.emptyDict) (o:=W.instObj C s.heap.objs.size) rfl
  rwa [Heap.size_push] at this
 have e3:(s.heap.push W.emptyDict).Ns s.heap.objs.size (fun _=>none):=⟨W.emptyDict,#[],_,e1,rfl,(fun e he=>absurd he (by simp)),fun _=>rfl⟩
 have I1:=I.laid (a:=s.heap.objs.size) (o:=.own (s.heap.objs.size+1)) (h':=s.heap.push W.emptyDict) (t':=s.toks) (fun b u q=>Heap.get?_push_of_some _ q) (Nat.le_refl _) ⟨_,e1⟩
 refine I1.laid (a:=s.heap.objs.size+1) (o:=.ins C s.heap.objs.size []) (t':=s.toks) (fun b u q=>Heap.get?_push_of_some _ q) (Nat.le_of_eq (Heap.size_push _ _)) ?_
 have ne:s.heap.objs.size≠s.heap.objs.size+1:=Nat.ne_of_lt (Nat.lt_succ_self _)
 refine ⟨by rw [Zai ne,Zab],Nat.zero_le _,ne,e2,fun _=>none,(Heap.Ns1.of_empty e3).at fun o q=>Heap.get?_push_of_some _ q,fun _=>True.intro,fun y hy=>absurd rfl hy⟩
theorem ZpZ {prog : Program} {w : World} {env : Env} {e : Expr} {f : Str} {pos : Pos} {s : Shared} {Q : Value → Shared → Prop} (hb : attributeBase e f env (eval e env)=eval e env)
  (h:wpAny (model prog w) A (eval e env) (fun o s₁=>wpAny (model prog w) A (getAttr o f true) Q E s₁) E s):wpAny (model prog w) A (eval (.Attribute e f pos) env) Q E s :=
 Attribute_any_ h (by rw [arm_eval_Attribute,hb])
end
def Zsh (K:W.Frag) (ta:TE) (f:Str):TE:=fun σ H Q=>ta σ H fun x H1=>∃ a C dx fs v,x=.ref a∧H1 a=some (.ins C dx fs)∧Cls K C∧NoAttr K C f∧fs.lookup f=some v∧Q v H1
def ZsD (K:W.Frag) (ta tv:TE) (f:Str):TS:=fun D σ H=>tv σ H fun y H1=>ta σ H1 fun x H2=>∃ a C dx fs,x=.ref a∧H2 a=some (.ins C dx fs)∧Cls K C∧NoAttr K C f∧fs.length<1000 ∧
 D.nx σ (upd H2 a (.ins C dx (Zb8 f y fs)))
section
variable {X:Cx} {o e value:Expr} {f:Str} {pos pos' tpos:Pos} {ta tv:TE}
theorem Zcz (he:PE X e ta) (hb:attributeBase e f X.env (eval e X.env)=eval e X.env):PE X (.Attribute e f pos) (Zsh X.K ta f):=by
 intro pins s σ H Q I h
 refine ZpZ hb (thn (he pins s σ H _ I h) fun u s1 ⟨x,H1,I1,rx,a,C,dx,fs,v,ex,ea,c,n,l,q⟩=>?_)
 subst ex
 obtain rfl:u=Value.ref a:=rx
 exact Zmq I1 ea c n l fun u' s2 I2 ru=>⟨v,H1,I2,ru,q⟩
theorem ZjG (ha:PE X o ta) (hv:PE X value tv) (hs:swapsWith value (some (.Attribute o f pos')) pos.line X.env=pure false):PS X (.Assign [.Attribute o f pos'] value pos) (ZsD X.K ta tv f):=by
 intro pins s σ H D I h
 refine plainObj_wpAny_Assign_Attribute (thn (hv pins s σ H _ I h) fun u s1 ⟨y,H1,I1,ry,q⟩=>thn (ha pins s1 σ H1 _ I1 q) fun ov s2 ⟨x,H2,I2,rx,a,C,dx,fs,ex,ea,c,n,l,q2⟩=>?_) hs
 subst ex
 obtain rfl:ov=Value.ref a:=rx
 exact ZlQ I2 ea c n l ry fun s3 I3=>⟨σ,_,I3,q2⟩
end
section
variable {X:Cx} {pins:List (Addr × Obj)} {σ:St} {H:Hp} {s:Shared} {A:Around} {E:Value->Shared->Prop} {Q:Value->Shared->Prop} {c:Value} {b:Bool}
inductive TyOf (K:W.Frag) (H:Hp):V->Value->Prop where
 | non:TyOf K H .non (.type "NoneType")
 | bl (x:Bool):TyOf K H (.bl x) (.type "bool")
 | int (i:Int):TyOf K H (.int i) (.type "int")
 | str (x:Str):TyOf K H (.str x) (.type "str")
 | flt (x:UInt64):TyOf K H (.flt x) (.type "float")
 | lst {a:Addr} {xs:List V} (e:H a=some (.lst xs)):TyOf K H (.ref a) (.type "list")
 | frz {a:Addr} {o:Obj} {xs:List V} (e:H a=some (.frz o (.lst xs))):TyOf K H (.ref a) (.type "list")
 | tup {a:Addr} {xs:List V} (e:H a=some (.tup xs)):TyOf K H (.ref a) (.type "tuple")
 | dK {a:Addr} {kvs:List (Key × V)} (e:H a=some (.dK kvs)):TyOf K H (.ref a) (.type "dict")
 | dT {a:Addr} {kvs:List (List Key × V)} (e:H a=some (.dT kvs)):TyOf K H (.ref a) (.type "dict")
 | ins {a C dx : Addr} {fs : List (Str × V)} (e : H a=some (.ins C dx fs)) (cl : Cls K C) (ha : W.findIn K (.ref C) "__class__"=some (some (.builtin "object.__class__")))
   (hn:W.specialIn K (.builtin "object.__class__") "__get__"=some (some (.builtin "getset_descriptor.__get__"))) (htk:W.takesIn K (.builtin "object.__class__")=some true)
   (hm:W.mroIn K C (.type "object")=some true):TyOf K H (.ref a) (.ref C)
theorem Zm5 {x : V} {u t : Value} (I : Inv X pins σ H s) (rx : RelV x u) (ty : TyOf X.K H x t) (e : W.kitOne X.K t c=some b) (h : ∀ tk, Q (.bool b) { s with toks := tk }) :
  wpAny (model X.prog X.w) A (call (.builtin "isinstance") [u,c]) Q E s:=by
 cases ty with
 | non=>cases (show u=Value.none from rx); exact W.kia_one W.kitx_none I.kIn True.intro e (fun z=>nomatch z) h
 | bl y=>cases (show u=Value.bool y from rx); exact W.kia_one W.kitx_bool I.kIn True.intro e (fun z=>nomatch z) h
 | int i=>obtain ⟨t,q⟩:=(show ∃ t,u=Value.int i t from rx); cases q; exact W.kia_one W.kitx_int I.kIn True.intro e (fun z=>nomatch z) h
 | str y=>obtain ⟨t,q⟩:=(show ∃ t,u=Value.str y t from rx); cases q; exact W.kia_one W.kitx_str I.kIn True.intro e (fun z=>nomatch z) h
 | flt y=>obtain ⟨t,q⟩:=(show ∃ t,u=Value.float y t from rx); cases q; exact W.kia_one W.kitx_float I.kIn True.intro e (fun z=>nomatch z) h
 | @lst a xs ea =>
  cases (show u=Value.ref a from rx)
  obtain ⟨_,_,n,_,h1⟩:=(show ObjOk X.prog X.w H s.heap a (.lst xs) from I.hok a _ ea)
  exact W.kia_one W.kitx_list I.kIn ⟨_,h1,rfl⟩ e (fun z=>nomatch z) h
 | @frz a ob xs ea =>
  cases (show u=Value.ref a from rx)
  obtain ⟨_,_,_,n,_,h1⟩:=(show ObjOk X.prog X.w H s.heap a (.frz ob (.lst xs)) from I.hok a _ ea)
  exact W.kia_one W.kitx_list I.kIn ⟨_,h1,rfl⟩ e (fun z=>nomatch z) h
 | @tup a xs ea =>
  cases (show u=Value.ref a from rx)
  obtain ⟨_,_,_,p⟩:=(show ObjOk X.prog X.w H s.heap a (.tup xs) from I.hok a _ ea)
  obtain ⟨o,h1,h2,_⟩:=p
  exact W.kia_one W.kitx_tuple I.kIn ⟨o,h1,h2⟩ e (fun z=>nomatch z) h
 | @dK a kvs ea =>
  cases (show u=Value.ref a from rx)
  obtain ⟨_,_,vs,_,p⟩:=(show ObjOk X.prog X.w H s.heap a (.dK kvs) from I.hok a _ ea)
  obtain ⟨o,es,ep,h1,h2,_⟩:=p
  exact W.kia_one W.kitx_dict I.kIn ⟨o,h1,h2.1⟩ e (fun z=>nomatch z) h
 | @dT a kvs ea =>
  cases (show u=Value.ref a from rx)
  obtain ⟨_,_,xs,_,o,es,ep,h1,h2,_⟩:=(show ObjOk X.prog X.w H s.heap a (.dT kvs) from I.hok a _ ea)
  exact W.kia_one W.kitx_dict I.kIn ⟨o,h1,h2.1⟩ e (fun z=>nomatch z) h
 | @ins a C dx fs ea cl ha hn htk hm =>
  cases (show u=Value.ref a from rx)
  obtain ⟨mA,O,_⟩:=Zil I.hok ea
  obtain ⟨od,J,_⟩:=O.look
  exact W.kia_one (W.kitx_own (cl.get _) cl.hd ha hn htk hm) I.kIn J e (fun z=>nomatch z) h
end
structure Room (k:Nat) (A:Around):Prop where
 hd:A.handled=none
 dp:A.depth+3*k+5<recursionLimit
 un:A.units+16*k+200<cLine
theorem Room.mono {j k:Nat} {A:Around} (r:Room k A) (h:j≤k):Room j A:=⟨r.hd,by have:=r.dp; omega,by have:=r.un; omega⟩
theorem Room.deeper {k:Nat} {A:Around} (r:Room (k+1) A) (env:Env):Room k (A.deeper env) :=
 ⟨r.hd,by have:=r.dp; show A.depth+1+3*k+5<_; omega,by have:=r.un; show A.units+3+16*k+200<_; omega⟩
theorem ZlT {A:Around} {C:Addr} {us:List Value} {kw:List (Str × Value)}:(A.under (.builtin "type.__call__" ⟨.ref C :: us,kw⟩)).depth=A.depth+1:=by
 first | rfl | simp [Around.under,Code.weight,Code.isCreation,Code.isGuard,Code.isCaller,Code.frames,Code.isFrame,guardIds]
theorem ZlR {A:Around} {C:Addr} {us:List Value} {kw:List (Str × Value)}:(A.under (.builtin "type.__call__" ⟨.ref C :: us,kw⟩)).units=A.units+1:=by
 first | rfl | simp [Around.under,Code.cUnits,Code.frames,Code.isFrame]
theorem Room.make {k:Nat} {A:Around} (r:Room (k+1) A) (C:Addr) (us:List Value) (kw:List (Str × Value)):Room k (A.under (.builtin "type.__call__" ⟨.ref C :: us,kw⟩)) :=
 ⟨r.hd,by have:=r.dp; rw [ZlT]; omega,by have:=r.un; rw [ZlR]; omega⟩
theorem Room.depth {k:Nat} {A:Around} (r:Room k A):A.depth<recursionLimit:=by have:=r.dp; omega
theorem Room.units {k:Nat} {A:Around} (r:Room k A):A.units+64<cLine:=by have:=r.un; omega
def Zry:TA:=fun _ H Q=>Q [] H
def ZpO (ta:TE) (tr:TA):TA:=fun σ H Q=>ta σ H fun x H1=>tr σ H1 fun xs H2=>Q (x :: xs) H2
section
variable {X:Cx} {e:Expr} {es:List Expr} {te:TE} {t:TA} {pos:Pos}
theorem Zaf:PA X [] Zry:=fun _ _ _ _ H Q I h=>Calls.spliced_nil ⟨[],H,I,.nil,h⟩
theorem Zaa (ha:PE X e te) (hr:PA X es t) (hs:starEach (e :: es) X.env=(false,eval e X.env) :: starEach es X.env:=by rfl):PA X (e :: es) (ZpO te t):=by
 intro pos pins s σ H Q I h
 rw [hs]
 show wpAny _ _ (spliced ((false,eval e X.env) :: backTo pos (starEach es X.env))) _ _ s
 refine Calls.spliced_cons (thn (ha pins s σ H _ I h) fun u s1 ⟨x,H1,I1,r1,q1⟩=>?_)
 exact thn (hr pos pins s1 σ H1 _ I1 q1) fun us s2 ⟨xs,H2,I2,r2,q2⟩=>⟨x :: xs,H2,I2,.cons r1 r2,q2⟩
def Zsc (t:TA):TE:=fun σ H Q=>t σ H fun xs H1=>xs.length≤sizeLine∧∀ p,H1 p=none->Q (.ref p) (upd H1 p (.tup xs))
def Zsr (t:TA):TE:=fun σ H Q=>t σ H fun xs H1=>xs.length≤sizeLine∧∀ p,H1 p=none->Q (.ref p) (upd H1 p (.lst xs))
theorem ZaW {x1} (h:PA X es t):PE X (.Tuple es x1 pos) (Zsc t):=by
 intro pins s σ H Q I hq
 refine wpAny_Tuple_spliced (thn (h pos pins s σ H _ I hq) fun us s1 ⟨xs,H1,I1,r,z,q⟩=>⟨by rw [← r.length]; exact z,?_⟩)
 have hf:H1 s1.heap.objs.size=none:=I1.hok.fresh (Nat.le_refl _)
 refine ⟨.ref s1.heap.objs.size,upd H1 s1.heap.objs.size (.tup xs),I1.laid (t':=s1.toks) (fun b u e=>Heap.get?_push_of_some _ e) (Nat.le_refl _) ?_,rfl,q _ hf⟩
 exact ⟨z,us,r,⟨_,Heap.get?_push_size _ rfl,rfl,_,rfl⟩⟩
theorem Zbv (h:PA X es t):PE X (.List es pos) (Zsr t):=by
 intro pins s σ H Q I hq
 refine wpAny_List_spliced (thn (h pos pins s σ H _ I hq) fun us s1 ⟨xs,H1,I1,r,z,q⟩=>⟨by rw [← r.length]; exact z,?_⟩)
 have hf:H1 s1.heap.objs.size=none:=I1.hok.fresh (Nat.le_refl _)
 refine ⟨.ref s1.heap.objs.size,upd H1 s1.heap.objs.size (.lst xs),I1.laid (t':=s1.toks) (fun b u e=>Heap.get?_push_of_some _ e) (Nat.le_refl _) ?_,rfl,q _ hf⟩
 exact ⟨z,us,0,r,Heap.get?_push_size _ rfl⟩
end
abbrev Sp:=List V->Hp->VK->XK->Prop
abbrev CXT:=List Env->Hp->Shared->XK->Value->Shared->Prop
structure Env0 (P:Program) (w:World) (K:W.Frag) (mg:Str->Option Value) (base:Heap) (A:Around) (outer:List Env) (s:Shared) (H:Hp):Prop where
 frames:A.frames=some outer
 mod:Mod K mg base
 bs:∀ b o,base.get? b=some o->s.heap.get? b=some o∧H b=none
 bsz:base.objs.size≤s.heap.objs.size
 funs:s.heap.FunFrames base outer
 frf:∀ b∈frs outer,H b=none
 hok:HOk P w H s.heap
 bare:AllBare s.gens
def CE (outer:List Env) (P:Program) (w:World) (H:Hp) (s:Shared) (Q:VK) (u:Value) (s':Shared):Prop :=
 ∃ v H',s'.os=s.os∧AllBare s'.gens∧Un (frs outer) [] H H' s.heap s'.heap∧HOk P w H' s'.heap∧RelV v u∧Q v H'
def CR (CX:CXT) (outer:List Env) (P:Program) (w:World) (H:Hp) (s:Shared) (Q:VK) (E:XK) (r:Result) (s':Shared):Prop :=
 match r with
 | .ok (.ret u)=>CE outer P w H s Q u s'
 | .ok _=>False
 | .error e=>CX outer H s E e s'
structure FnOk (P:Program) (w:World) (K:W.Frag) (mg:Str->Option Value) (base:Heap) (CX:CXT) (k:Nat) (f:Addr) (fd:FuncData) (ps:List Str) (sp:Sp):Prop where
 len:∀ vs H Q E,sp vs H Q E->vs.length=ps.length
 run:∀ (A:Around) (outer:List Env) (s:Shared) (H:Hp) (args:Args) (us:List Value) (vs:List V) (Q:VK) (E:XK),Room k A->Env0 P w K mg base A outer s H->BindsTo s fd args (ps.zip us)->Vals vs us->sp vs H Q E →
  codeAny (model P w) A (.call (.ref f) args) (CR CX outer P w H s Q E) s
theorem FnOk.imp {P : Program} {w : World} {K : W.Frag} {mg : Str → Option Value} {base : Heap} {CX : CXT} {k : Nat} {f : Addr} {fd : FuncData} {ps : List Str} {sp sp' : Sp} (F : FnOk P w K mg base CX k f fd ps sp)
  (h:∀ vs H Q E,sp' vs H Q E->sp vs H Q E):FnOk P w K mg base CX k f fd ps sp' :=
 ⟨fun vs H Q E q=>F.len vs H Q E (h _ _ _ _ q),fun A outer s H args us vs Q E hr he hb hv hs=>F.run A outer s H args us vs Q E hr he hb hv (h _ _ _ _ hs)⟩
theorem Env0.make {P : Program} {w : World} {K : W.Frag} {mg : Str → Option Value} {base : Heap} {A : Around} {outer : List Env} {s : Shared} {H : Hp} (e : Env0 P w K mg base A outer s H) (C : Addr) (us : List Value) (kw : List (Str × Value)) :
  Env0 P w K mg base (A.under (.builtin "type.__call__" ⟨.ref C :: us,kw⟩)) outer s H:=⟨by first | exact e.frames | (simpa [Around.under,Code.envs,Code.isFrame,pushEnvs] using e.frames),e.mod,e.bs,e.bsz,e.funs,e.frf,e.hok,e.bare⟩
section
variable {X:Cx} {pins:List (Addr × Obj)} {σ:St} {H:Hp} {s s':Shared}
theorem Inv.env0 (I:Inv X pins σ H s):Env0 X.prog X.w X.K X.mg X.base X.A X.stack s H :=
 ⟨I.ok.frames,I.ok.mod,I.bs,Nat.le_trans I.ok.bsz I.sz,I.stack,I.stkFree,I.hok,I.bare⟩
theorem Inv.after {Q:VK} {u:Value} (I:Inv X pins σ H s) (h:CE X.stack X.prog X.w H s Q u s'):EP X pins σ Q u s':=by
 obtain ⟨v,H',os,bare,un,hok,r,q⟩:=h
 obtain ⟨hh,g,d,t,os'⟩:=s'
 obtain rfl:os'=s.os:=os
 exact ⟨v,H',I.call (h':=hh) (g':=g) (d':=d) (t':=t) (ch:=[]) un hok bare (fun b z=>absurd z (by simp)),r,q⟩
end
def Binds (K:W.Frag) (fd:FuncData) (ps:List Str) (ds:List Value):Prop :=
 ∀ (s:Shared) (us:List Value),K.In s.heap->(us++ds).length=ps.length->BindsTo s fd ⟨us,[]⟩ (ps.zip (us++ds))
theorem Binds.all {K:W.Frag} {fd:FuncData} {ps:List Str} (h:∀ us:List Value,us.length=ps.length->bindArgs fd ⟨us,[]⟩=pure (ps.zip us)):Binds K fd ps []:=fun s us _ hl=>by
 rw [List.append_nil] at hl ⊢
 exact .of_eq (h us hl)
def Zo6 (CX:CXT) (X:Cx) (E:XK):Prop:=∀ (pins:List (Addr × Obj)) (σ:St) (H:Hp) (s:Shared) (e:Value) (s':Shared),Inv X pins σ H s->CX X.stack H s E e s'->X.xe e s'
section
variable {X:Cx} {CX:CXT} {k:Nat} {f C:Addr} {fd:FuncData} {ps:List Str} {sp:Sp} {dvs:List V} {ds:List Value} {E:XK} {x m:Str} {p pos apos:Pos} {e o:Expr} {es:List Expr} {ta:TE} {t:TA}
theorem Zrb {pins : List (Addr × Obj)} {σ : St} {H : Hp} {s : Shared} {Q : VK} {us : List Value} {vs : List V} (F : FnOk X.prog X.w X.K X.mg X.base CX k f fd ps sp) (hr : Room k X.A) (hb : Binds X.K fd ps ds) (hd : Vals dvs ds) (hx : Zo6 CX X E)
  (I:Inv X pins σ H s) (r:Vals vs us) (h:sp (vs++dvs) H Q E):wpAny (model X.prog X.w) X.A (call (.ref f) us) (EP X pins σ Q) X.xe s:=by
 have r2:Vals (vs++dvs) (us++ds):=r.append hd
 have hl:(us++ds).length=ps.length:=by rw [← r2.length]; exact F.len _ _ _ _ h
 refine wpAny_call (codeAny_mono (F.run X.A X.stack s H ⟨us,[]⟩ (us++ds) (vs++dvs) Q E hr I.env0 (hb s us I.kIn hl) r2 h) fun r s' hq=>?_)
 cases r with
 | error e=>exact hx pins σ H s e s' I hq
 | ok fl =>
  cases fl with
  | ret u=>exact I.after hq
  | next=>exact False.elim hq
  | brk=>exact False.elim hq
  | cont=>exact False.elim hq
structure Mk (K:W.Frag) (C f:Addr):Prop where
 makes:W.makesIn K C=true
 init:W.findIn K (.ref C) "__init__"=some (some (.ref f))
 fn:W.isFn K (.ref f)=true
 kp:W.keepIn K (.ref C)=true
end
section
variable {X:Cx} {CX:CXT} {k:Nat} {f C:Addr} {fd:FuncData} {ps ks:List Str} {sp:Sp} {E:XK} {x m:Str} {p pos apos kpos:Pos} {e o:Expr} {es:List Expr} {kws:List Keyword} {te ta:TE} {t tk:TA} {nm:Option Str}
variable {g:List Value->List Value->List Value} {gV:List V->List V->List V}
end
structure FnScope (N P:List Str) (sc:Scope):Prop where
 kind:sc.kind=.function
 co:sc.isCoroutine=false
 gen:sc.isGenerator=false
 nd:N.Nodup
 pre:N.take P.length=P
 par:∀ x∈P,sc.names.lookup x=some .local∨sc.names.lookup x=some .cell
 nofree:∀ y∈sc.names,y.2≠.free
theorem Zjh {kindOf:Str->Option NameKind} {x:Str}:∀ {binds:List (Str × Value)} {m:Str->Option Value},(∀ v,(x,v) ∉ binds)->bindL kindOf binds m x=m x
 | [],_,_=>rfl
 | (n,v) :: r,m,h=>by
  unfold bindL
  rw [Zjh fun w hw=>h w (List.mem_cons_of_mem _ hw)]
  split
  ·have:x≠n:=by rintro rfl; exact h v List.mem_cons_self
   simp [this]
  ·rfl
theorem Zj6 {kindOf:Str->Option NameKind} {x:Str}:∀ {binds:List (Str × Value)} {m:Str->Option Value},(∀ v,(x,v) ∉ binds)->bindC kindOf binds m x=m x
 | [],_,_=>rfl
 | (n,v) :: r,m,h=>by
  unfold bindC
  rw [Zj6 fun w hw=>h w (List.mem_cons_of_mem _ hw)]
  split
  ·rfl
  ·have:x≠n:=by rintro rfl; exact h v List.mem_cons_self
   simp [this]
theorem Zkf {kindOf : Str → Option NameKind} {x : Str} {v : Value} : ∀ {P : List Str} {vs : List Value} {i : Nat} {m : Str → Option Value}, P.Nodup → P[i]?=some x → vs[i]?=some v → kindOf x=some .local →
  bindL kindOf (P.zip vs) m x=some v
 | [],_,_,_,_,h,_,_=>by simp at h
 | _ :: _,[],_,_,_,_,h,_=>by simp at h
 | p :: P,w :: vs,0,m,nd,h1,h2,hk=>by
  simp at h1 h2; subst h1; subst h2
  show bindL kindOf ((p,w) :: P.zip vs) m p=_
  unfold bindL
  rw [Zjh fun v hv=>(List.nodup_cons.mp nd).1 (List.of_mem_zip hv).1,if_pos hk]
  simp
 | p :: P,w :: vs,i+1,m,nd,h1,h2,hk=>by
  show bindL kindOf ((p,w) :: P.zip vs) m x=_
  unfold bindL
  exact Zkf (i:=i) (List.nodup_cons.mp nd).2 (by simpa using h1) (by simpa using h2) hk
theorem Zkb {kindOf : Str → Option NameKind} {x : Str} {v : Value} : ∀ {P : List Str} {vs : List Value} {i : Nat} {m : Str → Option Value}, P.Nodup → P[i]?=some x → vs[i]?=some v → kindOf x ≠ some .local →
  bindC kindOf (P.zip vs) m x=some v
 | [],_,_,_,_,h,_,_=>by simp at h
 | _ :: _,[],_,_,_,_,h,_=>by simp at h
 | p :: P,w :: vs,0,m,nd,h1,h2,hk=>by
  simp at h1 h2; subst h1; subst h2
  show bindC kindOf ((p,w) :: P.zip vs) m p=_
  unfold bindC
  rw [Zj6 fun v hv=>(List.nodup_cons.mp nd).1 (List.of_mem_zip hv).1,if_neg hk]
  simp
 | p :: P,w :: vs,i+1,m,nd,h1,h2,hk=>by
  show bindC kindOf ((p,w) :: P.zip vs) m x=_
  unfold bindC
  exact Zkb (i:=i) (List.nodup_cons.mp nd).2 (by simpa using h1) (by simpa using h2) hk
noncomputable def start (N:List Str) (vs:List V):St:=vs.map some++List.replicate (N.length-vs.length) none
noncomputable def Zoh (CX:CXT) (P:Program) (w:World) (K:W.Frag) (mg:Str->Option Value) (base:Heap) (N:List Str) (qual:Str) (scope:Scope) (f:Addr) (cd:Value) (A:Around) (outer:List Env) (s:Shared) (H:Hp) (E:XK):Cx where
 prog:=P
 w:=w
 K:=K
 mg:=mg
 base:=base
 A:=A.deeper (envOfC qual scope s.heap.objs.size f cd)
 N:=N
 s₀:=s
 H₀:=H
 env:=envOfC qual scope s.heap.objs.size f cd
 outer:=outer
 stack:=envOfC qual scope s.heap.objs.size f cd :: outer
 ex:=[]
 calm:=true
 fn:=fun _=>true
 pn:=[]
 xe:=fun e s'=>wpAny (model P w) (A.deeper (envOfC qual scope s.heap.objs.size f cd)) (leaving (envOfC qual scope s.heap.objs.size f cd) e) (fun _ s''=>CX outer H s E e s'') (fun e' s''=>CX outer H s E e' s'') s'
theorem ZlL {sc:Scope} {n:Nat} {x:Str} (h:sc.names.lookup x=some .cell):∃ c,(cellsFrom n sc.names []).lookup x=some c:=by
 have q:=W.cellsFrom_some sc.names n [] (.inl h)
 exact Option.isSome_iff_exists.mp q
theorem ZmK {CX : CXT} {P : Program} {w : World} {K : W.Frag} {mg : Str → Option Value} {base : Heap} {N ps : List Str} {qual : Str} {scope : Scope} {f : Addr} {cd : Value} {A : Around} {outer : List Env} {s s1 : Shared} {H : Hp} {E : XK} {us : List Value} {vs : List V}
  (S:FnScope N ps scope) (hd:A.handled=none) (e0:Env0 P w K mg base A outer s H) (hl:vs.length=ps.length) (r:Vals vs us)
  (x:InCallC s s.heap.objs.size (bindL (envOfC qual scope s.heap.objs.size f cd).kindOf (ps.zip us) fun _=>none) (cellsFrom (s.heap.objs.size+1) scope.names []) (bindC (envOfC qual scope s.heap.objs.size f cd).kindOf (ps.zip us) fun _=>none) s1) :
  Inv (Zoh CX P w K mg base N qual scope f cd A outer s H E) [] (start N vs) H s1:=by
 have hpl:ps.length≤N.length:=by have:=congrArg List.length S.pre; rw [List.length_take] at this; omega
 obtain ⟨h1,tk,rfl,hk⟩:=x.done
 have noA:∀ b:Addr,b ∉ (Zoh CX P w K mg base N qual scope f cd A outer s H E).ex:=fun b z=>absurd (show b∈([]:List Addr) from z) (by simp)
 refine ⟨⟨e0.mod,S.kind,rfl,rfl,Nat.le_refl _,fun y z c h1 h2=>?_,fun y hy=>?_,fun y c _ h=>?_,fun _=>hd,Around.frames_deeper e0.frames,.inr ⟨rfl,rfl⟩,fun b z=>absurd z (noA b),e0.bs,e0.bsz,fun b _ _=>noA b,fun b z=>absurd z (noA b),e0.funs,e0.frf⟩,
  rfl,e0.bare,Un.kept hk,⟨_,x.toInCall.ns,fun i y v h1 h2 h3=>?_⟩,fun y c h=>⟨_,x.cell y c h⟩,e0.hok.fresh (Nat.le_refl _),fun y c h=>?_,fun p hp=>absurd (show p∈([]:List (Addr × Obj)) from hp) (by simp),e0.hok.kept hk,?_⟩
 ·exact name_of_addr x.apart (PySem.mem_of_lookup h1) (PySem.mem_of_lookup h2)
 ·have hy:scope.names.lookup y=some .cell∨scope.names.lookup y=some .free:=hy
  rcases hy with hy | hy
  ·exact ZlL hy
  ·exact absurd rfl (S.nofree _ (PySem.mem_of_lookup hy))
 ·exact Nat.le_of_lt (x.above y c (PySem.mem_of_lookup h))
 ·have hi:i<vs.length:=by
   unfold start at h2
   by_cases hi:i<vs.length
   ·exact hi
   ·rw [List.getElem?_append_right (by simpa using hi)] at h2
    rw [List.getElem?_replicate] at h2
    split at h2 <;> cases h2
  have ha:vs[i]?=some v:=by
   unfold start at h2
   rw [List.getElem?_append_left (by simpa using hi),List.getElem?_map] at h2
   cases e:vs[i]? with
   | none=>rw [e] at h2; cases h2
   | some a=>rw [e] at h2; cases h2; rfl
  obtain ⟨u,hu,rv⟩:=r.get ha
  have hp:ps[i]?=some y:=by
   rw [← S.pre,List.getElem?_take_of_lt (by omega)]; exact h1
  have ndP:ps.Nodup:=by rw [← S.pre]; exact S.nd.sublist (List.take_sublist _ _)
  refine ⟨u,rv,?_⟩
  rcases S.par y (List.mem_of_getElem? hp) with k | k
  ·exact .inl ⟨k,Zkf ndP hp hu k⟩
  ·obtain ⟨c,e⟩:=ZlL (n:=s.heap.objs.size+1) k
   refine .inr ⟨.inl k,c,e,?_⟩
   have q:=x.cell y c e
   rw [Zkb ndP hp hu (by show scope.names.lookup y≠_; rw [k]; decide)] at q
   exact q
 ·exact e0.hok.fresh (Nat.le_of_lt (x.above y c (PySem.mem_of_lookup h)))
 ·unfold start
  show _=N.length
  rw [List.length_append,List.length_map,List.length_replicate]
  omega
theorem Zqy {CX : CXT} {P : Program} {w : World} {K : W.Frag} {mg : Str → Option Value} {base : Heap} {k : Nat} {f : Addr} {name qual : Str} {params : Arguments} {body : List Stmt} {scope : Scope} {dV kV doc pm cdv ct oc : Value} {an od : Option Addr}
  {osl:Array (Option Value)} {N ps:List Str} {sp:Sp} (lk:K.lookup f=some ⟨oc,od,.func (W.fnOf name qual params body scope dV kV doc pm an cdv ct),osl⟩) (hcd:W.codeIn K cdv qual=true) (S:FnScope N ps scope)
  (len:∀ vs H Q E,sp vs H Q E->vs.length=ps.length)
  (hbody:∀ (A:Around) (outer:List Env) (s:Shared) (H:Hp) (vs:List V) (Q:VK) (E:XK),Room k (A.deeper (envOfC qual scope s.heap.objs.size f cdv))->sp vs H Q E →
   ∃ t,PSs (Zoh CX P w K mg base N qual scope f cdv A outer s H E) body t∧t { nx:=fun _ H'=>Q .non H',rt:=Q } (start N vs) H) :
  FnOk P w K mg base CX (k+1) f (W.fnOf name qual params body scope dV kV doc pm an cdv ct) ps sp:=by
 refine ⟨len,fun A outer s H args us vs Q E hr e0 hb r hsp=>?_⟩
 have hl:=len _ _ _ _ hsp
 have KX:K.In s.heap:=e0.mod.kin.keeps fun b o e=>(e0.bs b o e).1
 have lim:s.heap.NoLimit:=e0.mod.nolimit.keeps fun b o e=>(e0.bs b o e).1
 have hkind:∀ y∈ps.zip us,scope.names.lookup y.1=some .local∨(scope.names.lookup y.1=some .cell∧((cellsFrom (s.heap.objs.size+1) scope.names []).lookup y.1).isSome=true):=fun ⟨n,v⟩ hy=>by
  rcases S.par n (List.of_mem_zip hy).1 with q | q
  ·exact .inl q
  ·exact .inr ⟨q,W.cellsFrom_some _ _ _ (.inl q)⟩
 refine codeAny_call_function hr.depth (KX _ _ lk) rfl S.co S.gen rfl (W.codeRec_of KX hcd) (hb _ _ _ _ ?_)
 refine wpAny_newFunctionEnv_cells S.kind hkind fun env he s1 x=>?_
 subst he
 refine ⟨lim.keeps x.toInCall.keep,codeAny_func ?_⟩
 obtain ⟨t,ht,hq⟩:=hbody A outer s H vs Q E (hr.deeper _) hsp
 have I:Inv (Zoh CX P w K mg base N qual scope f cdv A outer s H E) [] (start N vs) H s1:=ZmK S hr.hd e0 hl r x
 refine wpAny_mono (ht [] s1 (start N vs) H _ I hq) (fun fl s' hs=>?_) fun e s' hs=>hs
 have fin:∀ {σ':St} {H':Hp} {v:V} {u:Value},Inv (Zoh CX P w K mg base N qual scope f cdv A outer s H E) [] σ' H' s'->RelV v u->Q v H'->CE outer P w H s Q u s' :=
  fun {σ' H' v u} J rv q=>⟨v,H',J.os,J.bare,J.base,J.hok,rv,q⟩
 cases fl with
 | ret u =>
  obtain ⟨v,σ',H',J,rv,q⟩:=hs
  exact fin J rv q
 | next =>
  obtain ⟨σ',H',J,q⟩:=hs
  exact fin (v:=V.non) (u:=Value.none) J rfl q
 | brk =>
  obtain ⟨_,_,_,q⟩:=hs
  exact False.elim q
 | cont =>
  obtain ⟨_,_,_,q⟩:=hs
  exact False.elim q
section
variable {X:Cx} {x:Str} {p pos:Pos} {e:Expr} {es:List Expr} {t:TA} {id T:String} {r:List V->Hp->VK->Prop}
def tCB (r:List V->Hp->VK->Prop) (t:TA):TE:=fun σ H Q=>t σ H fun vs H1=>r vs H1 Q
theorem ZaC (hc : Zdo X (.builtin id) r) (hg : Gl X x) (hm : X.mg x=none) (hv : bootBuiltins x=some (.builtin id)) (ha : PA X (e :: es) t) (hn : x ≠ "__name__" := by decide) (hdb : (x == ("__debug__" : Str))=false := by decide)
  (he:starEach (e :: es) X.env=(false,eval e X.env) :: starEach es X.env:=by rfl) (hpl:(backTo pos (starEach es X.env)).any (·.1)=false:=by rfl):PE X (.Call (.Name x p) (e :: es) [] pos) (tCB r t):=by
 intro pins s σ H Q I h
 refine wpAny_Call_Name_kw (Zjx I hg hm hv ?_ hn hdb)
 exact PyProof.Rows.callWith_builtin1 (thn (ha pos pins s σ H _ I h) fun us s1 ⟨vs,H1,I1,r1,q1⟩=>hc pins s1 σ H1 vs us Q I1 r1 q1) he hpl
theorem ZgE (hc : Zdo X (.type T) r) (hg : Gl X x) (hm : X.mg x=none) (hv : bootBuiltins x=some (.type T)) (ha : PA X (e :: es) t) (hn : x ≠ "__name__" := by decide) (hdb : (x == ("__debug__" : Str))=false := by decide)
  (he:starEach (e :: es) X.env=(false,eval e X.env) :: starEach es X.env:=by rfl) (hpl:(backTo pos (starEach es X.env)).any (·.1)=false:=by rfl):PE X (.Call (.Name x p) (e :: es) [] pos) (tCB r t):=by
 intro pins s σ H Q I h
 refine wpAny_Call_Name_kw (Zjx I hg hm hv ?_ hn hdb)
 exact PyProof.Rows.callWith_type1 (thn (ha pos pins s σ H _ I h) fun us s1 ⟨vs,H1,I1,r1,q1⟩=>hc pins s1 σ H1 vs us Q I1 r1 q1) he hpl
end
end L2
namespace HT
open PySem PyProof.Rows
section
open PySem.SeqAt
open PySem.AutoSeq1 (wpAny_loadPart')
open PySem.MeetsSeq PySem.MeetsSeq2 PySem.MeetsSeq3
end
section
variable {prog:Program} {w:World} {A:Around} {E:Value->Shared->Prop} {s:Shared}
theorem cat_tup {t b : Addr} {vs ws : List Value} {Q : Value → Shared → Prop} (ht : IsTup s.heap t vs.toArray) (hb : IsTup s.heap b ws.toArray) (hv : vs ≠ [])
  (h1:ws=[]->Q (.ref t) s) (h2:ws≠[]->Q (.ref s.heap.objs.size) { s with heap:=s.heap.push { cls:=.type "tuple",data:=.seq (vs++ws).toArray } })
  (hsz:vs.length+ws.length≤sizeLine):wpAny (model prog w) A (binaryOp .Add (.ref t) (.ref b)) Q E s:=by
 obtain ⟨⟨cls,dd,data,sl⟩,ho,hc,n,hd⟩:=id ht
 obtain ⟨⟨cls2,dd2,data2,sl2⟩,ho2,hc2,n2,hd2⟩:=id hb
 simp only at hc hd hc2 hd2
 subst hc hd hc2 hd2
 have e:vs.toArray++ws.toArray=(vs++ws).toArray:=by simp
 by_cases hw:ws=[]
 ·exact concat_meets ⟨_,ho,rfl⟩ ⟨_,ho2,rfl⟩ noFill_tuple_add seq_tuple_add PySem.F.slot_tuple_add PySem.F.entry_tuple_add (PySem.F.args_tuple_add_2 _ _)
   (tuple_addW1 t b vs.toArray ws.toArray n n2 dd dd2 sl sl2 (by simpa using hv) (by simp [hw])) ⟨ho,ho2,h1 hw⟩
 ·refine concat_meets ⟨_,ho,rfl⟩ ⟨_,ho2,rfl⟩ noFill_tuple_add seq_tuple_add PySem.F.slot_tuple_add PySem.F.entry_tuple_add (PySem.F.args_tuple_add_2 _ _)
   (tuple_addW2 t b vs.toArray ws.toArray n n2 dd dd2 sl sl2 (by simpa using hv) (by simpa using hw) (by rw [List.size_toArray,List.size_toArray]; exact hsz)) ⟨ho,ho2,?_⟩
  rw [e]
  exact h2 hw
noncomputable def sIx (n d:Nat):Option Int->Nat
 | none=>d
 | some v=>if v<0 then (v+(n:Int)).toNat else min v.toNat n
theorem sIx_nat (n d k:Nat):sIx n d (some (k:Int))=min k n:=by
 show (if (k:Int)<0 then ((k:Int)+(n:Int)).toNat else min (k:Int).toNat n)=min k n
 rw [if_neg (by omega),Int.toNat_natCast]
theorem Zql (n d:Nat) (hd:d≤n) (o:Option Int):sIx n d o≤n:=by
 cases o with
 | none=>exact hd
 | some v =>
  show (if v<0 then (v+(n:Int)).toNat else min v.toNat n)≤n
  by_cases hv:v<0
  ·rw [if_pos hv]; omega
  ·rw [if_neg hv]; exact Nat.min_le_right _ _
theorem Zm8 (v:Int) (n d:Nat):(if v<0 then max (v+(n:Int)) 0 else min v (n:Int))=((sIx n d (some v):Nat):Int):=by
 show (if v<0 then max (v+(n:Int)) 0 else min v (n:Int))=(((if v<0 then (v+(n:Int)).toNat else min v.toNat n):Nat):Int)
 by_cases hv:v<0
 ·simp only [if_pos hv]; omega
 ·simp only [if_neg hv]; omega
theorem ZlZ (lo hi:Option Int) (n:Nat):Builtin.Slice.sliceAdjust lo hi 1 (n:Int)=(((sIx n 0 lo:Nat):Int),((sIx n n hi:Nat):Int)):=by
 have h1:¬ ((1:Int)<0):=by omega
 unfold Builtin.Slice.sliceAdjust
 simp only [h1,if_false]
 refine Prod.ext ?_ ?_
 ·cases lo with
  | none=>rfl
  | some v=>exact Zm8 v n 0
 ·cases hi with
  | none=>rfl
  | some v=>exact Zm8 v n n
theorem Zmg (i j:Nat):Builtin.Slice.slicePlaces (i:Int) (j:Int) 1=j-i:=by
 unfold Builtin.Slice.slicePlaces
 have h1:(1:Int) > 0:=by omega
 simp only [h1,if_true,Int.ediv_one]
 split <;> omega
theorem Zh6 {v:Value} {o:Option Int} {Q:Option Int->Shared->Prop} (p:IsPart v o) (h:Q o s):wpAny (model prog w) A (Builtin.Slice.slicePartIndex v) Q E s:=by
 cases p with
 | none=>exact slicePart_none h
 | int i t=>exact slicePart_int h
theorem sliceApplied_gen {sl : Addr} {vl vu : Value} {lo hi : Option Int} {n : Nat} {Q : Int × Int × Nat → Shared → Prop} (hs : s.heap.IsSliceOf sl vl vu .none) (pl : IsPart vl lo) (pu : IsPart vu hi)
  (h:Q (((sIx n 0 lo:Nat):Int),1,sIx n n hi-sIx n 0 lo) s):wpAny (model prog w) A (Builtin.Slice.sliceApplied (.ref sl) (pure (n:Int))) Q E s:=by
 obtain ⟨os,hos,hcs,hds⟩:=id hs
 unfold Builtin.Slice.sliceApplied Builtin.Slice.sliceFields
 refine wpAny_bind (wpAny_bind (wpAny_field hos hds (x:=vl) rfl (wpAny_bind (wpAny_field hos hds (x:=vu) rfl (wpAny_bind (wpAny_field hos hds (x:=.none) rfl (wpAny_pure ?_)))))))
 refine wpAny_bind (slicePart_none ?_)
 show wpAny _ _ (if ((1:Int) == 0)=true then _ else _) _ _ s
 rw [if_neg (by decide)]
 refine wpAny_bind (Zh6 pl (wpAny_bind (Zh6 pu (wpAny_bind (wpAny_pure ?_)))))
 show wpAny _ _ (match Builtin.Slice.sliceAdjust lo hi 1 (n:Int) with | (lo,hi)=>pure (lo,(1:Int),Builtin.Slice.slicePlaces lo hi 1)) _ _ s
 rw [ZlZ lo hi n]
 show wpAny _ _ (pure (((sIx n 0 lo:Nat):Int),(1:Int),Builtin.Slice.slicePlaces ((sIx n 0 lo:Nat):Int) ((sIx n n hi:Nat):Int) 1)) _ _ s
 rw [Zmg]
 exact wpAny_pure h
theorem Zog (xs:Array Value) (i k:Nat):((List.range k).filterMap fun (m:Nat)=>xs[((i:Int)+(m:Int)*1).toNat]?).toArray=((xs.toList.drop i).take k).toArray:=by
 have e:(fun (m:Nat)=>xs[((i:Int)+(m:Int)*1).toNat]?)=fun m=>xs[i+m]?:=by
  funext m
  have:((i:Int)+(m:Int)*1).toNat=i+m:=by omega
  rw [this]
 rw [e]
 have:=pick_run xs i k
 rw [List.filterMap_map] at this
 have e2:((fun x=>xs[x]?) ∘ fun x=>i+x)=fun m=>xs[i+m]?:=rfl
 rw [e2] at this
 rw [this]
theorem getItem_tuple_cut {t sl : Addr} {items : Array Value} {vl vu : Value} {lo hi : Option Int} {Q : Value → Shared → Prop} (ht : IsTup s.heap t items) (hs : s.heap.IsSliceOf sl vl vu .none) (pl : IsPart vl lo) (pu : IsPart vu hi)
  (hw:¬ (sIx items.size 0 lo=0∧sIx items.size items.size hi=items.size))
  (h:Q (.ref s.heap.objs.size) { s with heap:=s.heap.push { cls:=.type "tuple",data:=.seq ((items.toList.drop (sIx items.size 0 lo)).take (sIx items.size items.size hi-sIx items.size 0 lo)).toArray } })
  (hsz:items.size≤sizeLine):wpAny (model prog w) A (getItem (.ref t) (.ref sl)) Q E s:=by
 have htake:sizeOk (.seq ((items.toList.drop (sIx items.size 0 lo)).take (sIx items.size items.size hi-sIx items.size 0 lo)).toArray):=by
  show ((items.toList.drop (sIx items.size 0 lo)).take (sIx items.size items.size hi-sIx items.size 0 lo)).toArray.size≤sizeLine
  rw [List.size_toArray,List.length_take,List.length_drop,Array.length_toList]
  omega
 have hj:sIx items.size items.size hi≤items.size:=Zql _ _ (Nat.le_refl _) hi
 obtain ⟨os,hos,hcs,hds⟩:=id hs
 have hTs:s.TypeIs (.ref sl) "slice":=⟨os,hos,hcs⟩
 unfold getItem
 try with_reducible refine wpAny_holding ?_
 first | refine wpAny_bind (wpAny_pure ?_) | skip
 refine wpAny_bind (wpAny_sequenceKey ht.typeIs (by decide) ?_)
 refine wpAny_bind (wpAny_callSpecial?_slot (name:=Str.ofString "__getitem__") ht.typeIs PyProof.Rows.slot_tuple_getitem
  (wpAny_call_entry PyProof.Rows.slot_tuple_getitem ht.typeIs entry_tuple_getitem ?_ (args_tuple_getitem _ _)))
 show wpAny _ _ (Builtin.Tuple.tupleItemsOf (.ref t) >>= _) _ _ s
 refine wpAny_bind (tupleItemsOf_ ht ?_)
 refine wpAny_bind (wpAny_typeOf hTs ?_)
 rw [if_pos (by decide)]
 refine wpAny_bind (sliceApplied_gen hs pl pu ?_)
 have hno:¬ ((((sIx items.size 0 lo:Nat):Int) == 0&&(1:Int) == 1&&(sIx items.size items.size hi-sIx items.size 0 lo) == items.size)=true):=by
  intro q
  rw [Bool.and_eq_true,Bool.and_eq_true] at q
  have q1:((sIx items.size 0 lo:Nat):Int)=0:=eq_of_beq q.1.1
  have q2:sIx items.size items.size hi-sIx items.size 0 lo=items.size:=eq_of_beq q.2
  exact hw ⟨by omega,by omega⟩
 show wpAny _ _ (if (((sIx items.size 0 lo:Nat):Int) == 0&&(1:Int) == 1&&(sIx items.size items.size hi-sIx items.size 0 lo) == items.size)=true then _ else _) _ _ s
 rw [if_neg hno,Zog]
 first
  | exact wpAny_bind (m:=Builtin.Tuple.tupleExact _) (wpAny_newObj_type (wpAny_pure ⟨_,rfl,wpAny_pure h⟩) htake)
  | exact wpAny_bind (m:=Builtin.Tuple.tupleExact _) (wpAny_newObj_type (wpAny_bind (wpAny_pure (wpAny_pure ⟨_,rfl,wpAny_pure h⟩))) htake)
  | exact wpAny_bind (wpAny_bind (m:=Builtin.Tuple.tupleExact _) (wpAny_newObj_type (wpAny_pure (wpAny_pure ⟨_,rfl,wpAny_pure h⟩)) htake))
  | exact wpAny_bind (wpAny_bind (m:=Builtin.Tuple.tupleExact _) (wpAny_newObj_type (wpAny_pure ⟨_,rfl,wpAny_pure h⟩) htake))
end
end HT
namespace L2
open PySem PySem.Spec PyProof.Rows
abbrev TO:=St->Hp->(Option Int->Hp->Prop)->Prop
def PO (X:Cx) (e:Option Expr) (t:TO):Prop :=
 ∀ (pins:List (Addr × Obj)) (s:Shared) (σ:St) (H:Hp) (Q:Option Int->Hp->Prop),Inv X pins σ H s->t σ H Q →
  wpAny (model X.prog X.w) X.A (evalPart e X.env) (fun u s'=>∃ o H',Inv X pins σ H' s'∧IsPart u o∧Q o H') X.xe s
def Zdf:TO:=fun _ H Q=>Q none H
def ZrN (t:TE):TO:=fun σ H Q=>t σ H fun x H1=>∃ i,x=.int i∧Q (some i) H1
section
variable {X:Cx} {e:Expr} {te:TE} {lo hi:Option Expr} {tl th:TO} {pos p2:Pos}
theorem ZdL:PO X none Zdf:=by
 intro pins s σ H Q I h
 rw [evalPart_none]
 exact wpAny_pure ⟨none,H,I,.none,h⟩
theorem Zbp (h:PE X e te):PO X (some e) (ZrN te):=by
 intro pins s σ H Q I hw
 rw [evalPart_some]
 refine thn (h pins s σ H _ I hw) fun u s1 ⟨x,H1,I1,r1,q1⟩=>?_
 obtain ⟨i,rfl,q⟩:=q1
 obtain ⟨t,rfl⟩:=r1
 exact ⟨some i,H1,I1,.int i t,q⟩
def SlR (X:Cx) (r:V->Option Int->Option Int->Hp->VK->Prop):Prop :=
 ∀ (pins:List (Addr × Obj)) (s:Shared) (σ:St) (H:Hp) (x:V) (v vl vu:Value) (lo hi:Option Int) (sl:Addr) (Q:VK),Inv X pins σ H s->RelV x v->s.heap.IsSliceOf sl vl vu .none->IsPart vl lo->IsPart vu hi->r x lo hi H Q →
  ∃ T id,typeLookup (.type T) "__getitem__"=pure (some (.builtin id))∧s.TypeIs v T∧wpAny (model X.prog X.w) X.A (getItem v (.ref sl)) (EP X pins σ Q) X.xe s
def tSl (r:V->Option Int->Option Int->Hp->VK->Prop) (te:TE) (tl th:TO):TE:=fun σ H Q=>te σ H fun x H1=>tl σ H1 fun l H2=>th σ H2 fun u H3=>r x l u H3 Q
theorem Zby {r:V->Option Int->Option Int->Hp->VK->Prop} (hr:SlR X r) (he:PE X e te) (hl:PO X lo tl) (hu:PO X hi th):PE X (.Subscript e (.Slice lo hi none p2) pos) (tSl r te tl th):=by
 intro pins s σ H Q I h
 refine Subscript_ (thn (he pins s σ H _ I h) fun v s1 ⟨x,H1,I1,r1,q1⟩=>?_)
 refine wpAny_Slice (thn (hl pins s1 σ H1 _ I1 q1) fun vl s2 ⟨l,H2,I2,pl,q2⟩=>thn (hu pins s2 σ H2 _ I2 q2) fun vu s3 ⟨u,H3,I3,pu,q3⟩=>?_)
 rw [evalPart_none]
 refine wpAny_pure ?_
 have I4:Inv X pins σ H3 { s3 with heap:=s3.heap.push { cls:=.type "slice",data:=.fields #[vl,vu,.none] } }:=I3.kept (t':=s3.toks) fun b ob q=>Heap.get?_push_of_some _ q
 obtain ⟨T,id,hT,ht,hg⟩:=hr pins { s3 with heap:=s3.heap.push { cls:=.type "slice",data:=.fields #[vl,vu,.none] } } σ H3 x v vl vu l u s3.heap.objs.size Q I4 r1 (Heap.IsSliceOf.new ..) pl pu q3
 show wpAny (model X.prog X.w) X.A (subscriptTail e (.Slice lo hi none p2) v (.ref s3.heap.objs.size)) (EP X pins σ Q) X.xe { s3 with heap:=s3.heap.push { cls:=.type "slice",data:=.fields #[vl,vu,.none] } }
 exact tail_any (ops:=[.ref s3.heap.objs.size,v]) ht hT hg (by with_unfolding_all rfl)
noncomputable def ZhA (xs:List V) (lo hi:Option Int):List V:=(xs.drop (HT.sIx xs.length 0 lo)).take (HT.sIx xs.length xs.length hi-HT.sIx xs.length 0 lo)
theorem Zhq (xs:List V) (lo hi:Option Int):(ZhA xs lo hi).length≤xs.length:=by
 unfold ZhA
 rw [List.length_take,List.length_drop]
 omega
def Zsg (K:W.Frag):V->Option Int->Option Int->Hp->VK->Prop:=fun x lo hi H Q=>∃ a xs,x=.ref a∧SqT K H a xs ∧
 ¬ (HT.sIx xs.length 0 lo=0∧HT.sIx xs.length xs.length hi=xs.length)∧∀ p,H p=none->Q (.ref p) (upd H p (.tup (ZhA xs lo hi)))
theorem Zh3:SlR X (Zsg X.K):=by
 intro pins s σ H x v vl vu lo hi sl Q I rx hs pl pu h
 obtain ⟨a,xs,rfl,hx,hw,q⟩:=h
 cases rx
 obtain ⟨its,r,ht,hz⟩:=I.tuple hx
 have hlen:its.toArray.size=xs.length:=by rw [List.size_toArray]; exact r.length.symm
 refine ⟨"tuple",_,PyProof.Rows.slot_tuple_getitem.lookup,ht.typeIs,?_⟩
 refine HT.getItem_tuple_cut ht hs pl pu (by rw [hlen]; exact hw) ?_ (by rw [hlen]; exact hz)
 rw [hlen]
 refine ⟨.ref s.heap.objs.size,_,I.laid (t':=s.toks) (o:=.tup (ZhA xs lo hi)) (fun b ob q=>Heap.get?_push_of_some _ q) (Nat.le_refl _) ?_,rfl,q _ (I.hok.fresh (Nat.le_refl _))⟩
 exact ⟨Nat.le_trans (Zhq xs lo hi) hz,_,(r.drop (HT.sIx xs.length 0 lo)).take (HT.sIx xs.length xs.length hi-HT.sIx xs.length 0 lo),IsTup.new _ _⟩
def ZrT (K:W.Frag):R2:=fun x y H Q=>∃ a b xs ys,x=.ref a∧y=.ref b∧SqT K H a xs∧SqT K H b ys∧xs≠[]∧xs.length+ys.length≤sizeLine ∧
 (ys=[]->Q (.ref a) H)∧(ys≠[]->∀ p,H p=none->Q (.ref p) (upd H p (.tup (xs++ys))))
theorem Vals.nil_iff {xs:List V} {us:List Value} (r:Vals xs us):us=[]↔xs=[]:=by
 cases r with
 | nil=>simp
 | cons _ _=>simp
theorem ZpF:OpR X (binaryOp .Add) (ZrT X.K):=by
 intro pins s σ H x y v u Q I rx ry h
 obtain ⟨a,b,xs,ys,rfl,rfl,ha,hb,hx,hz,q1,q2⟩:=h
 cases rx
 cases ry
 obtain ⟨its,r1,p1,_⟩:=I.tuple ha
 obtain ⟨its2,r2,p2,_⟩:=I.tuple hb
 refine HT.cat_tup p1 p2 (fun z=>hx (r1.nil_iff.mp z)) (fun z=>⟨.ref a,H,I,rfl,q1 (r2.nil_iff.mp z)⟩) (fun z=>?_) (by rw [← r1.length,← r2.length]; exact hz)
 refine ⟨.ref s.heap.objs.size,_,I.laid (t':=s.toks) (o:=.tup (xs++ys)) (fun b ob q=>Heap.get?_push_of_some _ q) (Nat.le_refl _) ?_,rfl,q2 (fun w=>z (r2.nil_iff.mpr w)) _ (I.hok.fresh (Nat.le_refl _))⟩
 exact ⟨by rw [List.length_append]; exact hz,_,r1.append r2,IsTup.new _ _⟩
end
noncomputable def ixN (n:Nat) (i:Int):Option Nat:=if 0≤i then (if i<n then some i.toNat else none) else if -(n:Int)≤i then some (i+n).toNat else none
noncomputable def atI {α:Type} (xs:List α) (i:Int):Option α:=(ixN xs.length i).bind fun j=>xs[j]?
theorem Zp3 {n:Nat} {i:Int} {j:Nat} (h:ixN n i=some j):seqIndex? i n=some j∧j<n∧-(n:Int)≤i∧i<n:=by
 unfold ixN at h
 by_cases h0:0≤i
 ·rw [if_pos h0] at h
  by_cases h1:i<n
  ·rw [if_pos h1] at h
   have e:i.toNat=j:=Option.some.inj h
   exact ⟨by rw [seqIndex_of h0 h1,e],by omega,by omega,h1⟩
  ·rw [if_neg h1] at h; cases h
 ·rw [if_neg h0] at h
  by_cases h1:-(n:Int)≤i
  ·rw [if_pos h1] at h
   have e:(i+n).toNat=j:=Option.some.inj h
   exact ⟨by rw [seqIndex_neg (by omega) h1,e],by omega,h1,by omega⟩
  ·rw [if_neg h1] at h; cases h
theorem Zlc {α:Type} {xs:List α} {i:Int} {v:α} (h:atI xs i=some v):∃ j,seqIndex? i xs.length=some j∧xs[j]?=some v∧j<xs.length∧-(xs.length:Int)≤i∧i<xs.length:=by
 unfold atI at h
 cases e:ixN xs.length i with
 | none=>rw [e] at h; cases h
 | some j =>
  rw [e] at h
  obtain ⟨h1,h2,h3,h4⟩:=Zp3 e
  exact ⟨j,h1,h,h2,h3,h4⟩
theorem Zct {α:Type} {xs:List α} {j:Nat} {v:α} (h:xs[j]?=some v):atI xs (j:Int)=some v:=by
 have hj:j<xs.length:=(List.getElem?_eq_some_iff.mp h).1
 have e:ixN xs.length (j:Int)=some j:=by
  unfold ixN
  rw [if_pos (by omega),if_pos (by omega)]; simp
 unfold atI; rw [e]; exact h
def ZpT (b:Expr):Prop:=∀ o i,subscripted b false o i=operate [o,i] (getItem o i)
def IxR (X:Cx) (r:R2):Prop :=
 ∀ (value slice:Expr) (pins:List (Addr × Obj)) (s:Shared) (σ:St) (H:Hp) (x y:V) (v u:Value) (Q:VK),Inv X pins σ H s->RelV x v->RelV y u->r x y H Q →
  subscripted slice false v u=operate [v,u] (getItem v u)->wpAny (model X.prog X.w) X.A (subscriptTail value slice v u) (EP X pins σ Q) X.xe s
def MtR (X:Cx) (id:String) (r:V->List V->Hp->VK->Prop):Prop :=
 ∀ (pins:List (Addr × Obj)) (s:Shared) (σ:St) (H:Hp) (x:V) (xs:List V) (v:Value) (us:List Value) (Q:VK),Inv X pins σ H s->RelV x v->Vals xs us->r x xs H Q →
  wpAny (model X.prog X.w) X.A (call (.builtin id) (v :: us)) (EP X pins σ Q) X.xe s
section
variable {X:Cx} {a b:Expr} {ta tb:TE} {pos:Pos}
theorem Zas {r:R2} (hr:IxR X r) (ha:PE X a ta) (hb:PE X b tb) (hs:ZpT b):PE X (.Subscript a b pos) (tOp r ta tb):=by
 intro pins s σ H Q I h
 exact Subscript_ (ZrP ha hb I h fun v u s2 x y H2 I2 rx ry q=>hr a b pins s2 σ H2 x y v u Q I2 rx ry q (hs _ _))
def Zss (K:W.Frag):R2:=fun x y H Q=>∃ p xs i v,x=.ref p∧y=.int i∧SqL K H p xs∧atI xs i=some v∧Q v H
def Zsm (K:W.Frag):R2:=fun x y H Q=>∃ p xs i v,x=.ref p∧y=.int i∧SqT K H p xs∧atI xs i=some v∧Q v H
def ZsM:R2:=fun x y H Q=>∃ z i c,x=.str z∧y=.int i∧z.length≤sizeLine∧atI z.cps.toList i=some c∧Q (.str ⟨#[c]⟩) H
theorem Za7:IxR X (Zss X.K):=by
 intro value slice pins s σ H x y v u Q I rx ry h hs
 obtain ⟨p,xs,i,z,rfl,rfl,hq,he,q⟩:=h
 cases rx
 obtain ⟨t,rfl⟩:=ry
 obtain ⟨its,r,pl,hz⟩:=I.list hq
 obtain ⟨j,h1,h2,h3,h4,h5⟩:=Zlc he
 obtain ⟨w,ew,rw'⟩:=r.get h2
 have hl:=r.length
 have hn:=Zkc
 have fin:EP X pins σ Q w s:=⟨z,H,I,rw',q⟩
 by_cases h0:0≤i
 ·have hj:i.toNat=j:=by
   rw [seqIndex_of h0 h5] at h1
   exact Option.some.inj h1
  exact item_listR pl.isList h0 (by omega) (by rw [hj]; simpa using ew) fin hs
 ·have hj:(i+(its.toArray.size:Int)).toNat=j:=by
   rw [seqIndex_neg (by omega) h4] at h1
   rw [List.size_toArray,← hl]
   exact Option.some.inj h1
  exact subscriptTail_builtinR (x:=w) pl.isList.typeIs slot_list_getitem.lookup
   (wpAny_getItem_list_neg (Q:=fun r s'=>r=w∧EP X pins σ Q r s') pl.isList (by omega) (by rw [List.size_toArray] <;> omega) (by omega) (by rw [hj]; simpa using ew) ⟨rfl,fin⟩) hs
theorem Zan:IxR X (Zsm X.K):=by
 intro value slice pins s σ H x y v u Q I rx ry h hs
 obtain ⟨p,xs,i,z,rfl,rfl,hq,he,q⟩:=h
 cases rx
 obtain ⟨t,rfl⟩:=ry
 obtain ⟨its,r,pl,hz⟩:=I.tuple hq
 obtain ⟨j,h1,h2,h3,h4,h5⟩:=Zlc he
 obtain ⟨w,ew,rw'⟩:=r.get h2
 have hl:=r.length
 have hn:=Zkc
 have fin:EP X pins σ Q w s:=⟨z,H,I,rw',q⟩
 exact subscriptTail_builtinR (x:=w) pl.typeIs slot_tuple_getitem.lookup
  (getItem_tuple (j:=j) (Q:=fun r s'=>r=w∧EP X pins σ Q r s') pl (by omega) (by omega) (by rw [List.size_toArray,← hl]; exact h1) (by simpa using ew) ⟨rfl,fin⟩) hs
theorem Zqq:IxR X ZsM:=by
 intro value slice pins s σ H x y v u Q I rx ry h hs
 obtain ⟨z,i,c,rfl,rfl,hz,he,q⟩:=h
 obtain ⟨t,rfl⟩:=rx
 obtain ⟨t',rfl⟩:=ry
 obtain ⟨j,h1,h2,h3,h4,h5⟩:=Zlc he
 have hl:z.cps.toList.length=z.length:=by simp [Str.length]
 rw [hl] at h1 h4 h5
 have hn:=Zkc
 exact tail_any (typeIs_str s z t) slot_str_getitem.lookup (getItem_str (c:=c) (by
  have e1:decide (i< -(2 ^ 63:Int))=false:=decide_eq_false (by omega)
  have e2:decide (i ≥ 2 ^ 63)=false:=decide_eq_false (by omega)
  rw [e1,e2,Bool.or_false]) (by rw [h1]; simpa using h2) ⟨.str ⟨#[c]⟩,H,I.tok _,⟨_,rfl⟩,q⟩) hs
theorem Zjg (lo hi:Option Int) (n:Nat):(sliceBounds lo hi none n).1=((HT.sIx n 0 lo:Nat):Int)∧(sliceBounds lo hi none n).2.1=((HT.sIx n n hi:Nat):Int)∧(sliceBounds lo hi none n).2.2=1:=by
 refine ⟨?_,?_,rfl⟩
 ·cases lo with
  | none=>simp [sliceBounds,HT.sIx]
  | some i =>
   simp only [sliceBounds,HT.sIx,Option.getD_none,show (1:Int) > 0 by decide,if_true]
   by_cases h:i<0
   ·simp only [h,if_true] <;> omega
   ·simp only [h,if_false] <;> omega
 ·cases hi with
  | none=>simp [sliceBounds,HT.sIx]
  | some i =>
   simp only [sliceBounds,HT.sIx,Option.getD_none,show (1:Int) > 0 by decide,if_true]
   by_cases h:i<0
   ·simp only [h,if_true] <;> omega
   ·simp only [h,if_false] <;> omega
theorem Zio (its:List Value) (lo hi:Option Int):slicePick its.toArray lo hi none=((its.drop (HT.sIx its.length 0 lo)).take (HT.sIx its.length its.length hi-HT.sIx its.length 0 lo)).toArray:=by
 obtain ⟨h1,h2,h3⟩:=Zjg lo hi its.toArray.size
 unfold slicePick
 rw [h1,h2,h3]
 simp only [sliceRange_one,pick_run,List.size_toArray] <;> rfl
def Zsu (K:W.Frag):V->Option Int->Option Int->Hp->VK->Prop:=fun x lo hi H Q=>∃ a xs,x=.ref a∧SqL K H a xs∧∀ p,H p=none->Q (.ref p) (upd H p (.lst (ZhA xs lo hi)))
theorem ZpR:SlR X (Zsu X.K):=by
 intro pins s σ H x v vl vu lo hi sl Q I rx hs pl pu h
 obtain ⟨a,xs,rfl,hx,q⟩:=h
 cases rx
 obtain ⟨its,r,ht,hz⟩:=I.list hx
 have hlen:=r.length
 refine ⟨"list",_,slot_list_getitem.lookup,ht.isList.typeIs,?_⟩
 refine wpAny_getItem_list_slice ht.isList hs pl pu .none (by simp) ?_ (by rw [List.size_toArray] <;> omega)
 rw [Zio,← hlen]
 refine ⟨.ref s.heap.objs.size,_,I.laid (t':=s.toks) (o:=.lst (ZhA xs lo hi)) (fun b ob q=>Heap.get?_push_of_some _ q) (Nat.le_refl _) ?_,rfl,q _ (I.hok.fresh (Nat.le_refl _))⟩
 exact ⟨Nat.le_trans (Zhq xs lo hi) hz,_,0,(r.drop (HT.sIx xs.length 0 lo)).take (HT.sIx xs.length xs.length hi-HT.sIx xs.length 0 lo),Heap.get?_push_size _ rfl⟩
noncomputable def Zim:V->Bool
 | .non=>true
 | .bl _=>true
 | .int _=>true
 | .str _=>true
 | _=>false
noncomputable def eqV:V->V->Bool
 | .non,.non=>true
 | .bl a,.bl b=>a == b
 | .bl a,.int b=>(if a then 1 else 0) == b
 | .int a,.bl b=>a == (if b then 1 else 0)
 | .int a,.int b=>a == b
 | .str a,.str b=>a == b
 | _,_=>false
theorem Zre {A:Around} {s:Shared} {y x:V} {u v:Value} (ry:RelV y u) (rx:RelV x v) (fy:Zim y=true) (fx:Zim x=true):SeqAt.EqAt A s u v (eqV y x):=by
 cases y with
 | non =>
  cases ry
  cases x with
  | non=>cases rx; exact SeqAt.EqAt.same _
  | bl b=>cases rx; exact SeqAt.EqAt.none_bool b
  | int b=>obtain ⟨t,rfl⟩:=rx; exact SeqAt.EqAt.none_int b t
  | str b=>obtain ⟨t,rfl⟩:=rx; exact SeqAt.EqAt.none_str b t
  | _=>exact absurd (show false=true from fx) Bool.false_ne_true
 | bl a =>
  cases ry
  cases x with
  | non=>cases rx; exact SeqAt.EqAt.bool_none a
  | bl b=>cases rx; exact SeqAt.EqAt.bool_bool a b
  | int b=>obtain ⟨t,rfl⟩:=rx; exact SeqAt.EqAt.bool_int a b t
  | str b=>obtain ⟨t,rfl⟩:=rx; exact SeqAt.EqAt.bool_str a b t
  | _=>exact absurd (show false=true from fx) Bool.false_ne_true
 | int a =>
  obtain ⟨t',rfl⟩:=ry
  cases x with
  | non=>cases rx; exact SeqAt.EqAt.int_none a t'
  | bl b=>cases rx; exact SeqAt.EqAt.int_bool a t' b
  | int b=>obtain ⟨t,rfl⟩:=rx; exact SeqAt.EqAt.int_int a t' b t
  | str b=>obtain ⟨t,rfl⟩:=rx; exact SeqAt.EqAt.int_str a t' b t
  | _=>exact absurd (show false=true from fx) Bool.false_ne_true
 | str a =>
  obtain ⟨t',rfl⟩:=ry
  cases x with
  | non=>cases rx; exact SeqAt.EqAt.str_none a t'
  | bl b=>cases rx; exact SeqAt.EqAt.str_bool a t' b
  | int b=>obtain ⟨t,rfl⟩:=rx; exact SeqAt.EqAt.str_int a t' b t
  | str b=>obtain ⟨t,rfl⟩:=rx; exact SeqAt.EqAt.str_str a t' b t
  | _=>exact absurd (show false=true from fx) Bool.false_ne_true
 | _=>exact absurd (show false=true from fy) Bool.false_ne_true
noncomputable def eqU (x:V) (u:Value):Bool:=match u with
 | .none=>eqV .non x
 | .bool b=>eqV (.bl b) x
 | .int i _=>eqV (.int i) x
 | .str z _=>eqV (.str z) x
 | _=>false
theorem Zpa {x y:V} {u:Value} (r:RelV y u) (f:Zim y=true):eqU x u=eqV y x:=by
 cases y with
 | non=>cases r; rfl
 | bl b=>cases r; rfl
 | int i=>obtain ⟨t,rfl⟩:=r; rfl
 | str z=>obtain ⟨t,rfl⟩:=r; rfl
 | _=>exact absurd (show false=true from f) Bool.false_ne_true
theorem ZgS {x:V}:∀ {xs:List V} {us:List Value},Vals xs us->xs.all Zim=true->us.any (eqU x)=xs.any fun y=>eqV y x
 | _,_,.nil,_=>rfl
 | y :: xs,u :: us,.cons r t,f=>by
  rw [List.all_cons,Bool.and_eq_true] at f
  rw [List.any_cons,List.any_cons,Zpa r f.1,ZgS t f.2]
theorem Zfo {A:Around} {s:Shared} {x:V} {v:Value} (rx:RelV x v) (fx:Zim x=true):∀ {xs:List V} {us:List Value},Vals xs us->xs.all Zim=true->∀ u∈us,SeqAt.EqAt A s u v (eqU x u)
 | _,_,.nil,_=>fun u hu=>by cases hu
 | y :: xs,u :: us,.cons r t,f=>fun u' hu=>by
  rw [List.all_cons,Bool.and_eq_true] at f
  rcases List.mem_cons.mp hu with rfl | hu
  ·rw [Zpa r f.1]; exact Zre r rx f.1 fx
  ·exact Zfo rx fx t f.2 u' hu
noncomputable def inV (x:V) (xs:List V):Bool:=xs.any fun y=>eqV y x
def rIn (K:W.Frag) (neg:Bool):R2:=fun x y H Q=>∃ p xs,y=.ref p∧(SqL K H p xs∨SqT K H p xs)∧Zim x=true∧xs.all Zim=true∧Q (.bl (if neg then !inV x xs else inV x xs)) H
theorem ZcD:OpR X (compareOp .In) (rIn X.K false):=by
 intro pins s σ H x y v u Q I rx ry h
 obtain ⟨p,xs,rfl,hq,fx,fs,q⟩:=h
 cases ry
 rcases hq with hq | hq
 ·obtain ⟨its,r,pl,hz⟩:=I.list hq
  refine SeqAt.in_listAt (eqU x) pl.isList (fun w hw=>Zfo rx fx r fs w (by simpa using hw)) ⟨.bl _,H,I,rfl,?_⟩
  rw [show its.toArray.any (eqU x)=its.any (eqU x) by simp,ZgS r fs]
  exact q
 ·obtain ⟨its,r,pl,hz⟩:=I.tuple hq
  refine SeqAt.in_tupleAt (eqU x) pl (fun w hw=>Zfo rx fx r fs w (by simpa using hw)) ⟨.bl _,H,I,rfl,?_⟩
  rw [show its.toArray.any (eqU x)=its.any (eqU x) by simp,ZgS r fs]
  exact q
theorem ZdX:OpR X (compareOp .NotIn) (rIn X.K true):=by
 intro pins s σ H x y v u Q I rx ry h
 obtain ⟨p,xs,rfl,hq,fx,fs,q⟩:=h
 cases ry
 rcases hq with hq | hq
 ·obtain ⟨its,r,pl,hz⟩:=I.list hq
  refine SeqAt.notIn_listAt (eqU x) pl.isList (fun w hw=>Zfo rx fx r fs w (by simpa using hw)) ⟨.bl _,H,I,rfl,?_⟩
  rw [show its.toArray.any (eqU x)=its.any (eqU x) by simp,ZgS r fs]
  exact q
 ·obtain ⟨its,r,pl,hz⟩:=I.tuple hq
  refine SeqAt.notIn_tupleAt (eqU x) pl (fun w hw=>Zfo rx fx r fs w (by simpa using hw)) ⟨.bl _,H,I,rfl,?_⟩
  rw [show its.toArray.any (eqU x)=its.any (eqU x) by simp,ZgS r fs]
  exact q
theorem ZaT:Zdo X (.builtin "len") (fun xs H Q=>∃ p ys,xs=[.ref p]∧(SqL X.K H p ys∨SqT X.K H p ys)∧Q (.int ys.length) H):=by
 intro pins s σ H xs us Q I r h
 obtain ⟨p,ys,rfl,hq,q⟩:=h
 obtain ⟨u,rfl,rx⟩:=ZeF r
 cases rx
 have hn:=Zkc
 rcases hq with hq | hq
 ·obtain ⟨its,r',pl,hz⟩:=I.list hq
  have hlen:=r'.length
  exact Calls.call_len_list pl.isList (by simp only [List.size_toArray] <;> omega) ⟨.int ys.length,H,I.tok _,⟨s.toks+1,by rw [List.size_toArray,hlen]⟩,q⟩
 ·obtain ⟨its,r',pl,hz⟩:=I.tuple hq
  have hlen:=r'.length
  exact len_tuple pl (by simp only [List.size_toArray] <;> omega) ⟨.int ys.length,H,I.tok _,⟨s.toks+1,by rw [List.size_toArray,hlen]⟩,q⟩
theorem Zf5:Zdo X (.builtin "len") (fun xs H Q=>∃ z,xs=[.str z]∧z.length≤sizeLine∧Q (.int z.length) H):=by
 intro pins s σ H xs us Q I r h
 obtain ⟨z,rfl,hz,q⟩:=h
 obtain ⟨u,rfl,t,rfl⟩:=ZeF r
 have hn:=Zkc
 exact len_str (by omega) ⟨.int z.length,H,I.tok _,⟨_,rfl⟩,q⟩
theorem Zju:Zdo X (.type "list") (fun xs H Q=>∃ p ys,xs=[.ref p]∧(SqL X.K H p ys∨SqT X.K H p ys)∧∀ l,H l=none->Q (.ref l) (upd H l (.lst ys))):=by
 intro pins s σ H xs us Q I r h
 obtain ⟨p,ys,rfl,hq,q⟩:=h
 obtain ⟨u,rfl,rx⟩:=ZeF r
 cases rx
 have fin : ∀ (its : List Value), Vals ys its → ys.length ≤ sizeLine → ∀ (h' : Heap) (c' : Nat), (∀ b o', s.heap.get? b=some o' → h'.get? b=some o') →
   h'.get? s.heap.objs.size=some { cls:=.type "list",dict:=none,data:=.seq its.toArray c',slots:=#[] }->EP X pins σ Q (.ref s.heap.objs.size) { s with heap:=h' }:=fun its r' hz h' c' kp e =>
  ⟨.ref s.heap.objs.size,_,I.laid (t':=s.toks) kp (Nat.le_refl _) (show ObjOk X.prog X.w _ h' _ (.lst ys) from ⟨hz,its,c',r',e⟩),rfl,q _ (I.hok.fresh (Nat.le_refl _))⟩
 rcases hq with hq | hq
 ·obtain ⟨its,r',pl,hz⟩:=I.list hq
  have hlen:=r'.length
  obtain ⟨o,ho,hc,n,hd⟩:=pl.isList
  exact call_list_seq p (.inl rfl) ho hc hd (fun h' c' kp e=>fin its r' hz h' c' kp e) (by simp only [List.size_toArray] <;> omega)
 ·obtain ⟨its,r',pl,hz⟩:=I.tuple hq
  have hlen:=r'.length
  obtain ⟨o,ho,hc,n,hd⟩:=pl
  exact call_list_seq p (.inr rfl) ho hc hd (fun h' c' kp e=>fin its r' hz h' c' kp e) (by simp only [List.size_toArray] <;> omega)
def tyV (K:W.Frag) (T:String) (x:V) (H:Hp):Prop:=match x with
 | .str _=>T="str"
 | .int _=>T="int"
 | .ref p => (T="list" ∧ ∃ xs, SqL K H p xs) ∨ (T="tuple" ∧ ∃ o, K.lookup p=some o ∧ o.cls=.type "tuple" ∧ o.dict=none) ∨
   (T="dict"∧((∃ kvs,H p=some (.dK kvs))∨∃ kvs,H p=some (.dT kvs)))∨(T="set"∧∃ S n,H p=some (.set S n))
 | _=>False
theorem Zpd {pins : List (Addr × Obj)} {σ : St} {H : Hp} {s : Shared} {T : String} {x : V} {v : Value} (I : Inv X pins σ H s) (r : RelV x v) (ty : tyV X.K T x H) :
  s.TypeIs v T∧∀ a,v=.ref a->∃ ob,s.heap.get? a=some ob∧ob.dict=none:=by
 cases x with
 | str z =>
  obtain ⟨t,rfl⟩:=r
  cases (show T="str" from ty)
  exact ⟨typeIs_str s z t,fun _ e=>nomatch e⟩
 | int i =>
  obtain ⟨t,rfl⟩:=r
  cases (show T="int" from ty)
  exact ⟨typeIs_int s i t,fun _ e=>nomatch e⟩
 | ref p =>
  cases r
  rcases ty with ⟨rfl,xs,hq⟩ | ⟨rfl,o,hk,hc,hd⟩ | ⟨rfl,hk⟩ | ⟨rfl,S,n,hk⟩
  ·obtain ⟨its,_,pl,_⟩:=I.list hq
   refine ⟨pl.isList.typeIs,fun a e=>?_⟩
   cases e
   obtain ⟨o,n,e,c,hd,_⟩:=pl
   exact ⟨o,e,hd⟩
  ·refine ⟨⟨o,I.kIn p o hk,hc⟩,fun a e=>?_⟩
   cases e
   exact ⟨o,I.kIn _ o hk,hd⟩
  ·have z:∃ o,s.heap.get? p=some o∧o.ExactDict:=by
    rcases hk with ⟨kvs,hk⟩ | ⟨kvs,hk⟩
    ·obtain ⟨_,_,_,_,o,_,_,e,ex,_⟩:=I.hok p _ hk
     exact ⟨o,e,ex⟩
    ·obtain ⟨_,_,_,_,o,_,_,e,ex,_⟩:=I.hok p _ hk
     exact ⟨o,e,ex⟩
   obtain ⟨o,e,ex⟩:=z
   refine ⟨⟨o,e,ex.1⟩,fun a e2=>?_⟩
   cases e2
   exact ⟨o,e,ex.2.1⟩
  ·obtain ⟨o,_,_,_,e,ex,_⟩:=I.hok p _ hk
   refine ⟨⟨o,e,ex.1⟩,fun a e2=>?_⟩
   cases e2
   exact ⟨o,e,ex.2.1⟩
 | _=>exact False.elim ty
def Zsi (K:W.Frag) (T:String) (r:V->List V->Hp->VK->Prop) (to:TE):TE:=fun σ H Q=>to σ H fun x H1=>tyV K T x H1∧r x [] H1 Q
def tBM (K:W.Frag) (T:String) (r:V->List V->Hp->VK->Prop) (to:TE) (t:TA):TE:=fun σ H Q=>to σ H fun x H1=>tyV K T x H1∧t σ H1 fun xs H2=>r x xs H2 Q
variable {o e:Expr} {es:List Expr} {to:TE} {t:TA} {name:Str} {apos cpos:Pos} {T id:String} {r:V->List V->Hp->VK->Prop}
theorem ZqO (pa : PlainAttrs T) (slot : Slot T name id) (hty : typeOf (.builtin id)=pure (.type "method_descriptor")) (hm : MtR X id r) (ho : PE X o to)
  (hbase:attributeBase o name X.env (eval o X.env)=eval o X.env:=by rfl) (hline:(apos.endLine == cpos.line)=true:=by rfl):PE X (.Call (.Attribute o name apos) [] [] cpos) (Zsi X.K T r to):=by
 intro pins s σ H Q I h
 refine wpAny_Call_method0_late hbase hline (thn (ho pins s σ H _ I h) fun v s1 ⟨x,H1,I1,r1,ty,q1⟩=>?_)
 obtain ⟨h1,h2⟩:=Zpd I1 r1 ty
 exact ⟨T,id,pa,slot,hty,h1,h2,Calls.callWith_builtin rfl (PySem.evalArgs_none (hm pins s1 σ H1 x [] v [] Q I1 r1 .nil q1))⟩
theorem ZpD (pa : PlainAttrs T) (slot : Slot T name id) (hty : typeOf (.builtin id)=pure (.type "method_descriptor")) (hm : MtR X id r) (ho : PE X o to) (ha : PA X (e :: es) t)
  (hbase:attributeBase o name X.env (eval o X.env)=eval o X.env:=by rfl)
  (hfew:((backTo cpos (starEach (e :: es) X.env)).all (fun x=>!x.1)&&(backToKw cpos (keywordEach [] X.env)).all (fun x=>x.1.isSome)
   && decide ((e :: es).length+([]:List Keyword).length+(if ([]:List Keyword).isEmpty then 0 else 1)<30))=true:=by rfl)
  (hline:(apos.endLine == cpos.line)=true:=by rfl) (hs:starEach (e :: es) X.env=(false,eval e X.env) :: starEach es X.env:=by rfl) (hplain:(backTo cpos (starEach es X.env)).any (·.1)=false:=by rfl) :
  PE X (.Call (.Attribute o name apos) (e :: es) [] cpos) (tBM X.K T r to t):=by
 intro pins s σ H Q I h
 refine wpAny_Call_method_late hbase hfew hline rfl (thn (ho pins s σ H _ I h) fun v s1 ⟨x,H1,I1,r1,ty,q1⟩=>?_)
 obtain ⟨h1,h2⟩:=Zpd I1 r1 ty
 refine ⟨T,id,pa,slot,hty,h1,h2,?_⟩
 have hA:=ha cpos pins s1 σ H1 _ I1 q1
 rw [hs] at hA ⊢
 refine Calls.callWith_builtin (by show (false||(backTo cpos (starEach es X.env)).any (·.1))=false; rw [hplain] <;> rfl) (Calls.evalArgs_plain ?_)
 exact thn hA fun us s2 ⟨vs,H2,I2,r2,q2⟩=>hm pins s2 σ H2 x vs v us Q I2 r1 r2 q2
/- xs.append(e),list.index on a module's tuple .. are MtR facts of 06m -/
end
def MtM (X:Cx) (id:String) (r:V->List V->Hp->VK->Prop):Prop :=
 ∀ (pins:List (Addr × Obj)) (s:Shared) (σ:St) (H:Hp) (x:V) (xs:List V) (v:Value) (us:List Value) (Q:VK),Inv X pins σ H s->RelV x v->Vals xs us->r x xs H Q →
  wpAny (model X.prog X.w) X.A (call (.builtin id) (v :: us)) (EP X pins σ Q) X.xe s
theorem Vals.one:∀ {x:V} {us:List Value},Vals [x] us->∃ u,us=[u]∧RelV x u
 | _,_,.cons r .nil=>⟨_,rfl,r⟩
section
variable {X:Cx} {pins:List (Addr × Obj)} {σ:St} {H:Hp} {s:Shared} {l b:Addr} {xs ys zs:List V}
theorem Inv.lset {its its' : List Value} {n : Nat} {f : Array Value → Array Value} {t' : Nat} (I : Inv X pins σ H s) (hH : H l=some (.lst xs))
  (e:s.heap.get? l=some { cls:=.type "list",data:=.seq its.toArray n }) (hf:f its.toArray=its'.toArray) (hv:Vals ys its') (hz:ys.length≤sizeLine) :
  Inv X pins σ (upd H l (.lst ys)) { s with heap:=s.heap.update l (Obj.mapSeq f),toks:=t' }:=by
 have q:=PySem.IsL.update e f
 rw [hf] at q
 refine I.write (x:=l) (e:=l) (by rw [hH]; exact trivial) (.inl rfl) (fun b' u hb hu=>(Heap.get?_update_other s.heap (Obj.mapSeq f) (Ne.symm hb)).trans hu) ⟨_,q⟩ ?_
 exact ⟨hz,its',_,hv,q⟩
theorem Inv.lnew {its : List Value} {t' : Nat} (I : Inv X pins σ H s) (hv : Vals ys its) (hz : ys.length ≤ sizeLine) :
  Inv X pins σ (upd H s.heap.objs.size (.lst ys)) { s with heap:=s.heap.push { cls:=.type "list",data:=.seq its.toArray },toks:=t' } :=
 I.laid (fun _ _ q=>Heap.get?_push_of_some _ q) (Nat.le_refl _) ⟨hz,its,0,hv,Heap.get?_push_size _ rfl⟩
theorem Inv.fresh (I:Inv X pins σ H s):H s.heap.objs.size=none:=I.hok.fresh (Nat.le_refl _)
theorem Inv.lstM (I:Inv X pins σ H s) (hH:H l=some (.lst xs)):xs.length≤sizeLine∧∃ (its:List Value) (n:Nat),Vals xs its∧xs.length=its.length∧s.heap.get? l=some { cls:=.type "list",data:=.seq its.toArray n }:=by
 obtain ⟨z,its,n,r,e⟩:=I.hok l _ hH
 exact ⟨z,its,n,r,r.length,e⟩
end
section
variable {X:Cx}
def Zqb:V->List V->Hp->VK->Prop:=fun x vs H Q=>∃ l xs y,x=.ref l∧vs=[y]∧H l=some (.lst xs)∧xs.length<sizeLine∧Q .non (upd H l (.lst (xs++[y])))
theorem Zfs:MtM X "list.append" Zqb:=by
 intro pins s σ H x vs v us Q I rx rv h
 obtain ⟨l,xs,y,rfl,rfl,hH,hz,q⟩:=h
 cases rx
 obtain ⟨u,rfl,ru⟩:=rv.one
 obtain ⟨z,its,n,r,hl,e⟩:=I.lstM hH
 refine call_meets F.slot_list_append ⟨_,e,rfl⟩ F.entry_list_append (F.args_list_append_2 _ _) (PySem.list_append l its.toArray n u (by rw [List.size_toArray]; omega)) ⟨e,?_⟩
 refine ⟨.non,_,I.lset (its':=its++[u]) hH e (by simp) (r.append (.cons ru .nil)) ?_,rfl,q⟩
 rw [List.length_append,List.length_singleton]
 omega
def Zsz:R2:=fun x y H Q=>∃ l b xs zs,x=.ref l∧y=.ref b∧H l=some (.lst xs)∧H b=some (.lst zs)∧xs.length+zs.length≤sizeLine∧∀ p,H p=none->Q (.ref p) (upd H p (.lst (xs++zs)))
theorem Znq:OpR X (binaryOp .Add) Zsz:=by
 intro pins s σ H x y v u Q I rx ry h
 obtain ⟨l,b,xs,zs,rfl,rfl,hH,hB,hz,q⟩:=h
 cases rx
 cases ry
 obtain ⟨z,its,n,r,hl,e⟩:=I.lstM hH
 obtain ⟨z2,its2,n2,r2,hl2,e2⟩:=I.lstM hB
 refine PySem.P.add_list e e2 ?_ (by rw [List.size_toArray,List.size_toArray]; omega)
 have ea:its.toArray++its2.toArray=(its++its2).toArray:=by simp
 rw [ea]
 exact ⟨.ref _,_,I.lnew (t':=s.toks) (r.append r2) (by rw [List.length_append]; omega),rfl,q _ I.fresh⟩
end
section
variable {prog:Program} {w:World} {A:Around} {E:Value->Shared->Prop} {s:Shared}
set_option maxRecDepth 100000 in
end
section
variable {X:Cx}
end
section
variable {κ:Type} [DecidableEq κ]
noncomputable def ZcP (kvs:List (κ × V)) (k:κ):Option V:=(kvs.find? fun kv=>decide (kv.1=k)).map (·.2)
noncomputable def Zi8 (kvs:List (κ × V)) (k:κ) (v:V):List (κ × V) :=
 if (kvs.any fun kv=>decide (kv.1=k))=true then kvs.map (fun kv=>if kv.1=k then (kv.1,v) else kv) else kvs++[(k,v)]
theorem Zce {p:κ × V} {r:List (κ × V)} {k:κ} (e:p.1=k):ZcP (p :: r) k=some p.2:=by simp [ZcP,List.find?_cons,e]
theorem Zb9 {p:κ × V} {r:List (κ × V)} {k:κ} (e:¬ p.1=k):ZcP (p :: r) k=ZcP r k:=by simp [ZcP,List.find?_cons,e]
theorem ZiF (k:κ):∀ kvs:List (κ × V),(kvs.any fun kv=>decide (kv.1=k))=(ZcP kvs k).isSome
 | []=>rfl
 | p :: r=>by
  rw [List.any_cons]
  by_cases e:p.1=k
  ·simp only [Zce e,decide_eq_true e,Bool.true_or,Option.isSome_some]
  ·rw [Zb9 e,decide_eq_false e,Bool.false_or]; exact ZiF k r
theorem ZgG (kvs:List (κ × V)) (k:κ) (v:V):(Zi8 kvs k v).length≤kvs.length+1:=by
 unfold Zi8
 split
 ·rw [List.length_map]; omega
 ·rw [List.length_append,List.length_cons,List.length_nil]; omega
theorem ZiN {kvs:List (κ × V)} {k:κ} (v:V) (h:ZcP kvs k=none):Zi8 kvs k v=kvs++[(k,v)]:=by
 unfold Zi8
 rw [ZiF,h]
 exact if_neg (by decide)
theorem RelO.isSome_eq {o:Option V} {u:Option Value} (r:RelO o u):o.isSome=u.isSome:=by
 cases o with
 | none=>cases u with
  | none=>rfl
  | some _=>exact (show False from r).elim
 | some _=>cases u with
  | none=>exact (show False from r).elim
  | some _=>rfl
theorem RelO.getD {o:Option V} {u:Option Value} {d:V} {d':Value} (r:RelO o u) (rd:RelV d d'):RelV (o.getD d) (u.getD d'):=by
 cases o with
 | none=>cases u with
  | none=>exact rd
  | some _=>exact (show False from r).elim
 | some _=>cases u with
  | none=>exact (show False from r).elim
  | some _=>exact r
theorem KV.val {kvs:List (κ × V)} {vs:List (κ × Value)} (r:KV kvs vs) (k:κ):RelO (ZcP kvs k) (valueAt vs k):=by
 unfold KV at r
 induction r with
 | nil=>exact True.intro
 | @cons p q ps qs h t ih =>
  obtain ⟨h1,h2⟩:=h
  by_cases e:p.1=k
  ·have e':q.1=k:=h1.symm.trans e
   have b:valueAt (q :: qs) k=some q.2:=by simp [valueAt,List.find?_cons,e']
   rw [Zce e,b]; exact h2
  ·have e':¬ q.1=k:=fun z=>e (h1.trans z)
   have b:valueAt (q :: qs) k=valueAt qs k:=by simp [valueAt,List.find?_cons,e']
   rw [Zb9 e,b]; exact ih
theorem KV.any {kvs:List (κ × V)} {vs:List (κ × Value)} (r:KV kvs vs) (k:κ):(kvs.any fun kv=>decide (kv.1=k))=vs.any fun kv=>decide (kv.1=k):=by
 unfold KV at r
 induction r with
 | nil=>rfl
 | cons h t ih=>rw [List.any_cons,List.any_cons,ih,h.1]
theorem KV.repl {kvs : List (κ × V)} {vs : List (κ × Value)} (r : KV kvs vs) (k : κ) {y : V} {u : Value} (ry : RelV y u) :
  KV (kvs.map fun kv=>if kv.1=k then (kv.1,y) else kv) (vs.map fun kv=>if kv.1=k then (kv.1,u) else kv):=by
 unfold KV at r ⊢
 induction r with
 | nil=>exact .nil
 | @cons p q ps qs h t ih =>
  rw [List.map_cons,List.map_cons]
  refine .cons ?_ ih
  obtain ⟨h1,h2⟩:=h
  by_cases e:p.1=k
  ·rw [if_pos e,if_pos (h1.symm.trans e)]; exact ⟨h1,ry⟩
  ·rw [if_neg e,if_neg (fun z=>e (h1.trans z))]; exact ⟨h1,h2⟩
theorem KV.put {kvs:List (κ × V)} {vs:List (κ × Value)} (r:KV kvs vs) (k:κ) {y:V} {u:Value} (ry:RelV y u):KV (Zi8 kvs k y) (stored vs k u):=by
 unfold Zi8 stored
 rw [r.any k]
 by_cases e:(vs.any fun kv=>decide (kv.1=k))=true
 ·rw [if_pos e,if_pos e]; exact r.repl k ry
 ·rw [if_neg e,if_neg e]; exact Paired.snoc r ⟨rfl,ry⟩
theorem KV.length {kvs:List (κ × V)} {vs:List (κ × Value)} (r:KV kvs vs):kvs.length=vs.length:=Paired.length r
end
theorem Zku {P:Program} {w:World} {k:Key} {u:Value} (r:RelV (kV k) u):(Zbi P w).is k u=true:=by
 cases k with
 | inl i=>obtain ⟨t,e⟩:=(show ∃ t,u=Value.int i t from r); subst e; exact ZkE P w i t
 | inr x=>obtain ⟨t,e⟩:=(show ∃ t,u=Value.str x t from r); subst e; exact Zk3 P w x t
theorem ZjP {P:Program} {w:World}:∀ {ks:List Key} {us:List Value},Vals (ks.map kV) us->ItemsAre (Zbi P w) ks us
 | [],_,r=>by rw [List.map_nil] at r; cases r; exact .nil
 | k :: ks,_,r=>by
  rw [List.map_cons] at r
  cases r with
  | cons h t=>exact .cons (Zku h) (ZjP t)
abbrev KT (H:Hp):List (List Key × V)->List (List Key × Addr × Value)->Prop:=Paired fun p q=>p.1=q.1∧H q.2.1=some (.tup (p.1.map kV))∧RelV p.2 q.2.2
theorem KT.val {H:Hp} {kvs:List (List Key × V)} {xs:List (List Key × Addr × Value)} (r:KT H kvs xs) (k:List Key):RelO (ZcP kvs k) ((atKey xs k).map (·.2)):=by
 induction r with
 | nil=>exact True.intro
 | @cons p q ps qs h t ih =>
  obtain ⟨h1,_,h2⟩:=h
  by_cases e:p.1=k
  ·have e':q.1=k:=h1.symm.trans e
   have b:atKey (q :: qs) k=some q.2:=by simp [atKey,List.find?_cons,e']
   rw [Zce e,b]; exact h2
  ·have e':¬ q.1=k:=fun z=>e (h1.trans z)
   have b:atKey (q :: qs) k=atKey qs k:=by simp [atKey,List.find?_cons,e']
   rw [Zb9 e,b]; exact ih
theorem KT.repl {H : Hp} {kvs : List (List Key × V)} {xs : List (List Key × Addr × Value)} (r : KT H kvs xs) (k : List Key) {y : V} {u : Value} (ry : RelV y u) :
  KT H (kvs.map fun kv=>if kv.1=k then (kv.1,y) else kv) (xs.map (putAt k u)):=by
 induction r with
 | nil=>exact .nil
 | @cons p q ps qs h t ih =>
  rw [List.map_cons,List.map_cons]
  refine .cons ?_ ih
  obtain ⟨h1,h2,h3⟩:=h
  unfold putAt
  by_cases e:p.1=k
  ·rw [if_pos e,if_pos (h1.symm.trans e)]; exact ⟨h1,h2,ry⟩
  ·rw [if_neg e,if_neg (fun z=>e (h1.trans z))]; exact ⟨h1,h2,h3⟩
theorem KT.put {H : Hp} {kvs : List (List Key × V)} {xs : List (List Key × Addr × Value)} (r : KT H kvs xs) (k : List Key) {b : Addr} {y : V} {u : Value} (hb : H b=some (.tup (k.map kV))) (ry : RelV y u) :
  KT H (Zi8 kvs k y) (storedH xs k b u):=by
 have e:(kvs.any fun kv=>decide (kv.1=k))=(atKey xs k).isSome:=by
  rw [ZiF,(r.val k).isSome_eq,Option.isSome_map]
 unfold Zi8 storedH
 rw [e]
 by_cases q:(atKey xs k).isSome=true
 ·rw [if_pos q,if_pos q]; exact r.repl k ry
 ·rw [if_neg q,if_neg q]; exact Paired.snoc r ⟨rfl,hb,ry⟩
theorem KT.keeps {H H':Hp} {kvs:List (List Key × V)} {xs:List (List Key × Addr × Value)} (r:KT H kvs xs) (ht:∀ b ys,H b=some (.tup ys)->H' b=some (.tup ys)):KT H' kvs xs :=
 Paired.mapP r fun _ _ z=>⟨z.1,ht _ _ z.2.1,z.2.2⟩
section
variable {P:Program} {w:World} {H:Hp} {h:Heap} {a:Addr}
theorem Zq4 {u:HO} (ok:HOk P w H h) (e:Rd H a u):ObjOk P w H h a u:=e.ok ok
theorem ZjW {kvs:List (Key × V)} (ok:HOk P w H h) (e:Rd H a (.dK kvs)):kvs.length≤sizeLine∧(a == sysModules)=false∧∃ vs,KV kvs vs∧h.DictOf (Zbi P w) a vs :=
 show ObjOk P w H h a (.dK kvs) from Zq4 ok e
theorem Zrr {kvs:List (Key × V)} (ok:HOk P w H h) (e:H a=some (.dK kvs)):kvs.length≤sizeLine∧(a == sysModules)=false∧∃ vs,KV kvs vs∧h.DictOf (Zbi P w) a vs:=ZjW ok (.inl e)
theorem ZgZ {ks:List Key} (ok:HOk P w H h) (e:H a=some (.tup (ks.map kV))):(tupleKind (Zbi P w)).is h ks a:=by
 obtain ⟨_,its,r,o,h1,h2,n,h3⟩:=(show ObjOk P w H h a (.tup (ks.map kV)) from ok a _ e)
 exact ⟨o,its.toArray,n,h1,h2,h3,by simpa using ZjP r⟩
theorem Zk8 {kvs : List (List Key × V)} (ok : HOk P w H h) (e : Rd H a (.dT kvs)) : kvs.length ≤ sizeLine ∧ (a == sysModules)=false ∧
  ∃ xs,KT H kvs xs∧h.DictOfH (tupleKind (Zbi P w)) a xs:=by
 obtain ⟨z,y,xs,r,o,es,ep,h1,h2,h3,h4,h5⟩:=(show ObjOk P w H h a (.dT kvs) from Zq4 ok e)
 refine ⟨z,y,xs,r,o,es,ep,h1,h2,h3,h4,fun x hx=>?_,h5⟩
 have all:∀ {l:List (List Key × V)} {m:List (List Key × Addr × Value)},KT H l m->∀ x∈m,(tupleKind (Zbi P w)).is h x.1 x.2.1:=by
  intro l m q
  induction q with
  | nil=>intro x hx; exact nomatch hx
  | @cons p q ps qs hq t ih =>
   intro x hx
   rcases List.mem_cons.mp hx with e | hx
   ·subst e
    exact ZgZ ok (by rw [← hq.1]; exact hq.2.1)
   ·exact ih x hx
 exact all r x hx
theorem Znb {kvs : List (List Key × V)} (ok : HOk P w H h) (e : H a=some (.dT kvs)) : kvs.length ≤ sizeLine ∧ (a == sysModules)=false ∧
  ∃ xs,KT H kvs xs∧h.DictOfH (tupleKind (Zbi P w)) a xs:=Zk8 ok (.inl e)
end
def DGet (H:Hp) (a:Addr) (y:V) (r:Option V):Prop :=
 (∃ kvs k,Rd H a (.dK kvs)∧y=kV k∧r=ZcP kvs k)∨∃ kvs k b,Rd H a (.dT kvs)∧y=.ref b∧H b=some (.tup (k.map kV))∧r=ZcP kvs k
def DPut (H:Hp) (a:Addr) (y v:V) (H':Hp):Prop :=
 (∃ kvs k,H a=some (.dK kvs)∧y=kV k∧kvs.length<sizeLine∧H'=upd H a (.dK (Zi8 kvs k v))) ∨
 ∃ kvs k b,H a=some (.dT kvs)∧y=.ref b∧H b=some (.tup (k.map kV))∧kvs.length<sizeLine∧H'=upd H a (.dT (Zi8 kvs k v))
theorem DGet.k {H:Hp} {a:Addr} {kvs:List (Key × V)} {k:Key} (e:H a=some (.dK kvs)):DGet H a (kV k) (ZcP kvs k):=.inl ⟨kvs,k,.inl e,rfl,rfl⟩
theorem DGet.t {H:Hp} {a b:Addr} {kvs:List (List Key × V)} {k:List Key} (e:H a=some (.dT kvs)) (eb:H b=some (.tup (k.map kV))):DGet H a (.ref b) (ZcP kvs k):=.inr ⟨kvs,k,b,.inl e,rfl,eb,rfl⟩
theorem DPut.k {H:Hp} {a:Addr} {kvs:List (Key × V)} {k:Key} {v:V} (e:H a=some (.dK kvs)) (hl:kvs.length<sizeLine):DPut H a (kV k) v (upd H a (.dK (Zi8 kvs k v))):=.inl ⟨kvs,k,e,rfl,hl,rfl⟩
theorem DPut.t {H : Hp} {a b : Addr} {kvs : List (List Key × V)} {k : List Key} {v : V} (e : H a=some (.dT kvs)) (eb : H b=some (.tup (k.map kV))) (hl : kvs.length<sizeLine) :
  DPut H a (.ref b) v (upd H a (.dT (Zi8 kvs k v))):=.inr ⟨kvs,k,b,e,rfl,eb,hl,rfl⟩
section
variable {X:Cx} {pins:List (Addr × Obj)} {σ:St} {H:Hp} {s:Shared} {a:Addr} {y v:V} {u r:Value} {o:Option V} {A:Around} {E:Value->Shared->Prop}
theorem Inv.big (I:Inv X pins σ H s):sysModules<s.heap.objs.size:=by
 have h:mainGlobals<s.heap.objs.size:=(I.mod.glob.keeps I.bk).lt
 exact Nat.lt_trans (by decide) h
theorem ZmJ {Q : Value → Shared → Prop} (hu : A.units + 1<cLine) (I : Inv X pins σ H s) (g : DGet H a y (some v)) (ry : RelV y u) (h : ∀ w' s', Inv X pins σ H s' → RelV v w' → Q w' s') :
  wpAny (model X.prog X.w) A (getItem (.ref a) u) Q E s:=by
 rcases g with ⟨kvs,k,e,ey,l⟩ | ⟨kvs,k,b,e,ey,eb,l⟩
 ·subst ey
  obtain ⟨z,hd,vs,rel,dd⟩:=ZjW I.hok e
  obtain ⟨w',hw,rw'⟩:=RelO.some_of (v:=v) (o:=valueAt vs k) (by rw [l]; exact rel.val k)
  exact wpAny_getItem_of (Zku ry) dd.mapOf hw (h w' _ (I.tok _) rw')
 ·subst ey
  cases (show u=Value.ref b from ry)
  obtain ⟨z,hd,xs,rel,dd⟩:=Zk8 I.hok e
  obtain ⟨w',hw,rw'⟩:=RelO.some_of (v:=v) (o:=(atKey xs k).map (·.2)) (by rw [l]; exact rel.val k)
  obtain ⟨p,hp,hp2⟩:=Option.map_eq_some_iff.mp hw
  refine wpAny_getItem_heap (tupleKind_room_in1 hu) (ZgZ I.hok eb) dd hp ?_
  rw [hp2]
  exact h w' _ (I.tok _) rw'
theorem ZsK {Q : Value → Shared → Prop} (hu : A.units + 1<cLine) (I : Inv X pins σ H s) (g : DGet H a y o) (ry : RelV y u) (h : ∀ s', Inv X pins σ H s' → Q (.bool o.isSome) s') :
  wpAny (model X.prog X.w) A (compareOp .In u (.ref a)) Q E s:=by
 rcases g with ⟨kvs,k,e,ey,l⟩ | ⟨kvs,k,b,e,ey,eb,l⟩
 ·subst ey
  obtain ⟨z,hd,vs,rel,dd⟩:=ZjW I.hok e
  refine wpAny_in_of (Zku ry) hd dd.mapOf ?_
  rw [← (rel.val k).isSome_eq,← l]
  exact h _ (I.tok _)
 ·subst ey
  cases (show u=Value.ref b from ry)
  obtain ⟨z,hd,xs,rel,dd⟩:=Zk8 I.hok e
  refine wpAny_in_heap (tupleKind_room_in1 hu) (ZgZ I.hok eb) hd dd ?_
  have q:=(rel.val k).isSome_eq
  rw [Option.isSome_map] at q
  rw [← q,← l]
  exact h _ (I.tok _)
theorem ZpG {Q : Value → Shared → Prop} (hu : A.units + 1<cLine) (I : Inv X pins σ H s) (g : DGet H a y o) (ry : RelV y u) (h : ∀ s', Inv X pins σ H s' → Q (.bool (!o.isSome)) s') :
  wpAny (model X.prog X.w) A (compareOp .NotIn u (.ref a)) Q E s:=by
 rcases g with ⟨kvs,k,e,ey,l⟩ | ⟨kvs,k,b,e,ey,eb,l⟩
 ·subst ey
  obtain ⟨z,hd,vs,rel,dd⟩:=ZjW I.hok e
  refine wpAny_notIn_of (Zku ry) hd dd.mapOf ?_
  rw [← (rel.val k).isSome_eq,← l]
  exact h _ (I.tok _)
 ·subst ey
  cases (show u=Value.ref b from ry)
  obtain ⟨z,hd,xs,rel,dd⟩:=Zk8 I.hok e
  refine wpAny_notIn_heap (tupleKind_room_in1 hu) (ZgZ I.hok eb) hd dd ?_
  have q:=(rel.val k).isSome_eq
  rw [Option.isSome_map] at q
  rw [← q,← l]
  exact h _ (I.tok _)
theorem Zk7 {h' : Heap} {t' : Nat} {ob : HO} (I : Inv X pins σ H s) (mu : Mut (H a)) (hs : Heap.SameBut a s.heap h') (he : ∃ q, h'.get? a=some q) (new : ObjOk X.prog X.w (upd H a ob) h' a ob) :
  Inv X pins σ (upd H a ob) { s with heap:=h',toks:=t' } :=
 I.write (x:=a) (e:=a) mu (.inl rfl) (fun b q hb z=>(hs.2 b hb).trans z) he new
theorem Zpg {P : Program} {w : World} {H' : Hp} {h' : Heap} {kvs : List (Key × V)} {vs : List (Key × Value)} (z : kvs.length ≤ sizeLine) (hd : (a == sysModules)=false) (rel : KV kvs vs) (dd : h'.DictOf (Zbi P w) a vs) :
  ObjOk P w H' h' a (.dK kvs):=⟨z,hd,vs,rel,dd⟩
theorem Znc {H' : Hp} {Q : Unit → Shared → Prop} (hu : A.units + 1<cLine) (I : Inv X pins σ H s) (g : DPut H a y v H') (ry : RelV y u) (rv : RelV v r) (h : ∀ s', Inv X pins σ H' s' → Q () s') :
  wpAny (model X.prog X.w) A (setItem (.ref a) u r) Q E s:=by
 rcases g with ⟨kvs,k,e,ey,l,eH⟩ | ⟨kvs,k,b,e,ey,eb,l,eH⟩
 ·subst ey eH
  obtain ⟨z,hd,vs,rel,dd⟩:=Zrr I.hok e
  have hz:vs.length≤sizeLine:=by rw [← rel.length]; exact z
  have hl:(Zi8 kvs k v).length≤sizeLine:=by have:=ZgG kvs k v; omega
  refine wpAny_setItem_pairs (hsz:=hz) (Zku ry) dd fun h' dd' hs=>h _ ?_
  have he:∃ q,h'.get? a=some q:=let ⟨q,_,_,hq,_⟩:=dd'; ⟨q,hq⟩
  exact Zk7 I (by rw [e]; exact True.intro) hs he (Zpg hl hd (rel.put k rv) dd')
 ·subst ey eH
  cases (show u=Value.ref b from ry)
  obtain ⟨z,hd,xs,rel,dd⟩:=Znb I.hok e
  have hz:xs.length≤sizeLine:=by rw [← Paired.length rel]; exact z
  have hl:(Zi8 kvs k v).length≤sizeLine:=by have:=ZgG kvs k v; omega
  refine wpAny_setItem_heap (hsz:=hz) (tupleKind_room_in1 hu) (ZgZ I.hok eb) dd fun h' dd' hs=>h _ ?_
  obtain ⟨q,es,ep,hq,h2,h3,h4,_,h5⟩:=dd'
  refine Zk7 I (by rw [e]; exact True.intro) hs ⟨q,hq⟩ ⟨hl,hd,_,(rel.put k eb rv).keeps fun c ys ec=>?_,q,es,ep,hq,h2,h3,h4,h5⟩
  rw [Zai (Zqx ec e (fun z=>nomatch z))]
  exact ec
end
section
variable {X:Cx} {pins:List (Addr × Obj)} {σ:St} {H:Hp} {s:Shared} {a:Addr} {kvs:List (Key × V)} {k:Key} {u:Value} {A:Around} {E:Value->Shared->Prop}
theorem Zr5 {Q:Value->Shared->Prop} (I:Inv X pins σ H s) (e:Rd H a (.dK kvs)) (h:∀ t s',Inv X pins σ H s'->Q (.int kvs.length t) s'):wpAny (model X.prog X.w) A (call (.builtin "len") [.ref a]) Q E s:=by
 obtain ⟨z,hd,vs,rel,dd⟩:=ZjW I.hok e
 refine call_len_dict hd dd (by rw [← rel.length]; rw [sizeLine_eq] at z; omega) ?_
 rw [← rel.length]
 exact h _ _ (I.tok _)
end
def Zsj (i:Expr):Prop:=∀ ov iv,subscripted i false ov iv=operate [ov,iv] (getItem ov iv)
theorem Zqa {prog : Program} {w : World} {A : Around} {E : Value → Shared → Prop} {s : Shared} {env : Env} {value slice : Expr} {pos : Pos} {T id : String} {Q : Value → Shared → Prop}
  (hl:typeLookup (.type T) "__getitem__"=pure (some (.builtin id))) (hs:Zsj slice)
  (h:wpAny (model prog w) A (eval value env) (fun o s₁=>wpAny (model prog w) A (eval slice env) (fun i s₂=>s₂.TypeIs o T∧wpAny (model prog w) A (getItem o i) Q E s₂) E s₁) E s) :
  wpAny (model prog w) A (eval (.Subscript value slice pos) env) Q E s:=by
 refine Subscript_ (wpAny_mono h (fun o s₁ h₁=>wpAny_mono h₁ (fun i s₂ h₂=>?_) fun _ _ x=>x) fun _ _ x=>x)
 obtain ⟨hT,h₂⟩:=h₂
 unfold subscriptTail
 refine wpAny_bind ?_
 rw [getitemInPython_of_ne hT.not_modules]
 refine wpAny_bind (wpAny_specialOf hT hl ?_)
 have fin:wpAny (model prog w) A (subscripted slice false o i) (fun r s₃=>wpAny (model prog w) A (letTemporaryGo value o r >>= fun _=>pure r) Q E s₃) E s₂:=by
  rw [hs o i]
  exact wpAny_operating (wpAny_mono h₂ (fun r s₃ h₃=>wpAny_bind (wpAny_letTemporaryGo (wpAny_pure h₃))) fun _ _ x=>x)
 first
  | exact wpAny_pure (wpAny_bind fin)
  | exact wpAny_bind (wpAny_pure (wpAny_bind fin))
  | exact wpAny_bind fin
theorem ZkT {X:Cx} {pins:List (Addr × Obj)} {σ:St} {H:Hp} {s:Shared} {a:Addr} {y:V} {o:Option V} (I:Inv X pins σ H s) (g:DGet H a y o):s.TypeIs (.ref a) "dict":=by
 rcases g with ⟨kvs,k,e,_,_⟩ | ⟨kvs,k,b,e,_,_,_⟩
 ·obtain ⟨_,_,vs,_,dd⟩:=ZjW I.hok e
  exact dd.typeIs
 ·obtain ⟨_,_,xs,_,dd⟩:=Zk8 I.hok e
  exact dd.typeIs
def ZrO (td ty:TE):TE:=fun σ H Q=>td σ H fun x H1=>ty σ H1 fun y H2=>∃ a v,x=.ref a∧DGet H2 a y (some v)∧Q v H2
def ZsC (ty td:TE):TE:=fun σ H Q=>ty σ H fun y H1=>td σ H1 fun x H2=>∃ a o,x=.ref a∧DGet H2 a y o∧Q (.bl o.isSome) H2
def Zps (ty td:TE):TE:=fun σ H Q=>ty σ H fun y H1=>td σ H1 fun x H2=>∃ a o,x=.ref a∧DGet H2 a y o∧Q (.bl (!o.isSome)) H2
def ZrH (td ty tv:TE):TS:=fun D σ H=>tv σ H fun v H1=>td σ H1 fun x H2=>ty σ H2 fun y H3=>∃ a H4,x=.ref a∧DPut H3 a y v H4∧D.nx σ H4
section
variable {X:Cx} {o i e value:Expr} {pos pos' tpos:Pos} {td ty tv:TE}
theorem ZeR (hu:X.A.units+1<cLine) (ho:PE X o td) (hi:PE X i ty) (hs:Zsj i):PE X (.Subscript o i pos) (ZrO td ty):=by
 intro pins s σ H Q I h
 refine Zqa PySem.F.slot_dict_getitem.lookup hs (thn (ho pins s σ H _ I h) fun u s1 ⟨x,H1,I1,rx,q1⟩=>thn (hi pins s1 σ H1 _ I1 q1) fun iv s2 ⟨y,H2,I2,ry,a,v,ex,g,q2⟩=>?_)
 subst ex
 obtain rfl:u=Value.ref a:=rx
 exact ⟨ZkT I2 g,ZmJ hu I2 g ry fun w' s3 I3 rw'=>⟨v,H2,I3,rw',q2⟩⟩
theorem Zrk (hu:X.A.units+1<cLine) (hi:PE X i ty) (ho:PE X o td):PC X .In i o (ZsC ty td):=by
 intro pins s σ H Q I h
 refine thn (hi pins s σ H _ I h) fun iv s1 ⟨y,H1,I1,ry,q1⟩=>thn (ho pins s1 σ H1 _ I1 q1) fun u s2 ⟨x,H2,I2,rx,a,ov,ex,g,q2⟩=>?_
 subst ex
 obtain rfl:u=Value.ref a:=rx
 exact ZsK hu I2 g ry fun s3 I3=>⟨.bl ov.isSome,H2,I3,rfl,q2⟩
theorem Zjo (hu:X.A.units+1<cLine) (hi:PE X i ty) (ho:PE X o td):PC X .NotIn i o (Zps ty td):=by
 intro pins s σ H Q I h
 refine thn (hi pins s σ H _ I h) fun iv s1 ⟨y,H1,I1,ry,q1⟩=>thn (ho pins s1 σ H1 _ I1 q1) fun u s2 ⟨x,H2,I2,rx,a,ov,ex,g,q2⟩=>?_
 subst ex
 obtain rfl:u=Value.ref a:=rx
 exact ZpG hu I2 g ry fun s3 I3=>⟨.bl (!ov.isSome),H2,I3,rfl,q2⟩
theorem ZfN (hu : X.A.units + 1<cLine) (ho : PE X o td) (hi : PE X i ty) (hv : PE X value tv) (hs : swapsWith value (some (.Subscript o i pos')) pos.line X.env=pure false) :
  PS X (.Assign [.Subscript o i pos'] value pos) (ZrH td ty tv):=by
 intro pins s σ H D I h
 refine wpAny_Assign_Subscript (thn (hv pins s σ H _ I h) fun r s1 ⟨v,H1,I1,rv,q1⟩=>thn (ho pins s1 σ H1 _ I1 q1) fun u s2 ⟨x,H2,I2,rx,q2⟩=>thn (hi pins s2 σ H2 _ I2 q2) fun iv s3 ⟨y,H3,I3,ry,a,H4,ex,g,q3⟩=>?_) hs
 subst ex
 obtain rfl:u=Value.ref a:=rx
 exact Znc hu I3 g ry rv fun s4 I4=>⟨σ,H4,I4,q3⟩
end
theorem Zoi {P:Program} {w:World} {H:Hp} (h:Heap) (hb:sysModules<h.objs.size):ObjOk P w H (h.push { cls:=.type "dict",data:=.dict #[] }) h.objs.size (.dK []) :=
 ⟨Nat.zero_le _,beq_eq_false_iff_ne.mpr (Ne.symm (Nat.ne_of_lt hb)),[],.nil,Heap.DictOf.new h⟩
theorem ZoF {P:Program} {w:World} {H:Hp} (h:Heap) (hb:sysModules<h.objs.size):ObjOk P w H (h.push { cls:=.type "dict",data:=.dict #[] }) h.objs.size (.dT []) :=
 ⟨Nat.zero_le _,beq_eq_false_iff_ne.mpr (Ne.symm (Nat.ne_of_lt hb)),[],.nil,_,#[],0,Heap.get?_push_size _ rfl,⟨rfl,rfl,rfl⟩,rfl,rfl,List.nodup_nil⟩
def ZqE:TE:=fun _ H Q=>∀ p,H p=none->Q (.ref p) (upd H p (.dK []))
def ZqD:TE:=fun _ H Q=>∀ p,H p=none->Q (.ref p) (upd H p (.dT []))
section
variable {X:Cx} {pos:Pos}
theorem ZiR:PE X (.Dict [] [] pos) ZqE:=fun pins s σ H Q I h =>
 wpAny_Dict_empty ⟨.ref s.heap.objs.size,_,I.laid (a:=s.heap.objs.size) (o:=.dK []) (t':=s.toks) (fun _ _ q=>Heap.get?_push_of_some _ q) (Nat.le_refl _) (Zoi s.heap I.big),rfl,h _ (I.hok.fresh (Nat.le_refl _))⟩
theorem Zgm:PE X (.Dict [] [] pos) ZqD:=fun pins s σ H Q I h =>
 wpAny_Dict_empty ⟨.ref s.heap.objs.size,_,I.laid (a:=s.heap.objs.size) (o:=.dT []) (t':=s.toks) (fun _ _ q=>Heap.get?_push_of_some _ q) (Nat.le_refl _) (ZoF s.heap I.big),rfl,h _ (I.hok.fresh (Nat.le_refl _))⟩
end
structure M2 (X:Cx) (o:Expr) (m:Str) (apos:Pos) (e f:Expr) (cpos:Pos):Prop where
 base:attributeBase o m X.env (eval o X.env)=eval o X.env
 few:((backTo cpos (starEach [e,f] X.env)).all (fun x=>!x.1)&&(backToKw cpos (keywordEach [] X.env)).all (fun x=>x.1.isSome)
  && decide (([e,f]:List Expr).length+([]:List Keyword).length+(if ([]:List Keyword).isEmpty then 0 else 1)<30))=true
 line:(apos.endLine == cpos.line)=true
 trees:backTo cpos (starEach [e,f] X.env)=[(false,eval e X.env),(false,eval f X.env)]
def IsD (H:Hp) (a:Addr):Prop:=(∃ kvs,Rd H a (.dK kvs))∨∃ kvs,Rd H a (.dT kvs)
theorem Zpe {X : Cx} {pins : List (Addr × Obj)} {σ : St} {H : Hp} {s : Shared} {a : Addr} (I : Inv X pins σ H s) (d : IsD H a) :
  s.TypeIs (.ref a) "dict"∧(∀ b,Value.ref a=.ref b->∃ ob,s.heap.get? b=some ob∧ob.dict=none)∧(a == sysModules)=false:=by
 rcases d with ⟨kvs,e⟩ | ⟨kvs,e⟩
 ·obtain ⟨_,hd,vs,_,dd⟩:=ZjW I.hok e
  refine ⟨dd.typeIs,fun b q=>?_,hd⟩
  cases q
  obtain ⟨ob,_,_,h1,h2,_⟩:=dd
  exact ⟨ob,h1,h2.2.1⟩
 ·obtain ⟨_,hd,xs,_,dd⟩:=Zk8 I.hok e
  refine ⟨dd.typeIs,fun b q=>?_,hd⟩
  cases q
  obtain ⟨ob,_,_,h1,h2,_⟩:=dd
  exact ⟨ob,h1,h2.2.1⟩
section
variable {X:Cx} {pins:List (Addr × Obj)} {σ:St} {H:Hp} {s:Shared} {a:Addr} {y d:V} {u r:Value} {o:Option V} {A:Around} {E:Value->Shared->Prop}
theorem Zrt {Q : Value → Shared → Prop} (hu : A.units + 1<cLine) (I : Inv X pins σ H s) (g : DGet H a y o) (ry : RelV y u) (rd : RelV d r) (h : ∀ w' s', Inv X pins σ H s' → RelV (o.getD d) w' → Q w' s') :
  wpAny (model X.prog X.w) A (call (.builtin "dict.get") [.ref a,u,r]) Q E s:=by
 rcases g with ⟨kvs,k,e,ey,l⟩ | ⟨kvs,k,b,e,ey,eb,l⟩
 ·subst ey
  obtain ⟨z,hd,vs,rel,dd⟩:=ZjW I.hok e
  refine call_meetsIn PySem.F.slot_dict_get dd.typeIs PySem.F.entry_dict_get (PySem.F.args_dict_get_3 _ _ _) (meets_dict_get_default (Zbi X.prog X.w) a (Zku ry) hd r) ⟨_,dd.mapOf,h _ _ (I.tok _) ?_⟩
  rw [l]
  exact (rel.val k).getD rd
 ·subst ey
  cases (show u=Value.ref b from ry)
  obtain ⟨z,hd,xs,rel,dd⟩:=Zk8 I.hok e
  refine call_meetsIn PySem.F.slot_dict_get dd.typeIs PySem.F.entry_dict_get (PySem.F.args_dict_get_3 _ _ _) (meetsH_dict_get_default (tupleKind (Zbi X.prog X.w)) a b hd r) ⟨tupleKind_room_in1 hu,k,xs,ZgZ I.hok eb,dd,h _ _ (I.tok _) ?_⟩
  rw [l]
  exact (rel.val k).getD rd
end
def ZqC (td ty tx:TE):TE:=fun σ H Q=>td σ H fun x H1=>∃ a,x=.ref a∧IsD H1 a∧ty σ H1 fun y H2=>tx σ H2 fun z H3=>∃ o,DGet H3 a y o∧Q (o.getD z) H3
section
variable {X:Cx} {o e f:Expr} {apos cpos:Pos} {td ty tx:TE}
theorem Zfv (hu:X.A.units+1<cLine) (ho:PE X o td) (he:PE X e ty) (hf:PE X f tx) (m:M2 X o "get" apos e f cpos):PE X (.Call (.Attribute o "get" apos) [e,f] [] cpos) (ZqC td ty tx):=by
 intro pins s σ H Q I h
 refine wpAny_Call_method m.base m.few m.line PySem.F.plainAttrs_dict PySem.F.slot_dict_get PySem.F.type_dict_get (thn (ho pins s σ H _ I h) fun u s1 ⟨x,H1,I1,rx,a,ex,d,q1⟩=>?_)
 subst ex
 obtain rfl:u=Value.ref a:=rx
 obtain ⟨t1,t2,_⟩:=Zpe I1 d
 refine ⟨t1,t2,?_⟩
 rw [m.trees]
 refine Calls.callWith_builtin rfl (Calls.evalArgs_plain (Calls.spliced_cons (thn (he pins s1 σ H1 _ I1 q1) fun iv s2 ⟨y,H2,I2,ry,q2⟩ =>
  Calls.spliced_cons (thn (hf pins s2 σ H2 _ I2 q2) fun fv s3 ⟨z,H3,I3,rz,ov,g,q3⟩=>Calls.spliced_nil ?_))))
 exact Zrt hu I3 g ry rz fun w' s4 I4 rw'=>⟨_,H3,I4,rw',q3⟩
end
section
variable {X:Cx} {pins:List (Addr × Obj)} {σ:St} {H:Hp} {s:Shared} {a:Addr} {kvs:List (Key × V)} {A:Around} {E:Value->Shared->Prop}
end
section
variable {X:Cx} {pins:List (Addr × Obj)} {σ:St} {H:Hp} {s:Shared} {a:Addr} {y:V} {u:Value} {A:Around} {E:Value->Shared->Prop}
end
end L2
namespace Att
open PySem PySem.W PySem.Calls PyProof.Rows
theorem Zgt {P:Params} {h:Heap}:∀ (ns:List Int) (vs:List Value),WellAll P h vs (ns.map WData.int)->IntsAre vs ns:=by
 intro ns
 induction ns with
 | nil =>
  intro vs w
  rw [List.map_nil] at w
  cases w
  exact .nil
 | cons n ns ih =>
  intro vs w
  rw [List.map_cons] at w
  cases w with
  | cons a b =>
   cases a
   exact .cons _ _ (ih _ b)
theorem Zng {l : OpenLaw} {n : Nat} (hn : l.most=some n) {P : Params} {h : Heap} {args : List WData} {vals : List Value}
  (hpre:l.row.toRowW.claim.pre args=true) (hwl:WellAll P h vals args) :
  ∃ a vs ns,vals=[Value.ref a]∧args=[WData.list (ns.map WData.int)]∧h.get? a=some { cls:=.type "list",data:=.seq vs.toArray }∧IntsAre vs ns∧ns.length≤n:=by
 have hsh:WShape.hasAll [] args [.list .int]=true:=(pre_splitW hpre).1
 have hc:l.pre.holds [] { args:=args }=true:=(pre_splitW hpre).2
 obtain ⟨d,r,rfl,h1,h2⟩:=hasAllW_cons hsh
 obtain rfl:=hasAllW_nil h2
 obtain ⟨xs,rfl,h3⟩:=hasW_list h1
 obtain ⟨ns,rfl⟩:=items_int h3
 have hlen:ns.length≤n:=by
  unfold OpenLaw.pre at hc
  have h4:(WTm.not (.lt (.lit (.int (n:Int))) (.len (.arg 0)))).holds [] { args:=[.list (ns.map .int)] }=true:=by
   have h4:=(holds_andW hc).1
   rw [hn] at h4
   exact h4
  have h5:=condW_of h4 (w_not (w_lt w_lit (w_len_list (w_arg rfl))))
  rw [List.length_map] at h5
  refine Nat.le_of_not_lt fun q=>?_
  have q':(n:Int)<((ns.length:Nat):Int):=by omega
  first
   | (rw [decide_eq_true q'] at h5; exact absurd h5 (by decide))
   | (simp at h5; omega)
 cases hwl with
 | cons w1 w2 =>
  cases w2
  cases w1 with
  | list ho hall=>exact ⟨_,_,ns,rfl,rfl,ho,Zgt ns _ hall,hlen⟩
theorem ZnH (l:OpenLaw) (args:List WData):l.row.toRowW.claim.post args (.bool true) args=true :=
 postW_of (r:=l.row.toRowW) (X:=(true == true))
  (show WShape.has [] (.bool true) .bool=true by first | rfl | decide | simp [WShape.has,WShape.arms,WShape.armsAll])
  (show (WTm.eq .res (.lit (.bool true))).value [] { args:=args,res:=some (.bool true),after:=args }=some (.bool (true == true)) from w_eq_bool (w_res rfl) w_lit) rfl
theorem attach_call {l : OpenLaw} {n : Nat} {q : Program} {loose : List Str} {XP : (Str → Option Value) → Heap → Prop} {YP : World → Heap → Prop} {d : DefRec}
  (hn:l.most=some n) (hdf:d.params.defaults=[])
  (call:∀ (w:World) (s₀ s₁:Shared) (mg mb:Str->Option Value) (fa:Addr) (o:Obj) (pm cd doc:Value) (a:Addr) (vs:List Value) (ns:List Int),
   Ground q loose [] XP w s₀ mg mb s₁.heap->YP w s₁.heap →
   s₁.heap.get? fa=some o->o.data=.func (docDef d.name d.params d.body d.scope pm cd doc)->s₁.heap.CodeRec cd d.name->mg d.name=some (.ref fa) →
   s₁.heap.get? a=some { cls:=.type "list",data:=.seq vs.toArray }->IntsAre vs ns->ns.length≤n->s₁.gens=#[] →
   codeAny (model l.prog w) callerA (.call (.ref fa) ⟨[.ref a],[]⟩) (fun r s'=>r=.ok (.ret (.bool true))∧OldK s₁.heap s'.heap∧s'.os=s₁.os∧AllBare s'.gens) s₁) :
  WalkO q loose XP YP l.row.toRowW d [] (fun f vs=>PySem.call f vs):=by
 intro w s₀ s₁ mg mb G Y fa o pm cd doc dV kV ho hd hcd hD hmg hg args vals as hpre hlay hrd hwl hlo
 obtain rfl:dV=.none:=Dflts.none hD hdf
 obtain rfl:kV=.none:=Dflts.noKw hD
 obtain ⟨a,vs,ns,rfl,rfl,hobj,hints,hlen⟩:=Zng hn hpre hwl
 refine enter_call (codeAny_mono (call w s₀ s₁ mg mb fa o pm cd doc a vs ns G Y ho (fd_plain hd) hcd hmg hobj hints hlen hg) fun r s' hq=>?_)
 obtain ⟨rfl,h2,h3,h4⟩:=hq
 exact ⟨.inl ⟨.bool true,.bool true,[],rfl,fun _=>rfl,.bool true,ZnH l _,fun _=>⟨List.Pairwise.nil,fun _ hm=>(nomatch hm)⟩⟩,h2,h3,h4⟩
section
variable {prog:Program} {w:World} {A:Around} {E:Value->Shared->Prop} {s:Shared} {K:Frag}
end
end Att
namespace L2
open PySem PySem.Spec PyProof.Rows
theorem Zjf:∀ {vs:List Value} {ns:List Int},IntsAre vs ns->Vals (ns.map V.int) vs
 | _,_,.nil=>.nil
 | _,_,.cons n t h=>.cons ⟨t,rfl⟩ (Zjf h)
def ZrR (H:Hp):Prop:=∀ b,H b=none∨∃ o xs,H b=some (.frz o (.lst xs))
theorem Zob {P : Program} {w : World} {K : W.Frag} {mg mb : Str → Option Value} {CX : CXT} {k : Nat} {fa a : Addr} {fd : FuncData} {x : Str} {sp : Sp} {s₁ : Shared} {vs : List Value} {ns : List Int}
  (KX:K.In s₁.heap) (hns:s₁.heap.Ns mainGlobals mg) (hb:s₁.heap.Ns builtinsNs mb) (hbb:∀ x:Str,x≠"__name__"->mb x=bootBuiltins x) (hlim:s₁.heap.NoLimit) (hg:s₁.gens=#[])
  (ha:s₁.heap.get? a=some { cls:=.type "list",data:=.seq vs.toArray }) (hi:IntsAre vs ns) (hl:ns.length≤sizeLine) (hr:Room k callerA)
  (F:∀ base:Heap,K.In base->base.Ns mainGlobals mg->FnOk P w K mg base CX k fa fd [x] sp) (hbind:∀ (s:Shared) (u:Value),BindsTo s fd ⟨[u],[]⟩ [(x,u)])
  (hsp:∀ H:Hp,ZrR H->SqL K H a (ns.map V.int)->sp [.ref a] H (fun v _=>v=.bl true) fun _ _ _=>False)
  (hCX:∀ H e s',CX [] H s₁ (fun _ _ _=>False) e s'->False) :
  codeAny (model P w) callerA (.call (.ref fa) ⟨[.ref a],[]⟩) (fun r s'=>r=.ok (.ret (.bool true))∧OldK s₁.heap s'.heap∧s'.os=s₁.os∧AllBare s'.gens) s₁:=by
 have rv:=Zjf hi
 have lenV:=hi.length
 have core : ∀ H : Hp, ZrR H → SqL K H a (ns.map V.int) → HOk P w H s₁.heap → (∀ b, H b ≠ none → b=a) → (H a ≠ none → K.lookup a=none) →
   codeAny (model P w) callerA (.call (.ref fa) ⟨[.ref a],[]⟩) (fun r s'=>r=.ok (.ret (.bool true))∧OldK s₁.heap s'.heap∧s'.os=s₁.os∧AllBare s'.gens) s₁:=by
  intro H hO hS hok hA hK
  have base_of:∀ {b:Addr} {o:Obj},s₁.heap.get? b=some o->H b=none->(Zos s₁.heap H).get? b=some o:=fun e n=>ZoO e n
  have noA:∀ {b:Addr} {o:Obj} {es:Array DictEntry} {ep:Nat},s₁.heap.get? b=some o->o.data=.dict es ep->H b=none:=fun {b o es ep} e d=>by
   cases q:H b with
   | none=>rfl
   | some u =>
    have e':b=a:=hA b (by rw [q]; simp)
    subst e'
    rw [ha] at e; cases e
    have d':Data.seq vs.toArray _=Data.dict es ep:=d
    cases d'
  have nsK:∀ {b:Addr} {m:Str->Option Value},s₁.heap.Ns b m->(Zos s₁.heap H).Ns b m:=fun {b m} ⟨o,es,ep,e,d,r⟩=>⟨o,es,ep,base_of e (noA e d),d,r⟩
  have hKb:K.In (Zos s₁.heap H):=fun b o e=>base_of (KX b o e) (by
   cases q:H b with
   | none=>rfl
   | some u =>
    have e':b=a:=hA b (by rw [q]; simp)
    subst e'
    rw [hK (by rw [q]; simp)] at e; cases e)
  have hM:Mod K mg (Zos s₁.heap H):=⟨hKb,nsK hns,⟨mb,nsK hb,hbb⟩,let ⟨mc,h1,h2⟩:=hlim; ⟨mc,nsK h1,h2⟩⟩
  have e0:Env0 P w K mg (Zos s₁.heap H) callerA [] s₁ H:=⟨rfl,hM,fun b o e=>Zpy e,Nat.le_of_eq (ZnG _ _),trivial,fun b hb=>absurd (show b∈([]:List Addr) from hb) (by simp),hok,.of_eq hg⟩
  refine codeAny_mono ((F _ hKb (nsK hns)).run callerA [] s₁ H ⟨[.ref a],[]⟩ [.ref a] [.ref a] _ _ hr e0 (hbind s₁ (.ref a)) (.cons rfl .nil) (hsp H hO hS)) fun r s' h=>?_
  cases r with
  | error e=>exact (hCX H e s' h).elim
  | ok fl =>
   cases fl with
   | next=>exact False.elim h
   | brk=>exact False.elim h
   | cont=>exact False.elim h
   | ret u =>
    obtain ⟨v,H',os,bare,un,hok',r',q⟩:=h
    have q':v=.bl true:=q
    subst q'
    obtain rfl:u=Value.bool true:=r'
    refine ⟨rfl,OldK.of_keep fun b o e=>?_,os,bare⟩
    cases q:H b with
    | none=>exact un.keep b o e q (by intro z; exact absurd (show b∈([]:List Addr) from z) (by simp)) (by simp)
    | some u =>
     rcases hO b with z | ⟨ob,xs,z⟩
     ·rw [q] at z; cases z
     ·have z2:=un.frzs b ob _ z
      obtain ⟨e1,_⟩:=hok b _ z
      obtain ⟨e2,_⟩:=hok' b _ z2
      rw [e] at e1; cases e1
      exact e2
 cases hk:K.lookup a with
 | some o =>
  have e:=KX a o hk
  rw [ha] at e
  cases e
  refine core (fun _=>none) (fun _=>.inl rfl) (.inr ⟨_,vs.toArray,_,hk,rfl,rfl,rfl,by rw [List.size_toArray,lenV]; exact hl,by simpa using rv⟩) (fun b u z=>by have z':(none:Option HO)=some u:=z; cases z') (fun b z=>absurd rfl z) fun z=>absurd rfl z
 | none =>
  refine core (fun b=>if b=a then some (.frz { cls:=.type "list",data:=.seq vs.toArray } (.lst (ns.map V.int))) else none) (fun b=>?_) (.inl (.inr ⟨{ cls:=.type "list",data:=.seq vs.toArray },if_pos rfl⟩)) (fun b u z=>?_) (fun b z=>?_) fun _=>hk
  ·by_cases hb:b=a
   ·exact .inr ⟨_,_,if_pos hb⟩
   ·exact .inl (if_neg hb)
  ·by_cases hb:b=a
   ·have z':=(if_pos hb).symm.trans z
    cases z'
    subst hb
    exact ⟨ha,by rw [List.length_map]; exact hl,vs,_,rv,ha⟩
   ·have z':=(if_neg hb).symm.trans z
    cases z'
  ·by_cases hb:b=a
   ·exact hb
   ·exact absurd (if_neg hb) z
theorem walk_of {l : W.OpenLaw} {n k : Nat} {q : Program} {loose : List Str} {XP : (Str → Option Value) → Heap → Prop} {YP : World → Heap → Prop} {d : DefRec} {K : Params → W.Frag} {CX : World → CXT} {sp : World → Sp} {x : Str}
  (hn:l.most=some n) (hn2:n≤sizeLine) (hdf:d.params.defaults=[]) (hr:Room k callerA)
  (hY:∀ (w:World) (h:Heap),YP w h->(K w.params).In h)
  (F:∀ (w:World) (mg:Str->Option Value) (fa:Addr) (h:Heap),(K w.params).In h->h.Ns mainGlobals mg->mg d.name=some (.ref fa) →
   ∃ fd:FuncData,(∀ (s:Shared) (u:Value),BindsTo s fd ⟨[u],[]⟩ [(x,u)]) ∧
    ∀ base:Heap,(K w.params).In base->base.Ns mainGlobals mg->FnOk l.prog w (K w.params) mg base (CX w) k fa fd [x] (sp w))
  (hsp:∀ (w:World) (H:Hp) (a:Addr) (ns:List Int),ns.length≤n->ZrR H->SqL (K w.params) H a (ns.map V.int)->sp w [.ref a] H (fun v _=>v=.bl true) fun _ _ _=>False)
  (hCX:∀ (w:World) (H:Hp) (s:Shared) (e:Value) (s':Shared),CX w [] H s (fun _ _ _=>False) e s'->False) :
  W.WalkO q loose XP YP l.row.toRowW d [] (fun f vs=>PySem.call f vs):=by
 refine Att.attach_call hn hdf fun w s₀ s₁ mg mb fa o pm cd doc a vs ns G Y ho hd hcd hmg hobj hints hlen hg=>?_
 have KX:=hY w _ Y
 obtain ⟨fd,hb,hF⟩:=F w mg fa _ KX G.T.g hmg
 exact Zob KX G.T.g G.T.b G.T.builtins G.T.nolimit hg hobj hints (Nat.le_trans hlen hn2) hr hF hb (fun H hO hS=>hsp w H a ns hlen hO hS) fun H e s'=>hCX w H s₁ e s'
noncomputable def Zb6 (s:Stmt) (j:Nat):Stmt:=match s with
 | .ClassDef _ _ _ body _ _ _ _ _ _ _=>body.getD j (.Pass ⟨0,0,0,0⟩)
 | _=>.Pass ⟨0,0,0,0⟩
noncomputable def Zcb (s:Stmt):Arguments:=match s with
 | .FunctionDef _ a _ _ _ _ _ _ _ _=>a
 | _=>{ posonlyargs:=[],args:=[],vararg:=none,kwonlyargs:=[],kw_defaults:=[],kwarg:=none,defaults:=[] }
noncomputable def ZbS (s:Stmt):List Stmt:=match s with
 | .FunctionDef _ _ b _ _ _ _ _ _ _=>b
 | _=>[]
noncomputable def Zap (s:Stmt):Scope:=match s with
 | .FunctionDef _ _ _ _ _ _ sc _ _ _=>sc
 | _=>{ kind:=.function,names:=[],isGenerator:=false,isCoroutine:=false }
abbrev E0:XK:=fun _ _ _=>False
structure Fun (K:W.Frag) (x qual:Str) (st:Stmt) (f:Addr) (fd:FuncData):Prop where
 ex:∃ (oc:Value) (od:Option Addr) (kV doc pm:Value) (an:Option Addr) (cdv ct:Value) (osl:Array (Option Value)),
  fd=W.fnOf x qual (Zcb st) (ZbS st) (Zap st) .none kV doc pm an cdv ct∧K.lookup f=some ⟨oc,od,.func fd,osl⟩∧W.codeIn K cdv qual=true
 kp:W.keepIn K (.ref f)=true
section
variable {P:Program} {w:World} {K:W.Frag} {mg:Str->Option Value} {base:Heap}
theorem Fun.binds {x qual : Str} {st : Stmt} {f : Addr} {fd : FuncData} {ps : List Str} (F : Fun K x qual st f fd)
  (h:∀ (kV doc pm:Value) (an:Option Addr) (cdv ct:Value) (us:List Value),us.length=ps.length->bindArgs (W.fnOf x qual (Zcb st) (ZbS st) (Zap st) .none kV doc pm an cdv ct) ⟨us,[]⟩=pure (ps.zip us)):Binds K fd ps []:=by
 obtain ⟨oc,od,kV,doc,pm,an,cdv,ct,osl,rfl,lk,hcd⟩:=F.ex
 exact .all (h kV doc pm an cdv ct)
theorem ZqN {x qual : Str} {st : Stmt} {f : Addr} {oc : Value} {od an : Option Addr} {osl : Array (Option Value)} {kV doc pm cdv ct : Value} (l : K.lookup f=some ⟨oc, od, .func (W.fnOf x qual (Zcb st) (ZbS st) (Zap st) .none kV doc pm an cdv ct), osl⟩)
  (c:W.codeIn K cdv qual=true) (k:W.keepIn K (.ref f)=true):Fun K x qual st f (W.fnOf x qual (Zcb st) (ZbS st) (Zap st) .none kV doc pm an cdv ct):=⟨⟨oc,od,kV,doc,pm,an,cdv,ct,osl,rfl,l,c⟩,k⟩
end
theorem Zc0 {A:Around} {k:Nat} (hr:Room k A):A.units+1<cLine:=Nat.lt_of_le_of_lt (Nat.add_le_add_left (by decide:1≤64) _) hr.units
theorem Zam {n:Nat} (h:n≤1000):n<sizeLine:=Nat.lt_of_le_of_lt h (by decide)
section
variable {X:Cx}
theorem pv (i : Nat) {x : Str} {pos : Pos} (hN : X.N[i]?=some x := by rfl) (hv : Vis X.env.scope x := by first | exact Or.inl rfl | exact Or.inr (Or.inl rfl) | exact Or.inr (Or.inr rfl)) (hd : (x == ("__debug__" : Str))=false := by decide)
  (hcd:(x == ("__classdict__" : Str))=false:=by decide):PE X (.Name x pos) (Zqu i):=Zpn hN hv hd hcd
theorem Zmz:Zdo X (.builtin "len") (fun xs H Q=>∃ a kvs,xs=[V.ref a]∧H a=some (.dK kvs)∧Q (.int kvs.length) H):=by
 intro pins s σ H xs us Q I r h
 obtain ⟨a,kvs,rfl,ha,q⟩:=h
 obtain ⟨u,rfl,ru⟩:=ZeF r
 cases ru
 exact Zr5 I (.inl ha) fun t s' I'=>⟨.int kvs.length,H,I',⟨t,rfl⟩,q⟩
end
theorem Zb2 {A B:Prop} (h:B):if false=true then A else B:=by
 rw [if_neg Bool.false_ne_true]
 exact h
theorem ZcF {A B:Prop} (h:A):if true=true then A else B:=by
 rw [if_pos rfl]
 exact h
def Same (H H':Hp):Prop:=∀ b o,H b=some o->H' b=some o
theorem Same.refl (H:Hp):Same H H:=fun _ _ h=>h
theorem Same.trans {H H1 H2:Hp} (a:Same H H1) (b:Same H1 H2):Same H H2:=fun c o h=>b c o (a c o h)
section
variable {κ:Type} [DecidableEq κ]
end
end L2
set_option maxHeartbeats 4000000
namespace L2
open PySem PySem.Spec PyProof.Rows
section
variable {P:Program} {w:World} {H H':Hp} {h h':Heap} {a:Addr} {o:HO}
theorem ObjOk.there (x:ObjOk P w H h a o):∃ q,h.get? a=some q:=by
 cases o with
 | lst xs=>obtain ⟨_,_,_,_,e⟩:=x; exact ⟨_,e⟩
 | tup xs=>obtain ⟨_,_,_,q,e,_⟩:=x; exact ⟨q,e⟩
 | dK kvs=>obtain ⟨_,_,_,_,q,_,_,e,_⟩:=x; exact ⟨q,e⟩
 | dT kvs=>obtain ⟨_,_,_,_,q,_,_,e,_⟩:=x; exact ⟨q,e⟩
 | set S n=>obtain ⟨q,_,_,_,e,_⟩:=x; exact ⟨q,e⟩
 | ins C dx fs=>obtain ⟨_,_,_,e,_⟩:=x; exact ⟨_,e⟩
 | own y=>exact x
 | xd fs=>obtain ⟨_,⟨q,_,_,e,_⟩,_⟩:=x; exact ⟨q,e⟩
 | rng lo hi=>obtain ⟨_,_,_,e⟩:=x; exact ⟨_,e⟩
 | frz ob u=>obtain ⟨e,_⟩:=x; exact ⟨_,e⟩
 | tbl ps=>exact ⟨_,x⟩
 | met f y=>exact ⟨_,x⟩
 | ext φ=>obtain ⟨_,e,_⟩:=x; exact e
theorem HOk.lean (x:HOk P w H h) (k:∀ b u,H b≠none->h.get? b=some u->h'.get? b=some u):HOk P w H h':=fun b u e =>
 (x b u e).stay (fun c v hc q=>k c v (by
  rcases hc with rfl | hc
  ·rw [e]; simp
  ·rw [hc]; simp) q) (fun _ q=>q) fun _ _ q=>q
end
structure Flies (P:Program) (w:World) (outer:List Env) (H H':Hp) (s s':Shared) (e:Addr) (cls:Value):Prop where
 os:s'.os=s.os
 bare:AllBare s'.gens
 un:Un (frs outer) [] H H' s.heap s'.heap
 fly:∃ B a0,Heap.FlyingW B outer e cls a0 s'.heap∧HOk P w H' B∧(∀ b o,s.heap.get? b=some o->H b=none->b ∉ frs outer->B.get? b=some o) ∧
  ∀ b o,s.heap.get? b=some o->b ∉ frs outer->∃ o',B.get? b=some o'
noncomputable def CX1 (P:Program) (w:World):CXT:=fun outer H s E u s'=>∃ e cls H',u=.ref e∧Flies P w outer H H' s s' e cls∧E cls none H'
section
variable {X:Cx} {pins:List (Addr × Obj)} {σ:St} {H H':Hp} {s s':Shared} {e:Addr} {cls:Value}
theorem Flies.inv (f:Flies X.prog X.w X.stack H H' s s' e cls) (I:Inv X pins σ H s):Inv X pins σ H' s':=by
 obtain ⟨B,a0,fl,hB,_,_⟩:=f.fly
 exact I.call' (ch:=[]) f.os f.un (hB.kept fl.1) f.bare (fun b z=>absurd z (by simp))
theorem Inv.nst (I:Inv X pins σ H s) {b:Addr} {o:Obj} (q:X.s₀.heap.get? b=some o) (hb:b ∉ X.fs):b ∉ frs X.stack:=fun z=>by
 rcases List.mem_cons.mp (I.stkSub b z) with y | y
 ·exact absurd (Nat.lt_of_lt_of_le (Heap.lt_size q) I.ok.above) (by rw [y]; exact Nat.lt_irrefl _)
 ·exact hb y
theorem Flies.leaves {M : Model} {Q : Unit → Shared → Prop} {E : Value → Shared → Prop} (f : Flies X.prog X.w X.stack H H' s s' e cls) (I : Inv X pins σ H s)
  (hs:X.stack=X.env :: X.outer) (hf:X.env.frame=some X.env.locals) (hx:X.ex=[])
  (hQ:∀ s'',Flies X.prog X.w X.outer X.H₀ H' X.s₀ s'' e cls->Q () s''):wpAny M X.A (leaving X.env (.ref e)) Q E s':=by
 have J:=f.inv I
 obtain ⟨B,a0,fl,hB,kB,tB⟩:=f.fly
 rw [hs] at fl
 have nx:∀ b:Addr,b ∉ X.ex:=fun b=>by rw [hx]; simp
 refine wpAny_leaves_onW (by rw [I.ok.frames,hs]) hf fl fun h' fl' up=>hQ _ ?_
 have slot:∀ b o,X.s₀.heap.get? b=some o->b∈X.fs->∃ sl,h'.get? b=some { o with slots:=sl }:=fun b o q hb=>by
  obtain ⟨sl,e1⟩:=J.base.slot b o q (I.ok.frf b hb) hb (nx b)
  obtain ⟨_,o',ho',hn⟩:=J.funs.mem hb
  rw [e1] at ho'
  cases ho'
  obtain ⟨sl',e2⟩:=up b _ e1 hn
  exact ⟨sl',e2⟩
 have keepB:∀ b o,X.s₀.heap.get? b=some o->X.H₀ b=none->b ∉ X.fs->B.get? b=some o:=fun b o q n hb =>
  kB b o (I.base.keep b o q n hb (nx b)) (I.base.free b o q n (nx b)) (I.nst q hb)
 have thereB:∀ b o,X.s₀.heap.get? b=some o->b ∉ X.fs->∃ o',B.get? b=some o':=fun b o q hb=>by
  obtain ⟨o1,e1⟩:=I.base.there b o q (nx b)
  exact tB b o1 e1 (I.nst q hb)
 refine ⟨J.os,J.bare,⟨fun b o q n hb _=>fl'.1 b o (keepB b o q n hb),fun b o q _ hb _=>slot b o q hb,fun b o q n _=>J.base.free b o q n (nx b),fun b o q _=>?_,J.base.tups,J.base.frzs,J.base.tbls⟩,
  B,a0,fl',hB,keepB,thereB⟩
 by_cases hb:b∈X.fs
 ·obtain ⟨sl,e2⟩:=slot b o q hb
  exact ⟨_,e2⟩
 ·obtain ⟨o1,e1⟩:=thereB b o q hb
  exact ⟨o1,fl'.1 b o1 e1⟩
theorem Zkw {M : Model} {Q : Unit → Shared → Prop} {E : Value → Shared → Prop} {h1 : Heap} {vs : List Value} (I : Inv X pins σ H s) (mk : Heap.MadeExcOf s.heap h1 e cls vs)
  (hs:X.stack=X.env :: X.outer) (hf:X.env.frame=some X.env.locals) (hx:X.ex=[])
  (hQ:∀ s'',Flies X.prog X.w X.outer X.H₀ H X.s₀ s'' e cls->Q () s''):wpAny M X.A (leaving X.env (.ref e)) Q E { s with heap:=h1 }:=by
 have nx:∀ b:Addr,b ∉ X.ex:=fun b=>by rw [hx]; simp
 have hid:∀ b o,s.heap.get? b=some o->b ∉ frs X.stack->(W.hideAll s.heap (frs X.stack)).get? b=some o:=fun b o q n=>W.hideAll_get _ q n
 have FF:s.heap.FunFrames (W.hideAll s.heap (frs X.stack)) X.stack :=
  W.funFrames_hide I.stack fun env he a ha=>List.mem_filterMap.mpr ⟨env,he,ha⟩
 have hB:HOk X.prog X.w H (W.hideAll s.heap (frs X.stack)):=I.hok.lean fun b u n q=>hid b u q fun z=>n (I.stkFree b z)
 have sub:∀ b o,(W.hideAll s.heap (frs X.stack)).get? b=some o->s.heap.get? b=some o:=fun b o q=>W.of_hideAll _ q
 generalize W.hideAll s.heap (frs X.stack)=B at *
 rw [hs] at FF
 refine wpAny_leaves_madeW (s:={ s with heap:=h1 }) (by rw [I.ok.frames,hs]) hf sub FF mk fun h' t fl' _ _ up=>hQ _ ?_
 have slot:∀ b o,X.s₀.heap.get? b=some o->b∈X.fs->∃ sl,h'.get? b=some { o with slots:=sl }:=fun b o q hb=>by
  obtain ⟨sl,e1⟩:=I.base.slot b o q (I.ok.frf b hb) hb (nx b)
  obtain ⟨_,o',ho',hn⟩:=I.funs.mem hb
  rw [e1] at ho'
  cases ho'
  obtain ⟨sl',e2⟩:=up b _ (mk.keeps _ _ e1) hn
  exact ⟨sl',e2⟩
 have keepB:∀ b o,X.s₀.heap.get? b=some o->X.H₀ b=none->b ∉ X.fs->B.get? b=some o:=fun b o q n hb =>
  hid b o (I.base.keep b o q n hb (nx b)) (I.nst q hb)
 have thereB:∀ b o,X.s₀.heap.get? b=some o->b ∉ X.fs->∃ o',B.get? b=some o':=fun b o q hb=>by
  obtain ⟨o1,e1⟩:=I.base.there b o q (nx b)
  exact ⟨o1,hid b o1 e1 (I.nst q hb)⟩
 refine ⟨I.os,I.bare,⟨fun b o q n hb _=>fl'.1 b o (keepB b o q n hb),fun b o q _ hb _=>slot b o q hb,fun b o q n _=>I.base.free b o q n (nx b),fun b o q _=>?_,I.base.tups,I.base.frzs,I.base.tbls⟩,
  _,_,fl',hB,keepB,thereB⟩
 by_cases hb:b∈X.fs
 ·obtain ⟨sl,e2⟩:=slot b o q hb
  exact ⟨_,e2⟩
 ·obtain ⟨o1,e1⟩:=thereB b o q hb
  exact ⟨o1,fl'.1 b o1 e1⟩
end
abbrev XS:=St->XK
def ZdJ (CX:CXT) (X:Cx) (E:XS):Prop:=∀ (pins:List (Addr × Obj)) (σ:St) (H:Hp) (s:Shared) (e:Value) (s':Shared),Inv X pins σ H s->CX X.stack H s (E σ) e s'->X.xe e s'
def Zo9 (X:Cx) (E:XS):Prop:=∀ (pins:List (Addr × Obj)) (σ:St) (H:Hp) (s:Shared) (h1:Heap) (e:Addr) (cls:Value) (vs:List Value),Inv X pins σ H s->Heap.MadeExcOf s.heap h1 e cls vs->E σ cls none H->X.xe (.ref e) { s with heap:=h1 }
theorem Zak {P:Program} {w:World} {X:Cx}:ZdJ (CX1 P w) X (fun _=>E0):=fun _ _ _ _ _ _ _ ⟨_,_,_,_,_,z⟩=>False.elim z
section
variable {P:Program} {w:World} {K:W.Frag} {mg:Str->Option Value} {base:Heap} {N:List Str} {qual:Str} {scope:Scope} {f:Addr} {cd:Value} {A:Around} {outer:List Env} {s:Shared} {H:Hp} {E:XK}
theorem ZbT:ZdJ (CX1 P w) (Zoh (CX1 P w) P w K mg base N qual scope f cd A outer s H E) (fun _=>E):=by
 rintro pins σ H1 s1 u s' I ⟨e,cls,H',rfl,fl,q⟩
 exact fl.leaves I rfl rfl rfl fun s'' f''=>⟨e,cls,H',rfl,f'',q⟩
theorem ZdK:Zo9 (Zoh (CX1 P w) P w K mg base N qual scope f cd A outer s H E) (fun _=>E):=by
 intro pins σ H1 s1 h1 e cls vs I mk q
 exact Zkw I mk rfl rfl rfl fun s'' f''=>⟨e,cls,H1,rfl,f'',q⟩
end
section
variable {X:Cx} {CX:CXT} {k:Nat} {f C:Addr} {fd:FuncData} {ps:List Str} {sp:Sp} {dvs:List V} {ds:List Value} {E:XS} {x m:Str} {p pos apos:Pos} {e o:Expr} {es:List Expr} {ta:TE} {t:TA}
def Zrh (sp:Sp) (dvs:List V) (E:XS) (t:TA):TE:=fun σ H Q=>t σ H fun vs H1=>sp (vs++dvs) H1 Q (E σ)
theorem ZkQ {pins : List (Addr × Obj)} {σ : St} {H : Hp} {s : Shared} {Q : VK} {us : List Value} {vs : List V} (F : FnOk X.prog X.w X.K X.mg X.base CX k f fd ps sp) (hr : Room k X.A) (hb : Binds X.K fd ps ds) (hd : Vals dvs ds) (hx : ZdJ CX X E)
  (I:Inv X pins σ H s) (r:Vals vs us) (h:sp (vs++dvs) H Q (E σ)):wpAny (model X.prog X.w) X.A (call (.ref f) us) (EP X pins σ Q) X.xe s:=by
 have r2:Vals (vs++dvs) (us++ds):=r.append hd
 have hl:(us++ds).length=ps.length:=by rw [← r2.length]; exact F.len _ _ _ _ h
 refine wpAny_call (codeAny_mono (F.run X.A X.stack s H ⟨us,[]⟩ (us++ds) (vs++dvs) Q (E σ) hr I.env0 (hb s us I.kIn hl) r2 h) fun r s' hq=>?_)
 cases r with
 | error e=>exact hx pins σ H s e s' I hq
 | ok fl =>
  cases fl with
  | ret u=>exact I.after hq
  | next=>exact False.elim hq
  | brk=>exact False.elim hq
  | cont=>exact False.elim hq
theorem ZaB (F : FnOk X.prog X.w X.K X.mg X.base CX k f fd ps sp) (hr : Room k X.A) (hg : Gl X x) (hm : X.mg x=some (.ref f)) (hk : W.keepIn X.K (.ref f)=true) (hb : Binds X.K fd ps ds) (hd : Vals dvs ds) (hx : ZdJ CX X E)
  (ha:PA X (e :: es) t) (hdb:(x == ("__debug__" : Str))=false:=by decide) (he:starEach (e :: es) X.env=(false,eval e X.env) :: starEach es X.env:=by rfl) (hpl:(backTo pos (starEach es X.env)).any (·.1)=false:=by rfl) :
  PE X (.Call (.Name x p) (e :: es) [] pos) (Zrh sp dvs E t):=by
 intro pins s σ H Q I h
 refine wpAny_Call_Name_kw (ZiB I hg hm ?_ hdb)
 refine W.callWith_K (h₀:=X.base) I.ok.mod.kin hk (thn (ha pos pins s σ H _ I h) fun us s1 ⟨vs,H1,I1,r,q⟩=>⟨I1.kIn,?_⟩) he hpl
 exact ZkQ F hr hb hd hx I1 r q
end
section
variable {K:W.Frag} {h:Heap} {C:Addr} {bmB:List Value} {newId:String}
theorem Zph (X : K.In h) (q : W.excIn K C bmB newId=true) : ∃ bm N nm qn bs hdct sn sub ab col dd k0 k1 k2 k3 k5 mN,
  h.get? C=some (excClassObj nm qn C N bs bm hdct sn sub ab col dd k0 k1 k2 k3 k5 newId)∧h.Ns N mN∧mN "__init__"=none∧OwnTail h bmB bm:=by
 unfold W.excIn at q
 split at q
 case h_2=>cases q
 case h_1 dict0 cdat slots0 found =>
  split at q
  case h_2=>cases q
  case h_1 C1 rest0 s0 s1 s2 s3 nid s5 mroEq slEq =>
   simp only [Bool.and_eq_true,beq_iff_eq,Bool.not_eq_true'] at q
   have q1:=q.1.1.1.1.1
   have q2:=q.1.1.1.1.2
   have q3:=q.1.1.1.2
   have q4:=q.1.1.2
   have q5:=q.1.2
   have q6:=q.2
   subst q1 q2
   cases cdat with
   | mk nmX basesX mroX nsX qualX hdX snX subX abX colX delX =>
    dsimp only at mroEq q3 q5 q6
    subst mroEq
    subst q3
    have es:slots0=#[s0,s1,s2,s3,some (.builtin nid),s5]:=by
     cases slots0 with
     | mk l=>exact congrArg _ slEq
    subst es
    exact ⟨rest0,nsX,nmX,qualX,basesX,hdX,snX,subX,abX,colX,dict0,s0,s1,s2,s3,s5,_,X _ _ found,.of_isNs (W.isNs_of_in X q5),W.nsMap_none_of_in X q5 q6,W.tail_of_in X q4⟩
end
section
variable {X:Cx} {x:Str} {C:Addr} {np cpos pos:Pos} {e₀:Expr} {rest:List Expr} {t:TA} {bmB:List Value} {newId B initId:String} {E:XS}
def ZqV (C:Addr) (E:XS) (t:TA):TS:=fun _ σ H=>t σ H fun vs H1=>vs.length≤sizeLine∧E σ (.ref C) none H1
theorem Zdu (hg : Gl X x) (hm : X.mg x=some (.ref C)) (q : W.excIn X.K C bmB newId=true) (FB : ExcBaseFacts B newId initId bmB) (hc : X.calm=true) (hx : Zo9 X E) (ha : PA X (e₀ :: rest) t)
  (hd:(x == ("__debug__" : Str))=false:=by decide) (he:starEach (e₀ :: rest) X.env=(false,eval e₀ X.env) :: starEach rest X.env:=by rfl) (hpl:(backTo cpos (starEach rest X.env)).any (·.1)=false:=by rfl) :
  PS X (.Raise (some (.Call (.Name x np) (e₀ :: rest) [] cpos)) none pos) (ZqV C E t):=by
 intro pins s σ H D I h
 obtain ⟨bm,N,nm,qn,bs,hdct,sn,sub,ab,col,dd,k0,k1,k2,k3,k5,mN,hC,hN,hni,T⟩:=Zph I.mod.kin q
 have hpl':(backTo cpos (starEach (e₀ :: rest) X.env)).any (·.1)=false:=by
  rw [he]
  exact hpl
 refine wpAny_Raise_call_subT (C:=C) (nm:=nm) (q:=qn) (N:=N) (bs:=bs) (bm:=bm) (hdct:=hdct) (sn:=sn) (sub:=sub) (ab:=ab) (col:=col) (dd:=dd) (k0:=k0) (k1:=k1) (k2:=k2)
  (k3:=k3) (k5:=k5) FB (mN:=mN) (T.hasType FB.hasBase) (I.ok.hd hc) hpl' hni (ZiB I hg hm ⟨rfl,?_⟩ hd)
 have g:=ha cpos pins s σ H _ I h
 rw [he] at g ⊢
 refine Calls.evalArgs_plain (wpAny_mono g (fun us s1 r1=>?_) fun _ _ y=>y)
 obtain ⟨vs,H1,I1,rv,z,q1⟩:=r1
 exact ⟨rfl,by rw [← rv.length]; exact z,I1.bk _ _ hC,hN.keeps I1.bk,T.keeps I1.bk,fun h1 e mk=>hx pins σ H1 s1 h1 e (.ref C) us I1 mk q1⟩
end
def ZoZ (cls:Value) (e:Addr):Heap->Prop:=fun h=>∃ o vs,h.get? e=some o∧o.cls=cls∧o.data=.fields vs
noncomputable def Zkq (cls:Value) (e:Addr):HO:=.ext (ZoZ cls e)
section
variable {P:Program} {w:World} {H H':Hp} {h h':Heap} {a:Addr} {o:HO}
theorem HOk.track (x:HOk P w H h) (n:H a=none) (new:ObjOk P w (upd H a o) h a o):HOk P w (upd H a o) h:=fun b u e=>by
 by_cases hb:b=a
 ·subst hb
  rw [Zab] at e
  cases e
  exact new
 ·rw [Zai hb] at e
  exact (x b u e).stay (fun _ _ _ q=>q) (fun c q=>by rw [Zai (Zal q n)]; exact q) fun c xs q=>by rw [Zai (Zal q n)]; exact q
theorem Zqf {cls:Value} {e:Addr} (x:ZoZ cls e h):ObjOk P w H h e (Zkq cls e):=by
 obtain ⟨ob,vs,h1,h2,h3⟩:=id x
 exact ⟨x,⟨ob,h1⟩,fun g1 g2 ⟨o1,vs1,z1,z2,z3⟩ k=>⟨o1,vs1,k o1 z1,z2,z3⟩⟩
end
section
variable {P:Program} {w:World} {outer:List Env} {H H':Hp} {s s':Shared} {e:Addr} {cls:Value}
theorem Flies.move (f : Flies P w outer H H' s s' e cls) : ∃ B a0, Heap.FlyingW B outer e cls a0 s'.heap ∧
  ∀ h5,Heap.FlyingW B outer e cls a0 h5->s'.heap.UpToSlots h5->Flies P w outer H H' s { s' with heap:=h5 } e cls:=by
 obtain ⟨B,a0,fl,hB,kB,tB⟩:=f.fly
 refine ⟨B,a0,fl,fun h5 fl5 up=>⟨f.os,f.bare,⟨fun b o q n hb _=>fl5.1 b o (kB b o q n hb),fun b o q n hb hx=>?_,f.un.free,fun b o q hx=>?_,f.un.tups,f.un.frzs,f.un.tbls⟩,B,a0,fl5,hB,kB,tB⟩⟩
 ·obtain ⟨sl,e1⟩:=f.un.slot b o q n hb hx
  obtain ⟨_,o',ho',hn⟩:=fl.2.2.1.mem hb
  rw [e1] at ho'
  cases ho'
  obtain ⟨sl',e2⟩:=up b _ e1 hn
  exact ⟨sl',e2⟩
 ·by_cases hb:b∈frs outer
  ·obtain ⟨_,o',ho',hn⟩:=fl.2.2.1.mem hb
   obtain ⟨sl',e2⟩:=up b _ ho' hn
   exact ⟨_,e2⟩
  ·obtain ⟨o1,e1⟩:=tB b o q hb
   exact ⟨o1,fl5.1 b o1 e1⟩
theorem Flies.new (f:Flies P w outer H H' s s' e cls):H' e=none∧s.heap.get? e=none∧ZoZ cls e s'.heap:=by
 obtain ⟨B,a0,fl,hB,kB,tB⟩:=f.fly
 obtain ⟨oe,vs,h1,h2,h3,_⟩:=fl.first
 refine ⟨?_,?_,oe,vs,h1,h2,h3⟩
 ·cases q:H' e with
  | none=>rfl
  | some u =>
   obtain ⟨o1,e1⟩:=(hB e u q).there
   rw [fl.2.1] at e1
   cases e1
 ·cases q:s.heap.get? e with
  | none=>rfl
  | some u =>
   by_cases hb:e∈frs outer
   ·obtain ⟨_,o',ho',hn⟩:=fl.2.2.1.mem hb
    rw [h1] at ho'
    cases ho'
    exact absurd h3 (hn vs)
   ·obtain ⟨o1,e1⟩:=tB e u q hb
    rw [fl.2.1] at e1
    cases e1
end
section
variable {X:Cx} {pins:List (Addr × Obj)} {σ:St} {H H':Hp} {s s':Shared} {e:Addr} {cls:Value}
theorem Flies.caught (f:Flies X.prog X.w X.stack H H' s s' e cls) (I:Inv X pins σ H s):Inv X pins σ (upd H' e (Zkq cls e)) s':=by
 obtain ⟨n1,n2,ex⟩:=f.new
 have J:=f.inv I
 have ne:∀ b o,s.heap.get? b=some o->b≠e:=fun b o q z=>by
  rw [z,n2] at q
  cases q
 refine I.call' (ch:=[]) f.os ⟨f.un.keep,f.un.slot,fun b o q n hx=>?_,f.un.there,fun b xs q=>?_,fun b o u q=>?_,fun b ps q=>?_⟩ (J.hok.track n1 (Zqf ex)) f.bare (fun b z=>absurd z (by simp))
 ·rw [Zai (ne b o q)]
  exact f.un.free b o q n hx
 ·have z:=f.un.tups b xs q
  rw [Zai (Zal z n1)]
  exact z
 ·have z:=f.un.frzs b o u q
  rw [Zai (Zal z n1)]
  exact z
 ·obtain ⟨more,z⟩:=f.un.tbls b ps q
  exact ⟨more,by rw [Zai (Zal z n1)]; exact z⟩
end
noncomputable abbrev Cx.tryIn (X:Cx) (pins:List (Addr × Obj)) (W:Value->Shared->Prop):Cx:={ X with pn:=X.pn++pins,xe:=W }
noncomputable abbrev Cx.suite (X:Cx) (pins:List (Addr × Obj)) (e:Addr):Cx:={ X with pn:=X.pn++pins,A:=X.A.mark (some (.ref e)),calm:=false,xe:=fun _ _=>False }
section
variable {X:Cx} {pins pins':List (Addr × Obj)} {σ:St} {H H':Hp} {s s':Shared} {W:Value->Shared->Prop} {e:Addr}
theorem Inv.tryIn (I:Inv X pins σ H s) (W:Value->Shared->Prop):Inv (X.tryIn pins W) [] σ H s :=
 ⟨⟨I.ok.mod,I.ok.kind,I.ok.glob,I.ok.blt,I.ok.above,I.ok.inj,I.ok.has,I.ok.cab,I.ok.hd,I.ok.frames,I.ok.stk,I.ok.exf,I.ok.bs,I.ok.bsz,I.ok.noex,I.ok.exfs,I.ok.funs,I.ok.frf⟩,
  I.os,I.bare,I.base,I.loc,I.cell,I.free,I.freeC,fun p hp=>I.pin p (by rw [List.append_nil] at hp; exact hp),I.hok,I.len⟩
theorem Inv.untry (I:Inv (X.tryIn pins W) pins' σ H s):Inv X pins σ H s :=
 ⟨⟨I.ok.mod,I.ok.kind,I.ok.glob,I.ok.blt,I.ok.above,I.ok.inj,I.ok.has,I.ok.cab,I.ok.hd,I.ok.frames,I.ok.stk,I.ok.exf,I.ok.bs,I.ok.bsz,I.ok.noex,I.ok.exfs,I.ok.funs,I.ok.frf⟩,
  I.os,I.bare,I.base,I.loc,I.cell,I.free,I.freeC,fun p hp=>I.pin p (List.mem_append_left _ hp),I.hok,I.len⟩
theorem Inv.suite (I:Inv X pins σ H s) (e:Addr):Inv (X.suite pins e) [] σ H s :=
 ⟨⟨I.ok.mod,I.ok.kind,I.ok.glob,I.ok.blt,I.ok.above,I.ok.inj,I.ok.has,I.ok.cab,(fun z=>nomatch z),I.ok.frames,I.ok.stk,I.ok.exf,I.ok.bs,I.ok.bsz,I.ok.noex,I.ok.exfs,I.ok.funs,I.ok.frf⟩,
  I.os,I.bare,I.base,I.loc,I.cell,I.free,I.freeC,fun p hp=>I.pin p (by rw [List.append_nil] at hp; exact hp),I.hok,I.len⟩
theorem Inv.unsuite (I:Inv (X.suite pins e) pins' σ H s) (hd:X.calm=true->X.A.handled=none):Inv X pins σ H s :=
 ⟨⟨I.ok.mod,I.ok.kind,I.ok.glob,I.ok.blt,I.ok.above,I.ok.inj,I.ok.has,I.ok.cab,hd,I.ok.frames,I.ok.stk,I.ok.exf,I.ok.bs,I.ok.bsz,I.ok.noex,I.ok.exfs,I.ok.funs,I.ok.frf⟩,
  I.os,I.bare,I.base,I.loc,I.cell,I.free,I.freeC,fun p hp=>I.pin p (List.mem_append_left _ hp),I.hok,I.len⟩
theorem SP.untry {D:Ends} {f:Flow} (h:SP (X.tryIn pins W) pins' D f s'):SP X pins D f s':=by
 cases f with
 | next=>obtain ⟨σ',H',I,q⟩:=h; exact ⟨σ',H',I.untry,q⟩
 | brk=>obtain ⟨σ',H',I,q⟩:=h; exact ⟨σ',H',I.untry,q⟩
 | cont=>obtain ⟨σ',H',I,q⟩:=h; exact ⟨σ',H',I.untry,q⟩
 | ret u=>obtain ⟨v,σ',H',I,r,q⟩:=h; exact ⟨v,σ',H',I.untry,r,q⟩
theorem SP.unsuite {D:Ends} {f:Flow} (hd:X.calm=true->X.A.handled=none) (h:SP (X.suite pins e) pins' D f s'):SP X pins D f s':=by
 cases f with
 | next=>obtain ⟨σ',H',I,q⟩:=h; exact ⟨σ',H',I.unsuite hd,q⟩
 | brk=>obtain ⟨σ',H',I,q⟩:=h; exact ⟨σ',H',I.unsuite hd,q⟩
 | cont=>obtain ⟨σ',H',I,q⟩:=h; exact ⟨σ',H',I.unsuite hd,q⟩
 | ret u=>obtain ⟨v,σ',H',I,r,q⟩:=h; exact ⟨v,σ',H',I.unsuite hd,r,q⟩
theorem Zft {M : Model} {A : Around} {E : Value → Shared → Prop} {i : Nat} {x : Str} {pos : Pos} {Q : Unit → Shared → Prop} (I : Inv X pins σ H s) (hN : X.N.Nodup) (hi : X.N[i]?=some x) (hk : X.env.scope.names.lookup x=some .local)
  (h:∀ s',Inv X pins (σ.set i none) H s'->Q () s'):wpAny M A (do bindName X.env x .none; unbindBehindTheSuite X.env x pos) Q E s:=by
 obtain ⟨m,hn,hl⟩:=id I.loc
 have hcls:(X.env.scope.kind == .class||(X.env.scope.kind == .module&&X.env.locals != X.env.globals))=false:=by rw [I.ok.kind]; rfl
 have hiσ:i<σ.length:=by rw [I.len]; exact (List.getElem?_eq_some_iff.mp hi).1
 have cne:=I.cne
 refine wpAny_nameGoes_keeps hk hn hcls fun h' v hn' hs=>h _ ?_
 obtain ⟨oL,_,_,hoL,_⟩:=id hn
 refine ⟨I.ok,I.os,I.bare,⟨fun b o e n hb hx=>?_,fun b o e n hb hx=>?_,I.base.free,fun b o e hx=>?_,I.base.tups,I.base.frzs,I.base.tbls⟩,⟨_,hn',fun j y v' e1 e2 e3=>?_⟩,fun y c e=>?_,I.free,I.freeC,fun p hp=>?_,fun b ob e=>?_,by simpa using I.len⟩
 ·exact (hs.2 b (Nat.ne_of_lt (Nat.lt_of_lt_of_le (Heap.lt_size e) I.ok.above))).trans (I.base.keep b o e n hb hx)
 ·obtain ⟨sl,e1⟩:=I.base.slot b o e n hb hx
  exact ⟨sl,(hs.2 b (Nat.ne_of_lt (Nat.lt_of_lt_of_le (Heap.lt_size e) I.ok.above))).trans e1⟩
 ·obtain ⟨o',e1⟩:=I.base.there b o e hx
  exact ⟨o',(hs.2 b (Nat.ne_of_lt (Nat.lt_of_lt_of_le (Heap.lt_size e) I.ok.above))).trans e1⟩
 ·by_cases hj:j=i
  ·subst hj
   rw [List.getElem?_set_self hiσ] at e2
   cases e2
  ·rw [List.getElem?_set_ne (Ne.symm hj)] at e2
   obtain ⟨u',r',q⟩:=hl j y v' e1 e2 e3
   refine ⟨u',r',?_⟩
   rcases q with ⟨k,e⟩ | ⟨k,c,e,z⟩
   ·refine .inl ⟨k,?_⟩
    have:y≠x:=fun e=>hj (ZiV hN e1 (e ▸ hi))
    simp [this,e]
   ·exact .inr ⟨k,c,e,z.sameBut hs (cne y c e)⟩
 ·obtain ⟨w',z⟩:=I.cell y c e
  exact ⟨w',z.sameBut hs (cne y c e)⟩
 ·obtain ⟨e,n,ne,nf,d⟩:=I.pin p hp
  exact ⟨(hs.2 p.1 ne).trans e,n,ne,nf,d⟩
 ·refine (I.hok b ob e).stay (fun c w' hc q=>(hs.2 c ?_).trans q) (fun _ q=>q) fun _ _ q=>q
  rintro rfl
  rcases hc with rfl | hc
  ·rw [I.free] at e; cases e
  ·rw [I.free] at hc; cases hc
end
theorem Zop {X : Cx} {A : Around} {E : Value → Shared → Prop} {pins : List (Addr × Obj)} {s : Shared} {σ : St} {H : Hp} {x : Str} {u : Value} {pos : Pos} {Q : Value → Shared → Prop} (I : Inv X pins σ H s) (hg : Gl X x) (hm : X.mg x=some u) (h : Q u s)
  (hd:(x == ("__debug__" : Str))=false:=by decide):wpAny (model X.prog X.w) A (eval (.Name x pos) X.env) Q E s :=
 Calls.Name_function_global I.ok.kind hg (Calls.loadGlobal_global (by rw [I.ok.glob]; exact I.mod.glob.keeps I.bk) hm h) hd
noncomputable def ZkU (i:Nat) (D:Ends):Ends:={ nx:=fun σ H=>D.nx (σ.set i none) H,rt:=D.rt,bk:=fun σ H=>D.bk (σ.set i none) H,ct:=fun σ H=>D.ct (σ.set i none) H }
section
variable {X:Cx} {body suite:List Stmt} {b₀:Stmt} {x n:Str} {C:Addr} {np hpos pos:Pos} {bmB:List Value} {newId:String} {i:Nat} {tb:XS->TS} {ts:TS}
end
structure ExcK (K:W.Frag) (C:Addr):Prop where
 ga:W.findIn K (.ref C) "__getattribute__"=some (some (.builtin "BaseException.__getattribute__"))
 gt:W.findIn K (.ref C) "__getattr__"=some none
 cl:W.findIn K (.ref C) "__class__"=some (some (.builtin "object.__class__"))
 mb:W.mroIn K C (.type "BaseException")=some true
 mo:W.mroIn K C (.type "object")=some true
section
variable {prog:Program} {w:World} {A:Around} {E:Value->Shared->Prop} {K:W.Frag} {h:Heap} {g:Array GenState} {d:Drawn} {t:Nat} {os:OsState} {a C:Addr} {ob:Obj}
theorem Zg1:(".".intercalate ("object.__class__".cutAt '.').dropLast)="object":=by decide +kernel
theorem Zpw {R : Result → Shared → Prop} (X : K.In h) (Z : ExcK K C) (hx : h.get? a=some ob) (hc : ob.cls=.ref C) (hq : R (.ok (.ret (.ref C))) ⟨h, g, d, t, os⟩) :
  codeAny (model prog w) A (.call (.builtin "getset_descriptor.__get__") ⟨[.builtin "object.__class__",.ref a,.ref C],[]⟩) R ⟨h,g,d,t,os⟩:=by
 have k5:(⟨h,g,d,t,os⟩:Shared).TypeIs (.builtin "object.__class__") "getset_descriptor":=F.typeOf_object_class
 have mo:W.Looks (model prog w) h (isSubtype (.ref C) (.type (".".intercalate ("object.__class__".cutAt '.').dropLast))) true:=by
  rw [Zg1]
  exact W.looks_mroIn X Z.mo
 refine codeAny_call_builtin F.slot_gs_get.plain F.entry_gs_get (F.slot_gs_get.check _ _ _ _ _ _ _ _ k5 (F.args_gs_get _ _ _) ?_)
 repeat (any_goals (first | assumption | (with_reducible refine wpAny_loadPart_at hx ?_; rw [hc]) | (with_reducible refine mo.at ?_) | wp_step))
 refine ⟨Code.quiet_builtin _ (by decide +kernel),codeAny_builtin F.entry_object_class ?_⟩
 repeat (any_goals (first | assumption | (with_reducible refine wpAny_loadPart_at hx ?_; rw [hc]) | wp_step))
theorem ZnR {tk : Tok} {Q : Fin → Shared → Prop} (X : K.In h) (Z : ExcK K C) (hx : h.get? a=some ob) (hc : ob.cls=.ref C) (hq : Q (.done (.ret (.ref C))) ⟨h, g, d, t, os⟩) :
  wpAny (model prog w) A (Builtin.«object.__getattribute__» ⟨[.ref a,.str "__class__" tk],[]⟩) Q E ⟨h,g,d,t,os⟩:=by
 have k5:(⟨h,g,d,t,os⟩:Shared).TypeIs (.builtin "object.__class__") "getset_descriptor":=F.typeOf_object_class
 have f5:=F.typeOf_object_class
 have f6:=F.slot_gs_get.lookup
 have f7:=F.slot_gs_set.lookup
 have lc:=W.looks_findIn (M:=model prog w) X Z.cl
 repeat (any_goals (first | assumption | (with_reducible refine wpAny_loadPart_at hx ?_; rw [hc]) | (with_reducible refine lc.at ?_) | wp_step))
 refine Zpw X Z hx hc ?_
 repeat (any_goals (first | assumption | wp_step))
theorem ZnA {M : Model} {nameV : Value} {Q : Unit → Shared → Prop} (X : K.In h) (Z : ExcK K C) (hx : h.get? a=some ob) (hc : ob.cls=.ref C) (hq : Q () ⟨h, g, d, t, os⟩) :
  wpAny M A (checkBuiltinCall "BaseException.__getattribute__" ⟨[.ref a,nameV],[]⟩) Q E ⟨h,g,d,t,os⟩:=by
 have kd:builtinKind "BaseException.__getattribute__"=some .slot:=by decide +kernel
 have sp:splitId "BaseException.__getattribute__"=some ("BaseException","__getattribute__"):=by decide +kernel
 have mb:=W.looks_mroIn (M:=M) X Z.mb
 have ar:=F.args_bexc_ga (.ref a) nameV
 simp only [checkBuiltinCall,kd,sp]
 refine wpAny_bind ?_
 unfold isInstance
 repeat (first | (with_reducible refine wpAny_loadPart_at hx ?_; rw [hc]) | (with_reducible refine mb.at ?_) | wp_step)
 exact hq
theorem Zom {tk : Tok} {R : Result → Shared → Prop} (X : K.In h) (Z : ExcK K C) (hx : h.get? a=some ob) (hc : ob.cls=.ref C) (hq : R (.ok (.ret (.ref C))) ⟨h, g, d, t, os⟩) :
  codeAny (model prog w) A (.call (.builtin "BaseException.__getattribute__") ⟨[.ref a,.str "__class__" tk],[]⟩) R ⟨h,g,d,t,os⟩ :=
 codeAny_call_builtin (F.excAttr_ValueError).ga.plain F.entry_bexc_ga (ZnA X Z hx hc (ZnR X Z hx hc hq))
theorem Zq9 {tk : Tok} {fill expr : Bool} {Q : Value → Shared → Prop} (X : K.In h) (Z : ExcK K C) (hx : h.get? a=some ob) (hc : ob.cls=.ref C) (hq : Q (.ref C) ⟨h, g, d, t, os⟩) :
  wpAny (model prog w) A (getAttrBy (.ref a) (.str "__class__" tk) fill expr) Q E ⟨h,g,d,t,os⟩:=by
 have f3:=(F.excAttr_ValueError).ga.bind (.ref a)
 have y0:(expr&&onTheHeap (Value.builtin "BaseException.__getattribute__"))=false:=by cases expr <;> rfl
 have y2:(Value.builtin "BaseException.__getattribute__" == Value.builtin "object.__getattribute__")=false:=by decide +kernel
 have y1:(onTheHeap (Value.ref C)&&Value.builtin "BaseException.__getattribute__" == Value.builtin "object.__getattribute__")=false:=by rw [y2]; rfl
 have lg:=W.looks_findIn (M:=model prog w) X Z.ga
 have lt:=W.looks_findIn (M:=model prog w) X Z.gt
 repeat (any_goals (first | assumption | (with_reducible refine wpAny_loadPart_at hx ?_; rw [hc]) | (with_reducible refine lg.at ?_) | (with_reducible refine lt.at ?_) | wp_step))
 refine Zom X Z hx hc ?_
 repeat (any_goals (first | assumption | wp_step))
theorem Zoy {Q : Option Value → Shared → Prop} (X : K.In h) (Z : ExcK K C) (hx : h.get? a=some ob) (hc : ob.cls=.ref C) (hq : Q (some (.ref C)) ⟨h, g, d, t + 1, os⟩) :
  wpAny (model prog w) A (getAttr? (.ref a) "__class__") Q E ⟨h,g,d,t,os⟩:=by
 unfold getAttr? getAttrBy?
 repeat (any_goals (first | assumption | with_reducible apply Zq9 X Z hx hc | wp_step))
end
section
variable {K:W.Frag} {a C:Addr}
theorem ZoA (Z:ExcK K C):W.KitX K (.ref a) (.ref C) (ZoZ (.ref C) a) where
 ty:=fun M h X p=>by
  obtain ⟨o,vs,h1,h2,_⟩:=p
  exact h2 ▸ (W.Looks.ld h1).andThen .now
 it:=fun M h X p=>by
  obtain ⟨cd,hc,_⟩:=Option.bind_eq_some_iff.mp Z.mo
  unfold W.clsIn at hc
  split at hc
  ·rename_i ho
   intro A' Q' E' s' k q
   unfold isType loadHead
   exact wpAny_bind (wpAny_loadPart (k _ _ (X _ _ ho)) (wpAny_pure q))
  ·cases hc
 ne:=fun h tp dd its n sl X htp=>by
  obtain ⟨cd,hc,_⟩:=Option.bind_eq_some_iff.mp Z.mo
  refine Bool.eq_false_iff.mpr fun q=>?_
  have e:C=tp:=Value.ref.inj (beq_iff_eq.mp q)
  subst e
  unfold W.clsIn at hc
  split at hc
  ·rename_i ho
   have z:=(X _ _ ho).symm.trans htp
   cases z
  ·cases hc
 ca:=fun {prog w A E Q s} X p k=>by
  obtain ⟨h,g,d,t,os⟩:=s
  obtain ⟨o,vs,h1,h2,_⟩:=p
  exact Zoy X Z h1 h2 k
end
inductive Kd (K:W.Frag) (H:Hp):V->Value->Prop where
 | of {x:V} {t:Value} (e:TyOf K H x t):Kd K H x t
 | exc {a C:Addr} (Z:ExcK K C) (e:H a=some (Zkq (.ref C) a)):Kd K H (.ref a) (.ref C)
 | sqt {a:Addr} {xs:List V} (e:SqT K H a xs):Kd K H (.ref a) (.type "tuple")
 | sql {a:Addr} {xs:List V} (e:SqL K H a xs):Kd K H (.ref a) (.type "list")
noncomputable def isC:V->Bool
 | .ref _=>true
 | .ty _=>true
 | _=>false
noncomputable def ZrJ:V->Value
 | .ref a=>.ref a
 | .ty n=>.type n
 | _=>.none
section
variable {X:Cx} {A:Around}
theorem ZoV:Zdo X (.builtin "isinstance") (fun xs H Q=>∃ x c t b,xs=[x,c]∧isC c=true∧Kd X.K H x t∧W.kitOne X.K t (ZrJ c)=some b∧Q (.bl b) H):=by
 intro pins s σ H xs us Q I r h
 obtain ⟨x,c,t,b,rfl,ic,ty,e,q⟩:=h
 obtain ⟨u,v,rfl,rx,rc⟩:=Zmc r
 have ec:ZrJ c=v:=by
  cases c with
  | ref a=>exact Eq.symm rc
  | ty n=>exact Eq.symm rc
  | _=>cases ic
 rw [ec] at e
 have fin:∀ tk,EP X pins σ Q (.bool b) { s with toks:=tk }:=fun tk=>⟨.bl b,H,I.tok tk,rfl,q⟩
 cases ty with
 | of ty=>exact Zm5 I rx ty e fin
 | @exc a C Z ea =>
  cases (show u=Value.ref a from rx)
  obtain ⟨p,_,_⟩:=(show ObjOk X.prog X.w H s.heap a (Zkq (.ref C) a) from I.hok a _ ea)
  exact W.kia_one (ZoA Z) I.kIn p e (fun z=>nomatch z) fin
 | @sqt a ys ea =>
  cases (show u=Value.ref a from rx)
  rcases ea with ea | ⟨o,its,n,h1,h2,_⟩
  ·obtain ⟨_,_,_,p⟩:=(show ObjOk X.prog X.w H s.heap a (.tup ys) from ea.ok I.hok)
   obtain ⟨o,h1,h2,_⟩:=p
   exact W.kia_one W.kitx_tuple I.kIn ⟨o,h1,h2⟩ e (fun z=>nomatch z) fin
  ·exact W.kia_one W.kitx_tuple I.kIn ⟨o,I.kIn _ _ h1,h2⟩ e (fun z=>nomatch z) fin
 | @sql a ys ea =>
  cases (show u=Value.ref a from rx)
  rcases ea with ea | ⟨o,its,n,h1,h2,_⟩
  ·obtain ⟨_,_,n,_,h1⟩:=(show ObjOk X.prog X.w H s.heap a (.lst ys) from ea.ok I.hok)
   exact W.kia_one W.kitx_list I.kIn ⟨_,h1,rfl⟩ e (fun z=>nomatch z) fin
  ·exact W.kia_one W.kitx_list I.kIn ⟨o,I.kIn _ _ h1,h2⟩ e (fun z=>nomatch z) fin
def Zr8 (i j:Int):Prop:=i.natAbs<2 ^ 1000∧j.natAbs<2 ^ 1000
theorem Zlo {x:Int} (h:x.natAbs<2 ^ 1000):Builtin.Int.intBits x≤2 ^ 20:=by
 unfold Builtin.Int.intBits
 split
 ·exact Nat.zero_le _
 ·rename_i z
  have n:x.natAbs≠0:=by
   intro q
   exact z (by rw [Int.natAbs_eq_zero.mp q]; rfl)
  have:=(Nat.log2_lt n).mpr h
  omega
theorem Zp8:OpR X (binaryOp .Mult) (rI Zr8 fun i j=>.int (i*j)):=opI fun _ _ _ _ _ _ _ hc q=>mul_int q (.of_bits (Zlo hc.1) (Zlo hc.2))
theorem Zbx:OpR X (binaryOp .FloorDiv) (rI (fun _ j=>j≠0∧j.natAbs<2 ^ 1000) fun i j=>.int (i.fdiv j)):=opI fun i j _ _ _ _ _ hc q =>
 floordiv_int hc.1 q (.inl (PyProof.noPylong_of_log2 (by
  have n:j.natAbs≠0:=fun z=>hc.1 (Int.natAbs_eq_zero.mp z)
  have:=(Nat.log2_lt n).mpr hc.2
  omega)))
theorem Fun.okX {P : Program} {w : World} {K : W.Frag} {mg : Str → Option Value} {base : Heap} {CX : CXT} {x qual : Str} {st : Stmt} {f : Addr} {fd : FuncData} {N ps : List Str} {k : Nat} {sp : Sp} (F : Fun K x qual st f fd) (S : FnScope N ps (Zap st))
  (len:∀ vs H Q E,sp vs H Q E->vs.length=ps.length)
  (hbody:∀ (cdv:Value) (A:Around) (outer:List Env) (s:Shared) (H:Hp) (vs:List V) (Q:VK) (E:XK),Room k (A.deeper (envOfC qual (Zap st) s.heap.objs.size f cdv))->sp vs H Q E →
   ∃ t,PSs (Zoh CX P w K mg base N qual (Zap st) f cdv A outer s H E) (ZbS st) t∧t { nx:=fun _ H'=>Q .non H',rt:=Q } (start N vs) H):FnOk P w K mg base CX (k+1) f fd ps sp:=by
 obtain ⟨oc,od,kV,doc,pm,an,cdv,ct,osl,rfl,lk,hcd⟩:=F.ex
 exact Zqy lk hcd S len fun A outer s H vs Q E hr hsp=>hbody cdv A outer s H vs Q E hr hsp
end
theorem Zo8:bootBuiltins "int"=some (.type "int"):=by decide +kernel
theorem ZpA:bootBuiltins "bool"=some (.type "bool"):=by decide +kernel
theorem Zib:bootBuiltins "str"=some (.type "str"):=by decide +kernel
theorem Zqh:bootBuiltins "list"=some (.type "list"):=by decide +kernel
theorem ZoQ:bootBuiltins "tuple"=some (.type "tuple"):=by decide +kernel
theorem ZpK:bootBuiltins "dict"=some (.type "dict"):=by decide +kernel
theorem ZcC:bootBuiltins "len"=some (.builtin "len"):=by decide +kernel
theorem ZqL:bootBuiltins "abs"=some (.builtin "abs"):=by decide +kernel
theorem Zlk:bootBuiltins "max"=some (.builtin "max"):=by decide +kernel
theorem ZqW:bootBuiltins "min"=some (.builtin "min"):=by decide +kernel
theorem Ziz:bootBuiltins "isinstance"=some (.builtin "isinstance"):=by decide +kernel
abbrev EBm:List Value:=[.type "ValueError",.type "Exception",.type "BaseException",.type "object"]
theorem EB:ExcBaseFacts "ValueError" "ValueError.__new__" "ValueError.__init__" EBm:=PySem.F.excBase_ValueError
theorem EBb:EBm.contains (.type "BaseException")=true:=by decide +kernel
theorem Zac {H:Hp} {p:Addr} {o:HO} (n:H p=none):Same H (upd H p o):=fun b u e=>by
 rw [Zai (Zal e n)]
 exact e
theorem Same.rd {H H':Hp} (e:Same H H') {a:Addr} {u:HO} (r:Rd H a u):Rd H' a u:=by
 rcases r with r | ⟨o,r⟩
 ·exact .inl (e _ _ r)
 ·exact .inr ⟨o,e _ _ r⟩
theorem Same.sqt {K:W.Frag} {H H':Hp} {a:Addr} {xs:List V} (e:Same H H') (h:SqT K H a xs):SqT K H' a xs:=by
 rcases h with h | h
 ·exact .inl (e.rd h)
 ·exact .inr h
theorem Same.sql {K:W.Frag} {H H':Hp} {a:Addr} {xs:List V} (e:Same H H') (h:SqL K H a xs):SqL K H' a xs:=by
 rcases h with h | h
 ·exact .inl (e.rd h)
 ·exact .inr h
theorem Same.ty {K:W.Frag} {H H':Hp} {x:V} {t:Value} (e:Same H H') (h:TyOf K H x t):TyOf K H' x t:=by
 cases h with
 | non=>exact .non
 | bl b=>exact .bl b
 | int i=>exact .int i
 | str y=>exact .str y
 | flt y=>exact .flt y
 | lst q=>exact .lst (e _ _ q)
 | frz q=>exact .frz (e _ _ q)
 | tup q=>exact .tup (e _ _ q)
 | dK q=>exact .dK (e _ _ q)
 | dT q=>exact .dT (e _ _ q)
 | ins q c a n tk m=>exact .ins (e _ _ q) c a n tk m
theorem Same.kd {K:W.Frag} {H H':Hp} {x:V} {t:Value} (e:Same H H') (h:Kd K H x t):Kd K H' x t:=by
 cases h with
 | of q=>exact .of (e.ty q)
 | exc Z q=>exact .exc Z (e _ _ q)
 | sqt q=>exact .sqt (e.sqt q)
 | sql q=>exact .sql (e.sql q)
def ZsF (K:W.Frag) (t:TA):TE:=fun σ H Q=>t σ H fun xs H1=>∃ x c ty b,xs=[x,c]∧isC c=true∧Kd K H1 x ty∧W.kitOne K ty (ZrJ c)=some b∧Q (.bl b) H1
theorem Zc3 {X : Cx} (K : W.Frag) {p pos : Pos} {e : Expr} {es : List Expr} {t : TA} (hg : Gl X "isinstance") (hm : X.mg "isinstance"=none) (ha : PA X (e :: es) t) (hK : X.K=K := by rfl)
  (he:starEach (e :: es) X.env=(false,eval e X.env) :: starEach es X.env:=by rfl) (hpl:(backTo pos (starEach es X.env)).any (·.1)=false:=by rfl):PE X (.Call (.Name "isinstance" p) (e :: es) [] pos) (ZsF K t):=by
 subst hK
 exact ZaC (ZoV (X:=X)) hg hm Ziz ha (by decide) (by decide) he hpl
inductive D where
 | non | bl (b:Bool) | int (i:Int) | str (x:Str) | tup (ds:List D) | lst (ds:List D)
mutual
def Is (K:W.Frag) (H:Hp):D->V->Prop
 | .non,v=>v=.non
 | .bl b,v=>v=.bl b
 | .int i,v=>v=.int i
 | .str x,v=>v=.str x
 | .tup ds,v=>∃ a xs,v=.ref a∧SqT K H a xs∧IsL K H ds xs
 | .lst ds,v=>∃ a xs,v=.ref a∧SqL K H a xs∧IsL K H ds xs
def IsL (K:W.Frag) (H:Hp):List D->List V->Prop
 | [],xs=>xs=[]
 | d :: ds,xs=>∃ x r,xs=x :: r∧Is K H d x∧IsL K H ds r
end
mutual
noncomputable def deq:D->D->Bool
 | .non,.non=>true
 | .bl a,.bl b=>a == b
 | .bl a,.int b=>(if a then 1 else 0) == b
 | .int a,.bl b=>a == (if b then 1 else 0)
 | .int a,.int b=>a == b
 | .str a,.str b=>a == b
 | .tup a,.tup b=>Zdg a b
 | .lst a,.lst b=>Zdg a b
 | _,_=>false
noncomputable def Zdg:List D->List D->Bool
 | [],[]=>true
 | x :: xs,y :: ys=>deq x y&&Zdg xs ys
 | _,_=>false
end
mutual
noncomputable def dep:D->Nat
 | .tup ds=>Zdt ds+1
 | .lst ds=>Zdt ds+1
 | _=>0
noncomputable def Zdt:List D->Nat
 | []=>0
 | d :: ds=>max (dep d) (Zdt ds)
end
section
variable {K:W.Frag} {H H':Hp}
mutual
theorem Same.is (e:Same H H'):∀ (d:D) {v:V},Is K H d v->Is K H' d v
 | .non,v,h=>h
 | .bl b,v,h=>h
 | .int i,v,h=>h
 | .str x,v,h=>h
 | .tup ds,v,h=>by
  obtain ⟨a,xs,rfl,q,r⟩:=h
  exact ⟨a,xs,rfl,e.sqt q,Same.isL e ds r⟩
 | .lst ds,v,h=>by
  obtain ⟨a,xs,rfl,q,r⟩:=h
  exact ⟨a,xs,rfl,e.sql q,Same.isL e ds r⟩
theorem Same.isL (e:Same H H'):∀ (ds:List D) {xs:List V},IsL K H ds xs->IsL K H' ds xs
 | [],xs,h=>h
 | d :: ds,xs,h=>by
  obtain ⟨x,r,rfl,h1,h2⟩:=h
  exact ⟨x,r,rfl,Same.is e d h1,Same.isL e ds h2⟩
end
theorem IsL.length:∀ {ds:List D} {xs:List V},IsL K H ds xs->xs.length=ds.length
 | [],xs,h=>by cases (show xs=[] from h); rfl
 | d :: ds,xs,h=>by
  obtain ⟨x,r,rfl,_,h2⟩:=h
  rw [List.length_cons,List.length_cons,IsL.length h2]
end
section
variable {X:Cx} {pins:List (Addr × Obj)} {σ:St} {H:Hp} {s:Shared}
theorem Inv.isList (I:Inv X pins σ H s) {a:Addr} {xs:List V} (h:SqL X.K H a xs):∃ its:List Value,Vals xs its∧s.heap.IsList a its.toArray:=by
 rcases h with h | ⟨o,its,n,h1,h2,_,h3,_,r⟩
 ·obtain ⟨_,its,n,r,e⟩:=(show ObjOk X.prog X.w H s.heap a (.lst xs) from h.ok I.hok)
  exact ⟨its,r,_,e,rfl,n,rfl⟩
 ·exact ⟨its.toList,r,o,I.kIn _ _ h1,h2,n,by simpa using h3⟩
theorem Inv.isTup (I:Inv X pins σ H s) {a:Addr} {xs:List V} (h:SqT X.K H a xs):∃ its:List Value,Vals xs its∧s.heap.IsTuple a its.toArray:=by
 rcases h with h | ⟨o,its,n,h1,h2,h3,_,r⟩
 ·obtain ⟨_,its,r,e⟩:=(show ObjOk X.prog X.w H s.heap a (.tup xs) from h.ok I.hok)
  exact ⟨its,r,e⟩
 ·exact ⟨its.toList,r,o,I.kIn _ _ h1,h2,n,by simpa using h3⟩
theorem Zc7:∀ {ds ds':List D},ds.length≠ds'.length->Zdg ds ds'=false
 | [],[],h=>absurd rfl h
 | [],_ :: _,_=>rfl
 | _ :: _,[],_=>rfl
 | d :: ds,d' :: ds',h=>by
  unfold Zdg
  rw [Zc7 (ds:=ds) (ds':=ds') fun z=>h (by rw [List.length_cons,List.length_cons,z]),Bool.and_false]
noncomputable def Zf4 (ds ds':List D) (j:Nat):Bool:=deq (ds.getD j .non) (ds'.getD j .non)
theorem ZiC:∀ {ds ds':List D},ds.length=ds'.length->(List.range ds.length).all (Zf4 ds ds')=Zdg ds ds'
 | [],[],_=>rfl
 | [],_ :: _,h=>by cases h
 | _ :: _,[],h=>by cases h
 | d :: ds,d' :: ds',h=>by
  have h':ds.length=ds'.length:=by simpa using h
  rw [List.length_cons,List.range_succ_eq_map,List.all_cons,List.all_map]
  unfold Zdg
  rw [← ZiC h']
  rfl
theorem Inv.tup_fun (I:Inv X pins σ H s) {a:Addr} {xs ys:List V} (h:SqT X.K H a xs) (h':SqT X.K H a ys):xs=ys:=by
 obtain ⟨us,r,o,e,_,n,d⟩:=I.isTup h
 obtain ⟨us',r',o',e',_,n',d'⟩:=I.isTup h'
 rw [e] at e'
 cases e'
 rw [d] at d'
 injection d' with d1 _
 have z:us=us':=by simpa using d1
 subst z
 exact r.inj r'
theorem Inv.lst_fun (I:Inv X pins σ H s) {a:Addr} {xs ys:List V} (h:SqL X.K H a xs) (h':SqL X.K H a ys):xs=ys:=by
 obtain ⟨us,r,o,e,_,n,d⟩:=I.isList h
 obtain ⟨us',r',o',e',_,n',d'⟩:=I.isList h'
 rw [e] at e'
 cases e'
 rw [d] at d'
 injection d' with d1 _
 have z:us=us':=by simpa using d1
 subst z
 exact r.inj r'
theorem Inv.tup_lst (I:Inv X pins σ H s) {a:Addr} {xs ys:List V} (h:SqT X.K H a xs) (h':SqL X.K H a ys):False:=by
 obtain ⟨us,r,o,e,c,_⟩:=I.isTup h
 obtain ⟨us',r',o',e',c',_⟩:=I.isList h'
 rw [e] at e'
 cases e'
 rw [c] at c'
 exact absurd (Value.type.inj c') (by decide)
mutual
theorem ZqJ (I:Inv X pins σ H s):∀ (d d':D) {v:V},Is X.K H d v->Is X.K H d' v->d=d'
 | .non,d',v,h,h'=>by
  cases (show v=.non from h)
  cases d' <;> first | rfl | (obtain ⟨_,_,z,_⟩:=h'; cases z; done) | cases h'
 | .bl c,d',v,h,h'=>by
  cases (show v=.bl c from h)
  cases d' <;> first | rfl | (obtain ⟨_,_,z,_⟩:=h'; cases z; done) | (cases h'; done) | (cases h'; rfl)
 | .int c,d',v,h,h'=>by
  cases (show v=.int c from h)
  cases d' <;> first | rfl | (obtain ⟨_,_,z,_⟩:=h'; cases z; done) | (cases h'; done) | (cases h'; rfl)
 | .str c,d',v,h,h'=>by
  cases (show v=.str c from h)
  cases d' <;> first | rfl | (obtain ⟨_,_,z,_⟩:=h'; cases z; done) | (cases h'; done) | (cases h'; rfl)
 | .tup ds,d',v,h,h'=>by
  obtain ⟨a,xs,rfl,q,hl⟩:=h
  cases d' with
  | tup ds' =>
   obtain ⟨a',xs',e,q',hl'⟩:=h'
   cases e
   rw [I.tup_fun q q'] at hl
   rw [ZgV I ds ds' hl hl']
  | lst ds' =>
   obtain ⟨a',xs',e,q',hl'⟩:=h'
   cases e
   exact (I.tup_lst q q').elim
  | _=>cases h'
 | .lst ds,d',v,h,h'=>by
  obtain ⟨a,xs,rfl,q,hl⟩:=h
  cases d' with
  | lst ds' =>
   obtain ⟨a',xs',e,q',hl'⟩:=h'
   cases e
   rw [I.lst_fun q q'] at hl
   rw [ZgV I ds ds' hl hl']
  | tup ds' =>
   obtain ⟨a',xs',e,q',hl'⟩:=h'
   cases e
   exact (I.tup_lst q' q).elim
  | _=>cases h'
theorem ZgV (I:Inv X pins σ H s):∀ (ds ds':List D) {xs:List V},IsL X.K H ds xs->IsL X.K H ds' xs->ds=ds'
 | [],ds',xs,h,h'=>by
  cases (show xs=[] from h)
  cases ds' with
  | nil=>rfl
  | cons d r=>obtain ⟨_,_,z,_⟩:=h'; cases z
 | d :: ds,ds',xs,h,h'=>by
  obtain ⟨x,r,rfl,h1,h2⟩:=h
  cases ds' with
  | nil=>cases h'
  | cons d' ds' =>
   obtain ⟨x',r',e,h1',h2'⟩:=h'
   cases e
   rw [ZqJ I d d' h1 h1',ZgV I ds ds' h2 h2']
end
mutual
theorem Zo0:∀ d:D,deq d d=true
 | .non=>rfl
 | .bl b=>by simp [deq]
 | .int i=>by simp [deq]
 | .str x=>by simp [deq]
 | .tup ds=>by simp only [deq]; exact Zd3 ds
 | .lst ds=>by simp only [deq]; exact Zd3 ds
theorem Zd3:∀ ds:List D,Zdg ds ds=true
 | []=>rfl
 | d :: ds=>by simp only [Zdg,Zo0 d,Zd3 ds,Bool.and_self]
end
theorem ZfG {α:Type} {l:List α} {i:Nat} {x y:α} (h:l[i]?=some x):l.getD i y=x:=by simp [List.getD,h]
theorem Znh {ds ds' : List D} {xs xs' : List V} {us us' : List Value} {a a' : Addr} {A : Around} (I : Inv X pins σ H s) (hl : IsL X.K H ds xs) (hl' : IsL X.K H ds' xs') (rv : Vals xs us) (rv' : Vals xs' us')
  (z:s.heap.IsTuple a us.toArray) (z':s.heap.IsTuple a' us'.toArray) (hu:A.units<cLine)
  (it:∀ (j:Nat) (d d':D) (u u':Value),ds[j]?=some d->ds'[j]?=some d'->us[j]?=some u->us'[j]?=some u'->SeqAt.EqAt A.in1 s u u' (deq d d')):SeqAt.RcAt A s (.ref a) (.ref a') (Zdg ds ds'):=by
 have e1:us.length=ds.length:=by rw [← rv.length,hl.length]
 have e2:us'.length=ds'.length:=by rw [← rv'.length,hl'.length]
 have g:=SeqAt.RcAt.tuples (e:=Zf4 ds ds') z z' hu fun j h1 h2=>by
  have g1:j<ds.length:=by rw [← e1]; simpa using h1
  have g2:j<ds'.length:=by rw [← e2]; simpa using h2
  have k1:ds[j]?=some ds[j]:=List.getElem?_eq_getElem g1
  have k2:ds'[j]?=some ds'[j]:=List.getElem?_eq_getElem g2
  unfold Zf4
  rw [ZfG k1,ZfG k2]
  exact it j _ _ _ _ k1 k2 (by simp) (by simp)
 have en:((List.range (min us.toArray.size us'.toArray.size)).all (Zf4 ds ds')&&us.toArray.size == us'.toArray.size)=Zdg ds ds':=by
  simp only [List.size_toArray,e1,e2]
  by_cases q:ds.length=ds'.length
  ·rw [← q,Nat.min_self,ZiC q,beq_self_eq_true,Bool.and_true]
  ·rw [Zc7 q,(beq_eq_false_iff_ne.mpr q),Bool.and_false]
 rw [en] at g
 exact g
theorem Zm7 {ds ds' : List D} {xs xs' : List V} {us us' : List Value} {a a' : Addr} {A : Around} (I : Inv X pins σ H s) (hl : IsL X.K H ds xs) (hl' : IsL X.K H ds' xs') (rv : Vals xs us) (rv' : Vals xs' us')
  (z:s.heap.IsList a us.toArray) (z':s.heap.IsList a' us'.toArray) (hu:A.units<cLine)
  (it:∀ (j:Nat) (d d':D) (u u':Value),ds[j]?=some d->ds'[j]?=some d'->us[j]?=some u->us'[j]?=some u'->SeqAt.EqAt A.in1 s u u' (deq d d')):SeqAt.RcAt A s (.ref a) (.ref a') (Zdg ds ds'):=by
 have e1:us.length=ds.length:=by rw [← rv.length,hl.length]
 have e2:us'.length=ds'.length:=by rw [← rv'.length,hl'.length]
 by_cases q:ds.length=ds'.length
 ·have g:=SeqAt.RcAt.lists (e:=Zf4 ds ds') z z' (by simp only [List.size_toArray,e1,e2,q]) hu fun j h1 h2=>by
   have g1:j<ds.length:=by rw [← e1]; simpa using h1
   have g2:j<ds'.length:=by rw [← e2]; simpa using h2
   have k1:ds[j]?=some ds[j]:=List.getElem?_eq_getElem g1
   have k2:ds'[j]?=some ds'[j]:=List.getElem?_eq_getElem g2
   unfold Zf4
   rw [ZfG k1,ZfG k2]
   exact it j _ _ _ _ k1 k2 (by simp) (by simp)
  rw [show us.toArray.size=ds.length by simp [e1],ZiC q] at g
  exact g
 ·rw [Zc7 q]
  exact SeqAt.RcAt.lists_lengths z z' (by simp only [List.size_toArray,e1,e2]; exact bne_iff_ne.mpr q) hu
mutual
theorem eqD (I:Inv X pins σ H s):∀ (d d':D) {v v':V} {u u':Value} {A:Around},Is X.K H d v->Is X.K H d' v'->RelV v u->RelV v' u'->A.units+dep d<cLine->SeqAt.EqAt A s u u' (deq d d')
 | .non,d',v,v',u,u',A,h,h',r,r',hu=>by
  cases (show v=.non from h); cases (show u=Value.none from r)
  cases d' with
  | non=>cases (show v'=.non from h'); cases (show u'=Value.none from r'); exact SeqAt.EqAt.same _
  | bl b=>cases (show v'=.bl b from h'); cases (show u'=Value.bool b from r'); exact SeqAt.EqAt.none_bool b
  | int b=>cases (show v'=.int b from h'); obtain ⟨t,rfl⟩:=r'; exact SeqAt.EqAt.none_int b t
  | str b=>cases (show v'=.str b from h'); obtain ⟨t,rfl⟩:=r'; exact SeqAt.EqAt.none_str b t
  | tup b=>obtain ⟨a,xs,rfl,q,_⟩:=h'; cases r'; obtain ⟨its,_,z⟩:=I.isTup q; exact SeqAt.EqAt.none_tuple z (by simpa [dep] using hu)
  | lst b=>obtain ⟨a,xs,rfl,q,_⟩:=h'; cases r'; obtain ⟨its,_,z⟩:=I.isList q; exact SeqAt.EqAt.none_list z (by simpa [dep] using hu)
 | .bl c,d',v,v',u,u',A,h,h',r,r',hu=>by
  cases (show v=.bl c from h); cases (show u=Value.bool c from r)
  cases d' with
  | non=>cases (show v'=.non from h'); cases (show u'=Value.none from r'); exact SeqAt.EqAt.bool_none c
  | bl b=>cases (show v'=.bl b from h'); cases (show u'=Value.bool b from r'); exact SeqAt.EqAt.bool_bool c b
  | int b=>cases (show v'=.int b from h'); obtain ⟨t,rfl⟩:=r'; exact SeqAt.EqAt.bool_int c b t
  | str b=>cases (show v'=.str b from h'); obtain ⟨t,rfl⟩:=r'; exact SeqAt.EqAt.bool_str c b t
  | tup b=>obtain ⟨a,xs,rfl,q,_⟩:=h'; cases r'; obtain ⟨its,_,z⟩:=I.isTup q; exact SeqAt.EqAt.bool_tuple c z (by simpa [dep] using hu)
  | lst b=>obtain ⟨a,xs,rfl,q,_⟩:=h'; cases r'; obtain ⟨its,_,z⟩:=I.isList q; exact SeqAt.EqAt.bool_list c z (by simpa [dep] using hu)
 | .int c,d',v,v',u,u',A,h,h',r,r',hu=>by
  cases (show v=.int c from h); obtain ⟨t0,rfl⟩:=r
  cases d' with
  | non=>cases (show v'=.non from h'); cases (show u'=Value.none from r'); exact SeqAt.EqAt.int_none c t0
  | bl b=>cases (show v'=.bl b from h'); cases (show u'=Value.bool b from r'); exact SeqAt.EqAt.int_bool c t0 b
  | int b=>cases (show v'=.int b from h'); obtain ⟨t,rfl⟩:=r'; exact SeqAt.EqAt.int_int c t0 b t
  | str b=>cases (show v'=.str b from h'); obtain ⟨t,rfl⟩:=r'; exact SeqAt.EqAt.int_str c t0 b t
  | tup b=>obtain ⟨a,xs,rfl,q,_⟩:=h'; cases r'; obtain ⟨its,_,z⟩:=I.isTup q; exact SeqAt.EqAt.int_tuple c t0 z (by simpa [dep] using hu)
  | lst b=>obtain ⟨a,xs,rfl,q,_⟩:=h'; cases r'; obtain ⟨its,_,z⟩:=I.isList q; exact SeqAt.EqAt.int_list c t0 z (by simpa [dep] using hu)
 | .str c,d',v,v',u,u',A,h,h',r,r',hu=>by
  cases (show v=.str c from h); obtain ⟨t0,rfl⟩:=r
  cases d' with
  | non=>cases (show v'=.non from h'); cases (show u'=Value.none from r'); exact SeqAt.EqAt.str_none c t0
  | bl b=>cases (show v'=.bl b from h'); cases (show u'=Value.bool b from r'); exact SeqAt.EqAt.str_bool c t0 b
  | int b=>cases (show v'=.int b from h'); obtain ⟨t,rfl⟩:=r'; exact SeqAt.EqAt.str_int c t0 b t
  | str b=>cases (show v'=.str b from h'); obtain ⟨t,rfl⟩:=r'; exact SeqAt.EqAt.str_str c t0 b t
  | tup b=>obtain ⟨a,xs,rfl,q,_⟩:=h'; cases r'; obtain ⟨its,_,z⟩:=I.isTup q; exact SeqAt.EqAt.str_tuple c t0 z (by simpa [dep] using hu)
  | lst b=>obtain ⟨a,xs,rfl,q,_⟩:=h'; cases r'; obtain ⟨its,_,z⟩:=I.isList q; exact SeqAt.EqAt.str_list c t0 z (by simpa [dep] using hu)
 | .tup ds,d',v,v',u,u',A,h,h',r,r',hu=>by
  obtain ⟨a,xs,rfl,q,hl⟩:=h
  cases (show u=Value.ref a from r)
  obtain ⟨its,rv,z⟩:=I.isTup q
  have hu0:A.units<cLine:=by omega
  cases d' with
  | non=>cases (show v'=.non from h'); cases (show u'=Value.none from r'); exact SeqAt.EqAt.tuple_none z hu0
  | bl b=>cases (show v'=.bl b from h'); cases (show u'=Value.bool b from r'); exact SeqAt.EqAt.tuple_bool b z hu0
  | int b=>cases (show v'=.int b from h'); obtain ⟨t,rfl⟩:=r'; exact SeqAt.EqAt.tuple_int b t z hu0
  | str b=>cases (show v'=.str b from h'); obtain ⟨t,rfl⟩:=r'; exact SeqAt.EqAt.tuple_str b t z hu0
  | lst b=>obtain ⟨a2,xs2,rfl,q2,_⟩:=h'; cases r'; obtain ⟨its2,_,z2⟩:=I.isList q2; exact SeqAt.EqAt.tuple_list z z2 hu0
  | tup ds' =>
   obtain ⟨a2,xs2,rfl,q2,hl2⟩:=h'
   cases (show u'=Value.ref a2 from r')
   obtain ⟨its2,rv2,z2⟩:=I.isTup q2
   have hu1:A.units+(Zdt ds+1)<cLine:=hu
   show SeqAt.EqAt A s _ _ (Zdg ds ds')
   by_cases ne:a=a2
   ·subst ne
    rw [I.tup_fun q q2] at hl
    rw [ZgV I ds ds' hl hl2,Zd3]
    exact SeqAt.EqAt.same _
   ·exact .of_refs ne (Znh I hl hl2 rv rv2 z z2 hu0 (eqL I ds ds' (A:=A.in1) hl hl2 rv rv2 (by show A.units+1+Zdt ds<cLine; omega)))
 | .lst ds,d',v,v',u,u',A,h,h',r,r',hu=>by
  obtain ⟨a,xs,rfl,q,hl⟩:=h
  cases (show u=Value.ref a from r)
  obtain ⟨its,rv,z⟩:=I.isList q
  have hu0:A.units<cLine:=by omega
  cases d' with
  | non=>cases (show v'=.non from h'); cases (show u'=Value.none from r'); exact SeqAt.EqAt.list_none z hu0
  | bl b=>cases (show v'=.bl b from h'); cases (show u'=Value.bool b from r'); exact SeqAt.EqAt.list_bool b z hu0
  | int b=>cases (show v'=.int b from h'); obtain ⟨t,rfl⟩:=r'; exact SeqAt.EqAt.list_int b t z hu0
  | str b=>cases (show v'=.str b from h'); obtain ⟨t,rfl⟩:=r'; exact SeqAt.EqAt.list_str b t z hu0
  | tup b=>obtain ⟨a2,xs2,rfl,q2,_⟩:=h'; cases r'; obtain ⟨its2,_,z2⟩:=I.isTup q2; exact SeqAt.EqAt.list_tuple z z2 hu0
  | lst ds' =>
   obtain ⟨a2,xs2,rfl,q2,hl2⟩:=h'
   cases (show u'=Value.ref a2 from r')
   obtain ⟨its2,rv2,z2⟩:=I.isList q2
   have hu1:A.units+(Zdt ds+1)<cLine:=hu
   show SeqAt.EqAt A s _ _ (Zdg ds ds')
   by_cases ne:a=a2
   ·subst ne
    rw [I.lst_fun q q2] at hl
    rw [ZgV I ds ds' hl hl2,Zd3]
    exact SeqAt.EqAt.same _
   ·exact .of_refs ne (Zm7 I hl hl2 rv rv2 z z2 hu0 (eqL I ds ds' (A:=A.in1) hl hl2 rv rv2 (by show A.units+1+Zdt ds<cLine; omega)))
theorem eqL (I : Inv X pins σ H s) : ∀ (ds ds' : List D) {xs xs' : List V} {us us' : List Value} {A : Around}, IsL X.K H ds xs → IsL X.K H ds' xs' → Vals xs us → Vals xs' us' → A.units + Zdt ds<cLine →
  ∀ (j:Nat) (d d':D) (u u':Value),ds[j]?=some d->ds'[j]?=some d'->us[j]?=some u->us'[j]?=some u'->SeqAt.EqAt A s u u' (deq d d')
 | [],_,_,_,_,_,_,_,_,_,_,_,j,d,d',u,u',e,_,_,_=>by simp at e
 | d0 :: ds,ds',xs,xs',us,us',A,hl,hl',rv,rv',hu,j,d,d',u,u',e1,e2,e3,e4=>by
  obtain ⟨x,r,rfl,h1,h2⟩:=hl
  cases ds' with
  | nil=>simp at e2
  | cons d0' ds' =>
   obtain ⟨x',r',rfl,h1',h2'⟩:=hl'
   cases rv with
   | cons ra rb =>
    cases rv' with
    | cons ra' rb' =>
     have hu1:A.units+max (dep d0) (Zdt ds)<cLine:=hu
     cases j with
     | zero =>
      simp only [List.getElem?_cons_zero,Option.some.injEq] at e1 e2 e3 e4
      subst e1 e2 e3 e4
      exact eqD I _ _ h1 h1' ra ra' (by omega)
     | succ j =>
      simp only [List.getElem?_cons_succ] at e1 e2 e3 e4
      exact eqL I ds ds' h2 h2' rb rb' (by omega) j d d' u u' e1 e2 e3 e4
end
def ZsB (K:W.Frag) (g:Bool->Bool):R2:=fun x y H Q=>∃ d d',Is K H d x∧Is K H d' y∧((∃ ds ds',d=.tup ds∧d'=.tup ds')∨∃ ds ds',d=.lst ds∧d'=.lst ds')∧dep d≤60∧Q (.bl (g (deq d d'))) H
theorem Ze1 (hu:X.A.units+64<cLine):OpR X (compareOp .Eq) (ZsB X.K id):=by
 intro pins s σ H x y v u Q I rx ry h
 obtain ⟨d,d',h1,h2,sh,hd,q⟩:=h
 rcases sh with ⟨ds,ds',rfl,rfl⟩ | ⟨ds,ds',rfl,rfl⟩
 ·obtain ⟨a,xs,rfl,q1,hl⟩:=h1
  obtain ⟨a2,xs2,rfl,q2,hl2⟩:=h2
  cases (show v=Value.ref a from rx)
  cases (show u=Value.ref a2 from ry)
  obtain ⟨its,rv,z⟩:=I.isTup q1
  obtain ⟨its2,rv2,z2⟩:=I.isTup q2
  have hd1:Zdt ds+1≤60:=hd
  exact (Znh I hl hl2 rv rv2 z z2 (by omega) (eqL I ds ds' (A:=X.A.in1) hl hl2 rv rv2 (by show X.A.units+1+Zdt ds<cLine; omega))) _ _ _ _ ⟨.bl _,H,I,rfl,q⟩
 ·obtain ⟨a,xs,rfl,q1,hl⟩:=h1
  obtain ⟨a2,xs2,rfl,q2,hl2⟩:=h2
  cases (show v=Value.ref a from rx)
  cases (show u=Value.ref a2 from ry)
  obtain ⟨its,rv,z⟩:=I.isList q1
  obtain ⟨its2,rv2,z2⟩:=I.isList q2
  have hd1:Zdt ds+1≤60:=hd
  exact (Zm7 I hl hl2 rv rv2 z z2 (by omega) (eqL I ds ds' (A:=X.A.in1) hl hl2 rv rv2 (by show X.A.units+1+Zdt ds<cLine; omega))) _ _ _ _ ⟨.bl _,H,I,rfl,q⟩
end
section
variable {X:Cx} {pins:List (Addr × Obj)} {σ:St} {H:Hp} {s:Shared}
end
section
variable {prog:Program} {w:World} {A:Around} {R:Result->Shared->Prop} {s:Shared}
theorem Zko {elt target iter : Expr} {ifs : List Expr} {scope : Scope} {pos : Pos} {it acc : Value} {env : Env} (J : Nat → Shared → Prop)
  (turn:∀ n s,J n s->wpAny (model prog w) A (pyNext it) (fun r s1=>match r with
   | none=>R (.ok .next) s1
   | some v => wpAny (model prog w) A (letOwnedTupleGo target it v) (fun _ s2 => wpAny (model prog w) A (assign target env v) (fun _ s3 =>
     wpAny (model prog w) A (forIn ifs true fun c r=>if r=true then do let ok ← isTrue c env (eval c env); pure (ForInStep.yield ok) else pure (ForInStep.yield r)) (fun ok s4 =>
      if ok=true then wpAny (model prog w) A (eval elt env) (fun x s5=>wpAny (model prog w) A (call (.builtin "list.append") [acc,x]) (fun _ s6=>∃ m,m<n∧J m s6) (fun _ _=>False) s5) (fun _ _=>False) s4
      else ∃ m,m<n∧J m s4) (fun _ _=>False) s3) (fun _ _=>False) s2) (fun _ _=>False) s1) (fun _ _=>False) s)
  (n:Nat) (h:J n s):codeAny (model prog w) A (.compLoop (.ListComp elt [⟨target,iter,ifs,0⟩] scope pos) 0 it acc env) R s:=by
 refine codeAny_loop rfl J (fun n s hJ=>?_) n h
 show wpAny _ A ((compTurn (.ListComp elt [⟨target,iter,ifs,0⟩] scope pos) 0 it acc env).onRaise (fun x=>do noteFrame x env; theTreesLotGoes x)) _ _ s
 refine wpAny_noted ?_
 rw [compTurn_list]
 refine wpAny_bind (wpAny_standAt (wpAny_bind (wpAny_mono (turn n s hJ) (fun r s1 h1=>?_) fun _ _ z=>z.elim)))
 cases r with
 | none=>exact wpAny_pure h1
 | some v =>
  refine wpAny_bind (wpAny_mono h1 (fun _ s2 h2=>wpAny_bind (wpAny_mono h2 (fun _ s3 h3=>wpAny_bind (wpAny_mono h3 (fun ok s4 h4=>?_) fun _ _ z=>z.elim)) fun _ _ z=>z.elim)) fun _ _ z=>z.elim)
  cases ok with
  | false=>exact wpAny_pure ⟨rfl,h4⟩
  | true=>exact wpAny_bind (wpAny_bind (wpAny_mono h4 (fun x s5 h5=>wpAny_bind (wpAny_mono h5 (fun _ s6 h6=>wpAny_pure (wpAny_pure ⟨rfl,h6⟩)) fun _ _ z=>z.elim)) fun _ _ z=>z.elim))
end
def PTs (X:Cx) (ifs:List Expr) (t:TT):Prop :=
 ∀ (pins:List (Addr × Obj)) (s:Shared) (σ:St) (H:Hp) (Q:Bool->Hp->Prop),Inv X pins σ H s->t σ H Q →
  wpAny (model X.prog X.w) X.A (forIn ifs true fun c r=>if r=true then do let ok ← isTrue c X.env (eval c X.env); pure (ForInStep.yield ok) else pure (ForInStep.yield r)) (TP X pins σ Q) X.xe s
def Zr6:TT:=fun _ H Q=>Q true H
theorem ZgL {X:Cx}:PTs X [] Zr6:=fun _ _ _ H _ I h=>wpAny_tests_nil ⟨H,I,h⟩
theorem ZfE {X:Cx} {c:Expr} {t:TT} (h:PT X c t):PTs X [c] t:=fun pins s σ H Q I q=>wpAny_tests_one (h pins s σ H Q I q)
noncomputable abbrev Cx.block (X:Cx) (N:List Str) (sc:Scope) (cl:List (Str × Addr)) (fp:List Addr) (s3:Shared) (H3:Hp):Cx :=
 { X with N:=N,s₀:=s3,H₀:=H3,env:=compEnvC sc cl s3.heap.objs.size X.env,outer:=X.stack,ex:=fp,fn:=fun _=>false,pn:=[],xe:=fun _ _=>False }
structure CompSc (X:Cx) (N:List Str) (sc:Scope) (cl:List (Str × Addr)) (σc:St->St):Prop where
 kind:sc.kind=.function
 names:∀ x∈sc.names,x.2=.local->sc.names.lookup x.1=some .local
 nocell:∀ y∈sc.names,y.2≠.cell
 clos:closureFor sc X.env=pure cl
 sub:∀ x c,cl.lookup x=some c->X.env.cells.lookup x=some c
 has:∀ x,((relabel sc X.env).names.lookup x=some .cell∨(relabel sc X.env).names.lookup x=some .free)->∃ c,cl.lookup x=some c
 len:∀ σ:St,(σc σ).length=N.length
 cap:∀ (σ:St) (i:Nat) (x:Str) (v:V),N[i]?=some x->(σc σ)[i]?=some (some v)->((relabel sc X.env).names.lookup x=some .cell∨(relabel sc X.env).names.lookup x=some .free)∧(X.env.scope.names.lookup x=some .cell∨X.env.scope.names.lookup x=some .free)∧∃ j:Nat,X.N[j]?=some x∧σ[j]?=some (some v)
def ZoK (J:It) (σ0:St) (g:TG) (tt:TT) (te:TE) (Q:VK) (H1:Hp):Prop:=∀ D,H1 D=none →
 ∃ W:Nat->Nat->St->List V->Hp->Prop,(∃ m,W 0 m σ0 [] (upd H1 D (.lst [])))∧∀ i m σ1 ys H2,W i m σ1 ys H2->H2 D=some (.lst ys) ∧
  ((J.stop i H2∧Q (.ref D) H2)∨(J.go i H2∧∃ N:St->List V->Hp->Prop,(∀ σ2 ys2 H3,N σ2 ys2 H3->∃ m',m'<m∧W (i+1) m' σ2 ys2 H3) ∧
   ∀ x H3,J.yld i H2 x H3->g x σ1 H3 fun σ2 H4=>tt σ2 H4 fun c H5=>if c=true then te σ2 H5 fun y H6=>H6 D=some (.lst ys)∧ys.length<sizeLine∧N σ2 (ys++[y]) (upd H6 D (.lst (ys++[y]))) else N σ2 ys H5))
def ZqF (wi:TI) (σc:St->St) (g:TG) (tt:TT) (te:TE):TE:=fun σ H Q=>wi σ H fun J H1=>ZoK J (σc σ) g tt te Q H1
section
variable {X:Cx} {pins:List (Addr × Obj)} {σ:St} {H:Hp} {s:Shared} {N:List Str} {sc:Scope} {cl:List (Str × Addr)} {σc:St->St} {fp:List Addr}
theorem Inv.block (I : Inv X pins σ H s) (S : CompSc X N sc cl σc) (hf : ∀ b ∈ fp, Zmt X pins H b) (hlt : ∀ b ∈ fp, b<s.heap.objs.size) {h' : Heap} {t' : Nat} (k : ∀ b u, s.heap.get? b=some u → h'.get? b=some u) (hn : h'.Ns s.heap.objs.size fun _ => none) :
  Inv (X.block N sc cl fp s H) [] (σc σ) H { s with heap:=h',toks:=t' }:=by
 have kin:∀ x,(X.block N sc cl fp s H).env.kindOf x=(relabel sc X.env).names.lookup x:=fun _=>rfl
 refine ⟨⟨I.ok.mod,S.kind,I.ok.glob,I.ok.blt,Nat.le_refl _,fun x y c h1 h2=>I.ok.inj x y c (S.sub x c h1) (S.sub y c h2),fun x hx=>S.has x hx,fun x c z _=>(nomatch z),I.ok.hd,I.ok.frames,.inl rfl,fun b hb=>⟨Nat.ne_of_lt (hlt b hb),fun x c e=>(hf b hb).2.2.2.2.1 x c (S.sub x c e)⟩,
  I.bs,Nat.le_trans I.ok.bsz I.sz,fun b o e hb=>?_,fun b hb z=>?_,I.stack,I.stkFree⟩,
  rfl,I.bare,Un.kept k,⟨_,hn,fun i x v e1 e2 e3=>?_⟩,fun x c e=>?_,I.hok.fresh (Nat.le_refl _),fun x c e=>I.freeC x c (S.sub x c e),fun p hp=>absurd (show p∈([]:List (Addr × Obj)) from hp) (by simp),I.hok.kept k,S.len σ⟩
 ·rcases (hf b hb).2.2.2.1 with z | z
  ·exact I.ok.noex b o e z
  ·exact absurd (Nat.lt_of_lt_of_le (Heap.lt_size e) (Nat.le_trans I.ok.bsz z)) (Nat.lt_irrefl _)
 ·rcases List.mem_cons.mp (I.stkSub b z) with y | y
  ·exact (hf b hb).2.1 y
  ·exact (hf b hb).2.2.1 y
 ·obtain ⟨hk,hko,j,hj,hσ⟩:=S.cap σ i x v e1 e2
  obtain ⟨m,hm,hl⟩:=I.loc
  obtain ⟨u,r,l⟩:=hl j x v hj hσ (by rcases hko with z | z; exact .inr (.inl z); exact .inr (.inr z))
  refine ⟨u,r,.inr ⟨hk,?_⟩⟩
  rcases l with ⟨q,_⟩ | ⟨_,c,hc,q⟩
  ·have q':X.env.scope.names.lookup x=some .local:=q
   rcases hko with z | z <;> (rw [z] at q'; cases q')
  ·obtain ⟨c',hc'⟩:=S.has x hk
   have e:=S.sub x c' hc'
   rw [hc] at e
   cases e
   exact ⟨c,hc',q.keeps k⟩
 ·obtain ⟨v,q⟩:=I.cell x c (S.sub x c e)
  exact ⟨v,q.keeps k⟩
end
section
variable {X:Cx} {elt tg iter:Expr} {ifs:List Expr} {sc:Scope} {pos:Pos} {N:List Str} {cl:List (Str × Addr)} {σc:St->St} {wi:TI} {g:TG} {tt:TT} {te:TE}
structure Gone (X:Cx) (pins:List (Addr × Obj)) (H:Hp) (C:Addr):Prop where
 free:H C=none
 loc:C≠X.env.locals
 new:X.s₀.heap.objs.size≤C
 cell:∀ x c,X.env.cells.lookup x=some c->c≠C
 pin:∀ p∈X.pn++pins,p.1≠C
theorem Inv.gone {pins:List (Addr × Obj)} {σ:St} {H:Hp} {s:Shared} {C:Addr} {h':Heap} (I:Inv X pins σ H s) (G:Gone X pins H C) (sb:Heap.SameBut C s.heap h'):Inv X pins σ H { s with heap:=h' } :=
 I.turned (t':=s.toks) (it:=C) (fun b o n q=>(sb.2 b n).trans q) G.free G.loc (.inr G.new) G.cell G.pin
theorem ZjB {pins : List (Addr × Obj)} {s2 : Shared} {σ : St} {H2 : Hp} {Q : VK} {RR : Value → Addr → Result → Shared → Prop} {E : Value → Shared → Prop} {it : Addr} {fp : List Addr} {tn : Nat → Heap → Prop} {J : It}
  (hc:X.calm=true) (S:CompSc X N sc cl σc) (hg:∀ fp s3 H3,PG (X.block N sc cl fp s3 H3) tg g) (ht:∀ fp s3 H3,PTs (X.block N sc cl fp s3 H3) ifs tt) (he:∀ fp s3 H3,PE (X.block N sc cl fp s3 H3) elt te)
  (I2:Inv X pins σ H2 s2) (T:Turn X.prog X.w X.K tg J fp it tn) (st2:tn 0 s2.heap) (f2:∀ b∈fp,Zmt X pins H2 b)
  (h2:∀ D,H2 D=none->∃ W:Nat->Nat->St->List V->Hp->Prop,(∃ m,W 0 m (σc σ) [] (upd H2 D (.lst [])))∧∀ i m σ1 ys H2,W i m σ1 ys H2->H2 D=some (.lst ys) ∧
   ((J.stop i H2∧Q (.ref D) H2)∨(J.go i H2∧∃ N:St->List V->Hp->Prop,(∀ σ2 ys2 H3,N σ2 ys2 H3->∃ m',m'<m∧W (i+1) m' σ2 ys2 H3) ∧
    ∀ x H3,J.yld i H2 x H3->g x σ1 H3 fun σ2 H4=>tt σ2 H4 fun c H5=>if c=true then te σ2 H5 fun y H6=>H6 D=some (.lst ys)∧ys.length<sizeLine∧N σ2 (ys++[y]) (upd H6 D (.lst (ys++[y]))) else N σ2 ys H5)))
  (hRR:∀ D C m s7 H7,Inv X pins σ H7 s7->s7.heap.Ns C m->Gone X pins H7 C->Q (.ref D) H7->RR (.ref D) C (.ok .next) s7) :
  wpAny (model X.prog X.w) X.A (newList []) (fun acc s₃=>wpAny (model X.prog X.w) X.A (newFunctionEnv sc X.env.globals cl [] X.env.qual none .none (some X.env)) (fun cenv s₄ =>
   codeAny (model X.prog X.w) X.A (.compStart (.ListComp elt [⟨tg,iter,ifs,0⟩] sc pos) 0 (.ref it) acc { cenv with scope:=relabel sc X.env }) (RR acc cenv.locals) s₄) E s₃) E s2:=by
 refine wpAny_newObj_type ?_
 have hD:H2 s2.heap.objs.size=none:=I2.hok.fresh (Nat.le_refl _)
 have I3:Inv X pins σ (upd H2 s2.heap.objs.size (.lst [])) { s2 with heap:=s2.heap.push { cls:=.type "list",dict:=none,data:=.seq ([]:List Value).toArray } } :=
  I2.laid (t':=s2.toks) (fun b u q=>Heap.get?_push_of_some _ q) (Nat.le_refl _) ⟨by decide,[],0,.nil,Heap.get?_push_size _ rfl⟩
 have flt:∀ b∈fp,b<s2.heap.objs.size:=fun b hb=>by
  obtain ⟨o,e,_⟩:=T.obj _ _ st2 b hb
  exact Heap.lt_size e
 obtain ⟨W,⟨m0,w0⟩,turn⟩:=h2 s2.heap.objs.size hD
 have f3:∀ b∈fp,Zmt X pins (upd H2 s2.heap.objs.size (.lst [])) b:=fun b hb=>⟨by rw [Zai (Nat.ne_of_lt (flt b hb))]; exact (f2 b hb).1,(f2 b hb).2⟩
 have st3:tn 0 (s2.heap.push { cls:=.type "list",dict:=none,data:=.seq ([]:List Value).toArray }):=T.keep _ _ _ st2 fun b _ o q=>Heap.get?_push_of_some _ q
 have sz3:s2.heap.objs.size≤(s2.heap.push { cls:=.type "list",dict:=none,data:=.seq ([]:List Value).toArray }).objs.size:=by rw [Heap.size_push]; exact Nat.le_succ _
 generalize s2.heap.push { cls:=.type "list",dict:=none,data:=.seq ([]:List Value).toArray }=h3 at *
 generalize s2.heap.objs.size=D at *
 refine wpAny_newFunctionEnv S.nocell (by intro y hy; simp at hy) (fun h4 hn4 hb4=>?_) S.kind
 dsimp only at hn4 hb4 ⊢
 have k4:∀ b u,h3.get? b=some u->h4.get? b=some u:=fun b u q=>(hb4.2 b (Nat.ne_of_lt (Heap.lt_size q))).trans (Heap.get?_push_of_some _ q)
 have I4:Inv (X.block N sc cl fp { s2 with heap:=h3 } (upd H2 D (.lst []))) [] (σc σ) (upd H2 D (.lst [])) { s2 with heap:=h4,toks:=s2.toks+0 } :=
  I3.block S f3 (fun b hb=>Nat.lt_of_lt_of_le (flt b hb) sz3) k4 hn4
 have st4:tn 0 h4:=T.keep _ _ _ st3 fun b _ o q=>k4 b o q
 have fb:∀ {H':Hp},(∀ b∈fp,H' b=none)->∀ b∈fp,Zmt (X.block N sc cl fp { s2 with heap:=h3 } (upd H2 D (.lst []))) [] H' b:=fun hn b hb =>
  ⟨hn b hb,(I4.ok.exf b hb).1,I4.ok.exfs b hb,.inl hb,(I4.ok.exf b hb).2,fun p hp=>absurd (show p∈([]:List (Addr × Obj)) from hp) (by simp)⟩
 have fin:∀ {σ':St} {H':Hp} {s':Shared} {h':Heap},Inv (X.block N sc cl fp { s2 with heap:=h3 } (upd H2 D (.lst []))) [] σ' H' s'->Heap.SameBut h3.objs.size s'.heap h'->Inv X pins σ H' { s' with heap:=h' }:=fun {σ' H' s' h'} J' sb=>by
  have lt3:∀ b o,h3.get? b=some o->b≠h3.objs.size:=fun b o q=>Nat.ne_of_lt (Heap.lt_size q)
  have lo:H' h3.objs.size=none:=J'.free
  have hk:HOk X.prog X.w H' h':=fun b u e=>(J'.hok b u e).stay (fun c v hcc q=>(sb.2 c (by
   rintro rfl
   rcases hcc with z | z
   ·subst z; rw [lo] at e; cases e
   ·rw [lo] at z; cases z)).trans q) (fun _ q=>q) fun _ _ q=>q
  refine I3.call' (s':={ s' with heap:=h' }) (ch:=fp) J'.os ⟨fun b o q n hb hx=>(sb.2 b (lt3 b o q)).trans (J'.base.keep b o q n hb hx),fun b o q n hb hx=>?_,fun b o q n hx=>J'.base.free b o q n hx,fun b o q hx=>?_,J'.base.tups,J'.base.frzs,J'.base.tbls⟩ hk J'.bare fun b hb=>?_
  ·obtain ⟨sl,q1⟩:=J'.base.slot b o q n hb hx
   exact ⟨sl,(sb.2 b (lt3 b o q)).trans q1⟩
  ·obtain ⟨o1,q1⟩:=J'.base.there b o q hx
   exact ⟨o1,(sb.2 b (lt3 b o q)).trans q1⟩
  ·exact ⟨(f3 b hb).2.2.2.1,(f3 b hb).2.1,(f3 b hb).2.2.2.2.1,(f3 b hb).2.2.2.2.2⟩
 have loop : ∀ s5 : Shared, Inv (X.block N sc cl fp { s2 with heap := h3 } (upd H2 D (.lst []))) [] (σc σ) (upd H2 D (.lst [])) s5 → tn 0 s5.heap →
   codeAny (model X.prog X.w) X.A (.compLoop (.ListComp elt [⟨tg,iter,ifs,0⟩] sc pos) 0 (.ref it) (.ref D) (compEnvC sc cl h3.objs.size X.env)) (RR (.ref D) h3.objs.size) s5:=fun s5 I5 st5=>by
  refine Zko (fun n s'=>∃ i σ' ys H',Inv (X.block N sc cl fp { s2 with heap:=h3 } (upd H2 D (.lst []))) [] σ' H' s'∧tn i s'.heap∧(∀ b∈fp,H' b=none)∧W i n σ' ys H') ?_ m0 ⟨0,_,[],_,I5,st5,fun b hb=>(f3 b hb).1,w0⟩
  rintro n s6 ⟨i,σ6,ys,H6,I6,st6,fr6,w6⟩
  obtain ⟨hDy,step⟩:=turn i n σ6 ys H6 w6
  rcases step with ⟨stop,q6⟩ | ⟨go,Nx,hN,step⟩
  ·refine thn (T.done (X.block N sc cl fp { s2 with heap:=h3 } (upd H2 D (.lst []))) rfl rfl rfl hc i [] s6 σ6 H6 (fun _ _=>False) I6 (fb fr6) st6 stop) fun r s7 ⟨hr,I7⟩=>?_
   subst hr
   obtain ⟨m7,hm7,_⟩:=I7.loc
   refine hRR D h3.objs.size m7 s7 H6 (fin I7 ⟨rfl,fun _ _=>rfl⟩) hm7 ⟨I7.free,Nat.ne_of_gt I3.lt,I3.sz,fun x c e=>?_,fun p hp=>?_⟩ q6
   ·obtain ⟨v,z⟩:=I3.cell x c e
    exact Nat.ne_of_lt z.lt
   ·exact Nat.ne_of_lt (Heap.lt_size (I3.pin p hp).1)
  ·refine thn (T.item (X.block N sc cl fp { s2 with heap:=h3 } (upd H2 D (.lst []))) rfl rfl rfl hc i [] s6 σ6 H6 (fun _ _=>False) I6 (fb fr6) st6 go) fun r s7 ⟨u,hr,h7⟩=>?_
   subst hr
   refine thn h7 fun _ s8 ⟨x,H8,I8,r8,y8,st8,fr8⟩=>?_
   have I8':=I8.pinned (fb fr8) (T.obj _ _ st8)
   refine thn (hg _ _ _ _ s8 σ6 H8 x u _ I8' r8 (step x H8 y8)) fun _ s9 ⟨σ9,H9,I9,q9⟩=>?_
   refine thn (ht _ _ _ _ s9 σ9 H9 _ I9 q9) fun c sA ⟨HA,IA,qA⟩=>?_
   have again : ∀ {σB : St} {HB : Hp} {sB : Shared} {zs : List V}, Inv (X.block N sc cl fp { s2 with heap := h3 } (upd H2 D (.lst []))) ([] ++ ZjR fp s8.heap) σB HB sB → Nx σB zs HB →
     ∃ m,m<n∧∃ i σ' ys H',Inv (X.block N sc cl fp { s2 with heap:=h3 } (upd H2 D (.lst []))) [] σ' H' sB∧tn i sB.heap∧(∀ b∈fp,H' b=none)∧W i m σ' ys H':=fun {σB HB sB zs} IB nB=>by
    obtain ⟨m',hm,wB⟩:=hN σB zs HB nB
    refine ⟨m',hm,i+1,σB,zs,HB,IB.unpinned,T.keep _ _ _ st8 fun b hb o e=>(IB.pin (b,o) (List.mem_append_right _ (List.mem_append_right _ (Zem hb e)))).1,fun b hb=>?_,wB⟩
    obtain ⟨o,e,d⟩:=T.obj _ _ st8 b hb
    exact (IB.pin (b,o) (List.mem_append_right _ (List.mem_append_right _ (Zem hb e)))).2.1
   cases c with
   | false=>exact again IA qA
   | true =>
    refine thn (he _ _ _ _ sA σ9 HA _ IA qA) fun y sB ⟨yv,HB,IB,rB,dB,lB,qB⟩=>?_
    exact thn (Zfs (X:=X.block N sc cl fp { s2 with heap:=h3 } (upd H2 D (.lst []))) _ sB σ9 HB (.ref D) [yv] (.ref D) [y] (fun v H'=>v=.non∧Nx σ9 (ys++[yv]) H') IB rfl (.cons rB .nil) ⟨D,ys,yv,rfl,rfl,dB,lB,rfl,qB⟩) fun _ sC ⟨_,HC,IC,_,_,qC⟩=>again IC qC
 refine codeAny_compStart_list (loop _ I4 st4) ?_
 exact T.self _ 0 _ _ _ st4 (loop _ I4 st4)
theorem ZdF (hc : X.calm=true) (S : CompSc X N sc cl σc) (hi : PI X tg iter wi) (hg : ∀ fp s3 H3, PG (X.block N sc cl fp s3 H3) tg g) (ht : ∀ fp s3 H3, PTs (X.block N sc cl fp s3 H3) ifs tt) (he : ∀ fp s3 H3, PE (X.block N sc cl fp s3 H3) elt te)
  (hs:∀ x,foldedSetIterable iter X.env x=pure x:=by intro _; rfl):PE X (.ListComp elt [⟨tg,iter,ifs,0⟩] sc pos) (ZqF wi σc g tt te):=by
 intro pins s σ H Q I h
 rw [eval_ListComp]
 refine wpAny_comprehension_free rfl hs S.clos S.kind S.names (thn (hi pins s σ H _ I h) fun v s1 h1=>thn h1 fun itv s2 h2=>?_)
 obtain ⟨it,fp,tn,J,H2,e,I2,T,st2,f2,h2⟩:=h2
 subst e
 exact ZjB (Q:=Q) hc S hg ht he I2 T st2 f2 h2 fun D C m s7 H7 I7 n7 G q=>⟨m,n7,fun h' sb=>⟨.ref D,H7,I7.gone G sb,rfl,q⟩⟩
theorem ZnQ {i : Nat} {x : Str} {pos' spos : Pos} (hc : X.calm=true) (hN : X.N.Nodup) (hi' : X.N[i]?=some x) (hx : Loc X.env.scope x) (S : CompSc X N sc cl σc) (hi : PI X tg iter wi)
  (hg:∀ fp s3 H3,PG (X.block N sc cl fp s3 H3) tg g) (ht:∀ fp s3 H3,PTs (X.block N sc cl fp s3 H3) ifs tt) (he:∀ fp s3 H3,PE (X.block N sc cl fp s3 H3) elt te)
  (hs:∀ x,foldedSetIterable iter X.env x=pure x:=by intro _; rfl) (hsw:swapsWith (.ListComp elt [⟨tg,iter,ifs,0⟩] sc pos) (some (.Name x pos')) spos.line X.env=pure true:=by rfl)
  (hf:X.fn x=true∨X.env.scope.names.lookup x=some .local:=by first | exact .inl rfl | exact .inr rfl | assumption) :
  PS X (.Assign [.Name x pos'] (.ListComp elt [⟨tg,iter,ifs,0⟩] sc pos) spos) (Zse (ZqF wi σc g tt te) (ZiJ i)):=by
 intro pins s σ H D I h
 rw [exec_Assign_Name_used _ _ _ _ hsw]
 refine wpAny_bind (wpAny_standAt (wpAny_bind ?_))
 show wpAny _ _ (comprehension (.ListComp elt [⟨tg,iter,ifs,0⟩] sc pos) sc X.env (firstIterPos [⟨tg,iter,ifs,0⟩] pos) (newList []) (firstAsync [⟨tg,iter,ifs,0⟩]) (firstIter [⟨tg,iter,ifs,0⟩] X.env) (some (assign (.Name x pos') X.env)) >>= fun _=>pure ()) _ _ s
 refine wpAny_bind (wpAny_mono (Q:=fun _ s'=>SP X pins D .next s') ?_ (fun _ s' q=>wpAny_pure (wpAny_pure q)) fun _ _ z=>z)
 refine wpAny_comprehension_free rfl hs S.clos S.kind S.names (thn (hi pins s σ H _ I h) fun v s1 h1=>thn h1 fun itv s2 h2=>?_)
 obtain ⟨it,fp,tn,J,H2,e,I2,T,st2,f2,h2⟩:=h2
 subst e
 refine ZjB (Q:=fun v H'=>D.nx (σ.set i (some v)) H') hc S hg ht he I2 T st2 f2 h2 fun d C m s7 H7 I7 n7 G q=>?_
 show wpAny _ _ (assign (.Name x pos') X.env (.ref d)) _ _ s7
 refine wpAny_assign_Name (Zj3 (v:=.ref d) I7 hN hi' hx rfl (fun s8 I8 ch=>?_) hf)
 obtain ⟨a,sb,ha⟩:=ch
 have aC:C≠a:=by
  rcases ha with z | z
  ·rw [z]; exact G.loc
  ·exact (G.cell x a z).symm
 exact ⟨m,n7.sameBut sb aC,fun h' sb'=>⟨_,H7,I8.gone G sb',q⟩⟩
end
noncomputable def Itw (n:Nat) (V1:Nat->V->Prop):It:=⟨fun i _=>i<n,fun i H x H'=>H'=H∧V1 i x,fun i _=>i=n⟩
theorem Zid {P : Program} {w : World} {K : PySem.W.Frag} {tg : Expr} {it : Addr} {n : Nat} {Pv : Nat → Value → Prop} {V1 : Nat → V → Prop} {st : Nat → Heap → Prop}
  (W:∀ A:Around,A.handled=none->Walks P w A it [it] [it] n Pv st) (ob:∀ i h,st i h->∃ o,h.get? it=some o∧∀ v,o.data≠.cell v) (val:∀ i v,Pv i v->∃ x,RelV x v∧V1 i x)
  (own:∀ i v s (M:Model) (A:Around) (E:Value->Shared->Prop) (Q:Unit->Shared->Prop),Pv i v->Q () s->wpAny M A (letOwnedTupleGo tg (.ref it) v) Q E s)
  (self:∀ (A:Around) (i:Nat) (s:Shared) (Q:Value->Shared->Prop) (E:Value->Shared->Prop),st i s.heap->Q (.ref it) s->wpAny (model P w) A (pyIter (.ref it)) Q E s):Turn P w K tg (Itw n V1) [it] it st where
 mem:=by simp
 obj:=fun i h hs b hb=>by
  have e:b=it:=by simpa using hb
  subst e
  exact ob i h hs
 keep:=fun i h h' hs k=>(W {} rfl).frame i h h' hs k
 item:=fun X hP hw hK hc i pins s σ H E I hf hs go=>by
  subst hP hw hK
  refine (W X.A (I.ok.hd hc)).item i s _ E go hs fun v h' tk pv hs' k=>⟨v,rfl,?_⟩
  obtain ⟨x,rx,vx⟩:=val i v pv
  obtain ⟨f0,f1,_,f3,f4,f5⟩:=hf it (by simp)
  have I':Inv X pins σ H { s with heap:=h',toks:=tk }:=I.turned (it:=it) (fun b o n q=>k b o (by simpa using n) q) f0 f1 f3 f4 f5
  refine own i v _ _ _ _ _ pv ⟨x,H,I',rx,⟨rfl,vx⟩,hs',fun b hb=>?_⟩
  have e:b=it:=by simpa using hb
  subst e
  exact f0
 done:=fun X hP hw hK hc i pins s σ H E I hf hs stop=>by
  subst hP hw hK
  have e:i=n:=stop
  subst e
  obtain ⟨f0,f1,_,f3,f4,f5⟩:=hf it (by simp)
  exact (W X.A (I.ok.hd hc)).done s _ E hs fun h' tk k=>⟨rfl,I.turned (it:=it) (fun b o n q=>k b o (by simpa using n) q) f0 f1 f3 f4 f5⟩
 self:=self
def Zsw (te:TE):TI:=fun σ H R=>te σ H fun x H1=>∃ z,x=.str z∧R (Itw z.cps.size fun i y=>∃ c,z.cps[i]?=some c∧y=.str ⟨#[c]⟩) H1
theorem ZnL {M:Model} {A:Around} {E:Value->Shared->Prop} {s:Shared} {tg:Expr} {it:Addr} {z:Str} {t:Tok} {Q:Unit->Shared->Prop} (q:Q () s):wpAny M A (letOwnedTupleGo tg (.ref it) (.str z t)) Q E s:=by
 unfold letOwnedTupleGo
 cases tg <;> exact wpAny_pure q
theorem ZqR {X:Cx} {tg e:Expr} {te:TE} (he:PE X e te):PI X tg e (Zsw te):=by
 intro pins s σ H R I h
 refine thn (he pins s σ H _ I h) fun v s1 ⟨x,H1,I1,r1,z,e1,q⟩=>?_
 subst e1
 obtain ⟨t,rfl⟩:=r1
 have fr:H1 s1.heap.objs.size=none:=I1.hok.fresh (Nat.le_refl _)
 by_cases low:z.cps.all (·<128)=true
 ·refine wpAny_pyIter_ascii low ⟨s1.heap.objs.size,[s1.heap.objs.size],fun i h=>h.IsStrIter s1.heap.objs.size "str_ascii_iterator" z t i,_,H1,rfl,I1.kept (t':=s1.toks) fun b u q=>Heap.get?_push_of_some _ q,
   Zid (fun A hA=>Walks.strAscii hA _ z t) (fun i h ⟨o,ho,_,hd⟩=>⟨o,ho,fun v q=>by rw [hd] at q; cases q⟩) (fun i v ⟨c,u,hc,hv⟩=>⟨.str ⟨#[c]⟩,⟨u,hv⟩,c,hc,rfl⟩) (fun i v s M A E Q ⟨c,u,_,hv⟩ hq=>by rw [hv]; exact ZnL hq) fun A i s Q E hs hq=>wpAny_pyIter_striter_ascii hs hq,
   ⟨_,Heap.get?_push_size _ rfl,rfl,rfl⟩,fun b hb=>?_,q⟩
  have e:b=s1.heap.objs.size:=by simpa using hb
  subst e
  exact I1.fpOk (Nat.le_refl _) fr
 ·refine wpAny_pyIter_wide (Bool.eq_false_iff.mpr low) ⟨s1.heap.objs.size,[s1.heap.objs.size],fun i h=>h.IsStrIter s1.heap.objs.size "str_iterator" z t i,_,H1,rfl,I1.kept (t':=s1.toks) fun b u q=>Heap.get?_push_of_some _ q,
   Zid (fun A hA=>Walks.strWide hA _ z t) (fun i h ⟨o,ho,_,hd⟩=>⟨o,ho,fun v q=>by rw [hd] at q; cases q⟩) (fun i v ⟨c,u,hc,hv⟩=>⟨.str ⟨#[c]⟩,⟨u,hv⟩,c,hc,rfl⟩) (fun i v s M A E Q ⟨c,u,_,hv⟩ hq=>by rw [hv]; exact ZnL hq) fun A i s Q E hs hq=>wpAny_pyIter_striter_wide hs hq,
   ⟨_,Heap.get?_push_size _ rfl,rfl,rfl⟩,fun b hb=>?_,q⟩
  have e:b=s1.heap.objs.size:=by simpa using hb
  subst e
  exact I1.fpOk (Nat.le_refl _) fr
section
variable {prog:Program} {w:World} {A:Around} {s:Shared}
theorem ZeB (hh : A.handled=none) (it t : Addr) (hne : t ≠ it) (us : Array Value) :
  Draws prog w A it [it,t] us.size (fun i v=>us[i]?=some v) (fun i h=>h.IsTupleIter it t i∧h.IsTuple t us) where
 live:=fun _ _ ⟨⟨o,e,_⟩,_⟩=>⟨o,e⟩
 frame:=fun _ _ _ ⟨⟨o,e,r⟩,⟨o',e',r'⟩⟩ k=>⟨⟨o,k it (by simp) o e,r⟩,⟨o',k t (by simp) o' e',r'⟩⟩
 item:=by
  intro i s Q E hi ⟨st,ht⟩ hQ
  have e:us[i]?=some us[i]:=by simp [hi]
  obtain ⟨o,ho,c,d⟩:=id st
  obtain ⟨ot,hot,_,n,dt⟩:=id ht
  unfold Builtin.SmallTypes.nextOf
  refine wpAny_bind (wpAny_callSpecial?_slot (name:=Str.ofString "__next__") st.typeIs F.slot_tuple_iterator_next (wpAny_call_entry F.slot_tuple_iterator_next st.typeIs F.entry_tuple_iterator_next ?_ (F.args_tuple_iterator_next_1 _)))
  unfold Builtin.«tuple_iterator.__next__»
  refine wpAny_bind (m:=field (.ref it) 0) (wpAny_field ho d (x:=.ref t) rfl ?_)
  rw [if_neg (show ¬ ((Value.ref t == Value.none)=true) from Bool.false_ne_true)]
  refine wpAny_bind (m:=field (.ref it) 1) (wpAny_field ho d (x:=.int i 0) rfl (wpAny_bind (m:=seqItems? (.ref t)) (wpAny_seqItems hot dt ?_)))
  simp only [Int.toNat_natCast,e]
  have sb:=Heap.SameBut.update s.heap it (Obj.mapFields (·.setIfInBounds 1 (rawInt (i+1))))
  exact wpAny_bind (wpAny_setField ho d (by simp) (wpAny_pure ⟨_,rfl,wpAny_pure (hQ _ _ s.toks e ⟨⟨_,Heap.get?_update_self _ ho (Obj.isFreed_of_fields (Obj.data_mapFields d _)),(Obj.cls_mapFields ..).trans c,by rw [Obj.data_mapFields d]; simp [rawInt]⟩,ht.extBut sb.extBut hne⟩ sb)⟩))
 done:=by
  intro s Q E ⟨st,ht⟩ hE
  have e:us[us.size]?=none:=by simp
  obtain ⟨o,ho,c,d⟩:=id st
  obtain ⟨ot,hot,_,n,dt⟩:=id ht
  unfold Builtin.SmallTypes.nextOf
  refine wpAny_bind (wpAny_callSpecial?_slot (name:=Str.ofString "__next__") st.typeIs F.slot_tuple_iterator_next (wpAny_call_entry F.slot_tuple_iterator_next st.typeIs F.entry_tuple_iterator_next ?_ (F.args_tuple_iterator_next_1 _)))
  unfold Builtin.«tuple_iterator.__next__»
  refine wpAny_bind (m:=field (.ref it) 0) (wpAny_field ho d (x:=.ref t) rfl ?_)
  rw [if_neg (show ¬ ((Value.ref t == Value.none)=true) from Bool.false_ne_true)]
  refine wpAny_bind (m:=field (.ref it) 1) (wpAny_field ho d (x:=.int us.size 0) rfl (wpAny_bind (m:=seqItems? (.ref t)) (wpAny_seqItems hot dt ?_)))
  simp only [Int.toNat_natCast,e]
  refine wpAny_bind (wpAny_rule (wpAny_bind (wpAny_setField ho d (by simp) ?_)))
  refine wpAny_bind (m:=newExc (.type "StopIteration") []) ?_
  simp only [newExc,newTuple]
  refine wpAny_bind (wpAny_newObj_type (wpAny_bind (m:=firstArgMember _ _) (wpAny_of_eq (a:=Value.none) (by first | rfl | (simp only [firstArgMember]; rfl)) (wpAny_newObj_type ?_ (by size_fits)))) (by size_fits))
  simp only [raiseNew]
  refine wpAny_bind (wpAny_handled ?_)
  first | rw [show A.in1.handled=none from hh] | rw [hh]
  exact wpAny_bind (wpAny_pure (wpAny_throw (hE _ _ (((Heap.SameBut.update ..).extBut.push _).push _) ⟨_,Heap.get?_push_size _ rfl,rfl⟩)))
end
structure ZAp (z TI TO i1 i2:Addr) (f1 f2:List Addr):Prop where
 TIz:TI≠z
 TOz:TO≠z
 i1z:i1≠z
 i2z:i2≠z
 TITO:TI≠TO
 TIi1:TI≠i1
 TIi2:TI≠i2
 TOi1:TO≠i1
 TOi2:TO≠i2
 i12:i1≠i2
 z1:z ∉ f1
 z2:z ∉ f2
 o1:TO ∉ f1
 o2:TO ∉ f2
 b1:i2 ∉ f1
 b2:i1 ∉ f2
section
variable {prog:Program} {w:World} {A:Around} {E:Value->Shared->Prop} {s:Shared} {z TI TO i1 i2:Addr} {f1 f2:List Addr} {n1 n2 k1 k2:Nat} {P1 P2:Nat->Value->Prop} {S1 S2:Nat->Heap->Prop} {a b:Value}
theorem Draws.but {it c:Addr} {fp:List Addr} {n i:Nat} {P:Nat->Value->Prop} {St:Nat->Heap->Prop} {h h':Heap} (D:Draws prog w A it fp n P St) (st:St i h) (e:Heap.ExtBut c h h') (hc:c ∉ fp):St i h' :=
 D.frame _ _ _ st fun b hb o q=>e b o (fun x=>hc (x ▸ hb)) q
theorem ZoB {Q : Value → Shared → Prop} (Z : ZAp z TI TO i1 i2 f1 f2) (D1 : Draws prog w A i1 f1 n1 P1 S1) (D2 : Draws prog w A i2 f2 n2 P2 S2) (hz : IsZip s.heap z TI TO .none) (hTI : IsPair s.heap TI (.ref i1) (.ref i2)) (hTO : IsPair s.heap TO a b)
  (g1:S1 k1 s.heap) (g2:S2 k2 s.heap) (l1:k1<n1) (l2:k2<n2)
  (hQ:∀ x y h' tk,P1 k1 x->P2 k2 y->IsZip h' z TI TO (rawInt s.heap.objs.size)->IsPair h' TO x y->S1 (k1+1) h'->S2 (k2+1) h'->IsPair h' s.heap.objs.size x y →
   (∀ c o,c≠z->c≠TO->c≠i1->c≠i2->s.heap.get? c=some o->h'.get? c=some o)->Q (.ref s.heap.objs.size) { s with heap:=h',toks:=tk }) :
  wpAny (model prog w) A (Builtin.«zip.__next__» ⟨[.ref z],[]⟩) (fun fin s'=>∃ v,fin=.done (.ret v)∧Q v s') E s:=by
 unfold Builtin.«zip.__next__»
 refine wpAny_bind (m:=field (.ref z) 2) (wpAny_field hz rfl (x:=.bool false) rfl ?_)
 refine wpAny_bind (m:=field (.ref z) 3) (wpAny_field hz rfl (x:=.ref TI) rfl (wpAny_bind (wpAny_seqItems hTI rfl ?_)))
 refine wpAny_bind (m:=Builtin.SmallTypes.ownedTupleIsFree (.ref z)) ?_
 unfold Builtin.SmallTypes.ownedTupleIsFree
 refine wpAny_bind (wpAny_field hz rfl (x:=.none) rfl (wpAny_pure ?_))
 simp only [if_true]
 refine wpAny_bind (wpAny_rule (wpAny_bind (wpAny_field hz rfl (x:=.ref TO) rfl (wpAny_bind (wpAny_setField_rec hz (by simp) fun hA zA sA=>wpAny_bind ?_)))))
 replace zA:IsZip hA z TI TO .ellipsis:=zA
 simp only [List.zipIdx_cons,List.zipIdx_nil,List.forIn_cons,List.forIn_nil]
 refine wpAny_bind (wpAny_bind (wpAny_onRaise (wpAny_bind (m:=Builtin.SmallTypes.nextOf (.ref i1)) (D1.item k1 _ _ _ l1 (Draws.but D1 g1 sA.extBut Z.z1) fun x hB tB px gB sB=>wpAny_pure ?_))))
 have oB:IsPair hB TO a b:=sB.extBut _ _ Z.TOi1 (sA.extBut _ _ Z.TOz hTO)
 refine wpAny_bind (wpAny_seqItems oB rfl (wpAny_bind (wpAny_updateSeq_pair oB fun hC oC sC=>wpAny_bind (wpAny_letGo (wpAny_pure ?_)))))
 replace oC:IsPair hC TO x b:=oC
 refine wpAny_bind (wpAny_bind (wpAny_onRaise (wpAny_bind (m:=Builtin.SmallTypes.nextOf (.ref i2)) (D2.item k2 _ _ _ l2 (Draws.but D2 (Draws.but D2 (Draws.but D2 g2 sA.extBut Z.z2) sB.extBut Z.b2) sC.extBut Z.o2) fun y hD tD py gD sD=>wpAny_pure ?_))))
 have oD:IsPair hD TO x b:=sD.extBut _ _ Z.TOi2 oC
 refine wpAny_bind (wpAny_seqItems oD rfl (wpAny_bind (wpAny_updateSeq_pair oD fun hE oE sE=>wpAny_bind (wpAny_letGo (wpAny_pure (wpAny_pure ?_))))))
 replace oE:IsPair hE TO x y:=oE
 have zE:IsZip hE z TI TO .ellipsis:=sE.extBut _ _ Z.TOz.symm (sD.extBut _ _ Z.i2z.symm (sC.extBut _ _ Z.TOz.symm (sB.extBut _ _ Z.i1z.symm zA)))
 have sz:hE.objs.size=s.heap.objs.size:=by rw [sE.1,sD.1,sC.1,sB.1,sA.1]
 have kE:∀ c o,c≠z->c≠TO->c≠i1->c≠i2->s.heap.get? c=some o->hE.get? c=some o:=fun c o c1 c2 c3 c4 e=>sE.extBut _ _ c2 (sD.extBut _ _ c4 (sC.extBut _ _ c2 (sB.extBut _ _ c3 (sA.extBut _ _ c1 e))))
 have d1:S1 (k1+1) hE:=Draws.but D1 (Draws.but D1 (Draws.but D1 gB sC.extBut Z.o1) sD.extBut Z.b1) sE.extBut Z.o1
 have d2:S2 (k2+1) hE:=Draws.but D2 gD sE.extBut Z.o2
 refine wpAny_bind (wpAny_seqItems oE rfl (wpAny_bind (wpAny_newTuple ?_)))
 refine wpAny_bind (m:=Builtin.SmallTypes.ownedTupleHandOut (.ref z) (.ref hE.objs.size)) ?_
 unfold Builtin.SmallTypes.ownedTupleHandOut
 have zF:IsZip (hE.push { cls:=.type "tuple",data:=.seq #[x,y] }) z TI TO .ellipsis:=Heap.get?_push_of_some _ zE
 refine wpAny_bind (wpAny_setField_rec zF (by simp) fun hG zG sG=>?_)
 replace zG:IsZip hG z TI TO (rawInt hE.objs.size):=zG
 refine wpAny_setField_rec zG (by simp) fun hI zI sI=>wpAny_pure ⟨_,rfl,?_⟩
 replace zI:IsZip hI z TI TO (rawInt hE.objs.size):=zI
 have up:∀ c o,c≠z->hE.get? c=some o->hI.get? c=some o:=fun c o c1 e=>sI.extBut _ _ c1 (sG.extBut _ _ c1 (Heap.get?_push_of_some _ e))
 have zl:hE.objs.size≠z:=Nat.ne_of_gt (Heap.lt_size zE)
 have tI:IsPair hI hE.objs.size x y:=sI.extBut _ _ zl (sG.extBut _ _ zl (Heap.get?_push_size _ rfl))
 show Q (.ref hE.objs.size) _
 rw [sz] at zI tI ⊢
 exact hQ x y hI tD px py zI (up _ _ Z.TOz oE) (D1.frame _ _ _ d1 fun c hc o e=>up c o (fun q=>Z.z1 (q ▸ hc)) e) (D2.frame _ _ _ d2 fun c hc o e=>up c o (fun q=>Z.z2 (q ▸ hc)) e) tI fun c o c1 c2 c3 c4 e=>up c o c1 (kE c o c1 c2 c3 c4 e)
theorem Zof {Q : Fin → Shared → Prop} (Z : ZAp z TI TO i1 i2 f1 f2) (D1 : Draws prog w A i1 f1 n1 P1 S1) (hz : IsZip s.heap z TI TO .none) (hTI : IsPair s.heap TI (.ref i1) (.ref i2))
  (g1:S1 n1 s.heap)
  (hE:∀ h' e,(∀ c o,c≠z->c≠TO->c≠i1->c≠i2->s.heap.get? c=some o->h'.get? c=some o)->(∃ o,h'.get? e=some o∧o.cls=.type "StopIteration")->E (.ref e) { s with heap:=h' }) :
  wpAny (model prog w) A (Builtin.«zip.__next__» ⟨[.ref z],[]⟩) Q E s:=by
 unfold Builtin.«zip.__next__»
 refine wpAny_bind (m:=field (.ref z) 2) (wpAny_field hz rfl (x:=.bool false) rfl ?_)
 refine wpAny_bind (m:=field (.ref z) 3) (wpAny_field hz rfl (x:=.ref TI) rfl (wpAny_bind (wpAny_seqItems hTI rfl ?_)))
 refine wpAny_bind (m:=Builtin.SmallTypes.ownedTupleIsFree (.ref z)) ?_
 unfold Builtin.SmallTypes.ownedTupleIsFree
 refine wpAny_bind (wpAny_field hz rfl (x:=.none) rfl (wpAny_pure ?_))
 simp only [if_true]
 refine wpAny_bind (wpAny_rule (wpAny_bind (wpAny_field hz rfl (x:=.ref TO) rfl (wpAny_bind (wpAny_setField_rec hz (by simp) fun hA zA sA=>wpAny_bind ?_)))))
 replace zA:IsZip hA z TI TO .ellipsis:=zA
 simp only [List.zipIdx_cons,List.zipIdx_nil,List.forIn_cons,List.forIn_nil]
 refine wpAny_bind (wpAny_bind (wpAny_onRaise (wpAny_bind (m:=Builtin.SmallTypes.nextOf (.ref i1)) (D1.done _ _ _ (Draws.but D1 g1 sA.extBut Z.z1) fun hB e sB he=>?_))))
 obtain ⟨o,ho,c⟩:=he
 have zB:IsZip hB z TI TO .ellipsis:=sB _ _ Z.i1z.symm zA
 have ez:e≠z:=fun q=>by
  subst q
  rw [zB] at ho
  cases ho
  simp at c
 exact wpAny_setField_rec zB (by simp) fun hC _ sC=>hE hC e (fun c o c1 _ c3 _ q=>sC.extBut _ _ c1 (sB _ _ c3 (sA.extBut _ _ c1 q))) ⟨o,sC.extBut _ _ ez ho,c⟩
theorem ZmG {Q : Option Value → Shared → Prop} (Z : ZAp z TI TO i1 i2 f1 f2) (D1 : Draws prog w A.in1 i1 f1 n1 P1 S1) (D2 : Draws prog w A.in1 i2 f2 n2 P2 S2) (hz : IsZip s.heap z TI TO .none) (hTI : IsPair s.heap TI (.ref i1) (.ref i2)) (hTO : IsPair s.heap TO a b)
  (g1:S1 k1 s.heap) (g2:S2 k2 s.heap) (l1:k1<n1) (l2:k2<n2)
  (hQ:∀ x y h' tk,P1 k1 x->P2 k2 y->IsZip h' z TI TO (rawInt s.heap.objs.size)->IsPair h' TO x y->S1 (k1+1) h'->S2 (k2+1) h'->IsPair h' s.heap.objs.size x y →
   (∀ c o,c≠z->c≠TO->c≠i1->c≠i2->s.heap.get? c=some o->h'.get? c=some o)->Q (some (.ref s.heap.objs.size)) { s with heap:=h',toks:=tk }) :
  wpAny (model prog w) A (pyNext (.ref z)) Q E s:=by
 have T:s.TypeIs (.ref z) "zip":=⟨_,hz,rfl⟩
 unfold pyNext
 exact wpAny_bind (wpAny_attempt (wpAny_callSpecial?_slot (name:=Str.ofString "__next__") T F.slot_zip_next (wpAny_call_entry F.slot_zip_next T F.entry_zip_next
  (ZoB Z D1 D2 hz hTI hTO g1 g2 l1 l2 fun x y h' tk a1 a2 a3 a4 a5 a6 a7 a8=>wpAny_pure (hQ x y h' tk a1 a2 a3 a4 a5 a6 a7 a8)) (F.args_zip_next_1 _))))
theorem Zo5 {Q : Option Value → Shared → Prop} (Z : ZAp z TI TO i1 i2 f1 f2) (D1 : Draws prog w A.in1 i1 f1 n1 P1 S1) (hz : IsZip s.heap z TI TO .none) (hTI : IsPair s.heap TI (.ref i1) (.ref i2)) (g1 : S1 n1 s.heap)
  (hQ:∀ h',(∀ c o,c≠z->c≠TO->c≠i1->c≠i2->s.heap.get? c=some o->h'.get? c=some o)->Q none { s with heap:=h' }):wpAny (model prog w) A (pyNext (.ref z)) Q E s:=by
 have T:s.TypeIs (.ref z) "zip":=⟨_,hz,rfl⟩
 unfold pyNext
 refine wpAny_bind (wpAny_attempt (wpAny_callSpecial?_slot (name:=Str.ofString "__next__") T F.slot_zip_next (wpAny_call_entry F.slot_zip_next T F.entry_zip_next (Zof Z D1 hz hTI g1 fun h' e k he=>?_) (F.args_zip_next_1 _))))
 obtain ⟨o,ho,c⟩:=he
 exact wpAny_bind (wpAny_isInstance (T:="StopIteration") (b:=true) ⟨o,ho,c⟩ isSubtype_stop (wpAny_pure (hQ _ k)))
end
section
variable {X:Cx} {pins:List (Addr × Obj)} {σ:St} {H:Hp} {s:Shared} {h':Heap}
theorem Inv.turnedAll {t':Nat} {ch:List Addr} (I:Inv X pins σ H s) (hf:∀ b∈ch,Zmt X pins H b) (k:∀ b o,b ∉ ch->s.heap.get? b=some o->h'.get? b=some o):Inv X pins σ H { s with heap:=h',toks:=t' }:=by
 have nit:∀ b u,H b=some u->b ∉ ch:=fun b u e z=>by rw [(hf b z).1] at e; cases e
 refine I.step (g':=s.gens) (d':=s.drawn) (ch:=ch) (fun b hb=>⟨(hf b hb).2.2.2.1,(hf b hb).2.1,(hf b hb).2.2.2.2⟩) (fun b o _ _ hc e _=>k b o hc e) (fun b o _ _ hc e _=>⟨o.slots,k b o hc e⟩) (fun _ _ _ _ n=>n)
  (fun b o hc e=>⟨o,k b o hc e⟩) (fun _ _ e=>e) (fun _ _ _ e=>e) (fun b ps e=>⟨#[],by rw [e]; simp⟩) (fun m hm=>?_) (fun b u e=>?_) I.bare
 ·obtain ⟨o,es,ep,ho,r⟩:=hm
  exact ⟨o,es,ep,k _ o (fun z=>(hf _ z).2.1 rfl) ho,r⟩
 ·refine (I.hok b u e).stay (fun c v hc q=>k c v ?_ q) (fun _ q=>q) fun _ _ q=>q
  rcases hc with z | z
  ·rw [z]; exact nit b u e
  ·exact nit c _ z
theorem Inv.turnedLaid {t' : Nat} {ch : List Addr} {T : Addr} {o : HO} (I : Inv X pins σ H s) (hf : ∀ b ∈ ch, Zmt X pins H b) (k : ∀ b o, b ∉ ch → s.heap.get? b=some o → h'.get? b=some o) (hp : s.heap.objs.size ≤ T) (new : ObjOk X.prog X.w (upd H T o) h' T o) :
  Inv X pins σ (upd H T o) { s with heap:=h',toks:=t' }:=by
 have nit:∀ b u,H b=some u->b ∉ ch:=fun b u e z=>by rw [(hf b z).1] at e; cases e
 have hn:=I.hok.fresh hp
 have up:∀ {b u},H b=some u->upd H T o b=some u:=fun {b u} e=>by rw [Zai (Zal e hn)]; exact e
 refine I.step (g':=s.gens) (d':=s.drawn) (ch:=ch) (fun b hb=>⟨(hf b hb).2.2.2.1,(hf b hb).2.1,(hf b hb).2.2.2.2⟩) (fun b o _ _ hc e _=>k b o hc e) (fun b o _ _ hc e _=>⟨o.slots,k b o hc e⟩) (fun b u _ e n=>?_)
  (fun b o hc e=>⟨o,k b o hc e⟩) (fun _ _ e=>up e) (fun _ _ _ e=>up e) (fun b ps e=>⟨#[],by rw [up e]; simp⟩) (fun m hm=>?_) (fun b u e=>?_) I.bare
 ·rw [Zai (fun z=>absurd (Heap.lt_size e) (by rw [z]; exact Nat.not_lt.mpr hp))]
  exact n
 ·obtain ⟨o,es,ep,ho,r⟩:=hm
  exact ⟨o,es,ep,k _ o (fun z=>(hf _ z).2.1 rfl) ho,r⟩
 ·by_cases hb:b=T
  ·subst hb
   rw [Zab] at e
   cases e
   exact new
  ·rw [Zai hb] at e
   refine (I.hok b u e).stay (fun c v hc q=>k c v ?_ q) (fun _ q=>up q) fun _ _ q=>up q
   rcases hc with z | z
   ·rw [z]; exact nit b u e
   ·exact nit c _ z
end
noncomputable def Itz (K:W.Frag) (a b:Addr):It :=
 ⟨fun i H => ∃ xs ys x y, SqT K H a xs ∧ SqT K H b ys ∧ xs[i]?=some x ∧ ys[i]?=some y,
  fun i H v H'=>∃ T x y,H T=none∧v=.ref T∧(∀ xs,SqT K H a xs->xs[i]?=some x)∧(∀ ys,SqT K H b ys->ys[i]?=some y)∧H'=upd H T (.tup [x,y]),
  fun i H=>∃ xs,SqT K H a xs∧xs.length=i⟩
def ZSt (z TI TO i1 i2 a b:Addr) (i:Nat) (h:Heap):Prop:=IsZip h z TI TO .none∧IsPair h TI (.ref i1) (.ref i2)∧(∃ u v,IsPair h TO u v)∧h.IsTupleIter i1 a i∧h.IsTupleIter i2 b i
theorem ZoS {P : Program} {w : World} {K : W.Frag} {es : List Expr} {n : Nat} {pos : Pos} {z TI TO i1 i2 a b : Addr} (Z : ZAp z TI TO i1 i2 [i1, a] [i2, b]) (ha : a ≠ i1) (hb : b ≠ i2) :
  Turn P w K (.Tuple es n pos) (Itz K a b) [z,TI,TO,i1,i2] z (ZSt z TI TO i1 i2 a b) where
 mem:=by simp
 obj:=fun i h ⟨h1,h2,⟨u,v,h3⟩,⟨o4,h4,_,d4⟩,⟨o5,h5,_,d5⟩⟩ c hc=>by
  simp only [List.mem_cons,List.not_mem_nil,or_false] at hc
  rcases hc with rfl | rfl | rfl | rfl | rfl
  ·exact ⟨_,h1,fun v q=>by cases q⟩
  ·exact ⟨_,h2,fun v q=>by cases q⟩
  ·exact ⟨_,h3,fun v q=>by cases q⟩
  ·exact ⟨_,h4,fun v q=>by rw [d4] at q; cases q⟩
  ·exact ⟨_,h5,fun v q=>by rw [d5] at q; cases q⟩
 keep:=fun i h h' ⟨h1,h2,⟨u,v,h3⟩,⟨o4,h4,r4⟩,⟨o5,h5,r5⟩⟩ k =>
  ⟨k _ (by simp) _ h1,k _ (by simp) _ h2,⟨u,v,k _ (by simp) _ h3⟩,⟨o4,k _ (by simp) _ h4,r4⟩,⟨o5,k _ (by simp) _ h5,r5⟩⟩
 item:=by
  intro X hP hw hK hc i pins s σ H E I hf ⟨h1,h2,⟨u,v,h3⟩,h4,h5⟩ ⟨xs,ys,x,y,qa,qb,ex,ey⟩
  subst hP hw hK
  obtain ⟨as,ra,ta,la⟩:=I.tuple qa
  obtain ⟨bs,rb,tb,lb⟩:=I.tuple qb
  have hh:X.A.in1.handled=none:=I.ok.hd hc
  have la':=ra.length
  have lb':=rb.length
  have lx:i<as.toArray.size:=by
   have:=(List.getElem?_eq_some_iff.mp ex).1
   simp only [List.size_toArray]; omega
  have ly:i<bs.toArray.size:=by
   have:=(List.getElem?_eq_some_iff.mp ey).1
   simp only [List.size_toArray]; omega
  refine ZmG Z (ZeB hh i1 a ha as.toArray) (ZeB hh i2 b hb bs.toArray) h1 h2 h3 ⟨h4,ta⟩ ⟨h5,tb⟩ lx ly fun u1 u2 h' tk p1 p2 z1 o1 g1 g2 t1 k=>?_
  refine ⟨_,rfl,wpAny_letOwnedTupleGo_zip z1 fun h'' z2 sb=>?_⟩
  have lz:z<s.heap.objs.size:=Heap.lt_size h1
  have nz:s.heap.objs.size≠z:=Nat.ne_of_gt lz
  obtain ⟨v1,e1,r1⟩:=ra.get ex
  obtain ⟨v2,e2,r2⟩:=rb.get ey
  have q1:v1=u1:=by
   have p:as[i]?=some u1:=by simpa using p1
   rw [e1] at p
   exact Option.some.inj p
  have q2:v2=u2:=by
   have p:bs[i]?=some u2:=by simpa using p2
   rw [e2] at p
   exact Option.some.inj p
  subst q1 q2
  have kk:∀ c o,c ∉ [z,TI,TO,i1,i2]->s.heap.get? c=some o->h''.get? c=some o:=fun c o hc e=>by
   simp only [List.mem_cons,List.not_mem_nil,or_false,not_or] at hc
   exact sb.extBut _ _ hc.1 (k c o hc.1 hc.2.2.1 hc.2.2.2.1 hc.2.2.2.2 e)
  have tt:IsPair h'' s.heap.objs.size v1 v2:=sb.extBut _ _ nz t1
  have I':=I.turnedLaid (t':=tk) (o:=.tup [x,y]) hf kk (Nat.le_refl _) (show ObjOk X.prog X.w _ h'' _ (.tup [x,y]) from ⟨Zam (by simp),[v1,v2],.cons r1 (.cons r2 .nil),⟨_,tt,rfl,_,rfl⟩⟩)
  refine ⟨.ref s.heap.objs.size,_,I',rfl,⟨s.heap.objs.size,x,y,I.hok.fresh (Nat.le_refl _),rfl,fun zs hz=>by rw [I.tuple_inj hz qa]; exact ex,fun zs hz=>by rw [I.tuple_inj hz qb]; exact ey,rfl⟩,?_,fun c hc=>?_⟩
  ·exact ⟨z2,sb.extBut _ _ Z.TIz (k _ _ Z.TIz Z.TITO Z.TIi1 Z.TIi2 h2),⟨_,_,sb.extBut _ _ Z.TOz o1⟩,g1.1.extBut sb.extBut Z.i1z,g2.1.extBut sb.extBut Z.i2z⟩
  ·have hlt:c<s.heap.objs.size:=by
    simp only [List.mem_cons,List.not_mem_nil,or_false] at hc
    obtain ⟨o4,e4,_⟩:=h4
    obtain ⟨o5,e5,_⟩:=h5
    rcases hc with rfl | rfl | rfl | rfl | rfl
    ·exact lz
    ·exact Heap.lt_size h2
    ·exact Heap.lt_size h3
    ·exact Heap.lt_size e4
    ·exact Heap.lt_size e5
   rw [Zai (Nat.ne_of_lt hlt)]
   exact (hf c hc).1
 done:=by
  intro X hP hw hK hc i pins s σ H E I hf ⟨h1,h2,⟨u,v,h3⟩,h4,h5⟩ ⟨xs,qa,hl⟩
  subst hP hw hK
  obtain ⟨as,ra,ta,la⟩:=I.tuple qa
  have hh:X.A.in1.handled=none:=I.ok.hd hc
  have e:i=as.toArray.size:=by
   have:=ra.length
   simp only [List.size_toArray]; omega
  subst e
  refine Zo5 (f2:=[i2,b]) Z (ZeB hh i1 a ha as.toArray) h1 h2 ⟨h4,ta⟩ fun h' k=>⟨rfl,I.turnedAll (t':=s.toks) hf fun c o hc e=>?_⟩
  simp only [List.mem_cons,List.not_mem_nil,or_false,not_or] at hc
  exact k c o hc.1 hc.2.2.1 hc.2.2.2.1 hc.2.2.2.2 e
 self:=fun _ _ _ _ _ st h=>wpAny_pyIter_zip st.1 h
theorem ZoN {prog : Program} {w : World} {A : Around} {E : Value → Shared → Prop} {s : Shared} {a b : Addr} {us vs : Array Value} {Q : Value → Shared → Prop} (ha : s.heap.IsTuple a us) (hb : s.heap.IsTuple b vs)
  (h:∀ h',ZSt (s.heap.objs.size+4) (s.heap.objs.size+2) (s.heap.objs.size+3) s.heap.objs.size (s.heap.objs.size+1) a b 0 h'->(∀ c o,s.heap.get? c=some o->h'.get? c=some o)->Q (.ref (s.heap.objs.size+4)) { s with heap:=h' }) :
  wpAny (model prog w) A (call (.type "zip") [.ref a,.ref b]) Q E s:=by
 let H1:Heap:=s.heap.push { cls:=.type "tuple_iterator",data:=.fields #[.ref a,.int 0 0] }
 let H2:Heap:=H1.push { cls:=.type "tuple_iterator",data:=.fields #[.ref b,.int 0 0] }
 let H3:Heap:=H2.push { cls:=.type "tuple",data:=.seq #[.ref s.heap.objs.size,.ref H1.objs.size] }
 let H4:Heap:=H3.push { cls:=.type "tuple",data:=.seq #[.none,.none] }
 let H5:Heap:=H4.push { cls:=.type "zip",data:=.fields #[.none,.bool false,.bool false,.ref H2.objs.size,.ref H3.objs.size] }
 have m:Meets (Builtin.«zip.__new__» ⟨[.type "zip",.ref a,.ref b],[]⟩) (fun _ R s1=>s1=s∧R (.ok (.ret (.ref H4.objs.size))) { s with heap:=H5 }):=.of_wp fun prog w A R s1 hR=>by
  obtain ⟨rfl,hR⟩:=hR
  obtain ⟨hp,g,d,tk,os⟩:=s1
  have hsub:=sub_zip
  have hL1:Heap.IsTuple (Shared.heap ⟨hp,g,d,tk,os⟩) a us:=ha
  have hL2:Heap.IsTuple (Shared.heap ⟨hp.push { cls:=.type "tuple_iterator",data:=.fields #[.ref a,.int 0 0] },g,d,tk,os⟩) b vs:=Heap.IsTuple.push hb _
  wp_walk using wpAny_pyIter_tuple hL1,wpAny_pyIter_tuple hL2
  exact ⟨_,rfl,hR⟩
 refine callType_new F.called_zip (by decide) (F.typeCall_zip_2 _ _) (F.newCall_zip_2 _ _) (fun obj=>F.args_object_init_3 obj _ _) F.entry_zip_new m ⟨rfl,?_⟩
 have z1:H1.objs.size=s.heap.objs.size+1:=Heap.size_push ..
 have z2:H2.objs.size=s.heap.objs.size+2:=by rw [Heap.size_push,z1]
 have z3:H3.objs.size=s.heap.objs.size+3:=by rw [Heap.size_push,z2]
 have z4:H4.objs.size=s.heap.objs.size+4:=by rw [Heap.size_push,z3]
 have up5:∀ c o,H4.get? c=some o->H5.get? c=some o:=fun c o e=>Heap.get?_push_of_some _ e
 have up4:∀ c o,H3.get? c=some o->H5.get? c=some o:=fun c o e=>up5 c o (Heap.get?_push_of_some _ e)
 have up3:∀ c o,H2.get? c=some o->H5.get? c=some o:=fun c o e=>up4 c o (Heap.get?_push_of_some _ e)
 have up2:∀ c o,H1.get? c=some o->H5.get? c=some o:=fun c o e=>up3 c o (Heap.get?_push_of_some _ e)
 have g5:H5.get? H4.objs.size=some _:=Heap.get?_push_size _ rfl
 have g4:H5.get? H3.objs.size=some _:=up5 _ _ (Heap.get?_push_size _ rfl)
 have g3:H5.get? H2.objs.size=some _:=up4 _ _ (Heap.get?_push_size _ rfl)
 have g2:H5.get? H1.objs.size=some _:=up3 _ _ (Heap.get?_push_size _ rfl)
 have g1:H5.get? s.heap.objs.size=some _:=up2 _ _ (Heap.get?_push_size _ rfl)
 show _∧_
 rw [z4,z2,z3] at g5
 rw [z3] at g4
 rw [z2,z1] at g3
 rw [z1] at g2
 rw [z4]
 exact ⟨⟨_,g5,rfl⟩,h H5 ⟨g5,g3,⟨_,_,g4⟩,⟨_,g1,rfl,rfl⟩,⟨_,g2,rfl,rfl⟩⟩ fun c o e=>up2 c o (Heap.get?_push_of_some _ e)⟩
theorem Zrd:bootBuiltins "zip"=some (.type "zip"):=by decide +kernel
theorem Zno:bootBuiltins "all"=some (.builtin "all"):=by decide +kernel
theorem Zqk {c x y:Nat} (h1:c≠x) (h2:c≠y):c ∉ [x,y]:=fun z=>by
 rcases List.mem_cons.mp z with z | z
 ·exact h1 z
 ·exact h2 (by simpa using z)
theorem Zq1 {m a b:Nat} (la:a<m) (lb:b<m):ZAp (m+4) (m+2) (m+3) m (m+1) [m,a] [m+1,b] where
 TIz:=(by omega:(m+2:Nat)≠m+4)
 TOz:=(by omega:(m+3:Nat)≠m+4)
 i1z:=(by omega:(m:Nat)≠m+4)
 i2z:=(by omega:(m+1:Nat)≠m+4)
 TITO:=(by omega:(m+2:Nat)≠m+3)
 TIi1:=(by omega:(m+2:Nat)≠m)
 TIi2:=(by omega:(m+2:Nat)≠m+1)
 TOi1:=(by omega:(m+3:Nat)≠m)
 TOi2:=(by omega:(m+3:Nat)≠m+1)
 i12:=(by omega:(m:Nat)≠m+1)
 z1:=Zqk (by omega) (by omega)
 z2:=Zqk (by omega) (by omega)
 o1:=Zqk (by omega) (by omega)
 o2:=Zqk (by omega) (by omega)
 b1:=Zqk (by omega) (by omega)
 b2:=Zqk (by omega) (by omega)
section
variable {X:Cx}
def Zsn (K:W.Frag) (ta:TA):TI:=fun σ H R=>ta σ H fun vs H1=>∃ a b,vs=[.ref a,.ref b]∧(∃ xs,SqT K H1 a xs)∧(∃ ys,SqT K H1 b ys)∧R (Itz K a b) H1
theorem Zrq (K : W.Frag) {e1 e2 : Expr} {ta : TA} {p pos pos' : Pos} {es : List Expr} {n : Nat} (hg : Gl X "zip") (hm : X.mg "zip"=none) (ha : PA X [e1, e2] ta) (hK : X.K=K := by rfl)
  (hs:starEach [e1,e2] X.env=(false,eval e1 X.env) :: starEach [e2] X.env:=by rfl) (hpl:(backTo pos (starEach [e2] X.env)).any (·.1)=false:=by rfl):PI X (.Tuple es n pos') (.Call (.Name "zip" p) [e1,e2] [] pos) (Zsn K ta):=by
 subst hK
 intro pins s σ H R I h
 refine wpAny_Call_Name_kw (Zjx I hg hm Zrd (PyProof.Rows.callWith_type1 (thn (ha pos pins s σ H _ I h) fun us s1 ⟨vs,H1,I1,r1,q1⟩=>?_) hs hpl))
 obtain ⟨a,b,e,⟨xs,qa⟩,⟨ys,qb⟩,q⟩:=q1
 subst e
 obtain ⟨u,v,rfl,ra,rb⟩:=Zmc r1
 cases (show u=Value.ref a from ra)
 cases (show v=Value.ref b from rb)
 obtain ⟨as,ka,ta',_⟩:=I1.tuple qa
 obtain ⟨bs,kb,tb',_⟩:=I1.tuple qb
 have la:a<s1.heap.objs.size:=by obtain ⟨o,e,_⟩:=ta'; exact Heap.lt_size e
 have lb:b<s1.heap.objs.size:=by obtain ⟨o,e,_⟩:=tb'; exact Heap.lt_size e
 refine ZoN ta' tb' fun h' st k=>wpAny_pyIter_zip st.1 ?_
 have Z:=Zq1 la lb
 refine ⟨s1.heap.objs.size+4,_,_,_,H1,rfl,I1.kept (t':=s1.toks) k,ZoS Z (Nat.ne_of_lt la) (Nat.ne_of_lt (Nat.lt_succ_of_lt lb)),st,fun c hc=>?_,q⟩
 have hle:s1.heap.objs.size≤c:=by
  simp only [List.mem_cons,List.not_mem_nil,or_false] at hc
  rcases hc with rfl | rfl | rfl | rfl | rfl
  ·exact Nat.le_add_right _ 4
  ·exact Nat.le_add_right _ 2
  ·exact Nat.le_add_right _ 3
  ·exact Nat.le_refl _
  ·exact Nat.le_add_right _ 1
 have e:=I1.fpOk hle (I1.hok.fresh hle)
 exact e
theorem ZkP {P:Program} {w:World} {A:Around} {bs:List Bool} {us:List Value} (r:Vals (bs.map V.bl) us):TruthOf P w A (fun i v=>us.toArray[i]?=some v) (fun i=>bs.getD i false):=by
 intro i v s Q E e q
 have e':us[i]?=some v:=by simpa using e
 have hl:=r.length
 rw [List.length_map] at hl
 have lt:i<bs.length:=by
  have:=(List.getElem?_eq_some_iff.mp e').1
  omega
 obtain ⟨u,e2,r2⟩:=r.get (i:=i) (x:=V.bl bs[i]) (by simp [lt])
 rw [e'] at e2
 cases e2
 cases (show v=Value.bool bs[i] from r2)
 have z:bs.getD i false=bs[i]:=by simp [List.getD,lt]
 exact wpAny_truthy_bool (by rw [← z]; exact q)
theorem ZjZ:∀ bs:List Bool,((List.range bs.length).all fun i=>bs.getD i false)=bs.all id
 | []=>rfl
 | b :: bs=>by
  rw [List.length_cons,List.range_succ_eq_map,List.all_cons,List.all_map,List.all_cons,← ZjZ bs]
  rfl
theorem Zir (hc:X.calm=true):Zdo X (.builtin "all") (fun xs H Q=>∃ (a:Addr) (bs:List Bool),xs=[.ref a]∧H a=some (.lst (bs.map V.bl))∧Q (.bl (bs.all id)) H):=by
 intro pins s σ H xs us Q I r h
 obtain ⟨a,bs,rfl,q,hq⟩:=h
 obtain ⟨u,rfl,ru⟩:=ZeF r
 cases (show u=Value.ref a from ru)
 obtain ⟨its,rv,pl,hz⟩:=I.list (.inl (.inl q))
 have lt:a<s.heap.objs.size:=by obtain ⟨o,e,_⟩:=pl.isList; exact Heap.lt_size e
 have hl:=rv.length
 rw [List.length_map] at hl
 refine call_all_walk (wpAny_pyIter_list pl.isList ⟨s.heap.objs.size,_,_,_,_,_,_,rfl,Walks.list (show X.A.in1.handled=none from I.ok.hd hc) _ a (Nat.ne_of_lt lt) its.toArray,⟨⟨_,Heap.get?_push_size _ rfl,rfl,rfl⟩,pl.isList.push _⟩,ZkP rv,fun h' tk k=>?_⟩)
 rw [List.size_toArray,← hl,ZjZ]
 exact ⟨.bl _,H,I.kept (t':=tk) fun b o e=>k b o (fun z=>absurd (Heap.lt_size e) (by rw [show b=s.heap.objs.size by simpa using z]; exact Nat.lt_irrefl _)) (Heap.get?_push_of_some _ e),rfl,hq⟩
def ZqK (X:Cx) (CX:CXT) (Fam:Addr->Sp->Prop):Prop:=∀ f sp,Fam f sp->∃ k fd ps,FnOk X.prog X.w X.K X.mg X.base CX k f fd ps sp∧Room k X.A∧W.keepIn X.K (.ref f)=true∧Binds X.K fd ps []
def Zqs (Fam:Addr->Sp->Prop) (i:Nat) (E:XK) (t:TA):TE:=fun σ H Q=>∃ f sp,σ[i]?=some (some (.ref f))∧Fam f sp∧t σ H fun vs H1=>sp vs H1 Q E
theorem Zo2 {CX : CXT} {Fam : Addr → Sp → Prop} {E : XK} {i : Nat} {x : Str} {p pos : Pos} {e : Expr} {es : List Expr} {t : TA} (F : ZqK X CX Fam) (hN : X.N[i]?=some x) (hv : Vis X.env.scope x) (hx : Zo6 CX X E) (ha : PA X (e :: es) t)
  (hd:(x == ("__debug__" : Str))=false:=by decide) (hcd:(x == ("__classdict__" : Str))=false:=by decide)
  (he:starEach (e :: es) X.env=(false,eval e X.env) :: starEach es X.env:=by rfl) (hpl:(backTo pos (starEach es X.env)).any (·.1)=false:=by rfl):PE X (.Call (.Name x p) (e :: es) [] pos) (Zqs Fam i E t):=by
 intro pins s σ H Q I h
 obtain ⟨f,sp,e1,hF,q⟩:=h
 obtain ⟨k,fd,ps,Fn,hr,hk,hb⟩:=F f sp hF
 refine wpAny_Call_Name_kw (thn (Zpn hN hv hd hcd pins s σ H (fun v H'=>v=.ref f∧H'=H) I ⟨_,e1,rfl,rfl⟩) fun u s1 ⟨v,H1,I1,r1,e2,e3⟩=>?_)
 subst e2 e3
 cases (show u=Value.ref f from r1)
 refine W.callWith_K (h₀:=X.base) I1.ok.mod.kin hk (thn (ha pos pins s1 σ H1 _ I1 q) fun us s2 ⟨vs,H2,I2,r2,q2⟩=>⟨I2.kIn,?_⟩) he hpl
 exact Zrb Fn hr hb .nil hx I2 r2 (by rw [List.append_nil]; exact q2)
end
section
variable {X:Cx} {tg l:Expr} {tl:TE} (K:W.Frag) (hK:X.K=K)
include hK
theorem Zg4:IxR X (Zsm K):=by subst hK; exact Zan
end
theorem ZpE {X : Cx} (K : W.Frag) {es : List Expr} {k : Nat} {t : TGs} {n : Nat} {pos : Pos} (hc : X.calm=true) (h : PGs X es t) (hK : X.K=K := by rfl)
  (hn:(assignEach es X.env).length=n:=by rfl) (hst:(assignEach es X.env).findIdx? (·.1)=none:=by rfl):PG X (.Tuple es k pos) (Zsd K n t):=by
 subst hK
 exact Zlq hc h hn hst
theorem Zcv {J : It} {σ0 : St} {g : TG} {te : TE} {Q : VK} {H1 : Hp} (out : List V) (hn : out.length<sizeLine) (σP : St → Prop) (h0 : σP σ0)
  (go:∀ i H,i<out.length->Same H1 H->J.go i H) (stop:∀ H,Same H1 H->J.stop out.length H)
  (step:∀ i σ H x H' y,out[i]?=some y->σP σ->Same H1 H->J.yld i H x H'->∀ C:V->St->Hp->Prop,(∀ σ2 H6,σP σ2->Same H H6->C y σ2 H6)->g x σ H' fun σ2 H4=>te σ2 H4 fun y' H6=>C y' σ2 H6)
  (fin:∀ D H',H1 D=none->Same H1 H'->H' D=some (.lst out)->Q (.ref D) H'):ZoK J σ0 g Zr6 te Q H1:=by
 intro D hD
 have keep:∀ {H:Hp} {o:HO},Same H1 H->Same H1 (upd H D o):=fun {H o} e b u q=>by
  rw [Zai (Zal q hD)]
  exact e b u q
 refine ⟨fun i m σ ys H=>i≤out.length∧m=out.length-i∧σP σ∧ys=out.take i∧H D=some (.lst ys)∧Same H1 H,⟨_,Nat.zero_le _,rfl,h0,rfl,Zab,keep (Same.refl H1)⟩,?_⟩
 rintro i m σ ys H ⟨hi,rfl,p,rfl,hd,sm⟩
 refine ⟨hd,?_⟩
 by_cases lt:i<out.length
 ·refine .inr ⟨go i H lt sm,fun σ2 ys2 H3=>σP σ2∧ys2=out.take (i+1)∧H3 D=some (.lst ys2)∧Same H1 H3,fun σ2 ys2 H3 ⟨a,b,c,d⟩=>⟨_,by omega,lt,rfl,a,b,c,d⟩,fun x H3 y=>?_⟩
  have e:out[i]?=some out[i]:=by simp [lt]
  refine step i σ H x H3 out[i] e p sm y (fun y' σ2 H6=>H6 D=some (.lst (out.take i))∧(out.take i).length<sizeLine∧σP σ2∧out.take i++[y']=out.take (i+1)∧upd H6 D (.lst (out.take i++[y'])) D=some (.lst (out.take i++[y']))∧Same H1 (upd H6 D (.lst (out.take i++[y'])))) fun σ2 H6 p2 s6=>?_
  exact ⟨s6 _ _ hd,by rw [List.length_take]; omega,p2,by rw [List.take_add_one,e]; rfl,Zab,keep (sm.trans s6)⟩
 ·have e:i=out.length:=by omega
  subst e
  rw [List.take_length] at hd
  exact .inl ⟨stop H sm,fin D H hD sm hd⟩
section
variable {K:W.Frag} {H:Hp} {xs ys:List V} {a b:Addr} {Q:VK}
end
noncomputable def ZrS (js:List (Option Nat)) (σ:St):St:=js.map fun o=>match o with | none=>none | some j=>(σ[j]?).getD none
noncomputable def Zro (fr:List Str) (cells:List (Str × Addr)):List (Str × Addr):=fr.filterMap fun x=>(cells.lookup x).map fun c=>(x,c)
noncomputable def ZrZ (js:List (Option Nat)) (N M:List Str) (inn out:List (Str × NameKind)):Bool :=
 (js.zip N).all fun p=>match p.1 with
  | none=>true
  | some j=>(M[j]? == some p.2)&&((inn.lookup p.2 == some .cell)||(inn.lookup p.2 == some .free))&&((out.lookup p.2 == some .cell)||(out.lookup p.2 == some .free))
theorem Znr {L:List (Str × NameKind)} {x:Str} (h:((L.lookup x == some NameKind.cell)||(L.lookup x == some NameKind.free))=true):L.lookup x=some .cell∨L.lookup x=some .free:=by
 rw [Bool.or_eq_true] at h
 rcases h with h | h
 ·exact .inl (eq_of_beq h)
 ·exact .inr (eq_of_beq h)
theorem ZkM {fr:List Str} {cells:List (Str × Addr)} {x:Str} (h:x∈fr) (e:(cells.lookup x).isSome=true):∃ c,(Zro fr cells).lookup x=some c:=by
 obtain ⟨c,hc⟩:=Option.isSome_iff_exists.mp e
 induction fr with
 | nil=>cases h
 | cons y r ih =>
  unfold Zro
  rw [List.filterMap_cons]
  by_cases q:y=x
  ·subst q
   rw [hc]
   exact ⟨c,by simp⟩
  ·have hr:x∈r:=by
    rcases List.mem_cons.mp h with z | z
    ·exact absurd z.symm q
    ·exact z
   cases e2:cells.lookup y with
   | none=>exact ih hr
   | some d =>
    obtain ⟨c',hc'⟩:=ih hr
    refine ⟨c',?_⟩
    show List.lookup x ((y,d) :: Zro r cells)=some c'
    rw [List.lookup_cons,beq_eq_false_iff_ne.mpr (Ne.symm q)]
    exact hc'
theorem ZcM {X : Cx} {N : List Str} {sc : Scope} (fr : List Str) (js : List (Option Nat)) (hk : sc.kind=.function) (hn : ∀ x ∈ sc.names, x.2=.local → sc.names.lookup x.1=some .local) (hc : ∀ y ∈ sc.names, y.2 ≠ .cell)
  (clos:closureFor sc X.env=pure (Zro fr X.env.cells)) (hall:(fr.all fun x=>(X.env.cells.lookup x).isSome)=true)
  (hhas:((relabel sc X.env).names.all fun y=>(y.2 != .cell&&y.2 != .free)||fr.contains y.1)=true) (hl:js.length=N.length) (hcap:ZrZ js N X.N (relabel sc X.env).names X.env.scope.names=true) :
  CompSc X N sc (Zro fr X.env.cells) (ZrS js):=by
 have lk:∀ (x:Str) (M:List (Str × NameKind)) (k:NameKind),M.lookup x=some k->(x,k)∈M:=fun x M k h=>PySem.mem_of_lookup h
 refine ⟨hk,hn,hc,clos,fun x c h=>?_,fun x h=>?_,fun σ=>?_,fun σ i x v e1 e2=>?_⟩
 ·have m:=PySem.mem_of_lookup h
  obtain ⟨y,_,e⟩:=List.mem_filterMap.mp m
  obtain ⟨d,hd,e'⟩:=Option.map_eq_some_iff.mp e
  cases e'
  exact hd
 ·have hm:x∈fr:=by
   rcases h with h | h <;>
   ·have q:=List.all_eq_true.mp hhas _ (lk x _ _ h)
    rw [Bool.or_eq_true] at q
    rcases q with q | q
    ·simp at q
    ·simpa using q
  exact ZkM hm (List.all_eq_true.mp hall x hm)
 ·unfold ZrS
  rw [List.length_map,hl]
 ·unfold ZrS at e2
  rw [List.getElem?_map] at e2
  obtain ⟨o,ho,e2⟩:=Option.map_eq_some_iff.mp e2
  cases o with
  | none=>cases e2
  | some j =>
   have hz:(some j,x)∈js.zip N:=by
    refine List.mem_iff_getElem?.mpr ⟨i,?_⟩
    rw [List.getElem?_zip_eq_some]
    exact ⟨ho,e1⟩
   have q:=List.all_eq_true.mp hcap _ hz
   simp only [Bool.and_eq_true] at q
   refine ⟨Znr q.1.2,Znr q.2,j,eq_of_beq q.1.1,?_⟩
   replace e2:(σ[j]?).getD none=some v:=e2
   cases e3:σ[j]? with
   | none=>rw [e3] at e2; cases e2
   | some o'=>rw [e3] at e2; rw [show o'=some v from e2]
theorem Zef {J : It} {σ0 : St} {g : TG} {tt : TT} {te : TE} {Q : VK} {H1 : Hp} (ZcL : List (Option V)) (hn : ZcL.length<sizeLine) (σP : St → Prop) (h0 : σP σ0)
  (go:∀ i H,i<ZcL.length->Same H1 H->J.go i H) (stop:∀ H,Same H1 H->J.stop ZcL.length H)
  (step:∀ i σ H x H' o,ZcL[i]?=some o->σP σ->Same H1 H->J.yld i H x H'->∀ C:Option V->St->Hp->Prop,(∀ σ2 H6,σP σ2->Same H H6->C o σ2 H6)->g x σ H' fun σ2 H4=>tt σ2 H4 fun c H5=>if c=true then te σ2 H5 fun y' H6=>C (some y') σ2 H6 else C none σ2 H5)
  (fin:∀ D H',H1 D=none->Same H1 H'->H' D=some (.lst (ZcL.filterMap id))->Q (.ref D) H'):ZoK J σ0 g tt te Q H1:=by
 intro D hD
 have keep:∀ {H:Hp} {o:HO},Same H1 H->Same H1 (upd H D o):=fun {H o} e b u q=>by
  rw [Zai (Zal q hD)]
  exact e b u q
 have fl:∀ i,((ZcL.take i).filterMap id).length≤ZcL.length:=fun i=>Nat.le_trans (List.length_filterMap_le _ _) (by rw [List.length_take]; omega)
 refine ⟨fun i m σ ys H=>i≤ZcL.length∧m=ZcL.length-i∧σP σ∧ys=(ZcL.take i).filterMap id∧H D=some (.lst ys)∧Same H1 H,⟨_,Nat.zero_le _,rfl,h0,rfl,Zab,keep (Same.refl H1)⟩,?_⟩
 rintro i m σ ys H ⟨hi,rfl,p,rfl,hd,sm⟩
 refine ⟨hd,?_⟩
 by_cases lt:i<ZcL.length
 ·refine .inr ⟨go i H lt sm,fun σ2 ys2 H3=>σP σ2∧ys2=(ZcL.take (i+1)).filterMap id∧H3 D=some (.lst ys2)∧Same H1 H3,fun σ2 ys2 H3 ⟨a,b,c,d⟩=>⟨_,by omega,lt,rfl,a,b,c,d⟩,fun x H3 y=>?_⟩
  have e:ZcL[i]?=some ZcL[i]:=by simp [lt]
  have tk:(ZcL.take (i+1)).filterMap id=(ZcL.take i).filterMap id++ZcL[i].toList:=by
   rw [List.take_add_one,e]
   simp only [Option.toList_some,List.filterMap_append]
   cases ZcL[i] <;> rfl
  refine step i σ H x H3 ZcL[i] e p sm y (fun o σ2 H6=>match o with
   | some y'=>H6 D=some (.lst ((ZcL.take i).filterMap id))∧((ZcL.take i).filterMap id).length<sizeLine∧σP σ2∧(ZcL.take i).filterMap id++[y']=(ZcL.take (i+1)).filterMap id∧upd H6 D (.lst ((ZcL.take i).filterMap id++[y'])) D=some (.lst ((ZcL.take i).filterMap id++[y']))∧Same H1 (upd H6 D (.lst ((ZcL.take i).filterMap id++[y'])))
   | none=>σP σ2∧(ZcL.take i).filterMap id=(ZcL.take (i+1)).filterMap id∧H6 D=some (.lst ((ZcL.take i).filterMap id))∧Same H1 H6) fun σ2 H6 p2 s6=>?_
  rw [tk]
  cases hg:ZcL[i] with
  | none=>exact ⟨p2,by simp,s6 _ _ hd,sm.trans s6⟩
  | some y'=>exact ⟨s6 _ _ hd,Nat.lt_of_le_of_lt (fl i) hn,p2,by simp,Zab,keep (sm.trans s6)⟩
 ·have e:i=ZcL.length:=by omega
  subst e
  rw [List.take_length] at hd
  exact .inl ⟨stop H sm,fin D H hD sm hd⟩
end L2
namespace RevF
open PySem PySem.Spec PyProof.Rows
section
variable {prog:Program} {w:World} {A:Around} {E:Value->Shared->Prop} {s:Shared} {a it:Addr} {us:Array Value}
end
end RevF
namespace L2
open PySem PySem.Spec PyProof.Rows
section
variable {X:Cx}
end
section
variable {prog:Program} {w:World} {A:Around} {E:Value->Shared->Prop} {s:Shared}
theorem ZeC {t sl : Addr} {items : Array Value} {vl vu : Value} {lo hi : Option Int} {Q : Value → Shared → Prop} (ht : IsTup s.heap t items) (hs : s.heap.IsSliceOf sl vl vu .none) (pl : IsPart vl lo) (pu : IsPart vu hi)
  (hw:HT.sIx items.size 0 lo=0∧HT.sIx items.size items.size hi=items.size) (h:Q (.ref t) s):wpAny (model prog w) A (getItem (.ref t) (.ref sl)) Q E s:=by
 obtain ⟨os,hos,hcs,hds⟩:=id hs
 have hTs:s.TypeIs (.ref sl) "slice":=⟨os,hos,hcs⟩
 unfold getItem
 try with_reducible refine wpAny_holding ?_
 first | refine wpAny_bind (wpAny_pure ?_) | skip
 refine wpAny_bind (wpAny_sequenceKey ht.typeIs (by decide) ?_)
 refine wpAny_bind (wpAny_callSpecial?_slot (name:=Str.ofString "__getitem__") ht.typeIs PyProof.Rows.slot_tuple_getitem
  (wpAny_call_entry PyProof.Rows.slot_tuple_getitem ht.typeIs entry_tuple_getitem ?_ (args_tuple_getitem _ _)))
 show wpAny _ _ (Builtin.Tuple.tupleItemsOf (.ref t) >>= _) _ _ s
 refine wpAny_bind (tupleItemsOf_ ht ?_)
 refine wpAny_bind (wpAny_typeOf hTs ?_)
 rw [if_pos (by decide)]
 refine wpAny_bind (HT.sliceApplied_gen hs pl pu ?_)
 show wpAny _ _ (if (((HT.sIx items.size 0 lo:Nat):Int) == 0&&(1:Int) == 1&&(HT.sIx items.size items.size hi-HT.sIx items.size 0 lo) == items.size)=true then _ else _) _ _ s
 rw [if_pos (by rw [hw.1,hw.2]; simp)]
 refine wpAny_bind (m:=Builtin.Tuple.tupleIsExact _) ?_
 unfold Builtin.Tuple.tupleIsExact
 refine wpAny_bind (wpAny_typeOf ht.typeIs (wpAny_pure ?_))
 rw [if_pos (by decide)]
 exact wpAny_bind (wpAny_rule (wpAny_pure ⟨_,rfl,wpAny_pure h⟩))
end
def ZrF (K:W.Frag):V->Option Int->Option Int->Hp->VK->Prop:=fun x lo hi H Q=>∃ a xs,x=.ref a∧SqT K H a xs∧∀ H' p,Same H H'->SqT K H' p (ZhA xs lo hi)->Q (.ref p) H'
theorem Zl4 {xs:List V} {lo hi:Option Int} (h1:HT.sIx xs.length 0 lo=0) (h2:HT.sIx xs.length xs.length hi=xs.length):ZhA xs lo hi=xs:=by
 unfold ZhA
 rw [h1,h2]
 simp
section
variable {X:Cx}
theorem ZdA:SlR X (ZrF X.K):=by
 intro pins s σ H x v vl vu lo hi sl Q I rx hs pl pu h
 obtain ⟨a,xs,rfl,hx,q⟩:=h
 by_cases hw:HT.sIx xs.length 0 lo=0∧HT.sIx xs.length xs.length hi=xs.length
 ·cases rx
  obtain ⟨its,r,ht,hz⟩:=I.tuple hx
  have hlen:its.toArray.size=xs.length:=by rw [List.size_toArray]; exact r.length.symm
  refine ⟨"tuple",_,PyProof.Rows.slot_tuple_getitem.lookup,ht.typeIs,ZeC ht hs pl pu (by rw [hlen]; exact hw) ⟨.ref a,H,I,rfl,q H a (Same.refl H) ?_⟩⟩
  rw [Zl4 hw.1 hw.2]
  exact hx
 ·exact Zh3 pins s σ H (.ref a) v vl vu lo hi sl Q I rx hs pl pu ⟨a,xs,rfl,hx,hw,fun p np=>q _ p (Zac np) (.of Zab)⟩
end
section
variable {X:Cx} {o e f:Expr} {apos cpos:Pos} {td ty tx:TE}
end
section
variable {X:Cx}
theorem Zp5 (K : W.Frag) {o : Expr} {to : TE} {name : Str} {apos cpos : Pos} {T id : String} {r : V → List V → Hp → VK → Prop} (pa : PlainAttrs T) (slot : Slot T name id) (hty : typeOf (.builtin id)=pure (.type "method_descriptor")) (hm : MtR X id r) (ho : PE X o to) (hK : X.K=K := by rfl)
  (hbase:attributeBase o name X.env (eval o X.env)=eval o X.env:=by rfl) (hline:(apos.endLine == cpos.line)=true:=by rfl):PE X (.Call (.Attribute o name apos) [] [] cpos) (Zsi K T r to):=by
 subst hK
 exact ZqO pa slot hty hm ho hbase hline
end
end L2
namespace RevF
open PySem PySem.Spec PyProof.Rows
section
variable {prog:Program} {w:World} {A:Around} {E:Value->Shared->Prop} {s:Shared} {a it:Addr} {us:Array Value}
end
end RevF
namespace TextM
open PySem
end TextM
namespace L2
open PySem PySem.Spec PyProof.Rows
section
variable {X:Cx}
theorem Zfw:∀ {zs:List Str} {us:List Value},Vals (zs.map V.str) us->StrsAre us zs
 | [],_,.nil=>.nil
 | z :: zs,_,.cons r rs=>by
  obtain ⟨t,rfl⟩:=r
  exact .cons z t (Zfw rs)
end
section
variable {X:Cx} {pins:List (Addr × Obj)} {σ:St} {H:Hp} {s:Shared}
theorem Zpp {ds ds' : List D} {xs xs' : List V} {us us' : List Value} {a a' : Addr} {A : Around} (I : Inv X pins σ H s) (hl : IsL X.K H ds xs) (hl' : IsL X.K H ds' xs') (rv : Vals xs us) (rv' : Vals xs' us')
  (z:s.heap.IsList a us.toArray) (z':s.heap.IsList a' us'.toArray) (hu:A.units<cLine)
  (it:∀ (j:Nat) (d d':D) (u u':Value),ds[j]?=some d->ds'[j]?=some d'->us[j]?=some u->us'[j]?=some u'->SeqAt.EqAt A.in1 s u u' (deq d d')):SeqAt.RcNeAt A s (.ref a) (.ref a') (!Zdg ds ds'):=by
 have e1:us.length=ds.length:=by rw [← rv.length,hl.length]
 have e2:us'.length=ds'.length:=by rw [← rv'.length,hl'.length]
 by_cases q:ds.length=ds'.length
 ·have g:=SeqAt.RcNeAt.lists (e:=Zf4 ds ds') z z' (by simp only [List.size_toArray,e1,e2,q]) hu fun j h1 h2=>by
   have g1:j<ds.length:=by rw [← e1]; simpa using h1
   have g2:j<ds'.length:=by rw [← e2]; simpa using h2
   have k1:ds[j]?=some ds[j]:=List.getElem?_eq_getElem g1
   have k2:ds'[j]?=some ds'[j]:=List.getElem?_eq_getElem g2
   unfold Zf4
   rw [ZfG k1,ZfG k2]
   exact it j _ _ _ _ k1 k2 (by simp) (by simp)
  rw [show us.toArray.size=ds.length by simp [e1],ZiC q] at g
  exact g
 ·rw [Zc7 q]
  exact SeqAt.RcNeAt.lists_lengths z z' (by simp only [List.size_toArray,e1,e2]; exact bne_iff_ne.mpr q) hu
theorem Zq5 (hu:X.A.units+64<cLine):OpR X (compareOp .NotEq) (fun x y H Q=>∃ ds ds',Is X.K H (.lst ds) x∧Is X.K H (.lst ds') y∧Zdt ds≤50∧Q (.bl (!Zdg ds ds')) H):=by
 intro pins s σ H x y v u Q I rx ry h
 obtain ⟨ds,ds',⟨a,xs,rfl,q1,hl⟩,⟨a2,xs2,rfl,q2,hl2⟩,hd,q⟩:=h
 cases (show v=Value.ref a from rx)
 cases (show u=Value.ref a2 from ry)
 obtain ⟨its,rv,z⟩:=I.isList q1
 obtain ⟨its2,rv2,z2⟩:=I.isList q2
 exact (Zpp I hl hl2 rv rv2 z z2 (by omega) (eqL I ds ds' (A:=X.A.in1) hl hl2 rv rv2 (by show X.A.units+1+Zdt ds<cLine; omega))) _ _ _ _ ⟨.bl _,H,I,rfl,q⟩
end
section
variable {X:Cx}
end
section
variable {X:Cx} {CX:CXT} {k:Nat} {f C:Addr} {fd:FuncData} {ps:List Str} {sp:Sp} {dvs:List V} {ds:List Value} {E:XS} {x m:Str} {p pos apos:Pos} {e o:Expr} {es:List Expr} {ta:TE} {t:TA}
def Zpb (C:Addr) (m:Str) (sp:Sp) (dvs:List V) (E:XS) (ta:TE) (t:TA):TE:=fun σ H Q=>ta σ H fun x H1=>∃ a dx fs,x=.ref a∧H1 a=some (.ins C dx fs)∧fs.lookup m=none ∧
 t σ H1 fun vs H2=>sp (x :: (vs++dvs)) H2 Q (E σ)
theorem ZaG {pl : Sem Bool} (he : PE X o ta) (c : Cls X.K C) (hm : Meth X.K C m f) (F : FnOk X.prog X.w X.K X.mg X.base CX k f fd ps sp) (hr : Room k X.A) (hb : Binds X.K fd ps ds) (hd : Vals dvs ds) (hx : ZdJ CX X E) (ha : PA X (e :: es) t)
  (hst:starEach (e :: es) X.env=(false,eval e X.env) :: starEach es X.env:=by rfl) (hpl:(backTo pos (starEach es X.env)).any (·.1)=false:=by rfl)
  (ht:eval (.Call (.Attribute o m apos) (e :: es) [] pos) X.env=(do
   let ov ← eval o X.env
   standAt apos.atName
   let (f,first) ← holding [ov] (getMethod ov m pl)
   callWith pos f first (backTo pos (starEach (e :: es) X.env)) (backToKw pos (keywordEach [] X.env))):=by rfl) :
  PE X (.Call (.Attribute o m apos) (e :: es) [] pos) (Zpb C m sp dvs E ta t):=by
 intro pins s σ H Q I h
 refine W.methodCall_KW (pl:=pl) (thn (he pins s σ H _ I h) fun u s1 ⟨x,H1,I1,rx,a,dx,fs,ex,ea,l,q⟩=>?_) ht
 subst ex
 obtain rfl:u=Value.ref a:=rx
 refine ZhT I1 ea c hm l ?_
 refine W.callWith_K (first:=[.ref a]) (h₀:=X.base) I.ok.mod.kin hm.kp (thn (ha pos pins s1 σ H1 _ I1 q) fun us s2 ⟨vs,H2,I2,r,q2⟩=>⟨I2.kIn,?_⟩) hst hpl
 exact ZkQ (us:=.ref a :: us) (vs:=.ref a :: vs) F hr hb hd hx I2 (.cons rfl r) q2
theorem Zhl {pl : Sem Bool} (he : PE X o ta) (c : Cls X.K C) (hm : Meth X.K C m f) (F : FnOk X.prog X.w X.K X.mg X.base CX k f fd ps sp) (hr : Room k X.A) (hb : Binds X.K fd ps ds) (hd : Vals dvs ds) (hx : ZdJ CX X E)
  (ht:eval (.Call (.Attribute o m apos) [] [] pos) X.env=(do
   let ov ← eval o X.env
   standAt apos.atName
   let (f,first) ← holding [ov] (getMethod ov m pl)
   callWith pos f first (backTo pos (starEach [] X.env)) (backToKw pos (keywordEach [] X.env))):=by rfl) :
  PE X (.Call (.Attribute o m apos) [] [] pos) (Zpb C m sp dvs E ta Zry):=by
 intro pins s σ H Q I h
 refine W.methodCall_KW (pl:=pl) (thn (he pins s σ H _ I h) fun u s1 ⟨x,H1,I1,rx,a,dx,fs,ex,ea,l,q⟩=>?_) ht
 subst ex
 obtain rfl:u=Value.ref a:=rx
 refine ZhT I1 ea c hm l ?_
 exact W.callWith_K0 (first:=[.ref a]) I1.kIn hm.kp (ZkQ (us:=[.ref a]) (vs:=[.ref a]) F hr hb hd hx I1 (.cons rfl .nil) q)
def Zqr (C:Addr) (sp:Sp) (dvs:List V) (E:XS) (t:TA):TE:=fun σ H Q=>t σ H fun vs H1=>∀ x dx,H1 x=none->H1 dx=none->dx≠x →
 sp (.ref x :: (vs++dvs)) (upd (upd H1 dx (.own x)) x (.ins C dx [])) (fun v H2=>v=.non∧Q (.ref x) H2) (E σ)
theorem Zm2 {pins : List (Addr × Obj)} {σ : St} {H : Hp} {s : Shared} {Q : VK} {us : List Value} {vs : List V} (M : Mk X.K C f) (F : FnOk X.prog X.w X.K X.mg X.base CX k f fd ps sp) (hr : Room (k + 1) X.A) (hb : Binds X.K fd ps ds) (hd : Vals dvs ds)
  (hx:ZdJ CX X E) (I:Inv X pins σ H s) (r:Vals vs us)
  (h:∀ x dx,H x=none->H dx=none->dx≠x->sp (.ref x :: (vs++dvs)) (upd (upd H dx (.own x)) x (.ins C dx [])) (fun v H2=>v=.non∧Q (.ref x) H2) (E σ)) :
  wpAny (model X.prog X.w) X.A (call (.ref C) us) (EP X pins σ Q) X.xe s:=by
 have hq:=h (s.heap.objs.size+1) s.heap.objs.size (I.hok.fresh (Nat.le_succ _)) (I.hok.fresh (Nat.le_refl _)) (Nat.ne_of_lt (Nat.lt_succ_self _))
 have I2:=Inv.made (C:=C) I
 have r2:Vals (V.ref (s.heap.objs.size+1) :: (vs++dvs)) (Value.ref (s.heap.objs.size+1) :: (us++ds)):=.cons rfl (r.append hd)
 have hl:(Value.ref (s.heap.objs.size+1) :: us++ds).length=ps.length:=by
  have e:=r2.length
  rw [F.len _ _ _ _ hq] at e
  exact e.symm
 refine wpAny_call (ZoD (f:=f) I.kIn M.makes M.init (beq_iff_eq.mp M.fn) (codeAny_mono (F.run _ X.stack _ _ ⟨Value.ref (s.heap.objs.size+1) :: us,[]⟩ (Value.ref (s.heap.objs.size+1) :: (us++ds)) _ _ (E σ) (hr.make C us [])
  (I2.env0.make C us []) (hb _ (Value.ref (s.heap.objs.size+1) :: us) I2.kIn hl) r2 hq) fun r s' hq'=>?_))
 cases r with
 | error e=>exact hx pins σ _ _ e s' I2 hq'
 | ok fl =>
  cases fl with
  | ret u =>
   obtain ⟨v,H',I3,rv,ev,q3⟩:=I2.after hq'
   subst ev
   exact ⟨rv,⟨V.ref (s.heap.objs.size+1),H',I3,rfl,q3⟩⟩
  | next=>exact False.elim hq'
  | brk=>exact False.elim hq'
  | cont=>exact False.elim hq'
theorem Zny (M : Mk X.K C f) (F : FnOk X.prog X.w X.K X.mg X.base CX k f fd ps sp) (hr : Room (k + 1) X.A) (hg : Gl X x) (hm : X.mg x=some (.ref C)) (hb : Binds X.K fd ps ds) (hd : Vals dvs ds) (hx : ZdJ CX X E)
  (hdb:(x == ("__debug__" : Str))=false:=by decide):PE X (.Call (.Name x p) [] [] pos) (Zqr C sp dvs E Zry):=by
 intro pins s σ H Q I h
 refine wpAny_Call_Name_kw (ZiB I hg hm ?_ hdb)
 exact W.callWith_K0 I.kIn M.kp (Zm2 (us:=[]) M F hr hb hd hx I .nil h)
end
section
variable {X:Cx}
theorem ZbU:bootBuiltins "sorted"=some (.builtin "sorted"):=by decide +kernel
theorem Zd9:∀ {us:List Value} {zs:List Str},StrsAre us zs->Vals (zs.map V.str) us
 | _,_,.nil=>.nil
 | _,_,.cons y t r=>.cons ⟨t,rfl⟩ (Zd9 r)
theorem Zjc (K:W.Frag) (hK:X.K=K:=by rfl):Zdo X (.builtin "sorted") (fun xs H Q=>∃ l zs,xs=[.ref l]∧SqL K H l (zs.map V.str)∧zs.length<64∧∀ D zs',H D=none->zs'.Perm zs->sortedS zs'=true->Q (.ref D) (upd H D (.lst (zs'.map V.str)))):=by
 subst hK
 intro pins s σ H xs us Q I r h
 obtain ⟨l,zs,rfl,hq,hl,q⟩:=h
 obtain ⟨u,rfl,ru⟩:=ZeF r
 cases (show u=Value.ref l from ru)
 obtain ⟨its,rv,pl,hz⟩:=I.list hq
 have hlen:=rv.length
 rw [List.length_map] at hlen
 refine sorted_strs pl.isList (Zfw rv) (by omega) fun out zs' so hp hs=>?_
 obtain ⟨e,he⟩:=sortedAll_at s.heap its out
 have hle:s.heap.objs.size≤s.heap.objs.size+1:=Nat.le_succ _
 have hl2:zs'.length=zs.length:=hp.length_eq
 refine ⟨.ref _,_,I.laid (t':=s.toks) (o:=.lst (zs'.map V.str)) (fun b u q=>sortedAll_old q) hle (show ObjOk X.prog X.w _ _ _ (.lst (zs'.map V.str)) from ⟨by rw [List.length_map]; exact Nat.le_of_lt (Zam (by omega)),out.toList,e,Zd9 so,he⟩),rfl,q _ zs' (I.hok.fresh hle) hp hs⟩
end
noncomputable def Za3 (x y:Str):Bool:=decide (x.cps.toList<y.cps.toList)
section
variable {prog:Program} {w:World} {A:Around} {E:Value->Shared->Prop} {s:Shared}
noncomputable def Za4 (xs:Array (Str × Tok)):Array Value:=xs.map fun p=>.str p.1 p.2
noncomputable def Zgb (xs:Array (Str × Tok)) (i:Nat):Str:=(xs[i]?.map (·.1)).getD ""
theorem Zg7 {xs:Array (Str × Tok)} {i:Nat} {v:Value} (h:(Za4 xs)[i]?=some v):∃ t,v=.str (Zgb xs i) t:=by
 simp only [Za4,Array.getElem?_map,Option.map_eq_some_iff] at h
 obtain ⟨p,hp,rfl⟩:=h
 exact ⟨p.2,by simp [Zgb,hp]⟩
theorem Zml {P:Nat->Value->Prop} (val:Nat->Str) (hval:∀ i v,P i v->∃ t,v=.str (val i) t):CmpOf prog w A .Gt P (fun i j=>Za3 (val j) (val i)):=fun i j vi vj s Q E hi hj h=>by
 obtain ⟨t,rfl⟩:=hval i vi hi
 obtain ⟨u,rfl⟩:=hval j vj hj
 exact richCompare_gives (op:=.Gt) (typeIs_str s _ t) (typeIs_str s _ u) F.slot_str_gt F.entry_str_gt (F.args_str_gt_2 _ _) (gives_str_gt _ _ t u) (fun x=>nomatch x) h
theorem Zmn {P:Nat->Value->Prop} (val:Nat->Str) (hval:∀ i v,P i v->∃ t,v=.str (val i) t):CmpOf prog w A .Lt P (fun i j=>Za3 (val i) (val j)):=fun i j vi vj s Q E hi hj h=>by
 obtain ⟨t,rfl⟩:=hval i vi hi
 obtain ⟨u,rfl⟩:=hval j vj hj
 exact richCompare_gives (op:=.Lt) (typeIs_str s _ t) (typeIs_str s _ u) F.slot_str_lt F.entry_str_lt (F.args_str_lt_2 _ _) (gives_str_lt _ _ t u) (fun x=>nomatch x) h
theorem Zkx {a b : Str} {t u : Tok} {Q : Value → Shared → Prop} (hh : A.handled=none)
  (h:∀ h' tk,(∀ c o,s.heap.get? c=some o->h'.get? c=some o)->Q (if Za3 a b=true then .str b u else .str a t) { s with heap:=h',toks:=tk }) :
  wpAny (model prog w) A (call (.builtin "max") [.str a t,.str b u]) Q E s:=by
 have hT:(s.heap.push { cls:=.type "tuple",data:=.seq #[.str a t,.str b u] }).IsTuple s.heap.objs.size (Za4 #[(a,t),(b,u)]):=⟨_,Heap.get?_push_size _ rfl,rfl,0,by simp [Za4]⟩
 refine call_max_two (wpAny_pyIter_tuple hT ?_)
 have hsz:(s.heap.push { cls:=.type "tuple",data:=.seq #[.str a t,.str b u] }).objs.size=s.heap.objs.size+1:=Heap.size_push ..
 refine ⟨_,[_,s.heap.objs.size],[_],_,_,_,_,rfl,Walks.tuple (A:=A.in1) hh _ s.heap.objs.size (by rw [hsz]; exact Nat.ne_of_lt (Nat.lt_succ_self _)) (Za4 #[(a,t),(b,u)]),
  ⟨⟨_,Heap.get?_push_size _ rfl,rfl,rfl⟩,hT.push _⟩,fun c hc=>?_,by simp [Za4],Zml (Zgb #[(a,t),(b,u)]) (fun _ _=>Zg7),fun v h' tk hP hk=>?_⟩
 ·show c<((s.heap.push _).push _).objs.size
  rw [Heap.size_push,hsz]
  rcases List.mem_cons.mp hc with rfl | hc
  ·rw [hsz]; exact Nat.lt_succ_self _
  ·rcases List.mem_cons.mp hc with rfl | hc
   ·exact Nat.lt_succ_of_lt (Nat.lt_succ_self _)
   ·cases hc
 ·have hold:∀ c o,s.heap.get? c=some o->h'.get? c=some o:=fun c o e=>by
   refine hk c o (fun hm=>?_) (Heap.get?_push_of_some _ (Heap.get?_push_of_some _ e))
   rcases List.mem_cons.mp hm with e1 | hm
   ·have:=Heap.lt_size e; rw [e1,hsz] at this; exact Nat.lt_irrefl _ (Nat.lt_of_succ_lt this)
   ·cases hm
  have:=h h' tk hold
  have hv:v=if Za3 a b=true then Value.str b u else Value.str a t:=by
   have hP':(Za4 #[(a,t),(b,u)])[argBest (fun i j=>Za3 (Zgb #[(a,t),(b,u)] j) (Zgb #[(a,t),(b,u)] i)) 1]?=some v:=by
    have hsz2:(Za4 #[(a,t),(b,u)]).size-1=1:=by simp [Za4]
    rw [← hsz2]; exact hP
   have e0:argBest (fun i j=>Za3 (Zgb #[(a,t),(b,u)] j) (Zgb #[(a,t),(b,u)] i)) 1=if Za3 a b=true then 1 else 0:=by
    show (if _=true then 1 else 0)=_
    rfl
   by_cases hba:Za3 a b=true
   ·rw [e0,if_pos hba] at hP'
    rw [if_pos hba]
    simpa [Za4] using hP'.symm
   ·rw [e0,if_neg hba] at hP'
    rw [if_neg hba]
    simpa [Za4] using hP'.symm
  rw [hv]; exact this
theorem ZkY {a b : Str} {t u : Tok} {Q : Value → Shared → Prop} (hh : A.handled=none)
  (h:∀ h' tk,(∀ c o,s.heap.get? c=some o->h'.get? c=some o)->Q (if Za3 b a=true then .str b u else .str a t) { s with heap:=h',toks:=tk }) :
  wpAny (model prog w) A (call (.builtin "min") [.str a t,.str b u]) Q E s:=by
 have hT:(s.heap.push { cls:=.type "tuple",data:=.seq #[.str a t,.str b u] }).IsTuple s.heap.objs.size (Za4 #[(a,t),(b,u)]):=⟨_,Heap.get?_push_size _ rfl,rfl,0,by simp [Za4]⟩
 refine call_min_two (wpAny_pyIter_tuple hT ?_)
 have hsz:(s.heap.push { cls:=.type "tuple",data:=.seq #[.str a t,.str b u] }).objs.size=s.heap.objs.size+1:=Heap.size_push ..
 refine ⟨_,[_,s.heap.objs.size],[_],_,_,_,_,rfl,Walks.tuple (A:=A.in1) hh _ s.heap.objs.size (by rw [hsz]; exact Nat.ne_of_lt (Nat.lt_succ_self _)) (Za4 #[(a,t),(b,u)]),
  ⟨⟨_,Heap.get?_push_size _ rfl,rfl,rfl⟩,hT.push _⟩,fun c hc=>?_,by simp [Za4],Zmn (Zgb #[(a,t),(b,u)]) (fun _ _=>Zg7),fun v h' tk hP hk=>?_⟩
 ·show c<((s.heap.push _).push _).objs.size
  rw [Heap.size_push,hsz]
  rcases List.mem_cons.mp hc with rfl | hc
  ·rw [hsz]; exact Nat.lt_succ_self _
  ·rcases List.mem_cons.mp hc with rfl | hc
   ·exact Nat.lt_succ_of_lt (Nat.lt_succ_self _)
   ·cases hc
 ·have hold:∀ c o,s.heap.get? c=some o->h'.get? c=some o:=fun c o e=>by
   refine hk c o (fun hm=>?_) (Heap.get?_push_of_some _ (Heap.get?_push_of_some _ e))
   rcases List.mem_cons.mp hm with e1 | hm
   ·have:=Heap.lt_size e; rw [e1,hsz] at this; exact Nat.lt_irrefl _ (Nat.lt_of_succ_lt this)
   ·cases hm
  have:=h h' tk hold
  have hv:v=if Za3 b a=true then Value.str b u else Value.str a t:=by
   have hP':(Za4 #[(a,t),(b,u)])[argBest (fun i j=>Za3 (Zgb #[(a,t),(b,u)] i) (Zgb #[(a,t),(b,u)] j)) 1]?=some v:=by
    have hsz2:(Za4 #[(a,t),(b,u)]).size-1=1:=by simp [Za4]
    rw [← hsz2]; exact hP
   have e0:argBest (fun i j=>Za3 (Zgb #[(a,t),(b,u)] i) (Zgb #[(a,t),(b,u)] j)) 1=if Za3 b a=true then 1 else 0:=by
    show (if _=true then 1 else 0)=_
    rfl
   by_cases hba:Za3 b a=true
   ·rw [e0,if_pos hba] at hP'
    rw [if_pos hba]
    simpa [Za4] using hP'.symm
   ·rw [e0,if_neg hba] at hP'
    rw [if_neg hba]
    simpa [Za4] using hP'.symm
  rw [hv]; exact this
theorem ZkI {l : Addr} {vs : List Value} {Q : List Value → Shared → Prop} (hl : IsTup s.heap l vs.toArray)
  (h:Q vs { s with heap:=(s.heap.push (seqObj "list" #[] 0)).update s.heap.objs.size (Obj.mapSeq (·++vs.toArray)) }) (hsz:vs.length≤sizeLine) :
  wpAny (model prog w) A (collect (.ref l)) Q E s:=by
 obtain ⟨o,ho,hc,n,hd⟩:=id hl
 unfold collect
 refine wpAny_bind (wpAny_runValue (codeAny_builtin entry_proto_collect' ?_))
 show wpAny _ _ (do again (.builtin "list.__iadd__" ⟨[← newList [],.ref l],[]⟩)) _ _ s
 refine wpAny_bind (wpAny_newList (wpAny_pure ⟨Code.quiet_builtin _ (by decide +kernel),codeAny_builtin entry_list_iadd' ?_⟩))
 show wpAny _ _ (Builtin.List.listExtendWith (.ref s.heap.objs.size) (.ref l) (.ref s.heap.objs.size)) _ _ { s with heap:=s.heap.push (seqObj "list" #[] 0) }
 unfold Builtin.List.listExtendWith
 have ho':(s.heap.push (seqObj "list" #[] 0)).get? l=some o:=Heap.get?_push_of_some _ ho
 refine wpAny_bind (wpAny_typeOf (T:="tuple") ⟨o,ho',hc⟩ ?_)
 have ht:(Value.type "tuple" == Value.type "tuple")=true:=by rfl
 rw [if_pos (by rw [ht]; simp)]
 refine wpAny_bind (listItems_at ho' hd ?_)
 refine wpAny_bind (listItems_at (xs:=#[]) (n:=0) (Heap.get?_push_size _ rfl) rfl ?_)
 rw [if_neg (by simp)]
 refine wpAny_bind (listUpdate_at (xs:=#[]) (n:=0) (Heap.get?_push_size _ rfl) rfl ?_ (Nat.zero_le _) (by show (#[]++vs.toArray).size≤sizeLine+1; simp only [Array.size_append,List.size_toArray,List.length_nil]; omega))
 refine wpAny_pure ?_
 refine wpAny_bind (wpAny_load (get?_update_seq (Heap.get?_push_size _ rfl) _) ?_)
 show wpAny _ _ (pure ((#[]:Array Value)++vs.toArray).toList) Q E _
 rw [show ((#[]:Array Value)++vs.toArray).toList=vs by simp]
 exact wpAny_pure h
theorem ZhF {x : Value} {vs : List Value} {ss : List Str} {Q : Value → Shared → Prop} (hS : StrsAre vs ss) (h64 : vs.length<64)
  (hc:∀ (A':Around) (Q':List Value->Shared->Prop),A'.handled=A.handled->(∀ h1 tk,(∀ b o,s.heap.get? b=some o->h1.get? b=some o)->s.heap.objs.size≤h1.objs.size->Q' vs { s with heap:=h1,toks:=tk })->wpAny (model prog w) A' (collect x) Q' E s)
  (h:∀ h' tk a e (out:Array Value) (ss':List Str),(∀ b o,s.heap.get? b=some o->h'.get? b=some o)->s.heap.objs.size≤a->h'.get? a=some (seqObj "list" out e)->StrsAre out.toList ss'->ss'.Perm ss->sortedS ss'=true->Q (.ref a) { s with heap:=h',toks:=tk }) :
  wpAny (model prog w) A (call (.builtin "sorted") [x]) Q E s:=by
 refine Calls.call_function_entry kind_sorted plain_sorted entry_sorted (args_sorted1 _) ?_
 unfold Builtin.«sorted»
 refine wpAny_bind (m:=checkCount "sorted" 1 1 _) (wpAny_pure ?_)
 refine wpAny_bind (hc _ _ rfl fun h1 tk k1 z1=>?_)
 refine wpAny_bind (wpAny_newList ?_)
 have hoL:(h1.push (seqObj "list" vs.toArray 0)).get? h1.objs.size=some (seqObj "list" vs.toArray 0):=Heap.get?_push_size _ rfl
 show wpAny _ _ _ _ _ { s with heap:=h1.push (seqObj "list" vs.toArray 0),toks:=tk }
 refine wpAny_bind (wpAny_holding (wpAny_call_entry slot_list_sort ⟨_,hoL,rfl⟩ entry_list_sort (list_sort_treeK strKind_oneLt hoL hS.keysOf (fun v₁ v₂ rest e=>keyKind_strs (by rw [← e]; exact hS)) h64 fun st' a1 a2=>⟨_,rfl,?_⟩) (args_list_sort _)))
 obtain ⟨ss',b1,b2,b3⟩:=sorted_out_str hS a1 a2
 obtain ⟨e,he⟩:=sortedHeap_at (out:=(arrOf st').map (·.2)) hoL
 refine wpAny_pure ⟨_,rfl,h _ tk _ e _ ss' (fun b o q=>?_) z1 he b1 b2 b3⟩
 have q1:=k1 _ _ q
 have lt:b<h1.objs.size:=Heap.lt_size q1
 rw [sortedHeap_old (Nat.ne_of_lt lt) (by rw [size_push']; exact Nat.lt_succ_of_lt lt)]
 exact Heap.get?_push_of_some _ q1
end
section
variable {X:Cx}
theorem ZlS (hc:X.calm=true):Zdo X (.builtin "max") (fun xs H Q=>∃ i j,xs=[.str i,.str j]∧Q (.str (if Za3 i j=true then j else i)) H):=by
 intro pins s σ H xs us Q I r h
 obtain ⟨i,j,rfl,q⟩:=h
 obtain ⟨u,w',rfl,⟨t,rfl⟩,⟨t',rfl⟩⟩:=Zmc r
 refine Zkx (I.ok.hd hc) fun h' tk k=>⟨_,H,I.kept k,?_,q⟩
 by_cases hj:Za3 i j=true
 ·rw [if_pos hj,if_pos hj]; exact ⟨_,rfl⟩
 ·rw [if_neg hj,if_neg hj]; exact ⟨_,rfl⟩
theorem ZlN (hc:X.calm=true):Zdo X (.builtin "min") (fun xs H Q=>∃ i j,xs=[.str i,.str j]∧Q (.str (if Za3 j i=true then j else i)) H):=by
 intro pins s σ H xs us Q I r h
 obtain ⟨i,j,rfl,q⟩:=h
 obtain ⟨u,w',rfl,⟨t,rfl⟩,⟨t',rfl⟩⟩:=Zmc r
 refine ZkY (I.ok.hd hc) fun h' tk k=>⟨_,H,I.kept k,?_,q⟩
 by_cases hj:Za3 j i=true
 ·rw [if_pos hj,if_pos hj]; exact ⟨_,rfl⟩
 ·rw [if_neg hj,if_neg hj]; exact ⟨_,rfl⟩
theorem Zca (K:W.Frag) (hK:X.K=K:=by rfl):Zdo X (.builtin "sorted") (fun xs H Q=>∃ l zs,xs=[.ref l]∧SqT K H l (zs.map V.str)∧zs.length<64∧∀ D zs',H D=none->zs'.Perm zs->sortedS zs'=true->Q (.ref D) (upd H D (.lst (zs'.map V.str)))):=by
 subst hK
 intro pins s σ H xs us Q I r h
 obtain ⟨l,zs,rfl,hq,hl,q⟩:=h
 obtain ⟨u,rfl,ru⟩:=ZeF r
 cases (show u=Value.ref l from ru)
 obtain ⟨its,rv,pl,hz⟩:=I.tuple hq
 have hlen:=rv.length
 rw [List.length_map] at hlen
 refine ZhF (Zfw rv) (by omega) (fun A' Q' _ q'=>ZkI pl (q' _ _ (fun b o e=>?_) ?_) (by rw [List.length_map] at hz; omega)) fun h' tk a e out zs' k1 z1 he so hp hs=>?_
 ·have lt:=Heap.lt_size e
  rw [Heap.get?_update_ne _ _ _ _ (Nat.ne_of_lt lt)]
  exact Heap.get?_push_of_some _ e
 ·rw [Heap.size_update,size_push']
  exact Nat.le_succ _
 have hl2:zs'.length=zs.length:=hp.length_eq
 exact ⟨.ref _,_,I.laid (t':=tk) (o:=.lst (zs'.map V.str)) k1 z1 (show ObjOk X.prog X.w _ _ _ (.lst (zs'.map V.str)) from ⟨by rw [List.length_map]; exact Nat.le_of_lt (Zam (by omega)),out.toList,e,Zd9 so,he⟩),rfl,q _ zs' (I.hok.fresh z1) hp hs⟩
theorem ZgU {prog : Program} {w : World} {K : Type} [DecidableEq K] (knd : HeapKind prog w K) (d : Addr) (hd : (d == sysModules)=false) :
  MeetsIn prog w (Builtin.«dict.__len__» ⟨[.ref d],[]⟩) (fun _ R s=>∃ kvs,s.heap.DictOfH knd d kvs∧R (.ok (.ret (.int kvs.length s.toks))) { s with toks:=s.toks+1 }) :=
 .of_wp fun A R s ⟨kvs,hm,h⟩=>by
  obtain ⟨o,es,ep,ho,hc,hdat,he,hk,hn⟩:=hm
  show wpAny _ _ (dictSize d >>= _) _ _ s
  unfold dictSize
  refine wpAny_bind (wpAny_bind (wpAny_dictEntries ho hdat (wpAny_pure ?_)))
  show wpAny _ _ (Builtin.Dict.pendingCount d >>= _) _ _ s
  refine wpAny_bind (wpAny_pendingCount_other hd ?_)
  refine wpAny_ret_mkInt ?_
  have:es.size=kvs.length:=size_of_entries he
  rw [Nat.add_zero,this]; exact h
theorem Znu {prog : Program} {w : World} {A : Around} {E : Value → Shared → Prop} {s : Shared} {K : Type} [DecidableEq K] {knd : HeapKind prog w K} {d : Addr} {kvs : List (K × Addr × Value)} {Q : Value → Shared → Prop} (hd : (d == sysModules)=false) (hm : s.heap.DictOfH knd d kvs) (hfit : (kvs.length : Int)<2 ^ 63)
  (h:Q (.int kvs.length (s.toks+1)) { s with toks:=s.toks+1+1 }):wpAny (model prog w) A (call (.builtin "len") [.ref d]) Q E s:=by
 refine Calls.call_function_entry kind_len plain_len entry_len (args_len1 _) ?_
 unfold Builtin.«len»
 refine wpAny_bind (m:=oneArg "len" _) (wpAny_pure ?_)
 refine wpAny_bind (m:=callSpecial? (.ref d) (Str.ofString "__len__")) (wpAny_callSpecial?_slot (name:=Str.ofString "__len__") hm.typeIs F.slot_dict_len
  (call_meetsIn F.slot_dict_len hm.typeIs F.entry_dict_len (F.args_dict_len_1 _) (ZgU knd d hd) ⟨kvs,hm,?_⟩))
 show wpAny _ _ _ _ _ { s with toks:=s.toks+1 }
 refine wpAny_bind (wpAny_holding (wpAny_pure ?_))
 refine wpAny_bind (wpAny_letGo ?_)
 show wpAny _ _ (if ((kvs.length:Nat):Int)<0 then _ else _) _ _ _
 rw [if_neg (by omega)]
 show wpAny _ _ (if ((kvs.length:Nat):Int) ≥ 2 ^ 63 then _ else _) _ _ _
 rw [if_neg (by omega)]
 exact wpAny_bind (wpAny_mkInt (wpAny_pure ⟨_,rfl,h⟩))
theorem ZlY:Zdo X (.builtin "len") (fun xs H Q=>∃ a kvs,xs=[V.ref a]∧H a=some (.dT kvs)∧Q (.int kvs.length) H):=by
 intro pins s σ H xs us Q I r h
 obtain ⟨a,kvs,rfl,ha,q⟩:=h
 obtain ⟨u,rfl,ru⟩:=ZeF r
 cases ru
 obtain ⟨z,hd,vs,rel,dd⟩:=Znb I.hok ha
 refine Znu hd dd (by rw [← rel.length]; rw [sizeLine_eq] at z; omega) ?_
 rw [← rel.length]
 exact ⟨.int kvs.length,H,I.tok _,⟨_,rfl⟩,q⟩
end
section
variable {prog:Program} {w:World} {K:Type} [DecidableEq K] {knd:HeapKind prog w K} {A:Around} {E:Value->Shared->Prop} {s:Shared}
theorem Zhg {d a : Addr} {xs : List (K × Addr × Value)} {k : K} {v : Value} {Q : Value → Shared → Prop} (hu : knd.room A) (hkey : knd.is s.heap k a) (hm : s.heap.DictOfH knd d xs) (hsz : xs.length ≤ sizeLine)
  (h1:∀ p,atKey xs k=some p->Q p.2 { s with toks:=s.toks+knd.draws k })
  (h2:atKey xs k=none->∀ h',h'.DictOfH knd d (storedH xs k a v)->Heap.SameBut d s.heap h'->Q v { s with heap:=h',toks:=s.toks+knd.draws k }) :
  wpAny (model prog w) A (dictSetDefault d (.ref a) v) Q E s:=by
 obtain ⟨o,es,ep,ho,hc,hd,he,his,hn⟩:=hm
 unfold dictSetDefault
 try with_reducible refine wpAny_holding ?_
 refine wpAny_bind (knd.pyHash hu hkey ?_)
 refine wpAny_bind (wpAny_dictFind_heap (s:={ s with toks:=s.toks+knd.draws k }) hu hkey ho hd he his hn ?_ ?_)
 ·intro hno
  have hnot:k ∉ xs.map (·.1):=not_mem_keys_of_get hno
  refine wpAny_bind (wpAny_rule (wpAny_bind (wpAny_updateDictKeys (hz:=by have e:=size_of_entries he; omega) (s:={ s with toks:=s.toks+knd.draws k }) ho hd (wpAny_pure (h2 (atKey_none_of_get hno) _ ⟨_,_,ep+1,Heap.get?_update_self _ ho (Obj.isFreed_of_dict (Obj.data_mapDictKeys hd _)),
   hc.mapDictKeys _,Obj.data_mapDictKeys hd _,?_,?_,?_⟩ (Heap.SameBut.update ..))))))
  ·rw [storedH_new (atKey_none_of_get hno)]
   simp [he,entryOfKey]
  ·rw [storedH_new (atKey_none_of_get hno)]
   intro x hx
   rcases List.mem_append.mp hx with hx | hx
   ·exact knd.keeps (his x hx) ho hd (Heap.SameBut.update ..)
   ·simp only [List.mem_singleton] at hx
    subst hx
    exact knd.keeps hkey ho hd (Heap.SameBut.update ..)
  ·rw [storedH_new (atKey_none_of_get hno)]
   rw [List.map_append,List.nodup_append]
   refine ⟨hn,by simp,?_⟩
   intro x hx y hy
   simp only [List.map_cons,List.map_nil,List.mem_singleton] at hy
   subst hy
   exact fun e=>hnot (e ▸ hx)
 ·intro j p hj
  refine wpAny_bind (wpAny_dictEntries (s:={ s with toks:=s.toks+knd.draws k }) ho hd ?_)
  rw [entry_at he j,hj]
  exact wpAny_bind (wpAny_rule (wpAny_pure (h1 p (atKey_of_get hn hj))))
theorem ZfU (d a : Addr) (hd : (d == sysModules)=false) (dflt : Value) :
  MeetsIn prog w (Builtin.«dict.setdefault» ⟨[.ref d,.ref a,dflt],[]⟩) (fun A R s=>knd.room A.in1∧∃ k xs,knd.is s.heap k a∧s.heap.DictOfH knd d xs∧xs.length≤sizeLine ∧
   (∀ p,atKey xs k=some p->R (.ok (.ret p.2)) { s with toks:=s.toks+knd.draws k }) ∧
   (atKey xs k=none->∀ h',h'.DictOfH knd d (storedH xs k a dflt)->Heap.SameBut d s.heap h'->R (.ok (.ret dflt)) { s with heap:=h',toks:=s.toks+knd.draws k })) :=
 .of_wp fun A R s ⟨hu,k,xs,hkey,hm,hz,h1,h2⟩=>by
  unfold Builtin.«dict.setdefault»
  refine wpAny_bind ?_
  unfold Builtin.Dict.keyAndDefault
  refine wpAny_bind (wpAny_notOrdered_dict hm.typeIs ?_)
  show wpAny _ _ (pure (d,Value.ref a,some dflt)) _ _ s
  refine wpAny_pure ?_
  show wpAny _ _ (if (d == sysModules)=true then _ else (dictSetDefault d (.ref a) dflt >>= _)) _ _ s
  rw [if_neg (by rw [hd]; exact Bool.false_ne_true)]
  exact wpAny_bind (Zhg hu hkey hm hz (fun p hp=>wpAny_pure ⟨p.2,rfl,h1 p hp⟩) fun hn h' hm' hs'=>wpAny_pure ⟨dflt,rfl,h2 hn h' hm' hs'⟩)
end
section
variable {X:Cx} {pins:List (Addr × Obj)} {σ:St} {H:Hp} {s:Shared} {a b:Addr} {kvs:List (List Key × V)} {k:List Key} {d:V} {r:Value} {A:Around} {E:Value->Shared->Prop}
theorem ZoY {Q : Value → Shared → Prop} (hu : A.units + 1<cLine) (I : Inv X pins σ H s) (e : H a=some (.dT kvs)) (eb : H b=some (.tup (k.map kV))) (l : kvs.length<sizeLine) (rd : RelV d r)
  (h1:∀ v w' s',ZcP kvs k=some v->RelV v w'->Inv X pins σ H s'->Q w' s') (h2:∀ s',ZcP kvs k=none->Inv X pins σ (upd H a (.dT (kvs++[(k,d)]))) s'->Q r s') :
  wpAny (model X.prog X.w) A (call (.builtin "dict.setdefault") [.ref a,.ref b,r]) Q E s:=by
 obtain ⟨z,hd,xs,rel,dd⟩:=Znb I.hok e
 have hz:xs.length≤sizeLine:=by rw [← Paired.length rel]; exact z
 have hv:=rel.val k
 refine call_meetsIn PySem.F.slot_dict_setdefault dd.typeIs PySem.F.entry_dict_setdefault (PySem.F.args_dict_setdefault_3 _ _ _) (ZfU (knd:=tupleKind (Zbi X.prog X.w)) a b hd r)
  ⟨tupleKind_room_in1 hu,k,xs,ZgZ I.hok eb,dd,hz,fun p hp=>?_,fun hn h' dd' hs=>?_⟩
 ·rw [hp] at hv
  cases ho:ZcP kvs k with
  | none=>rw [ho] at hv; cases hv
  | some v =>
   rw [ho] at hv
   exact h1 v _ _ ho hv (I.tok _)
 ·rw [hn] at hv
  have ho:ZcP kvs k=none:=by
   cases ho:ZcP kvs k with
   | none=>rfl
   | some v=>rw [ho] at hv; cases hv
  refine h2 _ ho ?_
  have hp:=rel.put k eb rd
  rw [ZiN _ ho] at hp
  have hl:(kvs++[(k,d)]).length≤sizeLine:=by rw [List.length_append]; exact l
  obtain ⟨q,es,ep,hq,h2,h3,h4,_,h5⟩:=dd'
  refine Zk7 I (by rw [e]; exact True.intro) hs ⟨q,hq⟩ ⟨hl,hd,_,hp.keeps fun c ys ec=>?_,q,es,ep,hq,h2,h3,h4,h5⟩
  rw [Zai (Zqx ec e (fun z=>nomatch z))]
  exact ec
end
def Zqw (td ty tx:TE):TE:=fun σ H Q=>td σ H fun x H1=>∃ a,x=.ref a∧IsD H1 a∧ty σ H1 fun y H2=>tx σ H2 fun z H3=>∃ kvs k b,H3 a=some (.dT kvs)∧y=.ref b∧H3 b=some (.tup (k.map kV))∧kvs.length<sizeLine ∧
 (∀ v,ZcP kvs k=some v->Q v H3)∧(ZcP kvs k=none->Q z (upd H3 a (.dT (kvs++[(k,z)]))))
section
variable {X:Cx} {o e f:Expr} {apos cpos:Pos} {td ty tx:TE}
theorem ZoU (hu:X.A.units+1<cLine) (ho:PE X o td) (he:PE X e ty) (hf:PE X f tx) (m:M2 X o "setdefault" apos e f cpos):PE X (.Call (.Attribute o "setdefault" apos) [e,f] [] cpos) (Zqw td ty tx):=by
 intro pins s σ H Q I h
 refine wpAny_Call_method m.base m.few m.line PySem.F.plainAttrs_dict PySem.F.slot_dict_setdefault PySem.F.type_dict_setdefault (thn (ho pins s σ H _ I h) fun u s1 ⟨x,H1,I1,rx,a,ex,d,q1⟩=>?_)
 subst ex
 obtain rfl:u=Value.ref a:=rx
 obtain ⟨t1,t2,_⟩:=Zpe I1 d
 refine ⟨t1,t2,?_⟩
 rw [m.trees]
 refine Calls.callWith_builtin rfl (Calls.evalArgs_plain (Calls.spliced_cons (thn (he pins s1 σ H1 _ I1 q1) fun iv s2 ⟨y,H2,I2,ry,q2⟩ =>
  Calls.spliced_cons (thn (hf pins s2 σ H2 _ I2 q2) fun fv s3 ⟨z,H3,I3,rz,kvs,k,b,ea,ey,eb,hl,q3,q4⟩=>Calls.spliced_nil ?_))))
 subst ey
 obtain rfl:iv=Value.ref b:=ry
 exact ZoY hu I3 ea eb hl rz (fun v w' s4 l rw' I4=>⟨v,H3,I4,rw',q3 v l⟩) fun s4 l I4=>⟨z,_,I4,rz,q4 l⟩
end
end L2
namespace L2
open PySem PySem.Spec PyProof.Rows PySem.W
section
variable {prog:Program} {w:World} {A:Around} {E:Value->Shared->Prop} {s:Shared} {T:String} {r d:Addr} {n:Nat} {P:Nat->Value->Prop} {OK:Heap->Prop}
theorem ZkV {Q : List Value → Shared → Prop} (K : KdlSrc prog w T r d n P OK) (hh : A.handled=none) (hok : OK s.heap) (hn : n ≤ sizeLine)
  (h:∀ h1 tk (acc:Array Value),(∀ b o,s.heap.get? b=some o->h1.get? b=some o)->s.heap.objs.size≤h1.objs.size->ItemsOf P acc n->Q acc.toList { s with heap:=h1,toks:=tk }) :
  wpAny (model prog w) A (collect (.ref r)) Q E s:=by
 have hlt:=K.there _ hok
 unfold collect
 refine wpAny_bind (wpAny_runValue (codeAny_builtin entry_proto_collect' ?_))
 show wpAny _ _ (do again (.builtin "list.__iadd__" ⟨[← newList [],.ref r],[]⟩)) _ _ s
 refine wpAny_bind (wpAny_newList (wpAny_pure ⟨Code.quiet_builtin _ (by decide +kernel),codeAny_builtin entry_list_iadd' ?_⟩))
 show wpAny _ _ (Builtin.List.listExtendWith (.ref s.heap.objs.size) (.ref r) (.ref s.heap.objs.size)) _ _ { s with heap:=s.heap.push (seqObj "list" #[] 0) }
 have hS:(s.heap.push (seqObj "list" #[] 0)).get? s.heap.objs.size=some { cls:=.type "list",data:=.seq #[] 0 }:=Heap.get?_push_size _ rfl
 rw [Around.under_plainId (by decide +kernel)]
 refine kdl_extend (R:=fun r s'=>match r with
  | .ok (.ret v)=>wpAny (model prog w) A (match v with
   | .ref a=>do match (← load a).data with
    | .seq xs _=>pure xs.toList
    | _=>unsupported "internal:collect"
   | _=>unsupported "internal:collect") Q E s'
  | .ok _=>False
  | .error e=>E e s') (A:=A) (s:={ s with heap:=s.heap.push (seqObj "list" #[] 0) }) K hh (K.keep _ _ hok fun b _ o e=>Heap.get?_push_of_some _ e) s.heap.objs.size (Nat.ne_of_gt hlt.1) (Nat.ne_of_gt hlt.2) (.ref s.heap.objs.size) 0 hS (fun h' tk acc c hk hS' hacc=>?_) hn
 refine wpAny_bind (wpAny_load hS' ?_)
 exact wpAny_pure (h h' tk acc (fun b o e=>hk b o (Nat.ne_of_lt (Heap.lt_size e)) (Heap.get?_push_of_some _ e)) (Nat.le_of_lt (Heap.lt_size hS')) hacc)
end
section
variable {X:Cx}
end
end L2
namespace L2
open PySem PySem.Spec PyProof.Rows
theorem Zg9 (val:Nat->Int):∀ k:Nat,argBest (fun i j=>decide (val i > val j)) k≤k∧∀ i,i≤k->val i≤val (argBest (fun i j=>decide (val i > val j)) k)
 | 0=>⟨Nat.le_refl _,fun i hi=>by cases (show i=0 by omega); exact Int.le_refl _⟩
 | k+1=>by
  obtain ⟨h1,h2⟩:=Zg9 val k
  show (if decide (val (k+1) > val (argBest _ k))=true then k+1 else argBest _ k)≤k+1∧∀ i,i≤k+1->val i≤val (if decide (val (k+1) > val (argBest _ k))=true then k+1 else argBest _ k)
  by_cases h:val (k+1) > val (argBest (fun i j=>decide (val i > val j)) k)
  ·rw [if_pos (decide_eq_true h)]
   refine ⟨Nat.le_refl _,fun i hi=>?_⟩
   by_cases e:i=k+1
   ·subst e; exact Int.le_refl _
   ·have:=h2 i (by omega)
    omega
  ·rw [if_neg (by rw [decide_eq_false h]; decide)]
   refine ⟨by omega,fun i hi=>?_⟩
   by_cases e:i=k+1
   ·subst e; omega
   ·exact h2 i (by omega)
theorem ZjC:∀ {us:List Value} {is:List Int},Vals (is.map V.int) us->∃ ps:List (Int × Tok),us=ps.map (fun p=>Value.int p.1 p.2)∧ps.map (·.1)=is
 | us,[],r=>by cases r; exact ⟨[],rfl,rfl⟩
 | us,i :: is,r=>by
  cases r with
  | cons h t =>
   obtain ⟨tk,rfl⟩:=h
   obtain ⟨ps,rfl,e⟩:=ZjC t
   exact ⟨(i,tk) :: ps,rfl,by rw [List.map_cons,e]⟩
section
variable {X:Cx}
theorem Zjm (K:W.Frag) (hc:X.calm=true) (hK:X.K=K:=by rfl):Zdo X (.builtin "max") (fun xs H Q=>∃ (l:Addr) (is:List Int),xs=[.ref l]∧SqL K H l (is.map V.int)∧is≠[]∧∀ m,m∈is->(∀ x∈is,x≤m)->Q (.int m) H):=by
 subst hK
 intro pins s σ H xs us Q I r h
 obtain ⟨l,is,rfl,hq,hne,q⟩:=h
 obtain ⟨u,rfl,ru⟩:=ZeF r
 cases (show u=Value.ref l from ru)
 obtain ⟨its,rv,pl,hz⟩:=I.list hq
 obtain ⟨ps,rfl,rfl⟩:=ZjC rv
 have hl:s.heap.IsList l (intItems ps.toArray):=by
  have:=pl.isList
  rwa [show (ps.map fun p=>Value.int p.1 p.2).toArray=intItems ps.toArray by simp [intItems]] at this
 have hpos:0<ps.length:=List.length_pos_iff.mpr (fun e=>hne (by rw [e]; rfl))
 refine max_intList (I.ok.hd hc) hl (by simpa using hpos) fun v h' tk e k=>?_
 obtain ⟨b1,b2⟩:=Zg9 (numAt ps.toArray) (ps.toArray.size-1)
 obtain ⟨t,rfl⟩:=intItems_at e
 generalize argBest (fun i j=>decide (numAt ps.toArray i > numAt ps.toArray j)) (ps.toArray.size-1)=n at *
 have hn:n<ps.length:=by rw [List.size_toArray] at b1; omega
 have val:∀ i (hi:i<ps.length),numAt ps.toArray i=(ps[i]).1:=fun i hi=>by simp [numAt,hi]
 refine ⟨.int (numAt ps.toArray n),H,I.kept k,⟨t,rfl⟩,q _ ?_ fun x hx=>?_⟩
 ·rw [val n hn]
  exact List.mem_map.mpr ⟨ps[n],List.getElem_mem _,rfl⟩
 ·obtain ⟨p,hp,rfl⟩:=List.mem_map.mp hx
  obtain ⟨i,hi,rfl⟩:=List.getElem_of_mem hp
  rw [← val i hi]
  exact b2 i (by rw [List.size_toArray]; omega)
end
section
variable {X:Cx} {pins:List (Addr × Obj)} {σ:St} {H H':Hp} {s:Shared} {d:Addr} {kvs:List (Key × V)} {o:Obj}
theorem Inv.thaw (I:Inv X pins σ H s) (e:H d=some (.frz o (.dK kvs))) (n:∀ o u,X.H₀ d≠some (.frz o u)):Inv X pins σ (upd H d (.dK kvs)) s:=by
 have ne:∀ b,H b=none->b≠d:=fun b z q=>by subst q; rw [e] at z; cases z
 refine ⟨I.ok,I.os,I.bare,⟨I.base.keep,I.base.slot,fun b q h1 h2 h3=>?_,I.base.there,fun b xs h1=>?_,fun b q u h1=>?_,fun b ps h1=>?_⟩,I.loc,I.cell,?_,fun x c h1=>?_,fun p hp=>?_,fun b u h1=>?_,I.len⟩
 ·have:=I.base.free b q h1 h2 h3
  rw [Zai (ne b this)]; exact this
 ·have:=I.base.tups b xs h1
  rw [Zai (fun z=>by subst z; rw [e] at this; cases this)]; exact this
 ·have:=I.base.frzs b q u h1
  rw [Zai (fun z=>by subst z; exact n _ _ h1)]; exact this
 ·obtain ⟨more,this⟩:=I.base.tbls b ps h1
  exact ⟨more,by rw [Zai (fun z=>by subst z; rw [e] at this; cases this)]; exact this⟩
 ·rw [Zai (ne _ I.free)]; exact I.free
 ·have:=I.freeC x c h1
  rw [Zai (ne _ this)]; exact this
 ·obtain ⟨a1,a2,a3⟩:=I.pin p hp
  exact ⟨a1,by rw [Zai (ne _ a2)]; exact a2,a3⟩
 ·by_cases z:b=d
  ·subst z
   rw [Zab] at h1
   cases h1
   exact (show ObjOk X.prog X.w _ _ _ (.dK kvs) from (I.hok b _ e).2)
  ·rw [Zai z] at h1
   refine (I.hok b u h1).stay (fun c v hc q=>q) (fun c q=>?_) fun c xs q=>?_
   ·rw [Zai (fun z=>by subst z; rw [e] at q; cases q)]; exact q
   ·rw [Zai (fun z=>by subst z; rw [e] at q; cases q)]; exact q
end
theorem Zq2:∀ {kvs:List (Key × V)} {vs:List (Key × Value)},KV kvs vs->∀ (i:Nat) (p:Key × V),kvs[i]?=some p->∃ x,vs[i]?=some (p.1,x)
 | [],_,r,i,p,e=>by cases e
 | q :: kvs,_,r,i,p,e=>by
  cases r with
  | @cons _ y _ _ h t =>
   cases i with
   | zero =>
    cases (show some q=some p from e)
    exact ⟨y.2,by rw [List.getElem?_cons_zero,h.1]⟩
   | succ i =>
    rw [List.getElem?_cons_succ] at e
    obtain ⟨x,hx⟩:=Zq2 t i p e
    exact ⟨x,by rw [List.getElem?_cons_succ]; exact hx⟩
theorem Zri {k:Key} {v:Value} (h:ZkB k v=true):RelV (kV k) v:=by
 rcases Zbo h with ⟨i,t,rfl,rfl⟩ | ⟨x,t,rfl,rfl⟩
 ·exact ⟨t,rfl⟩
 ·exact ⟨t,rfl⟩
noncomputable def Itd (d:Addr) (o:Obj) (kvs:List (Key × V)):It where
 go:=fun i H=>H d=some (.frz o (.dK kvs))∧i<kvs.length
 stop:=fun i H=>H d=some (.frz o (.dK kvs))∧kvs.length≤i
 yld:=fun i H x H'=>H'=H∧(kvs[i]?.map fun p=>kV p.1)=some x
theorem ZnF {P:Program} {w:World} {K:W.Frag} {tg:Expr} (d it:Addr) (o:Obj) (kvs:List (Key × V)) (es:Array DictEntry) (ep:Nat) (ho:o.data=.dict es ep):Turn P w K tg (Itd d o kvs) [it] it (fun i h=>h.IsKeyIter it d i kvs.length ep) where
 mem:=by simp
 obj:=fun i h st b hb=>by
  have e:b=it:=by simpa using hb
  subst e
  obtain ⟨o,e,c,d⟩:=st
  exact ⟨o,e,fun v z=>by rw [d] at z; cases z⟩
 keep:=fun i h h' st k=>st.at fun o e=>k it (by simp) o e
 item:=by
  intro X hP hw hK hc i pins s σ H E I hf st hg
  subst hP hw hK
  obtain ⟨hq,hi⟩:=hg
  obtain ⟨g1,g2⟩:=(show s.heap.get? d=some o∧ObjOk X.prog X.w H s.heap d (.dK kvs) from I.hok d _ hq)
  obtain ⟨z,hd,vs,rel,dd⟩:=(show kvs.length≤sizeLine∧(d == sysModules)=false∧∃ vs,KV kvs vs∧s.heap.DictOf (Zbi X.prog X.w) d vs from g2)
  obtain ⟨o2,es2,ep2,b1,b2,b3,b4⟩:=dd
  rw [g1] at b1
  cases b1
  rw [ho] at b3
  cases b3
  have da:s.heap.DictAt (Zbi X.prog X.w) d vs ep:=⟨o,es,g1,b2,ho,b4⟩
  have hlen:vs.length=kvs.length:=rel.length.symm
  obtain ⟨x,hx⟩:=Zq2 rel i kvs[i] (List.getElem?_eq_getElem hi)
  obtain ⟨f0,f1,f2,f3,f4,f5⟩:=hf it (by simp)
  rw [← hlen] at st
  refine wpAny_pyNext_dict_item st da hx fun key h' hkey st' sb=>?_
  have I1:Inv X pins σ H { s with heap:=h' }:=I.turned (t':=s.toks) (fun b o hb e=>(sb.2 b hb).trans e) f0 f1 f3 f4 f5
  rw [hlen] at st'
  obtain ⟨o3,e3,c3,d3⟩:=id st'
  exact ⟨key,rfl,ZoC (s:={ s with heap:=h' }) e3 c3 d3 (by decide) ⟨kV kvs[i].1,H,I1,Zri hkey,⟨rfl,by rw [List.getElem?_eq_getElem hi]; rfl⟩,st',fun b hb=>(hf b hb).1⟩⟩
 done:=by
  intro X hP hw hK hc i pins s σ H E I hf st hg
  subst hP hw hK
  obtain ⟨hq,hi⟩:=hg
  obtain ⟨g1,g2⟩:=(show s.heap.get? d=some o∧ObjOk X.prog X.w H s.heap d (.dK kvs) from I.hok d _ hq)
  obtain ⟨z,hd,vs,rel,dd⟩:=(show kvs.length≤sizeLine∧(d == sysModules)=false∧∃ vs,KV kvs vs∧s.heap.DictOf (Zbi X.prog X.w) d vs from g2)
  obtain ⟨o2,es2,ep2,b1,b2,b3,b4⟩:=dd
  rw [g1] at b1
  cases b1
  rw [ho] at b3
  cases b3
  have da:s.heap.DictAt (Zbi X.prog X.w) d vs ep:=⟨o,es,g1,b2,ho,b4⟩
  have hlen:vs.length=kvs.length:=rel.length.symm
  obtain ⟨f0,f1,f2,f3,f4,f5⟩:=hf it (by simp)
  rw [← hlen] at st
  exact wpAny_pyNext_dict_end (I.ok.hd hc) st da (List.getElem?_eq_none (by omega)) fun h' eb=>⟨rfl,I.turned (t':=s.toks) (fun b o hb e=>eb b o hb e) f0 f1 f3 f4 f5⟩
 self:=fun _ _ _ _ _ st h=>wpAny_pyIter_keyiter st h
def ZrW (tl:TE):TI:=fun σ H R=>tl σ H fun x H1=>∃ a kvs,x=.ref a∧H1 a=some (.dK kvs)∧∀ o,R (Itd a o kvs) (upd H1 a (.frz o (.dK kvs)))
theorem Zpz {X:Cx} {tg l:Expr} {tl:TE} (hl:PE X l tl):PI X tg l (ZrW tl):=by
 intro pins s σ H R I h
 refine thn (hl pins s σ H _ I h) fun v s1 ⟨x,H1,I1,r1,q1⟩=>?_
 obtain ⟨a,kvs,e,ha,q⟩:=q1
 subst e
 cases r1
 obtain ⟨z,hd,vs,rel,dd⟩:=Zrr I1.hok ha
 obtain ⟨o,es,ep,b1,b2,b3,b4⟩:=id dd
 have da:s1.heap.DictAt (Zbi X.prog X.w) a vs ep:=⟨o,es,b1,b2,b3,b4⟩
 have hlen:vs.length=kvs.length:=rel.length.symm
 have If:Inv X pins σ (upd H1 a (.frz o (.dK kvs))) s1 :=
  I1.write (x:=a) (e:=a) (o:=.frz o (.dK kvs)) (h':=s1.heap) (t':=s1.toks) (by rw [ha]; exact True.intro) (.inl rfl) (fun b u _ e=>e) ⟨o,b1⟩ ⟨b1,z,hd,vs,rel,dd⟩
 refine wpAny_pyIter_dict hd da ?_
 refine ⟨s1.heap.objs.size,[s1.heap.objs.size],_,_,_,rfl,If.kept (t':=s1.toks) fun b o e=>Heap.get?_push_of_some _ e,ZnF a _ o kvs es ep b3,⟨_,Heap.get?_push_size _ rfl,rfl,by rw [hlen]; rfl⟩,fun b hb=>?_,q o⟩
 have e:b=s1.heap.objs.size:=by simpa using hb
 subst e
 exact If.fpOk (Nat.le_refl _) (If.hok.fresh (Nat.le_refl _))
section
variable {X:Cx}
end
section
variable {X:Cx}
end
section
variable {X:Cx}
end
def Zsl (D:Addr) (H H':Hp):Prop:=∀ b u,b≠D->H b=some u->H' b=some u
def ZrD (t:TS):TS:=fun D σ H=>∃ d kvs,H d=some (.dK kvs)∧t { nx:=fun σ' H'=>∃ o,H' d=some (.frz o (.dK kvs))∧D.nx σ' (upd H' d (.dK kvs)),rt:=fun _ _=>False } σ H
theorem Zqi {X:Cx} {st:Stmt} {t:TS} (hs:PS X st t):PS X st (ZrD t):=by
 intro pins s σ H D I h
 obtain ⟨d,kvs,hd,h⟩:=h
 have n:∀ o u,X.H₀ d≠some (.frz o u):=fun o u z=>by
  have:=I.base.frzs d o u z
  rw [hd] at this
  cases this
 refine thn (hs pins s σ H _ I h) fun fl s1 q=>?_
 cases fl with
 | next =>
  obtain ⟨σ1,H1,I1,o,e1,q1⟩:=q
  exact ⟨σ1,_,I1.thaw e1 n,q1⟩
 | brk=>obtain ⟨σ1,H1,I1,z⟩:=q; exact z.elim
 | cont=>obtain ⟨σ1,H1,I1,z⟩:=q; exact z.elim
 | ret u=>obtain ⟨v,σ1,H1,I1,r,z⟩:=q; exact z.elim
structure FunD (K:W.Frag) (x qual:Str) (st:Stmt) (f:Addr) (fd:FuncData) (dV:Value):Prop where
 ex:∃ (oc:Value) (od:Option Addr) (kV doc pm:Value) (an:Option Addr) (cdv ct:Value) (osl:Array (Option Value)),
  fd=W.fnOf x qual (Zcb st) (ZbS st) (Zap st) dV kV doc pm an cdv ct∧K.lookup f=some ⟨oc,od,.func fd,osl⟩∧W.codeIn K cdv qual=true
 kp:W.keepIn K (.ref f)=true
theorem FunD.okX {P : Program} {w : World} {K : W.Frag} {mg : Str → Option Value} {base : Heap} {CX : CXT} {x qual : Str} {st : Stmt} {f : Addr} {fd : FuncData} {dV : Value} {N ps : List Str} {k : Nat} {sp : Sp} (F : FunD K x qual st f fd dV) (S : FnScope N ps (Zap st))
  (len:∀ vs H Q E,sp vs H Q E->vs.length=ps.length)
  (hbody:∀ (cdv:Value) (A:Around) (outer:List Env) (s:Shared) (H:Hp) (vs:List V) (Q:VK) (E:XK),Room k (A.deeper (envOfC qual (Zap st) s.heap.objs.size f cdv))->sp vs H Q E →
   ∃ t,PSs (Zoh CX P w K mg base N qual (Zap st) f cdv A outer s H E) (ZbS st) t∧t { nx:=fun _ H'=>Q .non H',rt:=Q } (start N vs) H):FnOk P w K mg base CX (k+1) f fd ps sp:=by
 obtain ⟨oc,od,kV,doc,pm,an,cdv,ct,osl,rfl,lk,hcd⟩:=F.ex
 exact Zqy lk hcd S len fun A outer s H vs Q E hr hsp=>hbody cdv A outer s H vs Q E hr hsp
theorem ZkG {K : W.Frag} {x qual : Str} {st : Stmt} {f : Addr} {oc : Value} {od an : Option Addr} {osl : Array (Option Value)} {dV kV doc pm cdv ct : Value} (l : K.lookup f=some ⟨oc, od, .func (W.fnOf x qual (Zcb st) (ZbS st) (Zap st) dV kV doc pm an cdv ct), osl⟩)
  (c:W.codeIn K cdv qual=true) (k:W.keepIn K (.ref f)=true):FunD K x qual st f (W.fnOf x qual (Zcb st) (ZbS st) (Zap st) dV kV doc pm an cdv ct) dV:=⟨⟨oc,od,kV,doc,pm,an,cdv,ct,osl,rfl,l,c⟩,k⟩
theorem FunD.binds1 {K : W.Frag} {x qual : Str} {st : Stmt} {f T : Addr} {fd : FuncData} {ps : List Str} {o : Obj} {n : Nat} (F : FunD K x qual st f fd (.ref T)) (ho : K.lookup T=some o) (hs : o.data=.seq #[.none] n)
  (h:∀ (kV doc pm:Value) (an:Option Addr) (cdv ct:Value) (us:List Value),us.length+1=ps.length->∃ k:Option (Array Value)->Sem (List (Str × Value)),
   bindArgs (W.fnOf x qual (Zcb st) (ZbS st) (Zap st) (.ref T) kV doc pm an cdv ct) ⟨us,[]⟩=seqItems? (.ref T) >>= k∧k (some #[.none])=pure (ps.zip (us++[.none]))):Binds K fd ps [.none]:=by
 obtain ⟨oc,od,kV,doc,pm,an,cdv,ct,osl,rfl,lk,hcd⟩:=F.ex
 intro s us hin hl
 rw [List.length_append] at hl
 obtain ⟨k,h1,h2⟩:=h kV doc pm an cdv ct us hl
 exact W.binds_K hin rfl ho hs h1 h2
theorem Zgd {M : Model} {A : Around} {E : Value → Shared → Prop} {K : W.Frag} {nm q : Str} {C C' N : Addr} {bs bm : List Value} {hdct : Bool} {sn : List Str} {sub : List Value} {ab : Bool} {col : Option Bool} {dd : Option Addr} {k0 k1 k2 k3 k5 : Option Value} {newId : String}
  {h:Heap} {g:Array GenState} {d:Drawn} {t:Nat} {os:OsState} {e:Addr} {oe:Obj} {Q:Bool->Shared->Prop} (X:K.In h)
  (hC:h.get? C=some (excClassObj nm q C N bs bm hdct sn sub ab col dd k0 k1 k2 k3 k5 newId)) (he:h.get? e=some oe) (hcls:oe.cls=.ref C') (hbase:bm.contains (.type "BaseException")=true) (hm:W.mroIn K C' (.ref C)=some true)
  (hq:Q true ⟨h,g,d,t,os⟩):wpAny M A (excMatches (.ref e) (.ref C)) Q E ⟨h,g,d,t,os⟩:=by
 have hcB:(Value.ref C :: bm).contains (.type "BaseException")=true:=by rw [List.contains_cons,hbase,Bool.or_true]
 have f:=tc_notTuple
 unfold excMatches
 repeat (first | (with_reducible refine wpAny_loadPart_at he ?_; rw [hcls]) | with_reducible refine wpAny_loadPart_at hC ?_ | with_reducible refine (W.looks_mroIn X hm).at ?_ | (with_reducible refine wpAny_isSubtype_exc hC ?_; rw [hcB]) | wp_step)
 exact hq
noncomputable def ZlG (K:W.Frag) (C:Addr) (i:Nat) (ts:TS) (D:Ends):XS:=fun σ cls _ H=>∃ C',cls=.ref C'∧W.mroIn K C' (.ref C)=some true∧∀ e,H e=none->ts (ZkU i D) (σ.set i (some (.ref e))) (upd H e (Zkq (.ref C') e))
def Zn3 (K:W.Frag) (C:Addr) (i:Nat) (tb:XS->TS) (ts:TS):TS:=fun D σ H=>tb (ZlG K C i ts D) D σ H
section
variable {X:Cx} {body suite:List Stmt} {b₀:Stmt} {x n:Str} {C:Addr} {np hpos pos:Pos} {bmB:List Value} {newId:String} {i:Nat} {tb:XS->TS} {ts:TS}
theorem Zmw (hs : X.stack=X.env :: X.outer) (hf : X.env.frame=some X.env.locals) (hg : Gl X x) (hm : X.mg x=some (.ref C)) (q : PySem.W.excIn X.K C bmB newId=true) (hbase : bmB.contains (.type "BaseException")=true)
  (hN:X.N.Nodup) (hi:X.N[i]?=some n) (hk:X.env.scope.names.lookup n=some .local)
  (hb:∀ pins W E,ZdJ (CX1 X.prog X.w) (X.tryIn pins W) E->PSs (X.tryIn pins W) body (tb E)) (hsu:∀ pins e,PSs (X.suite pins e) (b₀ :: suite) ts)
  (hd:(x == ("__debug__" : Str))=false:=by decide):PS X (.Try body [.ExceptHandler (some (.Name x np)) (some n) (b₀ :: suite) hpos] [] [] pos) (Zn3 X.K C i tb ts):=by
 intro pins s σ H D I h
 refine wpAny_Try_except ?_
 refine wpAny_mono (hb pins (fun u s₁=>wpAny (model X.prog X.w) X.A (noteFrame u X.env) (fun _ s₂=>wpAny (model X.prog X.w) X.A (setFlight u none) (fun _ s₃ =>
  wpAny (model X.prog X.w) X.A (handleBy u X.env [.ExceptHandler (some (.Name x np)) (some n) (b₀ :: suite) hpos]) (SP X pins D) X.xe s₃) X.xe s₂) X.xe s₁) (ZlG X.K C i ts D) ?_ [] s σ H D (I.tryIn _) h) ?_ fun _ _ z=>z
 ·rintro pins' σ1 H1 s1 u s' I1 ⟨e,cls,H',rfl,fl,C',rfl,hmro,hts⟩
  have J1:Inv X pins σ1 H1 s1:=I1.untry
  have fl:Flies X.prog X.w X.stack H1 H' s1 s' e (.ref C'):=fl
  obtain ⟨B,a0,f0,mv⟩:=fl.move
  rw [hs] at f0
  refine wpAny_looks_onW (by rw [I.ok.frames,hs]) hf f0 fun h4 held4 up4=>?_
  refine wpAny_landsW held4 fun h5 f5 up5=>?_
  have fl5:=mv h5 (by rw [hs]; exact f5) (up4.trans up5)
  have J5:=fl5.inv J1
  obtain ⟨ob,hob,hobc⟩:=f5.there
  refine wpAny_handleBy_cons (codeAny_handlers_test (Zop J5 hg hm ?_ hd)) (by intro z; cases z)
  obtain ⟨bm,Nn,nm,qn,bs,hdct,sn,sub,ab,col,dd,k0,k1,k2,k3,k5,mN,hC,hNn,hni,T⟩:=Zph I.mod.kin q
  refine Zgd (K:=X.K) J5.kIn (J5.bk _ _ hC) hob hobc (T.hasType hbase) hmro (codeAny_handlers_suite_as ?_)
  refine lands_againW f5 fun h6 f6 up6=>?_
  have fl6:=mv h6 (by rw [hs]; exact f6) ((up4.trans up5).trans up6)
  have J6:=fl6.caught J1
  refine Zis (X:=X.suite pins e) (v:=.ref e) (J6.suite e) hN hi (.inl hk) rfl (fun s7 J7=>?_) (.inr hk)
  refine wpAny_mono (hsu pins e [] s7 _ _ _ J7 (hts e fl6.new.1)) (fun f s8 r8=>?_) fun _ _ z=>False.elim z
  have r9:SP X pins (ZkU i D) f s8:=r8.unsuite I.ok.hd
  cases f with
  | next =>
   obtain ⟨σ9,H9,I9,q9⟩:=r9
   exact Zft I9 hN hi hk fun s' J'=>⟨_,H9,J',q9⟩
  | brk =>
   obtain ⟨σ9,H9,I9,q9⟩:=r9
   exact Zft I9 hN hi hk fun s' J'=>⟨_,H9,J',q9⟩
  | cont =>
   obtain ⟨σ9,H9,I9,q9⟩:=r9
   exact Zft I9 hN hi hk fun s' J'=>⟨_,H9,J',q9⟩
  | ret u =>
   obtain ⟨v,σ9,H9,I9,rv,q9⟩:=r9
   exact Zft I9 hN hi hk fun s' J'=>⟨v,_,H9,J',rv,q9⟩
 ·intro f s1 r1
  have r2:SP X pins D f s1:=r1.untry
  cases f with
  | next=>exact wpAny_execs_nil r2
  | brk=>exact r2
  | cont=>exact r2
  | ret u=>exact r2
end
theorem ZfL {K : PySem.W.Frag} {C : Addr} {i : Nat} {tb : XS → TS} {ts : TS} {D : Ends} {σ : St} {H : Hp} (W : Addr → Prop) (σ' : St) (hW : ∀ c, W c → PySem.W.mroIn K c (.ref C)=some true) (hc : ∀ c H' e, W c → Same H H' → H' e=none → ts (ZkU i D) (σ'.set i (some (.ref e))) (upd H' e (Zkq (.ref c) e)))
  (hb:∀ E:XS,(∀ c H',W c->Same H H'->E σ' (.ref c) none H')->tb E D σ H):Zn3 K C i tb ts D σ H :=
 hb _ fun c H' w s=>⟨c,rfl,hW c w,fun e he=>hc c H' e w s he⟩
end L2
namespace SA
open PySem PyProof.Rows
section
variable {M:Model} {A:Around} {E:Value->Shared->Prop} {s:Shared}
def Cmp (M:Model) (A:Around) (E:Value->Shared->Prop) (s:Shared) (O:KeyOrd) (key:Keyed->O.α) (D:Keyed->Prop) (kd:SortKind):Prop :=
 ∀ (x y:Keyed) (st:SortSt) (Q:Option Bool->SortSt->Prop),D x->D y->kindOf st=kd->Q (some (O.blt (key x) (key y))) st->wpS M A E s (lt' x y) Q st
variable {O:KeyOrd} {key:Keyed->O.α} {D:Keyed->Prop} {kd:SortKind}
theorem Zn2 {arr:Array Keyed} {i:Nat} {x:Keyed} {st:SortSt} {Q:Keyed->SortSt->Prop} (hx:arr[i]?=some x) (h:Q x st):wpS M A E s (elem' arr i) Q st:=by
 rw [elem'_eq,hx]; exact wpS_pure h
theorem Zrc {a:Array Keyed} {i:Nat} (h:i<a.size):∃ x,a[i]?=some x:=⟨a[i],getElem?_pos a i h⟩
noncomputable def ZmN (O:KeyOrd) (key:Keyed->O.α) (a:Array Keyed) (d:O.α) (i:Nat):O.α:=match a[i]? with | some x=>key x | none=>d
theorem Zih {a:Array Keyed} {d:O.α} {i:Nat} {x:Keyed} (h:a[i]?=some x):ZmN O key a d i=key x:=by unfold ZmN; rw [h]
end
section
variable {M:Model} {A:Around} {E:Value->Shared->Prop} {s:Shared} {O:KeyOrd} {key:Keyed->O.α} {D:Keyed->Prop} {kd:SortKind}
end
section
variable {M:Model} {A:Around} {E:Value->Shared->Prop} {s:Shared} {O:KeyOrd} {key:Keyed->O.α} {D:Keyed->Prop} {kd:SortKind}
end
section
variable {O:KeyOrd} {key:Keyed->O.α}
abbrev le (O:KeyOrd) (key:Keyed->O.α) (x y:Keyed):Prop:=O.kle (key x) (key y)
theorem toL {a:Array Keyed} {i:Nat} {x:Keyed} (h:a[i]?=some x):a.toList[i]?=some x:=by rw [Array.getElem?_toList]; exact h
end
section
variable {M:Model} {A:Around} {E:Value->Shared->Prop} {s:Shared} {O:KeyOrd} {key:Keyed->O.α} {D:Keyed->Prop} {kd:SortKind}
theorem ZqG {arr:Array Keyed} {P B S:List Keyed} (e:arr.toList=P++(B++S)) {i:Nat} (hi:i<B.length):arr[P.length+i]?=B[i]?:=by
 rw [← Array.getElem?_toList,e,List.getElem?_append_right (by omega),Nat.add_sub_cancel_left,List.getElem?_append_left hi]
end
section
variable {M:Model} {A:Around} {E:Value->Shared->Prop} {s:Shared} {O:KeyOrd} {key:Keyed->O.α} {D:Keyed->Prop} {kd:SortKind}
end
section
variable {M:Model} {A:Around} {E:Value->Shared->Prop} {s:Shared} {O:KeyOrd} {key:Keyed->O.α} {D:Keyed->Prop} {kd:SortKind} {d:O.α}
structure Rn (lo:Nat) (st0 st:SortSt) (n:Nat):Prop where
 kind:kindOf st=kindOf st0
 fail:failedOf st=failedOf st0
 pend:pendingOf st=pendingOf st0
 perm:(arrOf st).Perm (arrOf st0)
 out:∀ k,k<lo∨lo+n≤k->(arrOf st)[k]?=(arrOf st0)[k]?
theorem Rn.refl (lo n:Nat) (st:SortSt):Rn lo st st n:=⟨rfl,rfl,rfl,Array.Perm.refl _,fun _ _=>rfl⟩
theorem Rn.mono {lo n m:Nat} {st0 st:SortSt} (h:Rn lo st0 st n) (hn:n≤m):Rn lo st0 st m:=⟨h.kind,h.fail,h.pend,h.perm,fun k hk=>h.out k (by omega)⟩
theorem Rn.size {lo n:Nat} {st0 st:SortSt} (h:Rn lo st0 st n):(arrOf st).size=(arrOf st0).size:=h.perm.size_eq
theorem Rn.mir {lo n i j:Nat} {st0 st:SortSt} (h:Rn lo st0 st n) (hi:lo≤i) (hj:j≤lo+n) (hs:j≤(arrOf st).size):Rn lo st0 (setArr st (mirror (arrOf st) i j ((j-i)/2))) n :=
 ⟨h.kind,h.fail,h.pend,(mirror_perm _ _ _ _).trans h.perm,fun k hk=>by
  show (mirror (arrOf st) i j ((j-i)/2))[k]?=_
  rw [getElem?_mirror_all hs,if_neg (by omega)]; exact h.out k hk⟩
noncomputable abbrev K (O:KeyOrd) (key:Keyed->O.α) (d:O.α) (a:Array Keyed) (i:Nat):O.α:=ZmN O key a d i
theorem Zqe {a:Array Keyed} {i j:Nat} (hj:j≤a.size) (k:Nat):K O key d (mirror a i j ((j-i)/2)) k=if i≤k∧k<j then K O key d a (i+j-1-k) else K O key d a k:=by
 unfold K ZmN
 rw [getElem?_mirror_all hj]
 by_cases c:i≤k∧k<j
 ·rw [if_pos c,if_pos c]
 ·rw [if_neg c,if_neg c]
theorem Zhe (hc : Cmp M A E s O key D kd) {st : SortSt} {i j : Nat} {Q : Option Bool → SortSt → Prop} (hk : kindOf st=kd) (hD : ∀ u, u ∈ (arrOf st).toList → D u) (hi : i<(arrOf st).size) (hj : j<(arrOf st).size)
  (h:Q (some (O.blt (K O key d (arrOf st) i) (K O key d (arrOf st) j))) st):wpS M A E s (ltAt' i j) Q st:=by
 obtain ⟨x,hx⟩:=Zrc hi
 obtain ⟨y,hy⟩:=Zrc hj
 rw [ltAt'_eq]
 refine wpS_bind (wpS_get ?_)
 refine wpS_bind (m:=elem' (arrOf st) i) (Zn2 hx ?_)
 refine wpS_bind (m:=elem' (arrOf st) j) (Zn2 hy ?_)
 refine hc _ _ _ _ (hD _ (List.mem_of_getElem? (toL hx))) (hD _ (List.mem_of_getElem? (toL hy))) hk ?_
 unfold K at h
 rw [Zih hx,Zih hy] at h
 exact h
def UpK (O:KeyOrd) (key:Keyed->O.α) (d:O.α) (a:Array Keyed) (lo hi:Nat):Prop:=∀ i j,lo≤i->i≤j->j<hi->O.kle (K O key d a i) (K O key d a j)
def DnK (O:KeyOrd) (key:Keyed->O.α) (d:O.α) (a:Array Keyed) (lo hi:Nat):Prop:=∀ i j,lo≤i->i≤j->j<hi->O.kle (K O key d a j) (K O key d a i)
theorem UpK.more {a:Array Keyed} {lo n:Nat} (h:UpK O key d a lo (lo+n)) (hn:0<n) (hl:O.blt (K O key d a (lo+n)) (K O key d a (lo+n-1))=false):UpK O key d a lo (lo+(n+1)):=by
 intro i j h1 h2 h3
 rcases Nat.lt_or_ge j (lo+n) with h4 | h4
 ·exact h i j h1 h2 h4
 ·obtain rfl:j=lo+n:=by omega
  rcases Nat.lt_or_ge i (lo+n) with h5 | h5
  ·exact KeyOrd.kle_trans (h i (lo+n-1) h1 (by omega) (by omega)) hl
  ·obtain rfl:i=lo+n:=by omega
   exact KeyOrd.kle_refl _
theorem DnK.more {a:Array Keyed} {lo n:Nat} (h:DnK O key d a lo (lo+n)) (hn:0<n) (hl:O.kle (K O key d a (lo+n)) (K O key d a (lo+n-1))):DnK O key d a lo (lo+(n+1)):=by
 intro i j h1 h2 h3
 rcases Nat.lt_or_ge j (lo+n) with h4 | h4
 ·exact h i j h1 h2 h4
 ·obtain rfl:j=lo+n:=by omega
  rcases Nat.lt_or_ge i (lo+n) with h5 | h5
  ·exact KeyOrd.kle_trans hl (h i (lo+n-1) h1 (by omega) (by omega))
  ·obtain rfl:i=lo+n:=by omega
   exact KeyOrd.kle_refl _
theorem ZjM (hc : Cmp M A E s O key D kd) {st : SortSt} {lo a nrem : Nat} {Q : Option (Option Nat) × Nat → SortSt → Prop} (hk : kindOf st=kd) (hD : ∀ u, u ∈ (arrOf st).toList → D u) (ha : 1 ≤ a) (han : a ≤ nrem) (hs : lo + nrem ≤ (arrOf st).size)
  (up:UpK O key d (arrOf st) lo (lo+a))
  (h:∀ n,a≤n->n≤nrem->UpK O key d (arrOf st) lo (lo+n)->(n=nrem∨O.blt (K O key d (arrOf st) (lo+n)) (K O key d (arrOf st) (lo+n-1))=true)->Q (none,n) st) :
  wpS M A E s (forIn [a:nrem] ((none,a):Option (Option Nat) × Nat) fun x c=>ltAt' (lo+c.2) (lo+c.2-1) >>= fun y=>match y with
   | some smaller=>if smaller=true then pure (ForInStep.done (none,c.2)) else pure (ForInStep.yield (none,c.2+1))
   | x=>pure (ForInStep.done (some none,c.2))) Q st:=by
 refine wpS_forRange (I:=fun x c st'=>st'=st∧c=(none,x)∧UpK O key d (arrOf st) lo (lo+x)) ?step ?fin ⟨rfl,rfl,up⟩
 case fin =>
  rintro c st' ⟨rfl,rfl,hs'⟩
  rw [show max a nrem=nrem by omega] at hs' ⊢
  exact h nrem han (Nat.le_refl _) hs' (.inl rfl)
 case step =>
  rintro x c st' h1 h2 ⟨rfl,rfl,hs'⟩
  dsimp only
  refine wpS_bind (Zhe (d:=d) hc hk hD (by omega) (by omega) ?_)
  cases hl:O.blt (K O key d (arrOf st') (lo+x)) (K O key d (arrOf st') (lo+x-1))
  ·dsimp only
   rw [if_neg (by simp)]
   exact wpS_pure ⟨rfl,rfl,hs'.more (by omega) hl⟩
  ·dsimp only
   rw [if_pos rfl]
   exact wpS_pure (h x h1 (by omega) hs' (.inr hl))
theorem UpK.rev {a:Array Keyed} {lo n:Nat} (h:DnK O key d a lo (lo+n)) (hs:lo+n≤a.size):UpK O key d (mirror a lo (lo+n) ((lo+n-lo)/2)) lo (lo+n):=by
 intro i j h1 h2 h3
 rw [Zqe hs,Zqe hs,if_pos (by omega),if_pos (by omega)]
 exact h _ _ (by omega) (by omega) (by omega)
theorem ZlM {a:Array Keyed} {i j:Nat} (hs:j≤a.size) (he:∀ k,i≤k->k<j->K O key d a k=K O key d a (j-1)) (k:Nat):K O key d (mirror a i j ((j-i)/2)) k=K O key d a k:=by
 rw [Zqe hs]
 split
 ·rw [he _ (by omega) (by omega),he k (by omega) (by omega)]
 ·rfl
theorem Zhi {a b:Array Keyed} (p:a.Perm b) (h:∀ u,u∈b.toList->D u):∀ u,u∈a.toList->D u:=fun u hu=>h u ((Array.perm_iff_toList_perm.mp p).mem_iff.mp hu)
theorem ZnJ (hc : Cmp M A E s O key D kd) {st0 st : SortSt} {lo n0 nrem : Nat} {Q : Option Nat → SortSt → Prop} (hk : kindOf st0=kd) (hD : ∀ u, u ∈ (arrOf st0).toList → D u) (h1 : 1 ≤ n0) (hn0 : n0 + 1 ≤ nrem) (hs : lo + nrem ≤ (arrOf st0).size)
  (rn:Rn lo st0 st (n0+1)) (dn:DnK O key d (arrOf st) lo (lo+(n0+1)))
  {T:Option (Option Nat) × Nat × Nat->StateT SortSt Sem (Option Nat)}
  (hT:∀ n neq st',Rn lo st0 st' n->n0+1≤n->n≤nrem->DnK O key d (arrOf st') lo (lo+n)->neq+1≤n->(∀ k,lo+n-(neq+1)≤k->k<lo+n->K O key d (arrOf st') k=K O key d (arrOf st') (lo+n-1))->wpS M A E s (T (none,n,neq)) Q st') :
  wpS M A E s ((forIn [n0+1:nrem] ((none,n0+1,0):Option (Option Nat) × Nat × Nat) fun x c=>ltAt' (lo+c.2.1) (lo+c.2.1-1) >>= fun y=>match y with
   | some smaller=>if smaller=true then (if c.2.2 > 0 then (reverseSlice' (lo+c.2.1-(c.2.2+1)) (lo+c.2.1) >>= fun _=>pure (ForInStep.yield (none,c.2.1+1,0))) else pure (ForInStep.yield (none,c.2.1+1,0)))
    else ltAt' (lo+c.2.1-1) (lo+c.2.1) >>= fun z=>match z with
     | some larger=>if larger=true then pure (ForInStep.done (none,c.2.1,c.2.2)) else pure (ForInStep.yield (none,c.2.1+1,c.2.2+1))
     | x=>pure (ForInStep.done (some none,c.2.1,c.2.2))
   | x=>pure (ForInStep.done (some none,c.2.1,c.2.2))) >>= T) Q st:=by
 refine wpS_bind (wpS_mono (wpS_forRange (I:=fun x c st'=>∃ neq,c=(none,x,neq)∧Rn lo st0 st' x∧DnK O key d (arrOf st') lo (lo+x)∧neq+1≤x∧(∀ k,lo+x-(neq+1)≤k->k<lo+x->K O key d (arrOf st') k=K O key d (arrOf st') (lo+x-1)))
  (Q:=fun c st'=>∃ n neq,c=(none,n,neq)∧n0+1≤n∧n≤nrem∧Rn lo st0 st' n∧DnK O key d (arrOf st') lo (lo+n)∧neq+1≤n∧(∀ k,lo+n-(neq+1)≤k->k<lo+n->K O key d (arrOf st') k=K O key d (arrOf st') (lo+n-1))) ?step ?fin
  ⟨0,rfl,rn,dn,by omega,fun k h1 h2=>by rw [show k=lo+(n0+1)-1 by omega]⟩) ?post)
 case post =>
  rintro c st' ⟨n,neq,rfl,a1,a2,a3,a4,a5,a6⟩
  exact hT n neq st' a3 a1 a2 a4 a5 a6
 case fin =>
  rintro c st' ⟨neq,rfl,a3,a4,a5,a6⟩
  rw [show max (n0+1) nrem=nrem by omega] at a3 a4 a5 a6
  exact ⟨nrem,neq,by rw [show max (n0+1) nrem=nrem by omega],hn0,Nat.le_refl _,a3,a4,a5,a6⟩
 case step =>
  rintro x c st' hx1 hx2 ⟨neq,rfl,a3,a4,a5,a6⟩
  dsimp only
  have hsz:=a3.size
  have hk':=a3.kind.trans hk
  have hD':=Zhi a3.perm hD
  refine wpS_bind (Zhe (d:=d) hc hk' hD' (by omega) (by omega) ?_)
  cases hl:O.blt (K O key d (arrOf st') (lo+x)) (K O key d (arrOf st') (lo+x-1))
  ·dsimp only
   rw [if_neg (by simp)]
   refine wpS_bind (Zhe (d:=d) hc hk' hD' (by omega) (by omega) ?_)
   cases hl2:O.blt (K O key d (arrOf st') (lo+x-1)) (K O key d (arrOf st') (lo+x))
   ·dsimp only
    rw [if_neg (by simp)]
    have eq:K O key d (arrOf st') (lo+x)=K O key d (arrOf st') (lo+x-1):=KeyOrd.kle_antisymm hl2 hl
    refine wpS_pure ⟨neq+1,rfl,a3.mono (by omega),a4.more (by omega) hl2,by omega,fun k hk1 hk2=>?_⟩
    rw [show lo+(x+1)-1=lo+x by omega]
    rcases Nat.lt_or_ge k (lo+x) with hk3 | hk3
    ·rw [a6 k (by omega) hk3]; exact eq.symm
    ·rw [show k=lo+x by omega]
   ·dsimp only
    rw [if_pos rfl]
    exact wpS_pure ⟨x,neq,rfl,hx1,by omega,a3,a4,a5,a6⟩
  ·dsimp only
   rw [if_pos rfl]
   have hle:O.kle (K O key d (arrOf st') (lo+x)) (K O key d (arrOf st') (lo+x-1)):=KeyOrd.kle_of_klt hl
   by_cases hq:neq > 0
   ·rw [if_pos hq]
    rw [reverseSlice'_eq]
    refine wpS_bind (wpS_modify (wpS_pure ?_))
    have same:=ZlM (O:=O) (key:=key) (d:=d) (a:=arrOf st') (i:=lo+x-(neq+1)) (j:=lo+x) (by omega) a6
    refine ⟨0,rfl,(a3.mir (by omega) (Nat.le_refl _) (by omega)).mono (by omega),?_,by omega,fun k hk1 hk2=>by rw [show k=lo+(x+1)-1 by omega]⟩
    refine DnK.more (n:=x) ?_ (by omega) ?_
    ·intro i j b1 b2 b3
     show O.kle (K O key d (mirror _ _ _ _) j) (K O key d (mirror _ _ _ _) i)
     rw [same,same]; exact a4 i j b1 b2 b3
    ·show O.kle (K O key d (mirror _ _ _ _) _) (K O key d (mirror _ _ _ _) _)
     rw [same,same]; exact hle
   ·rw [if_neg hq]
    exact wpS_pure ⟨0,rfl,a3.mono (by omega),a4.more (by omega) hle,by omega,fun k hk1 hk2=>by rw [show k=lo+(x+1)-1 by omega]⟩
theorem ZkD (hc : Cmp M A E s O key D kd) {st : SortSt} {lo nrem : Nat} {Q : Option Nat → SortSt → Prop} (hk : kindOf st=kd) (hD : ∀ u, u ∈ (arrOf st).toList → D u) (hn : 1 ≤ nrem) (hs : lo + nrem ≤ (arrOf st).size)
  (h:∀ n st',1≤n->n≤nrem->Rn lo st st' n->UpK O key d (arrOf st') lo (lo+n)->Q (some n) st'):wpS M A E s (countRun' lo nrem) Q st:=by
 delta countRun'
 refine wpS_bind (ZjM (d:=d) hc hk hD (Nat.le_refl 1) hn hs (fun i j h1 h2 h3=>by rw [show i=j by omega]; exact KeyOrd.kle_refl _) fun n n1 n2 up lst=>?_)
 dsimp only
 by_cases e:n=nrem
 ·rw [if_pos (by simpa using e)]
  exact wpS_pure (h n st n1 n2 (Rn.refl _ _ _) up)
 rw [if_neg (by simpa using e)]
 have lt:O.blt (K O key d (arrOf st) (lo+n)) (K O key d (arrOf st) (lo+n-1))=true:=lst.resolve_left e
 have down:DnK O key d (arrOf st) lo (lo+n)->DnK O key d (arrOf st) lo (lo+(n+1)):=fun dd=>dd.more (by omega) (KeyOrd.kle_of_klt lt)
 by_cases hn1:n > 1
 ·rw [if_pos hn1]
  refine wpS_bind (Zhe (d:=d) hc hk hD (by omega) (by omega) ?_)
  cases hr:O.blt (K O key d (arrOf st) lo) (K O key d (arrOf st) (lo+n-1))
  ·dsimp only
   rw [if_neg (by simp)]
   have alleq:∀ k,lo≤k->k<lo+n->K O key d (arrOf st) k=K O key d (arrOf st) (lo+n-1):=fun k b1 b2 =>
    KeyOrd.kle_antisymm (up k (lo+n-1) b1 (by omega) (by omega)) (KeyOrd.kle_trans hr (up lo k (Nat.le_refl _) b1 b2))
   refine wpS_bind (m:=reverseSlice' lo (lo+n)) ?_
   rw [reverseSlice'_eq]
   refine wpS_modify ?_
   have same:=ZlM (O:=O) (key:=key) (d:=d) (a:=arrOf st) (i:=lo) (j:=lo+n) (by omega) alleq
   refine wpS_bind (wpS_lift (wpAny_rule ⟨rfl,?_⟩))
   have rn:=(Rn.refl lo (n+1) st).mir (i:=lo) (j:=lo+n) (Nat.le_refl _) (by omega) (by omega)
   have dn:DnK O key d (arrOf (setArr st (mirror (arrOf st) lo (lo+n) ((lo+n-lo)/2)))) lo (lo+(n+1)):=by
    intro i j b1 b2 b3
    show O.kle (K O key d (mirror _ _ _ _) j) (K O key d (mirror _ _ _ _) i)
    rw [same,same]
    refine down ?_ i j b1 b2 b3
    intro i j c1 c2 c3
    rw [alleq i c1 (by omega),alleq j (by omega) c3]
    exact KeyOrd.kle_refl _
   refine ZnJ (d:=d) hc hk hD n1 (by omega) hs rn dn fun m neq st2 r2 m1 m2 dn2 q1 q2=>?_
   dsimp only
   by_cases hq:neq > 0
   ·rw [if_pos hq]
    refine wpS_bind (m:=reverseSlice' (lo+m-(neq+1)) (lo+m)) ?_
    rw [reverseSlice'_eq]
    refine wpS_modify ?_
    have same:=ZlM (O:=O) (key:=key) (d:=d) (a:=arrOf st2) (i:=lo+m-(neq+1)) (j:=lo+m) (by rw [r2.size]; omega) q2
    have r3:=r2.mir (i:=lo+m-(neq+1)) (j:=lo+m) (by omega) (Nat.le_refl _) (by rw [r2.size]; omega)
    have d3:DnK O key d (arrOf (setArr st2 (mirror (arrOf st2) (lo+m-(neq+1)) (lo+m) ((lo+m-(lo+m-(neq+1)))/2)))) lo (lo+m):=by
     intro i j b1 b2 b3
     show O.kle (K O key d (mirror _ _ _ _) j) (K O key d (mirror _ _ _ _) i)
     rw [same,same]; exact dn2 i j b1 b2 b3
    refine wpS_bind (m:=reverseSlice' lo (lo+m)) ?_
    rw [reverseSlice'_eq]
    refine wpS_modify ?_
    have r4:=r3.mir (i:=lo) (j:=lo+m) (Nat.le_refl _) (Nat.le_refl _) (by rw [r3.size]; omega)
    refine wpS_bind (ZjM (d:=d) hc (r4.kind.trans hk) (Zhi r4.perm hD) (by omega) m2 (by rw [r4.size]; exact hs) (UpK.rev d3 (by rw [r3.size]; omega)) fun n' a1 a2 a3 a4=>?_)
    exact wpS_pure (h n' _ (by omega) a2 (r4.mono a1) a3)
   ·rw [if_neg hq]
    have r3:=r2
    have d3:=dn2
    refine wpS_bind (m:=reverseSlice' lo (lo+m)) ?_
    rw [reverseSlice'_eq]
    refine wpS_modify ?_
    have r4:=r3.mir (i:=lo) (j:=lo+m) (Nat.le_refl _) (Nat.le_refl _) (by rw [r3.size]; omega)
    refine wpS_bind (ZjM (d:=d) hc (r4.kind.trans hk) (Zhi r4.perm hD) (by omega) m2 (by rw [r4.size]; exact hs) (UpK.rev d3 (by rw [r3.size]; omega)) fun n' a1 a2 a3 a4=>?_)
    exact wpS_pure (h n' _ (by omega) a2 (r4.mono a1) a3)
  ·dsimp only
   rw [if_pos rfl]
   exact wpS_pure (h n st n1 n2 (Rn.refl _ _ _) up)
 ·rw [if_neg hn1]
  refine wpS_bind (wpS_lift (wpAny_rule ⟨rfl,?_⟩))
  have rn:=Rn.refl lo (n+1) st
  have dn:=down fun i j b1 b2 b3=>by rw [show i=j by omega]; exact KeyOrd.kle_refl _
  refine ZnJ (d:=d) hc hk hD n1 (by omega) hs rn dn fun m neq st2 r2 m1 m2 dn2 q1 q2=>?_
  dsimp only
  by_cases hq:neq > 0
  ·rw [if_pos hq]
   refine wpS_bind (m:=reverseSlice' (lo+m-(neq+1)) (lo+m)) ?_
   rw [reverseSlice'_eq]
   refine wpS_modify ?_
   have same:=ZlM (O:=O) (key:=key) (d:=d) (a:=arrOf st2) (i:=lo+m-(neq+1)) (j:=lo+m) (by rw [r2.size]; omega) q2
   have r3:=r2.mir (i:=lo+m-(neq+1)) (j:=lo+m) (by omega) (Nat.le_refl _) (by rw [r2.size]; omega)
   have d3:DnK O key d (arrOf (setArr st2 (mirror (arrOf st2) (lo+m-(neq+1)) (lo+m) ((lo+m-(lo+m-(neq+1)))/2)))) lo (lo+m):=by
    intro i j b1 b2 b3
    show O.kle (K O key d (mirror _ _ _ _) j) (K O key d (mirror _ _ _ _) i)
    rw [same,same]; exact dn2 i j b1 b2 b3
   refine wpS_bind (m:=reverseSlice' lo (lo+m)) ?_
   rw [reverseSlice'_eq]
   refine wpS_modify ?_
   have r4:=r3.mir (i:=lo) (j:=lo+m) (Nat.le_refl _) (Nat.le_refl _) (by rw [r3.size]; omega)
   refine wpS_bind (ZjM (d:=d) hc (r4.kind.trans hk) (Zhi r4.perm hD) (by omega) m2 (by rw [r4.size]; exact hs) (UpK.rev d3 (by rw [r3.size]; omega)) fun n' a1 a2 a3 a4=>?_)
   exact wpS_pure (h n' _ (by omega) a2 (r4.mono a1) a3)
  ·rw [if_neg hq]
   have r3:=r2
   have d3:=dn2
   refine wpS_bind (m:=reverseSlice' lo (lo+m)) ?_
   rw [reverseSlice'_eq]
   refine wpS_modify ?_
   have r4:=r3.mir (i:=lo) (j:=lo+m) (Nat.le_refl _) (Nat.le_refl _) (by rw [r3.size]; omega)
   refine wpS_bind (ZjM (d:=d) hc (r4.kind.trans hk) (Zhi r4.perm hD) (by omega) m2 (by rw [r4.size]; exact hs) (UpK.rev d3 (by rw [r3.size]; omega)) fun n' a1 a2 a3 a4=>?_)
   exact wpS_pure (h n' _ (by omega) a2 (r4.mono a1) a3)
end
section
variable {M:Model} {A:Around} {E:Value->Shared->Prop} {s:Shared} {O:KeyOrd} {key:Keyed->O.α} {D:Keyed->Prop} {kd:SortKind} {d:O.α}
theorem ZrI {a:Array Keyed} {src n:Nat} (hs:src<a.size) (hd:n≤src) (k:Nat):K O key d (bubble a src n) k=if k=src-n then K O key d a src else if src-n<k∧k≤src then K O key d a (k-1) else K O key d a k:=by
 unfold K ZmN
 rw [getElem?_bubble hs n hd]
 by_cases c:k=src-n
 ·rw [if_pos c,if_pos c]
 ·rw [if_neg c,if_neg c]
  by_cases c2:src-n<k∧k≤src
  ·rw [if_pos c2,if_pos c2]
  ·rw [if_neg c2,if_neg c2]
theorem Rn.bub {lo n src dd:Nat} {st0 st:SortSt} (h:Rn lo st0 st n) (h1:lo≤src-dd) (h2:src<lo+n) (h3:dd≤src) (hs:src<(arrOf st).size):Rn lo st0 (setArr st (bubble (arrOf st) src dd)) n :=
 ⟨h.kind,h.fail,h.pend,(bubble_perm _ _ _).trans h.perm,fun k hk=>by
  show (bubble (arrOf st) src dd)[k]?=_
  rw [getElem?_bubble hs dd h3,if_neg (by omega),if_neg (by omega)]; exact h.out k hk⟩
theorem ZiW (hc : Cmp M A E s O key D kd) {st : SortSt} {lo n ok : Nat} {Q : Bool → SortSt → Prop} (hk : kindOf st=kd) (hD : ∀ u, u ∈ (arrOf st).toList → D u) (h1 : 1 ≤ ok) (hok : ok ≤ n) (hs : lo + n ≤ (arrOf st).size)
  (up:UpK O key d (arrOf st) lo (lo+ok)) (h:∀ st',Rn lo st st' n->UpK O key d (arrOf st') lo (lo+n)->Q true st'):wpS M A E s (binarySort' lo n ok) Q st:=by
 delta binarySort'
 refine wpS_bind (wpS_mono (wpS_forRange (I:=fun x c st'=>c=(none,())∧Rn lo st st' n∧UpK O key d (arrOf st') lo (lo+x)) (Q:=fun c st'=>c=(none,())∧Rn lo st st' n∧UpK O key d (arrOf st') lo (lo+n)) ?step ?fin
  ⟨rfl,Rn.refl _ _ _,by rw [show max ok 1=ok by omega]; exact up⟩) ?post)
 case post =>
  rintro c st' ⟨rfl,a1,a2⟩
  exact wpS_pure (h st' a1 a2)
 case fin =>
  rintro c st' ⟨rfl,a1,a2⟩
  rw [show max (max ok 1) n=n by omega] at a2
  exact ⟨rfl,a1,a2⟩
 case step =>
  rintro k c st' hk1 hk2 ⟨rfl,a1,a2⟩
  dsimp only
  have hsz:=a1.size
  refine wpS_bind (wpS_mono (wpS_forRange (I:=fun x c st2=>st2=st'∧c.1=none∧c.2.1≤c.2.2∧c.2.2≤k∧c.2.2-c.2.1≤k-x∧(∀ i,i<c.2.1->O.kle (K O key d (arrOf st') (lo+i)) (K O key d (arrOf st') (lo+k)))∧(∀ i,c.2.2≤i->i<k->O.kle (K O key d (arrOf st') (lo+k)) (K O key d (arrOf st') (lo+i))))
   (Q:=fun c st2=>st2=st'∧c.1=none∧c.2.1≤k∧(∀ i,i<c.2.1->O.kle (K O key d (arrOf st') (lo+i)) (K O key d (arrOf st') (lo+k)))∧(∀ i,c.2.1≤i->i<k->O.kle (K O key d (arrOf st') (lo+k)) (K O key d (arrOf st') (lo+i)))) ?step2 ?fin2
   ⟨rfl,rfl,Nat.zero_le _,Nat.le_refl _,by dsimp only; omega,fun i hi=>by dsimp only at hi; omega,fun i hi hi2=>by dsimp only at hi; omega⟩) ?post2)
  case fin2 =>
   rintro ⟨r,l,u⟩ st2 ⟨rfl,e,b1,b2,b3,b4,b5⟩
   dsimp only at *
   obtain rfl:l=u:=by omega
   exact ⟨rfl,e,b2,b4,b5⟩
  case step2 =>
   rintro x ⟨r,l,u⟩ st2 _ hx ⟨rfl,e,b1,b2,b3,b4,b5⟩
   dsimp only at e b1 b2 b3 b4 b5 ⊢
   subst e
   by_cases hlu:l ≥ u
   ·rw [if_pos hlu]
    obtain rfl:l=u:=by omega
    exact wpS_pure ⟨rfl,rfl,b2,b4,b5⟩
   ·rw [if_neg hlu]
    refine wpS_bind (Zhe (d:=d) hc (a1.kind.trans hk) (Zhi a1.perm hD) (by omega) (by omega) ?_)
    cases hl:O.blt (K O key d (arrOf st2) (lo+k)) (K O key d (arrOf st2) (lo+(l+u)/2))
    ·dsimp only
     rw [if_neg (by simp)]
     refine wpS_pure ⟨rfl,rfl,by dsimp only; omega,by dsimp only; omega,by dsimp only; omega,fun i hi=>?_,b5⟩
     dsimp only at hi
     exact KeyOrd.kle_trans (a2 (lo+i) (lo+(l+u)/2) (by omega) (by omega) (by omega)) hl
    ·dsimp only
     rw [if_pos rfl]
     refine wpS_pure ⟨rfl,rfl,by dsimp only; omega,by dsimp only; omega,by dsimp only; omega,b4,fun i hi hi2=>?_⟩
     dsimp only at hi
     exact KeyOrd.kle_trans (KeyOrd.kle_of_klt hl) (a2 (lo+(l+u)/2) (lo+i) (by omega) (by omega) (by omega))
  case post2 =>
   rintro ⟨r,l,u⟩ st2 ⟨rfl,e,b2,b4,b5⟩
   dsimp only at e b2 b4 b5 ⊢
   subst e
   dsimp only
   refine wpS_bind (m:=moveDown' (lo+k) (lo+l)) ?_
   rw [moveDown'_eq]
   refine wpS_modify (wpS_pure ⟨rfl,a1.bub (by omega) (by omega) (by omega) (by omega),?_⟩)
   have kb:=ZrI (O:=O) (key:=key) (d:=d) (a:=arrOf st2) (src:=lo+k) (n:=lo+k-(lo+l)) (by omega) (by omega)
   rw [show lo+k-(lo+k-(lo+l))=lo+l by omega] at kb
   intro i j c1 c2 c3
   show O.kle (K O key d (bubble _ _ _) i) (K O key d (bubble _ _ _) j)
   rw [kb,kb]
   by_cases e1:i=lo+l
   ·rw [if_pos e1]
    by_cases e2:j=lo+l
    ·rw [if_pos e2]; exact KeyOrd.kle_refl _
    ·rw [if_neg e2,if_pos (by omega)]
     have:=b5 (j-1-lo) (by omega) (by omega)
     rwa [show lo+(j-1-lo)=j-1 by omega] at this
   ·rw [if_neg e1]
    by_cases e3:lo+l<i∧i≤lo+k
    ·rw [if_pos e3,if_neg (by omega),if_pos (by omega)]
     exact a2 _ _ (by omega) (by omega) (by omega)
    ·rw [if_neg e3]
     by_cases e2:j=lo+l
     ·rw [if_pos e2]
      have:=b4 (i-lo) (by omega)
      rwa [show lo+(i-lo)=i by omega] at this
     ·rw [if_neg e2]
      by_cases e4:lo+l<j∧j≤lo+k
      ·rw [if_pos e4]; exact a2 _ _ (by omega) (by omega) (by omega)
      ·rw [if_neg e4]; exact a2 _ _ (by omega) (by omega) (by omega)
theorem Rn.lists {lo n : Nat} {st0 st : SortSt} (h : Rn lo st0 st n) {P R : List Keyed} (hP : P.length=lo) (hn : n ≤ R.length) (e : (arrOf st0).toList=P ++ R) (up : UpK O key d (arrOf st) lo (lo + n)) :
  ∃ C,(arrOf st).toList=P++(C++R.drop n)∧C.Perm (R.take n)∧C.Pairwise (le O key)∧C.length=n:=by
 have hl:(arrOf st).toList.length=P.length+R.length:=by rw [(Array.perm_iff_toList_perm.mp h.perm).length_eq,e,List.length_append]
 have t1:(arrOf st).toList.take lo=P:=by
  apply List.ext_getElem?
  intro i
  rw [List.getElem?_take]
  split
  ·rename_i hi
   rw [Array.getElem?_toList,h.out i (.inl hi),← Array.getElem?_toList,e,List.getElem?_append_left (by omega)]
  ·rename_i hi
   rw [List.getElem?_eq_none (by omega)]
 have t2:(arrOf st).toList.drop (lo+n)=R.drop n:=by
  apply List.ext_getElem?
  intro i
  rw [List.getElem?_drop,List.getElem?_drop,Array.getElem?_toList,h.out (lo+n+i) (.inr (by omega)),← Array.getElem?_toList,e,List.getElem?_append_right (by omega)]
  congr 1; omega
 have e2:(arrOf st).toList=P++(((arrOf st).toList.drop lo).take n++R.drop n):=by
  have z1:=(List.take_append_drop lo (arrOf st).toList).symm
  have z2:=(List.take_append_drop n ((arrOf st).toList.drop lo)).symm
  rw [List.drop_drop] at z2
  rw [t2] at z2
  rw [t1] at z1
  rw [← z2]; exact z1
 have hlen:(((arrOf st).toList.drop lo).take n).length=n:=by rw [List.length_take,List.length_drop]; omega
 refine ⟨((arrOf st).toList.drop lo).take n,e2,?_,?_,hlen⟩
 ·have p:=Array.perm_iff_toList_perm.mp h.perm
  rw [e2,e] at p
  have p2:=(List.perm_append_left_iff P).mp p
  rw [show R=R.take n++R.drop n from (List.take_append_drop n R).symm] at p2
  simp only [List.take_append_drop] at p2
  have p3:(((arrOf st).toList.drop lo).take n++R.drop n).Perm (R.take n++R.drop n):=by rw [List.take_append_drop]; exact p2
  exact (List.perm_append_right_iff _).mp p3
 ·rw [List.pairwise_iff_getElem]
  intro i j hi hj hij
  rw [hlen] at hi hj
  have z:=up (lo+i) (lo+j) (by omega) (by omega) (by omega)
  have at1:∀ k,(hk:k<n)->K O key d (arrOf st) (lo+k)=key (((arrOf st).toList.drop lo).take n)[k]:=by
   intro k hk
   have q:=ZqG e2 (i:=k) (by omega)
   rw [hP,List.getElem?_eq_getElem (by omega)] at q
   exact Zih q
  rw [at1 i hi,at1 j hj] at z
  exact z
end
section
variable {M:Model} {A:Around} {E:Value->Shared->Prop} {s:Shared} {O:KeyOrd} {key:Keyed->O.α} {D:Keyed->Prop} {kd:SortKind} {d:O.α} {a0:List Keyed}
end
section
variable {M:Model} {A:Around} {E:Value->Shared->Prop} {s:Shared} {O:KeyOrd} {key:Keyed->O.α} {D:Keyed->Prop} {kd:SortKind} {d:O.α} {a0:List Keyed}
theorem Rn.trans {lo n m:Nat} {st0 st1 st2:SortSt} (h1:Rn lo st0 st1 n) (h2:Rn lo st1 st2 m) (hn:n≤m):Rn lo st0 st2 m :=
 ⟨h2.kind.trans h1.kind,h2.fail.trans h1.fail,h2.pend.trans h1.pend,h2.perm.trans h1.perm,fun k hk=>(h2.out k hk).trans (h1.out k (by omega))⟩
def ZrX (O:KeyOrd) (key:Keyed->O.α) (st0 st:SortSt):Prop:=(arrOf st).toList.Perm (arrOf st0).toList∧(arrOf st).toList.Pairwise (le O key)∧failedOf st=none∧(pendingOf st).size≤1
theorem Rn.fin {st0 st:SortSt} (h:Rn 0 st0 st (arrOf st0).size) (up:UpK O key d (arrOf st) 0 (0+(arrOf st0).size)) (hf:failedOf st0=none) (hp:pendingOf st0=#[]) (v:Nat × Nat × Nat) (g:Nat):ZrX O key st0 (SortSt.mk' (kindOf st) (arrOf st) ((pendingOf st).push v) g (failedOf st)):=by
 obtain ⟨C,e1,e2,e3,e4⟩:=h.lists (P:=[]) (R:=(arrOf st0).toList) rfl (by rw [Array.length_toList]; exact Nat.le_refl _) rfl up
 have e5:(arrOf st).toList=C:=by
  rw [e1,List.drop_eq_nil_of_le (by rw [Array.length_toList]; exact Nat.le_refl _),List.append_nil,List.nil_append]
 refine ⟨Array.perm_iff_toList_perm.mp h.perm,?_,h.fail.trans hf,?_⟩
 ·show (arrOf st).toList.Pairwise _
  rw [e5]; exact e3
 ·show ((pendingOf st).push v).size≤1
  rw [h.pend,hp]; exact Nat.le_refl _
theorem ZkF (hc : Cmp M A E s O key D kd) (d : O.α) {st : SortSt} {Q : Unit → SortSt → Prop} (h64 : (arrOf st).size<64) (hD : ∀ u, u ∈ (arrOf st).toList → D u) (hk : kindOf st=kd) (hf : failedOf st=none) (hp : pendingOf st=#[])
  (h:∀ st',(arrOf st').toList.Perm (arrOf st).toList->(arrOf st').toList.Pairwise (le O key)->failedOf st'=none->Q () st'):wpS M A E s sortRuns' Q st:=by
 rw [sortRuns'_eq]
 refine wpS_bind (wpS_get ?_)
 dsimp only
 obtain ⟨n,hn⟩:∃ n,n=(arrOf st).size:=⟨_,rfl⟩
 have hmr:0<n->minRun' n n 0=n:=fun h0=>by
  obtain ⟨f,hf⟩:∃ f,n=f+1:=⟨n-1,by omega⟩
  have:minRun' (f+1) n 0=n:=by rw [minRun'_succ,if_pos (by omega)]; rfl
  rwa [← hf] at this
 rw [← hn]
 refine wpS_bind (wpS_mono (wpS_forRange (I:=fun x c st'=>(x=0∧c=(none,0)∧st'=st)∨(1≤x∧c=(none,n)∧ZrX O key st st')) (Q:=fun c st'=>c=(none,n)∧ZrX O key st st') ?step ?fin (.inl ⟨rfl,rfl,rfl⟩)) ?post)
 case fin =>
  rintro c st' (⟨hx,rfl,rfl⟩ | ⟨_,hc,hD⟩)
  ·have h0:n=0:=by omega
   have e:(arrOf st').toList=[]:=List.length_eq_zero_iff.mp (by rw [Array.length_toList]; omega)
   exact ⟨by rw [h0],by rw [e],by rw [e]; exact .nil,hf,by rw [hp]; exact Nat.zero_le _⟩
  ·exact ⟨hc,hD⟩
 case step =>
  rintro x c st' _ hx (⟨rfl,rfl,rfl⟩ | ⟨hx1,rfl,hD⟩)
  ·dsimp only
   rw [if_neg (by omega),hmr (by omega),Nat.sub_zero,Nat.min_self]
   refine wpS_bind (ZkD (d:=d) hc hk hD (by omega) (by omega) fun m st2 m1 m2 rn up=>?_)
   dsimp only
   by_cases hlt:m<n
   ·rw [if_pos hlt]
    refine wpS_bind (wpS_lift (wpAny_rule ⟨rfl,?_⟩))
    refine wpS_bind (ZiW (d:=d) hc (rn.kind.trans hk) (Zhi rn.perm hD) m1 (by omega) (by rw [rn.size]; omega) up fun st3 rn2 up2=>?_)
    rw [if_neg (by simp)]
    have rnn:=rn.trans rn2 (by omega)
    refine wpS_bind (wpS_get ?_)
    have hb:(pendingOf st3).back?=none:=by rw [rnn.pend,hp]; rfl
    rw [hb]
    dsimp only
    rw [hn] at rnn up2
    exact wpS_bind (wpS_modify (wpS_pure (.inr ⟨by omega,by rw [Nat.zero_add],rnn.fin up2 hf hp _ _⟩)))
   ·rw [if_neg hlt]
    obtain rfl:m=n:=by omega
    refine wpS_bind (wpS_get ?_)
    have hb:(pendingOf st2).back?=none:=by rw [rn.pend,hp]; rfl
    rw [hb]
    dsimp only
    rw [hn] at rn up
    exact wpS_bind (wpS_modify (wpS_pure (.inr ⟨by omega,by rw [Nat.zero_add],rn.fin up hf hp _ _⟩)))
  ·dsimp only
   rw [if_pos (Nat.le_refl _)]
   exact wpS_pure ⟨rfl,hD⟩
 case post =>
  rintro c st' ⟨rfl,hD⟩
  dsimp only
  refine wpS_bind (wpS_mono (wpS_forRange (I:=fun _ c st''=>st''=st'∧c=(none,())) (Q:=fun c st''=>st''=st'∧c=(none,())) ?_ (fun _ _ hh=>hh) ⟨rfl,rfl⟩) ?_)
  ·rintro x c st'' _ _ ⟨rfl,rfl⟩
   refine wpS_bind (wpS_get ?_)
   rw [if_pos hD.2.2.2]
   exact wpS_pure ⟨rfl,rfl⟩
  ·rintro c st'' ⟨rfl,rfl⟩
   exact wpS_pure (h _ hD.1 hD.2.1 hD.2.2.1)
end
end SA
namespace SA
open PySem PyProof.Rows PySem.W
abbrev RK:=Sum Int Str
noncomputable def kLt:RK->RK->Bool
 | .inl a,.inl b=>decide (a<b)
 | .inr x,.inr y=>decide (x.cps.toList<y.cps.toList)
 | .inl _,.inr _=>true
 | .inr _,.inl _=>false
theorem Zrn {x y:Str} (h:x.cps.toList=y.cps.toList):x=y:=by
 obtain ⟨a⟩:=x; obtain ⟨b⟩:=y
 have:a=b:=Array.toList_inj.mp h
 rw [this]
noncomputable def kO:KeyOrd where
 α:=RK
 blt:=kLt
 irrefl a:=by
  cases a with
  | inl a=>simp [kLt]
  | inr x=>simp [kLt,List.lt_irrefl]
 trans a b c h1 h2:=by
  cases a <;> cases b <;> cases c <;> simp only [kLt,decide_eq_true_eq,reduceCtorEq,Bool.false_eq_true] at h1 h2 ⊢
  ·omega
  ·exact List.lt_trans h1 h2
 negTrans a b c h:=by
  cases a <;> cases b <;> cases c <;> simp only [kLt,decide_eq_true_eq,reduceCtorEq,Bool.false_eq_true,or_true,true_or,or_false,false_or] at h ⊢
  ·omega
  ·rename_i x y z
   by_cases hab:x.cps.toList<y.cps.toList
   ·exact .inl hab
   ·exact .inr (List.lt_of_le_of_lt (List.not_lt.mp hab) h)
 total a b h1 h2:=by
  cases a <;> cases b <;> simp only [kLt,decide_eq_false_iff_not,reduceCtorEq,Bool.true_eq_false] at h1 h2
  ·congr 1; omega
  ·congr 1; exact Zrn (List.le_antisymm (List.not_lt.mp h2) (List.not_lt.mp h1))
noncomputable def rLt:List RK->List RK->Bool
 | [],[]=>false
 | [],_ :: _=>true
 | _ :: _,[]=>false
 | a :: as,b :: bs=>if a=b then rLt as bs else kLt a b
theorem ZhP:∀ l,rLt l l=false
 | []=>rfl
 | a :: l=>by rw [rLt,if_pos rfl]; exact ZhP l
theorem Zjr:∀ a b c,rLt a b=true->rLt b c=true->rLt a c=true
 | [],[],c,h1,_=>by cases h1
 | [],b :: bs,[],_,h2=>by cases h2
 | [],b :: bs,c :: cs,_,_=>rfl
 | a :: as,[],c,h1,_=>by cases h1
 | a :: as,b :: bs,[],_,h2=>by cases h2
 | a :: as,b :: bs,c :: cs,h1,h2=>by
  rw [rLt] at h1 h2 ⊢
  by_cases e1:a=b
  ·subst e1
   rw [if_pos rfl] at h1
   by_cases e2:a=c
   ·rw [if_pos e2] at h2 ⊢; exact Zjr as bs cs h1 h2
   ·rw [if_neg e2] at h2 ⊢; exact h2
  ·rw [if_neg e1] at h1
   by_cases e2:b=c
   ·subst e2; rw [if_neg e1]; exact h1
   ·rw [if_neg e2] at h2
    have h3:=kO.trans a b c h1 h2
    have e3:a≠c:=fun e=>by subst e; exact absurd ((kO.irrefl a).symm.trans h3) (by simp)
    rw [if_neg e3]; exact h3
theorem Znj:∀ a b c,rLt a c=true->rLt a b=true∨rLt b c=true
 | [],[],[],h=>by cases h
 | [],[],c :: cs,_=>.inr rfl
 | [],b :: bs,c,_=>.inl rfl
 | a :: as,b,[],h=>by cases h
 | a :: as,[],c :: cs,_=>.inr rfl
 | a :: as,b :: bs,c :: cs,h=>by
  rw [rLt] at h
  rw [rLt,rLt]
  by_cases e1:a=c
  ·subst e1
   rw [if_pos rfl] at h
   by_cases e2:a=b
   ·subst e2; rw [if_pos rfl,if_pos rfl]; exact Znj as bs cs h
   ·rw [if_neg e2,if_neg (fun e=>e2 e.symm)]
    cases h1:kLt a b
    ·cases h2:kLt b a
     ·exact absurd (kO.total a b h1 h2) e2
     ·exact .inr rfl
    ·exact .inl rfl
  ·rw [if_neg e1] at h
   rcases kO.negTrans a b c h with h1 | h1
   ·have e2:a≠b:=fun e=>by subst e; exact absurd ((kO.irrefl a).symm.trans h1) (by simp)
    rw [if_neg e2]; exact .inl h1
   ·have e2:b≠c:=fun e=>by subst e; exact absurd ((kO.irrefl b).symm.trans h1) (by simp)
    rw [if_neg e2]; exact .inr h1
theorem rLt_total:∀ a b,rLt a b=false->rLt b a=false->a=b
 | [],[],_,_=>rfl
 | [],_ :: _,h,_=>by cases h
 | _ :: _,[],_,h=>by cases h
 | a :: as,b :: bs,h1,h2=>by
  rw [rLt] at h1 h2
  by_cases e:a=b
  ·subst e
   rw [if_pos rfl] at h1 h2
   rw [rLt_total as bs h1 h2]
  ·rw [if_neg e] at h1; rw [if_neg (fun z=>e z.symm)] at h2
   exact absurd (kO.total a b h1 h2) e
noncomputable def rO:KeyOrd:=⟨List RK,rLt,ZhP,Zjr,Znj,rLt_total⟩
noncomputable def Zi4:Value->RK
 | .int i _=>.inl i
 | .str x _=>.inr x
 | _=>.inl 0
def Zki (v:Value):Prop:=(∃ i t,v=.int i t)∨∃ x t,v=.str x t
def sameT:RK->RK->Prop
 | .inl _,.inl _=>True
 | .inr _,.inr _=>True
 | _,_=>False
def Comp:List RK->List RK->Prop
 | a :: as,b :: bs=>sameT a b∧(a=b->Comp as bs)
 | _,_=>True
section
variable {prog:Program} {w:World} {A:Around} {E:Value->Shared->Prop} {s:Shared}
theorem ZpB {b:Bool} {i j:Int} {t u:Tok} {Q:Bool->Shared->Prop} (h:Q (decide (i<j)) s):wpAny (model prog w) A (oneLt' b (.int i t) (.int j u)) Q E s:=by
 cases b
 ·exact kat_one _ _ (compareOp_gives (op:=.Lt) (typeIs_int s i t) (typeIs_int s j u) F.slot_int_lt F.entry_int_lt (F.args_int_lt_2 _ _) (gives_int_lt i j t u) (fun x=>nomatch x) h)
 ·exact oneLt_int h
theorem Zpq {b:Bool} {i j:Str} {t u:Tok} {Q:Bool->Shared->Prop} (h:Q (decide (i.cps.toList<j.cps.toList)) s):wpAny (model prog w) A (oneLt' b (.str i t) (.str j u)) Q E s:=by
 cases b
 ·exact kat_one _ _ (compareOp_gives (op:=.Lt) (typeIs_str s i t) (typeIs_str s j u) F.slot_str_lt F.entry_str_lt (F.args_str_lt_2 _ _) (gives_str_lt i j t u) (fun x=>nomatch x) h)
 ·exact oneLt_str h
theorem ZlB {b : Bool} {Q : Bool → Shared → Prop} : ∀ (xs ys : List Value) (i : Nat) (fin : Bool), (∀ v, v ∈ xs → Zki v) → (∀ v, v ∈ ys → Zki v) → Comp (xs.map Zi4) (ys.map Zi4) → fin=decide (xs.length<ys.length) →
  Q (rLt (xs.map Zi4) (ys.map Zi4)) s->KatLex prog w A b fin Q (xs.zip ys) i s
 | [],[],i,fin,_,_,_,hf,h=>by subst hf; exact h
 | [],y :: ys,i,fin,_,_,_,hf,h=>by
  rw [List.zip_nil_left]
  have:fin=true:=by rw [hf]; simp
  rw [this]; exact h
 | x :: xs,[],i,fin,_,_,_,hf,h=>by
  rw [List.zip_nil_right]
  have:fin=false:=by rw [hf]; simp
  rw [this]; exact h
 | x :: xs,y :: ys,i,fin,hx,hy,hc,hf,h=>by
  rw [List.zip_cons_cons]
  have hf':fin=decide (xs.length<ys.length):=by rw [hf]; simp
  have rest:Zi4 x=Zi4 y->KatLex prog w A b fin Q (xs.zip ys) (i+1) s:=fun e =>
   ZlB xs ys (i+1) fin (fun v hv=>hx v (List.mem_cons_of_mem _ hv)) (fun v hv=>hy v (List.mem_cons_of_mem _ hv)) (hc.2 e) hf' (by
    rw [List.map_cons,List.map_cons,rLt,if_pos e] at h; exact h)
  have cut:Zi4 x≠Zi4 y->Q (kLt (Zi4 x) (Zi4 y)) s:=fun e=>by rw [List.map_cons,List.map_cons,rLt,if_neg e] at h; exact h
  refine kat_cons ?_
  have hs:sameT (Zi4 x) (Zi4 y):=hc.1
  rcases hx x List.mem_cons_self with ⟨a,t,rfl⟩ | ⟨a,t,rfl⟩
  ·rcases hy y List.mem_cons_self with ⟨c,u,rfl⟩ | ⟨c,u,rfl⟩
   ·refine wpAny_eqBool_int (kat_go (fun e=>kat_yes ?_) fun e=>kat_no ?_)
    ·exact rest (by rw [show a=c by simpa using e]; rfl)
    ·exact ZpB (cut fun z=>by simp [Zi4] at z; simp [z] at e)
   ·exact hs.elim
  ·rcases hy y List.mem_cons_self with ⟨c,u,rfl⟩ | ⟨c,u,rfl⟩
   ·exact hs.elim
   ·refine eqBool_str (kat_go (fun e=>kat_yes ?_) fun e=>kat_no ?_)
    ·exact rest (by rw [show a=c by simpa using e]; rfl)
    ·exact Zpq (cut fun z=>by simp [Zi4] at z; simp [z] at e)
noncomputable def Zeo (h:Heap) (v:Value):List RK:=match v with
 | .ref a=>match h.get? a with
  | some o=>match o.data with
   | .seq its _=>its.toList.map Zi4
   | _=>[]
  | none=>[]
 | _=>[]
def TupAt (h:Heap) (v:Value) (r:List RK):Prop:=∃ a o its n,v=.ref a∧h.get? a=some o∧o.cls=.type "tuple"∧o.data=.seq its n∧(∀ u,u∈its.toList->Zki u)∧its.toList.map Zi4=r
theorem TupAt.row {h:Heap} {v:Value} {r:List RK} (t:TupAt h v r):Zeo h v=r:=by
 obtain ⟨a,o,its,n,rfl,ho,_,hd,_,e⟩:=t
 unfold Zeo
 dsimp only
 rw [ho]
 dsimp only
 rw [hd]
 exact e
theorem TupAt.mono {h h':Heap} {v:Value} {r:List RK} (t:TupAt h v r) (k:∀ a o,o.cls=.type "tuple"->h.get? a=some o->h'.get? a=some o):TupAt h' v r:=by
 obtain ⟨a,o,its,n,rfl,ho,hc,hd,hp,e⟩:=t
 exact ⟨a,o,its,n,rfl,k a o hc ho,hc,hd,hp,e⟩
theorem Zp4 {S:List RK->Prop} (hS:∀ r q,S r->S q->Comp r q) {b:Bool}:Cmp (model prog w) A E s rO (fun p=>Zeo s.heap p.1) (fun p=>∃ r,S r∧TupAt s.heap p.1 r) (tuples' b):=by
 rintro ⟨x,x'⟩ ⟨y,y'⟩ st Q ⟨r,sr,tr⟩ ⟨q,sq,tq⟩ hk hQ
 dsimp only at tr tq hQ
 rw [tr.row,tq.row] at hQ
 rw [lt'_eq]
 refine wpS_bind (wpS_get ?_)
 dsimp only
 rw [hk]
 obtain ⟨a,o,its,n,rfl,ho,hc,hd,hp,rfl⟩:=tr
 obtain ⟨a',o',jts,n',rfl,ho',hc',hd',hp',rfl⟩:=tq
 refine wpS_bind (wpS_lift (wpAny_attempt (kat_lt ho hd ho' hd' (ZlB _ _ 0 _ hp hp' (hS _ _ sr sq) (by simp) ⟨rfl,?_⟩))))
 exact wpS_pure hQ
theorem ZlI {h:Heap} {x:Str->Prop}:∀ {vs:List Value},(∀ v,v∈vs->∃ z r,TupAt h v (.inr z :: r))->∃ fs,KatTups h vs fs∧fs.length=vs.length∧∀ f,f∈fs->∃ z t,f=.str z t
 | [],_=>⟨[],trivial,rfl,by simp⟩
 | v :: vs,hv=>by
  obtain ⟨fs,k1,k2,k3⟩:=ZlI (x:=x) (vs:=vs) fun u hu=>hv u (List.mem_cons_of_mem _ hu)
  obtain ⟨z,r,a,o,its,n,rfl,ho,hc,hd,hp,e⟩:=hv v List.mem_cons_self
  obtain ⟨l⟩:=its
  match l,e with
  | f :: l,e =>
   have hf:Zi4 f=.inr z:=by injection e
   have hf2:∃ z t,f=.str z t:=by
    rcases hp f (by simp) with ⟨i,t,rfl⟩ | hh
    ·cases hf
    ·exact hh
   refine ⟨f :: fs,KatTups.cons ho hc hd rfl k1,by simp [k2],fun g hg=>?_⟩
   rcases List.mem_cons.mp hg with rfl | hg
   ·exact hf2
   ·exact k3 g hg
theorem Znt {vs:List Value} {xs:List Keyed} (p:xs.Perm (vs.toArray.zip vs.toArray).toList):(xs.map (·.2)).Perm vs∧∀ u,u∈xs->u.1=u.2∧u.1∈vs:=by
 have e:(vs.toArray.zip vs.toArray).toList=vs.zip vs:=by simp
 rw [e] at p
 refine ⟨(p.map _).trans ?_,fun u hu=>?_⟩
 ·show ((vs.zip vs).map Prod.snd).Perm vs
  rw [List.map_snd_zip (Nat.le_refl _)]
 ·exact mem_zip_self (p.mem_iff.mp hu)
theorem ZnM {S : List RK → Prop} (hS : ∀ r q, S r → S q → Comp r q) {a : Addr} {vs : List Value} {n : Nat} {P : Fin → Shared → Prop} (ho : s.heap.get? a=some (seqObj "list" vs.toArray n)) (h64 : vs.length<64)
  (hv:∀ v,v∈vs->∃ z r,S (.inr z :: r)∧TupAt s.heap v (.inr z :: r))
  (h:∀ out:List Value,out.Perm vs->(out.map (Zeo s.heap)).Pairwise (fun x y=>rLt y x=false)->P (.done (.ret .none)) { s with heap:=sortedHeap s.heap a vs out.toArray }) :
  wpAny (model prog w) A (Builtin.«list.sort» ⟨[.ref a],[]⟩) P E s:=by
 have hz:vs.length≤sizeLine:=by rw [sizeLine_eq]; omega
 rw [list_sort_plain]
 have ha:a<s.heap.objs.size:=Heap.lt_size ho
 refine wpAny_bind (listItems_at ho rfl (wpAny_bind (listUpdate_at ho rfl ?_)))
 obtain ⟨e1,ho1⟩:∃ e1,(s.heap.update a (Obj.mapSeq fun _=>#[])).get? a=some (seqObj "list" #[] e1):=⟨_,get?_update_seq ho (fun _=>#[])⟩
 refine wpAny_bind (seqEpoch_at ho1 rfl (wpAny_bind (wpAny_newTuple (wpAny_bind (wpAny_newList (wpAny_holding ?_))))))
 obtain ⟨h6,e6⟩:∃ h6,h6=((s.heap.update a (Obj.mapSeq fun _=>#[])).push (seqObj "tuple" vs.toArray 0)).push (seqObj "list" #[] 0):=⟨_,rfl⟩
 have keep:∀ b o,b≠a->s.heap.get? b=some o->h6.get? b=some o:=by
  intro b o hb eb
  rw [e6]
  refine Heap.get?_push_of_some _ (Heap.get?_push_of_some _ ?_)
  rw [Heap.get?_update_ne _ _ _ _ hb]; exact eb
 have ho6:h6.get? a=some (seqObj "list" #[] e1):=by
  rw [e6]; exact Heap.get?_push_of_some _ (Heap.get?_push_of_some _ ho1)
 show wpAny (model prog w) A _ P E { s with heap:=((s.heap.update a (Obj.mapSeq fun _=>#[])).push (seqObj "tuple" vs.toArray 0)).push (seqObj "list" #[] 0) }
 have sh:∀ out,sortedHeap s.heap a vs out=h6.update a (Obj.mapSeq fun _=>out):=fun out=>by rw [e6]; rfl
 rw [← e6]
 dsimp only
 have tk:∀ b o,o.cls=.type "tuple"->s.heap.get? b=some o->h6.get? b=some o:=by
  intro b o hc eb
  refine keep b o (fun z=>?_) eb
  subst z
  rw [ho] at eb
  cases eb
  have hc':Value.type "list"=Value.type "tuple":=hc
  injection hc' with q
  exact absurd q (by decide)
 have hv6:∀ v,v∈vs->∃ z r,S (.inr z :: r)∧TupAt h6 v (.inr z :: r):=fun v hv'=>by
  obtain ⟨z,r,h1,h2⟩:=hv v hv'
  exact ⟨z,r,h1,h2.mono tk⟩
 have same:∀ v,v∈vs->Zeo h6 v=Zeo s.heap v:=fun v hv'=>by
  obtain ⟨z,r,h1,h2⟩:=hv v hv'
  rw [h2.row,(h2.mono tk).row]
 have fin:∀ st':SortSt,(arrOf st').toList.Perm (vs.toArray.zip vs.toArray).toList->(arrOf st').toList.Pairwise (le rO fun p=>Zeo h6 p.1)->P (.done (.ret .none)) { s with heap:=h6.update a (Obj.mapSeq fun _=>(arrOf st').map (·.2)) }:=by
  intro st' p1 p2
  obtain ⟨q1,q2⟩:=Znt p1
  have z:=h ((arrOf st').toList.map (·.2)) q1 ?_
  ·rw [sh] at z
   have e:((arrOf st').toList.map (·.2)).toArray=(arrOf st').map (·.2):=by
    apply Array.toList_inj.mp; simp
   rw [e] at z; exact z
  ·rw [List.map_map,List.pairwise_map]
   refine List.Pairwise.imp_of_mem (fun {x y} hx hy hxy=>?_) p2
   have hx':=q2 x hx
   have hy':=q2 y hy
   show rLt (Zeo s.heap y.2) (Zeo s.heap x.2)=false
   rw [← hx'.1,← hy'.1,← same _ hx'.2,← same _ hy'.2]
   exact hxy
 have szle:∀ st':SortSt,(arrOf st').toList.Perm (vs.toArray.zip vs.toArray).toList->((arrOf st').map (·.2)).size≤sizeLine+1:=by
  intro st' p1
  have:=p1.length_eq
  simp at this
  rw [Array.size_map]; omega
 by_cases h2:vs.toArray.size<2
 ·rw [if_pos h2,if_pos h2]
  refine wpAny_bind (wpAny_pure ?_)
  rw [StateT.run_pure]
  refine wpAny_bind (wpAny_pure ?_)
  dsimp only
  have p1:(arrOf (SortSt.mk' general' (vs.toArray.zip vs.toArray) #[] 7 none)).toList.Perm (vs.toArray.zip vs.toArray).toList:=List.Perm.refl _
  refine wpAny_bind (seqEpoch_at ho6 rfl (wpAny_bind (listUpdate_at ho6 rfl ?_ (hsz2:=szle _ p1))))
  simp only [bne_self_eq_false,Bool.false_eq_true,if_false]
  refine wpAny_pure (fin (SortSt.mk' general' (vs.toArray.zip vs.toArray) #[] 7 none) p1 ?_)
  have pw:∀ l:List Keyed,l.length<2->l.Pairwise (le rO fun p=>Zeo h6 p.1):=by
   intro l h
   cases l with
   | nil=>exact .nil
   | cons x l =>
    cases l with
    | nil=>exact List.pairwise_singleton _ _
    | cons y l=>simp only [List.length_cons] at h; omega
  exact pw _ (by simpa using h2)
 ·rw [if_neg h2,if_neg h2]
  obtain ⟨fs,k1,k2,k3⟩:=ZlI (x:=fun _=>True) (h:=h6) (vs:=vs) fun v hv'=>by
   obtain ⟨z,r,_,t⟩:=hv6 v hv'
   exact ⟨z,r,t⟩
  have hl:0<fs.length:=by rw [k2]; simp at h2; omega
  refine wpAny_bind (kat_kind (T:=.type "str") k1 hl (fun v hv'=>by obtain ⟨z,t,rfl⟩:=k3 v hv'; exact Looks.of_pure rfl) (by decide) ?_)
  refine wpAny_bind (wpAny_mono (ZkF (s:={ s with heap:=h6 }) (Zp4 hS) ([]:List RK) (st:=SortSt.mk' (tuples' (Value.type "str" != Value.type "tuple")) (vs.toArray.zip vs.toArray) #[] 7 none)
   (h64:=by show (vs.toArray.zip vs.toArray).size<64; simpa using h64) (Q:=fun _ st'=>(arrOf st').toList.Perm (vs.toArray.zip vs.toArray).toList∧(arrOf st').toList.Pairwise (le rO fun p=>Zeo h6 p.1)∧failedOf st'=none) ?_ rfl rfl rfl fun st' a1 a2 a3=>⟨a1,a2,a3⟩) ?_ fun _ _ e=>e)
  ·intro u hu
   have:=(Znt (List.Perm.refl _)).2 u hu
   obtain ⟨z,r,h1,h2⟩:=hv6 _ this.2
   exact ⟨_,h1,h2⟩
  ·rintro ⟨⟨⟩,st'⟩ s' ⟨rfl,p1,p2,p3⟩
   dsimp only
   refine wpAny_bind (seqEpoch_at ho6 rfl (wpAny_bind (listUpdate_at ho6 rfl ?_ (hsz2:=szle _ p1))))
   rw [p3]
   simp only [bne_self_eq_false,Bool.false_eq_true,if_false]
   exact wpAny_pure (fin st' p1 p2)
end
end SA
namespace L2
open PySem PySem.Spec PyProof.Rows PySem.W
section
variable {prog:Program} {w:World} {A:Around} {E:Value->Shared->Prop} {s:Shared}
def EntsAt (h:Heap) (d:Addr) (es:Array DictEntry) (ep:Nat):Prop:=∃ o,h.get? d=some o∧o.cls=.type "dict"∧o.data=.dict es ep
theorem EntsAt.lt {h:Heap} {d:Addr} {es:Array DictEntry} {ep:Nat} (x:EntsAt h d es ep):d<h.objs.size:=let ⟨_,ho,_⟩:=x; Heap.lt_size ho
theorem EntsAt.mono {h h':Heap} {d:Addr} {es:Array DictEntry} {ep:Nat} (x:EntsAt h d es ep) (k:∀ o,h.get? d=some o->h'.get? d=some o):EntsAt h' d es ep:=let ⟨o,ho,r⟩:=x; ⟨o,k o ho,r⟩
theorem Zox {v d : Addr} {es : Array DictEntry} {ep : Nat} {Q : Value → Shared → Prop} (hv : s.heap.IsValuesView v d) (hd : EntsAt s.heap d es ep)
  (q:Q (.ref s.heap.objs.size) { s with heap:=s.heap.push { cls:=.type "dict_valueiterator",data:=.fields #[.ref d,.int 0 0,.int es.size 0,.int ep 0] } }):wpAny (model prog w) A (pyIter (.ref v)) Q E s:=by
 have ty:=hv.typeIs
 obtain ⟨ov,g1,g2,g3⟩:=hv
 obtain ⟨od,d1,d2,d3⟩:=hd
 have own:Builtin.Dict_items.ownsTuple "dict_valueiterator"=false:=by decide
 refine wpAny_pyIter_slot ty F.slot_dict_values_iter (wpAny_call_entry F.slot_dict_values_iter ty F.entry_dict_values_iter ?_ (F.args_dict_values_iter_1 _))
 delta Builtin.«dict_values.__iter__»
 refine wpAny_bind (wpAny_pure (wpAny_bind ?_))
 delta Builtin.Dict_items.dictOf
 refine wpAny_bind (wpAny_field g1 g3 (x:=.ref d) rfl (wpAny_pure (wpAny_bind ?_)))
 delta Builtin.Dict_items.newIterator
 refine wpAny_bind (wpAny_dictEntries d1 d3 (wpAny_bind (wpAny_dictEpoch d1 d3 ?_)))
 simp only [own,Bool.false_eq_true,if_false]
 refine wpAny_newObj_type (wpAny_pure ⟨_,rfl,"dict_valueiterator",_,⟨_,Heap.get?_push_size _ rfl,rfl⟩,F.slot_dict_valueiterator_next.lookup,?_⟩)
 simpa [rawInt] using q
theorem Zgk {it:Addr} {Q:String->Shared->Prop} (hT:s.TypeIs (.ref it) "dict_valueiterator") (h:Q "dict_valueiterator" s):wpAny (model prog w) A (typeNameOfWhole (.ref it)) Q E s:=wpAny_typeNameOfWhole_valiter hT h
theorem ZoJ {it d : Addr} {i ep : Nat} {es : Array DictEntry} {e : DictEntry} {Q : Option Value → Shared → Prop} (hit : s.heap.IsValIter it d i es.size ep) (hd : EntsAt s.heap d es ep) (he : es[i]?=some e)
  (q:∀ h',h'.IsValIter it d (i+1) es.size ep->Heap.SameBut it s.heap h'->Q (some e.val) { s with heap:=h' }):wpAny (model prog w) A (pyNext (.ref it)) Q E s:=by
 have ty:=hit.typeIs
 obtain ⟨o,o1,o2,o3⟩:=id hit
 obtain ⟨od,d1,d2,d3⟩:=hd
 have own:Builtin.Dict_items.ownsTuple "dict_valueiterator"=false:=by decide
 have hlt:i<es.size:=by
  rcases Nat.lt_or_ge i es.size with h | h
  ·exact h
  ·rw [Array.getElem?_eq_none h] at he; cases he
 have hv:es[i].val=e.val:=by rw [getElem?_pos es i hlt] at he; injection he with z; rw [z]
 delta pyNext
 refine wpAny_bind (wpAny_attempt (wpAny_callSpecial?_slot (name:=Str.ofString "__next__") ty F.slot_dict_valueiterator_next
  (wpAny_call_entry F.slot_dict_valueiterator_next ty F.entry_dict_valueiterator_next ?_ (F.args_dict_valueiterator_next_1 _))))
 refine wpAny_bind (wpAny_pure (wpAny_bind (wpAny_bind (wpAny_bind (Zgk ty (wpAny_pure (wpAny_bind (wpAny_fieldsOf o1 o3 ?_))))))))
 simp only [own,Bool.false_eq_true,if_false]
 have nn:(Value.ref d == Value.none)=false:=rfl
 show wpAny _ _ (if (Value.ref d == Value.none)=true then _ else _) _ _ s
 rw [nn,if_neg Bool.false_ne_true]
 refine wpAny_bind (wpAny_pure (wpAny_bind (wpAny_dictEntries d1 d3 ?_)))
 rw [if_neg (by simp)]
 refine wpAny_bind (wpAny_pure (wpAny_bind (wpAny_dictEpoch d1 d3 ?_)))
 rw [if_neg (by simp)]
 refine wpAny_pure ?_
 simp only [show ¬ ((i:Int)<0) from by omega,if_false,Int.toNat_natCast,Array.getElem?_eq_getElem hlt]
 refine wpAny_bind (wpAny_bind (Zgk ty (wpAny_pure (wpAny_bind (wpAny_isOneOf_valiter ty ?_)))))
 show wpAny _ _ (setField (.ref it) 1 (rawInt ((i:Int)+1)) >>= _) _ _ s
 obtain ⟨h',eh⟩:∃ z,z=s.heap.update it (Obj.mapFields (·.setIfInBounds 1 (rawInt ((i:Int)+1)))):=⟨_,rfl⟩
 refine wpAny_bind (wpAny_setField o1 o3 (by simp) ?_)
 rw [← eh]
 have hit':h'.IsValIter it d (i+1) es.size ep:=by
  rw [eh]
  exact ⟨_,Heap.get?_update_self _ o1 (Obj.isFreed_of_fields (Obj.data_mapFields o3 _)),(Obj.cls_mapFields ..).trans o2,by rw [Obj.data_mapFields o3]; simp [rawInt]⟩
 have ty':({ s with heap:=h' }:Shared).TypeIs (.ref it) "dict_valueiterator":=Heap.IsValIter.typeIs (s:={ s with heap:=h' }) hit'
 refine wpAny_bind (wpAny_holding (wpAny_bind (wpAny_isOneOf_valiter ty' (wpAny_bind (wpAny_isOneOf_valiter ty' ?_)))))
 show wpAny _ _ (pure es[i].val) _ _ _
 rw [hv]
 exact wpAny_pure (wpAny_pure ⟨_,rfl,wpAny_pure (q _ hit' (by rw [eh]; exact Heap.SameBut.update ..))⟩)
theorem ZpS {it d : Addr} {i ep : Nat} {es : Array DictEntry} {Q : Option Value → Shared → Prop} (hh : A.handled=none) (hit : s.heap.IsValIter it d i es.size ep) (hd : EntsAt s.heap d es ep) (he : es.size ≤ i)
  (q:∀ h',Heap.ExtBut it s.heap h'->Q none { s with heap:=h' }):wpAny (model prog w) A (pyNext (.ref it)) Q E s:=by
 have ty:=hit.typeIs
 obtain ⟨o,o1,o2,o3⟩:=id hit
 obtain ⟨od,d1,d2,d3⟩:=hd
 have own:Builtin.Dict_items.ownsTuple "dict_valueiterator"=false:=by decide
 delta pyNext
 refine wpAny_bind (wpAny_attempt (wpAny_callSpecial?_slot (name:=Str.ofString "__next__") ty F.slot_dict_valueiterator_next
  (wpAny_call_entry F.slot_dict_valueiterator_next ty F.entry_dict_valueiterator_next ?_ (F.args_dict_valueiterator_next_1 _))))
 refine wpAny_bind (wpAny_pure (wpAny_bind (wpAny_bind (wpAny_bind (Zgk ty (wpAny_pure (wpAny_bind (wpAny_fieldsOf o1 o3 ?_))))))))
 simp only [own,Bool.false_eq_true,if_false]
 have nn:(Value.ref d == Value.none)=false:=rfl
 show wpAny _ _ (if (Value.ref d == Value.none)=true then _ else _) _ _ s
 rw [nn,if_neg Bool.false_ne_true]
 refine wpAny_bind (wpAny_pure (wpAny_bind (wpAny_dictEntries d1 d3 ?_)))
 rw [if_neg (by simp)]
 refine wpAny_bind (wpAny_pure (wpAny_bind (wpAny_dictEpoch d1 d3 ?_)))
 rw [if_neg (by simp)]
 refine wpAny_pure ?_
 simp only [show ¬ ((i:Int)<0) from by omega,if_false,Int.toNat_natCast,Array.getElem?_eq_none he]
 refine wpAny_bind (wpAny_bind (Zgk ty (wpAny_pure ?_)))
 show wpAny _ _ (setField (.ref it) 0 .none >>= _) _ _ s
 refine wpAny_bind (wpAny_setField o1 o3 (by simp) ?_)
 show wpAny _ _ (newExc (.type "StopIteration") [] >>= _) _ _ _
 refine wpAny_bind ?_
 simp only [newExc,newTuple]
 refine wpAny_bind (wpAny_newObj_type (wpAny_bind (m:=firstArgMember _ _) (wpAny_of_eq (a:=Value.none) (by first | rfl | (simp only [firstArgMember]; rfl)) (wpAny_newObj_type ?_ (by size_fits)))) (by size_fits))
 simp only [raiseNew]
 refine wpAny_bind (wpAny_handled ?_)
 rw [show A.in1.handled=none from hh]
 refine wpAny_bind (wpAny_pure (wpAny_throw ?_))
 refine wpAny_bind (wpAny_isInstance (T:="StopIteration") (b:=true) ⟨_,Heap.get?_push_size _ rfl,rfl⟩ isSubtype_stop ?_)
 exact wpAny_pure (q _ (((Heap.SameBut.update ..).extBut.push _).push _))
theorem ZnY (hh : A.handled=none) (I d : Addr) (hne : d ≠ I) (es : Array DictEntry) (ep : Nat) :
  Walks prog w A I [I,d] [I] es.size (fun i v=>∃ e,es[i]?=some e∧v=e.val) (fun i h=>h.IsValIter I d i es.size ep∧EntsAt h d es ep) where
 sub:=by intro b hb; rw [List.mem_singleton] at hb; rw [hb]; exact List.mem_cons_self
 frame:=by
  intro i h h' st k
  obtain ⟨⟨o,o1,o2⟩,e⟩:=st
  exact ⟨⟨o,k I List.mem_cons_self o o1,o2⟩,e.mono fun o eo=>k d (List.mem_cons_of_mem _ List.mem_cons_self) o eo⟩
 item:=by
  intro i s Q E hi st q
  refine ZoJ st.1 st.2 (getElem?_pos es i hi) fun h' it' sm=>?_
  refine q _ h' s.toks ⟨_,getElem?_pos es i hi,rfl⟩ ⟨it',st.2.mono fun o eo=>sm.extBut d o hne eo⟩ fun b o hb eo=>sm.extBut b o (fun z=>hb (by rw [z]; exact List.mem_cons_self)) eo
 done:=by
  intro s Q E st q
  exact ZpS hh st.1 st.2 (Nat.le_refl _) fun h' x=>q h' s.toks fun b o hb eo=>x b o (fun z=>hb (by rw [z]; exact List.mem_cons_self)) eo
 self:=fun _ _ _ _ st q=>wpAny_pyIter_valiter st.1 q
theorem ZpH {r d:Addr} {es:Array DictEntry} {ep:Nat}:KdlSrc prog w "dict_values" r d es.size (fun i v=>∃ e,es[i]?=some e∧v=e.val) (fun h=>h.IsValuesView r d∧EntsAt h d es ep) where
 type:=fun _ st=>st.1.typeIs
 there:=by
  rintro h ⟨⟨o,ho,_⟩,e⟩
  exact ⟨Heap.lt_size ho,e.lt⟩
 keep:=by
  rintro h h' ⟨⟨o,ho,x⟩,e⟩ k
  exact ⟨⟨o,k r (.inl rfl) o ho,x⟩,e.mono fun o eo=>k d (.inr rfl) o eo⟩
 notList:=by decide
 notTuple:=by decide
 hint:=fun _ _ _ _ st q=>kdl_hint_values st.1.typeIs q
 iter:=by
  intro A s hh st
  refine ⟨_,_,fun E Q q=>Zox st.1 st.2 q,ZnY hh _ d (Nat.ne_of_lt st.2.lt) es ep,⟨_,Heap.get?_push_size _ rfl,rfl,rfl⟩,st.2.mono fun o eo=>Heap.get?_push_of_some _ eo⟩
theorem ZoH {d : Addr} {es : Array DictEntry} {ep : Nat} {Q : Value → Shared → Prop} (lo : (d == sysModules)=false) (hd : EntsAt s.heap d es ep)
  (q:Q (.ref s.heap.objs.size) { s with heap:=s.heap.push { cls:=.type "dict_values",data:=.fields #[.ref d] } }):wpAny (model prog w) A (call (.builtin "dict.values") [.ref d]) Q E s:=by
 obtain ⟨od,d1,d2,d3⟩:=hd
 have ty:s.TypeIs (.ref d) "dict":=⟨od,d1,d2⟩
 refine call_meetsIn F.slot_dict_values ty F.entry_dict_values (F.args_dict_values_1 _) (S:=fun _ R s'=>s'=s∧R (.ok (.ret (.ref s'.heap.objs.size))) { s' with heap:=s'.heap.push { cls:=.type "dict_values",data:=.fields #[.ref d] } }) ?_ ⟨rfl,q⟩
 refine .of_wp fun A R s' h=>?_
 obtain ⟨rfl,h⟩:=h
 refine wpAny_bind ?_
 delta Builtin.Dict.noArgs
 refine wpAny_bind (wpAny_notOrdered_dict ty ?_)
 show wpAny _ _ (pure d) _ _ _
 refine wpAny_pure ?_
 show wpAny _ _ (Builtin.Dict.showsAll d >>= _) _ _ _
 delta Builtin.Dict.showsAll
 rw [if_neg (by rw [lo]; exact Bool.false_ne_true)]
 exact wpAny_bind (wpAny_pure (wpAny_bind (wpAny_newObj_type (wpAny_pure ⟨_,rfl,h⟩))))
end
end L2
namespace L2
open PySem PySem.Spec PyProof.Rows PySem.W SA
def Zjw (r a:Addr) (h:Heap):Prop:=h.IsValuesView r a
section
variable {prog:Program} {w:World} {A:Around} {E:Value->Shared->Prop} {s:Shared}
theorem ZbI {α β:Type} {f:α->β} {m n:List β} (h:m.Perm n):∀ l:List α,n=l.map f->∃ l':List α,l'.Perm l∧m=l'.map f:=by
 induction h with
 | nil=>intro l e; exact ⟨l,List.Perm.refl _,e⟩
 | cons x _ ih =>
  intro l e
  match l,e with
  | y :: l,e =>
   injection e with e1 e2
   obtain ⟨l',p,e'⟩:=ih l e2
   exact ⟨y :: l',p.cons y,by rw [e1,e']; rfl⟩
 | swap x y l0 =>
  intro l e
  match l,e with
  | a :: b :: l,e =>
   injection e with e1 e2
   injection e2 with e2 e3
   exact ⟨b :: a :: l,List.Perm.swap ..,by rw [e1,e2,e3]; rfl⟩
 | trans _ _ ih1 ih2 =>
  intro l e
  obtain ⟨l1,p1,e1⟩:=ih2 l e
  obtain ⟨l2,p2,e2⟩:=ih1 l1 e1
  exact ⟨l2,p2.trans p1,e2⟩
theorem ZdQ {S : List RK → Prop} (hS : ∀ r q, S r → S q → Comp r q) {x : Value} {vs : List Value} {Q : Value → Shared → Prop} (h64 : vs.length<64) (hv : ∀ v, v ∈ vs → ∃ z r, S (.inr z :: r) ∧ TupAt s.heap v (.inr z :: r))
  (hc:∀ (A':Around) (Q':List Value->Shared->Prop),A'.handled=A.handled->(∀ h1 tk,(∀ b o,s.heap.get? b=some o->h1.get? b=some o)->s.heap.objs.size≤h1.objs.size->Q' vs { s with heap:=h1,toks:=tk })->wpAny (model prog w) A' (collect x) Q' E s)
  (h:∀ h' tk a e (out:List Value),(∀ b o,s.heap.get? b=some o->h'.get? b=some o)->s.heap.objs.size≤a->h'.get? a=some (seqObj "list" out.toArray e)->out.Perm vs->(out.map (Zeo s.heap)).Pairwise (fun x y=>rLt y x=false)->Q (.ref a) { s with heap:=h',toks:=tk }) :
  wpAny (model prog w) A (call (.builtin "sorted") [x]) Q E s:=by
 refine Calls.call_function_entry kind_sorted plain_sorted entry_sorted (args_sorted1 _) ?_
 have hz:vs.length≤sizeLine:=by rw [sizeLine_eq]; omega
 unfold Builtin.«sorted»
 refine wpAny_bind (m:=checkCount "sorted" 1 1 _) (wpAny_pure (wpAny_bind (hc _ _ rfl fun h1 tk k1 z1=>wpAny_bind (wpAny_newList ?_))))
 have hoL:(h1.push (seqObj "list" vs.toArray 0)).get? h1.objs.size=some (seqObj "list" vs.toArray 0):=Heap.get?_push_size _ rfl
 have kp:∀ b o,s.heap.get? b=some o->(h1.push (seqObj "list" vs.toArray 0)).get? b=some o:=fun b o q=>Heap.get?_push_of_some _ (k1 b o q)
 show wpAny _ _ _ _ _ { s with heap:=h1.push (seqObj "list" vs.toArray 0),toks:=tk }
 have hv':∀ v,v∈vs->∃ z r,S (.inr z :: r)∧TupAt (h1.push (seqObj "list" vs.toArray 0)) v (.inr z :: r):=fun v hm=>by
  obtain ⟨z,r,a1,a2⟩:=hv v hm
  exact ⟨z,r,a1,a2.mono fun b o _ q=>kp b o q⟩
 refine wpAny_bind (wpAny_holding (wpAny_call_entry slot_list_sort ⟨_,hoL,rfl⟩ entry_list_sort (ZnM hS hoL h64 hv' fun out p1 p2=>⟨_,rfl,?_⟩) (args_list_sort _)))
 obtain ⟨e,he⟩:=sortedHeap_at (out:=out.toArray) hoL
 refine wpAny_pure ⟨_,rfl,h _ tk _ e out (fun b o q=>?_) z1 he p1 ?_⟩
 ·have q1:=k1 _ _ q
  have lt:b<h1.objs.size:=Heap.lt_size q1
  rw [sortedHeap_old (Nat.ne_of_lt lt) (by rw [size_push']; exact Nat.lt_succ_of_lt lt)]
  exact Heap.get?_push_of_some _ q1
 ·have same:out.map (Zeo (h1.push (seqObj "list" vs.toArray 0)))=out.map (Zeo s.heap):=List.map_congr_left fun v hm=>by
   obtain ⟨z,r,a1,a2⟩:=hv v (p1.mem_iff.mp hm)
   rw [a2.row,(a2.mono fun b o _ q=>kp b o q).row]
  rw [← same]; exact p2
theorem Zpu {k:Key} {v:Value} (r:RelV (kV k) v):Zki v∧Zi4 v=k:=by
 cases k with
 | inl i=>obtain ⟨t,rfl⟩:=r; exact ⟨.inl ⟨_,_,rfl⟩,rfl⟩
 | inr x=>obtain ⟨t,rfl⟩:=r; exact ⟨.inr ⟨_,_,rfl⟩,rfl⟩
theorem ZgP:∀ {ks:List Key} {us:List Value},Vals (ks.map kV) us->(∀ u,u∈us->Zki u)∧us.map Zi4=ks
 | [],_,.nil=>⟨by simp,rfl⟩
 | k :: ks,_,.cons r t=>by
  obtain ⟨a1,a2⟩:=Zpu r
  obtain ⟨b1,b2⟩:=ZgP t
  refine ⟨fun u hu=>?_,by rw [List.map_cons,a2,b2]⟩
  rcases List.mem_cons.mp hu with rfl | hu
  ·exact a1
  ·exact b1 u hu
end
section
variable {X:Cx}
theorem ZmI:MtR X "dict.values" (fun x xs H Q=>∃ a kvs,x=.ref a∧xs=[]∧H a=some (.dT kvs)∧∀ r,H r=none->Q (.ref r) (upd H r (.ext (Zjw r a)))):=by
 intro pins s σ H x xs v us Q I rx r h
 obtain ⟨a,kvs,rfl,rfl,ha,q⟩:=h
 cases r
 obtain rfl:v=Value.ref a:=rx
 obtain ⟨z,hd,xs,rel,o,es,ep,h1,h2,h3,h4,h5⟩:=Znb I.hok ha
 refine ZoH hd ⟨o,h1,h2.1,h3⟩ ⟨.ref s.heap.objs.size,_,I.laid (t':=s.toks) (o:=.ext (Zjw s.heap.objs.size a)) (fun b u e=>Heap.get?_push_of_some _ e) (Nat.le_refl _) ?_,rfl,q _ (I.hok.fresh (Nat.le_refl _))⟩
 have g:(s.heap.push { cls:=.type "dict_values",data:=.fields #[.ref a] }).get? s.heap.objs.size=some { cls:=.type "dict_values",data:=.fields #[.ref a] }:=Heap.get?_push_size _ rfl
 refine ⟨⟨_,g,rfl,rfl⟩,⟨_,g⟩,fun g1 g2 φ k=>?_⟩
 obtain ⟨o,o1,o2⟩:=φ
 exact ⟨o,k o o1,o2⟩
theorem Zkl {S : List Key → Prop} (hS : ∀ r q, S r → S q → Comp r q) (K : W.Frag) (hc : X.calm=true) (hK : X.K=K := by rfl) : Zdo X (.builtin "sorted") (fun xs H Q => ∃ (r a : Addr) (kvs : List (List Key × V)) (bs : List (Addr × List Key)), xs=[.ref r] ∧ H r=some (.ext (Zjw r a)) ∧ H a=some (.dT kvs) ∧
  kvs.map (·.2)=bs.map (fun p=>V.ref p.1)∧bs.length<64∧(∀ p,p∈bs->SqT K H p.1 (p.2.map kV)∧S p.2∧∃ z t,p.2=.inr z :: t) ∧
  ∀ (D:Addr) (out:List (Addr × List Key)),H D=none->out.Perm bs->(out.map (·.2)).Pairwise (fun x y=>rLt y x=false)->Q (.ref D) (upd H D (.lst (out.map fun p=>V.ref p.1)))):=by
 subst hK
 intro pins s σ H xs us Q I rr h
 obtain ⟨r,a,kvs,bs,rfl,hr,ha,eb,h64,hb,q⟩:=h
 obtain ⟨u,rfl,ru⟩:=ZeF rr
 cases (show u=Value.ref r from ru)
 obtain ⟨z,hd,xs,rel,o,es,ep,h1,h2,h3,h4,h5⟩:=Znb I.hok ha
 have hview:s.heap.IsValuesView r a:=(show ObjOk X.prog X.w H s.heap r (.ext (Zjw r a)) from I.hok r _ hr).1
 have hlen:kvs.length=bs.length:=by have:=congrArg List.length eb; simpa using this
 have hxl:xs.length=kvs.length:=rel.length.symm
 have hes:es.size=xs.length:=by rw [← Array.length_toList,h4,List.length_map]
 have atV:∀ {ks:List (List Key × V)} {ys:List (List Key × Addr × Value)} {cs:List (Addr × List Key)},KT H ks ys->ks.map (·.2)=cs.map (fun p=>V.ref p.1)->ys.map (fun y=>y.2.2)=cs.map (fun p=>Value.ref p.1):=by
  intro ks ys cs t
  induction t generalizing cs with
  | nil=>intro e; match cs,e with | [],_=>rfl
  | cons hh _ ih =>
   intro e
   match cs,e with
   | c :: cs,e =>
    injection e with e1 e2
    have r3:=hh.2.2
    dsimp only at e1
    rw [e1] at r3
    rw [List.map_cons,List.map_cons,ih e2]
    exact congrArg (· :: _) (show _=Value.ref c.1 from r3)
 have vals:=atV rel eb
 have esv:es.toList.map (·.val)=bs.map (fun p=>Value.ref p.1):=by rw [h4,List.map_map]; exact vals
 have tup:∀ p,p∈bs->TupAt s.heap (.ref p.1) p.2:=fun p hp=>by
  obtain ⟨its,rv,⟨ob,o1,o2,n,o3⟩,_⟩:=I.tuple (hb p hp).1
  obtain ⟨c1,c2⟩:=ZgP rv
  exact ⟨p.1,ob,its.toArray,n,rfl,o1,o2,o3,by simpa using c1,by simpa using c2⟩
 refine ZdQ hS (vs:=bs.map fun p=>Value.ref p.1) (by rw [List.length_map]; exact h64) (fun v hv=>?_) (fun A' Q' hA q'=>ZkV (ZpH (r:=r) (d:=a) (es:=es) (ep:=ep)) (by rw [hA]; exact I.ok.hd hc) ⟨hview,o,h1,h2.1,h3⟩ (by rw [hes,hxl]; exact z) fun h1' tk acc k1 z1 hacc=>?_) fun h' tk D e out k1 z1 he p1 p2=>?_
 ·obtain ⟨p,hp,rfl⟩:=List.mem_map.mp hv
  obtain ⟨_,b2,zz,tt,e⟩:=hb p hp
  have:=tup p hp
  rw [e] at this b2
  exact ⟨zz,tt,b2,this⟩
 ·have e:acc.toList=bs.map fun p=>Value.ref p.1:=by
   rw [← esv]
   apply List.ext_getElem?
   intro i
   rw [List.getElem?_map,Array.getElem?_toList,Array.getElem?_toList]
   rcases Nat.lt_or_ge i es.size with hi | hi
   ·have hi':i<acc.size:=by rw [hacc.1]; exact hi
    obtain ⟨en,e1,e2⟩:=hacc.2 i acc[i] (getElem?_pos acc i hi')
    rw [getElem?_pos acc i hi',e1,e2]; rfl
   ·rw [Array.getElem?_eq_none hi,Array.getElem?_eq_none (by rw [hacc.1]; exact hi)]; rfl
  have z:=q' h1' tk k1 z1
  rw [← e] at z
  exact z
 ·obtain ⟨out',p3,rfl⟩:=ZbI p1 bs rfl
  have srt:(out'.map (·.2)).Pairwise (fun x y=>rLt y x=false):=by
   have e:(out'.map fun p=>Value.ref p.1).map (Zeo s.heap)=out'.map (·.2):=by
    rw [List.map_map]
    exact List.map_congr_left fun p hp=>(tup p (p3.mem_iff.mp hp)).row
   rw [← e]; exact p2
  have vv:∀ l:List (Addr × List Key),Vals (l.map fun p=>V.ref p.1) (l.map fun p=>Value.ref p.1):=by
   intro l
   induction l with
   | nil=>exact .nil
   | cons p l ih=>exact .cons rfl ih
  exact ⟨.ref D,_,I.laid (t':=tk) (o:=.lst (out'.map fun p=>V.ref p.1)) k1 z1 (show ObjOk X.prog X.w _ _ _ (.lst (out'.map fun p=>V.ref p.1)) from ⟨by rw [List.length_map,p3.length_eq,← hlen]; exact z,_,e,vv out',he⟩),rfl,q _ out' (I.hok.fresh z1) p3 srt⟩
end
theorem FunD.binds2 {K : W.Frag} {x qual : Str} {st : Stmt} {f T : Addr} {fd : FuncData} {ps : List Str} {o : Obj} {n : Nat} (F : FunD K x qual st f fd (.ref T)) (ho : K.lookup T=some o) (hs : o.data=.seq #[.none] n)
  (h:∀ (kV doc pm:Value) (an:Option Addr) (cdv ct:Value) (us:List Value),us.length=ps.length->∃ k:Option (Array Value)->Sem (List (Str × Value)),
   bindArgs (W.fnOf x qual (Zcb st) (ZbS st) (Zap st) (.ref T) kV doc pm an cdv ct) ⟨us,[]⟩=seqItems? (.ref T) >>= k∧k (some #[.none])=pure (ps.zip us)):Binds K fd ps []:=by
 obtain ⟨oc,od,kV,doc,pm,an,cdv,ct,osl,rfl,lk,hcd⟩:=F.ex
 intro s us hin hl
 rw [List.append_nil] at hl ⊢
 obtain ⟨k,h1,h2⟩:=h kV doc pm an cdv ct us hl
 exact W.binds_K hin rfl ho hs h1 h2
section
variable {X:Cx}
theorem Zn5:∀ {cs:List (Addr × List Key)} {us:List Value},Vals (cs.map fun p=>V.ref p.1) us->us=cs.map fun p=>Value.ref p.1
 | [],_,.nil=>rfl
 | c :: cs,_,.cons r t=>by rw [List.map_cons,Zn5 t]; exact congrArg (· :: _) (show _=Value.ref c.1 from r)
theorem ZjK:∀ l:List (Addr × List Key),Vals (l.map fun p=>V.ref p.1) (l.map fun p=>Value.ref p.1)
 | []=>.nil
 | p :: l=>.cons rfl (ZjK l)
theorem ZdU {S : List Key → Prop} (hS : ∀ r q, S r → S q → Comp r q) (K : W.Frag) (hK : X.K=K := by rfl) : Zdo X (.builtin "sorted") (fun xs H Q => ∃ (l : Addr) (bs : List (Addr × List Key)), xs=[.ref l] ∧ SqL K H l (bs.map fun p => V.ref p.1) ∧ bs.length<64 ∧
  (∀ p,p∈bs->SqT K H p.1 (p.2.map kV)∧S p.2∧∃ z t,p.2=.inr z :: t) ∧
  ∀ (D:Addr) (out:List (Addr × List Key)),H D=none->out.Perm bs->(out.map (·.2)).Pairwise (fun x y=>rLt y x=false)->Q (.ref D) (upd H D (.lst (out.map fun p=>V.ref p.1)))):=by
 subst hK
 intro pins s σ H xs us Q I rr h
 obtain ⟨l,bs,rfl,hl,h64,hb,q⟩:=h
 obtain ⟨u,rfl,ru⟩:=ZeF rr
 cases (show u=Value.ref l from ru)
 obtain ⟨its,rv,pl,hz⟩:=I.list hl
 have ev:=Zn5 rv
 subst ev
 rw [List.length_map] at hz
 have tup:∀ p,p∈bs->TupAt s.heap (.ref p.1) p.2:=fun p hp=>by
  obtain ⟨its,rv,⟨ob,o1,o2,n,o3⟩,_⟩:=I.tuple (hb p hp).1
  obtain ⟨c1,c2⟩:=ZgP rv
  exact ⟨p.1,ob,its.toArray,n,rfl,o1,o2,o3,by simpa using c1,by simpa using c2⟩
 refine ZdQ hS (vs:=bs.map fun p=>Value.ref p.1) (by rw [List.length_map]; exact h64) (fun v hv=>?_) (fun A' Q' _ q'=>collect_list pl.isList (q' _ _ (fun b o e=>?_) ?_) (by rw [List.length_map]; exact hz)) fun h' tk D e out k1 z1 he p1 p2=>?_
 ·obtain ⟨p,hp,rfl⟩:=List.mem_map.mp hv
  obtain ⟨_,b2,zz,tt,e⟩:=hb p hp
  have:=tup p hp
  rw [e] at this b2
  exact ⟨zz,tt,b2,this⟩
 ·have lt:=Heap.lt_size e
  rw [Heap.get?_update_ne _ _ _ _ (Nat.ne_of_lt lt)]
  exact Heap.get?_push_of_some _ e
 ·rw [Heap.size_update,size_push']
  exact Nat.le_succ _
 ·obtain ⟨out',p3,rfl⟩:=ZbI p1 bs rfl
  have srt:(out'.map (·.2)).Pairwise (fun x y=>rLt y x=false):=by
   have e:(out'.map fun p=>Value.ref p.1).map (Zeo s.heap)=out'.map (·.2):=by
    rw [List.map_map]
    exact List.map_congr_left fun p hp=>(tup p (p3.mem_iff.mp hp)).row
   rw [← e]; exact p2
  exact ⟨.ref D,_,I.laid (t':=tk) (o:=.lst (out'.map fun p=>V.ref p.1)) k1 z1 (show ObjOk X.prog X.w _ _ _ (.lst (out'.map fun p=>V.ref p.1)) from ⟨by rw [List.length_map,p3.length_eq]; exact hz,_,e,ZjK out',he⟩),rfl,q _ out' (I.hok.fresh z1) p3 srt⟩
end
section
variable {X:Cx} {pins:List (Addr × Obj)} {σ:St} {H H':Hp} {s:Shared} {d:Addr} {kvs:List (List Key × V)} {o:Obj}
end
section
variable {prog:Program} {w:World} {A:Around} {E:Value->Shared->Prop}
end
theorem ZmS {α : Type} {J : It} {σ0 : St} {g : TG} {tt : TT} {te : TE} {Q : VK} {H1 : Hp} (sel : List (Option α)) (P : α → Hp → V → Prop) (mono : ∀ a H H' v D xs, P a H v → H D=some (.lst xs) → Zsl D H H' → P a H' v) (hn : sel.length<sizeLine) (σP : St → Prop) (h0 : σP σ0)
  (go:∀ i H,i<sel.length->Same H1 H->J.go i H) (stop:∀ H,Same H1 H->J.stop sel.length H)
  (step:∀ i σ H x H' o,sel[i]?=some o->σP σ->Same H1 H->J.yld i H x H'->∀ C:Option V->St->Hp->Prop,(o=none->∀ σ2 H6,σP σ2->Same H H6->C none σ2 H6)->(∀ a,o=some a->∀ y σ2 H6,σP σ2->Same H H6->P a H6 y->C (some y) σ2 H6)->g x σ H' fun σ2 H4=>tt σ2 H4 fun c H5=>if c=true then te σ2 H5 fun y' H6=>C (some y') σ2 H6 else C none σ2 H5)
  (fin:∀ D ys H',H1 D=none->Same H1 H'->H' D=some (.lst ys)->ys.length=(sel.filterMap id).length->(∀ (j:Nat) (y:V) (a:α),ys[j]?=some y->(sel.filterMap id)[j]?=some a->P a H' y)->Q (.ref D) H'):ZoK J σ0 g tt te Q H1:=by
 intro D hD
 have keep:∀ {H:Hp} {o:HO},Same H1 H->Same H1 (upd H D o):=fun {H o} e b u q=>by
  rw [Zai (Zal q hD)]
  exact e b u q
 have fl:∀ i,((sel.take i).filterMap id).length≤sel.length:=fun i=>Nat.le_trans (List.length_filterMap_le _ _) (by rw [List.length_take]; omega)
 refine ⟨fun i m σ ys H=>i≤sel.length∧m=sel.length-i∧σP σ∧ys.length=((sel.take i).filterMap id).length∧(∀ (j:Nat) (y:V) (a:α),ys[j]?=some y->((sel.take i).filterMap id)[j]?=some a->P a H y)∧H D=some (.lst ys)∧Same H1 H,⟨_,Nat.zero_le _,rfl,h0,rfl,fun j y a e=>by simp at e,Zab,keep (Same.refl H1)⟩,?_⟩
 rintro i m σ ys H ⟨hi,rfl,p,hy,hP,hd,sm⟩
 refine ⟨hd,?_⟩
 by_cases lt:i<sel.length
 ·have e:sel[i]?=some sel[i]:=by simp [lt]
  have tk:(sel.take (i+1)).filterMap id=(sel.take i).filterMap id++(match sel[i] with | none=>[] | some a=>[a]):=by
   rw [List.take_succ_eq_append_getElem lt,List.filterMap_append]
   cases sel[i] <;> rfl
  refine .inr ⟨go i H lt sm,fun σ2 ys2 H3=>σP σ2∧ys2.length=((sel.take (i+1)).filterMap id).length∧(∀ (j:Nat) (y:V) (a:α),ys2[j]?=some y->((sel.take (i+1)).filterMap id)[j]?=some a->P a H3 y)∧H3 D=some (.lst ys2)∧Same H1 H3,fun σ2 ys2 H3 ⟨a,b,c,d,e⟩=>⟨_,by omega,lt,rfl,a,b,c,d,e⟩,fun x H3 y=>?_⟩
  refine step i σ H x H3 sel[i] e p sm y (fun o σ2 H6=>match o with
   | some y'=>H6 D=some (.lst ys)∧ys.length<sizeLine∧σP σ2∧(ys++[y']).length=((sel.take (i+1)).filterMap id).length∧(∀ (j:Nat) (z:V) (a:α),(ys++[y'])[j]?=some z->((sel.take (i+1)).filterMap id)[j]?=some a->P a (upd H6 D (.lst (ys++[y']))) z)∧upd H6 D (.lst (ys++[y'])) D=some (.lst (ys++[y']))∧Same H1 (upd H6 D (.lst (ys++[y'])))
   | none=>σP σ2∧ys.length=((sel.take (i+1)).filterMap id).length∧(∀ (j:Nat) (z:V) (a:α),ys[j]?=some z->((sel.take (i+1)).filterMap id)[j]?=some a->P a H6 z)∧H6 D=some (.lst ys)∧Same H1 H6) (fun on σ2 H6 p2 s6=>?_) (fun a oa y' σ2 H6 p2 s6 hp6=>?_)
  ·have tn:(sel.take (i+1)).filterMap id=(sel.take i).filterMap id:=by rw [tk,on]; exact List.append_nil _
   refine ⟨p2,by rw [tn]; exact hy,fun j z a e1 e2=>?_,s6 _ _ hd,sm.trans s6⟩
   rw [tn] at e2
   exact mono a H H6 z D ys (hP j z a e1 e2) hd fun b u _ q=>s6 b u q
  ·have ts:(sel.take (i+1)).filterMap id=(sel.take i).filterMap id++[a]:=by rw [tk,oa]
   have hd6:=s6 _ _ hd
   have bt:Zsl D H6 (upd H6 D (.lst (ys++[y']))):=fun b u nb e=>by rw [Zai nb]; exact e
   have fi:=fl i
   refine ⟨hd6,by omega,p2,by rw [ts,List.length_append,List.length_append,hy]; rfl,fun j z b e1 e2=>?_,Zab,keep (sm.trans s6)⟩
   rw [ts] at e2
   by_cases jl:j<ys.length
   ·rw [List.getElem?_append_left jl] at e1
    rw [List.getElem?_append_left (by omega)] at e2
    exact mono b H _ z D _ (hP j z b e1 e2) hd (fun b u nb e=>bt b u nb (s6 b u e))
   ·have j0:j=ys.length:=by
     have:=(List.getElem?_eq_some_iff.mp e1).1
     simp at this
     omega
    subst j0
    rw [List.getElem?_append_right (Nat.le_refl _),Nat.sub_self] at e1
    rw [List.getElem?_append_right (by omega),hy,Nat.sub_self] at e2
    cases (show y'=z by simpa using e1)
    cases (show a=b by simpa using e2)
    exact mono a H6 _ _ D _ hp6 hd6 bt
 ·have e:i=sel.length:=by omega
  subst e
  rw [List.take_length] at hy hP
  exact .inl ⟨stop H sm,fin D ys H hD sm hd hy hP⟩
end L2
namespace L2
open PySem PySem.Spec PyProof.Rows PySem.W
noncomputable def Zcg (K:W.Frag) (f:Addr):FuncData:=match K.lookup f with
 | some ⟨_,_,.func fd,_⟩=>fd
 | _=>default
structure DefIn (K:W.Frag) (x q:Str) (st:Stmt) (f:Addr):Prop where
 ex:∃ (oc:Value) (od:Option Addr) (kV doc pm:Value) (an:Option Addr) (cdv ct:Value) (osl:Array (Option Value)),
  K.lookup f=some ⟨oc,od,.func (fnOf x q (Zcb st) (ZbS st) (Zap st) .none kV doc pm an cdv ct),osl⟩∧codeIn K cdv q=true
 kp:keepIn K (.ref f)=true
theorem DefIn.fn {K:W.Frag} {x q:Str} {st:Stmt} {f:Addr} (h:DefIn K x q st f):Fun K x q st f (Zcg K f):=by
 obtain ⟨oc,od,kV,doc,pm,an,cdv,ct,osl,lk,hc⟩:=h.ex
 have e:Zcg K f=fnOf x q (Zcb st) (ZbS st) (Zap st) .none kV doc pm an cdv ct:=by unfold Zcg; rw [lk]
 rw [e]
 exact ZqN lk hc h.kp
def ZnS (x q:Str) (st:Stmt) (ps:List Str):Prop:=∀ (kV doc pm:Value) (an:Option Addr) (cdv ct:Value) (us:List Value),us.length=ps.length->bindArgs (fnOf x q (Zcb st) (ZbS st) (Zap st) .none kV doc pm an cdv ct) ⟨us,[]⟩=pure (ps.zip us)
structure Df (K:W.Frag) (mg:Str->Option Value) (x:Str) (st:Stmt) (ps:List Str) where
 a:Addr
 F:Fun K x x st a (Zcg K a)
 b:Binds K (Zcg K a) ps []
 m:mg x=some (.ref a)
structure Dm (K:W.Frag) (C:Addr) (x q:Str) (st:Stmt) (ps:List Str) where
 a:Addr
 F:Fun K x q st a (Zcg K a)
 b:Binds K (Zcg K a) ps []
 me:Meth K C x a
noncomputable def Df.of {K:W.Frag} {mg:Str->Option Value} {h:Heap} {x:Str} {st:Stmt} {ps:List Str} {f:Addr} (X:K.In h) (G:h.Ns mainGlobals mg) (a:nsIn K mainGlobals x=some (some (.ref f))) (l:DefIn K x x st f) (hb:ZnS x x st ps):Df K mg x st ps:=⟨f,l.fn,l.fn.binds hb,mg_of X G a⟩
noncomputable def Dm.of {K:W.Frag} {C:Addr} {x q:Str} {st:Stmt} {ps:List Str} {f:Addr} (a:findIn K (.ref C) x=some (some (.ref f))) (i:isFn K (.ref f)=true) (l:DefIn K x q st f) (hb:ZnS x q st ps):Dm K C x q st ps:=⟨f,l.fn,l.fn.binds hb,⟨a,i,l.kp⟩⟩
theorem un1 {P:List Value->Prop} (h:∀ a,P [a]):∀ us,us.length=1->P us
 | [_],_=>h _
theorem un2 {P:List Value->Prop} (h:∀ a b,P [a,b]):∀ us,us.length=2->P us
 | [_,_],_=>h _ _
theorem un3 {P:List Value->Prop} (h:∀ a b c,P [a,b,c]):∀ us,us.length=3->P us
 | [_,_,_],_=>h _ _ _
theorem un4 {P:List Value->Prop} (h:∀ a b c d,P [a,b,c,d]):∀ us,us.length=4->P us
 | [_,_,_,_],_=>h _ _ _ _
theorem un5 {P:List Value->Prop} (h:∀ a b c d e,P [a,b,c,d,e]):∀ us,us.length=5->P us
 | [_,_,_,_,_],_=>h _ _ _ _ _
end L2
namespace TextG
open PySem
end TextG
namespace L2
open PySem PySem.Spec PyProof.Rows PySem.W
section
variable {X:Cx}
end
section
variable {X:Cx} {CX:CXT} {k1 k2 k3:Nat} {f1 C1 f2 C2 f3 C3:Addr} {fd1 fd2 fd3:FuncData} {ps1 ps2 ps3:List Str} {sp1 sp2 sp3:Sp} {E:XS} {m:Str} {pos apos:Pos} {o:Expr} {ta:TE}
end
end L2
namespace L2
open PySem PySem.Spec PyProof.Rows
section
variable {prog:Program} {w:World} {A:Around} {R:Result->Shared->Prop} {s:Shared}
end
section
variable {X:Cx} {pins:List (Addr × Obj)} {σ:St} {H:Hp} {s:Shared} {N:List Str} {sc:Scope} {cl:List (Str × Addr)} {σc:St->St} {fp:List Addr}
end
section
variable {X:Cx} {elt tg iter:Expr} {ifs:List Expr} {sc:Scope} {pos:Pos} {N:List Str} {cl:List (Str × Addr)} {σc:St->St} {wi:TI} {g:TG} {tt:TT} {te:TE}
end
section
variable {M:Model} {A:Around} {E:Value->Shared->Prop} {s:Shared}
end
section
variable {X:Cx} {pins:List (Addr × Obj)} {σ:St} {H H':Hp} {s s':Shared} {e:Addr} {cls:Value}
end
section
variable {P:Program} {w:World} {K:W.Frag} {mg:Str->Option Value} {base:Heap} {N:List Str} {qual:Str} {scope:Scope} {f:Addr} {cd:Value} {A:Around} {outer:List Env} {s:Shared} {H:Hp} {E:XK}
end
section
variable {X:Cx}
end
theorem Zd1:entryFor table "dict.update.loop"=some Builtin.«dict.update.loop»:=entryFor_of_tree (by kernel_rfl)
theorem Zjj:typeLookup (.type "list") "keys"=pure none:=am_miss_of_fast (by decide +kernel)
section
variable {prog:Program} {w:World} {A:Around} {E:Value->Shared->Prop} {s:Shared}
theorem ZhC {a : Addr} {o : Obj} {xs : Array Value} {k : Nat} {Q : Option Value → Shared → Prop}
  (hx:s.heap.get? a=some o) (hc:o.cls=.type "list") (hdat:o.data=.seq xs k) (hd:o.dict=none) (hA:A.handled=none)
  (h:∀ h' tk,(∀ b u,s.heap.get? b=some u->h'.get? b=some u)->Q none { s with heap:=h',toks:=tk }) :
  wpAny (model prog w) A (getAttr? (.ref a) "keys") Q E s:=by
 obtain ⟨c,dct,dat,sl⟩:=o
 simp only at hc hdat hd
 subst hc hdat hd
 obtain ⟨hp,g,d,tk,os⟩:=s
 have hT:∀ tk',(⟨hp,g,d,tk',os⟩:Shared).TypeIs (.ref a) "list":=fun _=>⟨_,hx,rfl⟩
 have f1:=sub_AttributeError
 have f3:=F.slot_list_getattribute.lookup
 have f4:=F.slot_list_getattribute.bind (.ref a)
 have f5:=am_list_getattr_none
 unfold getAttr? getAttrBy? getAttrBy
 repeat (any_goals (first | assumption | exact hT _ | ((with_reducible show wpAny _ _ (call (Value.builtin "list.__getattribute__") _ _) _ _ _); refine call_meets F.slot_list_getattribute (hT _) am_entry_list_getattribute (F.args_list_getattribute_2 _ _) (meets_getattribute_miss_list a xs k sl "keys" _ Zjj (by decide +kernel)) ⟨hx,hA,fun h' tk' e hx'=>?_⟩) | wp_step))
 obtain ⟨t',u',he⟩:=hx'.there
 show wpAny _ _ (getattributeRaised _ _ _ _ _ _ _) _ _ _
 unfold getattributeRaised
 repeat (any_goals (first | assumption | wp_step))
 exact h _ _ hx'.keeps
end
section
variable {prog:Program} {w:World} {κ:Type} [DecidableEq κ] {knd:KeyKind prog w κ} {A:Around} {s:Shared}
theorem Zl6 {kvs:List (κ × Value)} {k:κ} {v:Value} (h:k ∉ kvs.map (·.1)):stored kvs k v=kvs++[(k,v)]:=by
 unfold stored
 rw [if_neg]
 intro t
 obtain ⟨p,hp,e⟩:=List.any_eq_true.mp t
 exact h (by rw [← of_decide_eq_true e]; exact List.mem_map.mpr ⟨p,hp,rfl⟩)
theorem Zma {d it l : Addr} {items : Array Value} {more : List (κ × Value)} {h0 : Heap} {R : Result → Shared → Prop} (hh : A.handled=none) (hdi : d ≠ it) (hld : l ≠ d) (hli : l ≠ it)
  (hl:h0.IsList l items) (hsz:items.size=more.length) (hz:more.length≤sizeLine) (nd:(more.map (·.1)).Nodup)
  (prs:∀ (i:Nat) (p:κ × Value),more[i]?=some p->∃ t key,items[i]?=some (.ref t)∧t≠d∧t≠it∧IsTup h0 t #[key,p.2]∧knd.is p.1 key=true)
  (fin:∀ h' tk,h'.DictOf knd d more->(∀ b o,b≠it->b≠d->h0.get? b=some o->h'.get? b=some o)->R (.ok (.ret .none)) { s with heap:=h',toks:=tk }) :
  ∀ (m i:Nat) (h1:Heap) (tk:Nat),i+m=more.length->h1.IsListIter it l i->h1.DictOf knd d (more.take i)->(∀ b o,b≠it->b≠d->h0.get? b=some o->h1.get? b=some o) →
   codeAny (model prog w) A (.builtin "dict.update.loop" ⟨[.ref d,.ref it,rawInt i,.none],[]⟩) R { s with heap:=h1,toks:=tk }:=by
 intro m
 induction m with
 | zero =>
  intro i h1 tk hi hit hd fr
  refine codeAny_builtin Zd1 ?_
  show wpAny _ _ (pyNext (.ref it) >>= _) _ _ _
  obtain ⟨o,ho,hc,n,hdt⟩:=id hl
  refine wpAny_bind (wpAny_pyNext_list_end (l:=l) (i:=i) (items:=items) hh hit ⟨o,fr _ _ hli hld ho,hc,n,hdt⟩ (Array.getElem?_eq_none (by omega)) fun h' ex=>?_)
  show wpAny _ _ (Builtin.Dict.addKeywords d [] >>= _) _ _ _
  refine wpAny_bind (wpAny_pure (wpAny_pure ?_))
  have ei:more.take i=more:=List.take_of_length_le (by omega)
  rw [ei] at hd
  exact fin h' tk (hd.extBut ex hdi) fun b o nb1 nb2 q=>ex _ _ nb1 (fr _ _ nb1 nb2 q)
 | succ m ih =>
  intro i h1 tk hi hit hd fr
  have il:i<more.length:=by omega
  obtain ⟨t,key,e1,td,ti,⟨ot,hot,hct,nt,hdt⟩,hk⟩:=prs i more[i] (List.getElem?_eq_getElem il)
  refine codeAny_builtin Zd1 ?_
  show wpAny _ _ (pyNext (.ref it) >>= _) _ _ _
  obtain ⟨o,ho,hc,n,hdl⟩:=id hl
  refine wpAny_bind (wpAny_pyNext_list_item (l:=l) (i:=i) (items:=items) hit ⟨o,fr _ _ hli hld ho,hc,n,hdl⟩ e1 fun h2 hit2 sb2=>?_)
  have hot2:h2.get? t=some ot:=(sb2.2 t ti).trans (fr _ _ ti td hot)
  refine wpAny_bind (wpAny_holding (wpAny_bind (wpAny_tryCatch ?_)))
  show wpAny _ _ (Builtin.Dict.pairItems (.ref t)) _ _ _
  unfold Builtin.Dict.pairItems
  refine wpAny_bind (wpAny_typeOf (T:="tuple") ⟨ot,hot2,hct⟩ ?_)
  rw [if_pos (by decide)]
  refine wpAny_bind (wpAny_seqItems hot2 hdt (wpAny_pure ?_))
  show wpAny _ _ (holding [key,more[i].2] (dictSet d key more[i].2)) _ _ _
  have hd2:h2.DictOf knd d (more.take i):=hd.sameBut sb2 hdi
  have kn:more[i].1 ∉ (more.take i).map (·.1):=fun hm=>by
   rw [List.map_take] at hm
   have hl2:i<(more.map (·.1)).length:=by rw [List.length_map]; exact il
   obtain ⟨j,hj,ej⟩:=List.getElem_of_mem hm
   rw [List.length_take] at hj
   rw [List.getElem_take] at ej
   have:=List.pairwise_iff_getElem.mp nd j i (by omega) hl2 (by omega)
   exact this (by rw [ej,List.getElem_map])
  refine wpAny_holding (wpAny_dictSet_pairs (knd:=knd) hk hd2 (fun h3 hd3 sb3=>?_) (by rw [List.length_take]; omega))
  rw [Zl6 kn,← List.take_succ_eq_append_getElem il] at hd3
  refine wpAny_pure ⟨Code.quiet_builtin _ (by decide +kernel),?_⟩
  have:=ih (i+1) h3 (tk+1) (by omega) (?_) hd3 (fun b o nb1 nb2 q=>?_)
  ·exact this
  ·obtain ⟨oi,hoi,hci,hdi2⟩:=hit2
   exact ⟨oi,(sb3.2 it hdi.symm).trans hoi,hci,hdi2⟩
  ·exact (sb3.2 b nb2).trans ((sb2.2 b nb1).trans (fr _ _ nb1 nb2 q))
theorem Zmj {l : Addr} {items : Array Value} {more : List (κ × Value)} {E : Value → Shared → Prop} {Q : Value → Shared → Prop} (hh : A.handled=none)
  (hl:PlainL s.heap l items) (hsz:items.size=more.length) (hz:more.length≤sizeLine) (nd:(more.map (·.1)).Nodup)
  (prs:∀ (i:Nat) (p:κ × Value),more[i]?=some p->∃ t key,items[i]?=some (.ref t)∧IsTup s.heap t #[key,p.2]∧knd.is p.1 key=true)
  (h:∀ h' tk,h'.DictOf knd s.heap.objs.size more->(∀ b o,s.heap.get? b=some o->h'.get? b=some o)->Q (.ref s.heap.objs.size) { s with heap:=h',toks:=tk }) :
  wpAny (model prog w) A (call (.type "dict") [.ref l]) Q E s:=by
 obtain ⟨hp,g,dr,tk,os⟩:=s
 refine callType_codes (Q₁:=fun obj s₁=>obj=.ref hp.objs.size∧s₁=⟨hp.push { cls:=.type "dict",data:=.dict #[] },g,dr,tk,os⟩) F.kt_called_dict (F.kt_typeCall_dict_1 _) F.entry_dict_init (kt_code_dict_new _ ⟨rfl,rfl⟩) ?_
 rintro obj s₁ ⟨rfl,rfl⟩
 have hnew:(hp.push { cls:=.type "dict",data:=.dict #[] }).DictOf knd hp.objs.size []:=Heap.DictOf.new hp
 obtain ⟨ol,nl,hol,hcl,ndl,hdl⟩:=id hl
 refine ⟨hnew.typeIs,F.args_dict_init_2 _ _,?_⟩
 unfold Builtin.«dict.__init__»
 refine wpAny_bind ?_
 unfold Builtin.Dict.selfAndRest
 refine wpAny_bind (wpAny_notOrdered_dict hnew.typeIs ?_)
 show wpAny _ _ (pure (hp.objs.size,[Value.ref l])) _ _ _
 refine wpAny_pure ?_
 show wpAny _ _ (Builtin.Dict.updateFrom "dict.__init__" hp.objs.size (.ref l) [] .none) _ _ _
 unfold Builtin.Dict.updateFrom
 have hol1:(hp.push { cls:=.type "dict",data:=.dict #[] }).get? l=some ol:=Heap.get?_push_of_some _ hol
 refine wpAny_bind (wpAny_typeOf (T:="list") ⟨ol,hol1,hcl⟩ ?_)
 rw [if_pos (by decide)]
 refine wpAny_bind (ZhC (xs:=items) (k:=nl) hol1 hcl hdl ndl hh fun h2 tk2 k2=>?_)
 rw [if_pos (show (none:Option Value).isNone=true from rfl)]
 refine wpAny_bind (wpAny_rule ?_)
 have hol2:=k2 _ _ hol1
 refine wpAny_bind (wpAny_pyIter_list (items:=items) ⟨ol,hol2,hcl,nl,hdl⟩ ?_)
 refine wpAny_pure ⟨Code.quiet_builtin _ (by decide +kernel),?_⟩
 have ld:l<hp.objs.size:=Heap.lt_size hol
 obtain ⟨od,es,ep,hod,rd⟩:=id hnew
 have dlt:hp.objs.size<h2.objs.size:=Heap.lt_size (k2 _ _ hod)
 have old:∀ b o,hp.get? b=some o->h2.get? b=some o:=fun b o q=>k2 _ _ (Heap.get?_push_of_some _ q)
 have lt:∀ b o,hp.get? b=some o->b≠h2.objs.size∧b≠hp.objs.size:=fun b o q=>by
  have:=Heap.lt_size q
  exact ⟨Nat.ne_of_lt (Nat.lt_trans this dlt),Nat.ne_of_lt this⟩
 refine Zma (A:=A.in1) (s:=⟨hp,g,dr,tk,os⟩) (knd:=knd) (d:=hp.objs.size) (it:=h2.objs.size) (l:=l) (items:=items) (more:=more) (h0:=h2) hh (Nat.ne_of_lt dlt) (Nat.ne_of_lt ld) (Nat.ne_of_lt (Nat.lt_trans ld dlt)) ⟨ol,hol2,hcl,nl,hdl⟩ hsz hz nd (fun i p hp'=>?_) (fun h' tk' hd' fr'=>?_) more.length 0 _ tk2 (Nat.zero_add _) ?_ ?_ ?_
 ·obtain ⟨t,key,e1,⟨ot,hot,hct,hdt⟩,hk⟩:=prs i p hp'
  exact ⟨t,key,e1,(lt _ _ hot).2,(lt _ _ hot).1,⟨ot,old _ _ hot,hct,hdt⟩,hk⟩
 ·exact ⟨rfl,h h' tk' hd' fun b o q=>fr' _ _ (lt _ _ q).1 (lt _ _ q).2 (old _ _ q)⟩
 ·exact ⟨_,Heap.get?_push_size _ rfl,rfl,rfl⟩
 ·exact ⟨od,es,ep,Heap.get?_push_of_some _ (k2 _ _ hod),rd⟩
 ·exact fun b o _ _ q=>Heap.get?_push_of_some _ q
end
section
variable {X:Cx}
theorem Zlz {pins:List (Addr × Obj)} {σ:St} {H:Hp} {s:Shared} (I:Inv X pins σ H s):∀ (ps:List (Addr × Str × V)) (its:List Value),(∀ p∈ps,SqT X.K H p.1 [.str p.2.1,p.2.2])->Vals (ps.map fun p=>V.ref p.1) its->∃ more:List (Key × Value),KV (ps.map fun p=>((.inr p.2.1:Key),p.2.2)) more∧more.length=its.length∧∀ (i:Nat) (p:Key × Value),more[i]?=some p->∃ t key,its[i]?=some (.ref t)∧IsTup s.heap t #[key,p.2]∧(Zbi X.prog X.w).is p.1 key=true
 | [],its,_,rv=>by
  cases rv
  exact ⟨[],.nil,rfl,fun i p e=>by simp at e⟩
 | p :: ps,its,ht,rv=>by
  cases rv with
  | cons h t =>
   rename_i u us
   cases (show u=Value.ref p.1 from h)
   obtain ⟨more,k1,k2,k3⟩:=Zlz I ps us (fun q hq=>ht q (List.mem_cons_of_mem _ hq)) t
   obtain ⟨i2,r2,tup,_⟩:=I.tuple (ht p (List.mem_cons_self ..))
   obtain ⟨a,b,rfl,ra,rb⟩:=Zmc r2
   refine ⟨(.inr p.2.1,b) :: more,.cons ⟨rfl,rb⟩ k1,by simp [k2],fun i q e=>?_⟩
   cases i with
   | zero =>
    cases (show (Sum.inr p.2.1,b)=q by simpa using e)
    exact ⟨p.1,a,rfl,tup,Zku (k:=.inr p.2.1) ra⟩
   | succ i=>exact k3 i q (by simpa using e)
theorem Zp9 {kvs:List (Key × V)} {vs:List (Key × Value)} (h:KV kvs vs):vs.map (·.1)=kvs.map (·.1):=by
 induction h with
 | nil=>rfl
 | cons h _ ih=>rw [List.map_cons,List.map_cons,ih,h.1]
theorem Zmk (K:W.Frag) (hc:X.calm=true) (hK:X.K=K:=by rfl):Zdo X (.type "dict") (fun xs H Q=>∃ (l:Addr) (ps:List (Addr × Str × V)),xs=[.ref l]∧SqL K H l (ps.map fun p=>V.ref p.1)∧(∀ p∈ps,SqT K H p.1 [.str p.2.1,p.2.2])∧(ps.map (·.2.1)).Nodup∧∀ D,H D=none->Q (.ref D) (upd H D (.dK (ps.map fun p=>(.inr p.2.1,p.2.2))))):=by
 subst hK
 intro pins s σ H xs us Q I r h
 obtain ⟨l,ps,rfl,hl,ht,nd,q⟩:=h
 obtain ⟨u,rfl,ru⟩:=ZeF r
 cases (show u=Value.ref l from ru)
 obtain ⟨its,rv,pl,hz⟩:=I.list hl
 obtain ⟨more,k1,k2,k3⟩:=Zlz I ps its ht rv
 have kk:=Zp9 k1
 have nd2:(more.map (·.1)).Nodup:=by
  rw [kk,List.map_map]
  have e:(ps.map ((fun x:Key × V=>x.1) ∘ fun p:Addr × Str × V=>((.inr p.2.1:Key),p.2.2)))=(ps.map (·.2.1)).map (Sum.inr:Str->Key):=by rw [List.map_map]; rfl
  rw [e]
  exact List.Pairwise.map _ (fun a b h z=>h (Sum.inr.inj z)) nd
 have lp:its.length=ps.length:=by have:=rv.length; rw [List.length_map] at this; exact this.symm
 refine Zmj (knd:=Zbi X.prog X.w) (I.ok.hd hc) pl (by rw [List.size_toArray]; exact k2.symm) (by rw [k2,lp]; rw [List.length_map] at hz; exact hz) nd2 (fun i p hp=>?_) fun h' tk dd keep=>?_
 ·obtain ⟨t,key,e1,e2,e3⟩:=k3 i p hp
  exact ⟨t,key,by simpa using e1,e2,e3⟩
 ·exact ⟨.ref s.heap.objs.size,_,I.laid (a:=s.heap.objs.size) (o:=.dK (ps.map fun p=>(.inr p.2.1,p.2.2))) keep (Nat.le_refl _) (Zpg (by rw [List.length_map] at hz ⊢; exact hz) (beq_eq_false_iff_ne.mpr (Ne.symm (Nat.ne_of_lt I.big))) k1 dd),rfl,q _ (I.hok.fresh (Nat.le_refl _))⟩
end
end L2
set_option exponentiation.threshold 3000
seal L2.PSs L2.PS L2.PE L2.PT L2.PW L2.PA L2.PG L2.PI L2.PO
namespace K5
open PySem L2
noncomputable def top (i:Nat):Stmt:=PySem.Challenge.pw_heirbook_k05_whole_what_is_refused.main.body.getD i (.Pass ⟨0,0,0,0⟩)
noncomputable abbrev Zfz:Stmt:=top 10
noncomputable abbrev Zhf:Stmt:=top 13
noncomputable abbrev Zin:Stmt:=top 14
noncomputable abbrev ZeI:Stmt:=top 15
noncomputable abbrev Zhj:Stmt:=top 16
noncomputable abbrev Zey:Stmt:=top 17
noncomputable abbrev ZfA:Stmt:=top 19
noncomputable abbrev ZfK:Stmt:=top 20
noncomputable abbrev ZiI:Stmt:=top 21
noncomputable abbrev ZfR:Stmt:=top 22
noncomputable abbrev Ziu:Stmt:=top 23
noncomputable abbrev Zgy:Stmt:=top 24
noncomputable abbrev ZiZ:Stmt:=top 25
noncomputable abbrev Zew:Stmt:=top 28
noncomputable abbrev Zgv:Stmt:=top 32
noncomputable abbrev ZcU:Stmt:=Zb6 (top 33) 0
noncomputable abbrev ZcX:Stmt:=Zb6 (top 33) 8
noncomputable abbrev Zdj:Stmt:=Zb6 (top 33) 11
noncomputable abbrev Zdc:Stmt:=Zb6 (top 33) 12
noncomputable abbrev Zcf:Stmt:=Zb6 (top 33) 4
noncomputable abbrev ZeG:Stmt:=Zb6 (top 33) 3
noncomputable abbrev Zdw:Stmt:=Zb6 (top 33) 2
noncomputable abbrev ZeZ:Stmt:=Zb6 (top 33) 7
noncomputable abbrev Zcp:Stmt:=Zb6 (top 33) 5
noncomputable abbrev ZeE:Stmt:=Zb6 (top 33) 16
noncomputable abbrev ZaY:Stmt:=Zb6 (top 33) 14
noncomputable abbrev ZcY:Stmt:=Zb6 (top 33) 6
noncomputable abbrev ZfB:Stmt:=Zb6 (top 33) 1
noncomputable abbrev Zde:Stmt:=Zb6 (top 33) 9
noncomputable abbrev ZeP:Stmt:=Zb6 (top 33) 15
noncomputable abbrev Zdi:Stmt:=top 35
noncomputable abbrev ZdY:Stmt:=top 36
noncomputable abbrev ZeT:Stmt:=top 37
noncomputable abbrev ZfH:Stmt:=top 38
noncomputable abbrev ZdH:Stmt:=top 39
noncomputable abbrev ZfQ:Stmt:=top 40
noncomputable abbrev ZdN:Stmt:=top 41
noncomputable abbrev Zee:Stmt:=top 42
noncomputable abbrev ZeD:Stmt:=top 43
noncomputable abbrev ZeY:Stmt:=top 44
noncomputable abbrev Zfy:Stmt:=top 45
noncomputable abbrev Zd8:Stmt:=top 46
noncomputable abbrev Zd5:Stmt:=top 47
noncomputable abbrev ZdR:Stmt:=top 48
noncomputable abbrev ZpW:Stmt:=top 49
set_option genInjectivity false
set_option genSizeOf false
structure Tx (K:W.Frag) (w:World) (mg:Str->Option Value) where
 c_Book:Addr
 ZbE:Df K mg "is_whole" Zfz ["thing"]
 ZaM:Df K mg "is_name" Zhf ["thing"]
 ZbB:Df K mg "is_day" Zin ["thing"]
 Zbn:Df K mg "is_amount" ZeI ["thing"]
 ZbZ:Df K mg "is_sort" Zhj ["thing"]
 Zbj:Df K mg "is_parent" Zey ["thing"]
 Zcj:Df K mg "has_form" ZfA ["parts","checks"]
 Zcn:Df K mg "is_entry" ZfK ["thing"]
 Zcu:Df K mg "is_tie" ZiI ["entry"]
 ZbF:Df K mg "named_in" ZfR ["entry"]
 ZdB:Df K mg "day_of" Ziu ["entry"]
 ZbX:Df K mg "as_told" Zgy ["entry"]
 Zcw:Df K mg "key_of" ZiZ ["entry"]
 Zb5:Df K mg "is_letter" Zew ["thing"]
 ZbV:Df K mg "pair_of" Zgv ["one","other"]
 Zbt:Dm K c_Book "__init__" "Book.__init__" ZcU ["self"]
 Zaw:Dm K c_Book "birth_of" "Book.birth_of" ZcX ["self","name"]
 ZbC:Dm K c_Book "sort_of" "Book.sort_of" Zdj ["self","name"]
 ZaK:Dm K c_Book "born_on" "Book.born_on" Zdc ["self","name"]
 ZaP:Dm K c_Book "parent_fits" "Book.parent_fits" Zcf ["self","name","sort","day"]
 Zci:Dm K c_Book "fits" "Book.fits" ZeG ["self","entry"]
 ZbO:Dm K c_Book "refuse" "Book.refuse" Zdw ["self","entry"]
 ZaI:Dm K c_Book "link" "Book.link" ZeZ ["self","letter","begin","end"]
 Zbh:Dm K c_Book "note_birth" "Book.note_birth" Zcp ["self","entry"]
 Zco:Dm K c_Book "step" "Book.step" ZeE ["self","letter","name"]
 a_Book_stands:Addr
 fd_Book_stands:FuncData
 dt_Book_stands:Addr
 F_Book_stands:FunD K "stands" "Book.stands" ZaY a_Book_stands fd_Book_stands (.ref dt_Book_stands)
 b_Book_stands:Binds K fd_Book_stands ["self","one","other","day"] [.none]
 b3_Book_stands:Binds K fd_Book_stands ["self","one","other","day"] []
 Zbr:Dm K c_Book "note_tie" "Book.note_tie" ZcY ["self","entry"]
 ZcO:Dm K c_Book "put" "Book.put" ZfB ["self","entry"]
 ZaU:Dm K c_Book "entries" "Book.entries" Zde ["self"]
 Zcl:Dm K c_Book "gave" "Book.gave" ZeP ["self","giver","taker"]
 ZaV:Df K mg "_law_cell_at" Zdi ["_law_script","_law_k"]
 ZbM:Df K mg "_law_names" ZdY ["_law_cell","_law_many"]
 ZaA:Df K mg "_law_draw" ZeT ["_law_cell","_law_k","_law_many"]
 Zcm:Df K mg "_law_day" ZfH ["_law_cell","_law_place"]
 Za1:Df K mg "_law_parent" ZdH ["_law_way","_law_free","_law_place","_law_sort","_law_pool"]
 Zcr:Df K mg "_law_odd" ZfQ ["_law_cell","_law_name"]
 ZbK:Df K mg "_law_entry" ZdN ["_law_cell","_law_pool"]
 Zbg:Df K mg "_law_named" Zee ["_law_entry_here"]
 Zb3:Df K mg "_law_like" ZeD ["_law_row","_law_entry_here"]
 Zb4:Df K mg "_law_fits" ZeY ["_law_births","_law_entry_here"]
 ZbD:Df K mg "_law_due" Zfy ["_law_kept","_law_entry_here","_law_right"]
 ZbJ:Df K mg "_law_marks" Zd8 ["_law_book","_law_entry_here"]
 Zbe:Df K mg "_law_tried" Zd5 ["_law_book","_law_kept","_law_entry_here","_law_due_here"]
 ZbL:Df K mg "_law_shown" ZdR ["_law_book","_law_kept","_law_entry_here"]
 Zle:Df K mg "law" ZpW ["_law_script"]
 c_HeirError:Addr
 m_HeirError:mg "HeirError"=some (.ref c_HeirError)
 c_NoEntry:Addr
 m_NoEntry:mg "NoEntry"=some (.ref c_NoEntry)
 c_Full:Addr
 m_Full:mg "Full"=some (.ref c_Full)
 c_NoPerson:Addr
 m_NoPerson:mg "NoPerson"=some (.ref c_NoPerson)
 c_Twice:Addr
 m_Twice:mg "Twice"=some (.ref c_Twice)
 c_NoFit:Addr
 m_NoFit:mg "NoFit"=some (.ref c_NoFit)
 c_NoWay:Addr
 m_NoWay:mg "NoWay"=some (.ref c_NoWay)
 x_HeirError:W.excIn K c_HeirError EBm "ValueError.__new__"=true
 e_HeirError:ExcK K c_HeirError
 x_NoEntry:W.excIn K c_NoEntry EBm "ValueError.__new__"=true
 e_NoEntry:ExcK K c_NoEntry
 x_Full:W.excIn K c_Full EBm "ValueError.__new__"=true
 e_Full:ExcK K c_Full
 x_NoPerson:W.excIn K c_NoPerson EBm "ValueError.__new__"=true
 e_NoPerson:ExcK K c_NoPerson
 x_Twice:W.excIn K c_Twice EBm "ValueError.__new__"=true
 e_Twice:ExcK K c_Twice
 x_NoFit:W.excIn K c_NoFit EBm "ValueError.__new__"=true
 e_NoFit:ExcK K c_NoFit
 x_NoWay:W.excIn K c_NoWay EBm "ValueError.__new__"=true
 e_NoWay:ExcK K c_NoWay
 m_Book:mg "Book"=some (.ref c_Book)
 cl_Book:Cls K c_Book
 mk_Book:Mk K c_Book Zbt.a
 na_Book_kept:NoAttr K c_Book "kept"
 na_Book_births:NoAttr K c_Book "births"
 na_Book_links:NoAttr K c_Book "links"
 na_Book_ties:NoAttr K c_Book "ties"
 na_Book_sums:NoAttr K c_Book "sums"
 me_Book_stands:Meth K c_Book "stands" a_Book_stands
 n_abs:mg "abs"=none
 n_all:mg "all"=none
 n_bool:mg "bool"=none
 n_dict:mg "dict"=none
 n_int:mg "int"=none
 n_isinstance:mg "isinstance"=none
 n_len:mg "len"=none
 n_list:mg "list"=none
 n_max:mg "max"=none
 n_min:mg "min"=none
 n_range:mg "range"=none
 n_sorted:mg "sorted"=none
 n_str:mg "str"=none
 n_tuple:mg "tuple"=none
 n_zip:mg "zip"=none
 k_int_int:W.kitOne K (.type "int") (.type "int")=some true
 k_int_str:W.kitOne K (.type "int") (.type "str")=some false
 k_int_tuple:W.kitOne K (.type "int") (.type "tuple")=some false
 k_int_bool:W.kitOne K (.type "int") (.type "bool")=some false
 k_str_int:W.kitOne K (.type "str") (.type "int")=some false
 k_str_str:W.kitOne K (.type "str") (.type "str")=some true
 k_str_tuple:W.kitOne K (.type "str") (.type "tuple")=some false
 k_bool_int:W.kitOne K (.type "bool") (.type "int")=some true
 k_bool_str:W.kitOne K (.type "bool") (.type "str")=some false
 k_bool_tuple:W.kitOne K (.type "bool") (.type "tuple")=some false
 k_bool_bool:W.kitOne K (.type "bool") (.type "bool")=some true
 k_NoneType_int:W.kitOne K (.type "NoneType") (.type "int")=some false
 k_NoneType_str:W.kitOne K (.type "NoneType") (.type "str")=some false
 k_NoneType_tuple:W.kitOne K (.type "NoneType") (.type "tuple")=some false
 k_tuple_int:W.kitOne K (.type "tuple") (.type "int")=some false
 k_tuple_str:W.kitOne K (.type "tuple") (.type "str")=some false
 k_tuple_tuple:W.kitOne K (.type "tuple") (.type "tuple")=some true
 k_list_int:W.kitOne K (.type "list") (.type "int")=some false
 k_list_str:W.kitOne K (.type "list") (.type "str")=some false
 k_list_tuple:W.kitOne K (.type "list") (.type "tuple")=some false
 k_dict_int:W.kitOne K (.type "dict") (.type "int")=some false
 k_dict_str:W.kitOne K (.type "dict") (.type "str")=some false
 k_dict_tuple:W.kitOne K (.type "dict") (.type "tuple")=some false
 kl_list:W.kitOne K (.type "list") (.type "list")=some true
 kx_NoEntry_NoEntry:W.kitOne K (.ref c_NoEntry) (.ref c_NoEntry)=some true
 kx_NoEntry_Full:W.kitOne K (.ref c_NoEntry) (.ref c_Full)=some false
 kx_NoEntry_NoPerson:W.kitOne K (.ref c_NoEntry) (.ref c_NoPerson)=some false
 kx_NoEntry_Twice:W.kitOne K (.ref c_NoEntry) (.ref c_Twice)=some false
 kx_NoEntry_NoFit:W.kitOne K (.ref c_NoEntry) (.ref c_NoFit)=some false
 kx_Full_NoEntry:W.kitOne K (.ref c_Full) (.ref c_NoEntry)=some false
 kx_Full_Full:W.kitOne K (.ref c_Full) (.ref c_Full)=some true
 kx_Full_NoPerson:W.kitOne K (.ref c_Full) (.ref c_NoPerson)=some false
 kx_Full_Twice:W.kitOne K (.ref c_Full) (.ref c_Twice)=some false
 kx_Full_NoFit:W.kitOne K (.ref c_Full) (.ref c_NoFit)=some false
 kx_NoPerson_NoEntry:W.kitOne K (.ref c_NoPerson) (.ref c_NoEntry)=some false
 kx_NoPerson_Full:W.kitOne K (.ref c_NoPerson) (.ref c_Full)=some false
 kx_NoPerson_NoPerson:W.kitOne K (.ref c_NoPerson) (.ref c_NoPerson)=some true
 kx_NoPerson_Twice:W.kitOne K (.ref c_NoPerson) (.ref c_Twice)=some false
 kx_NoPerson_NoFit:W.kitOne K (.ref c_NoPerson) (.ref c_NoFit)=some false
 kx_Twice_NoEntry:W.kitOne K (.ref c_Twice) (.ref c_NoEntry)=some false
 kx_Twice_Full:W.kitOne K (.ref c_Twice) (.ref c_Full)=some false
 kx_Twice_NoPerson:W.kitOne K (.ref c_Twice) (.ref c_NoPerson)=some false
 kx_Twice_Twice:W.kitOne K (.ref c_Twice) (.ref c_Twice)=some true
 kx_Twice_NoFit:W.kitOne K (.ref c_Twice) (.ref c_NoFit)=some false
 kx_NoFit_NoEntry:W.kitOne K (.ref c_NoFit) (.ref c_NoEntry)=some false
 kx_NoFit_Full:W.kitOne K (.ref c_NoFit) (.ref c_Full)=some false
 kx_NoFit_NoPerson:W.kitOne K (.ref c_NoFit) (.ref c_NoPerson)=some false
 kx_NoFit_Twice:W.kitOne K (.ref c_NoFit) (.ref c_Twice)=some false
 kx_NoFit_NoFit:W.kitOne K (.ref c_NoFit) (.ref c_NoFit)=some true
 mr_NoEntry:W.mroIn K c_NoEntry (.ref c_HeirError)=some true
 mr_Full:W.mroIn K c_Full (.ref c_HeirError)=some true
 mr_NoPerson:W.mroIn K c_NoPerson (.ref c_HeirError)=some true
 mr_Twice:W.mroIn K c_Twice (.ref c_HeirError)=some true
 mr_NoFit:W.mroIn K c_NoFit (.ref c_HeirError)=some true
 aF:Addr
 m_FORMS:mg "FORMS"=some (.ref aF)
 tkL:Tok
 m_LETTERS:mg "LETTERS"=some (.str "abcdefghijklmnopqrstuvwxyz" tkL)
 p0:Addr
 p1:Addr
 p2:Addr
 p3:Addr
 p4:Addr
 p5:Addr
 g0:Addr
 g1:Addr
 g2:Addr
 g3:Addr
 g4:Addr
 g5:Addr
 sF:∀ H,SqT K H aF [.ref p0,.ref p1,.ref p2,.ref p3,.ref p4,.ref p5]
 sp0:∀ H,SqT K H p0 [.str "born",.ref g0]
 sp1:∀ H,SqT K H p1 [.str "taken",.ref g1]
 sp2:∀ H,SqT K H p2 [.str "union",.ref g2]
 sp3:∀ H,SqT K H p3 [.str "parted",.ref g3]
 sp4:∀ H,SqT K H p4 [.str "dead",.ref g4]
 sp5:∀ H,SqT K H p5 [.str "given",.ref g5]
 sg0:∀ H,SqT K H g0 [.ref ZaM.a,.ref ZbZ.a,.ref ZbB.a,.ref Zbj.a,.ref Zbj.a]
 sg1:∀ H,SqT K H g1 [.ref ZaM.a,.ref ZaM.a,.ref ZbB.a]
 sg2:∀ H,SqT K H g2 [.ref ZaM.a,.ref ZaM.a,.ref ZbB.a]
 sg3:∀ H,SqT K H g3 [.ref ZaM.a,.ref ZaM.a,.ref ZbB.a]
 sg4:∀ H,SqT K H g4 [.ref ZaM.a,.ref ZbB.a]
 sg5:∀ H,SqT K H g5 [.ref ZaM.a,.ref ZaM.a,.ref Zbn.a,.ref ZbB.a]
 a_STEP_LETTERS:Addr
 m_STEP_LETTERS:mg "STEP_LETTERS"=some (.ref a_STEP_LETTERS)
 Zes:∀ H,SqT K H a_STEP_LETTERS [.str "F",.str "M",.str "T",.str "f",.str "m",.str "t",.str "S"]
 t_MOST_ENTRIES:Tok
 m_MOST_ENTRIES:mg "MOST_ENTRIES"=some (.int 400 t_MOST_ENTRIES)
 t_MOST_PEOPLE:Tok
 m_MOST_PEOPLE:mg "MOST_PEOPLE"=some (.int 60 t_MOST_PEOPLE)
def Zol (K:W.Frag):Sp:=fun vs H Q _=>∃ (a:Addr) (ns:List Int),vs=[.ref a]∧SqL K H a (ns.map V.int)∧ns.length≤63∧∀ H',Q (.bl true) H'
inductive Vk where
 | int (i:Int) | str (x:Str) | bl | non | tup | lst | dct
noncomputable def Vk.ty:Vk->Value
 | .int _=>.type "int"
 | .str _=>.type "str"
 | .bl=>.type "bool"
 | .non=>.type "NoneType"
 | .tup=>.type "tuple"
 | .lst=>.type "list"
 | .dct=>.type "dict"
noncomputable def Vk.isI:Vk->Bool
 | .int _=>true
 | _=>false
noncomputable def Vk.isB:Vk->Bool
 | .bl=>true
 | _=>false
noncomputable def Vk.isS:Vk->Bool
 | .str _=>true
 | _=>false
noncomputable def Vk.isT:Vk->Bool
 | .tup=>true
 | _=>false
def Vw (K:W.Frag) (H:Hp) (v:V):Vk->Prop
 | .int i=>v=.int i
 | .str x=>v=.str x∧x.length≤100
 | k=>Kd K H v k.ty
section
variable {K:W.Frag} {H H':Hp} {v:V} {t:Vk}
theorem Vw.kd (h:Vw K H v t):Kd K H v t.ty:=by
 cases t with
 | int i=>cases (show v=.int i from h); exact .of (.int i)
 | str x=>cases (show v=.str x from h.1); exact .of (.str x)
 | _=>exact h
theorem Vw.mono (h:Vw K H v t) (e:Same H H'):Vw K H' v t:=by
 cases t with
 | int i=>exact h
 | str x=>exact h
 | _=>exact e.kd h
end
def Vws (K:W.Frag) (H:Hp):List V->List Vk->Prop
 | [],[]=>True
 | x :: xs,t :: ts=>Vw K H x t∧Vws K H xs ts
 | _,_=>False
section
variable {K:W.Frag} {H H':Hp}
theorem Vws.length:∀ {xs:List V} {ts:List Vk},Vws K H xs ts->xs.length=ts.length
 | [],[],_=>rfl
 | x :: xs,t :: ts,h=>by rw [List.length_cons,List.length_cons,Vws.length h.2]
theorem Vws.mono (e:Same H H'):∀ {xs:List V} {ts:List Vk},Vws K H xs ts->Vws K H' xs ts
 | [],[],_=>True.intro
 | x :: xs,t :: ts,h=>⟨h.1.mono e,Vws.mono e h.2⟩
theorem Vws.get:∀ {xs:List V} {ts:List Vk} {i:Nat} {t:Vk},Vws K H xs ts->ts[i]?=some t->∃ x,xs[i]?=some x∧Vw K H x t
 | [],[],_,_,_,e=>by simp at e
 | x :: xs,t :: ts,0,t',h,e=>by
  cases (show some t=some t' by simpa using e)
  exact ⟨x,rfl,h.1⟩
 | x :: xs,t :: ts,i+1,t',h,e=>by
  obtain ⟨y,e1,e2⟩:=Vws.get (i:=i) h.2 (by simpa using e)
  exact ⟨y,by simpa using e1,e2⟩
end
def Tv (K:W.Frag) (H:Hp) (v:V) (ts:List Vk):Prop:=∃ a xs,v=.ref a∧SqT K H a xs∧Vws K H xs ts
theorem Tv.mono {K:W.Frag} {H H':Hp} {v:V} {ts:List Vk} (h:Tv K H v ts) (e:Same H H'):Tv K H' v ts:=by
 obtain ⟨a,xs,rfl,q,r⟩:=h
 exact ⟨a,xs,rfl,e.sqt q,r.mono e⟩
noncomputable abbrev ZgN:Str:="abcdefghijklmnopqrstuvwxyz"
noncomputable def inL (c:Nat):Bool:=!(Builtin.Str.occurrences ZgN ⟨#[c]⟩ 0 ZgN.length 1).isEmpty
noncomputable def Ze7:Vk->Bool
 | .str x=>decide (1≤x.length)&&decide (x.length≤8)&&x.cps.toList.all inL
 | _=>false
noncomputable def Zp2:Vk->Bool
 | .int i=>decide ((if i<0 then -i else i)≤10 ^ 18)
 | _=>false
noncomputable def Zgj:Vk->Bool
 | .int i=>decide (1≤i)&&decide (i≤10 ^ 18)
 | _=>false
noncomputable def Zie:Vk->Bool
 | .str x=>decide (x="he")||decide (x="she")||decide (x="")
 | _=>false
noncomputable def Zfl (t:Vk):Bool:=Ze7 t||match t with
 | .str x=>decide (x="")
 | _=>false
inductive Chk where
 | name | sort | day | amount | parent
noncomputable def chk:Chk->Vk->Bool
 | .name=>Ze7
 | .sort=>Zie
 | .day=>Zp2
 | .amount=>Zgj
 | .parent=>Zfl
noncomputable def ZhJ:List (Str × List Chk):=[("born",[.name,.sort,.day,.parent,.parent]),("taken",[.name,.name,.day]),("union",[.name,.name,.day]),("parted",[.name,.name,.day]),("dead",[.name,.day]),("given",[.name,.name,.amount,.day])]
noncomputable def ZcB (w:Str):Option (List Chk):=(ZhJ.find? fun p=>decide (w=p.1)).map (·.2)
noncomputable def ZcL:List Chk->List Vk->List Bool
 | c :: cs,t :: ts=>chk c t :: ZcL cs ts
 | _,_=>[]
noncomputable def ZbN (cs:List Chk) (ts:List Vk):Bool:=decide (ts.length=cs.length)&&(ZcL cs ts).all id
noncomputable def ZcG:List Vk->Bool
 | .str w :: ts=>((ZcB w).map fun cs=>ZbN cs ts).getD false
 | _=>false
theorem Zbz (w:Str) (ts:List Vk):ZcG (.str w :: ts)=((ZcB w).map fun cs=>ZbN cs ts).getD false:=rfl
structure Nm (x:Str):Prop where
 lo:1≤x.length
 hi:x.length≤8
 all:x.cps.toList.all inL=true
theorem Nm.ok {x:Str} (h:Nm x):Ze7 (.str x)=true:=by
 show (decide (1≤x.length)&&decide (x.length≤8)&&x.cps.toList.all inL)=true
 rw [decide_eq_true h.lo,decide_eq_true h.hi,h.all]
 rfl
def Bad (K:W.Frag) (H:Hp) (u:V):Prop:=(∃ t,Vw K H u t∧t.isT=false)∨∃ ts,Tv K H u ts∧ts.length≤10∧ZcG ts=false
section
variable {K:W.Frag} {mg:Str->Option Value}
noncomputable def Tx.ad (T:Tx K w mg):Chk->Addr
 | .name=>T.ZaM.a
 | .sort=>T.ZbZ.a
 | .day=>T.ZbB.a
 | .amount=>T.Zbn.a
 | .parent=>T.Zbj.a
theorem kI (T:Tx K w mg):∀ t:Vk,W.kitOne K t.ty (.type "int")=some (t.isI||t.isB)
 | .int _=>T.k_int_int
 | .str _=>T.k_str_int
 | .bl=>T.k_bool_int
 | .non=>T.k_NoneType_int
 | .tup=>T.k_tuple_int
 | .lst=>T.k_list_int
 | .dct=>T.k_dict_int
theorem kS (T:Tx K w mg):∀ t:Vk,W.kitOne K t.ty (.type "str")=some t.isS
 | .int _=>T.k_int_str
 | .str _=>T.k_str_str
 | .bl=>T.k_bool_str
 | .non=>T.k_NoneType_str
 | .tup=>T.k_tuple_str
 | .lst=>T.k_list_str
 | .dct=>T.k_dict_str
theorem kT (T:Tx K w mg):∀ t:Vk,W.kitOne K t.ty (.type "tuple")=some t.isT
 | .int _=>T.k_int_tuple
 | .str _=>T.k_str_tuple
 | .bl=>T.k_bool_tuple
 | .non=>T.k_NoneType_tuple
 | .tup=>T.k_tuple_tuple
 | .lst=>T.k_list_tuple
 | .dct=>T.k_dict_tuple
end
theorem Zm4 {X : Cx} {N : List Str} {sc : Scope} {L : List (Str × NameKind)} {ns : St} (hk : sc.kind=.function) (hn : ∀ x ∈ sc.names, x.2=.local → sc.names.lookup x.1=some .local) (hc : ∀ y ∈ sc.names, y.2 ≠ .cell)
  (clos:closureFor sc X.env=pure []) (e:(relabel sc X.env).names=L) (hL:∀ y∈L,y.2≠.cell∧y.2≠.free) (hl:ns.length=N.length) (hs:∀ o∈ns,o=none):CompSc X N sc [] (fun _=>ns):=by
 have no:∀ (x:Str),¬ ((relabel sc X.env).names.lookup x=some .cell∨(relabel sc X.env).names.lookup x=some .free):=fun x h=>by
  rw [e] at h
  have lk:∀ (M:List (Str × NameKind)) (k:NameKind),M.lookup x=some k->∃ y∈M,y.2=k:=fun M k=>by
   induction M with
   | nil=>intro h; cases h
   | cons p r ih =>
    intro h
    rw [List.lookup_cons] at h
    split at h
    ·exact ⟨p,List.mem_cons_self ..,Option.some.inj h⟩
    ·obtain ⟨y,hy,q⟩:=ih h
     exact ⟨y,List.mem_cons_of_mem _ hy,q⟩
  rcases h with h | h
  ·obtain ⟨y,hy,q⟩:=lk _ _ h
   exact (hL y hy).1 q
  ·obtain ⟨y,hy,q⟩:=lk _ _ h
   exact (hL y hy).2 q
 refine ⟨hk,hn,hc,clos,(fun x c (h:([]:List (Str × Addr)).lookup x=some c)=>by cases h),fun x h=>absurd h (no x),fun _=>hl,fun σ i x v e1 e2=>?_⟩
 have:=hs _ (List.mem_of_getElem? e2)
 cases this
theorem nd1:(["sign"]:List Str).Nodup:=by decide +kernel
theorem nd2:(["check","part"]:List Str).Nodup:=by decide +kernel
theorem ZpL (z:Str):inV (.str z) [.str "he",.str "she",.str ""]=Zie (.str z):=by
 unfold inV Zie
 rw [Bool.eq_iff_iff]
 simp only [List.any_cons,List.any_nil,eqV,Bool.or_false,Bool.or_eq_true,beq_iff_eq,decide_eq_true_eq]
 constructor
 ·rintro (h | h | h)
  ·exact .inl (.inl h.symm)
  ·exact .inl (.inr h.symm)
  ·exact .inr h.symm
 ·rintro ((h | h) | h)
  ·exact .inl h.symm
  ·exact .inr (.inl h.symm)
  ·exact .inr (.inr h.symm)
theorem ZfT (x:Str):Ze7 (.str x)=(decide (1≤x.length)&&decide (x.length≤8)&&x.cps.toList.all inL):=rfl
theorem Zkm (i:Int):Zgj (.int i)=(decide (1≤i)&&decide (i≤10 ^ 18)):=rfl
theorem Zly:∀ {cs:List Chk} {ts:List Vk},ts.length=cs.length->(ZcL cs ts).length=cs.length
 | [],[],_=>rfl
 | c :: cs,t :: ts,h=>by
  show (ZcL cs ts).length+1=cs.length+1
  rw [Zly (by simpa using h)]
theorem Zok:∀ {cs:List Chk} {ts:List Vk} {i:Nat} {y:V},ts.length=cs.length->((ZcL cs ts).map V.bl)[i]?=some y->∃ c t,cs[i]?=some c∧ts[i]?=some t∧y=.bl (chk c t):=by
 intro cs
 induction cs with
 | nil =>
  intro ts i y h e
  cases ts with
  | nil=>simp [ZcL] at e
  | cons t ts=>simp at h
 | cons c cs ih =>
  intro ts i y h e
  cases ts with
  | nil=>simp at h
  | cons t ts =>
   cases i with
   | zero=>exact ⟨c,t,rfl,rfl,by simpa [ZcL] using e.symm⟩
   | succ i =>
    obtain ⟨c',t',e1,e2,e3⟩:=ih (ts:=ts) (i:=i) (y:=y) (by simpa using h) (by simpa [ZcL] using e)
    exact ⟨c',t',by simpa using e1,by simpa using e2,e3⟩
theorem Zmx {α:Type} {f:α->Bool}:∀ {l:List α} {i:Nat} {p:α},l[i]?=some p->(∀ j,j<i->∀ p',l[j]?=some p'->f p'=false)->f p=true->l.find? f=some p
 | x :: l,0,p,e,_,h=>by
  have e':x=p:=by simpa using e
  subst e'
  rw [List.find?_cons,h]
 | x :: l,i+1,p,e,b,h=>by
  rw [List.find?_cons,b 0 (by omega) x rfl]
  exact Zmx (l:=l) (i:=i) (by simpa using e) (fun j hj p' e'=>b (j+1) (by omega) p' (by simpa using e')) h
theorem Znp {w:Str} {i:Nat} {p:Str × List Chk} (e:ZhJ[i]?=some p) (b:∀ j,j<i->∀ p',ZhJ[j]?=some p'->w≠p'.1) (h:w=p.1):ZcB w=some p.2:=by
 unfold ZcB
 rw [Zmx e (fun j hj p' e'=>decide_eq_false (b j hj p' e')) (decide_eq_true h)]
 rfl
theorem ZkO {w:Str} (b:∀ j,j<6->∀ p',ZhJ[j]?=some p'->w≠p'.1):ZcB w=none:=by
 unfold ZcB
 rw [List.find?_eq_none.mpr]
 ·rfl
 ·intro p hp
  obtain ⟨j,hj,e⟩:=List.getElem_of_mem hp
  have:=b j hj p (by rw [← e]; exact List.getElem?_eq_getElem hj)
  simpa using this
theorem ZmD:∀ p∈ZhJ,p.2.length≤10:=by decide +kernel
theorem ZpY {K : W.Frag} {mg : Str → Option Value} (T : Tx K w mg) {i : Nat} {p : Str × List Chk} (e : ZhJ[i]?=some p) :
  ∃ P G,[V.ref T.p0,.ref T.p1,.ref T.p2,.ref T.p3,.ref T.p4,.ref T.p5][i]?=some (.ref P)∧(∀ H,SqT K H P [.str p.1,.ref G])∧∀ H,SqT K H G (p.2.map fun c=>.ref (T.ad c)):=by
 match i,e with
 | 0,e=>cases e; exact ⟨_,_,rfl,T.sp0,T.sg0⟩
 | 1,e=>cases e; exact ⟨_,_,rfl,T.sp1,T.sg1⟩
 | 2,e=>cases e; exact ⟨_,_,rfl,T.sp2,T.sg2⟩
 | 3,e=>cases e; exact ⟨_,_,rfl,T.sp3,T.sg3⟩
 | 4,e=>cases e; exact ⟨_,_,rfl,T.sp4,T.sg4⟩
 | 5,e=>cases e; exact ⟨_,_,rfl,T.sp5,T.sg5⟩
 | n+6,e=>cases e
theorem Zon (x:V) (xs:List V):ZhA (x :: xs) (some 1) none=xs:=by
 unfold ZhA
 have e:HT.sIx (x :: xs).length 0 (some 1)=1:=by
  show HT.sIx (x :: xs).length 0 (some ((1:Nat):Int))=1
  rw [HT.sIx_nat,List.length_cons]
  omega
 rw [e]
 show (xs.take ((x :: xs).length-1))=xs
 simp
theorem few {n:Nat} (h:Nat.ble n 1000=true):n≤sizeLine:=Nat.le_of_lt (Zam (Nat.le_of_ble_eq_true h))
theorem ZaR {b:Bool} {A B:Prop} (e:b=true) (h:A):if b=true then A else B:=by rw [if_pos e]; exact h
theorem Zau {b:Bool} {A B:Prop} (e:b=false) (h:B):if b=true then A else B:=by rw [if_neg (by rw [e]; decide)]; exact h
theorem Zhz {b:Bool} {A B:Prop} (h1:b=true->A) (h2:b=false->B):if b=true then A else B:=by
 cases b with
 | true=>exact ZcF (h1 rfl)
 | false=>exact Zb2 (h2 rfl)
theorem Zrp:ZcB "born"=some [.name,.sort,.day,.parent,.parent]:=by rfl
theorem ZpP:ZcB "union"=some [.name,.name,.day]:=by rfl
theorem Zpm:ZcB "dead"=some [.name,.day]:=by rfl
theorem Zpx:ZcB "given"=some [.name,.name,.amount,.day]:=by rfl
theorem ZjQ {x y:Int} (h:decide (V.int x=V.int y)=true):x=y:=V.int.inj (of_decide_eq_true h)
theorem Zjp {x y:Int} (h:decide (V.int x=V.int y)=false):x≠y:=fun e=>of_decide_eq_false h (by rw [e])
theorem Zn1 {w:Str} {cs:List Chk} {ts:List Vk} (hf:ZcB w=some cs) (hl:ts.length≠cs.length):ZcG (.str w :: ts)=false:=by
 rw [Zbz,hf]
 show ZbN cs ts=false
 unfold ZbN
 rw [decide_eq_false hl,Bool.false_and]
theorem Zli:∀ {cs:List Chk} {ts:List Vk} {j:Nat} {k:Chk} {t:Vk},cs[j]?=some k->ts[j]?=some t->chk k t=false->(ZcL cs ts).all id=false
 | [],_,_,_,_,e,_,_=>by simp at e
 | _ :: _,[],_,_,_,_,e,_=>by simp at e
 | c :: cs,t :: ts,0,k,t',e1,e2,h=>by
  cases (show c=k by simpa using e1)
  cases (show t=t' by simpa using e2)
  show (chk c t&&(ZcL cs ts).all id)=false
  rw [h,Bool.false_and]
 | c :: cs,t :: ts,j+1,k,t',e1,e2,h=>by
  show (chk c t&&(ZcL cs ts).all id)=false
  rw [Zli (j:=j) (by simpa using e1) (by simpa using e2) h,Bool.and_false]
theorem ZmL {w:Str} {cs:List Chk} {ts:List Vk} {j:Nat} {k:Chk} {t:Vk} (hf:ZcB w=some cs) (e1:cs[j]?=some k) (e2:ts[j]?=some t) (h:chk k t=false):ZcG (.str w :: ts)=false:=by
 rw [Zbz,hf]
 show ZbN cs ts=false
 unfold ZbN
 rw [Zli e1 e2 h,Bool.and_false]
section
variable {K:W.Frag} {H:Hp} {xs ys:List V} {ts:List Vk} {a b:Addr} {Q:VK}
theorem Zh1 {lo hi:Option Int} (ha:SqT K H a xs) (hn:¬ (HT.sIx xs.length 0 lo=0∧HT.sIx xs.length xs.length hi=xs.length)) (h:∀ H' p,Same H H'->SqT K H' p (ZhA xs lo hi)->Q (.ref p) H'):Zsg K (.ref a) lo hi H Q :=
 ⟨a,xs,rfl,ha,hn,fun p np=>h _ p (Zac np) (.of Zab)⟩
end
theorem Zr7 {xs:List V} {i:Int} {x:V} (h0:0≤i) (e:xs[i.toNat]?=some x):atI xs i=some x:=by
 have:=Zct e
 rwa [Int.toNat_of_nonneg h0] at this
theorem Zbm {x y:Str}:decide (V.str x=V.str y)=decide (x=y):=by
 rw [Bool.eq_iff_iff]
 simp
inductive Ent where
 | born (n s:Str) (d:Int) (f m:Str)
 | taken (c t:Str) (d:Int)
 | union (a b:Str) (d:Int)
 | parted (a b:Str) (d:Int)
 | dead (n:Str) (d:Int)
 | given (g t:Str) (a d:Int)
noncomputable def Ent.row:Ent->List Key
 | .born n s d f m=>[.inr "born",.inr n,.inr s,.inl d,.inr f,.inr m]
 | .taken c t d=>[.inr "taken",.inr c,.inr t,.inl d]
 | .union a b d=>[.inr "union",.inr a,.inr b,.inl d]
 | .parted a b d=>[.inr "parted",.inr a,.inr b,.inl d]
 | .dead n d=>[.inr "dead",.inr n,.inl d]
 | .given g t a d=>[.inr "given",.inr g,.inr t,.inl a,.inl d]
noncomputable def Ent.tie:Ent->Bool
 | .union ..=>true
 | .parted ..=>true
 | _=>false
noncomputable def Ent.named:Ent->List Str
 | .born _ _ _ f m=>[f,m].filter fun x:Str=>decide (x≠"")
 | .taken c t _=>[c,t]
 | .union a b _=>[a,b]
 | .parted a b _=>[a,b]
 | .dead n _=>[n]
 | .given g t _ _=>[g,t]
noncomputable def Ent.day:Ent->Int
 | .born _ _ d _ _=>d
 | .taken _ _ d=>d
 | .union _ _ d=>d
 | .parted _ _ d=>d
 | .dead _ d=>d
 | .given _ _ _ d=>d
def EntAt (K:W.Frag) (H:Hp) (v:V) (e:Ent):Prop:=∃ a,v=.ref a∧SqT K H a (e.row.map kV)
theorem EntAt.mono {K:W.Frag} {H H':Hp} {v:V} {e:Ent} (h:EntAt K H v e) (s:Same H H'):EntAt K H' v e:=by
 obtain ⟨a,rfl,q⟩:=h
 exact ⟨a,rfl,s.sqt q⟩
theorem Zae {r:List V} {j:Nat} {x:V} (h:r[j]?=some x):atI r (j:Int)=some x:=Zct h
noncomputable def Zoa (x:Str):Option V:=if x="" then none else some (.str x)
theorem ZiL:∀ l:List Str,(l.map Zoa).filterMap id=(l.filter fun x:Str=>decide (x≠"")).map V.str
 | []=>rfl
 | x :: r=>by
  have ih:=ZiL r
  by_cases h:x=""
  ·subst h
   simp only [List.map_cons,List.filterMap_cons,List.filter_cons]
   simpa [Zoa] using ih
  ·simp only [List.map_cons,List.filterMap_cons,List.filter_cons]
   simpa [Zoa,h] using ih
theorem ZcE {H H1:Hp} {D:Addr} (s:Same H H1) (n:H1 D=none):H D=none:=by
 cases e:H D with
 | none=>rfl
 | some o=>rw [s D o e] at n; cases n
noncomputable def Ent.key:Ent->List Key
 | .born n _ _ _ _=>[.inr "born",.inr n]
 | .taken c t _=>[.inr "taken",.inr c,.inr t]
 | .union a b d=>[.inr "tie",.inr a,.inr b,.inl d]
 | .parted a b d=>[.inr "tie",.inr a,.inr b,.inl d]
 | .dead n _=>[.inr "dead",.inr n]
 | .given g t _ d=>[.inr "given",.inr g,.inr t,.inl d]
noncomputable def Ent.bornName:Ent->Option Str
 | .born n _ _ _ _=>some n
 | _=>none
structure Bk where
 kept:List (Ent × Addr)
 links:List ((Str × Str) × Addr × List Str)
 ties:List ((Str × Str) × Addr × List (Int × Str))
 sums:List ((Str × Str) × Int)
noncomputable def two (p:Str × Str):List Key:=[.inr p.1,.inr p.2]
noncomputable def Bk.keptD (B:Bk):List (List Key × V):=B.kept.map fun p=>(p.1.key,.ref p.2)
noncomputable def Bk.bornD (l:List (Ent × Addr)):List (Key × V):=l.filterMap fun p=>p.1.bornName.map fun n=>(.inr n,.ref p.2)
noncomputable def Bk.linksD (B:Bk):List (List Key × V):=B.links.map fun q=>(two q.1,.ref q.2.1)
noncomputable def Bk.tiesD (B:Bk):List (List Key × V):=B.ties.map fun q=>(two q.1,.ref q.2.1)
noncomputable def Bk.sumsD (B:Bk):List (List Key × V):=B.sums.map fun q=>(two q.1,.int q.2)
noncomputable def bkF (k bi li ti su:Addr):List (Str × V):=[("kept",.ref k),("births",.ref bi),("links",.ref li),("ties",.ref ti),("sums",.ref su)]
structure BkAt (K:W.Frag) (C:Addr) (H:Hp) (b dx k bi li ti su:Addr) (B:Bk):Prop where
 ob:H b=some (.ins C dx (bkF k bi li ti su))
 ap:[k,li,ti,su].Nodup
 at':(bi :: B.ties.map (·.2.1)).Nodup
 ke:H k=some (.dT B.keptD)
 bi:H bi=some (.dK (Bk.bornD B.kept))
 li:H li=some (.dT B.linksD)
 ti:H ti=some (.dT B.tiesD)
 su:H su=some (.dT B.sumsD)
 en:∀ p∈B.kept,SqT K H p.2 (p.1.row.map kV)
 ll:∀ q∈B.links,H q.2.1=some (.lst (q.2.2.map V.str))
 tt:∀ q∈B.ties,H q.2.1=some (.dK (q.2.2.map fun r=>(.inl r.1,.str r.2)))
theorem BkAt.mono {K:W.Frag} {C:Addr} {H H':Hp} {b dx k bi li ti su:Addr} {B:Bk} (h:BkAt K C H b dx k bi li ti su B) (s:Same H H'):BkAt K C H' b dx k bi li ti su B :=
 ⟨s _ _ h.ob,h.ap,h.at',s _ _ h.ke,s _ _ h.bi,s _ _ h.li,s _ _ h.ti,s _ _ h.su,fun p hp=>s.sqt (h.en p hp),fun q hq=>s _ _ (h.ll q hq),fun q hq=>s _ _ (h.tt q hq)⟩
def BkHas (K:W.Frag) (C:Addr) (H:Hp) (v:V) (B:Bk):Prop:=∃ b dx k bi li ti su,v=.ref b∧BkAt K C H b dx k bi li ti su B
theorem BkHas.mono {K:W.Frag} {C:Addr} {H H':Hp} {v:V} {B:Bk} (h:BkHas K C H v B) (s:Same H H'):BkHas K C H' v B:=by
 obtain ⟨b,dx,k,bi,li,ti,su,e,h⟩:=h
 exact ⟨b,dx,k,bi,li,ti,su,e,h.mono s⟩
noncomputable def ZaD (n:Str):List (Ent × Addr)->Option (Ent × Addr)
 | []=>none
 | p :: r=>if p.1.bornName=some n then some p else ZaD n r
theorem Zc2 {n:Str}:∀ {l:List (Ent × Addr)} {p:Ent × Addr},ZaD n l=some p->p∈l∧p.1.bornName=some n
 | [],_,h=>by cases h
 | q :: r,p,h=>by
  unfold ZaD at h
  split at h
  ·cases h
   exact ⟨List.mem_cons_self ..,by assumption⟩
  ·obtain ⟨h1,h2⟩:=Zc2 h
   exact ⟨List.mem_cons_of_mem _ h1,h2⟩
theorem Ze9 (n:Str):∀ l:List (Ent × Addr),ZcP (Bk.bornD l) (.inr n:Key)=(ZaD n l).map fun p=>.ref p.2
 | []=>rfl
 | p :: r=>by
  have ih:=Ze9 n r
  unfold Bk.bornD ZaD
  rw [List.filterMap_cons]
  cases h:p.1.bornName with
  | none =>
   simp only [Option.map_none]
   rw [if_neg (by simp)]
   exact ih
  | some x =>
   simp only [Option.map_some]
   by_cases e:x=n
   ·subst e
    rw [Zce rfl,if_pos rfl]
    rfl
   ·rw [Zb9 (fun q=>e (Sum.inr.inj q)),if_neg (fun q=>e (Option.some.inj q))]
    exact ih
theorem ZiO {k bi li ti su:Addr}:(bkF k bi li ti su).lookup ("kept" : Str)=some (.ref k):=rfl
theorem Ze3 {k bi li ti su:Addr}:(bkF k bi li ti su).lookup ("births" : Str)=some (.ref bi):=rfl
theorem Zgq {k bi li ti su:Addr}:(bkF k bi li ti su).lookup ("links" : Str)=some (.ref li):=rfl
theorem ZmH {k bi li ti su:Addr}:(bkF k bi li ti su).lookup ("ties" : Str)=some (.ref ti):=rfl
theorem Zk6 {k bi li ti su:Addr}:(bkF k bi li ti su).lookup ("sums" : Str)=some (.ref su):=rfl
noncomputable def ZgR (B:Bk) (n:Str):Option (Str × Int):=match ZaD n B.kept with
 | some (.born _ s d _ _,_)=>some (s,d)
 | _=>none
noncomputable def Zj2 (B:Bk) (n:Str):Str:=((ZgR B n).map (·.1)).getD ""
noncomputable def Zc9 (B:Bk) (n:Str):Int:=((ZgR B n).map (·.2)).getD 0
theorem ZlD {B:Bk} {n n' s f m:Str} {d:Int} {p:Ent × Addr} (h:ZaD n B.kept=some p) (e:p.1=.born n' s d f m):Zj2 B n=s:=by
 obtain ⟨e',a⟩:=p
 cases e
 unfold Zj2 ZgR
 rw [h]
 rfl
theorem ZgH {B:Bk} {n n' s f m:Str} {d:Int} {p:Ent × Addr} (h:ZaD n B.kept=some p) (e:p.1=.born n' s d f m):Zc9 B n=d:=by
 obtain ⟨e',a⟩:=p
 cases e
 unfold Zc9 ZgR
 rw [h]
 rfl
noncomputable def Zgo (B:Bk) (n s:Str) (d:Int):Bool:=decide (n="")||(decide (Zj2 B n=s)&&decide (Zc9 B n<d))
def Known (B:Bk) (n:Str):Prop:=ZaD n B.kept≠none
noncomputable def Zdy (B:Bk) (e:Ent):Bool:=match e with
 | .born _ _ d f m=>Zgo B f "he" d&&Zgo B m "she" d
 | .taken c t d=>decide (c≠t)&&decide (Zc9 B t<Zc9 B c)&&e.named.all fun n=>decide (Zc9 B n≤d)
 | .dead n d=>decide (Zc9 B n≤d)
 | .union a b d=>decide (a≠b)&&e.named.all fun n=>decide (Zc9 B n≤d)
 | .parted a b d=>decide (a≠b)&&e.named.all fun n=>decide (Zc9 B n≤d)
 | .given a b _ d=>decide (a≠b)&&e.named.all fun n=>decide (Zc9 B n≤d)
theorem Zch {a b:TS} {D:Ends} {σ:St} {H:Hp} (J:St->Hp->Prop) (h1:∀ nx,(∀ σ H,J σ H->nx σ H)->a { D with nx:=nx } σ H) (h2:∀ σ H,J σ H->b D σ H):ZrM a b D σ H:=h1 (b D) h2
noncomputable def Ent.isBorn:Ent->Bool
 | .born ..=>true
 | _=>false
noncomputable def Ent.same:Ent->Bool
 | .taken c t _=>decide (c=t)
 | .union a b _=>decide (a=b)
 | .parted a b _=>decide (a=b)
 | .given a b _ _=>decide (a=b)
 | _=>false
noncomputable def Ent.early (B:Bk):Ent->Bool
 | .taken c t _=>decide (Zc9 B c≤Zc9 B t)
 | _=>false
theorem Zcy {B:Bk} {e:Ent} (h:e.isBorn=false):Zdy B e=(!e.same&&!e.early B&&e.named.all fun n=>decide (Zc9 B n≤e.day)):=by
 cases e with
 | born=>cases h
 | taken c t d =>
  unfold Zdy Ent.same Ent.early
  have h1:decide (c≠t)=!decide (c=t):=by simp
  have h2:decide (Zc9 B t<Zc9 B c)=!decide (Zc9 B c≤Zc9 B t):=by
   rw [Bool.eq_iff_iff]
   simp
  simp only [h1,h2]
  rfl
 | dead n d =>
  simp [Zdy,Ent.same,Ent.early,Ent.named,Ent.day]
  rfl
 | _ =>
  simp [Zdy,Ent.same,Ent.early,Ent.day]
  rfl
theorem Zp1 {k bi li ti su:Addr}:Zb8 "sums" (.ref su) (Zb8 "ties" (.ref ti) (Zb8 "links" (.ref li) (Zb8 "births" (.ref bi) (Zb8 "kept" (.ref k) []))))=bkF k bi li ti su:=by
 rfl
noncomputable def bk0:Bk:=⟨[],[],[],[]⟩
theorem Zqv {H : Hp} {b dx C p : Addr} {fs : List (Str × V)} (f : Str) (o : HO) (h : H b=some (.ins C dx fs)) (n : H p=none) :
  (upd (upd H p o) b (.ins C dx (Zb8 f (.ref p) fs))) b=some (.ins C dx (Zb8 f (.ref p) fs))∧(upd (upd H p o) b (.ins C dx (Zb8 f (.ref p) fs))) p=some o ∧
  (∀ c u,H c=some u->c≠b->(upd (upd H p o) b (.ins C dx (Zb8 f (.ref p) fs))) c=some u)∧∀ c,(upd (upd H p o) b (.ins C dx (Zb8 f (.ref p) fs))) c=none->H c=none:=by
 have pb:p≠b:=fun e=>by subst e; rw [h] at n; cases n
 refine ⟨Zab,(Zai pb).trans Zab,fun c u e cb=>(Zai cb).trans ((Zai (Zal e n)).trans e),fun c e=>?_⟩
 by_cases cb:c=b
 ·subst cb
  rw [Zab] at e
  cases e
 rw [Zai cb] at e
 by_cases cp:c=p
 ·subst cp
  exact n
 rw [Zai cp] at e
 exact e
noncomputable def Za5 (c:Str × Str):List ((Str × Str) × Addr × List Str)->Option (Addr × List Str)
 | []=>none
 | q :: r=>if q.1=c then some q.2 else Za5 c r
theorem ZdW {a b:Str × Str} (h:two a=two b):a=b:=by
 unfold two at h
 simp at h
 exact Prod.ext h.1 h.2
theorem ZiG (c:Str × Str):∀ l:List ((Str × Str) × Addr × List Str),ZcP (l.map fun q=>(two q.1,V.ref q.2.1)) (two c)=(Za5 c l).map fun q=>.ref q.1
 | []=>rfl
 | q :: r=>by
  have ih:=ZiG c r
  unfold Za5
  rw [List.map_cons]
  by_cases e:q.1=c
  ·subst e
   rw [Zce rfl,if_pos rfl]
   rfl
  ·rw [Zb9 (fun z=>e (ZdW z)),if_neg e]
   exact ih
theorem ZfS {c:Str × Str}:∀ {l:List ((Str × Str) × Addr × List Str)} {x:Addr × List Str},Za5 c l=some x->∃ q∈l,q.2=x
 | [],_,h=>by cases h
 | q :: r,x,h=>by
  unfold Za5 at h
  split at h
  ·cases h
   exact ⟨q,List.mem_cons_self ..,rfl⟩
  ·obtain ⟨z,hz,e⟩:=ZfS h
   exact ⟨z,List.mem_cons_of_mem _ hz,e⟩
noncomputable def ZbR (B:Bk) (l n:Str):List Str:=((Za5 (l,n) B.links).map (·.2)).getD []
noncomputable def Zc8:List Str:=["F","M","T","f","m","t","S"]
noncomputable def ZmR (x:Str):Bool:=decide (x∈Zc8)
theorem ZgY (x:Str):∀ l:List Str,inV (.str x) (l.map V.str)=decide (x∈l):=by
 intro l
 unfold inV
 induction l with
 | nil=>rfl
 | cons y r ih =>
  rw [List.map_cons,List.any_cons,ih]
  by_cases h:x=y
  ·subst h; simp [eqV]
  ·simp [eqV,h,Ne.symm h]
theorem ZbY {a b:Str} (h1:Za3 a b=false) (h2:Za3 b a=false):a=b:=by
 unfold Za3 at h1 h2
 have e:a.cps.toList=b.cps.toList:=by
  have l1:=of_decide_eq_false h1
  have l2:=of_decide_eq_false h2
  exact List.le_antisymm (List.not_lt.mp l2) (List.not_lt.mp l1)
 obtain ⟨a⟩:=a
 obtain ⟨b⟩:=b
 have e2:a=b:=Array.toList_inj.mp e
 rw [e2]
noncomputable def Zaj (a b:Str):Str × Str:=if Za3 b a=true then (b,a) else (a,b)
theorem Zc5 {a b:Str} {zs:List Str} (hp:zs.Perm [a,b]) (hs:PyProof.Rows.sortedS zs=true):zs=[(Zaj a b).1,(Zaj a b).2]:=by
 have hl:=hp.length_eq
 match zs,hl with
 | [x,y],_ =>
  have hs2:Za3 y x=false:=by
   have h3:(!PySem.Spec.ltCps y.cps.toList x.cps.toList&&true)=true:=hs
   rw [PyProof.Rows.ltCps_eq] at h3
   simpa [Za3] using h3
  have hm:x∈[a,b]:=hp.subset (by simp)
  have hp2:(x=a∧y=b)∨(x=b∧y=a):=by
   rcases List.mem_cons.mp hm with rfl | hm
   ·have:=hp.cons_inv
    exact .inl ⟨rfl,by simpa using this⟩
   ·have e:x=b:=by simpa using hm
    subst e
    have h4:[x,y].Perm [x,a]:=hp.trans (List.Perm.swap ..)
    have:=h4.cons_inv
    exact .inr ⟨rfl,by simpa using this⟩
  unfold Zaj
  rcases hp2 with ⟨rfl,rfl⟩ | ⟨rfl,rfl⟩
  ·rw [hs2]; rfl
  ·by_cases h:Za3 x y=true
   ·rw [if_pos h]
   ·rw [if_neg h,ZbY (Bool.eq_false_iff.mpr h) hs2]
noncomputable def Ent.told:Ent->Ent
 | .union a b d=>.union (Zaj a b).1 (Zaj a b).2 d
 | .parted a b d=>.parted (Zaj a b).1 (Zaj a b).2 d
 | e=>e
theorem Zqc (a b:Str):(if Za3 b a=true then b else a)=(Zaj a b).1:=by
 unfold Zaj
 by_cases h:Za3 b a=true
 ·rw [if_pos h,if_pos h]
 ·rw [if_neg h,if_neg h]
theorem Zqg (a b:Str):(if Za3 a b=true then b else a)=(Zaj a b).2:=by
 unfold Zaj
 by_cases h:Za3 b a=true
 ·rw [if_pos h]
  by_cases h2:Za3 a b=true
  ·have l1:b.cps.toList<a.cps.toList:=of_decide_eq_true h
   have l2:a.cps.toList<b.cps.toList:=of_decide_eq_true h2
   exact absurd l1 (List.lt_asymm l2)
  ·rw [if_neg h2]
 ·rw [if_neg h]
  by_cases h2:Za3 a b=true
  ·rw [if_pos h2]
  ·rw [if_neg h2,ZbY (Bool.eq_false_iff.mpr h) (Bool.eq_false_iff.mpr h2)]
noncomputable def ZqT:Key->Vk
 | .inl i=>.int i
 | .inr x=>.str x
theorem Zi0 {K:W.Frag} {H:Hp}:∀ (l:List Key),(∀ x:Str,(.inr x:Key)∈l->x.length≤100)->Vws K H (l.map kV) (l.map ZqT)
 | [],_=>trivial
 | .inl i :: r,h=>⟨rfl,Zi0 r fun x hx=>h x (List.mem_cons_of_mem _ hx)⟩
 | .inr y :: r,h=>⟨⟨rfl,h y (List.mem_cons_self ..)⟩,Zi0 r fun x hx=>h x (List.mem_cons_of_mem _ hx)⟩
structure Ent.Ok (e:Ent):Prop where
 en:ZcG (e.row.map ZqT)=true
 sh:∀ x:Str,(.inr x:Key)∈e.row->x.length≤100
theorem Ent.row_len (e:Ent):(e.row.map ZqT).length≤10:=by
 cases e <;> exact Nat.le_of_ble_eq_true rfl
theorem Ent.Ok.tv {e:Ent} (h:e.Ok) {K:W.Frag} {H:Hp} {a:Addr} (hE:SqT K H a (e.row.map kV)):Tv K H (.ref a) (e.row.map ZqT):=⟨a,_,rfl,hE,Zi0 _ h.sh⟩
inductive Rf where
 | full | person | twice | fit
noncomputable def Bk.full (B:Bk) (e:Ent):Bool:=decide (400≤B.kept.length)||(e.isBorn&&decide (60≤(Bk.bornD B.kept).length))
noncomputable def ZdM (B:Bk) (e:Ent):Option Rf :=
 if B.full e=true then some .full
 else if (e.named.all fun n=>(ZaD n B.kept).isSome)=false then some .person
 else if (ZcP B.keptD e.told.key).isSome=true then some .twice
 else if Zdy B e=true then none else some .fit
theorem ZjH {B:Bk} {e:Ent} (h:B.full e=true):ZdM B e=some .full:=if_pos h
theorem Zhd {B:Bk} {e:Ent} (h:B.full e=false) {n:Str} (hn:n∈e.named) (no:ZaD n B.kept=none):ZdM B e=some .person:=by
 unfold ZdM
 rw [h,if_neg (by decide),if_pos]
 rw [List.all_eq_false]
 exact ⟨n,hn,by rw [no]; decide⟩
theorem Zfr {B:Bk} {e:Ent} (kn:∀ n∈e.named,Known B n):(e.named.all fun n=>(ZaD n B.kept).isSome)=true:=by
 rw [List.all_eq_true]
 intro n hn
 have:=kn n hn
 unfold Known at this
 exact Option.isSome_iff_ne_none.mpr this
theorem Zh0 {B:Bk} {e:Ent} (h:B.full e=false) (kn:∀ n∈e.named,Known B n) (t:(ZcP B.keptD e.told.key).isSome=true):ZdM B e=some .twice:=by
 unfold ZdM
 rw [h,if_neg (by decide),Zfr kn,if_neg (by decide),if_pos t]
theorem ZlH {B:Bk} {e:Ent} (h:B.full e=false) (kn:∀ n∈e.named,Known B n) (t:(ZcP B.keptD e.told.key).isSome=false) (f:Zdy B e=false):ZdM B e=some .fit:=by
 unfold ZdM
 rw [h,if_neg (by decide),Zfr kn,if_neg (by decide),t,if_neg (by decide),f,if_neg (by decide)]
theorem ZjV {B:Bk} {e:Ent} (h:B.full e=false) (kn:∀ n∈e.named,Known B n) (t:(ZcP B.keptD e.told.key).isSome=false) (f:Zdy B e=true):ZdM B e=none:=by
 unfold ZdM
 rw [h,if_neg (by decide),Zfr kn,if_neg (by decide),t,if_neg (by decide),f,if_pos rfl]
theorem Zhs {a b c:Str} (h1:Za3 a b=true) (h2:Za3 b c=true):Za3 a c=true:=by
 unfold Za3 at *
 exact decide_eq_true (List.lt_trans (of_decide_eq_true h1) (of_decide_eq_true h2))
theorem Zl5 (a:Str):Za3 a a=false:=by
 unfold Za3
 exact decide_eq_false (List.lt_irrefl _)
noncomputable def Zi7 (a b:Str):Bool:=!Za3 b a
theorem ZhX {a b c:Str} (h1:Zi7 a b=true) (h2:Zi7 b c=true):Zi7 a c=true:=by
 unfold Zi7 at *
 simp only [Bool.not_eq_true'] at *
 cases h:Za3 c a with
 | false=>rfl
 | true =>
  by_cases e:a=b
  ·subst e; rw [h] at h2; cases h2
  ·have hab:Za3 a b=true:=by
    cases h3:Za3 a b with
    | true=>rfl
    | false=>exact absurd (ZbY h3 h1) e
   rw [Zhs h hab] at h2
   cases h2
theorem Zmr (a b:Str):(Zi7 a b||Zi7 b a)=true:=by
 unfold Zi7
 cases h:Za3 b a with
 | false=>rfl
 | true =>
  cases h2:Za3 a b with
  | false=>rfl
  | true=>exact absurd (Zhs h2 h) (by rw [Zl5 a]; decide)
noncomputable def ZaS (l:List Str):List Str:=l.mergeSort Zi7
theorem Zcq (l:List Str):(ZaS l).Perm l:=List.mergeSort_perm ..
theorem Zfn (l:List Str):(ZaS l).Pairwise fun a b=>Zi7 a b=true:=List.pairwise_mergeSort (le:=Zi7) (fun _ _ _=>ZhX) Zmr l
theorem Zfh:∀ {l:List Str},PyProof.Rows.sortedS l=true->l.Pairwise fun a b=>Zi7 a b=true
 | [],_=>.nil
 | [x],_=>.cons (by simp) .nil
 | x :: y :: r,h=>by
  have h':(!PySem.Spec.ltCps y.cps.toList x.cps.toList&&PyProof.Rows.risingS y r)=true:=h
  rw [Bool.and_eq_true] at h'
  obtain ⟨h1,h2⟩:=h'
  have ih:=Zfh (l:=y :: r) h2
  have hxy:Zi7 x y=true:=by
   rw [PyProof.Rows.ltCps_eq] at h1
   exact h1
  refine .cons (fun z hz=>?_) ih
  rcases List.mem_cons.mp hz with rfl | hz
  ·exact hxy
  ·exact ZhX hxy (List.rel_of_pairwise_cons ih hz)
theorem ZiH:∀ {l m:List Str},l.Perm m->(l.Pairwise fun a b=>Zi7 a b=true)->(m.Pairwise fun a b=>Zi7 a b=true)->l=m
 | [],m,p,_,_=>p.nil_eq
 | x :: l,[],p,_,_=>absurd p.length_eq (by simp)
 | x :: l,y :: m,p,h1,h2=>by
  have e:x=y:=by
   by_cases e:x=y
   ·exact e
   have hx:x∈m:=by
    have:x∈y :: m:=p.subset (List.mem_cons_self ..)
    rcases List.mem_cons.mp this with h | h
    ·exact absurd h e
    ·exact h
   have hy:y∈l:=by
    have:y∈x :: l:=p.symm.subset (List.mem_cons_self ..)
    rcases List.mem_cons.mp this with h | h
    ·exact absurd h.symm e
    ·exact h
   have a1:=List.rel_of_pairwise_cons h1 hy
   have a2:=List.rel_of_pairwise_cons h2 hx
   unfold Zi7 at a1 a2
   simp only [Bool.not_eq_true'] at a1 a2
   exact ZbY a2 a1
  subst e
  rw [ZiH p.cons_inv (List.pairwise_cons.mp h1).2 (List.pairwise_cons.mp h2).2]
theorem Zlu {zs l:List Str} (hp:zs.Perm l) (hs:PyProof.Rows.sortedS zs=true):zs=ZaS l:=ZiH (hp.trans (Zcq l).symm) (Zfh hs) (Zfn l)
structure But (S:List Addr) (H H':Hp):Prop where
 eq:∀ a o,a ∉ S->H a=some o->H' a=some o
 al:∀ a,H' a=none->H a=none
theorem But.of {H H':Hp} (S:List Addr) (s:Same H H'):But S H H':=⟨fun a o _ e=>s a o e,fun a n=>ZcE s n⟩
theorem But.trans {S:List Addr} {H H' H'':Hp} (h1:But S H H') (h2:But S H' H''):But S H H'':=⟨fun a o n e=>h2.eq a o n (h1.eq a o n e),fun a n=>h1.al a (h2.al a n)⟩
theorem But.put {S:List Addr} {H:Hp} {a:Addr} {o o':HO} (e:H a=some o) (h:a∈S):But S H (upd H a o'):=by
 refine ⟨fun c u n q=>(Zai (fun z:c=a=>n (by rw [z]; exact h))).trans q,fun c n=>?_⟩
 by_cases z:c=a
 ·subst z; rw [Zab] at n; cases n
 ·rw [Zai z] at n; exact n
noncomputable def Zbc {κ α:Type} [DecidableEq κ] (l:List (κ × α)) (c:κ) (x:α):List (κ × α) :=
 if (l.any fun q=>decide (q.1=c))=true then l.map (fun q=>if q.1=c then (q.1,x) else q) else l++[(c,x)]
theorem Zgr {κ κ' α : Type} [DecidableEq κ] [DecidableEq κ'] {f : κ → κ'} (hf : ∀ a b, f a=f b → a=b) (g : α → V) (l : List (κ × α)) (c : κ) (x : α) :
  Zi8 (l.map fun q=>(f q.1,g q.2)) (f c) (g x)=(Zbc l c x).map fun q=>(f q.1,g q.2):=by
 have hd:∀ a:κ,decide (f a=f c)=decide (a=c):=fun a=>by
  by_cases e:a=c
  ·subst e; simp
  ·rw [decide_eq_false e,decide_eq_false (fun z=>e (hf _ _ z))]
 unfold Zi8 Zbc
 have e1:((l.map fun q=>(f q.1,g q.2)).any fun kv=>decide (kv.1=f c))=l.any fun q=>decide (q.1=c):=by
  rw [List.any_map]
  exact congrArg (fun z=>l.any z) (funext fun q=>hd q.1)
 rw [e1]
 by_cases h:(l.any fun q=>decide (q.1=c))=true
 ·rw [if_pos h,if_pos h,List.map_map,List.map_map]
  refine List.map_congr_left fun q _=>?_
  show (if f q.1=f c then (f q.1,g x) else (f q.1,g q.2))=(fun q=>(f q.1,g q.2)) (if q.1=c then (q.1,x) else q)
  by_cases e:q.1=c
  ·rw [if_pos e,if_pos (by rw [e])]
  ·rw [if_neg e,if_neg (fun z=>e (hf _ _ z))]
 ·rw [if_neg h,if_neg h,List.map_append]
  rfl
theorem Zgs {κ α:Type} [DecidableEq κ] {l:List (κ × α)} {c:κ} {x:α} {q:κ × α} (h:q∈Zbc l c x):q=(c,x)∨q∈l:=by
 unfold Zbc at h
 split at h
 ·obtain ⟨p,hp,e⟩:=List.mem_map.mp h
  split at e
  ·rename_i pc
   subst e
   exact .inl (by rw [pc])
  ·subst e
   exact .inr hp
 ·rcases List.mem_append.mp h with h | h
  ·exact .inr h
  ·exact .inl (by simpa using h)
theorem Zlg {k li ti su:Addr} (h:[k,li,ti,su].Nodup):k≠li∧k≠ti∧k≠su∧li≠ti∧li≠su∧ti≠su:=by
 simp at h
 exact ⟨h.1.1,h.1.2.1,h.1.2.2,h.2.1.1,h.2.1.2,h.2.2⟩
theorem Za8 {H:Hp} {a c:Addr} {o u:HO} (h1:H a=some o) (h2:H c=some u) (n:o≠u):a≠c:=fun e=>by
 subst e
 rw [h1] at h2
 exact n (Option.some.inj h2)
theorem ZaO {K:W.Frag} {H:Hp} {a c:Addr} {xs:List V} {o o':HO} (h:SqT K H a xs) (e:H c=some o) (no:∀ ys,o≠.tup ys) (nf:∀ x ys,o≠.frz x ys):SqT K (upd H c o') a xs:=by
 rcases h with h | h
 ·rcases h with h | ⟨x,h⟩
  ·exact .inl (.inl ((Zai (Za8 h e (fun z=>no _ z.symm))).trans h))
  ·exact .inl (.inr ⟨x,(Zai (Za8 h e (fun z=>nf _ _ z.symm))).trans h⟩)
 ·exact .inr h
theorem BkAt.links {K : W.Frag} {C : Addr} {H : Hp} {b dx k bi li ti su : Addr} {B : Bk} (h : BkAt K C H b dx k bi li ti su B) {l : List ((Str × Str) × Addr × List Str)}
  (hl:∀ q∈l,H q.2.1=some (.lst (q.2.2.map V.str))):BkAt K C (upd H li (.dT (l.map fun q=>(two q.1,V.ref q.2.1)))) b dx k bi li ti su { B with links:=l }:=by
 obtain ⟨n1,n2,n3,n4,n5,n6⟩:=Zlg h.ap
 have dk:∀ {c:Addr} {z:List (Key × V)},H c=some (.dK z)->c≠li:=fun e=>Za8 e h.li (fun z=>by cases z)
 exact ⟨(Zai (Za8 h.ob h.li (fun z=>by cases z))).trans h.ob,h.ap,h.at',(Zai n1).trans h.ke,(Zai (dk h.bi)).trans h.bi,Zab,(Zai n4.symm).trans h.ti,(Zai n5.symm).trans h.su,
  fun p hp=>ZaO (h.en p hp) h.li (fun _ z=>by cases z) (fun _ _ z=>by cases z),fun q hq=>(Zai (Za8 (hl q hq) h.li (fun z=>by cases z))).trans (hl q hq),fun q hq=>(Zai (dk (h.tt q hq))).trans (h.tt q hq)⟩
noncomputable def lk (ls:List ((Str × Str) × Addr × List Str)) (c:Str × Str):List Str:=((Za5 c ls).map (·.2)).getD []
noncomputable def ZbQ (f:Str × Str->List Str) (c:Str × Str) (m:Str):Str × Str->List Str:=fun x=>if x=c then ZaS (f c++[m]) else f x
theorem Zg5 {c:Str × Str}:∀ {l:List ((Str × Str) × Addr × List Str)},(l.any fun q=>decide (q.1=c))=false->Za5 c l=none
 | [],_=>rfl
 | q :: r,h=>by
  rw [List.any_cons,Bool.or_eq_false_iff] at h
  unfold Za5
  rw [if_neg (of_decide_eq_false h.1)]
  exact Zg5 h.2
theorem Zh2 {c:Str × Str}:∀ {l m:List ((Str × Str) × Addr × List Str)},Za5 c (l++m)=(Za5 c l).or (Za5 c m)
 | [],m=>by simp [Za5]
 | q :: r,m=>by
  show (if q.1=c then some q.2 else Za5 c (r++m))=(if q.1=c then some q.2 else Za5 c r).or (Za5 c m)
  by_cases e:q.1=c
  ·rw [if_pos e,if_pos e]; rfl
  ·rw [if_neg e,if_neg e]; exact Zh2
theorem Zh5 {c d:Str × Str} {x:Addr × List Str}:∀ {l:List ((Str × Str) × Addr × List Str)},Za5 d (l.map fun q=>if q.1=c then (q.1,x) else q)=if d=c then (Za5 c l).map (fun _=>x) else Za5 d l
 | []=>by by_cases e:d=c <;> simp [Za5,e]
 | q :: r=>by
  have ih:=Zh5 (c:=c) (d:=d) (x:=x) (l:=r)
  rw [List.map_cons]
  by_cases e:q.1=c
  ·rw [if_pos e]
   by_cases e2:d=c
   ·subst e2
    rw [if_pos rfl]
    unfold Za5
    rw [if_pos e,if_pos e]
    rfl
   ·rw [if_neg e2] at ih ⊢
    unfold Za5
    rw [if_neg (fun z=>e2 (z.symm.trans e)),if_neg (fun z=>e2 (z.symm.trans e))]
    exact ih
  ·rw [if_neg e]
   by_cases e2:d=c
   ·subst e2
    rw [if_pos rfl] at ih ⊢
    unfold Za5
    rw [if_neg e,if_neg e]
    exact ih
   ·rw [if_neg e2] at ih ⊢
    unfold Za5
    by_cases e3:q.1=d
    ·rw [if_pos e3,if_pos e3]
    ·rw [if_neg e3,if_neg e3]; exact ih
theorem Zia (l:List ((Str × Str) × Addr × List Str)) (c d:Str × Str) (x:Addr × List Str):Za5 d (Zbc l c x)=if d=c then some x else Za5 d l:=by
 unfold Zbc
 by_cases h:(l.any fun q=>decide (q.1=c))=true
 ·rw [if_pos h,Zh5]
  by_cases e:d=c
  ·rw [if_pos e,if_pos e]
   cases hk:Za5 c l with
   | some y=>rfl
   | none =>
    exfalso
    have:∀ {l:List ((Str × Str) × Addr × List Str)},Za5 c l=none->(l.any fun q=>decide (q.1=c))=false:=by
     intro l
     induction l with
     | nil=>intro _; rfl
     | cons q r ih =>
      intro hn
      unfold Za5 at hn
      by_cases e:q.1=c
      ·rw [if_pos e] at hn; cases hn
      ·rw [if_neg e] at hn
       rw [List.any_cons,ih hn,decide_eq_false e]; rfl
    rw [this hk] at h
    cases h
  ·rw [if_neg e,if_neg e]
 ·rw [if_neg h,Zh2]
  by_cases e:d=c
  ·subst e
   rw [if_pos rfl,Zg5 (Bool.eq_false_iff.mpr h)]
   simp [Za5]
  ·rw [if_neg e]
   cases Za5 d l with
   | some y=>rfl
   | none=>simp [Za5,Ne.symm e]
theorem Ze2 (l:List ((Str × Str) × Addr × List Str)) (c d:Str × Str) (D:Addr) (m:Str):lk (Zbc l c (D,ZaS (lk l c++[m]))) d=ZbQ (lk l) c m d:=by
 unfold lk ZbQ
 rw [Zia]
 by_cases e:d=c
 ·rw [if_pos e,if_pos e]; rfl
 ·rw [if_neg e,if_neg e]
theorem Zb0 {κ α:Type} [DecidableEq κ] (l:List (κ × α)) (c:κ) (x:α):(Zbc l c x).length≤l.length+1:=by
 unfold Zbc
 split
 ·rw [List.length_map]; omega
 ·rw [List.length_append]; exact Nat.le_refl _
theorem Zl7 (B:Bk) (l n:Str):ZbR B l n=lk B.links (l,n):=rfl
noncomputable def ZcV (F:Str × Str->List Str) (n f m:Str):Str × Str->List Str :=
 let F1:=if f="" then F else ZbQ (ZbQ F ("F",n) f) ("f",f) n
 if m="" then F1 else ZbQ (ZbQ F1 ("M",n) m) ("m",m) n
theorem Zfj {F:Str × Str->List Str} {c d:Str × Str} {m:Str} (h:d.1≠c.1):ZbQ F c m d=F d:=if_neg fun e=>h (by rw [e])
theorem ZcW {F G:Str × Str->List Str} (h:∀ c,F c=G c) (c:Str × Str) (m:Str) (d:Str × Str):ZbQ F c m d=ZbQ G c m d:=by
 unfold ZbQ
 rw [h c,h d]
theorem ZnZ (l:List (Ent × Addr)) (n s:Str) (d:Int) (f m:Str) (a:Addr):Bk.bornD (l++[(.born n s d f m,a)])=Bk.bornD l++[(.inr n,.ref a)]:=by
 unfold Bk.bornD
 rw [List.filterMap_append]
 rfl
theorem ZnK (l:List (Ent × Addr)):(Bk.bornD l).length≤l.length:=List.length_filterMap_le ..
theorem But.mono {S S':List Addr} {H H':Hp} (h:But S H H') (i:∀ a∈S,a∈S'):But S' H H':=⟨fun a o n e=>h.eq a o (fun z=>n (i a z)) e,h.al⟩
noncomputable def Zfu (l:List (Ent × Addr)):List (Str × V):=l.filterMap fun p=>p.1.bornName.map fun n=>(n,.ref p.2)
theorem Zk1 (l:List (Ent × Addr)):Bk.bornD l=(Zfu l).map fun p=>(.inr p.1,p.2):=by
 unfold Bk.bornD Zfu
 rw [List.map_filterMap]
 congr 1
 funext p
 cases p.1.bornName <;> rfl
noncomputable def ZaE (l:List (Ent × Addr)):List Str:=l.filterMap fun p=>p.1.bornName
theorem ZiT (l:List (Ent × Addr)):(Zfu l).map (·.1)=ZaE l:=by
 unfold ZaE Zfu
 rw [List.map_filterMap]
 congr 1
 funext p
 cases p.1.bornName <;> rfl
def Grows (H:Hp) (ls ls':List ((Str × Str) × Addr × List Str)):Prop:=∀ q∈ls',(∃ p∈ls,p.2.1=q.2.1)∨H q.2.1=none
theorem Grows.refl (H:Hp) (ls:List ((Str × Str) × Addr × List Str)):Grows H ls ls:=fun q hq=>.inl ⟨q,hq,rfl⟩
theorem Grows.put {H:Hp} {ls ls':List ((Str × Str) × Addr × List Str)} {c:Str × Str} {D:Addr} {x:List Str} (g:Grows H ls ls') (n:H D=none):Grows H ls (Zbc ls' c (D,x)):=fun q hq=>by
 rcases Zgs hq with rfl | hq
 ·exact .inr n
 ·exact g q hq
theorem Grows.back {H H':Hp} {ls ls':List ((Str × Str) × Addr × List Str)} (g:Grows H' ls ls') (al:∀ a,H' a=none->H a=none):Grows H ls ls':=fun q hq=>(g q hq).imp id (al _)
noncomputable def ZaZ {κ α:Type} [DecidableEq κ] (c:κ):List (κ × α)->Option α
 | []=>none
 | q :: r=>if q.1=c then some q.2 else ZaZ c r
theorem ZhO {κ α:Type} [DecidableEq κ] {c:κ}:∀ {l:List (κ × α)},(l.any fun q=>decide (q.1=c))=false->ZaZ c l=none
 | [],_=>rfl
 | q :: r,h=>by
  rw [List.any_cons,Bool.or_eq_false_iff] at h
  unfold ZaZ
  rw [if_neg (of_decide_eq_false h.1)]
  exact ZhO h.2
theorem Zfk {κ α:Type} [DecidableEq κ] {c:κ}:∀ {l:List (κ × α)},ZaZ c l=none->(l.any fun q=>decide (q.1=c))=false
 | [],_=>rfl
 | q :: r,h=>by
  unfold ZaZ at h
  by_cases e:q.1=c
  ·rw [if_pos e] at h; cases h
  ·rw [if_neg e] at h
   rw [List.any_cons,Zfk h,decide_eq_false e]
   rfl
theorem Zfd {κ α:Type} [DecidableEq κ] {c:κ}:∀ {l m:List (κ × α)},ZaZ c (l++m)=(ZaZ c l).or (ZaZ c m)
 | [],m=>by simp [ZaZ]
 | q :: r,m=>by
  show (if q.1=c then some q.2 else ZaZ c (r++m))=(if q.1=c then some q.2 else ZaZ c r).or (ZaZ c m)
  by_cases e:q.1=c
  ·rw [if_pos e,if_pos e]; rfl
  ·rw [if_neg e,if_neg e]; exact Zfd
theorem Zjn {κ α:Type} [DecidableEq κ] {c d:κ} {x:α}:∀ {l:List (κ × α)},ZaZ d (l.map fun q=>if q.1=c then (q.1,x) else q)=if d=c then (ZaZ c l).map (fun _=>x) else ZaZ d l
 | []=>by by_cases e:d=c <;> simp [ZaZ,e]
 | q :: r=>by
  have ih:=Zjn (c:=c) (d:=d) (x:=x) (l:=r)
  rw [List.map_cons]
  by_cases e:q.1=c
  ·rw [if_pos e]
   by_cases e2:d=c
   ·subst e2
    rw [if_pos rfl]
    unfold ZaZ
    rw [if_pos e,if_pos e]
    rfl
   ·rw [if_neg e2] at ih ⊢
    unfold ZaZ
    rw [if_neg (fun z=>e2 (z.symm.trans e)),if_neg (fun z=>e2 (z.symm.trans e))]
    exact ih
  ·rw [if_neg e]
   by_cases e2:d=c
   ·subst e2
    rw [if_pos rfl] at ih ⊢
    unfold ZaZ
    rw [if_neg e,if_neg e]
    exact ih
   ·rw [if_neg e2] at ih ⊢
    unfold ZaZ
    by_cases e3:q.1=d
    ·rw [if_pos e3,if_pos e3]
    ·rw [if_neg e3,if_neg e3]; exact ih
theorem Zi9 {κ α:Type} [DecidableEq κ] (l:List (κ × α)) (c d:κ) (x:α):ZaZ d (Zbc l c x)=if d=c then some x else ZaZ d l:=by
 unfold Zbc
 by_cases h:(l.any fun q=>decide (q.1=c))=true
 ·rw [if_pos h,Zjn]
  by_cases e:d=c
  ·rw [if_pos e,if_pos e]
   cases hk:ZaZ c l with
   | some y=>rfl
   | none=>rw [Zfk hk] at h; cases h
  ·rw [if_neg e,if_neg e]
 ·rw [if_neg h,Zfd]
  by_cases e:d=c
  ·subst e
   rw [if_pos rfl,ZhO (Bool.eq_false_iff.mpr h)]
   simp [ZaZ]
  ·rw [if_neg e]
   cases ZaZ d l with
   | some y=>rfl
   | none=>simp [ZaZ,Ne.symm e]
theorem Zds {κ α:Type} [DecidableEq κ] {c:κ}:∀ {l:List (κ × α)} {x:α},ZaZ c l=some x->(c,x)∈l
 | [],_,h=>by cases h
 | q :: r,x,h=>by
  unfold ZaZ at h
  by_cases e:q.1=c
  ·rw [if_pos e] at h
   cases h
   rw [← e]
   exact List.mem_cons_self ..
  ·rw [if_neg e] at h
   exact List.mem_cons_of_mem _ (Zds h)
theorem Zen {κ κ' α:Type} [DecidableEq κ] [DecidableEq κ'] {f:κ->κ'} (hf:∀ a b,f a=f b->a=b) (g:α->V) (c:κ):∀ l:List (κ × α),ZcP (l.map fun q=>(f q.1,g q.2)) (f c)=(ZaZ c l).map g
 | []=>rfl
 | q :: r=>by
  have ih:=Zen hf g c r
  unfold ZaZ
  rw [List.map_cons]
  by_cases e:q.1=c
  ·subst e
   rw [Zce rfl,if_pos rfl]
   rfl
  ·rw [Zb9 (fun z=>e (hf _ _ z)),if_neg e]
   exact ih
noncomputable def Zbw (B:Bk) (c:Str × Str):List (Int × Str):=((ZaZ c B.ties).map (·.2)).getD []
noncomputable def Zck (l:List (Int × Str)):Bool:=match (l.map (·.1)).max? with
 | none=>false
 | some m=>decide (ZaZ m l=some ("union" : Str))
noncomputable def ZfD (B:Bk) (a b:Str):Bool:=Zck (Zbw B (Zaj a b))
noncomputable def Zh7 (l:List (Int × Str)):List (Key × V):=l.map fun r=>(.inl r.1,.str r.2)
theorem ZmP:∀ a b:Int,(.inl a:Key)=.inl b->a=b:=fun _ _ h=>Sum.inl.inj h
theorem ZmB {l:List (Int × Str)} {m:Int} (h:m∈l.map (·.1)):∃ x,ZaZ m l=some x:=by
 cases e:ZaZ m l with
 | some x=>exact ⟨x,rfl⟩
 | none =>
  obtain ⟨q,hq,rfl⟩:=List.mem_map.mp h
  have:=Zfk e
  rw [List.any_eq_false] at this
  exact absurd (decide_eq_true rfl) (this q hq)
theorem ZgK {l:List (Int × Str)} {m:Int} {x:Str} (hm:m∈l.map (·.1)) (hx:∀ y∈l.map (·.1),y≤m) (e:ZaZ m l=some x):Zck l=decide (x="union"):=by
 have h:(l.map (·.1)).max?=some m:=List.max?_eq_some_iff.mpr ⟨hm,hx⟩
 unfold Zck
 rw [h]
 show decide (ZaZ m l=some ("union" : Str))=_
 rw [e]
 simp
theorem Zmi (a b:Str):Zaj a b=Zaj b a:=by
 unfold Zaj
 by_cases h:Za3 b a=true
 ·by_cases h2:Za3 a b=true
  ·have l1:b.cps.toList<a.cps.toList:=of_decide_eq_true h
   have l2:a.cps.toList<b.cps.toList:=of_decide_eq_true h2
   exact absurd l1 (List.lt_asymm l2)
  ·rw [if_pos h,if_neg h2]
 ·by_cases h2:Za3 a b=true
  ·rw [if_neg h,if_pos h2]
  ·rw [if_neg h,if_neg h2,ZbY (Bool.eq_false_iff.mpr h) (Bool.eq_false_iff.mpr h2)]
noncomputable def Zba (F:Str × Str->List Str) (st:Bool) (x y:Str):Str × Str->List Str:=fun c =>
 if c=(("S",x):Str × Str) then (if st=true then ZaS ((F c).filter (fun n=>decide (n≠y))++[y]) else (F c).filter fun n=>decide (n≠y)) else F c
noncomputable def ZiQ (ts:List ((Str × Str) × Addr × List (Int × Str))) (c:Str × Str):List (Int × Str):=((ZaZ c ts).map (·.2)).getD []
theorem Zlf (B:Bk) (c:Str × Str):Zbw B c=ZiQ B.ties c:=rfl
theorem ZhM {ts:List ((Str × Str) × Addr × List (Int × Str))} {c:Str × Str} {d:Addr} {l l':List (Int × Str)} (n:(ts.map (·.1)).Nodup) (h:ZaZ c ts=some (d,l)):(Zbc ts c (d,l')).map (·.2.1)=ts.map (·.2.1)∧(Zbc ts c (d,l')).map (·.1)=ts.map (·.1):=by
 have an:(ts.any fun q=>decide (q.1=c))=true:=by
  rw [List.any_eq_true]
  exact ⟨_,Zds h,decide_eq_true rfl⟩
 unfold Zbc
 rw [if_pos an,List.map_map,List.map_map]
 constructor
 ·refine List.map_congr_left fun q hq=>?_
  show (if q.1=c then (q.1,(d,l')) else q).2.1=q.2.1
  by_cases e:q.1=c
  ·rw [if_pos e]
   have:q.2=(d,l):=by
    have go:∀ {ts:List ((Str × Str) × Addr × List (Int × Str))},(ts.map (·.1)).Nodup->ZaZ c ts=some (d,l)->q∈ts->q.2=(d,l):=by
     intro ts
     induction ts with
     | nil=>intro _ _ h; cases h
     | cons p r ih =>
      intro n f m
      rw [List.map_cons,List.nodup_cons] at n
      unfold ZaZ at f
      by_cases e2:p.1=c
      ·rw [if_pos e2] at f
       rcases List.mem_cons.mp m with rfl | m
       ·exact Option.some.inj f
       ·exact absurd (List.mem_map.mpr ⟨q,m,e.trans e2.symm⟩) n.1
      ·rw [if_neg e2] at f
       rcases List.mem_cons.mp m with rfl | m
       ·exact absurd e e2
       ·exact ih n.2 f m
    exact go n h hq
   rw [this]
  ·rw [if_neg e]
 ·refine List.map_congr_left fun q hq=>?_
  show (if q.1=c then (q.1,(d,l')) else q).1=q.1
  split <;> rfl
theorem BkAt.newTie {K : W.Frag} {C : Addr} {H : Hp} {b dx k bi li ti su z : Addr} {B : Bk} (h : BkAt K C H b dx k bi li ti su B) (nz : H z=some (.dK [])) (fr : z ≠ bi ∧ ∀ q ∈ B.ties, q.2.1 ≠ z) (c : Str × Str) :
  BkAt K C (upd H ti (.dT (B.tiesD++[(two c,.ref z)]))) b dx k bi li ti su { B with ties:=B.ties++[(c,z,[])] }:=by
 obtain ⟨n1,n2,n3,n4,n5,n6⟩:=Zlg h.ap
 have dk:∀ {a:Addr} {w:List (Key × V)},H a=some (.dK w)->a≠ti:=fun e=>Za8 e h.ti (fun z=>by cases z)
 refine ⟨(Zai (Za8 h.ob h.ti (fun z=>by cases z))).trans h.ob,h.ap,?_,(Zai n2).trans h.ke,(Zai (dk h.bi)).trans h.bi,(Zai n4).trans h.li,?_,(Zai n6.symm).trans h.su,fun p hp=>ZaO (h.en p hp) h.ti (fun _ z=>by cases z) (fun _ _ z=>by cases z),
  fun q hq=>(Zai (Za8 (h.ll q hq) h.ti (fun z=>by cases z))).trans (h.ll q hq),fun q hq=>?_⟩
 ·show (bi :: (B.ties++[((c,z,[]):(Str × Str) × Addr × List (Int × Str))]).map (·.2.1)).Nodup
  rw [List.map_append,← List.cons_append,List.nodup_append]
  refine ⟨h.at',by simp,fun a ha x hx e=>?_⟩
  have ex:x=z:=by simpa using hx
  subst ex e
  rcases List.mem_cons.mp ha with rfl | ha
  ·exact fr.1 rfl
  ·obtain ⟨q,hq,rfl⟩:=List.mem_map.mp ha
   exact fr.2 q hq rfl
 ·rw [Zab]
  show some (HO.dT _)=some (.dT ((B.ties++[((c,z,[]):(Str × Str) × Addr × List (Int × Str))]).map fun q=>(two q.1,V.ref q.2.1)))
  rw [List.map_append]
  rfl
 ·rcases List.mem_append.mp hq with hq | hq
  ·exact (Zai (dk (h.tt q hq))).trans (h.tt q hq)
  ·have e:q=(c,z,[]):=by simpa using hq
   subst e
   exact (Zai (dk nz)).trans nz
theorem BkAt.putTie {K : W.Frag} {C : Addr} {H : Hp} {b dx k bi li ti su d : Addr} {B : Bk} {c : Str × Str} {l : List (Int × Str)} (h : BkAt K C H b dx k bi li ti su B) (n : (B.ties.map (·.1)).Nodup) (f : ZaZ c B.ties=some (d, l)) (l' : List (Int × Str)) :
  BkAt K C (upd H d (.dK (Zh7 l'))) b dx k bi li ti su { B with ties:=Zbc B.ties c (d,l') }:=by
 have hm:=Zds f
 have hd:H d=some (.dK (Zh7 l)):=h.tt _ hm
 have at2:=h.at'
 rw [List.nodup_cons] at at2
 have bd:bi≠d:=fun e=>at2.1 (List.mem_map.mpr ⟨_,hm,e.symm⟩)
 have dt:∀ {a:Addr} {w:List (List Key × V)},H a=some (.dT w)->a≠d:=fun e=>Za8 e hd (fun z=>by cases z)
 obtain ⟨pa1,pa2⟩:=ZhM (l':=l') n f
 refine ⟨(Zai (Za8 h.ob hd (fun z=>by cases z))).trans h.ob,h.ap,?_,(Zai (dt h.ke)).trans h.ke,(Zai bd).trans h.bi,(Zai (dt h.li)).trans h.li,?_,(Zai (dt h.su)).trans h.su,fun p hp=>ZaO (h.en p hp) hd (fun _ z=>by cases z) (fun _ _ z=>by cases z),
  fun q hq=>(Zai (Za8 (h.ll q hq) hd (fun z=>by cases z))).trans (h.ll q hq),fun q hq=>?_⟩
 ·show (bi :: (Zbc B.ties c (d,l')).map (·.2.1)).Nodup
  rw [pa1]
  exact h.at'
 ·have e:(Zbc B.ties c (d,l')).map (fun q=>(two q.1,V.ref q.2.1))=B.tiesD:=by
   have e1:(fun q:(Str × Str) × Addr × List (Int × Str)=>(two q.1,V.ref q.2.1))=(fun p:(Str × Str) × Addr=>(two p.1,V.ref p.2)) ∘ fun q=>(q.1,q.2.1):=rfl
   have e2:∀ ts:List ((Str × Str) × Addr × List (Int × Str)),ts.map (fun q=>(q.1,q.2.1))=(ts.map (·.1)).zip (ts.map (·.2.1)):=fun ts=>by
    induction ts with
    | nil=>rfl
    | cons q r ih=>simp [ih]
   unfold Bk.tiesD
   rw [e1,← List.map_map,← List.map_map,e2,e2,pa1,pa2]
  rw [Zai (dt h.ti)]
  show H ti=some (.dT ((Zbc B.ties c (d,l')).map fun q=>(two q.1,V.ref q.2.1)))
  rw [e]
  exact h.ti
 ·rcases Zgs hq with rfl | hq2
  ·exact Zab
  ·by_cases e:q.2.1=d
   ·-- the same address: the same pair
    have:q=(c,d,l)∨q=(c,d,l'):=by
     have hnd:=(List.nodup_cons.mp h.at').2
     have go:∀ {ts:List ((Str × Str) × Addr × List (Int × Str))},(ts.map (·.2.1)).Nodup->(c,d,l)∈ts->q∈ts->q=(c,d,l):=by
      intro ts
      induction ts with
      | nil=>intro _ h; cases h
      | cons p r ih =>
       intro n h1 h2
       rw [List.map_cons,List.nodup_cons] at n
       rcases List.mem_cons.mp h1 with e1 | h1'
       ·rcases List.mem_cons.mp h2 with e2 | h2'
        ·rw [e2,e1]
        ·rw [← e1] at n
         exact absurd (List.mem_map.mpr ⟨q,h2',e⟩) n.1
       ·rcases List.mem_cons.mp h2 with e2 | h2'
        ·rw [← e2] at n
         exact absurd (List.mem_map.mpr ⟨(c,d,l),h1',e.symm⟩) n.1
        ·exact ih n.2 h1' h2'
     exact .inl (go hnd hm hq2)
    rcases this with rfl | rfl
    ·-- then it was told anew
     have an:(B.ties.any fun q=>decide (q.1=c))=true:=by
      rw [List.any_eq_true]
      exact ⟨_,hm,decide_eq_true rfl⟩
     unfold Zbc at hq
     rw [if_pos an] at hq
     obtain ⟨p,hp,ep⟩:=List.mem_map.mp hq
     by_cases pc:p.1=c
     ·rw [if_pos pc] at ep
      have:l'=l:=by
       have:=congrArg (fun z=>z.2.2) ep
       exact this
      subst this
      exact Zab
     ·rw [if_neg pc] at ep
      subst ep
      exact absurd rfl pc
    ·exact Zab
   ·exact (Zai e).trans (h.tt q hq2)
theorem ZoR (ts:List ((Str × Str) × Addr × List (Int × Str))) (c x:Str × Str) (d:Addr) (l:List (Int × Str)):ZiQ (Zbc ts c (d,l)) x=if x=c then l else ZiQ ts x:=by
 unfold ZiQ
 rw [Zi9]
 by_cases e:x=c
 ·rw [if_pos e,if_pos e]; rfl
 ·rw [if_neg e,if_neg e]
theorem Zou (ts:List ((Str × Str) × Addr × List (Int × Str))) (c x:Str × Str) (d:Addr) (h:ZaZ c ts=none):ZiQ (ts++[(c,d,[])]) x=ZiQ ts x:=by
 unfold ZiQ
 rw [Zfd]
 cases e:ZaZ x ts with
 | some y=>rfl
 | none =>
  unfold ZaZ
  by_cases e2:c=x
  ·rw [if_pos e2]; rfl
  ·rw [if_neg e2]; rfl
noncomputable def ZpC (y:Str) (n:Str):Option V:=if n=y then none else some (.str n)
theorem Zlv (y:Str):∀ l:List Str,(l.map (ZpC y)).filterMap id=(l.filter fun n=>decide (n≠y)).map V.str
 | []=>rfl
 | n :: r=>by
  have ih:=Zlv y r
  by_cases h:n=y
  ·subst h
   simp only [List.map_cons,List.filterMap_cons,List.filter_cons]
   simpa [ZpC] using ih
  ·simp only [List.map_cons,List.filterMap_cons,List.filter_cons]
   simpa [ZpC,h] using ih
theorem ZnP (l:List ((Str × Str) × Addr × List Str)) (c d:Str × Str) (D:Addr) (z:List Str):lk (Zbc l c (D,z)) d=if d=c then z else lk l d:=by
 unfold lk
 rw [Zia]
 by_cases e:d=c
 ·rw [if_pos e,if_pos e]; rfl
 ·rw [if_neg e,if_neg e]
theorem Zg6 (F:Str × Str->List Str) (st:Bool) (x y:Str) (c:Str × Str):(Zba F st x y c).length≤(F c).length+1:=by
 unfold Zba
 have h:=List.length_filter_le (fun n=>decide (n≠y)) (F c)
 split
 ·split
  ·rw [(Zcq _).length_eq,List.length_append]
   show _+1≤_
   omega
  ·omega
 ·omega
theorem Zc6 (a b:Str):Zaj (Zaj a b).1 (Zaj a b).2=Zaj a b:=by
 unfold Zaj
 by_cases h:Za3 b a=true
 ·rw [if_pos h]
  show (if Za3 a b=true then (a,b) else (b,a))=(b,a)
  by_cases h2:Za3 a b=true
  ·have l1:b.cps.toList<a.cps.toList:=of_decide_eq_true h
   have l2:a.cps.toList<b.cps.toList:=of_decide_eq_true h2
   exact absurd l1 (List.lt_asymm l2)
  ·rw [if_neg h2]
 ·rw [if_neg h]
  show (if Za3 b a=true then (b,a) else (a,b))=(a,b)
  rw [if_neg h]
theorem Zfm (e:Ent):e.told.told=e.told:=by
 cases e with
 | union a b d=>show Ent.union (Zaj (Zaj a b).1 (Zaj a b).2).1 (Zaj (Zaj a b).1 (Zaj a b).2).2 d=_; rw [Zc6]; rfl
 | parted a b d=>show Ent.parted (Zaj (Zaj a b).1 (Zaj a b).2).1 (Zaj (Zaj a b).1 (Zaj a b).2).2 d=_; rw [Zc6]; rfl
 | _=>rfl
noncomputable def ZmF (F:Str × Str->List (Int × Str)):Ent->Str × Str->List (Int × Str)
 | .union a b d=>fun c=>if c=Zaj a b then Zbc (F (Zaj a b)) d "union" else F c
 | .parted a b d=>fun c=>if c=Zaj a b then Zbc (F (Zaj a b)) d "parted" else F c
 | _=>F
noncomputable def Zjv (F:Str × Str->List Str) (G:Str × Str->List (Int × Str)):Ent->Str × Str->List Str
 | .born n _ _ f m=>ZcV F n f m
 | .taken c t _=>ZbQ (ZbQ F ("T",c) t) ("t",t) c
 | .union a b d=>Zba (Zba F (Zck (Zbc (G (Zaj a b)) d "union")) a b) (Zck (Zbc (G (Zaj a b)) d "union")) b a
 | .parted a b d=>Zba (Zba F (Zck (Zbc (G (Zaj a b)) d "parted")) a b) (Zck (Zbc (G (Zaj a b)) d "parted")) b a
 | _=>F
noncomputable def Zif (ss:List ((Str × Str) × Int)) (c:Str × Str):Int:=(ZaZ c ss).getD 0
noncomputable def ZoT (F:Str × Str->Int):Ent->Str × Str->Int
 | .given g t am _=>fun c=>if c=(g,t) then F c+am else F c
 | _=>F
theorem ZoE (ss:List ((Str × Str) × Int)) (g t:Str) (am d:Int) (c:Str × Str):Zif (Zbc ss (g,t) (Zif ss (g,t)+am)) c=ZoT (Zif ss) (.given g t am d) c:=by
 show _=if c=(g,t) then Zif ss c+am else Zif ss c
 unfold Zif
 rw [Zi9]
 by_cases e:c=(g,t)
 ·subst e
  rw [if_pos rfl,if_pos rfl]
  rfl
 ·rw [if_neg e,if_neg e]
structure Put (B:Bk) (e:Ent) (B':Bk):Prop where
 su:∀ c,Zif B'.sums c=ZoT (Zif B.sums) e.told c
 kept:∃ a,B'.kept=B.kept++[(e.told,a)]
 lks:∀ c,lk B'.links c=Zjv (lk B.links) (ZiQ B.ties) e.told c
 tis:∀ c,ZiQ B'.ties c=ZmF (ZiQ B.ties) e.told c
 nd:(B'.ties.map (·.1)).Nodup
 nl:B'.links.length≤B.links.length+4
 nt:B'.ties.length≤B.ties.length+1
 ns:B'.sums.length≤B.sums.length+1
structure Room1 (B:Bk):Prop where
 nd:(B.ties.map (·.1)).Nodup
 nl:B.links.length≤870
 nt:B.ties.length≤790
 ns:B.sums.length≤790
 ll:∀ c,(lk B.links c).length≤60
 tt:∀ c,(ZiQ B.ties c).length≤790
theorem Zoq {H:Hp} {a:Addr} {o:HO} (h:H a=some o):upd H a o=H:=by
 funext c
 by_cases e:c=a
 ·subst e; rw [Zab,h]
 ·rw [Zai e]
theorem BkAt.kept {K : W.Frag} {C : Addr} {H : Hp} {b dx k bi li ti su a : Addr} {B : Bk} {e : Ent} (h : BkAt K C H b dx k bi li ti su B) (ha : SqT K H a (e.row.map kV)) :
  BkAt K C (upd (upd H k (.dT (B.keptD++[(e.key,.ref a)]))) bi (.dK (Bk.bornD (B.kept++[(e,a)])))) b dx k bi li ti su { B with kept:=B.kept++[(e,a)] }:=by
 obtain ⟨n1,n2,n3,n4,n5,n6⟩:=Zlg h.ap
 have kb:k≠bi:=Za8 h.ke h.bi (fun z=>by cases z)
 have at2:=List.nodup_cons.mp h.at'
 have dt:∀ {c:Addr} {w:List (List Key × V)},H c=some (.dT w)->c≠k->(upd (upd H k (.dT (B.keptD++[(e.key,.ref a)]))) bi (.dK (Bk.bornD (B.kept++[(e,a)])))) c=some (.dT w):=fun hc n=>(Zai (Za8 hc h.bi (fun z=>by cases z))).trans ((Zai n).trans hc)
 have sq:∀ {c:Addr} {xs:List V},SqT K H c xs->SqT K (upd (upd H k (.dT (B.keptD++[(e.key,.ref a)]))) bi (.dK (Bk.bornD (B.kept++[(e,a)])))) c xs:=fun {c xs} hc=>by
  have h1:SqT K (upd H k (.dT (B.keptD++[(e.key,.ref a)]))) c xs:=ZaO hc h.ke (fun _ z=>by cases z) (fun _ _ z=>by cases z)
  exact ZaO h1 ((Zai kb.symm).trans h.bi) (fun _ z=>by cases z) (fun _ _ z=>by cases z)
 refine ⟨(Zai (Za8 h.ob h.bi (fun z=>by cases z))).trans ((Zai (Za8 h.ob h.ke (fun z=>by cases z))).trans h.ob),h.ap,h.at',(Zai kb).trans ?_,Zab,dt h.li n1.symm,dt h.ti n2.symm,dt h.su n3.symm,fun p hp=>?_,fun q hq=>?_,fun q hq=>?_⟩
 ·rw [Zab]
  show some (HO.dT _)=some (.dT ((B.kept++[(e,a)]).map fun p=>(p.1.key,V.ref p.2)))
  rw [List.map_append]
  rfl
 ·rcases List.mem_append.mp hp with hp | hp
  ·exact sq (h.en p hp)
  ·have ep:p=(e,a):=by simpa using hp
   subst ep
   exact sq ha
 ·exact (Zai (Za8 (h.ll q hq) h.bi (fun z=>by cases z))).trans ((Zai (Za8 (h.ll q hq) h.ke (fun z=>by cases z))).trans (h.ll q hq))
 ·exact (Zai (fun z=>at2.1 (List.mem_map.mpr ⟨q,hq,z⟩))).trans ((Zai (Za8 (h.tt q hq) h.ke (fun z=>by cases z))).trans (h.tt q hq))
theorem Znl {l:List (Ent × Addr)} {e:Ent} {a:Addr} (h:e.isBorn=false):Bk.bornD (l++[(e,a)])=Bk.bornD l:=by
 unfold Bk.bornD
 rw [List.filterMap_append]
 cases e with
 | born=>cases h
 | _=>simp [Ent.bornName]
theorem BkAt.sums {K : W.Frag} {C : Addr} {H : Hp} {b dx k bi li ti su : Addr} {B : Bk} (h : BkAt K C H b dx k bi li ti su B) (l : List ((Str × Str) × Int)) :
  BkAt K C (upd H su (.dT (l.map fun q=>(two q.1,V.int q.2)))) b dx k bi li ti su { B with sums:=l }:=by
 obtain ⟨n1,n2,n3,n4,n5,n6⟩:=Zlg h.ap
 have dk:∀ {c:Addr} {z:List (Key × V)},H c=some (.dK z)->c≠su:=fun e=>Za8 e h.su (fun z=>by cases z)
 exact ⟨(Zai (Za8 h.ob h.su (fun z=>by cases z))).trans h.ob,h.ap,h.at',(Zai n3).trans h.ke,(Zai (dk h.bi)).trans h.bi,(Zai n5).trans h.li,(Zai n6).trans h.ti,Zab,
  fun p hp=>ZaO (h.en p hp) h.su (fun _ z=>by cases z) (fun _ _ z=>by cases z),fun q hq=>(Zai (Za8 (h.ll q hq) h.su (fun z=>by cases z))).trans (h.ll q hq),fun q hq=>(Zai (dk (h.tt q hq))).trans (h.tt q hq)⟩
theorem ZlP {l:List (Ent × Addr)} {n s f m:Str} {d:Int} (h:ZcP (l.map fun p=>(p.1.key,V.ref p.2)) (Ent.born n s d f m).key=none):ZaD n l=none:=by
 induction l with
 | nil=>rfl
 | cons p r ih =>
  unfold ZaD
  rw [List.map_cons] at h
  by_cases e:p.1.bornName=some n
  ·exfalso
   have ek:p.1.key=(Ent.born n s d f m).key:=by
    cases hp:p.1 with
    | born n' s' d' f' m' =>
     rw [hp] at e
     cases (show n'=n from Option.some.inj e)
     rfl
    | _=>rw [hp] at e; cases e
   rw [Zce ek] at h
   cases h
  ·rw [if_neg e]
   by_cases ek:p.1.key=(Ent.born n s d f m).key
   ·rw [Zce ek] at h
    cases h
   ·rw [Zb9 ek] at h
    exact ih h
theorem Zjz {B:Bk} {e:Ent} (h:ZdM B e=none):ZcP B.keptD e.told.key=none∧B.kept.length<400∧∀ n∈e.named,Known B n:=by
 unfold ZdM at h
 by_cases f:B.full e=true
 ·rw [if_pos f] at h; cases h
 rw [if_neg f] at h
 by_cases p:(e.named.all fun n=>(ZaD n B.kept).isSome)=false
 ·rw [if_pos p] at h; cases h
 rw [if_neg p] at h
 by_cases t:(ZcP B.keptD e.told.key).isSome=true
 ·rw [if_pos t] at h; cases h
 refine ⟨by simpa using t,?_,fun n hn=>?_⟩
 ·unfold Bk.full at f
  simp only [Bool.or_eq_true,decide_eq_true_eq,not_or] at f
  omega
 ·have:=p
  rw [Bool.not_eq_false] at this
  rw [List.all_eq_true] at this
  have:=this n hn
  unfold Known
  exact Option.isSome_iff_ne_none.mp this
theorem ZlV (e:Ent) (n:Str):n∈e.told.named->n∈e.named:=by
 cases e with
 | union a b d =>
  show n∈[(Zaj a b).1,(Zaj a b).2]->n∈[a,b]
  unfold Zaj
  split <;> simp <;> (intro h; rcases h with h | h <;> simp [h])
 | parted a b d =>
  show n∈[(Zaj a b).1,(Zaj a b).2]->n∈[a,b]
  unfold Zaj
  split <;> simp <;> (intro h; rcases h with h | h <;> simp [h])
 | _=>exact id
theorem Zhu (n:Str):∀ (l m:List (Ent × Addr)),ZaD n (l++m)=(ZaD n l).or (ZaD n m)
 | [],m=>by simp [ZaD]
 | p :: r,m=>by
  show (if p.1.bornName=some n then some p else ZaD n (r++m))=(if p.1.bornName=some n then some p else ZaD n r).or (ZaD n m)
  by_cases e:p.1.bornName=some n
  ·rw [if_pos e,if_pos e]; rfl
  ·rw [if_neg e,if_neg e]; exact Zhu n r m
theorem Known.more {B B':Bk} {n:Str} {l:List (Ent × Addr)} (h:Known B n) (e:B'.kept=B.kept++l):Known B' n:=by
 unfold Known at *
 rw [e,Zhu]
 cases hb:ZaD n B.kept with
 | none=>exact absurd hb h
 | some p=>simp
noncomputable def Zn8 (at' be:Int) (c k j:Int):Int:=if j=be then c.fdiv 17+k.fdiv 26 else if j=at' then c.fdiv 11+k else c.fdiv 3+j*j*5
noncomputable def Zlb (i:Int):Nat:=(97+i.fmod 26).toNat
noncomputable def nmL (at' be:Int) (c k:Int) (n:Nat):List Nat:=(List.range n).map fun j:Nat=>Zlb (Zn8 at' be c k (j:Int))
theorem ZoW (at' be c k:Int) (n:Nat):nmL at' be c k (n+1)=nmL at' be c k n++[Zlb (Zn8 at' be c k n)]:=by
 unfold nmL
 rw [List.range_succ,List.map_append]
 rfl
theorem ZnI (at' be c k:Int) (n:Nat):(nmL at' be c k n).length=n:=by
 unfold nmL
 rw [List.length_map,List.length_range]
theorem Zrm (i:Int):inL (Zlb i)=true:=by
 have h0:=Int.fmod_nonneg_of_pos i (show (0:Int)<26 by decide)
 have h1:=Int.fmod_lt_of_pos i (show (0:Int)<26 by decide)
 obtain ⟨m,hm,hl⟩:∃ m:Nat,i.fmod 26=(m:Int)∧m<26:=⟨(i.fmod 26).toNat,by omega,by omega⟩
 have e:Zlb i=97+m:=by unfold Zlb; rw [hm]; omega
 rw [e]
 have go:∀ m:Fin 26,inL (97+m.val)=true:=by decide +kernel
 exact go ⟨m,hl⟩
theorem Zr2 {at' be c k:Int} {n:Nat} (h1:1≤n) (h8:n≤8):Nm ⟨(nmL at' be c k n).toArray⟩:=by
 have hl:(⟨(nmL at' be c k n).toArray⟩:Str).length=n:=by
  show (nmL at' be c k n).toArray.size=n
  rw [List.size_toArray,ZnI]
 refine ⟨by omega,by omega,?_⟩
 show ((nmL at' be c k n).toArray.toList).all inL=true
 rw [List.all_eq_true]
 intro x hx
 have hx':x∈nmL at' be c k n:=by simpa using hx
 unfold nmL at hx'
 obtain ⟨j,_,rfl⟩:=List.mem_map.mp hx'
 exact Zrm _
theorem Zmy {i j:Int} (h:Zlb i=Zlb j):i.fmod 26=j.fmod 26:=by
 have h0:=Int.fmod_nonneg_of_pos i (show (0:Int)<26 by decide)
 have h1:=Int.fmod_nonneg_of_pos j (show (0:Int)<26 by decide)
 unfold Zlb at h
 omega
theorem Zpk (a b:Int) (h:a.fmod 26=b.fmod 26):∃ q,a-b=26*q:=by
 have e1:=Int.mul_fdiv_add_fmod a 26
 have e2:=Int.mul_fdiv_add_fmod b 26
 refine ⟨a.fdiv 26-b.fdiv 26,?_⟩
 rw [Int.mul_sub]
 omega
theorem Zrg {at' be c : Int} {k k' : Nat} {n n' : Nat} (hk : k<60) (hk' : k'<60) (ha : 0 ≤ at' ∧ at'<n ∧ at'<n') (hb : 0 ≤ be ∧ be<n ∧ be<n') (ne : at' ≠ be)
  (h:(⟨(nmL at' be c k n).toArray⟩:Str)=⟨(nmL at' be c k' n').toArray⟩):k=k':=by
 have e:nmL at' be c k n=nmL at' be c k' n':=by
  have:=congrArg (fun z:Str=>z.cps.toList) h
  simpa using this
 have at_:∀ j:Int,0≤j->j<n->j<n'->Zlb (Zn8 at' be c k j)=Zlb (Zn8 at' be c k' j):=fun j j0 j1 j2=>by
  obtain ⟨m,rfl⟩:∃ m:Nat,j=(m:Int):=⟨j.toNat,by omega⟩
  have g1:(nmL at' be c k n)[m]?=some (Zlb (Zn8 at' be c k m)):=by
   unfold nmL
   rw [List.getElem?_map,List.getElem?_range (by omega)]
   rfl
  have g2:(nmL at' be c k' n')[m]?=some (Zlb (Zn8 at' be c k' m)):=by
   unfold nmL
   rw [List.getElem?_map,List.getElem?_range (by omega)]
   rfl
  rw [e,g2] at g1
  exact (Option.some.inj g1).symm
 have a:=Zmy (at_ at' ha.1 ha.2.1 ha.2.2)
 have b:=Zmy (at_ be hb.1 hb.2.1 hb.2.2)
 unfold Zn8 at a b
 rw [if_neg ne,if_pos rfl,if_neg ne,if_pos rfl] at a
 rw [if_pos rfl,if_pos rfl] at b
 obtain ⟨q1,h1⟩:=Zpk _ _ a
 obtain ⟨q2,h2⟩:=Zpk _ _ b
 have d1:((k:Int)).fdiv 26=((k/26:Nat):Int):=by rw [Int.fdiv_eq_ediv_of_nonneg _ (by decide)]; rfl
 have d2:((k':Int)).fdiv 26=((k'/26:Nat):Int):=by rw [Int.fdiv_eq_ediv_of_nonneg _ (by decide)]; rfl
 rw [d1,d2] at h2
 have z1:k/26≤2:=by omega
 have z2:k'/26≤2:=by omega
 omega
theorem Zov {ns:List Int} {k:Nat} (h:k<ns.length):(ns.map V.int)[k]?=some (V.int (ns.getD k 0)):=by
 simp [List.getD,List.getElem?_eq_getElem h,h]
theorem Zkj {α β:Type} {f:α->β}:∀ {l:List α},(∀ a∈l,∀ b∈l,f a=f b->a=b)->l.Nodup->(l.map f).Nodup
 | [],_,_=>List.nodup_nil
 | a :: l,h,n=>by
  rw [List.nodup_cons] at n
  rw [List.map_cons,List.nodup_cons]
  refine ⟨fun m=>?_,Zkj (fun x hx y hy=>h x (List.mem_cons_of_mem _ hx) y (List.mem_cons_of_mem _ hy)) n.2⟩
  obtain ⟨b,hb,e⟩:=List.mem_map.mp m
  have:=h b (List.mem_cons_of_mem _ hb) a (List.mem_cons_self ..) e
  rw [this] at hb
  exact n.1 hb
theorem Zmm (i:Int):atI ZgN.cps.toList (i.fmod 26)=some (Zlb i):=by
 have h0:=Int.fmod_nonneg_of_pos i (show (0:Int)<26 by decide)
 have h1:=Int.fmod_lt_of_pos i (show (0:Int)<26 by decide)
 obtain ⟨m,hm,hl⟩:∃ m:Nat,i.fmod 26=(m:Int)∧m<26:=⟨(i.fmod 26).toNat,by omega,by omega⟩
 have e:Zlb i=97+m:=by unfold Zlb; rw [hm]; omega
 rw [e,hm]
 have go:∀ m:Fin 26,ZgN.cps.toList[m.val]?=some (97+m.val):=by decide +kernel
 exact Zct (go ⟨m,hl⟩)
theorem Zoc (l:List Nat) (c:Nat):(⟨l.toArray⟩:Str)++⟨#[c]⟩=⟨(l++[c]).toArray⟩:=by
 show (⟨l.toArray++#[c]⟩:Str)=_
 rw [show l.toArray++#[c]=(l++[c]).toArray by simp]
theorem Zqd (l:List Nat):(⟨l.toArray⟩:Str).length=l.length:=by
 show l.toArray.size=_
 rw [List.size_toArray]
theorem ZmZ {H H1:Hp} {a:Addr} {o:HO} (e:Same H H1) (n:H a=none):Same H (upd H1 a o):=fun b u q=>by
 rw [Zai (Zal q n)]
 exact e b u q
theorem Znx (ns:List Int) (a b:Nat):∃ cs:List Int,ZhA (ns.map V.int) (some (a:Int)) (some (b:Int))=cs.map V.int∧cs.length=min b ns.length-min a ns.length:=by
 refine ⟨(ns.drop (min a ns.length)).take (min b ns.length-min a ns.length),?_,?_⟩
 ·unfold ZhA
  rw [List.map_take,List.map_drop,List.length_map,HT.sIx_nat,HT.sIx_nat]
 ·rw [List.length_take,List.length_drop]
  omega
noncomputable def Zaz (bs:List (Ent × Addr)):List V:=bs.map fun p=>V.ref p.2
def RowsAt (K:W.Frag) (H:Hp) (bs:List (Ent × Addr)):Prop:=∀ p∈bs,SqT K H p.2 (p.1.row.map kV)
theorem RowsAt.mono {K:W.Frag} {H H':Hp} {bs:List (Ent × Addr)} (h:RowsAt K H bs) (s:Same H H'):RowsAt K H' bs:=fun p hp=>s.sqt (h p hp)
theorem Zpr {cs:List Int} {i:Nat} {y:V} (h:(cs.map V.int)[i]?=some y):∃ z,y=.int z∧cs[i]?=some z:=by
 rw [List.getElem?_map] at h
 obtain ⟨z,hz,e⟩:=Option.map_eq_some_iff.mp h
 exact ⟨z,e.symm,hz⟩
theorem ZpX (x:Int):∃ s:Str,atI [V.str "he",.str "she",.str ""] (x.fmod 3)=some (.str s)∧(s="he"∨s="she"∨s=""):=by
 have h0:=Int.fmod_nonneg_of_pos x (show (0:Int)<3 by decide)
 have h1:=Int.fmod_lt_of_pos x (show (0:Int)<3 by decide)
 have:x.fmod 3=0∨x.fmod 3=1∨x.fmod 3=2:=by omega
 rcases this with e | e | e <;> rw [e]
 ·exact ⟨"he",Zct (j:=0) rfl,.inl rfl⟩
 ·exact ⟨"she",Zct (j:=1) rfl,.inr (.inl rfl)⟩
 ·exact ⟨"",Zct (j:=2) rfl,.inr (.inr rfl)⟩
theorem Ziw {d:Int} (h1:-10 ^ 18≤d) (h2:d≤10 ^ 18):Zp2 (.int d)=true:=by
 show decide ((if d<0 then -d else d)≤10 ^ 18)=true
 exact decide_eq_true (by split <;> omega)
theorem Zjt {x:Str} (h:x=""∨Nm x):Zfl (.str x)=true:=by
 rcases h with h | h
 ·subst h; decide +kernel
 ·unfold Zfl
  rw [h.ok]
  rfl
theorem ZpU {s:Str} (h:s="he"∨s="she"∨s=""):Zie (.str s)=true:=by
 rcases h with h | h | h <;> subst h <;> decide +kernel
theorem Zff {x:Str} (h:Nm x):x.length≤100:=Nat.le_trans h.hi (by decide)
theorem ZpI {n s f m:Str} {d:Int} (hn:Nm n) (hs:s="he"∨s="she"∨s="") (d1:-10 ^ 18≤d) (d2:d≤10 ^ 18) (hf:f=""∨Nm f) (hm:m=""∨Nm m):(Ent.born n s d f m).Ok:=by
 refine ⟨?_,fun x hx=>?_⟩
 ·show ZcG [.str "born",.str n,.str s,.int d,.str f,.str m]=true
  rw [Zbz,show ZcB "born"=some [.name,.sort,.day,.parent,.parent] by rfl]
  show ZbN _ _=true
  unfold ZbN ZcL
  simp [ZcL,chk,hn.ok,ZpU hs,Ziw d1 d2,Zjt hf,Zjt hm]
 ·have hf':f.length≤100:=hf.elim (fun h=>by subst h; decide +kernel) Zff
  have hm':m.length≤100:=hm.elim (fun h=>by subst h; decide +kernel) Zff
  have hs':s.length≤100:=by rcases hs with h | h | h <;> subst h <;> decide +kernel
  simp only [Ent.row,List.mem_cons,List.not_mem_nil,or_false] at hx
  rcases hx with h | h | h | h | h | h
  ·cases h; decide +kernel
  ·cases h; exact Zff hn
  ·cases h; exact hs'
  ·cases h
  ·cases h; exact hf'
  ·cases h; exact hm'
theorem Zne {w a b:Str} {d:Int} (hw:w="taken"∨w="union"∨w="parted") (ha:Nm a) (hb:Nm b) (d1:-10 ^ 18≤d) (d2:d≤10 ^ 18):ZcG [.str w,.str a,.str b,.int d]=true:=by
 rw [Zbz]
 have:ZcB w=some [.name,.name,.day]:=by rcases hw with h | h | h <;> subst h <;> rfl
 rw [this]
 show ZbN _ _=true
 unfold ZbN
 simp [ZcL,chk,ha.ok,hb.ok,Ziw d1 d2]
theorem Zn0 {w a b:Str} {d:Int} (hw:w.length≤100) (ha:Nm a) (hb:Nm b):∀ x:Str,(.inr x:Key)∈([.inr w,.inr a,.inr b,.inl d]:List Key)->x.length≤100:=fun x hx=>by
 simp only [List.mem_cons,List.not_mem_nil,or_false] at hx
 rcases hx with h | h | h | h
 ·cases h; exact hw
 ·cases h; exact Zff ha
 ·cases h; exact Zff hb
 ·cases h
abbrev LkT:=Str × Str->List Str
abbrev TiT:=Str × Str->List (Int × Str)
noncomputable def ZlC (p:LkT × TiT) (e:Ent):LkT × TiT:=(Zjv p.1 p.2 e,ZmF p.2 e)
noncomputable def ZhN (es:List Ent):LkT × TiT:=es.foldl ZlC (fun _=>[],fun _=>[])
theorem Zfg (es:List Ent) (e:Ent):ZhN (es++[e])=ZlC (ZhN es) e:=by
 unfold ZhN
 rw [List.foldl_append]
 rfl
noncomputable def ZrB (n:Str):Ent->List Str
 | .born n' _ _ f _=>if n'=n∧f≠"" then [f] else []
 | _=>[]
noncomputable def ZrC (n:Str):Ent->List Str
 | .born n' _ _ _ m=>if n'=n∧m≠"" then [m] else []
 | _=>[]
noncomputable def ZrA (n:Str):Ent->List Str
 | .born n' _ _ f _=>if f=n∧f≠"" then [n'] else []
 | _=>[]
noncomputable def Zru (n:Str):Ent->List Str
 | .born n' _ _ _ m=>if m=n∧m≠"" then [n'] else []
 | _=>[]
noncomputable def Zrz (n:Str):Ent->List Str
 | .taken c t _=>if c=n then [t] else []
 | _=>[]
noncomputable def Zrv (n:Str):Ent->List Str
 | .taken c t _=>if t=n then [c] else []
 | _=>[]
theorem Zlr {l:List Str} (h:l.Pairwise fun a b=>Zi7 a b=true):ZaS l=l:=ZiH (Zcq l) (Zfn l) h
theorem Zl2 (l m:List Str):ZaS (ZaS l++m)=ZaS (l++m) :=
 ZiH ((Zcq _).trans (((Zcq l).append_right m).trans (Zcq _).symm)) (Zfn _) (Zfn _)
theorem Zbl (F:LkT) (l n l' n' m:Str):ZbQ F (l,n) m (l',n')=if l'=l∧n'=n then ZaS (F (l,n)++[m]) else F (l',n'):=by
 unfold ZbQ
 by_cases h:l'=l∧n'=n
 ·obtain ⟨rfl,rfl⟩:=h
  rw [if_pos rfl,if_pos ⟨rfl,rfl⟩]
 ·rw [if_neg (fun e=>h (by injection e with a b; exact ⟨a,b⟩)),if_neg h]
theorem ZaJ (F:LkT) (st:Bool) (x y l n:Str) (h:l≠"S"):Zba F st x y (l,n)=F (l,n):=by
 unfold Zba
 rw [if_neg (fun e=>h (by injection e))]
structure Adds (l:Str) (ad:Str->Ent->List Str):Prop where
 step:∀ (F:LkT) (G:TiT) (e:Ent) (n:Str),(F (l,n)).Pairwise (fun a b=>Zi7 a b=true)->Zjv F G e (l,n)=ZaS (F (l,n)++ad n e)
theorem Zao {l:List Str} (h:l.Pairwise fun a b=>Zi7 a b=true):l=ZaS (l++[]):=by rw [List.append_nil,Zlr h]
theorem Zd6 (F : LkT) (n f m l x : Str) : ZcV F n f m (l, x) =
  if l="F"∧x=n∧f≠"" then ZaS (F ("F",n)++[f]) else if l="f"∧x=f∧f≠"" then ZaS (F ("f",f)++[n]) else
  if l="M"∧x=n∧m≠"" then ZaS (F ("M",n)++[m]) else if l="m"∧x=m∧m≠"" then ZaS (F ("m",m)++[n]) else F (l,x):=by
 have d1:("F" : Str)≠"f":=by decide +kernel
 have d2:("F" : Str)≠"M":=by decide +kernel
 have d3:("F" : Str)≠"m":=by decide +kernel
 have d4:("f" : Str)≠"M":=by decide +kernel
 have d5:("f" : Str)≠"m":=by decide +kernel
 have d6:("M" : Str)≠"m":=by decide +kernel
 unfold ZcV
 by_cases f0:f="" <;> by_cases m0:m="" <;> simp only [f0,m0,if_true,if_false,Zbl,ne_eq,not_true_eq_false,not_false_eq_true,and_false,and_true]
 ·by_cases h1:l="m"∧x=m
  ·obtain ⟨rfl,rfl⟩:=h1
   simp [d3.symm,d5.symm,d6.symm,d6]
  ·by_cases h2:l="M"∧x=n
   ·obtain ⟨rfl,rfl⟩:=h2
    simp [d6]
   ·simp [h1,h2]
 ·by_cases h1:l="f"∧x=f
  ·obtain ⟨rfl,rfl⟩:=h1
   simp [d1,d1.symm]
  ·by_cases h2:l="F"∧x=n
   ·obtain ⟨rfl,rfl⟩:=h2
    simp [d1]
   ·simp [h1,h2]
 ·by_cases h1:l="m"∧x=m
  ·obtain ⟨rfl,rfl⟩:=h1
   simp [d3.symm,d5.symm,d6.symm,d6,d3,d5]
  ·by_cases h2:l="M"∧x=n
   ·obtain ⟨rfl,rfl⟩:=h2
    simp [d6,d2,d4,d2.symm,d4.symm]
   ·by_cases h3:l="f"∧x=f
    ·obtain ⟨rfl,rfl⟩:=h3
     simp [d1,d1.symm,d4,d5]
    ·by_cases h4:l="F"∧x=n
     ·obtain ⟨rfl,rfl⟩:=h4
      simp [d1,d2,d3]
     ·simp [h1,h2,h3,h4]
theorem Zqt:Adds "F" ZrB:=⟨fun F G e n s=>by
 cases e with
 | born n' s' d f m =>
  show ZcV F n' f m ("F",n)=_
  rw [Zd6]
  dsimp only [ZrB]
  by_cases h:n'=n∧f≠""
  ·rw [if_pos h,if_pos ⟨rfl,h.1.symm,h.2⟩,h.1]
  ·rw [if_neg h,if_neg (fun z=>h ⟨z.2.1.symm,z.2.2⟩),if_neg (fun z=>absurd z.1 (by decide +kernel)),if_neg (fun z=>absurd z.1 (by decide +kernel)),if_neg (fun z=>absurd z.1 (by decide +kernel))]
   exact Zao s
 | taken c t d=>show ZbQ (ZbQ F ("T",c) t) ("t",t) c ("F",n)=_; rw [Zbl,if_neg (fun z=>absurd z.1 (by decide +kernel)),Zbl,if_neg (fun z=>absurd z.1 (by decide +kernel))]; exact Zao s
 | union a b d=>show Zba _ _ _ _ _=_; rw [ZaJ _ _ _ _ _ _ (by decide +kernel),ZaJ _ _ _ _ _ _ (by decide +kernel)]; exact Zao s
 | parted a b d=>show Zba _ _ _ _ _=_; rw [ZaJ _ _ _ _ _ _ (by decide +kernel),ZaJ _ _ _ _ _ _ (by decide +kernel)]; exact Zao s
 | dead a d=>exact Zao s
 | given a b am d=>exact Zao s⟩
theorem Zq6:Adds "M" ZrC:=⟨fun F G e n s=>by
 cases e with
 | born n' s' d f m =>
  show ZcV F n' f m ("M",n)=_
  rw [Zd6,if_neg (fun z=>absurd z.1 (by decide +kernel)),if_neg (fun z=>absurd z.1 (by decide +kernel))]
  dsimp only [ZrC]
  by_cases h:n'=n∧m≠""
  ·rw [if_pos h,if_pos ⟨rfl,h.1.symm,h.2⟩,h.1]
  ·rw [if_neg h,if_neg (fun z=>h ⟨z.2.1.symm,z.2.2⟩),if_neg (fun z=>absurd z.1 (by decide +kernel))]
   exact Zao s
 | taken c t d=>show ZbQ (ZbQ F ("T",c) t) ("t",t) c ("M",n)=_; rw [Zbl,if_neg (fun z=>absurd z.1 (by decide +kernel)),Zbl,if_neg (fun z=>absurd z.1 (by decide +kernel))]; exact Zao s
 | union a b d=>show Zba _ _ _ _ _=_; rw [ZaJ _ _ _ _ _ _ (by decide +kernel),ZaJ _ _ _ _ _ _ (by decide +kernel)]; exact Zao s
 | parted a b d=>show Zba _ _ _ _ _=_; rw [ZaJ _ _ _ _ _ _ (by decide +kernel),ZaJ _ _ _ _ _ _ (by decide +kernel)]; exact Zao s
 | dead a d=>exact Zao s
 | given a b am d=>exact Zao s⟩
theorem Zqm:Adds "f" ZrA:=⟨fun F G e n s=>by
 cases e with
 | born n' s' d f m =>
  show ZcV F n' f m ("f",n)=_
  rw [Zd6,if_neg (fun z=>absurd z.1 (by decide +kernel))]
  dsimp only [ZrA]
  by_cases h:f=n∧f≠""
  ·rw [if_pos h,if_pos ⟨rfl,h.1.symm,h.2⟩,h.1]
  ·rw [if_neg h,if_neg (fun z=>h ⟨z.2.1.symm,z.2.2⟩),if_neg (fun z=>absurd z.1 (by decide +kernel)),if_neg (fun z=>absurd z.1 (by decide +kernel))]
   exact Zao s
 | taken c t d=>show ZbQ (ZbQ F ("T",c) t) ("t",t) c ("f",n)=_; rw [Zbl,if_neg (fun z=>absurd z.1 (by decide +kernel)),Zbl,if_neg (fun z=>absurd z.1 (by decide +kernel))]; exact Zao s
 | union a b d=>show Zba _ _ _ _ _=_; rw [ZaJ _ _ _ _ _ _ (by decide +kernel),ZaJ _ _ _ _ _ _ (by decide +kernel)]; exact Zao s
 | parted a b d=>show Zba _ _ _ _ _=_; rw [ZaJ _ _ _ _ _ _ (by decide +kernel),ZaJ _ _ _ _ _ _ (by decide +kernel)]; exact Zao s
 | dead a d=>exact Zao s
 | given a b am d=>exact Zao s⟩
theorem Zqo:Adds "m" Zru:=⟨fun F G e n s=>by
 cases e with
 | born n' s' d f m =>
  show ZcV F n' f m ("m",n)=_
  rw [Zd6,if_neg (fun z=>absurd z.1 (by decide +kernel)),if_neg (fun z=>absurd z.1 (by decide +kernel)),if_neg (fun z=>absurd z.1 (by decide +kernel))]
  dsimp only [Zru]
  by_cases h:m=n∧m≠""
  ·rw [if_pos h,if_pos ⟨rfl,h.1.symm,h.2⟩,h.1]
  ·rw [if_neg h,if_neg (fun z=>h ⟨z.2.1.symm,z.2.2⟩)]
   exact Zao s
 | taken c t d=>show ZbQ (ZbQ F ("T",c) t) ("t",t) c ("m",n)=_; rw [Zbl,if_neg (fun z=>absurd z.1 (by decide +kernel)),Zbl,if_neg (fun z=>absurd z.1 (by decide +kernel))]; exact Zao s
 | union a b d=>show Zba _ _ _ _ _=_; rw [ZaJ _ _ _ _ _ _ (by decide +kernel),ZaJ _ _ _ _ _ _ (by decide +kernel)]; exact Zao s
 | parted a b d=>show Zba _ _ _ _ _=_; rw [ZaJ _ _ _ _ _ _ (by decide +kernel),ZaJ _ _ _ _ _ _ (by decide +kernel)]; exact Zao s
 | dead a d=>exact Zao s
 | given a b am d=>exact Zao s⟩
theorem Zei (F:LkT) (n f m l x:Str) (h1:l≠"F") (h2:l≠"f") (h3:l≠"M") (h4:l≠"m"):ZcV F n f m (l,x)=F (l,x):=by
 rw [Zd6,if_neg (fun z=>h1 z.1),if_neg (fun z=>h2 z.1),if_neg (fun z=>h3 z.1),if_neg (fun z=>h4 z.1)]
theorem ZqU:Adds "T" Zrz:=⟨fun F G e n s=>by
 cases e with
 | born n' s' d f m=>show ZcV F n' f m ("T",n)=_; rw [Zei _ _ _ _ _ _ (by decide +kernel) (by decide +kernel) (by decide +kernel) (by decide +kernel)]; exact Zao s
 | taken c t d =>
  show ZbQ (ZbQ F ("T",c) t) ("t",t) c ("T",n)=_
  rw [Zbl,if_neg (fun z=>absurd z.1 (by decide +kernel)),Zbl]
  dsimp only [Zrz]
  by_cases h:c=n
  ·rw [if_pos h,if_pos ⟨rfl,h.symm⟩,h]
  ·rw [if_neg h,if_neg (fun z=>h z.2.symm)]
   exact Zao s
 | union a b d=>show Zba _ _ _ _ _=_; rw [ZaJ _ _ _ _ _ _ (by decide +kernel),ZaJ _ _ _ _ _ _ (by decide +kernel)]; exact Zao s
 | parted a b d=>show Zba _ _ _ _ _=_; rw [ZaJ _ _ _ _ _ _ (by decide +kernel),ZaJ _ _ _ _ _ _ (by decide +kernel)]; exact Zao s
 | dead a d=>exact Zao s
 | given a b am d=>exact Zao s⟩
theorem Zq7:Adds "t" Zrv:=⟨fun F G e n s=>by
 cases e with
 | born n' s' d f m=>show ZcV F n' f m ("t",n)=_; rw [Zei _ _ _ _ _ _ (by decide +kernel) (by decide +kernel) (by decide +kernel) (by decide +kernel)]; exact Zao s
 | taken c t d =>
  show ZbQ (ZbQ F ("T",c) t) ("t",t) c ("t",n)=_
  rw [Zbl]
  dsimp only [Zrv]
  by_cases h:t=n
  ·rw [if_pos h,if_pos ⟨rfl,h.symm⟩,Zbl,if_neg (fun z=>absurd z.1 (by decide +kernel)),h]
  ·rw [if_neg h,if_neg (fun z=>h z.2.symm),Zbl,if_neg (fun z=>absurd z.1 (by decide +kernel))]
   exact Zao s
 | union a b d=>show Zba _ _ _ _ _=_; rw [ZaJ _ _ _ _ _ _ (by decide +kernel),ZaJ _ _ _ _ _ _ (by decide +kernel)]; exact Zao s
 | parted a b d=>show Zba _ _ _ _ _=_; rw [ZaJ _ _ _ _ _ _ (by decide +kernel),ZaJ _ _ _ _ _ _ (by decide +kernel)]; exact Zao s
 | dead a d=>exact Zao s
 | given a b am d=>exact Zao s⟩
theorem Adds.all {l:Str} {ad:Str->Ent->List Str} (A:Adds l ad) (n:Str):∀ es:List Ent,(ZhN es).1 (l,n)=ZaS (es.flatMap (ad n)):=by
 intro es
 have go:∀ (es:List Ent) (p:LkT × TiT) (xs:List Str),p.1 (l,n)=ZaS xs->(es.foldl ZlC p).1 (l,n)=ZaS (xs++es.flatMap (ad n)):=by
  intro es
  induction es with
  | nil=>intro p xs h; rw [List.flatMap_nil,List.append_nil]; exact h
  | cons e es ih =>
   intro p xs h
   rw [List.foldl_cons,List.flatMap_cons,← List.append_assoc]
   refine ih _ (xs++ad n e) ?_
   show Zjv p.1 p.2 e (l,n)=_
   rw [A.step p.1 p.2 e n (by rw [h]; exact Zfn _),h,Zl2]
 exact go es _ [] (Zlr .nil).symm
noncomputable def Ent.pr:Ent->Str × Str
 | .union a b _=>(a,b)
 | .parted a b _=>(a,b)
 | _=>("","")
noncomputable def Ent.kind:Ent->Str
 | .union ..=>"union"
 | .parted ..=>"parted"
 | _=>""
def Zjs (e:Ent):Prop:=e.tie=true->e.pr.1≠e.pr.2
noncomputable def tl (c:Str × Str) (es:List Ent):List (Int × Str):=es.filterMap fun e=>if e.tie=true∧Zaj e.pr.1 e.pr.2=c then some (e.day,e.kind) else none
theorem Zlp {l:List (Int × Str)} {d:Int} {k:Str} (h:d ∉ l.map (·.1)):Zbc l d k=l++[(d,k)]:=by
 unfold Zbc
 rw [if_neg]
 intro z
 rw [List.any_eq_true] at z
 obtain ⟨q,hq,e⟩:=z
 exact h (List.mem_map.mpr ⟨q,hq,of_decide_eq_true e⟩)
theorem ZoX {G:TiT} {es:List Ent} {e:Ent} (hG:∀ c,G c=tl c es) (n:e.tie=true->e.day ∉ (tl (Zaj e.pr.1 e.pr.2) es).map (·.1)) (c:Str × Str):ZmF G e c=tl c (es++[e]):=by
 have ap:tl c (es++[e])=tl c es++tl c [e]:=by unfold tl; rw [List.filterMap_append]
 rw [ap]
 cases e with
 | union a b d =>
  show (if c=Zaj a b then Zbc (G (Zaj a b)) d "union" else G c)=_
  by_cases h:c=Zaj a b
  ·subst h
   have n':d ∉ (tl (Zaj a b) es).map (·.1):=n rfl
   rw [if_pos rfl,hG,Zlp n']
   simp [tl,Ent.tie,Ent.pr,Ent.day,Ent.kind]
  ·rw [if_neg h,hG]
   simp [tl,Ent.tie,Ent.pr,Ne.symm h]
 | parted a b d =>
  show (if c=Zaj a b then Zbc (G (Zaj a b)) d "parted" else G c)=_
  by_cases h:c=Zaj a b
  ·subst h
   have n':d ∉ (tl (Zaj a b) es).map (·.1):=n rfl
   rw [if_pos rfl,hG,Zlp n']
   simp [tl,Ent.tie,Ent.pr,Ent.day,Ent.kind]
  ·rw [if_neg h,hG]
   simp [tl,Ent.tie,Ent.pr,Ne.symm h]
 | _=>rw [show ZmF G _ c=G c from rfl,hG]; simp [tl,Ent.tie]
def Once (es:List Ent):Prop:=∀ c,((tl c es).map (·.1)).Nodup
theorem Once.init {es:List Ent} {e:Ent} (h:Once (es++[e])):Once es∧(e.tie=true->e.day ∉ (tl (Zaj e.pr.1 e.pr.2) es).map (·.1)):=by
 have ap:∀ c,tl c (es++[e])=tl c es++tl c [e]:=fun c=>by unfold tl; rw [List.filterMap_append]
 refine ⟨fun c=>?_,fun t m=>?_⟩
 ·have:=h c
  rw [ap,List.map_append,List.nodup_append] at this
  exact this.1
 ·have:=h (Zaj e.pr.1 e.pr.2)
  rw [ap,List.map_append,List.nodup_append] at this
  have e1:tl (Zaj e.pr.1 e.pr.2) [e]=[(e.day,e.kind)]:=by simp [tl,t]
  rw [e1] at this
  exact this.2.2 _ m _ (List.mem_cons_self ..) rfl
theorem Znf {es:List Ent} (h:Once es) (c:Str × Str):(ZhN es).2 c=tl c es:=by
 have go:∀ n (es:List Ent),es.length=n->Once es->∀ c,(ZhN es).2 c=tl c es:=by
  intro n
  induction n with
  | zero =>
   intro es hl _ c
   rw [List.length_eq_zero_iff.mp hl]
   rfl
  | succ n ih =>
   intro es hl ho c
   obtain ⟨xs,x,rfl⟩:∃ xs x,es=xs++[x]:=⟨es.dropLast,es.getLast (by intro z; rw [z] at hl; cases hl),(List.dropLast_concat_getLast _).symm⟩
   obtain ⟨o1,o2⟩:=ho.init
   rw [Zfg]
   exact ZoX (ih xs (by rw [List.length_append] at hl; exact Nat.succ.inj hl) o1) o2 c
 exact go _ es rfl h c
noncomputable def Ze0 (a b:Str) (last:Option Ent) (e:Ent):Option Ent:=if e.tie=true∧Zaj e.pr.1 e.pr.2=Zaj a b then (match last with | none=>some e | some l=>if l.day<e.day then some e else some l) else last
noncomputable def ZmY (ds:List Ent) (a b:Str):Bool:=match ds.foldl (Ze0 a b) none with
 | some e=>decide (e.kind="union")
 | none=>false
def ZhL (last:Option Ent) (l:List (Int × Str)):Prop:=match last with
 | none=>l=[]
 | some e=>(e.day,e.kind)∈l∧∀ q∈l,q.1≤e.day
theorem Zn4 {a b:Str} {last:Option Ent} {xs:List Ent} {e:Ent} (h:ZhL last (tl (Zaj a b) xs)):ZhL (Ze0 a b last e) (tl (Zaj a b) (xs++[e])):=by
 have ap:tl (Zaj a b) (xs++[e])=tl (Zaj a b) xs++tl (Zaj a b) [e]:=by unfold tl; rw [List.filterMap_append]
 rw [ap]
 unfold Ze0
 by_cases c:e.tie=true∧Zaj e.pr.1 e.pr.2=Zaj a b
 ·rw [if_pos c]
  have e1:tl (Zaj a b) [e]=[(e.day,e.kind)]:=by unfold tl; simp [c.1,c.2]
  rw [e1]
  cases last with
  | none =>
   have h':tl (Zaj a b) xs=[]:=h
   rw [h']
   exact ⟨List.mem_cons_self ..,fun q hq=>by rw [show q=(e.day,e.kind) by simpa using hq]; exact Int.le_refl _⟩
  | some l =>
   obtain ⟨h1,h2⟩:=(show (l.day,l.kind)∈tl (Zaj a b) xs∧∀ q∈tl (Zaj a b) xs,q.1≤l.day from h)
   by_cases lt:l.day<e.day
   ·show ZhL (if l.day<e.day then some e else some l) _
    rw [if_pos lt]
    refine ⟨by simp,fun q hq=>?_⟩
    rcases List.mem_append.mp hq with hq | hq
    ·have:=h2 q hq
     show q.1≤e.day
     omega
    ·rw [show q=(e.day,e.kind) by simpa using hq]
     exact Int.le_refl _
   ·show ZhL (if l.day<e.day then some e else some l) _
    rw [if_neg lt]
    refine ⟨List.mem_append.mpr (.inl h1),fun q hq=>?_⟩
    rcases List.mem_append.mp hq with hq | hq
    ·exact h2 q hq
    ·rw [show q=(e.day,e.kind) by simpa using hq]
     show e.day≤l.day
     omega
 ·rw [if_neg c]
  have e1:tl (Zaj a b) [e]=[]:=by unfold tl; simp [c]
  rw [e1,List.append_nil]
  exact h
theorem Zls {a b:Str}:∀ (ds xs:List Ent) (last:Option Ent),ZhL last (tl (Zaj a b) xs)->ZhL (ds.foldl (Ze0 a b) last) (tl (Zaj a b) (xs++ds))
 | [],xs,last,h=>by rw [List.append_nil]; exact h
 | e :: ds,xs,last,h=>by
  rw [List.foldl_cons,show xs++e :: ds=(xs++[e])++ds by simp]
  exact Zls ds (xs++[e]) _ (Zn4 h)
theorem ZoP {l:List (Int × Str)} {m:Int} {k:Str}:(l.map (·.1)).Nodup->(m,k)∈l->ZaZ m l=some k:=by
 induction l with
 | nil=>intro _ h; cases h
 | cons q r ih =>
  intro n h
  rw [List.map_cons,List.nodup_cons] at n
  unfold ZaZ
  rcases List.mem_cons.mp h with h | h
  ·rw [if_pos (by rw [← h]),← h]
  ·rw [if_neg (fun z=>n.1 (List.mem_map.mpr ⟨(m,k),h,z.symm⟩))]
   exact ih n.2 h
theorem Zp6 {ds:List Ent} (o:Once ds) (a b:Str):ZmY ds a b=Zck (tl (Zaj a b) ds):=by
 have h:=Zls (a:=a) (b:=b) ds [] none rfl
 rw [List.nil_append] at h
 unfold ZmY
 cases hl:ds.foldl (Ze0 a b) none with
 | none =>
  rw [hl] at h
  rw [show tl (Zaj a b) ds=[] from h]
  rfl
 | some e =>
  rw [hl] at h
  obtain ⟨h1,h2⟩:=(show (e.day,e.kind)∈tl (Zaj a b) ds∧∀ q∈tl (Zaj a b) ds,q.1≤e.day from h)
  have:=ZgK (l:=tl (Zaj a b) ds) (m:=e.day) (x:=e.kind) (List.mem_map.mpr ⟨_,h1,rfl⟩) (fun y hy=>by
   obtain ⟨q,hq,rfl⟩:=List.mem_map.mp hy
   exact h2 q hq) (ZoP (o _) h1)
  rw [this]
theorem Zoe (e:Ent):e.told.tie=e.tie∧Zaj e.told.pr.1 e.told.pr.2=Zaj e.pr.1 e.pr.2∧e.told.day=e.day∧e.told.kind=e.kind:=by
 cases e with
 | union a b d=>exact ⟨rfl,Zc6 a b,rfl,rfl⟩
 | parted a b d=>exact ⟨rfl,Zc6 a b,rfl,rfl⟩
 | _=>exact ⟨rfl,rfl,rfl,rfl⟩
theorem Zmp {e:Ent} (h:Zjs e):Zjs e.told:=fun t=>by
 obtain ⟨h1,h2,_,_⟩:=Zoe e
 rw [h1] at t
 have ne:=h t
 intro z
 apply ne
 have:∀ a b:Str,(Zaj a b).1=(Zaj a b).2->a=b:=fun a b h=>by
  unfold Zaj at h
  split at h
  ·exact h.symm
  ·exact h
 cases e with
 | union a b d=>exact this a b z
 | parted a b d=>exact this a b z
 | _=>cases t
theorem Zlj {f:Ent->List Str} (h:∀ e,(f e).length≤1):∀ l:List Ent,(l.flatMap f).length≤l.length
 | []=>Nat.le_refl _
 | e :: l=>by
  rw [List.flatMap_cons,List.length_append,List.length_cons]
  have:=Zlj h l
  have:=h e
  omega
theorem ZfF (n:Str) (e:Ent):(ZrB n e).length≤1∧(ZrC n e).length≤1∧(ZrA n e).length≤1∧(Zru n e).length≤1∧(Zrz n e).length≤1∧(Zrv n e).length≤1:=by
 cases e <;> simp only [ZrB,ZrC,ZrA,Zru,Zrz,Zrv] <;> refine ⟨?_,?_,?_,?_,?_,?_⟩ <;> (try split) <;> simp
theorem ZnW {es:List Ent} {l:Str} (h:l ∉ Zc8) (n:Str):(ZhN es).1 (l,n)=[]:=by
 have hh:l≠"F"∧l≠"M"∧l≠"T"∧l≠"f"∧l≠"m"∧l≠"t"∧l≠"S":=by simpa [Zc8] using h
 obtain ⟨h1,h2,h3,h4,h5,h6,h7⟩:=hh
 have go:∀ (es:List Ent) (p:LkT × TiT),p.1 (l,n)=[]->(es.foldl ZlC p).1 (l,n)=[]:=by
  intro es
  induction es with
  | nil=>intro p h; exact h
  | cons e es ih =>
   intro p h
   rw [List.foldl_cons]
   refine ih _ ?_
   show Zjv p.1 p.2 e (l,n)=[]
   cases e with
   | born n' s d f m=>show ZcV p.1 n' f m (l,n)=[]; rw [Zei _ _ _ _ _ _ h1 h4 h2 h5]; exact h
   | taken c t d=>show ZbQ (ZbQ p.1 ("T",c) t) ("t",t) c (l,n)=[]; rw [Zbl,if_neg (fun z=>h6 z.1),Zbl,if_neg (fun z=>h3 z.1)]; exact h
   | union a b d=>show Zba _ _ _ _ _=[]; rw [ZaJ _ _ _ _ _ _ h7,ZaJ _ _ _ _ _ _ h7]; exact h
   | parted a b d=>show Zba _ _ _ _ _=[]; rw [ZaJ _ _ _ _ _ _ h7,ZaJ _ _ _ _ _ _ h7]; exact h
   | dead a d=>exact h
   | given a b am d=>exact h
 exact go es _ rfl
structure BSt (B:Bk) (es:List Ent):Prop where
 kept:B.kept.map (·.1)=es
 lks:lk B.links=(ZhN es).1
 tis:ZiQ B.ties=(ZhN es).2
 nd:(B.ties.map (·.1)).Nodup
 nl:B.links.length≤4*es.length
 nt:B.ties.length≤es.length
 ns:B.sums.length≤es.length
theorem BSt.start:BSt bk0 []:=⟨rfl,rfl,rfl,.nil,Nat.le_refl _,Nat.le_refl _,Nat.le_refl _⟩
theorem BSt.put {B B':Bk} {es:List Ent} {e:Ent} (h:BSt B es) (p:Put B e B'):BSt B' (es++[e.told]):=by
 obtain ⟨a,hk⟩:=p.kept
 have l1:(es++[e.told]).length=es.length+1:=by rw [List.length_append]; rfl
 have n1:=p.nl
 have n2:=p.nt
 have n3:=p.ns
 have m1:=h.nl
 have m2:=h.nt
 have m3:=h.ns
 refine ⟨by rw [hk,List.map_append,h.kept]; rfl,?_,?_,p.nd,by omega,by omega,by omega⟩
 ·funext c
  rw [Zfg,p.lks,h.lks,h.tis]
  rfl
 ·funext c
  rw [Zfg,p.tis,h.tis]
  rfl
theorem Zpi (c:Str × Str) (es:List Ent):(tl c es).length≤es.length:=List.length_filterMap_le ..
theorem ZjY {κ:Type} [DecidableEq κ] {k:κ}:∀ {l:List (κ × V)},(∀ p∈l,p.1≠k)->ZcP l k=none
 | [],_=>rfl
 | p :: l,h=>by
  rw [Zb9 (h p (List.mem_cons_self ..))]
  exact ZjY fun q hq=>h q (List.mem_cons_of_mem _ hq)
theorem ZoL {B:Bk} {es:List Ent} (hk:B.kept.map (·.1)=es) {k:List Key} (h:∀ e∈es,e.key≠k):ZcP B.keptD k=none:=by
 refine ZjY fun p hp=>?_
 obtain ⟨q,hq,rfl⟩:=List.mem_map.mp hp
 exact h q.1 (by rw [← hk]; exact List.mem_map.mpr ⟨q,hq,rfl⟩)
theorem Zek {B:Bk} {es:List Ent} (hk:B.kept.map (·.1)=es):B.kept.length=es.length:=by rw [← hk,List.length_map]
noncomputable def kD:Key->D
 | .inl i=>.int i
 | .inr x=>.str x
theorem Zkz {K:W.Frag} {H:Hp}:∀ ks:List Key,IsL K H (ks.map kD) (ks.map kV)
 | []=>rfl
 | .inl i :: ks=>⟨_,_,rfl,rfl,Zkz ks⟩
 | .inr x :: ks=>⟨_,_,rfl,rfl,Zkz ks⟩
theorem Zp7 (a b:Key):deq (kD a) (kD b)=decide (a=b):=by
 cases a with
 | inl i =>
  cases b with
  | inl j=>show (i == j)=_; rw [Bool.eq_iff_iff]; simp
  | inr y=>show false=_; rw [decide_eq_false (fun z=>by cases z)]
 | inr x =>
  cases b with
  | inl j=>show false=_; rw [decide_eq_false (fun z=>by cases z)]
  | inr y=>show (x == y)=_; rw [Bool.eq_iff_iff]; simp
theorem Ze5:∀ a b:List Key,Zdg (a.map kD) (b.map kD)=decide (a=b)
 | [],[]=>rfl
 | [],b :: bs=>by show false=_; rw [decide_eq_false (fun z=>by cases z)]
 | a :: as,[]=>by show false=_; rw [decide_eq_false (fun z=>by cases z)]
 | a :: as,b :: bs=>by
  show (deq (kD a) (kD b)&&Zdg (as.map kD) (bs.map kD))=_
  rw [Zp7,Ze5 as bs,Bool.eq_iff_iff]
  simp
theorem Ze8:∀ a:List Key,Zdt (a.map kD)=0
 | []=>rfl
 | a :: as=>by
  show max (dep (kD a)) (Zdt (as.map kD))=0
  rw [Ze8 as]
  cases a <;> rfl
theorem ZgA {K:W.Frag} {H:Hp} {a:Addr} {ks:List Key} (h:SqT K H a (ks.map kV)):Is K H (.tup (ks.map kD)) (.ref a):=⟨a,_,rfl,h,Zkz ks⟩
theorem ZiY (ks:List Key) (j:Nat) (h:j≤ks.length):ZhA (ks.map kV) none (some (j:Int))=(ks.take j).map kV:=by
 unfold ZhA
 show ((ks.map kV).drop 0).take (HT.sIx (ks.map kV).length (ks.map kV).length (some (j:Int))-0)=_
 rw [HT.sIx_nat,List.drop_zero,Nat.sub_zero,List.length_map,Nat.min_eq_left h,List.map_take]
theorem ZiD (e:Ent):3≤e.row.length:=by cases e <;> exact Nat.le_of_ble_eq_true rfl
theorem Zl0 (e:Ent) (c t:Str):decide (e.row.take 3=[.inr "taken",.inr c,.inr t])=decide (e.told.key=[.inr "taken",.inr c,.inr t]):=by
 have h:(e.row.take 3=[(.inr "taken" : Key),.inr c,.inr t])↔(e.told.key=[(.inr "taken" : Key),.inr c,.inr t]):=by
  cases e with
  | taken a b d=>exact Iff.rfl
  | _=>exact ⟨fun z=>(by injection z with z1; exact absurd (Sum.inr.inj z1) (by decide +kernel)),fun z=>(by injection z with z1; exact absurd (Sum.inr.inj z1) (by decide +kernel))⟩
 rw [Bool.eq_iff_iff]
 simp [h]
theorem Zip {e:Ent} {g t:Str} (am d:Int) (h:¬ e.row.take 3=[.inr "given",.inr g,.inr t]):e.told.key≠(Ent.given g t am d).told.key:=by
 intro z
 cases e with
 | given g' t' a' d' =>
  have z':[(.inr "given" : Key),.inr g',.inr t',.inl d']=[.inr "given",.inr g,.inr t,.inl d]:=z
  injection z' with _ z1
  injection z1 with z2 z3
  injection z3 with z4 _
  exact h (by show [(.inr "given" : Key),.inr g',.inr t']=_; rw [Sum.inr.inj z2,Sum.inr.inj z4])
 | _=>injection z with z1; exact absurd (Sum.inr.inj z1) (by decide +kernel)
theorem Zfa {e:Ent} {g t:Str} (h:e.row.take 3=[.inr "given",.inr g,.inr t]):∃ am d,e=.given g t am d:=by
 cases e with
 | given g' t' a' d' =>
  have h':[(.inr "given" : Key),.inr g',.inr t']=[.inr "given",.inr g,.inr t]:=h
  injection h' with _ z1
  injection z1 with z2 z3
  injection z3 with z4 _
  exact ⟨a',d',by rw [Sum.inr.inj z2,Sum.inr.inj z4]⟩
 | _=>injection h with z1; exact absurd (Sum.inr.inj z1) (by decide +kernel)
theorem Zht {bs:List (Ent × Addr)} {i:Nat} {y:V} (h:(Zaz bs)[i]?=some y):∃ p,bs[i]?=some p∧y=.ref p.2:=by
 unfold Zaz at h
 rw [List.getElem?_map] at h
 obtain ⟨p,hp,e⟩:=Option.map_eq_some_iff.mp h
 exact ⟨p,hp,e.symm⟩
theorem ZaX (bs:List (Ent × Addr)):(Zaz bs).length=bs.length:=by unfold Zaz; rw [List.length_map]
theorem ZnX {K:W.Frag} {H:Hp}:∀ zs:List Str,IsL K H (zs.map D.str) (zs.map V.str)
 | []=>rfl
 | z :: zs=>⟨_,_,rfl,rfl,ZnX zs⟩
theorem Zgi:∀ zs:List Str,Zdt (zs.map D.str)=0
 | []=>rfl
 | z :: zs=>by
  show max 0 (Zdt (zs.map D.str))=0
  rw [Zgi zs]
  rfl
theorem Zgl:∀ a b:List Str,Zdg (a.map D.str) (b.map D.str)=decide (a=b)
 | [],[]=>rfl
 | [],b :: bs=>by show false=_; rw [decide_eq_false (fun z=>by cases z)]
 | a :: as,[]=>by show false=_; rw [decide_eq_false (fun z=>by cases z)]
 | a :: as,b :: bs=>by
  show ((a == b)&&Zdg (as.map D.str) (bs.map D.str))=_
  rw [Zgl as bs,Bool.eq_iff_iff]
  simp
theorem Zel {K:W.Frag} {H:Hp} {a:Addr} {zs:List Str} (h:SqL K H a (zs.map V.str)):Is K H (.lst (zs.map D.str)) (.ref a):=⟨a,_,rfl,h,ZnX zs⟩
theorem ZjS (l:List Str):(l.map V.str).all Zim=true:=by
 rw [List.all_map,List.all_eq_true]
 intro x _
 rfl
noncomputable def ZpQ:Option (Ent × Addr)->V
 | none=>.non
 | some p=>.ref p.2
theorem ZnD {β:Type} (f:β->Ent->β) (b:β) {ds:List (Ent × Addr)} {i:Nat} {p:Ent × Addr} (h:ds[i]?=some p):((ds.take (i+1)).map (·.1)).foldl f b=f (((ds.take i).map (·.1)).foldl f b) p.1:=by
 rw [List.take_succ,h,List.map_append,List.foldl_append]
 rfl
theorem ZlK {a b:Str} {last:Option Ent} {e:Ent} (h:¬ (e.tie=true∧Zaj e.pr.1 e.pr.2=Zaj a b)):Ze0 a b last e=last:=by unfold Ze0; rw [if_neg h]
theorem Zk9 {a b:Str} {e:Ent} (h:e.tie=true∧Zaj e.pr.1 e.pr.2=Zaj a b):Ze0 a b none e=some e:=by unfold Ze0; rw [if_pos h]
theorem Zms {a b:Str} {l e:Ent} (h:e.tie=true∧Zaj e.pr.1 e.pr.2=Zaj a b):Ze0 a b (some l) e=if l.day<e.day then some e else some l:=by unfold Ze0; rw [if_pos h]
theorem ZgD {e:Ent} (t:e.tie=true):∃ x y,e.row=[.inr e.kind,.inr x,.inr y,.inl e.day]∧e.pr=(x,y):=by
 cases e with
 | union a b d=>exact ⟨a,b,rfl,rfl⟩
 | parted a b d=>exact ⟨a,b,rfl,rfl⟩
 | _=>cases t
def Zpt (ds:List (Ent × Addr)) (last:Option (Ent × Addr)):Prop:=∀ p,last=some p->p∈ds∧p.1.tie=true
theorem Zo7 {K:W.Frag} {H:Hp}:∀ zs:List Bool,IsL K H (zs.map D.bl) (zs.map V.bl)
 | []=>rfl
 | z :: zs=>⟨_,_,rfl,rfl,Zo7 zs⟩
theorem Zbs {K:W.Frag} {H:Hp} {a:Addr} {zs:List Bool} (h:SqL K H a (zs.map V.bl)):Is K H (.lst (zs.map D.bl)) (.ref a):=⟨a,_,rfl,h,Zo7 zs⟩
theorem Zkr:∀ zs:List Bool,Zdt (zs.map D.bl)=0
 | []=>rfl
 | z :: zs=>by
  show max 0 (Zdt (zs.map D.bl))=0
  rw [Zkr zs]
  rfl
theorem ZcZ:∀ a b:List Bool,Zdg (a.map D.bl) (b.map D.bl)=decide (a=b)
 | [],[]=>rfl
 | [],b :: bs=>by show false=_; rw [decide_eq_false (fun z=>by cases z)]
 | a :: as,[]=>by show false=_; rw [decide_eq_false (fun z=>by cases z)]
 | a :: as,b :: bs=>by
  show ((a == b)&&Zdg (as.map D.bl) (bs.map D.bl))=_
  rw [ZcZ as bs,Bool.eq_iff_iff]
  simp
theorem Zqz {xs:List V} {i:Int} (h0:0≤i) (h1:i<xs.length):∃ o∈xs,atI xs i=some o:=by
 have hi:i.toNat<xs.length:=by omega
 exact ⟨xs[i.toNat],List.getElem_mem _,Zr7 h0 (List.getElem?_eq_getElem hi)⟩
theorem Zq8 {xs:List V} (i:Int) {m:Nat} (h:xs.length=m) (m0:0<m):∃ o∈xs,atI xs (i.fmod (m:Int))=some o:=by
 have h0:=Int.fmod_nonneg_of_pos i (show (0:Int)<m by omega)
 have h1:=Int.fmod_lt_of_pos i (show (0:Int)<m by omega)
 exact Zqz h0 (by rw [h]; exact h1)
structure Keeps (K:W.Frag) (H H':Hp):Prop where
 lst:∀ a xs,H a=some (.lst xs)->H' a=some (.lst xs)
 sql:∀ a xs,SqL K H a xs->SqL K H' a xs
 sqt:∀ a xs,SqT K H a xs->SqT K H' a xs
 al:∀ a,H' a=none->H a=none
theorem ZjF {K:W.Frag} {C:Addr} {H H':Hp} {b dx k bi li ti su y:Addr} {B:Bk} (h:BkAt K C H b dx k bi li ti su B) (bt:But [k,bi,li,ti,su,y] H H') (hy:H y=none∨∃ w,H y=some (.dK w)):Keeps K H H':=by
 have off:∀ {a:Addr} {o:HO},H a=some o->(∀ w,o≠.dK w)->(∀ w,o≠.dT w)->a ∉ [k,bi,li,ti,su,y]:=fun {a o} e n1 n2 m=>by
  simp only [List.mem_cons,List.not_mem_nil,or_false] at m
  rcases m with rfl | rfl | rfl | rfl | rfl | rfl
  ·rw [h.ke] at e; cases e; exact n2 _ rfl
  ·rw [h.bi] at e; cases e; exact n1 _ rfl
  ·rw [h.li] at e; cases e; exact n2 _ rfl
  ·rw [h.ti] at e; cases e; exact n2 _ rfl
  ·rw [h.su] at e; cases e; exact n2 _ rfl
  ·rcases hy with hy | ⟨w,hy⟩ <;> rw [hy] at e <;> cases e
   exact n1 _ rfl
 refine ⟨fun a xs e=>bt.eq _ _ (off e (fun _ z=>by cases z) (fun _ z=>by cases z)) e,fun a xs q=>?_,fun a xs q=>?_,bt.al⟩
 ·rcases q with (e | ⟨o,e⟩) | e
  ·exact .inl (.inl (bt.eq _ _ (off e (fun _ z=>by cases z) (fun _ z=>by cases z)) e))
  ·exact .inl (.inr ⟨o,bt.eq _ _ (off e (fun _ z=>by cases z) (fun _ z=>by cases z)) e⟩)
  ·exact .inr e
 ·rcases q with (e | ⟨o,e⟩) | e
  ·exact .inl (.inl (bt.eq _ _ (off e (fun _ z=>by cases z) (fun _ z=>by cases z)) e))
  ·exact .inl (.inr ⟨o,bt.eq _ _ (off e (fun _ z=>by cases z) (fun _ z=>by cases z)) e⟩)
  ·exact .inr e
theorem BkAt.off {K:W.Frag} {C:Addr} {H:Hp} {b dx k bi li ti su c:Addr} {B:Bk} {xs:List V} {o:HO} (h:BkAt K C H b dx k bi li ti su B) (e:H c=some (.lst xs)) (n:∀ q∈B.links,q.2.1≠c):BkAt K C (upd H c o) b dx k bi li ti su B:=by
 have off:∀ {a:Addr} {o':HO},H a=some o'->(∀ ys,o'≠.lst ys)->upd H c o a=some o':=fun {a o'} ea no=>(Zai (fun z=>by subst z; rw [e] at ea; cases ea; exact no _ rfl)).trans ea
 exact ⟨off h.ob (fun _ z=>by cases z),h.ap,h.at',off h.ke (fun _ z=>by cases z),off h.bi (fun _ z=>by cases z),off h.li (fun _ z=>by cases z),off h.ti (fun _ z=>by cases z),off h.su (fun _ z=>by cases z),
  fun p hp=>ZaO (h.en p hp) e (fun _ z=>by cases z) (fun _ _ z=>by cases z),fun q hq=>(Zai (n q hq)).trans (h.ll q hq),fun q hq=>off (h.tt q hq) (fun _ z=>by cases z)⟩
theorem Zkk {ds:List (Ent × Addr)} {i:Nat} {p:Ent × Addr} (h:ds[i]?=some p):ds.take (i+1)=ds.take i++[p]:=by
 rw [List.take_succ,h]
 rfl
theorem Zgn {H:Hp} {ls ls':List ((Str × Str) × Addr × List Str)} {c:Addr} (g:Grows H ls ls') (h:∀ q∈ls,q.2.1≠c) (hc:H c≠none):∀ q∈ls',q.2.1≠c:=fun q hq z=>by
 rcases g q hq with ⟨p,hp,e⟩ | e
 ·exact h p hp (e.trans z)
 ·rw [z] at e; exact hc e
theorem Zoz {bs:List (Ent × Addr)} {i:Nat} {p:Ent × Addr} (h:bs[i]?=some p):(bs.take (i+1)).map (·.1)=(bs.take i).map (·.1)++[p.1]:=by
 rw [Zkk h,List.map_append]
 rfl
def Zsf (r:List Key):Prop:=∃ e:Ent,r=e.row
theorem Zfi:∀ r q,Zsf r->Zsf q->SA.Comp r q:=by
 rintro r q ⟨e,rfl⟩ ⟨f,rfl⟩
 cases e <;> cases f <;> simp [Ent.row,SA.Comp,SA.sameT] <;> (intro h; exact absurd h (by decide +kernel))
theorem ZdO (e:Ent):∃ z t,e.row=.inr z :: t:=by cases e <;> exact ⟨_,_,rfl⟩
theorem Zhy (l:List (Ent × Addr)):(Bk.bornD l).length=(ZaE l).length:=by rw [Zk1,List.length_map,← ZiT,List.length_map]
theorem ZqY {n:Str} {d:Int} (hn:Nm n) (d1:-10 ^ 18≤d) (d2:d≤10 ^ 18):(Ent.dead n d).Ok:=by
 refine ⟨?_,fun y hy=>?_⟩
 ·show ZcG [.str "dead",.str n,.int d]=true
  rw [Zbz,show ZcB "dead"=some [.name,.day] by rfl]
  show ZbN _ _=true
  unfold ZbN
  simp [ZcL,chk,hn.ok,Ziw d1 d2]
 ·simp only [Ent.row,List.mem_cons,List.not_mem_nil,or_false] at hy
  rcases hy with h | h | h
  ·cases h; decide +kernel
  ·cases h; exact Zff hn
  ·cases h
theorem ZdP:∀ {l m:List (List Key)},l.Perm m->(l.Pairwise fun x y=>SA.rLt y x=false)->(m.Pairwise fun x y=>SA.rLt y x=false)->l=m
 | [],m,p,_,_=>p.nil_eq
 | x :: l,[],p,_,_=>absurd p.length_eq (by simp)
 | x :: l,y :: m,p,h1,h2=>by
  have e:x=y:=by
   by_cases e:x=y
   ·exact e
   have hx:x∈m:=by
    have:x∈y :: m:=p.subset (List.mem_cons_self ..)
    rcases List.mem_cons.mp this with h | h
    ·exact absurd h e
    ·exact h
   have hy:y∈l:=by
    have:y∈x :: l:=p.symm.subset (List.mem_cons_self ..)
    rcases List.mem_cons.mp this with h | h
    ·exact absurd h.symm e
    ·exact h
   exact SA.rLt_total _ _ (List.rel_of_pairwise_cons h2 hx) (List.rel_of_pairwise_cons h1 hy)
  subst e
  rw [ZdP p.cons_inv (List.pairwise_cons.mp h1).2 (List.pairwise_cons.mp h2).2]
noncomputable def Zmu (r:List Key):D:=.tup (r.map kD)
theorem ZeV {K:W.Frag} {H:Hp}:∀ {ps:List (Ent × Addr)},RowsAt K H ps->IsL K H ((ps.map fun p=>p.1.row).map Zmu) (Zaz ps)
 | [],_=>rfl
 | p :: r,h=>⟨_,_,rfl,ZgA (h p (List.mem_cons_self ..)),ZeV fun q hq=>h q (List.mem_cons_of_mem _ hq)⟩
theorem ZiK:∀ rs:List (List Key),Zdt (rs.map Zmu)≤1
 | []=>Nat.zero_le _
 | r :: rs=>by
  show max (Zdt (r.map kD)+1) (Zdt (rs.map Zmu))≤1
  rw [Ze8]
  have:=ZiK rs
  omega
theorem Zgp:∀ rs:List (List Key),Zdg (rs.map Zmu) (rs.map Zmu)=true
 | []=>rfl
 | r :: rs=>by
  show (Zdg (r.map kD) (r.map kD)&&Zdg (rs.map Zmu) (rs.map Zmu))=true
  rw [Ze5,decide_eq_true rfl,Zgp rs]
  rfl
theorem ZqP {g t:Str} {am d:Int} (hg:Nm g) (ht:Nm t) (a1:1≤am) (a2:am≤10 ^ 18) (d1:-10 ^ 18≤d) (d2:d≤10 ^ 18):(Ent.given g t am d).Ok:=by
 refine ⟨?_,fun y hy=>?_⟩
 ·show ZcG [.str "given",.str g,.str t,.int am,.int d]=true
  rw [Zbz,show ZcB "given"=some [.name,.name,.amount,.day] by rfl]
  show ZbN _ _=true
  unfold ZbN
  have am':Zgj (.int am)=true:=by
   show (decide (1≤am)&&decide (am≤10 ^ 18))=true
   rw [decide_eq_true a1,decide_eq_true a2]
   rfl
  simp [ZcL,chk,hg.ok,ht.ok,am',Ziw d1 d2]
 ·simp only [Ent.row,List.mem_cons,List.not_mem_nil,or_false] at hy
  rcases hy with h | h | h | h | h
  ·cases h; decide +kernel
  ·cases h; exact Zff hg
  ·cases h; exact Zff ht
  ·cases h
  ·cases h
noncomputable def amt (c:Str × Str):Ent->Int
 | .given g t am _=>if c=(g,t) then am else 0
 | _=>0
noncomputable def ZlF (c:Str × Str) (es:List Ent):Int:=(es.map (amt c)).sum
theorem Zja (c:Str × Str) (es:List Ent) (e:Ent):ZlF c (es++[e])=ZlF c es+amt c e:=by
 unfold ZlF
 rw [List.map_append,List.sum_append]
 simp
theorem ZlJ {F:Str × Str->List Str} {st:Bool} {a b:Str} (ne:a≠b) (c:Str × Str):(Zba (Zba F st a b) st b a c).length≤(F c).length+1:=by
 by_cases e:c=(("S",b):Str × Str)
 ·refine Nat.le_trans (Zg6 ..) ?_
  have:Zba F st a b c=F c:=by
   unfold Zba
   rw [if_neg]
   intro z
   rw [e] at z
   injection z with _ z2
   exact ne z2.symm
  rw [this]
  exact Nat.le_refl _
 ·have:Zba (Zba F st a b) st b a c=Zba F st a b c:=by
   show (if c=(("S",b):Str × Str) then _ else Zba F st a b c)=_
   rw [if_neg e]
  rw [this]
  exact Zg6 ..
noncomputable def Ent.two:Ent->Bool
 | .union ..=>true
 | .parted ..=>true
 | .given ..=>true
 | _=>false
theorem ZqM {nms:List Str} {z:Int} (h0:0≤z) (h1:z<(nms.length:Int)):∃ n,nms[z.toNat]?=some n∧atI (nms.map V.str) z=some (.str n):=by
 have hi:z.toNat<nms.length:=by omega
 refine ⟨nms[z.toNat],List.getElem?_eq_getElem hi,Zr7 h0 ?_⟩
 rw [List.getElem?_map,List.getElem?_eq_getElem hi]
 rfl
theorem Zoo {c:Str × Str} {e:Ent} (h:¬ e.row.take 3=[.inr "given",.inr c.1,.inr c.2]):amt c e=0:=by
 cases e with
 | given g t am d =>
  show (if c=(g,t) then am else 0)=0
  rw [if_neg]
  intro z
  exact h (by rw [z]; rfl)
 | _=>rfl
theorem Zln {a b:Str} (h:decide (b.cps.toList<a.cps.toList)=true):Zaj a b=(b,a):=by
 unfold Zaj
 rw [if_pos (show Za3 b a=true from h)]
theorem ZjI {a b:Str} (h:decide (b.cps.toList<a.cps.toList)=false):Zaj a b=(a,b):=by
 unfold Zaj
 rw [if_neg (show ¬ Za3 b a=true from by rw [show Za3 b a=false from h]; decide)]
theorem ZkK {x:Ent} (h:x.tie=true):x.told.key=[.inr "tie",.inr (Zaj x.pr.1 x.pr.2).1,.inr (Zaj x.pr.1 x.pr.2).2,.inl x.day]:=by
 cases x <;> first | rfl | cases h
theorem Zlt {x y:Ent} (hx:x.tie=true) (hy:y.tie=true):(x.told.key=y.told.key)↔(Zaj x.pr.1 x.pr.2=Zaj y.pr.1 y.pr.2∧x.day=y.day):=by
 rw [ZkK hx,ZkK hy]
 constructor
 ·intro h
  injection h with _ h
  injection h with h1 h
  injection h with h2 h
  injection h with h3
  exact ⟨Prod.ext (Sum.inr.inj h1) (Sum.inr.inj h2),Sum.inl.inj h3⟩
 ·rintro ⟨h1,h2⟩
  rw [h1,h2]
theorem Zpv {e:Ent} (h:e.tie=true):e.kind="union"∨e.kind="parted":=by
 cases e with
 | union=>exact .inl rfl
 | parted=>exact .inr rfl
 | _=>cases h
theorem ZnN {e:Ent} (h:e.tie=true):inV (V.str e.kind) [V.str "union",V.str "parted"]=true:=by rcases Zpv h with z | z <;> rw [z] <;> decide +kernel
noncomputable def Zn9 (c m:Int):Int:=((c*48271).fmod 2147483647).fmod m
def D5 (pool:List Str) (e:Ent):Prop:=e.Ok∧(∀ n∈e.named,n∈pool)∧∀ n,e.bornName=some n->n∈pool
theorem Zhb (x:Int) {n:Int} (h:0<n):0≤x.fmod n∧x.fmod n<n:=⟨Int.fmod_nonneg_of_pos x h,Int.fmod_lt_of_pos x h⟩
noncomputable def LBk (ks:List (Ent × Addr)):Bk:=⟨ks,[],[],[]⟩
noncomputable def Zpl:Option Rf->Int
 | none=>-1
 | some .full=>1
 | some .person=>2
 | some .twice=>3
 | some .fit=>4
noncomputable def mOf:Rf->List Bool
 | .full=>[false,true,false,false,false]
 | .person=>[false,false,true,false,false]
 | .twice=>[false,false,false,true,false]
 | .fit=>[false,false,false,false,true]
noncomputable def Zrx:List Bool:=[true,false,false,false,false]
structure KsOk (ks:List (Ent × Addr)):Prop where
 told:∀ p∈ks,p.1.told=p.1
 nd:(ZaE ks).Nodup
 len:ks.length≤60
noncomputable def Ent.word:Ent->Str
 | .born ..=>"born"
 | .taken ..=>"taken"
 | .union ..=>"union"
 | .parted ..=>"parted"
 | .dead ..=>"dead"
 | .given ..=>"given"
theorem ZdV (x:Ent):atI (x.row.map kV) 0=some (.str x.word):=by cases x <;> rfl
theorem ZhW {x y:Ent} (hx:x.tie=false) (hy:y.tie=true):x.told.key≠y.told.key:=by
 rw [ZkK hy]
 cases x with
 | union=>cases hx
 | parted=>cases hx
 | _=>intro z; exact absurd (List.cons.inj z).1 (by decide +kernel)
theorem Zlx {x:Ent} (hx:x.tie=false):inV (V.str x.word) [V.str "union",V.str "parted"]=false:=by
 cases x with
 | union=>cases hx
 | parted=>cases hx
 | _=>simp only [Ent.word]; decide +kernel
noncomputable def Ent.kw:Ent->Str
 | .born ..=>"born"
 | .taken ..=>"taken"
 | .union ..=>"tie"
 | .parted ..=>"tie"
 | .dead ..=>"dead"
 | .given ..=>"given"
theorem ZhB {x y:Ent} (h:x.kw≠y.kw):x.told.key≠y.told.key:=fun z=>by
 have g:∀ e:Ent,e.told.key.head?=some (.inr e.kw):=fun e=>by cases e <;> rfl
 have e1:=g x
 rw [z,g y] at e1
 exact h (Sum.inr.inj (Option.some.inj e1)).symm
theorem ZcA {K:W.Frag} {H:Hp} {ks:List (Ent × Addr)} {n:Str} (kn:Known (LBk ks) n) (hR:RowsAt K H ks):∃ a s d f m,ZcP (Bk.bornD ks) (.inr n:Key)=some (.ref a)∧SqT K H a ((Ent.born n s d f m).row.map kV)∧Zj2 (LBk ks) n=s∧Zc9 (LBk ks) n=d:=by
 cases hb:ZaD n ks with
 | none=>exact absurd hb kn
 | some p =>
  obtain ⟨pm,pn⟩:=Zc2 hb
  obtain ⟨e,a⟩:=p
  cases e with
  | born n' s d f m =>
   cases (show n'=n from Option.some.inj pn)
   exact ⟨a,s,d,f,m,by rw [Ze9,hb]; rfl,hR _ pm,ZlD (B:=LBk ks) hb rfl,ZgH (B:=LBk ks) hb rfl⟩
  | _=>cases pn
theorem Zkh {n:Str}:∀ {l m:List (Ent × Addr)},l.map (·.1)=m.map (·.1)->(ZaD n l).map (·.1)=(ZaD n m).map (·.1):=by
 intro l
 induction l with
 | nil=>intro m h; cases m with
  | nil=>rfl
  | cons q m=>cases h
 | cons p l ih=>intro m h; cases m with
  | nil=>cases h
  | cons q m =>
   have h1:p.1=q.1:=(List.cons.inj h).1
   have h2:=(List.cons.inj h).2
   unfold ZaD
   by_cases c:p.1.bornName=some n
   ·rw [if_pos c,if_pos (by rw [← h1]; exact c)]
    exact congrArg some h1
   ·rw [if_neg c,if_neg (by rw [← h1]; exact c)]
    exact ih h2
theorem ZhS {B C:Bk} (h:B.kept.map (·.1)=C.kept.map (·.1)) (n:Str):ZgR B n=ZgR C n:=by
 have e:=Zkh (n:=n) h
 unfold ZgR
 cases h1:ZaD n B.kept with
 | none =>
  cases h2:ZaD n C.kept with
  | none=>rfl
  | some q=>rw [h1,h2] at e; cases e
 | some p =>
  cases h2:ZaD n C.kept with
  | none=>rw [h1,h2] at e; cases e
  | some q =>
   rw [h1,h2] at e
   obtain ⟨pe,pa⟩:=p
   obtain ⟨qe,qa⟩:=q
   cases (show pe=qe from Option.some.inj e)
   cases pe <;> rfl
theorem ZoI {B C:Bk} (h:B.kept.map (·.1)=C.kept.map (·.1)) (e:Ent):Zdy B e=Zdy C e:=by
 have s:Zj2 B=Zj2 C:=funext fun n=>by unfold Zj2; rw [ZhS h]
 have d:Zc9 B=Zc9 C:=funext fun n=>by unfold Zc9; rw [ZhS h]
 unfold Zdy Zgo
 rw [s,d]
theorem Znk {k:List Key}:∀ {l m:List (Ent × Addr)},l.map (·.1)=m.map (·.1)->(ZcP (l.map fun p=>(p.1.key,V.ref p.2)) k).isSome=(ZcP (m.map fun p=>(p.1.key,V.ref p.2)) k).isSome:=by
 intro l
 induction l with
 | nil=>intro m h; cases m with
  | nil=>rfl
  | cons q m=>cases h
 | cons p l ih=>intro m h; cases m with
  | nil=>cases h
  | cons q m =>
   have h1:p.1=q.1:=(List.cons.inj h).1
   have h2:=(List.cons.inj h).2
   rw [List.map_cons,List.map_cons]
   by_cases c:p.1.key=k
   ·rw [Zce (show (p.1.key,V.ref p.2).1=k from c),Zce (show q.1.key=k by rw [← h1]; exact c)]
    rfl
   ·rw [Zb9 (show ¬ (p.1.key,V.ref p.2).1=k from c),Zb9 (show ¬ q.1.key=k by rw [← h1]; exact c)]
    exact ih h2
theorem ZjE {l m:List (Ent × Addr)} (h:l.map (·.1)=m.map (·.1)):ZaE l=ZaE m:=by
 have e:∀ l:List (Ent × Addr),ZaE l=(l.map (·.1)).filterMap Ent.bornName:=fun l=>by
  unfold ZaE
  rw [List.filterMap_map]
  rfl
 rw [e,e,h]
theorem ZnC {B C:Bk} (h:B.kept.map (·.1)=C.kept.map (·.1)) (e:Ent):ZdM B e=ZdM C e:=by
 have l:B.kept.length=C.kept.length:=by have:=congrArg List.length h; rwa [List.length_map,List.length_map] at this
 have b:(Bk.bornD B.kept).length=(Bk.bornD C.kept).length:=by rw [Zhy,Zhy,ZjE h]
 have k:∀ n,(ZaD n B.kept).isSome=(ZaD n C.kept).isSome:=fun n=>by
  have:=congrArg Option.isSome (Zkh (n:=n) h)
  rwa [Option.isSome_map,Option.isSome_map] at this
 have v:(ZcP B.keptD e.told.key).isSome=(ZcP C.keptD e.told.key).isSome:=Znk h
 unfold ZdM Bk.full
 rw [l,b,v,ZoI h e]
 simp only [k]
theorem Zm1 {k:List Key}:∀ {ks:List (Ent × Addr)},(∃ p∈ks,p.1.key=k)->(ZcP (LBk ks).keptD k).isSome=true:=by
 intro ks
 induction ks with
 | nil=>rintro ⟨p,hp,_⟩; cases hp
 | cons q ks ih =>
  rintro ⟨p,hp,e⟩
  show (ZcP ((q.1.key,V.ref q.2) :: (LBk ks).keptD) k).isSome=true
  by_cases c:q.1.key=k
  ·rw [Zce (show (q.1.key,V.ref q.2).1=k from c)]; rfl
  ·rw [Zb9 (show ¬ (q.1.key,V.ref q.2).1=k from c)]
   rcases List.mem_cons.mp hp with rfl | hp
   ·exact absurd e c
   ·exact ih ⟨p,hp,e⟩
theorem Zhm {ks:List (Ent × Addr)} {e:Ent} (k:KsOk ks) (b:e.isBorn=true->(ZaE ks).length<60):(LBk ks).full e=false:=by
 have:=k.len
 unfold Bk.full
 rw [show (LBk ks).kept=ks from rfl,decide_eq_false (show ¬ 400≤ks.length by omega),Zhy]
 cases hb:e.isBorn with
 | false=>rfl
 | true=>rw [decide_eq_false (show ¬ 60≤(ZaE ks).length by have:=b hb; omega)]; rfl
noncomputable def Zjq (p:Ent × Addr):Option (Str × Addr):=p.1.bornName.map fun n=>(n,p.2)
theorem ZmO (ks:List (Ent × Addr)):((ks.map Zjq).filterMap id).map (fun q=>((.inr q.1:Key),V.ref q.2))=Bk.bornD ks:=by
 unfold Bk.bornD Zjq
 rw [List.filterMap_map,List.map_filterMap]
 congr 1
 funext p
 show Option.map _ (Option.map _ _)=_
 rw [Option.map_map]
 rfl
theorem Zkv (ks:List (Ent × Addr)):((ks.map Zjq).filterMap id).map (·.1)=ZaE ks:=by
 unfold ZaE Zjq
 rw [List.filterMap_map,List.map_filterMap]
 congr 1
 funext p
 show Option.map _ (Option.map _ _)=_
 rw [Option.map_map]
 cases p.1.bornName <;> rfl
theorem Zhh {ns:List Str} {B:Bk} {m dd:Int} (hm:m∈ns.map (Zc9 B)) (hx:∀ x∈ns.map (Zc9 B),x≤m):decide (m≤dd)=ns.all fun n=>decide (Zc9 B n≤dd):=by
 rw [Bool.eq_iff_iff,decide_eq_true_iff,List.all_eq_true]
 constructor
 ·intro h n hn
  have:=hx _ (List.mem_map.mpr ⟨n,hn,rfl⟩)
  exact decide_eq_true (by omega)
 ·intro h
  obtain ⟨n,hn,rfl⟩:=List.mem_map.mp hm
  exact of_decide_eq_true (h n hn)
theorem Zmh {K:W.Frag} {H:Hp}:∀ {ys:List V} {ms:List (Str × Addr)},ys.length=ms.length->(∀ (j:Nat) (y:V) (a:Str × Addr),ys[j]?=some y->ms[j]?=some a->∃ t,y=.ref t∧SqT K H t [.str a.1,.ref a.2])->∃ ps:List (Addr × Str × V),ys=ps.map (fun p=>V.ref p.1)∧ps.map (·.2)=ms.map (fun q=>(q.1,V.ref q.2))∧∀ p∈ps,SqT K H p.1 [.str p.2.1,p.2.2]:=by
 intro ys
 induction ys with
 | nil=>intro ms hl _; cases ms with
  | nil=>exact ⟨[],rfl,rfl,fun p hp=>by cases hp⟩
  | cons a ms=>simp at hl
 | cons y ys ih=>intro ms hl h; cases ms with
  | nil=>simp at hl
  | cons a ms =>
   obtain ⟨t,rfl,ht⟩:=h 0 y a rfl rfl
   obtain ⟨ps,h1,h2,h3⟩:=ih (ms:=ms) (by simpa using hl) fun j y b e1 e2=>h (j+1) y b (by simpa using e1) (by simpa using e2)
   refine ⟨(t,a.1,.ref a.2) :: ps,by rw [h1]; rfl,by rw [List.map_cons,List.map_cons,h2],fun p hp=>?_⟩
   rcases List.mem_cons.mp hp with rfl | hp
   ·exact ht
   ·exact h3 p hp
theorem Zll {K:W.Frag} {H H':Hp} {u:V} (h:Bad K H u) (s:Same H H'):Bad K H' u:=by
 rcases h with ⟨t,a,b⟩ | ⟨ts,a,b⟩
 ·exact .inl ⟨t,a.mono s,b⟩
 ·exact .inr ⟨ts,a.mono s,b⟩
noncomputable def Zot (z:Int):List Bool:=[0,1,2,3,4].map fun k:Int=>decide (V.int k=V.int z)
theorem ZqH (r:Rf):mOf r=Zot (Zpl (some r)):=by cases r <;> decide
theorem Zp0:Zrx=Zot 0:=by decide
theorem Zm3 (z:Int) {i:Nat} {y:V} (h:((Zot z).map V.bl)[i]?=some y):y=.bl (decide (V.int (i:Int)=V.int z)):=by
 have:i=0∨i=1∨i=2∨i=3∨i=4∨5≤i:=by omega
 rcases this with rfl | rfl | rfl | rfl | rfl | h5
 ·exact (Option.some.inj h).symm
 ·exact (Option.some.inj h).symm
 ·exact (Option.some.inj h).symm
 ·exact (Option.some.inj h).symm
 ·exact (Option.some.inj h).symm
 ·rw [List.getElem?_eq_none (by show 5≤i; exact h5)] at h
  cases h
theorem ZpV {e:Ent} (h:e.two=true):∃ x y:Str,atI (e.row.map kV) 1=some (.str x)∧atI (e.row.map kV) 2=some (.str y)∧ZhA (e.row.map kV) (some 1) (some 3)=[x,y].map V.str:=by
 cases e with
 | union x y d=>exact ⟨x,y,rfl,rfl,rfl⟩
 | parted x y d=>exact ⟨x,y,rfl,rfl,rfl⟩
 | given x y am d=>exact ⟨x,y,rfl,rfl,rfl⟩
 | _=>cases h
theorem ZhR {l:List (Ent × Addr)} {n:Str} (h:n∈ZaE l):ZaD n l≠none:=by
 induction l with
 | nil=>cases h
 | cons p l ih =>
  unfold ZaD
  by_cases c:p.1.bornName=some n
  ·rw [if_pos c]; simp
  ·rw [if_neg c]
   refine ih ?_
   unfold ZaE at h ⊢
   rw [List.filterMap_cons] at h
   cases hb:p.1.bornName with
   | none=>rw [hb] at h; exact h
   | some z =>
    rw [hb] at h
    rcases List.mem_cons.mp h with rfl | h
    ·exact absurd hb c
    ·exact h
noncomputable def ZoM (p:Ent × Addr):Option V:=p.1.bornName.map V.str
theorem Zn7 (ks:List (Ent × Addr)):(ks.map ZoM).filterMap id=(ZaE ks).map V.str:=by
 unfold ZaE ZoM
 rw [List.filterMap_map,List.map_filterMap]
 rfl
theorem Zmv {x y:Str} {e:Ent} {am d:Int} (h:e=.given x y am d):amt (x,y) e=am:=by
 subst h
 show (if (x,y)=(x,y) then am else 0)=am
 rw [if_pos rfl]
theorem ZlA {e:Ent}:inV (V.str e.word) [V.str "union",V.str "parted",V.str "given"]=e.two:=by
 cases e <;> (simp only [Ent.word,Ent.two]; decide +kernel)
theorem Zoj {e:Ent}:inV (V.str e.word) [V.str "union",V.str "parted"]=e.tie:=by
 cases e <;> (simp only [Ent.word,Ent.tie]; decide +kernel)
theorem ZoG (c:Str × Str) {ks:List (Ent × Addr)} {i:Nat} {p:Ent × Addr} (h:ks[i]?=some p):ZlF c ((ks.take (i+1)).map (·.1))=ZlF c ((ks.take i).map (·.1))+amt c p.1:=by
 rw [Zoz h,Zja]
theorem ZrG:∀ {es:List Ent},(∀ e∈es,Zjs e)->∀ n,((ZhN es).1 ("S",n)).length≤es.length:=by
 have go:∀ k (es:List Ent),es.length=k->(∀ e∈es,Zjs e)->∀ n,((ZhN es).1 ("S",n)).length≤es.length:=by
  intro k
  induction k with
  | zero =>
   intro es h _ n
   have:es=[]:=List.eq_nil_of_length_eq_zero h
   subst this
   exact Nat.le_refl _
  | succ k ih =>
   intro es h ap n
   have ne:es≠[]:=fun z=>by rw [z] at h; cases h
   obtain ⟨xs,e,rfl⟩:∃ xs e,es=xs++[e]:=⟨_,_,(List.dropLast_concat_getLast ne).symm⟩
   have lx:xs.length=k:=by rw [List.length_append] at h; exact Nat.succ.inj h
   have ih:=ih xs lx (fun x hx=>ap x (List.mem_append.mpr (.inl hx))) n
   have ae:=ap e (List.mem_append.mpr (.inr (List.mem_singleton.mpr rfl)))
   rw [Zfg,List.length_append]
   have key:(Zjv (ZhN xs).1 (ZhN xs).2 e ("S",n)).length≤((ZhN xs).1 ("S",n)).length+1:=by
    cases e with
    | born n' s d f m =>
     show (ZcV (ZhN xs).1 n' f m ("S",n)).length≤_
     rw [Zei _ _ _ _ _ _ (by decide +kernel) (by decide +kernel) (by decide +kernel) (by decide +kernel)]
     exact Nat.le_succ _
    | taken c t d =>
     show (ZbQ (ZbQ (ZhN xs).1 ("T",c) t) ("t",t) c ("S",n)).length≤_
     rw [Zbl,if_neg (fun z=>absurd z.1 (by decide +kernel)),Zbl,if_neg (fun z=>absurd z.1 (by decide +kernel))]
     exact Nat.le_succ _
    | union a b d=>exact ZlJ (ae rfl) _
    | parted a b d=>exact ZlJ (ae rfl) _
    | dead a d=>exact Nat.le_succ _
    | given a b am d=>exact Nat.le_succ _
   show (Zjv (ZhN xs).1 (ZhN xs).2 e ("S",n)).length≤xs.length+1
   omega
 intro es h n
 exact go es.length es rfl h n
theorem ZqI {es:List Ent} (h:∀ e∈es,Zjs e) (c:Str × Str):((ZhN es).1 c).length≤es.length:=by
 obtain ⟨l,n⟩:=c
 have six:∀ {ad:Str->Ent->List Str},Adds l ad->(∀ e,(ad n e).length≤1)->((ZhN es).1 (l,n)).length≤es.length:=fun A h1=>by
  rw [A.all,(Zcq _).length_eq]
  exact Zlj h1 es
 by_cases hl:l∈Zc8
 ·simp only [Zc8,List.mem_cons,List.not_mem_nil,or_false] at hl
  rcases hl with rfl | rfl | rfl | rfl | rfl | rfl | rfl
  ·exact six Zqt fun e=>(ZfF n e).1
  ·exact six Zq6 fun e=>(ZfF n e).2.1
  ·exact six ZqU fun e=>(ZfF n e).2.2.2.2.1
  ·exact six Zqm fun e=>(ZfF n e).2.2.1
  ·exact six Zqo fun e=>(ZfF n e).2.2.2.1
  ·exact six Zq7 fun e=>(ZfF n e).2.2.2.2.2
  ·exact ZrG h n
 ·rw [ZnW hl]; exact Nat.zero_le _
theorem Znn {ds:List Ent} (h:(ds.map fun e=>e.told.key).Nodup):Once ds:=by
 intro c
 have go:∀ ds:List Ent,(ds.map fun e=>e.told.key).Nodup->((tl c ds).map (·.1)).Nodup:=by
  intro ds
  induction ds with
  | nil=>intro _; exact .nil
  | cons e ds ih =>
   intro n
   rw [List.map_cons,List.nodup_cons] at n
   have ih:=ih n.2
   unfold tl at ih ⊢
   rw [List.filterMap_cons]
   by_cases cc:e.tie=true∧Zaj e.pr.1 e.pr.2=c
   ·rw [if_pos cc]
    show (_ :: _).Nodup
    rw [List.nodup_cons]
    refine ⟨fun m=>?_,ih⟩
    obtain ⟨q,hq,eq⟩:=List.mem_map.mp m
    obtain ⟨x,hx,ex⟩:=List.mem_filterMap.mp hq
    by_cases c2:x.tie=true∧Zaj x.pr.1 x.pr.2=c
    ·rw [if_pos c2] at ex
     have:=Option.some.inj ex
     subst this
     refine n.1 (List.mem_map.mpr ⟨x,hx,?_⟩)
     have kk:∀ y:Ent,y.tie=true->y.told.key=[.inr "tie",.inr (Zaj y.pr.1 y.pr.2).1,.inr (Zaj y.pr.1 y.pr.2).2,.inl y.day]:=fun y hy=>by
      cases y with
      | union=>rfl
      | parted=>rfl
      | _=>cases hy
     rw [kk x c2.1,kk e cc.1,c2.2,cc.2,show x.day=e.day from eq]
    ·rw [if_neg c2] at ex
     cases ex
   ·rw [if_neg cc]
    exact ih
 exact go ds h
structure LI5 (pool:List Str) (B:Bk) (ks:List (Ent × Addr)):Prop where
 st:BSt B (ks.map (·.1))
 sus:∀ c,Zif B.sums c=ZlF c (ks.map (·.1))
 told:∀ p∈ks,p.1.told=p.1
 keys:(ks.map fun p=>p.1.told.key).Nodup
 inp:∀ p∈ks,∀ n,p.1.bornName=some n->n∈pool
 ap:∀ p∈ks,Zjs p.1
theorem LI5.start (pool:List Str):LI5 pool bk0 []:=⟨BSt.start,fun _=>rfl,fun p hp=>(by cases hp),.nil,fun p hp=>(by cases hp),fun p hp=>(by cases hp)⟩
theorem LI5.ap' {pool:List Str} {B:Bk} {ks:List (Ent × Addr)} (h:LI5 pool B ks):∀ e∈ks.map (·.1),Zjs e:=fun e he=>by
 obtain ⟨p,hp,rfl⟩:=List.mem_map.mp he
 exact h.ap p hp
theorem LI5.once {pool:List Str} {B:Bk} {ks:List (Ent × Addr)} (h:LI5 pool B ks):Once (ks.map (·.1)):=by
 refine Znn ?_
 rw [List.map_map]
 exact h.keys
theorem LI5.room {pool:List Str} {B:Bk} {ks:List (Ent × Addr)} (h:LI5 pool B ks) (l:ks.length≤60):Room1 B:=by
 have e:(ks.map (·.1)).length=ks.length:=List.length_map ..
 have m1:=h.st.nl
 have m2:=h.st.nt
 have m3:=h.st.ns
 refine ⟨h.st.nd,by omega,by omega,by omega,fun c=>?_,fun c=>?_⟩
 ·rw [h.st.lks]
  exact Nat.le_trans (ZqI h.ap' c) (by omega)
 ·rw [h.st.tis,Znf h.once]
  exact Nat.le_trans (Zpi c _) (by omega)
theorem LI5.stands {pool:List Str} {B:Bk} {ks:List (Ent × Addr)} (h:LI5 pool B ks) (x y:Str):ZfD B x y=ZmY (ks.map (·.1)) x y:=by
 rw [Zp6 h.once]
 show Zck (Zbw B (Zaj x y))=_
 rw [Zlf,h.st.tis,Znf h.once]
theorem Znz (e:Ent):e.told.bornName=e.bornName:=by cases e <;> rfl
theorem ZlX {B:Bk} {e:Ent} (h:Zdy B e=true):Zjs e:=fun t=>by
 cases e with
 | union a b d =>
  intro z
  rw [Zcy rfl,show (Ent.union a b d).same=true from decide_eq_true (show a=b from z)] at h
  cases h
 | parted a b d =>
  intro z
  rw [Zcy rfl,show (Ent.parted a b d).same=true from decide_eq_true (show a=b from z)] at h
  cases h
 | _=>cases t
theorem Zo4 {B:Bk} {e:Ent} (h:ZdM B e=none):B.kept.length<400∧(e.isBorn=true->(Bk.bornD B.kept).length<60)∧(∀ n∈e.named,Known B n)∧ZcP B.keptD e.told.key=none∧Zdy B e=true:=by
 obtain ⟨h1,h2,h3⟩:=Zjz h
 unfold ZdM at h
 by_cases f:B.full e=true
 ·rw [if_pos f] at h; cases h
 ·rw [if_neg f,if_neg (by rw [Zfr h3]; decide),if_neg (by rw [h1]; decide)] at h
  refine ⟨h2,fun b=>?_,h3,h1,?_⟩
  ·unfold Bk.full at f
   rw [b,Bool.true_and,Bool.or_eq_true,not_or] at f
   have:=f.2
   rw [decide_eq_true_eq] at this
   omega
  ·cases hf:Zdy B e with
   | true=>rfl
   | false=>rw [hf,if_neg (by decide)] at h; cases h
theorem LI5.put {pool:List Str} {B B':Bk} {ks:List (Ent × Addr)} {e:Ent} (h:LI5 pool B ks) (p:Put B e B') (d:D5 pool e) (no:ZdM B e=none) (a:Addr):LI5 pool B' (ks++[(e.told,a)]):=by
 obtain ⟨_,_,_,hv,hf⟩:=Zo4 no
 have st:=h.st.put p
 have em:(ks++[(e.told,a)]).map (·.1)=ks.map (·.1)++[e.told]:=by rw [List.map_append]; rfl
 rw [← em] at st
 have one:∀ q∈ks++[(e.told,a)],q∈ks∨q=(e.told,a):=fun q hq=>(List.mem_append.mp hq).imp id (fun z=>by simpa using z)
 refine ⟨st,fun c=>?_,fun q hq=>?_,?_,fun q hq n hn=>?_,fun q hq=>?_⟩
 ·rw [p.su c,em,Zja]
  generalize e.told=e' at *
  cases e' with
  | given x y am d =>
   show (if c=(x,y) then Zif B.sums c+am else Zif B.sums c)=ZlF c _+(if c=(x,y) then am else 0)
   rw [h.sus]
   split <;> simp
  | _=>rw [show ZoT (Zif B.sums) _ c=Zif B.sums c from rfl,h.sus]; exact (Int.add_zero _).symm
 ·rcases one q hq with hq | rfl
  ·exact h.told q hq
  ·exact Zfm e
 ·rw [List.map_append,List.nodup_append]
  refine ⟨h.keys,by simp,fun x hx y hy z=>?_⟩
  have hy':y=e.told.told.key:=by simpa using hy
  obtain ⟨q,hq,rfl⟩:=List.mem_map.mp hx
  have kn:(ZcP (LBk ks).keptD e.told.key).isSome=true:=Zm1 ⟨q,hq,by rw [h.told q hq] at z; rw [z,hy',Zfm]⟩
  have kv:(ZcP B.keptD e.told.key).isSome=(ZcP (LBk ks).keptD e.told.key).isSome:=Znk (l:=B.kept) (m:=ks) h.st.kept
  rw [kn,hv] at kv
  cases kv
 ·rcases one q hq with hq | rfl
  ·exact h.inp q hq n hn
  ·exact d.2.2 n (by rw [← Znz]; exact hn)
 ·rcases one q hq with hq | rfl
  ·exact h.ap q hq
  ·exact Zmp (ZlX hf)
theorem Znm {l m:List Str} (h:l.Nodup) (s:∀ x∈l,x∈m):l.length≤m.length:=by
 induction l generalizing m with
 | nil=>exact Nat.zero_le _
 | cons a l ih =>
  have hn:=List.nodup_cons.mp h
  have am:=s a (List.mem_cons_self ..)
  have:=ih (m:=m.erase a) hn.2 fun x hx=>(List.mem_erase_of_ne (fun z=>hn.1 (by rw [← z]; exact hx))).mpr (s x (List.mem_cons_of_mem _ hx))
  rw [List.length_erase_of_mem am] at this
  have:=List.length_pos_of_mem am
  rw [List.length_cons]
  omega
theorem LI5.names {pool:List Str} {B:Bk} {ks:List (Ent × Addr)} (h:LI5 pool B ks):(ZaE ks).Nodup∧∀ n∈ZaE ks,n∈pool:=by
 refine ⟨?_,fun n hn=>?_⟩
 ·have k:=h.keys
  clear h
  induction ks with
  | nil=>exact .nil
  | cons p ks ih =>
   have kn:=List.nodup_cons.mp (show (p.1.told.key :: ks.map fun p=>p.1.told.key).Nodup from k)
   have ih:=ih kn.2
   unfold ZaE at ih ⊢
   rw [List.filterMap_cons]
   cases hb:p.1.bornName with
   | none=>exact ih
   | some n =>
    refine List.nodup_cons.mpr ⟨fun hm=>?_,ih⟩
    obtain ⟨q,hq,eq⟩:=List.mem_filterMap.mp hm
    refine kn.1 (List.mem_map.mpr ⟨q,hq,?_⟩)
    have bk:∀ e:Ent,e.bornName=some n->e.told.key=[.inr "born",.inr n]:=fun e he=>by
     cases e with
     | born n' s d f m=>cases he; rfl
     | _=>cases he
    rw [bk _ eq,bk _ hb]
 ·obtain ⟨q,hq,eq⟩:=List.mem_filterMap.mp hn
  exact h.inp q hq n eq
theorem LI5.ksok {pool:List Str} {B:Bk} {ks:List (Ent × Addr)} (h:LI5 pool B ks) (l:ks.length≤60) (p33:pool.length≤33):KsOk ks∧(ZaE ks).length<60:=by
 obtain ⟨n1,n2⟩:=h.names
 exact ⟨⟨h.told,n1,l⟩,Nat.lt_of_le_of_lt (Znm n1 n2) (by omega)⟩
section
variable {K:W.Frag} {w:World} {mg:Str->Option Value}
theorem ZkA:FnScope ["thing"] ["thing"] (Zap Zfz):=⟨rfl,rfl,rfl,by decide +kernel,rfl,by decide +kernel,by decide +kernel⟩
def ZkX (T:Tx K w mg):Sp:=fun vs H Q E=>vs.length=1∧(∃ x t,vs=[x]∧Vw K H x t∧∀ H',Same H H'->Q (.bl (Vk.isI t)) H')
theorem Zmf:FnScope ["thing"] ["thing"] (Zap Zhf):=⟨rfl,rfl,rfl,by decide +kernel,rfl,by decide +kernel,by decide +kernel⟩
def Zh9 (T:Tx K w mg):Sp:=fun vs H Q E=>vs.length=1∧(∃ x t,vs=[x]∧Vw K H x t∧∀ H',Same H H'->Q (.bl (Ze7 t)) H')
theorem ZnB:FnScope ["thing"] ["thing"] (Zap Zin):=⟨rfl,rfl,rfl,by decide +kernel,rfl,by decide +kernel,by decide +kernel⟩
def Zjl (T:Tx K w mg):Sp:=fun vs H Q E=>vs.length=1∧(∃ x t,vs=[x]∧Vw K H x t∧∀ H',Same H H'->Q (.bl (Zp2 t)) H')
theorem ZjT:FnScope ["thing"] ["thing"] (Zap ZeI):=⟨rfl,rfl,rfl,by decide +kernel,rfl,by decide +kernel,by decide +kernel⟩
def Zf7 (T:Tx K w mg):Sp:=fun vs H Q E=>vs.length=1∧(∃ x t,vs=[x]∧Vw K H x t∧∀ H',Same H H'->Q (.bl (Zgj t)) H')
theorem Zl9:FnScope ["thing"] ["thing"] (Zap Zhj):=⟨rfl,rfl,rfl,by decide +kernel,rfl,by decide +kernel,by decide +kernel⟩
def Zh8 (T:Tx K w mg):Sp:=fun vs H Q E=>vs.length=1∧(∃ x t,vs=[x]∧Vw K H x t∧∀ H',Same H H'->Q (.bl (Zie t)) H')
theorem ZjA:FnScope ["thing"] ["thing"] (Zap Zey):=⟨rfl,rfl,rfl,by decide +kernel,rfl,by decide +kernel,by decide +kernel⟩
def Zf6 (T:Tx K w mg):Sp:=fun vs H Q E=>vs.length=1∧(∃ x t,vs=[x]∧Vw K H x t∧∀ H',Same H H'->Q (.bl (Zfl t)) H')
theorem Zk4:FnScope ["parts","checks"] ["parts","checks"] (Zap ZfA):=⟨rfl,rfl,rfl,by decide +kernel,rfl,by decide +kernel,by decide +kernel⟩
def Zla (T:Tx K w mg):Sp:=fun vs H Q E=>vs.length=2∧(∃ a b xs ts cs,vs=[.ref a,.ref b]∧SqT K H a xs∧Vws K H xs ts∧SqT K H b (cs.map fun c=>.ref (T.ad c))∧cs.length≤10∧∀ H',Same H H'->Q (.bl (ZbN cs ts)) H')
theorem ZeS:FnScope ["thing","word","checks"] ["thing"] (Zap ZfK):=⟨rfl,rfl,rfl,by decide +kernel,rfl,by decide +kernel,by decide +kernel⟩
def ZkC (T:Tx K w mg):Sp:=fun vs H Q E=>vs.length=1∧(∃ x,vs=[x]∧((∃ t,Vw K H x t∧t.isT=false∧∀ H',Same H H'->Q (.bl false) H')∨∃ ts,Tv K H x ts∧ts.length≤10∧∀ H',Same H H'->Q (.bl (ZcG ts)) H'))
theorem Zni:FnScope ["entry"] ["entry"] (Zap ZiI):=⟨rfl,rfl,rfl,by decide +kernel,rfl,by decide +kernel,by decide +kernel⟩
def ZnV (T:Tx K w mg):Sp:=fun vs H Q E=>vs.length=1∧(∃ v e,vs=[v]∧EntAt K H v e∧∀ H',Same H H'->Q (.bl e.tie) H')
theorem Zks:FnScope ["entry"] ["entry"] (Zap ZfR):=⟨rfl,rfl,rfl,by decide +kernel,rfl,by decide +kernel,by decide +kernel⟩
def ZkW (T:Tx K w mg):Sp:=fun vs H Q E=>vs.length=1∧(∃ v e,vs=[v]∧EntAt K H v e∧∀ H' D,Same H H'->H D=none->SqL K H' D (e.named.map V.str)->Q (.ref D) H')
theorem ZmU:FnScope ["entry"] ["entry"] (Zap Ziu):=⟨rfl,rfl,rfl,by decide +kernel,rfl,by decide +kernel,by decide +kernel⟩
def Zm9 (T:Tx K w mg):Sp:=fun vs H Q E=>vs.length=1∧(∃ v e,vs=[v]∧EntAt K H v e∧Q (.int e.day) H)
theorem ZhQ:FnScope ["entry","names"] ["entry"] (Zap Zgy):=⟨rfl,rfl,rfl,by decide +kernel,rfl,by decide +kernel,by decide +kernel⟩
def ZlW (T:Tx K w mg):Sp:=fun vs H Q E=>vs.length=1∧(∃ v e,vs=[v]∧EntAt K H v e∧∀ H' u,Same H H'->EntAt K H' u e.told->Q u H')
theorem ZmV:FnScope ["entry"] ["entry"] (Zap ZiZ):=⟨rfl,rfl,rfl,by decide +kernel,rfl,by decide +kernel,by decide +kernel⟩
def Zm0 (T:Tx K w mg):Sp:=fun vs H Q E=>vs.length=1∧(∃ v e,vs=[v]∧EntAt K H v e∧∀ H' p,Same H H'->H p=none->H' p=some (.tup (e.told.key.map kV))->Q (.ref p) H')
theorem ZjO:FnScope ["thing"] ["thing"] (Zap Zew):=⟨rfl,rfl,rfl,by decide +kernel,rfl,by decide +kernel,by decide +kernel⟩
def Zkg (T:Tx K w mg):Sp:=fun vs H Q E=>vs.length=1∧(∃ x,vs=[x]∧((∃ ty,Kd K H x ty∧W.kitOne K ty (.type "str")=some false∧Q (.bl false) H)∨∃ l,x=.str l∧Q (.bl (ZmR l)) H))
theorem Zmd:FnScope ["one","other"] ["one","other"] (Zap Zgv):=⟨rfl,rfl,rfl,by decide +kernel,rfl,by decide +kernel,by decide +kernel⟩
def Zme (T:Tx K w mg):Sp:=fun vs H Q E=>vs.length=2∧(∃ a b,vs=[.str a,.str b]∧∀ H' p,Same H H'->H p=none->H' p=some (.tup [.str (Zaj a b).1,.str (Zaj a b).2])->Q (.ref p) H')
theorem Zgg:FnScope ["self"] ["self"] (Zap ZcU):=⟨rfl,rfl,rfl,by decide +kernel,rfl,by decide +kernel,by decide +kernel⟩
def Zga (T:Tx K w mg):Sp:=fun vs H Q E=>vs.length=1∧(∃ b dx,vs=[.ref b]∧H b=some (.ins T.c_Book dx [])∧∀ H' k bi li ti su,BkAt K T.c_Book H' b dx k bi li ti su bk0->(∀ c o,H c=some o->c≠b->H' c=some o)->H k=none->H bi=none->H li=none->H ti=none->H su=none->Q .non H')
theorem Zf9:FnScope ["self","name"] ["self","name"] (Zap ZcX):=⟨rfl,rfl,rfl,by decide +kernel,rfl,by decide +kernel,by decide +kernel⟩
def Zgf (T:Tx K w mg):Sp:=fun vs H Q E=>vs.length=2∧(∃ v x B,vs=[v,x]∧BkHas K T.c_Book H v B∧((∃ ty,Kd K H x ty∧W.kitOne K ty (.type "str")=some false∧E (.ref T.c_NoPerson) none H)∨∃ n,x=.str n∧(ZaD n B.kept=none->E (.ref T.c_NoPerson) none H)∧∀ p,ZaD n B.kept=some p->Q (.ref p.2) H))
theorem Zhp:FnScope ["self","name"] ["self","name"] (Zap Zdj):=⟨rfl,rfl,rfl,by decide +kernel,rfl,by decide +kernel,by decide +kernel⟩
def Zgw (T:Tx K w mg):Sp:=fun vs H Q E=>vs.length=2∧(∃ v x B,vs=[v,x]∧BkHas K T.c_Book H v B∧((∃ ty,Kd K H x ty∧W.kitOne K ty (.type "str")=some false∧E (.ref T.c_NoPerson) none H)∨∃ n,x=.str n∧(ZaD n B.kept=none->E (.ref T.c_NoPerson) none H)∧∀ p,ZaD n B.kept=some p->∀ n' s d f m,p.1=.born n' s d f m->Q (.str s) H))
theorem ZgW:FnScope ["self","name"] ["self","name"] (Zap Zdc):=⟨rfl,rfl,rfl,by decide +kernel,rfl,by decide +kernel,by decide +kernel⟩
def Zhw (T:Tx K w mg):Sp:=fun vs H Q E=>vs.length=2∧(∃ v x B,vs=[v,x]∧BkHas K T.c_Book H v B∧((∃ ty,Kd K H x ty∧W.kitOne K ty (.type "str")=some false∧E (.ref T.c_NoPerson) none H)∨∃ n,x=.str n∧(ZaD n B.kept=none->E (.ref T.c_NoPerson) none H)∧∀ p,ZaD n B.kept=some p->∀ n' s d f m,p.1=.born n' s d f m->Q (.int d) H))
theorem Zez:FnScope ["self","name","sort","day"] ["self","name","sort","day"] (Zap Zcf):=⟨rfl,rfl,rfl,by decide +kernel,rfl,by decide +kernel,by decide +kernel⟩
def ZeX (T:Tx K w mg):Sp:=fun vs H Q E=>vs.length=4∧(∃ v n s d B,vs=[v,.str n,.str s,.int d]∧BkHas K T.c_Book H v B∧(n≠""->Known B n)∧Q (.bl (Zgo B n s d)) H)
theorem ZfX:FnScope ["self","entry","names"] ["self","entry"] (Zap ZeG):=⟨rfl,rfl,rfl,by decide +kernel,rfl,by decide +kernel,by decide +kernel⟩
def ZjJ (T:Tx K w mg):Sp:=fun vs H Q E=>vs.length=2∧(∃ v x B e,vs=[v,x]∧BkHas K T.c_Book H v B∧EntAt K H x e∧(∀ n∈e.named,Known B n)∧∀ H',Same H H'->Q (.bl (Zdy B e)) H')
theorem Zep:FnScope ["self","entry","name"] ["self","entry"] (Zap Zdw):=⟨rfl,rfl,rfl,by decide +kernel,rfl,by decide +kernel,by decide +kernel⟩
def ZhD (T:Tx K w mg):Sp:=fun vs H Q E=>vs.length=2∧(∃ v x B,vs=[v,x]∧BkHas K T.c_Book H v B∧((Bad K H x∧∀ H',Same H H'->E (.ref T.c_NoEntry) none H')∨∃ e,EntAt K H x e∧e.Ok∧(∀ r,ZdM B e=some r->∀ H',Same H H'->E (.ref (match r with | .full=>T.c_Full | .person=>T.c_NoPerson | .twice=>T.c_Twice | .fit=>T.c_NoFit)) none H')∧(ZdM B e=none->∀ H',Same H H'->Q .non H')))
theorem Zj1:FnScope ["self","letter","begin","end"] ["self","letter","begin","end"] (Zap ZeZ):=⟨rfl,rfl,rfl,by decide +kernel,rfl,by decide +kernel,by decide +kernel⟩
def Zji (T:Tx K w mg):Sp:=fun vs H Q E=>vs.length=4∧(∃ b dx k bi li ti su B l n m,vs=[.ref b,.str l,.str n,.str m]∧BkAt K T.c_Book H b dx k bi li ti su B∧(ZbR B l n).length≤61∧B.links.length≤900∧∀ H' D,BkAt K T.c_Book H' b dx k bi li ti su { B with links:=Zbc B.links (l,n) (D,ZaS (ZbR B l n++[m])) }->But [li] H H'->H D=none->Q .non H')
theorem Zfe:FnScope ["self","entry"] ["self","entry"] (Zap Zcp):=⟨rfl,rfl,rfl,by decide +kernel,rfl,by decide +kernel,by decide +kernel⟩
def Zfp (T:Tx K w mg):Sp:=fun vs H Q E=>vs.length=2∧(∃ b dx k bi li ti su B0 B n s d f m a,vs=[.ref b,.ref a]∧B.kept=B0++[(.born n s d f m,a)]∧H b=some (.ins T.c_Book dx (bkF k bi li ti su))∧H bi=some (.dK (Bk.bornD B0))∧ZaD n B0=none∧B0.length≤900∧SqT K H a ((Ent.born n s d f m).row.map kV)∧BkAt K T.c_Book (upd H bi (.dK (Bk.bornD B.kept))) b dx k bi li ti su B∧B.links.length≤890∧(∀ c,(lk B.links c).length≤61)∧∀ H' ls,BkAt K T.c_Book H' b dx k bi li ti su { B with links:=ls }->(∀ c,lk ls c=ZcV (lk B.links) n f m c)->ls.length≤B.links.length+4->But [bi,li] H H'->Grows H B.links ls->Q .non H')
theorem Zj7:FnScope ["self","letter","name"] ["self","letter","name"] (Zap ZeE):=⟨rfl,rfl,rfl,by decide +kernel,rfl,by decide +kernel,by decide +kernel⟩
def Zje (T:Tx K w mg):Sp:=fun vs H Q E=>vs.length=3∧(∃ v x y B,vs=[v,x,y]∧BkHas K T.c_Book H v B∧((∃ ty,Kd K H x ty∧W.kitOne K ty (.type "str")=some false∧E (.ref T.c_NoWay) none H)∨∃ l,x=.str l∧(ZmR l=false->E (.ref T.c_NoWay) none H)∧(ZmR l=true->((∃ ty,Kd K H y ty∧W.kitOne K ty (.type "str")=some false∧E (.ref T.c_NoPerson) none H)∨∃ n,y=.str n∧(ZaD n B.kept=none->E (.ref T.c_NoPerson) none H)∧(Known B n->∀ H' D,Same H H'->H D=none->H' D=some (.lst ((ZbR B l n).map V.str))->Q (.ref D) H')))))
theorem Zdh:FnScope ["self","one","other","day","ties","days"] ["self","one","other","day"] (Zap ZaY):=⟨rfl,rfl,rfl,by decide +kernel,rfl,by decide +kernel,by decide +kernel⟩
def ZhI (T:Tx K w mg):Sp:=fun vs H Q E=>vs.length=4∧(∃ v a c B,vs=[v,.str a,.str c,.non]∧BkHas K T.c_Book H v B∧Known B a∧Known B c∧(Zbw B (Zaj a c)).length≤900∧∀ H',Same H H'->Q (.bl (ZfD B a c)) H')
theorem Zb1:FnScope ["self","entry","days","begin","end"] ["self","entry"] (Zap ZcY):=⟨rfl,rfl,rfl,by decide +kernel,rfl,by decide +kernel,by decide +kernel⟩
def Zge (T:Tx K w mg):Sp:=fun vs H Q E=>vs.length=2∧(∃ b dx k bi li ti su B a kd p1 p2 d,vs=[.ref b,.ref a]∧SqT K H a [.str kd,.str p1,.str p2,.int d]∧BkAt K T.c_Book H b dx k bi li ti su B∧Known B p1∧Known B p2∧(B.ties.map (·.1)).Nodup∧B.ties.length≤800∧(Zbw B (Zaj p1 p2)).length≤800∧B.links.length≤880∧(∀ c,(lk B.links c).length≤60)∧∀ H' ls ts y,BkAt K T.c_Book H' b dx k bi li ti su { B with links:=ls,ties:=ts }->(ts.map (·.1)).Nodup->ts.length≤B.ties.length+1->(∀ c,ZiQ ts c=if c=Zaj p1 p2 then Zbc (Zbw B (Zaj p1 p2)) d kd else Zbw B c)->(∀ c,lk ls c=Zba (Zba (lk B.links) (Zck (Zbc (Zbw B (Zaj p1 p2)) d kd)) p1 p2) (Zck (Zbc (Zbw B (Zaj p1 p2)) d kd)) p2 p1 c)->ls.length≤B.links.length+4->But [li,ti,y] H H'->(H y=none∨∃ w,H y=some (.dK w))->Grows H B.links ls->Q .non H')
theorem ZeL:FnScope ["self","entry","told","given"] ["self","entry"] (Zap ZfB):=⟨rfl,rfl,rfl,by decide +kernel,rfl,by decide +kernel,by decide +kernel⟩
def Zkt (T:Tx K w mg):Sp:=fun vs H Q E=>vs.length=2∧(∃ b dx k bi li ti su B x,vs=[.ref b,x]∧BkAt K T.c_Book H b dx k bi li ti su B∧((Bad K H x∧∀ H',Same H H'->E (.ref T.c_NoEntry) none H')∨∃ e,EntAt K H x e∧e.Ok∧(∀ r,ZdM B e=some r->∀ H',Same H H'->E (.ref (match r with | .full=>T.c_Full | .person=>T.c_NoPerson | .twice=>T.c_Twice | .fit=>T.c_NoFit)) none H')∧(ZdM B e=none->Room1 B∧∀ H' B' y,BkAt K T.c_Book H' b dx k bi li ti su B'->Put B e B'->But [k,bi,li,ti,su,y] H H'->(H y=none∨∃ w,H y=some (.dK w))->Grows H B.links B'.links->Q .non H')))
theorem Zhn:FnScope ["self"] ["self"] (Zap Zde):=⟨rfl,rfl,rfl,by decide +kernel,rfl,by decide +kernel,by decide +kernel⟩
def Zgu (T:Tx K w mg):Sp:=fun vs H Q E=>vs.length=1∧(∃ v B,vs=[v]∧BkHas K T.c_Book H v B∧B.kept.length≤60∧∀ H' D (out:List (Ent × Addr)),Same H H'->H D=none->out.Perm B.kept->((out.map fun p=>p.1.row).Pairwise fun x y=>SA.rLt y x=false)->H' D=some (.lst (Zaz out))->Q (.ref D) H')
theorem Zkd:FnScope ["self","giver","taker"] ["self","giver","taker"] (Zap ZeP):=⟨rfl,rfl,rfl,by decide +kernel,rfl,by decide +kernel,by decide +kernel⟩
def Zj5 (T:Tx K w mg):Sp:=fun vs H Q E=>vs.length=3∧(∃ v a c B,vs=[v,.str a,.str c]∧BkHas K T.c_Book H v B∧Known B a∧Known B c∧∀ H',Same H H'->Q (.int (Zif B.sums (a,c))) H')
theorem ZgI:FnScope ["_law_script","_law_k"] ["_law_script","_law_k"] (Zap Zdi):=⟨rfl,rfl,rfl,by decide +kernel,rfl,by decide +kernel,by decide +kernel⟩
def Zho (T:Tx K w mg):Sp:=fun vs H Q E=>vs.length=2∧(∃ (l:Addr) (ns:List Int) (k:Int),vs=[.ref l,.int k]∧SqL K H l (ns.map V.int)∧0≤k∧∀ z,Q (.int z) H)
theorem ZaL:FnScope ["_law_cell","_law_many","_law_size","_law_at","_law_beside","_law_short","_law_names_here","_law_k","_law_name","_law_j","_law_number"] ["_law_cell","_law_many"] (Zap ZdY):=⟨rfl,rfl,rfl,by decide +kernel,rfl,by decide +kernel,by decide +kernel⟩
def ZiA (T:Tx K w mg):Sp:=fun vs H Q E=>vs.length=2∧(∃ c m,vs=[.int c,.int m]∧0≤m∧m≤60∧∀ (H':Hp) (D:Addr) (ns:List Str),Same H H'->H' D=some (.lst (ns.map V.str))->ns.length=m.toNat->(∀ x∈ns,Nm x)->ns.Nodup->Q (.ref D) H')
theorem Zec:FnScope ["_law_cell","_law_k","_law_many","_law_by","_law_prime"] ["_law_cell","_law_k","_law_many"] (Zap ZeT):=⟨rfl,rfl,rfl,by decide +kernel,rfl,by decide +kernel,by decide +kernel⟩
def ZjU (T:Tx K w mg):Sp:=fun vs H Q E=>vs.length=3∧(∃ c k m,vs=[.int c,.int k,.int m]∧0≤k∧k<7∧0<m∧∀ H' z,Same H H'->0≤z->z<m->(k=0->z=Zn9 c m)->Q (.int z) H')
theorem ZgX:FnScope ["_law_cell","_law_place","_law_way"] ["_law_cell","_law_place"] (Zap ZfH):=⟨rfl,rfl,rfl,by decide +kernel,rfl,by decide +kernel,by decide +kernel⟩
def ZkL (T:Tx K w mg):Sp:=fun vs H Q E=>vs.length=2∧(∃ c p:Int,vs=[.int c,.int p]∧0≤p∧p≤40∧∀ z,-10 ^ 18≤z->z≤10 ^ 18->Q (.int z) H)
theorem Zer:FnScope ["_law_way","_law_free","_law_place","_law_sort","_law_pool"] ["_law_way","_law_free","_law_place","_law_sort","_law_pool"] (Zap ZdH):=⟨rfl,rfl,rfl,by decide +kernel,rfl,by decide +kernel,by decide +kernel⟩
def ZhH (T:Tx K w mg):Sp:=fun vs H Q E=>vs.length=5∧(∃ (w f p s:Int) (D:Addr) (pool:List Str),vs=[.int w,.int f,.int p,.int s,.ref D]∧SqL K H D (pool.map V.str)∧0≤f∧f<pool.length∧0≤p∧p<pool.length∧0≤s∧∀ x:Str,(x=""∨x∈pool)->Q (.str x) H)
theorem ZeO:FnScope ["_law_cell","_law_name","_law_some"] ["_law_cell","_law_name"] (Zap ZfQ):=⟨rfl,rfl,rfl,by decide +kernel,rfl,by decide +kernel,by decide +kernel⟩
def ZkS (T:Tx K w mg):Sp:=fun vs H Q E=>vs.length=2∧(∃ (c:Int) (n:Str),vs=[.int c,.str n]∧Nm n∧∀ H' v,Same H H'->Bad K H' v->Q v H')
theorem Zbd:FnScope ["_law_cell","_law_pool","_law_kind","_law_place","_law_free","_law_day_here","_law_sort","_law_father","_law_mother"] ["_law_cell","_law_pool"] (Zap ZdN):=⟨rfl,rfl,rfl,by decide +kernel,rfl,by decide +kernel,by decide +kernel⟩
def Zik (T:Tx K w mg):Sp:=fun vs H Q E=>vs.length=2∧(∃ (c:Int) (D:Addr) (pool:List Str),vs=[.int c,.ref D]∧SqL K H D (pool.map V.str)∧4≤pool.length∧pool.length≤33∧(∀ x∈pool,Nm x)∧∀ H' v,Same H H'->(Zn9 c 14<13->∃ (e:Ent) (a:Addr),v=.ref a∧SqT K H' a (e.row.map kV)∧D5 pool e)->(13≤Zn9 c 14->Bad K H' v)->Q v H')
theorem Zi6:FnScope ["_law_entry_here"] ["_law_entry_here"] (Zap Zee):=⟨rfl,rfl,rfl,by decide +kernel,rfl,by decide +kernel,by decide +kernel⟩
def Ziy (T:Tx K w mg):Sp:=fun vs H Q E=>vs.length=1∧(∃ v e,vs=[v]∧EntAt K H v e∧∀ H' D,Same H H'->H D=none->SqL K H' D (e.named.map V.str)->Q (.ref D) H')
theorem Zf3:FnScope ["_law_row","_law_entry_here","_law_kind"] ["_law_row","_law_entry_here"] (Zap ZeD):=⟨rfl,rfl,rfl,by decide +kernel,rfl,by decide +kernel,by decide +kernel⟩
def Zkp (T:Tx K w mg):Sp:=fun vs H Q E=>vs.length=2∧(∃ (u v:Addr) (x e:Ent),vs=[.ref u,.ref v]∧SqT K H u (x.row.map kV)∧SqT K H v (e.row.map kV)∧∀ H',Same H H'->Q (.bl (decide (x.told.key=e.told.key))) H')
theorem Zdb:FnScope ["_law_births","_law_entry_here","_law_name","_law_sort","_law_some"] ["_law_births","_law_entry_here"] (Zap ZeY):=⟨rfl,rfl,rfl,by decide +kernel,rfl,by decide +kernel,by decide +kernel⟩
def ZjL (T:Tx K w mg):Sp:=fun vs H Q E=>vs.length=2∧(∃ (d v:Addr) (ks:List (Ent × Addr)) (e:Ent),vs=[.ref d,.ref v]∧H d=some (.dK (Bk.bornD ks))∧RowsAt K H ks∧SqT K H v (e.row.map kV)∧(∀ n∈e.named,Known (LBk ks) n)∧∀ H',Same H H'->Q (.bl (Zdy (LBk ks) e)) H')
theorem ZdC:FnScope ["_law_kept","_law_entry_here","_law_right","_law_births","_law_name","_law_row"] ["_law_kept","_law_entry_here","_law_right"] (Zap Zfy):=⟨rfl,rfl,rfl,by decide +kernel,rfl,by decide +kernel,by decide +kernel⟩
def Zk0 (T:Tx K w mg):Sp:=fun vs H Q E=>vs.length=3∧(∃ (L:Addr) (v:V) (r:Bool),vs=[.ref L,v,.bl r]∧(r=false->Q (.int 0) H)∧(r=true->∃ (ks:List (Ent × Addr)) (e:Ent) (a:Addr),v=.ref a∧SqT K H a (e.row.map kV)∧SqL K H L (Zaz ks)∧RowsAt K H ks∧KsOk ks∧(e.isBorn=true->(ZaE ks).length<60)∧∀ H',Same H H'->Q (.int (Zpl (ZdM (LBk ks) e))) H'))
theorem Zcc:FnScope ["_law_book","_law_entry_here","_law_marks_here","e"] ["_law_book","_law_entry_here"] (Zap Zd8):=⟨rfl,rfl,rfl,by decide +kernel,rfl,by decide +kernel,by decide +kernel⟩
def Ziq (T:Tx K w mg):Sp:=fun vs H Q E=>vs.length=2∧(∃ b dx k bi li ti su B x,vs=[.ref b,x]∧BkAt K T.c_Book H b dx k bi li ti su B∧((Bad K H x∧∀ H' D,Same H H'->H D=none->SqL K H' D (Zrx.map V.bl)->Q (.ref D) H')∨∃ e,EntAt K H x e∧e.Ok∧((∃ r,ZdM B e=some r∧∀ H' D,Same H H'->H D=none->SqL K H' D ((mOf r).map V.bl)->Q (.ref D) H')∨(ZdM B e=none∧Room1 B∧∀ H' B' y D,BkAt K T.c_Book H' b dx k bi li ti su B'->Put B e B'->But [k,bi,li,ti,su,y] H H'->(H y=none∨∃ w,H y=some (.dK w))->Grows H B.links B'.links->H D=none->(∀ q∈B'.links,q.2.1≠D)->SqL K H' D []->Q (.ref D) H'))))
theorem Zdv:FnScope ["_law_book","_law_kept","_law_entry_here","_law_due_here","_law_marks_here"] ["_law_book","_law_kept","_law_entry_here","_law_due_here"] (Zap Zd5):=⟨rfl,rfl,rfl,by decide +kernel,rfl,by decide +kernel,by decide +kernel⟩
def Zi5 (T:Tx K w mg):Sp:=fun vs H Q E=>vs.length=4∧(∃ b dx k bi li ti su B L x,∃ z:Int,vs=[.ref b,.ref L,x,.int z]∧BkAt K T.c_Book H b dx k bi li ti su B∧((Bad K H x∧z=0∧∀ H',Same H H'->Q (.bl true) H')∨∃ (e:Ent) (a:Addr),x=.ref a∧SqT K H a (e.row.map kV)∧e.Ok∧z=Zpl (ZdM B e)∧ZdM B e≠some .full∧(∀ r,ZdM B e=some r->∀ H',Same H H'->Q (.bl true) H')∧(ZdM B e=none->∃ ks:List (Ent × Addr),H L=some (.lst (Zaz ks))∧ks.length≤100∧(∀ q∈B.links,q.2.1≠L)∧Room1 B∧∀ H' B' a',BkAt K T.c_Book H' b dx k bi li ti su B'->Put B e B'->Grows H B.links B'.links->H' L=some (.lst (Zaz (ks++[(e.told,a')])))->SqT K H' a' (e.told.row.map kV)->(∀ c xs,c≠L->H c=some (.lst xs)->H' c=some (.lst xs))->(∀ c xs,SqT K H c xs->SqT K H' c xs)->Q (.bl true) H')))
theorem ZbA:FnScope ["_law_book","_law_kept","_law_entry_here","_law_people","_law_last","_law_total","_law_row"] ["_law_book","_law_kept","_law_entry_here"] (Zap ZdR):=⟨rfl,rfl,rfl,by decide +kernel,rfl,by decide +kernel,by decide +kernel⟩
def Ziv (T:Tx K w mg):Sp:=fun vs H Q E=>vs.length=3∧(∃ b dx k bi li ti su B L a,∃ (ks:List (Ent × Addr)) (e:Ent),vs=[.ref b,.ref L,.ref a]∧BkAt K T.c_Book H b dx k bi li ti su B∧SqL K H L (Zaz ks)∧RowsAt K H ks∧ks.length≤100∧SqT K H a (e.row.map kV)∧ZaE B.kept=ZaE ks∧(∀ x y,(Zbw B (Zaj x y)).length≤900∧ZfD B x y=ZmY (ks.map (·.1)) x y)∧(∀ c,Zif B.sums c=ZlF c (ks.map (·.1)))∧∀ H',Same H H'->Q (.bl true) H')
theorem ZdS:FnScope ["_law_script","_law_pool","_law_book","_law_kept","_law_late","_law_held","_law_cell","_law_entry_here","_law_due_here"] ["_law_script"] (Zap ZpW):=⟨rfl,rfl,rfl,by decide +kernel,rfl,by decide +kernel,by decide +kernel⟩
def Zpo (T:Tx K w mg):Sp:=fun vs H Q E=>vs.length=1∧(∃ (l:Addr) (ns:List Int),vs=[.ref l]∧SqL K H l (ns.map V.int)∧ns.length≤63∧∀ H',Q (.bl true) H')
abbrev Zfx (P:Program) (base:Heap) (T:Tx K w mg):Prop:=FnOk P w K mg base (CX1 P w) 1 T.ZbE.a (Zcg K T.ZbE.a) ["thing"] (ZkX T)
abbrev Zg8 (P:Program) (base:Heap) (T:Tx K w mg):Prop:=FnOk P w K mg base (CX1 P w) 1 T.ZaM.a (Zcg K T.ZaM.a) ["thing"] (Zh9 T)
abbrev Zlh (P:Program) (base:Heap) (T:Tx K w mg):Prop:=FnOk P w K mg base (CX1 P w) 2 T.ZbB.a (Zcg K T.ZbB.a) ["thing"] (Zjl T)
abbrev ZgJ (P:Program) (base:Heap) (T:Tx K w mg):Prop:=FnOk P w K mg base (CX1 P w) 2 T.Zbn.a (Zcg K T.Zbn.a) ["thing"] (Zf7 T)
abbrev Zjk (P:Program) (base:Heap) (T:Tx K w mg):Prop:=FnOk P w K mg base (CX1 P w) 1 T.ZbZ.a (Zcg K T.ZbZ.a) ["thing"] (Zh8 T)
abbrev Zg2 (P:Program) (base:Heap) (T:Tx K w mg):Prop:=FnOk P w K mg base (CX1 P w) 2 T.Zbj.a (Zcg K T.Zbj.a) ["thing"] (Zf6 T)
abbrev Zic (P:Program) (base:Heap) (T:Tx K w mg):Prop:=FnOk P w K mg base (CX1 P w) 3 T.Zcj.a (Zcg K T.Zcj.a) ["parts","checks"] (Zla T)
abbrev Zig (P:Program) (base:Heap) (T:Tx K w mg):Prop:=FnOk P w K mg base (CX1 P w) 4 T.Zcn.a (Zcg K T.Zcn.a) ["thing"] (ZkC T)
abbrev ZiM (P:Program) (base:Heap) (T:Tx K w mg):Prop:=FnOk P w K mg base (CX1 P w) 1 T.Zcu.a (Zcg K T.Zcu.a) ["entry"] (ZnV T)
abbrev ZfO (P:Program) (base:Heap) (T:Tx K w mg):Prop:=FnOk P w K mg base (CX1 P w) 1 T.ZbF.a (Zcg K T.ZbF.a) ["entry"] (ZkW T)
abbrev Zlm (P:Program) (base:Heap) (T:Tx K w mg):Prop:=FnOk P w K mg base (CX1 P w) 1 T.ZdB.a (Zcg K T.ZdB.a) ["entry"] (Zm9 T)
abbrev ZgM (P:Program) (base:Heap) (T:Tx K w mg):Prop:=FnOk P w K mg base (CX1 P w) 2 T.ZbX.a (Zcg K T.ZbX.a) ["entry"] (ZlW T)
abbrev ZiS (P:Program) (base:Heap) (T:Tx K w mg):Prop:=FnOk P w K mg base (CX1 P w) 3 T.Zcw.a (Zcg K T.Zcw.a) ["entry"] (Zm0 T)
abbrev ZgO (P:Program) (base:Heap) (T:Tx K w mg):Prop:=FnOk P w K mg base (CX1 P w) 1 T.Zb5.a (Zcg K T.Zb5.a) ["thing"] (Zkg T)
abbrev ZgC (P:Program) (base:Heap) (T:Tx K w mg):Prop:=FnOk P w K mg base (CX1 P w) 1 T.ZbV.a (Zcg K T.ZbV.a) ["one","other"] (Zme T)
abbrev ZdZ (P:Program) (base:Heap) (T:Tx K w mg):Prop:=FnOk P w K mg base (CX1 P w) 1 T.Zbt.a (Zcg K T.Zbt.a) ["self"] (Zga T)
abbrev Zbk (P:Program) (base:Heap) (T:Tx K w mg):Prop:=FnOk P w K mg base (CX1 P w) 1 T.Zaw.a (Zcg K T.Zaw.a) ["self","name"] (Zgf T)
abbrev Zev (P:Program) (base:Heap) (T:Tx K w mg):Prop:=FnOk P w K mg base (CX1 P w) 2 T.ZbC.a (Zcg K T.ZbC.a) ["self","name"] (Zgw T)
abbrev Zdl (P:Program) (base:Heap) (T:Tx K w mg):Prop:=FnOk P w K mg base (CX1 P w) 2 T.ZaK.a (Zcg K T.ZaK.a) ["self","name"] (Zhw T)
abbrev Zda (P:Program) (base:Heap) (T:Tx K w mg):Prop:=FnOk P w K mg base (CX1 P w) 3 T.ZaP.a (Zcg K T.ZaP.a) ["self","name","sort","day"] (ZeX T)
abbrev Zhv (P:Program) (base:Heap) (T:Tx K w mg):Prop:=FnOk P w K mg base (CX1 P w) 4 T.Zci.a (Zcg K T.Zci.a) ["self","entry"] (ZjJ T)
abbrev Zfb (P:Program) (base:Heap) (T:Tx K w mg):Prop:=FnOk P w K mg base (CX1 P w) 5 T.ZbO.a (Zcg K T.ZbO.a) ["self","entry"] (ZhD T)
abbrev ZdG (P:Program) (base:Heap) (T:Tx K w mg):Prop:=FnOk P w K mg base (CX1 P w) 1 T.ZaI.a (Zcg K T.ZaI.a) ["self","letter","begin","end"] (Zji T)
abbrev Zdm (P:Program) (base:Heap) (T:Tx K w mg):Prop:=FnOk P w K mg base (CX1 P w) 2 T.Zbh.a (Zcg K T.Zbh.a) ["self","entry"] (Zfp T)
abbrev Zhx (P:Program) (base:Heap) (T:Tx K w mg):Prop:=FnOk P w K mg base (CX1 P w) 2 T.Zco.a (Zcg K T.Zco.a) ["self","letter","name"] (Zje T)
abbrev ZdD (P:Program) (base:Heap) (T:Tx K w mg):Prop:=FnOk P w K mg base (CX1 P w) 2 T.a_Book_stands T.fd_Book_stands ["self","one","other","day"] (ZhI T)
abbrev Zd4 (P:Program) (base:Heap) (T:Tx K w mg):Prop:=FnOk P w K mg base (CX1 P w) 3 T.Zbr.a (Zcg K T.Zbr.a) ["self","entry"] (Zge T)
abbrev ZhY (P:Program) (base:Heap) (T:Tx K w mg):Prop:=FnOk P w K mg base (CX1 P w) 6 T.ZcO.a (Zcg K T.ZcO.a) ["self","entry"] (Zkt T)
abbrev Zeq (P:Program) (base:Heap) (T:Tx K w mg):Prop:=FnOk P w K mg base (CX1 P w) 1 T.ZaU.a (Zcg K T.ZaU.a) ["self"] (Zgu T)
abbrev Zhk (P:Program) (base:Heap) (T:Tx K w mg):Prop:=FnOk P w K mg base (CX1 P w) 2 T.Zcl.a (Zcg K T.Zcl.a) ["self","giver","taker"] (Zj5 T)
abbrev Zeu (P:Program) (base:Heap) (T:Tx K w mg):Prop:=FnOk P w K mg base (CX1 P w) 1 T.ZaV.a (Zcg K T.ZaV.a) ["_law_script","_law_k"] (Zho T)
abbrev ZfW (P:Program) (base:Heap) (T:Tx K w mg):Prop:=FnOk P w K mg base (CX1 P w) 1 T.ZbM.a (Zcg K T.ZbM.a) ["_law_cell","_law_many"] (ZiA T)
abbrev ZeH (P:Program) (base:Heap) (T:Tx K w mg):Prop:=FnOk P w K mg base (CX1 P w) 1 T.ZaA.a (Zcg K T.ZaA.a) ["_law_cell","_law_k","_law_many"] (ZjU T)
abbrev ZhZ (P:Program) (base:Heap) (T:Tx K w mg):Prop:=FnOk P w K mg base (CX1 P w) 1 T.Zcm.a (Zcg K T.Zcm.a) ["_law_cell","_law_place"] (ZkL T)
abbrev Zfc (P:Program) (base:Heap) (T:Tx K w mg):Prop:=FnOk P w K mg base (CX1 P w) 1 T.Za1.a (Zcg K T.Za1.a) ["_law_way","_law_free","_law_place","_law_sort","_law_pool"] (ZhH T)
abbrev ZhV (P:Program) (base:Heap) (T:Tx K w mg):Prop:=FnOk P w K mg base (CX1 P w) 1 T.Zcr.a (Zcg K T.Zcr.a) ["_law_cell","_law_name"] (ZkS T)
abbrev ZfZ (P:Program) (base:Heap) (T:Tx K w mg):Prop:=FnOk P w K mg base (CX1 P w) 2 T.ZbK.a (Zcg K T.ZbK.a) ["_law_cell","_law_pool"] (Zik T)
abbrev Zed (P:Program) (base:Heap) (T:Tx K w mg):Prop:=FnOk P w K mg base (CX1 P w) 1 T.Zbg.a (Zcg K T.Zbg.a) ["_law_entry_here"] (Ziy T)
abbrev ZgQ (P:Program) (base:Heap) (T:Tx K w mg):Prop:=FnOk P w K mg base (CX1 P w) 1 T.Zb3.a (Zcg K T.Zb3.a) ["_law_row","_law_entry_here"] (Zkp T)
abbrev Zg0 (P:Program) (base:Heap) (T:Tx K w mg):Prop:=FnOk P w K mg base (CX1 P w) 2 T.Zb4.a (Zcg K T.Zb4.a) ["_law_births","_law_entry_here"] (ZjL T)
abbrev Zh4 (P:Program) (base:Heap) (T:Tx K w mg):Prop:=FnOk P w K mg base (CX1 P w) 3 T.ZbD.a (Zcg K T.ZbD.a) ["_law_kept","_law_entry_here","_law_right"] (Zk0 T)
abbrev Zf2 (P:Program) (base:Heap) (T:Tx K w mg):Prop:=FnOk P w K mg base (CX1 P w) 7 T.ZbJ.a (Zcg K T.ZbJ.a) ["_law_book","_law_entry_here"] (Ziq T)
abbrev Zf1 (P:Program) (base:Heap) (T:Tx K w mg):Prop:=FnOk P w K mg base (CX1 P w) 8 T.Zbe.a (Zcg K T.Zbe.a) ["_law_book","_law_kept","_law_entry_here","_law_due_here"] (Zi5 T)
abbrev ZfY (P:Program) (base:Heap) (T:Tx K w mg):Prop:=FnOk P w K mg base (CX1 P w) 3 T.ZbL.a (Zcg K T.ZbL.a) ["_law_book","_law_kept","_law_entry_here"] (Ziv T)
abbrev ZqQ (P:Program) (base:Heap) (T:Tx K w mg):Prop:=FnOk P w K mg base (CX1 P w) 9 T.Zle.a (Zcg K T.Zle.a) ["_law_script"] (Zpo T)
theorem Zsq:(["name"]:List Str).Nodup:=by decide +kernel
theorem ZsQ:(["name","entry","self"]:List Str).Nodup:=by decide +kernel
theorem ZsG:(["tied_on","day"]:List Str).Nodup:=by decide +kernel
theorem Zsp:(["name","end"]:List Str).Nodup:=by decide +kernel
theorem ZsN:(["_law_name"]:List Str).Nodup:=by decide +kernel
theorem ZsL:(["_law_name","_law_births"]:List Str).Nodup:=by decide +kernel
theorem Zsb:(["_law_row"]:List Str).Nodup:=by decide +kernel
theorem Zso:(["_law_k","_law_due_here"]:List Str).Nodup:=by decide +kernel
end
section
variable {K:W.Frag} {mg:Str->Option Value}
def spC (K:W.Frag) (f:Vk->Bool):Sp:=fun vs H Q _=>vs.length=1∧∃ x t,vs=[x]∧Vw K H x t∧∀ H',Same H H'->Q (.bl (f t)) H'
def Fam (T:Tx K w mg):Addr->Sp->Prop:=fun f sp=>∃ c,f=T.ad c∧sp=spC K (chk c)
theorem ZqX {P : Program} {w : World} {base : Heap} {X : Cx} (T : Tx K w mg) (h1 : FnOk P w K mg base (CX1 P w) 1 T.ZaM.a (Zcg K T.ZaM.a) ["thing"] (Zh9 T)) (h2 : FnOk P w K mg base (CX1 P w) 1 T.ZbZ.a (Zcg K T.ZbZ.a) ["thing"] (Zh8 T))
  (h3:FnOk P w K mg base (CX1 P w) 2 T.ZbB.a (Zcg K T.ZbB.a) ["thing"] (Zjl T)) (h4:FnOk P w K mg base (CX1 P w) 2 T.Zbn.a (Zcg K T.Zbn.a) ["thing"] (Zf7 T)) (h5:FnOk P w K mg base (CX1 P w) 2 T.Zbj.a (Zcg K T.Zbj.a) ["thing"] (Zf6 T))
  (hr:Room 2 X.A) (e1:X.prog=P) (e2:X.w=w) (e3:X.K=K) (e4:X.mg=mg) (e5:X.base=base):ZqK X (CX1 P w) (Fam T):=by
 subst e1 e2 e3 e4 e5
 rintro f sp ⟨c,rfl,rfl⟩
 cases c with
 | name=>exact ⟨1,_,_,h1,hr.mono (by decide),T.ZaM.F.kp,T.ZaM.b⟩
 | sort=>exact ⟨1,_,_,h2,hr.mono (by decide),T.ZbZ.F.kp,T.ZbZ.b⟩
 | day=>exact ⟨2,_,_,h3,hr,T.ZbB.F.kp,T.ZbB.b⟩
 | amount=>exact ⟨2,_,_,h4,hr,T.Zbn.F.kp,T.Zbn.b⟩
 | parent=>exact ⟨2,_,_,h5,hr,T.Zbj.F.kp,T.Zbj.b⟩
end
section
variable {P:Program} {w:World} {K:W.Frag} {mg:Str->Option Value} {base:Heap}
theorem Zk5 (T:Tx K w mg)  : Zfx P base T:=by
 refine Fun.okX (k:=0) T.ZbE.F ZkA (fun vs H Q E h=>h.1) (fun cdv A outer s H vs Q E hr h=>?_)
 obtain ⟨-,h⟩:=h
 obtain ⟨x,t,rfl,hv,q⟩:=h
 refine ⟨_,(Zah (Zay (ZcI (Zc3 K (by rfl) T.n_isinstance (Zaa (pv 0) (Zaa (Zdz (v:=.ty "int") (by rfl) T.n_int Zo8 rfl) Zaf))) (ZcK (Zqn (Zc3 K (by rfl) T.n_isinstance (Zaa (pv 0) (Zaa (Zdz (v:=.ty "bool") (by rfl) T.n_bool ZpA rfl) Zaf)))))))),?_⟩
 refine ⟨_,rfl,_,.ty "int",_,_,rfl,rfl,hv.kd,kI T t,_,rfl,?_⟩
 cases t with
 | int i=>exact ZcF ⟨_,rfl,_,.ty "bool",_,_,rfl,rfl,hv.kd,T.k_int_bool,_,rfl,q _ (Same.refl H)⟩
 | bl=>exact ZcF ⟨_,rfl,_,.ty "bool",_,_,rfl,rfl,hv.kd,T.k_bool_bool,_,rfl,q _ (Same.refl H)⟩
 | _=>exact Zb2 (q _ (Same.refl H))
theorem ZlO (T:Tx K w mg)  : Zg8 P base T:=by
 refine Fun.okX (k:=0) T.ZaM.F Zmf (fun vs H Q E h=>h.1) (fun cdv A outer s H vs Q E hr h=>?_)
 obtain ⟨-,h⟩:=h
 obtain ⟨x,t,rfl,hv,q⟩:=h
 refine ⟨_, (Zag (ZaQ (PW.pt (ZfJ (Zdn (ZcJ (Zc3 K (by rfl) T.n_isinstance (Zaa (pv 0) (Zaa (Zdz (v := .ty "str") (by rfl) T.n_str Zib rfl) Zaf))))) (ZfJ (Zaq Zj8 (ZaC Zf5 (by rfl) T.n_len ZcC (Zaa (pv 0) Zaf)) Zad (Zar _)) (Zet (Zaq Zqp (ZaC Zf5 (by rfl) T.n_len ZcC (Zaa (pv 0) Zaf)) Zad (Zar _)))))) (Zah (Zay ZdT)) Zav)
   (Zah (Zay (ZaC (Zir rfl) (by rfl) T.n_all Zno (Zaa (ZdF (N:=["sign"]) (cl:=[]) (σc:=fun _=>[none]) rfl (Zm4 (L:=[(".0",.local),("sign",.local),("LETTERS",.globalImplicit)]) (by rfl) (by decide +kernel) (by decide +kernel) (by rfl) (by rfl) (by decide) (by rfl) (by simp)) (ZqR (pv 0)) (fun _ _ _=>(Za2 (i:=0) nd1 rfl (Or.inl rfl))) (fun _ _ _=>ZgL) (fun _ _ _=>(ZaN ZmW (pv 0) (Zdd (v:=.str ZgN) (by rfl) T.m_LETTERS ⟨_,rfl⟩) (by rfl)))) Zaf))))),?_⟩
 refine ⟨_,rfl,_,.ty "str",_,_,rfl,rfl,hv.kd,kS T t,_,rfl,?_⟩
 cases t with
 | str z =>
  obtain ⟨e,hz⟩:=hv
  subst e
  have hs:z.length≤sizeLine:=Nat.le_of_lt (Zam (by omega))
  refine Zb2 ⟨_,rfl,z,rfl,hs,_,_,rfl,rfl,_,rfl,?_⟩
  by_cases h1:((z.length:Nat):Int)<1
  ·rw [decide_eq_true h1]
   have e:Ze7 (.str z)=false:=by
    rw [ZfT]
    rw [decide_eq_false (show ¬ 1≤z.length by omega)]
    rfl
   rw [e] at q
   exact ZcF (q _ (Same.refl H))
  rw [decide_eq_false h1]
  refine Zb2 ⟨_,rfl,z,rfl,hs,_,_,rfl,rfl,_,rfl,?_⟩
  by_cases h2:(8:Int)<((z.length:Nat):Int)
  ·rw [decide_eq_true h2]
   have e:Ze7 (.str z)=false:=by
    rw [ZfT]
    rw [decide_eq_false (show ¬ z.length≤8 by omega),Bool.and_false]
    rfl
   rw [e] at q
   exact ZcF (q _ (Same.refl H))
  rw [decide_eq_false h2]
  have e:Ze7 (.str z)=(z.cps.toList.map inL).all id:=by
   rw [ZfT]
   rw [decide_eq_true (show 1≤z.length by omega),decide_eq_true (show z.length≤8 by omega),List.all_map]
   rfl
  rw [e] at q
  have hl:z.cps.size=z.length:=rfl
  refine Zb2 ⟨_,rfl,z,rfl,?_⟩
  refine Zcv ((z.cps.toList.map inL).map V.bl) (by simp only [List.length_map,Array.length_toList]; exact Nat.lt_of_le_of_lt (Nat.le_of_eq hl) (Zam (by omega))) (fun σ=>∃ o,σ=[o]) ⟨none,rfl⟩ ?_ ?_ ?_ ?_
  ·intro i H2 hi _
   show i<z.cps.size
   simpa using hi
  ·intro H2 _
   show (((z.cps.toList.map inL).map V.bl).length:Nat)=z.cps.size
   simp
  ·rintro i σ H2 v H3 y hy ⟨o,rfl⟩ s2 ⟨e3,c,hc,ev⟩ C hC
   subst e3 ev
   have ey:y=.bl (inL c):=by
    have hc':z.cps.toList[i]?=some c:=by simpa using hc
    rw [List.getElem?_map,List.getElem?_map,hc'] at hy
    exact (Option.some.inj hy).symm
   subst ey
   exact ⟨_,rfl,_,_,rfl,rfl,hC _ _ ⟨_,rfl⟩ (Same.refl _)⟩
  ·intro D H2 hD s2 hl2
   exact ⟨D,_,rfl,hl2,q _ s2⟩
 | _=>exact ZcF (q _ (Same.refl H))
theorem ZnE (T:Tx K w mg) (ZcR:Zfx P base T):Zlh P base T:=by
 refine Fun.okX (k:=1) T.ZbB.F ZnB (fun vs H Q E h=>h.1) (fun cdv A outer s H vs Q E hr h=>?_)
 obtain ⟨-,h⟩:=h
 obtain ⟨x,t,rfl,hv,q⟩:=h
 refine ⟨_,(Zah (Zay (ZcI (ZaB ZcR (hr.mono (by decide)) (by rfl) T.ZbE.m T.ZbE.F.kp T.ZbE.b .nil Zak (Zaa (pv 0) Zaf)) (ZcK (ZaN Zo1 (ZaC Zod (by rfl) T.n_abs ZqL (Zaa (pv 0) Zaf)) (ZaF Ze6 Zad Zad) (Zar _)))))),?_⟩
 refine ⟨_,rfl,rfl,x,t,rfl,hv,fun H1 s1=>⟨_,rfl,?_⟩⟩
 cases t with
 | int i =>
  cases (show x=.int i from hv)
  exact ZcF ⟨_,rfl,i,rfl,_,_,rfl,rfl,(show ZpN 10 18 from ⟨by decide,by decide,by decide +kernel⟩),_,_,rfl,rfl,q _ s1⟩
 | _=>exact Zb2 (q _ s1)
theorem ZjN (T:Tx K w mg) (ZcR:Zfx P base T):ZgJ P base T:=by
 refine Fun.okX (k:=1) T.Zbn.F ZjT (fun vs H Q E h=>h.1) (fun cdv A outer s H vs Q E hr h=>?_)
 obtain ⟨-,h⟩:=h
 obtain ⟨x,t,rfl,hv,q⟩:=h
 refine ⟨_,(Zah (Zay (ZcI (ZaB ZcR (hr.mono (by decide)) (by rfl) T.ZbE.m T.ZbE.F.kp T.ZbE.b .nil Zak (Zaa (pv 0) Zaf)) (ZcI (ZaN Zi2 (pv 0) Zad (Zar _)) (ZcK (ZaN Zo1 (pv 0) (ZaF Ze6 Zad Zad) (Zar _))))))),?_⟩
 refine ⟨_,rfl,rfl,x,t,rfl,hv,fun H1 s1=>⟨_,rfl,?_⟩⟩
 cases t with
 | int i =>
  cases (show x=.int i from hv)
  refine ZcF ⟨_,rfl,_,_,rfl,rfl,_,rfl,?_⟩
  have q1:=q _ s1
  rw [Zkm] at q1
  by_cases h1:1≤i
  ·rw [decide_eq_true h1] at q1 ⊢
   exact ZcF ⟨_,rfl,_,_,rfl,rfl,(show ZpN 10 18 from ⟨by decide,by decide,by decide +kernel⟩),_,_,rfl,rfl,q1⟩
  ·rw [decide_eq_false h1] at q1 ⊢
   exact Zb2 q1
 | _=>exact Zb2 (q _ s1)
theorem Zmb (T:Tx K w mg)  : Zjk P base T:=by
 refine Fun.okX (k:=0) T.ZbZ.F Zl9 (fun vs H Q E h=>h.1) (fun cdv A outer s H vs Q E hr h=>?_)
 obtain ⟨-,h⟩:=h
 obtain ⟨x,t,rfl,hv,q⟩:=h
 refine ⟨_,(Zah (Zay (ZcI (Zc3 K (by rfl) T.n_isinstance (Zaa (pv 0) (Zaa (Zdz (v:=.ty "str") (by rfl) T.n_str Zib rfl) Zaf))) (ZcK (ZaN ZcD (pv 0) (ZaW (Zaa Zat (Zaa Zat (Zaa Zat Zaf)))) (by rfl)))))),?_⟩
 refine ⟨_,rfl,_,.ty "str",_,_,rfl,rfl,hv.kd,kS T t,_,rfl,?_⟩
 cases t with
 | str z =>
  cases (show x=.str z from hv.1)
  refine ZcF ⟨_,rfl,by decide,fun p hp=>⟨p,_,rfl,.inr (.of Zab),rfl,rfl,?_⟩⟩
  have e:(if false=true then !inV (.str z) [.str "he",.str "she",.str ""] else inV (.str z) [.str "he",.str "she",.str ""])=Zie (.str z):=by
   rw [if_neg (by decide)]
   exact ZpL z
  rw [e]
  exact q _ (Zac hp)
 | _=>exact Zb2 (q _ (Same.refl H))
theorem Zka (T:Tx K w mg) (Zdq:Zg8 P base T):Zg2 P base T:=by
 refine Fun.okX (k:=1) T.Zbj.F ZjA (fun vs H Q E h=>h.1) (fun cdv A outer s H vs Q E hr h=>?_)
 obtain ⟨-,h⟩:=h
 obtain ⟨x,t,rfl,hv,q⟩:=h
 refine ⟨_,(Zah (Zay (Zrf (ZaB Zdq (hr.mono (by decide)) (by rfl) T.ZaM.m T.ZaM.F.kp T.ZaM.b .nil Zak (Zaa (pv 0) Zaf)) (ZcK (ZcI (Zc3 K (by rfl) T.n_isinstance (Zaa (pv 0) (Zaa (Zdz (v:=.ty "str") (by rfl) T.n_str Zib rfl) Zaf))) (ZcK (ZaN Zbb (pv 0) Zat (Zar _)))))))),?_⟩
 refine ⟨_,rfl,rfl,x,t,rfl,hv,fun H1 s1=>⟨_,rfl,?_⟩⟩
 have q1:=q _ s1
 unfold Zfl at q1
 cases hn:Ze7 t with
 | true =>
  rw [hn] at q1
  exact ZcF q1
 | false =>
  rw [hn,Bool.false_or] at q1
  refine Zb2 ⟨_,rfl,_,.ty "str",_,_,rfl,rfl,(hv.mono s1).kd,kS T t,_,rfl,?_⟩
  cases t with
  | str z =>
   cases (show x=.str z from hv.1)
   have e:decide (V.str z=V.str "")=decide (z=""):=by
    rw [Bool.eq_iff_iff]
    simp
   exact ZcF ⟨_,rfl,rfl,by rw [e]; exact q1⟩
  | _=>exact Zb2 q1
theorem Zk2 (T:Tx K w mg) (Zdq:Zg8 P base T) (Zi3:Zlh P base T) (ZeA:ZgJ P base T) (Zhr:Zjk P base T) (ZeJ:Zg2 P base T):Zic P base T:=by
 refine Fun.okX (k:=2) T.Zcj.F Zk4 (fun vs H Q E h=>h.1) (fun cdv A outer s H vs Q E hr h=>?_)
 obtain ⟨-,h⟩:=h
 obtain ⟨a,b,xs,ts,cs,rfl,ha,hx,hb,hc,q⟩:=h
 refine ⟨_, (Zag (ZaQ (Zaq Zij (ZaC ZaT (by rfl) T.n_len ZcC (Zaa (pv 0) Zaf)) (ZaC ZaT (by rfl) T.n_len ZcC (Zaa (pv 1) Zaf)) (Zar _)) (Zah (Zay ZdT)) Zav)
   (Zah (Zay (ZaC (Zir rfl) (by rfl) T.n_all Zno (Zaa (ZdF (N:=["check","part"]) (cl:=[]) (σc:=fun _=>[none,none]) rfl (Zm4 (L:=[(".0",.local),("check",.local),("part",.local)]) (by rfl) (by decide +kernel) (by decide +kernel) (by rfl) (by rfl) (by decide) (by rfl) (by simp)) (Zrq K (by rfl) T.n_zip (Zaa (pv 1) (Zaa (pv 0) Zaf))) (fun _ _ _=>(ZpE (n:=2) K rfl (Zc1 (Za2 (i:=0) nd2 rfl (Or.inl rfl)) (Zc1 (Za2 (i:=1) nd2 rfl (Or.inl rfl)) ZiE)))) (fun _ _ _=>ZgL) (fun _ _ _=>(Zo2 (Fam:=Fam T) (i:=0) (ZqX T Zdq Zhr Zi3 ZeA ZeJ (hr.mono (by decide)) rfl rfl rfl rfl rfl) rfl (Or.inl rfl) Zak (Zaa (pv 1) Zaf)))) Zaf))))),?_⟩
 have lx:=hx.length
 refine ⟨_,rfl,a,_,rfl,.inr ha,_,rfl,b,_,rfl,.inr hb,rfl,_,rfl,?_⟩
 have e0:(!decide (V.int (xs.length:Nat)=V.int ((cs.map fun c=>V.ref (T.ad c)).length:Nat)))=!decide (ts.length=cs.length):=by
  rw [lx,List.length_map]
  congr 1
  rw [Bool.eq_iff_iff]
  simp only [decide_eq_true_eq,V.int.injEq]
  omega
 rw [e0]
 unfold ZbN at q
 by_cases hl:ts.length=cs.length
 ·rw [decide_eq_true hl] at q ⊢
  rw [Bool.true_and] at q
  have lo:(ZcL cs ts).length=cs.length:=Zly hl
  refine Zb2 ⟨_,rfl,_,rfl,b,a,rfl,⟨_,hb⟩,⟨_,ha⟩,?_⟩
  refine Zcv ((ZcL cs ts).map V.bl) (by rw [List.length_map,lo]; exact Zam (by omega)) (fun σ=>∃ o u,σ=[o,u]) ⟨none,none,rfl⟩ ?_ ?_ ?_ ?_
  ·intro i H2 hi s2
   rw [List.length_map,lo] at hi
   have h1:i<(cs.map fun c=>V.ref (T.ad c)).length:=by rw [List.length_map]; exact hi
   have h2:i<xs.length:=by omega
   exact ⟨_,_,_,_,s2.sqt hb,s2.sqt ha,List.getElem?_eq_getElem h1,List.getElem?_eq_getElem h2⟩
  ·intro H2 s2
   exact ⟨_,s2.sqt hb,by rw [List.length_map,List.length_map,lo]⟩
  ·rintro i σ H2 v H3 y hy ⟨o,u,rfl⟩ s2 ⟨A',x1,x2,nA,rfl,f1,f2,rfl⟩ C hC
   obtain ⟨c,t,e1,e2,e3⟩:=Zok hl hy
   have g1:=f1 _ (s2.sqt hb)
   have g2:=f2 _ (s2.sqt ha)
   rw [List.getElem?_map,e1] at g1
   have g1':x1=.ref (T.ad c):=(Option.some.inj g1).symm
   obtain ⟨x,ex,vx⟩:=hx.get e2
   rw [ex] at g2
   have g2':x2=x:=(Option.some.inj g2).symm
   subst g1' g2' e3
   have sA:=Zac (o:=.tup [.ref (T.ad c),x2]) nA
   refine ⟨A',_,rfl,.of Zab,rfl,?_⟩
   refine ⟨_,_,rfl,_,_,rfl,rfl,?_⟩
   refine ⟨_,_,rfl,⟨c,rfl,rfl⟩,_,rfl,rfl,x2,t,rfl,(vx.mono s2).mono sA,fun H5 s5=>hC _ _ ⟨_,_,rfl⟩ (sA.trans s5)⟩
  ·intro D H2 hD s2 hl2
   exact ⟨D,_,rfl,hl2,q _ s2⟩
 ·rw [decide_eq_false hl] at q ⊢
  exact ZcF (q _ (Same.refl H))
theorem ZkR (T:Tx K w mg) (ZfM:Zic P base T):Zig P base T:=by
 refine Fun.okX (k:=3) T.Zcn.F ZeS (fun vs H Q E h=>h.1) (fun cdv A outer s H vs Q E hr h=>?_)
 obtain ⟨-,h⟩:=h
 obtain ⟨x,rfl,h⟩:=h
 refine ⟨_, (Zag (ZaQ (PW.pt (ZfJ (Zdn (ZcJ (Zc3 K (by rfl) T.n_isinstance (Zaa (pv 0) (Zaa (Zdz (v := .ty "tuple") (by rfl) T.n_tuple ZoQ rfl) Zaf))))) (ZfJ (Zaq Zbb (ZaC ZaT (by rfl) T.n_len ZcC (Zaa (pv 0) Zaf)) Zad (Zar _)) (Zet (Zdn (ZcJ (Zc3 K (by rfl) T.n_isinstance (Zaa (Zas Zan (pv 0) Zad (fun _ _ => rfl)) (Zaa (Zdz (v := .ty "str") (by rfl) T.n_str Zib rfl) Zaf))))))))) (Zah (Zay ZdT)) Zav)
   (Zag (Zd2 PassesOwn.leaving rfl (ZlE (Zdd (v:=.ref T.aF) (by rfl) T.m_FORMS rfl)) (Zlq rfl (Zc1 (Za2 (i:=1) ZeS.nd rfl (Or.inl rfl)) (Zc1 (Za2 (i:=2) ZeS.nd rfl (Or.inl rfl)) ZiE)))
    (Zah (ZaQ (Zaq Zbb (Zas Zan (pv 0) Zad (fun _ _=>rfl)) (pv 1) (Zar _)) (Zah (Zay (ZaB ZfM (hr.mono (by decide)) (by rfl) T.Zcj.m T.Zcj.F.kp T.Zcj.b .nil Zak (Zaa (Zby Zh3 (pv 0) (Zbp Zad) ZdL) (Zaa (pv 2) Zaf))))) Zav)))
   (Zah (Zay ZdT)))),?_⟩
 rcases h with ⟨t,hv,ht,q⟩ | ⟨ts,⟨a,xs,rfl,hS,hx⟩,hl,q⟩
 ·have k:=kT T t
  rw [ht] at k
  exact ⟨_,rfl,_,.ty "tuple",_,_,rfl,rfl,hv.kd,k,_,rfl,ZcF (q _ (Same.refl H))⟩
 refine ⟨_,rfl,_,.ty "tuple",_,_,rfl,rfl,.sqt hS,T.k_tuple_tuple,_,rfl,?_⟩
 refine Zb2 ⟨_,rfl,a,_,rfl,.inr hS,rfl,_,rfl,?_⟩
 match xs,ts,hx with
 | [],[],_=>exact ZcF (q _ (Same.refl H))
 | x :: xs,t :: ts,hx =>
  have e0:decide (V.int ((x :: xs).length:Nat)=V.int 0)=false:=by
   rw [List.length_cons]
   exact decide_eq_false fun z=>by
    have:=V.int.inj z
    omega
  rw [e0]
  have at0:atI (x :: xs) 0=some x:=Zct (j:=0) rfl
  refine Zb2 ⟨_,rfl,a,_,_,_,rfl,rfl,hS,at0,_,.ty "str",_,_,rfl,rfl,hx.1.kd,kS T t,_,rfl,?_⟩
  cases t with
  | str w =>
   have ex:x=.str w:=hx.1.1
   refine Zb2 ⟨T.aF,rfl,⟨_,T.sF _⟩,Znd (fun i σ H2=>∃ v1 v2,σ=[some (.ref a),v1,v2]∧Same H H2∧∀ j,j<i->∀ p',ZhJ[j]?=some p'->w≠p'.1) ⟨none,none,rfl,Same.refl H,fun j hj=>by omega⟩ (fun _ _ _ _ _=>T.sF _) ?turn ?done⟩
   case done =>
    rintro σ H2 ⟨v1,v2,rfl,s2,b⟩
    have e:ZcG (.str w :: ts)=false:=by
     rw [Zbz,ZkO b]
     rfl
    rw [e] at q
    exact q _ s2
   case turn =>
    rintro i y σ H2 hy ⟨v1,v2,rfl,s2,b⟩
    have hi:i<6:=(List.getElem?_eq_some_iff.mp hy).1
    have hf:ZhJ[i]?=some (ZhJ[i]'hi):=List.getElem?_eq_getElem hi
    generalize ZhJ[i]'hi=p at hf
    obtain ⟨P,G,e1,e2,e3⟩:=ZpY T hf
    rw [hy] at e1
    have ey:y=.ref P:=Option.some.inj e1
    subst ey
    refine ⟨P,_,rfl,e2 _,rfl,_,_,rfl,_,_,rfl,rfl,?_⟩
    refine ⟨_,rfl,a,_,_,_,rfl,rfl,s2.sqt hS,at0,_,rfl,by rw [ex]; rfl,_,rfl,?_⟩
    rw [ex]
    have ed:decide (V.str w=V.str p.1)=decide (w=p.1):=by
     rw [Bool.eq_iff_iff]
     simp
    rw [ed]
    by_cases hw:w=p.1
    ·rw [decide_eq_true hw]
     have e:ZcG (.str w :: ts)=ZbN p.2 ts:=by
      rw [Zbz,Znp hf b hw]
      rfl
     rw [e] at q
     refine ZcF ⟨_,rfl,_,rfl,a,_,rfl,s2.sqt hS,?_,fun n hn=>?_⟩
     ·rintro ⟨z,_⟩
      have:HT.sIx (x :: xs).length 0 (some ((1:Nat):Int))=0:=z
      rw [HT.sIx_nat,List.length_cons] at this
      omega
     ·rw [Zon]
      have sn:=Zac (o:=.tup xs) hn
      refine ⟨_,rfl,rfl,n,G,xs,ts,p.2,rfl,.of Zab,(hx.2.mono s2).mono sn,e3 _,ZmD p (List.mem_of_getElem? hf),fun H5 s5=>q _ (s2.trans (sn.trans s5))⟩
    ·rw [decide_eq_false hw]
     refine Zb2 ⟨_,_,rfl,s2,fun j hj p' e'=>?_⟩
     by_cases hji:j<i
     ·exact b j hji p' e'
     ·have:j=i:=by omega
      subst this
      rw [hf] at e'
      cases e'
      exact hw
  | _=>exact ZcF (q _ (Same.refl H))
theorem ZmA (T:Tx K w mg)  : ZiM P base T:=by
 refine Fun.okX (k:=0) T.Zcu.F Zni (fun vs H Q E h=>h.1) (fun cdv A outer s H vs Q E hr h=>?_)
 obtain ⟨-,h⟩:=h
 obtain ⟨v,e,rfl,⟨a,rfl,hE⟩,q⟩:=h
 refine ⟨_,(Zah (Zay (ZaN ZcD (Zas Zan (pv 0) Zad (fun _ _=>rfl)) (ZaW (Zaa Zat (Zaa Zat Zaf))) (by rfl)))),?_⟩
 cases e with
 | born n s d f m=>exact ⟨_,rfl,a,_,_,_,rfl,rfl,hE,Zae (j:=0) rfl,few rfl,fun p np=>⟨p,_,rfl,.inr (.of Zab),rfl,rfl,q _ (Zac np)⟩⟩
 | taken c t d=>exact ⟨_,rfl,a,_,_,_,rfl,rfl,hE,Zae (j:=0) rfl,few rfl,fun p np=>⟨p,_,rfl,.inr (.of Zab),rfl,rfl,q _ (Zac np)⟩⟩
 | union x y d=>exact ⟨_,rfl,a,_,_,_,rfl,rfl,hE,Zae (j:=0) rfl,few rfl,fun p np=>⟨p,_,rfl,.inr (.of Zab),rfl,rfl,q _ (Zac np)⟩⟩
 | parted x y d=>exact ⟨_,rfl,a,_,_,_,rfl,rfl,hE,Zae (j:=0) rfl,few rfl,fun p np=>⟨p,_,rfl,.inr (.of Zab),rfl,rfl,q _ (Zac np)⟩⟩
 | dead n d=>exact ⟨_,rfl,a,_,_,_,rfl,rfl,hE,Zae (j:=0) rfl,few rfl,fun p np=>⟨p,_,rfl,.inr (.of Zab),rfl,rfl,q _ (Zac np)⟩⟩
 | given x y z d=>exact ⟨_,rfl,a,_,_,_,rfl,rfl,hE,Zae (j:=0) rfl,few rfl,fun p np=>⟨p,_,rfl,.inr (.of Zab),rfl,rfl,q _ (Zac np)⟩⟩
theorem Zld (T:Tx K w mg)  : ZfO P base T:=by
 refine Fun.okX (k:=0) T.ZbF.F Zks (fun vs H Q E h=>h.1) (fun cdv A outer s H vs Q E hr h=>?_)
 obtain ⟨-,h⟩:=h
 obtain ⟨v,e,rfl,⟨a,rfl,hE⟩,q⟩:=h
 refine ⟨_, (Zag (ZaQ (Zaq Zbb (Zas Zan (pv 0) Zad (fun _ _ => rfl)) Zat (Zar _)) (Zah (Zay (ZdF rfl (ZcM (N := ["name"]) [] [none] rfl (by decide +kernel) (by decide +kernel) (by rfl) (by rfl) (by rfl) (by rfl) (by rfl)) (ZlE (Zby Zh3 (pv 0) (Zbp Zad) ZdL)) (fun _ _ _ => (Za2 (i := 0) Zsq rfl (Or.inl rfl))) (fun _ _ _ => (ZfE (Zaq Zij (pv 0) Zat (Zar _)))) (fun _ _ _ => (pv 0))))) Zav)
   (Zag (ZaQ (Zaq Zbb (Zas Zan (pv 0) Zad (fun _ _=>rfl)) Zat (Zar _)) (Zah (Zay (Zbv (Zaa (Zas Zan (pv 0) Zad (fun _ _=>rfl)) Zaf)))) Zav)
   (Zah (Zay (Zbv (Zaa (Zas Zan (pv 0) Zad (fun _ _=>rfl)) (Zaa (Zas Zan (pv 0) Zad (fun _ _=>rfl)) Zaf))))))),?_⟩
 cases e with
 | born n s d f m =>
  refine ⟨_,rfl,a,_,_,_,rfl,rfl,hE,Zae (j:=0) rfl,rfl,_,rfl,ZaR (by decide +kernel) ⟨_,rfl,_,rfl,?_⟩⟩
  dsimp only [Zdf]
  refine Zh1 hE (fun h=>absurd h.1 (show ¬ (4:Nat)=0 by decide)) fun H1 p s1 hp=>?_
  have hp':SqT K H1 p ([f,m].map V.str):=hp
  refine ⟨p,rfl,⟨_,hp'⟩,Zef ([f,m].map Zoa) (Zam (by simp)) (fun σ=>∃ v,σ=[v]) ⟨_,rfl⟩ (fun i H2 hi sm=>?go) (fun H2 sm=>?stop) (fun i σ H2 x H3 o ho hσ sm hx C hC=>?step) (fun D H2 nD sm hD=>?fin)⟩
  case go =>
   have hi':i<([f,m].map V.str).length:=hi
   exact ⟨_,_,sm.sqt hp',List.getElem?_eq_getElem hi'⟩
  case stop=>exact ⟨_,sm.sqt hp',by simp⟩
  case step =>
   obtain ⟨v,rfl⟩:=hσ
   obtain ⟨rfl,hx⟩:=hx
   have e1:=hx _ (sm.sqt hp')
   rw [List.getElem?_map] at e1 ho
   obtain ⟨z,hz,rfl⟩:=Option.map_eq_some_iff.mp e1
   rw [hz] at ho
   obtain rfl:Zoa z=o:=Option.some.inj ho
   refine ⟨_,rfl,rfl,_,rfl,?_⟩
   by_cases hz0:z=""
   ·subst hz0
    exact Zau (by decide +kernel) (hC _ _ ⟨_,rfl⟩ (Same.refl _))
   ·have e2:Zoa z=some (.str z):=if_neg hz0
    rw [e2] at hC
    exact ZaR (by rw [Zbm,decide_eq_false hz0]; rfl) ⟨_,rfl,hC _ _ ⟨_,rfl⟩ (Same.refl _)⟩
  case fin =>
   rw [ZiL] at hD
   exact q _ D (s1.trans sm) (ZcE s1 nD) (.of hD)
 | dead n d=>exact ⟨_,rfl,a,_,_,_,rfl,rfl,hE,Zae (j:=0) rfl,rfl,_,rfl,Zau (by decide +kernel) ⟨_,rfl,a,_,_,_,rfl,rfl,hE,Zae (j:=0) rfl,rfl,_,rfl,ZaR (by decide +kernel) ⟨_,rfl,a,_,_,_,rfl,rfl,hE,Zae (j:=1) rfl,few rfl,fun D nD=>q _ D (Zac nD) nD (.of Zab)⟩⟩⟩
 | taken c t d=>exact ⟨_,rfl,a,_,_,_,rfl,rfl,hE,Zae (j:=0) rfl,rfl,_,rfl,Zau (by decide +kernel) ⟨_,rfl,a,_,_,_,rfl,rfl,hE,Zae (j:=0) rfl,rfl,_,rfl,Zau (by decide +kernel) ⟨_,rfl,a,_,_,_,rfl,rfl,hE,Zae (j:=1) rfl,_,rfl,a,_,_,_,rfl,rfl,hE,Zae (j:=2) rfl,few rfl,fun D nD=>q _ D (Zac nD) nD (.of Zab)⟩⟩⟩
 | union x y d=>exact ⟨_,rfl,a,_,_,_,rfl,rfl,hE,Zae (j:=0) rfl,rfl,_,rfl,Zau (by decide +kernel) ⟨_,rfl,a,_,_,_,rfl,rfl,hE,Zae (j:=0) rfl,rfl,_,rfl,Zau (by decide +kernel) ⟨_,rfl,a,_,_,_,rfl,rfl,hE,Zae (j:=1) rfl,_,rfl,a,_,_,_,rfl,rfl,hE,Zae (j:=2) rfl,few rfl,fun D nD=>q _ D (Zac nD) nD (.of Zab)⟩⟩⟩
 | parted x y d=>exact ⟨_,rfl,a,_,_,_,rfl,rfl,hE,Zae (j:=0) rfl,rfl,_,rfl,Zau (by decide +kernel) ⟨_,rfl,a,_,_,_,rfl,rfl,hE,Zae (j:=0) rfl,rfl,_,rfl,Zau (by decide +kernel) ⟨_,rfl,a,_,_,_,rfl,rfl,hE,Zae (j:=1) rfl,_,rfl,a,_,_,_,rfl,rfl,hE,Zae (j:=2) rfl,few rfl,fun D nD=>q _ D (Zac nD) nD (.of Zab)⟩⟩⟩
 | given x y z d=>exact ⟨_,rfl,a,_,_,_,rfl,rfl,hE,Zae (j:=0) rfl,rfl,_,rfl,Zau (by decide +kernel) ⟨_,rfl,a,_,_,_,rfl,rfl,hE,Zae (j:=0) rfl,rfl,_,rfl,Zau (by decide +kernel) ⟨_,rfl,a,_,_,_,rfl,rfl,hE,Zae (j:=1) rfl,_,rfl,a,_,_,_,rfl,rfl,hE,Zae (j:=2) rfl,few rfl,fun D nD=>q _ D (Zac nD) nD (.of Zab)⟩⟩⟩
theorem Zna (T:Tx K w mg)  : Zlm P base T:=by
 refine Fun.okX (k:=0) T.ZdB.F ZmU (fun vs H Q E h=>h.1) (fun cdv A outer s H vs Q E hr h=>?_)
 obtain ⟨-,h⟩:=h
 obtain ⟨v,e,rfl,⟨a,rfl,hE⟩,q⟩:=h
 refine ⟨_, (Zag (ZaQ (Zaq Zbb (Zas Zan (pv 0) Zad (fun _ _ => rfl)) Zat (Zar _)) (Zah (Zay (Zas Zan (pv 0) Zad (fun _ _ => rfl)))) Zav)
   (Zah (Zay (Zas Zan (pv 0) (ZqS Zpf Zad) (fun _ _=>rfl))))),?_⟩
 cases e with
 | born n s d f m=>exact ⟨_,rfl,a,_,_,_,rfl,rfl,hE,Zae (j:=0) rfl,rfl,_,rfl,ZaR (by decide +kernel) ⟨_,rfl,a,_,_,_,rfl,rfl,hE,Zae (j:=3) rfl,q⟩⟩
 | taken c t d=>exact ⟨_,rfl,a,_,_,_,rfl,rfl,hE,Zae (j:=0) rfl,rfl,_,rfl,Zau (by decide +kernel) ⟨_,rfl,_,rfl,a,_,_,_,rfl,rfl,hE,rfl,q⟩⟩
 | union x y d=>exact ⟨_,rfl,a,_,_,_,rfl,rfl,hE,Zae (j:=0) rfl,rfl,_,rfl,Zau (by decide +kernel) ⟨_,rfl,_,rfl,a,_,_,_,rfl,rfl,hE,rfl,q⟩⟩
 | parted x y d=>exact ⟨_,rfl,a,_,_,_,rfl,rfl,hE,Zae (j:=0) rfl,rfl,_,rfl,Zau (by decide +kernel) ⟨_,rfl,_,rfl,a,_,_,_,rfl,rfl,hE,rfl,q⟩⟩
 | dead n d=>exact ⟨_,rfl,a,_,_,_,rfl,rfl,hE,Zae (j:=0) rfl,rfl,_,rfl,Zau (by decide +kernel) ⟨_,rfl,_,rfl,a,_,_,_,rfl,rfl,hE,rfl,q⟩⟩
 | given x y z d=>exact ⟨_,rfl,a,_,_,_,rfl,rfl,hE,Zae (j:=0) rfl,rfl,_,rfl,Zau (by decide +kernel) ⟨_,rfl,_,rfl,a,_,_,_,rfl,rfl,hE,rfl,q⟩⟩
theorem Zmo (T:Tx K w mg) (Zeg:ZiM P base T):ZgM P base T:=by
 refine Fun.okX (k:=1) T.ZbX.F ZhQ (fun vs H Q E h=>h.1) (fun cdv A outer s H vs Q E hr h=>?_)
 obtain ⟨-,h⟩:=h
 obtain ⟨v,e,rfl,hx,q⟩:=h
 refine ⟨_, (Zag (ZaQ (Zdn (ZcJ (ZaB Zeg (hr.mono (by decide)) (by rfl) T.Zcu.m T.Zcu.F.kp T.Zcu.b .nil Zak (Zaa (pv 0) Zaf)))) (Zah (Zay (pv 0))) Zav)
   (Zag (ZaH (i:=1) ZhQ.nd rfl (Or.inl rfl) (ZaC (Zca K) (by rfl) T.n_sorted ZbU (Zaa (Zby Zh3 (pv 0) (Zbp Zad) (Zbp Zad)) Zaf)))
   (Zah (Zay (ZaW (Zaa (Zas Zan (pv 0) Zad (fun _ _=>rfl)) (Zaa (Zas Za7 (pv 1) Zad (fun _ _=>rfl)) (Zaa (Zas Za7 (pv 1) Zad (fun _ _=>rfl)) (Zaa (Zas Zan (pv 0) Zad (fun _ _=>rfl)) Zaf))))))))),?_⟩
 obtain ⟨a,rfl,hE⟩:=id hx
 refine ⟨_,rfl,rfl,.ref a,e,rfl,hx,fun H1 s1=>⟨_,rfl,?_⟩⟩
 have hE1:=s1.sqt hE
 cases e with
 | born n s d f m=>exact ZcF ⟨_,rfl,q _ _ s1 (hx.mono s1)⟩
 | taken c t d=>exact ZcF ⟨_,rfl,q _ _ s1 (hx.mono s1)⟩
 | union x y d =>
  refine Zb2 ⟨_,rfl,_,rfl,_,rfl,?_⟩
  refine Zh1 hE1 (fun h=>absurd h.1 (show ¬ (1:Nat)=0 by decide)) fun H2 p s2 hp=>?_
  have hp':SqT K H2 p ([x,y].map V.str):=hp
  refine ⟨p,[x,y],rfl,hp',Nat.le_of_ble_eq_true rfl,fun D zs nD perm so=>?_⟩
  rw [Zc5 perm so]
  have s3:=Zac (o:=.lst ([(Zaj x y).1,(Zaj x y).2].map V.str)) nD
  have hE3:=s3.sqt (s2.sqt hE1)
  have hD:SqL K (upd H2 D (.lst ([(Zaj x y).1,(Zaj x y).2].map V.str))) D ([(Zaj x y).1,(Zaj x y).2].map V.str):=.of Zab
  refine ⟨_,rfl,a,_,_,_,rfl,rfl,hE3,Zae (j:=0) rfl,_,rfl,D,_,_,_,rfl,rfl,hD,Zae (j:=0) rfl,_,rfl,D,_,_,_,rfl,rfl,hD,Zae (j:=1) rfl,_,rfl,a,_,_,_,rfl,rfl,hE3,Zae (j:=3) rfl,few rfl,fun t nt=>?_⟩
  exact q _ _ (s1.trans (s2.trans (s3.trans (Zac nt)))) ⟨t,rfl,.of Zab⟩
 | parted x y d =>
  refine Zb2 ⟨_,rfl,_,rfl,_,rfl,?_⟩
  refine Zh1 hE1 (fun h=>absurd h.1 (show ¬ (1:Nat)=0 by decide)) fun H2 p s2 hp=>?_
  have hp':SqT K H2 p ([x,y].map V.str):=hp
  refine ⟨p,[x,y],rfl,hp',Nat.le_of_ble_eq_true rfl,fun D zs nD perm so=>?_⟩
  rw [Zc5 perm so]
  have s3:=Zac (o:=.lst ([(Zaj x y).1,(Zaj x y).2].map V.str)) nD
  have hE3:=s3.sqt (s2.sqt hE1)
  have hD:SqL K (upd H2 D (.lst ([(Zaj x y).1,(Zaj x y).2].map V.str))) D ([(Zaj x y).1,(Zaj x y).2].map V.str):=.of Zab
  refine ⟨_,rfl,a,_,_,_,rfl,rfl,hE3,Zae (j:=0) rfl,_,rfl,D,_,_,_,rfl,rfl,hD,Zae (j:=0) rfl,_,rfl,D,_,_,_,rfl,rfl,hD,Zae (j:=1) rfl,_,rfl,a,_,_,_,rfl,rfl,hE3,Zae (j:=3) rfl,few rfl,fun t nt=>?_⟩
  exact q _ _ (s1.trans (s2.trans (s3.trans (Zac nt)))) ⟨t,rfl,.of Zab⟩
 | dead n d=>exact ZcF ⟨_,rfl,q _ _ s1 (hx.mono s1)⟩
 | given x y z d=>exact ZcF ⟨_,rfl,q _ _ s1 (hx.mono s1)⟩
theorem Znw (T:Tx K w mg) (Zdr:ZgM P base T):ZiS P base T:=by
 refine Fun.okX (k:=2) T.Zcw.F ZmV (fun vs H Q E h=>h.1) (fun cdv A outer s H vs Q E hr h=>?_)
 obtain ⟨-,h⟩:=h
 obtain ⟨v,e,rfl,hx,q⟩:=h
 refine ⟨_, (Zag (ZaQ (Zaq ZcD (Zas Zan (pv 0) Zad (fun _ _ => rfl)) (ZaW (Zaa Zat (Zaa Zat Zaf))) (by rfl)) (Zah (Zay (ZaW (Zaa (Zas Zan (pv 0) Zad (fun _ _ => rfl)) (Zaa (Zas Zan (pv 0) Zad (fun _ _ => rfl)) Zaf))))) Zav)
   (Zag (ZaQ (Zaq Zbb (Zas Zan (pv 0) Zad (fun _ _=>rfl)) Zat (Zar _)) (Zah (Zay (ZaW (Zaa (Zas Zan (pv 0) Zad (fun _ _=>rfl)) (Zaa (Zas Zan (pv 0) Zad (fun _ _=>rfl)) (Zaa (Zas Zan (pv 0) Zad (fun _ _=>rfl)) Zaf)))))) Zav)
   (Zag (ZaQ (Zaq Zbb (Zas Zan (pv 0) Zad (fun _ _=>rfl)) Zat (Zar _)) (Zah (Zay (ZaW (Zaa (Zas Zan (pv 0) Zad (fun _ _=>rfl)) (Zaa (Zas Zan (pv 0) Zad (fun _ _=>rfl)) (Zaa (Zas Zan (pv 0) Zad (fun _ _=>rfl)) (Zaa (Zas Zan (pv 0) Zad (fun _ _=>rfl)) Zaf))))))) Zav)
   (Zah (Zay (ZaF ZpF (ZaW (Zaa Zat Zaf)) (Zby Zh3 (ZaB Zdr (hr.mono (by decide)) (by rfl) T.ZbX.m T.ZbX.F.kp T.ZbX.b .nil Zak (Zaa (pv 0) Zaf)) (Zbp Zad) ZdL))))))),?_⟩
 obtain ⟨a,rfl,hE⟩:=id hx
 cases e with
 | born n s d f m =>
  refine ⟨_,rfl,a,_,_,_,rfl,rfl,hE,Zae (j:=0) rfl,few rfl,fun p np=>⟨p,_,rfl,.inr (.of Zab),rfl,rfl,_,rfl,ZaR (by decide +kernel) ?_⟩⟩
  have s1:=Zac (o:=.tup [.str "born",.str "dead"]) np
  have hE1:=s1.sqt hE
  exact ⟨_,rfl,a,_,_,_,rfl,rfl,hE1,Zae (j:=0) rfl,_,rfl,a,_,_,_,rfl,rfl,hE1,Zae (j:=1) rfl,few rfl,fun t nt=>q _ t (s1.trans (Zac nt)) (ZcE s1 nt) Zab⟩
 | taken c t d =>
  refine ⟨_,rfl,a,_,_,_,rfl,rfl,hE,Zae (j:=0) rfl,few rfl,fun p np=>⟨p,_,rfl,.inr (.of Zab),rfl,rfl,_,rfl,Zau (by decide +kernel) ?_⟩⟩
  have s1:=Zac (o:=.tup [.str "born",.str "dead"]) np
  have hE1:=s1.sqt hE
  refine ⟨_,rfl,a,_,_,_,rfl,rfl,hE1,Zae (j:=0) rfl,rfl,_,rfl,ZaR (by decide +kernel) ?_⟩
  exact ⟨_,rfl,a,_,_,_,rfl,rfl,hE1,Zae (j:=0) rfl,_,rfl,a,_,_,_,rfl,rfl,hE1,Zae (j:=1) rfl,_,rfl,a,_,_,_,rfl,rfl,hE1,Zae (j:=2) rfl,few rfl,fun t nt=>q _ t (s1.trans (Zac nt)) (ZcE s1 nt) Zab⟩
 | union x y d =>
  refine ⟨_,rfl,a,_,_,_,rfl,rfl,hE,Zae (j:=0) rfl,few rfl,fun p np=>⟨p,_,rfl,.inr (.of Zab),rfl,rfl,_,rfl,Zau (by decide +kernel) ?_⟩⟩
  have s1:=Zac (o:=.tup [.str "born",.str "dead"]) np
  have hE1:=s1.sqt hE
  refine ⟨_,rfl,a,_,_,_,rfl,rfl,hE1,Zae (j:=0) rfl,rfl,_,rfl,Zau (by decide +kernel) ?_⟩
  refine ⟨_,rfl,a,_,_,_,rfl,rfl,hE1,Zae (j:=0) rfl,rfl,_,rfl,Zau (by decide +kernel) ?_⟩
  refine ⟨few rfl,fun t nt=>⟨_,rfl,rfl,.ref a,_,rfl,(hx.mono s1).mono (Zac nt),fun H2 u s2 hu=>?_⟩⟩
  obtain ⟨b,rfl,hb⟩:=hu
  refine ⟨_,rfl,?_⟩
  dsimp only [Zdf]
  refine Zh1 hb (fun h=>absurd h.1 (show ¬ (1:Nat)=0 by decide)) fun H3 c s3 hc=>?_
  refine ⟨t,c,[.str "tie"],[.str (Zaj x y).1,.str (Zaj x y).2,.int d],rfl,rfl,.of (s3 _ _ (s2 _ _ Zab)),hc,by simp,few rfl,fun h=>absurd h (by simp),fun _ z nz=>?_⟩
  have s4:=(s1.trans (Zac nt)).trans (s2.trans s3)
  exact q _ z (s4.trans (Zac nz)) (ZcE s4 nz) Zab
 | parted x y d =>
  refine ⟨_,rfl,a,_,_,_,rfl,rfl,hE,Zae (j:=0) rfl,few rfl,fun p np=>⟨p,_,rfl,.inr (.of Zab),rfl,rfl,_,rfl,Zau (by decide +kernel) ?_⟩⟩
  have s1:=Zac (o:=.tup [.str "born",.str "dead"]) np
  have hE1:=s1.sqt hE
  refine ⟨_,rfl,a,_,_,_,rfl,rfl,hE1,Zae (j:=0) rfl,rfl,_,rfl,Zau (by decide +kernel) ?_⟩
  refine ⟨_,rfl,a,_,_,_,rfl,rfl,hE1,Zae (j:=0) rfl,rfl,_,rfl,Zau (by decide +kernel) ?_⟩
  refine ⟨few rfl,fun t nt=>⟨_,rfl,rfl,.ref a,_,rfl,(hx.mono s1).mono (Zac nt),fun H2 u s2 hu=>?_⟩⟩
  obtain ⟨b,rfl,hb⟩:=hu
  refine ⟨_,rfl,?_⟩
  dsimp only [Zdf]
  refine Zh1 hb (fun h=>absurd h.1 (show ¬ (1:Nat)=0 by decide)) fun H3 c s3 hc=>?_
  refine ⟨t,c,[.str "tie"],[.str (Zaj x y).1,.str (Zaj x y).2,.int d],rfl,rfl,.of (s3 _ _ (s2 _ _ Zab)),hc,by simp,few rfl,fun h=>absurd h (by simp),fun _ z nz=>?_⟩
  have s4:=(s1.trans (Zac nt)).trans (s2.trans s3)
  exact q _ z (s4.trans (Zac nz)) (ZcE s4 nz) Zab
 | dead n d =>
  refine ⟨_,rfl,a,_,_,_,rfl,rfl,hE,Zae (j:=0) rfl,few rfl,fun p np=>⟨p,_,rfl,.inr (.of Zab),rfl,rfl,_,rfl,ZaR (by decide +kernel) ?_⟩⟩
  have s1:=Zac (o:=.tup [.str "born",.str "dead"]) np
  have hE1:=s1.sqt hE
  exact ⟨_,rfl,a,_,_,_,rfl,rfl,hE1,Zae (j:=0) rfl,_,rfl,a,_,_,_,rfl,rfl,hE1,Zae (j:=1) rfl,few rfl,fun t nt=>q _ t (s1.trans (Zac nt)) (ZcE s1 nt) Zab⟩
 | given x y z d =>
  refine ⟨_,rfl,a,_,_,_,rfl,rfl,hE,Zae (j:=0) rfl,few rfl,fun p np=>⟨p,_,rfl,.inr (.of Zab),rfl,rfl,_,rfl,Zau (by decide +kernel) ?_⟩⟩
  have s1:=Zac (o:=.tup [.str "born",.str "dead"]) np
  have hE1:=s1.sqt hE
  refine ⟨_,rfl,a,_,_,_,rfl,rfl,hE1,Zae (j:=0) rfl,rfl,_,rfl,Zau (by decide +kernel) ?_⟩
  refine ⟨_,rfl,a,_,_,_,rfl,rfl,hE1,Zae (j:=0) rfl,rfl,_,rfl,ZaR (by decide +kernel) ?_⟩
  exact ⟨_,rfl,a,_,_,_,rfl,rfl,hE1,Zae (j:=0) rfl,_,rfl,a,_,_,_,rfl,rfl,hE1,Zae (j:=1) rfl,_,rfl,a,_,_,_,rfl,rfl,hE1,Zae (j:=2) rfl,_,rfl,a,_,_,_,rfl,rfl,hE1,Zae (j:=4) rfl,few rfl,fun t nt=>q _ t (s1.trans (Zac nt)) (ZcE s1 nt) Zab⟩
theorem Zkn (T:Tx K w mg)  : ZgO P base T:=by
 refine Fun.okX (k:=0) T.Zb5.F ZjO (fun vs H Q E h=>h.1) (fun cdv A outer s H vs Q E hr h=>?_)
 obtain ⟨-,h⟩:=h
 obtain ⟨x,rfl,h⟩:=h
 refine ⟨_,(Zah (Zay (ZcI (Zc3 K (by rfl) T.n_isinstance (Zaa (pv 0) (Zaa (Zdz (v:=.ty "str") (by rfl) T.n_str Zib rfl) Zaf))) (ZcK (ZaN ZcD (pv 0) (Zdd (v:=.ref T.a_STEP_LETTERS) (by rfl) T.m_STEP_LETTERS rfl) (by rfl)))))),?_⟩
 rcases h with ⟨ty,hk,ks,q⟩ | ⟨l,rfl,q⟩
 ·exact ⟨_,rfl,_,.ty "str",_,_,rfl,rfl,hk,ks,_,rfl,Zb2 q⟩
 refine ⟨_,rfl,_,.ty "str",_,_,rfl,rfl,.of (.str _),T.k_str_str,_,rfl,ZcF ⟨_,rfl,T.a_STEP_LETTERS,_,rfl,.inr (T.Zes _),rfl,rfl,?_⟩⟩
 have e:(if false=true then !inV (.str l) (Zc8.map V.str) else inV (.str l) (Zc8.map V.str))=ZmR l:=ZgY l Zc8
 rw [← e] at q
 exact q
theorem Zl1 (T:Tx K w mg)  : ZgC P base T:=by
 refine Fun.okX (k:=0) T.ZbV.F Zmd (fun vs H Q E h=>h.1) (fun cdv A outer s H vs Q E hr h=>?_)
 obtain ⟨-,h⟩:=h
 obtain ⟨a,b,rfl,q⟩:=h
 refine ⟨_,(Zah (Zay (ZaW (Zaa (ZaC (ZlN rfl) (by rfl) T.n_min ZqW (Zaa (pv 0) (Zaa (pv 1) Zaf))) (Zaa (ZaC (ZlS rfl) (by rfl) T.n_max Zlk (Zaa (pv 0) (Zaa (pv 1) Zaf))) Zaf))))),?_⟩
 refine ⟨_,rfl,_,rfl,_,_,rfl,_,rfl,_,rfl,_,_,rfl,few rfl,fun p np=>?_⟩
 rw [Zqc,Zqg]
 exact q _ p (Zac np) np Zab
theorem Zgc (T:Tx K w mg)  : ZdZ P base T:=by
 refine Fun.okX (k:=0) T.Zbt.F Zgg (fun vs H Q E h=>h.1) (fun cdv A outer s H vs Q E hr h=>?_)
 obtain ⟨-,h⟩:=h
 obtain ⟨b,dx,rfl,h0,q⟩:=h
 refine ⟨_, (Zag (ZjG (pv 0) Zgm rfl)
   (Zag (ZjG (pv 0) ZiR rfl)
   (Zag (ZjG (pv 0) Zgm rfl)
   (Zag (ZjG (pv 0) Zgm rfl)
   (Zah (ZjG (pv 0) Zgm rfl)))))),?_⟩
 refine fun k nk=>⟨_,rfl,b,T.c_Book,dx,[],rfl,(Zai (Zal h0 nk)).trans h0,T.cl_Book,T.na_Book_kept,Nat.lt_of_lt_of_le (m:=10) (Nat.le_of_ble_eq_true rfl) (by decide),?_⟩
 obtain ⟨g1,p1,s1,m1⟩:=Zqv (fs:=[]) "kept" (.dT []) h0 nk
 generalize hH1:upd (upd H k (.dT [])) b (.ins T.c_Book dx (Zb8 "kept" (.ref k) ([])))=H1 at *
 refine fun bi nbi=>⟨_,rfl,b,T.c_Book,dx,Zb8 "kept" (.ref k) [],rfl,(Zai (Zal g1 nbi)).trans g1,T.cl_Book,T.na_Book_births,Nat.lt_of_lt_of_le (m:=10) (Nat.le_of_ble_eq_true rfl) (by decide),?_⟩
 obtain ⟨g2,p2,s2,m2⟩:=Zqv (fs:=Zb8 "kept" (.ref k) []) "births" (.dK []) g1 nbi
 generalize hH2:upd (upd H1 bi (.dK [])) b (.ins T.c_Book dx (Zb8 "births" (.ref bi) (Zb8 "kept" (.ref k) [])))=H2 at *
 refine fun li nli=>⟨_,rfl,b,T.c_Book,dx,Zb8 "births" (.ref bi) (Zb8 "kept" (.ref k) []),rfl,(Zai (Zal g2 nli)).trans g2,T.cl_Book,T.na_Book_links,Nat.lt_of_lt_of_le (m:=10) (Nat.le_of_ble_eq_true rfl) (by decide),?_⟩
 obtain ⟨g3,p3,s3,m3⟩:=Zqv (fs:=Zb8 "births" (.ref bi) (Zb8 "kept" (.ref k) [])) "links" (.dT []) g2 nli
 generalize hH3:upd (upd H2 li (.dT [])) b (.ins T.c_Book dx (Zb8 "links" (.ref li) (Zb8 "births" (.ref bi) (Zb8 "kept" (.ref k) []))))=H3 at *
 refine fun ti nti=>⟨_,rfl,b,T.c_Book,dx,Zb8 "links" (.ref li) (Zb8 "births" (.ref bi) (Zb8 "kept" (.ref k) [])),rfl,(Zai (Zal g3 nti)).trans g3,T.cl_Book,T.na_Book_ties,Nat.lt_of_lt_of_le (m:=10) (Nat.le_of_ble_eq_true rfl) (by decide),?_⟩
 obtain ⟨g4,p4,s4,m4⟩:=Zqv (fs:=Zb8 "links" (.ref li) (Zb8 "births" (.ref bi) (Zb8 "kept" (.ref k) []))) "ties" (.dT []) g3 nti
 generalize hH4:upd (upd H3 ti (.dT [])) b (.ins T.c_Book dx (Zb8 "ties" (.ref ti) (Zb8 "links" (.ref li) (Zb8 "births" (.ref bi) (Zb8 "kept" (.ref k) [])))))=H4 at *
 refine fun su nsu=>⟨_,rfl,b,T.c_Book,dx,Zb8 "ties" (.ref ti) (Zb8 "links" (.ref li) (Zb8 "births" (.ref bi) (Zb8 "kept" (.ref k) []))),rfl,(Zai (Zal g4 nsu)).trans g4,T.cl_Book,T.na_Book_sums,Nat.lt_of_lt_of_le (m:=10) (Nat.le_of_ble_eq_true rfl) (by decide),?_⟩
 obtain ⟨g5,p5,s5,m5⟩:=Zqv (fs:=Zb8 "ties" (.ref ti) (Zb8 "links" (.ref li) (Zb8 "births" (.ref bi) (Zb8 "kept" (.ref k) [])))) "sums" (.dT []) g4 nsu
 generalize hH5:upd (upd H4 su (.dT [])) b (.ins T.c_Book dx (Zb8 "sums" (.ref su) (Zb8 "ties" (.ref ti) (Zb8 "links" (.ref li) (Zb8 "births" (.ref bi) (Zb8 "kept" (.ref k) []))))))=H5 at *
 have kb:∀ {c:Addr} {o:HO} {Hx:Hp},Hx c=some o->(∀ fs,o≠.ins T.c_Book dx fs)->∀ {fs},Hx b=some (.ins T.c_Book dx fs)->c≠b:=fun e no fs eb z=>by subst z; rw [eb] at e; cases e; exact no _ rfl
 have dT:∀ fs,HO.dT []≠.ins T.c_Book dx fs:=fun _ z=>by cases z
 have dK:∀ fs,HO.dK []≠.ins T.c_Book dx fs:=fun _ z=>by cases z
 have a1:=s5 _ _ (s4 _ _ (s3 _ _ (s2 _ _ p1 (kb p1 dT g1)) (kb (s2 _ _ p1 (kb p1 dT g1)) dT g2)) (kb (s3 _ _ (s2 _ _ p1 (kb p1 dT g1)) (kb (s2 _ _ p1 (kb p1 dT g1)) dT g2)) dT g3)) (kb p1 dT g1)
 have a2:=s5 _ _ (s4 _ _ (s3 _ _ p2 (kb p2 dK g2)) (kb p2 dK g2)) (kb p2 dK g2)
 have a3:=s5 _ _ (s4 _ _ p3 (kb p3 dT g3)) (kb p3 dT g3)
 have a4:=s5 _ _ p4 (kb p4 dT g4)
 rw [Zp1] at g5
 have kli:k≠li:=Zal (s2 _ _ p1 (kb p1 dT g1)) nli
 have kti:k≠ti:=Zal (s3 _ _ (s2 _ _ p1 (kb p1 dT g1)) (kb (s2 _ _ p1 (kb p1 dT g1)) dT g2)) nti
 have ksu:k≠su:=Zal (s4 _ _ (s3 _ _ (s2 _ _ p1 (kb p1 dT g1)) (kb (s2 _ _ p1 (kb p1 dT g1)) dT g2)) (kb (s3 _ _ (s2 _ _ p1 (kb p1 dT g1)) (kb (s2 _ _ p1 (kb p1 dT g1)) dT g2)) dT g3)) nsu
 have liti:li≠ti:=Zal p3 nti
 have lisu:li≠su:=Zal (s4 _ _ p3 (kb p3 dT g3)) nsu
 have tisu:ti≠su:=Zal p4 nsu
 exact q H5 k bi li ti su ⟨g5,by simp [kli,kti,ksu,liti,lisu,tisu],by simp [bk0],a1,a2,a3,a4,p5,fun _ h=>(nomatch h),fun _ h=>(nomatch h),fun _ h=>(nomatch h)⟩ (fun c o e cb=>s5 _ _ (s4 _ _ (s3 _ _ (s2 _ _ (s1 _ _ e cb) cb) cb) cb) cb) nk (m1 _ nbi) (m1 _ (m2 _ nli)) (m1 _ (m2 _ (m3 _ nti))) (m1 _ (m2 _ (m3 _ (m4 _ nsu))))
theorem Zf8 (T:Tx K w mg)  : Zbk P base T:=by
 refine Fun.okX (k:=0) T.Zaw.F Zf9 (fun vs H Q E h=>h.1) (fun cdv A outer s H vs Q E hr h=>?_)
 obtain ⟨-,h⟩:=h
 obtain ⟨v,x,B,rfl,⟨b,dx,k,bi,li,ti,su,rfl,hB⟩,h⟩:=h
 refine ⟨_, (Zag (ZaQ (PW.pt (ZfJ (Zdn (ZcJ (Zc3 K (by rfl) T.n_isinstance (Zaa (pv 1) (Zaa (Zdz (v := .ty "str") (by rfl) T.n_str Zib rfl) Zaf))))) (Zet (Zns (Zjo (Zc0 hr) (pv 1) (Zcz (pv 0) rfl)))))) (Zah (Zdu (by rfl) T.m_NoPerson T.x_NoPerson EB rfl ZdK (Zaa Zat Zaf))) Zav)
   (Zah (Zay (ZeR (Zc0 hr) (Zcz (pv 0) rfl) (pv 1) (fun _ _=>rfl))))),?_⟩
 rcases h with ⟨ty,hk,ks,qe⟩ | ⟨n,rfl,qe,q⟩
 ·exact ⟨_,rfl,_,.ty "str",_,_,rfl,rfl,hk,ks,_,rfl,ZcF (ZcF ⟨few rfl,qe⟩)⟩
 have dg:=DGet.k (k:=.inr n) hB.bi
 rw [Ze9] at dg
 refine ⟨_,rfl,_,.ty "str",_,_,rfl,rfl,.of (.str _),T.k_str_str,_,rfl,Zb2 ⟨_,rfl,_,rfl,b,T.c_Book,dx,_,_,rfl,hB.ob,T.cl_Book,T.na_Book_births,Ze3,bi,_,rfl,dg,_,rfl,?_⟩⟩
 cases hb:ZaD n B.kept with
 | none=>exact ZcF ⟨few rfl,qe hb⟩
 | some p =>
  rw [hb] at dg
  exact Zb2 ⟨_,rfl,b,T.c_Book,dx,_,_,rfl,hB.ob,T.cl_Book,T.na_Book_births,Ze3,_,rfl,bi,.ref p.2,rfl,dg,q p hb⟩
theorem ZgB (T:Tx K w mg) (Zax:Zbk P base T):Zev P base T:=by
 refine Fun.okX (k:=1) T.ZbC.F Zhp (fun vs H Q E h=>h.1) (fun cdv A outer s H vs Q E hr h=>?_)
 obtain ⟨-,h⟩:=h
 obtain ⟨v,x,B,rfl,hv,h⟩:=h
 refine ⟨_,(Zah (Zay (Zas Zan (ZaG (pv 0) T.cl_Book T.Zaw.me Zax (hr.mono (by decide)) T.Zaw.b .nil ZbT (Zaa (pv 1) Zaf)) Zad (fun _ _=>rfl)))),?_⟩
 obtain ⟨b,dx,k,bi,li,ti,su,rfl,hB⟩:=id hv
 refine ⟨_,rfl,b,dx,_,rfl,hB.ob,rfl,_,rfl,rfl,.ref b,x,B,rfl,hv,?_⟩
 rcases h with ⟨ty,hk,ks,qe⟩ | ⟨n,rfl,qe,q⟩
 ·exact .inl ⟨ty,hk,ks,qe⟩
 refine .inr ⟨n,rfl,qe,fun p hp=>?_⟩
 obtain ⟨hm,hn⟩:=Zc2 hp
 have hE:=hB.en p hm
 obtain ⟨n',s,d,f,m,he⟩:∃ n' s d f m,p.1=.born n' s d f m:=by
  cases e:p.1 with
  | born n' s d f m=>exact ⟨n',s,d,f,m,rfl⟩
  | _=>rw [e] at hn; cases hn
 rw [he] at hE
 exact ⟨p.2,_,_,_,rfl,rfl,hE,Zae (j:=2) rfl,q p hp n' s d f m he⟩
theorem Zhc (T:Tx K w mg) (Zax:Zbk P base T):Zdl P base T:=by
 refine Fun.okX (k:=1) T.ZaK.F ZgW (fun vs H Q E h=>h.1) (fun cdv A outer s H vs Q E hr h=>?_)
 obtain ⟨-,h⟩:=h
 obtain ⟨v,x,B,rfl,hv,h⟩:=h
 refine ⟨_,(Zah (Zay (Zas Zan (ZaG (pv 0) T.cl_Book T.Zaw.me Zax (hr.mono (by decide)) T.Zaw.b .nil ZbT (Zaa (pv 1) Zaf)) Zad (fun _ _=>rfl)))),?_⟩
 obtain ⟨b,dx,k,bi,li,ti,su,rfl,hB⟩:=id hv
 refine ⟨_,rfl,b,dx,_,rfl,hB.ob,rfl,_,rfl,rfl,.ref b,x,B,rfl,hv,?_⟩
 rcases h with ⟨ty,hk,ks,qe⟩ | ⟨n,rfl,qe,q⟩
 ·exact .inl ⟨ty,hk,ks,qe⟩
 refine .inr ⟨n,rfl,qe,fun p hp=>?_⟩
 obtain ⟨hm,hn⟩:=Zc2 hp
 have hE:=hB.en p hm
 obtain ⟨n',s,d,f,m,he⟩:∃ n' s d f m,p.1=.born n' s d f m:=by
  cases e:p.1 with
  | born n' s d f m=>exact ⟨n',s,d,f,m,rfl⟩
  | _=>rw [e] at hn; cases hn
 rw [he] at hE
 exact ⟨p.2,_,_,_,rfl,rfl,hE,Zae (j:=3) rfl,q p hp n' s d f m he⟩
theorem ZeM (T:Tx K w mg) (Zdk:Zev P base T) (Zbf:Zdl P base T):Zda P base T:=by
 refine Fun.okX (k:=2) T.ZaP.F Zez (fun vs H Q E h=>h.1) (fun cdv A outer s H vs Q E hr h=>?_)
 obtain ⟨-,h⟩:=h
 obtain ⟨v,n,s,d,B,rfl,hv,kn,q⟩:=h
 refine ⟨_,(Zah (Zay (Zrf (ZaN Zbb (pv 1) Zat (Zar _)) (ZcK (ZcI (ZaN Zbb (ZaG (pv 0) T.cl_Book T.ZbC.me Zdk (hr.mono (by decide)) T.ZbC.b .nil ZbT (Zaa (pv 1) Zaf)) (pv 2) (Zar _)) (ZcK (ZaN Zj8 (ZaG (pv 0) T.cl_Book T.ZaK.me Zbf (hr.mono (by decide)) T.ZaK.b .nil ZbT (Zaa (pv 1) Zaf)) (pv 3) (Zar _)))))))),?_⟩
 obtain ⟨b,dx,k,bi,li,ti,su,rfl,hB⟩:=id hv
 refine ⟨_,rfl,rfl,_,rfl,?_⟩
 by_cases hn:n=""
 ·have e:Zgo B n s d=true:=by unfold Zgo; rw [decide_eq_true hn]; rfl
  rw [e] at q
  exact ZaR (by rw [Zbm]; exact decide_eq_true hn) q
 refine Zau (by rw [Zbm]; exact decide_eq_false hn) ?_
 have e0:Zgo B n s d=(decide (Zj2 B n=s)&&decide (Zc9 B n<d)):=by unfold Zgo; rw [decide_eq_false hn]; rfl
 rw [e0] at q
 refine ⟨_,rfl,b,dx,_,rfl,hB.ob,rfl,_,rfl,rfl,.ref b,.str n,B,rfl,hv,.inr ⟨n,rfl,fun no=>absurd no (kn hn),fun p hp n' s' d' f m he=>?_⟩⟩
 rw [ZlD hp he] at q
 refine ⟨_,rfl,rfl,_,rfl,?_⟩
 by_cases hs:s'=s
 ·rw [decide_eq_true hs,Bool.true_and] at q
  refine ZaR (by rw [Zbm]; exact decide_eq_true hs) ?_
  refine ⟨_,rfl,b,dx,_,rfl,hB.ob,rfl,_,rfl,rfl,.ref b,.str n,B,rfl,hv,.inr ⟨n,rfl,fun no=>absurd no (kn hn),fun p2 hp2 n2 s2 d2 f2 m2 he2=>?_⟩⟩
  rw [ZgH hp2 he2] at q
  exact ⟨_,rfl,_,_,rfl,rfl,q⟩
 ·rw [decide_eq_false hs,Bool.false_and] at q
  exact Zau (by rw [Zbm]; exact decide_eq_false hs) q
theorem ZjX (T:Tx K w mg) (ZcQ:ZfO P base T) (Zi1:Zlm P base T) (Zbf:Zdl P base T) (ZbG:Zda P base T):Zhv P base T:=by
 refine Fun.okX (k:=3) T.Zci.F ZfX (fun vs H Q E h=>h.1) (fun cdv A outer s H vs Q E hr h=>?_)
 obtain ⟨-,h⟩:=h
 obtain ⟨v,x,B,e,rfl,hv,hx,kn,q⟩:=h
 refine ⟨_, (Zag (ZaQ (Zaq Zbb (Zas Zan (pv 1) Zad (fun _ _ => rfl)) Zat (Zar _)) (Zah (Zay (ZcI (ZaG (pv 0) T.cl_Book T.ZaP.me ZbG (hr.mono (by decide)) T.ZaP.b .nil ZbT (Zaa (Zas Zan (pv 1) Zad (fun _ _ => rfl)) (Zaa Zat (Zaa (Zas Zan (pv 1) Zad (fun _ _ => rfl)) Zaf)))) (ZcK (ZaG (pv 0) T.cl_Book T.ZaP.me ZbG (hr.mono (by decide)) T.ZaP.b .nil ZbT (Zaa (Zas Zan (pv 1) Zad (fun _ _ => rfl)) (Zaa Zat (Zaa (Zas Zan (pv 1) Zad (fun _ _ => rfl)) Zaf)))))))) Zav)
   (Zag (ZaH (i:=2) ZfX.nd rfl (Or.inl rfl) (ZaB ZcQ (hr.mono (by decide)) (by rfl) T.ZbF.m T.ZbF.F.kp T.ZbF.b .nil Zak (Zaa (pv 1) Zaf)))
   (Zag (ZaQ (PW.pt (Ze4 (Zaq Zbb (ZaC ZaT (by rfl) T.n_len ZcC (Zaa (pv 2) Zaf)) Zad (Zar _)) (ZdE (Zaq Zbb (Zas Za7 (pv 2) Zad (fun _ _=>rfl)) (Zas Za7 (pv 2) Zad (fun _ _=>rfl)) (Zar _))))) (Zah (Zay ZdT)) Zav)
   (Zag (ZaQ (PW.pt (Ze4 (Zaq Zbb (Zas Zan (pv 1) Zad (fun _ _=>rfl)) Zat (Zar _)) (ZdE (Zaq Zi2 (ZaG (pv 0) T.cl_Book T.ZaK.me Zbf (hr.mono (by decide)) T.ZaK.b .nil ZbT (Zaa (Zas Zan (pv 1) Zad (fun _ _=>rfl)) Zaf)) (ZaG (pv 0) T.cl_Book T.ZaK.me Zbf (hr.mono (by decide)) T.ZaK.b .nil ZbT (Zaa (Zas Zan (pv 1) Zad (fun _ _=>rfl)) Zaf)) (Zar _))))) (Zah (Zay ZdT)) Zav)
   (Zah (Zay (ZaC (Zir rfl) (by rfl) T.n_all Zno (Zaa (ZdF rfl (ZcM (N:=["name","entry","self"]) ["self","entry"] [none,some 1,some 0] rfl (by decide +kernel) (by decide +kernel) (by rfl) (by rfl) (by rfl) (by rfl) (by rfl)) (ZcH (pv 2)) (fun _ _ _=>(Za2 (i:=0) ZsQ rfl (Or.inl rfl))) (fun _ _ _=>ZgL) (fun _ _ _=>(ZaN Zi2 (ZaB Zi1 (hr.mono (by decide)) (by rfl) T.ZdB.m T.ZdB.F.kp T.ZdB.b .nil Zak (Zaa (pv 1) Zaf)) (ZaG (pv 2) T.cl_Book T.ZaK.me Zbf (hr.mono (by decide)) T.ZaK.b .nil Zak (Zaa (pv 0) Zaf)) (Zar _)))) Zaf)))))))),?_⟩
 obtain ⟨b,dx,k,bi,li,ti,su,rfl,hB⟩:=id hv
 obtain ⟨a,rfl,hE⟩:=id hx
 by_cases hb:e.isBorn=true
 ·cases e with
  | born n s d f m =>
   have kf:f≠""->Known B f:=fun h=>kn f (by simp [Ent.named,h])
   have km:m≠""->Known B m:=fun h=>kn m (by simp [Ent.named,h])
   have q1:=q _ (Same.refl H)
   have ef:Zdy B (.born n s d f m)=(Zgo B f "he" d&&Zgo B m "she" d):=rfl
   rw [ef] at q1
   refine ⟨_,rfl,a,_,_,_,rfl,rfl,hE,Zae (j:=0) rfl,rfl,_,rfl,ZaR (by decide +kernel) ⟨_,rfl,b,dx,_,rfl,hB.ob,rfl,_,rfl,a,_,_,_,rfl,rfl,hE,Zae (j:=4) rfl,_,rfl,a,_,_,_,rfl,rfl,hE,Zae (j:=3) rfl,rfl,.ref b,f,"he",d,B,rfl,hv,kf,_,rfl,Zhz (fun h1=>?_) (fun h1=>?_)⟩⟩
   ·rw [h1,Bool.true_and] at q1
    exact ⟨_,rfl,b,dx,_,rfl,hB.ob,rfl,_,rfl,a,_,_,_,rfl,rfl,hE,Zae (j:=5) rfl,_,rfl,a,_,_,_,rfl,rfl,hE,Zae (j:=3) rfl,rfl,.ref b,m,"she",d,B,rfl,hv,km,q1⟩
   ·rw [h1,Bool.false_and] at q1
    exact q1
  | _=>cases hb
 replace hb:=Bool.eq_false_iff.mpr hb
 rw [Zcy hb] at q
 have w0:∃ w:Str,(e.row.map kV)[0]?=some (.str w)∧w≠"born":=by
  cases e with
  | born=>cases hb
  | _=>exact ⟨_,rfl,by decide +kernel⟩
 obtain ⟨w,hw,hwb⟩:=w0
 refine ⟨_,rfl,a,_,_,_,rfl,rfl,hE,Zae hw,rfl,_,rfl,Zau (by rw [Zbm]; exact decide_eq_false hwb) ?_⟩
 refine ⟨_,rfl,rfl,.ref a,e,rfl,hx,fun H1 D s1 nD hD=>?_⟩
 dsimp only [ZiJ]
 refine Zch (fun σ H2=>σ=[some (.ref b),some (.ref a),some (.ref D)]∧H2=H1∧e.same=false) (fun nx rest=>?_) (fun σ H2 hJ=>?_)
 ·cases e with
  | born=>cases hb
  | dead n d =>
   exact ⟨_,rfl,D,_,rfl,.inl hD,rfl,_,rfl,Zau rfl (Zb2 (rest _ _ ⟨rfl,rfl,rfl⟩))⟩
  | _ =>
   refine ⟨_,rfl,D,_,rfl,.inl hD,rfl,_,rfl,ZaR rfl ⟨_,rfl,D,_,_,_,rfl,rfl,hD,Zae (j:=0) rfl,_,rfl,D,_,_,_,rfl,rfl,hD,Zae (j:=1) rfl,rfl,_,rfl,?_⟩⟩
   refine Zhz (fun h1=>?_) (fun h1=>rest _ _ ⟨rfl,rfl,?_⟩)
   ·have q1:=q _ s1
    rw [Zbm] at h1
    simp only [Ent.same,h1,Bool.not_true,Bool.false_and] at q1
    exact q1
   ·rw [Zbm] at h1
    exact h1
 obtain ⟨rfl,rfl,hsame⟩:=hJ
 have hv2:=hv.mono s1
 have hB2:=hB.mono s1
 have hE2:=s1.sqt hE
 have kn2:∀ n∈e.named,∀ {P:Prop},ZaD n B.kept=none->P:=fun n h _ no=>absurd no (kn n h)
 rw [hsame] at q
 refine Zch (fun σ H3=>σ=[some (.ref b),some (.ref a),some (.ref D)]∧H3=H2∧e.early B=false) (fun nx rest=>?_) (fun σ H3 hJ=>?_)
 ·cases e with
  | born=>cases hb
  | taken c t d =>
   refine ⟨_,rfl,a,_,_,_,rfl,rfl,hE2,Zae (j:=0) rfl,rfl,_,rfl,ZaR (by decide +kernel) ?_⟩
   refine ⟨_,rfl,b,dx,_,rfl,hB2.ob,rfl,_,rfl,a,_,_,_,rfl,rfl,hE2,Zae (j:=2) rfl,rfl,.ref b,.str t,B,rfl,hv2,.inr ⟨t,rfl,kn2 t (by simp [Ent.named]),fun p hp n' s' d' f m he=>?_⟩⟩
   refine ⟨_,rfl,b,dx,_,rfl,hB2.ob,rfl,_,rfl,a,_,_,_,rfl,rfl,hE2,Zae (j:=1) rfl,rfl,.ref b,.str c,B,rfl,hv2,.inr ⟨c,rfl,kn2 c (by simp [Ent.named]),fun p2 hp2 n2 s2 d2 f2 m2 he2=>?_⟩⟩
   have e1:=ZgH hp he
   have e2:=ZgH hp2 he2
   refine ⟨_,_,rfl,rfl,_,rfl,Zhz (fun h1=>?_) (fun h1=>rest _ _ ⟨rfl,rfl,?_⟩)⟩
   ·have q1:=q _ s1
    have e3:(Ent.taken c t d).early B=true:=by
     show decide (Zc9 B c≤Zc9 B t)=true
     rw [e1,e2]
     exact h1
    rw [e3] at q1
    exact q1
   ·show decide (Zc9 B c≤Zc9 B t)=false
    rw [e1,e2]
    exact h1
  | _=>exact ⟨_,rfl,a,_,_,_,rfl,rfl,hE2,Zae (j:=0) rfl,rfl,_,rfl,Zau (by decide +kernel) (Zb2 (rest _ _ ⟨rfl,rfl,rfl⟩))⟩
 obtain ⟨rfl,rfl,hearly⟩:=hJ
 rw [hearly] at q
 refine ⟨_,rfl,D,rfl,⟨_,hD⟩,Zcv (e.named.map fun n=>V.bl (decide (Zc9 B n≤e.day))) ?len (fun σ=>∃ v,σ=[v,some (.ref a),some (.ref b)]) ⟨_,rfl⟩ (fun i H3 hi sm=>?go) (fun H3 sm=>?stop) (fun i σ H3 x H4 y hy hσ sm hx2 C hC=>?step) (fun D2 H3 nD2 sm hD2=>?fin)⟩
 case len =>
  refine Zam ?_
  rw [List.length_map]
  cases e with
  | born=>cases hb
  | _=>exact Nat.le_of_ble_eq_true rfl
 case go =>
  have hi':i<(e.named.map V.str).length:=by rw [List.length_map] at hi ⊢; exact hi
  exact ⟨_,_,sm.sql hD,List.getElem?_eq_getElem hi'⟩
 case stop=>exact ⟨_,sm.sql hD,by simp⟩
 case step =>
  obtain ⟨v,rfl⟩:=hσ
  obtain ⟨rfl,hx3⟩:=hx2
  have e1:=hx3 _ (sm.sql hD)
  rw [List.getElem?_map] at e1 hy
  obtain ⟨n,hn,rfl⟩:=Option.map_eq_some_iff.mp e1
  rw [hn] at hy
  obtain rfl:V.bl (decide (Zc9 B n≤e.day))=y:=Option.some.inj hy
  have hB3:=hB2.mono sm
  refine ⟨_,rfl,rfl,.ref a,e,rfl,hx.mono (s1.trans sm),_,rfl,b,dx,_,rfl,hB3.ob,rfl,_,rfl,rfl,.ref b,.str n,B,rfl,hv2.mono sm,.inr ⟨n,rfl,kn2 n (List.mem_of_getElem? hn),fun p hp n' s' d' f m he=>⟨_,_,rfl,rfl,?_⟩⟩⟩
  rw [ZgH hp he] at hC
  exact hC _ _ ⟨_,rfl⟩ (Same.refl _)
 case fin =>
  refine ⟨D2,e.named.map fun n=>decide (Zc9 B n≤e.day),rfl,by rw [hD2,List.map_map]; rfl,?_⟩
  have q1:=q _ (s1.trans sm)
  rw [List.all_map]
  exact q1
theorem ZhE (T:Tx K w mg) (ZfP:Zig P base T) (ZcQ:ZfO P base T) (Zej:ZiS P base T) (Zax:Zbk P base T) (ZeQ:Zhv P base T):Zfb P base T:=by
 refine Fun.okX (k:=4) T.ZbO.F Zep (fun vs H Q E h=>h.1) (fun cdv A outer s H vs Q E hr h=>?_)
 obtain ⟨-,h⟩:=h
 obtain ⟨v,x,B,rfl,hv,h⟩:=h
 refine ⟨_, (Zag (ZaQ (Zdn (ZcJ (ZaB ZfP (hr.mono (by decide)) (by rfl) T.Zcn.m T.Zcn.F.kp T.Zcn.b .nil Zak (Zaa (pv 1) Zaf)))) (Zah (Zdu (by rfl) T.m_NoEntry T.x_NoEntry EB rfl ZdK (Zaa Zat Zaf))) Zav)
   (Zag (ZaQ (Zaq Zi2 (ZaC ZlY (by rfl) T.n_len ZcC (Zaa (Zcz (pv 0) rfl) Zaf)) (Zdd (v:=.int 400) (by rfl) T.m_MOST_ENTRIES ⟨_,rfl⟩) (Zar _)) (Zah (Zdu (by rfl) T.m_Full T.x_Full EB rfl ZdK (Zaa Zat Zaf))) Zav)
   (Zag (ZaQ (PW.pt (Ze4 (Zaq Zbb (Zas Zan (pv 1) Zad (fun _ _=>rfl)) Zat (Zar _)) (ZdE (Zaq Zi2 (ZaC Zmz (by rfl) T.n_len ZcC (Zaa (Zcz (pv 0) rfl) Zaf)) (Zdd (v:=.int 60) (by rfl) T.m_MOST_PEOPLE ⟨_,rfl⟩) (Zar _))))) (Zah (Zdu (by rfl) T.m_Full T.x_Full EB rfl ZdK (Zaa Zat Zaf))) Zav)
   (Zag (Zd2 PassesOwn.leaving rfl (ZcH (ZaB ZcQ (hr.mono (by decide)) (by rfl) T.ZbF.m T.ZbF.F.kp T.ZbF.b .nil Zak (Zaa (pv 1) Zaf))) (Za2 (i:=2) Zep.nd rfl (Or.inl rfl))
    (Zah (Zbq (ZaG (pv 0) T.cl_Book T.Zaw.me Zax (hr.mono (by decide)) T.Zaw.b .nil ZbT (Zaa (pv 2) Zaf)))))
   (Zag (ZaQ (Zns (Zrk (Zc0 hr) (ZaB Zej (hr.mono (by decide)) (by rfl) T.Zcw.m T.Zcw.F.kp T.Zcw.b .nil Zak (Zaa (pv 1) Zaf)) (Zcz (pv 0) rfl))) (Zah (Zdu (by rfl) T.m_Twice T.x_Twice EB rfl ZdK (Zaa Zat Zaf))) Zav)
   (Zah (ZaQ (Zdn (ZcJ (ZaG (pv 0) T.cl_Book T.Zci.me ZeQ (hr.mono (by decide)) T.Zci.b .nil ZbT (Zaa (pv 1) Zaf)))) (Zah (Zdu (by rfl) T.m_NoFit T.x_NoFit EB rfl ZdK (Zaa Zat Zaf))) Zav))))))),?_⟩
 obtain ⟨b,dx,k,bi,li,ti,su,rfl,hB⟩:=id hv
 rcases h with ⟨hbad,qe⟩ | ⟨e,hx,hok,qe,q⟩
 ·rcases hbad with ⟨t,hw,ht⟩ | ⟨ts,htv,hl,hi⟩
  ·exact ⟨_,rfl,rfl,x,rfl,.inl ⟨t,hw,ht,fun H1 s1=>⟨_,rfl,ZcF ⟨few rfl,qe _ s1⟩⟩⟩⟩
  ·refine ⟨_,rfl,rfl,x,rfl,.inr ⟨ts,htv,hl,fun H1 s1=>⟨_,rfl,?_⟩⟩⟩
   rw [hi]
   exact ZcF ⟨few rfl,qe _ s1⟩
 obtain ⟨a,rfl,hE⟩:=id hx
 refine ⟨_,rfl,rfl,.ref a,rfl,.inr ⟨e.row.map ZqT,hok.tv hE,e.row_len,fun H1 s1=>⟨_,rfl,?_⟩⟩⟩
 rw [hok.en]
 have hB1:=hB.mono s1
 have hE1:=s1.sqt hE
 refine Zb2 ⟨_,rfl,b,T.c_Book,dx,_,_,rfl,hB1.ob,T.cl_Book,T.na_Book_kept,ZiO,k,_,rfl,hB1.ke,_,_,rfl,rfl,_,rfl,?_⟩
 have hlen:B.keptD.length=B.kept.length:=List.length_map ..
 rw [hlen]
 refine Zhz (fun h1=>⟨few rfl,qe .full (ZjH ?_) _ s1⟩) (fun h1=>?_)
 ·have h2:=of_decide_eq_true h1
  unfold Bk.full
  rw [decide_eq_true (by omega),Bool.true_or]
 have h400:decide (400≤B.kept.length)=false:=by
  have h2:=of_decide_eq_false h1
  exact decide_eq_false (by omega)
 dsimp only [Zbu]
 refine Zch (fun σ H2=>σ=[some (.ref b),some (.ref a),none]∧H2=H1∧B.full e=false) (fun nx rest=>?_) (fun σ H2 hJ=>?_)
 ·cases e with
  | taken c t d=>exact ⟨_,rfl,a,_,_,_,rfl,rfl,hE1,Zae (j:=0) rfl,rfl,_,rfl,Zau (by decide +kernel) (Zb2 (rest _ _ ⟨rfl,rfl,by unfold Bk.full; rw [h400]; rfl⟩))⟩
  | union x y d=>exact ⟨_,rfl,a,_,_,_,rfl,rfl,hE1,Zae (j:=0) rfl,rfl,_,rfl,Zau (by decide +kernel) (Zb2 (rest _ _ ⟨rfl,rfl,by unfold Bk.full; rw [h400]; rfl⟩))⟩
  | parted x y d=>exact ⟨_,rfl,a,_,_,_,rfl,rfl,hE1,Zae (j:=0) rfl,rfl,_,rfl,Zau (by decide +kernel) (Zb2 (rest _ _ ⟨rfl,rfl,by unfold Bk.full; rw [h400]; rfl⟩))⟩
  | dead n d=>exact ⟨_,rfl,a,_,_,_,rfl,rfl,hE1,Zae (j:=0) rfl,rfl,_,rfl,Zau (by decide +kernel) (Zb2 (rest _ _ ⟨rfl,rfl,by unfold Bk.full; rw [h400]; rfl⟩))⟩
  | given x y z d=>exact ⟨_,rfl,a,_,_,_,rfl,rfl,hE1,Zae (j:=0) rfl,rfl,_,rfl,Zau (by decide +kernel) (Zb2 (rest _ _ ⟨rfl,rfl,by unfold Bk.full; rw [h400]; rfl⟩))⟩
  | born n s d f m =>
   refine ⟨_,rfl,a,_,_,_,rfl,rfl,hE1,Zae (j:=0) rfl,rfl,_,rfl,ZaR (by decide +kernel) ⟨_,rfl,b,T.c_Book,dx,_,_,rfl,hB1.ob,T.cl_Book,T.na_Book_births,Ze3,bi,_,rfl,hB1.bi,_,_,rfl,rfl,_,rfl,Zhz (fun h2=>⟨few rfl,qe .full (ZjH ?_) _ s1⟩) (fun h2=>rest _ _ ⟨rfl,rfl,?_⟩)⟩⟩
   ·have h3:=of_decide_eq_true h2
    unfold Bk.full
    rw [show (Ent.born n s d f m).isBorn=true from rfl,decide_eq_true (show 60≤(Bk.bornD B.kept).length by omega)]
    simp
   ·have h3:=of_decide_eq_false h2
    unfold Bk.full
    rw [h400,decide_eq_false (show ¬ 60≤(Bk.bornD B.kept).length by omega)]
    simp
 obtain ⟨rfl,rfl,hfull⟩:=hJ
 refine ⟨_,rfl,rfl,.ref a,e,rfl,hx.mono s1,fun H2 D s2 nD hD=>⟨D,rfl,⟨_,hD⟩,Zdx (xs:=e.named.map V.str) (fun i σ H3=>(∃ v,σ=[some (.ref b),some (.ref a),v])∧(∀ n∈e.named.take i,Known B n)∧Same H2 H3) ⟨⟨_,rfl⟩,by simp,Same.refl _⟩ ?sq ?turn ?done⟩⟩
 case sq =>
  rintro i σ H3 hi ⟨_,_,s3⟩
  exact s3.sql hD
 case turn =>
  rintro i x σ H3 hx3 ⟨⟨v,rfl⟩,kn,s3⟩
  rw [List.getElem?_map] at hx3
  obtain ⟨n,hn,rfl⟩:=Option.map_eq_some_iff.mp hx3
  have sa:=s1.trans (s2.trans s3)
  have hB3:=hB.mono sa
  refine ⟨_,rfl,b,dx,_,rfl,hB3.ob,rfl,_,rfl,rfl,.ref b,.str n,B,rfl,hv.mono sa,.inr ⟨n,rfl,fun no=>qe .person (Zhd hfull (List.mem_of_getElem? hn) no) _ sa,fun p hp=>⟨⟨_,rfl⟩,fun m hm=>?_,s3⟩⟩⟩
  rw [List.take_add_one,hn] at hm
  rcases List.mem_append.mp hm with h | h
  ·exact kn m h
  ·obtain rfl:m=n:=by simpa using h
   unfold Known
   rw [hp]
   simp
 case done =>
  rintro σ H3 ⟨⟨v,rfl⟩,kn,s3⟩
  have kn':∀ n∈e.named,Known B n:=fun n hn=>kn n (by rw [List.take_of_length_le (by simp)]; exact hn)
  have sa:=s1.trans (s2.trans s3)
  refine ⟨_,rfl,rfl,.ref a,e,rfl,hx.mono sa,fun H4 p s4 np hp=>?_⟩
  have sb:=sa.trans s4
  have hB4:=hB.mono sb
  refine ⟨_,rfl,b,T.c_Book,dx,_,_,rfl,hB4.ob,T.cl_Book,T.na_Book_kept,ZiO,k,_,rfl,DGet.t hB4.ke hp,_,rfl,Zhz (fun h1=>⟨few rfl,qe .twice (Zh0 hfull kn' h1) _ sb⟩) (fun h1=>?_)⟩
  refine ⟨_,rfl,b,dx,_,rfl,hB4.ob,rfl,_,rfl,rfl,.ref b,.ref a,B,e,rfl,hv.mono sb,hx.mono sb,kn',fun H5 s5=>⟨_,rfl,?_⟩⟩
  cases hf:Zdy B e with
  | false=>exact ZcF ⟨few rfl,qe .fit (ZlH hfull kn' h1 hf) _ (sb.trans s5)⟩
  | true=>exact Zb2 (q (ZjV hfull kn' h1 hf) _ (sb.trans s5))
theorem Zj0 (T:Tx K w mg)  : ZdG P base T:=by
 refine Fun.okX (k:=0) T.ZaI.F Zj1 (fun vs H Q E h=>h.1) (fun cdv A outer s H vs Q E hr h=>?_)
 obtain ⟨-,h⟩:=h
 obtain ⟨b,dx,k,bi,li,ti,su,B,l,n,m,rfl,hB,hl,hz,q⟩:=h
 refine ⟨_,(Zah (ZfN (Zc0 hr) (Zcz (pv 0) rfl) (ZaW (Zaa (pv 1) (Zaa (pv 2) Zaf))) (ZaC (Zjc K) (by rfl) T.n_sorted ZbU (Zaa (ZaF Znq (Zfv (Zc0 hr) (Zcz (pv 0) rfl) (ZaW (Zaa (pv 1) (Zaa (pv 2) Zaf))) (Zbv Zaf) ⟨rfl,rfl,rfl,rfl⟩) (Zbv (Zaa (pv 3) Zaf))) Zaf)) rfl)),?_⟩
 refine ⟨_,rfl,b,T.c_Book,dx,_,_,rfl,hB.ob,T.cl_Book,T.na_Book_links,Zgq,li,rfl,.inr ⟨_,.inl hB.li⟩,_,rfl,_,rfl,few rfl,fun t nt=>⟨few rfl,fun z nz=>?_⟩⟩
 have s1:=Zac (o:=.tup [.str l,.str n]) nt
 have s2:=Zac (o:=.lst []) nz
 have s3:=s1.trans s2
 have hz0:(upd (upd H t (.tup [.str l,.str n])) z (.lst [])) z=some (.lst []):=Zab
 have dg:=DGet.t (k:=two (l,n)) (s3 _ _ hB.li) (s2 _ _ (Zab (o:=.tup [.str l,.str n])))
 generalize upd (upd H t (.tup [.str l,.str n])) z (.lst [])=H2 at *
 rw [show B.linksD=B.links.map fun q=>(two q.1,V.ref q.2.1) from rfl,ZiG] at dg
 have rest:∀ (D:Addr) (H3:Hp),Same H H3->H D=none->H3 D=some (.lst ((ZaS (ZbR B l n++[m])).map V.str))->Zsh K (Zqu 0) "links" (L2.start ["self","letter","begin","end"] [.ref b,.str l,.str n,.str m]) H3 fun x H4=>(Zsc (ZpO (Zqu 1) (ZpO (Zqu 2) Zry))) (L2.start ["self","letter","begin","end"] [.ref b,.str l,.str n,.str m]) H4 fun y H5=>∃ a H6,x=.ref a∧DPut H5 a y (.ref D) H6∧Q .non H6:=by
  intro D H3 sA nD0 hD
  have hB3:=hB.mono sA
  refine ⟨_,rfl,b,T.c_Book,dx,_,_,rfl,hB3.ob,T.cl_Book,T.na_Book_links,Zgq,_,rfl,_,rfl,few rfl,fun t2 nt2=>?_⟩
  have sB:=Zac (o:=.tup [.str l,.str n]) nt2
  have hB4:=hB3.mono sB
  refine ⟨li,_,rfl,DPut.t (k:=two (l,n)) hB4.li Zab ?_,?_⟩
  ·rw [show B.linksD.length=B.links.length from List.length_map ..]
   exact Zam (by omega)
  rw [show B.linksD=B.links.map fun q=>(two q.1,V.ref q.2.1) from rfl,Zgr (f:=two) (fun _ _=>ZdW) (fun p:Addr × List Str=>V.ref p.1) B.links (l,n) (D,ZaS (ZbR B l n++[m]))]
  refine q _ D (hB4.links fun q hq=>?_) ((But.of [li] (sA.trans sB)).trans (But.put hB4.li (by simp))) nD0
  rcases Zgs hq with rfl | hq
  ·exact sB _ _ hD
  ·exact hB4.ll q hq
 refine ⟨_,dg,?_⟩
 cases hk:Za5 (l,n) B.links with
 | none =>
   have e:ZbR B l n=[]:=by unfold ZbR; rw [hk]; rfl
   have hX:H2 z=some (.lst ((ZbR B l n).map V.str)):=by rw [e]; exact hz0
   refine ⟨_,rfl,few rfl,fun y ny=>⟨z,y,_,_,rfl,rfl,(Zai (Zal hX ny)).trans hX,Zab,?len,fun p np=>⟨p,ZbR B l n++[m],rfl,.of (by rw [Zab,List.map_append]; rfl),?len2,fun D zs nD perm so=>?go⟩⟩⟩
   case len=>rw [List.length_map]; exact Nat.le_of_lt (Zam (by show _+1≤1000; omega))
   case len2=>rw [List.length_append]; show _+1<64; omega
   have s4:=(s3.trans (Zac ny)).trans ((Zac np).trans (Zac (o:=.lst (zs.map V.str)) nD))
   have hDD:(upd (upd (upd H2 y (.lst [V.str m])) p (.lst ((ZbR B l n).map V.str++[V.str m]))) D (.lst (zs.map V.str))) D=some (.lst (zs.map V.str)):=Zab
   rw [Zlu perm so] at hDD s4 ⊢
   exact rest D _ s4 (ZcE ((s3.trans (Zac ny)).trans (Zac np)) nD) hDD
 | some x =>
   have e:ZbR B l n=x.2:=by unfold ZbR; rw [hk]; rfl
   obtain ⟨y0,hy0,ey⟩:=ZfS hk
   have hl2:=hB.ll y0 hy0
   rw [ey] at hl2
   have hX:H2 x.1=some (.lst ((ZbR B l n).map V.str)):=by rw [e]; exact (s3 _ _ hl2)
   refine ⟨_,rfl,few rfl,fun y ny=>⟨x.1,y,_,_,rfl,rfl,(Zai (Zal hX ny)).trans hX,Zab,?lenb,fun p np=>⟨p,ZbR B l n++[m],rfl,.of (by rw [Zab,List.map_append]; rfl),?len2b,fun D zs nD perm so=>?gob⟩⟩⟩
   case lenb=>rw [List.length_map]; exact Nat.le_of_lt (Zam (by show _+1≤1000; omega))
   case len2b=>rw [List.length_append]; show _+1<64; omega
   have s4:=(s3.trans (Zac ny)).trans ((Zac np).trans (Zac (o:=.lst (zs.map V.str)) nD))
   have hDD:(upd (upd (upd H2 y (.lst [V.str m])) p (.lst ((ZbR B l n).map V.str++[V.str m]))) D (.lst (zs.map V.str))) D=some (.lst (zs.map V.str)):=Zab
   rw [Zlu perm so] at hDD s4 ⊢
   exact rest D _ s4 (ZcE ((s3.trans (Zac ny)).trans (Zac np)) nD) hDD
theorem Zfq (T:Tx K w mg) (Za0:ZdG P base T):Zdm P base T:=by
 refine Fun.okX (k:=1) T.Zbh.F Zfe (fun vs H Q E h=>h.1) (fun cdv A outer s H vs Q E hr h=>?_)
 obtain ⟨-,h⟩:=h
 obtain ⟨b,dx,k,bi,li,ti,su,B0,B,n,s,d,f,m,a,rfl,hk,hb,hbi,no,hl0,hE,hB,hz,hc,q⟩:=h
 refine ⟨_, (Zag (ZfN (Zc0 hr) (Zcz (pv 0) rfl) (Zas Zan (pv 1) Zad (fun _ _ => rfl)) (pv 1) rfl)
   (Zag (ZaQ (Zaq Zij (Zas Zan (pv 1) Zad (fun _ _=>rfl)) Zat (Zar _)) (Zag (Zbq (ZaG (pv 0) T.cl_Book T.ZaI.me Za0 (hr.mono (by decide)) T.ZaI.b .nil Zak (Zaa Zat (Zaa (Zas Zan (pv 1) Zad (fun _ _=>rfl)) (Zaa (Zas Zan (pv 1) Zad (fun _ _=>rfl)) Zaf)))))
   (Zah (Zbq (ZaG (pv 0) T.cl_Book T.ZaI.me Za0 (hr.mono (by decide)) T.ZaI.b .nil Zak (Zaa Zat (Zaa (Zas Zan (pv 1) Zad (fun _ _=>rfl)) (Zaa (Zas Zan (pv 1) Zad (fun _ _=>rfl)) Zaf))))))) Zav)
   (Zah (ZaQ (Zaq Zij (Zas Zan (pv 1) Zad (fun _ _=>rfl)) Zat (Zar _)) (Zag (Zbq (ZaG (pv 0) T.cl_Book T.ZaI.me Za0 (hr.mono (by decide)) T.ZaI.b .nil Zak (Zaa Zat (Zaa (Zas Zan (pv 1) Zad (fun _ _=>rfl)) (Zaa (Zas Zan (pv 1) Zad (fun _ _=>rfl)) Zaf)))))
   (Zah (Zbq (ZaG (pv 0) T.cl_Book T.ZaI.me Za0 (hr.mono (by decide)) T.ZaI.b .nil Zak (Zaa Zat (Zaa (Zas Zan (pv 1) Zad (fun _ _=>rfl)) (Zaa (Zas Zan (pv 1) Zad (fun _ _=>rfl)) Zaf))))))) Zav)))),?_⟩
 have hb0:ZcP (Bk.bornD B0) (.inr n:Key)=none:=by rw [Ze9,no]; rfl
 refine ⟨_,rfl,_,rfl,b,T.c_Book,dx,_,_,rfl,hb,T.cl_Book,T.na_Book_births,Ze3,_,rfl,a,_,_,_,rfl,rfl,hE,Zae (j:=1) rfl,bi,_,rfl,DPut.k (k:=.inr n) hbi (Zam (Nat.le_trans (Nat.le_trans (ZnK B0) hl0) (by decide))),?_⟩
 rw [ZiN _ hb0,← ZnZ B0 n s d f m a,← hk]
 have bt0:But [bi,li] H (upd H bi (.dK (Bk.bornD B.kept))):=But.put hbi (by simp)
 generalize upd H bi (.dK (Bk.bornD B.kept))=H3 at *
 have hmem:(Ent.born n s d f m,a)∈B.kept:=by rw [hk]; simp
 dsimp only [Zbu]
 refine Zch (fun σ H4=>σ=[some (.ref b),some (.ref a)]∧∃ ls,BkAt K T.c_Book H4 b dx k bi li ti su { B with links:=ls }∧(∀ c,lk ls c=(if f="" then lk B.links else ZbQ (ZbQ (lk B.links) ("F",n) f) ("f",f) n) c)∧ls.length≤B.links.length+2∧But [bi,li] H H4∧Grows H B.links ls) (fun nx rest=>?_) (fun σ H4 hJ=>?_)
 ·have hE3:=hB.en _ hmem
  refine ⟨_,rfl,a,_,_,_,rfl,rfl,hE3,Zae (j:=4) rfl,rfl,_,rfl,?_⟩
  by_cases f0:f=""
  ·refine Zau (by show (!decide (V.str f=V.str ""))=false; rw [Zbm,decide_eq_true f0]; rfl) (rest _ _ ⟨rfl,B.links,hB,fun c=>by rw [if_pos f0],by omega,bt0,Grows.refl _ _⟩)
  have ⟨ls,hls,hB4,hF⟩:∃ ls,ls=B.links∧BkAt K T.c_Book H3 b dx k bi li ti su { B with links:=ls }∧∀ c,lk ls c=lk B.links c:=⟨B.links,rfl,hB,fun c=>rfl⟩
  have hz2:ls.length≤890:=by rw [hls]; exact hz
  have hz3:ls.length≤B.links.length:=by rw [hls]; exact Nat.le_refl _
  refine ZaR (by show (!decide (V.str f=V.str ""))=true; rw [Zbm,decide_eq_false f0]; rfl) ?_
  have hE4:=hB4.en _ hmem
  refine ⟨_,rfl,b,dx,_,rfl,hB4.ob,rfl,_,rfl,a,_,_,_,rfl,rfl,hE4,Zae (j:=1) rfl,_,rfl,a,_,_,_,rfl,rfl,hE4,Zae (j:=4) rfl,rfl,b,dx,k,bi,li,ti,su,{ B with links:=ls },"F",n,f,rfl,hB4,?p1,?p2,fun H5 D5 hB5 bt5 nD5=>?p3⟩
  case p1=>rw [Zl7,hF]; exact hc _
  case p2=>show ls.length≤900; omega
  have hE5:=hB5.en _ hmem
  refine ⟨_,rfl,b,dx,_,rfl,hB5.ob,rfl,_,rfl,a,_,_,_,rfl,rfl,hE5,Zae (j:=4) rfl,_,rfl,a,_,_,_,rfl,rfl,hE5,Zae (j:=1) rfl,rfl,b,dx,k,bi,li,ti,su,_,"f",f,n,rfl,hB5,?p4,?p5,fun H6 D6 hB6 bt6 nD6=>?p6⟩
  case p4 =>
   rw [Zl7]
   show (lk (Zbc ls _ (D5,ZaS (lk ls ("F",n)++[f]))) _).length≤61
   rw [Ze2,Zfj (show Str.ofString "f"≠Str.ofString "F" by decide +kernel),hF]
   exact hc _
  case p5 =>
   have:=Zb0 ls ("F",n) (D5,ZaS (lk ls ("F",n)++[f]))
   show (Zbc ls _ (D5,ZaS (lk ls ("F",n)++[f]))).length≤900
   omega
  refine rest _ _ ⟨rfl,_,hB6,fun c=>?_,?_,?_,((hls ▸ Grows.refl _ _:Grows H B.links ls).put (bt0.al _ nD5)).put (bt0.al _ (bt5.al _ nD6))⟩
  ·show lk (Zbc (Zbc ls ("F",n) (D5,ZaS (lk ls ("F",n)++[f]))) ("f",f) (D6,ZaS (lk (Zbc ls ("F",n) (D5,ZaS (lk ls ("F",n)++[f]))) ("f",f)++[n]))) c=_
   rw [Ze2]
   rw [if_neg f0]
   exact ZcW (fun c=>(Ze2 ..).trans (ZcW hF ..)) ..
  ·have a1:=Zb0 ls ("F",n) (D5,ZaS (lk ls ("F",n)++[f]))
   have a2:=Zb0 (Zbc ls ("F",n) (D5,ZaS (lk ls ("F",n)++[f]))) ("f",f) (D6,ZaS (lk (Zbc ls ("F",n) (D5,ZaS (lk ls ("F",n)++[f]))) ("f",f)++[n]))
   show (Zbc (Zbc ls ("F",n) (D5,ZaS (lk ls ("F",n)++[f]))) ("f",f) (D6,ZaS (lk (Zbc ls ("F",n) (D5,ZaS (lk ls ("F",n)++[f]))) ("f",f)++[n]))).length≤_
   omega
  ·exact bt0.trans ((bt5.mono (by simp)).trans (bt6.mono (by simp)))
 obtain ⟨rfl,ls,hB4,hF,hl4,bt4,gr⟩:=hJ
 have hE3:=hB4.en _ hmem
 refine ⟨_,rfl,a,_,_,_,rfl,rfl,hE3,Zae (j:=5) rfl,rfl,_,rfl,?_⟩
 by_cases m0:m=""
 ·refine Zau (by show (!decide (V.str m=V.str ""))=false; rw [Zbm,decide_eq_true m0]; rfl) (q _ ls hB4 (fun c=>?_) (by omega) bt4 gr)
  unfold ZcV
  rw [if_pos m0]
  exact hF c
 ·have h1:∀ c:Str × Str,c.1≠"F"->c.1≠"f"->((if f="" then lk B.links else ZbQ (ZbQ (lk B.links) ("F",n) f) ("f",f) n) c).length≤61:=by
   intro c c1 c2
   by_cases f0:f=""
   ·rw [if_pos f0]; exact hc c
   ·rw [if_neg f0,Zfj c2,Zfj c1]; exact hc c
  refine ZaR (by show (!decide (V.str m=V.str ""))=true; rw [Zbm,decide_eq_false m0]; rfl) ?_
  have hE4:=hB4.en _ hmem
  refine ⟨_,rfl,b,dx,_,rfl,hB4.ob,rfl,_,rfl,a,_,_,_,rfl,rfl,hE4,Zae (j:=1) rfl,_,rfl,a,_,_,_,rfl,rfl,hE4,Zae (j:=5) rfl,rfl,b,dx,k,bi,li,ti,su,{ B with links:=ls },"M",n,m,rfl,hB4,?r1,?r2,fun H5 D5 hB5 bt5 nD5=>?r3⟩
  case r1=>rw [Zl7,hF]; exact (h1 _ (show Str.ofString "M"≠Str.ofString "F" by decide +kernel) (show Str.ofString "M"≠Str.ofString "f" by decide +kernel))
  case r2=>show ls.length≤900; omega
  have hE5:=hB5.en _ hmem
  refine ⟨_,rfl,b,dx,_,rfl,hB5.ob,rfl,_,rfl,a,_,_,_,rfl,rfl,hE5,Zae (j:=5) rfl,_,rfl,a,_,_,_,rfl,rfl,hE5,Zae (j:=1) rfl,rfl,b,dx,k,bi,li,ti,su,_,"m",m,n,rfl,hB5,?r4,?r5,fun H6 D6 hB6 bt6 nD6=>?r6⟩
  case r4 =>
   rw [Zl7]
   show (lk (Zbc ls _ (D5,ZaS (lk ls ("M",n)++[m]))) _).length≤61
   rw [Ze2,Zfj (show Str.ofString "m"≠Str.ofString "M" by decide +kernel),hF]
   exact (h1 _ (show Str.ofString "m"≠Str.ofString "F" by decide +kernel) (show Str.ofString "m"≠Str.ofString "f" by decide +kernel))
  case r5 =>
   have:=Zb0 ls ("M",n) (D5,ZaS (lk ls ("M",n)++[m]))
   show (Zbc ls _ (D5,ZaS (lk ls ("M",n)++[m]))).length≤900
   omega
  refine q _ _ hB6 (fun c=>?_) ?_ ?_ ((gr.put (bt4.al _ nD5)).put (bt4.al _ (bt5.al _ nD6)))
  ·show lk (Zbc (Zbc ls ("M",n) (D5,ZaS (lk ls ("M",n)++[m]))) ("m",m) (D6,ZaS (lk (Zbc ls ("M",n) (D5,ZaS (lk ls ("M",n)++[m]))) ("m",m)++[n]))) c=_
   rw [Ze2]
   unfold ZcV
   rw [if_neg m0]
   exact ZcW (fun c=>(Ze2 ..).trans (ZcW hF ..)) ..
  ·have a1:=Zb0 ls ("M",n) (D5,ZaS (lk ls ("M",n)++[m]))
   have a2:=Zb0 (Zbc ls ("M",n) (D5,ZaS (lk ls ("M",n)++[m]))) ("m",m) (D6,ZaS (lk (Zbc ls ("M",n) (D5,ZaS (lk ls ("M",n)++[m]))) ("m",m)++[n]))
   show (Zbc (Zbc ls ("M",n) (D5,ZaS (lk ls ("M",n)++[m]))) ("m",m) (D6,ZaS (lk (Zbc ls ("M",n) (D5,ZaS (lk ls ("M",n)++[m]))) ("m",m)++[n]))).length≤_
   omega
  ·exact bt4.trans ((bt5.mono (by simp)).trans (bt6.mono (by simp)))
theorem ZjD (T:Tx K w mg) (ZeK:ZgO P base T) (Zax:Zbk P base T):Zhx P base T:=by
 refine Fun.okX (k:=1) T.Zco.F Zj7 (fun vs H Q E h=>h.1) (fun cdv A outer s H vs Q E hr h=>?_)
 obtain ⟨-,h⟩:=h
 obtain ⟨v,x,y,B,rfl,hv,h⟩:=h
 refine ⟨_, (Zag (ZaQ (Zdn (ZcJ (ZaB ZeK (hr.mono (by decide)) (by rfl) T.Zb5.m T.Zb5.F.kp T.Zb5.b .nil Zak (Zaa (pv 1) Zaf)))) (Zah (Zdu (by rfl) T.m_NoWay T.x_NoWay EB rfl ZdK (Zaa Zat Zaf))) Zav)
   (Zag (Zbq (ZaG (pv 0) T.cl_Book T.Zaw.me Zax (hr.mono (by decide)) T.Zaw.b .nil ZbT (Zaa (pv 2) Zaf)))
   (Zah (Zay (ZgE Zju (by rfl) T.n_list Zqh (Zaa (Zfv (Zc0 hr) (Zcz (pv 0) rfl) (ZaW (Zaa (pv 1) (Zaa (pv 2) Zaf))) (Zbv Zaf) ⟨rfl,rfl,rfl,rfl⟩) Zaf)))))),?_⟩
 obtain ⟨b,dx,k,bi,li,ti,su,rfl,hB⟩:=id hv
 rcases h with ⟨ty,hk,ks,qe⟩ | ⟨l,rfl,q1,q23⟩
 ·exact ⟨_,rfl,rfl,x,rfl,.inl ⟨ty,hk,ks,_,rfl,ZcF ⟨few rfl,qe⟩⟩⟩
 refine ⟨_,rfl,rfl,.str l,rfl,.inr ⟨l,rfl,_,rfl,?_⟩⟩
 cases hl:ZmR l with
 | false=>exact ZcF ⟨few rfl,q1 hl⟩
 | true =>
  refine Zb2 ⟨_,rfl,b,dx,_,rfl,hB.ob,rfl,_,rfl,rfl,.ref b,y,B,rfl,hv,?_⟩
  rcases q23 hl with ⟨ty,hk,ks,qe⟩ | ⟨n,rfl,q2,q3⟩
  ·exact .inl ⟨ty,hk,ks,qe⟩
  refine .inr ⟨n,rfl,q2,fun p hp=>?_⟩
  have kn:Known B n:=by unfold Known; rw [hp]; simp
  refine ⟨_,rfl,b,T.c_Book,dx,_,_,rfl,hB.ob,T.cl_Book,T.na_Book_links,Zgq,li,rfl,.inr ⟨_,.inl hB.li⟩,_,rfl,_,rfl,few rfl,fun t nt=>⟨few rfl,fun z nz=>?_⟩⟩
  have s1:=Zac (o:=.tup [.str l,.str n]) nt
  have s2:=Zac (o:=.lst []) nz
  have s3:=s1.trans s2
  have dg:=DGet.t (k:=two (l,n)) (s3 _ _ hB.li) (s2 _ _ (Zab (o:=.tup [.str l,.str n])))
  rw [show B.linksD=B.links.map fun q=>(two q.1,V.ref q.2.1) from rfl,ZiG] at dg
  refine ⟨_,dg,?_⟩
  cases hk:Za5 (l,n) B.links with
  | none =>
   have e:ZbR B l n=[]:=by unfold ZbR; rw [hk]; rfl
   rw [e] at q3
   exact ⟨z,[],rfl,.inl (.of Zab),fun D nD=>q3 kn _ D (s3.trans (Zac nD)) (ZcE s3 nD) Zab⟩
  | some x =>
   have e:ZbR B l n=x.2:=by unfold ZbR; rw [hk]; rfl
   rw [e] at q3
   obtain ⟨y,hy,ey⟩:=ZfS hk
   have hl2:=hB.ll y hy
   rw [ey] at hl2
   exact ⟨x.1,_,rfl,.inl (.of (s3 _ _ hl2)),fun D nD=>q3 kn _ D (s3.trans (Zac nD)) (ZcE s3 nD) Zab⟩
theorem ZhG (T:Tx K w mg) (Zdp:ZgC P base T) (Zax:Zbk P base T):ZdD P base T:=by
 refine FunD.okX (k:=1) T.F_Book_stands Zdh (fun vs H Q E h=>h.1) (fun cdv A outer s H vs Q E hr h=>?_)
 obtain ⟨-,h⟩:=h
 obtain ⟨v,a,c,B,rfl,hv,ka,kc,hlen,q⟩:=h
 refine ⟨_, (Zag (Zbq (ZaG (pv 0) T.cl_Book T.Zaw.me Zax (hr.mono (by decide)) T.Zaw.b .nil ZbT (Zaa (pv 1) Zaf)))
   (Zag (Zbq (ZaG (pv 0) T.cl_Book T.Zaw.me Zax (hr.mono (by decide)) T.Zaw.b .nil ZbT (Zaa (pv 2) Zaf)))
   (Zag (ZaH (i:=4) Zdh.nd rfl (Or.inl rfl) (Zfv (Zc0 hr) (Zcz (pv 0) rfl) (ZaB Zdp (hr.mono (by decide)) (by rfl) T.ZbV.m T.ZbV.F.kp T.ZbV.b .nil Zak (Zaa (pv 1) (Zaa (pv 2) Zaf))) ZiR ⟨rfl,rfl,rfl,rfl⟩))
   (Zag (Zqi (ZnQ (i:=5) rfl  Zdh.nd rfl (Or.inl rfl) (ZcM (N:=["tied_on","day"]) ["day"] [none,some 3] rfl (by decide +kernel) (by decide +kernel) (by rfl) (by rfl) (by rfl) (by rfl) (by rfl)) (Zpz (pv 4)) (fun _ _ _=>(Za2 (i:=0) ZsG rfl (Or.inl rfl))) (fun _ _ _=>(ZfE (PW.pt (ZfJ (Zaq Zpj (pv 1) ZhU (Zar _)) (Zet (Zaq Zo1 (pv 0) (pv 1) (Zar _))))))) (fun _ _ _=>(pv 0))))
   (Zah (Zay (ZcI (ZaN Zqp (ZaC ZaT (by rfl) T.n_len ZcC (Zaa (pv 5) Zaf)) Zad (Zar _)) (ZcK (ZaN Zbb (ZeR (Zc0 hr) (pv 4) (ZaC (Zjm K rfl) (by rfl) T.n_max Zlk (Zaa (pv 5) Zaf)) (fun _ _=>rfl)) Zat (Zar _)))))))))),?_⟩
 obtain ⟨b,dx,k,bi,li,ti,su,rfl,hB⟩:=id hv
 refine ⟨_,rfl,b,dx,_,rfl,hB.ob,rfl,_,rfl,rfl,.ref b,.str a,B,rfl,hv,.inr ⟨a,rfl,fun no=>absurd no ka,fun p1 hp1=>?_⟩⟩
 refine ⟨_,rfl,b,dx,_,rfl,hB.ob,rfl,_,rfl,rfl,.ref b,.str c,B,rfl,hv,.inr ⟨c,rfl,fun no=>absurd no kc,fun p2 hp2=>?_⟩⟩
 dsimp only
 refine Zch (fun σ' H'=>∃ d,σ'=[some (.ref b),some (.str a),some (.str c),some .non,some (.ref d),none]∧Same H H'∧H' d=some (.dK (Zh7 (Zbw B (Zaj a c))))) (fun nx hnx=>?_) ?_
 ·refine ⟨_,rfl,b,T.c_Book,dx,_,_,rfl,hB.ob,T.cl_Book,T.na_Book_ties,ZmH,ti,rfl,.inr ⟨_,.inl hB.ti⟩,_,rfl,_,rfl,rfl,a,c,rfl,fun H1 t s1 nt ht=>fun z nz=>?_⟩
  have s2:=Zac (o:=.dK []) nz
  have s3:=s1.trans s2
  have dg:=DGet.t (k:=two (Zaj a c)) (s3 _ _ hB.ti) (s2 _ _ ht)
  rw [show B.tiesD=B.ties.map fun q=>(two q.1,V.ref q.2.1) from rfl,Zen (f:=two) (fun _ _=>ZdW) (fun p:Addr × List (Int × Str)=>V.ref p.1)] at dg
  refine ⟨_,dg,?_⟩
  cases hk:ZaZ (Zaj a c) B.ties with
  | none =>
   refine hnx _ _ ⟨z,rfl,s3,?_⟩
   have e:Zbw B (Zaj a c)=[]:=by unfold Zbw; rw [hk]; rfl
   rw [e]
   exact Zab
  | some x =>
   refine hnx _ _ ⟨x.1,rfl,s3,?_⟩
   have e:Zbw B (Zaj a c)=x.2:=by unfold Zbw; rw [hk]; rfl
   rw [e]
   exact s3 _ _ (hB.tt _ (Zds hk))
 rintro σ' H2 ⟨d,rfl,s2,hd⟩
 have est:ZfD B a c=Zck (Zbw B (Zaj a c)):=rfl
 rw [est] at q
 generalize Zbw B (Zaj a c)=l at *
 have llen:(Zh7 l).length=l.length:=List.length_map ..
 refine ⟨d,Zh7 l,hd,_,rfl,d,Zh7 l,rfl,hd,fun o=>Zef (l.map fun r=>some (V.int r.1)) (Zam (by rw [List.length_map]; omega)) (fun σ=>∃ w,σ=[w,some .non]) ⟨_,rfl⟩ (fun i H3 hi sm=>?go) (fun H3 sm=>?stop) (fun i σ H3 x H4 y hy hσ sm hx C hC=>?step) (fun D H3 nD sm hD=>?fin)⟩
 case go=>exact ⟨sm _ _ Zab,by rw [llen]; rw [List.length_map] at hi; exact hi⟩
 case stop=>exact ⟨sm _ _ Zab,by rw [llen,List.length_map]; exact Nat.le_refl _⟩
 case step =>
  obtain ⟨w,rfl⟩:=hσ
  obtain ⟨rfl,hx2⟩:=hx
  rw [List.getElem?_map] at hy
  obtain ⟨r,hr2,rfl⟩:=Option.map_eq_some_iff.mp hy
  have ex:x=.int r.1:=by
   unfold Zh7 at hx2
   rw [List.getElem?_map,hr2] at hx2
   exact (Option.some.inj hx2).symm
  subst ex
  refine ⟨_,rfl,rfl,_,rfl,ZaR (by rfl) (ZcF ⟨_,rfl,hC _ _ ⟨_,rfl⟩ (Same.refl _)⟩)⟩
 case fin =>
  have ef:(l.map fun r=>some (V.int r.1)).filterMap id=(l.map (·.1)).map V.int:=by
   rw [List.filterMap_map,List.map_map]
   exact List.filterMap_eq_map ▸ rfl
  rw [ef] at hD
  refine ⟨o,sm _ _ Zab,?_⟩
  have nDd:D≠d:=fun e=>by subst e; rw [Zab] at nD; cases nD
  have hD4:(upd H3 d (.dK (Zh7 l))) D=some (.lst ((l.map (·.1)).map V.int)):=(Zai nDd).trans hD
  have hd4:(upd H3 d (.dK (Zh7 l))) d=some (.dK (Zh7 l)):=Zab
  have s4:Same H2 (upd H3 d (.dK (Zh7 l))):=fun x u e=>by
   by_cases xd:x=d
   ·subst xd; rw [hd] at e; cases e; exact hd4
   ·rw [Zai xd]
    exact sm _ _ ((Zai xd).trans e)
  generalize upd H3 d (.dK (Zh7 l))=H5 at *
  refine ⟨_,rfl,D,_,rfl,.inl (.of hD4),_,_,rfl,rfl,_,rfl,?_⟩
  rw [List.length_map,List.length_map]
  cases l with
  | nil=>exact Zb2 (q _ (s2.trans s4))
  | cons r0 l0 =>
   refine ZaR (decide_eq_true (by rw [List.length_cons]; omega)) ⟨_,rfl,_,rfl,D,(r0 :: l0).map (·.1),rfl,.of hD4,by simp,fun m hm hx=>?_⟩
   obtain ⟨x,ex⟩:=ZmB hm
   have dg:=DGet.k (k:=.inl m) hd4
   rw [show Zh7 (r0 :: l0)=(r0 :: l0).map fun q=>((.inl q.1:Key),V.str q.2) from rfl,Zen (f:=(Sum.inl:Int->Key)) ZmP V.str,ex] at dg
   have q2:=q _ (s2.trans s4)
   rw [ZgK hm hx ex] at q2
   refine ⟨d,.str x,rfl,dg,rfl,?_⟩
   rw [Zbm]
   exact q2
theorem Zgh (T:Tx K w mg) (Zdp:ZgC P base T) (Za0:ZdG P base T) (ZeU:Zhx P base T) (ZbP:ZdD P base T):Zd4 P base T:=by
 refine Fun.okX (k:=2) T.Zbr.F Zb1 (fun vs H Q E h=>h.1) (fun cdv A outer s H vs Q E hr h=>?_)
 obtain ⟨-,h⟩:=h
 obtain ⟨b,dx,k,bi,li,ti,su,B,a,kd,p1,p2,d,rfl,hE,hB,k1,k2,nd,tl,dl,ll,lf,q⟩:=h
 refine ⟨_, (Zag (ZaH (i := 2) Zb1.nd rfl (Or.inl rfl) (ZoU (Zc0 hr) (Zcz (pv 0) rfl) (ZaB Zdp (hr.mono (by decide)) (by rfl) T.ZbV.m T.ZbV.F.kp T.ZbV.b .nil Zak (Zaa (Zas Zan (pv 1) Zad (fun _ _ => rfl)) (Zaa (Zas Zan (pv 1) Zad (fun _ _ => rfl)) Zaf))) ZiR ⟨rfl, rfl, rfl, rfl⟩))
   (Zag (ZfN (Zc0 hr) (pv 2) (Zas Zan (pv 1) Zad (fun _ _=>rfl)) (Zas Zan (pv 1) Zad (fun _ _=>rfl)) rfl)
   (Zah (Zd2 PassesOwn.leaving rfl (ZlE (ZaW (Zaa (ZaW (Zaa (Zas Zan (pv 1) Zad (fun _ _=>rfl)) (Zaa (Zas Zan (pv 1) Zad (fun _ _=>rfl)) Zaf))) (Zaa (ZaW (Zaa (Zas Zan (pv 1) Zad (fun _ _=>rfl)) (Zaa (Zas Zan (pv 1) Zad (fun _ _=>rfl)) Zaf))) Zaf)))) (Zlq rfl (Zc1 (Za2 (i:=3) Zb1.nd rfl (Or.inl rfl)) (Zc1 (Za2 (i:=4) Zb1.nd rfl (Or.inr rfl)) ZiE)))
    (Zag (ZfN (Zc0 hr) (Zcz (pv 0) rfl) (ZaW (Zaa Zat (Zaa (pv 3) Zaf))) (ZdF rfl (ZcM (N:=["name","end"]) ["end"] [none,some 4] rfl (by decide +kernel) (by decide +kernel) (by rfl) (by rfl) (by rfl) (by rfl) (by rfl)) (ZcH (ZaG (pv 0) T.cl_Book T.Zco.me ZeU (hr.mono (by decide)) T.Zco.b .nil Zak (Zaa Zat (Zaa (pv 3) Zaf)))) (fun _ _ _=>(Za2 (i:=0) Zsp rfl (Or.inl rfl))) (fun _ _ _=>(ZfE (Zaq Zij (pv 0) (pv 1) (Zar _)))) (fun _ _ _=>(pv 0))) rfl)
   (Zah (ZaQ (ZcJ (ZaG (pv 0) T.cl_Book T.me_Book_stands ZbP (hr.mono (by decide)) T.b_Book_stands (.cons (show RelV V.non Value.none from rfl) .nil) Zak (Zaa (pv 3) (Zaa (pv 4) Zaf)))) (Zah (Zbq (ZaG (pv 0) T.cl_Book T.ZaI.me Za0 (hr.mono (by decide)) T.ZaI.b .nil Zak (Zaa Zat (Zaa (pv 3) (Zaa (pv 4) Zaf)))))) Zav))))))),?_⟩
 refine Zch (fun σ' H'=>∃ y ts,σ'=[some (.ref b),some (.ref a),some (.ref y),none,none]∧BkAt K T.c_Book H' b dx k bi li ti su { B with ties:=ts }∧(ts.map (·.1)).Nodup∧ts.length≤B.ties.length+1∧ZaZ (Zaj p1 p2) ts=some (y,Zbw B (Zaj p1 p2))∧(∀ c,ZiQ ts c=Zbw B c)∧But [li,ti,y] H H'∧(H y=none∨∃ w,H y=some (.dK w))∧SqT K H' a [.str kd,.str p1,.str p2,.int d]) (fun nx hnx=>?_) ?_
 ·refine ⟨_,rfl,b,T.c_Book,dx,_,_,rfl,hB.ob,T.cl_Book,T.na_Book_ties,ZmH,ti,rfl,.inr ⟨_,.inl hB.ti⟩,_,rfl,a,_,_,_,rfl,rfl,hE,Zae (j:=1) rfl,_,rfl,a,_,_,_,rfl,rfl,hE,Zae (j:=2) rfl,rfl,p1,p2,rfl,fun H1 t s1 nt ht=>fun z nz=>?_⟩
  have s2:=Zac (o:=.dK []) nz
  have s3:=s1.trans s2
  have hB1:=hB.mono s1
  have hB3:=hB.mono s3
  have hlen:B.tiesD.length=B.ties.length:=List.length_map ..
  have hval:ZcP B.tiesD (two (Zaj p1 p2))=(ZaZ (Zaj p1 p2) B.ties).map fun p=>V.ref p.1:=Zen (f:=two) (fun _ _=>ZdW) (fun p:Addr × List (Int × Str)=>V.ref p.1) _ _
  refine ⟨_,two (Zaj p1 p2),t,hB3.ti,rfl,s2 _ _ ht,by rw [hlen]; exact Zam (by omega),fun v hv=>?_,fun hn=>?_⟩
  ·rw [hval] at hv
   obtain ⟨x,hk,rfl⟩:=Option.map_eq_some_iff.mp hv
   have e:Zbw B (Zaj p1 p2)=x.2:=by unfold Zbw; rw [hk]; rfl
   exact hnx _ _ ⟨x.1,B.ties,rfl,hB3,nd,by omega,by rw [hk,e],fun c=>rfl,But.of _ s3,.inr ⟨_,hB.tt _ (Zds hk)⟩,s3.sqt hE⟩
  ·rw [hval] at hn
   have hk:ZaZ (Zaj p1 p2) B.ties=none:=by simpa using hn
   have e:Zbw B (Zaj p1 p2)=[]:=by unfold Zbw; rw [hk]; rfl
   have zn:∀ {x:Addr} {o:HO},H1 x=some o->x≠z:=fun h=>Zal h nz
   refine hnx _ _ ⟨z,B.ties++[(Zaj p1 p2,z,[])],rfl,hB3.newTie Zab ⟨(zn hB1.bi).symm,fun q hq=>zn (hB1.tt q hq)⟩ _,?_,by rw [List.length_append]; exact Nat.le_refl _,?_,fun c=>Zou _ _ _ _ hk,?_,.inl (ZcE s1 nz),?_⟩
   ·rw [List.map_append,List.nodup_append]
    refine ⟨nd,by simp,fun x hx w hw ex=>?_⟩
    have ew:w=Zaj p1 p2:=by simpa using hw
    subst ew ex
    obtain ⟨p,hp,ep⟩:=List.mem_map.mp hx
    have:=Zfk hk
    rw [List.any_eq_false] at this
    exact absurd (decide_eq_true ep) (this p hp)
   ·rw [Zfd,hk,e]
    unfold ZaZ
    rw [if_pos rfl]
    rfl
   ·exact (But.of _ s3).trans (But.put hB3.ti (by simp))
   ·exact ZaO (s3.sqt hE) hB3.ti (fun _ z=>by cases z) (fun _ _ z=>by cases z)
 rintro σ' H1 ⟨y,ts,rfl,hB1,nd1,tl1,hf,htf,bt1,hy0,hE1⟩
 generalize hl:Zbw B (Zaj p1 p2)=l at *
 have hy:H1 y=some (.dK (Zh7 l)):=hB1.tt _ (Zds hf)
 have hB2:=hB1.putTie nd1 hf (Zbc l d kd)
 obtain ⟨pa1,pa2⟩:=ZhM (l':=Zbc l d kd) nd1 hf
 have tl2:(Zbc ts (Zaj p1 p2) (y,Zbc l d kd)).length=ts.length:=by
  have:=congrArg List.length pa1
  rwa [List.length_map,List.length_map] at this
 have htf2:∀ c,ZiQ (Zbc ts (Zaj p1 p2) (y,Zbc l d kd)) c=if c=Zaj p1 p2 then Zbc l d kd else Zbw B c:=fun c=>by rw [ZoR,htf]
 have nd2:((Zbc ts (Zaj p1 p2) (y,Zbc l d kd)).map (·.1)).Nodup:=by rw [pa2]; exact nd1
 have hE2:SqT K (upd H1 y (.dK (Zh7 (Zbc l d kd)))) a [.str kd,.str p1,.str p2,.int d]:=ZaO hE1 hy (fun _ z=>by cases z) (fun _ _ z=>by cases z)
 have bt2:But [li,ti,y] H (upd H1 y (.dK (Zh7 (Zbc l d kd)))):=bt1.trans (But.put hy (by simp))
 have dlen:(Zh7 l).length=l.length:=List.length_map ..
 refine ⟨_,rfl,a,_,_,_,rfl,rfl,hE1,Zae (j:=0) rfl,_,rfl,_,rfl,a,_,_,_,rfl,rfl,hE1,Zae (j:=3) rfl,y,_,rfl,DPut.k (k:=.inl d) hy (by rw [dlen]; exact Zam (by omega)),?_⟩
 rw [show Zi8 (Zh7 l) (.inl d) (.str kd)=Zh7 (Zbc l d kd) from Zgr (f:=(Sum.inl:Int->Key)) ZmP V.str l d kd]
 generalize upd H1 y (.dK (Zh7 (Zbc l d kd)))=H2 at *
 generalize Zbc ts (Zaj p1 p2) (y,Zbc l d kd)=ts2 at *
 generalize hst:Zck (Zbc l d kd)=st at *
 have ldl:(Zbc l d kd).length≤801:=by have:=Zb0 l d kd; omega
 refine ⟨_,rfl,a,_,_,_,rfl,rfl,hE2,Zae (j:=1) rfl,_,rfl,a,_,_,_,rfl,rfl,hE2,Zae (j:=2) rfl,few rfl,fun t1 nt1=>?_⟩
 have s1:=Zac (o:=.tup [.str p1,.str p2]) nt1
 refine ⟨_,rfl,a,_,_,_,rfl,rfl,(s1.sqt hE2),Zae (j:=2) rfl,_,rfl,a,_,_,_,rfl,rfl,(s1.sqt hE2),Zae (j:=1) rfl,few rfl,fun t2 nt2=>?_⟩
 have s2:=Zac (o:=.tup [.str p2,.str p1]) nt2
 refine ⟨few rfl,fun t3 nt3=>?_⟩
 have s3:=Zac (o:=.tup [.ref t1,.ref t2]) nt3
 have s123:=s1.trans (s2.trans s3)
 refine ⟨t3,rfl,⟨_,.of Zab⟩,Znd (xs:=[.ref t1,.ref t2]) (fun i σ H5=>∃ ls v3 v4,σ=[some (.ref b),some (.ref a),some (.ref y),v3,v4]∧BkAt K T.c_Book H5 b dx k bi li ti su { B with links:=ls,ties:=ts2 }∧(∀ c,lk ls c=(match i with | 0=>lk B.links | 1=>Zba (lk B.links) st p1 p2 | _=>Zba (Zba (lk B.links) st p1 p2) st p2 p1) c)∧ls.length≤B.links.length+2*i∧But [li,ti,y] H H5∧SqT K H5 t1 [.str p1,.str p2]∧SqT K H5 t2 [.str p2,.str p1]∧SqT K H5 t3 [.ref t1,.ref t2]∧Grows H B.links ls) ?start ?list ?turn ?done⟩
 case start=>exact ⟨B.links,none,none,rfl,hB2.mono s123,fun c=>rfl,by omega,bt2.trans (But.of _ s123),(s2.trans s3).sqt (.of Zab),s3.sqt (.of Zab),.of Zab,Grows.refl _ _⟩
 case list =>
  rintro i σ H5 _ ⟨ls,v3,v4,rfl,_,_,_,_,_,_,h3,_⟩
  exact h3
 case done =>
  rintro σ H5 ⟨ls,v3,v4,rfl,hB5,hlk,hls,bt5,_,_,_,gr⟩
  exact q H5 ls ts2 y hB5 nd2 (by omega) htf2 hlk (by simp at hls; omega) bt5 hy0 gr
 case turn =>
  rintro i x σ H5 hx ⟨ls,v3,v4,rfl,hB5,hlk,hls,bt5,h1,h2,h3,gr⟩
  have pick:∃ tq u w,x=.ref tq∧SqT K H5 tq [.str u,.str w]∧Known B u∧Known B w∧Zaj u w=Zaj p1 p2∧i≤1∧∀ F:Str × Str->List Str,(∀ c,F c=Zba (match i with | 0=>lk B.links | 1=>Zba (lk B.links) st p1 p2 | _=>Zba (Zba (lk B.links) st p1 p2) st p2 p1) st u w c)->∀ c,F c=(match i+1 with | 0=>lk B.links | 1=>Zba (lk B.links) st p1 p2 | _=>Zba (Zba (lk B.links) st p1 p2) st p2 p1) c:=by
   match i,hx with
   | 0,hx=>exact ⟨t1,p1,p2,(Option.some.inj hx).symm,h1,k1,k2,rfl,by omega,fun F hF=>hF⟩
   | 1,hx=>exact ⟨t2,p2,p1,(Option.some.inj hx).symm,h2,k2,k1,Zmi p2 p1,by omega,fun F hF=>hF⟩
  obtain ⟨tq,u,w,rfl,hq,ku,kw,hpr,i1,hG⟩:=pick
  have gl:∀ c,((match i with | 0=>lk B.links | 1=>Zba (lk B.links) st p1 p2 | _=>Zba (Zba (lk B.links) st p1 p2) st p2 p1) c).length≤61:=by
   intro c
   match i,i1 with
   | 0,_=>have:=lf c; exact Nat.le_succ_of_le this
   | 1,_=>exact Nat.le_trans (Zg6 ..) (by have:=lf c; omega)
  generalize (match i with | 0=>lk B.links | 1=>Zba (lk B.links) st p1 p2 | _=>Zba (Zba (lk B.links) st p1 p2) st p2 p1)=G at *
  refine ⟨tq,_,rfl,hq,rfl,_,_,rfl,_,_,rfl,rfl,?_⟩
  dsimp only [ZiJ]
  refine Zch (fun σ' H'=>∃ D2,σ'=[some (.ref b),some (.ref a),some (.ref y),some (.str u),some (.str w)]∧BkAt K T.c_Book H' b dx k bi li ti su { B with links:=Zbc ls ("S",u) (D2,(G ("S",u)).filter fun n=>decide (n≠w)),ties:=ts2 }∧But [li,ti,y] H H'∧SqT K H' t1 [.str p1,.str p2]∧SqT K H' t2 [.str p2,.str p1]∧SqT K H' t3 [.ref t1,.ref t2]∧H D2=none) (fun nx hnx=>?_) ?_
  ·refine ⟨_,rfl,b,dx,_,rfl,hB5.ob,rfl,_,rfl,rfl,.ref b,.str "S",.str u,_,rfl,⟨b,dx,k,bi,li,ti,su,rfl,hB5⟩,.inr ⟨"S",rfl,fun h=>absurd h (by decide +kernel),fun _=>.inr ⟨u,rfl,fun no=>absurd no ku,fun _ H6 D s6 nD hD0=>?_⟩⟩⟩
   have eL:ZbR { B with links:=ls,ties:=ts2 } "S" u=G ("S",u):=hlk ("S",u)
   rw [eL] at hD0
   have hD:SqL K H6 D ((G ("S",u)).map V.str):=.of hD0
   refine ⟨D,rfl,⟨_,hD⟩,Zef ((G ("S",u)).map (ZpC w)) (Zam (by rw [List.length_map]; have:=gl ("S",u); omega)) (fun σ=>∃ v,σ=[v,some (.str w)]) ⟨_,rfl⟩ (fun j H7 hj sm=>?go) (fun H7 sm=>?stop) (fun j σ H7 x H8 o ho hσ sm hx C hC=>?step) (fun D2 H7 nD2 sm hD2=>?fin)⟩
   case go=>exact ⟨_,_,sm.sql hD,List.getElem?_eq_getElem (by rw [List.length_map] at hj ⊢; exact hj)⟩
   case stop=>exact ⟨_,sm.sql hD,by rw [List.length_map,List.length_map]; exact Nat.le_refl _⟩
   case step =>
    obtain ⟨v,rfl⟩:=hσ
    obtain ⟨rfl,hx2⟩:=hx
    have e1:=hx2 _ (sm.sql hD)
    rw [List.getElem?_map] at e1 ho
    obtain ⟨n,hn,rfl⟩:=Option.map_eq_some_iff.mp e1
    rw [hn] at ho
    obtain rfl:ZpC w n=o:=Option.some.inj ho
    refine ⟨_,rfl,_,rfl,rfl,_,rfl,?_⟩
    by_cases hz0:n=w
    ·have e2:ZpC w n=none:=if_pos hz0
     rw [e2] at hC
     exact Zau (by show (!decide (V.str n=V.str w))=false; rw [Zbm,decide_eq_true hz0]; rfl) (hC _ _ ⟨_,rfl⟩ (Same.refl _))
    ·have e2:ZpC w n=some (.str n):=if_neg hz0
     rw [e2] at hC
     exact ZaR (by show (!decide (V.str n=V.str w))=true; rw [Zbm,decide_eq_false hz0]; rfl) ⟨_,rfl,hC _ _ ⟨_,rfl⟩ (Same.refl _)⟩
   case fin =>
    rw [Zlv] at hD2
    have s67:=s6.trans sm
    have hB7:=hB5.mono s67
    refine ⟨_,rfl,b,T.c_Book,dx,_,_,rfl,hB7.ob,T.cl_Book,T.na_Book_links,Zgq,_,rfl,few rfl,fun t nt=>?_⟩
    have s8:=Zac (o:=.tup [.str "S",.str u]) nt
    have hB8:=hB7.mono s8
    have llen:({ B with links:=ls,ties:=ts2 }:Bk).linksD.length=ls.length:=List.length_map ..
    refine ⟨li,_,rfl,DPut.t (k:=two ("S",u)) hB8.li Zab (by rw [llen]; exact Zam (by omega)),?_⟩
    rw [show ({ B with links:=ls,ties:=ts2 }:Bk).linksD=ls.map fun q=>(two q.1,V.ref q.2.1) from rfl,Zgr (f:=two) (fun _ _=>ZdW) (fun p:Addr × List Str=>V.ref p.1) ls ("S",u) (D2,(G ("S",u)).filter fun n=>decide (n≠w))]
    have li8:=hB8.li
    have kp:∀ {c:Addr} {xs:List V},SqT K H5 c xs->SqT K (upd (upd H7 t (.tup [.str "S",.str u])) li (.dT ((Zbc ls ("S",u) (D2,(G ("S",u)).filter fun n=>decide (n≠w))).map fun q=>(two q.1,V.ref q.2.1)))) c xs:=fun h=>ZaO ((s67.trans s8).sqt h) li8 (fun _ z=>by cases z) (fun _ _ z=>by cases z)
    refine hnx _ _ ⟨D2,rfl,hB8.links fun q hq=>?_,bt5.trans ((But.of _ (s67.trans s8)).trans (But.put li8 (by simp))),kp h1,kp h2,kp h3,bt5.al _ (ZcE s6 nD2)⟩
    rcases Zgs hq with rfl | hq
    ·exact s8 _ _ hD2
    ·exact hB8.ll q hq
  ·rintro σ' H6 ⟨D2,rfl,hB6,bt6,g1,g2,g3,n2⟩
   have pl:=Zb0 ls ("S",u) (D2,(G ("S",u)).filter fun n=>decide (n≠w))
   have lk6:∀ c,lk (Zbc ls ("S",u) (D2,(G ("S",u)).filter fun n=>decide (n≠w))) c=if c=(("S",u):Str × Str) then (G ("S",u)).filter (fun n=>decide (n≠w)) else G c:=fun c=>by rw [ZnP,hlk]
   have et:Zbw { B with links:=Zbc ls ("S",u) (D2,(G ("S",u)).filter fun n=>decide (n≠w)),ties:=ts2 } (Zaj u w)=Zbc l d kd:=by
    rw [Zlf]
    show ZiQ ts2 (Zaj u w)=_
    rw [htf2,if_pos hpr]
   have es:ZfD { B with links:=Zbc ls ("S",u) (D2,(G ("S",u)).filter fun n=>decide (n≠w)),ties:=ts2 } u w=st:=by
    unfold ZfD
    rw [et,hst]
   refine ⟨_,rfl,b,dx,_,rfl,hB6.ob,rfl,_,rfl,_,rfl,rfl,.ref b,u,w,_,rfl,⟨b,dx,k,bi,li,ti,su,rfl,hB6⟩,ku,kw,by rw [et]; omega,fun H7 s7=>⟨_,rfl,?_⟩⟩
   rw [es]
   have hB7:=hB6.mono s7
   have bt7:=bt6.trans (But.of _ s7)
   refine Zhz (fun hs=>?_) (fun hs=>?_)
   ·have la:ZbR { B with links:=Zbc ls ("S",u) (D2,(G ("S",u)).filter fun n=>decide (n≠w)),ties:=ts2 } "S" u=(G ("S",u)).filter fun n=>decide (n≠w):=by
     rw [Zl7]
     show lk (Zbc ls ("S",u) _) ("S",u)=_
     rw [lk6,if_pos rfl]
    refine ⟨_,rfl,b,dx,_,rfl,hB7.ob,rfl,_,rfl,_,rfl,rfl,b,dx,k,bi,li,ti,su,_,"S",u,w,rfl,hB7,?_,?_,fun H8 D8 hB8 bt8 nD8=>?_⟩
    ·rw [la]
     exact Nat.le_trans (List.length_filter_le ..) (gl _)
    ·show (Zbc ls ("S",u) _).length≤900
     omega
    ·have li7:=hB7.li
     have kp:∀ {c:Addr} {xs:List V},SqT K H7 c xs->SqT K H8 c xs:=fun {c xs} h=>by
      rcases h with (h | ⟨o,h⟩) | h
      ·exact .inl (.inl (bt8.eq _ _ (fun z=>by rw [show c=li by simpa using z,li7] at h; cases h) h))
      ·exact .inl (.inr ⟨o,bt8.eq _ _ (fun z=>by rw [show c=li by simpa using z,li7] at h; cases h) h⟩)
      ·exact .inr h
     rw [la] at hB8
     refine ⟨_,_,_,rfl,hB8,hG _ fun c=>?_,?_,bt7.trans (bt8.mono (by simp)),kp (s7.sqt g1),kp (s7.sqt g2),kp (s7.sqt g3),(gr.put n2).put (bt7.al _ nD8)⟩
     ·rw [ZnP]
      unfold Zba
      by_cases ec:c=(("S",u):Str × Str)
      ·subst ec
       rw [if_pos rfl,if_pos rfl,if_pos hs]
      ·rw [if_neg ec,if_neg ec,lk6,if_neg ec]
     ·have p2:=Zb0 (Zbc ls ("S",u) (D2,(G ("S",u)).filter fun n=>decide (n≠w))) ("S",u) (D8,ZaS ((G ("S",u)).filter (fun n=>decide (n≠w))++[w]))
      show (Zbc (Zbc ls ("S",u) _) ("S",u) _).length≤_
      omega
   ·refine ⟨_,_,_,rfl,hB7,hG _ fun c=>?_,by show (Zbc ls ("S",u) _).length≤_; omega,bt7,s7.sqt g1,s7.sqt g2,s7.sqt g3,gr.put n2⟩
    rw [lk6]
    unfold Zba
    by_cases ec:c=(("S",u):Str × Str)
    ·subst ec
     rw [if_pos rfl,if_pos rfl,if_neg (by rw [hs]; decide)]
    ·rw [if_neg ec,if_neg ec]
theorem ZkJ (T:Tx K w mg) (Zeg:ZiM P base T) (Zdr:ZgM P base T) (Zej:ZiS P base T) (ZdI:Zfb P base T) (Za0:ZdG P base T) (Zcs:Zdm P base T) (ZcS:Zd4 P base T):ZhY P base T:=by
 refine Fun.okX (k:=5) T.ZcO.F ZeL (fun vs H Q E h=>h.1) (fun cdv A outer s H vs Q E hr h=>?_)
 obtain ⟨-,h⟩:=h
 obtain ⟨b,dx,k,bi,li,ti,su,B,x,rfl,hB,h⟩:=h
 refine ⟨_, (Zag (Zbq (ZaG (pv 0) T.cl_Book T.ZbO.me ZdI (hr.mono (by decide)) T.ZbO.b .nil ZbT (Zaa (pv 1) Zaf)))
   (Zag (ZaH (i:=2) ZeL.nd rfl (Or.inl rfl) (ZaB Zdr (hr.mono (by decide)) (by rfl) T.ZbX.m T.ZbX.F.kp T.ZbX.b .nil Zak (Zaa (pv 1) Zaf)))
   (Zag (ZfN (Zc0 hr) (Zcz (pv 0) rfl) (ZaB Zej (hr.mono (by decide)) (by rfl) T.Zcw.m T.Zcw.F.kp T.Zcw.b .nil Zak (Zaa (pv 2) Zaf)) (pv 2) rfl)
   (Zah (ZaQ (Zaq Zbb (Zas Zan (pv 2) Zad (fun _ _=>rfl)) Zat (Zar _)) (Zah (Zbq (ZaG (pv 0) T.cl_Book T.Zbh.me Zcs (hr.mono (by decide)) T.Zbh.b .nil Zak (Zaa (pv 2) Zaf)))) (Zah (ZaQ (Zaq Zbb (Zas Zan (pv 2) Zad (fun _ _=>rfl)) Zat (Zar _)) (Zag (Zbq (ZaG (pv 0) T.cl_Book T.ZaI.me Za0 (hr.mono (by decide)) T.ZaI.b .nil Zak (Zaa Zat (Zaa (Zas Zan (pv 2) Zad (fun _ _=>rfl)) (Zaa (Zas Zan (pv 2) Zad (fun _ _=>rfl)) Zaf)))))
   (Zah (Zbq (ZaG (pv 0) T.cl_Book T.ZaI.me Za0 (hr.mono (by decide)) T.ZaI.b .nil Zak (Zaa Zat (Zaa (Zas Zan (pv 2) Zad (fun _ _=>rfl)) (Zaa (Zas Zan (pv 2) Zad (fun _ _=>rfl)) Zaf))))))) (Zah (ZaQ (Zaq Zbb (Zas Zan (pv 2) Zad (fun _ _=>rfl)) Zat (Zar _)) (Zag (ZaH (i:=3) ZeL.nd rfl (Or.inl rfl) (ZaW (Zaa (Zas Zan (pv 2) Zad (fun _ _=>rfl)) (Zaa (Zas Zan (pv 2) Zad (fun _ _=>rfl)) Zaf))))
   (Zah (ZfN (Zc0 hr) (Zcz (pv 0) rfl) (pv 3) (ZaF Zcd (Zfv (Zc0 hr) (Zcz (pv 0) rfl) (pv 3) Zad ⟨rfl,rfl,rfl,rfl⟩) (Zas Zan (pv 2) Zad (fun _ _=>rfl))) rfl))) (Zah (ZaQ (ZcJ (ZaB Zeg (hr.mono (by decide)) (by rfl) T.Zcu.m T.Zcu.F.kp T.Zcu.b .nil Zak (Zaa (pv 2) Zaf))) (Zah (Zbq (ZaG (pv 0) T.cl_Book T.Zbr.me ZcS (hr.mono (by decide)) T.Zbr.b .nil Zak (Zaa (pv 2) Zaf)))) Zav))))))))))),?_⟩
 refine ⟨_,rfl,b,dx,_,rfl,hB.ob,rfl,_,rfl,rfl,.ref b,x,B,rfl,⟨b,dx,k,bi,li,ti,su,rfl,hB⟩,?_⟩
 rcases h with ⟨bad,hE⟩ | ⟨e,hx,ok,hr2,q⟩
 ·exact .inl ⟨bad,hE⟩
 refine .inr ⟨e,hx,ok,hr2,fun no H1 s1=>?_⟩
 obtain ⟨rm,q⟩:=q no
 obtain ⟨hno,hk400,kn⟩:=Zjz no
 refine ⟨_,rfl,rfl,x,e,rfl,hx.mono s1,fun H2 u s2 hu=>?_⟩
 obtain ⟨a,rfl,hA⟩:=hu
 have s12:=s1.trans s2
 have hB2:=hB.mono s12
 have klen:B.keptD.length=B.kept.length:=List.length_map ..
 refine ⟨_,rfl,_,rfl,b,T.c_Book,dx,_,_,rfl,hB2.ob,T.cl_Book,T.na_Book_kept,ZiO,_,rfl,rfl,.ref a,e.told,rfl,⟨a,rfl,hA⟩,fun H3 p s3 np hp=>⟨k,_,rfl,DPut.t (k:=e.told.told.key) (s3 _ _ hB2.ke) hp (by rw [klen]; exact Zam (by omega)),?_⟩⟩
 rw [Zfm,ZiN _ hno]
 have s13:=s12.trans s3
 have hB3:=hB.mono s13
 have hA3:=s3.sqt hA
 have kn2:∀ n∈e.told.named,Known B n:=fun n hn=>kn n (ZlV e n hn)
 have putE:∀ {B':Bk},Put B e B'->Put B e B':=fun h=>h
 have tk:∀ (e':Ent),e.told=e'->e'.told=e':=fun e' h=>by rw [← h,Zfm]
 have pt:∀ {B':Bk} (e':Ent),e.told=e'->(∀ c,Zif B'.sums c=ZoT (Zif B.sums) e' c)->(∃ a,B'.kept=B.kept++[(e',a)])->(∀ c,lk B'.links c=Zjv (lk B.links) (ZiQ B.ties) e' c)->(∀ c,ZiQ B'.ties c=ZmF (ZiQ B.ties) e' c)->(B'.ties.map (·.1)).Nodup->B'.links.length≤B.links.length+4->B'.ties.length≤B.ties.length+1->B'.sums.length≤B.sums.length+1->Put B e B':=fun {B'} e' h=>by
  subst h
  exact Put.mk
 generalize e.told=e' at *
 have hK:=hB3.kept (e:=e') hA3
 have kb:k≠bi:=Za8 hB3.ke hB3.bi (fun z=>by cases z)
 have hA4:SqT K (upd H3 k (.dT (B.keptD++[(e'.key,.ref a)]))) a (e'.row.map kV):=ZaO hA3 hB3.ke (fun _ z=>by cases z) (fun _ _ z=>by cases z)
 have btk:But [k,bi,li,ti,su] H (upd H3 k (.dT (B.keptD++[(e'.key,.ref a)]))):=(But.of _ s13).trans (But.put hB3.ke (by simp))
 have hbi:(upd H3 k (.dT (B.keptD++[(e'.key,.ref a)]))) bi=some (.dK (Bk.bornD B.kept)):=(Zai kb.symm).trans hB3.bi
 have hob:(upd H3 k (.dT (B.keptD++[(e'.key,.ref a)]))) b=some (.ins T.c_Book dx (bkF k bi li ti su)):=(Zai (Za8 hB3.ob hB3.ke (fun z=>by cases z))).trans hB3.ob
 have hKn:e'.isBorn=false->BkAt K T.c_Book (upd H3 k (.dT (B.keptD++[(e'.key,.ref a)]))) b dx k bi li ti su { B with kept:=B.kept++[(e',a)] }:=fun nb=>by
  rw [Znl nb,Zoq hbi] at hK
  exact hK
 have fresh:∀ {y:Addr},H3 y=none->(H y=none∨∃ w,H y=some (.dK w)):=fun h=>.inl (ZcE s13 h)
 generalize hH4:upd H3 k (.dT (B.keptD++[(e'.key,.ref a)]))=H4 at *
 dsimp only
 have hbiH:∃ w,H bi=some (.dK w):=⟨_,hB.bi⟩
 cases e' with
 | born n s d f m =>
  refine ⟨_,rfl,a,_,_,_,rfl,rfl,hA4,Zae (j:=0) rfl,rfl,_,rfl,ZaR (by decide +kernel) ?_⟩
  refine ⟨_,rfl,b,dx,_,rfl,hob,rfl,_,rfl,rfl,b,dx,k,bi,li,ti,su,B.kept,{ B with kept:=B.kept++[(.born n s d f m,a)] },n,s,d,f,m,a,rfl,rfl,hob,hbi,ZlP hno,by omega,hA4,hK,Nat.le_trans rm.nl (by omega),fun c=>Nat.le_trans (rm.ll c) (by omega),fun H5 ls hB5 hlk hls bt5 gr5=>?_⟩
  exact q H5 _ bi hB5 (pt _ rfl (fun c=>rfl) ⟨a,rfl⟩ hlk (fun c=>rfl) rm.nd hls (Nat.le_succ _) (Nat.le_succ _)) ((btk.mono (by simp)).trans (bt5.mono (by simp))) (.inr hbiH) (gr5.back btk.al)
 | taken c t d =>
  have hB4:=hKn rfl
  have hmem:((.taken c t d,a):Ent × Addr)∈B.kept++[(.taken c t d,a)]:=by simp
  refine ⟨_,rfl,a,_,_,_,rfl,rfl,hA4,Zae (j:=0) rfl,rfl,_,rfl,Zau (by decide +kernel) ⟨_,rfl,a,_,_,_,rfl,rfl,hA4,Zae (j:=0) rfl,rfl,_,rfl,ZaR (by decide +kernel) ?_⟩⟩
  refine ⟨_,rfl,b,dx,_,rfl,hob,rfl,_,rfl,a,_,_,_,rfl,rfl,hA4,Zae (j:=1) rfl,_,rfl,a,_,_,_,rfl,rfl,hA4,Zae (j:=2) rfl,rfl,b,dx,k,bi,li,ti,su,_,"T",c,t,rfl,hB4,Nat.le_trans (rm.ll _) (by omega),Nat.le_trans rm.nl (by omega),fun H5 D5 hB5 bt5 nD5=>?_⟩
  have hA5:=hB5.en _ hmem
  have l5:lk (Zbc B.links ("T",c) (D5,ZaS (lk B.links ("T",c)++[t]))) ("t",t)=lk B.links ("t",t):=by
   rw [Ze2]
   exact Zfj (show ("t" : Str)≠"T" by decide +kernel)
  have n5:=Zb0 B.links ("T",c) (D5,ZaS (lk B.links ("T",c)++[t]))
  have rl:=rm.nl
  refine ⟨_,rfl,b,dx,_,rfl,hB5.ob,rfl,_,rfl,a,_,_,_,rfl,rfl,hA5,Zae (j:=2) rfl,_,rfl,a,_,_,_,rfl,rfl,hA5,Zae (j:=1) rfl,rfl,b,dx,k,bi,li,ti,su,_,"t",t,c,rfl,hB5,?_,?_,fun H6 D6 hB6 bt6 nD6=>?_⟩
  ·rw [Zl7]
   show (lk (Zbc B.links ("T",c) (D5,ZaS (lk B.links ("T",c)++[t]))) ("t",t)).length≤61
   rw [l5]
   exact Nat.le_trans (rm.ll _) (by omega)
  ·show (Zbc B.links ("T",c) (D5,ZaS (lk B.links ("T",c)++[t]))).length≤900
   omega
  ·refine q H6 _ bi hB6 (pt _ rfl (fun c=>rfl) ⟨a,rfl⟩ (fun x=>?_) (fun c=>rfl) rm.nd ?_ (Nat.le_succ _) (Nat.le_succ _)) ((btk.mono (by simp)).trans ((bt5.mono (by simp)).trans (bt6.mono (by simp)))) (.inr hbiH) (((Grows.refl _ _).put (btk.al _ nD5)).put (btk.al _ (bt5.al _ nD6)))
   ·show lk (Zbc (Zbc B.links ("T",c) (D5,ZaS (lk B.links ("T",c)++[t]))) ("t",t) (D6,ZaS (lk (Zbc B.links ("T",c) (D5,ZaS (lk B.links ("T",c)++[t]))) ("t",t)++[c]))) x=_
    rw [Ze2]
    exact ZcW (fun y=>Ze2 ..) ..
   ·have n6:=Zb0 (Zbc B.links ("T",c) (D5,ZaS (lk B.links ("T",c)++[t]))) ("t",t) (D6,ZaS (lk (Zbc B.links ("T",c) (D5,ZaS (lk B.links ("T",c)++[t]))) ("t",t)++[c]))
    show (Zbc (Zbc B.links ("T",c) (D5,ZaS (lk B.links ("T",c)++[t]))) ("t",t) (D6,ZaS (lk (Zbc B.links ("T",c) (D5,ZaS (lk B.links ("T",c)++[t]))) ("t",t)++[c]))).length≤_
    omega
 | given g t am d =>
  have hB4:=hKn rfl
  have rs:=rm.ns
  refine ⟨_,rfl,a,_,_,_,rfl,rfl,hA4,Zae (j:=0) rfl,rfl,_,rfl,Zau (by decide +kernel) ⟨_,rfl,a,_,_,_,rfl,rfl,hA4,Zae (j:=0) rfl,rfl,_,rfl,Zau (by decide +kernel) ⟨_,rfl,a,_,_,_,rfl,rfl,hA4,Zae (j:=0) rfl,rfl,_,rfl,ZaR (by decide +kernel) ?_⟩⟩⟩
  refine ⟨_,rfl,a,_,_,_,rfl,rfl,hA4,Zae (j:=1) rfl,_,rfl,a,_,_,_,rfl,rfl,hA4,Zae (j:=2) rfl,few rfl,fun pg npg=>?_⟩
  have s5:=Zac (o:=.tup [.str g,.str t]) npg
  have hB5:=hB4.mono s5
  have hA5:=s5.sqt hA4
  have dg:=DGet.t (k:=two (g,t)) hB5.su (Zab (o:=.tup [.str g,.str t]))
  have hval:ZcP ({ B with kept:=B.kept++[(.given g t am d,a)] }:Bk).sumsD (two (g,t))=(ZaZ (g,t) B.sums).map V.int:=Zen (f:=two) (fun _ _=>ZdW) V.int _ _
  rw [hval] at dg
  have slen:({ B with kept:=B.kept++[(.given g t am d,a)] }:Bk).sumsD.length=B.sums.length:=List.length_map ..
  have iv:∃ i:Int,((ZaZ (g,t) B.sums).map V.int).getD (.int 0)=.int i:=by
   cases ZaZ (g,t) B.sums with
   | none=>exact ⟨0,rfl⟩
   | some i=>exact ⟨i,rfl⟩
  obtain ⟨i,hi⟩:=iv
  refine ⟨_,rfl,b,T.c_Book,dx,_,_,rfl,hB5.ob,T.cl_Book,T.na_Book_sums,Zk6,su,rfl,.inr ⟨_,.inl hB5.su⟩,_,rfl,_,dg,_,rfl,a,_,_,_,rfl,rfl,hA5,Zae (j:=3) rfl,i,am,hi,rfl,_,rfl,b,T.c_Book,dx,_,_,rfl,hB5.ob,T.cl_Book,T.na_Book_sums,Zk6,_,rfl,su,_,rfl,DPut.t (k:=two (g,t)) hB5.su (Zab (o:=.tup [.str g,.str t])) (by rw [slen]; exact Zam (by omega)),?_⟩
  rw [show Zi8 ({ B with kept:=B.kept++[(.given g t am d,a)] }:Bk).sumsD (two (g,t)) (V.int (i+am))=(Zbc B.sums (g,t) (i+am)).map fun q=>(two q.1,V.int q.2) from Zgr (f:=two) (fun _ _=>ZdW) V.int B.sums (g,t) (i+am)]
  have ei:i=Zif B.sums (g,t):=by
   unfold Zif
   cases hf:ZaZ (g,t) B.sums with
   | none=>rw [hf] at hi; exact (V.int.inj hi).symm
   | some j=>rw [hf] at hi; exact (V.int.inj hi).symm
  exact q _ _ bi (hB5.sums _) (pt _ rfl (fun c=>by rw [ei]; exact ZoE B.sums g t am d c) ⟨a,rfl⟩ (fun c=>rfl) (fun c=>rfl) rm.nd (Nat.le_add_right ..) (Nat.le_succ _) (Zb0 ..)) ((btk.mono (by simp)).trans ((But.of _ s5).trans (But.put hB5.su (by simp)))) (.inr hbiH) (Grows.refl _ _)
 | dead n d =>
  have hB4:=hKn rfl
  refine ⟨_,rfl,a,_,_,_,rfl,rfl,hA4,Zae (j:=0) rfl,rfl,_,rfl,Zau (by decide +kernel) ⟨_,rfl,a,_,_,_,rfl,rfl,hA4,Zae (j:=0) rfl,rfl,_,rfl,Zau (by decide +kernel) ⟨_,rfl,a,_,_,_,rfl,rfl,hA4,Zae (j:=0) rfl,rfl,_,rfl,Zau (by decide +kernel) ?_⟩⟩⟩
  refine ⟨_,rfl,rfl,.ref a,.dead n d,rfl,⟨a,rfl,hA4⟩,fun H5 s5=>⟨_,rfl,Zb2 ?_⟩⟩
  exact q _ _ bi (hB4.mono s5) (pt _ rfl (fun c=>rfl) ⟨a,rfl⟩ (fun c=>rfl) (fun c=>rfl) rm.nd (Nat.le_add_right ..) (Nat.le_succ _) (Nat.le_succ _)) ((btk.mono (by simp)).trans (But.of _ s5)) (.inr hbiH) (Grows.refl _ _)
 | union x y d =>
  have hB4:=hKn rfl
  refine ⟨_,rfl,a,_,_,_,rfl,rfl,hA4,Zae (j:=0) rfl,rfl,_,rfl,Zau (by decide +kernel) ⟨_,rfl,a,_,_,_,rfl,rfl,hA4,Zae (j:=0) rfl,rfl,_,rfl,Zau (by decide +kernel) ⟨_,rfl,a,_,_,_,rfl,rfl,hA4,Zae (j:=0) rfl,rfl,_,rfl,Zau (by decide +kernel) ?_⟩⟩⟩
  refine ⟨_,rfl,rfl,.ref a,.union x y d,rfl,⟨a,rfl,hA4⟩,fun H5 s5=>⟨_,rfl,ZcF ?_⟩⟩
  have hB5:=hB4.mono s5
  have rl:=rm.nl
  have rt:=rm.nt
  refine ⟨_,rfl,b,dx,_,rfl,hB5.ob,rfl,_,rfl,rfl,b,dx,k,bi,li,ti,su,_,a,"union",x,y,d,rfl,s5.sqt hA4,hB5,(kn2 x (by simp [Ent.named])).more rfl,(kn2 y (by simp [Ent.named])).more rfl,rm.nd,Nat.le_trans rm.nt (by omega),Nat.le_trans (rm.tt _) (by omega),Nat.le_trans rm.nl (by omega),rm.ll,fun H6 ls ts z hB6 nd6 tl6 htf hlk hls bt6 hz gr6=>?_⟩
  refine q H6 _ z hB6 (pt _ rfl (fun c=>rfl) ⟨a,rfl⟩ hlk htf nd6 hls tl6 (Nat.le_succ _)) ((btk.mono (by simp)).trans ((But.of _ s5).trans (bt6.mono (by simp)))) ?_ (gr6.back fun a n=>btk.al a (ZcE s5 n))
  cases hH:H z with
  | none=>exact .inl rfl
  | some o =>
   refine .inr ?_
   have h3:=s13 _ _ hH
   have nk:z≠k:=fun e=>by
    subst e
    have h5:=hB5.ke
    rcases hz with hz | ⟨w,hz⟩ <;> rw [h5] at hz <;> cases hz
   have h4:H4 z=some o:=by rw [← hH4,Zai nk]; exact h3
   have h5:=s5 _ _ h4
   rcases hz with hz | ⟨w,hz⟩
   ·rw [h5] at hz; cases hz
   ·rw [h5] at hz
    cases hz
    exact ⟨w,rfl⟩
 | parted x y d =>
  have hB4:=hKn rfl
  refine ⟨_,rfl,a,_,_,_,rfl,rfl,hA4,Zae (j:=0) rfl,rfl,_,rfl,Zau (by decide +kernel) ⟨_,rfl,a,_,_,_,rfl,rfl,hA4,Zae (j:=0) rfl,rfl,_,rfl,Zau (by decide +kernel) ⟨_,rfl,a,_,_,_,rfl,rfl,hA4,Zae (j:=0) rfl,rfl,_,rfl,Zau (by decide +kernel) ?_⟩⟩⟩
  refine ⟨_,rfl,rfl,.ref a,.parted x y d,rfl,⟨a,rfl,hA4⟩,fun H5 s5=>⟨_,rfl,ZcF ?_⟩⟩
  have hB5:=hB4.mono s5
  have rl:=rm.nl
  have rt:=rm.nt
  refine ⟨_,rfl,b,dx,_,rfl,hB5.ob,rfl,_,rfl,rfl,b,dx,k,bi,li,ti,su,_,a,"parted",x,y,d,rfl,s5.sqt hA4,hB5,(kn2 x (by simp [Ent.named])).more rfl,(kn2 y (by simp [Ent.named])).more rfl,rm.nd,Nat.le_trans rm.nt (by omega),Nat.le_trans (rm.tt _) (by omega),Nat.le_trans rm.nl (by omega),rm.ll,fun H6 ls ts z hB6 nd6 tl6 htf hlk hls bt6 hz gr6=>?_⟩
  refine q H6 _ z hB6 (pt _ rfl (fun c=>rfl) ⟨a,rfl⟩ hlk htf nd6 hls tl6 (Nat.le_succ _)) ((btk.mono (by simp)).trans ((But.of _ s5).trans (bt6.mono (by simp)))) ?_ (gr6.back fun a n=>btk.al a (ZcE s5 n))
  cases hH:H z with
  | none=>exact .inl rfl
  | some o =>
   refine .inr ?_
   have h3:=s13 _ _ hH
   have nk:z≠k:=fun e=>by
    subst e
    have h5:=hB5.ke
    rcases hz with hz | ⟨w,hz⟩ <;> rw [h5] at hz <;> cases hz
   have h4:H4 z=some o:=by rw [← hH4,Zai nk]; exact h3
   have h5:=s5 _ _ h4
   rcases hz with hz | ⟨w,hz⟩
   ·rw [h5] at hz; cases hz
   ·rw [h5] at hz
    cases hz
    exact ⟨w,rfl⟩
theorem ZgT (T:Tx K w mg)  : Zeq P base T:=by
 refine Fun.okX (k:=0) T.ZaU.F Zhn (fun vs H Q E h=>h.1) (fun cdv A outer s H vs Q E hr h=>?_)
 obtain ⟨-,h⟩:=h
 obtain ⟨v,B,rfl,⟨b,dx,k,bi,li,ti,su,rfl,hB⟩,hl,q⟩:=h
 refine ⟨_,(Zah (Zay (ZaC (Zkl Zfi K rfl) (by rfl) T.n_sorted ZbU (Zaa (Zp5 K PySem.F.plainAttrs_dict PySem.F.slot_dict_values PySem.F.type_dict_values ZmI (Zcz (pv 0) rfl)) Zaf)))),?_⟩
 have hk:H k=some (.dT B.keptD):=hB.ke
 refine ⟨_,rfl,b,T.c_Book,dx,_,_,rfl,hB.ob,T.cl_Book,T.na_Book_kept,ZiO,.inr (.inr (.inl ⟨rfl,.inr ⟨_,hk⟩⟩)),k,_,rfl,rfl,hk,fun r nr=>?_⟩
 have sr:=Zac (o:=.ext (Zjw r k)) nr
 have hB1:=hB.mono sr
 refine ⟨r,k,_,B.kept.map fun p=>(p.2,p.1.row),rfl,Zab,hB1.ke,?_,by rw [List.length_map]; omega,fun p hp=>?_,fun D out nD pm so=>?_⟩
 ·unfold Bk.keptD; rw [List.map_map,List.map_map]; rfl
 ·obtain ⟨z,hz,rfl⟩:=List.mem_map.mp hp
  exact ⟨hB1.en z hz,⟨_,rfl⟩,ZdO _⟩
 ·obtain ⟨o2,p2,rfl⟩:=ZbI pm B.kept rfl
  refine q _ D o2 (sr.trans (Zac nD)) (ZcE sr nD) p2 ?_ ?_
  ·rw [List.map_map] at so; exact so
  ·rw [Zab,List.map_map]; rfl
theorem Zj9 (T:Tx K w mg) (Zax:Zbk P base T):Zhk P base T:=by
 refine Fun.okX (k:=1) T.Zcl.F Zkd (fun vs H Q E h=>h.1) (fun cdv A outer s H vs Q E hr h=>?_)
 obtain ⟨-,h⟩:=h
 obtain ⟨v,a,c,B,rfl,hv,ka,kc,q⟩:=h
 refine ⟨_, (Zag (Zbq (ZaG (pv 0) T.cl_Book T.Zaw.me Zax (hr.mono (by decide)) T.Zaw.b .nil ZbT (Zaa (pv 1) Zaf)))
   (Zag (Zbq (ZaG (pv 0) T.cl_Book T.Zaw.me Zax (hr.mono (by decide)) T.Zaw.b .nil ZbT (Zaa (pv 2) Zaf)))
   (Zah (Zay (Zfv (Zc0 hr) (Zcz (pv 0) rfl) (ZaW (Zaa (pv 1) (Zaa (pv 2) Zaf))) Zad ⟨rfl,rfl,rfl,rfl⟩))))),?_⟩
 obtain ⟨b,dx,k,bi,li,ti,su,rfl,hB⟩:=id hv
 refine ⟨_,rfl,b,dx,_,rfl,hB.ob,rfl,_,rfl,rfl,.ref b,.str a,B,rfl,hv,.inr ⟨a,rfl,fun no=>absurd no ka,fun p1 hp1=>?_⟩⟩
 refine ⟨_,rfl,b,dx,_,rfl,hB.ob,rfl,_,rfl,rfl,.ref b,.str c,B,rfl,hv,.inr ⟨c,rfl,fun no=>absurd no kc,fun p2 hp2=>?_⟩⟩
 refine ⟨_,rfl,b,T.c_Book,dx,_,_,rfl,hB.ob,T.cl_Book,T.na_Book_sums,Zk6,su,rfl,.inr ⟨_,.inl hB.su⟩,_,rfl,_,rfl,few rfl,fun t nt=>?_⟩
 have s1:=Zac (o:=.tup [.str a,.str c]) nt
 have dg:=DGet.t (k:=two (a,c)) (s1 _ _ hB.su) Zab
 rw [show B.sumsD=B.sums.map fun q=>(two q.1,V.int q.2) from rfl,Zen (f:=two) (fun _ _=>ZdW) V.int] at dg
 refine ⟨_,dg,?_⟩
 have q1:=q _ s1
 unfold Zif at q1
 cases hf:ZaZ (a,c) B.sums with
 | none=>rw [hf] at q1; exact q1
 | some i=>rw [hf] at q1; exact q1
theorem Zgz (T:Tx K w mg)  : Zeu P base T:=by
 refine Fun.okX (k:=0) T.ZaV.F ZgI (fun vs H Q E h=>h.1) (fun cdv A outer s H vs Q E hr h=>?_)
 obtain ⟨-,h⟩:=h
 obtain ⟨l,ns,k,rfl,hS,hk,q⟩:=h
 refine ⟨_, (Zag (ZaQ (Zaq Zj8 (pv 1) (ZaC ZaT (by rfl) T.n_len ZcC (Zaa (pv 0) Zaf)) (Zar _)) (Zah (Zay (Zas Za7 (pv 0) (pv 1) (fun _ _ => rfl)))) Zav)
   (Zah (Zay Zad))),?_⟩
 refine ⟨_,rfl,_,rfl,l,_,rfl,.inl hS,_,_,rfl,rfl,_,rfl,?_⟩
 by_cases kl:k<((ns.map V.int).length:Int)
 ·rw [decide_eq_true kl]
  obtain ⟨j,rfl⟩:∃ j:Nat,k=(j:Int):=⟨k.toNat,by omega⟩
  refine ZcF ⟨_,rfl,_,rfl,l,_,_,_,rfl,rfl,hS,Zct (Zov (by rw [List.length_map] at kl; omega)),q _⟩
 ·rw [decide_eq_false kl]
  exact Zb2 (q _)
theorem ZiU (T:Tx K w mg)  : ZfW P base T:=by
 refine Fun.okX (k:=0) T.ZbM.F ZaL (fun vs H Q E h=>h.1) (fun cdv A outer s H vs Q E hr h=>?_)
 obtain ⟨-,h⟩:=h
 obtain ⟨c,m,rfl,m0,m1,q⟩:=h
 refine ⟨_, (Zag (ZaH (i := 2) ZaL.nd rfl (Or.inl rfl) (ZaF Zcd Zad (ZaF ZbH (pv 0) Zad)))
   (Zag (ZaH (i:=3) ZaL.nd rfl (Or.inl rfl) (ZaF ZbH (ZaF Zbx (pv 0) Zad) (pv 2)))
   (Zag (ZaH (i:=4) ZaL.nd rfl (Or.inl rfl) (ZaF ZbH (ZaF Zcd (ZaF Zcd (pv 3) Zad) (ZaF ZbH (ZaF Zbx (pv 0) Zad) (ZaF Zke (pv 2) Zad))) (pv 2)))
   (Zag (ZaH (i:=5) ZaL.nd rfl (Or.inl rfl) (ZaF Zcd Zad (ZaC (Znv rfl) (by rfl) T.n_max Zlk (Zaa (pv 3) (Zaa (pv 4) Zaf)))))
   (Zag (ZaH (i:=6) ZaL.nd rfl (Or.inl rfl) (Zbv Zaf))
   (Zag (Zd2 PassesOwn.leaving rfl (ZgF (by rfl) T.n_range (Zaa (pv 1) Zaf)) (Za2 (i:=7) ZaL.nd rfl (Or.inl rfl))
    (Zag (ZaH (i:=8) ZaL.nd rfl (Or.inl rfl) Zat)
   (Zag (Zd2 PassesOwn.leaving rfl (ZgF (by rfl) T.n_range (Zaa (ZaF Zcd (pv 5) (ZaF ZbH (pv 7) (ZaF Zcd (ZaF Zke (pv 2) (pv 5)) Zad))) Zaf)) (Za2 (i:=9) ZaL.nd rfl (Or.inl rfl))
    (Zag (ZaH (i:=10) ZaL.nd rfl (Or.inl rfl) (ZaF Zcd (ZaF Zbx (pv 0) Zad) (ZaF Zf0 (ZaF Zp8 (pv 9) (pv 9)) Zad)))
   (Zag (ZaQ (Zaq Zbb (pv 9) (pv 3) (Zar _)) (Zah (ZaH (i:=10) ZaL.nd rfl (Or.inl rfl) (ZaF Zcd (ZaF Zbx (pv 0) Zad) (pv 7)))) Zav)
   (Zag (ZaQ (Zaq Zbb (pv 9) (pv 4) (Zar _)) (Zah (ZaH (i:=10) ZaL.nd rfl (Or.inl rfl) (ZaF Zcd (ZaF Zbx (pv 0) Zad) (ZaF Zbx (pv 7) Zad)))) Zav)
   (Zah (ZaH (i:=8) ZaL.nd rfl (Or.inl rfl) (ZaF Zl3 (pv 8) (Zas Zqq Zat (ZaF ZbH (pv 10) Zad) (fun _ _=>rfl)))))))))
   (Zah (Zbq (ZpD PySem.F.plainAttrs_list PySem.F.slot_list_append PySem.F.type_list_append Zfs (pv 6) (Zaa (pv 8) Zaf)))))))
   (Zah (Zay (pv 6))))))))),?_⟩
 have z7:(7:Int)≠0∧(7:Int).natAbs<2 ^ 1000:=⟨by decide,by decide +kernel⟩
 have zd:∀ n:Int,1≤n->n≤100->n≠0∧n.natAbs<2 ^ 1000:=fun n h1 h2=>⟨by omega,Nat.lt_of_le_of_lt (show n.natAbs≤100 by omega) (by decide +kernel)⟩
 have s0:=Int.fmod_nonneg_of_pos c (show (0:Int)<7 by decide)
 have s1:=Int.fmod_lt_of_pos c (show (0:Int)<7 by decide)
 refine ⟨_,rfl,_,_,rfl,rfl,z7.1,_,_,rfl,rfl,?_⟩
 try dsimp only
 generalize hsz:2+c.fmod 7=size at *
 have a0:=Int.fmod_nonneg_of_pos (c.fdiv 7) (show 0<size by omega)
 have a1:=Int.fmod_lt_of_pos (c.fdiv 7) (show 0<size by omega)
 refine ⟨_,rfl,_,_,rfl,rfl,z7,_,rfl,_,_,rfl,rfl,(show size≠0 by omega),?_⟩
 try dsimp only
 generalize hat:(c.fdiv 7).fmod size=at' at *
 have e0:=Int.fmod_nonneg_of_pos (c.fdiv 61) (show 0<size-1 by omega)
 have e1:=Int.fmod_lt_of_pos (c.fdiv 61) (show 0<size-1 by omega)
 have b0:=Int.fmod_nonneg_of_pos (at'+1+(c.fdiv 61).fmod (size-1)) (show 0<size by omega)
 have b1:=Int.fmod_lt_of_pos (at'+1+(c.fdiv 61).fmod (size-1)) (show 0<size by omega)
 refine ⟨_,rfl,_,_,rfl,rfl,_,rfl,_,_,rfl,rfl,zd 61 (by decide) (by decide),_,rfl,_,_,rfl,rfl,_,_,rfl,rfl,(show size-1≠0 by omega),_,_,rfl,rfl,_,rfl,_,_,rfl,rfl,(show size≠0 by omega),?_⟩
 try dsimp only
 have ne:at'≠(at'+1+(c.fdiv 61).fmod (size-1)).fmod size:=by
  intro h
  have d:=Int.mul_fdiv_add_fmod (at'+1+(c.fdiv 61).fmod (size-1)) size
  rw [← h] at d
  have d2:size*(at'+1+(c.fdiv 61).fmod (size-1)).fdiv size=1+(c.fdiv 61).fmod (size-1):=by omega
  generalize (at'+1+(c.fdiv 61).fmod (size-1)).fdiv size=w at *
  have:w≤0∨1≤w:=by omega
  rcases this with hw | hw
  ·have:=Int.mul_le_mul_of_nonneg_left hw (show 0≤size by omega)
   omega
  ·have:=Int.mul_le_mul_of_nonneg_left hw (show 0≤size by omega)
   omega
 generalize (at'+1+(c.fdiv 61).fmod (size-1)).fmod size=be at *
 refine ⟨_,rfl,_,rfl,_,_,rfl,_,_,rfl,rfl,?_⟩
 try dsimp only
 have sh:1+(if be > at' then be else at')≤size∧at'<1+(if be > at' then be else at')∧be<1+(if be > at' then be else at'):=by split <;> omega
 generalize 1+(if be > at' then be else at')=short at *
 refine ⟨few rfl,fun D nD=>?_⟩
 let ln:Nat->Nat:=fun k=>(short+((k:Nat):Int).fmod (size-short+1)).toNat
 have lnb:∀ k,short≤((ln k:Nat):Int)∧((ln k:Nat):Int)≤size:=fun k=>by
  have f0:=Int.fmod_nonneg_of_pos ((k:Nat):Int) (show 0<size-short+1 by omega)
  have f1:=Int.fmod_lt_of_pos ((k:Nat):Int) (show 0<size-short+1 by omega)
  show short≤(((short+((k:Nat):Int).fmod (size-short+1)).toNat:Nat):Int)∧(((short+((k:Nat):Int).fmod (size-short+1)).toNat:Nat):Int)≤size
  omega
 let nm:Nat->Str:=fun k=>⟨(nmL at' be c k (ln k)).toArray⟩
 refine ⟨_,rfl,m,rfl,by omega,by omega,Zjd (fun i σ H2=>∃ v7 v8 v9 v10,σ=[some (.int c),some (.int m),some (.int size),some (.int at'),some (.int be),some (.int short),some (.ref D),v7,v8,v9,v10]∧Same H H2∧H2 D=some (.lst (((List.range i).map nm).map V.str))) ?start ?turn ?done⟩
 case start=>exact ⟨none,none,none,none,rfl,Zac nD,Zab⟩
 case done =>
  rintro σ H2 ⟨v7,v8,v9,v10,rfl,s2,hD⟩
  refine ⟨_,rfl,q _ D _ s2 hD (by rw [List.length_map,List.length_range]) (fun x hx=>?_) ?_⟩
  ·obtain ⟨k,_,rfl⟩:=List.mem_map.mp hx
   have:=lnb k
   exact Zr2 (by omega) (by omega)
  ·refine Zkj (fun k hk k' hk' e=>?_) List.nodup_range
   have l1:=lnb k
   have l2:=lnb k'
   have k1:=List.mem_range.mp hk
   have k2:=List.mem_range.mp hk'
   exact Zrg (by omega) (by omega) ⟨by omega,by omega,by omega⟩ ⟨by omega,by omega,by omega⟩ ne e
 case turn =>
  rintro i σ H2 hi ⟨v7,v8,v9,v10,rfl,s2,hD⟩
  rw [show (0:Int)+(i:Int)=i from Int.zero_add _]
  have f0:=Int.fmod_nonneg_of_pos (i:Int) (show 0<size-short+1 by omega)
  have f1:=Int.fmod_lt_of_pos (i:Int) (show 0<size-short+1 by omega)
  have lb:=lnb i
  refine ⟨_,rfl,_,rfl,_,rfl,_,rfl,_,_,rfl,rfl,_,_,rfl,rfl,_,_,rfl,rfl,(show size-short+1≠0 by omega),_,_,rfl,rfl,_,rfl,by show -(2 ^ 62)≤short+(i:Int).fmod (size-short+1); omega,by show short+(i:Int).fmod (size-short+1)<2 ^ 62; omega,Zjd (fun j σ H3=>∃ v9 v10,σ=[some (.int c),some (.int m),some (.int size),some (.int at'),some (.int be),some (.int short),some (.ref D),some (.int i),some (.str ⟨(nmL at' be c i j).toArray⟩),v9,v10]∧H2=H3) ?start2 ?turn2 ?done2⟩
  case start2=>exact ⟨_,_,rfl,rfl⟩
  case done2 =>
   rintro σ H3 ⟨v9,v10,rfl,rfl⟩
   refine ⟨_,rfl,.inl ⟨rfl,_,.of hD⟩,_,rfl,D,_,_,rfl,rfl,hD,Zam (by rw [List.length_map,List.length_map,List.length_range]; omega),?_⟩
   refine ⟨_,_,_,_,rfl,ZmZ s2 nD,?_⟩
   rw [Zab,List.range_succ,List.map_append,List.map_append]
   rfl
  case turn2 =>
   rintro j σ H3 hj ⟨v9,v10,rfl,rfl⟩
   rw [show (0:Int)+(j:Int)=j from Int.zero_add _]
   have jl:j<8:=by
    have:j<(short+(i:Int).fmod (size-short+1)).toNat:=hj
    omega
   have cb:Zr8 (j:Int) (j:Int):=⟨Nat.lt_of_le_of_lt (show ((j:Int)).natAbs≤10 by omega) (by decide +kernel),Nat.lt_of_le_of_lt (show ((j:Int)).natAbs≤10 by omega) (by decide +kernel)⟩
   refine ⟨_,rfl,_,_,rfl,rfl,zd 3 (by decide) (by decide),_,rfl,_,rfl,_,_,rfl,rfl,cb,_,_,rfl,rfl,.inr ⟨by decide,by decide⟩,_,_,rfl,rfl,?_⟩
   dsimp only [ZiJ]
   refine Zch (fun σ' H'=>σ'=[some (.int c),some (.int m),some (.int size),some (.int at'),some (.int be),some (.int short),some (.ref D),some (.int i),some (.str ⟨(nmL at' be c i j).toArray⟩),some (.int j),some (.int (if (j:Int)=at' then c.fdiv 11+i else c.fdiv 3+j*j*5))]∧H2=H') (fun nx hnx=>?_) ?_
   ·refine ⟨_,rfl,_,rfl,rfl,_,rfl,?_⟩
    by_cases e:(j:Int)=at'
    ·refine ZaR (decide_eq_true (by rw [e])) ⟨_,rfl,_,_,rfl,rfl,zd 11 (by decide) (by decide),_,rfl,_,_,rfl,rfl,?_⟩
     exact hnx _ _ ⟨by rw [if_pos e]; rfl,rfl⟩
    ·exact Zau (decide_eq_false (fun z=>e (V.int.inj z))) (hnx _ _ ⟨by rw [if_neg e]; rfl,rfl⟩)
   rintro σ' H4 ⟨rfl,rfl⟩
   refine Zch (fun σ' H'=>σ'=[some (.int c),some (.int m),some (.int size),some (.int at'),some (.int be),some (.int short),some (.ref D),some (.int i),some (.str ⟨(nmL at' be c i j).toArray⟩),some (.int j),some (.int (Zn8 at' be c i j))]∧H2=H') (fun nx hnx=>?_) ?_
   ·refine ⟨_,rfl,_,rfl,rfl,_,rfl,?_⟩
    by_cases e:(j:Int)=be
    ·refine ZaR (decide_eq_true (by rw [e])) ⟨_,rfl,_,_,rfl,rfl,zd 17 (by decide) (by decide),_,rfl,_,_,rfl,rfl,zd 26 (by decide) (by decide),_,_,rfl,rfl,?_⟩
     exact hnx _ _ ⟨by unfold Zn8; rw [if_pos e]; rfl,rfl⟩
    ·exact Zau (decide_eq_false (fun z=>e (V.int.inj z))) (hnx _ _ ⟨by unfold Zn8; rw [if_neg e],rfl⟩)
   rintro σ' H5 ⟨rfl,rfl⟩
   refine ⟨_,rfl,_,rfl,_,_,rfl,rfl,(by decide:(26:Int)≠0),_,_,_,rfl,rfl,few rfl,Zmm _,_,_,rfl,rfl,?_,?_⟩
   ·rw [Zqd,ZnI]
    exact Nat.le_of_lt (Zam (by show j+1≤1000; omega))
   ·rw [Zoc]
    exact ⟨_,_,by rw [ZoW]; rfl,rfl⟩
theorem Zjb (T:Tx K w mg)  : ZeH P base T:=by
 refine Fun.okX (k:=0) T.ZaA.F Zec (fun vs H Q E h=>h.1) (fun cdv A outer s H vs Q E hr h=>?_)
 obtain ⟨-,h⟩:=h
 obtain ⟨c,k,m,rfl,k0,k4,m0,q⟩:=h
 refine ⟨_, (Zag (ZaH (i := 3) Zec.nd rfl (Or.inl rfl) (Zas Za7 (Zbv (Zaa Zad (Zaa Zad (Zaa Zad (Zaa Zad (Zaa Zad (Zaa Zad (Zaa Zad Zaf)))))))) (pv 1) (fun _ _ => rfl)))
   (Zag (ZaH (i:=4) Zec.nd rfl (Or.inl rfl) (Zas Za7 (Zbv (Zaa Zad (Zaa Zad (Zaa Zad (Zaa Zad (Zaa Zad (Zaa Zad (Zaa Zad Zaf)))))))) (pv 1) (fun _ _=>rfl)))
   (Zah (Zay (ZaF ZbH (ZaF ZbH (ZaF Zf0 (pv 0) (pv 3)) (pv 4)) (pv 2)))))),?_⟩
 obtain rfl | rfl | rfl | rfl | rfl | rfl | rfl:k=0∨k=1∨k=2∨k=3∨k=4∨k=5∨k=6:=by omega
 ·refine ⟨few rfl,fun L1 n1=>⟨_,rfl,L1,_,_,_,rfl,rfl,.of Zab,Zae (j:=0) rfl,few rfl,fun L2 n2=>⟨_,rfl,L2,_,_,_,rfl,rfl,.of Zab,Zae (j:=0) rfl,_,rfl,_,rfl,_,_,rfl,rfl,.inr ⟨by decide,by decide⟩,_,rfl,_,_,rfl,rfl,(by decide:(2147483647:Int)≠0),_,rfl,_,_,rfl,rfl,(show m≠0 by omega),q _ _ ((Zac n1).trans (Zac n2)) (Int.fmod_nonneg_of_pos _ m0) (Int.fmod_lt_of_pos _ m0) (fun _=>rfl)⟩⟩⟩
 ·refine ⟨few rfl,fun L1 n1=>⟨_,rfl,L1,_,_,_,rfl,rfl,.of Zab,Zae (j:=1) rfl,few rfl,fun L2 n2=>⟨_,rfl,L2,_,_,_,rfl,rfl,.of Zab,Zae (j:=1) rfl,_,rfl,_,rfl,_,_,rfl,rfl,.inr ⟨by decide,by decide⟩,_,rfl,_,_,rfl,rfl,(by decide:(1000000007:Int)≠0),_,rfl,_,_,rfl,rfl,(show m≠0 by omega),q _ _ ((Zac n1).trans (Zac n2)) (Int.fmod_nonneg_of_pos _ m0) (Int.fmod_lt_of_pos _ m0) (fun z=>by omega)⟩⟩⟩
 ·refine ⟨few rfl,fun L1 n1=>⟨_,rfl,L1,_,_,_,rfl,rfl,.of Zab,Zae (j:=2) rfl,few rfl,fun L2 n2=>⟨_,rfl,L2,_,_,_,rfl,rfl,.of Zab,Zae (j:=2) rfl,_,rfl,_,rfl,_,_,rfl,rfl,.inr ⟨by decide,by decide⟩,_,rfl,_,_,rfl,rfl,(by decide:(998244353:Int)≠0),_,rfl,_,_,rfl,rfl,(show m≠0 by omega),q _ _ ((Zac n1).trans (Zac n2)) (Int.fmod_nonneg_of_pos _ m0) (Int.fmod_lt_of_pos _ m0) (fun z=>by omega)⟩⟩⟩
 ·refine ⟨few rfl,fun L1 n1=>⟨_,rfl,L1,_,_,_,rfl,rfl,.of Zab,Zae (j:=3) rfl,few rfl,fun L2 n2=>⟨_,rfl,L2,_,_,_,rfl,rfl,.of Zab,Zae (j:=3) rfl,_,rfl,_,rfl,_,_,rfl,rfl,.inr ⟨by decide,by decide⟩,_,rfl,_,_,rfl,rfl,(by decide:(2147483399:Int)≠0),_,rfl,_,_,rfl,rfl,(show m≠0 by omega),q _ _ ((Zac n1).trans (Zac n2)) (Int.fmod_nonneg_of_pos _ m0) (Int.fmod_lt_of_pos _ m0) (fun z=>by omega)⟩⟩⟩
 ·refine ⟨few rfl,fun L1 n1=>⟨_,rfl,L1,_,_,_,rfl,rfl,.of Zab,Zae (j:=4) rfl,few rfl,fun L2 n2=>⟨_,rfl,L2,_,_,_,rfl,rfl,.of Zab,Zae (j:=4) rfl,_,rfl,_,rfl,_,_,rfl,rfl,.inr ⟨by decide,by decide⟩,_,rfl,_,_,rfl,rfl,(by decide:(1000000009:Int)≠0),_,rfl,_,_,rfl,rfl,(show m≠0 by omega),q _ _ ((Zac n1).trans (Zac n2)) (Int.fmod_nonneg_of_pos _ m0) (Int.fmod_lt_of_pos _ m0) (fun z=>by omega)⟩⟩⟩
 ·refine ⟨few rfl,fun L1 n1=>⟨_,rfl,L1,_,_,_,rfl,rfl,.of Zab,Zae (j:=5) rfl,few rfl,fun L2 n2=>⟨_,rfl,L2,_,_,_,rfl,rfl,.of Zab,Zae (j:=5) rfl,_,rfl,_,rfl,_,_,rfl,rfl,.inr ⟨by decide,by decide⟩,_,rfl,_,_,rfl,rfl,(by decide:(2147483629:Int)≠0),_,rfl,_,_,rfl,rfl,(show m≠0 by omega),q _ _ ((Zac n1).trans (Zac n2)) (Int.fmod_nonneg_of_pos _ m0) (Int.fmod_lt_of_pos _ m0) (fun z=>by omega)⟩⟩⟩
 ·refine ⟨few rfl,fun L1 n1=>⟨_,rfl,L1,_,_,_,rfl,rfl,.of Zab,Zae (j:=6) rfl,few rfl,fun L2 n2=>⟨_,rfl,L2,_,_,_,rfl,rfl,.of Zab,Zae (j:=6) rfl,_,rfl,_,rfl,_,_,rfl,rfl,.inr ⟨by decide,by decide⟩,_,rfl,_,_,rfl,rfl,(by decide:(2147483587:Int)≠0),_,rfl,_,_,rfl,rfl,(show m≠0 by omega),q _ _ ((Zac n1).trans (Zac n2)) (Int.fmod_nonneg_of_pos _ m0) (Int.fmod_lt_of_pos _ m0) (fun z=>by omega)⟩⟩⟩
theorem ZkN (T:Tx K w mg)  : ZhZ P base T:=by
 refine Fun.okX (k:=0) T.Zcm.F ZgX (fun vs H Q E h=>h.1) (fun cdv A outer s H vs Q E hr h=>?_)
 obtain ⟨-,h⟩:=h
 obtain ⟨c,p,rfl,p0,p1,q⟩:=h
 refine ⟨_, (Zag (ZaH (i := 2) ZgX.nd rfl (Or.inl rfl) (ZaF ZbH (ZaF Zbx (pv 0) Zad) Zad))
   (Zag (ZaQ (Zaq Zbb (pv 2) Zad (Zar _)) (Zah (Zay (ZaF Zke (ZaF ZbH (ZaF Zbx (pv 0) Zad) (ZaF Zcd (ZaF Zf0 Zad (ZaF Ze6 Zad Zad)) Zad)) (ZaF Ze6 Zad Zad)))) Zav)
   (Zag (ZaQ (Zaq Zbb (pv 2) Zad (Zar _)) (Zah (Zay (ZaF Zcd (ZaF Zf0 Zad (ZaF Ze6 Zad Zad)) (ZaF ZbH (ZaF Zbx (pv 0) Zad) Zad)))) Zav)
   (Zag (ZaQ (Zaq Zbb (pv 2) Zad (Zar _)) (Zah (Zay (ZaF Zf0 (ZaF Zbx (pv 1) Zad) (ZaF Ze6 Zad Zad)))) Zav)
   (Zah (Zay (ZaF Zcd (ZaF Zf0 (pv 1) (ZaF Ze6 Zad Zad)) (ZaF ZbH (ZaF Zbx (pv 0) Zad) (ZaF Ze6 Zad Zad))))))))),?_⟩
 have zd:∀ n:Int,1≤n->n≤1000->n≠0∧n.natAbs<2 ^ 1000:=fun n h1 h2=>⟨by omega,Nat.lt_of_le_of_lt (show n.natAbs≤1000 by omega) (by decide +kernel)⟩
 have cp18:ZpN 10 18:=⟨by decide,by decide,by decide +kernel⟩
 have cp17:ZpN 10 17:=⟨by decide,by decide,by decide +kernel⟩
 have cp16:ZpN 10 16:=⟨by decide,by decide,by decide +kernel⟩
 refine ⟨_,rfl,_,_,rfl,rfl,zd 3 (by decide) (by decide),_,_,rfl,rfl,(by decide:(4:Int)≠0),?_⟩
 have w0:=Zhb (c.fdiv 3) (show (0:Int)<4 by decide)
 try dsimp only
 generalize (c.fdiv 3).fmod 4=way at *
 have d12:=zd 12 (by decide) (by decide)
 have n18:(2:Int)*10 ^ (18:Int).toNat+1≠0:=by decide
 have n16:(10:Int) ^ (16:Int).toNat≠0:=by decide
 have e16:(10:Int) ^ (16:Int).toNat=10 ^ 16:=rfl
 have e17:(10:Int) ^ (17:Int).toNat=10 ^ 17:=rfl
 have e18:(10:Int) ^ (18:Int).toNat=10 ^ 18:=rfl
 have x18:=Zhb (c.fdiv 12) (show (0:Int)<2*10 ^ (18:Int).toNat+1 by decide)
 have x16:=Zhb (c.fdiv 12) (show (0:Int)<10 ^ (16:Int).toNat by decide)
 have x3:=Zhb (c.fdiv 12) (show (0:Int)<3 by decide)
 have pd:0≤p.fdiv 3∧p.fdiv 3≤p:=by rw [Int.fdiv_eq_ediv_of_nonneg _ (by decide)]; omega
 refine ⟨_,rfl,rfl,_,rfl,Zhz (fun h1=>?_) (fun h1=>?_)⟩
 ·refine ⟨_,rfl,_,_,rfl,rfl,d12,_,_,rfl,rfl,cp18,_,_,rfl,rfl,.inl ⟨by decide,by decide⟩,_,_,rfl,rfl,_,_,rfl,rfl,n18,_,_,rfl,rfl,cp18,_,_,rfl,rfl,q _ ?_ ?_⟩
  ·show -10 ^ 18≤(c.fdiv 12).fmod (2*10 ^ (18:Int).toNat+1)-10 ^ (18:Int).toNat
   rw [e18] at *; omega
  ·show (c.fdiv 12).fmod (2*10 ^ (18:Int).toNat+1)-10 ^ (18:Int).toNat≤10 ^ 18
   rw [e18] at *; omega
 refine ⟨_,rfl,rfl,_,rfl,Zhz (fun h2=>?_) (fun h2=>?_)⟩
 ·refine ⟨_,_,rfl,rfl,cp17,_,_,rfl,rfl,.inl ⟨by decide,by decide⟩,_,rfl,_,_,rfl,rfl,d12,_,_,rfl,rfl,(by decide:(3:Int)≠0),_,_,rfl,rfl,q _ ?_ ?_⟩
  ·show -10 ^ 18≤9*10 ^ (17:Int).toNat+(c.fdiv 12).fmod 3
   rw [e17]; omega
  ·show 9*10 ^ (17:Int).toNat+(c.fdiv 12).fmod 3≤10 ^ 18
   rw [e17]; omega
 refine ⟨_,rfl,rfl,_,rfl,Zhz (fun h3=>?_) (fun h3=>?_)⟩
 ·refine ⟨_,rfl,_,_,rfl,rfl,zd 3 (by decide) (by decide),_,_,rfl,rfl,cp16,_,_,rfl,rfl,.inr ⟨by decide,by decide⟩,q _ ?_ ?_⟩
  ·show -10 ^ 18≤p.fdiv 3*10 ^ (16:Int).toNat
   rw [e16]; omega
  ·show p.fdiv 3*10 ^ (16:Int).toNat≤10 ^ 18
   rw [e16]; omega
 ·refine ⟨_,rfl,_,_,rfl,rfl,cp16,_,_,rfl,rfl,.inr ⟨by decide,by decide⟩,_,rfl,_,_,rfl,rfl,d12,_,_,rfl,rfl,cp16,_,_,rfl,rfl,n16,_,_,rfl,rfl,q _ ?_ ?_⟩
  ·show -10 ^ 18≤p*10 ^ (16:Int).toNat+(c.fdiv 12).fmod (10 ^ (16:Int).toNat)
   rw [e16] at *; omega
  ·show p*10 ^ (16:Int).toNat+(c.fdiv 12).fmod (10 ^ (16:Int).toNat)≤10 ^ 18
   rw [e16] at *; omega
theorem ZhK (T:Tx K w mg)  : Zfc P base T:=by
 refine Fun.okX (k:=0) T.Za1.F Zer (fun vs H Q E h=>h.1) (fun cdv A outer s H vs Q E hr h=>?_)
 obtain ⟨-,h⟩:=h
 obtain ⟨w,f,p,s,D,pool,rfl,hD,f0,f1,p0,p1,s0,q⟩:=h
 refine ⟨_, (Zag (ZaQ (Zaq Zbb (pv 0) Zad (Zar _)) (Zah (Zay Zat)) Zav)
   (Zag (ZaQ (Zaq Zbb (pv 0) Zad (Zar _)) (Zah (ZaH (i:=1) Zer.nd rfl (Or.inl rfl) (pv 2))) Zav)
   (Zag (ZaQ (PW.pt (ZfJ (Zaq Zbb (pv 0) Zad (Zar _)) (Zet (Zaq Zi2 (ZaF Zcd (ZaF Zf0 (ZaF Zbx (pv 1) Zad) Zad) (pv 3)) (ZaC ZaT (by rfl) T.n_len ZcC (Zaa (pv 4) Zaf)) (Zar _))))) (Zah (Zay (Zas Za7 (pv 4) (pv 1) (fun _ _=>rfl)))) Zav)
   (Zah (Zay (Zas Za7 (pv 4) (ZaF Zcd (ZaF Zf0 (ZaF Zbx (pv 1) Zad) Zad) (pv 3)) (fun _ _=>rfl))))))),?_⟩
 have zd:∀ n:Int,1≤n->n≤1000->n≠0∧n.natAbs<2 ^ 1000:=fun n h1 h2=>⟨by omega,Nat.lt_of_le_of_lt (show n.natAbs≤1000 by omega) (by decide +kernel)⟩
 have key:∀ z:Int,0≤z->z<pool.length->∃ n∈pool,atI (pool.map V.str) z=some (.str n):=fun z h0 h1=>by
  obtain ⟨n,hn,e⟩:=ZqM h0 h1
  exact ⟨n,List.mem_of_getElem? hn,e⟩
 refine ⟨_,rfl,rfl,_,rfl,Zhz (fun h0=>q _ (.inl rfl)) (fun h0=>?_)⟩
 dsimp only [Zbu]
 refine Zch (fun σ' H'=>H'=H∧∃ f:Int,σ'=[some (.int w),some (.int f),some (.int p),some (.int s),some (.ref D)]∧0≤f∧f<pool.length) (fun nx hnx=>?_) ?_
 ·exact ⟨_,rfl,rfl,_,rfl,Zhz (fun h3=>⟨_,rfl,hnx _ _ ⟨rfl,p,rfl,p0,p1⟩⟩) (fun h3=>hnx _ _ ⟨rfl,f,rfl,f0,f1⟩)⟩
 rintro σ' H' ⟨rfl,f,rfl,f0,f1⟩
 have pl:(((pool.map V.str).length:Nat):Int)=(pool.length:Int):=by rw [List.length_map]
 have fd:0≤f.fdiv 3:=by rw [Int.fdiv_eq_ediv_of_nonneg _ (by decide)]; omega
 have z3:=zd 3 (by decide) (by decide)
 have one:∀ {A B:Prop} (b:Bool),(A)->(B)->(if b=true then A else B):=fun b ha hb=>by cases b <;> assumption
 obtain ⟨nf,hnf,atf⟩:=key f f0 f1
 have fin1:=q nf (.inr hnf)
 refine ⟨_,rfl,rfl,_,rfl,Zhz (fun h1=>ZcF ⟨_,rfl,_,rfl,D,_,_,_,rfl,rfl,hD,atf,fin1⟩) (fun h1=>?_)⟩
 refine ⟨_,rfl,_,_,rfl,rfl,z3,_,_,rfl,rfl,.inr ⟨by decide,by decide⟩,_,rfl,_,_,rfl,rfl,_,rfl,D,_,rfl,.inl hD,_,_,rfl,rfl,_,rfl,Zhz (fun h2=>⟨_,rfl,_,rfl,D,_,_,_,rfl,rfl,hD,atf,fin1⟩) (fun h2=>?_)⟩
 have h2':=of_decide_eq_false h2
 rw [pl] at h2'
 obtain ⟨n2,hn2,at2⟩:=key (f.fdiv 3*3+s) (by omega) (by omega)
 exact ⟨_,rfl,_,rfl,_,_,rfl,rfl,z3,_,_,rfl,rfl,.inr ⟨by decide,by decide⟩,_,rfl,_,_,rfl,rfl,D,_,_,_,rfl,rfl,hD,at2,q n2 (.inr hn2)⟩
theorem ZkH (T:Tx K w mg)  : ZhV P base T:=by
 refine Fun.okX (k:=0) T.Zcr.F ZeO (fun vs H Q E h=>h.1) (fun cdv A outer s H vs Q E hr h=>?_)
 obtain ⟨-,h⟩:=h
 obtain ⟨c,n,rfl,hn,q⟩:=h
 refine ⟨_, (Zag (ZaH (i := 2) ZeO.nd rfl (Or.inl rfl) (Zbv (Zaa ZhU (Zaa Zat (Zaa (Zbv (Zaa Zat (Zaa (pv 1) (Zaa Zad Zaf)))) (Zaa (ZaW (Zaa Zat (Zaa (pv 1) Zaf))) (Zaa (ZaW (Zaa Zat (Zaa (pv 1) (Zaa Zad Zaf)))) (Zaa (ZaW (Zaa Zat (Zaa (pv 1) (Zaa ZdT Zaf)))) Zaf))))))))
   (Zag (ZaH (i:=2) ZeO.nd rfl (Or.inl rfl) (ZaF Znq (pv 2) (Zbv (Zaa (ZaW Zaf) (Zaa (ZaW (Zaa Zat (Zaa (pv 1) (Zaa (pv 1) (Zaa Zad (Zaa Zad Zaf)))))) (Zaa (ZaW (Zaa Zat (Zaa (pv 1) (Zaa ZhU (Zaa Zad Zaf))))) (Zaa (ZaW (Zaa Zat (Zaa (pv 1) (Zaa Zat (Zaa Zad (Zaa Zat Zaf)))))) Zaf)))))))
   (Zah (Zay (Zas Za7 (pv 2) (ZaF ZbH (pv 0) Zad) (fun _ _=>rfl)))))),?_⟩
 refine ⟨_,rfl,few rfl,fun a1 n1=>⟨_,rfl,few rfl,fun a2 n2=>⟨_,rfl,few rfl,fun a3 n3=>⟨_,rfl,few rfl,fun a4 n4=>⟨few rfl,fun L nL=>?_⟩⟩⟩⟩⟩
 have e1:=Zac (o:=.lst [.str "dead",.str n,.int 0]) n1
 have e2:=Zac (o:=.tup [.str "dead",.str n]) n2
 have e3:=Zac (o:=.tup [.str "died",.str n,.int 0]) n3
 have e4:=Zac (o:=.tup [.str "dead",.str n,.bl true]) n4
 have eL:=Zac (o:=.lst [.non,.str "born",.ref a1,.ref a2,.ref a3,.ref a4]) nL
 have g1:=(e2.trans (e3.trans (e4.trans eL))) a1 _ Zab
 have g2:=(e3.trans (e4.trans eL)) a2 _ Zab
 have g3:=(e4.trans eL) a3 _ Zab
 have g4:=eL a4 _ Zab
 have sL:=e1.trans (e2.trans (e3.trans (e4.trans eL)))
 have hL:=Zab (H:=upd (upd (upd (upd H a1 (.lst [.str "dead",.str n,.int 0])) a2 (.tup [.str "dead",.str n])) a3 (.tup [.str "died",.str n,.int 0])) a4 (.tup [.str "dead",.str n,.bl true])) (a:=L) (o:=.lst [.non,.str "born",.ref a1,.ref a2,.ref a3,.ref a4])
 generalize upd (upd (upd (upd (upd H a1 (.lst [.str "dead",.str n,.int 0])) a2 (.tup [.str "dead",.str n])) a3 (.tup [.str "died",.str n,.int 0])) a4 (.tup [.str "dead",.str n,.bl true])) L (.lst [.non,.str "born",.ref a1,.ref a2,.ref a3,.ref a4])=H1 at *
 refine ⟨_,rfl,few rfl,fun a5 n5=>⟨_,rfl,_,rfl,few rfl,fun a6 n6=>⟨_,rfl,few rfl,fun a7 n7=>⟨_,rfl,few rfl,fun a8 n8=>⟨few rfl,fun M nM=>?_⟩⟩⟩⟩⟩
 have e5:=Zac (o:=.tup []) n5
 have e6:=Zac (o:=.tup [.str "given",.str n,.str n,.int 0,.int 0]) n6
 have e7:=Zac (o:=.tup [.str "union",.str n,.non,.int 0]) n7
 have e8:=Zac (o:=.tup [.str "born",.str n,.str "",.int 0,.str ""]) n8
 have eM:=Zac (o:=.lst [.ref a5,.ref a6,.ref a7,.ref a8]) nM
 have g5:=(e6.trans (e7.trans (e8.trans eM))) a5 _ Zab
 have g6:=(e7.trans (e8.trans eM)) a6 _ Zab
 have g7:=(e8.trans eM) a7 _ Zab
 have g8:=eM a8 _ Zab
 have sM:=e5.trans (e6.trans (e7.trans (e8.trans eM)))
 refine ⟨L,M,_,_,rfl,rfl,sM _ _ hL,Zab,few rfl,fun N nN=>?_⟩
 have eN:=Zac (o:=.lst [.non,.str "born",.ref a1,.ref a2,.ref a3,.ref a4,.ref a5,.ref a6,.ref a7,.ref a8]) nN
 have sN:=sL.trans (sM.trans eN)
 replace g1:=eN _ _ (sM _ _ g1)
 replace g2:=eN _ _ (sM _ _ g2)
 replace g3:=eN _ _ (sM _ _ g3)
 replace g4:=eN _ _ (sM _ _ g4)
 replace g5:=eN _ _ g5
 replace g6:=eN _ _ g6
 replace g7:=eN _ _ g7
 replace g8:=eN _ _ g8
 have nl:=Zff hn
 have l0:(("" : Str)).length≤100:=by decide +kernel
 obtain ⟨o,mo,ato⟩:=Zq8 (xs:=[.non,.str "born",.ref a1,.ref a2,.ref a3,.ref a4,.ref a5,.ref a6,.ref a7,.ref a8]) c (m:=10) rfl (by decide)
 refine ⟨_,rfl,_,rfl,_,_,rfl,rfl,(by decide:(10:Int)≠0),N,_,_,_,rfl,rfl,.of Zab,ato,q _ _ sN ?_⟩
 have gen:∀ H9:Hp,H9 a1=some (.lst [.str "dead",.str n,.int 0])->H9 a2=some (.tup [.str "dead",.str n])->H9 a3=some (.tup [.str "died",.str n,.int 0])->H9 a4=some (.tup [.str "dead",.str n,.bl true])->H9 a5=some (.tup [])->H9 a6=some (.tup [.str "given",.str n,.str n,.int 0,.int 0])->H9 a7=some (.tup [.str "union",.str n,.non,.int 0])->H9 a8=some (.tup [.str "born",.str n,.str "",.int 0,.str ""])->Bad K H9 o:=?_
 ·exact gen _ g1 g2 g3 g4 g5 g6 g7 g8
 clear g1 g2 g3 g4 g5 g6 g7 g8
 intro H9 g1 g2 g3 g4 g5 g6 g7 g8
 simp only [List.mem_cons,List.not_mem_nil,or_false] at mo
 rcases mo with rfl | rfl | rfl | rfl | rfl | rfl | rfl | rfl | rfl | rfl
 ·exact .inl ⟨.non,.of .non,rfl⟩
 ·exact .inl ⟨.str "born",⟨rfl,by decide +kernel⟩,rfl⟩
 ·exact .inl ⟨.lst,.of (.lst g1),rfl⟩
 ·exact .inr ⟨[.str "dead",.str n],⟨a2,_,rfl,.of g2,⟨rfl,by decide +kernel⟩,⟨rfl,nl⟩,trivial⟩,Nat.le_of_ble_eq_true rfl,Zn1 Zpm (by simp)⟩
 ·refine .inr ⟨[.str "died",.str n,.int 0],⟨a3,_,rfl,.of g3,⟨rfl,by decide +kernel⟩,⟨rfl,nl⟩,rfl,trivial⟩,Nat.le_of_ble_eq_true rfl,?_⟩
  rw [Zbz,show ZcB "died"=none by rfl]
  rfl
 ·exact .inr ⟨[.str "dead",.str n,.bl],⟨a4,_,rfl,.of g4,⟨rfl,by decide +kernel⟩,⟨rfl,nl⟩,.of (.bl _),trivial⟩,Nat.le_of_ble_eq_true rfl,ZmL Zpm (j:=1) rfl rfl rfl⟩
 ·exact .inr ⟨[],⟨a5,_,rfl,.of g5,trivial⟩,Nat.le_of_ble_eq_true rfl,rfl⟩
 ·exact .inr ⟨[.str "given",.str n,.str n,.int 0,.int 0],⟨a6,_,rfl,.of g6,⟨rfl,by decide +kernel⟩,⟨rfl,nl⟩,⟨rfl,nl⟩,rfl,rfl,trivial⟩,Nat.le_of_ble_eq_true rfl,ZmL Zpx (j:=2) rfl rfl (by decide +kernel)⟩
 ·exact .inr ⟨[.str "union",.str n,.non,.int 0],⟨a7,_,rfl,.of g7,⟨rfl,by decide +kernel⟩,⟨rfl,nl⟩,.of .non,rfl,trivial⟩,Nat.le_of_ble_eq_true rfl,ZmL ZpP (j:=1) rfl rfl rfl⟩
 ·exact .inr ⟨[.str "born",.str n,.str "",.int 0,.str ""],⟨a8,_,rfl,.of g8,⟨rfl,by decide +kernel⟩,⟨rfl,nl⟩,⟨rfl,l0⟩,rfl,⟨rfl,l0⟩,trivial⟩,Nat.le_of_ble_eq_true rfl,Zn1 Zrp (by simp)⟩
theorem Zit (T:Tx K w mg) (Za9:ZeH P base T) (ZfI:ZhZ P base T) (ZcN:Zfc P base T) (ZfV:ZhV P base T):ZfZ P base T:=by
 refine Fun.okX (k:=1) T.ZbK.F Zbd (fun vs H Q E h=>h.1) (fun cdv A outer s H vs Q E hr h=>?_)
 obtain ⟨-,h⟩:=h
 obtain ⟨c,D,pool,rfl,hD,p4,p33,nm,q⟩:=h
 refine ⟨_, (Zag (ZaH (i := 2) Zbd.nd rfl (Or.inl rfl) (ZaB Za9 (hr.mono (by decide)) (by rfl) T.ZaA.m T.ZaA.F.kp T.ZaA.b .nil Zak (Zaa (pv 0) (Zaa Zad (Zaa Zad Zaf)))))
   (Zag (ZaH (i:=3) Zbd.nd rfl (Or.inl rfl) (ZaB Za9 (hr.mono (by decide)) (by rfl) T.ZaA.m T.ZaA.F.kp T.ZaA.b .nil Zak (Zaa (pv 0) (Zaa Zad (Zaa (ZaC ZaT (by rfl) T.n_len ZcC (Zaa (pv 1) Zaf)) Zaf)))))
   (Zag (ZaH (i:=4) Zbd.nd rfl (Or.inl rfl) (ZaB Za9 (hr.mono (by decide)) (by rfl) T.ZaA.m T.ZaA.F.kp T.ZaA.b .nil Zak (Zaa (pv 0) (Zaa Zad (Zaa (ZaC ZaT (by rfl) T.n_len ZcC (Zaa (pv 1) Zaf)) Zaf)))))
   (Zag (ZaH (i:=5) Zbd.nd rfl (Or.inl rfl) (ZaB ZfI (hr.mono (by decide)) (by rfl) T.Zcm.m T.Zcm.F.kp T.Zcm.b .nil Zak (Zaa (pv 0) (Zaa (pv 3) Zaf))))
   (Zag (ZaQ (Zaq Zj8 (pv 2) Zad (Zar _)) (Zag (ZaH (i:=6) Zbd.nd rfl (Or.inl rfl) (Zas Za7 (Zbv (Zaa Zat (Zaa Zat (Zaa Zat Zaf)))) (ZaF ZbH (ZaF Zcd (pv 3) (ZgE Zn6 (by rfl) T.n_int Zo8 (Zaa (ZaN Zbb (ZaB Za9 (hr.mono (by decide)) (by rfl) T.ZaA.m T.ZaA.F.kp T.ZaA.b .nil Zak (Zaa (pv 0) (Zaa Zad (Zaa Zad Zaf)))) Zad (Zar _)) Zaf))) Zad) (fun _ _=>rfl)))
   (Zag (ZaH (i:=7) Zbd.nd rfl (Or.inl rfl) (ZaB ZcN (hr.mono (by decide)) (by rfl) T.Za1.m T.Za1.F.kp T.Za1.b .nil Zak (Zaa (ZaB Za9 (hr.mono (by decide)) (by rfl) T.ZaA.m T.ZaA.F.kp T.ZaA.b .nil Zak (Zaa (pv 0) (Zaa Zad (Zaa Zad Zaf)))) (Zaa (pv 4) (Zaa (pv 3) (Zaa Zad (Zaa (pv 1) Zaf)))))))
   (Zag (ZaH (i:=4) Zbd.nd rfl (Or.inl rfl) (ZaB Za9 (hr.mono (by decide)) (by rfl) T.ZaA.m T.ZaA.F.kp T.ZaA.b .nil Zak (Zaa (pv 0) (Zaa Zad (Zaa (ZaC ZaT (by rfl) T.n_len ZcC (Zaa (pv 1) Zaf)) Zaf)))))
   (Zag (ZaH (i:=8) Zbd.nd rfl (Or.inl rfl) (ZaB ZcN (hr.mono (by decide)) (by rfl) T.Za1.m T.Za1.F.kp T.Za1.b .nil Zak (Zaa (ZaB Za9 (hr.mono (by decide)) (by rfl) T.ZaA.m T.ZaA.F.kp T.ZaA.b .nil Zak (Zaa (pv 0) (Zaa Zad (Zaa Zad Zaf)))) (Zaa (pv 4) (Zaa (pv 3) (Zaa Zad (Zaa (pv 1) Zaf)))))))
   (Zah (Zay (ZaW (Zaa Zat (Zaa (Zas Za7 (pv 1) (pv 3) (fun _ _=>rfl)) (Zaa (pv 6) (Zaa (pv 5) (Zaa (pv 7) (Zaa (pv 8) Zaf))))))))))))) Zav)
   (Zag (ZaQ (Zaq Zj8 (pv 2) Zad (Zar _)) (Zah (Zay (ZaW (Zaa (Zas Za7 (Zbv (Zaa Zat (Zaa Zat (Zaa Zat (Zaa Zat (Zaa Zat Zaf)))))) (ZaF Zke (pv 2) Zad) (fun _ _=>rfl)) (Zaa (Zas Za7 (pv 1) (pv 3) (fun _ _=>rfl)) (Zaa (Zas Za7 (pv 1) (pv 4) (fun _ _=>rfl)) (Zaa (pv 5) Zaf))))))) Zav)
   (Zag (ZaQ (Zaq Zbb (pv 2) Zad (Zar _)) (Zah (Zay (ZaW (Zaa Zat (Zaa (Zas Za7 (pv 1) (pv 3) (fun _ _=>rfl)) (Zaa (pv 5) Zaf)))))) Zav)
   (Zag (ZaQ (Zaq Zbb (pv 2) Zad (Zar _)) (Zah (Zay (ZaW (Zaa Zat (Zaa (Zas Za7 (pv 1) (pv 3) (fun _ _=>rfl)) (Zaa (Zas Za7 (pv 1) (pv 4) (fun _ _=>rfl)) (Zaa (ZaF Zcd Zad (ZaF ZbH (ZaF Zbx (pv 0) Zad) (ZaF Ze6 Zad Zad))) (Zaa (pv 5) Zaf)))))))) Zav)
   (Zah (Zay (ZaB ZfV (hr.mono (by decide)) (by rfl) T.Zcr.m T.Zcr.F.kp T.Zcr.b .nil Zak (Zaa (ZaF Zbx (pv 0) Zad) (Zaa (Zas Za7 (pv 1) (pv 3) (fun _ _=>rfl)) Zaf))))))))))))),?_⟩
 have zd:∀ n:Int,1≤n->n≤1000->n≠0∧n.natAbs<2 ^ 1000:=fun n h1 h2=>⟨by omega,Nat.lt_of_le_of_lt (show n.natAbs≤1000 by omega) (by decide +kernel)⟩
 have pl:(((pool.map V.str).length:Nat):Int)=(pool.length:Int):=by rw [List.length_map]
 have key:∀ z:Int,0≤z->z<pool.length->∃ n∈pool,atI (pool.map V.str) z=some (.str n):=fun z h0 h1=>by
  obtain ⟨n,hn,e⟩:=ZqM h0 h1
  exact ⟨n,List.mem_of_getElem? hn,e⟩
 refine ⟨_,rfl,rfl,c,0,14,rfl,by decide,by decide,by decide,fun H1 kind s1 k0 k1 ek=>?_⟩
 replace ek:=ek rfl
 rw [← ek] at q
 refine ⟨_,rfl,_,rfl,D,_,rfl,.inl (s1.sql hD),rfl,c,1,_,rfl,by decide,by decide,by rw [pl]; omega,fun H2 place s2 pl0 pl1 _=>?_⟩
 rw [pl] at pl1
 have s12:=s1.trans s2
 refine ⟨_,rfl,_,rfl,D,_,rfl,.inl (s12.sql hD),rfl,c,2,_,rfl,by decide,by decide,by rw [pl]; omega,fun H3 free s3 fr0 fr1 _=>?_⟩
 rw [pl] at fr1
 have s13:=s12.trans s3
 have hD3:=s13.sql hD
 refine ⟨_,rfl,_,rfl,rfl,c,place,rfl,pl0,by omega,fun day d0 d1=>?_⟩
 obtain ⟨np,hnp,atp⟩:=key place pl0 pl1
 obtain ⟨nf,hnf,atf⟩:=key free fr0 fr1
 have mp:=nm np hnp
 have mf:=nm nf hnf
 have two:∀ a b:Str,a∈pool->b∈pool->∀ n∈[a,b],n∈pool:=fun a b ha hb n hn=>by
  simp only [List.mem_cons,List.not_mem_nil,or_false] at hn
  rcases hn with rfl | rfl
  ·exact ha
  ·exact hb
 refine ⟨_,rfl,_,_,rfl,rfl,_,rfl,Zhz (fun h6=>?_) (fun h6=>?_)⟩
 ·have k6:=of_decide_eq_true h6
  refine ⟨few rfl,fun L nL=>?_⟩
  have sL:=Zac (o:=.lst [V.str "he",.str "she",.str ""]) nL
  refine ⟨_,rfl,_,rfl,rfl,c,3,8,rfl,by decide,by decide,by decide,fun H4 z4 s4 _ _ _=>⟨rfl,.inr ⟨_,rfl,_,_,rfl,rfl,_,_,rfl,rfl,(by decide:(3:Int)≠0),?_⟩⟩⟩
  obtain ⟨so,hso,mso⟩:=ZpX (place+if decide (V.int z4=V.int 1)=true then 1 else 0)
  refine ⟨L,_,_,_,rfl,rfl,.of (s4 _ _ Zab),hso,?_⟩
  have s14:=s13.trans (sL.trans s4)
  refine ⟨_,rfl,rfl,c,4,4,rfl,by decide,by decide,by decide,fun H5 w5 s5 _ _ _=>?_⟩
  have s15:=s14.trans s5
  refine ⟨_,rfl,_,rfl,_,rfl,rfl,w5,free,place,0,D,pool,rfl,s15.sql hD,fr0,fr1,pl0,pl1,by decide,fun fa hfa=>?_⟩
  refine ⟨_,rfl,_,rfl,D,_,rfl,.inl (s15.sql hD),rfl,c,6,_,rfl,by decide,by decide,by rw [pl]; omega,fun H6 free6 s6 f60 f61 _=>?_⟩
  rw [pl] at f61
  have s16:=s15.trans s6
  refine ⟨_,rfl,rfl,c,5,4,rfl,by decide,by decide,by decide,fun H7 w7 s7 _ _ _=>?_⟩
  have s17:=s16.trans s7
  refine ⟨_,rfl,_,rfl,_,rfl,rfl,w7,free6,place,1,D,pool,rfl,s17.sql hD,f60,f61,pl0,pl1,by decide,fun mo hmo=>?_⟩
  refine ⟨_,rfl,_,rfl,D,_,_,_,rfl,rfl,s17.sql hD,atp,_,rfl,_,rfl,_,rfl,_,rfl,few rfl,fun a na=>q _ _ (s17.trans (Zac na)) (fun _=>⟨.born np so day fa mo,a,rfl,.of Zab,ZpI mp mso d0 d1 (hfa.imp id (nm _)) (hmo.imp id (nm _)),fun n hn=>?_,fun n hn=>by cases hn; exact hnp⟩) (fun z=>by omega)⟩
  rcases List.mem_filter.mp (show n∈[fa,mo].filter (fun x:Str=>decide (x≠"")) from hn) with ⟨h1,h2⟩
  have h2:=of_decide_eq_true h2
  simp only [List.mem_cons,List.not_mem_nil,or_false] at h1
  rcases h1 with rfl | rfl
  ·exact hfa.resolve_left h2
  ·exact hmo.resolve_left h2
 have k6:=of_decide_eq_false h6
 refine ⟨_,rfl,_,_,rfl,rfl,_,rfl,Zhz (fun h11=>?_) (fun h11=>?_)⟩
 ·have k11:=of_decide_eq_true h11
  refine ⟨few rfl,fun L nL=>?_⟩
  have sL:=Zac (o:=.lst [V.str "taken",.str "taken",.str "union",.str "union",.str "parted"]) nL
  obtain ⟨kd,hkd,mkd⟩:∃ kd:Str,atI [V.str "taken",.str "taken",.str "union",.str "union",.str "parted"] (kind-6)=some (.str kd)∧(kd="taken"∨kd="union"∨kd="parted"):=by
   have:kind-6=0∨kind-6=1∨kind-6=2∨kind-6=3∨kind-6=4:=by omega
   rcases this with e | e | e | e | e <;> rw [e]
   ·exact ⟨_,Zct (j:=0) rfl,.inl rfl⟩
   ·exact ⟨_,Zct (j:=1) rfl,.inl rfl⟩
   ·exact ⟨_,Zct (j:=2) rfl,.inr (.inl rfl)⟩
   ·exact ⟨_,Zct (j:=3) rfl,.inr (.inl rfl)⟩
   ·exact ⟨_,Zct (j:=4) rfl,.inr (.inr rfl)⟩
  refine ⟨_,rfl,_,_,rfl,rfl,L,_,_,_,rfl,rfl,.of Zab,hkd,_,rfl,_,rfl,D,_,_,_,rfl,rfl,sL.sql hD3,atp,_,rfl,_,rfl,D,_,_,_,rfl,rfl,sL.sql hD3,atf,_,rfl,few rfl,fun a na=>q _ _ (s13.trans (sL.trans (Zac na))) (fun _=>?_) (fun z=>by omega)⟩
  rcases mkd with rfl | rfl | rfl
  ·exact ⟨.taken np nf day,a,rfl,.of Zab,⟨Zne (.inl rfl) mp mf d0 d1,Zn0 (by decide +kernel) mp mf⟩,two _ _ hnp hnf,fun n hn=>by cases hn⟩
  ·exact ⟨.union np nf day,a,rfl,.of Zab,⟨Zne (.inr (.inl rfl)) mp mf d0 d1,Zn0 (by decide +kernel) mp mf⟩,two _ _ hnp hnf,fun n hn=>by cases hn⟩
  ·exact ⟨.parted np nf day,a,rfl,.of Zab,⟨Zne (.inr (.inr rfl)) mp mf d0 d1,Zn0 (by decide +kernel) mp mf⟩,two _ _ hnp hnf,fun n hn=>by cases hn⟩
 have k11:=of_decide_eq_false h11
 refine ⟨_,rfl,rfl,_,rfl,Zhz (fun h12=>?_) (fun h12=>?_)⟩
 ·have k12:kind=11:=ZjQ h12
  exact ⟨_,rfl,_,rfl,D,_,_,_,rfl,rfl,hD3,atp,_,rfl,few rfl,fun a na=>q _ _ (s13.trans (Zac na)) (fun _=>⟨.dead np day,a,rfl,.of Zab,ZqY mp d0 d1,fun n hn=>by rw [show n=np by simpa [Ent.named] using hn]; exact hnp,fun n hn=>by cases hn⟩) (fun z=>by omega)⟩
 have k12:kind≠11:=Zjp h12
 refine ⟨_,rfl,rfl,_,rfl,Zhz (fun h13=>?_) (fun h13=>?_)⟩
 ·have k13:kind=12:=ZjQ h13
  have cp18:ZpN 10 18:=⟨by decide,by decide,by decide +kernel⟩
  have n18:(10:Int) ^ (18:Int).toNat≠0:=by decide
  have x18:=Zhb (c.fdiv 5) (show (0:Int)<10 ^ (18:Int).toNat by decide)
  rw [show (10:Int) ^ (18:Int).toNat=10 ^ 18 from rfl] at x18
  exact ⟨_,rfl,_,rfl,D,_,_,_,rfl,rfl,hD3,atp,_,rfl,_,rfl,D,_,_,_,rfl,rfl,hD3,atf,_,rfl,_,_,rfl,rfl,zd 5 (by decide) (by decide),_,_,rfl,rfl,cp18,_,_,rfl,rfl,n18,_,_,rfl,rfl,_,rfl,few rfl,fun a na=>q _ _ (s13.trans (Zac na)) (fun _=>⟨.given np nf (1+(c.fdiv 5).fmod (10 ^ 18)) day,a,rfl,.of Zab,ZqP mp mf (by omega) (by omega) d0 d1,two _ _ hnp hnf,fun n hn=>by cases hn⟩) (fun z=>by omega)⟩
 have k13:kind≠12:=Zjp h13
 exact ⟨_,rfl,_,_,rfl,rfl,zd 14 (by decide) (by decide),_,rfl,_,rfl,D,_,_,_,rfl,rfl,hD3,atp,rfl,_,np,rfl,mp,fun H4 v s4 bad=>q _ _ (s13.trans s4) (fun z=>by omega) (fun _=>bad)⟩
theorem Zix (T:Tx K w mg)  : Zed P base T:=by
 refine Fun.okX (k:=0) T.Zbg.F Zi6 (fun vs H Q E h=>h.1) (fun cdv A outer s H vs Q E hr h=>?_)
 obtain ⟨-,h⟩:=h
 obtain ⟨v,e,rfl,⟨a,rfl,hE⟩,q⟩:=h
 refine ⟨_, (Zag (ZaQ (Zaq Zbb (Zas Zan (pv 0) Zad (fun _ _ => rfl)) Zat (Zar _)) (Zah (Zay (ZdF rfl (ZcM (N := ["_law_name"]) [] [none] rfl (by decide +kernel) (by decide +kernel) (by rfl) (by rfl) (by rfl) (by rfl) (by rfl)) (ZlE (Zby Zh3 (pv 0) (Zbp Zad) ZdL)) (fun _ _ _ => (Za2 (i := 0) ZsN rfl (Or.inl rfl))) (fun _ _ _ => (ZfE (Zaq Zij (pv 0) Zat (Zar _)))) (fun _ _ _ => (pv 0))))) Zav)
   (Zag (ZaQ (Zaq Zbb (Zas Zan (pv 0) Zad (fun _ _=>rfl)) Zat (Zar _)) (Zah (Zay (Zbv (Zaa (Zas Zan (pv 0) Zad (fun _ _=>rfl)) Zaf)))) Zav)
   (Zah (Zay (Zbv (Zaa (Zas Zan (pv 0) Zad (fun _ _=>rfl)) (Zaa (Zas Zan (pv 0) Zad (fun _ _=>rfl)) Zaf))))))),?_⟩
 cases e with
 | born n s d f m =>
  refine ⟨_,rfl,a,_,_,_,rfl,rfl,hE,Zae (j:=0) rfl,rfl,_,rfl,ZaR (by decide +kernel) ⟨_,rfl,_,rfl,?_⟩⟩
  dsimp only [Zdf]
  refine Zh1 hE (fun h=>absurd h.1 (show ¬ (4:Nat)=0 by decide)) fun H1 p s1 hp=>?_
  have hp':SqT K H1 p ([f,m].map V.str):=hp
  refine ⟨p,rfl,⟨_,hp'⟩,Zef ([f,m].map Zoa) (Zam (by simp)) (fun σ=>∃ v,σ=[v]) ⟨_,rfl⟩ (fun i H2 hi sm=>?go) (fun H2 sm=>?stop) (fun i σ H2 x H3 o ho hσ sm hx C hC=>?step) (fun D H2 nD sm hD=>?fin)⟩
  case go =>
   have hi':i<([f,m].map V.str).length:=hi
   exact ⟨_,_,sm.sqt hp',List.getElem?_eq_getElem hi'⟩
  case stop=>exact ⟨_,sm.sqt hp',by simp⟩
  case step =>
   obtain ⟨v,rfl⟩:=hσ
   obtain ⟨rfl,hx⟩:=hx
   have e1:=hx _ (sm.sqt hp')
   rw [List.getElem?_map] at e1 ho
   obtain ⟨z,hz,rfl⟩:=Option.map_eq_some_iff.mp e1
   rw [hz] at ho
   obtain rfl:Zoa z=o:=Option.some.inj ho
   refine ⟨_,rfl,rfl,_,rfl,?_⟩
   by_cases hz0:z=""
   ·subst hz0
    exact Zau (by decide +kernel) (hC _ _ ⟨_,rfl⟩ (Same.refl _))
   ·have e2:Zoa z=some (.str z):=if_neg hz0
    rw [e2] at hC
    exact ZaR (by rw [Zbm,decide_eq_false hz0]; rfl) ⟨_,rfl,hC _ _ ⟨_,rfl⟩ (Same.refl _)⟩
  case fin =>
   rw [ZiL] at hD
   exact q _ D (s1.trans sm) (ZcE s1 nD) (.of hD)
 | dead n d=>exact ⟨_,rfl,a,_,_,_,rfl,rfl,hE,Zae (j:=0) rfl,rfl,_,rfl,Zau (by decide +kernel) ⟨_,rfl,a,_,_,_,rfl,rfl,hE,Zae (j:=0) rfl,rfl,_,rfl,ZaR (by decide +kernel) ⟨_,rfl,a,_,_,_,rfl,rfl,hE,Zae (j:=1) rfl,few rfl,fun D nD=>q _ D (Zac nD) nD (.of Zab)⟩⟩⟩
 | taken c t d=>exact ⟨_,rfl,a,_,_,_,rfl,rfl,hE,Zae (j:=0) rfl,rfl,_,rfl,Zau (by decide +kernel) ⟨_,rfl,a,_,_,_,rfl,rfl,hE,Zae (j:=0) rfl,rfl,_,rfl,Zau (by decide +kernel) ⟨_,rfl,a,_,_,_,rfl,rfl,hE,Zae (j:=1) rfl,_,rfl,a,_,_,_,rfl,rfl,hE,Zae (j:=2) rfl,few rfl,fun D nD=>q _ D (Zac nD) nD (.of Zab)⟩⟩⟩
 | union x y d=>exact ⟨_,rfl,a,_,_,_,rfl,rfl,hE,Zae (j:=0) rfl,rfl,_,rfl,Zau (by decide +kernel) ⟨_,rfl,a,_,_,_,rfl,rfl,hE,Zae (j:=0) rfl,rfl,_,rfl,Zau (by decide +kernel) ⟨_,rfl,a,_,_,_,rfl,rfl,hE,Zae (j:=1) rfl,_,rfl,a,_,_,_,rfl,rfl,hE,Zae (j:=2) rfl,few rfl,fun D nD=>q _ D (Zac nD) nD (.of Zab)⟩⟩⟩
 | parted x y d=>exact ⟨_,rfl,a,_,_,_,rfl,rfl,hE,Zae (j:=0) rfl,rfl,_,rfl,Zau (by decide +kernel) ⟨_,rfl,a,_,_,_,rfl,rfl,hE,Zae (j:=0) rfl,rfl,_,rfl,Zau (by decide +kernel) ⟨_,rfl,a,_,_,_,rfl,rfl,hE,Zae (j:=1) rfl,_,rfl,a,_,_,_,rfl,rfl,hE,Zae (j:=2) rfl,few rfl,fun D nD=>q _ D (Zac nD) nD (.of Zab)⟩⟩⟩
 | given x y z d=>exact ⟨_,rfl,a,_,_,_,rfl,rfl,hE,Zae (j:=0) rfl,rfl,_,rfl,Zau (by decide +kernel) ⟨_,rfl,a,_,_,_,rfl,rfl,hE,Zae (j:=0) rfl,rfl,_,rfl,Zau (by decide +kernel) ⟨_,rfl,a,_,_,_,rfl,rfl,hE,Zae (j:=1) rfl,_,rfl,a,_,_,_,rfl,rfl,hE,Zae (j:=2) rfl,few rfl,fun D nD=>q _ D (Zac nD) nD (.of Zab)⟩⟩⟩
theorem Zjy (T:Tx K w mg)  : ZgQ P base T:=by
 refine Fun.okX (k:=0) T.Zb3.F Zf3 (fun vs H Q E h=>h.1) (fun cdv A outer s H vs Q E hr h=>?_)
 obtain ⟨-,h⟩:=h
 obtain ⟨u,v,x,e,rfl,hU,hV,q⟩:=h
 refine ⟨_, (Zag (ZaH (i := 2) Zf3.nd rfl (Or.inl rfl) (Zas Zan (pv 1) Zad (fun _ _ => rfl)))
   (Zag (ZaQ (PW.pt (ZfJ (Zaq Zbb (pv 2) Zat (Zar _)) (Zet (Zaq Zbb (pv 2) Zat (Zar _))))) (Zah (Zay (ZcI (ZaN Zbb (Zas Zan (pv 0) Zad (fun _ _=>rfl)) (pv 2) (Zar _)) (ZcK (ZaN Zbb (Zas Zan (pv 0) Zad (fun _ _=>rfl)) (Zas Zan (pv 1) Zad (fun _ _=>rfl)) (Zar _)))))) Zav)
   (Zag (ZaQ (Zaq Zbb (pv 2) Zat (Zar _)) (Zah (Zay (ZaN (Ze1 hr.units) (Zby ZdA (pv 0) ZdL (Zbp Zad)) (Zby ZdA (pv 1) ZdL (Zbp Zad)) (Zar _)))) Zav)
   (Zag (ZaQ (Zaq Zbb (pv 2) Zat (Zar _)) (Zah (Zay (ZcI (ZaN (Ze1 hr.units) (Zby ZdA (pv 0) ZdL (Zbp Zad)) (Zby ZdA (pv 1) ZdL (Zbp Zad)) (Zar _)) (ZcK (ZaN Zbb (Zas Zan (pv 0) Zad (fun _ _=>rfl)) (Zas Zan (pv 1) Zad (fun _ _=>rfl)) (Zar _)))))) Zav)
   (Zah (Zay (ZcI (ZaN ZcD (Zas Zan (pv 0) Zad (fun _ _=>rfl)) (ZaW (Zaa Zat (Zaa Zat Zaf))) (by rfl)) (ZcI (ZaN (Ze1 hr.units) (ZaC (Zca K) (by rfl) T.n_sorted ZbU (Zaa (Zby ZdA (pv 0) (Zbp Zad) (Zbp Zad)) Zaf)) (ZaC (Zca K) (by rfl) T.n_sorted ZbU (Zaa (Zby ZdA (pv 1) (Zbp Zad) (Zbp Zad)) Zaf)) (Zar _)) (ZcK (ZaN Zbb (Zas Zan (pv 0) Zad (fun _ _=>rfl)) (Zas Zan (pv 1) Zad (fun _ _=>rfl)) (Zar _))))))))))),?_⟩
 cases e with
 | born n s d f m =>
  refine ⟨_,rfl,v,_,_,_,rfl,rfl,hV,Zae (j:=0) rfl,?_⟩
  refine ⟨_,rfl,rfl,_,rfl,ZaR (by decide +kernel) (ZcF ⟨_,rfl,u,_,_,_,rfl,rfl,hU,ZdV x,_,rfl,rfl,_,rfl,?_⟩)⟩
  cases x with
  | born n1 s1 d1 f1 m1 =>
   have ee:decide ((Ent.born n1 s1 d1 f1 m1).told.key=(Ent.born n s d f m).told.key)=decide (V.str n1=V.str n):=by
    rw [Zbm,decide_eq_decide]
    simp [Ent.told,Ent.key]
   rw [ee] at q
   exact ZaR (by show decide (V.str "born"=V.str "born")=true; decide +kernel) ⟨_,rfl,u,_,_,_,rfl,rfl,hU,Zae (j:=1) rfl,_,rfl,v,_,_,_,rfl,rfl,hV,Zae (j:=1) rfl,rfl,q _ (Same.refl H)⟩
  | taken c1 t1 d1 =>
   have q0:=q _ (Same.refl H)
   rw [decide_eq_false (ZhB (x:=.taken c1 t1 d1) (y:=.born n s d f m) (by show ("taken" : Str)≠"born"; decide +kernel))] at q0
   exact Zau (by show decide (V.str "taken"=V.str "born")=false; decide +kernel) q0
  | union x1 y1 d1 =>
   have q0:=q _ (Same.refl H)
   rw [decide_eq_false (ZhB (x:=.union x1 y1 d1) (y:=.born n s d f m) (by show ("tie" : Str)≠"born"; decide +kernel))] at q0
   exact Zau (by show decide (V.str "union"=V.str "born")=false; decide +kernel) q0
  | parted x1 y1 d1 =>
   have q0:=q _ (Same.refl H)
   rw [decide_eq_false (ZhB (x:=.parted x1 y1 d1) (y:=.born n s d f m) (by show ("tie" : Str)≠"born"; decide +kernel))] at q0
   exact Zau (by show decide (V.str "parted"=V.str "born")=false; decide +kernel) q0
  | dead n1 d1 =>
   have q0:=q _ (Same.refl H)
   rw [decide_eq_false (ZhB (x:=.dead n1 d1) (y:=.born n s d f m) (by show ("dead" : Str)≠"born"; decide +kernel))] at q0
   exact Zau (by show decide (V.str "dead"=V.str "born")=false; decide +kernel) q0
  | given g1 t1 a1 d1 =>
   have q0:=q _ (Same.refl H)
   rw [decide_eq_false (ZhB (x:=.given g1 t1 a1 d1) (y:=.born n s d f m) (by show ("given" : Str)≠"born"; decide +kernel))] at q0
   exact Zau (by show decide (V.str "given"=V.str "born")=false; decide +kernel) q0
 | dead n d =>
  refine ⟨_,rfl,v,_,_,_,rfl,rfl,hV,Zae (j:=0) rfl,?_⟩
  refine ⟨_,rfl,rfl,_,rfl,Zau (by decide +kernel) ⟨_,rfl,rfl,_,rfl,ZaR (by decide +kernel) ⟨_,rfl,u,_,_,_,rfl,rfl,hU,ZdV x,_,rfl,rfl,_,rfl,?_⟩⟩⟩
  cases x with
  | born n1 s1 d1 f1 m1 =>
   have q0:=q _ (Same.refl H)
   rw [decide_eq_false (ZhB (x:=.born n1 s1 d1 f1 m1) (y:=.dead n d) (by show ("born" : Str)≠"dead"; decide +kernel))] at q0
   exact Zau (by show decide (V.str "born"=V.str "dead")=false; decide +kernel) q0
  | taken c1 t1 d1 =>
   have q0:=q _ (Same.refl H)
   rw [decide_eq_false (ZhB (x:=.taken c1 t1 d1) (y:=.dead n d) (by show ("taken" : Str)≠"dead"; decide +kernel))] at q0
   exact Zau (by show decide (V.str "taken"=V.str "dead")=false; decide +kernel) q0
  | union x1 y1 d1 =>
   have q0:=q _ (Same.refl H)
   rw [decide_eq_false (ZhB (x:=.union x1 y1 d1) (y:=.dead n d) (by show ("tie" : Str)≠"dead"; decide +kernel))] at q0
   exact Zau (by show decide (V.str "union"=V.str "dead")=false; decide +kernel) q0
  | parted x1 y1 d1 =>
   have q0:=q _ (Same.refl H)
   rw [decide_eq_false (ZhB (x:=.parted x1 y1 d1) (y:=.dead n d) (by show ("tie" : Str)≠"dead"; decide +kernel))] at q0
   exact Zau (by show decide (V.str "parted"=V.str "dead")=false; decide +kernel) q0
  | dead n1 d1 =>
   have ee:decide ((Ent.dead n1 d1).told.key=(Ent.dead n d).told.key)=decide (V.str n1=V.str n):=by
    rw [Zbm,decide_eq_decide]
    simp [Ent.told,Ent.key]
   rw [ee] at q
   exact ZaR (by show decide (V.str "dead"=V.str "dead")=true; decide +kernel) ⟨_,rfl,u,_,_,_,rfl,rfl,hU,Zae (j:=1) rfl,_,rfl,v,_,_,_,rfl,rfl,hV,Zae (j:=1) rfl,rfl,q _ (Same.refl H)⟩
  | given g1 t1 a1 d1 =>
   have q0:=q _ (Same.refl H)
   rw [decide_eq_false (ZhB (x:=.given g1 t1 a1 d1) (y:=.dead n d) (by show ("given" : Str)≠"dead"; decide +kernel))] at q0
   exact Zau (by show decide (V.str "given"=V.str "dead")=false; decide +kernel) q0
 | taken c t d =>
  refine ⟨_,rfl,v,_,_,_,rfl,rfl,hV,Zae (j:=0) rfl,?_⟩
  refine ⟨_,rfl,rfl,_,rfl,Zau (by decide +kernel) ⟨_,rfl,rfl,_,rfl,Zau (by decide +kernel) ?_⟩⟩
  dsimp only [Zbu]
  refine ⟨_,rfl,rfl,_,rfl,ZaR (by decide +kernel) ⟨_,rfl,_,rfl,?_⟩⟩
  dsimp only [Zdf]
  refine ⟨u,_,rfl,hU,fun H1 p1 s1 hp1=>⟨_,rfl,_,rfl,?_⟩⟩
  dsimp only [Zdf]
  refine ⟨v,_,rfl,s1.sqt hV,fun H2 p2 s2 hp2=>?_⟩
  have h1:SqT K H2 p1 ((x.row.take 3).map kV):=by
   have:=s2.sqt hp1
   rwa [show ZhA (x.row.map kV) none (some 3)=(x.row.take 3).map kV from ZiY x.row 3 (ZiD x)] at this
  have h2:SqT K H2 p2 ([.inr "taken",.inr c,.inr t].map kV):=hp2
  refine ⟨_,_,ZgA h1,ZgA h2,.inl ⟨_,_,rfl,rfl⟩,by show Zdt _+1≤60; rw [Ze8]; decide,?_⟩
  show Q (.bl (Zdg _ _)) _
  rw [Ze5,Zl0]
  exact q _ (s1.trans s2)
 | given g t am d =>
  refine ⟨_,rfl,v,_,_,_,rfl,rfl,hV,Zae (j:=0) rfl,?_⟩
  refine ⟨_,rfl,rfl,_,rfl,Zau (by decide +kernel) ⟨_,rfl,rfl,_,rfl,Zau (by decide +kernel) ?_⟩⟩
  dsimp only [Zbu]
  refine ⟨_,rfl,rfl,_,rfl,Zau (by decide +kernel) ?_⟩
  dsimp only [Zbu]
  refine ⟨_,rfl,rfl,_,rfl,ZaR (by decide +kernel) ⟨_,rfl,_,rfl,?_⟩⟩
  dsimp only [Zdf]
  refine ⟨u,_,rfl,hU,fun H1 p1 s1 hp1=>⟨_,rfl,_,rfl,?_⟩⟩
  dsimp only [Zdf]
  refine ⟨v,_,rfl,s1.sqt hV,fun H2 p2 s2 hp2=>?_⟩
  have s12:=s1.trans s2
  have h1:SqT K H2 p1 ((x.row.take 3).map kV):=by
   have:=s2.sqt hp1
   rwa [show ZhA (x.row.map kV) none (some 3)=(x.row.take 3).map kV from ZiY x.row 3 (ZiD x)] at this
  have h2:SqT K H2 p2 ([.inr "given",.inr g,.inr t].map kV):=hp2
  refine ⟨_,_,ZgA h1,ZgA h2,.inl ⟨_,_,rfl,rfl⟩,by show Zdt _+1≤60; rw [Ze8]; decide,_,rfl,?_⟩
  show if Zdg _ _=true then _ else _
  rw [Ze5]
  have q0:=q _ s12
  by_cases c:x.row.take 3=[.inr "given",.inr g,.inr t]
  ·rw [decide_eq_true c]
   obtain ⟨am',d',rfl⟩:=Zfa c
   refine ZcF ⟨_,rfl,u,_,_,_,rfl,rfl,(s12.sqt hU),Zae (j:=4) rfl,_,rfl,v,_,_,_,rfl,rfl,(s12.sqt hV),Zae (j:=4) rfl,rfl,?_⟩
   have ee:decide ((Ent.given g t am' d').told.key=(Ent.given g t am d).told.key)=decide (V.int d'=V.int d):=by
    rw [decide_eq_decide]
    constructor
    ·intro z; have:d'=d:=by simpa [Ent.told,Ent.key] using z
     rw [this]
    ·intro z; have:=V.int.inj z
     rw [this]; rfl
   rw [ee] at q0
   exact q0
  ·rw [decide_eq_false c]
   rw [decide_eq_false (Zip am d c)] at q0
   exact Zb2 q0
 | union x1 y1 d =>
  have htie:(Ent.union x1 y1 d).tie=true:=rfl
  have kt:=fun (h:x.tie=true)=>Zlt (x:=x) (y:=.union x1 y1 d) h rfl
  refine ⟨_,rfl,v,_,_,_,rfl,rfl,hV,Zae (j:=0) rfl,?_⟩
  refine ⟨_,rfl,rfl,_,rfl,Zau (by decide +kernel) ⟨_,rfl,rfl,_,rfl,Zau (by decide +kernel) ?_⟩⟩
  dsimp only [Zbu]
  refine ⟨_,rfl,rfl,_,rfl,Zau (by decide +kernel) ?_⟩
  dsimp only [Zbu]
  refine ⟨_,rfl,rfl,_,rfl,Zau (by decide +kernel) ?_⟩
  dsimp only [Zbu]
  cases hx:x.tie with
  | false =>
   refine ⟨_,rfl,u,_,_,_,rfl,rfl,hU,ZdV x,few rfl,fun w nw=>⟨w,_,rfl,.inr (.of Zab),rfl,rfl,_,rfl,?_⟩⟩
   have q0:=q _ (Zac (o:=.tup [V.str "union",.str "parted"]) nw)
   rw [decide_eq_false (fun z=>ZhW (y:=.union x1 y1 d) hx rfl z)] at q0
   exact Zau (Zlx hx) q0
  | true =>
   obtain ⟨x2,y2,xr,xp⟩:=ZgD hx
   rw [xr] at hU
   refine ⟨_,rfl,u,_,_,_,rfl,rfl,hU,Zae (j:=0) rfl,few rfl,fun w nw=>⟨w,_,rfl,.inr (.of Zab),rfl,rfl,_,rfl,ZaR (ZnN hx) ?_⟩⟩
   have sw:=Zac (o:=.tup [V.str "union",.str "parted"]) nw
   refine ⟨_,rfl,_,rfl,_,rfl,u,_,rfl,sw.sqt hU,fun H3 p1 s1 hp1=>⟨p1,[x2,y2],rfl,hp1,by show 2<64; decide,fun F1 zs1 nF1 perm1 so1=>?_⟩⟩
   obtain rfl:=Zc5 perm1 so1
   have t1:=Zac (o:=.lst ([(Zaj x2 y2).1,(Zaj x2 y2).2].map V.str)) nF1
   refine ⟨_,rfl,_,rfl,_,rfl,v,_,rfl,(sw.trans (s1.trans t1)).sqt hV,fun H4 p2 s2 hp2=>⟨p2,[x1,y1],rfl,hp2,by show 2<64; decide,fun F3 zs3 nF3 perm3 so3=>?_⟩⟩
   obtain rfl:=Zc5 perm3 so3
   have t3:=Zac (o:=.lst ([(Zaj x1 y1).1,(Zaj x1 y1).2].map V.str)) nF3
   have s02:=sw.trans (s1.trans (t1.trans (s2.trans t3)))
   refine ⟨_,_,Zel (zs:=[(Zaj x2 y2).1,(Zaj x2 y2).2]) (.of ((s2.trans t3) _ _ Zab)),Zel (zs:=[(Zaj x1 y1).1,(Zaj x1 y1).2]) (.of Zab),.inr ⟨_,_,rfl,rfl⟩,by show Zdt _+1≤60; rw [Zgi]; decide,_,rfl,?_⟩
   show if Zdg _ _=true then _ else _
   rw [Zgl]
   have kt:=kt hx
   rw [xp] at kt
   have q0:=q _ s02
   by_cases c:Zaj x2 y2=Zaj x1 y1
   ·rw [decide_eq_true (show [(Zaj x2 y2).1,(Zaj x2 y2).2]=[(Zaj x1 y1).1,(Zaj x1 y1).2] by rw [c])]
    refine ZcF ⟨_,rfl,u,_,_,_,rfl,rfl,(s02.sqt hU),Zae (j:=3) rfl,_,rfl,v,_,_,_,rfl,rfl,(s02.sqt hV),Zae (j:=3) rfl,rfl,?_⟩
    have ee:decide (x.told.key=(Ent.union x1 y1 d).told.key)=decide (V.int x.day=V.int d):=by
     rw [decide_eq_decide]
     exact ⟨fun z=>by rw [(kt.mp z).2]; rfl,fun z=>kt.mpr ⟨c,V.int.inj z⟩⟩
    rw [ee] at q0
    exact q0
   ·rw [decide_eq_false (fun z=>c (by injection z with z1 z2; injection z2 with z3; exact Prod.ext z1 z3))]
    rw [decide_eq_false (fun z=>c (kt.mp z).1)] at q0
    exact Zb2 q0
 | parted x1 y1 d =>
  have htie:(Ent.parted x1 y1 d).tie=true:=rfl
  have kt:=fun (h:x.tie=true)=>Zlt (x:=x) (y:=.parted x1 y1 d) h rfl
  refine ⟨_,rfl,v,_,_,_,rfl,rfl,hV,Zae (j:=0) rfl,?_⟩
  refine ⟨_,rfl,rfl,_,rfl,Zau (by decide +kernel) ⟨_,rfl,rfl,_,rfl,Zau (by decide +kernel) ?_⟩⟩
  dsimp only [Zbu]
  refine ⟨_,rfl,rfl,_,rfl,Zau (by decide +kernel) ?_⟩
  dsimp only [Zbu]
  refine ⟨_,rfl,rfl,_,rfl,Zau (by decide +kernel) ?_⟩
  dsimp only [Zbu]
  cases hx:x.tie with
  | false =>
   refine ⟨_,rfl,u,_,_,_,rfl,rfl,hU,ZdV x,few rfl,fun w nw=>⟨w,_,rfl,.inr (.of Zab),rfl,rfl,_,rfl,?_⟩⟩
   have q0:=q _ (Zac (o:=.tup [V.str "union",.str "parted"]) nw)
   rw [decide_eq_false (fun z=>ZhW (y:=.parted x1 y1 d) hx rfl z)] at q0
   exact Zau (Zlx hx) q0
  | true =>
   obtain ⟨x2,y2,xr,xp⟩:=ZgD hx
   rw [xr] at hU
   refine ⟨_,rfl,u,_,_,_,rfl,rfl,hU,Zae (j:=0) rfl,few rfl,fun w nw=>⟨w,_,rfl,.inr (.of Zab),rfl,rfl,_,rfl,ZaR (ZnN hx) ?_⟩⟩
   have sw:=Zac (o:=.tup [V.str "union",.str "parted"]) nw
   refine ⟨_,rfl,_,rfl,_,rfl,u,_,rfl,sw.sqt hU,fun H3 p1 s1 hp1=>⟨p1,[x2,y2],rfl,hp1,by show 2<64; decide,fun F1 zs1 nF1 perm1 so1=>?_⟩⟩
   obtain rfl:=Zc5 perm1 so1
   have t1:=Zac (o:=.lst ([(Zaj x2 y2).1,(Zaj x2 y2).2].map V.str)) nF1
   refine ⟨_,rfl,_,rfl,_,rfl,v,_,rfl,(sw.trans (s1.trans t1)).sqt hV,fun H4 p2 s2 hp2=>⟨p2,[x1,y1],rfl,hp2,by show 2<64; decide,fun F3 zs3 nF3 perm3 so3=>?_⟩⟩
   obtain rfl:=Zc5 perm3 so3
   have t3:=Zac (o:=.lst ([(Zaj x1 y1).1,(Zaj x1 y1).2].map V.str)) nF3
   have s02:=sw.trans (s1.trans (t1.trans (s2.trans t3)))
   refine ⟨_,_,Zel (zs:=[(Zaj x2 y2).1,(Zaj x2 y2).2]) (.of ((s2.trans t3) _ _ Zab)),Zel (zs:=[(Zaj x1 y1).1,(Zaj x1 y1).2]) (.of Zab),.inr ⟨_,_,rfl,rfl⟩,by show Zdt _+1≤60; rw [Zgi]; decide,_,rfl,?_⟩
   show if Zdg _ _=true then _ else _
   rw [Zgl]
   have kt:=kt hx
   rw [xp] at kt
   have q0:=q _ s02
   by_cases c:Zaj x2 y2=Zaj x1 y1
   ·rw [decide_eq_true (show [(Zaj x2 y2).1,(Zaj x2 y2).2]=[(Zaj x1 y1).1,(Zaj x1 y1).2] by rw [c])]
    refine ZcF ⟨_,rfl,u,_,_,_,rfl,rfl,(s02.sqt hU),Zae (j:=3) rfl,_,rfl,v,_,_,_,rfl,rfl,(s02.sqt hV),Zae (j:=3) rfl,rfl,?_⟩
    have ee:decide (x.told.key=(Ent.parted x1 y1 d).told.key)=decide (V.int x.day=V.int d):=by
     rw [decide_eq_decide]
     exact ⟨fun z=>by rw [(kt.mp z).2]; rfl,fun z=>kt.mpr ⟨c,V.int.inj z⟩⟩
    rw [ee] at q0
    exact q0
   ·rw [decide_eq_false (fun z=>c (by injection z with z1 z2; injection z2 with z3; exact Prod.ext z1 z3))]
    rw [decide_eq_false (fun z=>c (kt.mp z).1)] at q0
    exact Zb2 q0
theorem Zj4 (T:Tx K w mg) (Zb7:Zed P base T):Zg0 P base T:=by
 refine Fun.okX (k:=1) T.Zb4.F Zdb (fun vs H Q E h=>h.1) (fun cdv A outer s H vs Q E hr h=>?_)
 obtain ⟨-,h⟩:=h
 obtain ⟨d,v,ks,e,rfl,hd,hR,hV,kn,q⟩:=h
 refine ⟨_, (Zag (ZaQ (Zaq Zbb (Zas Zan (pv 1) Zad (fun _ _ => rfl)) Zat (Zar _)) (Zag (Zd2 PassesOwn.leaving rfl (ZcH (Zbv (Zaa (ZaW (Zaa (Zas Zan (pv 1) Zad (fun _ _ => rfl)) (Zaa Zat Zaf))) (Zaa (ZaW (Zaa (Zas Zan (pv 1) Zad (fun _ _ => rfl)) (Zaa Zat Zaf))) Zaf)))) (Zlq rfl (Zc1 (Za2 (i := 2) Zdb.nd rfl (Or.inl rfl)) (Zc1 (Za2 (i := 3) Zdb.nd rfl (Or.inl rfl)) ZiE)))
    (Zah (ZaQ (PW.pt (Ze4 (Zaq Zij (pv 2) Zat (Zar _)) (ZdE (PW.pt (ZfJ (Zaq Zij (Zas Zan (ZeR (Zc0 hr) (pv 0) (pv 2) (fun _ _=>rfl)) Zad (fun _ _=>rfl)) (pv 3) (Zar _)) (Zet (Zaq Zi2 (Zas Zan (ZeR (Zc0 hr) (pv 0) (pv 2) (fun _ _=>rfl)) Zad (fun _ _=>rfl)) (Zas Zan (pv 1) Zad (fun _ _=>rfl)) (Zar _)))))))) (Zah (Zay ZdT)) Zav)))
   (Zah (Zay ZdT))) Zav)
   (Zag (ZaH (i:=4) Zdb.nd rfl (Or.inl rfl) (ZaB Zb7 (hr.mono (by decide)) (by rfl) T.Zbg.m T.Zbg.F.kp T.Zbg.b .nil Zak (Zaa (pv 1) Zaf)))
   (Zag (ZaQ (PW.pt (Ze4 (Zaq Zbb (ZaC ZaT (by rfl) T.n_len ZcC (Zaa (pv 4) Zaf)) Zad (Zar _)) (ZdE (Zaq Zbb (Zas Za7 (pv 4) Zad (fun _ _=>rfl)) (Zas Za7 (pv 4) Zad (fun _ _=>rfl)) (Zar _))))) (Zah (Zay ZdT)) Zav)
   (Zag (ZaQ (PW.pt (Ze4 (Zaq Zbb (Zas Zan (pv 1) Zad (fun _ _=>rfl)) Zat (Zar _)) (ZdE (Zaq Zi2 (Zas Zan (ZeR (Zc0 hr) (pv 0) (Zas Za7 (pv 4) Zad (fun _ _=>rfl)) (fun _ _=>rfl)) Zad (fun _ _=>rfl)) (Zas Zan (ZeR (Zc0 hr) (pv 0) (Zas Za7 (pv 4) Zad (fun _ _=>rfl)) (fun _ _=>rfl)) Zad (fun _ _=>rfl)) (Zar _))))) (Zah (Zay ZdT)) Zav)
   (Zah (Zay (ZaN Zo1 (ZaC (Zjm K rfl) (by rfl) T.n_max Zlk (Zaa (ZdF rfl (ZcM (N:=["_law_name","_law_births"]) ["_law_births"] [none,some 0] rfl (by decide +kernel) (by decide +kernel) (by rfl) (by rfl) (by rfl) (by rfl) (by rfl)) (ZcH (pv 4)) (fun _ _ _=>(Za2 (i:=0) ZsL rfl (Or.inl rfl))) (fun _ _ _=>ZgL) (fun _ _ _=>(Zas (Zg4 K rfl) (ZeR (Zc0 hr) (pv 1) (pv 0) (fun _ _=>rfl)) Zad (fun _ _=>rfl)))) Zaf)) (Zas Zan (pv 1) (ZaF Zke (ZaC ZaT (by rfl) T.n_len ZcC (Zaa (pv 1) Zaf)) Zad) (fun _ _=>rfl)) (Zar _)))))))),?_⟩
 have dg:∀ {H1:Hp} {n:Str} {a:Addr},Same H H1->ZcP (Bk.bornD ks) (.inr n:Key)=some (.ref a)->DGet H1 d (.str n) (some (.ref a)):=fun {H1 n a} s e=>by
  have:=DGet.k (k:=.inr n) (s _ _ hd)
  rw [e] at this
  exact this
 cases e with
 | born n s dd f m =>
  refine ⟨_,rfl,v,_,_,_,rfl,rfl,hV,Zae (j:=0) rfl,rfl,_,rfl,ZaR (by decide +kernel) ?_⟩
  refine ⟨_,rfl,v,_,_,_,rfl,rfl,hV,Zae (j:=4) rfl,few rfl,fun p1 n1=>?_⟩
  have s1:=Zac (o:=.tup [kV (.inr f),.str "he"]) n1
  refine ⟨_,rfl,v,_,_,_,rfl,rfl,(s1.sqt hV),Zae (j:=5) rfl,few rfl,fun p2 n2=>⟨few rfl,fun L nL=>?_⟩⟩
  have s2:=Zac (o:=.tup [kV (.inr m),.str "she"]) n2
  have s3:=Zac (o:=.lst [V.ref p1,.ref p2]) nL
  have g1:=(s2.trans s3) p1 _ Zab
  have g2:=s3 p2 _ Zab
  have sA:=s1.trans (s2.trans s3)
  have hL:=Zab (H:=upd (upd H p1 (.tup [kV (.inr f),.str "he"])) p2 (.tup [kV (.inr m),.str "she"])) (a:=L) (o:=.lst [V.ref p1,.ref p2])
  generalize upd (upd (upd H p1 (.tup [kV (.inr f),.str "he"])) p2 (.tup [kV (.inr m),.str "she"])) L (.lst [V.ref p1,.ref p2])=H5 at *
  have qf:=q H5 sA
  have ef:Zdy (LBk ks) (.born n s dd f m)=(Zgo (LBk ks) f "he" dd&&Zgo (LBk ks) m "she" dd):=rfl
  rw [ef] at qf
  have kn2:∀ x:Str,(x=f∨x=m)->x≠""->Known (LBk ks) x:=fun x hx ne=>kn x (List.mem_filter.mpr ⟨by rcases hx with h | h <;> simp [h],decide_eq_true ne⟩)
  refine ⟨L,rfl,⟨_,.of hL⟩,Zdx (xs:=[V.ref p1,.ref p2]) (fun i σ H6=>H6=H5∧(∃ v2 v3 v4,σ=[some (.ref d),some (.ref v),v2,v3,v4])∧(1≤i->Zgo (LBk ks) f "he" dd=true)∧(2≤i->Zgo (LBk ks) m "she" dd=true)) ?start ?sq ?turn ?done⟩
  case start=>exact ⟨rfl,⟨_,_,_,rfl⟩,fun z=>by omega,fun z=>by omega⟩
  case sq =>
   rintro i σ H6 _ ⟨rfl,_⟩
   exact .of hL
  case done =>
   rintro σ H6 ⟨rfl,_,h1,h2⟩
   rw [h1 (Nat.le_of_ble_eq_true rfl),h2 (Nat.le_of_ble_eq_true rfl)] at qf
   exact qf
  case turn =>
   rintro i x σ H6 hx ⟨rfl,⟨v2,v3,v4,rfl⟩,h1,h2⟩
   have two:∃ (nm so:Str) (p:Addr),x=.ref p∧H6 p=some (.tup [.str nm,.str so])∧(nm=f∨nm=m)∧(Zgo (LBk ks) nm so dd=true->(1≤i+1->Zgo (LBk ks) f "he" dd=true)∧(2≤i+1->Zgo (LBk ks) m "she" dd=true))∧(Zgo (LBk ks) nm so dd=false->(Zgo (LBk ks) f "he" dd&&Zgo (LBk ks) m "she" dd)=false):=by
    match i,hx with
    | 0,hx =>
     refine ⟨f,"he",p1,(Option.some.inj hx).symm,g1,.inl rfl,fun z=>⟨fun _=>z,fun z=>by omega⟩,fun z=>by rw [z]; rfl⟩
    | 1,hx =>
     refine ⟨m,"she",p2,(Option.some.inj hx).symm,g2,.inr rfl,fun z=>⟨fun _=>h1 (by decide),fun _=>z⟩,fun z=>by rw [z,Bool.and_false]⟩
    | i+2,hx=>simp at hx
   obtain ⟨nm,so,p,rfl,gp,hnm,yes,no⟩:=two
   refine ⟨p,_,rfl,.of gp,rfl,_,_,rfl,_,_,rfl,rfl,?_⟩
   refine ⟨_,rfl,rfl,_,rfl,?_⟩
   by_cases ne:nm=""
   ·have pt:Zgo (LBk ks) nm so dd=true:=by unfold Zgo; rw [decide_eq_true ne]; rfl
    obtain ⟨y1,y2⟩:=yes pt
    exact Zau (by rw [Zbm,decide_eq_true ne]; rfl) (Zb2 ⟨rfl,⟨_,_,_,rfl⟩,y1,y2⟩)
   ·obtain ⟨a,s',d',f',m',va,row,eb,ed⟩:=ZcA (kn2 nm hnm ne) hR
    have pe:Zgo (LBk ks) nm so dd=(decide (s'=so)&&decide (d'<dd)):=by unfold Zgo; rw [decide_eq_false ne,eb,ed]; rfl
    have rw6:=sA.sqt row
    have hV6:=sA.sqt hV
    refine ZaR (by rw [Zbm,decide_eq_false ne]; rfl) ?_
    refine ⟨_,rfl,_,rfl,d,.ref a,rfl,dg sA va,a,_,_,_,rfl,rfl,rw6,Zae (j:=2) rfl,_,rfl,rfl,_,rfl,?_⟩
    by_cases c1:s'=so
    ·refine Zau (by show (!decide (V.str s'=V.str so))=false; rw [Zbm,decide_eq_true c1]; rfl) ?_
     refine ⟨_,rfl,_,rfl,d,.ref a,rfl,dg sA va,a,_,_,_,rfl,rfl,rw6,Zae (j:=3) rfl,_,rfl,v,_,_,_,rfl,rfl,hV6,Zae (j:=3) rfl,_,_,rfl,rfl,_,rfl,?_⟩
     by_cases c2:d'<dd
     ·obtain ⟨y1,y2⟩:=yes (by rw [pe,decide_eq_true c1,decide_eq_true c2]; rfl)
      exact Zau (decide_eq_false (by omega)) ⟨rfl,⟨_,_,_,rfl⟩,y1,y2⟩
     ·rw [no (by rw [pe,decide_eq_false c2,Bool.and_false])] at qf
      exact ZaR (decide_eq_true (by omega)) qf
    ·rw [no (by rw [pe,decide_eq_false c1]; rfl)] at qf
     exact ZaR (by show (!decide (V.str s'=V.str so))=true; rw [Zbm,decide_eq_false c1]; rfl) (ZcF qf)
 | taken c t dd =>
  refine ⟨_,rfl,v,_,_,_,rfl,rfl,hV,Zae (j:=0) rfl,rfl,_,rfl,Zau (by decide +kernel) ?_⟩
  dsimp only [Zbu]
  refine ⟨_,rfl,rfl,.ref v,.taken c t dd,rfl,⟨v,rfl,hV⟩,fun H1 S s1 nS hS=>?_⟩
  have e0:=Zcy (B:=LBk ks) (e:=.taken c t dd) rfl
  rw [e0] at q
  refine ⟨_,rfl,S,_,rfl,.inl hS,rfl,_,rfl,ZaR (by show decide (V.int 2=V.int 2)=true; decide) ⟨_,rfl,S,_,_,_,rfl,rfl,hS,Zae (j:=0) rfl,_,rfl,S,_,_,_,rfl,rfl,hS,Zae (j:=1) rfl,rfl,_,rfl,?_⟩⟩
  by_cases ne:c=t
  ·have q0:=q _ s1
   rw [show (Ent.taken c t dd).same=true from decide_eq_true ne] at q0
   exact ZaR (decide_eq_true (by rw [ne])) q0
  refine Zau (decide_eq_false (fun z=>ne (V.str.inj z))) ?_
  dsimp only [Zbu]
  rw [show (Ent.taken c t dd).same=false from decide_eq_false ne] at q
  obtain ⟨ac,_,dc,_,_,vc,rowac,_,edc⟩:=ZcA (kn c (by simp [Ent.named])) hR
  obtain ⟨at_,_,dt,_,_,vt,rowat_,_,edt⟩:=ZcA (kn t (by simp [Ent.named])) hR
  refine ⟨_,rfl,v,_,_,_,rfl,rfl,(s1.sqt hV),Zae (j:=0) rfl,rfl,_,rfl,ZaR (by decide +kernel) ?_⟩
  refine ⟨_,rfl,_,rfl,S,_,_,_,rfl,rfl,hS,Zae (j:=1) rfl,d,.ref at_,rfl,dg s1 vt,at_,_,_,_,rfl,rfl,s1.sqt rowat_,Zae (j:=3) rfl,_,rfl,_,rfl,S,_,_,_,rfl,rfl,hS,Zae (j:=0) rfl,d,.ref ac,rfl,dg s1 vc,ac,_,_,_,rfl,rfl,s1.sqt rowac,Zae (j:=3) rfl,_,_,rfl,rfl,_,rfl,?_⟩
  have ee:(Ent.taken c t dd).early (LBk ks)=decide (dc≤dt):=by show decide (Zc9 (LBk ks) c≤Zc9 (LBk ks) t)=_; rw [edc,edt]
  rw [ee] at q
  by_cases le:dc≤dt
  ·have q0:=q _ s1
   rw [decide_eq_true le] at q0
   exact ZaR (decide_eq_true le) q0
  rw [decide_eq_false le] at q
  refine Zau (decide_eq_false le) ?_
  dsimp only [Zbu]
  have q9:∀ H',Same H H'->Q (.bl ([c,t].all fun n=>decide (Zc9 (LBk ks) n≤dd))) H':=q
  have hS':SqL K H1 S ([c,t].map V.str):=hS
  have kn':∀ z9∈[c,t],Known (LBk ks) z9:=kn
  clear q kn hS
  refine ⟨_,rfl,S,rfl,⟨_,hS'⟩,Zcv (([c,t].map (Zc9 (LBk ks))).map V.int) (Zam (by simp)) (fun σ=>∃ w,σ=[w,some (.ref d)]) ⟨_,rfl⟩ (fun i H3 hi sm=>?go) (fun H3 sm=>?stop) (fun i σ H3 x H4 y hy hσ sm hx C hC=>?step) (fun D2 H3 nD2 sm hD2=>?fin)⟩
  case go=>exact ⟨_,_,sm.sql hS',List.getElem?_eq_getElem (by simp at hi ⊢; omega)⟩
  case stop=>exact ⟨_,sm.sql hS',by simp⟩
  case step =>
   obtain ⟨w,rfl⟩:=hσ
   obtain ⟨rfl,hx⟩:=hx
   have h1:=hx _ (sm.sql hS')
   rw [List.getElem?_map] at h1
   obtain ⟨z,hz,rfl⟩:=Option.map_eq_some_iff.mp h1
   rw [List.getElem?_map,List.getElem?_map,hz] at hy
   cases hy
   obtain ⟨a9,_,d9,_,_,v9,row9,_,ed9⟩:=ZcA (kn' z (List.mem_of_getElem? hz)) hR
   have sz:=s1.trans sm
   rw [ed9] at hC
   exact ⟨_,rfl,_,rfl,d,.ref a9,rfl,dg sz v9,a9,_,_,_,rfl,rfl,sz.sqt row9,Zae (j:=3) rfl,hC _ _ ⟨_,rfl⟩ (Same.refl _)⟩
  case fin =>
   have sz:=s1.trans sm
   refine ⟨D2,_,rfl,.of hD2,by simp,fun mx hmx hxx=>?_⟩
   refine ⟨_,rfl,_,rfl,v,_,rfl,.inr (sz.sqt hV),_,_,rfl,rfl,v,_,_,_,rfl,rfl,sz.sqt hV,(show atI _ ((3:Nat):Int)=_ from Zae rfl),_,_,rfl,rfl,?_⟩
   have q8:=q9 _ sz
   rw [← Zhh hmx hxx] at q8
   exact q8
 | dead n dd =>
  refine ⟨_,rfl,v,_,_,_,rfl,rfl,hV,Zae (j:=0) rfl,rfl,_,rfl,Zau (by decide +kernel) ?_⟩
  dsimp only [Zbu]
  refine ⟨_,rfl,rfl,.ref v,.dead n dd,rfl,⟨v,rfl,hV⟩,fun H1 S s1 nS hS=>?_⟩
  have e0:=Zcy (B:=LBk ks) (e:=.dead n dd) rfl
  rw [e0] at q
  refine ⟨_,rfl,S,_,rfl,.inl hS,rfl,_,rfl,Zau (by show decide (V.int 1=V.int 2)=false; decide) (Zb2 ?_)⟩
  dsimp only [Zbu]
  rw [show (Ent.dead n dd).same=false from rfl] at q
  refine ⟨_,rfl,v,_,_,_,rfl,rfl,(s1.sqt hV),Zae (j:=0) rfl,rfl,_,rfl,Zau (by decide +kernel) (Zb2 ?_)⟩
  dsimp only [Zbu]
  rw [show (Ent.dead n dd).early (LBk ks)=false from rfl] at q
  have q9:∀ H',Same H H'->Q (.bl ([n].all fun n=>decide (Zc9 (LBk ks) n≤dd))) H':=q
  have hS':SqL K H1 S ([n].map V.str):=hS
  have kn':∀ z9∈[n],Known (LBk ks) z9:=kn
  clear q kn hS
  refine ⟨_,rfl,S,rfl,⟨_,hS'⟩,Zcv (([n].map (Zc9 (LBk ks))).map V.int) (Zam (by simp)) (fun σ=>∃ w,σ=[w,some (.ref d)]) ⟨_,rfl⟩ (fun i H3 hi sm=>?go) (fun H3 sm=>?stop) (fun i σ H3 x H4 y hy hσ sm hx C hC=>?step) (fun D2 H3 nD2 sm hD2=>?fin)⟩
  case go=>exact ⟨_,_,sm.sql hS',List.getElem?_eq_getElem (by simp at hi ⊢; omega)⟩
  case stop=>exact ⟨_,sm.sql hS',by simp⟩
  case step =>
   obtain ⟨w,rfl⟩:=hσ
   obtain ⟨rfl,hx⟩:=hx
   have h1:=hx _ (sm.sql hS')
   rw [List.getElem?_map] at h1
   obtain ⟨z,hz,rfl⟩:=Option.map_eq_some_iff.mp h1
   rw [List.getElem?_map,List.getElem?_map,hz] at hy
   cases hy
   obtain ⟨a9,_,d9,_,_,v9,row9,_,ed9⟩:=ZcA (kn' z (List.mem_of_getElem? hz)) hR
   have sz:=s1.trans sm
   rw [ed9] at hC
   exact ⟨_,rfl,_,rfl,d,.ref a9,rfl,dg sz v9,a9,_,_,_,rfl,rfl,sz.sqt row9,Zae (j:=3) rfl,hC _ _ ⟨_,rfl⟩ (Same.refl _)⟩
  case fin =>
   have sz:=s1.trans sm
   refine ⟨D2,_,rfl,.of hD2,by simp,fun mx hmx hxx=>?_⟩
   refine ⟨_,rfl,_,rfl,v,_,rfl,.inr (sz.sqt hV),_,_,rfl,rfl,v,_,_,_,rfl,rfl,sz.sqt hV,(show atI _ ((2:Nat):Int)=_ from Zae rfl),_,_,rfl,rfl,?_⟩
   have q8:=q9 _ sz
   rw [← Zhh hmx hxx] at q8
   exact q8
 | union x y dd =>
  refine ⟨_,rfl,v,_,_,_,rfl,rfl,hV,Zae (j:=0) rfl,rfl,_,rfl,Zau (by decide +kernel) ?_⟩
  dsimp only [Zbu]
  refine ⟨_,rfl,rfl,.ref v,.union x y dd,rfl,⟨v,rfl,hV⟩,fun H1 S s1 nS hS=>?_⟩
  have e0:=Zcy (B:=LBk ks) (e:=.union x y dd) rfl
  rw [e0] at q
  refine ⟨_,rfl,S,_,rfl,.inl hS,rfl,_,rfl,ZaR (by show decide (V.int 2=V.int 2)=true; decide) ⟨_,rfl,S,_,_,_,rfl,rfl,hS,Zae (j:=0) rfl,_,rfl,S,_,_,_,rfl,rfl,hS,Zae (j:=1) rfl,rfl,_,rfl,?_⟩⟩
  by_cases ne:x=y
  ·have q0:=q _ s1
   rw [show (Ent.union x y dd).same=true from decide_eq_true ne] at q0
   exact ZaR (decide_eq_true (by rw [ne])) q0
  refine Zau (decide_eq_false (fun z=>ne (V.str.inj z))) ?_
  dsimp only [Zbu]
  rw [show (Ent.union x y dd).same=false from decide_eq_false ne] at q
  refine ⟨_,rfl,v,_,_,_,rfl,rfl,(s1.sqt hV),Zae (j:=0) rfl,rfl,_,rfl,Zau (by decide +kernel) (Zb2 ?_)⟩
  dsimp only [Zbu]
  rw [show (Ent.union x y dd).early (LBk ks)=false from rfl] at q
  have q9:∀ H',Same H H'->Q (.bl ([x,y].all fun n=>decide (Zc9 (LBk ks) n≤dd))) H':=q
  have hS':SqL K H1 S ([x,y].map V.str):=hS
  have kn':∀ z9∈[x,y],Known (LBk ks) z9:=kn
  clear q kn hS
  refine ⟨_,rfl,S,rfl,⟨_,hS'⟩,Zcv (([x,y].map (Zc9 (LBk ks))).map V.int) (Zam (by simp)) (fun σ=>∃ w,σ=[w,some (.ref d)]) ⟨_,rfl⟩ (fun i H3 hi sm=>?go) (fun H3 sm=>?stop) (fun i σ H3 x H4 y hy hσ sm hx C hC=>?step) (fun D2 H3 nD2 sm hD2=>?fin)⟩
  case go=>exact ⟨_,_,sm.sql hS',List.getElem?_eq_getElem (by simp at hi ⊢; omega)⟩
  case stop=>exact ⟨_,sm.sql hS',by simp⟩
  case step =>
   obtain ⟨w,rfl⟩:=hσ
   obtain ⟨rfl,hx⟩:=hx
   have h1:=hx _ (sm.sql hS')
   rw [List.getElem?_map] at h1
   obtain ⟨z,hz,rfl⟩:=Option.map_eq_some_iff.mp h1
   rw [List.getElem?_map,List.getElem?_map,hz] at hy
   cases hy
   obtain ⟨a9,_,d9,_,_,v9,row9,_,ed9⟩:=ZcA (kn' z (List.mem_of_getElem? hz)) hR
   have sz:=s1.trans sm
   rw [ed9] at hC
   exact ⟨_,rfl,_,rfl,d,.ref a9,rfl,dg sz v9,a9,_,_,_,rfl,rfl,sz.sqt row9,Zae (j:=3) rfl,hC _ _ ⟨_,rfl⟩ (Same.refl _)⟩
  case fin =>
   have sz:=s1.trans sm
   refine ⟨D2,_,rfl,.of hD2,by simp,fun mx hmx hxx=>?_⟩
   refine ⟨_,rfl,_,rfl,v,_,rfl,.inr (sz.sqt hV),_,_,rfl,rfl,v,_,_,_,rfl,rfl,sz.sqt hV,(show atI _ ((3:Nat):Int)=_ from Zae rfl),_,_,rfl,rfl,?_⟩
   have q8:=q9 _ sz
   rw [← Zhh hmx hxx] at q8
   exact q8
 | parted x y dd =>
  refine ⟨_,rfl,v,_,_,_,rfl,rfl,hV,Zae (j:=0) rfl,rfl,_,rfl,Zau (by decide +kernel) ?_⟩
  dsimp only [Zbu]
  refine ⟨_,rfl,rfl,.ref v,.parted x y dd,rfl,⟨v,rfl,hV⟩,fun H1 S s1 nS hS=>?_⟩
  have e0:=Zcy (B:=LBk ks) (e:=.parted x y dd) rfl
  rw [e0] at q
  refine ⟨_,rfl,S,_,rfl,.inl hS,rfl,_,rfl,ZaR (by show decide (V.int 2=V.int 2)=true; decide) ⟨_,rfl,S,_,_,_,rfl,rfl,hS,Zae (j:=0) rfl,_,rfl,S,_,_,_,rfl,rfl,hS,Zae (j:=1) rfl,rfl,_,rfl,?_⟩⟩
  by_cases ne:x=y
  ·have q0:=q _ s1
   rw [show (Ent.parted x y dd).same=true from decide_eq_true ne] at q0
   exact ZaR (decide_eq_true (by rw [ne])) q0
  refine Zau (decide_eq_false (fun z=>ne (V.str.inj z))) ?_
  dsimp only [Zbu]
  rw [show (Ent.parted x y dd).same=false from decide_eq_false ne] at q
  refine ⟨_,rfl,v,_,_,_,rfl,rfl,(s1.sqt hV),Zae (j:=0) rfl,rfl,_,rfl,Zau (by decide +kernel) (Zb2 ?_)⟩
  dsimp only [Zbu]
  rw [show (Ent.parted x y dd).early (LBk ks)=false from rfl] at q
  have q9:∀ H',Same H H'->Q (.bl ([x,y].all fun n=>decide (Zc9 (LBk ks) n≤dd))) H':=q
  have hS':SqL K H1 S ([x,y].map V.str):=hS
  have kn':∀ z9∈[x,y],Known (LBk ks) z9:=kn
  clear q kn hS
  refine ⟨_,rfl,S,rfl,⟨_,hS'⟩,Zcv (([x,y].map (Zc9 (LBk ks))).map V.int) (Zam (by simp)) (fun σ=>∃ w,σ=[w,some (.ref d)]) ⟨_,rfl⟩ (fun i H3 hi sm=>?go) (fun H3 sm=>?stop) (fun i σ H3 x H4 y hy hσ sm hx C hC=>?step) (fun D2 H3 nD2 sm hD2=>?fin)⟩
  case go=>exact ⟨_,_,sm.sql hS',List.getElem?_eq_getElem (by simp at hi ⊢; omega)⟩
  case stop=>exact ⟨_,sm.sql hS',by simp⟩
  case step =>
   obtain ⟨w,rfl⟩:=hσ
   obtain ⟨rfl,hx⟩:=hx
   have h1:=hx _ (sm.sql hS')
   rw [List.getElem?_map] at h1
   obtain ⟨z,hz,rfl⟩:=Option.map_eq_some_iff.mp h1
   rw [List.getElem?_map,List.getElem?_map,hz] at hy
   cases hy
   obtain ⟨a9,_,d9,_,_,v9,row9,_,ed9⟩:=ZcA (kn' z (List.mem_of_getElem? hz)) hR
   have sz:=s1.trans sm
   rw [ed9] at hC
   exact ⟨_,rfl,_,rfl,d,.ref a9,rfl,dg sz v9,a9,_,_,_,rfl,rfl,sz.sqt row9,Zae (j:=3) rfl,hC _ _ ⟨_,rfl⟩ (Same.refl _)⟩
  case fin =>
   have sz:=s1.trans sm
   refine ⟨D2,_,rfl,.of hD2,by simp,fun mx hmx hxx=>?_⟩
   refine ⟨_,rfl,_,rfl,v,_,rfl,.inr (sz.sqt hV),_,_,rfl,rfl,v,_,_,_,rfl,rfl,sz.sqt hV,(show atI _ ((3:Nat):Int)=_ from Zae rfl),_,_,rfl,rfl,?_⟩
   have q8:=q9 _ sz
   rw [← Zhh hmx hxx] at q8
   exact q8
 | given x y am dd =>
  refine ⟨_,rfl,v,_,_,_,rfl,rfl,hV,Zae (j:=0) rfl,rfl,_,rfl,Zau (by decide +kernel) ?_⟩
  dsimp only [Zbu]
  refine ⟨_,rfl,rfl,.ref v,.given x y am dd,rfl,⟨v,rfl,hV⟩,fun H1 S s1 nS hS=>?_⟩
  have e0:=Zcy (B:=LBk ks) (e:=.given x y am dd) rfl
  rw [e0] at q
  refine ⟨_,rfl,S,_,rfl,.inl hS,rfl,_,rfl,ZaR (by show decide (V.int 2=V.int 2)=true; decide) ⟨_,rfl,S,_,_,_,rfl,rfl,hS,Zae (j:=0) rfl,_,rfl,S,_,_,_,rfl,rfl,hS,Zae (j:=1) rfl,rfl,_,rfl,?_⟩⟩
  by_cases ne:x=y
  ·have q0:=q _ s1
   rw [show (Ent.given x y am dd).same=true from decide_eq_true ne] at q0
   exact ZaR (decide_eq_true (by rw [ne])) q0
  refine Zau (decide_eq_false (fun z=>ne (V.str.inj z))) ?_
  dsimp only [Zbu]
  rw [show (Ent.given x y am dd).same=false from decide_eq_false ne] at q
  refine ⟨_,rfl,v,_,_,_,rfl,rfl,(s1.sqt hV),Zae (j:=0) rfl,rfl,_,rfl,Zau (by decide +kernel) (Zb2 ?_)⟩
  dsimp only [Zbu]
  rw [show (Ent.given x y am dd).early (LBk ks)=false from rfl] at q
  have q9:∀ H',Same H H'->Q (.bl ([x,y].all fun n=>decide (Zc9 (LBk ks) n≤dd))) H':=q
  have hS':SqL K H1 S ([x,y].map V.str):=hS
  have kn':∀ z9∈[x,y],Known (LBk ks) z9:=kn
  clear q kn hS
  refine ⟨_,rfl,S,rfl,⟨_,hS'⟩,Zcv (([x,y].map (Zc9 (LBk ks))).map V.int) (Zam (by simp)) (fun σ=>∃ w,σ=[w,some (.ref d)]) ⟨_,rfl⟩ (fun i H3 hi sm=>?go) (fun H3 sm=>?stop) (fun i σ H3 x H4 y hy hσ sm hx C hC=>?step) (fun D2 H3 nD2 sm hD2=>?fin)⟩
  case go=>exact ⟨_,_,sm.sql hS',List.getElem?_eq_getElem (by simp at hi ⊢; omega)⟩
  case stop=>exact ⟨_,sm.sql hS',by simp⟩
  case step =>
   obtain ⟨w,rfl⟩:=hσ
   obtain ⟨rfl,hx⟩:=hx
   have h1:=hx _ (sm.sql hS')
   rw [List.getElem?_map] at h1
   obtain ⟨z,hz,rfl⟩:=Option.map_eq_some_iff.mp h1
   rw [List.getElem?_map,List.getElem?_map,hz] at hy
   cases hy
   obtain ⟨a9,_,d9,_,_,v9,row9,_,ed9⟩:=ZcA (kn' z (List.mem_of_getElem? hz)) hR
   have sz:=s1.trans sm
   rw [ed9] at hC
   exact ⟨_,rfl,_,rfl,d,.ref a9,rfl,dg sz v9,a9,_,_,_,rfl,rfl,sz.sqt row9,Zae (j:=3) rfl,hC _ _ ⟨_,rfl⟩ (Same.refl _)⟩
  case fin =>
   have sz:=s1.trans sm
   refine ⟨D2,_,rfl,.of hD2,by simp,fun mx hmx hxx=>?_⟩
   refine ⟨_,rfl,_,rfl,v,_,rfl,.inr (sz.sqt hV),_,_,rfl,rfl,v,_,_,_,rfl,rfl,sz.sqt hV,(show atI _ ((4:Nat):Int)=_ from Zae rfl),_,_,rfl,rfl,?_⟩
   have q8:=q9 _ sz
   rw [← Zhh hmx hxx] at q8
   exact q8
theorem ZkZ (T:Tx K w mg) (Zb7:Zed P base T) (Zex:ZgQ P base T) (ZeW:Zg0 P base T):Zh4 P base T:=by
 refine Fun.okX (k:=2) T.ZbD.F ZdC (fun vs H Q E h=>h.1) (fun cdv A outer s H vs Q E hr h=>?_)
 obtain ⟨-,h⟩:=h
 obtain ⟨L,v,r,rfl,q0,h⟩:=h
 refine ⟨_, (Zag (ZaQ (Zdn (ZcJ (pv 2))) (Zah (Zay Zad)) Zav)
   (Zag (ZaH (i:=3) ZdC.nd rfl (Or.inl rfl) (ZgE (Zmk K rfl) (by rfl) T.n_dict ZpK (Zaa (ZdF rfl (ZcM (N:=["_law_row"]) [] [none] rfl (by decide +kernel) (by decide +kernel) (by rfl) (by rfl) (by rfl) (by rfl) (by rfl)) (ZcH (pv 0)) (fun _ _ _=>(Za2 (i:=0) Zsb rfl (Or.inl rfl))) (fun _ _ _=>(ZfE (Zaq Zbb (Zas (Zg4 K rfl) (pv 0) Zad (fun _ _=>rfl)) Zat (Zar _)))) (fun _ _ _=>(ZaW (Zaa (Zas (Zg4 K rfl) (pv 0) Zad (fun _ _=>rfl)) (Zaa (pv 0) Zaf))))) Zaf)))
   (Zag (Zd2 PassesOwn.leaving rfl (ZcH (ZaB Zb7 (hr.mono (by decide)) (by rfl) T.Zbg.m T.Zbg.F.kp T.Zbg.b .nil Zak (Zaa (pv 1) Zaf))) (Za2 (i:=4) ZdC.nd rfl (Or.inl rfl))
    (Zah (ZaQ (Zns (Zjo (Zc0 hr) (pv 4) (pv 3))) (Zah (Zay Zad)) Zav)))
   (Zag (Zd2 PassesOwn.leaving rfl (ZcH (pv 0)) (Za2 (i:=5) ZdC.nd rfl (Or.inl rfl))
    (Zah (ZaQ (ZcJ (ZaB Zex (hr.mono (by decide)) (by rfl) T.Zb3.m T.Zb3.F.kp T.Zb3.b .nil Zak (Zaa (pv 5) (Zaa (pv 1) Zaf)))) (Zah (Zay Zad)) Zav)))
   (Zag (ZaQ (Zdn (ZcJ (ZaB ZeW (hr.mono (by decide)) (by rfl) T.Zb4.m T.Zb4.F.kp T.Zb4.b .nil Zak (Zaa (pv 3) (Zaa (pv 1) Zaf))))) (Zah (Zay Zad)) Zav)
   (Zah (Zay (ZqS Zpf Zad)))))))),?_⟩
 cases r with
 | false=>exact ⟨_,rfl,_,rfl,ZcF (q0 rfl)⟩
 | true =>
 obtain ⟨ks,e,a,rfl,hE,hL,hR,ok,nb,q⟩:=h rfl
 refine ⟨_,rfl,_,rfl,Zb2 ?_⟩
 dsimp only [Zbu]
 have kl:=ok.len
 have fu:=Zhm ok nb
 refine ⟨_,rfl,L,rfl,⟨_,hL⟩,ZmS (ks.map Zjq) (fun p H v=>∃ t,v=.ref t∧SqT K H t [.str p.1,.ref p.2]) ?mono (Zam (by rw [List.length_map]; omega)) (fun σ=>∃ w,σ=[w]) ⟨_,rfl⟩ (fun j H4 hj sm=>?go) (fun H4 sm=>?stop) (fun j σ H4 x H5 z hz hσ sm hx C hC1 hC2=>?step) (fun F2 ys H2 nF2 s2 hF2 yl hP=>?fin)⟩
 case mono =>
  rintro p Ha Hb v Dx xs ⟨t,rfl,ht⟩ hDx bt
  refine ⟨t,rfl,?_⟩
  rcases ht with (ht | ⟨o,ht⟩) | ht
  ·exact .inl (.inl (bt _ _ (Za8 ht hDx (fun z=>by cases z)) ht))
  ·exact .inl (.inr ⟨o,bt _ _ (Za8 ht hDx (fun z=>by cases z)) ht⟩)
  ·exact .inr ht
 case go=>exact ⟨_,_,sm.sql hL,List.getElem?_eq_getElem (by rw [ZaX]; rw [List.length_map] at hj; exact hj)⟩
 case stop=>exact ⟨_,sm.sql hL,by rw [ZaX,List.length_map]; exact Nat.le_refl _⟩
 case step =>
  obtain ⟨w,rfl⟩:=hσ
  obtain ⟨rfl,hx2⟩:=hx
  obtain ⟨p,hp,rfl⟩:=Zht (hx2 _ (sm.sql hL))
  have pm:=List.mem_of_getElem? hp
  rw [List.getElem?_map,hp] at hz
  obtain rfl:Zjq p=z:=Option.some.inj hz
  have hp2:=sm.sqt (hR p pm)
  obtain ⟨x,u⟩:=p
  refine ⟨_,rfl,u,_,_,_,rfl,rfl,hp2,ZdV x,rfl,_,rfl,?_⟩
  cases x with
  | born n s d f m =>
   refine ZaR (by show decide (V.str "born"=V.str "born")=true; decide +kernel) ⟨_,rfl,u,_,_,_,rfl,rfl,hp2,Zae (j:=1) rfl,_,rfl,few rfl,fun t nt=>?_⟩
   exact hC2 (n,u) rfl _ _ _ ⟨_,rfl⟩ (Zac nt) ⟨t,rfl,.of Zab⟩
  | taken c1 t1 d1=>exact Zau (by show decide (V.str "taken"=V.str "born")=false; decide +kernel) (hC1 rfl _ _ ⟨_,rfl⟩ (Same.refl _))
  | union x1 y1 d1=>exact Zau (by show decide (V.str "union"=V.str "born")=false; decide +kernel) (hC1 rfl _ _ ⟨_,rfl⟩ (Same.refl _))
  | parted x1 y1 d1=>exact Zau (by show decide (V.str "parted"=V.str "born")=false; decide +kernel) (hC1 rfl _ _ ⟨_,rfl⟩ (Same.refl _))
  | dead n1 d1=>exact Zau (by show decide (V.str "dead"=V.str "born")=false; decide +kernel) (hC1 rfl _ _ ⟨_,rfl⟩ (Same.refl _))
  | given g1 t1 a1 d1=>exact Zau (by show decide (V.str "given"=V.str "born")=false; decide +kernel) (hC1 rfl _ _ ⟨_,rfl⟩ (Same.refl _))
 case fin =>
  have ms:=ZmO ks
  have mn:=Zkv ks
  obtain ⟨ps,ey,e2,ht⟩:=Zmh (K:=K) yl hP
  subst ey
  have pn:(ps.map (·.2.1)).Nodup:=by
   have e3:ps.map (·.2.1)=(ps.map (·.2)).map (·.1):=by rw [List.map_map]; rfl
   have e4:(((ks.map Zjq).filterMap id).map fun q=>(q.1,V.ref q.2)).map (·.1)=((ks.map Zjq).filterMap id).map (·.1):=by rw [List.map_map]; rfl
   rw [e3,e2,e4,mn]
   exact ok.nd
  have pd:(ps.map fun p=>((.inr p.2.1:Key),p.2.2))=Bk.bornD ks:=by
   have e3:(ps.map fun p=>((.inr p.2.1:Key),p.2.2))=(ps.map (·.2)).map (fun q=>((.inr q.1:Key),q.2)):=by rw [List.map_map]; rfl
   rw [e3,e2,List.map_map,← ms]
   rfl
  refine ⟨F2,ps,rfl,.of hF2,ht,pn,fun d nd=>?_⟩
  rw [pd]
  have sD:=Zac (o:=.dK (Bk.bornD ks)) nd
  have hd:upd H2 d (.dK (Bk.bornD ks)) d=some (.dK (Bk.bornD ks)):=Zab
  have s3:=s2.trans sD
  generalize upd H2 d (.dK (Bk.bornD ks))=H3 at *
  refine ⟨_,rfl,rfl,.ref a,e,rfl,⟨a,rfl,s3.sqt hE⟩,fun H4 N s4 nN hN=>?_⟩
  have s34:=s3.trans s4
  refine ⟨N,rfl,⟨_,hN⟩,Zdx (xs:=e.named.map V.str) (fun i σ H5=>H5=H4∧(∃ v4 v5,σ=[some (.ref L),some (.ref a),some (.bl true),some (.ref d),v4,v5])∧∀ n∈e.named.take i,Known (LBk ks) n) ?start ?sq ?turn ?done⟩
  case start=>exact ⟨rfl,⟨_,_,rfl⟩,fun n hn=>by simp at hn⟩
  case sq =>
   rintro i σ H5 _ ⟨rfl,_⟩
   exact hN
  case turn =>
   rintro i x σ H5 hx ⟨rfl,⟨v4,v5,rfl⟩,al⟩
   rw [List.getElem?_map] at hx
   obtain ⟨n,hn,rfl⟩:=Option.map_eq_some_iff.mp hx
   have nm:=List.mem_of_getElem? hn
   have dg:=DGet.k (k:=.inr n) (s4 _ _ hd)
   rw [Ze9] at dg
   cases hb:ZaD n ks with
   | none =>
    rw [hb] at dg
    have q1:=q _ s34
    rw [Zhd (B:=LBk ks) fu nm hb] at q1
    exact ⟨_,rfl,_,rfl,d,_,rfl,dg,_,rfl,ZcF q1⟩
   | some p =>
    rw [hb] at dg
    refine ⟨_,rfl,_,rfl,d,_,rfl,dg,_,rfl,Zb2 ⟨rfl,⟨_,_,rfl⟩,fun n' hn'=>?_⟩⟩
    rw [List.take_succ,hn] at hn'
    rcases List.mem_append.mp hn' with h | h
    ·exact al n' h
    ·have:n'=n:=by simpa using h
     rw [this]
     show ZaD n ks≠none
     rw [hb]
     simp
  case done =>
   rintro σ H5 ⟨rfl,⟨v4,v5,rfl⟩,al⟩
   rw [List.length_map,List.take_length] at al
   refine ⟨_,rfl,L,rfl,⟨_,s34.sql hL⟩,Zdx (xs:=Zaz ks) (fun i σ H6=>Same H5 H6∧(∃ v5,σ=[some (.ref L),some (.ref a),some (.bl true),some (.ref d),v4,v5])∧∀ p∈ks.take i,p.1.key≠e.told.key) ?start2 ?sq2 ?turn2 ?done2⟩
   case start2=>exact ⟨Same.refl _,⟨_,rfl⟩,fun n hn=>by simp at hn⟩
   case sq2 =>
    rintro i σ H6 _ ⟨s6,_⟩
    exact s6.sql (s34.sql hL)
   case turn2 =>
    rintro i x σ H6 hx ⟨s6,⟨v5,rfl⟩,al2⟩
    obtain ⟨p,hp,rfl⟩:=Zht hx
    have pm:=List.mem_of_getElem? hp
    have s36:=s34.trans s6
    refine ⟨_,rfl,_,rfl,rfl,p.2,a,p.1,e,rfl,s36.sqt (hR p pm),s36.sqt hE,fun H7 s7=>⟨_,rfl,?_⟩⟩
    rw [ok.told p pm]
    by_cases c:p.1.key=e.told.key
    ·have q1:=q _ (s36.trans s7)
     rw [Zh0 (B:=LBk ks) fu al (Zm1 ⟨p,pm,c⟩)] at q1
     exact ZaR (decide_eq_true c) q1
    ·refine Zau (decide_eq_false c) ⟨s6.trans s7,⟨_,rfl⟩,fun p' hp'=>?_⟩
     rw [Zkk hp] at hp'
     rcases List.mem_append.mp hp' with h | h
     ·exact al2 p' h
     ·have:p'=p:=by simpa using h
      rw [this]; exact c
   case done2 =>
    rintro σ H6 ⟨s6,⟨v5,rfl⟩,al2⟩
    rw [ZaX,List.take_length] at al2
    have s36:=s34.trans s6
    have kno:(ZcP (LBk ks).keptD e.told.key).isSome=false:=by
     rw [ZoL (B:=LBk ks) (es:=ks.map (·.1)) rfl (fun x hx=>by obtain ⟨p,hp,rfl⟩:=List.mem_map.mp hx; exact al2 p hp)]
     rfl
    refine ⟨_,rfl,_,rfl,rfl,d,a,ks,e,rfl,s6 _ _ (s4 _ _ hd),hR.mono s36,s36.sqt hE,al,fun H7 s7=>⟨_,rfl,?_⟩⟩
    have q1:=q _ (s36.trans s7)
    cases hf:Zdy (LBk ks) e with
    | false =>
     rw [ZlH fu al kno hf] at q1
     exact ZcF q1
    | true =>
     rw [ZjV fu al kno hf] at q1
     exact Zb2 ⟨_,rfl,q1⟩
theorem ZiP (T:Tx K w mg) (ZfC:ZhY P base T):Zf2 P base T:=by
 refine Fun.okX (k:=6) T.ZbJ.F Zcc (fun vs H Q E h=>h.1) (fun cdv A outer s H vs Q E hr h=>?_)
 obtain ⟨-,h⟩:=h
 obtain ⟨b,dx,k,bi,li,ti,su,B,x,rfl,hB,h⟩:=h
 refine ⟨_, (Zag (ZaH (i := 2) Zcc.nd rfl (Or.inl rfl) (Zbv Zaf))
   (Zag (Zmw rfl rfl (by rfl) T.m_HeirError T.x_HeirError EBb (i:=3) Zcc.nd rfl rfl (fun pins W E hE=>(Zah (Zbq (ZaG (pv 0) T.cl_Book T.ZcO.me ZfC (hr.mono (by decide)) T.ZcO.b .nil hE (Zaa (pv 1) Zaf))))) (fun pins e=>(Zag (ZaH (i:=2) Zcc.nd rfl (Or.inl rfl) (Zbv (Zaa (Zc3 K (by rfl) T.n_isinstance (Zaa (pv 3) (Zaa (Zdd (v:=.ref T.c_NoEntry) (by rfl) T.m_NoEntry rfl) Zaf))) (Zaa (Zc3 K (by rfl) T.n_isinstance (Zaa (pv 3) (Zaa (Zdd (v:=.ref T.c_Full) (by rfl) T.m_Full rfl) Zaf))) (Zaa (Zc3 K (by rfl) T.n_isinstance (Zaa (pv 3) (Zaa (Zdd (v:=.ref T.c_NoPerson) (by rfl) T.m_NoPerson rfl) Zaf))) Zaf)))))
   (Zah (ZaH (i:=2) Zcc.nd rfl (Or.inl rfl) (ZaF Znq (pv 2) (Zbv (Zaa (Zc3 K (by rfl) T.n_isinstance (Zaa (pv 3) (Zaa (Zdd (v:=.ref T.c_Twice) (by rfl) T.m_Twice rfl) Zaf))) (Zaa (Zc3 K (by rfl) T.n_isinstance (Zaa (pv 3) (Zaa (Zdd (v:=.ref T.c_NoFit) (by rfl) T.m_NoFit rfl) Zaf))) Zaf)))))))))
   (Zah (Zay (pv 2))))),?_⟩
 refine ⟨few rfl,fun M0 nM=>?_⟩
 have s0:=Zac (o:=.lst []) nM
 have hB0:=hB.mono s0
 dsimp only [ZiJ,ZrM]
 rcases h with ⟨bad,q⟩ | ⟨e0,hx,ok,⟨r0,hf,q⟩ | ⟨hn,rm,q⟩⟩
 ·refine ZfL (fun c=>c=T.c_NoEntry) [some (.ref b),some x,some (.ref M0),none] (fun c z=>by rw [z]; exact T.mr_NoEntry) (fun c H1 e z s1 he=>?_) (fun E' caught=>?_)
  ·subst z
   refine ⟨_,rfl,_,.ref T.c_NoEntry,_,_,rfl,rfl,.exc T.e_NoEntry Zab,T.kx_NoEntry_NoEntry,_,rfl,_,.ref T.c_Full,_,_,rfl,rfl,.exc T.e_NoEntry Zab,T.kx_NoEntry_Full,_,rfl,_,.ref T.c_NoPerson,_,_,rfl,rfl,.exc T.e_NoEntry Zab,T.kx_NoEntry_NoPerson,few rfl,fun L1 n1=>?_⟩
   have t1:=Zac (o:=.lst [V.bl true,.bl false,.bl false]) n1
   have te:=t1 _ _ (Zab (H:=H1) (a:=e) (o:=Zkq (.ref T.c_NoEntry) e))
   refine ⟨_,rfl,_,rfl,_,.ref T.c_Twice,_,_,rfl,rfl,.exc T.e_NoEntry te,T.kx_NoEntry_Twice,_,rfl,_,.ref T.c_NoFit,_,_,rfl,rfl,.exc T.e_NoEntry te,T.kx_NoEntry_NoFit,few rfl,fun L2 n2=>?_⟩
   have t2:=Zac (o:=.lst [V.bl false,.bl false]) n2
   refine ⟨L1,L2,_,_,rfl,rfl,t2 _ _ Zab,Zab,few rfl,fun L3 n3=>?_⟩
   have sE:=s0.trans (s1.trans (Zac (o:=Zkq (.ref T.c_NoEntry) e) he))
   exact ⟨_,rfl,q _ _ (sE.trans (t1.trans (t2.trans (Zac n3)))) (ZcE (sE.trans (t1.trans t2)) n3) (.of Zab)⟩
  ·exact ⟨_,rfl,b,dx,_,rfl,hB0.ob,rfl,_,rfl,rfl,b,dx,k,bi,li,ti,su,B,x,rfl,hB0,.inl ⟨Zll bad s0,fun H2 s2=>caught _ _ rfl s2⟩⟩
 ·cases r0 with
  | full =>
   refine ZfL (fun c=>c=T.c_Full) [some (.ref b),some x,some (.ref M0),none] (fun c z=>by rw [z]; exact T.mr_Full) (fun c H1 e z s1 he=>?_) (fun E' caught=>?_)
   ·subst z
    refine ⟨_,rfl,_,.ref T.c_NoEntry,_,_,rfl,rfl,.exc T.e_Full Zab,T.kx_Full_NoEntry,_,rfl,_,.ref T.c_Full,_,_,rfl,rfl,.exc T.e_Full Zab,T.kx_Full_Full,_,rfl,_,.ref T.c_NoPerson,_,_,rfl,rfl,.exc T.e_Full Zab,T.kx_Full_NoPerson,few rfl,fun L1 n1=>?_⟩
    have t1:=Zac (o:=.lst [V.bl false,.bl true,.bl false]) n1
    have te:=t1 _ _ (Zab (H:=H1) (a:=e) (o:=Zkq (.ref T.c_Full) e))
    refine ⟨_,rfl,_,rfl,_,.ref T.c_Twice,_,_,rfl,rfl,.exc T.e_Full te,T.kx_Full_Twice,_,rfl,_,.ref T.c_NoFit,_,_,rfl,rfl,.exc T.e_Full te,T.kx_Full_NoFit,few rfl,fun L2 n2=>?_⟩
    have t2:=Zac (o:=.lst [V.bl false,.bl false]) n2
    refine ⟨L1,L2,_,_,rfl,rfl,t2 _ _ Zab,Zab,few rfl,fun L3 n3=>?_⟩
    have sE:=s0.trans (s1.trans (Zac (o:=Zkq (.ref T.c_Full) e) he))
    exact ⟨_,rfl,q _ _ (sE.trans (t1.trans (t2.trans (Zac n3)))) (ZcE (sE.trans (t1.trans t2)) n3) (.of Zab)⟩
   ·refine ⟨_,rfl,b,dx,_,rfl,hB0.ob,rfl,_,rfl,rfl,b,dx,k,bi,li,ti,su,B,x,rfl,hB0,.inr ⟨e0,hx.mono s0,ok,fun r hr H2 s2=>?_,fun z=>absurd (hf.symm.trans z) (by simp)⟩⟩
    rw [hf] at hr
    cases hr
    exact caught _ _ rfl s2
  | person =>
   refine ZfL (fun c=>c=T.c_NoPerson) [some (.ref b),some x,some (.ref M0),none] (fun c z=>by rw [z]; exact T.mr_NoPerson) (fun c H1 e z s1 he=>?_) (fun E' caught=>?_)
   ·subst z
    refine ⟨_,rfl,_,.ref T.c_NoEntry,_,_,rfl,rfl,.exc T.e_NoPerson Zab,T.kx_NoPerson_NoEntry,_,rfl,_,.ref T.c_Full,_,_,rfl,rfl,.exc T.e_NoPerson Zab,T.kx_NoPerson_Full,_,rfl,_,.ref T.c_NoPerson,_,_,rfl,rfl,.exc T.e_NoPerson Zab,T.kx_NoPerson_NoPerson,few rfl,fun L1 n1=>?_⟩
    have t1:=Zac (o:=.lst [V.bl false,.bl false,.bl true]) n1
    have te:=t1 _ _ (Zab (H:=H1) (a:=e) (o:=Zkq (.ref T.c_NoPerson) e))
    refine ⟨_,rfl,_,rfl,_,.ref T.c_Twice,_,_,rfl,rfl,.exc T.e_NoPerson te,T.kx_NoPerson_Twice,_,rfl,_,.ref T.c_NoFit,_,_,rfl,rfl,.exc T.e_NoPerson te,T.kx_NoPerson_NoFit,few rfl,fun L2 n2=>?_⟩
    have t2:=Zac (o:=.lst [V.bl false,.bl false]) n2
    refine ⟨L1,L2,_,_,rfl,rfl,t2 _ _ Zab,Zab,few rfl,fun L3 n3=>?_⟩
    have sE:=s0.trans (s1.trans (Zac (o:=Zkq (.ref T.c_NoPerson) e) he))
    exact ⟨_,rfl,q _ _ (sE.trans (t1.trans (t2.trans (Zac n3)))) (ZcE (sE.trans (t1.trans t2)) n3) (.of Zab)⟩
   ·refine ⟨_,rfl,b,dx,_,rfl,hB0.ob,rfl,_,rfl,rfl,b,dx,k,bi,li,ti,su,B,x,rfl,hB0,.inr ⟨e0,hx.mono s0,ok,fun r hr H2 s2=>?_,fun z=>absurd (hf.symm.trans z) (by simp)⟩⟩
    rw [hf] at hr
    cases hr
    exact caught _ _ rfl s2
  | twice =>
   refine ZfL (fun c=>c=T.c_Twice) [some (.ref b),some x,some (.ref M0),none] (fun c z=>by rw [z]; exact T.mr_Twice) (fun c H1 e z s1 he=>?_) (fun E' caught=>?_)
   ·subst z
    refine ⟨_,rfl,_,.ref T.c_NoEntry,_,_,rfl,rfl,.exc T.e_Twice Zab,T.kx_Twice_NoEntry,_,rfl,_,.ref T.c_Full,_,_,rfl,rfl,.exc T.e_Twice Zab,T.kx_Twice_Full,_,rfl,_,.ref T.c_NoPerson,_,_,rfl,rfl,.exc T.e_Twice Zab,T.kx_Twice_NoPerson,few rfl,fun L1 n1=>?_⟩
    have t1:=Zac (o:=.lst [V.bl false,.bl false,.bl false]) n1
    have te:=t1 _ _ (Zab (H:=H1) (a:=e) (o:=Zkq (.ref T.c_Twice) e))
    refine ⟨_,rfl,_,rfl,_,.ref T.c_Twice,_,_,rfl,rfl,.exc T.e_Twice te,T.kx_Twice_Twice,_,rfl,_,.ref T.c_NoFit,_,_,rfl,rfl,.exc T.e_Twice te,T.kx_Twice_NoFit,few rfl,fun L2 n2=>?_⟩
    have t2:=Zac (o:=.lst [V.bl true,.bl false]) n2
    refine ⟨L1,L2,_,_,rfl,rfl,t2 _ _ Zab,Zab,few rfl,fun L3 n3=>?_⟩
    have sE:=s0.trans (s1.trans (Zac (o:=Zkq (.ref T.c_Twice) e) he))
    exact ⟨_,rfl,q _ _ (sE.trans (t1.trans (t2.trans (Zac n3)))) (ZcE (sE.trans (t1.trans t2)) n3) (.of Zab)⟩
   ·refine ⟨_,rfl,b,dx,_,rfl,hB0.ob,rfl,_,rfl,rfl,b,dx,k,bi,li,ti,su,B,x,rfl,hB0,.inr ⟨e0,hx.mono s0,ok,fun r hr H2 s2=>?_,fun z=>absurd (hf.symm.trans z) (by simp)⟩⟩
    rw [hf] at hr
    cases hr
    exact caught _ _ rfl s2
  | fit =>
   refine ZfL (fun c=>c=T.c_NoFit) [some (.ref b),some x,some (.ref M0),none] (fun c z=>by rw [z]; exact T.mr_NoFit) (fun c H1 e z s1 he=>?_) (fun E' caught=>?_)
   ·subst z
    refine ⟨_,rfl,_,.ref T.c_NoEntry,_,_,rfl,rfl,.exc T.e_NoFit Zab,T.kx_NoFit_NoEntry,_,rfl,_,.ref T.c_Full,_,_,rfl,rfl,.exc T.e_NoFit Zab,T.kx_NoFit_Full,_,rfl,_,.ref T.c_NoPerson,_,_,rfl,rfl,.exc T.e_NoFit Zab,T.kx_NoFit_NoPerson,few rfl,fun L1 n1=>?_⟩
    have t1:=Zac (o:=.lst [V.bl false,.bl false,.bl false]) n1
    have te:=t1 _ _ (Zab (H:=H1) (a:=e) (o:=Zkq (.ref T.c_NoFit) e))
    refine ⟨_,rfl,_,rfl,_,.ref T.c_Twice,_,_,rfl,rfl,.exc T.e_NoFit te,T.kx_NoFit_Twice,_,rfl,_,.ref T.c_NoFit,_,_,rfl,rfl,.exc T.e_NoFit te,T.kx_NoFit_NoFit,few rfl,fun L2 n2=>?_⟩
    have t2:=Zac (o:=.lst [V.bl false,.bl true]) n2
    refine ⟨L1,L2,_,_,rfl,rfl,t2 _ _ Zab,Zab,few rfl,fun L3 n3=>?_⟩
    have sE:=s0.trans (s1.trans (Zac (o:=Zkq (.ref T.c_NoFit) e) he))
    exact ⟨_,rfl,q _ _ (sE.trans (t1.trans (t2.trans (Zac n3)))) (ZcE (sE.trans (t1.trans t2)) n3) (.of Zab)⟩
   ·refine ⟨_,rfl,b,dx,_,rfl,hB0.ob,rfl,_,rfl,rfl,b,dx,k,bi,li,ti,su,B,x,rfl,hB0,.inr ⟨e0,hx.mono s0,ok,fun r hr H2 s2=>?_,fun z=>absurd (hf.symm.trans z) (by simp)⟩⟩
    rw [hf] at hr
    cases hr
    exact caught _ _ rfl s2
 ·refine ZfL (fun _=>False) [some (.ref b),some x,some (.ref M0),none] (fun c z=>z.elim) (fun c H1 e z s1 he=>z.elim) (fun E' caught=>?_)
  refine ⟨_,rfl,b,dx,_,rfl,hB0.ob,rfl,_,rfl,rfl,b,dx,k,bi,li,ti,su,B,x,rfl,hB0,.inr ⟨e0,hx.mono s0,ok,fun r hr=>absurd (hn.symm.trans hr) (by simp),fun _=>⟨rm,fun H2 B2 y hB2 hp bt hy gr=>?_⟩⟩⟩
  have kp:=ZjF hB0 bt hy
  have hy':H y=none∨∃ w,H y=some (.dK w):=by
   rcases hy with hy | ⟨w,hy⟩
   ·exact .inl (ZcE s0 hy)
   ·refine .inr ⟨w,?_⟩
    have:y≠M0:=fun z=>by rw [z,Zab] at hy; cases hy
    rw [Zai this] at hy
    exact hy
  have lo:∀ q∈B.links,q.2.1≠M0:=fun q hq z=>by
   have:=hB.ll q hq
   rw [z,nM] at this
   cases this
  exact ⟨_,rfl,q H2 B2 y M0 hB2 hp ((But.of _ s0).trans bt) hy' (gr.back fun a n=>ZcE s0 n) nM (Zgn gr lo (by rw [Zab]; simp)) (.of (kp.lst _ _ Zab))⟩
theorem ZiX (T:Tx K w mg) (Zea:Zf2 P base T):Zf1 P base T:=by
 refine Fun.okX (k:=7) T.Zbe.F Zdv (fun vs H Q E h=>h.1) (fun cdv A outer s H vs Q E hr h=>?_)
 obtain ⟨-,h⟩:=h
 obtain ⟨b,dx,k,bi,li,ti,su,B,L,x,z,rfl,hB,h⟩:=h
 refine ⟨_, (Zag (ZaH (i := 4) Zdv.nd rfl (Or.inl rfl) (ZaB Zea (hr.mono (by decide)) (by rfl) T.ZbJ.m T.ZbJ.F.kp T.ZbJ.b .nil Zak (Zaa (pv 0) (Zaa (pv 2) Zaf))))
   (Zag (ZaQ (Zaq Zi2 (pv 3) Zad (Zar _)) (Zah (Zay (ZaN (Ze1 hr.units) (pv 4) (ZdF rfl (ZcM (N:=["_law_k","_law_due_here"]) ["_law_due_here"] [none,some 3] rfl (by decide +kernel) (by decide +kernel) (by rfl) (by rfl) (by rfl) (by rfl) (by rfl)) (ZgF (by rfl) T.n_range (Zaa Zad Zaf)) (fun _ _ _=>(Za2 (i:=0) Zso rfl (Or.inl rfl))) (fun _ _ _=>ZgL) (fun _ _ _=>(ZaN Zbb (pv 0) (pv 1) (Zar _)))) (Zar _)))) Zav)
   (Zag (ZaQ (PW.pt (Ze4 (Zaq ZcD (Zas Zan (pv 2) Zad (fun _ _=>rfl)) (ZaW (Zaa Zat (Zaa Zat Zaf))) (by rfl)) (ZdE (Zaq Zm6 (Zas Zan (pv 2) Zad (fun _ _=>rfl)) (Zas Zan (pv 2) Zad (fun _ _=>rfl)) (Zar _))))) (Zah (ZaH (i:=2) Zdv.nd rfl (Or.inl rfl) (ZaW (Zaa (Zas Zan (pv 2) Zad (fun _ _=>rfl)) (Zaa (Zas Zan (pv 2) Zad (fun _ _=>rfl)) (Zaa (Zas Zan (pv 2) Zad (fun _ _=>rfl)) (Zaa (Zas Zan (pv 2) Zad (fun _ _=>rfl)) Zaf))))))) Zav)
   (Zag (Zbq (ZpD PySem.F.plainAttrs_list PySem.F.slot_list_append PySem.F.type_list_append Zfs (pv 1) (Zaa (pv 2) Zaf)))
   (Zah (Zay (ZaN (Ze1 hr.units) (pv 4) (Zbv Zaf) (Zar _)))))))),?_⟩
 refine ⟨_,rfl,_,rfl,rfl,b,dx,k,bi,li,ti,su,B,x,rfl,hB,?_⟩
 rcases h with ⟨bad,rfl,q⟩ | ⟨e,a,rfl,hE,ok,ez,nf,qr,qn⟩
 ·refine .inl ⟨bad,fun H1 D s1 nD hD=>?_⟩
  refine ⟨_,rfl,_,_,rfl,rfl,_,rfl,ZaR (by decide) ?_⟩
  refine ⟨_,rfl,5,rfl,by decide,by decide,Zcv ((Zot 0).map V.bl) (Zam (Nat.le_of_ble_eq_true rfl)) (fun σ=>∃ w,σ=[w,some (.int 0)]) ⟨_,rfl⟩ (fun i H3 hi sm=>?go) (fun H3 sm=>?stop) (fun i σ H3 x H4 y hy hσ sm hx C hC=>?step) (fun D2 H3 nD2 sm hD2=>?fin)⟩
  case go =>
   show i<(5:Int).toNat
   exact hi
  case stop=>exact Nat.le_refl 5
  case step =>
   obtain ⟨w,rfl⟩:=hσ
   obtain ⟨rfl,rfl⟩:=hx
   rw [Zm3 _ hy] at hC
   have z0:(0:Int)+(i:Int)=i:=Int.zero_add _
   rw [z0]
   exact ⟨_,rfl,_,rfl,rfl,hC _ _ ⟨_,rfl⟩ (Same.refl _)⟩
  case fin =>
   refine ⟨_,_,Zbs (zs:=Zrx) (sm.sql hD),Zbs (zs:=Zot 0) (.of hD2),.inr ⟨_,_,rfl,rfl⟩,by show Zdt _+1≤60; rw [Zkr]; decide,?_⟩
   show Q (.bl (Zdg _ _)) _
   rw [ZcZ,decide_eq_true (show Zrx=Zot 0 from Zp0)]
   exact q _ (s1.trans sm)
 refine .inr ⟨e,⟨a,rfl,hE⟩,ok,?_⟩
 cases hr:ZdM B e with
 | some r =>
  refine .inl ⟨r,rfl,fun H1 D s1 nD hD=>?_⟩
  rw [hr] at ez
  subst ez
  have z0:0≤Zpl (some r):=by cases r <;> decide
  refine ⟨_,rfl,_,_,rfl,rfl,_,rfl,ZaR (decide_eq_true z0) ?_⟩
  refine ⟨_,rfl,5,rfl,by decide,by decide,Zcv ((Zot (Zpl (some r))).map V.bl) (Zam (Nat.le_of_ble_eq_true rfl)) (fun σ=>∃ w,σ=[w,some (.int (Zpl (some r)))]) ⟨_,rfl⟩ (fun i H3 hi sm=>?go) (fun H3 sm=>?stop) (fun i σ H3 x H4 y hy hσ sm hx C hC=>?step) (fun D2 H3 nD2 sm hD2=>?fin)⟩
  case go =>
   show i<(5:Int).toNat
   exact hi
  case stop=>exact Nat.le_refl 5
  case step =>
   obtain ⟨w,rfl⟩:=hσ
   obtain ⟨rfl,rfl⟩:=hx
   rw [Zm3 _ hy] at hC
   have z0:(0:Int)+(i:Int)=i:=Int.zero_add _
   rw [z0]
   exact ⟨_,rfl,_,rfl,rfl,hC _ _ ⟨_,rfl⟩ (Same.refl _)⟩
  case fin =>
   refine ⟨_,_,Zbs (zs:=(mOf r)) (sm.sql hD),Zbs (zs:=Zot (Zpl (some r))) (.of hD2),.inr ⟨_,_,rfl,rfl⟩,by show Zdt _+1≤60; rw [Zkr]; decide,?_⟩
   show Q (.bl (Zdg _ _)) _
   rw [ZcZ,decide_eq_true (show (mOf r)=Zot (Zpl (some r)) from ZqH r)]
   exact qr r hr _ (s1.trans sm)
 | none =>
  obtain ⟨ks,hL,kl,lo,rm,q⟩:=qn hr
  refine .inr ⟨rfl,rm,fun H1 B' y D hB1 hp bt hy gr nD ld hD=>?_⟩
  rw [hr] at ez
  subst ez
  have kp:=ZjF hB bt hy
  have hL1:=kp.lst _ _ hL
  have hE1:=kp.sqt _ _ hE
  have lo1:=Zgn gr lo (by rw [hL]; simp)
  have dL:D≠L:=fun z=>by rw [z,hL] at nD; cases nD
  refine ⟨_,rfl,_,_,rfl,rfl,_,rfl,Zau (by decide) ?_⟩
  dsimp only [Zbu]
  cases e with
  | born n s d f m =>
   refine ⟨_,rfl,a,_,_,_,rfl,rfl,hE1,Zae (j:=0) rfl,few rfl,fun t9 nt=>⟨t9,_,rfl,.inr (.of Zab),rfl,rfl,_,rfl,Zau (by decide +kernel) (Zb2 ?_)⟩⟩
   dsimp only [Zbu]
   have sx:=Zac (o:=.tup [V.str "union",.str "parted"]) nt
   generalize upd H1 t9 (.tup [V.str "union",.str "parted"])=HX at *
   have hLx:=sx _ _ hL1
   have hBx:=(hB1.mono sx).off (o:=.lst (Zaz ks++[V.ref a])) hLx lo1
   have hEx:SqT K HX a ((.born n s d f m:Ent).row.map kV):=sx.sqt hE1
   refine ⟨_,rfl,.inl ⟨rfl,_,.of hLx⟩,_,rfl,L,_,_,rfl,rfl,hLx,Zam (by rw [ZaX]; omega),?_⟩
   have sq9:∀ c xs,SqT K H c xs->SqT K (upd HX L (.lst (Zaz ks++[V.ref a]))) c xs:=fun c xs h=>ZaO (sx.sqt (kp.sqt _ _ h)) hLx (fun _ z=>by cases z) (fun _ _ z=>by cases z)
   have ls9:∀ c xs,c≠L->H c=some (.lst xs)->upd HX L (.lst (Zaz ks++[V.ref a])) c=some (.lst xs):=fun c xs nc h=>(Zai nc).trans (sx _ _ (kp.lst _ _ h))
   have hE9:SqT K (upd HX L (.lst (Zaz ks++[V.ref a]))) a ((.born n s d f m:Ent).row.map kV):=ZaO hEx hLx (fun _ z=>by cases z) (fun _ _ z=>by cases z)
   have hL9:upd HX L (.lst (Zaz ks++[V.ref a])) L=some (.lst (Zaz ks++[V.ref a])):=Zab
   have hD9:SqL K (upd HX L (.lst (Zaz ks++[V.ref a]))) D []:=by
    rcases (sx.sql hD) with (g | ⟨y9,g⟩) | g
    ·exact .inl (.inl ((Zai dL).trans g))
    ·exact .inl (.inr ⟨y9,(Zai dL).trans g⟩)
    ·exact .inr g
   have er:Zaz ks++[V.ref a]=Zaz (ks++[(.born n s d f m,a)]):=by unfold Zaz; rw [List.map_append]; rfl
   generalize upd HX L (.lst (Zaz ks++[V.ref a]))=H9 at *
   refine ⟨_,rfl,few rfl,fun Z nZ=>?_⟩
   have sZ:=Zac (o:=.lst []) nZ
   refine ⟨_,_,Zbs (zs:=[]) (sZ.sql hD9),Zbs (zs:=[]) (.of Zab),.inr ⟨_,_,rfl,rfl⟩,by show Zdt _+1≤60; exact (by decide:0+1≤60),?_⟩
   show Q (.bl (Zdg _ _)) _
   rw [ZcZ [] [],decide_eq_true (rfl:([]:List Bool)=[])]
   rw [er] at hL9
   exact q _ B' a (hBx.mono sZ) hp gr (sZ _ _ hL9) (sZ.sqt hE9) (fun c xs nc h=>sZ _ _ (ls9 c xs nc h)) (fun c xs h=>sZ.sqt (sq9 c xs h))
  | taken c t d =>
   refine ⟨_,rfl,a,_,_,_,rfl,rfl,hE1,Zae (j:=0) rfl,few rfl,fun t9 nt=>⟨t9,_,rfl,.inr (.of Zab),rfl,rfl,_,rfl,Zau (by decide +kernel) (Zb2 ?_)⟩⟩
   dsimp only [Zbu]
   have sx:=Zac (o:=.tup [V.str "union",.str "parted"]) nt
   generalize upd H1 t9 (.tup [V.str "union",.str "parted"])=HX at *
   have hLx:=sx _ _ hL1
   have hBx:=(hB1.mono sx).off (o:=.lst (Zaz ks++[V.ref a])) hLx lo1
   have hEx:SqT K HX a ((.taken c t d:Ent).row.map kV):=sx.sqt hE1
   refine ⟨_,rfl,.inl ⟨rfl,_,.of hLx⟩,_,rfl,L,_,_,rfl,rfl,hLx,Zam (by rw [ZaX]; omega),?_⟩
   have sq9:∀ c xs,SqT K H c xs->SqT K (upd HX L (.lst (Zaz ks++[V.ref a]))) c xs:=fun c xs h=>ZaO (sx.sqt (kp.sqt _ _ h)) hLx (fun _ z=>by cases z) (fun _ _ z=>by cases z)
   have ls9:∀ c xs,c≠L->H c=some (.lst xs)->upd HX L (.lst (Zaz ks++[V.ref a])) c=some (.lst xs):=fun c xs nc h=>(Zai nc).trans (sx _ _ (kp.lst _ _ h))
   have hE9:SqT K (upd HX L (.lst (Zaz ks++[V.ref a]))) a ((.taken c t d:Ent).row.map kV):=ZaO hEx hLx (fun _ z=>by cases z) (fun _ _ z=>by cases z)
   have hL9:upd HX L (.lst (Zaz ks++[V.ref a])) L=some (.lst (Zaz ks++[V.ref a])):=Zab
   have hD9:SqL K (upd HX L (.lst (Zaz ks++[V.ref a]))) D []:=by
    rcases (sx.sql hD) with (g | ⟨y9,g⟩) | g
    ·exact .inl (.inl ((Zai dL).trans g))
    ·exact .inl (.inr ⟨y9,(Zai dL).trans g⟩)
    ·exact .inr g
   have er:Zaz ks++[V.ref a]=Zaz (ks++[(.taken c t d,a)]):=by unfold Zaz; rw [List.map_append]; rfl
   generalize upd HX L (.lst (Zaz ks++[V.ref a]))=H9 at *
   refine ⟨_,rfl,few rfl,fun Z nZ=>?_⟩
   have sZ:=Zac (o:=.lst []) nZ
   refine ⟨_,_,Zbs (zs:=[]) (sZ.sql hD9),Zbs (zs:=[]) (.of Zab),.inr ⟨_,_,rfl,rfl⟩,by show Zdt _+1≤60; exact (by decide:0+1≤60),?_⟩
   show Q (.bl (Zdg _ _)) _
   rw [ZcZ [] [],decide_eq_true (rfl:([]:List Bool)=[])]
   rw [er] at hL9
   exact q _ B' a (hBx.mono sZ) hp gr (sZ _ _ hL9) (sZ.sqt hE9) (fun c xs nc h=>sZ _ _ (ls9 c xs nc h)) (fun c xs h=>sZ.sqt (sq9 c xs h))
  | dead n d =>
   refine ⟨_,rfl,a,_,_,_,rfl,rfl,hE1,Zae (j:=0) rfl,few rfl,fun t9 nt=>⟨t9,_,rfl,.inr (.of Zab),rfl,rfl,_,rfl,Zau (by decide +kernel) (Zb2 ?_)⟩⟩
   dsimp only [Zbu]
   have sx:=Zac (o:=.tup [V.str "union",.str "parted"]) nt
   generalize upd H1 t9 (.tup [V.str "union",.str "parted"])=HX at *
   have hLx:=sx _ _ hL1
   have hBx:=(hB1.mono sx).off (o:=.lst (Zaz ks++[V.ref a])) hLx lo1
   have hEx:SqT K HX a ((.dead n d:Ent).row.map kV):=sx.sqt hE1
   refine ⟨_,rfl,.inl ⟨rfl,_,.of hLx⟩,_,rfl,L,_,_,rfl,rfl,hLx,Zam (by rw [ZaX]; omega),?_⟩
   have sq9:∀ c xs,SqT K H c xs->SqT K (upd HX L (.lst (Zaz ks++[V.ref a]))) c xs:=fun c xs h=>ZaO (sx.sqt (kp.sqt _ _ h)) hLx (fun _ z=>by cases z) (fun _ _ z=>by cases z)
   have ls9:∀ c xs,c≠L->H c=some (.lst xs)->upd HX L (.lst (Zaz ks++[V.ref a])) c=some (.lst xs):=fun c xs nc h=>(Zai nc).trans (sx _ _ (kp.lst _ _ h))
   have hE9:SqT K (upd HX L (.lst (Zaz ks++[V.ref a]))) a ((.dead n d:Ent).row.map kV):=ZaO hEx hLx (fun _ z=>by cases z) (fun _ _ z=>by cases z)
   have hL9:upd HX L (.lst (Zaz ks++[V.ref a])) L=some (.lst (Zaz ks++[V.ref a])):=Zab
   have hD9:SqL K (upd HX L (.lst (Zaz ks++[V.ref a]))) D []:=by
    rcases (sx.sql hD) with (g | ⟨y9,g⟩) | g
    ·exact .inl (.inl ((Zai dL).trans g))
    ·exact .inl (.inr ⟨y9,(Zai dL).trans g⟩)
    ·exact .inr g
   have er:Zaz ks++[V.ref a]=Zaz (ks++[(.dead n d,a)]):=by unfold Zaz; rw [List.map_append]; rfl
   generalize upd HX L (.lst (Zaz ks++[V.ref a]))=H9 at *
   refine ⟨_,rfl,few rfl,fun Z nZ=>?_⟩
   have sZ:=Zac (o:=.lst []) nZ
   refine ⟨_,_,Zbs (zs:=[]) (sZ.sql hD9),Zbs (zs:=[]) (.of Zab),.inr ⟨_,_,rfl,rfl⟩,by show Zdt _+1≤60; exact (by decide:0+1≤60),?_⟩
   show Q (.bl (Zdg _ _)) _
   rw [ZcZ [] [],decide_eq_true (rfl:([]:List Bool)=[])]
   rw [er] at hL9
   exact q _ B' a (hBx.mono sZ) hp gr (sZ _ _ hL9) (sZ.sqt hE9) (fun c xs nc h=>sZ _ _ (ls9 c xs nc h)) (fun c xs h=>sZ.sqt (sq9 c xs h))
  | given g t am d =>
   refine ⟨_,rfl,a,_,_,_,rfl,rfl,hE1,Zae (j:=0) rfl,few rfl,fun t9 nt=>⟨t9,_,rfl,.inr (.of Zab),rfl,rfl,_,rfl,Zau (by decide +kernel) (Zb2 ?_)⟩⟩
   dsimp only [Zbu]
   have sx:=Zac (o:=.tup [V.str "union",.str "parted"]) nt
   generalize upd H1 t9 (.tup [V.str "union",.str "parted"])=HX at *
   have hLx:=sx _ _ hL1
   have hBx:=(hB1.mono sx).off (o:=.lst (Zaz ks++[V.ref a])) hLx lo1
   have hEx:SqT K HX a ((.given g t am d:Ent).row.map kV):=sx.sqt hE1
   refine ⟨_,rfl,.inl ⟨rfl,_,.of hLx⟩,_,rfl,L,_,_,rfl,rfl,hLx,Zam (by rw [ZaX]; omega),?_⟩
   have sq9:∀ c xs,SqT K H c xs->SqT K (upd HX L (.lst (Zaz ks++[V.ref a]))) c xs:=fun c xs h=>ZaO (sx.sqt (kp.sqt _ _ h)) hLx (fun _ z=>by cases z) (fun _ _ z=>by cases z)
   have ls9:∀ c xs,c≠L->H c=some (.lst xs)->upd HX L (.lst (Zaz ks++[V.ref a])) c=some (.lst xs):=fun c xs nc h=>(Zai nc).trans (sx _ _ (kp.lst _ _ h))
   have hE9:SqT K (upd HX L (.lst (Zaz ks++[V.ref a]))) a ((.given g t am d:Ent).row.map kV):=ZaO hEx hLx (fun _ z=>by cases z) (fun _ _ z=>by cases z)
   have hL9:upd HX L (.lst (Zaz ks++[V.ref a])) L=some (.lst (Zaz ks++[V.ref a])):=Zab
   have hD9:SqL K (upd HX L (.lst (Zaz ks++[V.ref a]))) D []:=by
    rcases (sx.sql hD) with (g | ⟨y9,g⟩) | g
    ·exact .inl (.inl ((Zai dL).trans g))
    ·exact .inl (.inr ⟨y9,(Zai dL).trans g⟩)
    ·exact .inr g
   have er:Zaz ks++[V.ref a]=Zaz (ks++[(.given g t am d,a)]):=by unfold Zaz; rw [List.map_append]; rfl
   generalize upd HX L (.lst (Zaz ks++[V.ref a]))=H9 at *
   refine ⟨_,rfl,few rfl,fun Z nZ=>?_⟩
   have sZ:=Zac (o:=.lst []) nZ
   refine ⟨_,_,Zbs (zs:=[]) (sZ.sql hD9),Zbs (zs:=[]) (.of Zab),.inr ⟨_,_,rfl,rfl⟩,by show Zdt _+1≤60; exact (by decide:0+1≤60),?_⟩
   show Q (.bl (Zdg _ _)) _
   rw [ZcZ [] [],decide_eq_true (rfl:([]:List Bool)=[])]
   rw [er] at hL9
   exact q _ B' a (hBx.mono sZ) hp gr (sZ _ _ hL9) (sZ.sqt hE9) (fun c xs nc h=>sZ _ _ (ls9 c xs nc h)) (fun c xs h=>sZ.sqt (sq9 c xs h))
  | union x y d =>
   refine ⟨_,rfl,a,_,_,_,rfl,rfl,hE1,Zae (j:=0) rfl,few rfl,fun t9 nt=>⟨t9,_,rfl,.inr (.of Zab),rfl,rfl,_,rfl,ZaR (by decide +kernel) ?_⟩⟩
   have st:=Zac (o:=.tup [V.str "union",.str "parted"]) nt
   have hE2:=st.sqt hE1
   refine ⟨_,rfl,a,_,_,_,rfl,rfl,hE2,Zae (j:=2) rfl,_,rfl,a,_,_,_,rfl,rfl,hE2,Zae (j:=1) rfl,_,_,rfl,rfl,_,rfl,?_⟩
   cases hc:decide (y.cps.toList<x.cps.toList) with
   | true =>
    have et:(Ent.union x y d).told=.union y x d:=by show Ent.union (Zaj x y).1 (Zaj x y).2 d=_; rw [Zln hc]
    rw [et] at q
    refine ZcF ⟨_,rfl,a,_,_,_,rfl,rfl,hE2,Zae (j:=0) rfl,_,rfl,a,_,_,_,rfl,rfl,hE2,Zae (j:=2) rfl,_,rfl,a,_,_,_,rfl,rfl,hE2,Zae (j:=1) rfl,_,rfl,a,_,_,_,rfl,rfl,hE2,Zae (j:=3) rfl,few rfl,fun u nu=>?_⟩
    have sx:=st.trans (Zac (o:=.tup [V.str "union",.str y,.str x,.int d]) nu)
    have hu:SqT K (upd (upd H1 t9 (.tup [V.str "union",.str "parted"])) u (.tup [V.str "union",.str y,.str x,.int d])) u ((Ent.union y x d).row.map kV):=.of Zab
    dsimp only [kV]
    generalize upd (upd H1 t9 (.tup [V.str "union",.str "parted"])) u (.tup [V.str "union",.str y,.str x,.int d])=HX at *
    have hLx:=sx _ _ hL1
    have hBx:=(hB1.mono sx).off (o:=.lst (Zaz ks++[V.ref u])) hLx lo1
    have hEx:SqT K HX u ((.union y x d:Ent).row.map kV):=hu
    refine ⟨_,rfl,.inl ⟨rfl,_,.of hLx⟩,_,rfl,L,_,_,rfl,rfl,hLx,Zam (by rw [ZaX]; omega),?_⟩
    have sq9:∀ c xs,SqT K H c xs->SqT K (upd HX L (.lst (Zaz ks++[V.ref u]))) c xs:=fun c xs h=>ZaO (sx.sqt (kp.sqt _ _ h)) hLx (fun _ z=>by cases z) (fun _ _ z=>by cases z)
    have ls9:∀ c xs,c≠L->H c=some (.lst xs)->upd HX L (.lst (Zaz ks++[V.ref u])) c=some (.lst xs):=fun c xs nc h=>(Zai nc).trans (sx _ _ (kp.lst _ _ h))
    have hE9:SqT K (upd HX L (.lst (Zaz ks++[V.ref u]))) u ((.union y x d:Ent).row.map kV):=ZaO hEx hLx (fun _ z=>by cases z) (fun _ _ z=>by cases z)
    have hL9:upd HX L (.lst (Zaz ks++[V.ref u])) L=some (.lst (Zaz ks++[V.ref u])):=Zab
    have hD9:SqL K (upd HX L (.lst (Zaz ks++[V.ref u]))) D []:=by
     rcases (sx.sql hD) with (g | ⟨y9,g⟩) | g
     ·exact .inl (.inl ((Zai dL).trans g))
     ·exact .inl (.inr ⟨y9,(Zai dL).trans g⟩)
     ·exact .inr g
    have er:Zaz ks++[V.ref u]=Zaz (ks++[(.union y x d,u)]):=by unfold Zaz; rw [List.map_append]; rfl
    generalize upd HX L (.lst (Zaz ks++[V.ref u]))=H9 at *
    refine ⟨_,rfl,few rfl,fun Z nZ=>?_⟩
    have sZ:=Zac (o:=.lst []) nZ
    refine ⟨_,_,Zbs (zs:=[]) (sZ.sql hD9),Zbs (zs:=[]) (.of Zab),.inr ⟨_,_,rfl,rfl⟩,by show Zdt _+1≤60; exact (by decide:0+1≤60),?_⟩
    show Q (.bl (Zdg _ _)) _
    rw [ZcZ [] [],decide_eq_true (rfl:([]:List Bool)=[])]
    rw [er] at hL9
    exact q _ B' u (hBx.mono sZ) hp gr (sZ _ _ hL9) (sZ.sqt hE9) (fun c xs nc h=>sZ _ _ (ls9 c xs nc h)) (fun c xs h=>sZ.sqt (sq9 c xs h))
   | false =>
    have et:(Ent.union x y d).told=.union x y d:=by show Ent.union (Zaj x y).1 (Zaj x y).2 d=_; rw [ZjI hc]
    rw [et] at q
    refine Zb2 ?_
    dsimp only [Zbu]
    have sx:=st
    generalize upd H1 t9 (.tup [V.str "union",.str "parted"])=HX at *
    have hLx:=sx _ _ hL1
    have hBx:=(hB1.mono sx).off (o:=.lst (Zaz ks++[V.ref a])) hLx lo1
    have hEx:SqT K HX a ((.union x y d:Ent).row.map kV):=sx.sqt hE1
    refine ⟨_,rfl,.inl ⟨rfl,_,.of hLx⟩,_,rfl,L,_,_,rfl,rfl,hLx,Zam (by rw [ZaX]; omega),?_⟩
    have sq9:∀ c xs,SqT K H c xs->SqT K (upd HX L (.lst (Zaz ks++[V.ref a]))) c xs:=fun c xs h=>ZaO (sx.sqt (kp.sqt _ _ h)) hLx (fun _ z=>by cases z) (fun _ _ z=>by cases z)
    have ls9:∀ c xs,c≠L->H c=some (.lst xs)->upd HX L (.lst (Zaz ks++[V.ref a])) c=some (.lst xs):=fun c xs nc h=>(Zai nc).trans (sx _ _ (kp.lst _ _ h))
    have hE9:SqT K (upd HX L (.lst (Zaz ks++[V.ref a]))) a ((.union x y d:Ent).row.map kV):=ZaO hEx hLx (fun _ z=>by cases z) (fun _ _ z=>by cases z)
    have hL9:upd HX L (.lst (Zaz ks++[V.ref a])) L=some (.lst (Zaz ks++[V.ref a])):=Zab
    have hD9:SqL K (upd HX L (.lst (Zaz ks++[V.ref a]))) D []:=by
     rcases (sx.sql hD) with (g | ⟨y9,g⟩) | g
     ·exact .inl (.inl ((Zai dL).trans g))
     ·exact .inl (.inr ⟨y9,(Zai dL).trans g⟩)
     ·exact .inr g
    have er:Zaz ks++[V.ref a]=Zaz (ks++[(.union x y d,a)]):=by unfold Zaz; rw [List.map_append]; rfl
    generalize upd HX L (.lst (Zaz ks++[V.ref a]))=H9 at *
    refine ⟨_,rfl,few rfl,fun Z nZ=>?_⟩
    have sZ:=Zac (o:=.lst []) nZ
    refine ⟨_,_,Zbs (zs:=[]) (sZ.sql hD9),Zbs (zs:=[]) (.of Zab),.inr ⟨_,_,rfl,rfl⟩,by show Zdt _+1≤60; exact (by decide:0+1≤60),?_⟩
    show Q (.bl (Zdg _ _)) _
    rw [ZcZ [] [],decide_eq_true (rfl:([]:List Bool)=[])]
    rw [er] at hL9
    exact q _ B' a (hBx.mono sZ) hp gr (sZ _ _ hL9) (sZ.sqt hE9) (fun c xs nc h=>sZ _ _ (ls9 c xs nc h)) (fun c xs h=>sZ.sqt (sq9 c xs h))
  | parted x y d =>
   refine ⟨_,rfl,a,_,_,_,rfl,rfl,hE1,Zae (j:=0) rfl,few rfl,fun t9 nt=>⟨t9,_,rfl,.inr (.of Zab),rfl,rfl,_,rfl,ZaR (by decide +kernel) ?_⟩⟩
   have st:=Zac (o:=.tup [V.str "union",.str "parted"]) nt
   have hE2:=st.sqt hE1
   refine ⟨_,rfl,a,_,_,_,rfl,rfl,hE2,Zae (j:=2) rfl,_,rfl,a,_,_,_,rfl,rfl,hE2,Zae (j:=1) rfl,_,_,rfl,rfl,_,rfl,?_⟩
   cases hc:decide (y.cps.toList<x.cps.toList) with
   | true =>
    have et:(Ent.parted x y d).told=.parted y x d:=by show Ent.parted (Zaj x y).1 (Zaj x y).2 d=_; rw [Zln hc]
    rw [et] at q
    refine ZcF ⟨_,rfl,a,_,_,_,rfl,rfl,hE2,Zae (j:=0) rfl,_,rfl,a,_,_,_,rfl,rfl,hE2,Zae (j:=2) rfl,_,rfl,a,_,_,_,rfl,rfl,hE2,Zae (j:=1) rfl,_,rfl,a,_,_,_,rfl,rfl,hE2,Zae (j:=3) rfl,few rfl,fun u nu=>?_⟩
    have sx:=st.trans (Zac (o:=.tup [V.str "parted",.str y,.str x,.int d]) nu)
    have hu:SqT K (upd (upd H1 t9 (.tup [V.str "union",.str "parted"])) u (.tup [V.str "parted",.str y,.str x,.int d])) u ((Ent.parted y x d).row.map kV):=.of Zab
    dsimp only [kV]
    generalize upd (upd H1 t9 (.tup [V.str "union",.str "parted"])) u (.tup [V.str "parted",.str y,.str x,.int d])=HX at *
    have hLx:=sx _ _ hL1
    have hBx:=(hB1.mono sx).off (o:=.lst (Zaz ks++[V.ref u])) hLx lo1
    have hEx:SqT K HX u ((.parted y x d:Ent).row.map kV):=hu
    refine ⟨_,rfl,.inl ⟨rfl,_,.of hLx⟩,_,rfl,L,_,_,rfl,rfl,hLx,Zam (by rw [ZaX]; omega),?_⟩
    have sq9:∀ c xs,SqT K H c xs->SqT K (upd HX L (.lst (Zaz ks++[V.ref u]))) c xs:=fun c xs h=>ZaO (sx.sqt (kp.sqt _ _ h)) hLx (fun _ z=>by cases z) (fun _ _ z=>by cases z)
    have ls9:∀ c xs,c≠L->H c=some (.lst xs)->upd HX L (.lst (Zaz ks++[V.ref u])) c=some (.lst xs):=fun c xs nc h=>(Zai nc).trans (sx _ _ (kp.lst _ _ h))
    have hE9:SqT K (upd HX L (.lst (Zaz ks++[V.ref u]))) u ((.parted y x d:Ent).row.map kV):=ZaO hEx hLx (fun _ z=>by cases z) (fun _ _ z=>by cases z)
    have hL9:upd HX L (.lst (Zaz ks++[V.ref u])) L=some (.lst (Zaz ks++[V.ref u])):=Zab
    have hD9:SqL K (upd HX L (.lst (Zaz ks++[V.ref u]))) D []:=by
     rcases (sx.sql hD) with (g | ⟨y9,g⟩) | g
     ·exact .inl (.inl ((Zai dL).trans g))
     ·exact .inl (.inr ⟨y9,(Zai dL).trans g⟩)
     ·exact .inr g
    have er:Zaz ks++[V.ref u]=Zaz (ks++[(.parted y x d,u)]):=by unfold Zaz; rw [List.map_append]; rfl
    generalize upd HX L (.lst (Zaz ks++[V.ref u]))=H9 at *
    refine ⟨_,rfl,few rfl,fun Z nZ=>?_⟩
    have sZ:=Zac (o:=.lst []) nZ
    refine ⟨_,_,Zbs (zs:=[]) (sZ.sql hD9),Zbs (zs:=[]) (.of Zab),.inr ⟨_,_,rfl,rfl⟩,by show Zdt _+1≤60; exact (by decide:0+1≤60),?_⟩
    show Q (.bl (Zdg _ _)) _
    rw [ZcZ [] [],decide_eq_true (rfl:([]:List Bool)=[])]
    rw [er] at hL9
    exact q _ B' u (hBx.mono sZ) hp gr (sZ _ _ hL9) (sZ.sqt hE9) (fun c xs nc h=>sZ _ _ (ls9 c xs nc h)) (fun c xs h=>sZ.sqt (sq9 c xs h))
   | false =>
    have et:(Ent.parted x y d).told=.parted x y d:=by show Ent.parted (Zaj x y).1 (Zaj x y).2 d=_; rw [ZjI hc]
    rw [et] at q
    refine Zb2 ?_
    dsimp only [Zbu]
    have sx:=st
    generalize upd H1 t9 (.tup [V.str "union",.str "parted"])=HX at *
    have hLx:=sx _ _ hL1
    have hBx:=(hB1.mono sx).off (o:=.lst (Zaz ks++[V.ref a])) hLx lo1
    have hEx:SqT K HX a ((.parted x y d:Ent).row.map kV):=sx.sqt hE1
    refine ⟨_,rfl,.inl ⟨rfl,_,.of hLx⟩,_,rfl,L,_,_,rfl,rfl,hLx,Zam (by rw [ZaX]; omega),?_⟩
    have sq9:∀ c xs,SqT K H c xs->SqT K (upd HX L (.lst (Zaz ks++[V.ref a]))) c xs:=fun c xs h=>ZaO (sx.sqt (kp.sqt _ _ h)) hLx (fun _ z=>by cases z) (fun _ _ z=>by cases z)
    have ls9:∀ c xs,c≠L->H c=some (.lst xs)->upd HX L (.lst (Zaz ks++[V.ref a])) c=some (.lst xs):=fun c xs nc h=>(Zai nc).trans (sx _ _ (kp.lst _ _ h))
    have hE9:SqT K (upd HX L (.lst (Zaz ks++[V.ref a]))) a ((.parted x y d:Ent).row.map kV):=ZaO hEx hLx (fun _ z=>by cases z) (fun _ _ z=>by cases z)
    have hL9:upd HX L (.lst (Zaz ks++[V.ref a])) L=some (.lst (Zaz ks++[V.ref a])):=Zab
    have hD9:SqL K (upd HX L (.lst (Zaz ks++[V.ref a]))) D []:=by
     rcases (sx.sql hD) with (g | ⟨y9,g⟩) | g
     ·exact .inl (.inl ((Zai dL).trans g))
     ·exact .inl (.inr ⟨y9,(Zai dL).trans g⟩)
     ·exact .inr g
    have er:Zaz ks++[V.ref a]=Zaz (ks++[(.parted x y d,a)]):=by unfold Zaz; rw [List.map_append]; rfl
    generalize upd HX L (.lst (Zaz ks++[V.ref a]))=H9 at *
    refine ⟨_,rfl,few rfl,fun Z nZ=>?_⟩
    have sZ:=Zac (o:=.lst []) nZ
    refine ⟨_,_,Zbs (zs:=[]) (sZ.sql hD9),Zbs (zs:=[]) (.of Zab),.inr ⟨_,_,rfl,rfl⟩,by show Zdt _+1≤60; exact (by decide:0+1≤60),?_⟩
    show Q (.bl (Zdg _ _)) _
    rw [ZcZ [] [],decide_eq_true (rfl:([]:List Bool)=[])]
    rw [er] at hL9
    exact q _ B' a (hBx.mono sZ) hp gr (sZ _ _ hL9) (sZ.sqt hE9) (fun c xs nc h=>sZ _ _ (ls9 c xs nc h)) (fun c xs h=>sZ.sqt (sq9 c xs h))
theorem Zii (T:Tx K w mg) (ZbP:ZdD P base T) (ZeN:Zhk P base T):ZfY P base T:=by
 refine Fun.okX (k:=2) T.ZbL.F ZbA (fun vs H Q E h=>h.1) (fun cdv A outer s H vs Q E hr h=>?_)
 obtain ⟨-,h⟩:=h
 obtain ⟨b,dx,k,bi,li,ti,su,B,L,a,ks,e,rfl,hB,hL,hR,kl,hE,bn,st,sm9,q⟩:=h
 refine ⟨_, (Zag (ZnQ (i := 3) rfl  ZbA.nd rfl (Or.inl rfl) (ZcM (N := ["_law_row"]) [] [none] rfl (by decide +kernel) (by decide +kernel) (by rfl) (by rfl) (by rfl) (by rfl) (by rfl)) (ZcH (pv 1)) (fun _ _ _ => (Za2 (i := 0) Zsb rfl (Or.inl rfl))) (fun _ _ _ => (ZfE (Zaq Zbb (Zas (Zg4 K rfl) (pv 0) Zad (fun _ _ => rfl)) Zat (Zar _)))) (fun _ _ _ => (Zas (Zg4 K rfl) (pv 0) Zad (fun _ _ => rfl))))
   (Zag (ZaQ (PW.pt (ZfJ (Zaq ZdX (Zas Zan (pv 2) Zad (fun _ _=>rfl)) (ZaW (Zaa Zat (Zaa Zat (Zaa Zat Zaf)))) (by rfl)) (ZfJ (Zaq ZdX (Zas Zan (pv 2) Zad (fun _ _=>rfl)) (pv 3) (by rfl)) (Zet (Zaq ZdX (Zas Zan (pv 2) Zad (fun _ _=>rfl)) (pv 3) (by rfl)))))) (Zah (Zay ZdT)) Zav)
   (Zag (ZaH (i:=4) ZbA.nd rfl (Or.inl rfl) ZhU)
   (Zag (ZaH (i:=5) ZbA.nd rfl (Or.inl rfl) Zad)
   (Zag (Zd2 PassesOwn.leaving rfl (ZcH (pv 1)) (Za2 (i:=6) ZbA.nd rfl (Or.inl rfl))
    (Zag (ZaQ (PW.pt (Ze4 (Zaq ZcD (Zas Zan (pv 6) Zad (fun _ _=>rfl)) (ZaW (Zaa Zat (Zaa Zat Zaf))) (by rfl)) (ZdE (Zaq (Ze1 hr.units) (ZaC (Zca K) (by rfl) T.n_sorted ZbU (Zaa (Zby ZdA (pv 6) (Zbp Zad) (Zbp Zad)) Zaf)) (ZaC (Zca K) (by rfl) T.n_sorted ZbU (Zaa (Zby ZdA (pv 2) (Zbp Zad) (Zbp Zad)) Zaf)) (Zar _))))) (Zah (ZaQ (PW.pt (ZfJ (Zaq Zpj (pv 4) ZhU (Zar _)) (Zet (Zaq Zj8 (Zas Zan (pv 4) Zad (fun _ _=>rfl)) (Zas Zan (pv 6) Zad (fun _ _=>rfl)) (Zar _))))) (Zah (ZaH (i:=4) ZbA.nd rfl (Or.inl rfl) (pv 6))) Zav)) Zav)
   (Zah (ZaQ (Zaq (Ze1 hr.units) (Zby ZdA (pv 6) ZdL (Zbp Zad)) (ZaW (Zaa Zat (Zaa (Zas Zan (pv 2) Zad (fun _ _=>rfl)) (Zaa (Zas Zan (pv 2) Zad (fun _ _=>rfl)) Zaf)))) (Zar _)) (Zah (ZaH (i:=5) ZbA.nd rfl (Or.inl rfl) (ZaF Zcd (pv 5) (Zas Zan (pv 6) Zad (fun _ _=>rfl))))) Zav))))
   (Zag (ZaQ (Zaq Zij (ZaG (pv 0) T.cl_Book T.me_Book_stands ZbP (hr.mono (by decide)) T.b_Book_stands (.cons (show RelV V.non Value.none from rfl) .nil) Zak (Zaa (Zas Zan (pv 2) Zad (fun _ _=>rfl)) (Zaa (Zas Zan (pv 2) Zad (fun _ _=>rfl)) Zaf))) (ZcI (ZaN ZpJ (pv 4) ZhU (Zar _)) (ZcK (ZaN Zbb (Zas Zan (pv 4) Zad (fun _ _=>rfl)) Zat (Zar _)))) (Zar _)) (Zah (Zay ZdT)) Zav)
   (Zah (Zay (ZaN Zbb (ZaG (pv 0) T.cl_Book T.Zcl.me ZeN (hr.mono (by decide)) T.Zcl.b .nil Zak (Zaa (Zas Zan (pv 2) Zad (fun _ _=>rfl)) (Zaa (Zas Zan (pv 2) Zad (fun _ _=>rfl)) Zaf))) (pv 5) (Zar _)))))))))),?_⟩
 refine ⟨_,rfl,L,rfl,⟨_,hL⟩,Zef (ks.map ZoM) (Zam (by rw [List.length_map]; omega)) (fun σ=>∃ w,σ=[w]) ⟨_,rfl⟩ (fun j H4 hj sm=>?go) (fun H4 sm=>?stop) (fun j σ H4 x H5 z hz hσ sm hx C hC=>?step) (fun P H1 nP s1 hP=>?fin)⟩
 case go=>exact ⟨_,_,sm.sql hL,List.getElem?_eq_getElem (by rw [ZaX]; rw [List.length_map] at hj; exact hj)⟩
 case stop=>exact ⟨_,sm.sql hL,by rw [ZaX,List.length_map]; exact Nat.le_refl _⟩
 case step =>
  obtain ⟨w,rfl⟩:=hσ
  obtain ⟨rfl,hx2⟩:=hx
  obtain ⟨p,hp,rfl⟩:=Zht (hx2 _ (sm.sql hL))
  have pm:=List.mem_of_getElem? hp
  rw [List.getElem?_map,hp] at hz
  obtain rfl:ZoM p=z:=Option.some.inj hz
  have hp2:=sm.sqt (hR p pm)
  obtain ⟨x,u⟩:=p
  refine ⟨_,rfl,u,_,_,_,rfl,rfl,hp2,ZdV x,rfl,_,rfl,?_⟩
  cases x with
  | born n s d f m=>exact ZaR (by show decide (V.str "born"=V.str "born")=true; decide +kernel) ⟨_,rfl,u,_,_,_,rfl,rfl,hp2,Zae (j:=1) rfl,hC _ _ ⟨_,rfl⟩ (Same.refl _)⟩
  | taken c1 t1 d1=>exact Zau (by show decide (V.str "taken"=V.str "born")=false; decide +kernel) (hC _ _ ⟨_,rfl⟩ (Same.refl _))
  | union x1 y1 d1=>exact Zau (by show decide (V.str "union"=V.str "born")=false; decide +kernel) (hC _ _ ⟨_,rfl⟩ (Same.refl _))
  | parted x1 y1 d1=>exact Zau (by show decide (V.str "parted"=V.str "born")=false; decide +kernel) (hC _ _ ⟨_,rfl⟩ (Same.refl _))
  | dead n1 d1=>exact Zau (by show decide (V.str "dead"=V.str "born")=false; decide +kernel) (hC _ _ ⟨_,rfl⟩ (Same.refl _))
  | given g1 t1 a1 d1=>exact Zau (by show decide (V.str "given"=V.str "born")=false; decide +kernel) (hC _ _ ⟨_,rfl⟩ (Same.refl _))
 case fin =>
 rw [Zn7] at hP
 have hE1:=s1.sqt hE
 refine ⟨_,rfl,a,_,_,_,rfl,rfl,hE1,ZdV e,few rfl,fun t nt=>?_⟩
 have st1:=Zac (o:=.tup [V.str "union",.str "parted",.str "given"]) nt
 have hE2:=st1.sqt hE1
 refine ⟨t,_,rfl,.inr (.of Zab),rfl,rfl,_,rfl,?_⟩
 cases tw:e.two with
 | false=>exact ZaR (by show (!inV (V.str e.word) [V.str "union",V.str "parted",V.str "given"])=true; rw [ZlA,tw]; rfl) (ZcF (q _ (s1.trans st1)))
 | true =>
 refine Zau (by show (!inV (V.str e.word) [V.str "union",V.str "parted",V.str "given"])=false; rw [ZlA,tw]; rfl) ?_
 obtain ⟨x,y,at1,at2,cut⟩:=ZpV tw
 have hP2:=st1 _ _ hP
 generalize upd H1 t (.tup [V.str "union",.str "parted",.str "given"])=H2 at *
 have s12:=s1.trans st1
 refine ⟨_,rfl,a,_,_,_,rfl,rfl,hE2,at1,_,rfl,P,_,rfl,.inl (.of hP2),rfl,ZjS _,_,rfl,?_⟩
 by_cases hx:x∈ZaE ks
 rotate_left
 ·exact ZaR (by show (!inV (.str x) ((ZaE ks).map V.str))=true; rw [ZgY,decide_eq_false hx]; rfl) (ZcF (q _ s12))
 refine Zau (by show (!inV (.str x) ((ZaE ks).map V.str))=false; rw [ZgY,decide_eq_true hx]; rfl) ?_
 refine ⟨_,rfl,a,_,_,_,rfl,rfl,hE2,at2,_,rfl,P,_,rfl,.inl (.of hP2),rfl,ZjS _,_,rfl,?_⟩
 by_cases hy:y∈ZaE ks
 rotate_left
 ·exact ZaR (by show (!inV (.str y) ((ZaE ks).map V.str))=true; rw [ZgY,decide_eq_false hy]; rfl) (q _ s12)
 refine Zau (by show (!inV (.str y) ((ZaE ks).map V.str))=false; rw [ZgY,decide_eq_true hy]; rfl) ?_
 dsimp only [Zbu]
 have kx:Known B x:=by have:=ZhR (l:=B.kept) (n:=x) (by rw [bn]; exact hx); exact this
 have ky:Known B y:=by have:=ZhR (l:=B.kept) (n:=y) (by rw [bn]; exact hy); exact this
 refine Zch (fun σ H3=>H3=H2∧σ=[some (.ref b),some (.ref L),some (.ref a),some (.ref P),some .non,none,none]) (fun nx rest=>rest _ _ ⟨rfl,rfl⟩) (fun σ H3 hJ=>?_)
 obtain ⟨rfl,rfl⟩:=hJ
 refine Zch (fun σ H4=>H4=H3∧σ=[some (.ref b),some (.ref L),some (.ref a),some (.ref P),some .non,some (.int 0),none]) (fun nx rest=>rest _ _ ⟨rfl,rfl⟩) (fun σ H4 hJ=>?_)
 obtain ⟨rfl,rfl⟩:=hJ
 refine Zch (fun σ H5=>Same H H5∧∃ (last:Option (Ent × Addr)) (tot:Int) (v6:Option V),σ=[some (.ref b),some (.ref L),some (.ref a),some (.ref P),some (ZpQ last),some (.int tot),v6]∧last.map (·.1)=(ks.map (·.1)).foldl (Ze0 x y) none∧Zpt ks last∧tot=ZlF (x,y) (ks.map (·.1))) (fun nx rest=>?_) (fun σ H5 hJ=>?_)
 ·refine ⟨_,rfl,L,rfl,⟨_,s12.sql hL⟩,Zdx (xs:=Zaz ks) (fun i σ H5=>Same H H5∧∃ (last:Option (Ent × Addr)) (tot:Int) (v6:Option V),σ=[some (.ref b),some (.ref L),some (.ref a),some (.ref P),some (ZpQ last),some (.int tot),v6]∧last.map (·.1)=((ks.take i).map (·.1)).foldl (Ze0 x y) none∧Zpt ks last∧tot=ZlF (x,y) ((ks.take i).map (·.1))) ?start ?list ?turn ?done⟩
  case start=>exact ⟨s12,none,0,none,rfl,rfl,fun p z=>(by cases z),rfl⟩
  case list =>
   rintro i σ H5 _ ⟨s5,_⟩
   exact s5.sql hL
  case done =>
   rintro σ H5 ⟨s5,last,tot,v6,rfl,hl,ht,es⟩
   rw [ZaX,List.take_length] at hl es
   exact rest _ _ ⟨s5,last,tot,v6,rfl,hl,ht,es⟩
  case turn =>
   rintro i r σ H5 hr ⟨s5,last,tot,v6,rfl,hl,ht,es⟩
   obtain ⟨p,hp,rfl⟩:=Zht hr
   have pm:=List.mem_of_getElem? hp
   have hp5:=s5.sqt (hR p pm)
   have fo:=ZnD (Ze0 x y) none hp
   rw [← hl] at fo
   have sk:=ZoG (x,y) hp
   rw [← es] at sk
   obtain ⟨r,w⟩:=p
   dsimp only at hp5 fo sk
   refine Zch (fun σ H6=>Same H5 H6∧∃ last:Option (Ent × Addr),σ=[some (.ref b),some (.ref L),some (.ref a),some (.ref P),some (ZpQ last),some (.int tot),some (.ref w)]∧last.map (·.1)=((ks.take (i+1)).map (·.1)).foldl (Ze0 x y) none∧Zpt ks last) (fun nx2 rest2=>?_) (fun σ H6 hJ=>?_)
   ·refine ⟨_,rfl,w,_,_,_,rfl,rfl,hp5,ZdV r,few rfl,fun t nt=>⟨t,_,rfl,.inr (.of Zab),rfl,rfl,_,rfl,?_⟩⟩
    have s0:=Zac (o:=.tup [V.str "union",.str "parted"]) nt
    have kin:(if false=true then !inV (V.str r.word) [V.str "union",.str "parted"] else inV (V.str r.word) [V.str "union",.str "parted"])=r.tie:=Zoj
    cases hti:r.tie with
    | false=>exact Zau (kin.trans hti) (Zb2 (rest2 _ _ ⟨s0,last,rfl,by rw [fo]; exact (ZlK (fun z=>by rw [hti] at z; cases z.1)).symm,ht⟩))
    | true =>
     refine ZaR (kin.trans hti) ?_
     obtain ⟨a1,b1,er,ep⟩:=ZgD hti
     rw [er] at hp5
     refine ⟨_,rfl,_,rfl,_,rfl,w,_,rfl,s0.sqt hp5,fun H7 p1 s7 hp1=>⟨p1,[a1,b1],rfl,hp1,by show 2<64; decide,fun F1 zs1 nF1 perm1 so1=>?_⟩⟩
     obtain rfl:=Zc5 perm1 so1
     have t1:=Zac (o:=.lst ([(Zaj a1 b1).1,(Zaj a1 b1).2].map V.str)) nF1
     have s05:=s5.trans (s0.trans (s7.trans t1))
     refine ⟨_,rfl,_,rfl,_,rfl,a,_,rfl,s05.sqt hE,fun H8 p2 s8 hp2=>?_⟩
     rw [show ZhA (e.row.map kV) (some 1) (some 3)=[x,y].map V.str from cut] at hp2
     refine ⟨p2,[x,y],rfl,hp2,by show 2<64; decide,fun F3 zs3 nF3 perm3 so3=>?_⟩
     obtain rfl:=Zc5 perm3 so3
     have t3:=Zac (o:=.lst ([(Zaj x y).1,(Zaj x y).2].map V.str)) nF3
     have s02:=s0.trans (s7.trans (t1.trans (s8.trans t3)))
     refine ⟨_,_,Zel (zs:=[(Zaj a1 b1).1,(Zaj a1 b1).2]) (.of ((s8.trans t3) _ _ Zab)),Zel (zs:=[(Zaj x y).1,(Zaj x y).2]) (.of Zab),.inr ⟨_,_,rfl,rfl⟩,by show Zdt _+1≤60; rw [Zgi]; decide,_,rfl,?_⟩
     show if Zdg _ _=true then _ else _
     rw [Zgl]
     by_cases c:Zaj a1 b1=Zaj x y
     ·rw [decide_eq_true (show [(Zaj a1 b1).1,(Zaj a1 b1).2]=[(Zaj x y).1,(Zaj x y).2] by rw [c])]
      have c':r.tie=true∧Zaj r.pr.1 r.pr.2=Zaj x y:=⟨hti,by rw [ep]; exact c⟩
      refine ZcF ?_
      cases last with
      | none=>exact ⟨_,rfl,rfl,_,rfl,ZaR rfl (ZcF ⟨_,rfl,rest2 _ _ ⟨s02,some (r,w),rfl,by rw [fo]; exact (Zk9 c').symm,fun p' z=>by cases z; exact ⟨pm,hti⟩⟩⟩)⟩
      | some l =>
       obtain ⟨lm,lt⟩:=ht l rfl
       obtain ⟨x3,y3,lr,lp⟩:=ZgD lt
       have hl6:=s02.sqt (s5.sqt (hR l lm))
       rw [lr] at hl6
       refine ⟨_,rfl,rfl,_,rfl,Zau rfl ⟨_,rfl,l.2,_,_,_,rfl,rfl,hl6,Zae (j:=3) rfl,_,rfl,w,_,_,_,rfl,rfl,s02.sqt hp5,Zae (j:=3) rfl,_,_,rfl,rfl,_,rfl,?_⟩⟩
       have fm:=Zms (l:=l.1) c'
       by_cases hd:l.1.day<r.day
       ·rw [if_pos hd] at fm
        exact ZaR (decide_eq_true hd) ⟨_,rfl,rest2 _ _ ⟨s02,some (r,w),rfl,by rw [fo]; exact fm.symm,fun p' z=>by cases z; exact ⟨pm,hti⟩⟩⟩
       ·rw [if_neg hd] at fm
        exact Zau (decide_eq_false hd) (rest2 _ _ ⟨s02,some l,rfl,by rw [fo]; exact fm.symm,ht⟩)
     ·rw [decide_eq_false (fun z=>c (by injection z with z1 z2; injection z2 with z3; exact Prod.ext z1 z3))]
      exact Zb2 (rest2 _ _ ⟨s02,last,rfl,by rw [fo]; exact (ZlK (fun z=>c (by rw [← z.2,ep]))).symm,ht⟩)
   obtain ⟨s6,last,rfl,hl,ht⟩:=hJ
   have s56:=s5.trans s6
   have hp6:=s6.sqt hp5
   refine ⟨_,rfl,_,rfl,?_⟩
   dsimp only [Zdf]
   refine ⟨w,_,rfl,hp6,fun H7 p1 s7 hp1=>?_⟩
   have hE7:=(s56.trans s7).sqt hE
   refine ⟨_,rfl,a,_,_,_,rfl,rfl,hE7,at1,_,rfl,a,_,_,_,rfl,rfl,hE7,at2,few rfl,fun p2 n2=>?_⟩
   have s8:=Zac (o:=.tup [V.str "given",.str x,.str y]) n2
   have h1:SqT K (upd H7 p2 (.tup [V.str "given",.str x,.str y])) p1 ((r.row.take 3).map kV):=by
    have:=s8.sqt hp1
    rwa [show ZhA (r.row.map kV) none (some 3)=(r.row.take 3).map kV from ZiY r.row 3 (ZiD r)] at this
   have h2:SqT K (upd H7 p2 (.tup [V.str "given",.str x,.str y])) p2 ([.inr "given",.inr x,.inr y].map kV):=.of Zab
   refine ⟨_,_,ZgA h1,ZgA h2,.inl ⟨_,_,rfl,rfl⟩,by show Zdt _+1≤60; rw [Ze8]; decide,_,rfl,?_⟩
   show if Zdg _ _=true then _ else _
   rw [Ze5]
   have s9:=s56.trans (s7.trans s8)
   by_cases c:r.row.take 3=[.inr "given",.inr x,.inr y]
   ·rw [decide_eq_true c]
    obtain ⟨am,d,rfl⟩:=Zfa c
    rw [Zmv (am:=am) (d:=d) rfl] at sk
    exact ZcF ⟨_,rfl,_,rfl,w,_,_,_,rfl,rfl,(s7.trans s8).sqt hp6,Zae (j:=3) rfl,_,_,rfl,rfl,s9,last,tot+am,_,rfl,hl,ht,sk.symm⟩
   ·rw [decide_eq_false c]
    rw [Zoo (c:=(x,y)) c,Int.add_zero] at sk
    exact Zb2 ⟨s9,last,tot,_,rfl,hl,ht,sk.symm⟩
 obtain ⟨s5,last,tot,v6,rfl,hl,ht,es⟩:=hJ
 have hB5:=hB.mono s5
 have hE5:=s5.sqt hE
 have hv5:BkHas K T.c_Book H5 (.ref b) B:=⟨b,dx,k,bi,li,ti,su,rfl,hB5⟩
 obtain ⟨tl9,sb9⟩:=st x y
 refine ⟨_,rfl,b,dx,_,rfl,hB5.ob,rfl,_,rfl,a,_,_,_,rfl,rfl,hE5,at1,_,rfl,a,_,_,_,rfl,rfl,hE5,at2,rfl,.ref b,x,y,B,rfl,hv5,kx,ky,tl9,fun H6 s6=>?_⟩
 rw [sb9]
 have s56:=s5.trans s6
 have hB6:=hB.mono s56
 have hE6:=s56.sqt hE
 have hv6:BkHas K T.c_Book H6 (.ref b) B:=⟨b,dx,k,bi,li,ti,su,rfl,hB6⟩
 unfold ZmY
 rw [← hl]
 subst es
 cases last with
 | none =>
  refine ⟨_,rfl,rfl,_,rfl,Zau rfl ⟨rfl,_,rfl,Zau (by decide) ?_⟩⟩
  dsimp only [Zbu]
  refine ⟨_,rfl,b,dx,_,rfl,hB6.ob,rfl,_,rfl,a,_,_,_,rfl,rfl,hE6,at1,_,rfl,a,_,_,_,rfl,rfl,hE6,at2,rfl,.ref b,x,y,B,rfl,hv6,kx,ky,fun H7 s7=>?_⟩
  rw [sm9]
  refine ⟨_,rfl,rfl,?_⟩
  rw [decide_eq_true (rfl:V.int (ZlF (x,y) (ks.map (·.1)))=V.int (ZlF (x,y) (ks.map (·.1))))]
  exact q _ (s56.trans s7)
 | some p =>
  obtain ⟨hm,tt⟩:=ht p rfl
  obtain ⟨x3,y3,er,ep⟩:=ZgD tt
  have hp2:=s56.sqt (hR p hm)
  rw [er] at hp2
  refine ⟨_,rfl,rfl,_,rfl,ZaR rfl ⟨_,rfl,p.2,_,_,_,rfl,rfl,hp2,Zae (j:=0) rfl,rfl,rfl,_,rfl,?_⟩⟩
  have e2:decide (kV (.inr p.1.kind)=V.str "union")=decide (p.1.kind="union"):=by rw [Bool.eq_iff_iff]; simp [kV]
  rw [e2]
  refine Zau (by show (!decide (V.bl (decide (p.1.kind="union"))=V.bl (decide (p.1.kind="union"))))=false; rw [decide_eq_true rfl]; rfl) ?_
  dsimp only [Zbu]
  refine ⟨_,rfl,b,dx,_,rfl,hB6.ob,rfl,_,rfl,a,_,_,_,rfl,rfl,hE6,at1,_,rfl,a,_,_,_,rfl,rfl,hE6,at2,rfl,.ref b,x,y,B,rfl,hv6,kx,ky,fun H7 s7=>?_⟩
  rw [sm9]
  refine ⟨_,rfl,rfl,?_⟩
  rw [decide_eq_true (rfl:V.int (ZlF (x,y) (ks.map (·.1)))=V.int (ZlF (x,y) (ks.map (·.1))))]
  exact q _ (s56.trans s7)
theorem ZqB (T:Tx K w mg) (ZcT:ZdZ P base T) (ZbW:Zeq P base T) (Zcx:Zeu P base T) (Zd0:ZfW P base T) (Za9:ZeH P base T) (Zd7:ZfZ P base T) (Zeh:Zh4 P base T) (Zc4:Zf1 P base T) (Zeb:ZfY P base T):ZqQ P base T:=by
 refine Fun.okX (k:=8) T.Zle.F ZdS (fun vs H Q E h=>h.1) (fun cdv A outer s H vs Q E hr h=>?_)
 obtain ⟨-,h⟩:=h
 obtain ⟨l,ns,rfl,hl,hlen,q⟩:=h
 refine ⟨_, (Zag (ZaH (i := 1) ZdS.nd rfl (Or.inl rfl) (ZaB Zd0 (hr.mono (by decide)) (by rfl) T.ZbM.m T.ZbM.F.kp T.ZbM.b .nil Zak (Zaa (ZaB Zcx (hr.mono (by decide)) (by rfl) T.ZaV.m T.ZaV.F.kp T.ZaV.b .nil Zak (Zaa (pv 0) (Zaa Zad Zaf))) (Zaa (ZaF Zcd Zad (ZaF ZbH (ZaB Zcx (hr.mono (by decide)) (by rfl) T.ZaV.m T.ZaV.F.kp T.ZaV.b .nil Zak (Zaa (pv 0) (Zaa Zad Zaf))) Zad)) Zaf))))
   (Zag (ZaH (i:=2) ZdS.nd rfl (Or.inl rfl) (Zny T.mk_Book ZcT (hr.mono (by decide)) (by rfl) T.m_Book T.Zbt.b .nil Zak))
   (Zag (ZaH (i:=3) ZdS.nd rfl (Or.inl rfl) (Zbv Zaf))
   (Zag (ZaH (i:=4) ZdS.nd rfl (Or.inl rfl) (Zbv Zaf))
   (Zag (ZaH (i:=5) ZdS.nd rfl (Or.inl rfl) (Zbv (Zaa (Zbv Zaf) (Zaa (Zbv Zaf) Zaf))))
   (Zag (Zd2 PassesOwn.leaving rfl (ZcH (Zby ZpR (pv 0) (Zbp Zad) (Zbp Zad))) (Za2 (i:=6) ZdS.nd rfl (Or.inl rfl))
    (Zag (ZaH (i:=7) ZdS.nd rfl (Or.inl rfl) (ZaB Zd7 (hr.mono (by decide)) (by rfl) T.ZbK.m T.ZbK.F.kp T.ZbK.b .nil Zak (Zaa (pv 6) (Zaa (pv 1) Zaf))))
   (Zag (ZaH (i:=8) ZdS.nd rfl (Or.inl rfl) (ZaB Zeh (hr.mono (by decide)) (by rfl) T.ZbD.m T.ZbD.F.kp T.ZbD.b .nil Zak (Zaa (pv 3) (Zaa (pv 7) (Zaa (ZaN Zj8 (ZaB Za9 (hr.mono (by decide)) (by rfl) T.ZaA.m T.ZaA.F.kp T.ZaA.b .nil Zak (Zaa (pv 6) (Zaa Zad (Zaa Zad Zaf)))) Zad (Zar _)) Zaf)))))
   (Zag (ZaQ (Zdn (ZcJ (ZaB Zc4 (hr.mono (by decide)) (by rfl) T.Zbe.m T.Zbe.F.kp T.Zbe.b .nil Zak (Zaa (pv 2) (Zaa (pv 3) (Zaa (pv 7) (Zaa (pv 8) Zaf))))))) (Zah (Zay ZdT)) Zav)
   (Zag (ZaQ (PW.pt (Ze4 (Zaq ZcD (pv 8) (ZaW (Zaa Zad (Zaa Zad Zaf))) (by rfl)) (ZdE (Zaq Zj8 (ZaC ZaT (by rfl) T.n_len ZcC (Zaa (pv 4) Zaf)) Zad (Zar _))))) (Zah (Zbq (ZpD PySem.F.plainAttrs_list PySem.F.slot_list_append PySem.F.type_list_append Zfs (pv 4) (Zaa (pv 7) Zaf)))) Zav)
   (Zah (ZaQ (Zaq Zbb (ZaF ZbH (pv 6) Zad) Zad (Zar _)) (Zah (ZaH (i:=5) ZdS.nd rfl (Or.inl rfl) (Zbv (Zaa (Zhl (pv 2) T.cl_Book T.ZaU.me ZbW (hr.mono (by decide)) T.ZaU.b .nil Zak) (Zaa (ZaC (ZdU Zfi K rfl) (by rfl) T.n_sorted ZbU (Zaa (pv 3) Zaf)) Zaf))))) Zav)))))))
   (Zag (ZaQ (Zaq (Zq5 hr.units) (Zhl (pv 2) T.cl_Book T.ZaU.me ZbW (hr.mono (by decide)) T.ZaU.b .nil Zak) (ZaC (ZdU Zfi K rfl) (by rfl) T.n_sorted ZbU (Zaa (pv 3) Zaf)) (Zar _)) (Zah (Zay ZdT)) Zav)
   (Zag (Zd2 PassesOwn.leaving rfl (ZcH (pv 4)) (Za2 (i:=7) ZdS.nd rfl (Or.inl rfl))
    (Zah (ZaQ (PW.pt (ZfJ (Zdn (ZcJ (ZaB Zeb (hr.mono (by decide)) (by rfl) T.ZbL.m T.ZbL.F.kp T.ZbL.b .nil Zak (Zaa (pv 2) (Zaa (pv 3) (Zaa (pv 7) Zaf)))))) (Zet (Zdn (ZcJ (ZaB Zc4 (hr.mono (by decide)) (by rfl) T.Zbe.m T.Zbe.F.kp T.Zbe.b .nil Zak (Zaa (pv 2) (Zaa (pv 3) (Zaa (pv 7) (Zaa (ZaB Zeh (hr.mono (by decide)) (by rfl) T.ZbD.m T.ZbD.F.kp T.ZbD.b .nil Zak (Zaa (pv 3) (Zaa (pv 7) (Zaa ZdT Zaf)))) Zaf)))))))))) (Zah (Zay ZdT)) Zav)))
   (Zah (Zay (ZcI (ZaN (Ze1 hr.units) (Zhl (pv 2) T.cl_Book T.ZaU.me ZbW (hr.mono (by decide)) T.ZaU.b .nil Zak) (ZaC (ZdU Zfi K rfl) (by rfl) T.n_sorted ZbU (Zaa (pv 3) Zaf)) (Zar _)) (ZcK (ZaN (Ze1 hr.units) (Zas Za7 (pv 5) Zad (fun _ _=>rfl)) (Zas Za7 (pv 5) Zad (fun _ _=>rfl)) (Zar _)))))))))))))),?_⟩
 have zd:∀ n:Int,1≤n->n≤1000->n≠0∧n.natAbs<2 ^ 1000:=fun n h1 h2=>⟨by omega,Nat.lt_of_le_of_lt (show n.natAbs≤1000 by omega) (by decide +kernel)⟩
 refine ⟨_,rfl,rfl,l,ns,0,rfl,hl,by decide,fun z0=>⟨_,rfl,rfl,l,ns,1,rfl,hl,by decide,fun z1=>?_⟩⟩
 have m0:=Int.fmod_nonneg_of_pos z1 (show (0:Int)<30 by decide)
 have m1:=Int.fmod_lt_of_pos z1 (show (0:Int)<30 by decide)
 refine ⟨_,_,rfl,rfl,(by decide:(30:Int)≠0),_,_,rfl,rfl,rfl,z0,4+z1.fmod 30,rfl,by omega,by omega,fun H1 D pool s1 hDn nlen nnm nnd=>?_⟩
 have p4:4≤pool.length:=by omega
 have p33:pool.length≤33:=by omega
 refine fun b dx nb ndx nn=>⟨rfl,b,dx,rfl,Zab,fun H2 k bi li ti su hB2 keep nk nbi nli nti nsu=>⟨rfl,?_⟩⟩
 have s2:Same H1 H2:=fun c o e=>keep c o (by rw [Zai (Zal e nb),Zai (Zal e ndx)]; exact e) (Zal e nb)
 refine ⟨few rfl,fun L nL=>?_⟩
 have sL:=Zac (o:=.lst []) nL
 refine ⟨few rfl,fun M nM=>?_⟩
 have sM:=Zac (o:=.lst []) nM
 refine ⟨few rfl,fun E1 nE1=>⟨few rfl,fun E2 nE2=>⟨few rfl,fun Hd nHd=>?_⟩⟩⟩
 have t1:=Zac (o:=.lst []) nE1
 have t2:=Zac (o:=.lst []) nE2
 have t3:=Zac (o:=.lst [V.ref E1,.ref E2]) nHd
 have gL:=(sM.trans (t1.trans (t2.trans t3))) L _ Zab
 have gM:=(t1.trans (t2.trans t3)) M _ Zab
 have g1:=(t2.trans t3) E1 _ Zab
 have g2:=t3 E2 _ Zab
 have gH:=Zab (H:=upd (upd (upd (upd H2 L (.lst [])) M (.lst [])) E1 (.lst [])) E2 (.lst [])) (a:=Hd) (o:=.lst [V.ref E1,.ref E2])
 have sA:=s2.trans (sL.trans (sM.trans (t1.trans (t2.trans t3))))
 have LM:L≠M:=Zal (Zab (H:=H2)) nM
 have hB3:=hB2.mono (sL.trans (sM.trans (t1.trans (t2.trans t3))))
 have sD:=sA _ _ hDn
 have oD:D≠L∧D≠M:=⟨Zal (s2 _ _ hDn) nL,Zal (sL _ _ (s2 _ _ hDn)) nM⟩
 have oE1:E1≠L∧E1≠M:=⟨(Zal (sM L _ Zab) nE1).symm,(Zal Zab nE1).symm⟩
 have oE2:E2≠L∧E2≠M:=⟨(Zal (t1 _ _ (sM L _ Zab)) nE2).symm,(Zal (t1 M _ Zab) nE2).symm⟩
 have oHd:Hd≠L∧Hd≠M:=⟨(Zal (t2 _ _ (t1 _ _ (sM L _ Zab))) nHd).symm,(Zal (t2 _ _ (t1 M _ Zab)) nHd).symm⟩
 generalize upd (upd (upd (upd (upd H2 L (.lst [])) M (.lst [])) E1 (.lst [])) E2 (.lst [])) Hd (.lst [V.ref E1,.ref E2])=H3 at *
 obtain ⟨cs,ecs,clen⟩:=Znx ns 2 62
 refine ⟨_,rfl,_,rfl,_,rfl,l,_,rfl,(s1.trans sA).sql hl,fun lc nlc=>?_⟩
 rw [show ZhA (List.map V.int ns) (some 2) (some 62)=cs.map V.int from ecs]
 have sC:=Zac (o:=.lst (cs.map V.int)) nlc
 have hlc:(upd H3 lc (.lst (cs.map V.int))) lc=some (.lst (cs.map V.int)):=Zab
 have hB4:=hB3.mono sC
 generalize upd H3 lc (.lst (cs.map V.int))=H4 at *
 have ne1:∀ c,(∃ w,H3 c=some w)->c≠lc:=fun c ⟨w,e⟩ z=>by rw [z,nlc] at e; cases e
 have cs60:cs.length≤60:=by omega
 refine ⟨lc,rfl,⟨_,.of hlc⟩,Zdx (xs:=cs.map V.int) (fun i σ Hc=>∃ (B:Bk) (ks ls o1 o2:List (Ent × Addr)) (E1 E2 Hd:Addr) (v6 v7 v8:Option V),σ=[some (.ref l),some (.ref D),some (.ref b),some (.ref L),some (.ref M),some (.ref Hd),v6,v7,v8]∧BkAt K T.c_Book Hc b dx k bi li ti su B∧LI5 pool B ks∧ks.length+ls.length≤i∧(Hc L=some (.lst (Zaz ks))∧RowsAt K Hc ks)∧(Hc M=some (.lst (Zaz ls))∧RowsAt K Hc ls∧ls.length≤12∧∀ p∈ls,D5 pool p.1)∧(∀ q∈B.links,q.2.1≠L∧q.2.1≠M)∧(Hc Hd=some (.lst [V.ref E1,.ref E2])∧Hc E1=some (.lst (Zaz o1))∧Hc E2=some (.lst (Zaz o2))∧RowsAt K Hc o1∧RowsAt K Hc o2∧(o1.map fun p=>p.1.row)=(o2.map fun p=>p.1.row)∧(o1.length≤100))∧(∀ c∈[D,lc,E1,E2,Hd],c≠L∧c≠M)∧Hc D=some (.lst (pool.map V.str))∧Hc lc=some (.lst (cs.map V.int))∧∀ q∈B.links,∀ c∈[E1,E2,Hd],q.2.1≠c) ?start ?list ?turn ?done⟩
 case list =>
  rintro i σ Hc _ ⟨B,ks,ls,o1,o2,F1,F2,Gd',v6,v7,v8,rfl,_,_,_,_,_,_,_,_,_,h,_⟩
  exact .of h
 case start =>
  refine ⟨bk0,[],[],[],[],E1,E2,Hd,_,_,_,rfl,hB4,LI5.start pool,Nat.le_refl _,⟨sC _ _ gL,fun p hp=>(by cases hp)⟩,⟨sC _ _ gM,fun p hp=>(by cases hp),by decide,fun p hp=>(by cases hp)⟩,fun q hq=>(by cases hq),⟨sC _ _ gH,sC _ _ g1,sC _ _ g2,fun p hp=>(by cases hp),fun p hp=>(by cases hp),rfl,by decide⟩,fun c hc=>?_,sC _ _ sD,hlc,fun q hq=>(by cases hq)⟩
  simp only [List.mem_cons,List.not_mem_nil,or_false] at hc
  rcases hc with rfl | rfl | rfl | rfl | rfl
  ·exact oD
  ·exact ⟨(Zal gL nlc).symm,(Zal gM nlc).symm⟩
  ·exact oE1
  ·exact oE2
  ·exact oHd
 case turn =>
  rintro i y σ Hc hy ⟨B,ks,ls,o1,o2,F1,F2,G,v6,v7,v8,rfl,hB,li5,kl,⟨hL,hR⟩,⟨hM,hRM,l12,d5⟩,lo,hheld,off,hDc,hlcc,lo2⟩
  obtain ⟨c,rfl,hc⟩:=Zpr hy
  have il:i<cs.length:=(List.getElem?_eq_some_iff.mp hc).1
  refine ⟨_,rfl,_,rfl,rfl,c,D,pool,rfl,.of hDc,p4,p33,nnm,fun H5 v s5 good bad=>?_⟩
  refine ⟨_,rfl,_,rfl,_,rfl,rfl,c,0,14,rfl,by decide,by decide,by decide,fun H6 zk s6 zk0 zk1 ek=>?_⟩
  have ek:=ek rfl
  subst ek
  have s56:=s5.trans s6
  have hB6:=hB.mono s56
  have kl60:ks.length≤60:=by omega
  obtain ⟨kso,b60⟩:=li5.ksok kl60 p33
  refine ⟨_,_,rfl,rfl,rfl,L,v,decide (Zn9 c 14<13),rfl,fun hk=>?_,fun hk=>?_⟩
  ·have hk':=of_decide_eq_false hk
   have bd:=Zll (bad (by omega)) s6
   dsimp only [ZiJ]
   refine Zch (fun σ H8=>∃ (B':Bk) (ks':List (Ent × Addr)) (z:Int) (v:V),σ=[some (.ref l),some (.ref D),some (.ref b),some (.ref L),some (.ref M),some (.ref G),some (.int c),some v,some (.int z)]∧BkAt K T.c_Book H8 b dx k bi li ti su B'∧LI5 pool B' ks'∧ks'.length+ls.length≤i+1∧((z=2∨z=4)->∃ (e:Ent) (a:Addr),v=.ref a∧SqT K H8 a (e.row.map kV)∧D5 pool e∧ks'.length+ls.length≤i)∧H8 L=some (.lst (Zaz ks'))∧RowsAt K H8 ks'∧(∀ q∈B'.links,q.2.1≠L∧q.2.1≠M∧∀ c∈[F1,F2,G],q.2.1≠c)∧(∀ c xs,c≠L->Hc c=some (.lst xs)->H8 c=some (.lst xs))∧∀ a xs,SqT K Hc a xs->SqT K H8 a xs) (fun nx rest=>?_) (fun σ8 H8 h8=>?_)
   rotate_left
   ·obtain ⟨B',ks',z,v,rfl,hB8,li8,kl8,lat,hL8,hR8,lo8,kL8,kT8⟩:=h8
    have hM8:=kL8 _ _ LM.symm hM
    refine Zch (fun σ H9=>∃ ls':List (Ent × Addr),σ=[some (.ref l),some (.ref D),some (.ref b),some (.ref L),some (.ref M),some (.ref G),some (.int c),some v,some (.int z)]∧BkAt K T.c_Book H9 b dx k bi li ti su B'∧ks'.length+ls'.length≤i+1∧H9 M=some (.lst (Zaz ls'))∧RowsAt K H9 ls'∧ls'.length≤12∧(∀ p∈ls',D5 pool p.1)∧(∀ c xs,c≠M->H8 c=some (.lst xs)->H9 c=some (.lst xs))∧∀ a xs,SqT K H8 a xs->SqT K H9 a xs) (fun nx rest=>?_) (fun σ H9 h9=>?_)
    ·refine ⟨_,rfl,few rfl,fun t nt=>⟨t,_,rfl,.inr (.of Zab),rfl,rfl,_,rfl,?_⟩⟩
     have st:=Zac (o:=.tup [V.int 2,.int 4]) nt
     have done:∀ H9,Same H8 H9->nx [some (.ref l),some (.ref D),some (.ref b),some (.ref L),some (.ref M),some (.ref G),some (.int c),some v,some (.int z)] H9:=fun H9 s9=>rest _ _ ⟨ls,rfl,hB8.mono s9,kl8,s9 _ _ hM8,fun p hp=>s9.sqt (kT8 _ _ (hRM p hp)),l12,d5,fun c xs _ e=>s9 _ _ e,fun a xs e=>s9.sqt e⟩
     have iz:(if false=true then !inV (.int z) [V.int 2,.int 4] else inV (.int z) [V.int 2,.int 4])=decide (z=2∨z=4):=by
      by_cases h2:z=2
      ·subst h2; rfl
      ·by_cases h4:z=4
       ·subst h4; rfl
       ·rw [decide_eq_false (by omega)]
        simp [inV,eqV,Ne.symm h2,Ne.symm h4,h2,h4]
     by_cases hz:z=2∨z=4
     ·refine ZaR (iz.trans (decide_eq_true hz)) ?_
      obtain ⟨e,a,rfl,hE8,d5e,kl9⟩:=lat hz
      have hMt:=st _ _ hM8
      refine ⟨_,rfl,M,_,rfl,.inl (.of hMt),_,_,rfl,rfl,_,rfl,Zhz (fun h12=>?_) (fun h12=>done _ st)⟩
      have h12':=of_decide_eq_true h12
      rw [ZaX] at h12'
      refine ⟨_,rfl,.inl ⟨rfl,_,.of hMt⟩,_,rfl,M,_,_,rfl,rfl,hMt,Zam (by rw [ZaX]; omega),?_⟩
      have er:Zaz ls++[V.ref a]=Zaz (ls++[(e,a)]):=by unfold Zaz; rw [List.map_append]; rfl
      rw [er]
      refine rest _ _ ⟨ls++[(e,a)],rfl,(hB8.mono st).off hMt (fun q hq=>(lo8 q hq).2.1),by rw [List.length_append]; show ks'.length+(ls.length+1)≤i+1; omega,Zab,fun p hp=>?_,by rw [List.length_append]; show ls.length+1≤12; omega,fun p hp=>?_,fun c xs nc e=>(Zai nc).trans (st _ _ e),fun a xs e=>ZaO (st.sqt e) hMt (fun _ z=>by cases z) (fun _ _ z=>by cases z)⟩
      ·rcases List.mem_append.mp hp with hp | hp
       ·exact ZaO (st.sqt (kT8 _ _ (hRM p hp))) hMt (fun _ z=>by cases z) (fun _ _ z=>by cases z)
       ·rw [List.mem_singleton.mp hp]; exact ZaO (st.sqt hE8) hMt (fun _ z=>by cases z) (fun _ _ z=>by cases z)
      ·rcases List.mem_append.mp hp with hp | hp
       ·exact d5 p hp
       ·rw [List.mem_singleton.mp hp]; exact d5e
     ·exact Zau (iz.trans (decide_eq_false hz)) (Zb2 (done _ st))
    obtain ⟨ls',rfl,hB9,kl9,hM9,hRM9,l129,d59,kL9,kT9⟩:=h9
    have hL9:=kL9 _ _ LM hL8
    have hR9:RowsAt K H9 ks':=fun p hp=>kT9 _ _ (hR8 p hp)
    have up:∀ c xs,c≠L->c≠M->Hc c=some (.lst xs)->H9 c=some (.lst xs):=fun c xs h1 h2 e=>kL9 _ _ h2 (kL8 _ _ h1 e)
    obtain ⟨q1,q2,q3,q4,q5,q6,q7⟩:=hheld
    have o1:∀ x∈[D,lc,F1,F2,G],x≠L∧x≠M:=off
    have dD:=o1 D (by simp)
    have dl:=o1 lc (by simp)
    have d1:=o1 F1 (by simp)
    have d2:=o1 F2 (by simp)
    have dG:=o1 G (by simp)
    have hD9:=up D _ dD.1 dD.2 hDc
    have hlc9:=up lc _ dl.1 dl.2 hlcc
    refine ⟨_,rfl,_,_,rfl,rfl,(by decide:(8:Int)≠0),rfl,_,rfl,Zhz (fun h3=>?_) (fun h3=>?_)⟩
    ·have kk:B'.kept.length≤60:=by have:=Zek li8.st.kept; rw [List.length_map] at this; omega
     refine ⟨_,rfl,b,dx,_,rfl,hB9.ob,rfl,rfl,.ref b,B',rfl,⟨b,dx,k,bi,li,ti,su,rfl,hB9⟩,kk,fun H10 A1 u1 s10 nA1 pm1 so1 hA1=>?_⟩
     refine ⟨_,rfl,L,ks'.map fun p=>(p.2,p.1.row),rfl,.of (by rw [s10 _ _ hL9,List.map_map]; rfl),by rw [List.length_map]; omega,fun p hp=>?rws,fun A2 w2 nA2 pm2 so2=>?_⟩
     case rws =>
      obtain ⟨p',hp',rfl⟩:=List.mem_map.mp hp
      exact ⟨s10.sqt (hR9 p' hp'),⟨_,rfl⟩,ZdO _⟩
     obtain ⟨u2,p2,rfl⟩:=ZbI pm2 ks' rfl
     rw [List.map_map] at so2
     refine ⟨few rfl,fun G2 nG2=>?_⟩
     have sA2:=Zac (o:=.lst (((u2.map fun p=>(p.2,p.1.row))).map fun p=>V.ref p.1)) nA2
     have sG:=Zac (o:=.lst [V.ref A1,.ref A2]) nG2
     have s9g:=s10.trans (sA2.trans sG)
     have gA1:=(sA2.trans sG) _ _ hA1
     have gA2:(upd (upd H10 A2 (.lst (((u2.map fun p=>(p.2,p.1.row))).map fun p=>V.ref p.1))) G2 (.lst [V.ref A1,.ref A2])) A2=some (.lst (Zaz u2)):=sG _ _ (by rw [Zab,List.map_map]; rfl)
     have re:(u1.map fun p=>p.1.row)=u2.map fun p=>p.1.row:=by
      refine ZdP ?_ so1 so2
      have e1:(B'.kept.map fun p=>p.1.row)=ks'.map fun p=>p.1.row:=by
       have:=congrArg (List.map Ent.row) li8.st.kept
       rwa [List.map_map,List.map_map] at this
      have a1:=pm1.map fun p:Ent × Addr=>p.1.row
      have a2:=p2.map fun p:Ent × Addr=>p.1.row
      rw [e1] at a1
      exact a1.trans a2.symm
     have fr:∀ x w,H9 x=some w->x≠A1∧x≠A2∧x≠G2:=fun x w e=>⟨Zal e nA1,Zal (s10 _ _ e) nA2,Zal (sA2 _ _ (s10 _ _ e)) nG2⟩
     have fL:=fr L _ hL9
     have fM:=fr M _ hM9
     have ul:u1.length≤100:=by rw [pm1.length_eq]; have:=Zek li8.st.kept; rw [List.length_map] at this; omega
     refine ⟨B',ks',ls',u1,u2,A1,A2,G2,_,_,_,rfl,hB9.mono s9g,li8,kl9,⟨s9g _ _ hL9,hR9.mono s9g⟩,⟨s9g _ _ hM9,hRM9.mono s9g,l129,d59⟩,fun q hq=>⟨(lo8 q hq).1,(lo8 q hq).2.1⟩,⟨Zab,gA1,gA2,fun p hp=>s9g.sqt (hB9.en p (pm1.mem_iff.mp hp)),fun p hp=>s9g.sqt (hR9 p (p2.mem_iff.mp hp)),re,ul⟩,fun x hx=>?_,s9g _ _ hD9,s9g _ _ hlc9,fun q hq x hx=>?_⟩
     ·simp only [List.mem_cons,List.not_mem_nil,or_false] at hx
      rcases hx with rfl | rfl | rfl | rfl | rfl
      ·exact dD
      ·exact dl
      ·exact ⟨fL.1.symm,fM.1.symm⟩
      ·exact ⟨fL.2.1.symm,fM.2.1.symm⟩
      ·exact ⟨fL.2.2.symm,fM.2.2.symm⟩
     ·have f:=fr q.2.1 _ (hB9.ll q hq)
      simp only [List.mem_cons,List.not_mem_nil,or_false] at hx
      rcases hx with rfl | rfl | rfl
      ·exact f.1
      ·exact f.2.1
      ·exact f.2.2
    ·exact ⟨B',ks',ls',_,_,F1,F2,G,_,_,_,rfl,hB9,li8,kl9,⟨hL9,hR9⟩,⟨hM9,hRM9,l129,d59⟩,fun q hq=>⟨(lo8 q hq).1,(lo8 q hq).2.1⟩,⟨up G _ dG.1 dG.2 q1,up F1 _ d1.1 d1.2 q2,up F2 _ d2.1 d2.2 q3,fun p hp=>kT9 _ _ (kT8 _ _ (q4 p hp)),fun p hp=>kT9 _ _ (kT8 _ _ (q5 p hp)),q6,q7⟩,off,hD9,hlc9,fun q hq=>(lo8 q hq).2.2⟩
   refine ⟨_,rfl,_,rfl,_,rfl,_,rfl,rfl,b,dx,k,bi,li,ti,su,B,L,v,0,rfl,hB6,.inl ⟨bd,rfl,fun H7 s7=>⟨_,rfl,Zb2 (rest _ _ ?_)⟩⟩⟩
   have s57:=s56.trans s7
   exact ⟨B,ks,0,v,rfl,hB.mono s57,li5,by omega,fun z=>by omega,s57 _ _ hL,hR.mono s57,fun q hq=>⟨(lo q hq).1,(lo q hq).2,lo2 q hq⟩,fun c xs _ e=>s57 _ _ e,fun a xs e=>s57.sqt e⟩
  ·have hk':=of_decide_eq_true hk
   obtain ⟨e,a,rfl,hE,d5e⟩:=good hk'
   have hE6:=s6.sqt hE
   refine ⟨ks,e,a,rfl,hE6,.of (s56 _ _ hL),hR.mono s56,kso,fun _=>b60,fun H7 s7=>?_⟩
   have er:ZdM (LBk ks) e=ZdM B e:=ZnC (B:=LBk ks) (C:=B) li5.st.kept.symm e
   rw [er]
   have s57:=s56.trans s7
   have hB7:=hB.mono s57
   have nf:ZdM B e≠some .full:=by
    rw [← er]
    intro z
    have fu:=Zhm (e:=e) kso (fun _=>b60)
    unfold ZdM at z
    rw [fu,if_neg (by decide)] at z
    split at z
    ·cases z
    ·split at z
     ·cases z
     ·split at z <;> cases z
   dsimp only [ZiJ]
   refine Zch (fun σ H8=>∃ (B':Bk) (ks':List (Ent × Addr)) (z:Int) (v:V),σ=[some (.ref l),some (.ref D),some (.ref b),some (.ref L),some (.ref M),some (.ref G),some (.int c),some v,some (.int z)]∧BkAt K T.c_Book H8 b dx k bi li ti su B'∧LI5 pool B' ks'∧ks'.length+ls.length≤i+1∧((z=2∨z=4)->∃ (e:Ent) (a:Addr),v=.ref a∧SqT K H8 a (e.row.map kV)∧D5 pool e∧ks'.length+ls.length≤i)∧H8 L=some (.lst (Zaz ks'))∧RowsAt K H8 ks'∧(∀ q∈B'.links,q.2.1≠L∧q.2.1≠M∧∀ c∈[F1,F2,G],q.2.1≠c)∧(∀ c xs,c≠L->Hc c=some (.lst xs)->H8 c=some (.lst xs))∧∀ a xs,SqT K Hc a xs->SqT K H8 a xs) (fun nx rest=>?_) (fun σ8 H8 h8=>?_)
   rotate_left
   ·obtain ⟨B',ks',z,v,rfl,hB8,li8,kl8,lat,hL8,hR8,lo8,kL8,kT8⟩:=h8
    have hM8:=kL8 _ _ LM.symm hM
    refine Zch (fun σ H9=>∃ ls':List (Ent × Addr),σ=[some (.ref l),some (.ref D),some (.ref b),some (.ref L),some (.ref M),some (.ref G),some (.int c),some v,some (.int z)]∧BkAt K T.c_Book H9 b dx k bi li ti su B'∧ks'.length+ls'.length≤i+1∧H9 M=some (.lst (Zaz ls'))∧RowsAt K H9 ls'∧ls'.length≤12∧(∀ p∈ls',D5 pool p.1)∧(∀ c xs,c≠M->H8 c=some (.lst xs)->H9 c=some (.lst xs))∧∀ a xs,SqT K H8 a xs->SqT K H9 a xs) (fun nx rest=>?_) (fun σ H9 h9=>?_)
    ·refine ⟨_,rfl,few rfl,fun t nt=>⟨t,_,rfl,.inr (.of Zab),rfl,rfl,_,rfl,?_⟩⟩
     have st:=Zac (o:=.tup [V.int 2,.int 4]) nt
     have done:∀ H9,Same H8 H9->nx [some (.ref l),some (.ref D),some (.ref b),some (.ref L),some (.ref M),some (.ref G),some (.int c),some v,some (.int z)] H9:=fun H9 s9=>rest _ _ ⟨ls,rfl,hB8.mono s9,kl8,s9 _ _ hM8,fun p hp=>s9.sqt (kT8 _ _ (hRM p hp)),l12,d5,fun c xs _ e=>s9 _ _ e,fun a xs e=>s9.sqt e⟩
     have iz:(if false=true then !inV (.int z) [V.int 2,.int 4] else inV (.int z) [V.int 2,.int 4])=decide (z=2∨z=4):=by
      by_cases h2:z=2
      ·subst h2; rfl
      ·by_cases h4:z=4
       ·subst h4; rfl
       ·rw [decide_eq_false (by omega)]
        simp [inV,eqV,Ne.symm h2,Ne.symm h4,h2,h4]
     by_cases hz:z=2∨z=4
     ·refine ZaR (iz.trans (decide_eq_true hz)) ?_
      obtain ⟨e,a,rfl,hE8,d5e,kl9⟩:=lat hz
      have hMt:=st _ _ hM8
      refine ⟨_,rfl,M,_,rfl,.inl (.of hMt),_,_,rfl,rfl,_,rfl,Zhz (fun h12=>?_) (fun h12=>done _ st)⟩
      have h12':=of_decide_eq_true h12
      rw [ZaX] at h12'
      refine ⟨_,rfl,.inl ⟨rfl,_,.of hMt⟩,_,rfl,M,_,_,rfl,rfl,hMt,Zam (by rw [ZaX]; omega),?_⟩
      have er:Zaz ls++[V.ref a]=Zaz (ls++[(e,a)]):=by unfold Zaz; rw [List.map_append]; rfl
      rw [er]
      refine rest _ _ ⟨ls++[(e,a)],rfl,(hB8.mono st).off hMt (fun q hq=>(lo8 q hq).2.1),by rw [List.length_append]; show ks'.length+(ls.length+1)≤i+1; omega,Zab,fun p hp=>?_,by rw [List.length_append]; show ls.length+1≤12; omega,fun p hp=>?_,fun c xs nc e=>(Zai nc).trans (st _ _ e),fun a xs e=>ZaO (st.sqt e) hMt (fun _ z=>by cases z) (fun _ _ z=>by cases z)⟩
      ·rcases List.mem_append.mp hp with hp | hp
       ·exact ZaO (st.sqt (kT8 _ _ (hRM p hp))) hMt (fun _ z=>by cases z) (fun _ _ z=>by cases z)
       ·rw [List.mem_singleton.mp hp]; exact ZaO (st.sqt hE8) hMt (fun _ z=>by cases z) (fun _ _ z=>by cases z)
      ·rcases List.mem_append.mp hp with hp | hp
       ·exact d5 p hp
       ·rw [List.mem_singleton.mp hp]; exact d5e
     ·exact Zau (iz.trans (decide_eq_false hz)) (Zb2 (done _ st))
    obtain ⟨ls',rfl,hB9,kl9,hM9,hRM9,l129,d59,kL9,kT9⟩:=h9
    have hL9:=kL9 _ _ LM hL8
    have hR9:RowsAt K H9 ks':=fun p hp=>kT9 _ _ (hR8 p hp)
    have up:∀ c xs,c≠L->c≠M->Hc c=some (.lst xs)->H9 c=some (.lst xs):=fun c xs h1 h2 e=>kL9 _ _ h2 (kL8 _ _ h1 e)
    obtain ⟨q1,q2,q3,q4,q5,q6,q7⟩:=hheld
    have o1:∀ x∈[D,lc,F1,F2,G],x≠L∧x≠M:=off
    have dD:=o1 D (by simp)
    have dl:=o1 lc (by simp)
    have d1:=o1 F1 (by simp)
    have d2:=o1 F2 (by simp)
    have dG:=o1 G (by simp)
    have hD9:=up D _ dD.1 dD.2 hDc
    have hlc9:=up lc _ dl.1 dl.2 hlcc
    refine ⟨_,rfl,_,_,rfl,rfl,(by decide:(8:Int)≠0),rfl,_,rfl,Zhz (fun h3=>?_) (fun h3=>?_)⟩
    ·have kk:B'.kept.length≤60:=by have:=Zek li8.st.kept; rw [List.length_map] at this; omega
     refine ⟨_,rfl,b,dx,_,rfl,hB9.ob,rfl,rfl,.ref b,B',rfl,⟨b,dx,k,bi,li,ti,su,rfl,hB9⟩,kk,fun H10 A1 u1 s10 nA1 pm1 so1 hA1=>?_⟩
     refine ⟨_,rfl,L,ks'.map fun p=>(p.2,p.1.row),rfl,.of (by rw [s10 _ _ hL9,List.map_map]; rfl),by rw [List.length_map]; omega,fun p hp=>?rws,fun A2 w2 nA2 pm2 so2=>?_⟩
     case rws =>
      obtain ⟨p',hp',rfl⟩:=List.mem_map.mp hp
      exact ⟨s10.sqt (hR9 p' hp'),⟨_,rfl⟩,ZdO _⟩
     obtain ⟨u2,p2,rfl⟩:=ZbI pm2 ks' rfl
     rw [List.map_map] at so2
     refine ⟨few rfl,fun G2 nG2=>?_⟩
     have sA2:=Zac (o:=.lst (((u2.map fun p=>(p.2,p.1.row))).map fun p=>V.ref p.1)) nA2
     have sG:=Zac (o:=.lst [V.ref A1,.ref A2]) nG2
     have s9g:=s10.trans (sA2.trans sG)
     have gA1:=(sA2.trans sG) _ _ hA1
     have gA2:(upd (upd H10 A2 (.lst (((u2.map fun p=>(p.2,p.1.row))).map fun p=>V.ref p.1))) G2 (.lst [V.ref A1,.ref A2])) A2=some (.lst (Zaz u2)):=sG _ _ (by rw [Zab,List.map_map]; rfl)
     have re:(u1.map fun p=>p.1.row)=u2.map fun p=>p.1.row:=by
      refine ZdP ?_ so1 so2
      have e1:(B'.kept.map fun p=>p.1.row)=ks'.map fun p=>p.1.row:=by
       have:=congrArg (List.map Ent.row) li8.st.kept
       rwa [List.map_map,List.map_map] at this
      have a1:=pm1.map fun p:Ent × Addr=>p.1.row
      have a2:=p2.map fun p:Ent × Addr=>p.1.row
      rw [e1] at a1
      exact a1.trans a2.symm
     have fr:∀ x w,H9 x=some w->x≠A1∧x≠A2∧x≠G2:=fun x w e=>⟨Zal e nA1,Zal (s10 _ _ e) nA2,Zal (sA2 _ _ (s10 _ _ e)) nG2⟩
     have fL:=fr L _ hL9
     have fM:=fr M _ hM9
     have ul:u1.length≤100:=by rw [pm1.length_eq]; have:=Zek li8.st.kept; rw [List.length_map] at this; omega
     refine ⟨B',ks',ls',u1,u2,A1,A2,G2,_,_,_,rfl,hB9.mono s9g,li8,kl9,⟨s9g _ _ hL9,hR9.mono s9g⟩,⟨s9g _ _ hM9,hRM9.mono s9g,l129,d59⟩,fun q hq=>⟨(lo8 q hq).1,(lo8 q hq).2.1⟩,⟨Zab,gA1,gA2,fun p hp=>s9g.sqt (hB9.en p (pm1.mem_iff.mp hp)),fun p hp=>s9g.sqt (hR9 p (p2.mem_iff.mp hp)),re,ul⟩,fun x hx=>?_,s9g _ _ hD9,s9g _ _ hlc9,fun q hq x hx=>?_⟩
     ·simp only [List.mem_cons,List.not_mem_nil,or_false] at hx
      rcases hx with rfl | rfl | rfl | rfl | rfl
      ·exact dD
      ·exact dl
      ·exact ⟨fL.1.symm,fM.1.symm⟩
      ·exact ⟨fL.2.1.symm,fM.2.1.symm⟩
      ·exact ⟨fL.2.2.symm,fM.2.2.symm⟩
     ·have f:=fr q.2.1 _ (hB9.ll q hq)
      simp only [List.mem_cons,List.not_mem_nil,or_false] at hx
      rcases hx with rfl | rfl | rfl
      ·exact f.1
      ·exact f.2.1
      ·exact f.2.2
    ·exact ⟨B',ks',ls',_,_,F1,F2,G,_,_,_,rfl,hB9,li8,kl9,⟨hL9,hR9⟩,⟨hM9,hRM9,l129,d59⟩,fun q hq=>⟨(lo8 q hq).1,(lo8 q hq).2.1⟩,⟨up G _ dG.1 dG.2 q1,up F1 _ d1.1 d1.2 q2,up F2 _ d2.1 d2.2 q3,fun p hp=>kT9 _ _ (kT8 _ _ (q4 p hp)),fun p hp=>kT9 _ _ (kT8 _ _ (q5 p hp)),q6,q7⟩,off,hD9,hlc9,fun q hq=>(lo8 q hq).2.2⟩
   refine ⟨_,rfl,_,rfl,_,rfl,_,rfl,rfl,b,dx,k,bi,li,ti,su,B,L,.ref a,_,rfl,hB7,.inr ⟨e,a,rfl,s7.sqt hE6,d5e.1,rfl,nf,fun r hr H8 s8=>⟨_,rfl,Zb2 (rest _ _ ?_)⟩,fun no=>⟨ks,s57 _ _ hL,by omega,fun q hq=>(lo q hq).1,li5.room kl60,fun H8 B' a' hB8 hput gr hL8 ha' keepL keepT=>⟨_,rfl,Zb2 (rest _ _ ?_)⟩⟩⟩⟩
   ·have s58:=s57.trans s8
    exact ⟨B,ks,_,_,rfl,hB.mono s58,li5,by omega,fun _=>⟨e,a,rfl,(s7.trans s8).sqt hE6,d5e,kl⟩,s58 _ _ hL,hR.mono s58,fun q hq=>⟨(lo q hq).1,(lo q hq).2,lo2 q hq⟩,fun c xs _ e=>s58 _ _ e,fun a xs e=>s58.sqt e⟩
   ·have ofl:∀ c w,H7 c=some (.lst w)->(∀ q∈B.links,q.2.1≠c)->∀ q∈B'.links,q.2.1≠c:=fun c w e h=>Zgn gr h (by rw [e]; simp)
    obtain ⟨hh1,hh2,hh3,_⟩:=id hheld
    refine ⟨B',ks++[(e.told,a')],_,_,rfl,hB8,li5.put hput d5e no a',by rw [List.length_append]; show ks.length+1+ls.length≤i+1; omega,fun z=>?_,hL8,fun p hp=>?_,fun q hq=>⟨ofl L _ (s57 _ _ hL) (fun q hq=>(lo q hq).1) q hq,ofl M _ (s57 _ _ hM) (fun q hq=>(lo q hq).2) q hq,fun c hc=>?_⟩,fun c xs nc e=>keepL c xs nc (s57 _ _ e),fun a xs e=>keepT a xs (s57.sqt e)⟩
    ·rw [no] at z
     have z:(-1:Int)=2∨(-1:Int)=4:=z
     omega
    ·rcases List.mem_append.mp hp with hp | hp
     ·exact keepT _ _ (s57.sqt (hR p hp))
     ·rw [List.mem_singleton.mp hp]; exact ha'
    ·simp only [List.mem_cons,List.not_mem_nil,or_false] at hc
     rcases hc with rfl | rfl | rfl
     ·exact ofl _ _ (s57 _ _ hh2) (fun q hq=>lo2 q hq _ (by simp)) q hq
     ·exact ofl _ _ (s57 _ _ hh3) (fun q hq=>lo2 q hq _ (by simp)) q hq
     ·exact ofl _ _ (s57 _ _ hh1) (fun q hq=>lo2 q hq _ (by simp)) q hq
 case done =>
  rintro σ Hc ⟨B,ks,ls,o1,o2,F1,F2,G,v6,v7,v8,rfl,hB,li5,kl,⟨hL,hR⟩,⟨hM,hRM,l12,d5⟩,lo,hheld,off,hDc,hlcc,lo2⟩
  rw [List.length_map] at kl
  have kl60:ks.length≤60:=by omega
  have kk:B.kept.length≤60:=by have:=Zek li5.st.kept; rw [List.length_map] at this; omega
  have cmp:∀ {Hx Hy:Hp} {u1 u2:List (Ent × Addr)},u1.Perm B.kept->u2.Perm ks->((u1.map fun p=>p.1.row).Pairwise fun x y=>SA.rLt y x=false)->((u2.map fun p=>p.1.row).Pairwise fun x y=>SA.rLt y x=false)->(u1.map fun p=>p.1.row)=u2.map fun p=>p.1.row:=fun {Hx Hy u1 u2} pm1 p2 so1 so2=>by
   refine ZdP ?_ so1 so2
   have e1:(B.kept.map fun p=>p.1.row)=ks.map fun p=>p.1.row:=by
    have:=congrArg (List.map Ent.row) li5.st.kept
    rwa [List.map_map,List.map_map] at this
   have a1:=pm1.map fun p:Ent × Addr=>p.1.row
   have a2:=p2.map fun p:Ent × Addr=>p.1.row
   rw [e1] at a1
   exact a1.trans a2.symm
  refine ⟨_,rfl,b,dx,_,rfl,hB.ob,rfl,rfl,.ref b,B,rfl,⟨b,dx,k,bi,li,ti,su,rfl,hB⟩,kk,fun H5 A1 u1 s5 nA1 pm1 so1 hA1=>?_⟩
  refine ⟨_,rfl,L,ks.map fun p=>(p.2,p.1.row),rfl,.of (by rw [s5 _ _ hL,List.map_map]; rfl),by rw [List.length_map]; omega,fun p hp=>?rws,fun A2 w2 nA2 pm2 so2=>?_⟩
  case rws =>
   obtain ⟨p',hp',rfl⟩:=List.mem_map.mp hp
   exact ⟨s5.sqt (hR p' hp'),⟨_,rfl⟩,ZdO _⟩
  obtain ⟨u2,p2,rfl⟩:=ZbI pm2 ks rfl
  rw [List.map_map] at so2
  have re:=cmp (Hx:=Hc) (Hy:=Hc) pm1 p2 so1 so2
  have sA2:=Zac (o:=.lst (((u2.map fun p=>(p.2,p.1.row))).map fun p=>V.ref p.1)) nA2
  have s6:=s5.trans sA2
  have gA2:(upd H5 A2 (.lst (((u2.map fun p=>(p.2,p.1.row))).map fun p=>V.ref p.1))) A2=some (.lst (Zaz u2)):=by rw [Zab,List.map_map]; rfl
  have r1:RowsAt K _ u1:=fun p hp=>s6.sqt (hB.en p (pm1.mem_iff.mp hp))
  have r2:RowsAt K _ u2:=fun p hp=>s6.sqt (hR p (p2.mem_iff.mp hp))
  refine ⟨_,_,⟨A1,_,rfl,.of (sA2 _ _ hA1),ZeV r1⟩,⟨A2,_,rfl,.of gA2,ZeV r2⟩,Nat.le_trans (ZiK _) (by decide),_,rfl,?_⟩
  rw [re,Zgp]
  refine Zb2 ?_
  dsimp only [Zbu]
  have hB6:=hB.mono s6
  have hL6:=s6 _ _ hL
  have hM6:=s6 _ _ hM
  have hR6:=hR.mono s6
  have hRM6:=hRM.mono s6
  obtain ⟨q1,q2,q3,q4,q5,q6,q7⟩:=hheld
  replace q1:=s6 _ _ q1
  replace q2:=s6 _ _ q2
  replace q3:=s6 _ _ q3
  replace q4:=RowsAt.mono q4 s6
  replace q5:=RowsAt.mono q5 s6
  clear r1 r2 gA2 re hA1 so1 so2 cmp
  generalize upd H5 A2 (.lst (((u2.map fun p=>(p.2,p.1.row))).map fun p=>V.ref p.1))=H6 at *
  refine ⟨_,rfl,M,rfl,⟨_,.of hM6⟩,Zdx (xs:=Zaz ls) (fun i σ H7=>∃ (B:Bk) (ks:List (Ent × Addr)) (v6 v7 v8:Option V),σ=[some (.ref l),some (.ref D),some (.ref b),some (.ref L),some (.ref M),some (.ref G),v6,v7,v8]∧BkAt K T.c_Book H7 b dx k bi li ti su B∧LI5 pool B ks∧ks.length+ls.length≤60+i∧i≤ls.length∧(H7 L=some (.lst (Zaz ks))∧RowsAt K H7 ks)∧(∀ q∈B.links,q.2.1≠L)∧(∀ c xs,c≠L->H6 c=some (.lst xs)->H7 c=some (.lst xs))∧∀ a xs,SqT K H6 a xs->SqT K H7 a xs) ?start3 ?list3 ?turn3 ?done3⟩
  case start3=>exact ⟨B,ks,_,_,_,rfl,hB6,li5,by omega,Nat.zero_le _,⟨hL6,hR6⟩,fun q hq=>(lo q hq).1,fun c xs _ e=>e,fun a xs e=>e⟩
  case list3 =>
   rintro i σ H7 _ ⟨B7,ks7,v6,v7,v8,rfl,_,_,_,_,_,_,kL7,_⟩
   exact .of (kL7 _ _ LM.symm hM6)
  case turn3 =>
   rintro i y σ H7 hy ⟨B7,ks7,v6,v7,v8,rfl,hB7,li7,kl7,i7,⟨hL7,hR7⟩,lo7,kL7,kT7⟩
   obtain ⟨p,hp,rfl⟩:=Zht hy
   have pm:=List.mem_of_getElem? hp
   have il:=(List.getElem?_eq_some_iff.mp hp).1
   have hE7:=kT7 _ _ (hRM6 p pm)
   have d5e:=d5 p pm
   obtain ⟨e,a⟩:=p
   dsimp only at hE7 d5e
   have k60:ks7.length≤60:=by omega
   obtain ⟨kso,b60⟩:=li7.ksok k60 p33
   have fs:=li7.st.kept
   refine ⟨_,rfl,_,rfl,_,rfl,rfl,b,dx,k,bi,li,ti,su,B7,L,a,ks7,e,rfl,hB7,.of hL7,hR7,by omega,hE7,ZjE fs,fun x y=>⟨?tl9,li7.stands x y⟩,li7.sus,fun H8 s8=>⟨_,rfl,Zb2 ?_⟩⟩
   case tl9 =>
    rw [Zlf,li7.st.tis,Znf li7.once]
    exact Nat.le_trans (Zpi _ _) (by rw [List.length_map]; omega)
   have er:ZdM (LBk ks7) e=ZdM B7 e:=ZnC (B:=LBk ks7) (C:=B7) li7.st.kept.symm e
   have nf:ZdM B7 e≠some .full:=by
    rw [← er]
    intro z
    have fu:=Zhm (e:=e) kso (fun _=>b60)
    unfold ZdM at z
    rw [fu,if_neg (by decide)] at z
    split at z
    ·cases z
    ·split at z
     ·cases z
     ·split at z <;> cases z
   refine ⟨_,rfl,_,rfl,_,rfl,_,rfl,_,rfl,rfl,L,.ref a,true,rfl,fun z=>(by cases z),fun _=>⟨ks7,e,a,rfl,s8.sqt hE7,.of (s8 _ _ hL7),hR7.mono s8,kso,fun _=>b60,fun H9 s9=>?_⟩⟩
   rw [er]
   have s79:=s8.trans s9
   refine ⟨rfl,b,dx,k,bi,li,ti,su,B7,L,.ref a,_,rfl,hB7.mono s79,.inr ⟨e,a,rfl,s79.sqt hE7,d5e.1,rfl,nf,fun r hr H10 s10=>⟨_,rfl,Zb2 ?_⟩,fun no=>⟨ks7,s79 _ _ hL7,by omega,lo7,li7.room k60,fun H10 B' a' hB10 hput gr hL10 ha' keepL keepT=>⟨_,rfl,Zb2 ?_⟩⟩⟩⟩
   ·have s7x:=s79.trans s10
    exact ⟨B7,ks7,_,_,_,rfl,hB7.mono s7x,li7,by omega,il,⟨s7x _ _ hL7,hR7.mono s7x⟩,lo7,fun c xs nc e=>s7x _ _ (kL7 c xs nc e),fun a xs e=>s7x.sqt (kT7 a xs e)⟩
   ·refine ⟨B',ks7++[(e.told,a')],_,_,_,rfl,hB10,li7.put hput d5e no a',by rw [List.length_append]; show ks7.length+1+ls.length≤60+(i+1); omega,il,⟨hL10,fun p hp=>?_⟩,Zgn gr lo7 (by rw [s79 _ _ hL7]; simp),fun c xs nc e=>keepL c xs nc (s79 _ _ (kL7 c xs nc e)),fun a xs e=>keepT a xs (s79.sqt (kT7 a xs e))⟩
    rcases List.mem_append.mp hp with hp | hp
    ·exact keepT _ _ (s79.sqt (hR7 p hp))
    ·rw [List.mem_singleton.mp hp]; exact ha'
  case done3 =>
   rintro σ H7 ⟨B7,ks7,v6,v7,v8,rfl,hB7,li7,kl7,i7,⟨hL7,hR7⟩,lo7,kL7,kT7⟩
   rw [ZaX] at kl7
   have kk7:B7.kept.length≤60:=by have:=Zek li7.st.kept; rw [List.length_map] at this; omega
   refine ⟨_,rfl,b,dx,_,rfl,hB7.ob,rfl,rfl,.ref b,B7,rfl,⟨b,dx,k,bi,li,ti,su,rfl,hB7⟩,kk7,fun H8 C1 u3 s8 nC1 pm3 so3 hC1=>?_⟩
   refine ⟨_,rfl,L,ks7.map fun p=>(p.2,p.1.row),rfl,.of (by rw [s8 _ _ hL7,List.map_map]; rfl),by rw [List.length_map]; omega,fun p hp=>?rws3,fun C2 w2 nC2 pm4 so4=>?_⟩
   case rws3 =>
    obtain ⟨p',hp',rfl⟩:=List.mem_map.mp hp
    exact ⟨s8.sqt (hR7 p' hp'),⟨_,rfl⟩,ZdO _⟩
   obtain ⟨u4,p4',rfl⟩:=ZbI pm4 ks7 rfl
   rw [List.map_map] at so4
   have re:(u3.map fun p=>p.1.row)=u4.map fun p=>p.1.row:=by
    refine ZdP ?_ so3 so4
    have e1:(B7.kept.map fun p=>p.1.row)=ks7.map fun p=>p.1.row:=by
     have:=congrArg (List.map Ent.row) li7.st.kept
     rwa [List.map_map,List.map_map] at this
    have a1:=pm3.map fun p:Ent × Addr=>p.1.row
    have a2:=p4'.map fun p:Ent × Addr=>p.1.row
    rw [e1] at a1
    exact a1.trans a2.symm
   have sC2:=Zac (o:=.lst (((u4.map fun p=>(p.2,p.1.row))).map fun p=>V.ref p.1)) nC2
   have s9:=s8.trans sC2
   have gC2:(upd H8 C2 (.lst (((u4.map fun p=>(p.2,p.1.row))).map fun p=>V.ref p.1))) C2=some (.lst (Zaz u4)):=by rw [Zab,List.map_map]; rfl
   have r1:RowsAt K _ u3:=fun p hp=>s9.sqt (hB7.en p (pm3.mem_iff.mp hp))
   have r2:RowsAt K _ u4:=fun p hp=>s9.sqt (hR7 p (p4'.mem_iff.mp hp))
   have dp:∀ rs:List (List Key),dep (.lst (rs.map Zmu))≤60:=fun rs=>by have:=ZiK rs; show Zdt _+1≤60; omega
   have i1:Is K _ (.lst ((u3.map fun p=>p.1.row).map Zmu)) (.ref C1):=⟨C1,_,rfl,.of (sC2 _ _ hC1),ZeV r1⟩
   have i2:Is K _ (.lst ((u4.map fun p=>p.1.row).map Zmu)) (.ref C2):=⟨C2,_,rfl,.of gC2,ZeV r2⟩
   refine ⟨_,_,i1,i2,.inr ⟨_,_,rfl,rfl⟩,dp _,_,rfl,?_⟩
   show if Zdg _ _=true then _ else _
   rw [re,Zgp]
   have dG:=off G (by simp)
   have d1:=off F1 (by simp)
   have d2:=off F2 (by simp)
   have hG9:=s9 _ _ (kL7 _ _ dG.1 q1)
   refine ZcF ⟨_,rfl,G,_,_,_,rfl,rfl,.of hG9,Zae (j:=0) rfl,_,rfl,G,_,_,_,rfl,rfl,.of hG9,Zae (j:=1) rfl,?_⟩
   have r3:RowsAt K _ o1:=fun p hp=>s9.sqt (kT7 _ _ (q4 p hp))
   have r4:RowsAt K _ o2:=fun p hp=>s9.sqt (kT7 _ _ (q5 p hp))
   have i3:Is K _ (.lst ((o1.map fun p=>p.1.row).map Zmu)) (.ref F1):=⟨F1,_,rfl,.of (s9 _ _ (kL7 _ _ d1.1 q2)),ZeV r3⟩
   have i4:Is K _ (.lst ((o2.map fun p=>p.1.row).map Zmu)) (.ref F2):=⟨F2,_,rfl,.of (s9 _ _ (kL7 _ _ d2.1 q3)),ZeV r4⟩
   refine ⟨_,_,i3,i4,.inr ⟨_,_,rfl,rfl⟩,dp _,?_⟩
   show Q (.bl (Zdg _ _)) _
   rw [q6,Zgp]
   exact q _
end
theorem Zrl {P:Program} {w:World} {K:W.Frag} {mg:Str->Option Value} {base:Heap} (T:Tx K w mg):ZqQ P base T:=by
 have ZcR:=Zk5 (P:=P) (w:=w) (base:=base) T
 have Zdq:=ZlO (P:=P) (w:=w) (base:=base) T
 have Zi3:=ZnE (P:=P) (w:=w) (base:=base) T ZcR
 have ZeA:=ZjN (P:=P) (w:=w) (base:=base) T ZcR
 have Zhr:=Zmb (P:=P) (w:=w) (base:=base) T
 have ZeJ:=Zka (P:=P) (w:=w) (base:=base) T Zdq
 have ZfM:=Zk2 (P:=P) (w:=w) (base:=base) T Zdq Zi3 ZeA Zhr ZeJ
 have ZfP:=ZkR (P:=P) (w:=w) (base:=base) T ZfM
 have Zeg:=ZmA (P:=P) (w:=w) (base:=base) T
 have ZcQ:=Zld (P:=P) (w:=w) (base:=base) T
 have Zi1:=Zna (P:=P) (w:=w) (base:=base) T
 have Zdr:=Zmo (P:=P) (w:=w) (base:=base) T Zeg
 have Zej:=Znw (P:=P) (w:=w) (base:=base) T Zdr
 have ZeK:=Zkn (P:=P) (w:=w) (base:=base) T
 have Zdp:=Zl1 (P:=P) (w:=w) (base:=base) T
 have ZcT:=Zgc (P:=P) (w:=w) (base:=base) T
 have Zax:=Zf8 (P:=P) (w:=w) (base:=base) T
 have Zdk:=ZgB (P:=P) (w:=w) (base:=base) T Zax
 have Zbf:=Zhc (P:=P) (w:=w) (base:=base) T Zax
 have ZbG:=ZeM (P:=P) (w:=w) (base:=base) T Zdk Zbf
 have ZeQ:=ZjX (P:=P) (w:=w) (base:=base) T ZcQ Zi1 Zbf ZbG
 have ZdI:=ZhE (P:=P) (w:=w) (base:=base) T ZfP ZcQ Zej Zax ZeQ
 have Za0:=Zj0 (P:=P) (w:=w) (base:=base) T
 have Zcs:=Zfq (P:=P) (w:=w) (base:=base) T Za0
 have ZeU:=ZjD (P:=P) (w:=w) (base:=base) T ZeK Zax
 have ZbP:=ZhG (P:=P) (w:=w) (base:=base) T Zdp Zax
 have ZcS:=Zgh (P:=P) (w:=w) (base:=base) T Zdp Za0 ZeU ZbP
 have ZfC:=ZkJ (P:=P) (w:=w) (base:=base) T Zeg Zdr Zej ZdI Za0 Zcs ZcS
 have ZbW:=ZgT (P:=P) (w:=w) (base:=base) T
 have ZeN:=Zj9 (P:=P) (w:=w) (base:=base) T Zax
 have Zcx:=Zgz (P:=P) (w:=w) (base:=base) T
 have Zd0:=ZiU (P:=P) (w:=w) (base:=base) T
 have Za9:=Zjb (P:=P) (w:=w) (base:=base) T
 have ZfI:=ZkN (P:=P) (w:=w) (base:=base) T
 have ZcN:=ZhK (P:=P) (w:=w) (base:=base) T
 have ZfV:=ZkH (P:=P) (w:=w) (base:=base) T
 have Zd7:=Zit (P:=P) (w:=w) (base:=base) T Za9 ZfI ZcN ZfV
 have Zb7:=Zix (P:=P) (w:=w) (base:=base) T
 have Zex:=Zjy (P:=P) (w:=w) (base:=base) T
 have ZeW:=Zj4 (P:=P) (w:=w) (base:=base) T Zb7
 have Zeh:=ZkZ (P:=P) (w:=w) (base:=base) T Zb7 Zex ZeW
 have Zea:=ZiP (P:=P) (w:=w) (base:=base) T ZfC
 have Zc4:=ZiX (P:=P) (w:=w) (base:=base) T Zea
 have Zeb:=Zii (P:=P) (w:=w) (base:=base) T ZbP ZeN
 have ZrU:=ZqB (P:=P) (w:=w) (base:=base) T ZcT ZbW Zcx Zd0 Za9 Zd7 Zeh Zc4 Zeb
 exact ZrU
theorem ZqZ {K:W.Frag} {w:World} {mg:Str->Option Value} (T:Tx K w mg) {vs:List V} {H:Hp} {Q:VK} {E:XK} (h:Zol K vs H Q E):Zpo T vs H Q E:=by
 obtain ⟨a,ns,rfl,r⟩:=h
 exact ⟨rfl,a,ns,rfl,r⟩
theorem all_mk {l : W.OpenLaw} {w : World} {K : W.Frag} {h : Heap} {mg : Str → Option Value} {fa : Addr} (X : K.In h) (G : h.Ns mainGlobals mg) (hfa : mg "law"=some (.ref fa))
  {OC_Book:Addr}
  {f0:Addr}
  {f1:Addr}
  {f2:Addr}
  {f3:Addr}
  {f4:Addr}
  {f5:Addr}
  {f6:Addr}
  {f7:Addr}
  {f8:Addr}
  {f9:Addr}
  {f10:Addr}
  {f11:Addr}
  {f12:Addr}
  {f13:Addr}
  {f14:Addr}
  {f15:Addr}
  {f16:Addr}
  {f17:Addr}
  {f18:Addr}
  {f19:Addr}
  {f20:Addr}
  {f21:Addr}
  {f22:Addr}
  {f23:Addr}
  {f24:Addr}
  {f25:Addr}
  {od25 an25:Option Addr} {sl25:Array (Option Value)} {oc25 kV25 dc25 pm25 cd25 ct25:Value}
  {DT25:Addr} {odD25:Option Addr} {nD25:Nat} {slD25:Array (Option Value)}
  {f26:Addr}
  {f27:Addr}
  {f28:Addr}
  {f29:Addr}
  {f30:Addr}
  {f31:Addr}
  {f32:Addr}
  {f33:Addr}
  {f34:Addr}
  {f35:Addr}
  {f36:Addr}
  {f37:Addr}
  {f38:Addr}
  {f39:Addr}
  {f40:Addr}
  {f41:Addr}
  {f42:Addr}
  {f43:Addr}
  {f44:Addr}
  {C0:Addr}
  {C1:Addr}
  {C2:Addr}
  {C3:Addr}
  {C4:Addr}
  {C5:Addr}
  {C6:Addr}
  {F0:Addr} {odF:Option Addr} {nF:Nat} {slF:Array (Option Value)} {tL:Tok}
  {P0 G0:Addr} {tp0:Tok} {odp0 odg0:Option Addr} {np0 ng0:Nat} {slp0 slg0:Array (Option Value)}
  {P1 G1:Addr} {tp1:Tok} {odp1 odg1:Option Addr} {np1 ng1:Nat} {slp1 slg1:Array (Option Value)}
  {P2 G2:Addr} {tp2:Tok} {odp2 odg2:Option Addr} {np2 ng2:Nat} {slp2 slg2:Array (Option Value)}
  {P3 G3:Addr} {tp3:Tok} {odp3 odg3:Option Addr} {np3 ng3:Nat} {slp3 slg3:Array (Option Value)}
  {P4 G4:Addr} {tp4:Tok} {odp4 odg4:Option Addr} {np4 ng4:Nat} {slp4 slg4:Array (Option Value)}
  {P5 G5:Addr} {tp5:Tok} {odp5 odg5:Option Addr} {np5 ng5:Nat} {slp5 slg5:Array (Option Value)}
  {KT0:Addr} {odT0:Option Addr} {nT0:Nat} {slT0:Array (Option Value)} {tt0_0:Tok} {tt0_1:Tok} {tt0_2:Tok} {tt0_3:Tok} {tt0_4:Tok} {tt0_5:Tok} {tt0_6:Tok}
  {ti0:Tok}
  {ti1:Tok}
  (ao0:W.nsIn K mainGlobals "Book"=some (some (.ref OC_Book)))
  (a0:W.nsIn K mainGlobals "is_whole"=some (some (.ref f0)))
  (l0:DefIn K "is_whole" "is_whole" Zfz f0)
  (a1:W.nsIn K mainGlobals "is_name"=some (some (.ref f1)))
  (l1:DefIn K "is_name" "is_name" Zhf f1)
  (a2:W.nsIn K mainGlobals "is_day"=some (some (.ref f2)))
  (l2:DefIn K "is_day" "is_day" Zin f2)
  (a3:W.nsIn K mainGlobals "is_amount"=some (some (.ref f3)))
  (l3:DefIn K "is_amount" "is_amount" ZeI f3)
  (a4:W.nsIn K mainGlobals "is_sort"=some (some (.ref f4)))
  (l4:DefIn K "is_sort" "is_sort" Zhj f4)
  (a5:W.nsIn K mainGlobals "is_parent"=some (some (.ref f5)))
  (l5:DefIn K "is_parent" "is_parent" Zey f5)
  (a6:W.nsIn K mainGlobals "has_form"=some (some (.ref f6)))
  (l6:DefIn K "has_form" "has_form" ZfA f6)
  (a7:W.nsIn K mainGlobals "is_entry"=some (some (.ref f7)))
  (l7:DefIn K "is_entry" "is_entry" ZfK f7)
  (a8:W.nsIn K mainGlobals "is_tie"=some (some (.ref f8)))
  (l8:DefIn K "is_tie" "is_tie" ZiI f8)
  (a9:W.nsIn K mainGlobals "named_in"=some (some (.ref f9)))
  (l9:DefIn K "named_in" "named_in" ZfR f9)
  (a10:W.nsIn K mainGlobals "day_of"=some (some (.ref f10)))
  (l10:DefIn K "day_of" "day_of" Ziu f10)
  (a11:W.nsIn K mainGlobals "as_told"=some (some (.ref f11)))
  (l11:DefIn K "as_told" "as_told" Zgy f11)
  (a12:W.nsIn K mainGlobals "key_of"=some (some (.ref f12)))
  (l12:DefIn K "key_of" "key_of" ZiZ f12)
  (a13:W.nsIn K mainGlobals "is_letter"=some (some (.ref f13)))
  (l13:DefIn K "is_letter" "is_letter" Zew f13)
  (a14:W.nsIn K mainGlobals "pair_of"=some (some (.ref f14)))
  (l14:DefIn K "pair_of" "pair_of" Zgv f14)
  (a15:W.findIn K (.ref OC_Book) "__init__"=some (some (.ref f15))) (i15:W.isFn K (.ref f15)=true)
  (l15:DefIn K "__init__" "Book.__init__" ZcU f15)
  (a16:W.findIn K (.ref OC_Book) "birth_of"=some (some (.ref f16))) (i16:W.isFn K (.ref f16)=true)
  (l16:DefIn K "birth_of" "Book.birth_of" ZcX f16)
  (a17:W.findIn K (.ref OC_Book) "sort_of"=some (some (.ref f17))) (i17:W.isFn K (.ref f17)=true)
  (l17:DefIn K "sort_of" "Book.sort_of" Zdj f17)
  (a18:W.findIn K (.ref OC_Book) "born_on"=some (some (.ref f18))) (i18:W.isFn K (.ref f18)=true)
  (l18:DefIn K "born_on" "Book.born_on" Zdc f18)
  (a19:W.findIn K (.ref OC_Book) "parent_fits"=some (some (.ref f19))) (i19:W.isFn K (.ref f19)=true)
  (l19:DefIn K "parent_fits" "Book.parent_fits" Zcf f19)
  (a20:W.findIn K (.ref OC_Book) "fits"=some (some (.ref f20))) (i20:W.isFn K (.ref f20)=true)
  (l20:DefIn K "fits" "Book.fits" ZeG f20)
  (a21:W.findIn K (.ref OC_Book) "refuse"=some (some (.ref f21))) (i21:W.isFn K (.ref f21)=true)
  (l21:DefIn K "refuse" "Book.refuse" Zdw f21)
  (a22:W.findIn K (.ref OC_Book) "link"=some (some (.ref f22))) (i22:W.isFn K (.ref f22)=true)
  (l22:DefIn K "link" "Book.link" ZeZ f22)
  (a23:W.findIn K (.ref OC_Book) "note_birth"=some (some (.ref f23))) (i23:W.isFn K (.ref f23)=true)
  (l23:DefIn K "note_birth" "Book.note_birth" Zcp f23)
  (a24:W.findIn K (.ref OC_Book) "step"=some (some (.ref f24))) (i24:W.isFn K (.ref f24)=true)
  (l24:DefIn K "step" "Book.step" ZeE f24)
  (a25:W.findIn K (.ref OC_Book) "stands"=some (some (.ref f25))) (i25:W.isFn K (.ref f25)=true)
  (l25:K.lookup f25=some ⟨oc25,od25,.func (W.fnOf "stands" "Book.stands" (Zcb ZaY) (ZbS ZaY) (Zap ZaY) (.ref DT25) kV25 dc25 pm25 an25 cd25 ct25),sl25⟩)
  (cc25:W.codeIn K cd25 "Book.stands"=true) (k25:W.keepIn K (.ref f25)=true)
  (ldt25:K.lookup DT25=some ⟨.type "tuple",odD25,.seq #[.none] nD25,slD25⟩)
  (a26:W.findIn K (.ref OC_Book) "note_tie"=some (some (.ref f26))) (i26:W.isFn K (.ref f26)=true)
  (l26:DefIn K "note_tie" "Book.note_tie" ZcY f26)
  (a27:W.findIn K (.ref OC_Book) "put"=some (some (.ref f27))) (i27:W.isFn K (.ref f27)=true)
  (l27:DefIn K "put" "Book.put" ZfB f27)
  (a28:W.findIn K (.ref OC_Book) "entries"=some (some (.ref f28))) (i28:W.isFn K (.ref f28)=true)
  (l28:DefIn K "entries" "Book.entries" Zde f28)
  (a29:W.findIn K (.ref OC_Book) "gave"=some (some (.ref f29))) (i29:W.isFn K (.ref f29)=true)
  (l29:DefIn K "gave" "Book.gave" ZeP f29)
  (a30:W.nsIn K mainGlobals "_law_cell_at"=some (some (.ref f30)))
  (l30:DefIn K "_law_cell_at" "_law_cell_at" Zdi f30)
  (a31:W.nsIn K mainGlobals "_law_names"=some (some (.ref f31)))
  (l31:DefIn K "_law_names" "_law_names" ZdY f31)
  (a32:W.nsIn K mainGlobals "_law_draw"=some (some (.ref f32)))
  (l32:DefIn K "_law_draw" "_law_draw" ZeT f32)
  (a33:W.nsIn K mainGlobals "_law_day"=some (some (.ref f33)))
  (l33:DefIn K "_law_day" "_law_day" ZfH f33)
  (a34:W.nsIn K mainGlobals "_law_parent"=some (some (.ref f34)))
  (l34:DefIn K "_law_parent" "_law_parent" ZdH f34)
  (a35:W.nsIn K mainGlobals "_law_odd"=some (some (.ref f35)))
  (l35:DefIn K "_law_odd" "_law_odd" ZfQ f35)
  (a36:W.nsIn K mainGlobals "_law_entry"=some (some (.ref f36)))
  (l36:DefIn K "_law_entry" "_law_entry" ZdN f36)
  (a37:W.nsIn K mainGlobals "_law_named"=some (some (.ref f37)))
  (l37:DefIn K "_law_named" "_law_named" Zee f37)
  (a38:W.nsIn K mainGlobals "_law_like"=some (some (.ref f38)))
  (l38:DefIn K "_law_like" "_law_like" ZeD f38)
  (a39:W.nsIn K mainGlobals "_law_fits"=some (some (.ref f39)))
  (l39:DefIn K "_law_fits" "_law_fits" ZeY f39)
  (a40:W.nsIn K mainGlobals "_law_due"=some (some (.ref f40)))
  (l40:DefIn K "_law_due" "_law_due" Zfy f40)
  (a41:W.nsIn K mainGlobals "_law_marks"=some (some (.ref f41)))
  (l41:DefIn K "_law_marks" "_law_marks" Zd8 f41)
  (a42:W.nsIn K mainGlobals "_law_tried"=some (some (.ref f42)))
  (l42:DefIn K "_law_tried" "_law_tried" Zd5 f42)
  (a43:W.nsIn K mainGlobals "_law_shown"=some (some (.ref f43)))
  (l43:DefIn K "_law_shown" "_law_shown" ZdR f43)
  (a44:W.nsIn K mainGlobals "law"=some (some (.ref f44)))
  (l44:DefIn K "law" "law" ZpW f44)
  (pg0:W.plainGet K OC_Book Str.empty=true) (hd0:W.hasDictIn K OC_Book=true) (po0:W.plainOver K OC_Book=true) (sa0:W.findIn K (.ref OC_Book) "__setattr__"=some (some (.builtin "object.__setattr__"))) (mk0:W.makesIn K OC_Book=true) (kc0:W.keepIn K (.ref OC_Book)=true)
  (na0_kept:W.findIn K (.ref OC_Book) "kept"=some none)
  (na0_births:W.findIn K (.ref OC_Book) "births"=some none)
  (na0_links:W.findIn K (.ref OC_Book) "links"=some none)
  (na0_ties:W.findIn K (.ref OC_Book) "ties"=some none)
  (na0_sums:W.findIn K (.ref OC_Book) "sums"=some none)
  (ac0:W.nsIn K mainGlobals "HeirError"=some (some (.ref C0)))
  (xc0:W.excIn K C0 EBm "ValueError.__new__"=true)
  (e1_0:W.findIn K (.ref C0) "__getattribute__"=some (some (.builtin "BaseException.__getattribute__"))) (e2_0:W.findIn K (.ref C0) "__getattr__"=some none) (e3_0:W.findIn K (.ref C0) "__class__"=some (some (.builtin "object.__class__"))) (e4_0:W.mroIn K C0 (.type "BaseException")=some true) (e5_0:W.mroIn K C0 (.type "object")=some true)
  (ac1:W.nsIn K mainGlobals "NoEntry"=some (some (.ref C1)))
  (xc1:W.excIn K C1 EBm "ValueError.__new__"=true)
  (e1_1:W.findIn K (.ref C1) "__getattribute__"=some (some (.builtin "BaseException.__getattribute__"))) (e2_1:W.findIn K (.ref C1) "__getattr__"=some none) (e3_1:W.findIn K (.ref C1) "__class__"=some (some (.builtin "object.__class__"))) (e4_1:W.mroIn K C1 (.type "BaseException")=some true) (e5_1:W.mroIn K C1 (.type "object")=some true)
  (ac2:W.nsIn K mainGlobals "Full"=some (some (.ref C2)))
  (xc2:W.excIn K C2 EBm "ValueError.__new__"=true)
  (e1_2:W.findIn K (.ref C2) "__getattribute__"=some (some (.builtin "BaseException.__getattribute__"))) (e2_2:W.findIn K (.ref C2) "__getattr__"=some none) (e3_2:W.findIn K (.ref C2) "__class__"=some (some (.builtin "object.__class__"))) (e4_2:W.mroIn K C2 (.type "BaseException")=some true) (e5_2:W.mroIn K C2 (.type "object")=some true)
  (ac3:W.nsIn K mainGlobals "NoPerson"=some (some (.ref C3)))
  (xc3:W.excIn K C3 EBm "ValueError.__new__"=true)
  (e1_3:W.findIn K (.ref C3) "__getattribute__"=some (some (.builtin "BaseException.__getattribute__"))) (e2_3:W.findIn K (.ref C3) "__getattr__"=some none) (e3_3:W.findIn K (.ref C3) "__class__"=some (some (.builtin "object.__class__"))) (e4_3:W.mroIn K C3 (.type "BaseException")=some true) (e5_3:W.mroIn K C3 (.type "object")=some true)
  (ac4:W.nsIn K mainGlobals "Twice"=some (some (.ref C4)))
  (xc4:W.excIn K C4 EBm "ValueError.__new__"=true)
  (e1_4:W.findIn K (.ref C4) "__getattribute__"=some (some (.builtin "BaseException.__getattribute__"))) (e2_4:W.findIn K (.ref C4) "__getattr__"=some none) (e3_4:W.findIn K (.ref C4) "__class__"=some (some (.builtin "object.__class__"))) (e4_4:W.mroIn K C4 (.type "BaseException")=some true) (e5_4:W.mroIn K C4 (.type "object")=some true)
  (ac5:W.nsIn K mainGlobals "NoFit"=some (some (.ref C5)))
  (xc5:W.excIn K C5 EBm "ValueError.__new__"=true)
  (e1_5:W.findIn K (.ref C5) "__getattribute__"=some (some (.builtin "BaseException.__getattribute__"))) (e2_5:W.findIn K (.ref C5) "__getattr__"=some none) (e3_5:W.findIn K (.ref C5) "__class__"=some (some (.builtin "object.__class__"))) (e4_5:W.mroIn K C5 (.type "BaseException")=some true) (e5_5:W.mroIn K C5 (.type "object")=some true)
  (ac6:W.nsIn K mainGlobals "NoWay"=some (some (.ref C6)))
  (xc6:W.excIn K C6 EBm "ValueError.__new__"=true)
  (e1_6:W.findIn K (.ref C6) "__getattribute__"=some (some (.builtin "BaseException.__getattribute__"))) (e2_6:W.findIn K (.ref C6) "__getattr__"=some none) (e3_6:W.findIn K (.ref C6) "__class__"=some (some (.builtin "object.__class__"))) (e4_6:W.mroIn K C6 (.type "BaseException")=some true) (e5_6:W.mroIn K C6 (.type "object")=some true)
  (z_abs:W.nsIn K mainGlobals "abs"=some none)
  (z_all:W.nsIn K mainGlobals "all"=some none)
  (z_bool:W.nsIn K mainGlobals "bool"=some none)
  (z_dict:W.nsIn K mainGlobals "dict"=some none)
  (z_int:W.nsIn K mainGlobals "int"=some none)
  (z_isinstance:W.nsIn K mainGlobals "isinstance"=some none)
  (z_len:W.nsIn K mainGlobals "len"=some none)
  (z_list:W.nsIn K mainGlobals "list"=some none)
  (z_max:W.nsIn K mainGlobals "max"=some none)
  (z_min:W.nsIn K mainGlobals "min"=some none)
  (z_range:W.nsIn K mainGlobals "range"=some none)
  (z_sorted:W.nsIn K mainGlobals "sorted"=some none)
  (z_str:W.nsIn K mainGlobals "str"=some none)
  (z_tuple:W.nsIn K mainGlobals "tuple"=some none)
  (z_zip:W.nsIn K mainGlobals "zip"=some none)
  (q_k_int_int:W.kitOne K (.type "int") (.type "int")=some true)
  (q_k_int_str:W.kitOne K (.type "int") (.type "str")=some false)
  (q_k_int_tuple:W.kitOne K (.type "int") (.type "tuple")=some false)
  (q_k_int_bool:W.kitOne K (.type "int") (.type "bool")=some false)
  (q_k_str_int:W.kitOne K (.type "str") (.type "int")=some false)
  (q_k_str_str:W.kitOne K (.type "str") (.type "str")=some true)
  (q_k_str_tuple:W.kitOne K (.type "str") (.type "tuple")=some false)
  (q_k_bool_int:W.kitOne K (.type "bool") (.type "int")=some true)
  (q_k_bool_str:W.kitOne K (.type "bool") (.type "str")=some false)
  (q_k_bool_tuple:W.kitOne K (.type "bool") (.type "tuple")=some false)
  (q_k_bool_bool:W.kitOne K (.type "bool") (.type "bool")=some true)
  (q_k_NoneType_int:W.kitOne K (.type "NoneType") (.type "int")=some false)
  (q_k_NoneType_str:W.kitOne K (.type "NoneType") (.type "str")=some false)
  (q_k_NoneType_tuple:W.kitOne K (.type "NoneType") (.type "tuple")=some false)
  (q_k_tuple_int:W.kitOne K (.type "tuple") (.type "int")=some false)
  (q_k_tuple_str:W.kitOne K (.type "tuple") (.type "str")=some false)
  (q_k_tuple_tuple:W.kitOne K (.type "tuple") (.type "tuple")=some true)
  (q_k_list_int:W.kitOne K (.type "list") (.type "int")=some false)
  (q_k_list_str:W.kitOne K (.type "list") (.type "str")=some false)
  (q_k_list_tuple:W.kitOne K (.type "list") (.type "tuple")=some false)
  (q_k_dict_int:W.kitOne K (.type "dict") (.type "int")=some false)
  (q_k_dict_str:W.kitOne K (.type "dict") (.type "str")=some false)
  (q_k_dict_tuple:W.kitOne K (.type "dict") (.type "tuple")=some false)
  (q_kl_list:W.kitOne K (.type "list") (.type "list")=some true)
  (q_kx_NoEntry_NoEntry:W.kitOne K (.ref C1) (.ref C1)=some true)
  (q_kx_NoEntry_Full:W.kitOne K (.ref C1) (.ref C2)=some false)
  (q_kx_NoEntry_NoPerson:W.kitOne K (.ref C1) (.ref C3)=some false)
  (q_kx_NoEntry_Twice:W.kitOne K (.ref C1) (.ref C4)=some false)
  (q_kx_NoEntry_NoFit:W.kitOne K (.ref C1) (.ref C5)=some false)
  (q_kx_Full_NoEntry:W.kitOne K (.ref C2) (.ref C1)=some false)
  (q_kx_Full_Full:W.kitOne K (.ref C2) (.ref C2)=some true)
  (q_kx_Full_NoPerson:W.kitOne K (.ref C2) (.ref C3)=some false)
  (q_kx_Full_Twice:W.kitOne K (.ref C2) (.ref C4)=some false)
  (q_kx_Full_NoFit:W.kitOne K (.ref C2) (.ref C5)=some false)
  (q_kx_NoPerson_NoEntry:W.kitOne K (.ref C3) (.ref C1)=some false)
  (q_kx_NoPerson_Full:W.kitOne K (.ref C3) (.ref C2)=some false)
  (q_kx_NoPerson_NoPerson:W.kitOne K (.ref C3) (.ref C3)=some true)
  (q_kx_NoPerson_Twice:W.kitOne K (.ref C3) (.ref C4)=some false)
  (q_kx_NoPerson_NoFit:W.kitOne K (.ref C3) (.ref C5)=some false)
  (q_kx_Twice_NoEntry:W.kitOne K (.ref C4) (.ref C1)=some false)
  (q_kx_Twice_Full:W.kitOne K (.ref C4) (.ref C2)=some false)
  (q_kx_Twice_NoPerson:W.kitOne K (.ref C4) (.ref C3)=some false)
  (q_kx_Twice_Twice:W.kitOne K (.ref C4) (.ref C4)=some true)
  (q_kx_Twice_NoFit:W.kitOne K (.ref C4) (.ref C5)=some false)
  (q_kx_NoFit_NoEntry:W.kitOne K (.ref C5) (.ref C1)=some false)
  (q_kx_NoFit_Full:W.kitOne K (.ref C5) (.ref C2)=some false)
  (q_kx_NoFit_NoPerson:W.kitOne K (.ref C5) (.ref C3)=some false)
  (q_kx_NoFit_Twice:W.kitOne K (.ref C5) (.ref C4)=some false)
  (q_kx_NoFit_NoFit:W.kitOne K (.ref C5) (.ref C5)=some true)
  (y_mr_NoEntry:W.mroIn K C1 (.ref C0)=some true)
  (y_mr_Full:W.mroIn K C2 (.ref C0)=some true)
  (y_mr_NoPerson:W.mroIn K C3 (.ref C0)=some true)
  (y_mr_Twice:W.mroIn K C4 (.ref C0)=some true)
  (y_mr_NoFit:W.mroIn K C5 (.ref C0)=some true)
  (zF:W.nsIn K mainGlobals "FORMS"=some (some (.ref F0)))
  (zL:W.nsIn K mainGlobals "LETTERS"=some (some (.str "abcdefghijklmnopqrstuvwxyz" tL)))
  (uF:K.lookup F0=some ⟨.type "tuple",odF,.seq #[.ref P0,.ref P1,.ref P2,.ref P3,.ref P4,.ref P5] nF,slF⟩)
  (up0:K.lookup P0=some ⟨.type "tuple",odp0,.seq #[.str "born" tp0,.ref G0] np0,slp0⟩)
  (up1:K.lookup P1=some ⟨.type "tuple",odp1,.seq #[.str "taken" tp1,.ref G1] np1,slp1⟩)
  (up2:K.lookup P2=some ⟨.type "tuple",odp2,.seq #[.str "union" tp2,.ref G2] np2,slp2⟩)
  (up3:K.lookup P3=some ⟨.type "tuple",odp3,.seq #[.str "parted" tp3,.ref G3] np3,slp3⟩)
  (up4:K.lookup P4=some ⟨.type "tuple",odp4,.seq #[.str "dead" tp4,.ref G4] np4,slp4⟩)
  (up5:K.lookup P5=some ⟨.type "tuple",odp5,.seq #[.str "given" tp5,.ref G5] np5,slp5⟩)
  (ug0:K.lookup G0=some ⟨.type "tuple",odg0,.seq #[.ref f1,.ref f4,.ref f2,.ref f5,.ref f5] ng0,slg0⟩)
  (ug1:K.lookup G1=some ⟨.type "tuple",odg1,.seq #[.ref f1,.ref f1,.ref f2] ng1,slg1⟩)
  (ug2:K.lookup G2=some ⟨.type "tuple",odg2,.seq #[.ref f1,.ref f1,.ref f2] ng2,slg2⟩)
  (ug3:K.lookup G3=some ⟨.type "tuple",odg3,.seq #[.ref f1,.ref f1,.ref f2] ng3,slg3⟩)
  (ug4:K.lookup G4=some ⟨.type "tuple",odg4,.seq #[.ref f1,.ref f2] ng4,slg4⟩)
  (ug5:K.lookup G5=some ⟨.type "tuple",odg5,.seq #[.ref f1,.ref f1,.ref f3,.ref f2] ng5,slg5⟩)
  (zt0:W.nsIn K mainGlobals "STEP_LETTERS"=some (some (.ref KT0)))
  (ut0:K.lookup KT0=some ⟨.type "tuple",odT0,.seq #[.str "F" tt0_0,.str "M" tt0_1,.str "T" tt0_2,.str "f" tt0_3,.str "m" tt0_4,.str "t" tt0_5,.str "S" tt0_6] nT0,slT0⟩)
  (zi0:W.nsIn K mainGlobals "MOST_ENTRIES"=some (some (.int 400 ti0)))
  (zi1:W.nsIn K mainGlobals "MOST_PEOPLE"=some (some (.int 60 ti1))) :
  ∃ fd:FuncData,(∀ (s:Shared) (v:Value),BindsTo s fd ⟨[v],[]⟩ [("_law_script",v)])∧∀ base:Heap,K.In base->base.Ns mainGlobals mg->FnOk l.prog w K mg base (CX1 l.prog w) 9 fa fd ["_law_script"] (Zol K):=by
 have e:=hfa.symm.trans (W.mg_of X G a44)
 cases e
 have T:Σ' (T:Tx K w mg),T.Zle.a=fa:=⟨{ c_Book:=OC_Book,ZbE:=.of X G a0 l0 (fun _ _ _ _ _ _=>un1 fun _=>rfl),ZaM:=.of X G a1 l1 (fun _ _ _ _ _ _=>un1 fun _=>rfl),ZbB:=.of X G a2 l2 (fun _ _ _ _ _ _=>un1 fun _=>rfl),Zbn:=.of X G a3 l3 (fun _ _ _ _ _ _=>un1 fun _=>rfl),ZbZ:=.of X G a4 l4 (fun _ _ _ _ _ _=>un1 fun _=>rfl),Zbj:=.of X G a5 l5 (fun _ _ _ _ _ _=>un1 fun _=>rfl),Zcj:=.of X G a6 l6 (fun _ _ _ _ _ _=>un2 fun _ _=>rfl),Zcn:=.of X G a7 l7 (fun _ _ _ _ _ _=>un1 fun _=>rfl),Zcu:=.of X G a8 l8 (fun _ _ _ _ _ _=>un1 fun _=>rfl),ZbF:=.of X G a9 l9 (fun _ _ _ _ _ _=>un1 fun _=>rfl),ZdB:=.of X G a10 l10 (fun _ _ _ _ _ _=>un1 fun _=>rfl),ZbX:=.of X G a11 l11 (fun _ _ _ _ _ _=>un1 fun _=>rfl),Zcw:=.of X G a12 l12 (fun _ _ _ _ _ _=>un1 fun _=>rfl),Zb5:=.of X G a13 l13 (fun _ _ _ _ _ _=>un1 fun _=>rfl),ZbV:=.of X G a14 l14 (fun _ _ _ _ _ _=>un2 fun _ _=>rfl),Zbt:=.of a15 i15 l15 (fun _ _ _ _ _ _=>un1 fun _=>rfl),Zaw:=.of a16 i16 l16 (fun _ _ _ _ _ _=>un2 fun _ _=>rfl),ZbC:=.of a17 i17 l17 (fun _ _ _ _ _ _=>un2 fun _ _=>rfl),ZaK:=.of a18 i18 l18 (fun _ _ _ _ _ _=>un2 fun _ _=>rfl),ZaP:=.of a19 i19 l19 (fun _ _ _ _ _ _=>un4 fun _ _ _ _=>rfl),Zci:=.of a20 i20 l20 (fun _ _ _ _ _ _=>un2 fun _ _=>rfl),ZbO:=.of a21 i21 l21 (fun _ _ _ _ _ _=>un2 fun _ _=>rfl),ZaI:=.of a22 i22 l22 (fun _ _ _ _ _ _=>un4 fun _ _ _ _=>rfl),Zbh:=.of a23 i23 l23 (fun _ _ _ _ _ _=>un2 fun _ _=>rfl),Zco:=.of a24 i24 l24 (fun _ _ _ _ _ _=>un3 fun _ _ _=>rfl),a_Book_stands:=f25,fd_Book_stands:=W.fnOf "stands" "Book.stands" (Zcb ZaY) (ZbS ZaY) (Zap ZaY) (.ref DT25) kV25 dc25 pm25 an25 cd25 ct25,dt_Book_stands:=DT25,F_Book_stands:=ZkG (st:=ZaY) l25 cc25 k25,b_Book_stands:=(ZkG (st:=ZaY) l25 cc25 k25).binds1 ldt25 rfl (fun _ _ _ _ _ _ us hl=>match us,hl with | [_,_,_],_=>⟨_,rfl,rfl⟩),b3_Book_stands:=(ZkG (st:=ZaY) l25 cc25 k25).binds2 ldt25 rfl (fun _ _ _ _ _ _ us hl=>match us,hl with | [_,_,_,_],_=>⟨_,rfl,rfl⟩),me_Book_stands:=⟨a25,i25,k25⟩,Zbr:=.of a26 i26 l26 (fun _ _ _ _ _ _=>un2 fun _ _=>rfl),ZcO:=.of a27 i27 l27 (fun _ _ _ _ _ _=>un2 fun _ _=>rfl),ZaU:=.of a28 i28 l28 (fun _ _ _ _ _ _=>un1 fun _=>rfl),Zcl:=.of a29 i29 l29 (fun _ _ _ _ _ _=>un3 fun _ _ _=>rfl),ZaV:=.of X G a30 l30 (fun _ _ _ _ _ _=>un2 fun _ _=>rfl),ZbM:=.of X G a31 l31 (fun _ _ _ _ _ _=>un2 fun _ _=>rfl),ZaA:=.of X G a32 l32 (fun _ _ _ _ _ _=>un3 fun _ _ _=>rfl),Zcm:=.of X G a33 l33 (fun _ _ _ _ _ _=>un2 fun _ _=>rfl),Za1:=.of X G a34 l34 (fun _ _ _ _ _ _=>un5 fun _ _ _ _ _=>rfl),Zcr:=.of X G a35 l35 (fun _ _ _ _ _ _=>un2 fun _ _=>rfl),ZbK:=.of X G a36 l36 (fun _ _ _ _ _ _=>un2 fun _ _=>rfl),Zbg:=.of X G a37 l37 (fun _ _ _ _ _ _=>un1 fun _=>rfl),Zb3:=.of X G a38 l38 (fun _ _ _ _ _ _=>un2 fun _ _=>rfl),Zb4:=.of X G a39 l39 (fun _ _ _ _ _ _=>un2 fun _ _=>rfl),ZbD:=.of X G a40 l40 (fun _ _ _ _ _ _=>un3 fun _ _ _=>rfl),ZbJ:=.of X G a41 l41 (fun _ _ _ _ _ _=>un2 fun _ _=>rfl),Zbe:=.of X G a42 l42 (fun _ _ _ _ _ _=>un4 fun _ _ _ _=>rfl),ZbL:=.of X G a43 l43 (fun _ _ _ _ _ _=>un3 fun _ _ _=>rfl),Zle:=.of X G a44 l44 (fun _ _ _ _ _ _=>un1 fun _=>rfl),m_Book:=(W.mg_of X G ao0),cl_Book:=⟨pg0,hd0,po0,sa0⟩,mk_Book:=⟨mk0,a15,i15,kc0⟩,na_Book_kept:=na0_kept,na_Book_births:=na0_births,na_Book_links:=na0_links,na_Book_ties:=na0_ties,na_Book_sums:=na0_sums,c_HeirError:=C0,m_HeirError:=(W.mg_of X G ac0),x_HeirError:=xc0,e_HeirError:=⟨e1_0,e2_0,e3_0,e4_0,e5_0⟩,c_NoEntry:=C1,m_NoEntry:=(W.mg_of X G ac1),x_NoEntry:=xc1,e_NoEntry:=⟨e1_1,e2_1,e3_1,e4_1,e5_1⟩,c_Full:=C2,m_Full:=(W.mg_of X G ac2),x_Full:=xc2,e_Full:=⟨e1_2,e2_2,e3_2,e4_2,e5_2⟩,c_NoPerson:=C3,m_NoPerson:=(W.mg_of X G ac3),x_NoPerson:=xc3,e_NoPerson:=⟨e1_3,e2_3,e3_3,e4_3,e5_3⟩,c_Twice:=C4,m_Twice:=(W.mg_of X G ac4),x_Twice:=xc4,e_Twice:=⟨e1_4,e2_4,e3_4,e4_4,e5_4⟩,c_NoFit:=C5,m_NoFit:=(W.mg_of X G ac5),x_NoFit:=xc5,e_NoFit:=⟨e1_5,e2_5,e3_5,e4_5,e5_5⟩,c_NoWay:=C6,m_NoWay:=(W.mg_of X G ac6),x_NoWay:=xc6,e_NoWay:=⟨e1_6,e2_6,e3_6,e4_6,e5_6⟩,n_abs:=(W.mg_none_of X G z_abs),n_all:=(W.mg_none_of X G z_all),n_bool:=(W.mg_none_of X G z_bool),n_dict:=(W.mg_none_of X G z_dict),n_int:=(W.mg_none_of X G z_int),n_isinstance:=(W.mg_none_of X G z_isinstance),n_len:=(W.mg_none_of X G z_len),n_list:=(W.mg_none_of X G z_list),n_max:=(W.mg_none_of X G z_max),n_min:=(W.mg_none_of X G z_min),n_range:=(W.mg_none_of X G z_range),n_sorted:=(W.mg_none_of X G z_sorted),n_str:=(W.mg_none_of X G z_str),n_tuple:=(W.mg_none_of X G z_tuple),n_zip:=(W.mg_none_of X G z_zip),k_int_int:=q_k_int_int,k_int_str:=q_k_int_str,k_int_tuple:=q_k_int_tuple,k_int_bool:=q_k_int_bool,k_str_int:=q_k_str_int,k_str_str:=q_k_str_str,k_str_tuple:=q_k_str_tuple,k_bool_int:=q_k_bool_int,k_bool_str:=q_k_bool_str,k_bool_tuple:=q_k_bool_tuple,k_bool_bool:=q_k_bool_bool,k_NoneType_int:=q_k_NoneType_int,k_NoneType_str:=q_k_NoneType_str,k_NoneType_tuple:=q_k_NoneType_tuple,k_tuple_int:=q_k_tuple_int,k_tuple_str:=q_k_tuple_str,k_tuple_tuple:=q_k_tuple_tuple,k_list_int:=q_k_list_int,k_list_str:=q_k_list_str,k_list_tuple:=q_k_list_tuple,k_dict_int:=q_k_dict_int,k_dict_str:=q_k_dict_str,k_dict_tuple:=q_k_dict_tuple,kl_list:=q_kl_list,kx_NoEntry_NoEntry:=q_kx_NoEntry_NoEntry,kx_NoEntry_Full:=q_kx_NoEntry_Full,kx_NoEntry_NoPerson:=q_kx_NoEntry_NoPerson,kx_NoEntry_Twice:=q_kx_NoEntry_Twice,kx_NoEntry_NoFit:=q_kx_NoEntry_NoFit,kx_Full_NoEntry:=q_kx_Full_NoEntry,kx_Full_Full:=q_kx_Full_Full,kx_Full_NoPerson:=q_kx_Full_NoPerson,kx_Full_Twice:=q_kx_Full_Twice,kx_Full_NoFit:=q_kx_Full_NoFit,kx_NoPerson_NoEntry:=q_kx_NoPerson_NoEntry,kx_NoPerson_Full:=q_kx_NoPerson_Full,kx_NoPerson_NoPerson:=q_kx_NoPerson_NoPerson,kx_NoPerson_Twice:=q_kx_NoPerson_Twice,kx_NoPerson_NoFit:=q_kx_NoPerson_NoFit,kx_Twice_NoEntry:=q_kx_Twice_NoEntry,kx_Twice_Full:=q_kx_Twice_Full,kx_Twice_NoPerson:=q_kx_Twice_NoPerson,kx_Twice_Twice:=q_kx_Twice_Twice,kx_Twice_NoFit:=q_kx_Twice_NoFit,kx_NoFit_NoEntry:=q_kx_NoFit_NoEntry,kx_NoFit_Full:=q_kx_NoFit_Full,kx_NoFit_NoPerson:=q_kx_NoFit_NoPerson,kx_NoFit_Twice:=q_kx_NoFit_Twice,kx_NoFit_NoFit:=q_kx_NoFit_NoFit,mr_NoEntry:=y_mr_NoEntry,mr_Full:=y_mr_Full,mr_NoPerson:=y_mr_NoPerson,mr_Twice:=y_mr_Twice,mr_NoFit:=y_mr_NoFit,aF:=F0,m_FORMS:=(W.mg_of X G zF),tkL:=tL,m_LETTERS:=(W.mg_of X G zL),p0:=P0,g0:=G0,p1:=P1,g1:=G1,p2:=P2,g2:=G2,p3:=P3,g3:=G3,p4:=P4,g4:=G4,p5:=P5,g5:=G5,sF:=fun _=>.inr ⟨_,_,_,uF,rfl,rfl,Zam (Nat.le_of_ble_eq_true rfl),.cons rfl (.cons rfl (.cons rfl (.cons rfl (.cons rfl (.cons rfl .nil)))))⟩,sp0:=fun _=>.inr ⟨_,_,_,up0,rfl,rfl,Zam (Nat.le_of_ble_eq_true rfl),.cons ⟨_,rfl⟩ (.cons rfl .nil)⟩,sp1:=fun _=>.inr ⟨_,_,_,up1,rfl,rfl,Zam (Nat.le_of_ble_eq_true rfl),.cons ⟨_,rfl⟩ (.cons rfl .nil)⟩,sp2:=fun _=>.inr ⟨_,_,_,up2,rfl,rfl,Zam (Nat.le_of_ble_eq_true rfl),.cons ⟨_,rfl⟩ (.cons rfl .nil)⟩,sp3:=fun _=>.inr ⟨_,_,_,up3,rfl,rfl,Zam (Nat.le_of_ble_eq_true rfl),.cons ⟨_,rfl⟩ (.cons rfl .nil)⟩,sp4:=fun _=>.inr ⟨_,_,_,up4,rfl,rfl,Zam (Nat.le_of_ble_eq_true rfl),.cons ⟨_,rfl⟩ (.cons rfl .nil)⟩,sp5:=fun _=>.inr ⟨_,_,_,up5,rfl,rfl,Zam (Nat.le_of_ble_eq_true rfl),.cons ⟨_,rfl⟩ (.cons rfl .nil)⟩,sg0:=fun _=>.inr ⟨_,_,_,ug0,rfl,rfl,Zam (Nat.le_of_ble_eq_true rfl),.cons rfl (.cons rfl (.cons rfl (.cons rfl (.cons rfl (.nil)))))⟩,sg1:=fun _=>.inr ⟨_,_,_,ug1,rfl,rfl,Zam (Nat.le_of_ble_eq_true rfl),.cons rfl (.cons rfl (.cons rfl (.nil)))⟩,sg2:=fun _=>.inr ⟨_,_,_,ug2,rfl,rfl,Zam (Nat.le_of_ble_eq_true rfl),.cons rfl (.cons rfl (.cons rfl (.nil)))⟩,sg3:=fun _=>.inr ⟨_,_,_,ug3,rfl,rfl,Zam (Nat.le_of_ble_eq_true rfl),.cons rfl (.cons rfl (.cons rfl (.nil)))⟩,sg4:=fun _=>.inr ⟨_,_,_,ug4,rfl,rfl,Zam (Nat.le_of_ble_eq_true rfl),.cons rfl (.cons rfl (.nil))⟩,sg5:=fun _=>.inr ⟨_,_,_,ug5,rfl,rfl,Zam (Nat.le_of_ble_eq_true rfl),.cons rfl (.cons rfl (.cons rfl (.cons rfl (.nil))))⟩,a_STEP_LETTERS:=KT0,m_STEP_LETTERS:=(W.mg_of X G zt0),Zes:=fun _=>.inr ⟨_,_,_,ut0,rfl,rfl,Zam (Nat.le_of_ble_eq_true rfl),.cons ⟨_,rfl⟩ (.cons ⟨_,rfl⟩ (.cons ⟨_,rfl⟩ (.cons ⟨_,rfl⟩ (.cons ⟨_,rfl⟩ (.cons ⟨_,rfl⟩ (.cons ⟨_,rfl⟩ (.nil)))))))⟩,t_MOST_ENTRIES:=ti0,m_MOST_ENTRIES:=(W.mg_of X G zi0),t_MOST_PEOPLE:=ti1,m_MOST_PEOPLE:=(W.mg_of X G zi1) },rfl⟩
 obtain ⟨T,ea⟩:=T
 subst ea
 refine ⟨(Zcg K T.Zle.a),fun s v=>?_,fun base _ _=>(Zrl T).imp fun vs H Q E z=>?_⟩
 ·obtain ⟨oc,od,kV,doc,pm,an,cdv,ct,osl,e,_⟩:=T.Zle.F.ex
  rw [e]
  exact .of_eq rfl
 exact ZqZ T z
theorem walk {l : W.OpenLaw} {q : Program} {loose : List Str} {XP : (Str → Option Value) → Heap → Prop} {YP : World → Heap → Prop} {d : DefRec} {K : Params → W.Frag} (hn : l.most=some 63) (hdf : d.params.defaults=[])
  (hY:∀ (w:World) (h:Heap),YP w h->(K w.params).In h)
  (F:∀ (w:World) (mg:Str->Option Value) (fa:Addr) (h:Heap),(K w.params).In h->h.Ns mainGlobals mg->mg d.name=some (.ref fa) →
   ∃ fd:FuncData,(∀ (s:Shared) (u:Value),BindsTo s fd ⟨[u],[]⟩ [("_law_script",u)])∧∀ base:Heap,(K w.params).In base->base.Ns mainGlobals mg->FnOk l.prog w (K w.params) mg base (CX1 l.prog w) 9 fa fd ["_law_script"] (Zol (K w.params))) :
  W.WalkO q loose XP YP l.row.toRowW d [] (fun f vs=>PySem.call f vs) :=
 L2.walk_of (n:=63) (k:=9) (x:="_law_script") (CX:=fun w=>CX1 l.prog w) (sp:=fun w=>Zol (K w.params)) hn (by decide) hdf ⟨rfl,by decide,by decide⟩ hY F (fun _ _ a ns hl _ hS=>⟨a,ns,rfl,hS,hl,fun _=>rfl⟩) fun _ _ _ _ _ ⟨_,_,_,_,_,z⟩=>z
end K5
open PySem PySem.W PyProof.Rows
set_option maxRecDepth 100000 in
set_option maxHeartbeats 0 in
theorem PySem.Challenge.cw_heirbook_k05_whole_what_is_refused_holds : PySem.Challenge.rw_heirbook_k05_whole_what_is_refused.Holds := by
 refine K5.hd ?_
 k_fill
 refine K5.walk (l:=PySem.Challenge.rw_heirbook_k05_whole_what_is_refused) rfl rfl (fun w h Y=>PySem.W.kIn_of Y) ?F
 case F =>
  intro w mg fa h KX G hmg
  apply K5.all_mk KX G hmg
  case ao0 | a0 | a1 | a2 | a3 | a4 | a5 | a6 | a7 | a8 | a9 | a10 | a11 | a12 | a13 | a14 | a15 | i15 | a16 | i16 | a17 | i17 | a18 | i18 | a19 | i19 | a20 | i20 | a21 | i21 | a22 | i22 | a23 | i23 | a24 | i24 | a25 | i25 | l25 | cc25 | k25 | ldt25 | a26 | i26 | a27 | i27 | a28 | i28 | a29 | i29 | a30 | a31 | a32 | a33 | a34 | a35 | a36 | a37 | a38 | a39 | a40 | a41 | a42 | a43 | a44 | pg0 | hd0 | po0 | sa0 | mk0 | kc0 | na0_kept | na0_births | na0_links | na0_ties | na0_sums | ac0 | e1_0 | e2_0 | e3_0 | e4_0 | e5_0 | ac1 | e1_1 | e2_1 | e3_1 | e4_1 | e5_1 | ac2 | e1_2 | e2_2 | e3_2 | e4_2 | e5_2 | ac3 | e1_3 | e2_3 | e3_3 | e4_3 | e5_3 | ac4 | e1_4 | e2_4 | e3_4 | e4_4 | e5_4 | ac5 | e1_5 | e2_5 | e3_5 | e4_5 | e5_5 | ac6 | e1_6 | e2_6 | e3_6 | e4_6 | e5_6 | z_abs | z_all | z_bool | z_dict | z_int | z_isinstance | z_len | z_list | z_max | z_min | z_range | z_sorted | z_str | z_tuple | z_zip | y_mr_NoEntry | y_mr_Full | y_mr_NoPerson | y_mr_Twice | y_mr_NoFit | zF | zL | uF | up0 | up1 | up2 | up3 | up4 | up5 | ug0 | ug1 | ug2 | ug3 | ug4 | ug5 | zt0 | ut0 | zi0 | zi1=>k_is
  case l0 | l1 | l2 | l3 | l4 | l5 | l6 | l7 | l8 | l9 | l10 | l11 | l12 | l13 | l14 | l15 | l16 | l17 | l18 | l19 | l20 | l21 | l22 | l23 | l24 | l26 | l27 | l28 | l29 | l30 | l31 | l32 | l33 | l34 | l35 | l36 | l37 | l38 | l39 | l40 | l41 | l42 | l43 | l44=>exact ⟨⟨_,_,_,_,_,_,_,_,_,by k_is,by k_is⟩,by k_is⟩
  case xc0 | xc1 | xc2 | xc3 | xc4 | xc5 | xc6=>k_exc
  case q_k_int_int | q_k_int_str | q_k_int_tuple | q_k_int_bool | q_k_str_int | q_k_str_str | q_k_str_tuple | q_k_bool_int | q_k_bool_str | q_k_bool_tuple | q_k_bool_bool | q_k_NoneType_int | q_k_NoneType_str | q_k_NoneType_tuple | q_k_tuple_int | q_k_tuple_str | q_k_tuple_tuple | q_k_list_int | q_k_list_str | q_k_list_tuple | q_k_dict_int | q_k_dict_str | q_k_dict_tuple | q_kl_list | q_kx_NoEntry_NoEntry | q_kx_NoEntry_Full | q_kx_NoEntry_NoPerson | q_kx_NoEntry_Twice | q_kx_NoEntry_NoFit | q_kx_Full_NoEntry | q_kx_Full_Full | q_kx_Full_NoPerson | q_kx_Full_Twice | q_kx_Full_NoFit | q_kx_NoPerson_NoEntry | q_kx_NoPerson_Full | q_kx_NoPerson_NoPerson | q_kx_NoPerson_Twice | q_kx_NoPerson_NoFit | q_kx_Twice_NoEntry | q_kx_Twice_Full | q_kx_Twice_NoPerson | q_kx_Twice_Twice | q_kx_Twice_NoFit | q_kx_NoFit_NoEntry | q_kx_NoFit_Full | q_kx_NoFit_NoPerson | q_kx_NoFit_Twice | q_kx_NoFit_NoFit=>kit_is
